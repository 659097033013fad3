import PyProof.Rows.All
import Wide.All
import OpenK.AllK
import Wide.FinOn
import Lean
import PyProof.EqAt
import PyProof.EqKinds
import PyProof.TupleCall
import PyProof.P3In
import KE.KDictLaws
import KE.KTabLook
import KE.KRevIter
import KE.KItemsList
import PyProof.TupleOfGen
import KE.KSortTup
import KE.KDictSum
import KE.KEqDict
import PyProof.EnumMake
import PyProof.EnumFor
import PyProof.EnumStmt
import PyProof.AttrMissHeap
import KE.KDictOf
import PyProof.Rows.SortShell
import KE.KDictList
import PyProof.Rows.StrJoinRep
import PyProof.NeKinds
import PySem.Challenge.RW_rootstamp_k63_whole_heads_of_one_row
set_option Elab.async false
set_option linter.all false
set_option maxRecDepth 100000
set_option maxHeartbeats 4000000
open Array renaming getElem?_eq_some_iff->Nz,getElem?_eq_getElem->NF,length_toList->NQ,getElem?_eq_none->PD,getElem?_setIfInBounds_ne->QX,forIn_toList->SK,append_assoc->SL,all_eq_true->SY,toList->UE
open Bool renaming and_eq_true_iff->Lv,false_ne_true->LQ,and_eq_true->Ms,false_eq_true->ND,eq_iff_iff->Pe,or_true->Sk,or_false->UD
open Classical renaming byContradiction->Pc
open False renaming elim->Mu
open ForInStep renaming yield->SD
open Int renaming eq_ofNat_of_zero_le->Mw,toNat_natCast->Nu,ofNat_sub->NE,emod_lt_of_pos->Ob,natCast_add->OE,emod_nonneg->OF,mul_nonneg->UB,mul_le_mul->UC
open LawfulBEq renaming eq_of_beq->TU
open LawfulMonad renaming pure_bind->TR
open List renaming getElem?_eq_getElem->Gt,length_map->Ll,length_append->Lm,getElem?_eq_some_iff->Lq,length_take->Ls,mem_of_getElem?->Lu,size_toArray->Lw,length_drop->Lz,mem_cons->LG,getD_eq_getElem?_getD->LJ,mem_singleton->LK,map_append->LL,getElem?_map->LO,length_cons->LU,mem_cons_of_mem->Mc,map_cons->Md,getElem?_append_left->Me,getElem?_append_right->Mf,eq_nil_of_length_eq_zero->Ml,mem_cons_self->Mm,mem_append_right->Mp,mem_append->Mr,mem_of_mem_take->Mv,getElem?_take_of_lt->ME,not_mem_nil->MF,append_nil->MJ,append_assoc->MK,filterMap_cons->MN,mem_map->MO,getElem?_eq_none->MP,nodup_cons->MS,lookup->Na,getElem_mem->Nk,all_eq_true->Nl,of_mem_zip->Nv,lookup_cons->NB,getElem?_reverse->NC,take_take->NH,all_cons->NS,take_length->NW,reverse_cons->Og,mem_of_mem_drop->Oh,getElem?_of_mem->Oi,length_reverse->Oo,map_map->Ou,forIn_cons->OB,find?_cons->OC,take_add_one->OJ,zip->OO,mem_iff_getElem?->OP,mem_append_left->OV,length_dropLast->OW,forIn_nil->Po,drop_eq_getElem_cons->Pq,sum_cons->Px,length_tail->PB,append_inj'->PC,getElem?_set_self->PL,length_zip->PX,length_replicate->PY,range->Qd,getElem?_set_ne->Qi,mem_range->Ql,drop_zero->Qm,drop_take->Qn,length->Qr,getElem?_take->QP,contains_cons->QQ,map_nil->Ri,replicate->RC,mem_of_find?_eq_some->RD,drop_drop->RE,map_take->RO,getElem?_replicate->RP,getElem?_cons_zero->RQ,getElem?_cons_succ->RS,any_cons->RT,take_of_length_le->Sa,append_eq_nil_iff->Sb,take_append_drop->Sh,lookup_cons_self->Si,length_singleton->Sj,reverse_reverse->Sz,mem_of_mem_tail->SA,mem_iff_getElem->SC,singleton_inj->SV,mem_filterMap->SW,getElem?_drop->SX,take_sublist->Tf,find?_append->Tg,ext_getElem?->Th,zipIdx_cons->TK,mem_reverse->TL,getElem_inj->TN,drop_length->TQ,zipIdx_nil->Uh,mem_filter->Ui,length_nil->Uj,take_zero->Us,map_drop->UA
open List.Pairwise renaming nil->Rz,of_map->Vf
open List.cons renaming inj->MX
open Nat renaming le_refl->gV,ne_of_lt->LH,lt_of_lt_of_le->LN,le_trans->Mi,zero_le->Mj,lt_of_le_of_lt->MM,min_eq_left->MT,lt_irrefl->Nc,le_of_lt->Ng,ne_of_gt->Nr,le_succ->NJ,lt_succ_self->On,sub_self->Ow,lt_or_ge->Ox,le_of_eq->OR,le_add_right->OU,min_le_right->PJ,sub_zero->Qc,log2->Qh,log2_lt->Qz,lt_trichotomy->Rh,isDigit_of_mem_toDigits->Ry,succ_le_succ->Ue,log2_self_le->Ug,min_le_left->Ur
open Ne renaming symm->Mh
open Option renaming isSome_iff_exists->Mg,map_some->OZ,map_eq_some_iff->RK,isSome_map->SJ,getD_some->SS,getD_none->SU
open Option.some renaming inj->LR
open Or renaming inr->TJ
open Prod renaming ext->Uz
open PyProof.Rows renaming callWith_type1->MA,slot_tuple_getitem->MI,boot_isinstance->Np,AllBare->Qb,boot_tuple->QN,recsOf->Rq,IsTup->RZ,subscriptTail_builtinR->Td,entry_tuple_getitem->Up,IntsAre->Uq,args_tuple_getitem->Uy
open PyProof.Rows.IsTup renaming new->TF
open PySem renaming wpAny_bind->ah,Value->tx,Shared->If,wpAny_pure->Lo,FuncData->LI,Program->LV,wpAny_mono->Ma,boot_len->Mn,Around->Mq,wpAny_field->Mt,World->Mx,wpAny_Call_Name_kw->MB,wpAny_callSpecial?_slot->MG,wpAny_loadPart_at->MH,wpAny_call_entry->ML,wpAny_newObj_type->MQ,builtinLookup_eq_fast->MR,wpAny_setField_rec->MV,mem_of_lookup->MY,wpAny_holding->Ni,wpAny_seqItems->Nx,sizeLine_eq->NA,NameKind->NR,wpAny_truthy_bool->NT,wpAny_specialOf->NU,typeLookup_type->NV,codeAny_mono->NY,wpAny_isSubtype_exc->NZ,wpAny_passesOwn->Oj,strLen_append->Ol,isSubtype_type->Oy,wpAny_standAt->OK,tupleKind_room_in1->OL,Builtin->ON,wpAny_of_eq->OT,IsPair->Pb,wpAny_newFunctionEnv->Ph,wpAny_attempt->Pl,wpAny_updateSeq->Pr,wpAny_execs_nil->Ps,wpAny_comprehension_free->PM,wpAny_assign_Name->PN,atKey_none_of_get->PP,ExceptHandler->Qa,wpAny_isInstance->Qe,wpAny_execs_cons->Qf,Result->Qg,wpAny_typeOf->Qs,wpAny_loadPart'->Qt,codeAny_call_function->Qu,wpAny_rule->QB,wpAny_call->QC,ZipApart->QD,GenState->QK,codeAny_call_builtin->QR,wpAny_loadPart->QY,Within->QZ,wpAny_letGo->Rc,plainId_quiet->Rk,wpAny_pyIter_list->Rr,plainObj_wpAny_Assign_Attribute->Rt,PlainAttrs->Rv,IsPart->RA,wpAny_lookBehind->RF,pastItsLine_dict->RG,noFill_tuple_add->RH,ofString_length->RV,codeAny_builtin->RW,wpAny_newFunctionEnv_cells->Sd,wpAny_setField->Sl,wpAny_onRaise->SM,seq_tuple_add->SN,call->SO,BindsTo->SR,wpAny_nextOf_list_item->SZ,codeAny_compStart_list->Ta,wpAny_nsSet1->Tj,wpAny_notOrdered_dict->Tl,wpAny_nextOf_list_end->Tn,seqIndex_neg->To,exec_Assign_Name_used->Tp,concat_meets->Tq,codeAny_func->Tr,call_meetsIn->Ts,PyData->Tw,PassesOwn->Tx,Model->TB,CmpOp->TD,wpAny_updateSeq_pair->TV,wpAny_pyIter_revIter->TX,storedH_new->Uk,seqIndex_of->Ul,kt_meets_setdefault->Um,wpAny_pyIter_tuple->Ut,call_reversed_list->Uu,IntMulOk->Uw,wpAny_sequenceKey->UF,wpAny_pyIter_slot->UG,wpAny_dictEntries->UH,wpAny_Return_some->UI,wpAny_Name->UJ,typeIs_str->UK,call_meets->UL,IsZip->UR
open PySem.Around renaming under->RN,under_plainId->RX,frames_deeper->RY
open PySem.Builtin.Dict renaming keyAndDefault->Qy
open PySem.Builtin.Int renaming intBits->Nn
open PySem.Builtin.List renaming listExtendWith->Mz,listSameRef->Of,listItems->Om,listLengthHint->Qq,listUpdate->Ra
open PySem.Builtin.Range renaming rangeSize->Ve
open PySem.Builtin.Slice renaming slicePlaces->Oa,sliceAdjust->OQ,sliceApplied->Qp,slicePartIndex->Vc,sliceFields->Vd
open PySem.Builtin.SmallTypes renaming ownedTupleIsFree->Mo,nextOf->MD,ownedTupleHandOut->Pg
open PySem.Builtin.Tuple renaming tupleExact->Od,tupleItemsOf->Qo,tupleIsExact->Vb
open PySem.Calls renaming Name_function_global->Pf,spliced_cons->Qx,spliced_nil->QV,loadGlobal_global->RJ,callWith_builtin->RM
open PySem.Code renaming quiet_builtin->QL,isFrame->Sg
open PySem.Data renaming fields->SI
open PySem.EntryCells renaming newEntry->RB
open PySem.EqMixed renaming ne_str_int->UT,ne_str_bool->UU,ne_int_str->UV,ne_bool_str->UW,eq_str_int->UX,eq_str_bool->UY,eq_int_str->UZ,eq_bool_str->Va
open PySem.F renaming slot_list_append->LS,type_list_append->LW,plainAttrs_list->Mb,plain_extend_loop->Nf,slot_dict_setdefault->Nm,args_dict_setdefault_3->NM,entry_dict_setdefault->NP,slot_zip_next->OH,excBase_ValueError->Pd,args_tuple_add_2->Pm,entry_tuple_add->Pu,slot_tuple_add->Pw,typeOf_object_class->Qk,entry_extend_loop->Rl,args_zip_next_1->Rm,slot_str_ascii_iterator_iter->Rp,entry_zip_next->Rx,slot_tuple_iterator_next->RL,args_list_init_2->Sf,typeCall_list_1->Sv,slot_gs_get->Sw,entry_list_init->Sy,slot_tuple_eq_refl->Tb,excAttr_ValueError->Tc,called_list->TC,slot_dict_len->US
open PySem.Heap renaming get?_push_of_some->cW,lt_size->Lt,get?_push_size->Ly,get?_update_self->My,get?_update_other->MC,SameBut->Nd,size_push->NG,size_update->Rj,get?_none_of_le->Ss,get?_update_ne->SG,ExtBut->SH
open PySem.Heap.IsSliceOf renaming new->Ux
open PySem.Heap.Ns1 renaming of_empty->Se
open PySem.Heap.SameBut renaming update->OI
open PySem.NameKind renaming free->Ny,cell->Pn
open PySem.NumText renaming digitsVal->UQ
open PySem.Obj renaming mapSeq->Nb,data_mapFields->OD,mapFields->Pz,isFreed_of_fields->PZ,data_mapDictKeys->SE,cls_mapFields->Tz
open PySem.PassesOwn renaming never->MZ
open PySem.PyData renaming depthAll->NK,strOk->PF,canLayAll0->QG,eqvAll->Ud,str->UP
open PySem.SeqAt.EqAt renaming int_int->Qj,str_int->Rf,int_str->Rg,str_str->Uc
open PySem.Shared renaming heap->Uv
open PySem.Str renaming ofString->MU,empty->Nw,empty_append->Ua,append_empty->Ub
open PySem.Value renaming ref->LF,bool->Nq,none->NL,str->OM,type->OX,int->Qv,builtin->Qw,float->Sr,isStrOf->Uo,isInt->UN,bytes->UO
open PySem.Value.type renaming inj->Sq
open PySem.W renaming Frag->pv,findIn->LP,mg_none_of->Nj,mroIn->Nt,kitOne->NI,nsIn->NN,mg_of->NO,CodeHd->NX,isFn->Oc,kia_one->Ot,keepIn->Ov,hasDictIn->Oz,emptyDict->OA,fnOf->OG,hideAll_none->OS,tabIn->Pa,plainGet->Pj,instObj->Py,plainOver->PQ,plainGet_of->PR,hideAll_get->PU,envX->PV,looks_findIn->QF,excIn->QU,makesIn->Re,callWith_K->Ro,cellsFrom_some->Ru,methodCall_KW->RI,tabObj->Sm,noTabs->Sn,callWith_K0->So,of_hideAll->SQ,methodObj->Tt,lookIn->TY,codeIn->TZ,takerIn->UM
open PySem.W.KIN renaming signs_num->Tu
open PySem.Within renaming cons->Rn
open Sum renaming inl->Oe,inr->Oq
open Sum.inl renaming inj->Rb
open Sum.inr renaming inj->RU
open True renaming intro->Nh
namespace L2
open PySem PySem.Spec PyProof.Rows
abbrev Key:=Sum Int Str
def kR:Key->tx->Bool
 |.inl k,v=>UN k v
 |.inr x,v=>Uo x v
def KJ (w:Mx):Key->Int
 |.inl k=>hashInt k
 |.inr x=>hashStr w x
theorem cJ:∀{k:Key}{v:tx},kR k v=true->(∃i t,k=Oe i/\v=Qv i t)\/(∃x t,k=Oq x/\v=OM x t)
 |.inl i,v,h=>by
  obtain⟨t,e⟩:=Value.isInt_shape (k:=i) (v:=v) h
  exact .inl ⟨i,t,rfl,e⟩
 |.inr x,v,h=>by
  obtain⟨t,e⟩:=Value.isStrOf_shape (x:=x) (v:=v) h
  exact .inr ⟨x,t,rfl,e⟩
theorem vv (i:Int)(t:Tok):kR (.inl i) (.int i t)=true:=by simp[kR,UN]
theorem wk (x:Str)(t:Tok):kR (.inr x) (.str x t)=true:=by simp[kR,Uo]
theorem EA (a b:Int):decide ((Oe a:Key)=Oe b)=(a==b):=by
 by_cases e:a=b
 ·subst e;simp
 ·have h:¬(Oe a:Key)=Oe b:=fun q=>e (Rb q)
  rw[decide_eq_false h]
  exact(beq_eq_false_iff_ne.mpr e).symm
theorem Cs (a b:Str):decide ((Oq a:Key)=Oq b)=decide (a=b):=by
 by_cases e:a=b
 ·subst e;simp
 ·have h:¬(Oq a:Key)=Oq b:=fun q=>e (RU q)
  rw[decide_eq_false h,decide_eq_false e]
theorem CI (a:Int)(b:Str):decide ((Oe a:Key)=Oq b)=false:=decide_eq_false (fun q=>nomatch q)
theorem CA (a:Str)(b:Int):decide ((Oq a:Key)=Oe b)=false:=decide_eq_false (fun q=>nomatch q)
def cB (prog:LV)(w:Mx):PySem.KeyKind prog w Key where
 is:=kR
 hash:=KJ w
 inj:=fun v a b ha hb=>by
  rcases cJ ha with⟨i,t,rfl,rfl⟩|⟨x,t,rfl,rfl⟩
  ·rcases cJ hb with⟨j,u,rfl,e⟩|⟨y,u,rfl,e⟩
   ·injection e with e1 _;rw[e1]
   ·exact nomatch e
  ·rcases cJ hb with⟨j,u,rfl,e⟩|⟨y,u,rfl,e⟩
   ·exact nomatch e
   ·injection e with e1 _;rw[e1]
 byValue:=fun k v h=>by
  rcases cJ h with⟨i,t,rfl,rfl⟩|⟨x,t,rfl,rfl⟩<;>rfl
 pyHash:=fun hv h=>by
  rcases cJ hv with⟨i,t,rfl,rfl⟩|⟨x,t,rfl,rfl⟩
  ·exact wpAny_pyHash_int h
  ·exact wpAny_pyHash_str h
 eqBool:=fun hu hv h=>by
  rcases cJ hu with⟨i,t,rfl,rfl⟩|⟨x,t,rfl,rfl⟩
  ·rcases cJ hv with⟨j,u,rfl,rfl⟩|⟨y,u,rfl,rfl⟩
   ·rw[EA]at h;exact wpAny_eqBool_int h
   ·rw[CI]at h;exact Rg i t y u _ _ _ _ h
  ·rcases cJ hv with⟨j,u,rfl,rfl⟩|⟨y,u,rfl,rfl⟩
   ·rw[CA]at h;exact Rf x t j u _ _ _ _ h
   ·rw[Cs]at h;exact wpAny_eqBool_str h
 «strs»:=fun k x t v h=>by
  rcases cJ h with⟨i,u,rfl,e⟩|⟨y,u,rfl,e⟩
  ·exact nomatch e
  ·injection e with e1 _
   subst e1
   cases v<;>rfl
theorem rT (prog:LV)(w:Mx)(i:Int)(t:Tok):(cB prog w).is (.inl i) (.int i t)=true:=vv i t
theorem rY (prog:LV)(w:Mx)(x:Str)(t:Tok):(cB prog w).is (.inr x) (.str x t)=true:=wk x t
inductive V where
 |non|bl (b:Bool)|int (i:Int)|str (x:Str)|byt (b:Array UInt8)|flt (b:UInt64)|ref (a:Addr)|ty (n:String)
 deriving DecidableEq
def aX:V->tx->Prop
 |.non,u=>u=NL
 |.bl b,u=>u=Nq b
 |.int i,u=>∃t,u=Qv i t
 |.str x,u=>∃t,u=OM x t
 |.byt b,u=>∃t,u=UO b t
 |.flt b,u=>∃t,u=Sr b t
 |.ref a,u=>u=LF a
 |.ty n,u=>u=OX n
abbrev aY:List V->List tx->Prop:=Paired aX
theorem aY.length {xs:List V}{us:List tx}(r:aY xs us):xs.length=us.length:=Paired.length r
theorem aY.get:∀{xs:List V}{us:List tx}{i:Nat}{x:V},aY xs us->xs[i]? =some x->∃u,us[i]? =some u/\aX x u
 |_,_,_,_,.nil,e=>by simp at e
 |_,_,0,_,.cons r _,e=>by simp at e;subst e;exact⟨_,rfl,r⟩
 |_,_,i+1,x,.cons _ t,e=>by
  obtain⟨u,h1,h2⟩:=aY.get (i:=i) (x:=x) t (by simpa using e)
  exact⟨u,by simpa using h1,h2⟩
theorem aY.set {x:V}{u:tx}(r:aX x u):∀{xs:List V}{us:List tx}(i:Nat),aY xs us->aY (xs.set i x) (us.set i u)
 |_,_,_,.nil=>.nil
 |_,_,0,.cons _ t=>.cons r t
 |_,_,i+1,.cons q t=>.cons q (aY.set r i t)
theorem aY.append:∀{xs ys:List V}{us ws:List tx},aY xs us->aY ys ws->aY (xs++ys) (us++ws)
 |_,_,_,_,.nil,s=>s
 |_,_,_,_,.cons r t,s=>.cons r (aY.append t s)
theorem aY.take:∀{xs:List V}{us:List tx}(n:Nat),aY xs us->aY (xs.take n) (us.take n)
 |_,_,0,_=>.nil
 |_,_,_+1,.nil=>.nil
 |_,_,n+1,.cons r t=>.cons r (aY.take n t)
theorem aY.drop:∀{xs:List V}{us:List tx}(n:Nat),aY xs us->aY (xs.drop n) (us.drop n)
 |_,_,0,r=>r
 |_,_,_+1,.nil=>.nil
 |_,_,n+1,.cons _ t=>aY.drop n t
def cU:Option V->Option tx->Prop
 |some v,some u=>aX v u
 |none,none=>True
 |_,_=>False
def KV {κ:Type}:List (κ×V)->List (κ×tx)->Prop:=Paired fun(p:κ×V)(q:κ×tx)=>p.1=q.1/\aX p.2 q.2
def kV:Key->V
 |.inl i=>.int i
 |.inr x=>.str x
inductive HO where
 |lst (xs:List V)
 |tup (xs:List V)
 |dK (kvs:List (Key×V))|dT (kvs:List (List Key×V))
 |set (S:Int->Bool) (n:Nat)
 |ins (C dx:Addr) (fs:List (Str×V))
 |own (x:Addr)
 |xd (fs:List (Str×V))
 |met (f x:Addr)
 |rng (lo hi:Int)
 |frz (o:Obj) (u:HO)
 |tbl (ps:Array tx)
 |ext (φ:Heap->Prop)
abbrev Hp:=Addr->Option HO
def upd (H:Hp)(a:Addr)(o:HO):Hp:=fun b=>if b=a then some o else H b
theorem ak {H:Hp}{a:Addr}{o:HO}:upd H a o a=some o:=by unfold upd;rw[if_pos rfl]
theorem ao {H:Hp}{a b:Addr}{o:HO}(h:b≠a):upd H a o b=H b:=by unfold upd;rw[if_neg h]
theorem fO {H:Hp}{a:Addr}{o u:HO}:upd (upd H a o) a u=upd H a u:=by
 funext b;unfold upd;split<;>rfl
theorem aU {H:Hp}{a b:Addr}{o u:HO}(h:H a=some o)(h':H b=some u)(d:o≠u):a≠b:=by
 intro e;subst e;rw[h]at h';exact d (LR h')
theorem ax {H:Hp}{a b:Addr}{o:HO}(h:H a=some o)(h':H b=none):a≠b:=by
 intro e;subst e;rw[h]at h';cases h'
section
variable (P:LV)(w:Mx)
def bg (H:Hp)(h:Heap)(a:Addr):HO->Prop
 |.lst xs=>xs.length<=sizeLine/\∃(its:List tx)(n:Nat),aY xs its/\h.get? a=some {cls:=.type "list",data:=.seq its.toArray n}
 |.tup xs=>xs.length<=sizeLine/\∃its:List tx,aY xs its/\RZ h a its.toArray
 |.dK kvs=>kvs.length<=sizeLine/\(a==sysModules)=false/\∃vs,KV kvs vs/\h.DictOf (cB P w) a vs
 |.dT kvs=>kvs.length<=sizeLine/\(a==sysModules)=false/\∃xs:List (List Key×Addr×tx),
  Paired (fun(p:List Key×V)(q:List Key×Addr×tx)=>p.1=q.1/\H q.2.1=some (.tup (p.1.map kV))/\aX p.2 q.2.2) kvs xs/\
  ∃o es ep,h.get? a=some o/\o.ExactDict/\o.data=.dict es ep/\es.toList=xs.map (entryOfKey (tupleKind (cB P w)))/\(xs.map (·.1)).Nodup
 |.set S n=>h.SetOf (intKind P w) a S n
 |.ins C dx fs=>H dx=some (.own a)/\fs.length<=1000/\dx≠a/\h.get? a=some (Py C dx)/\
  ∃mA,h.Ns1 dx mA/\(∀f,cU (fs.lookup f) (mA f))/\QZ mA (fs.map (·.1))
 |.own _=>∃o,h.get? a=some o
 |.xd fs=>∃mA,h.Ns1 a mA/\∀f,cU (fs.lookup f) (mA f)
 |.rng lo hi=>∃t u v,h.get? a=some {cls:=.type "range",data:=.fields #[.int lo t,.int hi u,.int 1 v]}
 |.frz o u=>h.get? a=some o/\bg H h a u
 |.tbl ps=>h.get? a=some {cls:=.none,data:=.fields ps}
 |.met f x=>h.get? a=some (Tt (.ref f) (.ref x))
 |.ext φ=>φ h/\(∃o,h.get? a=some o)/\∀h1 h2:Heap,φ h1->(∀o,h1.get? a=some o->h2.get? a=some o)->φ h2
def HOk (H:Hp)(h:Heap):Prop:=∀a o,H a=some o->bg P w H h a o
end
section
variable {P:LV}{w:Mx}{H H':Hp}{h h':Heap}{a:Addr}{o:HO}
theorem bg.lt (x:bg P w H h a o):a<h.objs.size:=by
 cases o with
 |lst xs=>obtain⟨_,_,_,_,e⟩:=x;exact Lt e
 |tup xs=>obtain⟨_,_,_,p⟩:=x;exact p.lt
 |dK kvs=>obtain⟨_,_,_,_,o,_,_,e,_⟩:=x;exact Lt e
 |dT kvs=>obtain⟨_,_,_,_,o,_,_,e,_⟩:=x;exact Lt e
 |set S n=>obtain⟨o,_,_,_,e,_⟩:=x;exact Lt e
 |ins C dx fs=>obtain⟨_,_,_,e,_⟩:=x;exact Lt e
 |own y=>obtain⟨_,e⟩:=x;exact Lt e
 |xd fs=>obtain⟨_,⟨_,_,_,e,_⟩,_⟩:=x;exact Lt e
 |rng lo hi=>obtain⟨_,_,_,e⟩:=x;exact Lt e
 |frz ob u=>obtain⟨e,_⟩:=x;exact Lt e
 |tbl ps=>exact Lt (show h.get? a=some _ from x)
 |met f y=>exact Lt (show h.get? a=some _ from x)
 |ext φ=>obtain⟨_,⟨_,e⟩,_⟩:=x;exact Lt e
theorem Paired.mapP {α β:Type}{F G:α->β->Prop}:∀{l₁:List α}{l₂:List β},Paired F l₁ l₂->(∀a b,F a b->G a b)->Paired G l₁ l₂
 |_,_,.nil,_=>.nil
 |_,_,.cons r t,f=>.cons (f _ _ r) (Paired.mapP t f)
theorem bg.stay (x:bg P w H h a o)(k:∀b u,(b=a\/H b=some (.own a))->h.get? b=some u->h'.get? b=some u)
  (ho:∀b,H b=some (.own a)->H' b=some (.own a))(ht:∀b xs,H b=some (.tup xs)->H' b=some (.tup xs)):bg P w H' h' a o:=by
 induction o with
 |lst xs=>obtain⟨z,its,n,r,e⟩:=x;exact⟨z,its,n,r,k _ _ (.inl rfl) e⟩
 |tup xs=>obtain⟨z,its,r,ob,e,c⟩:=x;exact⟨z,its,r,ob,k _ _ (.inl rfl) e,c⟩
 |dK kvs=>obtain⟨z,y,vs,r,ob,es,ep,e,c⟩:=x;exact⟨z,y,vs,r,ob,es,ep,k _ _ (.inl rfl) e,c⟩
 |dT kvs=>
  obtain⟨z,y,xs,r,ob,es,ep,e,c⟩:=x
  exact⟨z,y,xs,Paired.mapP r fun p q z=>⟨z.1,ht _ _ z.2.1,z.2.2⟩,ob,es,ep,k _ _ (.inl rfl) e,c⟩
 |set S n=>obtain⟨ob,es,ep,t,e,c⟩:=x;exact⟨ob,es,ep,t,k _ _ (.inl rfl) e,c⟩
 |ins C dx fs=>
  obtain⟨d,z,ne,e,mA,⟨od,es,ep,e2,c⟩,r⟩:=x
  exact⟨ho _ d,z,ne,k _ _ (.inl rfl) e,mA,⟨od,es,ep,k _ _ (.inr d) e2,c⟩,r⟩
 |own y=>obtain⟨ob,e⟩:=x;exact⟨ob,k _ _ (.inl rfl) e⟩
 |xd fs=>obtain⟨mA,⟨od,es,ep,e,c⟩,r⟩:=x;exact⟨mA,⟨od,es,ep,k _ _ (.inl rfl) e,c⟩,r⟩
 |rng lo hi=>obtain⟨t,u,v,e⟩:=x;exact⟨t,u,v,k _ _ (.inl rfl) e⟩
 |frz ob u ih=>obtain⟨e,q⟩:=x;exact⟨k _ _ (.inl rfl) e,ih q⟩
 |tbl ps=>
  have e:h.get? a=some {cls:=.none,data:=.fields ps}:=x
  show h'.get? a=some {cls:=.none,data:=.fields ps}
  exact k a _ (.inl rfl) e
 |met f y=>
  have e:h.get? a=some (Tt (.ref f) (.ref y)):=x
  show h'.get? a=some (Tt (.ref f) (.ref y))
  exact k a _ (.inl rfl) e
 |ext φ=>obtain⟨p,⟨o,e⟩,st⟩:=x;exact⟨st _ _ p fun o q=>k _ _ (.inl rfl) q,⟨o,k _ _ (.inl rfl) e⟩,st⟩
theorem HOk.lt (x:HOk P w H h)(e:H a=some o):a<h.objs.size:=(x a o e).lt
theorem HOk.fresh (x:HOk P w H h)(e:h.objs.size<=a):H a=none:=by
 cases q:H a with
 |none=>rfl
 |some u=>exact absurd (LN (x.lt q) e) (Nc _)
theorem HOk.kept (x:HOk P w H h)(k:∀b u,h.get? b=some u->h'.get? b=some u):HOk P w H h':=fun a o e=>
 (x a o e).stay (fun b u _ q=>k b u q) (fun _ q=>q) fun _ _ q=>q
theorem HOk.laid (x:HOk P w H h)(k:∀b u,h.get? b=some u->h'.get? b=some u)(hp:h.objs.size<=a)(new:bg P w (upd H a o) h' a o):HOk P w (upd H a o) h':=fun b u e=>by
 have hn:=x.fresh hp
 by_cases hb:b=a
 ·subst hb;rw[ak]at e;cases e;exact new
 ·rw[ao hb]at e
  exact(x b u e).stay (fun c v _ q=>k c v q) (fun c q=>by rw[ao (ax q hn)];exact q) fun c xs q=>by rw[ao (ax q hn)];exact q
end
def Rd (H:Hp)(a:Addr)(u:HO):Prop:=H a=some u\/∃o,H a=some (.frz o u)
theorem Rd.ok {P:LV}{w:Mx}{H:Hp}{h:Heap}{a:Addr}{u:HO}(r:Rd H a u)(x:HOk P w H h):bg P w H h a u:=by
 rcases r with r|⟨o,r⟩
 ·exact x a u r
 ·obtain⟨_,q⟩:=x a _ r
  exact q
def Mut:Option HO->Prop
 |some (.lst _)=>True
 |some (.dK _)=>True
 |some (.dT _)=>True
 |some (.set _ _)=>True
 |some (.ins _ _ _)=>True
 |some (.ext _)=>True
 |_=>False
section
variable {P:LV}{w:Mx}{H:Hp}{h h':Heap}{x e:Addr}{o':HO}
theorem HOk.write (ok:HOk P w H h)(mu:Mut (H x))(he:e=x\/H e=some (.own x))(k:∀b u,b≠e->h.get? b=some u->h'.get? b=some u)(heo:∃u,h'.get? e=some u)
  (new:bg P w (upd H x o') h' x o'):HOk P w (upd H x o') h':=fun b u q=>by
 have nown:∀c y,H c=some (.own y)->c≠x:=fun c y r z=>by subst z;rw[r]at mu;exact mu
 have ntup:∀c xs,H c=some (.tup xs)->c≠x:=fun c xs r z=>by subst z;rw[r]at mu;exact mu
 by_cases hb:b=x
 ·subst hb;rw[ak]at q;cases q;exact new
 ·rw[ao hb]at q
  by_cases hbe:b=e
  ·have q':H b=some (.own x):=by
    rcases he with z|z
    ·exact absurd (hbe.trans z) hb
    ·rw[hbe];exact z
   rw[q]at q';cases q'
   obtain⟨v,hv⟩:=heo
   exact⟨v,by rw[hbe];exact hv⟩
  ·refine(ok b u q).stay (fun c v hc r=>k c v ?_ r) (fun c r=>by rw[ao (nown c b r)];exact r) fun c xs r=>by rw[ao (ntup c xs r)];exact r
   rcases hc with rfl|hc
   ·exact hbe
   ·rintro rfl
    rcases he with z|z
    ·exact nown c b hc z
    ·rw[hc]at z;cases z;exact hb rfl
end
structure Un (fs ex:List Addr)(H H':Hp)(h h':Heap):Prop where
 keep:∀b o,h.get? b=some o->H b=none->b∉fs->b∉ex->h'.get? b=some o
 slot:∀b o,h.get? b=some o->H b=none->b∈fs->b∉ex->∃sl,h'.get? b=some {o with slots:=sl}
 free:∀b o,h.get? b=some o->H b=none->b∉ex->H' b=none
 there:∀b o,h.get? b=some o->b∉ex->∃o',h'.get? b=some o'
 tups:∀b xs,H b=some (.tup xs)->H' b=some (.tup xs)
 frzs:∀b o u,H b=some (.frz o u)->H' b=some (.frz o u)
 tbls:∀b ps,H b=some (.tbl ps)->∃more,H' b=some (.tbl (ps++more))
section
variable {fs fs' ex ex':List Addr}{H H1 H2:Hp}{h h1 h2 h':Heap}{a x e:Addr}{o:HO}
theorem Un.any (u:Un fs ex H H1 h h1){b:Addr}{ob:Obj}(q:h.get? b=some ob)(n:H b=none)(hx:b∉ex):∃sl,h1.get? b=some {ob with slots:=sl}:=by
 by_cases hb:b∈fs
 ·exact u.slot b ob q n hb hx
 ·exact⟨ob.slots,u.keep b ob q n hb hx⟩
theorem Un.trans (a:Un fs ex H H1 h h1)(b:Un fs ex H1 H2 h1 h2):Un fs ex H H2 h h2 where
 keep:=fun c ob q n hc hx=>b.keep c ob (a.keep c ob q n hc hx) (a.free c ob q n hx) hc hx
 slot:=fun c ob q n hc hx=>by
  obtain⟨sl,e1⟩:=a.slot c ob q n hc hx
  obtain⟨sl',e2⟩:=b.slot c _ e1 (a.free c ob q n hx) hc hx
  exact⟨sl',e2⟩
 free:=fun c ob q n hx=>by
  obtain⟨o',e1⟩:=a.there c ob q hx
  exact b.free c o' e1 (a.free c ob q n hx) hx
 there:=fun c ob q hx=>by
  obtain⟨o',e1⟩:=a.there c ob q hx
  exact b.there c o' e1 hx
 tups:=fun c xs q=>b.tups c xs (a.tups c xs q)
 frzs:=fun c ob xs q=>b.frzs c ob xs (a.frzs c ob xs q)
 tbls:=fun c ps q=>by
  obtain⟨m1,e1⟩:=a.tbls c ps q
  obtain⟨m2,e2⟩:=b.tbls c _ e1
  exact⟨m1++m2,by rw[e2,SL]⟩
theorem Un.kept (k:∀b u,h.get? b=some u->h'.get? b=some u):Un fs ex H H h h':=
 ⟨fun b ob q _ _ _=>k b ob q,fun b ob q _ _ _=>⟨ob.slots,k b ob q⟩,fun _ _ _ n _=>n,fun b ob q _=>⟨ob,k b ob q⟩,fun _ _ q=>q,fun _ _ _ q=>q,fun _ ps q=>⟨#[],by rw[q];simp⟩⟩
theorem Un.refl:Un fs ex H H h h:=Un.kept fun _ _ q=>q
theorem Un.laid (k:∀b u,h.get? b=some u->h'.get? b=some u)(hp:h.objs.size<=a)(hn:H a=none):Un fs ex H (upd H a o) h h' where
 keep:=fun b u q _ _ _=>k b u q
 slot:=fun b u q _ _ _=>⟨u.slots,k b u q⟩
 free:=fun b u q n _=>by rw[ao (LH (LN (Lt q) hp))];exact n
 there:=fun b u q _=>⟨u,k b u q⟩
 tups:=fun b xs q=>by rw[ao (ax q hn)];exact q
 frzs:=fun b u xs q=>by rw[ao (ax q hn)];exact q
 tbls:=fun b ps q=>⟨#[],by rw[ao (ax q hn),q];simp⟩
theorem Un.write (mu:Mut (H x))(he:e=x\/H e=some (.own x))(k:∀b u,b≠e->h.get? b=some u->h'.get? b=some u)(heo:∃u,h'.get? e=some u):Un fs ex H (upd H x o) h h':=by
 have hx:∀b,H b=none->b≠x:=fun b n z=>by subst z;rw[n]at mu;exact mu
 have hb:∀b,H b=none->b≠e:=fun b n z=>by
  subst z
  rcases he with r|r
  ·exact hx b n r
  ·rw[n]at r;cases r
 have hm:∀b u,H b=some u->¬Mut (some u)->b≠x:=fun b u q nm z=>by subst z;rw[q]at mu;exact nm mu
 refine⟨fun b u q n _ _=>k b u (hb b n) q,fun b u q n _ _=>⟨u.slots,k b u (hb b n) q⟩,fun b u q n _=>by rw[ao (hx b n)];exact n,fun b u q _=>?_,
  fun b xs q=>by rw[ao (hm b _ q fun z=>z)];exact q,fun b u xs q=>by rw[ao (hm b _ q fun z=>z)];exact q,fun b ps q=>⟨#[],by rw[ao (hm b _ q fun z=>z),q];simp⟩⟩
 by_cases hbe:b=e
 ·subst hbe;exact heo
 ·exact⟨u,k b u hbe q⟩
end
def trk (h:Heap)(H:Hp):List Addr:=(Qd h.objs.size).filter fun a=>(H a).isSome
def gL (h:Heap)(H:Hp):Heap:=W.hideAll h (trk h H)
theorem vZ (h:Heap)(H:Hp):(gL h H).objs.size=h.objs.size:=W.hideAll_size _ _
theorem yD {h:Heap}{H:Hp}{b:Addr}{o:Obj}(e:h.get? b=some o)(n:H b=none):(gL h H).get? b=some o:=
 PU _ e fun hm=>by
  have q:(H b).isSome=true:=(Ui.mp hm).2
  rw[n]at q;simp at q
theorem Br {h:Heap}{H:Hp}{b:Addr}{o:Obj}(e:(gL h H).get? b=some o):h.get? b=some o/\H b=none:=by
 have e':h.get? b=some o:=SQ (trk h H) e
 refine⟨e',?_⟩
 cases q:H b with
 |none=>rfl
 |some x=>
  have hm:b∈trk h H:=Ui.mpr ⟨Ql.mpr (Lt e'),by simp[q]⟩
  have z:(gL h H).get? b=none:=OS (trk h H) hm
  rw[z]at e;cases e
def AX (g h:Heap)(L:Addr):List (Addr×Obj):=(Qd h.objs.size).filterMap fun a=>if a=L\/(g.get? a).isSome=true then none else(h.get? a).map fun o=>(a,o)
def bV (g h:Heap)(L d:Addr):List (Addr×Obj):=(AX g h L).filter fun p=>decide (p.1≠d)
structure Mod (K:pv)(mg:Str->Option tx)(base:Heap):Prop where
 kin:K.In base
 glob:base.Ns mainGlobals mg
 blt:∃mb,base.Ns builtinsNs mb/\∀x:Str,x≠"__name__"->mb x=bootBuiltins x
 nolimit:base.NoLimit
set_option genInjectivity false in
set_option genSizeOf false in
structure Cx where
 prog:LV
 w:Mx
 K:pv
 mg:Str->Option tx
 base:Heap
 A:Mq
 N:List Str
 s₀:If
 H₀:Hp
 env:Env
 outer:List Env
 stack:List Env
 ex:List Addr
 fn:Str->Bool
 calm:Bool
 pn:List (Addr×Obj)
 xe:tx->If->Prop
def frs (l:List Env):List Addr:=l.filterMap (·.frame)
abbrev Cx.fs (X:Cx):List Addr:=frs X.outer
def Vis (sc:Scope)(x:Str):Prop:=sc.names.lookup x=some .local\/sc.names.lookup x=some .cell\/sc.names.lookup x=some .free
def Loc (sc:Scope)(x:Str):Prop:=sc.names.lookup x=some .local\/sc.names.lookup x=some .cell
def DK (env:Env)(h:Heap)(m:Str->Option tx)(x:Str)(u:tx):Prop:=
 (env.kindOf x=some .local/\m x=some u)\/((env.kindOf x=some .cell\/env.kindOf x=some .free)/\∃c,env.cells.lookup x=some c/\h.IsCell c (some u))
set_option genInjectivity false in
set_option genSizeOf false in
structure Cx.Ok (X:Cx):Prop where
 mod:Mod X.K X.mg X.base
 kind:X.env.scope.kind=.function
 glob:X.env.globals=mainGlobals
 blt:X.env.builtins=builtinsNs
 above:X.s₀.heap.objs.size<=X.env.locals
 inj:∀x y c,X.env.cells.lookup x=some c->X.env.cells.lookup y=some c->x=y
 has:∀x,(X.env.kindOf x=some .cell\/X.env.kindOf x=some .free)->∃c,X.env.cells.lookup x=some c
 cab:∀x c,X.fn x=true->X.env.cells.lookup x=some c->X.s₀.heap.objs.size<=c
 hd:X.calm=true->X.A.handled=none
 frames:X.A.frames=some X.stack
 stk:X.stack=X.outer\/(X.stack=X.env::X.outer/\X.env.frame=some X.env.locals)
 exf:∀b∈X.ex,b≠X.env.locals/\∀x c,X.env.cells.lookup x=some c->c≠b
 bs:∀b o,X.base.get? b=some o->X.s₀.heap.get? b=some o/\X.H₀ b=none
 bsz:X.base.objs.size<=X.s₀.heap.objs.size
 noex:∀b o,X.base.get? b=some o->b∉X.ex
 exfs:∀b∈X.ex,b∉X.fs
 funs:X.s₀.heap.FunFrames X.base X.outer
 frf:∀b∈X.fs,X.H₀ b=none
structure Inv (X:Cx)(pins:List (Addr×Obj))(σ:List (Option V))(H:Hp)(s:If):Prop where
 ok:X.Ok
 os:s.os=X.s₀.os
 bare:Qb s.gens
 base:Un X.fs X.ex X.H₀ H X.s₀.heap s.heap
 loc:∃m,s.heap.Ns X.env.locals m/\∀(i:Nat)(x:Str)(v:V),X.N[i]?=some x->σ[i]?=some (some v)->Vis X.env.scope x->∃u,aX v u/\DK X.env s.heap m x u
 cell:∀x c,X.env.cells.lookup x=some c->∃v,s.heap.IsCell c v
 free:H X.env.locals=none
 freeC:∀x c,X.env.cells.lookup x=some c->H c=none
 pin:∀p∈X.pn++pins,s.heap.get? p.1=some p.2/\H p.1=none/\p.1≠X.env.locals/\p.1∉X.fs/\∀v,p.2.data≠.cell v
 hok:HOk X.prog X.w H s.heap
 len:σ.length=X.N.length
section
variable {X:Cx}{pins:List (Addr×Obj)}{σ:List (Option V)}{H H':Hp}{s:If}{h':Heap}
theorem Cx.Ok.nofr (ok:X.Ok){b:Addr}{o:Obj}(e:X.base.get? b=some o):b∉X.fs:=fun hb=>by
 have:=(ok.funs.mem hb).1
 rw[e]at this;cases this
theorem Inv.bs (I:Inv X pins σ H s):∀b o,X.base.get? b=some o->s.heap.get? b=some o/\H b=none:=fun b o e=>
 ⟨I.base.keep b o (I.ok.bs b o e).1 (I.ok.bs b o e).2 (I.ok.nofr e) (I.ok.noex b o e),I.base.free b o (I.ok.bs b o e).1 (I.ok.bs b o e).2 (I.ok.noex b o e)⟩
theorem Inv.bk (I:Inv X pins σ H s):∀b o,X.base.get? b=some o->s.heap.get? b=some o:=fun b o e=>(I.bs b o e).1
theorem Inv.mod (I:Inv X pins σ H s):Mod X.K X.mg X.base:=I.ok.mod
theorem Inv.kIn (I:Inv X pins σ H s):X.K.In s.heap:=I.ok.mod.kin.keeps I.bk
theorem Inv.lt (I:Inv X pins σ H s):X.env.locals<s.heap.objs.size:=let ⟨_,hn,_⟩:=I.loc;hn.lt
theorem Inv.sz (I:Inv X pins σ H s):X.s₀.heap.objs.size<=s.heap.objs.size:=Mi I.ok.above (Ng I.lt)
theorem Inv.nofs (I:Inv X pins σ H s){a:Addr}(h:s.heap.objs.size<=a):a∉X.fs:=fun hb=>by
 obtain⟨_,o,ho,_⟩:=I.ok.funs.mem hb
 exact absurd (LN (Lt ho) (Mi I.sz h)) (Nc _)
theorem Inv.cne (I:Inv X pins σ H s):∀x c,X.env.cells.lookup x=some c->c≠X.env.locals:=fun x c e z=>by
 obtain⟨v,o,ho,hd⟩:=I.cell x c e
 obtain⟨m,⟨o',es,ep,ho',hd',_⟩,_⟩:=I.loc
 rw[z,ho']at ho;cases ho;rw[hd']at hd;cases hd
theorem Inv.funs (I:Inv X pins σ H s):s.heap.FunFrames X.base X.outer:=by
 have all:∀(l:List Env),(∀b∈frs l,b∈X.fs)->X.s₀.heap.FunFrames X.base l->s.heap.FunFrames X.base l:=by
  intro l
  induction l with
  |nil=>intro _ _;trivial
  |cons env r ih=>
   intro hs hl
   obtain⟨hk,⟨L,o,hf,hn,ho,hd⟩,hr⟩:=hl
   have hL:L∈X.fs:=hs L (by unfold frs;rw[MN,hf];exact Mm)
   obtain⟨sl,e⟩:=I.base.slot L o ho (I.ok.frf L hL) hL fun z=>I.ok.exfs L z hL
   exact⟨hk,⟨L,_,hf,hn,e,hd⟩,ih (fun b hb=>hs b (by unfold frs;rw[MN,hf];exact Mc _ hb)) hr⟩
 exact all X.outer (fun _ hb=>hb) I.ok.funs
theorem Inv.stack (I:Inv X pins σ H s):s.heap.FunFrames X.base X.stack:=by
 rcases I.ok.stk with e|⟨e,hf⟩
 ·rw[e];exact I.funs
 ·rw[e]
  obtain⟨m,hn,_⟩:=I.loc
  refine .cons (by rw[I.ok.kind];decide) hf hn ?_ I.funs
  exact Ss (Mi I.ok.bsz I.ok.above)
theorem Inv.stkSub (I:Inv X pins σ H s):∀b∈frs X.stack,b∈X.env.locals::X.fs:=fun b hb=>by
 rcases I.ok.stk with e|⟨e,hf⟩
 ·rw[e]at hb;exact Mc _ hb
 ·rw[e]at hb
  unfold frs at hb
  rw[MN,hf]at hb
  exact hb
theorem Inv.stkFree (I:Inv X pins σ H s):∀b∈frs X.stack,H b=none:=fun b hb=>by
 rcases LG.mp (I.stkSub b hb)with e|hb
 ·rw[e];exact I.free
 ·obtain⟨_,o,ho,_⟩:=I.ok.funs.mem hb
  exact I.base.free b o ho (I.ok.frf b hb) fun z=>I.ok.exfs b z hb
theorem Inv.step {g':Array QK}{t':Nat}{d':Drawn}{ch:List Addr}(I:Inv X pins σ H s)
  (hch:∀b∈ch,(b∈X.ex\/X.s₀.heap.objs.size<=b)/\b≠X.env.locals/\(∀x c,X.env.cells.lookup x=some c->c≠b)/\∀p∈X.pn++pins,p.1≠b)
  (keep:∀b o,b≠X.env.locals->b∉X.fs->b∉ch->s.heap.get? b=some o->H b=none->h'.get? b=some o)
  (slot:∀b o,b≠X.env.locals->b∈X.fs->b∉ch->s.heap.get? b=some o->H b=none->∃sl,h'.get? b=some {o with slots:=sl})(free:∀b o,b∉ch->s.heap.get? b=some o->H b=none->H' b=none)
  (there:∀b o,b∉ch->s.heap.get? b=some o->∃o',h'.get? b=some o')
  (tups:∀b xs,H b=some (.tup xs)->H' b=some (.tup xs))(frzs:∀b o u,H b=some (.frz o u)->H' b=some (.frz o u))(tbls:∀b ps,H b=some (.tbl ps)->∃more,H' b=some (.tbl (ps++more)))
  (ns:∀m,s.heap.Ns X.env.locals m->h'.Ns X.env.locals m)(hok:HOk X.prog X.w H' h')(hg:Qb g'):
  Inv X pins σ H' {s with heap:=h',gens:=g',drawn:=d',toks:=t'}:=by
 have neL:∀b o,X.s₀.heap.get? b=some o->b≠X.env.locals:=fun b o e=>LH (LN (Lt e) I.ok.above)
 have neC:∀b o,X.s₀.heap.get? b=some o->b∉X.ex->b∉ch:=fun b o e hx hb=>by
  rcases(hch b hb).1 with z|z
  ·exact hx z
  ·exact absurd (LN (Lt e) z) (Nc _)
 have cellK:∀x c,X.env.cells.lookup x=some c->∀v,s.heap.IsCell c v->h'.IsCell c v:=fun x c e v ⟨o,ho,hd⟩=>by
  have nch:c∉ch:=fun z=>(hch c z).2.2.1 x c e rfl
  by_cases hc:c∈X.fs
  ·obtain⟨sl,q⟩:=slot c o (I.cne x c e) hc nch ho (I.freeC x c e)
   exact⟨_,q,hd⟩
  ·exact⟨o,keep c o (I.cne x c e) hc nch ho (I.freeC x c e),hd⟩
 refine⟨I.ok,I.os,hg,⟨fun b o e n hb hx=>?_,fun b o e n hb hx=>?_,fun b o e n hx=>?_,fun b o e hx=>?_,fun b xs e=>tups b xs (I.base.tups b xs e),fun b o xs e=>frzs b o xs (I.base.frzs b o xs e),fun b ps e=>?_⟩,?_,fun x c e=>?_,?_,fun x c e=>?_,fun p hp=>?_,hok,I.len⟩
 ·exact keep b o (neL b o e) hb (neC b o e hx) (I.base.keep b o e n hb hx) (I.base.free b o e n hx)
 ·obtain⟨sl,e1⟩:=I.base.slot b o e n hb hx
  obtain⟨sl',e2⟩:=slot b _ (neL b o e) hb (neC b o e hx) e1 (I.base.free b o e n hx)
  exact⟨sl',e2⟩
 ·obtain⟨o',e1⟩:=I.base.there b o e hx
  exact free b o' (neC b o e hx) e1 (I.base.free b o e n hx)
 ·obtain⟨o',e1⟩:=I.base.there b o e hx
  exact there b o' (neC b o e hx) e1
 ·obtain⟨m1,e1⟩:=I.base.tbls b ps e
  obtain⟨m2,e2⟩:=tbls b _ e1
  exact⟨m1++m2,by rw[e2,SL]⟩
 ·obtain⟨m,hn,hl⟩:=I.loc
  refine⟨m,ns m hn,fun i x v e1 e2 e3=>?_⟩
  obtain⟨u,r,l⟩:=hl i x v e1 e2 e3
  refine⟨u,r,?_⟩
  rcases l with l|⟨k,c,e,z⟩
  ·exact .inl l
  ·exact .inr ⟨k,c,e,cellK x c e _ z⟩
 ·obtain⟨v,z⟩:=I.cell x c e
  exact⟨v,cellK x c e v z⟩
 ·obtain⟨m,⟨o,_,_,ho,_⟩,_⟩:=I.loc
  exact free _ o (fun z=>(hch _ z).2.1 rfl) ho I.free
 ·obtain⟨v,o,ho,hd⟩:=I.cell x c e
  exact free c o (fun z=>(hch c z).2.2.1 x c e rfl) ho (I.freeC x c e)
 ·obtain⟨e,n,ne,nf,d⟩:=I.pin p hp
  have nch:p.1∉ch:=fun z=>(hch p.1 z).2.2.2 p hp rfl
  exact⟨keep p.1 p.2 ne nf nch e n,free p.1 p.2 nch e n,ne,nf,d⟩
theorem Inv.un {t':Nat}(I:Inv X pins σ H s)(u:Un X.fs [] H H' s.heap h')(hok:HOk X.prog X.w H' h'):Inv X pins σ H' {s with heap:=h',toks:=t'}:=by
 obtain⟨m,⟨o,es,ep,ho,r⟩,_⟩:=id I.loc
 obtain⟨sl,hL⟩:=u.any ho I.free (by simp)
 exact I.step (g':=s.gens) (d':=s.drawn) (ch:=[]) (fun _ z=>nomatch z) (fun b o _ hb _ e n=>u.keep b o e n hb (by simp)) (fun b o _ hb _ e n=>u.slot b o e n hb (by simp)) (fun b o _ e n=>u.free b o e n (by simp)) (fun b o _ e=>u.there b o e (by simp)) u.tups u.frzs u.tbls (fun m' hm=>by
  obtain⟨o',es',ep',ho',r'⟩:=hm
  rw[ho]at ho';cases ho'
  exact⟨_,es',ep',hL,r'⟩) hok I.bare
theorem Inv.call {g':Array QK}{t':Nat}{d':Drawn}{ch:List Addr}(I:Inv X pins σ H s)(u:Un (frs X.stack) ch H H' s.heap h')(hok:HOk X.prog X.w H' h')(hg:Qb g')
  (hch:∀b∈ch,(b∈X.ex\/X.s₀.heap.objs.size<=b)/\b≠X.env.locals/\(∀x c,X.env.cells.lookup x=some c->c≠b)/\∀p∈X.pn++pins,p.1≠b):
  Inv X pins σ H' {s with heap:=h',gens:=g',drawn:=d',toks:=t'}:=by
 obtain⟨m,⟨o,es,ep,ho,r⟩,_⟩:=id I.loc
 obtain⟨sl,hL⟩:=u.any ho I.free fun z=>(hch _ z).2.1 rfl
 exact I.step (ch:=ch) hch (fun b o hL hb hc e n=>u.keep b o e n (fun z=>(LG.mp (I.stkSub b z)).elim hL hb) hc) (fun b o _ _ hc e n=>u.any e n hc) (fun b o hc e n=>u.free b o e n hc) (fun b o hc e=>u.there b o e hc) u.tups u.frzs u.tbls (fun m' hm=>by
  obtain⟨o',es',ep',ho',r'⟩:=hm
  rw[ho]at ho';cases ho'
  exact⟨_,es',ep',hL,r'⟩) hok hg
theorem Inv.turned {t':Nat}{it:Addr}(I:Inv X pins σ H s)(k:∀b o,b≠it->s.heap.get? b=some o->h'.get? b=some o)(hn:H it=none)(hL:it≠X.env.locals)
  (h1:it∈X.ex\/X.s₀.heap.objs.size<=it)(h2:∀x c,X.env.cells.lookup x=some c->c≠it)(h3:∀p∈X.pn++pins,p.1≠it):Inv X pins σ H {s with heap:=h',toks:=t'}:=by
 have nit:∀b u,H b=some u->b≠it:=fun b u e z=>by rw[z,hn]at e;cases e
 refine I.step (g':=s.gens) (d':=s.drawn) (ch:=[it]) (fun b hb=>?_) (fun b o _ _ hc e _=>k b o (fun z=>hc (by simp[z])) e) (fun b o _ _ hc e _=>⟨o.slots,k b o (fun z=>hc (by simp[z])) e⟩) (fun _ _ _ _ n=>n)
  (fun b o hc e=>⟨o,k b o (fun z=>hc (by simp[z])) e⟩) (fun _ _ e=>e) (fun _ _ _ e=>e) (fun b ps e=>⟨#[],by rw[e];simp⟩) (fun m hm=>?_) (fun b u e=>?_) I.bare
 ·have e:b=it:=by simpa using hb
  subst e
  exact⟨h1,hL,h2,h3⟩
 ·obtain⟨o,es,ep,ho,r⟩:=hm
  exact⟨o,es,ep,k _ o (Mh hL) ho,r⟩
 ·refine(I.hok b u e).stay (fun c v hc q=>k c v ?_ q) (fun _ q=>q) fun _ _ q=>q
  rcases hc with z|z
  ·rw[z];exact nit b u e
  ·exact nit c _ z
theorem Inv.tok (I:Inv X pins σ H s)(t:Nat):Inv X pins σ H {s with toks:=t}:=I.un (h':=s.heap) (t':=t) Un.refl I.hok
theorem Inv.kept {t':Nat}(I:Inv X pins σ H s)(k:∀b u,s.heap.get? b=some u->h'.get? b=some u):Inv X pins σ H {s with heap:=h',toks:=t'}:=I.un (Un.kept k) (I.hok.kept k)
theorem Inv.laid {a:Addr}{o:HO}{t':Nat}(I:Inv X pins σ H s)(k:∀b u,s.heap.get? b=some u->h'.get? b=some u)(hp:s.heap.objs.size<=a)(new:bg X.prog X.w (upd H a o) h' a o):
 Inv X pins σ (upd H a o) {s with heap:=h',toks:=t'}:=I.un (Un.laid k hp (I.hok.fresh hp)) (I.hok.laid k hp new)
theorem Inv.write {x e:Addr}{o:HO}{t':Nat}(I:Inv X pins σ H s)(mu:Mut (H x))(he:e=x\/H e=some (.own x))(k:∀b u,b≠e->s.heap.get? b=some u->h'.get? b=some u)(heo:∃u,h'.get? e=some u)
 (new:bg X.prog X.w (upd H x o) h' x o):Inv X pins σ (upd H x o) {s with heap:=h',toks:=t'}:=I.un (Un.write mu he k heo) (I.hok.write mu he k heo new)
theorem Inv.pins_of {pins':List (Addr×Obj)}(I:Inv X pins σ H s)(h:∀p∈pins',s.heap.get? p.1=some p.2/\H p.1=none/\p.1≠X.env.locals/\p.1∉X.fs/\∀v,p.2.data≠.cell v):Inv X pins' σ H s:=
 ⟨I.ok,I.os,I.bare,I.base,I.loc,I.cell,I.free,I.freeC,fun p hp=>(Mr.mp hp).elim (fun z=>I.pin p (OV _ z)) (h p),I.hok,I.len⟩
theorem lq {N:List Str}(hN:N.Nodup){i j:Nat}{x:Str}(a:N[i]?=some x)(b:N[j]?=some x):i=j:=by
 obtain⟨h1,e1⟩:=Lq.mp a
 obtain⟨h2,e2⟩:=Lq.mp b
 exact(TN hN).mp (e1.trans e2.symm)
theorem jO {M:TB}{A:Mq}{E:tx->If->Prop}{i:Nat}{x:Str}{v:V}{u:tx}{Q:Unit->If->Prop}(I:Inv X pins σ H s)(hN:X.N.Nodup)(hi:X.N[i]?=some x)(hx:Loc X.env.scope x)(r:aX v u)
  (h:∀s',Inv X pins (σ.set i (some v)) H s'->(∃a,Nd a s.heap s'.heap/\(a=X.env.locals\/X.env.cells.lookup x=some a))->Q () s')(hf:X.fn x=true\/X.env.scope.names.lookup x=some .local:=by first|exact .inl rfl|exact .inr rfl|assumption):wpAny M A (storeName X.env x u) Q E s:=by
 obtain⟨m,hn,hl⟩:=id I.loc
 have hcls:(X.env.scope.kind==.class||(X.env.scope.kind==.module&&X.env.locals !=X.env.globals))=false:=by rw[I.ok.kind];rfl
 have hiσ:i<σ.length:=by rw[I.len];exact(Lq.mp hi).1
 have cne:=I.cne
 have tracked:∀{a:Addr}{h':Heap},(∃o,s.heap.get? a=some o/\H a=none)->Nd a s.heap h'->HOk X.prog X.w H h':=fun{a h'} ha hs b ob e=>by
  obtain⟨_,_,hfree⟩:=ha
  refine(I.hok b ob e).stay (fun c w' hc q=>(hs.2 c ?_).trans q) (fun _ q=>q) fun _ _ q=>q
  rintro rfl
  rcases hc with rfl|hc
  ·rw[hfree]at e;cases e
  ·rw[hfree]at hc;cases hc
 rcases hx with hk|hk
 ·refine wpAny_storeName_local hk hn (fun h' hn' hs=>?_) hcls
  obtain⟨oL,_,_,hoL,_⟩:=id hn
  refine h _ ⟨I.ok,I.os,I.bare,⟨fun b o e n hb hx=>?_,fun b o e n hb hx=>?_,I.base.free,fun b o e hx=>?_,I.base.tups,I.base.frzs,I.base.tbls⟩,⟨_,hn',fun j y v' e1 e2 e3=>?_⟩,fun y c e=>?_,I.free,I.freeC,fun p hp=>?_,tracked ⟨oL,hoL,I.free⟩ hs,by simpa using I.len⟩ ⟨_,hs,.inl rfl⟩
  ·exact(hs.2 b (LH (LN (Lt e) I.ok.above))).trans (I.base.keep b o e n hb hx)
  ·obtain⟨sl,e1⟩:=I.base.slot b o e n hb hx
   exact⟨sl,(hs.2 b (LH (LN (Lt e) I.ok.above))).trans e1⟩
  ·obtain⟨o',e1⟩:=I.base.there b o e hx
   exact⟨o',(hs.2 b (LH (LN (Lt e) I.ok.above))).trans e1⟩
  ·by_cases hj:j=i
   ·subst hj
    rw[hi]at e1;cases e1
    rw[PL hiσ]at e2
    cases e2
    exact⟨u,r,.inl ⟨hk,by simp⟩⟩
   ·rw[Qi (Mh hj)]at e2
    obtain⟨u',r',q⟩:=hl j y v' e1 e2 e3
    refine⟨u',r',?_⟩
    rcases q with⟨k,e⟩|⟨k,c,e,z⟩
    ·refine .inl ⟨k,?_⟩
     have:y≠x:=fun e=>hj (lq hN e1 (e▸hi))
     simp[this,e]
    ·exact .inr ⟨k,c,e,z.sameBut hs (cne y c e)⟩
  ·obtain⟨w',z⟩:=I.cell y c e
   exact⟨w',z.sameBut hs (cne y c e)⟩
  ·obtain⟨e,n,ne,nf,d⟩:=I.pin p hp
   exact⟨(hs.2 p.1 ne).trans e,n,ne,nf,d⟩
 ·have hfn:X.fn x=true:=by
   rcases hf with z|z
   ·exact z
   ·rw[z]at hk;cases hk
  obtain⟨c,hc⟩:=I.ok.has x (.inl hk)
  obtain⟨w',z⟩:=I.cell x c hc
  refine wpAny_storeName_cell I.ok.kind hk hc z (fun h' hc' hs=>?_)
  obtain⟨oc,hoc,hocd⟩:=id z
  refine h {s with heap:=h'} ⟨I.ok,I.os,I.bare,⟨fun b o e n hb hx=>?_,fun b o e n hb hx=>?_,I.base.free,fun b o e hx=>?_,I.base.tups,I.base.frzs,I.base.tbls⟩,⟨m,hn.sameBut hs (Mh (cne x c hc)),fun j y v' e1 e2 e3=>?_⟩,fun y c' e=>?_,I.free,I.freeC,fun p hp=>?_,tracked ⟨oc,hoc,I.freeC x c hc⟩ hs,by simpa using I.len⟩ ⟨c,hs,.inr hc⟩
  ·exact(hs.2 b (LH (LN (Lt e) (I.ok.cab x c hfn hc)))).trans (I.base.keep b o e n hb hx)
  ·obtain⟨sl,e1⟩:=I.base.slot b o e n hb hx
   exact⟨sl,(hs.2 b (LH (LN (Lt e) (I.ok.cab x c hfn hc)))).trans e1⟩
  ·obtain⟨o',e1⟩:=I.base.there b o e hx
   exact⟨o',(hs.2 b (LH (LN (Lt e) (I.ok.cab x c hfn hc)))).trans e1⟩
  ·by_cases hj:j=i
   ·subst hj
    rw[hi]at e1;cases e1
    rw[PL hiσ]at e2
    cases e2
    exact⟨u,r,.inr ⟨.inl hk,c,hc,hc'⟩⟩
   ·rw[Qi (Mh hj)]at e2
    obtain⟨u',r',q⟩:=hl j y v' e1 e2 e3
    refine⟨u',r',?_⟩
    rcases q with q|⟨k,c',e,z'⟩
    ·exact .inl q
    ·refine .inr ⟨k,c',e,z'.sameBut hs ?_⟩
     rintro rfl
     exact hj (lq hN e1 (I.ok.inj _ _ _ e hc▸hi))
  ·by_cases hcc:c'=c
   ·subst hcc;exact⟨_,hc'⟩
   ·obtain⟨w2,z2⟩:=I.cell y c' e
    exact⟨w2,z2.sameBut hs hcc⟩
  ·obtain⟨e,n,ne,nf,d⟩:=I.pin p hp
   refine⟨(hs.2 p.1 ?_).trans e,n,ne,nf,d⟩
   intro q
   rw[q,hoc]at e
   have q':oc=p.2:=LR e
   exact d w' (by rw[<-q'];exact hocd)
theorem fW {M:TB}{A:Mq}{E:tx->If->Prop}{i:Nat}{x:Str}{v:V}{u:tx}{Q:Unit->If->Prop}(I:Inv X pins σ H s)(hN:X.N.Nodup)(hi:X.N[i]?=some x)(hx:Loc X.env.scope x)(r:aX v u)
  (h:∀s',Inv X pins (σ.set i (some v)) H s'->Q () s')(hf:X.fn x=true\/X.env.scope.names.lookup x=some .local:=by first|exact .inl rfl|exact .inr rfl|assumption):wpAny M A (storeName X.env x u) Q E s:=
 jO I hN hi hx r (fun s' I' _=>h s' I') hf
theorem Inv.call' {s':If}{ch:List Addr}(I:Inv X pins σ H s)(ho:s'.os=s.os)(u:Un (frs X.stack) ch H H' s.heap s'.heap)(hok:HOk X.prog X.w H' s'.heap)(hg:Qb s'.gens)
  (hch:∀b∈ch,(b∈X.ex\/X.s₀.heap.objs.size<=b)/\b≠X.env.locals/\(∀x c,X.env.cells.lookup x=some c->c≠b)/\∀p∈X.pn++pins,p.1≠b):Inv X pins σ H' s':=by
 obtain⟨h',g',d',t',o'⟩:=s'
 have e:o'=s.os:=ho
 subst e
 exact I.call (g':=g') (t':=t') (d':=d') u hok hg hch
end
abbrev XK:=tx->Option Addr->Hp->Prop
abbrev St:=List (Option V)
abbrev VK:=V->Hp->Prop
abbrev TE:=St->Hp->VK->Prop
abbrev TT:=St->Hp->(Bool->Hp->Prop)->Prop
abbrev TA:=St->Hp->(List V->Hp->Prop)->Prop
structure eF where
 nx:St->Hp->Prop
 rt:VK
 bk:St->Hp->Prop:=fun _ _=>False
 ct:St->Hp->Prop:=fun _ _=>False
abbrev TS:=eF->St->Hp->Prop
def EP (X:Cx)(pins:List (Addr×Obj))(σ:St)(Q:VK)(u:tx)(s':If):Prop:=∃v H',Inv X pins σ H' s'/\aX v u/\Q v H'
def TP (X:Cx)(pins:List (Addr×Obj))(σ:St)(Q:Bool->Hp->Prop)(b:Bool)(s':If):Prop:=∃H',Inv X pins σ H' s'/\Q b H'
def AP (X:Cx)(pins:List (Addr×Obj))(σ:St)(Q:List V->Hp->Prop)(us:List tx)(s':If):Prop:=∃vs H',Inv X pins σ H' s'/\aY vs us/\Q vs H'
def SP (X:Cx)(pins:List (Addr×Obj))(D:eF)(f:Flow)(s':If):Prop:=
 match f with
 |.next=>∃σ' H',Inv X pins σ' H' s'/\D.nx σ' H'
 |.brk=>∃σ' H',Inv X pins σ' H' s'/\D.bk σ' H'
 |.cont=>∃σ' H',Inv X pins σ' H' s'/\D.ct σ' H'
 |.ret u=>∃v σ' H',Inv X pins σ' H' s'/\aX v u/\D.rt v H'
def PE (X:Cx)(e:Expr)(t:TE):Prop:=
 ∀(pins:List (Addr×Obj))(s:If)(σ:St)(H:Hp)(Q:VK),Inv X pins σ H s->t σ H Q->wpAny (model X.prog X.w) X.A (eval e X.env) (EP X pins σ Q) X.xe s
def PT (X:Cx)(e:Expr)(t:TT):Prop:=
 ∀(pins:List (Addr×Obj))(s:If)(σ:St)(H:Hp)(Q:Bool->Hp->Prop),Inv X pins σ H s->t σ H Q->wpAny (model X.prog X.w) X.A (isTrue e X.env (eval e X.env)) (TP X pins σ Q) X.xe s
def PW (X:Cx)(e:Expr)(t:TT):Prop:=
 ∀(whole:Sem tx)(pins:List (Addr×Obj))(s:If)(σ:St)(H:Hp)(Q:Bool->Hp->Prop),Inv X pins σ H s->t σ H Q->wpAny (model X.prog X.w) X.A (isTrue e X.env whole) (TP X pins σ Q) X.xe s
theorem PW.pt {X:Cx}{e:Expr}{t:TT}(h:PW X e t):PT X e t:=h _
def PA (X:Cx)(es:List Expr)(t:TA):Prop:=
 ∀(pos:Pos)(pins:List (Addr×Obj))(s:If)(σ:St)(H:Hp)(Q:List V->Hp->Prop),Inv X pins σ H s->t σ H Q->wpAny (model X.prog X.w) X.A (spliced (backTo pos (starEach es X.env))) (AP X pins σ Q) X.xe s
def PS (X:Cx)(st:Stmt)(t:TS):Prop:=
 ∀(pins:List (Addr×Obj))(s:If)(σ:St)(H:Hp)(D:eF),Inv X pins σ H s->t D σ H->wpAny (model X.prog X.w) X.A (exec st X.env) (SP X pins D) X.xe s
def PSs (X:Cx)(st:List Stmt)(t:TS):Prop:=
 ∀(pins:List (Addr×Obj))(s:If)(σ:St)(H:Hp)(D:eF),Inv X pins σ H s->t D σ H->wpAny (model X.prog X.w) X.A (execs st X.env) (SP X pins D) X.xe s
theorem thn {α:Type}{t:Sem α}{Q Q':α->If->Prop}{M:TB}{A:Mq}{E:tx->If->Prop}{s:If}(h:wpAny M A t Q E s)(hQ:∀a s,Q a s->Q' a s):wpAny M A t Q' E s:=Ma h hQ fun _ _ x=>x
section
variable {X:Cx}
def Ki (i:Nat):TE:=fun σ H Q=>∃v,σ[i]?=some (some v)/\Q v H
def tC (v:V):TE:=fun _ H Q=>Q v H
theorem Cc {i:Nat}{x:Str}{pos:Pos}(hN:X.N[i]?=some x)(hv:Vis X.env.scope x)(hd:(x==("__debug__":Str))=false:=by decide)(hcd:(x==("__classdict__":Str))=false:=by decide):PE X (.Name x pos) (Ki i):=by
 intro pins s σ H Q I h
 obtain⟨v,e,h⟩:=h
 obtain⟨m,hn,hl⟩:=I.loc
 obtain⟨u,r,l⟩:=hl i x v hN e hv
 have fin:EP X pins σ Q u s:=⟨v,H,I,r,h⟩
 rcases l with⟨hk,hm⟩|⟨hk,c,hc,hcell⟩
 ·exact UJ (wpAny_loadName_local I.ok.kind hk hn hm fin) hd
 ·rcases hk with hk|hk
  ·exact UJ (wpAny_loadName_cell I.ok.kind hk hc hcell fin) hd
  ·exact UJ (wpAny_loadName_free I.ok.kind hk hc hcell fin hcd) hd
theorem BE {i j pos}:PE X (.Constant (.int i) j pos) (tC (.int i)):=fun _ _ _ H _ I h=>wpAny_Constant_int ⟨.int i,H,I.tok _,⟨_,rfl⟩,h⟩
theorem GV {b j pos}:PE X (.Constant (.bool b) j pos) (tC (.bl b)):=fun _ _ _ H _ I h=>Constant_bool ⟨.bl b,H,I,rfl,h⟩
theorem DE {j pos}:PE X (.Constant .none j pos) (tC .non):=fun _ _ _ H _ I h=>Constant_none ⟨.non,H,I,rfl,h⟩
theorem BD {x j pos}:PE X (.Constant (.str x) j pos) (tC (.str x)):=fun _ _ _ H _ I h=>Calls.Constant_str ⟨.str x,H,I.tok _,⟨_,rfl⟩,h⟩
def Gl (X:Cx)(x:Str):Prop:=X.env.kindOf x=some .globalImplicit
theorem fY {E:tx->If->Prop}{pins:List (Addr×Obj)}{s:If}{σ:St}{H:Hp}{x:Str}{u:tx}{pos:Pos}{Q:tx->If->Prop}(I:Inv X pins σ H s)(hg:Gl X x)(hm:X.mg x=some u)(h:Q u s)
  (hd:(x==("__debug__":Str))=false:=by decide):wpAny (model X.prog X.w) X.A (eval (.Name x pos) X.env) Q E s:=
 Pf I.ok.kind hg (RJ (by rw[I.ok.glob];exact I.mod.glob.keeps I.bk) hm h) hd
theorem ft {E:tx->If->Prop}{pins:List (Addr×Obj)}{s:If}{σ:St}{H:Hp}{x:Str}{u:tx}{pos:Pos}{Q:tx->If->Prop}(I:Inv X pins σ H s)(hg:Gl X x)(hm:X.mg x=none)(hv:bootBuiltins x=some u)(h:Q u s)
  (hn:x≠"__name__":=by decide)(hd:(x==("__debug__":Str))=false:=by decide):wpAny (model X.prog X.w) X.A (eval (.Name x pos) X.env) Q E s:=by
 obtain⟨mb,h1,h2⟩:=I.mod.blt
 exact Pf I.ok.kind hg (Calls.loadGlobal_builtin (by rw[I.ok.glob];exact I.mod.glob.keeps I.bk) hm (by rw[I.ok.blt];exact h1.keeps I.bk) ((h2 x hn).trans hv) h) hd
theorem Am {x:Str}{v:V}{u:tx}{pos:Pos}(hg:Gl X x)(hm:X.mg x=some u)(r:aX v u)(hd:(x==("__debug__":Str))=false:=by decide):PE X (.Name x pos) (tC v):=
 fun _ _ _ H _ I h=>fY I hg hm ⟨v,H,I,r,h⟩ hd
theorem Ak {x:Str}{v:V}{u:tx}{pos:Pos}(hg:Gl X x)(hm:X.mg x=none)(hv:bootBuiltins x=some u)(r:aX v u)(hn:x≠"__name__":=by decide)(hd:(x==("__debug__":Str))=false:=by decide):PE X (.Name x pos) (tC v):=
 fun _ _ _ H _ I h=>ft I hg hm hv ⟨v,H,I,r,h⟩ hn hd
variable {a b:Expr}{ta tb:TE}{pos:Pos}
variable {tA tB':TT}{bV:List Expr}
def eC (t:TT):TT:=fun σ H Q=>t σ H fun c H1=>Q (!c) H1
theorem Al (ha:PT X a tA):PW X (.BoolOp .And [a] pos) tA:=by
 intro wh pins s σ H Q I h
 refine isTrue_and (thn (ha pins s σ H Q I h) fun c s1 e=>?_)
 cases c with
 |true=>exact isTrue_and_nil e
 |false=>exact e
theorem Fu (ha:PT X a tA):PW X (.BoolOp .Or [a] pos) tA:=by
 intro wh pins s σ H Q I h
 refine isTrue_or (thn (ha pins s σ H Q I h) fun c s1 e=>?_)
 cases c with
 |false=>exact isTrue_or_nil e
 |true=>exact e
theorem Cw (ha:PT X a tA):PT X (.UnaryOp .Not a pos) (eC tA):=by
 intro pins s σ H Q I h
 exact isTrue_not (ha pins s σ H (fun c H1=>Q (!c) H1) I h)
theorem BG {op}{t:TE}(h:PE X a t):PE X (.BoolOp op [a] pos) t:=fun pins s σ H Q I hw=>BoolOp_one (h pins s σ H Q I hw)
end
def SqL (K:pv)(H:Hp)(a:Addr)(xs:List V):Prop:=
 Rd H a (.lst xs)\/
  ∃(o:Obj)(its:Array tx)(n:Nat),K.lookup a=some o/\o.cls=.type "list"/\o.dict=none/\o.data=.seq its n/\its.size<=sizeLine/\aY xs its.toList
def SqT (K:pv)(H:Hp)(a:Addr)(xs:List V):Prop:=
 Rd H a (.tup xs)\/
  ∃(o:Obj)(its:Array tx)(n:Nat),K.lookup a=some o/\o.cls=.type "tuple"/\o.data=.seq its n/\its.size<=sizeLine/\aY xs its.toList
def Ks:tx->Option V
 |.none=>some .non
 |.bool b=>some (.bl b)
 |.int i _=>some (.int i)
 |.str x _=>some (.str x)
 |.bytes b _=>some (.byt b)
 |.float b _=>some (.flt b)
 |.ref a=>some (.ref a)
 |.type n=>some (.ty n)
 |_=>none
theorem aX.abs {x:V}{u:tx}(r:aX x u):Ks u=some x:=by
 cases x with
 |non=>cases r;rfl
 |bl _=>cases r;rfl
 |int _=>obtain⟨t,rfl⟩:=r;rfl
 |str _=>obtain⟨t,rfl⟩:=r;rfl
 |byt _=>obtain⟨t,rfl⟩:=r;rfl
 |flt _=>obtain⟨t,rfl⟩:=r;rfl
 |ref _=>cases r;rfl
 |ty _=>cases r;rfl
theorem aX.inj {x y:V}{u:tx}(r:aX x u)(q:aX y u):x=y:=LR (r.abs.symm.trans q.abs)
theorem aY.inj:∀{xs ys:List V}{us:List tx},aY xs us->aY ys us->xs=ys
 |_,_,_,.nil,.nil=>rfl
 |_,_,_,.cons r t,.cons r' t'=>by rw[r.inj r',aY.inj t t']
section
variable {X:Cx}{pins:List (Addr×Obj)}{σ:St}{H:Hp}{s:If}{a:Addr}{xs ys:List V}
theorem SqL.of {K:pv}(h:H a=some (.lst xs)):SqL K H a xs:=.inl (.inl h)
theorem SqT.of {K:pv}(h:H a=some (.tup xs)):SqT K H a xs:=.inl (.inl h)
theorem Inv.list (I:Inv X pins σ H s)(h:SqL X.K H a xs):∃its:List tx,aY xs its/\PlainL s.heap a its.toArray/\xs.length<=sizeLine:=by
 rcases h with h|⟨o,its,n,hk,hc,hd,hs,hz,r⟩
 ·obtain⟨z,its,n,r,e⟩:=h.ok I.hok
  exact⟨its,r,⟨_,n,e,rfl,rfl,rfl⟩,z⟩
 ·refine⟨its.toList,r,⟨o,n,I.kIn a o hk,hc,hd,by simpa using hs⟩,?_⟩
  have e:=r.length
  simp only[NQ]at e
  omega
theorem Inv.tuple (I:Inv X pins σ H s)(h:SqT X.K H a xs):∃its:List tx,aY xs its/\RZ s.heap a its.toArray/\xs.length<=sizeLine:=by
 rcases h with h|⟨o,its,n,hk,hc,hs,hz,r⟩
 ·obtain⟨z,its,r,p⟩:=h.ok I.hok
  exact⟨its,r,p,z⟩
 ·refine⟨its.toList,r,⟨o,I.kIn a o hk,hc,n,by simpa using hs⟩,?_⟩
  have e:=r.length
  simp only[NQ]at e
  omega
theorem Inv.list_inj (I:Inv X pins σ H s)(h:SqL X.K H a xs)(h':SqL X.K H a ys):xs=ys:=by
 obtain⟨its,r,⟨o,n,e,_,_,d⟩,_⟩:=I.list h
 obtain⟨its',r',⟨o',n',e',_,_,d'⟩,_⟩:=I.list h'
 rw[e]at e';cases e'
 rw[d]at d'
 injection d' with d1 _
 have:its=its':=by simpa using congrArg UE d1
 subst this
 exact r.inj r'
theorem Inv.tuple_inj (I:Inv X pins σ H s)(h:SqT X.K H a xs)(h':SqT X.K H a ys):xs=ys:=by
 obtain⟨its,r,⟨o,e,_,n,d⟩,_⟩:=I.tuple h
 obtain⟨its',r',⟨o',e',_,n',d'⟩,_⟩:=I.tuple h'
 rw[e]at e';cases e'
 rw[d]at d'
 injection d' with d1 _
 have:its=its':=by simpa using congrArg UE d1
 subst this
 exact r.inj r'
end
abbrev Cx.wish (X:Cx)(E:tx->If->Prop):Cx:={X with xe:=E}
abbrev Cx.nox (X:Cx):Cx:=X.wish fun _ _=>False
theorem Cx.Ok.wish {X:Cx}(ok:X.Ok)(E:tx->If->Prop):(X.wish E).Ok:=
 ⟨ok.mod,ok.kind,ok.glob,ok.blt,ok.above,ok.inj,ok.has,ok.cab,ok.hd,ok.frames,ok.stk,ok.exf,ok.bs,ok.bsz,ok.noex,ok.exfs,ok.funs,ok.frf⟩
theorem Cx.Ok.unwish {X:Cx}{E:tx->If->Prop}(ok:(X.wish E).Ok):X.Ok:=
 ⟨ok.mod,ok.kind,ok.glob,ok.blt,ok.above,ok.inj,ok.has,ok.cab,ok.hd,ok.frames,ok.stk,ok.exf,ok.bs,ok.bsz,ok.noex,ok.exfs,ok.funs,ok.frf⟩
section
variable {X:Cx}{pins:List (Addr×Obj)}{σ:St}{H:Hp}{s:If}{E:tx->If->Prop}
theorem Inv.wish (I:Inv X pins σ H s)(E:tx->If->Prop):Inv (X.wish E) pins σ H s:=⟨I.ok.wish E,I.os,I.bare,I.base,I.loc,I.cell,I.free,I.freeC,I.pin,I.hok,I.len⟩
theorem Inv.unwish (I:Inv (X.wish E) pins σ H s):Inv X pins σ H s:=⟨I.ok.unwish,I.os,I.bare,I.base,I.loc,I.cell,I.free,I.freeC,I.pin,I.hok,I.len⟩
theorem SP.unwish {D:eF}{f:Flow}{s':If}(h:SP (X.wish E) pins D f s'):SP X pins D f s':=by
 cases f with
 |next=>obtain⟨σ',H',I,q⟩:=h;exact⟨σ',H',I.unwish,q⟩
 |brk=>obtain⟨σ',H',I,q⟩:=h;exact⟨σ',H',I.unwish,q⟩
 |cont=>obtain⟨σ',H',I,q⟩:=h;exact⟨σ',H',I.unwish,q⟩
 |ret u=>obtain⟨v,σ',H',I,r,q⟩:=h;exact⟨v,σ',H',I.unwish,r,q⟩
theorem PE.nox {e:Expr}{t:TE}(h:PE X.nox e t):PE X e t:=fun pins s σ H Q I hw=>
 Ma (h pins s σ H Q (I.wish _) hw) (fun _ _ ⟨v,H',I',r,q⟩=>⟨v,H',I'.unwish,r,q⟩) fun _ _ z=>Mu z
theorem PSs.nox {st:List Stmt}{t:TS}(h:PSs X.nox st t):PSs X st t:=fun pins s σ H D I hw=>
 Ma (h pins s σ H D (I.wish _) hw) (fun _ _ q=>q.unwish) fun _ _ z=>Mu z
end
section
variable {X:Cx}{st:Stmt}{bV:List Stmt}{t u:TS}{e:Expr}{te:TE}{pos:Pos}
def aM:TS:=fun D σ H=>D.nx σ H
def aA (t u:TS):TS:=fun D σ H=>t {D with nx:=u D} σ H
theorem AN:PSs X [] aM:=fun _ _ σ H _ I h=>Ps ⟨σ,H,I,h⟩
theorem yf (h1:PS X st t)(h2:PSs X bV u):PSs X (st::bV) (aA t u):=by
 intro pins s σ H D I h
 refine Qf (thn (h1 pins s σ H {D with nx:=u D} I h) fun f s1 q=>?_)
 cases f with
 |next=>
  obtain⟨σ',H',I',q⟩:=q
  exact h2 pins s1 σ' H' D I' q
 |ret v=>exact q
 |brk=>exact q
 |cont=>exact q
theorem Bc (h1:PS X st t):PSs X [st] t:=by
 intro pins s σ H D I h
 refine Qf (thn (h1 pins s σ H D I h) fun f s1 q=>?_)
 cases f with
 |next=>exact Ps q
 |ret v=>exact q
 |brk=>exact q
 |cont=>exact q
theorem Inv.quiet {pins:List (Addr×Obj)}{σ:St}{H:Hp}{s:If}(I:Inv X pins σ H s):interactive X.env=false:=by simp[interactive,I.ok.kind]
def bL (te:TE):TS:=fun D σ H=>te σ H fun _ H1=>D.nx σ H1
theorem Aw (he:PE X e te)(hs:swapsWith e none pos.line X.env=pure false:=by rfl):PS X (.Expr e pos) (bL te):=by
 intro pins s σ H D I h
 exact wpAny_Expr_any (thn (he pins s σ H _ I h) fun v s1 ⟨x,H1,I1,r1,q1⟩=>⟨σ,H1,I1,q1⟩) I.quiet hs
def aK (te:TE):TS:=fun D σ H=>te σ H D.rt
theorem DM (he:PE X e te):PS X (.Return (some e) pos) (aK te):=by
 intro pins s σ H D I h
 exact UI (thn (he pins s σ H _ I h) fun v s1 ⟨x,H1,I1,r1,q1⟩=>⟨x,σ,H1,I1,r1,q1⟩)
def dL:TS:=fun _ _ _=>False
theorem yd:PS X st dL:=fun _ _ _ _ _ _ h=>h.elim
end
abbrev TG:=V->St->Hp->(St->Hp->Prop)->Prop
abbrev TGs:=List V->St->Hp->(St->Hp->Prop)->Prop
def PG (X:Cx)(target:Expr)(t:TG):Prop:=
 ∀(pins:List (Addr×Obj))(s:If)(σ:St)(H:Hp)(v:V)(u:tx)(Q:St->Hp->Prop),Inv X pins σ H s->aX v u->t v σ H Q->
  wpAny (model X.prog X.w) X.A (assign target X.env u) (fun _ s'=>∃σ' H',Inv X pins σ' H' s'/\Q σ' H') X.xe s
def PGs (X:Cx)(ts:List Expr)(t:TGs):Prop:=
 ∀(pins:List (Addr×Obj))(s:If)(σ:St)(H:Hp)(vs:List V)(us:List tx)(Q:St->Hp->Prop),Inv X pins σ H s->aY vs us->t vs σ H Q->
  wpAny (model X.prog X.w) X.A (assignInOrder ((assignEach ts X.env).map (·.2)) us) (fun _ s'=>∃σ' H',Inv X pins σ' H' s'/\Q σ' H') X.xe s
abbrev yL:=V->V->V->Hp->(Hp->Prop)->Prop
def uj (X:Cx)(t:yL):Prop:=
 ∀(pins:List (Addr×Obj))(s:If)(σ:St)(H:Hp)(o i v:V)(ov iv u:tx)(Q:Hp->Prop),Inv X pins σ H s->aX o ov->aX i iv->aX v u->t o i v H Q->
  wpAny (model X.prog X.w) X.A (setItem ov iv u) (fun _ s'=>∃H',Inv X pins σ H' s'/\Q H') X.xe s
section
variable {X:Cx}{pos:Pos}
def aB (i:Nat):TG:=fun v σ H Q=>Q (σ.set i (some v)) H
theorem nN {i:Nat}{x:Str}(hN:X.N.Nodup)(hi:X.N[i]?=some x)(hx:Loc X.env.scope x)(hf:X.fn x=true\/X.env.scope.names.lookup x=some .local:=by first|exact .inl rfl|exact .inr rfl|assumption):PG X (.Name x pos) (aB i):=by
 intro pins s σ H v u Q I r h
 exact PN (fW I hN hi hx r (fun s' I'=>⟨_,H,I',h⟩) hf)
def Ed:TGs:=fun vs σ H Q=>vs=[]/\Q σ H
def sZ (t:TG)(u:TGs):TGs:=fun vs σ H Q=>∃v r,vs=v::r/\t v σ H fun σ' H'=>u r σ' H' Q
theorem Az:PGs X [] Ed:=by
 intro pins s σ H vs us Q I r h
 obtain⟨e,h⟩:=h
 subst e
 cases r
 exact assignInOrder_nil ⟨σ,H,I,h⟩
theorem rh {e:Expr}{es:List Expr}{t:TG}{u:TGs}(h1:PG X e t)(h2:PGs X es u)
  (hs:(assignEach (e::es) X.env).map (·.2)=assign e X.env::(assignEach es X.env).map (·.2):=by rfl):PGs X (e::es) (sZ t u):=by
 intro pins s σ H vs us Q I r h
 obtain⟨v,vr,e1,h⟩:=h
 subst e1
 cases r with
 |cons r rr=>
  rw[hs]
  refine assignInOrder_cons (thn (h1 pins s σ H _ _ _ I r h) fun _ s1 ⟨σ1,H1,I1,q1⟩=>?_)
  exact h2 pins s1 σ1 H1 _ _ Q I1 rr q1
def Du (K:pv)(n:Nat)(t:TGs):TG:=fun v σ H Q=>∃a xs,v=.ref a/\SqT K H a xs/\xs.length=n/\t xs σ H Q
theorem Ef {es:List Expr}{k:Nat}{t:TGs}{n:Nat}(hc:X.calm=true)(h:PGs X es t)
  (hn:(assignEach es X.env).length=n:=by rfl)(hst:(assignEach es X.env).findIdx? (·.1)=none:=by rfl):PG X (.Tuple es k pos) (Du X.K n t):=by
 intro pins s σ H v u Q I r hw
 obtain⟨a,xs,e1,hq,hl,hw⟩:=hw
 subst e1
 cases r
 obtain⟨its,rv,ht,hz⟩:=I.tuple hq
 refine assign_Tuple_tuple (I.ok.hd hc) ht (by simp[hn,<-hl,rv.length]) hst fun h' hx=>?_
 have I1:Inv X pins σ H {s with heap:=h'}:=I.kept (t':=s.toks) fun b o e=>hx b o (LH (Lt e)) e
 exact h pins _ σ H xs _ Q I1 (by simpa using rv) hw
def uz (to ti:TE)(t:yL):TG:=fun v σ H Q=>to σ H fun o H1=>ti σ H1 fun i H2=>t o i v H2 fun H3=>Q σ H3
theorem CV {o i:Expr}{to ti:TE}{t:yL}(ho:PE X o to)(hi:PE X i ti)(hs:uj X t)
  (ha:∀v,assign (.Subscript o i pos) X.env v=(do
   let ov<-holding [v] (eval o X.env)
   let iv<-holding [v,ov] (eval i X.env)
   standAt pos
   holding [v,ov,iv] (setItem ov iv v)
   release [v,ov,iv] []):=by intro _;rfl):PG X (.Subscript o i pos) (uz to ti t):=by
 intro pins s σ H v u Q I r h
 rw[ha]
 refine ah (Ni (thn (ho pins s σ H _ I h) fun ov s1 ⟨x,H1,I1,r1,q1⟩=>?_))
 refine ah (Ni (thn (hi pins s1 σ H1 _ I1 q1) fun iv s2 ⟨y,H2,I2,r2,q2⟩=>?_))
 refine ah (OK (ah (Ni (thn (hs pins s2 σ H2 x y v ov iv u _ I2 r1 r2 r q2) fun _ s3 ⟨H3,I3,q3⟩=>?_))))
 exact wpAny_release ⟨σ,H3,I3,q3⟩
def aD (te:TE)(g:TG):TS:=fun D σ H=>te σ H fun x H1=>g x σ H1 D.nx
theorem Dp {tg e:Expr}{te:TE}{g:TG}(he:PE X e te)(hg:PG X tg g)(hs:swapsWithSole [tg] e pos.line X.env=pure false:=by rfl)(hw:swappedStores [tg] e X.env=pure none:=by rfl)
  (h1:(assignEach [tg] X.env).map (·.2)=[assign tg X.env]:=by rfl):PS X (.Assign [tg] e pos) (aD te g):=by
 intro pins s σ H D I h
 refine wpAny_Assign_stores (thn (he pins s σ H _ I h) fun v s1 ⟨x,H1,I1,r1,q1⟩=>?_) hs hw
 rw[h1]
 exact thn (hg pins s1 σ H1 x v _ I1 r1 q1) fun _ s2 q=>q
theorem DY {i:Nat}{x:Str}{e:Expr}{te:TE}{pos':Pos}(hN:X.N.Nodup)(hi:X.N[i]?=some x)(hx:Loc X.env.scope x)(he:PE X e te)(hs:swapsWith e (some (.Name x pos')) pos.line X.env=pure false:=by rfl)(hf:X.fn x=true\/X.env.scope.names.lookup x=some .local:=by first|exact .inl rfl|exact .inr rfl|assumption):
  PS X (.Assign [.Name x pos'] e pos) (aD te (aB i)):=by
 intro pins s σ H D I h
 refine wpAny_Assign_Name (thn (he pins s σ H _ I h) fun v s1 ⟨y,H1,I1,r1,q1⟩=>?_) hs
 exact fW I1 hN hi hx r1 (fun s2 I2=>⟨_,H1,I2,q1⟩) hf
end
section
variable {X:Cx}{pos:Pos}
def mz (c:TT)(tb:TS):TS:=fun D σ H=>∃W:Nat->St->Hp->Prop,(∃m,W m σ H)/\∀m σ H,W m σ H->
 c σ H fun b H1=>if b=true then ∃N:St->Hp->Prop,(∀σ' H',N σ' H'->∃m',m'<m/\W m' σ' H')/\tb {D with nx:=N,ct:=N,bk:=D.nx} σ H1 else D.nx σ H1
theorem xn {c:Expr}{body:List Stmt}{tc:TT}{tb:TS}(hp:Tx (model X.prog X.w) X.A X.env X.xe)(hc:PT X c tc)(hb:PSs X body tb):PS X (.While c body [] pos) (mz tc tb):=by
 intro pins s σ H D I h
 obtain⟨W,⟨m0,w0⟩,turn⟩:=h
 refine wpAny_While (codeAny_whileLoop (fun n s'=>∃σ' H',Inv X pins σ' H' s'/\W n σ' H') ?_ m0 ⟨σ,H,I,w0⟩)
 rintro n s1 ⟨σ1,H1,I1,w1⟩
 refine Oj hp (thn (hc pins s1 σ1 H1 _ I1 (turn n σ1 H1 w1)) fun b s2 ⟨H2,I2,q2⟩=>?_)
 cases b with
 |true=>
  obtain⟨N,hN,q2⟩:=q2
  rw[if_pos rfl]
  refine Oj hp (thn (hb pins s2 σ1 H2 _ I2 q2) fun f s3 q3=>?_)
  cases f with
  |next=>
   obtain⟨σ3,H3,I3,n3⟩:=q3
   obtain⟨m',hm,w3⟩:=hN σ3 H3 n3
   exact⟨m',hm,σ3,H3,I3,w3⟩
  |cont=>
   obtain⟨σ3,H3,I3,n3⟩:=q3
   obtain⟨m',hm,w3⟩:=hN σ3 H3 n3
   exact⟨m',hm,σ3,H3,I3,w3⟩
  |brk=>exact q3
  |ret v=>exact q3
 |false=>
  rw[if_neg LQ]
  exact Ps ⟨σ1,H2,I2,q2⟩
end
structure It where
 go:Nat->Hp->Prop
 yld:Nat->Hp->V->Hp->Prop
 stop:Nat->Hp->Prop
def iF (X:Cx)(pins:List (Addr×Obj))(H:Hp)(b:Addr):Prop:=
 H b=none/\b≠X.env.locals/\b∉X.fs/\(b∈X.ex\/X.s₀.heap.objs.size<=b)/\(∀x c,X.env.cells.lookup x=some c->c≠b)/\∀p∈X.pn++pins,p.1≠b
theorem Inv.fpOk {X:Cx}{pins:List (Addr×Obj)}{σ:St}{H H':Hp}{s:If}{b:Addr}(I:Inv X pins σ H s)(hb:s.heap.objs.size<=b)(hn:H' b=none):iF X pins H' b:=by
 refine⟨hn,Nr (LN I.lt hb),I.nofs hb,.inr (Mi I.sz hb),fun x c e z=>?_,fun p hp z=>?_⟩
 ·obtain⟨v,q⟩:=I.cell x c e
  exact absurd (LN q.lt (by rw[z];exact hb)) (Nc _)
 ·exact absurd (LN (Lt (I.pin p hp).1) (by rw[z];exact hb)) (Nc _)
structure jn (P:LV)(w:Mx)(K:pv)(tg:Expr)(J:It)(fp:List Addr)(it:Addr)(tn:Nat->Heap->Prop):Prop where
 mem:it∈fp
 obj:∀i h,tn i h->∀b∈fp,∃o,h.get? b=some o/\∀v,o.data≠.cell v
 keep:∀i h h',tn i h->(∀b∈fp,∀o,h.get? b=some o->h'.get? b=some o)->tn i h'
 item:∀(X:Cx),X.prog=P->X.w=w->X.K=K->X.calm=true->∀(i:Nat)(pins:List (Addr×Obj))(s:If)(σ:St)(H:Hp)(E:tx->If->Prop),Inv X pins σ H s->(∀b∈fp,iF X pins H b)->tn i s.heap->J.go i H->
  wpAny (model P w) X.A (pyNext (.ref it)) (fun r s1=>∃u,r=some u/\
   wpAny (model P w) X.A (letOwnedTupleGo tg (.ref it) u) (fun _ s2=>∃x H',Inv X pins σ H' s2/\aX x u/\J.yld i H x H'/\tn (i+1) s2.heap/\∀b∈fp,H' b=none) E s1) E s
 done:∀(X:Cx),X.prog=P->X.w=w->X.K=K->X.calm=true->∀(i:Nat)(pins:List (Addr×Obj))(s:If)(σ:St)(H:Hp)(E:tx->If->Prop),Inv X pins σ H s->(∀b∈fp,iF X pins H b)->tn i s.heap->J.stop i H->
  wpAny (model P w) X.A (pyNext (.ref it)) (fun r s1=>r=none/\Inv X pins σ H s1) E s
 self:∀(A:Mq)(i:Nat)(s:If)(Q:tx->If->Prop)(E:tx->If->Prop),tn i s.heap->Q (.ref it) s->wpAny (model P w) A (pyIter (.ref it)) Q E s
abbrev TI:=St->Hp->(It->Hp->Prop)->Prop
def PIE (X:Cx)(pins:List (Addr×Obj))(σ:St)(tg:Expr)(R:It->Hp->Prop)(itv:tx)(s2:If):Prop:=
 ∃(it:Addr)(fp:List Addr)(tn:Nat->Heap->Prop)(J:It)(H':Hp),itv=.ref it/\Inv X pins σ H' s2/\jn X.prog X.w X.K tg J fp it tn/\tn 0 s2.heap/\(∀b∈fp,iF X pins H' b)/\R J H'
def PI (X:Cx)(tg iter:Expr)(wi:TI):Prop:=
 ∀(pins:List (Addr×Obj))(s:If)(σ:St)(H:Hp)(R:It->Hp->Prop),Inv X pins σ H s->wi σ H R->
  wpAny (model X.prog X.w) X.A (eval iter X.env) (fun v s1=>wpAny (model X.prog X.w) X.A (pyIter v) (PIE X pins σ tg R) X.xe s1) X.xe s
theorem kD {M:TB}{A:Mq}{E:tx->If->Prop}{s:If}{tg:Expr}{it:Addr}{u:tx}{o:Obj}{n:String}{vs:Array tx}{Q:Unit->If->Prop}(ho:s.heap.get? it=some o)(hc:o.cls=.type n)(hd:o.data=.fields vs)
  (hn:["enumerate","zip","dict_itemiterator","dict_reverseitemiterator","odict_iterator","itertools.zip_longest","itertools.pairwise"].contains n=false)(hQ:Q () s):wpAny M A (letOwnedTupleGo tg (.ref it) u) Q E s:=by
 unfold letOwnedTupleGo
 cases tg<;>first
  |exact Lo hQ
  |(cases u<;>first
   |exact Lo hQ
   |(refine ah (wpAny_load ho ?_)
     rw[hc,hd]
     show wpAny M A (if (["enumerate","zip","dict_itemiterator","dict_reverseitemiterator","odict_iterator","itertools.zip_longest","itertools.pairwise"].contains n&&vs[0]? ==some (rawInt _))=true then _ else _) Q E s
     rw[if_neg (by intro h;rw[hn,Bool.false_and]at h;cases h)]
     exact Lo hQ))
def Itl (K:pv)(a:Addr):It:=
 ⟨fun i H=>∃xs x,SqL K H a xs/\xs[i]?=some x,fun i H x H'=>H'=H/\∀xs,SqL K H a xs->xs[i]?=some x,fun i H=>∃xs,SqL K H a xs/\xs.length<=i⟩
def Itt (K:pv)(a:Addr):It:=
 ⟨fun i H=>∃xs x,SqT K H a xs/\xs[i]?=some x,fun i H x H'=>H'=H/\∀xs,SqT K H a xs->xs[i]?=some x,fun i H=>∃xs,SqT K H a xs/\xs.length<=i⟩
def Itr (lo:Int)(n:Nat):It:=⟨fun i _=>i<n,fun i H x H'=>H'=H/\x=.int (lo+i),fun i _=>n<=i⟩
theorem wu {P:LV}{w:Mx}{K:pv}{tg:Expr}(a it:Addr):jn P w K tg (Itl K a) [it] it (fun i h=>h.IsListIter it a i)where
 mem:=by simp
 obj:=fun i h st b hb=>by
  have e:b=it:=by simpa using hb
  subst e
  obtain⟨o,e,c,d⟩:=st
  exact⟨o,e,fun v z=>by rw[d]at z;cases z⟩
 keep:=fun i h h' st k=>st.at fun o e=>k it (by simp) o e
 item:=by
  intro X hP hw hK hc i pins s σ H E I hf st hg
  subst hP hw hK
  obtain⟨xs,x,hq,hx⟩:=hg
  obtain⟨its,rv,p,hz⟩:=I.list hq
  obtain⟨u,hu,ru⟩:=rv.get hx
  obtain⟨f0,f1,f2,f3,f4,f5⟩:=hf it (by simp)
  refine wpAny_pyNext_list_item st p.isList (x:=u) (by simpa using hu) fun h' st' sb=>?_
  have I1:Inv X pins σ H {s with heap:=h'}:=I.turned (t':=s.toks) (fun b o hb e=>(sb.2 b hb).trans e) f0 f1 f3 f4 f5
  obtain⟨o,e,c,d⟩:=id st'
  exact⟨u,rfl,kD (s:={s with heap:=h'}) e c d (by decide) ⟨x,H,I1,ru,⟨rfl,fun ys hy=>by rw[I.list_inj hy hq];exact hx⟩,st',fun b hb=>(hf b hb).1⟩⟩
 done:=by
  intro X hP hw hK hc i pins s σ H E I hf st hg
  subst hP hw hK
  obtain⟨xs,hq,hx⟩:=hg
  obtain⟨its,rv,p,hz⟩:=I.list hq
  obtain⟨f0,f1,f2,f3,f4,f5⟩:=hf it (by simp)
  have hl:=rv.length
  exact wpAny_pyNext_list_end (I.ok.hd hc) st p.isList (by simp;omega) fun h' eb=>⟨rfl,I.turned (t':=s.toks) (fun b o hb e=>eb b o hb e) f0 f1 f3 f4 f5⟩
 self:=fun _ _ _ _ _ st h=>wpAny_pyIter_listiter st h
theorem ur {P:LV}{w:Mx}{K:pv}{tg:Expr}(a it:Addr):jn P w K tg (Itt K a) [it] it (fun i h=>h.IsTupleIter it a i)where
 mem:=by simp
 obj:=fun i h st b hb=>by
  have e:b=it:=by simpa using hb
  subst e
  obtain⟨o,e,c,d⟩:=st
  exact⟨o,e,fun v z=>by rw[d]at z;cases z⟩
 keep:=fun i h h' st k=>st.at fun o e=>k it (by simp) o e
 item:=by
  intro X hP hw hK hc i pins s σ H E I hf st hg
  subst hP hw hK
  obtain⟨xs,x,hq,hx⟩:=hg
  obtain⟨its,rv,p,hz⟩:=I.tuple hq
  obtain⟨u,hu,ru⟩:=rv.get hx
  obtain⟨f0,f1,f2,f3,f4,f5⟩:=hf it (by simp)
  refine wpAny_pyNext_tuple_item st (show s.heap.IsTuple a its.toArray from p) (x:=u) (by simpa using hu) fun h' st' sb=>?_
  have I1:Inv X pins σ H {s with heap:=h'}:=I.turned (t':=s.toks) (fun b o hb e=>(sb.2 b hb).trans e) f0 f1 f3 f4 f5
  obtain⟨o,e,c,d⟩:=id st'
  exact⟨u,rfl,kD (s:={s with heap:=h'}) e c d (by decide) ⟨x,H,I1,ru,⟨rfl,fun ys hy=>by rw[I.tuple_inj hy hq];exact hx⟩,st',fun b hb=>(hf b hb).1⟩⟩
 done:=by
  intro X hP hw hK hc i pins s σ H E I hf st hg
  subst hP hw hK
  obtain⟨xs,hq,hx⟩:=hg
  obtain⟨its,rv,p,hz⟩:=I.tuple hq
  obtain⟨f0,f1,f2,f3,f4,f5⟩:=hf it (by simp)
  have hl:=rv.length
  exact wpAny_pyNext_tuple_end (I.ok.hd hc) st (show s.heap.IsTuple a its.toArray from p) (by simp;omega) fun h' eb=>⟨rfl,I.turned (t':=s.toks) (fun b o hb e=>eb b o hb e) f0 f1 f3 f4 f5⟩
 self:=fun _ _ _ _ _ st h=>wpAny_pyIter_tupleiter st h
theorem tZ {P:LV}{w:Mx}{K:pv}{tg:Expr}(it:Addr)(lo:Int)(n:Nat):jn P w K tg (Itr lo n) [it] it (fun i h=>IsRangeIter h it (lo+(i:Nat)*1) ((n:Int)- (i:Nat)) 1)where
 mem:=by simp
 obj:=fun i h st b hb=>by
  have e:b=it:=by simpa using hb
  subst e
  exact⟨_,st,fun v z=>by
   have z':SI _=Data.cell v:=z
   cases z'⟩
 keep:=fun i h h' st k=>k it (by simp) _ st
 item:=by
  intro X hP hw hK hc i pins s σ H E I hf st hg
  subst hP hw hK
  obtain⟨f0,f1,f2,f3,f4,f5⟩:=hf it (by simp)
  have W:=Walks.range (prog:=X.prog) (w:=X.w) (I.ok.hd hc) it lo 1 n
  refine W.item i s _ _ hg st fun v h' tk hv st' kk=>?_
  obtain⟨t,rfl⟩:=hv
  have I1:Inv X pins σ H {s with heap:=h',toks:=tk}:=I.turned (fun b o hb e=>kk b o (by simpa using hb) e) f0 f1 f3 f4 f5
  refine⟨_,rfl,kD (s:={s with heap:=h',toks:=tk}) (n:="range_iterator") st' rfl rfl (by decide) ⟨.int (lo+i),H,I1,⟨t,?_⟩,⟨rfl,rfl⟩,st',fun b hb=>(hf b hb).1⟩⟩
  rw[Int.mul_one]
 done:=by
  intro X hP hw hK hc i pins s σ H E I hf st hg
  subst hP hw hK
  obtain⟨f0,f1,f2,f3,f4,f5⟩:=hf it (by simp)
  exact wpAny_pyNext_range_end (I.ok.hd hc) st (by have:n<=i:=hg;omega) fun h' eb=>⟨rfl,I.turned (t':=s.toks) (fun b o hb e=>eb b o hb e) f0 f1 f3 f4 f5⟩
 self:=fun _ _ _ _ _ st h=>wpAny_pyIter_rangeiter st h
section
variable {X:Cx}{tg:Expr}
theorem qW {pins:List (Addr×Obj)}{σ:St}{H:Hp}{s:If}{R:It->Hp->Prop}{E:tx->If->Prop}{lo hi:Int}{t u v:Tok}{tk:Nat}(I:Inv X pins σ H s)(h1: -(2^62)<=lo)(h2:lo<2^62)(h3: -(2^62)<=hi)(h4:hi<2^62)
  (q:R (Itr lo (hi- lo).toNat) H):wpAny (model X.prog X.w) X.A (pyIter (.ref s.heap.objs.size)) (PIE X pins σ tg R) E {s with heap:=s.heap.push {cls:=.type "range",data:=.fields #[.int lo t,.int hi u,.int 1 v]},toks:=tk}:=by
 refine wpAny_pyIter_range (IsRange.new ..) (small_one h1 h2 h3 h4) ?_
 have I1:Inv X pins σ H {s with heap:=s.heap.push {cls:=.type "range",data:=.fields #[.int lo t,.int hi u,.int 1 v]},toks:=tk}:=I.kept fun b o e=>cW _ e
 refine⟨(s.heap.push {cls:=.type "range",data:=.fields #[.int lo t,.int hi u,.int 1 v]}).objs.size,[(s.heap.push {cls:=.type "range",data:=.fields #[.int lo t,.int hi u,.int 1 v]}).objs.size],_,_,H,rfl,
  I1.kept (t':=tk) fun b o e=>cW _ e,tZ _ lo (hi- lo).toNat,?_,fun b hb=>?_,q⟩
 ·have e1:lo+((0:Nat):Int)*1=lo:=by simp
  have e2:(((hi- lo).toNat:Nat):Int)- ((0:Nat):Int)=Ve lo hi 1:=by rw[rangeSize_one];split<;>omega
  show IsRangeIter _ _ (lo+((0:Nat):Int)*1) ((((hi- lo).toNat:Nat):Int)- ((0:Nat):Int)) 1
  rw[e1,e2]
  exact Ly _ rfl
 ·have e:b=(s.heap.push {cls:=.type "range",data:=.fields #[.int lo t,.int hi u,.int 1 v]}).objs.size:=by simpa using hb
  subst e
  exact I1.fpOk (gV _) (I1.hok.fresh (gV _))
def kB (ta:TA):TI:=fun σ H R=>ta σ H fun vs H1=>∃j:Int,vs=[.int j]/\ -(2^62)<=j/\j<2^62/\R (Itr 0 j.toNat) H1
def pU (ta:TA):TI:=fun σ H R=>ta σ H fun vs H1=>∃i j:Int,vs=[.int i,.int j]/\(-(2^62)<=i/\i<2^62/\ -(2^62)<=j/\j<2^62)/\R (Itr i (j- i).toNat) H1
theorem wv {a:Expr}{ta:TA}{p pos:Pos}(hg:Gl X "range")(hm:X.mg "range"=none)(ha:PA X [a] ta)(hs:starEach [a] X.env=[(false,eval a X.env)]:=by rfl):PI X tg (.Call (.Name "range" p) [a] [] pos) (kB ta):=by
 intro pins s σ H R I h
 refine Call_ (ft I hg hm boot_range (MA (thn (ha pos pins s σ H _ I h) fun us s1 ⟨vs,H1,I1,r1,q1⟩=>?_) hs rfl))
 obtain⟨j,e,q1,q2,q⟩:=q1
 subst e
 cases r1 with
 |cons r rr=>
  cases rr
  obtain⟨t,rfl⟩:=r
  exact call_range_1 (qW I1 (by omega) (by omega) q1 q2 (by simpa using q))
theorem vM {a b:Expr}{ta:TA}{p pos:Pos}(hg:Gl X "range")(hm:X.mg "range"=none)(ha:PA X [a,b] ta)(hs:starEach [a,b] X.env=[(false,eval a X.env),(false,eval b X.env)]:=by rfl)(hs2:starEach [b] X.env=[(false,eval b X.env)]:=by rfl):
  PI X tg (.Call (.Name "range" p) [a,b] [] pos) (pU ta):=by
 intro pins s σ H R I h
 refine Call_ (ft I hg hm boot_range (MA (thn (ha pos pins s σ H _ I h) fun us s1 ⟨vs,H1,I1,r1,q1⟩=>?_) (by rw[hs,hs2]) (by rw[hs2];rfl)))
 obtain⟨i,j,e,⟨q1,q2,q3,q4⟩,q⟩:=q1
 subst e
 cases r1 with
 |cons r rr=>
  cases rr with
  |cons r' rr=>
   cases rr
   obtain⟨t,rfl⟩:=r
   obtain⟨t',rfl⟩:=r'
   exact call_range_2 (qW I1 q1 q2 q3 q4 q)
def iD (wi:TI)(g:TG)(tb:TS):TS:=fun D σ H=>wi σ H fun J H1=>∃W:Nat->Nat->St->Hp->Prop,(∃m,W 0 m σ H1)/\∀i m σ H,W i m σ H->
 (J.stop i H/\D.nx σ H)\/(J.go i H/\∃N:St->Hp->Prop,(∀σ' H',N σ' H'->∃m',m'<m/\W (i+1) m' σ' H')/\∀x H',J.yld i H x H'->g x σ H' fun σ2 H2=>tb {D with nx:=N,ct:=N,bk:=D.nx} σ2 H2)
def iY (fp:List Addr)(h:Heap):List (Addr×Obj):=fp.filterMap fun b=>(h.get? b).map fun o=>(b,o)
theorem eW {fp:List Addr}{h:Heap}{b:Addr}{o:Obj}(hb:b∈fp)(e:h.get? b=some o):(b,o)∈iY fp h:=SW.mpr ⟨b,hb,by rw[e];rfl⟩
theorem wa {fp:List Addr}{h:Heap}{p:Addr×Obj}(hp:p∈iY fp h):p.1∈fp/\h.get? p.1=some p.2:=by
 obtain⟨b,hb,e⟩:=SW.mp hp
 cases q:h.get? b with
 |none=>rw[q]at e;cases e
 |some o=>
  rw[q]at e
  have e':(b,o)=p:=LR e
  subst e'
  exact⟨hb,q⟩
theorem Inv.pinned {pins:List (Addr×Obj)}{σ:St}{H:Hp}{s:If}{fp:List Addr}(I:Inv X pins σ H s)(hf:∀b∈fp,iF X pins H b)(ho:∀b∈fp,∃o,s.heap.get? b=some o/\∀v,o.data≠.cell v):Inv X (pins++iY fp s.heap) σ H s:=
 I.pins_of fun p hp=>(Mr.mp hp).elim (fun z=>I.pin p (Mp _ z)) fun z=>by
  obtain⟨hb,e⟩:=wa z
  obtain⟨f0,f1,f2,_⟩:=hf p.1 hb
  obtain⟨o,e',d⟩:=ho p.1 hb
  rw[e]at e';cases e'
  exact⟨e,f0,f1,f2,d⟩
theorem Inv.unpinned {pins pl:List (Addr×Obj)}{σ:St}{H:Hp}{s:If}(I:Inv X (pins++pl) σ H s):Inv X pins σ H s:=I.pins_of fun p hp=>I.pin p (Mp _ (OV _ hp))
theorem Cq {iter:Expr}{body:List Stmt}{wi:TI}{g:TG}{tb:TS}{pos:Pos}(hp:Tx (model X.prog X.w) X.A X.env X.xe)(hc:X.calm=true)(hi:PI X tg iter wi)(hg:PG X tg g)(hb:PSs X body tb)
  (hs:∀x,foldedSetIterable iter X.env x=pure x:=by intro _;rfl):PS X (.For tg iter body [] pos) (iD wi g tb):=by
 intro pins s σ H D I h
 refine wpAny_For (thn (hi pins s σ H _ I h) fun v s1 h1=>thn h1 fun itv s2 h2=>?_) hs
 obtain⟨it,fp,tn,J,H2,e,I2,T,st2,f2,W,⟨m0,w0⟩,turn⟩:=h2
 subst e
 have stat:∀{H':Hp},(∀b∈fp,H' b=none)->∀b∈fp,iF X pins H' b:=fun hn b hb=>⟨hn b hb,(f2 b hb).2⟩
 refine codeAny_forLoop_any (fun n s'=>∃i σ' H',Inv X pins σ' H' s'/\tn i s'.heap/\(∀b∈fp,H' b=none)/\W i n σ' H') ?_ m0 ⟨0,σ,H2,I2,st2,fun b hb=>(f2 b hb).1,w0⟩
 rintro n s3 ⟨i,σ3,H3,I3,st3,fr3,w3⟩
 rcases turn i n σ3 H3 w3 with⟨stop,qn⟩|⟨go,N,hN,step⟩
 ·refine Oj hp (thn (T.done X rfl rfl rfl hc i pins s3 σ3 H3 X.xe I3 (stat fr3) st3 stop) fun r s4 ⟨hr,I4⟩=>?_)
  subst hr
  exact Ps ⟨σ3,H3,I4,qn⟩
 ·refine Oj hp (thn (T.item X rfl rfl rfl hc i pins s3 σ3 H3 X.xe I3 (stat fr3) st3 go) fun r s4 ⟨u,hr,h4⟩=>?_)
  subst hr
  refine Oj hp (thn h4 fun _ s5 ⟨x,H5,I5,r5,y5,st5,fr5⟩=>?_)
  have I5':=I5.pinned (stat fr5) (T.obj _ _ st5)
  refine Oj hp (thn (hg _ s5 σ3 H5 x u _ I5' r5 (step x H5 y5)) fun _ s6 ⟨σ6,H6,I6,q6⟩=>?_)
  refine Oj hp (thn (hb _ s6 σ6 H6 _ I6 q6) fun f s7 q7=>?_)
  have again:∀{σ7:St}{H7:Hp},Inv X (pins++iY fp s5.heap) σ7 H7 s7->N σ7 H7->∃m,m<n/\∃i σ' H',Inv X pins σ' H' s7/\tn i s7.heap/\(∀b∈fp,H' b=none)/\W i m σ' H':=fun{σ7 H7} I7 n7=>by
   obtain⟨m',hm,w7⟩:=hN σ7 H7 n7
   refine⟨m',hm,i+1,σ7,H7,I7.unpinned,T.keep _ _ _ st5 fun b hb o e=>(I7.pin (b,o) (Mp _ (Mp _ (eW hb e)))).1,fun b hb=>?_,w7⟩
   obtain⟨o,e,d⟩:=T.obj _ _ st5 b hb
   exact(I7.pin (b,o) (Mp _ (Mp _ (eW hb e)))).2.1
  cases f with
  |next=>obtain⟨σ7,H7,I7,n7⟩:=q7;exact again I7 n7
  |cont=>obtain⟨σ7,H7,I7,n7⟩:=q7;exact again I7 n7
  |brk=>obtain⟨σ7,H7,I7,q7⟩:=q7;exact⟨σ7,H7,I7.unpinned,q7⟩
  |ret v=>obtain⟨x7,σ7,H7,I7,r7,q7⟩:=q7;exact⟨x7,σ7,H7,I7.unpinned,r7,q7⟩
end
theorem jB {K:pv}{a:Addr}{xs:List V}{g:TG}{tb:TS}{D:eF}{σ:St}{H:Hp}(Pv:Nat->St->Hp->Prop)(h0:Pv 0 σ H)(hl:∀i σ H,i<=xs.length->Pv i σ H->SqL K H a xs)
  (hs:∀i x σ H,xs[i]?=some x->Pv i σ H->g x σ H fun σ2 H2=>tb {D with nx:=Pv (i+1),ct:=Pv (i+1),bk:=D.nx} σ2 H2)(hd:∀σ H,Pv xs.length σ H->D.nx σ H):
  ∃W:Nat->Nat->St->Hp->Prop,(∃m,W 0 m σ H)/\∀i m σ H,W i m σ H->
   ((Itl K a).stop i H/\D.nx σ H)\/((Itl K a).go i H/\∃N:St->Hp->Prop,(∀σ' H',N σ' H'->∃m',m'<m/\W (i+1) m' σ' H')/\∀x H',(Itl K a).yld i H x H'->g x σ H' fun σ2 H2=>tb {D with nx:=N,ct:=N,bk:=D.nx} σ2 H2):=by
 refine⟨fun i m σ H=>m=xs.length- i/\i<=xs.length/\Pv i σ H,⟨xs.length,by simp,Mj _,h0⟩,?_⟩
 rintro i m σ H ⟨rfl,hi,p⟩
 have q:=hl i σ H hi p
 by_cases hlt:i<xs.length
 ·refine .inr ⟨⟨xs,xs[i],q,by simp[hlt]⟩,Pv (i+1),fun σ' H' p'=>⟨xs.length- (i+1),by omega,rfl,hlt,p'⟩,fun x H' y=>?_⟩
  obtain⟨e,y⟩:=y
  subst e
  exact hs i x σ _ (y xs q) p
 ·have e:i=xs.length:=by omega
  subst e
  exact .inl ⟨⟨xs,q,gV _⟩,hd σ H p⟩
theorem jY {lo:Int}{n:Nat}{g:TG}{tb:TS}{D:eF}{σ:St}{H:Hp}(Pv:Nat->St->Hp->Prop)(h0:Pv 0 σ H)
  (hs:∀i σ H,i<n->Pv i σ H->g (.int (lo+i)) σ H fun σ2 H2=>tb {D with nx:=Pv (i+1),ct:=Pv (i+1),bk:=D.nx} σ2 H2)(hd:∀σ H,Pv n σ H->D.nx σ H):
  ∃W:Nat->Nat->St->Hp->Prop,(∃m,W 0 m σ H)/\∀i m σ H,W i m σ H->
   ((Itr lo n).stop i H/\D.nx σ H)\/((Itr lo n).go i H/\∃N:St->Hp->Prop,(∀σ' H',N σ' H'->∃m',m'<m/\W (i+1) m' σ' H')/\∀x H',(Itr lo n).yld i H x H'->g x σ H' fun σ2 H2=>tb {D with nx:=N,ct:=N,bk:=D.nx} σ2 H2):=by
 refine⟨fun i m σ H=>m=n- i/\i<=n/\Pv i σ H,⟨n,by simp,Mj _,h0⟩,?_⟩
 rintro i m σ H ⟨rfl,hi,p⟩
 by_cases hlt:i<n
 ·refine .inr ⟨hlt,Pv (i+1),fun σ' H' p'=>⟨n- (i+1),by omega,rfl,hlt,p'⟩,fun x H' y=>?_⟩
  obtain⟨e,y⟩:=y
  subst e y
  exact hs i σ _ hlt p
 ·have e:i=n:=by omega
  subst e
  exact .inl ⟨gV _,hd σ H p⟩
abbrev R2:=V->V->Hp->VK->Prop
def OpR (X:Cx)(f:tx->tx->Sem tx)(r:R2):Prop:=
 ∀(pins:List (Addr×Obj))(s:If)(σ:St)(H:Hp)(x y:V)(v u:tx)(Q:VK),Inv X pins σ H s->aX x v->aX y u->r x y H Q->
  wpAny (model X.prog X.w) X.A (f v u) (EP X pins σ Q) X.xe s
def UnR (X:Cx)(f:tx->Sem tx)(r:V->Hp->VK->Prop):Prop:=
 ∀(pins:List (Addr×Obj))(s:If)(σ:St)(H:Hp)(x:V)(v:tx)(Q:VK),Inv X pins σ H s->aX x v->r x H Q->
  wpAny (model X.prog X.w) X.A (f v) (EP X pins σ Q) X.xe s
def bZ (X:Cx)(f:tx)(r:List V->Hp->VK->Prop):Prop:=
 ∀(pins:List (Addr×Obj))(s:If)(σ:St)(H:Hp)(xs:List V)(us:List tx)(Q:VK),Inv X pins σ H s->aY xs us->r xs H Q->
  wpAny (model X.prog X.w) X.A (call f us) (EP X pins σ Q) X.xe s
def Kw (X:Cx)(r:V->Hp->(Bool->Hp->Prop)->Prop):Prop:=
 ∀(pins:List (Addr×Obj))(s:If)(σ:St)(H:Hp)(x:V)(v:tx)(Q:Bool->Hp->Prop),Inv X pins σ H s->aX x v->r x H Q->
  wpAny (model X.prog X.w) X.A (truthy v) (TP X pins σ Q) X.xe s
def tOp (r:R2)(ta tb:TE):TE:=fun σ H Q=>ta σ H fun x H1=>tb σ H1 fun y H2=>r x y H2 Q
def tUn (r:V->Hp->VK->Prop)(ta:TE):TE:=fun σ H Q=>ta σ H fun x H1=>r x H1 Q
def rI (C:Int->Int->Prop)(g:Int->Int->V):R2:=fun x y H Q=>∃i j,x=.int i/\y=.int j/\C i j/\Q (g i j) H
def rI0 (g:Int->Int->V):R2:=fun x y H Q=>∃i j,x=.int i/\y=.int j/\Q (g i j) H
def rU (g:Int->V):V->Hp->VK->Prop:=fun x H Q=>∃i,x=.int i/\Q (g i) H
section
variable {X:Cx}{a b c:Expr}{ta tb tc:TE}{pos:Pos}
theorem wZ (ha:PE X a ta)(hb:PE X b tb){pins:List (Addr×Obj)}{s:If}{σ:St}{H:Hp}{R:V->V->Hp->Prop}(I:Inv X pins σ H s)
  (h:ta σ H fun x H1=>tb σ H1 fun y H2=>R x y H2){Q:tx->If->Prop}{f:tx->tx->Sem tx}
  (hf:∀v u s2 x y H2,Inv X pins σ H2 s2->aX x v->aX y u->R x y H2->wpAny (model X.prog X.w) X.A (f v u) Q X.xe s2):
  wpAny (model X.prog X.w) X.A (eval a X.env) (fun v s₁=>wpAny (model X.prog X.w) X.A (eval b X.env) (fun u s₂=>wpAny (model X.prog X.w) X.A (f v u) Q X.xe s₂) X.xe s₁) X.xe s:=by
 refine thn (ha pins s σ H _ I h) fun v s1 ⟨x,H1,I1,r1,q1⟩=>?_
 refine thn (hb pins s1 σ H1 _ I1 q1) fun u s2 ⟨y,H2,I2,r2,q2⟩=>?_
 exact hf v u s2 x y H2 I2 r1 r2 q2
theorem FM {op:Operator}{r:R2}(ho:OpR X (binaryOp op) r)(ha:PE X a ta)(hb:PE X b tb):PE X (.BinOp a op b pos) (tOp r ta tb):=by
 intro pins s σ H Q I h
 exact wpAny_BinOp (wZ ha hb I h fun v u s2 x y H2 I2 rx ry q=>ho pins s2 σ H2 x y v u Q I2 rx ry q)
theorem FJ {op:UnaryOp}{r:V->Hp->VK->Prop}(ho:UnR X (unaryOp op) r)(ha:PE X a ta):PE X (.UnaryOp op a pos) (tUn r ta):=by
 intro pins s σ H Q I h
 exact UnaryOp_ (thn (ha pins s σ H _ I h) fun v s1 ⟨x,H1,I1,r1,q1⟩=>ho pins s1 σ H1 x v Q I1 r1 q1)
theorem opI {f:tx->tx->Sem tx}{C:Int->Int->Prop}{g:Int->Int->Int}
  (rule:∀(i j:Int)(t u:Tok)(s:If)(Q:tx->If->Prop)(E:tx->If->Prop),C i j->Q (.int (g i j) s.toks) {s with toks:=s.toks+1}->wpAny (model X.prog X.w) X.A (f (.int i t) (.int j u)) Q E s):
  OpR X f (rI C fun i j=>.int (g i j)):=by
 intro pins s σ H x y v u Q I rx ry h
 obtain⟨i,j,rfl,rfl,hc,q⟩:=h
 obtain⟨t,rfl⟩:=rx
 obtain⟨t',rfl⟩:=ry
 exact rule i j t t' s _ _ hc ⟨.int (g i j),H,I.tok _,⟨_,rfl⟩,q⟩
theorem BR {f:tx->tx->Sem tx}{g:Int->Int->Int}
  (rule:∀(i j:Int)(t u:Tok)(s:If)(Q:tx->If->Prop)(E:tx->If->Prop),Q (.int (g i j) s.toks) {s with toks:=s.toks+1}->wpAny (model X.prog X.w) X.A (f (.int i t) (.int j u)) Q E s):
  OpR X f (rI0 fun i j=>.int (g i j)):=by
 intro pins s σ H x y v u Q I rx ry h
 obtain⟨i,j,rfl,rfl,q⟩:=h
 obtain⟨t,rfl⟩:=rx
 obtain⟨t',rfl⟩:=ry
 exact rule i j t t' s _ _ ⟨.int (g i j),H,I.tok _,⟨_,rfl⟩,q⟩
theorem zd {f:tx->tx->Sem tx}{g:Int->Int->Bool}
  (rule:∀(i j:Int)(t u:Tok)(s:If)(Q:tx->If->Prop)(E:tx->If->Prop),Q (.bool (g i j)) s->wpAny (model X.prog X.w) X.A (f (.int i t) (.int j u)) Q E s):
  OpR X f (rI0 fun i j=>.bl (g i j)):=by
 intro pins s σ H x y v u Q I rx ry h
 obtain⟨i,j,rfl,rfl,q⟩:=h
 obtain⟨t,rfl⟩:=rx
 obtain⟨t',rfl⟩:=ry
 exact rule i j t t' s _ _ ⟨.bl (g i j),H,I,rfl,q⟩
def Fp (i j:Int):Prop:=0<=j/\j<=1000000/\i.natAbs<2^64
theorem CN:OpR X (binaryOp .Add) (rI0 fun i j=>.int (i+j)):=BR fun _ _ _ _ _ _ _ q=>add_int q
theorem Fo:OpR X (binaryOp .Sub) (rI0 fun i j=>.int (i- j)):=BR fun _ _ _ _ _ _ _ q=>sub_int q
theorem BN:OpR X (binaryOp .Mod) (rI (fun _ j=>0<j) fun i j=>.int (i%j)):=opI fun i j _ _ _ _ _ hc q=>by
 have h1:(0:Int)<j:=hc
 exact mod_int' (by omega) (by rw[Int.fmod_eq_emod_of_nonneg i (by omega)];exact q)
theorem Dh:OpR X (binaryOp .Pow) (rI Fp fun i j=>.int (i^j.toNat)):=opI fun _ _ _ _ _ _ _ hc q=>pow_int_small hc.1 hc.2.1 hc.2.2 q
theorem EW:OpR X (binaryOp .LShift) (rI Fp fun i j=>.int (i*2^j.toNat)):=opI fun _ _ _ _ _ _ _ hc q=>lshift_int_small hc.1 hc.2.1 hc.2.2 q
theorem unI {f:tx->Sem tx}{g:Int->Int}
  (rule:∀(i:Int)(t:Tok)(s:If)(Q:tx->If->Prop)(E:tx->If->Prop),Q (.int (g i) s.toks) {s with toks:=s.toks+1}->wpAny (model X.prog X.w) X.A (f (.int i t)) Q E s):
  UnR X f (rU fun i=>.int (g i)):=by
 intro pins s σ H x v Q I rx h
 obtain⟨i,rfl,q⟩:=h
 obtain⟨t,rfl⟩:=rx
 exact rule i t s _ _ ⟨.int (g i),H,I.tok _,⟨_,rfl⟩,q⟩
theorem Dj:UnR X (unaryOp .USub) (rU fun i=>.int (-i)):=unI fun _ _ _ _ _ q=>neg_int q
end
def DU:V->V->Bool
 |.non,.non=>true|.non,.int _=>true|.int _,.non=>true|.non,.bl _=>true|.bl _,.non=>true|.non,.str _=>true|.str _,.non=>true
 |.int _,.int _=>true|.bl _,.bl _=>true|.str _,.str _=>true|.byt _,.byt _=>true
 |.int _,.str _=>true|.str _,.int _=>true|.bl _,.str _=>true|.str _,.bl _=>true
 |_,_=>false
def rEq:R2:=fun x y H Q=>DU x y=true/\Q (.bl (decide (x=y))) H
def rNe:R2:=fun x y H Q=>DU x y=true/\Q (.bl (!decide (x=y))) H
theorem sG {i j:Int}:decide (V.int i=V.int j)=(i==j):=by
 rw[Pe]
 simp
theorem vf {i j:Bool}:decide (V.bl i=V.bl j)=(i==j):=by
 rw[Pe]
 simp
theorem se {i j:Str}:decide (V.str i=V.str j)=(i==j):=by
 rw[Pe]
 simp
theorem sN {i j:Array UInt8}:decide (V.byt i=V.byt j)=(i.toList==j.toList):=by
 rw[Pe]
 cases i
 cases j
 simp
section
variable {X:Cx}{a b c:Expr}{ta tb tc:TE}{pos:Pos}
theorem bC {pins:List (Addr×Obj)}{σ:St}{H:Hp}{s:If}{Q:VK}{k k':Bool}(I:Inv X pins σ H s)(q:Q (.bl k) H)(e:k=k'):EP X pins σ Q (.bool k') s:=by
 subst e
 exact⟨.bl k,H,I,rfl,q⟩
theorem HP:OpR X (compareOp .Eq) rEq:=by
 intro pins s σ H x y v u Q I rx ry h
 obtain⟨hs,q⟩:=h
 cases x with
 |non=>
  cases rx
  cases y with
  |non=>cases ry;exact PySem.EqNone.eq_none_none (bC I q (by simp))
  |bl j=>cases ry;exact PySem.EqNone.eq_none_bool (bC I q (by simp))
  |int j=>obtain⟨t',rfl⟩:=ry;exact PySem.EqNone.eq_none_int (bC I q (by simp))
  |str j=>obtain⟨t',rfl⟩:=ry;exact PySem.EqNone.eq_none_str (bC I q (by simp))
  |_=>exact absurd (show false=true from hs) LQ
 |bl i=>
  cases rx
  cases y with
  |non=>cases ry;exact PySem.EqNone.eq_bool_none (bC I q (by simp))
  |bl j=>cases ry;exact eq_bool (bC I q vf)
  |str j=>obtain⟨t',rfl⟩:=ry;exact Va (bC I q (by simp))
  |_=>exact absurd (show false=true from hs) LQ
 |int i=>
  obtain⟨t,rfl⟩:=rx
  cases y with
  |non=>cases ry;exact PySem.EqNone.eq_int_none (bC I q (by simp))
  |int j=>obtain⟨t',rfl⟩:=ry;exact eq_int (bC I q sG)
  |str j=>obtain⟨t',rfl⟩:=ry;exact UZ (bC I q (by simp))
  |_=>exact absurd (show false=true from hs) LQ
 |str i=>
  obtain⟨t,rfl⟩:=rx
  cases y with
  |non=>cases ry;exact PySem.EqNone.eq_str_none (bC I q (by simp))
  |bl j=>cases ry;exact UY (bC I q (by simp))
  |int j=>obtain⟨t',rfl⟩:=ry;exact UX (bC I q (by simp))
  |str j=>obtain⟨t',rfl⟩:=ry;exact eq_str (bC I q se)
  |_=>exact absurd (show false=true from hs) LQ
 |byt i=>
  obtain⟨t,rfl⟩:=rx
  cases y with
  |byt j=>obtain⟨t',rfl⟩:=ry;exact W.eq_bytes (bC I q sN)
  |_=>exact absurd (show false=true from hs) LQ
 |_=>cases y<;>exact absurd (show false=true from hs) LQ
theorem FE:OpR X (compareOp .NotEq) rNe:=by
 intro pins s σ H x y v u Q I rx ry h
 obtain⟨hs,q⟩:=h
 cases x with
 |non=>
  cases rx
  cases y with
  |non=>cases ry;exact PySem.EqNone.ne_none_none (bC I q (by simp))
  |bl j=>cases ry;exact PySem.EqNone.ne_none_bool (bC I q (by simp))
  |int j=>obtain⟨t',rfl⟩:=ry;exact PySem.EqNone.ne_none_int (bC I q (by simp))
  |str j=>obtain⟨t',rfl⟩:=ry;exact PySem.EqNone.ne_none_str (bC I q (by simp))
  |_=>exact absurd (show false=true from hs) LQ
 |bl i=>
  cases rx
  cases y with
  |non=>cases ry;exact PySem.EqNone.ne_bool_none (bC I q (by simp))
  |bl j=>cases ry;exact ne_bool (bC I q (congrArg not vf))
  |str j=>obtain⟨t',rfl⟩:=ry;exact UW (bC I q (by simp))
  |_=>exact absurd (show false=true from hs) LQ
 |int i=>
  obtain⟨t,rfl⟩:=rx
  cases y with
  |non=>cases ry;exact PySem.EqNone.ne_int_none (bC I q (by simp))
  |int j=>obtain⟨t',rfl⟩:=ry;exact ne_int (bC I q (congrArg not sG))
  |str j=>obtain⟨t',rfl⟩:=ry;exact UV (bC I q (by simp))
  |_=>exact absurd (show false=true from hs) LQ
 |str i=>
  obtain⟨t,rfl⟩:=rx
  cases y with
  |non=>cases ry;exact PySem.EqNone.ne_str_none (bC I q (by simp))
  |bl j=>cases ry;exact UU (bC I q (by simp))
  |int j=>obtain⟨t',rfl⟩:=ry;exact UT (bC I q (by simp))
  |str j=>obtain⟨t',rfl⟩:=ry;exact ne_str (bC I q (congrArg not se))
  |_=>exact absurd (show false=true from hs) LQ
 |byt i=>
  obtain⟨t,rfl⟩:=rx
  cases y with
  |byt j=>obtain⟨t',rfl⟩:=ry;exact W.ne_bytes (bC I q (congrArg not sN))
  |_=>exact absurd (show false=true from hs) LQ
 |_=>cases y<;>exact absurd (show false=true from hs) LQ
theorem Ij:OpR X (compareOp .Lt) (rI0 fun i j=>.bl (decide (i<j))):=zd fun _ _ _ _ _ _ _ q=>lt_int q
theorem Ji:OpR X (compareOp .LtE) (rI0 fun i j=>.bl (decide (i<=j))):=zd fun _ _ _ _ _ _ _ q=>le_int q
theorem FH:OpR X (compareOp .Gt) (rI0 fun i j=>.bl (decide (j<i))):=zd fun _ _ _ _ _ _ _ q=>gt_int q
theorem EI:OpR X (compareOp .Is) (fun x y H Q=>y=.non/\Q (.bl (decide (x=.non))) H):=by
 intro pins s σ H x y v u Q I rx ry h
 obtain⟨rfl,q⟩:=h
 cases ry
 refine is_none_gen (bC I q ?_)
 cases x<;>first
  |(cases rx;rfl)
  |(obtain⟨t,rfl⟩:=rx;rfl)
theorem OpR.or {f:tx->tx->Sem tx}{r r':R2}(h:OpR X f r)(h':OpR X f r'):OpR X f (fun x y H Q=>r x y H Q\/r' x y H Q):=by
 intro pins s σ H x y v u Q I rx ry q
 rcases q with q|q
 ·exact h pins s σ H x y v u Q I rx ry q
 ·exact h' pins s σ H x y v u Q I rx ry q
theorem lS (b:Expr){op:TD}(h:op≠.In:=by decide)(h2:op≠.NotIn:=by decide):behindInMarks op b=false:=by
 have e1:(op==CmpOp.In)=false:=by cases op<;>first|rfl|exact absurd rfl h
 have e2:(op==CmpOp.NotIn)=false:=by cases op<;>first|rfl|exact absurd rfl h2
 cases b<;>simp[behindInMarks,e1,e2]
theorem Au {op:TD}{r:R2}(ho:OpR X (compareOp op) r)(ha:PE X a ta)(hb:PE X b tb)(hm:behindInMarks op b=false):PE X (.Compare a [op] [b] pos) (tOp r ta tb):=by
 intro pins s σ H Q I h
 exact wpAny_Compare1 (wZ ha hb I h fun v u s2 x y H2 I2 rx ry q=>ho pins s2 σ H2 x y v u Q I2 rx ry q) hm
def CJ (K:pv)(x:V)(H:Hp)(k:Bool):Prop:=
 match x with
 |.non=>k=false
 |.bl b=>k=b
 |.int i=>k=(i !=0)
 |.str y=>y.length<=sizeLine/\k=((y.length:Int) !=0)
 |.byt y=>y.size<=sizeLine/\k=((y.size:Int) !=0)
 |.ref p=>(∃xs,SqL K H p xs/\k= !xs.isEmpty)\/(∃xs,SqT K H p xs/\k= !xs.isEmpty)\/∃kvs,H p=some (.dK kvs)/\k= !kvs.isEmpty
 |_=>False
theorem tz {κ:Type}{kvs:List (κ×V)}{vs:List (κ×tx)}(r:KV kvs vs):(!vs.isEmpty)= !kvs.isEmpty:=by
 cases r<;>rfl
theorem mx {xs:List V}{its:List tx}(r:aY xs its):(!its.toArray.isEmpty)= !xs.isEmpty:=by
 cases r<;>simp
theorem iG:(sizeLine:Nat)<2^63:=by rw[NA];decide
theorem Em:Kw X (fun x H Q=>∃k,CJ X.K x H k/\Q k H):=by
 intro pins s σ H x v Q I rx h
 obtain⟨k,e,q⟩:=h
 have hl:=iG
 have hs:sizeLine=16777216:=NA
 cases x with
 |non=>
  cases rx
  have e':k=false:=e
  subst e'
  exact truthy_none ⟨H,I,q⟩
 |bl b=>
  cases rx
  have e':k=b:=e
  subst e'
  exact NT ⟨H,I,q⟩
 |int i=>
  obtain⟨t,rfl⟩:=rx
  have e':k=(i !=0):=e
  subst e'
  exact PySem.P.truthy_int ⟨H,I,q⟩
 |str y=>
  obtain⟨t,rfl⟩:=rx
  obtain⟨hy,e'⟩:y.length<=sizeLine/\k=((y.length:Int) !=0):=e
  subst e'
  exact PySem.P.truthy_str (by omega) ⟨H,I.tok _,q⟩
 |byt y=>
  obtain⟨t,rfl⟩:=rx
  obtain⟨hy,e'⟩:y.size<=sizeLine/\k=((y.size:Int) !=0):=e
  subst e'
  exact W.truthy_bytes (by omega) ⟨H,I.tok _,q⟩
 |ref p=>
  cases rx
  have e':(∃xs,SqL X.K H p xs/\k= !xs.isEmpty)\/(∃xs,SqT X.K H p xs/\k= !xs.isEmpty)\/∃kvs,H p=some (.dK kvs)/\k= !kvs.isEmpty:=e
  rcases e' with⟨xs,hx,e'⟩|⟨xs,hx,e'⟩|⟨kvs,hx,e'⟩
  ·subst e'
   obtain⟨its,r,pl,hz⟩:=I.list hx
   have hlen:=r.length
   exact wpAny_truthy_list pl.isList (by simp only[Lw];omega) ⟨H,I.tok _,by rw[mx r];exact q⟩
  ·subst e'
   obtain⟨its,r,pl,hz⟩:=I.tuple hx
   have hlen:=r.length
   exact truthy_tuple pl (by simp only[Lw];omega) ⟨H,I.tok _,by rw[mx r];exact q⟩
  ·subst e'
   obtain⟨hz,hS,vs,r,m⟩:kvs.length<=sizeLine/\(p==sysModules)=false/\∃vs,KV kvs vs/\s.heap.DictOf (cB X.prog X.w) p vs:=I.hok p _ hx
   have hlen:kvs.length=vs.length:=Paired.length r
   exact wpAny_truthy_dict hS m (by omega) ⟨H,I.tok _,by rw[tz r];exact q⟩
 |_=>exact(show False from e).elim
theorem sY:OpR X (binaryOp .Add) (fun x y H Q=>∃i j,x=.str i/\y=.str j/\i.length+j.length<=sizeLine/\Q (.str (i++j)) H):=by
 intro pins s σ H x y v u Q I rx ry h
 obtain⟨i,j,rfl,rfl,hz,q⟩:=h
 obtain⟨t,rfl⟩:=rx
 obtain⟨t',rfl⟩:=ry
 exact add_str (fun t' tk=>⟨.str (i++j),H,I.tok _,⟨_,rfl⟩,q⟩) hz
theorem iq {x:V}{us:List tx}(r:aY [x] us):∃u,us=[u]/\aX x u:=by
 cases r with
 |cons r1 r2=>cases r2;exact⟨_,rfl,r1⟩
theorem mM {x y:V}{us:List tx}(r:aY [x,y] us):∃u w',us=[u,w']/\aX x u/\aX y w':=by
 cases r with
 |cons r1 r2=>
  cases r2 with
  |cons r3 r4=>cases r4;exact⟨_,_,rfl,r1,r3⟩
theorem wc (hc:X.calm=true):bZ X (.builtin "min") (fun xs H Q=>∃i j,xs=[.int i,.int j]/\Q (.int (if j<i then j else i)) H):=by
 intro pins s σ H xs us Q I r h
 obtain⟨i,j,rfl,q⟩:=h
 obtain⟨u,w',rfl,⟨t,rfl⟩,⟨t',rfl⟩⟩:=mM r
 refine min_two_ints (I.ok.hd hc) fun h' tk k=>⟨_,H,I.kept k,?_,q⟩
 by_cases hj:j<i
 ·rw[if_pos hj,if_pos hj];exact⟨_,rfl⟩
 ·rw[if_neg hj,if_neg hj];exact⟨_,rfl⟩
def KS (K:pv)(x:V)(H:Hp)(n:Nat):Prop:=
 match x with
 |.str y=>y.length<=sizeLine/\n=y.length
 |.byt y=>y.size<=sizeLine/\n=y.size
 |.ref p=>(∃xs,SqL K H p xs/\n=xs.length)\/∃xs,SqT K H p xs/\n=xs.length
 |_=>False
theorem lD:bZ X (.builtin "len") (fun xs H Q=>∃x n,xs=[x]/\KS X.K x H n/\Q (.int n) H):=by
 intro pins s σ H xs us Q I r h
 obtain⟨x,n,rfl,e,q⟩:=h
 obtain⟨u,rfl,rx⟩:=iq r
 have hl:=iG
 have hs:sizeLine=16777216:=NA
 cases x with
 |str y=>
  obtain⟨t,rfl⟩:=rx
  obtain⟨hy,e'⟩:y.length<=sizeLine/\n=y.length:=e
  subst e'
  exact len_str (by omega) ⟨.int _,H,I.tok _,⟨_,rfl⟩,q⟩
 |byt y=>
  obtain⟨t,rfl⟩:=rx
  obtain⟨hy,e'⟩:y.size<=sizeLine/\n=y.size:=e
  subst e'
  exact W.len_bytes (by omega) ⟨.int _,H,I.tok _,⟨_,rfl⟩,q⟩
 |ref p=>
  cases rx
  have e':(∃xs,SqL X.K H p xs/\n=xs.length)\/∃xs,SqT X.K H p xs/\n=xs.length:=e
  rcases e' with⟨xs,hx,e'⟩|⟨xs,hx,e'⟩
  ·subst e'
   obtain⟨its,r',pl,hz⟩:=I.list hx
   have hlen:=r'.length
   exact Calls.call_len_list pl.isList (by simp only[Lw];omega) ⟨.int xs.length,H,I.tok _,⟨_,by simp only[Lw];rw[hlen]⟩,q⟩
  ·subst e'
   obtain⟨its,r',pl,hz⟩:=I.tuple hx
   have hlen:=r'.length
   exact len_tuple pl (by simp only[Lw];omega) ⟨.int xs.length,H,I.tok _,⟨_,by simp only[Lw];rw[hlen]⟩,q⟩
 |_=>exact(show False from e).elim
end
structure lv (h:Heap)(x dx C:Addr)(mA:Str->Option tx):Prop where
 obj:h.get? x=some (Py C dx)
 ns:h.Ns1 dx mA
 ne:dx≠x
theorem vc {h:Heap}{dx:Addr}{mA:Str->Option tx}(n:h.Ns1 dx mA):∃od,h.get? dx=some od/\∀name,TY name od=some (mA name):=by
 obtain⟨o,es,ep,ho,hd,hk,_,hm⟩:=n
 refine⟨o,ho,fun name=>?_⟩
 have e:=hm name
 unfold nsFind findBy at e
 rw[<-Array.find?_toList]at e
 unfold TY
 rw[hd]
 dsimp only
 split
 ·rename_i y q
  rw[q]at e
  exact congrArg some e
 ·rename_i q
  rw[q]at e
  have a:es.toList.any (·.refKey)=false:=by
   rw[List.any_eq_false]
   intro y hy
   obtain⟨z,t,hkey⟩:=hk y (Array.mem_toList_iff.mp hy)
   simp[DictEntry.refKey,hkey]
  have a':¬es.toList.any (·.refKey)=true:=by rw[a];exact LQ
  rw[if_neg a']
  exact congrArg some e
theorem lv.look {h:Heap}{x dx C:Addr}{mA:Str->Option tx}(I:lv h x dx C mA):∃od,W.InstAt h x (Py C dx) C (some od)/\∀name,TY name od=some (mA name):=
 let ⟨od,ho,hl⟩:=vc I.ns
 ⟨od,⟨I.obj,rfl,rfl,ho⟩,hl⟩
section
variable {prog:LV}{w:Mx}{A:Mq}{E:tx->If->Prop}{s:If}{K:pv}{x dx C f:Addr}{mA:Str->Option tx}{name:Str}{v:tx}
theorem AZ {expr:Bool}{Q:tx->If->Prop}(X:K.In s.heap)(I:lv s.heap x dx C mA)(hg:Pj K C name=true)(hh:Oz K C=true)
  (ha:LP K (.ref C) name=some none)(hv:mA name=some v)(hv':W.handedIn v=true)(h:Q v {s with toks:=s.toks+1}):
  wpAny (model prog w) A (getAttr (.ref x) name expr) Q E s:=by
 obtain⟨od,J,hl⟩:=I.look
 exact W.get_value X J (PR hg).1 (W.findObj_own hh ha rfl (by rw[hl,hv])) hv' h
theorem xb {pl:Sem Bool}{Q:tx×List tx->If->Prop}(X:K.In s.heap)(I:lv s.heap x dx C mA)(hg:Pj K C name=true)
  (hf:LP K (.ref C) name=some (some (.ref f)))(ht:Oc K (.ref f)=true)(hv:mA name=none)(h:Q (.ref f,[.ref x]) s):
  wpAny (model prog w) A (getMethod (.ref x) name pl) Q E s:=by
 obtain⟨od,J,hl⟩:=I.look
 exact W.method_fn X J (PR hg).1 (PR hg).2 hf (beq_iff_eq.mp ht) (by show(TY name od).map (·.isSome)=some false;rw[hl,hv];rfl) h
theorem Bg {ns:List Str}{Q:Unit->If->Prop}(X:K.In s.heap)(I:lv s.heap x dx C mA)
  (hs:LP K (.ref C) "__setattr__"=some (some (.builtin "object.__setattr__")))(hp:PQ K C=true)(ht:UM K C name=some none)(hh:Oz K C=true)
  (hw:QZ mA ns)(hsz:ns.length<=sizeLine)
  (h:∀h',lv h' x dx C (fun y=>if y=name then some v else mA y)->Nd dx s.heap h'->Q () {s with heap:=h',toks:=s.toks+2}):
  wpAny (model prog w) A (setAttr (.ref x) name v) Q E s:=by
 obtain⟨od,J,hl⟩:=I.look
 refine W.set_plain X J hs (W.osa_open (s:={s with toks:=s.toks+1}) (r:=none) X J hp ht fun b=>?_)
 obtain⟨cd,hc,hd'⟩:=W.any_some hh
 have hx:s.heap.get? x=some ⟨.ref C,some dx,.plain,#[]⟩:=I.obj
 refine ah (Lo (ah (ah (QY hx (ah (W.Looks.here (s:={s with toks:=s.toks+1}) (W.looks_clsIn X hc) ?_))))))
 rw[hd']
 refine Lo (a:=some dx) (ah (Lo (ah ?_)))
 refine Tj (s:={s with toks:=s.toks+1}) I.ns fun h' hn2 hs2=>?_
 obtain⟨oD,esD,epD,hoD,hdD,hcD⟩:=hn2.count (Rn name v hw)
 refine ah (RF hoD (by rw[hdD];exact RG (Mi hcD (by rw[LU];omega))) ?_)
 exact Lo (h _ ⟨(hs2.2 _ (Mh I.ne)).trans I.obj,hn2,I.ne⟩ hs2)
theorem xu {R:Qg->If->Prop}{vs:List tx}{kw:List (Str×tx)}(X:K.In s.heap)(hm:Re K C=true)
  (hi:LP K (.ref C) "__init__"=some (some (.ref f)))(hf:W.typeIn K (.ref f)=some (.type "function"))
  (h:codeAny (model prog w) (A.under (.builtin "type.__call__" ⟨.ref C::vs,kw⟩)) (.call (.ref f) ⟨.ref (s.heap.objs.size+1)::vs,kw⟩) (W.InitBack (s.heap.objs.size+1) R)
   {s with heap:=(s.heap.push OA).push (Py C s.heap.objs.size)}):
  codeAny (model prog w) A (.call (.ref C) ⟨vs,kw⟩) R s:=by
 obtain⟨hh,g,d,t,os⟩:=s
 exact W.make_core (W.makes_of X hm) (QF X hi) (fun self=>W.bind_fn X self hf) (.inl rfl) h
end
def dM (f:Str)(v:V):List (Str×V)->List (Str×V)
 |[]=>[(f,v)]
 |(g,x)::r=>if g=f then(g,v)::r else(g,x)::dM f v r
theorem iC (f g:Str)(v:V):∀fs:List (Str×V),(dM f v fs).lookup g=if g=f then some v else fs.lookup g
 |[]=>by
  show Na g [(f,v)]=_
  by_cases h:g=f
  ·have hb:(g==f)=true:=beq_iff_eq.mpr h
   simp only[Na,hb,if_pos h]
  ·have hb:(g==f)=false:=beq_eq_false_iff_ne.mpr h
   simp only[Na,hb,if_neg h]
 |(k,x)::r=>by
  have ih:=iC f g v r
  rw[show dM f v ((k,x)::r)=(if k=f then(k,v)::r else(k,x)::dM f v r)from rfl]
  by_cases hk:k=f
  ·rw[if_pos hk]
   by_cases h:g=k
   ·have hb:(g==k)=true:=beq_iff_eq.mpr h
    simp only[Na,hb,if_pos (h.trans hk)]
   ·have hb:(g==k)=false:=beq_eq_false_iff_ne.mpr h
    simp only[Na,hb,if_neg (fun e:g=f=>h (e.trans hk.symm))]
  ·rw[if_neg hk]
   by_cases h:g=k
   ·have hb:(g==k)=true:=beq_iff_eq.mpr h
    simp only[Na,hb,if_neg (fun e:g=f=>hk (h.symm.trans e))]
   ·have hb:(g==k)=false:=beq_eq_false_iff_ne.mpr h
    simp only[Na,hb]
    exact ih
theorem jH (f:Str)(v:V):∀fs:List (Str×V),f∈(dM f v fs).map (·.1)/\∀g,g∈fs.map (·.1)->g∈(dM f v fs).map (·.1)
 |[]=>⟨by simp[dM],fun g h=>by simp at h⟩
 |(k,x)::r=>by
  obtain⟨i1,i2⟩:=jH f v r
  rw[show dM f v ((k,x)::r)=(if k=f then(k,v)::r else(k,x)::dM f v r)from rfl]
  by_cases hk:k=f
  ·rw[if_pos hk]
   subst hk
   exact⟨by simp,fun g h=>by simpa using h⟩
  ·rw[if_neg hk]
   refine⟨?_,fun g h=>?_⟩
   ·rw[Md]
    exact Mc _ i1
   ·rw[Md]at h⊢
    rcases LG.mp h with e|e
    ·exact LG.mpr (.inl e)
    ·exact Mc _ (i2 g e)
theorem kW (f:Str)(v:V):∀fs:List (Str×V),(dM f v fs).length<=fs.length+1
 |[]=>by simp[dM]
 |(k,x)::r=>by
  have ih:=kW f v r
  rw[show dM f v ((k,x)::r)=(if k=f then(k,v)::r else(k,x)::dM f v r)from rfl]
  by_cases hk:k=f
  ·rw[if_pos hk,LU,LU];omega
  ·rw[if_neg hk,LU,LU];omega
theorem cU.some_of {v:V}{o:Option tx}(r:cU (some v) o):∃u,o=some u/\aX v u:=by
 cases o with
 |none=>exact(show False from r).elim
 |some u=>exact⟨u,rfl,r⟩
theorem cU.none_of {o:Option tx}(r:cU none o):o=none:=by
 cases o with
 |none=>rfl
 |some u=>exact(show False from r).elim
theorem vG {v:V}{u:tx}(r:aX v u):W.handedIn u=true:=by
 cases v with
 |non=>cases (show u=NL from r);rfl
 |bl b=>cases (show u=Nq b from r);rfl
 |int i=>obtain⟨t,e⟩:=(show ∃t,u=Qv i t from r);cases e;rfl
 |str x=>obtain⟨t,e⟩:=(show ∃t,u=OM x t from r);cases e;rfl
 |byt b=>obtain⟨t,e⟩:=(show ∃t,u=UO b t from r);cases e;rfl
 |flt b=>obtain⟨t,e⟩:=(show ∃t,u=Sr b t from r);cases e;rfl
 |ref a=>cases (show u=LF a from r);rfl
 |ty n=>cases (show u=OX n from r);rfl
section
variable {P:LV}{w:Mx}{H H':Hp}{h h':Heap}{a C dx:Addr}{fs fs':List (Str×V)}
theorem iW (hok:HOk P w H h)(e:H a=some (.ins C dx fs)):∃mA,lv h a dx C mA/\(∀f,cU (fs.lookup f) (mA f))/\QZ mA (fs.map (·.1))/\fs.length<=1000/\H dx=some (.own a):=by
 obtain⟨d,z,ne,ob,mA,n,r,q⟩:=(show bg P w H h a (.ins C dx fs)from hok a _ e)
 exact⟨mA,⟨ob,n,ne⟩,r,q,z,d⟩
end
structure Cls (K:pv)(C:Addr):Prop where
 pg:Pj K C Nw=true
 hd:Oz K C=true
 po:PQ K C=true
 sa:LP K (.ref C) "__setattr__"=some (some (.builtin "object.__setattr__"))
theorem Cls.get {K:pv}{C:Addr}(c:Cls K C)(f:Str):Pj K C f=true:=c.pg
def cO (K:pv)(C:Addr)(f:Str):Prop:=LP K (.ref C) f=some none
theorem cO.taker {K:pv}{C:Addr}{f:Str}(n:cO K C f):UM K C f=some none:=by
 unfold UM
 rw[show LP K (.ref C) f=some none from n]
 rfl
structure dR (K:pv)(C:Addr)(m:Str)(f:Addr):Prop where
 at_:LP K (.ref C) m=some (some (.ref f))
 fn:Oc K (.ref f)=true
 kp:Ov K (.ref f)=true
section
variable {X:Cx}{pins:List (Addr×Obj)}{σ:St}{H:Hp}{s:If}{a C dx:Addr}{fs:List (Str×V)}{f:Str}{v:V}{A:Mq}{E:tx->If->Prop}
theorem mL {b:Bool}{Q:tx->If->Prop}(I:Inv X pins σ H s)(e:H a=some (.ins C dx fs))(c:Cls X.K C)(n:cO X.K C f)(l:fs.lookup f=some v)
  (h:∀u s',Inv X pins σ H s'->aX v u->Q u s'):wpAny (model X.prog X.w) A (getAttr (.ref a) f b) Q E s:=by
 obtain⟨mA,O,r,_,_,_⟩:=iW I.hok e
 obtain⟨u,hu,ru⟩:=cU.some_of (v:=v) (o:=mA f) (by rw[<-l];exact r f)
 exact AZ I.kIn O (c.get f) c.hd n hu (vG ru) (h u _ (I.tok _) ru)
theorem mE {m:Str}{g:Addr}{pl:Sem Bool}{Q:tx×List tx->If->Prop}(I:Inv X pins σ H s)(e:H a=some (.ins C dx fs))(c:Cls X.K C)(k:dR X.K C m g)(l:fs.lookup m=none)
  (h:Q (.ref g,[.ref a]) s):wpAny (model X.prog X.w) A (getMethod (.ref a) m pl) Q E s:=by
 obtain⟨mA,O,r,_,_,_⟩:=iW I.hok e
 have hn:mA m=none:=cU.none_of (by rw[<-l];exact r m)
 exact xb I.kIn O (c.get m) k.at_ k.fn hn h
theorem tw {y:V}{u:tx}{Q:Unit->If->Prop}(I:Inv X pins σ H s)(e:H a=some (.ins C dx fs))(c:Cls X.K C)(n:cO X.K C f)(hl:fs.length<1000)(ry:aX y u)
  (h:∀s',Inv X pins σ (upd H a (.ins C dx (dM f y fs))) s'->Q () s'):wpAny (model X.prog X.w) A (setAttr (.ref a) f u) Q E s:=by
 obtain⟨mA,O,r,wi,_,ho⟩:=iW I.hok e
 have hz:(fs.map (·.1)).length<=sizeLine:=by rw[Ll,NA];omega
 refine Bg I.kIn O c.sa c.po n.taker c.hd wi hz fun h' O' sb=>h _ ?_
 have hd:∃o,h'.get? dx=some o:=let ⟨o,_,_,e',_⟩:=O'.ns;⟨o,e'⟩
 refine I.write (x:=a) (e:=dx) (by rw[e];exact Nh) (.inr ho) (fun b q hb z=>(sb.2 b hb).trans z) hd ?_
 refine⟨by rw[ao O.ne];exact ho,?_,O.ne,O'.obj,_,O'.ns,fun g=>?_,fun g hg=>?_⟩
 ·have:=kW f y fs;omega
 ·show cU ((dM f y fs).lookup g) (if g=f then some u else mA g)
  rw[iC]
  by_cases q:g=f
  ·rw[if_pos q,if_pos q];exact ry
  ·rw[if_neg q,if_neg q];exact r g
 ·by_cases q:g=f
  ·rw[q];exact(jH f y fs).1
  ·refine(jH f y fs).2 g (wi g fun z=>hg ?_)
   show(if g=f then some u else mA g)=none
   rw[if_neg q];exact z
theorem Inv.made (I:Inv X pins σ H s):Inv X pins σ (upd (upd H s.heap.objs.size (.own (s.heap.objs.size+1))) (s.heap.objs.size+1) (.ins C s.heap.objs.size []))
  {s with heap:=(s.heap.push OA).push (Py C s.heap.objs.size)}:=by
 have e1:(s.heap.push OA).get? s.heap.objs.size=some OA:=Ly s.heap rfl
 have e2:((s.heap.push OA).push (Py C s.heap.objs.size)).get? (s.heap.objs.size+1)=some (Py C s.heap.objs.size):=by
  have:=Ly (s.heap.push OA) (o:=Py C s.heap.objs.size) rfl
  rwa [NG]at this
 have e3:(s.heap.push OA).Ns s.heap.objs.size (fun _=>none):=⟨OA,#[],_,e1,rfl,(fun e he=>absurd he (by simp)),fun _=>rfl⟩
 have I1:=I.laid (a:=s.heap.objs.size) (o:=.own (s.heap.objs.size+1)) (h':=s.heap.push OA) (t':=s.toks) (fun b u q=>cW _ q) (gV _) ⟨_,e1⟩
 refine I1.laid (a:=s.heap.objs.size+1) (o:=.ins C s.heap.objs.size []) (t':=s.toks) (fun b u q=>cW _ q) (OR (NG _ _)) ?_
 have ne:s.heap.objs.size≠s.heap.objs.size+1:=LH (On _)
 refine⟨by rw[ao ne,ak],Mj _,ne,e2,fun _=>none,(Se e3).at fun o q=>cW _ q,fun _=>Nh,fun y hy=>absurd rfl hy⟩
theorem An {prog:LV}{w:Mx}{env:Env}{e:Expr}{f:Str}{pos:Pos}{s:If}{Q:tx->If->Prop}(hb:attributeBase e f env (eval e env)=eval e env)
  (h:wpAny (model prog w) A (eval e env) (fun o s₁=>wpAny (model prog w) A (getAttr o f true) Q E s₁) E s):wpAny (model prog w) A (eval (.Attribute e f pos) env) Q E s:=
 Attribute_any_ h (by rw[arm_eval_Attribute,hb])
end
def cC (K:pv)(ta:TE)(f:Str):TE:=fun σ H Q=>ta σ H fun x H1=>∃a C dx fs v,x=.ref a/\H1 a=some (.ins C dx fs)/\Cls K C/\cO K C f/\fs.lookup f=some v/\Q v H1
def fV (K:pv)(ta tv:TE)(f:Str):TS:=fun D σ H=>tv σ H fun y H1=>ta σ H1 fun x H2=>∃a C dx fs,x=.ref a/\H2 a=some (.ins C dx fs)/\Cls K C/\cO K C f/\fs.length<1000/\
 D.nx σ (upd H2 a (.ins C dx (dM f y fs)))
section
variable {X:Cx}{o e value:Expr}{f:Str}{pos pos' tpos:Pos}{ta tv:TE}
theorem Bz (he:PE X e ta)(hb:attributeBase e f X.env (eval e X.env)=eval e X.env):PE X (.Attribute e f pos) (cC X.K ta f):=by
 intro pins s σ H Q I h
 refine An hb (thn (he pins s σ H _ I h) fun u s1 ⟨x,H1,I1,rx,a,C,dx,fs,v,ex,ea,c,n,l,q⟩=>?_)
 subst ex
 obtain rfl:u=LF a:=rx
 exact mL I1 ea c n l fun u' s2 I2 ru=>⟨v,H1,I2,ru,q⟩
theorem DD (ha:PE X o ta)(hv:PE X value tv)(hs:swapsWith value (some (.Attribute o f pos')) pos.line X.env=pure false):PS X (.Assign [.Attribute o f pos'] value pos) (fV X.K ta tv f):=by
 intro pins s σ H D I h
 refine Rt (thn (hv pins s σ H _ I h) fun u s1 ⟨y,H1,I1,ry,q⟩=>thn (ha pins s1 σ H1 _ I1 q) fun ov s2 ⟨x,H2,I2,rx,a,C,dx,fs,ex,ea,c,n,l,q2⟩=>?_) hs
 subst ex
 obtain rfl:ov=LF a:=rx
 exact tw I2 ea c n l ry fun s3 I3=>⟨σ,_,I3,q2⟩
end
section
variable {X:Cx}{pins:List (Addr×Obj)}{σ:St}{H:Hp}{s:If}{A:Mq}{E:tx->If->Prop}{Q:tx->If->Prop}{c:tx}{b:Bool}
inductive fS (K:pv)(H:Hp):V->tx->Prop where
 |non:fS K H .non (.type "NoneType")
 |bl (x:Bool):fS K H (.bl x) (.type "bool")
 |int (i:Int):fS K H (.int i) (.type "int")
 |str (x:Str):fS K H (.str x) (.type "str")
 |flt (x:UInt64):fS K H (.flt x) (.type "float")
 |lst {a:Addr} {xs:List V} (e:H a=some (.lst xs)):fS K H (.ref a) (.type "list")
 |frz {a:Addr} {o:Obj} {xs:List V} (e:H a=some (.frz o (.lst xs))):fS K H (.ref a) (.type "list")
 |tup {a:Addr} {xs:List V} (e:H a=some (.tup xs)):fS K H (.ref a) (.type "tuple")
 |dK {a:Addr} {kvs:List (Key×V)} (e:H a=some (.dK kvs)):fS K H (.ref a) (.type "dict")
 |dT {a:Addr} {kvs:List (List Key×V)} (e:H a=some (.dT kvs)):fS K H (.ref a) (.type "dict")
 |ins {a C dx:Addr} {fs:List (Str×V)} (e:H a=some (.ins C dx fs)) (cl:Cls K C) (ha:LP K (.ref C) "__class__"=some (some (.builtin "object.__class__")))
  (hn:W.specialIn K (.builtin "object.__class__") "__get__"=some (some (.builtin "getset_descriptor.__get__"))) (htk:W.takesIn K (.builtin "object.__class__")=some true)
  (hm:Nt K C (.type "object")=some true):fS K H (.ref a) (.ref C)
theorem vm {x:V}{u t:tx}(I:Inv X pins σ H s)(rx:aX x u)(ty:fS X.K H x t)(e:NI X.K t c=some b)(h:∀tk,Q (.bool b) {s with toks:=tk}):
  wpAny (model X.prog X.w) A (call (.builtin "isinstance") [u,c]) Q E s:=by
 cases ty with
 |non=>cases (show u=NL from rx);exact Ot W.kitx_none I.kIn Nh e (fun z=>nomatch z) h
 |bl y=>cases (show u=Nq y from rx);exact Ot W.kitx_bool I.kIn Nh e (fun z=>nomatch z) h
 |int i=>obtain⟨t,q⟩:=(show ∃t,u=Qv i t from rx);cases q;exact Ot W.kitx_int I.kIn Nh e (fun z=>nomatch z) h
 |str y=>obtain⟨t,q⟩:=(show ∃t,u=OM y t from rx);cases q;exact Ot W.kitx_str I.kIn Nh e (fun z=>nomatch z) h
 |flt y=>obtain⟨t,q⟩:=(show ∃t,u=Sr y t from rx);cases q;exact Ot W.kitx_float I.kIn Nh e (fun z=>nomatch z) h
 | @lst a xs ea=>
   cases (show u=LF a from rx)
   obtain⟨_,_,n,_,h1⟩:=(show bg X.prog X.w H s.heap a (.lst xs)from I.hok a _ ea)
   exact Ot W.kitx_list I.kIn ⟨_,h1,rfl⟩ e (fun z=>nomatch z) h
 | @frz a ob xs ea=>
   cases (show u=LF a from rx)
   obtain⟨_,_,_,n,_,h1⟩:=(show bg X.prog X.w H s.heap a (.frz ob (.lst xs))from I.hok a _ ea)
   exact Ot W.kitx_list I.kIn ⟨_,h1,rfl⟩ e (fun z=>nomatch z) h
 | @tup a xs ea=>
   cases (show u=LF a from rx)
   obtain⟨_,_,_,p⟩:=(show bg X.prog X.w H s.heap a (.tup xs)from I.hok a _ ea)
   obtain⟨o,h1,h2,_⟩:=p
   exact Ot W.kitx_tuple I.kIn ⟨o,h1,h2⟩ e (fun z=>nomatch z) h
 | @dK a kvs ea=>
   cases (show u=LF a from rx)
   obtain⟨_,_,vs,_,p⟩:=(show bg X.prog X.w H s.heap a (.dK kvs)from I.hok a _ ea)
   obtain⟨o,es,ep,h1,h2,_⟩:=p
   exact Ot W.kitx_dict I.kIn ⟨o,h1,h2.1⟩ e (fun z=>nomatch z) h
 | @dT a kvs ea=>
   cases (show u=LF a from rx)
   obtain⟨_,_,xs,_,o,es,ep,h1,h2,_⟩:=(show bg X.prog X.w H s.heap a (.dT kvs)from I.hok a _ ea)
   exact Ot W.kitx_dict I.kIn ⟨o,h1,h2.1⟩ e (fun z=>nomatch z) h
 | @ins a C dx fs ea cl ha hn htk hm=>
   cases (show u=LF a from rx)
   obtain⟨mA,O,_⟩:=iW I.hok ea
   obtain⟨od,J,_⟩:=O.look
   exact Ot (W.kitx_own (cl.get _) cl.hd ha hn htk hm) I.kIn J e (fun z=>nomatch z) h
end
structure bj (k:Nat)(A:Mq):Prop where
 hd:A.handled=none
 dp:A.depth+3*k+5<recursionLimit
 un:A.units+16*k+200<cLine
theorem bj.mono {j k:Nat}{A:Mq}(r:bj k A)(h:j<=k):bj j A:=⟨r.hd,by have:=r.dp;omega,by have:=r.un;omega⟩
theorem bj.deeper {k:Nat}{A:Mq}(r:bj (k+1) A)(env:Env):bj k (A.deeper env):=
 ⟨r.hd,by have:=r.dp;show A.depth+1+3*k+5<_;omega,by have:=r.un;show A.units+3+16*k+200<_;omega⟩
theorem ui {A:Mq}{C:Addr}{us:List tx}{kw:List (Str×tx)}:(A.under (.builtin "type.__call__" ⟨.ref C::us,kw⟩)).depth=A.depth+1:=by
 first|rfl|simp[RN,Code.weight,Code.isCreation,Code.isGuard,Code.isCaller,Code.frames,Sg,guardIds]
theorem ug {A:Mq}{C:Addr}{us:List tx}{kw:List (Str×tx)}:(A.under (.builtin "type.__call__" ⟨.ref C::us,kw⟩)).units=A.units+1:=by
 first|rfl|simp[RN,Code.cUnits,Code.frames,Sg]
theorem bj.make {k:Nat}{A:Mq}(r:bj (k+1) A)(C:Addr)(us:List tx)(kw:List (Str×tx)):bj k (A.under (.builtin "type.__call__" ⟨.ref C::us,kw⟩)):=
 ⟨r.hd,by have:=r.dp;rw[ui];omega,by have:=r.un;rw[ug];omega⟩
theorem bj.depth {k:Nat}{A:Mq}(r:bj k A):A.depth<recursionLimit:=by have:=r.dp;omega
def am:TA:=fun _ H Q=>Q [] H
def af (ta:TE)(tr:TA):TA:=fun σ H Q=>ta σ H fun x H1=>tr σ H1 fun xs H2=>Q (x::xs) H2
section
variable {X:Cx}{e:Expr}{es:List Expr}{te:TE}{t:TA}{pos:Pos}
theorem BC:PA X [] am:=fun _ _ _ _ H Q I h=>QV ⟨[],H,I,.nil,h⟩
theorem AD (ha:PE X e te)(hr:PA X es t)(hs:starEach (e::es) X.env=(false,eval e X.env)::starEach es X.env:=by rfl):PA X (e::es) (af te t):=by
 intro pos pins s σ H Q I h
 rw[hs]
 show wpAny _ _ (spliced ((false,eval e X.env)::backTo pos (starEach es X.env))) _ _ s
 refine Qx (thn (ha pins s σ H _ I h) fun u s1 ⟨x,H1,I1,r1,q1⟩=>?_)
 exact thn (hr pos pins s1 σ H1 _ I1 q1) fun us s2 ⟨xs,H2,I2,r2,q2⟩=>⟨x::xs,H2,I2,.cons r1 r2,q2⟩
def bB (t:TA):TE:=fun σ H Q=>t σ H fun xs H1=>xs.length<=sizeLine/\∀p,H1 p=none->Q (.ref p) (upd H1 p (.tup xs))
def dg (t:TA):TE:=fun σ H Q=>t σ H fun xs H1=>xs.length<=sizeLine/\∀p,H1 p=none->Q (.ref p) (upd H1 p (.lst xs))
theorem En {x1}(h:PA X es t):PE X (.Tuple es x1 pos) (bB t):=by
 intro pins s σ H Q I hq
 refine wpAny_Tuple_spliced (thn (h pos pins s σ H _ I hq) fun us s1 ⟨xs,H1,I1,r,z,q⟩=>⟨by rw[<-r.length];exact z,?_⟩)
 have hf:H1 s1.heap.objs.size=none:=I1.hok.fresh (gV _)
 refine⟨.ref s1.heap.objs.size,upd H1 s1.heap.objs.size (.tup xs),I1.laid (t':=s1.toks) (fun b u e=>cW _ e) (gV _) ?_,rfl,q _ hf⟩
 exact⟨z,us,r,⟨_,Ly _ rfl,rfl,_,rfl⟩⟩
theorem BU (h:PA X es t):PE X (.List es pos) (dg t):=by
 intro pins s σ H Q I hq
 refine wpAny_List_spliced (thn (h pos pins s σ H _ I hq) fun us s1 ⟨xs,H1,I1,r,z,q⟩=>⟨by rw[<-r.length];exact z,?_⟩)
 have hf:H1 s1.heap.objs.size=none:=I1.hok.fresh (gV _)
 refine⟨.ref s1.heap.objs.size,upd H1 s1.heap.objs.size (.lst xs),I1.laid (t':=s1.toks) (fun b u e=>cW _ e) (gV _) ?_,rfl,q _ hf⟩
 exact⟨z,us,0,r,Ly _ rfl⟩
end
abbrev Sp:=List V->Hp->VK->XK->Prop
abbrev CXT:=List Env->Hp->If->XK->tx->If->Prop
structure jz (P:LV)(w:Mx)(K:pv)(mg:Str->Option tx)(base:Heap)(A:Mq)(outer:List Env)(s:If)(H:Hp):Prop where
 frames:A.frames=some outer
 mod:Mod K mg base
 bs:∀b o,base.get? b=some o->s.heap.get? b=some o/\H b=none
 bsz:base.objs.size<=s.heap.objs.size
 funs:s.heap.FunFrames base outer
 frf:∀b∈frs outer,H b=none
 hok:HOk P w H s.heap
 bare:Qb s.gens
def CE (outer:List Env)(P:LV)(w:Mx)(H:Hp)(s:If)(Q:VK)(u:tx)(s':If):Prop:=
 ∃v H',s'.os=s.os/\Qb s'.gens/\Un (frs outer) [] H H' s.heap s'.heap/\HOk P w H' s'.heap/\aX v u/\Q v H'
def CR (CX:CXT)(outer:List Env)(P:LV)(w:Mx)(H:Hp)(s:If)(Q:VK)(E:XK)(r:Qg)(s':If):Prop:=
 match r with
 |.ok (.ret u)=>CE outer P w H s Q u s'
 |.ok _=>False
 |.error e=>CX outer H s E e s'
structure aQ (P:LV)(w:Mx)(K:pv)(mg:Str->Option tx)(base:Heap)(CX:CXT)(k:Nat)(f:Addr)(fd:LI)(ps:List Str)(sp:Sp):Prop where
 len:∀vs H Q E,sp vs H Q E->vs.length=ps.length
 run:∀(A:Mq)(outer:List Env)(s:If)(H:Hp)(args:Args)(us:List tx)(vs:List V)(Q:VK)(E:XK),bj k A->jz P w K mg base A outer s H->SR s fd args (ps.zip us)->aY vs us->sp vs H Q E->
  codeAny (model P w) A (.call (.ref f) args) (CR CX outer P w H s Q E) s
theorem jz.make {P:LV}{w:Mx}{K:pv}{mg:Str->Option tx}{base:Heap}{A:Mq}{outer:List Env}{s:If}{H:Hp}(e:jz P w K mg base A outer s H)(C:Addr)(us:List tx)(kw:List (Str×tx)):
 jz P w K mg base (A.under (.builtin "type.__call__" ⟨.ref C::us,kw⟩)) outer s H:=⟨by first|exact e.frames|(simpa[RN,Code.envs,Sg,pushEnvs]using e.frames),e.mod,e.bs,e.bsz,e.funs,e.frf,e.hok,e.bare⟩
section
variable {X:Cx}{pins:List (Addr×Obj)}{σ:St}{H:Hp}{s s':If}
theorem Inv.env0 (I:Inv X pins σ H s):jz X.prog X.w X.K X.mg X.base X.A X.stack s H:=
 ⟨I.ok.frames,I.ok.mod,I.bs,Mi I.ok.bsz I.sz,I.stack,I.stkFree,I.hok,I.bare⟩
theorem Inv.after {Q:VK}{u:tx}(I:Inv X pins σ H s)(h:CE X.stack X.prog X.w H s Q u s'):EP X pins σ Q u s':=by
 obtain⟨v,H',os,bare,un,hok,r,q⟩:=h
 obtain⟨hh,g,d,t,os'⟩:=s'
 obtain rfl:os'=s.os:=os
 exact⟨v,H',I.call (h':=hh) (g':=g) (d':=d) (t':=t) (ch:=[]) un hok bare (fun b z=>absurd z (by simp)),r,q⟩
end
def bv (K:pv)(fd:LI)(ps:List Str)(ds:List tx):Prop:=
 ∀(s:If)(us:List tx),K.In s.heap->(us++ds).length=ps.length->SR s fd ⟨us,[]⟩ (ps.zip (us++ds))
theorem bv.all {K:pv}{fd:LI}{ps:List Str}(h:∀us:List tx,us.length=ps.length->bindArgs fd ⟨us,[]⟩=pure (ps.zip us)):bv K fd ps []:=fun s us _ hl=>by
 rw[MJ]at hl⊢
 exact .of_eq (h us hl)
section
variable {X:Cx}{CX:CXT}{k:Nat}{f C:Addr}{fd:LI}{ps:List Str}{sp:Sp}{dvs:List V}{ds:List tx}{E:XK}{x m:Str}{p pos apos:Pos}{e o:Expr}{es:List Expr}{ta:TE}{t:TA}
structure Mk (K:pv)(C f:Addr):Prop where
 makes:Re K C=true
 init:LP K (.ref C) "__init__"=some (some (.ref f))
 fn:Oc K (.ref f)=true
 kp:Ov K (.ref C)=true
end
def PK (X:Cx)(kws:List Keyword)(t:TA):Prop:=
 ∀(pos:Pos)(pins:List (Addr×Obj))(s:If)(σ:St)(H:Hp)(Q:List V->Hp->Prop),Inv X pins σ H s->t σ H Q->wpAny (model X.prog X.w) X.A (evalAll ((backToKw pos (keywordEach kws X.env)).map (·.2))) (AP X pins σ Q) X.xe s
structure aF (N P:List Str)(sc:Scope):Prop where
 kind:sc.kind=.function
 co:sc.isCoroutine=false
 gen:sc.isGenerator=false
 nd:N.Nodup
 pre:N.take P.length=P
 par:∀x∈P,sc.names.lookup x=some .local\/sc.names.lookup x=some .cell
 nofree:∀y∈sc.names,y.2≠.free
theorem oA {kindOf:Str->Option NR}{x:Str}:∀{binds:List (Str×tx)}{m:Str->Option tx},(∀v,(x,v)∉binds)->bindL kindOf binds m x=m x
 |[],_,_=>rfl
 |(n,v)::r,m,h=>by
  unfold bindL
  rw[oA fun w hw=>h w (Mc _ hw)]
  split
  ·have:x≠n:=by rintro rfl;exact h v Mm
   simp[this]
  ·rfl
theorem nU {kindOf:Str->Option NR}{x:Str}:∀{binds:List (Str×tx)}{m:Str->Option tx},(∀v,(x,v)∉binds)->bindC kindOf binds m x=m x
 |[],_,_=>rfl
 |(n,v)::r,m,h=>by
  unfold bindC
  rw[nU fun w hw=>h w (Mc _ hw)]
  split
  ·rfl
  ·have:x≠n:=by rintro rfl;exact h v Mm
   simp[this]
theorem oq {kindOf:Str->Option NR}{x:Str}{v:tx}:∀{P:List Str}{vs:List tx}{i:Nat}{m:Str->Option tx},P.Nodup->P[i]? =some x->vs[i]? =some v->kindOf x=some .local->
  bindL kindOf (P.zip vs) m x=some v
 |[],_,_,_,_,h,_,_=>by simp at h
 |_::_,[],_,_,_,_,h,_=>by simp at h
 |p::P,w::vs,0,m,nd,h1,h2,hk=>by
  simp at h1 h2;subst h1;subst h2
  show bindL kindOf ((p,w)::P.zip vs) m p=_
  unfold bindL
  rw[oA fun v hv=>(MS.mp nd).1 (Nv hv).1,if_pos hk]
  simp
 |p::P,w::vs,i+1,m,nd,h1,h2,hk=>by
  show bindL kindOf ((p,w)::P.zip vs) m x=_
  unfold bindL
  exact oq (i:=i) (MS.mp nd).2 (by simpa using h1) (by simpa using h2) hk
theorem oB {kindOf:Str->Option NR}{x:Str}{v:tx}:∀{P:List Str}{vs:List tx}{i:Nat}{m:Str->Option tx},P.Nodup->P[i]? =some x->vs[i]? =some v->kindOf x≠some .local->
  bindC kindOf (P.zip vs) m x=some v
 |[],_,_,_,_,h,_,_=>by simp at h
 |_::_,[],_,_,_,_,h,_=>by simp at h
 |p::P,w::vs,0,m,nd,h1,h2,hk=>by
  simp at h1 h2;subst h1;subst h2
  show bindC kindOf ((p,w)::P.zip vs) m p=_
  unfold bindC
  rw[nU fun v hv=>(MS.mp nd).1 (Nv hv).1,if_neg hk]
  simp
 |p::P,w::vs,i+1,m,nd,h1,h2,hk=>by
  show bindC kindOf ((p,w)::P.zip vs) m x=_
  unfold bindC
  exact oB (i:=i) (MS.mp nd).2 (by simpa using h1) (by simpa using h2) hk
def start (N:List Str)(vs:List V):St:=vs.map some++RC (N.length- vs.length) none
def cM (CX:CXT)(P:LV)(w:Mx)(K:pv)(mg:Str->Option tx)(base:Heap)(N:List Str)(qual:Str)(scope:Scope)(f:Addr)(cd:tx)(A:Mq)(outer:List Env)(s:If)(H:Hp)(E:XK):Cx where
 prog:=P
 w:=w
 K:=K
 mg:=mg
 base:=base
 A:=A.deeper (envOfC qual scope s.heap.objs.size f cd)
 N:=N
 s₀:=s
 H₀:=H
 env:=envOfC qual scope s.heap.objs.size f cd
 outer:=outer
 stack:=envOfC qual scope s.heap.objs.size f cd::outer
 ex:=[]
 calm:=true
 fn:=fun _=>true
 pn:=[]
 xe:=fun e s'=>wpAny (model P w) (A.deeper (envOfC qual scope s.heap.objs.size f cd)) (leaving (envOfC qual scope s.heap.objs.size f cd) e) (fun _ s''=>CX outer H s E e s'') (fun e' s''=>CX outer H s E e' s'') s'
theorem rB {sc:Scope}{n:Nat}{x:Str}(h:sc.names.lookup x=some .cell):∃c,(cellsFrom n sc.names []).lookup x=some c:=by
 have q:=Ru sc.names n [] (.inl h)
 exact Mg.mp q
theorem oa {CX:CXT}{P:LV}{w:Mx}{K:pv}{mg:Str->Option tx}{base:Heap}{N ps:List Str}{qual:Str}{scope:Scope}{f:Addr}{cd:tx}{A:Mq}{outer:List Env}{s s1:If}{H:Hp}{E:XK}{us:List tx}{vs:List V}
  (S:aF N ps scope)(hd:A.handled=none)(e0:jz P w K mg base A outer s H)(hl:vs.length=ps.length)(r:aY vs us)
  (x:InCallC s s.heap.objs.size (bindL (envOfC qual scope s.heap.objs.size f cd).kindOf (ps.zip us) fun _=>none) (cellsFrom (s.heap.objs.size+1) scope.names []) (bindC (envOfC qual scope s.heap.objs.size f cd).kindOf (ps.zip us) fun _=>none) s1):
  Inv (cM CX P w K mg base N qual scope f cd A outer s H E) [] (start N vs) H s1:=by
 have hpl:ps.length<=N.length:=by have:=congrArg Qr S.pre;rw[Ls]at this;omega
 obtain⟨h1,tk,rfl,hk⟩:=x.done
 have noA:∀b:Addr,b∉(cM CX P w K mg base N qual scope f cd A outer s H E).ex:=fun b z=>absurd (show b∈([]:List Addr)from z) (by simp)
 refine⟨⟨e0.mod,S.kind,rfl,rfl,gV _,fun y z c h1 h2=>?_,fun y hy=>?_,fun y c _ h=>?_,fun _=>hd,RY e0.frames,.inr ⟨rfl,rfl⟩,fun b z=>absurd z (noA b),e0.bs,e0.bsz,fun b _ _=>noA b,fun b z=>absurd z (noA b),e0.funs,e0.frf⟩,
  rfl,e0.bare,Un.kept hk,⟨_,x.toInCall.ns,fun i y v h1 h2 h3=>?_⟩,fun y c h=>⟨_,x.cell y c h⟩,e0.hok.fresh (gV _),fun y c h=>?_,fun p hp=>absurd (show p∈([]:List (Addr×Obj))from hp) (by simp),e0.hok.kept hk,?_⟩
 ·exact name_of_addr x.apart (MY h1) (MY h2)
 ·have hy:scope.names.lookup y=some .cell\/scope.names.lookup y=some .free:=hy
  rcases hy with hy|hy
  ·exact rB hy
  ·exact absurd rfl (S.nofree _ (MY hy))
 ·exact Ng (x.above y c (MY h))
 ·have hi:i<vs.length:=by
   unfold start at h2
   by_cases hi:i<vs.length
   ·exact hi
   ·rw[Mf (by simpa using hi)]at h2
    rw[RP]at h2
    split at h2<;>cases h2
  have ha:vs[i]?=some v:=by
   unfold start at h2
   rw[Me (by simpa using hi),LO]at h2
   cases e:vs[i]? with
   |none=>rw[e]at h2;cases h2
   |some a=>rw[e]at h2;cases h2;rfl
  obtain⟨u,hu,rv⟩:=r.get ha
  have hp:ps[i]?=some y:=by
   rw[<-S.pre,ME (by omega)];exact h1
  have ndP:ps.Nodup:=by rw[<-S.pre];exact S.nd.sublist (Tf _ _)
  refine⟨u,rv,?_⟩
  rcases S.par y (Lu hp)with k|k
  ·exact .inl ⟨k,oq ndP hp hu k⟩
  ·obtain⟨c,e⟩:=rB (n:=s.heap.objs.size+1) k
   refine .inr ⟨.inl k,c,e,?_⟩
   have q:=x.cell y c e
   rw[oB ndP hp hu (by show scope.names.lookup y≠_;rw[k];decide)]at q
   exact q
 ·exact e0.hok.fresh (Ng (x.above y c (MY h)))
 ·unfold start
  show _=N.length
  rw[Lm,Ll,PY]
  omega
theorem zv {CX:CXT}{P:LV}{w:Mx}{K:pv}{mg:Str->Option tx}{base:Heap}{k:Nat}{f:Addr}{name qual:Str}{params:Arguments}{body:List Stmt}{scope:Scope}{dV kV doc pm cdv ct oc:tx}{an od:Option Addr}
  {osl:Array (Option tx)}{N ps:List Str}{sp:Sp}(lk:K.lookup f=some ⟨oc,od,.func (OG name qual params body scope dV kV doc pm an cdv ct),osl⟩)(hcd:TZ K cdv qual=true)(S:aF N ps scope)
  (len:∀vs H Q E,sp vs H Q E->vs.length=ps.length)
  (hbody:∀(A:Mq)(outer:List Env)(s:If)(H:Hp)(vs:List V)(Q:VK)(E:XK),bj k (A.deeper (envOfC qual scope s.heap.objs.size f cdv))->sp vs H Q E->
   ∃t,PSs (cM CX P w K mg base N qual scope f cdv A outer s H E) body t/\t {nx:=fun _ H'=>Q .non H',rt:=Q} (start N vs) H):
  aQ P w K mg base CX (k+1) f (OG name qual params body scope dV kV doc pm an cdv ct) ps sp:=by
 refine⟨len,fun A outer s H args us vs Q E hr e0 hb r hsp=>?_⟩
 have hl:=len _ _ _ _ hsp
 have KX:K.In s.heap:=e0.mod.kin.keeps fun b o e=>(e0.bs b o e).1
 have lim:s.heap.NoLimit:=e0.mod.nolimit.keeps fun b o e=>(e0.bs b o e).1
 have hkind:∀y∈ps.zip us,scope.names.lookup y.1=some .local\/(scope.names.lookup y.1=some .cell/\((cellsFrom (s.heap.objs.size+1) scope.names []).lookup y.1).isSome=true):=fun⟨n,v⟩ hy=>by
  rcases S.par n (Nv hy).1 with q|q
  ·exact .inl q
  ·exact .inr ⟨q,Ru _ _ _ (.inl q)⟩
 refine Qu hr.depth (KX _ _ lk) rfl S.co S.gen rfl (W.codeRec_of KX hcd) (hb _ _ _ _ ?_)
 refine Sd S.kind hkind fun env he s1 x=>?_
 subst he
 refine⟨lim.keeps x.toInCall.keep,Tr ?_⟩
 obtain⟨t,ht,hq⟩:=hbody A outer s H vs Q E (hr.deeper _) hsp
 have I:Inv (cM CX P w K mg base N qual scope f cdv A outer s H E) [] (start N vs) H s1:=oa S hr.hd e0 hl r x
 refine Ma (ht [] s1 (start N vs) H _ I hq) (fun fl s' hs=>?_) fun e s' hs=>hs
 have fin:∀{σ':St}{H':Hp}{v:V}{u:tx},Inv (cM CX P w K mg base N qual scope f cdv A outer s H E) [] σ' H' s'->aX v u->Q v H'->CE outer P w H s Q u s':=
  fun{σ' H' v u} J rv q=>⟨v,H',J.os,J.bare,J.base,J.hok,rv,q⟩
 cases fl with
 |ret u=>
  obtain⟨v,σ',H',J,rv,q⟩:=hs
  exact fin J rv q
 |next=>
  obtain⟨σ',H',J,q⟩:=hs
  exact fin (v:=V.non) (u:=NL) J rfl q
 |brk=>
  obtain⟨_,_,_,q⟩:=hs
  exact Mu q
 |cont=>
  obtain⟨_,_,_,q⟩:=hs
  exact Mu q
section
variable {X:Cx}{x:Str}{p pos:Pos}{e:Expr}{es:List Expr}{t:TA}{id T:String}{r:List V->Hp->VK->Prop}
def tCB (r:List V->Hp->VK->Prop)(t:TA):TE:=fun σ H Q=>t σ H fun vs H1=>r vs H1 Q
theorem xA (hc:bZ X (.builtin id) r)(hg:Gl X x)(hm:X.mg x=none)(hv:bootBuiltins x=some (.builtin id))(ha:PA X (e::es) t)(hn:x≠"__name__":=by decide)(hdb:(x==("__debug__":Str))=false:=by decide)
  (he:starEach (e::es) X.env=(false,eval e X.env)::starEach es X.env:=by rfl)(hpl:(backTo pos (starEach es X.env)).any (·.1)=false:=by rfl):PE X (.Call (.Name x p) (e::es) [] pos) (tCB r t):=by
 intro pins s σ H Q I h
 refine MB (ft I hg hm hv ?_ hn hdb)
 exact PyProof.Rows.callWith_builtin1 (thn (ha pos pins s σ H _ I h) fun us s1 ⟨vs,H1,I1,r1,q1⟩=>hc pins s1 σ H1 vs us Q I1 r1 q1) he hpl
theorem wm (hc:bZ X (.type T) r)(hg:Gl X x)(hm:X.mg x=none)(hv:bootBuiltins x=some (.type T))(ha:PA X (e::es) t)(hn:x≠"__name__":=by decide)(hdb:(x==("__debug__":Str))=false:=by decide)
  (he:starEach (e::es) X.env=(false,eval e X.env)::starEach es X.env:=by rfl)(hpl:(backTo pos (starEach es X.env)).any (·.1)=false:=by rfl):PE X (.Call (.Name x p) (e::es) [] pos) (tCB r t):=by
 intro pins s σ H Q I h
 refine MB (ft I hg hm hv ?_ hn hdb)
 exact MA (thn (ha pos pins s σ H _ I h) fun us s1 ⟨vs,H1,I1,r1,q1⟩=>hc pins s1 σ H1 vs us Q I1 r1 q1) he hpl
end
end L2
namespace HT
open PySem PyProof.Rows
section
open PySem.SeqAt
open PySem.AutoSeq1 (wpAny_loadPart')
open PySem.MeetsSeq PySem.MeetsSeq2 PySem.MeetsSeq3
end
section
variable {prog:LV}{w:Mx}{A:Mq}{E:tx->If->Prop}{s:If}
theorem AT {t b:Addr}{vs ws:List tx}{Q:tx->If->Prop}(ht:RZ s.heap t vs.toArray)(hb:RZ s.heap b ws.toArray)(hv:vs≠[])
  (h1:ws=[]->Q (.ref t) s)(h2:ws≠[]->Q (.ref s.heap.objs.size) {s with heap:=s.heap.push {cls:=.type "tuple",data:=.seq (vs++ws).toArray}})
  (hsz:vs.length+ws.length<=sizeLine):wpAny (model prog w) A (binaryOp .Add (.ref t) (.ref b)) Q E s:=by
 obtain⟨⟨cls,dd,data,sl⟩,ho,hc,n,hd⟩:=id ht
 obtain⟨⟨cls2,dd2,data2,sl2⟩,ho2,hc2,n2,hd2⟩:=id hb
 simp only at hc hd hc2 hd2
 subst hc hd hc2 hd2
 have e:vs.toArray++ws.toArray=(vs++ws).toArray:=by simp
 by_cases hw:ws=[]
 ·exact Tq ⟨_,ho,rfl⟩ ⟨_,ho2,rfl⟩ RH SN Pw Pu (Pm _ _)
   (tuple_addW1 t b vs.toArray ws.toArray n n2 dd dd2 sl sl2 (by simpa using hv) (by simp[hw])) ⟨ho,ho2,h1 hw⟩
 ·refine Tq ⟨_,ho,rfl⟩ ⟨_,ho2,rfl⟩ RH SN Pw Pu (Pm _ _)
   (tuple_addW2 t b vs.toArray ws.toArray n n2 dd dd2 sl sl2 (by simpa using hv) (by simpa using hw) (by rw[Lw,Lw];exact hsz)) ⟨ho,ho2,?_⟩
  rw[e]
  exact h2 hw
def sIx (n d:Nat):Option Int->Nat
 |none=>d
 |some v=>if v<0 then(v+(n:Int)).toNat else min v.toNat n
theorem qO (n d:Nat):sIx n d none=d:=rfl
theorem sd (n d k:Nat):sIx n d (some (k:Int))=min k n:=by
 show(if (k:Int)<0 then((k:Int)+(n:Int)).toNat else min (k:Int).toNat n)=min k n
 rw[if_neg (by omega),Nu]
theorem Ey (n d:Nat)(hd:d<=n)(o:Option Int):sIx n d o<=n:=by
 cases o with
 |none=>exact hd
 |some v=>
  show(if v<0 then(v+(n:Int)).toNat else min v.toNat n)<=n
  by_cases hv:v<0
  ·rw[if_pos hv];omega
  ·rw[if_neg hv];exact PJ _ _
theorem sC (v:Int)(n d:Nat):(if v<0 then max (v+(n:Int)) 0 else min v (n:Int))=((sIx n d (some v):Nat):Int):=by
 show(if v<0 then max (v+(n:Int)) 0 else min v (n:Int))=(((if v<0 then(v+(n:Int)).toNat else min v.toNat n):Nat):Int)
 by_cases hv:v<0
 ·simp only[if_pos hv];omega
 ·simp only[if_neg hv];omega
theorem uY (lo hi:Option Int)(n:Nat):OQ lo hi 1 (n:Int)=(((sIx n 0 lo:Nat):Int),((sIx n n hi:Nat):Int)):=by
 have h1:¬((1:Int)<0):=by omega
 unfold OQ
 simp only[h1,if_false]
 refine Uz ?_ ?_
 ·cases lo with
  |none=>rfl
  |some v=>exact sC v n 0
 ·cases hi with
  |none=>rfl
  |some v=>exact sC v n n
theorem uX (i j:Nat):Oa (i:Int) (j:Int) 1=j- i:=by
 unfold Oa
 have h1:(1:Int)>0:=by omega
 simp only[h1,if_true,Int.ediv_one]
 split<;>omega
theorem mh {v:tx}{o:Option Int}{Q:Option Int->If->Prop}(p:RA v o)(h:Q o s):wpAny (model prog w) A (Vc v) Q E s:=by
 cases p with
 |none=>exact slicePart_none h
 |int i t=>exact slicePart_int h
theorem gU {sl:Addr}{vl vu:tx}{lo hi:Option Int}{n:Nat}{Q:Int×Int×Nat->If->Prop}(hs:s.heap.IsSliceOf sl vl vu .none)(pl:RA vl lo)(pu:RA vu hi)
  (h:Q (((sIx n 0 lo:Nat):Int),1,sIx n n hi- sIx n 0 lo) s):wpAny (model prog w) A (Qp (.ref sl) (pure (n:Int))) Q E s:=by
 obtain⟨os,hos,hcs,hds⟩:=id hs
 unfold Qp Vd
 refine ah (ah (Mt hos hds (x:=vl) rfl (ah (Mt hos hds (x:=vu) rfl (ah (Mt hos hds (x:=.none) rfl (Lo ?_)))))))
 refine ah (slicePart_none ?_)
 show wpAny _ _ (if ((1:Int)==0)=true then _ else _) _ _ s
 rw[if_neg (by decide)]
 refine ah (mh pl (ah (mh pu (ah (Lo ?_)))))
 show wpAny _ _ (match OQ lo hi 1 (n:Int)with|(lo,hi)=>pure (lo,(1:Int),Oa lo hi 1)) _ _ s
 rw[uY lo hi n]
 show wpAny _ _ (pure (((sIx n 0 lo:Nat):Int),(1:Int),Oa ((sIx n 0 lo:Nat):Int) ((sIx n n hi:Nat):Int) 1)) _ _ s
 rw[uX]
 exact Lo h
theorem xI (xs:Array tx)(i k:Nat):((Qd k).filterMap fun(m:Nat)=>xs[((i:Int)+(m:Int)*1).toNat]?).toArray=((xs.toList.drop i).take k).toArray:=by
 have e:(fun(m:Nat)=>xs[((i:Int)+(m:Int)*1).toNat]?)=fun m=>xs[i+m]?:=by
  funext m
  have:((i:Int)+(m:Int)*1).toNat=i+m:=by omega
  rw[this]
 rw[e]
 have:=pick_run xs i k
 rw[List.filterMap_map]at this
 have e2:((fun x=>xs[x]?)∘fun x=>i+x)=fun m=>xs[i+m]?:=rfl
 rw[e2]at this
 rw[this]
theorem kS {t sl:Addr}{items:Array tx}{vl vu:tx}{lo hi:Option Int}{Q:tx->If->Prop}(ht:RZ s.heap t items)(hs:s.heap.IsSliceOf sl vl vu .none)(pl:RA vl lo)(pu:RA vu hi)
  (hw:¬(sIx items.size 0 lo=0/\sIx items.size items.size hi=items.size))
  (h:Q (.ref s.heap.objs.size) {s with heap:=s.heap.push {cls:=.type "tuple",data:=.seq ((items.toList.drop (sIx items.size 0 lo)).take (sIx items.size items.size hi- sIx items.size 0 lo)).toArray}})
  (hsz:items.size<=sizeLine):wpAny (model prog w) A (getItem (.ref t) (.ref sl)) Q E s:=by
 have htake:sizeOk (.seq ((items.toList.drop (sIx items.size 0 lo)).take (sIx items.size items.size hi- sIx items.size 0 lo)).toArray):=by
  show((items.toList.drop (sIx items.size 0 lo)).take (sIx items.size items.size hi- sIx items.size 0 lo)).toArray.size<=sizeLine
  rw[Lw,Ls,Lz,NQ]
  omega
 have hj:sIx items.size items.size hi<=items.size:=Ey _ _ (gV _) hi
 obtain⟨os,hos,hcs,hds⟩:=id hs
 have hTs:s.TypeIs (.ref sl) "slice":=⟨os,hos,hcs⟩
 unfold getItem
 try with_reducible refine Ni ?_
 first|refine ah (Lo ?_)|skip
 refine ah (UF ht.typeIs (by decide) ?_)
 refine ah (MG (name:=MU "__getitem__") ht.typeIs MI
  (ML MI ht.typeIs Up ?_ (Uy _ _)))
 show wpAny _ _ (Qo (.ref t)>>=_) _ _ s
 refine ah (tupleItemsOf_ ht ?_)
 refine ah (Qs hTs ?_)
 rw[if_pos (by decide)]
 refine ah (gU hs pl pu ?_)
 have hno:¬((((sIx items.size 0 lo:Nat):Int)==0&&(1:Int)==1&&(sIx items.size items.size hi- sIx items.size 0 lo)==items.size)=true):=by
  intro q
  rw[Ms,Ms]at q
  have q1:((sIx items.size 0 lo:Nat):Int)=0:=TU q.1.1
  have q2:sIx items.size items.size hi- sIx items.size 0 lo=items.size:=TU q.2
  exact hw ⟨by omega,by omega⟩
 show wpAny _ _ (if (((sIx items.size 0 lo:Nat):Int)==0&&(1:Int)==1&&(sIx items.size items.size hi- sIx items.size 0 lo)==items.size)=true then _ else _) _ _ s
 rw[if_neg hno,xI]
 first
  |exact ah (m:=Od _) (MQ (Lo ⟨_,rfl,Lo h⟩) htake)
  |exact ah (m:=Od _) (MQ (ah (Lo (Lo ⟨_,rfl,Lo h⟩))) htake)
  |exact ah (ah (m:=Od _) (MQ (Lo (Lo ⟨_,rfl,Lo h⟩)) htake))
  |exact ah (ah (m:=Od _) (MQ (Lo ⟨_,rfl,Lo h⟩) htake))
end
end HT
namespace L2
open PySem PySem.Spec PyProof.Rows
abbrev TO:=St->Hp->(Option Int->Hp->Prop)->Prop
def PO (X:Cx)(e:Option Expr)(t:TO):Prop:=
 ∀(pins:List (Addr×Obj))(s:If)(σ:St)(H:Hp)(Q:Option Int->Hp->Prop),Inv X pins σ H s->t σ H Q->
  wpAny (model X.prog X.w) X.A (evalPart e X.env) (fun u s'=>∃o H',Inv X pins σ H' s'/\RA u o/\Q o H') X.xe s
def cj:TO:=fun _ H Q=>Q none H
def dA (t:TE):TO:=fun σ H Q=>t σ H fun x H1=>∃i,x=.int i/\Q (some i) H1
section
variable {X:Cx}{e:Expr}{te:TE}{lo hi:Option Expr}{tl th:TO}{pos p2:Pos}
theorem By:PO X none cj:=by
 intro pins s σ H Q I h
 rw[evalPart_none]
 exact Lo ⟨none,H,I,.none,h⟩
theorem Bt (h:PE X e te):PO X (some e) (dA te):=by
 intro pins s σ H Q I hw
 rw[evalPart_some]
 refine thn (h pins s σ H _ I hw) fun u s1 ⟨x,H1,I1,r1,q1⟩=>?_
 obtain⟨i,rfl,q⟩:=q1
 obtain⟨t,rfl⟩:=r1
 exact⟨some i,H1,I1,.int i t,q⟩
def SlR (X:Cx)(r:V->Option Int->Option Int->Hp->VK->Prop):Prop:=
 ∀(pins:List (Addr×Obj))(s:If)(σ:St)(H:Hp)(x:V)(v vl vu:tx)(lo hi:Option Int)(sl:Addr)(Q:VK),Inv X pins σ H s->aX x v->s.heap.IsSliceOf sl vl vu .none->RA vl lo->RA vu hi->r x lo hi H Q->
  ∃T id,typeLookup (.type T) "__getitem__"=pure (some (.builtin id))/\s.TypeIs v T/\wpAny (model X.prog X.w) X.A (getItem v (.ref sl)) (EP X pins σ Q) X.xe s
theorem SlR.or {r r':V->Option Int->Option Int->Hp->VK->Prop}(h:SlR X r)(h':SlR X r'):SlR X (fun x lo hi H Q=>r x lo hi H Q\/r' x lo hi H Q):=by
 intro pins s σ H x v vl vu lo hi sl Q I rx hs pl pu q
 rcases q with q|q
 ·exact h pins s σ H x v vl vu lo hi sl Q I rx hs pl pu q
 ·exact h' pins s σ H x v vl vu lo hi sl Q I rx hs pl pu q
def tSl (r:V->Option Int->Option Int->Hp->VK->Prop)(te:TE)(tl th:TO):TE:=fun σ H Q=>te σ H fun x H1=>tl σ H1 fun l H2=>th σ H2 fun u H3=>r x l u H3 Q
theorem xK {r:V->Option Int->Option Int->Hp->VK->Prop}(hr:SlR X r)(he:PE X e te)(hl:PO X lo tl)(hu:PO X hi th):PE X (.Subscript e (.Slice lo hi none p2) pos) (tSl r te tl th):=by
 intro pins s σ H Q I h
 refine Subscript_ (thn (he pins s σ H _ I h) fun v s1 ⟨x,H1,I1,r1,q1⟩=>?_)
 refine wpAny_Slice (thn (hl pins s1 σ H1 _ I1 q1) fun vl s2 ⟨l,H2,I2,pl,q2⟩=>thn (hu pins s2 σ H2 _ I2 q2) fun vu s3 ⟨u,H3,I3,pu,q3⟩=>?_)
 rw[evalPart_none]
 refine Lo ?_
 have I4:Inv X pins σ H3 {s3 with heap:=s3.heap.push {cls:=.type "slice",data:=.fields #[vl,vu,.none]}}:=I3.kept (t':=s3.toks) fun b ob q=>cW _ q
 obtain⟨T,id,hT,ht,hg⟩:=hr pins {s3 with heap:=s3.heap.push {cls:=.type "slice",data:=.fields #[vl,vu,.none]}} σ H3 x v vl vu l u s3.heap.objs.size Q I4 r1 (Ux ..) pl pu q3
 show wpAny (model X.prog X.w) X.A (subscriptTail e (.Slice lo hi none p2) v (.ref s3.heap.objs.size)) (EP X pins σ Q) X.xe {s3 with heap:=s3.heap.push {cls:=.type "slice",data:=.fields #[vl,vu,.none]}}
 exact tail_any (ops:=[.ref s3.heap.objs.size,v]) ht hT hg (by with_unfolding_all rfl)
def eU (xs:List V)(lo hi:Option Int):List V:=(xs.drop (HT.sIx xs.length 0 lo)).take (HT.sIx xs.length xs.length hi- HT.sIx xs.length 0 lo)
theorem kY (xs:List V)(lo hi:Option Int):(eU xs lo hi).length<=xs.length:=by
 unfold eU
 rw[Ls,Lz]
 omega
def Kr (K:pv):V->Option Int->Option Int->Hp->VK->Prop:=fun x lo hi H Q=>∃a xs,x=.ref a/\SqT K H a xs/\
 ¬(HT.sIx xs.length 0 lo=0/\HT.sIx xs.length xs.length hi=xs.length)/\∀p,H p=none->Q (.ref p) (upd H p (.tup (eU xs lo hi)))
theorem EK:SlR X (Kr X.K):=by
 intro pins s σ H x v vl vu lo hi sl Q I rx hs pl pu h
 obtain⟨a,xs,rfl,hx,hw,q⟩:=h
 cases rx
 obtain⟨its,r,ht,hz⟩:=I.tuple hx
 have hlen:its.toArray.size=xs.length:=by rw[Lw];exact r.length.symm
 refine⟨"tuple",_,MI.lookup,ht.typeIs,?_⟩
 refine HT.kS ht hs pl pu (by rw[hlen];exact hw) ?_ (by rw[hlen];exact hz)
 rw[hlen]
 refine⟨.ref s.heap.objs.size,_,I.laid (t':=s.toks) (o:=.tup (eU xs lo hi)) (fun b ob q=>cW _ q) (gV _) ?_,rfl,q _ (I.hok.fresh (gV _))⟩
 exact⟨Mi (kY xs lo hi) hz,_,(r.drop (HT.sIx xs.length 0 lo)).take (HT.sIx xs.length xs.length hi- HT.sIx xs.length 0 lo),TF _ _⟩
def Hh (K:pv):R2:=fun x y H Q=>∃a b xs ys,x=.ref a/\y=.ref b/\SqT K H a xs/\SqT K H b ys/\xs≠[]/\xs.length+ys.length<=sizeLine/\
 (ys=[]->Q (.ref a) H)/\(ys≠[]->∀p,H p=none->Q (.ref p) (upd H p (.tup (xs++ys))))
theorem aY.nil_iff {xs:List V}{us:List tx}(r:aY xs us):us=[]↔xs=[]:=by
 cases r with
 |nil=>simp
 |cons _ _=>simp
theorem AC:OpR X (binaryOp .Add) (Hh X.K):=by
 intro pins s σ H x y v u Q I rx ry h
 obtain⟨a,b,xs,ys,rfl,rfl,ha,hb,hx,hz,q1,q2⟩:=h
 cases rx
 cases ry
 obtain⟨its,r1,p1,_⟩:=I.tuple ha
 obtain⟨its2,r2,p2,_⟩:=I.tuple hb
 refine HT.AT p1 p2 (fun z=>hx (r1.nil_iff.mp z)) (fun z=>⟨.ref a,H,I,rfl,q1 (r2.nil_iff.mp z)⟩) (fun z=>?_) (by rw[<-r1.length,<-r2.length];exact hz)
 refine⟨.ref s.heap.objs.size,_,I.laid (t':=s.toks) (o:=.tup (xs++ys)) (fun b ob q=>cW _ q) (gV _) ?_,rfl,q2 (fun w=>z (r2.nil_iff.mpr w)) _ (I.hok.fresh (gV _))⟩
 exact⟨by rw[Lm];exact hz,_,r1.append r2,TF _ _⟩
end
def ixN (n:Nat)(i:Int):Option Nat:=if 0<=i then(if i<n then some i.toNat else none)else if-(n:Int)<=i then some (i+n).toNat else none
def atI {α:Type}(xs:List α)(i:Int):Option α:=(ixN xs.length i).bind fun j=>xs[j]?
theorem sr {n:Nat}{i:Int}{j:Nat}(h:ixN n i=some j):seqIndex? i n=some j/\j<n/\ -(n:Int)<=i/\i<n:=by
 unfold ixN at h
 by_cases h0:0<=i
 ·rw[if_pos h0]at h
  by_cases h1:i<n
  ·rw[if_pos h1]at h
   have e:i.toNat=j:=LR h
   exact⟨by rw[Ul h0 h1,e],by omega,by omega,h1⟩
  ·rw[if_neg h1]at h;cases h
 ·rw[if_neg h0]at h
  by_cases h1: -(n:Int)<=i
  ·rw[if_pos h1]at h
   have e:(i+n).toNat=j:=LR h
   exact⟨by rw[To (by omega) h1,e],by omega,h1,by omega⟩
  ·rw[if_neg h1]at h;cases h
theorem kq {α:Type}{xs:List α}{i:Int}{v:α}(h:atI xs i=some v):∃j,seqIndex? i xs.length=some j/\xs[j]? =some v/\j<xs.length/\ -(xs.length:Int)<=i/\i<xs.length:=by
 unfold atI at h
 cases e:ixN xs.length i with
 |none=>rw[e]at h;cases h
 |some j=>
  rw[e]at h
  obtain⟨h1,h2,h3,h4⟩:=sr e
  exact⟨j,h1,h,h2,h3,h4⟩
theorem zj {α:Type}(xs:List α)(v:α):atI (xs++[v]) (-1)=some v:=by
 have hl:(xs++[v]).length=xs.length+1:=by simp
 have e:ixN (xs++[v]).length (-1)=some xs.length:=by
  unfold ixN
  rw[hl,if_neg (by decide),if_pos (by omega)]
  congr 1
  omega
 unfold atI
 rw[e]
 show(xs++[v])[xs.length]?=some v
 simp
def sR (b:Expr):Prop:=∀o i,subscripted b false o i=operate [o,i] (getItem o i)
def IxR (X:Cx)(r:R2):Prop:=
 ∀(value slice:Expr)(pins:List (Addr×Obj))(s:If)(σ:St)(H:Hp)(x y:V)(v u:tx)(Q:VK),Inv X pins σ H s->aX x v->aX y u->r x y H Q->
  subscripted slice false v u=operate [v,u] (getItem v u)->wpAny (model X.prog X.w) X.A (subscriptTail value slice v u) (EP X pins σ Q) X.xe s
def MtR (X:Cx)(id:String)(r:V->List V->Hp->VK->Prop):Prop:=
 ∀(pins:List (Addr×Obj))(s:If)(σ:St)(H:Hp)(x:V)(xs:List V)(v:tx)(us:List tx)(Q:VK),Inv X pins σ H s->aX x v->aY xs us->r x xs H Q->
  wpAny (model X.prog X.w) X.A (call (.builtin id) (v::us)) (EP X pins σ Q) X.xe s
section
variable {X:Cx}{a b:Expr}{ta tb:TE}{pos:Pos}
theorem IxR.or {r r':R2}(h:IxR X r)(h':IxR X r'):IxR X (fun x y H Q=>r x y H Q\/r' x y H Q):=by
 intro value slice pins s σ H x y v u Q I rx ry q hs
 rcases q with q|q
 ·exact h value slice pins s σ H x y v u Q I rx ry q hs
 ·exact h' value slice pins s σ H x y v u Q I rx ry q hs
theorem Hc {r:R2}(hr:IxR X r)(ha:PE X a ta)(hb:PE X b tb)(hs:sR b):PE X (.Subscript a b pos) (tOp r ta tb):=by
 intro pins s σ H Q I h
 exact Subscript_ (wZ ha hb I h fun v u s2 x y H2 I2 rx ry q=>hr a b pins s2 σ H2 x y v u Q I2 rx ry q (hs _ _))
def Cg (K:pv):R2:=fun x y H Q=>∃p xs i v,x=.ref p/\y=.int i/\SqL K H p xs/\atI xs i=some v/\Q v H
def EG (K:pv):R2:=fun x y H Q=>∃p xs i v,x=.ref p/\y=.int i/\SqT K H p xs/\atI xs i=some v/\Q v H
def DN:R2:=fun x y H Q=>∃z i c,x=.str z/\y=.int i/\z.length<=sizeLine/\atI z.cps.toList i=some c/\Q (.str ⟨#[c]⟩) H
theorem Bp:IxR X (Cg X.K):=by
 intro value slice pins s σ H x y v u Q I rx ry h hs
 obtain⟨p,xs,i,z,rfl,rfl,hq,he,q⟩:=h
 cases rx
 obtain⟨t,rfl⟩:=ry
 obtain⟨its,r,pl,hz⟩:=I.list hq
 obtain⟨j,h1,h2,h3,h4,h5⟩:=kq he
 obtain⟨w,ew,rw'⟩:=r.get h2
 have hl:=r.length
 have hn:=iG
 have fin:EP X pins σ Q w s:=⟨z,H,I,rw',q⟩
 by_cases h0:0<=i
 ·have hj:i.toNat=j:=by
   rw[Ul h0 h5]at h1
   exact LR h1
  exact item_listR pl.isList h0 (by omega) (by rw[hj];simpa using ew) fin hs
 ·have hj:(i+(its.toArray.size:Int)).toNat=j:=by
   rw[To (by omega) h4]at h1
   rw[Lw,<-hl]
   exact LR h1
  exact Td (x:=w) pl.isList.typeIs slot_list_getitem.lookup
   (wpAny_getItem_list_neg (Q:=fun r s'=>r=w/\EP X pins σ Q r s') pl.isList (by omega) (by rw[Lw]<;>omega) (by omega) (by rw[hj];simpa using ew) ⟨rfl,fin⟩) hs
theorem CL:IxR X (EG X.K):=by
 intro value slice pins s σ H x y v u Q I rx ry h hs
 obtain⟨p,xs,i,z,rfl,rfl,hq,he,q⟩:=h
 cases rx
 obtain⟨t,rfl⟩:=ry
 obtain⟨its,r,pl,hz⟩:=I.tuple hq
 obtain⟨j,h1,h2,h3,h4,h5⟩:=kq he
 obtain⟨w,ew,rw'⟩:=r.get h2
 have hl:=r.length
 have hn:=iG
 have fin:EP X pins σ Q w s:=⟨z,H,I,rw',q⟩
 exact Td (x:=w) pl.typeIs slot_tuple_getitem.lookup
  (getItem_tuple (j:=j) (Q:=fun r s'=>r=w/\EP X pins σ Q r s') pl (by omega) (by omega) (by rw[Lw,<-hl];exact h1) (by simpa using ew) ⟨rfl,fin⟩) hs
theorem DF:IxR X DN:=by
 intro value slice pins s σ H x y v u Q I rx ry h hs
 obtain⟨z,i,c,rfl,rfl,hz,he,q⟩:=h
 obtain⟨t,rfl⟩:=rx
 obtain⟨t',rfl⟩:=ry
 obtain⟨j,h1,h2,h3,h4,h5⟩:=kq he
 have hl:z.cps.toList.length=z.length:=by simp[Str.length]
 rw[hl]at h1 h4 h5
 have hn:=iG
 exact tail_any (UK s z t) slot_str_getitem.lookup (getItem_str (c:=c) (by
  have e1:decide (i< -(2^63:Int))=false:=decide_eq_false (by omega)
  have e2:decide (i>=2^63)=false:=decide_eq_false (by omega)
  rw[e1,e2,UD]) (by rw[h1];simpa using h2) ⟨.str ⟨#[c]⟩,H,I.tok _,⟨_,rfl⟩,q⟩) hs
def rIx (K:pv):R2:=fun x y H Q=>Cg K x y H Q\/EG K x y H Q\/DN x y H Q
theorem CW:IxR X (rIx X.K):=Bp.or (CL.or DF)
theorem tu (its:List tx)(n j:Nat)(u:tx):Nb (·.setIfInBounds j u) {cls:=.type "list",data:=.seq its.toArray n}={cls:=.type "list",data:=.seq (its.set j u).toArray n}:=by
 simp[Nb]
theorem Inv.lst {pins:List (Addr×Obj)}{σ:St}{H:Hp}{s:If}{p:Addr}{xs:List V}(I:Inv X pins σ H s)(h:H p=some (.lst xs)):
  ∃(its:List tx)(n:Nat),aY xs its/\s.heap.get? p=some {cls:=.type "list",data:=.seq its.toArray n}/\xs.length<=sizeLine:=by
 obtain⟨z,its,n,r,e⟩:=I.hok p _ h
 exact⟨its,n,r,e,z⟩
theorem Inv.lstUpd {pins:List (Addr×Obj)}{σ:St}{H:Hp}{s:If}{p:Addr}{xs ys:List V}{its its':List tx}{n n':Nat}{f:Obj->Obj}(I:Inv X pins σ H s)(h:H p=some (.lst xs))
  (ho:s.heap.get? p=some {cls:=.type "list",data:=.seq its.toArray n})(hf:f {cls:=.type "list",data:=.seq its.toArray n}={cls:=.type "list",data:=.seq its'.toArray n'})(r:aY ys its')(hz:ys.length<=sizeLine)(t:Nat):
  Inv X pins σ (upd H p (.lst ys)) {s with heap:=s.heap.update p f,toks:=t}:=by
 have e:(s.heap.update p f).get? p=some {cls:=.type "list",data:=.seq its'.toArray n'}:=by
  rw[My f ho (by rw[hf]<;>rfl),hf]
 refine I.write (x:=p) (e:=p) (by rw[h];trivial) (.inl rfl) (fun b u hb q=>(MC _ _ (Mh hb)).trans q) ⟨_,e⟩ ?_
 exact⟨hz,its',n',r,e⟩
def Ac:V->V->V->Hp->(Hp->Prop)->Prop:=fun o i v H Q=>∃p xs k j,o=.ref p/\i=.int k/\H p=some (.lst xs)/\ixN xs.length k=some j/\Q (upd H p (.lst (xs.set j v)))
theorem yU:uj X Ac:=by
 intro pins s σ H o i v ov iv u Q I ro ri rv h
 obtain⟨p,xs,k,j,rfl,rfl,hp,hj,q⟩:=h
 cases ro
 obtain⟨t,rfl⟩:=ri
 obtain⟨its,n,r,ho,hz⟩:=I.lst hp
 obtain⟨h1,h2,h3,h4⟩:=sr hj
 have hl:=r.length
 have hn:=iG
 have I':Inv X pins σ (upd H p (.lst (xs.set j v))) {s with heap:=s.heap.update p (Nb (·.setIfInBounds j u))}:=
  I.lstUpd hp ho (tu its n j u) (r.set rv j) (by rw[List.length_set];exact hz) s.toks
 by_cases h0:0<=k
 ·have hk:k.toNat=j:=by
   rw[Ul h0 h4]at h1
   exact LR h1
  exact W.ki_setAt ho h0 (by omega) (by rw[Lw,<-hl];exact h4) (by rw[hk];exact⟨_,I',q⟩)
 ·have hk:(k+(its.toArray.size:Int)).toNat=j:=by
   rw[To (by omega) h3]at h1
   rw[Lw,<-hl]
   exact LR h1
  exact W.ki_setBack ho (by omega) (by rw[Lw,<-hl];exact h3) (by omega) (by rw[hk];exact⟨_,I',q⟩)
theorem rJ (lo hi:Option Int)(n:Nat):(sliceBounds lo hi none n).1=((HT.sIx n 0 lo:Nat):Int)/\(sliceBounds lo hi none n).2.1=((HT.sIx n n hi:Nat):Int)/\(sliceBounds lo hi none n).2.2=1:=by
 refine⟨?_,?_,rfl⟩
 ·cases lo with
  |none=>simp[sliceBounds,HT.sIx]
  |some i=>
   simp only[sliceBounds,HT.sIx,SU,show(1:Int)>0 by decide,if_true]
   by_cases h:i<0
   ·simp only[h,if_true]<;>omega
   ·simp only[h,if_false]<;>omega
 ·cases hi with
  |none=>simp[sliceBounds,HT.sIx]
  |some i=>
   simp only[sliceBounds,HT.sIx,SU,show(1:Int)>0 by decide,if_true]
   by_cases h:i<0
   ·simp only[h,if_true]<;>omega
   ·simp only[h,if_false]<;>omega
theorem oR (its:List tx)(lo hi:Option Int):slicePick its.toArray lo hi none=((its.drop (HT.sIx its.length 0 lo)).take (HT.sIx its.length its.length hi- HT.sIx its.length 0 lo)).toArray:=by
 obtain⟨h1,h2,h3⟩:=rJ lo hi its.toArray.size
 unfold slicePick
 rw[h1,h2,h3]
 simp only[sliceRange_one,pick_run,Lw]<;>rfl
def DH (K:pv):V->Option Int->Option Int->Hp->VK->Prop:=fun x lo hi H Q=>∃a xs,x=.ref a/\SqL K H a xs/\∀p,H p=none->Q (.ref p) (upd H p (.lst (eU xs lo hi)))
theorem Bv:SlR X (DH X.K):=by
 intro pins s σ H x v vl vu lo hi sl Q I rx hs pl pu h
 obtain⟨a,xs,rfl,hx,q⟩:=h
 cases rx
 obtain⟨its,r,ht,hz⟩:=I.list hx
 have hlen:=r.length
 refine⟨"list",_,slot_list_getitem.lookup,ht.isList.typeIs,?_⟩
 refine wpAny_getItem_list_slice ht.isList hs pl pu .none (by simp) ?_ (by rw[Lw]<;>omega)
 rw[oR,<-hlen]
 refine⟨.ref s.heap.objs.size,_,I.laid (t':=s.toks) (o:=.lst (eU xs lo hi)) (fun b ob q=>cW _ q) (gV _) ?_,rfl,q _ (I.hok.fresh (gV _))⟩
 exact⟨Mi (kY xs lo hi) hz,_,0,(r.drop (HT.sIx xs.length 0 lo)).take (HT.sIx xs.length xs.length hi- HT.sIx xs.length 0 lo),Ly _ rfl⟩
theorem bZ.or {f:tx}{r r':List V->Hp->VK->Prop}(h:bZ X f r)(h':bZ X f r'):bZ X f (fun xs H Q=>r xs H Q\/r' xs H Q):=by
 intro pins s σ H xs us Q I rs q
 rcases q with q|q
 ·exact h pins s σ H xs us Q I rs q
 ·exact h' pins s σ H xs us Q I rs q
theorem qe:bZ X (.type "list") (fun xs H Q=>∃p ys,xs=[.ref p]/\(SqL X.K H p ys\/SqT X.K H p ys)/\∀l,H l=none->Q (.ref l) (upd H l (.lst ys))):=by
 intro pins s σ H xs us Q I r h
 obtain⟨p,ys,rfl,hq,q⟩:=h
 obtain⟨u,rfl,rx⟩:=iq r
 cases rx
 have fin:∀(its:List tx),aY ys its->ys.length<=sizeLine->∀(h':Heap)(c':Nat),(∀b o',s.heap.get? b=some o'->h'.get? b=some o')->
   h'.get? s.heap.objs.size=some {cls:=.type "list",dict:=none,data:=.seq its.toArray c',slots:=#[]}->EP X pins σ Q (.ref s.heap.objs.size) {s with heap:=h'}:=fun its r' hz h' c' kp e=>
  ⟨.ref s.heap.objs.size,_,I.laid (t':=s.toks) kp (gV _) (show bg X.prog X.w _ h' _ (.lst ys)from⟨hz,its,c',r',e⟩),rfl,q _ (I.hok.fresh (gV _))⟩
 rcases hq with hq|hq
 ·obtain⟨its,r',pl,hz⟩:=I.list hq
  have hlen:=r'.length
  obtain⟨o,ho,hc,n,hd⟩:=pl.isList
  exact call_list_seq p (.inl rfl) ho hc hd (fun h' c' kp e=>fin its r' hz h' c' kp e) (by simp only[Lw]<;>omega)
 ·obtain⟨its,r',pl,hz⟩:=I.tuple hq
  have hlen:=r'.length
  obtain⟨o,ho,hc,n,hd⟩:=pl
  exact call_list_seq p (.inr rfl) ho hc hd (fun h' c' kp e=>fin its r' hz h' c' kp e) (by simp only[Lw]<;>omega)
theorem oO:bZ X (.type "tuple") (fun xs H Q=>∃p ys,xs=[.ref p]/\((SqL X.K H p ys/\∀l,H l=none->Q (.ref l) (upd H l (.tup ys)))\/(SqT X.K H p ys/\Q (.ref p) H))):=by
 intro pins s σ H xs us Q I r h
 obtain⟨p,ys,rfl,h⟩:=h
 obtain⟨u,rfl,rx⟩:=iq r
 cases rx
 rcases h with⟨hq,q⟩|⟨hq,q⟩
 ·obtain⟨its,r',pl,hz⟩:=I.list hq
  have hlen:=r'.length
  refine call_tuple_list pl.isList (fun h' kp=>?_) (by simp only[Lw]<;>omega)
  have I1:Inv X pins σ H {s with heap:=h'}:=I.kept (t':=s.toks) kp
  have I2:Inv X pins σ (upd H h'.objs.size (.tup ys)) {s with heap:=h'.push {cls:=.type "tuple",data:=.seq its.toArray}}:=
   I1.laid (t':=s.toks) (fun b o e=>cW _ e) (gV _) (show bg X.prog X.w _ _ _ (.tup ys)from⟨hz,its,r',TF _ _⟩)
  exact⟨.ref h'.objs.size,_,I2,rfl,q _ (I1.hok.fresh (gV _))⟩
 ·obtain⟨its,r',pl,hz⟩:=I.tuple hq
  exact call_tuple_same pl ⟨.ref p,H,I,rfl,q⟩
def tyV (K:pv)(T:String)(x:V)(H:Hp):Prop:=match x with
 |.str _=>T="str"
 |.int _=>T="int"
 |.ref p=>(T="list"/\∃xs,SqL K H p xs)\/(T="tuple"/\∃o,K.lookup p=some o/\o.cls=.type "tuple"/\o.dict=none)\/
  (T="dict"/\((∃kvs,H p=some (.dK kvs))\/∃kvs,H p=some (.dT kvs)))\/(T="set"/\∃S n,H p=some (.set S n))
 |_=>False
theorem vk {pins:List (Addr×Obj)}{σ:St}{H:Hp}{s:If}{T:String}{x:V}{v:tx}(I:Inv X pins σ H s)(r:aX x v)(ty:tyV X.K T x H):
  s.TypeIs v T/\∀a,v=.ref a->∃ob,s.heap.get? a=some ob/\ob.dict=none:=by
 cases x with
 |str z=>
  obtain⟨t,rfl⟩:=r
  cases (show T="str" from ty)
  exact⟨UK s z t,fun _ e=>nomatch e⟩
 |int i=>
  obtain⟨t,rfl⟩:=r
  cases (show T="int" from ty)
  exact⟨typeIs_int s i t,fun _ e=>nomatch e⟩
 |ref p=>
  cases r
  rcases ty with⟨rfl,xs,hq⟩|⟨rfl,o,hk,hc,hd⟩|⟨rfl,hk⟩|⟨rfl,S,n,hk⟩
  ·obtain⟨its,_,pl,_⟩:=I.list hq
   refine⟨pl.isList.typeIs,fun a e=>?_⟩
   cases e
   obtain⟨o,n,e,c,hd,_⟩:=pl
   exact⟨o,e,hd⟩
  ·refine⟨⟨o,I.kIn p o hk,hc⟩,fun a e=>?_⟩
   cases e
   exact⟨o,I.kIn _ o hk,hd⟩
  ·have z:∃o,s.heap.get? p=some o/\o.ExactDict:=by
    rcases hk with⟨kvs,hk⟩|⟨kvs,hk⟩
    ·obtain⟨_,_,_,_,o,_,_,e,ex,_⟩:=I.hok p _ hk
     exact⟨o,e,ex⟩
    ·obtain⟨_,_,_,_,o,_,_,e,ex,_⟩:=I.hok p _ hk
     exact⟨o,e,ex⟩
   obtain⟨o,e,ex⟩:=z
   refine⟨⟨o,e,ex.1⟩,fun a e2=>?_⟩
   cases e2
   exact⟨o,e,ex.2.1⟩
  ·obtain⟨o,_,_,_,e,ex,_⟩:=I.hok p _ hk
   refine⟨⟨o,e,ex.1⟩,fun a e2=>?_⟩
   cases e2
   exact⟨o,e,ex.2.1⟩
 |_=>exact Mu ty
def yC (K:pv)(T:String)(r:V->List V->Hp->VK->Prop)(to:TE):TE:=fun σ H Q=>to σ H fun x H1=>tyV K T x H1/\r x [] H1 Q
def tBM (K:pv)(T:String)(r:V->List V->Hp->VK->Prop)(to:TE)(t:TA):TE:=fun σ H Q=>to σ H fun x H1=>tyV K T x H1/\t σ H1 fun xs H2=>r x xs H2 Q
variable {o e:Expr}{es:List Expr}{to:TE}{t:TA}{name:Str}{apos cpos:Pos}{T id:String}{r:V->List V->Hp->VK->Prop}
theorem Ew (pa:Rv T)(slot:Slot T name id)(hty:typeOf (.builtin id)=pure (.type "method_descriptor"))(hm:MtR X id r)(ho:PE X o to)
  (hbase:attributeBase o name X.env (eval o X.env)=eval o X.env:=by rfl)(hline:(apos.endLine==cpos.line)=true:=by rfl):PE X (.Call (.Attribute o name apos) [] [] cpos) (yC X.K T r to):=by
 intro pins s σ H Q I h
 refine wpAny_Call_method0_late hbase hline (thn (ho pins s σ H _ I h) fun v s1 ⟨x,H1,I1,r1,ty,q1⟩=>?_)
 obtain⟨h1,h2⟩:=vk I1 r1 ty
 exact⟨T,id,pa,slot,hty,h1,h2,RM rfl (PySem.evalArgs_none (hm pins s1 σ H1 x [] v [] Q I1 r1 .nil q1))⟩
theorem Hu (pa:Rv T)(slot:Slot T name id)(hty:typeOf (.builtin id)=pure (.type "method_descriptor"))(hm:MtR X id r)(ho:PE X o to)(ha:PA X (e::es) t)
  (hbase:attributeBase o name X.env (eval o X.env)=eval o X.env:=by rfl)
  (hfew:((backTo cpos (starEach (e::es) X.env)).all (fun x=> !x.1)&&(backToKw cpos (keywordEach [] X.env)).all (fun x=>x.1.isSome)
   &&decide ((e::es).length+([]:List Keyword).length+(if ([]:List Keyword).isEmpty then 0 else 1)<30))=true:=by rfl)
  (hline:(apos.endLine==cpos.line)=true:=by rfl)(hs:starEach (e::es) X.env=(false,eval e X.env)::starEach es X.env:=by rfl)(hplain:(backTo cpos (starEach es X.env)).any (·.1)=false:=by rfl):
  PE X (.Call (.Attribute o name apos) (e::es) [] cpos) (tBM X.K T r to t):=by
 intro pins s σ H Q I h
 refine wpAny_Call_method_late hbase hfew hline rfl (thn (ho pins s σ H _ I h) fun v s1 ⟨x,H1,I1,r1,ty,q1⟩=>?_)
 obtain⟨h1,h2⟩:=vk I1 r1 ty
 refine⟨T,id,pa,slot,hty,h1,h2,?_⟩
 have hA:=ha cpos pins s1 σ H1 _ I1 q1
 rw[hs]at hA⊢
 refine RM (by show(false||(backTo cpos (starEach es X.env)).any (·.1))=false;rw[hplain]<;>rfl) (Calls.evalArgs_plain ?_)
 exact thn hA fun us s2 ⟨vs,H2,I2,r2,q2⟩=>hm pins s2 σ H2 x vs v us Q I2 r1 r2 q2
end
def MtM (X:Cx)(id:String)(r:V->List V->Hp->VK->Prop):Prop:=
 ∀(pins:List (Addr×Obj))(s:If)(σ:St)(H:Hp)(x:V)(xs:List V)(v:tx)(us:List tx)(Q:VK),Inv X pins σ H s->aX x v->aY xs us->r x xs H Q->
  wpAny (model X.prog X.w) X.A (call (.builtin id) (v::us)) (EP X pins σ Q) X.xe s
theorem aY.one:∀{x:V}{us:List tx},aY [x] us->∃u,us=[u]/\aX x u
 |_,_,.cons r .nil=>⟨_,rfl,r⟩
theorem aY.reverse {xs:List V}{us:List tx}(h:aY xs us):aY xs.reverse us.reverse:=by
 induction h with
 |nil=>exact .nil
 |cons r t ih=>rw[Og,Og];exact aY.append ih (.cons r .nil)
section
variable {X:Cx}{pins:List (Addr×Obj)}{σ:St}{H:Hp}{s:If}{l b:Addr}{xs ys zs:List V}
theorem Inv.lset {its its':List tx}{n:Nat}{f:Array tx->Array tx}{t':Nat}(I:Inv X pins σ H s)(hH:H l=some (.lst xs))
  (e:s.heap.get? l=some {cls:=.type "list",data:=.seq its.toArray n})(hf:f its.toArray=its'.toArray)(hv:aY ys its')(hz:ys.length<=sizeLine):
  Inv X pins σ (upd H l (.lst ys)) {s with heap:=s.heap.update l (Nb f),toks:=t'}:=by
 have q:=PySem.IsL.update e f
 rw[hf]at q
 refine I.write (x:=l) (e:=l) (by rw[hH];exact trivial) (.inl rfl) (fun b' u hb hu=>(MC s.heap (Nb f) (Mh hb)).trans hu) ⟨_,q⟩ ?_
 exact⟨hz,its',_,hv,q⟩
theorem Inv.lnew {its:List tx}{t':Nat}(I:Inv X pins σ H s)(hv:aY ys its)(hz:ys.length<=sizeLine):
  Inv X pins σ (upd H s.heap.objs.size (.lst ys)) {s with heap:=s.heap.push {cls:=.type "list",data:=.seq its.toArray},toks:=t'}:=
 I.laid (fun _ _ q=>cW _ q) (gV _) ⟨hz,its,0,hv,Ly _ rfl⟩
theorem Inv.fresh (I:Inv X pins σ H s):H s.heap.objs.size=none:=I.hok.fresh (gV _)
theorem Inv.lstM (I:Inv X pins σ H s)(hH:H l=some (.lst xs)):xs.length<=sizeLine/\∃(its:List tx)(n:Nat),aY xs its/\xs.length=its.length/\s.heap.get? l=some {cls:=.type "list",data:=.seq its.toArray n}:=by
 obtain⟨z,its,n,r,e⟩:=I.hok l _ hH
 exact⟨z,its,n,r,r.length,e⟩
end
section
variable {X:Cx}
def bG:V->List V->Hp->VK->Prop:=fun x vs H Q=>∃l xs y,x=.ref l/\vs=[y]/\H l=some (.lst xs)/\xs.length<sizeLine/\Q .non (upd H l (.lst (xs++[y])))
theorem bH:MtM X "list.append" bG:=by
 intro pins s σ H x vs v us Q I rx rv h
 obtain⟨l,xs,y,rfl,rfl,hH,hz,q⟩:=h
 cases rx
 obtain⟨u,rfl,ru⟩:=rv.one
 obtain⟨z,its,n,r,hl,e⟩:=I.lstM hH
 refine UL LS ⟨_,e,rfl⟩ F.entry_list_append (F.args_list_append_2 _ _) (PySem.list_append l its.toArray n u (by rw[Lw];omega)) ⟨e,?_⟩
 refine⟨.non,_,I.lset (its':=its++[u]) hH e (by simp) (r.append (.cons ru .nil)) ?_,rfl,q⟩
 rw[Lm,Sj]
 omega
def Ff:R2:=fun x y H Q=>∃l b xs zs,x=.ref l/\y=.ref b/\H l=some (.lst xs)/\H b=some (.lst zs)/\xs.length+zs.length<=sizeLine/\∀p,H p=none->Q (.ref p) (upd H p (.lst (xs++zs)))
theorem Dq:OpR X (binaryOp .Add) Ff:=by
 intro pins s σ H x y v u Q I rx ry h
 obtain⟨l,b,xs,zs,rfl,rfl,hH,hB,hz,q⟩:=h
 cases rx
 cases ry
 obtain⟨z,its,n,r,hl,e⟩:=I.lstM hH
 obtain⟨z2,its2,n2,r2,hl2,e2⟩:=I.lstM hB
 refine PySem.P.add_list e e2 ?_ (by rw[Lw,Lw];omega)
 have ea:its.toArray++its2.toArray=(its++its2).toArray:=by simp
 rw[ea]
 exact⟨.ref _,_,I.lnew (t':=s.toks) (r.append r2) (by rw[Lm];omega),rfl,q _ I.fresh⟩
end
section
variable {prog:LV}{w:Mx}{A:Mq}{E:tx->If->Prop}{s:If}
set_option maxRecDepth 100000 in
end
section
variable {κ:Type}[DecidableEq κ]
def cu (kvs:List (κ×V))(k:κ):Option V:=(kvs.find? fun kv=>decide (kv.1=k)).map (·.2)
def cp (kvs:List (κ×V))(k:κ)(v:V):List (κ×V):=
 if (kvs.any fun kv=>decide (kv.1=k))=true then kvs.map (fun kv=>if kv.1=k then(kv.1,v)else kv)else kvs++[(k,v)]
theorem du {p:κ×V}{r:List (κ×V)}{k:κ}(e:p.1=k):cu (p::r) k=some p.2:=by simp[cu,OC,e]
theorem dy {p:κ×V}{r:List (κ×V)}{k:κ}(e:¬p.1=k):cu (p::r) k=cu r k:=by simp[cu,OC,e]
theorem gT (k:κ):∀kvs:List (κ×V),(kvs.any fun kv=>decide (kv.1=k))=(cu kvs k).isSome
 |[]=>rfl
 |p::r=>by
  rw[RT]
  by_cases e:p.1=k
  ·simp only[du e,decide_eq_true e,Bool.true_or,Option.isSome_some]
  ·rw[dy e,decide_eq_false e,Bool.false_or];exact gT k r
theorem qw (k j:κ)(y:V):∀kvs:List (κ×V),cu (kvs.map fun kv=>if kv.1=k then(kv.1,y)else kv) j=(cu kvs j).map fun x=>if j=k then y else x
 |[]=>rfl
 |p::r=>by
  have ih:=qw k j y r
  rw[Md]
  by_cases h:p.1=k
  ·rw[if_pos h]
   by_cases e:p.1=j
   ·rw[du (p:=(p.1,y)) e,du e,OZ,if_pos (e.symm.trans h)]
   ·rw[dy (p:=(p.1,y)) e,dy e,ih]
  ·rw[if_neg h]
   by_cases e:p.1=j
   ·rw[du (p:=p) e,du e,OZ,if_neg (fun z=>h (e.trans z))]
   ·rw[dy (p:=p) e,dy e,ih]
theorem oo (k j:κ)(y:V):∀kvs:List (κ×V),cu kvs k=none->cu (kvs++[(k,y)]) j=if j=k then some y else cu kvs j
 |[],_=>by
  by_cases e:k=j
  ·rw[if_pos e.symm];exact du (p:=(k,y)) e
  ·rw[if_neg (fun z=>e z.symm)];exact dy (p:=(k,y)) e
 |p::r,hn=>by
  rw[List.cons_append]
  have hk:¬p.1=k:=fun z=>by rw[du z]at hn;cases hn
  rw[dy hk]at hn
  have ih:=oo k j y r hn
  by_cases e:p.1=j
  ·rw[du e,du e,if_neg (fun z=>hk (e.trans z))]
  ·rw[dy e,dy e,ih]
theorem lJ (kvs:List (κ×V))(k j:κ)(y:V):cu (cp kvs k y) j=if j=k then some y else cu kvs j:=by
 unfold cp
 by_cases a:(kvs.any fun kv=>decide (kv.1=k))=true
 ·rw[if_pos a,qw]
  rw[gT]at a
  by_cases e:j=k
  ·obtain⟨x,hx⟩:=Mg.mp a
   rw[if_pos e,e,hx,OZ,if_pos rfl]
  ·rw[if_neg e]
   cases cu kvs j with
   |none=>rfl
   |some x=>rw[OZ,if_neg e]
 ·rw[if_neg a]
  refine oo k j y kvs ?_
  rw[gT]at a
  cases q:cu kvs k with
  |none=>rfl
  |some x=>rw[q]at a;exact(a rfl).elim
theorem gf (kvs:List (κ×V))(k:κ)(v:V):(cp kvs k v).length<=kvs.length+1:=by
 unfold cp
 split
 ·rw[Ll];omega
 ·rw[Lm,LU,Uj];omega
theorem wY {kvs:List (κ×V)}{k:κ}(v:V)(h:cu kvs k=none):cp kvs k v=kvs++[(k,v)]:=by
 unfold cp
 rw[gT,h]
 exact if_neg (by decide)
theorem cU.isSome_eq {o:Option V}{u:Option tx}(r:cU o u):o.isSome=u.isSome:=by
 cases o with
 |none=>cases u with
  |none=>rfl
  |some _=>exact(show False from r).elim
 |some _=>cases u with
  |none=>exact(show False from r).elim
  |some _=>rfl
theorem KV.val {kvs:List (κ×V)}{vs:List (κ×tx)}(r:KV kvs vs)(k:κ):cU (cu kvs k) (valueAt vs k):=by
 unfold KV at r
 induction r with
 |nil=>exact Nh
 | @cons p q ps qs h t ih=>
   obtain⟨h1,h2⟩:=h
   by_cases e:p.1=k
   ·have e':q.1=k:=h1.symm.trans e
    have b:valueAt (q::qs) k=some q.2:=by simp[valueAt,OC,e']
    rw[du e,b];exact h2
   ·have e':¬q.1=k:=fun z=>e (h1.trans z)
    have b:valueAt (q::qs) k=valueAt qs k:=by simp[valueAt,OC,e']
    rw[dy e,b];exact ih
theorem KV.any {kvs:List (κ×V)}{vs:List (κ×tx)}(r:KV kvs vs)(k:κ):(kvs.any fun kv=>decide (kv.1=k))=vs.any fun kv=>decide (kv.1=k):=by
 unfold KV at r
 induction r with
 |nil=>rfl
 |cons h t ih=>rw[RT,RT,ih,h.1]
theorem KV.repl {kvs:List (κ×V)}{vs:List (κ×tx)}(r:KV kvs vs)(k:κ){y:V}{u:tx}(ry:aX y u):
  KV (kvs.map fun kv=>if kv.1=k then(kv.1,y)else kv) (vs.map fun kv=>if kv.1=k then(kv.1,u)else kv):=by
 unfold KV at r⊢
 induction r with
 |nil=>exact .nil
 | @cons p q ps qs h t ih=>
   rw[Md,Md]
   refine .cons ?_ ih
   obtain⟨h1,h2⟩:=h
   by_cases e:p.1=k
   ·rw[if_pos e,if_pos (h1.symm.trans e)];exact⟨h1,ry⟩
   ·rw[if_neg e,if_neg (fun z=>e (h1.trans z))];exact⟨h1,h2⟩
theorem KV.put {kvs:List (κ×V)}{vs:List (κ×tx)}(r:KV kvs vs)(k:κ){y:V}{u:tx}(ry:aX y u):KV (cp kvs k y) (stored vs k u):=by
 unfold cp stored
 rw[r.any k]
 by_cases e:(vs.any fun kv=>decide (kv.1=k))=true
 ·rw[if_pos e,if_pos e];exact r.repl k ry
 ·rw[if_neg e,if_neg e];exact Paired.snoc r ⟨rfl,ry⟩
theorem KV.length {kvs:List (κ×V)}{vs:List (κ×tx)}(r:KV kvs vs):kvs.length=vs.length:=Paired.length r
end
theorem kj {P:LV}{w:Mx}{k:Key}{u:tx}(r:aX (kV k) u):(cB P w).is k u=true:=by
 cases k with
 |inl i=>obtain⟨t,e⟩:=(show ∃t,u=Qv i t from r);subst e;exact rT P w i t
 |inr x=>obtain⟨t,e⟩:=(show ∃t,u=OM x t from r);subst e;exact rY P w x t
theorem mf {a b:Key}(e:kV a=kV b):a=b:=by
 cases a with
 |inl i=>cases b with
  |inl j=>have e':V.int i=V.int j:=e;injection e' with e';rw[e']
  |inr y=>exact nomatch (show V.int i=V.str y from e)
 |inr x=>cases b with
  |inl j=>exact nomatch (show V.str x=V.int j from e)
  |inr y=>have e':V.str x=V.str y:=e;injection e' with e';rw[e']
theorem nq:∀{a b:List Key},a.map kV=b.map kV->a=b
 |[],[],_=>rfl
 |[],_::_,e=>by simp at e
 |_::_,[],e=>by simp at e
 |x::xs,y::ys,e=>by
  rw[Md,Md]at e
  injection e with e1 e2
  rw[mf e1,nq e2]
theorem nV {P:LV}{w:Mx}:∀{ks:List Key}{us:List tx},aY (ks.map kV) us->ItemsAre (cB P w) ks us
 |[],_,r=>by rw[Ri]at r;cases r;exact .nil
 |k::ks,_,r=>by
  rw[Md]at r
  cases r with
  |cons h t=>exact .cons (kj h) (nV t)
abbrev KT (H:Hp):List (List Key×V)->List (List Key×Addr×tx)->Prop:=Paired fun p q=>p.1=q.1/\H q.2.1=some (.tup (p.1.map kV))/\aX p.2 q.2.2
theorem KT.val {H:Hp}{kvs:List (List Key×V)}{xs:List (List Key×Addr×tx)}(r:KT H kvs xs)(k:List Key):cU (cu kvs k) ((atKey xs k).map (·.2)):=by
 induction r with
 |nil=>exact Nh
 | @cons p q ps qs h t ih=>
   obtain⟨h1,_,h2⟩:=h
   by_cases e:p.1=k
   ·have e':q.1=k:=h1.symm.trans e
    have b:atKey (q::qs) k=some q.2:=by simp[atKey,OC,e']
    rw[du e,b];exact h2
   ·have e':¬q.1=k:=fun z=>e (h1.trans z)
    have b:atKey (q::qs) k=atKey qs k:=by simp[atKey,OC,e']
    rw[dy e,b];exact ih
theorem KT.repl {H:Hp}{kvs:List (List Key×V)}{xs:List (List Key×Addr×tx)}(r:KT H kvs xs)(k:List Key){y:V}{u:tx}(ry:aX y u):
  KT H (kvs.map fun kv=>if kv.1=k then(kv.1,y)else kv) (xs.map (putAt k u)):=by
 induction r with
 |nil=>exact .nil
 | @cons p q ps qs h t ih=>
   rw[Md,Md]
   refine .cons ?_ ih
   obtain⟨h1,h2,h3⟩:=h
   unfold putAt
   by_cases e:p.1=k
   ·rw[if_pos e,if_pos (h1.symm.trans e)];exact⟨h1,h2,ry⟩
   ·rw[if_neg e,if_neg (fun z=>e (h1.trans z))];exact⟨h1,h2,h3⟩
theorem KT.put {H:Hp}{kvs:List (List Key×V)}{xs:List (List Key×Addr×tx)}(r:KT H kvs xs)(k:List Key){b:Addr}{y:V}{u:tx}(hb:H b=some (.tup (k.map kV)))(ry:aX y u):
  KT H (cp kvs k y) (storedH xs k b u):=by
 have e:(kvs.any fun kv=>decide (kv.1=k))=(atKey xs k).isSome:=by
  rw[gT,(r.val k).isSome_eq,SJ]
 unfold cp storedH
 rw[e]
 by_cases q:(atKey xs k).isSome=true
 ·rw[if_pos q,if_pos q];exact r.repl k ry
 ·rw[if_neg q,if_neg q];exact Paired.snoc r ⟨rfl,hb,ry⟩
theorem KT.keeps {H H':Hp}{kvs:List (List Key×V)}{xs:List (List Key×Addr×tx)}(r:KT H kvs xs)(ht:∀b ys,H b=some (.tup ys)->H' b=some (.tup ys)):KT H' kvs xs:=
 Paired.mapP r fun _ _ z=>⟨z.1,ht _ _ z.2.1,z.2.2⟩
section
variable {P:LV}{w:Mx}{H:Hp}{h:Heap}{a:Addr}
theorem zM {u:HO}(ok:HOk P w H h)(e:Rd H a u):bg P w H h a u:=e.ok ok
theorem kO {kvs:List (Key×V)}(ok:HOk P w H h)(e:Rd H a (.dK kvs)):kvs.length<=sizeLine/\(a==sysModules)=false/\∃vs,KV kvs vs/\h.DictOf (cB P w) a vs:=
 show bg P w H h a (.dK kvs)from zM ok e
theorem zN {kvs:List (Key×V)}(ok:HOk P w H h)(e:H a=some (.dK kvs)):kvs.length<=sizeLine/\(a==sysModules)=false/\∃vs,KV kvs vs/\h.DictOf (cB P w) a vs:=kO ok (.inl e)
theorem iR {ks:List Key}(ok:HOk P w H h)(e:H a=some (.tup (ks.map kV))):(tupleKind (cB P w)).is h ks a:=by
 obtain⟨_,its,r,o,h1,h2,n,h3⟩:=(show bg P w H h a (.tup (ks.map kV))from ok a _ e)
 exact⟨o,its.toArray,n,h1,h2,h3,by simpa using nV r⟩
theorem lN {kvs:List (List Key×V)}(ok:HOk P w H h)(e:Rd H a (.dT kvs)):kvs.length<=sizeLine/\(a==sysModules)=false/\
  ∃xs,KT H kvs xs/\h.DictOfH (tupleKind (cB P w)) a xs:=by
 obtain⟨z,y,xs,r,o,es,ep,h1,h2,h3,h4,h5⟩:=(show bg P w H h a (.dT kvs)from zM ok e)
 refine⟨z,y,xs,r,o,es,ep,h1,h2,h3,h4,fun x hx=>?_,h5⟩
 have all:∀{l:List (List Key×V)}{m:List (List Key×Addr×tx)},KT H l m->∀x∈m,(tupleKind (cB P w)).is h x.1 x.2.1:=by
  intro l m q
  induction q with
  |nil=>intro x hx;exact nomatch hx
  | @cons p q ps qs hq t ih=>
    intro x hx
    rcases LG.mp hx with e|hx
    ·subst e
     exact iR ok (by rw[<-hq.1];exact hq.2.1)
    ·exact ih x hx
 exact all r x hx
theorem uA {kvs:List (List Key×V)}(ok:HOk P w H h)(e:H a=some (.dT kvs)):kvs.length<=sizeLine/\(a==sysModules)=false/\
 ∃xs,KT H kvs xs/\h.DictOfH (tupleKind (cB P w)) a xs:=lN ok (.inl e)
end
def fJ (H:Hp)(a:Addr)(y:V)(r:Option V):Prop:=
 (∃kvs k,Rd H a (.dK kvs)/\y=kV k/\r=cu kvs k)\/∃kvs k b,Rd H a (.dT kvs)/\y=.ref b/\H b=some (.tup (k.map kV))/\r=cu kvs k
def xJ (H:Hp)(a:Addr)(y v:V)(H':Hp):Prop:=
 (∃kvs k,H a=some (.dK kvs)/\y=kV k/\kvs.length<sizeLine/\H'=upd H a (.dK (cp kvs k v)))\/
 ∃kvs k b,H a=some (.dT kvs)/\y=.ref b/\H b=some (.tup (k.map kV))/\kvs.length<sizeLine/\H'=upd H a (.dT (cp kvs k v))
theorem fJ.t {H:Hp}{a b:Addr}{kvs:List (List Key×V)}{k:List Key}(e:H a=some (.dT kvs))(eb:H b=some (.tup (k.map kV))):fJ H a (.ref b) (cu kvs k):=.inr ⟨kvs,k,b,.inl e,rfl,eb,rfl⟩
section
variable {X:Cx}{pins:List (Addr×Obj)}{σ:St}{H:Hp}{s:If}{a:Addr}{y v:V}{u r:tx}{o:Option V}{A:Mq}{E:tx->If->Prop}
theorem Inv.big (I:Inv X pins σ H s):sysModules<s.heap.objs.size:=by
 have h:mainGlobals<s.heap.objs.size:=(I.mod.glob.keeps I.bk).lt
 exact Nat.lt_trans (by decide) h
theorem vE {Q:tx->If->Prop}(hu:A.units+1<cLine)(I:Inv X pins σ H s)(g:fJ H a y (some v))(ry:aX y u)(h:∀w' s',Inv X pins σ H s'->aX v w'->Q w' s'):
  wpAny (model X.prog X.w) A (getItem (.ref a) u) Q E s:=by
 rcases g with⟨kvs,k,e,ey,l⟩|⟨kvs,k,b,e,ey,eb,l⟩
 ·subst ey
  obtain⟨z,hd,vs,rel,dd⟩:=kO I.hok e
  obtain⟨w',hw,rw'⟩:=cU.some_of (v:=v) (o:=valueAt vs k) (by rw[l];exact rel.val k)
  exact wpAny_getItem_of (kj ry) dd.mapOf hw (h w' _ (I.tok _) rw')
 ·subst ey
  cases (show u=LF b from ry)
  obtain⟨z,hd,xs,rel,dd⟩:=lN I.hok e
  obtain⟨w',hw,rw'⟩:=cU.some_of (v:=v) (o:=(atKey xs k).map (·.2)) (by rw[l];exact rel.val k)
  obtain⟨p,hp,hp2⟩:=RK.mp hw
  refine wpAny_getItem_heap (OL hu) (iR I.hok eb) dd hp ?_
  rw[hp2]
  exact h w' _ (I.tok _) rw'
theorem AO {Q:tx->If->Prop}(hu:A.units+1<cLine)(I:Inv X pins σ H s)(g:fJ H a y o)(ry:aX y u)(h:∀s',Inv X pins σ H s'->Q (.bool (!o.isSome)) s'):
  wpAny (model X.prog X.w) A (compareOp .NotIn u (.ref a)) Q E s:=by
 rcases g with⟨kvs,k,e,ey,l⟩|⟨kvs,k,b,e,ey,eb,l⟩
 ·subst ey
  obtain⟨z,hd,vs,rel,dd⟩:=kO I.hok e
  refine wpAny_notIn_of (kj ry) hd dd.mapOf ?_
  rw[<-(rel.val k).isSome_eq,<-l]
  exact h _ (I.tok _)
 ·subst ey
  cases (show u=LF b from ry)
  obtain⟨z,hd,xs,rel,dd⟩:=lN I.hok e
  refine wpAny_notIn_heap (OL hu) (iR I.hok eb) hd dd ?_
  have q:=(rel.val k).isSome_eq
  rw[SJ]at q
  rw[<-q,<-l]
  exact h _ (I.tok _)
theorem kQ {h':Heap}{t':Nat}{ob:HO}(I:Inv X pins σ H s)(mu:Mut (H a))(hs:Nd a s.heap h')(he:∃q,h'.get? a=some q)(new:bg X.prog X.w (upd H a ob) h' a ob):
  Inv X pins σ (upd H a ob) {s with heap:=h',toks:=t'}:=
 I.write (x:=a) (e:=a) mu (.inl rfl) (fun b q hb z=>(hs.2 b hb).trans z) he new
theorem vD {P:LV}{w:Mx}{H':Hp}{h':Heap}{kvs:List (Key×V)}{vs:List (Key×tx)}(z:kvs.length<=sizeLine)(hd:(a==sysModules)=false)(rel:KV kvs vs)(dd:h'.DictOf (cB P w) a vs):
 bg P w H' h' a (.dK kvs):=⟨z,hd,vs,rel,dd⟩
theorem vS {H':Hp}{Q:Unit->If->Prop}(hu:A.units+1<cLine)(I:Inv X pins σ H s)(g:xJ H a y v H')(ry:aX y u)(rv:aX v r)(h:∀s',Inv X pins σ H' s'->Q () s'):
  wpAny (model X.prog X.w) A (setItem (.ref a) u r) Q E s:=by
 rcases g with⟨kvs,k,e,ey,l,eH⟩|⟨kvs,k,b,e,ey,eb,l,eH⟩
 ·subst ey eH
  obtain⟨z,hd,vs,rel,dd⟩:=zN I.hok e
  have hz:vs.length<=sizeLine:=by rw[<-rel.length];exact z
  have hl:(cp kvs k v).length<=sizeLine:=by have:=gf kvs k v;omega
  refine wpAny_setItem_pairs (hsz:=hz) (kj ry) dd fun h' dd' hs=>h _ ?_
  have he:∃q,h'.get? a=some q:=let ⟨q,_,_,hq,_⟩:=dd';⟨q,hq⟩
  exact kQ I (by rw[e];exact Nh) hs he (vD hl hd (rel.put k rv) dd')
 ·subst ey eH
  cases (show u=LF b from ry)
  obtain⟨z,hd,xs,rel,dd⟩:=uA I.hok e
  have hz:xs.length<=sizeLine:=by rw[<-Paired.length rel];exact z
  have hl:(cp kvs k v).length<=sizeLine:=by have:=gf kvs k v;omega
  refine wpAny_setItem_heap (hsz:=hz) (OL hu) (iR I.hok eb) dd fun h' dd' hs=>h _ ?_
  obtain⟨q,es,ep,hq,h2,h3,h4,_,h5⟩:=dd'
  refine kQ I (by rw[e];exact Nh) hs ⟨q,hq⟩ ⟨hl,hd,_,(rel.put k eb rv).keeps fun c ys ec=>?_,q,es,ep,hq,h2,h3,h4,h5⟩
  rw[ao (aU ec e (fun z=>nomatch z))]
  exact ec
end
section
variable {X:Cx}{pins:List (Addr×Obj)}{σ:St}{H:Hp}{s:If}{a:Addr}{kvs:List (Key×V)}{k:Key}{u:tx}{A:Mq}{E:tx->If->Prop}
theorem FU {Q:tx->If->Prop}(I:Inv X pins σ H s)(e:Rd H a (.dK kvs))(h:∀t s',Inv X pins σ H s'->Q (.int kvs.length t) s'):wpAny (model X.prog X.w) A (call (.builtin "len") [.ref a]) Q E s:=by
 obtain⟨z,hd,vs,rel,dd⟩:=kO I.hok e
 refine call_len_dict hd dd (by rw[<-rel.length];rw[NA]at z;omega) ?_
 rw[<-rel.length]
 exact h _ _ (I.tok _)
end
theorem rV {X:Cx}{pins:List (Addr×Obj)}{σ:St}{H:Hp}{s:If}{a:Addr}{y:V}{o:Option V}(I:Inv X pins σ H s)(g:fJ H a y o):s.TypeIs (.ref a) "dict":=by
 rcases g with⟨kvs,k,e,_,_⟩|⟨kvs,k,b,e,_,_,_⟩
 ·obtain⟨_,_,vs,_,dd⟩:=kO I.hok e
  exact dd.typeIs
 ·obtain⟨_,_,xs,_,dd⟩:=lN I.hok e
  exact dd.typeIs
theorem zb {P:LV}{w:Mx}{H:Hp}(h:Heap)(hb:sysModules<h.objs.size):bg P w H (h.push {cls:=.type "dict",data:=.dict #[]}) h.objs.size (.dK []):=
 ⟨Mj _,beq_eq_false_iff_ne.mpr (Mh (LH hb)),[],.nil,Heap.DictOf.new h⟩
theorem xp {P:LV}{w:Mx}{H:Hp}(h:Heap)(hb:sysModules<h.objs.size):bg P w H (h.push {cls:=.type "dict",data:=.dict #[]}) h.objs.size (.dT []):=
 ⟨Mj _,beq_eq_false_iff_ne.mpr (Mh (LH hb)),[],.nil,_,#[],0,Ly _ rfl,⟨rfl,rfl,rfl⟩,rfl,rfl,List.nodup_nil⟩
def vp:TE:=fun _ H Q=>∀p,H p=none->Q (.ref p) (upd H p (.dK []))
def wo:TE:=fun _ H Q=>∀p,H p=none->Q (.ref p) (upd H p (.dT []))
section
variable {X:Cx}{pos:Pos}
theorem yF:PE X (.Dict [] [] pos) vp:=fun pins s σ H Q I h=>
 wpAny_Dict_empty ⟨.ref s.heap.objs.size,_,I.laid (a:=s.heap.objs.size) (o:=.dK []) (t':=s.toks) (fun _ _ q=>cW _ q) (gV _) (zb s.heap I.big),rfl,h _ (I.hok.fresh (gV _))⟩
theorem yY:PE X (.Dict [] [] pos) wo:=fun pins s σ H Q I h=>
 wpAny_Dict_empty ⟨.ref s.heap.objs.size,_,I.laid (a:=s.heap.objs.size) (o:=.dT []) (t':=s.toks) (fun _ _ q=>cW _ q) (gV _) (xp s.heap I.big),rfl,h _ (I.hok.fresh (gV _))⟩
end
end L2
namespace Att
open PySem PySem.W PySem.Calls PyProof.Rows
theorem ints_of_wellAll {P:Params}{h:Heap}:∀(ns:List Int)(vs:List tx),WellAll P h vs (ns.map WData.int)->Uq vs ns:=by
 intro ns
 induction ns with
 |nil=>
  intro vs w
  rw[Ri]at w
  cases w
  exact .nil
 |cons n ns ih=>
  intro vs w
  rw[Md]at w
  cases w with
  |cons a b=>
   cases a
   exact .cons _ _ (ih _ b)
theorem script_of {l:OpenLaw}{n:Nat}(hn:l.most=some n){P:Params}{h:Heap}{args:List WData}{vals:List tx}
  (hpre:l.row.toRowW.claim.pre args=true)(hwl:WellAll P h vals args):
  ∃a vs ns,vals=[LF a]/\args=[WData.list (ns.map WData.int)]/\h.get? a=some {cls:=.type "list",data:=.seq vs.toArray}/\Uq vs ns/\ns.length<=n:=by
 have hsh:WShape.hasAll [] args [.list .int]=true:=(pre_splitW hpre).1
 have hc:l.pre.holds [] {args:=args}=true:=(pre_splitW hpre).2
 obtain⟨d,r,rfl,h1,h2⟩:=hasAllW_cons hsh
 obtain rfl:=hasAllW_nil h2
 obtain⟨xs,rfl,h3⟩:=hasW_list h1
 obtain⟨ns,rfl⟩:=items_int h3
 have hlen:ns.length<=n:=by
  unfold OpenLaw.pre at hc
  have h4:(WTm.not (.lt (.lit (.int (n:Int))) (.len (.arg 0)))).holds [] {args:=[.list (ns.map .int)]}=true:=by
   have h4:=(holds_andW hc).1
   rw[hn]at h4
   exact h4
  have h5:=condW_of h4 (w_not (w_lt w_lit (w_len_list (w_arg rfl))))
  rw[Ll]at h5
  refine Nat.le_of_not_lt fun q=>?_
  have q':(n:Int)<((ns.length:Nat):Int):=by omega
  first
   |(rw[decide_eq_true q']at h5;exact absurd h5 (by decide))
   |(simp at h5;omega)
 cases hwl with
 |cons w1 w2=>
  cases w2
  cases w1 with
  |list ho hall=>exact⟨_,_,ns,rfl,rfl,ho,ints_of_wellAll ns _ hall,hlen⟩
theorem post_true (l:OpenLaw)(args:List WData):l.row.toRowW.claim.post args (.bool true) args=true:=
 postW_of (r:=l.row.toRowW) (X:=(true==true))
  (show WShape.has [] (.bool true) .bool=true by first|rfl|decide|simp[WShape.has,WShape.arms,WShape.armsAll])
  (show(WTm.eq .res (.lit (.bool true))).value [] {args:=args,res:=some (.bool true),after:=args}=some (.bool (true==true))from w_eq_bool (w_res rfl) w_lit) rfl
theorem attach_call {l:OpenLaw}{n:Nat}{q:LV}{loose:List Str}{XP:(Str->Option tx)->Heap->Prop}{YP:Mx->Heap->Prop}{d:DefRec}
  (hn:l.most=some n)(hdf:d.params.defaults=[])
  (call:∀(w:Mx)(s₀ s₁:If)(mg mb:Str->Option tx)(fa:Addr)(o:Obj)(pm cd doc:tx)(a:Addr)(vs:List tx)(ns:List Int),
   Ground q loose [] XP w s₀ mg mb s₁.heap->YP w s₁.heap->
   s₁.heap.get? fa=some o->o.data=.func (docDef d.name d.params d.body d.scope pm cd doc)->s₁.heap.CodeRec cd d.name->mg d.name=some (.ref fa)->
   s₁.heap.get? a=some {cls:=.type "list",data:=.seq vs.toArray}->Uq vs ns->ns.length<=n->s₁.gens=#[]->
   codeAny (model l.prog w) callerA (.call (.ref fa) ⟨[.ref a],[]⟩) (fun r s'=>r=.ok (.ret (.bool true))/\OldK s₁.heap s'.heap/\s'.os=s₁.os/\Qb s'.gens) s₁):
  WalkO q loose XP YP l.row.toRowW d [] (fun f vs=>SO f vs):=by
 intro w s₀ s₁ mg mb G Y fa o pm cd doc dV kV ho hd hcd hD hmg hg args vals as hpre hlay hrd hwl hlo
 obtain rfl:dV=.none:=Dflts.none hD hdf
 obtain rfl:kV=.none:=Dflts.noKw hD
 obtain⟨a,vs,ns,rfl,rfl,hobj,hints,hlen⟩:=script_of hn hpre hwl
 refine enter_call (NY (call w s₀ s₁ mg mb fa o pm cd doc a vs ns G Y ho (fd_plain hd) hcd hmg hobj hints hlen hg) fun r s' hq=>?_)
 obtain⟨rfl,h2,h3,h4⟩:=hq
 exact⟨.inl ⟨.bool true,.bool true,[],rfl,fun _=>rfl,.bool true,post_true l _,fun _=>⟨Rz,fun _ hm=>(nomatch hm)⟩⟩,h2,h3,h4⟩
end Att
namespace L2
open PySem PySem.Spec PyProof.Rows
theorem oj:∀{vs:List tx}{ns:List Int},Uq vs ns->aY (ns.map V.int) vs
 |_,_,.nil=>.nil
 |_,_,.cons n t h=>.cons ⟨t,rfl⟩ (oj h)
def bY (s:Stmt):Arguments:=match s with
 |.FunctionDef _ a _ _ _ _ _ _ _ _=>a
 |_=>{posonlyargs:=[],args:=[],vararg:=none,kwonlyargs:=[],kw_defaults:=[],kwarg:=none,defaults:=[]}
def aS (s:Stmt):List Stmt:=match s with
 |.FunctionDef _ _ b _ _ _ _ _ _ _=>b
 |_=>[]
def au (s:Stmt):Scope:=match s with
 |.FunctionDef _ _ _ _ _ _ sc _ _ _=>sc
 |_=>{kind:=.function,names:=[],isGenerator:=false,isCoroutine:=false}
abbrev E0:XK:=fun _ _ _=>False
structure Fun (K:pv)(x qual:Str)(st:Stmt)(f:Addr)(fd:LI):Prop where
 ex:∃(oc:tx)(od:Option Addr)(kV doc pm:tx)(an:Option Addr)(cdv ct:tx)(osl:Array (Option tx)),
  fd=OG x qual (bY st) (aS st) (au st) .none kV doc pm an cdv ct/\K.lookup f=some ⟨oc,od,.func fd,osl⟩/\TZ K cdv qual=true
 kp:Ov K (.ref f)=true
section
variable {P:LV}{w:Mx}{K:pv}{mg:Str->Option tx}{base:Heap}
theorem Fun.binds {x qual:Str}{st:Stmt}{f:Addr}{fd:LI}{ps:List Str}(F:Fun K x qual st f fd)
  (h:∀(kV doc pm:tx)(an:Option Addr)(cdv ct:tx)(us:List tx),us.length=ps.length->bindArgs (OG x qual (bY st) (aS st) (au st) .none kV doc pm an cdv ct) ⟨us,[]⟩=pure (ps.zip us)):bv K fd ps []:=by
 obtain⟨oc,od,kV,doc,pm,an,cdv,ct,osl,rfl,lk,hcd⟩:=F.ex
 exact .all (h kV doc pm an cdv ct)
theorem bX {x qual:Str}{st:Stmt}{f:Addr}{oc:tx}{od an:Option Addr}{osl:Array (Option tx)}{kV doc pm cdv ct:tx}(l:K.lookup f=some ⟨oc,od,.func (OG x qual (bY st) (aS st) (au st) .none kV doc pm an cdv ct),osl⟩)
 (c:TZ K cdv qual=true)(k:Ov K (.ref f)=true):Fun K x qual st f (OG x qual (bY st) (aS st) (au st) .none kV doc pm an cdv ct):=⟨⟨oc,od,kV,doc,pm,an,cdv,ct,osl,rfl,l,c⟩,k⟩
end
theorem br {n:Nat}(h:n<=1000):n<sizeLine:=MM h (by decide)
section
variable {X:Cx}
theorem wz:bZ X (.builtin "len") (fun xs H Q=>∃a kvs,xs=[V.ref a]/\H a=some (.dK kvs)/\Q (.int kvs.length) H):=by
 intro pins s σ H xs us Q I r h
 obtain⟨a,kvs,rfl,ha,q⟩:=h
 obtain⟨u,rfl,ru⟩:=iq r
 cases ru
 exact FU I (.inl ha) fun t s' I'=>⟨.int kvs.length,H,I',⟨t,rfl⟩,q⟩
end
theorem jZ {A B:Prop}(h:A):if true=true then A else B:=by
 rw[if_pos rfl]
 exact h
def aw (H H':Hp):Prop:=∀b o,H b=some o->H' b=some o
theorem aw.refl (H:Hp):aw H H:=fun _ _ h=>h
theorem aw.trans {H H1 H2:Hp}(a:aw H H1)(b:aw H1 H2):aw H H2:=fun c o h=>b c o (a c o h)
def cI:List (Str×NR)->List (Str×Addr)->List (Str×Addr)->List (Str×Addr)
 |[],_,cs=>cs
 |(n,k)::r,cells,cs=>cI r cells (if k==.free then(match cells.lookup n with|some a=>(n,a)::cs|none=>cs)else cs)
theorem jT {scope:Scope}{env:Env}(h:∀y∈scope.names,y.2=.free->(env.cells.lookup y.1).isSome=true):closureFor scope env=pure (cI scope.names env.cells []):=by
 have key:∀(l:List (Str×NR))(cs:List (Str×Addr)),(∀y∈l,y.2=.free->(env.cells.lookup y.1).isSome=true)->
   (forIn l cs (fun(x:Str×NR)(cs:List (Str×Addr))=>(if (x.2==Ny)=true then(do let a<-cellOf env x.1;pure (SD ((x.1,a)::cs)))else(pure (SD cs):Sem _))):Sem (List (Str×Addr)))=pure (cI l env.cells cs):=by
  intro l
  induction l with
  |nil=>intro cs _;rfl
  |cons y r ih=>
   intro cs hy
   obtain⟨n,k⟩:=y
   rw[OB]
   by_cases hk:k=.free
   ·subst hk
    have hs:=hy (n,.free) Mm rfl
    cases e:env.cells.lookup n with
    |none=>rw[e]at hs;cases hs
    |some a=>
     have:=ih ((n,a)::cs) (fun z hz=>hy z (Mc _ hz))
     simp only[cI,beq_self_eq_true,if_true,e,cellOf,TR]
     exact this
   ·have hb:(k==Ny)=false:=by simpa using hk
    have:=ih cs (fun z hz=>hy z (Mc _ hz))
    simp only[cI,hb,ND,if_false,TR]
    exact this
 have:=key scope.names [] h
 unfold closureFor
 simpa using this
theorem jN:∀{l:List (Str×NR)}{cells cs:List (Str×Addr)}{x:Str}{c:Addr},(∀x c,cs.lookup x=some c->cells.lookup x=some c)->(cI l cells cs).lookup x=some c->cells.lookup x=some c
 |[],_,_,_,_,h,e=>h _ _ e
 |(n,k)::r,cells,cs,x,c,h,e=>by
  refine jN (l:=r) (fun y d hy=>?_) e
  split at hy
  ·split at hy
   ·rename_i a ha
    by_cases hyn:y=n
    ·subst hyn
     rw[Si]at hy
     rw[<-hy];exact ha
    ·rw[NB]at hy
     have:(y==n)=false:=by simpa using hyn
     rw[this]at hy
     exact h _ _ hy
   ·exact h _ _ hy
  ·exact h _ _ hy
theorem lU:∀{l:List (Str×NR)}{cells cs:List (Str×Addr)}{x:Str},(cs.lookup x).isSome=true->((cI l cells cs).lookup x).isSome=true
 |[],_,_,_,h=>h
 |(n,k)::r,cells,cs,x,h=>by
  refine lU (l:=r) ?_
  split
  ·split
   ·rw[NB]
    split
    ·rfl
    ·exact h
   ·exact h
  ·exact h
theorem gk:∀{l:List (Str×NR)}{cells cs:List (Str×Addr)}{x:Str},(x,Ny)∈l->(cells.lookup x).isSome=true->((cI l cells cs).lookup x).isSome=true
 |[],_,_,_,h,_=>by cases h
 |(n,k)::r,cells,cs,x,h,hs=>by
  rcases LG.mp h with e|h
  ·cases e
   refine lU (l:=r) ?_
   simp only[beq_self_eq_true,if_true]
   cases e:cells.lookup n with
   |none=>rw[e]at hs;cases hs
   |some a=>simp only[Si];rfl
  ·exact gk (l:=r) h hs
theorem jd {x:Str}{k:NR}:∀{l:List (Str×NR)},l.lookup x=some k->(x,k)∈l:=fun h=>MY h
inductive fk (X:Cx)(scope:Scope):List Str->List Nat->Prop where
 |nil:fk X scope [] []
 |cons {y:Str} {i:Nat} {ys:List Str} {is:List Nat} (h1:X.N[i]?=some y) (h2:X.env.kindOf y=some .cell\/X.env.kindOf y=some .free) (h3:scope.names.lookup y=some .free) (h:fk X scope ys is):fk X scope (y::ys) (i::is)
structure fx (scope:Scope)(x:Str)(ys:List Str):Prop where
 kind:scope.kind=.function
 nocell:∀y∈scope.names,y.2≠.cell
 names:∀y∈scope.names,y.2=.local->scope.names.lookup y.1=some .local
 own:scope.names.lookup x=some .local
 all:∀y∈scope.names,y.2=.free->y.1∈ys
 nd:(x::ys).Nodup
def aO (X:Cx)(scope:Scope)(C:Addr)(N:List Str)(s:If)(H:Hp)(fp:List Addr):Cx:=
 {X with N:=N,s₀:=s,H₀:=H,env:=compEnvC scope (cI scope.names X.env.cells []) C X.env,outer:=X.stack,ex:=fp,fn:=fun _=>false,pn:=[],xe:=fun _ _=>False}
def aV (σ:St)(is:List Nat):St:=is.map fun i=>(σ[i]?).getD none
theorem iN {f:Str×NR->Str×NR}(hf:∀p,(f p).1=p.1){x:Str}:∀(l:List (Str×NR)),(l.map f).lookup x=(l.lookup x).map fun k=>(f (x,k)).2
 |[]=>rfl
 |(n,k)::r=>by
  have ih:=iN hf (x:=x) r
  have e:f (n,k)=(n,(f (n,k)).2):=Uz (hf (n,k)) rfl
  rw[Md,e,NB,NB]
  cases hx:x==n with
  |true=>
   have e':x=n:=by simpa using hx
   subst e';rfl
  |false=>exact ih
theorem jm (scope:Scope)(env:Env)(x:Str):(relabel scope env).names.lookup x=(scope.names.lookup x).map fun k=>if (k==Ny&&env.scope.kind==.function&&env.kindOf x==some .cell)then Pn else k:=by
 have hf:∀p:Str×NR,((fun(n,k)=>if (k==Ny&&env.scope.kind==.function&&env.kindOf n==some .cell)then(n,Pn)else(n,k)) p:Str×NR).1=p.1:=by
  intro p
  obtain⟨n,k⟩:=p
  show(if _ then(n,Pn)else(n,k)).1=n
  split<;>rfl
 have:=iN hf (x:=x) scope.names
 show Na x (List.map _ scope.names)=_
 rw[this]
 congr 1
 funext k
 show(if _ then(x,Pn)else(x,k)).2=_
 split<;>rfl
theorem eX {scope:Scope}{env:Env}{x:Str}{k:NR}(nc:∀y∈scope.names,y.2≠.cell)(h:(relabel scope env).names.lookup x=some k)(hk:k=.cell\/k=.free):(x,Ny)∈scope.names:=by
 rw[jm]at h
 cases q:scope.names.lookup x with
 |none=>rw[q]at h;cases h
 |some k'=>
  have hm:=jd q
  rw[q]at h
  have h:(if (k'==Ny&&env.scope.kind== .function&&env.kindOf x==some .cell)then Pn else k')=k:=LR h
  by_cases hc:k'=.free
  ·subst hc;exact hm
  ·have hb:(k'==Ny)=false:=by simpa using hc
   rw[hb]at h
   have h:k'=k:=h
   subst h
   rcases hk with z|z
   ·exact absurd z (nc _ hm)
   ·exact absurd z hc
theorem jL {scope:Scope}{env:Env}{x:Str}(h:scope.names.lookup x=some .free):(relabel scope env).names.lookup x=some .cell\/(relabel scope env).names.lookup x=some .free:=by
 rw[jm,h]
 show some (if _ then _ else _)=_\/some (if _ then _ else _)=_
 split
 ·exact .inl rfl
 ·exact .inr rfl
theorem gl {scope:Scope}{env:Env}{x:Str}(h:scope.names.lookup x=some .local):(relabel scope env).names.lookup x=some .local:=by
 rw[jm,h];rfl
theorem og {X:Cx}{scope:Scope}{ys:List Str}{is:List Nat}{m:Str->Option tx}{h:Heap}{σ:St}(hc:fk X scope ys is)
  (hl:∀(i:Nat)(x:Str)(v:V),X.N[i]? =some x->σ[i]? =some (some v)->Vis X.env.scope x->∃u,aX v u/\DK X.env h m x u)(nd:True):
  ∀(j:Nat)(y:Str)(v:V),ys[j]? =some y->(aV σ is)[j]? =some (some v)->∃u,aX v u/\scope.names.lookup y=some .free/\∃c,X.env.cells.lookup y=some c/\h.IsCell c (some u):=by
 induction hc with
 |nil=>intro j y v e;simp at e
 | @cons z i zs js h1 h2 h3 hr ih=>
   intro j y v e1 e2
   cases j with
   |zero=>
    simp at e1;subst e1
    have e2:(σ[i]?).getD none=some v:=by simpa[aV]using e2
    have e3:σ[i]? =some (some v):=by
     cases q:σ[i]? with
     |none=>rw[q]at e2;simp at e2
     |some o=>rw[q]at e2;simp at e2;rw[e2]
    have hv:Vis X.env.scope z:=by
     rcases h2 with q|q
     ·exact .inr (.inl q)
     ·exact .inr (.inr q)
    obtain⟨u,r,l⟩:=hl i z v h1 e3 hv
    refine⟨u,r,h3,?_⟩
    rcases l with⟨k,_⟩|⟨_,c,e,ic⟩
    ·rcases h2 with q|q
     ·rw[q]at k;cases k
     ·rw[q]at k;cases k
    ·exact⟨c,e,ic⟩
   |succ j=>
    exact ih j y v (by simpa using e1) (by simpa[aV]using e2)
def lX (is:List Nat)(tc:TT)(te:TE)(σ:St)(D:Addr)(J:It)(H1:Hp)(Q:VK):Prop:=∃W:Nat->Nat->List V->Hp->Prop,(∃m,W 0 m [] (upd H1 D (.lst [])))/\
 ∀i m ys H2,W i m ys H2->(J.stop i H2/\Q (.ref D) H2)\/(J.go i H2/\∀x H3,J.yld i H2 x H3->tc (some x::aV σ is) H3 fun b H4=>if b=true then
  te (some x::aV σ is) H4 fun y H5=>H5 D=some (.lst ys)/\ys.length<sizeLine/\∃m',m'<m/\W (i+1) m' (ys++[y]) (upd H5 D (.lst (ys++[y])))
  else ∃m',m'<m/\W (i+1) m' ys H4)
def fz (is:List Nat)(wi:TI)(tc:TT)(te:TE):TE:=fun σ H Q=>wi σ H fun J H1=>∀D,H1 D=none->lX is tc te σ D J H1 Q
theorem rM (elt target iter c:Expr)(scope:Scope)(pos:Pos)(it acc:tx)(env:Env):
  compTurn (.ListComp elt [⟨target,iter,[c],0⟩] scope pos) 0 it acc env=(standAt iter.pos >>= fun _=>pyNext it >>= fun r=>match r with
   |none=>pure (.done .next)
   |some v=>letOwnedTupleGo target it v >>= fun _=>assign target env v >>= fun _=>isTrue c env (eval c env) >>= fun ok=>
    (if ok=true then(eval elt env >>= fun x=>call (.builtin "list.append") [acc,x] >>= fun _=>pure ())else pure ()) >>= fun _=>
     again (.compLoop (.ListComp elt [⟨target,iter,[c],0⟩] scope pos) 0 it acc env)):=by
 unfold compTurn
 simp only[OB,Po,RQ,RS,List.getElem?_nil,bind_assoc,TR,bne_self_eq_false,ND,if_false,if_true]
 congr 1
 funext _
 congr 1
 funext r
 cases r with
 |none=>rfl
 |some v=>
  simp only[bind_assoc,TR,if_true]
  congr 1;funext _
  congr 1;funext _
  congr 1;funext b
  cases b<;>simp
section
variable {prog:LV}{w:Mx}{A:Mq}{R:Qg->If->Prop}{s:If}
theorem fM {elt target iter c:Expr}{scope:Scope}{pos:Pos}{it acc:tx}{env:Env}(I:Nat->If->Prop)
  (turn:∀n s,I n s->wpAny (model prog w) A (pyNext it) (fun r s₁=>match r with
   |none=>R (.ok .next) s₁
   |some v=>wpAny (model prog w) A (letOwnedTupleGo target it v) (fun _ s₁=>wpAny (model prog w) A (assign target env v) (fun _ s₂=>wpAny (model prog w) A (isTrue c env (eval c env)) (fun ok s₂=>if ok=true then wpAny (model prog w) A (eval elt env) (fun x s₃=>
    wpAny (model prog w) A (call (.builtin "list.append") [acc,x]) (fun _ s₄=>∃m,m<n/\I m s₄) (notedBy (model prog w) A env fun e s'=>R (.error e) s') s₃)
    (notedBy (model prog w) A env fun e s'=>R (.error e) s') s₂ else ∃m,m<n/\I m s₂) (notedBy (model prog w) A env fun e s'=>R (.error e) s') s₂) (notedBy (model prog w) A env fun e s'=>R (.error e) s') s₁) (notedBy (model prog w) A env fun e s'=>R (.error e) s') s₁) (notedBy (model prog w) A env fun e s'=>R (.error e) s') s)
  (n:Nat)(h:I n s):
  codeAny (model prog w) A (.compLoop (.ListComp elt [⟨target,iter,[c],0⟩] scope pos) 0 it acc env) R s:=by
 refine codeAny_loop rfl I (fun n s hI=>?_) n h
 show wpAny _ _ ((compTurn (.ListComp elt [⟨target,iter,[c],0⟩] scope pos) 0 it acc env).onRaise (fun x=>do noteFrame x env;theTreesLotGoes x)) _ _ s
 refine wpAny_noted ?_
 rw[rM]
 refine ah (OK (ah (Ma (turn n s hI) (fun r s₁ h₁=>?_) fun _ _ h'=>h')))
 cases r with
 |none=>exact Lo h₁
 |some v=>
  refine ah (Ma h₁ (fun _ s₁ h₁=>ah (Ma h₁ (fun _ s₂ h₂=>ah (Ma h₂ (fun ok s₃ h₃=>?_) fun _ _ h'=>h')) fun _ _ h'=>h')) fun _ _ h'=>h')
  cases ok with
  |true=>
   rw[if_pos rfl]at h₃
   simp only[if_true]
   exact ah (ah (Ma h₃ (fun x s₃ h₃=>ah (Ma h₃ (fun _ s₄ h₄=>Lo (Lo ⟨rfl,h₄⟩)) fun _ _ h'=>h')) fun _ _ h'=>h'))
  |false=>
   rw[if_neg LQ]at h₃
   simp only[ND,if_false]
   exact ah (Lo (Lo ⟨rfl,h₃⟩))
theorem fK {elt target iter:Expr}{scope:Scope}{pos:Pos}{it acc:tx}{env:Env}(I:Nat->If->Prop)
  (turn:∀n s,I n s->wpAny (model prog w) A (pyNext it) (fun r s₁=>match r with
   |none=>R (.ok .next) s₁
   |some v=>wpAny (model prog w) A (letOwnedTupleGo target it v) (fun _ s₁=>wpAny (model prog w) A (assign target env v) (fun _ s₂=>wpAny (model prog w) A (eval elt env) (fun x s₃=>
    wpAny (model prog w) A (call (.builtin "list.append") [acc,x]) (fun _ s₄=>∃m,m<n/\I m s₄) (notedBy (model prog w) A env fun e s'=>R (.error e) s') s₃)
    (notedBy (model prog w) A env fun e s'=>R (.error e) s') s₂) (notedBy (model prog w) A env fun e s'=>R (.error e) s') s₁) (notedBy (model prog w) A env fun e s'=>R (.error e) s') s₁) (notedBy (model prog w) A env fun e s'=>R (.error e) s') s)
  (n:Nat)(h:I n s):
  codeAny (model prog w) A (.compLoop (.ListComp elt [⟨target,iter,[],0⟩] scope pos) 0 it acc env) R s:=by
 refine codeAny_loop rfl I (fun n s hI=>?_) n h
 show wpAny _ _ ((compTurn (.ListComp elt [⟨target,iter,[],0⟩] scope pos) 0 it acc env).onRaise (fun x=>do noteFrame x env;theTreesLotGoes x)) _ _ s
 refine wpAny_noted ?_
 rw[compTurn_list1]
 refine ah (OK (ah (Ma (turn n s hI) (fun r s₁ h₁=>?_) fun _ _ h'=>h')))
 cases r with
 |none=>exact Lo h₁
 |some v=>
  exact ah (Ma h₁ (fun _ s₁ h₁=>ah (Ma h₁ (fun _ s₂ h₂=>ah (ah (Ma h₂ (fun x s₃ h₃=>ah (Ma h₃
   (fun _ s₄ h₄=>Lo (Lo ⟨rfl,h₄⟩)) fun _ _ h'=>h')) fun _ _ h'=>h'))) fun _ _ h'=>h')) fun _ _ h'=>h')
end
def ng (X:Cx)(ifs:List Expr)(tc:TT):Prop:=match ifs with
 |[]=>tc=fun _ H Q=>Q true H
 |[c]=>PT X c tc
 |_=>False
section
variable {X:Cx}
theorem qZ {scope:Scope}{ys:List Str}{is:List Nat}(h:fk X scope ys is):is.length=ys.length:=by
 induction h with
 |nil=>rfl
 |cons _ _ _ _ ih=>simp[ih]
theorem ij {scope:Scope}{ys:List Str}{is:List Nat}(h:fk X scope ys is){y:Str}(hy:y∈ys):X.env.kindOf y=some .cell\/X.env.kindOf y=some .free:=by
 induction h with
 |nil=>cases hy
 |cons _ h2 _ _ ih=>
  rcases LG.mp hy with e|e
  ·rw[e];exact h2
  ·exact ih e
theorem oJ {elt iter:Expr}{ifs:List Expr}{x:Str}{px pos:Pos}{scope:Scope}{ys:List Str}{is:List Nat}{tc:TT}{te:TE}{pins:List (Addr×Obj)}{σ:St}{H2:Hp}{s2:If}{it:Addr}{fp:List Addr}{tn:Nat->Heap->Prop}{J:It}{E:tx->If->Prop}{Q:VK}{RR:tx->Addr->Qg->If->Prop}
  (hc:X.calm=true)(S:fx scope x ys)(hcap:fk X scope ys is)
  (hif:∀C s H fp,ng (aO X scope C (x::ys) s H fp) ifs tc)(he:∀C s H fp,PE (aO X scope C (x::ys) s H fp) elt te)
  (I2:Inv X pins σ H2 s2)(T:jn X.prog X.w X.K (.Name x px) J fp it tn)(st2:tn 0 s2.heap)(f2:∀b∈fp,iF X pins H2 b)
  (hW:∀D,H2 D=none->∃W:Nat->Nat->List V->Hp->Prop,(∃m,W 0 m [] (upd H2 D (.lst [])))/\
   ∀i m ys H2,W i m ys H2->(J.stop i H2/\Q (.ref D) H2)\/(J.go i H2/\∀x H3,J.yld i H2 x H3->tc (some x::aV σ is) H3 fun b H4=>if b=true then
    te (some x::aV σ is) H4 fun y H5=>H5 D=some (.lst ys)/\ys.length<sizeLine/\∃m',m'<m/\W (i+1) m' (ys++[y]) (upd H5 D (.lst (ys++[y])))
    else ∃m',m'<m/\W (i+1) m' ys H4))
  (hRR:∀D C H' s',(X.s₀.heap.objs.size<=C/\∀p∈X.pn++pins,p.1≠C)->(∃m,s'.heap.Ns C m)->C≠X.env.locals->H' C=none->Inv X pins σ H' s'->(∀h',Nd C s'.heap h'->Inv X pins σ H' {s' with heap:=h'})->Q (.ref D) H'->RR (.ref D) C (.ok .next) s'):
  wpAny (model X.prog X.w) X.A (newList []) (fun acc s₃=>wpAny (model X.prog X.w) X.A (newFunctionEnv scope X.env.globals (cI scope.names X.env.cells []) [] X.env.qual none .none (some X.env)) (fun cenv s₄=>
   codeAny (model X.prog X.w) X.A (.compStart (.ListComp elt [⟨.Name x px,iter,ifs,0⟩] scope pos) 0 (.ref it) acc {cenv with scope:=relabel scope X.env}) (RR acc cenv.locals) s₄) E s₃) E s2:=by
 have hf2:H2 s2.heap.objs.size=none:=I2.fresh
 refine MQ (Ph S.nocell (by intro y hy;simp at hy) (fun h₁ hns₁ hsb₁=>?_) S.kind)
 dsimp only at hns₁ hsb₁⊢
 have I3:Inv X pins σ (upd H2 s2.heap.objs.size (.lst [])) {s2 with heap:=s2.heap.push {cls:=.type "list",data:=.seq ([]:List tx).toArray}}:=I2.lnew (t':=s2.toks) (ys:=[]) .nil (Mj _)
 obtain⟨W,⟨m0,w0⟩,turn⟩:=hW _ hf2
 generalize hD:s2.heap.objs.size=D at I3 w0 turn hf2⊢
 generalize hs3:({s2 with heap:=s2.heap.push {cls:=.type "list",data:=.seq ([]:List tx).toArray}}:If)=s3 at I3
 have hp3:s2.heap.push {cls:=.type "list",dict:=none,data:=.seq ([]:List tx).toArray}=s3.heap:=by rw[<-hs3]
 rw[hp3]at hns₁ hsb₁⊢
 have tk3:s2.toks=s3.toks:=by rw[<-hs3]
 generalize hH3:upd H2 D (.lst [])=H3 at I3 w0
 generalize hC:s3.heap.objs.size=C at hns₁ hsb₁⊢
 have keep2:∀b o,s2.heap.get? b=some o->s3.heap.get? b=some o:=fun b o e=>by rw[<-hp3];exact cW _ e
 have keep3:∀b o,s3.heap.get? b=some o->h₁.get? b=some o:=fun b o e=>hsb₁.extBut b o (by rw[<-hC];exact LH (Lt e)) (cW _ e)
 have st3:tn 0 s3.heap:=T.keep _ _ _ st2 fun b _ o e=>keep2 b o e
 have st4:tn 0 h₁:=T.keep _ _ _ st3 fun b _ o e=>keep3 b o e
 have fp3:∀b∈fp,H3 b=none/\b<C:=fun b hb=>by
  obtain⟨o,e,_⟩:=T.obj _ _ st2 b hb
  refine⟨?_,by rw[<-hC];exact Lt (keep2 b o e)⟩
  rw[<-hH3,ao (by rw[<-hD];exact LH (Lt e))]
  exact(f2 b hb).1
 have hcells:∀{z:Str}{c:Addr},(cI scope.names X.env.cells []).lookup z=some c->X.env.cells.lookup z=some c:=fun h=>jN (fun _ _ q=>by cases q) h
 have hX:(aO X scope C (x::ys) s3 H3 fp).Ok:=by
  refine⟨I3.ok.mod,S.kind,I3.ok.glob,I3.ok.blt,OR hC,fun y z c h1 h2=>I3.ok.inj y z c (hcells h1) (hcells h2),fun y hy=>?_,fun y c h _=>absurd (show false=true from h) LQ,I3.ok.hd,I3.ok.frames,.inl rfl,fun b hb=>⟨LH (fp3 b hb).2,fun y c h=>(f2 b hb).2.2.2.2.1 y c (hcells h)⟩,fun b o e=>I3.bs b o e,Mi I3.ok.bsz I3.sz,fun b o e hb=>?_,fun b hb z=>?_,I3.stack,I3.stkFree⟩
  ·have hy:(relabel scope X.env).names.lookup y=some .cell\/(relabel scope X.env).names.lookup y=some .free:=hy
   have hm:(y,Ny)∈scope.names:=by
    rcases hy with q|q
    ·exact eX S.nocell q (.inl rfl)
    ·exact eX S.nocell q (.inr rfl)
   have hs:∃c,X.env.cells.lookup y=some c:=by
    by_cases hk:X.env.kindOf y=some .cell\/X.env.kindOf y=some .free
    ·exact I3.ok.has y hk
    ·exact absurd (ij hcap (S.all _ hm rfl)) hk
   exact Mg.mp (gk hm (Mg.mpr hs))
  ·rcases(f2 b hb).2.2.2.1 with z|z
   ·exact I3.ok.noex b o e z
   ·exact absurd (LN (Lt e) (Mi I3.ok.bsz z)) (Nc _)
  ·rcases LG.mp (I3.stkSub b z)with q|q
   ·exact(f2 b hb).2.1 q
   ·exact(f2 b hb).2.2.1 q
 have I4:Inv (aO X scope C (x::ys) s3 H3 fp) [] (none::aV σ is) H3 {s2 with heap:=h₁,toks:=s2.toks+([]:List (Str×tx)).length}:=by
  obtain⟨m3,hm3,hl3⟩:=id I3.loc
  refine⟨hX,?_,?_,Un.kept keep3,⟨_,hns₁,fun i y v e1 e2 e3=>?_⟩,fun y c e=>?_,?_,fun y c e=>I3.freeC y c (hcells e),fun p hp=>absurd (show p∈([]:List (Addr×Obj))from hp) (by simp),I3.hok.kept keep3,?_⟩
  ·show s2.os=s3.os
   rw[<-hs3]
  ·have:=I2.bare;exact this
  ·cases i with
   |zero=>simp at e2
   |succ j=>
    obtain⟨u,r,hfr,c,ec,ic⟩:=og hcap hl3 trivial j y v (by have e1':(x::ys)[j+1]? =some y:=e1;simpa using e1') (by simpa using e2)
    have hk:=jL (env:=X.env) hfr
    obtain⟨c',ec'⟩:=Mg.mp (gk (cs:=[]) (jd hfr) (by rw[ec];rfl) (cells:=X.env.cells))
    have:c'=c:=by have:=hcells ec';rw[ec]at this;exact(LR this).symm
    subst this
    obtain⟨o,ho,hd⟩:=ic
    exact⟨u,r,.inr ⟨hk,c',ec',o,keep3 _ _ ho,hd⟩⟩
  ·obtain⟨v,o,ho,hd⟩:=I3.cell y c (hcells e)
   exact⟨v,o,keep3 _ _ ho,hd⟩
  ·have:=I3.hok.fresh (a:=C) (OR hC)
   exact this
  ·have:=qZ hcap
   show(none::aV σ is).length=(x::ys).length
   simp[aV,this]
 have lenσ:∀v:Option V,(v::aV σ is).set 0=fun w=>w::aV σ is:=fun v=>rfl
 have hown:(relabel scope X.env).names.lookup x=some .local:=gl S.own
 have loop:codeAny (model X.prog X.w) X.A (.compLoop (.ListComp elt [⟨.Name x px,iter,ifs,0⟩] scope pos) 0 (.ref it) (.ref D) (compEnvC scope (cI scope.names X.env.cells []) C X.env)) (RR (.ref D) C)
   {s2 with heap:=h₁,toks:=s2.toks+([]:List (Str×tx)).length}:=by
  have fin:∀{H':Hp}{v:Option V}{s':If},Inv (aO X scope C (x::ys) s3 H3 fp) [] (v::aV σ is) H' s'->Q (.ref D) H'->RR (.ref D) C (.ok .next) s':=fun{H' v s'} J q=>by
   obtain⟨m',hm',_⟩:=J.loc
   have hCL:C≠X.env.locals:=Mh (by rw[<-hC];exact LH I3.lt)
   have back:∀h',Nd C s'.heap h'->Inv X pins σ H' {s' with heap:=h'}:=fun h' hs'=>by
    have os':s'.os=s3.os:=J.os
    refine I3.call' (s':={s' with heap:=h'}) (ch:=fp) os' ⟨fun b o e n hb hx=>?_,fun b o e n hb hx=>?_,fun b o e n hx=>J.base.free b o e n hx,fun b o e hx=>?_,J.base.tups,J.base.frzs,J.base.tbls⟩ (fun b o e=>?_) J.bare fun b hb=>?_
    ·exact hs'.extBut b o (by rw[<-hC];exact LH (Lt e)) (J.base.keep b o e n hb hx)
    ·obtain⟨sl,e1⟩:=J.base.slot b o e n hb hx
     exact⟨sl,hs'.extBut b _ (by rw[<-hC];exact LH (Lt e)) e1⟩
    ·obtain⟨o',e1⟩:=J.base.there b o e hx
     exact⟨o',hs'.extBut b _ (by rw[<-hC];exact LH (Lt e)) e1⟩
    ·refine(J.hok b o e).stay (fun c w' hc q=>(hs'.2 c ?_).trans q) (fun _ q=>q) fun _ _ q=>q
     have fC:H' C=none:=J.free
     rintro rfl
     rcases hc with rfl|hc
     ·rw[fC]at e;cases e
     ·rw[fC]at hc;cases hc
    ·obtain⟨_,a1,_,a2,a3,a4⟩:=f2 b hb
     exact⟨a2,a1,a3,a4⟩
   refine hRR D C H' s' ⟨by rw[<-hC];exact I3.sz,fun p hp=>by rw[<-hC];exact LH (Lt (I3.pin p hp).1)⟩ ⟨m',hm'⟩ hCL J.free ?_ back q
   have:=back s'.heap (.refl ..)
   exact this
  have stat:∀{H':Hp},(∀b∈fp,H' b=none)->∀b∈fp,iF (aO X scope C (x::ys) s3 H3 fp) [] H' b:=fun hn b hb=>by
   obtain⟨_,a1,a5,a2,a3,a4⟩:=f2 b hb
   refine⟨hn b hb,LH (fp3 b hb).2,fun z=>?_,.inl hb,fun y c e=>a3 y c (hcells e),fun p hp=>absurd (show p∈([]:List (Addr×Obj))from hp) (by simp)⟩
   rcases LG.mp (I3.stkSub b z)with q|q
   ·exact a1 q
   ·exact a5 q
  have turnAt:∀n s,(∃i v ys' H',Inv (aO X scope C (x::ys) s3 H3 fp) [] (v::aV σ is) H' s/\tn i s.heap/\(∀b∈fp,H' b=none)/\W i n ys' H')->
    wpAny (model X.prog X.w) X.A (pyNext (.ref it)) (fun r s₁=>match r with
     |none=>RR (.ref D) C (.ok .next) s₁
     |some u=>wpAny (model X.prog X.w) X.A (letOwnedTupleGo (.Name x px) (.ref it) u) (fun _ s₁=>wpAny (model X.prog X.w) X.A (assign (.Name x px) (compEnvC scope (cI scope.names X.env.cells []) C X.env) u) (fun _ s₂=>
      ∃(xx:V)(i:Nat)(ys':List V)(H3' H6:Hp)(pl:List (Addr×Obj)),Inv (aO X scope C (x::ys) s3 H3 fp) ([]++pl) (some xx::aV σ is) H6 s₂/\
       (∀s7 v7 H7,Inv (aO X scope C (x::ys) s3 H3 fp) ([]++pl) (v7::aV σ is) H7 s7->Inv (aO X scope C (x::ys) s3 H3 fp) [] (v7::aV σ is) H7 s7/\tn (i+1) s7.heap/\∀b∈fp,H7 b=none)/\
       (tc (some xx::aV σ is) H6 fun b H4=>if b=true then te (some xx::aV σ is) H4 fun y H5=>H5 D=some (.lst ys')/\ys'.length<sizeLine/\∃m',m'<n/\W (i+1) m' (ys'++[y]) (upd H5 D (.lst (ys'++[y])))
        else ∃m',m'<n/\W (i+1) m' ys' H4)) (fun _ _=>False) s₁) (fun _ _=>False) s₁) (fun _ _=>False) s:=by
   rintro n s ⟨i,v,ys',H',J,st,fr,w'⟩
   rcases turn i n ys' H' w' with⟨stop,qn⟩|⟨go,step⟩
   ·refine thn (T.done (aO X scope C (x::ys) s3 H3 fp) rfl rfl rfl hc i [] s _ H' (fun _ _=>False) J (stat fr) st stop) fun r s4 ⟨hr,J4⟩=>?_
    subst hr
    exact fin J4 qn
   ·refine thn (T.item (aO X scope C (x::ys) s3 H3 fp) rfl rfl rfl hc i [] s _ H' (fun _ _=>False) J (stat fr) st go) fun r s4 ⟨u,hr,h4⟩=>?_
    subst hr
    refine thn h4 fun _ s5 ⟨xx,H5,J5,r5,y5,st5,fr5⟩=>?_
    have J5':=J5.pinned (stat fr5) (T.obj _ _ st5)
    refine PN (fW (i:=0) J5' S.nd rfl (.inl hown) r5 (fun s6 J6=>?_) (.inr hown))
    refine⟨xx,i,ys',H5,H5,iY fp s5.heap,J6,fun s7 v7 H7 J7=>⟨J7.unpinned,T.keep _ _ _ st5 fun b hb o e=>(J7.pin (b,o) (Mp _ (Mp _ (eW hb e)))).1,fun b hb=>?_⟩,step xx H5 y5⟩
    obtain⟨o,e,d⟩:=T.obj _ _ st5 b hb
    exact(J7.pin (b,o) (Mp _ (Mp _ (eW hb e)))).2.1
  have start0:∃i v ys' H',Inv (aO X scope C (x::ys) s3 H3 fp) [] (v::aV σ is) H' {s2 with heap:=h₁,toks:=s2.toks+([]:List (Str×tx)).length}/\tn i h₁/\(∀b∈fp,H' b=none)/\W i m0 ys' H':=
   ⟨0,none,[],H3,I4,st4,fun b hb=>(fp3 b hb).1,w0⟩
  have emit:∀(n:Nat)(xx:V)(i:Nat)(ys':List V)(H4:Hp)(pl:List (Addr×Obj))(s₂:If),Inv (aO X scope C (x::ys) s3 H3 fp) ([]++pl) (some xx::aV σ is) H4 s₂->
    (∀s7 v7 H7,Inv (aO X scope C (x::ys) s3 H3 fp) ([]++pl) (v7::aV σ is) H7 s7->Inv (aO X scope C (x::ys) s3 H3 fp) [] (v7::aV σ is) H7 s7/\tn (i+1) s7.heap/\∀b∈fp,H7 b=none)->
    (te (some xx::aV σ is) H4 fun y H5=>H5 D=some (.lst ys')/\ys'.length<sizeLine/\∃m',m'<n/\W (i+1) m' (ys'++[y]) (upd H5 D (.lst (ys'++[y]))))->
    wpAny (model X.prog X.w) X.A (eval elt (compEnvC scope (cI scope.names X.env.cells []) C X.env)) (fun y s₃=>wpAny (model X.prog X.w) X.A (call (.builtin "list.append") [.ref D,y]) (fun _ s₄=>
     ∃m,m<n/\∃i v ys' H',Inv (aO X scope C (x::ys) s3 H3 fp) [] (v::aV σ is) H' s₄/\tn i s₄.heap/\(∀b∈fp,H' b=none)/\W i m ys' H') (fun _ _=>False) s₃) (fun _ _=>False) s₂:=by
   intro n xx i ys' H4 pl s₂ J2 back q
   refine thn (he C s3 H3 fp ([]++pl) s₂ _ H4 _ J2 q) fun y s₃ ⟨yv,H5,J3,r3,q1,q2,q3⟩=>?_
   refine thn (bH (X:=aO X scope C (x::ys) s3 H3 fp) ([]++pl) s₃ _ H5 (.ref D) [yv] (.ref D) [y] (fun v H7=>v=.non/\H7=upd H5 D (.lst (ys'++[yv]))) J3 rfl (.cons r3 .nil) ⟨D,ys',yv,rfl,rfl,q1,q2,rfl,rfl⟩) fun _ s₄ ⟨_,H7,J4,_,_,e7⟩=>?_
   subst e7
   obtain⟨m',hm',w'⟩:=q3
   obtain⟨b1,b2,b3⟩:=back s₄ _ _ J4
   exact⟨m',hm',i+1,some xx,ys'++[yv],_,b1,b2,b3,w'⟩
  have ex0:∀{α:Type}{t:Sem α}{Q':α->If->Prop}{E':tx->If->Prop}{s:If},wpAny (model X.prog X.w) X.A t Q' (fun _ _=>False) s->wpAny (model X.prog X.w) X.A t Q' E' s:=fun h=>Ma h (fun _ _ q=>q) fun _ _ q=>q.elim
  cases ifs with
  |nil=>
   have htc:tc=fun _ H Q=>Q true H:=hif C s3 H3 fp
   subst htc
   refine fK (fun n s=>∃i v ys' H',Inv (aO X scope C (x::ys) s3 H3 fp) [] (v::aV σ is) H' s/\tn i s.heap/\(∀b∈fp,H' b=none)/\W i n ys' H') (fun n s hI=>?_) m0 start0
   refine Ma (turnAt n s hI) (fun r s₁ h₁=>?_) fun _ _ q=>q.elim
   cases r with
   |none=>exact h₁
   |some u=>
    refine Ma h₁ (fun _ s₁ h₁=>Ma h₁ (fun _ s₂ h₂=>?_) fun _ _ q=>q.elim) fun _ _ q=>q.elim
    obtain⟨xx,i,ys',_,H6,pl,J2,back,q⟩:=h₂
    dsimp only at q
    rw[if_pos rfl]at q
    exact Ma (emit n xx i ys' H6 pl s₂ J2 back q) (fun y s₃ h₃=>ex0 h₃) fun _ _ q=>q.elim
  |cons c r0=>
   cases r0 with
   |cons _ _=>exact(hif C s3 H3 fp).elim
   |nil=>
    have hpt:PT (aO X scope C (x::ys) s3 H3 fp) c tc:=hif C s3 H3 fp
    refine fM (fun n s=>∃i v ys' H',Inv (aO X scope C (x::ys) s3 H3 fp) [] (v::aV σ is) H' s/\tn i s.heap/\(∀b∈fp,H' b=none)/\W i n ys' H') (fun n s hI=>?_) m0 start0
    refine Ma (turnAt n s hI) (fun r s₁ h₁=>?_) fun _ _ q=>q.elim
    cases r with
    |none=>exact h₁
    |some u=>
     refine Ma h₁ (fun _ s₁ h₁=>Ma h₁ (fun _ s₂ h₂=>?_) fun _ _ q=>q.elim) fun _ _ q=>q.elim
     obtain⟨xx,i,ys',_,H6,pl,J2,back,q⟩:=h₂
     refine Ma (hpt ([]++pl) s₂ _ H6 _ J2 q) (fun b s₃ h₃=>?_) fun _ _ q=>q.elim
     obtain⟨H4,J4,q4⟩:=h₃
     cases b with
     |true=>
      rw[if_pos rfl]at q4⊢
      exact Ma (emit n xx i ys' H4 pl s₃ J4 back q4) (fun y s₃ h₃=>ex0 h₃) fun _ _ q=>q.elim
     |false=>
      rw[if_neg LQ]at q4⊢
      obtain⟨m',hm',w'⟩:=q4
      obtain⟨b1,b2,b3⟩:=back s₃ _ _ J4
      exact⟨m',hm',i+1,some xx,ys',_,b1,b2,b3,w'⟩
 exact Ta loop (T.self X.A 0 _ _ _ st4 loop)
end
section
variable {X:Cx}
theorem sP {scope:Scope}{x:Str}{ys:List Str}{is:List Nat}(ok:X.Ok)(S:fx scope x ys)(hcap:fk X scope ys is):closureFor scope X.env=pure (cI scope.names X.env.cells []):=
 jT fun y hy hk=>by
  obtain⟨c,e⟩:=ok.has y.1 (ij hcap (S.all y hy hk))
  rw[e];rfl
theorem AW {elt iter:Expr}{ifs:List Expr}{x:Str}{px pos:Pos}{scope:Scope}{ys:List Str}{is:List Nat}{wi:TI}{tc:TT}{te:TE}
  (hc:X.calm=true)(S:fx scope x ys)(hcap:fk X scope ys is)(hi:PI X (.Name x px) iter wi)
  (hif:∀C s H fp,ng (aO X scope C (x::ys) s H fp) ifs tc)(he:∀C s H fp,PE (aO X scope C (x::ys) s H fp) elt te)
  (hs:∀x,foldedSetIterable iter X.env x=pure x:=by intro _;rfl):PE X (.ListComp elt [⟨.Name x px,iter,ifs,0⟩] scope pos) (fz is wi tc te):=by
 intro pins s σ H Q I h
 rw[eval_ListComp]
 refine PM (use:=none) rfl hs (sP I.ok S hcap) S.kind S.names (thn (hi pins s σ H _ I h) fun v s1 h1=>thn h1 fun itv s2 h2=>?_)
 obtain⟨it,fp,tn,J,H2,rfl,I2,T,st2,f2,hW⟩:=h2
 refine oJ (RR:=fun acc C=>compPost (model X.prog X.w) X.A X.xe none (EP X pins σ Q) acc C) hc S hcap hif he I2 T st2 f2 hW ?_
 intro D C H' s' hlt hns hne hfr I' back q
 obtain⟨m,hm⟩:=hns
 exact⟨m,hm,fun h' hs'=>⟨.ref D,H',back h' hs',rfl,q⟩⟩
theorem uw {elt iter:Expr}{ifs:List Expr}{x y:Str}{px py pos spos:Pos}{scope:Scope}{ys:List Str}{is:List Nat}{wi:TI}{tc:TT}{te:TE}{j:Nat}
  (hN:X.N.Nodup)(hj:X.N[j]?=some y)(hy:Loc X.env.scope y)
  (hc:X.calm=true)(S:fx scope x ys)(hcap:fk X scope ys is)(hi:PI X (.Name x px) iter wi)
  (hif:∀C s H fp,ng (aO X scope C (x::ys) s H fp) ifs tc)(he:∀C s H fp,PE (aO X scope C (x::ys) s H fp) elt te)
  (hsw:swapsWith (.ListComp elt [⟨.Name x px,iter,ifs,0⟩] scope pos) (some (.Name y py)) spos.line X.env=pure true:=by rfl)
  (hf:X.fn y=true\/X.env.scope.names.lookup y=some .local:=by first|exact .inl rfl|exact .inr rfl|assumption)
  (hs:∀x,foldedSetIterable iter X.env x=pure x:=by intro _;rfl):PS X (.Assign [.Name y py] (.ListComp elt [⟨.Name x px,iter,ifs,0⟩] scope pos) spos) (aD (fz is wi tc te) (aB j)):=by
 intro pins s σ H D I h
 rw[Tp _ _ _ _ hsw]
 refine ah (OK (ah ?_))
 show wpAny _ X.A (do let _<-comprehension (.ListComp elt [⟨.Name x px,iter,ifs,0⟩] scope pos) scope X.env _ (newList []) false (eval iter X.env) (some (assign (.Name y py) X.env))) _ _ s
 refine ah (Ma (PM (use:=some (assign (.Name y py) X.env)) (Q:=fun _ s'=>SP X pins D .next s') rfl hs (sP I.ok S hcap) S.kind S.names
  (thn (hi pins s σ H _ I h) fun v s1 h1=>thn h1 fun itv s2 h2=>?_)) (fun _ s' hq=>Lo (Lo hq)) fun _ _ e=>e)
 obtain⟨it,fp,tn,J,H2,rfl,I2,T,st2,f2,hW⟩:=h2
 refine oJ (Q:=fun x H1=>aB j x σ H1 D.nx) (RR:=fun acc C=>compPost (model X.prog X.w) X.A X.xe (some (assign (.Name y py) X.env)) (fun _ s'=>SP X pins D .next s') acc C) hc S hcap hif he I2 T st2 f2 hW ?_
 intro Da C H' s' hlt hns hne hfr I' back q
 show wpAny _ X.A (assign (.Name y py) X.env (.ref Da)) _ _ _
 obtain⟨m,hm⟩:=hns
 refine PN (jO I' hN hj hy (v:=.ref Da) rfl (fun s2 I2' ⟨a,hsb,ha⟩=>?_) hf)
 have hCa:C≠a:=by
  rcases ha with e|e
  ·rw[e];exact hne
  ·rintro rfl
   obtain⟨v,o,ho,hd⟩:=I'.cell y C e
   obtain⟨o2,es,ep,ho2,hd2,_⟩:=hm
   rw[ho]at ho2;cases ho2;rw[hd]at hd2;cases hd2
 refine⟨m,hm.sameBut hsb hCa,fun h' hs'=>?_⟩
 have hCn:∀y c,X.env.cells.lookup y=some c->c≠C:=fun z c e q=>by
  subst q
  obtain⟨v,o,ho,hd⟩:=I'.cell z c e
  obtain⟨o2,es,ep,ho2,hd2,_⟩:=hm
  rw[ho]at ho2;cases ho2;rw[hd]at hd2;cases hd2
 have I3:Inv X pins (σ.set j (some (.ref Da))) H' {s2 with heap:=h'}:=by
  refine I2'.step (g':=s2.gens) (d':=s2.drawn) (t':=s2.toks) (ch:=[C]) (fun b hb=>?_) (fun b o _ _ hb e _=>(hs'.2 b (fun z=>hb (by simp[z]))).trans e) (fun b o _ _ hb e _=>⟨o.slots,(hs'.2 b (fun z=>hb (by simp[z]))).trans e⟩) (fun _ _ _ _ n=>n) (fun b o hb e=>⟨o,(hs'.2 b (fun z=>hb (by simp[z]))).trans e⟩)
   (fun _ _ e=>e) (fun _ _ _ e=>e) (fun b ps e=>⟨#[],by rw[e];simp⟩) (fun m' hm'=>hm'.sameBut hs' (Mh hne)) (fun b o e=>?_) I2'.bare
  ·have e:b=C:=by simpa using hb
   subst e
   exact⟨.inr hlt.1,hne,fun z c e=>hCn z c e,hlt.2⟩
  ·refine(I2'.hok b o e).stay (fun c w' hc q=>(hs'.2 c ?_).trans q) (fun _ q=>q) fun _ _ q=>q
   rintro rfl
   rcases hc with rfl|hc
   ·rw[hfr]at e;cases e
   ·rw[hfr]at hc;cases hc
 exact⟨_,H',I3,q⟩
end
def tyN (H:Hp):V->Option String
 |.non=>some "NoneType"
 |.bl _=>some "bool"
 |.int _=>some "int"
 |.str _=>some "str"
 |.ref a=>match H a with
  |some (.lst _)=>some "list"
  |some (.frz _ (.lst _))=>some "list"
  |some (.tup _)=>some "tuple"
  |some (.dK _)=>some "dict"
  |some (.dT _)=>some "dict"
  |_=>none
 |_=>none
theorem EJ {K:pv}{H:Hp}{x:V}{t:String}(h:tyN H x=some t):fS K H x (.type t):=by
 cases x with
 |non=>cases h;exact .non
 |bl b=>cases h;exact .bl b
 |int i=>cases h;exact .int i
 |str x=>cases h;exact .str x
 |byt _=>cases h
 |flt _=>cases h
 |ty _=>cases h
 |ref a=>
  unfold tyN at h
  dsimp only at h
  split at h
  ·rename_i e;cases h;exact .lst e
  ·rename_i e;cases h;exact .frz e
  ·rename_i e;cases h;exact .tup e
  ·rename_i e;cases h;exact .dK e
  ·rename_i e;cases h;exact .dT e
  ·cases h
def tyL:List String:=["NoneType","bool","int","str","list","tuple","dict"]
theorem Dm {H:Hp}{x:V}{t:String}(h:tyN H x=some t):t∈tyL:=by
 cases x with
 |non=>cases h;decide
 |bl b=>cases h;decide
 |int i=>cases h;decide
 |str x=>cases h;decide
 |byt _=>cases h
 |flt _=>cases h
 |ty _=>cases h
 |ref a=>
  unfold tyN at h
  dsimp only at h
  split at h<;>first|(cases h;decide)|cases h
def isI (t T:String):Bool:=t==T||(T=="int"&&t=="bool")
theorem Dt (K:pv):∀t∈tyL,∀T∈["int","bool","str","tuple","list","dict"],NI K (.type t) (.type T)=some (isI t T):=by
 intro t ht T hT
 simp only[tyL,LG,MF,or_false]at ht hT
 rcases ht with rfl|rfl|rfl|rfl|rfl|rfl|rfl<;>rcases hT with rfl|rfl|rfl|rfl|rfl|rfl<;>(unfold NI;first|rfl|decide+kernel|(simp only[W.kitCls];rfl))
section
variable {X:Cx}
theorem yt:bZ X (.builtin "isinstance") (fun xs H Q=>∃x T t,xs=[x,.ty T]/\T∈["int","bool","str","tuple","list","dict"]/\tyN H x=some t/\Q (.bl (isI t T)) H):=by
 intro pins s σ H xs us Q I r h
 obtain⟨x,T,t,rfl,hT,ht,q⟩:=h
 obtain⟨u,w',rfl,r1,r2⟩:=mM r
 cases r2
 exact vm I r1 (EJ ht) (Dt X.K t (Dm ht) T hT) fun tk=>⟨.bl _,H,I.tok tk,rfl,q⟩
end
section
variable {X:Cx}
theorem sT:∀{bs:List Bool}{us:List tx},aY (bs.map V.bl) us->us=bs.map Nq
 |[],_,.nil=>rfl
 |b::bs,_,.cons r t=>by
  have e:_=Nq b:=r
  rw[sT t,Md,e]
theorem vK (bs:List Bool):(Qd bs.length).all (fun i=>bs.getD i false)=bs.all id:=by
 rw[Pe,Nl,Nl]
 constructor
 ·intro h b hb
  obtain⟨i,hi,e⟩:=SC.mp hb
  have:=h i (Ql.mpr hi)
  simp only[LJ,Gt hi,SS]at this
  rw[<-e];exact this
 ·intro h i hi
  have hi:=Ql.mp hi
  simp only[LJ,Gt hi,SS]
  exact h _ (Nk hi)
theorem rK {prog:LV}{w:Mx}{A:Mq}{bs:List Bool}:TruthOf prog w A (fun i v=>(bs.map Nq).toArray[i]? =some v) (fun i=>bs.getD i false):=by
 intro i v s Q E hP hQ
 have hP:(bs.map Nq)[i]? =some v:=by simpa using hP
 rw[LO]at hP
 cases e:bs[i]? with
 |none=>rw[e]at hP;cases hP
 |some b=>
  rw[e]at hP
  cases hP
  have hQ':Q b s:=by
   have e2:bs.getD i false=b:=by rw[LJ,e];rfl
   have hQ2:Q (bs.getD i false) s:=hQ
   rw[e2]at hQ2;exact hQ2
  exact OT (a:=b) rfl hQ'
theorem yn (hc:X.calm=true):bZ X (.builtin "all") (fun xs H Q=>∃(a:Addr)(bs:List Bool),xs=[.ref a]/\H a=some (.lst (bs.map V.bl))/\Q (.bl (bs.all id)) H):=by
 intro pins s σ H xs us Q I r h
 obtain⟨a,bs,rfl,hH,q⟩:=h
 obtain⟨u,rfl,ru⟩:=iq r
 cases ru
 obtain⟨z,its,n,rv,e⟩:=I.hok a _ hH
 have ei:=sT rv
 subst ei
 have hl:s.heap.IsList a (bs.map Nq).toArray:=⟨_,e,rfl,_,rfl⟩
 refine call_all_walk (Rr hl ?_)
 have hne:a≠s.heap.objs.size:=LH (Lt e)
 refine⟨s.heap.objs.size,_,_,_,_,_,_,rfl,Walks.list (by show X.A.handled=none;exact I.ok.hd hc) _ a hne (bs.map Nq).toArray,⟨⟨_,Ly _ rfl,rfl,rfl⟩,⟨_,cW _ e,rfl,_,rfl⟩⟩,rK,fun h' tk hk=>?_⟩
 have e2:((bs.map Nq).toArray).size=bs.length:=by simp
 rw[e2,vK]
 refine⟨.bl _,H,I.kept (t':=tk) fun b o hb=>hk b o ?_ (cW _ hb),rfl,q⟩
 intro z
 have:b=s.heap.objs.size:=by simpa using z
 rw[this]at hb
 exact absurd (Lt hb) (Nc _)
theorem sS:∀{xs:List Str}{us:List tx},aY (xs.map V.str) us->StrsAre us xs
 |[],_,.nil=>.nil
 |x::xs,_,.cons r t=>by
  obtain⟨tk,e⟩:=(show ∃t,_=OM x t from r)
  rw[e]
  exact .cons _ _ (sS t)
def zw:V->List V->Hp->VK->Prop:=fun x vs H Q=>∃(z:Str)(a:Addr)(xs:List Str),x=.str z/\vs=[.ref a]/\H a=some (.lst (xs.map V.str))/\(xs.map (·.length)).sum+xs.length*z.length<=16777216/\Q (.str (Txt.join z xs)) H
theorem Ao:MtM X "str.join" zw:=by
 intro pins s σ H x vs v us Q I rx rv h
 obtain⟨z,a,xs,rfl,rfl,hH,hz,q⟩:=h
 obtain⟨t,rfl⟩:=(show ∃t,v=OM z t from rx)
 obtain⟨u,rfl,ru⟩:=rv.one
 cases ru
 obtain⟨_,its,n,rv,e⟩:=I.hok a _ hH
 refine join_list (items:=its.toArray) ⟨_,e,rfl,_,rfl⟩ (by simpa using sS rv) hz fun t' k=>⟨.str _,H,I.tok k,⟨_,rfl⟩,q⟩
end
@[irreducible] def Sel (b:Bool)(A B:Prop):Prop:=if b=true then A else B
theorem Sel.mk {b:Bool}{A B:Prop}(h1:b=true->A)(h2:b=false->B):Sel b A B:=by
 unfold Sel
 cases b with
 |true=>exact h1 rfl
 |false=>exact h2 rfl
theorem Sel.t {A B:Prop}(h:A):Sel true A B:=.mk (fun _=>h) fun e=>by cases e
theorem Sel.f {A B:Prop}(h:B):Sel false A B:=.mk (fun e=>by cases e) fun _=>h
theorem Sel.dec {p A B:Prop}[Decidable p](h1:p->A)(h2:¬p->B):Sel (decide p) A B:=.mk (fun e=>h1 (of_decide_eq_true e)) fun e=>h2 (of_decide_eq_false e)
theorem Sel.ndec {p A B:Prop}[Decidable p](h1:¬p->A)(h2:p->B):Sel (!decide p) A B:=.mk (fun e=>h1 (by simpa using e)) fun e=>h2 (by simpa using e)
theorem Sel.yes {b:Bool}{A B:Prop}(e:b=true)(h:A):Sel b A B:=by rw[e];exact .t h
theorem Sel.no {b:Bool}{A B:Prop}(e:b=false)(h:B):Sel b A B:=by rw[e];exact .f h
theorem eA {b:Bool}{A B:Prop}(h:Sel b A B):if b=true then A else B:=by unfold Sel at h;exact h
def aa (i:Nat):TE:=fun σ H Q=>match σ[i]? with|some (some v)=>Q v H|_=>False
section
variable {X:Cx}
theorem PE.imp {e:Expr}{t t':TE}(h:PE X e t)(i:∀σ H Q,t' σ H Q->t σ H Q):PE X e t':=fun pins s σ H Q I q=>h pins s σ H Q I (i _ _ _ q)
theorem OpR.imp {f:tx->tx->Sem tx}{r r':R2}(h:OpR X f r)(i:∀x y H Q,r' x y H Q->r x y H Q):OpR X f r':=fun pins s σ H x y v u Q I rx ry q=>h pins s σ H x y v u Q I rx ry (i _ _ _ _ q)
theorem qv (i:Nat){x:Str}{pos:Pos}(hN:X.N[i]?=some x:=by rfl)(hv:Vis X.env.scope x:=by first|exact Or.inl rfl|exact TJ (Or.inl rfl)|exact TJ (TJ rfl))(hd:(x==("__debug__":Str))=false:=by decide)
  (hcd:(x==("__classdict__":Str))=false:=by decide):PE X (.Name x pos) (aa i):=(Cc hN hv hd hcd).imp fun σ H Q q=>by
 unfold aa at q
 split at q
 ·rename_i v e;exact⟨v,e,q⟩
 ·exact q.elim
theorem qgi {x:Str}{i:Int}{pos:Pos}(hm:∃t,X.mg x=some (.int i t))(hg:Gl X x:=by rfl)(hd:(x==("__debug__":Str))=false:=by decide):PE X (.Name x pos) (tC (.int i)):=by
 obtain⟨t,e⟩:=hm
 exact Am hg e ⟨t,rfl⟩ hd
def dv:R2:=fun x y H Q=>match x,y with|.int i,.int j=>Q (.int (i- j)) H|_,_=>False
theorem fo:OpR X (binaryOp .Sub) dv:=Fo.imp fun x y H Q q=>by
 unfold dv at q
 split at q
 ·exact⟨_,_,rfl,rfl,q⟩
 ·exact q.elim
theorem Bo:OpR X (binaryOp .Mult) (rI Uw fun i j=>.int (i*j)):=opI fun _ _ _ _ _ _ _ hc q=>mul_int q hc
def zl:R2:=fun x y H Q=>match x,y with
 |.int i,.int j=>Uw i j/\Q (.int (i*j)) H
 |_,_=>False
theorem Kv:OpR X (binaryOp .Mult) zl:=Bo.imp fun x y H Q q=>by
 unfold zl at q
 split at q
 ·exact⟨_,_,rfl,rfl,q.1,q.2⟩
 ·exact q.elim
def bF:R2:=fun x y H Q=>match x,y with|.int i,.int j=>0<j/\Q (.int (i%j)) H|_,_=>False
theorem dq:OpR X (binaryOp .Mod) bF:=BN.imp fun x y H Q q=>by
 unfold bF at q
 split at q
 ·exact⟨_,_,rfl,rfl,q.1,q.2⟩
 ·exact q.elim
def lF:R2:=fun x y H Q=>match x,y with|.int i,.int j=>(0<=j/\j<=1000000/\i.natAbs<2^64)/\Q (.int (i^j.toNat)) H|_,_=>False
theorem Fq:OpR X (binaryOp .Pow) lF:=Dh.imp fun x y H Q q=>by
 unfold lF at q
 split at q
 ·exact⟨_,_,rfl,rfl,q.1,q.2⟩
 ·exact q.elim
def tE:R2:=fun x y H Q=>match x,y with|.int i,.int j=>(0<=j/\j<=1000000/\i.natAbs<2^64)/\Q (.int (i*2^j.toNat)) H|_,_=>False
theorem CH:OpR X (binaryOp .LShift) tE:=EW.imp fun x y H Q q=>by
 unfold tE at q
 split at q
 ·exact⟨_,_,rfl,rfl,q.1,q.2⟩
 ·exact q.elim
def mLt:R2:=fun x y H Q=>match x,y with|.int i,.int j=>Q (.bl (decide (i<j))) H|_,_=>False
theorem oLt:OpR X (compareOp .Lt) mLt:=Ij.imp fun x y H Q q=>by
 unfold mLt at q
 split at q
 ·exact⟨_,_,rfl,rfl,q⟩
 ·exact q.elim
def mLe:R2:=fun x y H Q=>match x,y with|.int i,.int j=>Q (.bl (decide (i<=j))) H|_,_=>False
theorem oLe:OpR X (compareOp .LtE) mLe:=Ji.imp fun x y H Q q=>by
 unfold mLe at q
 split at q
 ·exact⟨_,_,rfl,rfl,q⟩
 ·exact q.elim
def mGt:R2:=fun x y H Q=>match x,y with|.int i,.int j=>Q (.bl (decide (j<i))) H|_,_=>False
theorem oGt:OpR X (compareOp .Gt) mGt:=FH.imp fun x y H Q q=>by
 unfold mGt at q
 split at q
 ·exact⟨_,_,rfl,rfl,q⟩
 ·exact q.elim
def mEq:R2:=fun x y H Q=>match x,y with
 |.int i,.int j=>Q (.bl (decide (i=j))) H
 |.str i,.str j=>Q (.bl (decide (i=j))) H
 |.bl i,.bl j=>Q (.bl (decide (i=j))) H
 |.non,.non=>Q (.bl true) H
 |.non,.int _=>Q (.bl false) H|.int _,.non=>Q (.bl false) H|.non,.bl _=>Q (.bl false) H|.bl _,.non=>Q (.bl false) H|.non,.str _=>Q (.bl false) H|.str _,.non=>Q (.bl false) H
 |.int _,.str _=>Q (.bl false) H|.str _,.int _=>Q (.bl false) H|.bl _,.str _=>Q (.bl false) H|.str _,.bl _=>Q (.bl false) H
 |_,_=>False
theorem kh {α:Type}[DecidableEq α]{f:α->V}(hf:∀a b,f a=f b->a=b)(a b:α):decide (f a=f b)=decide (a=b):=by
 by_cases h:a=b
 ·subst h;simp
 ·rw[decide_eq_false h,decide_eq_false fun e=>h (hf a b e)]
theorem oEq:OpR X (compareOp .Eq) mEq:=HP.imp fun x y H Q q=>by
 unfold mEq at q
 split at q
 ·exact⟨rfl,by rw[kh (f:=V.int) fun _ _ e=>V.int.inj e];exact q⟩
 ·exact⟨rfl,by rw[kh (f:=V.str) fun _ _ e=>V.str.inj e];exact q⟩
 ·exact⟨rfl,by rw[kh (f:=V.bl) fun _ _ e=>V.bl.inj e];exact q⟩
 ·exact⟨rfl,by simpa using q⟩
 all_goals first|exact q.elim|exact⟨rfl,q⟩
def mNe:R2:=fun x y H Q=>match x,y with
 |.int i,.int j=>Q (.bl (!decide (i=j))) H
 |.str i,.str j=>Q (.bl (!decide (i=j))) H
 |.bl i,.bl j=>Q (.bl (!decide (i=j))) H
 |.non,.non=>Q (.bl false) H
 |.non,.int _=>Q (.bl true) H|.int _,.non=>Q (.bl true) H|.non,.bl _=>Q (.bl true) H|.bl _,.non=>Q (.bl true) H|.non,.str _=>Q (.bl true) H|.str _,.non=>Q (.bl true) H
 |.int _,.str _=>Q (.bl true) H|.str _,.int _=>Q (.bl true) H|.bl _,.str _=>Q (.bl true) H|.str _,.bl _=>Q (.bl true) H
 |_,_=>False
theorem oNe:OpR X (compareOp .NotEq) mNe:=FE.imp fun x y H Q q=>by
 unfold mNe at q
 split at q
 ·exact⟨rfl,by rw[kh (f:=V.int) fun _ _ e=>V.int.inj e];exact q⟩
 ·exact⟨rfl,by rw[kh (f:=V.str) fun _ _ e=>V.str.inj e];exact q⟩
 ·exact⟨rfl,by rw[kh (f:=V.bl) fun _ _ e=>V.bl.inj e];exact q⟩
 ·exact⟨rfl,by simpa using q⟩
 all_goals first|exact q.elim|exact⟨rfl,q⟩
def yu:R2:=fun x y H Q=>match y with|.non=>Q (.bl (match x with|.non=>true|_=>false)) H|_=>False
theorem oIs:OpR X (compareOp .Is) yu:=EI.imp fun x y H Q q=>by
 unfold yu at q
 split at q
 ·refine⟨rfl,?_⟩
  cases x<;>simpa using q
 ·exact q.elim
def aJ (t:TE):TT:=fun σ H Q=>t σ H fun x H'=>match x with|.bl k=>Q k H'|_=>False
theorem qtc {op:TD}{r:R2}{a b:Expr}{ta tb:TE}{pos:Pos}(ho:OpR X (compareOp op) r)(ha:PE X a ta)(hb:PE X b tb)(hm:behindInMarks op b=false:=by first|exact lS _|rfl):PT X (.Compare a [op] [b] pos) (aJ (tOp r ta tb)):=by
 intro pins s σ H Q I h
 refine wpAny_isTrue_Compare1 (thn (ha pins s σ H _ I h) fun v s1 ⟨x,H1,I1,r1,q1⟩=>thn (hb pins s1 σ H1 _ I1 q1) fun u s2 ⟨y,H2,I2,r2,q2⟩=>
  thn (ho pins s2 σ H2 x y v u _ I2 r1 r2 q2) fun c s3 ⟨z,H3,I3,r3,q3⟩=>?_) hm
 cases z<;>first|exact q3.elim|(cases r3;exact NT ⟨H3,I3,q3⟩)
theorem qc {op:TD}{r:R2}{a b:Expr}{ta tb:TE}{pos:Pos}(ho:OpR X (compareOp op) r)(ha:PE X a ta)(hb:PE X b tb)(hm:behindInMarks op b=false:=by first|exact lS _|rfl):PE X (.Compare a [op] [b] pos) (tOp r ta tb):=Au ho ha hb hm
def eT (r r':R2)(ta tb tc:TE):TE:=fun σ H Q=>ta σ H fun x H1=>tb σ H1 fun y H2=>r x y H2 fun z H3=>match z with
 |.bl k=>Sel k (tc σ H3 fun w' H4=>r' y w' H4 Q) (Q (.bl false) H3)
 |_=>False
theorem qch {op op':TD}{r r':R2}{a b c:Expr}{ta tb tc:TE}{pos:Pos}(ho:OpR X (compareOp op) r)(ho':OpR X (compareOp op') r')(ha:PE X a ta)(hb:PE X b tb)(hc:PE X c tc)
  (hm:lastMarks [op,op'] [b,c]=false:=by with_unfolding_all rfl):PE X (.Compare a [op,op'] [b,c] pos) (eT r r' ta tb tc):=by
 intro pins s σ H Q I h
 refine Compare_chain (thn (ha pins s σ H _ I h) fun v s1 ⟨x,H1,I1,r1,q1⟩=>chain_link (thn (hb pins s1 σ H1 _ I1 q1) fun u s2 ⟨y,H2,I2,r2,q2⟩=>
  thn (ho pins s2 σ H2 x y v u _ I2 r1 r2 q2) fun d s3 ⟨z,H3,I3,r3,q3⟩=>?_)) hm
 cases z<;>first|exact q3.elim|skip
 rename_i k
 cases r3
 refine NT ?_
 have q3:=eA q3
 cases k with
 |false=>exact ite_ff ⟨.bl false,H3,I3,rfl,q3⟩
 |true=>exact ite_tt (chain_last (thn (hc pins s3 σ H3 _ I3 q3) fun w' s4 ⟨z',H4,I4,r4,q4⟩=>ho' pins s4 σ H4 y z' u w' Q I4 r2 r4 q4))
theorem KM {op op':TD}{r r':R2}{a b c:Expr}{ta tb tc:TE}{pos:Pos}(ho:OpR X (compareOp op) r)(ho':OpR X (compareOp op') r')(ha:PE X a ta)(hb:PE X b tb)(hc:PE X c tc)
  (hm:lastMarks [op,op'] [b,c]=false:=by with_unfolding_all rfl):PT X (.Compare a [op,op'] [b,c] pos) (aJ (eT r r' ta tb tc)):=by
 intro pins s σ H Q I h
 refine isTrue_chain (thn (ha pins s σ H _ I h) fun v s1 ⟨x,H1,I1,r1,q1⟩=>test_link (thn (hb pins s1 σ H1 _ I1 q1) fun u s2 ⟨y,H2,I2,r2,q2⟩=>
  thn (ho pins s2 σ H2 x y v u _ I2 r1 r2 q2) fun d s3 ⟨z,H3,I3,r3,q3⟩=>?_)) hm
 cases z<;>first|exact q3.elim|skip
 rename_i k
 cases r3
 refine NT ?_
 have q3:=eA q3
 cases k with
 |false=>exact ite_ff ⟨H3,I3,q3⟩
 |true=>
  refine ite_tt (test_last (thn (hc pins s3 σ H3 _ I3 q3) fun w' s4 ⟨z',H4,I4,r4,q4⟩=>thn (ho' pins s4 σ H4 y z' u w' _ I4 r2 r4 q4) fun d' s5 ⟨z2,H5,I5,r5,q5⟩=>?_))
  cases z2<;>first|exact q5.elim|(cases r5;exact NT ⟨H5,I5,q5⟩)
def cX (K:pv)(t:TE):TT:=fun σ H Q=>t σ H fun x H'=>match x with
 |.bl k=>Q k H'
 |.non=>Q false H'
 |.int i=>Q (i !=0) H'
 |x=>∃k,CJ K x H' k/\Q k H'
theorem qtb {e:Expr}{t:TE}(h:PE X e t)(he:∀whole,isTrue e X.env whole=(do let v<-whole;standAt e.pos;holding [v] (truthy v)):=by intro _;rfl):PT X e (cX X.K t):=by
 intro pins s σ H Q I q
 refine isTrue_plain (thn (h pins s σ H _ I q) fun v s1 ⟨x,H1,I1,r1,q1⟩=>Em pins s1 σ H1 x v Q I1 r1 ?_) (he _)
 cases x<;>first|exact⟨_,rfl,q1⟩|exact q1
def jU (t u:TT):TT:=fun σ H Q=>t σ H fun c H1=>Sel c (u σ H1 Q) (Q false H1)
def mOr (t u:TT):TT:=fun σ H Q=>t σ H fun c H1=>Sel c (Q true H1) (u σ H1 Q)
variable {a b c:Expr}{ta tb:TE}{tA tB':TT}{bV:List Expr}{pos:Pos}
theorem Bj (ha:PT X a tA):PW X (.BoolOp .And [a] pos) tA:=Al ha
theorem Fi (ha:PT X a tA):PW X (.BoolOp .Or [a] pos) tA:=Fu ha
theorem Ds (ha:PT X a tA)(hb:PW X (.BoolOp .And (b::bV) pos) tB'):PW X (.BoolOp .And (a::b::bV) pos) (jU tA tB'):=by
 intro wh pins s σ H Q I h
 refine isTrue_and (thn (ha pins s σ H _ I h) fun c s1 ⟨H1,I1,q1⟩=>?_)
 have q1:=eA q1
 cases c with
 |true=>exact hb wh pins s1 σ H1 Q I1 q1
 |false=>exact⟨H1,I1,q1⟩
theorem GI (ha:PT X a tA)(hb:PW X (.BoolOp .Or (b::bV) pos) tB'):PW X (.BoolOp .Or (a::b::bV) pos) (mOr tA tB'):=by
 intro wh pins s σ H Q I h
 refine isTrue_or (thn (ha pins s σ H _ I h) fun c s1 ⟨H1,I1,q1⟩=>?_)
 have q1:=eA q1
 cases c with
 |true=>exact⟨H1,I1,q1⟩
 |false=>exact hb wh pins s1 σ H1 Q I1 q1
def de (ta tb:TE):TE:=fun σ H Q=>ta σ H fun x H1=>match x with|.bl c=>Sel c (tb σ H1 Q) (Q (.bl false) H1)|_=>False
def uB (ta:TE):TE:=fun σ H Q=>ta σ H fun x H1=>match x with|.bl c=>Q (.bl (!c)) H1|_=>False
theorem Kc (ha:PE X a ta)(hb:PE X (.BoolOp .And (b::bV) pos) tb):PE X (.BoolOp .And (a::b::bV) pos) (de ta tb):=by
 intro pins s σ H Q I h
 refine BoolOp_and (thn (ha pins s σ H _ I h) fun v s1 ⟨x,H1,I1,r1,q1⟩=>?_)
 cases x<;>first|exact q1.elim|skip
 rename_i c
 cases r1
 refine NT ?_
 have q1:=eA q1
 cases c with
 |true=>exact hb pins s1 σ H1 Q I1 q1
 |false=>exact⟨.bl false,H1,I1,rfl,q1⟩
theorem Ga (ha:PE X a ta):PE X (.UnaryOp .Not a pos) (uB ta):=by
 intro pins s σ H Q I h
 refine UnaryOp_ (thn (ha pins s σ H _ I h) fun v s1 ⟨x,H1,I1,r1,q1⟩=>?_)
 cases x<;>first|exact q1.elim|skip
 rename_i c
 cases r1
 exact not_of (NT ⟨.bl (!c),H1,I1,rfl,q1⟩)
def mIf (t:TT)(ta tb:TE):TE:=fun σ H Q=>t σ H fun c H1=>Sel c (ta σ H1 Q) (tb σ H1 Q)
theorem JX {c:Expr}(hc:PT X c tA)(ha:PE X a ta)(hb:PE X b tb):PE X (.IfExp c a b pos) (mIf tA ta tb):=by
 intro pins s σ H Q I h
 refine wpAny_IfExp (thn (hc pins s σ H _ I h) fun d s1 ⟨H1,I1,q1⟩=>?_)
 have q1:=eA q1
 cases d with
 |true=>exact ha pins s1 σ H1 Q I1 q1
 |false=>exact hb pins s1 σ H1 Q I1 q1
def aP (c:TT)(t u:TS):TS:=fun D σ H=>c σ H fun b H1=>Sel b (t D σ H1) (u D σ H1)
theorem qif {c:Expr}{l m:List Stmt}{tc:TT}{t u:TS}(hc:PT X c tc)(ha:PSs X l t)(hb:PSs X m u):PS X (.If c l m pos) (aP tc t u):=by
 intro pins s σ H D I h
 refine wpAny_If (thn (hc pins s σ H _ I h) fun d s1 ⟨H1,I1,q1⟩=>?_)
 have q1:=eA q1
 cases d with
 |true=>exact ha pins s1 σ H1 D I1 q1
 |false=>exact hb pins s1 σ H1 D I1 q1
theorem JL:bZ X (.builtin "len") (fun xs H Q=>match xs with
  |[.str y]=>y.length<=sizeLine/\Q (.int y.length) H
  |[.ref p]=>(∃xs,SqL X.K H p xs/\Q (.int xs.length) H)\/(∃xs,SqT X.K H p xs/\Q (.int xs.length) H)\/∃kvs,H p=some (.dK kvs)/\Q (.int kvs.length) H
  |_=>False):=by
 intro pins s σ H xs us Q I r h
 split at h
 ·rename_i y
  exact lD pins s σ H _ us Q I r ⟨_,_,rfl,⟨h.1,rfl⟩,h.2⟩
 ·rename_i p
  rcases h with⟨ys,h1,h2⟩|⟨ys,h1,h2⟩|⟨kvs,h1,h2⟩
  ·exact lD pins s σ H _ us Q I r ⟨_,_,rfl,.inl ⟨ys,h1,rfl⟩,h2⟩
  ·exact lD pins s σ H _ us Q I r ⟨_,_,rfl,.inr ⟨ys,h1,rfl⟩,h2⟩
  ·exact wz pins s σ H _ us Q I r ⟨p,kvs,rfl,h1,h2⟩
 ·exact h.elim
end
section
variable {X:Cx}{tg:Expr}
def dW:V->Hp->VK->Prop:=fun x H Q=>match x with|.int i=>Q (.int (-i)) H|_=>False
theorem Jo:UnR X (unaryOp .USub) dW:=fun pins s σ H x v Q I rx q=>Dj pins s σ H x v Q I rx (by
 unfold dW at q
 split at q
 ·exact⟨_,rfl,q⟩
 ·exact q.elim)
def DV (K:pv):List V->Hp->VK->Prop:=fun xs H Q=>match xs with
 |[.str y]=>y.length<=sizeLine/\Q (.int y.length) H
 |[.ref p]=>(∃xs,SqL K H p xs/\Q (.int xs.length) H)\/(∃xs,SqT K H p xs/\Q (.int xs.length) H)\/∃kvs,H p=some (.dK kvs)/\Q (.int kvs.length) H
 |_=>False
theorem KN:bZ X (.builtin "len") (DV X.K):=JL
def gO:List V->Hp->VK->Prop:=fun xs H Q=>match xs with
 |[x,.ty T]=>T∈["int","bool","str","tuple","list","dict"]/\∃t,tyN H x=some t/\Q (.bl (isI t T)) H
 |_=>False
theorem jx:bZ X (.builtin "isinstance") gO:=fun pins s σ H xs us Q I r h=>by
 unfold gO at h
 split at h
 ·obtain⟨h1,t,h2,h3⟩:=h
  exact yt pins s σ H _ us Q I r ⟨_,_,t,rfl,h1,h2,h3⟩
 ·exact h.elim
def wQ:List V->Hp->VK->Prop:=fun xs H Q=>∃(a:Addr)(bs:List Bool),xs=[.ref a]/\H a=some (.lst (bs.map V.bl))/\Q (.bl (bs.all id)) H
theorem DC (hc:X.calm=true):bZ X (.builtin "all") wQ:=yn hc
def zF (K:pv):List V->Hp->VK->Prop:=fun xs H Q=>∃p ys,xs=[.ref p]/\(SqL K H p ys\/SqT K H p ys)/\∀l,H l=none->Q (.ref l) (upd H l (.lst ys))
theorem Jk:bZ X (.type "list") (zF X.K):=qe
def vF (K:pv):List V->Hp->VK->Prop:=fun xs H Q=>∃p ys,xs=[.ref p]/\((SqL K H p ys/\∀l,H l=none->Q (.ref l) (upd H l (.tup ys)))\/(SqT K H p ys/\Q (.ref p) H))
theorem Cz:bZ X (.type "tuple") (vF X.K):=oO
end
theorem wC:bootBuiltins "all"=some (.builtin "all"):=by decide+kernel
structure da (J:It)(n:Nat)(it:Nat->V)(Pv:Hp->Prop):Prop where
 go:∀i H,i<n->Pv H->J.go i H
 yld:∀i H x H',i<n->Pv H->J.yld i H x H'->H'=H/\x=it i
 stop:∀H,Pv H->J.stop n H
theorem da.list {K:pv}{a:Addr}{xs:List V}(d:V):da (Itl K a) xs.length (fun i=>xs.getD i d) (fun H=>SqL K H a xs)where
 go:=fun i H hi h=>⟨xs,xs[i],h,by simp[hi]⟩
 yld:=fun i H x H' hi h y=>⟨y.1,by have:=y.2 xs h;rw[LJ,this];rfl⟩
 stop:=fun H h=>⟨xs,h,gV _⟩
theorem da.tuple {K:pv}{a:Addr}{xs:List V}(d:V):da (Itt K a) xs.length (fun i=>xs.getD i d) (fun H=>SqT K H a xs)where
 go:=fun i H hi h=>⟨xs,xs[i],h,by simp[hi]⟩
 yld:=fun i H x H' hi h y=>⟨y.1,by have:=y.2 xs h;rw[LJ,this];rfl⟩
 stop:=fun H h=>⟨xs,h,gV _⟩
theorem da.range {lo:Int}{n:Nat}:da (Itr lo n) n (fun i=>.int (lo+i)) (fun _=>True)where
 go:=fun i H hi _=>hi
 yld:=fun i H x H' hi _ y=>y
 stop:=fun H _=>gV _
def CWd (n:Nat)(Pv:Nat->List V->Hp->Prop):Nat->Nat->List V->Hp->Prop:=fun i m ys H=>i<=n/\m=n- i/\Pv i ys H
theorem CWd.next {n i:Nat}{Pv:Nat->List V->Hp->Prop}{ys:List V}{H:Hp}(hi:i<n)(h:Pv (i+1) ys H):∃m',m'<n- i/\CWd n Pv (i+1) m' ys H:=⟨n- (i+1),by omega,hi,rfl,h⟩
theorem gK {J:It}{n:Nat}{it:Nat->V}{Pk:Hp->Prop}{σ:St}{is:List Nat}{tc:TT}{te:TE}{Q:VK}{H1:Hp}{D:Addr}(T:da J n it Pk)(Pv:Nat->List V->Hp->Prop)
  (hk:∀i ys H,i<=n->Pv i ys H->Pk H)(h0:Pv 0 [] (upd H1 D (.lst [])))
  (hs:∀i ys H2,i<n->Pv i ys H2->tc (some (it i)::aV σ is) H2 fun b H4=>if b=true then
   te (some (it i)::aV σ is) H4 fun y H5=>H5 D=some (.lst ys)/\ys.length<sizeLine/\∃m',m'<n- i/\CWd n Pv (i+1) m' (ys++[y]) (upd H5 D (.lst (ys++[y])))
   else ∃m',m'<n- i/\CWd n Pv (i+1) m' ys H4)
  (hd:∀ys H,Pv n ys H->Q (.ref D) H):lX is tc te σ D J H1 Q:=by
 refine⟨CWd n Pv,⟨n,Mj _,rfl,h0⟩,?_⟩
 rintro i m ys H2 ⟨hi,rfl,p⟩
 by_cases hlt:i<n
 ·refine .inr ⟨T.go i H2 hlt (hk i ys H2 hi p),fun x H3 y=>?_⟩
  obtain⟨rfl,rfl⟩:=T.yld i H2 x H3 hlt (hk i ys H2 hi p) y
  exact hs i ys _ hlt p
 ·have e:i=n:=by omega
  subst e
  exact .inl ⟨T.stop H2 (hk _ ys H2 hi p),hd ys H2 p⟩
theorem aw.upd {H:Hp}{p:Addr}{o:HO}(h:H p=none):aw H (upd H p o):=fun b u e=>by rw[ao (ax e h)];exact e
theorem aw.put {H H':Hp}{p:Addr}{o:HO}(s:aw H H')(h:H p=none):aw H (L2.upd H' p o):=fun b u e=>by rw[ao (ax e h)];exact s b u e
theorem qm {xs:List V}{i:Int}(h0:0<=i)(h1:i<xs.length):atI xs i=some (xs.getD i.toNat .non):=by
 unfold atI ixN
 rw[if_pos h0,if_pos h1]
 show xs[i.toNat]?=_
 rw[LJ]
 have:i.toNat<xs.length:=by omega
 rw[Gt this];rfl
def bR:Expr->Bool
 |.Starred _ _=>false
 |_=>true
theorem aZ {e:Expr}(h:bR e=true)(bV:List Expr)(env:Env):starEach (e::bV) env=(false,eval e env)::starEach bV env:=by
 cases e<;>first|rfl|cases h
def bo:List Expr->Bool
 |[]=>true
 |e::r=>bR e&&bo r
theorem bQ:∀{es:List Expr}{env:Env}{pos:Pos},bo es=true->(backTo pos (starEach es env)).any (·.1)=false
 |[],_,_,_=>rfl
 |e::r,env,pos,h=>by
  have h:(bR e&&bo r)=true:=h
  rw[Ms]at h
  rw[aZ h.1]
  show(false||(backTo pos (starEach r env)).any (·.1))=false
  rw[bQ h.2];rfl
section
variable {X:Cx}{e:Expr}{es:List Expr}{te:TE}{t:TA}{pos:Pos}
theorem AB (ha:PE X e te)(hr:PA X es t)(hs:bR e=true:=by rfl):PA X (e::es) (af te t):=AD ha hr (aZ hs es X.env)
variable {x:Str}{p apos cpos:Pos}{id T:String}{r:List V->Hp->VK->Prop}
theorem AF (hc:bZ X (.builtin id) r)(hg:Gl X x)(hm:X.mg x=none)(hv:bootBuiltins x=some (.builtin id))(ha:PA X (e::es) t)(hn:x≠"__name__":=by decide)(hdb:(x==("__debug__":Str))=false:=by decide)
  (hs:bo (e::es)=true:=by rfl):PE X (.Call (.Name x p) (e::es) [] pos) (tCB r t):=
 have h:(bR e&&bo es)=true:=hs
 xA hc hg hm hv ha hn hdb (aZ (Lv.mp h).1 es X.env) (bQ (Lv.mp h).2)
theorem yO (hc:bZ X (.type T) r)(hg:Gl X x)(hm:X.mg x=none)(hv:bootBuiltins x=some (.type T))(ha:PA X (e::es) t)(hn:x≠"__name__":=by decide)(hdb:(x==("__debug__":Str))=false:=by decide)
  (hs:bo (e::es)=true:=by rfl):PE X (.Call (.Name x p) (e::es) [] pos) (tCB r t):=
 have h:(bR e&&bo es)=true:=hs
 wm hc hg hm hv ha hn hdb (aZ (Lv.mp h).1 es X.env) (bQ (Lv.mp h).2)
variable {CX:CXT}{k:Nat}{f C:Addr}{fd:LI}{ps:List Str}{sp:Sp}{dvs:List V}{ds:List tx}{E:XK}{m:Str}{o:Expr}{ta:TE}
theorem kX:∀{es:List Expr}{env:Env}{pos:Pos},bo es=true->(backTo pos (starEach es env)).all (fun x=> !x.1)=true
 |[],_,_,_=>rfl
 |e::r,env,pos,h=>by
  have h:(bR e&&bo r)=true:=h
  rw[Ms]at h
  rw[aZ h.1]
  show(true&&(backTo pos (starEach r env)).all (fun x=> !x.1))=true
  rw[kX h.2];rfl
variable {to:TE}{name:Str}{rm:V->List V->Hp->VK->Prop}
theorem Ko (pa:Rv T)(slot:Slot T name id)(hty:typeOf (.builtin id)=pure (.type "method_descriptor"))(hm:MtR X id rm)(ho:PE X o to)(ha:PA X (e::es) t)
  (hbase:attributeBase o name X.env (eval o X.env)=eval o X.env:=by rfl)(hfew:decide ((e::es).length<30)=true:=by rfl)
  (hline:(apos.endLine==cpos.line)=true:=by rfl)(hs:bo (e::es)=true:=by rfl):PE X (.Call (.Attribute o name apos) (e::es) [] cpos) (tBM X.K T rm to t):=
 have h:(bR e&&bo es)=true:=hs
 Hu pa slot hty hm ho ha hbase (by rw[kX hs];exact hfew) hline (aZ (Lv.mp h).1 es X.env) (bQ (Lv.mp h).2)
end
structure QE (X:Cx)(e:Expr)(t:TE):Prop where
 out:PE X e t
structure QT (X:Cx)(e:Expr)(t:TT):Prop where
 out:PT X e t
structure QW (X:Cx)(e:Expr)(t:TT):Prop where
 out:PW X e t
structure QA (X:Cx)(e:List Expr)(t:TA):Prop where
 out:PA X e t
structure QS (X:Cx)(e:Stmt)(t:TS):Prop where
 out:PS X e t
structure QSs (X:Cx)(e:List Stmt)(t:TS):Prop where
 out:PSs X e t
structure QI (X:Cx)(tg iter:Expr)(t:TI):Prop where
 out:PI X tg iter t
structure QO (X:Cx)(e:Option Expr)(t:TO):Prop where
 out:PO X e t
structure tX (X:Cx)(e:List Expr)(t:TT):Prop where
 out:ng X e t
section
variable {X:Cx}{a b c e o:Expr}{es bV:List Expr}{ta tb tc te to tv:TE}{tA tB':TT}{t:TA}{pos apos cpos p:Pos}{x y:Str}
theorem ae (i:Nat)(hN:X.N[i]?=some x:=by rfl)(hv:Vis X.env.scope x:=by first|exact Or.inl rfl|exact TJ (Or.inl rfl)|exact TJ (TJ rfl))(hd:(x==("__debug__":Str))=false:=by decide)
 (hcd:(x==("__classdict__":Str))=false:=by decide):QE X (.Name x pos) (aa i):=⟨qv i hN hv hd hcd⟩
theorem BS {i:Int}(hm:∃t,X.mg x=some (.int i t))(hg:Gl X x:=by rfl)(hd:(x==("__debug__":Str))=false:=by decide):QE X (.Name x pos) (tC (.int i)):=⟨qgi hm hg hd⟩
theorem iE {T:String}(hm:X.mg x=none)(hv:bootBuiltins x=some (.type T))(hg:Gl X x:=by rfl)(hn:x≠"__name__":=by decide)(hd:(x==("__debug__":Str))=false:=by decide):QE X (.Name x pos) (tC (.ty T)):=⟨Ak hg hm hv rfl hn hd⟩
theorem ay {i:Int}{j}:QE X (.Constant (.int i) j pos) (tC (.int i)):=⟨BE⟩
theorem gY {b:Bool}{j}:QE X (.Constant (.bool b) j pos) (tC (.bl b)):=⟨GV⟩
theorem tI {j}:QE X (.Constant .none j pos) (tC .non):=⟨DE⟩
theorem cw {z:Str}{j}:QE X (.Constant (.str z) j pos) (tC (.str z)):=⟨BD⟩
theorem gb (ha:QE X a ta):QE X (.UnaryOp .USub a pos) (tUn dW ta):=⟨FJ Jo ha.out⟩
theorem HB (ha:QE X a ta):QE X (.UnaryOp .Not a pos) (uB ta):=⟨Ga ha.out⟩
theorem aN {op:Operator}{r:R2}(ho:OpR X (binaryOp op) r)(ha:QE X a ta)(hb:QE X b tb):QE X (.BinOp a op b pos) (tOp r ta tb):=⟨FM ho ha.out hb.out⟩
theorem mP {op:TD}{r:R2}(ho:OpR X (compareOp op) r)(ha:QE X a ta)(hb:QE X b tb)(hm:behindInMarks op b=false:=by first|exact lS _|rfl):QE X (.Compare a [op] [b] pos) (tOp r ta tb):=⟨qc ho ha.out hb.out hm⟩
theorem iH {op op':TD}{r r':R2}(ho:OpR X (compareOp op) r)(ho':OpR X (compareOp op') r')(ha:QE X a ta)(hb:QE X b tb)(hc:QE X c tc)(hm:lastMarks [op,op'] [b,c]=false:=by with_unfolding_all rfl):
 QE X (.Compare a [op,op'] [b,c] pos) (eT r r' ta tb tc):=⟨qch ho ho' ha.out hb.out hc.out hm⟩
theorem fu {op}(h:QE X a ta):QE X (.BoolOp op [a] pos) ta:=⟨BG h.out⟩
theorem dE (ha:QE X a ta)(hb:QE X (.BoolOp .And (b::bV) pos) tb):QE X (.BoolOp .And (a::b::bV) pos) (de ta tb):=⟨Kc ha.out hb.out⟩
theorem uJ (hc:QT X c tA)(ha:QE X a ta)(hb:QE X b tb):QE X (.IfExp c a b pos) (mIf tA ta tb):=⟨JX hc.out ha.out hb.out⟩
theorem ar:QA X [] am:=⟨BC⟩
theorem ag (ha:QE X e te)(hr:QA X es t)(hs:bR e=true:=by rfl):QA X (e::es) (af te t):=⟨AB ha.out hr.out hs⟩
theorem dH (h:QA X es t):QE X (.List es pos) (dg t):=⟨BU h.out⟩
theorem bJ {x1}(h:QA X es t):QE X (.Tuple es x1 pos) (bB t):=⟨En h.out⟩
theorem aT {r:R2}(hr:IxR X r)(ha:QE X a ta)(hb:QE X b tb)(hs:sR b):QE X (.Subscript a b pos) (tOp r ta tb):=⟨Hc hr ha.out hb.out hs⟩
theorem fh:QO X none cj:=⟨By⟩
theorem fc (h:QE X e te):QO X (some e) (dA te):=⟨Bt h.out⟩
theorem eZ {r:V->Option Int->Option Int->Hp->VK->Prop}{lo hi:Option Expr}{tl th:TO}{p2:Pos}(hr:SlR X r)(he:QE X e te)(hl:QO X lo tl)(hu:QO X hi th):QE X (.Subscript e (.Slice lo hi none p2) pos) (tSl r te tl th):=⟨xK hr he.out hl.out hu.out⟩
variable {id T:String}{r:List V->Hp->VK->Prop}
theorem be (hc:bZ X (.builtin id) r)(hm:X.mg x=none)(hv:bootBuiltins x=some (.builtin id))(ha:QA X (e::es) t)(hg:Gl X x:=by rfl)(hn:x≠"__name__":=by decide)(hdb:(x==("__debug__":Str))=false:=by decide)
 (hs:bo (e::es)=true:=by rfl):QE X (.Call (.Name x p) (e::es) [] pos) (tCB r t):=⟨AF hc hg hm hv ha.out hn hdb hs⟩
theorem qT (hc:bZ X (.type T) r)(hm:X.mg x=none)(hv:bootBuiltins x=some (.type T))(ha:QA X (e::es) t)(hg:Gl X x:=by rfl)(hn:x≠"__name__":=by decide)(hdb:(x==("__debug__":Str))=false:=by decide)
 (hs:bo (e::es)=true:=by rfl):QE X (.Call (.Name x p) (e::es) [] pos) (tCB r t):=⟨yO hc hg hm hv ha.out hn hdb hs⟩
variable {CX:CXT}{k:Nat}{f C:Addr}{fd:LI}{ps:List Str}{sp:Sp}{dvs:List V}{ds:List tx}{E:XK}{m:Str}
variable {name:Str}{rm:V->List V->Hp->VK->Prop}
theorem dU (pa:Rv T)(slot:Slot T name id)(hty:typeOf (.builtin id)=pure (.type "method_descriptor"))(hm:MtR X id rm)(ho:QE X o to)(ha:QA X (e::es) t)
 (hbase:attributeBase o name X.env (eval o X.env)=eval o X.env:=by rfl)(hfew:decide ((e::es).length<30)=true:=by rfl)
 (hline:(apos.endLine==cpos.line)=true:=by rfl)(hs:bo (e::es)=true:=by rfl):QE X (.Call (.Attribute o name apos) (e::es) [] cpos) (tBM X.K T rm to t):=⟨Ko pa slot hty hm ho.out ha.out hbase hfew hline hs⟩
theorem ba {op:TD}{r:R2}(ho:OpR X (compareOp op) r)(ha:QE X a ta)(hb:QE X b tb)(hm:behindInMarks op b=false:=by first|exact lS _|rfl):QT X (.Compare a [op] [b] pos) (aJ (tOp r ta tb)):=⟨qtc ho ha.out hb.out hm⟩
theorem qU {op op':TD}{r r':R2}(ho:OpR X (compareOp op) r)(ho':OpR X (compareOp op') r')(ha:QE X a ta)(hb:QE X b tb)(hc:QE X c tc)(hm:lastMarks [op,op'] [b,c]=false:=by with_unfolding_all rfl):
 QT X (.Compare a [op,op'] [b,c] pos) (aJ (eT r r' ta tb tc)):=⟨KM ho ho' ha.out hb.out hc.out hm⟩
theorem cF (h:QE X e te)(he:∀whole,isTrue e X.env whole=(do let v<-whole;standAt e.pos;holding [v] (truthy v)):=by intro _;rfl):QT X e (cX X.K te):=⟨qtb h.out he⟩
theorem cY (ha:QT X a tA):QT X (.UnaryOp .Not a pos) (eC tA):=⟨Cw ha.out⟩
theorem x_w (h:QW X e tA):QT X e tA:=⟨h.out.pt⟩
theorem Bf (ha:QT X a tA):QW X (.BoolOp .And [a] pos) tA:=⟨Bj ha.out⟩
theorem mO (ha:QT X a tA):QW X (.BoolOp .Or [a] pos) tA:=⟨Fi ha.out⟩
theorem EX (ha:QT X a tA)(hb:QW X (.BoolOp .And (b::bV) pos) tB'):QW X (.BoolOp .And (a::b::bV) pos) (jU tA tB'):=⟨Ds ha.out hb.out⟩
theorem pO (ha:QT X a tA)(hb:QW X (.BoolOp .Or (b::bV) pos) tB'):QW X (.BoolOp .Or (a::b::bV) pos) (mOr tA tB'):=⟨GI ha.out hb.out⟩
variable {tg iter elt:Expr}{wi:TI}{ifs:List Expr}{scope:Scope}{ys:List Str}{is:List Nat}{px py spos:Pos}
theorem lH (hm:X.mg "range"=none)(ha:QA X [a] t)(hg:Gl X "range":=by rfl)(hs:bR a=true:=by rfl):QI X tg (.Call (.Name "range" p) [a] [] pos) (kB t):=⟨wv hg hm ha.out (aZ hs [] X.env)⟩
theorem qJ (hm:X.mg "range"=none)(ha:QA X [a,b] t)(hg:Gl X "range":=by rfl)(hs:bR a=true:=by rfl)(hs2:bR b=true:=by rfl):QI X tg (.Call (.Name "range" p) [a,b] [] pos) (pU t):=
 ⟨vM hg hm ha.out (by rw[aZ hs,aZ hs2];rfl) (aZ hs2 [] X.env)⟩
theorem gM:tX X [] (fun _ H Q=>Q true H):=⟨rfl⟩
theorem qM {tcn:TT}(S:fx scope x ys)(hcap:fk X scope ys is)(hi:QI X (.Name x px) iter wi)
 (hif:∀C s H fp,tX (aO X scope C (x::ys) s H fp) ifs tcn)(he:∀C s H fp,QE (aO X scope C (x::ys) s H fp) elt te)(hc:X.calm=true:=by rfl)
 (hs:∀x,foldedSetIterable iter X.env x=pure x:=by intro _;rfl):QE X (.ListComp elt [⟨.Name x px,iter,ifs,0⟩] scope pos) (fz is wi tcn te):=⟨AW hc S hcap hi.out (fun C s H fp=>(hif C s H fp).out) (fun C s H fp=>(he C s H fp).out) hs⟩
variable {st:Stmt}{sts:List Stmt}{tS uS:TS}{i j:Nat}
theorem aW:QSs X [] aM:=⟨AN⟩
theorem az (h:QS X st tS):QSs X [st] tS:=⟨Bc h.out⟩
theorem av (h1:QS X st tS)(h2:QSs X sts uS):QSs X (st::sts) (aA tS uS):=⟨yf h1.out h2.out⟩
theorem aL (h:QE X e te):QS X (.Return (some e) pos) (aK te):=⟨DM h.out⟩
theorem bc {l m:List Stmt}(hc:QT X c tA)(ha:QSs X l tS)(hb:QSs X m uS):QS X (.If c l m pos) (aP tA tS uS):=⟨qif hc.out ha.out hb.out⟩
theorem aI (i:Nat)(hN:X.N.Nodup)(he:QE X e te)(hi:X.N[i]?=some x:=by rfl)(hx:Loc X.env.scope x:=by first|exact .inl rfl|exact .inr rfl)
 (hs:swapsWith e (some (.Name x p)) pos.line X.env=pure false:=by rfl)(hf:X.fn x=true\/X.env.scope.names.lookup x=some .local:=by first|exact .inl rfl|exact .inr rfl):QS X (.Assign [.Name x p] e pos) (aD te (aB i)):=⟨DY hN hi hx he.out hs hf⟩
theorem kc (j:Nat){tcn:TT}(hN:X.N.Nodup)(S:fx scope x ys)(hcap:fk X scope ys is)(hi:QI X (.Name x px) iter wi)
  (hif:∀C s H fp,tX (aO X scope C (x::ys) s H fp) ifs tcn)(he:∀C s H fp,QE (aO X scope C (x::ys) s H fp) elt te)(hc:X.calm=true:=by rfl)
  (hj:X.N[j]?=some y:=by rfl)(hy:Loc X.env.scope y:=by first|exact .inl rfl|exact .inr rfl)
  (hsw:swapsWith (.ListComp elt [⟨.Name x px,iter,ifs,0⟩] scope pos) (some (.Name y py)) spos.line X.env=pure true:=by rfl)(hf:X.fn y=true\/X.env.scope.names.lookup y=some .local:=by first|exact .inl rfl|exact .inr rfl)
  (hs:∀x,foldedSetIterable iter X.env x=pure x:=by intro _;rfl):QS X (.Assign [.Name y py] (.ListComp elt [⟨.Name x px,iter,ifs,0⟩] scope pos) spos) (aD (fz is wi tcn te) (aB j)):=
 ⟨uw hN hj hy hc S hcap hi.out (fun C s H fp=>(hif C s H fp).out) (fun C s H fp=>(he C s H fp).out) hsw hf hs⟩
theorem bW (h:QE X e te)(hs:swapsWith e none pos.line X.env=pure false:=by rfl):QS X (.Expr e pos) (bL te):=⟨Aw h.out hs⟩
theorem hU (i:Nat)(hN:X.N.Nodup){body:List Stmt}(hi:QI X (.Name x px) iter wi)(hb:QSs X body tS)(hp:Tx (model X.prog X.w) X.A X.env X.xe)(hc:X.calm=true:=by rfl)
 (hj:X.N[i]?=some x:=by rfl)(hx:Loc X.env.scope x:=by first|exact .inl rfl|exact .inr rfl)(hf:X.fn x=true\/X.env.scope.names.lookup x=some .local:=by first|exact .inl rfl|exact .inr rfl)
 (hs:∀x,foldedSetIterable iter X.env x=pure x:=by intro _;rfl):QS X (.For (.Name x px) iter body [] pos) (iD wi (aB i) tS):=⟨Cq hp hc hi.out (nN hN hj hx hf) hb.out hs⟩
theorem sB {body:List Stmt}(hc:QT X c tA)(hb:QSs X body tS)(hp:Tx (model X.prog X.w) X.A X.env X.xe):QS X (.While c body [] pos) (mz tA tS):=⟨xn hp hc.out hb.out⟩
theorem dN:QS X st dL:=⟨yd⟩
end
end L2
namespace HT
open PySem PyProof.Rows
structure Hd0 (vs:Array tx)(a0:tx):Prop where
 a:vs[0]?=some a0
 b:vs[2]?=some .none
structure TrD (h base:Heap)(e:Addr)(cls a0:tx)(d:Option Addr)(fl:tx):Prop where
 ex:∃oe vs T oT ts,h.get? e=some oe/\oe.cls=cls/\oe.dict=d/\oe.data=.fields vs/\Hd0 vs a0/\vs[1]?=some (.ref T)/\base.get? T=none/\T≠e/\h.get? T=some oT/\oT.data=.fields ts/\ts[3]?=some fl
structure lf (base:Heap)(l:List Env)(e:Addr)(cls a0:tx)(d:Option Addr)(fl:tx)(h h':Heap):Prop where
 st:base.StaysIn h'
 fr:h'.FunFrames base l
 tr:TrD h' base e cls a0 d fl
 up:h.UpToSlots h'
theorem mT (o:Obj)(f:Array tx->Array tx):(Pz f o).dict=o.dict:=by
 obtain⟨c,d,dt,sl⟩:=o
 cases dt<;>rfl
section
variable {M:TB}{A:Mq}{E:tx->If->Prop}{s:If}{base:Heap}{env:Env}{outer:List Env}{L e:Addr}{cls a0:tx}{d:Option Addr}{Q:Unit->If->Prop}
theorem vi {oe:Obj}{vs:Array tx}{head:tx}{hadNext:Bool}(hfr:A.frames=some (env::outer))(hl:s.heap.FunFrames base (env::outer))(hf:env.frame=some L)(he:s.heap.get? e=some oe)(hc:oe.cls=cls)(hdc:oe.dict=d)
  (hkb:base.StaysIn s.heap)(hen:base.get? e=none)(hd:oe.data=.fields vs)(hsz:1<vs.size)(h0:Hd0 vs a0)(h:∀h',lf base (env::outer) e cls a0 d (rawInt L) s.heap h'->Q () {s with heap:=h'}):
  wpAny M A (do let a<-frameOf env;let pl<-entryPlaceOf L hadNext;let b<-RB head a .none (rawInt L) .none pl;setField (.ref e) 1 b) Q E s:=by
 have nfr:e∉(env::outer).filterMap (·.frame):=fun hm=>by
  obtain⟨_,o,ho,hnf⟩:=hl.mem hm
  rw[he]at ho
  cases ho
  exact hnf vs hd
 refine ah (wpAny_frameOf_fun hfr hl hf fun h1 s1=>ah (wpAny_entryPlaceOf fun pl hpl=>?_))
 unfold RB newFields
 refine ah (MQ ?_ (hpl.sizeOk5 _ _ _ _ _))
 generalize hts:([head,LF L,.none,rawInt L,.none]++(if pl.isEmpty then RC 6 NL else pl)).toArray=ts
 have hts3:ts[3]?=some (rawInt L):=by rw[<-hts];first|(simp;done)|(rcases hpl with rfl|⟨_,_,_,_,_,_,_,rfl⟩<;>simp)
 have e1:h1.get? e=some oe:=(s1.2.1 e nfr).trans he
 have kb1:base.StaysIn h1:=fun b o hbo=>(s1.2.1 b fun hm=>by rw[(hl.mem hm).1]at hbo;cases hbo).trans (hkb b o hbo)
 have e2:(h1.push {cls:=.type "traceback",dict:=none,data:=.fields ts}).get? e=some oe:=cW _ e1
 have nT:h1.objs.size≠e:=Nr (Lt e1)
 refine Sl e2 hd hsz (h _ ?_)
 have d3:=OD hd (·.setIfInBounds 1 (LF h1.objs.size))
 have e3:=My (Pz (·.setIfInBounds 1 (LF h1.objs.size))) e2 (PZ d3)
 have kp:∀b o,b≠e->h1.get? b=some o->((h1.push {cls:=.type "traceback",dict:=none,data:=.fields ts}).update e (Pz (·.setIfInBounds 1 (LF h1.objs.size)))).get? b=some o:=fun b o nb eb=>
  (MC _ _ (Mh nb)).trans (cW _ eb)
 have T3:=(MC (h1.push {cls:=.type "traceback",dict:=none,data:=.fields ts}) (Pz (·.setIfInBounds 1 (LF h1.objs.size))) (Mh nT)).trans (Ly h1 rfl)
 have nr:∀b o,s.heap.get? b=some o->(∀vs,o.data≠.fields vs)->b≠e:=fun b o hb hnf q=>by
  rw[q,he]at hb
  cases hb
  exact hnf vs hd
 refine⟨fun b o hbo=>kp b o (fun q=>by rw[q,hen]at hbo;cases hbo) (kb1 b o hbo),hl.of_keeps fun b o hb hnf=>?_,⟨_,_,h1.objs.size,_,ts,e3,(Tz ..).trans hc,(mT ..).trans hdc,d3,?_,by simp[hsz],kb1.fresh,nT,T3,rfl,hts3⟩,fun b o hb hnf=>?_⟩
 ·obtain⟨sl,hs⟩:=s1.2.2 b o hb
  exact⟨_,kp b _ (nr b o hb hnf) hs,rfl⟩
 ·exact⟨by rw[QX (by decide)];exact h0.a,by rw[QX (by decide)];exact h0.b⟩
 ·obtain⟨sl,hs⟩:=s1.2.2 b o hb
  exact⟨sl,kp b _ (nr b o hb hnf) hs⟩
theorem rZ {oe:Obj}{vs:Array tx}(hfr:A.frames=some (env::outer))(hl:s.heap.FunFrames base (env::outer))(hf:env.frame=some L)(he:s.heap.get? e=some oe)(hc:oe.cls=cls)(hdc:oe.dict=d)(hkb:base.StaysIn s.heap)(hen:base.get? e=none)
  (hd:oe.data=.fields vs)(h1:vs[1]?=some .none)(h0:Hd0 vs a0)(h:∀h',lf base (env::outer) e cls a0 d (rawInt L) s.heap h'->Q () {s with heap:=h'}):wpAny M A (noteFrame (.ref e) env) Q E s:=by
 unfold noteFrame
 simp only[hf]
 refine ah (Mt he hd h1 ?_)
 rw[if_neg (by decide)]
 exact vi hfr hl hf he hc hdc hkb hen hd (Nz.mp h1).1 h0 h
theorem CB {fl fl':tx}{T:Addr}{oT:Obj}{ts:Array tx}{l:List Env}{oe:Obj}{vs:Array tx}(hkb:base.StaysIn s.heap)(hl:s.heap.FunFrames base l)(he:s.heap.get? e=some oe)(hc:oe.cls=cls)(hdc:oe.dict=d)(hd:oe.data=.fields vs)(h0:Hd0 vs a0)
  (h1:vs[1]?=some (.ref T))(nT:base.get? T=none)(Te:T≠e)(hT:s.heap.get? T=some oT)(hdT:oT.data=.fields ts)(h3:ts[3]?=some fl)(h:∀h',lf base l e cls a0 d fl' s.heap h'->(h'.get? e=some oe)->Q () {s with heap:=h'}):wpAny M A (setField (.ref T) 3 fl') Q E s:=by
 have sz:=(Nz.mp h3).1
 have ot:∀b,b≠T->(s.heap.update T (Pz (·.setIfInBounds 3 fl'))).get? b=s.heap.get? b:=fun b hb=>MC _ _ (Mh hb)
 have nr:∀b o,s.heap.get? b=some o->(∀vs,o.data≠.fields vs)->b≠T:=fun b o hb hnf q=>by
  rw[q,hT]at hb
  cases hb
  exact hnf ts hdT
 refine Sl hT hdT sz (h _ ⟨fun b o hbo=>(ot b fun q=>by rw[q,nT]at hbo;cases hbo).trans (hkb b o hbo),hl.of_keeps fun b o hb hnf=>⟨o,(ot b (nr b o hb hnf)).trans hb,rfl⟩,
  ⟨oe,vs,T,_,_,(ot e (Mh Te)).trans he,hc,hdc,hd,h0,h1,nT,Te,My _ hT (PZ (OD hdT _)),OD hdT _,by simp[sz]⟩,fun b o hb hnf=>⟨o.slots,(ot b (nr b o hb hnf)).trans hb⟩⟩ ((ot e (Mh Te)).trans he))
theorem kC {fl:tx}{l:List Env}(hkb:base.StaysIn s.heap)(hl:s.heap.FunFrames base l)(ht:TrD s.heap base e cls a0 d fl)(h:∀h',lf base l e cls a0 d .none s.heap h'->Q () {s with heap:=h'}):wpAny M A (setFlight (.ref e) none) Q E s:=by
 obtain⟨oe,vs,T,oT,ts,he,hc,hdc,hd,h0,h1,nT,Te,hT,hdT,h3⟩:=ht.ex
 unfold setFlight
 refine ah (Mt he hd h1 ?_)
 rw[if_pos (show(LF T !=NL)=true from by simp)]
 exact CB hkb hl he hc hdc hd h0 h1 nT Te hT hdT h3 fun h' n _=>h h' n
theorem mC (hfr:A.frames=some (env::outer))(hl:s.heap.FunFrames base (env::outer))(hf:env.frame=some L)(ht:TrD s.heap base e cls a0 d .none)(hkb:base.StaysIn s.heap)(hen:base.get? e=none)
  (h:∀h',lf base (env::outer) e cls a0 d (rawInt L) s.heap h'->Q () {s with heap:=h'}):wpAny M A (noteFrame (.ref e) env) Q E s:=by
 obtain⟨oe,vs,T,oT,ts,he,hc,hdc,hd,h0,h1,nT,Te,hT,hdT,h3⟩:=ht.ex
 unfold noteFrame
 simp only[hf]
 refine ah (Mt he hd h1 ?_)
 rw[if_pos (show(LF T !=NL)=true from by simp)]
 refine ah (Mt hT hdT h3 ?_)
 rw[if_neg (show ¬((NL==rawInt L)=true)from by simp[rawInt])]
 refine ah (CB (fl':=.none) hkb hl he hc hdc hd h0 h1 nT Te hT hdT h3 fun h' n he'=>?_)
 exact vi (s:={s with heap:=h'}) hfr n.fr hf he' hc hdc n.st hen hd (Nz.mp h1).1 h0 fun h2 n2=>h h2 ⟨n2.st,n2.fr,n2.tr,n.up.trans n2.up⟩
theorem qF {oe:Obj}{vs:Array tx}(hfr:A.frames=some (env::outer))(hl:s.heap.FunFrames base (env::outer))(hf:env.frame=some L)(he:s.heap.get? e=some oe)(hc:oe.cls=cls)(hdc:oe.dict=d)(hkb:base.StaysIn s.heap)(hen:base.get? e=none)
  (hd:oe.data=.fields vs)(h1:vs[1]?=some .none)(h0:Hd0 vs a0)(h:∀h',lf base outer e cls a0 d .none s.heap h'->Q () {s with heap:=h'}):wpAny M A (leaving env (.ref e)) Q E s:=by
 unfold leaving
 refine ah (rZ hfr hl hf he hc hdc hkb hen hd h1 h0 fun h' n=>?_)
 obtain⟨n1,⟨_,_,n2⟩,n3,n4⟩:=n
 exact kC (s:={s with heap:=h'}) n1 n2 n3 fun h2 m=>h h2 ⟨m.st,m.fr,m.tr,n4.trans m.up⟩
theorem rO (hfr:A.frames=some (env::outer))(hl:s.heap.FunFrames base (env::outer))(hf:env.frame=some L)(ht:TrD s.heap base e cls a0 d .none)(hkb:base.StaysIn s.heap)(hen:base.get? e=none)
  (h:∀h',lf base outer e cls a0 d .none s.heap h'->Q () {s with heap:=h'}):wpAny M A (leaving env (.ref e)) Q E s:=by
 unfold leaving
 refine ah (mC hfr hl hf ht hkb hen fun h' n=>?_)
 obtain⟨n1,⟨_,_,n2⟩,n3,n4⟩:=n
 exact kC (s:={s with heap:=h'}) n1 n2 n3 fun h2 m=>h h2 ⟨m.st,m.fr,m.tr,n4.trans m.up⟩
end
end HT
namespace L2
open PySem PySem.Spec PyProof.Rows
abbrev veM:List tx:=[.type "ValueError",.type "Exception",.type "BaseException",.type "object"]
def eG (K:pv)(C D:Addr):Option Bool:=match K.lookup C with
 |some ⟨_,_,.cls cd,_⟩=>some (cd.mro.contains (.ref D))
 |_=>none
def jP (K:pv)(C:Addr):Bool:=match K.lookup C with
 |some ⟨.type "type",_,.cls cd,sl⟩=>(match cd.mro,sl.toList with
  |.ref C'::bm,[_,_,_,_,some (.builtin n),_]=>C'==C&&n=="ValueError.__new__"&& !cd.hasDel&&W.tailIn K veM bm&&W.nsOkIn K cd.ns
  |_,_=>false)
 |_=>false
def cb (K:pv)(C:Addr):Prop:=jP K C=true
def cQ (K:pv)(C:Addr):Prop:=QU K C veM "ValueError.__new__"=true
theorem cQ.ok {K:pv}{C:Addr}(q:cQ K C):cb K C:=by
 unfold cQ QU at q
 unfold cb jP
 split at q
 ·rename_i dd cd sl ho
  split at q
  ·rename_i C' bm k0 k1 k2 k3 n k5 hm hs
   rw[ho]
   simp only[hm,hs]
   simp only[Ms]at q⊢
   exact q.1
  ·cases q
 ·cases q
theorem fy {K:pv}{h:Heap}{C:Addr}(X:K.In h)(q:cb K C):
  ∃bm N nm qn bs hdct sn sub ab col dd k0 k1 k2 k3 k5 mN,h.get? C=some (excClassObj nm qn C N bs bm hdct sn sub ab col dd k0 k1 k2 k3 k5 "ValueError.__new__")/\h.Ns N mN/\(cQ K C->mN "__init__"=none)/\OwnTail h veM bm/\
   ∀D,eG K C D=some ((LF C::bm).contains (.ref D)):=by
 have q2:=q
 unfold cb jP at q
 split at q
 ·rename_i dd cd sl ho
  split at q
  ·rename_i C' bm k0 k1 k2 k3 n k5 hm hs
   simp only[Ms,beq_iff_eq,Bool.not_eq_true']at q
   obtain⟨⟨⟨⟨rfl,rfl⟩,hdel⟩,ht⟩,hok⟩:=q
   obtain⟨nm,bs,mro,ns,qn,hd,sn,sub,ab,col,del⟩:=cd
   dsimp only at hm hdel hok
   subst hm hdel
   have hsl:sl=#[k0,k1,k2,k3,some (.builtin "ValueError.__new__"),k5]:=by
    obtain⟨l⟩:=sl
    simp only at hs
    rw[hs]
   subst hsl
   refine⟨bm,ns,nm,qn,bs,hd,sn,sub,ab,col,dd,k0,k1,k2,k3,k5,_,X _ _ ho,.of_isNs (W.isNs_of_in X hok),fun r=>?_,W.tail_of_in X ht,fun D=>?_⟩
   ·unfold cQ QU at r
    rw[ho]at r
    simp only[Ms,beq_iff_eq]at r
    exact W.nsMap_none_of_in X hok r.2
   ·unfold eG
    rw[ho]
  ·cases q
 ·cases q
theorem nG {M:TB}{A:Mq}{E:tx->If->Prop}{s:If}{K:pv}{C D e:Addr}{oe:Obj}{Q:Bool->If->Prop}{b:Bool}(X:K.In s.heap)(hC:cb K C)(hD:cb K D)(he:s.heap.get? e=some oe)(hcls:oe.cls=.ref C)
  (hs:eG K C D=some b)(hq:Q b s):wpAny M A (excMatches (.ref e) (.ref D)) Q E s:=by
 obtain⟨bm,N,nm,qn,bs,hdct,sn,sub,ab,col,dd,k0,k1,k2,k3,k5,mN,oC,_,_,_,hsub⟩:=fy X hC
 obtain⟨bm',N',nm',qn',bs',hdct',sn',sub',ab',col',dd',k0',k1',k2',k3',k5',mN',oD,_,_,T',_⟩:=fy X hD
 have hb:(LF C::bm).contains (.ref D)=b:=LR ((hsub D).symm.trans hs)
 have hbase:(LF D::bm').contains (.type "BaseException")=true:=by
  rw[QQ,T'.hasType (X:="BaseException") (b:=true) (by decide+kernel),Sk]
 have f:=tc_notTuple
 obtain⟨hp,g,d,t,os⟩:=s
 unfold excMatches
 repeat (first|(with_reducible refine MH he ?_;rw[hcls])|with_reducible refine MH oD ?_ |(with_reducible refine NZ oC ?_;rw[hb])|(with_reducible refine NZ oD ?_;rw[hbase])|wp_step)
 all_goals first|exact hq|(cases b<;>first|exact hq|(repeat (first|exact hq|wp_step)))
structure Fly (P:LV)(w:Mx)(l:List Env)(H:Hp)(s:If)(cls fl:tx)(a:Addr)(d:Option Addr)(H':Hp)(s':If):Prop where
 os:s'.os=s.os
 bare:Qb s'.gens
 un:Un (frs l) [] H H' s.heap s'.heap
 hok:HOk P w H' s'.heap
 new:s.heap.get? a=none
 free:H' a=none
 tr:∃oe vs a0 T oT ts,s'.heap.get? a=some oe/\oe.cls=cls/\oe.dict=d/\oe.data=.fields vs/\HT.Hd0 vs a0/\vs[1]?=some (.ref T)/\T≠a/\s'.heap.get? T=some oT/\oT.data=.fields ts/\ts[3]?=some fl/\s.heap.get? T=none/\H' T=none
def CX1 (P:LV)(w:Mx):CXT:=fun outer H s E e s'=>∃a C d H',e=.ref a/\Fly P w outer H s (.ref C) .none a d H' s'/\E (.ref C) d H'
theorem jy {P:LV}{w:Mx}{H:Hp}{h:Heap}{a:Addr}{o:HO}(x:bg P w H h a o):∃u,h.get? a=some u:=by
 cases o with
 |lst xs=>obtain⟨_,_,_,_,e⟩:=x;exact⟨_,e⟩
 |tup xs=>obtain⟨_,_,_,p⟩:=x;obtain⟨o,e,_⟩:=p;exact⟨_,e⟩
 |dK kvs=>obtain⟨_,_,_,_,o,_,_,e,_⟩:=x;exact⟨_,e⟩
 |dT kvs=>obtain⟨_,_,_,_,o,_,_,e,_⟩:=x;exact⟨_,e⟩
 |set S n=>obtain⟨o,_,_,_,e,_⟩:=x;exact⟨_,e⟩
 |ins C dx fs=>obtain⟨_,_,_,e,_⟩:=x;exact⟨_,e⟩
 |own y=>exact x
 |xd fs=>obtain⟨_,⟨_,_,_,e,_⟩,_⟩:=x;exact⟨_,e⟩
 |rng lo hi=>obtain⟨_,_,_,e⟩:=x;exact⟨_,e⟩
 |frz ob u=>obtain⟨e,_⟩:=x;exact⟨_,e⟩
 |tbl ps=>exact⟨_,(show h.get? a=some _ from x)⟩
 |met f y=>exact⟨_,(show h.get? a=some _ from x)⟩
 |ext φ=>obtain⟨_,e,_⟩:=x;exact e
section
variable {P:LV}{w:Mx}{l:List Env}{H H':Hp}{s s':If}{cls fl fl':tx}{a:Addr}{d:Option Addr}{base:Heap}
def fN (h:Heap)(l:List Env)(a T:Addr):Heap:=W.hideAll h (a::T::frs l)
theorem Fly.frames (F:Fly P w l H s cls fl a d H' s')(ff:s.heap.FunFrames base l)(frf:∀b∈frs l,H b=none):s'.heap.FunFrames base l:=by
 have all:∀(k:List Env),(∀b∈frs k,b∈frs l)->s.heap.FunFrames base k->s'.heap.FunFrames base k:=by
  intro k
  induction k with
  |nil=>intro _ _;trivial
  |cons env r ih=>
   intro hs hl
   obtain⟨hk,⟨L,o,hf,hn,ho,hd⟩,hr⟩:=hl
   have hL:L∈frs l:=hs L (by unfold frs;rw[MN,hf];exact Mm)
   obtain⟨sl,e⟩:=F.un.slot L o ho (frf L hL) hL (by simp)
   exact⟨hk,⟨L,_,hf,hn,e,hd⟩,ih (fun b hb=>hs b (by unfold frs;rw[MN,hf];exact Mc _ hb)) hr⟩
 exact all l (fun _ hb=>hb) ff
theorem jX {h B B':Heap}:∀{k:List Env},h.FunFrames B k->(∀b∈frs k,B'.get? b=none)->h.FunFrames B' k
 |[],_,_=>trivial
 |env::r,⟨hk,⟨L,o,hf,hn,ho,hd⟩,hr⟩,hb=>⟨hk,⟨L,o,hf,hb L (by unfold frs;rw[MN,hf];exact Mm),ho,hd⟩,jX hr fun b h=>hb b (by unfold frs;rw[MN,hf];exact Mc _ h)⟩
theorem Fly.moved (F:Fly P w l H s cls fl a d H' s')(ff:s.heap.FunFrames base l)(frf:∀b∈frs l,H b=none)(ffs:∀b∈frs l,H' b=none){T:Addr}{oT:Obj}(hT0:s.heap.get? T=none)(hT1:H' T=none){h':Heap}{a0:tx}
  (st:(fN s'.heap l a T).StaysIn h')(up:s'.heap.UpToSlots h')(tr:HT.TrD h' (fN s'.heap l a T) a cls a0 d fl'):Fly P w l H s cls fl' a d H' {s' with heap:=h'}:=by
 have kp:∀b o,s'.heap.get? b=some o->b≠a->b≠T->b∉frs l->h'.get? b=some o:=fun b o e h1 h2 h3=>st b o (PU _ e (by simp[h1,h2,h3]))
 have ff':=F.frames ff frf
 have nf:∀b∈frs l,∀o,s'.heap.get? b=some o->∀vs,o.data≠.fields vs:=fun b hb o e vs z=>by
  obtain⟨_,o',ho,hd⟩:=ff'.mem hb
  rw[e]at ho;cases ho
  exact hd vs z
 have old:∀b o,s.heap.get? b=some o->b≠a/\b≠T:=fun b o e=>⟨fun z=>(by rw[z,F.new]at e;cases e),fun z=>(by rw[z,hT0]at e;cases e)⟩
 refine⟨F.os,F.bare,⟨fun b o e n hb hx=>?_,fun b o e n hb hx=>?_,F.un.free,fun b o e hx=>?_,F.un.tups,F.un.frzs,F.un.tbls⟩,fun b o e=>?_,F.new,F.free,?_⟩
 ·exact kp b o (F.un.keep b o e n hb hx) (old b o e).1 (old b o e).2 hb
 ·obtain⟨sl,e1⟩:=F.un.slot b o e n hb hx
  obtain⟨sl',e2⟩:=up b _ e1 (nf b hb _ e1)
  exact⟨sl',e2⟩
 ·obtain⟨o',e1⟩:=F.un.there b o e hx
  by_cases hb:b∈frs l
  ·obtain⟨sl',e2⟩:=up b _ e1 (nf b hb _ e1)
   exact⟨_,e2⟩
  ·exact⟨o',kp b o' e1 (old b o e).1 (old b o e).2 hb⟩
 ·refine(F.hok b o e).stay (fun c u hc q=>kp c u q ?_ ?_ ?_) (fun _ q=>q) fun _ _ q=>q
  ·rintro rfl
   rcases hc with r|r
   ·rw[<-r,F.free]at e;cases e
   ·rw[F.free]at r;cases r
  ·rintro rfl
   rcases hc with r|r
   ·rw[<-r,hT1]at e;cases e
   ·rw[hT1]at r;cases r
  ·intro hm
   rcases hc with r|r
   ·rw[<-r,ffs _ hm]at e;cases e
   ·rw[ffs _ hm]at r;cases r
 ·obtain⟨oe,vs,T',oT',ts,he,hc,hdc,hd,h0,h1,hn,hne,hT',hdT,h3⟩:=tr.ex
  have key:s'.heap.get? T'=none\/T'=T:=by
   cases q:s'.heap.get? T' with
   |none=>exact .inl rfl
   |some o=>
    refine .inr (Pc fun hz=>?_)
    by_cases hf:T'∈frs l
    ·obtain⟨sl',e2⟩:=up T' o q (nf T' hf o q)
     rw[hT']at e2;cases e2
     exact nf T' hf o q ts hdT
    ·have:(fN s'.heap l a T).get? T'=some o:=PU _ q (by simp[hz,hne,hf])
     rw[hn]at this;cases this
  refine⟨oe,vs,a0,T',oT',ts,he,hc,hdc,hd,h0,h1,hne,hT',hdT,h3,?_,?_⟩
  ·rcases key with z|z
   ·cases q:s.heap.get? T' with
    |none=>rfl
    |some o=>
     obtain⟨o',e⟩:=F.un.there T' o q (by simp)
     rw[z]at e;cases e
   ·rw[z];exact hT0
  ·rcases key with z|z
   ·cases q:H' T' with
    |none=>rfl
    |some o=>
     obtain⟨o1,e1⟩:=jy (F.hok T' o q)
     rw[z]at e1;cases e1
   ·rw[z];exact hT1
end
section
variable {X:Cx}{pins:List (Addr×Obj)}{σ:St}{H H':Hp}{s s':If}{cls fl:tx}{a:Addr}{d:Option Addr}
theorem Fly.inv (I:Inv X pins σ H s)(F:Fly X.prog X.w X.stack H s cls fl a d H' s'):Inv X pins σ H' s':=I.call' (ch:=[]) F.os F.un F.hok F.bare fun b z=>absurd z (by simp)
theorem Fly.up (I:Inv X pins σ H s)(hex:X.ex=[])(F:Fly X.prog X.w X.stack H s cls fl a d H' s'):Fly X.prog X.w X.outer X.H₀ X.s₀ cls fl a d H' s':=by
 have I2:=F.inv I
 have back:∀b,s.heap.get? b=none->X.s₀.heap.get? b=none:=fun b e=>by
  cases q:X.s₀.heap.get? b with
  |none=>rfl
  |some o=>
   obtain⟨o',e'⟩:=I.base.there b o q (by rw[hex];simp)
   rw[e]at e';cases e'
 obtain⟨oe,vs,a0,T,oT,ts,h1,h2,hd,h3,h4,h5,h6,h7,h8,h9,h10,h11⟩:=F.tr
 have b:=I2.base
 rw[hex]at b
 exact⟨I2.os,I2.bare,b,I2.hok,back a F.new,F.free,oe,vs,a0,T,oT,ts,h1,h2,hd,h3,h4,h5,h6,h7,h8,h9,back T h10,h11⟩
theorem Fly.flying (I:Inv X pins σ H s)(F:Fly X.prog X.w X.stack H s cls .none a d H' s'):∃T a0,s.heap.get? T=none/\H' T=none/\(fN s'.heap X.stack a T).StaysIn s'.heap/\(fN s'.heap X.stack a T).get? a=none/\s'.heap.FunFrames (fN s'.heap X.stack a T) X.stack/\
  HT.TrD s'.heap (fN s'.heap X.stack a T) a cls a0 d .none:=by
 obtain⟨oe,vs,a0,T,oT,ts,h1,h2,hd,h3,h4,h5,h6,h7,h8,h9,h10,h11⟩:=F.tr
 exact⟨T,a0,h10,h11,fun b o e=>SQ _ e,OS _ (by simp),jX (F.frames I.stack I.stkFree) fun b hb=>OS _ (by simp[hb]),⟨oe,vs,T,oT,ts,h1,h2,hd,h3,h4,h5,OS _ (by simp),h6,h7,h8,h9⟩⟩
end
structure tV (P:LV)(w:Mx)(l:List Env)(H:Hp)(s:If)(cls:tx)(a:Addr)(d:Option Addr)(H':Hp)(s':If):Prop where
 os:s'.os=s.os
 bare:Qb s'.gens
 un:Un (frs l) [] H H' s.heap s'.heap
 hok:HOk P w H' s'.heap
 new:s.heap.get? a=none
 free:H' a=none
 tr:∃oe vs a0,s'.heap.get? a=some oe/\oe.cls=cls/\oe.dict=d/\oe.data=.fields vs/\HT.Hd0 vs a0/\vs[1]?=some .none
section
variable {P:LV}{w:Mx}{l:List Env}{H H':Hp}{s s':If}{cls fl':tx}{a:Addr}{d:Option Addr}{base:Heap}
theorem om (un:Un (frs l) [] H H' s.heap s'.heap)(ff:s.heap.FunFrames base l)(frf:∀b∈frs l,H b=none):s'.heap.FunFrames base l:=by
 have all:∀(k:List Env),(∀b∈frs k,b∈frs l)->s.heap.FunFrames base k->s'.heap.FunFrames base k:=by
  intro k
  induction k with
  |nil=>intro _ _;trivial
  |cons env r ih=>
   intro hs hl
   obtain⟨hk,⟨L,o,hf,hn,ho,hd⟩,hr⟩:=hl
   have hL:L∈frs l:=hs L (by unfold frs;rw[MN,hf];exact Mm)
   obtain⟨sl,e⟩:=un.slot L o ho (frf L hL) hL (by simp)
   exact⟨hk,⟨L,_,hf,hn,e,hd⟩,ih (fun b hb=>hs b (by unfold frs;rw[MN,hf];exact Mc _ hb)) hr⟩
 exact all l (fun _ hb=>hb) ff
theorem tV.moved (F:tV P w l H s cls a d H' s')(ff:s.heap.FunFrames base l)(frf:∀b∈frs l,H b=none)(ffs:∀b∈frs l,H' b=none){h':Heap}{a0:tx}
  (st:(fN s'.heap l a a).StaysIn h')(up:s'.heap.UpToSlots h')(tr:HT.TrD h' (fN s'.heap l a a) a cls a0 d fl'):Fly P w l H s cls fl' a d H' {s' with heap:=h'}:=by
 have kp:∀b o,s'.heap.get? b=some o->b≠a->b∉frs l->h'.get? b=some o:=fun b o e h1 h3=>st b o (PU _ e (by simp[h1,h3]))
 have ff':=om F.un ff frf
 have nf:∀b∈frs l,∀o,s'.heap.get? b=some o->∀vs,o.data≠.fields vs:=fun b hb o e vs z=>by
  obtain⟨_,o',ho,hd⟩:=ff'.mem hb
  rw[e]at ho;cases ho
  exact hd vs z
 have old:∀b o,s.heap.get? b=some o->b≠a:=fun b o e z=>by rw[z,F.new]at e;cases e
 refine⟨F.os,F.bare,⟨fun b o e n hb hx=>?_,fun b o e n hb hx=>?_,F.un.free,fun b o e hx=>?_,F.un.tups,F.un.frzs,F.un.tbls⟩,fun b o e=>?_,F.new,F.free,?_⟩
 ·exact kp b o (F.un.keep b o e n hb hx) (old b o e) hb
 ·obtain⟨sl,e1⟩:=F.un.slot b o e n hb hx
  obtain⟨sl',e2⟩:=up b _ e1 (nf b hb _ e1)
  exact⟨sl',e2⟩
 ·obtain⟨o',e1⟩:=F.un.there b o e hx
  by_cases hb:b∈frs l
  ·obtain⟨sl',e2⟩:=up b _ e1 (nf b hb _ e1)
   exact⟨_,e2⟩
  ·exact⟨o',kp b o' e1 (old b o e) hb⟩
 ·refine(F.hok b o e).stay (fun c u hc q=>kp c u q ?_ ?_) (fun _ q=>q) fun _ _ q=>q
  ·rintro rfl
   rcases hc with r|r
   ·rw[<-r,F.free]at e;cases e
   ·rw[F.free]at r;cases r
  ·intro hm
   rcases hc with r|r
   ·rw[<-r,ffs _ hm]at e;cases e
   ·rw[ffs _ hm]at r;cases r
 ·obtain⟨oe,vs,T',oT',ts,he,hc,hdc,hd,h0,h1,hn,hne,hT',hdT,h3⟩:=tr.ex
  have key:s'.heap.get? T'=none:=by
   cases q:s'.heap.get? T' with
   |none=>rfl
   |some o=>
    by_cases hf:T'∈frs l
    ·obtain⟨sl',e2⟩:=up T' o q (nf T' hf o q)
     rw[hT']at e2;cases e2
     exact(nf T' hf o q ts hdT).elim
    ·have:(fN s'.heap l a a).get? T'=some o:=PU _ q (by simp[hne,hf])
     rw[hn]at this;cases this
  refine⟨oe,vs,a0,T',oT',ts,he,hc,hdc,hd,h0,h1,hne,hT',hdT,h3,?_,?_⟩
  ·cases q:s.heap.get? T' with
   |none=>rfl
   |some o=>
    obtain⟨o',e⟩:=F.un.there T' o q (by simp)
    rw[key]at e;cases e
  ·cases q:H' T' with
   |none=>rfl
   |some o=>
    obtain⟨o1,e1⟩:=jy (F.hok T' o q)
    rw[key]at e1;cases e1
end
def eJ (CX:CXT)(X:Cx)(E:St->XK):Prop:=∀(pins:List (Addr×Obj))(σ:St)(H:Hp)(s:If)(e:tx)(s':If),Inv X pins σ H s->CX X.stack H s (E σ) e s'->X.xe e s'
def qI (X:Cx)(E:St->XK):Prop:=∀(pins:List (Addr×Obj))(σ:St)(H:Hp)(s:If)(C a:Addr)(d:Option Addr)(H2:Hp)(s2:If),Inv X pins σ H s->tV X.prog X.w X.stack H s (.ref C) a d H2 s2->E σ (.ref C) d H2->X.xe (.ref a) s2
theorem bn {P:LV}{w:Mx}{X:Cx}:eJ (CX1 P w) X (fun _=>E0):=fun pins σ H s e s' I ⟨_,_,_,_,_,_,h⟩=>h.elim
section
variable {P:LV}{w:Mx}{K:pv}{mg:Str->Option tx}{base:Heap}{N:List Str}{qual:Str}{scope:Scope}{f:Addr}{cd:tx}{A:Mq}{outer:List Env}{s:If}{H:Hp}{E:XK}
theorem fv:eJ (CX1 P w) (cM (CX1 P w) P w K mg base N qual scope f cd A outer s H E) (fun _=>E):=by
 intro pins σ H1 s1 e s' I hx
 obtain⟨a,C,d,H',rfl,F,hE⟩:=hx
 obtain⟨T,a0,hT0,hT1,f1,f2,f3,f4⟩:=F.flying I
 refine HT.rO (I.ok.frames) f3 rfl f4 f1 f2 fun h' n=>?_
 have F2:=F.moved (oT:={cls:=.none,data:=.dict #[]}) I.stack I.stkFree (F.inv I).stkFree hT0 hT1 n.st n.up n.tr
 exact⟨a,C,d,H',rfl,F2.up I rfl,hE⟩
theorem eN:qI (cM (CX1 P w) P w K mg base N qual scope f cd A outer s H E) (fun _=>E):=by
 intro pins σ H1 s1 C a d H2 s2 I F hE
 have I2:Inv (cM (CX1 P w) P w K mg base N qual scope f cd A outer s H E) pins σ H2 s2:=I.call' (ch:=[]) F.os F.un F.hok F.bare fun b z=>absurd z (by simp)
 obtain⟨oe,vs,a0,he,hc,hdc,hd,h0,h1⟩:=F.tr
 refine HT.qF I.ok.frames (jX (B':=fN s2.heap (cM (CX1 P w) P w K mg base N qual scope f cd A outer s H E).stack a a) (om F.un I.stack I.stkFree) fun b hb=>OS _ (Mc _ (Mc _ hb))) rfl he hc hdc (fun b o e=>SQ _ e) (OS _ (by simp)) hd h1 h0 fun h' n=>?_
 have F2:=F.moved I.stack I.stkFree I2.stkFree n.st n.up n.tr
 exact⟨a,C,d,H2,rfl,F2.up I rfl,hE⟩
theorem HE {X:Cx}{pins:List (Addr×Obj)}{σ:St}{H:Hp}{s:If}{C a:Addr}{h1:Heap}(I:Inv X pins σ H s)(hm:Heap.MadeExcOf s.heap h1 a (.ref C) []):tV X.prog X.w X.stack H s (.ref C) a none H {s with heap:=h1}:=by
 obtain⟨t,ht,_,_⟩:=hm.there
 refine⟨rfl,I.bare,Un.kept hm.keeps,I.hok.kept hm.keeps,hm.new,?_,⟨_,_,.ref t,ht,rfl,rfl,rfl,⟨rfl,rfl⟩,rfl⟩⟩
 cases q:H a with
 |none=>rfl
 |some o=>
  obtain⟨u,e'⟩:=jy (I.hok a o q)
  rw[hm.new]at e';cases e'
end
def aC (sp:Sp)(E:St->XK)(t:TA):TE:=fun σ H Q=>t σ H fun vs H1=>sp vs H1 Q (E σ)
section
variable {X:Cx}{CX:CXT}{k:Nat}{f:Addr}{fd:LI}{ps:List Str}{sp:Sp}{E:St->XK}{x:Str}{p pos:Pos}{e:Expr}{es:List Expr}{t:TA}
theorem kE {pins:List (Addr×Obj)}{σ:St}{H:Hp}{s:If}{Q:VK}{us:List tx}{vs:List V}(F:aQ X.prog X.w X.K X.mg X.base CX k f fd ps sp)(hr:bj k X.A)(hb:bv X.K fd ps [])(hx:eJ CX X E)
  (I:Inv X pins σ H s)(r:aY vs us)(h:sp vs H Q (E σ)):wpAny (model X.prog X.w) X.A (call (.ref f) us) (EP X pins σ Q) X.xe s:=by
 have hl:us.length=ps.length:=by rw[<-r.length];exact F.len _ _ _ _ h
 have hb':=hb s us I.kIn (by rw[MJ];exact hl)
 rw[MJ]at hb'
 refine QC (NY (F.run X.A X.stack s H ⟨us,[]⟩ us vs Q (E σ) hr I.env0 hb' r h) fun r s' hq=>?_)
 cases r with
 |error e=>exact hx pins σ H s e s' I hq
 |ok fl=>
  cases fl with
  |ret u=>exact I.after hq
  |next=>exact Mu hq
  |brk=>exact Mu hq
  |cont=>exact Mu hq
theorem iS (F:aQ X.prog X.w X.K X.mg X.base CX k f fd ps sp)(hr:bj k X.A)(hm:X.mg x=some (.ref f))(hk:Ov X.K (.ref f)=true)(hb:bv X.K fd ps [])(hx:eJ CX X E)
  (ha:QA X (e::es) t)(hg:Gl X x:=by rfl)(hdb:(x==("__debug__":Str))=false:=by decide)(hs:bo (e::es)=true:=by rfl):QE X (.Call (.Name x p) (e::es) [] pos) (aC sp E t):=by
 refine⟨fun pins s σ H Q I h=>?_⟩
 have h':(bR e&&bo es)=true:=hs
 refine MB (fY I hg hm ?_ hdb)
 refine Ro (h₀:=X.base) I.ok.mod.kin hk (thn (ha.out pos pins s σ H _ I h) fun us s1 ⟨vs,H1,I1,r,q⟩=>⟨I1.kIn,?_⟩) (aZ (Lv.mp h').1 es X.env) (bQ (Lv.mp h').2)
 exact kE F hr hb hx I1 r q
theorem qD (F:aQ X.prog X.w X.K X.mg X.base CX k f fd ps sp)(hr:bj k X.A)(hm:X.mg x=some (.ref f))(hk:Ov X.K (.ref f)=true)(hb:bv X.K fd ps [])(hx:eJ CX X E)
  (hg:Gl X x:=by rfl)(hdb:(x==("__debug__":Str))=false:=by decide):QE X (.Call (.Name x p) [] [] pos) (aC sp E am):=by
 refine⟨fun pins s σ H Q I h=>?_⟩
 refine MB (fY I hg hm ?_ hdb)
 exact So I.kIn hk (kE (us:=[]) F hr hb hx I .nil h)
def iL (C:Addr)(E:St->XK):TS:=fun _ σ H=>E σ (.ref C) none H
theorem iZ {C:Addr}{np cpos:Pos}(hC:cQ X.K C)(hm:X.mg x=some (.ref C))(hR:qI X E)(hc:X.calm=true:=by rfl)(hg:Gl X x:=by rfl)(hdb:(x==("__debug__":Str))=false:=by decide):
  QS X (.Raise (some (.Call (.Name x np) [] [] cpos)) none pos) (iL C E):=by
 refine⟨fun pins s σ H D I h=>?_⟩
 obtain⟨bm,N,nm,qn,bs,hdct,sn,sub,ab,col,dd,k0,k1,k2,k3,k5,mN,oC,hN,hni,T,_⟩:=fy I.kIn hC.ok
 refine wpAny_Raise_call_subU (C:=C) (nm:=nm) (q:=qn) (N:=N) (bs:=bs) (bm:=bm) (hdct:=hdct) (sn:=sn) (sub:=sub) (ab:=ab) (col:=col) (dd:=dd) (k0:=k0) (k1:=k1) (k2:=k2) (k3:=k3) (k5:=k5)
  Pd (by decide+kernel) Pd (mN:=mN) (T.hasType Pd.hasBase) (I.ok.hd hc) rfl (hni hC) (fY I hg hm ⟨rfl,?_⟩ hdb)
 exact evalArgs_empty ⟨rfl,Mj _,oC,hN,T,fun h' e hm'=>hR pins σ H s C e none H _ I (HE I hm') h⟩
end
theorem Fun.okX {P:LV}{w:Mx}{K:pv}{mg:Str->Option tx}{base:Heap}{x qual:Str}{st:Stmt}{f:Addr}{fd:LI}{N ps:List Str}{k:Nat}{sp:Sp}(F:Fun K x qual st f fd)(S:aF N ps (au st))(len:∀vs H Q E,sp vs H Q E->vs.length=ps.length)
  (hbody:∀(cdv:tx)(A:Mq)(outer:List Env)(s:If)(H:Hp)(vs:List V)(Q:VK)(E:XK),bj k (A.deeper (envOfC qual (au st) s.heap.objs.size f cdv))->sp vs H Q E->
   ∃t,PSs (cM (CX1 P w) P w K mg base N qual (au st) f cdv A outer s H E) (aS st) t/\t {nx:=fun _ H'=>Q .non H',rt:=Q} (start N vs) H):aQ P w K mg base (CX1 P w) (k+1) f fd ps sp:=by
 obtain⟨oc,od,kV,doc,pm,an,cdv,ct,osl,rfl,lk,hcd⟩:=F.ex
 exact zv lk hcd S len fun A outer s H vs Q E hr hsp=>hbody cdv A outer s H vs Q E hr hsp
def lw (C:Addr)(d:Option Addr)(a:Addr):HO:=.ext fun h=>∃o vs,h.get? a=some o/\o.cls=.ref C/\o.dict=d/\o.data=.fields vs/\vs[2]?=some .none
theorem AG {P:LV}{w:Mx}{H:Hp}{h:Heap}{C a:Addr}{d:Option Addr}{o:Obj}{vs:Array tx}(e:h.get? a=some o)(hc:o.cls=.ref C)(hdc:o.dict=d)(hd:o.data=.fields vs)(h2:vs[2]?=some .none):bg P w H h a (lw C d a):=
 ⟨⟨o,vs,e,hc,hdc,hd,h2⟩,⟨o,e⟩,fun _ _ ⟨o1,vs1,e1,c1,x1,d1,y1⟩ k=>⟨o1,vs1,k o1 e1,c1,x1,d1,y1⟩⟩
theorem Ap {P:LV}{w:Mx}{H:Hp}{h:Heap}{C a:Addr}{d:Option Addr}(x:bg P w H h a (lw C d a)):∃o vs,h.get? a=some o/\o.cls=.ref C/\o.dict=d/\o.data=.fields vs/\vs[2]?=some .none:=x.1
section
variable {X:Cx}{pins:List (Addr×Obj)}{σ:St}{H H1 H':Hp}{s s0:If}{a:Addr}{o:HO}
theorem Inv.track (I0:Inv X pins σ H1 s0)(hex:X.ex=[])(I:Inv X pins σ H s)(new:s0.heap.get? a=none)(hn:H a=none)(ok:bg X.prog X.w (upd H a o) s.heap a o):Inv X pins σ (upd H a o) s:=by
 have ne:∀b u,s0.heap.get? b=some u->b≠a:=fun b u e z=>by rw[z,new]at e;cases e
 have ne0:∀b u,X.s₀.heap.get? b=some u->b≠a:=fun b u e=>by
  obtain⟨u',e'⟩:=I0.base.there b u e (by rw[hex];simp)
  exact ne b u' e'
 have nL:X.env.locals≠a:=by
  obtain⟨m,⟨o',_,_,e,_⟩,_⟩:=I0.loc
  exact ne _ _ e
 refine⟨I.ok,I.os,I.bare,⟨I.base.keep,I.base.slot,fun b u e n hx=>?_,I.base.there,fun b xs e=>?_,fun b u v e=>?_,fun b ps e=>?_⟩,I.loc,I.cell,?_,fun x c e=>?_,fun p hp=>?_,fun b u e=>?_,I.len⟩
 ·rw[ao (ne0 b u e)];exact I.base.free b u e n hx
 ·have:=I.base.tups b xs e
  rw[ao (ax this hn)];exact this
 ·have:=I.base.frzs b u v e
  rw[ao (ax this hn)];exact this
 ·obtain⟨more,this⟩:=I.base.tbls b ps e
  exact⟨more,by rw[ao (ax this hn)];exact this⟩
 ·rw[ao nL];exact I.free
 ·obtain⟨v,o',e',_⟩:=I0.cell x c e
  rw[ao (ne _ _ e')];exact I.freeC x c e
 ·obtain⟨h1,h2,h3⟩:=I.pin p hp
  exact⟨h1,by rw[ao (ne _ _ (I0.pin p hp).1)];exact h2,h3⟩
 ·by_cases hb:b=a
  ·subst hb
   rw[ak]at e;cases e
   exact ok
  ·rw[ao hb]at e
   exact(I.hok b u e).stay (fun c v _ q=>q) (fun c q=>by
    have:c≠a:=ax q hn
    rw[ao this];exact q) fun c xs q=>by
    have:c≠a:=ax q hn
    rw[ao this];exact q
end
def cxH (X:Cx)(a:Addr):Cx:={X with A:=X.A.mark (some (.ref a)),calm:=false,xe:=fun _ _=>False}
section
variable {X:Cx}{pins:List (Addr×Obj)}{σ:St}{H:Hp}{s:If}{a:Addr}
theorem Cx.Ok.toH (ok:X.Ok):(cxH X a).Ok:=⟨ok.mod,ok.kind,ok.glob,ok.blt,ok.above,ok.inj,ok.has,ok.cab,fun h=>absurd (show false=true from h) LQ,ok.frames,ok.stk,ok.exf,ok.bs,ok.bsz,ok.noex,ok.exfs,ok.funs,ok.frf⟩
theorem Inv.toH (I:Inv X pins σ H s):Inv (cxH X a) pins σ H s:=⟨I.ok.toH,I.os,I.bare,I.base,I.loc,I.cell,I.free,I.freeC,I.pin,I.hok,I.len⟩
theorem Inv.ofH (ok:X.Ok)(I:Inv (cxH X a) pins σ H s):Inv X pins σ H s:=⟨ok,I.os,I.bare,I.base,I.loc,I.cell,I.free,I.freeC,I.pin,I.hok,I.len⟩
theorem SP.ofH {D:eF}{f:Flow}(ok:X.Ok)(h:SP (cxH X a) pins D f s):SP X pins D f s:=by
 cases f with
 |next=>obtain⟨σ',H',J,q⟩:=h;exact⟨σ',H',J.ofH ok,q⟩
 |brk=>obtain⟨σ',H',J,q⟩:=h;exact⟨σ',H',J.ofH ok,q⟩
 |cont=>obtain⟨σ',H',J,q⟩:=h;exact⟨σ',H',J.ofH ok,q⟩
 |ret u=>obtain⟨v,σ',H',J,r,q⟩:=h;exact⟨v,σ',H',J.ofH ok,r,q⟩
end
abbrev TH:=eF->St->Addr->Option Addr->Hp->Prop
def PH (X:Cx)(hs:List Qa)(t:TH):Prop:=∀(pins:List (Addr×Obj))(s0:If)(σ:St)(H1 H':Hp)(C a:Addr)(d:Option Addr)(s3:If)(D:eF),X.stack=X.env::X.outer->X.env.frame=some X.env.locals->X.ex=[]->
 Inv X pins σ H1 s0->Fly X.prog X.w X.stack H1 s0 (.ref C) .none a d H' s3->cb X.K C->t D σ C d H'->wpAny (model X.prog X.w) X.A (handleBy (.ref a) X.env hs) (SP X pins D) X.xe s3
structure QH (X:Cx)(hs:List Qa)(t:TH):Prop where
 out:PH X hs t
def zP:TH:=fun _ _ _ _ _=>False
def vg (i:Nat)(D:eF):eF:=⟨fun σ H=>D.nx (σ.set i none) H,D.rt,fun σ H=>D.bk (σ.set i none) H,fun σ H=>D.ct (σ.set i none) H⟩
def hAs (K:pv)(Dc:Addr)(i:Nat)(ts:TS)(r:TH):TH:=fun D σ C d H=>∃b,eG K C Dc=some b/\Sel b (∀a,H a=none->ts (vg i D) (σ.set i (some (.ref a))) (upd H a (lw C d a))) (r D σ C d H)
section
variable {X:Cx}
theorem Ex:QH X [] zP:=⟨fun _ _ _ _ _ _ _ _ _ _ _ _ _ _ _ _ h=>h.elim⟩
theorem wG {pins:List (Addr×Obj)}{σ:St}{H H':Hp}{s s':If}{cls:tx}{a:Addr}{d:Option Addr}{M:TB}{A:Mq}{E:tx->If->Prop}{Q:Unit->If->Prop}(I:Inv X pins σ H s)(F:Fly X.prog X.w X.stack H s cls .none a d H' s')
  (hQ:∀s'',Fly X.prog X.w X.stack H s cls .none a d H' s''->Q () s''):wpAny M A (setFlight (.ref a) none) Q E s':=by
 obtain⟨T,a0,hT0,hT1,f1,f2,f3,f4⟩:=F.flying I
 refine HT.kC f1 f3 f4 fun h' n=>?_
 exact hQ _ (F.moved (oT:={cls:=.none,data:=.dict #[]}) I.stack I.stkFree (F.inv I).stkFree hT0 hT1 n.st n.up n.tr)
variable {x n:Str}{np hp:Pos}{Dc:Addr}{b0:Stmt}{suite:List Stmt}{bV:List Qa}{ts:TS}{r:TH}{i:Nat}
theorem xw {A:Mq}{E:tx->If->Prop}{pins:List (Addr×Obj)}{s:If}{σ:St}{H:Hp}{u:tx}{pos:Pos}{Q:tx->If->Prop}(I:Inv X pins σ H s)(hg:Gl X x)(hm:X.mg x=some u)(h:Q u s)
  (hd:(x==("__debug__":Str))=false:=by decide):wpAny (model X.prog X.w) A (eval (.Name x pos) X.env) Q E s:=
 Pf I.ok.kind hg (RJ (by rw[I.ok.glob];exact I.mod.glob.keeps I.bk) hm h) hd
theorem Hg (i:Nat)(hN:X.N.Nodup)(hD:cb X.K Dc)(hm:X.mg x=some (.ref Dc))(hs:∀a,QSs (cxH X a) (b0::suite) ts)(hr:QH X bV r)(hg:Gl X x:=by rfl)(hdb:(x==("__debug__":Str))=false:=by decide)
  (hi:X.N[i]? =some n:=by rfl)(hl:X.env.scope.names.lookup n=some .local:=by rfl):
  QH X (.ExceptHandler (some (.Name x np)) (some n) (b0::suite) hp::bV) (hAs X.K Dc i ts r):=by
 refine⟨fun pins s0 σ H1 H' C a d s3 D e1 e2 hex I F hC h=>?_⟩
 obtain⟨b,hb,q⟩:=h
 have I3:=F.inv I
 obtain⟨oe,vs,_,_,_,_,he,hc,hdc,hd,_⟩:=F.tr
 refine wpAny_handleBy_cons (codeAny_handlers_test (xw I3 hg hm ?_ hdb)) (by intro q;cases q)
 refine nG I3.kIn hC hD he hc hb ?_
 have q:=eA q
 cases b with
 |false=>exact hr.out pins s0 σ H1 H' C a d s3 D e1 e2 hex I F hC q
 |true=>
  refine codeAny_handlers_suite_as (wG I F fun s4 F4=>?_)
  have I4:=F4.inv I
  obtain⟨oe4,vs4,_,_,_,_,he4,hc4,hdc4,hd4,h04,_⟩:=F4.tr
  have I5:Inv X pins σ (upd H' a (lw C d a)) s4:=Inv.track I hex I4 F.new F.free (AG he4 hc4 hdc4 hd4 h04.b)
  have hcls:(X.env.scope.kind== .class||(X.env.scope.kind== .module&&X.env.locals !=X.env.globals))=false:=by rw[I.ok.kind];rfl
  refine fW (v:=.ref a) I5 hN hi (.inl hl) rfl (fun s6 I6=>?_) (.inr hl)
  refine Ma ((hs a).out pins s6 _ _ (vg i D) I6.toH (q a F.free)) (fun f s7 h7=>?_) fun _ _ z=>z.elim
  have h7:=SP.ofH I.ok h7
  have go:∀{σ':St}{H'':Hp}{Q:Unit->If->Prop},Inv X pins σ' H'' s7->(∀s8,Inv X pins (σ'.set i none) H'' s8->Q () s8)->wpAny (model X.prog X.w) X.A (do bindName X.env n .none;unbindBehindTheSuite X.env n hp) Q X.xe s7:=fun{σ' H'' Q} J hQ=>by
   obtain⟨m,hn,hloc⟩:=id J.loc
   refine wpAny_nameGoes_keeps hl hn hcls fun h' v hn' hs'=>hQ _ ?_
   obtain⟨oL,_,_,hoL,_⟩:=id hn
   refine⟨J.ok,J.os,J.bare,⟨fun b o e n hb hx=>?_,fun b o e n hb hx=>?_,J.base.free,fun b o e hx=>?_,J.base.tups,J.base.frzs,J.base.tbls⟩,⟨_,hn',fun j y v' e1 e2 e3=>?_⟩,fun y c e=>?_,J.free,J.freeC,fun p hp=>?_,fun b ob e=>?_,by simpa using J.len⟩
   ·exact(hs'.2 b (LH (LN (Lt e) J.ok.above))).trans (J.base.keep b o e n hb hx)
   ·obtain⟨sl,e1⟩:=J.base.slot b o e n hb hx
    exact⟨sl,(hs'.2 b (LH (LN (Lt e) J.ok.above))).trans e1⟩
   ·obtain⟨o',e1⟩:=J.base.there b o e hx
    exact⟨o',(hs'.2 b (LH (LN (Lt e) J.ok.above))).trans e1⟩
   ·have hji:j≠i:=by
     rintro rfl
     have:j<σ'.length:=by rw[J.len];exact(Lq.mp hi).1
     rw[PL this]at e2;cases e2
    rw[Qi (Mh hji)]at e2
    obtain⟨u,ru,lk⟩:=hloc j y v' e1 e2 e3
    refine⟨u,ru,?_⟩
    rcases lk with⟨k,e⟩|⟨k,c,e,z⟩
    ·refine .inl ⟨k,?_⟩
     have:y≠n:=fun e=>hji (lq hN e1 (e▸hi))
     simp[this,e]
    ·exact .inr ⟨k,c,e,z.sameBut hs' (J.cne y c e)⟩
   ·obtain⟨w',z⟩:=J.cell y c e
    exact⟨w',z.sameBut hs' (J.cne y c e)⟩
   ·obtain⟨e,n,ne,nf,d⟩:=J.pin p hp
    exact⟨(hs'.2 p.1 ne).trans e,n,ne,nf,d⟩
   ·refine(J.hok b ob e).stay (fun c w' hc q=>(hs'.2 c ?_).trans q) (fun _ q=>q) fun _ _ q=>q
    rintro rfl
    rcases hc with r|hc
    ·rw[<-r,J.free]at e;cases e
    ·rw[J.free]at hc;cases hc
  cases f with
  |next=>obtain⟨σ',H'',J,q'⟩:=h7;exact go J fun s8 J8=>⟨_,_,J8,q'⟩
  |brk=>obtain⟨σ',H'',J,q'⟩:=h7;exact go J fun s8 J8=>⟨_,_,J8,q'⟩
  |cont=>obtain⟨σ',H'',J,q'⟩:=h7;exact go J fun s8 J8=>⟨_,_,J8,q'⟩
  |ret u=>obtain⟨v,σ',H'',J,rv,q'⟩:=h7;exact go J fun s8 J8=>⟨v,_,_,J8,rv,q'⟩
end
def CP (K:pv)(tb:(St->XK)->TS)(th:TH)(te:TS):TS:=fun D σ H=>
 tb (fun σ' cls d H'=>∃C,cls=.ref C/\cb K C/\th D σ' C d H') {D with nx:=te D} σ H
abbrev cxT (X:Cx)(pn:List (Addr×Obj))(E':tx->If->Prop):Cx:={X with pn:=pn,xe:=E'}
section
variable {X:Cx}{pins pn:List (Addr×Obj)}{σ:St}{H:Hp}{s:If}{E':tx->If->Prop}
theorem Cx.Ok.toT (ok:X.Ok):(cxT X pn E').Ok:=⟨ok.mod,ok.kind,ok.glob,ok.blt,ok.above,ok.inj,ok.has,ok.cab,ok.hd,ok.frames,ok.stk,ok.exf,ok.bs,ok.bsz,ok.noex,ok.exfs,ok.funs,ok.frf⟩
theorem Inv.toT (I:Inv X pins σ H s):Inv (cxT X (X.pn++pins) E') [] σ H s:=⟨I.ok.toT,I.os,I.bare,I.base,I.loc,I.cell,I.free,I.freeC,fun p hp=>I.pin p (by
 have hp:p∈(X.pn++pins)++[]:=hp
 rwa [MJ]at hp),I.hok,I.len⟩
theorem Inv.ofT {pins':List (Addr×Obj)}(ok:X.Ok)(I:Inv (cxT X (X.pn++pins) E') pins' σ H s):Inv X pins σ H s:=⟨ok,I.os,I.bare,I.base,I.loc,I.cell,I.free,I.freeC,fun p hp=>I.pin p (OV _ hp),I.hok,I.len⟩
theorem Fx {body orelse:List Stmt}{h0:Qa}{hs:List Qa}{pos:Pos}{tb:(St->XK)->TS}{te:TS}{th:TH}
  (hb:∀(pn':List (Addr×Obj))(E':tx->If->Prop)(EH:St->XK),eJ (CX1 X.prog X.w) (cxT X pn' E') EH->QSs (cxT X pn' E') body (tb EH))(hh:QH X (h0::hs) th)(he:QSs X orelse te)
  (e1:X.stack=X.env::X.outer:=by rfl)(e2:X.env.frame=some X.env.locals:=by rfl)(hex:X.ex=[]:=by rfl):QS X (.Try body (h0::hs) orelse [] pos) (CP X.K tb th te):=by
 refine⟨fun pins s σ H D I h=>?_⟩
 let E':tx->If->Prop:=fun e s1=>∃σ1 H1 s0 C a d H',e=.ref a/\Inv X pins σ1 H1 s0/\Fly X.prog X.w X.stack H1 s0 (.ref C) .none a d H' s1/\cb X.K C/\th D σ1 C d H'
 have pass:eJ (CX1 X.prog X.w) (cxT X (X.pn++pins) E') (fun σ' cls d H'=>∃C,cls=.ref C/\cb X.K C/\th D σ' C d H'):=by
  intro pins' σ1 H1 s0 e s1 I1 hx
  obtain⟨a,C,d,H',rfl,F,C',ec,hC,ht⟩:=hx
  cases ec
  exact⟨σ1,H1,s0,C,a,d,H',rfl,I1.ofT I.ok,F,hC,ht⟩
 refine wpAny_Try_except (Ma ((hb (X.pn++pins) E' _ pass).out [] s σ H _ I.toT h) (fun f s1 h1=>?_) fun e s1 h1=>?_)
 ·cases f with
  |next=>
   obtain⟨σ',H',J,q⟩:=h1
   exact he.out pins s1 σ' H' D (J.ofT I.ok) q
  |brk=>obtain⟨σ',H',J,q⟩:=h1;exact⟨σ',H',J.ofT I.ok,q⟩
  |cont=>obtain⟨σ',H',J,q⟩:=h1;exact⟨σ',H',J.ofT I.ok,q⟩
  |ret u=>obtain⟨v,σ',H',J,rv,q⟩:=h1;exact⟨v,σ',H',J.ofT I.ok,rv,q⟩
 ·obtain⟨σ1,H1,s0,C,a,d,H',rfl,I1,F,hC,ht⟩:=h1
  obtain⟨T,a0,hT0,hT1,f1,f2,f3,f4⟩:=F.flying I1
  have hfr:=I1.ok.frames
  rw[e1]at hfr
  have f3':=f3
  rw[e1]at f3'
  have f1':=f1
  have f2':=f2
  have f4':=f4
  rw[e1]at f1' f2' f4'
  refine HT.mC hfr f3' e2 f4' f1' f2' fun h' n1=>?_
  refine HT.kC (s:={s1 with heap:=h'}) n1.st n1.fr n1.tr fun h'' n2=>?_
  have st:(fN s1.heap X.stack a T).StaysIn h'':=by rw[e1];exact n2.st
  have tr:HT.TrD h'' (fN s1.heap X.stack a T) a (.ref C) a0 d .none:=by rw[e1];exact n2.tr
  have F3:=F.moved (oT:={cls:=.none,data:=.dict #[]}) I1.stack I1.stkFree (F.inv I1).stkFree hT0 hT1 st (n1.up.trans n2.up) tr
  exact hh.out pins s0 σ1 H1 H' C a d _ D e1 e2 hex I1 F3 hC ht
end
structure cK (K:pv)(C:Addr):Prop where
 ga:LP K (.ref C) "__getattribute__"=some (some (.builtin "BaseException.__getattribute__"))
 na:LP K (.ref C) "__getattr__"=some none
 cl:LP K (.ref C) "__class__"=some (some (.builtin "object.__class__"))
 mo:Nt K C (.type "object")=some true
 mb:Nt K C (.type "BaseException")=some true
section
variable {K:pv}{prog:LV}{w:Mx}{A:Mq}{E:tx->If->Prop}{h:Heap}{g:Array QK}{d:Drawn}{t:Nat}{os:OsState}{a C:Addr}{o:Obj}
theorem As {M:TB}(hx:h.get? a=some o)(hc:o.cls=.ref C):W.Looks M h (typeOf (.ref a)) (.ref C):=hc▸(W.Looks.ld hx).andThen .now
theorem DW {R:Qg->If->Prop}(X:K.In h)(G:cK K C)(hx:h.get? a=some o)(hc:o.cls=.ref C)(hq:R (.ok (.ret (.ref C))) ⟨h,g,d,t,os⟩):
  codeAny (model prog w) A (.call (.builtin "getset_descriptor.__get__") ⟨[.builtin "object.__class__",.ref a,.ref C],[]⟩) R ⟨h,g,d,t,os⟩:=by
 have hT5:(⟨h,g,d,t,os⟩:If).TypeIs (.builtin "object.__class__") "getset_descriptor":=Qk
 have f8:=W.looks_mroIn (M:=model prog w) X G.mo
 have hcB:(".".intercalate ("object.__class__".cutAt '.').dropLast)="object":=F.owner_object_class
 refine QR Sw.plain F.entry_gs_get (Sw.check _ _ _ _ _ _ _ _ hT5 (F.args_gs_get _ _ _) ?_)
 repeat (any_goals (first|assumption|(with_reducible refine MH hx ?_;rw[hc])|(rw[hcB];with_reducible refine f8.at ?_)|wp_step))
 refine⟨QL _ (by decide+kernel),RW F.entry_object_class ?_⟩
 repeat (any_goals (first|assumption|(with_reducible refine MH hx ?_;rw[hc])|wp_step))
theorem xR {tk:Tok}{Q:Fin->If->Prop}(X:K.In h)(G:cK K C)(hx:h.get? a=some o)(hc:o.cls=.ref C)(hq:Q (.done (.ret (.ref C))) ⟨h,g,d,t,os⟩):
  wpAny (model prog w) A (ON.«object.__getattribute__» ⟨[.ref a,.str "__class__" tk],[]⟩) Q E ⟨h,g,d,t,os⟩:=by
 have hT5:(⟨h,g,d,t,os⟩:If).TypeIs (.builtin "object.__class__") "getset_descriptor":=Qk
 have f4:=QF (M:=model prog w) X G.cl
 have f5:=Qk
 have f6:=Sw.lookup
 have f7:=F.slot_gs_set.lookup
 repeat (any_goals (first|assumption|(with_reducible refine MH hx ?_;rw[hc])|with_reducible refine f4.at ?_ |wp_step))
 refine DW X G hx hc ?_
 repeat (any_goals (first|assumption|wp_step))
theorem zi {M:TB}{nameV:tx}{Q:Unit->If->Prop}(X:K.In h)(G:cK K C)(hx:h.get? a=some o)(hc:o.cls=.ref C)(hq:Q () ⟨h,g,d,t,os⟩):wpAny M A (checkBuiltinCall "BaseException.__getattribute__" ⟨[.ref a,nameV],[]⟩) Q E ⟨h,g,d,t,os⟩:=by
 have hk:builtinKind "BaseException.__getattribute__"=some .slot:=by decide+kernel
 have hsplit:splitId "BaseException.__getattribute__"=some ("BaseException","__getattribute__"):=by decide+kernel
 have f8:=W.looks_mroIn (M:=M) X G.mb
 have ha:=F.args_bexc_ga (.ref a) nameV
 simp only[checkBuiltinCall,hk,hsplit]
 refine ah ?_
 ·unfold isInstance
  repeat (first|(with_reducible refine MH hx ?_;rw[hc])|with_reducible refine f8.at ?_ |wp_step)
  exact hq
theorem AU {tk:Tok}{R:Qg->If->Prop}(X:K.In h)(G:cK K C)(hx:h.get? a=some o)(hc:o.cls=.ref C)(hq:R (.ok (.ret (.ref C))) ⟨h,g,d,t,os⟩):
  codeAny (model prog w) A (.call (.builtin "BaseException.__getattribute__") ⟨[.ref a,.str "__class__" tk],[]⟩) R ⟨h,g,d,t,os⟩:=
 QR Tc.ga.plain F.entry_bexc_ga (zi X G hx hc (xR X G hx hc hq))
theorem IY {tk:Tok}{Q:tx->If->Prop}(X:K.In h)(G:cK K C)(hx:h.get? a=some o)(hc:o.cls=.ref C)(hq:Q (.ref C) ⟨h,g,d,t,os⟩):
  wpAny (model prog w) A (getAttrBy (.ref a) (.str "__class__" tk) false) Q E ⟨h,g,d,t,os⟩:=by
 have f3:=Tc.ga.bind (.ref a)
 have f1:=QF (M:=model prog w) X G.ga
 have f2:=QF (M:=model prog w) X G.na
 have hx2:(Qw "BaseException.__getattribute__"==Qw "object.__getattribute__")=false:=by decide+kernel
 have hx1:(onTheHeap (LF C)&&Qw "BaseException.__getattribute__"==Qw "object.__getattribute__")=false:=by rw[hx2];rfl
 repeat (any_goals (first|assumption|(with_reducible refine MH hx ?_;rw[hc])|with_reducible refine f1.at ?_ |with_reducible refine f2.at ?_ |wp_step))
 refine AU X G hx hc ?_
 repeat (any_goals (first|assumption|wp_step))
theorem AM {Q:Option tx->If->Prop}(X:K.In h)(G:cK K C)(hx:h.get? a=some o)(hc:o.cls=.ref C)(hq:Q (some (.ref C)) ⟨h,g,d,t+1,os⟩):
  wpAny (model prog w) A (getAttr? (.ref a) "__class__") Q E ⟨h,g,d,t,os⟩:=by
 unfold getAttr? getAttrBy?
 repeat (any_goals (first|assumption|with_reducible apply IY X G hx hc|wp_step))
theorem CO {a C:Addr}(hC:cb K C)(G:cK K C):W.KitX K (.ref a) (.ref C) (fun h=>∃o,h.get? a=some o/\o.cls=.ref C)where
 ty:=fun M h X ⟨o,hx,hc⟩=>As hx hc
 it:=fun M h X _=>by
  obtain⟨bm,N,nm,qn,bs,hdct,sn,sub,ab,col,dd,k0,k1,k2,k3,k5,mN,oC,_⟩:=fy X hC
  intro A' Q' E' s' k q
  unfold isType loadHead
  exact ah (QY (k _ _ oC) (Lo q))
 ne:=fun h tp dd its n sl X htp=>by
  obtain⟨bm,N,nm,qn,bs,hdct,sn,sub,ab,col,dd,k0,k1,k2,k3,k5,mN,oC,_⟩:=fy X hC
  refine Bool.eq_false_iff.mpr fun q=>?_
  have e:C=tp:=Value.ref.inj (beq_iff_eq.mp q)
  subst e
  rw[oC]at htp
  have z:OX "type"=OX "tuple":=congrArg Obj.cls (LR htp)
  exact absurd z (by decide)
 ca:=fun{prog w A E Q s} X ⟨o,hx,hc⟩ k=>by
  obtain⟨h,g,d,t,os⟩:=s
  exact AM X G hx hc k
end
section
variable {X:Cx}
def Aa (K:pv):List V->Hp->VK->Prop:=fun xs H Q=>∃a C dd b c cv,xs=[.ref a,c]/\H a=some (lw C dd a)/\cb K C/\cK K C/\aX c cv/\(∀u,aX c u->u=cv)/\NI K (.ref C) cv=some b/\Q (.bl b) H
theorem HJ:bZ X (.builtin "isinstance") (Aa X.K):=fun pins s σ H xs us Q I r h=>by
 obtain⟨a,C,dd,b,c,cv,rfl,ha,hC,G,rc,un,hk,q⟩:=h
 obtain⟨u,w',rfl,r1,r2⟩:=mM r
 cases un _ r2
 cases (show u=LF a from r1)
 obtain⟨o,vs,ho,hc,_,_⟩:=Ap (P:=X.prog) (w:=X.w) (I.hok a _ ha)
 exact Ot (CO hC G) I.kIn ⟨o,ho,hc⟩ hk (fun z=>nomatch z) fun tk=>⟨.bl _,H,I.tok tk,rfl,q⟩
end
end L2
namespace HT
open PySem PyProof.Rows
section
variable {prog:LV}{w:Mx}{A:Mq}{E:tx->If->Prop}{s:If}
theorem jG {t sl:Addr}{items:Array tx}{vl vu:tx}{lo hi:Option Int}{Q:tx->If->Prop}(ht:RZ s.heap t items)(hs:s.heap.IsSliceOf sl vl vu .none)(pl:RA vl lo)(pu:RA vu hi)
  (hw:sIx items.size 0 lo=0/\sIx items.size items.size hi=items.size)(h:Q (.ref t) s):wpAny (model prog w) A (getItem (.ref t) (.ref sl)) Q E s:=by
 obtain⟨os,hos,hcs,hds⟩:=id hs
 have hTs:s.TypeIs (.ref sl) "slice":=⟨os,hos,hcs⟩
 unfold getItem
 try with_reducible refine Ni ?_
 first|refine ah (Lo ?_)|skip
 refine ah (UF ht.typeIs (by decide) ?_)
 refine ah (MG (name:=MU "__getitem__") ht.typeIs MI
  (ML MI ht.typeIs Up ?_ (Uy _ _)))
 show wpAny _ _ (Qo (.ref t)>>=_) _ _ s
 refine ah (tupleItemsOf_ ht ?_)
 refine ah (Qs hTs ?_)
 rw[if_pos (by decide)]
 refine ah (gU hs pl pu ?_)
 have hyes:(((sIx items.size 0 lo:Nat):Int)==0&&(1:Int)==1&&(sIx items.size items.size hi- sIx items.size 0 lo)==items.size)=true:=by
  rw[hw.1,hw.2];simp
 show wpAny _ _ (if (((sIx items.size 0 lo:Nat):Int)==0&&(1:Int)==1&&(sIx items.size items.size hi- sIx items.size 0 lo)==items.size)=true then _ else _) _ _ s
 rw[if_pos hyes]
 have hte:s.TypeIs (.ref t) "tuple":=ht.typeIs
 unfold Vb
 repeat (first|exact⟨_,rfl,Lo h⟩|(with_reducible refine Qs hte ?_)|wp_step)
end
section
variable {prog:LV}{w:Mx}{A:Mq}{E:tx->If->Prop}{s:If}
theorem xB {t b:Addr}{ws:List tx}{Q:tx->If->Prop}(ht:RZ s.heap t #[])(hb:RZ s.heap b ws.toArray)(h1:Q (.ref b) s):wpAny (model prog w) A (binaryOp .Add (.ref t) (.ref b)) Q E s:=by
 obtain⟨⟨cls,dd,data,sl⟩,ho,hc,n,hd⟩:=id ht
 obtain⟨⟨cls2,dd2,data2,sl2⟩,ho2,hc2,n2,hd2⟩:=id hb
 simp only at hc hd hc2 hd2
 subst hc hd hc2 hd2
 exact Tq ⟨_,ho,rfl⟩ ⟨_,ho2,rfl⟩ RH SN Pw Pu (Pm _ _)
  (tuple_addW0 t b #[] ws.toArray n n2 dd dd2 sl sl2 (by simp)) ⟨ho,ho2,h1⟩
end
end HT
namespace L2
open PySem PySem.Spec PyProof.Rows
theorem aw.rfl' {H:Hp}:aw H H:=fun _ _ e=>e
theorem tB {xs:List V}{lo hi:Option Int}(h:HT.sIx xs.length 0 lo=0/\HT.sIx xs.length xs.length hi=xs.length):eU xs lo hi=xs:=by
 unfold eU
 rw[h.1,h.2,Qm,Qc,NW]
section
variable {X:Cx}
def zp:V->Option Int->Option Int->Hp->VK->Prop:=fun x lo hi H Q=>∃a xs,x=.ref a/\H a=some (.tup xs)/\∀p H',aw H H'->H' p=some (.tup (eU xs lo hi))->Q (.ref p) H'
theorem AV:SlR X zp:=by
 intro pins s σ H x v vl vu lo hi sl Q I rx hs pl pu h
 obtain⟨a,xs,rfl,hx,q⟩:=h
 have hq:SqT X.K H a xs:=.inl (.inl hx)
 by_cases hw:HT.sIx xs.length 0 lo=0/\HT.sIx xs.length xs.length hi=xs.length
 ·cases rx
  obtain⟨its,r,ht,hz⟩:=I.tuple hq
  have hlen:its.toArray.size=xs.length:=by rw[Lw];exact r.length.symm
  refine⟨"tuple",_,MI.lookup,ht.typeIs,?_⟩
  refine HT.jG ht hs pl pu (by rw[hlen];exact hw) ?_
  exact⟨.ref a,H,I,rfl,q a H aw.rfl' (by rw[tB hw];exact hx)⟩
 ·exact EK pins s σ H _ v vl vu lo hi sl Q I rx hs pl pu ⟨a,xs,rfl,hq,hw,fun p hp=>q p _ (aw.upd hp) (ak ..)⟩
def zI:R2:=fun x y H Q=>∃a b xs ys,x=.ref a/\y=.ref b/\H a=some (.tup xs)/\H b=some (.tup ys)/\xs.length+ys.length<=sizeLine/\∀p H',aw H H'->H' p=some (.tup (xs++ys))->Q (.ref p) H'
theorem Bn:OpR X (binaryOp .Add) zI:=by
 intro pins s σ H x y v u Q I rx ry h
 obtain⟨a,b,xs,ys,rfl,rfl,ha,hb,hz,q⟩:=h
 by_cases hx:xs=[]
 ·subst hx
  cases rx
  cases ry
  obtain⟨its,r1,p1,_⟩:=I.tuple (.inl (.inl ha))
  obtain⟨its2,r2,p2,_⟩:=I.tuple (.inl (.inl hb))
  cases r1
  exact HT.xB p1 p2 ⟨.ref b,H,I,rfl,q b H aw.rfl' hb⟩
 ·refine AC pins s σ H _ _ v u Q I rx ry ⟨a,b,xs,ys,rfl,rfl,.inl (.inl ha),.inl (.inl hb),hx,hz,fun e=>?_,fun _ p hp=>q p _ (aw.upd hp) (ak ..)⟩
  subst e
  exact q a H aw.rfl' (by rw[MJ];exact ha)
def bu (K:pv):R2:=fun x y H Q=>match x,y with
 |.int i,.int j=>Q (.int (i+j)) H
 |.str i,.str j=>i.length+j.length<=sizeLine/\Q (.str (i++j)) H
 |.ref a,.ref b=>Ff (.ref a) (.ref b) H Q\/zI (.ref a) (.ref b) H Q
 |_,_=>False
theorem bT:OpR X (binaryOp .Add) (bu X.K):=(CN.or (sY.or (Dq.or Bn))).imp fun x y H Q q=>by
 unfold bu at q
 split at q
 ·exact .inl ⟨_,_,rfl,rfl,q⟩
 ·exact .inr (.inl ⟨_,_,rfl,rfl,q.1,q.2⟩)
 ·exact .inr (.inr q)
 ·exact q.elim
def DX (K:pv):V->Option Int->Option Int->Hp->VK->Prop:=fun x lo hi H Q=>DH K x lo hi H Q\/zp x lo hi H Q
theorem Dk:SlR X (DX X.K):=Bv.or AV
def uu (t:TE):TE:=fun σ H Q=>t σ H fun x H'=>match x with
 |.int i=>i.natAbs.log2<1920/\Q (.str (toString i)) H'
 |.str z=>z.length<=sizeLine/\Q (.str z) H'
 |_=>False
theorem uE {e:Expr}{te:TE}{pos:Pos}(h:QE X e te):QE X (.FormattedValue e (-1) none pos) (uu te):=⟨fun pins s σ H Q I q=>by
 refine FormattedValue_plain (thn (h.out pins s σ H _ I q) fun v s1 ⟨x,H1,I1,r1,q1⟩=>?_)
 cases x<;>first|exact q1.elim|skip
 ·rename_i i
  obtain⟨t,rfl⟩:=(show ∃t,v=Qv i t from r1)
  exact formatField_int_small q1.1 ⟨.str _,H1,I1.tok _,⟨_,rfl⟩,q1.2⟩
 ·rename_i z
  obtain⟨t,rfl⟩:=(show ∃t,v=OM z t from r1)
  exact formatField_str (fun t' tk=>⟨.str _,H1,I1.tok _,⟨_,rfl⟩,q1.2⟩) q1.1⟩
def mJ:List TE->Str->TE
 |[],acc=>fun σ H Q=>acc.length<=sizeLine/\Q (.str acc) H
 |t::r,acc=>fun σ H Q=>t σ H fun x H'=>match x with
  |.str y=>(acc++y).length<=sizeLine/\mJ r (acc++y) σ H' Q
  |_=>False
inductive QJ (X:Cx):List Expr->List TE->Prop where
 |nil:QJ X [] []
 |cons {e:Expr} {t:TE} {es:List Expr} {ts:List TE}:QE X e t->QJ X es ts->QJ X (e::es) (t::ts)
theorem Gw {es:List Expr}{ts:List TE}(j:QJ X es ts):∀{pins:List (Addr×Obj)}{s:If}{σ:St}{H:Hp}{Q:VK}{acc:Str},Inv X pins σ H s->mJ ts acc σ H Q->wpAny (model X.prog X.w) X.A (joinParts acc (evalEach es X.env)) (EP X pins σ Q) X.xe s:=by
 induction j with
 |nil=>intro pins s σ H Q acc I q;exact joinParts_nil ⟨.str _,H,I.tok _,⟨_,rfl⟩,q.2⟩ q.1
 |cons h _ ih=>
  intro pins s σ H Q acc I q
  refine joinParts_cons (thn (h.out pins s σ H _ I q) fun v s1 ⟨x,H1,I1,r1,q1⟩=>?_)
  cases x<;>first|exact q1.elim|skip
  rename_i z
  obtain⟨t,rfl⟩:=(show ∃t,v=OM z t from r1)
  exact⟨q1.1,ih I1 q1.2⟩
theorem vx {v1 v2:Expr}{bV:List Expr}{ts:List TE}{pos:Pos}(j:QJ X (v1::v2::bV) ts):QE X (.JoinedStr (v1::v2::bV) pos) (mJ ts Nw):=⟨fun pins s σ H Q I q=>JoinedStr_many (Gw j I q)⟩
end
theorem oW:bootBuiltins "ValueError"=some (.type "ValueError"):=by decide+kernel
theorem fw {K:pv}{C D:Addr}{b:Bool}(h:Nt K C (.ref D)=some b):eG K C D=some b:=by
 unfold Nt W.clsIn at h
 unfold eG
 split at h
 ·rename_i cd sl e
  rw[e]
  dsimp only[Option.bind]at h⊢
  split at h
  ·cases h
  ·exact h
 ·cases h
theorem Fun.okN {P:LV}{w:Mx}{K:pv}{mg:Str->Option tx}{base:Heap}{CX:CXT}{x qual:Str}{st:Stmt}{f:Addr}{fd:LI}{N ps:List Str}{k:Nat}{sp:Sp}(F:Fun K x qual st f fd)(S:aF N ps (au st))(len:∀vs H Q E,sp vs H Q E->vs.length=ps.length)
  (hbody:∀(cdv:tx)(A:Mq)(outer:List Env)(s:If)(H:Hp)(vs:List V)(Q:VK)(E:XK),bj k (A.deeper (envOfC qual (au st) s.heap.objs.size f cdv))->sp vs H Q E->
   ∃t,PSs (cM CX P w K mg base N qual (au st) f cdv A outer s H E).nox (aS st) t/\t {nx:=fun _ H'=>Q .non H',rt:=Q} (start N vs) H):aQ P w K mg base CX (k+1) f fd ps sp:=by
 obtain⟨oc,od,kV,doc,pm,an,cdv,ct,osl,rfl,lk,hcd⟩:=F.ex
 refine zv lk hcd S len fun A outer s H vs Q E hr hsp=>?_
 obtain⟨t,h,q⟩:=hbody cdv A outer s H vs Q E hr hsp
 exact⟨t,h.nox,q⟩
section
variable {X:Cx}
def CG:V->Option Int->Option Int->Hp->VK->Prop:=fun x lo hi H Q=>∃z,x=.str z/\z.length<=sizeLine/\Q (.str (Txt.slice z lo hi)) H
theorem CF:SlR X CG:=by
 intro pins s σ H x v vl vu lo hi sl Q I rx hs pl pu h
 obtain⟨z,rfl,hz,q⟩:=h
 obtain⟨t,rfl⟩:=(show ∃t,v=OM z t from rx)
 refine⟨"str",_,F.slot_str_getitem.lookup,UK _ _ _,?_⟩
 have fin:∀(l u:Option (Int×Tok)),l.map (·.1)=lo->u.map (·.1)=hi->s.heap.IsSlice sl l u none->wpAny (model X.prog X.w) X.A (getItem (.str z t) (.ref sl)) (EP X pins σ Q) X.xe s:=fun l u e1 e2 hs'=>by
  subst e1 e2
  refine wpAny_getItem_str_slice (l:=l) (u:=u) (st:=none) hs' rfl (post_val_or_str ⟨Mi (Txt.slice_le z _ _) hz,fun t' k=>⟨.str _,H,I.tok k,⟨_,rfl⟩,q⟩⟩)
 obtain⟨os,hos,hcs,hds⟩:=hs
 cases pl with
 |none=>cases pu with
  |none=>exact fin none none rfl rfl ⟨os,hos,hcs,hds⟩
  |int j tj=>exact fin none (some (j,tj)) rfl rfl ⟨os,hos,hcs,hds⟩
 |int i ti=>cases pu with
  |none=>exact fin (some (i,ti)) none rfl rfl ⟨os,hos,hcs,hds⟩
  |int j tj=>exact fin (some (i,ti)) (some (j,tj)) rfl rfl ⟨os,hos,hcs,hds⟩
def eE (K:pv):V->Option Int->Option Int->Hp->VK->Prop:=fun x lo hi H Q=>DX K x lo hi H Q\/CG x lo hi H Q
theorem fA:SlR X (eE X.K):=Dk.or CF
def kf:V->Bool
 |.int _=>true
 |.str _=>true
 |_=>false
theorem uF {A:Mq}{s:If}{x y:V}{u v:tx}(rx:aX x u)(ry:aX y v)(hx:kf x=true)(hy:kf y=true):PySem.SeqAt.EqAt A s u v (decide (x=y)):=by
 cases x<;>first|cases hx|skip
 all_goals (cases y<;>first|cases hy|skip)
 ·obtain⟨t,rfl⟩:=rx;obtain⟨t',rfl⟩:=ry
  have e:=Qj (A:=A) (s:=s) ‹Int› t ‹Int› t'
  rename_i i j
  have e2:decide (V.int i=V.int j)=(i==j):=by rw[kh (f:=V.int) fun _ _ e=>V.int.inj e];rfl
  rw[e2];exact Qj i t j t'
 ·obtain⟨t,rfl⟩:=rx;obtain⟨t',rfl⟩:=ry
  exact Rg _ _ _ _
 ·obtain⟨t,rfl⟩:=rx;obtain⟨t',rfl⟩:=ry
  exact Rf _ _ _ _
 ·obtain⟨t,rfl⟩:=rx;obtain⟨t',rfl⟩:=ry
  rename_i i j
  have e2:decide (V.str i=V.str j)=(i==j):=by
   rw[kh (f:=V.str) fun _ _ e=>V.str.inj e]
   by_cases h:i=j
   ·rw[h];simp
   ·rw[decide_eq_false h];exact(beq_eq_false_iff_ne.mpr h).symm
  rw[e2];exact Uc i t j t'
theorem wA {xs ys:List V}:decide (xs=ys)=((Qd (min xs.length ys.length)).all (fun j=>decide (xs[j]?=ys[j]?))&&xs.length==ys.length):=by
 by_cases h:xs=ys
 ·subst h;simp
 ·rw[decide_eq_false h]
  by_cases hl:xs.length=ys.length
  ·rw[hl,Nat.min_self,beq_self_eq_true,Bool.and_true]
   symm
   rw[List.all_eq_false]
   apply Pc
   intro hn
   apply h
   apply Th fun i=>?_
   by_cases hi:i<ys.length
   ·apply Pc
    intro hne
    exact hn ⟨i,Ql.mpr hi,by simpa using hne⟩
   ·rw[MP (by omega),MP (by omega)]
  ·have:(xs.length==ys.length)=false:=by simpa using hl
   rw[this,Bool.and_false]
def Fj (K:pv):R2:=fun x y H Q=>∃a b xs ys,x=.ref a/\y=.ref b/\SqT K H a xs/\SqT K H b ys/\xs.all kf=true/\ys.all kf=true/\Q (.bl (decide (xs=ys))) H
theorem BL (hu:X.A.units<cLine):OpR X (compareOp .Eq) (Fj X.K):=by
 intro pins s σ H x y v u Q I rx ry h
 obtain⟨a,b,xs,ys,rfl,rfl,ha,hb,px,py,q⟩:=h
 cases rx
 cases ry
 obtain⟨its,r1,p1,_⟩:=I.tuple ha
 obtain⟨its2,r2,p2,_⟩:=I.tuple hb
 have l1:=r1.length
 have l2:=r2.length
 refine PySem.SeqAt.eq_tupleAt (e:=fun j=>decide (xs[j]?=ys[j]?)) p1 p2 hu (fun j h1 h2=>?_) ?_
 ·have h1:j<its.length:=by simpa using h1
  have h2:j<its2.length:=by simpa using h2
  have e1:xs[j]?=some xs[j]:=Gt (by omega)
  have e2:ys[j]?=some ys[j]:=Gt (by omega)
  obtain⟨u1,g1,ru1⟩:=r1.get e1
  obtain⟨u2,g2,ru2⟩:=r2.get e2
  have g1':its.toArray[j]=u1:=by
   rw[Gt h1]at g1;simpa using LR g1
  have g2':its2.toArray[j]=u2:=by
   rw[Gt h2]at g2;simpa using LR g2
  rw[g1',g2',e1,e2]
  have:decide (some xs[j]=some ys[j])=decide (xs[j]=ys[j]):=by simp
  rw[this]
  exact uF ru1 ru2 (Nl.mp px _ (Nk _)) (Nl.mp py _ (Nk _))
 ·have e:=wA (xs:=xs) (ys:=ys)
  rw[l1,l2]at e
  simp only[Lw]
  rw[<-e]
  exact⟨.bl _,H,I,rfl,q⟩
end
end L2
namespace HT
open PySem PyProof.Rows
section
variable {prog:LV}{w:Mx}{A:Mq}{E:tx->If->Prop}{s:If}
theorem rE {it t:Addr}{i:Nat}{items:Array tx}{x:tx}{Q:tx->If->Prop}(hit:s.heap.IsTupleIter it t i)(ht:s.heap.IsTuple t items)(hx:items[i]?=some x)
  (hQ:∀h',h'.IsTupleIter it t (i+1)->Nd it s.heap h'->Q x {s with heap:=h'}):wpAny (model prog w) A (MD (.ref it)) Q E s:=by
 obtain⟨o,ho,hc,hd⟩:=id hit
 obtain⟨ol,hol,_,nl,hdl⟩:=ht
 unfold MD
 refine ah (MG (name:=MU "__next__") hit.typeIs RL
  (ML RL hit.typeIs F.entry_tuple_iterator_next ?_ (F.args_tuple_iterator_next_1 _)))
 show wpAny _ _ (field (.ref it) 0>>=_) _ _ s
 refine ah (Mt ho hd (x:=.ref t) rfl ?_)
 show wpAny _ _ (if (LF t==NL)=true then _ else _) _ _ s
 rw[if_neg (show ¬((LF t==NL)=true)from LQ)]
 show wpAny _ _ (field (.ref it) 1>>=_) _ _ s
 refine ah (Mt ho hd (x:=.int i 0) rfl ?_)
 show wpAny _ _ (seqItems? (.ref t)>>=_) _ _ s
 refine ah (Nx hol hdl ?_)
 simp only[Nu,hx]
 refine ah (Sl ho hd (by simp) (Lo ⟨x,rfl,Lo (hQ _ ?_ (OI ..))⟩))
 exact⟨_,My _ ho (PZ (OD hd _)),(Tz ..).trans hc,by rw[OD hd];simp[rawInt]⟩
end
abbrev itO (t:Addr):Obj:={cls:=.type "tuple_iterator",data:=.fields #[.ref t,.int 0 0]}
end HT
namespace L2
open PySem PySem.Spec PyProof.Rows
section
variable {X:Cx}{pins:List (Addr×Obj)}{σ:St}{H H1:Hp}{s s0:If}{a:Addr}{o:HO}
theorem Inv.track2 (I0:Inv X pins σ H1 s0)(I:Inv X pins σ H s)(new:s0.heap.objs.size<=a)(hn:H a=none)(ok:bg X.prog X.w (upd H a o) s.heap a o):Inv X pins σ (upd H a o) s:=by
 have ne:∀b u,s0.heap.get? b=some u->b≠a:=fun b u e=>LH (LN (Lt e) new)
 have ne0:∀b u,X.s₀.heap.get? b=some u->b≠a:=fun b u e=>LH (LN (Lt e) (Mi I0.sz new))
 have nL:X.env.locals≠a:=by
  obtain⟨m,⟨o',_,_,e,_⟩,_⟩:=I0.loc
  exact ne _ _ e
 refine⟨I.ok,I.os,I.bare,⟨I.base.keep,I.base.slot,fun b u e n hx=>?_,I.base.there,fun b xs e=>?_,fun b u v e=>?_,fun b ps e=>?_⟩,I.loc,I.cell,?_,fun x c e=>?_,fun p hp=>?_,fun b u e=>?_,I.len⟩
 ·rw[ao (ne0 b u e)];exact I.base.free b u e n hx
 ·have:=I.base.tups b xs e
  rw[ao (ax this hn)];exact this
 ·have:=I.base.frzs b u v e
  rw[ao (ax this hn)];exact this
 ·obtain⟨more,this⟩:=I.base.tbls b ps e
  exact⟨more,by rw[ao (ax this hn)];exact this⟩
 ·rw[ao nL];exact I.free
 ·obtain⟨v,o',e',_⟩:=I0.cell x c e
  rw[ao (ne _ _ e')];exact I.freeC x c e
 ·obtain⟨h1,h2,h3⟩:=I.pin p hp
  exact⟨h1,by rw[ao (ne _ _ (I0.pin p hp).1)];exact h2,h3⟩
 ·by_cases hb:b=a
  ·subst hb
   rw[ak]at e;cases e
   exact ok
  ·rw[ao hb]at e
   exact(I.hok b u e).stay (fun c v _ q=>q) (fun c q=>by
    have:c≠a:=ax q hn
    rw[ao this];exact q) fun c xs q=>by
    have:c≠a:=ax q hn
    rw[ao this];exact q
end
section
variable {X:Cx}{a b:Expr}{t:TA}{p pos ep:Pos}{elts:List Expr}{ek:Nat}
theorem DA:bootBuiltins "zip"=some (.type "zip"):=by decide+kernel
end
def bq (C:Addr)(m:Str)(sp:Sp)(E:St->XK)(ta:TE)(t:TA):TE:=fun σ H Q=>ta σ H fun x H1=>∃a dx fs,x=.ref a/\H1 a=some (.ins C dx fs)/\fs.lookup m=none/\t σ H1 fun vs H2=>sp (x::vs) H2 Q (E σ)
def iQ (C:Addr)(sp:Sp)(E:St->XK)(t:TA):TE:=fun σ H Q=>t σ H fun vs H1=>∀x dx,H1 x=none->H1 dx=none->dx≠x->
 sp (.ref x::vs) (upd (upd H1 dx (.own x)) x (.ins C dx [])) (fun v H2=>v=.non/\Q (.ref x) H2) (E σ)
section
variable {X:Cx}{CX:CXT}{k:Nat}{f C:Addr}{fd:LI}{ps:List Str}{sp:Sp}{E:St->XK}{x m fl:Str}{p pos apos pos':Pos}{e o value:Expr}{es:List Expr}{ta tv to:TE}{t:TA}
theorem cS (he:QE X e ta)(hb:attributeBase e fl X.env (eval e X.env)=eval e X.env:=by rfl):QE X (.Attribute e fl pos) (cC X.K ta fl):=⟨Bz he.out hb⟩
theorem dG (ho:QE X o to)(hv:QE X value tv)(hs:swapsWith value (some (.Attribute o fl pos')) pos.line X.env=pure false:=by rfl):QS X (.Assign [.Attribute o fl pos'] value pos) (fV X.K to tv fl):=⟨DD ho.out hv.out hs⟩
theorem bD {pl:Sem Bool}(he:QE X o ta)(c:Cls X.K C)(hm:dR X.K C m f)(F:aQ X.prog X.w X.K X.mg X.base CX k f fd ps sp)(hr:bj k X.A)(hb:bv X.K fd ps [])(hx:eJ CX X E)(ha:QA X (e::es) t)
  (hs:bo (e::es)=true:=by rfl)
  (ht:eval (.Call (.Attribute o m apos) (e::es) [] pos) X.env=(do
   let ov<-eval o X.env
   standAt apos.atName
   let (f,first)<-holding [ov] (getMethod ov m pl)
   callWith pos f first (backTo pos (starEach (e::es) X.env)) (backToKw pos (keywordEach [] X.env))):=by rfl):
  QE X (.Call (.Attribute o m apos) (e::es) [] pos) (bq C m sp E ta t):=⟨fun pins s σ H Q I h=>by
 have h':(bR e&&bo es)=true:=hs
 refine RI (pl:=pl) (thn (he.out pins s σ H _ I h) fun u s1 ⟨x,H1,I1,rx,a,dx,fs,ex,ea,l,q⟩=>?_) ht
 subst ex
 obtain rfl:u=LF a:=rx
 refine mE I1 ea c hm l ?_
 refine Ro (first:=[.ref a]) (h₀:=X.base) I.ok.mod.kin hm.kp (thn (ha.out pos pins s1 σ H1 _ I1 q) fun us s2 ⟨vs,H2,I2,r,q2⟩=>⟨I2.kIn,?_⟩)
  (aZ (Lv.mp h').1 es X.env) (bQ (Lv.mp h').2)
 exact kE (us:=.ref a::us) (vs:=.ref a::vs) F hr hb hx I2 (.cons rfl r) q2⟩
theorem jg {pl:Sem Bool}(he:QE X o ta)(c:Cls X.K C)(hm:dR X.K C m f)(F:aQ X.prog X.w X.K X.mg X.base CX k f fd ps sp)(hr:bj k X.A)(hb:bv X.K fd ps [])(hx:eJ CX X E)
  (ht:eval (.Call (.Attribute o m apos) [] [] pos) X.env=(do
   let ov<-eval o X.env
   standAt apos.atName
   let (f,first)<-holding [ov] (getMethod ov m pl)
   callWith pos f first (backTo pos (starEach [] X.env)) (backToKw pos (keywordEach [] X.env))):=by rfl):
  QE X (.Call (.Attribute o m apos) [] [] pos) (bq C m sp E ta am):=⟨fun pins s σ H Q I h=>by
 refine RI (pl:=pl) (thn (he.out pins s σ H _ I h) fun u s1 ⟨x,H1,I1,rx,a,dx,fs,ex,ea,l,q⟩=>?_) ht
 subst ex
 obtain rfl:u=LF a:=rx
 refine mE I1 ea c hm l ?_
 exact So (first:=[.ref a]) I1.kIn hm.kp (kE (us:=[.ref a]) (vs:=[.ref a]) F hr hb hx I1 (.cons rfl .nil) q)⟩
theorem oE {pins:List (Addr×Obj)}{σ:St}{H:Hp}{s:If}{Q:VK}{us:List tx}{vs:List V}(M:Mk X.K C f)(F:aQ X.prog X.w X.K X.mg X.base CX k f fd ps sp)(hr:bj (k+1) X.A)(hb:bv X.K fd ps [])
  (hx:eJ CX X E)(I:Inv X pins σ H s)(r:aY vs us)
  (h:∀x dx,H x=none->H dx=none->dx≠x->sp (.ref x::vs) (upd (upd H dx (.own x)) x (.ins C dx [])) (fun v H2=>v=.non/\Q (.ref x) H2) (E σ)):
  wpAny (model X.prog X.w) X.A (call (.ref C) us) (EP X pins σ Q) X.xe s:=by
 have hq:=h (s.heap.objs.size+1) s.heap.objs.size (I.hok.fresh (NJ _)) (I.hok.fresh (gV _)) (LH (On _))
 have I2:=Inv.made (C:=C) I
 have r2:aY (V.ref (s.heap.objs.size+1)::vs) (LF (s.heap.objs.size+1)::us):=.cons rfl r
 have hl:(LF (s.heap.objs.size+1)::us).length=ps.length:=by
  have e:=r2.length
  rw[F.len _ _ _ _ hq]at e
  exact e.symm
 have hb':=hb _ (LF (s.heap.objs.size+1)::us) I2.kIn (by rw[MJ];exact hl)
 rw[MJ]at hb'
 refine QC (xu (f:=f) I.kIn M.makes M.init (beq_iff_eq.mp M.fn) (NY (F.run _ X.stack _ _ ⟨LF (s.heap.objs.size+1)::us,[]⟩ (LF (s.heap.objs.size+1)::us) _ _ (E σ) (hr.make C us [])
  (I2.env0.make C us []) hb' r2 hq) fun r s' hq'=>?_))
 cases r with
 |error e=>exact hx pins σ _ _ e s' I2 hq'
 |ok fl=>
  cases fl with
  |ret u=>
   obtain⟨v,H',I3,rv,ev,q3⟩:=I2.after hq'
   subst ev
   exact⟨rv,⟨V.ref (s.heap.objs.size+1),H',I3,rfl,q3⟩⟩
  |next=>exact Mu hq'
  |brk=>exact Mu hq'
  |cont=>exact Mu hq'
theorem mX (M:Mk X.K C f)(F:aQ X.prog X.w X.K X.mg X.base CX k f fd ps sp)(hr:bj (k+1) X.A)(hm:X.mg x=some (.ref C))(hb:bv X.K fd ps [])(hx:eJ CX X E)(ha:QA X (e::es) t)
  (hg:Gl X x:=by rfl)(hdb:(x==("__debug__":Str))=false:=by decide)(hs:bo (e::es)=true:=by rfl):QE X (.Call (.Name x p) (e::es) [] pos) (iQ C sp E t):=⟨fun pins s σ H Q I h=>by
 have h':(bR e&&bo es)=true:=hs
 refine MB (fY I hg hm ?_ hdb)
 refine Ro (h₀:=X.base) I.ok.mod.kin M.kp (thn (ha.out pos pins s σ H _ I h) fun us s1 ⟨vs,H1,I1,r,q⟩=>⟨I1.kIn,?_⟩) (aZ (Lv.mp h').1 es X.env) (bQ (Lv.mp h').2)
 exact oE M F hr hb hx I1 r q⟩
theorem xH (M:Mk X.K C f)(F:aQ X.prog X.w X.K X.mg X.base CX k f fd ps sp)(hr:bj (k+1) X.A)(hm:X.mg x=some (.ref C))(hb:bv X.K fd ps [])(hx:eJ CX X E)
  (hg:Gl X x:=by rfl)(hdb:(x==("__debug__":Str))=false:=by decide):QE X (.Call (.Name x p) [] [] pos) (iQ C sp E am):=⟨fun pins s σ H Q I h=>by
 refine MB (fY I hg hm ?_ hdb)
 exact So I.kIn M.kp (oE (us:=[]) M F hr hb hx I .nil h)⟩
end
mutual
inductive fj (K:pv)(H:Hp):V->Tw->Prop
 |non:fj K H .non .none
 |bl (b):fj K H (.bl b) (.bool b)
 |int (i):fj K H (.int i) (.int i)
 |str (z):fj K H (.str z) (.str z)
 |lst {a xs ds}:SqL K H a xs->DatVs K H xs ds->fj K H (.ref a) (.list ds)
 |tup {a xs ds}:SqT K H a xs->DatVs K H xs ds->fj K H (.ref a) (.tuple ds)
inductive DatVs (K:pv)(H:Hp):List V->List Tw->Prop
 |nil:DatVs K H [] []
 |cons {x xs d ds}:fj K H x d->DatVs K H xs ds->DatVs K H (x::xs) (d::ds)
end
section
variable {X:Cx}
mutual
theorem dF {pins:List (Addr×Obj)}{σ:St}{H:Hp}{s:If}(I:Inv X pins σ H s):∀{x:V}{d:Tw},fj X.K H x d->∀{v:tx},aX x v->∃as,Reads s.heap v d as
 |_,_,.non,_,r=>by cases r;exact⟨_,.none⟩
 |_,_,.bl b,_,r=>by cases r;exact⟨_,.bool b⟩
 |_,_,.int i,_,r=>by obtain⟨t,rfl⟩:=r;exact⟨_,.int i t⟩
 |_,_,.str z,_,r=>by obtain⟨t,rfl⟩:=r;exact⟨_,.str z t⟩
 |_,_,.lst h hs,_,r=>by
  cases r
  obtain⟨its,r1,⟨o,n,h1,h2,_,h3⟩,_⟩:=I.list h
  obtain⟨as,ra⟩:=datVs_reads I hs r1
  exact⟨_,.list h1 h2 h3 (by simpa using ra)⟩
 |_,_,.tup h hs,_,r=>by
  cases r
  obtain⟨its,r1,⟨o,h1,h2,n,h3⟩,_⟩:=I.tuple h
  obtain⟨as,ra⟩:=datVs_reads I hs r1
  exact⟨_,.tuple h1 h2 h3 (by simpa using ra)⟩
theorem datVs_reads {pins:List (Addr×Obj)}{σ:St}{H:Hp}{s:If}(I:Inv X pins σ H s):∀{xs:List V}{ds:List Tw},DatVs X.K H xs ds->∀{vs:List tx},aY xs vs->∃as,ReadsAll s.heap vs ds as
 |_,_,.nil,_,r=>by cases r;exact⟨_,.nil⟩
 |_,_,.cons h hs,_,r=>by
  cases r with
  |cons r1 r2=>
   obtain⟨as,a⟩:=dF I h r1
   obtain⟨bs,b⟩:=datVs_reads I hs r2
   exact⟨_,.cons a b⟩
end
def uW (K:pv):R2:=fun x y H Q=>∃d e,fj K H x d/\fj K H y e/\d.canLay0=true/\e.canLay0=true/\d.depth<=150/\Q (.bl (d.eqv e)) H
def zg (K:pv):R2:=fun x y H Q=>∃d e,fj K H x d/\fj K H y e/\d.canLay0=true/\e.canLay0=true/\d.depth<=150/\Q (.bl (!d.eqv e)) H
theorem Cd (hu:X.A.units+150<cLine):OpR X (compareOp .Eq) (uW X.K):=by
 intro pins s σ H x y v u Q I rx ry h
 obtain⟨d,e,hd,he,cd,ce,dp,q⟩:=h
 obtain⟨as,ra⟩:=dF I hd rx
 obtain⟨bs,rb⟩:=dF I he ry
 exact PySem.SeqAt.compareEq_reads ra rb cd ce (by have:=Ur d.depth e.depth;omega) ⟨.bl _,H,I,rfl,q⟩
theorem EQ (hu:X.A.units+150<cLine):OpR X (compareOp .NotEq) (zg X.K):=by
 intro pins s σ H x y v u Q I rx ry h
 obtain⟨d,e,hd,he,cd,ce,dp,q⟩:=h
 obtain⟨as,ra⟩:=dF I hd rx
 obtain⟨bs,rb⟩:=dF I he ry
 exact PySem.SeqAt.compareNe_reads ra rb cd ce (by have:=Ur d.depth e.depth;omega) ⟨.bl _,H,I,rfl,q⟩
theorem bj.units150 {k:Nat}{A:Mq}(r:bj k A):A.units+150<cLine:=by have:=r.un;omega
def ci (K:pv):R2:=fun x y H Q=>match x,y with
 |.ref a,y=>zg K (.ref a) y H Q
 |x,.ref b=>zg K x (.ref b) H Q
 |x,y=>mNe x y H Q
theorem jk (hu:X.A.units+150<cLine):OpR X (compareOp .NotEq) (ci X.K):=((EQ hu).or oNe).imp fun x y H Q q=>by
 unfold ci at q
 split at q
 ·exact .inl q
 ·exact .inl q
 ·exact .inr q
def uG:V->List V->Hp->VK->Prop:=fun x vs H Q=>match x,vs with|.int i,[]=>Q (.int (Nn i)) H|_,_=>False
theorem Bi:MtR X "int.bit_length" uG:=by
 intro pins s σ H x xs v us Q I rx rs q
 unfold uG at q
 split at q
 ·obtain⟨t,rfl⟩:=rx
  cases rs
  exact call_int_bit_length ⟨.int _,H,I.tok _,⟨_,rfl⟩,q⟩
 ·exact q.elim
def kZ:List V->Hp->VK->Prop:=fun xs H Q=>match xs with|[.int i,.int j]=>Q (.int (if j<i then j else i)) H|_=>False
theorem xo (hc:X.calm=true):bZ X (.builtin "min") kZ:=fun pins s σ H xs us Q I r q=>by
 unfold kZ at q
 split at q
 ·exact wc hc pins s σ H _ us Q I r ⟨_,_,rfl,q⟩
 ·exact q.elim
variable {o:Expr}{to:TE}{name:Str}{apos cpos:Pos}{T id:String}{rm:V->List V->Hp->VK->Prop}
theorem IA (pa:Rv T)(slot:Slot T name id)(hty:typeOf (.builtin id)=pure (.type "method_descriptor"))(hm:MtR X id rm)(ho:QE X o to)
 (hbase:attributeBase o name X.env (eval o X.env)=eval o X.env:=by rfl)(hline:(apos.endLine==cpos.line)=true:=by rfl):QE X (.Call (.Attribute o name apos) [] [] cpos) (yC X.K T rm to):=⟨Ew pa slot hty hm ho.out hbase hline⟩
end
theorem vX:(("":String):Str)=Nw:=by decide
theorem zq:∀xs:List Str,Str.join "" xs=xs.foldr (· ++ ·) Nw
 |[]=>rfl
 |[x]=>(Ub x).symm
 |x::y::r=>by
  show x++(("":String):Str)++Str.join "" (y::r)=x++(y::r).foldr (· ++ ·) Nw
  rw[zq (y::r),vX,Ub]
theorem Bs (xs:List Str):Txt.join "" xs=xs.foldr (·++·) Nw:=(TU (join_plain_closes "" xs)).trans (zq xs)
theorem aH {n:Nat}(h:n<=1000000):n<=sizeLine:=by rw[NA];omega
theorem Iq (k:Nat):((2^k:Nat):Int)=(2:Int)^k:=by simp
theorem Ej {α:Type}{xs:List α}{i:Int}(h0:0<=i)(h1:i<xs.length):∃c,atI xs i=some c:=by
 unfold atI ixN
 rw[if_pos h0,if_pos h1]
 have:i.toNat<xs.length:=by omega
 exact⟨xs[i.toNat],by show xs[i.toNat]?=_;rw[Gt this]⟩
section
variable {X:Cx}
theorem bj.units1 {k:Nat}{A:Mq}(r:bj k A):A.units+1<cLine:=by have:=r.un;omega
def Dl:R2:=fun x y H Q=>∃a v,x=.ref a/\fJ H a y (some v)/\Q v H
theorem AL (hu:X.A.units+1<cLine):IxR X Dl:=by
 intro value slice pins s σ H x y v u Q I rx ry h hs
 obtain⟨a,w0,rfl,g,q⟩:=h
 obtain rfl:v=LF a:=rx
 have hT:=rV I g
 have h2:wpAny (model X.prog X.w) X.A (getItem (.ref a) u) (EP X pins σ Q) X.xe s:=vE hu I g ry fun w' s3 I3 rw'=>⟨w0,H,I3,rw',q⟩
 unfold subscriptTail
 refine ah ?_
 rw[getitemInPython_of_ne hT.not_modules]
 refine ah (NU hT PySem.F.slot_dict_getitem.lookup ?_)
 have fin:wpAny (model X.prog X.w) X.A (subscripted slice false (.ref a) u) (fun r s₃=>wpAny (model X.prog X.w) X.A (letTemporaryGo value (.ref a) r>>=fun _=>pure r) (EP X pins σ Q) X.xe s₃) X.xe s:=by
  rw[hs]
  exact wpAny_operating (Ma h2 (fun r s₃ h₃=>ah (wpAny_letTemporaryGo (Lo h₃))) fun _ _ x=>x)
 first
  |exact Lo (ah fin)
  |exact ah (Lo (ah fin))
  |exact ah fin
def aE (K:pv):R2:=fun x y H Q=>rIx K x y H Q\/Dl x y H Q
theorem aG (hu:X.A.units+1<cLine):IxR X (aE X.K):=CW.or (AL hu)
def zD:V->V->V->Hp->(Hp->Prop)->Prop:=fun o i v H Q=>∃a H',o=.ref a/\xJ H a i v H'/\Q H'
theorem wL (hu:X.A.units+1<cLine):uj X zD:=by
 intro pins s σ H o i v ov iv u Q I ro ri rv h
 obtain⟨a,H',rfl,g,q⟩:=h
 obtain rfl:ov=LF a:=ro
 exact vS hu I g ri rv fun s4 I4=>⟨H',I4,q⟩
def pM:V->V->V->Hp->(Hp->Prop)->Prop:=fun o i v H Q=>Ac o i v H Q\/zD o i v H Q
theorem AI (hu:X.A.units+1<cLine):uj X pM:=by
 intro pins s σ H o i v ov iv u Q I ro ri rv h
 rcases h with h|h
 ·exact yU pins s σ H o i v ov iv u Q I ro ri rv h
 ·exact wL hu pins s σ H o i v ov iv u Q I ro ri rv h
variable {o e:Expr}{to te:TE}{p pos:Pos}
theorem qL {ti:TE}{i:Expr}(hu:X.A.units+1<cLine)(ho:QE X o to)(hi:QE X i ti)(he:QE X e te)(hs:swapsWithSole [.Subscript o i p] e pos.line X.env=pure false:=by rfl)(hw:swappedStores [.Subscript o i p] e X.env=pure none:=by rfl)(ha:∀v,assign (.Subscript o i p) X.env v=(do let ov<-holding [v] (eval o X.env);let iv<-holding [v,ov] (eval i X.env);standAt p;holding [v,ov,iv] (setItem ov iv v);release [v,ov,iv] []):=by intro _;rfl):QS X (.Assign [.Subscript o i p] e pos) (aD te (uz to ti pM)):=⟨Dp he.out (CV ho.out hi.out (AI hu) ha) hs hw⟩
def sj:R2:=fun y x H Q=>∃a o,x=.ref a/\fJ H a y o/\Q (.bl (!o.isSome)) H
theorem wH (hu:X.A.units+1<cLine):OpR X (compareOp .NotIn) sj:=by
 intro pins s σ H x y v u Q I rx ry h
 obtain⟨a,ov,rfl,g,q⟩:=h
 obtain rfl:u=LF a:=ry
 exact AO hu I g rx fun s3 I3=>⟨.bl (!ov.isSome),H,I3,rfl,q⟩
def sK (K:pv):R2:=fun y x H Q=>∃d ds,fj K H y d/\(fj K H x (.list ds)\/fj K H x (.tuple ds))/\QG ds=true/\d.canLay0=true/\d.depth<=140/\Q (.bl (!ds.any fun e=>e.eqv d)) H
theorem vU (hu:X.A.units+150<cLine):OpR X (compareOp .NotIn) (sK X.K):=by
 intro pins s σ H x y v u Q I rx ry h
 obtain⟨d,ds,hd,hx,c1,c2,dp,q⟩:=h
 obtain⟨as,ra⟩:=dF I hd rx
 have hm:X.A.units+1+min (NK ds) d.depth<cLine:=by have:=PJ (NK ds) d.depth;omega
 rcases hx with hx|hx
 ·obtain⟨bs,rb⟩:=dF I hx ry
  exact PySem.SeqAt.notIn_list_reads rb ra c1 c2 hm ⟨.bl _,H,I,rfl,q⟩
 ·obtain⟨bs,rb⟩:=dF I hx ry
  exact PySem.SeqAt.notIn_tuple_reads rb ra c1 c2 hm ⟨.bl _,H,I,rfl,q⟩
def mU (K:pv):R2:=fun y x H Q=>sj y x H Q\/sK K y x H Q
theorem sM (hu:X.A.units+150<cLine):OpR X (compareOp .NotIn) (mU X.K):=(wH (by omega)).or (vU hu)
def mi:TE:=fun σ H Q=>vp σ H Q\/wo σ H Q
theorem nv:QE X (.Dict [] [] pos) mi:=⟨fun pins s σ H Q I h=>h.elim (yF pins s σ H Q I) (yY pins s σ H Q I)⟩
theorem wf:bZ X (.builtin "len") (fun xs H Q=>∃p kvs,xs=[.ref p]/\H p=some (.dT kvs)/\Q (.int kvs.length) H):=by
 intro pins s σ H xs us Q I r h
 obtain⟨a,kvs,rfl,e,q⟩:=h
 obtain⟨u,rfl,r1⟩:=iq r
 cases r1
 obtain⟨z,hd,ps,rel,dd⟩:=uA I.hok e
 have hl:ps.length=kvs.length:=(Paired.length rel).symm
 have hT:s.TypeIs (.ref a) "dict":=dd.typeIs
 obtain⟨o,es,ep,ho,hc,hdat,he,his,hn⟩:=dd
 have hsz:es.size=kvs.length:=by rw[<-hl];have:=congrArg Qr he;simpa using this
 have M:MeetsIn X.prog X.w (ON.«dict.__len__» ⟨[.ref a],[]⟩) (fun _ R s=>s.heap.get? a=some o/\R (.ok (.ret (.int kvs.length s.toks))) {s with toks:=s.toks+1}):=
  .of_wp fun A R s ⟨ho,h⟩=>by
   show wpAny _ _ (dictSize a>>=_) _ _ s
   unfold dictSize
   refine ah (ah (UH ho hdat (Lo ?_)))
   show wpAny _ _ (Builtin.Dict.pendingCount a>>=_) _ _ s
   refine ah (wpAny_pendingCount_other hd ?_)
   refine wpAny_ret_mkInt ?_
   rw[Nat.add_zero,hsz];exact h
 refine Calls.call_function_entry kind_len plain_len entry_len (args_len1 _) ?_
 unfold ON.«len»
 refine ah (m:=oneArg "len" _) (Lo ?_)
 refine ah (m:=callSpecial? (.ref a) (MU "__len__")) (MG (name:=MU "__len__") hT US
  (Ts US hT F.entry_dict_len (F.args_dict_len_1 _) M ⟨ho,?_⟩))
 show wpAny _ _ _ _ _ {s with toks:=s.toks+1}
 refine ah (Ni (Lo ?_))
 refine ah (Rc ?_)
 have zz:kvs.length<=sizeLine:=z
 rw[NA]at zz
 show wpAny _ _ (if ((kvs.length:Nat):Int)<0 then _ else _) _ _ _
 rw[if_neg (by omega)]
 show wpAny _ _ (if ((kvs.length:Nat):Int)>=2^63 then _ else _) _ _ _
 rw[if_neg (by omega)]
 exact ah (wpAny_mkInt (Lo ⟨_,rfl,⟨.int kvs.length,H,I.tok _,⟨_,rfl⟩,q⟩⟩))
def bO (K:pv):List V->Hp->VK->Prop:=fun xs H Q=>DV K xs H Q\/∃p kvs,xs=[.ref p]/\H p=some (.dT kvs)/\Q (.int kvs.length) H
theorem cA:bZ X (.builtin "len") (bO X.K):=KN.or wf
def DS (H:Hp)(a:Addr)(y d:V)(r:V)(H':Hp):Prop:=(fJ H a y (some r)/\H'=H)\/(fJ H a y none/\xJ H a y d H'/\r=d)
theorem fL {A:Mq}{E:tx->If->Prop}{s:If}{P:LV}{w:Mx}{K:Type}[DecidableEq K]{knd:HeapKind P w K}{d a:Addr}{xs:List (K×Addr×tx)}{k:K}{v:tx}{Q:tx->If->Prop}(hu:knd.room A)(hkey:knd.is s.heap k a)(hm:s.heap.DictOfH knd d xs)
  (hthere:∀p,atKey xs k=some p->Q p.2 {s with toks:=s.toks+knd.draws k})
  (hQ:atKey xs k=none->∀h',h'.DictOfH knd d (storedH xs k a v)->Nd d s.heap h'->Q v {s with heap:=h',toks:=s.toks+knd.draws k})
  (hsz:xs.length<=sizeLine):
  wpAny (model P w) A (dictSetDefault d (.ref a) v) Q E s:=by
 obtain⟨o,es,ep,ho,hc,hd,he,his,hn⟩:=hm
 unfold dictSetDefault
 try with_reducible refine Ni ?_
 refine ah (knd.pyHash hu hkey ?_)
 refine ah (wpAny_dictFind_heap (s:={s with toks:=s.toks+knd.draws k}) hu hkey ho hd he his hn ?_ ?_)
 ·intro hno
  have hnot:k∉xs.map (·.1):=not_mem_keys_of_get hno
  refine ah (QB (ah (wpAny_updateDictKeys (hz:=by have e:=size_of_entries he;omega) (s:={s with toks:=s.toks+knd.draws k}) ho hd (Lo (hQ (PP hno) _ ⟨_,_,ep+1,My _ ho (Obj.isFreed_of_dict (SE hd _)),
   hc.mapDictKeys _,SE hd _,?_,?_,?_⟩ (OI ..))))))
  ·rw[Uk (PP hno)]
   simp[he,entryOfKey]
  ·rw[Uk (PP hno)]
   intro x hx
   rcases Mr.mp hx with hx|hx
   ·exact knd.keeps (his x hx) ho hd (OI ..)
   ·simp only[LK]at hx
    subst hx
    exact knd.keeps hkey ho hd (OI ..)
  ·rw[Uk (PP hno)]
   rw[LL,List.nodup_append]
   refine⟨hn,by simp,?_⟩
   intro x hx y hy
   simp only[Md,Ri,LK]at hy
   subst hy
   exact fun e=>hnot (e▸hx)
 ·intro j p hj
  refine ah (UH (s:={s with toks:=s.toks+knd.draws k}) ho hd ?_)
  rw[entry_at he j,hj]
  exact ah (QB (Lo (hthere p (atKey_of_get hn hj))))
end
theorem yy {h:Heap}{a:Addr}{its:Array tx}(p:PlainL h a its):h.IsList a its:=let ⟨o,n,e,c,_,d⟩:=p;⟨o,e,c,n,d⟩
set_option genInjectivity false in
set_option genSizeOf false in
structure dc where
 qual:Str
 body:FuncBody
 scope:Scope
 ps:List Str
 ys:List Str
def lT (t:dc)(cs:List Addr)(c:Addr)(fd:LI):Prop:=
 fd.qualname=t.qual/\fd.body=t.body/\fd.scope=t.scope/\fd.globals=mainGlobals/\fd.closure=t.ys.zip cs/\fd.code=.ref c/\fd.builtins=builtinsNs/\
  (∀us:List tx,us.length=t.ps.length->bindArgs fd ⟨us,[]⟩=pure (t.ps.zip us))/\cs.Nodup/\cs.length=t.ys.length
def dD (f:Addr)(t:dc)(cs:List Addr)(c:Addr):HO:=.ext fun h=>∃od fd sl,h.get? f=some ⟨.type "function",od,.func fd,sl⟩/\lT t cs c fd
def cE (c:Addr)(qual:Str):HO:=.ext fun h=>∃o vs tk,h.get? c=some o/\o.data=.fields vs/\vs[1]?=some (.str qual tk)
def cg (c:Addr)(v:V):HO:=.ext fun h=>∃u o,aX v u/\h.get? c=some o/\o.data=.cell (some u)
abbrev cG (H:Hp):List Addr->List V->Prop:=Paired fun c v=>H c=some (cg c v)
structure df (H:Hp)(f:Addr)(t:dc)(cs:List Addr)(cvs:List V):Prop where
 ex:∃c,H f=some (dD f t cs c)/\H c=some (cE c t.qual)
 cells:cG H cs cvs
theorem cG.mem {H:Hp}{cs:List Addr}{cvs:List V}(h:cG H cs cvs):∀c∈cs,∃v,H c=some (cg c v):=by
 induction h with
 |nil=>intro c hc;cases hc
 |cons r t ih=>
  intro c hc
  rcases LG.mp hc with rfl|hc
  ·exact⟨_,r⟩
  ·exact ih c hc
theorem cG.get {H:Hp}{cs:List Addr}{cvs:List V}(h:cG H cs cvs):∀{i:Nat}{v:V},cvs[i]? =some v->∃c,cs[i]? =some c/\H c=some (cg c v):=by
 induction h with
 |nil=>intro i v e;cases e
 | @cons c w cs ws r t ih=>
   intro i v e
   cases i with
   |zero=>cases e;exact⟨c,rfl,r⟩
   |succ i=>exact ih e
def cR (cs:List Addr)(H:Hp):Hp:=fun b=>if b∈cs then none else H b
def cz (cs:List Addr)(H H':Hp):Hp:=fun b=>if b∈cs then H b else H' b
theorem gQ {cs:List Addr}{H:Hp}{b:Addr}(h:b∈cs):cR cs H b=none:=if_pos h
theorem cL {cs:List Addr}{H:Hp}{b:Addr}(h:b∉cs):cR cs H b=H b:=if_neg h
theorem gW {cs:List Addr}{H H':Hp}{b:Addr}(h:b∈cs):cz cs H H' b=H b:=if_pos h
theorem cq {cs:List Addr}{H H':Hp}{b:Addr}(h:b∉cs):cz cs H H' b=H' b:=if_neg h
theorem ub (cs:List Addr)(H:Hp):cz cs H (cR cs H)=H:=by
 funext b
 by_cases h:b∈cs
 ·exact gW h
 ·rw[cq h,cL h]
theorem vz {cs:List Addr}{H H':Hp}{d:Addr}{o:HO}(h:d∉cs):cz cs H (upd H' d o)=upd (cz cs H H') d o:=by
 funext b
 by_cases hb:b∈cs
 ·have:b≠d:=fun e=>h (e▸hb)
  rw[gW hb,ao this,gW hb]
 ·rw[cq hb]
  by_cases e:b=d
  ·subst e;rw[ak,ak]
  ·rw[ao e,ao e,cq hb]
theorem cG.notin {H:Hp}{cs:List Addr}{cvs:List V}(h:cG H cs cvs){b:Addr}{o:HO}(e:H b=some o)(hn:∀φ,o≠.ext φ):b∉cs:=fun hb=>by
 obtain⟨v,ev⟩:=h.mem b hb
 rw[e]at ev
 exact hn _ (LR ev)
theorem cG.hide {H:Hp}{cs:List Addr}{cvs:List V}(h:cG H cs cvs){b:Addr}{o:HO}(e:H b=some o)(hn:∀φ,o≠.ext φ):cR cs H b=some o:=by
 rw[cL (h.notin e hn)];exact e
theorem aw.hide {H H':Hp}(cs:List Addr)(s:aw (cR cs H) H'):aw H (cz cs H H'):=fun b o e=>by
 by_cases hb:b∈cs
 ·rw[gW hb];exact e
 ·rw[cq hb];exact s _ _ (by rw[cL hb];exact e)
section
variable {P:LV}{w:Mx}{fs:List Addr}{H H':Hp}{h h':Heap}{cs:List Addr}{cvs:List V}
theorem AK (hc:cG H cs cvs)(ok:HOk P w H h):HOk P w (cR cs H) h:=fun b o e=>by
 by_cases hb:b∈cs
 ·rw[gQ hb]at e;cases e
 ·rw[cL hb]at e
  exact(ok b o e).stay (fun c u _ q=>q) (fun c q=>hc.hide q fun φ z=>nomatch z) fun c xs q=>hc.hide q fun φ z=>nomatch z
theorem sQ (hc:cG H cs cvs)(hfs:∀b∈fs,H b=none)(ok:HOk P w H h)(u:Un fs [] (cR cs H) H' h h')(ok':HOk P w H' h'):Un fs [] H (cz cs H H') h h'/\HOk P w (cz cs H H') h':=by
 have obj:∀c∈cs,∃v o,H c=some (cg c v)/\h.get? c=some o/\h'.get? c=some o/\H' c=none:=fun c hm=>by
  obtain⟨v,ev⟩:=hc.mem c hm
  obtain⟨_,⟨o,eo⟩,_⟩:=(show bg P w H h c (cg c v)from ok c _ ev)
  refine⟨v,o,ev,eo,u.keep c o eo (gQ hm) (fun z=>?_) (by simp),u.free c o eo (gQ hm) (by simp)⟩
  rw[hfs c z]at ev;cases ev
 have nin:∀b,H b=none->b∉cs:=fun b e hb=>by
  obtain⟨v,ev⟩:=hc.mem b hb
  rw[e]at ev;cases ev
 have nin':∀b o,H' b=some o->b∉cs:=fun b o e hb=>by
  obtain⟨_,_,_,_,_,z⟩:=obj b hb
  rw[e]at z;cases z
 refine⟨⟨fun b o e n hb hx=>u.keep b o e (by rw[cL (nin b n)];exact n) hb hx,fun b o e n hb hx=>u.slot b o e (by rw[cL (nin b n)];exact n) hb hx,
  fun b o e n hx=>by rw[cq (nin b n)];exact u.free b o e (by rw[cL (nin b n)];exact n) hx,u.there,fun b xs e=>?_,fun b o v e=>?_,fun b ps e=>?_⟩,fun b o e=>?_⟩
 ·have hb:=hc.notin e fun φ z=>nomatch z
  rw[cq hb];exact u.tups b xs (by rw[cL hb];exact e)
 ·have hb:=hc.notin e fun φ z=>nomatch z
  rw[cq hb];exact u.frzs b o v (by rw[cL hb];exact e)
 ·have hb:=hc.notin e fun φ z=>nomatch z
  rw[cq hb];exact u.tbls b ps (by rw[cL hb];exact e)
 ·by_cases hb:b∈cs
  ·rw[gW hb]at e
   obtain⟨v,o',ev,e1,e2,_⟩:=obj b hb
   rw[e]at ev;cases ev
   obtain⟨φ1,_,φ3⟩:=(show bg P w H h b (cg b v)from ok b _ e)
   exact⟨φ3 h h' φ1 fun q hq=>by rw[e1]at hq;cases hq;exact e2,⟨o',e2⟩,φ3⟩
  ·rw[cq hb]at e
   exact(ok' b o e).stay (fun c u _ q=>q) (fun c q=>by rw[cq (nin' c _ q)];exact q) fun c xs q=>by rw[cq (nin' c _ q)];exact q
theorem CR.back {outer:List Env}{s s':If}{Q:VK}{E:XK}{r:Qg}(hc:cG H cs cvs)(hfs:∀b∈frs outer,H b=none)(ok:HOk P w H s.heap)
  (h:CR (CX1 P w) outer P w (cR cs H) s (fun v H'=>Q v (cz cs H H')) (fun c a H'=>E c a (cz cs H H')) r s'):CR (CX1 P w) outer P w H s Q E r s':=by
 cases r with
 |error e=>
  obtain⟨a,C,d,H',rfl,F,q⟩:=h
  obtain⟨u,k⟩:=sQ hc hfs ok F.un F.hok
  have na:a∉cs:=fun hb=>by
   obtain⟨v,ev⟩:=hc.mem a hb
   obtain⟨_,⟨o,eo⟩,_⟩:=(show bg P w H s.heap a (cg a v)from ok a _ ev)
   rw[F.new]at eo;cases eo
  obtain⟨oe,vs,a0,T,oT,ts,t1,t2,td,t3,t4,t5,t6,t7,t8,t9,t10,t11⟩:=F.tr
  have nT:T∉cs:=fun hb=>by
   obtain⟨v,ev⟩:=hc.mem T hb
   obtain⟨_,⟨o,eo⟩,_⟩:=(show bg P w H s.heap T (cg T v)from ok T _ ev)
   rw[t10]at eo;cases eo
  exact⟨a,C,d,_,rfl,⟨F.os,F.bare,u,k,F.new,by rw[cq na];exact F.free,⟨oe,vs,a0,T,oT,ts,t1,t2,td,t3,t4,t5,t6,t7,t8,t9,t10,by rw[cq nT];exact t11⟩⟩,q⟩
 |ok fl=>
  cases fl with
  |ret u=>
   obtain⟨v,H',os,bare,un,hok,rv,q⟩:=h
   obtain⟨u',k⟩:=sQ hc hfs ok un hok
   exact⟨v,_,os,bare,u',k,rv,q⟩
  |next=>exact Mu h
  |brk=>exact Mu h
  |cont=>exact Mu h
end
structure fF (P:LV)(w:Mx)(K:pv)(mg:Str->Option tx)(base:Heap)(k:Nat)(t:dc)(sp:Sp):Prop where
 run:∀(A:Mq)(outer:List Env)(s:If)(H:Hp)(f:Addr)(cs:List Addr)(us:List tx)(vs cvs:List V)(Q:VK)(E:XK),bj k A->jz P w K mg base A outer s H->df H f t cs cvs->aY vs us->vs.length=t.ps.length->
  sp (vs++cvs) (cR cs H) (fun v H'=>Q v (cz cs H H')) (fun c a H'=>E c a (cz cs H H'))->codeAny (model P w) A (.call (.ref f) ⟨us,[]⟩) (CR (CX1 P w) outer P w H s Q E) s
def ef (N:List Str)(vs cvs:List V):St:=vs.map some++(RC (N.length- vs.length- cvs.length) none++cvs.map some)
def gw (P:LV)(w:Mx)(K:pv)(mg:Str->Option tx)(base:Heap)(N:List Str)(qual:Str)(scope:Scope)(f c:Addr)(cl:List (Str×Addr))(A:Mq)(outer:List Env)(s:If)(H:Hp)(E:XK):Cx where
 prog:=P
 w:=w
 K:=K
 mg:=mg
 base:=base
 A:=A.deeper (PV qual scope s.heap.objs.size f (.ref c) cl)
 N:=N
 s₀:=s
 H₀:=H
 env:=PV qual scope s.heap.objs.size f (.ref c) cl
 outer:=outer
 stack:=PV qual scope s.heap.objs.size f (.ref c) cl::outer
 ex:=[]
 calm:=true
 fn:=fun _=>false
 pn:=[]
 xe:=fun e s'=>wpAny (model P w) (A.deeper (PV qual scope s.heap.objs.size f (.ref c) cl)) (leaving (PV qual scope s.heap.objs.size f (.ref c) cl) e) (fun _ s''=>CX1 P w outer H s E e s'') (fun e' s''=>CX1 P w outer H s E e' s'') s'
structure eS (N ps ys:List Str)(sc:Scope):Prop where
 kind:sc.kind=.function
 co:sc.isCoroutine=false
 gen:sc.isGenerator=false
 nd:N.Nodup
 pre:N.take ps.length=ps
 suf:N.drop (N.length- ys.length)=ys
 le:ps.length+ys.length<=N.length
 par:∀x∈ps,sc.names.lookup x=some .local
 nocell:∀x∈sc.names,x.2≠.cell
 fr:∀x∈ys,sc.names.lookup x=some .free
 frs:∀y∈sc.names,y.2=.free->y.1∈ys
theorem mm {ys:List Str}{cs:List Addr}(hl:cs.length=ys.length)(nd:ys.Nodup):∀{i:Nat}{y:Str}{c:Addr},ys[i]? =some y->cs[i]? =some c->(ys.zip cs).lookup y=some c:=by
 induction ys generalizing cs with
 |nil=>intro i y c e;cases e
 |cons a r ih=>
  intro i y c e1 e2
  cases cs with
  |nil=>cases e2
  |cons b cs=>
   cases i with
   |zero=>cases e1;cases e2;show(Na _ ((_,_)::_))=_;rw[NB];simp
   |succ i=>
    have hne:y≠a:=fun e=>(MS.mp nd).1 (e▸Lu (show r[i]? =some y from e1))
    show(Na y ((a,b)::r.zip cs))=_
    rw[NB,show(y==a)=false from by simpa using hne]
    exact ih (by simpa using hl) (MS.mp nd).2 (show r[i]? =some y from e1) (show cs[i]? =some c from e2)
theorem gn {ys:List Str}{cs:List Addr}:∀{y:Str}{c:Addr},(ys.zip cs).lookup y=some c->∃i:Nat,ys[i]? =some y/\cs[i]? =some c:=by
 induction ys generalizing cs with
 |nil=>intro y c e;cases e
 |cons a r ih=>
  intro y c e
  cases cs with
  |nil=>cases e
  |cons b cs=>
   have e:(Na y ((a,b)::r.zip cs))=some c:=e
   rw[NB]at e
   by_cases hy:(y==a)=true
   ·rw[hy]at e;cases e;exact⟨0,by simpa using(TU hy).symm,rfl⟩
   ·rw[show(y==a)=false from by simpa using hy]at e
    obtain⟨i,h1,h2⟩:=ih e
    exact⟨i+1,h1,h2⟩
theorem nI {ps:List Str}{us:List tx}(nd:ps.Nodup):∀{i:Nat}{x:Str}{u:tx},ps[i]? =some x->us[i]? =some u->(ps.zip us).reverse.lookup x=some u:=by
 induction ps generalizing us with
 |nil=>intro i x u e;cases e
 |cons a r ih=>
  intro i x u e1 e2
  cases us with
  |nil=>cases e2
  |cons b us=>
   show(Na x ((a,b)::r.zip us).reverse)=_
   rw[Og,List.lookup_append]
   cases i with
   |zero=>
    cases e1;cases e2
    have:(r.zip us).reverse.lookup a=none:=by
     rw[List.lookup_eq_none_iff]
     intro p hp
     have:=(Nv (TL.mp hp)).1
     simp only[beq_eq_false_iff_ne,ne_eq,bne_iff_ne]
     intro e
     exact(MS.mp nd).1 (by rw[<-e]at this;exact this)
    rw[this];simp
   |succ i=>
    rw[ih (MS.mp nd).2 (show r[i]? =some x from e1) (show us[i]? =some u from e2)];rfl
section
variable {P:LV}{w:Mx}{K:pv}{mg:Str->Option tx}{base:Heap}{N ps ys:List Str}{qual:Str}{scope:Scope}{f c:Addr}{A:Mq}{outer:List Env}{s:If}{H:Hp}{E:XK}{us:List tx}{vs cvs:List V}{cs:List Addr}{h1:Heap}{tk:Nat}
theorem sq (S:eS N ps ys scope)(hd:A.handled=none)(e0:jz P w K mg base A outer s H)(ca:cG H cs cvs)(hcs:cs.Nodup)(hcl:cs.length=ys.length)(hl:vs.length=ps.length)(r:aY vs us)
  (hns:h1.Ns s.heap.objs.size (fun x=>(ps.zip us).reverse.lookup x))(hk:∀b o,s.heap.get? b=some o->h1.get? b=some o):
  Inv (gw P w K mg base N qual scope f c (ys.zip cs) A outer s (cR cs H) E) [] (ef N vs cvs) (cR cs H) {s with heap:=h1,toks:=tk}:=by
 have ndY:ys.Nodup:=by rw[<-S.suf];exact S.nd.sublist (List.drop_sublist _ _)
 have ndP:ps.Nodup:=by rw[<-S.pre];exact S.nd.sublist (Tf _ _)
 have lcv:cvs.length=ys.length:=by rw[<-hcl];exact(Paired.length ca).symm
 have cellOf:∀c∈cs,∃v,h1.IsCell c v:=fun c hm=>by
  obtain⟨v,ev⟩:=ca.mem c hm
  obtain⟨⟨u,o,_,eo,hd⟩,_,_⟩:=(show bg P w H s.heap c (cg c v)from e0.hok c _ ev)
  exact⟨_,o,hk _ _ eo,hd⟩
 have memC:∀x c,(ys.zip cs).lookup x=some c->c∈cs:=fun x c e=>by
  obtain⟨i,_,e2⟩:=gn e
  exact Lu e2
 have noA:∀b:Addr,b∉(gw P w K mg base N qual scope f c (ys.zip cs) A outer s (cR cs H) E).ex:=fun b z=>absurd (show b∈([]:List Addr)from z) (by simp)
 have hid:∀b,H b=none->cR cs H b=none:=fun b e=>by
  by_cases hb:b∈cs
  ·exact gQ hb
  ·rw[cL hb];exact e
 refine⟨⟨e0.mod,S.kind,rfl,rfl,gV _,fun y z c h1 h2=>?_,fun y hy=>?_,fun y c hf _=>?_,fun _=>hd,RY e0.frames,.inr ⟨rfl,rfl⟩,fun b z=>absurd z (noA b),fun b o e=>⟨(e0.bs b o e).1,hid b (e0.bs b o e).2⟩,e0.bsz,fun b _ _=>noA b,fun b z=>absurd z (noA b),e0.funs,fun b hb=>hid b (e0.frf b hb)⟩,
  rfl,e0.bare,Un.kept hk,⟨_,hns,fun i y v q1 q2 q3=>?_⟩,fun y c h=>cellOf c (memC y c h),hid _ (e0.hok.fresh (gV _)),fun y c h=>gQ (memC y c h),fun p hp=>absurd (show p∈([]:List (Addr×Obj))from hp) (by simp),(AK ca e0.hok).kept hk,?_⟩
 ·obtain⟨i,e1,e2⟩:=gn (show(ys.zip cs).lookup y=some c from h1)
  obtain⟨j,e3,e4⟩:=gn (show(ys.zip cs).lookup z=some c from h2)
  have:i=j:=by
   obtain⟨a1,b1⟩:=Lq.mp e2
   obtain⟨a2,b2⟩:=Lq.mp e4
   exact(TN hcs).mp (b1.trans b2.symm)
  subst this
  rw[e1]at e3;exact LR e3
 ·have hy:scope.names.lookup y=some .cell\/scope.names.lookup y=some .free:=hy
  rcases hy with hy|hy
  ·exact absurd rfl (S.nocell _ (MY hy))
  ·obtain⟨i,hi,e⟩:=SC.mp (S.frs _ (MY hy) rfl)
   have hi2:i<cs.length:=by omega
   exact⟨cs[i],mm hcl ndY (Lq.mpr ⟨hi,e⟩) (Gt hi2)⟩
 ·exact absurd (show false=true from hf) LQ
 ·unfold ef at q2
  by_cases hi:i<vs.length
  ·rw[Me (by simpa using hi),LO]at q2
   have ha:vs[i]?=some v:=by
    cases e:vs[i]? with
    |none=>rw[e]at q2;cases q2
    |some a=>rw[e]at q2;cases q2;rfl
   obtain⟨u,hu,rv⟩:=r.get ha
   have hp:ps[i]?=some y:=by
    rw[<-S.pre,ME (by omega)];exact q1
   exact⟨u,rv,.inl ⟨S.par y (Lu hp),nI ndP hp hu⟩⟩
  ·rw[Mf (by simpa using hi),Ll]at q2
   by_cases hj:i- vs.length<N.length- vs.length- cvs.length
   ·rw[Me (by simpa using hj),RP]at q2
    split at q2<;>cases q2
   ·rw[Mf (by simpa using hj),PY,LO]at q2
    have ha:cvs[i- vs.length- (N.length- vs.length- cvs.length)]?=some v:=by
     cases e:cvs[i- vs.length- (N.length- vs.length- cvs.length)]? with
     |none=>rw[e]at q2;cases q2
     |some a=>rw[e]at q2;cases q2;rfl
    have hle:=S.le
    have hiN:i<N.length:=(Lq.mp q1).1
    have hx:i- vs.length- (N.length- vs.length- cvs.length)=i- (N.length- ys.length):=by omega
    rw[hx]at ha
    have hy:ys[i- (N.length- ys.length)]?=some y:=by
     have e1:N.drop (N.length- ys.length)=ys:=S.suf
     have e2:(N.drop (N.length- ys.length))[i- (N.length- ys.length)]?=some y:=by
      rw[SX]
      rw[show N.length- ys.length+(i- (N.length- ys.length))=i by omega];exact q1
     rw[e1]at e2;exact e2
    obtain⟨c,ec,hc⟩:=ca.get ha
    obtain⟨⟨u,o,ru,eo,hdo⟩,_,_⟩:=(show bg P w H s.heap c (cg c v)from e0.hok c _ hc)
    exact⟨u,ru,.inr ⟨.inr (S.fr y (Lu hy)),c,mm hcl ndY hy ec,o,hk _ _ eo,hdo⟩⟩
 ·unfold ef
  show _=N.length
  have:=S.le
  rw[Lm,Lm,Ll,Ll,PY]
  omega
end
section
variable {P:LV}{w:Mx}{K:pv}{mg:Str->Option tx}{base:Heap}{k:Nat}{t:dc}{N:List Str}{sp:Sp}
theorem uZ {body:List Stmt}(hb:t.body=.stmts body)(S:eS N t.ps t.ys t.scope)
  (hbody:∀(f c:Addr)(cl:List (Str×Addr))(A:Mq)(outer:List Env)(s:If)(H:Hp)(vs cvs:List V)(Q:VK)(E:XK),bj k (A.deeper (PV t.qual t.scope s.heap.objs.size f (.ref c) cl))->vs.length=t.ps.length->cvs.length=t.ys.length->sp (vs++cvs) H Q E->
   ∃td,PSs (gw P w K mg base N t.qual t.scope f c cl A outer s H E) body td/\td {nx:=fun _ H'=>Q .non H',rt:=Q} (ef N vs cvs) H):fF P w K mg base (k+1) t sp:=by
 refine⟨fun A outer s H f cs us vs cvs Q E hr e0 ca r hl hsp=>?_⟩
 obtain⟨c,hf,hcc⟩:=ca.ex
 have KX:K.In s.heap:=e0.mod.kin.keeps fun b o e=>(e0.bs b o e).1
 have lim:s.heap.NoLimit:=e0.mod.nolimit.keeps fun b o e=>(e0.bs b o e).1
 obtain⟨⟨od,fd,sl,ho,h1,h2,h3,h4,h5,h6,h7,h8,h9,h10⟩,_,_⟩:=(show bg P w H s.heap f (dD f t cs c)from e0.hok f _ hf)
 obtain⟨⟨o,vs',tk,hco,hdo,hv⟩,_,_⟩:=(show bg P w H s.heap c (cE c t.qual)from e0.hok c _ hcc)
 have hcd:s.heap.CodeRec fd.code fd.qualname:=⟨c,o,vs',tk,h6,hco,hdo,by rw[h1];exact hv⟩
 refine NY (Qu (R:=CR (CX1 P w) outer P w (cR cs H) s (fun v H'=>Q v (cz cs H H')) (fun c a H'=>E c a (cz cs H H'))) hr.depth ho rfl (by rw[h3];exact S.co) (by rw[h3];exact S.gen) (h2.trans hb) hcd ?_) fun r s' h=>CR.back ca.cells e0.frf e0.hok h
 rw[h8 us (by rw[<-r.length];exact hl),h3,h4,h5,h1,h6,h7]
 refine Lo (Ph S.nocell (fun y hy=>S.par y.1 (Nv hy).1) (fun h' hns hsb=>⟨lim.fresh _ hsb,?_⟩) S.kind)
 have hk:∀b o,s.heap.get? b=some o->h'.get? b=some o:=fun b o e=>hsb.extBut b o (LH (Lt e)) (cW _ e)
 have lcv:cvs.length=t.ys.length:=by rw[<-h10];exact(Paired.length ca.cells).symm
 obtain⟨td,ht,hq⟩:=hbody f c (t.ys.zip cs) A outer s (cR cs H) vs cvs _ _ (hr.deeper _) hl lcv hsp
 have I:=sq (tk:=s.toks+(t.ps.zip us).length) (qual:=t.qual) (f:=f) (c:=c) (E:=fun c a H'=>E c a (cz cs H H')) S hr.hd e0 ca.cells h9 h10 hl r hns hk
 show codeAny _ _ (.func body (PV t.qual t.scope s.heap.objs.size f (.ref c) (t.ys.zip cs))) _ _
 refine Tr ?_
 refine Ma (ht [] _ (ef N vs cvs) _ _ I hq) (fun fl s' hs=>?_) fun e s' hs=>hs
 cases fl with
 |ret u=>
  obtain⟨v,σ',H',J,rv,q⟩:=hs
  exact⟨v,H',J.os,J.bare,J.base,J.hok,rv,q⟩
 |next=>
  obtain⟨σ',H',J,q⟩:=hs
  exact⟨V.non,H',J.os,J.bare,J.base,J.hok,rfl,q⟩
 |brk=>
  obtain⟨_,_,_,q⟩:=hs
  exact Mu q
 |cont=>
  obtain⟨_,_,_,q⟩:=hs
  exact Mu q
theorem nH {body:Expr}(hb:t.body=.expr body)(S:eS N t.ps t.ys t.scope)
  (hbody:∀(f c:Addr)(cl:List (Str×Addr))(A:Mq)(outer:List Env)(s:If)(H:Hp)(vs cvs:List V)(Q:VK)(E:XK),bj k (A.deeper (PV t.qual t.scope s.heap.objs.size f (.ref c) cl))->vs.length=t.ps.length->cvs.length=t.ys.length->sp (vs++cvs) H Q E->
   ∃te,PE (gw P w K mg base N t.qual t.scope f c cl A outer s H E) body te/\te (ef N vs cvs) H Q):fF P w K mg base (k+1) t sp:=by
 refine⟨fun A outer s H f cs us vs cvs Q E hr e0 ca r hl hsp=>?_⟩
 obtain⟨c,hf,hcc⟩:=ca.ex
 have KX:K.In s.heap:=e0.mod.kin.keeps fun b o e=>(e0.bs b o e).1
 have lim:s.heap.NoLimit:=e0.mod.nolimit.keeps fun b o e=>(e0.bs b o e).1
 obtain⟨⟨od,fd,sl,ho,h1,h2,h3,h4,h5,h6,h7,h8,h9,h10⟩,_,_⟩:=(show bg P w H s.heap f (dD f t cs c)from e0.hok f _ hf)
 obtain⟨⟨o,vs',tk,hco,hdo,hv⟩,_,_⟩:=(show bg P w H s.heap c (cE c t.qual)from e0.hok c _ hcc)
 have hcd:s.heap.CodeRec fd.code fd.qualname:=⟨c,o,vs',tk,h6,hco,hdo,by rw[h1];exact hv⟩
 refine NY (W.kla_callFunE (R:=CR (CX1 P w) outer P w (cR cs H) s (fun v H'=>Q v (cz cs H H')) (fun c a H'=>E c a (cz cs H H'))) hr.depth ho rfl (by rw[h3];exact S.co) (by rw[h3];exact S.gen) (h2.trans hb) hcd ?_) fun r s' h=>CR.back ca.cells e0.frf e0.hok h
 rw[h8 us (by rw[<-r.length];exact hl),h3,h4,h5,h1,h6,h7]
 refine Lo (Ph S.nocell (fun y hy=>S.par y.1 (Nv hy).1) (fun h' hns hsb=>⟨lim.fresh _ hsb,?_⟩) S.kind)
 have hk:∀b o,s.heap.get? b=some o->h'.get? b=some o:=fun b o e=>hsb.extBut b o (LH (Lt e)) (cW _ e)
 have lcv:cvs.length=t.ys.length:=by rw[<-h10];exact(Paired.length ca.cells).symm
 obtain⟨te,ht,hq⟩:=hbody f c (t.ys.zip cs) A outer s (cR cs H) vs cvs _ _ (hr.deeper _) hl lcv hsp
 have I:=sq (tk:=s.toks+(t.ps.zip us).length) (qual:=t.qual) (f:=f) (c:=c) (E:=fun c a H'=>E c a (cz cs H H')) S hr.hd e0 ca.cells h9 h10 hl r hns hk
 show codeAny _ _ (.expr body (PV t.qual t.scope s.heap.objs.size f (.ref c) (t.ys.zip cs))) _ _
 refine W.kla_codeExpr ?_
 refine Ma (ht [] _ (ef N vs cvs) _ _ I hq) (fun v s' hs=>?_) fun e s' hs=>hs
 obtain⟨x,H',J,rv,q⟩:=hs
 exact⟨x,H',J.os,J.bare,J.base,J.hok,rv,q⟩
end
def BM (mg:Str->Option tx)(h:Heap):Prop:=∃bm ob,mg "__builtins__"=some (.ref bm)/\bm≠builtinsNs/\h.get? bm=some ob/\ob.cls=.type "module"/\ob.dict=some builtinsNs/\ob.data=.plain
section
variable {X:Cx}{pins:List (Addr×Obj)}{σ:St}{H:Hp}{s:If}{P c:Addr}{ps:Array tx}{t:dc}{cs:List Addr}{h':Heap}{tk:Nat}{fd:LI}
theorem qq {more:Array tx}(I:Inv X pins σ H s)(hP:H P=some (.tbl ps))(hx:SH P s.heap h')(hge:s.heap.objs.size<=c)(hlt:c<h'.objs.size)(hrec:h'.CodeRec (.ref c) t.qual)
  (htb:h'.get? P=some (Sm (ps++more)))(hfd:lT t cs c fd):
  Inv X pins σ (upd (upd (upd H P (.tbl (ps++more))) c (cE c t.qual)) h'.objs.size (dD h'.objs.size t cs c)) {s with heap:=h'.push {cls:=.type "function",data:=.func fd},toks:=tk}:=by
 have hcn:H c=none:=I.hok.fresh hge
 have hfn:H h'.objs.size=none:=I.hok.fresh (Ng (MM hge hlt))
 have ncP:c≠P:=(ax hP hcn).symm
 have nfP:h'.objs.size≠P:=(ax hP hfn).symm
 have ncf:c≠h'.objs.size:=LH hlt
 have old:∀b o,s.heap.get? b=some o->b≠c/\b≠h'.objs.size:=fun b o e=>⟨LH (LN (Lt e) hge),LH (LN (Lt e) (Ng (MM hge hlt)))⟩
 have keepP:∀b o,b≠P->s.heap.get? b=some o->(h'.push {cls:=.type "function",data:=.func fd}).get? b=some o:=fun b o hb e=>cW _ (hx b o hb e)
 have neP:∀b,H b=none->b≠P:=fun b e z=>by rw[z,hP]at e;cases e
 have obj:∀b o,H b=some o->∃u,s.heap.get? b=some u:=fun b o e=>jy (I.hok b o e)
 have same:∀b o,H b=some o->b≠P->(upd (upd (upd H P (.tbl (ps++more))) c (cE c t.qual)) h'.objs.size (dD h'.objs.size t cs c)) b=some o:=fun b o e hb=>by
  rw[ao (ax e hfn),ao (ax e hcn),ao hb];exact e
 refine I.un ⟨fun b o e n hb hx'=>keepP b o (neP b n) e,fun b o e n hb hx'=>⟨o.slots,keepP b o (neP b n) e⟩,fun b o e n hx'=>?_,fun b o e hx'=>?_,fun b xs e=>same b _ e (aU e hP (fun z=>nomatch z)),fun b o u e=>same b _ e (aU e hP (fun z=>nomatch z)),fun b qs e=>?_⟩ fun b o e=>?_
 ·rw[ao (old b o e).2,ao (old b o e).1,ao (neP b n)];exact n
 ·by_cases hb:b=P
  ·subst hb;exact⟨_,cW _ htb⟩
  ·exact⟨o,keepP b o hb e⟩
 ·by_cases hb:b=P
  ·subst hb
   rw[hP]at e;cases e
   exact⟨more,by rw[ao nfP.symm,ao ncP.symm,ak]⟩
  ·exact⟨#[],by rw[same b _ e hb];simp⟩
 ·by_cases hf:b=h'.objs.size
  ·subst hf
   rw[ak]at e;cases e
   refine⟨⟨_,fd,_,Ly _ rfl,hfd⟩,⟨_,Ly _ rfl⟩,?_⟩
   rintro h1 h2 ⟨od,fd',sl,e1,e2⟩ k
   exact⟨od,fd',sl,k _ e1,e2⟩
  ·rw[ao hf]at e
   by_cases hc:b=c
   ·subst hc
    rw[ak]at e;cases e
    obtain⟨c2,oc,vs,tq,e0,e1,e2,e3⟩:=hrec
    cases e0
    refine⟨⟨oc,vs,tq,cW _ e1,e2,e3⟩,⟨_,cW _ e1⟩,?_⟩
    rintro h1 h2 ⟨o,vs,tk,a1,a2,a3⟩ k
    exact⟨o,vs,tk,k _ a1,a2,a3⟩
   ·rw[ao hc]at e
    by_cases hp:b=P
    ·subst hp
     rw[ak]at e;cases e
     exact cW _ htb
    ·rw[ao hp]at e
     refine(I.hok b o e).stay (fun a u ha q=>keepP a u ?_ q) (fun a q=>same a _ q (aU q hP (fun z=>nomatch z))) fun a xs q=>same a _ q (aU q hP (fun z=>nomatch z))
     rcases ha with rfl|ha
     ·exact hp
     ·exact aU ha hP (fun z=>nomatch z)
theorem rC (I:Inv X pins σ H s)(hk:∀b o,s.heap.get? b=some o->h'.get? b=some o)(hsz:s.heap.objs.size<=h'.objs.size)(hfd:lT t cs c fd):
  Inv X pins σ (upd H h'.objs.size (dD h'.objs.size t cs c)) {s with heap:=h'.push {cls:=.type "function",data:=.func fd},toks:=tk}:=by
 refine I.laid (a:=h'.objs.size) (o:=dD h'.objs.size t cs c) (fun b u e=>cW _ (hk b u e)) hsz ⟨⟨_,fd,_,Ly _ rfl,hfd⟩,⟨_,Ly _ rfl⟩,?_⟩
 rintro h1 h2 ⟨od,fd',sl,e1,e2⟩ k
 exact⟨od,fd',sl,k _ e1,e2⟩
end
def lG (P:Addr)(pos:Pos)(t:dc)(cs:List Addr):TE:=fun _ H Q=>∃ps,H P=some (.tbl ps)/\TriplesOk ps.toList/\
 ((codeAmong pos ps.toList=none/\∀c f,H c=none->H f=none->c≠f->Q (.ref f) (upd (upd (upd H P (.tbl (ps++#[rawInt pos.line,rawInt pos.col,.ref c]))) c (cE c t.qual)) f (dD f t cs c)))\/
  ∃c,codeAmong pos ps.toList=some (.ref c)/\∀f,H f=none->Q (.ref f) (upd H f (dD f t cs c)))
section
variable {X:Cx}{c0 P:Addr}{params:Arguments}{scope:Scope}{pos:Pos}{t:dc}{cs:List Addr}
theorem sL {pins:List (Addr×Obj)}{σ:St}{H:Hp}{s:If}{ps:Array tx}(I:Inv X pins σ H s)(hP:H P=some (.tbl ps))(B:BM X.mg X.base):
  s.heap.get? P=some (Sm ps)/\s.heap.Ns mainGlobals X.mg/\mainGlobals≠P/\s.heap.BuiltinsAt X.mg P:=by
 have hPo:s.heap.get? P=some (Sm ps):=I.hok P _ hP
 have hg:s.heap.Ns mainGlobals X.mg:=I.mod.glob.keeps I.bk
 have hgP:mainGlobals≠P:=fun q=>by
  obtain⟨o,es,ep,e,hd,_⟩:=hg
  rw[q,hPo]at e;cases e;cases hd
 obtain⟨bm,ob,b1,b2,b3,b4,b5,b6⟩:=B
 have b3':=I.bk _ _ b3
 refine⟨hPo,hg,hgP,bm,ob,b1,b2,fun q=>?_,fun q=>?_,b3',b4,b5,b6⟩
 ·obtain⟨o,es,ep,e,hd,_⟩:=hg
  rw[q,e]at b3';cases b3';rw[hd]at b6;cases b6
 ·rw[q,hPo]at b3';cases b3';cases b4
theorem uM {body:Expr}(B:BM X.mg X.base)(C:NX X.base c0 P)(hcode:X.env.code=.ref c0)(hcl:closureFor scope X.env=pure (t.ys.zip cs))(nd:cs.Nodup)(hl:cs.length=t.ys.length)
  (hq:X.env.qual++"<lambda>"=t.qual)(hb:t.body=.expr body)(hs:t.scope=scope)
  (hbind:∀(cl:List (Str×Addr))(pm cdv ct:tx)(us:List tx),us.length=t.ps.length->bindArgs (W.kla_fn "<lambda>" t.qual params body scope cl pm cdv ct) ⟨us,[]⟩=pure (t.ps.zip us))
  (hdef:defaultsOf params X.env=([],[]):=by rfl):QE X (.Lambda params body scope pos) (lG P pos t cs):=⟨fun pins s σ H Q I h=>by
 obtain⟨ps,hP,ht,h⟩:=h
 obtain⟨hPo,hg,hgP,hB⟩:=sL I hP B
 have hfd:∀(pm ct:tx)(c:Addr),lT t cs c (W.kla_fn "<lambda>" t.qual params body scope (t.ys.zip cs) pm (.ref c) ct):=fun pm ct c=>⟨rfl,hb.symm,hs.symm,rfl,rfl,rfl,rfl,hbind _ _ _ _,nd,hl⟩
 refine W.kla_eval hdef ?_
 rw[hq]
 rcases h with⟨hn,q⟩|⟨c,hf,q⟩
 ·refine W.kla_makeFunction hcl I.ok.glob hg hcode (C.keeps I.bk) hPo ht hn hgP hB fun c ctv h' tk hx hge hlt hrec htb=>?_
  exact⟨.ref h'.objs.size,_,qq I hP hx hge hlt hrec htb (hfd _ _ _),rfl,q c h'.objs.size (I.hok.fresh hge) (I.hok.fresh (Ng (MM hge hlt))) (LH hlt)⟩
 ·refine W.kla_makeFunctionHit hcl I.ok.glob hg hcode (C.keeps I.bk) hPo ht hf hB fun ctv h' tk hk hsz=>?_
  exact⟨.ref h'.objs.size,_,rC I hk hsz (hfd _ _ _),rfl,q h'.objs.size (I.hok.fresh hsz)⟩⟩
theorem zV (i:Nat){name:Str}{body:List Stmt}(hN:X.N.Nodup)(B:BM X.mg X.base)(C:NX X.base c0 P)(hcode:X.env.code=.ref c0)(hcl:closureFor scope X.env=pure (t.ys.zip cs))(nd:cs.Nodup)(hl:cs.length=t.ys.length)
  (hq:qualnameIn X.env name name=t.qual)(hb:t.body=.stmts body)(hs:t.scope=scope)
  (hbind:∀(cl:List (Str×Addr))(doc pm cdv ct:tx)(us:List tx),us.length=t.ps.length->bindArgs (W.fnX name t.qual params body scope cl .none .none doc pm none cdv ct) ⟨us,[]⟩=pure (t.ps.zip us))
  (hi:X.N[i]?=some name:=by rfl)(hx:Loc X.env.scope name:=by first|exact .inl rfl|exact .inr rfl)(hf:X.fn name=true\/X.env.scope.names.lookup name=some .local:=by first|exact .inl rfl|exact .inr rfl)
  (hd0:params.defaults=[]:=by rfl)(hk0:params.kw_defaults=[]:=by rfl)(ha:annTrees params none X.env=[]:=by rfl):
  QS X (.FunctionDef name params body [] none [] scope none name pos) (aD (lG P pos t cs) (aB i)):=⟨fun pins s σ H D I h=>by
 obtain⟨ps,hP,ht,h⟩:=h
 obtain⟨hPo,hg,hgP,hB⟩:=sL I hP B
 have hfd:∀(doc pm ct:tx)(c:Addr),lT t cs c (W.fnX name t.qual params body scope (t.ys.zip cs) .none .none doc pm none (.ref c) ct):=fun doc pm ct c=>⟨rfl,hb.symm,hs.symm,rfl,rfl,rfl,rfl,hbind _ _ _ _ _,nd,hl⟩
 refine W.nestDef_K hd0 hk0 ha ?_
 rw[hq]
 rcases h with⟨hn,q⟩|⟨c,hff,q⟩
 ·refine W.makeFunction_K hcl I.ok.glob hg hcode (C.keeps I.bk) hPo ht hn hgP hB fun c ctv doc h' tk hx' hge hlt hrec htb=>?_
  have I2:=qq (tk:=tk) (cs:=cs) I hP hx' hge hlt hrec htb (hfd doc ((X.mg "__name__").getD .none) ctv c)
  exact fW I2 hN hi hx (v:=.ref h'.objs.size) rfl (fun s' I3=>⟨_,_,I3,q c h'.objs.size (I.hok.fresh hge) (I.hok.fresh (Ng (MM hge hlt))) (LH hlt)⟩) hf
 ·refine W.makeFunction_hit hcl I.ok.glob hg hcode (C.keeps I.bk) hPo ht hff hB fun ctv doc h' tk hk hsz=>?_
  have I2:=rC (tk:=tk) (cs:=cs) I hk hsz (hfd doc ((X.mg "__name__").getD .none) ctv c)
  exact fW I2 hN hi hx (v:=.ref h'.objs.size) rfl (fun s' I3=>⟨_,_,I3,q h'.objs.size (I.hok.fresh hsz)⟩) hf⟩
end
section
variable {X:Cx}{k:Nat}{E:St->XK}{x:Str}{p pos:Pos}{e:Expr}{es:List Expr}{ta:TE}
abbrev im:=List (dc×Sp)
def mF (ks:im)(f:Addr)(vs:List V)(H:Hp)(Q:VK)(E:XK):Prop:=∃ts∈ks,∃cs cvs,df H f ts.1 cs cvs/\vs.length=ts.1.ps.length/\ts.2 (vs++cvs) (cR cs H) (fun v H'=>Q v (cz cs H H')) (fun c a H'=>E c a (cz cs H H'))
def gc (ks:im)(E:St->XK)(ta:TE)(t:TA):TE:=fun σ H Q=>ta σ H fun x H1=>∃f,x=.ref f/\(∃ts∈ks,∃cs cvs,df H1 f ts.1 cs cvs)/\t σ H1 fun vs H2=>mF ks f vs H2 Q (E σ)
theorem mv {P:LV}{w:Mx}{H:Hp}{h:Heap}{f:Addr}{t:dc}{cs:List Addr}{cvs:List V}(ok:HOk P w H h)(c:df H f t cs cvs):W.FnAt f h:=by
 obtain⟨c',hf,_⟩:=c.ex
 obtain⟨⟨od,fd,sl,ho,_⟩,_,_⟩:=(show bg P w H h f (dD f t cs c')from ok f _ hf)
 exact⟨_,_,_,_,ho⟩
def kP (P:LV)(w:Mx)(K:pv)(mg:Str->Option tx)(base:Heap)(k:Nat)(ks:im):Prop:=∀ts∈ks,fF P w K mg base k ts.1 ts.2
theorem fH {ks:im}{t:TA}(hk:kP X.prog X.w X.K X.mg X.base k ks)(hr:bj k X.A)(hx:eJ (CX1 X.prog X.w) X E)(hg:QE X (.Name x p) ta)(ha:QA X (e::es) t)(hs:bo (e::es)=true:=by rfl):
  QE X (.Call (.Name x p) (e::es) [] pos) (gc ks E ta t):=⟨fun pins s σ H Q I h=>by
 have h':(bR e&&bo es)=true:=hs
 refine MB (thn (hg.out pins s σ H _ I h) fun u s1 ⟨y,H1,I1,ry,f,ey,⟨ts,hts,cs,cvs,ca⟩,q⟩=>?_)
 subst ey
 obtain rfl:u=LF f:=ry
 refine W.callWith_F (mv I1.hok ca) (thn (ha.out pos pins s1 σ H1 _ I1 q) fun us s2 ⟨vs,H2,I2,rv,ts2,hm2,cs2,cvs2,ca2,hl,hsp⟩=>⟨mv I2.hok ca2,?_⟩)
  (aZ (Lv.mp h').1 es X.env) (bQ (Lv.mp h').2)
 refine QC (NY ((hk ts2 hm2).run X.A X.stack s2 H2 f cs2 us vs cvs2 Q (E σ) hr I2.env0 ca2 rv hl hsp) fun r s' hq=>?_)
 cases r with
 |error e=>exact hx pins σ H2 s2 e s' I2 hq
 |ok fl=>
  cases fl with
  |ret u=>exact I2.after hq
  |next=>exact Mu hq
  |brk=>exact Mu hq
  |cont=>exact Mu hq⟩
end
structure ku where
 nx:St->Hp->Prop
 rt:St->VK
abbrev TSM:=ku->St->Hp->Prop
def SPM (X:Cx)(pins:List (Addr×Obj))(D:ku)(f:Flow)(s':If):Prop:=
 match f with
 |.next=>∃σ' H',Inv X pins σ' H' s'/\D.nx σ' H'
 |.ret u=>∃v σ' H',Inv X pins σ' H' s'/\aX v u/\D.rt σ' v H'
 |_=>False
structure QM (X:Cx)(st:Stmt)(t:TSM):Prop where
 out:∀(pins:List (Addr×Obj))(s:If)(σ:St)(H:Hp)(D:ku),Inv X pins σ H s->t D σ H->wpAny (model X.prog X.w) X.A (exec st X.env) (SPM X pins D) X.xe s
structure QMs (X:Cx)(st:List Stmt)(t:TSM):Prop where
 out:∀(pins:List (Addr×Obj))(s:If)(σ:St)(H:Hp)(D:ku),Inv X pins σ H s->t D σ H->wpAny (model X.prog X.w) X.A (execs st X.env) (SPM X pins D) X.xe s
def fQ (t u:TSM):TSM:=fun D σ H=>t {D with nx:=fun σ' H'=>u D σ' H'} σ H
def fb (t:TS):TSM:=fun D σ H=>t {nx:=D.nx,rt:=fun _ _=>False} σ H
def nj (te:TE):TSM:=fun D σ H=>te σ H (D.rt σ)
section
variable {X:Cx}{st:Stmt}{sts l m:List Stmt}{t u:TSM}{tS:TS}{e c:Expr}{te:TE}{tc:TT}{pos:Pos}
theorem dX (h:QS X st tS):QM X st (fb tS):=⟨fun pins s σ H D I hq=>thn (h.out pins s σ H _ I hq) fun f s1 q=>by
 cases f with
 |next=>exact q
 |ret v=>obtain⟨_,_,_,_,_,z⟩:=q;exact z.elim
 |brk=>obtain⟨_,_,_,z⟩:=q;exact z.elim
 |cont=>obtain⟨_,_,_,z⟩:=q;exact z.elim⟩
theorem mG (h:QE X e te):QM X (.Return (some e) pos) (nj te):=⟨fun pins s σ H D I hq=>
 UI (thn (h.out pins s σ H _ I hq) fun v s1 ⟨x,H1,I1,r1,q1⟩=>⟨x,σ,H1,I1,r1,q1⟩)⟩
theorem dY (h1:QM X st t)(h2:QMs X sts u):QMs X (st::sts) (fQ t u):=⟨fun pins s σ H D I h=>by
 refine Qf (thn (h1.out pins s σ H _ I h) fun f s1 q=>?_)
 cases f with
 |next=>
  obtain⟨σ',H',I',q⟩:=q
  exact h2.out pins s1 σ' H' D I' q
 |ret v=>exact q
 |brk=>exact q
 |cont=>exact q⟩
theorem lP (h1:QM X st t):QMs X [st] t:=⟨fun pins s σ H D I h=>by
 refine Qf (thn (h1.out pins s σ H D I h) fun f s1 q=>?_)
 cases f with
 |next=>exact Ps q
 |ret v=>exact q
 |brk=>exact q
 |cont=>exact q⟩
end
def cr:List (Nat×Addr)->St->Hp->Hp
 |[],_,H=>H
 |(i,c)::r,σ,H=>match σ[i]? with
  |some (some v)=>cr r σ (upd H c (cg c v))
  |_=>cr r σ H
theorem lI {P:LV}{w:Mx}{fs:List Addr}{H:Hp}{h h':Heap}{σ:St}:∀(cs:List (Nat×Addr))(H':Hp),(cs.map (·.2)).Nodup->(∀p∈cs,H' p.2=none/\h.objs.size<=p.2/\∀v,σ[p.1]? =some (some v)->∃u o,aX v u/\h'.get? p.2=some o/\o.data=.cell (some u))->
  Un fs [] H H' h h'->HOk P w H' h'->Un fs [] H (cr cs σ H') h h'/\HOk P w (cr cs σ H') h'
 |[],H',_,_,u,ok=>⟨u,ok⟩
 |(i,c)::r,H',nd,hc,u,ok=>by
  unfold cr
  have ndr:=(MS.mp nd).2
  have hcr:∀p∈r,H' p.2=none/\h.objs.size<=p.2/\∀v,σ[p.1]? =some (some v)->∃u o,aX v u/\h'.get? p.2=some o/\o.data=.cell (some u):=fun p hp=>hc p (Mc _ hp)
  split
  ·rename_i v hv
   obtain⟨hn,hge,hcell⟩:=hc (i,c) Mm
   have hn:H' c=none:=hn
   have hge:h.objs.size<=c:=hge
   obtain⟨uv,o,ru,eo,hd⟩:=hcell v hv
   have eo:h'.get? c=some o:=eo
   refine lI r (upd H' c (cg c v)) ndr (fun p hp=>⟨?_,(hcr p hp).2⟩) ⟨u.keep,u.slot,fun b ob e n hx=>?_,u.there,fun b xs e=>?_,fun b ob z e=>?_,fun b ps e=>?_⟩ fun b ob e=>?_
   ·have:p.2≠c:=fun z=>(MS.mp nd).1 (by rw[<-z];exact MO.mpr ⟨p,hp,rfl⟩)
    rw[ao this];exact(hcr p hp).1
   ·rw[ao (LH (LN (Lt e) hge))];exact u.free b ob e n hx
   ·have z:=u.tups b xs e;rw[ao (ax z hn)];exact z
   ·have z:=u.frzs b ob _ e;rw[ao (ax z hn)];exact z
   ·obtain⟨more,z⟩:=u.tbls b ps e;exact⟨more,by rw[ao (ax z hn)];exact z⟩
   ·by_cases hb:b=c
    ·subst hb
     rw[ak]at e;cases e
     refine⟨⟨uv,o,ru,eo,hd⟩,⟨o,eo⟩,?_⟩
     rintro h1 h2 ⟨u',o',r',e',d'⟩ k
     exact⟨u',o',r',k _ e',d'⟩
    ·rw[ao hb]at e
     exact(ok b ob e).stay (fun a q _ z=>z) (fun a q=>by rw[ao (ax q hn)];exact q) fun a xs q=>by rw[ao (ax q hn)];exact q
  ·exact lI r H' ndr hcr u ok
theorem Fun.okM {P:LV}{w:Mx}{K:pv}{mg:Str->Option tx}{base:Heap}{x qual:Str}{st:Stmt}{f c0:Addr}{fd:LI}{N ps:List Str}{k:Nat}{sp:Sp}{caps:Nat->List (Nat×Addr)}(F:Fun K x qual st f fd)(hcd:fd.code=.ref c0)(S:aF N ps (au st))(len:∀vs H Q E,sp vs H Q E->vs.length=ps.length)
  (hcaps:∀(L:Nat)(p:Nat×Addr),p∈caps L->∃y,N[p.1]? =some y/\(au st).names.lookup y=some .cell/\(cellsFrom (L+1) (au st).names []).lookup y=some p.2)(hnd:∀L,((caps L).map (·.2)).Nodup)
  (hbody:∀(A:Mq)(outer:List Env)(s:If)(H:Hp)(vs:List V)(Q:VK)(E:XK),bj k (A.deeper (envOfC qual (au st) s.heap.objs.size f (.ref c0)))->sp vs H Q E->
   ∃t,QMs (cM (CX1 P w) P w K mg base N qual (au st) f (.ref c0) A outer s H E) (aS st) t/\t {nx:=fun σ H'=>(∀p∈caps s.heap.objs.size,H' p.2=none)->Q .non (cr (caps s.heap.objs.size) σ H'),rt:=fun σ v H'=>(∀p∈caps s.heap.objs.size,H' p.2=none)->Q v (cr (caps s.heap.objs.size) σ H')} (start N vs) H):aQ P w K mg base (CX1 P w) (k+1) f fd ps sp:=by
 obtain⟨oc,od,kV,doc,pm,an,cdv,ct,osl,rfl,lk,hcd'⟩:=F.ex
 obtain rfl:cdv=.ref c0:=hcd
 refine⟨len,fun A outer s H args us vs Q E hr e0 hb r hsp=>?_⟩
 have hl:=len _ _ _ _ hsp
 have KX:K.In s.heap:=e0.mod.kin.keeps fun b o e=>(e0.bs b o e).1
 have lim:s.heap.NoLimit:=e0.mod.nolimit.keeps fun b o e=>(e0.bs b o e).1
 have hkind:∀y∈ps.zip us,(au st).names.lookup y.1=some .local\/((au st).names.lookup y.1=some .cell/\((cellsFrom (s.heap.objs.size+1) (au st).names []).lookup y.1).isSome=true):=fun⟨n,v⟩ hy=>by
  rcases S.par n (Nv hy).1 with q|q
  ·exact .inl q
  ·exact .inr ⟨q,Ru _ _ _ (.inl q)⟩
 refine Qu hr.depth (KX _ _ lk) rfl S.co S.gen rfl (W.codeRec_of KX hcd') (hb _ _ _ _ ?_)
 refine Sd S.kind hkind fun env he s1 x=>?_
 subst he
 refine⟨lim.keeps x.toInCall.keep,Tr ?_⟩
 obtain⟨t,ht,hq⟩:=hbody A outer s H vs Q E (hr.deeper _) hsp
 have I:Inv (cM (CX1 P w) P w K mg base N qual (au st) f (.ref c0) A outer s H E) [] (start N vs) H s1:=oa S hr.hd e0 hl r x
 refine Ma (ht.out [] s1 (start N vs) H _ I hq) (fun fl s' hs=>?_) fun e s' hs=>hs
 have fin:∀{σ':St}{H':Hp}{v:V}{u:tx},Inv (cM (CX1 P w) P w K mg base N qual (au st) f (.ref c0) A outer s H E) [] σ' H' s'->aX v u->((∀p∈caps s.heap.objs.size,H' p.2=none)->Q v (cr (caps s.heap.objs.size) σ' H'))->CE outer P w H s Q u s':=
  fun{σ' H' v u} J rv q=>by
   have free:∀p∈caps s.heap.objs.size,H' p.2=none:=fun p hp=>by
    obtain⟨y,_,_,hc⟩:=hcaps _ p hp
    exact J.freeC y p.2 hc
   have hcond:∀p∈caps s.heap.objs.size,H' p.2=none/\s.heap.objs.size<=p.2/\∀v,σ'[p.1]? =some (some v)->∃u o,aX v u/\s'.heap.get? p.2=some o/\o.data=.cell (some u):=fun p hp=>by
    obtain⟨y,hy,hk,hc⟩:=hcaps _ p hp
    refine⟨free p hp,J.ok.cab y p.2 rfl hc,fun v hv=>?_⟩
    obtain⟨m,_,hloc⟩:=J.loc
    obtain⟨u',r',lk'⟩:=hloc p.1 y v hy hv (.inr (.inl hk))
    rcases lk' with⟨z,_⟩|⟨_,c,ec,o,eo,hd⟩
    ·have z:(au st).names.lookup y=some .local:=z
     rw[hk]at z;cases z
    ·have ec:(cellsFrom (s.heap.objs.size+1) (au st).names []).lookup y=some c:=ec
     rw[hc]at ec;cases ec
     exact⟨u',o,r',eo,hd⟩
   obtain⟨un,ok⟩:=lI (P:=P) (w:=w) (σ:=σ') (caps s.heap.objs.size) H' (hnd _) hcond J.base J.hok
   exact⟨v,_,J.os,J.bare,un,ok,rv,q free⟩
 cases fl with
 |ret u=>
  obtain⟨v,σ',H',J,rv,q⟩:=hs
  exact fin J rv q
 |next=>
  obtain⟨σ',H',J,q⟩:=hs
  exact fin (v:=V.non) (u:=NL) J rfl q
 |brk=>exact Mu hs
 |cont=>exact Mu hs
theorem vA {P:LV}{w:Mx}{K:pv}{mg mb:Str->Option tx}{CX:CXT}{k:Nat}{fa a:Addr}{fd:LI}{x:Str}{sp:Sp}{s₁:If}{vs:List tx}{ns:List Int}{tabs:List (Addr×Addr)}
  (KX:K.In s₁.heap)(hns:s₁.heap.Ns mainGlobals mg)(hb:s₁.heap.Ns builtinsNs mb)(hbb:∀x:Str,x≠"__name__"->mb x=bootBuiltins x)(hlim:s₁.heap.NoLimit)(hg:s₁.gens=#[])(hB:BM mg s₁.heap)
  (hT:∀q∈tabs,NX s₁.heap q.1 q.2/\s₁.heap.get? q.2=some (Sm #[]))(hKT:Sn K=true)
  (ha:s₁.heap.get? a=some {cls:=.type "list",data:=.seq vs.toArray})(hi:Uq vs ns)(hl:ns.length<=sizeLine)(hr:bj k callerA)
  (F:∀base:Heap,K.In base->base.Ns mainGlobals mg->BM mg base->(∀q∈tabs,NX base q.1 q.2)->aQ P w K mg base CX k fa fd [x] sp)(hbind:∀(s:If)(u:tx),SR s fd ⟨[u],[]⟩ [(x,u)])
  (hsp:∀H:Hp,(∀q∈tabs,H q.2=some (.tbl #[]))->SqL K H a (ns.map V.int)->sp [.ref a] H (fun v _=>v=.bl true) fun _ _ _=>False)
  (hCX:∀H e s',CX [] H s₁ (fun _ _ _=>False) e s'->False):
  codeAny (model P w) callerA (.call (.ref fa) ⟨[.ref a],[]⟩) (fun r s'=>r=.ok (.ret (.bool true))/\OldK s₁.heap s'.heap/\s'.os=s₁.os/\Qb s'.gens) s₁:=by
 have rv:=oj hi
 have lenV:=hi.length
 have tabK:∀q∈tabs,K.lookup q.2=none:=fun q hq=>by
  cases e:K.lookup q.2 with
  |none=>rfl
  |some o=>
   have e2:=KX _ _ e
   rw[(hT q hq).2]at e2;cases e2
   have:=Nl.mp hKT _ (W.mem_of_lookupK e)
   exact absurd (show false=true from this) LQ
 have tabA:∀q∈tabs,q.2≠a:=fun q hq e=>by
  have e2:=(hT q hq).2
  rw[e,ha]at e2;cases e2
 have core:∀H:Hp,(∀q∈tabs,H q.2=some (.tbl #[]))->SqL K H a (ns.map V.int)->HOk P w H s₁.heap->(∀b,H b≠none->(b=a/\∃o xs,H b=some (.frz o (.lst xs)))\/∃q∈tabs,q.2=b)->(∀b,H b≠none->K.lookup b=none)->
   codeAny (model P w) callerA (.call (.ref fa) ⟨[.ref a],[]⟩) (fun r s'=>r=.ok (.ret (.bool true))/\OldK s₁.heap s'.heap/\s'.os=s₁.os/\Qb s'.gens) s₁:=by
  intro H hO hS hok hA hK
  have base_of:∀{b:Addr}{o:Obj},s₁.heap.get? b=some o->H b=none->(gL s₁.heap H).get? b=some o:=fun e n=>yD e n
  have noA:∀{b:Addr}{o:Obj},s₁.heap.get? b=some o->o.cls≠.none->o.cls≠.type "list"->H b=none:=fun{b o} e c1 c2=>by
   cases q:H b with
   |none=>rfl
   |some u=>
    rcases hA b (by rw[q];simp)with⟨rfl,_⟩|⟨p,hp,rfl⟩
    ·rw[ha]at e;cases e;exact absurd rfl c2
    ·rw[(hT p hp).2]at e;cases e;exact absurd rfl c1
  have noD:∀{b:Addr}{o:Obj}{es:Array DictEntry}{ep:Nat},s₁.heap.get? b=some o->o.data=.dict es ep->H b=none:=fun{b o es ep} e d=>by
   cases q:H b with
   |none=>rfl
   |some u=>
    rcases hA b (by rw[q];simp)with⟨rfl,_⟩|⟨p,hp,rfl⟩
    ·rw[ha]at e;cases e;cases d
    ·rw[(hT p hp).2]at e;cases e;cases d
  have nsK:∀{b:Addr}{m:Str->Option tx},s₁.heap.Ns b m->(gL s₁.heap H).Ns b m:=fun{b m}⟨o,es,ep,e,d,r⟩=>⟨o,es,ep,base_of e (noD e d),d,r⟩
  have hKb:K.In (gL s₁.heap H):=fun b o e=>base_of (KX b o e) (by
   cases q:H b with
   |none=>rfl
   |some u=>rw[hK b (by rw[q];simp)]at e;cases e)
  have hBb:BM mg (gL s₁.heap H):=by
   obtain⟨bm,ob,b1,b2,b3,b4,b5,b6⟩:=hB
   exact⟨bm,ob,b1,b2,base_of b3 (noA b3 (by rw[b4];intro z;cases z) (by rw[b4];intro z;exact absurd (Sq z) (by decide))),b4,b5,b6⟩
  have hCb:∀q∈tabs,NX (gL s₁.heap H) q.1 q.2:=fun q hq=>by
   obtain⟨o,vs,file,tf,flags,tg,inF,text,tt,e1,e2,r⟩:=(hT q hq).1
   exact⟨o,vs,file,tf,flags,tg,inF,text,tt,base_of e1 (noA e1 (by rw[e2];intro z;cases z) (by rw[e2];intro z;exact absurd (Sq z) (by decide))),e2,r⟩
  have hM:Mod K mg (gL s₁.heap H):=⟨hKb,nsK hns,⟨mb,nsK hb,hbb⟩,let ⟨mc,h1,h2⟩:=hlim;⟨mc,nsK h1,h2⟩⟩
  have e0:jz P w K mg (gL s₁.heap H) callerA [] s₁ H:=⟨rfl,hM,fun b o e=>Br e,OR (vZ _ _),trivial,fun b hb=>absurd (show b∈([]:List Addr)from hb) (by simp),hok,.of_eq hg⟩
  refine NY ((F _ hKb (nsK hns) hBb hCb).run callerA [] s₁ H ⟨[.ref a],[]⟩ [.ref a] [.ref a] _ _ hr e0 (hbind s₁ (.ref a)) (.cons rfl .nil) (hsp H hO hS)) fun r s' h=>?_
  cases r with
  |error e=>exact(hCX H e s' h).elim
  |ok fl=>
   cases fl with
   |next=>exact Mu h
   |brk=>exact Mu h
   |cont=>exact Mu h
   |ret u=>
    obtain⟨v,H',os,bare,un,hok',r',q⟩:=h
    have q':v=.bl true:=q
    subst q'
    obtain rfl:u=Nq true:=r'
    have all:∀b o,s₁.heap.get? b=some o->s'.heap.get? b=some o\/∃q∈tabs,q.2=b/\∃more,s'.heap.get? b=some (Sm more):=fun b o e=>by
     cases q:H b with
     |none=>exact .inl (un.keep b o e q (by intro z;exact absurd (show b∈([]:List Addr)from z) (by simp)) (by simp))
     |some u=>
      rcases hA b (by rw[q];simp)with⟨rfl,ob,xs,z⟩|⟨p,hp,rfl⟩
      ·have z2:=un.frzs b ob _ z
       obtain⟨e1,_⟩:=hok b _ z
       obtain⟨e2,_⟩:=hok' b _ z2
       rw[e]at e1;cases e1
       exact .inl e2
      ·obtain⟨more,z2⟩:=un.tbls p.2 _ (hO p hp)
       exact .inr ⟨p,hp,rfl,_,hok' p.2 _ z2⟩
    refine⟨rfl,⟨fun b o e=>?_,fun b o e=>?_⟩,os,bare⟩
    ·rcases all b o e with z|⟨p,hp,rfl,more,z⟩
     ·exact .inl z
     ·have e2:=(hT p hp).2
      rw[e]at e2;cases e2
      exact .inr (.inl ⟨((hT p hp).1.tab (hT p hp).2).isCodeTable,rfl,#[],more,rfl,by rw[Array.empty_append];exact z⟩)
    ·rcases all b o e with z|⟨p,hp,rfl,more,z⟩
     ·exact⟨_,z⟩
     ·exact⟨_,z⟩
 cases hk:K.lookup a with
 |some o=>
  have e:=KX a o hk
  rw[ha]at e
  cases e
  refine core (fun b=>if b∈tabs.map (·.2)then some (.tbl #[])else none) (fun q hq=>if_pos (MO.mpr ⟨q,hq,rfl⟩)) (.inr ⟨_,vs.toArray,_,hk,rfl,rfl,rfl,by rw[Lw,lenV];exact hl,by simpa using rv⟩) (fun b u z=>?_) (fun b z=>?_) fun b z=>?_
  ·by_cases hb:b∈tabs.map (·.2)
   ·have z':=(if_pos hb).symm.trans z
    cases z'
    obtain⟨q,hq,rfl⟩:=MO.mp hb
    exact(hT q hq).2
   ·have z':=(if_neg hb).symm.trans z
    cases z'
  ·by_cases hb:b∈tabs.map (·.2)
   ·obtain⟨q,hq,e⟩:=MO.mp hb
    exact .inr ⟨q,hq,e⟩
   ·exact absurd (if_neg hb) z
  ·by_cases hb:b∈tabs.map (·.2)
   ·obtain⟨q,hq,rfl⟩:=MO.mp hb
    exact tabK q hq
   ·exact absurd (if_neg hb) z
 |none=>
  refine core (fun b=>if b=a then some (.frz {cls:=.type "list",data:=.seq vs.toArray} (.lst (ns.map V.int)))else if b∈tabs.map (·.2)then some (.tbl #[])else none)
   (fun q hq=>by show(if q.2=a then _ else _)=_;rw[if_neg (tabA q hq),if_pos (MO.mpr ⟨q,hq,rfl⟩)]) (.inl (.inr ⟨{cls:=.type "list",data:=.seq vs.toArray},if_pos rfl⟩)) (fun b u z=>?_) (fun b z=>?_) fun b z=>?_
  ·by_cases hb:b=a
   ·have z':=(if_pos hb).symm.trans z
    cases z'
    subst hb
    exact⟨ha,by rw[Ll];exact hl,vs,_,rv,ha⟩
   ·have z':(if b∈tabs.map (·.2)then some (HO.tbl #[])else none)=some u:=(if_neg hb).symm.trans z
    by_cases hb2:b∈tabs.map (·.2)
    ·rw[if_pos hb2]at z';cases z'
     obtain⟨q,hq,rfl⟩:=MO.mp hb2
     exact(hT q hq).2
    ·rw[if_neg hb2]at z';cases z'
  ·by_cases hb:b=a
   ·exact .inl ⟨hb,_,_,if_pos hb⟩
   ·by_cases hb2:b∈tabs.map (·.2)
    ·obtain⟨q,hq,e⟩:=MO.mp hb2
     exact .inr ⟨q,hq,e⟩
    ·exact absurd ((if_neg hb).trans (if_neg hb2)) z
  ·by_cases hb:b=a
   ·rw[hb];exact hk
   ·by_cases hb2:b∈tabs.map (·.2)
    ·obtain⟨q,hq,rfl⟩:=MO.mp hb2
     exact tabK q hq
    ·exact absurd ((if_neg hb).trans (if_neg hb2)) z
theorem yM {l:W.OpenLaw}{n k:Nat}{q:LV}{loose:List Str}{XP:(Str->Option tx)->Heap->Prop}{YP:Mx->Heap->Prop}{d:DefRec}{K:Params->pv}{CX:Mx->CXT}{x:Str}{names:List Str}
  (hn:l.most=some n)(hn2:n<=sizeLine)(hdf:d.params.defaults=[])(hr:bj k callerA)
  (hY:∀(w:Mx)(h:Heap),YP w h->(K w.params).In h)
  (hq:∀y∈names,((Rq q).find? fun e=>e.name==y).isSome=true)
  (F:∀(w:Mx)(mg:Str->Option tx)(fa:Addr)(h:Heap),(K w.params).In h->h.Ns mainGlobals mg->mg d.name=some (.ref fa)->
   ∃(fd:LI)(tabs:List (Addr×Addr))(sp:Sp),(∀(s:If)(u:tx),SR s fd ⟨[u],[]⟩ [(x,u)])/\Sn (K w.params)=true/\(∀t∈tabs,∃y∈names,Pa (K w.params) y=some t)/\
    (∀base:Heap,(K w.params).In base->base.Ns mainGlobals mg->BM mg base->(∀t∈tabs,NX base t.1 t.2)->aQ l.prog w (K w.params) mg base (CX w) k fa fd [x] sp)/\
    ∀(H:Hp)(a:Addr)(ns:List Int),ns.length<=n->(∀t∈tabs,H t.2=some (.tbl #[]))->SqL (K w.params) H a (ns.map V.int)->sp [.ref a] H (fun v _=>v=.bl true) fun _ _ _=>False)
  (hCX:∀(w:Mx)(H:Hp)(s:If)(e:tx)(s':If),CX w [] H s (fun _ _ _=>False) e s'->False):
  W.WalkO q loose XP YP l.row.toRowW d [] (fun f vs=>SO f vs):=by
 refine Att.attach_call hn hdf fun w s₀ s₁ mg mb fa o pm cd doc a vs ns G Y ho hd hcd hmg hobj hints hlen hg=>?_
 have KX:=hY w _ Y
 obtain⟨fd,tabs,sp,hb,hKT,htabs,hF,hsp⟩:=F w mg fa _ KX G.T.g hmg
 refine vA (tabs:=tabs) KX G.T.g G.T.b G.T.builtins G.T.nolimit hg G.T.bmain (fun t ht=>?_) hKT hobj hints (Mi hlen hn2) hr hF hb (fun H hO hS=>hsp H a ns hlen hO hS) fun H e s'=>hCX w H s₁ e s'
 obtain⟨y,hy,e⟩:=htabs t ht
 obtain⟨dd,hdd⟩:=Mg.mp (hq y hy)
 exact W.tab_of G.T KX hdd e
section
variable {X:Cx}
theorem SPM.unwish {E:tx->If->Prop}{pins:List (Addr×Obj)}{D:ku}{f:Flow}{s':If}(h:SPM (X.wish E) pins D f s'):SPM X pins D f s':=by
 cases f with
 |next=>obtain⟨σ',H',I,q⟩:=h;exact⟨σ',H',I.unwish,q⟩
 |brk=>exact h
 |cont=>exact h
 |ret u=>obtain⟨v,σ',H',I,r,q⟩:=h;exact⟨v,σ',H',I.unwish,r,q⟩
theorem QMs.nox {st:List Stmt}{t:TSM}(h:QMs X.nox st t):QMs X st t:=⟨fun pins s σ H D I hw=>
 Ma (h.out pins s σ H D (I.wish _) hw) (fun _ _ q=>SPM.unwish q) fun _ _ z=>Mu z⟩
theorem fF.mono {P:LV}{w:Mx}{K:pv}{mg:Str->Option tx}{base:Heap}{j k:Nat}{t:dc}{sp:Sp}(F:fF P w K mg base j t sp)(h:j<=k):fF P w K mg base k t sp:=
 ⟨fun A outer s H f cs us vs cvs Q E hr=>F.run A outer s H f cs us vs cvs Q E (hr.mono h)⟩
def sI:V->List V->Hp->VK->Prop:=fun x vs H Q=>∃a y d r H',x=.ref a/\vs=[y,d]/\DS H a y d r H'/\Q r H'
theorem vq (hu:X.A.units+1<cLine):MtR X "dict.setdefault" sI:=by
 intro pins s σ H x xs v us Q I rx rs h
 obtain⟨a,y,d,r,H',rfl,rfl,g,q⟩:=h
 obtain rfl:v=LF a:=rx
 obtain⟨uy,ud,rfl,ry,rd⟩:=mM rs
 rcases g with⟨g,rfl⟩|⟨g,p,rfl⟩
 ·rcases g with⟨kvs,k,e,rfl,l⟩|⟨kvs,k,b,e,rfl,eb,l⟩
  ·obtain⟨z,hd,vs,rel,dd⟩:=kO I.hok e
   obtain⟨w',hw,rw'⟩:=cU.some_of (v:=r) (o:=valueAt vs k) (by rw[l];exact rel.val k)
   exact Ts Nm dd.typeIs NP (NM _ _ _) (Um (cB X.prog X.w) a (kj ry) hd ud)
    ⟨vs,dd,by rw[<-rel.length];exact z,(fun v' hv'=>by rw[hw]at hv';cases hv';exact⟨r,H',I.tok _,rw',q⟩),(fun hn=>by rw[hw]at hn;cases hn)⟩
  ·cases (show uy=LF b from ry)
   obtain⟨z,hd,xs,rel,dd⟩:=lN I.hok e
   obtain⟨w',hw,rw'⟩:=cU.some_of (v:=r) (o:=(atKey xs k).map (·.2)) (by rw[l];exact rel.val k)
   obtain⟨pp,hp,hp2⟩:=RK.mp hw
   refine ML Nm dd.typeIs NP ?_ (NM _ _ _)
   unfold ON.«dict.setdefault»
   refine ah ?_
   unfold Qy
   refine ah (Tl dd.typeIs ?_)
   show wpAny _ _ (pure (a,LF b,some ud)) _ _ s
   refine Lo ?_
   show wpAny _ _ (if (a==sysModules)=true then _ else(dictSetDefault a (.ref b) ud>>=_)) _ _ s
   rw[if_neg (by rw[hd];exact LQ)]
   refine ah (fL (OL hu) (iR I.hok eb) dd (fun p' hp'=>?_) (fun hn=>?_) (by rw[<-Paired.length rel];exact z))
   ·rw[hp]at hp';cases hp'
    exact Lo ⟨_,rfl,⟨r,H',I.tok _,by rw[hp2];exact rw',q⟩⟩
   ·rw[hp]at hn;cases hn
 ·rcases g with⟨kvs,k,e,rfl,l⟩|⟨kvs,k,b,e,rfl,eb,l⟩
  ·rcases p with⟨kvs',k',e',ey,lz,rfl⟩|⟨kvs',k',b',e',ey,_⟩
   ·have ek:k=k':=by cases k<;>cases k'<;>first|(cases ey;rfl)|cases ey
    subst ek
    obtain⟨z,hd,vs,rel,dd⟩:=zN I.hok e'
    have ee:kvs=kvs':=by
     rcases e with e|⟨o,e⟩
     ·rw[e']at e;cases e;rfl
     ·rw[e']at e;cases e
    subst ee
    have hn:valueAt vs k=none:=cU.none_of (by rw[l];exact rel.val k)
    refine Ts Nm dd.typeIs NP (NM _ _ _) (Um (cB X.prog X.w) a (kj ry) hd ud)
     ⟨vs,dd,by rw[<-rel.length];exact z,(fun v' hv'=>by rw[hn]at hv';cases hv'),fun _ h' dd' hs=>?_⟩
    have he:∃q,h'.get? a=some q:=let ⟨q,_,_,hq,_⟩:=dd';⟨q,hq⟩
    have hl:(cp kvs k r).length<=sizeLine:=by have:=gf kvs k r;omega
    exact⟨r,_,kQ I (by rw[e'];exact Nh) hs he (vD hl hd (rel.put k rd) dd'),rd,q⟩
   ·cases k<;>cases ey
  ·rcases p with⟨kvs',k',e',ey,_⟩|⟨kvs',k',b',e',ey,eb',lz,rfl⟩
   ·cases k'<;>cases ey
   ·cases ey
    have ek:k=k':=nq (HO.tup.inj (LR (eb.symm.trans eb')))
    subst ek
    cases (show uy=LF b from ry)
    obtain⟨z,hd,xs,rel,dd⟩:=uA I.hok e'
    have ee:kvs=kvs':=by
     rcases e with e|⟨o,e⟩
     ·rw[e']at e;cases e;rfl
     ·rw[e']at e;cases e
    subst ee
    have hn:atKey xs k=none:=by
     have:=cU.none_of (o:=(atKey xs k).map (·.2)) (by rw[l];exact rel.val k)
     exact Option.map_eq_none_iff.mp this
    refine ML Nm dd.typeIs NP ?_ (NM _ _ _)
    unfold ON.«dict.setdefault»
    refine ah ?_
    unfold Qy
    refine ah (Tl dd.typeIs ?_)
    show wpAny _ _ (pure (a,LF b,some ud)) _ _ s
    refine Lo ?_
    show wpAny _ _ (if (a==sysModules)=true then _ else(dictSetDefault a (.ref b) ud>>=_)) _ _ s
    rw[if_neg (by rw[hd];exact LQ)]
    refine ah (fL (OL hu) (iR I.hok eb) dd (fun p' hp'=>?_) (fun _ h' dd' hs=>?_) (by rw[<-Paired.length rel];exact z))
    ·rw[hn]at hp';cases hp'
    ·obtain⟨q',es,ep,hq,h2,h3,h4,_,h5⟩:=dd'
     have hl:(cp kvs k r).length<=sizeLine:=by have:=gf kvs k r;omega
     refine Lo ⟨_,rfl,⟨r,_,kQ (ob:=.dT (cp kvs k r)) I (by rw[e'];exact Nh) hs ⟨q',hq⟩ ⟨hl,hd,_,(rel.put k eb rd).keeps fun c ys ec=>?_,q',es,ep,hq,h2,h3,h4,h5⟩,rd,q⟩⟩
     rw[ao (aU ec e' (fun z=>nomatch z))]
     exact ec
def Its (z:Str):It:=⟨fun i _=>i<z.length,fun i H x H'=>H'=H/\∃c,z.cps[i]?=some c/\x=.str ⟨#[c]⟩,fun i _=>z.length<=i⟩
theorem xh {P:LV}{w:Mx}{K:pv}{tg:Expr}(z:Str)(t:Tok)(it:Addr):jn P w K tg (Its z) [it] it (fun i h=>h.IsStrIter it "str_ascii_iterator" z t i)where
 mem:=by simp
 obj:=fun i h st b hb=>by
  have e:b=it:=by simpa using hb
  subst e
  obtain⟨o,e,c,d⟩:=st
  exact⟨o,e,fun v z=>by rw[d]at z;cases z⟩
 keep:=fun i h h' st k=>let ⟨o,ho,r⟩:=st;⟨o,k it (by simp) o ho,r⟩
 item:=by
  intro X hP hw hK hc i pins s σ H E I hf st hg
  subst hP hw hK
  obtain⟨f0,f1,f2,f3,f4,f5⟩:=hf it (by simp)
  have hi:i<z.cps.size:=hg
  refine wpAny_pyNext_ascii_item st (c:=z.cps[i]) (NF hi) fun h' st' sb=>?_
  have I1:Inv X pins σ H {s with heap:=h',toks:=s.toks+1}:=I.turned (t':=s.toks+1) (fun b o hb e=>(sb.2 b hb).trans e) f0 f1 f3 f4 f5
  obtain⟨o,e,c,d⟩:=id st'
  exact⟨_,rfl,kD (s:={s with heap:=h',toks:=s.toks+1}) e c d (by decide) ⟨.str ⟨#[z.cps[i]]⟩,H,I1,⟨_,rfl⟩,⟨rfl,_,NF hi,rfl⟩,st',fun b hb=>(hf b hb).1⟩⟩
 done:=by
  intro X hP hw hK hc i pins s σ H E I hf st hg
  subst hP hw hK
  obtain⟨f0,f1,f2,f3,f4,f5⟩:=hf it (by simp)
  exact wpAny_pyNext_ascii_end (I.ok.hd hc) st (PD (show z.cps.size<=i from hg)) fun h' eb=>⟨rfl,I.turned (t':=s.toks) (fun b o hb e=>eb b o hb e) f0 f1 f3 f4 f5⟩
 self:=fun A i s Q E st h=>by
  refine UG st.typeIs Rp (ML Rp st.typeIs F.entry_str_ascii_iterator_iter ?_ (F.args_str_ascii_iterator_iter_1 _))
  show wpAny _ _ (ret (.ref it)) _ _ s
  exact Lo ⟨_,rfl,"str_ascii_iterator",_,st.typeIs,F.slot_str_ascii_iterator_next.lookup,h⟩
variable {a:Expr}{ta:TE}{tg:Expr}
def gd (K:pv)(tl:TE):TI:=fun σ H R=>tl σ H fun x H1=>match x with
 |.str z=>z.cps.all (·<128)=true/\R (Its z) H1
 |x=>∃a,x=.ref a/\(((∃xs,SqL K H1 a xs)/\R (Itl K a) H1)\/((∃xs,SqT K H1 a xs)/\R (Itt K a) H1))
theorem fE (h:QE X a ta):QI X tg a (gd X.K ta):=⟨fun pins s σ H R I hw=>by
 refine thn (h.out pins s σ H _ I hw) fun v s1 ⟨x,H1,I1,r1,q1⟩=>?_
 cases x with
 |str z=>
  obtain⟨t,rfl⟩:=r1
  refine wpAny_pyIter_ascii q1.1 ?_
  refine⟨s1.heap.objs.size,[s1.heap.objs.size],_,_,H1,rfl,I1.kept (t':=s1.toks) fun b o e=>cW _ e,xh z t _,⟨_,Ly _ rfl,rfl,rfl⟩,fun b hb=>?_,q1.2⟩
  have e:b=s1.heap.objs.size:=by simpa using hb
  subst e
  exact I1.fpOk (gV _) (I1.hok.fresh (gV _))
 |ref c=>
  obtain⟨a,e,q⟩:=q1
  cases e
  cases r1
  rcases q with⟨⟨xs,hq⟩,q⟩|⟨⟨xs,hq⟩,q⟩
  ·obtain⟨its,rv,p,hz⟩:=I1.list hq
   refine Rr (yy p) ?_
   refine⟨s1.heap.objs.size,[s1.heap.objs.size],_,_,H1,rfl,I1.kept (t':=s1.toks) fun b o e=>cW _ e,wu _ _,⟨_,Ly _ rfl,rfl,rfl⟩,fun b hb=>?_,q⟩
   have e:b=s1.heap.objs.size:=by simpa using hb
   subst e
   exact I1.fpOk (gV _) (I1.hok.fresh (gV _))
  ·obtain⟨its,rv,p,hz⟩:=I1.tuple hq
   refine Ut (show s1.heap.IsTuple c its.toArray from p) ?_
   refine⟨s1.heap.objs.size,[s1.heap.objs.size],_,_,H1,rfl,I1.kept (t':=s1.toks) fun b o e=>cW _ e,ur _ _,⟨_,Ly _ rfl,rfl,rfl⟩,fun b hb=>?_,q⟩
   have e:b=s1.heap.objs.size:=by simpa using hb
   subst e
   exact I1.fpOk (gV _) (I1.hok.fresh (gV _))
 |_=>obtain⟨_,e,_⟩:=q1;cases e⟩
theorem Bm:OpR X (binaryOp .Mult) (fun x y H Q=>∃z n,x=.str z/\y=.int n/\(-1000<=n/\n<=1000/\z.length<=1000)/\Q (.str (Txt.mul z n)) H):=by
 intro pins s σ H x y v u Q I rx ry h
 obtain⟨z,n,rfl,rfl,⟨h1,h2,h3⟩,q⟩:=h
 obtain⟨t,rfl⟩:=rx
 obtain⟨t',rfl⟩:=ry
 refine SB.mul ⟨?_,fun hn _=>?_,fun hn _=>?_⟩ fun t' k=>⟨.str _,H,I.tok k,⟨_,rfl⟩,q⟩
 ·rw[decide_eq_false (by omega),decide_eq_false (by omega)];rfl
 ·intro hgt
  have h5:(1000:Int)<=(2^63- 1)/n:=Int.le_ediv_of_mul_le (by omega) (by omega)
  omega
 ·have h6:z.length*n.toNat<=1000*1000:=Nat.mul_le_mul h3 (by omega)
  exact decide_eq_false (by rw[NA];omega)
end
theorem Fb {J:It}{n:Nat}{it:Nat->V}{Pk:Hp->Prop}{g:TG}{tb:TS}{D:eF}{σ:St}{H:Hp}(T:da J n it Pk)(Pv:Nat->St->Hp->Prop)(h0:Pv 0 σ H)(hl:∀i σ H,i<=n->Pv i σ H->Pk H)
  (hs:∀i σ H,i<n->Pv i σ H->g (it i) σ H fun σ2 H2=>tb {D with nx:=Pv (i+1),ct:=Pv (i+1),bk:=D.nx} σ2 H2)(hd:∀σ H,Pv n σ H->D.nx σ H):
  ∃W:Nat->Nat->St->Hp->Prop,(∃m,W 0 m σ H)/\∀i m σ H,W i m σ H->
   (J.stop i H/\D.nx σ H)\/(J.go i H/\∃N:St->Hp->Prop,(∀σ' H',N σ' H'->∃m',m'<m/\W (i+1) m' σ' H')/\∀x H',J.yld i H x H'->g x σ H' fun σ2 H2=>tb {D with nx:=N,ct:=N,bk:=D.nx} σ2 H2):=by
 refine⟨fun i m σ H=>m=n- i/\i<=n/\Pv i σ H,⟨n,by simp,Mj _,h0⟩,?_⟩
 rintro i m σ H ⟨rfl,hi,p⟩
 have q:=hl i σ H hi p
 by_cases hlt:i<n
 ·refine .inr ⟨T.go i H hlt q,Pv (i+1),fun σ' H' p'=>⟨n- (i+1),by omega,rfl,hlt,p'⟩,fun x H' y=>?_⟩
  obtain⟨rfl,rfl⟩:=T.yld i H x H' hlt q y
  exact hs i σ _ hlt p
 ·have e:i=n:=by omega
  subst e
  exact .inl ⟨T.stop H q,hd σ H p⟩
theorem iX {α β:Type}{f:α->β}{l:List α}{i:Nat}{x:β}(h:(l.map f)[i]?=some x):∃a,l[i]?=some a/\x=f a:=by
 rw[LO]at h
 cases e:l[i]? with
 |none=>rw[e]at h;cases h
 |some a=>rw[e]at h;cases h;exact⟨a,rfl,rfl⟩
theorem df.keep {H H':Hp}{f:Addr}{t:dc}{cs:List Addr}{cvs:List V}(k:∀b φ,H b=some (.ext φ)->H' b=some (.ext φ))(c:df H f t cs cvs):df H' f t cs cvs:=by
 obtain⟨⟨a,h1,h2⟩,h3⟩:=c
 refine⟨⟨a,k _ _ h1,k _ _ h2⟩,?_⟩
 clear h1 h2
 induction h3 with
 |nil=>exact .nil
 |cons r t ih=>exact .cons (k _ _ r) ih
theorem oI (k:List Key):(k.map kV).all kf=true:=by
 rw[List.all_map,Nl]
 intro x _
 cases x<;>rfl
def dj:Key->Tw
 |.inl i=>.int i
 |.inr z=>.str z
theorem fB {K:pv}{H:Hp}:∀k:List Key,DatVs K H (k.map kV) (k.map dj)
 |[]=>.nil
 |.inl i::r=>.cons (.int i) (fB r)
 |.inr z::r=>.cons (.str z) (fB r)
theorem qV {K:pv}{H:Hp}{a:Addr}{k:List Key}(h:H a=some (.tup (k.map kV))):fj K H (.ref a) (.tuple (k.map dj)):=.tup (SqT.of h) (fB k)
theorem iA:∀k l:List Key,Ud (k.map dj) (l.map dj)=decide (k=l)
 |[],[]=>by rfl
 |[],_::_=>by rw[decide_eq_false (by simp)];rfl
 |_::_,[]=>by rw[decide_eq_false (by simp)];rfl
 |a::r,b::s=>by
  show((dj a).eqv (dj b)&&Ud (r.map dj) (s.map dj))=_
  rw[iA r s]
  have e:(dj a).eqv (dj b)=decide (a=b):=by
   cases a<;>cases b
   ·rename_i i j
    show decide (i=j)=decide (Oe i=Oe j)
    simp
   ·show false=_;simp
   ·show false=_;simp
   ·rename_i i j
    show(i==j)=decide ((Oq i:Key)=Oq j)
    by_cases h:i=j<;>simp[h]
  rw[e]
  by_cases h1:a=b<;>by_cases h2:r=s<;>simp[h1,h2]
def vT:Key->Bool
 |.inl _=>true
 |.inr z=>PF z
theorem eB:∀{k:List Key},k.all vT=true->QG (k.map dj)=true
 |[],_=>rfl
 |.inl i::r,h=>eB (k:=r) (by rw[NS]at h;exact h)
 |.inr z::r,h=>by
  rw[NS,Ms]at h
  show(PF z&&QG (r.map dj))=true
  rw[show PF z=true from h.1,eB h.2];rfl
theorem gI:∀k:List Key,NK (k.map dj)=0
 |[]=>rfl
 |.inl i::r=>by show max 0 (NK (r.map dj))=0;rw[gI r];rfl
 |.inr i::r=>by show max 0 (NK (r.map dj))=0;rw[gI r];rfl
theorem JY (k:List Key):(PyData.tuple (k.map dj)).depth<=150:=by show NK (k.map dj)+1<=150;rw[gI];decide
def nX (K:pv)(ns:List Str):Bool:=decide ((ns.map fun n=>(Pa K n).map (·.2)).Nodup)
theorem xW {l:List Addr}(h:(l.map some).Nodup):l.Nodup:=Vf some (fun a b h e=>h (congrArg some e)) h
section
variable {X:Cx}
def zO:R2:=fun _ _ _ _=>False
theorem Bh:OpR X (binaryOp .Mult) zO:=fun _ _ _ _ _ _ _ _ _ _ _ _ h=>h.elim
def fG:R2:=fun x y H Q=>match x,y with
 |.str z,.int n=>(-1000<=n/\n<=1000/\z.length<=1000)/\Q (.str (Txt.mul z n)) H
 |.ref a,.int n=>zO (.ref a) (.int n) H Q
 |x,y=>zl x y H Q
theorem tO:OpR X (binaryOp .Mult) fG:=(Bm.or (Bh.or Kv)).imp fun x y H Q q=>by
 unfold fG at q
 split at q
 ·exact .inl ⟨_,_,rfl,rfl,q.1,q.2⟩
 ·exact .inr (.inl q)
 ·exact .inr (.inr q)
end
section
variable {X:Cx}
theorem Di:OpR X (compareOp .Is) (fun x y H Q=>∃b c,x=.bl b/\y=.bl c/\Q (.bl (decide (b=c))) H):=by
 intro pins s σ H x y v u Q I rx ry h
 obtain⟨b,c,rfl,rfl,q⟩:=h
 cases rx
 cases ry
 refine wpAny_is_plain (by rfl) (bC I q ?_)
 cases b<;>cases c<;>rfl
def yR:R2:=fun x y H Q=>match x,y with
 |.bl b,.bl c=>Q (.bl (decide (b=c))) H
 |x,y=>yu x y H Q
theorem JM:OpR X (compareOp .Is) yR:=(Di.or oIs).imp fun x y H Q q=>by
 unfold yR at q
 split at q
 ·exact .inl ⟨_,_,rfl,rfl,q⟩
 ·exact .inr q
end
end L2
namespace HT
open PySem PyProof.Rows
theorem sub_tuple_dict:isSubtype (.type "tuple") (.type "dict")=pure false:=by rw[Oy];kernel_rfl
theorem nw:isSubtype (.type "dict") (.type "tuple")=pure false:=by rw[Oy];kernel_rfl
theorem tH (l b:Addr)(o:Obj)(hc:o.cls=.type "dict")(o2:Obj)(hc2:o2.cls=.type "tuple"):
  Meets (ON.«dict.__eq__» ⟨[.ref l,.ref b],[]⟩) (fun _ R s=>s.heap.get? l=some o/\s.heap.get? b=some o2/\R (.ok (.ret .notImplemented)) s):=
 .of_wp fun prog w A R s h=>by
  obtain⟨hp,g,d,tk,os⟩:=s;obtain⟨hl,hb,h⟩:=h;obtain⟨cls,dd,data,sl⟩:=o;obtain⟨cls2,dd2,data2,sl2⟩:=o2
  simp only at hc hc2;subst hc hc2
  have f1:=sub_tuple_dict;wp_walk using Qt hl,Qt hb;exact⟨_,rfl,h⟩
theorem rX (l b:Addr)(o:Obj)(hc:o.cls=.type "tuple")(o2:Obj)(hc2:o2.cls=.type "dict"):
  Meets (ON.«tuple.__eq__» ⟨[.ref l,.ref b],[]⟩) (fun _ R s=>s.heap.get? l=some o/\s.heap.get? b=some o2/\R (.ok (.ret .notImplemented)) s):=
 .of_wp fun prog w A R s h=>by
  obtain⟨hp,g,d,tk,os⟩:=s;obtain⟨hl,hb,h⟩:=h;obtain⟨cls,dd,data,sl⟩:=o;obtain⟨cls2,dd2,data2,sl2⟩:=o2
  simp only at hc hc2;subst hc hc2
  have f1:=nw;wp_walk using Qt hl,Qt hb;exact⟨_,rfl,h⟩
end HT
namespace L2
open PySem PySem.Spec PyProof.Rows
section
variable {X:Cx}
def zY (K:pv):R2:=fun x y H Q=>∃a b ys,x=.ref a/\y=.ref b/\((∃kvs,H a=some (.dK kvs))\/∃kvs,H a=some (.dT kvs))/\SqT K H b ys/\Q (.bl false) H
theorem AS (hu:X.A.units<cLine):OpR X (compareOp .Eq) (zY X.K):=by
 intro pins s σ H x y v u Q I rx ry h
 obtain⟨a,b,ys,rfl,rfl,ha,hb,q⟩:=h
 cases rx
 cases ry
 obtain⟨its,_,p1,_⟩:=I.tuple hb
 obtain⟨o2,ho2,hc2,_⟩:=id p1
 obtain⟨o,ho,hc⟩:∃o,s.heap.get? a=some o/\o.cls=.type "dict":=by
  rcases ha with⟨kvs,e⟩|⟨kvs,e⟩
  ·obtain⟨_,_,_,_,o,_,_,h1,h2,_⟩:=(show bg X.prog X.w H s.heap a (.dK kvs)from I.hok a _ e)
   exact⟨o,h1,h2.1⟩
  ·obtain⟨_,_,_,_,o,_,_,h1,h2,_⟩:=(show bg X.prog X.w H s.heap a (.dT kvs)from I.hok a _ e)
   exact⟨o,h1,h2.1⟩
 have hne:a≠b:=fun e=>by
  subst e
  rw[ho]at ho2;cases ho2
  rw[hc]at hc2;exact absurd hc2 (by simp)
 show wpAny _ _ (richCompare .Eq (.ref a) (.ref b)) _ _ s
 exact SeqAt.rc_eq_decline_or (k:=false) ⟨_,ho,hc⟩ ⟨_,ho2,hc2⟩ (by decide) F.sub_tuple_dict F.slot_dict_eq Tb
  (fun _ hq=>UL F.slot_dict_eq ⟨_,ho,hc⟩ F.entry_dict_eq (F.args_dict_eq_2 _ _) (HT.tH a b o hc o2 hc2) ⟨ho,ho2,hq⟩)
  (fun _ hq=>UL Tb ⟨_,ho2,hc2⟩ F.entry_tuple_eq (F.args_tuple_eq_2 _ _) (HT.rX b a o2 hc2 o hc) ⟨ho2,ho,hq⟩)
  (fun _ hq=>wpAny_isSame_ref_other hne ho ho2 (by rw[hc];simp) hq) (.inr hu) ⟨.bl false,H,I,rfl,q⟩
def bM (K:pv):R2:=fun x y H Q=>match x,y with
 |.ref a,.ref b=>Fj K (.ref a) (.ref b) H Q\/uW K (.ref a) (.ref b) H Q\/zY K (.ref a) (.ref b) H Q
 |.ref a,y=>uW K (.ref a) y H Q
 |x,.ref b=>uW K x (.ref b) H Q
 |x,y=>mEq x y H Q
theorem cH (hu:X.A.units+150<cLine):OpR X (compareOp .Eq) (bM X.K):=((BL (by omega)).or ((Cd hu).or ((AS (by omega)).or oEq))).imp fun x y H Q q=>by
 unfold bM at q
 split at q
 ·exact q.elim .inl fun z=>z.elim (fun z=>.inr (.inl z)) fun z=>.inr (.inr (.inl z))
 ·exact .inr (.inl q)
 ·exact .inr (.inl q)
 ·exact .inr (.inr (.inr q))
end
end L2
namespace HT
open PySem PyProof.Rows
theorem lg:typeLookup (.type "tuple") "__reversed__"=pure none:=by rw[NV,MR];kernel_rfl
theorem oz:Manifest.owners.lookup (String.ofList ['d','e','s','r','e','v','e','r'].reverse)=some Manifest.sig_reversed:=by kernel_rfl
theorem dZ:Slot "reversed" "__next__" "reversed.__next__":=
 .of (owner:="reversed") (n:="__next__") (by rw[NV,MR];kernel_rfl) (by decide+kernel) (by decide+kernel) (by decide+kernel)
  (by first|exact .inl (by decide+kernel)|exact .inr (by decide+kernel)) (by rw[Oy];kernel_rfl)
theorem iI:entryFor table "reversed.__next__"=some ON.«reversed.__next__»:=entryFor_of_tree (by kernel_rfl)
theorem jD (a:tx):argsOk "reversed.__next__" ⟨[a],[]⟩:=by
 unfold argsOk;rw[signature?_of (id:="reversed.__next__") (n:=['_','_','t','x','e','n','_','_']) (o:=['d','e','s','r','e','v','e','r']) (by kernel_rfl) oz];kernel_rfl
theorem jE:Slot "reversed" "__iter__" "reversed.__iter__":=
 .of (owner:="reversed") (n:="__iter__") (by rw[NV,MR];kernel_rfl) (by decide+kernel) (by decide+kernel) (by decide+kernel)
  (by first|exact .inl (by decide+kernel)|exact .inr (by decide+kernel)) (by rw[Oy];kernel_rfl)
theorem oV (a:tx):argsOk "reversed.__iter__" ⟨[a],[]⟩:=by
 unfold argsOk;rw[signature?_of (id:="reversed.__iter__") (n:=['_','_','r','e','t','i','_','_']) (o:=['d','e','s','r','e','v','e','r']) (by kernel_rfl) oz];kernel_rfl
theorem nJ:entryFor table "reversed.__iter__"=some ON.«dict_keyiterator.__iter__»:=
 entryFor_alias (id':="dict_keyiterator.__iter__") (by kernel_rfl) (by first|rfl|decide+kernel|(unfold String.splitOn;simp+decide [String.splitOnAux])) (by decide+kernel) (by kernel_rfl)
theorem oS:Slot "reversed" "__init__" "object.__init__":=
 .of (owner:="object") (n:="__init__") (by rw[NV,MR];kernel_rfl) (by decide+kernel) (by decide+kernel) (by decide+kernel)
  (by first|exact .inl (by decide+kernel)|exact .inr (by decide+kernel)) (by rw[Oy];kernel_rfl)
theorem uc:TypeCalled "reversed" "reversed.__new__" "object.__init__":=
 ⟨by decide+kernel,PySem.F.create_reversed,⟨_,_,PySem.F.mro_reversed⟩,PySem.F.made_reversed,by decide+kernel,PySem.F.sub_reversed_self,oS⟩
theorem qG:isSubtype (.type "tuple") (.type "dict")=pure false:=by rw[Oy];kernel_rfl
def rG (t:Addr)(i:Int):Obj:={cls:=.type "reversed",data:=.fields #[.ref t,rawInt i]}
theorem oQ (t:Addr)(items:Array tx):Meets (ON.«reversed.__new__» ⟨[.type "reversed",.ref t],[]⟩) (fun _ R s=>RZ s.heap t items/\(items.size:Int)<2^63/\
  R (.ok (.ret (.ref s.heap.objs.size))) {s with heap:=s.heap.push (rG t ((items.size:Int)- 1)),toks:=s.toks+1+1}):=
 .of_wp fun prog w A R s h=>by
  obtain⟨ht,hz,h⟩:=h
  unfold ON.«reversed.__new__»
  refine ah (OT (newClass_reversed _) ?_)
  try dsimp only
  refine ah (OT (a:=()) (by first|rfl|kernel_rfl) ?_)
  refine ah (OT (a:=()) (by first|rfl|kernel_rfl) ?_)
  try dsimp only
  refine ah (NU ht.typeIs lg ?_)
  try dsimp only
  refine ah (ah (Qe (T:="tuple") (b:=false) ht.typeIs qG ?_))
  rw[if_neg (by simp)]
  refine ah (NU (r:=some (.builtin "tuple.__getitem__")) ht.typeIs slot_tuple_getitem.lookup ?_)
  show wpAny _ _ (if (["tuple.__getitem__","str.__getitem__","bytes.__getitem__","bytearray.__getitem__","memoryview.__getitem__","numpy.ndarray.__getitem__","sqlite3.Row.__getitem__"].contains "tuple.__getitem__")=true then _ else _) _ _ s
  rw[if_pos (by decide)]
  refine Lo ?_
  rw[if_neg (by simp)]
  refine ah (len_tuple ht hz ?_)
  refine ah (OT (a:=some ((items.size:Nat):Int)) rfl ?_)
  show wpAny _ _ (newObj (.type "reversed") (.fields #[.ref t,rawInt ((items.size:Int)- 1)])>>=_) _ _ _
  exact ah (MQ (Lo ⟨_,rfl,h⟩))
section
variable {prog:LV}{w:Mx}{A:Mq}{E:tx->If->Prop}{s:If}
theorem jF {t:Addr}{items:Array tx}{Q:tx->If->Prop}(ht:RZ s.heap t items)(hz:(items.size:Int)<2^63)
  (h:Q (.ref s.heap.objs.size) {s with heap:=s.heap.push (rG t ((items.size:Int)- 1)),toks:=s.toks+1+1}):wpAny (model prog w) A (call (.type "reversed") [.ref t]) Q E s:=
 callType_new uc (by decide) (PySem.F.typeCall_reversed_1 _) (PySem.F.newCall_reversed_1 _) (fun obj=>PySem.F.args_object_init_2 obj _) PySem.F.entry_reversed_new (oQ t items) ⟨ht,hz,⟨_,Ly _ rfl,rfl⟩,h⟩
def ip (h:Heap)(a t:Addr)(i:Int):Prop:=h.get? a=some (rG t i)
theorem ip.typeIs {a t:Addr}{i:Int}(x:ip s.heap a t i):s.TypeIs (.ref a) "reversed":=⟨_,x,rfl⟩
theorem oX {it t:Addr}{i:Nat}{items:Array tx}{x:tx}{Q:Option tx->If->Prop}(hit:ip s.heap it t (i:Int))(ht:RZ s.heap t items)(hz:(items.size:Int)<2^63)(hx:items[i]?=some x)
  (hQ:∀h',ip h' it t ((i:Int)- 1)->Nd it s.heap h'->Q (some x) {s with heap:=h',toks:=s.toks+1}):wpAny (model prog w) A (pyNext (.ref it)) Q E s:=by
 have hi:i<items.size:=by
  rcases Ox i items.size with h|h
  ·exact h
  ·rw[PD h]at hx;cases hx
 unfold pyNext
 refine ah (Pl (MG (name:=MU "__next__") hit.typeIs dZ
  (ML dZ hit.typeIs iI ?_ (jD _))))
 unfold ON.«reversed.__next__»
 refine ah (OT (a:=(LF it,[])) rfl ?_)
 try dsimp only
 refine ah (Mt hit rfl (x:=.ref t) rfl ?_)
 refine ah (Mt hit rfl (x:=rawInt (i:Int)) rfl ?_)
 show wpAny _ _ (if (i:Int)<0 then _ else _) _ _ s
 rw[if_neg (by omega)]
 refine ah (NU (r:=some (.builtin "tuple.__getitem__")) ht.typeIs slot_tuple_getitem.lookup ?_)
 rw[if_neg (by simp)]
 refine ah (wpAny_mkInt ?_)
 refine ah (Pl (getItem_tuple (j:=i) (x:=x) ht (by omega) (by omega) ?_ hx ?_))
 ·unfold seqIndex?
  simp
  omega
 ·refine ah (Mt (s:={s with toks:=s.toks+1}) hit rfl (x:=rawInt (i:Int)) rfl ?_)
  refine ah (MV hit (by simp) fun h' y sb=>?_)
  exact Lo ⟨x,rfl,Lo (hQ h' y sb)⟩
theorem qp {it t:Addr}{Q:Option tx->If->Prop}(hh:A.handled=none)(hit:ip s.heap it t (-1))
  (hQ:∀h',SH it s.heap h'->Q none {s with heap:=h'}):wpAny (model prog w) A (pyNext (.ref it)) Q E s:=by
 unfold pyNext
 refine ah (Pl (MG (name:=MU "__next__") hit.typeIs dZ
  (ML dZ hit.typeIs iI ?_ (jD _))))
 unfold ON.«reversed.__next__»
 refine ah (OT (a:=(LF it,[])) rfl ?_)
 try dsimp only
 refine ah (Mt hit rfl (x:=.ref t) rfl ?_)
 refine ah (Mt hit rfl (x:=rawInt (-1)) rfl ?_)
 show wpAny _ _ (if (-1:Int)<0 then _ else _) _ _ s
 rw[if_pos (by decide)]
 refine ah (QB ?_)
 refine ah (ah (MV hit (by simp) fun h1 y1 s1=>?_))
 refine MV y1 (by simp) fun h2 y2 s2=>?_
 first
 |show wpAny _ _ (newExc (.type "StopIteration") []>>=_) _ _ _
 |(refine ah ?_;show wpAny _ _ (newExc (.type "StopIteration") []>>=_) _ _ _)
 refine ah ?_
 simp only[newExc,newTuple]
 refine ah (MQ ?_ (by size_fits))
 refine ah (m:=firstArgMember _ _) (OT (a:=NL) (by first|rfl|(simp only[firstArgMember];rfl)) ?_)
 refine MQ ?_ (by size_fits)
 simp only[raiseNew]
 refine ah (wpAny_handled ?_)
 first|rw[show A.in1.handled=none from hh]|rw[hh]
 refine ah (Lo (wpAny_throw ?_))
 refine ah (Qe (T:="StopIteration") (b:=true) ⟨_,Ly _ rfl,rfl⟩ isSubtype_stop ?_)
 have eb:SH it s.heap h2:=fun c o hc e=>s2.extBut _ _ hc (s1.extBut _ _ hc e)
 exact Lo (hQ _ ((eb.push _).push _))
theorem rf {it t:Addr}{i:Int}{Q:tx->If->Prop}(hit:ip s.heap it t i)(h:Q (.ref it) s):wpAny (model prog w) A (pyIter (.ref it)) Q E s:=by
 refine UG hit.typeIs jE (ML jE hit.typeIs nJ ?_ (oV _))
 show wpAny _ _ (ret (.ref it)) _ _ s
 exact Lo ⟨_,rfl,"reversed",_,hit.typeIs,dZ.lookup,h⟩
end
end HT
namespace L2
open PySem PySem.Spec PyProof.Rows
def Ft (K:pv)(a:Addr)(xs:List V):It:=
 ⟨fun i H=>SqT K H a xs/\i<xs.length,fun i H x H'=>H'=H/\xs.reverse[i]?=some x,fun i _=>xs.length<=i⟩
theorem yZ {P:LV}{w:Mx}{K:pv}{tg:Expr}(a it:Addr)(xs:List V):jn P w K tg (Ft K a xs) [it] it (fun i h=>i<=xs.length/\HT.ip h it a ((xs.length:Int)- 1- i))where
 mem:=by simp
 obj:=fun i h st b hb=>by
  have e:b=it:=by simpa using hb
  subst e
  exact⟨_,st.2,fun v z=>by cases z⟩
 keep:=fun i h h' st k=>⟨st.1,k it (by simp) _ st.2⟩
 item:=by
  intro X hP hw hK hc i pins s σ H E I hf st hg
  subst hP hw hK
  obtain⟨hq,hi⟩:=hg
  obtain⟨its,rv,p,hz⟩:=I.tuple hq
  obtain⟨f0,f1,f2,f3,f4,f5⟩:=hf it (by simp)
  have hl:=rv.length
  obtain⟨x,hx⟩:∃x,xs[xs.length- 1- i]?=some x:=⟨_,Gt (by omega)⟩
  obtain⟨u,hu,ru⟩:=rv.get hx
  have hrx:xs.reverse[i]?=some x:=by rw[NC hi];exact hx
  have e1:(xs.length:Int)- 1- i=((xs.length- 1- i:Nat):Int):=by omega
  have st2:=st.2
  rw[e1]at st2
  refine HT.oX st2 (show RZ s.heap a its.toArray from p) (by rw[Lw];rw[NA]at hz;omega) (x:=u) (by simpa using hu) fun h' st' sb=>?_
  have I1:Inv X pins σ H {s with heap:=h',toks:=s.toks+1}:=I.turned (t':=s.toks+1) (fun b o hb e=>(sb.2 b hb).trans e) f0 f1 f3 f4 f5
  have e2:((xs.length- 1- i:Nat):Int)- 1=(xs.length:Int)- 1- ((i+1:Nat):Int):=by omega
  rw[e2]at st'
  exact⟨u,rfl,kD (s:={s with heap:=h',toks:=s.toks+1}) st' rfl rfl (by decide) ⟨x,H,I1,ru,⟨rfl,hrx⟩,⟨hi,st'⟩,fun b hb=>(hf b hb).1⟩⟩
 done:=by
  intro X hP hw hK hc i pins s σ H E I hf st hg
  subst hP hw hK
  obtain⟨f0,f1,f2,f3,f4,f5⟩:=hf it (by simp)
  have hi:xs.length<=i:=hg
  have e1:(xs.length:Int)- 1- i= -1:=by have:=st.1;omega
  have st2:=st.2
  rw[e1]at st2
  exact HT.qp (I.ok.hd hc) st2 fun h' eb=>⟨rfl,I.turned (t':=s.toks) (fun b o hb e=>eb b o hb e) f0 f1 f3 f4 f5⟩
 self:=fun A i s Q E st h=>HT.rf st.2 h
theorem kT:bootBuiltins "reversed"=some (.type "reversed"):=by decide+kernel
section
variable {X:Cx}{a:Expr}{t:TA}{p pos:Pos}{tg:Expr}
theorem zf:OpR X (binaryOp .FloorDiv) (rI (fun _ j=>0<j/\j<1267650600228229401496703205376) fun i j=>.int (i/j)):=opI fun i j _ _ _ _ _ hc q=>by
 have h1:(0:Int)<j:=hc.1
 have h2:j<1267650600228229401496703205376:=hc.2
 have h3:j.natAbs.log2<100:=(Qz (by omega)).mpr (Nat.lt_of_lt_of_eq (m:=1267650600228229401496703205376) (by omega) (by decide))
 exact floordiv_int (by omega) (by rw[Int.fdiv_eq_ediv_of_nonneg i (by omega)];exact q) (.inl (PyProof.noPylong_of_log2 (by omega)))
def bw:R2:=fun x y H Q=>match x,y with|.int i,.int j=>(0<j/\j<1267650600228229401496703205376)/\Q (.int (i/j)) H|_,_=>False
theorem dw:OpR X (binaryOp .FloorDiv) bw:=zf.imp fun x y H Q q=>by
 unfold bw at q
 split at q
 ·exact⟨_,_,rfl,rfl,q.1,q.2⟩
 ·exact q.elim
end
section
variable {α:Type}{l:List α}
theorem pC (h:l.length=0):l=[]:=List.length_eq_zero_iff.mp h
theorem fe (h:l.length=1):∃a0,l=[a0]:=by
 cases l with
 |nil=>simp at h
 |cons a l=>
  obtain rfl:=pC (l:=l) (by simpa using h)
  exact⟨a,rfl⟩
theorem pG (h:l.length=2):∃a0 a1,l=[a0,a1]:=by
 cases l with
 |nil=>simp at h
 |cons a l=>
  obtain⟨b0,rfl⟩:=fe (l:=l) (by simpa using h)
  exact⟨a,b0,rfl⟩
theorem zB (h:l.length=3):∃a0 a1 a2,l=[a0,a1,a2]:=by
 cases l with
 |nil=>simp at h
 |cons a l=>
  obtain⟨b0,b1,rfl⟩:=pG (l:=l) (by simpa using h)
  exact⟨a,b0,b1,rfl⟩
theorem zX (h:l.length=4):∃a0 a1 a2 a3,l=[a0,a1,a2,a3]:=by
 cases l with
 |nil=>simp at h
 |cons a l=>
  obtain⟨b0,b1,b2,rfl⟩:=zB (l:=l) (by simpa using h)
  exact⟨a,b0,b1,b2,rfl⟩
theorem Gh (h:l.length=5):∃a0 a1 a2 a3 a4,l=[a0,a1,a2,a3,a4]:=by
 cases l with
 |nil=>simp at h
 |cons a l=>
  obtain⟨b0,b1,b2,b3,rfl⟩:=zX (l:=l) (by simpa using h)
  exact⟨a,b0,b1,b2,b3,rfl⟩
theorem HX (h:l.length=6):∃a0 a1 a2 a3 a4 a5,l=[a0,a1,a2,a3,a4,a5]:=by
 cases l with
 |nil=>simp at h
 |cons a l=>
  obtain⟨b0,b1,b2,b3,b4,rfl⟩:=Gh (l:=l) (by simpa using h)
  exact⟨a,b0,b1,b2,b3,b4,rfl⟩
end
theorem bj.le {A:Mq}{m n:Nat}(h:bj m A)(d:n<=m:=by first|decide|omega):bj n A:=h.mono d
theorem scF {N P:List Str}{sc:Scope}(h1:sc.kind=.function:=by rfl)(h2:sc.isCoroutine=false:=by rfl)(h3:sc.isGenerator=false:=by rfl)(h4:N.Nodup:=by decide+kernel)(h5:N.take P.length=P:=by rfl)
 (h6:∀x∈P,sc.names.lookup x=some .local\/sc.names.lookup x=some .cell:=by decide+kernel)(h7:∀y∈sc.names,y.2≠.free:=by decide+kernel):aF N P sc:=⟨h1,h2,h3,h4,h5,h6,h7⟩
structure Fm (K:pv)(mg:Str->Option tx)(x qual:Str)(st:Stmt)(a:Addr)(d:LI)(ps:List Str):Prop where
 f:Fun K x qual st a d
 m:mg x=some (.ref a)
 b:bv K d ps []
structure Fa (K:pv)(x qual:Str)(st:Stmt)(a:Addr)(d:LI):Prop where
 m:NN K mainGlobals x=some (some (.ref a))
 f:Fun K x qual st a d
section
variable {P:LV}{w:Mx}{K:pv}{mg:Str->Option tx}{base h:Heap}{x qual:Str}{st:Stmt}{a:Addr}{d:LI}{ps:List Str}
theorem bz {oc:tx}{od an:Option Addr}{osl:Array (Option tx)}{kV doc pm cdv ct:tx}(m:NN K mainGlobals x=some (some (.ref a)))(l:K.lookup a=some ⟨oc,od,.func (OG x qual (bY st) (aS st) (au st) .none kV doc pm an cdv ct),osl⟩)
 (c:TZ K cdv qual=true)(k:Ov K (.ref a)=true):Fa K x qual st a (OG x qual (bY st) (aS st) (au st) .none kV doc pm an cdv ct):=⟨m,bX l c k⟩
theorem Fa.code (F:Fa K x qual st a d)(X:K.In h)(G:h.Ns mainGlobals mg){z t:Addr}(ht:Pa K x=some (z,t)):d.code=.ref z:=by
 obtain⟨oc,od,kV,doc,pm,an,cdv,ct,osl,e,lk,hcd⟩:=F.f.ex
 exact W.law_code X G ht (NO X G F.m) (X _ _ lk) rfl
theorem Fun.bt {p:Str}(F:Fun K x qual st a d)(hb:∀(kV doc pm:tx)(an:Option Addr)(cdv ct v:tx),bindArgs (OG x qual (bY st) (aS st) (au st) .none kV doc pm an cdv ct) ⟨[v],[]⟩=pure [(p,v)]:=by intros;rfl)(s:If)(v:tx):SR s d ⟨[v],[]⟩ [(p,v)]:=by
 obtain⟨oc,od,kV,doc,pm,an,cdv,ct,osl,rfl,lk,hcd⟩:=F.ex
 exact .of_eq (hb kV doc pm an cdv ct v)
theorem Fun.b0 (F:Fun K x qual st a d)(hb:∀(kV doc pm:tx)(an:Option Addr)(cdv ct:tx),bindArgs (OG x qual (bY st) (aS st) (au st) .none kV doc pm an cdv ct) ⟨[],[]⟩=pure (OO [] []):=by intros;rfl):bv K d [] []:=F.binds fun kV doc pm an cdv ct us hl=>by
 obtain rfl:=L2.pC hl
 exact hb kV doc pm an cdv ct
theorem Fa.fm0 (F:Fa K x qual st a d)(X:K.In h)(G:h.Ns mainGlobals mg)(hb:∀(kV doc pm:tx)(an:Option Addr)(cdv ct:tx),bindArgs (OG x qual (bY st) (aS st) (au st) .none kV doc pm an cdv ct) ⟨[],[]⟩=pure (OO [] []):=by intros;rfl):Fm K mg x qual st a d []:=⟨F.f,NO X G F.m,F.f.b0 hb⟩
theorem Fun.b1 {p0:Str}(F:Fun K x qual st a d)(hb:∀(kV doc pm:tx)(an:Option Addr)(cdv ct u0:tx),bindArgs (OG x qual (bY st) (aS st) (au st) .none kV doc pm an cdv ct) ⟨[u0],[]⟩=pure (OO [p0] [u0]):=by intros;rfl):bv K d [p0] []:=F.binds fun kV doc pm an cdv ct us hl=>by
 obtain⟨u0,rfl⟩:=L2.fe hl
 exact hb kV doc pm an cdv ct u0
theorem Fa.fm1 {p0:Str}(F:Fa K x qual st a d)(X:K.In h)(G:h.Ns mainGlobals mg)(hb:∀(kV doc pm:tx)(an:Option Addr)(cdv ct u0:tx),bindArgs (OG x qual (bY st) (aS st) (au st) .none kV doc pm an cdv ct) ⟨[u0],[]⟩=pure (OO [p0] [u0]):=by intros;rfl):Fm K mg x qual st a d [p0]:=⟨F.f,NO X G F.m,F.f.b1 hb⟩
theorem Fun.b2 {p0 p1:Str}(F:Fun K x qual st a d)(hb:∀(kV doc pm:tx)(an:Option Addr)(cdv ct u0 u1:tx),bindArgs (OG x qual (bY st) (aS st) (au st) .none kV doc pm an cdv ct) ⟨[u0,u1],[]⟩=pure (OO [p0,p1] [u0,u1]):=by intros;rfl):bv K d [p0,p1] []:=F.binds fun kV doc pm an cdv ct us hl=>by
 obtain⟨u0,u1,rfl⟩:=L2.pG hl
 exact hb kV doc pm an cdv ct u0 u1
theorem Fa.fm2 {p0 p1:Str}(F:Fa K x qual st a d)(X:K.In h)(G:h.Ns mainGlobals mg)(hb:∀(kV doc pm:tx)(an:Option Addr)(cdv ct u0 u1:tx),bindArgs (OG x qual (bY st) (aS st) (au st) .none kV doc pm an cdv ct) ⟨[u0,u1],[]⟩=pure (OO [p0,p1] [u0,u1]):=by intros;rfl):Fm K mg x qual st a d [p0,p1]:=⟨F.f,NO X G F.m,F.f.b2 hb⟩
theorem Fun.b3 {p0 p1 p2:Str}(F:Fun K x qual st a d)(hb:∀(kV doc pm:tx)(an:Option Addr)(cdv ct u0 u1 u2:tx),bindArgs (OG x qual (bY st) (aS st) (au st) .none kV doc pm an cdv ct) ⟨[u0,u1,u2],[]⟩=pure (OO [p0,p1,p2] [u0,u1,u2]):=by intros;rfl):bv K d [p0,p1,p2] []:=F.binds fun kV doc pm an cdv ct us hl=>by
 obtain⟨u0,u1,u2,rfl⟩:=L2.zB hl
 exact hb kV doc pm an cdv ct u0 u1 u2
theorem Fa.fm3 {p0 p1 p2:Str}(F:Fa K x qual st a d)(X:K.In h)(G:h.Ns mainGlobals mg)(hb:∀(kV doc pm:tx)(an:Option Addr)(cdv ct u0 u1 u2:tx),bindArgs (OG x qual (bY st) (aS st) (au st) .none kV doc pm an cdv ct) ⟨[u0,u1,u2],[]⟩=pure (OO [p0,p1,p2] [u0,u1,u2]):=by intros;rfl):Fm K mg x qual st a d [p0,p1,p2]:=⟨F.f,NO X G F.m,F.f.b3 hb⟩
theorem Fun.b4 {p0 p1 p2 p3:Str}(F:Fun K x qual st a d)(hb:∀(kV doc pm:tx)(an:Option Addr)(cdv ct u0 u1 u2 u3:tx),bindArgs (OG x qual (bY st) (aS st) (au st) .none kV doc pm an cdv ct) ⟨[u0,u1,u2,u3],[]⟩=pure (OO [p0,p1,p2,p3] [u0,u1,u2,u3]):=by intros;rfl):bv K d [p0,p1,p2,p3] []:=F.binds fun kV doc pm an cdv ct us hl=>by
 obtain⟨u0,u1,u2,u3,rfl⟩:=L2.zX hl
 exact hb kV doc pm an cdv ct u0 u1 u2 u3
theorem Fa.fm4 {p0 p1 p2 p3:Str}(F:Fa K x qual st a d)(X:K.In h)(G:h.Ns mainGlobals mg)(hb:∀(kV doc pm:tx)(an:Option Addr)(cdv ct u0 u1 u2 u3:tx),bindArgs (OG x qual (bY st) (aS st) (au st) .none kV doc pm an cdv ct) ⟨[u0,u1,u2,u3],[]⟩=pure (OO [p0,p1,p2,p3] [u0,u1,u2,u3]):=by intros;rfl):Fm K mg x qual st a d [p0,p1,p2,p3]:=⟨F.f,NO X G F.m,F.f.b4 hb⟩
theorem Fun.b6 {p0 p1 p2 p3 p4 p5:Str}(F:Fun K x qual st a d)(hb:∀(kV doc pm:tx)(an:Option Addr)(cdv ct u0 u1 u2 u3 u4 u5:tx),bindArgs (OG x qual (bY st) (aS st) (au st) .none kV doc pm an cdv ct) ⟨[u0,u1,u2,u3,u4,u5],[]⟩=pure (OO [p0,p1,p2,p3,p4,p5] [u0,u1,u2,u3,u4,u5]):=by intros;rfl):bv K d [p0,p1,p2,p3,p4,p5] []:=F.binds fun kV doc pm an cdv ct us hl=>by
 obtain⟨u0,u1,u2,u3,u4,u5,rfl⟩:=L2.HX hl
 exact hb kV doc pm an cdv ct u0 u1 u2 u3 u4 u5
theorem Fa.fm6 {p0 p1 p2 p3 p4 p5:Str}(F:Fa K x qual st a d)(X:K.In h)(G:h.Ns mainGlobals mg)(hb:∀(kV doc pm:tx)(an:Option Addr)(cdv ct u0 u1 u2 u3 u4 u5:tx),bindArgs (OG x qual (bY st) (aS st) (au st) .none kV doc pm an cdv ct) ⟨[u0,u1,u2,u3,u4,u5],[]⟩=pure (OO [p0,p1,p2,p3,p4,p5] [u0,u1,u2,u3,u4,u5]):=by intros;rfl):Fm K mg x qual st a d [p0,p1,p2,p3,p4,p5]:=⟨F.f,NO X G F.m,F.f.b6 hb⟩
theorem Fun.okS {CX:CXT}{N:List Str}{k:Nat}{sp:Sp}{t:TS}(F:Fun K x qual st a d)(S:aF N ps (au st))(len:∀vs H Q E,sp vs H Q E->vs.length=ps.length)
  (hrd:∀(vs:List V)(H:Hp)(Q:VK)(E:XK),sp vs H Q E->t {nx:=fun _ H'=>Q .non H',rt:=Q} (start N vs) H)
  (hq:∀(cdv:tx)(A:Mq)(outer:List Env)(s:If)(H:Hp)(E:XK),bj k (A.deeper (envOfC qual (au st) s.heap.objs.size a cdv))->QSs (cM CX P w K mg base N qual (au st) a cdv A outer s H E).nox (aS st) t):aQ P w K mg base CX (k+1) a d ps sp:=
 F.okN S len fun cdv A outer s H vs Q E hr h=>⟨t,(hq cdv A outer s H E hr).out,hrd vs H Q E h⟩
end
section
variable {X:Cx}{x q:Str}{e:Expr}{es:List Expr}{t:TA}{p pos:Pos}{st:Stmt}{f:Addr}{fd:LI}{ps:List Str}{k:Nat}{sp:Sp}
theorem bf {P:LV}{w:Mx}(F:aQ X.prog X.w X.K X.mg X.base (CX1 P w) k f fd ps sp)(hr:bj k X.A)(M:Fm X.K X.mg x q st f fd ps)
 (ha:QA X (e::es) t)(hg:Gl X x:=by rfl)(hdb:(x==("__debug__":Str))=false:=by decide)(hs:bo (e::es)=true:=by rfl):QE X (.Call (.Name x p) (e::es) [] pos) (aC sp (fun _=>E0) t):=iS F hr M.m M.f.kp M.b bn ha hg hdb hs
end
def iU (ks:im)(C:Addr)(m:Str)(E:St->XK)(ta:TE)(t:TA):TE:=fun σ H Q=>ta σ H fun x H1=>∃a dx fs f,x=.ref a/\H1 a=some (.ins C dx fs)/\fs.lookup m=some (.ref f)/\(∃ts∈ks,∃cs cvs,df H1 f ts.1 cs cvs)/\t σ H1 fun vs H2=>mF ks f vs H2 Q (E σ)
section
variable {X:Cx}{pins:List (Addr×Obj)}{σ:St}{H:Hp}{s:If}{A:Mq}{E:tx->If->Prop}{a C dx:Addr}{fs:List (Str×V)}{v:V}
theorem uL {m:Str}{pl:Sem Bool}{Q:tx×List tx->If->Prop}(I:Inv X pins σ H s)(e:H a=some (.ins C dx fs))(c:Cls X.K C)(n:cO X.K C m)(l:fs.lookup m=some v)
  (h:∀u s',Inv X pins σ H s'->aX v u->Q (u,[]) s'):wpAny (model X.prog X.w) A (getMethod (.ref a) m pl) Q E s:=by
 obtain⟨mA,O,r,_,_,_⟩:=iW I.hok e
 obtain⟨od,J,hl⟩:=O.look
 exact W.method_usual (r:=none) I.kIn J (PR (c.get m)).1 (PR (c.get m)).2 n rfl (mL I e c n l h)
end
section
variable {X:Cx}{k:Nat}{C:Addr}{E:St->XK}{m:Str}{pos apos:Pos}{e o:Expr}{es:List Expr}{ta:TE}{t:TA}
theorem iV {pl:Sem Bool}{ks:im}(hk:kP X.prog X.w X.K X.mg X.base k ks)(hr:bj k X.A)(hx:eJ (CX1 X.prog X.w) X E)(he:QE X o ta)(c:Cls X.K C)(n:cO X.K C m)(ha:QA X (e::es) t)
  (hs:bo (e::es)=true:=by rfl)
  (ht:eval (.Call (.Attribute o m apos) (e::es) [] pos) X.env=(do
   let ov<-eval o X.env
   standAt apos.atName
   let (f,first)<-holding [ov] (getMethod ov m pl)
   callWith pos f first (backTo pos (starEach (e::es) X.env)) (backToKw pos (keywordEach [] X.env))):=by rfl):
  QE X (.Call (.Attribute o m apos) (e::es) [] pos) (iU ks C m E ta t):=⟨fun pins s σ H Q I h=>by
 have h':(bR e&&bo es)=true:=hs
 refine RI (pl:=pl) (thn (he.out pins s σ H _ I h) fun u s1 ⟨x,H1,I1,rx,a,dx,fs,f,ex,ea,l,⟨ts,hts,cs,cvs,ca⟩,q⟩=>?_) ht
 subst ex
 obtain rfl:u=LF a:=rx
 refine uL I1 ea c n l fun w s2 I2 rw2=>?_
 obtain rfl:w=LF f:=rw2
 refine W.callWith_F (mv I2.hok ca) (thn (ha.out pos pins s2 σ H1 _ I2 q) fun us s3 ⟨vs,H2,I3,rv,ts2,hm2,cs2,cvs2,ca2,hl,hsp⟩=>⟨mv I3.hok ca2,?_⟩)
  (aZ (Lv.mp h').1 es X.env) (bQ (Lv.mp h').2)
 refine QC (NY ((hk ts2 hm2).run X.A X.stack s3 H2 f cs2 us vs cvs2 Q (E σ) hr I3.env0 ca2 rv hl hsp) fun r s' hq=>?_)
 cases r with
 |error e=>exact hx pins σ H2 s3 e s' I3 hq
 |ok fl=>
  cases fl with
  |ret u=>exact I3.after hq
  |next=>exact Mu hq
  |brk=>exact Mu hq
  |cont=>exact Mu hq⟩
end
end L2
namespace HT
open PySem PyProof.Rows
theorem wI:typeLookup (.type "list_reverseiterator") "__len__"=pure none:=by rw[NV,MR];kernel_rfl
theorem xC:typeLookup (.type "list_reverseiterator") "__length_hint__"=pure (some (.builtin "list_reverseiterator.__length_hint__")):=by rw[NV,MR];kernel_rfl
section
variable {prog:LV}{w:Mx}{A:Mq}{s:If}{R:Qg->If->Prop}
variable {I:Addr}{fp wr:List Addr}{G:Array QK->Array QK->Prop}{n:Nat}{P:Nat->tx->Prop}{St:Nat->If->Prop}
theorem uf (W:WalksS prog w A.in1 I fp wr G n P St)(hT:∀i s,St i s->s.TypeIs (.ref I) "list_reverseiterator")(S:Addr)(res:tx)(c₀:Nat)(hst:St 0 s)(hSf:S∉fp)(hI:I∈fp)
  (hS:s.heap.get? S=some {cls:=.type "list",data:=.seq #[] c₀})
  (hR:∀s' acc' c',Moved (S::wr) G s s'->s'.heap.get? S=some {cls:=.type "list",dict:=none,data:=.seq acc' c',slots:=#[]}->ItemsOf P acc' n->R (.ok (.ret res)) s')(hn:n<=sizeLine):
  wpAny (model prog w) A.in1 (Mz (.ref S) (.ref I) res)
   (fun fin s'=>match fin with|.done f=>R (.ok f) s'|.again c'=>c'.quiet=true/\codeAny (model prog w) A c' R s') (fun e s'=>R (.error e) s') s:=by
 have hSI:S≠I:=fun e=>hSf (e▸hI)
 have h1:Of (.ref S) (.ref I)=false:=by simp[Of,hSI]
 unfold Mz
 refine ah (Qs (hT 0 _ hst) ?_)
 rw[if_neg (by rw[h1];decide)]
 refine ah (W.self 0 _ _ _ hst ?_)
 refine ah (Ni ?_)
 unfold Qq
 refine ah (NU (hT 0 _ hst) wI ?_)
 show wpAny _ A.in1 (specialOf (LF I) (MU "__length_hint__")>>=_) _ _ _
 refine ah (NU (hT 0 _ hst) xC ?_)
 generalize hid:("list_reverseiterator.__length_hint__":String)=id0
 wp_delta
 rw[show splitId id0=some ("list_reverseiterator","__length_hint__")from by subst hid;decide+kernel]
 subst hid
 refine ah (Qe (b:=true) (hT 0 _ hst) (by rw[Oy];kernel_rfl) ?_)
 refine Lo ?_
 rw[if_neg (by decide)]
 exact Lo ⟨Rk Nf _,codeAny_extend_loopS W hn _ hSf _ n 0 _ _ _ rfl (Mj _) hst hS (ItemsOf.nil P) fun s' acc' c' hm hS' hacc=>hR s' acc' c' hm hS' hacc⟩
theorem oP (W:WalksS prog w A.in1 I fp wr G n P St)(hT:∀i s,St i s->s.TypeIs (.ref I) "list_reverseiterator")(S:Addr)(hst:St 0 s)(hSf:S∉fp)(hI:I∈fp)
  (hS:s.heap.get? S=some {cls:=.type "list",data:=.seq #[]})
  (hR:∀s' acc' c',Moved (S::wr) G s s'->s'.heap.get? S=some {cls:=.type "list",dict:=none,data:=.seq acc' c',slots:=#[]}->ItemsOf P acc' n->R (.ok (.ret .none)) s')(hn:n<=sizeLine):
  wpAny (model prog w) A.in1 (ON.«list.__init__» ⟨[.ref S,.ref I],[]⟩)
   (fun fin s'=>match fin with|.done f=>R (.ok f) s'|.again c'=>c'.quiet=true/\codeAny (model prog w) A c' R s') (fun e s'=>R (.error e) s') s:=by
 show wpAny _ A.in1 (do let old<-Om (.ref S);Ra (.ref S) (fun _=>#[]);letGo old.toList.reverse;Mz (.ref S) (.ref I) .none) _ _ s
 refine ah ?_
 unfold Om
 refine ah (Nx hS rfl (Lo ?_))
 show wpAny _ A.in1 (updateSeq S (fun _=>#[])>>=fun _=>letGo (#[]:Array tx).toList.reverse>>=fun _=>Mz (.ref S) (.ref I) .none) _ _ s
 refine ah (Pr hS rfl ?_)
 have hS₂:=My (Nb (fun _=>(#[]:Array tx))) hS rfl
 have oth:∀b o,b≠S->s.heap.get? b=some o->(s.heap.update S (Nb (fun _=>(#[]:Array tx)))).get? b=some o:=
  fun b o hb e=>(MC _ _ (Mh hb)).trans e
 refine ah (Rc ?_)
 refine uf (hn:=hn) W hT S .none _ (W.frame 0 s _ s.toks hst (gV _) fun b hb o e=>oth b o (fun h=>hSf (h▸hb)) e) hSf hI hS₂ fun s' acc' c' hm hS' hacc=>?_
 exact hR s' acc' c' (Moved.trans W.gtrans ((Moved.refl W.grefl).then_heap (gV _) fun b o hb e=>oth b o (fun h=>hb (h▸Mm)) e) hm) hS' hacc
end
section
variable {prog:LV}{w:Mx}{A:Mq}{E:tx->If->Prop}{s:If}
variable {I:Addr}{fp wr:List Addr}{G:Array QK->Array QK->Prop}{n:Nat}{P:Nat->tx->Prop}{St:Nat->If->Prop}
theorem oU {Q:tx->If->Prop}(W:WalksS prog w A.in1.in1 I fp wr G n P St)(hT:∀i s,St i s->s.TypeIs (.ref I) "list_reverseiterator")(hst:St 0 s)(hfp:∀b∈fp,b<s.heap.objs.size)(hI:I∈fp)
  (hQ:∀s' acc' c',Moved (s.heap.objs.size::wr) G {s with heap:=s.heap.push {cls:=.type "list",data:=.seq #[]}} s'->
   s'.heap.get? s.heap.objs.size=some {cls:=.type "list",dict:=none,data:=.seq acc' c',slots:=#[]}->ItemsOf P acc' n->Q (.ref s.heap.objs.size) s')(hn:n<=sizeLine):
  wpAny (model prog w) A (call (.type "list") [.ref I]) Q E s:=by
 have hSf:s.heap.objs.size∉fp:=fun hm=>Nc _ (hfp _ hm)
 refine callType_codes (Q₁:=fun obj s₁=>obj=.ref s.heap.objs.size/\s₁={s with heap:=s.heap.push {cls:=.type "list",data:=.seq #[]}}) TC (Sv _) Sy
  (code_list_new _ ⟨rfl,rfl⟩) fun obj s₁ h₁=>?_
 obtain⟨rfl,rfl⟩:=h₁
 have hS:(s.heap.push {cls:=.type "list",data:=.seq #[]}).get? s.heap.objs.size=some {cls:=.type "list",data:=.seq #[]}:=Ly _ rfl
 refine⟨⟨_,hS,rfl⟩,Sf _ _,oP (hn:=hn) W hT _ (W.frame 0 s _ s.toks hst (gV _) fun b _ o e=>cW _ e) hSf hI hS fun s' acc' c' hm hS' hacc=>?_⟩
 exact⟨rfl,hQ s' acc' c' hm hS' hacc⟩
end
end HT
namespace L2
open PySem PySem.Spec PyProof.Rows
def qz (K:pv):List V->Hp->VK->Prop:=fun xs H Q=>∃c ys,xs=[.ref c]/\SqL K H c ys/\∀l,H l=none->Q (.ref l) (upd H l (.lst ys.reverse))
section
variable {X:Cx}{pins:List (Addr×Obj)}{σ:St}{H:Hp}{s:If}
theorem yG {Q:VK}{c:Addr}{ys:List V}(hc:X.calm=true)(I:Inv X pins σ H s)(hq:SqL X.K H c ys)(q:∀l,H l=none->Q (.ref l) (upd H l (.lst ys.reverse))):
  wpAny (model X.prog X.w) X.A (call (.type "reversed") [.ref c]) (fun u s2=>wpAny (model X.prog X.w) X.A (call (.type "list") [u]) (EP X pins σ Q) X.xe s2) X.xe s:=by
 obtain⟨its,r',pl,hz⟩:=I.list hq
 have hlen:=r'.length
 have hl:=pl.isList
 refine Uu hl ?_
 have hcs:c<s.heap.objs.size:=by obtain⟨o,ho,_⟩:=hl;exact Lt ho
 have hne:c≠s.heap.objs.size:=LH hcs
 have W:=(Walks.listRev (prog:=X.prog) (w:=X.w) (A:=X.A.in1.in1) (I.ok.hd hc) s.heap.objs.size c hne its.toArray).toS
 have hl2:(s.heap.push (revObj c ((its.toArray.size:Int)- 1))).IsList c its.toArray:=hl.at fun o e=>cW _ e
 have hz':its.toArray.size<=sizeLine:=by rw[Lw];omega
 have hsz:(s.heap.push (revObj c ((its.toArray.size:Int)- 1))).objs.size=s.heap.objs.size+1:=NG _ _
 refine HT.oU (s:={s with heap:=s.heap.push (revObj c ((its.toArray.size:Int)- 1))}) W (fun i s3 st=>st.2.1.typeIs) ⟨Mj _,⟨_,Ly _ rfl,rfl,by show SI _=SI _;simp⟩,hl2⟩ (fun b hb=>?_) (by simp) (fun s' acc' c' hm hS' hacc=>?_) hz'
 ·show b<(s.heap.push _).objs.size
  rw[hsz]
  rcases LG.mp hb with z|z
  ·rw[z];exact On _
  ·rw[LK.mp z];exact Nat.lt_succ_of_lt hcs
 ·have e1:acc'.toList=its.reverse:=by
   refine Th fun j=>?_
   by_cases hj:j<its.length
   ·have hj2:j<acc'.size:=by rw[hacc.1,Lw];exact hj
    have ea:acc'[j]?=some acc'[j]:=NF hj2
    have hp:its.toArray[its.toArray.size- 1- j]?=some acc'[j]:=hacc.2 j _ ea
    rw[Array.getElem?_toList,ea,NC hj,<-hp]
    simp
   ·rw[MP (by rw[NQ,hacc.1,Lw];omega),MP (by simp;omega)]
  have hw:∀b o,s.heap.get? b=some o->s'.heap.get? b=some o:=fun b o e=>by
   have hb:=Lt e
   refine hm.heap b o (fun z=>?_) (cW _ (cW _ e))
   rcases LG.mp z with z|z
   ·have z:b=(s.heap.push (revObj c ((its.toArray.size:Int)- 1))).objs.size:=z
    rw[hsz]at z
    rw[z]at hb
    exact Nc _ (Nat.lt_trans (On _) hb)
   ·rw[LK.mp z]at hb
    exact Nc _ hb
  have es:s'={s with heap:=s'.heap,toks:=s'.toks}:=by
   have h1:=hm.gens
   have h2:=hm.drawn
   have h3:=hm.os
   cases s'
   cases h1;cases h2;cases h3
   rfl
  have hS2:s'.heap.get? (s.heap.objs.size+1)=some {cls:=.type "list",dict:=none,data:=.seq its.reverse.toArray c',slots:=#[]}:=by
   rw[<-hsz,hS',<-e1]
  have new:bg X.prog X.w (upd H (s.heap.objs.size+1) (.lst ys.reverse)) s'.heap (s.heap.objs.size+1) (.lst ys.reverse):=⟨by rw[Oo];exact hz,its.reverse,c',r'.reverse,hS2⟩
  refine⟨.ref (s.heap.objs.size+1),upd H (s.heap.objs.size+1) (.lst ys.reverse),?_,?_,q _ (I.hok.fresh (NJ _))⟩
  ·rw[es];exact I.laid hw (NJ _) new
  ·show LF _=LF _
   rw[hsz]
end
section
variable {X:Cx}{a:Expr}{t:TA}{p1 p2 pos1 pos2:Pos}
theorem sA:bootBuiltins "list"=some (.type "list"):=by decide+kernel
theorem ve (hm1:X.mg "list"=none)(hm2:X.mg "reversed"=none)(hc:X.calm=true)(ha:QA X [a] t)(hg1:Gl X "list":=by rfl)(hg2:Gl X "reversed":=by rfl)(hs:bo [a]=true:=by rfl):
  QE X (.Call (.Name "list" p1) [.Call (.Name "reversed" p2) [a] [] pos2] [] pos1) (tCB (qz X.K) t):=⟨fun pins s σ H Q I h=>by
 have h':(bR a&&bo [])=true:=hs
 refine MB (ft I hg1 hm1 sA ?_ (by decide) (by decide))
 refine MA ?_ rfl rfl
 show wpAny _ _ (spliced ((false,eval (.Call (.Name "reversed" p2) [a] [] pos2) X.env)::backTo pos1 (starEach [] X.env))) _ _ s
 refine Qx ?_
 refine MB (ft I hg2 hm2 kT ?_ (by decide) (by decide))
 refine MA (thn (ha.out pos2 pins s σ H _ I h) fun us s1 ⟨vs,H1,I1,r1,q1⟩=>?_)
  (aZ (Lv.mp h').1 [] X.env) (bQ (Lv.mp h').2)
 obtain⟨c,ys,rfl,hq,q⟩:=q1
 obtain⟨u,rfl,ru⟩:=iq r1
 cases ru
 refine Ma (yG hc I1 hq q) (fun u s2 z=>?_) fun _ _ z=>z
 exact QV z⟩
end
end L2
namespace HT
open PySem PyProof.Rows
abbrev jc (f0 f1:tx)(TI TO:Addr):Obj:={cls:=.type "zip",dict:=none,data:=.fields #[f0,f1,.bool false,.ref TI,.ref TO],slots:=#[]}
structure fT (h:Heap)(z TI TO i1 i2 l t S:Addr)(k:Nat):Prop where
 z:(k=0/\h.get? z=some (jc .none (.bool false) TI TO))\/∃T f oT,h.get? z=some (jc (rawInt (T:Addr)) (.bool f) TI TO)/\h.get? T=some oT/\T≠z/\T≠TO/\T≠i1/\T≠i2/\T≠S
 ti:Pb h TI (.ref i1) (.ref i2)
 to:∃a b,Pb h TO a b
 j1:h.IsListIter i1 l k
 j2:h.IsTupleIter i2 t k
section
variable {prog:LV}{w:Mx}{A:Mq}{E:tx->If->Prop}{s:If}
theorem sk {z TI TO T:Addr}{f:Bool}{oT:Obj}(hz:s.heap.get? z=some (jc (rawInt T) (.bool f) TI TO))(hTt:s.heap.get? T=some oT):
  wpAny (model prog w) A (Mo (.ref z)) (fun b s1=>b=false/\∃h₁,s1={s with heap:=h₁}/\h₁.get? z=some (jc (rawInt T) (.bool true) TI TO)/\Nd z s.heap h₁) (fun _ _=>False) s:=by
 unfold Mo
 refine ah (Mt hz rfl (x:=rawInt T) rfl ?_)
 show wpAny _ _ (loadIfAlive ((T:Int).toNat) >>= _) _ _ _
 rw[Nu]
 refine ah (W.kdx_alive hTt ?_)
 simp only[Option.isNone_some,ND,if_false]
 refine ah (Mt hz rfl (x:=.bool f) rfl ?_)
 cases f with
 |true=>
  rw[if_neg (show ¬((Nq true !=Nq true)=true)from LQ)]
  exact Lo ⟨rfl,s.heap,rfl,hz,Heap.SameBut.refl _ _⟩
 |false=>
  rw[if_pos (show(Nq false !=Nq true)=true from rfl)]
  exact ah (MV hz (by simp) fun h₃ he₃ hs₃=>Lo ⟨rfl,h₃,rfl,he₃,hs₃⟩)
theorem uD {z TI TO i1 i2 l t S:Addr}{k:Nat}{xs ys:Array tx}{x y a b:tx}{Q:Option tx->If->Prop}(D:QD z TI TO i1 i2 l t)(hz:UR s.heap z TI TO .none)(hTI:Pb s.heap TI (.ref i1) (.ref i2))(hTO:Pb s.heap TO a b)
  (h1:s.heap.IsListIter i1 l k)(h2:s.heap.IsTupleIter i2 t k)(ht1:s.heap.IsList l xs)(ht2:s.heap.IsTuple t ys)(hx:xs[k]? =some x)(hy:ys[k]? =some y)(hS:S<s.heap.objs.size)
  (hQ:∀h',fT h' z TI TO i1 i2 l t S (k+1)->Pb h' s.heap.objs.size x y->
   (∀c o,c≠z->c≠TO->c≠i1->c≠i2->s.heap.get? c=some o->h'.get? c=some o)->Q (some (.ref s.heap.objs.size)) {s with heap:=h'}):
  wpAny (model prog w) A (pyNext (.ref z)) Q E s:=by
 have hT:s.TypeIs (.ref z) "zip":=⟨_,hz,rfl⟩
 unfold pyNext
 refine ah (Pl (MG (name:=MU "__next__") hT OH (ML OH hT Rx ?_ (Rm _))))
 show wpAny _ _ (field (.ref z) 2 >>= _) _ _ _
 refine ah (Mt hz rfl (x:=.bool false) rfl ?_)
 show wpAny _ _ (field (.ref z) 3 >>= _) _ _ _
 refine ah (Mt hz rfl (x:=.ref TI) rfl (ah (Nx hTI rfl ?_)))
 show wpAny _ _ (Mo (.ref z) >>= _) _ _ _
 refine ah ?_
 unfold Mo
 refine ah (Mt hz rfl (x:=.none) rfl (Lo ?_))
 simp only[if_true]
 refine ah (QB (ah (Mt hz rfl (x:=.ref TO) rfl (ah (MV hz (by simp) fun ha hza hsa=>ah ?_)))))
 replace hza:UR ha z TI TO .ellipsis:=hza
 simp only[TK,Uh,OB,Po]
 refine ah (ah (SM ?_))
 show wpAny _ _ (MD (.ref i1) >>= _) _ _ _
 refine ah (SZ (h1.at fun o e=>hsa.extBut _ _ D.i1z e) (ht1.at fun o e=>hsa.extBut _ _ D.l1z e) hx fun hb h1b hsb=>Lo ?_)
 have hTOb:Pb hb TO a b:=hsb.extBut _ _ D.TOi1 (hsa.extBut _ _ D.TOz hTO)
 refine ah (Nx hTOb rfl (ah (TV hTOb fun hc hTOc hsc=>?_)))
 replace hTOc:Pb hc TO x b:=hTOc
 refine ah (Rc (Lo ?_))
 refine ah (ah (SM ?_))
 show wpAny _ _ (MD (.ref i2) >>= _) _ _ _
 refine ah (rE (h2.at fun o e=>hsc.extBut _ _ D.TOi2.symm (hsb.extBut _ _ D.i12.symm (hsa.extBut _ _ D.i2z e)))
  (ht2.at fun o e=>hsc.extBut _ _ D.l2TO (hsb.extBut _ _ D.l2i1 (hsa.extBut _ _ D.l2z e))) hy fun hd h2d hsd=>Lo ?_)
 have hTOd:Pb hd TO x b:=hsd.extBut _ _ D.TOi2 hTOc
 refine ah (Nx hTOd rfl (ah (TV hTOd fun he hTOe hse=>?_)))
 replace hTOe:Pb he TO x y:=hTOe
 refine ah (Rc (Lo (Lo ?_)))
 refine ah (Nx hTOe rfl (ah (wpAny_newTuple ?_)))
 have hsz:he.objs.size=s.heap.objs.size:=by rw[hse.1,hsd.1,hsc.1,hsb.1,hsa.1]
 have hze:UR he z TI TO .ellipsis:=hse.extBut _ _ D.TOz.symm (hsd.extBut _ _ D.i2z.symm (hsc.extBut _ _ D.TOz.symm (hsb.extBut _ _ D.i1z.symm hza)))
 have hke:∀c o,c≠z->c≠TO->c≠i1->c≠i2->s.heap.get? c=some o->he.get? c=some o:=fun c o c1 c2 c3 c4 e=>
  hse.extBut _ _ c2 (hsd.extBut _ _ c4 (hsc.extBut _ _ c2 (hsb.extBut _ _ c3 (hsa.extBut _ _ c1 e))))
 have h1e:he.IsListIter i1 l (k+1):=h1b.at fun o e=>hse.extBut _ _ D.TOi1.symm (hsd.extBut _ _ D.i12 (hsc.extBut _ _ D.TOi1.symm e))
 have h2e:he.IsTupleIter i2 t (k+1):=h2d.at fun o e=>hse.extBut _ _ D.TOi2.symm e
 show wpAny _ _ (Pg (.ref z) (.ref he.objs.size) >>= _) _ _ _
 refine ah ?_
 unfold Pg
 have hzf:UR (he.push {cls:=.type "tuple",data:=.seq #[x,y]}) z TI TO .ellipsis:=cW _ hze
 refine ah (MV hzf (by simp) fun hg hzg hsg=>?_)
 replace hzg:UR hg z TI TO (rawInt he.objs.size):=hzg
 refine MV hzg (by simp) fun hh hzh hsh=>?_
 replace hzh:UR hh z TI TO (rawInt he.objs.size):=hzh
 have up:∀c o,c≠z->he.get? c=some o->hh.get? c=some o:=fun c o c1 e=>hsh.extBut _ _ c1 (hsg.extBut _ _ c1 (cW _ e))
 have hTh:Pb hh he.objs.size x y:=hsh.extBut _ _ (Nr (Lt hze)) (hsg.extBut _ _ (Nr (Lt hze)) (Ly _ rfl))
 have n1:he.objs.size≠z:=Nr (Lt hze)
 have n2:he.objs.size≠TO:=Nr (Lt hTOe)
 have n3:he.objs.size≠i1:=by obtain⟨o,eo,_⟩:=h1e;exact Nr (Lt eo)
 have n4:he.objs.size≠i2:=by obtain⟨o,eo,_⟩:=h2e;exact Nr (Lt eo)
 have n5:he.objs.size≠S:=by rw[hsz];exact Nr hS
 rw[hsz]at hzh hTh n1 n2 n3 n4 n5
 have fin:=hQ hh ⟨.inr ⟨s.heap.objs.size,false,_,hzh,hTh,n1,n2,n3,n4,n5⟩,up _ _ D.TIz (hke _ _ D.TIz D.TITO D.TIi1 D.TIi2 hTI),⟨x,y,up _ _ D.TOz hTOe⟩,h1e.at fun o e=>up _ o D.i1z e,h2e.at fun o e=>up _ o D.i2z e⟩ hTh fun c o c1 c2 c3 c4 e=>up c o c1 (hke c o c1 c2 c3 c4 e)
 rw[<-hsz]at fin
 exact Lo ⟨_,rfl,Lo fin⟩
theorem vY {z TI TO i1 i2 l t S T:Addr}{f:Bool}{oT:Obj}{k:Nat}{xs ys:Array tx}{x y:tx}{Q:Option tx->If->Prop}(D:QD z TI TO i1 i2 l t)(hz:s.heap.get? z=some (jc (rawInt T) (.bool f) TI TO))(hTt:s.heap.get? T=some oT)
  (nT:T≠z/\T≠TO/\T≠i1/\T≠i2/\T≠S)(hTI:Pb s.heap TI (.ref i1) (.ref i2))(hTO:∃a b,Pb s.heap TO a b)
  (h1:s.heap.IsListIter i1 l k)(h2:s.heap.IsTupleIter i2 t k)(ht1:s.heap.IsList l xs)(ht2:s.heap.IsTuple t ys)(hx:xs[k]? =some x)(hy:ys[k]? =some y)
  (hQ:∀h',fT h' z TI TO i1 i2 l t S (k+1)->Pb h' s.heap.objs.size x y->
   (∀c o,c≠z->c≠TO->c≠i1->c≠i2->s.heap.get? c=some o->h'.get? c=some o)->Q (some (.ref s.heap.objs.size)) {s with heap:=h'}):
  wpAny (model prog w) A (pyNext (.ref z)) Q E s:=by
 have hT:s.TypeIs (.ref z) "zip":=⟨_,hz,rfl⟩
 unfold pyNext
 refine ah (Pl (MG (name:=MU "__next__") hT OH (ML OH hT Rx ?_ (Rm _))))
 show wpAny _ _ (field (.ref z) 2 >>= _) _ _ _
 refine ah (Mt hz rfl (x:=.bool false) rfl ?_)
 show wpAny _ _ (field (.ref z) 3 >>= _) _ _ _
 refine ah (Mt hz rfl (x:=.ref TI) rfl (ah (Nx hTI rfl ?_)))
 show wpAny _ _ (Mo (.ref z) >>= _) _ _ _
 refine ah (Ma (sk hz hTt) (fun b s1 hb=>?_) fun _ _ e=>e.elim)
 obtain⟨rfl,ha,rfl,hza,hsa⟩:=hb
 simp only[ND,if_false]
 refine ah ?_
 rw[<-SK]
 simp only[OB,Po]
 refine ah (ah (Ni ?_))
 show wpAny _ _ (MD (.ref i1) >>= _) _ _ _
 refine ah (SZ (h1.at fun o e=>hsa.extBut _ _ D.i1z e) (ht1.at fun o e=>hsa.extBut _ _ D.l1z e) hx fun hb h1b hsb=>Lo (Lo ?_))
 refine ah (ah (Ni ?_))
 show wpAny _ _ (MD (.ref i2) >>= _) _ _ _
 refine ah (rE (h2.at fun o e=>hsb.extBut _ _ D.i12.symm (hsa.extBut _ _ D.i2z e)) (ht2.at fun o e=>hsb.extBut _ _ D.l2i1 (hsa.extBut _ _ D.l2z e)) hy fun hd h2d hsd=>Lo (Lo (Lo ?_)))
 refine ah (wpAny_newTuple (hsz:=by show 2<=sizeLine;decide) ?_)
 have hsz:hd.objs.size=s.heap.objs.size:=by rw[hsd.1,hsb.1,hsa.1]
 have hk:∀c o,c≠z->c≠TO->c≠i1->c≠i2->s.heap.get? c=some o->(hd.push {cls:=.type "tuple",data:=.seq #[x,y]}).get? c=some o:=fun c o c1 c2 c3 c4 e=>
  cW _ (hsd.extBut _ _ c4 (hsb.extBut _ _ c3 (hsa.extBut _ _ c1 e)))
 obtain⟨a,b,hTO⟩:=hTO
 have fin:=hQ (hd.push {cls:=.type "tuple",data:=.seq #[x,y]}) ⟨.inr ⟨T,true,oT,cW _ (hsd.extBut _ _ D.i2z.symm (hsb.extBut _ _ D.i1z.symm hza)),hk T oT nT.1 nT.2.1 nT.2.2.1 nT.2.2.2.1 hTt,nT⟩,
  hk _ _ D.TIz D.TITO D.TIi1 D.TIi2 hTI,⟨a,b,cW _ (hsd.extBut _ _ D.TOi2 (hsb.extBut _ _ D.TOi1 (hsa.extBut _ _ D.TOz hTO)))⟩,
  h1b.at fun o e=>cW _ (hsd.extBut _ _ D.i12 e),h2d.at fun o e=>cW _ e⟩ (by rw[<-hsz];exact Ly _ rfl) hk
 rw[<-hsz]at fin
 exact Lo ⟨_,rfl,Lo fin⟩
theorem yA {z TI TO i1 i2 l t S:Addr}{k:Nat}{xs:Array tx}{Q:Option tx->If->Prop}(hh:A.handled=none)(D:QD z TI TO i1 i2 l t)(Z:fT s.heap z TI TO i1 i2 l t S k)
  (ht1:s.heap.IsList l xs)(hend:xs[k]?=none)
  (hQ:∀h',(∀c o,c≠z->c≠TO->c≠i1->c≠i2->s.heap.get? c=some o->h'.get? c=some o)->Q none {s with heap:=h'}):wpAny (model prog w) A (pyNext (.ref z)) Q E s:=by
 obtain⟨Zz,hTI,⟨a,b,hTO⟩,h1,h2⟩:=Z
 have hT:s.TypeIs (.ref z) "zip":=by rcases Zz with⟨_,e⟩|⟨_,_,_,e,_⟩<;>exact⟨_,e,rfl⟩
 have fin:∀h' e,(∀c o,c≠z->c≠TO->c≠i1->c≠i2->s.heap.get? c=some o->h'.get? c=some o)->(∃o,h'.get? e=some o/\o.cls=.type "StopIteration")->
   wpAny (model prog w) A (do if<-isInstance (.ref e) (.type "StopIteration")then pure none else throw (.ref e)) Q E {s with heap:=h'}:=fun h' e hk ⟨o,ho,hc⟩=>
  ah (Qe (T:="StopIteration") (b:=true) ⟨o,ho,hc⟩ isSubtype_stop (Lo (hQ _ hk)))
 unfold pyNext
 refine ah (Pl (MG (name:=MU "__next__") hT OH (ML OH hT Rx ?_ (Rm _))))
 show wpAny _ _ (field (.ref z) 2>>=_) _ _ _
 rcases Zz with⟨_,hz⟩|⟨T,f,oT,hz,hTt,nT⟩
 ·refine ah (Mt hz rfl (x:=.bool false) rfl ?_)
  show wpAny _ _ (field (.ref z) 3>>=_) _ _ _
  refine ah (Mt hz rfl (x:=.ref TI) rfl (ah (Nx hTI rfl ?_)))
  show wpAny _ _ (Mo (.ref z)>>=_) _ _ _
  refine ah ?_
  unfold Mo
  refine ah (Mt hz rfl (x:=.none) rfl (Lo ?_))
  simp only[if_true]
  refine ah (QB (ah (Mt hz rfl (x:=.ref TO) rfl (ah (MV hz (by simp) fun ha hza hsa=>ah ?_)))))
  replace hza:UR ha z TI TO .ellipsis:=hza
  simp only[TK,Uh,OB,Po]
  refine ah (ah (SM ?_))
  show wpAny _ _ (MD (.ref i1)>>=_) _ _ _
  refine ah (Tn hh (h1.at fun o e=>hsa.extBut _ _ D.i1z e) (ht1.at fun o e=>hsa.extBut _ _ D.l1z e) hend fun hb e hsb he=>?_)
  obtain⟨oe,hoe,hce⟩:=he
  have hzb:UR hb z TI TO .ellipsis:=hsb _ _ D.i1z.symm hza
  have hez:e≠z:=fun x=>by subst x;rw[hzb]at hoe;cases hoe;simp at hce
  exact MV hzb (by simp) fun hc _ hsc=>fin hc e (fun c o c1 _ c3 _ x=>hsc.extBut _ _ c1 (hsb _ _ c3 (hsa.extBut _ _ c1 x))) ⟨oe,hsc.extBut _ _ hez hoe,hce⟩
 ·refine ah (Mt hz rfl (x:=.bool false) rfl ?_)
  show wpAny _ _ (field (.ref z) 3>>=_) _ _ _
  refine ah (Mt hz rfl (x:=.ref TI) rfl (ah (Nx hTI rfl ?_)))
  show wpAny _ _ (Mo (.ref z)>>=_) _ _ _
  refine ah (Ma (sk hz hTt) (fun b s1 hb=>?_) fun _ _ e=>e.elim)
  obtain⟨rfl,ha,rfl,hza,hsa⟩:=hb
  simp only[ND,if_false]
  refine ah ?_
  rw[<-SK]
  simp only[OB,Po]
  refine ah (ah (Ni ?_))
  show wpAny _ _ (MD (.ref i1)>>=_) _ _ _
  refine ah (Tn hh (h1.at fun o e=>hsa.extBut _ _ D.i1z e) (ht1.at fun o e=>hsa.extBut _ _ D.l1z e) hend fun hb e hsb he=>?_)
  exact fin hb e (fun c o c1 _ c3 _ x=>hsb _ _ c3 (hsa.extBut _ _ c1 x)) he
structure jV (xs ys:Array tx)(lo:Addr)(h:Heap)(as:List Addr):Prop where
 rise:as.Pairwise (·<·)
 above:∀a∈as,lo<=a
 pairs:∀(j:Nat)(a:Addr),as[j]?=some a->∃x y,xs[j]?=some x/\ys[j]?=some y/\Pb h a x y
theorem jV.there {xs ys:Array tx}{lo:Addr}{h:Heap}{as:List Addr}(g:jV xs ys lo h as){a:Addr}(ha:a∈as):a<h.objs.size:=by
 obtain⟨j,hj⟩:=OP.mp ha
 obtain⟨_,_,_,_,e⟩:=g.pairs j a hj
 exact Lt e
theorem fT.keepS {h h':Heap}{z TI TO i1 i2 l t S:Addr}{k:Nat}(Z:fT h z TI TO i1 i2 l t S k)(nS:S≠z/\S≠TI/\S≠TO/\S≠i1/\S≠i2)(hk:∀b o,b≠S->h.get? b=some o->h'.get? b=some o):fT h' z TI TO i1 i2 l t S k:=by
 obtain⟨Zz,hTI,⟨a,b,hTO⟩,h1,h2⟩:=Z
 refine⟨?_,hk _ _ nS.2.1.symm hTI,⟨a,b,hk _ _ nS.2.2.1.symm hTO⟩,h1.at fun o e=>hk _ o nS.2.2.2.1.symm e,h2.at fun o e=>hk _ o nS.2.2.2.2.symm e⟩
 rcases Zz with⟨e,hz⟩|⟨T,f,oT,hz,hTt,nT⟩
 ·exact .inl ⟨e,hk _ _ nS.1.symm hz⟩
 ·exact .inr ⟨T,f,oT,hk _ _ nS.1.symm hz,hk _ _ nT.2.2.2.2 hTt,nT⟩
theorem fT.item {z TI TO i1 i2 l t S:Addr}{k:Nat}{xs ys:Array tx}{x y:tx}{Q:Option tx->If->Prop}(Z:fT s.heap z TI TO i1 i2 l t S k)(D:QD z TI TO i1 i2 l t)
  (ht1:s.heap.IsList l xs)(ht2:s.heap.IsTuple t ys)(hx:xs[k]? =some x)(hy:ys[k]? =some y)(hS:S<s.heap.objs.size)
  (hQ:∀h',fT h' z TI TO i1 i2 l t S (k+1)->Pb h' s.heap.objs.size x y->
   (∀c o,c≠z->c≠TO->c≠i1->c≠i2->s.heap.get? c=some o->h'.get? c=some o)->Q (some (.ref s.heap.objs.size)) {s with heap:=h'}):
  wpAny (model prog w) A (pyNext (.ref z)) Q E s:=by
 obtain⟨Zz,hTI,⟨a,b,hTO⟩,h1,h2⟩:=Z
 rcases Zz with⟨_,hz⟩|⟨T,f,oT,hz,hTt,nT⟩
 ·exact uD D hz hTI hTO h1 h2 ht1 ht2 hx hy hS hQ
 ·exact vY D hz hTt nT hTI ⟨a,b,hTO⟩ h1 h2 ht1 ht2 hx hy hQ
end
section
variable {prog:LV}{w:Mx}{A:Mq}{s:If}{R:Qg->If->Prop}{xs ys:Array tx}
theorem wt {z TI TO i1 i2 l t S lo:Addr}(hh:A.handled=none)(D:QD z TI TO i1 i2 l t)(nS:S≠z/\S≠TI/\S≠TO/\S≠i1/\S≠i2)(nl:l≠S)(nt:t≠S)(below:∀b∈[z,TI,TO,i1,i2,S],b<lo)(hn:xs.size<=sizeLine)(hlen:xs.size=ys.size)(res:tx){h₁:Heap}
  (hR:∀h' tk acc c as,(∀b o,b∉[z,TI,TO,i1,i2,S]->h₁.get? b=some o->h'.get? b=some o)->h'.get? S=some {cls:=.type "list",dict:=none,data:=.seq acc c,slots:=#[]}->as.length=xs.size->jV xs ys lo h' as->
   acc.toList=as.map LF->R (.ok (.ret res)) {s with heap:=h',toks:=tk}):
  ∀(k i:Nat)(h:Heap)(tk c:Nat)(acc:Array tx)(as:List Addr),xs.size- i=k->i<=xs.size->fT h z TI TO i1 i2 l t S i->h.IsList l xs->h.IsTuple t ys->(∀b o,b∉[z,TI,TO,i1,i2,S]->h₁.get? b=some o->h.get? b=some o)->
   h.get? S=some {cls:=.type "list",dict:=none,data:=.seq acc c,slots:=#[]}->acc.toList=as.map LF->as.length=i->jV xs ys lo h as->lo<=h.objs.size->
   codeAny (model prog w) A (.builtin "list.extend.loop" ⟨[.ref S,.ref z,res],[]⟩) R {s with heap:=h,toks:=tk}:=by
 have inb:∀b,b∉[z,TI,TO,i1,i2,S]->b≠z/\b≠TO/\b≠i1/\b≠i2/\b≠S:=fun b hb=>by
  simp only[LG,MF,or_false,not_or]at hb
  exact⟨hb.1,hb.2.2.1,hb.2.2.2.1,hb.2.2.2.2.1,hb.2.2.2.2.2⟩
 have above:∀b,lo<=b->b≠z/\b≠TO/\b≠i1/\b≠i2/\b≠S:=fun b hb=>by
  have f:∀c∈[z,TI,TO,i1,i2,S],b≠c:=fun c hc=>Nr (LN (below c hc) hb)
  exact⟨f z (by simp),f TO (by simp),f i1 (by simp),f i2 (by simp),f S (by simp)⟩
 intro k
 induction k with
 |zero=>
  intro i h tk c acc as hk hi hst hl ht hkeep hS hacc hal hG hIs
  have hin:i=xs.size:=by omega
  refine RW Rl ?_
  rw[RX Nf _]
  show wpAny _ A.in1 (pyNext (.ref z) >>= _) _ _ _
  refine ah (yA (s:={s with heap:=h,toks:=tk}) (A:=A.in1) hh D hst hl (PD (by omega)) fun h' he=>?_)
  refine Lo (hR h' tk acc c as (fun b o h1 e=>?_) (he S _ nS.1 nS.2.2.1 nS.2.2.2.1 nS.2.2.2.2 hS) (by omega) ⟨hG.rise,hG.above,fun j a hj=>?_⟩ hacc)
  ·obtain⟨n1,n2,n3,n4,n5⟩:=inb b h1
   exact he b o n1 n2 n3 n4 (hkeep b o h1 e)
  ·obtain⟨x,y,e1,e2,e3⟩:=hG.pairs j a hj
   obtain⟨n1,n2,n3,n4,n5⟩:=above a (hG.above a (Lu hj))
   exact⟨x,y,e1,e2,he a _ n1 n2 n3 n4 e3⟩
 |succ k ih=>
  intro i h tk c acc as hk hi hst hl ht hkeep hS hacc hal hG hIs
  have hlt:i<xs.size:=by omega
  obtain⟨x,hx⟩:∃p,xs[i]? =some p:=⟨xs[i],NF hlt⟩
  obtain⟨y,hy⟩:∃p,ys[i]? =some p:=⟨ys[i],NF (by omega)⟩
  have hsz:acc.size=i:=by rw[<-NQ,hacc,Ll,hal]
  refine RW Rl ?_
  rw[RX Nf _]
  show wpAny _ A.in1 (pyNext (.ref z) >>= _) _ _ _
  refine ah (fT.item (s:={s with heap:=h,toks:=tk}) (S:=S) hst D hl ht hx hy (Lt hS) fun h' hst' hT hkp=>?_)
  dsimp only at hT hkp⊢
  have hS':=hkp S _ nS.1 nS.2.2.1 nS.2.2.2.1 nS.2.2.2.2 hS
  have up:∀b o,b≠S->h'.get? b=some o->(h'.update S (Nb (·.push (LF h.objs.size)))).get? b=some o:=fun b o hb e=>(MC _ _ (Mh hb)).trans e
  obtain⟨m1,m2,m3,m4,m5⟩:=above h.objs.size hIs
  have kl:∀o,h.get? l=some o->(h'.update S (Nb (·.push (LF h.objs.size)))).get? l=some o:=fun o e=>up l o nl (hkp l o D.l1z D.l1TO D.l1i1 D.l1i2 e)
  have kt:∀o,h.get? t=some o->(h'.update S (Nb (·.push (LF h.objs.size)))).get? t=some o:=fun o e=>up t o nt (hkp t o D.l2z D.l2TO D.l2i1 D.l2i2 e)
  show wpAny _ A.in1 (updateSeq S (·.push (LF h.objs.size)) >>= _) _ _ _
  refine ah ?_
  refine Pr hS' rfl (Lo ⟨Rk Nf _,ih (i+1) _ tk _ (acc.push (LF h.objs.size)) (as++[h.objs.size]) (by omega) hlt (hst'.keepS nS up) (hl.at kl) (ht.at kt)
   (fun b o h1 e=>?_) (My _ hS' rfl) (by rw[Array.toList_push,hacc,LL];rfl) (by rw[Lm,hal];rfl) ⟨?_,?_,?_⟩ ?_⟩) (by rw[hsz];omega) (by show(acc.push (LF h.objs.size)).size<=sizeLine+1;rw[Array.size_push,hsz];omega)
  ·obtain⟨n1,n2,n3,n4,n5⟩:=inb b h1
   exact up b o n5 (hkp b o n1 n2 n3 n4 (hkeep b o h1 e))
  ·refine List.pairwise_append.mpr ⟨hG.rise,List.pairwise_singleton _ _,fun a ha b hb=>?_⟩
   rw[LK.mp hb]
   exact hG.there ha
  ·intro a ha
   rcases Mr.mp ha with ha|ha
   ·exact hG.above a ha
   ·rw[LK.mp ha];exact hIs
  ·intro j b hj
   rcases Rh j as.length with h1|h1|h1
   ·rw[Me h1]at hj
    obtain⟨x',y',e1,e2,e3⟩:=hG.pairs j b hj
    obtain⟨n1,n2,n3,n4,n5⟩:=above b (hG.above b (Lu hj))
    exact⟨x',y',e1,e2,up b _ n5 (hkp b _ n1 n2 n3 n4 e3)⟩
   ·subst h1
    have hb:h.objs.size=b:=by simpa using hj
    subst hb
    exact⟨x,y,by rw[hal];exact hx,by rw[hal];exact hy,up _ _ m5 hT⟩
   ·have hnone:(as++[h.objs.size])[j]? =none:=MP (by rw[Lm,Sj];omega)
    rw[hnone]at hj;cases hj
  ·have e:(h'.update S (Nb (·.push (LF h.objs.size)))).get? h.objs.size=_:=up _ _ m5 hT
   exact Ng (MM hIs (Lt e))
end
theorem wg:typeLookup (.type "zip") "__len__"=pure none:=by rw[NV,MR];kernel_rfl
theorem uH:typeLookup (.type "zip") "__length_hint__"=pure none:=by rw[NV,MR];kernel_rfl
section
variable {prog:LV}{w:Mx}{A:Mq}{s:If}{R:Qg->If->Prop}{xs ys:Array tx}{z TI TO i1 i2 l t S:Addr}
theorem rQ (hh:A.handled=none)(D:QD z TI TO i1 i2 l t)(nS:S≠z/\S≠TI/\S≠TO/\S≠i1/\S≠i2)(nl:l≠S)(nt:t≠S)(hn:xs.size<=sizeLine)(hlen:xs.size=ys.size)(res:tx)(c₀:Nat)
  (Z:fT s.heap z TI TO i1 i2 l t S 0)(hz0:s.heap.get? z=some (jc .none (.bool false) TI TO))(hl:s.heap.IsList l xs)(ht:s.heap.IsTuple t ys)(hS:s.heap.get? S=some {cls:=.type "list",data:=.seq #[] c₀})
  (hR:∀h' tk acc c as,(∀b o,b∉[z,TI,TO,i1,i2,S]->s.heap.get? b=some o->h'.get? b=some o)->h'.get? S=some {cls:=.type "list",dict:=none,data:=.seq acc c,slots:=#[]}->as.length=xs.size->jV xs ys s.heap.objs.size h' as->
   acc.toList=as.map LF->R (.ok (.ret res)) {s with heap:=h',toks:=tk}):
  wpAny (model prog w) A.in1 (Mz (.ref S) (.ref z) res)
   (fun fin s'=>match fin with|.done f=>R (.ok f) s'|.again c'=>c'.quiet=true/\codeAny (model prog w) A c' R s') (fun e s'=>R (.error e) s') s:=by
 have hT:s.TypeIs (.ref z) "zip":=⟨_,hz0,rfl⟩
 have below:∀b∈[z,TI,TO,i1,i2,S],b<s.heap.objs.size:=fun b hb=>by
  obtain⟨_,hTI,⟨x,y,hTO⟩,⟨o1,e1,_⟩,⟨o2,e2,_⟩⟩:=Z
  simp only[LG,MF,or_false]at hb
  rcases hb with rfl|rfl|rfl|rfl|rfl|rfl
  ·exact Lt hz0
  ·exact Lt hTI
  ·exact Lt hTO
  ·exact Lt e1
  ·exact Lt e2
  ·exact Lt hS
 have key:∀(h:Heap)(c₁ tk:Nat),h.objs.size=s.heap.objs.size->(∀b o,b≠S->s.heap.get? b=some o->h.get? b=some o)->
   h.get? S=some {cls:=.type "list",data:=.seq #[] c₁}->codeAny (model prog w) A (.builtin "list.extend.loop" ⟨[.ref S,.ref z,res],[]⟩) R {s with heap:=h,toks:=tk}:=by
  intro h c₁ tk hz hk hS₁
  refine wt (s:=s) (h₁:=s.heap) hh D nS nl nt below hn hlen res (fun h' tk' acc c as hk' hS' hl hG hacc=>hR h' tk' acc c as hk' hS' hl hG hacc)
   xs.size 0 h tk c₁ #[] [] (Qc _) (Mj _) (Z.keepS nS hk) (hl.at fun o e=>hk l o nl e) (ht.at fun o e=>hk t o nt e) (fun b o hb e=>hk b o (fun q=>hb (by rw[q];simp)) e) hS₁ rfl rfl
   ⟨Rz,(fun _ ha=>nomatch ha),(fun j a hj=>by simp at hj)⟩ (OR hz.symm)
 unfold Mz
 refine ah (Qs (T:="zip") hT ?_)
 have h1:Of (.ref S) (.ref z)=false:=by simp[Of,nS.1]
 have h2:(OX "zip"==OX "list")=false:=by decide
 have h3:(OX "zip"==OX "tuple")=false:=by decide
 simp only[h1,h2,h3,UD,ND,if_false]
 refine ah (wpAny_pyIter_zip hz0 ?_)
 refine ah (Ni ?_)
 unfold Qq
 refine ah (NU hT wg ?_)
 show wpAny _ A.in1 (specialOf (LF z) (MU "__length_hint__")>>=_) _ _ _
 refine ah (NU hT uH ?_)
 refine Lo ?_
 refine wpAny_ite_split (fun _=>?_) (fun _=>Lo ⟨Rk Nf _,key _ c₀ _ rfl (fun b o _ e=>e) hS⟩)
 refine ah (QB ?_)
 refine ah ?_
 show wpAny _ _ (updateSeq S (·.push .none)>>=fun _=>updateSeq S (·.pop)) _ _ _
 refine ah (Pr hS rfl ?_)
 have hS₂:=My (Nb (·.push NL)) hS rfl
 refine Pr (hz:=by seq_fits) hS₂ rfl ?_
 have hS₃:=My (Nb (·.pop)) hS₂ rfl
 refine Lo ⟨Rk Nf _,key _ _ _ ?_ (fun b o hb e=>?_) hS₃⟩
 ·rw[Rj,Rj]
 ·exact(MC _ _ (Mh hb)).trans ((MC _ _ (Mh hb)).trans e)
theorem vB (hh:A.handled=none)(D:QD z TI TO i1 i2 l t)(nS:S≠z/\S≠TI/\S≠TO/\S≠i1/\S≠i2)(nl:l≠S)(nt:t≠S)(hn:xs.size<=sizeLine)(hlen:xs.size=ys.size)
  (Z:fT s.heap z TI TO i1 i2 l t S 0)(hz0:s.heap.get? z=some (jc .none (.bool false) TI TO))(hl:s.heap.IsList l xs)(ht:s.heap.IsTuple t ys)(hS:s.heap.get? S=some {cls:=.type "list",data:=.seq #[]})
  (hR:∀h' tk acc c as,(∀b o,b∉[z,TI,TO,i1,i2,S]->s.heap.get? b=some o->h'.get? b=some o)->h'.get? S=some {cls:=.type "list",dict:=none,data:=.seq acc c,slots:=#[]}->as.length=xs.size->jV xs ys s.heap.objs.size h' as->
   acc.toList=as.map LF->R (.ok (.ret .none)) {s with heap:=h',toks:=tk}):
  wpAny (model prog w) A.in1 (ON.«list.__init__» ⟨[.ref S,.ref z],[]⟩)
   (fun fin s'=>match fin with|.done f=>R (.ok f) s'|.again c'=>c'.quiet=true/\codeAny (model prog w) A c' R s') (fun e s'=>R (.error e) s') s:=by
 show wpAny _ _ (do let old<-Om (.ref S);Ra (.ref S) (fun _=>#[]);letGo old.toList.reverse;Mz (.ref S) (.ref z) .none) _ _ s
 refine ah ?_
 unfold Om
 refine ah (Nx hS rfl (Lo ?_))
 show wpAny _ _ (updateSeq S (fun _=>#[]) >>= fun _=>letGo (#[]:Array tx).toList.reverse >>= fun _=>Mz (.ref S) (.ref z) .none) _ _ s
 refine ah (Pr hS rfl ?_)
 have hS₂:=My (Nb (fun _=>(#[]:Array tx))) hS rfl
 have oth:∀b o,b≠S->s.heap.get? b=some o->(s.heap.update S (Nb (fun _=>(#[]:Array tx)))).get? b=some o:=
  fun b o hb e=>(MC _ _ (Mh hb)).trans e
 refine ah (Rc ?_)
 refine rQ (s:={s with heap:=s.heap.update S (Nb (fun _=>(#[]:Array tx)))}) hh D nS nl nt hn hlen .none _ (Z.keepS nS oth) (oth _ _ nS.1.symm hz0) (hl.at fun o e=>oth l o nl e) (ht.at fun o e=>oth t o nt e) hS₂ (fun h' tk acc c as hk hS' hl hG hacc=>?_)
 refine hR h' tk acc c as (fun b o hb e=>hk b o hb (oth b o (fun q=>hb (by rw[q];simp)) e)) hS' hl ?_ hacc
 have:(s.heap.update S (Nb (fun _=>(#[]:Array tx)))).objs.size=s.heap.objs.size:=Rj ..
 rw[<-this];exact hG
end
section
variable {prog:LV}{w:Mx}{A:Mq}{E:tx->If->Prop}{s:If}{xs ys:Array tx}{z TI TO i1 i2 l t:Addr}
theorem wD {Q:tx->If->Prop}(hh:A.handled=none)(D:QD z TI TO i1 i2 l t)(hn:xs.size<=sizeLine)(hlen:xs.size=ys.size)
  (hz0:s.heap.get? z=some (jc .none (.bool false) TI TO))(hTI:Pb s.heap TI (.ref i1) (.ref i2))(hTO:∃a b,Pb s.heap TO a b)(j1:s.heap.IsListIter i1 l 0)(j2:s.heap.IsTupleIter i2 t 0)(hl:s.heap.IsList l xs)(ht:s.heap.IsTuple t ys)
  (hQ:∀h' tk acc c as,(∀b o,b∉[z,TI,TO,i1,i2]->s.heap.get? b=some o->h'.get? b=some o)->h'.get? s.heap.objs.size=some {cls:=.type "list",dict:=none,data:=.seq acc c,slots:=#[]}->as.length=xs.size->jV xs ys (s.heap.objs.size+1) h' as->
   acc.toList=as.map LF->Q (.ref s.heap.objs.size) {s with heap:=h',toks:=tk}):
  wpAny (model prog w) A (call (.type "list") [.ref z]) Q E s:=by
 refine callType_codes (Q₁:=fun obj s₁=>obj=.ref s.heap.objs.size/\s₁={s with heap:=s.heap.push {cls:=.type "list",data:=.seq #[]}}) TC (Sv _) Sy
  (code_list_new _ ⟨rfl,rfl⟩) fun obj s₁ h₁=>?_
 obtain⟨rfl,rfl⟩:=h₁
 have hS:(s.heap.push {cls:=.type "list",data:=.seq #[]}).get? s.heap.objs.size=some {cls:=.type "list",data:=.seq #[]}:=Ly _ rfl
 have up:∀b o,s.heap.get? b=some o->(s.heap.push {cls:=.type "list",data:=.seq #[]}).get? b=some o:=fun b o e=>cW _ e
 obtain⟨a,b,hTO⟩:=hTO
 have nn:∀b o,s.heap.get? b=some o->s.heap.objs.size≠b:=fun b o e=>Nr (Lt e)
 have nS:s.heap.objs.size≠z/\s.heap.objs.size≠TI/\s.heap.objs.size≠TO/\s.heap.objs.size≠i1/\s.heap.objs.size≠i2:=by
  obtain⟨o1,e1,_⟩:=j1
  obtain⟨o2,e2,_⟩:=j2
  exact⟨nn _ _ hz0,nn _ _ hTI,nn _ _ hTO,nn _ _ e1,nn _ _ e2⟩
 have nl:l≠s.heap.objs.size:=by obtain⟨o,e,_⟩:=hl;exact(nn _ _ e).symm
 have nt:t≠s.heap.objs.size:=by obtain⟨o,e,_⟩:=ht;exact(nn _ _ e).symm
 refine⟨⟨_,hS,rfl⟩,Sf _ _,vB (s:={s with heap:=s.heap.push {cls:=.type "list",data:=.seq #[]}}) (A:=A.in1) hh D nS nl nt hn hlen
  ⟨.inl ⟨rfl,up _ _ hz0⟩,up _ _ hTI,⟨a,b,up _ _ hTO⟩,j1.at fun o e=>up _ o e,j2.at fun o e=>up _ o e⟩ (up _ _ hz0) (hl.at fun o e=>up _ o e) (ht.at fun o e=>up _ o e) hS (fun h' tk acc c as hk hS' hl hG hacc=>?_)⟩
 refine⟨rfl,hQ h' tk acc c as (fun b o hb e=>hk b o (fun q=>?_) (up b o e)) hS' hl ?_ hacc⟩
 ·simp only[LG,MF,or_false]at q hb
  rcases q with q|q|q|q|q|q
  ·exact hb (.inl q)
  ·exact hb (.inr (.inl q))
  ·exact hb (.inr (.inr (.inl q)))
  ·exact hb (.inr (.inr (.inr (.inl q))))
  ·exact hb (.inr (.inr (.inr (.inr q))))
  ·exact nn b o e q.symm
 ·have:(s.heap.push {cls:=.type "list",data:=.seq #[]}).objs.size=s.heap.objs.size+1:=NG ..
  rw[<-this];exact hG
abbrev BW (l:Addr):Obj:={cls:=.type "list_iterator",data:=.fields #[.ref l,.int 0 0]}
abbrev zm1 (h:Heap)(t1:Addr):Heap:=h.push (BW t1)
abbrev zm2 (h:Heap)(t1 t2:Addr):Heap:=(zm1 h t1).push (itO t2)
abbrev zm3 (h:Heap)(t1 t2:Addr):Heap:=(zm2 h t1 t2).push {cls:=.type "tuple",data:=.seq #[.ref h.objs.size,.ref (zm1 h t1).objs.size]}
abbrev zm4 (h:Heap)(t1 t2:Addr):Heap:=(zm3 h t1 t2).push {cls:=.type "tuple",data:=.seq #[.none,.none]}
abbrev zm5 (h:Heap)(t1 t2:Addr):Heap:=(zm4 h t1 t2).push {cls:=.type "zip",data:=.fields #[.none,.bool false,.bool false,.ref (zm2 h t1 t2).objs.size,.ref (zm3 h t1 t2).objs.size]}
theorem xV (t1 t2:Addr)(xs ys:Array tx):
  Meets (ON.«zip.__new__» ⟨[.type "zip",.ref t1,.ref t2],[]⟩) (fun _ R s=>s.heap.IsList t1 xs/\s.heap.IsTuple t2 ys/\R (.ok (.ret (.ref (zm4 s.heap t1 t2).objs.size))) {s with heap:=zm5 s.heap t1 t2}):=
 .of_wp fun prog w A R s h=>by
  obtain⟨hp,g,d,tk,os⟩:=s;obtain⟨hl1,hl2,h⟩:=h
  have hsub:=sub_zip
  have hL1:Heap.IsList (Uv ⟨hp,g,d,tk,os⟩) t1 xs:=hl1
  have hL2:Heap.IsTuple (Uv ⟨hp.push (BW t1),g,d,tk,os⟩) t2 ys:=hl2.at fun o e=>cW _ e
  wp_walk using Rr hL1,Ut hL2
  exact⟨_,rfl,h⟩
theorem vC {t1 t2:Addr}{Q:tx->If->Prop}(hl1:s.heap.IsList t1 xs)(hl2:s.heap.IsTuple t2 ys)
  (h:∀h',h'.get? (s.heap.objs.size+4)=some (jc .none (.bool false) (s.heap.objs.size+2) (s.heap.objs.size+3))->Pb h' (s.heap.objs.size+2) (.ref s.heap.objs.size) (.ref (s.heap.objs.size+1))->(∃a b,Pb h' (s.heap.objs.size+3) a b)->
   h'.IsListIter s.heap.objs.size t1 0->h'.IsTupleIter (s.heap.objs.size+1) t2 0->h'.objs.size=s.heap.objs.size+5->(∀c o,s.heap.get? c=some o->h'.get? c=some o)->Q (.ref (s.heap.objs.size+4)) {s with heap:=h'}):
  wpAny (model prog w) A (call (.type "zip") [.ref t1,.ref t2]) Q E s:=by
 refine callType_new F.called_zip (by decide) (F.typeCall_zip_2 _ _) (F.newCall_zip_2 _ _) (fun obj=>F.args_object_init_3 obj _ _) F.entry_zip_new (xV t1 t2 xs ys) ⟨hl1,hl2,?_⟩
 have z1:(zm1 s.heap t1).objs.size=s.heap.objs.size+1:=NG ..
 have z2:(zm2 s.heap t1 t2).objs.size=s.heap.objs.size+2:=by rw[NG,z1]
 have z3:(zm3 s.heap t1 t2).objs.size=s.heap.objs.size+3:=by rw[NG,z2]
 have z4:(zm4 s.heap t1 t2).objs.size=s.heap.objs.size+4:=by rw[NG,z3]
 have z5:(zm5 s.heap t1 t2).objs.size=s.heap.objs.size+5:=by rw[NG,z4]
 have g5:(zm5 s.heap t1 t2).get? (zm4 s.heap t1 t2).objs.size=some _:=Ly _ rfl
 have g4:(zm5 s.heap t1 t2).get? (zm3 s.heap t1 t2).objs.size=some _:=cW _ (Ly _ rfl)
 have g3:(zm5 s.heap t1 t2).get? (zm2 s.heap t1 t2).objs.size=some _:=cW _ (cW _ (Ly _ rfl))
 have g2:(zm5 s.heap t1 t2).get? (zm1 s.heap t1).objs.size=some _:=cW _ (cW _ (cW _ (Ly _ rfl)))
 have g1:(zm5 s.heap t1 t2).get? s.heap.objs.size=some _:=cW _ (cW _ (cW _ (cW _ (Ly _ rfl))))
 show _/\_
 rw[z2,z3,z4]at g5
 rw[z1,z2]at g3
 rw[z3]at g4
 rw[z1]at g2
 rw[z4]
 exact⟨⟨_,g5,rfl⟩,h _ g5 g3 ⟨_,_,g4⟩ ⟨_,g1,rfl,rfl⟩ ⟨_,g2,rfl,rfl⟩ z5 fun c o x=>cW _ (cW _ (cW _ (cW _ (cW _ x))))⟩
end
end HT
namespace L2
open PySem PySem.Spec PyProof.Rows
section
variable {X:Cx}{pins:List (Addr×Obj)}{σ:St}{H:Hp}{s:If}{h':Heap}
theorem rR {tk:Nat}{us vs:List V}{xs ys:List tx}{lo:Addr}{as:List Addr}(I:Inv X pins σ H s)(k:∀b o,s.heap.get? b=some o->h'.get? b=some o)(hlo:s.heap.objs.size<=lo)(r1:aY us xs)(r2:aY vs ys)(G:HT.jV xs.toArray ys.toArray lo h' as):
  ∀n,n<=as.length->∃H',aw H H'/\(∀j a x y,j<n->as[j]? =some a->us[j]? =some x->vs[j]? =some y->H' a=some (.tup [x,y]))/\(∀b,H b=none->b∉as.take n->H' b=none)/\Inv X pins σ H' {s with heap:=h',toks:=tk}:=by
 intro n
 induction n with
 |zero=>intro _;exact⟨H,aw.rfl',fun j a x y h=>absurd h (by omega),fun b e _=>e,I.kept (t':=tk) k⟩
 |succ n ih=>
  intro hn
  obtain⟨H1,S1,t1,f1,I1⟩:=ih (by omega)
  have hlt:n<as.length:=hn
  have ea:as[n]? =some as[n]:=Gt hlt
  obtain⟨x,y,e1,e2,e3⟩:=G.pairs n _ ea
  have hxl:n<xs.length:=by have:=(Nz.mp e1).1;simpa using this
  have hyl:n<ys.length:=by have:=(Nz.mp e2).1;simpa using this
  obtain⟨u,hu⟩:∃u,us[n]? =some u:=⟨_,Gt (by rw[r1.length];exact hxl)⟩
  obtain⟨v,hv⟩:∃v,vs[n]? =some v:=⟨_,Gt (by rw[r2.length];exact hyl)⟩
  obtain⟨x',gx,rx⟩:=r1.get hu
  obtain⟨y',gy,ry⟩:=r2.get hv
  have ex:x'=x:=by have:xs[n]? =some x:=by simpa using e1
                   exact LR (gx.symm.trans this)
  have ey:y'=y:=by have:ys[n]? =some y:=by simpa using e2
                   exact LR (gy.symm.trans this)
  subst ex ey
  have ge:s.heap.objs.size<=as[n]:=Mi hlo (G.above _ (Lu ea))
  have nin:as[n]∉as.take n:=fun hm=>by
   obtain⟨j,hj⟩:=OP.mp hm
   have hjn:j<n:=by have:=(Lq.mp hj).1;rw[Ls]at this;omega
   rw[QP,if_pos hjn]at hj
   have:=List.pairwise_iff_getElem.mp G.rise j n (by omega) hlt hjn
   rw[(Lq.mp hj).2]at this
   exact Nc _ this
  have hfree:H1 as[n]=none:=f1 _ (I.hok.fresh ge) nin
  have I2:Inv X pins σ (upd H1 as[n] (.tup [u,v])) {s with heap:=h',toks:=tk}:=Inv.track2 I I1 ge hfree ⟨by show 2<=sizeLine;decide,[x',y'],.cons rx (.cons ry .nil),⟨_,e3,rfl,_,rfl⟩⟩
  refine⟨_,S1.trans (aw.upd hfree),fun j a x y hj ha hx hy=>?_,fun b e hb=>?_,I2⟩
  ·rcases Nat.lt_or_eq_of_le (Nat.le_of_lt_succ hj)with h|h
   ·exact aw.upd hfree _ _ (t1 j a x y h ha hx hy)
   ·subst h
    rw[ea]at ha;cases ha
    rw[hu]at hx;cases hx
    rw[hv]at hy;cases hy
    exact ak
  ·have nb:b≠as[n]:=fun q=>hb (by rw[q];exact OP.mpr ⟨n,by rw[QP,if_pos (On _)];exact ea⟩)
   rw[ao nb]
   exact f1 b e fun q=>hb (by rw[List.take_succ];exact OV _ q)
def qP (K:pv):List V->Hp->VK->Prop:=fun xs H Q=>∃c d us vs,xs=[.ref c,.ref d]/\SqL K H c us/\SqT K H d vs/\us.length=vs.length/\
 ∀(l:Addr)(ps:List Addr)(H':Hp),H l=none->aw H H'->ps.length=us.length->(∀(j:Nat)(p:Addr)(x y:V),ps[j]?=some p->us[j]?=some x->vs[j]?=some y->H' p=some (.tup [x,y]))->H' l=some (.lst (ps.map V.ref))->Q (.ref l) H'
theorem yx {Q:VK}{c d:Addr}{us vs:List V}(hc:X.calm=true)(I:Inv X pins σ H s)(hx:SqL X.K H c us)(hy:SqT X.K H d vs)(hl:us.length=vs.length)
  (q:∀(l:Addr)(ps:List Addr)(H':Hp),H l=none->aw H H'->ps.length=us.length->(∀(j:Nat)(p:Addr)(x y:V),ps[j]?=some p->us[j]?=some x->vs[j]?=some y->H' p=some (.tup [x,y]))->H' l=some (.lst (ps.map V.ref))->Q (.ref l) H'):
  wpAny (model X.prog X.w) X.A (call (.type "zip") [.ref c,.ref d]) (fun u s2=>wpAny (model X.prog X.w) X.A (call (.type "list") [u]) (EP X pins σ Q) X.xe s2) X.xe s:=by
 obtain⟨its,r1,p1,hz1⟩:=I.list hx
 obtain⟨its2,r2,p2,_⟩:=I.tuple hy
 have l1:=r1.length
 have l2:=r2.length
 have hL:s.heap.IsList c its.toArray:=p1.isList
 have hT:s.heap.IsTuple d its2.toArray:=p2
 have lt1:c<s.heap.objs.size:=by obtain⟨o,e,_⟩:=hL;exact Lt e
 have lt2:d<s.heap.objs.size:=by obtain⟨o,e,_⟩:=hT;exact Lt e
 refine HT.vC hL hT fun h1 y1 y2 y3 y4 y5 hsz hk=>?_
 refine HT.wD (s:={s with heap:=h1}) (I.ok.hd hc) (zipApart_new lt1 lt2) (by rw[Lw];omega) (by rw[Lw,Lw];omega) y1 y2 y3 y4 y5 (hL.at fun o e=>hk _ o e) (hT.at fun o e=>hk _ o e) fun h2 tk acc cc as hk2 hS hla hG hacc=>?_
 have hsz1:({s with heap:=h1}:If).heap.objs.size=s.heap.objs.size+5:=hsz
 rw[hsz1]at hS hG⊢
 have kk:∀b o,s.heap.get? b=some o->h2.get? b=some o:=fun b o e=>hk2 b o (fun z=>by
  have hb:=Lt e
  simp only[LG,MF,or_false]at z
  rcases z with rfl|rfl|rfl|rfl|rfl<;>exact absurd hb (Nat.not_lt.mpr (by first|exact gV _|exact OU _ _))) (hk b o e)
 obtain⟨H',S',tr,fr,I'⟩:=rR (tk:=tk) I kk (Mi (OU _ 5) (NJ _)) r1 r2 hG as.length (gV _)
 have hSfree:H' (s.heap.objs.size+5)=none:=fr _ (I.hok.fresh (OU _ _)) fun hm=>by
  have:=hG.above _ (Mv hm)
  exact absurd this (Nat.not_le.mpr (On _))
 have rr:aY (as.map V.ref) (as.map LF):=by
  clear q tr fr hla hG hacc
  induction as with
  |nil=>exact .nil
  |cons a r ih=>exact .cons rfl ih
 have hla':as.length=us.length:=by rw[hla,Lw];omega
 have I2:Inv X pins σ (upd H' (s.heap.objs.size+5) (.lst (as.map V.ref))) {s with heap:=h2,toks:=tk}:=Inv.track2 I I' (OU _ _) hSfree ⟨by rw[Ll,hla'];exact hz1,as.map LF,cc,rr,by rw[hS,<-hacc]⟩
 exact⟨.ref (s.heap.objs.size+5),_,I2,rfl,q _ as _ (I.hok.fresh (OU _ _)) (S'.trans (aw.upd hSfree)) hla' (fun j p x y hj hx hy=>aw.upd hSfree _ _ (tr j p x y (Lq.mp hj).1 hj hx hy)) ak⟩
end
section
variable {X:Cx}{a b:Expr}{t:TA}{p1 p2 pos1 pos2:Pos}
theorem wn (hm1:X.mg "list"=none)(hm2:X.mg "zip"=none)(hc:X.calm=true)(ha:QA X [a,b] t)(hg1:Gl X "list":=by rfl)(hg2:Gl X "zip":=by rfl)(hs:bo [a,b]=true:=by rfl):
  QE X (.Call (.Name "list" p1) [.Call (.Name "zip" p2) [a,b] [] pos2] [] pos1) (tCB (qP X.K) t):=⟨fun pins s σ H Q I h=>by
 have h':(bR a&&bo [b])=true:=hs
 refine MB (ft I hg1 hm1 sA ?_ (by decide) (by decide))
 refine MA ?_ rfl rfl
 show wpAny _ _ (spliced ((false,eval (.Call (.Name "zip" p2) [a,b] [] pos2) X.env)::backTo pos1 (starEach [] X.env))) _ _ s
 refine Qx ?_
 refine MB (ft I hg2 hm2 DA ?_ (by decide) (by decide))
 refine MA (thn (ha.out pos2 pins s σ H _ I h) fun us s1 ⟨vs,H1,I1,r1,q1⟩=>?_)
  (aZ (Lv.mp h').1 [b] X.env) (bQ (Lv.mp h').2)
 obtain⟨c,d,xs,ys,rfl,hx,hy,hl,q⟩:=q1
 obtain⟨u,w',rfl,ru,rw'⟩:=mM r1
 cases ru
 cases rw'
 refine Ma (yx hc I1 hx hy hl q) (fun u s2 z=>?_) fun _ _ z=>z
 exact QV z⟩
end
def yh (K:pv)(a:Addr)(n:Nat):It where
 go:=fun i H=>i<n/\∃xs,SqL K H a xs/\xs.length=n
 yld:=fun i H x H'=>H'=H/\∀xs,SqL K H a xs->xs[n- 1- i]?=some x
 stop:=fun i _=>n<=i
theorem vW {P:LV}{w:Mx}{K:pv}{tg:Expr}(a it:Addr)(n:Nat):jn P w K tg (yh K a n) [it] it (fun i h=>i<=n/\h.IsRevIter it a ((n:Int)- 1- i))where
 mem:=by simp
 obj:=fun i h st b hb=>by
  have e:b=it:=by simpa using hb
  subst e
  obtain⟨_,o,e,c,d⟩:=st
  exact⟨o,e,fun v z=>by rw[d]at z;cases z⟩
 keep:=fun i h h' st k=>⟨st.1,st.2.at fun o e=>k it (by simp) o e⟩
 item:=by
  intro X hP hw hK hc i pins s σ H E I hf st hg
  subst hP hw hK
  obtain⟨hi,xs,hq,hl⟩:=hg
  obtain⟨its,rv,p,hz⟩:=I.list hq
  obtain⟨x,hx⟩:∃x,xs[n- 1- i]?=some x:=⟨_,Gt (by omega)⟩
  obtain⟨u,hu,ru⟩:=rv.get hx
  obtain⟨f0,f1,f2,f3,f4,f5⟩:=hf it (by simp)
  have st2:=st.2
  rw[show(n:Int)- 1- i=((n- 1- i:Nat):Int)by omega]at st2
  refine wpAny_pyNext_rev_item st2 p.isList (x:=u) (by simpa using hu) fun h' st' sb=>?_
  have I1:Inv X pins σ H {s with heap:=h'}:=I.turned (t':=s.toks) (fun b o hb e=>(sb.2 b hb).trans e) f0 f1 f3 f4 f5
  obtain⟨o,e1,c,d⟩:=id st'
  refine⟨u,rfl,kD (s:={s with heap:=h'}) e1 c d (by decide) ⟨x,H,I1,ru,⟨rfl,fun ys hy=>by rw[I.list_inj hy hq];exact hx⟩,⟨hi,?_⟩,fun b hb=>(hf b hb).1⟩⟩
  rw[show(n:Int)- 1- ((i+1:Nat):Int)=((n- 1- i:Nat):Int)- 1 by omega];exact st'
 done:=by
  intro X hP hw hK hc i pins s σ H E I hf st hg
  subst hP hw hK
  obtain⟨f0,f1,f2,f3,f4,f5⟩:=hf it (by simp)
  have hg:n<=i:=hg
  have hi:=st.1
  have st2:=st.2
  rw[show(n:Int)- 1- i= -1 by omega]at st2
  exact wpAny_pyNext_rev_end (I.ok.hd hc) st2 fun h' eb=>⟨rfl,I.turned (t':=s.toks) (fun b o hb e=>eb b o hb e) f0 f1 f3 f4 f5⟩
 self:=fun _ _ _ _ _ st h=>TX st.2 h
theorem da.revL {K:pv}{a:Addr}{xs:List V}(d:V):da (yh K a xs.length) xs.length (fun i=>xs.reverse.getD i d) (fun H=>SqL K H a xs)where
 go:=fun i H hi h=>⟨hi,xs,h,rfl⟩
 yld:=fun i H x H' hi h y=>⟨y.1,by rw[LJ,NC hi,y.2 xs h];rfl⟩
 stop:=fun H h=>gV _
section
variable {X:Cx}{a:Expr}{t:TA}{p pos:Pos}{tg:Expr}
def zU (K:pv)(t:TA):TI:=fun σ H R=>t σ H fun vs H1=>∃c xs,vs=[.ref c]/\((SqL K H1 c xs/\R (yh K c xs.length) H1)\/(SqT K H1 c xs/\R (Ft K c xs) H1))
theorem Ct (hm:X.mg "reversed"=none)(ha:QA X [a] t)(hg:Gl X "reversed":=by rfl)(hs:bo [a]=true:=by rfl):QI X tg (.Call (.Name "reversed" p) [a] [] pos) (zU X.K t):=⟨fun pins s σ H R I h=>by
 have h':(bR a&&bo [])=true:=hs
 refine MB (ft I hg hm kT ?_ (by decide) (by decide))
 refine MA (thn (ha.out pos pins s σ H _ I h) fun us s1 ⟨vs,H1,I1,r1,q1⟩=>?_)
  (aZ (Lv.mp h').1 [] X.env) (bQ (Lv.mp h').2)
 obtain⟨c,xs,rfl,q1⟩:=q1
 obtain⟨u,rfl,ru⟩:=iq r1
 cases ru
 rcases q1 with⟨hq,q⟩|⟨hq,q⟩
 ·obtain⟨its,rv,p,hz⟩:=I1.list hq
  have hl:=rv.length
  refine Uu p.isList ?_
  have st:(s1.heap.push (revObj c ((its.toArray.size:Int)- 1))).IsRevIter s1.heap.objs.size c ((xs.length:Int)- 1- ((0:Nat):Int)):=by
   refine⟨_,Ly _ rfl,rfl,?_⟩
   have e:(xs.length:Int)- 1- ((0:Nat):Int)=(its.toArray.size:Int)- 1:=by rw[Lw];omega
   rw[e];rfl
  refine TX (s:={s1 with heap:=s1.heap.push (revObj c ((its.toArray.size:Int)- 1))}) st ?_
  refine⟨s1.heap.objs.size,[s1.heap.objs.size],_,_,H1,rfl,I1.kept (t':=s1.toks) fun b o e=>cW _ e,vW c _ xs.length,⟨Mj _,st⟩,fun b hb=>?_,q⟩
  have e:b=s1.heap.objs.size:=by simpa using hb
  subst e
  exact I1.fpOk (gV _) (I1.hok.fresh (gV _))
 ·obtain⟨its,rv,p,hz⟩:=I1.tuple hq
  have hl:=rv.length
  refine HT.jF (show RZ s1.heap c its.toArray from p) (by rw[Lw];rw[NA]at hz;omega) ?_
  have st:HT.ip (s1.heap.push (HT.rG c ((its.toArray.size:Int)- 1))) s1.heap.objs.size c ((xs.length:Int)- 1- ((0:Nat):Int)):=by
   show(s1.heap.push _).get? _=_
   have e:(xs.length:Int)- 1- ((0:Nat):Int)=(its.toArray.size:Int)- 1:=by rw[Lw];omega
   rw[e]
   exact Ly _ rfl
  refine HT.rf (s:={s1 with heap:=s1.heap.push (HT.rG c ((its.toArray.size:Int)- 1)),toks:=s1.toks+1+1}) st ?_
  refine⟨s1.heap.objs.size,[s1.heap.objs.size],_,_,H1,rfl,I1.kept (t':=s1.toks+1+1) fun b o e=>cW _ e,yZ c _ xs,⟨Mj _,st⟩,fun b hb=>?_,q⟩
  have e:b=s1.heap.objs.size:=by simpa using hb
  subst e
  exact I1.fpOk (gV _) (I1.hok.fresh (gV _))⟩
end
end L2
namespace HT
open PySem PySem.W PyProof.Rows
abbrev lA (C t:Addr)(d:Option Addr):Obj:={cls:=.ref C,dict:=d,data:=.fields #[.ref t,.none,.none,.none,.bool false,.none]}
abbrev iB (h:Heap)(C:Addr)(us:List tx):Heap:=(h.push {cls:=.type "tuple",data:=.seq us.toArray}).push (lA C h.objs.size none)
section
variable {prog:LV}{w:Mx}{A:Mq}{K:Frag}{C f:Addr}{R:Qg->If->Prop}{h:Heap}{g:Array QK}{d:Drawn}{t:Nat}{os:OsState}
theorem zc {us:List tx}(X:K.In h)(hC:L2.cb K C)(hi:findIn K (.ref C) "__init__"=some (some (.ref f)))(hf:typeIn K (.ref f)=some (.type "function"))(hus:us.length<=sizeLine)
  (hq:codeAny (model prog w) (A.under (.builtin "type.__call__" ⟨.ref C::us,[]⟩)) (.call (.ref f) ⟨.ref (h.objs.size+1)::us,[]⟩) (InitBack (h.objs.size+1) R) ⟨iB h C us,g,d,t,os⟩):
  codeAny (model prog w) A (.call (.ref C) ⟨us,[]⟩) R ⟨h,g,d,t,os⟩:=by
 obtain⟨bm,N,nm,qn,bs,hdct,sn,sub,ab,col,dd,k0,k1,k2,k3,k5,mN,oC,hN,_,T,_⟩:=L2.fy X hC
 have f1:=tc_lookup
 have f2:=tc_bind (.ref C)
 have hT:(⟨h,g,d,t,os⟩:If).TypeIs (.ref C) "type":=⟨_,oC,rfl⟩
 have FB:=Pd
 have hBn:(L2.veM).contains (.type "ValueError")=true:=by decide+kernel
 refine codeAny_of_tree ?_
 show wpAny _ _ (callAny (.ref C) _) _ _ _
 repeat (any_goals (first|assumption|with_reducible refine MH oC ?_ |wp_step))
 refine⟨rfl,?_⟩
 refine codeAny_call_builtin_at (QL _ (by decide+kernel)) entry_typeCall (wpAny_check_type_call_sub oC ?_)
 repeat (first|with_reducible refine MH oC ?_ |with_reducible refine wpAny_madeBy_exc oC ?_ |wp_step)
 refine codeAny_call_builtin_code (QL _ FB.quiet) (wpAny_check_new_subU FB hBn T oC ?_)
 refine codeAny_exc_new_subU FB hBn FB T oC ?_ hus
 show wpAny _ _ _ _ _ _
 have k:∀b o,h.get? b=some o->(iB h C us).get? b=some o:=fun b o e=>cW _ (cW _ e)
 have hx:(iB h C us).get? (h.objs.size+1)=some (lA C h.objs.size none):=by heap_get
 have oC1:=k _ _ oC
 have hcC:(LF C::bm).contains (.ref C)=true:=by simp
 have t1:Looks (model prog w) (iB h C us) (typeOf (.ref (h.objs.size+1))) (.ref C):=(Looks.ld hx).andThen .now
 have i1:=(looks_findIn (M:=model prog w) X hi).keeps k
 have b1:=(bind_fn (M:=model prog w) X (.ref (h.objs.size+1)) hf).keeps k
 unfold isInstance
 repeat (first|with_reducible refine MH hx ?_ |(with_reducible refine NZ oC1 ?_;rw[hcC])|wp_step)
 show wpAny _ _ (isSubtype (.ref C) (.ref C)) _ _ ⟨iB h C us,g,d,t,os⟩
 refine NZ oC1 ?_
 rw[hcC,if_neg (by decide)]
 unfold callSpecial? specialOf
 repeat (first|with_reducible refine QC ?_ |lk)
 refine NY hq fun r s' z=>?_
 rcases r with e|(v|_|_|_)<;>first|exact z|exact z.elim|skip
 obtain⟨rfl,z⟩:=z
 exact Lo (Lo z)
end
end HT
namespace HT
open PySem PySem.W PyProof.Rows
open Builtin Builtin.ObjectAttr
theorem rP (self:tx){h:Heap}{bm:List tx}(T:OwnTail h L2.veM bm):refuseLoop self "__setattr__" bm=pure ():=by
 induction T with
 |base=>exact PySem.F.store_ValueError.passes self
 |own _ _ _ _ ih=>rw[refuseLoop_ref];exact ih
structure gi (K:Frag)(C:Addr)(name:Str):Prop where
 ok:L2.cb K C
 sa:findIn K (.ref C) "__setattr__"=some (some (.builtin "object.__setattr__"))
 eg:L2.cK K C
 no:findIn K (.ref C) name=some none
 hd:hasDictIn K C=true
section
variable {prog:LV}{w:Mx}{A:Mq}{E:tx->If->Prop}{s:If}{K:Frag}{x C:Addr}{name:Str}{v:tx}
theorem sU {ox:Obj}{od:Option Obj}{tk:Tok}{R:Qg->If->Prop}(X:K.In s.heap)(I:InstAt s.heap x ox C od)(G:gi K C name)
  (h:wpAny (model prog w) A.in1 (storeInOwnDict (.ref x) (.ref C) (.str name tk) name v false)
   (fun fin s'=>match fin with|.done f=>R (.ok f) s'|.again c'=>c'.quiet=true/\codeAny (model prog w) A c' R s') (fun e s'=>R (.error e) s') s):
  codeAny (model prog w) A (.call (.builtin "object.__setattr__") ⟨[.ref x,.str name tk,v],[]⟩) R s:=by
 have SF:=PySem.F.store_object
 obtain⟨bm,N,nm,qn,bs,hdct,sn,sub,ab,col,dd,k0,k1,k2,k3,k5,mN,oC,hN,_,T,_⟩:=L2.fy X G.ok
 have hm:Looks (model prog w) s.heap (mroOf (.ref C)) (.ref C::bm):=((Looks.ld (part:=none) oC).andThen .now).andThen .now
 have hsub:Looks (model prog w) s.heap (isSubtype (.ref C) (.type "object")) true:=fun A' Q' E' s' k q=>by
  obtain⟨hh,g,d,t,os⟩:=s'
  refine NZ (k _ _ oC) ?_
  rw[QQ,T.hasType (X:="object") (b:=true) (by decide+kernel),Sk];exact q
 have hsub':Looks (model prog w) s.heap (isInstance (.ref x) (.type "object")) true:=I.type.andThen hsub
 refine QR SF.slot.plain SF.entry (@check_slot (model prog w) _ _ s "object.__setattr__" "object" "__setattr__" (.ref x) [.str name tk,v] [] _ SF.kind SF.split hsub' (SF.args (.ref x) (.str name tk) v) ?_)
 rw[osa_eq,refuse_eq]
 refine ah (ah (I.type.here (ah (hm.here ?_))))
 rw[refuseLoop_ref,rP _ T]
 exact Lo (ah (I.type.here (ah ((looks_findIn X G.no).here (ah (Lo h))))))
theorem Bw {ox:Obj}{dx:Addr}{mA:Str->Option tx}{ns:List Str}{Q:Unit->If->Prop}(X:K.In s.heap)(hx:s.heap.get? x=some ox)(hc:ox.cls=.ref C)(hdx:ox.dict=some dx)(hf:∃vs,ox.data=.fields vs)(hn:s.heap.Ns1 dx mA)(ne:dx≠x)(G:gi K C name)
  (hw:Within mA ns)(hsz:ns.length<=sizeLine)(h:∀h' t',h'.Ns1 dx (fun y=>if y=name then some v else mA y)->Nd dx s.heap h'->Q () {s with heap:=h',toks:=t'}):wpAny (model prog w) A (setAttr (.ref x) name v) Q E s:=by
 obtain⟨vs,hvs⟩:=hf
 obtain⟨oc,od,odt,osl⟩:=ox
 dsimp only at hc hdx hvs
 subst hc hdx hvs
 obtain⟨oD0,esD0,epD0,hoD0,_⟩:=id hn
 have J:InstAt s.heap x _ C (some oD0):=⟨hx,rfl,rfl,hoD0⟩
 refine set_plain X J G.sa (sU (s:={s with toks:=s.toks+1}) X J G ?_)
 obtain⟨cd,hcc,hd'⟩:=any_some G.hd
 refine ah (Lo (ah (ah (QY hx (ah (Looks.here (s:={s with toks:=s.toks+1}) (looks_clsIn X hcc) ?_))))))
 rw[hd']
 refine Lo (a:=some dx) (ah (Lo (ah ?_)))
 refine Tj (s:={s with toks:=s.toks+1}) hn fun h' hn2 hs2=>?_
 obtain⟨oD,esD,epD,hoD,hdD,hcD⟩:=hn2.count (Rn name v hw)
 refine ah (RF hoD (by rw[hdD];exact RG (Mi hcD (by rw[LU];omega))) ?_)
 exact Lo (h _ _ hn2 hs2)
theorem xl {ox:Obj}{Q:Unit->If->Prop}(X:K.In s.heap)(hx:s.heap.get? x=some ox)(hc:ox.cls=.ref C)(hdx:ox.dict=none)(hf:∃vs,ox.data=.fields vs)(G:gi K C name)
  (h:∀h' t',h'.get? x=some {ox with dict:=some s.heap.objs.size}->h'.Ns1 s.heap.objs.size (fun y=>if y=name then some v else none)->(∀b o,b≠x->s.heap.get? b=some o->h'.get? b=some o)->Q () {s with heap:=h',toks:=t'}):
  wpAny (model prog w) A (setAttr (.ref x) name v) Q E s:=by
 obtain⟨vs,hvs⟩:=hf
 obtain⟨oc,od,odt,osl⟩:=ox
 dsimp only at hc hdx hvs
 subst hc hdx hvs
 have J:InstAt s.heap x _ C none:=⟨hx,rfl,rfl,trivial⟩
 refine set_plain X J G.sa (sU (s:={s with toks:=s.toks+1}) X J G ?_)
 obtain⟨cd,hcc,hd'⟩:=any_some G.hd
 refine ah (Lo (ah (ah (QY hx (ah (Looks.here (s:={s with toks:=s.toks+1}) (looks_clsIn X hcc) ?_))))))
 rw[hd']
 show wpAny _ _ (alloc {cls:=.type "dict",data:=.dict #[]}>>=fun d=>update x (fun o=>{o with dict:=some d})>>=fun _=>pure (some d)) _ _ _
 have xs:x≠s.heap.objs.size:=LH (Lt hx)
 have hx1:(s.heap.push {cls:=.type "dict",data:=.dict #[]}).get? x=some _:=cW _ hx
 refine ah (wpAny_alloc' (ah (wpAny_update' hx1 (Lo ?_))))
 generalize hh2:((s.heap.push {cls:=.type "dict",data:=.dict #[]}).update x fun o=>{o with dict:=some s.heap.objs.size})=h2
 have hx2:h2.get? x=some ⟨.ref C,some s.heap.objs.size,.fields vs,osl⟩:=by rw[<-hh2];exact My _ hx1 rfl
 have hd2:h2.get? s.heap.objs.size=some {cls:=.type "dict",data:=.dict #[]}:=by rw[<-hh2];exact(SG _ _ _ _ xs.symm).trans (Heap.get?_push_at rfl rfl)
 have k2:∀b o,b≠x->s.heap.get? b=some o->h2.get? b=some o:=fun b o nb e=>by rw[<-hh2];exact(SG _ _ _ _ nb).trans (cW _ e)
 have n2:h2.Ns s.heap.objs.size (fun _=>none):=⟨_,#[],_,hd2,rfl,fun e he=>absurd he (by simp),fun _=>rfl⟩
 show wpAny _ _ (storeInDict s.heap.objs.size (.str name s.toks) name v) _ _ {s with heap:=h2,toks:=s.toks+1}
 unfold storeInDict newKeyGuard
 refine ah (Lo (ah (Tj (s:={s with heap:=h2,toks:=s.toks+1}) (Se n2) fun h' hn' hs=>?_)))
 obtain⟨oD,esD,epD,hoD,hdD,hcD⟩:=hn'.count (Rn name v Within.nil)
 refine ah (RF hoD (by rw[hdD];exact RG (Mi hcD (by rw[LU,Uj,NA];omega))) ?_)
 exact Lo (h _ _ ((hs.2 x xs).trans hx2) hn' fun b o nb e=>(hs.2 b (LH (Lt e))).trans (k2 b o nb e))
end
end HT
namespace L2
open PySem PySem.Spec PyProof.Rows
def eO (C a:Addr)(d:Option Addr):HO:=.ext fun h=>∃t,h.get? a=some (HT.lA C t d)
theorem sh {P:LV}{w:Mx}{H:Hp}{h:Heap}{C a t:Addr}{d:Option Addr}(e:h.get? a=some (HT.lA C t d)):bg P w H h a (eO C a d):=⟨⟨t,e⟩,⟨_,e⟩,fun h1 h2 ⟨t1,e1⟩ k=>⟨t1,k _ e1⟩⟩
theorem nQ {P:LV}{w:Mx}{H:Hp}{h:Heap}{C a:Addr}{d:Option Addr}(x:bg P w H h a (eO C a d)):∃t,h.get? a=some (HT.lA C t d):=x.1
def gR (fs:List (Str×V))(dx:Addr):HO:=.ext fun h=>∃mA,h.Ns1 dx mA/\∀f,cU (fs.lookup f) (mA f)
theorem sw {P:LV}{w:Mx}{H:Hp}{h:Heap}{dx:Addr}{fs:List (Str×V)}{mA:Str->Option tx}(n:h.Ns1 dx mA)(r:∀f,cU (fs.lookup f) (mA f)):bg P w H h dx (gR fs dx):=by
 refine⟨⟨mA,n,r⟩,?_,fun h1 h2 ⟨m1,n1,r1⟩ k=>⟨m1,?_,r1⟩⟩
 ·obtain⟨o,es,ep,e,_⟩:=n
  exact⟨o,e⟩
 ·obtain⟨o,es,ep,e,c⟩:=n1
  exact⟨o,es,ep,k _ e,c⟩
theorem Bq {P:LV}{w:Mx}{H:Hp}{h:Heap}{dx:Addr}{fs:List (Str×V)}(x:bg P w H h dx (gR fs dx)):∃mA,h.Ns1 dx mA/\∀f,cU (fs.lookup f) (mA f):=x.1
theorem rS {fs:List (Str×V)}{mA:Str->Option tx}(r:∀f,cU (fs.lookup f) (mA f)):QZ mA (fs.map (·.1)):=fun y h=>by
 have ry:=r y
 cases e:fs.lookup y with
 |none=>
  rw[e]at ry
  cases q:mA y with
  |none=>exact absurd q h
  |some u=>rw[q]at ry;exact ry.elim
 |some v=>
  have:∀(l:List (Str×V)),l.lookup y=some v->y∈l.map (·.1):=by
   intro l
   induction l with
   |nil=>intro z;cases z
   |cons p l ih=>
    intro z
    obtain⟨k,x⟩:=p
    rw[NB]at z
    by_cases hk:(y==k)=true
    ·rw[Md];exact LG.mpr (.inl (beq_iff_eq.mp hk))
    ·rw[Bool.not_eq_true]at hk
     rw[hk]at z
     exact Mc _ (ih z)
  exact this fs e
def lV (K:pv)(C:Addr)(ta tv:TE)(f:Str):TS:=fun D σ H=>tv σ H fun y H1=>ta σ H1 fun x H2=>∃a,x=.ref a/\HT.gi K C f/\
 ((H2 a=some (eO C a none)/\∀dx,H2 dx=none->dx≠a->D.nx σ (upd (upd H2 a (eO C a (some dx))) dx (gR [(f,y)] dx)))\/
  (∃dx fs,H2 a=some (eO C a (some dx))/\H2 dx=some (gR fs dx)/\dx≠a/\fs.length<1000/\D.nx σ (upd H2 dx (gR (dM f y fs) dx))))
section
variable {X:Cx}{o value:Expr}{ta tv:TE}{f:Str}{pos pos':Pos}{C:Addr}
theorem my (ho:QE X o ta)(hv:QE X value tv)(hs:swapsWith value (some (.Attribute o f pos')) pos.line X.env=pure false:=by rfl):QS X (.Assign [.Attribute o f pos'] value pos) (lV X.K C ta tv f):=by
 refine⟨fun pins s σ H D I h=>?_⟩
 refine Rt (thn (hv.out pins s σ H _ I h) fun u s1 ⟨y,H1,I1,ry,q⟩=>thn (ho.out pins s1 σ H1 _ I1 q) fun ov s2 ⟨x,H2,I2,rx,a,ex,G,q2⟩=>?_) hs
 subst ex
 obtain rfl:ov=LF a:=rx
 rcases q2 with⟨ea,q2⟩|⟨dx,fs,ea,ed,ne,hl,q2⟩
 ·obtain⟨t,et⟩:=nQ (P:=X.prog) (w:=X.w) (I2.hok a _ ea)
  refine HT.xl I2.kIn et rfl rfl ⟨_,rfl⟩ G fun h' t' e1 e2 k=>?_
  have I3:Inv X pins σ (upd H2 a (eO C a (some s2.heap.objs.size))) {s2 with heap:=h',toks:=t'}:=I2.write (x:=a) (e:=a) (by rw[ea];exact Nh) (.inl rfl) (fun b u nb e=>k b u nb e) ⟨_,e1⟩ (sh e1)
  have na:s2.heap.objs.size≠a:=Nr (Lt et)
  have hn:upd H2 a (eO C a (some s2.heap.objs.size)) s2.heap.objs.size=none:=by rw[ao na];exact I2.hok.fresh (gV _)
  exact⟨σ,_,Inv.track2 I2 I3 (gV _) hn (sw e2 fun g=>by
   show cU (Na g [(f,y)]) (if g=f then some u else none)
   by_cases hg:g=f
   ·rw[if_pos hg,hg]
    simp only[Na,beq_self_eq_true];exact ry
   ·have hb:(g==f)=false:=beq_eq_false_iff_ne.mpr hg
    rw[if_neg hg]
    simp only[Na,hb];exact Nh),q2 _ (I2.hok.fresh (gV _)) na⟩
 ·obtain⟨t,et⟩:=nQ (P:=X.prog) (w:=X.w) (I2.hok a _ ea)
  obtain⟨mA,n1,r1⟩:=Bq (P:=X.prog) (w:=X.w) (I2.hok dx _ ed)
  refine HT.Bw (ns:=fs.map (·.1)) I2.kIn et rfl rfl ⟨_,rfl⟩ n1 ne G (rS r1) (by rw[Ll,NA];omega) fun h' t' e2 sb=>?_
  have hd:∃u,h'.get? dx=some u:=let ⟨o,_,_,e',_⟩:=e2;⟨o,e'⟩
  exact⟨σ,_,I2.write (x:=dx) (e:=dx) (by rw[ed];exact Nh) (.inl rfl) (fun b u nb e=>(sb.2 b nb).trans e) hd (sw e2 fun g=>by
   rw[iC]
   by_cases hg:g=f
   ·rw[if_pos hg,if_pos hg];exact ry
   ·rw[if_neg hg,if_neg hg];exact r1 g),q2⟩
end
def jr (a:Addr)(H:Hp):Hp:=fun b=>if b=a then none else H b
theorem jJ {a:Addr}{H:Hp}:jr a H a=none:=by unfold jr;rw[if_pos rfl]
theorem fg {a b:Addr}{H:Hp}(h:b≠a):jr a H b=H b:=by unfold jr;rw[if_neg h]
theorem HOk.off {P:LV}{w:Mx}{H:Hp}{h:Heap}{a:Addr}{φ:Heap->Prop}(k:HOk P w H h)(ha:H a=some (.ext φ)):HOk P w (jr a H) h:=fun b o e=>by
 by_cases hb:b=a
 ·subst hb;rw[jJ]at e;cases e
 ·rw[fg hb]at e
  exact(k b o e).stay (fun c u _ q=>q) (fun c q=>by rw[fg (fun z=>by rw[z,ha]at q;cases q)];exact q) fun c xs q=>by rw[fg (fun z=>by rw[z,ha]at q;cases q)];exact q
theorem Un.off {fs:List Addr}{H H':Hp}{h h':Heap}{a:Addr}(u:Un fs [] H H' h h')(ha:H a=none):Un fs [] H (jr a H') h h' where
 keep:=u.keep
 slot:=u.slot
 free:=fun b o e n hx=>by
  by_cases hb:b=a
  ·rw[hb];exact jJ
  ·rw[fg hb];exact u.free b o e n hx
 there:=u.there
 tups:=fun b xs e=>by rw[fg (ax e ha)];exact u.tups b xs e
 frzs:=fun b o v e=>by rw[fg (ax e ha)];exact u.frzs b o v e
 tbls:=fun b ps e=>by rw[fg (ax e ha)];exact u.tbls b ps e
end L2
namespace HT
open PySem PyProof.Rows
section
variable {M:TB}{A:Mq}{E:tx->If->Prop}{env:Env}{K:pv}{C:Addr}
theorem vH {s:If}{x:Sem tx}{Q:Flow->If->Prop}(hC:L2.cb K C)(hh:A.handled=none)
  (h:wpAny M A x (fun v s₁=>∃e t d,v=.ref e/\K.In s₁.heap/\s₁.heap.get? e=some (lA C t d)/\E (.ref e) s₁) E s):wpAny M A (raiseStmt env (some x) none) Q E s:=by
 unfold raiseStmt
 refine ah (Ma h (fun v s₁ h₁=>?_) fun _ _ x=>x)
 obtain⟨e,t,d,rfl,X,he,hE⟩:=h₁
 obtain⟨bm,N,nm,qn,bs,hdct,sn,sub,ab,col,dd,k0,k1,k2,k3,k5,mN,oC,hN,_,T,_⟩:=L2.fy X hC
 have hcB:(LF C::bm).contains (.type "BaseException")=true:=by rw[QQ,T.hasType (X:="BaseException") (b:=true) (by decide+kernel),Sk]
 obtain⟨hp,g,dr,tk,os⟩:=s₁
 repeat (first|with_reducible refine MH he ?_ |with_reducible refine MH oC ?_ |(with_reducible refine NZ oC ?_;rw[hcB])|wp_step)
 exact wpAny_raiseNew_none hh hE
theorem wx {prog:LV}{w:Mx}{A:Mq}{K:pv}{C f:Addr}{R:Qg->If->Prop}{s:If}{us:List tx}(X:K.In s.heap)(hC:L2.cb K C)(hi:LP K (.ref C) "__init__"=some (some (.ref f)))(hf:W.typeIn K (.ref f)=some (.type "function"))(hus:us.length<=sizeLine)
  (hq:codeAny (model prog w) (A.under (.builtin "type.__call__" ⟨.ref C::us,[]⟩)) (.call (.ref f) ⟨.ref (s.heap.objs.size+1)::us,[]⟩) (W.InitBack (s.heap.objs.size+1) R) {s with heap:=iB s.heap C us}):
  codeAny (model prog w) A (.call (.ref C) ⟨us,[]⟩) R s:=by
 obtain⟨h,g,d,t,os⟩:=s
 exact zc X hC hi hf hus hq
end
end HT
namespace L2
open PySem PySem.Spec PyProof.Rows
def nK (C:Addr)(sp:Sp)(E:St->XK)(t:TA):TS:=fun _ σ H=>t σ H fun vs H1=>∀a,H1 a=none->sp (.ref a::vs) (upd H1 a (eO C a none)) (fun v H2=>v=.non/\∃d,H2 a=some (eO C a d)/\E σ (.ref C) d (jr a H2)) E0
structure sW (K:pv)(C f:Addr):Prop where
 ok:cb K C
 init:LP K (.ref C) "__init__"=some (some (.ref f))
 fn:Oc K (.ref f)=true
 kp:Ov K (.ref C)=true
section
variable {X:Cx}{k:Nat}{f C:Addr}{fd:LI}{ps:List Str}{sp:Sp}{E:St->XK}{x:Str}{np cpos pos:Pos}{e:Expr}{es:List Expr}{t:TA}
theorem ql (Y:sW X.K C f)(F:aQ X.prog X.w X.K X.mg X.base (CX1 X.prog X.w) k f fd ps sp)(hr:bj (k+1) X.A)(hb:bv X.K fd ps [])(hm:X.mg x=some (.ref C))(hR:qI X E)(ha:QA X (e::es) t)
  (hc:X.calm=true:=by rfl)(hg:Gl X x:=by rfl)(hdb:(x==("__debug__":Str))=false:=by decide)(hs:bo (e::es)=true:=by rfl)(hps:ps.length<=1000:=by decide):QS X (.Raise (some (.Call (.Name x np) (e::es) [] cpos)) none pos) (nK C sp E t):=by
 refine⟨fun pins s σ H D I h=>?_⟩
 have h':(bR e&&bo es)=true:=hs
 rw[arm_exec_Raise]
 refine ah (OK (HT.vH Y.ok (I.ok.hd hc) ?_))
 refine ah (Ma ?_ (fun v s₃ h₃=>ah (OK (Lo h₃))) fun _ _ x=>x)
 refine MB (fY I hg hm ?_ hdb)
 refine Ro (h₀:=X.base) I.ok.mod.kin Y.kp (thn (ha.out cpos pins s σ H _ I h) fun us s1 ⟨vs,H1,I1,r,q⟩=>⟨I1.kIn,?_⟩) (aZ (Lv.mp h').1 es X.env) (bQ (Lv.mp h').2)
 have ka:∀b u,s1.heap.get? b=some u->(HT.iB s1.heap C us).get? b=some u:=fun b u eb=>cW _ (cW _ eb)
 have ex:(HT.iB s1.heap C us).get? (s1.heap.objs.size+1)=some (HT.lA C s1.heap.objs.size none):=by heap_get
 have hfr:H1 (s1.heap.objs.size+1)=none:=I1.hok.fresh (NJ _)
 have I2:Inv X pins σ (upd H1 (s1.heap.objs.size+1) (eO C (s1.heap.objs.size+1) none)) {s1 with heap:=HT.iB s1.heap C us,toks:=s1.toks}:=I1.laid ka (NJ _) (sh ex)
 have hq:=q (s1.heap.objs.size+1) hfr
 have r2:aY (V.ref (s1.heap.objs.size+1)::vs) (LF (s1.heap.objs.size+1)::us):=.cons rfl r
 have hl:(LF (s1.heap.objs.size+1)::us).length=ps.length:=by rw[<-r2.length];exact F.len _ _ _ _ hq
 have hb':=hb {s1 with heap:=HT.iB s1.heap C us} (LF (s1.heap.objs.size+1)::us) I2.kIn (by rw[MJ];exact hl)
 rw[MJ]at hb'
 have husz:us.length<=sizeLine:=by
  rw[LU]at hl
  rw[NA];omega
 refine QC (HT.wx I1.kIn Y.ok Y.init (beq_iff_eq.mp Y.fn) husz (NY (F.run _ X.stack _ _ ⟨LF (s1.heap.objs.size+1)::us,[]⟩ (LF (s1.heap.objs.size+1)::us) _ _ _ (hr.make C us []) (I2.env0.make C us []) hb' r2 hq) fun rr s' hq'=>?_))
 cases rr with
 |error e'=>
  obtain⟨_,_,_,_,_,_,z⟩:=hq'
  exact z.elim
 |ok fl=>
  cases fl with
  |next=>exact Mu hq'
  |brk=>exact Mu hq'
  |cont=>exact Mu hq'
  |ret u=>
   obtain⟨v,H',os,bare,un,hok,rv,rfl,d,hd,hE⟩:=hq'
   obtain⟨t,et⟩:=nQ (P:=X.prog) (w:=X.w) (hok _ _ hd)
   have u1:Un (frs X.stack) [] H1 H' s1.heap s'.heap:=(Un.laid (o:=eO C (s1.heap.objs.size+1) none) ka (NJ _) hfr).trans un
   have kin:X.K.In s'.heap:=by
    have I3:Inv X pins σ H' s':=I1.call' (ch:=[]) os u1 hok bare fun b z=>absurd z (by simp)
    exact I3.kIn
   refine⟨rv,s1.heap.objs.size+1,t,d,rfl,kin,et,hR pins σ H1 s1 C (s1.heap.objs.size+1) d (jr (s1.heap.objs.size+1) H') s' I1 ⟨os,bare,u1.off hfr,hok.off hd,Ss (NJ _),jJ,⟨_,_,.ref t,et,rfl,rfl,rfl,⟨rfl,rfl⟩,rfl⟩⟩ hE⟩
end
end L2
namespace L2
open PySem PySem.Spec PyProof.Rows PySem.W
section
variable {key:Nat->Int}{n:Nat}
def at' (p:Array Nat)(i:Nat):Nat:=p.getD i 0
variable (inj:∀i j,i<n->j<n->key i=key j->i=j)
include inj
omit inj in
omit inj in
omit inj in
end
end L2
namespace Rs
abbrev st (B k d:Nat):Nat:=k/2^(B- d)
section
variable {α:Type}
def alN (B x y:Nat):Nat->Nat
 |0=>0
 |c+1=>if x/2^(B- (c+1))=y/2^(B- (c+1))then c+1 else alN B x y c
def al (B x y:Nat):Nat:=alN B x y B
end
end Rs
namespace L2
open PySem PySem.Spec PyProof.Rows
structure gF (scope:Scope)(x z:Str)(ys:List Str):Prop where
 kind:scope.kind=.function
 nocell:∀y∈scope.names,y.2≠.cell
 names:∀y∈scope.names,y.2=.local->scope.names.lookup y.1=some .local
 own:scope.names.lookup x=some .local
 own2:scope.names.lookup z=some .local
 all:∀y∈scope.names,y.2=.free->y.1∈ys
 nd:(x::z::ys).Nodup
def ww (K:pv)(is:List Nat)(tc:TT)(te:TE)(σ:St)(D:Addr)(J:It)(H1:Hp)(Q:VK):Prop:=∃W:Nat->Nat->List V->Hp->Prop,(∃m,W 0 m [] (upd H1 D (.lst [])))/\
 ∀i m ys H2,W i m ys H2->(J.stop i H2/\Q (.ref D) H2)\/(J.go i H2/\∀x H3,J.yld i H2 x H3->∃a v0 v1,x=.ref a/\SqT K H3 a [v0,v1]/\tc (some v0::some v1::aV σ is) H3 fun b H4=>if b=true then
  te (some v0::some v1::aV σ is) H4 fun y H5=>H5 D=some (.lst ys)/\ys.length<sizeLine/\∃m',m'<m/\W (i+1) m' (ys++[y]) (upd H5 D (.lst (ys++[y])))
  else ∃m',m'<m/\W (i+1) m' ys H4)
def qR (K:pv)(is:List Nat)(wi:TI)(tc:TT)(te:TE):TE:=fun σ H Q=>wi σ H fun J H1=>∀D,H1 D=none->ww K is tc te σ D J H1 Q
section
variable {X:Cx}
theorem tF {elt iter:Expr}{ifs:List Expr}{x z:Str}{px pz ep pos:Pos}{ek:Nat}{scope:Scope}{ys:List Str}{is:List Nat}{tc:TT}{te:TE}{pins:List (Addr×Obj)}{σ:St}{H2:Hp}{s2:If}{it:Addr}{fp:List Addr}{tn:Nat->Heap->Prop}{J:It}{E:tx->If->Prop}{Q:VK}{RR:tx->Addr->Qg->If->Prop}
  (hc:X.calm=true)(S:gF scope x z ys)(hcap:fk X scope ys is)
  (hif:∀C s H fp,ng (aO X scope C (x::z::ys) s H fp) ifs tc)(he:∀C s H fp,PE (aO X scope C (x::z::ys) s H fp) elt te)
  (I2:Inv X pins σ H2 s2)(T:jn X.prog X.w X.K (.Tuple [.Name x px,.Name z pz] ek ep) J fp it tn)(st2:tn 0 s2.heap)(f2:∀b∈fp,iF X pins H2 b)
  (hW:∀D,H2 D=none->∃W:Nat->Nat->List V->Hp->Prop,(∃m,W 0 m [] (upd H2 D (.lst [])))/\
   ∀i m ys H2,W i m ys H2->(J.stop i H2/\Q (.ref D) H2)\/(J.go i H2/\∀x H3,J.yld i H2 x H3->∃a v0 v1,x=.ref a/\SqT X.K H3 a [v0,v1]/\tc (some v0::some v1::aV σ is) H3 fun b H4=>if b=true then
    te (some v0::some v1::aV σ is) H4 fun y H5=>H5 D=some (.lst ys)/\ys.length<sizeLine/\∃m',m'<m/\W (i+1) m' (ys++[y]) (upd H5 D (.lst (ys++[y])))
    else ∃m',m'<m/\W (i+1) m' ys H4))
  (hRR:∀D C H' s',(X.s₀.heap.objs.size<=C/\∀p∈X.pn++pins,p.1≠C)->(∃m,s'.heap.Ns C m)->C≠X.env.locals->H' C=none->Inv X pins σ H' s'->(∀h',Nd C s'.heap h'->Inv X pins σ H' {s' with heap:=h'})->Q (.ref D) H'->RR (.ref D) C (.ok .next) s'):
  wpAny (model X.prog X.w) X.A (newList []) (fun acc s₃=>wpAny (model X.prog X.w) X.A (newFunctionEnv scope X.env.globals (cI scope.names X.env.cells []) [] X.env.qual none .none (some X.env)) (fun cenv s₄=>
   codeAny (model X.prog X.w) X.A (.compStart (.ListComp elt [⟨.Tuple [.Name x px,.Name z pz] ek ep,iter,ifs,0⟩] scope pos) 0 (.ref it) acc {cenv with scope:=relabel scope X.env}) (RR acc cenv.locals) s₄) E s₃) E s2:=by
 have hf2:H2 s2.heap.objs.size=none:=I2.fresh
 refine MQ (Ph S.nocell (by intro y hy;simp at hy) (fun h₁ hns₁ hsb₁=>?_) S.kind)
 dsimp only at hns₁ hsb₁⊢
 have I3:Inv X pins σ (upd H2 s2.heap.objs.size (.lst [])) {s2 with heap:=s2.heap.push {cls:=.type "list",data:=.seq ([]:List tx).toArray}}:=I2.lnew (t':=s2.toks) (ys:=[]) .nil (Mj _)
 obtain⟨W,⟨m0,w0⟩,turn⟩:=hW _ hf2
 generalize hD:s2.heap.objs.size=D at I3 w0 turn hf2⊢
 generalize hs3:({s2 with heap:=s2.heap.push {cls:=.type "list",data:=.seq ([]:List tx).toArray}}:If)=s3 at I3
 have hp3:s2.heap.push {cls:=.type "list",dict:=none,data:=.seq ([]:List tx).toArray}=s3.heap:=by rw[<-hs3]
 rw[hp3]at hns₁ hsb₁⊢
 have tk3:s2.toks=s3.toks:=by rw[<-hs3]
 generalize hH3:upd H2 D (.lst [])=H3 at I3 w0
 generalize hC:s3.heap.objs.size=C at hns₁ hsb₁⊢
 have keep2:∀b o,s2.heap.get? b=some o->s3.heap.get? b=some o:=fun b o e=>by rw[<-hp3];exact cW _ e
 have keep3:∀b o,s3.heap.get? b=some o->h₁.get? b=some o:=fun b o e=>hsb₁.extBut b o (by rw[<-hC];exact LH (Lt e)) (cW _ e)
 have st3:tn 0 s3.heap:=T.keep _ _ _ st2 fun b _ o e=>keep2 b o e
 have st4:tn 0 h₁:=T.keep _ _ _ st3 fun b _ o e=>keep3 b o e
 have fp3:∀b∈fp,H3 b=none/\b<C:=fun b hb=>by
  obtain⟨o,e,_⟩:=T.obj _ _ st2 b hb
  refine⟨?_,by rw[<-hC];exact Lt (keep2 b o e)⟩
  rw[<-hH3,ao (by rw[<-hD];exact LH (Lt e))]
  exact(f2 b hb).1
 have hcells:∀{z:Str}{c:Addr},(cI scope.names X.env.cells []).lookup z=some c->X.env.cells.lookup z=some c:=fun h=>jN (fun _ _ q=>by cases q) h
 have hX:(aO X scope C (x::z::ys) s3 H3 fp).Ok:=by
  refine⟨I3.ok.mod,S.kind,I3.ok.glob,I3.ok.blt,OR hC,fun y z c h1 h2=>I3.ok.inj y z c (hcells h1) (hcells h2),fun y hy=>?_,fun y c h _=>absurd (show false=true from h) LQ,I3.ok.hd,I3.ok.frames,.inl rfl,fun b hb=>⟨LH (fp3 b hb).2,fun y c h=>(f2 b hb).2.2.2.2.1 y c (hcells h)⟩,fun b o e=>I3.bs b o e,Mi I3.ok.bsz I3.sz,fun b o e hb=>?_,fun b hb z=>?_,I3.stack,I3.stkFree⟩
  ·have hy:(relabel scope X.env).names.lookup y=some .cell\/(relabel scope X.env).names.lookup y=some .free:=hy
   have hm:(y,Ny)∈scope.names:=by
    rcases hy with q|q
    ·exact eX S.nocell q (.inl rfl)
    ·exact eX S.nocell q (.inr rfl)
   have hs:∃c,X.env.cells.lookup y=some c:=by
    by_cases hk:X.env.kindOf y=some .cell\/X.env.kindOf y=some .free
    ·exact I3.ok.has y hk
    ·exact absurd (ij hcap (S.all _ hm rfl)) hk
   exact Mg.mp (gk hm (Mg.mpr hs))
  ·rcases(f2 b hb).2.2.2.1 with z|z
   ·exact I3.ok.noex b o e z
   ·exact absurd (LN (Lt e) (Mi I3.ok.bsz z)) (Nc _)
  ·rcases LG.mp (I3.stkSub b z)with q|q
   ·exact(f2 b hb).2.1 q
   ·exact(f2 b hb).2.2.1 q
 have I4:Inv (aO X scope C (x::z::ys) s3 H3 fp) [] (none::none::aV σ is) H3 {s2 with heap:=h₁,toks:=s2.toks+([]:List (Str×tx)).length}:=by
  obtain⟨m3,hm3,hl3⟩:=id I3.loc
  refine⟨hX,?_,?_,Un.kept keep3,⟨_,hns₁,fun i y v e1 e2 e3=>?_⟩,fun y c e=>?_,?_,fun y c e=>I3.freeC y c (hcells e),fun p hp=>absurd (show p∈([]:List (Addr×Obj))from hp) (by simp),I3.hok.kept keep3,?_⟩
  ·show s2.os=s3.os
   rw[<-hs3]
  ·have:=I2.bare;exact this
  ·match i,e1,e2 with
   |0,_,e2=>simp at e2
   |1,_,e2=>simp at e2
   |j+2,e1,e2=>
    obtain⟨u,r,hfr,c,ec,ic⟩:=og hcap hl3 trivial j y v (by have e1':(x::z::ys)[j+2]? =some y:=e1;simpa using e1') (by simpa using e2)
    have hk:=jL (env:=X.env) hfr
    obtain⟨c',ec'⟩:=Mg.mp (gk (cs:=[]) (jd hfr) (by rw[ec];rfl) (cells:=X.env.cells))
    have:c'=c:=by have:=hcells ec';rw[ec]at this;exact(LR this).symm
    subst this
    obtain⟨o,ho,hd⟩:=ic
    exact⟨u,r,.inr ⟨hk,c',ec',o,keep3 _ _ ho,hd⟩⟩
  ·obtain⟨v,o,ho,hd⟩:=I3.cell y c (hcells e)
   exact⟨v,o,keep3 _ _ ho,hd⟩
  ·have:=I3.hok.fresh (a:=C) (OR hC)
   exact this
  ·have:=qZ hcap
   show(none::none::aV σ is).length=(x::z::ys).length
   simp[aV,this]
 have hown:(relabel scope X.env).names.lookup x=some .local:=gl S.own
 have hown2:(relabel scope X.env).names.lookup z=some .local:=gl S.own2
 have loop:codeAny (model X.prog X.w) X.A (.compLoop (.ListComp elt [⟨.Tuple [.Name x px,.Name z pz] ek ep,iter,ifs,0⟩] scope pos) 0 (.ref it) (.ref D) (compEnvC scope (cI scope.names X.env.cells []) C X.env)) (RR (.ref D) C)
   {s2 with heap:=h₁,toks:=s2.toks+([]:List (Str×tx)).length}:=by
  have fin:∀{H':Hp}{v w:Option V}{s':If},Inv (aO X scope C (x::z::ys) s3 H3 fp) [] (v::w::aV σ is) H' s'->Q (.ref D) H'->RR (.ref D) C (.ok .next) s':=fun{H' v w s'} J q=>by
   obtain⟨m',hm',_⟩:=J.loc
   have hCL:C≠X.env.locals:=Mh (by rw[<-hC];exact LH I3.lt)
   have back:∀h',Nd C s'.heap h'->Inv X pins σ H' {s' with heap:=h'}:=fun h' hs'=>by
    have os':s'.os=s3.os:=J.os
    refine I3.call' (s':={s' with heap:=h'}) (ch:=fp) os' ⟨fun b o e n hb hx=>?_,fun b o e n hb hx=>?_,fun b o e n hx=>J.base.free b o e n hx,fun b o e hx=>?_,J.base.tups,J.base.frzs,J.base.tbls⟩ (fun b o e=>?_) J.bare fun b hb=>?_
    ·exact hs'.extBut b o (by rw[<-hC];exact LH (Lt e)) (J.base.keep b o e n hb hx)
    ·obtain⟨sl,e1⟩:=J.base.slot b o e n hb hx
     exact⟨sl,hs'.extBut b _ (by rw[<-hC];exact LH (Lt e)) e1⟩
    ·obtain⟨o',e1⟩:=J.base.there b o e hx
     exact⟨o',hs'.extBut b _ (by rw[<-hC];exact LH (Lt e)) e1⟩
    ·refine(J.hok b o e).stay (fun c w' hc q=>(hs'.2 c ?_).trans q) (fun _ q=>q) fun _ _ q=>q
     have fC:H' C=none:=J.free
     rintro rfl
     rcases hc with rfl|hc
     ·rw[fC]at e;cases e
     ·rw[fC]at hc;cases hc
    ·obtain⟨_,a1,_,a2,a3,a4⟩:=f2 b hb
     exact⟨a2,a1,a3,a4⟩
   refine hRR D C H' s' ⟨by rw[<-hC];exact I3.sz,fun p hp=>by rw[<-hC];exact LH (Lt (I3.pin p hp).1)⟩ ⟨m',hm'⟩ hCL J.free ?_ back q
   have:=back s'.heap (.refl ..)
   exact this
  have stat:∀{H':Hp},(∀b∈fp,H' b=none)->∀b∈fp,iF (aO X scope C (x::z::ys) s3 H3 fp) [] H' b:=fun hn b hb=>by
   obtain⟨_,a1,a5,a2,a3,a4⟩:=f2 b hb
   refine⟨hn b hb,LH (fp3 b hb).2,fun z=>?_,.inl hb,fun y c e=>a3 y c (hcells e),fun p hp=>absurd (show p∈([]:List (Addr×Obj))from hp) (by simp)⟩
   rcases LG.mp (I3.stkSub b z)with q|q
   ·exact a1 q
   ·exact a5 q
  have turnAt:∀n s,(∃i v w ys' H',Inv (aO X scope C (x::z::ys) s3 H3 fp) [] (v::w::aV σ is) H' s/\tn i s.heap/\(∀b∈fp,H' b=none)/\W i n ys' H')->
    wpAny (model X.prog X.w) X.A (pyNext (.ref it)) (fun r s₁=>match r with
     |none=>RR (.ref D) C (.ok .next) s₁
     |some u=>wpAny (model X.prog X.w) X.A (letOwnedTupleGo (.Tuple [.Name x px,.Name z pz] ek ep) (.ref it) u) (fun _ s₁=>wpAny (model X.prog X.w) X.A (assign (.Tuple [.Name x px,.Name z pz] ek ep) (compEnvC scope (cI scope.names X.env.cells []) C X.env) u) (fun _ s₂=>
      ∃(x0 x1:V)(i:Nat)(ys':List V)(H3' H6:Hp)(pl:List (Addr×Obj)),Inv (aO X scope C (x::z::ys) s3 H3 fp) ([]++pl) (some x0::some x1::aV σ is) H6 s₂/\
       (∀s7 v7 w7 H7,Inv (aO X scope C (x::z::ys) s3 H3 fp) ([]++pl) (v7::w7::aV σ is) H7 s7->Inv (aO X scope C (x::z::ys) s3 H3 fp) [] (v7::w7::aV σ is) H7 s7/\tn (i+1) s7.heap/\∀b∈fp,H7 b=none)/\
       (tc (some x0::some x1::aV σ is) H6 fun b H4=>if b=true then te (some x0::some x1::aV σ is) H4 fun y H5=>H5 D=some (.lst ys')/\ys'.length<sizeLine/\∃m',m'<n/\W (i+1) m' (ys'++[y]) (upd H5 D (.lst (ys'++[y])))
        else ∃m',m'<n/\W (i+1) m' ys' H4)) (fun _ _=>False) s₁) (fun _ _=>False) s₁) (fun _ _=>False) s:=by
   rintro n s ⟨i,v,w,ys',H',J,st,fr,w'⟩
   rcases turn i n ys' H' w' with⟨stop,qn⟩|⟨go,step⟩
   ·refine thn (T.done (aO X scope C (x::z::ys) s3 H3 fp) rfl rfl rfl hc i [] s _ H' (fun _ _=>False) J (stat fr) st stop) fun r s4 ⟨hr,J4⟩=>?_
    subst hr
    exact fin J4 qn
   ·refine thn (T.item (aO X scope C (x::z::ys) s3 H3 fp) rfl rfl rfl hc i [] s _ H' (fun _ _=>False) J (stat fr) st go) fun r s4 ⟨u,hr,h4⟩=>?_
    subst hr
    refine thn h4 fun _ s5 ⟨xx,H5,J5,r5,y5,st5,fr5⟩=>?_
    have J5':=J5.pinned (stat fr5) (T.obj _ _ st5)
    obtain⟨ta,x0,x1,rfl,hta,hstep⟩:=step xx H5 y5
    have pg:PG (aO X scope C (x::z::ys) s3 H3 fp) (.Tuple [.Name x px,.Name z pz] ek ep) (Du X.K 2 (sZ (aB 0) (sZ (aB 1) Ed))):=Ef hc (rh (nN (i:=0) S.nd rfl (.inl hown) (.inr hown)) (rh (nN (i:=1) S.nd rfl (.inl hown2) (.inr hown2)) Az))
    refine thn (pg _ s5 _ H5 (.ref ta) u (fun σ' H'=>σ'=some x0::some x1::aV σ is/\H'=H5) J5' r5 ⟨ta,_,rfl,hta,rfl,_,_,rfl,_,_,rfl,rfl,rfl,rfl⟩) fun _ s6 ⟨σ6,H6,J6,e6,e7⟩=>?_
    subst e6 e7
    refine⟨x0,x1,i,ys',H6,H6,iY fp s5.heap,J6,fun s7 v7 w7 H7 J7=>⟨J7.unpinned,T.keep _ _ _ st5 fun b hb o e=>(J7.pin (b,o) (Mp _ (Mp _ (eW hb e)))).1,fun b hb=>?_⟩,hstep⟩
    obtain⟨o,e,d⟩:=T.obj _ _ st5 b hb
    exact(J7.pin (b,o) (Mp _ (Mp _ (eW hb e)))).2.1
  have start0:∃i v w ys' H',Inv (aO X scope C (x::z::ys) s3 H3 fp) [] (v::w::aV σ is) H' {s2 with heap:=h₁,toks:=s2.toks+([]:List (Str×tx)).length}/\tn i h₁/\(∀b∈fp,H' b=none)/\W i m0 ys' H':=
   ⟨0,none,none,[],H3,I4,st4,fun b hb=>(fp3 b hb).1,w0⟩
  have emit:∀(n:Nat)(x0 x1:V)(i:Nat)(ys':List V)(H4:Hp)(pl:List (Addr×Obj))(s₂:If),Inv (aO X scope C (x::z::ys) s3 H3 fp) ([]++pl) (some x0::some x1::aV σ is) H4 s₂->
    (∀s7 v7 w7 H7,Inv (aO X scope C (x::z::ys) s3 H3 fp) ([]++pl) (v7::w7::aV σ is) H7 s7->Inv (aO X scope C (x::z::ys) s3 H3 fp) [] (v7::w7::aV σ is) H7 s7/\tn (i+1) s7.heap/\∀b∈fp,H7 b=none)->
    (te (some x0::some x1::aV σ is) H4 fun y H5=>H5 D=some (.lst ys')/\ys'.length<sizeLine/\∃m',m'<n/\W (i+1) m' (ys'++[y]) (upd H5 D (.lst (ys'++[y]))))->
    wpAny (model X.prog X.w) X.A (eval elt (compEnvC scope (cI scope.names X.env.cells []) C X.env)) (fun y s₃=>wpAny (model X.prog X.w) X.A (call (.builtin "list.append") [.ref D,y]) (fun _ s₄=>
     ∃m,m<n/\∃i v w ys' H',Inv (aO X scope C (x::z::ys) s3 H3 fp) [] (v::w::aV σ is) H' s₄/\tn i s₄.heap/\(∀b∈fp,H' b=none)/\W i m ys' H') (fun _ _=>False) s₃) (fun _ _=>False) s₂:=by
   intro n x0 x1 i ys' H4 pl s₂ J2 back q
   refine thn (he C s3 H3 fp ([]++pl) s₂ _ H4 _ J2 q) fun y s₃ ⟨yv,H5,J3,r3,q1,q2,q3⟩=>?_
   refine thn (bH (X:=aO X scope C (x::z::ys) s3 H3 fp) ([]++pl) s₃ _ H5 (.ref D) [yv] (.ref D) [y] (fun v H7=>v=.non/\H7=upd H5 D (.lst (ys'++[yv]))) J3 rfl (.cons r3 .nil) ⟨D,ys',yv,rfl,rfl,q1,q2,rfl,rfl⟩) fun _ s₄ ⟨_,H7,J4,_,_,e7⟩=>?_
   subst e7
   obtain⟨m',hm',w'⟩:=q3
   obtain⟨b1,b2,b3⟩:=back s₄ _ _ _ J4
   exact⟨m',hm',i+1,some x0,some x1,ys'++[yv],_,b1,b2,b3,w'⟩
  have ex0:∀{α:Type}{t:Sem α}{Q':α->If->Prop}{E':tx->If->Prop}{s:If},wpAny (model X.prog X.w) X.A t Q' (fun _ _=>False) s->wpAny (model X.prog X.w) X.A t Q' E' s:=fun h=>Ma h (fun _ _ q=>q) fun _ _ q=>q.elim
  cases ifs with
  |nil=>
   have htc:tc=fun _ H Q=>Q true H:=hif C s3 H3 fp
   subst htc
   refine fK (fun n s=>∃i v w ys' H',Inv (aO X scope C (x::z::ys) s3 H3 fp) [] (v::w::aV σ is) H' s/\tn i s.heap/\(∀b∈fp,H' b=none)/\W i n ys' H') (fun n s hI=>?_) m0 start0
   refine Ma (turnAt n s hI) (fun r s₁ h₁=>?_) fun _ _ q=>q.elim
   cases r with
   |none=>exact h₁
   |some u=>
    refine Ma h₁ (fun _ s₁ h₁=>Ma h₁ (fun _ s₂ h₂=>?_) fun _ _ q=>q.elim) fun _ _ q=>q.elim
    obtain⟨x0,x1,i,ys',_,H6,pl,J2,back,q⟩:=h₂
    dsimp only at q
    rw[if_pos rfl]at q
    exact Ma (emit n x0 x1 i ys' H6 pl s₂ J2 back q) (fun y s₃ h₃=>ex0 h₃) fun _ _ q=>q.elim
  |cons c r0=>
   cases r0 with
   |cons _ _=>exact(hif C s3 H3 fp).elim
   |nil=>
    have hpt:PT (aO X scope C (x::z::ys) s3 H3 fp) c tc:=hif C s3 H3 fp
    refine fM (fun n s=>∃i v w ys' H',Inv (aO X scope C (x::z::ys) s3 H3 fp) [] (v::w::aV σ is) H' s/\tn i s.heap/\(∀b∈fp,H' b=none)/\W i n ys' H') (fun n s hI=>?_) m0 start0
    refine Ma (turnAt n s hI) (fun r s₁ h₁=>?_) fun _ _ q=>q.elim
    cases r with
    |none=>exact h₁
    |some u=>
     refine Ma h₁ (fun _ s₁ h₁=>Ma h₁ (fun _ s₂ h₂=>?_) fun _ _ q=>q.elim) fun _ _ q=>q.elim
     obtain⟨x0,x1,i,ys',_,H6,pl,J2,back,q⟩:=h₂
     refine Ma (hpt ([]++pl) s₂ _ H6 _ J2 q) (fun b s₃ h₃=>?_) fun _ _ q=>q.elim
     obtain⟨H4,J4,q4⟩:=h₃
     cases b with
     |true=>
      rw[if_pos rfl]at q4⊢
      exact Ma (emit n x0 x1 i ys' H4 pl s₃ J4 back q4) (fun y s₃ h₃=>ex0 h₃) fun _ _ q=>q.elim
     |false=>
      rw[if_neg LQ]at q4⊢
      obtain⟨m',hm',w'⟩:=q4
      obtain⟨b1,b2,b3⟩:=back s₃ _ _ _ J4
      exact⟨m',hm',i+1,some x0,some x1,ys',_,b1,b2,b3,w'⟩
 exact Ta loop (T.self X.A 0 _ _ _ st4 loop)
end
section
variable {X:Cx}
theorem xi {scope:Scope}{x z:Str}{ys:List Str}{is:List Nat}(ok:X.Ok)(S:gF scope x z ys)(hcap:fk X scope ys is):closureFor scope X.env=pure (cI scope.names X.env.cells []):=
 jT fun y hy hk=>by
  obtain⟨c,e⟩:=ok.has y.1 (ij hcap (S.all y hy hk))
  rw[e];rfl
theorem rW {elt iter:Expr}{ifs:List Expr}{x z y:Str}{px pz ep py pos spos:Pos}{ek:Nat}{scope:Scope}{ys:List Str}{is:List Nat}{wi:TI}{tc:TT}{te:TE}{j:Nat}
  (hN:X.N.Nodup)(hj:X.N[j]?=some y)(hy:Loc X.env.scope y)
  (hc:X.calm=true)(S:gF scope x z ys)(hcap:fk X scope ys is)(hi:PI X (.Tuple [.Name x px,.Name z pz] ek ep) iter wi)
  (hif:∀C s H fp,ng (aO X scope C (x::z::ys) s H fp) ifs tc)(he:∀C s H fp,PE (aO X scope C (x::z::ys) s H fp) elt te)
  (hsw:swapsWith (.ListComp elt [⟨.Tuple [.Name x px,.Name z pz] ek ep,iter,ifs,0⟩] scope pos) (some (.Name y py)) spos.line X.env=pure true:=by rfl)
  (hf:X.fn y=true\/X.env.scope.names.lookup y=some .local:=by first|exact .inl rfl|exact .inr rfl|assumption)
  (hs:∀x,foldedSetIterable iter X.env x=pure x:=by intro _;rfl):PS X (.Assign [.Name y py] (.ListComp elt [⟨.Tuple [.Name x px,.Name z pz] ek ep,iter,ifs,0⟩] scope pos) spos) (aD (qR X.K is wi tc te) (aB j)):=by
 intro pins s σ H D I h
 rw[Tp _ _ _ _ hsw]
 refine ah (OK (ah ?_))
 show wpAny _ X.A (do let _<-comprehension (.ListComp elt [⟨.Tuple [.Name x px,.Name z pz] ek ep,iter,ifs,0⟩] scope pos) scope X.env _ (newList []) false (eval iter X.env) (some (assign (.Name y py) X.env))) _ _ s
 refine ah (Ma (PM (use:=some (assign (.Name y py) X.env)) (Q:=fun _ s'=>SP X pins D .next s') rfl hs (xi I.ok S hcap) S.kind S.names
  (thn (hi pins s σ H _ I h) fun v s1 h1=>thn h1 fun itv s2 h2=>?_)) (fun _ s' hq=>Lo (Lo hq)) fun _ _ e=>e)
 obtain⟨it,fp,tn,J,H2,rfl,I2,T,st2,f2,hW⟩:=h2
 refine tF (Q:=fun x H1=>aB j x σ H1 D.nx) (RR:=fun acc C=>compPost (model X.prog X.w) X.A X.xe (some (assign (.Name y py) X.env)) (fun _ s'=>SP X pins D .next s') acc C) hc S hcap hif he I2 T st2 f2 hW ?_
 intro Da C H' s' hlt hns hne hfr I' back q
 show wpAny _ X.A (assign (.Name y py) X.env (.ref Da)) _ _ _
 obtain⟨m,hm⟩:=hns
 refine PN (jO I' hN hj hy (v:=.ref Da) rfl (fun s2 I2' ⟨a,hsb,ha⟩=>?_) hf)
 have hCa:C≠a:=by
  rcases ha with e|e
  ·rw[e];exact hne
  ·rintro rfl
   obtain⟨v,o,ho,hd⟩:=I'.cell y C e
   obtain⟨o2,es,ep,ho2,hd2,_⟩:=hm
   rw[ho]at ho2;cases ho2;rw[hd]at hd2;cases hd2
 refine⟨m,hm.sameBut hsb hCa,fun h' hs'=>?_⟩
 have hCn:∀y c,X.env.cells.lookup y=some c->c≠C:=fun z c e q=>by
  subst q
  obtain⟨v,o,ho,hd⟩:=I'.cell z c e
  obtain⟨o2,es,ep,ho2,hd2,_⟩:=hm
  rw[ho]at ho2;cases ho2;rw[hd]at hd2;cases hd2
 have I3:Inv X pins (σ.set j (some (.ref Da))) H' {s2 with heap:=h'}:=by
  refine I2'.step (g':=s2.gens) (d':=s2.drawn) (t':=s2.toks) (ch:=[C]) (fun b hb=>?_) (fun b o _ _ hb e _=>(hs'.2 b (fun z=>hb (by simp[z]))).trans e) (fun b o _ _ hb e _=>⟨o.slots,(hs'.2 b (fun z=>hb (by simp[z]))).trans e⟩) (fun _ _ _ _ n=>n) (fun b o hb e=>⟨o,(hs'.2 b (fun z=>hb (by simp[z]))).trans e⟩)
   (fun _ _ e=>e) (fun _ _ _ e=>e) (fun b ps e=>⟨#[],by rw[e];simp⟩) (fun m' hm'=>hm'.sameBut hs' (Mh hne)) (fun b o e=>?_) I2'.bare
  ·have e:b=C:=by simpa using hb
   subst e
   exact⟨.inr hlt.1,hne,fun z c e=>hCn z c e,hlt.2⟩
  ·refine(I2'.hok b o e).stay (fun c w' hc q=>(hs'.2 c ?_).trans q) (fun _ q=>q) fun _ _ q=>q
   rintro rfl
   rcases hc with rfl|hc
   ·rw[hfr]at e;cases e
   ·rw[hfr]at hc;cases hc
 exact⟨_,H',I3,q⟩
end
section
variable {X:Cx}{iter elt:Expr}{wi:TI}{te:TE}{ifs:List Expr}{scope:Scope}{ys:List Str}{is:List Nat}{px pz py ep pos spos:Pos}{ek:Nat}{x y z:Str}
theorem ux (j:Nat){tcn:TT}(hN:X.N.Nodup)(S:gF scope x z ys)(hcap:fk X scope ys is)(hi:QI X (.Tuple [.Name x px,.Name z pz] ek ep) iter wi)
  (hif:∀C s H fp,tX (aO X scope C (x::z::ys) s H fp) ifs tcn)(he:∀C s H fp,QE (aO X scope C (x::z::ys) s H fp) elt te)(hc:X.calm=true:=by rfl)
  (hj:X.N[j]?=some y:=by rfl)(hy:Loc X.env.scope y:=by first|exact .inl rfl|exact .inr rfl)
  (hsw:swapsWith (.ListComp elt [⟨.Tuple [.Name x px,.Name z pz] ek ep,iter,ifs,0⟩] scope pos) (some (.Name y py)) spos.line X.env=pure true:=by rfl)(hf:X.fn y=true\/X.env.scope.names.lookup y=some .local:=by first|exact .inl rfl|exact .inr rfl)
  (hs:∀x,foldedSetIterable iter X.env x=pure x:=by intro _;rfl):QS X (.Assign [.Name y py] (.ListComp elt [⟨.Tuple [.Name x px,.Name z pz] ek ep,iter,ifs,0⟩] scope pos) spos) (aD (qR X.K is wi tcn te) (aB j)):=
 ⟨rW hN hj hy hc S hcap hi.out (fun C s H fp=>(hif C s H fp).out) (fun C s H fp=>(he C s H fp).out) hsw hf hs⟩
end
theorem tM {K:pv}{J:It}{n:Nat}{it:Nat->V}{Pk:Hp->Prop}{σ:St}{is:List Nat}{tc:TT}{te:TE}{Q:VK}{H1:Hp}{D:Addr}(T:da J n it Pk)(Pv:Nat->List V->Hp->Prop)
  (hk:∀i ys H,i<=n->Pv i ys H->Pk H)(h0:Pv 0 [] (upd H1 D (.lst [])))
  (hs:∀i ys H2,i<n->Pv i ys H2->∃a v0 v1,it i=.ref a/\SqT K H2 a [v0,v1]/\tc (some v0::some v1::aV σ is) H2 fun b H4=>if b=true then
   te (some v0::some v1::aV σ is) H4 fun y H5=>H5 D=some (.lst ys)/\ys.length<sizeLine/\∃m',m'<n- i/\CWd n Pv (i+1) m' (ys++[y]) (upd H5 D (.lst (ys++[y])))
   else ∃m',m'<n- i/\CWd n Pv (i+1) m' ys H4)
  (hd:∀ys H,Pv n ys H->Q (.ref D) H):ww K is tc te σ D J H1 Q:=by
 refine⟨CWd n Pv,⟨n,Mj _,rfl,h0⟩,?_⟩
 rintro i m ys H2 ⟨hi,rfl,p⟩
 by_cases hlt:i<n
 ·refine .inr ⟨T.go i H2 hlt (hk i ys H2 hi p),fun x H3 y=>?_⟩
  obtain⟨rfl,rfl⟩:=T.yld i H2 x H3 hlt (hk i ys H2 hi p) y
  exact hs i ys _ hlt p
 ·have e:i=n:=by omega
  subst e
  exact .inl ⟨T.stop H2 (hk _ ys H2 hi p),hd ys H2 p⟩
end L2
namespace Rs
open PySem PySem.Spec PyProof.Rows L2
abbrev gOp:=List Key->Option Key
def cD (s:Stmt)(j:Nat):Stmt:=match s with
 |.ClassDef _ _ _ b _ _ _ _ _ _ _=>b.getD j (.Pass ⟨0,0,0,0⟩)
 |_=>.Pass ⟨0,0,0,0⟩
def top (i:Nat):Stmt:=PySem.Challenge.pw_rootstamp_k63_whole_heads_of_one_row.main.body.getD i (.Pass ⟨0,0,0,0⟩)
abbrev xk:Stmt:=top 16
abbrev yg:Stmt:=top 17
abbrev xa:Stmt:=top 18
abbrev yj:Stmt:=top 20
abbrev yb:Stmt:=top 19
abbrev s_6:Stmt:=cD (top 56) 1
abbrev lh:Stmt:=top 57
abbrev s_5:Stmt:=cD (top 56) 0
abbrev lB:Stmt:=top 58
abbrev lm:Stmt:=top 61
abbrev xE:Stmt:=top 62
abbrev yV:Stmt:=top 60
abbrev xG:Stmt:=top 63
abbrev s_8:Stmt:=cD (top 36) 0
abbrev s_9:Stmt:=cD (top 36) 1
abbrev xM:Stmt:=top 64
abbrev wR:Stmt:=top 23
abbrev xr:Stmt:=top 32
abbrev yS:Stmt:=top 33
abbrev s_1:Stmt:=cD (top 50) 0
abbrev xL:Stmt:=top 27
abbrev yp:Stmt:=top 29
abbrev xN:Stmt:=cD (top 36) 2
abbrev yc:Stmt:=cD (top 36) 4
abbrev xY:Stmt:=top 25
abbrev zk:Stmt:=cD (top 36) 11
abbrev xO:Stmt:=cD (top 36) 10
abbrev wW:Stmt:=cD (top 36) 6
abbrev xQ:Stmt:=cD (top 36) 9
abbrev yH:Stmt:=cD (top 36) 8
abbrev wM:Stmt:=top 65
abbrev wN:Stmt:=top 34
abbrev xc:Stmt:=top 35
abbrev s_2:Stmt:=cD (top 50) 1
abbrev yB:Stmt:=top 44
abbrev yJ:Stmt:=top 30
abbrev zm:Stmt:=top 38
abbrev xf:Stmt:=top 47
abbrev yw:Stmt:=top 46
abbrev mW:Stmt:=top 45
abbrev s_0:Stmt:=cD (top 12) 0
abbrev nA:Stmt:=top 48
abbrev s_7:Stmt:=cD (top 13) 0
abbrev s_4:Stmt:=cD (top 50) 2
abbrev nP:Stmt:=top 51
abbrev xT:Stmt:=cD (top 54) 1
abbrev yr:Stmt:=cD (top 54) 2
abbrev s_3:Stmt:=cD (top 50) 3
abbrev yX:Stmt:=cD (top 54) 0
abbrev lC:Stmt:=top 66
abbrev wK:Stmt:=top 67
abbrev xj:Stmt:=top 68
abbrev zh:Stmt:=top 28
abbrev yk:Stmt:=cD (top 36) 3
abbrev yE:Stmt:=top 26
abbrev yP:Stmt:=cD (top 36) 7
abbrev xv:Stmt:=top 39
abbrev za:Stmt:=top 40
abbrev xZ:Stmt:=top 41
abbrev yW:Stmt:=top 42
abbrev xt:Stmt:=top 69
abbrev lK:Stmt:=top 70
def sAt (i:Nat)(l:List Stmt):Stmt:=l.getD i (.Pass ⟨0,0,0,0⟩)
def xF:Stmt->Expr|.Return (some e) _=>e|.Assign _ e _=>e|.Expr e _=>e|_=>.Constant .none 0 ⟨0,0,0,0⟩
def JQ (i:Nat):Expr->Expr|.Call _ l _ _=>l.getD i (.Constant .none 0 ⟨0,0,0,0⟩)|e=>e
def gJ:Expr->Expr|.Lambda _ b _ _=>b|e=>e
def lx:Expr->Scope|.Lambda _ _ sc _=>sc|_=>{kind:=.function,names:=[],isGenerator:=false,isCoroutine:=false}
abbrev wO:Expr:=(xF (sAt 0 (aS lh)))
def fD:dc:=⟨(("writing":Str)++".<locals>.")++"<lambda>",.expr (gJ wO),lx wO,["term"],[]⟩
abbrev yI:Expr:=(xF (sAt 1 (aS lB)))
def gD:dc:=⟨(("counting":Str)++".<locals>.")++"<lambda>",.expr (gJ yI),lx yI,["term"],["numbers"]⟩
abbrev xm:Stmt:=(sAt 1 (aS lm))
def gC:dc:=⟨(("_law_sure":Str)++".<locals>.")++"_law_stamp",.stmts (aS xm),au xm,["_law_term"],["_law_step","_law_known"]⟩
abbrev yQ:Stmt:=(sAt 0 (aS lC))
def eK:dc:=⟨(("_law_line":Str)++".<locals>.")++"_law_say",.stmts (aS yQ),au yQ,["_law_question"],["_law_paper_here","_law_head"]⟩
abbrev ya:Expr:=(JQ 2 (xF (sAt 3 (aS lK))))
def fI:dc:=⟨(("law":Str)++".<locals>.")++"<lambda>",.expr (gJ ya),lx ya,["_law_head"],[]⟩
set_option genInjectivity false in
set_option genSizeOf false in
abbrev Rd (sp:Sp)(t:TS)(N:List Str):Prop:=∀(vs:List V)(H:Hp)(Q:VK)(E:XK),sp vs H Q E->t {nx:=fun _ H'=>Q .non H',rt:=Q} (L2.start N vs) H
abbrev Ln (sp:Sp)(n:Nat):Prop:=∀vs H Q E,sp vs H Q E->vs.length=n
structure Adr where
 a_51:Addr
 d_51:LI
 a_49:Addr
 d_49:LI
 a_50:Addr
 d_50:LI
 a_56:Addr
 d_56:LI
 a_66:Addr
 d_66:LI
 a_6:Addr
 d_6:LI
 a_64:Addr
 d_64:LI
 a_5:Addr
 d_5:LI
 a_36:Addr
 d_36:LI
 a_31:Addr
 d_31:LI
 a_30:Addr
 d_30:LI
 a_24:Addr
 d_24:LI
 a_23:Addr
 d_23:LI
 a_8:Addr
 d_8:LI
 a_9:Addr
 d_9:LI
 a_29:Addr
 d_29:LI
 a_43:Addr
 d_43:LI
 a_62:Addr
 d_62:LI
 a_55:Addr
 d_55:LI
 a_1:Addr
 d_1:LI
 a_44:Addr
 d_44:LI
 a_45:Addr
 d_45:LI
 a_16:Addr
 d_16:LI
 a_12:Addr
 d_12:LI
 a_42:Addr
 d_42:LI
 a_18:Addr
 d_18:LI
 a_17:Addr
 d_17:LI
 a_14:Addr
 d_14:LI
 a_10:Addr
 d_10:LI
 a_11:Addr
 d_11:LI
 a_28:Addr
 d_28:LI
 a_46:Addr
 d_46:LI
 a_35:Addr
 d_35:LI
 a_2:Addr
 d_2:LI
 a_41:Addr
 d_41:LI
 a_34:Addr
 d_34:LI
 a_52:Addr
 d_52:LI
 a_38:Addr
 d_38:LI
 a_60:Addr
 d_60:LI
 a_40:Addr
 d_40:LI
 a_0:Addr
 d_0:LI
 a_39:Addr
 d_39:LI
 a_7:Addr
 d_7:LI
 a_4:Addr
 d_4:LI
 a_61:Addr
 d_61:LI
 a_21:Addr
 d_21:LI
 a_20:Addr
 d_20:LI
 a_3:Addr
 d_3:LI
 a_19:Addr
 d_19:LI
 a_26:Addr
 d_26:LI
 a_33:Addr
 d_33:LI
 a_25:Addr
 d_25:LI
 a_47:Addr
 d_47:LI
 a_13:Addr
 d_13:LI
 a_63:Addr
 d_63:LI
 a_15:Addr
 d_15:LI
 a_48:Addr
 d_48:LI
 a_59:Addr
 d_59:LI
 a_58:Addr
 d_58:LI
 a_57:Addr
 d_57:LI
 a_22:Addr
 d_22:LI
 a_53:Addr
 d_53:LI
 k_64:Addr
 t_64:Addr
 k_36:Addr
 t_36:Addr
 k_31:Addr
 t_31:Addr
 k_26:Addr
 t_26:Addr
 k_53:Addr
 t_53:Addr
 c_Elder:Addr
 c_Unsealed:Addr
 c_NoPaper:Addr
 c_NoPlace:Addr
 c_Broken:Addr
 c_Parted:Addr
 c_Silent:Addr
 c_StampError:Addr
 c_Numbers:Addr
 c_Row:Addr
 c_Desk:Addr
 c_Spoken:Addr
set_option genInjectivity false in
set_option genSizeOf false in
structure Txt (K:pv)(mg:Str->Option tx)(A:Adr):Prop where
 f_51:Fm K mg "is_whole" "is_whole" xk A.a_51 A.d_51 ["thing"]
 f_49:Fm K mg "is_stamp" "is_stamp" yg A.a_49 A.d_49 ["thing"]
 f_50:Fm K mg "is_term" "is_term" xa A.a_50 A.d_50 ["thing"]
 f_56:Fm K mg "part_form" "part_form" yj A.a_56 A.d_56 ["part"]
 f_66:Fm K mg "written" "written" yb A.a_66 A.d_66 ["term"]
 f_6:Fun K "number_of" "Numbers.number_of" s_6 A.a_6 A.d_6
 b_6:bv K A.d_6 ["self","term"] []
 f_64:Fm K mg "writing" "writing" lh A.a_64 A.d_64 []
 f_5:Fun K "__init__" "Numbers.__init__" s_5 A.a_5 A.d_5
 b_5:bv K A.d_5 ["self"] []
 f_36:Fm K mg "counting" "counting" lB A.a_36 A.d_36 []
 f_31:Fm K mg "_law_sure" "_law_sure" lm A.a_31 A.d_31 ["_law_step"]
 f_30:Fm K mg "_law_stamper" "_law_stamper" xE A.a_30 A.d_30 ["_law_cell"]
 f_24:Fm K mg "_law_cell_at" "_law_cell_at" yV A.a_24 A.d_24 ["_law_script","_law_k"]
 f_23:Fm K mg "_law_books" "_law_books" xG A.a_23 A.d_23 ["_law_script"]
 f_8:Fun K "__init__" "Row.__init__" s_8 A.a_8 A.d_8
 b_8:bv K A.d_8 ["self","stamper"] []
 f_9:Fun K "add" "Row.add" s_9 A.a_9 A.d_9
 b_9:bv K A.d_9 ["self","entry"] []
 f_29:Fm K mg "_law_row" "_law_row" xM A.a_29 A.d_29 ["_law_stamper_here","_law_entries"]
 f_43:Fm K mg "is_bits" "is_bits" wR A.a_43 A.d_43 ["thing"]
 f_62:Fm K mg "void_terms" "void_terms" xr A.a_62 A.d_62 ["stamper"]
 f_55:Fm K mg "none_head" "none_head" yS A.a_55 A.d_55 ["stamper"]
 f_1:Fun K "__init__" "Desk.__init__" s_1 A.a_1 A.d_1
 b_1:bv K A.d_1 ["self","stamper","bits","knows"] []
 f_44:Fm K mg "is_count" "is_count" xL A.a_44 A.d_44 ["thing"]
 f_45:Fm K mg "is_elder" "is_elder" yp A.a_45 A.d_45 ["count","elder"]
 f_16:Fun K "size" "Row.size" xN A.a_16 A.d_16
 b_16:bv K A.d_16 ["self"] []
 f_12:Fun K "has_elder" "Row.has_elder" yc A.a_12 A.d_12
 b_12:bv K A.d_12 ["self","count","elder"] []
 f_42:Fm K mg "half" "half" xY A.a_42 A.d_42 ["many"]
 f_18:Fun K "top_term" "Row.top_term" zk A.a_18 A.d_18
 b_18:bv K A.d_18 ["self","first","many"] []
 f_17:Fun K "top_of" "Row.top_of" xO A.a_17 A.d_17
 b_17:bv K A.d_17 ["self","first","many"] []
 f_14:Fun K "mark_at" "Row.mark_at" wW A.a_14 A.d_14
 b_14:bv K A.d_14 ["self","count"] []
 f_10:Fun K "growth_marks" "Row.growth_marks" xQ A.a_10 A.d_10
 b_10:bv K A.d_10 ["self","first","many","elder"] []
 f_11:Fun K "growth_paper" "Row.growth_paper" yH A.a_11 A.d_11
 b_11:bv K A.d_11 ["self","count","elder"] []
 f_28:Fm K mg "_law_paper" "_law_paper" wM A.a_28 A.d_28 ["_law_cell","_law_rows","_law_books_here","_law_k","_law_count","_law_held"]
 f_46:Fm K mg "is_head" "is_head" wN A.a_46 A.d_46 ["thing"]
 f_35:Fm K mg "check_head" "check_head" xc A.a_35 A.d_35 ["thing"]
 f_2:Fun K "check_new" "Desk.check_new" s_2 A.a_2 A.d_2
 b_2:bv K A.d_2 ["self","head"] []
 f_41:Fm K mg "growth_turns" "growth_turns" yB A.a_41 A.d_41 ["count","elder"]
 f_34:Fm K mg "are_marks" "are_marks" yJ A.a_34 A.d_34 ["many","thing"]
 f_52:Fm K mg "joint" "joint" zm A.a_52 A.d_52 ["turn","own","aside"]
 f_38:Fm K mg "grown_terms" "grown_terms" xf A.a_38 A.d_38 ["stamper","count","elder","steps"]
 f_60:Fm K mg "step_marks" "step_marks" yw A.a_60 A.d_60 ["turns","marks"]
 f_40:Fm K mg "growth_terms" "growth_terms" mW A.a_40 A.d_40 ["stamper","count","elder","marks"]
 f_0:Fun K "__init__" "Broken.__init__" s_0 A.a_0 A.d_0
 b_0:bv K A.d_0 ["self","due","came"] []
 f_39:Fm K mg "growth_answer" "growth_answer" nA A.a_39 A.d_39 ["stamper","head","elder","marks"]
 f_7:Fun K "__init__" "Parted.__init__" s_7 A.a_7 A.d_7
 b_7:bv K A.d_7 ["self","due","came"] []
 f_4:Fun K "hear" "Desk.hear" s_4 A.a_4 A.d_4
 b_4:bv K A.d_4 ["self","head","marks"] []
 f_61:Fm K mg "told" "told" nP A.a_61 A.d_61 ["answer"]
 f_21:Fun K "newest" "Spoken.newest" xT A.a_21 A.d_21
 b_21:bv K A.d_21 ["self"] []
 f_20:Fun K "growth" "Spoken.growth" yr A.a_20 A.d_20
 b_20:bv K A.d_20 ["self","count","elder"] []
 f_3:Fun K "follow" "Desk.follow" s_3 A.a_3 A.d_3
 b_3:bv K A.d_3 ["self","line"] []
 f_19:Fun K "__init__" "Spoken.__init__" yX A.a_19 A.d_19
 b_19:bv K A.d_19 ["self","say"] []
 f_26:Fm K mg "_law_line" "_law_line" lC A.a_26 A.d_26 ["_law_head","_law_paper_here"]
 f_33:Fm K mg "_law_told" "_law_told" wK A.a_33 A.d_33 ["_law_desk","_law_cell","_law_head","_law_paper_here"]
 f_25:Fm K mg "_law_good" "_law_good" xj A.a_25 A.d_25 ["_law_rows","_law_books_here","_law_k","_law_count","_law_held","_law_paper_here"]
 f_47:Fm K mg "is_place" "is_place" zh A.a_47 A.d_47 ["count","place"]
 f_13:Fun K "has_place" "Row.has_place" yk A.a_13 A.d_13
 b_13:bv K A.d_13 ["self","count","place"] []
 f_63:Fm K mg "ways" "ways" yE A.a_63 A.d_63 ["place","many"]
 f_15:Fun K "place_paper" "Row.place_paper" yP A.a_15 A.d_15
 b_15:bv K A.d_15 ["self","count","place"] []
 f_48:Fm K mg "is_place_paper" "is_place_paper" xv A.a_48 A.d_48 ["turns","thing"]
 f_59:Fm K mg "place_terms" "place_terms" za A.a_59 A.d_59 ["stamper","count","place","paper"]
 f_58:Fm K mg "place_mark" "place_mark" xZ A.a_58 A.d_58 ["stamper","count","place","paper"]
 f_57:Fm K mg "place_answer" "place_answer" yW A.a_57 A.d_57 ["stamper","head","place","paper"]
 f_22:Fm K mg "_law_agree" "_law_agree" xt A.a_22 A.d_22 ["_law_stamper_here","_law_one","_law_other","_law_rows"]
 f_53:Fm K mg "law" "law" lK A.a_53 A.d_53 ["_law_script"]
 z_ValueError:mg "ValueError"=none
 z_all:mg "all"=none
 z_bool:mg "bool"=none
 z_int:mg "int"=none
 z_isinstance:mg "isinstance"=none
 z_len:mg "len"=none
 z_list:mg "list"=none
 z_min:mg "min"=none
 z_range:mg "range"=none
 z_reversed:mg "reversed"=none
 z_str:mg "str"=none
 z_tuple:mg "tuple"=none
 z_zip:mg "zip"=none
 c_MOST_BITS:∃t,mg "MOST_BITS"=some (.int 60 t)
 c_MOST_PARTS:∃t,mg "MOST_PARTS"=some (.int 8 t)
 kc_64:A.d_64.code=.ref A.k_64
 kc_36:A.d_36.code=.ref A.k_36
 kc_31:A.d_31.code=.ref A.k_31
 kc_26:A.d_26.code=.ref A.k_26
 kc_53:A.d_53.code=.ref A.k_53
 mc_Elder:mg "Elder"=some (.ref A.c_Elder)
 eo_Elder:cb K A.c_Elder
 mc_Unsealed:mg "Unsealed"=some (.ref A.c_Unsealed)
 eo_Unsealed:cb K A.c_Unsealed
 mc_NoPaper:mg "NoPaper"=some (.ref A.c_NoPaper)
 eo_NoPaper:cb K A.c_NoPaper
 mc_NoPlace:mg "NoPlace"=some (.ref A.c_NoPlace)
 eo_NoPlace:cb K A.c_NoPlace
 mc_Broken:mg "Broken"=some (.ref A.c_Broken)
 eo_Broken:cb K A.c_Broken
 mc_Parted:mg "Parted"=some (.ref A.c_Parted)
 eo_Parted:cb K A.c_Parted
 mc_Silent:mg "Silent"=some (.ref A.c_Silent)
 eo_Silent:cb K A.c_Silent
 mc_StampError:mg "StampError"=some (.ref A.c_StampError)
 eo_StampError:cb K A.c_StampError
 er_Elder:cQ K A.c_Elder
 er_Unsealed:cQ K A.c_Unsealed
 er_NoPaper:cQ K A.c_NoPaper
 er_NoPlace:cQ K A.c_NoPlace
 er_Silent:cQ K A.c_Silent
 eg_Elder:cK K A.c_Elder
 eg_Unsealed:cK K A.c_Unsealed
 eg_NoPaper:cK K A.c_NoPaper
 eg_NoPlace:cK K A.c_NoPlace
 eg_Broken:cK K A.c_Broken
 eg_Parted:cK K A.c_Parted
 eg_Silent:cK K A.c_Silent
 ef_Broken_came:HT.gi K A.c_Broken "came"
 ef_Broken_due:HT.gi K A.c_Broken "due"
 ef_Parted_came:HT.gi K A.c_Parted "came"
 ef_Parted_due:HT.gi K A.c_Parted "due"
 em_Broken:sW K A.c_Broken A.a_0
 em_Parted:sW K A.c_Parted A.a_7
 sb_Elder_StampError:eG K A.c_Elder A.c_StampError=some true
 sb_Unsealed_StampError:eG K A.c_Unsealed A.c_StampError=some true
 sb_NoPaper_StampError:eG K A.c_NoPaper A.c_StampError=some true
 sb_NoPlace_StampError:eG K A.c_NoPlace A.c_StampError=some true
 sb_Broken_StampError:eG K A.c_Broken A.c_StampError=some true
 sb_Parted_StampError:eG K A.c_Parted A.c_StampError=some true
 sb_Silent_StampError:eG K A.c_Silent A.c_StampError=some true
 ki_Elder_ValueError:NI K (.ref A.c_Elder) (.type "ValueError")=some true
 ki_Unsealed_ValueError:NI K (.ref A.c_Unsealed) (.type "ValueError")=some true
 ki_NoPaper_ValueError:NI K (.ref A.c_NoPaper) (.type "ValueError")=some true
 ki_NoPlace_ValueError:NI K (.ref A.c_NoPlace) (.type "ValueError")=some true
 ki_Broken_ValueError:NI K (.ref A.c_Broken) (.type "ValueError")=some true
 ki_Parted_ValueError:NI K (.ref A.c_Parted) (.type "ValueError")=some true
 ki_Silent_ValueError:NI K (.ref A.c_Silent) (.type "ValueError")=some true
 mc_Numbers:mg "Numbers"=some (.ref A.c_Numbers)
 cl_Numbers:Cls K A.c_Numbers
 na_Numbers_given:cO K A.c_Numbers "given"
 mc_Row:mg "Row"=some (.ref A.c_Row)
 cl_Row:Cls K A.c_Row
 na_Row_stamper:cO K A.c_Row "stamper"
 na_Row_entries:cO K A.c_Row "entries"
 na_Row_tops:cO K A.c_Row "tops"
 mc_Desk:mg "Desk"=some (.ref A.c_Desk)
 cl_Desk:Cls K A.c_Desk
 na_Desk_stamper:cO K A.c_Desk "stamper"
 na_Desk_bits:cO K A.c_Desk "bits"
 na_Desk_asks_seal:cO K A.c_Desk "asks_seal"
 na_Desk_held:cO K A.c_Desk "held"
 mc_Spoken:mg "Spoken"=some (.ref A.c_Spoken)
 cl_Spoken:Cls K A.c_Spoken
 na_Spoken_answerer:cO K A.c_Spoken "answerer"
 me_Row_add:dR K A.c_Row "add" A.a_9
 me_Row_size:dR K A.c_Row "size" A.a_16
 me_Row_top_of:dR K A.c_Row "top_of" A.a_17
 me_Row_top_term:dR K A.c_Row "top_term" A.a_18
 me_Row_has_elder:dR K A.c_Row "has_elder" A.a_12
 me_Row_growth_marks:dR K A.c_Row "growth_marks" A.a_10
 me_Row_growth_paper:dR K A.c_Row "growth_paper" A.a_11
 me_Desk_check_new:dR K A.c_Desk "check_new" A.a_2
 me_Desk_hear:dR K A.c_Desk "hear" A.a_4
 me_Spoken_growth:dR K A.c_Spoken "growth" A.a_20
 me_Spoken_newest:dR K A.c_Spoken "newest" A.a_21
 me_Desk_follow:dR K A.c_Desk "follow" A.a_3
 me_Row_has_place:dR K A.c_Row "has_place" A.a_13
 me_Row_place_paper:dR K A.c_Row "place_paper" A.a_15
 me_Row_mark_at:dR K A.c_Row "mark_at" A.a_14
 me_Numbers_number_of:dR K A.c_Numbers "number_of" A.a_6
 mk_Numbers:Mk K A.c_Numbers A.a_5
 mk_Row:Mk K A.c_Row A.a_8
 mk_Spoken:Mk K A.c_Spoken A.a_19
 mk_Desk:Mk K A.c_Desk A.a_1
def zT (A:Adr)(H:Hp):Prop:=H A.t_64=some (.tbl #[])/\H A.t_36=some (.tbl #[])/\H A.t_31=some (.tbl #[])/\H A.t_26=some (.tbl #[])/\H A.t_53=some (.tbl #[])/\([A.t_64,A.t_36,A.t_31,A.t_26,A.t_53]:List Addr).Nodup
theorem Jg:eS ["term"] ["term"] [] fD.scope:=⟨rfl,rfl,rfl,by decide+kernel,rfl,rfl,by decide+kernel,by decide+kernel,by decide+kernel,by decide+kernel,by decide+kernel⟩
theorem FQ:eS ["term","numbers"] ["term"] ["numbers"] gD.scope:=⟨rfl,rfl,rfl,by decide+kernel,rfl,rfl,by decide+kernel,by decide+kernel,by decide+kernel,by decide+kernel,by decide+kernel⟩
theorem Jd:eS ["_law_term","_law_step","_law_known"] ["_law_term"] ["_law_step","_law_known"] gC.scope:=⟨rfl,rfl,rfl,by decide+kernel,rfl,rfl,by decide+kernel,by decide+kernel,by decide+kernel,by decide+kernel,by decide+kernel⟩
theorem IT:eS ["_law_question","_law_paper_here","_law_head"] ["_law_question"] ["_law_paper_here","_law_head"] eK.scope:=⟨rfl,rfl,rfl,by decide+kernel,rfl,rfl,by decide+kernel,by decide+kernel,by decide+kernel,by decide+kernel,by decide+kernel⟩
theorem HD:eS ["_law_head"] ["_law_head"] [] fI.scope:=⟨rfl,rfl,rfl,by decide+kernel,rfl,rfl,by decide+kernel,by decide+kernel,by decide+kernel,by decide+kernel,by decide+kernel⟩
theorem Iy:aF ["thing"] ["thing"] (au xk):=scF
theorem GR:aF ["thing"] ["thing"] (au yg):=scF
theorem HC:aF ["thing"] ["thing"] (au xa):=scF
theorem zR:aF ["part","signs"] ["part"] (au yj):=scF
theorem FC:aF ["term"] ["term"] (au yb):=scF
theorem Jv:aF ["self","term"] ["self","term"] (au s_6):=scF
theorem FZ:aF [] [] (au lh):=scF
theorem Kl:aF ["self"] ["self"] (au s_5):=scF
theorem zS:aF ["numbers"] [] (au lB):=scF
theorem tN:aF ["_law_step","_law_known","_law_stamp"] ["_law_step"] (au lm):=scF
theorem GY:aF ["_law_cell"] ["_law_cell"] (au xE):=scF
theorem Io:aF ["_law_script","_law_k"] ["_law_script","_law_k"] (au yV):=scF
theorem ib:aF ["_law_script","_law_size","_law_first","_law_books_here","_law_k","_law_cell","_law_cut","_law_behind"] ["_law_script"] (au xG):=scF
theorem JP:aF ["self","stamper"] ["self","stamper"] (au s_8):=scF
theorem KI:aF ["self","entry"] ["self","entry"] (au s_9):=scF
theorem tJ:aF ["_law_stamper_here","_law_entries","_law_row_here","_law_entry"] ["_law_stamper_here","_law_entries"] (au xM):=scF
theorem GN:aF ["thing"] ["thing"] (au wR):=scF
theorem HN:aF ["stamper"] ["stamper"] (au xr):=scF
theorem Ih:aF ["stamper"] ["stamper"] (au yS):=scF
theorem Le:aF ["self","stamper","bits","knows"] ["self","stamper","bits","knows"] (au s_1):=scF
theorem GS:aF ["thing"] ["thing"] (au xL):=scF
theorem FG:aF ["count","elder"] ["count","elder"] (au yp):=scF
theorem Hn:aF ["self"] ["self"] (au xN):=scF
theorem Gn:aF ["self","count","elder"] ["self","count","elder"] (au yc):=scF
theorem Gf:aF ["many"] ["many"] (au xY):=scF
theorem zC:aF ["self","first","many","ahead"] ["self","first","many"] (au zk):=scF
theorem Af:aF ["self","first","many","part"] ["self","first","many"] (au xO):=scF
theorem Gd:aF ["self","count"] ["self","count"] (au wW):=scF
theorem zt:aF ["self","first","many","elder","ahead"] ["self","first","many","elder"] (au xQ):=scF
theorem Jm:aF ["self","count","elder"] ["self","count","elder"] (au yH):=scF
theorem iw:aF ["_law_cell","_law_rows","_law_books_here","_law_k","_law_count","_law_held","_law_size","_law_elder","_law_paper_here","_law_spoil","_law_spot"] ["_law_cell","_law_rows","_law_books_here","_law_k","_law_count","_law_held"] (au wM):=scF
theorem HK:aF ["thing"] ["thing"] (au wN):=scF
theorem IV:aF ["thing"] ["thing"] (au xc):=scF
theorem Jr:aF ["self","head"] ["self","head"] (au s_2):=scF
theorem gZ:aF ["count","elder","turns","early","rest","ahead"] ["count","elder"] (au yB):=scF
theorem HR:aF ["many","thing"] ["many","thing"] (au yJ):=scF
theorem Hz:aF ["turn","own","aside"] ["turn","own","aside"] (au zm):=scF
theorem ia:aF ["stamper","count","elder","steps","younger","older","top","older_top","step"] ["stamper","count","elder","steps"] (au xf):=scF
theorem ji:aF ["turns","marks","steps","first","last","turn"] ["turns","marks"] (au yw):=scF
theorem tY:aF ["stamper","count","elder","marks","turns","younger"] ["stamper","count","elder","marks"] (au mW):=scF
theorem JJ:aF ["self","due","came"] ["self","due","came"] (au s_0):=scF
theorem uq:aF ["stamper","head","elder","marks","terms","came"] ["stamper","head","elder","marks"] (au nA):=scF
theorem Lk:aF ["self","due","came"] ["self","due","came"] (au s_7):=scF
theorem Ep:aF ["self","head","marks","came"] ["self","head","marks"] (au s_4):=scF
theorem GZ:aF ["answer"] ["answer"] (au nP):=scF
theorem IM:aF ["self"] ["self"] (au xT):=scF
theorem IL:aF ["self","count","elder"] ["self","count","elder"] (au yr):=scF
theorem Ck:aF ["self","line","head"] ["self","line"] (au s_3):=scF
theorem FR:aF ["self","say"] ["self","say"] (au yX):=scF
theorem Ae:aF ["_law_head","_law_paper_here","_law_say"] ["_law_head","_law_paper_here"] (au lC):=scF
theorem kM:aF ["_law_desk","_law_cell","_law_head","_law_paper_here","_law_told_here","e"] ["_law_desk","_law_cell","_law_head","_law_paper_here"] (au wK):=scF
theorem GP:aF ["_law_rows","_law_books_here","_law_k","_law_count","_law_held","_law_paper_here"] ["_law_rows","_law_books_here","_law_k","_law_count","_law_held","_law_paper_here"] (au xj):=scF
theorem GT:aF ["count","place"] ["count","place"] (au zh):=scF
theorem Hm:aF ["self","count","place"] ["self","count","place"] (au yk):=scF
theorem ig:aF ["place","many","turns","first","rest","ahead"] ["place","many"] (au yE):=scF
theorem gG:aF ["self","count","place","marks","first","many","turn","ahead"] ["self","count","place"] (au yP):=scF
theorem IB:aF ["turns","thing"] ["turns","thing"] (au xv):=scF
theorem ph:aF ["stamper","count","place","paper","turns","terms","step"] ["stamper","count","place","paper"] (au za):=scF
theorem GL:aF ["stamper","count","place","paper"] ["stamper","count","place","paper"] (au xZ):=scF
theorem zr:aF ["stamper","head","place","paper","came"] ["stamper","head","place","paper"] (au yW):=scF
theorem mn:aF ["_law_stamper_here","_law_one","_law_other","_law_rows","_law_count","_law_place","_law_papers","_law_entry"] ["_law_stamper_here","_law_one","_law_other","_law_rows"] (au xt):=scF
theorem dB:aF ["_law_script","_law_stamper_here","_law_books_here","_law_rows","_law_desk","_law_held","_law_heads","_law_j","_law_k","_law_count","_law_mark","_law_head","_law_more","_law_paper_here","_law_told_here","_law_at"] ["_law_script"] (au lK):=scF
inductive Dat where
 |non
 |bl (b:Bool)
 |int (i:Int)
 |str (z:Str)
 |lst (ds:List Dat)
 |tup (ds:List Dat)
 |dic
mutual
inductive eM (H:Hp):V->Dat->Prop
 |non:eM H .non .non
 |bl (b):eM H (.bl b) (.bl b)
 |int (i):eM H (.int i) (.int i)
 |str (z):eM H (.str z) (.str z)
 |lst {a xs ds}:H a=some (.lst xs)->DatWs H xs ds->eM H (.ref a) (.lst ds)
 |tup {a xs ds}:H a=some (.tup xs)->DatWs H xs ds->eM H (.ref a) (.tup ds)
 |dic {a}:((∃kvs,H a=some (.dK kvs))\/∃kvs,H a=some (.dT kvs))->eM H (.ref a) .dic
inductive DatWs (H:Hp):List V->List Dat->Prop
 |nil:DatWs H [] []
 |cons {x xs d ds}:eM H x d->DatWs H xs ds->DatWs H (x::xs) (d::ds)
end
mutual
def Lf:Dat->Tw
 |.non=>.none
 |.bl b=>.bool b
 |.int i=>.int i
 |.str z=>.str z
 |.lst ds=>.list (toPys ds)
 |.tup ds=>.tuple (toPys ds)
 |.dic=>.none
def toPys:List Dat->List Tw
 |[]=>[]
 |d::r=>Lf d::toPys r
end
def dJ (z:Str):Bool:=z.cps.all (·<128)
mutual
def okD:Dat->Bool
 |.str z=>dJ z&&decide (z.length<=100000)
 |.lst ds=>okDs ds
 |.tup ds=>okDs ds
 |.dic=>false
 |.non=>true
 |.bl _=>true
 |.int _=>true
def okDs:List Dat->Bool
 |[]=>true
 |d::r=>okD d&&okDs r
end
def yq:Dat->Bool
 |.int _=>true
 |_=>false
def gS:Dat->Bool
 |.int i=>decide (0<=i/\i<10^60)
 |.str _=>true
 |_=>false
def gB (K:pv)(A:Adr):Sp:=fun vs H Q _=>∃v d,vs=[v]/\eM H v d/\Q (.bl (yq d)) H
def ir (K:pv)(A:Adr):Sp:=fun vs H Q _=>∃v d,vs=[v]/\eM H v d/\Q (.bl (gS d)) H
def mV:Key->Dat
 |.inl i=>.int i
 |.inr z=>.str z
def szK:Key->Nat
 |.inl _=>62
 |.inr z=>z.length+62
def okP:Key->Bool
 |.inl i=>decide (0<=i/\i<10^60)
 |.inr z=>dJ z&&decide (z.length<=100000)
def GF:Key->Bool
 |.inr _=>true
 |.inl _=>false
def okT (k:List Key):Bool:=decide (1<=k.length/\k.length<=8)&&(k.head?.map GF).getD false&&k.all okP
def szT (k:List Key):Nat:=(k.map szK).sum
def qu (k:List Key):Key->Prop
 |.inl i=>0<=i/\i<10^60
 |.inr z=>dJ z=true/\z.length<=szT k
def cT:Key->Str
 |.inl i=>toString i++";"
 |.inr z=>toString (z.length:Int)++":"++z
def bU:List Key->Str
 |[]=>Nw
 |x::r=>cT x++bU r
def lW (H H':Hp):Prop:=∀b o,H b=some o->(∀ps,o≠.tbl ps)->H' b=some o
def bK (kvs:List (List Key×Key)):List (List Key×V):=kvs.map fun p=>(p.1,kV p.2)
def cf (kvs:List (List Key×Key))(k:List Key):Option Key:=(kvs.find? fun p=>decide (p.1=k)).map (·.2)
def iK:Key->Prop
 |.inl i=>0<=i/\i<10^60
 |.inr z=>dJ z=true/\z.length<=62
def gj (kvs:List (List Key×Key)):Prop:=∀p∈kvs,iK p.2
structure gH (A:Adr)(H:Hp)(x d:Addr)(kvs:List (List Key×V)):Prop where
 ob:∃dx,H x=some (.ins A.c_Numbers dx [("given",.ref d)])
 di:H d=some (.dT kvs)
def aR (b:Addr)(H H':Hp):Prop:=∀x o,x≠b->H x=some o->H' x=some o
def Lin (a c:Int)(kvs:List (List Key×Key)):Prop:=∀(i:Nat)(p:List Key×Key),kvs[i]?=some p->p.2=Oe (a*(i:Int)+c)
inductive Stp (A:Adr)(H:Hp)(f b:Addr)(g:gOp)(n:Nat):Prop
 |wri (hc:df H f fD [] []) (hb:∃y,H b=some (.own y)) (hg:g=fun k=>some (.inr (bU k)))
 |cnt (q x:Addr) (kvs:List (List Key×Key)) (hc:df H f gD [q] [.ref x]) (num:gH A H x b (bK kvs)) (hl:kvs.length<=n) (hs:gj kvs) (st:Lin 1 0 kvs) (hg:g=cf kvs)
 |sur (q0 q1:Addr) (j:Int) (h0:1<=j) (h1:j<1000) (kvs:List (List Key×Key)) (hc:df H f gC [q0,q1] [.int j,.ref b]) (hb:H b=some (.dT (bK kvs))) (hl:kvs.length<=n) (hs:gj kvs) (st:Lin j 5 kvs) (hg:g=cf kvs)
inductive Mk0 (A:Adr)(H:Hp)(f:Addr):Prop
 |wri (hc:df H f fD [] [])
 |sta (b:Addr) (g:gOp) (s:Stp A H f b g 0)
def Sub (g g':gOp):Prop:=∀k v,g k=some v->g' k=some v
def Ext (g:gOp)(h:List Key->Key):Prop:=∀k v,g k=some v->h k=v
abbrev PK (H:Hp):List Addr->List (List Key)->Prop:=Paired (fun(p:Addr)(k:List Key)=>H p=some (.tup (k.map kV))/\okT k=true)
def mK (K:pv)(A:Adr):Sp:=fun vs H Q _=>∃(p:Addr)(k:List Key),vs=[.ref p]/\H p=some (.tup (k.map kV))/\okT k=true/\∀H',aw H H'->Q (.bl true) H'
def pW (K:pv)(A:Adr):Sp:=fun vs H Q _=>∃x:Key,vs=[kV x]/\okP x=true/\Q (.str (cT x)) H
def lQ (K:pv)(A:Adr):Sp:=fun vs H Q _=>∃(p:Addr)(k:List Key),vs=[.ref p]/\H p=some (.tup (k.map kV))/\okT k=true/\∀H',aw H H'->Q (.str (bU k)) H'
def tG (K:pv)(A:Adr):Sp:=lQ K A
def jv (kvs:List (List Key×V))(kk:List Key)(d:V):V:=(cu kvs kk).getD d
def jj (H:Hp)(b:Addr)(kvs:List (List Key×V))(kk:List Key)(d:V):Hp:=if (cu kvs kk).isSome=true then H else upd H b (.dT (cp kvs kk d))
def tP (K:pv)(A:Adr):Sp:=fun vs H Q _=>∃x dx,vs=[.ref x]/\H x=some (.ins A.c_Numbers dx [])/\∀d,H d=none->Q .non (upd (upd H d (.dT [])) x (.ins A.c_Numbers dx [("given",.ref d)]))
def uP (K:pv)(A:Adr):Sp:=fun vs H Q _=>∃(x d p:Addr)(kvs:List (List Key×V))(k:List Key),vs=[.ref x,.ref p]/\gH A H x d kvs/\kvs.length<=50000/\H p=some (.tup (k.map kV))/\okT k=true/\∀H',aw H H'->Q (jv kvs k (.int kvs.length)) (jj H' d kvs k (.int kvs.length))
def uN (K:pv)(A:Adr):Sp:=fun vs H Q _=>∃(x d p:Addr)(kvs:List (List Key×V))(k:List Key),vs=[.ref p,.ref x]/\gH A H x d kvs/\kvs.length<=50000/\H p=some (.tup (k.map kV))/\okT k=true/\∀H',aw H H'->Q (jv kvs k (.int kvs.length)) (jj H' d kvs k (.int kvs.length))
def bA (P:Addr)(H H':Hp):Prop:=∀b o,H b=some o->b≠P->H' b=some o
def tW (K:pv)(A:Adr):Sp:=fun vs H Q _=>∃(p b:Addr)(j:Int)(k:List Key)(kvs:List (List Key×V)),vs=[.ref p,.int j,.ref b]/\0<=j/\j<1000/\H p=some (.tup (k.map kV))/\H b=some (.dT kvs)/\kvs.length<=50000/\Q (jv kvs k (.int (j*(kvs.length:Int)+5))) (jj H b kvs k (.int (j*(kvs.length:Int)+5)))
def enK (e:Key):Prop:=okP e=true/\szK e<=70
def aj (n:Nat):Nat:=2^Qh (n- 1)
def gN (h:List Key->Key):Nat->List Key->List Key
 |0,_=>[.inr "void"]
 |n+1,es=>match es with
  |[]=>[.inr "void"]
  |[e]=>[.inr "entry",e]
  |es=>[.inr "joint",h (gN h n (es.take (aj es.length))),h (gN h n (es.drop (aj es.length)))]
def bh (h:List Key->Key)(es:List Key):List Key:=gN h es.length es
def szB (m:Nat):Nat:=400*(m- 1)+200
def kG (g:gOp)(es:List Key)(kvs:List (List Key×Key)):Prop:=∀k v,cf kvs k=some v->∃a m:Nat,k=[.inl (a:Int),.inl (m:Int)]/\a+m<=es.length/\okP v=true/\szK v<=szB m/\∀h,Ext g h->v=h (bh h ((es.drop a).take m))
structure dI (A:Adr)(H:Hp)(x f L D:Addr)(es:List Key)(kvs:List (List Key×Key)):Prop where
 ob:∃dx,H x=some (.ins A.c_Row dx [("stamper",.ref f),("entries",.ref L),("tops",.ref D)])
 hl:H L=some (.lst (es.map kV))
 hd:H D=some (.dT (bK kvs))
 en:∀e∈es,enK e
 le:es.length<=60
def bI (b D:Addr)(H H':Hp):Prop:=∀x o,x≠b->x≠D->H x=some o->H' x=some o
def hV (K:pv)(A:Adr):Sp:=fun vs H Q _=>∃m:Nat,vs=[.int (m:Int)]/\2<=m/\m<=1000/\Q (.int ((aj m:Nat):Int)) H
def km (K:pv)(A:Adr):Sp:=fun vs H Q _=>∃i:Int,vs=[.int i]/\0<=i/\i<=1000/\Q (.bl true) H
def lZ (K:pv)(A:Adr):Sp:=fun vs H Q _=>∃c p:Int,vs=[.int c,.int p]/\0<=p/\p<c/\c<=1000/\Q (.bl true) H
def mH (K:pv)(A:Adr):Sp:=fun vs H Q _=>∃c p:Int,vs=[.int c,.int p]/\0<=p/\p<=c/\c<=1000/\Q (.bl true) H
def kL (K:pv)(A:Adr):Sp:=fun vs H Q _=>∃(f b:Addr)(g:gOp)(n:Nat),vs=[.ref f]/\Stp A H f b g n/\n<=40000/\∀(L p1 p2:Addr)(v:Key)(g':gOp)(H':Hp),aR b H H'->Stp A H' f b g' (n+1)->Sub g g'->H' L=some (.lst [.ref p1,.ref p2])->H' p2=some (.tup [.str "row",.int 0,kV v])->okP v=true->szK v<=200->(∀h,Ext g' h->v=h (bh h []))->Q (.ref L) H'
def dh (h:List Key->Key)(es:List Key):List Key:=[.inr "row",.inl (es.length:Int),h (bh h es)]
def mQ (K:pv)(A:Adr):Sp:=fun vs H Q _=>∃(f b:Addr)(g:gOp)(n:Nat),vs=[.ref f]/\Stp A H f b g n/\n<=40000/\∀(p:Addr)(v:Key)(g':gOp)(H':Hp),aR b H H'->Stp A H' f b g' (n+2)->Sub g g'->H' p=some (.tup [.int 0,kV v])->okP v=true->(∀h,Ext g' h->v=h (dh h []))->Q (.ref p) H'
def MkQ (A:Adr)(P:Addr)(H:Hp)(Q:VK):Prop:=∀(f:Addr)(H':Hp),bA P H H'->Mk0 A H' f->Q (.ref f) H'
def pb (K:pv)(A:Adr):Sp:=fun vs H Q _=>vs=[]/\H A.t_64=some (.tbl #[])/\MkQ A A.t_64 H Q
def oZ (K:pv)(A:Adr):Sp:=fun vs H Q _=>vs=[]/\H A.t_36=some (.tbl #[])/\MkQ A A.t_36 H Q
def pN (K:pv)(A:Adr):Sp:=fun vs H Q _=>∃j:Int,vs=[.int j]/\1<=j/\j<1000/\H A.t_31=some (.tbl #[])/\MkQ A A.t_31 H Q
def Ad (A:Adr)(H:Hp):Prop:=H A.t_26=some (.tbl #[])/\H A.t_53=some (.tbl #[])
def pE (K:pv)(A:Adr):Sp:=fun vs H Q _=>∃c:Int,vs=[.int c]/\zT A H/\∀(f:Addr)(H':Hp),lW H H'->Ad A H'->Mk0 A H' f->Q (.ref f) H'
def ul (K:pv)(A:Adr):Sp:=fun vs H Q _=>∃x dx f,vs=[.ref x,.ref f]/\H x=some (.ins A.c_Row dx [])/\∀(L D:Addr)(H':Hp),(∀z o,z≠x->H z=some o->H' z=some o)->H L=none->H D=none->L≠D->H' x=some (.ins A.c_Row dx [("stamper",.ref f),("entries",.ref L),("tops",.ref D)])->H' L=some (.lst [])->H' D=some (.dT [])->Q .non H'
def uo (K:pv)(A:Adr):Sp:=fun vs H Q _=>∃(x f L D:Addr)(es:List Key)(kvs:List (List Key×Key))(e:Key),vs=[.ref x,kV e]/\dI A H x f L D es kvs/\enK e/\es.length<60/\Q (.int (es.length:Int)) (upd H L (.lst ((es++[e]).map kV)))
def kH (K:pv)(A:Adr):Sp:=fun vs H Q _=>∃(x f L D:Addr)(es:List Key)(kvs:List (List Key×Key)),vs=[.ref x]/\dI A H x f L D es kvs/\Q (.int (es.length:Int)) H
def pf (K:pv)(A:Adr):Sp:=fun vs H Q _=>∃(x f L D:Addr)(es:List Key)(kvs:List (List Key×Key))(c p:Int),vs=[.ref x,.int c,.int p]/\dI A H x f L D es kvs/\0<=p/\p<c/\c<=es.length/\Q (.bl true) H
def mw (K:pv)(A:Adr):Sp:=fun vs H Q _=>∃(x f L D:Addr)(es:List Key)(kvs:List (List Key×Key))(c p:Int),vs=[.ref x,.int c,.int p]/\dI A H x f L D es kvs/\0<=p/\p<=c/\c<=es.length/\Q (.bl true) H
structure cV (A:Adr)(H:Hp)(x f L D b:Addr)(es:List Key)(kvs:List (List Key×Key))(g:gOp)(n:Nat):Prop where
 r:dI A H x f L D es kvs
 s:Stp A H f b g n
 c:kG g es kvs
 db:D≠b
 kl:kvs.length<=n
def dS (K:pv)(A:Adr)(j:Nat):Sp:=fun vs H Q _=>∃(x f L D b:Addr)(es:List Key)(kvs:List (List Key×Key))(g:gOp)(n a m:Nat),vs=[.ref x,.int (a:Int),.int (m:Int)]/\cV A H x f L D b es kvs g n/\a+m<=es.length/\m<j/\n+2*m+1<=40000/\
 ∀(v:Key)(kvs':List (List Key×Key))(g':gOp)(H':Hp),bI b D H H'->cV A H' x f L D b es kvs' g' (n+(2*(m- 1)+1))->Sub g g'->okP v=true->szK v<=szB m->(∀h,Ext g' h->v=h (bh h ((es.drop a).take m)))->Q (kV v) H'
def pB (K:pv)(A:Adr)(j:Nat):Sp:=fun vs H Q _=>∃(x f L D b:Addr)(es:List Key)(kvs:List (List Key×Key))(g:gOp)(n a m:Nat),vs=[.ref x,.int (a:Int),.int (m:Int)]/\cV A H x f L D b es kvs g n/\a+m<=es.length/\m<=j/\n+2*m+1<=40000/\
 ∀(p:Addr)(k:List Key)(kvs':List (List Key×Key))(g':gOp)(H':Hp),bI b D H H'->cV A H' x f L D b es kvs' g' (n+2*(m- 1))->Sub g g'->H' p=some (.tup (k.map kV))->okT k=true->szT k+62<=szB m->(∀h,Ext g' h->k=bh h ((es.drop a).take m))->Q (.ref p) H'
def jq (K:pv)(A:Adr):Sp:=fun vs H Q _=>∃(x f L D b:Addr)(es:List Key)(kvs:List (List Key×Key))(g:gOp)(n c:Nat),vs=[.ref x,.int (c:Int)]/\cV A H x f L D b es kvs g n/\c<=es.length/\n+200<=40000/\
 ∀(v:Key)(kvs':List (List Key×Key))(g':gOp)(H':Hp),bI b D H H'->cV A H' x f L D b es kvs' g' (n+200)->Sub g g'->okP v=true->(∀h,Ext g' h->v=h (dh h (es.take c)))->Q (kV v) H'
def fZ (K:pv)(A:Adr):Sp:=fun vs H Q _=>∃(a:Addr)(ns:List Int)(k:Int),vs=[.ref a,.int k]/\SqL K H a (ns.map V.int)/\0<=k/\∀z:Int,Q (.int z) H
structure Cur (g:gOp)(c:List Key)(v:Key):Prop where
 ok:okP v=true
 sz:szK v<=szB c.length
 eq:∀h,Ext g h->v=h (bh h c)
def grS:Nat->List Key->Nat->List (List Key)
 |0,es,_=>[es]
 |n+1,es,e=>if e=0\/es.length<=e then[es]else if e<=aj es.length then grS n (es.take (aj es.length)) e++[es.drop (aj es.length)]else es.take (aj es.length)::grS n (es.drop (aj es.length)) (e- aj es.length)
def gm (es:List Key)(e:Nat):List (List Key):=if es.length=0 then[]else grS es.length es e
abbrev Mks (g:gOp):List (List Key)->List Key->Prop:=Paired (Cur g)
def trF:Nat->Nat->Nat->List Int
 |0,_,_=>[]
 |n+1,m,e=>if e=0\/m<=e then[]else if e<=aj m then 0::trF n (aj m) e else 1::trF n (m- aj m) (e- aj m)
def jo (K:pv)(A:Adr)(j:Nat):Sp:=fun vs H Q _=>∃(x f L D b:Addr)(es:List Key)(kvs:List (List Key×Key))(g:gOp)(n a m e:Nat),vs=[.ref x,.int (a:Int),.int (m:Int),.int (e:Int)]/\cV A H x f L D b es kvs g n/\a+m<=es.length/\1<=m/\e<=m/\m<j/\n+2*m<=39000/\
 ∀(p:Addr)(ks:List Key)(kvs':List (List Key×Key))(g':gOp)(H':Hp),bI b D H H'->cV A H' x f L D b es kvs' g' (n+2*m)->Sub g g'->H' p=some (.tup (ks.map kV))->Mks g' (grS m ((es.drop a).take m) e) ks->Q (.ref p) H'
def lR (K:pv)(A:Adr):Sp:=fun vs H Q _=>∃(x f L D b:Addr)(es:List Key)(kvs:List (List Key×Key))(g:gOp)(n c e:Nat),vs=[.ref x,.int (c:Int),.int (e:Int)]/\cV A H x f L D b es kvs g n/\c<=es.length/\e<=c/\n+200<=39000/\
 ∀(p:Addr)(ks:List Key)(kvs':List (List Key×Key))(g':gOp)(H':Hp),bI b D H H'->cV A H' x f L D b es kvs' g' (n+200)->Sub g g'->H' p=some (.tup (ks.map kV))->Mks g' (gm (es.take c) e) ks->Q (.ref p) H'
def pP (K:pv)(A:Adr):Sp:=fun vs H Q _=>∃(p:Addr)(c:Nat)(v:Key),vs=[.ref p]/\H p=some (.tup [.int (c:Int),kV v])/\c<=1000/\okP v=true/\Q (.bl true) H
def kN (K:pv)(A:Adr):Sp:=fun vs H Q _=>∃(p:Addr)(c:Nat)(v:Key),vs=[.ref p]/\H p=some (.tup [.int (c:Int),kV v])/\c<=1000/\okP v=true/\Q .non H
def pK (K:pv)(A:Adr):Sp:=fun vs H Q _=>∃c e:Nat,vs=[.int (c:Int),.int (e:Int)]/\e<=c/\c<=1000/\∀(L:Addr)(H':Hp),aw H H'->H' L=some (.lst ((trF c c e).map V.int))->Q (.ref L) H'
def jtT (t:Int)(o a:Key):List Key:=if t=0 then[.inr "joint",o,a]else[.inr "joint",a,o]
def kA (K:pv)(A:Adr):Sp:=fun vs H Q _=>∃(t:Int)(o a:Key),vs=[.int t,kV o,kV a]/\∀p,H p=none->Q (.ref p) (upd H p (.tup ((jtT t o a).map kV)))
def cm:Nat->Nat->Nat->List Int
 |0,_,_=>[]
 |n+1,r,p=>if r<=1 then[]else if p<aj r then 0::cm n (aj r) p else 1::cm n (r- aj r) (p- aj r)
def eD:Nat->List Key->Nat->List (List Key)
 |0,_,_=>[]
 |n+1,es,p=>if es.length<=1 then[]else if p<aj es.length then es.drop (aj es.length)::eD n (es.take (aj es.length)) p else es.take (aj es.length)::eD n (es.drop (aj es.length)) (p- aj es.length)
def ma (K:pv)(A:Adr):Sp:=fun vs H Q _=>∃c p:Nat,vs=[.int (p:Int),.int (c:Int)]/\p<c/\c<=1000/\∀(L:Addr)(H':Hp),H L=none->aw H H'->H' L=some (.lst ((cm c c p).map V.int))->Q (.ref L) H'
structure iz (H:Hp)(P T:Addr)(e:Key)(ks:List Key):Prop where
 hP:H P=some (.tup [kV e,.ref T])
 hT:H T=some (.tup (ks.map kV))
def mB (K:pv)(A:Adr):Sp:=fun vs H Q _=>∃(x f L D b:Addr)(es:List Key)(kvs:List (List Key×Key))(g:gOp)(n c p:Nat),vs=[.ref x,.int (c:Int),.int (p:Int)]/\cV A H x f L D b es kvs g n/\c<=es.length/\p<c/\n+200<=39000/\
 ∀(P T:Addr)(e:Key)(ks:List Key)(kvs':List (List Key×Key))(g':gOp)(H':Hp),bI b D H H'->cV A H' x f L D b es kvs' g' (n+200)->Sub g g'->iz H' P T e ks->es[p]?=some e->Mks g' (eD c (es.take c) p) ks->Q (.ref P) H'
def pq (K:pv)(A:Adr):Sp:=fun vs H Q _=>∃(L P T:Addr)(ts:List Int)(e:Key)(ks:List Key),vs=[.ref L,.ref P]/\H L=some (.lst (ts.map V.int))/\iz H P T e ks/\okP e=true/\(∀k∈ks,okP k=true)/\ks.length=ts.length/\ks.length<=500/\∀H',aw H H'->Q (.bl true) H'
structure qQ (A:Adr)(H:Hp)(f b P T:Addr)(es ks:List Key)(p:Nat)(e:Key)(g:gOp)(n:Nat):Prop where
 s:Stp A H f b g n
 hn:n+200<=40000
 l60:es.length<=60
 lt:p<es.length
 ge:es[p]?=some e
 en:enK e
 w:iz H P T e ks
 ms:Mks g (eD es.length es p) ks
def pI (K:pv)(A:Adr):Sp:=fun vs H Q _=>∃(f b P T:Addr)(es ks:List Key)(p:Nat)(e:Key)(g:gOp)(n:Nat),vs=[.ref f,.int (es.length:Int),.int (p:Int),.ref P]/\qQ A H f b P T es ks p e g n/\
 ∀(L pr:Addr)(qs:List V)(top:Key)(g':gOp)(H':Hp),aR b H H'->Stp A H' f b g' (n+130)->Sub g g'->H' L=some (.lst (qs++[.ref pr]))->H' pr=some (.tup [.str "row",.int (es.length:Int),kV top])->Cur g' es top->Q (.ref L) H'
def pY (K:pv)(A:Adr):Sp:=fun vs H Q _=>∃(f b P T:Addr)(es ks:List Key)(p:Nat)(e:Key)(g:gOp)(n:Nat),vs=[.ref f,.int (es.length:Int),.int (p:Int),.ref P]/\qQ A H f b P T es ks p e g n/\
 ∀(w:Key)(g':gOp)(H':Hp),aR b H H'->Stp A H' f b g' (n+131)->Sub g g'->(∀h,Ext g' h->w=h (dh h es))->Q (kV w) H'
def kI (K:pv)(A:Adr):Sp:=fun vs H Q _=>∃(f b hd P T:Addr)(es ks:List Key)(p:Nat)(e mk:Key)(g:gOp)(n:Nat),vs=[.ref f,.ref hd,.int (p:Int),.ref P]/\qQ A H f b P T es ks p e g n/\
 H hd=some (.tup [.int (es.length:Int),kV mk])/\okP mk=true/\(∀h,Ext g h->mk=h (dh h es))/\
 ∀(g':gOp)(H':Hp),aR b H H'->Stp A H' f b g' (n+131)->Sub g g'->Q (kV e) H'
def mkK (e:Key):Prop:=okP e=true/\szK e<=4000
def cZ (c:Int)(st:List (Int×Key))(i:Nat)(v:Key):List Key:=match st[i]? with
 |some x=>jtT x.1 v x.2
 |none=>[.inr "row",.inl c,v]
def fX (h:List Key->Key)(c:Int)(m:Key)(st:List (Int×Key)):Nat->List Key
 |0=>cZ c st 0 m
 |i+1=>cZ c st (i+1) (h (fX h c m st i))
def kF (h:List Key->Key)(c:Int)(m:Key)(st:List (Int×Key))(k:Nat):List (List Key):=(Qd k).map (fX h c m st)
def dC (h:List Key->Key)(m:Key)(st:List (Int×Key)):Nat->List (List Key)×Key
 |0=>([],m)
 |i+1=>match st[i]? with
  |some x=>if x.1=1 then((dC h m st i).1++[jtT x.1 (dC h m st i).2 x.2],h (jtT x.1 (dC h m st i).2 x.2))else dC h m st i
  |none=>dC h m st i
def lL (h:List Key->Key)(el:Nat)(m:Key)(st:List (Int×Key)):List Key:=[.inr "row",.inl (el:Int),if el=0 then h [.inr "void"]else(dC h m st st.length).2]
def uO (h:List Key->Key)(el:Nat)(m:Key)(st:List (Int×Key)):List (List Key):=(if el=0 then[[.inr "void"]]else(dC h m st st.length).1)++[lL h el m st]
def dl:List Int->Nat->Nat->List Key->List (Option Key)
 |[],lo,_,ks=>[ks[lo]?]
 |t::r,lo,hi,ks=>if t=1 then ks[lo]?::dl r (lo+1) hi ks else ks[hi- 1]?::dl r lo (hi- 1) ks
def dz (ts:List Int)(ks:List Key):List Key:=(dl ts 0 ks.length ks).map fun x=>x.getD (.inl 0)
def stR (ts:List Int)(ks:List Key):List (Int×Key):=(ts.zip ks).reverse
def inM (ts:List Int)(ks:List Key):Key:=((dz ts ks)[ts.length]?).getD (.inl 0)
abbrev stG (ts:List Int)(ks:List Key):List (Int×Key):=stR ts (dz ts ks)
abbrev bp (c el:Nat):List Int:=trF c c el
def yT (h:List Key->Key)(c el:Nat)(ks:List Key):List Key:=if c=0 then[.inr "row",.inl 0,h [.inr "void"]]else fX h c (inM (bp c el) ks) (stG (bp c el) ks) (bp c el).length
def oT (h:List Key->Key)(c el:Nat)(ks:List Key):List Key:=lL h el (inM (bp c el) ks) (stG (bp c el) ks)
def pH (c el:Nat):Nat:=if c=0 then 0 else(bp c el).length+1
def PpW (H:Hp)(p:Addr)(tp:Bool)(ks:List Key):Prop:=H p=some (if tp=true then .tup (ks.map kV)else .lst (ks.map kV))
def eI (c el:Nat)(tp:Bool)(ks:List Key):Bool:=tp&&decide (ks.length=pH c el)
def lM (K:pv)(A:Adr):Sp:=fun vs H Q _=>∃(n:Nat)(p:Addr)(tp:Bool)(ks:List Key),vs=[.int (n:Int),.ref p]/\PpW H p tp ks/\(∀k∈ks,okP k=true)/\ks.length<=500/\∀H',aw H H'->Q (.bl (tp&&decide (ks.length=n))) H'
def pX (K:pv)(A:Adr):Sp:=fun vs H Q _=>∃(L P:Addr)(ts:List Int)(ks:List Key),vs=[.ref L,.ref P]/\H L=some (.lst (ts.map V.int))/\H P=some (.tup (ks.map kV))/\ks.length=ts.length+1/\ts.length<=60/\(∀t∈ts,t=0\/t=1)/\
 ∀(R Z:Addr)(ps:List Addr)(H':Hp),aw H H'->H' R=some (.tup [kV (inM ts ks),.ref Z])->H' Z=some (.lst (ps.map V.ref))->ps.length=ts.length->(∀(j:Nat)(p:Addr)(x:Int×Key),ps[j]?=some p->(stG ts ks)[j]?=some x->H' p=some (.tup [.int x.1,kV x.2]))->Q (.ref R) H'
def Kt (A:Adr)(f b:Addr)(c el:Nat)(m:Key)(st:List (Int×Key))(g:gOp)(n:Nat)(H:Hp)(R:Addr->Addr->Hp->Prop):Prop:=
 ∀(Y O:Addr)(py po:List Addr)(ty to:List (List Key))(g':gOp)(H':Hp),aR b H H'->Stp A H' f b g' (n+130)->Sub g g'->H' Y=some (.lst (py.map V.ref))->H' O=some (.lst (po.map V.ref))->PK H' py ty->PK H' po to->ty.length=st.length+1->1<=to.length->to.length<=70->(∀k∈ty,szT k<=60000)->(∀k∈to,szT k<=60000)->(∀h,Ext g' h->ty=kF h c m st (st.length+1)/\to=uO h el m st)->R Y O H'
def pQ (K:pv)(A:Adr):Sp:=fun vs H Q _=>∃(f b R Z:Addr)(c el:Nat)(m:Key)(st:List (Int×Key))(ps:List Addr)(g:gOp)(n:Nat),vs=[.ref f,.int (c:Int),.int (el:Int),.ref R]/\Stp A H f b g n/\n+400<=40000/\1<=el/\el<=c/\c<=10/\H R=some (.tup [kV m,.ref Z])/\H Z=some (.lst (ps.map V.ref))/\ps.length=st.length/\(∀(j:Nat)(p:Addr)(x:Int×Key),ps[j]?=some p->st[j]?=some x->H p=some (.tup [.int x.1,kV x.2]))/\st.length<=10/\mkK m/\(∀x∈st,(x.1=0\/x.1=1)/\mkK x.2)/\
 Kt A f b c el m st g n H fun Y O H'=>∀p,H' p=none->Q (.ref p) (upd H' p (.tup [.ref Y,.ref O]))
def GTQ (A:Adr)(f b:Addr)(c el:Nat)(ks:List Key)(g:gOp)(n:Nat)(H:Hp)(Q:VK):Prop:=
 ∀(P Y O y o:Addr)(qy qo:List V)(ky ko:List Key)(g':gOp)(H':Hp),aR b H H'->Stp A H' f b g' (n+130)->Sub g g'->H' P=some (.tup [.ref Y,.ref O])->H' Y=some (.lst (qy++[.ref y]))->H' O=some (.lst (qo++[.ref o]))->H' y=some (.tup (ky.map kV))->H' o=some (.tup (ko.map kV))->okT ky=true->okT ko=true->szT ky<=60000->szT ko<=60000->(∀h,Ext g' h->ky=yT h c el ks/\ko=oT h c el ks)->Q (.ref P) H'
structure GrA (A:Adr)(H:Hp)(f b P:Addr)(c el:Nat)(tp:Bool)(ks:List Key)(g:gOp)(n:Nat):Prop where
 s:Stp A H f b g n
 hn:n+400<=40000
 ec:el<=c
 c10:c<=10
 w:PpW H P tp ks
 ke:∀k∈ks,mkK k
 kl:ks.length<=20
def pT (K:pv)(A:Adr):Sp:=fun vs H Q E=>∃(f b P:Addr)(c el:Nat)(tp:Bool)(ks:List Key)(g:gOp)(n:Nat),vs=[.ref f,.int (c:Int),.int (el:Int),.ref P]/\GrA A H f b P c el tp ks g n/\
 (eI c el tp ks=false->∀H',aw H H'->E (.ref A.c_NoPaper) none H')/\(eI c el tp ks=true->GTQ A f b c el ks g n H Q)
def tR (K:pv)(A:Adr):Sp:=fun vs H Q _=>∃(a:Addr)(x y:V),vs=[.ref a,x,y]/\H a=some (eO A.c_Broken a none)/\∀dx,H dx=none->Q .non (upd (upd (upd H a (eO A.c_Broken a (some dx))) dx (gR [("due",x)] dx)) dx (gR (dM "came" y [("due",x)]) dx))
def uR (K:pv)(A:Adr):Sp:=fun vs H Q _=>∃(a:Addr)(x y:V),vs=[.ref a,x,y]/\H a=some (eO A.c_Parted a none)/\∀dx,H dx=none->Q .non (upd (upd (upd H a (eO A.c_Parted a (some dx))) dx (gR [("due",x)] dx)) dx (gR (dM "came" y [("due",x)]) dx))
def pd (K:pv)(A:Adr):Sp:=fun vs H Q E=>∃(f b hd P:Addr)(c el:Nat)(tp:Bool)(ks:List Key)(mk:Key)(g:List Key->Option Key)(n:Nat),vs=[.ref f,.ref hd,.int (el:Int),.ref P]/\GrA A H f b P c el tp ks g n/\H hd=some (.tup [.int (c:Int),kV mk])/\okP mk=true/\
 (eI c el tp ks=false->∀H',aw H H'->E (.ref A.c_NoPaper) none H')/\
 (eI c el tp ks=true->∀(w:Key)(g':List Key->Option Key)(H':Hp),aR b H H'->Stp A H' f b g' (n+131)->Sub g g'->okP w=true->(∀h,Ext g' h->w=h (yT h c el ks))->
  (w=mk->∀(u:Key)(g'':List Key->Option Key)(H'':Hp),aR b H' H''->Stp A H'' f b g'' (n+132)->Sub g' g''->okP u=true->(∀h,Ext g'' h->u=h (oT h c el ks))->Q (kV u) H'')/\
  (w≠mk->∀(dx:Addr)(H'':Hp),aw H' H''->E (.ref A.c_Broken) (some dx) H''))
def uU (K:pv)(A:Adr):Sp:=fun vs H Q _=>∃v,vs=[v]/\Q (.bl true) H
def tT (K:pv)(A:Adr):Sp:=fun vs H Q _=>∃(p:Addr)(v w:V),vs=[.ref p,w,v]/\((H p=some (.tup [.str "newest"])/\∀H',aw H H'->Q v H')\/∃c e:Int,H p=some (.tup [.str "growth",.int c,.int e])/\∀H',aw H H'->Q w H')
def LnA (A:Adr)(H:Hp)(ln:Addr)(v w:V):Prop:=∃dx fa q0 q1,H ln=some (.ins A.c_Spoken dx [("answerer",.ref fa)])/\df H fa eK [q1,q0] [w,v]
def pV (K:pv)(A:Adr):Sp:=fun vs H Q _=>∃(x dx f:Addr),vs=[.ref x,.ref f]/\H x=some (.ins A.c_Spoken dx [])/\Q .non (upd H x (.ins A.c_Spoken dx [("answerer",.ref f)]))
def pR (K:pv)(A:Adr):Sp:=fun vs H Q _=>∃(ln:Addr)(v w:V),vs=[.ref ln]/\LnA A H ln v w/\∀H',aw H H'->Q v H'
def pL (K:pv)(A:Adr):Sp:=fun vs H Q _=>∃(ln:Addr)(v w:V)(c e:Int),vs=[.ref ln,.int c,.int e]/\LnA A H ln v w/\∀H',aw H H'->Q w H'
def lY (K:pv)(A:Adr):Sp:=fun vs H Q _=>∃p:Addr,vs=[.ref p]/\Q (.ref p) H
def eV (A:Adr)(H:Hp):Prop:=∃ps,H A.t_26=some (.tbl ps)/\(ps=#[]\/∃c,ps=#[]++#[rawInt ((408:Nat):Int),rawInt ((4:Nat):Int),.ref c]/\H c=some (cE c eK.qual))
def pF (K:pv)(A:Adr):Sp:=fun vs H Q _=>∃v w:V,vs=[v,w]/\eV A H/\∀(ln:Addr)(H':Hp),bA A.t_26 H H'->eV A H'->LnA A H' ln v w->Q (.ref ln) H'
def pk (K:pv)(A:Adr):Sp:=fun vs H Q _=>vs=[.int 4]/\Q (.bl true) H
def dkF (f qs hd:Addr):List (Str×V):=[("stamper",.ref f),("bits",.int 4),("asks_seal",.ref qs),("held",.ref hd)]
structure DkA (A:Adr)(H:Hp)(dk f qs hd:Addr)(n:Nat)(v:Key):Prop where
 ob:∃dx,H dk=some (.ins A.c_Desk dx (dkF f qs hd))
 cl:df H qs fI [] []
 hh:H hd=some (.tup [.int (n:Int),kV v])
 ok:okP v=true
def qA (K:pv)(A:Adr):Sp:=fun vs H Q _=>∃(dk dx f b qs:Addr)(g:gOp)(n:Nat),vs=[.ref dk,.ref f,.int 4,.ref qs]/\H dk=some (.ins A.c_Desk dx [])/\df H qs fI [] []/\Stp A H f b g n/\n<=39000/\
 ∀(hd:Addr)(v:Key)(g':gOp)(H':Hp),(∀z o,z≠b->z≠dk->H z=some o->H' z=some o)->Stp A H' f b g' (n+2)->Sub g g'->DkA A H' dk f qs hd 0 v->(∀h,Ext g' h->v=h (dh h []))->Q .non H'
structure HrA (A:Adr)(H:Hp)(dk f b qs hd ne P:Addr)(n c:Nat)(v w:Key)(tp:Bool)(ks:List Key)(g:gOp)(N:Nat):Prop where
 d:DkA A H dk f qs hd n v
 s:Stp A H f b g N
 hN:N+400<=40000
 hh:H ne=some (.tup [.int (c:Int),kV w])
 ok:okP w=true
 n10:n<=10
 c10:c<=10
 pp:PpW H P tp ks
 ke:∀k∈ks,mkK k
 kl:ks.length<=20
def rl (K:pv)(A:Adr):Sp:=fun vs H Q E=>∃(dk f qs hd ne:Addr)(n c:Nat)(v w:Key),vs=[.ref dk,.ref ne]/\DkA A H dk f qs hd n v/\H ne=some (.tup [.int (c:Int),kV w])/\okP w=true/\c<=10/\(n<=c->∀H',aw H H'->Q .non H')/\(c<n->∀H',aw H H'->E (.ref A.c_Elder) none H')
def Ref (g:gOp)(n c:Nat)(v w:Key)(tp:Bool)(ks:List Key):Prop:=c<n\/eI c n tp ks=false\/(∀h,Ext g h->h (yT h c n ks)≠w)\/∀h,Ext g h->h (oT h c n ks)≠v
def DZ (A:Adr)(H:Hp)(f b:Addr)(n c:Nat)(v w:Key)(tp:Bool)(ks:List Key)(g:gOp)(N:Nat)(E:XK):Prop:=∀(C:Addr)(d:Option Addr)(g':gOp)(H':Hp),(C=A.c_Elder\/C=A.c_NoPaper\/C=A.c_Broken\/C=A.c_Parted)->aR b H H'->Stp A H' f b g' (N+140)->Sub g g'->Ref g' n c v w tp ks->E (.ref C) d H'
def EU (A:Adr)(H:Hp)(dk f b qs ne:Addr)(n c:Nat)(v w:Key)(tp:Bool)(ks:List Key)(g:gOp)(N:Nat)(Q:VK):Prop:=∀(g':gOp)(H':Hp),(∀z o,z≠b->z≠dk->H z=some o->H' z=some o)->Stp A H' f b g' (N+140)->Sub g g'->DkA A H' dk f qs ne c w->n<=c->eI c n tp ks=true->(∀h,Ext g' h->h (yT h c n ks)=w/\h (oT h c n ks)=v)->Q (.ref ne) H'
def rF (K:pv)(A:Adr):Sp:=fun vs H Q E=>∃(dk f b qs hd ne P:Addr)(n c:Nat)(v w:Key)(tp:Bool)(ks:List Key)(g:gOp)(N:Nat),vs=[.ref dk,.ref ne,.ref P]/\HrA A H dk f b qs hd ne P n c v w tp ks g N/\DZ A H f b n c v w tp ks g N E/\EU A H dk f b qs ne n c v w tp ks g N Q
def ut (K:pv)(A:Adr):Sp:=fun vs H Q E=>∃(dk f b qs hd ne P ln:Addr)(n c:Nat)(v w:Key)(tp:Bool)(ks:List Key)(g:gOp)(N:Nat),vs=[.ref dk,.ref ln]/\LnA A H ln (.ref ne) (.ref P)/\HrA A H dk f b qs hd ne P n c v w tp ks g N/\DZ A H f b n c v w tp ks g N E/\EU A H dk f b qs ne n c v w tp ks g N Q
def eP (A:Adr)(H:Hp)(f b:Addr)(g:gOp)(n:Nat)(x L D:Addr)(es:List Key):Prop:=∃kvs,cV A H x f L D b es kvs g n
structure Rw where
 x:Addr
 L:Addr
 D:Addr
 es:List Key
structure Rws (A:Adr)(H:Hp)(f b:Addr)(g:gOp)(n:Nat)(rs:List Rw):Prop where
 rx:∀r∈rs,eP A H f b g n r.x r.L r.D r.es
 nd:∀(i j:Nat)(r s:Rw),rs[i]?=some r->rs[j]?=some s->r.D=s.D->i=j
def KR (b:Addr)(rs:List Rw)(H H':Hp):Prop:=∀z o,z≠b->(∀r∈rs,z≠r.D)->H z=some o->H' z=some o
def KT (A:Adr)(b:Addr)(H H':Hp):Prop:=∀z o,z≠b->z≠A.t_26->H z=some o->H' z=some o
def il (K:pv)(A:Adr):Sp:=fun vs H Q _=>∃(dk f b qs hd ne P:Addr)(n c:Nat)(v w:Key)(tp:Bool)(ks:List Key)(g:gOp)(N:Nat)(cell:Int),vs=[.ref dk,.int cell,.ref ne,.ref P]/\HrA A H dk f b qs hd ne P n c v w tp ks g N/\eV A H/\
 (∀(L:Addr)(g':gOp)(H':Hp),KT A b H H'->Stp A H' f b g' (N+140)->Sub g g'->eV A H'->Ref g' n c v w tp ks->H' L=some (.lst [.str "refused",.bl true])->Q (.ref L) H')/\
 ∀(g':gOp)(H':Hp),(∀z o,z≠b->z≠dk->z≠A.t_26->H z=some o->H' z=some o)->Stp A H' f b g' (N+140)->Sub g g'->eV A H'->DkA A H' dk f qs ne c w->n<=c->eI c n tp ks=true->(∀h,Ext g' h->h (yT h c n ks)=w/\h (oT h c n ks)=v)->Q (.ref ne) H'
def pA (K:pv)(A:Adr):Sp:=fun vs H Q _=>∃(a:Addr)(ns:List Int),vs=[.ref a]/\SqL K H a (ns.map V.int)/\∀(B E1 E2 E3:Addr)(e1 e2 e3:List Key)(H':Hp),aw H H'->H' B=some (.lst [.ref E1,.ref E2,.ref E3])->H' E1=some (.lst (e1.map kV))->H' E2=some (.lst (e2.map kV))->H' E3=some (.lst (e3.map kV))->(∀e∈e1,enK e)->(∀e∈e2,enK e)->(∀e∈e3,enK e)->e1.length<=10->e2.length<=10->e3.length<=10->Q (.ref B) H'
def jA (K:pv)(A:Adr):Sp:=fun vs H Q _=>∃(f E:Addr)(es:List Key),vs=[.ref f,.ref E]/\H E=some (.lst (es.map kV))/\(∀e∈es,enK e)/\es.length<=60/\
 ∀(x L D dx:Addr)(H':Hp),aw H H'->H L=none->H D=none->H' dx=some (.own x)->dI A H' x f L D es []->Q (.ref x) H'
structure Bks (H:Hp)(B W:Addr)(rs:List Rw):Prop where
 hW:H W=some (.lst (rs.map fun r=>.ref r.x))
 hB:∃Es:List Addr,H B=some (.lst (Es.map V.ref))/\Es.length=rs.length/\∀(i:Nat)(E:Addr)(r:Rw),Es[i]?=some E->rs[i]?=some r->H E=some (.lst (r.es.map kV))
 l3:rs.length=3
 l10:∀r∈rs,r.es.length<=10
def ix (K:pv)(A:Adr):Sp:=fun vs H Q _=>∃(cell:Int)(W B f b:Addr)(rs:List Rw)(g:gOp)(N k count held:Nat),vs=[.int cell,.ref W,.ref B,.int (k:Int),.int (count:Int),.int (held:Int)]/\Rws A H f b g N rs/\Bks H B W rs/\k<3/\N+200<=39000/\
 ∀(P:Addr)(tp:Bool)(ks:List Key)(g':gOp)(H':Hp),KR b rs H H'->Rws A H' f b g' (N+200) rs->Sub g g'->PpW H' P tp ks->(∀x∈ks,mkK x)->ks.length<=20->Q (.ref P) H'
def gz (K:pv)(A:Adr):Sp:=fun vs H Q _=>∃(W B He P f b:Addr)(rs:List Rw)(r:Rw)(held ks:List Key)(tp:Bool)(g:gOp)(N k count:Nat),vs=[.ref W,.ref B,.int (k:Int),.int (count:Int),.ref He,.ref P]/\Rws A H f b g N rs/\Bks H B W rs/\rs[k]?=some r/\count<=r.es.length/\H He=some (.lst (held.map kV))/\(∀x∈held,okP x=true)/\held.length<=10/\PpW H P tp ks/\(∀x∈ks,okP x=true)/\N+200<=39000/\
 ∀(bl:Bool)(g':gOp)(H':Hp),KR b rs H H'->Rws A H' f b g' (N+200) rs->Sub g g'->(bl=true->held.length<=count/\r.es.take held.length=held/\tp=true/\Mks g' (gm (r.es.take count) held.length) ks)->(bl=false->¬(held.length<=count/\r.es.take held.length=held)\/tp=false\/∃js,Mks g' (gm (r.es.take count) held.length) js/\ks≠js)->Q (.bl bl) H'
structure Hld (H:Hp)(o:Addr)(rs:List Rw)(k c:Nat)(es:List Key)(g:gOp):Prop where
 ex:∃(hd:Addr)(v:Key)(r:Rw),H o=some (.tup [.int (k:Int),.ref hd])/\H hd=some (.tup [.int (c:Int),kV v])/\okP v=true/\rs[k]?=some r/\c<=r.es.length/\r.es.take c=es/\∀h,Ext g h->v=h (dh h es)
def pe (K:pv)(A:Adr):Sp:=fun vs H Q _=>∃(f b o1 o2 W:Addr)(rs:List Rw)(g:gOp)(N k1 c1 k2 c2:Nat)(es fs:List Key),vs=[.ref f,.ref o1,.ref o2,.ref W]/\Rws A H f b g N rs/\H W=some (.lst (rs.map fun r=>.ref r.x))/\(∀r∈rs,r.es.length<=10)/\Hld H o1 rs k1 c1 es g/\Hld H o2 rs k2 c2 fs g/\c1<=c2/\fs.take c1=es/\N+8000<=39000/\∀H',Q (.bl true) H'
def pJ (K:pv)(A:Adr):Sp:=fun vs H Q _=>∃(a:Addr)(ns:List Int),vs=[.ref a]/\SqL K H a (ns.map V.int)/\ns.length<=63/\zT A H/\∀H',Q (.bl true) H'
def eQ (K:pv)(A:Adr):L2.im:=[(fD,tG K A),(gD,uN K A),(gC,tW K A)]
def kg (K:pv)(A:Adr):L2.im:=[(eK,tT K A),(fI,uU K A)]
def Dy (K:pv)(A:Adr):TE:=aC (lQ K A) (fun _=>E0) (af (aa 0) (am))
def Cp (K:pv)(A:Adr):TE:=bq A.c_Numbers "number_of" (uP K A) (fun _=>E0) (aa 1) (af (aa 0) (am))
def Dr (K:pv)(A:Adr):TS:=aK (tBM K "dict" sI (aa 2) (af (aa 0) (af (tOp (bu K) (tOp (fG) (aa 1) (tCB (bO K) (af (aa 2) (am)))) (tC (.int 5))) (am))))
def BK (K:pv)(A:Adr):TS:=aA (aP (aJ (tOp (bM K) (aa 0) (bB (af (tC (.str "newest")) (am))))) (aK (aa 2)) (aM)) (aA (aP (aJ (tOp (bM K) (tOp (aE K) (aa 0) (tC (.int 0))) (tC (.str "growth")))) (aK (aa 1)) (aM)) (aK (tC .non)))
def Ek (K:pv)(A:Adr):TE:=tC (.bl true)
def Jz (K:pv)(A:Adr):TS:=aK (de (tCB (gO) (af (aa 0) (af (tC (.ty "int")) (am)))) (uB (tCB (gO) (af (aa 0) (af (tC (.ty "bool")) (am))))))
def Kd (K:pv)(A:Adr):TS:=aA (aP (cX K (aC (gB K A) (fun _=>E0) (af (aa 0) (am)))) (aK (eT (mLe) (mLt) (tC (.int 0)) (aa 0) (tOp (lF) (tC (.int 10)) (tC (.int 60))))) (aM)) (aK (tCB (gO) (af (aa 0) (af (tC (.ty "str")) (am)))))
def KZ (K:pv)(A:Adr):TS:=aA (aP (eC (cX K (tCB (gO) (af (aa 0) (af (tC (.ty "tuple")) (am)))))) (aK (tC (.bl false))) (aM)) (aA (aP (eC (aJ (eT (mLe) (mLe) (tC (.int 1)) (tCB (bO K) (af (aa 0) (am))) (tC (.int 8))))) (aK (tC (.bl false))) (aM)) (aK (de (tCB (gO) (af (tOp (aE K) (aa 0) (tC (.int 0))) (af (tC (.ty "str")) (am)))) (tCB (wQ) (af (fz [] (gd K (aa 0)) (fun _ H Q=>Q true H) (aC (ir K A) (fun _=>E0) (af (aa 0) (am)))) (am))))))
def JE (K:pv)(A:Adr):TS:=aA (aP (cX K (aC (gB K A) (fun _=>E0) (af (aa 0) (am)))) (aK (mJ ((uu (aa 0))::(tC (.str ";"))::[]) Nw)) (aM)) (aA (aD (tCB (bO K) (af (aa 0) (am))) (aB 1)) (aK (mJ ((uu (aa 1))::(tC (.str ":"))::(uu (aa 0))::[]) Nw)))
def Ku (K:pv)(A:Adr):TS:=aA (aP (eC (cX K (aC (mK K A) (fun _=>E0) (af (aa 0) (am))))) (dL) (aM)) (aK (tBM K "str" zw (tC (.str "")) (af (fz [] (gd K (aa 0)) (fun _ H Q=>Q true H) (aC (pW K A) (fun _=>E0) (af (aa 0) (am)))) (am))))
def T_6 (K:pv)(A:Adr):TS:=aA (aP (eC (cX K (aC (mK K A) (fun _=>E0) (af (aa 1) (am))))) (dL) (aM)) (aA (aP (aJ (tOp (mU K) (aa 1) (cC K (aa 0) "given"))) (aD (tCB (bO K) (af (cC K (aa 0) "given") (am))) (uz (cC K (aa 0) "given") (aa 1) pM)) (aM)) (aK (tOp (aE K) (cC K (aa 0) "given") (aa 1))))
def Fd (K:pv)(A:Adr):TSM:=nj (lG A.t_64 ⟨351,11,351,37⟩ fD [])
def T_5 (K:pv)(A:Adr):TS:=fV K (aa 0) (mi) "given"
def Ci (K:pv)(A:Adr)(q0:Addr):TSM:=fQ (fb (aD (iQ A.c_Numbers (tP K A) (fun _=>E0) (am)) (aB 0))) (nj (lG A.t_36 ⟨354,11,354,47⟩ gD [q0]))
def EF (K:pv)(A:Adr)(q0 q1:Addr):TSM:=fQ (fb (aD (mi) (aB 1))) (fQ (fb (aD (lG A.t_31 ⟨363,4,364,80⟩ gC [q0,q1]) (aB 2))) (nj (aa 2)))
def Lb (K:pv)(A:Adr):TS:=aA (aP (aJ (tOp (bM K) (tOp (bF) (aa 0) (tC (.int 3))) (tC (.int 0)))) (aK (aC (pb K A) (fun _=>E0) am)) (aM)) (aA (aP (aJ (tOp (bM K) (tOp (bF) (aa 0) (tC (.int 3))) (tC (.int 1)))) (aK (aC (oZ K A) (fun _=>E0) am)) (aM)) (aK (aC (pN K A) (fun _=>E0) (af (tOp (bu K) (tC (.int 1)) (tOp (bF) (tOp (bw) (aa 0) (tC (.int 3))) (tC (.int 9)))) (am)))))
def Li (K:pv)(A:Adr):TS:=aA (aP (aJ (tOp (mLt) (aa 1) (tCB (bO K) (af (aa 0) (am))))) (aK (tOp (aE K) (aa 0) (aa 1))) (aM)) (aK (tC (.int 0)))
def Cf (K:pv)(A:Adr):TS:=aK (aa 3)
def ER (K:pv)(A:Adr):TS:=aA (iD (pU (af (tC (.int 1)) (af (tC (.int 3)) (am)))) (aB 4) (aA (aD (aC (fZ K A) (fun _=>E0) (af (aa 0) (af (tOp (bu K) (tC (.int 1)) (aa 4)) (am)))) (aB 5)) (aA (aD (tOp (bF) (aa 5) (tOp (bu K) (aa 1) (tC (.int 1)))) (aB 6)) (aA (aD (fz [5] (kB (af (tOp (bF) (tOp (bw) (aa 5) (tC (.int 3))) (tOp (dv) (tC (.int 11)) (aa 6))) (am))) (fun _ H Q=>Q true H) (tOp (bF) (tOp (bu K) (tOp (bw) (aa 1) (tC (.int 11))) (tOp (fG) (aa 0) (tOp (bu K) (tC (.int 1)) (tOp (bF) (tOp (bw) (aa 1) (tC (.int 77))) (tC (.int 6)))))) (tC (.int 7)))) (aB 7)) (bL (tBM K "list" bG (aa 3) (af (tOp (bu K) (tSl (eE K) (aa 2) (cj) (dA (aa 6))) (aa 7)) (am)))))))) (Cf K A)
def Eb (K:pv)(A:Adr):TS:=aA (aD (dg (af (aa 2) (am))) (aB 3)) (ER K A)
def vh (K:pv)(A:Adr):TS:=aA (aD (fz [0] (kB (af (aa 1) (am))) (fun _ H Q=>Q true H) (tOp (bF) (aC (fZ K A) (fun _=>E0) (af (aa 1) (af (tOp (bu K) (tC (.int 4)) (aa 0)) (am)))) (tC (.int 7)))) (aB 2)) (Eb K A)
def KU (K:pv)(A:Adr):TS:=aA (aD (tOp (bu K) (tC (.int 1)) (tOp (bF) (aC (fZ K A) (fun _=>E0) (af (aa 0) (af (tC (.int 1)) (am)))) (tC (.int 10)))) (aB 1)) (vh K A)
def T_8 (K:pv)(A:Adr):TS:=aA (fV K (aa 0) (aa 1) "stamper") (aA (fV K (aa 0) (dg (am)) "entries") (fV K (aa 0) (mi) "tops"))
def T_9 (K:pv)(A:Adr):TS:=aA (aP (eC (cX K (aC (ir K A) (fun _=>E0) (af (aa 1) (am))))) (dL) (aM)) (aA (bL (tBM K "list" bG (cC K (aa 0) "entries") (af (aa 1) (am)))) (aK (tOp (dv) (tCB (bO K) (af (cC K (aa 0) "entries") (am))) (tC (.int 1)))))
def Kz (K:pv)(A:Adr):TS:=aA (aD (iQ A.c_Row (ul K A) (fun _=>E0) (af (aa 0) (am))) (aB 2)) (aA (iD (gd K (aa 1)) (aB 3) (bL (bq A.c_Row "add" (uo K A) (fun _=>E0) (aa 2) (af (aa 3) (am))))) (aK (aa 2)))
def JG (K:pv)(A:Adr):TS:=aK (de (aC (gB K A) (fun _=>E0) (af (aa 0) (am))) (eT (mLe) (mLe) (tC (.int 1)) (aa 0) (tC (.int 60))))
def JR (K:pv)(A:Adr):TS:=aK (dg (af (bB (af (tC (.str "void")) (am))) (af (bB (af (tC (.str "row")) (af (tC (.int 0)) (af (gc (eQ K A) (fun _=>E0) (aa 0) (af (bB (af (tC (.str "void")) (am))) (am))) (am))))) (am))))
def Kn (K:pv)(A:Adr):TS:=aK (bB (af (tC (.int 0)) (af (gc (eQ K A) (fun _=>E0) (aa 0) (af (tOp (aE K) (aC (kL K A) (fun _=>E0) (af (aa 0) (am))) (tUn dW (tC (.int 1)))) (am))) (am))))
def T_1 (K:pv)(A:Adr):TS:=aA (aP (eC (cX K (aC (pk K A) (fun _=>E0) (af (aa 2) (am))))) (dL) (aM)) (aA (fV K (aa 0) (aa 1) "stamper") (aA (fV K (aa 0) (aa 2) "bits") (aA (fV K (aa 0) (aa 3) "asks_seal") (fV K (aa 0) (aC (mQ K A) (fun _=>E0) (af (aa 1) (am))) "held"))))
def JK (K:pv)(A:Adr):TS:=aK (de (aC (gB K A) (fun _=>E0) (af (aa 0) (am))) (eT (mLe) (mLt) (tC (.int 0)) (aa 0) (tOp (tE) (tC (.int 1)) (tC (.int 60)))))
def JH (K:pv)(A:Adr):TS:=aK (de (aC (km K A) (fun _=>E0) (af (aa 0) (am))) (de (aC (gB K A) (fun _=>E0) (af (aa 1) (am))) (eT (mLe) (mLe) (tC (.int 0)) (aa 1) (aa 0))))
def KF (K:pv)(A:Adr):TS:=aK (tCB (bO K) (af (cC K (aa 0) "entries") (am)))
def Lc (K:pv)(A:Adr):TS:=aK (de (aC (mH K A) (fun _=>E0) (af (aa 1) (af (aa 2) (am)))) (tOp (mLe) (aa 1) (bq A.c_Row "size" (kH K A) (fun _=>E0) (aa 0) am)))
def Jx (K:pv)(A:Adr):TS:=aK (tOp (tE) (tC (.int 1)) (tOp (dv) (yC K "int" uG (tOp (dv) (aa 0) (tC (.int 1)))) (tC (.int 1))))
def Kb (K:pv)(A:Adr)(n:Nat):TS:=aA (aP (aJ (tOp (bM K) (aa 2) (tC (.int 0)))) (aK (bB (af (tC (.str "void")) (am)))) (aM)) (aA (aP (aJ (tOp (bM K) (aa 2) (tC (.int 1)))) (aK (bB (af (tC (.str "entry")) (af (tOp (aE K) (cC K (aa 0) "entries") (aa 1)) (am))))) (aM)) (aA (aD (aC (hV K A) (fun _=>E0) (af (aa 2) (am))) (aB 3)) (aK (bB (af (tC (.str "joint")) (af (bq A.c_Row "top_of" (dS K A n) (fun _=>E0) (aa 0) (af (aa 1) (af (aa 3) (am)))) (af (bq A.c_Row "top_of" (dS K A n) (fun _=>E0) (aa 0) (af (tOp (bu K) (aa 1) (aa 3)) (af (tOp (dv) (aa 2) (aa 3)) (am)))) (am))))))))
def Lh (K:pv)(A:Adr)(n:Nat):TS:=aA (aD (bB (af (aa 1) (af (aa 2) (am)))) (aB 3)) (aA (aP (aJ (tOp (mU K) (aa 3) (cC K (aa 0) "tops"))) (aD (iU (eQ K A) A.c_Row "stamper" (fun _=>E0) (aa 0) (af (bq A.c_Row "top_term" (pB K A n) (fun _=>E0) (aa 0) (af (aa 1) (af (aa 2) (am)))) (am))) (uz (cC K (aa 0) "tops") (aa 3) pM)) (aM)) (aK (tOp (aE K) (cC K (aa 0) "tops") (aa 3))))
def JB (K:pv)(A:Adr):TS:=aA (aP (eC (cX K (bq A.c_Row "has_elder" (mw K A) (fun _=>E0) (aa 0) (af (bq A.c_Row "size" (kH K A) (fun _=>E0) (aa 0) am) (af (aa 1) (am)))))) (dL) (aM)) (aK (iU (eQ K A) A.c_Row "stamper" (fun _=>E0) (aa 0) (af (bB (af (tC (.str "row")) (af (aa 1) (af (bq A.c_Row "top_of" (dS K A 70) (fun _=>E0) (aa 0) (af (tC (.int 0)) (af (aa 1) (am)))) (am))))) (am))))
def La (K:pv)(A:Adr)(n:Nat):TS:=aA (aP (mOr (aJ (tOp (bM K) (aa 3) (tC (.int 0)))) (aJ (tOp (bM K) (aa 3) (aa 2)))) (aK (bB (af (bq A.c_Row "top_of" (dS K A 70) (fun _=>E0) (aa 0) (af (aa 1) (af (aa 2) (am)))) (am)))) (aM)) (aA (aD (aC (hV K A) (fun _=>E0) (af (aa 2) (am))) (aB 4)) (aA (aP (aJ (tOp (mLe) (aa 3) (aa 4))) (aK (tOp (bu K) (bq A.c_Row "growth_marks" (jo K A n) (fun _=>E0) (aa 0) (af (aa 1) (af (aa 4) (af (aa 3) (am))))) (bB (af (bq A.c_Row "top_of" (dS K A 70) (fun _=>E0) (aa 0) (af (tOp (bu K) (aa 1) (aa 4)) (af (tOp (dv) (aa 2) (aa 4)) (am)))) (am))))) (aM)) (aK (tOp (bu K) (bB (af (bq A.c_Row "top_of" (dS K A 70) (fun _=>E0) (aa 0) (af (aa 1) (af (aa 4) (am)))) (am))) (bq A.c_Row "growth_marks" (jo K A n) (fun _=>E0) (aa 0) (af (tOp (bu K) (aa 1) (aa 4)) (af (tOp (dv) (aa 2) (aa 4)) (af (tOp (dv) (aa 3) (aa 4)) (am)))))))))
def Km (K:pv)(A:Adr):TS:=aA (aP (eC (cX K (bq A.c_Row "has_elder" (mw K A) (fun _=>E0) (aa 0) (af (aa 1) (af (aa 2) (am)))))) (dL) (aM)) (aK (mIf (aJ (tOp (mGt) (aa 1) (tC (.int 0)))) (bq A.c_Row "growth_marks" (jo K A 70) (fun _=>E0) (aa 0) (af (tC (.int 0)) (af (aa 1) (af (aa 2) (am))))) (bB (am))))
def Ax (K:pv)(A:Adr):TS:=aK (tOp (bu K) (tSl (eE K) (aa 8) (dA (tC (.int 1))) (cj)) (tSl (eE K) (aa 8) (cj) (dA (tC (.int 1)))))
def Bl (K:pv)(A:Adr):TS:=aA (aP (aJ (tOp (bM K) (aa 9) (tC (.int 7)))) (aK (tOp (bu K) (tOp (bu K) (tSl (eE K) (aa 8) (cj) (dA (aa 10))) (bB (af (tOp (bF) (tOp (bw) (aa 0) (tC (.int 756))) (tC (.int 50))) (am)))) (tSl (eE K) (aa 8) (dA (tOp (bu K) (aa 10) (tC (.int 1)))) (cj)))) (aM)) (Ax K A)
def CS (K:pv)(A:Adr):TS:=aA (aP (aJ (tOp (bM K) (aa 9) (tC (.int 6)))) (aK (tOp (bu K) (tSl (eE K) (aa 8) (cj) (dA (aa 10))) (tSl (eE K) (aa 8) (dA (tOp (bu K) (aa 10) (tC (.int 1)))) (cj)))) (aM)) (Bl K A)
def EN (K:pv)(A:Adr):TS:=aA (aP (aJ (tOp (bM K) (aa 9) (tC (.int 5)))) (aK (tCB (zF K) (af (aa 8) (am)))) (aM)) (CS K A)
def DO (K:pv)(A:Adr):TS:=aA (aD (tOp (bF) (tOp (bw) (aa 0) (tC (.int 756))) (tCB (bO K) (af (aa 8) (am)))) (aB 10)) (EN K A)
def BI (K:pv)(A:Adr):TS:=aA (aP (mOr (aJ (tOp (bM K) (tCB (bO K) (af (aa 8) (am))) (tC (.int 0)))) (aJ (tOp (mLt) (aa 9) (tC (.int 5))))) (aK (aa 8)) (aM)) (DO K A)
def wJ (K:pv)(A:Adr):TS:=aA (aD (tOp (bF) (tOp (bw) (aa 0) (tC (.int 84))) (tC (.int 9))) (aB 9)) (BI K A)
def wj (K:pv)(A:Adr):TS:=aA (aD (bq A.c_Row "growth_paper" (lR K A) (fun _=>E0) (tOp (aE K) (aa 1) (aa 3)) (af (aa 6) (af (aa 7) (am)))) (aB 8)) (wJ K A)
def wF (K:pv)(A:Adr):TS:=aA (aP (aJ (tOp (bM K) (tOp (bF) (tOp (bw) (aa 0) (tC (.int 12))) (tC (.int 7))) (tC (.int 3)))) (aD (tOp (bF) (tOp (bw) (aa 0) (tC (.int 84))) (tOp (bu K) (aa 6) (tC (.int 1)))) (aB 7)) (aM)) (wj K A)
def Eh (K:pv)(A:Adr):TS:=aA (aD (tCB (kZ) (af (aa 5) (af (aa 6) (am)))) (aB 7)) (wF K A)
def we (K:pv)(A:Adr):TS:=aA (aD (tCB (kZ) (af (aa 4) (af (tCB (bO K) (af (tOp (aE K) (aa 2) (aa 3)) (am))) (am)))) (aB 6)) (Eh K A)
def Ke (K:pv)(A:Adr):TS:=aA (aP (aJ (tOp (bM K) (tOp (bF) (aa 0) (tC (.int 4))) (tC (.int 1)))) (aD (tOp (bF) (tOp (bw) (aa 0) (tC (.int 4))) (tC (.int 3))) (aB 3)) (aM)) (we K A)
def KY (K:pv)(A:Adr):TS:=aK (de (tCB (gO) (af (aa 0) (af (tC (.ty "tuple")) (am)))) (de (tOp (bM K) (tCB (bO K) (af (aa 0) (am))) (tC (.int 2))) (de (aC (km K A) (fun _=>E0) (af (tOp (aE K) (aa 0) (tC (.int 0))) (am))) (aC (ir K A) (fun _=>E0) (af (tOp (aE K) (aa 0) (tC (.int 1))) (am))))))
def KG (K:pv)(A:Adr):TS:=aP (eC (cX K (aC (pP K A) (fun _=>E0) (af (aa 0) (am))))) (dL) (aM)
def T_2 (K:pv)(A:Adr)(E:XK):TS:=aA (bL (aC (kN K A) (fun _=>E0) (af (aa 1) (am)))) (aA (aP (eC (cX K (iU (kg K A) A.c_Desk "asks_seal" (fun _=>E0) (aa 0) (af (aa 1) (am))))) (iL A.c_Unsealed (fun _=>E)) (aM)) (aP (aJ (tOp (mLt) (tOp (aE K) (aa 1) (tC (.int 0))) (tOp (aE K) (cC K (aa 0) "held") (tC (.int 0))))) (iL A.c_Elder (fun _=>E)) (aM)))
def JV (K:pv)(A:Adr):TS:=aA (aD (dg (am)) (aB 2)) (aA (aD (aa 1) (aB 3)) (aA (aD (aa 0) (aB 4)) (aA (mz (aJ (eT (mLt) (mLt) (tC (.int 0)) (aa 3) (aa 4))) (aA (aD (aC (hV K A) (fun _=>E0) (af (aa 4) (am))) (aB 5)) (aP (aJ (tOp (mLe) (aa 3) (aa 5))) (aA (bL (tBM K "list" bG (aa 2) (af (tC (.int 0)) (am)))) (aD (aa 5) (aB 4))) (aA (bL (tBM K "list" bG (aa 2) (af (tC (.int 1)) (am)))) (aA (aD (tOp (dv) (aa 3) (aa 5)) (aB 3)) (aD (tOp (dv) (aa 4) (aa 5)) (aB 4))))))) (aK (aa 2)))))
def EL (K:pv)(A:Adr):TS:=aK (de (tCB (gO) (af (aa 1) (af (tC (.ty "tuple")) (am)))) (de (tOp (bM K) (tCB (bO K) (af (aa 1) (am))) (aa 0)) (tCB (wQ) (af (fz [] (gd K (aa 1)) (fun _ H Q=>Q true H) (aC (ir K A) (fun _=>E0) (af (aa 0) (am)))) (am)))))
def Kj (K:pv)(A:Adr):TS:=aK (mIf (aJ (tOp (bM K) (aa 0) (tC (.int 0)))) (bB (af (tC (.str "joint")) (af (aa 1) (af (aa 2) (am))))) (bB (af (tC (.str "joint")) (af (aa 2) (af (aa 1) (am))))))
def Lg (K:pv)(A:Adr):TS:=aA (aD (dg (am)) (aB 4)) (aA (aD (dg (am)) (aB 5)) (aA (aD (tOp (aE K) (aa 3) (tC (.int 0))) (aB 6)) (aA (aD (tOp (aE K) (aa 3) (tC (.int 0))) (aB 7)) (aA (iD (gd K (tOp (aE K) (aa 3) (tC (.int 1)))) (aB 8) (aA (bL (tBM K "list" bG (aa 4) (af (aC (kA K A) (fun _=>E0) (af (tOp (aE K) (aa 8) (tC (.int 0))) (af (aa 6) (af (tOp (aE K) (aa 8) (tC (.int 1))) (am))))) (am)))) (aA (aD (gc (eQ K A) (fun _=>E0) (aa 0) (af (tOp (aE K) (aa 4) (tUn dW (tC (.int 1)))) (am))) (aB 6)) (aP (aJ (tOp (bM K) (tOp (aE K) (aa 8) (tC (.int 0))) (tC (.int 1)))) (aA (bL (tBM K "list" bG (aa 5) (af (aC (kA K A) (fun _=>E0) (af (tOp (aE K) (aa 8) (tC (.int 0))) (af (aa 7) (af (tOp (aE K) (aa 8) (tC (.int 1))) (am))))) (am)))) (aD (gc (eQ K A) (fun _=>E0) (aa 0) (af (tOp (aE K) (aa 5) (tUn dW (tC (.int 1)))) (am))) (aB 7))) (aM))))) (aA (bL (tBM K "list" bG (aa 4) (af (bB (af (tC (.str "row")) (af (aa 1) (af (aa 6) (am))))) (am)))) (aA (bL (tBM K "list" bG (aa 5) (af (bB (af (tC (.str "row")) (af (aa 2) (af (aa 7) (am))))) (am)))) (aK (bB (af (aa 4) (af (aa 5) (am)))))))))))
def KB (K:pv)(A:Adr):TS:=aA (aD (dg (am)) (aB 2)) (aA (aD (tC (.int 0)) (aB 3)) (aA (aD (tOp (dv) (tCB (bO K) (af (aa 1) (am))) (tC (.int 1))) (aB 4)) (aA (iD (gd K (aa 0)) (aB 5) (aP (aJ (tOp (bM K) (aa 5) (tC (.int 0)))) (aA (bL (tBM K "list" bG (aa 2) (af (bB (af (aa 5) (af (tOp (aE K) (aa 1) (aa 4)) (am)))) (am)))) (aD (tOp (dv) (aa 4) (tC (.int 1))) (aB 4))) (aA (bL (tBM K "list" bG (aa 2) (af (bB (af (aa 5) (af (tOp (aE K) (aa 1) (aa 3)) (am)))) (am)))) (aD (tOp (bu K) (aa 3) (tC (.int 1))) (aB 3))))) (aK (bB (af (tOp (aE K) (aa 1) (aa 3)) (af (tCB (qz K) (af (aa 2) (am))) (am))))))))
def Ee (K:pv)(A:Adr)(E:XK):TS:=aK (aC (pQ K A) (fun _=>E0) (af (aa 0) (af (aa 1) (af (aa 2) (af (aC (pX K A) (fun _=>E0) (af (aa 4) (af (aa 3) (am)))) (am))))))
def qf (K:pv)(A:Adr)(E:XK):TS:=aA (aP (aJ (tOp (bM K) (aa 2) (tC (.int 0)))) (aA (aD (mIf (aJ (tOp (bM K) (aa 1) (tC (.int 0)))) (aC (kL K A) (fun _=>E0) (af (aa 0) (am))) (dg (af (bB (af (tC (.str "row")) (af (aa 1) (af (tOp (aE K) (aa 3) (tC (.int 0))) (am))))) (am)))) (aB 5)) (aK (bB (af (aa 5) (af (aC (kL K A) (fun _=>E0) (af (aa 0) (am))) (am)))))) (aM)) (Ee K A E)
def Cy (K:pv)(A:Adr)(E:XK):TS:=aA (aP (eC (cX K (aC (mH K A) (fun _=>E0) (af (aa 1) (af (aa 2) (am)))))) (iL A.c_NoPlace (fun _=>E)) (aM)) (aA (aD (aC (pK K A) (fun _=>E0) (af (aa 1) (af (aa 2) (am)))) (aB 4)) (aA (aP (eC (cX K (aC (lM K A) (fun _=>E0) (af (mIf (aJ (tOp (bM K) (aa 1) (tC (.int 0)))) (tC (.int 0)) (tOp (bu K) (tCB (bO K) (af (aa 4) (am))) (tC (.int 1)))) (af (aa 3) (am)))))) (iL A.c_NoPaper (fun _=>E)) (aM)) (qf K A E)))
def T_0 (K:pv)(A:Adr):TS:=aA (lV K A.c_Broken (aa 0) (aa 1) "due") (lV K A.c_Broken (aa 0) (aa 2) "came")
def Eu (K:pv)(A:Adr)(E:XK):TS:=aA (bL (aC (kN K A) (fun _=>E0) (af (aa 1) (am)))) (aA (aD (aC (pT K A) (fun _=>E) (af (aa 0) (af (tOp (aE K) (aa 1) (tC (.int 0))) (af (aa 2) (af (aa 3) (am)))))) (aB 4)) (aA (aD (gc (eQ K A) (fun _=>E0) (aa 0) (af (tOp (aE K) (tOp (aE K) (aa 4) (tC (.int 0))) (tUn dW (tC (.int 1)))) (am))) (aB 5)) (aA (aP (aJ (tOp (ci K) (aa 5) (tOp (aE K) (aa 1) (tC (.int 1))))) (nK A.c_Broken (tR K A) (fun _=>E) (af (tOp (aE K) (aa 1) (tC (.int 1))) (af (aa 5) (am)))) (aM)) (aK (gc (eQ K A) (fun _=>E0) (aa 0) (af (tOp (aE K) (tOp (aE K) (aa 4) (tC (.int 1))) (tUn dW (tC (.int 1)))) (am)))))))
def T_7 (K:pv)(A:Adr):TS:=aA (lV K A.c_Parted (aa 0) (aa 1) "due") (lV K A.c_Parted (aa 0) (aa 2) "came")
def T_4 (K:pv)(A:Adr)(E:XK):TS:=aA (bL (bq A.c_Desk "check_new" (rl K A) (fun _=>E) (aa 0) (af (aa 1) (am)))) (aA (aD (aC (pd K A) (fun _=>E) (af (cC K (aa 0) "stamper") (af (aa 1) (af (tOp (aE K) (cC K (aa 0) "held") (tC (.int 0))) (af (aa 2) (am)))))) (aB 3)) (aA (aP (aJ (tOp (ci K) (aa 3) (tOp (aE K) (cC K (aa 0) "held") (tC (.int 1))))) (nK A.c_Parted (uR K A) (fun _=>E) (af (tOp (aE K) (cC K (aa 0) "held") (tC (.int 1))) (af (aa 3) (am)))) (aM)) (aA (fV K (aa 0) (aa 1) "held") (aK (aa 1)))))
def Co (K:pv)(A:Adr)(E:XK):TS:=aA (aP (aJ (tOp (yR) (aa 0) (tC .non))) (iL A.c_Silent (fun _=>E)) (aM)) (aK (aa 0))
def Lj (K:pv)(A:Adr):TS:=aK (iU (kg K A) A.c_Spoken "answerer" (fun _=>E0) (aa 0) (af (bB (af (tC (.str "newest")) (am))) (am)))
def JA (K:pv)(A:Adr):TS:=aK (iU (kg K A) A.c_Spoken "answerer" (fun _=>E0) (aa 0) (af (bB (af (tC (.str "growth")) (af (aa 1) (af (aa 2) (am))))) (am)))
def T_3 (K:pv)(A:Adr)(E:XK):TS:=aA (aD (aC (lY K A) (fun _=>E) (af (bq A.c_Spoken "newest" (pR K A) (fun _=>E0) (aa 1) am) (am))) (aB 2)) (aA (bL (bq A.c_Desk "check_new" (rl K A) (fun _=>E) (aa 0) (af (aa 2) (am)))) (aK (bq A.c_Desk "hear" (rF K A) (fun _=>E) (aa 0) (af (aa 2) (af (aC (lY K A) (fun _=>E) (af (bq A.c_Spoken "growth" (pL K A) (fun _=>E0) (aa 1) (af (tOp (aE K) (aa 2) (tC (.int 0))) (af (tOp (aE K) (cC K (aa 0) "held") (tC (.int 0))) (am)))) (am))) (am))))))
def Ju (K:pv)(A:Adr):TS:=fV K (aa 0) (aa 1) "answerer"
def BJ (K:pv)(A:Adr)(q0 q1:Addr):TSM:=fQ (fb (aD (lG A.t_26 ⟨408,4,413,19⟩ eK [q1,q0]) (aB 2))) (nj (iQ A.c_Spoken (pV K A) (fun _=>E0) (af (aa 2) (am))))
def Jq (K:pv)(A:Adr):TS:=aA (aD (tC .non) (aB 4)) (aA (CP K (fun EH=>aP (aJ (tOp (bM K) (tOp (bF) (aa 1) (tC (.int 2))) (tC (.int 0)))) (aD (bq A.c_Desk "hear" (rF K A) EH (aa 0) (af (aa 2) (af (aa 3) (am)))) (aB 4)) (aD (bq A.c_Desk "follow" (ut K A) EH (aa 0) (af (aC (pF K A) (fun _=>E0) (af (aa 2) (af (aa 3) (am)))) (am))) (aB 4))) (hAs K A.c_StampError 5 (aD (dg (af (tC (.str "refused")) (af (tCB (Aa K) (af (aa 5) (af (tC (.ty "ValueError")) (am)))) (am)))) (aB 4)) (zP)) (aM)) (aK (aa 4)))
def KL (K:pv)(A:Adr):TS:=aA (aP (mOr (aJ (tOp (mLt) (aa 3) (tCB (bO K) (af (aa 4) (am))))) (aJ (tOp (ci K) (tSl (eE K) (tOp (aE K) (aa 1) (aa 2)) (cj) (dA (tCB (bO K) (af (aa 4) (am))))) (aa 4)))) (aK (tC (.bl false))) (aM)) (aK (de (tCB (gO) (af (aa 5) (af (tC (.ty "tuple")) (am)))) (tOp (bM K) (aa 5) (bq A.c_Row "growth_paper" (lR K A) (fun _=>E0) (tOp (aE K) (aa 0) (aa 2)) (af (aa 3) (af (tCB (bO K) (af (aa 4) (am))) (am)))))))
def Js (K:pv)(A:Adr):TS:=aK (de (aC (km K A) (fun _=>E0) (af (aa 0) (am))) (de (aC (gB K A) (fun _=>E0) (af (aa 1) (am))) (eT (mLe) (mLt) (tC (.int 0)) (aa 1) (aa 0))))
def JT (K:pv)(A:Adr):TS:=aK (de (aC (lZ K A) (fun _=>E0) (af (aa 1) (af (aa 2) (am)))) (tOp (mLe) (aa 1) (bq A.c_Row "size" (kH K A) (fun _=>E0) (aa 0) am)))
def KQ (K:pv)(A:Adr):TS:=aA (aD (dg (am)) (aB 2)) (aA (aD (tC (.int 0)) (aB 3)) (aA (aD (aa 1) (aB 4)) (aA (mz (aJ (tOp (mGt) (aa 4) (tC (.int 1)))) (aA (aD (aC (hV K A) (fun _=>E0) (af (aa 4) (am))) (aB 5)) (aP (aJ (tOp (mLt) (aa 0) (tOp (bu K) (aa 3) (aa 5)))) (aA (bL (tBM K "list" bG (aa 2) (af (tC (.int 0)) (am)))) (aD (aa 5) (aB 4))) (aA (bL (tBM K "list" bG (aa 2) (af (tC (.int 1)) (am)))) (aA (aD (tOp (bu K) (aa 3) (aa 5)) (aB 3)) (aD (tOp (dv) (aa 4) (aa 5)) (aB 4))))))) (aK (aa 2)))))
def JZ (K:pv)(A:Adr):TS:=aA (aP (eC (cX K (bq A.c_Row "has_place" (pf K A) (fun _=>E0) (aa 0) (af (aa 1) (af (aa 2) (am)))))) (dL) (aM)) (aA (aD (dg (am)) (aB 3)) (aA (aD (tC (.int 0)) (aB 4)) (aA (aD (aa 1) (aB 5)) (aA (iD (gd K (aC (ma K A) (fun _=>E0) (af (aa 2) (af (aa 1) (am))))) (aB 6) (aA (aD (aC (hV K A) (fun _=>E0) (af (aa 5) (am))) (aB 7)) (aP (aJ (tOp (bM K) (aa 6) (tC (.int 0)))) (aA (bL (tBM K "list" bG (aa 3) (af (bq A.c_Row "top_of" (dS K A 70) (fun _=>E0) (aa 0) (af (tOp (bu K) (aa 4) (aa 7)) (af (tOp (dv) (aa 5) (aa 7)) (am)))) (am)))) (aD (aa 7) (aB 5))) (aA (bL (tBM K "list" bG (aa 3) (af (bq A.c_Row "top_of" (dS K A 70) (fun _=>E0) (aa 0) (af (aa 4) (af (aa 7) (am)))) (am)))) (aA (aD (tOp (bu K) (aa 4) (aa 7)) (aB 4)) (aD (tOp (dv) (aa 5) (aa 7)) (aB 5))))))) (aK (bB (af (tOp (aE K) (cC K (aa 0) "entries") (aa 2)) (af (tCB (vF K) (af (aa 3) (am))) (am)))))))))
def KC (K:pv)(A:Adr):TS:=aA (aP (mOr (eC (cX K (tCB (gO) (af (aa 1) (af (tC (.ty "tuple")) (am)))))) (aJ (tOp (ci K) (tCB (bO K) (af (aa 1) (am))) (tC (.int 2))))) (aK (tC (.bl false))) (aM)) (aK (de (aC (ir K A) (fun _=>E0) (af (tOp (aE K) (aa 1) (tC (.int 0))) (am))) (aC (lM K A) (fun _=>E0) (af (tCB (bO K) (af (aa 0) (am))) (af (tOp (aE K) (aa 1) (tC (.int 1))) (am))))))
def Kk (K:pv)(A:Adr):TS:=aA (aP (eC (cX K (aC (lZ K A) (fun _=>E0) (af (aa 1) (af (aa 2) (am)))))) (dL) (aM)) (aA (aD (aC (ma K A) (fun _=>E0) (af (aa 2) (af (aa 1) (am)))) (aB 4)) (aA (aP (eC (cX K (aC (pq K A) (fun _=>E0) (af (aa 4) (af (aa 3) (am)))))) (dL) (aM)) (aA (aD (dg (af (bB (af (tC (.str "entry")) (af (tOp (aE K) (aa 3) (tC (.int 0))) (am)))) (am))) (aB 5)) (aA (iD (zU K (af (tCB (qP K) (af (aa 4) (af (tOp (aE K) (aa 3) (tC (.int 1))) (am)))) (am))) (aB 6) (bL (tBM K "list" bG (aa 5) (af (aC (kA K A) (fun _=>E0) (af (tOp (aE K) (aa 6) (tC (.int 0))) (af (gc (eQ K A) (fun _=>E0) (aa 0) (af (tOp (aE K) (aa 5) (tUn dW (tC (.int 1)))) (am))) (af (tOp (aE K) (aa 6) (tC (.int 1))) (am))))) (am))))) (aA (bL (tBM K "list" bG (aa 5) (af (bB (af (tC (.str "row")) (af (aa 1) (af (gc (eQ K A) (fun _=>E0) (aa 0) (af (tOp (aE K) (aa 5) (tUn dW (tC (.int 1)))) (am))) (am))))) (am)))) (aK (aa 5)))))))
def JO (K:pv)(A:Adr):TS:=aK (gc (eQ K A) (fun _=>E0) (aa 0) (af (tOp (aE K) (aC (pI K A) (fun _=>E0) (af (aa 0) (af (aa 1) (af (aa 2) (af (aa 3) (am)))))) (tUn dW (tC (.int 1)))) (am)))
def Kx (K:pv)(A:Adr):TS:=aA (bL (aC (kN K A) (fun _=>E0) (af (aa 1) (am)))) (aA (aD (aC (pY K A) (fun _=>E0) (af (aa 0) (af (tOp (aE K) (aa 1) (tC (.int 0))) (af (aa 2) (af (aa 3) (am)))))) (aB 4)) (aA (aP (aJ (tOp (ci K) (aa 4) (tOp (aE K) (aa 1) (tC (.int 1))))) (dL) (aM)) (aK (tOp (aE K) (aa 3) (tC (.int 0))))))
def JW (K:pv)(A:Adr):TS:=aA (aD (tOp (aE K) (tOp (aE K) (aa 1) (tC (.int 1))) (tC (.int 0))) (aB 4)) (aA (iD (kB (af (aa 4) (am))) (aB 5) (aA (aD (qR K [3,5] (gd K (dg (af (aa 1) (af (aa 2) (am))))) (fun _ H Q=>Q true H) (bq A.c_Row "place_paper" (mB K A) (fun _=>E0) (tOp (aE K) (aa 2) (aa 0)) (af (tOp (aE K) (aa 1) (tC (.int 0))) (af (aa 3) (am))))) (aB 6)) (aA (aD (aC (kI K A) (fun _=>E0) (af (aa 0) (af (tOp (aE K) (aa 1) (tC (.int 1))) (af (aa 5) (af (tOp (aE K) (aa 6) (tC (.int 0))) (am)))))) (aB 7)) (aP (aJ (tOp (ci K) (aC (kI K A) (fun _=>E0) (af (aa 0) (af (tOp (aE K) (aa 2) (tC (.int 1))) (af (aa 5) (af (tOp (aE K) (aa 6) (tC (.int 1))) (am)))))) (aa 7))) (aK (tC (.bl false))) (aM))))) (aK (tC (.bl true))))
def wb (K:pv)(A:Adr)(q0:Addr):TSM:=nj (aC (pe K A) (fun _=>E0) (af (aa 1) (af (tOp (aE K) (aa 6) (aa 15)) (af (tOp (aE K) (aa 6) (tUn dW (tC (.int 1)))) (af (aa 3) (am))))))
def rg (K:pv)(A:Adr)(q0:Addr):TSM:=fQ (fb (aD (tOp (bF) (tOp (bw) (aC (fZ K A) (fun _=>E0) (af (aa 0) (af (tC (.int 3)) (am)))) (tC (.int 60))) (tCB (bO K) (af (aa 6) (am)))) (aB 15))) (wb K A q0)
def vR (K:pv)(A:Adr)(q0:Addr):TSM:=fQ (fb (iD (pU (af (tC (.int 13)) (af (tCB (kZ) (af (tCB (bO K) (af (aa 0) (am))) (af (tC (.int 50)) (am)))) (am)))) (aB 7) (aA (aD (tOp (bF) (tOp (aE K) (aa 0) (aa 7)) (tC (.int 3))) (aB 8)) (aA (aD (tOp (bF) (tOp (bw) (tOp (aE K) (aa 0) (aa 7)) (tC (.int 3))) (tOp (bu K) (tCB (bO K) (af (tOp (aE K) (aa 2) (aa 8)) (am))) (tC (.int 1)))) (aB 9)) (aA (aD (bq A.c_Row "mark_at" (jq K A) (fun _=>E0) (tOp (aE K) (aa 3) (aa 8)) (af (aa 9) (am))) (aB 10)) (aA (aD (bB (af (aa 9) (af (aa 10) (am)))) (aB 11)) (aA (aP (aJ (tOp (bM K) (tOp (bF) (tOp (bw) (tOp (aE K) (aa 0) (aa 7)) (tC (.int 33))) (tC (.int 8))) (tC (.int 5)))) (aD (bB (af (aa 9) (af (tOp (bu K) (tOp (lF) (tC (.int 10)) (tC (.int 59))) (tOp (bF) (tOp (bw) (tOp (aE K) (aa 0) (aa 7)) (tC (.int 264))) (tC (.int 60)))) (am)))) (aB 11)) (aM)) (aA (aD (tOp (bF) (tOp (fG) (tOp (aE K) (aa 0) (tOp (dv) (aa 7) (tC (.int 1)))) (tC (.int 48271))) (tC (.int 1000003))) (aB 12)) (aA (aD (aC (ix K A) (fun _=>E0) (af (aa 12) (af (aa 3) (af (aa 2) (af (aa 8) (af (aa 9) (af (tCB (bO K) (af (aa 5) (am))) (am)))))))) (aB 13)) (aA (aD (aC (il K A) (fun _=>E0) (af (aa 4) (af (tOp (bw) (tOp (aE K) (aa 0) (aa 7)) (tC (.int 5))) (af (aa 11) (af (aa 13) (am)))))) (aB 14)) (aA (aP (jU (aJ (tOp (bM K) (tOp (aE K) (aa 11) (tC (.int 1))) (aa 10))) (cX K (aC (gz K A) (fun _=>E0) (af (aa 3) (af (aa 2) (af (aa 8) (af (aa 9) (af (aa 5) (af (aa 13) (am)))))))))) (aA (aD (tSl (eE K) (tOp (aE K) (aa 2) (aa 8)) (cj) (dA (aa 9))) (aB 5)) (aA (bL (tBM K "list" bG (aa 6) (af (bB (af (aa 8) (af (aa 11) (am)))) (am)))) (aP (aJ (tOp (ci K) (aa 14) (aa 11))) (aK (tC (.bl false))) (aM)))) (aP (aJ (tOp (ci K) (aa 14) (dg (af (tC (.str "refused")) (af (tC (.bl true)) (am)))))) (aK (tC (.bl false))) (aM))) (aP (aJ (tOp (ci K) (cC K (aa 4) "held") (tOp (aE K) (tOp (aE K) (aa 6) (tUn dW (tC (.int 1)))) (tC (.int 1))))) (aK (tC (.bl false))) (aM))))))))))))) (rg K A q0)
def BV (K:pv)(A:Adr)(q0:Addr):TSM:=fQ (fb (aD (dg (af (bB (af (tC (.int 0)) (af (cC K (aa 4) "held") (am)))) (am))) (aB 6))) (vR K A q0)
def wq (K:pv)(A:Adr)(q0:Addr):TSM:=fQ (fb (aD (dg (am)) (aB 5))) (BV K A q0)
def EC (K:pv)(A:Adr)(q0:Addr):TSM:=fQ (fb (aD (aC (pE K A) (fun _=>E0) (af (aC (fZ K A) (fun _=>E0) (af (aa 0) (af (tC (.int 0)) (am)))) (am))) (aB 1))) (fQ (fb (aD (aC (pA K A) (fun _=>E0) (af (aa 0) (am))) (aB 2))) (fQ (fb (aD (fz [1] (gd K (aa 2)) (fun _ H Q=>Q true H) (aC (jA K A) (fun _=>E0) (af (aa 1) (af (aa 0) (am))))) (aB 3))) (fQ (fb (aD (iQ A.c_Desk (qA K A) (fun _=>E0) (af (aa 1) (af (tC (.int 4)) (af (lG A.t_53 ⟨441,43,441,65⟩ fI []) (am))))) (aB 4))) (wq K A q0))))
variable {K:pv}{mg:Str->Option tx}{A:Adr}
def tyD:Dat->String
 |.non=>"NoneType"
 |.bl _=>"bool"
 |.int _=>"int"
 |.str _=>"str"
 |.lst _=>"list"
 |.tup _=>"tuple"
 |.dic=>"dict"
theorem eM.ty {H:Hp}{v:V}{d:Dat}(h:eM H v d):tyN H v=some (tyD d):=by
 cases h with
 |lst e _=>unfold tyN;dsimp only;rw[e];rfl
 |tup e _=>unfold tyN;dsimp only;rw[e];rfl
 |dic e=>unfold tyN;dsimp only;rcases e with⟨kvs,e⟩|⟨kvs,e⟩<;>rw[e]<;>rfl
 |_=>rfl
theorem va {z:Str}(h:dJ z=true):PF z=true:=by
 unfold PF
 unfold dJ at h
 rw[SY]at h⊢
 intro i hi
 have:=of_decide_eq_true (h i hi)
 exact decide_eq_true (by omega)
theorem ixT {K:pv}{H:Hp}{Q:VK}{a:Addr}{xs:List V}{x:V}{i:Int}{j:Nat}(ha:H a=some (.tup xs))(e:i=j)(hx:xs[j]?=some x)(q:Q x H):aE K (.ref a) (.int i) H Q:=by
 subst e
 refine .inl (.inr (.inl ⟨a,xs,j,x,rfl,rfl,SqT.of ha,?_,q⟩))
 have hj:=(Lq.mp hx).1
 rw[qm (by omega) (by omega)]
 simp[LJ,hx]
theorem Er (K:pv)(A:Adr):Ln (gB K A) 1:=by rintro vs H Q E ⟨v,d,rfl,_⟩;rfl
theorem GX (T:Txt K mg A)(vs:List V)(H:Hp)(Q:VK)(E:XK)(h:gB K A vs H Q E):Jz K A {nx:=fun _ H'=>Q .non H',rt:=Q} (start ["thing"] vs) H:=by
 obtain⟨v,d,rfl,w,q⟩:=h
 refine⟨by decide,_,w.ty,?_⟩
 cases d
 case int i=>exact Sel.yes rfl ⟨by decide,_,w.ty,q⟩
 case bl b=>exact Sel.yes rfl ⟨by decide,_,w.ty,q⟩
 all_goals exact Sel.no rfl q
theorem Cj (K:pv)(A:Adr):Ln (ir K A) 1:=by rintro vs H Q E ⟨v,d,rfl,_⟩;rfl
theorem Gv (T:Txt K mg A)(vs:List V)(H:Hp)(Q:VK)(E:XK)(h:ir K A vs H Q E):Kd K A {nx:=fun _ H'=>Q .non H',rt:=Q} (start ["thing"] vs) H:=by
 obtain⟨v,d,rfl,w,q⟩:=h
 refine⟨v,d,rfl,w,?_⟩
 cases w with
 |int i=>
  refine Sel.yes rfl (Sel.dec (fun h0=>⟨⟨by decide,by decide,by decide⟩,?_⟩) (fun h0=>?_))
  ·show Q (.bl (decide (i<10^((60:Int).toNat)))) H
   have e:gS (.int i)=decide (i<10^((60:Int).toNat)):=by
    show decide (0<=i/\i<10^60)=decide (i<10^60)
    by_cases h1:i<10^60
    ·rw[decide_eq_true h1,decide_eq_true ⟨h0,h1⟩]
    ·rw[decide_eq_false h1,decide_eq_false fun z=>h1 z.2]
   rw[<-e];exact q
  ·have e:gS (.int i)=false:=decide_eq_false fun z=>h0 z.1
   rw[<-e];exact q
 |non=>exact Sel.no rfl ⟨by decide,_,rfl,q⟩
 |bl b=>exact Sel.no rfl ⟨by decide,_,rfl,q⟩
 |str z=>exact Sel.no rfl ⟨by decide,_,rfl,q⟩
 |lst e r=>exact Sel.no rfl ⟨by decide,_,(eM.lst e r).ty,q⟩
 |tup e r=>exact Sel.no rfl ⟨by decide,_,(eM.tup e r).ty,q⟩
 |dic e=>exact Sel.no rfl ⟨by decide,_,(eM.dic e).ty,q⟩
theorem vO {x y:Str}(h1:dJ x=true)(h2:dJ y=true):dJ (x++y)=true:=by
 unfold dJ at h1 h2⊢
 show(x.cps++y.cps).all _=true
 rw[Array.all_append,h1,h2];rfl
theorem vI (H:Hp)(m:Key):eM H (kV m) (mV m):=by cases m<;>constructor
theorem qE {K:pv}{H:Hp}{Q:VK}{a b:Key}(q:Q (.bl (decide (a=b))) H):bM K (kV a) (kV b) H Q:=by
 cases a<;>cases b
 ·rename_i i j
  have e:decide ((Oe i:Key)=Oe j)=decide (i=j):=by simp
  rw[e]at q;exact q
 ·have e:∀(i:Int)(j:Str),decide ((Oe i:Key)=Oq j)=false:=by simp
  rw[e]at q;exact q
 ·have e:∀(i:Int)(j:Str),decide ((Oq j:Key)=Oe i)=false:=by simp
  rw[e]at q;exact q
 ·rename_i i j
  have e:decide ((Oq i:Key)=Oq j)=decide (i=j):=by simp
  rw[e]at q;exact q
theorem rD {K:pv}{H:Hp}{Q:VK}{a:Key}(q:Q (.bl false) H):ci K (kV a) (kV a) H Q:=by
 cases a
 ·rename_i i
  have e:(!decide (i=i))=false:=by simp
  rw[<-e]at q;exact q
 ·rename_i i
  have e:(!decide (i=i))=false:=by simp
  rw[<-e]at q;exact q
theorem iT {H:Hp}{ps:List Addr}{ts:List (List Key)}(h:PK H ps ts):ps.length=ts.length:=Paired.length h
theorem nD {k:List Key}(h:okT k=true):1<=k.length/\k.length<=8:=by
 unfold okT at h
 simp only[Ms]at h
 exact of_decide_eq_true h.1.1
theorem dn {k:List Key}(h:okT k=true):k.all okP=true:=by
 unfold okT at h
 rw[Ms]at h
 exact h.2
theorem sV {k:List Key}{x:Key}(h:okT k=true)(hx:x∈k):okP x=true:=Nl.mp (dn h) x hx
theorem xq {k:List Key}(h:okT k=true):∃z r,k=.inr z::r:=by
 unfold okT at h
 simp only[Ms]at h
 cases k with
 |nil=>cases h.1.2
 |cons x r=>
  cases x with
  |inl i=>cases h.1.2
  |inr z=>exact⟨z,r,rfl⟩
theorem ym {x:Key}(h:okP x=true):gS (mV x)=true:=by
 cases x with
 |inl i=>exact h
 |inr z=>rfl
theorem oM {i:Int}(h0:0<=i)(h1:i<10^60):i.natAbs.log2<1920:=by
 by_cases e:i.natAbs=0
 ·rw[e];decide
 ·refine(Qz e).mpr ?_
  have:i.natAbs<10^60:=by omega
  exact LN this (by decide+kernel)
theorem gA {i:Int}(h0:0<=i)(h1:i<10^60):((toString i:String):Str).length<=61:=by
 have:i.natAbs<10^60:=by omega
 have:=int_text_length_le10 (k:=60) (by decide) this
 show(MU _).length<=_
 rw[RV];exact this
theorem iM (s:String)(h:s.length=1:=by rfl):(s:Str).length=1:=by
 show(MU s).length=1
 rw[RV];exact h
theorem oN {x:Key}(h:okP x=true):(cT x).length<=szK x:=by
 cases x with
 |inl i=>
  have h:=of_decide_eq_true h
  have:=gA h.1 h.2
  show(((toString i:String):Str)++((";":String):Str)).length<=62
  rw[Ol,iM ";"];omega
 |inr z=>
  have h:=of_decide_eq_true (Lv.mp h).2
  have:=gA (i:=(z.length:Int)) (by omega) (by omega)
  show(((toString (z.length:Int):String):Str)++((":":String):Str)++z).length<=z.length+62
  rw[Ol,Ol,iM ":"];omega
theorem Cu {x:Key}(h:okP x=true):szK x<=100062:=by
 cases x with
 |inl i=>show 62<=100062;decide
 |inr z=>
  have h:=of_decide_eq_true (Lv.mp h).2
  show z.length+62<=100062;omega
theorem qk:∀xs:List Key,bU xs=(xs.map cT).foldr (·++·) Nw
 |[]=>rfl
 |x::r=>by show cT x++bU r=cT x++_;rw[qk r]
theorem ie:∀{k:List Key},k.all okP=true->(bU k).length<=szT k
 |[],_=>by show Nw.length<=0;decide
 |x::r,h=>by
  rw[NS,Ms]at h
  have h1:=oN h.1
  have h2:=ie h.2
  show(cT x++bU r).length<=((x::r).map szK).sum
  rw[Ol,Md,Px]
  unfold szT at h2
  omega
theorem kJ {x y:Str}(h1:dJ x=true)(h2:dJ y=true):dJ (x++y)=true:=vO h1 h2
theorem xS {z:Str}(h:∀c∈z.cps.toList,c<128):dJ z=true:=by
 unfold dJ
 rw[SY]
 intro i hi
 exact decide_eq_true (h _ (by simp))
theorem Be (n:Nat):dJ ((toString (n:Int):String):Str)=true:=by
 refine xS fun c hc=>?_
 rw[Tu n]at hc
 obtain⟨ch,hch,e⟩:=MO.mp hc
 have:=digit_range (Ry (by decide) (by decide) hch)
 rw[<-e];omega
theorem sO {i:Int}(h:0<=i):dJ ((toString i:String):Str)=true:=by
 obtain⟨n,rfl⟩:=Mw h
 exact Be n
theorem vV {x:Key}(h:okP x=true):dJ (cT x)=true:=by
 cases x with
 |inl i=>
  have h:=of_decide_eq_true h
  exact kJ (sO h.1) (by decide+kernel)
 |inr z=>
  have h:=(Lv.mp h).1
  exact kJ (kJ (sO (by omega)) (by decide+kernel)) h
theorem iu:∀{k:List Key},k.all okP=true->dJ (bU k)=true
 |[],_=>by decide+kernel
 |x::r,h=>by
  rw[NS,Ms]at h
  exact kJ (vV h.1) (iu h.2)
theorem sD:∀{k:List Key},k.all okP=true->szT k<=k.length*100062
 |[],_=>by decide
 |x::r,h=>by
  rw[NS,Ms]at h
  have h1:=Cu h.1
  have h2:=sD h.2
  show((x::r).map szK).sum<=_
  rw[Md,Px,LU,Nat.succ_mul]
  unfold szT at h2
  omega
theorem qC:∀{k:List Key},k.all okP=true->((k.map cT).map (·.length)).sum<=szT k
 |[],_=>by decide
 |x::r,h=>by
  rw[NS,Ms]at h
  have h1:=oN h.1
  have h2:=qC h.2
  show(((x::r).map cT).map (·.length)).sum<=((x::r).map szK).sum
  rw[Md,Md,Px,Md,Px]
  unfold szT at h2
  omega
theorem BF (K:pv)(A:Adr):Ln (mK K A) 1:=by rintro vs H Q E ⟨p,k,rfl,_⟩;rfl
theorem HI (T:Txt K mg A):Rd (mK K A) (KZ K A) ["thing"]:=by
 intro vs H Q E h
 obtain⟨p,k,rfl,hp,ok,q⟩:=h
 obtain⟨l1,l8⟩:=nD ok
 obtain⟨z,r,hk⟩:=xq ok
 have ty:tyN H (.ref p)=some "tuple":=by unfold tyN;dsimp only;rw[hp]
 refine⟨by decide,"tuple",ty,Sel.no rfl (.inl (.inr (.inl ⟨_,SqT.of hp,?_⟩)))⟩
 refine Sel.dec (fun h1=>?_) (fun h1=>absurd (by simp;omega) h1)
 refine Sel.ndec (fun h8=>absurd (by simp;omega) h8) (fun h8=>?_)
 refine ixT (j:=0) hp rfl (by rw[hk];rfl) ⟨by decide,"str",rfl,Sel.yes rfl ?_⟩
 refine⟨p,rfl,.inr ⟨⟨_,SqT.of hp⟩,fun D hD=>?_⟩⟩
 have hne:p≠D:=ax hp hD
 have hml:(k.map kV).length=k.length:=by simp
 refine gK (da.tuple (xs:=k.map kV) .non) (fun i ys H2=>ys=(k.take i).map (fun x=>V.bl true)/\H2=upd H D (.lst ys)) (fun i ys H2 hi ⟨_,e2⟩=>?_) ⟨rfl,rfl⟩ (fun i ys H2 hi ⟨e1,e2⟩=>?_) (fun ys H2 ⟨e1,e2⟩=>?_)
 ·rw[e2];exact SqT.of (by rw[ao hne];exact hp)
 ·subst e2
  have hi':i<k.length:=by omega
  obtain⟨x,hx⟩:∃x,k[i]?=some x:=⟨_,Gt hi'⟩
  have hg:(k.map kV).getD i .non=kV x:=by rw[LJ,LO,hx];rfl
  rw[hg]
  have hs:=ym (sV ok (Lu hx))
  refine jZ ⟨_,mV x,rfl,vI _ x,?_⟩
  rw[hs]
  have hyl:ys.length=i:=by rw[e1,Ll,Ls];omega
  refine⟨ak,by rw[hyl];exact br (by omega),CWd.next hi ⟨?_,fO⟩⟩
  rw[e1,OJ,LL,hx];rfl
 ·subst e2
  refine⟨D,k.map fun _=>true,rfl,by rw[ak,e1,hml,NW,Ou];rfl,?_⟩
  have:(k.map fun _=>true).all id=true:=by simp
  rw[this];exact q _ (aw.upd hD)
theorem Dd (K:pv)(A:Adr):Ln (pW K A) 1:=by rintro vs H Q E ⟨v,rfl,_⟩;rfl
theorem FL (T:Txt K mg A):Rd (pW K A) (JE K A) ["part","signs"]:=by
 intro vs H Q E h
 obtain⟨v,rfl,hp,q⟩:=h
 cases v with
 |inl i=>
  have h:=of_decide_eq_true hp
  have l:=gA h.1 h.2
  refine⟨.int i,.int i,rfl,.int i,Sel.t ?_⟩
  have e1:Nw++((toString i:String):Str)=((toString i:String):Str):=Ua _
  have l2:(((toString i:String):Str)++((";":String):Str)).length<=sizeLine:=by rw[Ol,iM ";"];exact aH (by omega)
  refine⟨oM h.1 h.2,by rw[e1];exact aH (by omega),?_,?_,?_⟩<;>rw[e1]
  ·exact l2
  ·exact l2
  ·exact q
 |inr z=>
  have h:=of_decide_eq_true (Lv.mp hp).2
  have l:=gA (i:=(z.length:Int)) (by omega) (by omega)
  refine⟨.str z,.str z,rfl,.str z,Sel.f ?_⟩
  have e1:Nw++((toString (z.length:Int):String):Str)=((toString (z.length:Int):String):Str):=Ua _
  have l2:(((toString (z.length:Int):String):Str)++((":":String):Str)).length<=sizeLine:=by rw[Ol,iM ":"];exact aH (by omega)
  have l3:(((toString (z.length:Int):String):Str)++((":":String):Str)++z).length<=sizeLine:=by rw[Ol,Ol,iM ":"];exact aH (by omega)
  refine .inl ⟨aH (by omega),oM (by omega) (by omega),by rw[e1];exact aH (by omega),?_,aH (by omega),?_,?_,?_⟩<;>rw[e1]
  ·exact l2
  ·exact l3
  ·exact l3
  ·exact q
theorem Df (K:pv)(A:Adr):Ln (lQ K A) 1:=by rintro vs H Q E ⟨p,k,rfl,_⟩;rfl
theorem Je (T:Txt K mg A):Rd (lQ K A) (Ku K A) ["term"]:=by
 intro vs H Q E h
 obtain⟨p,k,rfl,hp,ok,q⟩:=h
 refine⟨p,k,rfl,hp,ok,fun H' s=>Sel.no rfl ?_⟩
 have hp':=s _ _ hp
 have hml:(k.map kV).length=k.length:=by simp
 obtain⟨l1,l8⟩:=nD ok
 refine⟨rfl,⟨p,rfl,.inr ⟨⟨_,SqT.of hp'⟩,fun D hD=>?_⟩⟩⟩
 have hne:p≠D:=ax hp' hD
 refine gK (da.tuple (xs:=k.map kV) .non) (fun i ys H2=>ys=(k.take i).map (fun x=>V.str (cT x))/\H2=upd H' D (.lst ys)) (fun i ys H2 hi ⟨_,e2⟩=>?_) ⟨rfl,rfl⟩ (fun i ys H2 hi ⟨e1,e2⟩=>?_) (fun ys H2 ⟨e1,e2⟩=>?_)
 ·rw[e2];exact SqT.of (by rw[ao hne];exact hp')
 ·subst e2
  have hi':i<k.length:=by omega
  obtain⟨x,hx⟩:∃x,k[i]?=some x:=⟨_,Gt hi'⟩
  have hg:(k.map kV).getD i .non=kV x:=by rw[LJ,LO,hx];rfl
  rw[hg]
  refine jZ ⟨x,rfl,sV ok (Lu hx),?_⟩
  have hyl:ys.length=i:=by rw[e1,Ll,Ls];omega
  refine⟨ak,by rw[hyl];exact br (by omega),CWd.next hi ⟨?_,fO⟩⟩
  rw[e1,OJ,LL,hx];rfl
 ·subst e2
  refine⟨"",D,k.map cT,rfl,rfl,by rw[ak,e1,hml,NW,Ou];rfl,?_,?_⟩
  ·have h1:=qC (dn ok)
   have h2:=sD (dn ok)
   have e0:(("":String):Str).length=0:=by decide
   rw[e0]
   have:k.length*100062<=8*100062:=Nat.mul_le_mul_right _ l8
   omega
  ·rw[Bs,<-qk]
   exact q _ (s.trans (aw.upd hD))
theorem GB (K:pv)(A:Adr):Ln (tP K A) 1:=by rintro vs H Q E ⟨x,dx,rfl,_⟩;rfl
theorem Kp (T:Txt K mg A):Rd (tP K A) (T_5 K A) ["self"]:=by
 intro vs H Q E h
 obtain⟨x,dx,rfl,hx,q⟩:=h
 exact .inr fun d hd=>⟨x,A.c_Numbers,dx,[],rfl,by rw[ao (ax hx hd)];exact hx,T.cl_Numbers,T.na_Numbers_given,by decide,q d hd⟩
theorem gH.mono {H H':Hp}{x d:Addr}{kvs:List (List Key×V)}(s:aw H H')(n:gH A H x d kvs):gH A H' x d kvs:=by
 obtain⟨⟨dx,h1⟩,h2⟩:=n
 exact⟨⟨dx,s _ _ h1⟩,s _ _ h2⟩
theorem gH.hide {H:Hp}{x d:Addr}{kvs:List (List Key×V)}{cs:List Addr}{cvs:List V}(hc:cG H cs cvs)(n:gH A H x d kvs):gH A (cR cs H) x d kvs:=by
 obtain⟨⟨dx,h1⟩,h2⟩:=n
 exact⟨⟨dx,hc.hide h1 (fun _ z=>nomatch z)⟩,hc.hide h2 (fun _ z=>nomatch z)⟩
theorem Fz (K:pv)(A:Adr):Ln (uP K A) 2:=by rintro vs H Q E ⟨x,d,p,kvs,k,rfl,_⟩;rfl
theorem JU (T:Txt K mg A):Rd (uP K A) (T_6 K A) ["self","term"]:=by
 intro vs H Q E h
 obtain⟨x,d,a,kvs,k,rfl,nu,hl,hp,ok,q⟩:=h
 refine⟨a,k,rfl,hp,ok,fun H' s=>Sel.no rfl ?_⟩
 have ta':=s _ _ hp
 obtain⟨⟨dx,hx⟩,hd⟩:=nu.mono s
 have q:=q H' s
 have g:=fJ.t hd ta'
 refine⟨x,A.c_Numbers,dx,_,.ref d,rfl,hx,T.cl_Numbers,T.na_Numbers_given,rfl,.inl ⟨d,cu kvs k,rfl,g,?_⟩⟩
 unfold jv jj at q
 cases e:cu kvs k with
 |some w=>
  rw[e]at q g
  have q:Q w H':=q
  exact Sel.no rfl ⟨x,A.c_Numbers,dx,_,.ref d,rfl,hx,T.cl_Numbers,T.na_Numbers_given,rfl,.inr ⟨d,w,rfl,g,q⟩⟩
 |none=>
  rw[e]at q g
  have q:Q (.int kvs.length) (upd H' d (.dT (cp kvs k (.int kvs.length)))):=q
  have hx':upd H' d (.dT (cp kvs k (.int kvs.length))) x=some (.ins A.c_Numbers dx [("given",.ref d)]):=by rw[ao (aU hx hd (fun z=>nomatch z))];exact hx
  have ha':upd H' d (.dT (cp kvs k (.int kvs.length))) a=some (.tup (k.map kV)):=by rw[ao (aU ta' hd (fun z=>nomatch z))];exact ta'
  refine Sel.yes rfl ⟨x,A.c_Numbers,dx,_,.ref d,rfl,hx,T.cl_Numbers,T.na_Numbers_given,rfl,.inr ⟨d,kvs,rfl,hd,x,A.c_Numbers,dx,_,.ref d,rfl,hx,T.cl_Numbers,T.na_Numbers_given,rfl,.inr ⟨d,_,rfl,.inr ⟨kvs,k,a,hd,rfl,ta',MM hl (aH (n:=50001) (by decide)),rfl⟩,?_⟩⟩⟩
  have g2:=fJ.t (kvs:=cp kvs k (.int kvs.length)) (k:=k) ak ha'
  rw[lJ,if_pos rfl]at g2
  exact⟨x,A.c_Numbers,dx,_,.ref d,rfl,hx',T.cl_Numbers,T.na_Numbers_given,rfl,.inr ⟨d,_,rfl,g2,q⟩⟩
theorem IQ (T:Txt K mg A)(a0:V)(H:Hp)(Q:VK)(E:XK)(h:tG K A [a0] H Q E):Dy K A (ef ["term"] [a0] []) H Q:=h
theorem Jh (T:Txt K mg A)(a0 b0:V)(H:Hp)(Q:VK)(E:XK)(h:uN K A [a0,b0] H Q E):Cp K A (ef ["term","numbers"] [a0] [b0]) H Q:=by
 obtain⟨x,d,p,kvs,k,e,nu,hl,hp,ok,h⟩:=h
 cases e
 obtain⟨dx,hx⟩:=nu.ob
 exact⟨x,dx,_,rfl,hx,rfl,x,d,p,kvs,k,rfl,nu,hl,hp,ok,h⟩
theorem CT {H:Hp}{b p:Addr}{kvs:List (List Key×V)}{kk:List Key}{d:V}(hb:H b=some (.dT kvs))(hp:H p=some (.tup (kk.map kV)))(hl:kvs.length<=50000):
  DS H b (.ref p) d (jv kvs kk d) (jj H b kvs kk d):=by
 unfold jv jj
 have g:=fJ.t hb hp
 cases e:cu kvs kk with
 |some v=>rw[e]at g;exact .inl ⟨g,if_pos rfl⟩
 |none=>rw[e]at g;exact .inr ⟨g,.inr ⟨kvs,kk,p,hb,rfl,hp,MM hl (aH (n:=50001) (by decide)),if_neg (by decide)⟩,rfl⟩
theorem bA.trans {P:Addr}{H H1 H2:Hp}(a:bA P H H1)(b:bA P H1 H2):bA P H H2:=fun x o e n=>b x o (a x o e n) n
theorem bA.new {P p:Addr}{H:Hp}{o:HO}(h:H p=none):bA P H (upd H p o):=fun b u e _=>by rw[ao (ax e h)];exact e
theorem bA.tab {P:Addr}{H:Hp}{o:HO}:bA P H (upd H P o):=fun b u e n=>by rw[ao n];exact e
theorem bS {H:Hp}{P q:Addr}{o:HO}(hP:H P=some o)(hq:H q=none):q≠P:=fun e=>by rw[e,hP]at hq;cases hq
theorem bN {H:Hp}{p q:Addr}{o:HO}(h:upd H p o q=none):q≠p/\H q=none:=by
 by_cases e:q=p
 ·subst e;rw[ak]at h;cases h
 ·rw[ao e]at h;exact⟨e,h⟩
theorem Ib {H:Hp}{P c f q:Addr}{o1 o2:HO}{t:dc}{v:V}(hP:H P=some o1)(hc:H c=none)(hf:H f=none)(hne:c≠f)(hq:upd (upd (upd H P o2) c (cE c t.qual)) f (dD f t [q] c) q=none):
  bA P H (upd (upd (upd (upd H P o2) c (cE c t.qual)) f (dD f t [q] c)) q (cg q v))/\df (upd (upd (upd (upd H P o2) c (cE c t.qual)) f (dD f t [q] c)) q (cg q v)) f t [q] [v]:=by
 have c1:upd H P o2 c=none:=by rw[ao (bS hP hc)];exact hc
 have f1:upd (upd H P o2) c (cE c t.qual) f=none:=by rw[ao (Mh hne),ao (bS hP hf)];exact hf
 have S3:=bA.new (P:=P) (o:=cg q v) hq
 have S2:=(bA.new (P:=P) (o:=dD f t [q] c) f1).trans S3
 have S1:=(bA.new (P:=P) (o:=cE c t.qual) c1).trans S2
 exact⟨bA.tab.trans S1,⟨⟨c,S3 _ _ ak (bS hP hf),S2 _ _ ak (bS hP hc)⟩,.cons ak .nil⟩⟩
theorem pZ:gj []:=fun p hp=>nomatch hp
theorem lW.of {P:Addr}{H H':Hp}{ps:Array tx}(hP:H P=some (.tbl ps))(k:bA P H H'):lW H H':=fun b o e n=>k b o e fun z=>by subst z;rw[hP]at e;cases e;exact n _ rfl
theorem vL {x:Int}(h:x.natAbs<2^64):Nn x<=64:=by
 unfold Nn
 split
 ·decide
 ·rename_i hx
  have hx:x≠0:=by simpa using hx
  have:x.natAbs.log2<64:=(Qz (by omega)).mpr h
  omega
theorem Jt {x y:Int}(h0:0<=x)(h:x<2^64):Uw x y:=IntMulOk.of_left (vL (by omega))
theorem CZ {x y:Int}(h0:0<=y)(h:y<2^64):Uw x y:=IntMulOk.of_right (vL (by omega))
theorem Fl {H:Hp}{P c f q0 q1:Addr}{o1 o2:HO}{t:dc}{v0 v1:V}(hP:H P=some o1)(hc:H c=none)(hf:H f=none)(hne:c≠f)(n01:q0≠q1)(h0:upd (upd (upd H P o2) c (cE c t.qual)) f (dD f t [q0,q1] c) q0=none)(h1:upd (upd (upd H P o2) c (cE c t.qual)) f (dD f t [q0,q1] c) q1=none):
  bA P H (upd (upd (upd (upd (upd H P o2) c (cE c t.qual)) f (dD f t [q0,q1] c)) q0 (cg q0 v0)) q1 (cg q1 v1))/\df (upd (upd (upd (upd (upd H P o2) c (cE c t.qual)) f (dD f t [q0,q1] c)) q0 (cg q0 v0)) q1 (cg q1 v1)) f t [q0,q1] [v0,v1]:=by
 have c1:upd H P o2 c=none:=by rw[ao (bS hP hc)];exact hc
 have f1:upd (upd H P o2) c (cE c t.qual) f=none:=by rw[ao (Mh hne),ao (bS hP hf)];exact hf
 have h1':upd (upd (upd (upd H P o2) c (cE c t.qual)) f (dD f t [q0,q1] c)) q0 (cg q0 v0) q1=none:=by rw[ao (Mh n01)];exact h1
 have S4:=bA.new (P:=P) (o:=cg q1 v1) h1'
 have S3:=(bA.new (P:=P) (o:=cg q0 v0) h0).trans S4
 have S2:=(bA.new (P:=P) (o:=dD f t [q0,q1] c) f1).trans S3
 have S1:=(bA.new (P:=P) (o:=cE c t.qual) c1).trans S2
 exact⟨bA.tab.trans S1,⟨⟨c,S3 _ _ ak (bS hP hf),S2 _ _ ak (bS hP hc)⟩,.cons (by rw[ao n01];exact ak) (.cons ak .nil)⟩⟩
theorem IE (T:Txt K mg A)(a0 b0 b1:V)(H:Hp)(Q:VK)(E:XK)(h:tW K A [a0,b0,b1] H Q E):Dr K A {nx:=fun _ H'=>Q .non H',rt:=Q} (ef ["_law_term","_law_step","_law_known"] [a0] [b0,b1]) H:=by
 obtain⟨p,b,j,k,kvs,e,j0,j1,hp,hb,hl,q⟩:=h
 cases e
 exact⟨.inr (.inr (.inl ⟨rfl,.inr ⟨_,hb⟩⟩)),.inr ⟨b,kvs,rfl,hb,Jt j0 (by omega),b,.ref p,_,_,_,rfl,rfl,CT hb hp hl,q⟩⟩
theorem Sub.rfl' {g:gOp}:Sub g g:=fun _ _ e=>e
theorem Sub.trans {g g1 g2:gOp}(a:Sub g g1)(b:Sub g1 g2):Sub g g2:=fun k v e=>b k v (a k v e)
theorem Ext.of {g g':gOp}{h:List Key->Key}(s:Sub g g')(e:Ext g' h):Ext g h:=fun k v z=>e k v (s k v z)
theorem iJ (kvs:List (List Key×Key))(k:List Key):cu (bK kvs) k=(cf kvs k).map kV:=by
 unfold cu bK cf
 rw[List.find?_map]
 simp only[Option.map_map]
 congr 1
theorem vN {kvs:List (List Key×Key)}{k:List Key}{v:Key}{x:List Key×Key}(h:cf kvs k=some v):cf (kvs++[x]) k=some v:=by
 unfold cf at h⊢
 rw[Tg]
 cases e:kvs.find? fun p=>decide (p.1=k)with
 |none=>rw[e]at h;cases h
 |some y=>rw[e]at h;exact h
theorem yz {kvs:List (List Key×Key)}{k:List Key}{d:Key}(h:cf kvs k=none):cf (kvs++[(k,d)]) k=some d:=by
 unfold cf at h⊢
 rw[Tg]
 cases e:kvs.find? fun p=>decide (p.1=k)with
 |none=>simp
 |some y=>rw[e]at h;cases h
theorem ze {kvs:List (List Key×Key)}{k:List Key}{v:Key}(h:cf kvs k=some v):cu (bK kvs) k=some (kV v):=by rw[iJ,h];rfl
theorem xU {kvs:List (List Key×Key)}{k:List Key}{v:Key}(hs:gj kvs)(h:cf kvs k=some v):iK v:=by
 unfold cf at h
 cases e:kvs.find? fun p=>decide (p.1=k)with
 |none=>rw[e]at h;cases h
 |some y=>
  rw[e]at h
  cases h
  exact hs y (RD e)
theorem rL {kvs:List (List Key×Key)}{x:List Key×Key}(h:gj kvs)(hx:iK x.2):gj (kvs++[x]):=fun p hp=>by
 rcases Mr.mp hp with z|z
 ·exact h p z
 ·rw[LK.mp z];exact hx
theorem mD {k:List Key}{v:Key}(hk:1<=k.length)(h:iK v):qu k v:=by
 cases v with
 |inl i=>exact h
 |inr z=>
  refine⟨h.1,Mi h.2 ?_⟩
  cases k with
  |nil=>simp at hk
  |cons x r=>
   show 62<=((x::r).map szK).sum
   rw[Md,Px]
   have:62<=szK x:=by cases x with
    |inl i=>exact gV 62
    |inr z=>show 62<=z.length+62;omega
   omega
theorem qY {H:Hp}{b:Addr}{cs:List Addr}{cvs:List V}{kvs:List (List Key×Key)}(kk:List Key)(d:Key)(hs:gj kvs)(hd:iK d)(hb:H b=some (.dT (bK kvs)))(hc:cG H cs cvs)(H1:Hp)(S:aw (cR cs H) H1):
  ∃(kvs':List (List Key×Key))(v:Key)(H':Hp),jv (bK kvs) kk (kV d)=kV v/\cz cs H (jj H1 b (bK kvs) kk (kV d))=H'/\H' b=some (.dT (bK kvs'))/\(∀x o,x≠b->H x=some o->H' x=some o)/\(kvs'=kvs\/kvs'=kvs++[(kk,d)])/\gj kvs'/\cf kvs' kk=some v/\iK v/\∀k v,cf kvs k=some v->cf kvs' k=some v:=by
 have hbc:b∉cs:=hc.notin hb fun _ z=>nomatch z
 have S2:=aw.hide cs S
 cases e:cf kvs kk with
 |some v=>
  have ev:=ze e
  refine⟨kvs,v,cz cs H H1,by unfold jv;rw[ev];rfl,?_,S2 _ _ hb,fun _ _ _ h=>S2 _ _ h,.inl rfl,hs,e,xU hs e,fun _ _ h=>h⟩
  unfold jj;rw[ev];rfl
 |none=>
  have ev:cu (bK kvs) kk=none:=by rw[iJ,e];rfl
  refine⟨kvs++[(kk,d)],d,upd (cz cs H H1) b (.dT (bK (kvs++[(kk,d)]))),by unfold jv;rw[ev];rfl,?_,ak,fun x o n h=>by rw[ao n];exact S2 _ _ h,.inr rfl,rL hs hd,yz e,hd,fun _ _ h=>vN h⟩
  unfold jj;rw[ev,if_neg (by decide),vz hbc,wY _ ev]
  unfold bK;rw[LL];rfl
theorem Lin.nil {a c:Int}:Lin a c []:=fun i p h=>by cases i<;>cases h
theorem Lin.snoc {a c:Int}{kvs:List (List Key×Key)}(s:Lin a c kvs)(k:List Key):Lin a c (kvs++[(k,.inl (a*(kvs.length:Int)+c))]):=fun i p h=>by
 rcases Rh i kvs.length with hi|hi|hi
 ·rw[Me hi]at h;exact s i p h
 ·rw[Mf (by omega),hi,Ow]at h
  cases h;rw[hi]
 ·rw[MP (by simp;omega)]at h;cases h
theorem Lin.step {a c:Int}{kvs kvs':List (List Key×Key)}{kk:List Key}(s:Lin a c kvs)(h:kvs'=kvs\/kvs'=kvs++[(kk,.inl (a*(kvs.length:Int)+c))]):Lin a c kvs'/\kvs'.length<=kvs.length+1:=by
 rcases h with rfl|rfl
 ·exact⟨s,NJ _⟩
 ·exact⟨s.snoc kk,by simp⟩
theorem nC {kvs:List (List Key×Key)}{k:List Key}{v:Key}(h:cf kvs k=some v):∃i:Nat,kvs[i]? =some (k,v):=by
 unfold cf at h
 cases e:kvs.find? fun p=>decide (p.1=k)with
 |none=>rw[e]at h;cases h
 |some p=>
  rw[e]at h
  obtain⟨i,hi⟩:=OP.mp (RD e)
  have h1:p.1=k:=by have:=List.find?_some e;exact of_decide_eq_true this
  have h2:p.2=v:=LR h
  exact⟨i,by rw[hi,<-h1,<-h2]⟩
theorem Lin.inj {a c:Int}{kvs:List (List Key×Key)}(ha:1<=a)(s:Lin a c kvs){k k':List Key}{v:Key}(h:cf kvs k=some v)(h':cf kvs k'=some v):k=k':=by
 obtain⟨i,hi⟩:=nC h
 obtain⟨j,hj⟩:=nC h'
 have e1:=s i _ hi
 have e2:=s j _ hj
 have e3:a*(i:Int)+c=a*(j:Int)+c:=Rb (e1.symm.trans e2)
 have e4:(i:Int)=j:=Int.eq_of_mul_eq_mul_left (by omega) (by omega:a*(i:Int)=a*j)
 have e5:i=j:=by omega
 subst e5
 rw[hi]at hj
 cases hj;rfl
theorem m0 {x:dc×Sp}{l:List (dc×Sp)}:x∈x::l:=Mm
theorem mS {x y:dc×Sp}{l:List (dc×Sp)}(h:x∈l):x∈y::l:=Mc _ h
theorem aR.trans {b:Addr}{H H1 H2:Hp}(a:aR b H H1)(c:aR b H1 H2):aR b H H2:=fun x o n e=>c x o n (a x o n e)
theorem aR.same {b:Addr}{H H':Hp}(S:aw H H'):aR b H H':=fun x o _ e=>S x o e
theorem BX (K:pv)(A:Adr):Ln (pb K A) 0:=by rintro vs H Q E ⟨rfl,_⟩;rfl
theorem Ip (T:Txt K mg A)(hnd:([]:List Addr).Nodup)(vs:List V)(H:Hp)(Q:VK)(E:XK)(h:pb K A vs H Q E):Fd K A {nx:=fun σ H'=>(∀p∈([]:List (Nat×Addr)),H' p.2=none)->Q .non (cr [] σ H'),rt:=fun σ v H'=>(∀p∈([]:List (Nat×Addr)),H' p.2=none)->Q v (cr [] σ H')} (L2.start [] vs) H:=by
 obtain⟨rfl,hP,q⟩:=h
 refine⟨#[],hP,trivial,.inl ⟨rfl,fun c f hc hf hne _=>?_⟩⟩
 have cP:=bS hP hc
 have fP:=bS hP hf
 have c1:∀o,upd H A.t_64 o c=none:=fun o=>by rw[ao cP];exact hc
 have f1:∀o,upd (upd H A.t_64 o) c (cE c fD.qual) f=none:=fun o=>by rw[ao (Mh hne),ao fP];exact hf
 exact q f _ (bA.tab.trans ((bA.new (c1 _)).trans (bA.new (f1 _)))) (.wri ⟨⟨c,ak,(ao hne).trans ak⟩,.nil⟩)
theorem Eg (K:pv)(A:Adr):Ln (oZ K A) 0:=by rintro vs H Q E ⟨rfl,_⟩;rfl
theorem Ht (T:Txt K mg A)(q0:Addr)(hnd:([q0]:List Addr).Nodup)(vs:List V)(H:Hp)(Q:VK)(E:XK)(h:oZ K A vs H Q E):Ci K A q0 {nx:=fun σ H'=>(∀p∈([(0,q0)]:List (Nat×Addr)),H' p.2=none)->Q .non (cr [(0,q0)] σ H'),rt:=fun σ v H'=>(∀p∈([(0,q0)]:List (Nat×Addr)),H' p.2=none)->Q v (cr [(0,q0)] σ H')} (L2.start ["numbers"] vs) H:=by
 obtain⟨rfl,hP,q⟩:=h
 intro x dx hx hdx hne
 refine⟨x,dx,rfl,ak,fun d hd=>⟨rfl,?_⟩⟩
 obtain⟨dnx,hd1⟩:=bN hd
 obtain⟨dndx,hd0⟩:=bN hd1
 have xP:=bS hP hx
 have dxP:=bS hP hdx
 have dP:=bS hP hd0
 generalize e2:upd (upd (upd (upd H dx (.own x)) x (.ins A.c_Numbers dx [])) d (.dT [])) x (.ins A.c_Numbers dx [("given",.ref d)])=H2
 have S2:bA A.t_36 H H2:=by
  intro b o e n
  have b1:=ax e hx
  have b2:=ax e hdx
  have b3:=ax e hd0
  rw[<-e2,ao b1,ao b3,ao b1,ao b2];exact e
 have hP2:H2 A.t_36=some (.tbl #[]):=by rw[<-e2,ao (Mh xP),ao (Mh dP),ao (Mh xP),ao (Mh dxP)];exact hP
 have hx2:H2 x=some (.ins A.c_Numbers dx [("given",.ref d)]):=by rw[<-e2,ak]
 have hd2:H2 d=some (.dT []):=by rw[<-e2,ao dnx,ak]
 refine⟨#[],hP2,trivial,.inl ⟨rfl,fun c f hc hf hne hq=>?_⟩⟩
 obtain⟨k,ca⟩:=Ib (v:=.ref x) hP2 hc hf hne (hq _ (LK.mpr rfl))
 exact q f _ (S2.trans k) (.sta d _ (.cnt q0 x [] ca ⟨⟨dx,k _ _ hx2 xP⟩,k _ _ hd2 dP⟩ (Mj _) pZ Lin.nil rfl))
theorem Ca (K:pv)(A:Adr):Ln (pN K A) 1:=by rintro vs H Q E ⟨j,rfl,_⟩;rfl
theorem Jf (T:Txt K mg A)(q0 q1:Addr)(hnd:([q0,q1]:List Addr).Nodup)(vs:List V)(H:Hp)(Q:VK)(E:XK)(h:pN K A vs H Q E):EF K A q0 q1 {nx:=fun σ H'=>(∀p∈([(0,q0),(1,q1)]:List (Nat×Addr)),H' p.2=none)->Q .non (cr [(0,q0),(1,q1)] σ H'),rt:=fun σ v H'=>(∀p∈([(0,q0),(1,q1)]:List (Nat×Addr)),H' p.2=none)->Q v (cr [(0,q0),(1,q1)] σ H')} (L2.start ["_law_step","_law_known","_law_stamp"] vs) H:=by
 obtain⟨j,rfl,j0,j1,hP,q⟩:=h
 have n01:q0≠q1:=fun e=>by simp[e]at hnd
 refine .inr fun b hb=>?_
 have bP:b≠A.t_31:=bS hP hb
 have hP1:upd H b (.dT []) A.t_31=some (.tbl #[]):=by rw[ao (Mh bP)];exact hP
 have S1:bA A.t_31 H (upd H b (.dT [])):=bA.new hb
 refine⟨#[],hP1,trivial,.inl ⟨rfl,fun c f hc hf hne hq=>?_⟩⟩
 obtain⟨k,ca⟩:=Fl (v0:=.int j) (v1:=.ref b) hP1 hc hf hne n01 (hq (0,q0) (by simp)) (hq (1,q1) (by simp))
 exact q f _ (S1.trans k) (.sta b _ (.sur q0 q1 j j0 j1 [] ca (k _ _ ak bP) (Mj _) pZ Lin.nil rfl))
theorem Ei (K:pv)(A:Adr):Ln (pE K A) 1:=by rintro vs H Q E ⟨c,rfl,_⟩;rfl
theorem Hs (T:Txt K mg A):Rd (pE K A) (Lb K A) ["_law_cell"]:=by
 intro vs H Q E h
 obtain⟨c,rfl,⟨t1,t2,t3,t4,t5,nd⟩,q⟩:=h
 have tb:∀(P:Addr)(H':Hp),A.t_26≠P->A.t_53≠P->bA P H H'->Ad A H':=fun P H' n1 n2 k=>⟨k _ _ t4 n1,k _ _ t5 n2⟩
 have ne:A.t_26≠A.t_64/\A.t_26≠A.t_36/\A.t_26≠A.t_31/\A.t_53≠A.t_64/\A.t_53≠A.t_36/\A.t_53≠A.t_31:=by
  simp only[MS,LG,MF,or_false,not_or]at nd
  obtain⟨⟨a1,a2,a3,a4⟩,⟨b1,b2,b3⟩,⟨c1,c2⟩,_⟩:=nd
  exact⟨Mh a3,Mh b2,Mh c1,Mh a4,Mh b3,Mh c2⟩
 obtain⟨n1,n2,n3,n4,n5,n6⟩:=ne
 refine⟨by decide,Sel.dec (fun h=>?_) (fun h=>?_)⟩
 ·exact⟨rfl,t1,fun f H' k s=>q f H' (.of t1 k) (tb _ _ n1 n4 k) s⟩
 refine⟨by decide,Sel.dec (fun h=>?_) (fun h=>?_)⟩
 ·exact⟨rfl,t2,fun f H' k s=>q f H' (.of t2 k) (tb _ _ n2 n5 k) s⟩
 ·exact⟨⟨by decide,by decide⟩,by decide,_,rfl,by omega,by omega,t3,fun f H' k s=>q f H' (.of t3 k) (tb _ _ n3 n6 k) s⟩
theorem Stp.clo {H:Hp}{f b:Addr}{g:gOp}{n:Nat}(s:Stp A H f b g n):∃ts∈eQ K A,∃cs cvs,df H f ts.1 cs cvs:=by
 cases s with
 |wri hc _ _=>exact⟨_,m0,_,_,hc⟩
 |cnt _ _ _ hc=>exact⟨_,mS m0,_,_,hc⟩
 |sur _ _ _ _ _ _ hc=>exact⟨_,mS (mS m0),_,_,hc⟩
theorem Stp.keep {H H':Hp}{f b:Addr}{g:List Key->Option Key}{n m:Nat}(s:Stp A H f b g n)(hn:n<=m)(k:∀z o,H z=some o->(∀xs,o≠.lst xs)->(∀ps,o≠.tbl ps)->(z=b\/∀kvs,o≠.dT kvs)->H' z=some o):Stp A H' f b g m:=by
 have kx:∀z φ,H z=some (.ext φ)->H' z=some (.ext φ):=fun z φ e=>k z _ e (fun _ z=>nomatch z) (fun _ z=>nomatch z) (.inr fun _ z=>nomatch z)
 have kd:∀xs,H b=some (.dT xs)->H' b=some (.dT xs):=fun φ e=>k b _ e (fun _ z=>nomatch z) (fun _ z=>nomatch z) (.inl rfl)
 cases s with
 |wri hc hb hg=>exact .wri (hc.keep kx) (hb.imp fun y e=>k _ _ e (fun _ z=>nomatch z) (fun _ z=>nomatch z) (.inr fun _ z=>nomatch z)) hg
 |cnt q x kvs hc num hl hs st hg=>
  obtain⟨⟨dx,h1⟩,h2⟩:=num
  exact .cnt q x kvs (hc.keep kx) ⟨⟨dx,k _ _ h1 (fun _ z=>nomatch z) (fun _ z=>nomatch z) (.inr fun _ z=>nomatch z)⟩,kd _ h2⟩ (Mi hl hn) hs st hg
 |sur q0 q1 j j0 j1 kvs hc hb hl hs st hg=>exact .sur q0 q1 j j0 j1 kvs (hc.keep kx) (kd _ hb) (Mi hl hn) hs st hg
theorem Stp.same {H H':Hp}{f b:Addr}{g:gOp}{n m:Nat}(s:Stp A H f b g n)(hn:n<=m)(S:aw H H'):Stp A H' f b g m:=s.keep hn fun b o e _ _ _=>S b o e
theorem dQ {H:Hp}{f b p:Addr}{g:List Key->Option Key}{n:Nat}{k:List Key}{R:VK}(s:Stp A H f b g n)(hn:n<=45000)(hp:H p=some (.tup (k.map kV)))(ok:okT k=true)
  (q:∀(v:Key)(H':Hp)(g':List Key->Option Key),aR b H H'->Stp A H' f b g' (n+1)->Sub g g'->g' k=some v->qu k v->R (kV v) H'):mF (eQ K A) f [.ref p] H R E0:=by
 have s0:=s
 have hk:=(nD ok).1
 have ll:∀kvs:List (List Key×Key),(bK kvs).length=kvs.length:=fun kvs=>by simp[bK]
 cases s with
 |wri hc hb hg=>
  refine⟨_,m0,_,_,hc,rfl,p,k,rfl,hc.cells.hide hp (fun _ z=>nomatch z),ok,fun H' S=>?_⟩
  have S:=aw.hide _ S
  exact q (.inr (bU k)) _ g (aR.same S) (s0.same (NJ _) S) Sub.rfl' (by rw[hg]) ⟨iu (dn ok),ie (dn ok)⟩
 |cnt c x kvs hc num hl hs lin hg=>
  have p60:(50000:Int)<10^60:=by decide+kernel
  refine⟨_,mS m0,_,_,hc,rfl,x,b,p,bK kvs,k,rfl,num.hide hc.cells,by rw[ll];omega,hc.cells.hide hp (fun _ z=>nomatch z),ok,fun H' S=>?_⟩
  obtain⟨dx,hx⟩:=num.ob
  obtain⟨kvs',v,H2,ev,eH,hb',keep,hl',hs',gv,sv,sub⟩:=qY k (.inl ((bK kvs).length:Int)) hs (show 0<=_/\_<_ from⟨by omega,by rw[ll];omega⟩) num.di hc.cells H' S
  obtain⟨lin',hl'⟩:=lin.step (by rw[ll]at hl';rw[Int.one_mul,Int.add_zero];exact hl')
  rw[show V.int ((bK kvs).length:Int)=kV (.inl ((bK kvs).length:Int))from rfl,ev,eH]
  refine q v H2 (cf kvs') (fun x o n e=>keep x o n e)
   (.cnt c x kvs' (hc.keep fun x φ e=>keep x _ (aU e num.di (fun z=>nomatch z)) e) ⟨⟨dx,keep _ _ (aU hx num.di (fun z=>nomatch z)) hx⟩,hb'⟩ (by omega) hs' lin' rfl) ?_ gv (mD hk sv)
  rw[hg];exact sub
 |sur q0 q1 j j0 j1 kvs hc hb hl hs lin hg=>
  have p60:(50000000:Int)<10^60:=by decide+kernel
  have bd:0<=j*((bK kvs).length:Int)+5/\j*((bK kvs).length:Int)+5<10^60:=by
   rw[ll]
   have h1:j*(kvs.length:Int)<=1000*45000:=UC (by omega) (by omega) (by omega) (by decide)
   have h2:0<=j*(kvs.length:Int):=UB (by omega) (by omega)
   omega
  obtain⟨kvs',v,H2,ev,eH,hb',keep,hl',hs',gv,sv,sub⟩:=qY k (.inl (j*((bK kvs).length:Int)+5)) hs bd hb hc.cells _ (.refl _)
  obtain⟨lin',hl'⟩:=lin.step (by rw[ll]at hl';exact hl')
  refine⟨_,mS (mS m0),_,_,hc,rfl,p,b,j,k,bK kvs,rfl,by omega,j1,hc.cells.hide hp (fun _ z=>nomatch z),hc.cells.hide hb (fun _ z=>nomatch z),by rw[ll];omega,?_⟩
  dsimp only
  rw[show V.int (j*((bK kvs).length:Int)+5)=kV (.inl (j*((bK kvs).length:Int)+5))from rfl,ev,eH]
  refine q v H2 (cf kvs') (fun x o n e=>keep x o n e)
   (.sur q0 q1 j j0 j1 kvs' (hc.keep fun x φ e=>keep x _ (aU e hb (fun z=>nomatch z)) e) hb' (by omega) hs' lin' rfl) ?_ gv (mD hk sv)
  rw[hg];exact sub
theorem bE {n:Nat}(h:2<=n):1<=aj n/\aj n<n:=by
 unfold aj
 have h1:=Ug (n:=n- 1) (by omega)
 exact⟨Nat.one_le_two_pow,by omega⟩
theorem oH (h:List Key->Key):∀(n m:Nat)(es:List Key),es.length<=n->es.length<=m->gN h n es=gN h m es:=by
 intro n
 induction n with
 |zero=>
  intro m es h1 h2
  cases es with
  |nil=>cases m<;>rfl
  |cons a r=>simp at h1
 |succ n ih=>
  intro m es h1 h2
  cases m with
  |zero=>
   cases es with
   |nil=>rfl
   |cons a r=>simp at h2
  |succ m=>
   match es,h1,h2 with
   |[],_,_=>rfl
   |[e],_,_=>rfl
   |a::b::r,h1,h2=>
    have hl:2<=(a::b::r).length:=by simp
    obtain⟨g1,g2⟩:=bE hl
    show[_,h (gN h n ((a::b::r).take _)),h (gN h n ((a::b::r).drop _))]=[_,h (gN h m _),h (gN h m _)]
    rw[ih m _ (by rw[Ls];omega) (by rw[Ls];omega),ih m _ (by rw[Lz];omega) (by rw[Lz];omega)]
theorem oF (h:List Key->Key):bh h []=[.inr "void"]:=rfl
theorem jK (h:List Key->Key)(e:Key):bh h [e]=[.inr "entry",e]:=rfl
theorem dm (h:List Key->Key){es:List Key}(hl:2<=es.length):bh h es=[.inr "joint",h (bh h (es.take (aj es.length))),h (bh h (es.drop (aj es.length)))]:=by
 obtain⟨g1,g2⟩:=bE hl
 unfold bh
 match es,hl with
 |a::b::r,hl=>
  show[_,h (gN h ((b::r).length) ((a::b::r).take _)),h (gN h ((b::r).length) ((a::b::r).drop _))]=_
  have e:(a::b::r).length=(b::r).length+1:=rfl
  rw[oH h ((b::r).length) ((a::b::r).take (aj (a::b::r).length)).length _ (by rw[Ls];omega) (gV _),oH h ((b::r).length) ((a::b::r).drop (aj (a::b::r).length)).length _ (by rw[Lz];omega) (gV _)]
theorem wX {a c:Nat}(h1:1<=c)(h2:c<=2^a):aj (2^a+c)=2^a:=by
 unfold aj
 congr 1
 have hp:0<2^a:=Nat.two_pow_pos a
 have e1:2^(a+1)=2^a+2^a:=by rw[Nat.pow_succ];omega
 have n0:2^a+c- 1≠0:=by omega
 have lo:a<=Qh (2^a+c- 1):=(Nat.le_log2 n0).mpr (by omega)
 have hi:Qh (2^a+c- 1)<a+1:=(Qz n0).mpr (by omega)
 omega
theorem rH {H:Hp}(x:Key):eM H (kV x) (mV x):=by
 cases x with
 |inl i=>exact .int i
 |inr z=>exact .str z
theorem ixL {K:pv}{H:Hp}{Q:VK}{a:Addr}{xs:List V}{x:V}{i:Int}{j:Nat}(ha:H a=some (.lst xs))(e:i=j)(hx:xs[j]?=some x)(q:Q x H):aE K (.ref a) (.int i) H Q:=by
 subst e
 refine .inl (.inl ⟨a,xs,j,x,rfl,rfl,SqL.of ha,?_,q⟩)
 have hj:=(Lq.mp hx).1
 rw[qm (by omega) (by omega)]
 simp[LJ,hx]
theorem ik {e:Key}(h:okP e=true):gS (mV e)=true:=by
 cases e with
 |inl i=>exact h
 |inr z=>rfl
theorem BY (K:pv)(A:Adr):Ln (hV K A) 1:=by rintro vs H Q E ⟨m,rfl,_⟩;rfl
theorem IR (T:Txt K mg A):Rd (hV K A) (Jx K A) ["many"]:=by
 intro vs H Q E h
 obtain⟨m,rfl,h2,h60,q⟩:=h
 have e:(Nn ((m:Int)- 1):Int)- 1=((Qh (m- 1):Nat):Int):=by
  unfold Nn
  rw[if_neg (by simp;omega)]
  have:((m:Int)- 1).natAbs=m- 1:=by omega
  rw[this];omega
 have hl:Qh (m- 1)<60:=by
  have h1:=Ug (n:=m- 1) (by omega)
  exact(Nat.pow_lt_pow_iff_right (by decide:1<2)).mp (by omega:2^Qh (m- 1)<2^60)
 refine⟨rfl,?_⟩
 show((0<=(Nn ((m:Int)- 1):Int)- 1/\_/\_)/\Q (.int (1*2^((Nn ((m:Int)- 1):Int)- 1).toNat)) H)
 rw[e]
 refine⟨⟨by omega,by omega,by decide⟩,?_⟩
 rw[Int.one_mul,Nu,<-Iq]
 exact q
theorem DR (K:pv)(A:Adr):Ln (km K A) 1:=by rintro vs H Q E ⟨i,rfl,_⟩;rfl
theorem FT (T:Txt K mg A):Rd (km K A) (JK K A) ["thing"]:=by
 intro vs H Q E h
 obtain⟨i,rfl,h0,h1,q⟩:=h
 refine⟨_,_,rfl,.int i,Sel.t (Sel.yes (decide_eq_true h0) ⟨by decide,?_⟩)⟩
 have e:decide (i<1*2^(60:Int).toNat)=true:=decide_eq_true (by show i<1*2^60;omega)
 show Q (.bl (decide (i<1*2^(60:Int).toNat))) H
 rw[e];exact q
theorem CM (K:pv)(A:Adr):Ln (lZ K A) 2:=by rintro vs H Q E ⟨i,j,rfl,_⟩;rfl
theorem Hw (T:Txt K mg A):Rd (lZ K A) (Js K A) ["count","place"]:=by
 intro vs H Q E h
 obtain⟨c,p,rfl,h0,h1,h2,q⟩:=h
 refine⟨c,rfl,by omega,h2,Sel.t ⟨_,_,rfl,.int p,Sel.t (Sel.yes (decide_eq_true h0) ?_)⟩⟩
 show Q (.bl (decide (p<c))) H
 rw[decide_eq_true h1];exact q
theorem CC (K:pv)(A:Adr):Ln (mH K A) 2:=by rintro vs H Q E ⟨i,j,rfl,_⟩;rfl
theorem Hi (T:Txt K mg A):Rd (mH K A) (JH K A) ["count","elder"]:=by
 intro vs H Q E h
 obtain⟨c,p,rfl,h0,h1,h2,q⟩:=h
 refine⟨c,rfl,by omega,h2,Sel.t ⟨_,_,rfl,.int p,Sel.t (Sel.yes (decide_eq_true h0) ?_)⟩⟩
 show Q (.bl (decide (p<=c))) H
 rw[decide_eq_true h1];exact q
theorem BH (K:pv)(A:Adr):Ln (fZ K A) 2:=by rintro vs H Q E ⟨a,ns,k,rfl,_⟩;rfl
theorem IC (T:Txt K mg A):Rd (fZ K A) (Li K A) ["_law_script","_law_k"]:=by
 intro vs H Q E h
 obtain⟨a,ns,k,rfl,hs,h0,q⟩:=h
 refine .inl (.inl ⟨_,hs,Sel.dec (fun h=>?_) (fun h=>q 0)⟩)
 obtain⟨v,hv⟩:=Ej h0 h
 obtain⟨j,_,hj,_⟩:=kq hv
 obtain⟨z,_,rfl⟩:=iX hj
 exact .inl (.inl ⟨a,_,k,_,rfl,rfl,hs,hv,q z⟩)
theorem Fw (K:pv)(A:Adr):Ln (ul K A) 2:=by rintro vs H Q E ⟨x,dx,f,rfl,_⟩;rfl
theorem KA (T:Txt K mg A):Rd (ul K A) (T_8 K A) ["self","stamper"]:=by
 intro vs H Q E h
 obtain⟨x,dx,f,rfl,hx,q⟩:=h
 refine⟨x,A.c_Row,dx,[],rfl,hx,T.cl_Row,T.na_Row_stamper,by decide,Mj _,fun L hL=>?_⟩
 obtain⟨Lx,hL⟩:=bN hL
 refine⟨x,A.c_Row,dx,_,rfl,by rw[ao (Mh Lx)];exact ak,T.cl_Row,T.na_Row_entries,by show 1<1000;decide,.inr fun D hD=>?_⟩
 obtain⟨Dx,hD⟩:=bN hD
 obtain⟨DL,hD⟩:=bN hD
 obtain⟨_,hD⟩:=bN hD
 refine⟨x,A.c_Row,dx,_,rfl,by rw[ao (Mh Dx)];exact ak,T.cl_Row,T.na_Row_tops,by show 2<1000;decide,q L D _ (fun z o zx e=>?_) hL hD (Mh DL) ak ?_ ?_⟩
 ·rw[ao zx,ao (ax e hD),ao zx,ao (ax e hL),ao zx];exact e
 ·rw[ao Lx,ao (Mh DL),ao Lx];exact ak
 ·rw[ao Dx];exact ak
theorem Hj (K:pv)(A:Adr):Ln (uo K A) 2:=by rintro vs H Q E ⟨x,f,L,D,es,kvs,e,rfl,_⟩;rfl
theorem Kq (T:Txt K mg A):Rd (uo K A) (T_9 K A) ["self","entry"]:=by
 intro vs H Q E h
 obtain⟨x,f,L,D,es,kvs,e,rfl,r,en,le,q⟩:=h
 obtain⟨dx,hx⟩:=r.ob
 have q:Q (.int (es.length:Int)) (upd H L (.lst (es.map kV++[kV e]))):=by
  rw[LL]at q;exact q
 refine⟨_,_,rfl,rH e,Sel.no (by rw[ik en.1];rfl) ⟨x,A.c_Row,dx,_,.ref L,rfl,hx,T.cl_Row,T.na_Row_entries,rfl,.inl ⟨rfl,_,SqL.of r.hl⟩,L,_,_,rfl,rfl,r.hl,?_,?_⟩⟩
 ·rw[Ll];exact LN le (aH (by decide))
 ·have hL:x≠L:=aU hx r.hl (fun z=>nomatch z)
  refine⟨x,A.c_Row,dx,_,.ref L,rfl,by rw[ao hL];exact hx,T.cl_Row,T.na_Row_entries,rfl,.inl (.inl ⟨_,SqL.of ak,?_⟩)⟩
  have e:(((es.map kV++[kV e]).length:Nat):Int)- 1=(es.length:Int):=by simp
  show Q (.int ((((es.map kV++[kV _]).length:Nat):Int)- 1)) _
  rw[e];exact q
theorem Et (K:pv)(A:Adr):Ln (kH K A) 1:=by rintro vs H Q E ⟨x,f,L,D,es,kvs,rfl,_⟩;rfl
theorem Ii (T:Txt K mg A):Rd (kH K A) (KF K A) ["self"]:=by
 intro vs H Q E h
 obtain⟨x,f,L,D,es,kvs,rfl,r,q⟩:=h
 obtain⟨dx,hx⟩:=r.ob
 refine⟨x,A.c_Row,dx,_,.ref L,rfl,hx,T.cl_Row,T.na_Row_entries,rfl,.inl (.inl ⟨_,SqL.of r.hl,?_⟩)⟩
 rw[Ll];exact q
theorem BP (K:pv)(A:Adr):Ln (mw K A) 3:=by rintro vs H Q E ⟨x,f,L,D,es,kvs,c,p,rfl,_⟩;rfl
theorem Hk (T:Txt K mg A):Rd (mw K A) (Lc K A) ["self","count","elder"]:=by
 intro vs H Q E h
 obtain⟨x,f,L,D,es,kvs,c,p,rfl,r,h0,h1,h2,q⟩:=h
 obtain⟨dx,hx⟩:=r.ob
 have:=r.le
 refine⟨c,p,rfl,h0,h1,by omega,Sel.t ⟨x,dx,_,rfl,hx,rfl,x,f,L,D,es,kvs,rfl,r,?_⟩⟩
 show Q (.bl (decide (c<=(es.length:Int)))) H
 rw[decide_eq_true h2];exact q
theorem ED (K:pv)(A:Adr):Ln (pf K A) 3:=by rintro vs H Q E ⟨x,f,L,D,es,kvs,c,p,rfl,_⟩;rfl
theorem FI (T:Txt K mg A):Rd (pf K A) (JT K A) ["self","count","place"]:=by
 intro vs H Q E h
 obtain⟨x,f,L,D,es,kvs,c,p,rfl,r,h0,h1,h2,q⟩:=h
 obtain⟨dx,hx⟩:=r.ob
 have:=r.le
 refine⟨c,p,rfl,h0,h1,by omega,Sel.t ⟨x,dx,_,rfl,hx,rfl,x,f,L,D,es,kvs,rfl,r,?_⟩⟩
 show Q (.bl (decide (c<=(es.length:Int)))) H
 rw[decide_eq_true h2];exact q
theorem er {K:pv}{H:Hp}{Q:VK}{L:Addr}{qs:List V}{p:V}(hL:H L=some (.lst (qs++[p])))(q:Q p H):aE K (.ref L) (.int (-1)) H Q:=
 .inl (.inl ⟨L,_,-1,p,rfl,rfl,SqL.of hL,zj _ _,q⟩)
theorem jR {w:Str}{r:List Key}(hw:okP (.inr w)=true)(hr:∀x∈r,okP x=true)(hl:r.length<=7):okT (.inr w::r)=true:=by
 show(decide (1<=r.length+1/\r.length+1<=8)&&true&&(okP (.inr w)&&r.all okP))=true
 rw[hw,Nl.mpr hr,decide_eq_true (by omega)];rfl
theorem ja {k:List Key}{v:Key}(h:qu k v):szK v<=szT k+62:=by
 cases v with
 |inl i=>exact Nat.le_add_left _ _
 |inr z=>exact Nat.add_le_add_right h.2 _
theorem eY {k:List Key}{v:Key}(h:qu k v)(hs:szT k<=100000):okP v=true:=by
 cases v with
 |inl i=>exact decide_eq_true h
 |inr z=>
  show(dJ z&&decide (z.length<=100000))=true
  rw[h.1,decide_eq_true (Mi h.2 hs)];rfl
theorem mf:∀{a b:Key},kV a=kV b->a=b
 |.inl _,.inl _,h=>by cases h;rfl
 |.inr _,.inr _,h=>by cases h;rfl
theorem Bu (kvs:List (List Key×Key))(k:List Key)(v:Key):∃kvs',bK kvs'=cp (bK kvs) k (kV v)/\kvs'.length<=kvs.length+1/\∀j,cf kvs' j=if j=k then some v else cf kvs j:=by
 have fin:∀kvs':List (List Key×Key),bK kvs'=cp (bK kvs) k (kV v)->∀j,cf kvs' j=if j=k then some v else cf kvs j:=by
  intro kvs' e j
  have h:=iJ kvs' j
  rw[e,lJ,iJ]at h
  by_cases hj:j=k
  ·rw[if_pos hj]at h⊢
   cases g:cf kvs' j with
   |none=>rw[g]at h;cases h
   |some w=>rw[g]at h;rw[mf (LR h)]
  ·rw[if_neg hj]at h⊢
   cases g:cf kvs' j with
   |none=>
    rw[g]at h
    cases g2:cf kvs j with
    |none=>rfl
    |some w=>rw[g2]at h;cases h
   |some w=>
    rw[g]at h
    cases g2:cf kvs j with
    |none=>rw[g2]at h;cases h
    |some u=>rw[g2]at h;rw[mf (LR h)]
 by_cases c:((bK kvs).any fun kv=>decide (kv.1=k))=true
 ·have e:bK (kvs.map fun kv=>if kv.1=k then(kv.1,v)else kv)=cp (bK kvs) k (kV v):=by
   unfold cp
   rw[if_pos c]
   unfold bK
   rw[Ou,Ou]
   apply List.map_congr_left
   intro p _
   show((if p.1=k then(p.1,v)else p).1,kV (if p.1=k then(p.1,v)else p).2)=if p.1=k then(p.1,kV v)else(p.1,kV p.2)
   by_cases h:p.1=k
   ·rw[if_pos h,if_pos h]
   ·rw[if_neg h,if_neg h]
  exact⟨_,e,by rw[Ll];omega,fin _ e⟩
 ·have e:bK (kvs++[(k,v)])=cp (bK kvs) k (kV v):=by
   unfold cp
   rw[if_neg c]
   unfold bK
   rw[LL];rfl
  exact⟨_,e,by simp,fin _ e⟩
theorem kG.mono {g g':gOp}{es:List Key}{kvs:List (List Key×Key)}(c:kG g es kvs)(s:Sub g g'):kG g' es kvs:=fun k v e=>by
 obtain⟨a,m,h1,h2,h3,h4,h5⟩:=c k v e
 exact⟨a,m,h1,h2,h3,h4,fun h x=>h5 h (Ext.of s x)⟩
theorem okW:okP (.inr "void")=true/\okP (.inr "entry")=true/\okP (.inr "joint")=true/\okP (.inr "row")=true:=by decide+kernel
theorem okN {c:Nat}(h:c<=1000):okP (.inl (c:Int))=true:=by
 have p60:(1000:Int)<10^60:=by decide+kernel
 have k:∀i:Int,0<=i->i<10^60->okP (.inl i)=true:=fun i h0 h1=>decide_eq_true ⟨h0,h1⟩
 exact k _ (by omega) (by omega)
theorem szW:szK (.inr "void")=66/\szK (.inr "entry")=67/\szK (.inr "joint")=67/\szK (.inr "row")=65:=by decide+kernel
theorem sz2 (x y:Key):szT [x,y]=szK x+szK y:=by simp[szT]
theorem sz3 (x y z:Key):szT [x,y,z]=szK x+(szK y+szK z):=by simp[szT]
theorem sz1 (x:Key):szT [x]=szK x:=by simp[szT]
theorem je:okT [.inr "void"]=true:=jR okW.1 (fun _ h=>nomatch h) (by decide)
theorem jS {e:Key}(h:okP e=true):okT [.inr "entry",e]=true:=jR okW.2.1 (fun x hx=>by rw[LK.mp hx];exact h) (show 1<=7 by decide)
theorem cN {x y:Key}(hx:okP x=true)(hy:okP y=true):okT [.inr "joint",x,y]=true:=jR okW.2.2.1 (fun z hz=>by
 rcases LG.mp hz with h|h
 ·rw[h];exact hx
 ·rw[LK.mp h];exact hy) (show 2<=7 by decide)
theorem dO {c:Nat}{y:Key}(hc:c<=1000)(hy:okP y=true):okT [.inr "row",.inl (c:Int),y]=true:=jR okW.2.2.2 (fun z hz=>by
 rcases LG.mp hz with h|h
 ·rw[h];exact okN hc
 ·rw[LK.mp h];exact hy) (show 2<=7 by decide)
theorem Stp.bb {H:Hp}{f b:Addr}{g:gOp}{n:Nat}(s:Stp A H f b g n):(∃y,H b=some (.own y))\/∃kvs,H b=some (.dT kvs):=by
 cases s with
 |wri hc hb hg=>exact .inl hb
 |cnt q x kvs hc num hl hs st hg=>exact .inr ⟨_,num.di⟩
 |sur q0 q1 j h0 h1 kvs hc hb hl hs st hg=>exact .inr ⟨_,hb⟩
theorem Stp.nb {H:Hp}{f b z:Addr}{g:gOp}{n:Nat}{o:HO}(s:Stp A H f b g n)(h:H z=some o)(h1:∀y,o≠.own y)(h2:∀kvs,o≠.dT kvs):z≠b:=by
 rcases s.bb with⟨y,e⟩|⟨kvs,e⟩
 ·exact aU h e (h1 y)
 ·exact aU h e (h2 kvs)
theorem dI.same {H H':Hp}{x f L D:Addr}{es:List Key}{kvs:List (List Key×Key)}(r:dI A H x f L D es kvs)(S:aw H H'):dI A H' x f L D es kvs:=by
 obtain⟨dx,hx⟩:=r.ob
 exact⟨⟨dx,S _ _ hx⟩,S _ _ r.hl,S _ _ r.hd,r.en,r.le⟩
section
variable {H H':Hp}{x f L D b:Addr}{es:List Key}{kvs:List (List Key×Key)}{g g':gOp}{n m:Nat}
theorem cV.same (r:cV A H x f L D b es kvs g n)(S:aw H H')(hn:n<=m):cV A H' x f L D b es kvs g m:=⟨r.r.same S,r.s.same hn S,r.c,r.db,Mi r.kl hn⟩
theorem cV.call (r:cV A H x f L D b es kvs g n)(kb:aR b H H')(s:Stp A H' f b g' m)(sub:Sub g g')(hn:n<=m):cV A H' x f L D b es kvs g' m:=by
 obtain⟨dx,hx⟩:=r.r.ob
 exact⟨⟨⟨dx,kb _ _ (r.s.nb hx (fun _ z=>nomatch z) (fun _ z=>nomatch z)) hx⟩,kb _ _ (r.s.nb r.r.hl (fun _ z=>nomatch z) (fun _ z=>nomatch z)) r.r.hl,kb _ _ r.db r.r.hd,r.r.en,r.r.le⟩,s,r.c.mono sub,r.db,Mi r.kl hn⟩
theorem cV.n2 (r:cV A H x f L D b es kvs g n){z:Addr}{o:HO}(h:H z=some o)(h1:∀y,o≠.own y)(h2:∀kvs,o≠.dT kvs):z≠b/\z≠D:=⟨r.s.nb h h1 h2,aU h r.r.hd (h2 _)⟩
theorem bI.trans {H1 H2:Hp}(a:bI b D H H1)(c:bI b D H1 H2):bI b D H H2:=fun x o n n' e=>c x o n n' (a x o n n' e)
theorem bI.same (S:aw H H'):bI b D H H':=fun x o _ _ e=>S x o e
theorem bI.kb (k:aR b H H'):bI b D H H':=fun x o n _ e=>k x o n e
end
theorem BZ (K:pv)(A:Adr)(n:Nat):Ln (pB K A n) 3:=by rintro vs H Q E ⟨x,f,L,D,b,es,kvs,g,n,a,m,rfl,_⟩;rfl
theorem FA (T:Txt K mg A)(n:Nat)(vs:List V)(H:Hp)(Q:VK)(E:XK)(h:pB K A n vs H Q E):Kb K A n {nx:=fun _ H'=>Q .non H',rt:=Q} (L2.start ["self","first","many","ahead"] vs) H:=by
 obtain⟨x,f,L,D,b,es,kvs,g,N,a,m,rfl,r,ham,hm,hN,q⟩:=h
 obtain⟨dx,hx⟩:=r.r.ob
 have l60:=r.r.le
 refine Sel.dec (fun h=>?_) (fun h=>?_)
 ·obtain rfl:m=0:=by omega
  refine⟨aH (show 1<=1000000 by decide),fun p hp=>q p [.inr "void"] kvs g _ (bI.same (aw.upd hp)) (r.same (aw.upd hp) (gV _)) Sub.rfl' ak je (by rw[sz1,szW.1];decide) fun h _=>?_⟩
  rw[Us];rfl
 refine Sel.dec (fun h=>?_) (fun h=>?_)
 ·obtain rfl:m=1:=by omega
  obtain⟨e,he⟩:∃e,es[a]?=some e:=⟨_,Gt (by omega)⟩
  have en:=r.r.en e (Lu he)
  refine⟨x,A.c_Row,dx,_,.ref L,rfl,hx,T.cl_Row,T.na_Row_entries,rfl,ixL r.r.hl rfl (by rw[LO,he];rfl) ⟨aH (show 2<=1000000 by decide),fun p hp=>q p [.inr "entry",e] kvs g _ (bI.same (aw.upd hp)) (r.same (aw.upd hp) (gV _)) Sub.rfl' ak (jS en.1) ?_ fun h _=>?_⟩⟩
  ·have:=en.2
   rw[sz2,szW.2.1];show _<=200;omega
  ·have e1:(es.drop a).take 1=[e]:=by rw[List.take_one,List.head?_drop,he];rfl
   rw[e1];rfl
 ·have h2:2<=m:=by omega
  obtain⟨g1,g2⟩:=bE h2
  refine⟨m,rfl,h2,by omega,x,dx,_,rfl,hx,rfl,x,f,L,D,b,es,kvs,g,N,a,aj m,rfl,r,by omega,by omega,by omega,fun v1 kvs1 g1' H1 k1 r1 s1 ok1 sz1' e1=>?_⟩
  obtain⟨dx1,hx1⟩:=r1.r.ob
  refine⟨x,dx1,_,rfl,hx1,rfl,x,f,L,D,b,es,kvs1,g1',_,a+aj m,m- aj m,?_,r1,by omega,by omega,by omega,fun v2 kvs2 g2' H2 k2 r2 s2 ok2 sz2' e2=>?_⟩
  ·rw[OE,NE (by omega)]
  ·refine⟨aH (show 3<=1000000 by decide),fun p hp=>q p [.inr "joint",v1,v2] kvs2 g2' _ ((k1.trans k2).trans (bI.same (aw.upd hp))) (r2.same (aw.upd hp) (by omega)) (s1.trans s2) ak (cN ok1 ok2) ?_ fun h eh=>?_⟩
   ·rw[sz3,szW.2.2.1]
    unfold szB at sz1' sz2'⊢
    omega
   ·have hl:((es.drop a).take m).length=m:=by rw[Ls,Lz];omega
    rw[dm h (by rw[hl];exact h2),hl,e1 h (Ext.of s2 eh),e2 h eh,NH,MT (by omega),Qn,RE]
theorem EZ (K:pv)(A:Adr)(n:Nat):Ln (dS K A n) 3:=by rintro vs H Q E ⟨x,f,L,D,b,es,kvs,g,n,a,m,rfl,_⟩;rfl
theorem zu (K:pv)(A:Adr):∀vs H Q E,dS K A 0 vs H Q E->False:=by rintro vs H Q E ⟨x,f,L,D,b,es,kvs,g,n,a,m,_,_,_,h,_⟩;omega
theorem GM (T:Txt K mg A)(n:Nat):Rd (dS K A (n+1)) (Lh K A n) ["self","first","many","part"]:=by
 intro vs H Q E h
 obtain⟨x,f,L,D,b,es,kvs,g,N,a,m,rfl,r,ham,hm,hN,q⟩:=h
 have l60:=r.r.le
 refine⟨aH (show 2<=1000000 by decide),fun p hp=>?_⟩
 have S1:aw H (upd H p (.tup [.int (a:Int),.int (m:Int)])):=aw.upd hp
 have r1:=r.same S1 (gV _)
 have hp1:upd H p (.tup [.int (a:Int),.int (m:Int)]) p=some (.tup (([.inl (a:Int),.inl (m:Int)]:List Key).map kV)):=ak
 generalize upd H p (.tup [.int (a:Int),.int (m:Int)])=H1 at S1 r1 hp1
 obtain⟨dx,hx1⟩:=r1.r.ob
 have g1:=fJ.t r1.r.hd hp1
 rw[iJ]at g1
 refine⟨x,A.c_Row,dx,_,.ref D,rfl,hx1,T.cl_Row,T.na_Row_tops,rfl,.inl ⟨D,_,rfl,g1,?_⟩⟩
 cases e:cf kvs [.inl (a:Int),.inl (m:Int)]with
 |some v=>
  rw[e]at g1
  refine Sel.no rfl ⟨x,A.c_Row,dx,_,.ref D,rfl,hx1,T.cl_Row,T.na_Row_tops,rfl,.inr ⟨D,_,rfl,g1,?_⟩⟩
  obtain⟨a',m',h1,h2,h3,h4,h5⟩:=r.c _ _ e
  have ea:a=a':=by have:=Rb (MX h1).1;omega
  have em:m=m':=by have:=Rb (MX (MX h1).2).1;omega
  subst ea em
  exact q v kvs g H1 (bI.same S1) (r1.same aw.rfl' (by omega)) Sub.rfl' h3 h4 h5
 |none=>
  refine Sel.yes rfl ⟨x,dx,_,f,rfl,hx1,rfl,r1.s.clo,x,dx,_,rfl,hx1,rfl,x,f,L,D,b,es,kvs,g,N,a,m,rfl,r1,ham,by omega,hN,fun p2 k kvs2 g2 H2 k2 r2 s2 hp2 okk szk ek=>?_⟩
  dsimp only[am]
  refine dQ r2.s (by omega) hp2 okk fun v H3 g3 kb s3 sub3 gv st=>?_
  have r3:=r2.call kb s3 sub3 (NJ _)
  obtain⟨np,np'⟩:=r1.n2 hp1 (fun _ z=>nomatch z) (fun _ z=>nomatch z)
  have hp3:=kb _ _ np (k2 _ _ np np' hp1)
  obtain⟨dx3,hx3⟩:=r3.r.ob
  obtain⟨kvs4,e4,l4,f4⟩:=Bu kvs2 [.inl (a:Int),.inl (m:Int)] v
  have kl:=r2.kl
  have ll:(bK kvs2).length=kvs2.length:=by simp[bK]
  refine⟨x,A.c_Row,dx3,_,.ref D,rfl,hx3,T.cl_Row,T.na_Row_tops,rfl,.inr ⟨D,_,rfl,.inr ⟨_,[.inl (a:Int),.inl (m:Int)],p,r3.r.hd,rfl,hp3,MM (m:=50000) (by omega) (aH (n:=50001) (by decide)),rfl⟩,?_⟩⟩
  have xD:x≠D:=aU hx3 r3.r.hd (fun z=>nomatch z)
  have LD:L≠D:=aU r3.r.hl r3.r.hd (fun z=>nomatch z)
  have pD:p≠D:=np'
  have szv:szK v<=szB m:=Mi (ja st) szk
  have okv:okP v=true:=eY st (by unfold szB at szk;omega)
  have ev:∀h,Ext g3 h->v=h (bh h ((es.drop a).take m)):=fun h eh=>by rw[<-ek h (Ext.of sub3 eh)];exact(eh _ _ gv).symm
  have gg:=fJ.t (H:=upd H3 D (.dT (cp (bK kvs2) [.inl (a:Int),.inl (m:Int)] (kV v)))) (kvs:=cp (bK kvs2) [.inl (a:Int),.inl (m:Int)] (kV v)) (k:=[.inl (a:Int),.inl (m:Int)]) ak (by rw[ao pD];exact hp3)
  rw[lJ,if_pos rfl]at gg
  refine⟨x,A.c_Row,dx3,_,.ref D,rfl,by rw[ao xD];exact hx3,T.cl_Row,T.na_Row_tops,rfl,.inr ⟨D,_,rfl,gg,?_⟩⟩
  have K4:bI b D H3 (upd H3 D (.dT (cp (bK kvs2) [.inl (a:Int),.inl (m:Int)] (kV v)))):=fun z o _ n e=>by rw[ao n];exact e
  refine q v kvs4 g3 _ ((((bI.same S1).trans k2).trans (bI.kb kb)).trans K4) ⟨⟨⟨dx3,by rw[ao xD];exact hx3⟩,by rw[ao LD];exact r3.r.hl,by rw[e4];exact ak,r3.r.en,r3.r.le⟩,?_,?_,r3.db,by omega⟩ (s2.trans sub3) okv szv ev
  ·refine r3.s.keep (by omega) fun z o e _ _ hz=>?_
   have:z≠D:=by
    rcases hz with h|h
    ·rw[h];exact Mh r3.db
    ·exact aU e r3.r.hd (h _)
   rw[ao this];exact e
  ·intro k' v' e'
   rw[f4]at e'
   by_cases hk:k'=[.inl (a:Int),.inl (m:Int)]
   ·rw[if_pos hk]at e'
    obtain rfl:=LR e'
    exact⟨a,m,hk,ham,okv,szv,ev⟩
   ·rw[if_neg hk]at e'
    exact r3.c _ _ e'
theorem Ce (K:pv)(A:Adr):Ln (jq K A) 2:=by rintro vs H Q E ⟨x,f,L,D,b,es,kvs,g,n,c,rfl,_⟩;rfl
theorem Jb (T:Txt K mg A):Rd (jq K A) (JB K A) ["self","count"]:=by
 intro vs H Q E h
 obtain⟨x,f,L,D,b,es,kvs,g,n,c,rfl,r,hc,hn,q⟩:=h
 obtain⟨dx,hx⟩:=r.r.ob
 have l60:=r.r.le
 refine⟨x,dx,_,rfl,hx,rfl,x,dx,_,rfl,hx,rfl,x,f,L,D,es,kvs,rfl,r.r,x,f,L,D,es,kvs,_,_,rfl,r.r,by omega,by omega,by omega,Sel.no rfl ?_⟩
 refine⟨x,dx,_,f,rfl,hx,rfl,r.s.clo,x,dx,_,rfl,hx,rfl,x,f,L,D,b,es,kvs,g,n,0,c,rfl,r,by omega,by omega,by omega,fun v kvs1 g1 H1 k1 r1 s1 ok1 sz1' e1=>⟨aH (show 3<=1000000 by decide),fun p hp=>?_⟩⟩
 have S2:aw H1 (upd H1 p (.tup [.str "row",.int (c:Int),kV v])):=aw.upd hp
 have hp2:upd H1 p (.tup [.str "row",.int (c:Int),kV v]) p=some (.tup (([.inr "row",.inl (c:Int),v]:List Key).map kV)):=ak
 have r2:=r1.same S2 (gV _)
 dsimp only[am]
 refine dQ r2.s (by omega) hp2 (dO (by omega) ok1) fun w H3 g3 kb s3 sub3 gv st=>?_
 have e2:(es.drop 0).take c=es.take c:=rfl
 rw[e2]at e1
 have hl:(es.take c).length=c:=by rw[Ls];omega
 refine q w kvs1 g3 H3 ((k1.trans (bI.same S2)).trans (bI.kb kb)) ((r2.call kb s3 sub3 (NJ _)).same aw.rfl' (by omega)) (s1.trans sub3) (eY st ?_) fun h eh=>?_
 ·rw[sz3,szW.2.2.2]
  unfold szB at sz1'
  show 65+(62+_)<=_
  omega
 ·rw[<-eh _ _ gv]
  unfold dh
  rw[hl,<-e1 h (Ext.of sub3 eh)]
theorem Cb (K:pv)(A:Adr):Ln (kL K A) 1:=by rintro vs H Q E ⟨f,b,g,n,rfl,_⟩;rfl
theorem HU (T:Txt K mg A):Rd (kL K A) (JR K A) ["stamper"]:=by
 intro vs H Q E h
 obtain⟨f,b,g,n,rfl,s,hn,q⟩:=h
 refine⟨aH (show 1<=1000000 by decide),fun p1 hp1=>?_⟩
 have S1:aw H (upd H p1 (.tup [.str "void"])):=aw.upd hp1
 have s1:=s.same (gV _) S1
 generalize upd H p1 (.tup [.str "void"])=H1 at S1 s1
 refine⟨f,rfl,s1.clo,aH (show 1<=1000000 by decide),fun p0 hp0=>?_⟩
 have S2:aw H1 (upd H1 p0 (.tup [.str "void"])):=aw.upd hp0
 have s2:=s1.same (gV _) S2
 have hk2:upd H1 p0 (.tup [.str "void"]) p0=some (.tup (([.inr "void"]:List Key).map kV)):=ak
 generalize upd H1 p0 (.tup [.str "void"])=H2 at S2 s2 hk2
 dsimp only[am]
 refine dQ s2 (by omega) hk2 je fun w H3 g3 kb s3 sub3 gv st=>⟨aH (show 3<=1000000 by decide),fun p2 hp2=>⟨aH (show 2<=1000000 by decide),fun L hL=>?_⟩⟩
 have S4:aw H3 (upd (upd H3 p2 (.tup [.str "row",.int 0,kV w])) L (.lst [.ref p1,.ref p2])):=(aw.upd hp2).put (bN hL).2
 refine q L p1 p2 w g3 _ (((aR.same S1).trans (aR.same S2)).trans (kb.trans (aR.same S4))) (s3.same (gV _) S4) sub3 ak ?_ (eY st (by rw[sz1,szW.1];decide)) (Mi (ja st) (by rw[sz1,szW.1];decide)) fun h eh=>?_
 ·rw[ao (Mh (bN hL).1)];exact ak
 ·exact(eh _ _ gv).symm
theorem El (K:pv)(A:Adr):Ln (mQ K A) 1:=by rintro vs H Q E ⟨f,b,g,n,rfl,_⟩;rfl
theorem FV (T:Txt K mg A):Rd (mQ K A) (Kn K A) ["stamper"]:=by
 intro vs H Q E h
 obtain⟨f,b,g,n,rfl,s,hn,q⟩:=h
 refine⟨f,rfl,s.clo,f,b,g,n,rfl,s,hn,fun L p1 p2 v g1 H1 k1 s1 sub1 hL hp2 okv szv ev=>?_⟩
 refine er (qs:=[.ref p1]) hL ?_
 dsimp only[am]
 refine dQ s1 (by omega) (k:=[.inr "row",.inl 0,v]) hp2 (dO (c:=0) (by decide) okv) fun w H3 g3 kb s3 sub3 gv st=>⟨aH (show 2<=1000000 by decide),fun p hp=>?_⟩
 refine q p w g3 _ (k1.trans (kb.trans (aR.same (aw.upd hp)))) (s3.same (gV _) (aw.upd hp)) (sub1.trans sub3) ak (eY st ?_) fun h eh=>?_
 ·rw[sz3,szW.2.2.2]
  show 65+(62+_)<=_
  omega
 ·rw[<-eh _ _ gv]
  unfold dh
  rw[<-ev h (Ext.of sub3 eh)];rfl
theorem Cur.mono {g g':gOp}{c:List Key}{v:Key}(t:Cur g c v)(s:Sub g g'):Cur g' c v:=⟨t.ok,t.sz,fun h e=>t.eq h (Ext.of s e)⟩
section
variable {H:Hp}{f b P E p:Addr}{xs:List (Addr×List Key)}{g:gOp}{N:Nat}{s c:List Key}{v:Key}{x3 x4 x5:Option V}{Q:VK}
theorem AH {a c:Nat}{x y:Key}(h1:1<=a)(h2:1<=c)(hx:szK x<=szB a)(hy:szK y<=szB c):szT [.inr "joint",x,y]+62<=szB (a+c):=by
 rw[sz3,szW.2.2.1]
 unfold szB at*
 omega
end
theorem qH {xs:List V}{c:Nat}(h:c<=xs.length):eU xs none (some (c:Int))=xs.take c:=by
 unfold eU
 rw[HT.sd,HT.qO,Qm,Qc,MT h]
theorem qB {xs:List V}{c:Nat}(h:c<=xs.length):eU xs (some (c:Int)) none=xs.drop c:=by
 unfold eU
 rw[HT.sd,HT.qO,MT h,Sa (by rw[Lz];omega)]
theorem uk {K:pv}{H:Hp}{E:Addr}{es:List Key}{c:Nat}{Q:VK}(hE:H E=some (.lst (es.map kV)))(hc:c<=es.length)(q:∀p,H p=none->Q (.ref p) (upd H p (.lst ((es.take c).map kV)))):eE K (.ref E) none (some (c:Int)) H Q:=by
 refine .inl (.inl ⟨E,_,rfl,SqL.of hE,fun p hp=>?_⟩)
 rw[qH (by rw[Ll];exact hc),<-RO];exact q p hp
def hOf (g:gOp)(k:List Key):Key:=(g k).getD (.inl 0)
theorem Av (g:gOp):Ext g (hOf g):=fun k v e=>by unfold hOf;rw[e];rfl
theorem zn {K:pv}{H:Hp}{Q:VK}{a:Key}(q:Q (.bl true) H):bM K (kV a) (kV a) H Q:=qE (by rw[decide_eq_true rfl];exact q)
theorem lW.seq {H H':Hp}{a:Addr}{xs:List V}(e:lW H H')(h:SqL K H a xs):SqL K H' a xs:=by
 rcases h with(h|⟨o,h⟩)|h
 ·exact .inl (.inl (e _ _ h (fun _ z=>nomatch z)))
 ·exact .inl (.inr ⟨o,e _ _ h (fun _ z=>nomatch z)⟩)
 ·exact .inr h
theorem SqL.keep {H H':Hp}{a:Addr}{xs:List V}(e:∀o,H a=some o->H' a=some o)(h:SqL K H a xs):SqL K H' a xs:=by
 rcases h with(h|⟨o,h⟩)|h
 ·exact .inl (.inl (e _ h))
 ·exact .inl (.inr ⟨o,e _ h⟩)
 ·exact .inr h
section
variable {H H':Hp}{f b x L D y M F:Addr}{g g':gOp}{n m:Nat}{es fs:List Key}
theorem eP.same (r:eP A H f b g n x L D es)(S:aw H H')(hn:n<=m):eP A H' f b g m x L D es:=r.imp fun _ r=>r.same S hn
theorem eP.call (r:eP A H f b g n x L D es)(kb:aR b H H')(s:Stp A H' f b g' m)(sub:Sub g g')(hn:n<=m):eP A H' f b g' m x L D es:=r.imp fun _ r=>r.call kb s sub hn
theorem eP.other (r:eP A H f b g n x L D es)(s:eP A H f b g n y M F fs)(r':eP A H' f b g' m y M F fs)(k:bI b F H H')(sub:Sub g g')(hn:n<=m)(ne:D≠F):eP A H' f b g' m x L D es:=by
 obtain⟨kvs,r⟩:=r
 obtain⟨_,s⟩:=s
 obtain⟨_,r'⟩:=r'
 obtain⟨dx,hx⟩:=r.r.ob
 obtain⟨n1,n2⟩:=s.n2 hx (fun _ z=>nomatch z) (fun _ z=>nomatch z)
 obtain⟨n3,n4⟩:=s.n2 r.r.hl (fun _ z=>nomatch z) (fun _ z=>nomatch z)
 exact⟨kvs,⟨⟨dx,k _ _ n1 n2 hx⟩,k _ _ n3 n4 r.r.hl,k _ _ r.db ne r.r.hd,r.r.en,r.r.le⟩,r'.s,r.c.mono sub,r.db,Mi r.kl hn⟩
theorem eP.keepL {ys:List V}(r:eP A H f b g n x L D es)(k:∀z o,z≠M->H z=some o->H' z=some o)(hM:H M=some (.lst ys))(ne:L≠M):eP A H' f b g n x L D es:=by
 obtain⟨kvs,r⟩:=r
 obtain⟨dx,hx⟩:=r.r.ob
 refine⟨kvs,⟨⟨dx,k _ _ (aU hx hM (fun z=>nomatch z)) hx⟩,k _ _ ne r.r.hl,k _ _ (aU r.r.hd hM (fun z=>nomatch z)) r.r.hd,r.r.en,r.r.le⟩,r.s.keep (gV _) fun z o e h1 _ _=>k z o (aU e hM (h1 _)) e,r.c,r.db,r.kl⟩
end
theorem dI.toX {H:Hp}{f b x L D:Addr}{g:gOp}{n:Nat}{es:List Key}(r:dI A H x f L D es [])(s:Stp A H f b g n)(ne:D≠b):eP A H f b g n x L D es:=⟨[],r,s,(fun _ _ e=>nomatch e),ne,Mj _⟩
theorem rk {n:Nat}(h:2<=n):n- aj n<=aj n:=by
 unfold aj
 have h1:=Nat.lt_log2_self (n:=n- 1)
 rw[Nat.pow_succ]at h1
 omega
theorem qt:∀(n m:Nat)(es:List Key)(e:Nat),es.length<=n->es.length<=m->grS n es e=grS m es e:=by
 have zero:∀(m:Nat)(es:List Key)(e:Nat),es.length=0->grS m es e=[es]:=by
  intro m es e h
  cases m with
  |zero=>rfl
  |succ m=>unfold grS;rw[if_pos (.inr (by omega))]
 intro n
 induction n with
 |zero=>intro m es e h1 h2;rw[zero m es e (by omega)];rfl
 |succ n ih=>
  intro m es e h1 h2
  cases m with
  |zero=>rw[zero (n+1) es e (by omega)];rfl
  |succ m=>
   unfold grS
   by_cases c:e=0\/es.length<=e
   ·rw[if_pos c,if_pos c]
   ·rw[if_neg c,if_neg c]
    obtain⟨g1,g2⟩:=bE (n:=es.length) (by omega)
    rw[ih m (es.take (aj es.length)) e (by rw[Ls];omega) (by rw[Ls];omega),ih m (es.drop (aj es.length)) (e- aj es.length) (by rw[Lz];omega) (by rw[Lz];omega)]
abbrev gr (s:List Key)(d:Nat):List (List Key):=grS s.length s d
theorem gX {s:List Key}{d:Nat}(h:d=0\/s.length<=d):gr s d=[s]:=by
 unfold gr
 cases e:s.length with
 |zero=>rfl
 |succ n=>unfold grS;rw[if_pos (by rw[e]at h⊢;exact h)]
theorem pS {s:List Key}{d:Nat}(h0:0<d)(h1:d<=aj s.length)(h2:2<=s.length):gr s d=gr (s.take (aj s.length)) d++[s.drop (aj s.length)]:=by
 obtain⟨g1,g2⟩:=bE h2
 have tl:(s.take (aj s.length)).length=aj s.length:=by rw[Ls];omega
 unfold gr
 cases e:s.length with
 |zero=>omega
 |succ n=>
  rw[grS,if_neg (by rw[e]at g2 h1⊢;omega),if_pos (by rw[e]at h1⊢;exact h1),e,<-e,qt n (s.take (aj s.length)).length _ _ (by rw[tl];omega) (gV _)]
theorem oY {s:List Key}{d:Nat}(h1:aj s.length<d)(h3:d<s.length)(h2:2<=s.length):gr s d=s.take (aj s.length)::gr (s.drop (aj s.length)) (d- aj s.length):=by
 obtain⟨g1,g2⟩:=bE h2
 unfold gr
 cases e:s.length with
 |zero=>omega
 |succ n=>
  rw[grS,if_neg (by rw[e]at g2 h1 h3⊢;omega),if_neg (by rw[e]at h1⊢;omega),e,<-e,qt n (s.drop (aj s.length)).length _ _ (by rw[Lz];omega) (gV _)]
theorem vy:∀(k:Nat)(s:List Key)(d:Nat),s.length<=2^k->(gr s d).length<=k+1:=by
 intro k
 induction k with
 |zero=>
  intro s d h
  have:d=0\/s.length<=d:=by omega
  rw[gX this];exact gV _
 |succ k ih=>
  intro s d h
  by_cases c:d=0\/s.length<=d
  ·rw[gX c];show 1<=_;omega
  ·have h2:2<=s.length:=by omega
   obtain⟨g1,g2⟩:=bE h2
   have g3:=rk h2
   have hk:aj s.length<=2^k:=by
    unfold aj
    refine Nat.pow_le_pow_right (by decide) ?_
    have:Qh (s.length- 1)<k+1:=(Qz (by omega)).mpr (by omega)
    omega
   by_cases c2:d<=aj s.length
   ·rw[pS (by omega) c2 h2,Lm]
    have:=ih (s.take (aj s.length)) d (by rw[Ls];omega)
    show _+1<=_
    omega
   ·rw[oY (by omega) (by omega) h2,LU]
    have:=ih (s.drop (aj s.length)) (d- aj s.length) (by rw[Lz];omega)
    omega
theorem Mks.mono {g g':gOp}{ss:List (List Key)}{ks:List Key}(m:Mks g ss ks)(s:Sub g g'):Mks g' ss ks:=L2.Paired.mapP m fun _ _ c=>c.mono s
theorem Mks.ok {g:List Key->Option Key}:∀{ss:List (List Key)}{ks:List Key},Mks g ss ks->∀k∈ks,okP k=true
 |_,_,.nil,k,h=>nomatch h
 |_,_,.cons c t,k,h=>by
  rcases LG.mp h with z|z
  ·rw[z];exact c.ok
  ·exact Mks.ok t k z
theorem jf:∀(n m r d:Nat),r<=n->r<=m->trF n r d=trF m r d:=by
 have zero:∀(m d:Nat),trF m 0 d=[]:=by
  intro m d
  cases m with
  |zero=>rfl
  |succ m=>rw[trF,if_pos (.inr (Mj _))]
 intro n
 induction n with
 |zero=>
  intro m r d h1 h2
  obtain rfl:r=0:=by omega
  exact(zero _ _).trans (zero _ _).symm
 |succ n ih=>
  intro m r d h1 h2
  cases m with
  |zero=>
   obtain rfl:r=0:=by omega
   exact(zero _ _).trans (zero _ _).symm
  |succ m=>
   rw[trF,trF]
   by_cases c:d=0\/r<=d
   ·rw[if_pos c,if_pos c]
   ·rw[if_neg c,if_neg c]
    obtain⟨g1,g2⟩:=bE (n:=r) (by omega)
    rw[ih m (aj r) d (by omega) (by omega),ih m (r- aj r) (d- aj r) (by omega) (by omega)]
theorem iO {r d:Nat}(h:d=0\/r<=d):trF r r d=[]:=by
 cases r with
 |zero=>rfl
 |succ r=>rw[trF,if_pos h]
theorem um {r d:Nat}(h0:0<d)(h1:d<=aj r)(h2:2<=r):trF r r d=0::trF (aj r) (aj r) d:=by
 obtain⟨g1,g2⟩:=bE h2
 rw[jf r (r+1) r d (gV _) (by omega),trF,if_neg (by omega),if_pos h1,jf r (aj r) _ _ (by omega) (gV _)]
theorem uh {r d:Nat}(h1:aj r<d)(h3:d<r)(h2:2<=r):trF r r d=1::trF (r- aj r) (r- aj r) (d- aj r):=by
 obtain⟨g1,g2⟩:=bE h2
 rw[jf r (r+1) r d (gV _) (by omega),trF,if_neg (by omega),if_neg (by omega),jf r (r- aj r) _ _ (by omega) (gV _)]
theorem DJ (K:pv)(A:Adr):Ln (kA K A) 3:=by rintro vs H Q E ⟨t,o,a,rfl,_⟩;rfl
theorem FD (T:Txt K mg A):Rd (kA K A) (Kj K A) ["turn","own","aside"]:=by
 intro vs H Q E h
 obtain⟨t,o,a,rfl,q⟩:=h
 unfold jtT at q
 refine Sel.dec (fun h=>⟨aH (show 3<=1000000 by decide),fun p hp=>?_⟩) (fun h=>⟨aH (show 3<=1000000 by decide),fun p hp=>?_⟩)
 ·rw[if_pos h]at q;exact q p hp
 ·rw[if_neg h]at q;exact q p hp
theorem CQ (K:pv)(A:Adr):Ln (pP K A) 1:=by rintro vs H Q E ⟨p,c,v,rfl,_⟩;rfl
theorem II (T:Txt K mg A):Rd (pP K A) (KY K A) ["thing"]:=by
 intro vs H Q E h
 obtain⟨p,c,v,rfl,hp,hc,okv,q⟩:=h
 have ty:tyN H (.ref p)=some "tuple":=by unfold tyN;dsimp only;rw[hp]
 refine⟨by decide,"tuple",ty,Sel.t (.inl (.inr (.inl ⟨_,SqT.of hp,Sel.t (ixT (j:=0) hp rfl rfl ⟨c,rfl,by omega,by omega,Sel.t (ixT (j:=1) hp rfl rfl ⟨_,_,rfl,rH v,?_⟩)⟩)⟩)))⟩
 rw[ik okv];exact q
theorem Cv (K:pv)(A:Adr):Ln (kN K A) 1:=by rintro vs H Q E ⟨p,c,v,rfl,_⟩;rfl
theorem Gj (T:Txt K mg A):Rd (kN K A) (KG K A) ["thing"]:=by
 intro vs H Q E h
 obtain⟨p,c,v,rfl,hp,hc,okv,q⟩:=h
 exact⟨p,c,v,rfl,hp,hc,okv,Sel.no rfl q⟩
theorem De (K:pv)(A:Adr):Ln (pK K A) 2:=by rintro vs H Q E ⟨c,e,rfl,_⟩;rfl
theorem Il (T:Txt K mg A):Rd (pK K A) (JV K A) ["count","elder","turns","early","rest","ahead"]:=by
 intro vs H Q E h
 obtain⟨c,e,rfl,hec,hc,q⟩:=h
 refine⟨Mj _,fun L hL=>?_⟩
 refine⟨fun k σ H'=>∃(acc:List Int)(d r:Nat)(x5:Option V),σ=[some (.int (c:Int)),some (.int (e:Int)),some (.ref L),some (.int (d:Int)),some (.int (r:Int)),x5]/\k=r/\H'=upd H L (.lst (acc.map V.int))/\acc++trF r r d=trF c c e/\d<=r/\r<=c/\acc.length+r<=c,⟨_,[],e,c,none,rfl,rfl,rfl,rfl,hec,gV _,by simp⟩,?_⟩
 rintro k σ H' ⟨acc,d,r,x5,rfl,rfl,rfl,ht,hd,hr,hl⟩
 have fin:(d=0\/k<=d)->Q (.ref L) (upd H L (.lst (acc.map V.int))):=fun h=>by
  rw[iO h,MJ]at ht
  exact q L _ (aw.upd hL) (by rw[ht];exact ak)
 have lt:(acc.map V.int).length<sizeLine:=by rw[Ll];exact br (by omega)
 have ap:∀t:Int,upd (upd H L (.lst (acc.map V.int))) L (.lst (acc.map V.int++[.int t]))=upd H L (.lst ((acc++[t]).map V.int)):=fun t=>by rw[fO,LL];rfl
 refine Sel.dec (fun h0=>?_) (fun h0=>?_)
 ·refine eA (Sel.dec (fun h1=>?_) (fun h1=>?_))
  ·have h2:2<=k:=by omega
   obtain⟨g1,g2⟩:=bE h2
   refine⟨fun σ H'=>∃j,j<k/\∃(acc:List Int)(d r:Nat)(x5:Option V),σ=[some (.int (c:Int)),some (.int (e:Int)),some (.ref L),some (.int (d:Int)),some (.int (r:Int)),x5]/\j=r/\H'=upd H L (.lst (acc.map V.int))/\acc++trF r r d=trF c c e/\d<=r/\r<=c/\acc.length+r<=c,fun σ' H' hh=>hh,?_⟩
   refine⟨k,rfl,h2,by omega,Sel.dec (fun h=>?_) (fun h=>?_)⟩
   ·refine⟨.inl ⟨rfl,_,SqL.of ak⟩,L,_,_,rfl,rfl,ak,lt,?_⟩
    refine⟨aj k,g2,acc++[0],d,aj k,_,rfl,rfl,ap 0,?_,by omega,by omega,by rw[Lm];show _+1+_<=_;omega⟩
    rw[um (by omega) (by omega) h2]at ht
    rw[MK];exact ht
   ·refine⟨.inl ⟨rfl,_,SqL.of ak⟩,L,_,_,rfl,rfl,ak,lt,?_⟩
    refine⟨k- aj k,by omega,acc++[1],d- aj k,k- aj k,some (.int ((aj k:Nat):Int)),?_,rfl,ap 1,?_,by omega,by omega,by rw[Lm];show _+1+_<=_;omega⟩
    ·rw[NE (by omega),NE (by omega)];rfl
    ·rw[uh (by omega) (by omega) h2]at ht
     rw[MK];exact ht
  ·exact fin (.inr (by omega))
 ·exact fin (.inl (by omega))
theorem Cm (K:pv)(A:Adr)(n:Nat):Ln (jo K A n) 4:=by rintro vs H Q E ⟨x,f,L,D,b,es,kvs,g,n,a,m,e,rfl,_⟩;rfl
theorem Ai (K:pv)(A:Adr):∀vs H Q E,jo K A 0 vs H Q E->False:=by rintro vs H Q E ⟨x,f,L,D,b,es,kvs,g,n,a,m,e,_,_,_,_,_,h,_⟩;omega
theorem FK (T:Txt K mg A)(n:Nat):Rd (jo K A (n+1)) (La K A n) ["self","first","many","elder","ahead"]:=by
 intro vs H Q E h
 obtain⟨x,f,L,D,b,es,kvs,g,N,a,m,e,rfl,r,ham,m1,em,hm,hN,q⟩:=h
 have l60:=r.r.le
 obtain⟨dx,hx⟩:=r.r.ob
 have sl:((es.drop a).take m).length=m:=by rw[Ls,Lz];omega
 have gg:∀d,grS m ((es.drop a).take m) d=gr ((es.drop a).take m) d:=fun d=>by unfold gr;rw[sl]
 rw[gg]at q
 have fin:(e=0\/m<=e)->aK (bB (af (bq A.c_Row "top_of" (dS K A 70) (fun _=>E0) (aa 0) (af (aa 1) (af (aa 2) (am)))) (am))) {nx:=fun _ H'=>Q .non H',rt:=Q} [some (.ref x),some (.int (a:Int)),some (.int (m:Int)),some (.int (e:Int)),none] H:=by
  intro h
  refine⟨x,dx,_,rfl,hx,rfl,x,f,L,D,b,es,kvs,g,N,a,m,rfl,r,ham,by omega,by omega,fun v kvs' g' H' k1 r1 s1 ok1 sz1' e1=>⟨aH (show 1<=1000000 by decide),fun p hp=>?_⟩⟩
  refine q p [v] kvs' g' _ (k1.trans (bI.same (aw.upd hp))) (r1.same (aw.upd hp) (by omega)) s1 ak ?_
  rw[gX (by rw[sl];exact h)]
  exact .cons ⟨ok1,by rw[sl];exact sz1',e1⟩ .nil
 refine Sel.dec (fun h=>Sel.t (fin (.inl (by omega)))) (fun h0=>Sel.dec (fun h=>fin (.inr (by omega))) (fun h1=>?_))
 have m2:2<=m:=by omega
 obtain⟨g1,g2⟩:=bE m2
 have tk:((es.drop a).take m).take (aj m)=(es.drop a).take (aj m):=by rw[NH,MT (by omega)]
 have dp:((es.drop a).take m).drop (aj m)=(es.drop (a+aj m)).take (m- aj m):=by rw[Qn,RE]
 have l1:((es.drop a).take (aj m)).length=aj m:=by rw[Ls,Lz];omega
 have l2:((es.drop (a+aj m)).take (m- aj m)).length=m- aj m:=by rw[Ls,Lz];omega
 refine⟨m,rfl,m2,by omega,Sel.dec (fun h=>?_) (fun h=>?_)⟩
 ·have hle:e<=aj m:=by have:(e:Int)<=((aj m:Nat):Int):=h;omega
  refine⟨x,dx,_,rfl,hx,rfl,x,f,L,D,b,es,kvs,g,N,a,aj m,e,rfl,r,by omega,g1,hle,by omega,by omega,fun p ks kvs1 g1' H1 k1 r1 s1 hp mk=>?_⟩
  obtain⟨dx1,hx1⟩:=r1.r.ob
  refine⟨x,dx1,_,rfl,hx1,rfl,x,f,L,D,b,es,kvs1,g1',_,a+aj m,m- aj m,?_,r1,by omega,by omega,by omega,fun v kvs2 g2' H2 k2 r2 s2 ok2 sz2' e2=>⟨aH (show 1<=1000000 by decide),fun p2 hp2=>?_⟩⟩
  ·rw[OE,NE (by omega)]
  ·obtain⟨n1,n2⟩:=r1.n2 hp (fun _ z=>nomatch z) (fun _ z=>nomatch z)
   have hp':=k2 _ _ n1 n2 hp
   refine .inr ⟨p,p2,ks.map kV,[kV v],rfl,rfl,by rw[ao (ax hp' hp2)];exact hp',ak,?_,fun p3 H3 S3 hp3=>?_⟩
   ·have:=Paired.length mk
    rw[Ll,<-this]
    unfold grS at this
    have:=vy 10 ((es.drop a).take (aj m)) e (by rw[l1];show _<=1024;omega)
    unfold gr at this
    rw[l1]at this
    exact aH (by show _+1<=_;omega)
   ·refine q p3 (ks++[v]) kvs2 g2' H3 ((k1.trans k2).trans ((bI.same (aw.upd hp2)).trans (bI.same S3))) ((r2.same (aw.upd hp2) (gV _)).same S3 (by omega)) (s1.trans s2) (by rw[LL];exact hp3) ?_
    rw[pS (by omega) (by rw[sl];exact hle) (by rw[sl];exact m2),sl,tk,dp]
    unfold gr
    rw[l1]
    exact Paired.snoc (Mks.mono mk s2) ⟨ok2,by rw[l2];exact sz2',e2⟩
 ·have hgt:aj m<e:=by have:¬(e:Int)<=((aj m:Nat):Int):=h;omega
  refine⟨x,dx,_,rfl,hx,rfl,x,f,L,D,b,es,kvs,g,N,a,aj m,rfl,r,by omega,by omega,by omega,fun v kvs1 g1' H1 k1 r1 s1 ok1 sz1' e1=>⟨aH (show 1<=1000000 by decide),fun p hp=>?_⟩⟩
  have r1':=r1.same (aw.upd (o:=.tup [kV v]) hp) (gV _)
  obtain⟨dx1,hx1⟩:=r1'.r.ob
  refine⟨x,dx1,_,rfl,hx1,rfl,x,f,L,D,b,es,kvs1,g1',_,a+aj m,m- aj m,e- aj m,?_,r1',by omega,by omega,by omega,by omega,by omega,fun p2 ks kvs2 g2' H2 k2 r2 s2 hp2 mk=>?_⟩
  ·rw[OE,NE (by omega),NE (by omega)]
  ·obtain⟨n1,n2⟩:=r1'.n2 (o:=.tup [kV v]) ak (fun _ z=>nomatch z) (fun _ z=>nomatch z)
   refine .inr ⟨p,p2,[kV v],ks.map kV,rfl,rfl,k2 _ _ n1 n2 ak,hp2,?_,fun p3 H3 S3 hp3=>?_⟩
   ·have:=Paired.length mk
    rw[Ll,<-this]
    have:=vy 10 ((es.drop (a+aj m)).take (m- aj m)) (e- aj m) (by rw[l2];show _<=1024;omega)
    unfold gr at this
    rw[l2]at this
    exact aH (by show 1+_<=_;omega)
   ·refine q p3 (v::ks) kvs2 g2' H3 ((k1.trans (bI.same (aw.upd hp))).trans (k2.trans (bI.same S3))) (r2.same S3 (by omega)) (s1.trans s2) hp3 ?_
    rw[oY (by rw[sl];exact hgt) (by rw[sl];omega) (by rw[sl];exact m2),sl,tk,dp]
    unfold gr
    rw[l2]
    exact .cons ⟨ok1,by rw[l1];exact sz1',fun h eh=>e1 h (Ext.of s2 eh)⟩ mk
theorem EB (K:pv)(A:Adr):Ln (lR K A) 3:=by rintro vs H Q E ⟨x,f,L,D,b,es,kvs,g,n,c,e,rfl,_⟩;rfl
theorem IN (T:Txt K mg A):Rd (lR K A) (Km K A) ["self","count","elder"]:=by
 intro vs H Q E h
 obtain⟨x,f,L,D,b,es,kvs,g,n,c,e,rfl,r,hc,hec,hn,q⟩:=h
 obtain⟨dx,hx⟩:=r.r.ob
 have l60:=r.r.le
 have tl:(es.take c).length=c:=by rw[Ls];omega
 refine⟨x,dx,_,rfl,hx,rfl,x,f,L,D,es,kvs,_,_,rfl,r.r,by omega,by omega,by omega,Sel.no rfl ?_⟩
 refine Sel.dec (fun h=>?_) (fun h=>⟨Mj _,fun p hp=>?_⟩)
 ·refine⟨x,dx,_,rfl,hx,rfl,x,f,L,D,b,es,kvs,g,n,0,c,e,rfl,r,by omega,by omega,hec,by omega,by omega,fun p ks kvs' g' H' k' r' s' hp mk=>?_⟩
  refine q p ks kvs' g' H' k' (r'.same aw.rfl' (by omega)) s' hp ?_
  unfold gm
  rw[tl,if_neg (by omega)];exact mk
 ·refine q p [] kvs g _ (bI.same (aw.upd hp)) (r.same (aw.upd hp) (by omega)) Sub.rfl' ak ?_
  unfold gm
  rw[tl,if_pos (by omega)];exact .nil
theorem Stp.setL {H:Hp}{f b P:Addr}{g:gOp}{n:Nat}{xs ys:List V}(s:Stp A H f b g n)(hP:H P=some (.lst xs)):Stp A (upd H P (.lst ys)) f b g n:=s.keep (gV _) fun z o e h1 _ _=>by rw[ao (aU e hP (h1 _))];exact e
theorem ii:∀(n m r p:Nat),r<=n->r<=m->cm n r p=cm m r p:=by
 have zero:∀(m r p:Nat),r<=1->cm m r p=[]:=by
  intro m r p h
  cases m with
  |zero=>rfl
  |succ m=>rw[cm,if_pos h]
 intro n
 induction n with
 |zero=>intro m r p h1 h2;rw[zero 0 r p (by omega),zero m r p (by omega)]
 |succ n ih=>
  intro m r p h1 h2
  cases m with
  |zero=>rw[zero (n+1) r p (by omega),zero 0 r p (by omega)]
  |succ m=>
   rw[cm,cm]
   by_cases c:r<=1
   ·rw[if_pos c,if_pos c]
   ·rw[if_neg c,if_neg c]
    obtain⟨g1,g2⟩:=bE (n:=r) (by omega)
    rw[ih m (aj r) p (by omega) (by omega),ih m (r- aj r) (p- aj r) (by omega) (by omega)]
theorem vb {r p:Nat}(h:r<=1):cm r r p=[]:=by
 cases r with
 |zero=>rfl
 |succ r=>rw[cm,if_pos h]
theorem uC {r p:Nat}(h2:2<=r)(h1:p<aj r):cm r r p=0::cm (aj r) (aj r) p:=by
 obtain⟨g1,g2⟩:=bE h2
 rw[ii r (r+1) r p (gV _) (by omega),cm,if_neg (by omega),if_pos h1,ii r (aj r) _ _ (by omega) (gV _)]
theorem tD {r p:Nat}(h2:2<=r)(h1:¬p<aj r):cm r r p=1::cm (r- aj r) (r- aj r) (p- aj r):=by
 obtain⟨g1,g2⟩:=bE h2
 rw[ii r (r+1) r p (gV _) (by omega),cm,if_neg (by omega),if_neg h1,ii r (r- aj r) _ _ (by omega) (gV _)]
theorem hJ:∀(n m:Nat)(s:List Key)(p:Nat),s.length<=n->s.length<=m->eD n s p=eD m s p:=by
 have zero:∀(m:Nat)(s:List Key)(p:Nat),s.length<=1->eD m s p=[]:=by
  intro m s p h
  cases m with
  |zero=>rfl
  |succ m=>rw[eD,if_pos h]
 intro n
 induction n with
 |zero=>intro m s p h1 h2;rw[zero 0 s p (by omega),zero m s p (by omega)]
 |succ n ih=>
  intro m s p h1 h2
  cases m with
  |zero=>rw[zero (n+1) s p (by omega),zero 0 s p (by omega)]
  |succ m=>
   rw[eD,eD]
   by_cases c:s.length<=1
   ·rw[if_pos c,if_pos c]
   ·rw[if_neg c,if_neg c]
    obtain⟨g1,g2⟩:=bE (n:=s.length) (by omega)
    rw[ih m (s.take (aj s.length)) p (by rw[Ls];omega) (by rw[Ls];omega),ih m (s.drop (aj s.length)) (p- aj s.length) (by rw[Lz];omega) (by rw[Lz];omega)]
abbrev wy (s:List Key)(p:Nat):List (List Key):=eD s.length s p
theorem CK {s:List Key}{p:Nat}(h:s.length<=1):wy s p=[]:=by
 unfold wy
 cases e:s.length with
 |zero=>rfl
 |succ n=>rw[eD,if_pos h]
theorem Jj {s:List Key}{p:Nat}(h2:2<=s.length)(h1:p<aj s.length):wy s p=s.drop (aj s.length)::wy (s.take (aj s.length)) p:=by
 obtain⟨g1,g2⟩:=bE h2
 have tl:(s.take (aj s.length)).length=aj s.length:=by rw[Ls];omega
 unfold wy
 rw[hJ s.length (s.length+1) s p (gV _) (by omega),eD,if_neg (by omega),if_pos h1,hJ s.length (s.take (aj s.length)).length _ _ (by rw[tl];omega) (gV _)]
theorem Iv {s:List Key}{p:Nat}(h2:2<=s.length)(h1:¬p<aj s.length):wy s p=s.take (aj s.length)::wy (s.drop (aj s.length)) (p- aj s.length):=by
 obtain⟨g1,g2⟩:=bE h2
 unfold wy
 rw[hJ s.length (s.length+1) s p (gV _) (by omega),eD,if_neg (by omega),if_neg h1,hJ s.length (s.drop (aj s.length)).length _ _ (by rw[Lz];omega) (gV _)]
theorem Dz (K:pv)(A:Adr):Ln (ma K A) 2:=by rintro vs H Q E ⟨c,e,rfl,_⟩;rfl
theorem IW (T:Txt K mg A):Rd (ma K A) (KQ K A) ["place","many","turns","first","rest","ahead"]:=by
 intro vs H Q E h
 obtain⟨c,p,rfl,hpc,hc,q⟩:=h
 refine⟨Mj _,fun L hL=>?_⟩
 refine⟨fun k σ H'=>∃(acc:List Int)(fi r:Nat)(x5:Option V),σ=[some (.int (p:Int)),some (.int (c:Int)),some (.ref L),some (.int (fi:Int)),some (.int (r:Int)),x5]/\k=r/\H'=upd H L (.lst (acc.map V.int))/\acc++cm r r (p- fi)=cm c c p/\fi<=p/\p- fi<r/\acc.length+r<=c,⟨_,[],0,c,none,rfl,rfl,rfl,rfl,Mj _,hpc,by simp⟩,?_⟩
 rintro k σ H' ⟨acc,fi,r,x5,rfl,rfl,rfl,ht,hf,hr,hl⟩
 have lt:(acc.map V.int).length<sizeLine:=by rw[Ll];exact br (by omega)
 have ap:∀t:Int,upd (upd H L (.lst (acc.map V.int))) L (.lst (acc.map V.int++[.int t]))=upd H L (.lst ((acc++[t]).map V.int)):=fun t=>by rw[fO,LL];rfl
 refine eA (Sel.dec (fun h1=>?_) (fun h1=>?_))
 ·have h2:2<=k:=by have h1:(k:Int)>1:=h1;omega
  obtain⟨g1,g2⟩:=bE h2
  refine⟨fun σ H'=>∃j,j<k/\∃(acc:List Int)(fi r:Nat)(x5:Option V),σ=[some (.int (p:Int)),some (.int (c:Int)),some (.ref L),some (.int (fi:Int)),some (.int (r:Int)),x5]/\j=r/\H'=upd H L (.lst (acc.map V.int))/\acc++cm r r (p- fi)=cm c c p/\fi<=p/\p- fi<r/\acc.length+r<=c,fun σ' H' hh=>hh,?_⟩
  refine⟨k,rfl,h2,by omega,Sel.dec (fun h=>?_) (fun h=>?_)⟩
  ·have h:(p:Int)<(fi:Int)+((aj k:Nat):Int):=h
   refine⟨.inl ⟨rfl,_,SqL.of ak⟩,L,_,_,rfl,rfl,ak,lt,?_⟩
   refine⟨aj k,g2,acc++[0],fi,aj k,_,rfl,rfl,ap 0,?_,hf,by omega,by rw[Lm];show _+1+_<=_;omega⟩
   rw[uC h2 (by omega)]at ht
   rw[MK];exact ht
  ·have h:¬(p:Int)<(fi:Int)+((aj k:Nat):Int):=h
   refine⟨.inl ⟨rfl,_,SqL.of ak⟩,L,_,_,rfl,rfl,ak,lt,?_⟩
   refine⟨k- aj k,by omega,acc++[1],fi+aj k,k- aj k,some (.int ((aj k:Nat):Int)),?_,rfl,ap 1,?_,by omega,by omega,by rw[Lm];show _+1+_<=_;omega⟩
   ·rw[NE (by omega),OE];rfl
   ·rw[tD h2 (by omega)]at ht
    rw[MK,show p- (fi+aj k)=p- fi- aj k by omega];exact ht
 ·have h1:¬(k:Int)>1:=h1
  rw[vb (by omega),MJ]at ht
  exact q L _ hL (aw.upd hL) (by rw[ht];exact ak)
theorem cV.setM {H:Hp}{x f L D b M:Addr}{es:List Key}{kvs:List (List Key×Key)}{g:gOp}{n:Nat}{xs ys:List V}(r:cV A H x f L D b es kvs g n)(hM:H M=some (.lst xs))(ne:L≠M):cV A (upd H M (.lst ys)) x f L D b es kvs g n:=by
 obtain⟨dx,hx⟩:=r.r.ob
 exact⟨⟨⟨dx,by rw[ao (aU hx hM (fun z=>nomatch z))];exact hx⟩,by rw[ao ne];exact r.r.hl,by rw[ao (aU r.r.hd hM (fun z=>nomatch z))];exact r.r.hd,r.r.en,r.r.le⟩,r.s.setL hM,r.c,r.db,r.kl⟩
structure Pp (A:Adr)(H H':Hp)(x f L D b M W:Addr)(es:List Key)(c p fi m i:Nat)(g g':gOp)(n:Nat)(ks:List Key):Prop where
 fp:fi<=p
 pm:p- fi<m
 fm:fi+m<=c
 tr:(cm c c p).drop i=cm m m (p- fi)
 hM:H' M=some (.lst (ks.map kV))
 hW:H' W=some (.lst ((cm c c p).map V.int))
 k2:bI b D H H'
 r:∃kvs N,cV A H' x f L D b es kvs g' N/\N+2*m<=n+2*c
 sub:Sub g g'
 ss:∃ss,Mks g' ss ks/\eD c (es.take c) p=ss++wy ((es.drop fi).take m) (p- fi)
 kl:ks.length+m<=c
theorem DG (K:pv)(A:Adr):Ln (mB K A) 3:=by rintro vs H Q E ⟨x,f,L,D,b,es,kvs,g,n,c,e,rfl,_⟩;rfl
theorem HA (T:Txt K mg A):Rd (mB K A) (JZ K A) ["self","count","place","marks","first","many","turn","ahead"]:=by
 intro vs H Q E h
 obtain⟨x,f,L,D,b,es,kvs,g,n,c,p,rfl,r,hc,hpc,hn,q⟩:=h
 obtain⟨dx,hx⟩:=r.r.ob
 have l60:=r.r.le
 have tl:(es.take c).length=c:=by rw[Ls];omega
 refine⟨x,dx,_,rfl,hx,rfl,x,f,L,D,es,kvs,_,_,rfl,r.r,by omega,by omega,by omega,Sel.no rfl ⟨Mj _,fun M hM=>?_⟩⟩
 have LM:L≠M:=ax r.r.hl hM
 have S1:aw H (upd H M (.lst [])):=aw.upd hM
 have hM1:upd H M (.lst []) M=some (.lst (([]:List Key).map kV)):=ak
 generalize upd H M (.lst [])=H1 at S1 hM1
 refine⟨c,p,rfl,hpc,by omega,fun W H2 hWn S2 hW=>⟨W,rfl,.inl ⟨⟨_,SqL.of hW⟩,?_⟩⟩⟩
 have MW:W≠M:=Mh (ax hM1 hWn)
 refine jB (xs:=(cm c c p).map V.int) (fun i σ H'=>∃(fi m:Nat)(ks:List Key)(g':gOp)(x6 x7:Option V),σ=[some (.ref x),some (.int (c:Int)),some (.int (p:Int)),some (.ref M),some (.int (fi:Int)),some (.int (m:Int)),x6,x7]/\Pp A H H' x f L D b M W es c p fi m i g g' n ks)
  ⟨0,c,[],g,none,none,rfl,Mj _,hpc,by omega,rfl,S2 _ _ hM1,hW,bI.same (S1.trans S2),⟨kvs,n,r.same (S1.trans S2) (gV _),gV _⟩,Sub.rfl',⟨[],.nil,by rw[Qm,Qc];unfold wy;rw[tl];rfl⟩,by simp⟩
  (fun i σ H' _ h=>?_) (fun i v σ H' hx' h=>?_) (fun σ H' h=>?_)
 ·obtain⟨_,_,_,_,_,_,_,pp⟩:=h
  exact SqL.of pp.hW
 ·obtain⟨fi,m,ks,g',x6,x7,rfl,pp⟩:=h
  obtain⟨fp,pm,fm,tr,hM',hW',k2,⟨kv,N,r',hN⟩,sub,⟨ss,ms,es'⟩,kl⟩:=pp
  obtain⟨t,ht,rfl⟩:=iX hx'
  have hi:=(Lq.mp ht).1
  have ed:(cm c c p).drop i=t::(cm c c p).drop (i+1):=by rw[Pq hi,(Lq.mp ht).2]
  rw[ed]at tr
  have m2:2<=m:=by
   rcases Ox m 2 with h|h
   ·rw[vb (r:=m) (by omega)]at tr;cases tr
   ·exact h
  obtain⟨g1,g2⟩:=bE m2
  obtain⟨dx',hxx⟩:=r'.r.ob
  have sl:((es.drop fi).take m).length=m:=by rw[Ls,Lz];omega
  have tk:((es.drop fi).take m).take (aj m)=(es.drop fi).take (aj m):=by rw[NH,MT (by omega)]
  have dp:((es.drop fi).take m).drop (aj m)=(es.drop (fi+aj m)).take (m- aj m):=by rw[Qn,RE]
  have l1:((es.drop fi).take (aj m)).length=aj m:=by rw[Ls,Lz];omega
  have l2:((es.drop (fi+aj m)).take (m- aj m)).length=m- aj m:=by rw[Ls,Lz];omega
  have lt:(ks.map kV).length<sizeLine:=by rw[Ll];exact br (by omega)
  obtain⟨nM,nM2⟩:=r'.n2 hM' (fun _ z=>nomatch z) (fun _ z=>nomatch z)
  obtain⟨nW,nW2⟩:=r'.n2 hW' (fun _ z=>nomatch z) (fun _ z=>nomatch z)
  have app:∀v:Key,ks.map kV++[kV v]=(ks++[v]).map kV:=fun v=>by rw[LL];rfl
  refine⟨m,rfl,m2,by omega,?_⟩
  by_cases hp:p- fi<aj m
  ·rw[uC m2 hp]at tr
   have tr2:=(MX tr).2
   obtain rfl:=(MX tr).1
   rw[Jj (by rw[sl];exact m2) (by rw[sl];exact hp),sl,tk,dp]at es'
   refine Sel.dec (fun _=>?_) (fun h=>absurd rfl h)
   refine⟨.inl ⟨rfl,_,SqL.of hM'⟩,x,dx',_,rfl,hxx,rfl,x,f,L,D,b,es,kv,g',N,fi+aj m,m- aj m,?_,r',by omega,by omega,by omega,fun v kv2 g2' H3 k3 r3 sub3 okv szv ev=>?_⟩
   ·rw[OE,NE (by omega)]
   have hM3:=k3 _ _ nM nM2 hM'
   refine⟨M,_,kV v,rfl,rfl,hM3,lt,?_⟩
   rw[app]
   refine⟨fi,aj m,ks++[v],g2',_,_,rfl,fp,hp,by omega,tr2,ak,by rw[ao MW];exact k3 _ _ nW nW2 hW',fun z o n1 n2 e=>?_,⟨kv2,_,r3.setM hM3 LM,by omega⟩,sub.trans sub3,⟨ss++[(es.drop (fi+aj m)).take (m- aj m)],Paired.snoc (Mks.mono ms sub3) ⟨okv,by rw[l2];exact szv,ev⟩,by rw[es'];simp⟩,by rw[Lm];show ks.length+1+_<=_;omega⟩
   rw[ao (ax e hM)];exact k3 _ _ n1 n2 (k2 _ _ n1 n2 e)
  ·rw[tD m2 hp]at tr
   have tr2:=(MX tr).2
   obtain rfl:=(MX tr).1
   rw[Iv (by rw[sl];exact m2) (by rw[sl];exact hp),sl,tk,dp]at es'
   refine Sel.dec (fun h=>absurd h (by decide)) (fun _=>?_)
   refine⟨.inl ⟨rfl,_,SqL.of hM'⟩,x,dx',_,rfl,hxx,rfl,x,f,L,D,b,es,kv,g',N,fi,aj m,rfl,r',by omega,by omega,by omega,fun v kv2 g2' H3 k3 r3 sub3 okv szv ev=>?_⟩
   have hM3:=k3 _ _ nM nM2 hM'
   refine⟨M,_,kV v,rfl,rfl,hM3,lt,?_⟩
   rw[app]
   refine⟨fi+aj m,m- aj m,ks++[v],g2',some (.int 1),some (.int ((aj m:Nat):Int)),?_,by omega,by omega,by omega,by rw[show p- (fi+aj m)=p- fi- aj m by omega];exact tr2,ak,by rw[ao MW];exact k3 _ _ nW nW2 hW',fun z o n1 n2 e=>?_,⟨kv2,_,r3.setM hM3 LM,by omega⟩,sub.trans sub3,⟨ss++[(es.drop fi).take (aj m)],Paired.snoc (Mks.mono ms sub3) ⟨okv,by rw[l1];exact szv,ev⟩,by rw[es',show p- (fi+aj m)=p- fi- aj m by omega];simp⟩,by rw[Lm];show ks.length+1+_<=_;omega⟩
   ·rw[NE (by omega),OE];rfl
   ·rw[ao (ax e hM)];exact k3 _ _ n1 n2 (k2 _ _ n1 n2 e)
 ·obtain⟨fi,m,ks,g',x6,x7,rfl,pp⟩:=h
  obtain⟨fp,pm,fm,tr,hM',hW',k2,⟨kv,N,r',hN⟩,sub,⟨ss,ms,es'⟩,kl⟩:=pp
  rw[Ll,TQ]at tr
  have m1:m<=1:=by
   rcases Ox m 2 with h|h
   ·omega
   ·by_cases hp:p- fi<aj m
    ·rw[uC h hp]at tr;cases tr
    ·rw[tD h hp]at tr;cases tr
  rw[CK (by rw[Ls];omega),MJ]at es'
  obtain⟨dx',hxx⟩:=r'.r.ob
  obtain⟨e,he⟩:∃e,es[p]?=some e:=⟨_,Gt (by omega)⟩
  refine⟨x,A.c_Row,dx',_,.ref L,rfl,hxx,T.cl_Row,T.na_Row_entries,rfl,ixL r'.r.hl rfl (by rw[LO,he];rfl) ?_⟩
  refine⟨M,_,rfl,.inl ⟨SqL.of hM',fun T hT=>⟨aH (show 2<=1000000 by decide),fun P hP=>?_⟩⟩⟩
  have S5:=(aw.upd (o:=.tup (ks.map kV)) hT).trans (aw.upd (o:=.tup [kV e,.ref T]) hP)
  exact q P T e ks kv g' _ (k2.trans (bI.same S5)) (r'.same S5 (by omega)) sub ⟨ak,aw.upd hP _ _ ak⟩ he (by rw[es'];exact ms)
section
theorem okC {c:Nat}(h:c<2^60):okP (.inl (c:Int))=true:=by
 have p60:(2:Int)^60<10^60:=by decide+kernel
 have k:∀i:Int,0<=i->i<10^60->okP (.inl i)=true:=fun i h0 h1=>decide_eq_true ⟨h0,h1⟩
 exact k _ (by omega) (by omega)
theorem zG {t:Int}{v a:Key}(hv:okP v=true)(ha:okP a=true):okT (jtT t v a)=true:=by
 unfold jtT;split
 ·exact cN hv ha
 ·exact cN ha hv
theorem Aj {t:Int}{v a:Key}:szT (jtT t v a)=67+szK v+szK a:=by
 unfold jtT;split
 ·rw[sz3,szW.2.2.1];omega
 ·rw[sz3,szW.2.2.1];omega
theorem Eo {c:Nat}{st:List (Int×Key)}{i B:Nat}{v:Key}(hc:c<2^60)(hm:∀x∈st,mkK x.2)(ov:okP v=true)(sv:szK v<=B+62):okT (cZ c st i v)=true/\szT (cZ c st i v)<=B+4200:=by
 unfold cZ
 cases e:st[i]? with
 |some x=>
  have hx:=hm x (Lu e)
  exact⟨zG ov hx.1,by rw[Aj];have:=hx.2;omega⟩
 |none=>
  refine⟨jR okW.2.2.2 (fun z hz=>?_) (show 2<=7 by decide),?_⟩
  ·rcases LG.mp hz with rfl|hz
   ·exact okC hc
   ·rw[LK.mp hz];exact ov
  ·show szT [.inr "row",.inl (c:Int),v]<=_
   rw[sz3,szW.2.2.2];show 65+(62+szK v)<=_;omega
theorem sF {ts:List Int}{ks:List Key}{x:Int×Key}(h:x∈stR ts ks):x.1∈ts/\x.2∈ks:=by
 unfold stR at h
 rw[TL]at h
 obtain⟨a,b⟩:=x
 exact⟨(Nv h).1,(Nv h).2⟩
variable {A:Adr}
end
theorem PK.keep {H H':Hp}{ps:List Addr}{tt:List (List Key)}(h:PK H ps tt)(k:∀x xs,H x=some (.tup xs)->H' x=some (.tup xs)):PK H' ps tt:=Paired.mapP h fun p t ⟨h1,h2⟩=>⟨k _ _ h1,h2⟩
theorem fq {α β:Type}{F:α->β->Prop}:∀{l₁:List α}{l₂:List β}{a:α}{b:β},Paired F l₁ l₂->F a b->Paired F (l₁++[a]) (l₂++[b])
 |_,_,_,_,.nil,h=>.cons h .nil
 |_,_,_,_,.cons r t,h=>.cons r (fq t h)
theorem aR.tup {H H':Hp}{f b:Addr}{g:gOp}{n:Nat}(s:Stp A H f b g n)(k:aR b H H'):∀x xs,H x=some (.tup xs)->H' x=some (.tup xs):=fun x xs e=>k _ _ (s.nb e (fun _ z=>nomatch z) (fun _ z=>nomatch z)) e
theorem mY {H:Hp}{p:Addr}{t:List Key}:∀{ps:List Addr}{tt:List (List Key)},ps.length=tt.length->PK H (ps++[p]) (tt++[t])->H p=some (.tup (t.map kV))/\okT t=true
 |[],[],_,.cons h _=>h
 |_::_,_::_,hl,.cons _ r=>mY (Nat.succ.inj hl) r
 |[],_::_,hl,_=>nomatch hl
 |_::_,[],hl,_=>nomatch hl
theorem sm {H:Hp}{p:Addr}{t:List Key}{ps:List Addr}{tt:List (List Key)}(h:PK H (ps++[p]) (tt++[t])):ps.length=tt.length:=by
 have:=iT h
 simp at this;exact this
theorem LadQ.last {tt:List (List Key)}{m:Nat}(h:tt.length=m+1):∃r t,tt=r++[t]:=by
 cases e:tt.reverse with
 |nil=>have:=congrArg Qr e;rw[Oo,h]at this;simp at this
 |cons x r=>exact⟨r.reverse,x,by rw[<-Sz tt,e,Og]⟩
theorem qd {H:Hp}{ps:List Addr}{r:List (List Key)}{t:List Key}(h:PK H ps (r++[t])):∃qs p,ps=qs++[p]/\PK H (qs++[p]) (r++[t]):=by
 have hl:=iT h
 cases e:ps.reverse with
 |nil=>have:=congrArg Qr e;rw[Oo,hl]at this;simp at this
 |cons x q=>
  have e2:ps=q.reverse++[x]:=by rw[<-Sz ps,e,Og]
  exact⟨_,_,e2,by rw[<-e2];exact h⟩
theorem HZ (K:pv)(A:Adr):Ln (tR K A) 3:=by rintro vs H Q E ⟨a,x,y,rfl,_⟩;rfl
theorem JN (T:Txt K mg A):Rd (tR K A) (T_0 K A) ["self","due","came"]:=by
 intro vs H Q E h
 obtain⟨a,x,y,rfl,ha,q⟩:=h
 refine⟨a,rfl,T.ef_Broken_due,.inl ⟨ha,fun dx hdx ne=>?_⟩⟩
 refine⟨a,rfl,T.ef_Broken_came,.inr ⟨dx,_,by rw[ao (Mh ne)];exact ak,ak,ne,by show 1<1000;decide,?_⟩⟩
 exact q dx hdx
theorem oK {K:pv}{H:Hp}{Q:VK}{a b:Key}(q:Q (.bl (!decide (a=b))) H):ci K (kV a) (kV b) H Q:=by
 cases a<;>cases b
 ·rename_i i j
  have e:decide ((Oe i:Key)=Oe j)=decide (i=j):=by simp
  rw[e]at q;exact q
 ·have e:∀(i:Int)(j:Str),decide ((Oe i:Key)=Oq j)=false:=by simp
  rw[e]at q;exact q
 ·have e:∀(i:Int)(j:Str),decide ((Oq j:Key)=Oe i)=false:=by simp
  rw[e]at q;exact q
 ·rename_i i j
  have e:decide ((Oq i:Key)=Oq j)=decide (i=j):=by simp
  rw[e]at q;exact q
theorem aR.obj {H H':Hp}{b x:Addr}{o:HO}(k:aR b H H')(hb:(∃y,H b=some (.own y))\/∃kvs,H b=some (.dT kvs))(e:H x=some o)(h:∀kvs,o≠.dT kvs)(h2:∀y,o≠.own y:=by intro _ z;cases z):H' x=some o:=k _ _ (fun z=>by
 subst z
 rcases hb with⟨φ,hb⟩|⟨kvs,hb⟩
 ·rw[e]at hb;exact h2 _ (LR hb)
 ·rw[e]at hb;exact h _ (LR hb)) e
theorem jC {ts:List Int}{ds:List Key}(h:ds.length=ts.length+1):(stR ts ds).length=ts.length:=by unfold stR;simp[PX,h]
theorem xg {ts:List Int}{ds:List Key}(h:ds.length=ts.length+1){i:Nat}(hi:i<ts.length):∃t k,ts[ts.length- 1- i]?=some t/\ds[ts.length- 1- i]?=some k/\(stR ts ds)[i]?=some (t,k):=by
 refine⟨ts[ts.length- 1- i]'(by omega),ds[ts.length- 1- i]'(by omega),Gt (by omega),Gt (by omega),?_⟩
 unfold stR
 rw[NC (by rw[PX];omega)]
 have e:(ts.zip ds).length- 1- i=ts.length- 1- i:=by rw[PX];omega
 rw[e,Gt (by rw[PX];omega),List.getElem_zip]
theorem AY {ts:List Int}{ks ds:List Key}(h:dl ts 0 ks.length ks=ds.map some):dz ts ks=ds:=by
 unfold dz;rw[h,Ou]
 have:((fun x:Option Key=>x.getD (.inl 0))∘some)=id:=rfl
 rw[this,List.map_id]
structure Dg (ts:List Int)(ks acc:List Key)(i lo hi:Nat):Prop where
 al:acc.length=i
 hl:hi<=ks.length
 w:hi=lo+(ts.length- i)+1
 eq:acc.map some++dl (ts.drop i) lo hi ks=dl ts 0 ks.length ks
theorem Dg.start {ts:List Int}{ks:List Key}(h:ks.length=ts.length+1):Dg ts ks [] 0 0 ks.length:=⟨rfl,gV _,by omega,by rw[Qm];rfl⟩
theorem Dg.one {ts:List Int}{ks acc:List Key}{i lo hi:Nat}{k:Key}(d:Dg ts ks acc i lo hi)(ht:ts[i]?=some 1)(hk:ks[lo]?=some k):Dg ts ks (acc++[k]) (i+1) (lo+1) hi:=by
 have hi':=(Lq.mp ht).1
 have e:ts.drop i=1::ts.drop (i+1):=by rw[Pq hi',(Lq.mp ht).2]
 refine⟨by rw[Lm,d.al];rfl,d.hl,by have:=d.w;omega,?_⟩
 rw[<-d.eq,e,dl,if_pos rfl,hk,LL,MK];rfl
theorem Dg.nul {ts:List Int}{ks acc:List Key}{i lo hi:Nat}{k:Key}{t:Int}(d:Dg ts ks acc i lo hi)(ht:ts[i]?=some t)(t1:t≠1)(hk:ks[hi- 1]?=some k):Dg ts ks (acc++[k]) (i+1) lo (hi- 1):=by
 have hi':=(Lq.mp ht).1
 have e:ts.drop i=t::ts.drop (i+1):=by rw[Pq hi',(Lq.mp ht).2]
 refine⟨by rw[Lm,d.al];rfl,by have:=d.hl;omega,by have:=d.w;omega,?_⟩
 rw[<-d.eq,e,dl,if_neg t1,hk,LL,MK];rfl
theorem Dg.done {ts:List Int}{ks acc:List Key}{i lo hi:Nat}{k:Key}(d:Dg ts ks acc i lo hi)(hi':i=ts.length)(hk:ks[lo]?=some k):dz ts ks=acc++[k]:=by
 subst hi'
 refine AY ?_
 rw[<-d.eq,TQ,dl,hk,LL];rfl
theorem Dg.lo {ts:List Int}{ks acc:List Key}{i lo hi:Nat}(d:Dg ts ks acc i lo hi)(h:ks.length=ts.length+1)(hi':i<=ts.length):lo<ks.length/\1<=hi/\hi- 1<ks.length:=by
 have:=d.hl;have:=d.w;omega
theorem Ea (K:pv)(A:Adr):Ln (pX K A) 2:=by rintro vs H Q E ⟨L,P,ts,ks,rfl,_⟩;rfl
theorem Hl (T:Txt K mg A):Rd (pX K A) (KB K A) ["turns","marks","steps","first","last","turn"]:=by
 intro vs H Q E h
 obtain⟨L,P,ts,ks,rfl,hL,hP,kl,tl,t01,q⟩:=h
 refine⟨Mj _,fun D hD=>?_⟩
 have S1:aw H (upd H D (.lst [])):=aw.upd hD
 have hD1:upd H D (.lst []) D=some (.lst (([]:List Addr).map V.ref)):=ak
 generalize upd H D (.lst [])=H1 at S1 hD1
 refine .inl (.inr (.inl ⟨_,SqT.of (S1 _ _ hP),?_⟩))
 rw[Ll]
 refine⟨L,rfl,.inl ⟨⟨_,SqL.of (S1 _ _ hL)⟩,?_⟩⟩
 refine jB (xs:=ts.map V.int) (fun i σ H'=>∃(acc:List Key)(ps:List Addr)(lo hi:Nat)(x5:Option V),σ=[some (.ref L),some (.ref P),some (.ref D),some (.int (lo:Int)),some (.int ((hi:Int)- 1)),x5]/\aw H H'/\H' D=some (.lst (ps.map V.ref))/\ps.length=i/\Dg ts ks acc i lo hi/\∀(j:Nat)(p:Addr)(t:Int)(k:Key),ps[j]?=some p->ts[j]?=some t->acc[j]?=some k->H' p=some (.tup [.int t,kV k]))
  ⟨[],[],0,ks.length,none,rfl,S1,hD1,rfl,Dg.start kl,fun j p t k h=>nomatch h⟩ ?_ ?_ ?_
 ·rintro i σ H' _ ⟨_,_,_,_,_,_,S,_⟩;exact SqL.of (S _ _ hL)
 ·rintro i x σ H' hx ⟨acc,ps,lo,hi,x5,rfl,S,hD',pl,d,hp⟩
  obtain⟨t,ht,rfl⟩:=iX hx
  have hi':=(Lq.mp ht).1
  obtain⟨b1,b2,b3⟩:=d.lo kl (by omega)
  have lt:(ps.map V.ref).length<sizeLine:=by rw[Ll,pl];exact br (by omega)
  have al:=d.al
  have nx:∀(k:Key)(p7:Addr),H' p7=none->∀(lo' hi':Nat),Dg ts ks (acc++[k]) (i+1) lo' hi'->aw H (upd (upd H' p7 (.tup [.int t,kV k])) D (.lst (ps.map V.ref++[.ref p7])))/\upd (upd H' p7 (.tup [.int t,kV k])) D (.lst (ps.map V.ref++[.ref p7])) D=some (.lst ((ps++[p7]).map V.ref))/\(ps++[p7]).length=i+1/\∀(j:Nat)(p:Addr)(t':Int)(k':Key),(ps++[p7])[j]?=some p->ts[j]?=some t'->(acc++[k])[j]?=some k'->upd (upd H' p7 (.tup [.int t,kV k])) D (.lst (ps.map V.ref++[.ref p7])) p=some (.tup [.int t',kV k']):=by
   intro k p7 hp7 lo' hi' d'
   have Dn:p7≠D:=Mh (ax hD' hp7)
   refine⟨fun z u ez=>?_,by rw[ak,LL];rfl,by rw[Lm,pl];rfl,fun j p t' k' h1 h2 h3=>?_⟩
   ·rw[ao (ax ez hD)];exact aw.upd hp7 _ _ (S _ _ ez)
   ·rcases Rh j i with hj|hj|hj
    ·rw[Me (by omega)]at h1 h3
     have:=hp j p t' k' h1 h2 h3
     rw[ao (aU this hD' (fun z=>nomatch z))]
     rw[ao (ax this hp7)];exact this
    ·subst hj
     rw[Mf (by omega),pl,Ow]at h1
     rw[Mf (by omega),al,Ow]at h3
     cases h1;cases h3
     rw[ht]at h2;cases h2
     rw[ao Dn];exact ak
    ·rw[MP (by rw[Lm,pl];show i+1<=j;omega)]at h1;cases h1
  refine Sel.dec (fun h=>?_) (fun h=>?_)
  ·have h:t=0:=h
   obtain⟨k,hk⟩:∃k,ks[hi- 1]?=some k:=⟨_,Gt b3⟩
   refine⟨.inl ⟨rfl,_,SqL.of hD'⟩,ixT (j:=hi- 1) (S _ _ hP) (by omega) (by rw[LO,hk];rfl) ⟨aH (show 2<=1000000 by decide),fun p7 hp7=>⟨D,_,_,rfl,rfl,aw.upd hp7 _ _ hD',lt,?_⟩⟩⟩
   have d':=d.nul ht (by omega) hk
   obtain⟨a1,a2,a3,a4⟩:=nx k p7 hp7 lo (hi- 1) d'
   refine⟨acc++[k],ps++[p7],lo,hi- 1,some (.int t),?_,a1,a2,a3,d',a4⟩
   rw[NE (by omega)];rfl
  ·have h:¬t=0:=h
   have t1:t=1:=(t01 t (Lu ht)).resolve_left h
   obtain⟨k,hk⟩:∃k,ks[lo]?=some k:=⟨_,Gt b1⟩
   refine⟨.inl ⟨rfl,_,SqL.of hD'⟩,ixT (j:=lo) (S _ _ hP) rfl (by rw[LO,hk];rfl) ⟨aH (show 2<=1000000 by decide),fun p7 hp7=>⟨D,_,_,rfl,rfl,aw.upd hp7 _ _ hD',lt,?_⟩⟩⟩
   have d':=d.one (t1▸ht) hk
   obtain⟨a1,a2,a3,a4⟩:=nx k p7 hp7 (lo+1) hi d'
   exact⟨acc++[k],ps++[p7],lo+1,hi,_,rfl,a1,a2,a3,d',a4⟩
 ·rintro σ H' ⟨acc,ps,lo,hi,x5,rfl,S,hD',pl,d,hp⟩
  rw[Ll]at d pl
  obtain⟨b1,b2,b3⟩:=d.lo kl (by omega)
  obtain⟨k,hk⟩:∃k,ks[lo]?=some k:=⟨_,Gt b1⟩
  have ed:=d.done rfl hk
  have al:=d.al
  have em:inM ts ks=k:=by
   unfold inM;rw[ed,Mf (by omega),al,Ow];rfl
  have dlen:(dz ts ks).length=ts.length+1:=by rw[ed,Lm,al];rfl
  refine ixT (j:=lo) (S _ _ hP) rfl (by rw[LO,hk];rfl) ⟨D,_,rfl,SqL.of hD',fun Z hZ=>⟨aH (show 2<=1000000 by decide),fun R hR=>?_⟩⟩
  have S2:=(aw.upd (o:=.lst (ps.map V.ref).reverse) hZ).trans (aw.upd (o:=.tup [kV k,.ref Z]) hR)
  refine q R Z ps.reverse _ (S.trans S2) (by rw[ak,em]) (by rw[aw.upd hR _ _ ak,List.map_reverse]) (by rw[Oo,pl]) fun j p x h1 h2=>?_
  have hj:j<ts.length:=by
   have:=(Lq.mp h1).1
   rw[Oo,pl]at this;exact this
  obtain⟨tn,m,g1,g2,g3⟩:=xg dlen hj
  have h2:(stR ts (dz ts ks))[j]?=some x:=h2
  rw[g3]at h2
  cases h2
  rw[NC (by omega),pl]at h1
  rw[ed,Me (by omega)]at g2
  exact S2 _ _ (hp _ _ _ _ h1 g1 g2)
def ni (h:List Key->Key)(c:Int)(m:Key)(st:List (Int×Key)):Nat->Key
 |0=>m
 |i+1=>h (fX h c m st i)
theorem fU (h:List Key->Key)(c:Int)(m:Key)(st:List (Int×Key))(i:Nat):fX h c m st i=cZ c st i (ni h c m st i):=by cases i<;>rfl
theorem jp (h:List Key->Key)(c:Int)(m:Key)(st:List (Int×Key))(k:Nat):kF h c m st (k+1)=kF h c m st k++[fX h c m st k]:=by
 unfold kF;rw[List.range_succ,LL];rfl
structure Gy (A:Adr)(H H':Hp)(f b Y O:Addr)(c:Nat)(m:Key)(st:List (Int×Key))(iy io:Nat)(g g':gOp)(n:Nat)(py po:List Addr)(ty to:List (List Key))(v u:Key):Prop where
 kb:aR b H H'
 s:Stp A H' f b g' (n+iy+io)
 sub:Sub g g'
 nY:H Y=none
 nO:H O=none
 yo:Y≠O
 hY:H' Y=some (.lst (py.map V.ref))
 hO:H' O=some (.lst (po.map V.ref))
 ky:PK H' py ty
 ko:PK H' po to
 ly:ty.length=iy
 lo:to.length<=io
 ov:okP v=true
 sv:szK v<=4200*iy+4000
 ou:okP u=true
 su:szK u<=4200*io+4000
 sy:∀k∈ty,szT k<=60000
 so:∀k∈to,szT k<=60000
 eq:∀h,Ext g' h->ty=kF h c m st iy/\v=ni h c m st iy/\to=(dC h m st io).1/\u=(dC h m st io).2
section
variable {H H':Hp}{f b Y O:Addr}{c:Nat}{m:Key}{st:List (Int×Key)}{iy io:Nat}{g g':gOp}{n:Nat}{py po:List Addr}{ty to:List (List Key)}{v u:Key}{R:VK}
theorem Gy.nb (l:Gy A H H' f b Y O c m st iy io g g' n py po ty to v u):Y≠b/\O≠b:=⟨l.s.nb l.hY (fun _ z=>nomatch z) (fun _ z=>nomatch z),l.s.nb l.hO (fun _ z=>nomatch z) (fun _ z=>nomatch z)⟩
theorem Gy.young (l:Gy A H H' f b Y O c m st iy io g g' n py po ty to v u)(hc:c<2^60)(hm:∀x∈st,mkK x.2)(i60:iy<=10)(o60:io<=10)(hn:n<=40000){p7:Addr}(hp7:H' p7=none)
  (q:∀(v':Key)(H8:Hp)(g8:gOp),(∀z o,z≠b->z≠Y->H' z=some o->H8 z=some o)->Gy A H H8 f b Y O c m st (iy+1) io g g8 n (py++[p7]) po (ty++[cZ c st iy v]) to v' u->R (kV v') H8):
  mF (eQ K A) f [.ref p7] (upd (upd H' p7 (.tup ((cZ c st iy v).map kV))) Y (.lst (py.map V.ref++[.ref p7]))) R E0:=by
 obtain⟨nYb,nOb⟩:=l.nb
 have Y7:p7≠Y:=Mh (ax l.hY hp7)
 have hY7:upd H' p7 (.tup ((cZ c st iy v).map kV)) Y=some (.lst (py.map V.ref)):=aw.upd hp7 _ _ l.hY
 have kx:∀z o,z≠Y->H' z=some o->upd (upd H' p7 (.tup ((cZ c st iy v).map kV))) Y (.lst (py.map V.ref++[.ref p7])) z=some o:=fun z o nz ez=>by rw[ao nz];exact aw.upd hp7 _ _ ez
 have s7:Stp A (upd (upd H' p7 (.tup ((cZ c st iy v).map kV))) Y (.lst (py.map V.ref++[.ref p7]))) f b g' (n+iy+io):=(l.s.same (gV _) (aw.upd hp7)).setL hY7
 obtain⟨ok7,sz7⟩:=Eo (i:=iy) (B:=4200*iy+3938) hc hm l.ov (by have:=l.sv;omega)
 have hp77:upd (upd H' p7 (.tup ((cZ c st iy v).map kV))) Y (.lst (py.map V.ref++[.ref p7])) p7=some (.tup ((cZ c st iy v).map kV)):=by rw[ao Y7];exact ak
 have hYY:upd (upd H' p7 (.tup ((cZ c st iy v).map kV))) Y (.lst (py.map V.ref++[.ref p7])) Y=some (.lst ((py++[p7]).map V.ref)):=by rw[ak,LL];rfl
 have kt:∀x xs,H' x=some (.tup xs)->upd (upd H' p7 (.tup ((cZ c st iy v).map kV))) Y (.lst (py.map V.ref++[.ref p7])) x=some (.tup xs):=fun x xs ex=>kx _ _ (aU ex l.hY (fun z=>nomatch z)) ex
 have hO7:=kx _ _ (Mh l.yo) l.hO
 have kb7:aR b H (upd (upd H' p7 (.tup ((cZ c st iy v).map kV))) Y (.lst (py.map V.ref++[.ref p7]))):=fun z o nz ez=>kx _ _ (ax ez l.nY) (l.kb _ _ nz ez)
 generalize upd (upd H' p7 (.tup ((cZ c st iy v).map kV))) Y (.lst (py.map V.ref++[.ref p7]))=H7 at kx s7 hp77 hYY kt hO7 kb7
 refine dQ s7 (by omega) hp77 ok7 fun v' H8 g8 kb8 s8 sub8 gv st8=>?_
 have sv:=ja st8
 refine q v' H8 g8 (fun z o nz ny ez=>kb8 _ _ nz (kx _ _ ny ez)) ⟨kb7.trans kb8,s8.same (by omega) (.refl _),l.sub.trans sub8,l.nY,l.nO,l.yo,kb8 _ _ nYb hYY,kb8 _ _ nOb hO7,fq ((l.ky.keep kt).keep (aR.tup s7 kb8)) ⟨kb8.obj s7.bb hp77 (fun _ z=>nomatch z),ok7⟩,(l.ko.keep kt).keep (aR.tup s7 kb8),by rw[Lm,l.ly];rfl,l.lo,eY st8 (by omega),by omega,l.ou,l.su,fun k hk=>?_,l.so,fun h eh=>?_⟩
 ·rcases Mr.mp hk with h|h
  ·exact l.sy k h
  ·rw[LK.mp h];omega
 ·obtain⟨e1,e2,e3,e4⟩:=l.eq h (Ext.of sub8 eh)
  have e5:cZ c st iy v=fX h c m st iy:=by rw[fU,e2]
  refine⟨by rw[jp,<-e1,e5],?_,e3,e4⟩
  show v'=h (fX h c m st iy)
  rw[<-e5,eh _ _ gv]
theorem Gy.old (l:Gy A H H' f b Y O c m st iy io g g' n py po ty to v u)(hm:∀x∈st,mkK x.2)(i60:iy<=11)(o60:io<=10)(hn:n<=40000){x:Int×Key}(hx:st[io]?=some x)(x1:x.1=1){p7:Addr}(hp7:H' p7=none)
  (q:∀(u':Key)(H8:Hp)(g8:gOp),(∀z o,z≠b->z≠O->H' z=some o->H8 z=some o)->Gy A H H8 f b Y O c m st iy (io+1) g g8 n py (po++[p7]) ty (to++[jtT x.1 u x.2]) v u'->R (kV u') H8):
  mF (eQ K A) f [.ref p7] (upd (upd H' p7 (.tup ((jtT x.1 u x.2).map kV))) O (.lst (po.map V.ref++[.ref p7]))) R E0:=by
 obtain⟨nYb,nOb⟩:=l.nb
 have O7:p7≠O:=Mh (ax l.hO hp7)
 have hO7:upd H' p7 (.tup ((jtT x.1 u x.2).map kV)) O=some (.lst (po.map V.ref)):=aw.upd hp7 _ _ l.hO
 have kx:∀z o,z≠O->H' z=some o->upd (upd H' p7 (.tup ((jtT x.1 u x.2).map kV))) O (.lst (po.map V.ref++[.ref p7])) z=some o:=fun z o nz ez=>by rw[ao nz];exact aw.upd hp7 _ _ ez
 have s7:Stp A (upd (upd H' p7 (.tup ((jtT x.1 u x.2).map kV))) O (.lst (po.map V.ref++[.ref p7]))) f b g' (n+iy+io):=(l.s.same (gV _) (aw.upd hp7)).setL hO7
 have hxe:=hm x (Lu hx)
 have ok7:okT (jtT x.1 u x.2)=true:=zG l.ou hxe.1
 have sz7:szT (jtT x.1 u x.2)<=4200*io+8067:=by rw[Aj];have:=l.su;have:=hxe.2;omega
 have hp77:upd (upd H' p7 (.tup ((jtT x.1 u x.2).map kV))) O (.lst (po.map V.ref++[.ref p7])) p7=some (.tup ((jtT x.1 u x.2).map kV)):=by rw[ao O7];exact ak
 have hOO:upd (upd H' p7 (.tup ((jtT x.1 u x.2).map kV))) O (.lst (po.map V.ref++[.ref p7])) O=some (.lst ((po++[p7]).map V.ref)):=by rw[ak,LL];rfl
 have kt:∀z xs,H' z=some (.tup xs)->upd (upd H' p7 (.tup ((jtT x.1 u x.2).map kV))) O (.lst (po.map V.ref++[.ref p7])) z=some (.tup xs):=fun z xs ex=>kx _ _ (aU ex l.hO (fun z=>nomatch z)) ex
 have hY7:=kx _ _ l.yo l.hY
 have kb7:aR b H (upd (upd H' p7 (.tup ((jtT x.1 u x.2).map kV))) O (.lst (po.map V.ref++[.ref p7]))):=fun z o nz ez=>kx _ _ (ax ez l.nO) (l.kb _ _ nz ez)
 generalize upd (upd H' p7 (.tup ((jtT x.1 u x.2).map kV))) O (.lst (po.map V.ref++[.ref p7]))=H7 at kx s7 hp77 hOO kt hY7 kb7
 refine dQ s7 (by omega) hp77 ok7 fun u' H8 g8 kb8 s8 sub8 gv st8=>?_
 have sv:=ja st8
 refine q u' H8 g8 (fun z o nz ny ez=>kb8 _ _ nz (kx _ _ ny ez)) ⟨kb7.trans kb8,s8.same (by omega) (.refl _),l.sub.trans sub8,l.nY,l.nO,l.yo,kb8 _ _ nYb hY7,kb8 _ _ nOb hOO,(l.ky.keep kt).keep (aR.tup s7 kb8),fq ((l.ko.keep kt).keep (aR.tup s7 kb8)) ⟨kb8.obj s7.bb hp77 (fun _ z=>nomatch z),ok7⟩,l.ly,by rw[Lm];have:=l.lo;show _+1<=_;omega,l.ov,l.sv,eY st8 (by omega),by omega,l.sy,fun k hk=>?_,fun h eh=>?_⟩
 ·rcases Mr.mp hk with h|h
  ·exact l.so k h
  ·rw[LK.mp h];omega
 ·obtain⟨e1,e2,e3,e4⟩:=l.eq h (Ext.of sub8 eh)
  refine⟨e1,e2,?_,?_⟩
  ·rw[dC,hx];dsimp only;rw[if_pos x1,<-e3,<-e4]
  ·rw[dC,hx];dsimp only;rw[if_pos x1,<-e4,eh _ _ gv]
theorem Gy.skip (l:Gy A H H' f b Y O c m st iy io g g' n py po ty to v u){x:Int×Key}(hx:st[io]?=some x)(x1:x.1≠1):Gy A H H' f b Y O c m st iy (io+1) g g' n py po ty to v u:=by
 have e:∀h,dC h m st (io+1)=dC h m st io:=fun h=>by rw[dC,hx];dsimp only;rw[if_neg x1]
 exact{l with
  s:=l.s.same (by omega) (.refl _)
  lo:=Nat.le_succ_of_le l.lo
  su:=Mi l.su (by omega)
  eq:=fun h eh=>⟨(l.eq h eh).1,(l.eq h eh).2.1,by rw[e];exact(l.eq h eh).2.2.1,by rw[e];exact(l.eq h eh).2.2.2⟩}
end
theorem BO (K:pv)(A:Adr):Ln (pQ K A) 4:=by rintro vs H Q E ⟨f,b,R,Z,c,el,m,st,ps,g,n,rfl,_⟩;rfl
theorem qi (ps:List Addr)(p:Addr):(ps++[p]).map V.ref=ps.map V.ref++[.ref p]:=by rw[LL];rfl
theorem Jn (T:Txt K mg A):Rd (pQ K A) (Lg K A) ["stamper","count","elder","steps","younger","older","top","older_top","step"]:=by
 intro vs H Q E h
 obtain⟨f,b,R,Z,c,el,m,st,ps,g,n,rfl,s,hn,e1,ec,c2,hR,hZ,pl,hp,s60,em,sx,q⟩:=h
 have hm:∀x∈st,mkK x.2:=fun x hx=>(sx x hx).2
 refine⟨Mj _,fun Y hY=>⟨Mj _,fun O hO=>?_⟩⟩
 have S1:aw H (upd (upd H Y (.lst [])) O (.lst [])):=(aw.upd hY).trans (aw.upd hO)
 have hY1:upd (upd H Y (.lst [])) O (.lst []) Y=some (.lst (([]:List Addr).map V.ref)):=aw.upd hO _ _ ak
 have hO1:upd (upd H Y (.lst [])) O (.lst []) O=some (.lst (([]:List Addr).map V.ref)):=ak
 have OY:O≠Y:=(bN hO).1
 have hOn:H O=none:=(bN hO).2
 generalize upd (upd H Y (.lst [])) O (.lst [])=H1 at S1 hY1 hO1
 have l0:Gy A H H1 f b Y O c m st 0 0 g g n [] [] [] [] m m:=⟨aR.same S1,s.same (gV _) S1,Sub.rfl',hY,hOn,Mh OY,hY1,hO1,.nil,.nil,rfl,gV _,em.1,by have:=em.2;omega,em.1,by have:=em.2;omega,(fun _ h=>nomatch h),(fun _ h=>nomatch h),fun h _=>⟨rfl,rfl,rfl,rfl⟩⟩
 have hR1:=S1 _ _ hR
 refine ixT (j:=0) hR1 rfl rfl (ixT (j:=0) hR1 rfl rfl (ixT (j:=1) hR1 rfl rfl ⟨Z,rfl,.inl ⟨⟨_,SqL.of (S1 _ _ hZ)⟩,?_⟩⟩))
 have nZ:Z≠b:=s.nb hZ (fun _ z=>nomatch z) (fun _ z=>nomatch z)
 refine jB (xs:=ps.map V.ref) (fun i σ H'=>∃(x8:Option V)(g':gOp)(py po:List Addr)(ty to:List (List Key))(v u:Key),σ=[some (.ref f),some (.int (c:Int)),some (.int (el:Int)),some (.ref R),some (.ref Y),some (.ref O),some (kV v),some (kV u),x8]/\Gy A H H' f b Y O c m st i i g g' n py po ty to v u)
  ⟨none,g,[],[],[],[],m,m,rfl,l0⟩ ?_ ?_ ?_
 ·rintro i σ H' _ ⟨_,_,_,_,_,_,_,_,_,l⟩;exact SqL.of (l.kb _ _ nZ hZ)
 ·rintro i x σ H' hx ⟨x8,g',py,po,ty,to,v,u,rfl,l⟩
  obtain⟨pj,hpj,rfl⟩:=iX hx
  have hi:i<st.length:=by rw[<-pl];exact(Lq.mp hpj).1
  obtain⟨x,hxs⟩:∃x,st[i]?=some x:=⟨_,Gt hi⟩
  have hpp:=hp i pj x hpj hxs
  have npj:pj≠b:=s.nb hpp (fun _ z=>nomatch z) (fun _ z=>nomatch z)
  have hp':=l.kb _ _ npj hpp
  have en:∀w,cZ c st i w=jtT x.1 w x.2:=fun w=>by unfold cZ;rw[hxs]
  have llen:=l.ly
  have lolen:=l.lo
  have plen:=iT l.ky
  have polen:=iT l.ko
  refine⟨.inl ⟨rfl,_,SqL.of l.hY⟩,ixT (j:=0) hp' rfl rfl (ixT (j:=1) hp' rfl rfl ⟨x.1,v,x.2,rfl,fun p7 hp7=>⟨Y,_,_,rfl,rfl,aw.upd hp7 _ _ l.hY,by rw[Ll];exact br (by omega),?_⟩⟩)⟩
  refine⟨f,rfl,?_,er ak ?_⟩
  ·have hY7:upd H' p7 (.tup ((jtT x.1 v x.2).map kV)) Y=some (.lst (py.map V.ref)):=aw.upd hp7 _ _ l.hY
   exact((l.s.same (gV _) (aw.upd hp7)).setL hY7).clo
  dsimp only[am]
  rw[<-en v]
  refine l.young (MM c2 (by decide)) hm (by omega) (by omega) (by omega) hp7 fun v' H8 g8 kx l8=>?_
  have pjY:pj≠Y:=ax hpp hY
  have hp8:=kx _ _ npj pjY hp'
  refine ixT (j:=0) hp8 rfl rfl (Sel.dec (fun h1=>?_) (fun h1=>?_))
  ·have h1:x.1=1:=h1
   refine⟨.inl ⟨rfl,_,SqL.of l8.hO⟩,ixT (j:=0) hp8 rfl rfl (ixT (j:=1) hp8 rfl rfl ⟨x.1,u,x.2,rfl,fun p9 hp9=>⟨O,_,_,rfl,rfl,aw.upd hp9 _ _ l8.hO,by rw[Ll];exact br (by omega),?_⟩⟩)⟩
   refine⟨f,rfl,?_,er ak ?_⟩
   ·have hO9:upd H8 p9 (.tup ((jtT x.1 u x.2).map kV)) O=some (.lst (po.map V.ref)):=aw.upd hp9 _ _ l8.hO
    exact((l8.s.same (gV _) (aw.upd hp9)).setL hO9).clo
   dsimp only[am]
   exact l8.old hm (by omega) (by omega) (by omega) hxs h1 hp9 fun u' H10 g10 kx10 l10=>⟨_,g10,_,_,_,_,v',u',rfl,l10⟩
  ·have h1:¬x.1=1:=h1
   exact⟨_,g8,_,_,_,_,v',u,rfl,l8.skip hxs h1⟩
 ·rintro σ H' ⟨x8,g',py,po,ty,to,v,u,rfl,l⟩
  rw[Ll,pl]at l
  have llen:=l.ly
  have lolen:=l.lo
  have plen:=iT l.ky
  have polen:=iT l.ko
  obtain⟨nYb,nOb⟩:=l.nb
  refine⟨.inl ⟨rfl,_,SqL.of l.hY⟩,aH (show 3<=1000000 by decide),fun p7 hp7=>⟨Y,_,_,rfl,rfl,aw.upd hp7 _ _ l.hY,by rw[Ll];exact br (by omega),?_⟩⟩
  have Y7:p7≠Y:=Mh (ax l.hY hp7)
  have kx:∀z o,z≠Y->H' z=some o->upd (upd H' p7 (.tup [.str "row",.int (c:Int),kV v])) Y (.lst (py.map V.ref++[.ref p7])) z=some o:=fun z o nz ez=>by rw[ao nz];exact aw.upd hp7 _ _ ez
  have s7:Stp A (upd (upd H' p7 (.tup [.str "row",.int (c:Int),kV v])) Y (.lst (py.map V.ref++[.ref p7]))) f b g' (n+st.length+st.length):=(l.s.same (gV _) (aw.upd hp7)).setL (aw.upd hp7 _ _ l.hY)
  have hp77:upd (upd H' p7 (.tup [.str "row",.int (c:Int),kV v])) Y (.lst (py.map V.ref++[.ref p7])) p7=some (.tup (([.inr "row",.inl (c:Int),v]:List Key).map kV)):=by rw[ao Y7];exact ak
  have hYY:upd (upd H' p7 (.tup [.str "row",.int (c:Int),kV v])) Y (.lst (py.map V.ref++[.ref p7])) Y=some (.lst ((py++[p7]).map V.ref)):=by rw[ak,qi]
  generalize upd (upd H' p7 (.tup [.str "row",.int (c:Int),kV v])) Y (.lst (py.map V.ref++[.ref p7]))=H7 at kx s7 hp77 hYY
  have hO7:=kx _ _ (Mh l.yo) l.hO
  have kt7:∀x xs,H' x=some (.tup xs)->H7 x=some (.tup xs):=fun x xs ex=>kx _ _ (aU ex l.hY (fun z=>nomatch z)) ex
  refine⟨.inl ⟨rfl,_,SqL.of hO7⟩,aH (show 3<=1000000 by decide),fun p9 hp9=>⟨O,_,_,rfl,rfl,aw.upd hp9 _ _ hO7,by rw[Ll];exact br (by omega),?_⟩⟩
  have O9:p9≠O:=Mh (ax hO7 hp9)
  have kz:∀z o,z≠O->H7 z=some o->upd (upd H7 p9 (.tup [.str "row",.int (el:Int),kV u])) O (.lst (po.map V.ref++[.ref p9])) z=some o:=fun z o nz ez=>by rw[ao nz];exact aw.upd hp9 _ _ ez
  have s9:Stp A (upd (upd H7 p9 (.tup [.str "row",.int (el:Int),kV u])) O (.lst (po.map V.ref++[.ref p9]))) f b g' (n+st.length+st.length):=(s7.same (gV _) (aw.upd hp9)).setL (aw.upd hp9 _ _ hO7)
  have hp99:upd (upd H7 p9 (.tup [.str "row",.int (el:Int),kV u])) O (.lst (po.map V.ref++[.ref p9])) p9=some (.tup (([.inr "row",.inl (el:Int),u]:List Key).map kV)):=by rw[ao O9];exact ak
  have hOO:upd (upd H7 p9 (.tup [.str "row",.int (el:Int),kV u])) O (.lst (po.map V.ref++[.ref p9])) O=some (.lst ((po++[p9]).map V.ref)):=by rw[ak,qi]
  generalize upd (upd H7 p9 (.tup [.str "row",.int (el:Int),kV u])) O (.lst (po.map V.ref++[.ref p9]))=H9 at kz s9 hp99 hOO
  have kt9:∀x xs,H7 x=some (.tup xs)->H9 x=some (.tup xs):=fun x xs ex=>kz _ _ (aU ex hO7 (fun z=>nomatch z)) ex
  have okc:=dO (c:=c) (by omega) l.ov
  have oke:=dO (c:=el) (by omega) l.ou
  have sv:=l.sv
  have su:=l.su
  have szc:szT [.inr "row",.inl (c:Int),v]<=60000:=by rw[sz3,szW.2.2.2];show 65+(62+szK v)<=_;omega
  have sze:szT [.inr "row",.inl (el:Int),u]<=60000:=by rw[sz3,szW.2.2.2];show 65+(62+szK u)<=_;omega
  refine⟨aH (show 2<=1000000 by decide),q Y O (py++[p7]) (po++[p9]) (ty++[[.inr "row",.inl (c:Int),v]]) (to++[[.inr "row",.inl (el:Int),u]]) g' H9 (fun z o nz ez=>kz _ _ (ax ez l.nO) (kx _ _ (ax ez l.nY) (l.kb _ _ nz ez))) (s9.same (by omega) (.refl _)) l.sub (kz _ _ l.yo hYY) hOO (fq ((l.ky.keep kt7).keep kt9) ⟨kt9 _ _ hp77,okc⟩) (fq ((l.ko.keep kt7).keep kt9) ⟨hp99,oke⟩) (by rw[Lm,llen];rfl) (by rw[Lm];show 1<=_+1;omega) (by rw[Lm];show _+1<=_;omega) (fun k hk=>?_) (fun k hk=>?_) fun h eh=>?_⟩
  ·rcases Mr.mp hk with h|h
   ·exact l.sy k h
   ·rw[LK.mp h];exact szc
  ·rcases Mr.mp hk with h|h
   ·exact l.so k h
   ·rw[LK.mp h];exact sze
  ·obtain⟨a1,a2,a3,a4⟩:=l.eq h eh
   refine⟨?_,?_⟩
   ·rw[jp,<-a1,fU,<-a2]
    unfold cZ;rw[MP (gV _)]
   ·unfold uO lL;rw[if_neg (by omega),if_neg (by omega),<-a3,<-a4]
theorem rj:∀(ts:List Int)(lo hi:Nat)(ks:List Key),(dl ts lo hi ks).length=ts.length+1
 |[],_,_,_=>rfl
 |t::r,lo,hi,ks=>by
  rw[dl];split
  ·rw[LU,rj r];rfl
  ·rw[LU,rj r];rfl
theorem qx:∀(ts:List Int)(lo hi:Nat)(ks:List Key),hi=lo+ts.length+1->hi<=ks.length->∀x∈dl ts lo hi ks,∃k∈ks,x=some k
 |[],lo,hi,ks,h1,h2,x,hx=>by
  rw[dl]at hx
  rw[LK.mp hx]
  have:lo<ks.length:=by simp at h1;omega
  exact⟨ks[lo],Nk _,Gt this⟩
 |t::r,lo,hi,ks,h1,h2,x,hx=>by
  rw[LU]at h1
  rw[dl]at hx
  split at hx
  ·rcases LG.mp hx with rfl|hx
   ·have:lo<ks.length:=by omega
    exact⟨ks[lo],Nk _,Gt this⟩
   ·exact qx r (lo+1) hi ks (by omega) h2 x hx
  ·rcases LG.mp hx with rfl|hx
   ·have:hi- 1<ks.length:=by omega
    exact⟨ks[hi- 1],Nk _,Gt this⟩
   ·exact qx r lo (hi- 1) ks (by omega) (by omega) x hx
theorem gP (ts:List Int)(ks:List Key):(dz ts ks).length=ts.length+1:=by unfold dz;rw[Ll,rj]
theorem rp {ts:List Int}{ks:List Key}(kl:ks.length=ts.length+1):∀k∈dz ts ks,k∈ks:=fun k hk=>by
 unfold dz at hk
 obtain⟨x,hx,rfl⟩:=MO.mp hk
 obtain⟨k',hk',rfl⟩:=qx ts 0 ks.length ks (by omega) (gV _) x hx
 exact hk'
theorem AQ {ts:List Int}{ks:List Key}(kl:ks.length=ts.length+1):inM ts ks∈ks:=by
 unfold inM
 have h:=gP ts ks
 have e:(dz ts ks)[ts.length]?=some ((dz ts ks)[ts.length]'(by omega)):=Gt (by omega)
 rw[e]
 exact rp kl _ (Nk _)
theorem Cr {ts:List Int}{ks:List Key}(kl:ks.length=ts.length+1)(t01:∀t∈ts,t=0\/t=1)(ke:∀k∈ks,mkK k):∀x∈stG ts ks,(x.1=0\/x.1=1)/\mkK x.2:=fun x hx=>⟨t01 _ (sF hx).1,ke _ (rp kl _ (sF hx).2)⟩
theorem uQ {h:List Key->Key}{c:Int}{m:Key}{st:List (Int×Key)}{r:List (List Key)}{t:List Key}{k:Nat}(e:r++[t]=kF h c m st (k+1)):t=fX h c m st k:=by
 rw[jp]at e
 exact SV.mp (PC e rfl).2
theorem wB {h:List Key->Key}{el:Nat}{m:Key}{st:List (Int×Key)}{r:List (List Key)}{t:List Key}(e:r++[t]=uO h el m st):t=lL h el m st:=by
 unfold uO at e
 exact SV.mp (PC e rfl).2
theorem qN {tt:List (List Key)}(h:1<=tt.length):∃r t,tt=r++[t]:=LadQ.last (m:=tt.length- 1) (by omega)
theorem jI:∀(n r d:Nat),(trF n r d).length<=n
 |0,_,_=>gV _
 |n+1,r,d=>by
  rw[trF]
  split
  ·exact Mj _
  ·split
   ·exact Ue (jI n _ _)
   ·exact Ue (jI n _ _)
theorem qj:∀(n r d:Nat),∀t∈trF n r d,t=0\/t=1
 |0,_,_=>fun _ h=>nomatch h
 |n+1,r,d=>by
  intro t h
  rw[trF]at h
  split at h
  ·cases h
  ·split at h
   ·rcases LG.mp h with h|h
    ·exact .inl h
    ·exact qj n _ _ t h
   ·rcases LG.mp h with h|h
    ·exact .inr h
    ·exact qj n _ _ t h
theorem gh {c el:Nat}(h:1<=c):pH c el=(bp c el).length+1:=if_neg (by omega)
theorem qS {h:List Key->Key}{c el:Nat}{ks:List Key}(hc:1<=c):yT h c el ks=fX h c (inM (bp c el) ks) (stG (bp c el) ks) (bp c el).length:=if_neg (by omega)
theorem PpW.same {H H':Hp}{p:Addr}{tp:Bool}{ks:List Key}(w:PpW H p tp ks)(S:aw H H'):PpW H' p tp ks:=S _ _ w
theorem EO (K:pv)(A:Adr):Ln (lM K A) 2:=by rintro vs H Q E ⟨n,p,tp,ks,rfl,_⟩;rfl
theorem BB (K:pv)(A:Adr):Ln (pT K A) 4:=by rintro vs H Q E ⟨f,b,P,c,el,tp,ks,g,n,rfl,_⟩;rfl
theorem FY (T:Txt K mg A)(vs:List V)(H:Hp)(Q:VK)(E:XK)(h:pT K A vs H Q E):Cy K A E {nx:=fun _ H'=>Q .non H',rt:=Q} (L2.start ["stamper","count","elder","marks","turns","younger"] vs) H:=by
 obtain⟨f,b,P,c,el,tp,ks,g,n,rfl,⟨s,hn,ec,c10,w,ke,kl20⟩,qb,qg⟩:=h
 refine⟨_,_,rfl,by omega,by omega,by omega,Sel.no rfl ⟨c,el,rfl,ec,by omega,fun W H1 S1 hW=>?_⟩⟩
 have w1:=w.same S1
 have okk:∀k∈ks,okP k=true:=fun k hk=>(ke k hk).1
 have go:∀H2,aw H1 H2->eI c el tp ks=true->qf K A E {nx:=fun _ H'=>Q .non H',rt:=Q} [some (.ref f),some (.int (c:Int)),some (.int (el:Int)),some (.ref P),some (.ref W),none] H2:=fun H2 S2 hg=>by
  have gq:=qg hg
  have S12:=S1.trans S2
  obtain⟨htp,hkl⟩:=Lv.mp hg
  have hkl:=of_decide_eq_true hkl
  have hP2:H2 P=some (.tup (ks.map kV)):=by
   have:=w.same S12
   unfold PpW at this
   rw[if_pos htp]at this;exact this
  have s2:=s.same (gV _) S12
  have tl:(bp c el).length<=c:=jI c c el
  have t01:∀t∈bp c el,t=0\/t=1:=qj c c el
  have W2:=S2 _ _ hW
  refine Sel.dec (fun h=>?_) (fun h=>?_)
  ·have e0:el=0:=by have h:(el:Int)=0:=h;omega
   subst e0
   have ets:bp c 0=[]:=iO (.inl rfl)
   refine Sel.dec (fun hc=>?_) (fun hc=>?_)
   ·have c0:c=0:=by have hc:(c:Int)=0:=hc;omega
    subst c0
    refine⟨f,b,g,n,rfl,s2,by omega,fun Y p1 p2 v g3 H3 k3 s3 sub3 hY hp2 okv szv ev=>?_⟩
    refine⟨f,b,g3,n+1,rfl,s3,by omega,fun O p3 p4 v' g4 H4 k4 s4 sub4 hO hp4 okv' szv' ev'=>⟨aH (show 2<=1000000 by decide),fun R hR=>?_⟩⟩
    have S5:aw H4 (upd H4 R (.tup [.ref Y,.ref O])):=aw.upd hR
    have rz:∀x:Key,szK x<=200->szT [.inr "row",.inl 0,x]<=60000:=fun x hx=>by rw[sz3,szW.2.2.2];show 65+(62+szK x)<=_;omega
    refine gq R Y O p2 p4 [.ref p1] [.ref p3] [.inr "row",.inl 0,v] [.inr "row",.inl 0,v'] g4 _ ((aR.same S12).trans (k3.trans (k4.trans (aR.same S5)))) (s4.same (by omega) S5) (sub3.trans sub4) ak (S5 _ _ (k4.obj s3.bb hY (fun _ z=>nomatch z))) (S5 _ _ hO) (S5 _ _ (k4.obj s3.bb hp2 (fun _ z=>nomatch z))) (S5 _ _ hp4) (dO (c:=0) (by omega) okv) (dO (c:=0) (by omega) okv') (rz _ szv) (rz _ szv') fun h eh=>⟨?_,?_⟩
    ·unfold yT;rw[if_pos rfl,ev h (Ext.of sub4 eh)];rfl
    ·unfold oT lL;rw[if_pos rfl,ev' h eh];rfl
   ·have c1:1<=c:=by have hc:¬(c:Int)=0:=hc;omega
    rw[gh c1,ets]at hkl
    have k1:ks.length=1:=hkl
    obtain⟨x,hm⟩:∃x,ks[0]?=some x:=⟨_,Gt (by omega)⟩
    have em:inM [] ks=x:=by
     unfold inM dz dl
     rw[hm];rfl
    have enm:=ke x (Lu hm)
    refine ixT (j:=0) hP2 rfl (by rw[LO,hm];rfl) ⟨aH (show 3<=1000000 by decide),fun p1 hp1=>⟨aH (show 1<=1000000 by decide),fun Y hY=>?_⟩⟩
    have S3:aw H2 (upd (upd H2 p1 (.tup [.str "row",.int (c:Int),kV x])) Y (.lst [.ref p1])):=(aw.upd hp1).trans (aw.upd hY)
    have hY3:upd (upd H2 p1 (.tup [.str "row",.int (c:Int),kV x])) Y (.lst [.ref p1]) Y=some (.lst [.ref p1]):=ak
    have hp3:upd (upd H2 p1 (.tup [.str "row",.int (c:Int),kV x])) Y (.lst [.ref p1]) p1=some (.tup (([.inr "row",.inl (c:Int),x]:List Key).map kV)):=aw.upd hY _ _ ak
    generalize upd (upd H2 p1 (.tup [.str "row",.int (c:Int),kV x])) Y (.lst [.ref p1])=H3 at S3 hY3 hp3
    have s3:=s2.same (gV _) S3
    refine⟨f,b,g,n,rfl,s3,by omega,fun O p3 p4 v' g4 H4 k4 s4 sub4 hO hp4 okv' szv' ev'=>⟨aH (show 2<=1000000 by decide),fun R hR=>?_⟩⟩
    have S5:aw H4 (upd H4 R (.tup [.ref Y,.ref O])):=aw.upd hR
    refine gq R Y O p1 p4 [] [.ref p3] [.inr "row",.inl (c:Int),x] [.inr "row",.inl 0,v'] g4 _ ((aR.same (S12.trans S3)).trans (k4.trans (aR.same S5))) (s4.same (by omega) S5) sub4 ak (S5 _ _ (k4.obj s3.bb hY3 (fun _ z=>nomatch z))) (S5 _ _ hO) (S5 _ _ (k4.obj s3.bb hp3 (fun _ z=>nomatch z))) (S5 _ _ hp4) (dO (by omega) enm.1) (dO (c:=0) (by omega) okv') ?_ ?_ fun h eh=>⟨?_,?_⟩
    ·rw[sz3,szW.2.2.2];show 65+(62+szK x)<=_;have:=enm.2;omega
    ·rw[sz3,szW.2.2.2];show 65+(62+szK v')<=_;omega
    ·rw[qS c1,ets,em];rfl
    ·unfold oT lL;rw[if_pos rfl,ev' h eh];rfl
  ·have e0:1<=el:=by have h:¬(el:Int)=0:=h;omega
   have c1:1<=c:=by omega
   have kl:ks.length=(bp c el).length+1:=by rw[hkl,gh c1]
   refine⟨W,P,bp c el,ks,rfl,W2,hP2,kl,by omega,t01,fun R Z ps H3 S3 hR hZ pl hp=>?_⟩
   have S13:=S12.trans S3
   have slen:(stG (bp c el) ks).length=(bp c el).length:=jC (gP _ ks)
   refine⟨f,b,R,Z,c,el,inM (bp c el) ks,stG (bp c el) ks,ps,g,n,rfl,s2.same (gV _) S3,hn,e0,ec,c10,hR,hZ,by rw[slen];exact pl,hp,by rw[slen];omega,ke _ (AQ kl),Cr kl t01 ke,?_⟩
   intro Y O py po ty to g' H' kb' s' sub' hY hO ky ko ly l1 l70 sy so eq p hp'
   obtain⟨ry,t1,rfl⟩:=qN (tt:=ty) (by omega)
   obtain⟨ro,t2,rfl⟩:=qN (tt:=to) l1
   obtain⟨qy,py1,rfl,ky'⟩:=qd ky
   obtain⟨qo,po1,rfl,ko'⟩:=qd ko
   obtain⟨hpy,oky⟩:=mY (sm ky') ky'
   obtain⟨hpo,oko⟩:=mY (sm ko') ko'
   have S5:=aw.upd (o:=.tup [.ref Y,.ref O]) hp'
   rw[LL]at hY hO
   refine gq p Y O py1 po1 (qy.map V.ref) (qo.map V.ref) t1 t2 g' _ ((aR.same S13).trans (kb'.trans (aR.same S5))) (s'.same (gV _) S5) sub' ak (S5 _ _ hY) (S5 _ _ hO) (S5 _ _ hpy) (S5 _ _ hpo) oky oko (sy _ (by simp)) (so _ (by simp)) fun h eh=>?_
   obtain⟨q1,q2⟩:=eq h eh
   refine⟨?_,?_⟩
   ·rw[slen]at q1;rw[qS c1,uQ q1]
   ·rw[wB q2];rfl
 have fin:∀H2,aw H1 H2->Sel (!eI c el tp ks) (E (.ref A.c_NoPaper) none H2) (qf K A E {nx:=fun _ H'=>Q .non H',rt:=Q} [some (.ref f),some (.int (c:Int)),some (.int (el:Int)),some (.ref P),some (.ref W),none] H2):=fun H2 S2=>by
  cases hg:eI c el tp ks with
  |false=>exact Sel.t (qb hg H2 (S1.trans S2))
  |true=>exact Sel.f (go H2 S2 hg)
 refine Sel.dec (fun hc=>?_) (fun hc=>?_)
 ·have c0:c=0:=by have hc:(c:Int)=0:=hc;omega
  subst c0
  exact⟨0,P,tp,ks,rfl,w1,okk,by omega,fin⟩
 ·have c1:1<=c:=by have hc:¬(c:Int)=0:=hc;omega
  refine .inl (.inl ⟨_,SqL.of hW,(bp c el).length+1,P,tp,ks,?_,w1,okk,by omega,fun H2 S2=>?_⟩)
  ·rw[Ll];rfl
  ·have:=fin H2 S2
   unfold eI at this
   rw[gh c1]at this
   exact this
theorem vn (T:Txt K mg A)(p:Addr)(k:List Key)(H:Hp)(Q:VK)(hp:H p=some (.tup (k.map kV)))(ok:∀x∈k,okP x=true)(l5:k.length<=500)(q:∀H',aw H H'->Q (.bl true) H'):EL K A {nx:=fun _ H'=>Q .non H',rt:=Q} (L2.start ["many","thing"] [.int (k.length:Int),.ref p]) H:=by
 have ty:tyN H (.ref p)=some "tuple":=by unfold tyN;dsimp only;rw[hp]
 have hml:(k.map kV).length=k.length:=by simp
 refine⟨by decide,"tuple",ty,Sel.t (.inl (.inr (.inl ⟨_,SqT.of hp,?_⟩)))⟩
 rw[hml]
 refine Sel.dec (fun _=>?_) (fun h=>absurd rfl h)
 refine⟨p,rfl,.inr ⟨⟨_,SqT.of hp⟩,fun D hD=>?_⟩⟩
 have hne:p≠D:=ax hp hD
 refine gK (da.tuple (xs:=k.map kV) .non) (fun i ys H2=>ys=(k.take i).map (fun x=>V.bl true)/\H2=upd H D (.lst ys)) (fun i ys H2 hi ⟨_,e2⟩=>?_) ⟨rfl,rfl⟩ (fun i ys H2 hi ⟨e1,e2⟩=>?_) (fun ys H2 ⟨e1,e2⟩=>?_)
 ·rw[e2];exact SqT.of (by rw[ao hne];exact hp)
 ·subst e2
  have hi':i<k.length:=by omega
  obtain⟨x,hx⟩:∃x,k[i]?=some x:=⟨_,Gt hi'⟩
  have hg:(k.map kV).getD i .non=kV x:=by rw[LJ,LO,hx];rfl
  rw[hg]
  have hs:=ik (ok x (Lu hx))
  refine jZ ⟨_,mV x,rfl,vI _ x,?_⟩
  rw[hs]
  have hyl:ys.length=i:=by rw[e1,Ll,Ls];omega
  refine⟨ak,by rw[hyl];exact br (by omega),CWd.next hi ⟨?_,fO⟩⟩
  rw[e1,OJ,LL,hx];rfl
 ·subst e2
  refine⟨D,k.map fun _=>true,rfl,by rw[ak,e1,hml,NW,Ou];rfl,?_⟩
  have:(k.map fun _=>true).all id=true:=by simp
  rw[this];exact q _ (aw.upd hD)
theorem Ja (T:Txt K mg A):Rd (lM K A) (EL K A) ["many","thing"]:=by
 intro vs H Q E h
 obtain⟨n,p,tp,ks,rfl,hp,ok,l5,q⟩:=h
 unfold PpW at hp
 cases tp with
 |false=>
  have hp:H p=some (.lst (ks.map kV)):=hp
  have ty:tyN H (.ref p)=some "list":=by unfold tyN;dsimp only;rw[hp]
  exact⟨by decide,"list",ty,Sel.f (q H aw.rfl')⟩
 |true=>
  have hp:H p=some (.tup (ks.map kV)):=hp
  by_cases e:ks.length=n
  ·subst e
   refine vn T p ks H Q hp ok l5 fun H' S=>?_
   have:=q H' S
   rw[decide_eq_true rfl]at this;exact this
  ·have ty:tyN H (.ref p)=some "tuple":=by unfold tyN;dsimp only;rw[hp]
   refine⟨by decide,"tuple",ty,Sel.t (.inl (.inr (.inl ⟨_,SqT.of hp,?_⟩)))⟩
   rw[Ll]
   refine Sel.dec (fun h=>absurd (by have h:(ks.length:Int)=n:=h;omega) e) (fun h=>?_)
   have:=q H aw.rfl'
   rw[decide_eq_false e]at this;exact this
theorem DQ (K:pv)(A:Adr):Ln (pk K A) 1:=by rintro vs H Q E ⟨rfl,_⟩;rfl
theorem GE (T:Txt K mg A):Rd (pk K A) (JG K A) ["thing"]:=by
 intro vs H Q E h
 obtain⟨rfl,q⟩:=h
 exact⟨_,_,rfl,.int 4,Sel.t (Sel.yes rfl q)⟩
theorem EE (K:pv)(A:Adr):Ln (lY K A) 1:=by rintro vs H Q E ⟨p,rfl,_⟩;rfl
theorem Iw (T:Txt K mg A)(vs:List V)(H:Hp)(Q:VK)(E:XK)(h:lY K A vs H Q E):Co K A E {nx:=fun _ H'=>Q .non H',rt:=Q} (L2.start ["answer"] vs) H:=by
 obtain⟨p,rfl,q⟩:=h
 exact Sel.no rfl q
theorem IJ (K:pv)(A:Adr):Ln (uR K A) 3:=by rintro vs H Q E ⟨a,x,y,rfl,_⟩;rfl
theorem KW (T:Txt K mg A):Rd (uR K A) (T_7 K A) ["self","due","came"]:=by
 intro vs H Q E h
 obtain⟨a,x,y,rfl,ha,q⟩:=h
 refine⟨a,rfl,T.ef_Parted_due,.inl ⟨ha,fun dx hdx ne=>?_⟩⟩
 refine⟨a,rfl,T.ef_Parted_came,.inr ⟨dx,_,by rw[ao (Mh ne)];exact ak,ak,ne,by show 1<1000;decide,?_⟩⟩
 exact q dx hdx
theorem DI (K:pv)(A:Adr):Ln (pd K A) 4:=by rintro vs H Q E ⟨f,b,hd,P,c,el,tp,ks,mk,g,n,rfl,_⟩;rfl
theorem Gp (T:Txt K mg A)(vs:List V)(H:Hp)(Q:VK)(E:XK)(h:pd K A vs H Q E):Eu K A E {nx:=fun _ H'=>Q .non H',rt:=Q} (L2.start ["stamper","head","elder","marks","terms","came"] vs) H:=by
 obtain⟨f,b,hd,P,c,el,tp,ks,mk,g,n,rfl,a,hh,okm,qb,qg⟩:=h
 have hn:=a.hn
 have c10:=a.c10
 refine⟨hd,c,mk,rfl,hh,by omega,okm,ixT (j:=0) hh rfl rfl ?_⟩
 refine⟨f,b,P,c,el,tp,ks,g,n,rfl,a,qb,fun hg R Y O y o qy qo ky ko g1 H1 k1 s1 sub1 hR hY hO hy ho oky oko szy szo eq=>?_⟩
 have q:=qg hg
 have hh1:=k1.obj a.s.bb hh (fun _ z=>nomatch z)
 refine⟨f,rfl,s1.clo,ixT (j:=0) hR rfl rfl (er hY ?_)⟩
 dsimp only[am]
 refine dQ s1 (by omega) hy oky fun w H3 g3 kb3 s3 sub3 gv st3=>?_
 obtain⟨q1,q2⟩:=q w g3 H3 (k1.trans kb3) s3 (sub1.trans sub3) (eY st3 (by omega)) (fun h eh=>by rw[<-(eq h (Ext.of sub3 eh)).1,eh _ _ gv])
 have hh3:=kb3.obj s1.bb hh1 (fun _ z=>nomatch z)
 refine ixT (j:=1) hh3 rfl rfl (oK ?_)
 by_cases ewm:w=mk
 ·refine Sel.no (by rw[decide_eq_true ewm];rfl) ?_
  refine⟨f,rfl,s3.clo,ixT (j:=1) (kb3.obj s1.bb hR (fun _ z=>nomatch z)) rfl rfl (er (kb3.obj s1.bb hO (fun _ z=>nomatch z)) ?_)⟩
  dsimp only[am]
  refine dQ s3 (by omega) (kb3.obj s1.bb ho (fun _ z=>nomatch z)) oko fun u H4 g4 kb4 s4 sub4 gu st4=>?_
  exact q1 ewm u g4 H4 kb4 s4 sub4 (eY st4 (by omega)) fun h eh=>by
   rw[<-(eq h (Ext.of sub3 (Ext.of sub4 eh))).2,eh _ _ gu]
 ·refine Sel.yes (by rw[decide_eq_false ewm];rfl) ?_
  refine ixT (j:=1) hh3 rfl rfl fun a ha=>⟨a,kV mk,kV w,rfl,ak,fun dx hdx=>⟨rfl,some dx,?_,?_⟩⟩
  ·obtain⟨nd,_⟩:=bN hdx
   rw[ao (Mh nd),ao (Mh nd)];exact ak
  ·obtain⟨nd,hd0⟩:=bN hdx
   refine q2 ewm dx _ (fun z o ez=>?_)
   have na:=ax ez ha
   have nz:=ax ez hd0
   rw[fg na,ao nz,ao nz,ao na,ao na];exact ez
inductive Plc (g:gOp)(es:List Key):List (Int×Key)->List Key->Prop
 |nil:Plc g es [] es
 |lo {st s k}:Plc g es st s->2<=s.length->Cur g (s.drop (aj s.length)) k->Plc g es (st++[(0,k)]) (s.take (aj s.length))
 |hi {st s k}:Plc g es st s->2<=s.length->Cur g (s.take (aj s.length)) k->Plc g es (st++[(1,k)]) (s.drop (aj s.length))
theorem Plc.mono {g g':gOp}{es:List Key}{st:List (Int×Key)}{s:List Key}(p:Plc g es st s)(sub:Sub g g'):Plc g' es st s:=by
 induction p with
 |nil=>exact .nil
 |lo _ h c ih=>exact .lo ih h (c.mono sub)
 |hi _ h c ih=>exact .hi ih h (c.mono sub)
theorem Plc.len {g:gOp}{es:List Key}{st:List (Int×Key)}{s:List Key}(p:Plc g es st s):s.length<=es.length:=by
 induction p with
 |nil=>exact gV _
 |lo _ h c ih=>rw[Ls];omega
 |hi _ h c ih=>rw[Lz];omega
theorem ye {g:List Key->Option Key}{es:List Key}{st:List (Int×Key)}{t:Int}{k:Key}{s:List Key}(p:Plc g es (st++[(t,k)]) s):
  (t=0/\∃s0,Plc g es st s0/\2<=s0.length/\s=s0.take (aj s0.length)/\Cur g (s0.drop (aj s0.length)) k)\/
  (t=1/\∃s0,Plc g es st s0/\2<=s0.length/\s=s0.drop (aj s0.length)/\Cur g (s0.take (aj s0.length)) k):=by
 generalize h:st++[(t,k)]=u at p
 cases p with
 |nil=>simp at h
 | @lo st' s0 k' p h2 c=>
   obtain⟨e1,e2⟩:=PC h rfl
   have e2:(t,k)=((0:Int),k'):=by simpa using e2
   cases e2
   subst e1
   exact .inl ⟨rfl,s0,p,h2,rfl,c⟩
 | @hi st' s0 k' p h2 c=>
   obtain⟨e1,e2⟩:=PC h rfl
   have e2:(t,k)=((1:Int),k'):=by simpa using e2
   cases e2
   subst e1
   exact .inr ⟨rfl,s0,p,h2,rfl,c⟩
theorem Ay {g:List Key->Option Key}{es:List Key}{e:Key}:∀(n:Nat)(s:List Key)(p:Nat)(st0:List (Int×Key))(ks:List Key),s.length<=n->s[p]? =some e->Plc g es st0 s->Mks g (eD n s p) ks->
  ∃st,st.map (·.2)=ks/\st.map (·.1)=cm n s.length p/\Plc g es (st0++st) [e]/\st.length+1<=s.length:=by
 intro n
 induction n with
 |zero=>
  intro s p st0 ks h1 h2
  rw[Ml (l:=s) (by omega)]at h2;cases h2
 |succ n ih=>
  intro s p st0 ks h1 h2 pl m
  rw[eD]at m
  have hl:=(Lq.mp h2).1
  by_cases c:s.length<=1
  ·rw[if_pos c]at m
   cases m
   refine⟨[],rfl,by rw[cm,if_pos c];rfl,?_,by simp;omega⟩
   have es1:s=[e]:=by
    match s,c,hl,h2 with
    |[x],_,hl,h2=>
     have:p=0:=by simp at hl;omega
     subst this
     cases h2;rfl
   rw[MJ,<-es1];exact pl
  ·rw[if_neg c]at m
   have l2:2<=s.length:=by omega
   obtain⟨g1,g2⟩:=bE l2
   have tl:(s.take (aj s.length)).length=aj s.length:=by rw[Ls];omega
   have dl:(s.drop (aj s.length)).length=s.length- aj s.length:=Lz
   by_cases c2:p<aj s.length
   ·rw[if_pos c2]at m
    cases m with
    |cons ck m1=>
     obtain⟨st,e1,e2,e3,e4⟩:=ih _ p _ _ (by omega) (by rw[QP,if_pos c2];exact h2) (Plc.lo pl l2 ck) m1
     refine⟨(0,_)::st,by rw[Md,e1],?_,by rw[MK]at e3;exact e3,by rw[tl]at e4;simp;omega⟩
     rw[cm,if_neg c,if_pos c2,Md,e2,tl]
   ·rw[if_neg c2]at m
    cases m with
    |cons ck m1=>
     obtain⟨st,e1,e2,e3,e4⟩:=ih _ (p- aj s.length) _ _ (by omega) (by rw[SX,show aj s.length+(p- aj s.length)=p by omega];exact h2) (Plc.hi pl l2 ck) m1
     refine⟨(1,_)::st,by rw[Md,e1],?_,by rw[MK]at e3;exact e3,by rw[dl]at e4;simp;omega⟩
     rw[cm,if_neg c,if_neg c2,Md,e2,dl]
structure Trm (g:gOp)(s k:List Key):Prop where
 ok:okT k=true
 sz:szT k+62<=szB s.length
 eq:∀h,Ext g h->k=bh h s
theorem Trm.mono {g g':gOp}{s k:List Key}(t:Trm g s k)(sub:Sub g g'):Trm g' s k:=⟨t.ok,t.sz,fun h eh=>t.eq h (Ext.of sub eh)⟩
theorem Trm.cur {g:gOp}{s k:List Key}{v:Key}(t:Trm g s k)(l60:s.length<=60)(gv:g k=some v)(st:qu k v):Cur g s v:=by
 have z:=t.sz
 exact⟨eY st (by unfold szB at z;omega),Mi (ja st) z,fun h eh=>by rw[<-t.eq h eh];exact(eh _ _ gv).symm⟩
theorem Trm.entry {g:gOp}{e:Key}(en:enK e):Trm g [e] [.inr "entry",e]:=⟨jS en.1,by have:=en.2;rw[sz2,szW.2.1];show _<=200;omega,fun h _=>rfl⟩
theorem Trm.joint {g:gOp}{s:List Key}{x y:Key}(h2:2<=s.length)(cx:Cur g (s.take (aj s.length)) x)(cy:Cur g (s.drop (aj s.length)) y):Trm g s [.inr "joint",x,y]:=by
 obtain⟨g1,g2⟩:=bE h2
 have tl:(s.take (aj s.length)).length=aj s.length:=by rw[Ls];omega
 have dl:(s.drop (aj s.length)).length=s.length- aj s.length:=Lz
 have sx:=cx.sz
 have sy:=cy.sz
 rw[tl]at sx
 rw[dl]at sy
 refine⟨cN cx.ok cy.ok,?_,fun h eh=>by rw[dm h h2,<-cx.eq h eh,<-cy.eq h eh]⟩
 rw[sz3,szW.2.2.1]
 unfold szB at sx sy⊢
 omega
theorem iz.same {H H':Hp}{P T:Addr}{e:Key}{ks:List Key}(w:iz H P T e ks)(S:aw H H'):iz H' P T e ks:=⟨S _ _ w.hP,S _ _ w.hT⟩
theorem iz.kb {H H':Hp}{P T f b:Addr}{e:Key}{ks:List Key}{g:gOp}{n:Nat}(w:iz H P T e ks)(s:Stp A H f b g n)(k:aR b H H'):iz H' P T e ks:=
 ⟨k _ _ (s.nb w.hP (fun _ z=>nomatch z) (fun _ z=>nomatch z)) w.hP,k _ _ (s.nb w.hT (fun _ z=>nomatch z) (fun _ z=>nomatch z)) w.hT⟩
theorem EM (K:pv)(A:Adr):Ln (pq K A) 2:=by rintro vs H Q E ⟨L,P,T,ts,e,ks,rfl,_⟩;rfl
theorem GG (T:Txt K mg A):Rd (pq K A) (KC K A) ["turns","thing"]:=by
 intro vs H Q E h
 obtain⟨L,P,TT,ts,e,ks,rfl,hL,w,oke,okk,hl,l5,q⟩:=h
 have ty:tyN H (.ref P)=some "tuple":=by unfold tyN;dsimp only;rw[w.hP]
 refine⟨by decide,"tuple",ty,Sel.no rfl (.inl (.inr (.inl ⟨_,SqT.of w.hP,Sel.no (by simp) (ixT (j:=0) w.hP rfl rfl ⟨_,_,rfl,rH e,?_⟩)⟩)))⟩
 rw[ik oke]
 refine Sel.t (.inl (.inl ⟨_,SqL.of hL,ixT (j:=1) w.hP rfl rfl ⟨(ts.map V.int).length,TT,true,ks,rfl,w.hT,okk,l5,fun H' S=>?_⟩⟩))
 rw[decide_eq_true (show ks.length=(ts.map V.int).length by rw[Ll,hl])]
 exact q H' S
theorem Ez (K:pv)(A:Adr):Ln (pI K A) 4:=by rintro vs H Q E ⟨f,b,P,T,es,ks,p,e,g,n,rfl,_⟩;rfl
structure Pt (A:Adr)(H H':Hp)(f b Z L:Addr)(ps:List Addr)(st:List (Int×Key))(es:List Key)(i:Nat)(g g':gOp)(n:Nat):Prop where
 kb:aR b H H'
 s:Stp A H' f b g' (n+i)
 sub:Sub g g'
 hZ:H' Z=some (.lst (ps.map V.ref))
 hp:∀(j:Nat)(p:Addr)(s:Int×Key),ps[j]?=some p->st[j]?=some s->H' p=some (.tup [.int s.1,kV s.2])
 l:∃(qs:List V)(pr:Addr)(k s:List Key),H' L=some (.lst (qs++[.ref pr]))/\qs.length=i/\H' pr=some (.tup (k.map kV))/\Plc g' es (st.take (st.length- i)) s/\Trm g' s k
theorem IU (T:Txt K mg A):Rd (pI K A) (Kk K A) ["stamper","count","place","paper","turns","terms","step"]:=by
 intro vs H Q E h
 obtain⟨f,b,P,TT,es,ks,p,e,g,n,rfl,pp,q⟩:=h
 obtain⟨s,hn,l60,lt,ge,en,w,ms⟩:=pp
 have okk:=Mks.ok ms
 obtain⟨st,e1,e2,pl,sl⟩:=Ay es.length es p [] ks (gV _) ge .nil ms
 have kl:ks.length=st.length:=by rw[<-e1,Ll]
 have tl:(cm es.length es.length p).length=st.length:=by rw[<-e2,Ll]
 refine⟨_,_,rfl,by omega,by omega,by omega,Sel.no rfl ⟨es.length,p,rfl,lt,by omega,fun W H1 _ S1 hW=>?_⟩⟩
 refine⟨W,P,TT,_,e,ks,rfl,hW,w.same S1,en.1,okk,by rw[kl,tl],by omega,fun H2 S2=>Sel.no rfl ?_⟩
 have w2:=(w.same S1).same S2
 refine ixT (j:=0) w2.hP rfl rfl ⟨aH (show 2<=1000000 by decide),fun t ht=>⟨aH (show 1<=1000000 by decide),fun L hL=>?_⟩⟩
 have S3:aw H2 (upd (upd H2 t (.tup [.str "entry",kV e])) L (.lst [.ref t])):=(aw.upd ht).trans (aw.upd hL)
 have hL3:upd (upd H2 t (.tup [.str "entry",kV e])) L (.lst [.ref t]) L=some (.lst [.ref t]):=ak
 have ht3:upd (upd H2 t (.tup [.str "entry",kV e])) L (.lst [.ref t]) t=some (.tup (([.inr "entry",e]:List Key).map kV)):=aw.upd hL _ _ ak
 have hLn:H2 L=none:=(bN hL).2
 generalize upd (upd H2 t (.tup [.str "entry",kV e])) L (.lst [.ref t])=H3 at S3 hL3 ht3
 have w3:=w2.same S3
 have hLH:H L=none:=by
  cases z:H L with
  |none=>rfl
  |some o=>rw[S2 _ _ (S1 _ _ z)]at hLn;cases hLn
 refine ixT (j:=1) w3.hP rfl rfl ⟨W,TT,_,_,rfl,SqL.of (S3 _ _ (S2 _ _ hW)),SqT.of w3.hT,by rw[Ll,Ll,tl,kl],fun Z ps H4 hZn S4 lp hps hZ=>⟨Z,_,rfl,.inl ⟨SqL.of hZ,?_⟩⟩⟩
 have S:aw H H4:=S1.trans (S2.trans (S3.trans S4))
 have lps:ps.length=st.length:=by rw[lp,Ll,tl]
 have hp4:∀(j:Nat)(p:Addr)(s:Int×Key),ps[j]?=some p->st[j]?=some s->H4 p=some (.tup [.int s.1,kV s.2]):=fun j p' s' h1 h2=>hps j p' _ _ h1 (by rw[<-e2,Ou,LO,h2];rfl) (by rw[<-e1,Ou,LO,h2];rfl)
 have LZ:Z≠L:=Mh (ax hL3 hZn)
 have hZz:SqL K H4 Z (ps.map V.ref):=SqL.of hZ
 have s4:=s.same (gV _) S
 refine Fb (da.revL (xs:=ps.map V.ref) .non) (fun i σ H'=>∃x6 g',σ=[some (.ref f),some (.int (es.length:Int)),some (.int (p:Int)),some (.ref P),some (.ref W),some (.ref L),x6]/\Pt A H H' f b Z L ps st es i g g' n)
  ⟨none,g,rfl,aR.same S,s4,Sub.rfl',hZ,hp4,⟨[],t,_,[e],S4 _ _ hL3,rfl,S4 _ _ ht3,by rw[Qc,NW];exact pl,Trm.entry en⟩⟩
  (fun i σ H' _ h=>?_) (fun i σ H5 hi h=>?_) (fun σ H5 h=>?_)
 ·obtain⟨_,_,_,x⟩:=h
  exact SqL.of x.hZ
 ·obtain⟨x6,g5,rfl,kb,s5,sub,hZ5,hp5,qs,pr,k,sg,hL5,hq,hpr,pl5,tm⟩:=h
  have hi:i<st.length:=by rw[Ll,lps]at hi;exact hi
  have hj:st.length- 1- i<st.length:=by omega
  obtain⟨sp,hsp⟩:∃sp,st[st.length- 1- i]?=some sp:=⟨_,Gt hj⟩
  obtain⟨pj,hpj⟩:∃pj,ps[st.length- 1- i]?=some pj:=⟨_,Gt (by omega)⟩
  have hg:(ps.map V.ref).reverse.getD i .non=.ref pj:=by
   rw[LJ,NC (by rw[Ll];omega),Ll,lps,LO,hpj];rfl
  rw[hg]
  have hpp:=hp5 _ _ _ hpj hsp
  obtain⟨t,kk⟩:=sp
  have tk:st.take (st.length- i)=st.take (st.length- (i+1))++[(t,kk)]:=by
   rw[show st.length- i=st.length- 1- i+1 by omega,OJ,hsp,show st.length- (i+1)=st.length- 1- i by omega];rfl
  rw[tk]at pl5
  have npj:pj≠b:=s5.nb hpp (fun _ z=>nomatch z) (fun _ z=>nomatch z)
  have nL:L≠b:=s5.nb hL5 (fun _ z=>nomatch z) (fun _ z=>nomatch z)
  have nZ:Z≠b:=s5.nb hZ5 (fun _ z=>nomatch z) (fun _ z=>nomatch z)
  have pjL:pj≠L:=aU hpp hL5 (fun z=>nomatch z)
  refine⟨.inl ⟨rfl,_,SqL.of hL5⟩,ixT (j:=0) hpp rfl rfl ⟨f,rfl,s5.clo,er hL5 ?_⟩⟩
  dsimp only[am]
  refine dQ s5 (by omega) hpr tm.ok fun v H6 g6 kb6 s6 sub6 gv st6=>?_
  have len6:=pl5.len
  have cv:Cur g6 sg v:=(tm.mono sub6).cur (by omega) gv st6
  have hL6:=kb6 _ _ nL hL5
  refine ixT (j:=1) (kb6 _ _ npj hpp) rfl rfl ⟨t,v,kk,rfl,fun p7 hp7=>⟨L,_,.ref p7,rfl,rfl,aw.upd hp7 _ _ hL6,?_,?_⟩⟩
  ·rw[Lm,hq];exact br (by show i+1<=_;omega)
  have L7:p7≠L:=Mh (ax hL6 hp7)
  have Sx:∀z o,z≠L->H6 z=some o->upd (upd H6 p7 (.tup ((jtT t v kk).map kV))) L (.lst (qs++[.ref pr]++[.ref p7])) z=some o:=fun z o nz ez=>by rw[ao nz];exact aw.upd hp7 _ _ ez
  have hn7:upd (upd H6 p7 (.tup ((jtT t v kk).map kV))) L (.lst (qs++[.ref pr]++[.ref p7])) p7=some (.tup ((jtT t v kk).map kV)):=by rw[ao L7];exact ak
  have sx:Stp A (upd (upd H6 p7 (.tup ((jtT t v kk).map kV))) L (.lst (qs++[.ref pr]++[.ref p7]))) f b g6 (n+i+1):=(s6.same (gV _) (aw.upd hp7)).setL (aw.upd hp7 _ _ hL6)
  refine⟨_,g6,rfl,fun z o nz ez=>Sx z o (ax ez hLH) (kb6 _ _ nz (kb _ _ nz ez)),sx,sub.trans sub6,Sx _ _ LZ (kb6 _ _ nZ hZ5),fun j p' s' h1 h2=>?_,?_⟩
  ·have h5:=hp5 j p' s' h1 h2
   exact Sx _ _ (aU h5 hL5 (fun z=>nomatch z)) (kb6 _ _ (s5.nb h5 (fun _ z=>nomatch z) (fun _ z=>nomatch z)) h5)
  ·rcases ye pl5 with⟨rfl,s0,p0,h2,rfl,ck⟩|⟨rfl,s0,p0,h2,rfl,ck⟩
   ·exact⟨qs++[.ref pr],p7,jtT 0 v kk,s0,ak,by rw[Lm,hq];rfl,hn7,p0.mono sub6,Trm.joint h2 cv (ck.mono sub6)⟩
   ·exact⟨qs++[.ref pr],p7,jtT 1 v kk,s0,ak,by rw[Lm,hq];rfl,hn7,p0.mono sub6,Trm.joint h2 (ck.mono sub6) cv⟩
 ·obtain⟨x6,g5,rfl,kb,s5,sub,hZ5,hp5,qs,pr,k,sg,hL5,hq,hpr,pl5,tm⟩:=h
  rw[Ll,lps]at*
  rw[Ow,Us]at pl5
  obtain rfl:es=sg:=by
   generalize hu:([]:List (Int×Key))=u at pl5
   cases pl5 with
   |nil=>rfl
   |lo _ _ _=>simp at hu
   |hi _ _ _=>simp at hu
  have nL:L≠b:=s5.nb hL5 (fun _ z=>nomatch z) (fun _ z=>nomatch z)
  refine⟨.inl ⟨rfl,_,SqL.of hL5⟩,f,rfl,s5.clo,er hL5 ?_⟩
  dsimp only[am]
  refine dQ s5 (by omega) hpr tm.ok fun v H6 g6 kb6 s6 sub6 gv st6=>?_
  have cv:Cur g6 es v:=(tm.mono sub6).cur (by omega) gv st6
  have hL6:=kb6 _ _ nL hL5
  refine⟨aH (show 3<=1000000 by decide),fun p7 hp7=>⟨L,_,.ref p7,rfl,rfl,aw.upd hp7 _ _ hL6,?_,?_⟩⟩
  ·rw[Lm,hq];exact br (by show st.length+1<=_;omega)
  have L7:p7≠L:=Mh (ax hL6 hp7)
  refine q L p7 (qs++[.ref pr]) v g6 _ (fun z o nz ez=>?_) (((s6.same (by omega) (aw.upd hp7)).setL (aw.upd hp7 _ _ hL6))) (sub.trans sub6) ak (by rw[ao L7];exact ak) cv
  rw[ao (ax ez hLH)];exact aw.upd hp7 _ _ (kb6 _ _ nz (kb _ _ nz ez))
theorem Ec (K:pv)(A:Adr):Ln (pY K A) 4:=by rintro vs H Q E ⟨f,b,P,T,es,ks,p,e,g,n,rfl,_⟩;rfl
theorem FS (T:Txt K mg A):Rd (pY K A) (JO K A) ["stamper","count","place","paper"]:=by
 intro vs H Q E h
 obtain⟨f,b,P,TT,es,ks,p,e,g,n,rfl,pp,q⟩:=h
 have hn:=pp.hn
 have l60:=pp.l60
 refine⟨f,rfl,pp.s.clo,f,b,P,TT,es,ks,p,e,g,n,rfl,pp,fun L pr qs top g1 H1 k1 s1 sub1 hL hpr ct=>er hL ?_⟩
 dsimp only[am]
 refine dQ s1 (by omega) (k:=[.inr "row",.inl (es.length:Int),top]) hpr (dO (by omega) ct.ok) fun v H2 g2 kb s2 sub2 gv st=>?_
 refine q v g2 H2 (k1.trans kb) s2 (sub1.trans sub2) fun h eh=>?_
 rw[<-eh _ _ gv,ct.eq h (Ext.of sub2 eh)];rfl
theorem CD (K:pv)(A:Adr):Ln (kI K A) 4:=by rintro vs H Q E ⟨f,b,hd,P,T,es,ks,p,e,mk,g,n,rfl,_⟩;rfl
theorem Hb (T:Txt K mg A):Rd (kI K A) (Kx K A) ["stamper","head","place","paper","came"]:=by
 intro vs H Q E h
 obtain⟨f,b,hd,P,TT,es,ks,p,e,mk,g,n,rfl,pp,hh,okm,em,q⟩:=h
 have l60:=pp.l60
 have nh:hd≠b:=pp.s.nb hh (fun _ z=>nomatch z) (fun _ z=>nomatch z)
 refine⟨hd,es.length,mk,rfl,hh,by omega,okm,ixT (j:=0) hh rfl rfl ?_⟩
 refine⟨f,b,P,TT,es,ks,p,e,g,n,rfl,pp,fun w g1 H1 k1 s1 sub1 ew=>?_⟩
 have e1:w=mk:=by
  have x:=Av g1
  rw[ew _ x,em _ (Ext.of sub1 x)]
 subst e1
 refine ixT (j:=1) (k1 _ _ nh hh) rfl rfl ?_
 refine rD (Sel.f ?_)
 exact ixT (j:=0) (pp.w.kb pp.s k1).hP rfl rfl (q g1 H1 k1 s1 sub1)
theorem jW {H:Hp}{Q:VK}{a b:Addr}{k l:List Key}(ha:H a=some (.tup (k.map kV)))(hb:H b=some (.tup (l.map kV)))(q:Q (.bl (decide (k=l))) H):bM K (.ref a) (.ref b) H Q:=by
 refine .inl ⟨a,b,_,_,rfl,rfl,SqT.of ha,SqT.of hb,oI _,oI _,?_⟩
 by_cases e:k=l
 ·subst e;rw[decide_eq_true rfl]at q⊢;exact q
 ·rw[decide_eq_false e]at q;rw[decide_eq_false fun z=>e (nq z)];exact q
theorem HW (T:Txt K mg A)(a0:V)(H:Hp)(Q:VK)(E:XK)(h:uU K A [a0] H Q E):Ek K A (ef ["_law_head"] [a0] []) H Q:=by
 obtain⟨v,e,q⟩:=h
 exact q
theorem Hv (T:Txt K mg A)(a0 b0 b1:V)(H:Hp)(Q:VK)(E:XK)(h:tT K A [a0,b0,b1] H Q E):BK K A {nx:=fun _ H'=>Q .non H',rt:=Q} (ef ["_law_question","_law_paper_here","_law_head"] [a0] [b0,b1]) H:=by
 obtain⟨p,v,w,e,h⟩:=h
 cases e
 refine⟨aH (show 1<=1000000 by decide),fun t ht=>?_⟩
 have S:=aw.upd (o:=.tup [.str "newest"]) ht
 have ht1:upd H t (.tup [.str "newest"]) t=some (.tup (([.inr "newest"]:List Key).map kV)):=ak
 generalize upd H t (.tup [.str "newest"])=H1 at S ht1
 rcases h with⟨hp,q⟩|⟨c,e,hp,q⟩
 ·refine jW (k:=[.inr "newest"]) (l:=[.inr "newest"]) (S _ _ hp) ht1 (Sel.yes (decide_eq_true rfl) (q H1 S))
 ·refine jW (k:=[.inr "growth",.inl c,.inl e]) (l:=[.inr "newest"]) (S _ _ hp) ht1 (Sel.no (decide_eq_false fun z=>by simp at z) ?_)
  exact ixT (j:=0) (S _ _ hp) rfl rfl (Sel.yes rfl (q H1 S))
theorem CY (K:pv)(A:Adr):Ln (pV K A) 2:=by rintro vs H Q E ⟨x,dx,f,rfl,_⟩;rfl
theorem Fy (T:Txt K mg A):Rd (pV K A) (Ju K A) ["self","say"]:=by
 intro vs H Q E h
 obtain⟨x,dx,f,rfl,hx,q⟩:=h
 exact⟨x,A.c_Spoken,dx,_,rfl,hx,T.cl_Spoken,T.na_Spoken_answerer,by decide,q⟩
theorem LnA.same {H H':Hp}{ln:Addr}{v w:V}(l:LnA A H ln v w)(S:aw H H'):LnA A H' ln v w:=by
 obtain⟨dx,fa,q0,q1,h1,h2⟩:=l
 exact⟨dx,fa,q0,q1,S _ _ h1,h2.keep fun z φ e=>S _ _ e⟩
theorem BA (K:pv)(A:Adr):Ln (pR K A) 1:=by rintro vs H Q E ⟨ln,v,w,rfl,_⟩;rfl
theorem IS (T:Txt K mg A):Rd (pR K A) (Lj K A) ["self"]:=by
 intro vs H Q E h
 obtain⟨ln,v,w,rfl,⟨dx,fa,q0,q1,hl,hc⟩,q⟩:=h
 refine⟨ln,dx,_,fa,rfl,hl,rfl,⟨_,m0,_,_,hc⟩,aH (show 1<=1000000 by decide),fun p hp=>?_⟩
 have S:=aw.upd (o:=.tup [.str "newest"]) hp
 have hp1:upd H p (.tup [.str "newest"]) p=some (.tup [.str "newest"]):=ak
 generalize upd H p (.tup [.str "newest"])=H1 at S hp1
 have hc1:=hc.keep fun z φ e=>S z _ e
 exact⟨_,m0,_,_,hc1,rfl,p,v,w,rfl,.inl ⟨hc1.cells.hide hp1 (fun _ z=>nomatch z),fun H' S'=>q _ (S.trans (aw.hide _ S'))⟩⟩
theorem Fc (K:pv)(A:Adr):Ln (pL K A) 3:=by rintro vs H Q E ⟨ln,v,w,c,e,rfl,_⟩;rfl
theorem IF (T:Txt K mg A):Rd (pL K A) (JA K A) ["self","count","elder"]:=by
 intro vs H Q E h
 obtain⟨ln,v,w,c,e,rfl,⟨dx,fa,q0,q1,hl,hc⟩,q⟩:=h
 refine⟨ln,dx,_,fa,rfl,hl,rfl,⟨_,m0,_,_,hc⟩,aH (show 3<=1000000 by decide),fun p hp=>?_⟩
 have S:=aw.upd (o:=.tup [.str "growth",.int c,.int e]) hp
 have hp1:upd H p (.tup [.str "growth",.int c,.int e]) p=some (.tup [.str "growth",.int c,.int e]):=ak
 generalize upd H p (.tup [.str "growth",.int c,.int e])=H1 at S hp1
 have hc1:=hc.keep fun z φ e=>S z _ e
 exact⟨_,m0,_,_,hc1,rfl,p,v,w,rfl,.inr ⟨c,e,hc1.cells.hide hp1 (fun _ z=>nomatch z),fun H' S'=>q _ (S.trans (aw.hide _ S'))⟩⟩
theorem DkA.same {H H':Hp}{dk f qs hd:Addr}{n:Nat}{v:Key}(d:DkA A H dk f qs hd n v)(S:aw H H'):DkA A H' dk f qs hd n v:=⟨d.ob.imp fun _ e=>S _ _ e,d.cl.keep fun z φ e=>S _ _ e,S _ _ d.hh,d.ok⟩
theorem DkA.kb {H H':Hp}{dk f b qs hd:Addr}{n N:Nat}{v:Key}{g:gOp}(d:DkA A H dk f qs hd n v)(s:Stp A H f b g N)(k:aR b H H'):DkA A H' dk f qs hd n v:=by
 obtain⟨⟨dx,e⟩,cl,hh,ok⟩:=d
 exact⟨⟨dx,k.obj s.bb e (fun _ z=>nomatch z)⟩,cl.keep fun z φ e=>k.obj s.bb e (fun _ z=>nomatch z),k.obj s.bb hh (fun _ z=>nomatch z),ok⟩
theorem Ig (K:pv)(A:Adr):Ln (rl K A) 2:=by rintro vs H Q E ⟨dk,f,qs,hd,ne,n,c,v,w,rfl,_⟩;rfl
theorem JC (T:Txt K mg A)(vs:List V)(H:Hp)(Q:VK)(E:XK)(h:rl K A vs H Q E):T_2 K A E {nx:=fun _ H'=>Q .non H',rt:=Q} (L2.start ["self","head"] vs) H:=by
 obtain⟨dk,f,qs,hd,ne,n,c,v,w,rfl,d,hh,ok,c10,q1,q2⟩:=h
 obtain⟨⟨dx,ob⟩,cl,hd',okv⟩:=id d
 refine⟨ne,c,w,rfl,hh,by omega,ok,?_⟩
 refine⟨dk,dx,_,qs,rfl,ob,rfl,⟨_,mS m0,_,_,cl⟩,_,mS m0,_,_,cl,rfl,_,rfl,Sel.no rfl ?_⟩
 rw[ub]
 refine ixT (j:=0) hh rfl rfl ⟨dk,A.c_Desk,dx,_,_,rfl,ob,T.cl_Desk,T.na_Desk_held,rfl,ixT (j:=0) hd' rfl rfl (Sel.dec (fun g=>?_) (fun g=>?_))⟩
 ·have g:(c:Int)<n:=g
  exact q2 (by omega) H aw.rfl'
 ·have g:¬(c:Int)<n:=g
  exact q1 (by omega) H aw.rfl'
theorem Stp.setI {H:Hp}{f b dk C dx:Addr}{g:List Key->Option Key}{n:Nat}{fs fs':List (Str×V)}(s:Stp A H f b g n)(hd:H dk=some (.ins C dx fs))(hf:∀v,fs≠[(("given":Str),v)]):Stp A (upd H dk (.ins C dx fs')) f b g n:=by
 have kx:∀z o,H z=some o->(∀C dx fs,o≠.ins C dx fs)->upd H dk (.ins C dx fs') z=some o:=fun z o e h=>by rw[ao (aU e hd (h _ _ _))];exact e
 cases s with
 |wri hc hb hg=>exact .wri (hc.keep fun z φ e=>kx _ _ e (fun _ _ _ z=>nomatch z)) (hb.imp fun y e=>kx _ _ e (fun _ _ _ z=>nomatch z)) hg
 |cnt q x kvs hc num hl hs st hg=>
  obtain⟨⟨dx2,h1⟩,h2⟩:=num
  refine .cnt q x kvs (hc.keep fun z φ e=>kx _ _ e (fun _ _ _ z=>nomatch z)) ⟨⟨dx2,?_⟩,kx _ _ h2 (fun _ _ _ z=>nomatch z)⟩ hl hs st hg
  rw[ao (fun z=>by
   subst z
   rw[h1]at hd
   injection hd with hd
   injection hd with _ _ e3
   exact hf _ e3.symm)];exact h1
 |sur q0 q1 j j0 j1 kvs hc hb hl hs st hg=>exact .sur q0 q1 j j0 j1 kvs (hc.keep fun z φ e=>kx _ _ e (fun _ _ _ z=>nomatch z)) (kx _ _ hb (fun _ _ _ z=>nomatch z)) hl hs st hg
theorem HH (K:pv)(A:Adr):Ln (rF K A) 3:=by rintro vs H Q E ⟨dk,f,b,qs,hd,ne,P,n,c,v,w,tp,ks,g,N,rfl,_⟩;rfl
theorem JD (T:Txt K mg A)(vs:List V)(H:Hp)(Q:VK)(E:XK)(h:rF K A vs H Q E):T_4 K A E {nx:=fun _ H'=>Q .non H',rt:=Q} (L2.start ["self","head","marks","came"] vs) H:=by
 obtain⟨dk,f,b,qs,hd,ne,P,n,c,v,w,tp,ks,g,N,rfl,⟨d,s,hN,hh,ok,n10,c10,pp,ke,kl⟩,rq,aq⟩:=h
 obtain⟨dx,ob⟩:=d.ob
 refine⟨dk,dx,_,rfl,ob,rfl,dk,f,qs,hd,ne,n,c,v,w,rfl,d,hh,ok,c10,fun le H1 S1=>?_,fun lt H1 S1=>rq _ none g H1 (.inl rfl) (aR.same S1) (s.same (by omega) S1) Sub.rfl' (.inl lt)⟩
 have d1:=d.same S1
 have s1:=s.same (gV _) S1
 refine⟨dk,A.c_Desk,dx,_,_,rfl,S1 _ _ ob,T.cl_Desk,T.na_Desk_stamper,rfl,dk,A.c_Desk,dx,_,_,rfl,S1 _ _ ob,T.cl_Desk,T.na_Desk_held,rfl,ixT (j:=0) d1.hh rfl rfl ?_⟩
 refine⟨f,b,ne,P,c,n,tp,ks,w,g,N,rfl,⟨s1,hN,le,c10,pp.same S1,ke,kl⟩,S1 _ _ hh,ok,fun hb H2 S2=>?_,fun hg x g2 H2 k2 s2 sub2 okx ex=>⟨fun exw u g3 H3 k3 s3 sub3 oku eu=>?_,fun nx dx' H3 S3=>?_⟩⟩
 ·exact rq _ none g H2 (.inr (.inl rfl)) (aR.same (S1.trans S2)) (s1.same (by omega) S2) Sub.rfl' (.inr (.inl hb))
 ·subst exw
  have d2:=d1.kb s1 k2
  have d3:=d2.kb s2 k3
  obtain⟨dx3,ob3⟩:=id d3.ob
  have kk:aR b H H3:=(aR.same S1).trans (k2.trans k3)
  have hh3:H3 ne=some (.tup [.int (c:Int),kV x]):=k3.obj s2.bb (k2.obj s1.bb (S1 _ _ hh) (fun _ z=>nomatch z)) (fun _ z=>nomatch z)
  refine⟨dk,A.c_Desk,dx3,_,_,rfl,ob3,T.cl_Desk,T.na_Desk_held,rfl,ixT (j:=1) d3.hh rfl rfl (oK ?_)⟩
  by_cases e:u=v
  ·subst e
   refine Sel.no (by rw[decide_eq_true rfl];rfl) ⟨dk,A.c_Desk,dx3,_,rfl,ob3,T.cl_Desk,T.na_Desk_held,(by show 4<1000;decide),?_⟩
   refine aq g3 _ (fun z o nz nd e=>by rw[ao nd];exact kk _ _ nz e) ((s3.setI ob3 (fun v z=>by cases z)).same (by omega) aw.rfl') (sub2.trans sub3) ⟨⟨dx3,ak⟩,d3.cl.keep fun z φ e=>by rw[ao (aU e ob3 (fun z=>nomatch z))];exact e,by rw[ao (aU hh3 ob3 (fun z=>nomatch z))];exact hh3,ok⟩ le hg fun h eh=>⟨?_,?_⟩
   ·exact(ex h (Ext.of sub3 eh)).symm
   ·exact(eu h eh).symm
  ·refine Sel.yes (by rw[decide_eq_false e];rfl) ⟨dk,A.c_Desk,dx3,_,_,rfl,ob3,T.cl_Desk,T.na_Desk_held,rfl,ixT (j:=1) d3.hh rfl rfl fun a ha=>⟨a,kV v,kV u,rfl,ak,fun dx hdx=>⟨rfl,some dx,?_,?_⟩⟩⟩
   ·obtain⟨nd,_⟩:=bN hdx
    rw[ao (Mh nd),ao (Mh nd)];exact ak
   ·obtain⟨nd,hd0⟩:=bN hdx
    have S4:aw H3 (jr a (upd (upd (upd (upd H3 a (eO A.c_Parted a none)) a (eO A.c_Parted a (some dx))) dx (gR [("due",kV v)] dx)) dx (gR (dM "came" (kV u) [("due",kV v)]) dx))):=fun z o ez=>by
     have na:=ax ez ha
     have nz:=ax ez hd0
     rw[fg na,ao nz,ao nz,ao na,ao na];exact ez
    exact rq _ (some dx) g3 _ (.inr (.inr (.inr rfl))) (kk.trans (aR.same S4)) (s3.same (by omega) S4) (sub2.trans sub3) (.inr (.inr (.inr fun h eh=>by rw[<-eu h eh];exact e)))
 ·exact rq _ (some dx') g2 H3 (.inr (.inr (.inl rfl))) ((aR.same S1).trans (k2.trans (aR.same S3))) (s2.same (by omega) S3) sub2 (.inr (.inr (.inl fun h eh=>by rw[<-ex h eh];exact nx)))
theorem HrA.same {H H':Hp}{dk f b qs hd ne P:Addr}{n c N:Nat}{v w:Key}{tp:Bool}{ks:List Key}{g:gOp}(x:HrA A H dk f b qs hd ne P n c v w tp ks g N)(S:aw H H'):HrA A H' dk f b qs hd ne P n c v w tp ks g N:=⟨x.d.same S,x.s.same (gV _) S,x.hN,S _ _ x.hh,x.ok,x.n10,x.c10,x.pp.same S,x.ke,x.kl⟩
theorem Gg (K:pv)(A:Adr):Ln (ut K A) 2:=by rintro vs H Q E ⟨dk,f,b,qs,hd,ne,P,ln,n,c,v,w,tp,ks,g,N,rfl,_⟩;rfl
theorem JS (T:Txt K mg A)(vs:List V)(H:Hp)(Q:VK)(E:XK)(h:ut K A vs H Q E):T_3 K A E {nx:=fun _ H'=>Q .non H',rt:=Q} (L2.start ["self","line","head"] vs) H:=by
 obtain⟨dk,f,b,qs,hd,ne,P,ln,n,c,v,w,tp,ks,g,N,rfl,l,x,rq,aq⟩:=h
 obtain⟨dxl,fa,q0,q1,hl,hc⟩:=id l
 refine⟨ln,dxl,_,rfl,hl,rfl,ln,.ref ne,.ref P,rfl,l,fun H1 S1=>⟨ne,rfl,?_⟩⟩
 have x1:=x.same S1
 have l1:=l.same S1
 obtain⟨dx,ob1⟩:=x1.d.ob
 refine⟨dk,dx,_,rfl,ob1,rfl,dk,f,qs,hd,ne,n,c,v,w,rfl,x1.d,x1.hh,x1.ok,x1.c10,fun le H2 S2=>?_,fun lt H2 S2=>rq _ none g H2 (.inl rfl) (aR.same (S1.trans S2)) (x1.s.same (by omega) S2) Sub.rfl' (.inl lt)⟩
 have x2:=x1.same S2
 have l2:=l1.same S2
 have ob2:=S2 _ _ ob1
 obtain⟨dxl2,fa2,q02,q12,hl2,hc2⟩:=id l2
 refine⟨dk,dx,_,rfl,ob2,rfl,ln,dxl2,_,rfl,hl2,rfl,ixT (j:=0) x2.hh rfl rfl ⟨dk,A.c_Desk,dx,_,_,rfl,ob2,T.cl_Desk,T.na_Desk_held,rfl,ixT (j:=0) x2.d.hh rfl rfl ?_⟩⟩
 refine⟨ln,.ref ne,.ref P,_,_,rfl,l2,fun H3 S3=>⟨P,rfl,?_⟩⟩
 have S:=S1.trans (S2.trans S3)
 refine⟨dk,f,b,qs,hd,ne,P,n,c,v,w,tp,ks,g,N,rfl,x2.same S3,fun C d g' H' hC k s' sub r=>rq C d g' H' hC ((aR.same S).trans k) s' sub r,fun g' H' k s' sub d' le hg e=>aq g' H' (fun z o n1 n2 ez=>k z o n1 n2 (S _ _ ez)) s' sub d' le hg e⟩
theorem HV (K:pv)(A:Adr):Ln (qA K A) 4:=by rintro vs H Q E ⟨dk,dx,f,b,qs,g,n,rfl,_⟩;rfl
theorem Jy (T:Txt K mg A):Rd (qA K A) (T_1 K A) ["self","stamper","bits","knows"]:=by
 intro vs H Q E h
 obtain⟨dk,dx,f,b,qs,g,n,rfl,hd,cl,s,hn,q⟩:=h
 refine⟨rfl,Sel.no rfl ⟨dk,A.c_Desk,dx,_,rfl,hd,T.cl_Desk,T.na_Desk_stamper,by decide,?_⟩⟩
 refine⟨dk,A.c_Desk,dx,_,rfl,ak,T.cl_Desk,T.na_Desk_bits,(by show 1<1000;decide),?_⟩
 refine⟨dk,A.c_Desk,dx,_,rfl,ak,T.cl_Desk,T.na_Desk_asks_seal,(by show 2<1000;decide),?_⟩
 rw[fO,fO]
 have s1:=s.setI (fs':=[("stamper",.ref f),("bits",.int 4),("asks_seal",.ref qs)]) hd (fun v z=>by cases z)
 have hd1:upd H dk (.ins A.c_Desk dx [("stamper",.ref f),("bits",.int 4),("asks_seal",.ref qs)]) dk=some (.ins A.c_Desk dx [("stamper",.ref f),("bits",.int 4),("asks_seal",.ref qs)]):=ak
 have k1:∀z o,z≠dk->H z=some o->upd H dk (.ins A.c_Desk dx [("stamper",.ref f),("bits",.int 4),("asks_seal",.ref qs)]) z=some o:=fun z o nz e=>by rw[ao nz];exact e
 suffices key:∀H1:Hp,Stp A H1 f b g n->H1 dk=some (.ins A.c_Desk dx [("stamper",.ref f),("bits",.int 4),("asks_seal",.ref qs)])->(∀z o,z≠dk->H z=some o->H1 z=some o)->fV K (aa 0) (aC (mQ K A) (fun _=>E0) (af (aa 1) am)) "held" {nx:=fun _ H'=>Q .non H',rt:=Q} (L2.start ["self","stamper","bits","knows"] [.ref dk,.ref f,.int 4,.ref qs]) H1 from key _ s1 hd1 k1
 clear s1 hd1 k1
 intro H1 s1 hd1 k1
 refine⟨f,b,g,n,rfl,s1,by omega,fun p v g' H2 kb s2 sub hp okv ev=>?_⟩
 have hd2:=kb.obj s1.bb hd1 (fun _ z=>nomatch z)
 refine⟨dk,A.c_Desk,dx,_,rfl,hd2,T.cl_Desk,T.na_Desk_held,(by show 3<1000;decide),?_⟩
 refine q p v g' _ (fun z o nz nd e=>?_) (s2.setI hd2 (fun v z=>by cases z)) sub ⟨⟨dx,ak⟩,cl.keep fun z φ e=>?_,?_,okv⟩ ev
 ·rw[ao nd];exact kb _ _ nz (k1 _ _ nd e)
 ·have nd:=aU e hd (fun z=>nomatch z)
  rw[ao nd];exact kb.obj s1.bb (k1 _ _ nd e) (fun _ z=>nomatch z)
 ·rw[ao (aU hp hd2 (fun z=>nomatch z))];exact hp
theorem Fh (K:pv)(A:Adr):Ln (pF K A) 2:=by rintro vs H Q E ⟨v,w,rfl,_⟩;rfl
theorem eV.keep {H H':Hp}(h:eV A H)(k:∀z o,H z=some o->((∃ps,o=.tbl ps)\/∃φ,o=.ext φ)->H' z=some o):eV A H':=by
 obtain⟨ps,h1,h2⟩:=h
 exact⟨ps,k _ _ h1 (.inl ⟨_,rfl⟩),h2.imp id fun⟨c,z1,z2⟩=>⟨c,z1,k _ _ z2 (.inr ⟨_,rfl⟩)⟩⟩
theorem Hr (T:Txt K mg A)(q0 q1:Addr)(hnd:([q0,q1]:List Addr).Nodup)(vs:List V)(H:Hp)(Q:VK)(E:XK)(h:pF K A vs H Q E):BJ K A q0 q1 {nx:=fun σ H'=>(∀p∈([(0,q0),(1,q1)]:List (Nat×Addr)),H' p.2=none)->Q .non (cr [(0,q0),(1,q1)] σ H'),rt:=fun σ v H'=>(∀p∈([(0,q0),(1,q1)]:List (Nat×Addr)),H' p.2=none)->Q v (cr [(0,q0),(1,q1)] σ H')} (L2.start ["_law_head","_law_paper_here","_law_say"] vs) H:=by
 obtain⟨v,w,rfl,⟨ps,hP,tab⟩,q⟩:=h
 have n01:q0≠q1:=fun e=>by simp[e]at hnd
 have key:∀(c fa:Addr)(H3:Hp),bA A.t_26 H H3->eV A H3->H3 fa=some (dD fa eK [q1,q0] c)->H3 c=some (cE c eK.qual)->∀(y dx:Addr),H3 y=none->H3 dx=none->dx≠y->(∀p∈([(0,q0),(1,q1)]:List (Nat×Addr)),upd (upd (upd H3 dx (.own y)) y (.ins A.c_Spoken dx [])) y (.ins A.c_Spoken dx [("answerer",.ref fa)]) p.2=none)->
   Q (.ref y) (upd (upd (upd (upd (upd H3 dx (.own y)) y (.ins A.c_Spoken dx [])) y (.ins A.c_Spoken dx [("answerer",.ref fa)])) q0 (cg q0 v)) q1 (cg q1 w)):=by
  intro c fa H3 S3 tb hf hc y dx hy hdx ne hq
  have S4:aw H3 (upd (upd (upd H3 dx (.own y)) y (.ins A.c_Spoken dx [])) y (.ins A.c_Spoken dx [("answerer",.ref fa)])):=fun z o e=>by
   have n1:=ax e hy
   have n2:=ax e hdx
   rw[ao n1,ao n1,ao n2];exact e
  have hy4:upd (upd (upd H3 dx (.own y)) y (.ins A.c_Spoken dx [])) y (.ins A.c_Spoken dx [("answerer",.ref fa)]) y=some (.ins A.c_Spoken dx [("answerer",.ref fa)]):=ak
  have hq0:=hq (0,q0) (by simp)
  have hq1:=hq (1,q1) (by simp)
  clear hq
  generalize upd (upd (upd H3 dx (.own y)) y (.ins A.c_Spoken dx [])) y (.ins A.c_Spoken dx [("answerer",.ref fa)])=H4 at S4 hq0 hq1 hy4
  have S5:=aw.upd (o:=cg q0 v) hq0
  have hq1':upd H4 q0 (cg q0 v) q1=none:=by rw[ao (Mh n01)];exact hq1
  have S6:=aw.upd (o:=cg q1 w) hq1'
  have S56:=S5.trans S6
  have S:=S4.trans S56
  exact q y _ (S3.trans fun z o e n=>S z o e) (tb.keep fun z o e _=>S z o e) ⟨dx,fa,q0,q1,S56 _ _ hy4,⟨⟨c,S _ _ hf,S _ _ hc⟩,.cons ak (.cons (by rw[ao n01];exact ak) .nil)⟩⟩
 rcases tab with rfl|⟨c,rfl,hc⟩
 ·refine⟨#[],hP,trivial,.inl ⟨rfl,fun c fa hc hf hne=>?_⟩⟩
  have cP:=bS hP hc
  have fP:=bS hP hf
  have c1:∀o,upd H A.t_26 o c=none:=fun o=>by rw[ao cP];exact hc
  have f1:∀o,upd (upd H A.t_26 o) c (cE c eK.qual) fa=none:=fun o=>by rw[ao (Mh hne),ao fP];exact hf
  intro y dx hy hdx ne
  refine⟨y,dx,fa,rfl,ak,rfl,fun hq=>?_⟩
  refine key c fa _ (bA.tab.trans ((bA.new (c1 _)).trans (bA.new (f1 _)))) ⟨_,?_,.inr ⟨c,rfl,?_⟩⟩ ak ?_ y dx hy hdx ne hq
  ·rw[ao (Mh fP),ao (Mh cP)];exact ak
  ·rw[ao hne];exact ak
  ·rw[ao hne];exact ak
 ·refine⟨_,hP,trivial,.inr ⟨c,rfl,fun fa hf=>?_⟩⟩
  have S1:=aw.upd (o:=dD fa eK [q1,q0] c) hf
  intro y dx hy hdx ne
  refine⟨y,dx,fa,rfl,ak,rfl,fun hq=>?_⟩
  exact key c fa _ (bA.new hf) ⟨_,S1 _ _ hP,.inr ⟨c,rfl,S1 _ _ hc⟩⟩ ak (S1 _ _ hc) y dx hy hdx ne hq
theorem Fg (T:Txt K mg A){C:Addr}(h:C=A.c_Elder\/C=A.c_NoPaper\/C=A.c_Broken\/C=A.c_Parted):cb K C/\eG K C A.c_StampError=some true/\cK K C/\NI K (.ref C) (.type "ValueError")=some true:=by
 rcases h with rfl|rfl|rfl|rfl
 ·exact⟨T.eo_Elder,T.sb_Elder_StampError,T.eg_Elder,T.ki_Elder_ValueError⟩
 ·exact⟨T.eo_NoPaper,T.sb_NoPaper_StampError,T.eg_NoPaper,T.ki_NoPaper_ValueError⟩
 ·exact⟨T.eo_Broken,T.sb_Broken_StampError,T.eg_Broken,T.ki_Broken_ValueError⟩
 ·exact⟨T.eo_Parted,T.sb_Parted_StampError,T.eg_Parted,T.ki_Parted_ValueError⟩
theorem eV.kb {H H':Hp}{f b:Addr}{g:gOp}{n:Nat}(t:eV A H)(s:Stp A H f b g n)(k:aR b H H'):eV A H':=t.keep fun z o e ho=>k.obj s.bb e (fun kvs z=>by rcases ho with⟨_,q⟩|⟨_,q⟩<;>rw[z]at q<;>cases q) (fun y z=>by rcases ho with⟨_,q⟩|⟨_,q⟩<;>rw[z]at q<;>cases q)
theorem HrA.kp {H H':Hp}{dk f b qs hd ne P:Addr}{n c N:Nat}{v w:Key}{tp:Bool}{ks:List Key}{g:gOp}(x:HrA A H dk f b qs hd ne P n c v w tp ks g N)(t:eV A H)(k:bA A.t_26 H H'):HrA A H' dk f b qs hd ne P n c v w tp ks g N:=by
 obtain⟨ps,hP,_⟩:=t
 have kk:∀z o,H z=some o->(∀ps,o≠.tbl ps)->H' z=some o:=fun z o e h=>k z o e (aU e hP (h _))
 obtain⟨⟨⟨dx,ob⟩,cl,hh,ok⟩,s,hN,h1,o1,n10,c10,pp,ke,kl⟩:=x
 refine⟨⟨⟨dx,kk _ _ ob (fun _ z=>nomatch z)⟩,cl.keep fun z φ e=>kk _ _ e (fun _ z=>nomatch z),kk _ _ hh (fun _ z=>nomatch z),ok⟩,s.keep (gV _) fun z o e _ h2 _=>kk z o e h2,hN,kk _ _ h1 (fun _ z=>nomatch z),o1,n10,c10,?_,ke,kl⟩
 unfold PpW at*
 cases tp
 ·exact kk _ _ pp (fun _ z=>nomatch z)
 ·exact kk _ _ pp (fun _ z=>nomatch z)
theorem DP (K:pv)(A:Adr):Ln (il K A) 4:=by rintro vs H Q E ⟨dk,f,b,qs,hd,ne,P,n,c,v,w,tp,ks,g,N,cell,rfl,_⟩;rfl
theorem GK (T:Txt K mg A):Rd (il K A) (Jq K A) ["_law_desk","_law_cell","_law_head","_law_paper_here","_law_told_here","e"]:=by
 intro vs H Q E h
 obtain⟨dk,f,b,qs,hd,ne,P,n,c,v,w,tp,ks,g,N,cell,rfl,x,tb,qr,qa⟩:=h
 refine⟨by decide,Sel.dec (fun _=>?_) (fun _=>?_)⟩
 ·obtain⟨dx,ob⟩:=x.d.ob
  refine⟨dk,dx,_,rfl,ob,rfl,dk,f,b,qs,hd,ne,P,n,c,v,w,tp,ks,g,N,rfl,x,fun C d g' H' hC k s' sub r=>?_,fun g' H' k s' sub d' le hg e=>?_⟩
  ·obtain⟨eo,sb,eg,ki⟩:=Fg T hC
   refine⟨C,rfl,eo,true,sb,Sel.t fun a ha=>⟨a,C,d,true,.ty "ValueError",.type "ValueError",rfl,ak,eo,eg,rfl,fun u e=>e,ki,aH (show 2<=1000000 by decide),fun L hL=>?_⟩⟩
   have S:=(aw.upd (o:=lw C d a) ha).trans (aw.upd (o:=.lst [.str "refused",.bl true]) hL)
   exact qr L g' _ (fun z o nz _ ez=>S _ _ (k z o nz ez)) (s'.same (gV _) S) sub ((tb.kb x.s k).keep fun z o e _=>S _ _ e) r ak
  ·refine qa g' H' (fun z o n1 n2 _ ez=>k z o n1 n2 ez) s' sub (tb.keep fun z o e ho=>?_) d' le hg e
   refine k z o (x.s.nb e (fun y z=>by rcases ho with⟨_,q⟩|⟨_,q⟩<;>rw[z]at q<;>cases q) (fun y z=>by rcases ho with⟨_,q⟩|⟨_,q⟩<;>rw[z]at q<;>cases q)) (aU e ob (fun z=>by rcases ho with⟨_,q⟩|⟨_,q⟩<;>rw[z]at q<;>cases q)) e
 ·obtain⟨dx0,ob0⟩:=x.d.ob
  refine⟨dk,dx0,_,rfl,ob0,rfl,.ref ne,.ref P,rfl,tb,fun ln H1 k1 tb1 l1=>?_⟩
  have x1:=x.kp tb k1
  obtain⟨ps,hP,_⟩:=id tb
  obtain⟨dx,ob⟩:=x1.d.ob
  refine⟨dk,f,b,qs,hd,ne,P,ln,n,c,v,w,tp,ks,g,N,rfl,l1,x1,fun C d g' H' hC k s' sub r=>?_,fun g' H' k s' sub d' le hg e=>?_⟩
  ·obtain⟨eo,sb,eg,ki⟩:=Fg T hC
   refine⟨C,rfl,eo,true,sb,Sel.t fun a ha=>⟨a,C,d,true,.ty "ValueError",.type "ValueError",rfl,ak,eo,eg,rfl,fun u e=>e,ki,aH (show 2<=1000000 by decide),fun L hL=>?_⟩⟩
   have S:=(aw.upd (o:=lw C d a) ha).trans (aw.upd (o:=.lst [.str "refused",.bl true]) hL)
   exact qr L g' _ (fun z o nz nt ez=>S _ _ (k z o nz (k1 z o ez nt))) (s'.same (gV _) S) sub ((tb1.kb x1.s k).keep fun z o e _=>S _ _ e) r ak
  ·refine qa g' H' (fun z o n1 n2 nt ez=>k z o n1 n2 (k1 z o ez nt)) s' sub (tb1.keep fun z o e ho=>?_) d' le hg e
   refine k z o (x1.s.nb e (fun y z=>by rcases ho with⟨_,q⟩|⟨_,q⟩<;>rw[z]at q<;>cases q) (fun y z=>by rcases ho with⟨_,q⟩|⟨_,q⟩<;>rw[z]at q<;>cases q)) (aU e ob (fun z=>by rcases ho with⟨_,q⟩|⟨_,q⟩<;>rw[z]at q<;>cases q)) e
theorem EV (K:pv)(A:Adr):Ln (jA K A) 2:=by rintro vs H Q E ⟨f,E,es,rfl,_⟩;rfl
theorem FX (T:Txt K mg A):Rd (jA K A) (Kz K A) ["_law_stamper_here","_law_entries","_law_row_here","_law_entry"]:=by
 intro vs H Q E h
 obtain⟨f,F,es,rfl,hF,en,l60,q⟩:=h
 intro x dx hx hdx ne
 refine⟨x,dx,f,rfl,ak,fun L D H1 k1 hL hD nLD e1 e2 e3=>⟨rfl,?_⟩⟩
 have S1:aw H H1:=fun z o e=>by
  have n1:z≠x:=ax e hx
  have n2:z≠dx:=ax e hdx
  exact k1 z o n1 (by rw[ao n1,ao n2];exact e)
 have e4:H1 dx=some (.own x):=k1 _ _ ne (by rw[ao ne];exact ak)
 have hL0:=(bN (bN hL).2).2
 have hD0:=(bN (bN hD).2).2
 refine⟨F,rfl,.inl ⟨⟨_,SqL.of (S1 _ _ hF)⟩,?_⟩⟩
 refine jB (xs:=es.map kV) (fun i σ H'=>∃x3,σ=[some (.ref f),some (.ref F),some (.ref x),x3]/\aw H H'/\dI A H' x f L D (es.take i) []/\H' dx=some (.own x))
  ⟨none,rfl,S1,⟨⟨dx,e1⟩,e2,e3,(fun _ h=>nomatch h),Mj _⟩,e4⟩ ?_ ?_ ?_
 ·rintro i σ H' _ ⟨_,_,S,_⟩;exact SqL.of (S _ _ hF)
 ·rintro i v σ H' hv ⟨x3,rfl,S,r,ho⟩
  obtain⟨u,hu,rfl⟩:=iX hv
  have hi:=(Lq.mp hu).1
  have t1:es.take (i+1)=es.take i++[u]:=by rw[OJ,hu];rfl
  obtain⟨dx',hx'⟩:=r.ob
  have tl:(es.take i).length=i:=by rw[Ls];omega
  have enu:=en u (Lu hu)
  refine⟨x,dx',_,rfl,hx',rfl,x,f,L,D,_,[],u,rfl,r,enu,by omega,?_⟩
  refine⟨_,rfl,fun z o e=>?_,⟨⟨dx',?_⟩,by rw[t1];exact ak,?_,fun e he=>en e (Mv he),by rw[Ls];omega⟩,?_⟩
  ·rw[ao (ax e hL0)];exact S _ _ e
  ·rw[ao (aU hx' r.hl (fun z=>nomatch z))];exact hx'
  ·rw[ao (aU r.hd r.hl (fun z=>nomatch z))];exact r.hd
  ·rw[ao (aU ho r.hl (fun z=>nomatch z))];exact ho
 ·rintro σ H' ⟨x3,rfl,S,r,ho⟩
  rw[Ll,NW]at r
  exact q x L D dx H' S hL0 hD0 ho r
theorem en7 (z:Int):enK (.inl (z%7)):=⟨decide_eq_true ⟨by omega,by have:(7:Int)<10^60:=by decide+kernel
                                                                   omega⟩,by show 62<=70;decide⟩
theorem Ho {H:Hp}{a:Addr}{ns:List Int}{σ:L2.St}{lo:Nat}{n:Nat}{Q:VK}(hs:SqL K H a (ns.map V.int))(hσ:σ[0]?=some (some (.ref a)))(hn:n<=14)
  (q:∀(D:Addr)(es:List Key)(H':Hp),H D=none->aw H H'->H' D=some (.lst (es.map kV))->(∀e∈es,enK e)->es.length=n->Q (.ref D) H'):∀D,H D=none->lX [0] (fun _ H Q=>Q true H) (tOp (bF) (aC (fZ K A) (fun _=>E0) (af (aa 1) (af (tOp (bu K) (tC (.int (lo:Int))) (aa 0)) (am)))) (tC (.int 7))) σ D (Itr 0 n) H Q:=by
 intro D hD
 refine gK (da.range (lo:=0) (n:=n)) (fun i ys H'=>∃es:List Key,ys=es.map kV/\es.length=i/\(∀e∈es,enK e)/\H' D=some (.lst ys)/\aw H H') (fun _ _ _ _ _=>trivial) ⟨[],rfl,rfl,(fun _ h=>nomatch h),ak,aw.upd hD⟩ (fun i ys H2 hi h=>?_) (fun ys H2 h=>?_)
 ·obtain⟨es,e1,e2,e3,e4,S⟩:=h
  have hc:aV σ [0]=[some (.ref a)]:=by simp[aV,hσ]
  rw[hc]
  refine jZ ⟨a,ns,_,rfl,SqL.keep (fun o e=>S _ _ e) hs,by omega,fun z=>⟨by decide,e4,?_,CWd.next hi ⟨es++[.inl (z%7)],by rw[e1,LL];rfl,by rw[Lm,e2];rfl,fun x hx=>?_,ak,fun z o h=>?_⟩⟩⟩
  ·rw[e1,Ll,e2];exact br (by omega)
  ·rcases Mr.mp hx with h|h
   ·exact e3 x h
   ·rw[LK.mp h];exact en7 z
  ·rw[ao (ax h hD)];exact S _ _ h
 ·obtain⟨es,rfl,e2,e3,e4,S⟩:=h
  exact q D es H2 hD S e4 e3 e2
theorem Fk {H:Hp}{σ:L2.St}{z:Int}{n:Nat}{Q:VK}(hσ:σ[5]?=some (some (.int z)))(hn:n<=14)
  (q:∀(D:Addr)(es:List Key)(H':Hp),H D=none->aw H H'->H' D=some (.lst (es.map kV))->(∀e∈es,enK e)->es.length=n->Q (.ref D) H'):∀D,H D=none->lX [5] (fun _ H Q=>Q true H) (tOp (bF) (tOp (bu K) (tOp (bw) (aa 1) (tC (.int 11))) (tOp (fG) (aa 0) (tOp (bu K) (tC (.int 1)) (tOp (bF) (tOp (bw) (aa 1) (tC (.int 77))) (tC (.int 6)))))) (tC (.int 7))) σ D (Itr 0 n) H Q:=by
 intro D hD
 refine gK (da.range (lo:=0) (n:=n)) (fun i ys H'=>∃es:List Key,ys=es.map kV/\es.length=i/\(∀e∈es,enK e)/\H' D=some (.lst ys)/\aw H H') (fun _ _ _ _ _=>trivial) ⟨[],rfl,rfl,(fun _ h=>nomatch h),ak,aw.upd hD⟩ (fun i ys H2 hi h=>?_) (fun ys H2 h=>?_)
 ·obtain⟨es,e1,e2,e3,e4,S⟩:=h
  have hc:aV σ [5]=[some (.int z)]:=by simp[aV,hσ]
  rw[hc]
  refine jZ ⟨⟨by decide,by decide⟩,⟨by decide,by decide⟩,by decide,CZ (by omega) (by omega),by decide,e4,?_,CWd.next hi ⟨es++[.inl ((z/11+(0+(i:Int))*(1+z/77%6))%7)],by rw[e1,LL];rfl,by rw[Lm,e2];rfl,fun x hx=>?_,ak,fun z o h=>?_⟩⟩
  ·rw[e1,Ll,e2];exact br (by omega)
  ·rcases Mr.mp hx with h|h
   ·exact e3 x h
   ·rw[LK.mp h];exact en7 _
  ·rw[ao (ax h hD)];exact S _ _ h
 ·obtain⟨es,rfl,e2,e3,e4,S⟩:=h
  exact q D es H2 hD S e4 e3 e2
theorem nR {H:Hp}{a Bk F:Addr}{ns:List Int}{m j:Nat}{es:List Key}{bx:List V}{x5 x6 x7:Option V}{D:eF}(hs:SqL K H a (ns.map V.int))(hF:H F=some (.lst (es.map kV)))(en:∀e∈es,enK e)(l1:es.length=m)(m10:m<=10)(hB:H Bk=some (.lst bx))(lb:bx.length<=10)
  (q:∀(E:Addr)(fs:List Key)(y5 y6 y7:Option V)(H':Hp),(∀z o,z≠Bk->H z=some o->H' z=some o)->H' Bk=some (.lst (bx++[.ref E]))->H' E=some (.lst (fs.map kV))->(∀e∈fs,enK e)->fs.length<=10->D.nx [some (.ref a),some (.int (m:Int)),some (.ref F),some (.ref Bk),some (.int (j:Int)),y5,y6,y7] H'):
  (aA (aD (aC (fZ K A) (fun _=>E0) (af (aa 0) (af (tOp (bu K) (tC (.int 1)) (aa 4)) (am)))) (aB 5)) (aA (aD (tOp (bF) (aa 5) (tOp (bu K) (aa 1) (tC (.int 1)))) (aB 6)) (aA (aD (fz [5] (kB (af (tOp (bF) (tOp (bw) (aa 5) (tC (.int 3))) (tOp (dv) (tC (.int 11)) (aa 6))) (am))) (fun _ H Q=>Q true H) (tOp (bF) (tOp (bu K) (tOp (bw) (aa 1) (tC (.int 11))) (tOp (fG) (aa 0) (tOp (bu K) (tC (.int 1)) (tOp (bF) (tOp (bw) (aa 1) (tC (.int 77))) (tC (.int 6)))))) (tC (.int 7)))) (aB 7)) (bL (tBM K "list" bG (aa 3) (af (tOp (bu K) (tSl (eE K) (aa 2) (cj) (dA (aa 6))) (aa 7)) (am))))))) D [some (.ref a),some (.int (m:Int)),some (.ref F),some (.ref Bk),some (.int (j:Int)),x5,x6,x7] H:=by
 refine⟨a,ns,_,rfl,hs,by omega,fun z=>⟨by omega,?_⟩⟩
 obtain⟨c,ec⟩:=Mw (OF z (show(m:Int)+1≠0 by omega))
 have lc:=Ob z (show 0<(m:Int)+1 by omega)
 dsimp only[aB]
 rw[ec]at lc⊢
 refine⟨⟨by decide,by decide⟩,(by show(0:Int)<11- (c:Int);omega),_,rfl,?_⟩
 have r0:=OF (z/3) (b:=11- (c:Int)) (by omega)
 have r1:=Ob (z/3) (b:=11- (c:Int)) (by omega)
 obtain⟨k,ek⟩:=Mw r0
 refine⟨by omega,by omega,?_⟩
 rw[ek,Nu]
 refine Fk rfl (by omega) fun D2 fs H1 hD2 S1 h1 en2 l2=>?_
 have hB1:=S1 _ _ hB
 refine⟨.inl ⟨rfl,_,SqL.of hB1⟩,c,rfl,uk (S1 _ _ hF) (by omega) fun p hp=>?_⟩
 have S2:aw H1 (upd H1 p (.lst ((es.take c).map kV))):=aw.upd hp
 have hp2:upd H1 p (.lst ((es.take c).map kV)) p=some (.lst ((es.take c).map kV)):=ak
 generalize upd H1 p (.lst ((es.take c).map kV))=H2 at S2 hp2
 have tl:(es.take c).length=c:=by rw[Ls];omega
 refine .inl ⟨p,D2,_,_,rfl,rfl,hp2,S2 _ _ h1,?_,fun R hR=>?_⟩
 ·rw[Ll,Ll];exact Ng (br (by omega))
 have S3:aw H2 (upd H2 R (.lst ((es.take c).map kV++fs.map kV))):=aw.upd hR
 have hR3:upd H2 R (.lst ((es.take c).map kV++fs.map kV)) R=some (.lst ((es.take c++fs).map kV)):=by rw[ak,LL]
 generalize upd H2 R (.lst ((es.take c).map kV++fs.map kV))=H3 at S3 hR3
 have S:=S1.trans (S2.trans S3)
 have hB3:=S _ _ hB
 have nRB:R≠Bk:=fun z=>by rw[z,(S1.trans S2) _ _ hB]at hR;cases hR
 refine⟨Bk,_,_,rfl,rfl,hB3,br (by omega),?_⟩
 refine q R (es.take c++fs) _ _ _ _ (fun z o nz e=>by rw[ao nz];exact S _ _ e) ak (by rw[ao nRB];exact hR3) (fun e he=>?_) ?_
 ·rcases Mr.mp he with h|h
  ·exact en e (Mv h)
  ·exact en2 e h
 ·rw[Lm,tl];omega
def BkI (H:Hp)(Bk F:Addr):Nat->Prop
 |0=>H Bk=some (.lst [.ref F])
 |1=>∃(E:Addr)(fs:List Key),H Bk=some (.lst [.ref F,.ref E])/\E≠Bk/\H E=some (.lst (fs.map kV))/\(∀e∈fs,enK e)/\fs.length<=10
 |_=>∃(E:Addr)(fs:List Key)(E2:Addr)(gs:List Key),H Bk=some (.lst [.ref F,.ref E,.ref E2])/\H E=some (.lst (fs.map kV))/\(∀e∈fs,enK e)/\fs.length<=10/\H E2=some (.lst (gs.map kV))/\(∀e∈gs,enK e)/\gs.length<=10
theorem Do {es:List Key}{x:Addr}{r:List V}:(V.ref x::r)≠es.map kV:=by
 cases es with
 |nil=>intro z;cases z
 |cons e t=>intro z;injection z with z _;cases e<;>cases z
theorem CU (K:pv)(A:Adr):Ln (pA K A) 1:=by rintro vs H Q E ⟨a,ns,rfl,_⟩;rfl
theorem HF (T:Txt K mg A):Rd (pA K A) (KU K A) ["_law_script","_law_size","_law_first","_law_books_here","_law_k","_law_cell","_law_cut","_law_behind"]:=by
 intro vs H Q E h
 obtain⟨a,ns,rfl,hs,q⟩:=h
 refine⟨a,ns,1,rfl,hs,by decide,fun z1=>⟨by decide,?_⟩⟩
 obtain⟨m,em⟩:=Mw (show 0<=1+z1%10 by omega)
 have m10:m<=10:=by omega
 show vh K A _ [some (.ref a),some (.int (1+z1%10)),none,none,none,none,none,none] H
 rw[em]
 refine⟨_,rfl,by omega,by omega,?_⟩
 rw[Nu]
 refine Ho (lo:=4) hs rfl (by omega) fun F es H1 hF1 S1 h1 en1 l1=>?_
 refine⟨aH (show 1<=1000000 by decide),fun Bk hBk=>?_⟩
 have S2:=aw.upd (o:=.lst [.ref F]) hBk
 have S:=S1.trans S2
 have nF:F≠Bk:=ax h1 hBk
 refine⟨1,3,rfl,⟨by decide,by decide,by decide,by decide⟩,?_⟩
 have hBk0:H Bk=none:=by
  cases e:H Bk with
  |none=>rfl
  |some o=>rw[S1 _ _ e]at hBk;cases hBk
 refine jY (lo:=1) (n:=2) (fun i σ H'=>∃x4 x5 x6 x7,σ=[some (.ref a),some (.int (m:Int)),some (.ref F),some (.ref Bk),x4,x5,x6,x7]/\aw H H'/\H' F=some (.lst (es.map kV))/\BkI H' Bk F i)
  ⟨none,none,none,none,rfl,S,S2 _ _ h1,ak⟩ ?_ ?_
 ·rintro i σ H' hi ⟨x4,x5,x6,x7,rfl,S',hF',bi⟩
  have hs':=SqL.keep (fun o e=>S' _ _ e) hs
  match i,hi,bi with
  |0,_,bi=>
   refine nR (j:=1) hs' hF' en1 l1 m10 bi (by simp) fun E fs y5 y6 y7 H2 k2 hB2 hE2 en2 l2=>?_
   refine⟨_,_,_,_,rfl,fun z o e=>k2 _ _ (ax e hBk0) (S' _ _ e),k2 _ _ nF hF',E,fs,hB2,fun z=>?_,hE2,en2,l2⟩
   rw[z,hB2]at hE2
   exact Do (by injection hE2 with hE2;injection hE2)
  |1,_,⟨E,fs,hB1,nE,hE,en2,l2⟩=>
   refine nR (j:=2) hs' hF' en1 l1 m10 hB1 (by simp) fun E2 gs y5 y6 y7 H2 k2 hB2 hE2 en3 l3=>?_
   exact⟨_,_,_,_,rfl,fun z o e=>k2 _ _ (ax e hBk0) (S' _ _ e),k2 _ _ nF hF',E,fs,E2,gs,hB2,k2 _ _ nE hE,en2,l2,hE2,en3,l3⟩
  |i+2,hi,_=>omega
 ·rintro σ H' ⟨x4,x5,x6,x7,rfl,S',hF',E,fs,E2,gs,hB,hE,en2,l2,hE2,en3,l3⟩
  exact q Bk F E E2 es fs gs H' S' hB hF' hE hE2 en1 en2 en3 (by omega) l2 l3
section
variable {H H' H2:Hp}{f b z:Addr}{g g':gOp}{n m:Nat}{rs:List Rw}{r:Rw}{o:HO}{k:Nat}
theorem KR.rfl':KR b rs H H:=fun _ _ _ _ e=>e
theorem KR.trans (a:KR b rs H H')(c:KR b rs H' H2):KR b rs H H2:=fun z o n1 n2 e=>c z o n1 n2 (a z o n1 n2 e)
theorem KR.same (S:aw H H'):KR b rs H H':=fun z o _ _ e=>S z o e
theorem KR.kb (k:aR b H H'):KR b rs H H':=fun z o n1 _ e=>k z o n1 e
theorem KR.k2 (hr:r∈rs)(k:bI b r.D H H'):KR b rs H H':=fun z o n1 n2 e=>k z o n1 (n2 r hr) e
theorem Rws.keep (w:Rws A H f b g n rs)(hr:r∈rs)(k:KR b rs H H')(e:H z=some o)(h1:∀y,o≠.own y)(h2:∀kvs,o≠.dT kvs):H' z=some o:=by
 obtain⟨_,r1⟩:=w.rx r hr
 refine k _ _ (r1.s.nb e h1 h2) (fun s hs=>?_) e
 obtain⟨_,s1⟩:=w.rx s hs
 exact(s1.n2 e h1 h2).2
theorem Rws.st (w:Rws A H f b g n rs)(hr:r∈rs):Stp A H f b g n:=by
 obtain⟨_,r1⟩:=w.rx r hr
 exact r1.s
theorem Rws.same (w:Rws A H f b g n rs)(S:aw H H')(hn:n<=m):Rws A H' f b g m rs:=⟨fun r hr=>(w.rx r hr).same S hn,w.nd⟩
theorem Rws.call (w:Rws A H f b g n rs)(kb:aR b H H')(s:Stp A H' f b g' m)(sub:Sub g g')(hn:n<=m):Rws A H' f b g' m rs:=⟨fun r hr=>(w.rx r hr).call kb s sub hn,w.nd⟩
theorem Rws.op (w:Rws A H f b g n rs)(hk:rs[k]?=some r)(k2:bI b r.D H H')(r':eP A H' f b g' m r.x r.L r.D r.es)(sub:Sub g g')(hn:n<=m):Rws A H' f b g' m rs:=by
 refine⟨fun s hs=>?_,w.nd⟩
 obtain⟨j,hj⟩:=Oi hs
 by_cases e:j=k
 ·subst e;rw[hk]at hj;cases hj;exact r'
 ·exact(w.rx s hs).other (w.rx r (Lu hk)) r' k2 sub hn fun z=>e (w.nd j k s r hj hk z)
theorem Bks.kr {B W:Addr}(x:Bks H B W rs)(w:Rws A H f b g n rs)(k:KR b rs H H'):Bks H' B W rs:=by
 have l3:=x.l3
 obtain⟨r,hr⟩:∃r,r∈rs:=⟨rs[0],Nk (by omega)⟩
 obtain⟨Es,h1,h2,h3⟩:=x.hB
 exact⟨w.keep hr k x.hW (fun _ z=>nomatch z) (fun _ z=>nomatch z),⟨Es,w.keep hr k h1 (fun _ z=>nomatch z) (fun _ z=>nomatch z),h2,fun i E r' e1 e2=>w.keep hr k (h3 i E r' e1 e2) (fun _ z=>nomatch z) (fun _ z=>nomatch z)⟩,l3,x.l10⟩
end
theorem mZ:∀(n:Nat)(es:List Key)(e:Nat),(grS n es e).length<=n+1
 |0,_,_=>gV _
 |n+1,es,e=>by
  rw[grS]
  split
  ·show 1<=_;omega
  ·split
   ·rw[Lm];have:=mZ n (es.take (aj es.length)) e;show _+1<=_;omega
   ·rw[LU];have:=mZ n (es.drop (aj es.length)) (e- aj es.length);omega
theorem lE:∀(n:Nat)(es:List Key)(e:Nat),∀s∈grS n es e,s.length<=es.length
 |0,es,_=>fun s h=>by rw[grS]at h;rw[LK.mp h];exact gV _
 |n+1,es,e=>fun s h=>by
  rw[grS]at h
  split at h
  ·rw[LK.mp h];exact gV _
  ·split at h
   ·rcases Mr.mp h with h|h
    ·have:=lE n _ _ s h;rw[Ls]at this;omega
    ·rw[LK.mp h,Lz];omega
   ·rcases LG.mp h with h|h
    ·rw[h,Ls];omega
    ·have:=lE n _ _ s h;rw[Lz]at this;omega
theorem AE {g:List Key->Option Key}{es:List Key}{e:Nat}{ks:List Key}(l:es.length<=10)(m:Mks g (gm es e) ks):(∀x∈ks,mkK x)/\ks.length<=11:=by
 have key:∀{ss:List (List Key)}{ks:List Key},Mks g ss ks->(∀s∈ss,s.length<=10)->∀x∈ks,mkK x:=by
  intro ss ks m
  induction m with
  |nil=>intro _ x h;cases h
  |cons c _ ih=>
   intro hs x hx
   rcases LG.mp hx with h|h
   ·rw[h]
    have l:=hs _ Mm
    refine⟨c.ok,Mi c.sz ?_⟩
    unfold szB;omega
   ·exact ih (fun s h=>hs s (Mc _ h)) x h
 have hl:=Paired.length m
 unfold gm at m hl
 split at m
 ·cases m;exact⟨(fun _ h=>nomatch h),Mj _⟩
 ·rename_i h0
  rw[if_neg h0]at hl
  have:=mZ es.length es e
  refine⟨key m fun s hs=>?_,by omega⟩
  have:=lE _ _ _ s hs;omega
theorem DT {H:Hp}{cell:Int}{P:Addr}{ks:List Key}{Q:VK}{x1 x2 x3 x4 x5 x6 x7:Option V}(hP:H P=some (.tup (ks.map kV)))(mk:∀x∈ks,mkK x)(kl:ks.length<=11)
  (q:∀(P:Addr)(tp:Bool)(js:List Key)(H':Hp),aw H H'->PpW H' P tp js->(∀x∈js,mkK x)->js.length<=20->Q (.ref P) H'):
  wJ K A {nx:=fun _ H'=>Q .non H',rt:=Q} [some (.int cell),x1,x2,x3,x4,x5,x6,x7,some (.ref P),none,none] H:=by
 refine⟨⟨by decide,by decide⟩,by decide,.inl (.inr (.inl ⟨_,SqT.of hP,?_⟩))⟩
 rw[Ll]
 refine Sel.dec (fun _=>Sel.t (q P true ks H aw.rfl' hP mk (by omega))) (fun l0=>?_)
 have l0:¬(ks.length:Int)=0:=l0
 refine Sel.dec (fun _=>q P true ks H aw.rfl' hP mk (by omega)) (fun _=>?_)
 refine⟨⟨by decide,by decide⟩,.inl (.inr (.inl ⟨_,SqT.of hP,?_⟩))⟩
 rw[Ll]
 refine⟨by omega,?_⟩
 obtain⟨s,es⟩:=Mw (OF (cell/756) (show(ks.length:Int)≠0 by omega))
 have ls:=Ob (cell/756) (show 0<(ks.length:Int)by omega)
 dsimp only[aB]
 rw[es]at ls⊢
 have sl:s<ks.length:=by omega
 have mt:∀x∈ks.take s,mkK x:=fun x h=>mk x (Mv h)
 have md:∀(n:Nat),∀x∈ks.drop n,mkK x:=fun n x h=>mk x (Oh h)
 have c1:eU (ks.map kV) none (some (s:Int))=(ks.take s).map kV:=by rw[qH (by rw[Ll];omega),RO]
 have c2:eU (ks.map kV) (some ((s:Int)+1)) none=(ks.drop (s+1)).map kV:=by rw[show((s:Int)+1)=((s+1:Nat):Int)from rfl,qB (by rw[Ll];omega),UA]
 refine Sel.dec (fun _=>?_) (fun _=>?_)
 ·refine⟨P,_,rfl,.inr (SqT.of hP),fun l hl=>?_⟩
  exact q l false ks _ (aw.upd hl) ak mk (by omega)
 refine Sel.dec (fun _=>?_) (fun _=>?_)
 ·refine⟨s,rfl,.inl (.inr ⟨P,_,rfl,hP,fun p1 H1 S1 h1=>?_⟩)⟩
  rw[c1]at h1
  refine⟨_,rfl,.inl (.inr ⟨P,_,rfl,S1 _ _ hP,fun p2 H2 S2 h2=>?_⟩)⟩
  rw[c2]at h2
  refine .inr ⟨p1,p2,_,_,rfl,rfl,S2 _ _ h1,h2,?_,fun p3 H3 S3 h3=>?_⟩
  ·rw[Ll,Ll,Ls,Lz];exact Ng (br (by omega))
  ·rw[<-LL]at h3
   refine q p3 true _ H3 (S1.trans (S2.trans S3)) h3 (fun x hx=>?_) ?_
   ·rcases Mr.mp hx with h|h
    ·exact mt x h
    ·exact md _ x h
   ·rw[Lm,Ls,Lz];omega
 refine Sel.dec (fun _=>?_) (fun _=>?_)
 ·refine⟨s,rfl,.inl (.inr ⟨P,_,rfl,hP,fun p1 H1 S1 h1=>?_⟩)⟩
  rw[c1]at h1
  refine⟨⟨by decide,by decide⟩,by decide,aH (show 1<=1000000 by decide),fun t ht=>?_⟩
  have S2:=aw.upd (o:=.tup [.int (cell/756%50)]) ht
  have ht2:upd H1 t (.tup [.int (cell/756%50)]) t=some (.tup (([.inl (cell/756%50)]:List Key).map kV)):=ak
  generalize upd H1 t (.tup [.int (cell/756%50)])=H2 at S2 ht2
  refine .inr ⟨p1,t,_,_,rfl,rfl,S2 _ _ h1,ht2,?_,fun p3 H3 S3 h3=>?_⟩
  ·rw[Ll,Ll,Ls];exact Ng (br (by show _+1<=_;omega))
  rw[<-LL]at h3
  refine⟨_,rfl,.inl (.inr ⟨P,_,rfl,S3 _ _ (S2 _ _ (S1 _ _ hP)),fun p4 H4 S4 h4=>?_⟩)⟩
  rw[c2]at h4
  refine .inr ⟨p3,p4,_,_,rfl,rfl,S4 _ _ h3,h4,?_,fun p5 H5 S5 h5=>?_⟩
  ·rw[Ll,Ll,Lm,Ls,Lz];exact Ng (br (by show _+1+_<=_;omega))
  ·rw[<-LL]at h5
   refine q p5 true _ H5 (S1.trans (S2.trans (S3.trans (S4.trans S5)))) h5 (fun x hx=>?_) ?_
   ·rcases Mr.mp hx with h|h
    ·rcases Mr.mp h with h|h
     ·exact mt x h
     ·rw[LK.mp h]
      have p60:(50:Int)<10^60:=by decide+kernel
      exact⟨decide_eq_true ⟨by omega,by omega⟩,by show 62<=4000;decide⟩
    ·exact md _ x h
   ·rw[Lm,Lm,Ls,Lz];show _+1+_<=_;omega
 ·have d1:eU (ks.map kV) (some 1) none=(ks.drop 1).map kV:=by rw[show(1:Int)=((1:Nat):Int)from rfl,qB (by rw[Ll];omega),UA]
  have d2:eU (ks.map kV) none (some 1)=(ks.take 1).map kV:=by rw[show(1:Int)=((1:Nat):Int)from rfl,qH (by rw[Ll];omega),RO]
  refine⟨1,rfl,.inl (.inr ⟨P,_,rfl,hP,fun p1 H1 S1 h1=>?_⟩)⟩
  rw[d1]at h1
  refine⟨1,rfl,.inl (.inr ⟨P,_,rfl,S1 _ _ hP,fun p2 H2 S2 h2=>?_⟩)⟩
  rw[d2]at h2
  refine .inr ⟨p1,p2,_,_,rfl,rfl,S2 _ _ h1,h2,?_,fun p3 H3 S3 h3=>?_⟩
  ·rw[Ll,Ll,Ls,Lz];exact Ng (br (by omega))
  ·rw[<-LL]at h3
   refine q p3 true _ H3 (S1.trans (S2.trans S3)) h3 (fun x hx=>?_) ?_
   ·rcases Mr.mp hx with h|h
    ·exact md _ x h
    ·exact mk x (Mv h)
   ·rw[Lm,Ls,Lz];omega
theorem ES (K:pv)(A:Adr):Ln (ix K A) 6:=by rintro vs H Q E ⟨cell,W,B,f,b,rs,g,N,k,count,held,rfl,_⟩;rfl
theorem Gm (T:Txt K mg A):Rd (ix K A) (Ke K A) ["_law_cell","_law_rows","_law_books_here","_law_k","_law_count","_law_held","_law_size","_law_elder","_law_paper_here","_law_spoil","_law_spot"]:=by
 intro vs H Q E h
 obtain⟨cell,W,B,f,b,rs,g,N,k,count,held,rfl,w,x,k3,hN,q⟩:=h
 have l3:=x.l3
 have bV:∀k:Nat,k<3->we K A {nx:=fun _ H'=>Q .non H',rt:=Q} [some (.int cell),some (.ref W),some (.ref B),some (.int (k:Int)),some (.int (count:Int)),some (.int (held:Int)),none,none,none,none,none] H:=by
  intro k k3
  obtain⟨r,hr⟩:∃r,rs[k]?=some r:=⟨_,Gt (by omega)⟩
  have mr:=Lu hr
  obtain⟨Es,hB,el,hEs⟩:=x.hB
  obtain⟨E1,hE1⟩:∃E1,Es[k]?=some E1:=⟨_,Gt (by omega)⟩
  have hE:=hEs k E1 r hE1 hr
  have l10:=x.l10 r mr
  refine ixL (j:=k) hB rfl (by rw[LO,hE1];rfl) ?_
  refine .inl (.inl ⟨_,SqL.of hE,?_⟩)
  rw[Ll]
  have em:(if (r.es.length:Int)<count then(r.es.length:Int)else count)=((min count r.es.length:Nat):Int):=by split<;>omega
  dsimp only[am,kZ]
  rw[em]
  have sz:min count r.es.length<=r.es.length:=PJ _ _
  generalize min count r.es.length=size at sz
  have em2:(if (size:Int)<held then(size:Int)else held)=((min held size:Nat):Int):=by split<;>omega
  show wF K A {nx:=fun _ H'=>Q .non H',rt:=Q} [some (.int cell),some (.ref W),some (.ref B),some (.int (k:Int)),some (.int (count:Int)),some (.int (held:Int)),some (.int (size:Int)),some (.int (if (size:Int)<held then(size:Int)else held)),none,none,none] H
  rw[em2]
  have go:∀e:Nat,e<=size->wj K A {nx:=fun _ H'=>Q .non H',rt:=Q} [some (.int cell),some (.ref W),some (.ref B),some (.int (k:Int)),some (.int (count:Int)),some (.int (held:Int)),some (.int (size:Int)),some (.int (e:Int)),none,none,none] H:=by
   intro e he
   obtain⟨kvs,rr⟩:=w.rx r mr
   obtain⟨dx,hx⟩:=rr.r.ob
   refine ixL (j:=k) x.hW rfl (by rw[LO,hr];rfl) ⟨r.x,dx,_,rfl,hx,rfl,r.x,f,r.L,r.D,b,r.es,kvs,g,N,size,e,rfl,rr,sz,he,hN,fun P ks kvs' g' H1 k1 r1 sub1 hP mk=>?_⟩
   obtain⟨mk',kl⟩:=AE (by rw[Ls];omega) mk
   have w1:=w.op hr k1 ⟨_,r1⟩ sub1 (by omega)
   refine DT hP mk' kl fun P2 tp js H2 S2 hp mj lj=>?_
   exact q P2 tp js g' H2 ((KR.k2 mr k1).trans (KR.same S2)) (w1.same S2 (gV _)) sub1 hp mj lj
  refine⟨⟨by decide,by decide⟩,by decide,Sel.dec (fun _=>?_) (fun _=>?_)⟩
  ·refine⟨⟨by decide,by decide⟩,(by show(0:Int)<(size:Int)+1;omega),?_⟩
   obtain⟨e,ee⟩:=Mw (OF (cell/84) (show(size:Int)+1≠0 by omega))
   have le:=Ob (cell/84) (show 0<(size:Int)+1 by omega)
   dsimp only[aB]
   rw[ee]at le⊢
   exact go e (by omega)
  ·exact go _ (PJ _ _)
 refine⟨by decide,Sel.dec (fun _=>?_) (fun _=>?_)⟩
 ·refine⟨⟨by decide,by decide⟩,by decide,?_⟩
  obtain⟨k',ek⟩:=Mw (show 0<=cell/4%3 by omega)
  dsimp only[aB]
  rw[ek]
  exact bV k' (by omega)
 ·exact bV k k3
theorem jw {k:List Key}(h:∀x∈k,okP x=true):k.all vT=true:=by
 rw[Nl]
 intro x hx
 have:=h x hx
 cases x with
 |inl i=>rfl
 |inr z=>exact va (Lv.mp this).1
theorem xX {H:Hp}{Q:VK}{a b:Addr}{k l:List Key}(ha:H a=some (.lst (k.map kV)))(hb:H b=some (.lst (l.map kV)))(ok:∀x∈k,okP x=true)(ol:∀x∈l,okP x=true)(q:Q (.bl (!decide (k=l))) H):ci K (.ref a) (.ref b) H Q:=by
 refine⟨.list (k.map dj),.list (l.map dj),.lst (SqL.of ha) (L2.fB k),.lst (SqL.of hb) (L2.fB l),eB (jw ok),eB (jw ol),?_,?_⟩
 ·show NK (k.map dj)+1<=150;rw[gI];decide
 ·show Q (.bl (!PyData.eqvAll (k.map dj) (l.map dj))) H
  rw[iA];exact q
theorem Bb {i:Nat}{σ:L2.St}{v:V}{H:Hp}{Q:VK}(h:σ[i]?=some (some v))(q:Q v H):aa i σ H Q:=by
 unfold aa;rw[h];exact q
theorem EY (K:pv)(A:Adr):Ln (gz K A) 6:=by rintro vs H Q E ⟨W,B,He,P,f,b,rs,r,held,ks,tp,g,N,k,count,rfl,_⟩;rfl
theorem IH (T:Txt K mg A):Rd (gz K A) (KL K A) ["_law_rows","_law_books_here","_law_k","_law_count","_law_held","_law_paper_here"]:=by
 intro vs H Q E h
 obtain⟨W,B,He,P,f,b,rs,r,held,ks,tp,g,N,k,count,rfl,w,x,hr,hc,hHe,oh,hl,pp,ok,hN,q⟩:=h
 have mr:=Lu hr
 have no:∀(H':Hp),aw H H'->¬(held.length<=count/\r.es.take held.length=held)->Q (.bl false) H':=fun H' S ne=>q false g H' (KR.same S) (w.same S (by omega)) Sub.rfl' (fun z=>(by cases z)) fun _=>.inl ne
 refine .inl (.inl ⟨_,SqL.of hHe,?_⟩)
 rw[Ll]
 refine Sel.dec (fun g1=>Sel.t (no H aw.rfl' fun z=>?_)) (fun g1=>?_)
 ·have g1:(count:Int)<held.length:=g1
  omega
 have g1:¬(count:Int)<held.length:=g1
 obtain⟨Es,hB,el,hEs⟩:=x.hB
 have l3:=x.l3
 have kl:=(Lq.mp hr).1
 obtain⟨E1,hE1⟩:∃E1,Es[k]? =some E1:=⟨_,Gt (by omega)⟩
 have hE:=hEs k E1 r hE1 hr
 have l10:=x.l10 r mr
 obtain⟨kvs,rr⟩:=w.rx r mr
 have okE:∀e∈r.es,okP e=true:=fun e he=>(rr.r.en e he).1
 refine ixL (j:=k) hB rfl (by rw[LO,hE1];rfl) ?_
 refine .inl (.inl ⟨_,SqL.of hHe,?_⟩)
 rw[Ll]
 refine⟨_,rfl,uk hE (show held.length<=r.es.length by omega) fun p hp=>?_⟩
 have S1:aw H (upd H p (.lst ((r.es.take held.length).map kV))):=aw.upd hp
 have hp1:upd H p (.lst ((r.es.take held.length).map kV)) p=some (.lst ((r.es.take held.length).map kV)):=ak
 generalize upd H p (.lst ((r.es.take held.length).map kV))=H1 at S1 hp1
 refine Bb (v:=.ref He) rfl ?_
 dsimp only
 refine xX hp1 (S1 _ _ hHe) (fun e he=>okE e (Mv he)) oh ?_
 refine Sel.ndec (fun ne=>?_) (fun eq=>?_)
 ·exact no H1 S1 fun z=>ne z.2
 have w1:=w.same S1 (gV _)
 have x1:=x.kr w (KR.same S1)
 have pp1:=pp.same S1
 unfold PpW at pp1
 cases tp with
 |false=>
  have pp1:H1 P=some (.lst (ks.map kV)):=pp1
  have ty:tyN H1 (.ref P)=some "list":=by unfold tyN;dsimp only;rw[pp1]
  exact⟨by decide,"list",ty,Sel.f (q false g H1 (KR.same S1) (w1.same aw.rfl' (by omega)) Sub.rfl' (fun z=>(by cases z)) fun _=>.inr (.inl rfl))⟩
 |true=>
  have pp1:H1 P=some (.tup (ks.map kV)):=pp1
  have ty:tyN H1 (.ref P)=some "tuple":=by unfold tyN;dsimp only;rw[pp1]
  refine⟨by decide,"tuple",ty,Sel.t ?_⟩
  obtain⟨kvs1,rr1⟩:=w1.rx r mr
  obtain⟨dx,hx⟩:=rr1.r.ob
  refine ixL (j:=k) x1.hW rfl (by rw[LO,hr];rfl) ⟨r.x,dx,_,rfl,hx,rfl,.inl (.inl ⟨_,SqL.of (S1 _ _ hHe),?_⟩)⟩
  rw[Ll]
  refine⟨r.x,f,r.L,r.D,b,r.es,kvs1,g,N,count,held.length,rfl,rr1,hc,by omega,hN,fun P2 js kvs' g' H2 k2 r2 sub2 hP2 mk=>?_⟩
  have w2:=w1.op hr k2 ⟨_,r2⟩ sub2 (by omega)
  have k1:KR b rs H1 H2:=KR.k2 mr k2
  have pp2:=w1.keep mr k1 pp1 (fun _ z=>nomatch z) (fun _ z=>nomatch z)
  refine jW pp2 hP2 (q _ g' H2 ((KR.same S1).trans k1) w2 sub2 (fun z=>?_) (fun z=>?_))
  ·have e:=of_decide_eq_true z
   subst e
   exact⟨by omega,eq,rfl,mk⟩
  ·exact .inr (.inr ⟨js,mk,of_decide_eq_false z⟩)
structure PpA (H:Hp)(P:Addr)(r:Rw)(c p:Nat)(g:gOp):Prop where
 ex:∃(T:Addr)(e:Key)(ks:List Key),iz H P T e ks/\r.es[p]?=some e/\Mks g (eD c (r.es.take c) p) ks
theorem PpA.kr {H H':Hp}{f b P:Addr}{g g':gOp}{n c p:Nat}{rs:List Rw}{r s:Rw}(x:PpA H P r c p g)(w:Rws A H f b g n rs)(hs:s∈rs)(k:KR b rs H H')(sub:Sub g g'):PpA H' P r c p g':=by
 obtain⟨T,e,ks,pw,ge,mk⟩:=x.ex
 exact⟨T,e,ks,⟨w.keep hs k pw.hP (fun _ z=>nomatch z) (fun _ z=>nomatch z),w.keep hs k pw.hT (fun _ z=>nomatch z) (fun _ z=>nomatch z)⟩,ge,mk.mono sub⟩
theorem PpA.setL {H:Hp}{P M:Addr}{g:gOp}{c p:Nat}{r:Rw}{ys zs:List V}(x:PpA H P r c p g)(hM:H M=some (.lst ys)):PpA (upd H M (.lst zs)) P r c p g:=by
 obtain⟨T,e,ks,pw,ge,mk⟩:=x.ex
 exact⟨T,e,ks,⟨by rw[ao (aU pw.hP hM (fun z=>nomatch z))];exact pw.hP,by rw[ao (aU pw.hT hM (fun z=>nomatch z))];exact pw.hT⟩,ge,mk⟩
theorem Rws.setL {H:Hp}{f b M:Addr}{g:gOp}{n:Nat}{rs:List Rw}{ys zs:List V}(w:Rws A H f b g n rs)(hM:H M=some (.lst ys))(ne:∀r∈rs,r.L≠M):Rws A (upd H M (.lst zs)) f b g n rs:=⟨fun r hr=>(w.rx r hr).keepL (fun z o nz e=>by rw[ao nz];exact e) hM (ne r hr),w.nd⟩
theorem Rws.L1 {H:Hp}{f b M:Addr}{g:gOp}{n:Nat}{rs:List Rw}(w:Rws A H f b g n rs)(hM:H M=none):∀r∈rs,r.L≠M:=fun r hr=>by
 obtain⟨_,r1⟩:=w.rx r hr
 exact ax r1.r.hl hM
theorem KR.setL {H H':Hp}{b M:Addr}{rs:List Rw}{o:HO}(k:KR b rs H H')(hM:H M=none):KR b rs H (upd H' M o):=fun z o n1 n2 e=>by
 rw[ao (ax e hM)];exact k z o n1 n2 e
structure HdA (H:Hp)(hd:Addr)(r:Rw)(c:Nat)(v:Key)(g:gOp):Prop where
 hh:H hd=some (.tup [.int (c:Int),kV v])
 ok:okP v=true
 c2:c<=r.es.length
 eq:∀h,Ext g h->v=h (dh h (r.es.take c))
theorem kU {H:Hp}{f b hd P:Addr}{g:gOp}{N c p k:Nat}{rs:List Rw}{r:Rw}{v:Key}{Q:VK}(w:Rws A H f b g N rs)(hr:rs[k]?=some r)(x:PpA H P r c p g)(y:HdA H hd r c v g)(pc:p<c)(hN:N+200<=39000)
  (q:∀(e:Key)(g':gOp)(H':Hp),r.es[p]?=some e->aR b H H'->Rws A H' f b g' (N+131) rs->Sub g g'->Q (kV e) H'):kI K A [.ref f,.ref hd,.int (p:Int),.ref P] H Q E0:=by
 have mr:=Lu hr
 obtain⟨T,e,ks,pw,ge,mk⟩:=x.ex
 obtain⟨kvs,rr⟩:=w.rx r mr
 have l60:=rr.r.le
 have c2:=y.c2
 have tl:(r.es.take c).length=c:=by rw[Ls];omega
 refine⟨f,b,hd,P,T,r.es.take c,ks,p,e,v,g,N,rfl,⟨rr.s,by omega,by omega,by omega,by rw[ME pc];exact ge,rr.r.en e (Lu ge),pw,by rw[tl];exact mk⟩,by rw[tl];exact y.hh,y.ok,y.eq,fun g' H' kb s' sub=>?_⟩
 exact q e g' H' ge kb (w.call kb s' sub (by omega)) sub
theorem ow {H:Hp}{f b W hd:Addr}{g:gOp}{N c p k:Nat}{rs:List Rw}{r:Rw}{v:Key}{Q:VK}(w:Rws A H f b g N rs)(hW:H W=some (.lst (rs.map fun r=>.ref r.x)))(hr:rs[k]?=some r)(y:HdA H hd r c v g)(pc:p<c)(hN:N+200<=39000)
  (q:∀(P:Addr)(g':gOp)(H':Hp),KR b rs H H'->Rws A H' f b g' (N+200) rs->Sub g g'->PpA H' P r c p g'->Q (.ref P) H'):
  bq A.c_Row "place_paper" (mB K A) (fun _=>E0) (tOp (aE K) (aa 2) (aa 0)) (af (tOp (aE K) (aa 1) (tC (.int 0))) (af (aa 3) (am))) [some (.int (k:Int)),some (.ref hd),some (.ref W),some (.int (p:Int))] H Q:=by
 have mr:=Lu hr
 obtain⟨kvs,rr⟩:=w.rx r mr
 obtain⟨dx,hx⟩:=rr.r.ob
 refine ixL (j:=k) hW rfl (by rw[LO,hr];rfl) ⟨r.x,dx,_,rfl,hx,rfl,ixT (j:=0) y.hh rfl rfl ?_⟩
 refine⟨r.x,f,r.L,r.D,b,r.es,kvs,g,N,c,p,rfl,rr,y.c2,pc,hN,fun P T e ks kvs' g' H1 k1 r1 sub1 hP ge mk=>?_⟩
 exact q P g' H1 (KR.k2 mr k1) (w.op hr k1 ⟨_,r1⟩ sub1 (by omega)) sub1 ⟨T,e,ks,hP,ge,mk⟩
theorem HdA.kr {H H':Hp}{f b hd:Addr}{g g':gOp}{n c:Nat}{rs:List Rw}{r s:Rw}{v:Key}(x:HdA H hd r c v g)(w:Rws A H f b g n rs)(hs:s∈rs)(k:KR b rs H H')(sub:Sub g g'):HdA H' hd r c v g':=⟨w.keep hs k x.hh (fun _ z=>nomatch z) (fun _ z=>nomatch z),x.ok,x.c2,fun h eh=>x.eq h (Ext.of sub eh)⟩
def AgI (H:Hp)(r s:Rw)(c d p:Nat)(g:gOp):Nat->List V->Prop
 |0,ys=>ys=[]
 |1,ys=>∃P,ys=[.ref P]/\PpA H P r c p g
 |_,ys=>∃P P2,ys=[.ref P,.ref P2]/\PpA H P r c p g/\PpA H P2 s d p g
theorem Fe (K:pv)(A:Adr):Ln (pe K A) 4:=by rintro vs H Q E ⟨f,b,o1,o2,W,rs,g,N,k1,c1,k2,c2,es,fs,rfl,_⟩;rfl
theorem FO (T:Txt K mg A):Rd (pe K A) (JW K A) ["_law_stamper_here","_law_one","_law_other","_law_rows","_law_count","_law_place","_law_papers","_law_entry"]:=by
 intro vs H Q E h
 obtain⟨f,b,o1,o2,W,rs,g,N,k1,c1,k2,c2,es,fs,rfl,w,hW,l10,x1,x2,le,pre,hN,q⟩:=h
 obtain⟨h1,v1,r,a1,a2,a3,a4,a5,a6,a7⟩:=x1.ex
 obtain⟨h2,v2,s,b1,b2,b3,b4,b5,b6,b7⟩:=x2.ex
 have mr:=Lu a4
 have lr:=l10 r mr
 have y1:HdA H h1 r c1 v1 g:=⟨a2,a3,a5,fun h eh=>by rw[a6];exact a7 h eh⟩
 have y2:HdA H h2 s c2 v2 g:=⟨b2,b3,b5,fun h eh=>by rw[b6];exact b7 h eh⟩
 have same:∀p,p<c1->r.es[p]? =s.es[p]? :=fun p hp=>by
  have e1:(r.es.take c1)[p]? =r.es[p]? :=ME hp
  have e2:(s.es.take c2)[p]? =s.es[p]? :=ME (by omega)
  rw[<-e1,<-e2,a6,b6,<-pre,ME hp]
 refine ixT (j:=1) a1 rfl rfl (ixT (j:=0) a2 rfl rfl ⟨_,rfl,by omega,by omega,?_⟩)
 rw[Nu]
 refine jY (lo:=0) (n:=c1) (fun i σ H'=>∃(x5 x6 x7:Option V)(g':List Key->Option Key),σ=[some (.ref f),some (.ref o1),some (.ref o2),some (.ref W),some (.int (c1:Int)),x5,x6,x7]/\KR b rs H H'/\Rws A H' f b g' (N+700*i) rs/\Sub g g')
  ⟨none,none,none,g,rfl,KR.rfl',w,Sub.rfl'⟩ ?_ ?_
 ·rintro i σ H' hi ⟨x5,x6,x7,g',rfl,kk,w',sub⟩
  have ez:(0:Int)+(i:Int)=((i:Nat):Int):=by omega
  rw[ez]
  have kp:∀{H2:Hp}{z:Addr}{o:HO},KR b rs H H2->H z=some o->(∀y,o≠.own y)->(∀kvs,o≠.dT kvs)->H2 z=some o:=fun k e n1 n2=>w.keep mr k e n1 n2
  refine⟨aH (show 2<=1000000 by decide),fun Lp hLp=>?_⟩
  have S0:aw H' (upd H' Lp (.lst [.ref o1,.ref o2])):=aw.upd hLp
  have hL0:upd H' Lp (.lst [.ref o1,.ref o2]) Lp=some (.lst [.ref o1,.ref o2]):=ak
  generalize upd H' Lp (.lst [.ref o1,.ref o2])=H0 at S0 hL0
  have w0:=w'.same S0 (gV _)
  have kk0:=kk.trans (KR.same (b:=b) (rs:=rs) S0)
  refine⟨Lp,rfl,.inl ⟨⟨_,SqL.of hL0⟩,fun D hD=>?_⟩⟩
  have nL:=w0.L1 hD
  refine tM (da.list (xs:=[.ref o1,.ref o2]) .non) (fun j ys H2=>∃g2,H2 D=some (.lst ys)/\KR b rs H0 H2/\Rws A H2 f b g2 (N+700*i+200*j) rs/\Sub g' g2/\AgI H2 r s c1 c2 i g2 j ys)
   (fun j ys H2 _ hx=>by obtain⟨_,_,k2,_⟩:=hx;exact SqL.of (w0.keep mr k2 hL0 (fun _ z=>nomatch z) (fun _ z=>nomatch z))) ⟨g',ak,KR.same (aw.upd hD),w0.same (aw.upd hD) (gV _),Sub.rfl',rfl⟩ (fun j ys H2 hj hx=>?_) (fun ys H2 hx=>?_)
  ·obtain⟨g2,e1,kd,w2,sub2,ai⟩:=hx
   have kk2:=kk0.trans kd
   have subs:=sub.trans sub2
   match j,hj,ai with
   |0,hj,ai=>
    have ai:ys=[]:=ai
    subst ai
    refine⟨o1,_,_,rfl,SqT.of (kp kk2 a1 (fun _ z=>nomatch z) (fun _ z=>nomatch z)),jZ (ow w2 (kp kk2 hW (fun _ z=>nomatch z) (fun _ z=>nomatch z)) a4 (y1.kr w mr kk2 subs) hi (by omega) fun P g3 H3 k3 w3 sub3 p3=>?_)⟩
    have e3:=w2.keep mr k3 e1 (fun _ z=>nomatch z) (fun _ z=>nomatch z)
    exact⟨e3,br (by simp),CWd.next hj ⟨g3,ak,(kd.trans k3).setL hD,w3.setL e3 nL,sub2.trans sub3,P,rfl,p3.setL e3⟩⟩
   |1,hj,ai=>
    obtain⟨P0,ey,p0⟩:=ai
    subst ey
    refine⟨o2,_,_,rfl,SqT.of (kp kk2 b1 (fun _ z=>nomatch z) (fun _ z=>nomatch z)),jZ (ow w2 (kp kk2 hW (fun _ z=>nomatch z) (fun _ z=>nomatch z)) b4 (y2.kr w mr kk2 subs) (by omega) (by omega) fun P g3 H3 k3 w3 sub3 p3=>?_)⟩
    have e3:=w2.keep mr k3 e1 (fun _ z=>nomatch z) (fun _ z=>nomatch z)
    exact⟨e3,br (by simp),CWd.next hj ⟨g3,ak,(kd.trans k3).setL hD,w3.setL e3 nL,sub2.trans sub3,P0,P,rfl,(p0.kr w2 mr k3 sub3).setL e3,p3.setL e3⟩⟩
   |j+2,hj,_=>exact absurd hj (by show ¬_<2;omega)
  ·obtain⟨g2,e1,kd,w2,sub2,P,P2,ey,p1,p2⟩:=hx
   have w2:Rws A H2 f b g2 (N+700*i+400) rs:=w2
   subst ey
   have kk2:=kk0.trans kd
   have subs:=sub.trans sub2
   refine ixT (j:=1) (kp kk2 a1 (fun _ z=>nomatch z) (fun _ z=>nomatch z)) rfl rfl (ixL (j:=0) e1 rfl rfl ?_)
   dsimp only[am]
   refine kU w2 a4 p1 (y1.kr w mr kk2 subs) hi (by omega) fun e g3 H3 ge kb3 w3 sub3=>?_
   have k3:KR b rs H2 H3:=KR.kb kb3
   have kk3:=kk2.trans k3
   have subs3:=subs.trans sub3
   refine ixT (j:=1) (kp kk3 b1 (fun _ z=>nomatch z) (fun _ z=>nomatch z)) rfl rfl (ixL (j:=1) (w2.keep mr k3 e1 (fun _ z=>nomatch z) (fun _ z=>nomatch z)) rfl rfl ?_)
   dsimp only[am]
   refine kU w3 b4 (p2.kr w2 mr k3 sub3) (y2.kr w mr kk3 subs3) (by omega) (by omega) fun e2 g4 H4 ge2 kb4 w4 sub4=>?_
   have ee:e2=e:=by
    rw[<-same i hi,ge]at ge2
    exact(LR ge2).symm
   subst ee
   refine rD (Sel.f ?_)
   exact⟨_,_,_,g4,rfl,kk3.trans (KR.kb kb4),w4.same aw.rfl' (by omega),subs3.trans sub4⟩
 ·rintro σ H' ⟨x5,x6,x7,g',rfl,_⟩
  exact q H'
def tpF (h:List Key->Key):List Int->List Key->Key×Key
 |[],ks=>(ks.getD 0 (.inl 0),ks.getD 0 (.inl 0))
 |t::r,ks=>if t=1 then(h [.inr "joint",ks.getD 0 (.inl 0),(tpF h r ks.tail).1],h [.inr "joint",ks.getD 0 (.inl 0),(tpF h r ks.tail).2])
  else(h [.inr "joint",(tpF h r ks.dropLast).1,ks.getD (ks.length- 1) (.inl 0)],(tpF h r ks.dropLast).2)
theorem mR:∀(r:List Int)(lo hi:Nat)(k:Key)(ks:List Key),lo+r.length+1=hi->dl r (lo+1) (hi+1) (k::ks)=dl r lo hi ks
 |[],lo,hi,k,ks,_=>rfl
 |t::r,lo,hi,k,ks,h=>by
  rw[LU]at h
  obtain⟨j,rfl⟩:∃j,hi=j+1:=⟨hi- 1,by omega⟩
  rw[dl,dl]
  by_cases ht:t=1
  ·rw[if_pos ht,if_pos ht,mR r (lo+1) (j+1) k ks (by omega)];rfl
  ·rw[if_neg ht,if_neg ht]
   show(k::ks)[j+1]? ::dl r (lo+1) (j+1) (k::ks)=ks[j]? ::dl r lo j ks
   rw[mR r lo j k ks (by omega)];rfl
theorem nk:∀(r:List Int)(lo hi m:Nat)(ks:List Key),lo+r.length+1=hi->hi<=m->dl r lo hi (ks.take m)=dl r lo hi ks
 |[],lo,hi,m,ks,h,hm=>by
  show[(ks.take m)[lo]?]=[ks[lo]?]
  rw[ME (by simp at h;omega)]
 |t::r,lo,hi,m,ks,h,hm=>by
  rw[LU]at h
  rw[dl,dl,nk r (lo+1) hi m ks (by omega) hm,nk r lo (hi- 1) m ks (by omega) (by omega),ME (by omega),ME (by omega)]
theorem Ba {r:List Int}{k:Key}{ks:List Key}(h:ks.length=r.length+1):dz (1::r) (k::ks)=k::dz r ks:=by
 unfold dz
 rw[dl,if_pos rfl,LU,mR r 0 ks.length k ks (by omega)];rfl
theorem AJ {r:List Int}{ks:List Key}(h:ks.length=r.length+2):dz (0::r) ks=ks.getD (ks.length- 1) (.inl 0)::dz r ks.dropLast:=by
 unfold dz
 rw[dl,if_neg (by decide),Md,OW,List.dropLast_eq_take,nk r 0 (ks.length- 1) (ks.length- 1) ks (by omega) (gV _),LJ]
theorem qX {h:List Key->Key}{c:Int}{m:Key}{st l:List (Int×Key)}:∀{i:Nat},i<=st.length->ni h c m (st++l) i=ni h c m st i
 |0,_=>rfl
 |i+1,hi=>by
  show h (fX h c m (st++l) i)=h (fX h c m st i)
  rw[fU,fU,qX (by omega)]
  unfold cZ
  rw[Me (by omega)]
theorem qh {h:List Key->Key}{m:Key}{st l:List (Int×Key)}:∀{i:Nat},i<=st.length->dC h m (st++l) i=dC h m st i
 |0,_=>rfl
 |i+1,hi=>by
  rw[dC,dC,qh (by omega),Me (by omega)]
theorem uK {h:List Key->Key}{c:Int}:∀(ts:List Int)(ks:List Key),ks.length=ts.length+1->(∀t∈ts,t=0\/t=1)->tpF h ts ks=(ni h c (inM ts ks) (stG ts ks) ts.length,(dC h (inM ts ks) (stG ts ks) ts.length).2)
 |[],ks,hl,_=>by
  have e:inM [] ks=ks.getD 0 (.inl 0):=by
   unfold inM dz dl
   rw[LJ];rfl
  show(ks.getD 0 (.inl 0),ks.getD 0 (.inl 0))=(inM [] ks,inM [] ks)
  rw[e]
 |t::r,ks,hl,h01=>by
  rw[LU]at hl
  have hr:∀t∈r,t=0\/t=1:=fun t ht=>h01 t (Mc _ ht)
  have step:∀(x:Key)(ks':List Key),ks'.length=r.length+1->dz (t::r) ks=x::dz r ks'->(ni h c (inM (t::r) ks) (stG (t::r) ks) (r.length+1),(dC h (inM (t::r) ks) (stG (t::r) ks) (r.length+1)).2)=(h (jtT t (tpF h r ks').1 x),if t=1 then h (jtT t (tpF h r ks').2 x)else(tpF h r ks').2):=fun x ks' l' e=>by
   have em:inM (t::r) ks=inM r ks':=by unfold inM;rw[e];rfl
   have sl:(stG r ks').length=r.length:=jC (gP r ks')
   have es:stG (t::r) ks=stG r ks'++[(t,x)]:=by
    unfold stG stR
    rw[e,List.zip_cons_cons,Og]
   have g:(stG r ks'++[(t,x)])[r.length]? =some (t,x):=by rw[Mf (by omega),sl,Ow];rfl
   rw[uK (c:=c) r ks' l' hr,em,es]
   refine Uz ?_ ?_
   ·show h (fX h c _ (stG r ks'++[(t,x)]) r.length)=_
    rw[fU,qX (by omega)]
    unfold cZ
    rw[g]
   ·show(dC h _ (stG r ks'++[(t,x)]) (r.length+1)).2=_
    rw[dC,g,qh (by omega)]
    dsimp only
    split
    ·rfl
    ·rfl
  rcases h01 t Mm with rfl|rfl
  ·rw[LU,step (ks.getD (ks.length- 1) (.inl 0)) ks.dropLast (by rw[OW];omega) (AJ hl)];rfl
  ·match ks,hl with
   |k::ks,hl=>
    rw[LU]at hl
    rw[LU,step k ks (by omega) (Ba (by omega))];rfl
theorem ue {h:List Key->Key}{c el:Nat}{ks:List Key}(h1:1<=c)(hl:ks.length=(bp c el).length+1):yT h c el ks=[.inr "row",.inl (c:Int),(tpF h (bp c el) ks).1]:=by
 rw[qS h1,uK (c:=(c:Int)) (bp c el) ks hl (qj c c el),fU]
 have sl:(stG (bp c el) ks).length=(bp c el).length:=jC (gP _ ks)
 unfold cZ
 rw[List.getElem?_eq_none_iff.mpr (by omega)]
theorem zH {h:List Key->Key}{c el:Nat}{ks:List Key}(h1:1<=el)(hl:ks.length=(bp c el).length+1):oT h c el ks=[.inr "row",.inl (el:Int),(tpF h (bp c el) ks).2]:=by
 rw[uK (c:=(c:Int)) (bp c el) ks hl (qj c c el)]
 have sl:(stG (bp c el) ks).length=(bp c el).length:=jC (gP _ ks)
 unfold oT lL
 rw[if_neg (by omega),sl]
def dig (m:Nat):List Nat:=(Nat.toDigits 10 m).map Char.toNat
theorem qK {n:Int}(h0:0<=n):(((toString n:String):Str)).cps.toList=dig n.toNat:=by
 obtain⟨m,rfl⟩:=Mw h0
 exact Tu m
theorem sH (m:Nat):∀d∈dig m,48<=d/\d<=57:=fun d hd=>by
 obtain⟨ch,hch,e⟩:=MO.mp hd
 rw[<-e]
 exact digit_range (Ry (by decide) (by decide) hch)
theorem si (m:Nat):UQ (dig m)=m:=W.KIN.val_back m
theorem AA {m n:Nat}(h:dig m=dig n):m=n:=by rw[<-si m,h,si n]
theorem Aq (z:Str):z.length=z.cps.toList.length:=by rw[NQ];rfl
theorem AR {x y:Str}(h:x.cps.toList=y.cps.toList):x=y:=by
 cases x;cases y
 simp only[Str.mk.injEq]at h⊢
 exact Array.toList_inj.mp h
theorem fR (a b:Str):(a++b).cps.toList=a.cps.toList++b.cps.toList:=by
 rw[show(a++b).cps=a.cps++b.cps from rfl,Array.toList_append]
theorem vo {a b:List Nat}{c d:Nat}{t u:List Nat}(ha:∀x∈a,48<=x/\x<=57)(hb:∀x∈b,48<=x/\x<=57)(hc:c=58\/c=59)(hd:d=58\/d=59)(h:a++c::t=b++d::u):a=b/\c=d/\t=u:=by
 induction a generalizing b with
 |nil=>
  cases b with
  |nil=>exact⟨rfl,(MX h).1,(MX h).2⟩
  |cons y r=>
   have e:=(MX h).1
   have:=hb y Mm
   omega
 |cons x r ih=>
  cases b with
  |nil=>
   have e:=(MX h).1
   have:=ha x Mm
   omega
  |cons y r'=>
   obtain⟨e1,e2⟩:=MX h
   obtain⟨i1,i2,i3⟩:=ih (fun z hz=>ha z (Mc _ hz)) (fun z hz=>hb z (Mc _ hz)) e2
   exact⟨by rw[e1,i1],i2,i3⟩
theorem jt (v:Key)(h:okP v=true):∃(m c:Nat)(w:List Nat),(cT v).cps.toList=dig m++c::w/\((c=59/\w=[]/\v=.inl (m:Int))\/(c=58/\m=w.length/\v=.inr ⟨w.toArray⟩)):=by
 cases v with
 |inl i=>
  have h0:0<=i:=(of_decide_eq_true h).1
  refine⟨i.toNat,59,[],?_,.inl ⟨rfl,rfl,by rw[Int.toNat_of_nonneg h0]⟩⟩
  show(((toString i:String):Str)++((";":String):Str)).cps.toList=_
  rw[fR,qK h0];rfl
 |inr z=>
  refine⟨z.length,58,z.cps.toList,?_,.inr ⟨rfl,Aq z,rfl⟩⟩
  show(((toString (z.length:Int):String):Str)++((":":String):Str)++z).cps.toList=_
  rw[fR,fR,qK (by omega),Nu,MK];rfl
theorem vP {x y:Key}{t u:List Nat}(hx:okP x=true)(hy:okP y=true)(h:(cT x).cps.toList++t=(cT y).cps.toList++u):x=y/\t=u:=by
 obtain⟨m,c,w,e,hv⟩:=jt x hx
 obtain⟨m',c',w',e',hv'⟩:=jt y hy
 rw[e,e',MK,MK]at h
 obtain⟨h1,h2,h3⟩:=vo (sH m) (sH m') (by rcases hv with⟨q,_⟩|⟨q,_⟩;exact .inr q;exact .inl q) (by rcases hv' with⟨q,_⟩|⟨q,_⟩;exact .inr q;exact .inl q) h
 have hm:=AA h1
 subst hm h2
 rcases hv with⟨q1,q2,q3⟩|⟨q1,q2,q3⟩<;>rcases hv' with⟨r1,r2,r3⟩|⟨r1,r2,r3⟩
 ·subst q2 r2
  exact⟨q3.trans r3.symm,by simpa using h3⟩
 ·omega
 ·omega
 ·have hl:w.length=w'.length:=by omega
  obtain⟨a1,a2⟩:=List.append_inj h3 hl
  subst a1
  exact⟨q3.trans r3.symm,a2⟩
theorem oG {x:Key}(h:okP x=true):(cT x).cps.toList≠[]:=by
 obtain⟨m,c,w,e,_⟩:=jt x h
 rw[e];simp
theorem jM:∀{xs ys:List Key},xs.all okP=true->ys.all okP=true->bU xs=bU ys->xs=ys
 |[],[],_,_,_=>rfl
 |[],y::r,_,hy,h=>by
  rw[NS,Ms]at hy
  have e:=congrArg (fun s:Str=>s.cps.toList) h
  have e2:(bU (y::r)).cps.toList=(cT y).cps.toList++(bU r).cps.toList:=fR _ _
  have e:([]:List Nat)=(bU (y::r)).cps.toList:=e
  rw[e2]at e
  exact absurd (Sb.mp e.symm).1 (oG hy.1)
 |x::r,[],hx,_,h=>by
  rw[NS,Ms]at hx
  have e:=congrArg (fun s:Str=>s.cps.toList) h
  have e2:(bU (x::r)).cps.toList=(cT x).cps.toList++(bU r).cps.toList:=fR _ _
  have e:(bU (x::r)).cps.toList=([]:List Nat):=e
  rw[e2]at e
  exact absurd (Sb.mp e).1 (oG hx.1)
 |x::r,y::r',hx,hy,h=>by
  rw[NS,Ms]at hx hy
  have e:(cT x).cps.toList++(bU r).cps.toList=(cT y).cps.toList++(bU r').cps.toList:=by
   rw[<-fR,<-fR];exact congrArg (fun s:Str=>s.cps.toList) h
  obtain⟨h1,h2⟩:=vP hx.1 hy.1 e
  rw[h1,jM hx.2 hy.2 (AR h2)]
structure jh (h:List Key->Key):Prop where
 inj:∀k k',okT k=true->okT k'=true->h k=h k'->k=k'
 ok:∀k,okT k=true->szT k<=60000->okP (h k)=true/\szK (h k)<=szT k+62
 low:∀k i,h k=.inl i->i<10^58
theorem oi {g:List Key->Option Key}(num:∀k v,g k=some v->∃i,v=.inl i/\0<=i/\i<10^58)(inj:∀k k' v,g k=some v->g k'=some v->k=k'):∃h:List Key->Key,Ext g h/\jh h:=by
 have p60:(10:Int)^58<10^60:=by decide+kernel
 refine⟨fun k=>(g k).getD (.inr (bU k)),fun k v e=>by show(g k).getD _=v;rw[e];rfl,⟨fun k k' ok ok' e=>?_,fun k ok sz=>?_,fun k i e=>?_⟩⟩
 ·have e:(g k).getD (.inr (bU k))=(g k').getD (.inr (bU k')):=e
  cases h1:g k with
  |none=>
   cases h2:g k' with
   |none=>rw[h1,h2]at e;exact jM (dn ok) (dn ok') (RU e)
   |some v=>obtain⟨i,rfl,_⟩:=num _ _ h2;rw[h1,h2]at e;cases e
  |some u=>
   cases h2:g k' with
   |none=>obtain⟨i,rfl,_⟩:=num _ _ h1;rw[h1,h2]at e;cases e
   |some v=>
    rw[h1,h2]at e
    have e:u=v:=e
    subst e
    exact inj k k' u h1 h2
 ·show okP ((g k).getD (.inr (bU k)))=true/\szK ((g k).getD (.inr (bU k)))<=_
  cases h1:g k with
  |none=>
   have l:=ie (dn ok)
   refine⟨Lv.mpr ⟨iu (dn ok),decide_eq_true (by omega)⟩,?_⟩
   show(bU k).length+62<=_;omega
  |some v=>
   obtain⟨i,rfl,i0,i1⟩:=num _ _ h1
   exact⟨decide_eq_true ⟨i0,by omega⟩,by show 62<=_;omega⟩
 ·have e:(g k).getD (.inr (bU k))=.inl i:=e
  cases h1:g k with
  |none=>rw[h1]at e;cases e
  |some v=>
   obtain⟨j,rfl,_,j1⟩:=num _ _ h1
   rw[h1]at e
   have e:(Oe j:Key)=.inl i:=e
   cases e;exact j1
theorem Stp.sure {H:Hp}{f b:Addr}{g:List Key->Option Key}{n:Nat}(s:Stp A H f b g n)(hn:n<=45000):∃h:List Key->Key,Ext g h/\jh h:=by
 have p58:(50000000:Int)<10^58:=by decide+kernel
 have at':∀{a c:Int}{kvs:List (List Key×Key)},1<=a->a<1000->0<=c->c<=5->Lin a c kvs->kvs.length<=n->∀k v,cf kvs k=some v->∃i,v=.inl i/\0<=i/\i<10^58:=by
  intro a c kvs a1 a2 c1 c2 st hl k v e
  obtain⟨i,hi⟩:=nC e
  have li:=(Lq.mp hi).1
  have h1:a*(i:Int)<=1000*45000:=UC (by omega) (by omega) (by omega) (by decide)
  have h2:0<=a*(i:Int):=UB (by omega) (by omega)
  exact⟨_,st i _ hi,by omega,by omega⟩
 cases s with
 |wri hc hb hg=>
  subst hg
  refine⟨fun k=>.inr (bU k),fun k v e=>LR e,⟨fun k k' ok ok' e=>jM (dn ok) (dn ok') (RU e),fun k ok sz=>?_,fun k i e=>by cases e⟩⟩
  have l:=ie (dn ok)
  exact⟨Lv.mpr ⟨iu (dn ok),decide_eq_true (by omega)⟩,by show(bU k).length+62<=_;omega⟩
 |cnt q x kvs hc num hl hs st hg=>
  subst hg
  exact oi (at' (by decide) (by decide) (by decide) (by decide) st hl) fun k k' v e e'=>st.inj (by decide) e e'
 |sur q0 q1 j j0 j1 kvs hc hb hl hs st hg=>
  subst hg
  exact oi (at' j0 j1 (by decide) (by decide) st hl) fun k k' v e e'=>st.inj j0 e e'
theorem vd {n d:Nat}(h2:2<=n)(h0:aj n<d)(h1:d<=n):aj d=aj n:=by
 have t:=rk h2
 have e:d=2^Qh (n- 1)+(d- aj n):=by unfold aj at h0⊢;omega
 rw[e,wX (by omega) (by unfold aj at t h0⊢;omega)];rfl
section
variable {h:List Key->Key}
theorem rA (S:jh h):∀(n:Nat)(s:List Key),s.length<=n->s.length<=10->(∀e∈s,enK e)->okT (bh h s)=true/\szT (bh h s)+62<=szB s.length:=by
 intro n
 induction n with
 |zero=>
  intro s h1 _ _
  rw[Ml (l:=s) (by omega)]
  exact⟨je,by rw[oF,sz1,szW.1];decide⟩
 |succ n ih=>
  intro s h1 h10 en
  match s,h1,h10,en with
  |[],_,_,_=>exact⟨je,by rw[oF,sz1,szW.1];decide⟩
  |[e],_,_,en=>
   have ee:=en e Mm
   exact⟨jS ee.1,by rw[jK,sz2,szW.2.1];have:=ee.2;show _<=200;omega⟩
  |a::b::r,h1,h10,en=>
   have hl:2<=(a::b::r).length:=by simp
   generalize a::b::r=s at h1 h10 en hl
   obtain⟨g1,g2⟩:=bE hl
   have tl:(s.take (aj s.length)).length=aj s.length:=by rw[Ls];omega
   have dl:(s.drop (aj s.length)).length=s.length- aj s.length:=Lz
   obtain⟨o1,z1⟩:=ih (s.take (aj s.length)) (by omega) (by omega) fun e he=>en e (Mv he)
   obtain⟨o2,z2⟩:=ih (s.drop (aj s.length)) (by omega) (by omega) fun e he=>en e (Oh he)
   rw[tl]at z1
   rw[dl]at z2
   have b1:szB (aj s.length)<=3800:=by unfold szB;omega
   have b2:szB (s.length- aj s.length)<=3800:=by unfold szB;omega
   obtain⟨p1,q1⟩:=S.ok _ o1 (by omega)
   obtain⟨p2,q2⟩:=S.ok _ o2 (by omega)
   rw[dm h hl]
   refine⟨cN p1 p2,?_⟩
   have:=AH (a:=aj s.length) (c:=s.length- aj s.length) (x:=h (bh h (s.take (aj s.length)))) (y:=h (bh h (s.drop (aj s.length)))) g1 (by omega) (by omega) (by omega)
   rw[show aj s.length+(s.length- aj s.length)=s.length by omega]at this
   exact this
theorem iP (S:jh h){s:List Key}(l:s.length<=10)(en:∀e∈s,enK e):okP (h (bh h s))=true/\szK (h (bh h s))<=szB s.length:=by
 obtain⟨o,z⟩:=rA S s.length s (gV _) l en
 have b:szB s.length<=3800:=by unfold szB;omega
 obtain⟨p,q⟩:=S.ok _ o (by omega)
 exact⟨p,by omega⟩
theorem yi (S:jh h):∀(n:Nat)(a b:List Key),a.length<=n->a.length=b.length->a.length<=10->(∀e∈a,enK e)->(∀e∈b,enK e)->h (bh h a)=h (bh h b)->a=b:=by
 intro n
 induction n with
 |zero=>
  intro a b h1 h2 _ _ _ _
  rw[Ml (l:=a) (by omega),Ml (l:=b) (by omega)]
 |succ n ih=>
  intro a b h1 h2 h10 ea eb e
  have et:=S.inj _ _ (rA S _ a (gV _) h10 ea).1 (rA S _ b (gV _) (by omega) eb).1 e
  by_cases hl:2<=a.length
  ·obtain⟨g1,g2⟩:=bE hl
   rw[dm h hl,dm h (es:=b) (by omega)]at et
   injection et with _ et
   injection et with e1 et
   injection et with e2 _
   have t1:(a.take (aj a.length)).length=aj a.length:=by rw[Ls];omega
   have t2:(b.take (aj b.length)).length=aj a.length:=by rw[Ls,<-h2];omega
   have d1:(a.drop (aj a.length)).length=a.length- aj a.length:=Lz
   have d2:(b.drop (aj b.length)).length=a.length- aj a.length:=by rw[Lz,<-h2]
   have r1:=ih _ _ (by omega) (t1.trans t2.symm) (by omega) (fun e he=>ea e (Mv he)) (fun e he=>eb e (Mv he)) e1
   have r2:=ih _ _ (by omega) (d1.trans d2.symm) (by omega) (fun e he=>ea e (Oh he)) (fun e he=>eb e (Oh he)) e2
   rw[<-Sh (aj a.length) a,r1,r2,Sh]
  ·match a,b,h2,hl,et with
   |[],[],_,_,_=>rfl
   |[x],[y],_,_,et=>
    rw[jK,jK]at et
    have et:x=y:=by simpa using et
    rw[et]
   |_::_::_,_,_,hl,_=>exact absurd (by simp) hl
   |[],_::_,h2,_,_=>simp at h2
   |[_],[],h2,_,_=>simp at h2
   |[_],_::_::_,h2,_,_=>simp at h2
theorem sE {ks:List Key}(n:1<=ks.length):ks=ks.dropLast++[ks.getD (ks.length- 1) (.inl 0)]:=by
 have hn:ks≠[]:=fun z=>by subst z;simp at n
 have e:=List.dropLast_concat_getLast hn
 have g:ks.getD (ks.length- 1) (.inl 0)=ks.getLast hn:=by
  rw[LJ,Gt (by omega),List.getLast_eq_getElem];rfl
 rw[g];exact e.symm
theorem jb {ks:List Key}(n:1<=ks.length):ks=ks.getD 0 (.inl 0)::ks.tail:=by
 cases ks with
 |nil=>simp at n
 |cons a r=>rfl
theorem sX (S:jh h):∀(ts:List Int)(ks:List Key),ts.length<=10->ks.length=ts.length+1->(∀x∈ks,mkK x)->okP (tpF h ts ks).1=true/\szK (tpF h ts ks).1<=4200*ts.length+4000:=by
 intro ts
 induction ts with
 |nil=>
  intro ks _ hl mk
  have:=jb (ks:=ks) (by simp at hl;omega)
  have m:=mk (ks.getD 0 (.inl 0)) (by rw[this];exact Mm)
  exact⟨m.1,by show szK (ks.getD 0 (.inl 0))<=_;have:=m.2;omega⟩
 |cons t r ih=>
  intro ks h10 hl mk
  rw[LU]at hl h10
  rw[tpF]
  split
  ·have e:=jb (ks:=ks) (by omega)
   have m:=mk (ks.getD 0 (.inl 0)) (by rw[e];exact Mm)
   obtain⟨o,z⟩:=ih ks.tail (by omega) (by rw[PB];omega) fun x hx=>mk x (SA hx)
   have sz:szT [.inr "joint",ks.getD 0 (.inl 0),(tpF h r ks.tail).1]=67+szK (ks.getD 0 (.inl 0))+szK (tpF h r ks.tail).1:=by rw[sz3,szW.2.2.1];omega
   have m2:=m.2
   obtain⟨p,q⟩:=S.ok _ (cN m.1 o) (by rw[sz];omega)
   refine⟨p,?_⟩
   rw[sz]at q;rw[LU];show szK (h _)<=_;omega
  ·have e:=sE (ks:=ks) (by omega)
   have m:=mk (ks.getD (ks.length- 1) (.inl 0)) (by rw[e];simp)
   obtain⟨o,z⟩:=ih ks.dropLast (by omega) (by rw[OW];omega) fun x hx=>mk x (by rw[e];exact Mr.mpr (.inl hx))
   have sz:szT [.inr "joint",(tpF h r ks.dropLast).1,ks.getD (ks.length- 1) (.inl 0)]=67+szK (tpF h r ks.dropLast).1+szK (ks.getD (ks.length- 1) (.inl 0)):=by rw[sz3,szW.2.2.1];omega
   have m2:=m.2
   obtain⟨p,q⟩:=S.ok _ (cN o m.1) (by rw[sz];omega)
   refine⟨p,?_⟩
   rw[sz]at q;rw[LU];show szK (h _)<=_;omega
end
section
variable {h:List Key->Key}
theorem vw {r:List Int}{ks:List Key}:tpF h (0::r) ks=(h [.inr "joint",(tpF h r ks.dropLast).1,ks.getD (ks.length- 1) (.inl 0)],(tpF h r ks.dropLast).2):=by rw[tpF,if_neg (by decide)]
theorem vQ {r:List Int}{ks:List Key}:tpF h (1::r) ks=(h [.inr "joint",ks.getD 0 (.inl 0),(tpF h r ks.tail).1],h [.inr "joint",ks.getD 0 (.inl 0),(tpF h r ks.tail).2]):=by rw[tpF,if_pos rfl]
theorem Dw (S:jh h):∀(n:Nat)(s:List Key)(e:Nat)(ks:List Key),s.length<=n->s.length<=10->(∀x∈s,enK x)->1<=e->e<=s.length->ks.length=(bp s.length e).length+1->(∀x∈ks,mkK x)->(tpF h (bp s.length e) ks).1=h (bh h s)->ks=(gr s e).map fun t=>h (bh h t):=by
 intro n
 induction n with
 |zero=>intro s e ks h1 _ _ h2 h3;omega
 |succ n ih=>
  intro s e ks h1 h10 en h2 h3 hl mk eq
  by_cases ee:s.length<=e
  ·have et:bp s.length e=[]:=iO (.inr ee)
   rw[gX (.inr ee)]
   rw[et]at eq hl
   have c:=jb (ks:=ks) (by simp at hl;omega)
   have ht:ks.tail=[]:=Ml (by rw[PB];simp at hl;omega)
   rw[c,ht]
   show[ks.getD 0 (.inl 0)]=[h (bh h s)]
   rw[<-eq];rfl
  ·have hs2:2<=s.length:=by omega
   obtain⟨g1,g2⟩:=bE hs2
   have tl:(s.take (aj s.length)).length=aj s.length:=by rw[Ls];omega
   have dl:(s.drop (aj s.length)).length=s.length- aj s.length:=Lz
   have ent:∀x∈s.take (aj s.length),enK x:=fun x hx=>en x (Mv hx)
   have end':∀x∈s.drop (aj s.length),enK x:=fun x hx=>en x (Oh hx)
   have o1:=iP S (s:=s.take (aj s.length)) (by omega) ent
   have o2:=iP S (s:=s.drop (aj s.length)) (by omega) end'
   have wl:(bp s.length e).length<=s.length:=jI _ _ _
   by_cases lo:e<=aj s.length
   ·have ew:bp s.length e=0::bp (aj s.length) e:=um (by omega) lo hs2
    rw[ew,LU]at hl wl
    rw[ew,vw]at eq
    have sn:=sE (ks:=ks) (by omega)
    have md:∀x∈ks.dropLast,mkK x:=fun x hx=>mk x (by rw[sn];exact Mr.mpr (.inl hx))
    have ml:=mk (ks.getD (ks.length- 1) (.inl 0)) (by rw[sn];simp)
    have ldl:ks.dropLast.length=(bp (aj s.length) e).length+1:=by rw[OW];omega
    have t1:=sX S (bp (aj s.length) e) ks.dropLast (by omega) ldl md
    have eq:h [.inr "joint",(tpF h (bp (aj s.length) e) ks.dropLast).1,ks.getD (ks.length- 1) (.inl 0)]=h (bh h s):=eq
    rw[dm h hs2]at eq
    have et:=S.inj _ _ (cN t1.1 ml.1) (cN o1.1 o2.1) eq
    injection et with _ et
    injection et with e1 et
    injection et with e2 _
    have r:=ih (s.take (aj s.length)) e ks.dropLast (by omega) (by omega) ent h2 (by omega) (by rw[tl];exact ldl) md (by rw[tl];exact e1)
    rw[pS (by omega) lo hs2,LL,<-r]
    show ks=ks.dropLast++[h (bh h (s.drop (aj s.length)))]
    rw[<-e2];exact sn
   ·have ew:bp s.length e=1::bp (s.length- aj s.length) (e- aj s.length):=uh (by omega) (by omega) hs2
    rw[ew,LU]at hl wl
    rw[ew,vQ]at eq
    have cn:=jb (ks:=ks) (by omega)
    have md:∀x∈ks.tail,mkK x:=fun x hx=>mk x (SA hx)
    have ml:=mk (ks.getD 0 (.inl 0)) (by rw[cn];exact Mm)
    have ldl:ks.tail.length=(bp (s.length- aj s.length) (e- aj s.length)).length+1:=by rw[PB];omega
    have t1:=sX S (bp (s.length- aj s.length) (e- aj s.length)) ks.tail (by omega) ldl md
    have eq:h [.inr "joint",ks.getD 0 (.inl 0),(tpF h (bp (s.length- aj s.length) (e- aj s.length)) ks.tail).1]=h (bh h s):=eq
    rw[dm h hs2]at eq
    have et:=S.inj _ _ (cN ml.1 t1.1) (cN o1.1 o2.1) eq
    injection et with _ et
    injection et with e1 et
    injection et with e2 _
    have r:=ih (s.drop (aj s.length)) (e- aj s.length) ks.tail (by omega) (by omega) end' (by omega) (by omega) (by rw[dl];exact ldl) md (by rw[dl];exact e2)
    rw[oY (by omega) (by omega) hs2,Md,<-r]
    show ks=h (bh h (s.take (aj s.length)))::ks.tail
    rw[<-e1];exact cn
theorem vJ:∀(n:Nat)(s:List Key)(e:Nat),s.length<=n->1<=e->e<=s.length->tpF h (bp s.length e) ((gr s e).map fun t=>h (bh h t))=(h (bh h s),h (bh h (s.take e)))/\((gr s e).map fun t=>h (bh h t)).length=(bp s.length e).length+1:=by
 intro n
 induction n with
 |zero=>intro s e h1 h2 h3;omega
 |succ n ih=>
  intro s e h1 h2 h3
  by_cases ee:s.length<=e
  ·have et:bp s.length e=[]:=iO (.inr ee)
   rw[gX (.inr ee),et,Sa ee]
   exact⟨rfl,rfl⟩
  ·have hs2:2<=s.length:=by omega
   obtain⟨g1,g2⟩:=bE hs2
   have tl:(s.take (aj s.length)).length=aj s.length:=by rw[Ls];omega
   have dl:(s.drop (aj s.length)).length=s.length- aj s.length:=Lz
   by_cases lo:e<=aj s.length
   ·have ew:bp s.length e=0::bp (aj s.length) e:=um (by omega) lo hs2
    obtain⟨r1,r2⟩:=ih (s.take (aj s.length)) e (by omega) h2 (by omega)
    rw[tl]at r1 r2
    rw[pS (by omega) lo hs2,LL,ew]
    refine⟨?_,by rw[Lm,r2];rfl⟩
    rw[vw]
    have e1:((gr (s.take (aj s.length)) e).map (fun t=>h (bh h t))++[s.drop (aj s.length)].map fun t=>h (bh h t)).dropLast=(gr (s.take (aj s.length)) e).map fun t=>h (bh h t):=by
     show(_++[_]).dropLast=_
     rw[List.dropLast_concat]
    have e2:((gr (s.take (aj s.length)) e).map (fun t=>h (bh h t))++[s.drop (aj s.length)].map fun t=>h (bh h t)).getD (((gr (s.take (aj s.length)) e).map (fun t=>h (bh h t))++[s.drop (aj s.length)].map fun t=>h (bh h t)).length- 1) (.inl 0)=h (bh h (s.drop (aj s.length))):=by
     rw[LJ,Lm,Mf (by show _<=_+1- 1;omega)]
     show([h (bh h (s.drop (aj s.length)))][_+1- 1- _]?).getD _=_
     rw[Nat.add_sub_cancel,Ow];rfl
    rw[e1,e2,r1,NH,MT lo,dm h hs2]
   ·have ew:bp s.length e=1::bp (s.length- aj s.length) (e- aj s.length):=uh (by omega) (by omega) hs2
    obtain⟨r1,r2⟩:=ih (s.drop (aj s.length)) (e- aj s.length) (by omega) (by omega) (by omega)
    rw[dl]at r1 r2
    rw[oY (by omega) (by omega) hs2,Md,ew]
    refine⟨?_,by rw[LU,r2];rfl⟩
    rw[vQ]
    show(h [.inr "joint",h (bh h (s.take (aj s.length))),(tpF h _ ((gr (s.drop (aj s.length)) (e- aj s.length)).map fun t=>h (bh h t))).1],h [.inr "joint",h (bh h (s.take (aj s.length))),(tpF h _ ((gr (s.drop (aj s.length)) (e- aj s.length)).map fun t=>h (bh h t))).2])=_
    rw[r1]
    have tl2:(s.take e).length=e:=by rw[Ls];omega
    have hh:=vd hs2 (show aj s.length<e by omega) h3
    have ed:(s.take e).drop (aj (s.take e).length)=(s.drop (aj s.length)).take (e- aj s.length):=by rw[tl2,hh,Qn]
    have et:(s.take e).take (aj (s.take e).length)=s.take (aj s.length):=by rw[tl2,hh,NH,MT (by omega)]
    rw[dm h hs2,dm h (es:=s.take e) (by omega),et,ed]
end
section
variable {h:List Key->Key}
def jQ (h:List Key->Key)(es:List Key)(e:Nat):List Key:=(gm es e).map fun t=>h (bh h t)
theorem vt {es:List Key}{e:Nat}(l:es.length≠0):gm es e=gr es e:=if_neg l
theorem sf (S:jh h){c:Nat}{x y:Key}(c10:c<=1000)(ox:okP x=true)(oy:okP y=true)(e:h [.inr "row",.inl (c:Int),x]=h [.inr "row",.inl (c:Int),y]):x=y:=by
 have et:=S.inj _ _ (dO c10 ox) (dO c10 oy) e
 injection et with _ et
 injection et with _ et
 injection et with et _
theorem xy (S:jh h){es held ks:List Key}(l10:es.length<=10)(en:∀x∈es,enK x)(eh:∀x∈held,enK x)(le:held.length<=es.length)(hl:ks.length=pH es.length held.length)(mk:∀x∈ks,mkK x)
  (hy:h (yT h es.length held.length ks)=h (dh h es))(ho:h (oT h es.length held.length ks)=h (dh h held)):es.take held.length=held/\ks=jQ h es held.length:=by
 have oe:=iP S l10 en
 by_cases c0:es.length=0
 ·have e0:es=[]:=Ml c0
  have h0:held=[]:=Ml (by omega)
  subst e0 h0
  have:ks=[]:=Ml (by rw[hl];rfl)
  exact⟨rfl,by rw[this];rfl⟩
 have c1:1<=es.length:=by omega
 rw[gh c1]at hl
 unfold jQ
 rw[vt c0]
 have wl:(bp es.length held.length).length<=es.length:=jI _ _ _
 have t1:=sX S (bp es.length held.length) ks (by omega) hl mk
 rw[ue c1 hl]at hy
 have e1:=sf S (by omega) t1.1 oe.1 hy
 by_cases n0:held.length=0
 ·have h0:held=[]:=Ml n0
  subst h0
  refine⟨rfl,?_⟩
  have et:bp es.length 0=[]:=iO (.inl rfl)
  have e1:(tpF h (bp es.length 0) ks).1=h (bh h es):=e1
  have hl:ks.length=(bp es.length 0).length+1:=hl
  rw[et]at e1 hl
  show ks=(gr es 0).map _
  rw[gX (.inl rfl)]
  have c:=jb (ks:=ks) (by simp at hl;omega)
  have ht:ks.tail=[]:=Ml (by rw[PB];simp at hl;omega)
  rw[c,ht]
  show[ks.getD 0 (.inl 0)]=[h (bh h es)]
  rw[<-e1];rfl
 ·have n1:1<=held.length:=by omega
  have ek:=Dw S es.length es held.length ks (gV _) l10 en n1 le hl mk e1
  refine⟨?_,ek⟩
  rw[zH n1 hl,ek,(vJ es.length es held.length (gV _) n1 le).1]at ho
  have tl:(es.take held.length).length=held.length:=by rw[Ls];omega
  have ent:∀x∈es.take held.length,enK x:=fun x hx=>en x (Mv hx)
  have o1:=iP S (s:=es.take held.length) (by omega) ent
  have o2:=iP S (s:=held) (by omega) eh
  exact yi S _ _ _ (gV _) tl (by omega) ent eh (sf S (by omega) o1.1 o2.1 ho)
theorem yK {es:List Key}{n:Nat}(le:n<=es.length):yT h es.length n (jQ h es n)=dh h es/\oT h es.length n (jQ h es n)=dh h (es.take n)/\(jQ h es n).length=pH es.length n:=by
 have tl:(es.take n).length=n:=by rw[Ls];omega
 by_cases c0:es.length=0
 ·have e0:es=[]:=Ml c0
  have n0:n=0:=by omega
  subst e0 n0
  exact⟨rfl,rfl,rfl⟩
 have c1:1<=es.length:=by omega
 unfold jQ
 rw[vt c0,gh c1]
 by_cases n0:n=0
 ·subst n0
  have et:bp es.length 0=[]:=iO (.inl rfl)
  rw[gX (.inl rfl)]
  have hl:([es].map fun t=>h (bh h t)).length=(bp es.length 0).length+1:=by rw[et];rfl
  refine⟨?_,rfl,hl⟩
  rw[ue c1 hl,et];rfl
 ·have n1:1<=n:=by omega
  obtain⟨r1,r2⟩:=vJ (h:=h) es.length es n (gV _) n1 le
  refine⟨?_,?_,r2⟩
  ·rw[ue c1 r2,r1];rfl
  ·rw[zH n1 r2,r1];unfold dh;rw[tl]
theorem sJ {g:gOp}{es ks:List Key}{e:Nat}(m:Mks g (gm es e) ks)(eh:Ext g h):ks=jQ h es e:=by
 unfold jQ
 have key:∀{ss:List (List Key)}{ks:List Key},Mks g ss ks->ks=ss.map fun t=>h (bh h t):=by
  intro ss ks m
  induction m with
  |nil=>rfl
  |cons c _ ih=>rw[Md,<-ih,c.eq h eh]
 exact key m
end
section
variable {H:Hp}{f b:Addr}{g:gOp}{N:Nat}{es held ks:List Key}{v w:Key}{tp:Bool}
theorem wV (s:Stp A H f b g N)(hN:N<=45000)(ew:∀h,Ext g h->w=h (dh h es))(ev:∀h,Ext g h->v=h (dh h held))(le:held.length<=es.length)(pre:es.take held.length=held)(ht:tp=true)(mk:Mks g (gm es held.length) ks):¬Ref g held.length es.length v w tp ks:=by
 obtain⟨h,eh,S⟩:=s.sure hN
 obtain⟨g1,g2,g3⟩:=yK (h:=h) le
 have ek:=sJ mk eh
 rintro(r|r|r|r)
 ·omega
 ·unfold eI at r
  rw[ht,ek,g3,decide_eq_true rfl]at r;cases r
 ·exact r h eh (by rw[ek,g1,ew h eh])
 ·exact r h eh (by rw[ek,g2,pre,ev h eh])
theorem rN (s:Stp A H f b g N)(hN:N<=45000)(l10:es.length<=10)(en:∀x∈es,enK x)(eh:∀x∈held,enK x)(ew:∀h,Ext g h->w=h (dh h es))(ev:∀h,Ext g h->v=h (dh h held))(mks:∀x∈ks,mkK x)(le:held.length<=es.length)(hg:eI es.length held.length tp ks=true)(ac:∀h,Ext g h->h (yT h es.length held.length ks)=w/\h (oT h es.length held.length ks)=v):
  es.take held.length=held/\tp=true/\∀js,Mks g (gm es held.length) js->ks=js:=by
 obtain⟨h,ex,S⟩:=s.sure hN
 obtain⟨ht,hl⟩:=Lv.mp hg
 obtain⟨a1,a2⟩:=ac h ex
 obtain⟨p,e⟩:=xy S l10 en eh le (of_decide_eq_true hl) mks (by rw[a1,ew h ex]) (by rw[a2,ev h ex])
 exact⟨p,ht,fun js m=>by rw[e,sJ m ex]⟩
theorem Bd (s:Stp A H f b g N)(hN:N<=45000){c n:Nat}(ac:∀h,Ext g h->h (yT h c n ks)=w/\h (oT h c n ks)=v)(i:Int)(e:w=.inl i):i<10^58:=by
 obtain⟨h,ex,S⟩:=s.sure hN
 exact S.low _ i ((ac h ex).1.trans e)
theorem wU (s:Stp A H f b g N)(hN:N<=45000)(ew:∀h,Ext g h->w=h (dh h es))(i:Int)(e:w=.inl i):i<10^58:=by
 obtain⟨h,ex,S⟩:=s.sure hN
 exact S.low _ i ((ew h ex).symm.trans e)
end
theorem wd {H:Hp}{Q:VK}{a b:Addr}{k:List Key}(ha:H a=some (.tup (k.map kV)))(hb:H b=some (.tup (k.map kV)))(ok:∀x∈k,okP x=true)(q:Q (.bl false) H):ci K (.ref a) (.ref b) H Q:=by
 refine⟨_,_,qV ha,qV hb,eB (jw ok),eB (jw ok),JY _,?_⟩
 show Q (.bl (!PyData.eqvAll (k.map dj) (k.map dj))) H
 rw[iA,decide_eq_true rfl];exact q
theorem Bx {H:Hp}{Q:VK}{a b:Addr}(ha:H a=some (.lst [.str "refused",.bl true]))(hb:H b=some (.lst [.str "refused",.bl true]))(q:Q (.bl false) H):ci K (.ref a) (.ref b) H Q:=by
 have l:(PyData.list [.str "refused",.bool true]).canLay0=true:=by
  show((UP "refused").canLay0&&(true&&true))=true
  have l:(UP "refused").canLay0=true:=va (by decide+kernel)
  rw[l];rfl
 refine⟨.list [.str "refused",.bool true],.list [.str "refused",.bool true],.lst (SqL.of ha) (.cons (.str _) (.cons (.bl _) .nil)),.lst (SqL.of hb) (.cons (.str _) (.cons (.bl _) .nil)),l,l,?_,?_⟩
 ·simp[PyData.depth,NK]
 ·rw[PySem.SeqAt.eqv_refl _ l];exact q
theorem dI.setL {H:Hp}{x f L D M:Addr}{es:List Key}{kvs:List (List Key×Key)}{ys zs:List V}(r:dI A H x f L D es kvs)(hM:H M=some (.lst ys))(ne:L≠M):dI A (upd H M (.lst zs)) x f L D es kvs:=by
 obtain⟨⟨dx,hx⟩,hl,hd,en,le⟩:=r
 exact⟨⟨dx,by rw[ao (aU hx hM (fun z=>nomatch z))];exact hx⟩,by rw[ao ne];exact hl,by rw[ao (aU hd hM (fun z=>nomatch z))];exact hd,en,le⟩
theorem yN {σ:L2.St}{f E:Addr}{H:Hp}{Q:VK}(h0:σ[0]?=some (some (.ref E)))(h1:σ[1]?=some (some (.ref f)))(h:jA K A [.ref f,.ref E] H Q E0):aC (jA K A) (fun _=>E0) (af (aa 1) (af (aa 0) am)) σ H Q:=by
 dsimp only[aC,af,aa,am]
 rw[h1]
 dsimp only
 rw[h0];exact h
structure RwI (A:Adr)(H0 H:Hp)(f W:Addr)(ess:List (List Key))(i:Nat)(ys:List V)(rs:List Rw):Prop where
 len:rs.length=i
 ys:ys=rs.map fun r=>.ref r.x
 at':∀(j:Nat)(r:Rw),rs[j]?=some r->dI A H r.x f r.L r.D r.es []/\r.L≠W/\ess[j]?=some r.es
 nd:∀(i j:Nat)(r s:Rw),rs[i]?=some r->rs[j]?=some s->r.D=s.D->i=j
 own:i=0\/∃dx y,H dx=some (.own y)
 fr:∀(j:Nat)(r:Rw),rs[j]?=some r->H0 r.D=none
theorem vj {H:Hp}{σ:L2.St}{f B W:Addr}{Es:List Addr}{ess:List (List Key)}{Q:VK}(hσ:aV σ [1]=[some (.ref f)])(hB:H B=some (.lst (Es.map V.ref)))(l3:Es.length=3)(el:ess.length=3)(hE:∀(i:Nat)(E:Addr)(es:List Key),Es[i]?=some E->ess[i]?=some es->H E=some (.lst (es.map kV)))(en:∀es∈ess,(∀e∈es,enK e)/\es.length<=10)(hW:H W=none)
  (q:∀(rs:List Rw)(H':Hp),aw H H'->H' W=some (.lst (rs.map fun r=>.ref r.x))->RwI A H H' f W ess 3 (rs.map fun r=>.ref r.x) rs->Q (.ref W) H'):
  lX [1] (fun _ H Q=>Q true H) (aC (jA K A) (fun _=>E0) (af (aa 1) (af (aa 0) (am)))) σ W (Itl K B) H Q:=by
 have hlen:(Es.map V.ref).length=3:=by rw[Ll,l3]
 refine gK (da.list (xs:=Es.map V.ref) .non) (fun i ys H'=>∃rs,H' W=some (.lst ys)/\aw H H'/\RwI A H H' f W ess i ys rs)
  (fun i ys H' _ hx=>by obtain⟨_,_,S,_⟩:=hx;exact SqL.of (S _ _ hB)) ⟨[],ak,aw.upd hW,⟨rfl,rfl,(fun j r h=>by simp at h),(fun i j r s h=>by simp at h),.inl rfl,(fun j r h=>by simp at h)⟩⟩ (fun i ys H2 hi hx=>?_) (fun ys H2 hx=>?_)
 ·obtain⟨rs,e1,S,ri⟩:=hx
  have hi':i<3:=by rw[hlen]at hi;exact hi
  obtain⟨E,gE⟩:∃E,Es[i]?=some E:=⟨_,Gt (by omega)⟩
  obtain⟨es,ge⟩:∃es,ess[i]?=some es:=⟨_,Gt (by omega)⟩
  have hit:(Es.map V.ref).getD i .non=.ref E:=by rw[LJ,LO,gE];rfl
  obtain⟨en1,en2⟩:=en es (Lu ge)
  rw[hit,hσ]
  refine jZ (yN (E:=E) (f:=f) rfl rfl ⟨f,E,es,rfl,S _ _ (hE i E es gE ge),en1,by omega,fun x L D dx H3 S3 hL hD ho r3=>?_⟩)
  have e3:=S3 _ _ e1
  have yl:ys.length=i:=by rw[ri.ys,Ll,ri.len]
  have nL:L≠W:=Mh (ax e1 hL)
  refine⟨e3,br (by omega),CWd.next hi ⟨rs++[⟨x,L,D,es⟩],ak,fun z o e=>by rw[ao (ax e hW)];exact S3 _ _ (S _ _ e),⟨by rw[Lm,ri.len];rfl,by rw[LL,<-ri.ys];rfl,fun j r hj=>?_,fun j k r s hj hk hd=>?_,.inr ⟨dx,x,by rw[ao (aU ho e3 (fun z=>nomatch z))];exact ho⟩,fun j r hj=>?_⟩⟩⟩
  ·rcases Ox j rs.length with g|g
   ·rw[Me g]at hj
    obtain⟨a1,a2,a3⟩:=ri.at' j r hj
    exact⟨(a1.same S3).setL e3 a2,a2,a3⟩
   ·have hl:=(Lq.mp hj).1
    rw[Lm]at hl
    have ej:j=i:=by have:j<rs.length+1:=hl;have:=ri.len;omega
    rw[Mf g,ri.len,ej,Ow]at hj
    cases hj
    exact⟨r3.setL e3 nL,nL,by rw[ej];exact ge⟩
  ·have old:∀(j:Nat)(r:Rw),rs[j]?=some r->r.D≠D:=fun j r hj=>ax (ri.at' j r hj).1.hd hD
   rcases Ox j rs.length with g|g
   ·rw[Me g]at hj
    rcases Ox k rs.length with g2|g2
    ·rw[Me g2]at hk
     exact ri.nd j k r s hj hk hd
    ·have hl:=(Lq.mp hk).1
     rw[Lm]at hl
     rw[Mf g2,show k- rs.length=0 by(have:k<rs.length+1:=hl);omega]at hk
     cases hk
     exact absurd hd (old j r hj)
   ·have hl:=(Lq.mp hj).1
    rw[Lm]at hl
    have lj:j<rs.length+1:=hl
    rw[Mf g,show j- rs.length=0 by omega]at hj
    cases hj
    rcases Ox k rs.length with g2|g2
    ·rw[Me g2]at hk
     exact absurd hd.symm (old k s hk)
    ·have hl2:=(Lq.mp hk).1
     rw[Lm]at hl2
     have lk:k<rs.length+1:=hl2
     omega
  ·rcases Ox j rs.length with g|g
   ·rw[Me g]at hj
    exact ri.fr j r hj
   ·have hl:=(Lq.mp hj).1
    rw[Lm]at hl
    have lj:j<rs.length+1:=hl
    rw[Mf g,show j- rs.length=0 by omega]at hj
    cases hj
    cases e:H D with
    |none=>rfl
    |some o=>rw[S _ _ e]at hD;cases hD
 ·obtain⟨rs,e1,S,ri⟩:=hx
  have ri:RwI A H H2 f W ess (Es.map V.ref).length ys rs:=ri
  rw[hlen]at ri
  have ey:=ri.ys
  subst ey
  exact q rs H2 S e1 ri
theorem tL {H0 H:Hp}{f W:Addr}{ess:List (List Key)}{ys:List V}{rs:List Rw}(mk:Mk0 A H0 f)(S:aw H0 H)(ri:RwI A H0 H f W ess 3 ys rs):∃b g,Stp A H f b g 0/\Rws A H f b g 0 rs:=by
 have row:∀b g,Stp A H f b g 0->(∀r∈rs,r.D≠b)->Rws A H f b g 0 rs:=fun b g s ne=>⟨fun r hr=>by
  obtain⟨j,hj⟩:=Oi hr
  exact(ri.at' j r hj).1.toX s (ne r hr),ri.nd⟩
 cases mk with
 |wri hc=>
  obtain⟨dx,y,ho⟩:∃dx y,H dx=some (.own y):=by
   rcases ri.own with e|e
   ·cases e
   ·exact e
  have s:Stp A H f dx (fun k=>some (.inr (bU k))) 0:=.wri (hc.keep fun z φ e=>S _ _ e) ⟨y,ho⟩ rfl
  refine⟨dx,_,s,row dx _ s fun r hr=>?_⟩
  obtain⟨j,hj⟩:=Oi hr
  exact aU (ri.at' j r hj).1.hd ho (fun z=>nomatch z)
 |sta b g s=>
  have s1:=s.same (gV _) S
  refine⟨b,g,s1,row b g s1 fun r hr z=>?_⟩
  obtain⟨j,hj⟩:=Oi hr
  have:=ri.fr j r hj
  rcases s.bb with⟨y,e⟩|⟨kvs,e⟩
  ·rw[<-z,this]at e;cases e
  ·rw[<-z,this]at e;cases e
def LX (K:pv):TS:=(aA (aD (tSl (eE K) (tOp (aE K) (aa 2) (aa 8)) (cj) (dA (aa 9))) (aB 5)) (aA (bL (tBM K "list" bG (aa 6) (af (bB (af (aa 8) (af (aa 11) (am)))) (am)))) (aP (aJ (tOp (ci K) (aa 14) (aa 11))) (aK (tC (.bl false))) (aM))))
def LY (K:pv):TS:=(aP (aJ (tOp (ci K) (aa 14) (dg (af (tC (.str "refused")) (af (tC (.bl true)) (am)))))) (aK (tC (.bl false))) (aM))
def LA (K:pv)(A:Adr):TS:=(aA (aD (tOp (bF) (tOp (aE K) (aa 0) (aa 7)) (tC (.int 3))) (aB 8)) (aA (aD (tOp (bF) (tOp (bw) (tOp (aE K) (aa 0) (aa 7)) (tC (.int 3))) (tOp (bu K) (tCB (bO K) (af (tOp (aE K) (aa 2) (aa 8)) (am))) (tC (.int 1)))) (aB 9)) (aA (aD (bq A.c_Row "mark_at" (jq K A) (fun _=>E0) (tOp (aE K) (aa 3) (aa 8)) (af (aa 9) (am))) (aB 10)) (aA (aD (bB (af (aa 9) (af (aa 10) (am)))) (aB 11)) (aA (aP (aJ (tOp (bM K) (tOp (bF) (tOp (bw) (tOp (aE K) (aa 0) (aa 7)) (tC (.int 33))) (tC (.int 8))) (tC (.int 5)))) (aD (bB (af (aa 9) (af (tOp (bu K) (tOp (lF) (tC (.int 10)) (tC (.int 59))) (tOp (bF) (tOp (bw) (tOp (aE K) (aa 0) (aa 7)) (tC (.int 264))) (tC (.int 60)))) (am)))) (aB 11)) (aM)) (aA (aD (tOp (bF) (tOp (fG) (tOp (aE K) (aa 0) (tOp (dv) (aa 7) (tC (.int 1)))) (tC (.int 48271))) (tC (.int 1000003))) (aB 12)) (aA (aD (aC (ix K A) (fun _=>E0) (af (aa 12) (af (aa 3) (af (aa 2) (af (aa 8) (af (aa 9) (af (tCB (bO K) (af (aa 5) (am))) (am)))))))) (aB 13)) (aA (aD (aC (il K A) (fun _=>E0) (af (aa 4) (af (tOp (bw) (tOp (aE K) (aa 0) (aa 7)) (tC (.int 5))) (af (aa 11) (af (aa 13) (am)))))) (aB 14)) (aA (aP (jU (aJ (tOp (bM K) (tOp (aE K) (aa 11) (tC (.int 1))) (aa 10))) (cX K (aC (gz K A) (fun _=>E0) (af (aa 3) (af (aa 2) (af (aa 8) (af (aa 9) (af (aa 5) (af (aa 13) (am)))))))))) (aA (aD (tSl (eE K) (tOp (aE K) (aa 2) (aa 8)) (cj) (dA (aa 9))) (aB 5)) (aA (bL (tBM K "list" bG (aa 6) (af (bB (af (aa 8) (af (aa 11) (am)))) (am)))) (aP (aJ (tOp (ci K) (aa 14) (aa 11))) (aK (tC (.bl false))) (aM)))) (aP (aJ (tOp (ci K) (aa 14) (dg (af (tC (.str "refused")) (af (tC (.bl true)) (am)))))) (aK (tC (.bl false))) (aM))) (aP (aJ (tOp (ci K) (cC K (aa 4) "held") (tOp (aE K) (tOp (aE K) (aa 6) (tUn dW (tC (.int 1)))) (tC (.int 1))))) (aK (tC (.bl false))) (aM)))))))))))
def LA1 (K:pv)(A:Adr):TS:=(aA (aD (tOp (bF) (tOp (bw) (tOp (aE K) (aa 0) (aa 7)) (tC (.int 3))) (tOp (bu K) (tCB (bO K) (af (tOp (aE K) (aa 2) (aa 8)) (am))) (tC (.int 1)))) (aB 9)) (aA (aD (bq A.c_Row "mark_at" (jq K A) (fun _=>E0) (tOp (aE K) (aa 3) (aa 8)) (af (aa 9) (am))) (aB 10)) (aA (aD (bB (af (aa 9) (af (aa 10) (am)))) (aB 11)) (aA (aP (aJ (tOp (bM K) (tOp (bF) (tOp (bw) (tOp (aE K) (aa 0) (aa 7)) (tC (.int 33))) (tC (.int 8))) (tC (.int 5)))) (aD (bB (af (aa 9) (af (tOp (bu K) (tOp (lF) (tC (.int 10)) (tC (.int 59))) (tOp (bF) (tOp (bw) (tOp (aE K) (aa 0) (aa 7)) (tC (.int 264))) (tC (.int 60)))) (am)))) (aB 11)) (aM)) (aA (aD (tOp (bF) (tOp (fG) (tOp (aE K) (aa 0) (tOp (dv) (aa 7) (tC (.int 1)))) (tC (.int 48271))) (tC (.int 1000003))) (aB 12)) (aA (aD (aC (ix K A) (fun _=>E0) (af (aa 12) (af (aa 3) (af (aa 2) (af (aa 8) (af (aa 9) (af (tCB (bO K) (af (aa 5) (am))) (am)))))))) (aB 13)) (aA (aD (aC (il K A) (fun _=>E0) (af (aa 4) (af (tOp (bw) (tOp (aE K) (aa 0) (aa 7)) (tC (.int 5))) (af (aa 11) (af (aa 13) (am)))))) (aB 14)) (aA (aP (jU (aJ (tOp (bM K) (tOp (aE K) (aa 11) (tC (.int 1))) (aa 10))) (cX K (aC (gz K A) (fun _=>E0) (af (aa 3) (af (aa 2) (af (aa 8) (af (aa 9) (af (aa 5) (af (aa 13) (am)))))))))) (aA (aD (tSl (eE K) (tOp (aE K) (aa 2) (aa 8)) (cj) (dA (aa 9))) (aB 5)) (aA (bL (tBM K "list" bG (aa 6) (af (bB (af (aa 8) (af (aa 11) (am)))) (am)))) (aP (aJ (tOp (ci K) (aa 14) (aa 11))) (aK (tC (.bl false))) (aM)))) (aP (aJ (tOp (ci K) (aa 14) (dg (af (tC (.str "refused")) (af (tC (.bl true)) (am)))))) (aK (tC (.bl false))) (aM))) (aP (aJ (tOp (ci K) (cC K (aa 4) "held") (tOp (aE K) (tOp (aE K) (aa 6) (tUn dW (tC (.int 1)))) (tC (.int 1))))) (aK (tC (.bl false))) (aM))))))))))
def LA2 (K:pv)(A:Adr):TS:=(aA (aD (bq A.c_Row "mark_at" (jq K A) (fun _=>E0) (tOp (aE K) (aa 3) (aa 8)) (af (aa 9) (am))) (aB 10)) (aA (aD (bB (af (aa 9) (af (aa 10) (am)))) (aB 11)) (aA (aP (aJ (tOp (bM K) (tOp (bF) (tOp (bw) (tOp (aE K) (aa 0) (aa 7)) (tC (.int 33))) (tC (.int 8))) (tC (.int 5)))) (aD (bB (af (aa 9) (af (tOp (bu K) (tOp (lF) (tC (.int 10)) (tC (.int 59))) (tOp (bF) (tOp (bw) (tOp (aE K) (aa 0) (aa 7)) (tC (.int 264))) (tC (.int 60)))) (am)))) (aB 11)) (aM)) (aA (aD (tOp (bF) (tOp (fG) (tOp (aE K) (aa 0) (tOp (dv) (aa 7) (tC (.int 1)))) (tC (.int 48271))) (tC (.int 1000003))) (aB 12)) (aA (aD (aC (ix K A) (fun _=>E0) (af (aa 12) (af (aa 3) (af (aa 2) (af (aa 8) (af (aa 9) (af (tCB (bO K) (af (aa 5) (am))) (am)))))))) (aB 13)) (aA (aD (aC (il K A) (fun _=>E0) (af (aa 4) (af (tOp (bw) (tOp (aE K) (aa 0) (aa 7)) (tC (.int 5))) (af (aa 11) (af (aa 13) (am)))))) (aB 14)) (aA (aP (jU (aJ (tOp (bM K) (tOp (aE K) (aa 11) (tC (.int 1))) (aa 10))) (cX K (aC (gz K A) (fun _=>E0) (af (aa 3) (af (aa 2) (af (aa 8) (af (aa 9) (af (aa 5) (af (aa 13) (am)))))))))) (aA (aD (tSl (eE K) (tOp (aE K) (aa 2) (aa 8)) (cj) (dA (aa 9))) (aB 5)) (aA (bL (tBM K "list" bG (aa 6) (af (bB (af (aa 8) (af (aa 11) (am)))) (am)))) (aP (aJ (tOp (ci K) (aa 14) (aa 11))) (aK (tC (.bl false))) (aM)))) (aP (aJ (tOp (ci K) (aa 14) (dg (af (tC (.str "refused")) (af (tC (.bl true)) (am)))))) (aK (tC (.bl false))) (aM))) (aP (aJ (tOp (ci K) (cC K (aa 4) "held") (tOp (aE K) (tOp (aE K) (aa 6) (tUn dW (tC (.int 1)))) (tC (.int 1))))) (aK (tC (.bl false))) (aM)))))))))
def LB (K:pv)(A:Adr):TS:=(aA (aD (tOp (bF) (tOp (fG) (tOp (aE K) (aa 0) (tOp (dv) (aa 7) (tC (.int 1)))) (tC (.int 48271))) (tC (.int 1000003))) (aB 12)) (aA (aD (aC (ix K A) (fun _=>E0) (af (aa 12) (af (aa 3) (af (aa 2) (af (aa 8) (af (aa 9) (af (tCB (bO K) (af (aa 5) (am))) (am)))))))) (aB 13)) (aA (aD (aC (il K A) (fun _=>E0) (af (aa 4) (af (tOp (bw) (tOp (aE K) (aa 0) (aa 7)) (tC (.int 5))) (af (aa 11) (af (aa 13) (am)))))) (aB 14)) (aA (aP (jU (aJ (tOp (bM K) (tOp (aE K) (aa 11) (tC (.int 1))) (aa 10))) (cX K (aC (gz K A) (fun _=>E0) (af (aa 3) (af (aa 2) (af (aa 8) (af (aa 9) (af (aa 5) (af (aa 13) (am)))))))))) (aA (aD (tSl (eE K) (tOp (aE K) (aa 2) (aa 8)) (cj) (dA (aa 9))) (aB 5)) (aA (bL (tBM K "list" bG (aa 6) (af (bB (af (aa 8) (af (aa 11) (am)))) (am)))) (aP (aJ (tOp (ci K) (aa 14) (aa 11))) (aK (tC (.bl false))) (aM)))) (aP (aJ (tOp (ci K) (aa 14) (dg (af (tC (.str "refused")) (af (tC (.bl true)) (am)))))) (aK (tC (.bl false))) (aM))) (aP (aJ (tOp (ci K) (cC K (aa 4) "held") (tOp (aE K) (tOp (aE K) (aa 6) (tUn dW (tC (.int 1)))) (tC (.int 1))))) (aK (tC (.bl false))) (aM))))))
def LC (K:pv)(A:Adr):TS:=(aA (aP (jU (aJ (tOp (bM K) (tOp (aE K) (aa 11) (tC (.int 1))) (aa 10))) (cX K (aC (gz K A) (fun _=>E0) (af (aa 3) (af (aa 2) (af (aa 8) (af (aa 9) (af (aa 5) (af (aa 13) (am)))))))))) (aA (aD (tSl (eE K) (tOp (aE K) (aa 2) (aa 8)) (cj) (dA (aa 9))) (aB 5)) (aA (bL (tBM K "list" bG (aa 6) (af (bB (af (aa 8) (af (aa 11) (am)))) (am)))) (aP (aJ (tOp (ci K) (aa 14) (aa 11))) (aK (tC (.bl false))) (aM)))) (aP (aJ (tOp (ci K) (aa 14) (dg (af (tC (.str "refused")) (af (tC (.bl true)) (am)))))) (aK (tC (.bl false))) (aM))) (aP (aJ (tOp (ci K) (cC K (aa 4) "held") (tOp (aE K) (tOp (aE K) (aa 6) (tUn dW (tC (.int 1)))) (tC (.int 1))))) (aK (tC (.bl false))) (aM)))
def LD (K:pv):TS:=(aP (aJ (tOp (ci K) (cC K (aa 4) "held") (tOp (aE K) (tOp (aE K) (aa 6) (tUn dW (tC (.int 1)))) (tC (.int 1))))) (aK (tC (.bl false))) (aM))
theorem ixS {H:Hp}{Q:VK}{a:Addr}{ns:List Int}{i:Int}{j:Nat}(hs:SqL K H a (ns.map V.int))(e:i=j)(hj:j<ns.length)(q:Q (.int (ns.getD j 0)) H):aE K (.ref a) (.int i) H Q:=by
 subst e
 refine .inl (.inl ⟨a,_,j,_,rfl,rfl,hs,?_,q⟩)
 rw[qm (by omega) (by rw[Ll];omega)]
 simp[LJ,LO,Gt hj]
theorem Ref.mono {g g':gOp}{n c:Nat}{v w:Key}{tp:Bool}{ks:List Key}(r:Ref g n c v w tp ks)(s:Sub g g'):Ref g' n c v w tp ks:=by
 rcases r with r|r|r|r
 ·exact .inl r
 ·exact .inr (.inl r)
 ·exact .inr (.inr (.inl fun h e=>r h (Ext.of s e)))
 ·exact .inr (.inr (.inr fun h e=>r h (Ext.of s e)))
theorem Rws.told {H H':Hp}{f b dk dx:Addr}{g g':gOp}{n m:Nat}{rs:List Rw}{f0 q0 h0:Addr}(w:Rws A H f b g n rs)(k:∀z o,z≠b->z≠dk->z≠A.t_26->H z=some o->H' z=some o)(hd:H dk=some (.ins A.c_Desk dx (dkF f0 q0 h0)))(tb:eV A H)(s:Stp A H' f b g' m)(sub:Sub g g')(hn:n<=m):Rws A H' f b g' m rs:=by
 obtain⟨ps,hP,_⟩:=tb
 refine⟨fun r hr=>?_,w.nd⟩
 obtain⟨kvs,⟨⟨dx,hx⟩,hl,hD,en,le⟩,st,cc,db,kl⟩:=w.rx r hr
 refine⟨kvs,⟨⟨dx,k _ _ (st.nb hx (fun _ z=>nomatch z) (fun _ z=>nomatch z)) (aU hx hd fun z=>?_) (aU hx hP (fun z=>nomatch z)) hx⟩,k _ _ (st.nb hl (fun _ z=>nomatch z) (fun _ z=>nomatch z)) (aU hl hd (fun z=>nomatch z)) (aU hl hP (fun z=>nomatch z)) hl,k _ _ db (aU hD hd (fun z=>nomatch z)) (aU hD hP (fun z=>nomatch z)) hD,en,le⟩,s,cc.mono sub,db,by omega⟩
 injection z with _ _ h
 have:=congrArg Qr h
 cases this
theorem Hld.fr {H H':Hp}{o:Addr}{rs:List Rw}{k c:Nat}{es:List Key}{g g':gOp}(x:Hld H o rs k c es g)(kk:∀z xs,H z=some (.tup xs)->H' z=some (.tup xs))(sub:Sub g g'):Hld H' o rs k c es g':=by
 obtain⟨hd,v,r,a1,a2,a3,a4,a5,a6,a7⟩:=x.ex
 exact⟨hd,v,r,kk _ _ a1,kk _ _ a2,a3,a4,a5,a6,fun h e=>a7 h (Ext.of sub e)⟩
theorem Bks.fr {H H':Hp}{B W:Addr}{rs:List Rw}(x:Bks H B W rs)(kk:∀z xs,H z=some (.lst xs)->H' z=some (.lst xs)):Bks H' B W rs:=by
 obtain⟨Es,h1,h2,h3⟩:=x.hB
 exact⟨kk _ _ x.hW,⟨Es,kk _ _ h1,h2,fun i E r e1 e2=>kk _ _ (h3 i E r e1 e2)⟩,x.l3,x.l10⟩
theorem DkA.fr {H H':Hp}{dk f qs hd:Addr}{n:Nat}{v:Key}(d:DkA A H dk f qs hd n v)(k:∀z o,H z=some o->(∀y,o≠.own y)->(∀kvs,o≠.dT kvs)->(∀xs,o≠.lst xs)->(∀ps,o≠.tbl ps)->H' z=some o):DkA A H' dk f qs hd n v:=⟨d.ob.imp fun _ e=>k _ _ e (fun _ z=>nomatch z) (fun _ z=>nomatch z) (fun _ z=>nomatch z) (fun _ z=>nomatch z),d.cl.keep fun z φ e=>k _ _ e (fun _ z=>nomatch z) (fun _ z=>nomatch z) (fun _ z=>nomatch z) (fun _ z=>nomatch z),k _ _ d.hh (fun _ z=>nomatch z) (fun _ z=>nomatch z) (fun _ z=>nomatch z) (fun _ z=>nomatch z),d.ok⟩
theorem PpW.fr {H H':Hp}{p:Addr}{tp:Bool}{ks:List Key}(w:PpW H p tp ks)(k:∀z o,H z=some o->(∀y,o≠.own y)->(∀kvs,o≠.dT kvs)->(∀C dx fs,o≠.ins C dx fs)->(∀ps,o≠.tbl ps)->H' z=some o):PpW H' p tp ks:=by
 unfold PpW at*
 cases tp
 ·exact k _ _ w (fun _ z=>nomatch z) (fun _ z=>nomatch z) (fun _ _ _ z=>nomatch z) (fun _ z=>nomatch z)
 ·exact k _ _ w (fun _ z=>nomatch z) (fun _ z=>nomatch z) (fun _ _ _ z=>nomatch z) (fun _ z=>nomatch z)
structure Tv (K:pv)(A:Adr)(H:Hp)(a f b B W C L hd:Addr)(ns:List Int)(rs:List Rw)(g:gOp)(N:Nat)(held:List Key)(v:Key)(os:List Addr)(o:Addr):Prop where
 hs:SqL K H a (ns.map V.int)
 w:Rws A H f b g N rs
 bk:Bks H B W rs
 tb:eV A H
 hh:H hd=some (.tup [.int (held.length:Int),kV v])
 ok:okP v=true
 ev:∀h,Ext g h->v=h (dh h held)
 he:H C=some (.lst (held.map kV))
 hl:H L=some (.lst ((os++[o]).map V.ref))
 old:∀x∈os,∃k c es,Hld H x rs k c es g/\c<=held.length/\held.take c=es
 la:∃(k:Nat)(r:Rw),H o=some (.tup [.int (k:Int),.ref hd])/\rs[k]?=some r/\held.length<=r.es.length/\r.es.take held.length=held
 nW:W≠L
 nB:B≠L
 nL:∀r∈rs,r.L≠L
section
variable {H H':Hp}{a f b B W C L hd dk qs:Addr}{ns:List Int}{rs:List Rw}{g g':gOp}{N m:Nat}{held:List Key}{v:Key}{os:List Addr}{o:Addr}
theorem Tv.fr (t:Tv K A H a f b B W C L hd ns rs g N held v os o)(k:∀z o,H z=some o->(∀y,o≠.own y)->(∀kvs,o≠.dT kvs)->(∀C dx fs,o≠.ins C dx fs)->(∀ps,o≠.tbl ps)->H' z=some o)(w':Rws A H' f b g' m rs)(tb':eV A H')(sub:Sub g g'):Tv K A H' a f b B W C L hd ns rs g' m held v os o:=by
 have kt:∀z xs,H z=some (.tup xs)->H' z=some (.tup xs):=fun z xs e=>k _ _ e (fun _ z=>nomatch z) (fun _ z=>nomatch z) (fun _ _ _ z=>nomatch z) (fun _ z=>nomatch z)
 have kl:∀z xs,H z=some (.lst xs)->H' z=some (.lst xs):=fun z xs e=>k _ _ e (fun _ z=>nomatch z) (fun _ z=>nomatch z) (fun _ _ _ z=>nomatch z) (fun _ z=>nomatch z)
 obtain⟨k0,r0,l1,l2,l3,l4⟩:=t.la
 refine⟨?_,w',t.bk.fr kl,tb',kt _ _ t.hh,t.ok,fun h e=>t.ev h (Ext.of sub e),kl _ _ t.he,kl _ _ t.hl,fun x hx=>?_,⟨k0,r0,kt _ _ l1,l2,l3,l4⟩,t.nW,t.nB,t.nL⟩
 ·rcases t.hs with(h|⟨o,h⟩)|h
  ·exact .inl (.inl (kl _ _ h))
  ·exact .inl (.inr ⟨o,k _ _ h (fun _ z=>nomatch z) (fun _ z=>nomatch z) (fun _ _ _ z=>nomatch z) (fun _ z=>nomatch z)⟩)
  ·exact .inr h
 ·obtain⟨k,c,es,h1,h2,h3⟩:=t.old x hx
  exact⟨k,c,es,h1.fr kt sub,h2,h3⟩
theorem Tv.mr (t:Tv K A H a f b B W C L hd ns rs g N held v os o):∃r,r∈rs:=⟨rs[0]'(by have:=t.bk.l3;omega),Nk (by have:=t.bk.l3;omega)⟩
theorem Tv.kp (t:Tv K A H a f b B W C L hd ns rs g N held v os o)(k:KR b rs H H'){z:Addr}{o:HO}(e:H z=some o)(h1:∀y,o≠.own y)(h2:∀kvs,o≠.dT kvs):H' z=some o:=by
 obtain⟨r,mr⟩:=t.mr
 exact t.w.keep mr k e h1 h2
theorem Tv.kr (t:Tv K A H a f b B W C L hd ns rs g N held v os o)(k:KR b rs H H')(w':Rws A H' f b g' m rs)(sub:Sub g g'):Tv K A H' a f b B W C L hd ns rs g' m held v os o:=t.fr (fun z o e h1 h2 _ _=>t.kp k e h1 h2) w' (t.tb.keep fun z o e ho=>t.kp k e (fun y ey=>by rcases ho with⟨_,q⟩|⟨_,q⟩<;>rw[ey]at q<;>cases q) (fun y ey=>by rcases ho with⟨_,q⟩|⟨_,q⟩<;>rw[ey]at q<;>cases q)) sub
theorem Tv.same (t:Tv K A H a f b B W C L hd ns rs g N held v os o)(S:aw H H'):Tv K A H' a f b B W C L hd ns rs g N held v os o:=t.kr (KR.same S) (t.w.same S (gV _)) Sub.rfl'
theorem DkA.kr' {hd':Addr}{n:Nat}{v':Key}(d:DkA A H dk f qs hd' n v')(t:Tv K A H a f b B W C L hd ns rs g N held v os o)(k:KR b rs H H'):DkA A H' dk f qs hd' n v':=d.fr fun z o e h1 h2 _ _=>t.kp k e h1 h2
theorem Tv.h10 (t:Tv K A H a f b B W C L hd ns rs g N held v os o):held.length<=10/\∀x∈held,enK x:=by
 obtain⟨k0,r0,l1,l2,l3,l4⟩:=t.la
 have mr:=Lu l2
 have:=t.bk.l10 r0 mr
 obtain⟨kvs,rr⟩:=t.w.rx r0 mr
 exact⟨by omega,fun x hx=>rr.r.en x (Mv (by rw[l4];exact hx))⟩
theorem Tv.at' (t:Tv K A H a f b B W C L hd ns rs g N held v os o):∀x∈os++[o],∃k c es,Hld H x rs k c es g/\c<=held.length/\held.take c=es:=fun x hx=>by
 rcases Mr.mp hx with h|h
 ·exact t.old x h
 ·rw[LK.mp h]
  obtain⟨k0,r0,l1,l2,l3,l4⟩:=t.la
  exact⟨k0,held.length,held,⟨hd,v,r0,l1,t.hh,t.ok,l2,l3,l4,t.ev⟩,gV _,NW⟩
theorem Tv.last (t:Tv K A H a f b B W C L hd ns rs g N held v os o):∃k,Hld H o rs k held.length held g:=by
 obtain⟨k0,r0,l1,l2,l3,l4⟩:=t.la
 exact⟨k0,⟨hd,v,r0,l1,t.hh,t.ok,l2,l3,l4,t.ev⟩⟩
theorem zZ (T:Txt K mg A){n k:Nat}{D:eF}{x0 x1 x2 x3 x5 x7 x8 x9 x10 x11 x12 x13 x14 x15:Option V}(d:DkA A H dk f qs hd n v)(hL:H L=some (.lst ((os++[o]).map V.ref)))(ho:H o=some (.tup [.int (k:Int),.ref hd]))(n1:n<=1000)(q:D.nx [x0,x1,x2,x3,some (.ref dk),x5,some (.ref L),x7,x8,x9,x10,x11,x12,x13,x14,x15] H):
  LD K D [x0,x1,x2,x3,some (.ref dk),x5,some (.ref L),x7,x8,x9,x10,x11,x12,x13,x14,x15] H:=by
 obtain⟨dx,ob⟩:=d.ob
 refine⟨dk,A.c_Desk,dx,_,_,rfl,ob,T.cl_Desk,T.na_Desk_held,rfl,?_⟩
 rw[LL]at hL
 refine er (qs:=os.map V.ref) (p:=.ref o) hL (ixT (j:=1) ho rfl rfl ?_)
 refine wd (k:=[.inl (n:Int),v]) d.hh d.hh (fun x hx=>?_) (Sel.f q)
 rcases LG.mp hx with h|h
 ·rw[h];exact okN n1
 ·rw[LK.mp h];exact d.ok
end
section
variable {H:Hp}{a f b B W C L hd dk qs:Addr}{ns:List Int}{rs:List Rw}{g:gOp}{N:Nat}{held:List Key}{v:Key}{os:List Addr}{o:Addr}{D:eF}{x7 x10 x12 x13 x15:Option V}
theorem zJ (T:Txt K mg A){Lr:Addr}{x0 x1 x2 x3 x5 x8 x9 x11:Option V}(t:Tv K A H a f b B W C L hd ns rs g N held v os o)(d:DkA A H dk f qs hd held.length v)(hr:H Lr=some (.lst [.str "refused",.bl true]))
  (q:∀H',Tv K A H' a f b B W C L hd ns rs g N held v os o->DkA A H' dk f qs hd held.length v->D.nx [x0,x1,x2,x3,some (.ref dk),x5,some (.ref L),x7,x8,x9,x10,x11,x12,x13,some (.ref Lr),x15] H'):
  LY K {D with nx:=LD K D} [x0,x1,x2,x3,some (.ref dk),x5,some (.ref L),x7,x8,x9,x10,x11,x12,x13,some (.ref Lr),x15] H:=by
 refine⟨aH (show 2<=1000000 by decide),fun L2 h2=>?_⟩
 have S:=aw.upd (o:=.lst [.str "refused",.bl true]) h2
 refine Bx (S _ _ hr) ak (Sel.f ?_)
 have t1:=t.same S
 have d1:=d.same S
 obtain⟨k0,r0,l1,_⟩:=t1.la
 have:=t.h10.1
 exact zZ T d1 t1.hl l1 (by omega) (q _ t1 d1)
theorem Tv.notL (t:Tv K A H a f b B W C L hd ns rs g N held v os o){z:Addr}{xs:List V}(e:H z=some (.lst xs))(h:∀x∈xs,∀q,x≠.ref q):z≠L:=fun y=>by
 have hl:=t.hl
 rw[<-y,e]at hl
 injection hl with hl
 injection hl with hl
 exact h (.ref o) (by rw[hl];exact MO.mpr ⟨o,by simp,rfl⟩) o rfl
theorem me {k:List Key}:∀x∈k.map kV,∀q,x≠.ref q:=fun x hx q e=>by
 obtain⟨y,_,rfl⟩:=MO.mp hx
 cases y<;>cases e
theorem Hx (T:Txt K mg A){p:Addr}{c k:Nat}{w:Key}{r:Rw}(t:Tv K A H a f b B W C L hd ns rs g N held v os o)(d:DkA A H dk f qs p c w)(hr:rs[k]?=some r)(hc:c<=r.es.length)(le:held.length<=c)(pre:r.es.take held.length=held)(ew:∀h,Ext g h->w=h (dh h (r.es.take c)))(ol:os.length<=900)
  (q:∀(H':Hp)(C' o':Addr),Tv K A H' a f b B W C' L p ns rs g N (r.es.take c) w (os++[o]) o'->DkA A H' dk f qs p c w->D.nx [some (.ref a),some (.ref f),some (.ref B),some (.ref W),some (.ref dk),some (.ref C'),some (.ref L),x7,some (.int (k:Int)),some (.int (c:Int)),x10,some (.ref p),x12,x13,some (.ref p),x15] H'):
  LX K {D with nx:=LD K D} [some (.ref a),some (.ref f),some (.ref B),some (.ref W),some (.ref dk),some (.ref C),some (.ref L),x7,some (.int (k:Int)),some (.int (c:Int)),x10,some (.ref p),x12,x13,some (.ref p),x15] H:=by
 have mr:=Lu hr
 obtain⟨Es,hB,el,hEs⟩:=t.bk.hB
 have l3:=t.bk.l3
 have kl:=(Lq.mp hr).1
 obtain⟨E1,hE1⟩:∃E1,Es[k]?=some E1:=⟨_,Gt (by omega)⟩
 have hE:=hEs k E1 r hE1 hr
 have l10:=t.bk.l10 r mr
 refine ixL (j:=k) hB rfl (by rw[LO,hE1];rfl) ?_
 refine⟨_,rfl,uk hE hc fun C' hC'=>?_⟩
 have S1:aw H (upd H C' (.lst ((r.es.take c).map kV))):=aw.upd hC'
 have h1:upd H C' (.lst ((r.es.take c).map kV)) C'=some (.lst ((r.es.take c).map kV)):=ak
 generalize upd H C' (.lst ((r.es.take c).map kV))=H1 at S1 h1
 have t1:=t.same S1
 refine⟨.inl ⟨rfl,_,SqL.of t1.hl⟩,aH (show 2<=1000000 by decide),fun o' ho'=>?_⟩
 have S2:aw H1 (upd H1 o' (.tup [.int (k:Int),.ref p])):=aw.upd ho'
 have h2:upd H1 o' (.tup [.int (k:Int),.ref p]) o'=some (.tup [.int (k:Int),.ref p]):=ak
 generalize upd H1 o' (.tup [.int (k:Int),.ref p])=H2 at S2 h2
 have t2:=t1.same S2
 have hL2:=t2.hl
 refine⟨L,_,.ref o',rfl,rfl,hL2,br (by rw[Ll,Lm];show os.length+1<=_;omega),?_⟩
 have eL:(os++[o]).map V.ref++[.ref o']=((os++[o])++[o']).map V.ref:=by rw[LL (l₂:=[o'])];rfl
 rw[eL]
 have kx:∀z ob,z≠L->H2 z=some ob->upd H2 L (.lst (((os++[o])++[o']).map V.ref)) z=some ob:=fun z ob n e=>by rw[ao n];exact e
 have h3:upd H2 L (.lst (((os++[o])++[o']).map V.ref)) L=some (.lst (((os++[o])++[o']).map V.ref)):=ak
 have w3:=t2.w.setL (zs:=((os++[o])++[o']).map V.ref) hL2 t.nL
 generalize upd H2 L (.lst (((os++[o])++[o']).map V.ref))=H3 at kx h3 w3
 have kn:∀z ob,H2 z=some ob->(∀xs,ob≠.lst xs)->H3 z=some ob:=fun z ob e n=>kx z ob (aU e hL2 (n _)) e
 have kt:∀z xs,H2 z=some (.tup xs)->H3 z=some (.tup xs):=fun z xs e=>kn _ _ e (fun _ z=>nomatch z)
 have d2:=(d.same S1).same S2
 have d3:DkA A H3 dk f qs p c w:=d2.fr fun z ob e _ _ n _=>kn z ob e n
 have tl:(r.es.take c).length=c:=by rw[Ls];omega
 have c1:C'≠L:=t2.notL (S2 _ _ h1) me
 have t3:Tv K A H3 a f b B W C' L p ns rs g N (r.es.take c) w (os++[o]) o':=by
  refine⟨?_,w3,?_,t2.tb.keep fun z ob e ho=>kn z ob e (fun y ey=>by rcases ho with⟨_,q⟩|⟨_,q⟩<;>rw[ey]at q<;>cases q),by rw[tl];exact d3.hh,d.ok,ew,kx _ _ c1 (S2 _ _ h1),h3,fun x hx=>?_,⟨k,r,kt _ _ h2,hr,by rw[tl];exact hc,by rw[tl]⟩,t.nW,t.nB,t.nL⟩
  ·rcases t2.hs with(h|⟨ob,h⟩)|h
   ·refine .inl (.inl (kx _ _ (t2.notL h fun x hx q e=>?_) h))
    obtain⟨y,_,rfl⟩:=MO.mp hx
    cases e
   ·exact .inl (.inr ⟨ob,kn _ _ h (fun _ z=>nomatch z)⟩)
   ·exact .inr h
  ·obtain⟨Es2,b1,b2,b3⟩:=t2.bk.hB
   exact⟨kx _ _ t.nW t2.bk.hW,⟨Es2,kx _ _ t.nB b1,b2,fun i E r' e1 e2=>kx _ _ (t2.notL (b3 i E r' e1 e2) me) (b3 i E r' e1 e2)⟩,l3,t.bk.l10⟩
  ·obtain⟨k',c',es,y1,y2,y3⟩:=t2.at' x hx
   refine⟨k',c',es,y1.fr kt Sub.rfl',by rw[tl];omega,?_⟩
   rw[NH,MT (by omega),<-y3,<-pre,NH,MT (by omega)]
 dsimp only[aP,aJ,tOp,aa,List.set,RS,RQ]
 refine wd (k:=[.inl (c:Int),w]) d3.hh d3.hh (fun x hx=>?_) (Sel.f ?_)
 ·rcases LG.mp hx with h|h
  ·rw[h];exact okN (by omega)
  ·rw[LK.mp h];exact d.ok
 exact zZ T d3 h3 (kt _ _ h2) (by omega) (q H3 C' o' t3 d3)
end
section
variable {H:Hp}{a f b B W C L hd dk qs:Addr}{ns:List Int}{rs:List Rw}{g:gOp}{N:Nat}{held:List Key}{v:Key}{os:List Addr}{o:Addr}{D:eF}{x7 x12 x15:Option V}{p P:Addr}{c k:Nat}{w m:Key}{r:Rw}{tp:Bool}{ks:List Key}
theorem zQ (T:Txt K mg A){tv:V}(t:Tv K A H a f b B W C L hd ns rs g N held v os o)(hp:H p=some (.tup [.int (c:Int),kV w]))(pp:PpW H P tp ks)(mk:∀x∈ks,mkK x)(hr:rs[k]? =some r)(hc:c<=r.es.length)(em:∀h,Ext g h->m=h (dh h (r.es.take c)))(hw:w=m\/∃i,w=.inl i/\10^58<=i)(hN:N+200<=39000)(ol:os.length<=900)
  (cs:(∃Lr,tv=.ref Lr/\H Lr=some (.lst [.str "refused",.bl true])/\Ref g held.length c v w tp ks/\DkA A H dk f qs hd held.length v)\/(tv=.ref p/\DkA A H dk f qs p c w/\held.length<=c/\eI c held.length tp ks=true/\∀h,Ext g h->h (yT h c held.length ks)=w/\h (oT h c held.length ks)=v))
  (q:∀(H':Hp)(C' hd' o':Addr)(g':List Key->Option Key)(held':List Key)(v':Key)(os':List Addr),Tv K A H' a f b B W C' L hd' ns rs g' (N+200) held' v' os' o'->DkA A H' dk f qs hd' held'.length v'->os'.length<=os.length+1->D.nx [some (.ref a),some (.ref f),some (.ref B),some (.ref W),some (.ref dk),some (.ref C'),some (.ref L),x7,some (.int (k:Int)),some (.int (c:Int)),some (kV m),some (.ref p),x12,some (.ref P),some tv,x15] H'):
  LC K A D [some (.ref a),some (.ref f),some (.ref B),some (.ref W),some (.ref dk),some (.ref C),some (.ref L),x7,some (.int (k:Int)),some (.int (c:Int)),some (kV m),some (.ref p),x12,some (.ref P),some tv,x15] H:=by
 have mr:=Lu hr
 have l10:=t.bk.l10 r mr
 obtain⟨h10,he⟩:=t.h10
 obtain⟨kvs,rr⟩:=t.w.rx r mr
 have en:=rr.r.en
 have st:=t.w.st mr
 have tl:(r.es.take c).length=c:=by rw[Ls];omega
 have ent:∀x∈r.es.take c,enK x:=fun x hx=>en x (Mv hx)
 refine ixT (j:=1) hp rfl rfl ?_
 rcases hw with ew|⟨i,ei,hi⟩
 ·subst ew
  refine zn (Sel.t ?_)
  refine⟨W,B,C,P,f,b,rs,r,held,ks,tp,g,N,k,c,rfl,t.w,t.bk,hr,hc,t.he,fun x hx=>(he x hx).1,h10,pp,fun x hx=>(mk x hx).1,hN,fun bl g2 H2 k2 w2 sub2 y n=>?_⟩
  have t2:=t.kr k2 w2 sub2
  have st2:=t2.w.st mr
  have ew2:∀h,Ext g2 h->w=h (dh h (r.es.take c)):=fun h e=>em h (Ext.of sub2 e)
  cases bl with
  |false=>
   refine Sel.f ?_
   rcases cs with⟨Lr,rfl,hL,_,d⟩|⟨rfl,d,le,gp,ac⟩
   ·exact zJ T t2 (d.kr' t k2) (t.kp k2 hL (fun _ z=>nomatch z) (fun _ z=>nomatch z)) fun H' t' d'=>q H' C hd o g2 held v os t' d' (by omega)
   ·exfalso
    obtain⟨p1,p2,p3⟩:=rN (es:=r.es.take c) st2 (by omega) (by omega) ent he ew2 t2.ev mk (by omega) (by rw[tl];exact gp) (fun h e=>by rw[tl];exact ac h (Ext.of sub2 e))
    rcases n rfl with n|n|⟨js,mj,ne⟩
    ·refine n ⟨le,?_⟩
     rw[NH,MT le]at p1;exact p1
    ·rw[p2]at n;cases n
    ·exact ne (p3 js mj)
  |true=>
   obtain⟨y1,y2,y3,y4⟩:=y rfl
   refine Sel.t ?_
   rcases cs with⟨Lr,rfl,hL,re,d⟩|⟨rfl,d,le,gp,ac⟩
   ·exfalso
    refine wV (es:=r.es.take c) (held:=held) (ks:=ks) (tp:=tp) st2 (by omega) ew2 t2.ev (by omega) (by rw[NH,MT y1];exact y2) y3 y4 ?_
    rw[tl];exact re.mono sub2
   ·refine Hx T t2 (d.kr' t k2) hr hc y1 y2 ew2 ol fun H' C' o' t' d'=>q H' C' p o' g2 _ w _ t' (by rw[tl];exact d') (by rw[Lm];exact gV _)
 ·have ne:¬w=m:=fun e=>by
   have:=wU (es:=r.es.take c) st (by omega) em i (e.symm.trans ei)
   omega
  refine qE (Sel.no (decide_eq_false ne) (Sel.f ?_))
  rcases cs with⟨Lr,rfl,hL,_,d⟩|⟨rfl,d,le,gp,ac⟩
  ·exact zJ T t d hL fun H' t' d'=>q H' C hd o g held v os (t'.kr KR.rfl' (t'.w.same aw.rfl' (by omega)) Sub.rfl') d' (by omega)
  ·exfalso
   have:=Bd st (by omega) ac i ei
   omega
theorem zE (T:Txt K mg A){j:Nat}{y12 x13 x14:Option V}(t:Tv K A H a f b B W C L hd ns rs g N held v os o)(d:DkA A H dk f qs hd held.length v)(hp:H p=some (.tup [.int (c:Int),kV w]))(okw:okP w=true)(hr:rs[k]?=some r)(hc:c<=r.es.length)(em:∀h,Ext g h->m=h (dh h (r.es.take c)))(hw:w=m\/∃i,w=.inl i/\10^58<=i)(hN:N+540<=39000)(ol:os.length<=900)(j1:1<=j)(jl:j<ns.length)
  (q:∀(H':Hp)(C' hd' o':Addr)(g':gOp)(held':List Key)(v':Key)(os':List Addr)(z12 z13 z14:Option V),Tv K A H' a f b B W C' L hd' ns rs g' (N+540) held' v' os' o'->DkA A H' dk f qs hd' held'.length v'->os'.length<=os.length+1->D.nx [some (.ref a),some (.ref f),some (.ref B),some (.ref W),some (.ref dk),some (.ref C'),some (.ref L),some (.int (j:Int)),some (.int (k:Int)),some (.int (c:Int)),some (kV m),some (.ref p),z12,z13,z14,x15] H'):
  LB K A D [some (.ref a),some (.ref f),some (.ref B),some (.ref W),some (.ref dk),some (.ref C),some (.ref L),some (.int (j:Int)),some (.int (k:Int)),some (.int (c:Int)),some (kV m),some (.ref p),y12,x13,x14,x15] H:=by
 have mr:=Lu hr
 have l10:=t.bk.l10 r mr
 have l3:=t.bk.l3
 have k3:=(Lq.mp hr).1
 obtain⟨h10,he⟩:=t.h10
 refine ixS (j:=j- 1) t.hs (by omega) (by omega) ⟨CZ (by decide) (by decide),by decide,?_⟩
 refine .inl (.inl ⟨_,SqL.of t.he,?_⟩)
 rw[Ll]
 refine⟨_,W,B,f,b,rs,g,N,k,c,held.length,rfl,t.w,t.bk,by omega,by omega,fun P tp ks g1 H1 k1 w1 sub1 pp mk kl=>?_⟩
 have t1:=t.kr k1 w1 sub1
 have d1:=d.kr' t k1
 have hp1:=t.kp k1 hp (fun _ z=>nomatch z) (fun _ z=>nomatch z)
 have s1:=t1.w.st mr
 obtain⟨dx,ob1⟩:=d1.ob
 obtain⟨ps,hP,_⟩:=id t1.tb
 refine ixS (j:=j) t1.hs rfl jl ⟨⟨by decide,by decide⟩,?_⟩
 refine⟨dk,f,b,qs,hd,p,P,held.length,c,v,w,tp,ks,g1,N+200,_,rfl,⟨d1,s1,by omega,hp1,okw,h10,by omega,pp,mk,kl⟩,t1.tb,fun Lr g2 H2 kt s2 sub2 tb2 re hL=>?_,fun g2 H2 kk s2 sub2 tb2 d2 le gp ac=>?_⟩
 ·have fr:∀z o,H1 z=some o->(∀y,o≠.own y)->(∀kvs,o≠.dT kvs)->(∀ps,o≠.tbl ps)->H2 z=some o:=fun z o e h1 h2 h4=>kt z o (s1.nb e h1 h2) (aU e hP (h4 _)) e
  have t2:=t1.fr (fun z o e h1 h2 _ h4=>fr z o e h1 h2 h4) (t1.w.told (fun z o n1 _ n3 e=>kt z o n1 n3 e) ob1 t1.tb s2 sub2 (by omega)) tb2 sub2
  refine zQ T t2 (fr _ _ hp1 (fun _ z=>nomatch z) (fun _ z=>nomatch z) (fun _ z=>nomatch z)) (pp.fr fun z o e h1 h2 _ h4=>fr z o e h1 h2 h4) mk hr hc (fun h e=>em h (Ext.of (sub1.trans sub2) e)) hw (by omega) ol (.inl ⟨Lr,rfl,hL,re,d1.fr fun z o e h1 h2 _ h4=>fr z o e h1 h2 h4⟩) fun H' C' hd' o' g' held' v' os' t' d' l'=>q H' C' hd' o' g' held' v' os' _ _ _ t' d' l'
 ·have fr:∀z o,H1 z=some o->(∀y,o≠.own y)->(∀kvs,o≠.dT kvs)->(∀C dx fs,o≠.ins C dx fs)->(∀ps,o≠.tbl ps)->H2 z=some o:=fun z o e h1 h2 h3 h4=>kk z o (s1.nb e h1 h2) (aU e ob1 (h3 _ _ _)) (aU e hP (h4 _)) e
  have t2:=t1.fr fr (t1.w.told kk ob1 t1.tb s2 sub2 (by omega)) tb2 sub2
  refine zQ T t2 (fr _ _ hp1 (fun _ z=>nomatch z) (fun _ z=>nomatch z) (fun _ _ _ z=>nomatch z) (fun _ z=>nomatch z)) (pp.fr fr) mk hr hc (fun h e=>em h (Ext.of (sub1.trans sub2) e)) hw (by omega) ol (.inr ⟨rfl,d2,le,gp,ac⟩) fun H' C' hd' o' g' held' v' os' t' d' l'=>q H' C' hd' o' g' held' v' os' _ _ _ t' d' l'
end
theorem HY (T:Txt K mg A){H:Hp}{a f b B W C L hd dk qs:Addr}{ns:List Int}{rs:List Rw}{g:gOp}{N:Nat}{held:List Key}{v:Key}{os:List Addr}{o:Addr}{D:eF}{x8 x9 x10 x11 x12 x13 x14 x15:Option V}{j:Nat}(t:Tv K A H a f b B W C L hd ns rs g N held v os o)(d:DkA A H dk f qs hd held.length v)(hN:N+740<=39000)(ol:os.length<=900)(j1:1<=j)(jl:j<ns.length)
  (q:∀(H':Hp)(C' hd' o':Addr)(g':gOp)(held':List Key)(v':Key)(os':List Addr)(z8 z9 z10 z11 z12 z13 z14:Option V),Tv K A H' a f b B W C' L hd' ns rs g' (N+740) held' v' os' o'->DkA A H' dk f qs hd' held'.length v'->os'.length<=os.length+1->D.nx [some (.ref a),some (.ref f),some (.ref B),some (.ref W),some (.ref dk),some (.ref C'),some (.ref L),some (.int (j:Int)),z8,z9,z10,z11,z12,z13,z14,x15] H'):
  LA K A D [some (.ref a),some (.ref f),some (.ref B),some (.ref W),some (.ref dk),some (.ref C),some (.ref L),some (.int (j:Int)),x8,x9,x10,x11,x12,x13,x14,x15] H:=by
 refine ixS (j:=j) t.hs rfl jl ⟨by decide,?_⟩
 generalize ns.getD j 0=z
 have l3:=t.bk.l3
 have bV:∀k:Nat,k<3->LA1 K A D [some (.ref a),some (.ref f),some (.ref B),some (.ref W),some (.ref dk),some (.ref C),some (.ref L),some (.int (j:Int)),some (.int (k:Int)),x9,x10,x11,x12,x13,x14,x15] H:=by
  intro k k3
  obtain⟨r,hr⟩:∃r,rs[k]?=some r:=⟨_,Gt (by omega)⟩
  have mr:=Lu hr
  obtain⟨Es,hB,el,hEs⟩:=t.bk.hB
  obtain⟨E1,hE1⟩:∃E1,Es[k]?=some E1:=⟨_,Gt (by omega)⟩
  have hE:=hEs k E1 r hE1 hr
  have l10:=t.bk.l10 r mr
  refine ixS (j:=j) t.hs rfl jl ⟨⟨by decide,by decide⟩,ixL (j:=k) hB rfl (by rw[LO,hE1];rfl) ?_⟩
  refine .inl (.inl ⟨_,SqL.of hE,?_⟩)
  rw[Ll]
  refine⟨(by show(0:Int)<(r.es.length:Int)+1;omega),?_⟩
  generalize ns.getD j 0=z
  have rest2:∀c:Nat,c<=r.es.length->LA2 K A D [some (.ref a),some (.ref f),some (.ref B),some (.ref W),some (.ref dk),some (.ref C),some (.ref L),some (.int (j:Int)),some (.int (k:Int)),some (.int (c:Int)),x10,x11,x12,x13,x14,x15] H:=by
   intro c hc
   obtain⟨kvs,rr⟩:=t.w.rx r mr
   obtain⟨dx,hx⟩:=rr.r.ob
   refine ixL (j:=k) t.bk.hW rfl (by rw[LO,hr];rfl) ⟨r.x,dx,_,rfl,hx,rfl,r.x,f,r.L,r.D,b,r.es,kvs,g,N,c,rfl,rr,hc,by omega,fun m kvs' g1 H1 k1 r1 sub1 okm em=>?_⟩
   have kk:=KR.k2 mr k1
   have t1:=t.kr kk (t.w.op hr k1 ⟨_,r1⟩ sub1 (by omega)) sub1
   have d1:=d.kr' t kk
   refine⟨aH (show 2<=1000000 by decide),fun p hp=>?_⟩
   have S2:aw H1 (upd H1 p (.tup [.int (c:Int),kV m])):=aw.upd hp
   have hp2:upd H1 p (.tup [.int (c:Int),kV m]) p=some (.tup [.int (c:Int),kV m]):=ak
   generalize upd H1 p (.tup [.int (c:Int),kV m])=H2 at S2 hp2
   have t2:=t1.same S2
   have d2:=d1.same S2
   refine ixS (j:=j) t2.hs rfl jl ⟨⟨by decide,by decide⟩,by decide,Sel.dec (fun _=>?_) (fun _=>?_)⟩
   ·refine⟨⟨by decide,by decide,by decide⟩,ixS (j:=j) t2.hs rfl jl ⟨⟨by decide,by decide⟩,by decide,aH (show 2<=1000000 by decide),fun p3 hp3=>?_⟩⟩
    generalize ns.getD j 0=z at hp3⊢
    have e0:(10:Int)^(59:Int).toNat=10^59:=rfl
    have S3:aw H2 (upd H2 p3 (.tup [.int (c:Int),.int ((10:Int)^(59:Int).toNat+z/264%60)])):=aw.upd hp3
    have h3:upd H2 p3 (.tup [.int (c:Int),.int ((10:Int)^(59:Int).toNat+z/264%60)]) p3=some (.tup [.int (c:Int),kV (.inl ((10:Int)^(59:Int).toNat+z/264%60))]):=ak
    have b0:0<=z/264%60:=by omega
    have b1:z/264%60<60:=by omega
    refine zE (w:=.inl ((10:Int)^(59:Int).toNat+z/264%60)) T (t2.same S3) (d2.same S3) h3 (decide_eq_true ⟨by rw[e0];omega,by rw[e0];omega⟩) hr hc em (.inr ⟨_,rfl,by rw[e0];omega⟩) (by omega) ol j1 jl ?_
    exact fun H' C' hd' o' g' held' v' os' z12 z13 z14 t' d' l'=>q H' C' hd' o' g' held' v' os' _ _ _ _ _ _ _ t' d' l'
   ·refine zE (w:=m) T t2 d2 hp2 okm hr hc em (.inl rfl) (by omega) ol j1 jl ?_
    exact fun H' C' hd' o' g' held' v' os' z12 z13 z14 t' d' l'=>q H' C' hd' o' g' held' v' os' _ _ _ _ _ _ _ t' d' l'
  obtain⟨c,ec⟩:=Mw (OF (z/3) (show(r.es.length:Int)+1≠0 by omega))
  have le:=Ob (z/3) (show 0<(r.es.length:Int)+1 by omega)
  rw[ec]at le
  have:=rest2 c (by omega)
  rw[<-ec]at this
  exact this
 obtain⟨k,ek⟩:=Mw (show 0<=z%3 by omega)
 have:=bV k (by omega)
 rw[<-ek]at this
 exact this
theorem Rws.kp {H H':Hp}{f b:Addr}{g:gOp}{n:Nat}{rs:List Rw}(w:Rws A H f b g n rs)(k:∀z o,H z=some o->(∀ps,o≠.tbl ps)->H' z=some o):Rws A H' f b g n rs:=⟨fun r hr=>by
 obtain⟨kvs,⟨⟨dx,hx⟩,hl,hd,en,le⟩,st,cc,db,kl⟩:=w.rx r hr
 exact⟨kvs,⟨⟨dx,k _ _ hx (fun _ z=>nomatch z)⟩,k _ _ hl (fun _ z=>nomatch z),k _ _ hd (fun _ z=>nomatch z),en,le⟩,st.keep (gV _) fun z o e _ h2 _=>k z o e h2,cc,db,kl⟩,w.nd⟩
theorem Mk0.same {H H':Hp}{f:Addr}(m:Mk0 A H f)(S:aw H H'):Mk0 A H' f:=by
 cases m with
 |wri hc=>exact .wri (hc.keep fun z φ e=>S _ _ e)
 |sta b g s=>exact .sta b g (s.same (gV _) S)
section
variable {a f b B W C L hd dk qs q0:Addr}{ns:List Int}{rs:List Rw}{H:Hp}{Q:VK}
abbrev rn (q0:Addr)(Q:VK):ku:={nx:=fun σ H'=>(∀p∈([(1,q0)]:List (Nat×Addr)),H' p.2=none)->Q .non (cr [(1,q0)] σ H'),rt:=fun σ v H'=>(∀p∈([(1,q0)]:List (Nat×Addr)),H' p.2=none)->Q v (cr [(1,q0)] σ H')}
theorem KP {g:gOp}{N:Nat}{held:List Key}{v:Key}{os:List Addr}{o:Addr}{x4 x5 x7 x8 x9 x10 x11 x12 x13 x14 x15:Option V}(t:Tv K A H a f b B W C L hd ns rs g N held v os o)(hN:N+8000<=39000)(q:∀H',Q (.bl true) H'):
  rg K A q0 (rn q0 Q) [some (.ref a),some (.ref f),some (.ref B),some (.ref W),x4,x5,some (.ref L),x7,x8,x9,x10,x11,x12,x13,x14,x15] H:=by
 refine⟨a,ns,3,rfl,t.hs,by decide,fun z=>⟨⟨by decide,by decide⟩,?_⟩⟩
 refine .inl (.inl ⟨_,SqL.of t.hl,?_⟩)
 have ll:((os++[o]).map V.ref).length=os.length+1:=by rw[Ll,Lm];rfl
 rw[ll]
 refine⟨(by show(0:Int)<((os.length+1:Nat):Int);omega),?_⟩
 obtain⟨j,ej⟩:=Mw (OF (z/60) (show((os.length+1:Nat):Int)≠0 by omega))
 have le:=Ob (z/60) (show 0<((os.length+1:Nat):Int)by omega)
 have bV:wb K A q0 (rn q0 Q) [some (.ref a),some (.ref f),some (.ref B),some (.ref W),x4,x5,some (.ref L),x7,x8,x9,x10,x11,x12,x13,x14,some (.int (j:Int))] H:=by
  rw[ej]at le
  obtain⟨o1,h1⟩:∃o1,(os++[o])[j]?=some o1:=⟨_,Gt (by rw[Lm];show j<os.length+1;omega)⟩
  refine ixL (j:=j) t.hl rfl (by rw[LO,h1];rfl) ?_
  have hl:=t.hl
  rw[LL]at hl
  refine er (qs:=os.map V.ref) (p:=.ref o) hl ?_
  obtain⟨k1,c1,es,x1,x2,x3⟩:=t.at' o1 (Lu h1)
  obtain⟨k2,y⟩:=t.last
  exact⟨f,b,o1,o,W,rs,g,N,k1,c1,k2,held.length,es,held,rfl,t.w,t.bk.hW,t.bk.l10,x1,y,x2,x3,hN,fun H' _=>q _⟩
 rw[<-ej]at bV
 exact bV
theorem Kh (T:Txt K mg A){g:gOp}{v:Key}{o:Addr}(t:Tv K A H a f b B W C L hd ns rs g 2 [] v [] o)(d:DkA A H dk f qs hd 0 v)(ln:ns.length<=63)(q:∀H',Q (.bl true) H'):
  vR K A q0 (rn q0 Q) [some (.ref a),some (.ref f),some (.ref B),some (.ref W),some (.ref dk),some (.ref C),some (.ref L),none,none,none,none,none,none,none,none,none] H:=by
 refine .inl (.inl ⟨_,t.hs,?_⟩)
 rw[Ll]
 dsimp only[am,tC,af,kZ]
 have em:(if (50:Int)<(ns.length:Int)then(50:Int)else(ns.length:Int))=((min ns.length 50:Nat):Int):=by split<;>omega
 rw[em]
 refine⟨13,_,rfl,⟨by decide,by decide,by omega,by omega⟩,?_⟩
 have en:(((min ns.length 50:Nat):Int)- 13).toNat=min ns.length 50- 13:=by omega
 rw[en]
 refine jY (lo:=13) (n:=min ns.length 50- 13) (D:={nx:=rg K A q0 (rn q0 Q),rt:=fun _ _=>False}) (g:=aB 7) (tb:=LA K A) (fun i σ H'=>∃(C' hd' o':Addr)(g':gOp)(held':List Key)(v':Key)(os':List Addr)(x7 x8 x9 x10 x11 x12 x13 x14:Option V),σ=[some (.ref a),some (.ref f),some (.ref B),some (.ref W),some (.ref dk),some (.ref C'),some (.ref L),x7,x8,x9,x10,x11,x12,x13,x14,none]/\Tv K A H' a f b B W C' L hd' ns rs g' (2+740*i) held' v' os' o'/\DkA A H' dk f qs hd' held'.length v'/\os'.length<=i)
  ⟨C,hd,o,g,[],v,[],none,none,none,none,none,none,none,none,rfl,t,d,gV _⟩ ?_ ?_
 ·rintro i σ H' hi ⟨C',hd',o',g',held',v',os',x7,x8,x9,x10,x11,x12,x13,x14,rfl,t',d',ol⟩
  have ez:(13:Int)+(i:Int)=((13+i:Nat):Int):=by omega
  rw[ez]
  refine HY T t' d' (by omega) (by omega) (by omega) (by omega) fun H2 C2 hd2 o2 g2 held2 v2 os2 z8 z9 z10 z11 z12 z13 z14 t2 d2 l2=>?_
  exact⟨C2,hd2,o2,g2,held2,v2,os2,_,z8,z9,z10,z11,z12,z13,z14,rfl,t2,d2,by omega⟩
 ·rintro σ H' ⟨C',hd',o',g',held',v',os',x7,x8,x9,x10,x11,x12,x13,x14,rfl,t',d',ol⟩
  exact KP t' (by omega) q
end
theorem DB (K:pv)(A:Adr):Ln (pJ K A) 1:=by rintro vs H Q E ⟨a,ns,rfl,_⟩;rfl
theorem Gb (T:Txt K mg A)(q0:Addr)(nd:([q0]:List Addr).Nodup)(vs:List V)(H:Hp)(Q:VK)(E:XK)(h:pJ K A vs H Q E):EC K A q0 {nx:=fun σ H'=>(∀p∈([(1,q0)]:List (Nat×Addr)),H' p.2=none)->Q .non (cr [(1,q0)] σ H'),rt:=fun σ v H'=>(∀p∈([(1,q0)]:List (Nat×Addr)),H' p.2=none)->Q v (cr [(1,q0)] σ H')} (L2.start ["_law_script","_law_stamper_here","_law_books_here","_law_rows","_law_desk","_law_held","_law_heads","_law_j","_law_k","_law_count","_law_mark","_law_head","_law_more","_law_paper_here","_law_told_here","_law_at"] vs) H:=by
 obtain⟨a,ns,rfl,hs,ln,tabs,q⟩:=h
 have ne:A.t_26≠A.t_53:=fun z=>by have:=tabs.2.2.2.2.2;simp[z]at this
 refine⟨a,ns,0,rfl,hs,by decide,fun z0=>⟨z0,rfl,tabs,fun f H1 kn tb mk=>?_⟩⟩
 have hs1:=kn.seq hs
 refine⟨a,ns,rfl,hs1,fun B E1 E2 E3 e1 e2 e3 H2 S2 hB h1 h2 h3 n1 n2 n3 l1 l2 l3=>?_⟩
 have hs2:=SqL.keep (fun o e=>S2 _ _ e) hs1
 refine⟨B,rfl,.inl ⟨⟨_,SqL.of hB⟩,fun W hW=>?_⟩⟩
 refine vj (f:=f) (Es:=[E1,E2,E3]) (ess:=[e1,e2,e3]) rfl hB rfl rfl (fun i E es g1 g2=>?_) (fun es hes=>?_) hW fun rs H3 S3 hW3 ri=>?_
 ·match i,g1,g2 with
  |0,g1,g2=>cases g1;cases g2;exact h1
  |1,g1,g2=>cases g1;cases g2;exact h2
  |2,g1,g2=>cases g1;cases g2;exact h3
  |i+3,g1,_=>simp at g1
 ·rcases LG.mp hes with e|hes
  ·rw[e];exact⟨n1,l1⟩
  rcases LG.mp hes with e|hes
  ·rw[e];exact⟨n2,l2⟩
  rw[LK.mp hes];exact⟨n3,l3⟩
 obtain⟨b,g,s3,w3⟩:=tL (mk.same S2) S3 ri
 have tl3:=S3 _ _ (S2 _ _ tb.1)
 have tw3:=S3 _ _ (S2 _ _ tb.2)
 have nW:B≠W:=ax hB hW
 have len3:rs.length=3:=ri.len
 have bk3:Bks H3 B W rs:=by
  refine⟨hW3,⟨[E1,E2,E3],S3 _ _ hB,len3.symm,fun i E r g1 g2=>?_⟩,len3,fun r hr=>?_⟩
  ·obtain⟨_,_,ge⟩:=ri.at' i r g2
   match i,g1,ge with
   |0,g1,ge=>cases g1;injection ge with ge;rw[<-ge];exact S3 _ _ h1
   |1,g1,ge=>cases g1;injection ge with ge;rw[<-ge];exact S3 _ _ h2
   |2,g1,ge=>cases g1;injection ge with ge;rw[<-ge];exact S3 _ _ h3
   |i+3,g1,_=>simp at g1
  ·obtain⟨j,hj⟩:=Oi hr
   obtain⟨_,_,ge⟩:=ri.at' j r hj
   rcases LG.mp (Lu ge)with e|hes
   ·rw[e];exact l1
   rcases LG.mp hes with e|hes
   ·rw[e];exact l2
   rw[LK.mp hes];exact l3
 have hs3:=SqL.keep (fun o e=>S3 _ _ e) hs2
 obtain⟨r0,hr0⟩:∃r0,rs[0]?=some r0:=⟨_,Gt (by omega)⟩
 clear hs1 hs2 hB h1 h2 h3 S2 S3 mk kn
 refine⟨#[],tw3,trivial,.inl ⟨rfl,fun c fa hc hf hne=>?_⟩⟩
 have cP:=bS tw3 hc
 have fP:=bS tw3 hf
 have key:∀H4:Hp,bA A.t_53 H3 H4->df H4 fa fI [] []->∀x dx,H4 x=none->H4 dx=none->dx≠x->qA K A [.ref x,.ref f,.int 4,.ref fa] (upd (upd H4 dx (.own x)) x (.ins A.c_Desk dx [])) (fun v H2=>v=.non/\wq K A q0 (rn q0 Q) [some (.ref a),some (.ref f),some (.ref B),some (.ref W),some (.ref x),none,none,none,none,none,none,none,none,none,none,none] H2) E0:=by
  intro H4 kp clo x dx hx hdx nx
  have kt:∀z o,H3 z=some o->(∀ps,o≠.tbl ps)->H4 z=some o:=fun z o e n=>kp z o e (aU e tw3 (n _))
  have w4:=w3.kp kt
  have tl4:=kp _ _ tl3 ne
  have S5:aw H4 (upd (upd H4 dx (.own x)) x (.ins A.c_Desk dx [])):=fun z o e=>by rw[ao (ax e hx),ao (ax e hdx)];exact e
  have h5:upd (upd H4 dx (.own x)) x (.ins A.c_Desk dx []) x=some (.ins A.c_Desk dx []):=ak
  generalize upd (upd H4 dx (.own x)) x (.ins A.c_Desk dx [])=H5 at S5 h5
  have mr:=Lu hr0
  refine⟨x,dx,f,b,fa,g,0,rfl,h5,clo.keep fun z φ e=>S5 _ _ e,(w4.st mr).same (gV _) S5,by omega,fun hd v g' H6 k6 s6 sub6 d6 ev6=>⟨rfl,?_⟩⟩
  have kb:aR b H4 H6:=fun z o n e=>k6 z o n (ax e hx) (S5 _ _ e)
  have w6:=w4.call kb s6 sub6 (by omega)
  have kx:∀z o,H3 z=some o->(∀y,o≠.own y)->(∀kvs,o≠.dT kvs)->(∀ps,o≠.tbl ps)->H6 z=some o:=fun z o e h1 h2 h3=>kb z o ((w4.st mr).nb (kt z o e h3) h1 h2) (kt z o e h3)
  have tb6:eV A H6:=⟨#[],kb _ _ ((w4.st mr).nb tl4 (fun _ z=>nomatch z) (fun _ z=>nomatch z)) tl4,.inl rfl⟩
  have bk6:=bk3.fr (H':=H6) fun z xs e=>kx _ _ e (fun _ z=>nomatch z) (fun _ z=>nomatch z) (fun _ z=>nomatch z)
  have hs6:SqL K H6 a (ns.map V.int):=by
   rcases hs3 with(h|⟨o,h⟩)|h
   ·exact .inl (.inl (kx _ _ h (fun _ z=>nomatch z) (fun _ z=>nomatch z) (fun _ z=>nomatch z)))
   ·exact .inl (.inr ⟨o,kx _ _ h (fun _ z=>nomatch z) (fun _ z=>nomatch z) (fun _ z=>nomatch z)⟩)
   ·exact .inr h
  refine⟨aH (show 0<=1000000 by decide),fun C hC=>?_⟩
  have S7:aw H6 (upd H6 C (.lst [])):=aw.upd hC
  have h7:upd H6 C (.lst []) C=some (.lst []):=ak
  generalize upd H6 C (.lst [])=H7 at S7 h7
  have d7:=d6.same S7
  obtain⟨dx7,ob7⟩:=d7.ob
  refine⟨x,A.c_Desk,dx7,_,_,rfl,ob7,T.cl_Desk,T.na_Desk_held,rfl,aH (show 2<=1000000 by decide),fun o ho=>⟨aH (show 1<=1000000 by decide),fun L hL=>?_⟩⟩
  have S8:aw H7 (upd H7 o (.tup [.int 0,.ref hd])):=aw.upd ho
  have h8:upd H7 o (.tup [.int 0,.ref hd]) o=some (.tup [.int 0,.ref hd]):=ak
  generalize upd H7 o (.tup [.int 0,.ref hd])=H8 at S8 h8 hL
  have S9:aw H8 (upd H8 L (.lst [.ref o])):=aw.upd hL
  have h9:upd H8 L (.lst [.ref o]) L=some (.lst [.ref o]):=ak
  generalize upd H8 L (.lst [.ref o])=H9 at S9 h9
  have S:=S7.trans (S8.trans S9)
  have w8:=w6.same (S7.trans S8) (gV _)
  have d9:=d6.same S
  refine Kh (hd:=hd) (v:=v) (o:=o) (g:=g') (C:=C) (L:=L) (dk:=x) (qs:=fa) T ⟨SqL.keep (fun o e=>S _ _ e) hs6,w8.same S9 (gV _),bk6.fr fun z xs e=>S _ _ e,tb6.keep fun z o e _=>S _ _ e,d9.hh,d9.ok,ev6,S9 _ _ (S8 _ _ h7),h9,(fun x hx=>nomatch hx),⟨0,r0,S9 _ _ h8,hr0,Mj _,rfl⟩,?_,?_,w8.L1 hL⟩ d9 ln q
  ·exact ax (S8 _ _ (S7 _ _ bk6.hW)) hL
  ·obtain⟨Es,hB6,_⟩:=bk6.hB
   exact ax (S8 _ _ (S7 _ _ hB6)) hL
 refine key _ (bA.tab.trans ((bA.new ?_).trans (bA.new ?_))) ⟨⟨c,ak,?_⟩,.nil⟩
 ·rw[ao cP];exact hc
 ·rw[ao (Mh hne),ao fP];exact hf
 ·rw[ao hne];exact ak
section
structure TP (P:LV)(w:Mx)(K:pv)(mg:Str->Option tx)(base:Heap)(A:Adr):Prop extends Txt K mg A where
 B:BM mg base
 C_64:NX base A.k_64 A.t_64
 C_36:NX base A.k_36 A.t_36
 C_31:NX base A.k_31 A.t_31
 C_26:NX base A.k_26 A.t_26
 C_53:NX base A.k_53 A.t_53
variable {P:LV}{w:Mx}{K:pv}{mg:Str->Option tx}{base:Heap}{A:Adr}(T:TP P w K mg base A)
include T
theorem kK:aQ P w K mg base (CX1 P w) 1 A.a_51 A.d_51 ["thing"] (gB K A):=
 T.f_51.f.okS Iy (Er K A) (GX T.1) fun _ _ _ _ _ _ hr=>
 az (aL (dE (be jx T.z_isinstance Np (ag (ae 0) (ag (iE T.z_int boot_int) (ar)))) (fu (HB (be jx T.z_isinstance Np (ag (ae 0) (ag (iE T.z_bool boot_bool) (ar))))))))
theorem mI:aQ P w K mg base (CX1 P w) 2 A.a_49 A.d_49 ["thing"] (ir K A):=
 T.f_49.f.okS GR (Cj K A) (Gv T.1) fun _ _ _ _ _ _ hr=>
 av (bc (cF (bf (kK T) hr.le T.f_51 (ag (ae 0) (ar)))) (az (aL (iH oLe oLt (ay) (ae 0) (aN Fq (ay) (ay))))) (aW)) (az (aL (be jx T.z_isinstance Np (ag (ae 0) (ag (iE T.z_str boot_str) (ar))))))
theorem Ah:aQ P w K mg base (CX1 P w) 3 A.a_50 A.d_50 ["thing"] (mK K A):=
 T.f_50.f.okS HC (BF K A) (HI T.1) fun _ _ _ _ _ _ hr=>
 av (bc (cY (cF (be jx T.z_isinstance Np (ag (ae 0) (ag (iE T.z_tuple QN) (ar)))))) (az (aL (gY))) (aW)) (av (bc (cY (qU oLe oLe (ay) (be cA T.z_len Mn (ag (ae 0) (ar))) (BS T.c_MOST_PARTS))) (az (aL (gY))) (aW)) (az (aL (dE (be jx T.z_isinstance Np (ag (aT (aG hr.units1) (ae 0) (ay) (fun _ _=>rfl)) (ag (iE T.z_str boot_str) (ar)))) (fu (be (DC rfl) T.z_all L2.wC (ag (qM (ys:=[]) (by exact⟨rfl,by decide+kernel,by decide+kernel,rfl,by decide+kernel,by decide+kernel⟩) (by exact .nil) (fE (ae 0)) (fun C s H fp=>gM) (fun C s H fp=>(bf (mI T) hr.le T.f_49 (ag (ae 0) (ar))))) (ar))))))))
theorem IZ:aQ P w K mg base (CX1 P w) 2 A.a_56 A.d_56 ["part"] (pW K A):=
 T.f_56.f.okS zR (Dd K A) (FL T.1) fun _ _ _ _ _ _ hr=>
 av (bc (cF (bf (kK T) hr.le T.f_51 (ag (ae 0) (ar)))) (az (aL (vx (.cons (uE (ae 0)) (.cons (cw) (.nil)))))) (aW)) (av (aI 1 zR.nd (be cA T.z_len Mn (ag (ae 0) (ar)))) (az (aL (vx (.cons (uE (ae 1)) (.cons (cw) (.cons (uE (ae 0)) (.nil))))))))
theorem FP:aQ P w K mg base (CX1 P w) 4 A.a_66 A.d_66 ["term"] (lQ K A):=
 T.f_66.f.okS FC (Df K A) (Je T.1) fun _ _ _ _ _ _ hr=>
 av (bc (cY (cF (bf (Ah T) hr.le T.f_50 (ag (ae 0) (ar))))) (az (dN)) (aW)) (az (aL (dU PySem.F.plainAttrs_str PySem.F.slot_str_join PySem.F.type_str_join Ao (cw) (ag (qM (ys:=[]) (by exact⟨rfl,by decide+kernel,by decide+kernel,rfl,by decide+kernel,by decide+kernel⟩) (by exact .nil) (fE (ae 0)) (fun C s H fp=>gM) (fun C s H fp=>(bf (IZ T) hr.le T.f_56 (ag (ae 0) (ar))))) (ar)))))
theorem Ia (f c:Addr)(cl:List (Str×Addr))(Ar:Mq)(outer:List Env)(s:If)(H:Hp)(E:XK)
  (hr:bj 4 (Ar.deeper (PV fD.qual fD.scope s.heap.objs.size f (.ref c) cl))):PE (gw P w K mg base ["term"] fD.qual fD.scope f c cl Ar outer s H E).nox (gJ wO) (Dy K A):=QE.out (
 bf (FP T) hr.le T.f_66 (ag (ae 0) (ar)))
theorem Hf:fF P w K mg base 5 fD (tG K A):=
 nH rfl Jg (fun f c cl Ar outer s H vs cvs Q E hr hl hc h=>by
  obtain⟨a0,rfl⟩:=L2.fe hl
  obtain rfl:=L2.pC hc
  exact⟨_,(Ia T f c cl Ar outer s H E hr).nox,IQ T.1 a0 H Q E h⟩)
theorem Ky:aQ P w K mg base (CX1 P w) 4 A.a_6 A.d_6 ["self","term"] (uP K A):=
 T.f_6.okS Jv (Fz K A) (JU T.1) fun _ _ _ _ _ _ hr=>
 av (bc (cY (cF (bf (Ah T) hr.le T.f_50 (ag (ae 1) (ar))))) (az (dN)) (aW)) (av (bc (ba (sM hr.units150) (ae 1) (cS (ae 0))) (az (qL hr.units1 (cS (ae 0)) (ae 1) (be cA T.z_len Mn (ag (cS (ae 0)) (ar))))) (aW)) (az (aL (aT (aG hr.units1) (cS (ae 0)) (ae 1) (fun _ _=>rfl)))))
theorem Im (f c:Addr)(cl:List (Str×Addr))(Ar:Mq)(outer:List Env)(s:If)(H:Hp)(E:XK)
  (hr:bj 4 (Ar.deeper (PV gD.qual gD.scope s.heap.objs.size f (.ref c) cl))):PE (gw P w K mg base ["term","numbers"] gD.qual gD.scope f c cl Ar outer s H E).nox (gJ yI) (Cp K A):=QE.out (
 bD (ae 1) T.cl_Numbers T.me_Numbers_number_of (Ky T) hr.le T.b_6 bn (ag (ae 0) (ar)))
theorem Gr:fF P w K mg base 5 gD (uN K A):=
 nH rfl FQ (fun f c cl Ar outer s H vs cvs Q E hr hl hc h=>by
  obtain⟨a0,rfl⟩:=L2.fe hl
  obtain⟨b0,rfl⟩:=L2.fe hc
  exact⟨_,(Im T f c cl Ar outer s H E hr).nox,Jh T.1 a0 b0 H Q E h⟩)
theorem Hd (f c:Addr)(cl:List (Str×Addr))(Ar:Mq)(outer:List Env)(s:If)(H:Hp)(E:XK)
  (hr:bj 0 (Ar.deeper (PV gC.qual gC.scope s.heap.objs.size f (.ref c) cl))):PSs (gw P w K mg base ["_law_term","_law_step","_law_known"] gC.qual gC.scope f c cl Ar outer s H E).nox (aS xm) (Dr K A):=QSs.out (
 az (aL (dU PySem.F.plainAttrs_dict Nm PySem.F.type_dict_setdefault (vq hr.units1) (ae 2) (ag (ae 0) (ag (aN bT (aN tO (ae 1) (be cA T.z_len Mn (ag (ae 2) (ar)))) (ay)) (ar))))))
theorem IX:fF P w K mg base 1 gC (tW K A):=
 uZ rfl Jd (fun f c cl Ar outer s H vs cvs Q E hr hl hc h=>by
  obtain⟨a0,rfl⟩:=L2.fe hl
  obtain⟨b0,b1,rfl⟩:=L2.pG hc
  exact⟨_,(Hd T f c cl Ar outer s H E hr).nox,IE T.1 a0 b0 b1 H Q E h⟩)
theorem Ir (f c:Addr)(cl:List (Str×Addr))(Ar:Mq)(outer:List Env)(s:If)(H:Hp)(E:XK)
  (hr:bj 0 (Ar.deeper (PV eK.qual eK.scope s.heap.objs.size f (.ref c) cl))):PSs (gw P w K mg base ["_law_question","_law_paper_here","_law_head"] eK.qual eK.scope f c cl Ar outer s H E).nox (aS yQ) (BK K A):=QSs.out (
 av (bc (ba (cH hr.units150) (ae 0) (bJ (ag (cw) (ar)))) (az (aL (ae 2))) (aW)) (av (bc (ba (cH hr.units150) (aT (aG hr.units1) (ae 0) (ay) (fun _ _=>rfl)) (cw)) (az (aL (ae 1))) (aW)) (az (aL (tI)))))
theorem Gs:fF P w K mg base 1 eK (tT K A):=
 uZ rfl IT (fun f c cl Ar outer s H vs cvs Q E hr hl hc h=>by
  obtain⟨a0,rfl⟩:=L2.fe hl
  obtain⟨b0,b1,rfl⟩:=L2.pG hc
  exact⟨_,(Ir T f c cl Ar outer s H E hr).nox,Hv T.1 a0 b0 b1 H Q E h⟩)
theorem HQ (f c:Addr)(cl:List (Str×Addr))(Ar:Mq)(outer:List Env)(s:If)(H:Hp)(E:XK)
  (hr:bj 0 (Ar.deeper (PV fI.qual fI.scope s.heap.objs.size f (.ref c) cl))):PE (gw P w K mg base ["_law_head"] fI.qual fI.scope f c cl Ar outer s H E).nox (gJ ya) (Ek K A):=QE.out (
 gY)
theorem Fv:fF P w K mg base 1 fI (uU K A):=
 nH rfl HD (fun f c cl Ar outer s H vs cvs Q E hr hl hc h=>by
  obtain⟨a0,rfl⟩:=L2.fe hl
  obtain rfl:=L2.pC hc
  exact⟨_,(HQ T f c cl Ar outer s H E hr).nox,HW T.1 a0 H Q E h⟩)
theorem Gq (B:BM mg base)(C:NX base A.k_64 A.t_64)(Ar:Mq)(outer:List Env)(s:If)(H:Hp)(E:XK)
  (hr:bj 0 (Ar.deeper (envOfC "writing" (au lh) s.heap.objs.size A.a_64 (.ref A.k_64)))):QMs (cM (CX1 P w) P w K mg base [] "writing" (au lh) A.a_64 (.ref A.k_64) Ar outer s H E).nox (aS lh) (Fd K A):=(
 lP (mG (uM B C rfl (by rfl) (by simp<;>omega) rfl rfl rfl rfl (fun _ _ _ _ us hl=>by obtain⟨_,rfl⟩:=L2.fe hl;rfl))))
theorem GC:aQ P w K mg base (CX1 P w) 1 A.a_64 A.d_64 [] (pb K A):=
 T.f_64.f.okM (caps:=fun L=>[]) T.kc_64 FZ (BX K A) (fun L p hp=>nomatch hp) (fun L=>by simp) (fun Ar outer s H vs Q E hr h=>⟨_,QMs.nox (Gq T T.B T.C_64 Ar outer s H E hr),Ip T.1 (by simp) vs H Q E h⟩)
theorem Jp:aQ P w K mg base (CX1 P w) 1 A.a_5 A.d_5 ["self"] (tP K A):=
 T.f_5.okS Kl (GB K A) (Kp T.1) fun _ _ _ _ _ _ hr=>
 az (dG (ae 0) (nv))
theorem Gz (B:BM mg base)(C:NX base A.k_36 A.t_36)(Ar:Mq)(outer:List Env)(s:If)(H:Hp)(E:XK)
  (hr:bj 2 (Ar.deeper (envOfC "counting" (au lB) s.heap.objs.size A.a_36 (.ref A.k_36)))):QMs (cM (CX1 P w) P w K mg base ["numbers"] "counting" (au lB) A.a_36 (.ref A.k_36) Ar outer s H E).nox (aS lB) (Ci K A (s.heap.objs.size+1)):=(
 dY (dX (aI 0 zS.nd (xH T.mk_Numbers (Jp T) hr.le T.mc_Numbers T.b_5 bn))) (lP (mG (uM B C rfl (by rfl) (by simp<;>omega) rfl rfl rfl rfl (fun _ _ _ _ us hl=>by obtain⟨_,rfl⟩:=L2.fe hl;rfl)))))
theorem Gc:aQ P w K mg base (CX1 P w) 3 A.a_36 A.d_36 [] (oZ K A):=
 T.f_36.f.okM (caps:=fun L=>[(0,L+1)]) T.kc_36 zS (Eg K A) (fun L p hp=>by simp only[LG,MF,or_false]at hp;rcases hp with rfl<;>exact⟨_,rfl,rfl,rfl⟩) (fun L=>by simp) (fun Ar outer s H vs Q E hr h=>⟨_,QMs.nox (Gz T T.B T.C_36 Ar outer s H E hr),Ht T.1 (s.heap.objs.size+1) (by simp) vs H Q E h⟩)
theorem ID (B:BM mg base)(C:NX base A.k_31 A.t_31)(Ar:Mq)(outer:List Env)(s:If)(H:Hp)(E:XK)
  (hr:bj 0 (Ar.deeper (envOfC "_law_sure" (au lm) s.heap.objs.size A.a_31 (.ref A.k_31)))):QMs (cM (CX1 P w) P w K mg base ["_law_step","_law_known","_law_stamp"] "_law_sure" (au lm) A.a_31 (.ref A.k_31) Ar outer s H E).nox (aS lm) (EF K A (s.heap.objs.size+1) (s.heap.objs.size+1+1)):=(
 dY (dX (aI 1 tN.nd (nv))) (dY (dX (zV 2 tN.nd B C rfl (by rfl) (by simp<;>omega) rfl rfl rfl rfl (fun _ _ _ _ _ us hl=>by obtain⟨_,rfl⟩:=L2.fe hl;rfl))) (lP (mG (ae 2)))))
theorem Jc:aQ P w K mg base (CX1 P w) 1 A.a_31 A.d_31 ["_law_step"] (pN K A):=
 T.f_31.f.okM (caps:=fun L=>[(0,L+1),(1,L+1+1)]) T.kc_31 tN (Ca K A) (fun L p hp=>by simp only[LG,MF,or_false]at hp;rcases hp with rfl|rfl<;>exact⟨_,rfl,rfl,rfl⟩) (fun L=>by simp) (fun Ar outer s H vs Q E hr h=>⟨_,QMs.nox (ID T T.B T.C_31 Ar outer s H E hr),Jf T.1 (s.heap.objs.size+1) (s.heap.objs.size+1+1) (by simp) vs H Q E h⟩)
theorem Ge:aQ P w K mg base (CX1 P w) 4 A.a_30 A.d_30 ["_law_cell"] (pE K A):=
 T.f_30.f.okS GY (Ei K A) (Hs T.1) fun _ _ _ _ _ _ hr=>
 av (bc (ba (cH hr.units150) (aN dq (ae 0) (ay)) (ay)) (az (aL (qD (GC T) hr.le T.f_64.m T.f_64.f.kp T.f_64.b bn))) (aW)) (av (bc (ba (cH hr.units150) (aN dq (ae 0) (ay)) (ay)) (az (aL (qD (Gc T) hr.le T.f_36.m T.f_36.f.kp T.f_36.b bn))) (aW)) (az (aL (bf (Jc T) hr.le T.f_31 (ag (aN bT (ay) (aN dq (aN dw (ae 0) (ay)) (ay))) (ar))))))
theorem mq:aQ P w K mg base (CX1 P w) 1 A.a_24 A.d_24 ["_law_script","_law_k"] (fZ K A):=
 T.f_24.f.okS Io (BH K A) (IC T.1) fun _ _ _ _ _ _ hr=>
 av (bc (ba oLt (ae 1) (be cA T.z_len Mn (ag (ae 0) (ar)))) (az (aL (aT (aG hr.units1) (ae 0) (ae 1) (fun _ _=>rfl)))) (aW)) (az (aL (ay)))
theorem Ik:aQ P w K mg base (CX1 P w) 2 A.a_23 A.d_23 ["_law_script"] (pA K A):=
 T.f_23.f.okS ib (CU K A) (HF T.1) fun _ _ _ _ _ _ hr=>
 av (aI 1 ib.nd (aN bT (ay) (aN dq (bf (mq T) hr.le T.f_24 (ag (ae 0) (ag (ay) (ar)))) (ay)))) (av (kc (ys:=["_law_script"]) 2 ib.nd (by exact⟨rfl,by decide+kernel,by decide+kernel,rfl,by decide+kernel,by decide+kernel⟩) (by exact .cons rfl (by first|exact .inl rfl|exact .inr rfl) rfl (.nil)) (lH T.z_range (ag (ae 1) (ar))) (fun C s H fp=>gM) (fun C s H fp=>(aN dq (bf (mq T) hr.le T.f_24 (ag (ae 1) (ag (aN bT (ay) (ae 0)) (ar)))) (ay)))) (av (aI 3 ib.nd (dH (ag (ae 2) (ar)))) (av (hU 4 ib.nd (qJ T.z_range (ag (ay) (ag (ay) (ar)))) (av (aI 5 ib.nd (bf (mq T) hr.le T.f_24 (ag (ae 0) (ag (aN bT (ay) (ae 4)) (ar))))) (av (aI 6 ib.nd (aN dq (ae 5) (aN bT (ae 1) (ay)))) (av (kc (ys:=["_law_cell"]) 7 ib.nd (by exact⟨rfl,by decide+kernel,by decide+kernel,rfl,by decide+kernel,by decide+kernel⟩) (by exact .cons rfl (by first|exact .inl rfl|exact .inr rfl) rfl (.nil)) (lH T.z_range (ag (aN dq (aN dw (ae 5) (ay)) (aN fo (ay) (ae 6))) (ar))) (fun C s H fp=>gM) (fun C s H fp=>(aN dq (aN bT (aN dw (ae 1) (ay)) (aN tO (ae 0) (aN bT (ay) (aN dq (aN dw (ae 1) (ay)) (ay))))) (ay)))) (az (bW (dU Mb LS LW bH (ae 3) (ag (aN bT (eZ fA (ae 2) (fh) (fc (ae 6))) (ae 7)) (ar)))))))) MZ) (az (aL (ae 3))))))
theorem JI:aQ P w K mg base (CX1 P w) 1 A.a_8 A.d_8 ["self","stamper"] (ul K A):=
 T.f_8.okS JP (Fw K A) (KA T.1) fun _ _ _ _ _ _ hr=>
 av (dG (ae 0) (ae 1)) (av (dG (ae 0) (dH (ar))) (az (dG (ae 0) (nv))))
theorem Jw:aQ P w K mg base (CX1 P w) 3 A.a_9 A.d_9 ["self","entry"] (uo K A):=
 T.f_9.okS KI (Hj K A) (Kq T.1) fun _ _ _ _ _ _ hr=>
 av (bc (cY (cF (bf (mI T) hr.le T.f_49 (ag (ae 1) (ar))))) (az (dN)) (aW)) (av (bW (dU Mb LS LW bH (cS (ae 0)) (ag (ae 1) (ar)))) (az (aL (aN fo (be cA T.z_len Mn (ag (cS (ae 0)) (ar))) (ay)))))
theorem IK:aQ P w K mg base (CX1 P w) 4 A.a_29 A.d_29 ["_law_stamper_here","_law_entries"] (jA K A):=
 T.f_29.f.okS tJ (EV K A) (FX T.1) fun _ _ _ _ _ _ hr=>
 av (aI 2 tJ.nd (mX T.mk_Row (JI T) hr.le T.mc_Row T.b_8 bn (ag (ae 0) (ar)))) (av (hU 3 tJ.nd (fE (ae 1)) (az (bW (bD (ae 2) T.cl_Row T.me_Row_add (Jw T) hr.le T.b_9 bn (ag (ae 3) (ar))))) MZ) (az (aL (ae 2))))
theorem GA:aQ P w K mg base (CX1 P w) 2 A.a_43 A.d_43 ["thing"] (pk K A):=
 T.f_43.f.okS GN (DQ K A) (GE T.1) fun _ _ _ _ _ _ hr=>
 az (aL (dE (bf (kK T) hr.le T.f_51 (ag (ae 0) (ar))) (fu (iH oLe oLe (ay) (ae 0) (BS T.c_MOST_BITS)))))
theorem eR:kP P w K mg base 5 (eQ K A):=fun ts hts=>by
 simp only[eQ,LG,MF,or_false]at hts
 rcases hts with rfl|rfl|rfl
 ·exact(Hf T).mono (by decide)
 ·exact(Gr T).mono (by decide)
 ·exact(IX T).mono (by decide)
theorem tU:aQ P w K mg base (CX1 P w) 6 A.a_62 A.d_62 ["stamper"] (kL K A):=
 T.f_62.f.okS HN (Cb K A) (HU T.1) fun _ _ _ _ _ _ hr=>
 az (aL (dH (ag (bJ (ag (cw) (ar))) (ag (bJ (ag (cw) (ag (ay) (ag (fH (eR T) hr.le bn (ae 0) (ag (bJ (ag (cw) (ar))) (ar))) (ar))))) (ar)))))
theorem FW:aQ P w K mg base (CX1 P w) 7 A.a_55 A.d_55 ["stamper"] (mQ K A):=
 T.f_55.f.okS Ih (El K A) (FV T.1) fun _ _ _ _ _ _ hr=>
 az (aL (bJ (ag (ay) (ag (fH (eR T) hr.le bn (ae 0) (ag (aT (aG hr.units1) (bf (tU T) hr.le T.f_62 (ag (ae 0) (ar))) (gb (ay)) (fun _ _=>rfl)) (ar))) (ar)))))
theorem KD:aQ P w K mg base (CX1 P w) 8 A.a_1 A.d_1 ["self","stamper","bits","knows"] (qA K A):=
 T.f_1.okS Le (HV K A) (Jy T.1) fun _ _ _ _ _ _ hr=>
 av (bc (cY (cF (bf (GA T) hr.le T.f_43 (ag (ae 2) (ar))))) (az (dN)) (aW)) (av (dG (ae 0) (ae 1)) (av (dG (ae 0) (ae 2)) (av (dG (ae 0) (ae 3)) (az (dG (ae 0) (bf (FW T) hr.le T.f_55 (ag (ae 1) (ar))))))))
theorem uV:aQ P w K mg base (CX1 P w) 2 A.a_44 A.d_44 ["thing"] (km K A):=
 T.f_44.f.okS GS (DR K A) (FT T.1) fun _ _ _ _ _ _ hr=>
 az (aL (dE (bf (kK T) hr.le T.f_51 (ag (ae 0) (ar))) (fu (iH oLe oLt (ay) (ae 0) (aN CH (ay) (ay))))))
theorem zy:aQ P w K mg base (CX1 P w) 3 A.a_45 A.d_45 ["count","elder"] (mH K A):=
 T.f_45.f.okS FG (CC K A) (Hi T.1) fun _ _ _ _ _ _ hr=>
 az (aL (dE (bf (uV T) hr.le T.f_44 (ag (ae 0) (ar))) (dE (bf (kK T) hr.le T.f_51 (ag (ae 1) (ar))) (fu (iH oLe oLe (ay) (ae 1) (ae 0))))))
theorem ua:aQ P w K mg base (CX1 P w) 1 A.a_16 A.d_16 ["self"] (kH K A):=
 T.f_16.okS Hn (Et K A) (Ii T.1) fun _ _ _ _ _ _ hr=>
 az (aL (be cA T.z_len Mn (ag (cS (ae 0)) (ar))))
theorem zK:aQ P w K mg base (CX1 P w) 4 A.a_12 A.d_12 ["self","count","elder"] (mw K A):=
 T.f_12.okS Gn (BP K A) (Hk T.1) fun _ _ _ _ _ _ hr=>
 az (aL (dE (bf (zy T) hr.le T.f_45 (ag (ae 1) (ag (ae 2) (ar)))) (fu (mP oLe (ae 1) (jg (ae 0) T.cl_Row T.me_Row_size (ua T) hr.le T.b_16 bn)))))
theorem lO:aQ P w K mg base (CX1 P w) 1 A.a_42 A.d_42 ["many"] (hV K A):=
 T.f_42.f.okS Gf (BY K A) (IR T.1) fun _ _ _ _ _ _ hr=>
 az (aL (aN CH (ay) (aN fo (IA PySem.F.plainAttrs_int PySem.F.slot_int_bit_length PySem.F.type_int_bit_length Bi (aN fo (ae 0) (ay))) (ay))))
theorem GQ (n:Nat)(G:aQ P w K mg base (CX1 P w) (5+2*n) A.a_17 A.d_17 ["self","first","many"] (dS K A n)):aQ P w K mg base (CX1 P w) (5+2*n+1) A.a_18 A.d_18 ["self","first","many"] (pB K A n):=
 T.f_18.okS zC (BZ K A n) (FA T.1 n) fun _ _ _ _ _ _ (hr:bj (5+2*n) _)=>
 av (bc (ba (cH hr.units150) (ae 2) (ay)) (az (aL (bJ (ag (cw) (ar))))) (aW)) (av (bc (ba (cH hr.units150) (ae 2) (ay)) (az (aL (bJ (ag (cw) (ag (aT (aG hr.units1) (cS (ae 0)) (ae 1) (fun _ _=>rfl)) (ar)))))) (aW)) (av (aI 3 zC.nd (bf (lO T) hr.le T.f_42 (ag (ae 2) (ar)))) (az (aL (bJ (ag (cw) (ag (bD (ae 0) T.cl_Row T.me_Row_top_of G hr.le T.b_17 bn (ag (ae 1) (ag (ae 3) (ar)))) (ag (bD (ae 0) T.cl_Row T.me_Row_top_of G hr.le T.b_17 bn (ag (aN bT (ae 1) (ae 3)) (ag (aN fo (ae 2) (ae 3)) (ar)))) (ar)))))))))
theorem ju:∀n:Nat,aQ P w K mg base (CX1 P w) (5+2*n) A.a_17 A.d_17 ["self","first","many"] (dS K A n)
 |0=>⟨fun vs H Q E h=>(zu K A vs H Q E h).elim,fun _ _ _ H _ _ vs Q E _ _ _ _ h=>(zu K A vs H Q E h).elim⟩
 |n+1=>show aQ P w K mg base (CX1 P w) (5+2*n+1+1) A.a_17 A.d_17 ["self","first","many"] (dS K A (n+1))from T.f_17.okS Af (EZ K A (n+1)) (GM T.1 n) fun _ _ _ _ _ _ (hr:bj (5+2*n+1) _)=>
 av (aI 3 Af.nd (bJ (ag (ae 1) (ag (ae 2) (ar))))) (av (bc (ba (sM hr.units150) (ae 3) (cS (ae 0))) (az (qL hr.units1 (cS (ae 0)) (ae 3) (iV (eR T) hr.le bn (ae 0) T.cl_Row T.na_Row_stamper (ag (bD (ae 0) T.cl_Row T.me_Row_top_term (GQ T n (ju n)) hr.le T.b_18 bn (ag (ae 1) (ag (ae 2) (ar)))) (ar))))) (aW)) (az (aL (aT (aG hr.units1) (cS (ae 0)) (ae 3) (fun _ _=>rfl)))))
theorem Gi:aQ P w K mg base (CX1 P w) 146 A.a_14 A.d_14 ["self","count"] (jq K A):=
 T.f_14.okS Gd (Ce K A) (Jb T.1) fun _ _ _ _ _ _ hr=>
 av (bc (cY (cF (bD (ae 0) T.cl_Row T.me_Row_has_elder (zK T) hr.le T.b_12 bn (ag (jg (ae 0) T.cl_Row T.me_Row_size (ua T) hr.le T.b_16 bn) (ag (ae 1) (ar)))))) (az (dN)) (aW)) (az (aL (iV (eR T) hr.le bn (ae 0) T.cl_Row T.na_Row_stamper (ag (bJ (ag (cw) (ag (ae 1) (ag (bD (ae 0) T.cl_Row T.me_Row_top_of (ju T 70) hr.le T.b_17 bn (ag (ay) (ag (ae 1) (ar)))) (ar))))) (ar)))))
theorem uT:∀n:Nat,aQ P w K mg base (CX1 P w) (145+n) A.a_10 A.d_10 ["self","first","many","elder"] (jo K A n)
 |0=>⟨fun vs H Q E h=>(Ai K A vs H Q E h).elim,fun _ _ _ H _ _ vs Q E _ _ _ _ h=>(Ai K A vs H Q E h).elim⟩
 |n+1=>T.f_10.okS zt (Cm K A (n+1)) (FK T.1 n) fun _ _ _ _ _ _ (hr:bj (145+n) _)=>
 av (bc (x_w (pO (ba (cH hr.units150) (ae 3) (ay)) (mO (ba (cH hr.units150) (ae 3) (ae 2))))) (az (aL (bJ (ag (bD (ae 0) T.cl_Row T.me_Row_top_of (ju T 70) hr.le T.b_17 bn (ag (ae 1) (ag (ae 2) (ar)))) (ar))))) (aW)) (av (aI 4 zt.nd (bf (lO T) hr.le T.f_42 (ag (ae 2) (ar)))) (av (bc (ba oLe (ae 3) (ae 4)) (az (aL (aN bT (bD (ae 0) T.cl_Row T.me_Row_growth_marks (uT n) hr.le T.b_10 bn (ag (ae 1) (ag (ae 4) (ag (ae 3) (ar))))) (bJ (ag (bD (ae 0) T.cl_Row T.me_Row_top_of (ju T 70) hr.le T.b_17 bn (ag (aN bT (ae 1) (ae 4)) (ag (aN fo (ae 2) (ae 4)) (ar)))) (ar)))))) (aW)) (az (aL (aN bT (bJ (ag (bD (ae 0) T.cl_Row T.me_Row_top_of (ju T 70) hr.le T.b_17 bn (ag (ae 1) (ag (ae 4) (ar)))) (ar))) (bD (ae 0) T.cl_Row T.me_Row_growth_marks (uT n) hr.le T.b_10 bn (ag (aN bT (ae 1) (ae 4)) (ag (aN fo (ae 2) (ae 4)) (ag (aN fo (ae 3) (ae 4)) (ar))))))))))
theorem zW:aQ P w K mg base (CX1 P w) 216 A.a_11 A.d_11 ["self","count","elder"] (lR K A):=
 T.f_11.okS Jm (EB K A) (IN T.1) fun _ _ _ _ _ _ hr=>
 av (bc (cY (cF (bD (ae 0) T.cl_Row T.me_Row_has_elder (zK T) hr.le T.b_12 bn (ag (ae 1) (ag (ae 2) (ar)))))) (az (dN)) (aW)) (az (aL (uJ (ba oGt (ae 1) (ay)) (bD (ae 0) T.cl_Row T.me_Row_growth_marks (uT T 70) hr.le T.b_10 bn (ag (ay) (ag (ae 1) (ag (ae 2) (ar))))) (bJ (ar)))))
theorem IP:aQ P w K mg base (CX1 P w) 217 A.a_28 A.d_28 ["_law_cell","_law_rows","_law_books_here","_law_k","_law_count","_law_held"] (ix K A):=
 T.f_28.f.okS iw (ES K A) (Gm T.1) fun _ _ _ _ _ _ hr=>
 av (bc (ba (cH hr.units150) (aN dq (ae 0) (ay)) (ay)) (az (aI 3 iw.nd (aN dq (aN dw (ae 0) (ay)) (ay)))) (aW)) (av (aI 6 iw.nd (be (xo rfl) T.z_min boot_min (ag (ae 4) (ag (be cA T.z_len Mn (ag (aT (aG hr.units1) (ae 2) (ae 3) (fun _ _=>rfl)) (ar))) (ar))))) (av (aI 7 iw.nd (be (xo rfl) T.z_min boot_min (ag (ae 5) (ag (ae 6) (ar))))) (av (bc (ba (cH hr.units150) (aN dq (aN dw (ae 0) (ay)) (ay)) (ay)) (az (aI 7 iw.nd (aN dq (aN dw (ae 0) (ay)) (aN bT (ae 6) (ay))))) (aW)) (av (aI 8 iw.nd (bD (aT (aG hr.units1) (ae 1) (ae 3) (fun _ _=>rfl)) T.cl_Row T.me_Row_growth_paper (zW T) hr.le T.b_11 bn (ag (ae 6) (ag (ae 7) (ar))))) (av (aI 9 iw.nd (aN dq (aN dw (ae 0) (ay)) (ay))) (av (bc (x_w (pO (ba (cH hr.units150) (be cA T.z_len Mn (ag (ae 8) (ar))) (ay)) (mO (ba oLt (ae 9) (ay))))) (az (aL (ae 8))) (aW)) (av (aI 10 iw.nd (aN dq (aN dw (ae 0) (ay)) (be cA T.z_len Mn (ag (ae 8) (ar))))) (av (bc (ba (cH hr.units150) (ae 9) (ay)) (az (aL (qT Jk T.z_list boot_list (ag (ae 8) (ar))))) (aW)) (av (bc (ba (cH hr.units150) (ae 9) (ay)) (az (aL (aN bT (eZ fA (ae 8) (fh) (fc (ae 10))) (eZ fA (ae 8) (fc (aN bT (ae 10) (ay))) (fh))))) (aW)) (av (bc (ba (cH hr.units150) (ae 9) (ay)) (az (aL (aN bT (aN bT (eZ fA (ae 8) (fh) (fc (ae 10))) (bJ (ag (aN dq (aN dw (ae 0) (ay)) (ay)) (ar)))) (eZ fA (ae 8) (fc (aN bT (ae 10) (ay))) (fh))))) (aW)) (az (aL (aN bT (eZ fA (ae 8) (fc (ay)) (fh)) (eZ fA (ae 8) (fh) (fc (ay))))))))))))))))
theorem GJ:aQ P w K mg base (CX1 P w) 3 A.a_46 A.d_46 ["thing"] (pP K A):=
 T.f_46.f.okS HK (CQ K A) (II T.1) fun _ _ _ _ _ _ hr=>
 az (aL (dE (be jx T.z_isinstance Np (ag (ae 0) (ag (iE T.z_tuple QN) (ar)))) (dE (mP (cH hr.units150) (be cA T.z_len Mn (ag (ae 0) (ar))) (ay)) (dE (bf (uV T) hr.le T.f_44 (ag (aT (aG hr.units1) (ae 0) (ay) (fun _ _=>rfl)) (ar))) (fu (bf (mI T) hr.le T.f_49 (ag (aT (aG hr.units1) (ae 0) (ay) (fun _ _=>rfl)) (ar))))))))
theorem tQ:aQ P w K mg base (CX1 P w) 4 A.a_35 A.d_35 ["thing"] (kN K A):=
 T.f_35.f.okS IV (Cv K A) (Gj T.1) fun _ _ _ _ _ _ hr=>
 az (bc (cY (cF (bf (GJ T) hr.le T.f_46 (ag (ae 0) (ar))))) (az (dN)) (aW))
theorem lu:kP P w K mg base 1 (kg K A):=fun ts hts=>by
 simp only[kg,LG,MF,or_false]at hts
 rcases hts with rfl|rfl
 ·exact(Gs T).mono (by decide)
 ·exact(Fv T).mono (by decide)
theorem JF (cdv:tx)(Ar:Mq)(outer:List Env)(s:If)(H:Hp)(E:XK)
  (hr:bj 4 (Ar.deeper (envOfC "Desk.check_new" (au s_2) s.heap.objs.size A.a_2 cdv))):PSs (cM (CX1 P w) P w K mg base ["self","head"] "Desk.check_new" (au s_2) A.a_2 cdv Ar outer s H E) (aS s_2) (T_2 K A E):=QSs.out (
 av (bW (bf (tQ T) hr.le T.f_35 (ag (ae 1) (ar)))) (av (bc (cY (cF (iV (lu T) hr.le bn (ae 0) T.cl_Desk T.na_Desk_asks_seal (ag (ae 1) (ar))))) (az (iZ T.er_Unsealed T.mc_Unsealed eN)) (aW)) (az (bc (ba oLt (aT (aG hr.units1) (ae 1) (ay) (fun _ _=>rfl)) (aT (aG hr.units1) (cS (ae 0)) (ay) (fun _ _=>rfl))) (az (iZ T.er_Elder T.mc_Elder eN)) (aW)))))
theorem Fs:aQ P w K mg base (CX1 P w) 5 A.a_2 A.d_2 ["self","head"] (rl K A):=
 T.f_2.okX Jr (Ig K A) (fun cdv Ar outer s H vs Q E hr h=>⟨_,JF T cdv Ar outer s H E hr,JC T.1 vs H Q E h⟩)
theorem IG:aQ P w K mg base (CX1 P w) 2 A.a_41 A.d_41 ["count","elder"] (pK K A):=
 T.f_41.f.okS gZ (De K A) (Il T.1) fun _ _ _ _ _ _ hr=>
 av (aI 2 gZ.nd (dH (ar))) (av (aI 3 gZ.nd (ae 1)) (av (aI 4 gZ.nd (ae 0)) (av (sB (qU oLt oLt (ay) (ae 3) (ae 4)) (av (aI 5 gZ.nd (bf (lO T) hr.le T.f_42 (ag (ae 4) (ar)))) (az (bc (ba oLe (ae 3) (ae 5)) (av (bW (dU Mb LS LW bH (ae 2) (ag (ay) (ar)))) (az (aI 4 gZ.nd (ae 5)))) (av (bW (dU Mb LS LW bH (ae 2) (ag (ay) (ar)))) (av (aI 3 gZ.nd (aN fo (ae 3) (ae 5))) (az (aI 4 gZ.nd (aN fo (ae 4) (ae 5))))))))) MZ) (az (aL (ae 2))))))
theorem Ag:aQ P w K mg base (CX1 P w) 3 A.a_34 A.d_34 ["many","thing"] (lM K A):=
 T.f_34.f.okS HR (EO K A) (Ja T.1) fun _ _ _ _ _ _ hr=>
 az (aL (dE (be jx T.z_isinstance Np (ag (ae 1) (ag (iE T.z_tuple QN) (ar)))) (dE (mP (cH hr.units150) (be cA T.z_len Mn (ag (ae 1) (ar))) (ae 0)) (fu (be (DC rfl) T.z_all L2.wC (ag (qM (ys:=[]) (by exact⟨rfl,by decide+kernel,by decide+kernel,rfl,by decide+kernel,by decide+kernel⟩) (by exact .nil) (fE (ae 1)) (fun C s H fp=>gM) (fun C s H fp=>(bf (mI T) hr.le T.f_49 (ag (ae 0) (ar))))) (ar)))))))
theorem tK:aQ P w K mg base (CX1 P w) 1 A.a_52 A.d_52 ["turn","own","aside"] (kA K A):=
 T.f_52.f.okS Hz (DJ K A) (FD T.1) fun _ _ _ _ _ _ hr=>
 az (aL (uJ (ba (cH hr.units150) (ae 0) (ay)) (bJ (ag (cw) (ag (ae 1) (ag (ae 2) (ar))))) (bJ (ag (cw) (ag (ae 2) (ag (ae 1) (ar)))))))
theorem Gx:aQ P w K mg base (CX1 P w) 6 A.a_38 A.d_38 ["stamper","count","elder","steps"] (pQ K A):=
 T.f_38.f.okS ia (BO K A) (Jn T.1) fun _ _ _ _ _ _ hr=>
 av (aI 4 ia.nd (dH (ar))) (av (aI 5 ia.nd (dH (ar))) (av (aI 6 ia.nd (aT (aG hr.units1) (ae 3) (ay) (fun _ _=>rfl))) (av (aI 7 ia.nd (aT (aG hr.units1) (ae 3) (ay) (fun _ _=>rfl))) (av (hU 8 ia.nd (fE (aT (aG hr.units1) (ae 3) (ay) (fun _ _=>rfl))) (av (bW (dU Mb LS LW bH (ae 4) (ag (bf (tK T) hr.le T.f_52 (ag (aT (aG hr.units1) (ae 8) (ay) (fun _ _=>rfl)) (ag (ae 6) (ag (aT (aG hr.units1) (ae 8) (ay) (fun _ _=>rfl)) (ar))))) (ar)))) (av (aI 6 ia.nd (fH (eR T) hr.le bn (ae 0) (ag (aT (aG hr.units1) (ae 4) (gb (ay)) (fun _ _=>rfl)) (ar)))) (az (bc (ba (cH hr.units150) (aT (aG hr.units1) (ae 8) (ay) (fun _ _=>rfl)) (ay)) (av (bW (dU Mb LS LW bH (ae 5) (ag (bf (tK T) hr.le T.f_52 (ag (aT (aG hr.units1) (ae 8) (ay) (fun _ _=>rfl)) (ag (ae 7) (ag (aT (aG hr.units1) (ae 8) (ay) (fun _ _=>rfl)) (ar))))) (ar)))) (az (aI 7 ia.nd (fH (eR T) hr.le bn (ae 0) (ag (aT (aG hr.units1) (ae 5) (gb (ay)) (fun _ _=>rfl)) (ar)))))) (aW))))) MZ) (av (bW (dU Mb LS LW bH (ae 4) (ag (bJ (ag (cw) (ag (ae 1) (ag (ae 6) (ar))))) (ar)))) (av (bW (dU Mb LS LW bH (ae 5) (ag (bJ (ag (cw) (ag (ae 2) (ag (ae 7) (ar))))) (ar)))) (az (aL (bJ (ag (ae 4) (ag (ae 5) (ar))))))))))))
theorem Gk:aQ P w K mg base (CX1 P w) 1 A.a_60 A.d_60 ["turns","marks"] (pX K A):=
 T.f_60.f.okS ji (Ea K A) (Hl T.1) fun _ _ _ _ _ _ hr=>
 av (aI 2 ji.nd (dH (ar))) (av (aI 3 ji.nd (ay)) (av (aI 4 ji.nd (aN fo (be cA T.z_len Mn (ag (ae 1) (ar))) (ay))) (av (hU 5 ji.nd (fE (ae 0)) (az (bc (ba (cH hr.units150) (ae 5) (ay)) (av (bW (dU Mb LS LW bH (ae 2) (ag (bJ (ag (ae 5) (ag (aT (aG hr.units1) (ae 1) (ae 4) (fun _ _=>rfl)) (ar)))) (ar)))) (az (aI 4 ji.nd (aN fo (ae 4) (ay))))) (av (bW (dU Mb LS LW bH (ae 2) (ag (bJ (ag (ae 5) (ag (aT (aG hr.units1) (ae 1) (ae 3) (fun _ _=>rfl)) (ar)))) (ar)))) (az (aI 3 ji.nd (aN bT (ae 3) (ay))))))) MZ) (az (aL (bJ (ag (aT (aG hr.units1) (ae 1) (ae 3) (fun _ _=>rfl)) (ag (ve T.z_list T.z_reversed rfl (ag (ae 2) (ar))) (ar)))))))))
theorem GW (cdv:tx)(Ar:Mq)(outer:List Env)(s:If)(H:Hp)(E:XK)
  (hr:bj 6 (Ar.deeper (envOfC "growth_terms" (au mW) s.heap.objs.size A.a_40 cdv))):PSs (cM (CX1 P w) P w K mg base ["stamper","count","elder","marks","turns","younger"] "growth_terms" (au mW) A.a_40 cdv Ar outer s H E) (aS mW) (Cy K A E):=QSs.out (
 av (bc (cY (cF (bf (zy T) hr.le T.f_45 (ag (ae 1) (ag (ae 2) (ar)))))) (az (iZ T.er_NoPlace T.mc_NoPlace eN)) (aW)) (av (aI 4 tY.nd (bf (IG T) hr.le T.f_41 (ag (ae 1) (ag (ae 2) (ar))))) (av (bc (cY (cF (bf (Ag T) hr.le T.f_34 (ag (uJ (ba (cH hr.units150) (ae 1) (ay)) (ay) (aN bT (be cA T.z_len Mn (ag (ae 4) (ar))) (ay))) (ag (ae 3) (ar)))))) (az (iZ T.er_NoPaper T.mc_NoPaper eN)) (aW)) (av (bc (ba (cH hr.units150) (ae 2) (ay)) (av (aI 5 tY.nd (uJ (ba (cH hr.units150) (ae 1) (ay)) (bf (tU T) hr.le T.f_62 (ag (ae 0) (ar))) (dH (ag (bJ (ag (cw) (ag (ae 1) (ag (aT (aG hr.units1) (ae 3) (ay) (fun _ _=>rfl)) (ar))))) (ar))))) (az (aL (bJ (ag (ae 5) (ag (bf (tU T) hr.le T.f_62 (ag (ae 0) (ar))) (ar))))))) (aW)) (az (aL (bf (Gx T) hr.le T.f_38 (ag (ae 0) (ag (ae 1) (ag (ae 2) (ag (bf (Gk T) hr.le T.f_60 (ag (ae 4) (ag (ae 3) (ar)))) (ar))))))))))))
theorem Iu:aQ P w K mg base (CX1 P w) 7 A.a_40 A.d_40 ["stamper","count","elder","marks"] (pT K A):=
 T.f_40.f.okX tY (BB K A) (fun cdv Ar outer s H vs Q E hr h=>⟨_,GW T cdv Ar outer s H E hr,FY T.1 vs H Q E h⟩)
theorem Ka:aQ P w K mg base (CX1 P w) 1 A.a_0 A.d_0 ["self","due","came"] (tR K A):=
 T.f_0.okS JJ (HZ K A) (JN T.1) fun _ _ _ _ _ _ hr=>
 av (my (ae 0) (ae 1)) (az (my (ae 0) (ae 2)))
theorem HS (cdv:tx)(Ar:Mq)(outer:List Env)(s:If)(H:Hp)(E:XK)
  (hr:bj 7 (Ar.deeper (envOfC "growth_answer" (au nA) s.heap.objs.size A.a_39 cdv))):PSs (cM (CX1 P w) P w K mg base ["stamper","head","elder","marks","terms","came"] "growth_answer" (au nA) A.a_39 cdv Ar outer s H E) (aS nA) (Eu K A E):=QSs.out (
 av (bW (bf (tQ T) hr.le T.f_35 (ag (ae 1) (ar)))) (av (aI 4 uq.nd (iS (Iu T) hr.le T.f_40.m T.f_40.f.kp T.f_40.b fv (ag (ae 0) (ag (aT (aG hr.units1) (ae 1) (ay) (fun _ _=>rfl)) (ag (ae 2) (ag (ae 3) (ar))))))) (av (aI 5 uq.nd (fH (eR T) hr.le bn (ae 0) (ag (aT (aG hr.units1) (aT (aG hr.units1) (ae 4) (ay) (fun _ _=>rfl)) (gb (ay)) (fun _ _=>rfl)) (ar)))) (av (bc (ba (jk hr.units150) (ae 5) (aT (aG hr.units1) (ae 1) (ay) (fun _ _=>rfl))) (az (ql T.em_Broken (Ka T) hr.le T.b_0 T.mc_Broken eN (ag (aT (aG hr.units1) (ae 1) (ay) (fun _ _=>rfl)) (ag (ae 5) (ar))))) (aW)) (az (aL (fH (eR T) hr.le bn (ae 0) (ag (aT (aG hr.units1) (aT (aG hr.units1) (ae 4) (ay) (fun _ _=>rfl)) (gb (ay)) (fun _ _=>rfl)) (ar)))))))))
theorem Ha:aQ P w K mg base (CX1 P w) 8 A.a_39 A.d_39 ["stamper","head","elder","marks"] (pd K A):=
 T.f_39.f.okX uq (DI K A) (fun cdv Ar outer s H vs Q E hr h=>⟨_,HS T cdv Ar outer s H E hr,Gp T.1 vs H Q E h⟩)
theorem Kf:aQ P w K mg base (CX1 P w) 1 A.a_7 A.d_7 ["self","due","came"] (uR K A):=
 T.f_7.okS Lk (IJ K A) (KW T.1) fun _ _ _ _ _ _ hr=>
 av (my (ae 0) (ae 1)) (az (my (ae 0) (ae 2)))
theorem Kg (cdv:tx)(Ar:Mq)(outer:List Env)(s:If)(H:Hp)(E:XK)
  (hr:bj 8 (Ar.deeper (envOfC "Desk.hear" (au s_4) s.heap.objs.size A.a_4 cdv))):PSs (cM (CX1 P w) P w K mg base ["self","head","marks","came"] "Desk.hear" (au s_4) A.a_4 cdv Ar outer s H E) (aS s_4) (T_4 K A E):=QSs.out (
 av (bW (bD (ae 0) T.cl_Desk T.me_Desk_check_new (Fs T) hr.le T.b_2 fv (ag (ae 1) (ar)))) (av (aI 3 Ep.nd (iS (Ha T) hr.le T.f_39.m T.f_39.f.kp T.f_39.b fv (ag (cS (ae 0)) (ag (ae 1) (ag (aT (aG hr.units1) (cS (ae 0)) (ay) (fun _ _=>rfl)) (ag (ae 2) (ar))))))) (av (bc (ba (jk hr.units150) (ae 3) (aT (aG hr.units1) (cS (ae 0)) (ay) (fun _ _=>rfl))) (az (ql T.em_Parted (Kf T) hr.le T.b_7 T.mc_Parted eN (ag (aT (aG hr.units1) (cS (ae 0)) (ay) (fun _ _=>rfl)) (ag (ae 3) (ar))))) (aW)) (av (dG (ae 0) (ae 1)) (az (aL (ae 1)))))))
theorem BQ:aQ P w K mg base (CX1 P w) 9 A.a_4 A.d_4 ["self","head","marks"] (rF K A):=
 T.f_4.okX Ep (HH K A) (fun cdv Ar outer s H vs Q E hr h=>⟨_,Kg T cdv Ar outer s H E hr,JD T.1 vs H Q E h⟩)
theorem HM (cdv:tx)(Ar:Mq)(outer:List Env)(s:If)(H:Hp)(E:XK)
  (hr:bj 0 (Ar.deeper (envOfC "told" (au nP) s.heap.objs.size A.a_61 cdv))):PSs (cM (CX1 P w) P w K mg base ["answer"] "told" (au nP) A.a_61 cdv Ar outer s H E) (aS nP) (Co K A E):=QSs.out (
 av (bc (ba JM (ae 0) (tI)) (az (iZ T.er_Silent T.mc_Silent eN)) (aW)) (az (aL (ae 0))))
theorem zA:aQ P w K mg base (CX1 P w) 1 A.a_61 A.d_61 ["answer"] (lY K A):=
 T.f_61.f.okX GZ (EE K A) (fun cdv Ar outer s H vs Q E hr h=>⟨_,HM T cdv Ar outer s H E hr,Iw T.1 vs H Q E h⟩)
theorem HG:aQ P w K mg base (CX1 P w) 2 A.a_21 A.d_21 ["self"] (pR K A):=
 T.f_21.okS IM (BA K A) (IS T.1) fun _ _ _ _ _ _ hr=>
 az (aL (iV (lu T) hr.le bn (ae 0) T.cl_Spoken T.na_Spoken_answerer (ag (bJ (ag (cw) (ar))) (ar))))
theorem GD:aQ P w K mg base (CX1 P w) 2 A.a_20 A.d_20 ["self","count","elder"] (pL K A):=
 T.f_20.okS IL (Fc K A) (IF T.1) fun _ _ _ _ _ _ hr=>
 az (aL (iV (lu T) hr.le bn (ae 0) T.cl_Spoken T.na_Spoken_answerer (ag (bJ (ag (cw) (ag (ae 1) (ag (ae 2) (ar))))) (ar))))
theorem KH (cdv:tx)(Ar:Mq)(outer:List Env)(s:If)(H:Hp)(E:XK)
  (hr:bj 9 (Ar.deeper (envOfC "Desk.follow" (au s_3) s.heap.objs.size A.a_3 cdv))):PSs (cM (CX1 P w) P w K mg base ["self","line","head"] "Desk.follow" (au s_3) A.a_3 cdv Ar outer s H E) (aS s_3) (T_3 K A E):=QSs.out (
 av (aI 2 Ck.nd (iS (zA T) hr.le T.f_61.m T.f_61.f.kp T.f_61.b fv (ag (jg (ae 1) T.cl_Spoken T.me_Spoken_newest (HG T) hr.le T.b_21 bn) (ar)))) (av (bW (bD (ae 0) T.cl_Desk T.me_Desk_check_new (Fs T) hr.le T.b_2 fv (ag (ae 2) (ar)))) (az (aL (bD (ae 0) T.cl_Desk T.me_Desk_hear (BQ T) hr.le T.b_4 fv (ag (ae 2) (ag (iS (zA T) hr.le T.f_61.m T.f_61.f.kp T.f_61.b fv (ag (bD (ae 1) T.cl_Spoken T.me_Spoken_growth (GD T) hr.le T.b_20 bn (ag (aT (aG hr.units1) (ae 2) (ay) (fun _ _=>rfl)) (ag (aT (aG hr.units1) (cS (ae 0)) (ay) (fun _ _=>rfl)) (ar)))) (ar))) (ar))))))))
theorem Ld:aQ P w K mg base (CX1 P w) 10 A.a_3 A.d_3 ["self","line"] (ut K A):=
 T.f_3.okX Ck (Gg K A) (fun cdv Ar outer s H vs Q E hr h=>⟨_,KH T cdv Ar outer s H E hr,JS T.1 vs H Q E h⟩)
theorem Hq:aQ P w K mg base (CX1 P w) 1 A.a_19 A.d_19 ["self","say"] (pV K A):=
 T.f_19.okS FR (CY K A) (Fy T.1) fun _ _ _ _ _ _ hr=>
 az (dG (ae 0) (ae 1))
theorem GU (B:BM mg base)(C:NX base A.k_26 A.t_26)(Ar:Mq)(outer:List Env)(s:If)(H:Hp)(E:XK)
  (hr:bj 2 (Ar.deeper (envOfC "_law_line" (au lC) s.heap.objs.size A.a_26 (.ref A.k_26)))):QMs (cM (CX1 P w) P w K mg base ["_law_head","_law_paper_here","_law_say"] "_law_line" (au lC) A.a_26 (.ref A.k_26) Ar outer s H E).nox (aS lC) (BJ K A (s.heap.objs.size+1) (s.heap.objs.size+1+1)):=(
 dY (dX (zV 2 Ae.nd B C rfl (by rfl) (by simp<;>omega) rfl rfl rfl rfl (fun _ _ _ _ _ us hl=>by obtain⟨_,rfl⟩:=L2.fe hl;rfl))) (lP (mG (mX T.mk_Spoken (Hq T) hr.le T.mc_Spoken T.b_19 bn (ag (ae 2) (ar))))))
theorem Ic:aQ P w K mg base (CX1 P w) 3 A.a_26 A.d_26 ["_law_head","_law_paper_here"] (pF K A):=
 T.f_26.f.okM (caps:=fun L=>[(0,L+1),(1,L+1+1)]) T.kc_26 Ae (Fh K A) (fun L p hp=>by simp only[LG,MF,or_false]at hp;rcases hp with rfl|rfl<;>exact⟨_,rfl,rfl,rfl⟩) (fun L=>by simp) (fun Ar outer s H vs Q E hr h=>⟨_,QMs.nox (GU T T.B T.C_26 Ar outer s H E hr),Hr T.1 (s.heap.objs.size+1) (s.heap.objs.size+1+1) (by simp) vs H Q E h⟩)
theorem FF:aQ P w K mg base (CX1 P w) 11 A.a_33 A.d_33 ["_law_desk","_law_cell","_law_head","_law_paper_here"] (il K A):=
 T.f_33.f.okS kM (DP K A) (GK T.1) fun _ _ _ _ _ E hr=>
 av (aI 4 kM.nd (tI)) (av (Fx (fun pn' E' EH hEH=>az (bc (ba (cH hr.units150) (aN dq (ae 1) (ay)) (ay)) (az (aI 4 kM.nd (bD (ae 0) T.cl_Desk T.me_Desk_hear (BQ T) hr.le T.b_4 hEH (ag (ae 2) (ag (ae 3) (ar)))))) (az (aI 4 kM.nd (bD (ae 0) T.cl_Desk T.me_Desk_follow (Ld T) hr.le T.b_3 hEH (ag (bf (Ic T) hr.le T.f_26 (ag (ae 2) (ag (ae 3) (ar)))) (ar))))))) (Hg 5 kM.nd T.eo_StampError T.mc_StampError (fun a=>az (aI 4 kM.nd (dH (ag (cw) (ag (be HJ T.z_isinstance Np (ag (ae 5) (ag (iE T.z_ValueError oW) (ar)))) (ar)))))) (Ex)) (aW)) (az (aL (ae 4))))
theorem Jl:aQ P w K mg base (CX1 P w) 217 A.a_25 A.d_25 ["_law_rows","_law_books_here","_law_k","_law_count","_law_held","_law_paper_here"] (gz K A):=
 T.f_25.f.okS GP (EY K A) (IH T.1) fun _ _ _ _ _ _ hr=>
 av (bc (x_w (pO (ba oLt (ae 3) (be cA T.z_len Mn (ag (ae 4) (ar)))) (mO (ba (jk hr.units150) (eZ fA (aT (aG hr.units1) (ae 1) (ae 2) (fun _ _=>rfl)) (fh) (fc (be cA T.z_len Mn (ag (ae 4) (ar))))) (ae 4))))) (az (aL (gY))) (aW)) (az (aL (dE (be jx T.z_isinstance Np (ag (ae 5) (ag (iE T.z_tuple QN) (ar)))) (fu (mP (cH hr.units150) (ae 5) (bD (aT (aG hr.units1) (ae 0) (ae 2) (fun _ _=>rfl)) T.cl_Row T.me_Row_growth_paper (zW T) hr.le T.b_11 bn (ag (ae 3) (ag (be cA T.z_len Mn (ag (ae 4) (ar))) (ar)))))))))
theorem zo:aQ P w K mg base (CX1 P w) 3 A.a_47 A.d_47 ["count","place"] (lZ K A):=
 T.f_47.f.okS GT (CM K A) (Hw T.1) fun _ _ _ _ _ _ hr=>
 az (aL (dE (bf (uV T) hr.le T.f_44 (ag (ae 0) (ar))) (dE (bf (kK T) hr.le T.f_51 (ag (ae 1) (ar))) (fu (iH oLe oLt (ay) (ae 1) (ae 0))))))
theorem Gu:aQ P w K mg base (CX1 P w) 4 A.a_13 A.d_13 ["self","count","place"] (pf K A):=
 T.f_13.okS Hm (ED K A) (FI T.1) fun _ _ _ _ _ _ hr=>
 az (aL (dE (bf (zo T) hr.le T.f_47 (ag (ae 1) (ag (ae 2) (ar)))) (fu (mP oLe (ae 1) (jg (ae 0) T.cl_Row T.me_Row_size (ua T) hr.le T.b_16 bn)))))
theorem zL:aQ P w K mg base (CX1 P w) 2 A.a_63 A.d_63 ["place","many"] (ma K A):=
 T.f_63.f.okS ig (Dz K A) (IW T.1) fun _ _ _ _ _ _ hr=>
 av (aI 2 ig.nd (dH (ar))) (av (aI 3 ig.nd (ay)) (av (aI 4 ig.nd (ae 1)) (av (sB (ba oGt (ae 4) (ay)) (av (aI 5 ig.nd (bf (lO T) hr.le T.f_42 (ag (ae 4) (ar)))) (az (bc (ba oLt (ae 0) (aN bT (ae 3) (ae 5))) (av (bW (dU Mb LS LW bH (ae 2) (ag (ay) (ar)))) (az (aI 4 ig.nd (ae 5)))) (av (bW (dU Mb LS LW bH (ae 2) (ag (ay) (ar)))) (av (aI 3 ig.nd (aN bT (ae 3) (ae 5))) (az (aI 4 ig.nd (aN fo (ae 4) (ae 5))))))))) MZ) (az (aL (ae 2))))))
theorem GO:aQ P w K mg base (CX1 P w) 146 A.a_15 A.d_15 ["self","count","place"] (mB K A):=
 T.f_15.okS gG (DG K A) (HA T.1) fun _ _ _ _ _ _ hr=>
 av (bc (cY (cF (bD (ae 0) T.cl_Row T.me_Row_has_place (Gu T) hr.le T.b_13 bn (ag (ae 1) (ag (ae 2) (ar)))))) (az (dN)) (aW)) (av (aI 3 gG.nd (dH (ar))) (av (aI 4 gG.nd (ay)) (av (aI 5 gG.nd (ae 1)) (av (hU 6 gG.nd (fE (bf (zL T) hr.le T.f_63 (ag (ae 2) (ag (ae 1) (ar))))) (av (aI 7 gG.nd (bf (lO T) hr.le T.f_42 (ag (ae 5) (ar)))) (az (bc (ba (cH hr.units150) (ae 6) (ay)) (av (bW (dU Mb LS LW bH (ae 3) (ag (bD (ae 0) T.cl_Row T.me_Row_top_of (ju T 70) hr.le T.b_17 bn (ag (aN bT (ae 4) (ae 7)) (ag (aN fo (ae 5) (ae 7)) (ar)))) (ar)))) (az (aI 5 gG.nd (ae 7)))) (av (bW (dU Mb LS LW bH (ae 3) (ag (bD (ae 0) T.cl_Row T.me_Row_top_of (ju T 70) hr.le T.b_17 bn (ag (ae 4) (ag (ae 7) (ar)))) (ar)))) (av (aI 4 gG.nd (aN bT (ae 4) (ae 7))) (az (aI 5 gG.nd (aN fo (ae 5) (ae 7))))))))) MZ) (az (aL (bJ (ag (aT (aG hr.units1) (cS (ae 0)) (ae 2) (fun _ _=>rfl)) (ag (qT Cz T.z_tuple QN (ag (ae 3) (ar))) (ar))))))))))
theorem Hy:aQ P w K mg base (CX1 P w) 4 A.a_48 A.d_48 ["turns","thing"] (pq K A):=
 T.f_48.f.okS IB (EM K A) (GG T.1) fun _ _ _ _ _ _ hr=>
 av (bc (x_w (pO (cY (cF (be jx T.z_isinstance Np (ag (ae 1) (ag (iE T.z_tuple QN) (ar)))))) (mO (ba (jk hr.units150) (be cA T.z_len Mn (ag (ae 1) (ar))) (ay))))) (az (aL (gY))) (aW)) (az (aL (dE (bf (mI T) hr.le T.f_49 (ag (aT (aG hr.units1) (ae 1) (ay) (fun _ _=>rfl)) (ar))) (fu (bf (Ag T) hr.le T.f_34 (ag (be cA T.z_len Mn (ag (ae 0) (ar))) (ag (aT (aG hr.units1) (ae 1) (ay) (fun _ _=>rfl)) (ar))))))))
theorem Iz:aQ P w K mg base (CX1 P w) 6 A.a_59 A.d_59 ["stamper","count","place","paper"] (pI K A):=
 T.f_59.f.okS ph (Ez K A) (IU T.1) fun _ _ _ _ _ _ hr=>
 av (bc (cY (cF (bf (zo T) hr.le T.f_47 (ag (ae 1) (ag (ae 2) (ar)))))) (az (dN)) (aW)) (av (aI 4 ph.nd (bf (zL T) hr.le T.f_63 (ag (ae 2) (ag (ae 1) (ar))))) (av (bc (cY (cF (bf (Hy T) hr.le T.f_48 (ag (ae 4) (ag (ae 3) (ar)))))) (az (dN)) (aW)) (av (aI 5 ph.nd (dH (ag (bJ (ag (cw) (ag (aT (aG hr.units1) (ae 3) (ay) (fun _ _=>rfl)) (ar)))) (ar)))) (av (hU 6 ph.nd (Ct T.z_reversed (ag (wn T.z_list T.z_zip rfl (ag (ae 4) (ag (aT (aG hr.units1) (ae 3) (ay) (fun _ _=>rfl)) (ar)))) (ar))) (az (bW (dU Mb LS LW bH (ae 5) (ag (bf (tK T) hr.le T.f_52 (ag (aT (aG hr.units1) (ae 6) (ay) (fun _ _=>rfl)) (ag (fH (eR T) hr.le bn (ae 0) (ag (aT (aG hr.units1) (ae 5) (gb (ay)) (fun _ _=>rfl)) (ar))) (ag (aT (aG hr.units1) (ae 6) (ay) (fun _ _=>rfl)) (ar))))) (ar))))) MZ) (av (bW (dU Mb LS LW bH (ae 5) (ag (bJ (ag (cw) (ag (ae 1) (ag (fH (eR T) hr.le bn (ae 0) (ag (aT (aG hr.units1) (ae 5) (gb (ay)) (fun _ _=>rfl)) (ar))) (ar))))) (ar)))) (az (aL (ae 5))))))))
theorem GH:aQ P w K mg base (CX1 P w) 7 A.a_58 A.d_58 ["stamper","count","place","paper"] (pY K A):=
 T.f_58.f.okS GL (Ec K A) (FS T.1) fun _ _ _ _ _ _ hr=>
 az (aL (fH (eR T) hr.le bn (ae 0) (ag (aT (aG hr.units1) (bf (Iz T) hr.le T.f_59 (ag (ae 0) (ag (ae 1) (ag (ae 2) (ag (ae 3) (ar)))))) (gb (ay)) (fun _ _=>rfl)) (ar))))
theorem Ab:aQ P w K mg base (CX1 P w) 8 A.a_57 A.d_57 ["stamper","head","place","paper"] (kI K A):=
 T.f_57.f.okS zr (CD K A) (Hb T.1) fun _ _ _ _ _ _ hr=>
 av (bW (bf (tQ T) hr.le T.f_35 (ag (ae 1) (ar)))) (av (aI 4 zr.nd (bf (GH T) hr.le T.f_58 (ag (ae 0) (ag (aT (aG hr.units1) (ae 1) (ay) (fun _ _=>rfl)) (ag (ae 2) (ag (ae 3) (ar))))))) (av (bc (ba (jk hr.units150) (ae 4) (aT (aG hr.units1) (ae 1) (ay) (fun _ _=>rfl))) (az (dN)) (aW)) (az (aL (aT (aG hr.units1) (ae 3) (ay) (fun _ _=>rfl))))))
theorem FN:aQ P w K mg base (CX1 P w) 147 A.a_22 A.d_22 ["_law_stamper_here","_law_one","_law_other","_law_rows"] (pe K A):=
 T.f_22.f.okS mn (Fe K A) (FO T.1) fun _ _ _ _ _ _ hr=>
 av (aI 4 mn.nd (aT (aG hr.units1) (aT (aG hr.units1) (ae 1) (ay) (fun _ _=>rfl)) (ay) (fun _ _=>rfl))) (av (hU 5 mn.nd (lH T.z_range (ag (ae 4) (ar))) (av (ux (ys:=["_law_rows","_law_place"]) 6 mn.nd (by exact⟨rfl,by decide+kernel,by decide+kernel,rfl,rfl,by decide+kernel,by decide+kernel⟩) (by exact .cons rfl (by first|exact .inl rfl|exact .inr rfl) rfl (.cons rfl (by first|exact .inl rfl|exact .inr rfl) rfl (.nil))) (fE (dH (ag (ae 1) (ag (ae 2) (ar))))) (fun C s H fp=>gM) (fun C s H fp=>(bD (aT (aG hr.units1) (ae 2) (ae 0) (fun _ _=>rfl)) T.cl_Row T.me_Row_place_paper (GO T) hr.le T.b_15 bn (ag (aT (aG hr.units1) (ae 1) (ay) (fun _ _=>rfl)) (ag (ae 3) (ar)))))) (av (aI 7 mn.nd (bf (Ab T) hr.le T.f_57 (ag (ae 0) (ag (aT (aG hr.units1) (ae 1) (ay) (fun _ _=>rfl)) (ag (ae 5) (ag (aT (aG hr.units1) (ae 6) (ay) (fun _ _=>rfl)) (ar))))))) (az (bc (ba (jk hr.units150) (bf (Ab T) hr.le T.f_57 (ag (ae 0) (ag (aT (aG hr.units1) (ae 2) (ay) (fun _ _=>rfl)) (ag (ae 5) (ag (aT (aG hr.units1) (ae 6) (ay) (fun _ _=>rfl)) (ar)))))) (ae 7)) (az (aL (gY))) (aW))))) MZ) (az (aL (gY))))
theorem Ie (B:BM mg base)(C:NX base A.k_53 A.t_53)(Ar:Mq)(outer:List Env)(s:If)(H:Hp)(E:XK)
  (hr:bj 217 (Ar.deeper (envOfC "law" (au lK) s.heap.objs.size A.a_53 (.ref A.k_53)))):QMs (cM (CX1 P w) P w K mg base ["_law_script","_law_stamper_here","_law_books_here","_law_rows","_law_desk","_law_held","_law_heads","_law_j","_law_k","_law_count","_law_mark","_law_head","_law_more","_law_paper_here","_law_told_here","_law_at"] "law" (au lK) A.a_53 (.ref A.k_53) Ar outer s H E).nox (aS lK) (EC K A (s.heap.objs.size+1)):=(
 dY (dX (aI 1 dB.nd (bf (Ge T) hr.le T.f_30 (ag (bf (mq T) hr.le T.f_24 (ag (ae 0) (ag (ay) (ar)))) (ar))))) (dY (dX (aI 2 dB.nd (bf (Ik T) hr.le T.f_23 (ag (ae 0) (ar))))) (dY (dX (kc (ys:=["_law_stamper_here"]) 3 dB.nd (by exact⟨rfl,by decide+kernel,by decide+kernel,rfl,by decide+kernel,by decide+kernel⟩) (by exact .cons rfl (by first|exact .inl rfl|exact .inr rfl) rfl (.nil)) (fE (ae 2)) (fun C s H fp=>gM) (fun C s H fp=>(bf (IK T) hr.le T.f_29 (ag (ae 1) (ag (ae 0) (ar))))))) (dY (dX (aI 4 dB.nd (mX T.mk_Desk (KD T) hr.le T.mc_Desk T.b_1 bn (ag (ae 1) (ag (ay) (ag (uM B C rfl (by rfl) (by simp<;>omega) rfl rfl rfl rfl (fun _ _ _ _ us hl=>by obtain⟨_,rfl⟩:=L2.fe hl;rfl)) (ar))))))) (dY (dX (aI 5 dB.nd (dH (ar)))) (dY (dX (aI 6 dB.nd (dH (ag (bJ (ag (ay) (ag (cS (ae 4)) (ar)))) (ar))))) (dY (dX (hU 7 dB.nd (qJ T.z_range (ag (ay) (ag (be (xo rfl) T.z_min boot_min (ag (be cA T.z_len Mn (ag (ae 0) (ar))) (ag (ay) (ar)))) (ar)))) (av (aI 8 dB.nd (aN dq (aT (aG hr.units1) (ae 0) (ae 7) (fun _ _=>rfl)) (ay))) (av (aI 9 dB.nd (aN dq (aN dw (aT (aG hr.units1) (ae 0) (ae 7) (fun _ _=>rfl)) (ay)) (aN bT (be cA T.z_len Mn (ag (aT (aG hr.units1) (ae 2) (ae 8) (fun _ _=>rfl)) (ar))) (ay)))) (av (aI 10 dB.nd (bD (aT (aG hr.units1) (ae 3) (ae 8) (fun _ _=>rfl)) T.cl_Row T.me_Row_mark_at (Gi T) hr.le T.b_14 bn (ag (ae 9) (ar)))) (av (aI 11 dB.nd (bJ (ag (ae 9) (ag (ae 10) (ar))))) (av (bc (ba (cH hr.units150) (aN dq (aN dw (aT (aG hr.units1) (ae 0) (ae 7) (fun _ _=>rfl)) (ay)) (ay)) (ay)) (az (aI 11 dB.nd (bJ (ag (ae 9) (ag (aN bT (aN Fq (ay) (ay)) (aN dq (aN dw (aT (aG hr.units1) (ae 0) (ae 7) (fun _ _=>rfl)) (ay)) (ay))) (ar)))))) (aW)) (av (aI 12 dB.nd (aN dq (aN tO (aT (aG hr.units1) (ae 0) (aN fo (ae 7) (ay)) (fun _ _=>rfl)) (ay)) (ay))) (av (aI 13 dB.nd (bf (IP T) hr.le T.f_28 (ag (ae 12) (ag (ae 3) (ag (ae 2) (ag (ae 8) (ag (ae 9) (ag (be cA T.z_len Mn (ag (ae 5) (ar))) (ar))))))))) (av (aI 14 dB.nd (bf (FF T) hr.le T.f_33 (ag (ae 4) (ag (aN dw (aT (aG hr.units1) (ae 0) (ae 7) (fun _ _=>rfl)) (ay)) (ag (ae 11) (ag (ae 13) (ar))))))) (av (bc (x_w (EX (ba (cH hr.units150) (aT (aG hr.units1) (ae 11) (ay) (fun _ _=>rfl)) (ae 10)) (Bf (cF (bf (Jl T) hr.le T.f_25 (ag (ae 3) (ag (ae 2) (ag (ae 8) (ag (ae 9) (ag (ae 5) (ag (ae 13) (ar)))))))))))) (av (aI 5 dB.nd (eZ fA (aT (aG hr.units1) (ae 2) (ae 8) (fun _ _=>rfl)) (fh) (fc (ae 9)))) (av (bW (dU Mb LS LW bH (ae 6) (ag (bJ (ag (ae 8) (ag (ae 11) (ar)))) (ar)))) (az (bc (ba (jk hr.units150) (ae 14) (ae 11)) (az (aL (gY))) (aW))))) (az (bc (ba (jk hr.units150) (ae 14) (dH (ag (cw) (ag (gY) (ar))))) (az (aL (gY))) (aW)))) (az (bc (ba (jk hr.units150) (cS (ae 4)) (aT (aG hr.units1) (aT (aG hr.units1) (ae 6) (gb (ay)) (fun _ _=>rfl)) (ay) (fun _ _=>rfl))) (az (aL (gY))) (aW)))))))))))) MZ)) (dY (dX (aI 15 dB.nd (aN dq (aN dw (bf (mq T) hr.le T.f_24 (ag (ae 0) (ag (ay) (ar)))) (ay)) (be cA T.z_len Mn (ag (ae 6) (ar)))))) (lP (mG (bf (FN T) hr.le T.f_22 (ag (ae 1) (ag (aT (aG hr.units1) (ae 6) (ae 15) (fun _ _=>rfl)) (ag (aT (aG hr.units1) (ae 6) (gb (ay)) (fun _ _=>rfl)) (ag (ae 3) (ar))))))))))))))))
theorem HL:aQ P w K mg base (CX1 P w) 218 A.a_53 A.d_53 ["_law_script"] (pJ K A):=
 T.f_53.f.okM (caps:=fun L=>[(1,L+1)]) T.kc_53 dB (DB K A) (fun L p hp=>by simp only[LG,MF,or_false]at hp;rcases hp with rfl<;>exact⟨_,rfl,rfl,rfl⟩) (fun L=>by simp) (fun Ar outer s H vs Q E hr h=>⟨_,QMs.nox (Ie T T.B T.C_53 Ar outer s H E hr),Gb T.1 (s.heap.objs.size+1) (by simp) vs H Q E h⟩)
omit T
def uI (P:LV)(w:Mx)(K:pv)(mg:Str->Option tx)(fa:Addr):Prop:=∃(fd:LI)(tabs:List (Addr×Addr))(sp:Sp),(∀(s:If)(v:tx),SR s fd ⟨[v],[]⟩ [("_law_script",v)])/\Sn K=true/\(∀t∈tabs,∃y∈(["writing","counting","_law_sure","_law_line","law"]:List Str),Pa K y=some t)/\(∀base:Heap,K.In base->base.Ns mainGlobals mg->BM mg base->(∀t∈tabs,NX base t.1 t.2)->aQ P w K mg base (CX1 P w) 218 fa fd ["_law_script"] sp)/\∀(H:Hp)(a:Addr)(ns:List Int),ns.length<=63->(∀t∈tabs,H t.2=some (.tbl #[]))->SqL K H a (ns.map V.int)->sp [.ref a] H (fun v _=>v=.bl true) fun _ _ _=>False
theorem Dv (T:Txt K mg A)(nt:Sn K=true)(tb_64:Pa K "writing"=some (A.k_64,A.t_64))(tb_36:Pa K "counting"=some (A.k_36,A.t_36))(tb_31:Pa K "_law_sure"=some (A.k_31,A.t_31))(tb_26:Pa K "_law_line"=some (A.k_26,A.t_26))(tb_53:Pa K "law"=some (A.k_53,A.t_53))(tdn:([A.t_64,A.t_36,A.t_31,A.t_26,A.t_53]:List Addr).Nodup):uI P w K mg A.a_53:=by
 refine⟨A.d_53,[(A.k_64,A.t_64),(A.k_36,A.t_36),(A.k_31,A.t_31),(A.k_26,A.t_26),(A.k_53,A.t_53)],pJ K A,T.f_53.f.bt,nt,?_,fun base _ _ B C=>?_,fun H a ns hl hO hS=>⟨a,ns,rfl,hS,hl,⟨hO (A.k_64,A.t_64) (by simp),hO (A.k_36,A.t_36) (by simp),hO (A.k_31,A.t_31) (by simp),hO (A.k_26,A.t_26) (by simp),hO (A.k_53,A.t_53) (by simp),tdn⟩,fun _=>rfl⟩⟩
 ·intro t ht
  simp only[LG,MF,or_false]at ht
  rcases ht with rfl|rfl|rfl|rfl|rfl
  ·exact⟨"writing",by simp,tb_64⟩
  ·exact⟨"counting",by simp,tb_36⟩
  ·exact⟨"_law_sure",by simp,tb_31⟩
  ·exact⟨"_law_line",by simp,tb_26⟩
  ·exact⟨"law",by simp,tb_53⟩
 ·exact HL ⟨T,B,C (A.k_64,A.t_64) (by simp),C (A.k_36,A.t_36) (by simp),C (A.k_31,A.t_31) (by simp),C (A.k_26,A.t_26) (by simp),C (A.k_53,A.t_53) (by simp)⟩
theorem ET {h:Heap}{fa:Addr}(X:K.In h)(G:h.Ns mainGlobals mg)(hfa:mg "law"=some (.ref fa)){x_51 x_49 x_50 x_56 x_66 x_6 x_64 x_5 x_36 x_31 x_30 x_24 x_23 x_8 x_9 x_29 x_43 x_62 x_55 x_1 x_44 x_45 x_16 x_12 x_42 x_18 x_17 x_14 x_10 x_11 x_28 x_46 x_35 x_2 x_41 x_34 x_52 x_38 x_60 x_40 x_0 x_39 x_7 x_4 x_61 x_21 x_20 x_3 x_19 x_26 x_33 x_25 x_47 x_13 x_63 x_15 x_48 x_59 x_58 x_57 x_22 x_53 y_Elder y_Unsealed y_NoPaper y_NoPlace y_Broken y_Parted y_Silent y_StampError y_Numbers y_Row y_Desk y_Spoken:Addr}{d0 d1 d2 d3 d4 d5 d6 d7 d8 d9 d10 d11 d12 d13 d14 d15 d16 d17 d18 d19 d20 d21 d22 d23 d24 d25 d26 d27 d28 d29 d30 d31 d32 d33 d34 d35 d36 d37 d38 d39 d40 d41 d42 d43 d44 d45 d46 d47 d48 d49 d50 d51 d52 d53 d54 d55 d56 d57 d58 d59 d60 d61:LI}{tc0 tc1:Tok}
  (bo_Numbers:NN K mainGlobals "Numbers"=some (some (.ref y_Numbers)))(bo_Row:NN K mainGlobals "Row"=some (some (.ref y_Row)))(bo_Desk:NN K mainGlobals "Desk"=some (some (.ref y_Desk)))(bo_Spoken:NN K mainGlobals "Spoken"=some (some (.ref y_Spoken)))(bc_Elder:NN K mainGlobals "Elder"=some (some (.ref y_Elder)))(bc_Unsealed:NN K mainGlobals "Unsealed"=some (some (.ref y_Unsealed)))(bc_NoPaper:NN K mainGlobals "NoPaper"=some (some (.ref y_NoPaper)))(bc_NoPlace:NN K mainGlobals "NoPlace"=some (some (.ref y_NoPlace)))(bc_Broken:NN K mainGlobals "Broken"=some (some (.ref y_Broken)))(bc_Parted:NN K mainGlobals "Parted"=some (some (.ref y_Parted)))(bc_Silent:NN K mainGlobals "Silent"=some (some (.ref y_Silent)))(bc_StampError:NN K mainGlobals "StampError"=some (some (.ref y_StampError)))(h0:Fa K "is_whole" "is_whole" xk x_51 d0)(h1:Fa K "is_stamp" "is_stamp" yg x_49 d1)(h2:Fa K "is_term" "is_term" xa x_50 d2)(h3:Fa K "part_form" "part_form" yj x_56 d3)(h4:Fa K "written" "written" yb x_66 d4)(a5:LP K (.ref y_Numbers) "number_of"=some (some (.ref x_6)))(h5:Fun K "number_of" "Numbers.number_of" s_6 x_6 d5)(fn5:Oc K (.ref x_6)=true)(h6:Fa K "writing" "writing" lh x_64 d6)(tb_64:(Pa K "writing").isSome=true)(a7:LP K (.ref y_Numbers) "__init__"=some (some (.ref x_5)))(h7:Fun K "__init__" "Numbers.__init__" s_5 x_5 d7)(fn7:Oc K (.ref x_5)=true)(h8:Fa K "counting" "counting" lB x_36 d8)(tb_36:(Pa K "counting").isSome=true)(h9:Fa K "_law_sure" "_law_sure" lm x_31 d9)(tb_31:(Pa K "_law_sure").isSome=true)(h10:Fa K "_law_stamper" "_law_stamper" xE x_30 d10)(h11:Fa K "_law_cell_at" "_law_cell_at" yV x_24 d11)(h12:Fa K "_law_books" "_law_books" xG x_23 d12)(a13:LP K (.ref y_Row) "__init__"=some (some (.ref x_8)))(h13:Fun K "__init__" "Row.__init__" s_8 x_8 d13)(fn13:Oc K (.ref x_8)=true)(a14:LP K (.ref y_Row) "add"=some (some (.ref x_9)))(h14:Fun K "add" "Row.add" s_9 x_9 d14)(fn14:Oc K (.ref x_9)=true)(h15:Fa K "_law_row" "_law_row" xM x_29 d15)(h16:Fa K "is_bits" "is_bits" wR x_43 d16)(h17:Fa K "void_terms" "void_terms" xr x_62 d17)(h18:Fa K "none_head" "none_head" yS x_55 d18)(a19:LP K (.ref y_Desk) "__init__"=some (some (.ref x_1)))(h19:Fun K "__init__" "Desk.__init__" s_1 x_1 d19)(fn19:Oc K (.ref x_1)=true)(h20:Fa K "is_count" "is_count" xL x_44 d20)(h21:Fa K "is_elder" "is_elder" yp x_45 d21)(a22:LP K (.ref y_Row) "size"=some (some (.ref x_16)))(h22:Fun K "size" "Row.size" xN x_16 d22)(fn22:Oc K (.ref x_16)=true)(a23:LP K (.ref y_Row) "has_elder"=some (some (.ref x_12)))(h23:Fun K "has_elder" "Row.has_elder" yc x_12 d23)(fn23:Oc K (.ref x_12)=true)(h24:Fa K "half" "half" xY x_42 d24)(a25:LP K (.ref y_Row) "top_term"=some (some (.ref x_18)))(h25:Fun K "top_term" "Row.top_term" zk x_18 d25)(fn25:Oc K (.ref x_18)=true)(a26:LP K (.ref y_Row) "top_of"=some (some (.ref x_17)))(h26:Fun K "top_of" "Row.top_of" xO x_17 d26)(fn26:Oc K (.ref x_17)=true)(a27:LP K (.ref y_Row) "mark_at"=some (some (.ref x_14)))(h27:Fun K "mark_at" "Row.mark_at" wW x_14 d27)(fn27:Oc K (.ref x_14)=true)(a28:LP K (.ref y_Row) "growth_marks"=some (some (.ref x_10)))(h28:Fun K "growth_marks" "Row.growth_marks" xQ x_10 d28)(fn28:Oc K (.ref x_10)=true)(a29:LP K (.ref y_Row) "growth_paper"=some (some (.ref x_11)))(h29:Fun K "growth_paper" "Row.growth_paper" yH x_11 d29)(fn29:Oc K (.ref x_11)=true)(h30:Fa K "_law_paper" "_law_paper" wM x_28 d30)(h31:Fa K "is_head" "is_head" wN x_46 d31)(h32:Fa K "check_head" "check_head" xc x_35 d32)(a33:LP K (.ref y_Desk) "check_new"=some (some (.ref x_2)))(h33:Fun K "check_new" "Desk.check_new" s_2 x_2 d33)(fn33:Oc K (.ref x_2)=true)(h34:Fa K "growth_turns" "growth_turns" yB x_41 d34)(h35:Fa K "are_marks" "are_marks" yJ x_34 d35)(h36:Fa K "joint" "joint" zm x_52 d36)(h37:Fa K "grown_terms" "grown_terms" xf x_38 d37)(h38:Fa K "step_marks" "step_marks" yw x_60 d38)(h39:Fa K "growth_terms" "growth_terms" mW x_40 d39)(a40:LP K (.ref y_Broken) "__init__"=some (some (.ref x_0)))(h40:Fun K "__init__" "Broken.__init__" s_0 x_0 d40)(fn40:Oc K (.ref x_0)=true)(h41:Fa K "growth_answer" "growth_answer" nA x_39 d41)(a42:LP K (.ref y_Parted) "__init__"=some (some (.ref x_7)))(h42:Fun K "__init__" "Parted.__init__" s_7 x_7 d42)(fn42:Oc K (.ref x_7)=true)(a43:LP K (.ref y_Desk) "hear"=some (some (.ref x_4)))(h43:Fun K "hear" "Desk.hear" s_4 x_4 d43)(fn43:Oc K (.ref x_4)=true)(h44:Fa K "told" "told" nP x_61 d44)(a45:LP K (.ref y_Spoken) "newest"=some (some (.ref x_21)))(h45:Fun K "newest" "Spoken.newest" xT x_21 d45)(fn45:Oc K (.ref x_21)=true)(a46:LP K (.ref y_Spoken) "growth"=some (some (.ref x_20)))(h46:Fun K "growth" "Spoken.growth" yr x_20 d46)(fn46:Oc K (.ref x_20)=true)(a47:LP K (.ref y_Desk) "follow"=some (some (.ref x_3)))(h47:Fun K "follow" "Desk.follow" s_3 x_3 d47)(fn47:Oc K (.ref x_3)=true)(a48:LP K (.ref y_Spoken) "__init__"=some (some (.ref x_19)))(h48:Fun K "__init__" "Spoken.__init__" yX x_19 d48)(fn48:Oc K (.ref x_19)=true)(h49:Fa K "_law_line" "_law_line" lC x_26 d49)(tb_26:(Pa K "_law_line").isSome=true)(h50:Fa K "_law_told" "_law_told" wK x_33 d50)(h51:Fa K "_law_good" "_law_good" xj x_25 d51)(h52:Fa K "is_place" "is_place" zh x_47 d52)(a53:LP K (.ref y_Row) "has_place"=some (some (.ref x_13)))(h53:Fun K "has_place" "Row.has_place" yk x_13 d53)(fn53:Oc K (.ref x_13)=true)(h54:Fa K "ways" "ways" yE x_63 d54)(a55:LP K (.ref y_Row) "place_paper"=some (some (.ref x_15)))(h55:Fun K "place_paper" "Row.place_paper" yP x_15 d55)(fn55:Oc K (.ref x_15)=true)(h56:Fa K "is_place_paper" "is_place_paper" xv x_48 d56)(h57:Fa K "place_terms" "place_terms" za x_59 d57)(h58:Fa K "place_mark" "place_mark" xZ x_58 d58)(h59:Fa K "place_answer" "place_answer" yW x_57 d59)(h60:Fa K "_law_agree" "_law_agree" xt x_22 d60)(h61:Fa K "law" "law" lK x_53 d61)(tb_53:(Pa K "law").isSome=true)(pg_Numbers:Pj K y_Numbers Nw=true)(hd_Numbers:Oz K y_Numbers=true)(po_Numbers:PQ K y_Numbers=true)(sa_Numbers:LP K (.ref y_Numbers) "__setattr__"=some (some (.builtin "object.__setattr__")))(na_Numbers_given:LP K (.ref y_Numbers) "given"=some none)(pg_Row:Pj K y_Row Nw=true)(hd_Row:Oz K y_Row=true)(po_Row:PQ K y_Row=true)(sa_Row:LP K (.ref y_Row) "__setattr__"=some (some (.builtin "object.__setattr__")))(na_Row_stamper:LP K (.ref y_Row) "stamper"=some none)(na_Row_entries:LP K (.ref y_Row) "entries"=some none)(na_Row_tops:LP K (.ref y_Row) "tops"=some none)(pg_Desk:Pj K y_Desk Nw=true)(hd_Desk:Oz K y_Desk=true)(po_Desk:PQ K y_Desk=true)(sa_Desk:LP K (.ref y_Desk) "__setattr__"=some (some (.builtin "object.__setattr__")))(na_Desk_stamper:LP K (.ref y_Desk) "stamper"=some none)(na_Desk_bits:LP K (.ref y_Desk) "bits"=some none)(na_Desk_asks_seal:LP K (.ref y_Desk) "asks_seal"=some none)(na_Desk_held:LP K (.ref y_Desk) "held"=some none)(pg_Spoken:Pj K y_Spoken Nw=true)(hd_Spoken:Oz K y_Spoken=true)(po_Spoken:PQ K y_Spoken=true)(sa_Spoken:LP K (.ref y_Spoken) "__setattr__"=some (some (.builtin "object.__setattr__")))(na_Spoken_answerer:LP K (.ref y_Spoken) "answerer"=some none)(mk_Numbers:Re K y_Numbers=true)(kc_Numbers:Ov K (.ref y_Numbers)=true)(mk_Row:Re K y_Row=true)(kc_Row:Ov K (.ref y_Row)=true)(mk_Spoken:Re K y_Spoken=true)(kc_Spoken:Ov K (.ref y_Spoken)=true)(mk_Desk:Re K y_Desk=true)(kc_Desk:Ov K (.ref y_Desk)=true)(eo_Elder:QU K y_Elder veM "ValueError.__new__"=true)(eo_Unsealed:QU K y_Unsealed veM "ValueError.__new__"=true)(eo_NoPaper:QU K y_NoPaper veM "ValueError.__new__"=true)(eo_NoPlace:QU K y_NoPlace veM "ValueError.__new__"=true)(eo2_Broken:jP K y_Broken=true)(eo2_Parted:jP K y_Parted=true)(eo_Silent:QU K y_Silent veM "ValueError.__new__"=true)(eo_StampError:QU K y_StampError veM "ValueError.__new__"=true)(sa_Broken:LP K (.ref y_Broken) "__setattr__"=some (some (.builtin "object.__setattr__")))(hd_Broken:Oz K y_Broken=true)(sa_Parted:LP K (.ref y_Parted) "__setattr__"=some (some (.builtin "object.__setattr__")))(hd_Parted:Oz K y_Parted=true)(na_Broken_came:LP K (.ref y_Broken) "came"=some none)(na_Broken_due:LP K (.ref y_Broken) "due"=some none)(na_Parted_came:LP K (.ref y_Parted) "came"=some none)(na_Parted_due:LP K (.ref y_Parted) "due"=some none)(kc_Broken:Ov K (.ref y_Broken)=true)(kc_Parted:Ov K (.ref y_Parted)=true)(e0_Elder:LP K (.ref y_Elder) "__getattribute__"=some (some (.builtin "BaseException.__getattribute__")))(e1_Elder:LP K (.ref y_Elder) "__getattr__"=some none)(e2_Elder:LP K (.ref y_Elder) "__class__"=some (some (.builtin "object.__class__")))(em0_Elder:Nt K y_Elder (.type "object")=some true)(em1_Elder:Nt K y_Elder (.type "BaseException")=some true)(e0_Unsealed:LP K (.ref y_Unsealed) "__getattribute__"=some (some (.builtin "BaseException.__getattribute__")))(e1_Unsealed:LP K (.ref y_Unsealed) "__getattr__"=some none)(e2_Unsealed:LP K (.ref y_Unsealed) "__class__"=some (some (.builtin "object.__class__")))(em0_Unsealed:Nt K y_Unsealed (.type "object")=some true)(em1_Unsealed:Nt K y_Unsealed (.type "BaseException")=some true)(e0_NoPaper:LP K (.ref y_NoPaper) "__getattribute__"=some (some (.builtin "BaseException.__getattribute__")))(e1_NoPaper:LP K (.ref y_NoPaper) "__getattr__"=some none)(e2_NoPaper:LP K (.ref y_NoPaper) "__class__"=some (some (.builtin "object.__class__")))(em0_NoPaper:Nt K y_NoPaper (.type "object")=some true)(em1_NoPaper:Nt K y_NoPaper (.type "BaseException")=some true)(e0_NoPlace:LP K (.ref y_NoPlace) "__getattribute__"=some (some (.builtin "BaseException.__getattribute__")))(e1_NoPlace:LP K (.ref y_NoPlace) "__getattr__"=some none)(e2_NoPlace:LP K (.ref y_NoPlace) "__class__"=some (some (.builtin "object.__class__")))(em0_NoPlace:Nt K y_NoPlace (.type "object")=some true)(em1_NoPlace:Nt K y_NoPlace (.type "BaseException")=some true)(e0_Broken:LP K (.ref y_Broken) "__getattribute__"=some (some (.builtin "BaseException.__getattribute__")))(e1_Broken:LP K (.ref y_Broken) "__getattr__"=some none)(e2_Broken:LP K (.ref y_Broken) "__class__"=some (some (.builtin "object.__class__")))(em0_Broken:Nt K y_Broken (.type "object")=some true)(em1_Broken:Nt K y_Broken (.type "BaseException")=some true)(e0_Parted:LP K (.ref y_Parted) "__getattribute__"=some (some (.builtin "BaseException.__getattribute__")))(e1_Parted:LP K (.ref y_Parted) "__getattr__"=some none)(e2_Parted:LP K (.ref y_Parted) "__class__"=some (some (.builtin "object.__class__")))(em0_Parted:Nt K y_Parted (.type "object")=some true)(em1_Parted:Nt K y_Parted (.type "BaseException")=some true)(e0_Silent:LP K (.ref y_Silent) "__getattribute__"=some (some (.builtin "BaseException.__getattribute__")))(e1_Silent:LP K (.ref y_Silent) "__getattr__"=some none)(e2_Silent:LP K (.ref y_Silent) "__class__"=some (some (.builtin "object.__class__")))(em0_Silent:Nt K y_Silent (.type "object")=some true)(em1_Silent:Nt K y_Silent (.type "BaseException")=some true)(sb_Elder_StampError:Nt K y_Elder (.ref y_StampError)=some true)(sb_Unsealed_StampError:Nt K y_Unsealed (.ref y_StampError)=some true)(sb_NoPaper_StampError:Nt K y_NoPaper (.ref y_StampError)=some true)(sb_NoPlace_StampError:Nt K y_NoPlace (.ref y_StampError)=some true)(sb_Broken_StampError:Nt K y_Broken (.ref y_StampError)=some true)(sb_Parted_StampError:Nt K y_Parted (.ref y_StampError)=some true)(sb_Silent_StampError:Nt K y_Silent (.ref y_StampError)=some true)(ki_Elder_ValueError:NI K (.ref y_Elder) (.type "ValueError")=some true)(ki_Unsealed_ValueError:NI K (.ref y_Unsealed) (.type "ValueError")=some true)(ki_NoPaper_ValueError:NI K (.ref y_NoPaper) (.type "ValueError")=some true)(ki_NoPlace_ValueError:NI K (.ref y_NoPlace) (.type "ValueError")=some true)(ki_Broken_ValueError:NI K (.ref y_Broken) (.type "ValueError")=some true)(ki_Parted_ValueError:NI K (.ref y_Parted) (.type "ValueError")=some true)(ki_Silent_ValueError:NI K (.ref y_Silent) (.type "ValueError")=some true)(z_ValueError:NN K mainGlobals "ValueError"=some none)(z_all:NN K mainGlobals "all"=some none)(z_bool:NN K mainGlobals "bool"=some none)(z_int:NN K mainGlobals "int"=some none)(z_isinstance:NN K mainGlobals "isinstance"=some none)(z_len:NN K mainGlobals "len"=some none)(z_list:NN K mainGlobals "list"=some none)(z_min:NN K mainGlobals "min"=some none)(z_range:NN K mainGlobals "range"=some none)(z_reversed:NN K mainGlobals "reversed"=some none)(z_str:NN K mainGlobals "str"=some none)(z_tuple:NN K mainGlobals "tuple"=some none)(z_zip:NN K mainGlobals "zip"=some none)(c_MOST_BITS:NN K mainGlobals "MOST_BITS"=some (some (.int 60 tc0)))(c_MOST_PARTS:NN K mainGlobals "MOST_PARTS"=some (some (.int 8 tc1)))(nt:Sn K=true)(td:nX K ["writing","counting","_law_sure","_law_line","law"]=true):uI P w K mg fa:=by
 cases hfa.symm.trans (NO X G h61.m)
 obtain⟨⟨z_64,t_64⟩,tb_64⟩:=Mg.mp tb_64
 obtain⟨⟨z_36,t_36⟩,tb_36⟩:=Mg.mp tb_36
 obtain⟨⟨z_31,t_31⟩,tb_31⟩:=Mg.mp tb_31
 obtain⟨⟨z_26,t_26⟩,tb_26⟩:=Mg.mp tb_26
 obtain⟨⟨z_53,t_53⟩,tb_53⟩:=Mg.mp tb_53
 have tdn:([t_64,t_36,t_31,t_26,t_53]:List Addr).Nodup:=xW (by unfold nX at td;simp only[Md,Ri,tb_64,tb_36,tb_31,tb_26,tb_53,OZ]at td;exact of_decide_eq_true td)
 exact Dv (A:=⟨x_51,d0,x_49,d1,x_50,d2,x_56,d3,x_66,d4,x_6,d5,x_64,d6,x_5,d7,x_36,d8,x_31,d9,x_30,d10,x_24,d11,x_23,d12,x_8,d13,x_9,d14,x_29,d15,x_43,d16,x_62,d17,x_55,d18,x_1,d19,x_44,d20,x_45,d21,x_16,d22,x_12,d23,x_42,d24,x_18,d25,x_17,d26,x_14,d27,x_10,d28,x_11,d29,x_28,d30,x_46,d31,x_35,d32,x_2,d33,x_41,d34,x_34,d35,x_52,d36,x_38,d37,x_60,d38,x_40,d39,x_0,d40,x_39,d41,x_7,d42,x_4,d43,x_61,d44,x_21,d45,x_20,d46,x_3,d47,x_19,d48,x_26,d49,x_33,d50,x_25,d51,x_47,d52,x_13,d53,x_63,d54,x_15,d55,x_48,d56,x_59,d57,x_58,d58,x_57,d59,x_22,d60,fa,d61,z_64,t_64,z_36,t_36,z_31,t_31,z_26,t_26,z_53,t_53,y_Elder,y_Unsealed,y_NoPaper,y_NoPlace,y_Broken,y_Parted,y_Silent,y_StampError,y_Numbers,y_Row,y_Desk,y_Spoken⟩) ⟨h0.fm1 X G,h1.fm1 X G,h2.fm1 X G,h3.fm1 X G,h4.fm1 X G,h5,h5.b2,h6.fm0 X G,h7,h7.b1,h8.fm0 X G,h9.fm1 X G,h10.fm1 X G,h11.fm2 X G,h12.fm1 X G,h13,h13.b2,h14,h14.b2,h15.fm2 X G,h16.fm1 X G,h17.fm1 X G,h18.fm1 X G,h19,h19.b4,h20.fm1 X G,h21.fm2 X G,h22,h22.b1,h23,h23.b3,h24.fm1 X G,h25,h25.b3,h26,h26.b3,h27,h27.b2,h28,h28.b4,h29,h29.b3,h30.fm6 X G,h31.fm1 X G,h32.fm1 X G,h33,h33.b2,h34.fm2 X G,h35.fm2 X G,h36.fm3 X G,h37.fm4 X G,h38.fm2 X G,h39.fm4 X G,h40,h40.b3,h41.fm4 X G,h42,h42.b3,h43,h43.b3,h44.fm1 X G,h45,h45.b1,h46,h46.b3,h47,h47.b2,h48,h48.b2,h49.fm2 X G,h50.fm4 X G,h51.fm6 X G,h52.fm2 X G,h53,h53.b3,h54.fm2 X G,h55,h55.b3,h56.fm2 X G,h57.fm4 X G,h58.fm4 X G,h59.fm4 X G,h60.fm4 X G,h61.fm1 X G,Nj X G z_ValueError,Nj X G z_all,Nj X G z_bool,Nj X G z_int,Nj X G z_isinstance,Nj X G z_len,Nj X G z_list,Nj X G z_min,Nj X G z_range,Nj X G z_reversed,Nj X G z_str,Nj X G z_tuple,Nj X G z_zip,⟨_,NO X G c_MOST_BITS⟩,⟨_,NO X G c_MOST_PARTS⟩,h6.code X G tb_64,h8.code X G tb_36,h9.code X G tb_31,h49.code X G tb_26,h61.code X G tb_53,NO X G bc_Elder,cQ.ok eo_Elder,NO X G bc_Unsealed,cQ.ok eo_Unsealed,NO X G bc_NoPaper,cQ.ok eo_NoPaper,NO X G bc_NoPlace,cQ.ok eo_NoPlace,NO X G bc_Broken,eo2_Broken,NO X G bc_Parted,eo2_Parted,NO X G bc_Silent,cQ.ok eo_Silent,NO X G bc_StampError,cQ.ok eo_StampError,eo_Elder,eo_Unsealed,eo_NoPaper,eo_NoPlace,eo_Silent,⟨e0_Elder,e1_Elder,e2_Elder,em0_Elder,em1_Elder⟩,⟨e0_Unsealed,e1_Unsealed,e2_Unsealed,em0_Unsealed,em1_Unsealed⟩,⟨e0_NoPaper,e1_NoPaper,e2_NoPaper,em0_NoPaper,em1_NoPaper⟩,⟨e0_NoPlace,e1_NoPlace,e2_NoPlace,em0_NoPlace,em1_NoPlace⟩,⟨e0_Broken,e1_Broken,e2_Broken,em0_Broken,em1_Broken⟩,⟨e0_Parted,e1_Parted,e2_Parted,em0_Parted,em1_Parted⟩,⟨e0_Silent,e1_Silent,e2_Silent,em0_Silent,em1_Silent⟩,⟨eo2_Broken,sa_Broken,⟨e0_Broken,e1_Broken,e2_Broken,em0_Broken,em1_Broken⟩,na_Broken_came,hd_Broken⟩,⟨eo2_Broken,sa_Broken,⟨e0_Broken,e1_Broken,e2_Broken,em0_Broken,em1_Broken⟩,na_Broken_due,hd_Broken⟩,⟨eo2_Parted,sa_Parted,⟨e0_Parted,e1_Parted,e2_Parted,em0_Parted,em1_Parted⟩,na_Parted_came,hd_Parted⟩,⟨eo2_Parted,sa_Parted,⟨e0_Parted,e1_Parted,e2_Parted,em0_Parted,em1_Parted⟩,na_Parted_due,hd_Parted⟩,⟨eo2_Broken,a40,fn40,kc_Broken⟩,⟨eo2_Parted,a42,fn42,kc_Parted⟩,fw sb_Elder_StampError,fw sb_Unsealed_StampError,fw sb_NoPaper_StampError,fw sb_NoPlace_StampError,fw sb_Broken_StampError,fw sb_Parted_StampError,fw sb_Silent_StampError,ki_Elder_ValueError,ki_Unsealed_ValueError,ki_NoPaper_ValueError,ki_NoPlace_ValueError,ki_Broken_ValueError,ki_Parted_ValueError,ki_Silent_ValueError,NO X G bo_Numbers,⟨pg_Numbers,hd_Numbers,po_Numbers,sa_Numbers⟩,na_Numbers_given,NO X G bo_Row,⟨pg_Row,hd_Row,po_Row,sa_Row⟩,na_Row_stamper,na_Row_entries,na_Row_tops,NO X G bo_Desk,⟨pg_Desk,hd_Desk,po_Desk,sa_Desk⟩,na_Desk_stamper,na_Desk_bits,na_Desk_asks_seal,na_Desk_held,NO X G bo_Spoken,⟨pg_Spoken,hd_Spoken,po_Spoken,sa_Spoken⟩,na_Spoken_answerer,⟨a14,fn14,h14.kp⟩,⟨a22,fn22,h22.kp⟩,⟨a26,fn26,h26.kp⟩,⟨a25,fn25,h25.kp⟩,⟨a23,fn23,h23.kp⟩,⟨a28,fn28,h28.kp⟩,⟨a29,fn29,h29.kp⟩,⟨a33,fn33,h33.kp⟩,⟨a43,fn43,h43.kp⟩,⟨a46,fn46,h46.kp⟩,⟨a45,fn45,h45.kp⟩,⟨a47,fn47,h47.kp⟩,⟨a53,fn53,h53.kp⟩,⟨a55,fn55,h55.kp⟩,⟨a27,fn27,h27.kp⟩,⟨a5,fn5,h5.kp⟩,⟨mk_Numbers,a7,fn7,kc_Numbers⟩,⟨mk_Row,a13,fn13,kc_Row⟩,⟨mk_Spoken,a48,fn48,kc_Spoken⟩,⟨mk_Desk,a19,fn19,kc_Desk⟩⟩ nt tb_64 tb_36 tb_31 tb_26 tb_53 tdn
theorem KO {l:W.OpenLaw}{q:LV}{loose:List Str}{XP:(Str->Option tx)->Heap->Prop}{YP:Mx->Heap->Prop}{d:DefRec}{K:Params->pv}(hn:l.most=some 63)(hdf:d.params.defaults=[])
  (hY:∀(w:Mx)(h:Heap),YP w h->(K w.params).In h)(hq:∀y∈(["writing","counting","_law_sure","_law_line","law"]:List Str),((Rq q).find? fun e=>e.name==y).isSome=true)
  (F:∀(w:Mx)(mg:Str->Option tx)(fa:Addr)(h:Heap),(K w.params).In h->h.Ns mainGlobals mg->mg d.name=some (.ref fa)->uI l.prog w (K w.params) mg fa):
  W.WalkO q loose XP YP l.row.toRowW d [] (fun f vs=>SO f vs):=
 L2.yM (n:=63) (k:=218) (x:="_law_script") (CX:=fun w=>CX1 l.prog w) hn (by decide) hdf ⟨rfl,by decide,by decide⟩ hY hq F fun _ _ _ _ _ ⟨_,_,_,_,_,_,z⟩=>z
end
end Rs
def PySem.W.Fast.tw8810260114954990177:Unit:=()
def PySem.W.Fast.tw560513637243914058:Unit:=()
def PySem.W.Fast.tw16790083249688676240:Unit:=()
def PySem.W.Fast.tw10970348098968439666:Unit:=()
def PySem.W.Fast.tw17900329525980522783:Unit:=()
def PySem.W.Fast.tw17967928821569838175:Unit:=()
def PySem.W.Fast.tw10298341675822624572:Unit:=()
def PySem.W.Fast.tw204456531125754091:Unit:=()
def PySem.W.Fast.tw15216863566940617032:Unit:=()
def PySem.W.Fast.tw1041880871513316322:Unit:=()
def PySem.W.Fast.tw2424133319828033270:Unit:=()
def PySem.W.Fast.tw13570464959270942758:Unit:=()
def PySem.W.Fast.tw7776333289536884090:Unit:=()
def PySem.W.Fast.tw17262860949886003644:Unit:=()
def PySem.W.Fast.tw4323434305772431507:Unit:=()
def PySem.W.Fast.tw11966712684251474292:Unit:=()
def PySem.W.Fast.tw10397791368102254820:Unit:=()
def PySem.W.Fast.tw13589188582505381343:Unit:=()
def PySem.W.Fast.tw17489019258051937972:Unit:=()
def PySem.W.Fast.tw15184861102722122141:Unit:=()
def PySem.W.Fast.tw8549843558709986400:Unit:=()
def PySem.W.Fast.tw2020834029429254066:Unit:=()
def PySem.W.Fast.tw8884296362046728354:Unit:=()
def PySem.W.Fast.tw11034118098437162360:Unit:=()
def PySem.W.Fast.tw11616218011234138851:Unit:=()
def PySem.W.Fast.tw11070784991240097413:Unit:=()
def PySem.W.Fast.tw18178782100430132009:Unit:=()
def PySem.W.Fast.tw10561861951668294927:Unit:=()
def PySem.W.Fast.tw1473529105389335447:Unit:=()
def PySem.W.Fast.tw580890691753301842:Unit:=()
def PySem.W.Fast.tw2029158114224153317:Unit:=()
def PySem.W.Fast.tw230469802519484708:Unit:=()
def PySem.W.Fast.tw182479188082043789:Unit:=()
def PySem.W.Fast.tw9202686206872468327:Unit:=()
def PySem.W.Fast.tw12847238839179378414:Unit:=()
def PySem.W.Fast.tw7992884845997357330:Unit:=()
def PySem.W.Fast.tw6674467695741445567:Unit:=()
def PySem.W.Fast.tw5347636097454387642:Unit:=()
def PySem.W.Fast.tw12063804125200168354:Unit:=()
def PySem.W.Fast.tw8187845916677747548:Unit:=()
def PySem.W.Fast.tw13791958811981354976:Unit:=()
def PySem.W.Fast.tw418566006353353433:Unit:=()
def PySem.W.Fast.tw12985181112445818886:Unit:=()
def PySem.W.Fast.tw9647123992075109808:Unit:=()
def PySem.W.Fast.tw9472968882685770418:Unit:=()
def PySem.W.Fast.tw4492871892329755430:Unit:=()
def PySem.W.Fast.tw11228539753008125895:Unit:=()
def PySem.W.Fast.tw14258492395084701901:Unit:=()
def PySem.W.Fast.tw1883845523299032082:Unit:=()
def PySem.W.Fast.tw18435108279334449068:Unit:=()
def PySem.W.Fast.tw14588192801207820170:Unit:=()
def PySem.W.Fast.tw4516263682226271517:Unit:=()
def PySem.W.Fast.tw7606949432353679576:Unit:=()
def PySem.W.Fast.tw8194399272831332300:Unit:=()
def PySem.W.Fast.tw498473182357641018:Unit:=()
def PySem.W.Fast.tw4610171203659054967:Unit:=()
def PySem.W.Fast.tw6264574852511431562:Unit:=()
def PySem.W.Fast.tw5411855288664354617:Unit:=()
def PySem.W.Fast.tw8044771548393283567:Unit:=()
def PySem.W.Fast.tw17035157488755446313:Unit:=()
def PySem.W.Fast.tw4002462180192003913:Unit:=()
def PySem.W.Fast.tw6324139041299456932:Unit:=()
def PySem.W.Fast.tw8514648638142758600:Unit:=()
def PySem.W.Fast.tw11048819438616668255:Unit:=()
def PySem.W.Fast.tw8036984382482793001:Unit:=()
def PySem.W.Fast.tw14588386631180745429:Unit:=()
def PySem.W.Fast.tw3165226661257772068:Unit:=()
def PySem.W.Fast.tw10454004772171186261:Unit:=()
def PySem.W.Fast.tw6763817129377168333:Unit:=()
def PySem.W.Fast.tw7737749044941121843:Unit:=()
def PySem.W.Fast.tw14960316876243985033:Unit:=()
def PySem.W.Fast.tw2226415743963439773:Unit:=()
def PySem.W.Fast.tw16055135717894411387:Unit:=()
def PySem.W.Fast.tw460510733270526837:Unit:=()
def PySem.W.Fast.tw11094411670679405856:Unit:=()
def PySem.W.Fast.tw11005101563834428597:Unit:=()
def PySem.W.Fast.tw1662224776589715381:Unit:=()
def PySem.W.Fast.tw5984806817418272482:Unit:=()
def PySem.W.Fast.tw18303135508227998364:Unit:=()
def PySem.W.Fast.tw14267709550854470180:Unit:=()
def PySem.W.Fast.tw3828714440918103086:Unit:=()
def PySem.W.Fast.tw5267204318798672055:Unit:=()
def PySem.W.Fast.tw2940198039136494583:Unit:=()
def PySem.W.Fast.tw17661347495454973108:Unit:=()
def PySem.W.Fast.tw6221557348228451267:Unit:=()
def PySem.W.Fast.tw2114487682375732225:Unit:=()
def PySem.W.Fast.tw17498258769896405817:Unit:=()
def PySem.W.Fast.tw10270241879717529576:Unit:=()
def PySem.W.Fast.tw10452210302228138826:Unit:=()
def PySem.W.Fast.tw1046785843831411955:Unit:=()
def PySem.W.Fast.tw9359807214712044450:Unit:=()
def PySem.W.Fast.tw6482876233493509098:Unit:=()
def PySem.W.Fast.tw1773246079641725454:Unit:=()
def PySem.W.Fast.tw7804230406884962709:Unit:=()
def PySem.W.Fast.tw15990545325928312250:Unit:=()
def PySem.W.Fast.tw5128065785152302191:Unit:=()
def PySem.W.Fast.tw5753354431436653814:Unit:=()
def PySem.W.Fast.tw3471374883496010215:Unit:=()
def PySem.W.Fast.tw6402568338466628599:Unit:=()
def PySem.W.Fast.tw7510559856692224539:Unit:=()
def PySem.W.Fast.tw355751964889298679:Unit:=()
def PySem.W.Fast.tw2667916870735997333:Unit:=()
def PySem.W.Fast.tw4191659933906149809:Unit:=()
def PySem.W.Fast.tw14674158317264211814:Unit:=()
def PySem.W.Fast.tw16359880321591297013:Unit:=()
def PySem.W.Fast.tw4153856276983672198:Unit:=()
def PySem.W.Fast.tw5215308931642575447:Unit:=()
def PySem.W.Fast.tw12530940839952679935:Unit:=()
def PySem.W.Fast.tw5108162437367508522:Unit:=()
def PySem.W.Fast.tw5926116183981913238:Unit:=()
def PySem.W.Fast.tw5057750448484744572:Unit:=()
def PySem.W.Fast.tw809217908760608643:Unit:=()
def PySem.W.Fast.tw8727968314295201601:Unit:=()
def PySem.W.Fast.tw7346550957048284836:Unit:=()
def PySem.W.Fast.tw825201872301740166:Unit:=()
def PySem.W.Fast.tw9241285783766238283:Unit:=()
def PySem.W.Fast.tw14072268461800736809:Unit:=()
def PySem.W.Fast.tw1685480084340477940:Unit:=()
def PySem.W.Fast.tw2740257243850664085:Unit:=()
def PySem.W.Fast.tw4076209578823484201:Unit:=()
def PySem.W.Fast.tw11565784537313403415:Unit:=()
def PySem.W.Fast.tw12860814134227827509:Unit:=()
def PySem.W.Fast.tw3862400743359227048:Unit:=()
def PySem.W.Fast.tw3975703879951602521:Unit:=()
def PySem.W.Fast.tw16448948953460750571:Unit:=()
def PySem.W.Fast.tw8272806639370289257:Unit:=()
def PySem.W.Fast.tw5372243840572665280:Unit:=()
def PySem.W.Fast.tw8900000210039933345:Unit:=()
def PySem.W.Fast.tw3631747864154458286:Unit:=()
def PySem.W.Fast.tw12407167776258614618:Unit:=()
def PySem.W.Fast.tw17813640731736977050:Unit:=()
def PySem.W.Fast.tw17921814467644146464:Unit:=()
def PySem.W.Fast.tw8969294422232263457:Unit:=()
def PySem.W.Fast.tw4709100142206441324:Unit:=()
def PySem.W.Fast.tw2615812268778348423:Unit:=()
def PySem.W.Fast.tw776318095602098995:Unit:=()
def PySem.W.Fast.tw3294724822698393465:Unit:=()
def PySem.W.Fast.tw11649085877567199359:Unit:=()
def PySem.W.Fast.tw16238747060082611733:Unit:=()
def PySem.W.Fast.tw15857302912907733476:Unit:=()
def PySem.W.Fast.tw15948364334999865647:Unit:=()
def PySem.W.Fast.tw9111376443981849365:Unit:=()
def PySem.W.Fast.tw14385214199253534990:Unit:=()
def PySem.W.Fast.tw12049517390594121220:Unit:=()
def PySem.W.Fast.tw16430665757946078607:Unit:=()
def PySem.W.Fast.tw2737215096387191241:Unit:=()
def PySem.W.Fast.tw866224545827897676:Unit:=()
def PySem.W.Fast.tw10678666795470014831:Unit:=()
def PySem.W.Fast.tw1249695912573324251:Unit:=()
def PySem.W.Fast.tw11624940635392761525:Unit:=()
def PySem.W.Fast.tw2445376075553402156:Unit:=()
def PySem.W.Fast.tw5574896934503422335:Unit:=()
def PySem.W.Fast.tw2113284234249881089:Unit:=()
def PySem.W.Fast.tw18057503040091136962:Unit:=()
def PySem.W.Fast.tw1596277941592777415:Unit:=()
def PySem.W.Fast.tw14905557483238638618:Unit:=()
def PySem.W.Fast.tw2312589256611384739:Unit:=()
def PySem.W.Fast.tw9414747499018070047:Unit:=()
def PySem.W.Fast.tw2660326006657107676:Unit:=()
def PySem.W.Fast.tw18098067035656676232:Unit:=()
def PySem.W.Fast.tw7473288432753877454:Unit:=()
def PySem.W.Fast.tw13398863507138625097:Unit:=()
def PySem.W.Fast.tw1376703438240391893:Unit:=()
def PySem.W.Fast.tw11059521337323676949:Unit:=()
def PySem.W.Fast.tw8171563068724623862:Unit:=()
def PySem.W.Fast.tw9693178974561345690:Unit:=()
def PySem.W.Fast.tw1075306785065876741:Unit:=()
def PySem.W.Fast.tw4411997673423548520:Unit:=()
def PySem.W.Fast.tw13812780857724582821:Unit:=()
def PySem.W.Fast.tw14630888684247285248:Unit:=()
def PySem.W.Fast.tw9481106020127098939:Unit:=()
def PySem.W.Fast.tw8304373452599569348:Unit:=()
def PySem.W.Fast.tw15036022955115007987:Unit:=()
def PySem.W.Fast.tw10040313643480707400:Unit:=()
def PySem.W.Fast.tw17283001171860884135:Unit:=()
def PySem.W.Fast.tw11666808771734956677:Unit:=()
def PySem.W.Fast.tw3165463474589356317:Unit:=()
def PySem.W.Fast.tw13820633111749912827:Unit:=()
def PySem.W.Fast.tw7125486495801406910:Unit:=()
def PySem.W.Fast.tw6137910526144209167:Unit:=()
def PySem.W.Fast.tw794575577123076737:Unit:=()
def PySem.W.Fast.tw4920846825735665069:Unit:=()
def PySem.W.Fast.tw14846804494034934030:Unit:=()
def PySem.W.Fast.tw10817108984904450678:Unit:=()
def PySem.W.Fast.tw3098032557068548341:Unit:=()
def PySem.W.Fast.tw2194532653963442231:Unit:=()
def PySem.W.Fast.tw17745836604901401654:Unit:=()
def PySem.W.Fast.tw8918515582510636117:Unit:=()
def PySem.W.Fast.tw11417515138936734536:Unit:=()
def PySem.W.Fast.tw7535452391871056634:Unit:=()
def PySem.W.Fast.tw7968590460761023047:Unit:=()
def PySem.W.Fast.tw7011964752458157250:Unit:=()
def PySem.W.Fast.tw7405396472464456873:Unit:=()
def PySem.W.Fast.tw10370600960163029373:Unit:=()
def PySem.W.Fast.tw10859371489013207965:Unit:=()
def PySem.W.Fast.tw4861587245006742396:Unit:=()
def PySem.W.Fast.tw4321711670055990627:Unit:=()
def PySem.W.Fast.tw16084488059289806283:Unit:=()
def PySem.W.Fast.tw4664715230138913404:Unit:=()
def PySem.W.Fast.tw5040284891404330598:Unit:=()
def PySem.W.Fast.tw8821064346119135338:Unit:=()
def PySem.W.Fast.tw15530507391045948521:Unit:=()
def PySem.W.Fast.tw3007703980276706297:Unit:=()
def PySem.W.Fast.tw5887771924105210598:Unit:=()
def PySem.W.Fast.tw9779881870371444786:Unit:=()
def PySem.W.Fast.tw14312793508623760916:Unit:=()
def PySem.W.Fast.tw15930829517691845742:Unit:=()
def PySem.W.Fast.tw15744815720481334247:Unit:=()
def PySem.W.Fast.tw671290133996701379:Unit:=()
def PySem.W.Fast.tw16534086061780842956:Unit:=()
def PySem.W.Fast.tw7732416083953338381:Unit:=()
def PySem.W.Fast.tw17334426967200124344:Unit:=()
def PySem.W.Fast.tw16657743887046649825:Unit:=()
def PySem.W.Fast.tw9505241912561293846:Unit:=()
open PySem PySem.W PyProof.Rows
set_option maxRecDepth 100000 in
set_option maxHeartbeats 0 in
theorem PySem.Challenge.cw_rootstamp_k63_whole_heads_of_one_row_holds : PySem.Challenge.rw_rootstamp_k63_whole_heads_of_one_row.Holds := by
 w_on; o_law; k_head; (case hw => w_witness2)
 k_fill
 refine Rs.KO (l := PySem.Challenge.rw_rootstamp_k63_whole_heads_of_one_row) rfl rfl (fun w h Y => by first | exact PySem.W.kIn_of Y | exact PySem.W.km_in_of Y) (by decide +kernel) ?F
 case F =>
  intro w mg fa h KX G hmg
  refine' Rs.ET KX G hmg ?bo_Numbers ?bo_Row ?bo_Desk ?bo_Spoken ?bc_Elder ?bc_Unsealed ?bc_NoPaper ?bc_NoPlace ?bc_Broken ?bc_Parted ?bc_Silent ?bc_StampError (L2.bz ?a0 ?l0 ?c0 ?k0) (L2.bz ?a1 ?l1 ?c1 ?k1) (L2.bz ?a2 ?l2 ?c2 ?k2) (L2.bz ?a3 ?l3 ?c3 ?k3) (L2.bz ?a4 ?l4 ?c4 ?k4) ?a5 (L2.bX ?l5 ?c5 ?k5) ?fn5 (L2.bz ?a6 ?l6 ?c6 ?k6) ?tb_64 ?a7 (L2.bX ?l7 ?c7 ?k7) ?fn7 (L2.bz ?a8 ?l8 ?c8 ?k8) ?tb_36 (L2.bz ?a9 ?l9 ?c9 ?k9) ?tb_31 (L2.bz ?a10 ?l10 ?c10 ?k10) (L2.bz ?a11 ?l11 ?c11 ?k11) (L2.bz ?a12 ?l12 ?c12 ?k12) ?a13 (L2.bX ?l13 ?c13 ?k13) ?fn13 ?a14 (L2.bX ?l14 ?c14 ?k14) ?fn14 (L2.bz ?a15 ?l15 ?c15 ?k15) (L2.bz ?a16 ?l16 ?c16 ?k16) (L2.bz ?a17 ?l17 ?c17 ?k17) (L2.bz ?a18 ?l18 ?c18 ?k18) ?a19 (L2.bX ?l19 ?c19 ?k19) ?fn19 (L2.bz ?a20 ?l20 ?c20 ?k20) (L2.bz ?a21 ?l21 ?c21 ?k21) ?a22 (L2.bX ?l22 ?c22 ?k22) ?fn22 ?a23 (L2.bX ?l23 ?c23 ?k23) ?fn23 (L2.bz ?a24 ?l24 ?c24 ?k24) ?a25 (L2.bX ?l25 ?c25 ?k25) ?fn25 ?a26 (L2.bX ?l26 ?c26 ?k26) ?fn26 ?a27 (L2.bX ?l27 ?c27 ?k27) ?fn27 ?a28 (L2.bX ?l28 ?c28 ?k28) ?fn28 ?a29 (L2.bX ?l29 ?c29 ?k29) ?fn29 (L2.bz ?a30 ?l30 ?c30 ?k30) (L2.bz ?a31 ?l31 ?c31 ?k31) (L2.bz ?a32 ?l32 ?c32 ?k32) ?a33 (L2.bX ?l33 ?c33 ?k33) ?fn33 (L2.bz ?a34 ?l34 ?c34 ?k34) (L2.bz ?a35 ?l35 ?c35 ?k35) (L2.bz ?a36 ?l36 ?c36 ?k36) (L2.bz ?a37 ?l37 ?c37 ?k37) (L2.bz ?a38 ?l38 ?c38 ?k38) (L2.bz ?a39 ?l39 ?c39 ?k39) ?a40 (L2.bX ?l40 ?c40 ?k40) ?fn40 (L2.bz ?a41 ?l41 ?c41 ?k41) ?a42 (L2.bX ?l42 ?c42 ?k42) ?fn42 ?a43 (L2.bX ?l43 ?c43 ?k43) ?fn43 (L2.bz ?a44 ?l44 ?c44 ?k44) ?a45 (L2.bX ?l45 ?c45 ?k45) ?fn45 ?a46 (L2.bX ?l46 ?c46 ?k46) ?fn46 ?a47 (L2.bX ?l47 ?c47 ?k47) ?fn47 ?a48 (L2.bX ?l48 ?c48 ?k48) ?fn48 (L2.bz ?a49 ?l49 ?c49 ?k49) ?tb_26 (L2.bz ?a50 ?l50 ?c50 ?k50) (L2.bz ?a51 ?l51 ?c51 ?k51) (L2.bz ?a52 ?l52 ?c52 ?k52) ?a53 (L2.bX ?l53 ?c53 ?k53) ?fn53 (L2.bz ?a54 ?l54 ?c54 ?k54) ?a55 (L2.bX ?l55 ?c55 ?k55) ?fn55 (L2.bz ?a56 ?l56 ?c56 ?k56) (L2.bz ?a57 ?l57 ?c57 ?k57) (L2.bz ?a58 ?l58 ?c58 ?k58) (L2.bz ?a59 ?l59 ?c59 ?k59) (L2.bz ?a60 ?l60 ?c60 ?k60) (L2.bz ?a61 ?l61 ?c61 ?k61) ?tb_53 ?pg_Numbers ?hd_Numbers ?po_Numbers ?sa_Numbers ?na_Numbers_given ?pg_Row ?hd_Row ?po_Row ?sa_Row ?na_Row_stamper ?na_Row_entries ?na_Row_tops ?pg_Desk ?hd_Desk ?po_Desk ?sa_Desk ?na_Desk_stamper ?na_Desk_bits ?na_Desk_asks_seal ?na_Desk_held ?pg_Spoken ?hd_Spoken ?po_Spoken ?sa_Spoken ?na_Spoken_answerer ?mk_Numbers ?kc_Numbers ?mk_Row ?kc_Row ?mk_Spoken ?kc_Spoken ?mk_Desk ?kc_Desk ?eo_Elder ?eo_Unsealed ?eo_NoPaper ?eo_NoPlace ?eo2_Broken ?eo2_Parted ?eo_Silent ?eo_StampError ?sa_Broken ?hd_Broken ?sa_Parted ?hd_Parted ?na_Broken_came ?na_Broken_due ?na_Parted_came ?na_Parted_due ?kc_Broken ?kc_Parted ?e0_Elder ?e1_Elder ?e2_Elder ?em0_Elder ?em1_Elder ?e0_Unsealed ?e1_Unsealed ?e2_Unsealed ?em0_Unsealed ?em1_Unsealed ?e0_NoPaper ?e1_NoPaper ?e2_NoPaper ?em0_NoPaper ?em1_NoPaper ?e0_NoPlace ?e1_NoPlace ?e2_NoPlace ?em0_NoPlace ?em1_NoPlace ?e0_Broken ?e1_Broken ?e2_Broken ?em0_Broken ?em1_Broken ?e0_Parted ?e1_Parted ?e2_Parted ?em0_Parted ?em1_Parted ?e0_Silent ?e1_Silent ?e2_Silent ?em0_Silent ?em1_Silent ?sb_Elder_StampError ?sb_Unsealed_StampError ?sb_NoPaper_StampError ?sb_NoPlace_StampError ?sb_Broken_StampError ?sb_Parted_StampError ?sb_Silent_StampError ?ki_Elder_ValueError ?ki_Unsealed_ValueError ?ki_NoPaper_ValueError ?ki_NoPlace_ValueError ?ki_Broken_ValueError ?ki_Parted_ValueError ?ki_Silent_ValueError ?z_ValueError ?z_all ?z_bool ?z_int ?z_isinstance ?z_len ?z_list ?z_min ?z_range ?z_reversed ?z_str ?z_tuple ?z_zip ?c_MOST_BITS ?c_MOST_PARTS ?nt ?td
  case bo_Numbers | bo_Row | bo_Desk | bo_Spoken | bc_Elder | bc_Unsealed | bc_NoPaper | bc_NoPlace | bc_Broken | bc_Parted | bc_Silent | bc_StampError | a0 | l0 | c0 | k0 | a1 | l1 | c1 | k1 | a2 | l2 | c2 | k2 | a3 | l3 | c3 | k3 | a4 | l4 | c4 | k4 | a5 | l5 | c5 | k5 | fn5 | a6 | l6 | c6 | k6 => k_is
  case tb_64 => kernel_rfl
  case a7 | l7 | c7 | k7 | fn7 | a8 | l8 | c8 | k8 => k_is
  case tb_36 => kernel_rfl
  case a9 | l9 | c9 | k9 => k_is
  case tb_31 => kernel_rfl
  case a10 | l10 | c10 | k10 | a11 | l11 | c11 | k11 | a12 | l12 | c12 | k12 | a13 | l13 | c13 | k13 | fn13 | a14 | l14 | c14 | k14 | fn14 | a15 | l15 | c15 | k15 | a16 | l16 | c16 | k16 | a17 | l17 | c17 | k17 | a18 | l18 | c18 | k18 | a19 | l19 | c19 | k19 | fn19 | a20 | l20 | c20 | k20 | a21 | l21 | c21 | k21 | a22 | l22 | c22 | k22 | fn22 | a23 | l23 | c23 | k23 | fn23 | a24 | l24 | c24 | k24 | a25 | l25 | c25 | k25 | fn25 | a26 | l26 | c26 | k26 | fn26 | a27 | l27 | c27 | k27 | fn27 | a28 | l28 | c28 | k28 | fn28 | a29 | l29 | c29 | k29 | fn29 | a30 | l30 | c30 | k30 | a31 | l31 | c31 | k31 | a32 | l32 | c32 | k32 | a33 | l33 | c33 | k33 | fn33 | a34 | l34 | c34 | k34 | a35 | l35 | c35 | k35 | a36 | l36 | c36 | k36 | a37 | l37 | c37 | k37 | a38 | l38 | c38 | k38 | a39 | l39 | c39 | k39 | a40 | l40 | c40 | k40 | fn40 | a41 | l41 | c41 | k41 | a42 | l42 | c42 | k42 | fn42 | a43 | l43 | c43 | k43 | fn43 | a44 | l44 | c44 | k44 | a45 | l45 | c45 | k45 | fn45 | a46 | l46 | c46 | k46 | fn46 | a47 | l47 | c47 | k47 | fn47 | a48 | l48 | c48 | k48 | fn48 | a49 | l49 | c49 | k49 => k_is
  case tb_26 => kernel_rfl
  case a50 | l50 | c50 | k50 | a51 | l51 | c51 | k51 | a52 | l52 | c52 | k52 | a53 | l53 | c53 | k53 | fn53 | a54 | l54 | c54 | k54 | a55 | l55 | c55 | k55 | fn55 | a56 | l56 | c56 | k56 | a57 | l57 | c57 | k57 | a58 | l58 | c58 | k58 | a59 | l59 | c59 | k59 | a60 | l60 | c60 | k60 | a61 | l61 | c61 | k61 => k_is
  case tb_53 => kernel_rfl
  case pg_Numbers | hd_Numbers | po_Numbers | sa_Numbers | na_Numbers_given | pg_Row | hd_Row | po_Row | sa_Row | na_Row_stamper | na_Row_entries | na_Row_tops | pg_Desk | hd_Desk | po_Desk | sa_Desk | na_Desk_stamper | na_Desk_bits | na_Desk_asks_seal | na_Desk_held | pg_Spoken | hd_Spoken | po_Spoken | sa_Spoken | na_Spoken_answerer | mk_Numbers | kc_Numbers | mk_Row | kc_Row | mk_Spoken | kc_Spoken | mk_Desk | kc_Desk => k_is
  case eo_Elder | eo_Unsealed | eo_NoPaper | eo_NoPlace => k_exc
  case eo2_Broken | eo2_Parted => kernel_rfl
  case eo_Silent | eo_StampError => k_exc
  case sa_Broken | hd_Broken | sa_Parted | hd_Parted | na_Broken_came | na_Broken_due | na_Parted_came | na_Parted_due | kc_Broken | kc_Parted | e0_Elder | e1_Elder | e2_Elder | em0_Elder | em1_Elder | e0_Unsealed | e1_Unsealed | e2_Unsealed | em0_Unsealed | em1_Unsealed | e0_NoPaper | e1_NoPaper | e2_NoPaper | em0_NoPaper | em1_NoPaper | e0_NoPlace | e1_NoPlace | e2_NoPlace | em0_NoPlace | em1_NoPlace | e0_Broken | e1_Broken | e2_Broken | em0_Broken | em1_Broken | e0_Parted | e1_Parted | e2_Parted | em0_Parted | em1_Parted | e0_Silent | e1_Silent | e2_Silent | em0_Silent | em1_Silent | sb_Elder_StampError | sb_Unsealed_StampError | sb_NoPaper_StampError | sb_NoPlace_StampError | sb_Broken_StampError | sb_Parted_StampError | sb_Silent_StampError => k_is
  case ki_Elder_ValueError | ki_Unsealed_ValueError | ki_NoPaper_ValueError | ki_NoPlace_ValueError | ki_Broken_ValueError | ki_Parted_ValueError | ki_Silent_ValueError => kit_is
  case z_ValueError | z_all | z_bool | z_int | z_isinstance | z_len | z_list | z_min | z_range | z_reversed | z_str | z_tuple | z_zip | c_MOST_BITS | c_MOST_PARTS => k_is
  case nt | td => kernel_rfl
