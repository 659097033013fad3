import PyProof.Rows.All
import Wide.All
import OpenK.AllK
import Wide.FinOn
import Lean
import PyProof.EqAt
import PyProof.EqKinds
import PyProof.TupleCall
import PyProof.P3In
import KE.KDictLaws
import KE.KTabLook
import KE.KRevIter
import KE.KItemsList
import PyProof.TupleOfGen
import KE.KSortTup
import KE.KDictSum
import KE.KEqDict
import PyProof.EnumMake
import PyProof.EnumFor
import PyProof.EnumStmt
import PyProof.AttrMissHeap
import KE.KDictOf
import PyProof.Rows.SortShell
import KE.KDictList
import PyProof.Rows.StrJoinRep
import PyProof.NeKinds
import PySem.Challenge.RW_rootstamp_k50_whole_places_and_growths
set_option Elab.async false
set_option linter.all false
set_option maxRecDepth 100000
set_option maxHeartbeats 4000000
open Array renaming getElem?_eq_some_iff->Ms,getElem?_eq_getElem->Mz,length_toList->MH,getElem?_eq_none->Od,getElem?_setIfInBounds_ne->OX,forIn_toList->RC,append_assoc->RD,all_eq_true->RU,toList->Tr
open Bool renaming and_eq_true_iff->Ku,false_ne_true->KF,and_eq_true->Li,false_eq_true->Mx,eq_iff_iff->NH,or_true->Rb,or_false->Tp,and_true->Tq
open Classical renaming byContradiction->NG
open False renaming elim->Ll
open ForInStep renaming yield->Rt
open Int renaming eq_ofNat_of_zero_le->Lq,emod_lt_of_pos->Me,emod_nonneg->MF,toNat_natCast->Nx,ofNat_sub->OW
open LawfulBEq renaming eq_of_beq->SD
open LawfulMonad renaming pure_bind->SC
open List renaming length_map->pz,getElem?_eq_getElem->If,length_append->Kn,map_append->Kq,getElem?_eq_some_iff->Kr,size_toArray->Ks,mem_singleton->Ky,getD_eq_getElem?_getD->KA,mem_cons_of_mem->KC,mem_cons->KD,length_cons->KH,mem_of_getElem?->KJ,getElem?_map->KL,mem_append_right->KP,getElem?_append_right->KR,getElem?_append_left->KW,mem_cons_self->KY,map_cons->KZ,mem_append_left->Lb,append_assoc->Lg,getElem?_eq_none->Lo,mem_append->Lw,append_nil->Ly,mem_map->LC,all_eq_true->LD,filterMap_cons->LH,not_mem_nil->LL,lookup->LR,length_reverse->LS,nodup_cons->LW,getElem?_reverse->LX,reverse_cons->Mn,of_mem_zip->Mp,length_zip->Mq,lookup_cons->Mt,length_take->Mu,getElem_mem->Mv,getElem?_take_of_lt->ME,all_cons->MJ,zip->MS,mem_iff_getElem?->MV,range->MZ,sum_cons->Nl,forIn_cons->Nm,find?_cons->Nn,mem_range->Nw,take_length->NA,forIn_nil->NQ,length_drop->Oc,length_replicate->Oj,mem_of_mem_take->Ow,length_dropLast->Ox,getElem?_of_mem->Oy,drop_zero->OB,zip_cons_cons->OP,singleton_inj->OQ,contains_cons->OR,take_add_one->Pd,length_range->Pe,map_nil->Pn,map_map->Pp,mem_reverse->Pr,append_inj'->Ps,range_succ->PM,nil_append->PN,length->PP,replicate->Qj,mem_of_find?_eq_some->Qk,drop_eq_getElem_cons->Ql,map_take->Qx,map_drop->Qy,getElem?_replicate->Qz,getElem?_cons_zero->QB,getElem?_cons_succ->QC,any_cons->QD,take_of_length_le->QN,getElem?_set_self->QP,append_eq_nil_iff->QQ,lookup_cons_self->QY,length_singleton->QZ,dropLast_eq_take->Ra,reverse_reverse->Ro,mem_of_mem_drop->Rp,mem_iff_getElem->Rq,getElem?_set_ne->Rr,mem_filterMap->RS,getElem?_take->RT,take_sublist->RY,find?_append->RZ,ext_getElem?->Sa,zipIdx_cons->Sw,map_reverse->Sy,getElem_zip->Sz,getElem_inj->SA,zipIdx_nil->SN,mem_filter->SO,length_nil->SQ,take_succ->Tb
open List.Pairwise renaming nil->Qd,of_map->Ug
open List.cons renaming inj->Le
open Nat renaming le_refl->Gt,lt_of_lt_of_le->KM,le_trans->KN,ne_of_lt->KQ,zero_le->KS,lt_of_le_of_lt->LA,sub_zero->LN,mul_le_mul->LV,le_of_lt->Mb,lt_succ_self->Mg,pow_le_pow_right->Mh,lt_irrefl->Ml,ne_of_gt->Mm,le_succ->MO,sub_self->Ni,le_add_right->ND,lt_trichotomy->NY,le_of_eq->Oq,log2->Ov,log2_self_le->PD,mul_add->Qb,isDigit_of_mem_toDigits->Qc,pow_lt_pow_iff_right->Qw,zero_add->Rn,mul_le_mul_right->RA,add_le_add_right->RB,log2_lt->RQ,le_succ_of_le->Sv,min_le_right->SM,min_le_left->SZ,min_eq_left->Ta
open Ne renaming symm->Lj
open Option renaming isSome_iff_exists->Lk,map_some->NE,map_eq_some_iff->Qs,isSome_map->Rz,getD_some->RO,getD_none->RP
open Option.some renaming inj->KG
open Or renaming inr->Ss
open Prod renaming snd->RM,fst->RN,ext->Tn
open PyProof.Rows renaming callWith_type1->Ls,slot_tuple_getitem->LB,boot_isinstance->LP,boot_tuple->Oh,AllBare->Oo,IntsAre->Pc,recsOf->PL,IsTup->QL,subscriptTail_builtinR->RX,entry_tuple_getitem->SY,boot_str->Tj,args_tuple_getitem->Tl
open PyProof.Rows.IsTup renaming new->Sr
open PySem renaming wpAny_bind->cW,Value->tx,Shared->Km,wpAny_pure->Ko,FuncData->Kz,Program->KI,wpAny_mono->KU,boot_len->Lc,wpAny_field->Lf,Around->Lh,World->Lp,wpAny_Call_Name_kw->Lx,wpAny_callSpecial?_slot->Lz,wpAny_call_entry->LF,builtinLookup_eq_fast->LK,wpAny_setField_rec->LO,mem_of_lookup->LQ,wpAny_newObj_type->LY,wpAny_holding->Md,sizeLine_eq->Mi,wpAny_seqItems->Mr,NameKind->MI,wpAny_truthy_bool->MK,wpAny_specialOf->ML,wpAny_loadPart_at->MM,typeLookup_type->MN,wpAny_isSubtype_exc->MP,strLen_append->MQ,tupleKind_room_in1->MY,wpAny_passesOwn->Nc,codeAny_mono->Nd,isSubtype_type->Nj,wpAny_of_eq->NB,Builtin->NC,IsPair->NF,wpAny_standAt->NK,wpAny_attempt->NL,wpAny_updateSeq->NR,wpAny_execs_nil->NS,atKey_none_of_get->Of,ExceptHandler->On,wpAny_isInstance->Ot,wpAny_execs_cons->Ou,wpAny_typeOf->OG,wpAny_loadPart'->OH,codeAny_call_function->OI,call_meetsIn->OJ,wpAny_rule->ON,ZipApart->OO,wpAny_newFunctionEnv->OS,Within->OZ,wpAny_letGo->Pg,plainId_quiet->Pt,Result->Py,GenState->Pz,wpAny_pyIter_list->PQ,wpAny_call->PR,wpAny_assign_Name->PU,plainObj_wpAny_Assign_Attribute->PV,PlainAttrs->PY,IsPart->Qe,wpAny_lookBehind->Qm,pastItsLine_dict->Qn,noFill_tuple_add->Qo,ofString_length->QF,wpAny_newFunctionEnv_cells->QR,wpAny_setField->Rc,wpAny_loadPart->Re,wpAny_comprehension_free->Ru,wpAny_onRaise->RE,seq_tuple_add->RF,call->RG,BindsTo->RL,wpAny_nextOf_list_item->RV,wpAny_nsSet1->Sb,wpAny_notOrdered_dict->Sd,wpAny_nextOf_list_end->Se,seqIndex_neg->Sf,concat_meets->Sg,codeAny_func->Sh,PyData->Sl,PassesOwn->Sm,CmpOp->Sq,wpAny_updateSeq_pair->SE,wpAny_pyIter_revIter->SG,storedH_new->SU,seqIndex_of->SV,kt_meets_setdefault->SW,wpAny_pyIter_tuple->Tc,call_reversed_list->Td,IntMulOk->Tg,wpAny_sequenceKey->Ts,wpAny_pyIter_slot->Tt,wpAny_dictEntries->Tu,wpAny_Return_some->Tv,wpAny_Name->Tw,typeIs_str->Tx,call_meets->Tz,Model->TK,IsZip->TL
open PySem.Around renaming under->Qv,under_plainId->QG,frames_deeper->QK
open PySem.Builtin.Dict renaming keyAndDefault->OM
open PySem.Builtin.Int renaming intBits->Mf
open PySem.Builtin.List renaming listExtendWith->Lr,listSameRef->MX,listItems->Nh,listLengthHint->OF,listUpdate->Pb
open PySem.Builtin.Range renaming rangeSize->Ue
open PySem.Builtin.Slice renaming slicePlaces->MR,sliceAdjust->Ny,sliceApplied->OE,slicePartIndex->Uc,sliceFields->Ud
open PySem.Builtin.SmallTypes renaming ownedTupleIsFree->La,nextOf->Lv,ownedTupleHandOut->NJ
open PySem.Builtin.Tuple renaming tupleExact->MU,tupleItemsOf->OD,tupleIsExact->Ub
open PySem.Calls renaming Name_function_global->NI,spliced_cons->OL,spliced_nil->OV,loadGlobal_global->Qr,callWith_builtin->Qu
open PySem.Code renaming isFrame->QX,quiet_builtin->RK
open PySem.Data renaming fields->Ry
open PySem.EntryCells renaming newEntry->Qi
open PySem.EqMixed renaming ne_str_int->TQ,ne_str_bool->TR,ne_int_str->TU,ne_bool_str->TV,eq_str_int->TX,eq_str_bool->TY,eq_int_str->TZ,eq_bool_str->Ua
open PySem.F renaming slot_list_append->Kv,type_list_append->Kw,plainAttrs_list->KB,slot_dict_setdefault->LG,plain_extend_loop->Ma,args_dict_setdefault_3->MD,entry_dict_setdefault->MG,slot_zip_next->Nr,args_tuple_add_2->NO,plainAttrs_dict->NT,entry_tuple_add->NU,slot_tuple_add->NX,slot_dict_get->Ob,type_dict_setdefault->Pa,type_int_bit_length->Pl,slot_int_bit_length->Pm,entry_extend_loop->PB,args_zip_next_1->PC,slot_str_ascii_iterator_iter->PJ,entry_zip_next->PZ,args_dict_get_3->Qa,plainAttrs_str->Qf,plainAttrs_int->Qg,entry_dict_get->Qh,type_str_join->Qp,slot_str_join->Qq,slot_tuple_iterator_next->Qt,args_list_init_2->QV,typeCall_list_1->Rl,entry_list_init->Rm,slot_tuple_eq_refl->RW,called_list->So,slot_dict_len->TN
open PySem.Heap renaming get?_push_of_some->gV,lt_size->Kp,get?_push_size->Kt,get?_update_self->Lm,get?_update_other->Lu,SameBut->Mw,size_push->MA,size_update->Pq,get?_none_of_le->Rk,get?_update_ne->Rw,ExtBut->Rx
open PySem.Heap.IsSliceOf renaming new->Th
open PySem.Heap.Ns1 renaming of_empty->QU
open PySem.Heap.SameBut renaming update->Nu
open PySem.IntMulOk renaming of_left->Nt
open PySem.NameKind renaming free->MC,cell->NP
open PySem.NumText renaming digitsVal->TJ
open PySem.Obj renaming mapSeq->LU,data_mapFields->Np,mapFields->Oa,isFreed_of_fields->Om,data_mapDictKeys->Rv,cls_mapFields->Sn
open PySem.PassesOwn renaming never->Lt
open PySem.PyData renaming depthAll->LJ,canLayAll0->MT,tuple->Ng,strOk->Oe,eqvAll->OC
open PySem.SeqAt.EqAt renaming int_int->OA,str_int->Ph,int_str->Pj,str_str->SL
open PySem.Shared renaming heap->Tf
open PySem.Str renaming ofString->LM,empty->My,length->Px,empty_append->SJ,append_empty->SK
open PySem.Txt renaming mul->Ol,slice->OU
open PySem.Value renaming ref->Kx,bool->Mj,none->MB,str->Nv,type->Oi,int->OK,float->Rj,isStrOf->SX,isInt->TD,bytes->TF
open PySem.Value.type renaming inj->Ri
open PySem.W renaming Frag->pv,findIn->LI,mg_none_of->Mo,fnOf->Na,CodeHd->Nf,emptyDict->Nk,kia_one->Nq,hideAll_none->Nz,nsIn->NM,mg_of->NN,keepIn->NV,tabIn->NW,instObj->NZ,hideAll_get->Og,envX->Oz,hasDictIn->OT,plainGet->Pu,mroIn->Pw,cellsFrom_some->PX,tabObj->Rf,plainGet_of->Rg,noTabs->Rh,of_hideAll->RH,isFn->RI,callWith_K->RJ,plainOver->Si,methodObj->Sj,lookIn->SH,codeIn->SI,takerIn->TB,makesIn->TC
open PySem.W.KIN renaming signs_num->Sk
open PySem.Within renaming cons->PF
open Sum renaming inr->MW,inl->Nb
open Sum.inl renaming inj->SR
open Sum.inr renaming inj->Pf
open True renaming intro->Mc
namespace L2
open PySem PySem.Spec PyProof.Rows
abbrev Key:=Sum Int Str
def jX:Key->tx->Bool
 |.inl k,v=>TD k v
 |.inr x,v=>SX x v
def Ju (w:Lp):Key->Int
 |.inl k=>hashInt k
 |.inr x=>hashStr w x
theorem cG:∀{k:Key}{v:tx},jX k v=true->(∃i t,k=Nb i/\v=OK i t)\/(∃x t,k=MW x/\v=Nv x t)
 |.inl i,v,h=>by
  obtain⟨t,e⟩:=Value.isInt_shape (k:=i) (v:=v) h
  exact .inl ⟨i,t,rfl,e⟩
 |.inr x,v,h=>by
  obtain⟨t,e⟩:=Value.isStrOf_shape (x:=x) (v:=v) h
  exact .inr ⟨x,t,rfl,e⟩
theorem wq (i:Int)(t:Tok):jX (.inl i) (.int i t)=true:=by simp[jX,TD]
theorem wX (x:Str)(t:Tok):jX (.inr x) (.str x t)=true:=by simp[jX,SX]
theorem DZ (a b:Int):decide ((Nb a:Key)=Nb b)=(a==b):=by
 by_cases e:a=b
 ·subst e;simp
 ·have h:¬(Nb a:Key)=Nb b:=fun q=>e (SR q)
  rw[decide_eq_false h]
  exact(beq_eq_false_iff_ne.mpr e).symm
theorem EF (a b:Str):decide ((MW a:Key)=MW b)=decide (a=b):=by
 by_cases e:a=b
 ·subst e;simp
 ·have h:¬(MW a:Key)=MW b:=fun q=>e (Pf q)
  rw[decide_eq_false h,decide_eq_false e]
theorem EV (a:Int)(b:Str):decide ((Nb a:Key)=MW b)=false:=decide_eq_false (fun q=>nomatch q)
theorem Di (a:Str)(b:Int):decide ((MW a:Key)=Nb b)=false:=decide_eq_false (fun q=>nomatch q)
def bY (prog:KI)(w:Lp):PySem.KeyKind prog w Key where
 is:=jX
 hash:=Ju w
 inj:=fun v a b ha hb=>by
  rcases cG ha with⟨i,t,rfl,rfl⟩|⟨x,t,rfl,rfl⟩
  ·rcases cG hb with⟨j,u,rfl,e⟩|⟨y,u,rfl,e⟩
   ·injection e with e1 _;rw[e1]
   ·exact nomatch e
  ·rcases cG hb with⟨j,u,rfl,e⟩|⟨y,u,rfl,e⟩
   ·exact nomatch e
   ·injection e with e1 _;rw[e1]
 byValue:=fun k v h=>by
  rcases cG h with⟨i,t,rfl,rfl⟩|⟨x,t,rfl,rfl⟩<;>rfl
 pyHash:=fun hv h=>by
  rcases cG hv with⟨i,t,rfl,rfl⟩|⟨x,t,rfl,rfl⟩
  ·exact wpAny_pyHash_int h
  ·exact wpAny_pyHash_str h
 eqBool:=fun hu hv h=>by
  rcases cG hu with⟨i,t,rfl,rfl⟩|⟨x,t,rfl,rfl⟩
  ·rcases cG hv with⟨j,u,rfl,rfl⟩|⟨y,u,rfl,rfl⟩
   ·rw[DZ]at h;exact wpAny_eqBool_int h
   ·rw[EV]at h;exact Pj i t y u _ _ _ _ h
  ·rcases cG hv with⟨j,u,rfl,rfl⟩|⟨y,u,rfl,rfl⟩
   ·rw[Di]at h;exact Ph x t j u _ _ _ _ h
   ·rw[EF]at h;exact wpAny_eqBool_str h
 «strs»:=fun k x t v h=>by
  rcases cG h with⟨i,u,rfl,e⟩|⟨y,u,rfl,e⟩
  ·exact nomatch e
  ·injection e with e1 _
   subst e1
   cases v<;>rfl
theorem rO (prog:KI)(w:Lp)(i:Int)(t:Tok):(bY prog w).is (.inl i) (.int i t)=true:=wq i t
theorem rN (prog:KI)(w:Lp)(x:Str)(t:Tok):(bY prog w).is (.inr x) (.str x t)=true:=wX x t
inductive V where
 |non|bl (b:Bool)|int (i:Int)|str (x:Str)|byt (b:Array UInt8)|flt (b:UInt64)|ref (a:Addr)|ty (n:String)
 deriving DecidableEq
def aY:V->tx->Prop
 |.non,u=>u=MB
 |.bl b,u=>u=Mj b
 |.int i,u=>∃t,u=OK i t
 |.str x,u=>∃t,u=Nv x t
 |.byt b,u=>∃t,u=TF b t
 |.flt b,u=>∃t,u=Rj b t
 |.ref a,u=>u=Kx a
 |.ty n,u=>u=Oi n
abbrev bc:List V->List tx->Prop:=Paired aY
theorem bc.length {xs:List V}{us:List tx}(r:bc xs us):xs.length=us.length:=Paired.length r
theorem bc.get:∀{xs:List V}{us:List tx}{i:Nat}{x:V},bc xs us->xs[i]? =some x->∃u,us[i]? =some u/\aY x u
 |_,_,_,_,.nil,e=>by simp at e
 |_,_,0,_,.cons r _,e=>by simp at e;subst e;exact⟨_,rfl,r⟩
 |_,_,i+1,x,.cons _ t,e=>by
  obtain⟨u,h1,h2⟩:=bc.get (i:=i) (x:=x) t (by simpa using e)
  exact⟨u,by simpa using h1,h2⟩
theorem bc.set {x:V}{u:tx}(r:aY x u):∀{xs:List V}{us:List tx}(i:Nat),bc xs us->bc (xs.set i x) (us.set i u)
 |_,_,_,.nil=>.nil
 |_,_,0,.cons _ t=>.cons r t
 |_,_,i+1,.cons q t=>.cons q (bc.set r i t)
theorem bc.append:∀{xs ys:List V}{us ws:List tx},bc xs us->bc ys ws->bc (xs++ys) (us++ws)
 |_,_,_,_,.nil,s=>s
 |_,_,_,_,.cons r t,s=>.cons r (bc.append t s)
theorem bc.take:∀{xs:List V}{us:List tx}(n:Nat),bc xs us->bc (xs.take n) (us.take n)
 |_,_,0,_=>.nil
 |_,_,_+1,.nil=>.nil
 |_,_,n+1,.cons r t=>.cons r (bc.take n t)
theorem bc.drop:∀{xs:List V}{us:List tx}(n:Nat),bc xs us->bc (xs.drop n) (us.drop n)
 |_,_,0,r=>r
 |_,_,_+1,.nil=>.nil
 |_,_,n+1,.cons _ t=>bc.drop n t
def cA:Option V->Option tx->Prop
 |some v,some u=>aY v u
 |none,none=>True
 |_,_=>False
def KV {κ:Type}:List (κ×V)->List (κ×tx)->Prop:=Paired fun(p:κ×V)(q:κ×tx)=>p.1=q.1/\aY p.2 q.2
def kV:Key->V
 |.inl i=>.int i
 |.inr x=>.str x
inductive HO where
 |lst (xs:List V)
 |tup (xs:List V)
 |dK (kvs:List (Key×V))|dT (kvs:List (List Key×V))
 |set (S:Int->Bool) (n:Nat)
 |ins (C dx:Addr) (fs:List (Str×V))
 |own (x:Addr)
 |xd (fs:List (Str×V))
 |met (f x:Addr)
 |rng (lo hi:Int)
 |frz (o:Obj) (u:HO)
 |tbl (ps:Array tx)
 |ext (φ:Heap->Prop)
abbrev Hp:=Addr->Option HO
def upd (H:Hp)(a:Addr)(o:HO):Hp:=fun b=>if b=a then some o else H b
theorem au {H:Hp}{a:Addr}{o:HO}:upd H a o a=some o:=by unfold upd;rw[if_pos rfl]
theorem aC {H:Hp}{a b:Addr}{o:HO}(h:b≠a):upd H a o b=H b:=by unfold upd;rw[if_neg h]
theorem dm {H:Hp}{a:Addr}{o u:HO}:upd (upd H a o) a u=upd H a u:=by
 funext b;unfold upd;split<;>rfl
theorem bN {H:Hp}{a b:Addr}{o u:HO}(h:H a=some o)(h':H b=some u)(d:o≠u):a≠b:=by
 intro e;subst e;rw[h]at h';exact d (KG h')
theorem aI {H:Hp}{a b:Addr}{o:HO}(h:H a=some o)(h':H b=none):a≠b:=by
 intro e;subst e;rw[h]at h';cases h'
section
variable (P:KI)(w:Lp)
def bj (H:Hp)(h:Heap)(a:Addr):HO->Prop
 |.lst xs=>xs.length<=sizeLine/\∃(its:List tx)(n:Nat),bc xs its/\h.get? a=some {cls:=.type "list",data:=.seq its.toArray n}
 |.tup xs=>xs.length<=sizeLine/\∃its:List tx,bc xs its/\QL h a its.toArray
 |.dK kvs=>kvs.length<=sizeLine/\(a==sysModules)=false/\∃vs,KV kvs vs/\h.DictOf (bY P w) a vs
 |.dT kvs=>kvs.length<=sizeLine/\(a==sysModules)=false/\∃xs:List (List Key×Addr×tx),
  Paired (fun(p:List Key×V)(q:List Key×Addr×tx)=>p.1=q.1/\H q.2.1=some (.tup (p.1.map kV))/\aY p.2 q.2.2) kvs xs/\
  ∃o es ep,h.get? a=some o/\o.ExactDict/\o.data=.dict es ep/\es.toList=xs.map (entryOfKey (tupleKind (bY P w)))/\(xs.map (·.1)).Nodup
 |.set S n=>h.SetOf (intKind P w) a S n
 |.ins C dx fs=>H dx=some (.own a)/\fs.length<=1000/\dx≠a/\h.get? a=some (NZ C dx)/\
  ∃mA,h.Ns1 dx mA/\(∀f,cA (fs.lookup f) (mA f))/\OZ mA (fs.map (·.1))
 |.own _=>∃o,h.get? a=some o
 |.xd fs=>∃mA,h.Ns1 a mA/\∀f,cA (fs.lookup f) (mA f)
 |.rng lo hi=>∃t u v,h.get? a=some {cls:=.type "range",data:=.fields #[.int lo t,.int hi u,.int 1 v]}
 |.frz o u=>h.get? a=some o/\bj H h a u
 |.tbl ps=>h.get? a=some {cls:=.none,data:=.fields ps}
 |.met f x=>h.get? a=some (Sj (.ref f) (.ref x))
 |.ext φ=>φ h/\(∃o,h.get? a=some o)/\∀h1 h2:Heap,φ h1->(∀o,h1.get? a=some o->h2.get? a=some o)->φ h2
def HOk (H:Hp)(h:Heap):Prop:=∀a o,H a=some o->bj P w H h a o
end
section
variable {P:KI}{w:Lp}{H H':Hp}{h h':Heap}{a:Addr}{o:HO}
theorem bj.lt (x:bj P w H h a o):a<h.objs.size:=by
 cases o with
 |lst xs=>obtain⟨_,_,_,_,e⟩:=x;exact Kp e
 |tup xs=>obtain⟨_,_,_,p⟩:=x;exact p.lt
 |dK kvs=>obtain⟨_,_,_,_,o,_,_,e,_⟩:=x;exact Kp e
 |dT kvs=>obtain⟨_,_,_,_,o,_,_,e,_⟩:=x;exact Kp e
 |set S n=>obtain⟨o,_,_,_,e,_⟩:=x;exact Kp e
 |ins C dx fs=>obtain⟨_,_,_,e,_⟩:=x;exact Kp e
 |own y=>obtain⟨_,e⟩:=x;exact Kp e
 |xd fs=>obtain⟨_,⟨_,_,_,e,_⟩,_⟩:=x;exact Kp e
 |rng lo hi=>obtain⟨_,_,_,e⟩:=x;exact Kp e
 |frz ob u=>obtain⟨e,_⟩:=x;exact Kp e
 |tbl ps=>exact Kp (show h.get? a=some _ from x)
 |met f y=>exact Kp (show h.get? a=some _ from x)
 |ext φ=>obtain⟨_,⟨_,e⟩,_⟩:=x;exact Kp e
theorem Paired.mapP {α β:Type}{F G:α->β->Prop}:∀{l₁:List α}{l₂:List β},Paired F l₁ l₂->(∀a b,F a b->G a b)->Paired G l₁ l₂
 |_,_,.nil,_=>.nil
 |_,_,.cons r t,f=>.cons (f _ _ r) (Paired.mapP t f)
theorem bj.stay (x:bj P w H h a o)(k:∀b u,(b=a\/H b=some (.own a))->h.get? b=some u->h'.get? b=some u)
  (ho:∀b,H b=some (.own a)->H' b=some (.own a))(ht:∀b xs,H b=some (.tup xs)->H' b=some (.tup xs)):bj P w H' h' a o:=by
 induction o with
 |lst xs=>obtain⟨z,its,n,r,e⟩:=x;exact⟨z,its,n,r,k _ _ (.inl rfl) e⟩
 |tup xs=>obtain⟨z,its,r,ob,e,c⟩:=x;exact⟨z,its,r,ob,k _ _ (.inl rfl) e,c⟩
 |dK kvs=>obtain⟨z,y,vs,r,ob,es,ep,e,c⟩:=x;exact⟨z,y,vs,r,ob,es,ep,k _ _ (.inl rfl) e,c⟩
 |dT kvs=>
  obtain⟨z,y,xs,r,ob,es,ep,e,c⟩:=x
  exact⟨z,y,xs,Paired.mapP r fun p q z=>⟨z.1,ht _ _ z.2.1,z.2.2⟩,ob,es,ep,k _ _ (.inl rfl) e,c⟩
 |set S n=>obtain⟨ob,es,ep,t,e,c⟩:=x;exact⟨ob,es,ep,t,k _ _ (.inl rfl) e,c⟩
 |ins C dx fs=>
  obtain⟨d,z,ne,e,mA,⟨od,es,ep,e2,c⟩,r⟩:=x
  exact⟨ho _ d,z,ne,k _ _ (.inl rfl) e,mA,⟨od,es,ep,k _ _ (.inr d) e2,c⟩,r⟩
 |own y=>obtain⟨ob,e⟩:=x;exact⟨ob,k _ _ (.inl rfl) e⟩
 |xd fs=>obtain⟨mA,⟨od,es,ep,e,c⟩,r⟩:=x;exact⟨mA,⟨od,es,ep,k _ _ (.inl rfl) e,c⟩,r⟩
 |rng lo hi=>obtain⟨t,u,v,e⟩:=x;exact⟨t,u,v,k _ _ (.inl rfl) e⟩
 |frz ob u ih=>obtain⟨e,q⟩:=x;exact⟨k _ _ (.inl rfl) e,ih q⟩
 |tbl ps=>
  have e:h.get? a=some {cls:=.none,data:=.fields ps}:=x
  show h'.get? a=some {cls:=.none,data:=.fields ps}
  exact k a _ (.inl rfl) e
 |met f y=>
  have e:h.get? a=some (Sj (.ref f) (.ref y)):=x
  show h'.get? a=some (Sj (.ref f) (.ref y))
  exact k a _ (.inl rfl) e
 |ext φ=>obtain⟨p,⟨o,e⟩,st⟩:=x;exact⟨st _ _ p fun o q=>k _ _ (.inl rfl) q,⟨o,k _ _ (.inl rfl) e⟩,st⟩
theorem HOk.lt (x:HOk P w H h)(e:H a=some o):a<h.objs.size:=(x a o e).lt
theorem HOk.fresh (x:HOk P w H h)(e:h.objs.size<=a):H a=none:=by
 cases q:H a with
 |none=>rfl
 |some u=>exact absurd (KM (x.lt q) e) (Ml _)
theorem HOk.kept (x:HOk P w H h)(k:∀b u,h.get? b=some u->h'.get? b=some u):HOk P w H h':=fun a o e=>
 (x a o e).stay (fun b u _ q=>k b u q) (fun _ q=>q) fun _ _ q=>q
theorem HOk.laid (x:HOk P w H h)(k:∀b u,h.get? b=some u->h'.get? b=some u)(hp:h.objs.size<=a)(new:bj P w (upd H a o) h' a o):HOk P w (upd H a o) h':=fun b u e=>by
 have hn:=x.fresh hp
 by_cases hb:b=a
 ·subst hb;rw[au]at e;cases e;exact new
 ·rw[aC hb]at e
  exact(x b u e).stay (fun c v _ q=>k c v q) (fun c q=>by rw[aC (aI q hn)];exact q) fun c xs q=>by rw[aC (aI q hn)];exact q
end
def Rd (H:Hp)(a:Addr)(u:HO):Prop:=H a=some u\/∃o,H a=some (.frz o u)
theorem Rd.ok {P:KI}{w:Lp}{H:Hp}{h:Heap}{a:Addr}{u:HO}(r:Rd H a u)(x:HOk P w H h):bj P w H h a u:=by
 rcases r with r|⟨o,r⟩
 ·exact x a u r
 ·obtain⟨_,q⟩:=x a _ r
  exact q
def Mut:Option HO->Prop
 |some (.lst _)=>True
 |some (.dK _)=>True
 |some (.dT _)=>True
 |some (.set _ _)=>True
 |some (.ins _ _ _)=>True
 |some (.ext _)=>True
 |_=>False
section
variable {P:KI}{w:Lp}{H:Hp}{h h':Heap}{x e:Addr}{o':HO}
theorem HOk.write (ok:HOk P w H h)(mu:Mut (H x))(he:e=x\/H e=some (.own x))(k:∀b u,b≠e->h.get? b=some u->h'.get? b=some u)(heo:∃u,h'.get? e=some u)
  (new:bj P w (upd H x o') h' x o'):HOk P w (upd H x o') h':=fun b u q=>by
 have nown:∀c y,H c=some (.own y)->c≠x:=fun c y r z=>by subst z;rw[r]at mu;exact mu
 have ntup:∀c xs,H c=some (.tup xs)->c≠x:=fun c xs r z=>by subst z;rw[r]at mu;exact mu
 by_cases hb:b=x
 ·subst hb;rw[au]at q;cases q;exact new
 ·rw[aC hb]at q
  by_cases hbe:b=e
  ·have q':H b=some (.own x):=by
    rcases he with z|z
    ·exact absurd (hbe.trans z) hb
    ·rw[hbe];exact z
   rw[q]at q';cases q'
   obtain⟨v,hv⟩:=heo
   exact⟨v,by rw[hbe];exact hv⟩
  ·refine(ok b u q).stay (fun c v hc r=>k c v ?_ r) (fun c r=>by rw[aC (nown c b r)];exact r) fun c xs r=>by rw[aC (ntup c xs r)];exact r
   rcases hc with rfl|hc
   ·exact hbe
   ·rintro rfl
    rcases he with z|z
    ·exact nown c b hc z
    ·rw[hc]at z;cases z;exact hb rfl
end
structure Un (fs ex:List Addr)(H H':Hp)(h h':Heap):Prop where
 keep:∀b o,h.get? b=some o->H b=none->b∉fs->b∉ex->h'.get? b=some o
 slot:∀b o,h.get? b=some o->H b=none->b∈fs->b∉ex->∃sl,h'.get? b=some {o with slots:=sl}
 free:∀b o,h.get? b=some o->H b=none->b∉ex->H' b=none
 there:∀b o,h.get? b=some o->b∉ex->∃o',h'.get? b=some o'
 tups:∀b xs,H b=some (.tup xs)->H' b=some (.tup xs)
 frzs:∀b o u,H b=some (.frz o u)->H' b=some (.frz o u)
 tbls:∀b ps,H b=some (.tbl ps)->∃more,H' b=some (.tbl (ps++more))
section
variable {fs fs' ex ex':List Addr}{H H1 H2:Hp}{h h1 h2 h':Heap}{a x e:Addr}{o:HO}
theorem Un.any (u:Un fs ex H H1 h h1){b:Addr}{ob:Obj}(q:h.get? b=some ob)(n:H b=none)(hx:b∉ex):∃sl,h1.get? b=some {ob with slots:=sl}:=by
 by_cases hb:b∈fs
 ·exact u.slot b ob q n hb hx
 ·exact⟨ob.slots,u.keep b ob q n hb hx⟩
theorem Un.trans (a:Un fs ex H H1 h h1)(b:Un fs ex H1 H2 h1 h2):Un fs ex H H2 h h2 where
 keep:=fun c ob q n hc hx=>b.keep c ob (a.keep c ob q n hc hx) (a.free c ob q n hx) hc hx
 slot:=fun c ob q n hc hx=>by
  obtain⟨sl,e1⟩:=a.slot c ob q n hc hx
  obtain⟨sl',e2⟩:=b.slot c _ e1 (a.free c ob q n hx) hc hx
  exact⟨sl',e2⟩
 free:=fun c ob q n hx=>by
  obtain⟨o',e1⟩:=a.there c ob q hx
  exact b.free c o' e1 (a.free c ob q n hx) hx
 there:=fun c ob q hx=>by
  obtain⟨o',e1⟩:=a.there c ob q hx
  exact b.there c o' e1 hx
 tups:=fun c xs q=>b.tups c xs (a.tups c xs q)
 frzs:=fun c ob xs q=>b.frzs c ob xs (a.frzs c ob xs q)
 tbls:=fun c ps q=>by
  obtain⟨m1,e1⟩:=a.tbls c ps q
  obtain⟨m2,e2⟩:=b.tbls c _ e1
  exact⟨m1++m2,by rw[e2,RD]⟩
theorem Un.kept (k:∀b u,h.get? b=some u->h'.get? b=some u):Un fs ex H H h h':=
 ⟨fun b ob q _ _ _=>k b ob q,fun b ob q _ _ _=>⟨ob.slots,k b ob q⟩,fun _ _ _ n _=>n,fun b ob q _=>⟨ob,k b ob q⟩,fun _ _ q=>q,fun _ _ _ q=>q,fun _ ps q=>⟨#[],by rw[q];simp⟩⟩
theorem Un.refl:Un fs ex H H h h:=Un.kept fun _ _ q=>q
theorem Un.laid (k:∀b u,h.get? b=some u->h'.get? b=some u)(hp:h.objs.size<=a)(hn:H a=none):Un fs ex H (upd H a o) h h' where
 keep:=fun b u q _ _ _=>k b u q
 slot:=fun b u q _ _ _=>⟨u.slots,k b u q⟩
 free:=fun b u q n _=>by rw[aC (KQ (KM (Kp q) hp))];exact n
 there:=fun b u q _=>⟨u,k b u q⟩
 tups:=fun b xs q=>by rw[aC (aI q hn)];exact q
 frzs:=fun b u xs q=>by rw[aC (aI q hn)];exact q
 tbls:=fun b ps q=>⟨#[],by rw[aC (aI q hn),q];simp⟩
theorem Un.write (mu:Mut (H x))(he:e=x\/H e=some (.own x))(k:∀b u,b≠e->h.get? b=some u->h'.get? b=some u)(heo:∃u,h'.get? e=some u):Un fs ex H (upd H x o) h h':=by
 have hx:∀b,H b=none->b≠x:=fun b n z=>by subst z;rw[n]at mu;exact mu
 have hb:∀b,H b=none->b≠e:=fun b n z=>by
  subst z
  rcases he with r|r
  ·exact hx b n r
  ·rw[n]at r;cases r
 have hm:∀b u,H b=some u->¬Mut (some u)->b≠x:=fun b u q nm z=>by subst z;rw[q]at mu;exact nm mu
 refine⟨fun b u q n _ _=>k b u (hb b n) q,fun b u q n _ _=>⟨u.slots,k b u (hb b n) q⟩,fun b u q n _=>by rw[aC (hx b n)];exact n,fun b u q _=>?_,
  fun b xs q=>by rw[aC (hm b _ q fun z=>z)];exact q,fun b u xs q=>by rw[aC (hm b _ q fun z=>z)];exact q,fun b ps q=>⟨#[],by rw[aC (hm b _ q fun z=>z),q];simp⟩⟩
 by_cases hbe:b=e
 ·subst hbe;exact heo
 ·exact⟨u,k b u hbe q⟩
end
def trk (h:Heap)(H:Hp):List Addr:=(MZ h.objs.size).filter fun a=>(H a).isSome
def gl (h:Heap)(H:Hp):Heap:=W.hideAll h (trk h H)
theorem vk (h:Heap)(H:Hp):(gl h H).objs.size=h.objs.size:=W.hideAll_size _ _
theorem yE {h:Heap}{H:Hp}{b:Addr}{o:Obj}(e:h.get? b=some o)(n:H b=none):(gl h H).get? b=some o:=
 Og _ e fun hm=>by
  have q:(H b).isSome=true:=(SO.mp hm).2
  rw[n]at q;simp at q
theorem AF {h:Heap}{H:Hp}{b:Addr}{o:Obj}(e:(gl h H).get? b=some o):h.get? b=some o/\H b=none:=by
 have e':h.get? b=some o:=RH (trk h H) e
 refine⟨e',?_⟩
 cases q:H b with
 |none=>rfl
 |some x=>
  have hm:b∈trk h H:=SO.mpr ⟨Nw.mpr (Kp e'),by simp[q]⟩
  have z:(gl h H).get? b=none:=Nz (trk h H) hm
  rw[z]at e;cases e
def Bo (g h:Heap)(L:Addr):List (Addr×Obj):=(MZ h.objs.size).filterMap fun a=>if a=L\/(g.get? a).isSome=true then none else(h.get? a).map fun o=>(a,o)
def bQ (g h:Heap)(L d:Addr):List (Addr×Obj):=(Bo g h L).filter fun p=>decide (p.1≠d)
structure Mod (K:pv)(mg:Str->Option tx)(base:Heap):Prop where
 kin:K.In base
 glob:base.Ns mainGlobals mg
 blt:∃mb,base.Ns builtinsNs mb/\∀x:Str,x≠"__name__"->mb x=bootBuiltins x
 nolimit:base.NoLimit
set_option genInjectivity false in
set_option genSizeOf false in
structure Cx where
 prog:KI
 w:Lp
 K:pv
 mg:Str->Option tx
 base:Heap
 A:Lh
 N:List Str
 s₀:Km
 H₀:Hp
 env:Env
 outer:List Env
 stack:List Env
 ex:List Addr
 fn:Str->Bool
 calm:Bool
 pn:List (Addr×Obj)
 xe:tx->Km->Prop
def frs (l:List Env):List Addr:=l.filterMap (·.frame)
abbrev Cx.fs (X:Cx):List Addr:=frs X.outer
def Vis (sc:Scope)(x:Str):Prop:=sc.names.lookup x=some .local\/sc.names.lookup x=some .cell\/sc.names.lookup x=some .free
def Loc (sc:Scope)(x:Str):Prop:=sc.names.lookup x=some .local\/sc.names.lookup x=some .cell
def DQ (env:Env)(h:Heap)(m:Str->Option tx)(x:Str)(u:tx):Prop:=
 (env.kindOf x=some .local/\m x=some u)\/((env.kindOf x=some .cell\/env.kindOf x=some .free)/\∃c,env.cells.lookup x=some c/\h.IsCell c (some u))
set_option genInjectivity false in
set_option genSizeOf false in
structure Cx.Ok (X:Cx):Prop where
 mod:Mod X.K X.mg X.base
 kind:X.env.scope.kind=.function
 glob:X.env.globals=mainGlobals
 blt:X.env.builtins=builtinsNs
 above:X.s₀.heap.objs.size<=X.env.locals
 inj:∀x y c,X.env.cells.lookup x=some c->X.env.cells.lookup y=some c->x=y
 has:∀x,(X.env.kindOf x=some .cell\/X.env.kindOf x=some .free)->∃c,X.env.cells.lookup x=some c
 cab:∀x c,X.fn x=true->X.env.cells.lookup x=some c->X.s₀.heap.objs.size<=c
 hd:X.calm=true->X.A.handled=none
 frames:X.A.frames=some X.stack
 stk:X.stack=X.outer\/(X.stack=X.env::X.outer/\X.env.frame=some X.env.locals)
 exf:∀b∈X.ex,b≠X.env.locals/\∀x c,X.env.cells.lookup x=some c->c≠b
 bs:∀b o,X.base.get? b=some o->X.s₀.heap.get? b=some o/\X.H₀ b=none
 bsz:X.base.objs.size<=X.s₀.heap.objs.size
 noex:∀b o,X.base.get? b=some o->b∉X.ex
 exfs:∀b∈X.ex,b∉X.fs
 funs:X.s₀.heap.FunFrames X.base X.outer
 frf:∀b∈X.fs,X.H₀ b=none
structure Inv (X:Cx)(pins:List (Addr×Obj))(σ:List (Option V))(H:Hp)(s:Km):Prop where
 ok:X.Ok
 os:s.os=X.s₀.os
 bare:Oo s.gens
 base:Un X.fs X.ex X.H₀ H X.s₀.heap s.heap
 loc:∃m,s.heap.Ns X.env.locals m/\∀(i:Nat)(x:Str)(v:V),X.N[i]?=some x->σ[i]?=some (some v)->Vis X.env.scope x->∃u,aY v u/\DQ X.env s.heap m x u
 cell:∀x c,X.env.cells.lookup x=some c->∃v,s.heap.IsCell c v
 free:H X.env.locals=none
 freeC:∀x c,X.env.cells.lookup x=some c->H c=none
 pin:∀p∈X.pn++pins,s.heap.get? p.1=some p.2/\H p.1=none/\p.1≠X.env.locals/\p.1∉X.fs/\∀v,p.2.data≠.cell v
 hok:HOk X.prog X.w H s.heap
 len:σ.length=X.N.length
section
variable {X:Cx}{pins:List (Addr×Obj)}{σ:List (Option V)}{H H':Hp}{s:Km}{h':Heap}
theorem Cx.Ok.nofr (ok:X.Ok){b:Addr}{o:Obj}(e:X.base.get? b=some o):b∉X.fs:=fun hb=>by
 have:=(ok.funs.mem hb).1
 rw[e]at this;cases this
theorem Inv.bs (I:Inv X pins σ H s):∀b o,X.base.get? b=some o->s.heap.get? b=some o/\H b=none:=fun b o e=>
 ⟨I.base.keep b o (I.ok.bs b o e).1 (I.ok.bs b o e).2 (I.ok.nofr e) (I.ok.noex b o e),I.base.free b o (I.ok.bs b o e).1 (I.ok.bs b o e).2 (I.ok.noex b o e)⟩
theorem Inv.bk (I:Inv X pins σ H s):∀b o,X.base.get? b=some o->s.heap.get? b=some o:=fun b o e=>(I.bs b o e).1
theorem Inv.mod (I:Inv X pins σ H s):Mod X.K X.mg X.base:=I.ok.mod
theorem Inv.kIn (I:Inv X pins σ H s):X.K.In s.heap:=I.ok.mod.kin.keeps I.bk
theorem Inv.lt (I:Inv X pins σ H s):X.env.locals<s.heap.objs.size:=let ⟨_,hn,_⟩:=I.loc;hn.lt
theorem Inv.sz (I:Inv X pins σ H s):X.s₀.heap.objs.size<=s.heap.objs.size:=KN I.ok.above (Mb I.lt)
theorem Inv.nofs (I:Inv X pins σ H s){a:Addr}(h:s.heap.objs.size<=a):a∉X.fs:=fun hb=>by
 obtain⟨_,o,ho,_⟩:=I.ok.funs.mem hb
 exact absurd (KM (Kp ho) (KN I.sz h)) (Ml _)
theorem Inv.cne (I:Inv X pins σ H s):∀x c,X.env.cells.lookup x=some c->c≠X.env.locals:=fun x c e z=>by
 obtain⟨v,o,ho,hd⟩:=I.cell x c e
 obtain⟨m,⟨o',es,ep,ho',hd',_⟩,_⟩:=I.loc
 rw[z,ho']at ho;cases ho;rw[hd']at hd;cases hd
theorem Inv.funs (I:Inv X pins σ H s):s.heap.FunFrames X.base X.outer:=by
 have all:∀(l:List Env),(∀b∈frs l,b∈X.fs)->X.s₀.heap.FunFrames X.base l->s.heap.FunFrames X.base l:=by
  intro l
  induction l with
  |nil=>intro _ _;trivial
  |cons env r ih=>
   intro hs hl
   obtain⟨hk,⟨L,o,hf,hn,ho,hd⟩,hr⟩:=hl
   have hL:L∈X.fs:=hs L (by unfold frs;rw[LH,hf];exact KY)
   obtain⟨sl,e⟩:=I.base.slot L o ho (I.ok.frf L hL) hL fun z=>I.ok.exfs L z hL
   exact⟨hk,⟨L,_,hf,hn,e,hd⟩,ih (fun b hb=>hs b (by unfold frs;rw[LH,hf];exact KC _ hb)) hr⟩
 exact all X.outer (fun _ hb=>hb) I.ok.funs
theorem Inv.stack (I:Inv X pins σ H s):s.heap.FunFrames X.base X.stack:=by
 rcases I.ok.stk with e|⟨e,hf⟩
 ·rw[e];exact I.funs
 ·rw[e]
  obtain⟨m,hn,_⟩:=I.loc
  refine .cons (by rw[I.ok.kind];decide) hf hn ?_ I.funs
  exact Rk (KN I.ok.bsz I.ok.above)
theorem Inv.stkSub (I:Inv X pins σ H s):∀b∈frs X.stack,b∈X.env.locals::X.fs:=fun b hb=>by
 rcases I.ok.stk with e|⟨e,hf⟩
 ·rw[e]at hb;exact KC _ hb
 ·rw[e]at hb
  unfold frs at hb
  rw[LH,hf]at hb
  exact hb
theorem Inv.stkFree (I:Inv X pins σ H s):∀b∈frs X.stack,H b=none:=fun b hb=>by
 rcases KD.mp (I.stkSub b hb)with e|hb
 ·rw[e];exact I.free
 ·obtain⟨_,o,ho,_⟩:=I.ok.funs.mem hb
  exact I.base.free b o ho (I.ok.frf b hb) fun z=>I.ok.exfs b z hb
theorem Inv.step {g':Array Pz}{t':Nat}{d':Drawn}{ch:List Addr}(I:Inv X pins σ H s)
  (hch:∀b∈ch,(b∈X.ex\/X.s₀.heap.objs.size<=b)/\b≠X.env.locals/\(∀x c,X.env.cells.lookup x=some c->c≠b)/\∀p∈X.pn++pins,p.1≠b)
  (keep:∀b o,b≠X.env.locals->b∉X.fs->b∉ch->s.heap.get? b=some o->H b=none->h'.get? b=some o)
  (slot:∀b o,b≠X.env.locals->b∈X.fs->b∉ch->s.heap.get? b=some o->H b=none->∃sl,h'.get? b=some {o with slots:=sl})(free:∀b o,b∉ch->s.heap.get? b=some o->H b=none->H' b=none)
  (there:∀b o,b∉ch->s.heap.get? b=some o->∃o',h'.get? b=some o')
  (tups:∀b xs,H b=some (.tup xs)->H' b=some (.tup xs))(frzs:∀b o u,H b=some (.frz o u)->H' b=some (.frz o u))(tbls:∀b ps,H b=some (.tbl ps)->∃more,H' b=some (.tbl (ps++more)))
  (ns:∀m,s.heap.Ns X.env.locals m->h'.Ns X.env.locals m)(hok:HOk X.prog X.w H' h')(hg:Oo g'):
  Inv X pins σ H' {s with heap:=h',gens:=g',drawn:=d',toks:=t'}:=by
 have neL:∀b o,X.s₀.heap.get? b=some o->b≠X.env.locals:=fun b o e=>KQ (KM (Kp e) I.ok.above)
 have neC:∀b o,X.s₀.heap.get? b=some o->b∉X.ex->b∉ch:=fun b o e hx hb=>by
  rcases(hch b hb).1 with z|z
  ·exact hx z
  ·exact absurd (KM (Kp e) z) (Ml _)
 have cellK:∀x c,X.env.cells.lookup x=some c->∀v,s.heap.IsCell c v->h'.IsCell c v:=fun x c e v ⟨o,ho,hd⟩=>by
  have nch:c∉ch:=fun z=>(hch c z).2.2.1 x c e rfl
  by_cases hc:c∈X.fs
  ·obtain⟨sl,q⟩:=slot c o (I.cne x c e) hc nch ho (I.freeC x c e)
   exact⟨_,q,hd⟩
  ·exact⟨o,keep c o (I.cne x c e) hc nch ho (I.freeC x c e),hd⟩
 refine⟨I.ok,I.os,hg,⟨fun b o e n hb hx=>?_,fun b o e n hb hx=>?_,fun b o e n hx=>?_,fun b o e hx=>?_,fun b xs e=>tups b xs (I.base.tups b xs e),fun b o xs e=>frzs b o xs (I.base.frzs b o xs e),fun b ps e=>?_⟩,?_,fun x c e=>?_,?_,fun x c e=>?_,fun p hp=>?_,hok,I.len⟩
 ·exact keep b o (neL b o e) hb (neC b o e hx) (I.base.keep b o e n hb hx) (I.base.free b o e n hx)
 ·obtain⟨sl,e1⟩:=I.base.slot b o e n hb hx
  obtain⟨sl',e2⟩:=slot b _ (neL b o e) hb (neC b o e hx) e1 (I.base.free b o e n hx)
  exact⟨sl',e2⟩
 ·obtain⟨o',e1⟩:=I.base.there b o e hx
  exact free b o' (neC b o e hx) e1 (I.base.free b o e n hx)
 ·obtain⟨o',e1⟩:=I.base.there b o e hx
  exact there b o' (neC b o e hx) e1
 ·obtain⟨m1,e1⟩:=I.base.tbls b ps e
  obtain⟨m2,e2⟩:=tbls b _ e1
  exact⟨m1++m2,by rw[e2,RD]⟩
 ·obtain⟨m,hn,hl⟩:=I.loc
  refine⟨m,ns m hn,fun i x v e1 e2 e3=>?_⟩
  obtain⟨u,r,l⟩:=hl i x v e1 e2 e3
  refine⟨u,r,?_⟩
  rcases l with l|⟨k,c,e,z⟩
  ·exact .inl l
  ·exact .inr ⟨k,c,e,cellK x c e _ z⟩
 ·obtain⟨v,z⟩:=I.cell x c e
  exact⟨v,cellK x c e v z⟩
 ·obtain⟨m,⟨o,_,_,ho,_⟩,_⟩:=I.loc
  exact free _ o (fun z=>(hch _ z).2.1 rfl) ho I.free
 ·obtain⟨v,o,ho,hd⟩:=I.cell x c e
  exact free c o (fun z=>(hch c z).2.2.1 x c e rfl) ho (I.freeC x c e)
 ·obtain⟨e,n,ne,nf,d⟩:=I.pin p hp
  have nch:p.1∉ch:=fun z=>(hch p.1 z).2.2.2 p hp rfl
  exact⟨keep p.1 p.2 ne nf nch e n,free p.1 p.2 nch e n,ne,nf,d⟩
theorem Inv.un {t':Nat}(I:Inv X pins σ H s)(u:Un X.fs [] H H' s.heap h')(hok:HOk X.prog X.w H' h'):Inv X pins σ H' {s with heap:=h',toks:=t'}:=by
 obtain⟨m,⟨o,es,ep,ho,r⟩,_⟩:=id I.loc
 obtain⟨sl,hL⟩:=u.any ho I.free (by simp)
 exact I.step (g':=s.gens) (d':=s.drawn) (ch:=[]) (fun _ z=>nomatch z) (fun b o _ hb _ e n=>u.keep b o e n hb (by simp)) (fun b o _ hb _ e n=>u.slot b o e n hb (by simp)) (fun b o _ e n=>u.free b o e n (by simp)) (fun b o _ e=>u.there b o e (by simp)) u.tups u.frzs u.tbls (fun m' hm=>by
  obtain⟨o',es',ep',ho',r'⟩:=hm
  rw[ho]at ho';cases ho'
  exact⟨_,es',ep',hL,r'⟩) hok I.bare
theorem Inv.call {g':Array Pz}{t':Nat}{d':Drawn}{ch:List Addr}(I:Inv X pins σ H s)(u:Un (frs X.stack) ch H H' s.heap h')(hok:HOk X.prog X.w H' h')(hg:Oo g')
  (hch:∀b∈ch,(b∈X.ex\/X.s₀.heap.objs.size<=b)/\b≠X.env.locals/\(∀x c,X.env.cells.lookup x=some c->c≠b)/\∀p∈X.pn++pins,p.1≠b):
  Inv X pins σ H' {s with heap:=h',gens:=g',drawn:=d',toks:=t'}:=by
 obtain⟨m,⟨o,es,ep,ho,r⟩,_⟩:=id I.loc
 obtain⟨sl,hL⟩:=u.any ho I.free fun z=>(hch _ z).2.1 rfl
 exact I.step (ch:=ch) hch (fun b o hL hb hc e n=>u.keep b o e n (fun z=>(KD.mp (I.stkSub b z)).elim hL hb) hc) (fun b o _ _ hc e n=>u.any e n hc) (fun b o hc e n=>u.free b o e n hc) (fun b o hc e=>u.there b o e hc) u.tups u.frzs u.tbls (fun m' hm=>by
  obtain⟨o',es',ep',ho',r'⟩:=hm
  rw[ho]at ho';cases ho'
  exact⟨_,es',ep',hL,r'⟩) hok hg
theorem Inv.turned {t':Nat}{it:Addr}(I:Inv X pins σ H s)(k:∀b o,b≠it->s.heap.get? b=some o->h'.get? b=some o)(hn:H it=none)(hL:it≠X.env.locals)
  (h1:it∈X.ex\/X.s₀.heap.objs.size<=it)(h2:∀x c,X.env.cells.lookup x=some c->c≠it)(h3:∀p∈X.pn++pins,p.1≠it):Inv X pins σ H {s with heap:=h',toks:=t'}:=by
 have nit:∀b u,H b=some u->b≠it:=fun b u e z=>by rw[z,hn]at e;cases e
 refine I.step (g':=s.gens) (d':=s.drawn) (ch:=[it]) (fun b hb=>?_) (fun b o _ _ hc e _=>k b o (fun z=>hc (by simp[z])) e) (fun b o _ _ hc e _=>⟨o.slots,k b o (fun z=>hc (by simp[z])) e⟩) (fun _ _ _ _ n=>n)
  (fun b o hc e=>⟨o,k b o (fun z=>hc (by simp[z])) e⟩) (fun _ _ e=>e) (fun _ _ _ e=>e) (fun b ps e=>⟨#[],by rw[e];simp⟩) (fun m hm=>?_) (fun b u e=>?_) I.bare
 ·have e:b=it:=by simpa using hb
  subst e
  exact⟨h1,hL,h2,h3⟩
 ·obtain⟨o,es,ep,ho,r⟩:=hm
  exact⟨o,es,ep,k _ o (Lj hL) ho,r⟩
 ·refine(I.hok b u e).stay (fun c v hc q=>k c v ?_ q) (fun _ q=>q) fun _ _ q=>q
  rcases hc with z|z
  ·rw[z];exact nit b u e
  ·exact nit c _ z
theorem Inv.tok (I:Inv X pins σ H s)(t:Nat):Inv X pins σ H {s with toks:=t}:=I.un (h':=s.heap) (t':=t) Un.refl I.hok
theorem Inv.kept {t':Nat}(I:Inv X pins σ H s)(k:∀b u,s.heap.get? b=some u->h'.get? b=some u):Inv X pins σ H {s with heap:=h',toks:=t'}:=I.un (Un.kept k) (I.hok.kept k)
theorem Inv.laid {a:Addr}{o:HO}{t':Nat}(I:Inv X pins σ H s)(k:∀b u,s.heap.get? b=some u->h'.get? b=some u)(hp:s.heap.objs.size<=a)(new:bj X.prog X.w (upd H a o) h' a o):
 Inv X pins σ (upd H a o) {s with heap:=h',toks:=t'}:=I.un (Un.laid k hp (I.hok.fresh hp)) (I.hok.laid k hp new)
theorem Inv.write {x e:Addr}{o:HO}{t':Nat}(I:Inv X pins σ H s)(mu:Mut (H x))(he:e=x\/H e=some (.own x))(k:∀b u,b≠e->s.heap.get? b=some u->h'.get? b=some u)(heo:∃u,h'.get? e=some u)
 (new:bj X.prog X.w (upd H x o) h' x o):Inv X pins σ (upd H x o) {s with heap:=h',toks:=t'}:=I.un (Un.write mu he k heo) (I.hok.write mu he k heo new)
theorem Inv.pins_of {pins':List (Addr×Obj)}(I:Inv X pins σ H s)(h:∀p∈pins',s.heap.get? p.1=some p.2/\H p.1=none/\p.1≠X.env.locals/\p.1∉X.fs/\∀v,p.2.data≠.cell v):Inv X pins' σ H s:=
 ⟨I.ok,I.os,I.bare,I.base,I.loc,I.cell,I.free,I.freeC,fun p hp=>(Lw.mp hp).elim (fun z=>I.pin p (Lb _ z)) (h p),I.hok,I.len⟩
theorem qY {N:List Str}(hN:N.Nodup){i j:Nat}{x:Str}(a:N[i]?=some x)(b:N[j]?=some x):i=j:=by
 obtain⟨h1,e1⟩:=Kr.mp a
 obtain⟨h2,e2⟩:=Kr.mp b
 exact(SA hN).mp (e1.trans e2.symm)
theorem ow {M:TK}{A:Lh}{E:tx->Km->Prop}{i:Nat}{x:Str}{v:V}{u:tx}{Q:Unit->Km->Prop}(I:Inv X pins σ H s)(hN:X.N.Nodup)(hi:X.N[i]?=some x)(hx:Loc X.env.scope x)(r:aY v u)
  (h:∀s',Inv X pins (σ.set i (some v)) H s'->(∃a,Mw a s.heap s'.heap/\(a=X.env.locals\/X.env.cells.lookup x=some a))->Q () s')(hf:X.fn x=true\/X.env.scope.names.lookup x=some .local:=by first|exact .inl rfl|exact .inr rfl|assumption):wpAny M A (storeName X.env x u) Q E s:=by
 obtain⟨m,hn,hl⟩:=id I.loc
 have hcls:(X.env.scope.kind==.class||(X.env.scope.kind==.module&&X.env.locals !=X.env.globals))=false:=by rw[I.ok.kind];rfl
 have hiσ:i<σ.length:=by rw[I.len];exact(Kr.mp hi).1
 have cne:=I.cne
 have tracked:∀{a:Addr}{h':Heap},(∃o,s.heap.get? a=some o/\H a=none)->Mw a s.heap h'->HOk X.prog X.w H h':=fun{a h'} ha hs b ob e=>by
  obtain⟨_,_,hfree⟩:=ha
  refine(I.hok b ob e).stay (fun c w' hc q=>(hs.2 c ?_).trans q) (fun _ q=>q) fun _ _ q=>q
  rintro rfl
  rcases hc with rfl|hc
  ·rw[hfree]at e;cases e
  ·rw[hfree]at hc;cases hc
 rcases hx with hk|hk
 ·refine wpAny_storeName_local hk hn (fun h' hn' hs=>?_) hcls
  obtain⟨oL,_,_,hoL,_⟩:=id hn
  refine h _ ⟨I.ok,I.os,I.bare,⟨fun b o e n hb hx=>?_,fun b o e n hb hx=>?_,I.base.free,fun b o e hx=>?_,I.base.tups,I.base.frzs,I.base.tbls⟩,⟨_,hn',fun j y v' e1 e2 e3=>?_⟩,fun y c e=>?_,I.free,I.freeC,fun p hp=>?_,tracked ⟨oL,hoL,I.free⟩ hs,by simpa using I.len⟩ ⟨_,hs,.inl rfl⟩
  ·exact(hs.2 b (KQ (KM (Kp e) I.ok.above))).trans (I.base.keep b o e n hb hx)
  ·obtain⟨sl,e1⟩:=I.base.slot b o e n hb hx
   exact⟨sl,(hs.2 b (KQ (KM (Kp e) I.ok.above))).trans e1⟩
  ·obtain⟨o',e1⟩:=I.base.there b o e hx
   exact⟨o',(hs.2 b (KQ (KM (Kp e) I.ok.above))).trans e1⟩
  ·by_cases hj:j=i
   ·subst hj
    rw[hi]at e1;cases e1
    rw[QP hiσ]at e2
    cases e2
    exact⟨u,r,.inl ⟨hk,by simp⟩⟩
   ·rw[Rr (Lj hj)]at e2
    obtain⟨u',r',q⟩:=hl j y v' e1 e2 e3
    refine⟨u',r',?_⟩
    rcases q with⟨k,e⟩|⟨k,c,e,z⟩
    ·refine .inl ⟨k,?_⟩
     have:y≠x:=fun e=>hj (qY hN e1 (e▸hi))
     simp[this,e]
    ·exact .inr ⟨k,c,e,z.sameBut hs (cne y c e)⟩
  ·obtain⟨w',z⟩:=I.cell y c e
   exact⟨w',z.sameBut hs (cne y c e)⟩
  ·obtain⟨e,n,ne,nf,d⟩:=I.pin p hp
   exact⟨(hs.2 p.1 ne).trans e,n,ne,nf,d⟩
 ·have hfn:X.fn x=true:=by
   rcases hf with z|z
   ·exact z
   ·rw[z]at hk;cases hk
  obtain⟨c,hc⟩:=I.ok.has x (.inl hk)
  obtain⟨w',z⟩:=I.cell x c hc
  refine wpAny_storeName_cell I.ok.kind hk hc z (fun h' hc' hs=>?_)
  obtain⟨oc,hoc,hocd⟩:=id z
  refine h {s with heap:=h'} ⟨I.ok,I.os,I.bare,⟨fun b o e n hb hx=>?_,fun b o e n hb hx=>?_,I.base.free,fun b o e hx=>?_,I.base.tups,I.base.frzs,I.base.tbls⟩,⟨m,hn.sameBut hs (Lj (cne x c hc)),fun j y v' e1 e2 e3=>?_⟩,fun y c' e=>?_,I.free,I.freeC,fun p hp=>?_,tracked ⟨oc,hoc,I.freeC x c hc⟩ hs,by simpa using I.len⟩ ⟨c,hs,.inr hc⟩
  ·exact(hs.2 b (KQ (KM (Kp e) (I.ok.cab x c hfn hc)))).trans (I.base.keep b o e n hb hx)
  ·obtain⟨sl,e1⟩:=I.base.slot b o e n hb hx
   exact⟨sl,(hs.2 b (KQ (KM (Kp e) (I.ok.cab x c hfn hc)))).trans e1⟩
  ·obtain⟨o',e1⟩:=I.base.there b o e hx
   exact⟨o',(hs.2 b (KQ (KM (Kp e) (I.ok.cab x c hfn hc)))).trans e1⟩
  ·by_cases hj:j=i
   ·subst hj
    rw[hi]at e1;cases e1
    rw[QP hiσ]at e2
    cases e2
    exact⟨u,r,.inr ⟨.inl hk,c,hc,hc'⟩⟩
   ·rw[Rr (Lj hj)]at e2
    obtain⟨u',r',q⟩:=hl j y v' e1 e2 e3
    refine⟨u',r',?_⟩
    rcases q with q|⟨k,c',e,z'⟩
    ·exact .inl q
    ·refine .inr ⟨k,c',e,z'.sameBut hs ?_⟩
     rintro rfl
     exact hj (qY hN e1 (I.ok.inj _ _ _ e hc▸hi))
  ·by_cases hcc:c'=c
   ·subst hcc;exact⟨_,hc'⟩
   ·obtain⟨w2,z2⟩:=I.cell y c' e
    exact⟨w2,z2.sameBut hs hcc⟩
  ·obtain⟨e,n,ne,nf,d⟩:=I.pin p hp
   refine⟨(hs.2 p.1 ?_).trans e,n,ne,nf,d⟩
   intro q
   rw[q,hoc]at e
   have q':oc=p.2:=KG e
   exact d w' (by rw[<-q'];exact hocd)
theorem gi {M:TK}{A:Lh}{E:tx->Km->Prop}{i:Nat}{x:Str}{v:V}{u:tx}{Q:Unit->Km->Prop}(I:Inv X pins σ H s)(hN:X.N.Nodup)(hi:X.N[i]?=some x)(hx:Loc X.env.scope x)(r:aY v u)
  (h:∀s',Inv X pins (σ.set i (some v)) H s'->Q () s')(hf:X.fn x=true\/X.env.scope.names.lookup x=some .local:=by first|exact .inl rfl|exact .inr rfl|assumption):wpAny M A (storeName X.env x u) Q E s:=
 ow I hN hi hx r (fun s' I' _=>h s' I') hf
theorem Inv.call' {s':Km}{ch:List Addr}(I:Inv X pins σ H s)(ho:s'.os=s.os)(u:Un (frs X.stack) ch H H' s.heap s'.heap)(hok:HOk X.prog X.w H' s'.heap)(hg:Oo s'.gens)
  (hch:∀b∈ch,(b∈X.ex\/X.s₀.heap.objs.size<=b)/\b≠X.env.locals/\(∀x c,X.env.cells.lookup x=some c->c≠b)/\∀p∈X.pn++pins,p.1≠b):Inv X pins σ H' s':=by
 obtain⟨h',g',d',t',o'⟩:=s'
 have e:o'=s.os:=ho
 subst e
 exact I.call (g':=g') (t':=t') (d':=d') u hok hg hch
end
abbrev XK:=tx->Option Addr->Hp->Prop
abbrev St:=List (Option V)
abbrev VK:=V->Hp->Prop
abbrev TE:=St->Hp->VK->Prop
abbrev TT:=St->Hp->(Bool->Hp->Prop)->Prop
abbrev TA:=St->Hp->(List V->Hp->Prop)->Prop
structure fy where
 nx:St->Hp->Prop
 rt:VK
 bk:St->Hp->Prop:=fun _ _=>False
 ct:St->Hp->Prop:=fun _ _=>False
abbrev TS:=fy->St->Hp->Prop
def EP (X:Cx)(pins:List (Addr×Obj))(σ:St)(Q:VK)(u:tx)(s':Km):Prop:=∃v H',Inv X pins σ H' s'/\aY v u/\Q v H'
def TP (X:Cx)(pins:List (Addr×Obj))(σ:St)(Q:Bool->Hp->Prop)(b:Bool)(s':Km):Prop:=∃H',Inv X pins σ H' s'/\Q b H'
def AP (X:Cx)(pins:List (Addr×Obj))(σ:St)(Q:List V->Hp->Prop)(us:List tx)(s':Km):Prop:=∃vs H',Inv X pins σ H' s'/\bc vs us/\Q vs H'
def SP (X:Cx)(pins:List (Addr×Obj))(D:fy)(f:Flow)(s':Km):Prop:=
 match f with
 |.next=>∃σ' H',Inv X pins σ' H' s'/\D.nx σ' H'
 |.brk=>∃σ' H',Inv X pins σ' H' s'/\D.bk σ' H'
 |.cont=>∃σ' H',Inv X pins σ' H' s'/\D.ct σ' H'
 |.ret u=>∃v σ' H',Inv X pins σ' H' s'/\aY v u/\D.rt v H'
def PE (X:Cx)(e:Expr)(t:TE):Prop:=
 ∀(pins:List (Addr×Obj))(s:Km)(σ:St)(H:Hp)(Q:VK),Inv X pins σ H s->t σ H Q->wpAny (model X.prog X.w) X.A (eval e X.env) (EP X pins σ Q) X.xe s
def PT (X:Cx)(e:Expr)(t:TT):Prop:=
 ∀(pins:List (Addr×Obj))(s:Km)(σ:St)(H:Hp)(Q:Bool->Hp->Prop),Inv X pins σ H s->t σ H Q->wpAny (model X.prog X.w) X.A (isTrue e X.env (eval e X.env)) (TP X pins σ Q) X.xe s
def PW (X:Cx)(e:Expr)(t:TT):Prop:=
 ∀(whole:Sem tx)(pins:List (Addr×Obj))(s:Km)(σ:St)(H:Hp)(Q:Bool->Hp->Prop),Inv X pins σ H s->t σ H Q->wpAny (model X.prog X.w) X.A (isTrue e X.env whole) (TP X pins σ Q) X.xe s
theorem PW.pt {X:Cx}{e:Expr}{t:TT}(h:PW X e t):PT X e t:=h _
def PA (X:Cx)(es:List Expr)(t:TA):Prop:=
 ∀(pos:Pos)(pins:List (Addr×Obj))(s:Km)(σ:St)(H:Hp)(Q:List V->Hp->Prop),Inv X pins σ H s->t σ H Q->wpAny (model X.prog X.w) X.A (spliced (backTo pos (starEach es X.env))) (AP X pins σ Q) X.xe s
def PS (X:Cx)(st:Stmt)(t:TS):Prop:=
 ∀(pins:List (Addr×Obj))(s:Km)(σ:St)(H:Hp)(D:fy),Inv X pins σ H s->t D σ H->wpAny (model X.prog X.w) X.A (exec st X.env) (SP X pins D) X.xe s
def PSs (X:Cx)(st:List Stmt)(t:TS):Prop:=
 ∀(pins:List (Addr×Obj))(s:Km)(σ:St)(H:Hp)(D:fy),Inv X pins σ H s->t D σ H->wpAny (model X.prog X.w) X.A (execs st X.env) (SP X pins D) X.xe s
theorem thn {α:Type}{t:Sem α}{Q Q':α->Km->Prop}{M:TK}{A:Lh}{E:tx->Km->Prop}{s:Km}(h:wpAny M A t Q E s)(hQ:∀a s,Q a s->Q' a s):wpAny M A t Q' E s:=KU h hQ fun _ _ x=>x
section
variable {X:Cx}
def Jq (i:Nat):TE:=fun σ H Q=>∃v,σ[i]?=some (some v)/\Q v H
def tC (v:V):TE:=fun _ H Q=>Q v H
theorem Cm {i:Nat}{x:Str}{pos:Pos}(hN:X.N[i]?=some x)(hv:Vis X.env.scope x)(hd:(x==("__debug__":Str))=false:=by decide)(hcd:(x==("__classdict__":Str))=false:=by decide):PE X (.Name x pos) (Jq i):=by
 intro pins s σ H Q I h
 obtain⟨v,e,h⟩:=h
 obtain⟨m,hn,hl⟩:=I.loc
 obtain⟨u,r,l⟩:=hl i x v hN e hv
 have fin:EP X pins σ Q u s:=⟨v,H,I,r,h⟩
 rcases l with⟨hk,hm⟩|⟨hk,c,hc,hcell⟩
 ·exact Tw (wpAny_loadName_local I.ok.kind hk hn hm fin) hd
 ·rcases hk with hk|hk
  ·exact Tw (wpAny_loadName_cell I.ok.kind hk hc hcell fin) hd
  ·exact Tw (wpAny_loadName_free I.ok.kind hk hc hcell fin hcd) hd
theorem EK {i j pos}:PE X (.Constant (.int i) j pos) (tC (.int i)):=fun _ _ _ H _ I h=>wpAny_Constant_int ⟨.int i,H,I.tok _,⟨_,rfl⟩,h⟩
theorem FC {b j pos}:PE X (.Constant (.bool b) j pos) (tC (.bl b)):=fun _ _ _ H _ I h=>Constant_bool ⟨.bl b,H,I,rfl,h⟩
theorem CD {j pos}:PE X (.Constant .none j pos) (tC .non):=fun _ _ _ H _ I h=>Constant_none ⟨.non,H,I,rfl,h⟩
theorem Ef {x j pos}:PE X (.Constant (.str x) j pos) (tC (.str x)):=fun _ _ _ H _ I h=>Calls.Constant_str ⟨.str x,H,I.tok _,⟨_,rfl⟩,h⟩
def Gl (X:Cx)(x:Str):Prop:=X.env.kindOf x=some .globalImplicit
theorem iq {E:tx->Km->Prop}{pins:List (Addr×Obj)}{s:Km}{σ:St}{H:Hp}{x:Str}{u:tx}{pos:Pos}{Q:tx->Km->Prop}(I:Inv X pins σ H s)(hg:Gl X x)(hm:X.mg x=some u)(h:Q u s)
  (hd:(x==("__debug__":Str))=false:=by decide):wpAny (model X.prog X.w) X.A (eval (.Name x pos) X.env) Q E s:=
 NI I.ok.kind hg (Qr (by rw[I.ok.glob];exact I.mod.glob.keeps I.bk) hm h) hd
theorem eI {E:tx->Km->Prop}{pins:List (Addr×Obj)}{s:Km}{σ:St}{H:Hp}{x:Str}{u:tx}{pos:Pos}{Q:tx->Km->Prop}(I:Inv X pins σ H s)(hg:Gl X x)(hm:X.mg x=none)(hv:bootBuiltins x=some u)(h:Q u s)
  (hn:x≠"__name__":=by decide)(hd:(x==("__debug__":Str))=false:=by decide):wpAny (model X.prog X.w) X.A (eval (.Name x pos) X.env) Q E s:=by
 obtain⟨mb,h1,h2⟩:=I.mod.blt
 exact NI I.ok.kind hg (Calls.loadGlobal_builtin (by rw[I.ok.glob];exact I.mod.glob.keeps I.bk) hm (by rw[I.ok.blt];exact h1.keeps I.bk) ((h2 x hn).trans hv) h) hd
theorem Bp {x:Str}{v:V}{u:tx}{pos:Pos}(hg:Gl X x)(hm:X.mg x=some u)(r:aY v u)(hd:(x==("__debug__":Str))=false:=by decide):PE X (.Name x pos) (tC v):=
 fun _ _ _ H _ I h=>iq I hg hm ⟨v,H,I,r,h⟩ hd
theorem Bi {x:Str}{v:V}{u:tx}{pos:Pos}(hg:Gl X x)(hm:X.mg x=none)(hv:bootBuiltins x=some u)(r:aY v u)(hn:x≠"__name__":=by decide)(hd:(x==("__debug__":Str))=false:=by decide):PE X (.Name x pos) (tC v):=
 fun _ _ _ H _ I h=>eI I hg hm hv ⟨v,H,I,r,h⟩ hn hd
variable {a b:Expr}{ta tb:TE}{pos:Pos}
variable {tA tB':TT}{bQ:List Expr}
def fb (t:TT):TT:=fun σ H Q=>t σ H fun c H1=>Q (!c) H1
theorem AL (ha:PT X a tA):PW X (.BoolOp .And [a] pos) tA:=by
 intro wh pins s σ H Q I h
 refine isTrue_and (thn (ha pins s σ H Q I h) fun c s1 e=>?_)
 cases c with
 |true=>exact isTrue_and_nil e
 |false=>exact e
theorem Ej (ha:PT X a tA):PW X (.BoolOp .Or [a] pos) tA:=by
 intro wh pins s σ H Q I h
 refine isTrue_or (thn (ha pins s σ H Q I h) fun c s1 e=>?_)
 cases c with
 |false=>exact isTrue_or_nil e
 |true=>exact e
theorem Cb (ha:PT X a tA):PT X (.UnaryOp .Not a pos) (fb tA):=by
 intro pins s σ H Q I h
 exact isTrue_not (ha pins s σ H (fun c H1=>Q (!c) H1) I h)
theorem Ex {op}{t:TE}(h:PE X a t):PE X (.BoolOp op [a] pos) t:=fun pins s σ H Q I hw=>BoolOp_one (h pins s σ H Q I hw)
end
def SqL (K:pv)(H:Hp)(a:Addr)(xs:List V):Prop:=
 Rd H a (.lst xs)\/
  ∃(o:Obj)(its:Array tx)(n:Nat),K.lookup a=some o/\o.cls=.type "list"/\o.dict=none/\o.data=.seq its n/\its.size<=sizeLine/\bc xs its.toList
def SqT (K:pv)(H:Hp)(a:Addr)(xs:List V):Prop:=
 Rd H a (.tup xs)\/
  ∃(o:Obj)(its:Array tx)(n:Nat),K.lookup a=some o/\o.cls=.type "tuple"/\o.data=.seq its n/\its.size<=sizeLine/\bc xs its.toList
def JK:tx->Option V
 |.none=>some .non
 |.bool b=>some (.bl b)
 |.int i _=>some (.int i)
 |.str x _=>some (.str x)
 |.bytes b _=>some (.byt b)
 |.float b _=>some (.flt b)
 |.ref a=>some (.ref a)
 |.type n=>some (.ty n)
 |_=>none
theorem aY.abs {x:V}{u:tx}(r:aY x u):JK u=some x:=by
 cases x with
 |non=>cases r;rfl
 |bl _=>cases r;rfl
 |int _=>obtain⟨t,rfl⟩:=r;rfl
 |str _=>obtain⟨t,rfl⟩:=r;rfl
 |byt _=>obtain⟨t,rfl⟩:=r;rfl
 |flt _=>obtain⟨t,rfl⟩:=r;rfl
 |ref _=>cases r;rfl
 |ty _=>cases r;rfl
theorem aY.inj {x y:V}{u:tx}(r:aY x u)(q:aY y u):x=y:=KG (r.abs.symm.trans q.abs)
theorem bc.inj:∀{xs ys:List V}{us:List tx},bc xs us->bc ys us->xs=ys
 |_,_,_,.nil,.nil=>rfl
 |_,_,_,.cons r t,.cons r' t'=>by rw[r.inj r',bc.inj t t']
section
variable {X:Cx}{pins:List (Addr×Obj)}{σ:St}{H:Hp}{s:Km}{a:Addr}{xs ys:List V}
theorem SqL.of {K:pv}(h:H a=some (.lst xs)):SqL K H a xs:=.inl (.inl h)
theorem SqT.of {K:pv}(h:H a=some (.tup xs)):SqT K H a xs:=.inl (.inl h)
theorem Inv.list (I:Inv X pins σ H s)(h:SqL X.K H a xs):∃its:List tx,bc xs its/\PlainL s.heap a its.toArray/\xs.length<=sizeLine:=by
 rcases h with h|⟨o,its,n,hk,hc,hd,hs,hz,r⟩
 ·obtain⟨z,its,n,r,e⟩:=h.ok I.hok
  exact⟨its,r,⟨_,n,e,rfl,rfl,rfl⟩,z⟩
 ·refine⟨its.toList,r,⟨o,n,I.kIn a o hk,hc,hd,by simpa using hs⟩,?_⟩
  have e:=r.length
  simp only[MH]at e
  omega
theorem Inv.tuple (I:Inv X pins σ H s)(h:SqT X.K H a xs):∃its:List tx,bc xs its/\QL s.heap a its.toArray/\xs.length<=sizeLine:=by
 rcases h with h|⟨o,its,n,hk,hc,hs,hz,r⟩
 ·obtain⟨z,its,r,p⟩:=h.ok I.hok
  exact⟨its,r,p,z⟩
 ·refine⟨its.toList,r,⟨o,I.kIn a o hk,hc,n,by simpa using hs⟩,?_⟩
  have e:=r.length
  simp only[MH]at e
  omega
theorem Inv.list_inj (I:Inv X pins σ H s)(h:SqL X.K H a xs)(h':SqL X.K H a ys):xs=ys:=by
 obtain⟨its,r,⟨o,n,e,_,_,d⟩,_⟩:=I.list h
 obtain⟨its',r',⟨o',n',e',_,_,d'⟩,_⟩:=I.list h'
 rw[e]at e';cases e'
 rw[d]at d'
 injection d' with d1 _
 have:its=its':=by simpa using congrArg Tr d1
 subst this
 exact r.inj r'
theorem Inv.tuple_inj (I:Inv X pins σ H s)(h:SqT X.K H a xs)(h':SqT X.K H a ys):xs=ys:=by
 obtain⟨its,r,⟨o,e,_,n,d⟩,_⟩:=I.tuple h
 obtain⟨its',r',⟨o',e',_,n',d'⟩,_⟩:=I.tuple h'
 rw[e]at e';cases e'
 rw[d]at d'
 injection d' with d1 _
 have:its=its':=by simpa using congrArg Tr d1
 subst this
 exact r.inj r'
end
abbrev Cx.wish (X:Cx)(E:tx->Km->Prop):Cx:={X with xe:=E}
abbrev Cx.nox (X:Cx):Cx:=X.wish fun _ _=>False
theorem Cx.Ok.wish {X:Cx}(ok:X.Ok)(E:tx->Km->Prop):(X.wish E).Ok:=
 ⟨ok.mod,ok.kind,ok.glob,ok.blt,ok.above,ok.inj,ok.has,ok.cab,ok.hd,ok.frames,ok.stk,ok.exf,ok.bs,ok.bsz,ok.noex,ok.exfs,ok.funs,ok.frf⟩
theorem Cx.Ok.unwish {X:Cx}{E:tx->Km->Prop}(ok:(X.wish E).Ok):X.Ok:=
 ⟨ok.mod,ok.kind,ok.glob,ok.blt,ok.above,ok.inj,ok.has,ok.cab,ok.hd,ok.frames,ok.stk,ok.exf,ok.bs,ok.bsz,ok.noex,ok.exfs,ok.funs,ok.frf⟩
section
variable {X:Cx}{pins:List (Addr×Obj)}{σ:St}{H:Hp}{s:Km}{E:tx->Km->Prop}
theorem Inv.wish (I:Inv X pins σ H s)(E:tx->Km->Prop):Inv (X.wish E) pins σ H s:=⟨I.ok.wish E,I.os,I.bare,I.base,I.loc,I.cell,I.free,I.freeC,I.pin,I.hok,I.len⟩
theorem Inv.unwish (I:Inv (X.wish E) pins σ H s):Inv X pins σ H s:=⟨I.ok.unwish,I.os,I.bare,I.base,I.loc,I.cell,I.free,I.freeC,I.pin,I.hok,I.len⟩
theorem SP.unwish {D:fy}{f:Flow}{s':Km}(h:SP (X.wish E) pins D f s'):SP X pins D f s':=by
 cases f with
 |next=>obtain⟨σ',H',I,q⟩:=h;exact⟨σ',H',I.unwish,q⟩
 |brk=>obtain⟨σ',H',I,q⟩:=h;exact⟨σ',H',I.unwish,q⟩
 |cont=>obtain⟨σ',H',I,q⟩:=h;exact⟨σ',H',I.unwish,q⟩
 |ret u=>obtain⟨v,σ',H',I,r,q⟩:=h;exact⟨v,σ',H',I.unwish,r,q⟩
theorem PE.nox {e:Expr}{t:TE}(h:PE X.nox e t):PE X e t:=fun pins s σ H Q I hw=>
 KU (h pins s σ H Q (I.wish _) hw) (fun _ _ ⟨v,H',I',r,q⟩=>⟨v,H',I'.unwish,r,q⟩) fun _ _ z=>Ll z
theorem PSs.nox {st:List Stmt}{t:TS}(h:PSs X.nox st t):PSs X st t:=fun pins s σ H D I hw=>
 KU (h pins s σ H D (I.wish _) hw) (fun _ _ q=>q.unwish) fun _ _ z=>Ll z
end
section
variable {X:Cx}{st:Stmt}{bQ:List Stmt}{t u:TS}{e:Expr}{te:TE}{pos:Pos}
def be:TS:=fun D σ H=>D.nx σ H
def aF (t u:TS):TS:=fun D σ H=>t {D with nx:=u D} σ H
theorem Ay:PSs X [] be:=fun _ _ σ H _ I h=>NS ⟨σ,H,I,h⟩
theorem zp (h1:PS X st t)(h2:PSs X bQ u):PSs X (st::bQ) (aF t u):=by
 intro pins s σ H D I h
 refine Ou (thn (h1 pins s σ H {D with nx:=u D} I h) fun f s1 q=>?_)
 cases f with
 |next=>
  obtain⟨σ',H',I',q⟩:=q
  exact h2 pins s1 σ' H' D I' q
 |ret v=>exact q
 |brk=>exact q
 |cont=>exact q
theorem AK (h1:PS X st t):PSs X [st] t:=by
 intro pins s σ H D I h
 refine Ou (thn (h1 pins s σ H D I h) fun f s1 q=>?_)
 cases f with
 |next=>exact NS q
 |ret v=>exact q
 |brk=>exact q
 |cont=>exact q
theorem Inv.quiet {pins:List (Addr×Obj)}{σ:St}{H:Hp}{s:Km}(I:Inv X pins σ H s):interactive X.env=false:=by simp[interactive,I.ok.kind]
def bR (te:TE):TS:=fun D σ H=>te σ H fun _ H1=>D.nx σ H1
theorem Bm (he:PE X e te)(hs:swapsWith e none pos.line X.env=pure false:=by rfl):PS X (.Expr e pos) (bR te):=by
 intro pins s σ H D I h
 exact wpAny_Expr_any (thn (he pins s σ H _ I h) fun v s1 ⟨x,H1,I1,r1,q1⟩=>⟨σ,H1,I1,q1⟩) I.quiet hs
def aS (te:TE):TS:=fun D σ H=>te σ H D.rt
theorem EX (he:PE X e te):PS X (.Return (some e) pos) (aS te):=by
 intro pins s σ H D I h
 exact Tv (thn (he pins s σ H _ I h) fun v s1 ⟨x,H1,I1,r1,q1⟩=>⟨x,σ,H1,I1,r1,q1⟩)
def eZ:TS:=fun _ _ _=>False
theorem yV:PS X st eZ:=fun _ _ _ _ _ _ h=>h.elim
end
abbrev TG:=V->St->Hp->(St->Hp->Prop)->Prop
def PG (X:Cx)(target:Expr)(t:TG):Prop:=
 ∀(pins:List (Addr×Obj))(s:Km)(σ:St)(H:Hp)(v:V)(u:tx)(Q:St->Hp->Prop),Inv X pins σ H s->aY v u->t v σ H Q->
  wpAny (model X.prog X.w) X.A (assign target X.env u) (fun _ s'=>∃σ' H',Inv X pins σ' H' s'/\Q σ' H') X.xe s
abbrev yL:=V->V->V->Hp->(Hp->Prop)->Prop
def uL (X:Cx)(t:yL):Prop:=
 ∀(pins:List (Addr×Obj))(s:Km)(σ:St)(H:Hp)(o i v:V)(ov iv u:tx)(Q:Hp->Prop),Inv X pins σ H s->aY o ov->aY i iv->aY v u->t o i v H Q->
  wpAny (model X.prog X.w) X.A (setItem ov iv u) (fun _ s'=>∃H',Inv X pins σ H' s'/\Q H') X.xe s
section
variable {X:Cx}{pos:Pos}
def aE (i:Nat):TG:=fun v σ H Q=>Q (σ.set i (some v)) H
theorem AV {i:Nat}{x:Str}(hN:X.N.Nodup)(hi:X.N[i]?=some x)(hx:Loc X.env.scope x)(hf:X.fn x=true\/X.env.scope.names.lookup x=some .local:=by first|exact .inl rfl|exact .inr rfl|assumption):PG X (.Name x pos) (aE i):=by
 intro pins s σ H v u Q I r h
 exact PU (gi I hN hi hx r (fun s' I'=>⟨_,H,I',h⟩) hf)
def tY (to ti:TE)(t:yL):TG:=fun v σ H Q=>to σ H fun o H1=>ti σ H1 fun i H2=>t o i v H2 fun H3=>Q σ H3
theorem CI {o i:Expr}{to ti:TE}{t:yL}(ho:PE X o to)(hi:PE X i ti)(hs:uL X t)
  (ha:∀v,assign (.Subscript o i pos) X.env v=(do
   let ov<-holding [v] (eval o X.env)
   let iv<-holding [v,ov] (eval i X.env)
   standAt pos
   holding [v,ov,iv] (setItem ov iv v)
   release [v,ov,iv] []):=by intro _;rfl):PG X (.Subscript o i pos) (tY to ti t):=by
 intro pins s σ H v u Q I r h
 rw[ha]
 refine cW (Md (thn (ho pins s σ H _ I h) fun ov s1 ⟨x,H1,I1,r1,q1⟩=>?_))
 refine cW (Md (thn (hi pins s1 σ H1 _ I1 q1) fun iv s2 ⟨y,H2,I2,r2,q2⟩=>?_))
 refine cW (NK (cW (Md (thn (hs pins s2 σ H2 x y v ov iv u _ I2 r1 r2 r q2) fun _ s3 ⟨H3,I3,q3⟩=>?_))))
 exact wpAny_release ⟨σ,H3,I3,q3⟩
def aK (te:TE)(g:TG):TS:=fun D σ H=>te σ H fun x H1=>g x σ H1 D.nx
theorem Ew {tg e:Expr}{te:TE}{g:TG}(he:PE X e te)(hg:PG X tg g)(hs:swapsWithSole [tg] e pos.line X.env=pure false:=by rfl)(hw:swappedStores [tg] e X.env=pure none:=by rfl)
  (h1:(assignEach [tg] X.env).map (·.2)=[assign tg X.env]:=by rfl):PS X (.Assign [tg] e pos) (aK te g):=by
 intro pins s σ H D I h
 refine wpAny_Assign_stores (thn (he pins s σ H _ I h) fun v s1 ⟨x,H1,I1,r1,q1⟩=>?_) hs hw
 rw[h1]
 exact thn (hg pins s1 σ H1 x v _ I1 r1 q1) fun _ s2 q=>q
theorem Dz {i:Nat}{x:Str}{e:Expr}{te:TE}{pos':Pos}(hN:X.N.Nodup)(hi:X.N[i]?=some x)(hx:Loc X.env.scope x)(he:PE X e te)(hs:swapsWith e (some (.Name x pos')) pos.line X.env=pure false:=by rfl)(hf:X.fn x=true\/X.env.scope.names.lookup x=some .local:=by first|exact .inl rfl|exact .inr rfl|assumption):
  PS X (.Assign [.Name x pos'] e pos) (aK te (aE i)):=by
 intro pins s σ H D I h
 refine wpAny_Assign_Name (thn (he pins s σ H _ I h) fun v s1 ⟨y,H1,I1,r1,q1⟩=>?_) hs
 exact gi I1 hN hi hx r1 (fun s2 I2=>⟨_,H1,I2,q1⟩) hf
end
section
variable {X:Cx}{pos:Pos}
def fF (c:TT)(tb:TS):TS:=fun D σ H=>∃W:Nat->St->Hp->Prop,(∃m,W m σ H)/\∀m σ H,W m σ H->
 c σ H fun b H1=>if b=true then ∃N:St->Hp->Prop,(∀σ' H',N σ' H'->∃m',m'<m/\W m' σ' H')/\tb {D with nx:=N,ct:=N,bk:=D.nx} σ H1 else D.nx σ H1
theorem yA {c:Expr}{body:List Stmt}{tc:TT}{tb:TS}(hp:Sm (model X.prog X.w) X.A X.env X.xe)(hc:PT X c tc)(hb:PSs X body tb):PS X (.While c body [] pos) (fF tc tb):=by
 intro pins s σ H D I h
 obtain⟨W,⟨m0,w0⟩,turn⟩:=h
 refine wpAny_While (codeAny_whileLoop (fun n s'=>∃σ' H',Inv X pins σ' H' s'/\W n σ' H') ?_ m0 ⟨σ,H,I,w0⟩)
 rintro n s1 ⟨σ1,H1,I1,w1⟩
 refine Nc hp (thn (hc pins s1 σ1 H1 _ I1 (turn n σ1 H1 w1)) fun b s2 ⟨H2,I2,q2⟩=>?_)
 cases b with
 |true=>
  obtain⟨N,hN,q2⟩:=q2
  rw[if_pos rfl]
  refine Nc hp (thn (hb pins s2 σ1 H2 _ I2 q2) fun f s3 q3=>?_)
  cases f with
  |next=>
   obtain⟨σ3,H3,I3,n3⟩:=q3
   obtain⟨m',hm,w3⟩:=hN σ3 H3 n3
   exact⟨m',hm,σ3,H3,I3,w3⟩
  |cont=>
   obtain⟨σ3,H3,I3,n3⟩:=q3
   obtain⟨m',hm,w3⟩:=hN σ3 H3 n3
   exact⟨m',hm,σ3,H3,I3,w3⟩
  |brk=>exact q3
  |ret v=>exact q3
 |false=>
  rw[if_neg KF]
  exact NS ⟨σ1,H2,I2,q2⟩
end
structure It where
 go:Nat->Hp->Prop
 yld:Nat->Hp->V->Hp->Prop
 stop:Nat->Hp->Prop
def jx (X:Cx)(pins:List (Addr×Obj))(H:Hp)(b:Addr):Prop:=
 H b=none/\b≠X.env.locals/\b∉X.fs/\(b∈X.ex\/X.s₀.heap.objs.size<=b)/\(∀x c,X.env.cells.lookup x=some c->c≠b)/\∀p∈X.pn++pins,p.1≠b
theorem Inv.fpOk {X:Cx}{pins:List (Addr×Obj)}{σ:St}{H H':Hp}{s:Km}{b:Addr}(I:Inv X pins σ H s)(hb:s.heap.objs.size<=b)(hn:H' b=none):jx X pins H' b:=by
 refine⟨hn,Mm (KM I.lt hb),I.nofs hb,.inr (KN I.sz hb),fun x c e z=>?_,fun p hp z=>?_⟩
 ·obtain⟨v,q⟩:=I.cell x c e
  exact absurd (KM q.lt (by rw[z];exact hb)) (Ml _)
 ·exact absurd (KM (Kp (I.pin p hp).1) (by rw[z];exact hb)) (Ml _)
structure ju (P:KI)(w:Lp)(K:pv)(tg:Expr)(J:It)(fp:List Addr)(it:Addr)(tn:Nat->Heap->Prop):Prop where
 mem:it∈fp
 obj:∀i h,tn i h->∀b∈fp,∃o,h.get? b=some o/\∀v,o.data≠.cell v
 keep:∀i h h',tn i h->(∀b∈fp,∀o,h.get? b=some o->h'.get? b=some o)->tn i h'
 item:∀(X:Cx),X.prog=P->X.w=w->X.K=K->X.calm=true->∀(i:Nat)(pins:List (Addr×Obj))(s:Km)(σ:St)(H:Hp)(E:tx->Km->Prop),Inv X pins σ H s->(∀b∈fp,jx X pins H b)->tn i s.heap->J.go i H->
  wpAny (model P w) X.A (pyNext (.ref it)) (fun r s1=>∃u,r=some u/\
   wpAny (model P w) X.A (letOwnedTupleGo tg (.ref it) u) (fun _ s2=>∃x H',Inv X pins σ H' s2/\aY x u/\J.yld i H x H'/\tn (i+1) s2.heap/\∀b∈fp,H' b=none) E s1) E s
 done:∀(X:Cx),X.prog=P->X.w=w->X.K=K->X.calm=true->∀(i:Nat)(pins:List (Addr×Obj))(s:Km)(σ:St)(H:Hp)(E:tx->Km->Prop),Inv X pins σ H s->(∀b∈fp,jx X pins H b)->tn i s.heap->J.stop i H->
  wpAny (model P w) X.A (pyNext (.ref it)) (fun r s1=>r=none/\Inv X pins σ H s1) E s
 self:∀(A:Lh)(i:Nat)(s:Km)(Q:tx->Km->Prop)(E:tx->Km->Prop),tn i s.heap->Q (.ref it) s->wpAny (model P w) A (pyIter (.ref it)) Q E s
abbrev TI:=St->Hp->(It->Hp->Prop)->Prop
def PIE (X:Cx)(pins:List (Addr×Obj))(σ:St)(tg:Expr)(R:It->Hp->Prop)(itv:tx)(s2:Km):Prop:=
 ∃(it:Addr)(fp:List Addr)(tn:Nat->Heap->Prop)(J:It)(H':Hp),itv=.ref it/\Inv X pins σ H' s2/\ju X.prog X.w X.K tg J fp it tn/\tn 0 s2.heap/\(∀b∈fp,jx X pins H' b)/\R J H'
def PI (X:Cx)(tg iter:Expr)(wi:TI):Prop:=
 ∀(pins:List (Addr×Obj))(s:Km)(σ:St)(H:Hp)(R:It->Hp->Prop),Inv X pins σ H s->wi σ H R->
  wpAny (model X.prog X.w) X.A (eval iter X.env) (fun v s1=>wpAny (model X.prog X.w) X.A (pyIter v) (PIE X pins σ tg R) X.xe s1) X.xe s
theorem jR {M:TK}{A:Lh}{E:tx->Km->Prop}{s:Km}{tg:Expr}{it:Addr}{u:tx}{o:Obj}{n:String}{vs:Array tx}{Q:Unit->Km->Prop}(ho:s.heap.get? it=some o)(hc:o.cls=.type n)(hd:o.data=.fields vs)
  (hn:["enumerate","zip","dict_itemiterator","dict_reverseitemiterator","odict_iterator","itertools.zip_longest","itertools.pairwise"].contains n=false)(hQ:Q () s):wpAny M A (letOwnedTupleGo tg (.ref it) u) Q E s:=by
 unfold letOwnedTupleGo
 cases tg<;>first
  |exact Ko hQ
  |(cases u<;>first
   |exact Ko hQ
   |(refine cW (wpAny_load ho ?_)
     rw[hc,hd]
     show wpAny M A (if (["enumerate","zip","dict_itemiterator","dict_reverseitemiterator","odict_iterator","itertools.zip_longest","itertools.pairwise"].contains n&&vs[0]? ==some (rawInt _))=true then _ else _) Q E s
     rw[if_neg (by intro h;rw[hn,Bool.false_and]at h;cases h)]
     exact Ko hQ))
def Itl (K:pv)(a:Addr):It:=
 ⟨fun i H=>∃xs x,SqL K H a xs/\xs[i]?=some x,fun i H x H'=>H'=H/\∀xs,SqL K H a xs->xs[i]?=some x,fun i H=>∃xs,SqL K H a xs/\xs.length<=i⟩
def Itt (K:pv)(a:Addr):It:=
 ⟨fun i H=>∃xs x,SqT K H a xs/\xs[i]?=some x,fun i H x H'=>H'=H/\∀xs,SqT K H a xs->xs[i]?=some x,fun i H=>∃xs,SqT K H a xs/\xs.length<=i⟩
def Itr (lo:Int)(n:Nat):It:=⟨fun i _=>i<n,fun i H x H'=>H'=H/\x=.int (lo+i),fun i _=>n<=i⟩
theorem vf {P:KI}{w:Lp}{K:pv}{tg:Expr}(a it:Addr):ju P w K tg (Itl K a) [it] it (fun i h=>h.IsListIter it a i)where
 mem:=by simp
 obj:=fun i h st b hb=>by
  have e:b=it:=by simpa using hb
  subst e
  obtain⟨o,e,c,d⟩:=st
  exact⟨o,e,fun v z=>by rw[d]at z;cases z⟩
 keep:=fun i h h' st k=>st.at fun o e=>k it (by simp) o e
 item:=by
  intro X hP hw hK hc i pins s σ H E I hf st hg
  subst hP hw hK
  obtain⟨xs,x,hq,hx⟩:=hg
  obtain⟨its,rv,p,hz⟩:=I.list hq
  obtain⟨u,hu,ru⟩:=rv.get hx
  obtain⟨f0,f1,f2,f3,f4,f5⟩:=hf it (by simp)
  refine wpAny_pyNext_list_item st p.isList (x:=u) (by simpa using hu) fun h' st' sb=>?_
  have I1:Inv X pins σ H {s with heap:=h'}:=I.turned (t':=s.toks) (fun b o hb e=>(sb.2 b hb).trans e) f0 f1 f3 f4 f5
  obtain⟨o,e,c,d⟩:=id st'
  exact⟨u,rfl,jR (s:={s with heap:=h'}) e c d (by decide) ⟨x,H,I1,ru,⟨rfl,fun ys hy=>by rw[I.list_inj hy hq];exact hx⟩,st',fun b hb=>(hf b hb).1⟩⟩
 done:=by
  intro X hP hw hK hc i pins s σ H E I hf st hg
  subst hP hw hK
  obtain⟨xs,hq,hx⟩:=hg
  obtain⟨its,rv,p,hz⟩:=I.list hq
  obtain⟨f0,f1,f2,f3,f4,f5⟩:=hf it (by simp)
  have hl:=rv.length
  exact wpAny_pyNext_list_end (I.ok.hd hc) st p.isList (by simp;omega) fun h' eb=>⟨rfl,I.turned (t':=s.toks) (fun b o hb e=>eb b o hb e) f0 f1 f3 f4 f5⟩
 self:=fun _ _ _ _ _ st h=>wpAny_pyIter_listiter st h
theorem tI {P:KI}{w:Lp}{K:pv}{tg:Expr}(a it:Addr):ju P w K tg (Itt K a) [it] it (fun i h=>h.IsTupleIter it a i)where
 mem:=by simp
 obj:=fun i h st b hb=>by
  have e:b=it:=by simpa using hb
  subst e
  obtain⟨o,e,c,d⟩:=st
  exact⟨o,e,fun v z=>by rw[d]at z;cases z⟩
 keep:=fun i h h' st k=>st.at fun o e=>k it (by simp) o e
 item:=by
  intro X hP hw hK hc i pins s σ H E I hf st hg
  subst hP hw hK
  obtain⟨xs,x,hq,hx⟩:=hg
  obtain⟨its,rv,p,hz⟩:=I.tuple hq
  obtain⟨u,hu,ru⟩:=rv.get hx
  obtain⟨f0,f1,f2,f3,f4,f5⟩:=hf it (by simp)
  refine wpAny_pyNext_tuple_item st (show s.heap.IsTuple a its.toArray from p) (x:=u) (by simpa using hu) fun h' st' sb=>?_
  have I1:Inv X pins σ H {s with heap:=h'}:=I.turned (t':=s.toks) (fun b o hb e=>(sb.2 b hb).trans e) f0 f1 f3 f4 f5
  obtain⟨o,e,c,d⟩:=id st'
  exact⟨u,rfl,jR (s:={s with heap:=h'}) e c d (by decide) ⟨x,H,I1,ru,⟨rfl,fun ys hy=>by rw[I.tuple_inj hy hq];exact hx⟩,st',fun b hb=>(hf b hb).1⟩⟩
 done:=by
  intro X hP hw hK hc i pins s σ H E I hf st hg
  subst hP hw hK
  obtain⟨xs,hq,hx⟩:=hg
  obtain⟨its,rv,p,hz⟩:=I.tuple hq
  obtain⟨f0,f1,f2,f3,f4,f5⟩:=hf it (by simp)
  have hl:=rv.length
  exact wpAny_pyNext_tuple_end (I.ok.hd hc) st (show s.heap.IsTuple a its.toArray from p) (by simp;omega) fun h' eb=>⟨rfl,I.turned (t':=s.toks) (fun b o hb e=>eb b o hb e) f0 f1 f3 f4 f5⟩
 self:=fun _ _ _ _ _ st h=>wpAny_pyIter_tupleiter st h
theorem uC {P:KI}{w:Lp}{K:pv}{tg:Expr}(it:Addr)(lo:Int)(n:Nat):ju P w K tg (Itr lo n) [it] it (fun i h=>IsRangeIter h it (lo+(i:Nat)*1) ((n:Int)- (i:Nat)) 1)where
 mem:=by simp
 obj:=fun i h st b hb=>by
  have e:b=it:=by simpa using hb
  subst e
  exact⟨_,st,fun v z=>by
   have z':Ry _=Data.cell v:=z
   cases z'⟩
 keep:=fun i h h' st k=>k it (by simp) _ st
 item:=by
  intro X hP hw hK hc i pins s σ H E I hf st hg
  subst hP hw hK
  obtain⟨f0,f1,f2,f3,f4,f5⟩:=hf it (by simp)
  have W:=Walks.range (prog:=X.prog) (w:=X.w) (I.ok.hd hc) it lo 1 n
  refine W.item i s _ _ hg st fun v h' tk hv st' kk=>?_
  obtain⟨t,rfl⟩:=hv
  have I1:Inv X pins σ H {s with heap:=h',toks:=tk}:=I.turned (fun b o hb e=>kk b o (by simpa using hb) e) f0 f1 f3 f4 f5
  refine⟨_,rfl,jR (s:={s with heap:=h',toks:=tk}) (n:="range_iterator") st' rfl rfl (by decide) ⟨.int (lo+i),H,I1,⟨t,?_⟩,⟨rfl,rfl⟩,st',fun b hb=>(hf b hb).1⟩⟩
  rw[Int.mul_one]
 done:=by
  intro X hP hw hK hc i pins s σ H E I hf st hg
  subst hP hw hK
  obtain⟨f0,f1,f2,f3,f4,f5⟩:=hf it (by simp)
  exact wpAny_pyNext_range_end (I.ok.hd hc) st (by have:n<=i:=hg;omega) fun h' eb=>⟨rfl,I.turned (t':=s.toks) (fun b o hb e=>eb b o hb e) f0 f1 f3 f4 f5⟩
 self:=fun _ _ _ _ _ st h=>wpAny_pyIter_rangeiter st h
section
variable {X:Cx}{tg:Expr}
theorem qJ {pins:List (Addr×Obj)}{σ:St}{H:Hp}{s:Km}{R:It->Hp->Prop}{E:tx->Km->Prop}{lo hi:Int}{t u v:Tok}{tk:Nat}(I:Inv X pins σ H s)(h1: -(2^62)<=lo)(h2:lo<2^62)(h3: -(2^62)<=hi)(h4:hi<2^62)
  (q:R (Itr lo (hi- lo).toNat) H):wpAny (model X.prog X.w) X.A (pyIter (.ref s.heap.objs.size)) (PIE X pins σ tg R) E {s with heap:=s.heap.push {cls:=.type "range",data:=.fields #[.int lo t,.int hi u,.int 1 v]},toks:=tk}:=by
 refine wpAny_pyIter_range (IsRange.new ..) (small_one h1 h2 h3 h4) ?_
 have I1:Inv X pins σ H {s with heap:=s.heap.push {cls:=.type "range",data:=.fields #[.int lo t,.int hi u,.int 1 v]},toks:=tk}:=I.kept fun b o e=>gV _ e
 refine⟨(s.heap.push {cls:=.type "range",data:=.fields #[.int lo t,.int hi u,.int 1 v]}).objs.size,[(s.heap.push {cls:=.type "range",data:=.fields #[.int lo t,.int hi u,.int 1 v]}).objs.size],_,_,H,rfl,
  I1.kept (t':=tk) fun b o e=>gV _ e,uC _ lo (hi- lo).toNat,?_,fun b hb=>?_,q⟩
 ·have e1:lo+((0:Nat):Int)*1=lo:=by simp
  have e2:(((hi- lo).toNat:Nat):Int)- ((0:Nat):Int)=Ue lo hi 1:=by rw[rangeSize_one];split<;>omega
  show IsRangeIter _ _ (lo+((0:Nat):Int)*1) ((((hi- lo).toNat:Nat):Int)- ((0:Nat):Int)) 1
  rw[e1,e2]
  exact Kt _ rfl
 ·have e:b=(s.heap.push {cls:=.type "range",data:=.fields #[.int lo t,.int hi u,.int 1 v]}).objs.size:=by simpa using hb
  subst e
  exact I1.fpOk (Gt _) (I1.hok.fresh (Gt _))
def lZ (ta:TA):TI:=fun σ H R=>ta σ H fun vs H1=>∃j:Int,vs=[.int j]/\ -(2^62)<=j/\j<2^62/\R (Itr 0 j.toNat) H1
def uK (ta:TA):TI:=fun σ H R=>ta σ H fun vs H1=>∃i j:Int,vs=[.int i,.int j]/\(-(2^62)<=i/\i<2^62/\ -(2^62)<=j/\j<2^62)/\R (Itr i (j- i).toNat) H1
theorem vZ {a:Expr}{ta:TA}{p pos:Pos}(hg:Gl X "range")(hm:X.mg "range"=none)(ha:PA X [a] ta)(hs:starEach [a] X.env=[(false,eval a X.env)]:=by rfl):PI X tg (.Call (.Name "range" p) [a] [] pos) (lZ ta):=by
 intro pins s σ H R I h
 refine Call_ (eI I hg hm boot_range (Ls (thn (ha pos pins s σ H _ I h) fun us s1 ⟨vs,H1,I1,r1,q1⟩=>?_) hs rfl))
 obtain⟨j,e,q1,q2,q⟩:=q1
 subst e
 cases r1 with
 |cons r rr=>
  cases rr
  obtain⟨t,rfl⟩:=r
  exact call_range_1 (qJ I1 (by omega) (by omega) q1 q2 (by simpa using q))
theorem wO {a b:Expr}{ta:TA}{p pos:Pos}(hg:Gl X "range")(hm:X.mg "range"=none)(ha:PA X [a,b] ta)(hs:starEach [a,b] X.env=[(false,eval a X.env),(false,eval b X.env)]:=by rfl)(hs2:starEach [b] X.env=[(false,eval b X.env)]:=by rfl):
  PI X tg (.Call (.Name "range" p) [a,b] [] pos) (uK ta):=by
 intro pins s σ H R I h
 refine Call_ (eI I hg hm boot_range (Ls (thn (ha pos pins s σ H _ I h) fun us s1 ⟨vs,H1,I1,r1,q1⟩=>?_) (by rw[hs,hs2]) (by rw[hs2];rfl)))
 obtain⟨i,j,e,⟨q1,q2,q3,q4⟩,q⟩:=q1
 subst e
 cases r1 with
 |cons r rr=>
  cases rr with
  |cons r' rr=>
   cases rr
   obtain⟨t,rfl⟩:=r
   obtain⟨t',rfl⟩:=r'
   exact call_range_2 (qJ I1 q1 q2 q3 q4 q)
def gp (wi:TI)(g:TG)(tb:TS):TS:=fun D σ H=>wi σ H fun J H1=>∃W:Nat->Nat->St->Hp->Prop,(∃m,W 0 m σ H1)/\∀i m σ H,W i m σ H->
 (J.stop i H/\D.nx σ H)\/(J.go i H/\∃N:St->Hp->Prop,(∀σ' H',N σ' H'->∃m',m'<m/\W (i+1) m' σ' H')/\∀x H',J.yld i H x H'->g x σ H' fun σ2 H2=>tb {D with nx:=N,ct:=N,bk:=D.nx} σ2 H2)
def jD (fp:List Addr)(h:Heap):List (Addr×Obj):=fp.filterMap fun b=>(h.get? b).map fun o=>(b,o)
theorem fT {fp:List Addr}{h:Heap}{b:Addr}{o:Obj}(hb:b∈fp)(e:h.get? b=some o):(b,o)∈jD fp h:=RS.mpr ⟨b,hb,by rw[e];rfl⟩
theorem vg {fp:List Addr}{h:Heap}{p:Addr×Obj}(hp:p∈jD fp h):p.1∈fp/\h.get? p.1=some p.2:=by
 obtain⟨b,hb,e⟩:=RS.mp hp
 cases q:h.get? b with
 |none=>rw[q]at e;cases e
 |some o=>
  rw[q]at e
  have e':(b,o)=p:=KG e
  subst e'
  exact⟨hb,q⟩
theorem Inv.pinned {pins:List (Addr×Obj)}{σ:St}{H:Hp}{s:Km}{fp:List Addr}(I:Inv X pins σ H s)(hf:∀b∈fp,jx X pins H b)(ho:∀b∈fp,∃o,s.heap.get? b=some o/\∀v,o.data≠.cell v):Inv X (pins++jD fp s.heap) σ H s:=
 I.pins_of fun p hp=>(Lw.mp hp).elim (fun z=>I.pin p (KP _ z)) fun z=>by
  obtain⟨hb,e⟩:=vg z
  obtain⟨f0,f1,f2,_⟩:=hf p.1 hb
  obtain⟨o,e',d⟩:=ho p.1 hb
  rw[e]at e';cases e'
  exact⟨e,f0,f1,f2,d⟩
theorem Inv.unpinned {pins pl:List (Addr×Obj)}{σ:St}{H:Hp}{s:Km}(I:Inv X (pins++pl) σ H s):Inv X pins σ H s:=I.pins_of fun p hp=>I.pin p (KP _ (Lb _ hp))
theorem BY {iter:Expr}{body:List Stmt}{wi:TI}{g:TG}{tb:TS}{pos:Pos}(hp:Sm (model X.prog X.w) X.A X.env X.xe)(hc:X.calm=true)(hi:PI X tg iter wi)(hg:PG X tg g)(hb:PSs X body tb)
  (hs:∀x,foldedSetIterable iter X.env x=pure x:=by intro _;rfl):PS X (.For tg iter body [] pos) (gp wi g tb):=by
 intro pins s σ H D I h
 refine wpAny_For (thn (hi pins s σ H _ I h) fun v s1 h1=>thn h1 fun itv s2 h2=>?_) hs
 obtain⟨it,fp,tn,J,H2,e,I2,T,st2,f2,W,⟨m0,w0⟩,turn⟩:=h2
 subst e
 have stat:∀{H':Hp},(∀b∈fp,H' b=none)->∀b∈fp,jx X pins H' b:=fun hn b hb=>⟨hn b hb,(f2 b hb).2⟩
 refine codeAny_forLoop_any (fun n s'=>∃i σ' H',Inv X pins σ' H' s'/\tn i s'.heap/\(∀b∈fp,H' b=none)/\W i n σ' H') ?_ m0 ⟨0,σ,H2,I2,st2,fun b hb=>(f2 b hb).1,w0⟩
 rintro n s3 ⟨i,σ3,H3,I3,st3,fr3,w3⟩
 rcases turn i n σ3 H3 w3 with⟨stop,qn⟩|⟨go,N,hN,step⟩
 ·refine Nc hp (thn (T.done X rfl rfl rfl hc i pins s3 σ3 H3 X.xe I3 (stat fr3) st3 stop) fun r s4 ⟨hr,I4⟩=>?_)
  subst hr
  exact NS ⟨σ3,H3,I4,qn⟩
 ·refine Nc hp (thn (T.item X rfl rfl rfl hc i pins s3 σ3 H3 X.xe I3 (stat fr3) st3 go) fun r s4 ⟨u,hr,h4⟩=>?_)
  subst hr
  refine Nc hp (thn h4 fun _ s5 ⟨x,H5,I5,r5,y5,st5,fr5⟩=>?_)
  have I5':=I5.pinned (stat fr5) (T.obj _ _ st5)
  refine Nc hp (thn (hg _ s5 σ3 H5 x u _ I5' r5 (step x H5 y5)) fun _ s6 ⟨σ6,H6,I6,q6⟩=>?_)
  refine Nc hp (thn (hb _ s6 σ6 H6 _ I6 q6) fun f s7 q7=>?_)
  have again:∀{σ7:St}{H7:Hp},Inv X (pins++jD fp s5.heap) σ7 H7 s7->N σ7 H7->∃m,m<n/\∃i σ' H',Inv X pins σ' H' s7/\tn i s7.heap/\(∀b∈fp,H' b=none)/\W i m σ' H':=fun{σ7 H7} I7 n7=>by
   obtain⟨m',hm,w7⟩:=hN σ7 H7 n7
   refine⟨m',hm,i+1,σ7,H7,I7.unpinned,T.keep _ _ _ st5 fun b hb o e=>(I7.pin (b,o) (KP _ (KP _ (fT hb e)))).1,fun b hb=>?_,w7⟩
   obtain⟨o,e,d⟩:=T.obj _ _ st5 b hb
   exact(I7.pin (b,o) (KP _ (KP _ (fT hb e)))).2.1
  cases f with
  |next=>obtain⟨σ7,H7,I7,n7⟩:=q7;exact again I7 n7
  |cont=>obtain⟨σ7,H7,I7,n7⟩:=q7;exact again I7 n7
  |brk=>obtain⟨σ7,H7,I7,q7⟩:=q7;exact⟨σ7,H7,I7.unpinned,q7⟩
  |ret v=>obtain⟨x7,σ7,H7,I7,r7,q7⟩:=q7;exact⟨x7,σ7,H7,I7.unpinned,r7,q7⟩
end
theorem iM {K:pv}{a:Addr}{xs:List V}{g:TG}{tb:TS}{D:fy}{σ:St}{H:Hp}(Pv:Nat->St->Hp->Prop)(h0:Pv 0 σ H)(hl:∀i σ H,i<=xs.length->Pv i σ H->SqL K H a xs)
  (hs:∀i x σ H,xs[i]?=some x->Pv i σ H->g x σ H fun σ2 H2=>tb {D with nx:=Pv (i+1),ct:=Pv (i+1),bk:=D.nx} σ2 H2)(hd:∀σ H,Pv xs.length σ H->D.nx σ H):
  ∃W:Nat->Nat->St->Hp->Prop,(∃m,W 0 m σ H)/\∀i m σ H,W i m σ H->
   ((Itl K a).stop i H/\D.nx σ H)\/((Itl K a).go i H/\∃N:St->Hp->Prop,(∀σ' H',N σ' H'->∃m',m'<m/\W (i+1) m' σ' H')/\∀x H',(Itl K a).yld i H x H'->g x σ H' fun σ2 H2=>tb {D with nx:=N,ct:=N,bk:=D.nx} σ2 H2):=by
 refine⟨fun i m σ H=>m=xs.length- i/\i<=xs.length/\Pv i σ H,⟨xs.length,by simp,KS _,h0⟩,?_⟩
 rintro i m σ H ⟨rfl,hi,p⟩
 have q:=hl i σ H hi p
 by_cases hlt:i<xs.length
 ·refine .inr ⟨⟨xs,xs[i],q,by simp[hlt]⟩,Pv (i+1),fun σ' H' p'=>⟨xs.length- (i+1),by omega,rfl,hlt,p'⟩,fun x H' y=>?_⟩
  obtain⟨e,y⟩:=y
  subst e
  exact hs i x σ _ (y xs q) p
 ·have e:i=xs.length:=by omega
  subst e
  exact .inl ⟨⟨xs,q,Gt _⟩,hd σ H p⟩
theorem Bc {K:pv}{a:Addr}{xs:List V}{g:TG}{tb:TS}{D:fy}{σ:St}{H:Hp}(Pv:Nat->St->Hp->Prop)(h0:Pv 0 σ H)(hl:∀i σ H,i<=xs.length->Pv i σ H->SqT K H a xs)
  (hs:∀i x σ H,xs[i]?=some x->Pv i σ H->g x σ H fun σ2 H2=>tb {D with nx:=Pv (i+1),ct:=Pv (i+1),bk:=D.nx} σ2 H2)(hd:∀σ H,Pv xs.length σ H->D.nx σ H):
  ∃W:Nat->Nat->St->Hp->Prop,(∃m,W 0 m σ H)/\∀i m σ H,W i m σ H->
   ((Itt K a).stop i H/\D.nx σ H)\/((Itt K a).go i H/\∃N:St->Hp->Prop,(∀σ' H',N σ' H'->∃m',m'<m/\W (i+1) m' σ' H')/\∀x H',(Itt K a).yld i H x H'->g x σ H' fun σ2 H2=>tb {D with nx:=N,ct:=N,bk:=D.nx} σ2 H2):=by
 refine⟨fun i m σ H=>m=xs.length- i/\i<=xs.length/\Pv i σ H,⟨xs.length,by simp,KS _,h0⟩,?_⟩
 rintro i m σ H ⟨rfl,hi,p⟩
 have q:=hl i σ H hi p
 by_cases hlt:i<xs.length
 ·refine .inr ⟨⟨xs,xs[i],q,by simp[hlt]⟩,Pv (i+1),fun σ' H' p'=>⟨xs.length- (i+1),by omega,rfl,hlt,p'⟩,fun x H' y=>?_⟩
  obtain⟨e,y⟩:=y
  subst e
  exact hs i x σ _ (y xs q) p
 ·have e:i=xs.length:=by omega
  subst e
  exact .inl ⟨⟨xs,q,Gt _⟩,hd σ H p⟩
theorem jr {lo:Int}{n:Nat}{g:TG}{tb:TS}{D:fy}{σ:St}{H:Hp}(Pv:Nat->St->Hp->Prop)(h0:Pv 0 σ H)
  (hs:∀i σ H,i<n->Pv i σ H->g (.int (lo+i)) σ H fun σ2 H2=>tb {D with nx:=Pv (i+1),ct:=Pv (i+1),bk:=D.nx} σ2 H2)(hd:∀σ H,Pv n σ H->D.nx σ H):
  ∃W:Nat->Nat->St->Hp->Prop,(∃m,W 0 m σ H)/\∀i m σ H,W i m σ H->
   ((Itr lo n).stop i H/\D.nx σ H)\/((Itr lo n).go i H/\∃N:St->Hp->Prop,(∀σ' H',N σ' H'->∃m',m'<m/\W (i+1) m' σ' H')/\∀x H',(Itr lo n).yld i H x H'->g x σ H' fun σ2 H2=>tb {D with nx:=N,ct:=N,bk:=D.nx} σ2 H2):=by
 refine⟨fun i m σ H=>m=n- i/\i<=n/\Pv i σ H,⟨n,by simp,KS _,h0⟩,?_⟩
 rintro i m σ H ⟨rfl,hi,p⟩
 by_cases hlt:i<n
 ·refine .inr ⟨hlt,Pv (i+1),fun σ' H' p'=>⟨n- (i+1),by omega,rfl,hlt,p'⟩,fun x H' y=>?_⟩
  obtain⟨e,y⟩:=y
  subst e y
  exact hs i σ _ hlt p
 ·have e:i=n:=by omega
  subst e
  exact .inl ⟨Gt _,hd σ H p⟩
abbrev R2:=V->V->Hp->VK->Prop
def OpR (X:Cx)(f:tx->tx->Sem tx)(r:R2):Prop:=
 ∀(pins:List (Addr×Obj))(s:Km)(σ:St)(H:Hp)(x y:V)(v u:tx)(Q:VK),Inv X pins σ H s->aY x v->aY y u->r x y H Q->
  wpAny (model X.prog X.w) X.A (f v u) (EP X pins σ Q) X.xe s
def UnR (X:Cx)(f:tx->Sem tx)(r:V->Hp->VK->Prop):Prop:=
 ∀(pins:List (Addr×Obj))(s:Km)(σ:St)(H:Hp)(x:V)(v:tx)(Q:VK),Inv X pins σ H s->aY x v->r x H Q->
  wpAny (model X.prog X.w) X.A (f v) (EP X pins σ Q) X.xe s
def ck (X:Cx)(f:tx)(r:List V->Hp->VK->Prop):Prop:=
 ∀(pins:List (Addr×Obj))(s:Km)(σ:St)(H:Hp)(xs:List V)(us:List tx)(Q:VK),Inv X pins σ H s->bc xs us->r xs H Q->
  wpAny (model X.prog X.w) X.A (call f us) (EP X pins σ Q) X.xe s
def Kb (X:Cx)(r:V->Hp->(Bool->Hp->Prop)->Prop):Prop:=
 ∀(pins:List (Addr×Obj))(s:Km)(σ:St)(H:Hp)(x:V)(v:tx)(Q:Bool->Hp->Prop),Inv X pins σ H s->aY x v->r x H Q->
  wpAny (model X.prog X.w) X.A (truthy v) (TP X pins σ Q) X.xe s
def tOp (r:R2)(ta tb:TE):TE:=fun σ H Q=>ta σ H fun x H1=>tb σ H1 fun y H2=>r x y H2 Q
def tUn (r:V->Hp->VK->Prop)(ta:TE):TE:=fun σ H Q=>ta σ H fun x H1=>r x H1 Q
def rI (C:Int->Int->Prop)(g:Int->Int->V):R2:=fun x y H Q=>∃i j,x=.int i/\y=.int j/\C i j/\Q (g i j) H
def rI0 (g:Int->Int->V):R2:=fun x y H Q=>∃i j,x=.int i/\y=.int j/\Q (g i j) H
def rU (g:Int->V):V->Hp->VK->Prop:=fun x H Q=>∃i,x=.int i/\Q (g i) H
section
variable {X:Cx}{a b c:Expr}{ta tb tc:TE}{pos:Pos}
theorem ym (ha:PE X a ta)(hb:PE X b tb){pins:List (Addr×Obj)}{s:Km}{σ:St}{H:Hp}{R:V->V->Hp->Prop}(I:Inv X pins σ H s)
  (h:ta σ H fun x H1=>tb σ H1 fun y H2=>R x y H2){Q:tx->Km->Prop}{f:tx->tx->Sem tx}
  (hf:∀v u s2 x y H2,Inv X pins σ H2 s2->aY x v->aY y u->R x y H2->wpAny (model X.prog X.w) X.A (f v u) Q X.xe s2):
  wpAny (model X.prog X.w) X.A (eval a X.env) (fun v s₁=>wpAny (model X.prog X.w) X.A (eval b X.env) (fun u s₂=>wpAny (model X.prog X.w) X.A (f v u) Q X.xe s₂) X.xe s₁) X.xe s:=by
 refine thn (ha pins s σ H _ I h) fun v s1 ⟨x,H1,I1,r1,q1⟩=>?_
 refine thn (hb pins s1 σ H1 _ I1 q1) fun u s2 ⟨y,H2,I2,r2,q2⟩=>?_
 exact hf v u s2 x y H2 I2 r1 r2 q2
theorem Ia {op:Operator}{r:R2}(ho:OpR X (binaryOp op) r)(ha:PE X a ta)(hb:PE X b tb):PE X (.BinOp a op b pos) (tOp r ta tb):=by
 intro pins s σ H Q I h
 exact wpAny_BinOp (ym ha hb I h fun v u s2 x y H2 I2 rx ry q=>ho pins s2 σ H2 x y v u Q I2 rx ry q)
theorem Im {op:UnaryOp}{r:V->Hp->VK->Prop}(ho:UnR X (unaryOp op) r)(ha:PE X a ta):PE X (.UnaryOp op a pos) (tUn r ta):=by
 intro pins s σ H Q I h
 exact UnaryOp_ (thn (ha pins s σ H _ I h) fun v s1 ⟨x,H1,I1,r1,q1⟩=>ho pins s1 σ H1 x v Q I1 r1 q1)
theorem opI {f:tx->tx->Sem tx}{C:Int->Int->Prop}{g:Int->Int->Int}
  (rule:∀(i j:Int)(t u:Tok)(s:Km)(Q:tx->Km->Prop)(E:tx->Km->Prop),C i j->Q (.int (g i j) s.toks) {s with toks:=s.toks+1}->wpAny (model X.prog X.w) X.A (f (.int i t) (.int j u)) Q E s):
  OpR X f (rI C fun i j=>.int (g i j)):=by
 intro pins s σ H x y v u Q I rx ry h
 obtain⟨i,j,rfl,rfl,hc,q⟩:=h
 obtain⟨t,rfl⟩:=rx
 obtain⟨t',rfl⟩:=ry
 exact rule i j t t' s _ _ hc ⟨.int (g i j),H,I.tok _,⟨_,rfl⟩,q⟩
theorem BV {f:tx->tx->Sem tx}{g:Int->Int->Int}
  (rule:∀(i j:Int)(t u:Tok)(s:Km)(Q:tx->Km->Prop)(E:tx->Km->Prop),Q (.int (g i j) s.toks) {s with toks:=s.toks+1}->wpAny (model X.prog X.w) X.A (f (.int i t) (.int j u)) Q E s):
  OpR X f (rI0 fun i j=>.int (g i j)):=by
 intro pins s σ H x y v u Q I rx ry h
 obtain⟨i,j,rfl,rfl,q⟩:=h
 obtain⟨t,rfl⟩:=rx
 obtain⟨t',rfl⟩:=ry
 exact rule i j t t' s _ _ ⟨.int (g i j),H,I.tok _,⟨_,rfl⟩,q⟩
theorem tN {f:tx->tx->Sem tx}{g:Int->Int->Bool}
  (rule:∀(i j:Int)(t u:Tok)(s:Km)(Q:tx->Km->Prop)(E:tx->Km->Prop),Q (.bool (g i j)) s->wpAny (model X.prog X.w) X.A (f (.int i t) (.int j u)) Q E s):
  OpR X f (rI0 fun i j=>.bl (g i j)):=by
 intro pins s σ H x y v u Q I rx ry h
 obtain⟨i,j,rfl,rfl,q⟩:=h
 obtain⟨t,rfl⟩:=rx
 obtain⟨t',rfl⟩:=ry
 exact rule i j t t' s _ _ ⟨.bl (g i j),H,I,rfl,q⟩
def EM (i j:Int):Prop:=0<=j/\j<=1000000/\i.natAbs<2^64
theorem DS:OpR X (binaryOp .Add) (rI0 fun i j=>.int (i+j)):=BV fun _ _ _ _ _ _ _ q=>add_int q
theorem Ee:OpR X (binaryOp .Sub) (rI0 fun i j=>.int (i- j)):=BV fun _ _ _ _ _ _ _ q=>sub_int q
theorem CL:OpR X (binaryOp .Mod) (rI (fun _ j=>0<j) fun i j=>.int (i%j)):=opI fun i j _ _ _ _ _ hc q=>by
 have h1:(0:Int)<j:=hc
 exact mod_int' (by omega) (by rw[Int.fmod_eq_emod_of_nonneg i (by omega)];exact q)
theorem Ez:OpR X (binaryOp .Pow) (rI EM fun i j=>.int (i^j.toNat)):=opI fun _ _ _ _ _ _ _ hc q=>pow_int_small hc.1 hc.2.1 hc.2.2 q
theorem BP:OpR X (binaryOp .LShift) (rI EM fun i j=>.int (i*2^j.toNat)):=opI fun _ _ _ _ _ _ _ hc q=>lshift_int_small hc.1 hc.2.1 hc.2.2 q
theorem unI {f:tx->Sem tx}{g:Int->Int}
  (rule:∀(i:Int)(t:Tok)(s:Km)(Q:tx->Km->Prop)(E:tx->Km->Prop),Q (.int (g i) s.toks) {s with toks:=s.toks+1}->wpAny (model X.prog X.w) X.A (f (.int i t)) Q E s):
  UnR X f (rU fun i=>.int (g i)):=by
 intro pins s σ H x v Q I rx h
 obtain⟨i,rfl,q⟩:=h
 obtain⟨t,rfl⟩:=rx
 exact rule i t s _ _ ⟨.int (g i),H,I.tok _,⟨_,rfl⟩,q⟩
theorem Cc:UnR X (unaryOp .USub) (rU fun i=>.int (-i)):=unI fun _ _ _ _ _ q=>neg_int q
end
def EY:V->V->Bool
 |.non,.non=>true|.non,.int _=>true|.int _,.non=>true|.non,.bl _=>true|.bl _,.non=>true|.non,.str _=>true|.str _,.non=>true
 |.int _,.int _=>true|.bl _,.bl _=>true|.str _,.str _=>true|.byt _,.byt _=>true
 |.int _,.str _=>true|.str _,.int _=>true|.bl _,.str _=>true|.str _,.bl _=>true
 |_,_=>false
def rEq:R2:=fun x y H Q=>EY x y=true/\Q (.bl (decide (x=y))) H
def rNe:R2:=fun x y H Q=>EY x y=true/\Q (.bl (!decide (x=y))) H
theorem rR {i j:Int}:decide (V.int i=V.int j)=(i==j):=by
 rw[NH]
 simp
theorem wH {i j:Bool}:decide (V.bl i=V.bl j)=(i==j):=by
 rw[NH]
 simp
theorem sd {i j:Str}:decide (V.str i=V.str j)=(i==j):=by
 rw[NH]
 simp
theorem sL {i j:Array UInt8}:decide (V.byt i=V.byt j)=(i.toList==j.toList):=by
 rw[NH]
 cases i
 cases j
 simp
section
variable {X:Cx}{a b c:Expr}{ta tb tc:TE}{pos:Pos}
theorem bx {pins:List (Addr×Obj)}{σ:St}{H:Hp}{s:Km}{Q:VK}{k k':Bool}(I:Inv X pins σ H s)(q:Q (.bl k) H)(e:k=k'):EP X pins σ Q (.bool k') s:=by
 subst e
 exact⟨.bl k,H,I,rfl,q⟩
theorem FX:OpR X (compareOp .Eq) rEq:=by
 intro pins s σ H x y v u Q I rx ry h
 obtain⟨hs,q⟩:=h
 cases x with
 |non=>
  cases rx
  cases y with
  |non=>cases ry;exact PySem.EqNone.eq_none_none (bx I q (by simp))
  |bl j=>cases ry;exact PySem.EqNone.eq_none_bool (bx I q (by simp))
  |int j=>obtain⟨t',rfl⟩:=ry;exact PySem.EqNone.eq_none_int (bx I q (by simp))
  |str j=>obtain⟨t',rfl⟩:=ry;exact PySem.EqNone.eq_none_str (bx I q (by simp))
  |_=>exact absurd (show false=true from hs) KF
 |bl i=>
  cases rx
  cases y with
  |non=>cases ry;exact PySem.EqNone.eq_bool_none (bx I q (by simp))
  |bl j=>cases ry;exact eq_bool (bx I q wH)
  |str j=>obtain⟨t',rfl⟩:=ry;exact Ua (bx I q (by simp))
  |_=>exact absurd (show false=true from hs) KF
 |int i=>
  obtain⟨t,rfl⟩:=rx
  cases y with
  |non=>cases ry;exact PySem.EqNone.eq_int_none (bx I q (by simp))
  |int j=>obtain⟨t',rfl⟩:=ry;exact eq_int (bx I q rR)
  |str j=>obtain⟨t',rfl⟩:=ry;exact TZ (bx I q (by simp))
  |_=>exact absurd (show false=true from hs) KF
 |str i=>
  obtain⟨t,rfl⟩:=rx
  cases y with
  |non=>cases ry;exact PySem.EqNone.eq_str_none (bx I q (by simp))
  |bl j=>cases ry;exact TY (bx I q (by simp))
  |int j=>obtain⟨t',rfl⟩:=ry;exact TX (bx I q (by simp))
  |str j=>obtain⟨t',rfl⟩:=ry;exact eq_str (bx I q sd)
  |_=>exact absurd (show false=true from hs) KF
 |byt i=>
  obtain⟨t,rfl⟩:=rx
  cases y with
  |byt j=>obtain⟨t',rfl⟩:=ry;exact W.eq_bytes (bx I q sL)
  |_=>exact absurd (show false=true from hs) KF
 |_=>cases y<;>exact absurd (show false=true from hs) KF
theorem Hg:OpR X (compareOp .NotEq) rNe:=by
 intro pins s σ H x y v u Q I rx ry h
 obtain⟨hs,q⟩:=h
 cases x with
 |non=>
  cases rx
  cases y with
  |non=>cases ry;exact PySem.EqNone.ne_none_none (bx I q (by simp))
  |bl j=>cases ry;exact PySem.EqNone.ne_none_bool (bx I q (by simp))
  |int j=>obtain⟨t',rfl⟩:=ry;exact PySem.EqNone.ne_none_int (bx I q (by simp))
  |str j=>obtain⟨t',rfl⟩:=ry;exact PySem.EqNone.ne_none_str (bx I q (by simp))
  |_=>exact absurd (show false=true from hs) KF
 |bl i=>
  cases rx
  cases y with
  |non=>cases ry;exact PySem.EqNone.ne_bool_none (bx I q (by simp))
  |bl j=>cases ry;exact ne_bool (bx I q (congrArg not wH))
  |str j=>obtain⟨t',rfl⟩:=ry;exact TV (bx I q (by simp))
  |_=>exact absurd (show false=true from hs) KF
 |int i=>
  obtain⟨t,rfl⟩:=rx
  cases y with
  |non=>cases ry;exact PySem.EqNone.ne_int_none (bx I q (by simp))
  |int j=>obtain⟨t',rfl⟩:=ry;exact ne_int (bx I q (congrArg not rR))
  |str j=>obtain⟨t',rfl⟩:=ry;exact TU (bx I q (by simp))
  |_=>exact absurd (show false=true from hs) KF
 |str i=>
  obtain⟨t,rfl⟩:=rx
  cases y with
  |non=>cases ry;exact PySem.EqNone.ne_str_none (bx I q (by simp))
  |bl j=>cases ry;exact TR (bx I q (by simp))
  |int j=>obtain⟨t',rfl⟩:=ry;exact TQ (bx I q (by simp))
  |str j=>obtain⟨t',rfl⟩:=ry;exact ne_str (bx I q (congrArg not sd))
  |_=>exact absurd (show false=true from hs) KF
 |byt i=>
  obtain⟨t,rfl⟩:=rx
  cases y with
  |byt j=>obtain⟨t',rfl⟩:=ry;exact W.ne_bytes (bx I q (congrArg not sL))
  |_=>exact absurd (show false=true from hs) KF
 |_=>cases y<;>exact absurd (show false=true from hs) KF
theorem Hr:OpR X (compareOp .Lt) (rI0 fun i j=>.bl (decide (i<j))):=tN fun _ _ _ _ _ _ _ q=>lt_int q
theorem Fs:OpR X (compareOp .LtE) (rI0 fun i j=>.bl (decide (i<=j))):=tN fun _ _ _ _ _ _ _ q=>le_int q
theorem Hz:OpR X (compareOp .Gt) (rI0 fun i j=>.bl (decide (j<i))):=tN fun _ _ _ _ _ _ _ q=>gt_int q
theorem HR:OpR X (compareOp .GtE) (rI0 fun i j=>.bl (decide (j<=i))):=tN fun _ _ _ _ _ _ _ q=>ge_int q
theorem OpR.or {f:tx->tx->Sem tx}{r r':R2}(h:OpR X f r)(h':OpR X f r'):OpR X f (fun x y H Q=>r x y H Q\/r' x y H Q):=by
 intro pins s σ H x y v u Q I rx ry q
 rcases q with q|q
 ·exact h pins s σ H x y v u Q I rx ry q
 ·exact h' pins s σ H x y v u Q I rx ry q
theorem lX (b:Expr){op:Sq}(h:op≠.In:=by decide)(h2:op≠.NotIn:=by decide):behindInMarks op b=false:=by
 have e1:(op==CmpOp.In)=false:=by cases op<;>first|rfl|exact absurd rfl h
 have e2:(op==CmpOp.NotIn)=false:=by cases op<;>first|rfl|exact absurd rfl h2
 cases b<;>simp[behindInMarks,e1,e2]
theorem Bw {op:Sq}{r:R2}(ho:OpR X (compareOp op) r)(ha:PE X a ta)(hb:PE X b tb)(hm:behindInMarks op b=false):PE X (.Compare a [op] [b] pos) (tOp r ta tb):=by
 intro pins s σ H Q I h
 exact wpAny_Compare1 (ym ha hb I h fun v u s2 x y H2 I2 rx ry q=>ho pins s2 σ H2 x y v u Q I2 rx ry q) hm
def BL (K:pv)(x:V)(H:Hp)(k:Bool):Prop:=
 match x with
 |.non=>k=false
 |.bl b=>k=b
 |.int i=>k=(i !=0)
 |.str y=>y.length<=sizeLine/\k=((y.length:Int) !=0)
 |.byt y=>y.size<=sizeLine/\k=((y.size:Int) !=0)
 |.ref p=>(∃xs,SqL K H p xs/\k= !xs.isEmpty)\/(∃xs,SqT K H p xs/\k= !xs.isEmpty)\/∃kvs,H p=some (.dK kvs)/\k= !kvs.isEmpty
 |_=>False
theorem tH {κ:Type}{kvs:List (κ×V)}{vs:List (κ×tx)}(r:KV kvs vs):(!vs.isEmpty)= !kvs.isEmpty:=by
 cases r<;>rfl
theorem lL {xs:List V}{its:List tx}(r:bc xs its):(!its.toArray.isEmpty)= !xs.isEmpty:=by
 cases r<;>simp
theorem ie:(sizeLine:Nat)<2^63:=by rw[Mi];decide
theorem Dj:Kb X (fun x H Q=>∃k,BL X.K x H k/\Q k H):=by
 intro pins s σ H x v Q I rx h
 obtain⟨k,e,q⟩:=h
 have hl:=ie
 have hs:sizeLine=16777216:=Mi
 cases x with
 |non=>
  cases rx
  have e':k=false:=e
  subst e'
  exact truthy_none ⟨H,I,q⟩
 |bl b=>
  cases rx
  have e':k=b:=e
  subst e'
  exact MK ⟨H,I,q⟩
 |int i=>
  obtain⟨t,rfl⟩:=rx
  have e':k=(i !=0):=e
  subst e'
  exact PySem.P.truthy_int ⟨H,I,q⟩
 |str y=>
  obtain⟨t,rfl⟩:=rx
  obtain⟨hy,e'⟩:y.length<=sizeLine/\k=((y.length:Int) !=0):=e
  subst e'
  exact PySem.P.truthy_str (by omega) ⟨H,I.tok _,q⟩
 |byt y=>
  obtain⟨t,rfl⟩:=rx
  obtain⟨hy,e'⟩:y.size<=sizeLine/\k=((y.size:Int) !=0):=e
  subst e'
  exact W.truthy_bytes (by omega) ⟨H,I.tok _,q⟩
 |ref p=>
  cases rx
  have e':(∃xs,SqL X.K H p xs/\k= !xs.isEmpty)\/(∃xs,SqT X.K H p xs/\k= !xs.isEmpty)\/∃kvs,H p=some (.dK kvs)/\k= !kvs.isEmpty:=e
  rcases e' with⟨xs,hx,e'⟩|⟨xs,hx,e'⟩|⟨kvs,hx,e'⟩
  ·subst e'
   obtain⟨its,r,pl,hz⟩:=I.list hx
   have hlen:=r.length
   exact wpAny_truthy_list pl.isList (by simp only[Ks];omega) ⟨H,I.tok _,by rw[lL r];exact q⟩
  ·subst e'
   obtain⟨its,r,pl,hz⟩:=I.tuple hx
   have hlen:=r.length
   exact truthy_tuple pl (by simp only[Ks];omega) ⟨H,I.tok _,by rw[lL r];exact q⟩
  ·subst e'
   obtain⟨hz,hS,vs,r,m⟩:kvs.length<=sizeLine/\(p==sysModules)=false/\∃vs,KV kvs vs/\s.heap.DictOf (bY X.prog X.w) p vs:=I.hok p _ hx
   have hlen:kvs.length=vs.length:=Paired.length r
   exact wpAny_truthy_dict hS m (by omega) ⟨H,I.tok _,by rw[tH r];exact q⟩
 |_=>exact(show False from e).elim
theorem uA:OpR X (binaryOp .Add) (fun x y H Q=>∃i j,x=.str i/\y=.str j/\i.length+j.length<=sizeLine/\Q (.str (i++j)) H):=by
 intro pins s σ H x y v u Q I rx ry h
 obtain⟨i,j,rfl,rfl,hz,q⟩:=h
 obtain⟨t,rfl⟩:=rx
 obtain⟨t',rfl⟩:=ry
 exact add_str (fun t' tk=>⟨.str (i++j),H,I.tok _,⟨_,rfl⟩,q⟩) hz
theorem fE {x:V}{us:List tx}(r:bc [x] us):∃u,us=[u]/\aY x u:=by
 cases r with
 |cons r1 r2=>cases r2;exact⟨_,rfl,r1⟩
theorem uj {x y:V}{us:List tx}(r:bc [x,y] us):∃u w',us=[u,w']/\aY x u/\aY y w':=by
 cases r with
 |cons r1 r2=>
  cases r2 with
  |cons r3 r4=>cases r4;exact⟨_,_,rfl,r1,r3⟩
def JQ (K:pv)(x:V)(H:Hp)(n:Nat):Prop:=
 match x with
 |.str y=>y.length<=sizeLine/\n=y.length
 |.byt y=>y.size<=sizeLine/\n=y.size
 |.ref p=>(∃xs,SqL K H p xs/\n=xs.length)\/∃xs,SqT K H p xs/\n=xs.length
 |_=>False
theorem kN:ck X (.builtin "len") (fun xs H Q=>∃x n,xs=[x]/\JQ X.K x H n/\Q (.int n) H):=by
 intro pins s σ H xs us Q I r h
 obtain⟨x,n,rfl,e,q⟩:=h
 obtain⟨u,rfl,rx⟩:=fE r
 have hl:=ie
 have hs:sizeLine=16777216:=Mi
 cases x with
 |str y=>
  obtain⟨t,rfl⟩:=rx
  obtain⟨hy,e'⟩:y.length<=sizeLine/\n=y.length:=e
  subst e'
  exact len_str (by omega) ⟨.int _,H,I.tok _,⟨_,rfl⟩,q⟩
 |byt y=>
  obtain⟨t,rfl⟩:=rx
  obtain⟨hy,e'⟩:y.size<=sizeLine/\n=y.size:=e
  subst e'
  exact W.len_bytes (by omega) ⟨.int _,H,I.tok _,⟨_,rfl⟩,q⟩
 |ref p=>
  cases rx
  have e':(∃xs,SqL X.K H p xs/\n=xs.length)\/∃xs,SqT X.K H p xs/\n=xs.length:=e
  rcases e' with⟨xs,hx,e'⟩|⟨xs,hx,e'⟩
  ·subst e'
   obtain⟨its,r',pl,hz⟩:=I.list hx
   have hlen:=r'.length
   exact Calls.call_len_list pl.isList (by simp only[Ks];omega) ⟨.int xs.length,H,I.tok _,⟨_,by simp only[Ks];rw[hlen]⟩,q⟩
  ·subst e'
   obtain⟨its,r',pl,hz⟩:=I.tuple hx
   have hlen:=r'.length
   exact len_tuple pl (by simp only[Ks];omega) ⟨.int xs.length,H,I.tok _,⟨_,by simp only[Ks];rw[hlen]⟩,q⟩
 |_=>exact(show False from e).elim
end
structure lA (h:Heap)(x dx C:Addr)(mA:Str->Option tx):Prop where
 obj:h.get? x=some (NZ C dx)
 ns:h.Ns1 dx mA
 ne:dx≠x
theorem vJ {h:Heap}{dx:Addr}{mA:Str->Option tx}(n:h.Ns1 dx mA):∃od,h.get? dx=some od/\∀name,SH name od=some (mA name):=by
 obtain⟨o,es,ep,ho,hd,hk,_,hm⟩:=n
 refine⟨o,ho,fun name=>?_⟩
 have e:=hm name
 unfold nsFind findBy at e
 rw[<-Array.find?_toList]at e
 unfold SH
 rw[hd]
 dsimp only
 split
 ·rename_i y q
  rw[q]at e
  exact congrArg some e
 ·rename_i q
  rw[q]at e
  have a:es.toList.any (·.refKey)=false:=by
   rw[List.any_eq_false]
   intro y hy
   obtain⟨z,t,hkey⟩:=hk y (Array.mem_toList_iff.mp hy)
   simp[DictEntry.refKey,hkey]
  have a':¬es.toList.any (·.refKey)=true:=by rw[a];exact KF
  rw[if_neg a']
  exact congrArg some e
theorem lA.look {h:Heap}{x dx C:Addr}{mA:Str->Option tx}(I:lA h x dx C mA):∃od,W.InstAt h x (NZ C dx) C (some od)/\∀name,SH name od=some (mA name):=
 let ⟨od,ho,hl⟩:=vJ I.ns
 ⟨od,⟨I.obj,rfl,rfl,ho⟩,hl⟩
section
variable {prog:KI}{w:Lp}{A:Lh}{E:tx->Km->Prop}{s:Km}{K:pv}{x dx C f:Addr}{mA:Str->Option tx}{name:Str}{v:tx}
theorem AQ {expr:Bool}{Q:tx->Km->Prop}(X:K.In s.heap)(I:lA s.heap x dx C mA)(hg:Pu K C name=true)(hh:OT K C=true)
  (ha:LI K (.ref C) name=some none)(hv:mA name=some v)(hv':W.handedIn v=true)(h:Q v {s with toks:=s.toks+1}):
  wpAny (model prog w) A (getAttr (.ref x) name expr) Q E s:=by
 obtain⟨od,J,hl⟩:=I.look
 exact W.get_value X J (Rg hg).1 (W.findObj_own hh ha rfl (by rw[hl,hv])) hv' h
theorem xq {pl:Sem Bool}{Q:tx×List tx->Km->Prop}(X:K.In s.heap)(I:lA s.heap x dx C mA)(hg:Pu K C name=true)
  (hf:LI K (.ref C) name=some (some (.ref f)))(ht:RI K (.ref f)=true)(hv:mA name=none)(h:Q (.ref f,[.ref x]) s):
  wpAny (model prog w) A (getMethod (.ref x) name pl) Q E s:=by
 obtain⟨od,J,hl⟩:=I.look
 exact W.method_fn X J (Rg hg).1 (Rg hg).2 hf (beq_iff_eq.mp ht) (by show(SH name od).map (·.isSome)=some false;rw[hl,hv];rfl) h
theorem Bv {ns:List Str}{Q:Unit->Km->Prop}(X:K.In s.heap)(I:lA s.heap x dx C mA)
  (hs:LI K (.ref C) "__setattr__"=some (some (.builtin "object.__setattr__")))(hp:Si K C=true)(ht:TB K C name=some none)(hh:OT K C=true)
  (hw:OZ mA ns)(hsz:ns.length<=sizeLine)
  (h:∀h',lA h' x dx C (fun y=>if y=name then some v else mA y)->Mw dx s.heap h'->Q () {s with heap:=h',toks:=s.toks+2}):
  wpAny (model prog w) A (setAttr (.ref x) name v) Q E s:=by
 obtain⟨od,J,hl⟩:=I.look
 refine W.set_plain X J hs (W.osa_open (s:={s with toks:=s.toks+1}) (r:=none) X J hp ht fun b=>?_)
 obtain⟨cd,hc,hd'⟩:=W.any_some hh
 have hx:s.heap.get? x=some ⟨.ref C,some dx,.plain,#[]⟩:=I.obj
 refine cW (Ko (cW (cW (Re hx (cW (W.Looks.here (s:={s with toks:=s.toks+1}) (W.looks_clsIn X hc) ?_))))))
 rw[hd']
 refine Ko (a:=some dx) (cW (Ko (cW ?_)))
 refine Sb (s:={s with toks:=s.toks+1}) I.ns fun h' hn2 hs2=>?_
 obtain⟨oD,esD,epD,hoD,hdD,hcD⟩:=hn2.count (PF name v hw)
 refine cW (Qm hoD (by rw[hdD];exact Qn (KN hcD (by rw[KH];omega))) ?_)
 exact Ko (h _ ⟨(hs2.2 _ (Lj I.ne)).trans I.obj,hn2,I.ne⟩ hs2)
theorem xM {R:Py->Km->Prop}{vs:List tx}{kw:List (Str×tx)}(X:K.In s.heap)(hm:TC K C=true)
  (hi:LI K (.ref C) "__init__"=some (some (.ref f)))(hf:W.typeIn K (.ref f)=some (.type "function"))
  (h:codeAny (model prog w) (A.under (.builtin "type.__call__" ⟨.ref C::vs,kw⟩)) (.call (.ref f) ⟨.ref (s.heap.objs.size+1)::vs,kw⟩) (W.InitBack (s.heap.objs.size+1) R)
   {s with heap:=(s.heap.push Nk).push (NZ C s.heap.objs.size)}):
  codeAny (model prog w) A (.call (.ref C) ⟨vs,kw⟩) R s:=by
 obtain⟨hh,g,d,t,os⟩:=s
 exact W.make_core (W.makes_of X hm) (W.looks_findIn X hi) (fun self=>W.bind_fn X self hf) (.inl rfl) h
end
def dv (f:Str)(v:V):List (Str×V)->List (Str×V)
 |[]=>[(f,v)]
 |(g,x)::r=>if g=f then(g,v)::r else(g,x)::dv f v r
theorem ia (f g:Str)(v:V):∀fs:List (Str×V),(dv f v fs).lookup g=if g=f then some v else fs.lookup g
 |[]=>by
  show LR g [(f,v)]=_
  by_cases h:g=f
  ·have hb:(g==f)=true:=beq_iff_eq.mpr h
   simp only[LR,hb,if_pos h]
  ·have hb:(g==f)=false:=beq_eq_false_iff_ne.mpr h
   simp only[LR,hb,if_neg h]
 |(k,x)::r=>by
  have ih:=ia f g v r
  rw[show dv f v ((k,x)::r)=(if k=f then(k,v)::r else(k,x)::dv f v r)from rfl]
  by_cases hk:k=f
  ·rw[if_pos hk]
   by_cases h:g=k
   ·have hb:(g==k)=true:=beq_iff_eq.mpr h
    simp only[LR,hb,if_pos (h.trans hk)]
   ·have hb:(g==k)=false:=beq_eq_false_iff_ne.mpr h
    simp only[LR,hb,if_neg (fun e:g=f=>h (e.trans hk.symm))]
  ·rw[if_neg hk]
   by_cases h:g=k
   ·have hb:(g==k)=true:=beq_iff_eq.mpr h
    simp only[LR,hb,if_neg (fun e:g=f=>hk (h.symm.trans e))]
   ·have hb:(g==k)=false:=beq_eq_false_iff_ne.mpr h
    simp only[LR,hb]
    exact ih
theorem jn (f:Str)(v:V):∀fs:List (Str×V),f∈(dv f v fs).map (·.1)/\∀g,g∈fs.map (·.1)->g∈(dv f v fs).map (·.1)
 |[]=>⟨by simp[dv],fun g h=>by simp at h⟩
 |(k,x)::r=>by
  obtain⟨i1,i2⟩:=jn f v r
  rw[show dv f v ((k,x)::r)=(if k=f then(k,v)::r else(k,x)::dv f v r)from rfl]
  by_cases hk:k=f
  ·rw[if_pos hk]
   subst hk
   exact⟨by simp,fun g h=>by simpa using h⟩
  ·rw[if_neg hk]
   refine⟨?_,fun g h=>?_⟩
   ·rw[KZ]
    exact KC _ i1
   ·rw[KZ]at h⊢
    rcases KD.mp h with e|e
    ·exact KD.mpr (.inl e)
    ·exact KC _ (i2 g e)
theorem kL (f:Str)(v:V):∀fs:List (Str×V),(dv f v fs).length<=fs.length+1
 |[]=>by simp[dv]
 |(k,x)::r=>by
  have ih:=kL f v r
  rw[show dv f v ((k,x)::r)=(if k=f then(k,v)::r else(k,x)::dv f v r)from rfl]
  by_cases hk:k=f
  ·rw[if_pos hk,KH,KH];omega
  ·rw[if_neg hk,KH,KH];omega
theorem cA.some_of {v:V}{o:Option tx}(r:cA (some v) o):∃u,o=some u/\aY v u:=by
 cases o with
 |none=>exact(show False from r).elim
 |some u=>exact⟨u,rfl,r⟩
theorem cA.none_of {o:Option tx}(r:cA none o):o=none:=by
 cases o with
 |none=>rfl
 |some u=>exact(show False from r).elim
theorem vn {v:V}{u:tx}(r:aY v u):W.handedIn u=true:=by
 cases v with
 |non=>cases (show u=MB from r);rfl
 |bl b=>cases (show u=Mj b from r);rfl
 |int i=>obtain⟨t,e⟩:=(show ∃t,u=OK i t from r);cases e;rfl
 |str x=>obtain⟨t,e⟩:=(show ∃t,u=Nv x t from r);cases e;rfl
 |byt b=>obtain⟨t,e⟩:=(show ∃t,u=TF b t from r);cases e;rfl
 |flt b=>obtain⟨t,e⟩:=(show ∃t,u=Rj b t from r);cases e;rfl
 |ref a=>cases (show u=Kx a from r);rfl
 |ty n=>cases (show u=Oi n from r);rfl
section
variable {P:KI}{w:Lp}{H H':Hp}{h h':Heap}{a C dx:Addr}{fs fs':List (Str×V)}
theorem kc (hok:HOk P w H h)(e:H a=some (.ins C dx fs)):∃mA,lA h a dx C mA/\(∀f,cA (fs.lookup f) (mA f))/\OZ mA (fs.map (·.1))/\fs.length<=1000/\H dx=some (.own a):=by
 obtain⟨d,z,ne,ob,mA,n,r,q⟩:=(show bj P w H h a (.ins C dx fs)from hok a _ e)
 exact⟨mA,⟨ob,n,ne⟩,r,q,z,d⟩
end
structure Cls (K:pv)(C:Addr):Prop where
 pg:Pu K C My=true
 hd:OT K C=true
 po:Si K C=true
 sa:LI K (.ref C) "__setattr__"=some (some (.builtin "object.__setattr__"))
theorem Cls.get {K:pv}{C:Addr}(c:Cls K C)(f:Str):Pu K C f=true:=c.pg
def gw (K:pv)(C:Addr)(f:Str):Prop:=LI K (.ref C) f=some none
theorem gw.taker {K:pv}{C:Addr}{f:Str}(n:gw K C f):TB K C f=some none:=by
 unfold TB
 rw[show LI K (.ref C) f=some none from n]
 rfl
structure xX (K:pv)(C:Addr)(m:Str)(f:Addr):Prop where
 at_:LI K (.ref C) m=some (some (.ref f))
 fn:RI K (.ref f)=true
 kp:NV K (.ref f)=true
section
variable {X:Cx}{pins:List (Addr×Obj)}{σ:St}{H:Hp}{s:Km}{a C dx:Addr}{fs:List (Str×V)}{f:Str}{v:V}{A:Lh}{E:tx->Km->Prop}
theorem tm {b:Bool}{Q:tx->Km->Prop}(I:Inv X pins σ H s)(e:H a=some (.ins C dx fs))(c:Cls X.K C)(n:gw X.K C f)(l:fs.lookup f=some v)
  (h:∀u s',Inv X pins σ H s'->aY v u->Q u s'):wpAny (model X.prog X.w) A (getAttr (.ref a) f b) Q E s:=by
 obtain⟨mA,O,r,_,_,_⟩:=kc I.hok e
 obtain⟨u,hu,ru⟩:=cA.some_of (v:=v) (o:=mA f) (by rw[<-l];exact r f)
 exact AQ I.kIn O (c.get f) c.hd n hu (vn ru) (h u _ (I.tok _) ru)
theorem sQ {m:Str}{g:Addr}{pl:Sem Bool}{Q:tx×List tx->Km->Prop}(I:Inv X pins σ H s)(e:H a=some (.ins C dx fs))(c:Cls X.K C)(k:xX X.K C m g)(l:fs.lookup m=none)
  (h:Q (.ref g,[.ref a]) s):wpAny (model X.prog X.w) A (getMethod (.ref a) m pl) Q E s:=by
 obtain⟨mA,O,r,_,_,_⟩:=kc I.hok e
 have hn:mA m=none:=cA.none_of (by rw[<-l];exact r m)
 exact xq I.kIn O (c.get m) k.at_ k.fn hn h
theorem sR {y:V}{u:tx}{Q:Unit->Km->Prop}(I:Inv X pins σ H s)(e:H a=some (.ins C dx fs))(c:Cls X.K C)(n:gw X.K C f)(hl:fs.length<1000)(ry:aY y u)
  (h:∀s',Inv X pins σ (upd H a (.ins C dx (dv f y fs))) s'->Q () s'):wpAny (model X.prog X.w) A (setAttr (.ref a) f u) Q E s:=by
 obtain⟨mA,O,r,wi,_,ho⟩:=kc I.hok e
 have hz:(fs.map (·.1)).length<=sizeLine:=by rw[pz,Mi];omega
 refine Bv I.kIn O c.sa c.po n.taker c.hd wi hz fun h' O' sb=>h _ ?_
 have hd:∃o,h'.get? dx=some o:=let ⟨o,_,_,e',_⟩:=O'.ns;⟨o,e'⟩
 refine I.write (x:=a) (e:=dx) (by rw[e];exact Mc) (.inr ho) (fun b q hb z=>(sb.2 b hb).trans z) hd ?_
 refine⟨by rw[aC O.ne];exact ho,?_,O.ne,O'.obj,_,O'.ns,fun g=>?_,fun g hg=>?_⟩
 ·have:=kL f y fs;omega
 ·show cA ((dv f y fs).lookup g) (if g=f then some u else mA g)
  rw[ia]
  by_cases q:g=f
  ·rw[if_pos q,if_pos q];exact ry
  ·rw[if_neg q,if_neg q];exact r g
 ·by_cases q:g=f
  ·rw[q];exact(jn f y fs).1
  ·refine(jn f y fs).2 g (wi g fun z=>hg ?_)
   show(if g=f then some u else mA g)=none
   rw[if_neg q];exact z
theorem Inv.made (I:Inv X pins σ H s):Inv X pins σ (upd (upd H s.heap.objs.size (.own (s.heap.objs.size+1))) (s.heap.objs.size+1) (.ins C s.heap.objs.size []))
  {s with heap:=(s.heap.push Nk).push (NZ C s.heap.objs.size)}:=by
 have e1:(s.heap.push Nk).get? s.heap.objs.size=some Nk:=Kt s.heap rfl
 have e2:((s.heap.push Nk).push (NZ C s.heap.objs.size)).get? (s.heap.objs.size+1)=some (NZ C s.heap.objs.size):=by
  have:=Kt (s.heap.push Nk) (o:=NZ C s.heap.objs.size) rfl
  rwa [MA]at this
 have e3:(s.heap.push Nk).Ns s.heap.objs.size (fun _=>none):=⟨Nk,#[],_,e1,rfl,(fun e he=>absurd he (by simp)),fun _=>rfl⟩
 have I1:=I.laid (a:=s.heap.objs.size) (o:=.own (s.heap.objs.size+1)) (h':=s.heap.push Nk) (t':=s.toks) (fun b u q=>gV _ q) (Gt _) ⟨_,e1⟩
 refine I1.laid (a:=s.heap.objs.size+1) (o:=.ins C s.heap.objs.size []) (t':=s.toks) (fun b u q=>gV _ q) (Oq (MA _ _)) ?_
 have ne:s.heap.objs.size≠s.heap.objs.size+1:=KQ (Mg _)
 refine⟨by rw[aC ne,au],KS _,ne,e2,fun _=>none,(QU e3).at fun o q=>gV _ q,fun _=>Mc,fun y hy=>absurd rfl hy⟩
theorem AO {prog:KI}{w:Lp}{env:Env}{e:Expr}{f:Str}{pos:Pos}{s:Km}{Q:tx->Km->Prop}(hb:attributeBase e f env (eval e env)=eval e env)
  (h:wpAny (model prog w) A (eval e env) (fun o s₁=>wpAny (model prog w) A (getAttr o f true) Q E s₁) E s):wpAny (model prog w) A (eval (.Attribute e f pos) env) Q E s:=
 Attribute_any_ h (by rw[arm_eval_Attribute,hb])
end
def mC (K:pv)(ta:TE)(f:Str):TE:=fun σ H Q=>ta σ H fun x H1=>∃a C dx fs v,x=.ref a/\H1 a=some (.ins C dx fs)/\Cls K C/\gw K C f/\fs.lookup f=some v/\Q v H1
def xI (K:pv)(ta tv:TE)(f:Str):TS:=fun D σ H=>tv σ H fun y H1=>ta σ H1 fun x H2=>∃a C dx fs,x=.ref a/\H2 a=some (.ins C dx fs)/\Cls K C/\gw K C f/\fs.length<1000/\
 D.nx σ (upd H2 a (.ins C dx (dv f y fs)))
section
variable {X:Cx}{o e value:Expr}{f:Str}{pos pos' tpos:Pos}{ta tv:TE}
theorem DA (he:PE X e ta)(hb:attributeBase e f X.env (eval e X.env)=eval e X.env):PE X (.Attribute e f pos) (mC X.K ta f):=by
 intro pins s σ H Q I h
 refine AO hb (thn (he pins s σ H _ I h) fun u s1 ⟨x,H1,I1,rx,a,C,dx,fs,v,ex,ea,c,n,l,q⟩=>?_)
 subst ex
 obtain rfl:u=Kx a:=rx
 exact tm I1 ea c n l fun u' s2 I2 ru=>⟨v,H1,I2,ru,q⟩
theorem DR (ha:PE X o ta)(hv:PE X value tv)(hs:swapsWith value (some (.Attribute o f pos')) pos.line X.env=pure false):PS X (.Assign [.Attribute o f pos'] value pos) (xI X.K ta tv f):=by
 intro pins s σ H D I h
 refine PV (thn (hv pins s σ H _ I h) fun u s1 ⟨y,H1,I1,ry,q⟩=>thn (ha pins s1 σ H1 _ I1 q) fun ov s2 ⟨x,H2,I2,rx,a,C,dx,fs,ex,ea,c,n,l,q2⟩=>?_) hs
 subst ex
 obtain rfl:ov=Kx a:=rx
 exact sR I2 ea c n l ry fun s3 I3=>⟨σ,_,I3,q2⟩
end
section
variable {X:Cx}{pins:List (Addr×Obj)}{σ:St}{H:Hp}{s:Km}{A:Lh}{E:tx->Km->Prop}{Q:tx->Km->Prop}{c:tx}{b:Bool}
inductive fv (K:pv)(H:Hp):V->tx->Prop where
 |non:fv K H .non (.type "NoneType")
 |bl (x:Bool):fv K H (.bl x) (.type "bool")
 |int (i:Int):fv K H (.int i) (.type "int")
 |str (x:Str):fv K H (.str x) (.type "str")
 |flt (x:UInt64):fv K H (.flt x) (.type "float")
 |lst {a:Addr} {xs:List V} (e:H a=some (.lst xs)):fv K H (.ref a) (.type "list")
 |frz {a:Addr} {o:Obj} {xs:List V} (e:H a=some (.frz o (.lst xs))):fv K H (.ref a) (.type "list")
 |tup {a:Addr} {xs:List V} (e:H a=some (.tup xs)):fv K H (.ref a) (.type "tuple")
 |dK {a:Addr} {kvs:List (Key×V)} (e:H a=some (.dK kvs)):fv K H (.ref a) (.type "dict")
 |dT {a:Addr} {kvs:List (List Key×V)} (e:H a=some (.dT kvs)):fv K H (.ref a) (.type "dict")
 |ins {a C dx:Addr} {fs:List (Str×V)} (e:H a=some (.ins C dx fs)) (cl:Cls K C) (ha:LI K (.ref C) "__class__"=some (some (.builtin "object.__class__")))
  (hn:W.specialIn K (.builtin "object.__class__") "__get__"=some (some (.builtin "getset_descriptor.__get__"))) (htk:W.takesIn K (.builtin "object.__class__")=some true)
  (hm:Pw K C (.type "object")=some true):fv K H (.ref a) (.ref C)
theorem uU {x:V}{u t:tx}(I:Inv X pins σ H s)(rx:aY x u)(ty:fv X.K H x t)(e:W.kitOne X.K t c=some b)(h:∀tk,Q (.bool b) {s with toks:=tk}):
  wpAny (model X.prog X.w) A (call (.builtin "isinstance") [u,c]) Q E s:=by
 cases ty with
 |non=>cases (show u=MB from rx);exact Nq W.kitx_none I.kIn Mc e (fun z=>nomatch z) h
 |bl y=>cases (show u=Mj y from rx);exact Nq W.kitx_bool I.kIn Mc e (fun z=>nomatch z) h
 |int i=>obtain⟨t,q⟩:=(show ∃t,u=OK i t from rx);cases q;exact Nq W.kitx_int I.kIn Mc e (fun z=>nomatch z) h
 |str y=>obtain⟨t,q⟩:=(show ∃t,u=Nv y t from rx);cases q;exact Nq W.kitx_str I.kIn Mc e (fun z=>nomatch z) h
 |flt y=>obtain⟨t,q⟩:=(show ∃t,u=Rj y t from rx);cases q;exact Nq W.kitx_float I.kIn Mc e (fun z=>nomatch z) h
 | @lst a xs ea=>
   cases (show u=Kx a from rx)
   obtain⟨_,_,n,_,h1⟩:=(show bj X.prog X.w H s.heap a (.lst xs)from I.hok a _ ea)
   exact Nq W.kitx_list I.kIn ⟨_,h1,rfl⟩ e (fun z=>nomatch z) h
 | @frz a ob xs ea=>
   cases (show u=Kx a from rx)
   obtain⟨_,_,_,n,_,h1⟩:=(show bj X.prog X.w H s.heap a (.frz ob (.lst xs))from I.hok a _ ea)
   exact Nq W.kitx_list I.kIn ⟨_,h1,rfl⟩ e (fun z=>nomatch z) h
 | @tup a xs ea=>
   cases (show u=Kx a from rx)
   obtain⟨_,_,_,p⟩:=(show bj X.prog X.w H s.heap a (.tup xs)from I.hok a _ ea)
   obtain⟨o,h1,h2,_⟩:=p
   exact Nq W.kitx_tuple I.kIn ⟨o,h1,h2⟩ e (fun z=>nomatch z) h
 | @dK a kvs ea=>
   cases (show u=Kx a from rx)
   obtain⟨_,_,vs,_,p⟩:=(show bj X.prog X.w H s.heap a (.dK kvs)from I.hok a _ ea)
   obtain⟨o,es,ep,h1,h2,_⟩:=p
   exact Nq W.kitx_dict I.kIn ⟨o,h1,h2.1⟩ e (fun z=>nomatch z) h
 | @dT a kvs ea=>
   cases (show u=Kx a from rx)
   obtain⟨_,_,xs,_,o,es,ep,h1,h2,_⟩:=(show bj X.prog X.w H s.heap a (.dT kvs)from I.hok a _ ea)
   exact Nq W.kitx_dict I.kIn ⟨o,h1,h2.1⟩ e (fun z=>nomatch z) h
 | @ins a C dx fs ea cl ha hn htk hm=>
   cases (show u=Kx a from rx)
   obtain⟨mA,O,_⟩:=kc I.hok ea
   obtain⟨od,J,_⟩:=O.look
   exact Nq (W.kitx_own (cl.get _) cl.hd ha hn htk hm) I.kIn J e (fun z=>nomatch z) h
end
structure bu (k:Nat)(A:Lh):Prop where
 hd:A.handled=none
 dp:A.depth+3*k+5<recursionLimit
 un:A.units+16*k+200<cLine
theorem bu.mono {j k:Nat}{A:Lh}(r:bu k A)(h:j<=k):bu j A:=⟨r.hd,by have:=r.dp;omega,by have:=r.un;omega⟩
theorem bu.deeper {k:Nat}{A:Lh}(r:bu (k+1) A)(env:Env):bu k (A.deeper env):=
 ⟨r.hd,by have:=r.dp;show A.depth+1+3*k+5<_;omega,by have:=r.un;show A.units+3+16*k+200<_;omega⟩
theorem uF {A:Lh}{C:Addr}{us:List tx}{kw:List (Str×tx)}:(A.under (.builtin "type.__call__" ⟨.ref C::us,kw⟩)).depth=A.depth+1:=by
 first|rfl|simp[Qv,Code.weight,Code.isCreation,Code.isGuard,Code.isCaller,Code.frames,QX,guardIds]
theorem uN {A:Lh}{C:Addr}{us:List tx}{kw:List (Str×tx)}:(A.under (.builtin "type.__call__" ⟨.ref C::us,kw⟩)).units=A.units+1:=by
 first|rfl|simp[Qv,Code.cUnits,Code.frames,QX]
theorem bu.make {k:Nat}{A:Lh}(r:bu (k+1) A)(C:Addr)(us:List tx)(kw:List (Str×tx)):bu k (A.under (.builtin "type.__call__" ⟨.ref C::us,kw⟩)):=
 ⟨r.hd,by have:=r.dp;rw[uF];omega,by have:=r.un;rw[uN];omega⟩
theorem bu.depth {k:Nat}{A:Lh}(r:bu k A):A.depth<recursionLimit:=by have:=r.dp;omega
def av:TA:=fun _ H Q=>Q [] H
def ai (ta:TE)(tr:TA):TA:=fun σ H Q=>ta σ H fun x H1=>tr σ H1 fun xs H2=>Q (x::xs) H2
section
variable {X:Cx}{e:Expr}{es:List Expr}{te:TE}{t:TA}{pos:Pos}
theorem Dk:PA X [] av:=fun _ _ _ _ H Q I h=>OV ⟨[],H,I,.nil,h⟩
theorem AS (ha:PE X e te)(hr:PA X es t)(hs:starEach (e::es) X.env=(false,eval e X.env)::starEach es X.env:=by rfl):PA X (e::es) (ai te t):=by
 intro pos pins s σ H Q I h
 rw[hs]
 show wpAny _ _ (spliced ((false,eval e X.env)::backTo pos (starEach es X.env))) _ _ s
 refine OL (thn (ha pins s σ H _ I h) fun u s1 ⟨x,H1,I1,r1,q1⟩=>?_)
 exact thn (hr pos pins s1 σ H1 _ I1 q1) fun us s2 ⟨xs,H2,I2,r2,q2⟩=>⟨x::xs,H2,I2,.cons r1 r2,q2⟩
def bF (t:TA):TE:=fun σ H Q=>t σ H fun xs H1=>xs.length<=sizeLine/\∀p,H1 p=none->Q (.ref p) (upd H1 p (.tup xs))
def cV (t:TA):TE:=fun σ H Q=>t σ H fun xs H1=>xs.length<=sizeLine/\∀p,H1 p=none->Q (.ref p) (upd H1 p (.lst xs))
theorem Cp {x1}(h:PA X es t):PE X (.Tuple es x1 pos) (bF t):=by
 intro pins s σ H Q I hq
 refine wpAny_Tuple_spliced (thn (h pos pins s σ H _ I hq) fun us s1 ⟨xs,H1,I1,r,z,q⟩=>⟨by rw[<-r.length];exact z,?_⟩)
 have hf:H1 s1.heap.objs.size=none:=I1.hok.fresh (Gt _)
 refine⟨.ref s1.heap.objs.size,upd H1 s1.heap.objs.size (.tup xs),I1.laid (t':=s1.toks) (fun b u e=>gV _ e) (Gt _) ?_,rfl,q _ hf⟩
 exact⟨z,us,r,⟨_,Kt _ rfl,rfl,_,rfl⟩⟩
theorem Et (h:PA X es t):PE X (.List es pos) (cV t):=by
 intro pins s σ H Q I hq
 refine wpAny_List_spliced (thn (h pos pins s σ H _ I hq) fun us s1 ⟨xs,H1,I1,r,z,q⟩=>⟨by rw[<-r.length];exact z,?_⟩)
 have hf:H1 s1.heap.objs.size=none:=I1.hok.fresh (Gt _)
 refine⟨.ref s1.heap.objs.size,upd H1 s1.heap.objs.size (.lst xs),I1.laid (t':=s1.toks) (fun b u e=>gV _ e) (Gt _) ?_,rfl,q _ hf⟩
 exact⟨z,us,0,r,Kt _ rfl⟩
end
abbrev Sp:=List V->Hp->VK->XK->Prop
abbrev CXT:=List Env->Hp->Km->XK->tx->Km->Prop
structure iY (P:KI)(w:Lp)(K:pv)(mg:Str->Option tx)(base:Heap)(A:Lh)(outer:List Env)(s:Km)(H:Hp):Prop where
 frames:A.frames=some outer
 mod:Mod K mg base
 bs:∀b o,base.get? b=some o->s.heap.get? b=some o/\H b=none
 bsz:base.objs.size<=s.heap.objs.size
 funs:s.heap.FunFrames base outer
 frf:∀b∈frs outer,H b=none
 hok:HOk P w H s.heap
 bare:Oo s.gens
def CE (outer:List Env)(P:KI)(w:Lp)(H:Hp)(s:Km)(Q:VK)(u:tx)(s':Km):Prop:=
 ∃v H',s'.os=s.os/\Oo s'.gens/\Un (frs outer) [] H H' s.heap s'.heap/\HOk P w H' s'.heap/\aY v u/\Q v H'
def CR (CX:CXT)(outer:List Env)(P:KI)(w:Lp)(H:Hp)(s:Km)(Q:VK)(E:XK)(r:Py)(s':Km):Prop:=
 match r with
 |.ok (.ret u)=>CE outer P w H s Q u s'
 |.ok _=>False
 |.error e=>CX outer H s E e s'
structure aV (P:KI)(w:Lp)(K:pv)(mg:Str->Option tx)(base:Heap)(CX:CXT)(k:Nat)(f:Addr)(fd:Kz)(ps:List Str)(sp:Sp):Prop where
 len:∀vs H Q E,sp vs H Q E->vs.length=ps.length
 run:∀(A:Lh)(outer:List Env)(s:Km)(H:Hp)(args:Args)(us:List tx)(vs:List V)(Q:VK)(E:XK),bu k A->iY P w K mg base A outer s H->RL s fd args (ps.zip us)->bc vs us->sp vs H Q E->
  codeAny (model P w) A (.call (.ref f) args) (CR CX outer P w H s Q E) s
theorem iY.make {P:KI}{w:Lp}{K:pv}{mg:Str->Option tx}{base:Heap}{A:Lh}{outer:List Env}{s:Km}{H:Hp}(e:iY P w K mg base A outer s H)(C:Addr)(us:List tx)(kw:List (Str×tx)):
 iY P w K mg base (A.under (.builtin "type.__call__" ⟨.ref C::us,kw⟩)) outer s H:=⟨by first|exact e.frames|(simpa[Qv,Code.envs,QX,pushEnvs]using e.frames),e.mod,e.bs,e.bsz,e.funs,e.frf,e.hok,e.bare⟩
section
variable {X:Cx}{pins:List (Addr×Obj)}{σ:St}{H:Hp}{s s':Km}
theorem Inv.env0 (I:Inv X pins σ H s):iY X.prog X.w X.K X.mg X.base X.A X.stack s H:=
 ⟨I.ok.frames,I.ok.mod,I.bs,KN I.ok.bsz I.sz,I.stack,I.stkFree,I.hok,I.bare⟩
theorem Inv.after {Q:VK}{u:tx}(I:Inv X pins σ H s)(h:CE X.stack X.prog X.w H s Q u s'):EP X pins σ Q u s':=by
 obtain⟨v,H',os,bare,un,hok,r,q⟩:=h
 obtain⟨hh,g,d,t,os'⟩:=s'
 obtain rfl:os'=s.os:=os
 exact⟨v,H',I.call (h':=hh) (g':=g) (d':=d) (t':=t) (ch:=[]) un hok bare (fun b z=>absurd z (by simp)),r,q⟩
end
def cy (K:pv)(fd:Kz)(ps:List Str)(ds:List tx):Prop:=
 ∀(s:Km)(us:List tx),K.In s.heap->(us++ds).length=ps.length->RL s fd ⟨us,[]⟩ (ps.zip (us++ds))
theorem cy.all {K:pv}{fd:Kz}{ps:List Str}(h:∀us:List tx,us.length=ps.length->bindArgs fd ⟨us,[]⟩=pure (ps.zip us)):cy K fd ps []:=fun s us _ hl=>by
 rw[Ly]at hl⊢
 exact .of_eq (h us hl)
section
variable {X:Cx}{CX:CXT}{k:Nat}{f C:Addr}{fd:Kz}{ps:List Str}{sp:Sp}{dvs:List V}{ds:List tx}{E:XK}{x m:Str}{p pos apos:Pos}{e o:Expr}{es:List Expr}{ta:TE}{t:TA}
structure Mk (K:pv)(C f:Addr):Prop where
 makes:TC K C=true
 init:LI K (.ref C) "__init__"=some (some (.ref f))
 fn:RI K (.ref f)=true
 kp:NV K (.ref C)=true
end
def PK (X:Cx)(kws:List Keyword)(t:TA):Prop:=
 ∀(pos:Pos)(pins:List (Addr×Obj))(s:Km)(σ:St)(H:Hp)(Q:List V->Hp->Prop),Inv X pins σ H s->t σ H Q->wpAny (model X.prog X.w) X.A (evalAll ((backToKw pos (keywordEach kws X.env)).map (·.2))) (AP X pins σ Q) X.xe s
structure aN (N P:List Str)(sc:Scope):Prop where
 kind:sc.kind=.function
 co:sc.isCoroutine=false
 gen:sc.isGenerator=false
 nd:N.Nodup
 pre:N.take P.length=P
 par:∀x∈P,sc.names.lookup x=some .local\/sc.names.lookup x=some .cell
 nofree:∀y∈sc.names,y.2≠.free
theorem nU {kindOf:Str->Option MI}{x:Str}:∀{binds:List (Str×tx)}{m:Str->Option tx},(∀v,(x,v)∉binds)->bindL kindOf binds m x=m x
 |[],_,_=>rfl
 |(n,v)::r,m,h=>by
  unfold bindL
  rw[nU fun w hw=>h w (KC _ hw)]
  split
  ·have:x≠n:=by rintro rfl;exact h v KY
   simp[this]
  ·rfl
theorem oz {kindOf:Str->Option MI}{x:Str}:∀{binds:List (Str×tx)}{m:Str->Option tx},(∀v,(x,v)∉binds)->bindC kindOf binds m x=m x
 |[],_,_=>rfl
 |(n,v)::r,m,h=>by
  unfold bindC
  rw[oz fun w hw=>h w (KC _ hw)]
  split
  ·rfl
  ·have:x≠n:=by rintro rfl;exact h v KY
   simp[this]
theorem oa {kindOf:Str->Option MI}{x:Str}{v:tx}:∀{P:List Str}{vs:List tx}{i:Nat}{m:Str->Option tx},P.Nodup->P[i]? =some x->vs[i]? =some v->kindOf x=some .local->
  bindL kindOf (P.zip vs) m x=some v
 |[],_,_,_,_,h,_,_=>by simp at h
 |_::_,[],_,_,_,_,h,_=>by simp at h
 |p::P,w::vs,0,m,nd,h1,h2,hk=>by
  simp at h1 h2;subst h1;subst h2
  show bindL kindOf ((p,w)::P.zip vs) m p=_
  unfold bindL
  rw[nU fun v hv=>(LW.mp nd).1 (Mp hv).1,if_pos hk]
  simp
 |p::P,w::vs,i+1,m,nd,h1,h2,hk=>by
  show bindL kindOf ((p,w)::P.zip vs) m x=_
  unfold bindL
  exact oa (i:=i) (LW.mp nd).2 (by simpa using h1) (by simpa using h2) hk
theorem nH {kindOf:Str->Option MI}{x:Str}{v:tx}:∀{P:List Str}{vs:List tx}{i:Nat}{m:Str->Option tx},P.Nodup->P[i]? =some x->vs[i]? =some v->kindOf x≠some .local->
  bindC kindOf (P.zip vs) m x=some v
 |[],_,_,_,_,h,_,_=>by simp at h
 |_::_,[],_,_,_,_,h,_=>by simp at h
 |p::P,w::vs,0,m,nd,h1,h2,hk=>by
  simp at h1 h2;subst h1;subst h2
  show bindC kindOf ((p,w)::P.zip vs) m p=_
  unfold bindC
  rw[oz fun v hv=>(LW.mp nd).1 (Mp hv).1,if_neg hk]
  simp
 |p::P,w::vs,i+1,m,nd,h1,h2,hk=>by
  show bindC kindOf ((p,w)::P.zip vs) m x=_
  unfold bindC
  exact nH (i:=i) (LW.mp nd).2 (by simpa using h1) (by simpa using h2) hk
def start (N:List Str)(vs:List V):St:=vs.map some++Qj (N.length- vs.length) none
def dq (CX:CXT)(P:KI)(w:Lp)(K:pv)(mg:Str->Option tx)(base:Heap)(N:List Str)(qual:Str)(scope:Scope)(f:Addr)(cd:tx)(A:Lh)(outer:List Env)(s:Km)(H:Hp)(E:XK):Cx where
 prog:=P
 w:=w
 K:=K
 mg:=mg
 base:=base
 A:=A.deeper (envOfC qual scope s.heap.objs.size f cd)
 N:=N
 s₀:=s
 H₀:=H
 env:=envOfC qual scope s.heap.objs.size f cd
 outer:=outer
 stack:=envOfC qual scope s.heap.objs.size f cd::outer
 ex:=[]
 calm:=true
 fn:=fun _=>true
 pn:=[]
 xe:=fun e s'=>wpAny (model P w) (A.deeper (envOfC qual scope s.heap.objs.size f cd)) (leaving (envOfC qual scope s.heap.objs.size f cd) e) (fun _ s''=>CX outer H s E e s'') (fun e' s''=>CX outer H s E e' s'') s'
theorem qm {sc:Scope}{n:Nat}{x:Str}(h:sc.names.lookup x=some .cell):∃c,(cellsFrom n sc.names []).lookup x=some c:=by
 have q:=PX sc.names n [] (.inl h)
 exact Lk.mp q
theorem oF {CX:CXT}{P:KI}{w:Lp}{K:pv}{mg:Str->Option tx}{base:Heap}{N ps:List Str}{qual:Str}{scope:Scope}{f:Addr}{cd:tx}{A:Lh}{outer:List Env}{s s1:Km}{H:Hp}{E:XK}{us:List tx}{vs:List V}
  (S:aN N ps scope)(hd:A.handled=none)(e0:iY P w K mg base A outer s H)(hl:vs.length=ps.length)(r:bc vs us)
  (x:InCallC s s.heap.objs.size (bindL (envOfC qual scope s.heap.objs.size f cd).kindOf (ps.zip us) fun _=>none) (cellsFrom (s.heap.objs.size+1) scope.names []) (bindC (envOfC qual scope s.heap.objs.size f cd).kindOf (ps.zip us) fun _=>none) s1):
  Inv (dq CX P w K mg base N qual scope f cd A outer s H E) [] (start N vs) H s1:=by
 have hpl:ps.length<=N.length:=by have:=congrArg PP S.pre;rw[Mu]at this;omega
 obtain⟨h1,tk,rfl,hk⟩:=x.done
 have noA:∀b:Addr,b∉(dq CX P w K mg base N qual scope f cd A outer s H E).ex:=fun b z=>absurd (show b∈([]:List Addr)from z) (by simp)
 refine⟨⟨e0.mod,S.kind,rfl,rfl,Gt _,fun y z c h1 h2=>?_,fun y hy=>?_,fun y c _ h=>?_,fun _=>hd,QK e0.frames,.inr ⟨rfl,rfl⟩,fun b z=>absurd z (noA b),e0.bs,e0.bsz,fun b _ _=>noA b,fun b z=>absurd z (noA b),e0.funs,e0.frf⟩,
  rfl,e0.bare,Un.kept hk,⟨_,x.toInCall.ns,fun i y v h1 h2 h3=>?_⟩,fun y c h=>⟨_,x.cell y c h⟩,e0.hok.fresh (Gt _),fun y c h=>?_,fun p hp=>absurd (show p∈([]:List (Addr×Obj))from hp) (by simp),e0.hok.kept hk,?_⟩
 ·exact name_of_addr x.apart (LQ h1) (LQ h2)
 ·have hy:scope.names.lookup y=some .cell\/scope.names.lookup y=some .free:=hy
  rcases hy with hy|hy
  ·exact qm hy
  ·exact absurd rfl (S.nofree _ (LQ hy))
 ·exact Mb (x.above y c (LQ h))
 ·have hi:i<vs.length:=by
   unfold start at h2
   by_cases hi:i<vs.length
   ·exact hi
   ·rw[KR (by simpa using hi)]at h2
    rw[Qz]at h2
    split at h2<;>cases h2
  have ha:vs[i]?=some v:=by
   unfold start at h2
   rw[KW (by simpa using hi),KL]at h2
   cases e:vs[i]? with
   |none=>rw[e]at h2;cases h2
   |some a=>rw[e]at h2;cases h2;rfl
  obtain⟨u,hu,rv⟩:=r.get ha
  have hp:ps[i]?=some y:=by
   rw[<-S.pre,ME (by omega)];exact h1
  have ndP:ps.Nodup:=by rw[<-S.pre];exact S.nd.sublist (RY _ _)
  refine⟨u,rv,?_⟩
  rcases S.par y (KJ hp)with k|k
  ·exact .inl ⟨k,oa ndP hp hu k⟩
  ·obtain⟨c,e⟩:=qm (n:=s.heap.objs.size+1) k
   refine .inr ⟨.inl k,c,e,?_⟩
   have q:=x.cell y c e
   rw[nH ndP hp hu (by show scope.names.lookup y≠_;rw[k];decide)]at q
   exact q
 ·exact e0.hok.fresh (Mb (x.above y c (LQ h)))
 ·unfold start
  show _=N.length
  rw[Kn,pz,Oj]
  omega
theorem Am {CX:CXT}{P:KI}{w:Lp}{K:pv}{mg:Str->Option tx}{base:Heap}{k:Nat}{f:Addr}{name qual:Str}{params:Arguments}{body:List Stmt}{scope:Scope}{dV kV doc pm cdv ct oc:tx}{an od:Option Addr}
  {osl:Array (Option tx)}{N ps:List Str}{sp:Sp}(lk:K.lookup f=some ⟨oc,od,.func (Na name qual params body scope dV kV doc pm an cdv ct),osl⟩)(hcd:SI K cdv qual=true)(S:aN N ps scope)
  (len:∀vs H Q E,sp vs H Q E->vs.length=ps.length)
  (hbody:∀(A:Lh)(outer:List Env)(s:Km)(H:Hp)(vs:List V)(Q:VK)(E:XK),bu k (A.deeper (envOfC qual scope s.heap.objs.size f cdv))->sp vs H Q E->
   ∃t,PSs (dq CX P w K mg base N qual scope f cdv A outer s H E) body t/\t {nx:=fun _ H'=>Q .non H',rt:=Q} (start N vs) H):
  aV P w K mg base CX (k+1) f (Na name qual params body scope dV kV doc pm an cdv ct) ps sp:=by
 refine⟨len,fun A outer s H args us vs Q E hr e0 hb r hsp=>?_⟩
 have hl:=len _ _ _ _ hsp
 have KX:K.In s.heap:=e0.mod.kin.keeps fun b o e=>(e0.bs b o e).1
 have lim:s.heap.NoLimit:=e0.mod.nolimit.keeps fun b o e=>(e0.bs b o e).1
 have hkind:∀y∈ps.zip us,scope.names.lookup y.1=some .local\/(scope.names.lookup y.1=some .cell/\((cellsFrom (s.heap.objs.size+1) scope.names []).lookup y.1).isSome=true):=fun⟨n,v⟩ hy=>by
  rcases S.par n (Mp hy).1 with q|q
  ·exact .inl q
  ·exact .inr ⟨q,PX _ _ _ (.inl q)⟩
 refine OI hr.depth (KX _ _ lk) rfl S.co S.gen rfl (W.codeRec_of KX hcd) (hb _ _ _ _ ?_)
 refine QR S.kind hkind fun env he s1 x=>?_
 subst he
 refine⟨lim.keeps x.toInCall.keep,Sh ?_⟩
 obtain⟨t,ht,hq⟩:=hbody A outer s H vs Q E (hr.deeper _) hsp
 have I:Inv (dq CX P w K mg base N qual scope f cdv A outer s H E) [] (start N vs) H s1:=oF S hr.hd e0 hl r x
 refine KU (ht [] s1 (start N vs) H _ I hq) (fun fl s' hs=>?_) fun e s' hs=>hs
 have fin:∀{σ':St}{H':Hp}{v:V}{u:tx},Inv (dq CX P w K mg base N qual scope f cdv A outer s H E) [] σ' H' s'->aY v u->Q v H'->CE outer P w H s Q u s':=
  fun{σ' H' v u} J rv q=>⟨v,H',J.os,J.bare,J.base,J.hok,rv,q⟩
 cases fl with
 |ret u=>
  obtain⟨v,σ',H',J,rv,q⟩:=hs
  exact fin J rv q
 |next=>
  obtain⟨σ',H',J,q⟩:=hs
  exact fin (v:=V.non) (u:=MB) J rfl q
 |brk=>
  obtain⟨_,_,_,q⟩:=hs
  exact Ll q
 |cont=>
  obtain⟨_,_,_,q⟩:=hs
  exact Ll q
section
variable {X:Cx}{x:Str}{p pos:Pos}{e:Expr}{es:List Expr}{t:TA}{id T:String}{r:List V->Hp->VK->Prop}
def tCB (r:List V->Hp->VK->Prop)(t:TA):TE:=fun σ H Q=>t σ H fun vs H1=>r vs H1 Q
theorem yO (hc:ck X (.builtin id) r)(hg:Gl X x)(hm:X.mg x=none)(hv:bootBuiltins x=some (.builtin id))(ha:PA X (e::es) t)(hn:x≠"__name__":=by decide)(hdb:(x==("__debug__":Str))=false:=by decide)
  (he:starEach (e::es) X.env=(false,eval e X.env)::starEach es X.env:=by rfl)(hpl:(backTo pos (starEach es X.env)).any (·.1)=false:=by rfl):PE X (.Call (.Name x p) (e::es) [] pos) (tCB r t):=by
 intro pins s σ H Q I h
 refine Lx (eI I hg hm hv ?_ hn hdb)
 exact PyProof.Rows.callWith_builtin1 (thn (ha pos pins s σ H _ I h) fun us s1 ⟨vs,H1,I1,r1,q1⟩=>hc pins s1 σ H1 vs us Q I1 r1 q1) he hpl
theorem vR (hc:ck X (.type T) r)(hg:Gl X x)(hm:X.mg x=none)(hv:bootBuiltins x=some (.type T))(ha:PA X (e::es) t)(hn:x≠"__name__":=by decide)(hdb:(x==("__debug__":Str))=false:=by decide)
  (he:starEach (e::es) X.env=(false,eval e X.env)::starEach es X.env:=by rfl)(hpl:(backTo pos (starEach es X.env)).any (·.1)=false:=by rfl):PE X (.Call (.Name x p) (e::es) [] pos) (tCB r t):=by
 intro pins s σ H Q I h
 refine Lx (eI I hg hm hv ?_ hn hdb)
 exact Ls (thn (ha pos pins s σ H _ I h) fun us s1 ⟨vs,H1,I1,r1,q1⟩=>hc pins s1 σ H1 vs us Q I1 r1 q1) he hpl
end
end L2
namespace HT
open PySem PyProof.Rows
section
open PySem.SeqAt
open PySem.AutoSeq1 (wpAny_loadPart')
open PySem.MeetsSeq PySem.MeetsSeq2 PySem.MeetsSeq3
end
section
variable {prog:KI}{w:Lp}{A:Lh}{E:tx->Km->Prop}{s:Km}
theorem Bk {t b:Addr}{vs ws:List tx}{Q:tx->Km->Prop}(ht:QL s.heap t vs.toArray)(hb:QL s.heap b ws.toArray)(hv:vs≠[])
  (h1:ws=[]->Q (.ref t) s)(h2:ws≠[]->Q (.ref s.heap.objs.size) {s with heap:=s.heap.push {cls:=.type "tuple",data:=.seq (vs++ws).toArray}})
  (hsz:vs.length+ws.length<=sizeLine):wpAny (model prog w) A (binaryOp .Add (.ref t) (.ref b)) Q E s:=by
 obtain⟨⟨cls,dd,data,sl⟩,ho,hc,n,hd⟩:=id ht
 obtain⟨⟨cls2,dd2,data2,sl2⟩,ho2,hc2,n2,hd2⟩:=id hb
 simp only at hc hd hc2 hd2
 subst hc hd hc2 hd2
 have e:vs.toArray++ws.toArray=(vs++ws).toArray:=by simp
 by_cases hw:ws=[]
 ·exact Sg ⟨_,ho,rfl⟩ ⟨_,ho2,rfl⟩ Qo RF NX NU (NO _ _)
   (tuple_addW1 t b vs.toArray ws.toArray n n2 dd dd2 sl sl2 (by simpa using hv) (by simp[hw])) ⟨ho,ho2,h1 hw⟩
 ·refine Sg ⟨_,ho,rfl⟩ ⟨_,ho2,rfl⟩ Qo RF NX NU (NO _ _)
   (tuple_addW2 t b vs.toArray ws.toArray n n2 dd dd2 sl sl2 (by simpa using hv) (by simpa using hw) (by rw[Ks,Ks];exact hsz)) ⟨ho,ho2,?_⟩
  rw[e]
  exact h2 hw
def sIx (n d:Nat):Option Int->Nat
 |none=>d
 |some v=>if v<0 then(v+(n:Int)).toNat else min v.toNat n
theorem kT (n d:Nat):sIx n d none=d:=rfl
theorem rY (n d k:Nat):sIx n d (some (k:Int))=min k n:=by
 show(if (k:Int)<0 then((k:Int)+(n:Int)).toNat else min (k:Int).toNat n)=min k n
 rw[if_neg (by omega),Nx]
theorem Ey (n d:Nat)(hd:d<=n)(o:Option Int):sIx n d o<=n:=by
 cases o with
 |none=>exact hd
 |some v=>
  show(if v<0 then(v+(n:Int)).toNat else min v.toNat n)<=n
  by_cases hv:v<0
  ·rw[if_pos hv];omega
  ·rw[if_neg hv];exact SM _ _
theorem sw (v:Int)(n d:Nat):(if v<0 then max (v+(n:Int)) 0 else min v (n:Int))=((sIx n d (some v):Nat):Int):=by
 show(if v<0 then max (v+(n:Int)) 0 else min v (n:Int))=(((if v<0 then(v+(n:Int)).toNat else min v.toNat n):Nat):Int)
 by_cases hv:v<0
 ·simp only[if_pos hv];omega
 ·simp only[if_neg hv];omega
theorem uk (lo hi:Option Int)(n:Nat):Ny lo hi 1 (n:Int)=(((sIx n 0 lo:Nat):Int),((sIx n n hi:Nat):Int)):=by
 have h1:¬((1:Int)<0):=by omega
 unfold Ny
 simp only[h1,if_false]
 refine Tn ?_ ?_
 ·cases lo with
  |none=>rfl
  |some v=>exact sw v n 0
 ·cases hi with
  |none=>rfl
  |some v=>exact sw v n n
theorem uP (i j:Nat):MR (i:Int) (j:Int) 1=j- i:=by
 unfold MR
 have h1:(1:Int)>0:=by omega
 simp only[h1,if_true,Int.ediv_one]
 split<;>omega
theorem ma {v:tx}{o:Option Int}{Q:Option Int->Km->Prop}(p:Qe v o)(h:Q o s):wpAny (model prog w) A (Uc v) Q E s:=by
 cases p with
 |none=>exact slicePart_none h
 |int i t=>exact slicePart_int h
theorem gm {sl:Addr}{vl vu:tx}{lo hi:Option Int}{n:Nat}{Q:Int×Int×Nat->Km->Prop}(hs:s.heap.IsSliceOf sl vl vu .none)(pl:Qe vl lo)(pu:Qe vu hi)
  (h:Q (((sIx n 0 lo:Nat):Int),1,sIx n n hi- sIx n 0 lo) s):wpAny (model prog w) A (OE (.ref sl) (pure (n:Int))) Q E s:=by
 obtain⟨os,hos,hcs,hds⟩:=id hs
 unfold OE Ud
 refine cW (cW (Lf hos hds (x:=vl) rfl (cW (Lf hos hds (x:=vu) rfl (cW (Lf hos hds (x:=.none) rfl (Ko ?_)))))))
 refine cW (slicePart_none ?_)
 show wpAny _ _ (if ((1:Int)==0)=true then _ else _) _ _ s
 rw[if_neg (by decide)]
 refine cW (ma pl (cW (ma pu (cW (Ko ?_)))))
 show wpAny _ _ (match Ny lo hi 1 (n:Int)with|(lo,hi)=>pure (lo,(1:Int),MR lo hi 1)) _ _ s
 rw[uk lo hi n]
 show wpAny _ _ (pure (((sIx n 0 lo:Nat):Int),(1:Int),MR ((sIx n 0 lo:Nat):Int) ((sIx n n hi:Nat):Int) 1)) _ _ s
 rw[uP]
 exact Ko h
theorem xr (xs:Array tx)(i k:Nat):((MZ k).filterMap fun(m:Nat)=>xs[((i:Int)+(m:Int)*1).toNat]?).toArray=((xs.toList.drop i).take k).toArray:=by
 have e:(fun(m:Nat)=>xs[((i:Int)+(m:Int)*1).toNat]?)=fun m=>xs[i+m]?:=by
  funext m
  have:((i:Int)+(m:Int)*1).toNat=i+m:=by omega
  rw[this]
 rw[e]
 have:=pick_run xs i k
 rw[List.filterMap_map]at this
 have e2:((fun x=>xs[x]?)∘fun x=>i+x)=fun m=>xs[i+m]?:=rfl
 rw[e2]at this
 rw[this]
theorem kG {t sl:Addr}{items:Array tx}{vl vu:tx}{lo hi:Option Int}{Q:tx->Km->Prop}(ht:QL s.heap t items)(hs:s.heap.IsSliceOf sl vl vu .none)(pl:Qe vl lo)(pu:Qe vu hi)
  (hw:¬(sIx items.size 0 lo=0/\sIx items.size items.size hi=items.size))
  (h:Q (.ref s.heap.objs.size) {s with heap:=s.heap.push {cls:=.type "tuple",data:=.seq ((items.toList.drop (sIx items.size 0 lo)).take (sIx items.size items.size hi- sIx items.size 0 lo)).toArray}})
  (hsz:items.size<=sizeLine):wpAny (model prog w) A (getItem (.ref t) (.ref sl)) Q E s:=by
 have htake:sizeOk (.seq ((items.toList.drop (sIx items.size 0 lo)).take (sIx items.size items.size hi- sIx items.size 0 lo)).toArray):=by
  show((items.toList.drop (sIx items.size 0 lo)).take (sIx items.size items.size hi- sIx items.size 0 lo)).toArray.size<=sizeLine
  rw[Ks,Mu,Oc,MH]
  omega
 have hj:sIx items.size items.size hi<=items.size:=Ey _ _ (Gt _) hi
 obtain⟨os,hos,hcs,hds⟩:=id hs
 have hTs:s.TypeIs (.ref sl) "slice":=⟨os,hos,hcs⟩
 unfold getItem
 try with_reducible refine Md ?_
 first|refine cW (Ko ?_)|skip
 refine cW (Ts ht.typeIs (by decide) ?_)
 refine cW (Lz (name:=LM "__getitem__") ht.typeIs LB
  (LF LB ht.typeIs SY ?_ (Tl _ _)))
 show wpAny _ _ (OD (.ref t)>>=_) _ _ s
 refine cW (tupleItemsOf_ ht ?_)
 refine cW (OG hTs ?_)
 rw[if_pos (by decide)]
 refine cW (gm hs pl pu ?_)
 have hno:¬((((sIx items.size 0 lo:Nat):Int)==0&&(1:Int)==1&&(sIx items.size items.size hi- sIx items.size 0 lo)==items.size)=true):=by
  intro q
  rw[Li,Li]at q
  have q1:((sIx items.size 0 lo:Nat):Int)=0:=SD q.1.1
  have q2:sIx items.size items.size hi- sIx items.size 0 lo=items.size:=SD q.2
  exact hw ⟨by omega,by omega⟩
 show wpAny _ _ (if (((sIx items.size 0 lo:Nat):Int)==0&&(1:Int)==1&&(sIx items.size items.size hi- sIx items.size 0 lo)==items.size)=true then _ else _) _ _ s
 rw[if_neg hno,xr]
 first
  |exact cW (m:=MU _) (LY (Ko ⟨_,rfl,Ko h⟩) htake)
  |exact cW (m:=MU _) (LY (cW (Ko (Ko ⟨_,rfl,Ko h⟩))) htake)
  |exact cW (cW (m:=MU _) (LY (Ko (Ko ⟨_,rfl,Ko h⟩)) htake))
  |exact cW (cW (m:=MU _) (LY (Ko ⟨_,rfl,Ko h⟩) htake))
end
end HT
namespace L2
open PySem PySem.Spec PyProof.Rows
abbrev TO:=St->Hp->(Option Int->Hp->Prop)->Prop
def PO (X:Cx)(e:Option Expr)(t:TO):Prop:=
 ∀(pins:List (Addr×Obj))(s:Km)(σ:St)(H:Hp)(Q:Option Int->Hp->Prop),Inv X pins σ H s->t σ H Q->
  wpAny (model X.prog X.w) X.A (evalPart e X.env) (fun u s'=>∃o H',Inv X pins σ H' s'/\Qe u o/\Q o H') X.xe s
def eX:TO:=fun _ H Q=>Q none H
def fB (t:TE):TO:=fun σ H Q=>t σ H fun x H1=>∃i,x=.int i/\Q (some i) H1
section
variable {X:Cx}{e:Expr}{te:TE}{lo hi:Option Expr}{tl th:TO}{pos p2:Pos}
theorem Au:PO X none eX:=by
 intro pins s σ H Q I h
 rw[evalPart_none]
 exact Ko ⟨none,H,I,.none,h⟩
theorem AZ (h:PE X e te):PO X (some e) (fB te):=by
 intro pins s σ H Q I hw
 rw[evalPart_some]
 refine thn (h pins s σ H _ I hw) fun u s1 ⟨x,H1,I1,r1,q1⟩=>?_
 obtain⟨i,rfl,q⟩:=q1
 obtain⟨t,rfl⟩:=r1
 exact⟨some i,H1,I1,.int i t,q⟩
def SlR (X:Cx)(r:V->Option Int->Option Int->Hp->VK->Prop):Prop:=
 ∀(pins:List (Addr×Obj))(s:Km)(σ:St)(H:Hp)(x:V)(v vl vu:tx)(lo hi:Option Int)(sl:Addr)(Q:VK),Inv X pins σ H s->aY x v->s.heap.IsSliceOf sl vl vu .none->Qe vl lo->Qe vu hi->r x lo hi H Q->
  ∃T id,typeLookup (.type T) "__getitem__"=pure (some (.builtin id))/\s.TypeIs v T/\wpAny (model X.prog X.w) X.A (getItem v (.ref sl)) (EP X pins σ Q) X.xe s
theorem SlR.or {r r':V->Option Int->Option Int->Hp->VK->Prop}(h:SlR X r)(h':SlR X r'):SlR X (fun x lo hi H Q=>r x lo hi H Q\/r' x lo hi H Q):=by
 intro pins s σ H x v vl vu lo hi sl Q I rx hs pl pu q
 rcases q with q|q
 ·exact h pins s σ H x v vl vu lo hi sl Q I rx hs pl pu q
 ·exact h' pins s σ H x v vl vu lo hi sl Q I rx hs pl pu q
def tSl (r:V->Option Int->Option Int->Hp->VK->Prop)(te:TE)(tl th:TO):TE:=fun σ H Q=>te σ H fun x H1=>tl σ H1 fun l H2=>th σ H2 fun u H3=>r x l u H3 Q
theorem yJ {r:V->Option Int->Option Int->Hp->VK->Prop}(hr:SlR X r)(he:PE X e te)(hl:PO X lo tl)(hu:PO X hi th):PE X (.Subscript e (.Slice lo hi none p2) pos) (tSl r te tl th):=by
 intro pins s σ H Q I h
 refine Subscript_ (thn (he pins s σ H _ I h) fun v s1 ⟨x,H1,I1,r1,q1⟩=>?_)
 refine wpAny_Slice (thn (hl pins s1 σ H1 _ I1 q1) fun vl s2 ⟨l,H2,I2,pl,q2⟩=>thn (hu pins s2 σ H2 _ I2 q2) fun vu s3 ⟨u,H3,I3,pu,q3⟩=>?_)
 rw[evalPart_none]
 refine Ko ?_
 have I4:Inv X pins σ H3 {s3 with heap:=s3.heap.push {cls:=.type "slice",data:=.fields #[vl,vu,.none]}}:=I3.kept (t':=s3.toks) fun b ob q=>gV _ q
 obtain⟨T,id,hT,ht,hg⟩:=hr pins {s3 with heap:=s3.heap.push {cls:=.type "slice",data:=.fields #[vl,vu,.none]}} σ H3 x v vl vu l u s3.heap.objs.size Q I4 r1 (Th ..) pl pu q3
 show wpAny (model X.prog X.w) X.A (subscriptTail e (.Slice lo hi none p2) v (.ref s3.heap.objs.size)) (EP X pins σ Q) X.xe {s3 with heap:=s3.heap.push {cls:=.type "slice",data:=.fields #[vl,vu,.none]}}
 exact tail_any (ops:=[.ref s3.heap.objs.size,v]) ht hT hg (by with_unfolding_all rfl)
def dX (xs:List V)(lo hi:Option Int):List V:=(xs.drop (HT.sIx xs.length 0 lo)).take (HT.sIx xs.length xs.length hi- HT.sIx xs.length 0 lo)
theorem kH (xs:List V)(lo hi:Option Int):(dX xs lo hi).length<=xs.length:=by
 unfold dX
 rw[Mu,Oc]
 omega
def Jj (K:pv):V->Option Int->Option Int->Hp->VK->Prop:=fun x lo hi H Q=>∃a xs,x=.ref a/\SqT K H a xs/\
 ¬(HT.sIx xs.length 0 lo=0/\HT.sIx xs.length xs.length hi=xs.length)/\∀p,H p=none->Q (.ref p) (upd H p (.tup (dX xs lo hi)))
theorem CH:SlR X (Jj X.K):=by
 intro pins s σ H x v vl vu lo hi sl Q I rx hs pl pu h
 obtain⟨a,xs,rfl,hx,hw,q⟩:=h
 cases rx
 obtain⟨its,r,ht,hz⟩:=I.tuple hx
 have hlen:its.toArray.size=xs.length:=by rw[Ks];exact r.length.symm
 refine⟨"tuple",_,LB.lookup,ht.typeIs,?_⟩
 refine HT.kG ht hs pl pu (by rw[hlen];exact hw) ?_ (by rw[hlen];exact hz)
 rw[hlen]
 refine⟨.ref s.heap.objs.size,_,I.laid (t':=s.toks) (o:=.tup (dX xs lo hi)) (fun b ob q=>gV _ q) (Gt _) ?_,rfl,q _ (I.hok.fresh (Gt _))⟩
 exact⟨KN (kH xs lo hi) hz,_,(r.drop (HT.sIx xs.length 0 lo)).take (HT.sIx xs.length xs.length hi- HT.sIx xs.length 0 lo),Sr _ _⟩
def Fo (K:pv):R2:=fun x y H Q=>∃a b xs ys,x=.ref a/\y=.ref b/\SqT K H a xs/\SqT K H b ys/\xs≠[]/\xs.length+ys.length<=sizeLine/\
 (ys=[]->Q (.ref a) H)/\(ys≠[]->∀p,H p=none->Q (.ref p) (upd H p (.tup (xs++ys))))
theorem bc.nil_iff {xs:List V}{us:List tx}(r:bc xs us):us=[]↔xs=[]:=by
 cases r with
 |nil=>simp
 |cons _ _=>simp
theorem Bq:OpR X (binaryOp .Add) (Fo X.K):=by
 intro pins s σ H x y v u Q I rx ry h
 obtain⟨a,b,xs,ys,rfl,rfl,ha,hb,hx,hz,q1,q2⟩:=h
 cases rx
 cases ry
 obtain⟨its,r1,p1,_⟩:=I.tuple ha
 obtain⟨its2,r2,p2,_⟩:=I.tuple hb
 refine HT.Bk p1 p2 (fun z=>hx (r1.nil_iff.mp z)) (fun z=>⟨.ref a,H,I,rfl,q1 (r2.nil_iff.mp z)⟩) (fun z=>?_) (by rw[<-r1.length,<-r2.length];exact hz)
 refine⟨.ref s.heap.objs.size,_,I.laid (t':=s.toks) (o:=.tup (xs++ys)) (fun b ob q=>gV _ q) (Gt _) ?_,rfl,q2 (fun w=>z (r2.nil_iff.mpr w)) _ (I.hok.fresh (Gt _))⟩
 exact⟨by rw[Kn];exact hz,_,r1.append r2,Sr _ _⟩
end
def ixN (n:Nat)(i:Int):Option Nat:=if 0<=i then(if i<n then some i.toNat else none)else if-(n:Int)<=i then some (i+n).toNat else none
def atI {α:Type}(xs:List α)(i:Int):Option α:=(ixN xs.length i).bind fun j=>xs[j]?
theorem sf {n:Nat}{i:Int}{j:Nat}(h:ixN n i=some j):seqIndex? i n=some j/\j<n/\ -(n:Int)<=i/\i<n:=by
 unfold ixN at h
 by_cases h0:0<=i
 ·rw[if_pos h0]at h
  by_cases h1:i<n
  ·rw[if_pos h1]at h
   have e:i.toNat=j:=KG h
   exact⟨by rw[SV h0 h1,e],by omega,by omega,h1⟩
  ·rw[if_neg h1]at h;cases h
 ·rw[if_neg h0]at h
  by_cases h1: -(n:Int)<=i
  ·rw[if_pos h1]at h
   have e:(i+n).toNat=j:=KG h
   exact⟨by rw[Sf (by omega) h1,e],by omega,h1,by omega⟩
  ·rw[if_neg h1]at h;cases h
theorem jY {α:Type}{xs:List α}{i:Int}{v:α}(h:atI xs i=some v):∃j,seqIndex? i xs.length=some j/\xs[j]? =some v/\j<xs.length/\ -(xs.length:Int)<=i/\i<xs.length:=by
 unfold atI at h
 cases e:ixN xs.length i with
 |none=>rw[e]at h;cases h
 |some j=>
  rw[e]at h
  obtain⟨h1,h2,h3,h4⟩:=sf e
  exact⟨j,h1,h,h2,h3,h4⟩
theorem zb {α:Type}(xs:List α)(v:α):atI (xs++[v]) (-1)=some v:=by
 have hl:(xs++[v]).length=xs.length+1:=by simp
 have e:ixN (xs++[v]).length (-1)=some xs.length:=by
  unfold ixN
  rw[hl,if_neg (by decide),if_pos (by omega)]
  congr 1
  omega
 unfold atI
 rw[e]
 show(xs++[v])[xs.length]?=some v
 simp
def rQ (b:Expr):Prop:=∀o i,subscripted b false o i=operate [o,i] (getItem o i)
def IxR (X:Cx)(r:R2):Prop:=
 ∀(value slice:Expr)(pins:List (Addr×Obj))(s:Km)(σ:St)(H:Hp)(x y:V)(v u:tx)(Q:VK),Inv X pins σ H s->aY x v->aY y u->r x y H Q->
  subscripted slice false v u=operate [v,u] (getItem v u)->wpAny (model X.prog X.w) X.A (subscriptTail value slice v u) (EP X pins σ Q) X.xe s
def MtR (X:Cx)(id:String)(r:V->List V->Hp->VK->Prop):Prop:=
 ∀(pins:List (Addr×Obj))(s:Km)(σ:St)(H:Hp)(x:V)(xs:List V)(v:tx)(us:List tx)(Q:VK),Inv X pins σ H s->aY x v->bc xs us->r x xs H Q->
  wpAny (model X.prog X.w) X.A (call (.builtin id) (v::us)) (EP X pins σ Q) X.xe s
section
variable {X:Cx}{a b:Expr}{ta tb:TE}{pos:Pos}
theorem IxR.or {r r':R2}(h:IxR X r)(h':IxR X r'):IxR X (fun x y H Q=>r x y H Q\/r' x y H Q):=by
 intro value slice pins s σ H x y v u Q I rx ry q hs
 rcases q with q|q
 ·exact h value slice pins s σ H x y v u Q I rx ry q hs
 ·exact h' value slice pins s σ H x y v u Q I rx ry q hs
theorem Gi {r:R2}(hr:IxR X r)(ha:PE X a ta)(hb:PE X b tb)(hs:rQ b):PE X (.Subscript a b pos) (tOp r ta tb):=by
 intro pins s σ H Q I h
 exact Subscript_ (ym ha hb I h fun v u s2 x y H2 I2 rx ry q=>hr a b pins s2 σ H2 x y v u Q I2 rx ry q (hs _ _))
def CC (K:pv):R2:=fun x y H Q=>∃p xs i v,x=.ref p/\y=.int i/\SqL K H p xs/\atI xs i=some v/\Q v H
def BC (K:pv):R2:=fun x y H Q=>∃p xs i v,x=.ref p/\y=.int i/\SqT K H p xs/\atI xs i=some v/\Q v H
def DG:R2:=fun x y H Q=>∃z i c,x=.str z/\y=.int i/\z.length<=sizeLine/\atI z.cps.toList i=some c/\Q (.str ⟨#[c]⟩) H
theorem AX:IxR X (CC X.K):=by
 intro value slice pins s σ H x y v u Q I rx ry h hs
 obtain⟨p,xs,i,z,rfl,rfl,hq,he,q⟩:=h
 cases rx
 obtain⟨t,rfl⟩:=ry
 obtain⟨its,r,pl,hz⟩:=I.list hq
 obtain⟨j,h1,h2,h3,h4,h5⟩:=jY he
 obtain⟨w,ew,rw'⟩:=r.get h2
 have hl:=r.length
 have hn:=ie
 have fin:EP X pins σ Q w s:=⟨z,H,I,rw',q⟩
 by_cases h0:0<=i
 ·have hj:i.toNat=j:=by
   rw[SV h0 h5]at h1
   exact KG h1
  exact item_listR pl.isList h0 (by omega) (by rw[hj];simpa using ew) fin hs
 ·have hj:(i+(its.toArray.size:Int)).toNat=j:=by
   rw[Sf (by omega) h4]at h1
   rw[Ks,<-hl]
   exact KG h1
  exact RX (x:=w) pl.isList.typeIs slot_list_getitem.lookup
   (wpAny_getItem_list_neg (Q:=fun r s'=>r=w/\EP X pins σ Q r s') pl.isList (by omega) (by rw[Ks]<;>omega) (by omega) (by rw[hj];simpa using ew) ⟨rfl,fin⟩) hs
theorem CA:IxR X (BC X.K):=by
 intro value slice pins s σ H x y v u Q I rx ry h hs
 obtain⟨p,xs,i,z,rfl,rfl,hq,he,q⟩:=h
 cases rx
 obtain⟨t,rfl⟩:=ry
 obtain⟨its,r,pl,hz⟩:=I.tuple hq
 obtain⟨j,h1,h2,h3,h4,h5⟩:=jY he
 obtain⟨w,ew,rw'⟩:=r.get h2
 have hl:=r.length
 have hn:=ie
 have fin:EP X pins σ Q w s:=⟨z,H,I,rw',q⟩
 exact RX (x:=w) pl.typeIs slot_tuple_getitem.lookup
  (getItem_tuple (j:=j) (Q:=fun r s'=>r=w/\EP X pins σ Q r s') pl (by omega) (by omega) (by rw[Ks,<-hl];exact h1) (by simpa using ew) ⟨rfl,fin⟩) hs
theorem Cz:IxR X DG:=by
 intro value slice pins s σ H x y v u Q I rx ry h hs
 obtain⟨z,i,c,rfl,rfl,hz,he,q⟩:=h
 obtain⟨t,rfl⟩:=rx
 obtain⟨t',rfl⟩:=ry
 obtain⟨j,h1,h2,h3,h4,h5⟩:=jY he
 have hl:z.cps.toList.length=z.length:=by simp[Px]
 rw[hl]at h1 h4 h5
 have hn:=ie
 exact tail_any (Tx s z t) slot_str_getitem.lookup (getItem_str (c:=c) (by
  have e1:decide (i< -(2^63:Int))=false:=decide_eq_false (by omega)
  have e2:decide (i>=2^63)=false:=decide_eq_false (by omega)
  rw[e1,e2,Tp]) (by rw[h1];simpa using h2) ⟨.str ⟨#[c]⟩,H,I.tok _,⟨_,rfl⟩,q⟩) hs
def rIx (K:pv):R2:=fun x y H Q=>CC K x y H Q\/BC K x y H Q\/DG x y H Q
theorem Cq:IxR X (rIx X.K):=AX.or (CA.or Cz)
theorem uB (its:List tx)(n j:Nat)(u:tx):LU (·.setIfInBounds j u) {cls:=.type "list",data:=.seq its.toArray n}={cls:=.type "list",data:=.seq (its.set j u).toArray n}:=by
 simp[LU]
theorem Inv.lst {pins:List (Addr×Obj)}{σ:St}{H:Hp}{s:Km}{p:Addr}{xs:List V}(I:Inv X pins σ H s)(h:H p=some (.lst xs)):
  ∃(its:List tx)(n:Nat),bc xs its/\s.heap.get? p=some {cls:=.type "list",data:=.seq its.toArray n}/\xs.length<=sizeLine:=by
 obtain⟨z,its,n,r,e⟩:=I.hok p _ h
 exact⟨its,n,r,e,z⟩
theorem Inv.lstUpd {pins:List (Addr×Obj)}{σ:St}{H:Hp}{s:Km}{p:Addr}{xs ys:List V}{its its':List tx}{n n':Nat}{f:Obj->Obj}(I:Inv X pins σ H s)(h:H p=some (.lst xs))
  (ho:s.heap.get? p=some {cls:=.type "list",data:=.seq its.toArray n})(hf:f {cls:=.type "list",data:=.seq its.toArray n}={cls:=.type "list",data:=.seq its'.toArray n'})(r:bc ys its')(hz:ys.length<=sizeLine)(t:Nat):
  Inv X pins σ (upd H p (.lst ys)) {s with heap:=s.heap.update p f,toks:=t}:=by
 have e:(s.heap.update p f).get? p=some {cls:=.type "list",data:=.seq its'.toArray n'}:=by
  rw[Lm f ho (by rw[hf]<;>rfl),hf]
 refine I.write (x:=p) (e:=p) (by rw[h];trivial) (.inl rfl) (fun b u hb q=>(Lu _ _ (Lj hb)).trans q) ⟨_,e⟩ ?_
 exact⟨hz,its',n',r,e⟩
def zR:V->V->V->Hp->(Hp->Prop)->Prop:=fun o i v H Q=>∃p xs k j,o=.ref p/\i=.int k/\H p=some (.lst xs)/\ixN xs.length k=some j/\Q (upd H p (.lst (xs.set j v)))
theorem zl:uL X zR:=by
 intro pins s σ H o i v ov iv u Q I ro ri rv h
 obtain⟨p,xs,k,j,rfl,rfl,hp,hj,q⟩:=h
 cases ro
 obtain⟨t,rfl⟩:=ri
 obtain⟨its,n,r,ho,hz⟩:=I.lst hp
 obtain⟨h1,h2,h3,h4⟩:=sf hj
 have hl:=r.length
 have hn:=ie
 have I':Inv X pins σ (upd H p (.lst (xs.set j v))) {s with heap:=s.heap.update p (LU (·.setIfInBounds j u))}:=
  I.lstUpd hp ho (uB its n j u) (r.set rv j) (by rw[List.length_set];exact hz) s.toks
 by_cases h0:0<=k
 ·have hk:k.toNat=j:=by
   rw[SV h0 h4]at h1
   exact KG h1
  exact W.ki_setAt ho h0 (by omega) (by rw[Ks,<-hl];exact h4) (by rw[hk];exact⟨_,I',q⟩)
 ·have hk:(k+(its.toArray.size:Int)).toNat=j:=by
   rw[Sf (by omega) h3]at h1
   rw[Ks,<-hl]
   exact KG h1
  exact W.ki_setBack ho (by omega) (by rw[Ks,<-hl];exact h3) (by omega) (by rw[hk];exact⟨_,I',q⟩)
theorem qZ (lo hi:Option Int)(n:Nat):(sliceBounds lo hi none n).1=((HT.sIx n 0 lo:Nat):Int)/\(sliceBounds lo hi none n).2.1=((HT.sIx n n hi:Nat):Int)/\(sliceBounds lo hi none n).2.2=1:=by
 refine⟨?_,?_,rfl⟩
 ·cases lo with
  |none=>simp[sliceBounds,HT.sIx]
  |some i=>
   simp only[sliceBounds,HT.sIx,RP,show(1:Int)>0 by decide,if_true]
   by_cases h:i<0
   ·simp only[h,if_true]<;>omega
   ·simp only[h,if_false]<;>omega
 ·cases hi with
  |none=>simp[sliceBounds,HT.sIx]
  |some i=>
   simp only[sliceBounds,HT.sIx,RP,show(1:Int)>0 by decide,if_true]
   by_cases h:i<0
   ·simp only[h,if_true]<;>omega
   ·simp only[h,if_false]<;>omega
theorem oQ (its:List tx)(lo hi:Option Int):slicePick its.toArray lo hi none=((its.drop (HT.sIx its.length 0 lo)).take (HT.sIx its.length its.length hi- HT.sIx its.length 0 lo)).toArray:=by
 obtain⟨h1,h2,h3⟩:=qZ lo hi its.toArray.size
 unfold slicePick
 rw[h1,h2,h3]
 simp only[sliceRange_one,pick_run,Ks]<;>rfl
def BQ (K:pv):V->Option Int->Option Int->Hp->VK->Prop:=fun x lo hi H Q=>∃a xs,x=.ref a/\SqL K H a xs/\∀p,H p=none->Q (.ref p) (upd H p (.lst (dX xs lo hi)))
theorem Ax:SlR X (BQ X.K):=by
 intro pins s σ H x v vl vu lo hi sl Q I rx hs pl pu h
 obtain⟨a,xs,rfl,hx,q⟩:=h
 cases rx
 obtain⟨its,r,ht,hz⟩:=I.list hx
 have hlen:=r.length
 refine⟨"list",_,slot_list_getitem.lookup,ht.isList.typeIs,?_⟩
 refine wpAny_getItem_list_slice ht.isList hs pl pu .none (by simp) ?_ (by rw[Ks]<;>omega)
 rw[oQ,<-hlen]
 refine⟨.ref s.heap.objs.size,_,I.laid (t':=s.toks) (o:=.lst (dX xs lo hi)) (fun b ob q=>gV _ q) (Gt _) ?_,rfl,q _ (I.hok.fresh (Gt _))⟩
 exact⟨KN (kH xs lo hi) hz,_,0,(r.drop (HT.sIx xs.length 0 lo)).take (HT.sIx xs.length xs.length hi- HT.sIx xs.length 0 lo),Kt _ rfl⟩
theorem ck.or {f:tx}{r r':List V->Hp->VK->Prop}(h:ck X f r)(h':ck X f r'):ck X f (fun xs H Q=>r xs H Q\/r' xs H Q):=by
 intro pins s σ H xs us Q I rs q
 rcases q with q|q
 ·exact h pins s σ H xs us Q I rs q
 ·exact h' pins s σ H xs us Q I rs q
theorem oP:ck X (.type "tuple") (fun xs H Q=>∃p ys,xs=[.ref p]/\((SqL X.K H p ys/\∀l,H l=none->Q (.ref l) (upd H l (.tup ys)))\/(SqT X.K H p ys/\Q (.ref p) H))):=by
 intro pins s σ H xs us Q I r h
 obtain⟨p,ys,rfl,h⟩:=h
 obtain⟨u,rfl,rx⟩:=fE r
 cases rx
 rcases h with⟨hq,q⟩|⟨hq,q⟩
 ·obtain⟨its,r',pl,hz⟩:=I.list hq
  have hlen:=r'.length
  refine call_tuple_list pl.isList (fun h' kp=>?_) (by simp only[Ks]<;>omega)
  have I1:Inv X pins σ H {s with heap:=h'}:=I.kept (t':=s.toks) kp
  have I2:Inv X pins σ (upd H h'.objs.size (.tup ys)) {s with heap:=h'.push {cls:=.type "tuple",data:=.seq its.toArray}}:=
   I1.laid (t':=s.toks) (fun b o e=>gV _ e) (Gt _) (show bj X.prog X.w _ _ _ (.tup ys)from⟨hz,its,r',Sr _ _⟩)
  exact⟨.ref h'.objs.size,_,I2,rfl,q _ (I1.hok.fresh (Gt _))⟩
 ·obtain⟨its,r',pl,hz⟩:=I.tuple hq
  exact call_tuple_same pl ⟨.ref p,H,I,rfl,q⟩
def tyV (K:pv)(T:String)(x:V)(H:Hp):Prop:=match x with
 |.str _=>T="str"
 |.int _=>T="int"
 |.ref p=>(T="list"/\∃xs,SqL K H p xs)\/(T="tuple"/\∃o,K.lookup p=some o/\o.cls=.type "tuple"/\o.dict=none)\/
  (T="dict"/\((∃kvs,H p=some (.dK kvs))\/∃kvs,H p=some (.dT kvs)))\/(T="set"/\∃S n,H p=some (.set S n))
 |_=>False
theorem wC {pins:List (Addr×Obj)}{σ:St}{H:Hp}{s:Km}{T:String}{x:V}{v:tx}(I:Inv X pins σ H s)(r:aY x v)(ty:tyV X.K T x H):
  s.TypeIs v T/\∀a,v=.ref a->∃ob,s.heap.get? a=some ob/\ob.dict=none:=by
 cases x with
 |str z=>
  obtain⟨t,rfl⟩:=r
  cases (show T="str" from ty)
  exact⟨Tx s z t,fun _ e=>nomatch e⟩
 |int i=>
  obtain⟨t,rfl⟩:=r
  cases (show T="int" from ty)
  exact⟨typeIs_int s i t,fun _ e=>nomatch e⟩
 |ref p=>
  cases r
  rcases ty with⟨rfl,xs,hq⟩|⟨rfl,o,hk,hc,hd⟩|⟨rfl,hk⟩|⟨rfl,S,n,hk⟩
  ·obtain⟨its,_,pl,_⟩:=I.list hq
   refine⟨pl.isList.typeIs,fun a e=>?_⟩
   cases e
   obtain⟨o,n,e,c,hd,_⟩:=pl
   exact⟨o,e,hd⟩
  ·refine⟨⟨o,I.kIn p o hk,hc⟩,fun a e=>?_⟩
   cases e
   exact⟨o,I.kIn _ o hk,hd⟩
  ·have z:∃o,s.heap.get? p=some o/\o.ExactDict:=by
    rcases hk with⟨kvs,hk⟩|⟨kvs,hk⟩
    ·obtain⟨_,_,_,_,o,_,_,e,ex,_⟩:=I.hok p _ hk
     exact⟨o,e,ex⟩
    ·obtain⟨_,_,_,_,o,_,_,e,ex,_⟩:=I.hok p _ hk
     exact⟨o,e,ex⟩
   obtain⟨o,e,ex⟩:=z
   refine⟨⟨o,e,ex.1⟩,fun a e2=>?_⟩
   cases e2
   exact⟨o,e,ex.2.1⟩
  ·obtain⟨o,_,_,_,e,ex,_⟩:=I.hok p _ hk
   refine⟨⟨o,e,ex.1⟩,fun a e2=>?_⟩
   cases e2
   exact⟨o,e,ex.2.1⟩
 |_=>exact Ll ty
def sW (K:pv)(T:String)(r:V->List V->Hp->VK->Prop)(to:TE):TE:=fun σ H Q=>to σ H fun x H1=>tyV K T x H1/\r x [] H1 Q
def tBM (K:pv)(T:String)(r:V->List V->Hp->VK->Prop)(to:TE)(t:TA):TE:=fun σ H Q=>to σ H fun x H1=>tyV K T x H1/\t σ H1 fun xs H2=>r x xs H2 Q
variable {o e:Expr}{es:List Expr}{to:TE}{t:TA}{name:Str}{apos cpos:Pos}{T id:String}{r:V->List V->Hp->VK->Prop}
theorem Dq (pa:PY T)(slot:Slot T name id)(hty:typeOf (.builtin id)=pure (.type "method_descriptor"))(hm:MtR X id r)(ho:PE X o to)
  (hbase:attributeBase o name X.env (eval o X.env)=eval o X.env:=by rfl)(hline:(apos.endLine==cpos.line)=true:=by rfl):PE X (.Call (.Attribute o name apos) [] [] cpos) (sW X.K T r to):=by
 intro pins s σ H Q I h
 refine wpAny_Call_method0_late hbase hline (thn (ho pins s σ H _ I h) fun v s1 ⟨x,H1,I1,r1,ty,q1⟩=>?_)
 obtain⟨h1,h2⟩:=wC I1 r1 ty
 exact⟨T,id,pa,slot,hty,h1,h2,Qu rfl (PySem.evalArgs_none (hm pins s1 σ H1 x [] v [] Q I1 r1 .nil q1))⟩
theorem Fu (pa:PY T)(slot:Slot T name id)(hty:typeOf (.builtin id)=pure (.type "method_descriptor"))(hm:MtR X id r)(ho:PE X o to)(ha:PA X (e::es) t)
  (hbase:attributeBase o name X.env (eval o X.env)=eval o X.env:=by rfl)
  (hfew:((backTo cpos (starEach (e::es) X.env)).all (fun x=> !x.1)&&(backToKw cpos (keywordEach [] X.env)).all (fun x=>x.1.isSome)
   &&decide ((e::es).length+([]:List Keyword).length+(if ([]:List Keyword).isEmpty then 0 else 1)<30))=true:=by rfl)
  (hline:(apos.endLine==cpos.line)=true:=by rfl)(hs:starEach (e::es) X.env=(false,eval e X.env)::starEach es X.env:=by rfl)(hplain:(backTo cpos (starEach es X.env)).any (·.1)=false:=by rfl):
  PE X (.Call (.Attribute o name apos) (e::es) [] cpos) (tBM X.K T r to t):=by
 intro pins s σ H Q I h
 refine wpAny_Call_method_late hbase hfew hline rfl (thn (ho pins s σ H _ I h) fun v s1 ⟨x,H1,I1,r1,ty,q1⟩=>?_)
 obtain⟨h1,h2⟩:=wC I1 r1 ty
 refine⟨T,id,pa,slot,hty,h1,h2,?_⟩
 have hA:=ha cpos pins s1 σ H1 _ I1 q1
 rw[hs]at hA⊢
 refine Qu (by show(false||(backTo cpos (starEach es X.env)).any (·.1))=false;rw[hplain]<;>rfl) (Calls.evalArgs_plain ?_)
 exact thn hA fun us s2 ⟨vs,H2,I2,r2,q2⟩=>hm pins s2 σ H2 x vs v us Q I2 r1 r2 q2
end
def MtM (X:Cx)(id:String)(r:V->List V->Hp->VK->Prop):Prop:=
 ∀(pins:List (Addr×Obj))(s:Km)(σ:St)(H:Hp)(x:V)(xs:List V)(v:tx)(us:List tx)(Q:VK),Inv X pins σ H s->aY x v->bc xs us->r x xs H Q->
  wpAny (model X.prog X.w) X.A (call (.builtin id) (v::us)) (EP X pins σ Q) X.xe s
theorem bc.one:∀{x:V}{us:List tx},bc [x] us->∃u,us=[u]/\aY x u
 |_,_,.cons r .nil=>⟨_,rfl,r⟩
theorem bc.two:∀{x y:V}{us:List tx},bc [x,y] us->∃u v,us=[u,v]/\aY x u/\aY y v
 |_,_,_,.cons r (.cons q .nil)=>⟨_,_,rfl,r,q⟩
theorem bc.reverse {xs:List V}{us:List tx}(h:bc xs us):bc xs.reverse us.reverse:=by
 induction h with
 |nil=>exact .nil
 |cons r t ih=>rw[Mn,Mn];exact bc.append ih (.cons r .nil)
section
variable {X:Cx}{pins:List (Addr×Obj)}{σ:St}{H:Hp}{s:Km}{l b:Addr}{xs ys zs:List V}
theorem Inv.lset {its its':List tx}{n:Nat}{f:Array tx->Array tx}{t':Nat}(I:Inv X pins σ H s)(hH:H l=some (.lst xs))
  (e:s.heap.get? l=some {cls:=.type "list",data:=.seq its.toArray n})(hf:f its.toArray=its'.toArray)(hv:bc ys its')(hz:ys.length<=sizeLine):
  Inv X pins σ (upd H l (.lst ys)) {s with heap:=s.heap.update l (LU f),toks:=t'}:=by
 have q:=PySem.IsL.update e f
 rw[hf]at q
 refine I.write (x:=l) (e:=l) (by rw[hH];exact trivial) (.inl rfl) (fun b' u hb hu=>(Lu s.heap (LU f) (Lj hb)).trans hu) ⟨_,q⟩ ?_
 exact⟨hz,its',_,hv,q⟩
theorem Inv.lnew {its:List tx}{t':Nat}(I:Inv X pins σ H s)(hv:bc ys its)(hz:ys.length<=sizeLine):
  Inv X pins σ (upd H s.heap.objs.size (.lst ys)) {s with heap:=s.heap.push {cls:=.type "list",data:=.seq its.toArray},toks:=t'}:=
 I.laid (fun _ _ q=>gV _ q) (Gt _) ⟨hz,its,0,hv,Kt _ rfl⟩
theorem Inv.fresh (I:Inv X pins σ H s):H s.heap.objs.size=none:=I.hok.fresh (Gt _)
theorem Inv.lstM (I:Inv X pins σ H s)(hH:H l=some (.lst xs)):xs.length<=sizeLine/\∃(its:List tx)(n:Nat),bc xs its/\xs.length=its.length/\s.heap.get? l=some {cls:=.type "list",data:=.seq its.toArray n}:=by
 obtain⟨z,its,n,r,e⟩:=I.hok l _ hH
 exact⟨z,its,n,r,r.length,e⟩
end
section
variable {X:Cx}
def bG:V->List V->Hp->VK->Prop:=fun x vs H Q=>∃l xs y,x=.ref l/\vs=[y]/\H l=some (.lst xs)/\xs.length<sizeLine/\Q .non (upd H l (.lst (xs++[y])))
theorem br:MtM X "list.append" bG:=by
 intro pins s σ H x vs v us Q I rx rv h
 obtain⟨l,xs,y,rfl,rfl,hH,hz,q⟩:=h
 cases rx
 obtain⟨u,rfl,ru⟩:=rv.one
 obtain⟨z,its,n,r,hl,e⟩:=I.lstM hH
 refine Tz Kv ⟨_,e,rfl⟩ F.entry_list_append (F.args_list_append_2 _ _) (PySem.list_append l its.toArray n u (by rw[Ks];omega)) ⟨e,?_⟩
 refine⟨.non,_,I.lset (its':=its++[u]) hH e (by simp) (r.append (.cons ru .nil)) ?_,rfl,q⟩
 rw[Kn,QZ]
 omega
def EL:R2:=fun x y H Q=>∃l b xs zs,x=.ref l/\y=.ref b/\H l=some (.lst xs)/\H b=some (.lst zs)/\xs.length+zs.length<=sizeLine/\∀p,H p=none->Q (.ref p) (upd H p (.lst (xs++zs)))
theorem ES:OpR X (binaryOp .Add) EL:=by
 intro pins s σ H x y v u Q I rx ry h
 obtain⟨l,b,xs,zs,rfl,rfl,hH,hB,hz,q⟩:=h
 cases rx
 cases ry
 obtain⟨z,its,n,r,hl,e⟩:=I.lstM hH
 obtain⟨z2,its2,n2,r2,hl2,e2⟩:=I.lstM hB
 refine PySem.P.add_list e e2 ?_ (by rw[Ks,Ks];omega)
 have ea:its.toArray++its2.toArray=(its++its2).toArray:=by simp
 rw[ea]
 exact⟨.ref _,_,I.lnew (t':=s.toks) (r.append r2) (by rw[Kn];omega),rfl,q _ I.fresh⟩
end
section
variable {prog:KI}{w:Lp}{A:Lh}{E:tx->Km->Prop}{s:Km}
set_option maxRecDepth 100000 in
end
section
variable {κ:Type}[DecidableEq κ]
def bH (kvs:List (κ×V))(k:κ):Option V:=(kvs.find? fun kv=>decide (kv.1=k)).map (·.2)
def cv (kvs:List (κ×V))(k:κ)(v:V):List (κ×V):=
 if (kvs.any fun kv=>decide (kv.1=k))=true then kvs.map (fun kv=>if kv.1=k then(kv.1,v)else kv)else kvs++[(k,v)]
theorem cY {p:κ×V}{r:List (κ×V)}{k:κ}(e:p.1=k):bH (p::r) k=some p.2:=by simp[bH,Nn,e]
theorem cZ {p:κ×V}{r:List (κ×V)}{k:κ}(e:¬p.1=k):bH (p::r) k=bH r k:=by simp[bH,Nn,e]
theorem gj (k:κ):∀kvs:List (κ×V),(kvs.any fun kv=>decide (kv.1=k))=(bH kvs k).isSome
 |[]=>rfl
 |p::r=>by
  rw[QD]
  by_cases e:p.1=k
  ·simp only[cY e,decide_eq_true e,Bool.true_or,Option.isSome_some]
  ·rw[cZ e,decide_eq_false e,Bool.false_or];exact gj k r
theorem qD (k j:κ)(y:V):∀kvs:List (κ×V),bH (kvs.map fun kv=>if kv.1=k then(kv.1,y)else kv) j=(bH kvs j).map fun x=>if j=k then y else x
 |[]=>rfl
 |p::r=>by
  have ih:=qD k j y r
  rw[KZ]
  by_cases h:p.1=k
  ·rw[if_pos h]
   by_cases e:p.1=j
   ·rw[cY (p:=(p.1,y)) e,cY e,NE,if_pos (e.symm.trans h)]
   ·rw[cZ (p:=(p.1,y)) e,cZ e,ih]
  ·rw[if_neg h]
   by_cases e:p.1=j
   ·rw[cY (p:=p) e,cY e,NE,if_neg (fun z=>h (e.trans z))]
   ·rw[cZ (p:=p) e,cZ e,ih]
theorem nI (k j:κ)(y:V):∀kvs:List (κ×V),bH kvs k=none->bH (kvs++[(k,y)]) j=if j=k then some y else bH kvs j
 |[],_=>by
  by_cases e:k=j
  ·rw[if_pos e.symm];exact cY (p:=(k,y)) e
  ·rw[if_neg (fun z=>e z.symm)];exact cZ (p:=(k,y)) e
 |p::r,hn=>by
  rw[List.cons_append]
  have hk:¬p.1=k:=fun z=>by rw[cY z]at hn;cases hn
  rw[cZ hk]at hn
  have ih:=nI k j y r hn
  by_cases e:p.1=j
  ·rw[cY e,cY e,if_neg (fun z=>hk (e.trans z))]
  ·rw[cZ e,cZ e,ih]
theorem iT (kvs:List (κ×V))(k j:κ)(y:V):bH (cv kvs k y) j=if j=k then some y else bH kvs j:=by
 unfold cv
 by_cases a:(kvs.any fun kv=>decide (kv.1=k))=true
 ·rw[if_pos a,qD]
  rw[gj]at a
  by_cases e:j=k
  ·obtain⟨x,hx⟩:=Lk.mp a
   rw[if_pos e,e,hx,NE,if_pos rfl]
  ·rw[if_neg e]
   cases bH kvs j with
   |none=>rfl
   |some x=>rw[NE,if_neg e]
 ·rw[if_neg a]
  refine nI k j y kvs ?_
  rw[gj]at a
  cases q:bH kvs k with
  |none=>rfl
  |some x=>rw[q]at a;exact(a rfl).elim
theorem eJ (kvs:List (κ×V))(k:κ)(v:V):(cv kvs k v).length<=kvs.length+1:=by
 unfold cv
 split
 ·rw[pz];omega
 ·rw[Kn,KH,SQ];omega
theorem xY {kvs:List (κ×V)}{k:κ}(v:V)(h:bH kvs k=none):cv kvs k v=kvs++[(k,v)]:=by
 unfold cv
 rw[gj,h]
 exact if_neg (by decide)
theorem cA.isSome_eq {o:Option V}{u:Option tx}(r:cA o u):o.isSome=u.isSome:=by
 cases o with
 |none=>cases u with
  |none=>rfl
  |some _=>exact(show False from r).elim
 |some _=>cases u with
  |none=>exact(show False from r).elim
  |some _=>rfl
theorem cA.getD {o:Option V}{u:Option tx}{d:V}{d':tx}(r:cA o u)(rd:aY d d'):aY (o.getD d) (u.getD d'):=by
 cases o with
 |none=>cases u with
  |none=>exact rd
  |some _=>exact(show False from r).elim
 |some _=>cases u with
  |none=>exact(show False from r).elim
  |some _=>exact r
theorem KV.val {kvs:List (κ×V)}{vs:List (κ×tx)}(r:KV kvs vs)(k:κ):cA (bH kvs k) (valueAt vs k):=by
 unfold KV at r
 induction r with
 |nil=>exact Mc
 | @cons p q ps qs h t ih=>
   obtain⟨h1,h2⟩:=h
   by_cases e:p.1=k
   ·have e':q.1=k:=h1.symm.trans e
    have b:valueAt (q::qs) k=some q.2:=by simp[valueAt,Nn,e']
    rw[cY e,b];exact h2
   ·have e':¬q.1=k:=fun z=>e (h1.trans z)
    have b:valueAt (q::qs) k=valueAt qs k:=by simp[valueAt,Nn,e']
    rw[cZ e,b];exact ih
theorem KV.any {kvs:List (κ×V)}{vs:List (κ×tx)}(r:KV kvs vs)(k:κ):(kvs.any fun kv=>decide (kv.1=k))=vs.any fun kv=>decide (kv.1=k):=by
 unfold KV at r
 induction r with
 |nil=>rfl
 |cons h t ih=>rw[QD,QD,ih,h.1]
theorem KV.repl {kvs:List (κ×V)}{vs:List (κ×tx)}(r:KV kvs vs)(k:κ){y:V}{u:tx}(ry:aY y u):
  KV (kvs.map fun kv=>if kv.1=k then(kv.1,y)else kv) (vs.map fun kv=>if kv.1=k then(kv.1,u)else kv):=by
 unfold KV at r⊢
 induction r with
 |nil=>exact .nil
 | @cons p q ps qs h t ih=>
   rw[KZ,KZ]
   refine .cons ?_ ih
   obtain⟨h1,h2⟩:=h
   by_cases e:p.1=k
   ·rw[if_pos e,if_pos (h1.symm.trans e)];exact⟨h1,ry⟩
   ·rw[if_neg e,if_neg (fun z=>e (h1.trans z))];exact⟨h1,h2⟩
theorem KV.put {kvs:List (κ×V)}{vs:List (κ×tx)}(r:KV kvs vs)(k:κ){y:V}{u:tx}(ry:aY y u):KV (cv kvs k y) (stored vs k u):=by
 unfold cv stored
 rw[r.any k]
 by_cases e:(vs.any fun kv=>decide (kv.1=k))=true
 ·rw[if_pos e,if_pos e];exact r.repl k ry
 ·rw[if_neg e,if_neg e];exact Paired.snoc r ⟨rfl,ry⟩
theorem KV.length {kvs:List (κ×V)}{vs:List (κ×tx)}(r:KV kvs vs):kvs.length=vs.length:=Paired.length r
end
theorem iN {P:KI}{w:Lp}{k:Key}{u:tx}(r:aY (kV k) u):(bY P w).is k u=true:=by
 cases k with
 |inl i=>obtain⟨t,e⟩:=(show ∃t,u=OK i t from r);subst e;exact rO P w i t
 |inr x=>obtain⟨t,e⟩:=(show ∃t,u=Nv x t from r);subst e;exact rN P w x t
theorem EC {a b:Key}(e:kV a=kV b):a=b:=by
 cases a with
 |inl i=>cases b with
  |inl j=>have e':V.int i=V.int j:=e;injection e' with e';rw[e']
  |inr y=>exact nomatch (show V.int i=V.str y from e)
 |inr x=>cases b with
  |inl j=>exact nomatch (show V.str x=V.int j from e)
  |inr y=>have e':V.str x=V.str y:=e;injection e' with e';rw[e']
theorem iB:∀{a b:List Key},a.map kV=b.map kV->a=b
 |[],[],_=>rfl
 |[],_::_,e=>by simp at e
 |_::_,[],e=>by simp at e
 |x::xs,y::ys,e=>by
  rw[KZ,KZ]at e
  injection e with e1 e2
  rw[EC e1,iB e2]
theorem oA {P:KI}{w:Lp}:∀{ks:List Key}{us:List tx},bc (ks.map kV) us->ItemsAre (bY P w) ks us
 |[],_,r=>by rw[Pn]at r;cases r;exact .nil
 |k::ks,_,r=>by
  rw[KZ]at r
  cases r with
  |cons h t=>exact .cons (iN h) (oA t)
abbrev KT (H:Hp):List (List Key×V)->List (List Key×Addr×tx)->Prop:=Paired fun p q=>p.1=q.1/\H q.2.1=some (.tup (p.1.map kV))/\aY p.2 q.2.2
theorem KT.val {H:Hp}{kvs:List (List Key×V)}{xs:List (List Key×Addr×tx)}(r:KT H kvs xs)(k:List Key):cA (bH kvs k) ((atKey xs k).map (·.2)):=by
 induction r with
 |nil=>exact Mc
 | @cons p q ps qs h t ih=>
   obtain⟨h1,_,h2⟩:=h
   by_cases e:p.1=k
   ·have e':q.1=k:=h1.symm.trans e
    have b:atKey (q::qs) k=some q.2:=by simp[atKey,Nn,e']
    rw[cY e,b];exact h2
   ·have e':¬q.1=k:=fun z=>e (h1.trans z)
    have b:atKey (q::qs) k=atKey qs k:=by simp[atKey,Nn,e']
    rw[cZ e,b];exact ih
theorem KT.repl {H:Hp}{kvs:List (List Key×V)}{xs:List (List Key×Addr×tx)}(r:KT H kvs xs)(k:List Key){y:V}{u:tx}(ry:aY y u):
  KT H (kvs.map fun kv=>if kv.1=k then(kv.1,y)else kv) (xs.map (putAt k u)):=by
 induction r with
 |nil=>exact .nil
 | @cons p q ps qs h t ih=>
   rw[KZ,KZ]
   refine .cons ?_ ih
   obtain⟨h1,h2,h3⟩:=h
   unfold putAt
   by_cases e:p.1=k
   ·rw[if_pos e,if_pos (h1.symm.trans e)];exact⟨h1,h2,ry⟩
   ·rw[if_neg e,if_neg (fun z=>e (h1.trans z))];exact⟨h1,h2,h3⟩
theorem KT.put {H:Hp}{kvs:List (List Key×V)}{xs:List (List Key×Addr×tx)}(r:KT H kvs xs)(k:List Key){b:Addr}{y:V}{u:tx}(hb:H b=some (.tup (k.map kV)))(ry:aY y u):
  KT H (cv kvs k y) (storedH xs k b u):=by
 have e:(kvs.any fun kv=>decide (kv.1=k))=(atKey xs k).isSome:=by
  rw[gj,(r.val k).isSome_eq,Rz]
 unfold cv storedH
 rw[e]
 by_cases q:(atKey xs k).isSome=true
 ·rw[if_pos q,if_pos q];exact r.repl k ry
 ·rw[if_neg q,if_neg q];exact Paired.snoc r ⟨rfl,hb,ry⟩
theorem KT.keeps {H H':Hp}{kvs:List (List Key×V)}{xs:List (List Key×Addr×tx)}(r:KT H kvs xs)(ht:∀b ys,H b=some (.tup ys)->H' b=some (.tup ys)):KT H' kvs xs:=
 Paired.mapP r fun _ _ z=>⟨z.1,ht _ _ z.2.1,z.2.2⟩
section
variable {P:KI}{w:Lp}{H:Hp}{h:Heap}{a:Addr}
theorem zE {u:HO}(ok:HOk P w H h)(e:Rd H a u):bj P w H h a u:=e.ok ok
theorem iH {kvs:List (Key×V)}(ok:HOk P w H h)(e:Rd H a (.dK kvs)):kvs.length<=sizeLine/\(a==sysModules)=false/\∃vs,KV kvs vs/\h.DictOf (bY P w) a vs:=
 show bj P w H h a (.dK kvs)from zE ok e
theorem Ad {kvs:List (Key×V)}(ok:HOk P w H h)(e:H a=some (.dK kvs)):kvs.length<=sizeLine/\(a==sysModules)=false/\∃vs,KV kvs vs/\h.DictOf (bY P w) a vs:=iH ok (.inl e)
theorem gz {ks:List Key}(ok:HOk P w H h)(e:H a=some (.tup (ks.map kV))):(tupleKind (bY P w)).is h ks a:=by
 obtain⟨_,its,r,o,h1,h2,n,h3⟩:=(show bj P w H h a (.tup (ks.map kV))from ok a _ e)
 exact⟨o,its.toArray,n,h1,h2,h3,by simpa using oA r⟩
theorem jS {kvs:List (List Key×V)}(ok:HOk P w H h)(e:Rd H a (.dT kvs)):kvs.length<=sizeLine/\(a==sysModules)=false/\
  ∃xs,KT H kvs xs/\h.DictOfH (tupleKind (bY P w)) a xs:=by
 obtain⟨z,y,xs,r,o,es,ep,h1,h2,h3,h4,h5⟩:=(show bj P w H h a (.dT kvs)from zE ok e)
 refine⟨z,y,xs,r,o,es,ep,h1,h2,h3,h4,fun x hx=>?_,h5⟩
 have all:∀{l:List (List Key×V)}{m:List (List Key×Addr×tx)},KT H l m->∀x∈m,(tupleKind (bY P w)).is h x.1 x.2.1:=by
  intro l m q
  induction q with
  |nil=>intro x hx;exact nomatch hx
  | @cons p q ps qs hq t ih=>
    intro x hx
    rcases KD.mp hx with e|hx
    ·subst e
     exact gz ok (by rw[<-hq.1];exact hq.2.1)
    ·exact ih x hx
 exact all r x hx
theorem ux {kvs:List (List Key×V)}(ok:HOk P w H h)(e:H a=some (.dT kvs)):kvs.length<=sizeLine/\(a==sysModules)=false/\
 ∃xs,KT H kvs xs/\h.DictOfH (tupleKind (bY P w)) a xs:=jS ok (.inl e)
end
def dc (H:Hp)(a:Addr)(y:V)(r:Option V):Prop:=
 (∃kvs k,Rd H a (.dK kvs)/\y=kV k/\r=bH kvs k)\/∃kvs k b,Rd H a (.dT kvs)/\y=.ref b/\H b=some (.tup (k.map kV))/\r=bH kvs k
def ng (H:Hp)(a:Addr)(y v:V)(H':Hp):Prop:=
 (∃kvs k,H a=some (.dK kvs)/\y=kV k/\kvs.length<sizeLine/\H'=upd H a (.dK (cv kvs k v)))\/
 ∃kvs k b,H a=some (.dT kvs)/\y=.ref b/\H b=some (.tup (k.map kV))/\kvs.length<sizeLine/\H'=upd H a (.dT (cv kvs k v))
theorem dc.k {H:Hp}{a:Addr}{kvs:List (Key×V)}{k:Key}(e:H a=some (.dK kvs)):dc H a (kV k) (bH kvs k):=.inl ⟨kvs,k,.inl e,rfl,rfl⟩
theorem dc.t {H:Hp}{a b:Addr}{kvs:List (List Key×V)}{k:List Key}(e:H a=some (.dT kvs))(eb:H b=some (.tup (k.map kV))):dc H a (.ref b) (bH kvs k):=.inr ⟨kvs,k,b,.inl e,rfl,eb,rfl⟩
theorem ng.k {H:Hp}{a:Addr}{kvs:List (Key×V)}{k:Key}{v:V}(e:H a=some (.dK kvs))(hl:kvs.length<sizeLine):ng H a (kV k) v (upd H a (.dK (cv kvs k v))):=.inl ⟨kvs,k,e,rfl,hl,rfl⟩
section
variable {X:Cx}{pins:List (Addr×Obj)}{σ:St}{H:Hp}{s:Km}{a:Addr}{y v:V}{u r:tx}{o:Option V}{A:Lh}{E:tx->Km->Prop}
theorem Inv.big (I:Inv X pins σ H s):sysModules<s.heap.objs.size:=by
 have h:mainGlobals<s.heap.objs.size:=(I.mod.glob.keeps I.bk).lt
 exact Nat.lt_trans (by decide) h
theorem vz {Q:tx->Km->Prop}(hu:A.units+1<cLine)(I:Inv X pins σ H s)(g:dc H a y (some v))(ry:aY y u)(h:∀w' s',Inv X pins σ H s'->aY v w'->Q w' s'):
  wpAny (model X.prog X.w) A (getItem (.ref a) u) Q E s:=by
 rcases g with⟨kvs,k,e,ey,l⟩|⟨kvs,k,b,e,ey,eb,l⟩
 ·subst ey
  obtain⟨z,hd,vs,rel,dd⟩:=iH I.hok e
  obtain⟨w',hw,rw'⟩:=cA.some_of (v:=v) (o:=valueAt vs k) (by rw[l];exact rel.val k)
  exact wpAny_getItem_of (iN ry) dd.mapOf hw (h w' _ (I.tok _) rw')
 ·subst ey
  cases (show u=Kx b from ry)
  obtain⟨z,hd,xs,rel,dd⟩:=jS I.hok e
  obtain⟨w',hw,rw'⟩:=cA.some_of (v:=v) (o:=(atKey xs k).map (·.2)) (by rw[l];exact rel.val k)
  obtain⟨p,hp,hp2⟩:=Qs.mp hw
  refine wpAny_getItem_heap (MY hu) (gz I.hok eb) dd hp ?_
  rw[hp2]
  exact h w' _ (I.tok _) rw'
theorem AR {Q:tx->Km->Prop}(hu:A.units+1<cLine)(I:Inv X pins σ H s)(g:dc H a y o)(ry:aY y u)(h:∀s',Inv X pins σ H s'->Q (.bool (!o.isSome)) s'):
  wpAny (model X.prog X.w) A (compareOp .NotIn u (.ref a)) Q E s:=by
 rcases g with⟨kvs,k,e,ey,l⟩|⟨kvs,k,b,e,ey,eb,l⟩
 ·subst ey
  obtain⟨z,hd,vs,rel,dd⟩:=iH I.hok e
  refine wpAny_notIn_of (iN ry) hd dd.mapOf ?_
  rw[<-(rel.val k).isSome_eq,<-l]
  exact h _ (I.tok _)
 ·subst ey
  cases (show u=Kx b from ry)
  obtain⟨z,hd,xs,rel,dd⟩:=jS I.hok e
  refine wpAny_notIn_heap (MY hu) (gz I.hok eb) hd dd ?_
  have q:=(rel.val k).isSome_eq
  rw[Rz]at q
  rw[<-q,<-l]
  exact h _ (I.tok _)
theorem jL {h':Heap}{t':Nat}{ob:HO}(I:Inv X pins σ H s)(mu:Mut (H a))(hs:Mw a s.heap h')(he:∃q,h'.get? a=some q)(new:bj X.prog X.w (upd H a ob) h' a ob):
  Inv X pins σ (upd H a ob) {s with heap:=h',toks:=t'}:=
 I.write (x:=a) (e:=a) mu (.inl rfl) (fun b q hb z=>(hs.2 b hb).trans z) he new
theorem wL {P:KI}{w:Lp}{H':Hp}{h':Heap}{kvs:List (Key×V)}{vs:List (Key×tx)}(z:kvs.length<=sizeLine)(hd:(a==sysModules)=false)(rel:KV kvs vs)(dd:h'.DictOf (bY P w) a vs):
 bj P w H' h' a (.dK kvs):=⟨z,hd,vs,rel,dd⟩
theorem uQ {H':Hp}{Q:Unit->Km->Prop}(hu:A.units+1<cLine)(I:Inv X pins σ H s)(g:ng H a y v H')(ry:aY y u)(rv:aY v r)(h:∀s',Inv X pins σ H' s'->Q () s'):
  wpAny (model X.prog X.w) A (setItem (.ref a) u r) Q E s:=by
 rcases g with⟨kvs,k,e,ey,l,eH⟩|⟨kvs,k,b,e,ey,eb,l,eH⟩
 ·subst ey eH
  obtain⟨z,hd,vs,rel,dd⟩:=Ad I.hok e
  have hz:vs.length<=sizeLine:=by rw[<-rel.length];exact z
  have hl:(cv kvs k v).length<=sizeLine:=by have:=eJ kvs k v;omega
  refine wpAny_setItem_pairs (hsz:=hz) (iN ry) dd fun h' dd' hs=>h _ ?_
  have he:∃q,h'.get? a=some q:=let ⟨q,_,_,hq,_⟩:=dd';⟨q,hq⟩
  exact jL I (by rw[e];exact Mc) hs he (wL hl hd (rel.put k rv) dd')
 ·subst ey eH
  cases (show u=Kx b from ry)
  obtain⟨z,hd,xs,rel,dd⟩:=ux I.hok e
  have hz:xs.length<=sizeLine:=by rw[<-Paired.length rel];exact z
  have hl:(cv kvs k v).length<=sizeLine:=by have:=eJ kvs k v;omega
  refine wpAny_setItem_heap (hsz:=hz) (MY hu) (gz I.hok eb) dd fun h' dd' hs=>h _ ?_
  obtain⟨q,es,ep,hq,h2,h3,h4,_,h5⟩:=dd'
  refine jL I (by rw[e];exact Mc) hs ⟨q,hq⟩ ⟨hl,hd,_,(rel.put k eb rv).keeps fun c ys ec=>?_,q,es,ep,hq,h2,h3,h4,h5⟩
  rw[aC (bN ec e (fun z=>nomatch z))]
  exact ec
end
section
variable {X:Cx}{pins:List (Addr×Obj)}{σ:St}{H:Hp}{s:Km}{a:Addr}{kvs:List (Key×V)}{k:Key}{u:tx}{A:Lh}{E:tx->Km->Prop}
theorem HD {Q:tx->Km->Prop}(I:Inv X pins σ H s)(e:Rd H a (.dK kvs))(h:∀t s',Inv X pins σ H s'->Q (.int kvs.length t) s'):wpAny (model X.prog X.w) A (call (.builtin "len") [.ref a]) Q E s:=by
 obtain⟨z,hd,vs,rel,dd⟩:=iH I.hok e
 refine call_len_dict hd dd (by rw[<-rel.length];rw[Mi]at z;omega) ?_
 rw[<-rel.length]
 exact h _ _ (I.tok _)
end
theorem rE {X:Cx}{pins:List (Addr×Obj)}{σ:St}{H:Hp}{s:Km}{a:Addr}{y:V}{o:Option V}(I:Inv X pins σ H s)(g:dc H a y o):s.TypeIs (.ref a) "dict":=by
 rcases g with⟨kvs,k,e,_,_⟩|⟨kvs,k,b,e,_,_,_⟩
 ·obtain⟨_,_,vs,_,dd⟩:=iH I.hok e
  exact dd.typeIs
 ·obtain⟨_,_,xs,_,dd⟩:=jS I.hok e
  exact dd.typeIs
theorem xG {P:KI}{w:Lp}{H:Hp}(h:Heap)(hb:sysModules<h.objs.size):bj P w H (h.push {cls:=.type "dict",data:=.dict #[]}) h.objs.size (.dK []):=
 ⟨KS _,beq_eq_false_iff_ne.mpr (Lj (KQ hb)),[],.nil,Heap.DictOf.new h⟩
theorem yc {P:KI}{w:Lp}{H:Hp}(h:Heap)(hb:sysModules<h.objs.size):bj P w H (h.push {cls:=.type "dict",data:=.dict #[]}) h.objs.size (.dT []):=
 ⟨KS _,beq_eq_false_iff_ne.mpr (Lj (KQ hb)),[],.nil,_,#[],0,Kt _ rfl,⟨rfl,rfl,rfl⟩,rfl,rfl,List.nodup_nil⟩
def wB:TE:=fun _ H Q=>∀p,H p=none->Q (.ref p) (upd H p (.dK []))
def vH:TE:=fun _ H Q=>∀p,H p=none->Q (.ref p) (upd H p (.dT []))
section
variable {X:Cx}{pos:Pos}
theorem yw:PE X (.Dict [] [] pos) wB:=fun pins s σ H Q I h=>
 wpAny_Dict_empty ⟨.ref s.heap.objs.size,_,I.laid (a:=s.heap.objs.size) (o:=.dK []) (t':=s.toks) (fun _ _ q=>gV _ q) (Gt _) (xG s.heap I.big),rfl,h _ (I.hok.fresh (Gt _))⟩
theorem yh:PE X (.Dict [] [] pos) vH:=fun pins s σ H Q I h=>
 wpAny_Dict_empty ⟨.ref s.heap.objs.size,_,I.laid (a:=s.heap.objs.size) (o:=.dT []) (t':=s.toks) (fun _ _ q=>gV _ q) (Gt _) (yc s.heap I.big),rfl,h _ (I.hok.fresh (Gt _))⟩
end
section
variable {X:Cx}{pins:List (Addr×Obj)}{σ:St}{H:Hp}{s:Km}{a:Addr}{y d:V}{u r:tx}{o:Option V}{A:Lh}{E:tx->Km->Prop}
theorem DL {Q:tx->Km->Prop}(hu:A.units+1<cLine)(I:Inv X pins σ H s)(g:dc H a y o)(ry:aY y u)(rd:aY d r)(h:∀w' s',Inv X pins σ H s'->aY (o.getD d) w'->Q w' s'):
  wpAny (model X.prog X.w) A (call (.builtin "dict.get") [.ref a,u,r]) Q E s:=by
 rcases g with⟨kvs,k,e,ey,l⟩|⟨kvs,k,b,e,ey,eb,l⟩
 ·subst ey
  obtain⟨z,hd,vs,rel,dd⟩:=iH I.hok e
  refine OJ Ob dd.typeIs Qh (Qa _ _ _) (meets_dict_get_default (bY X.prog X.w) a (iN ry) hd r) ⟨_,dd.mapOf,h _ _ (I.tok _) ?_⟩
  rw[l]
  exact(rel.val k).getD rd
 ·subst ey
  cases (show u=Kx b from ry)
  obtain⟨z,hd,xs,rel,dd⟩:=jS I.hok e
  refine OJ Ob dd.typeIs Qh (Qa _ _ _) (meetsH_dict_get_default (tupleKind (bY X.prog X.w)) a b hd r) ⟨MY hu,k,xs,gz I.hok eb,dd,h _ _ (I.tok _) ?_⟩
  rw[l]
  exact(rel.val k).getD rd
end
end L2
namespace Att
open PySem PySem.W PySem.Calls PyProof.Rows
theorem ints_of_wellAll {P:Params}{h:Heap}:∀(ns:List Int)(vs:List tx),WellAll P h vs (ns.map WData.int)->Pc vs ns:=by
 intro ns
 induction ns with
 |nil=>
  intro vs w
  rw[Pn]at w
  cases w
  exact .nil
 |cons n ns ih=>
  intro vs w
  rw[KZ]at w
  cases w with
  |cons a b=>
   cases a
   exact .cons _ _ (ih _ b)
theorem script_of {l:OpenLaw}{n:Nat}(hn:l.most=some n){P:Params}{h:Heap}{args:List WData}{vals:List tx}
  (hpre:l.row.toRowW.claim.pre args=true)(hwl:WellAll P h vals args):
  ∃a vs ns,vals=[Kx a]/\args=[WData.list (ns.map WData.int)]/\h.get? a=some {cls:=.type "list",data:=.seq vs.toArray}/\Pc vs ns/\ns.length<=n:=by
 have hsh:WShape.hasAll [] args [.list .int]=true:=(pre_splitW hpre).1
 have hc:l.pre.holds [] {args:=args}=true:=(pre_splitW hpre).2
 obtain⟨d,r,rfl,h1,h2⟩:=hasAllW_cons hsh
 obtain rfl:=hasAllW_nil h2
 obtain⟨xs,rfl,h3⟩:=hasW_list h1
 obtain⟨ns,rfl⟩:=items_int h3
 have hlen:ns.length<=n:=by
  unfold OpenLaw.pre at hc
  have h4:(WTm.not (.lt (.lit (.int (n:Int))) (.len (.arg 0)))).holds [] {args:=[.list (ns.map .int)]}=true:=by
   have h4:=(holds_andW hc).1
   rw[hn]at h4
   exact h4
  have h5:=condW_of h4 (w_not (w_lt w_lit (w_len_list (w_arg rfl))))
  rw[pz]at h5
  refine Nat.le_of_not_lt fun q=>?_
  have q':(n:Int)<((ns.length:Nat):Int):=by omega
  first
   |(rw[decide_eq_true q']at h5;exact absurd h5 (by decide))
   |(simp at h5;omega)
 cases hwl with
 |cons w1 w2=>
  cases w2
  cases w1 with
  |list ho hall=>exact⟨_,_,ns,rfl,rfl,ho,ints_of_wellAll ns _ hall,hlen⟩
theorem post_true (l:OpenLaw)(args:List WData):l.row.toRowW.claim.post args (.bool true) args=true:=
 postW_of (r:=l.row.toRowW) (X:=(true==true))
  (show WShape.has [] (.bool true) .bool=true by first|rfl|decide|simp[WShape.has,WShape.arms,WShape.armsAll])
  (show(WTm.eq .res (.lit (.bool true))).value [] {args:=args,res:=some (.bool true),after:=args}=some (.bool (true==true))from w_eq_bool (w_res rfl) w_lit) rfl
theorem attach_call {l:OpenLaw}{n:Nat}{q:KI}{loose:List Str}{XP:(Str->Option tx)->Heap->Prop}{YP:Lp->Heap->Prop}{d:DefRec}
  (hn:l.most=some n)(hdf:d.params.defaults=[])
  (call:∀(w:Lp)(s₀ s₁:Km)(mg mb:Str->Option tx)(fa:Addr)(o:Obj)(pm cd doc:tx)(a:Addr)(vs:List tx)(ns:List Int),
   Ground q loose [] XP w s₀ mg mb s₁.heap->YP w s₁.heap->
   s₁.heap.get? fa=some o->o.data=.func (docDef d.name d.params d.body d.scope pm cd doc)->s₁.heap.CodeRec cd d.name->mg d.name=some (.ref fa)->
   s₁.heap.get? a=some {cls:=.type "list",data:=.seq vs.toArray}->Pc vs ns->ns.length<=n->s₁.gens=#[]->
   codeAny (model l.prog w) callerA (.call (.ref fa) ⟨[.ref a],[]⟩) (fun r s'=>r=.ok (.ret (.bool true))/\OldK s₁.heap s'.heap/\s'.os=s₁.os/\Oo s'.gens) s₁):
  WalkO q loose XP YP l.row.toRowW d [] (fun f vs=>RG f vs):=by
 intro w s₀ s₁ mg mb G Y fa o pm cd doc dV kV ho hd hcd hD hmg hg args vals as hpre hlay hrd hwl hlo
 obtain rfl:dV=.none:=Dflts.none hD hdf
 obtain rfl:kV=.none:=Dflts.noKw hD
 obtain⟨a,vs,ns,rfl,rfl,hobj,hints,hlen⟩:=script_of hn hpre hwl
 refine enter_call (Nd (call w s₀ s₁ mg mb fa o pm cd doc a vs ns G Y ho (fd_plain hd) hcd hmg hobj hints hlen hg) fun r s' hq=>?_)
 obtain⟨rfl,h2,h3,h4⟩:=hq
 exact⟨.inl ⟨.bool true,.bool true,[],rfl,fun _=>rfl,.bool true,post_true l _,fun _=>⟨Qd,fun _ hm=>(nomatch hm)⟩⟩,h2,h3,h4⟩
end Att
namespace L2
open PySem PySem.Spec PyProof.Rows
theorem oh:∀{vs:List tx}{ns:List Int},Pc vs ns->bc (ns.map V.int) vs
 |_,_,.nil=>.nil
 |_,_,.cons n t h=>.cons ⟨t,rfl⟩ (oh h)
def bE (s:Stmt):Arguments:=match s with
 |.FunctionDef _ a _ _ _ _ _ _ _ _=>a
 |_=>{posonlyargs:=[],args:=[],vararg:=none,kwonlyargs:=[],kw_defaults:=[],kwarg:=none,defaults:=[]}
def ba (s:Stmt):List Stmt:=match s with
 |.FunctionDef _ _ b _ _ _ _ _ _ _=>b
 |_=>[]
def aw (s:Stmt):Scope:=match s with
 |.FunctionDef _ _ _ _ _ _ sc _ _ _=>sc
 |_=>{kind:=.function,names:=[],isGenerator:=false,isCoroutine:=false}
abbrev E0:XK:=fun _ _ _=>False
structure Fun (K:pv)(x qual:Str)(st:Stmt)(f:Addr)(fd:Kz):Prop where
 ex:∃(oc:tx)(od:Option Addr)(kV doc pm:tx)(an:Option Addr)(cdv ct:tx)(osl:Array (Option tx)),
  fd=Na x qual (bE st) (ba st) (aw st) .none kV doc pm an cdv ct/\K.lookup f=some ⟨oc,od,.func fd,osl⟩/\SI K cdv qual=true
 kp:NV K (.ref f)=true
section
variable {P:KI}{w:Lp}{K:pv}{mg:Str->Option tx}{base:Heap}
theorem Fun.binds {x qual:Str}{st:Stmt}{f:Addr}{fd:Kz}{ps:List Str}(F:Fun K x qual st f fd)
  (h:∀(kV doc pm:tx)(an:Option Addr)(cdv ct:tx)(us:List tx),us.length=ps.length->bindArgs (Na x qual (bE st) (ba st) (aw st) .none kV doc pm an cdv ct) ⟨us,[]⟩=pure (ps.zip us)):cy K fd ps []:=by
 obtain⟨oc,od,kV,doc,pm,an,cdv,ct,osl,rfl,lk,hcd⟩:=F.ex
 exact .all (h kV doc pm an cdv ct)
theorem lJ {x qual:Str}{st:Stmt}{f:Addr}{oc:tx}{od an:Option Addr}{osl:Array (Option tx)}{kV doc pm cdv ct:tx}(l:K.lookup f=some ⟨oc,od,.func (Na x qual (bE st) (ba st) (aw st) .none kV doc pm an cdv ct),osl⟩)
 (c:SI K cdv qual=true)(k:NV K (.ref f)=true):Fun K x qual st f (Na x qual (bE st) (ba st) (aw st) .none kV doc pm an cdv ct):=⟨⟨oc,od,kV,doc,pm,an,cdv,ct,osl,rfl,l,c⟩,k⟩
end
theorem bn {n:Nat}(h:n<=1000):n<sizeLine:=LA h (by decide)
section
variable {X:Cx}
theorem vd:ck X (.builtin "len") (fun xs H Q=>∃a kvs,xs=[V.ref a]/\H a=some (.dK kvs)/\Q (.int kvs.length) H):=by
 intro pins s σ H xs us Q I r h
 obtain⟨a,kvs,rfl,ha,q⟩:=h
 obtain⟨u,rfl,ru⟩:=fE r
 cases ru
 exact HD I (.inl ha) fun t s' I'=>⟨.int kvs.length,H,I',⟨t,rfl⟩,q⟩
end
theorem Ka {A B:Prop}(h:B):if false=true then A else B:=by
 rw[if_neg KF]
 exact h
theorem mO {A B:Prop}(h:A):if true=true then A else B:=by
 rw[if_pos rfl]
 exact h
def aA (H H':Hp):Prop:=∀b o,H b=some o->H' b=some o
theorem aA.refl (H:Hp):aA H H:=fun _ _ h=>h
theorem aA.trans {H H1 H2:Hp}(a:aA H H1)(b:aA H1 H2):aA H H2:=fun c o h=>b c o (a c o h)
def dF:List (Str×MI)->List (Str×Addr)->List (Str×Addr)->List (Str×Addr)
 |[],_,cs=>cs
 |(n,k)::r,cells,cs=>dF r cells (if k==.free then(match cells.lookup n with|some a=>(n,a)::cs|none=>cs)else cs)
theorem qC {scope:Scope}{env:Env}(h:∀y∈scope.names,y.2=.free->(env.cells.lookup y.1).isSome=true):closureFor scope env=pure (dF scope.names env.cells []):=by
 have key:∀(l:List (Str×MI))(cs:List (Str×Addr)),(∀y∈l,y.2=.free->(env.cells.lookup y.1).isSome=true)->
   (forIn l cs (fun(x:Str×MI)(cs:List (Str×Addr))=>(if (x.2==MC)=true then(do let a<-cellOf env x.1;pure (Rt ((x.1,a)::cs)))else(pure (Rt cs):Sem _))):Sem (List (Str×Addr)))=pure (dF l env.cells cs):=by
  intro l
  induction l with
  |nil=>intro cs _;rfl
  |cons y r ih=>
   intro cs hy
   obtain⟨n,k⟩:=y
   rw[Nm]
   by_cases hk:k=.free
   ·subst hk
    have hs:=hy (n,.free) KY rfl
    cases e:env.cells.lookup n with
    |none=>rw[e]at hs;cases hs
    |some a=>
     have:=ih ((n,a)::cs) (fun z hz=>hy z (KC _ hz))
     simp only[dF,beq_self_eq_true,if_true,e,cellOf,SC]
     exact this
   ·have hb:(k==MC)=false:=by simpa using hk
    have:=ih cs (fun z hz=>hy z (KC _ hz))
    simp only[dF,hb,Mx,if_false,SC]
    exact this
 have:=key scope.names [] h
 unfold closureFor
 simpa using this
theorem nR:∀{l:List (Str×MI)}{cells cs:List (Str×Addr)}{x:Str}{c:Addr},(∀x c,cs.lookup x=some c->cells.lookup x=some c)->(dF l cells cs).lookup x=some c->cells.lookup x=some c
 |[],_,_,_,_,h,e=>h _ _ e
 |(n,k)::r,cells,cs,x,c,h,e=>by
  refine nR (l:=r) (fun y d hy=>?_) e
  split at hy
  ·split at hy
   ·rename_i a ha
    by_cases hyn:y=n
    ·subst hyn
     rw[QY]at hy
     rw[<-hy];exact ha
    ·rw[Mt]at hy
     have:(y==n)=false:=by simpa using hyn
     rw[this]at hy
     exact h _ _ hy
   ·exact h _ _ hy
  ·exact h _ _ hy
theorem lB:∀{l:List (Str×MI)}{cells cs:List (Str×Addr)}{x:Str},(cs.lookup x).isSome=true->((dF l cells cs).lookup x).isSome=true
 |[],_,_,_,h=>h
 |(n,k)::r,cells,cs,x,h=>by
  refine lB (l:=r) ?_
  split
  ·split
   ·rw[Mt]
    split
    ·rfl
    ·exact h
   ·exact h
  ·exact h
theorem jB:∀{l:List (Str×MI)}{cells cs:List (Str×Addr)}{x:Str},(x,MC)∈l->(cells.lookup x).isSome=true->((dF l cells cs).lookup x).isSome=true
 |[],_,_,_,h,_=>by cases h
 |(n,k)::r,cells,cs,x,h,hs=>by
  rcases KD.mp h with e|h
  ·cases e
   refine lB (l:=r) ?_
   simp only[beq_self_eq_true,if_true]
   cases e:cells.lookup n with
   |none=>rw[e]at hs;cases hs
   |some a=>simp only[QY];rfl
  ·exact jB (l:=r) h hs
theorem lR {x:Str}{k:MI}:∀{l:List (Str×MI)},l.lookup x=some k->(x,k)∈l:=fun h=>LQ h
inductive fJ (X:Cx)(scope:Scope):List Str->List Nat->Prop where
 |nil:fJ X scope [] []
 |cons {y:Str} {i:Nat} {ys:List Str} {is:List Nat} (h1:X.N[i]?=some y) (h2:X.env.kindOf y=some .cell\/X.env.kindOf y=some .free) (h3:scope.names.lookup y=some .free) (h:fJ X scope ys is):fJ X scope (y::ys) (i::is)
structure eU (scope:Scope)(x:Str)(ys:List Str):Prop where
 kind:scope.kind=.function
 nocell:∀y∈scope.names,y.2≠.cell
 names:∀y∈scope.names,y.2=.local->scope.names.lookup y.1=some .local
 own:scope.names.lookup x=some .local
 all:∀y∈scope.names,y.2=.free->y.1∈ys
 nd:(x::ys).Nodup
def bz (X:Cx)(scope:Scope)(C:Addr)(N:List Str)(s:Km)(H:Hp)(fp:List Addr):Cx:=
 {X with N:=N,s₀:=s,H₀:=H,env:=compEnvC scope (dF scope.names X.env.cells []) C X.env,outer:=X.stack,ex:=fp,fn:=fun _=>false,pn:=[],xe:=fun _ _=>False}
def bJ (σ:St)(is:List Nat):St:=is.map fun i=>(σ[i]?).getD none
theorem ii {f:Str×MI->Str×MI}(hf:∀p,(f p).1=p.1){x:Str}:∀(l:List (Str×MI)),(l.map f).lookup x=(l.lookup x).map fun k=>(f (x,k)).2
 |[]=>rfl
 |(n,k)::r=>by
  have ih:=ii hf (x:=x) r
  have e:f (n,k)=(n,(f (n,k)).2):=Tn (hf (n,k)) rfl
  rw[KZ,e,Mt,Mt]
  cases hx:x==n with
  |true=>
   have e':x=n:=by simpa using hx
   subst e';rfl
  |false=>exact ih
theorem iG (scope:Scope)(env:Env)(x:Str):(relabel scope env).names.lookup x=(scope.names.lookup x).map fun k=>if (k==MC&&env.scope.kind==.function&&env.kindOf x==some .cell)then NP else k:=by
 have hf:∀p:Str×MI,((fun(n,k)=>if (k==MC&&env.scope.kind==.function&&env.kindOf n==some .cell)then(n,NP)else(n,k)) p:Str×MI).1=p.1:=by
  intro p
  obtain⟨n,k⟩:=p
  show(if _ then(n,NP)else(n,k)).1=n
  split<;>rfl
 have:=ii hf (x:=x) scope.names
 show LR x (List.map _ scope.names)=_
 rw[this]
 congr 1
 funext k
 show(if _ then(x,NP)else(x,k)).2=_
 split<;>rfl
theorem ik {scope:Scope}{env:Env}{x:Str}{k:MI}(nc:∀y∈scope.names,y.2≠.cell)(h:(relabel scope env).names.lookup x=some k)(hk:k=.cell\/k=.free):(x,MC)∈scope.names:=by
 rw[iG]at h
 cases q:scope.names.lookup x with
 |none=>rw[q]at h;cases h
 |some k'=>
  have hm:=lR q
  rw[q]at h
  have h:(if (k'==MC&&env.scope.kind== .function&&env.kindOf x==some .cell)then NP else k')=k:=KG h
  by_cases hc:k'=.free
  ·subst hc;exact hm
  ·have hb:(k'==MC)=false:=by simpa using hc
   rw[hb]at h
   have h:k'=k:=h
   subst h
   rcases hk with z|z
   ·exact absurd z (nc _ hm)
   ·exact absurd z hc
theorem qp {scope:Scope}{env:Env}{x:Str}(h:scope.names.lookup x=some .free):(relabel scope env).names.lookup x=some .cell\/(relabel scope env).names.lookup x=some .free:=by
 rw[iG,h]
 show some (if _ then _ else _)=_\/some (if _ then _ else _)=_
 split
 ·exact .inl rfl
 ·exact .inr rfl
theorem oG {scope:Scope}{env:Env}{x:Str}(h:scope.names.lookup x=some .local):(relabel scope env).names.lookup x=some .local:=by
 rw[iG,h];rfl
theorem wy {X:Cx}{scope:Scope}{ys:List Str}{is:List Nat}{m:Str->Option tx}{h:Heap}{σ:St}(hc:fJ X scope ys is)
  (hl:∀(i:Nat)(x:Str)(v:V),X.N[i]? =some x->σ[i]? =some (some v)->Vis X.env.scope x->∃u,aY v u/\DQ X.env h m x u)(nd:True):
  ∀(j:Nat)(y:Str)(v:V),ys[j]? =some y->(bJ σ is)[j]? =some (some v)->∃u,aY v u/\scope.names.lookup y=some .free/\∃c,X.env.cells.lookup y=some c/\h.IsCell c (some u):=by
 induction hc with
 |nil=>intro j y v e;simp at e
 | @cons z i zs js h1 h2 h3 hr ih=>
   intro j y v e1 e2
   cases j with
   |zero=>
    simp at e1;subst e1
    have e2:(σ[i]?).getD none=some v:=by simpa[bJ]using e2
    have e3:σ[i]? =some (some v):=by
     cases q:σ[i]? with
     |none=>rw[q]at e2;simp at e2
     |some o=>rw[q]at e2;simp at e2;rw[e2]
    have hv:Vis X.env.scope z:=by
     rcases h2 with q|q
     ·exact .inr (.inl q)
     ·exact .inr (.inr q)
    obtain⟨u,r,l⟩:=hl i z v h1 e3 hv
    refine⟨u,r,h3,?_⟩
    rcases l with⟨k,_⟩|⟨_,c,e,ic⟩
    ·rcases h2 with q|q
     ·rw[q]at k;cases k
     ·rw[q]at k;cases k
    ·exact⟨c,e,ic⟩
   |succ j=>
    exact ih j y v (by simpa using e1) (by simpa[bJ]using e2)
def sP (is:List Nat)(tc:TT)(te:TE)(σ:St)(D:Addr)(J:It)(H1:Hp)(Q:VK):Prop:=∃W:Nat->Nat->List V->Hp->Prop,(∃m,W 0 m [] (upd H1 D (.lst [])))/\
 ∀i m ys H2,W i m ys H2->(J.stop i H2/\Q (.ref D) H2)\/(J.go i H2/\∀x H3,J.yld i H2 x H3->tc (some x::bJ σ is) H3 fun b H4=>if b=true then
  te (some x::bJ σ is) H4 fun y H5=>H5 D=some (.lst ys)/\ys.length<sizeLine/\∃m',m'<m/\W (i+1) m' (ys++[y]) (upd H5 D (.lst (ys++[y])))
  else ∃m',m'<m/\W (i+1) m' ys H4)
def fe (is:List Nat)(wi:TI)(tc:TT)(te:TE):TE:=fun σ H Q=>wi σ H fun J H1=>∀D,H1 D=none->sP is tc te σ D J H1 Q
theorem rP (elt target iter c:Expr)(scope:Scope)(pos:Pos)(it acc:tx)(env:Env):
  compTurn (.ListComp elt [⟨target,iter,[c],0⟩] scope pos) 0 it acc env=(standAt iter.pos >>= fun _=>pyNext it >>= fun r=>match r with
   |none=>pure (.done .next)
   |some v=>letOwnedTupleGo target it v >>= fun _=>assign target env v >>= fun _=>isTrue c env (eval c env) >>= fun ok=>
    (if ok=true then(eval elt env >>= fun x=>call (.builtin "list.append") [acc,x] >>= fun _=>pure ())else pure ()) >>= fun _=>
     again (.compLoop (.ListComp elt [⟨target,iter,[c],0⟩] scope pos) 0 it acc env)):=by
 unfold compTurn
 simp only[Nm,NQ,QB,QC,List.getElem?_nil,bind_assoc,SC,bne_self_eq_false,Mx,if_false,if_true]
 congr 1
 funext _
 congr 1
 funext r
 cases r with
 |none=>rfl
 |some v=>
  simp only[bind_assoc,SC,if_true]
  congr 1;funext _
  congr 1;funext _
  congr 1;funext b
  cases b<;>simp
section
variable {prog:KI}{w:Lp}{A:Lh}{R:Py->Km->Prop}{s:Km}
theorem jg {elt target iter c:Expr}{scope:Scope}{pos:Pos}{it acc:tx}{env:Env}(I:Nat->Km->Prop)
  (turn:∀n s,I n s->wpAny (model prog w) A (pyNext it) (fun r s₁=>match r with
   |none=>R (.ok .next) s₁
   |some v=>wpAny (model prog w) A (letOwnedTupleGo target it v) (fun _ s₁=>wpAny (model prog w) A (assign target env v) (fun _ s₂=>wpAny (model prog w) A (isTrue c env (eval c env)) (fun ok s₂=>if ok=true then wpAny (model prog w) A (eval elt env) (fun x s₃=>
    wpAny (model prog w) A (call (.builtin "list.append") [acc,x]) (fun _ s₄=>∃m,m<n/\I m s₄) (notedBy (model prog w) A env fun e s'=>R (.error e) s') s₃)
    (notedBy (model prog w) A env fun e s'=>R (.error e) s') s₂ else ∃m,m<n/\I m s₂) (notedBy (model prog w) A env fun e s'=>R (.error e) s') s₂) (notedBy (model prog w) A env fun e s'=>R (.error e) s') s₁) (notedBy (model prog w) A env fun e s'=>R (.error e) s') s₁) (notedBy (model prog w) A env fun e s'=>R (.error e) s') s)
  (n:Nat)(h:I n s):
  codeAny (model prog w) A (.compLoop (.ListComp elt [⟨target,iter,[c],0⟩] scope pos) 0 it acc env) R s:=by
 refine codeAny_loop rfl I (fun n s hI=>?_) n h
 show wpAny _ _ ((compTurn (.ListComp elt [⟨target,iter,[c],0⟩] scope pos) 0 it acc env).onRaise (fun x=>do noteFrame x env;theTreesLotGoes x)) _ _ s
 refine wpAny_noted ?_
 rw[rP]
 refine cW (NK (cW (KU (turn n s hI) (fun r s₁ h₁=>?_) fun _ _ h'=>h')))
 cases r with
 |none=>exact Ko h₁
 |some v=>
  refine cW (KU h₁ (fun _ s₁ h₁=>cW (KU h₁ (fun _ s₂ h₂=>cW (KU h₂ (fun ok s₃ h₃=>?_) fun _ _ h'=>h')) fun _ _ h'=>h')) fun _ _ h'=>h')
  cases ok with
  |true=>
   rw[if_pos rfl]at h₃
   simp only[if_true]
   exact cW (cW (KU h₃ (fun x s₃ h₃=>cW (KU h₃ (fun _ s₄ h₄=>Ko (Ko ⟨rfl,h₄⟩)) fun _ _ h'=>h')) fun _ _ h'=>h'))
  |false=>
   rw[if_neg KF]at h₃
   simp only[Mx,if_false]
   exact cW (Ko (Ko ⟨rfl,h₃⟩))
theorem jd {elt target iter:Expr}{scope:Scope}{pos:Pos}{it acc:tx}{env:Env}(I:Nat->Km->Prop)
  (turn:∀n s,I n s->wpAny (model prog w) A (pyNext it) (fun r s₁=>match r with
   |none=>R (.ok .next) s₁
   |some v=>wpAny (model prog w) A (letOwnedTupleGo target it v) (fun _ s₁=>wpAny (model prog w) A (assign target env v) (fun _ s₂=>wpAny (model prog w) A (eval elt env) (fun x s₃=>
    wpAny (model prog w) A (call (.builtin "list.append") [acc,x]) (fun _ s₄=>∃m,m<n/\I m s₄) (notedBy (model prog w) A env fun e s'=>R (.error e) s') s₃)
    (notedBy (model prog w) A env fun e s'=>R (.error e) s') s₂) (notedBy (model prog w) A env fun e s'=>R (.error e) s') s₁) (notedBy (model prog w) A env fun e s'=>R (.error e) s') s₁) (notedBy (model prog w) A env fun e s'=>R (.error e) s') s)
  (n:Nat)(h:I n s):
  codeAny (model prog w) A (.compLoop (.ListComp elt [⟨target,iter,[],0⟩] scope pos) 0 it acc env) R s:=by
 refine codeAny_loop rfl I (fun n s hI=>?_) n h
 show wpAny _ _ ((compTurn (.ListComp elt [⟨target,iter,[],0⟩] scope pos) 0 it acc env).onRaise (fun x=>do noteFrame x env;theTreesLotGoes x)) _ _ s
 refine wpAny_noted ?_
 rw[compTurn_list1]
 refine cW (NK (cW (KU (turn n s hI) (fun r s₁ h₁=>?_) fun _ _ h'=>h')))
 cases r with
 |none=>exact Ko h₁
 |some v=>
  exact cW (KU h₁ (fun _ s₁ h₁=>cW (KU h₁ (fun _ s₂ h₂=>cW (cW (KU h₂ (fun x s₃ h₃=>cW (KU h₃
   (fun _ s₄ h₄=>Ko (Ko ⟨rfl,h₄⟩)) fun _ _ h'=>h')) fun _ _ h'=>h'))) fun _ _ h'=>h')) fun _ _ h'=>h')
end
def tB (X:Cx)(ifs:List Expr)(tc:TT):Prop:=match ifs with
 |[]=>tc=fun _ H Q=>Q true H
 |[c]=>PT X c tc
 |_=>False
section
variable {X:Cx}
theorem xS {scope:Scope}{ys:List Str}{is:List Nat}(h:fJ X scope ys is):is.length=ys.length:=by
 induction h with
 |nil=>rfl
 |cons _ _ _ _ ih=>simp[ih]
theorem og {scope:Scope}{ys:List Str}{is:List Nat}(h:fJ X scope ys is){y:Str}(hy:y∈ys):X.env.kindOf y=some .cell\/X.env.kindOf y=some .free:=by
 induction h with
 |nil=>cases hy
 |cons _ h2 _ _ ih=>
  rcases KD.mp hy with e|e
  ·rw[e];exact h2
  ·exact ih e
theorem oo {elt iter:Expr}{ifs:List Expr}{x:Str}{px pos:Pos}{scope:Scope}{ys:List Str}{is:List Nat}{tc:TT}{te:TE}{pins:List (Addr×Obj)}{σ:St}{H2:Hp}{s2:Km}{it:Addr}{fp:List Addr}{tn:Nat->Heap->Prop}{J:It}{E:tx->Km->Prop}{Q:VK}{RR:tx->Addr->Py->Km->Prop}
  (hc:X.calm=true)(S:eU scope x ys)(hcap:fJ X scope ys is)
  (hif:∀C s H fp,tB (bz X scope C (x::ys) s H fp) ifs tc)(he:∀C s H fp,PE (bz X scope C (x::ys) s H fp) elt te)
  (I2:Inv X pins σ H2 s2)(T:ju X.prog X.w X.K (.Name x px) J fp it tn)(st2:tn 0 s2.heap)(f2:∀b∈fp,jx X pins H2 b)
  (hW:∀D,H2 D=none->∃W:Nat->Nat->List V->Hp->Prop,(∃m,W 0 m [] (upd H2 D (.lst [])))/\
   ∀i m ys H2,W i m ys H2->(J.stop i H2/\Q (.ref D) H2)\/(J.go i H2/\∀x H3,J.yld i H2 x H3->tc (some x::bJ σ is) H3 fun b H4=>if b=true then
    te (some x::bJ σ is) H4 fun y H5=>H5 D=some (.lst ys)/\ys.length<sizeLine/\∃m',m'<m/\W (i+1) m' (ys++[y]) (upd H5 D (.lst (ys++[y])))
    else ∃m',m'<m/\W (i+1) m' ys H4))
  (hRR:∀D C H' s',(X.s₀.heap.objs.size<=C/\∀p∈X.pn++pins,p.1≠C)->(∃m,s'.heap.Ns C m)->C≠X.env.locals->H' C=none->Inv X pins σ H' s'->(∀h',Mw C s'.heap h'->Inv X pins σ H' {s' with heap:=h'})->Q (.ref D) H'->RR (.ref D) C (.ok .next) s'):
  wpAny (model X.prog X.w) X.A (newList []) (fun acc s₃=>wpAny (model X.prog X.w) X.A (newFunctionEnv scope X.env.globals (dF scope.names X.env.cells []) [] X.env.qual none .none (some X.env)) (fun cenv s₄=>
   codeAny (model X.prog X.w) X.A (.compStart (.ListComp elt [⟨.Name x px,iter,ifs,0⟩] scope pos) 0 (.ref it) acc {cenv with scope:=relabel scope X.env}) (RR acc cenv.locals) s₄) E s₃) E s2:=by
 have hf2:H2 s2.heap.objs.size=none:=I2.fresh
 refine LY (OS S.nocell (by intro y hy;simp at hy) (fun h₁ hns₁ hsb₁=>?_) S.kind)
 dsimp only at hns₁ hsb₁⊢
 have I3:Inv X pins σ (upd H2 s2.heap.objs.size (.lst [])) {s2 with heap:=s2.heap.push {cls:=.type "list",data:=.seq ([]:List tx).toArray}}:=I2.lnew (t':=s2.toks) (ys:=[]) .nil (KS _)
 obtain⟨W,⟨m0,w0⟩,turn⟩:=hW _ hf2
 generalize hD:s2.heap.objs.size=D at I3 w0 turn hf2⊢
 generalize hs3:({s2 with heap:=s2.heap.push {cls:=.type "list",data:=.seq ([]:List tx).toArray}}:Km)=s3 at I3
 have hp3:s2.heap.push {cls:=.type "list",dict:=none,data:=.seq ([]:List tx).toArray}=s3.heap:=by rw[<-hs3]
 rw[hp3]at hns₁ hsb₁⊢
 have tk3:s2.toks=s3.toks:=by rw[<-hs3]
 generalize hH3:upd H2 D (.lst [])=H3 at I3 w0
 generalize hC:s3.heap.objs.size=C at hns₁ hsb₁⊢
 have keep2:∀b o,s2.heap.get? b=some o->s3.heap.get? b=some o:=fun b o e=>by rw[<-hp3];exact gV _ e
 have keep3:∀b o,s3.heap.get? b=some o->h₁.get? b=some o:=fun b o e=>hsb₁.extBut b o (by rw[<-hC];exact KQ (Kp e)) (gV _ e)
 have st3:tn 0 s3.heap:=T.keep _ _ _ st2 fun b _ o e=>keep2 b o e
 have st4:tn 0 h₁:=T.keep _ _ _ st3 fun b _ o e=>keep3 b o e
 have fp3:∀b∈fp,H3 b=none/\b<C:=fun b hb=>by
  obtain⟨o,e,_⟩:=T.obj _ _ st2 b hb
  refine⟨?_,by rw[<-hC];exact Kp (keep2 b o e)⟩
  rw[<-hH3,aC (by rw[<-hD];exact KQ (Kp e))]
  exact(f2 b hb).1
 have hcells:∀{z:Str}{c:Addr},(dF scope.names X.env.cells []).lookup z=some c->X.env.cells.lookup z=some c:=fun h=>nR (fun _ _ q=>by cases q) h
 have hX:(bz X scope C (x::ys) s3 H3 fp).Ok:=by
  refine⟨I3.ok.mod,S.kind,I3.ok.glob,I3.ok.blt,Oq hC,fun y z c h1 h2=>I3.ok.inj y z c (hcells h1) (hcells h2),fun y hy=>?_,fun y c h _=>absurd (show false=true from h) KF,I3.ok.hd,I3.ok.frames,.inl rfl,fun b hb=>⟨KQ (fp3 b hb).2,fun y c h=>(f2 b hb).2.2.2.2.1 y c (hcells h)⟩,fun b o e=>I3.bs b o e,KN I3.ok.bsz I3.sz,fun b o e hb=>?_,fun b hb z=>?_,I3.stack,I3.stkFree⟩
  ·have hy:(relabel scope X.env).names.lookup y=some .cell\/(relabel scope X.env).names.lookup y=some .free:=hy
   have hm:(y,MC)∈scope.names:=by
    rcases hy with q|q
    ·exact ik S.nocell q (.inl rfl)
    ·exact ik S.nocell q (.inr rfl)
   have hs:∃c,X.env.cells.lookup y=some c:=by
    by_cases hk:X.env.kindOf y=some .cell\/X.env.kindOf y=some .free
    ·exact I3.ok.has y hk
    ·exact absurd (og hcap (S.all _ hm rfl)) hk
   exact Lk.mp (jB hm (Lk.mpr hs))
  ·rcases(f2 b hb).2.2.2.1 with z|z
   ·exact I3.ok.noex b o e z
   ·exact absurd (KM (Kp e) (KN I3.ok.bsz z)) (Ml _)
  ·rcases KD.mp (I3.stkSub b z)with q|q
   ·exact(f2 b hb).2.1 q
   ·exact(f2 b hb).2.2.1 q
 have I4:Inv (bz X scope C (x::ys) s3 H3 fp) [] (none::bJ σ is) H3 {s2 with heap:=h₁,toks:=s2.toks+([]:List (Str×tx)).length}:=by
  obtain⟨m3,hm3,hl3⟩:=id I3.loc
  refine⟨hX,?_,?_,Un.kept keep3,⟨_,hns₁,fun i y v e1 e2 e3=>?_⟩,fun y c e=>?_,?_,fun y c e=>I3.freeC y c (hcells e),fun p hp=>absurd (show p∈([]:List (Addr×Obj))from hp) (by simp),I3.hok.kept keep3,?_⟩
  ·show s2.os=s3.os
   rw[<-hs3]
  ·have:=I2.bare;exact this
  ·cases i with
   |zero=>simp at e2
   |succ j=>
    obtain⟨u,r,hfr,c,ec,ic⟩:=wy hcap hl3 trivial j y v (by have e1':(x::ys)[j+1]? =some y:=e1;simpa using e1') (by simpa using e2)
    have hk:=qp (env:=X.env) hfr
    obtain⟨c',ec'⟩:=Lk.mp (jB (cs:=[]) (lR hfr) (by rw[ec];rfl) (cells:=X.env.cells))
    have:c'=c:=by have:=hcells ec';rw[ec]at this;exact(KG this).symm
    subst this
    obtain⟨o,ho,hd⟩:=ic
    exact⟨u,r,.inr ⟨hk,c',ec',o,keep3 _ _ ho,hd⟩⟩
  ·obtain⟨v,o,ho,hd⟩:=I3.cell y c (hcells e)
   exact⟨v,o,keep3 _ _ ho,hd⟩
  ·have:=I3.hok.fresh (a:=C) (Oq hC)
   exact this
  ·have:=xS hcap
   show(none::bJ σ is).length=(x::ys).length
   simp[bJ,this]
 have lenσ:∀v:Option V,(v::bJ σ is).set 0=fun w=>w::bJ σ is:=fun v=>rfl
 have hown:(relabel scope X.env).names.lookup x=some .local:=oG S.own
 have loop:codeAny (model X.prog X.w) X.A (.compLoop (.ListComp elt [⟨.Name x px,iter,ifs,0⟩] scope pos) 0 (.ref it) (.ref D) (compEnvC scope (dF scope.names X.env.cells []) C X.env)) (RR (.ref D) C)
   {s2 with heap:=h₁,toks:=s2.toks+([]:List (Str×tx)).length}:=by
  have fin:∀{H':Hp}{v:Option V}{s':Km},Inv (bz X scope C (x::ys) s3 H3 fp) [] (v::bJ σ is) H' s'->Q (.ref D) H'->RR (.ref D) C (.ok .next) s':=fun{H' v s'} J q=>by
   obtain⟨m',hm',_⟩:=J.loc
   have hCL:C≠X.env.locals:=Lj (by rw[<-hC];exact KQ I3.lt)
   have back:∀h',Mw C s'.heap h'->Inv X pins σ H' {s' with heap:=h'}:=fun h' hs'=>by
    have os':s'.os=s3.os:=J.os
    refine I3.call' (s':={s' with heap:=h'}) (ch:=fp) os' ⟨fun b o e n hb hx=>?_,fun b o e n hb hx=>?_,fun b o e n hx=>J.base.free b o e n hx,fun b o e hx=>?_,J.base.tups,J.base.frzs,J.base.tbls⟩ (fun b o e=>?_) J.bare fun b hb=>?_
    ·exact hs'.extBut b o (by rw[<-hC];exact KQ (Kp e)) (J.base.keep b o e n hb hx)
    ·obtain⟨sl,e1⟩:=J.base.slot b o e n hb hx
     exact⟨sl,hs'.extBut b _ (by rw[<-hC];exact KQ (Kp e)) e1⟩
    ·obtain⟨o',e1⟩:=J.base.there b o e hx
     exact⟨o',hs'.extBut b _ (by rw[<-hC];exact KQ (Kp e)) e1⟩
    ·refine(J.hok b o e).stay (fun c w' hc q=>(hs'.2 c ?_).trans q) (fun _ q=>q) fun _ _ q=>q
     have fC:H' C=none:=J.free
     rintro rfl
     rcases hc with rfl|hc
     ·rw[fC]at e;cases e
     ·rw[fC]at hc;cases hc
    ·obtain⟨_,a1,_,a2,a3,a4⟩:=f2 b hb
     exact⟨a2,a1,a3,a4⟩
   refine hRR D C H' s' ⟨by rw[<-hC];exact I3.sz,fun p hp=>by rw[<-hC];exact KQ (Kp (I3.pin p hp).1)⟩ ⟨m',hm'⟩ hCL J.free ?_ back q
   have:=back s'.heap (.refl ..)
   exact this
  have stat:∀{H':Hp},(∀b∈fp,H' b=none)->∀b∈fp,jx (bz X scope C (x::ys) s3 H3 fp) [] H' b:=fun hn b hb=>by
   obtain⟨_,a1,a5,a2,a3,a4⟩:=f2 b hb
   refine⟨hn b hb,KQ (fp3 b hb).2,fun z=>?_,.inl hb,fun y c e=>a3 y c (hcells e),fun p hp=>absurd (show p∈([]:List (Addr×Obj))from hp) (by simp)⟩
   rcases KD.mp (I3.stkSub b z)with q|q
   ·exact a1 q
   ·exact a5 q
  have turnAt:∀n s,(∃i v ys' H',Inv (bz X scope C (x::ys) s3 H3 fp) [] (v::bJ σ is) H' s/\tn i s.heap/\(∀b∈fp,H' b=none)/\W i n ys' H')->
    wpAny (model X.prog X.w) X.A (pyNext (.ref it)) (fun r s₁=>match r with
     |none=>RR (.ref D) C (.ok .next) s₁
     |some u=>wpAny (model X.prog X.w) X.A (letOwnedTupleGo (.Name x px) (.ref it) u) (fun _ s₁=>wpAny (model X.prog X.w) X.A (assign (.Name x px) (compEnvC scope (dF scope.names X.env.cells []) C X.env) u) (fun _ s₂=>
      ∃(xx:V)(i:Nat)(ys':List V)(H3' H6:Hp)(pl:List (Addr×Obj)),Inv (bz X scope C (x::ys) s3 H3 fp) ([]++pl) (some xx::bJ σ is) H6 s₂/\
       (∀s7 v7 H7,Inv (bz X scope C (x::ys) s3 H3 fp) ([]++pl) (v7::bJ σ is) H7 s7->Inv (bz X scope C (x::ys) s3 H3 fp) [] (v7::bJ σ is) H7 s7/\tn (i+1) s7.heap/\∀b∈fp,H7 b=none)/\
       (tc (some xx::bJ σ is) H6 fun b H4=>if b=true then te (some xx::bJ σ is) H4 fun y H5=>H5 D=some (.lst ys')/\ys'.length<sizeLine/\∃m',m'<n/\W (i+1) m' (ys'++[y]) (upd H5 D (.lst (ys'++[y])))
        else ∃m',m'<n/\W (i+1) m' ys' H4)) (fun _ _=>False) s₁) (fun _ _=>False) s₁) (fun _ _=>False) s:=by
   rintro n s ⟨i,v,ys',H',J,st,fr,w'⟩
   rcases turn i n ys' H' w' with⟨stop,qn⟩|⟨go,step⟩
   ·refine thn (T.done (bz X scope C (x::ys) s3 H3 fp) rfl rfl rfl hc i [] s _ H' (fun _ _=>False) J (stat fr) st stop) fun r s4 ⟨hr,J4⟩=>?_
    subst hr
    exact fin J4 qn
   ·refine thn (T.item (bz X scope C (x::ys) s3 H3 fp) rfl rfl rfl hc i [] s _ H' (fun _ _=>False) J (stat fr) st go) fun r s4 ⟨u,hr,h4⟩=>?_
    subst hr
    refine thn h4 fun _ s5 ⟨xx,H5,J5,r5,y5,st5,fr5⟩=>?_
    have J5':=J5.pinned (stat fr5) (T.obj _ _ st5)
    refine PU (gi (i:=0) J5' S.nd rfl (.inl hown) r5 (fun s6 J6=>?_) (.inr hown))
    refine⟨xx,i,ys',H5,H5,jD fp s5.heap,J6,fun s7 v7 H7 J7=>⟨J7.unpinned,T.keep _ _ _ st5 fun b hb o e=>(J7.pin (b,o) (KP _ (KP _ (fT hb e)))).1,fun b hb=>?_⟩,step xx H5 y5⟩
    obtain⟨o,e,d⟩:=T.obj _ _ st5 b hb
    exact(J7.pin (b,o) (KP _ (KP _ (fT hb e)))).2.1
  have start0:∃i v ys' H',Inv (bz X scope C (x::ys) s3 H3 fp) [] (v::bJ σ is) H' {s2 with heap:=h₁,toks:=s2.toks+([]:List (Str×tx)).length}/\tn i h₁/\(∀b∈fp,H' b=none)/\W i m0 ys' H':=
   ⟨0,none,[],H3,I4,st4,fun b hb=>(fp3 b hb).1,w0⟩
  have emit:∀(n:Nat)(xx:V)(i:Nat)(ys':List V)(H4:Hp)(pl:List (Addr×Obj))(s₂:Km),Inv (bz X scope C (x::ys) s3 H3 fp) ([]++pl) (some xx::bJ σ is) H4 s₂->
    (∀s7 v7 H7,Inv (bz X scope C (x::ys) s3 H3 fp) ([]++pl) (v7::bJ σ is) H7 s7->Inv (bz X scope C (x::ys) s3 H3 fp) [] (v7::bJ σ is) H7 s7/\tn (i+1) s7.heap/\∀b∈fp,H7 b=none)->
    (te (some xx::bJ σ is) H4 fun y H5=>H5 D=some (.lst ys')/\ys'.length<sizeLine/\∃m',m'<n/\W (i+1) m' (ys'++[y]) (upd H5 D (.lst (ys'++[y]))))->
    wpAny (model X.prog X.w) X.A (eval elt (compEnvC scope (dF scope.names X.env.cells []) C X.env)) (fun y s₃=>wpAny (model X.prog X.w) X.A (call (.builtin "list.append") [.ref D,y]) (fun _ s₄=>
     ∃m,m<n/\∃i v ys' H',Inv (bz X scope C (x::ys) s3 H3 fp) [] (v::bJ σ is) H' s₄/\tn i s₄.heap/\(∀b∈fp,H' b=none)/\W i m ys' H') (fun _ _=>False) s₃) (fun _ _=>False) s₂:=by
   intro n xx i ys' H4 pl s₂ J2 back q
   refine thn (he C s3 H3 fp ([]++pl) s₂ _ H4 _ J2 q) fun y s₃ ⟨yv,H5,J3,r3,q1,q2,q3⟩=>?_
   refine thn (br (X:=bz X scope C (x::ys) s3 H3 fp) ([]++pl) s₃ _ H5 (.ref D) [yv] (.ref D) [y] (fun v H7=>v=.non/\H7=upd H5 D (.lst (ys'++[yv]))) J3 rfl (.cons r3 .nil) ⟨D,ys',yv,rfl,rfl,q1,q2,rfl,rfl⟩) fun _ s₄ ⟨_,H7,J4,_,_,e7⟩=>?_
   subst e7
   obtain⟨m',hm',w'⟩:=q3
   obtain⟨b1,b2,b3⟩:=back s₄ _ _ J4
   exact⟨m',hm',i+1,some xx,ys'++[yv],_,b1,b2,b3,w'⟩
  have ex0:∀{α:Type}{t:Sem α}{Q':α->Km->Prop}{E':tx->Km->Prop}{s:Km},wpAny (model X.prog X.w) X.A t Q' (fun _ _=>False) s->wpAny (model X.prog X.w) X.A t Q' E' s:=fun h=>KU h (fun _ _ q=>q) fun _ _ q=>q.elim
  cases ifs with
  |nil=>
   have htc:tc=fun _ H Q=>Q true H:=hif C s3 H3 fp
   subst htc
   refine jd (fun n s=>∃i v ys' H',Inv (bz X scope C (x::ys) s3 H3 fp) [] (v::bJ σ is) H' s/\tn i s.heap/\(∀b∈fp,H' b=none)/\W i n ys' H') (fun n s hI=>?_) m0 start0
   refine KU (turnAt n s hI) (fun r s₁ h₁=>?_) fun _ _ q=>q.elim
   cases r with
   |none=>exact h₁
   |some u=>
    refine KU h₁ (fun _ s₁ h₁=>KU h₁ (fun _ s₂ h₂=>?_) fun _ _ q=>q.elim) fun _ _ q=>q.elim
    obtain⟨xx,i,ys',_,H6,pl,J2,back,q⟩:=h₂
    dsimp only at q
    rw[if_pos rfl]at q
    exact KU (emit n xx i ys' H6 pl s₂ J2 back q) (fun y s₃ h₃=>ex0 h₃) fun _ _ q=>q.elim
  |cons c r0=>
   cases r0 with
   |cons _ _=>exact(hif C s3 H3 fp).elim
   |nil=>
    have hpt:PT (bz X scope C (x::ys) s3 H3 fp) c tc:=hif C s3 H3 fp
    refine jg (fun n s=>∃i v ys' H',Inv (bz X scope C (x::ys) s3 H3 fp) [] (v::bJ σ is) H' s/\tn i s.heap/\(∀b∈fp,H' b=none)/\W i n ys' H') (fun n s hI=>?_) m0 start0
    refine KU (turnAt n s hI) (fun r s₁ h₁=>?_) fun _ _ q=>q.elim
    cases r with
    |none=>exact h₁
    |some u=>
     refine KU h₁ (fun _ s₁ h₁=>KU h₁ (fun _ s₂ h₂=>?_) fun _ _ q=>q.elim) fun _ _ q=>q.elim
     obtain⟨xx,i,ys',_,H6,pl,J2,back,q⟩:=h₂
     refine KU (hpt ([]++pl) s₂ _ H6 _ J2 q) (fun b s₃ h₃=>?_) fun _ _ q=>q.elim
     obtain⟨H4,J4,q4⟩:=h₃
     cases b with
     |true=>
      rw[if_pos rfl]at q4⊢
      exact KU (emit n xx i ys' H4 pl s₃ J4 back q4) (fun y s₃ h₃=>ex0 h₃) fun _ _ q=>q.elim
     |false=>
      rw[if_neg KF]at q4⊢
      obtain⟨m',hm',w'⟩:=q4
      obtain⟨b1,b2,b3⟩:=back s₃ _ _ J4
      exact⟨m',hm',i+1,some xx,ys',_,b1,b2,b3,w'⟩
 exact codeAny_compStart_list loop (T.self X.A 0 _ _ _ st4 loop)
end
section
variable {X:Cx}
theorem rW {scope:Scope}{x:Str}{ys:List Str}{is:List Nat}(ok:X.Ok)(S:eU scope x ys)(hcap:fJ X scope ys is):closureFor scope X.env=pure (dF scope.names X.env.cells []):=
 qC fun y hy hk=>by
  obtain⟨c,e⟩:=ok.has y.1 (og hcap (S.all y hy hk))
  rw[e];rfl
theorem Bt {elt iter:Expr}{ifs:List Expr}{x:Str}{px pos:Pos}{scope:Scope}{ys:List Str}{is:List Nat}{wi:TI}{tc:TT}{te:TE}
  (hc:X.calm=true)(S:eU scope x ys)(hcap:fJ X scope ys is)(hi:PI X (.Name x px) iter wi)
  (hif:∀C s H fp,tB (bz X scope C (x::ys) s H fp) ifs tc)(he:∀C s H fp,PE (bz X scope C (x::ys) s H fp) elt te)
  (hs:∀x,foldedSetIterable iter X.env x=pure x:=by intro _;rfl):PE X (.ListComp elt [⟨.Name x px,iter,ifs,0⟩] scope pos) (fe is wi tc te):=by
 intro pins s σ H Q I h
 rw[eval_ListComp]
 refine Ru (use:=none) rfl hs (rW I.ok S hcap) S.kind S.names (thn (hi pins s σ H _ I h) fun v s1 h1=>thn h1 fun itv s2 h2=>?_)
 obtain⟨it,fp,tn,J,H2,rfl,I2,T,st2,f2,hW⟩:=h2
 refine oo (RR:=fun acc C=>compPost (model X.prog X.w) X.A X.xe none (EP X pins σ Q) acc C) hc S hcap hif he I2 T st2 f2 hW ?_
 intro D C H' s' hlt hns hne hfr I' back q
 obtain⟨m,hm⟩:=hns
 exact⟨m,hm,fun h' hs'=>⟨.ref D,H',back h' hs',rfl,q⟩⟩
theorem tO {elt iter:Expr}{ifs:List Expr}{x y:Str}{px py pos spos:Pos}{scope:Scope}{ys:List Str}{is:List Nat}{wi:TI}{tc:TT}{te:TE}{j:Nat}
  (hN:X.N.Nodup)(hj:X.N[j]?=some y)(hy:Loc X.env.scope y)
  (hc:X.calm=true)(S:eU scope x ys)(hcap:fJ X scope ys is)(hi:PI X (.Name x px) iter wi)
  (hif:∀C s H fp,tB (bz X scope C (x::ys) s H fp) ifs tc)(he:∀C s H fp,PE (bz X scope C (x::ys) s H fp) elt te)
  (hsw:swapsWith (.ListComp elt [⟨.Name x px,iter,ifs,0⟩] scope pos) (some (.Name y py)) spos.line X.env=pure true:=by rfl)
  (hf:X.fn y=true\/X.env.scope.names.lookup y=some .local:=by first|exact .inl rfl|exact .inr rfl|assumption)
  (hs:∀x,foldedSetIterable iter X.env x=pure x:=by intro _;rfl):PS X (.Assign [.Name y py] (.ListComp elt [⟨.Name x px,iter,ifs,0⟩] scope pos) spos) (aK (fe is wi tc te) (aE j)):=by
 intro pins s σ H D I h
 rw[exec_Assign_Name_used _ _ _ _ hsw]
 refine cW (NK (cW ?_))
 show wpAny _ X.A (do let _<-comprehension (.ListComp elt [⟨.Name x px,iter,ifs,0⟩] scope pos) scope X.env _ (newList []) false (eval iter X.env) (some (assign (.Name y py) X.env))) _ _ s
 refine cW (KU (Ru (use:=some (assign (.Name y py) X.env)) (Q:=fun _ s'=>SP X pins D .next s') rfl hs (rW I.ok S hcap) S.kind S.names
  (thn (hi pins s σ H _ I h) fun v s1 h1=>thn h1 fun itv s2 h2=>?_)) (fun _ s' hq=>Ko (Ko hq)) fun _ _ e=>e)
 obtain⟨it,fp,tn,J,H2,rfl,I2,T,st2,f2,hW⟩:=h2
 refine oo (Q:=fun x H1=>aE j x σ H1 D.nx) (RR:=fun acc C=>compPost (model X.prog X.w) X.A X.xe (some (assign (.Name y py) X.env)) (fun _ s'=>SP X pins D .next s') acc C) hc S hcap hif he I2 T st2 f2 hW ?_
 intro Da C H' s' hlt hns hne hfr I' back q
 show wpAny _ X.A (assign (.Name y py) X.env (.ref Da)) _ _ _
 obtain⟨m,hm⟩:=hns
 refine PU (ow I' hN hj hy (v:=.ref Da) rfl (fun s2 I2' ⟨a,hsb,ha⟩=>?_) hf)
 have hCa:C≠a:=by
  rcases ha with e|e
  ·rw[e];exact hne
  ·rintro rfl
   obtain⟨v,o,ho,hd⟩:=I'.cell y C e
   obtain⟨o2,es,ep,ho2,hd2,_⟩:=hm
   rw[ho]at ho2;cases ho2;rw[hd]at hd2;cases hd2
 refine⟨m,hm.sameBut hsb hCa,fun h' hs'=>?_⟩
 have hCn:∀y c,X.env.cells.lookup y=some c->c≠C:=fun z c e q=>by
  subst q
  obtain⟨v,o,ho,hd⟩:=I'.cell z c e
  obtain⟨o2,es,ep,ho2,hd2,_⟩:=hm
  rw[ho]at ho2;cases ho2;rw[hd]at hd2;cases hd2
 have I3:Inv X pins (σ.set j (some (.ref Da))) H' {s2 with heap:=h'}:=by
  refine I2'.step (g':=s2.gens) (d':=s2.drawn) (t':=s2.toks) (ch:=[C]) (fun b hb=>?_) (fun b o _ _ hb e _=>(hs'.2 b (fun z=>hb (by simp[z]))).trans e) (fun b o _ _ hb e _=>⟨o.slots,(hs'.2 b (fun z=>hb (by simp[z]))).trans e⟩) (fun _ _ _ _ n=>n) (fun b o hb e=>⟨o,(hs'.2 b (fun z=>hb (by simp[z]))).trans e⟩)
   (fun _ _ e=>e) (fun _ _ _ e=>e) (fun b ps e=>⟨#[],by rw[e];simp⟩) (fun m' hm'=>hm'.sameBut hs' (Lj hne)) (fun b o e=>?_) I2'.bare
  ·have e:b=C:=by simpa using hb
   subst e
   exact⟨.inr hlt.1,hne,fun z c e=>hCn z c e,hlt.2⟩
  ·refine(I2'.hok b o e).stay (fun c w' hc q=>(hs'.2 c ?_).trans q) (fun _ q=>q) fun _ _ q=>q
   rintro rfl
   rcases hc with rfl|hc
   ·rw[hfr]at e;cases e
   ·rw[hfr]at hc;cases hc
 exact⟨_,H',I3,q⟩
end
def tyN (H:Hp):V->Option String
 |.non=>some "NoneType"
 |.bl _=>some "bool"
 |.int _=>some "int"
 |.str _=>some "str"
 |.ref a=>match H a with
  |some (.lst _)=>some "list"
  |some (.frz _ (.lst _))=>some "list"
  |some (.tup _)=>some "tuple"
  |some (.dK _)=>some "dict"
  |some (.dT _)=>some "dict"
  |_=>none
 |_=>none
theorem BZ {K:pv}{H:Hp}{x:V}{t:String}(h:tyN H x=some t):fv K H x (.type t):=by
 cases x with
 |non=>cases h;exact .non
 |bl b=>cases h;exact .bl b
 |int i=>cases h;exact .int i
 |str x=>cases h;exact .str x
 |byt _=>cases h
 |flt _=>cases h
 |ty _=>cases h
 |ref a=>
  unfold tyN at h
  dsimp only at h
  split at h
  ·rename_i e;cases h;exact .lst e
  ·rename_i e;cases h;exact .frz e
  ·rename_i e;cases h;exact .tup e
  ·rename_i e;cases h;exact .dK e
  ·rename_i e;cases h;exact .dT e
  ·cases h
def tyL:List String:=["NoneType","bool","int","str","list","tuple","dict"]
theorem BJ {H:Hp}{x:V}{t:String}(h:tyN H x=some t):t∈tyL:=by
 cases x with
 |non=>cases h;decide
 |bl b=>cases h;decide
 |int i=>cases h;decide
 |str x=>cases h;decide
 |byt _=>cases h
 |flt _=>cases h
 |ty _=>cases h
 |ref a=>
  unfold tyN at h
  dsimp only at h
  split at h<;>first|(cases h;decide)|cases h
def isI (t T:String):Bool:=t==T||(T=="int"&&t=="bool")
theorem BG (K:pv):∀t∈tyL,∀T∈["int","bool","str","tuple","list","dict"],W.kitOne K (.type t) (.type T)=some (isI t T):=by
 intro t ht T hT
 simp only[tyL,KD,LL,or_false]at ht hT
 rcases ht with rfl|rfl|rfl|rfl|rfl|rfl|rfl<;>rcases hT with rfl|rfl|rfl|rfl|rfl|rfl<;>(unfold W.kitOne;first|rfl|decide+kernel|(simp only[W.kitCls];rfl))
section
variable {X:Cx}
theorem yW:ck X (.builtin "isinstance") (fun xs H Q=>∃x T t,xs=[x,.ty T]/\T∈["int","bool","str","tuple","list","dict"]/\tyN H x=some t/\Q (.bl (isI t T)) H):=by
 intro pins s σ H xs us Q I r h
 obtain⟨x,T,t,rfl,hT,ht,q⟩:=h
 obtain⟨u,w',rfl,r1,r2⟩:=uj r
 cases r2
 exact uU I r1 (BZ ht) (BG X.K t (BJ ht) T hT) fun tk=>⟨.bl _,H,I.tok tk,rfl,q⟩
end
section
variable {X:Cx}
theorem sj:∀{bs:List Bool}{us:List tx},bc (bs.map V.bl) us->us=bs.map Mj
 |[],_,.nil=>rfl
 |b::bs,_,.cons r t=>by
  have e:_=Mj b:=r
  rw[sj t,KZ,e]
theorem vt (bs:List Bool):(MZ bs.length).all (fun i=>bs.getD i false)=bs.all id:=by
 rw[NH,LD,LD]
 constructor
 ·intro h b hb
  obtain⟨i,hi,e⟩:=Rq.mp hb
  have:=h i (Nw.mpr hi)
  simp only[KA,If hi,RO]at this
  rw[<-e];exact this
 ·intro h i hi
  have hi:=Nw.mp hi
  simp only[KA,If hi,RO]
  exact h _ (Mv hi)
theorem rL {prog:KI}{w:Lp}{A:Lh}{bs:List Bool}:TruthOf prog w A (fun i v=>(bs.map Mj).toArray[i]? =some v) (fun i=>bs.getD i false):=by
 intro i v s Q E hP hQ
 have hP:(bs.map Mj)[i]? =some v:=by simpa using hP
 rw[KL]at hP
 cases e:bs[i]? with
 |none=>rw[e]at hP;cases hP
 |some b=>
  rw[e]at hP
  cases hP
  have hQ':Q b s:=by
   have e2:bs.getD i false=b:=by rw[KA,e];rfl
   have hQ2:Q (bs.getD i false) s:=hQ
   rw[e2]at hQ2;exact hQ2
  exact NB (a:=b) rfl hQ'
theorem xb (hc:X.calm=true):ck X (.builtin "all") (fun xs H Q=>∃(a:Addr)(bs:List Bool),xs=[.ref a]/\H a=some (.lst (bs.map V.bl))/\Q (.bl (bs.all id)) H):=by
 intro pins s σ H xs us Q I r h
 obtain⟨a,bs,rfl,hH,q⟩:=h
 obtain⟨u,rfl,ru⟩:=fE r
 cases ru
 obtain⟨z,its,n,rv,e⟩:=I.hok a _ hH
 have ei:=sj rv
 subst ei
 have hl:s.heap.IsList a (bs.map Mj).toArray:=⟨_,e,rfl,_,rfl⟩
 refine call_all_walk (PQ hl ?_)
 have hne:a≠s.heap.objs.size:=KQ (Kp e)
 refine⟨s.heap.objs.size,_,_,_,_,_,_,rfl,Walks.list (by show X.A.handled=none;exact I.ok.hd hc) _ a hne (bs.map Mj).toArray,⟨⟨_,Kt _ rfl,rfl,rfl⟩,⟨_,gV _ e,rfl,_,rfl⟩⟩,rL,fun h' tk hk=>?_⟩
 have e2:((bs.map Mj).toArray).size=bs.length:=by simp
 rw[e2,vt]
 refine⟨.bl _,H,I.kept (t':=tk) fun b o hb=>hk b o ?_ (gV _ hb),rfl,q⟩
 intro z
 have:b=s.heap.objs.size:=by simpa using z
 rw[this]at hb
 exact absurd (Kp hb) (Ml _)
theorem sF:∀{xs:List Str}{us:List tx},bc (xs.map V.str) us->StrsAre us xs
 |[],_,.nil=>.nil
 |x::xs,_,.cons r t=>by
  obtain⟨tk,e⟩:=(show ∃t,_=Nv x t from r)
  rw[e]
  exact .cons _ _ (sF t)
def ut:V->List V->Hp->VK->Prop:=fun x vs H Q=>∃(z:Str)(a:Addr)(xs:List Str),x=.str z/\vs=[.ref a]/\H a=some (.lst (xs.map V.str))/\(xs.map (·.length)).sum+xs.length*z.length<=16777216/\Q (.str (Txt.join z xs)) H
theorem sM:MtM X "str.join" ut:=by
 intro pins s σ H x vs v us Q I rx rv h
 obtain⟨z,a,xs,rfl,rfl,hH,hz,q⟩:=h
 obtain⟨t,rfl⟩:=(show ∃t,v=Nv z t from rx)
 obtain⟨u,rfl,ru⟩:=rv.one
 cases ru
 obtain⟨_,its,n,rv,e⟩:=I.hok a _ hH
 refine join_list (items:=its.toArray) ⟨_,e,rfl,_,rfl⟩ (by simpa using sF rv) hz fun t' k=>⟨.str _,H,I.tok k,⟨_,rfl⟩,q⟩
end
@[irreducible] def Sel (b:Bool)(A B:Prop):Prop:=if b=true then A else B
theorem Sel.mk {b:Bool}{A B:Prop}(h1:b=true->A)(h2:b=false->B):Sel b A B:=by
 unfold Sel
 cases b with
 |true=>exact h1 rfl
 |false=>exact h2 rfl
theorem Sel.t {A B:Prop}(h:A):Sel true A B:=.mk (fun _=>h) fun e=>by cases e
theorem Sel.f {A B:Prop}(h:B):Sel false A B:=.mk (fun e=>by cases e) fun _=>h
theorem Sel.dec {p A B:Prop}[Decidable p](h1:p->A)(h2:¬p->B):Sel (decide p) A B:=.mk (fun e=>h1 (of_decide_eq_true e)) fun e=>h2 (of_decide_eq_false e)
theorem Sel.ndec {p A B:Prop}[Decidable p](h1:¬p->A)(h2:p->B):Sel (!decide p) A B:=.mk (fun e=>h1 (by simpa using e)) fun e=>h2 (by simpa using e)
theorem Sel.yes {b:Bool}{A B:Prop}(e:b=true)(h:A):Sel b A B:=by rw[e];exact .t h
theorem Sel.no {b:Bool}{A B:Prop}(e:b=false)(h:B):Sel b A B:=by rw[e];exact .f h
theorem eC {b:Bool}{A B:Prop}(h:Sel b A B):if b=true then A else B:=by unfold Sel at h;exact h
def af (i:Nat):TE:=fun σ H Q=>match σ[i]? with|some (some v)=>Q v H|_=>False
section
variable {X:Cx}
theorem PE.imp {e:Expr}{t t':TE}(h:PE X e t)(i:∀σ H Q,t' σ H Q->t σ H Q):PE X e t':=fun pins s σ H Q I q=>h pins s σ H Q I (i _ _ _ q)
theorem OpR.imp {f:tx->tx->Sem tx}{r r':R2}(h:OpR X f r)(i:∀x y H Q,r' x y H Q->r x y H Q):OpR X f r':=fun pins s σ H x y v u Q I rx ry q=>h pins s σ H x y v u Q I rx ry (i _ _ _ _ q)
theorem qv (i:Nat){x:Str}{pos:Pos}(hN:X.N[i]?=some x:=by rfl)(hv:Vis X.env.scope x:=by first|exact Or.inl rfl|exact Ss (Or.inl rfl)|exact Ss (Ss rfl))(hd:(x==("__debug__":Str))=false:=by decide)
  (hcd:(x==("__classdict__":Str))=false:=by decide):PE X (.Name x pos) (af i):=(Cm hN hv hd hcd).imp fun σ H Q q=>by
 unfold af at q
 split at q
 ·rename_i v e;exact⟨v,e,q⟩
 ·exact q.elim
theorem qgi {x:Str}{i:Int}{pos:Pos}(hm:∃t,X.mg x=some (.int i t))(hg:Gl X x:=by rfl)(hd:(x==("__debug__":Str))=false:=by decide):PE X (.Name x pos) (tC (.int i)):=by
 obtain⟨t,e⟩:=hm
 exact Bp hg e ⟨t,rfl⟩ hd
def bK:R2:=fun x y H Q=>match x,y with|.int i,.int j=>Q (.int (i- j)) H|_,_=>False
theorem bP:OpR X (binaryOp .Sub) bK:=Ee.imp fun x y H Q q=>by
 unfold bK at q
 split at q
 ·exact⟨_,_,rfl,rfl,q⟩
 ·exact q.elim
theorem Bb:OpR X (binaryOp .Mult) (rI Tg fun i j=>.int (i*j)):=opI fun _ _ _ _ _ _ _ hc q=>mul_int q hc
def ib:R2:=fun x y H Q=>match x,y with
 |.int i,.int j=>Tg i j/\Q (.int (i*j)) H
 |_,_=>False
theorem mI:OpR X (binaryOp .Mult) ib:=Bb.imp fun x y H Q q=>by
 unfold ib at q
 split at q
 ·exact⟨_,_,rfl,rfl,q.1,q.2⟩
 ·exact q.elim
def bL:R2:=fun x y H Q=>match x,y with|.int i,.int j=>0<j/\Q (.int (i%j)) H|_,_=>False
theorem bT:OpR X (binaryOp .Mod) bL:=CL.imp fun x y H Q q=>by
 unfold bL at q
 split at q
 ·exact⟨_,_,rfl,rfl,q.1,q.2⟩
 ·exact q.elim
def mH:R2:=fun x y H Q=>match x,y with|.int i,.int j=>(0<=j/\j<=1000000/\i.natAbs<2^64)/\Q (.int (i^j.toNat)) H|_,_=>False
theorem tu:OpR X (binaryOp .Pow) mH:=Ez.imp fun x y H Q q=>by
 unfold mH at q
 split at q
 ·exact⟨_,_,rfl,rfl,q.1,q.2⟩
 ·exact q.elim
def kO:R2:=fun x y H Q=>match x,y with|.int i,.int j=>(0<=j/\j<=1000000/\i.natAbs<2^64)/\Q (.int (i*2^j.toNat)) H|_,_=>False
theorem rk:OpR X (binaryOp .LShift) kO:=BP.imp fun x y H Q q=>by
 unfold kO at q
 split at q
 ·exact⟨_,_,rfl,rfl,q.1,q.2⟩
 ·exact q.elim
def mLt:R2:=fun x y H Q=>match x,y with|.int i,.int j=>Q (.bl (decide (i<j))) H|_,_=>False
theorem oLt:OpR X (compareOp .Lt) mLt:=Hr.imp fun x y H Q q=>by
 unfold mLt at q
 split at q
 ·exact⟨_,_,rfl,rfl,q⟩
 ·exact q.elim
def mLe:R2:=fun x y H Q=>match x,y with|.int i,.int j=>Q (.bl (decide (i<=j))) H|_,_=>False
theorem oLe:OpR X (compareOp .LtE) mLe:=Fs.imp fun x y H Q q=>by
 unfold mLe at q
 split at q
 ·exact⟨_,_,rfl,rfl,q⟩
 ·exact q.elim
def mGt:R2:=fun x y H Q=>match x,y with|.int i,.int j=>Q (.bl (decide (j<i))) H|_,_=>False
theorem oGt:OpR X (compareOp .Gt) mGt:=Hz.imp fun x y H Q q=>by
 unfold mGt at q
 split at q
 ·exact⟨_,_,rfl,rfl,q⟩
 ·exact q.elim
def mGe:R2:=fun x y H Q=>match x,y with|.int i,.int j=>Q (.bl (decide (j<=i))) H|_,_=>False
theorem oGe:OpR X (compareOp .GtE) mGe:=HR.imp fun x y H Q q=>by
 unfold mGe at q
 split at q
 ·exact⟨_,_,rfl,rfl,q⟩
 ·exact q.elim
def mEq:R2:=fun x y H Q=>match x,y with
 |.int i,.int j=>Q (.bl (decide (i=j))) H
 |.str i,.str j=>Q (.bl (decide (i=j))) H
 |.bl i,.bl j=>Q (.bl (decide (i=j))) H
 |.non,.non=>Q (.bl true) H
 |.non,.int _=>Q (.bl false) H|.int _,.non=>Q (.bl false) H|.non,.bl _=>Q (.bl false) H|.bl _,.non=>Q (.bl false) H|.non,.str _=>Q (.bl false) H|.str _,.non=>Q (.bl false) H
 |.int _,.str _=>Q (.bl false) H|.str _,.int _=>Q (.bl false) H|.bl _,.str _=>Q (.bl false) H|.str _,.bl _=>Q (.bl false) H
 |_,_=>False
theorem jq {α:Type}[DecidableEq α]{f:α->V}(hf:∀a b,f a=f b->a=b)(a b:α):decide (f a=f b)=decide (a=b):=by
 by_cases h:a=b
 ·subst h;simp
 ·rw[decide_eq_false h,decide_eq_false fun e=>h (hf a b e)]
theorem oEq:OpR X (compareOp .Eq) mEq:=FX.imp fun x y H Q q=>by
 unfold mEq at q
 split at q
 ·exact⟨rfl,by rw[jq (f:=V.int) fun _ _ e=>V.int.inj e];exact q⟩
 ·exact⟨rfl,by rw[jq (f:=V.str) fun _ _ e=>V.str.inj e];exact q⟩
 ·exact⟨rfl,by rw[jq (f:=V.bl) fun _ _ e=>V.bl.inj e];exact q⟩
 ·exact⟨rfl,by simpa using q⟩
 all_goals first|exact q.elim|exact⟨rfl,q⟩
def mNe:R2:=fun x y H Q=>match x,y with
 |.int i,.int j=>Q (.bl (!decide (i=j))) H
 |.str i,.str j=>Q (.bl (!decide (i=j))) H
 |.bl i,.bl j=>Q (.bl (!decide (i=j))) H
 |.non,.non=>Q (.bl false) H
 |.non,.int _=>Q (.bl true) H|.int _,.non=>Q (.bl true) H|.non,.bl _=>Q (.bl true) H|.bl _,.non=>Q (.bl true) H|.non,.str _=>Q (.bl true) H|.str _,.non=>Q (.bl true) H
 |.int _,.str _=>Q (.bl true) H|.str _,.int _=>Q (.bl true) H|.bl _,.str _=>Q (.bl true) H|.str _,.bl _=>Q (.bl true) H
 |_,_=>False
theorem oNe:OpR X (compareOp .NotEq) mNe:=Hg.imp fun x y H Q q=>by
 unfold mNe at q
 split at q
 ·exact⟨rfl,by rw[jq (f:=V.int) fun _ _ e=>V.int.inj e];exact q⟩
 ·exact⟨rfl,by rw[jq (f:=V.str) fun _ _ e=>V.str.inj e];exact q⟩
 ·exact⟨rfl,by rw[jq (f:=V.bl) fun _ _ e=>V.bl.inj e];exact q⟩
 ·exact⟨rfl,by simpa using q⟩
 all_goals first|exact q.elim|exact⟨rfl,q⟩
def aU (t:TE):TT:=fun σ H Q=>t σ H fun x H'=>match x with|.bl k=>Q k H'|_=>False
theorem qtc {op:Sq}{r:R2}{a b:Expr}{ta tb:TE}{pos:Pos}(ho:OpR X (compareOp op) r)(ha:PE X a ta)(hb:PE X b tb)(hm:behindInMarks op b=false:=by first|exact lX _|rfl):PT X (.Compare a [op] [b] pos) (aU (tOp r ta tb)):=by
 intro pins s σ H Q I h
 refine wpAny_isTrue_Compare1 (thn (ha pins s σ H _ I h) fun v s1 ⟨x,H1,I1,r1,q1⟩=>thn (hb pins s1 σ H1 _ I1 q1) fun u s2 ⟨y,H2,I2,r2,q2⟩=>
  thn (ho pins s2 σ H2 x y v u _ I2 r1 r2 q2) fun c s3 ⟨z,H3,I3,r3,q3⟩=>?_) hm
 cases z<;>first|exact q3.elim|(cases r3;exact MK ⟨H3,I3,q3⟩)
theorem qc {op:Sq}{r:R2}{a b:Expr}{ta tb:TE}{pos:Pos}(ho:OpR X (compareOp op) r)(ha:PE X a ta)(hb:PE X b tb)(hm:behindInMarks op b=false:=by first|exact lX _|rfl):PE X (.Compare a [op] [b] pos) (tOp r ta tb):=Bw ho ha hb hm
def dG (r r':R2)(ta tb tc:TE):TE:=fun σ H Q=>ta σ H fun x H1=>tb σ H1 fun y H2=>r x y H2 fun z H3=>match z with
 |.bl k=>Sel k (tc σ H3 fun w' H4=>r' y w' H4 Q) (Q (.bl false) H3)
 |_=>False
theorem qch {op op':Sq}{r r':R2}{a b c:Expr}{ta tb tc:TE}{pos:Pos}(ho:OpR X (compareOp op) r)(ho':OpR X (compareOp op') r')(ha:PE X a ta)(hb:PE X b tb)(hc:PE X c tc)
  (hm:lastMarks [op,op'] [b,c]=false:=by with_unfolding_all rfl):PE X (.Compare a [op,op'] [b,c] pos) (dG r r' ta tb tc):=by
 intro pins s σ H Q I h
 refine Compare_chain (thn (ha pins s σ H _ I h) fun v s1 ⟨x,H1,I1,r1,q1⟩=>chain_link (thn (hb pins s1 σ H1 _ I1 q1) fun u s2 ⟨y,H2,I2,r2,q2⟩=>
  thn (ho pins s2 σ H2 x y v u _ I2 r1 r2 q2) fun d s3 ⟨z,H3,I3,r3,q3⟩=>?_)) hm
 cases z<;>first|exact q3.elim|skip
 rename_i k
 cases r3
 refine MK ?_
 have q3:=eC q3
 cases k with
 |false=>exact ite_ff ⟨.bl false,H3,I3,rfl,q3⟩
 |true=>exact ite_tt (chain_last (thn (hc pins s3 σ H3 _ I3 q3) fun w' s4 ⟨z',H4,I4,r4,q4⟩=>ho' pins s4 σ H4 y z' u w' Q I4 r2 r4 q4))
theorem IR {op op':Sq}{r r':R2}{a b c:Expr}{ta tb tc:TE}{pos:Pos}(ho:OpR X (compareOp op) r)(ho':OpR X (compareOp op') r')(ha:PE X a ta)(hb:PE X b tb)(hc:PE X c tc)
  (hm:lastMarks [op,op'] [b,c]=false:=by with_unfolding_all rfl):PT X (.Compare a [op,op'] [b,c] pos) (aU (dG r r' ta tb tc)):=by
 intro pins s σ H Q I h
 refine isTrue_chain (thn (ha pins s σ H _ I h) fun v s1 ⟨x,H1,I1,r1,q1⟩=>test_link (thn (hb pins s1 σ H1 _ I1 q1) fun u s2 ⟨y,H2,I2,r2,q2⟩=>
  thn (ho pins s2 σ H2 x y v u _ I2 r1 r2 q2) fun d s3 ⟨z,H3,I3,r3,q3⟩=>?_)) hm
 cases z<;>first|exact q3.elim|skip
 rename_i k
 cases r3
 refine MK ?_
 have q3:=eC q3
 cases k with
 |false=>exact ite_ff ⟨H3,I3,q3⟩
 |true=>
  refine ite_tt (test_last (thn (hc pins s3 σ H3 _ I3 q3) fun w' s4 ⟨z',H4,I4,r4,q4⟩=>thn (ho' pins s4 σ H4 y z' u w' _ I4 r2 r4 q4) fun d' s5 ⟨z2,H5,I5,r5,q5⟩=>?_))
  cases z2<;>first|exact q5.elim|(cases r5;exact MK ⟨H5,I5,q5⟩)
def dO (K:pv)(t:TE):TT:=fun σ H Q=>t σ H fun x H'=>match x with
 |.bl k=>Q k H'
 |.non=>Q false H'
 |.int i=>Q (i !=0) H'
 |x=>∃k,BL K x H' k/\Q k H'
theorem qtb {e:Expr}{t:TE}(h:PE X e t)(he:∀whole,isTrue e X.env whole=(do let v<-whole;standAt e.pos;holding [v] (truthy v)):=by intro _;rfl):PT X e (dO X.K t):=by
 intro pins s σ H Q I q
 refine isTrue_plain (thn (h pins s σ H _ I q) fun v s1 ⟨x,H1,I1,r1,q1⟩=>Dj pins s1 σ H1 x v Q I1 r1 ?_) (he _)
 cases x<;>first|exact⟨_,rfl,q1⟩|exact q1
def qX (t u:TT):TT:=fun σ H Q=>t σ H fun c H1=>Sel c (u σ H1 Q) (Q false H1)
def mOr (t u:TT):TT:=fun σ H Q=>t σ H fun c H1=>Sel c (Q true H1) (u σ H1 Q)
variable {a b c:Expr}{ta tb:TE}{tA tB':TT}{bQ:List Expr}{pos:Pos}
theorem Bg (ha:PT X a tA):PW X (.BoolOp .And [a] pos) tA:=AL ha
theorem CP (ha:PT X a tA):PW X (.BoolOp .Or [a] pos) tA:=Ej ha
theorem Ec (ha:PT X a tA)(hb:PW X (.BoolOp .And (b::bQ) pos) tB'):PW X (.BoolOp .And (a::b::bQ) pos) (qX tA tB'):=by
 intro wh pins s σ H Q I h
 refine isTrue_and (thn (ha pins s σ H _ I h) fun c s1 ⟨H1,I1,q1⟩=>?_)
 have q1:=eC q1
 cases c with
 |true=>exact hb wh pins s1 σ H1 Q I1 q1
 |false=>exact⟨H1,I1,q1⟩
theorem Fw (ha:PT X a tA)(hb:PW X (.BoolOp .Or (b::bQ) pos) tB'):PW X (.BoolOp .Or (a::b::bQ) pos) (mOr tA tB'):=by
 intro wh pins s σ H Q I h
 refine isTrue_or (thn (ha pins s σ H _ I h) fun c s1 ⟨H1,I1,q1⟩=>?_)
 have q1:=eC q1
 cases c with
 |true=>exact⟨H1,I1,q1⟩
 |false=>exact hb wh pins s1 σ H1 Q I1 q1
def dk (ta tb:TE):TE:=fun σ H Q=>ta σ H fun x H1=>match x with|.bl c=>Sel c (tb σ H1 Q) (Q (.bl false) H1)|_=>False
def pH (ta:TE):TE:=fun σ H Q=>ta σ H fun x H1=>match x with|.bl c=>Q (.bl (!c)) H1|_=>False
theorem Kj (ha:PE X a ta)(hb:PE X (.BoolOp .And (b::bQ) pos) tb):PE X (.BoolOp .And (a::b::bQ) pos) (dk ta tb):=by
 intro pins s σ H Q I h
 refine BoolOp_and (thn (ha pins s σ H _ I h) fun v s1 ⟨x,H1,I1,r1,q1⟩=>?_)
 cases x<;>first|exact q1.elim|skip
 rename_i c
 cases r1
 refine MK ?_
 have q1:=eC q1
 cases c with
 |true=>exact hb pins s1 σ H1 Q I1 q1
 |false=>exact⟨.bl false,H1,I1,rfl,q1⟩
theorem HM (ha:PE X a ta):PE X (.UnaryOp .Not a pos) (pH ta):=by
 intro pins s σ H Q I h
 refine UnaryOp_ (thn (ha pins s σ H _ I h) fun v s1 ⟨x,H1,I1,r1,q1⟩=>?_)
 cases x<;>first|exact q1.elim|skip
 rename_i c
 cases r1
 exact not_of (MK ⟨.bl (!c),H1,I1,rfl,q1⟩)
def mIf (t:TT)(ta tb:TE):TE:=fun σ H Q=>t σ H fun c H1=>Sel c (ta σ H1 Q) (tb σ H1 Q)
theorem Ki {c:Expr}(hc:PT X c tA)(ha:PE X a ta)(hb:PE X b tb):PE X (.IfExp c a b pos) (mIf tA ta tb):=by
 intro pins s σ H Q I h
 refine wpAny_IfExp (thn (hc pins s σ H _ I h) fun d s1 ⟨H1,I1,q1⟩=>?_)
 have q1:=eC q1
 cases d with
 |true=>exact ha pins s1 σ H1 Q I1 q1
 |false=>exact hb pins s1 σ H1 Q I1 q1
def bf (c:TT)(t u:TS):TS:=fun D σ H=>c σ H fun b H1=>Sel b (t D σ H1) (u D σ H1)
theorem qif {c:Expr}{l m:List Stmt}{tc:TT}{t u:TS}(hc:PT X c tc)(ha:PSs X l t)(hb:PSs X m u):PS X (.If c l m pos) (bf tc t u):=by
 intro pins s σ H D I h
 refine wpAny_If (thn (hc pins s σ H _ I h) fun d s1 ⟨H1,I1,q1⟩=>?_)
 have q1:=eC q1
 cases d with
 |true=>exact ha pins s1 σ H1 D I1 q1
 |false=>exact hb pins s1 σ H1 D I1 q1
theorem IM:ck X (.builtin "len") (fun xs H Q=>match xs with
  |[.str y]=>y.length<=sizeLine/\Q (.int y.length) H
  |[.ref p]=>(∃xs,SqL X.K H p xs/\Q (.int xs.length) H)\/(∃xs,SqT X.K H p xs/\Q (.int xs.length) H)\/∃kvs,H p=some (.dK kvs)/\Q (.int kvs.length) H
  |_=>False):=by
 intro pins s σ H xs us Q I r h
 split at h
 ·rename_i y
  exact kN pins s σ H _ us Q I r ⟨_,_,rfl,⟨h.1,rfl⟩,h.2⟩
 ·rename_i p
  rcases h with⟨ys,h1,h2⟩|⟨ys,h1,h2⟩|⟨kvs,h1,h2⟩
  ·exact kN pins s σ H _ us Q I r ⟨_,_,rfl,.inl ⟨ys,h1,rfl⟩,h2⟩
  ·exact kN pins s σ H _ us Q I r ⟨_,_,rfl,.inr ⟨ys,h1,rfl⟩,h2⟩
  ·exact vd pins s σ H _ us Q I r ⟨p,kvs,rfl,h1,h2⟩
 ·exact h.elim
end
section
variable {X:Cx}{tg:Expr}
def eQ:V->Hp->VK->Prop:=fun x H Q=>match x with|.int i=>Q (.int (-i)) H|_=>False
theorem JG:UnR X (unaryOp .USub) eQ:=fun pins s σ H x v Q I rx q=>Cc pins s σ H x v Q I rx (by
 unfold eQ at q
 split at q
 ·exact⟨_,rfl,q⟩
 ·exact q.elim)
def Dw (K:pv):List V->Hp->VK->Prop:=fun xs H Q=>match xs with
 |[.str y]=>y.length<=sizeLine/\Q (.int y.length) H
 |[.ref p]=>(∃xs,SqL K H p xs/\Q (.int xs.length) H)\/(∃xs,SqT K H p xs/\Q (.int xs.length) H)\/∃kvs,H p=some (.dK kvs)/\Q (.int kvs.length) H
 |_=>False
theorem Je:ck X (.builtin "len") (Dw X.K):=IM
def fw:List V->Hp->VK->Prop:=fun xs H Q=>match xs with
 |[x,.ty T]=>T∈["int","bool","str","tuple","list","dict"]/\∃t,tyN H x=some t/\Q (.bl (isI t T)) H
 |_=>False
theorem gF:ck X (.builtin "isinstance") fw:=fun pins s σ H xs us Q I r h=>by
 unfold fw at h
 split at h
 ·obtain⟨h1,t,h2,h3⟩:=h
  exact yW pins s σ H _ us Q I r ⟨_,_,t,rfl,h1,h2,h3⟩
 ·exact h.elim
def xZ:List V->Hp->VK->Prop:=fun xs H Q=>∃(a:Addr)(bs:List Bool),xs=[.ref a]/\H a=some (.lst (bs.map V.bl))/\Q (.bl (bs.all id)) H
theorem DU (hc:X.calm=true):ck X (.builtin "all") xZ:=xb hc
def qi (K:pv):List V->Hp->VK->Prop:=fun xs H Q=>∃p ys,xs=[.ref p]/\((SqL K H p ys/\∀l,H l=none->Q (.ref l) (upd H l (.tup ys)))\/(SqT K H p ys/\Q (.ref p) H))
theorem vD:ck X (.type "tuple") (qi X.K):=oP
end
theorem vU:bootBuiltins "all"=some (.builtin "all"):=by decide+kernel
structure da (J:It)(n:Nat)(it:Nat->V)(Pv:Hp->Prop):Prop where
 go:∀i H,i<n->Pv H->J.go i H
 yld:∀i H x H',i<n->Pv H->J.yld i H x H'->H'=H/\x=it i
 stop:∀H,Pv H->J.stop n H
theorem da.list {K:pv}{a:Addr}{xs:List V}(d:V):da (Itl K a) xs.length (fun i=>xs.getD i d) (fun H=>SqL K H a xs)where
 go:=fun i H hi h=>⟨xs,xs[i],h,by simp[hi]⟩
 yld:=fun i H x H' hi h y=>⟨y.1,by have:=y.2 xs h;rw[KA,this];rfl⟩
 stop:=fun H h=>⟨xs,h,Gt _⟩
theorem da.tuple {K:pv}{a:Addr}{xs:List V}(d:V):da (Itt K a) xs.length (fun i=>xs.getD i d) (fun H=>SqT K H a xs)where
 go:=fun i H hi h=>⟨xs,xs[i],h,by simp[hi]⟩
 yld:=fun i H x H' hi h y=>⟨y.1,by have:=y.2 xs h;rw[KA,this];rfl⟩
 stop:=fun H h=>⟨xs,h,Gt _⟩
theorem da.range {lo:Int}{n:Nat}:da (Itr lo n) n (fun i=>.int (lo+i)) (fun _=>True)where
 go:=fun i H hi _=>hi
 yld:=fun i H x H' hi _ y=>y
 stop:=fun H _=>Gt _
def CWd (n:Nat)(Pv:Nat->List V->Hp->Prop):Nat->Nat->List V->Hp->Prop:=fun i m ys H=>i<=n/\m=n- i/\Pv i ys H
theorem CWd.next {n i:Nat}{Pv:Nat->List V->Hp->Prop}{ys:List V}{H:Hp}(hi:i<n)(h:Pv (i+1) ys H):∃m',m'<n- i/\CWd n Pv (i+1) m' ys H:=⟨n- (i+1),by omega,hi,rfl,h⟩
theorem ft {J:It}{n:Nat}{it:Nat->V}{Pk:Hp->Prop}{σ:St}{is:List Nat}{tc:TT}{te:TE}{Q:VK}{H1:Hp}{D:Addr}(T:da J n it Pk)(Pv:Nat->List V->Hp->Prop)
  (hk:∀i ys H,i<=n->Pv i ys H->Pk H)(h0:Pv 0 [] (upd H1 D (.lst [])))
  (hs:∀i ys H2,i<n->Pv i ys H2->tc (some (it i)::bJ σ is) H2 fun b H4=>if b=true then
   te (some (it i)::bJ σ is) H4 fun y H5=>H5 D=some (.lst ys)/\ys.length<sizeLine/\∃m',m'<n- i/\CWd n Pv (i+1) m' (ys++[y]) (upd H5 D (.lst (ys++[y])))
   else ∃m',m'<n- i/\CWd n Pv (i+1) m' ys H4)
  (hd:∀ys H,Pv n ys H->Q (.ref D) H):sP is tc te σ D J H1 Q:=by
 refine⟨CWd n Pv,⟨n,KS _,rfl,h0⟩,?_⟩
 rintro i m ys H2 ⟨hi,rfl,p⟩
 by_cases hlt:i<n
 ·refine .inr ⟨T.go i H2 hlt (hk i ys H2 hi p),fun x H3 y=>?_⟩
  obtain⟨rfl,rfl⟩:=T.yld i H2 x H3 hlt (hk i ys H2 hi p) y
  exact hs i ys _ hlt p
 ·have e:i=n:=by omega
  subst e
  exact .inl ⟨T.stop H2 (hk _ ys H2 hi p),hd ys H2 p⟩
theorem aA.upd {H:Hp}{p:Addr}{o:HO}(h:H p=none):aA H (upd H p o):=fun b u e=>by rw[aC (aI e h)];exact e
theorem vm {xs:List V}{i:Int}(h0:0<=i)(h1:i<xs.length):atI xs i=some (xs.getD i.toNat .non):=by
 unfold atI ixN
 rw[if_pos h0,if_pos h1]
 show xs[i.toNat]?=_
 rw[KA]
 have:i.toNat<xs.length:=by omega
 rw[If this];rfl
def bU:Expr->Bool
 |.Starred _ _=>false
 |_=>true
theorem bh {e:Expr}(h:bU e=true)(bQ:List Expr)(env:Env):starEach (e::bQ) env=(false,eval e env)::starEach bQ env:=by
 cases e<;>first|rfl|cases h
def bq:List Expr->Bool
 |[]=>true
 |e::r=>bU e&&bq r
theorem cf:∀{es:List Expr}{env:Env}{pos:Pos},bq es=true->(backTo pos (starEach es env)).any (·.1)=false
 |[],_,_,_=>rfl
 |e::r,env,pos,h=>by
  have h:(bU e&&bq r)=true:=h
  rw[Li]at h
  rw[bh h.1]
  show(false||(backTo pos (starEach r env)).any (·.1))=false
  rw[cf h.2];rfl
section
variable {X:Cx}{e:Expr}{es:List Expr}{te:TE}{t:TA}{pos:Pos}
theorem AD (ha:PE X e te)(hr:PA X es t)(hs:bU e=true:=by rfl):PA X (e::es) (ai te t):=AS ha hr (bh hs es X.env)
variable {x:Str}{p apos cpos:Pos}{id T:String}{r:List V->Hp->VK->Prop}
theorem Br (hc:ck X (.builtin id) r)(hg:Gl X x)(hm:X.mg x=none)(hv:bootBuiltins x=some (.builtin id))(ha:PA X (e::es) t)(hn:x≠"__name__":=by decide)(hdb:(x==("__debug__":Str))=false:=by decide)
  (hs:bq (e::es)=true:=by rfl):PE X (.Call (.Name x p) (e::es) [] pos) (tCB r t):=
 have h:(bU e&&bq es)=true:=hs
 yO hc hg hm hv ha hn hdb (bh (Ku.mp h).1 es X.env) (cf (Ku.mp h).2)
theorem yU (hc:ck X (.type T) r)(hg:Gl X x)(hm:X.mg x=none)(hv:bootBuiltins x=some (.type T))(ha:PA X (e::es) t)(hn:x≠"__name__":=by decide)(hdb:(x==("__debug__":Str))=false:=by decide)
  (hs:bq (e::es)=true:=by rfl):PE X (.Call (.Name x p) (e::es) [] pos) (tCB r t):=
 have h:(bU e&&bq es)=true:=hs
 vR hc hg hm hv ha hn hdb (bh (Ku.mp h).1 es X.env) (cf (Ku.mp h).2)
variable {CX:CXT}{k:Nat}{f C:Addr}{fd:Kz}{ps:List Str}{sp:Sp}{dvs:List V}{ds:List tx}{E:XK}{m:Str}{o:Expr}{ta:TE}
theorem kI:∀{es:List Expr}{env:Env}{pos:Pos},bq es=true->(backTo pos (starEach es env)).all (fun x=> !x.1)=true
 |[],_,_,_=>rfl
 |e::r,env,pos,h=>by
  have h:(bU e&&bq r)=true:=h
  rw[Li]at h
  rw[bh h.1]
  show(true&&(backTo pos (starEach r env)).all (fun x=> !x.1))=true
  rw[kI h.2];rfl
variable {to:TE}{name:Str}{rm:V->List V->Hp->VK->Prop}
theorem IQ (pa:PY T)(slot:Slot T name id)(hty:typeOf (.builtin id)=pure (.type "method_descriptor"))(hm:MtR X id rm)(ho:PE X o to)(ha:PA X (e::es) t)
  (hbase:attributeBase o name X.env (eval o X.env)=eval o X.env:=by rfl)(hfew:decide ((e::es).length<30)=true:=by rfl)
  (hline:(apos.endLine==cpos.line)=true:=by rfl)(hs:bq (e::es)=true:=by rfl):PE X (.Call (.Attribute o name apos) (e::es) [] cpos) (tBM X.K T rm to t):=
 have h:(bU e&&bq es)=true:=hs
 Fu pa slot hty hm ho ha hbase (by rw[kI hs];exact hfew) hline (bh (Ku.mp h).1 es X.env) (cf (Ku.mp h).2)
end
structure QE (X:Cx)(e:Expr)(t:TE):Prop where
 out:PE X e t
structure QT (X:Cx)(e:Expr)(t:TT):Prop where
 out:PT X e t
structure QW (X:Cx)(e:Expr)(t:TT):Prop where
 out:PW X e t
structure QA (X:Cx)(e:List Expr)(t:TA):Prop where
 out:PA X e t
structure QS (X:Cx)(e:Stmt)(t:TS):Prop where
 out:PS X e t
structure QSs (X:Cx)(e:List Stmt)(t:TS):Prop where
 out:PSs X e t
structure QI (X:Cx)(tg iter:Expr)(t:TI):Prop where
 out:PI X tg iter t
structure QO (X:Cx)(e:Option Expr)(t:TO):Prop where
 out:PO X e t
structure sY (X:Cx)(e:List Expr)(t:TT):Prop where
 out:tB X e t
section
variable {X:Cx}{a b c e o:Expr}{es bQ:List Expr}{ta tb tc te to tv:TE}{tA tB':TT}{t:TA}{pos apos cpos p:Pos}{x y:Str}
theorem ac (i:Nat)(hN:X.N[i]?=some x:=by rfl)(hv:Vis X.env.scope x:=by first|exact Or.inl rfl|exact Ss (Or.inl rfl)|exact Ss (Ss rfl))(hd:(x==("__debug__":Str))=false:=by decide)
 (hcd:(x==("__classdict__":Str))=false:=by decide):QE X (.Name x pos) (af i):=⟨qv i hN hv hd hcd⟩
theorem Jm {i:Int}(hm:∃t,X.mg x=some (.int i t))(hg:Gl X x:=by rfl)(hd:(x==("__debug__":Str))=false:=by decide):QE X (.Name x pos) (tC (.int i)):=⟨qgi hm hg hd⟩
theorem gH {T:String}(hm:X.mg x=none)(hv:bootBuiltins x=some (.type T))(hg:Gl X x:=by rfl)(hn:x≠"__name__":=by decide)(hd:(x==("__debug__":Str))=false:=by decide):QE X (.Name x pos) (tC (.ty T)):=⟨Bi hg hm hv rfl hn hd⟩
theorem aj {i:Int}{j}:QE X (.Constant (.int i) j pos) (tC (.int i)):=⟨EK⟩
theorem eY {b:Bool}{j}:QE X (.Constant (.bool b) j pos) (tC (.bl b)):=⟨FC⟩
theorem tL {j}:QE X (.Constant .none j pos) (tC .non):=⟨CD⟩
theorem bA {z:Str}{j}:QE X (.Constant (.str z) j pos) (tC (.str z)):=⟨Ef⟩
theorem eL (ha:QE X a ta):QE X (.UnaryOp .USub a pos) (tUn eQ ta):=⟨Im JG ha.out⟩
theorem zT (ha:QE X a ta):QE X (.UnaryOp .Not a pos) (pH ta):=⟨HM ha.out⟩
theorem aJ {op:Operator}{r:R2}(ho:OpR X (binaryOp op) r)(ha:QE X a ta)(hb:QE X b tb):QE X (.BinOp a op b pos) (tOp r ta tb):=⟨Ia ho ha.out hb.out⟩
theorem gQ {op:Sq}{r:R2}(ho:OpR X (compareOp op) r)(ha:QE X a ta)(hb:QE X b tb)(hm:behindInMarks op b=false:=by first|exact lX _|rfl):QE X (.Compare a [op] [b] pos) (tOp r ta tb):=⟨qc ho ha.out hb.out hm⟩
theorem kC {op op':Sq}{r r':R2}(ho:OpR X (compareOp op) r)(ho':OpR X (compareOp op') r')(ha:QE X a ta)(hb:QE X b tb)(hc:QE X c tc)(hm:lastMarks [op,op'] [b,c]=false:=by with_unfolding_all rfl):
 QE X (.Compare a [op,op'] [b,c] pos) (dG r r' ta tb tc):=⟨qch ho ho' ha.out hb.out hc.out hm⟩
theorem fW {op}(h:QE X a ta):QE X (.BoolOp op [a] pos) ta:=⟨Ex h.out⟩
theorem dR (ha:QE X a ta)(hb:QE X (.BoolOp .And (b::bQ) pos) tb):QE X (.BoolOp .And (a::b::bQ) pos) (dk ta tb):=⟨Kj ha.out hb.out⟩
theorem yN (hc:QT X c tA)(ha:QE X a ta)(hb:QE X b tb):QE X (.IfExp c a b pos) (mIf tA ta tb):=⟨Ki hc.out ha.out hb.out⟩
theorem am:QA X [] av:=⟨Dk⟩
theorem ae (ha:QE X e te)(hr:QA X es t)(hs:bU e=true:=by rfl):QA X (e::es) (ai te t):=⟨AD ha.out hr.out hs⟩
theorem cH (h:QA X es t):QE X (.List es pos) (cV t):=⟨Et h.out⟩
theorem bv {x1}(h:QA X es t):QE X (.Tuple es x1 pos) (bF t):=⟨Cp h.out⟩
theorem aL {r:R2}(hr:IxR X r)(ha:QE X a ta)(hb:QE X b tb)(hs:rQ b):QE X (.Subscript a b pos) (tOp r ta tb):=⟨Gi hr ha.out hb.out hs⟩
theorem gg:QO X none eX:=⟨Au⟩
theorem eV (h:QE X e te):QO X (some e) (fB te):=⟨AZ h.out⟩
theorem fj {r:V->Option Int->Option Int->Hp->VK->Prop}{lo hi:Option Expr}{tl th:TO}{p2:Pos}(hr:SlR X r)(he:QE X e te)(hl:QO X lo tl)(hu:QO X hi th):QE X (.Subscript e (.Slice lo hi none p2) pos) (tSl r te tl th):=⟨yJ hr he.out hl.out hu.out⟩
variable {id T:String}{r:List V->Hp->VK->Prop}
theorem bg (hc:ck X (.builtin id) r)(hm:X.mg x=none)(hv:bootBuiltins x=some (.builtin id))(ha:QA X (e::es) t)(hg:Gl X x:=by rfl)(hn:x≠"__name__":=by decide)(hdb:(x==("__debug__":Str))=false:=by decide)
 (hs:bq (e::es)=true:=by rfl):QE X (.Call (.Name x p) (e::es) [] pos) (tCB r t):=⟨Br hc hg hm hv ha.out hn hdb hs⟩
theorem gA (hc:ck X (.type T) r)(hm:X.mg x=none)(hv:bootBuiltins x=some (.type T))(ha:QA X (e::es) t)(hg:Gl X x:=by rfl)(hn:x≠"__name__":=by decide)(hdb:(x==("__debug__":Str))=false:=by decide)
 (hs:bq (e::es)=true:=by rfl):QE X (.Call (.Name x p) (e::es) [] pos) (tCB r t):=⟨yU hc hg hm hv ha.out hn hdb hs⟩
variable {CX:CXT}{k:Nat}{f C:Addr}{fd:Kz}{ps:List Str}{sp:Sp}{dvs:List V}{ds:List tx}{E:XK}{m:Str}
variable {name:Str}{rm:V->List V->Hp->VK->Prop}
theorem cI (pa:PY T)(slot:Slot T name id)(hty:typeOf (.builtin id)=pure (.type "method_descriptor"))(hm:MtR X id rm)(ho:QE X o to)(ha:QA X (e::es) t)
 (hbase:attributeBase o name X.env (eval o X.env)=eval o X.env:=by rfl)(hfew:decide ((e::es).length<30)=true:=by rfl)
 (hline:(apos.endLine==cpos.line)=true:=by rfl)(hs:bq (e::es)=true:=by rfl):QE X (.Call (.Attribute o name apos) (e::es) [] cpos) (tBM X.K T rm to t):=⟨IQ pa slot hty hm ho.out ha.out hbase hfew hline hs⟩
theorem aT {op:Sq}{r:R2}(ho:OpR X (compareOp op) r)(ha:QE X a ta)(hb:QE X b tb)(hm:behindInMarks op b=false:=by first|exact lX _|rfl):QT X (.Compare a [op] [b] pos) (aU (tOp r ta tb)):=⟨qtc ho ha.out hb.out hm⟩
theorem kR {op op':Sq}{r r':R2}(ho:OpR X (compareOp op) r)(ho':OpR X (compareOp op') r')(ha:QE X a ta)(hb:QE X b tb)(hc:QE X c tc)(hm:lastMarks [op,op'] [b,c]=false:=by with_unfolding_all rfl):
 QT X (.Compare a [op,op'] [b,c] pos) (aU (dG r r' ta tb tc)):=⟨IR ho ho' ha.out hb.out hc.out hm⟩
theorem cS (h:QE X e te)(he:∀whole,isTrue e X.env whole=(do let v<-whole;standAt e.pos;holding [v] (truthy v)):=by intro _;rfl):QT X e (dO X.K te):=⟨qtb h.out he⟩
theorem dI (ha:QT X a tA):QT X (.UnaryOp .Not a pos) (fb tA):=⟨Cb ha.out⟩
theorem x_w (h:QW X e tA):QT X e tA:=⟨h.out.pt⟩
theorem mw (ha:QT X a tA):QW X (.BoolOp .And [a] pos) tA:=⟨Bg ha.out⟩
theorem jE (ha:QT X a tA):QW X (.BoolOp .Or [a] pos) tA:=⟨CP ha.out⟩
theorem qW (ha:QT X a tA)(hb:QW X (.BoolOp .And (b::bQ) pos) tB'):QW X (.BoolOp .And (a::b::bQ) pos) (qX tA tB'):=⟨Ec ha.out hb.out⟩
theorem jI (ha:QT X a tA)(hb:QW X (.BoolOp .Or (b::bQ) pos) tB'):QW X (.BoolOp .Or (a::b::bQ) pos) (mOr tA tB'):=⟨Fw ha.out hb.out⟩
variable {tg iter elt:Expr}{wi:TI}{ifs:List Expr}{scope:Scope}{ys:List Str}{is:List Nat}{px py spos:Pos}
theorem kQ (hm:X.mg "range"=none)(ha:QA X [a] t)(hg:Gl X "range":=by rfl)(hs:bU a=true:=by rfl):QI X tg (.Call (.Name "range" p) [a] [] pos) (lZ t):=⟨vZ hg hm ha.out (bh hs [] X.env)⟩
theorem yR (hm:X.mg "range"=none)(ha:QA X [a,b] t)(hg:Gl X "range":=by rfl)(hs:bU a=true:=by rfl)(hs2:bU b=true:=by rfl):QI X tg (.Call (.Name "range" p) [a,b] [] pos) (uK t):=
 ⟨wO hg hm ha.out (by rw[bh hs,bh hs2];rfl) (bh hs2 [] X.env)⟩
theorem ir:sY X [] (fun _ H Q=>Q true H):=⟨rfl⟩
theorem AU (h:QT X c tA):sY X [c] tA:=⟨h.out⟩
theorem ip {tcn:TT}(S:eU scope x ys)(hcap:fJ X scope ys is)(hi:QI X (.Name x px) iter wi)
 (hif:∀C s H fp,sY (bz X scope C (x::ys) s H fp) ifs tcn)(he:∀C s H fp,QE (bz X scope C (x::ys) s H fp) elt te)(hc:X.calm=true:=by rfl)
 (hs:∀x,foldedSetIterable iter X.env x=pure x:=by intro _;rfl):QE X (.ListComp elt [⟨.Name x px,iter,ifs,0⟩] scope pos) (fe is wi tcn te):=⟨Bt hc S hcap hi.out (fun C s H fp=>(hif C s H fp).out) (fun C s H fp=>(he C s H fp).out) hs⟩
variable {st:Stmt}{sts:List Stmt}{tS uS:TS}{i j:Nat}
theorem aX:QSs X [] be:=⟨Ay⟩
theorem ax (h:QS X st tS):QSs X [st] tS:=⟨AK h.out⟩
theorem ar (h1:QS X st tS)(h2:QSs X sts uS):QSs X (st::sts) (aF tS uS):=⟨zp h1.out h2.out⟩
theorem aP (h:QE X e te):QS X (.Return (some e) pos) (aS te):=⟨EX h.out⟩
theorem aW {l m:List Stmt}(hc:QT X c tA)(ha:QSs X l tS)(hb:QSs X m uS):QS X (.If c l m pos) (bf tA tS uS):=⟨qif hc.out ha.out hb.out⟩
theorem aH (i:Nat)(hN:X.N.Nodup)(he:QE X e te)(hi:X.N[i]?=some x:=by rfl)(hx:Loc X.env.scope x:=by first|exact .inl rfl|exact .inr rfl)
 (hs:swapsWith e (some (.Name x p)) pos.line X.env=pure false:=by rfl)(hf:X.fn x=true\/X.env.scope.names.lookup x=some .local:=by first|exact .inl rfl|exact .inr rfl):QS X (.Assign [.Name x p] e pos) (aK te (aE i)):=⟨Dz hN hi hx he.out hs hf⟩
theorem vi (j:Nat){tcn:TT}(hN:X.N.Nodup)(S:eU scope x ys)(hcap:fJ X scope ys is)(hi:QI X (.Name x px) iter wi)
  (hif:∀C s H fp,sY (bz X scope C (x::ys) s H fp) ifs tcn)(he:∀C s H fp,QE (bz X scope C (x::ys) s H fp) elt te)(hc:X.calm=true:=by rfl)
  (hj:X.N[j]?=some y:=by rfl)(hy:Loc X.env.scope y:=by first|exact .inl rfl|exact .inr rfl)
  (hsw:swapsWith (.ListComp elt [⟨.Name x px,iter,ifs,0⟩] scope pos) (some (.Name y py)) spos.line X.env=pure true:=by rfl)(hf:X.fn y=true\/X.env.scope.names.lookup y=some .local:=by first|exact .inl rfl|exact .inr rfl)
  (hs:∀x,foldedSetIterable iter X.env x=pure x:=by intro _;rfl):QS X (.Assign [.Name y py] (.ListComp elt [⟨.Name x px,iter,ifs,0⟩] scope pos) spos) (aK (fe is wi tcn te) (aE j)):=
 ⟨tO hN hj hy hc S hcap hi.out (fun C s H fp=>(hif C s H fp).out) (fun C s H fp=>(he C s H fp).out) hsw hf hs⟩
theorem bI (h:QE X e te)(hs:swapsWith e none pos.line X.env=pure false:=by rfl):QS X (.Expr e pos) (bR te):=⟨Bm h.out hs⟩
theorem fV (i:Nat)(hN:X.N.Nodup){body:List Stmt}(hi:QI X (.Name x px) iter wi)(hb:QSs X body tS)(hp:Sm (model X.prog X.w) X.A X.env X.xe)(hc:X.calm=true:=by rfl)
 (hj:X.N[i]?=some x:=by rfl)(hx:Loc X.env.scope x:=by first|exact .inl rfl|exact .inr rfl)(hf:X.fn x=true\/X.env.scope.names.lookup x=some .local:=by first|exact .inl rfl|exact .inr rfl)
 (hs:∀x,foldedSetIterable iter X.env x=pure x:=by intro _;rfl):QS X (.For (.Name x px) iter body [] pos) (gp wi (aE i) tS):=⟨BY hp hc hi.out (AV hN hj hx hf) hb.out hs⟩
theorem fZ {body:List Stmt}(hc:QT X c tA)(hb:QSs X body tS)(hp:Sm (model X.prog X.w) X.A X.env X.xe):QS X (.While c body [] pos) (fF tA tS):=⟨yA hp hc.out hb.out⟩
theorem fu:QS X st eZ:=⟨yV⟩
end
end L2
namespace HT
open PySem PyProof.Rows
structure Hd0 (vs:Array tx)(a0:tx):Prop where
 a:vs[0]?=some a0
 b:vs[2]?=some .none
structure TrD (h base:Heap)(e:Addr)(cls a0:tx)(d:Option Addr)(fl:tx):Prop where
 ex:∃oe vs T oT ts,h.get? e=some oe/\oe.cls=cls/\oe.dict=d/\oe.data=.fields vs/\Hd0 vs a0/\vs[1]?=some (.ref T)/\base.get? T=none/\T≠e/\h.get? T=some oT/\oT.data=.fields ts/\ts[3]?=some fl
structure mr (base:Heap)(l:List Env)(e:Addr)(cls a0:tx)(d:Option Addr)(fl:tx)(h h':Heap):Prop where
 st:base.StaysIn h'
 fr:h'.FunFrames base l
 tr:TrD h' base e cls a0 d fl
 up:h.UpToSlots h'
theorem nw (o:Obj)(f:Array tx->Array tx):(Oa f o).dict=o.dict:=by
 obtain⟨c,d,dt,sl⟩:=o
 cases dt<;>rfl
section
variable {M:TK}{A:Lh}{E:tx->Km->Prop}{s:Km}{base:Heap}{env:Env}{outer:List Env}{L e:Addr}{cls a0:tx}{d:Option Addr}{Q:Unit->Km->Prop}
theorem vq {oe:Obj}{vs:Array tx}{head:tx}{hadNext:Bool}(hfr:A.frames=some (env::outer))(hl:s.heap.FunFrames base (env::outer))(hf:env.frame=some L)(he:s.heap.get? e=some oe)(hc:oe.cls=cls)(hdc:oe.dict=d)
  (hkb:base.StaysIn s.heap)(hen:base.get? e=none)(hd:oe.data=.fields vs)(hsz:1<vs.size)(h0:Hd0 vs a0)(h:∀h',mr base (env::outer) e cls a0 d (rawInt L) s.heap h'->Q () {s with heap:=h'}):
  wpAny M A (do let a<-frameOf env;let pl<-entryPlaceOf L hadNext;let b<-Qi head a .none (rawInt L) .none pl;setField (.ref e) 1 b) Q E s:=by
 have nfr:e∉(env::outer).filterMap (·.frame):=fun hm=>by
  obtain⟨_,o,ho,hnf⟩:=hl.mem hm
  rw[he]at ho
  cases ho
  exact hnf vs hd
 refine cW (wpAny_frameOf_fun hfr hl hf fun h1 s1=>cW (wpAny_entryPlaceOf fun pl hpl=>?_))
 unfold Qi newFields
 refine cW (LY ?_ (hpl.sizeOk5 _ _ _ _ _))
 generalize hts:([head,Kx L,.none,rawInt L,.none]++(if pl.isEmpty then Qj 6 MB else pl)).toArray=ts
 have hts3:ts[3]?=some (rawInt L):=by rw[<-hts];first|(simp;done)|(rcases hpl with rfl|⟨_,_,_,_,_,_,_,rfl⟩<;>simp)
 have e1:h1.get? e=some oe:=(s1.2.1 e nfr).trans he
 have kb1:base.StaysIn h1:=fun b o hbo=>(s1.2.1 b fun hm=>by rw[(hl.mem hm).1]at hbo;cases hbo).trans (hkb b o hbo)
 have e2:(h1.push {cls:=.type "traceback",dict:=none,data:=.fields ts}).get? e=some oe:=gV _ e1
 have nT:h1.objs.size≠e:=Mm (Kp e1)
 refine Rc e2 hd hsz (h _ ?_)
 have d3:=Np hd (·.setIfInBounds 1 (Kx h1.objs.size))
 have e3:=Lm (Oa (·.setIfInBounds 1 (Kx h1.objs.size))) e2 (Om d3)
 have kp:∀b o,b≠e->h1.get? b=some o->((h1.push {cls:=.type "traceback",dict:=none,data:=.fields ts}).update e (Oa (·.setIfInBounds 1 (Kx h1.objs.size)))).get? b=some o:=fun b o nb eb=>
  (Lu _ _ (Lj nb)).trans (gV _ eb)
 have T3:=(Lu (h1.push {cls:=.type "traceback",dict:=none,data:=.fields ts}) (Oa (·.setIfInBounds 1 (Kx h1.objs.size))) (Lj nT)).trans (Kt h1 rfl)
 have nr:∀b o,s.heap.get? b=some o->(∀vs,o.data≠.fields vs)->b≠e:=fun b o hb hnf q=>by
  rw[q,he]at hb
  cases hb
  exact hnf vs hd
 refine⟨fun b o hbo=>kp b o (fun q=>by rw[q,hen]at hbo;cases hbo) (kb1 b o hbo),hl.of_keeps fun b o hb hnf=>?_,⟨_,_,h1.objs.size,_,ts,e3,(Sn ..).trans hc,(nw ..).trans hdc,d3,?_,by simp[hsz],kb1.fresh,nT,T3,rfl,hts3⟩,fun b o hb hnf=>?_⟩
 ·obtain⟨sl,hs⟩:=s1.2.2 b o hb
  exact⟨_,kp b _ (nr b o hb hnf) hs,rfl⟩
 ·exact⟨by rw[OX (by decide)];exact h0.a,by rw[OX (by decide)];exact h0.b⟩
 ·obtain⟨sl,hs⟩:=s1.2.2 b o hb
  exact⟨sl,kp b _ (nr b o hb hnf) hs⟩
theorem rH {oe:Obj}{vs:Array tx}(hfr:A.frames=some (env::outer))(hl:s.heap.FunFrames base (env::outer))(hf:env.frame=some L)(he:s.heap.get? e=some oe)(hc:oe.cls=cls)(hdc:oe.dict=d)(hkb:base.StaysIn s.heap)(hen:base.get? e=none)
  (hd:oe.data=.fields vs)(h1:vs[1]?=some .none)(h0:Hd0 vs a0)(h:∀h',mr base (env::outer) e cls a0 d (rawInt L) s.heap h'->Q () {s with heap:=h'}):wpAny M A (noteFrame (.ref e) env) Q E s:=by
 unfold noteFrame
 simp only[hf]
 refine cW (Lf he hd h1 ?_)
 rw[if_neg (by decide)]
 exact vq hfr hl hf he hc hdc hkb hen hd (Ms.mp h1).1 h0 h
theorem Eu {fl fl':tx}{T:Addr}{oT:Obj}{ts:Array tx}{l:List Env}{oe:Obj}{vs:Array tx}(hkb:base.StaysIn s.heap)(hl:s.heap.FunFrames base l)(he:s.heap.get? e=some oe)(hc:oe.cls=cls)(hdc:oe.dict=d)(hd:oe.data=.fields vs)(h0:Hd0 vs a0)
  (h1:vs[1]?=some (.ref T))(nT:base.get? T=none)(Te:T≠e)(hT:s.heap.get? T=some oT)(hdT:oT.data=.fields ts)(h3:ts[3]?=some fl)(h:∀h',mr base l e cls a0 d fl' s.heap h'->(h'.get? e=some oe)->Q () {s with heap:=h'}):wpAny M A (setField (.ref T) 3 fl') Q E s:=by
 have sz:=(Ms.mp h3).1
 have ot:∀b,b≠T->(s.heap.update T (Oa (·.setIfInBounds 3 fl'))).get? b=s.heap.get? b:=fun b hb=>Lu _ _ (Lj hb)
 have nr:∀b o,s.heap.get? b=some o->(∀vs,o.data≠.fields vs)->b≠T:=fun b o hb hnf q=>by
  rw[q,hT]at hb
  cases hb
  exact hnf ts hdT
 refine Rc hT hdT sz (h _ ⟨fun b o hbo=>(ot b fun q=>by rw[q,nT]at hbo;cases hbo).trans (hkb b o hbo),hl.of_keeps fun b o hb hnf=>⟨o,(ot b (nr b o hb hnf)).trans hb,rfl⟩,
  ⟨oe,vs,T,_,_,(ot e (Lj Te)).trans he,hc,hdc,hd,h0,h1,nT,Te,Lm _ hT (Om (Np hdT _)),Np hdT _,by simp[sz]⟩,fun b o hb hnf=>⟨o.slots,(ot b (nr b o hb hnf)).trans hb⟩⟩ ((ot e (Lj Te)).trans he))
theorem nA {fl:tx}{l:List Env}(hkb:base.StaysIn s.heap)(hl:s.heap.FunFrames base l)(ht:TrD s.heap base e cls a0 d fl)(h:∀h',mr base l e cls a0 d .none s.heap h'->Q () {s with heap:=h'}):wpAny M A (setFlight (.ref e) none) Q E s:=by
 obtain⟨oe,vs,T,oT,ts,he,hc,hdc,hd,h0,h1,nT,Te,hT,hdT,h3⟩:=ht.ex
 unfold setFlight
 refine cW (Lf he hd h1 ?_)
 rw[if_pos (show(Kx T !=MB)=true from by simp)]
 exact Eu hkb hl he hc hdc hd h0 h1 nT Te hT hdT h3 fun h' n _=>h h' n
theorem tF (hfr:A.frames=some (env::outer))(hl:s.heap.FunFrames base (env::outer))(hf:env.frame=some L)(ht:TrD s.heap base e cls a0 d .none)(hkb:base.StaysIn s.heap)(hen:base.get? e=none)
  (h:∀h',mr base (env::outer) e cls a0 d (rawInt L) s.heap h'->Q () {s with heap:=h'}):wpAny M A (noteFrame (.ref e) env) Q E s:=by
 obtain⟨oe,vs,T,oT,ts,he,hc,hdc,hd,h0,h1,nT,Te,hT,hdT,h3⟩:=ht.ex
 unfold noteFrame
 simp only[hf]
 refine cW (Lf he hd h1 ?_)
 rw[if_pos (show(Kx T !=MB)=true from by simp)]
 refine cW (Lf hT hdT h3 ?_)
 rw[if_neg (show ¬((MB==rawInt L)=true)from by simp[rawInt])]
 refine cW (Eu (fl':=.none) hkb hl he hc hdc hd h0 h1 nT Te hT hdT h3 fun h' n he'=>?_)
 exact vq (s:={s with heap:=h'}) hfr n.fr hf he' hc hdc n.st hen hd (Ms.mp h1).1 h0 fun h2 n2=>h h2 ⟨n2.st,n2.fr,n2.tr,n.up.trans n2.up⟩
theorem qT {oe:Obj}{vs:Array tx}(hfr:A.frames=some (env::outer))(hl:s.heap.FunFrames base (env::outer))(hf:env.frame=some L)(he:s.heap.get? e=some oe)(hc:oe.cls=cls)(hdc:oe.dict=d)(hkb:base.StaysIn s.heap)(hen:base.get? e=none)
  (hd:oe.data=.fields vs)(h1:vs[1]?=some .none)(h0:Hd0 vs a0)(h:∀h',mr base outer e cls a0 d .none s.heap h'->Q () {s with heap:=h'}):wpAny M A (leaving env (.ref e)) Q E s:=by
 unfold leaving
 refine cW (rH hfr hl hf he hc hdc hkb hen hd h1 h0 fun h' n=>?_)
 obtain⟨n1,⟨_,_,n2⟩,n3,n4⟩:=n
 exact nA (s:={s with heap:=h'}) n1 n2 n3 fun h2 m=>h h2 ⟨m.st,m.fr,m.tr,n4.trans m.up⟩
end
end HT
namespace L2
open PySem PySem.Spec PyProof.Rows
abbrev veM:List tx:=[.type "ValueError",.type "Exception",.type "BaseException",.type "object"]
def iR (K:pv)(C D:Addr):Option Bool:=match K.lookup C with
 |some ⟨_,_,.cls cd,_⟩=>some (cd.mro.contains (.ref D))
 |_=>none
def rg (K:pv)(C:Addr):Bool:=match K.lookup C with
 |some ⟨.type "type",_,.cls cd,sl⟩=>(match cd.mro,sl.toList with
  |.ref C'::bm,[_,_,_,_,some (.builtin n),_]=>C'==C&&n=="ValueError.__new__"&& !cd.hasDel&&W.tailIn K veM bm&&W.nsOkIn K cd.ns
  |_,_=>false)
 |_=>false
def dD (K:pv)(C:Addr):Prop:=rg K C=true
def wN (K:pv)(C:Addr):Prop:=W.excIn K C veM "ValueError.__new__"=true
theorem iu {K:pv}{h:Heap}{C:Addr}(X:K.In h)(q:dD K C):
  ∃bm N nm qn bs hdct sn sub ab col dd k0 k1 k2 k3 k5 mN,h.get? C=some (excClassObj nm qn C N bs bm hdct sn sub ab col dd k0 k1 k2 k3 k5 "ValueError.__new__")/\h.Ns N mN/\(wN K C->mN "__init__"=none)/\OwnTail h veM bm/\
   ∀D,iR K C D=some ((Kx C::bm).contains (.ref D)):=by
 have q2:=q
 unfold dD rg at q
 split at q
 ·rename_i dd cd sl ho
  split at q
  ·rename_i C' bm k0 k1 k2 k3 n k5 hm hs
   simp only[Li,beq_iff_eq,Bool.not_eq_true']at q
   obtain⟨⟨⟨⟨rfl,rfl⟩,hdel⟩,ht⟩,hok⟩:=q
   obtain⟨nm,bs,mro,ns,qn,hd,sn,sub,ab,col,del⟩:=cd
   dsimp only at hm hdel hok
   subst hm hdel
   have hsl:sl=#[k0,k1,k2,k3,some (.builtin "ValueError.__new__"),k5]:=by
    obtain⟨l⟩:=sl
    simp only at hs
    rw[hs]
   subst hsl
   refine⟨bm,ns,nm,qn,bs,hd,sn,sub,ab,col,dd,k0,k1,k2,k3,k5,_,X _ _ ho,.of_isNs (W.isNs_of_in X hok),fun r=>?_,W.tail_of_in X ht,fun D=>?_⟩
   ·unfold wN W.excIn at r
    rw[ho]at r
    simp only[Li,beq_iff_eq]at r
    exact W.nsMap_none_of_in X hok r.2
   ·unfold iR
    rw[ho]
  ·cases q
 ·cases q
theorem nC {M:TK}{A:Lh}{E:tx->Km->Prop}{s:Km}{K:pv}{C D e:Addr}{oe:Obj}{Q:Bool->Km->Prop}{b:Bool}(X:K.In s.heap)(hC:dD K C)(hD:dD K D)(he:s.heap.get? e=some oe)(hcls:oe.cls=.ref C)
  (hs:iR K C D=some b)(hq:Q b s):wpAny M A (excMatches (.ref e) (.ref D)) Q E s:=by
 obtain⟨bm,N,nm,qn,bs,hdct,sn,sub,ab,col,dd,k0,k1,k2,k3,k5,mN,oC,_,_,_,hsub⟩:=iu X hC
 obtain⟨bm',N',nm',qn',bs',hdct',sn',sub',ab',col',dd',k0',k1',k2',k3',k5',mN',oD,_,_,T',_⟩:=iu X hD
 have hb:(Kx C::bm).contains (.ref D)=b:=KG ((hsub D).symm.trans hs)
 have hbase:(Kx D::bm').contains (.type "BaseException")=true:=by
  rw[OR,T'.hasType (X:="BaseException") (b:=true) (by decide+kernel),Rb]
 have f:=tc_notTuple
 obtain⟨hp,g,d,t,os⟩:=s
 unfold excMatches
 repeat (first|(with_reducible refine MM he ?_;rw[hcls])|with_reducible refine MM oD ?_ |(with_reducible refine MP oC ?_;rw[hb])|(with_reducible refine MP oD ?_;rw[hbase])|wp_step)
 all_goals first|exact hq|(cases b<;>first|exact hq|(repeat (first|exact hq|wp_step)))
structure Fly (P:KI)(w:Lp)(l:List Env)(H:Hp)(s:Km)(cls fl:tx)(a:Addr)(d:Option Addr)(H':Hp)(s':Km):Prop where
 os:s'.os=s.os
 bare:Oo s'.gens
 un:Un (frs l) [] H H' s.heap s'.heap
 hok:HOk P w H' s'.heap
 new:s.heap.get? a=none
 free:H' a=none
 tr:∃oe vs a0 T oT ts,s'.heap.get? a=some oe/\oe.cls=cls/\oe.dict=d/\oe.data=.fields vs/\HT.Hd0 vs a0/\vs[1]?=some (.ref T)/\T≠a/\s'.heap.get? T=some oT/\oT.data=.fields ts/\ts[3]?=some fl/\s.heap.get? T=none/\H' T=none
def CX1 (P:KI)(w:Lp):CXT:=fun outer H s E e s'=>∃a C d H',e=.ref a/\Fly P w outer H s (.ref C) .none a d H' s'/\E (.ref C) d H'
theorem lg {P:KI}{w:Lp}{H:Hp}{h:Heap}{a:Addr}{o:HO}(x:bj P w H h a o):∃u,h.get? a=some u:=by
 cases o with
 |lst xs=>obtain⟨_,_,_,_,e⟩:=x;exact⟨_,e⟩
 |tup xs=>obtain⟨_,_,_,p⟩:=x;obtain⟨o,e,_⟩:=p;exact⟨_,e⟩
 |dK kvs=>obtain⟨_,_,_,_,o,_,_,e,_⟩:=x;exact⟨_,e⟩
 |dT kvs=>obtain⟨_,_,_,_,o,_,_,e,_⟩:=x;exact⟨_,e⟩
 |set S n=>obtain⟨o,_,_,_,e,_⟩:=x;exact⟨_,e⟩
 |ins C dx fs=>obtain⟨_,_,_,e,_⟩:=x;exact⟨_,e⟩
 |own y=>exact x
 |xd fs=>obtain⟨_,⟨_,_,_,e,_⟩,_⟩:=x;exact⟨_,e⟩
 |rng lo hi=>obtain⟨_,_,_,e⟩:=x;exact⟨_,e⟩
 |frz ob u=>obtain⟨e,_⟩:=x;exact⟨_,e⟩
 |tbl ps=>exact⟨_,(show h.get? a=some _ from x)⟩
 |met f y=>exact⟨_,(show h.get? a=some _ from x)⟩
 |ext φ=>obtain⟨_,e,_⟩:=x;exact e
section
variable {P:KI}{w:Lp}{l:List Env}{H H':Hp}{s s':Km}{cls fl fl':tx}{a:Addr}{d:Option Addr}{base:Heap}
def fi (h:Heap)(l:List Env)(a T:Addr):Heap:=W.hideAll h (a::T::frs l)
theorem Fly.frames (F:Fly P w l H s cls fl a d H' s')(ff:s.heap.FunFrames base l)(frf:∀b∈frs l,H b=none):s'.heap.FunFrames base l:=by
 have all:∀(k:List Env),(∀b∈frs k,b∈frs l)->s.heap.FunFrames base k->s'.heap.FunFrames base k:=by
  intro k
  induction k with
  |nil=>intro _ _;trivial
  |cons env r ih=>
   intro hs hl
   obtain⟨hk,⟨L,o,hf,hn,ho,hd⟩,hr⟩:=hl
   have hL:L∈frs l:=hs L (by unfold frs;rw[LH,hf];exact KY)
   obtain⟨sl,e⟩:=F.un.slot L o ho (frf L hL) hL (by simp)
   exact⟨hk,⟨L,_,hf,hn,e,hd⟩,ih (fun b hb=>hs b (by unfold frs;rw[LH,hf];exact KC _ hb)) hr⟩
 exact all l (fun _ hb=>hb) ff
theorem jw {h B B':Heap}:∀{k:List Env},h.FunFrames B k->(∀b∈frs k,B'.get? b=none)->h.FunFrames B' k
 |[],_,_=>trivial
 |env::r,⟨hk,⟨L,o,hf,hn,ho,hd⟩,hr⟩,hb=>⟨hk,⟨L,o,hf,hb L (by unfold frs;rw[LH,hf];exact KY),ho,hd⟩,jw hr fun b h=>hb b (by unfold frs;rw[LH,hf];exact KC _ h)⟩
theorem Fly.moved (F:Fly P w l H s cls fl a d H' s')(ff:s.heap.FunFrames base l)(frf:∀b∈frs l,H b=none)(ffs:∀b∈frs l,H' b=none){T:Addr}{oT:Obj}(hT0:s.heap.get? T=none)(hT1:H' T=none){h':Heap}{a0:tx}
  (st:(fi s'.heap l a T).StaysIn h')(up:s'.heap.UpToSlots h')(tr:HT.TrD h' (fi s'.heap l a T) a cls a0 d fl'):Fly P w l H s cls fl' a d H' {s' with heap:=h'}:=by
 have kp:∀b o,s'.heap.get? b=some o->b≠a->b≠T->b∉frs l->h'.get? b=some o:=fun b o e h1 h2 h3=>st b o (Og _ e (by simp[h1,h2,h3]))
 have ff':=F.frames ff frf
 have nf:∀b∈frs l,∀o,s'.heap.get? b=some o->∀vs,o.data≠.fields vs:=fun b hb o e vs z=>by
  obtain⟨_,o',ho,hd⟩:=ff'.mem hb
  rw[e]at ho;cases ho
  exact hd vs z
 have old:∀b o,s.heap.get? b=some o->b≠a/\b≠T:=fun b o e=>⟨fun z=>(by rw[z,F.new]at e;cases e),fun z=>(by rw[z,hT0]at e;cases e)⟩
 refine⟨F.os,F.bare,⟨fun b o e n hb hx=>?_,fun b o e n hb hx=>?_,F.un.free,fun b o e hx=>?_,F.un.tups,F.un.frzs,F.un.tbls⟩,fun b o e=>?_,F.new,F.free,?_⟩
 ·exact kp b o (F.un.keep b o e n hb hx) (old b o e).1 (old b o e).2 hb
 ·obtain⟨sl,e1⟩:=F.un.slot b o e n hb hx
  obtain⟨sl',e2⟩:=up b _ e1 (nf b hb _ e1)
  exact⟨sl',e2⟩
 ·obtain⟨o',e1⟩:=F.un.there b o e hx
  by_cases hb:b∈frs l
  ·obtain⟨sl',e2⟩:=up b _ e1 (nf b hb _ e1)
   exact⟨_,e2⟩
  ·exact⟨o',kp b o' e1 (old b o e).1 (old b o e).2 hb⟩
 ·refine(F.hok b o e).stay (fun c u hc q=>kp c u q ?_ ?_ ?_) (fun _ q=>q) fun _ _ q=>q
  ·rintro rfl
   rcases hc with r|r
   ·rw[<-r,F.free]at e;cases e
   ·rw[F.free]at r;cases r
  ·rintro rfl
   rcases hc with r|r
   ·rw[<-r,hT1]at e;cases e
   ·rw[hT1]at r;cases r
  ·intro hm
   rcases hc with r|r
   ·rw[<-r,ffs _ hm]at e;cases e
   ·rw[ffs _ hm]at r;cases r
 ·obtain⟨oe,vs,T',oT',ts,he,hc,hdc,hd,h0,h1,hn,hne,hT',hdT,h3⟩:=tr.ex
  have key:s'.heap.get? T'=none\/T'=T:=by
   cases q:s'.heap.get? T' with
   |none=>exact .inl rfl
   |some o=>
    refine .inr (NG fun hz=>?_)
    by_cases hf:T'∈frs l
    ·obtain⟨sl',e2⟩:=up T' o q (nf T' hf o q)
     rw[hT']at e2;cases e2
     exact nf T' hf o q ts hdT
    ·have:(fi s'.heap l a T).get? T'=some o:=Og _ q (by simp[hz,hne,hf])
     rw[hn]at this;cases this
  refine⟨oe,vs,a0,T',oT',ts,he,hc,hdc,hd,h0,h1,hne,hT',hdT,h3,?_,?_⟩
  ·rcases key with z|z
   ·cases q:s.heap.get? T' with
    |none=>rfl
    |some o=>
     obtain⟨o',e⟩:=F.un.there T' o q (by simp)
     rw[z]at e;cases e
   ·rw[z];exact hT0
  ·rcases key with z|z
   ·cases q:H' T' with
    |none=>rfl
    |some o=>
     obtain⟨o1,e1⟩:=lg (F.hok T' o q)
     rw[z]at e1;cases e1
   ·rw[z];exact hT1
end
section
variable {X:Cx}{pins:List (Addr×Obj)}{σ:St}{H H':Hp}{s s':Km}{cls fl:tx}{a:Addr}{d:Option Addr}
theorem Fly.inv (I:Inv X pins σ H s)(F:Fly X.prog X.w X.stack H s cls fl a d H' s'):Inv X pins σ H' s':=I.call' (ch:=[]) F.os F.un F.hok F.bare fun b z=>absurd z (by simp)
theorem Fly.up (I:Inv X pins σ H s)(hex:X.ex=[])(F:Fly X.prog X.w X.stack H s cls fl a d H' s'):Fly X.prog X.w X.outer X.H₀ X.s₀ cls fl a d H' s':=by
 have I2:=F.inv I
 have back:∀b,s.heap.get? b=none->X.s₀.heap.get? b=none:=fun b e=>by
  cases q:X.s₀.heap.get? b with
  |none=>rfl
  |some o=>
   obtain⟨o',e'⟩:=I.base.there b o q (by rw[hex];simp)
   rw[e]at e';cases e'
 obtain⟨oe,vs,a0,T,oT,ts,h1,h2,hd,h3,h4,h5,h6,h7,h8,h9,h10,h11⟩:=F.tr
 have b:=I2.base
 rw[hex]at b
 exact⟨I2.os,I2.bare,b,I2.hok,back a F.new,F.free,oe,vs,a0,T,oT,ts,h1,h2,hd,h3,h4,h5,h6,h7,h8,h9,back T h10,h11⟩
theorem Fly.flying (I:Inv X pins σ H s)(F:Fly X.prog X.w X.stack H s cls .none a d H' s'):∃T a0,s.heap.get? T=none/\H' T=none/\(fi s'.heap X.stack a T).StaysIn s'.heap/\(fi s'.heap X.stack a T).get? a=none/\s'.heap.FunFrames (fi s'.heap X.stack a T) X.stack/\
  HT.TrD s'.heap (fi s'.heap X.stack a T) a cls a0 d .none:=by
 obtain⟨oe,vs,a0,T,oT,ts,h1,h2,hd,h3,h4,h5,h6,h7,h8,h9,h10,h11⟩:=F.tr
 exact⟨T,a0,h10,h11,fun b o e=>RH _ e,Nz _ (by simp),jw (F.frames I.stack I.stkFree) fun b hb=>Nz _ (by simp[hb]),⟨oe,vs,T,oT,ts,h1,h2,hd,h3,h4,h5,Nz _ (by simp),h6,h7,h8,h9⟩⟩
end
structure xo (P:KI)(w:Lp)(l:List Env)(H:Hp)(s:Km)(cls:tx)(a:Addr)(d:Option Addr)(H':Hp)(s':Km):Prop where
 os:s'.os=s.os
 bare:Oo s'.gens
 un:Un (frs l) [] H H' s.heap s'.heap
 hok:HOk P w H' s'.heap
 new:s.heap.get? a=none
 free:H' a=none
 tr:∃oe vs a0,s'.heap.get? a=some oe/\oe.cls=cls/\oe.dict=d/\oe.data=.fields vs/\HT.Hd0 vs a0/\vs[1]?=some .none
section
variable {P:KI}{w:Lp}{l:List Env}{H H':Hp}{s s':Km}{cls fl':tx}{a:Addr}{d:Option Addr}{base:Heap}
theorem oB (un:Un (frs l) [] H H' s.heap s'.heap)(ff:s.heap.FunFrames base l)(frf:∀b∈frs l,H b=none):s'.heap.FunFrames base l:=by
 have all:∀(k:List Env),(∀b∈frs k,b∈frs l)->s.heap.FunFrames base k->s'.heap.FunFrames base k:=by
  intro k
  induction k with
  |nil=>intro _ _;trivial
  |cons env r ih=>
   intro hs hl
   obtain⟨hk,⟨L,o,hf,hn,ho,hd⟩,hr⟩:=hl
   have hL:L∈frs l:=hs L (by unfold frs;rw[LH,hf];exact KY)
   obtain⟨sl,e⟩:=un.slot L o ho (frf L hL) hL (by simp)
   exact⟨hk,⟨L,_,hf,hn,e,hd⟩,ih (fun b hb=>hs b (by unfold frs;rw[LH,hf];exact KC _ hb)) hr⟩
 exact all l (fun _ hb=>hb) ff
theorem xo.moved (F:xo P w l H s cls a d H' s')(ff:s.heap.FunFrames base l)(frf:∀b∈frs l,H b=none)(ffs:∀b∈frs l,H' b=none){h':Heap}{a0:tx}
  (st:(fi s'.heap l a a).StaysIn h')(up:s'.heap.UpToSlots h')(tr:HT.TrD h' (fi s'.heap l a a) a cls a0 d fl'):Fly P w l H s cls fl' a d H' {s' with heap:=h'}:=by
 have kp:∀b o,s'.heap.get? b=some o->b≠a->b∉frs l->h'.get? b=some o:=fun b o e h1 h3=>st b o (Og _ e (by simp[h1,h3]))
 have ff':=oB F.un ff frf
 have nf:∀b∈frs l,∀o,s'.heap.get? b=some o->∀vs,o.data≠.fields vs:=fun b hb o e vs z=>by
  obtain⟨_,o',ho,hd⟩:=ff'.mem hb
  rw[e]at ho;cases ho
  exact hd vs z
 have old:∀b o,s.heap.get? b=some o->b≠a:=fun b o e z=>by rw[z,F.new]at e;cases e
 refine⟨F.os,F.bare,⟨fun b o e n hb hx=>?_,fun b o e n hb hx=>?_,F.un.free,fun b o e hx=>?_,F.un.tups,F.un.frzs,F.un.tbls⟩,fun b o e=>?_,F.new,F.free,?_⟩
 ·exact kp b o (F.un.keep b o e n hb hx) (old b o e) hb
 ·obtain⟨sl,e1⟩:=F.un.slot b o e n hb hx
  obtain⟨sl',e2⟩:=up b _ e1 (nf b hb _ e1)
  exact⟨sl',e2⟩
 ·obtain⟨o',e1⟩:=F.un.there b o e hx
  by_cases hb:b∈frs l
  ·obtain⟨sl',e2⟩:=up b _ e1 (nf b hb _ e1)
   exact⟨_,e2⟩
  ·exact⟨o',kp b o' e1 (old b o e) hb⟩
 ·refine(F.hok b o e).stay (fun c u hc q=>kp c u q ?_ ?_) (fun _ q=>q) fun _ _ q=>q
  ·rintro rfl
   rcases hc with r|r
   ·rw[<-r,F.free]at e;cases e
   ·rw[F.free]at r;cases r
  ·intro hm
   rcases hc with r|r
   ·rw[<-r,ffs _ hm]at e;cases e
   ·rw[ffs _ hm]at r;cases r
 ·obtain⟨oe,vs,T',oT',ts,he,hc,hdc,hd,h0,h1,hn,hne,hT',hdT,h3⟩:=tr.ex
  have key:s'.heap.get? T'=none:=by
   cases q:s'.heap.get? T' with
   |none=>rfl
   |some o=>
    by_cases hf:T'∈frs l
    ·obtain⟨sl',e2⟩:=up T' o q (nf T' hf o q)
     rw[hT']at e2;cases e2
     exact(nf T' hf o q ts hdT).elim
    ·have:(fi s'.heap l a a).get? T'=some o:=Og _ q (by simp[hne,hf])
     rw[hn]at this;cases this
  refine⟨oe,vs,a0,T',oT',ts,he,hc,hdc,hd,h0,h1,hne,hT',hdT,h3,?_,?_⟩
  ·cases q:s.heap.get? T' with
   |none=>rfl
   |some o=>
    obtain⟨o',e⟩:=F.un.there T' o q (by simp)
    rw[key]at e;cases e
  ·cases q:H' T' with
   |none=>rfl
   |some o=>
    obtain⟨o1,e1⟩:=lg (F.hok T' o q)
    rw[key]at e1;cases e1
end
def fD (CX:CXT)(X:Cx)(E:St->XK):Prop:=∀(pins:List (Addr×Obj))(σ:St)(H:Hp)(s:Km)(e:tx)(s':Km),Inv X pins σ H s->CX X.stack H s (E σ) e s'->X.xe e s'
def vh (X:Cx)(E:St->XK):Prop:=∀(pins:List (Addr×Obj))(σ:St)(H:Hp)(s:Km)(C a:Addr)(d:Option Addr)(H2:Hp)(s2:Km),Inv X pins σ H s->xo X.prog X.w X.stack H s (.ref C) a d H2 s2->E σ (.ref C) d H2->X.xe (.ref a) s2
theorem cE {P:KI}{w:Lp}{X:Cx}:fD (CX1 P w) X (fun _=>E0):=fun pins σ H s e s' I ⟨_,_,_,_,_,_,h⟩=>h.elim
section
variable {P:KI}{w:Lp}{K:pv}{mg:Str->Option tx}{base:Heap}{N:List Str}{qual:Str}{scope:Scope}{f:Addr}{cd:tx}{A:Lh}{outer:List Env}{s:Km}{H:Hp}{E:XK}
theorem nN:vh (dq (CX1 P w) P w K mg base N qual scope f cd A outer s H E) (fun _=>E):=by
 intro pins σ H1 s1 C a d H2 s2 I F hE
 have I2:Inv (dq (CX1 P w) P w K mg base N qual scope f cd A outer s H E) pins σ H2 s2:=I.call' (ch:=[]) F.os F.un F.hok F.bare fun b z=>absurd z (by simp)
 obtain⟨oe,vs,a0,he,hc,hdc,hd,h0,h1⟩:=F.tr
 refine HT.qT I.ok.frames (jw (B':=fi s2.heap (dq (CX1 P w) P w K mg base N qual scope f cd A outer s H E).stack a a) (oB F.un I.stack I.stkFree) fun b hb=>Nz _ (KC _ (KC _ hb))) rfl he hc hdc (fun b o e=>RH _ e) (Nz _ (by simp)) hd h1 h0 fun h' n=>?_
 have F2:=F.moved I.stack I.stkFree I2.stkFree n.st n.up n.tr
 exact⟨a,C,d,H2,rfl,F2.up I rfl,hE⟩
end
def aD (sp:Sp)(E:St->XK)(t:TA):TE:=fun σ H Q=>t σ H fun vs H1=>sp vs H1 Q (E σ)
section
variable {X:Cx}{CX:CXT}{k:Nat}{f:Addr}{fd:Kz}{ps:List Str}{sp:Sp}{E:St->XK}{x:Str}{p pos:Pos}{e:Expr}{es:List Expr}{t:TA}
theorem nq {pins:List (Addr×Obj)}{σ:St}{H:Hp}{s:Km}{Q:VK}{us:List tx}{vs:List V}(F:aV X.prog X.w X.K X.mg X.base CX k f fd ps sp)(hr:bu k X.A)(hb:cy X.K fd ps [])(hx:fD CX X E)
  (I:Inv X pins σ H s)(r:bc vs us)(h:sp vs H Q (E σ)):wpAny (model X.prog X.w) X.A (call (.ref f) us) (EP X pins σ Q) X.xe s:=by
 have hl:us.length=ps.length:=by rw[<-r.length];exact F.len _ _ _ _ h
 have hb':=hb s us I.kIn (by rw[Ly];exact hl)
 rw[Ly]at hb'
 refine PR (Nd (F.run X.A X.stack s H ⟨us,[]⟩ us vs Q (E σ) hr I.env0 hb' r h) fun r s' hq=>?_)
 cases r with
 |error e=>exact hx pins σ H s e s' I hq
 |ok fl=>
  cases fl with
  |ret u=>exact I.after hq
  |next=>exact Ll hq
  |brk=>exact Ll hq
  |cont=>exact Ll hq
theorem mR (F:aV X.prog X.w X.K X.mg X.base CX k f fd ps sp)(hr:bu k X.A)(hm:X.mg x=some (.ref f))(hk:NV X.K (.ref f)=true)(hb:cy X.K fd ps [])(hx:fD CX X E)
  (ha:QA X (e::es) t)(hg:Gl X x:=by rfl)(hdb:(x==("__debug__":Str))=false:=by decide)(hs:bq (e::es)=true:=by rfl):QE X (.Call (.Name x p) (e::es) [] pos) (aD sp E t):=by
 refine⟨fun pins s σ H Q I h=>?_⟩
 have h':(bU e&&bq es)=true:=hs
 refine Lx (iq I hg hm ?_ hdb)
 refine RJ (h₀:=X.base) I.ok.mod.kin hk (thn (ha.out pos pins s σ H _ I h) fun us s1 ⟨vs,H1,I1,r,q⟩=>⟨I1.kIn,?_⟩) (bh (Ku.mp h').1 es X.env) (cf (Ku.mp h').2)
 exact nq F hr hb hx I1 r q
theorem qK (F:aV X.prog X.w X.K X.mg X.base CX k f fd ps sp)(hr:bu k X.A)(hm:X.mg x=some (.ref f))(hk:NV X.K (.ref f)=true)(hb:cy X.K fd ps [])(hx:fD CX X E)
  (hg:Gl X x:=by rfl)(hdb:(x==("__debug__":Str))=false:=by decide):QE X (.Call (.Name x p) [] [] pos) (aD sp E av):=by
 refine⟨fun pins s σ H Q I h=>?_⟩
 refine Lx (iq I hg hm ?_ hdb)
 exact W.callWith_K0 I.kIn hk (nq (us:=[]) F hr hb hx I .nil h)
end
theorem Fun.okX {P:KI}{w:Lp}{K:pv}{mg:Str->Option tx}{base:Heap}{x qual:Str}{st:Stmt}{f:Addr}{fd:Kz}{N ps:List Str}{k:Nat}{sp:Sp}(F:Fun K x qual st f fd)(S:aN N ps (aw st))(len:∀vs H Q E,sp vs H Q E->vs.length=ps.length)
  (hbody:∀(cdv:tx)(A:Lh)(outer:List Env)(s:Km)(H:Hp)(vs:List V)(Q:VK)(E:XK),bu k (A.deeper (envOfC qual (aw st) s.heap.objs.size f cdv))->sp vs H Q E->
   ∃t,PSs (dq (CX1 P w) P w K mg base N qual (aw st) f cdv A outer s H E) (ba st) t/\t {nx:=fun _ H'=>Q .non H',rt:=Q} (start N vs) H):aV P w K mg base (CX1 P w) (k+1) f fd ps sp:=by
 obtain⟨oc,od,kV,doc,pm,an,cdv,ct,osl,rfl,lk,hcd⟩:=F.ex
 exact Am lk hcd S len fun A outer s H vs Q E hr hsp=>hbody cdv A outer s H vs Q E hr hsp
def cxH (X:Cx)(a:Addr):Cx:={X with A:=X.A.mark (some (.ref a)),calm:=false,xe:=fun _ _=>False}
section
variable {X:Cx}{pins:List (Addr×Obj)}{σ:St}{H:Hp}{s:Km}{a:Addr}
theorem Cx.Ok.toH (ok:X.Ok):(cxH X a).Ok:=⟨ok.mod,ok.kind,ok.glob,ok.blt,ok.above,ok.inj,ok.has,ok.cab,fun h=>absurd (show false=true from h) KF,ok.frames,ok.stk,ok.exf,ok.bs,ok.bsz,ok.noex,ok.exfs,ok.funs,ok.frf⟩
theorem Inv.toH (I:Inv X pins σ H s):Inv (cxH X a) pins σ H s:=⟨I.ok.toH,I.os,I.bare,I.base,I.loc,I.cell,I.free,I.freeC,I.pin,I.hok,I.len⟩
theorem Inv.ofH (ok:X.Ok)(I:Inv (cxH X a) pins σ H s):Inv X pins σ H s:=⟨ok,I.os,I.bare,I.base,I.loc,I.cell,I.free,I.freeC,I.pin,I.hok,I.len⟩
theorem SP.ofH {D:fy}{f:Flow}(ok:X.Ok)(h:SP (cxH X a) pins D f s):SP X pins D f s:=by
 cases f with
 |next=>obtain⟨σ',H',J,q⟩:=h;exact⟨σ',H',J.ofH ok,q⟩
 |brk=>obtain⟨σ',H',J,q⟩:=h;exact⟨σ',H',J.ofH ok,q⟩
 |cont=>obtain⟨σ',H',J,q⟩:=h;exact⟨σ',H',J.ofH ok,q⟩
 |ret u=>obtain⟨v,σ',H',J,r,q⟩:=h;exact⟨v,σ',H',J.ofH ok,r,q⟩
end
abbrev TH:=fy->St->Addr->Option Addr->Hp->Prop
def PH (X:Cx)(hs:List On)(t:TH):Prop:=∀(pins:List (Addr×Obj))(s0:Km)(σ:St)(H1 H':Hp)(C a:Addr)(d:Option Addr)(s3:Km)(D:fy),X.stack=X.env::X.outer->X.env.frame=some X.env.locals->X.ex=[]->
 Inv X pins σ H1 s0->Fly X.prog X.w X.stack H1 s0 (.ref C) .none a d H' s3->dD X.K C->t D σ C d H'->wpAny (model X.prog X.w) X.A (handleBy (.ref a) X.env hs) (SP X pins D) X.xe s3
structure QH (X:Cx)(hs:List On)(t:TH):Prop where
 out:PH X hs t
def zD:TH:=fun _ _ _ _ _=>False
def BN (K:pv)(Dc:Addr)(ts:TS)(r:TH):TH:=fun D σ C d H=>∃b,iR K C Dc=some b/\Sel b (ts D σ H) (r D σ C d H)
section
variable {X:Cx}
theorem EN:QH X [] zD:=⟨fun _ _ _ _ _ _ _ _ _ _ _ _ _ _ _ _ h=>h.elim⟩
theorem vL {pins:List (Addr×Obj)}{σ:St}{H H':Hp}{s s':Km}{cls:tx}{a:Addr}{d:Option Addr}{M:TK}{A:Lh}{E:tx->Km->Prop}{Q:Unit->Km->Prop}(I:Inv X pins σ H s)(F:Fly X.prog X.w X.stack H s cls .none a d H' s')
  (hQ:∀s'',Fly X.prog X.w X.stack H s cls .none a d H' s''->Q () s''):wpAny M A (setFlight (.ref a) none) Q E s':=by
 obtain⟨T,a0,hT0,hT1,f1,f2,f3,f4⟩:=F.flying I
 refine HT.nA f1 f3 f4 fun h' n=>?_
 exact hQ _ (F.moved (oT:={cls:=.none,data:=.dict #[]}) I.stack I.stkFree (F.inv I).stkFree hT0 hT1 n.st n.up n.tr)
variable {x n:Str}{np hp:Pos}{Dc:Addr}{b0:Stmt}{suite:List Stmt}{bQ:List On}{ts:TS}{r:TH}{i:Nat}
theorem yG {A:Lh}{E:tx->Km->Prop}{pins:List (Addr×Obj)}{s:Km}{σ:St}{H:Hp}{u:tx}{pos:Pos}{Q:tx->Km->Prop}(I:Inv X pins σ H s)(hg:Gl X x)(hm:X.mg x=some u)(h:Q u s)
  (hd:(x==("__debug__":Str))=false:=by decide):wpAny (model X.prog X.w) A (eval (.Name x pos) X.env) Q E s:=
 NI I.ok.kind hg (Qr (by rw[I.ok.glob];exact I.mod.glob.keeps I.bk) hm h) hd
theorem DM (hD:dD X.K Dc)(hm:X.mg x=some (.ref Dc))(hs:∀a,QSs (cxH X a) (b0::suite) ts)(hr:QH X bQ r)(hg:Gl X x:=by rfl)(hdb:(x==("__debug__":Str))=false:=by decide):
  QH X (.ExceptHandler (some (.Name x np)) none (b0::suite) hp::bQ) (BN X.K Dc ts r):=by
 refine⟨fun pins s0 σ H1 H' C a d s3 D e1 e2 hex I F hC h=>?_⟩
 obtain⟨b,hb,q⟩:=h
 have I3:=F.inv I
 obtain⟨oe,vs,_,_,_,_,he,hc,hdc,hd,_⟩:=F.tr
 refine wpAny_handleBy_cons (codeAny_handlers_test (yG I3 hg hm ?_ hdb)) (by intro q;cases q)
 refine nC I3.kIn hC hD he hc hb ?_
 have q:=eC q
 cases b with
 |false=>exact hr.out pins s0 σ H1 H' C a d s3 D e1 e2 hex I F hC q
 |true=>
  refine codeAny_handlers_suite (vL I F fun s4 F4=>?_)
  refine KU ((hs a).out pins s4 σ H' D (F4.inv I).toH q) (fun f s5 h5=>?_) fun _ _ z=>z.elim
  exact SP.ofH I.ok h5
end
def DO (K:pv)(tb:(St->XK)->TS)(th:TH)(te:TS):TS:=fun D σ H=>
 tb (fun σ' cls d H'=>∃C,cls=.ref C/\dD K C/\th D σ' C d H') {D with nx:=te D} σ H
abbrev cxT (X:Cx)(pn:List (Addr×Obj))(E':tx->Km->Prop):Cx:={X with pn:=pn,xe:=E'}
section
variable {X:Cx}{pins pn:List (Addr×Obj)}{σ:St}{H:Hp}{s:Km}{E':tx->Km->Prop}
theorem Cx.Ok.toT (ok:X.Ok):(cxT X pn E').Ok:=⟨ok.mod,ok.kind,ok.glob,ok.blt,ok.above,ok.inj,ok.has,ok.cab,ok.hd,ok.frames,ok.stk,ok.exf,ok.bs,ok.bsz,ok.noex,ok.exfs,ok.funs,ok.frf⟩
theorem Inv.toT (I:Inv X pins σ H s):Inv (cxT X (X.pn++pins) E') [] σ H s:=⟨I.ok.toT,I.os,I.bare,I.base,I.loc,I.cell,I.free,I.freeC,fun p hp=>I.pin p (by
 have hp:p∈(X.pn++pins)++[]:=hp
 rwa [Ly]at hp),I.hok,I.len⟩
theorem Inv.ofT {pins':List (Addr×Obj)}(ok:X.Ok)(I:Inv (cxT X (X.pn++pins) E') pins' σ H s):Inv X pins σ H s:=⟨ok,I.os,I.bare,I.base,I.loc,I.cell,I.free,I.freeC,fun p hp=>I.pin p (Lb _ hp),I.hok,I.len⟩
theorem Ig {body orelse:List Stmt}{h0:On}{hs:List On}{pos:Pos}{tb:(St->XK)->TS}{te:TS}{th:TH}
  (hb:∀(pn':List (Addr×Obj))(E':tx->Km->Prop)(EH:St->XK),fD (CX1 X.prog X.w) (cxT X pn' E') EH->QSs (cxT X pn' E') body (tb EH))(hh:QH X (h0::hs) th)(he:QSs X orelse te)
  (e1:X.stack=X.env::X.outer:=by rfl)(e2:X.env.frame=some X.env.locals:=by rfl)(hex:X.ex=[]:=by rfl):QS X (.Try body (h0::hs) orelse [] pos) (DO X.K tb th te):=by
 refine⟨fun pins s σ H D I h=>?_⟩
 let E':tx->Km->Prop:=fun e s1=>∃σ1 H1 s0 C a d H',e=.ref a/\Inv X pins σ1 H1 s0/\Fly X.prog X.w X.stack H1 s0 (.ref C) .none a d H' s1/\dD X.K C/\th D σ1 C d H'
 have pass:fD (CX1 X.prog X.w) (cxT X (X.pn++pins) E') (fun σ' cls d H'=>∃C,cls=.ref C/\dD X.K C/\th D σ' C d H'):=by
  intro pins' σ1 H1 s0 e s1 I1 hx
  obtain⟨a,C,d,H',rfl,F,C',ec,hC,ht⟩:=hx
  cases ec
  exact⟨σ1,H1,s0,C,a,d,H',rfl,I1.ofT I.ok,F,hC,ht⟩
 refine wpAny_Try_except (KU ((hb (X.pn++pins) E' _ pass).out [] s σ H _ I.toT h) (fun f s1 h1=>?_) fun e s1 h1=>?_)
 ·cases f with
  |next=>
   obtain⟨σ',H',J,q⟩:=h1
   exact he.out pins s1 σ' H' D (J.ofT I.ok) q
  |brk=>obtain⟨σ',H',J,q⟩:=h1;exact⟨σ',H',J.ofT I.ok,q⟩
  |cont=>obtain⟨σ',H',J,q⟩:=h1;exact⟨σ',H',J.ofT I.ok,q⟩
  |ret u=>obtain⟨v,σ',H',J,rv,q⟩:=h1;exact⟨v,σ',H',J.ofT I.ok,rv,q⟩
 ·obtain⟨σ1,H1,s0,C,a,d,H',rfl,I1,F,hC,ht⟩:=h1
  obtain⟨T,a0,hT0,hT1,f1,f2,f3,f4⟩:=F.flying I1
  have hfr:=I1.ok.frames
  rw[e1]at hfr
  have f3':=f3
  rw[e1]at f3'
  have f1':=f1
  have f2':=f2
  have f4':=f4
  rw[e1]at f1' f2' f4'
  refine HT.tF hfr f3' e2 f4' f1' f2' fun h' n1=>?_
  refine HT.nA (s:={s1 with heap:=h'}) n1.st n1.fr n1.tr fun h'' n2=>?_
  have st:(fi s1.heap X.stack a T).StaysIn h'':=by rw[e1];exact n2.st
  have tr:HT.TrD h'' (fi s1.heap X.stack a T) a (.ref C) a0 d .none:=by rw[e1];exact n2.tr
  have F3:=F.moved (oT:={cls:=.none,data:=.dict #[]}) I1.stack I1.stkFree (F.inv I1).stkFree hT0 hT1 st (n1.up.trans n2.up) tr
  exact hh.out pins s0 σ1 H1 H' C a d _ D e1 e2 hex I1 F3 hC ht
end
structure wD (K:pv)(C:Addr):Prop where
 ga:LI K (.ref C) "__getattribute__"=some (some (.builtin "BaseException.__getattribute__"))
 na:LI K (.ref C) "__getattr__"=some none
 cl:LI K (.ref C) "__class__"=some (some (.builtin "object.__class__"))
 mo:Pw K C (.type "object")=some true
 mb:Pw K C (.type "BaseException")=some true
end L2
namespace HT
open PySem PyProof.Rows
section
variable {prog:KI}{w:Lp}{A:Lh}{E:tx->Km->Prop}{s:Km}
theorem jf {t sl:Addr}{items:Array tx}{vl vu:tx}{lo hi:Option Int}{Q:tx->Km->Prop}(ht:QL s.heap t items)(hs:s.heap.IsSliceOf sl vl vu .none)(pl:Qe vl lo)(pu:Qe vu hi)
  (hw:sIx items.size 0 lo=0/\sIx items.size items.size hi=items.size)(h:Q (.ref t) s):wpAny (model prog w) A (getItem (.ref t) (.ref sl)) Q E s:=by
 obtain⟨os,hos,hcs,hds⟩:=id hs
 have hTs:s.TypeIs (.ref sl) "slice":=⟨os,hos,hcs⟩
 unfold getItem
 try with_reducible refine Md ?_
 first|refine cW (Ko ?_)|skip
 refine cW (Ts ht.typeIs (by decide) ?_)
 refine cW (Lz (name:=LM "__getitem__") ht.typeIs LB
  (LF LB ht.typeIs SY ?_ (Tl _ _)))
 show wpAny _ _ (OD (.ref t)>>=_) _ _ s
 refine cW (tupleItemsOf_ ht ?_)
 refine cW (OG hTs ?_)
 rw[if_pos (by decide)]
 refine cW (gm hs pl pu ?_)
 have hyes:(((sIx items.size 0 lo:Nat):Int)==0&&(1:Int)==1&&(sIx items.size items.size hi- sIx items.size 0 lo)==items.size)=true:=by
  rw[hw.1,hw.2];simp
 show wpAny _ _ (if (((sIx items.size 0 lo:Nat):Int)==0&&(1:Int)==1&&(sIx items.size items.size hi- sIx items.size 0 lo)==items.size)=true then _ else _) _ _ s
 rw[if_pos hyes]
 have hte:s.TypeIs (.ref t) "tuple":=ht.typeIs
 unfold Ub
 repeat (first|exact⟨_,rfl,Ko h⟩|(with_reducible refine OG hte ?_)|wp_step)
end
section
variable {prog:KI}{w:Lp}{A:Lh}{E:tx->Km->Prop}{s:Km}
theorem xp {t b:Addr}{ws:List tx}{Q:tx->Km->Prop}(ht:QL s.heap t #[])(hb:QL s.heap b ws.toArray)(h1:Q (.ref b) s):wpAny (model prog w) A (binaryOp .Add (.ref t) (.ref b)) Q E s:=by
 obtain⟨⟨cls,dd,data,sl⟩,ho,hc,n,hd⟩:=id ht
 obtain⟨⟨cls2,dd2,data2,sl2⟩,ho2,hc2,n2,hd2⟩:=id hb
 simp only at hc hd hc2 hd2
 subst hc hd hc2 hd2
 exact Sg ⟨_,ho,rfl⟩ ⟨_,ho2,rfl⟩ Qo RF NX NU (NO _ _)
  (tuple_addW0 t b #[] ws.toArray n n2 dd dd2 sl sl2 (by simp)) ⟨ho,ho2,h1⟩
end
end HT
namespace L2
open PySem PySem.Spec PyProof.Rows
theorem aA.rfl' {H:Hp}:aA H H:=fun _ _ e=>e
theorem sU {xs:List V}{lo hi:Option Int}(h:HT.sIx xs.length 0 lo=0/\HT.sIx xs.length xs.length hi=xs.length):dX xs lo hi=xs:=by
 unfold dX
 rw[h.1,h.2,OB,LN,NA]
section
variable {X:Cx}
def Ae:V->Option Int->Option Int->Hp->VK->Prop:=fun x lo hi H Q=>∃a xs,x=.ref a/\H a=some (.tup xs)/\∀p H',aA H H'->H' p=some (.tup (dX xs lo hi))->Q (.ref p) H'
theorem Bz:SlR X Ae:=by
 intro pins s σ H x v vl vu lo hi sl Q I rx hs pl pu h
 obtain⟨a,xs,rfl,hx,q⟩:=h
 have hq:SqT X.K H a xs:=.inl (.inl hx)
 by_cases hw:HT.sIx xs.length 0 lo=0/\HT.sIx xs.length xs.length hi=xs.length
 ·cases rx
  obtain⟨its,r,ht,hz⟩:=I.tuple hq
  have hlen:its.toArray.size=xs.length:=by rw[Ks];exact r.length.symm
  refine⟨"tuple",_,LB.lookup,ht.typeIs,?_⟩
  refine HT.jf ht hs pl pu (by rw[hlen];exact hw) ?_
  exact⟨.ref a,H,I,rfl,q a H aA.rfl' (by rw[sU hw];exact hx)⟩
 ·exact CH pins s σ H _ v vl vu lo hi sl Q I rx hs pl pu ⟨a,xs,rfl,hq,hw,fun p hp=>q p _ (aA.upd hp) (au ..)⟩
def Af:R2:=fun x y H Q=>∃a b xs ys,x=.ref a/\y=.ref b/\H a=some (.tup xs)/\H b=some (.tup ys)/\xs.length+ys.length<=sizeLine/\∀p H',aA H H'->H' p=some (.tup (xs++ys))->Q (.ref p) H'
theorem Bf:OpR X (binaryOp .Add) Af:=by
 intro pins s σ H x y v u Q I rx ry h
 obtain⟨a,b,xs,ys,rfl,rfl,ha,hb,hz,q⟩:=h
 by_cases hx:xs=[]
 ·subst hx
  cases rx
  cases ry
  obtain⟨its,r1,p1,_⟩:=I.tuple (.inl (.inl ha))
  obtain⟨its2,r2,p2,_⟩:=I.tuple (.inl (.inl hb))
  cases r1
  exact HT.xp p1 p2 ⟨.ref b,H,I,rfl,q b H aA.rfl' hb⟩
 ·refine Bq pins s σ H _ _ v u Q I rx ry ⟨a,b,xs,ys,rfl,rfl,.inl (.inl ha),.inl (.inl hb),hx,hz,fun e=>?_,fun _ p hp=>q p _ (aA.upd hp) (au ..)⟩
  subst e
  exact q a H aA.rfl' (by rw[Ly];exact ha)
def bi (K:pv):R2:=fun x y H Q=>match x,y with
 |.int i,.int j=>Q (.int (i+j)) H
 |.str i,.str j=>i.length+j.length<=sizeLine/\Q (.str (i++j)) H
 |.ref a,.ref b=>EL (.ref a) (.ref b) H Q\/Af (.ref a) (.ref b) H Q
 |_,_=>False
theorem bp:OpR X (binaryOp .Add) (bi X.K):=(DS.or (uA.or (ES.or Bf))).imp fun x y H Q q=>by
 unfold bi at q
 split at q
 ·exact .inl ⟨_,_,rfl,rfl,q⟩
 ·exact .inr (.inl ⟨_,_,rfl,rfl,q.1,q.2⟩)
 ·exact .inr (.inr q)
 ·exact q.elim
def BW (K:pv):V->Option Int->Option Int->Hp->VK->Prop:=fun x lo hi H Q=>BQ K x lo hi H Q\/Ae x lo hi H Q
theorem Dx:SlR X (BW X.K):=Ax.or Bz
def uz (t:TE):TE:=fun σ H Q=>t σ H fun x H'=>match x with
 |.int i=>i.natAbs.log2<1920/\Q (.str (toString i)) H'
 |.str z=>z.length<=sizeLine/\Q (.str z) H'
 |_=>False
theorem uc {e:Expr}{te:TE}{pos:Pos}(h:QE X e te):QE X (.FormattedValue e (-1) none pos) (uz te):=⟨fun pins s σ H Q I q=>by
 refine FormattedValue_plain (thn (h.out pins s σ H _ I q) fun v s1 ⟨x,H1,I1,r1,q1⟩=>?_)
 cases x<;>first|exact q1.elim|skip
 ·rename_i i
  obtain⟨t,rfl⟩:=(show ∃t,v=OK i t from r1)
  exact formatField_int_small q1.1 ⟨.str _,H1,I1.tok _,⟨_,rfl⟩,q1.2⟩
 ·rename_i z
  obtain⟨t,rfl⟩:=(show ∃t,v=Nv z t from r1)
  exact formatField_str (fun t' tk=>⟨.str _,H1,I1.tok _,⟨_,rfl⟩,q1.2⟩) q1.1⟩
def mJ:List TE->Str->TE
 |[],acc=>fun σ H Q=>acc.length<=sizeLine/\Q (.str acc) H
 |t::r,acc=>fun σ H Q=>t σ H fun x H'=>match x with
  |.str y=>(acc++y).length<=sizeLine/\mJ r (acc++y) σ H' Q
  |_=>False
inductive QJ (X:Cx):List Expr->List TE->Prop where
 |nil:QJ X [] []
 |cons {e:Expr} {t:TE} {es:List Expr} {ts:List TE}:QE X e t->QJ X es ts->QJ X (e::es) (t::ts)
theorem Fg {es:List Expr}{ts:List TE}(j:QJ X es ts):∀{pins:List (Addr×Obj)}{s:Km}{σ:St}{H:Hp}{Q:VK}{acc:Str},Inv X pins σ H s->mJ ts acc σ H Q->wpAny (model X.prog X.w) X.A (joinParts acc (evalEach es X.env)) (EP X pins σ Q) X.xe s:=by
 induction j with
 |nil=>intro pins s σ H Q acc I q;exact joinParts_nil ⟨.str _,H,I.tok _,⟨_,rfl⟩,q.2⟩ q.1
 |cons h _ ih=>
  intro pins s σ H Q acc I q
  refine joinParts_cons (thn (h.out pins s σ H _ I q) fun v s1 ⟨x,H1,I1,r1,q1⟩=>?_)
  cases x<;>first|exact q1.elim|skip
  rename_i z
  obtain⟨t,rfl⟩:=(show ∃t,v=Nv z t from r1)
  exact⟨q1.1,ih I1 q1.2⟩
theorem vj {v1 v2:Expr}{bQ:List Expr}{ts:List TE}{pos:Pos}(j:QJ X (v1::v2::bQ) ts):QE X (.JoinedStr (v1::v2::bQ) pos) (mJ ts My):=⟨fun pins s σ H Q I q=>JoinedStr_many (Fg j I q)⟩
end
theorem yx {K:pv}{C D:Addr}{b:Bool}(h:Pw K C (.ref D)=some b):iR K C D=some b:=by
 unfold Pw W.clsIn at h
 unfold iR
 split at h
 ·rename_i cd sl e
  rw[e]
  dsimp only[Option.bind]at h⊢
  split at h
  ·cases h
  ·exact h
 ·cases h
theorem Fun.okN {P:KI}{w:Lp}{K:pv}{mg:Str->Option tx}{base:Heap}{CX:CXT}{x qual:Str}{st:Stmt}{f:Addr}{fd:Kz}{N ps:List Str}{k:Nat}{sp:Sp}(F:Fun K x qual st f fd)(S:aN N ps (aw st))(len:∀vs H Q E,sp vs H Q E->vs.length=ps.length)
  (hbody:∀(cdv:tx)(A:Lh)(outer:List Env)(s:Km)(H:Hp)(vs:List V)(Q:VK)(E:XK),bu k (A.deeper (envOfC qual (aw st) s.heap.objs.size f cdv))->sp vs H Q E->
   ∃t,PSs (dq CX P w K mg base N qual (aw st) f cdv A outer s H E).nox (ba st) t/\t {nx:=fun _ H'=>Q .non H',rt:=Q} (start N vs) H):aV P w K mg base CX (k+1) f fd ps sp:=by
 obtain⟨oc,od,kV,doc,pm,an,cdv,ct,osl,rfl,lk,hcd⟩:=F.ex
 refine Am lk hcd S len fun A outer s H vs Q E hr hsp=>?_
 obtain⟨t,h,q⟩:=hbody cdv A outer s H vs Q E hr hsp
 exact⟨t,h.nox,q⟩
section
variable {X:Cx}
def BI:V->Option Int->Option Int->Hp->VK->Prop:=fun x lo hi H Q=>∃z,x=.str z/\z.length<=sizeLine/\Q (.str (Txt.slice z lo hi)) H
theorem Dr:SlR X BI:=by
 intro pins s σ H x v vl vu lo hi sl Q I rx hs pl pu h
 obtain⟨z,rfl,hz,q⟩:=h
 obtain⟨t,rfl⟩:=(show ∃t,v=Nv z t from rx)
 refine⟨"str",_,F.slot_str_getitem.lookup,Tx _ _ _,?_⟩
 have fin:∀(l u:Option (Int×Tok)),l.map (·.1)=lo->u.map (·.1)=hi->s.heap.IsSlice sl l u none->wpAny (model X.prog X.w) X.A (getItem (.str z t) (.ref sl)) (EP X pins σ Q) X.xe s:=fun l u e1 e2 hs'=>by
  subst e1 e2
  refine wpAny_getItem_str_slice (l:=l) (u:=u) (st:=none) hs' rfl (post_val_or_str ⟨KN (Txt.slice_le z _ _) hz,fun t' k=>⟨.str _,H,I.tok k,⟨_,rfl⟩,q⟩⟩)
 obtain⟨os,hos,hcs,hds⟩:=hs
 cases pl with
 |none=>cases pu with
  |none=>exact fin none none rfl rfl ⟨os,hos,hcs,hds⟩
  |int j tj=>exact fin none (some (j,tj)) rfl rfl ⟨os,hos,hcs,hds⟩
 |int i ti=>cases pu with
  |none=>exact fin (some (i,ti)) none rfl rfl ⟨os,hos,hcs,hds⟩
  |int j tj=>exact fin (some (i,ti)) (some (j,tj)) rfl rfl ⟨os,hos,hcs,hds⟩
def jj (K:pv):V->Option Int->Option Int->Hp->VK->Prop:=fun x lo hi H Q=>BW K x lo hi H Q\/BI x lo hi H Q
theorem gh:SlR X (jj X.K):=Dx.or Dr
def jy:V->Bool
 |.int _=>true
 |.str _=>true
 |_=>false
theorem uO {A:Lh}{s:Km}{x y:V}{u v:tx}(rx:aY x u)(ry:aY y v)(hx:jy x=true)(hy:jy y=true):PySem.SeqAt.EqAt A s u v (decide (x=y)):=by
 cases x<;>first|cases hx|skip
 all_goals (cases y<;>first|cases hy|skip)
 ·obtain⟨t,rfl⟩:=rx;obtain⟨t',rfl⟩:=ry
  have e:=OA (A:=A) (s:=s) ‹Int› t ‹Int› t'
  rename_i i j
  have e2:decide (V.int i=V.int j)=(i==j):=by rw[jq (f:=V.int) fun _ _ e=>V.int.inj e];rfl
  rw[e2];exact OA i t j t'
 ·obtain⟨t,rfl⟩:=rx;obtain⟨t',rfl⟩:=ry
  exact Pj _ _ _ _
 ·obtain⟨t,rfl⟩:=rx;obtain⟨t',rfl⟩:=ry
  exact Ph _ _ _ _
 ·obtain⟨t,rfl⟩:=rx;obtain⟨t',rfl⟩:=ry
  rename_i i j
  have e2:decide (V.str i=V.str j)=(i==j):=by
   rw[jq (f:=V.str) fun _ _ e=>V.str.inj e]
   by_cases h:i=j
   ·rw[h];simp
   ·rw[decide_eq_false h];exact(beq_eq_false_iff_ne.mpr h).symm
  rw[e2];exact SL i t j t'
theorem vN {xs ys:List V}:decide (xs=ys)=((MZ (min xs.length ys.length)).all (fun j=>decide (xs[j]?=ys[j]?))&&xs.length==ys.length):=by
 by_cases h:xs=ys
 ·subst h;simp
 ·rw[decide_eq_false h]
  by_cases hl:xs.length=ys.length
  ·rw[hl,Nat.min_self,beq_self_eq_true,Tq]
   symm
   rw[List.all_eq_false]
   apply NG
   intro hn
   apply h
   apply Sa fun i=>?_
   by_cases hi:i<ys.length
   ·apply NG
    intro hne
    exact hn ⟨i,Nw.mpr hi,by simpa using hne⟩
   ·rw[Lo (by omega),Lo (by omega)]
  ·have:(xs.length==ys.length)=false:=by simpa using hl
   rw[this,Bool.and_false]
def BF (K:pv):R2:=fun x y H Q=>∃a b xs ys,x=.ref a/\y=.ref b/\SqT K H a xs/\SqT K H b ys/\xs.all jy=true/\ys.all jy=true/\Q (.bl (decide (xs=ys))) H
theorem En (hu:X.A.units<cLine):OpR X (compareOp .Eq) (BF X.K):=by
 intro pins s σ H x y v u Q I rx ry h
 obtain⟨a,b,xs,ys,rfl,rfl,ha,hb,px,py,q⟩:=h
 cases rx
 cases ry
 obtain⟨its,r1,p1,_⟩:=I.tuple ha
 obtain⟨its2,r2,p2,_⟩:=I.tuple hb
 have l1:=r1.length
 have l2:=r2.length
 refine PySem.SeqAt.eq_tupleAt (e:=fun j=>decide (xs[j]?=ys[j]?)) p1 p2 hu (fun j h1 h2=>?_) ?_
 ·have h1:j<its.length:=by simpa using h1
  have h2:j<its2.length:=by simpa using h2
  have e1:xs[j]?=some xs[j]:=If (by omega)
  have e2:ys[j]?=some ys[j]:=If (by omega)
  obtain⟨u1,g1,ru1⟩:=r1.get e1
  obtain⟨u2,g2,ru2⟩:=r2.get e2
  have g1':its.toArray[j]=u1:=by
   rw[If h1]at g1;simpa using KG g1
  have g2':its2.toArray[j]=u2:=by
   rw[If h2]at g2;simpa using KG g2
  rw[g1',g2',e1,e2]
  have:decide (some xs[j]=some ys[j])=decide (xs[j]=ys[j]):=by simp
  rw[this]
  exact uO ru1 ru2 (LD.mp px _ (Mv _)) (LD.mp py _ (Mv _))
 ·have e:=vN (xs:=xs) (ys:=ys)
  rw[l1,l2]at e
  simp only[Ks]
  rw[<-e]
  exact⟨.bl _,H,I,rfl,q⟩
def qH:List V->Hp->VK->Prop:=fun xs H Q=>match xs with
 |[.str z]=>∃n,PySem.intText? z=some n/\z.length<=640/\Q (.int n) H
 |[.bl b]=>Q (.int (if b then 1 else 0)) H
 |_=>False
theorem yt:ck X (.type "int") qH:=fun pins s σ H xs us Q I r h=>by
 unfold qH at h
 split at h
 ·obtain⟨n,h1,h2,q⟩:=h
  obtain⟨u,rfl,ru⟩:=fE r
  obtain⟨t,rfl⟩:=ru
  exact W.KIN.call_text h1 h2 ⟨.int n,H,I.tok _,⟨_,rfl⟩,q⟩
 ·obtain⟨u,rfl,ru⟩:=fE r
  cases ru
  exact call_int_bool ⟨.int _,H,I.tok _,⟨_,rfl⟩,h⟩
 ·exact h.elim
end
end L2
namespace HT
open PySem PyProof.Rows
section
variable {prog:KI}{w:Lp}{A:Lh}{E:tx->Km->Prop}{s:Km}
theorem qM {it t:Addr}{i:Nat}{items:Array tx}{x:tx}{Q:tx->Km->Prop}(hit:s.heap.IsTupleIter it t i)(ht:s.heap.IsTuple t items)(hx:items[i]?=some x)
  (hQ:∀h',h'.IsTupleIter it t (i+1)->Mw it s.heap h'->Q x {s with heap:=h'}):wpAny (model prog w) A (Lv (.ref it)) Q E s:=by
 obtain⟨o,ho,hc,hd⟩:=id hit
 obtain⟨ol,hol,_,nl,hdl⟩:=ht
 unfold Lv
 refine cW (Lz (name:=LM "__next__") hit.typeIs Qt
  (LF Qt hit.typeIs F.entry_tuple_iterator_next ?_ (F.args_tuple_iterator_next_1 _)))
 show wpAny _ _ (field (.ref it) 0>>=_) _ _ s
 refine cW (Lf ho hd (x:=.ref t) rfl ?_)
 show wpAny _ _ (if (Kx t==MB)=true then _ else _) _ _ s
 rw[if_neg (show ¬((Kx t==MB)=true)from KF)]
 show wpAny _ _ (field (.ref it) 1>>=_) _ _ s
 refine cW (Lf ho hd (x:=.int i 0) rfl ?_)
 show wpAny _ _ (seqItems? (.ref t)>>=_) _ _ s
 refine cW (Mr hol hdl ?_)
 simp only[Nx,hx]
 refine cW (Rc ho hd (by simp) (Ko ⟨x,rfl,Ko (hQ _ ?_ (Nu ..))⟩))
 exact⟨_,Lm _ ho (Om (Np hd _)),(Sn ..).trans hc,by rw[Np hd];simp[rawInt]⟩
end
abbrev itO (t:Addr):Obj:={cls:=.type "tuple_iterator",data:=.fields #[.ref t,.int 0 0]}
end HT
namespace L2
open PySem PySem.Spec PyProof.Rows
section
variable {X:Cx}{pins:List (Addr×Obj)}{σ:St}{H H1:Hp}{s s0:Km}{a:Addr}{o:HO}
theorem Inv.track2 (I0:Inv X pins σ H1 s0)(I:Inv X pins σ H s)(new:s0.heap.objs.size<=a)(hn:H a=none)(ok:bj X.prog X.w (upd H a o) s.heap a o):Inv X pins σ (upd H a o) s:=by
 have ne:∀b u,s0.heap.get? b=some u->b≠a:=fun b u e=>KQ (KM (Kp e) new)
 have ne0:∀b u,X.s₀.heap.get? b=some u->b≠a:=fun b u e=>KQ (KM (Kp e) (KN I0.sz new))
 have nL:X.env.locals≠a:=by
  obtain⟨m,⟨o',_,_,e,_⟩,_⟩:=I0.loc
  exact ne _ _ e
 refine⟨I.ok,I.os,I.bare,⟨I.base.keep,I.base.slot,fun b u e n hx=>?_,I.base.there,fun b xs e=>?_,fun b u v e=>?_,fun b ps e=>?_⟩,I.loc,I.cell,?_,fun x c e=>?_,fun p hp=>?_,fun b u e=>?_,I.len⟩
 ·rw[aC (ne0 b u e)];exact I.base.free b u e n hx
 ·have:=I.base.tups b xs e
  rw[aC (aI this hn)];exact this
 ·have:=I.base.frzs b u v e
  rw[aC (aI this hn)];exact this
 ·obtain⟨more,this⟩:=I.base.tbls b ps e
  exact⟨more,by rw[aC (aI this hn)];exact this⟩
 ·rw[aC nL];exact I.free
 ·obtain⟨v,o',e',_⟩:=I0.cell x c e
  rw[aC (ne _ _ e')];exact I.freeC x c e
 ·obtain⟨h1,h2,h3⟩:=I.pin p hp
  exact⟨h1,by rw[aC (ne _ _ (I0.pin p hp).1)];exact h2,h3⟩
 ·by_cases hb:b=a
  ·subst hb
   rw[au]at e;cases e
   exact ok
  ·rw[aC hb]at e
   exact(I.hok b u e).stay (fun c v _ q=>q) (fun c q=>by
    have:c≠a:=aI q hn
    rw[aC this];exact q) fun c xs q=>by
    have:c≠a:=aI q hn
    rw[aC this];exact q
end
section
variable {X:Cx}{a b:Expr}{t:TA}{p pos ep:Pos}{elts:List Expr}{ek:Nat}
theorem CS:bootBuiltins "zip"=some (.type "zip"):=by decide+kernel
end
theorem qE:bootBuiltins "int"=some (.type "int"):=by decide+kernel
def wV (C:Addr)(m:Str)(sp:Sp)(E:St->XK)(ta:TE)(t:TA):TE:=fun σ H Q=>ta σ H fun x H1=>∃a dx fs,x=.ref a/\H1 a=some (.ins C dx fs)/\fs.lookup m=none/\t σ H1 fun vs H2=>sp (x::vs) H2 Q (E σ)
def we (C:Addr)(sp:Sp)(E:St->XK)(t:TA):TE:=fun σ H Q=>t σ H fun vs H1=>∀x dx,H1 x=none->H1 dx=none->dx≠x->
 sp (.ref x::vs) (upd (upd H1 dx (.own x)) x (.ins C dx [])) (fun v H2=>v=.non/\Q (.ref x) H2) (E σ)
section
variable {X:Cx}{CX:CXT}{k:Nat}{f C:Addr}{fd:Kz}{ps:List Str}{sp:Sp}{E:St->XK}{x m fl:Str}{p pos apos pos':Pos}{e o value:Expr}{es:List Expr}{ta tv to:TE}{t:TA}
theorem pw (he:QE X e ta)(hb:attributeBase e fl X.env (eval e X.env)=eval e X.env:=by rfl):QE X (.Attribute e fl pos) (mC X.K ta fl):=⟨DA he.out hb⟩
theorem yf (ho:QE X o to)(hv:QE X value tv)(hs:swapsWith value (some (.Attribute o fl pos')) pos.line X.env=pure false:=by rfl):QS X (.Assign [.Attribute o fl pos'] value pos) (xI X.K to tv fl):=⟨DR ho.out hv.out hs⟩
theorem Bl {pl:Sem Bool}(he:QE X o ta)(c:Cls X.K C)(hm:xX X.K C m f)(F:aV X.prog X.w X.K X.mg X.base CX k f fd ps sp)(hr:bu k X.A)(hb:cy X.K fd ps [])(hx:fD CX X E)(ha:QA X (e::es) t)
  (hs:bq (e::es)=true:=by rfl)
  (ht:eval (.Call (.Attribute o m apos) (e::es) [] pos) X.env=(do
   let ov<-eval o X.env
   standAt apos.atName
   let (f,first)<-holding [ov] (getMethod ov m pl)
   callWith pos f first (backTo pos (starEach (e::es) X.env)) (backToKw pos (keywordEach [] X.env))):=by rfl):
  QE X (.Call (.Attribute o m apos) (e::es) [] pos) (wV C m sp E ta t):=⟨fun pins s σ H Q I h=>by
 have h':(bU e&&bq es)=true:=hs
 refine W.methodCall_KW (pl:=pl) (thn (he.out pins s σ H _ I h) fun u s1 ⟨x,H1,I1,rx,a,dx,fs,ex,ea,l,q⟩=>?_) ht
 subst ex
 obtain rfl:u=Kx a:=rx
 refine sQ I1 ea c hm l ?_
 refine RJ (first:=[.ref a]) (h₀:=X.base) I.ok.mod.kin hm.kp (thn (ha.out pos pins s1 σ H1 _ I1 q) fun us s2 ⟨vs,H2,I2,r,q2⟩=>⟨I2.kIn,?_⟩)
  (bh (Ku.mp h').1 es X.env) (cf (Ku.mp h').2)
 exact nq (us:=.ref a::us) (vs:=.ref a::vs) F hr hb hx I2 (.cons rfl r) q2⟩
theorem vS {pins:List (Addr×Obj)}{σ:St}{H:Hp}{s:Km}{Q:VK}{us:List tx}{vs:List V}(M:Mk X.K C f)(F:aV X.prog X.w X.K X.mg X.base CX k f fd ps sp)(hr:bu (k+1) X.A)(hb:cy X.K fd ps [])
  (hx:fD CX X E)(I:Inv X pins σ H s)(r:bc vs us)
  (h:∀x dx,H x=none->H dx=none->dx≠x->sp (.ref x::vs) (upd (upd H dx (.own x)) x (.ins C dx [])) (fun v H2=>v=.non/\Q (.ref x) H2) (E σ)):
  wpAny (model X.prog X.w) X.A (call (.ref C) us) (EP X pins σ Q) X.xe s:=by
 have hq:=h (s.heap.objs.size+1) s.heap.objs.size (I.hok.fresh (MO _)) (I.hok.fresh (Gt _)) (KQ (Mg _))
 have I2:=Inv.made (C:=C) I
 have r2:bc (V.ref (s.heap.objs.size+1)::vs) (Kx (s.heap.objs.size+1)::us):=.cons rfl r
 have hl:(Kx (s.heap.objs.size+1)::us).length=ps.length:=by
  have e:=r2.length
  rw[F.len _ _ _ _ hq]at e
  exact e.symm
 have hb':=hb _ (Kx (s.heap.objs.size+1)::us) I2.kIn (by rw[Ly];exact hl)
 rw[Ly]at hb'
 refine PR (xM (f:=f) I.kIn M.makes M.init (beq_iff_eq.mp M.fn) (Nd (F.run _ X.stack _ _ ⟨Kx (s.heap.objs.size+1)::us,[]⟩ (Kx (s.heap.objs.size+1)::us) _ _ (E σ) (hr.make C us [])
  (I2.env0.make C us []) hb' r2 hq) fun r s' hq'=>?_))
 cases r with
 |error e=>exact hx pins σ _ _ e s' I2 hq'
 |ok fl=>
  cases fl with
  |ret u=>
   obtain⟨v,H',I3,rv,ev,q3⟩:=I2.after hq'
   subst ev
   exact⟨rv,⟨V.ref (s.heap.objs.size+1),H',I3,rfl,q3⟩⟩
  |next=>exact Ll hq'
  |brk=>exact Ll hq'
  |cont=>exact Ll hq'
theorem xj (M:Mk X.K C f)(F:aV X.prog X.w X.K X.mg X.base CX k f fd ps sp)(hr:bu (k+1) X.A)(hm:X.mg x=some (.ref C))(hb:cy X.K fd ps [])(hx:fD CX X E)
  (hg:Gl X x:=by rfl)(hdb:(x==("__debug__":Str))=false:=by decide):QE X (.Call (.Name x p) [] [] pos) (we C sp E av):=⟨fun pins s σ H Q I h=>by
 refine Lx (iq I hg hm ?_ hdb)
 exact W.callWith_K0 I.kIn M.kp (vS (us:=[]) M F hr hb hx I .nil h)⟩
end
mutual
inductive eG (K:pv)(H:Hp):V->Sl->Prop
 |non:eG K H .non .none
 |bl (b):eG K H (.bl b) (.bool b)
 |int (i):eG K H (.int i) (.int i)
 |str (z):eG K H (.str z) (.str z)
 |lst {a xs ds}:SqL K H a xs->DatVs K H xs ds->eG K H (.ref a) (.list ds)
 |tup {a xs ds}:SqT K H a xs->DatVs K H xs ds->eG K H (.ref a) (.tuple ds)
inductive DatVs (K:pv)(H:Hp):List V->List Sl->Prop
 |nil:DatVs K H [] []
 |cons {x xs d ds}:eG K H x d->DatVs K H xs ds->DatVs K H (x::xs) (d::ds)
end
section
variable {X:Cx}
mutual
theorem dh {pins:List (Addr×Obj)}{σ:St}{H:Hp}{s:Km}(I:Inv X pins σ H s):∀{x:V}{d:Sl},eG X.K H x d->∀{v:tx},aY x v->∃as,Reads s.heap v d as
 |_,_,.non,_,r=>by cases r;exact⟨_,.none⟩
 |_,_,.bl b,_,r=>by cases r;exact⟨_,.bool b⟩
 |_,_,.int i,_,r=>by obtain⟨t,rfl⟩:=r;exact⟨_,.int i t⟩
 |_,_,.str z,_,r=>by obtain⟨t,rfl⟩:=r;exact⟨_,.str z t⟩
 |_,_,.lst h hs,_,r=>by
  cases r
  obtain⟨its,r1,⟨o,n,h1,h2,_,h3⟩,_⟩:=I.list h
  obtain⟨as,ra⟩:=datVs_reads I hs r1
  exact⟨_,.list h1 h2 h3 (by simpa using ra)⟩
 |_,_,.tup h hs,_,r=>by
  cases r
  obtain⟨its,r1,⟨o,h1,h2,n,h3⟩,_⟩:=I.tuple h
  obtain⟨as,ra⟩:=datVs_reads I hs r1
  exact⟨_,.tuple h1 h2 h3 (by simpa using ra)⟩
theorem datVs_reads {pins:List (Addr×Obj)}{σ:St}{H:Hp}{s:Km}(I:Inv X pins σ H s):∀{xs:List V}{ds:List Sl},DatVs X.K H xs ds->∀{vs:List tx},bc xs vs->∃as,ReadsAll s.heap vs ds as
 |_,_,.nil,_,r=>by cases r;exact⟨_,.nil⟩
 |_,_,.cons h hs,_,r=>by
  cases r with
  |cons r1 r2=>
   obtain⟨as,a⟩:=dh I h r1
   obtain⟨bs,b⟩:=datVs_reads I hs r2
   exact⟨_,.cons a b⟩
end
def uu (K:pv):R2:=fun x y H Q=>∃d e,eG K H x d/\eG K H y e/\d.canLay0=true/\e.canLay0=true/\d.depth<=150/\Q (.bl (d.eqv e)) H
def yn (K:pv):R2:=fun x y H Q=>∃d e,eG K H x d/\eG K H y e/\d.canLay0=true/\e.canLay0=true/\d.depth<=150/\Q (.bl (!d.eqv e)) H
theorem Ep (hu:X.A.units+150<cLine):OpR X (compareOp .Eq) (uu X.K):=by
 intro pins s σ H x y v u Q I rx ry h
 obtain⟨d,e,hd,he,cd,ce,dp,q⟩:=h
 obtain⟨as,ra⟩:=dh I hd rx
 obtain⟨bs,rb⟩:=dh I he ry
 exact PySem.SeqAt.compareEq_reads ra rb cd ce (by have:=SZ d.depth e.depth;omega) ⟨.bl _,H,I,rfl,q⟩
theorem Du (hu:X.A.units+150<cLine):OpR X (compareOp .NotEq) (yn X.K):=by
 intro pins s σ H x y v u Q I rx ry h
 obtain⟨d,e,hd,he,cd,ce,dp,q⟩:=h
 obtain⟨as,ra⟩:=dh I hd rx
 obtain⟨bs,rb⟩:=dh I he ry
 exact PySem.SeqAt.compareNe_reads ra rb cd ce (by have:=SZ d.depth e.depth;omega) ⟨.bl _,H,I,rfl,q⟩
theorem bu.units150 {k:Nat}{A:Lh}(r:bu k A):A.units+150<cLine:=by have:=r.un;omega
def gn (K:pv):R2:=fun x y H Q=>match x,y with
 |.ref a,y=>yn K (.ref a) y H Q
 |x,.ref b=>yn K x (.ref b) H Q
 |x,y=>mNe x y H Q
theorem kU (hu:X.A.units+150<cLine):OpR X (compareOp .NotEq) (gn X.K):=((Du hu).or oNe).imp fun x y H Q q=>by
 unfold gn at q
 split at q
 ·exact .inl q
 ·exact .inl q
 ·exact .inr q
def pf:V->List V->Hp->VK->Prop:=fun x vs H Q=>match x,vs with|.int i,[]=>Q (.int (Mf i)) H|_,_=>False
theorem sE:MtR X "int.bit_length" pf:=by
 intro pins s σ H x xs v us Q I rx rs q
 unfold pf at q
 split at q
 ·obtain⟨t,rfl⟩:=rx
  cases rs
  exact call_int_bit_length ⟨.int _,H,I.tok _,⟨_,rfl⟩,q⟩
 ·exact q.elim
variable {o:Expr}{to:TE}{name:Str}{apos cpos:Pos}{T id:String}{rm:V->List V->Hp->VK->Prop}
theorem Al (pa:PY T)(slot:Slot T name id)(hty:typeOf (.builtin id)=pure (.type "method_descriptor"))(hm:MtR X id rm)(ho:QE X o to)
 (hbase:attributeBase o name X.env (eval o X.env)=eval o X.env:=by rfl)(hline:(apos.endLine==cpos.line)=true:=by rfl):QE X (.Call (.Attribute o name apos) [] [] cpos) (sW X.K T rm to):=⟨Dq pa slot hty hm ho.out hbase hline⟩
end
theorem wx:(("":String):Str)=My:=by decide
theorem Ai:∀xs:List Str,Str.join "" xs=xs.foldr (· ++ ·) My
 |[]=>rfl
 |[x]=>(SK x).symm
 |x::y::r=>by
  show x++(("":String):Str)++Str.join "" (y::r)=x++(y::r).foldr (· ++ ·) My
  rw[Ai (y::r),wx,SK]
theorem mY (xs:List Str):Txt.join "" xs=xs.foldr (·++·) My:=(SD (join_plain_closes "" xs)).trans (Ai xs)
theorem qw:∀xs:List Str,(xs.foldr (· ++ ·) My).length=(xs.map (·.length)).sum
 |[]=>by decide
 |x::r=>by
  show(x++r.foldr (· ++ ·) My).length=_
  rw[MQ,qw r,KZ,Nl]
theorem aQ {n:Nat}(h:n<=1000000):n<=sizeLine:=by rw[Mi];omega
theorem Ac (k:Nat):((2^k:Nat):Int)=(2:Int)^k:=by simp
theorem CJ {α:Type}{xs:List α}{i:Int}(h0:0<=i)(h1:i<xs.length):∃c,atI xs i=some c:=by
 unfold atI ixN
 rw[if_pos h0,if_pos h1]
 have:i.toNat<xs.length:=by omega
 exact⟨xs[i.toNat],by show xs[i.toNat]?=_;rw[If this]⟩
theorem kX:∀(xs:List Str),(∀x∈xs,x.length=1)->(xs.map (·.length)).sum=xs.length
 |[],_=>rfl
 |x::r,h=>by
  rw[KZ,Nl,KH,kX r fun y hy=>h y (KC _ hy),h x KY];omega
theorem mV {p:Prop}[Decidable p]{a b:Prop}(h1:p->a)(h2:¬p->b):if decide p=true then a else b:=by
 by_cases h:p
 ·rw[if_pos (decide_eq_true h)];exact h1 h
 ·rw[if_neg (by rw[decide_eq_false h];decide)];exact h2 h
theorem xQ (xs:List Str)(h:∀x∈xs,x.length=1):(Txt.join "" xs).length=xs.length:=by rw[mY,qw,kX xs h]
section
variable {X:Cx}
theorem bu.units1 {k:Nat}{A:Lh}(r:bu k A):A.units+1<cLine:=by have:=r.un;omega
def Dd:R2:=fun x y H Q=>∃a v,x=.ref a/\dc H a y (some v)/\Q v H
theorem Bx (hu:X.A.units+1<cLine):IxR X Dd:=by
 intro value slice pins s σ H x y v u Q I rx ry h hs
 obtain⟨a,w0,rfl,g,q⟩:=h
 obtain rfl:v=Kx a:=rx
 have hT:=rE I g
 have h2:wpAny (model X.prog X.w) X.A (getItem (.ref a) u) (EP X pins σ Q) X.xe s:=vz hu I g ry fun w' s3 I3 rw'=>⟨w0,H,I3,rw',q⟩
 unfold subscriptTail
 refine cW ?_
 rw[getitemInPython_of_ne hT.not_modules]
 refine cW (ML hT PySem.F.slot_dict_getitem.lookup ?_)
 have fin:wpAny (model X.prog X.w) X.A (subscripted slice false (.ref a) u) (fun r s₃=>wpAny (model X.prog X.w) X.A (letTemporaryGo value (.ref a) r>>=fun _=>pure r) (EP X pins σ Q) X.xe s₃) X.xe s:=by
  rw[hs]
  exact wpAny_operating (KU h2 (fun r s₃ h₃=>cW (wpAny_letTemporaryGo (Ko h₃))) fun _ _ x=>x)
 first
  |exact Ko (cW fin)
  |exact cW (Ko (cW fin))
  |exact cW fin
def aG (K:pv):R2:=fun x y H Q=>rIx K x y H Q\/Dd x y H Q
theorem aB (hu:X.A.units+1<cLine):IxR X (aG X.K):=Cq.or (Bx hu)
def zO:V->V->V->Hp->(Hp->Prop)->Prop:=fun o i v H Q=>∃a H',o=.ref a/\ng H a i v H'/\Q H'
theorem yD (hu:X.A.units+1<cLine):uL X zO:=by
 intro pins s σ H o i v ov iv u Q I ro ri rv h
 obtain⟨a,H',rfl,g,q⟩:=h
 obtain rfl:ov=Kx a:=ro
 exact uQ hu I g ri rv fun s4 I4=>⟨H',I4,q⟩
def oY:V->V->V->Hp->(Hp->Prop)->Prop:=fun o i v H Q=>zR o i v H Q\/zO o i v H Q
theorem AT (hu:X.A.units+1<cLine):uL X oY:=by
 intro pins s σ H o i v ov iv u Q I ro ri rv h
 rcases h with h|h
 ·exact zl pins s σ H o i v ov iv u Q I ro ri rv h
 ·exact yD hu pins s σ H o i v ov iv u Q I ro ri rv h
variable {o e:Expr}{to te:TE}{p pos:Pos}
theorem re {ti:TE}{i:Expr}(hu:X.A.units+1<cLine)(ho:QE X o to)(hi:QE X i ti)(he:QE X e te)(hs:swapsWithSole [.Subscript o i p] e pos.line X.env=pure false:=by rfl)(hw:swappedStores [.Subscript o i p] e X.env=pure none:=by rfl)(ha:∀v,assign (.Subscript o i p) X.env v=(do let ov<-holding [v] (eval o X.env);let iv<-holding [v,ov] (eval i X.env);standAt p;holding [v,ov,iv] (setItem ov iv v);release [v,ov,iv] []):=by intro _;rfl):QS X (.Assign [.Subscript o i p] e pos) (aK te (tY to ti oY)):=⟨Ew he.out (CI ho.out hi.out (AT hu) ha) hs hw⟩
def sK:R2:=fun y x H Q=>∃a o,x=.ref a/\dc H a y o/\Q (.bl (!o.isSome)) H
theorem uV (hu:X.A.units+1<cLine):OpR X (compareOp .NotIn) sK:=by
 intro pins s σ H x y v u Q I rx ry h
 obtain⟨a,ov,rfl,g,q⟩:=h
 obtain rfl:u=Kx a:=ry
 exact AR hu I g rx fun s3 I3=>⟨.bl (!ov.isSome),H,I3,rfl,q⟩
def rV (K:pv):R2:=fun y x H Q=>∃d ds,eG K H y d/\(eG K H x (.list ds)\/eG K H x (.tuple ds))/\MT ds=true/\d.canLay0=true/\d.depth<=140/\Q (.bl (!ds.any fun e=>e.eqv d)) H
theorem wI (hu:X.A.units+150<cLine):OpR X (compareOp .NotIn) (rV X.K):=by
 intro pins s σ H x y v u Q I rx ry h
 obtain⟨d,ds,hd,hx,c1,c2,dp,q⟩:=h
 obtain⟨as,ra⟩:=dh I hd rx
 have hm:X.A.units+1+min (LJ ds) d.depth<cLine:=by have:=SM (LJ ds) d.depth;omega
 rcases hx with hx|hx
 ·obtain⟨bs,rb⟩:=dh I hx ry
  exact PySem.SeqAt.notIn_list_reads rb ra c1 c2 hm ⟨.bl _,H,I,rfl,q⟩
 ·obtain⟨bs,rb⟩:=dh I hx ry
  exact PySem.SeqAt.notIn_tuple_reads rb ra c1 c2 hm ⟨.bl _,H,I,rfl,q⟩
def gc (K:pv):R2:=fun y x H Q=>sK y x H Q\/rV K y x H Q
theorem kj (hu:X.A.units+150<cLine):OpR X (compareOp .NotIn) (gc X.K):=(uV (by omega)).or (wI hu)
def jm:TE:=fun σ H Q=>wB σ H Q\/vH σ H Q
theorem jM:QE X (.Dict [] [] pos) jm:=⟨fun pins s σ H Q I h=>h.elim (yw pins s σ H Q I) (yh pins s σ H Q I)⟩
theorem vw:ck X (.builtin "len") (fun xs H Q=>∃p kvs,xs=[.ref p]/\H p=some (.dT kvs)/\Q (.int kvs.length) H):=by
 intro pins s σ H xs us Q I r h
 obtain⟨a,kvs,rfl,e,q⟩:=h
 obtain⟨u,rfl,r1⟩:=fE r
 cases r1
 obtain⟨z,hd,ps,rel,dd⟩:=ux I.hok e
 have hl:ps.length=kvs.length:=(Paired.length rel).symm
 have hT:s.TypeIs (.ref a) "dict":=dd.typeIs
 obtain⟨o,es,ep,ho,hc,hdat,he,his,hn⟩:=dd
 have hsz:es.size=kvs.length:=by rw[<-hl];have:=congrArg PP he;simpa using this
 have M:MeetsIn X.prog X.w (NC.«dict.__len__» ⟨[.ref a],[]⟩) (fun _ R s=>s.heap.get? a=some o/\R (.ok (.ret (.int kvs.length s.toks))) {s with toks:=s.toks+1}):=
  .of_wp fun A R s ⟨ho,h⟩=>by
   show wpAny _ _ (dictSize a>>=_) _ _ s
   unfold dictSize
   refine cW (cW (Tu ho hdat (Ko ?_)))
   show wpAny _ _ (Builtin.Dict.pendingCount a>>=_) _ _ s
   refine cW (wpAny_pendingCount_other hd ?_)
   refine wpAny_ret_mkInt ?_
   rw[Nat.add_zero,hsz];exact h
 refine Calls.call_function_entry kind_len plain_len entry_len (args_len1 _) ?_
 unfold NC.«len»
 refine cW (m:=oneArg "len" _) (Ko ?_)
 refine cW (m:=callSpecial? (.ref a) (LM "__len__")) (Lz (name:=LM "__len__") hT TN
  (OJ TN hT F.entry_dict_len (F.args_dict_len_1 _) M ⟨ho,?_⟩))
 show wpAny _ _ _ _ _ {s with toks:=s.toks+1}
 refine cW (Md (Ko ?_))
 refine cW (Pg ?_)
 have zz:kvs.length<=sizeLine:=z
 rw[Mi]at zz
 show wpAny _ _ (if ((kvs.length:Nat):Int)<0 then _ else _) _ _ _
 rw[if_neg (by omega)]
 show wpAny _ _ (if ((kvs.length:Nat):Int)>=2^63 then _ else _) _ _ _
 rw[if_neg (by omega)]
 exact cW (wpAny_mkInt (Ko ⟨_,rfl,⟨.int kvs.length,H,I.tok _,⟨_,rfl⟩,q⟩⟩))
def cr (K:pv):List V->Hp->VK->Prop:=fun xs H Q=>Dw K xs H Q\/∃p kvs,xs=[.ref p]/\H p=some (.dT kvs)/\Q (.int kvs.length) H
theorem cx:ck X (.builtin "len") (cr X.K):=Je.or vw
def Dv (H:Hp)(a:Addr)(y d:V)(r:V)(H':Hp):Prop:=(dc H a y (some r)/\H'=H)\/(dc H a y none/\ng H a y d H'/\r=d)
theorem fg {A:Lh}{E:tx->Km->Prop}{s:Km}{P:KI}{w:Lp}{K:Type}[DecidableEq K]{knd:HeapKind P w K}{d a:Addr}{xs:List (K×Addr×tx)}{k:K}{v:tx}{Q:tx->Km->Prop}(hu:knd.room A)(hkey:knd.is s.heap k a)(hm:s.heap.DictOfH knd d xs)
  (hthere:∀p,atKey xs k=some p->Q p.2 {s with toks:=s.toks+knd.draws k})
  (hQ:atKey xs k=none->∀h',h'.DictOfH knd d (storedH xs k a v)->Mw d s.heap h'->Q v {s with heap:=h',toks:=s.toks+knd.draws k})
  (hsz:xs.length<=sizeLine):
  wpAny (model P w) A (dictSetDefault d (.ref a) v) Q E s:=by
 obtain⟨o,es,ep,ho,hc,hd,he,his,hn⟩:=hm
 unfold dictSetDefault
 try with_reducible refine Md ?_
 refine cW (knd.pyHash hu hkey ?_)
 refine cW (wpAny_dictFind_heap (s:={s with toks:=s.toks+knd.draws k}) hu hkey ho hd he his hn ?_ ?_)
 ·intro hno
  have hnot:k∉xs.map (·.1):=not_mem_keys_of_get hno
  refine cW (ON (cW (wpAny_updateDictKeys (hz:=by have e:=size_of_entries he;omega) (s:={s with toks:=s.toks+knd.draws k}) ho hd (Ko (hQ (Of hno) _ ⟨_,_,ep+1,Lm _ ho (Obj.isFreed_of_dict (Rv hd _)),
   hc.mapDictKeys _,Rv hd _,?_,?_,?_⟩ (Nu ..))))))
  ·rw[SU (Of hno)]
   simp[he,entryOfKey]
  ·rw[SU (Of hno)]
   intro x hx
   rcases Lw.mp hx with hx|hx
   ·exact knd.keeps (his x hx) ho hd (Nu ..)
   ·simp only[Ky]at hx
    subst hx
    exact knd.keeps hkey ho hd (Nu ..)
  ·rw[SU (Of hno)]
   rw[Kq,List.nodup_append]
   refine⟨hn,by simp,?_⟩
   intro x hx y hy
   simp only[KZ,Pn,Ky]at hy
   subst hy
   exact fun e=>hnot (e▸hx)
 ·intro j p hj
  refine cW (Tu (s:={s with toks:=s.toks+knd.draws k}) ho hd ?_)
  rw[entry_at he j,hj]
  exact cW (ON (Ko (hthere p (atKey_of_get hn hj))))
end
theorem qe {h:Heap}{a:Addr}{its:Array tx}(p:PlainL h a its):h.IsList a its:=let ⟨o,n,e,c,_,d⟩:=p;⟨o,e,c,n,d⟩
set_option genInjectivity false in
set_option genSizeOf false in
structure cX where
 qual:Str
 body:FuncBody
 scope:Scope
 ps:List Str
 ys:List Str
def lQ (t:cX)(cs:List Addr)(c:Addr)(fd:Kz):Prop:=
 fd.qualname=t.qual/\fd.body=t.body/\fd.scope=t.scope/\fd.globals=mainGlobals/\fd.closure=t.ys.zip cs/\fd.code=.ref c/\fd.builtins=builtinsNs/\
  (∀us:List tx,us.length=t.ps.length->bindArgs fd ⟨us,[]⟩=pure (t.ps.zip us))/\cs.Nodup/\cs.length=t.ys.length
def df (f:Addr)(t:cX)(cs:List Addr)(c:Addr):HO:=.ext fun h=>∃od fd sl,h.get? f=some ⟨.type "function",od,.func fd,sl⟩/\lQ t cs c fd
def cD (c:Addr)(qual:Str):HO:=.ext fun h=>∃o vs tk,h.get? c=some o/\o.data=.fields vs/\vs[1]?=some (.str qual tk)
def bW (c:Addr)(v:V):HO:=.ext fun h=>∃u o,aY v u/\h.get? c=some o/\o.data=.cell (some u)
abbrev cC (H:Hp):List Addr->List V->Prop:=Paired fun c v=>H c=some (bW c v)
structure dQ (H:Hp)(f:Addr)(t:cX)(cs:List Addr)(cvs:List V):Prop where
 ex:∃c,H f=some (df f t cs c)/\H c=some (cD c t.qual)
 cells:cC H cs cvs
theorem cC.mem {H:Hp}{cs:List Addr}{cvs:List V}(h:cC H cs cvs):∀c∈cs,∃v,H c=some (bW c v):=by
 induction h with
 |nil=>intro c hc;cases hc
 |cons r t ih=>
  intro c hc
  rcases KD.mp hc with rfl|hc
  ·exact⟨_,r⟩
  ·exact ih c hc
theorem cC.get {H:Hp}{cs:List Addr}{cvs:List V}(h:cC H cs cvs):∀{i:Nat}{v:V},cvs[i]? =some v->∃c,cs[i]? =some c/\H c=some (bW c v):=by
 induction h with
 |nil=>intro i v e;cases e
 | @cons c w cs ws r t ih=>
   intro i v e
   cases i with
   |zero=>cases e;exact⟨c,rfl,r⟩
   |succ i=>exact ih e
def cJ (cs:List Addr)(H:Hp):Hp:=fun b=>if b∈cs then none else H b
def cw (cs:List Addr)(H H':Hp):Hp:=fun b=>if b∈cs then H b else H' b
theorem gG {cs:List Addr}{H:Hp}{b:Addr}(h:b∈cs):cJ cs H b=none:=if_pos h
theorem cU {cs:List Addr}{H:Hp}{b:Addr}(h:b∉cs):cJ cs H b=H b:=if_neg h
theorem iD {cs:List Addr}{H H':Hp}{b:Addr}(h:b∈cs):cw cs H H' b=H b:=if_pos h
theorem cu {cs:List Addr}{H H':Hp}{b:Addr}(h:b∉cs):cw cs H H' b=H' b:=if_neg h
theorem vC {cs:List Addr}{H H':Hp}{d:Addr}{o:HO}(h:d∉cs):cw cs H (upd H' d o)=upd (cw cs H H') d o:=by
 funext b
 by_cases hb:b∈cs
 ·have:b≠d:=fun e=>h (e▸hb)
  rw[iD hb,aC this,iD hb]
 ·rw[cu hb]
  by_cases e:b=d
  ·subst e;rw[au,au]
  ·rw[aC e,aC e,cu hb]
theorem cC.notin {H:Hp}{cs:List Addr}{cvs:List V}(h:cC H cs cvs){b:Addr}{o:HO}(e:H b=some o)(hn:∀φ,o≠.ext φ):b∉cs:=fun hb=>by
 obtain⟨v,ev⟩:=h.mem b hb
 rw[e]at ev
 exact hn _ (KG ev)
theorem cC.hide {H:Hp}{cs:List Addr}{cvs:List V}(h:cC H cs cvs){b:Addr}{o:HO}(e:H b=some o)(hn:∀φ,o≠.ext φ):cJ cs H b=some o:=by
 rw[cU (h.notin e hn)];exact e
theorem aA.hide {H H':Hp}(cs:List Addr)(s:aA (cJ cs H) H'):aA H (cw cs H H'):=fun b o e=>by
 by_cases hb:b∈cs
 ·rw[iD hb];exact e
 ·rw[cu hb];exact s _ _ (by rw[cU hb];exact e)
section
variable {P:KI}{w:Lp}{fs:List Addr}{H H':Hp}{h h':Heap}{cs:List Addr}{cvs:List V}
theorem AJ (hc:cC H cs cvs)(ok:HOk P w H h):HOk P w (cJ cs H) h:=fun b o e=>by
 by_cases hb:b∈cs
 ·rw[gG hb]at e;cases e
 ·rw[cU hb]at e
  exact(ok b o e).stay (fun c u _ q=>q) (fun c q=>hc.hide q fun φ z=>nomatch z) fun c xs q=>hc.hide q fun φ z=>nomatch z
theorem sB (hc:cC H cs cvs)(hfs:∀b∈fs,H b=none)(ok:HOk P w H h)(u:Un fs [] (cJ cs H) H' h h')(ok':HOk P w H' h'):Un fs [] H (cw cs H H') h h'/\HOk P w (cw cs H H') h':=by
 have obj:∀c∈cs,∃v o,H c=some (bW c v)/\h.get? c=some o/\h'.get? c=some o/\H' c=none:=fun c hm=>by
  obtain⟨v,ev⟩:=hc.mem c hm
  obtain⟨_,⟨o,eo⟩,_⟩:=(show bj P w H h c (bW c v)from ok c _ ev)
  refine⟨v,o,ev,eo,u.keep c o eo (gG hm) (fun z=>?_) (by simp),u.free c o eo (gG hm) (by simp)⟩
  rw[hfs c z]at ev;cases ev
 have nin:∀b,H b=none->b∉cs:=fun b e hb=>by
  obtain⟨v,ev⟩:=hc.mem b hb
  rw[e]at ev;cases ev
 have nin':∀b o,H' b=some o->b∉cs:=fun b o e hb=>by
  obtain⟨_,_,_,_,_,z⟩:=obj b hb
  rw[e]at z;cases z
 refine⟨⟨fun b o e n hb hx=>u.keep b o e (by rw[cU (nin b n)];exact n) hb hx,fun b o e n hb hx=>u.slot b o e (by rw[cU (nin b n)];exact n) hb hx,
  fun b o e n hx=>by rw[cu (nin b n)];exact u.free b o e (by rw[cU (nin b n)];exact n) hx,u.there,fun b xs e=>?_,fun b o v e=>?_,fun b ps e=>?_⟩,fun b o e=>?_⟩
 ·have hb:=hc.notin e fun φ z=>nomatch z
  rw[cu hb];exact u.tups b xs (by rw[cU hb];exact e)
 ·have hb:=hc.notin e fun φ z=>nomatch z
  rw[cu hb];exact u.frzs b o v (by rw[cU hb];exact e)
 ·have hb:=hc.notin e fun φ z=>nomatch z
  rw[cu hb];exact u.tbls b ps (by rw[cU hb];exact e)
 ·by_cases hb:b∈cs
  ·rw[iD hb]at e
   obtain⟨v,o',ev,e1,e2,_⟩:=obj b hb
   rw[e]at ev;cases ev
   obtain⟨φ1,_,φ3⟩:=(show bj P w H h b (bW b v)from ok b _ e)
   exact⟨φ3 h h' φ1 fun q hq=>by rw[e1]at hq;cases hq;exact e2,⟨o',e2⟩,φ3⟩
  ·rw[cu hb]at e
   exact(ok' b o e).stay (fun c u _ q=>q) (fun c q=>by rw[cu (nin' c _ q)];exact q) fun c xs q=>by rw[cu (nin' c _ q)];exact q
theorem CR.back {outer:List Env}{s s':Km}{Q:VK}{E:XK}{r:Py}(hc:cC H cs cvs)(hfs:∀b∈frs outer,H b=none)(ok:HOk P w H s.heap)
  (h:CR (CX1 P w) outer P w (cJ cs H) s (fun v H'=>Q v (cw cs H H')) (fun c a H'=>E c a (cw cs H H')) r s'):CR (CX1 P w) outer P w H s Q E r s':=by
 cases r with
 |error e=>
  obtain⟨a,C,d,H',rfl,F,q⟩:=h
  obtain⟨u,k⟩:=sB hc hfs ok F.un F.hok
  have na:a∉cs:=fun hb=>by
   obtain⟨v,ev⟩:=hc.mem a hb
   obtain⟨_,⟨o,eo⟩,_⟩:=(show bj P w H s.heap a (bW a v)from ok a _ ev)
   rw[F.new]at eo;cases eo
  obtain⟨oe,vs,a0,T,oT,ts,t1,t2,td,t3,t4,t5,t6,t7,t8,t9,t10,t11⟩:=F.tr
  have nT:T∉cs:=fun hb=>by
   obtain⟨v,ev⟩:=hc.mem T hb
   obtain⟨_,⟨o,eo⟩,_⟩:=(show bj P w H s.heap T (bW T v)from ok T _ ev)
   rw[t10]at eo;cases eo
  exact⟨a,C,d,_,rfl,⟨F.os,F.bare,u,k,F.new,by rw[cu na];exact F.free,⟨oe,vs,a0,T,oT,ts,t1,t2,td,t3,t4,t5,t6,t7,t8,t9,t10,by rw[cu nT];exact t11⟩⟩,q⟩
 |ok fl=>
  cases fl with
  |ret u=>
   obtain⟨v,H',os,bare,un,hok,rv,q⟩:=h
   obtain⟨u',k⟩:=sB hc hfs ok un hok
   exact⟨v,_,os,bare,u',k,rv,q⟩
  |next=>exact Ll h
  |brk=>exact Ll h
  |cont=>exact Ll h
end
structure fz (P:KI)(w:Lp)(K:pv)(mg:Str->Option tx)(base:Heap)(k:Nat)(t:cX)(sp:Sp):Prop where
 run:∀(A:Lh)(outer:List Env)(s:Km)(H:Hp)(f:Addr)(cs:List Addr)(us:List tx)(vs cvs:List V)(Q:VK)(E:XK),bu k A->iY P w K mg base A outer s H->dQ H f t cs cvs->bc vs us->vs.length=t.ps.length->
  sp (vs++cvs) (cJ cs H) (fun v H'=>Q v (cw cs H H')) (fun c a H'=>E c a (cw cs H H'))->codeAny (model P w) A (.call (.ref f) ⟨us,[]⟩) (CR (CX1 P w) outer P w H s Q E) s
def dZ (N:List Str)(vs cvs:List V):St:=vs.map some++(Qj (N.length- vs.length- cvs.length) none++cvs.map some)
def gW (P:KI)(w:Lp)(K:pv)(mg:Str->Option tx)(base:Heap)(N:List Str)(qual:Str)(scope:Scope)(f c:Addr)(cl:List (Str×Addr))(A:Lh)(outer:List Env)(s:Km)(H:Hp)(E:XK):Cx where
 prog:=P
 w:=w
 K:=K
 mg:=mg
 base:=base
 A:=A.deeper (Oz qual scope s.heap.objs.size f (.ref c) cl)
 N:=N
 s₀:=s
 H₀:=H
 env:=Oz qual scope s.heap.objs.size f (.ref c) cl
 outer:=outer
 stack:=Oz qual scope s.heap.objs.size f (.ref c) cl::outer
 ex:=[]
 calm:=true
 fn:=fun _=>false
 pn:=[]
 xe:=fun e s'=>wpAny (model P w) (A.deeper (Oz qual scope s.heap.objs.size f (.ref c) cl)) (leaving (Oz qual scope s.heap.objs.size f (.ref c) cl) e) (fun _ s''=>CX1 P w outer H s E e s'') (fun e' s''=>CX1 P w outer H s E e' s'') s'
structure eP (N ps ys:List Str)(sc:Scope):Prop where
 kind:sc.kind=.function
 co:sc.isCoroutine=false
 gen:sc.isGenerator=false
 nd:N.Nodup
 pre:N.take ps.length=ps
 suf:N.drop (N.length- ys.length)=ys
 le:ps.length+ys.length<=N.length
 par:∀x∈ps,sc.names.lookup x=some .local
 nocell:∀x∈sc.names,x.2≠.cell
 fr:∀x∈ys,sc.names.lookup x=some .free
 frs:∀y∈sc.names,y.2=.free->y.1∈ys
theorem mj {ys:List Str}{cs:List Addr}(hl:cs.length=ys.length)(nd:ys.Nodup):∀{i:Nat}{y:Str}{c:Addr},ys[i]? =some y->cs[i]? =some c->(ys.zip cs).lookup y=some c:=by
 induction ys generalizing cs with
 |nil=>intro i y c e;cases e
 |cons a r ih=>
  intro i y c e1 e2
  cases cs with
  |nil=>cases e2
  |cons b cs=>
   cases i with
   |zero=>cases e1;cases e2;show(LR _ ((_,_)::_))=_;rw[Mt];simp
   |succ i=>
    have hne:y≠a:=fun e=>(LW.mp nd).1 (e▸KJ (show r[i]? =some y from e1))
    show(LR y ((a,b)::r.zip cs))=_
    rw[Mt,show(y==a)=false from by simpa using hne]
    exact ih (by simpa using hl) (LW.mp nd).2 (show r[i]? =some y from e1) (show cs[i]? =some c from e2)
theorem fI {ys:List Str}{cs:List Addr}:∀{y:Str}{c:Addr},(ys.zip cs).lookup y=some c->∃i:Nat,ys[i]? =some y/\cs[i]? =some c:=by
 induction ys generalizing cs with
 |nil=>intro y c e;cases e
 |cons a r ih=>
  intro y c e
  cases cs with
  |nil=>cases e
  |cons b cs=>
   have e:(LR y ((a,b)::r.zip cs))=some c:=e
   rw[Mt]at e
   by_cases hy:(y==a)=true
   ·rw[hy]at e;cases e;exact⟨0,by simpa using(SD hy).symm,rfl⟩
   ·rw[show(y==a)=false from by simpa using hy]at e
    obtain⟨i,h1,h2⟩:=ih e
    exact⟨i+1,h1,h2⟩
theorem nB {ps:List Str}{us:List tx}(nd:ps.Nodup):∀{i:Nat}{x:Str}{u:tx},ps[i]? =some x->us[i]? =some u->(ps.zip us).reverse.lookup x=some u:=by
 induction ps generalizing us with
 |nil=>intro i x u e;cases e
 |cons a r ih=>
  intro i x u e1 e2
  cases us with
  |nil=>cases e2
  |cons b us=>
   show(LR x ((a,b)::r.zip us).reverse)=_
   rw[Mn,List.lookup_append]
   cases i with
   |zero=>
    cases e1;cases e2
    have:(r.zip us).reverse.lookup a=none:=by
     rw[List.lookup_eq_none_iff]
     intro p hp
     have:=(Mp (Pr.mp hp)).1
     simp only[beq_eq_false_iff_ne,ne_eq,bne_iff_ne]
     intro e
     exact(LW.mp nd).1 (by rw[<-e]at this;exact this)
    rw[this];simp
   |succ i=>
    rw[ih (LW.mp nd).2 (show r[i]? =some x from e1) (show us[i]? =some u from e2)];rfl
section
variable {P:KI}{w:Lp}{K:pv}{mg:Str->Option tx}{base:Heap}{N ps ys:List Str}{qual:Str}{scope:Scope}{f c:Addr}{A:Lh}{outer:List Env}{s:Km}{H:Hp}{E:XK}{us:List tx}{vs cvs:List V}{cs:List Addr}{h1:Heap}{tk:Nat}
theorem rS (S:eP N ps ys scope)(hd:A.handled=none)(e0:iY P w K mg base A outer s H)(ca:cC H cs cvs)(hcs:cs.Nodup)(hcl:cs.length=ys.length)(hl:vs.length=ps.length)(r:bc vs us)
  (hns:h1.Ns s.heap.objs.size (fun x=>(ps.zip us).reverse.lookup x))(hk:∀b o,s.heap.get? b=some o->h1.get? b=some o):
  Inv (gW P w K mg base N qual scope f c (ys.zip cs) A outer s (cJ cs H) E) [] (dZ N vs cvs) (cJ cs H) {s with heap:=h1,toks:=tk}:=by
 have ndY:ys.Nodup:=by rw[<-S.suf];exact S.nd.sublist (List.drop_sublist _ _)
 have ndP:ps.Nodup:=by rw[<-S.pre];exact S.nd.sublist (RY _ _)
 have lcv:cvs.length=ys.length:=by rw[<-hcl];exact(Paired.length ca).symm
 have cellOf:∀c∈cs,∃v,h1.IsCell c v:=fun c hm=>by
  obtain⟨v,ev⟩:=ca.mem c hm
  obtain⟨⟨u,o,_,eo,hd⟩,_,_⟩:=(show bj P w H s.heap c (bW c v)from e0.hok c _ ev)
  exact⟨_,o,hk _ _ eo,hd⟩
 have memC:∀x c,(ys.zip cs).lookup x=some c->c∈cs:=fun x c e=>by
  obtain⟨i,_,e2⟩:=fI e
  exact KJ e2
 have noA:∀b:Addr,b∉(gW P w K mg base N qual scope f c (ys.zip cs) A outer s (cJ cs H) E).ex:=fun b z=>absurd (show b∈([]:List Addr)from z) (by simp)
 have hid:∀b,H b=none->cJ cs H b=none:=fun b e=>by
  by_cases hb:b∈cs
  ·exact gG hb
  ·rw[cU hb];exact e
 refine⟨⟨e0.mod,S.kind,rfl,rfl,Gt _,fun y z c h1 h2=>?_,fun y hy=>?_,fun y c hf _=>?_,fun _=>hd,QK e0.frames,.inr ⟨rfl,rfl⟩,fun b z=>absurd z (noA b),fun b o e=>⟨(e0.bs b o e).1,hid b (e0.bs b o e).2⟩,e0.bsz,fun b _ _=>noA b,fun b z=>absurd z (noA b),e0.funs,fun b hb=>hid b (e0.frf b hb)⟩,
  rfl,e0.bare,Un.kept hk,⟨_,hns,fun i y v q1 q2 q3=>?_⟩,fun y c h=>cellOf c (memC y c h),hid _ (e0.hok.fresh (Gt _)),fun y c h=>gG (memC y c h),fun p hp=>absurd (show p∈([]:List (Addr×Obj))from hp) (by simp),(AJ ca e0.hok).kept hk,?_⟩
 ·obtain⟨i,e1,e2⟩:=fI (show(ys.zip cs).lookup y=some c from h1)
  obtain⟨j,e3,e4⟩:=fI (show(ys.zip cs).lookup z=some c from h2)
  have:i=j:=by
   obtain⟨a1,b1⟩:=Kr.mp e2
   obtain⟨a2,b2⟩:=Kr.mp e4
   exact(SA hcs).mp (b1.trans b2.symm)
  subst this
  rw[e1]at e3;exact KG e3
 ·have hy:scope.names.lookup y=some .cell\/scope.names.lookup y=some .free:=hy
  rcases hy with hy|hy
  ·exact absurd rfl (S.nocell _ (LQ hy))
  ·obtain⟨i,hi,e⟩:=Rq.mp (S.frs _ (LQ hy) rfl)
   have hi2:i<cs.length:=by omega
   exact⟨cs[i],mj hcl ndY (Kr.mpr ⟨hi,e⟩) (If hi2)⟩
 ·exact absurd (show false=true from hf) KF
 ·unfold dZ at q2
  by_cases hi:i<vs.length
  ·rw[KW (by simpa using hi),KL]at q2
   have ha:vs[i]?=some v:=by
    cases e:vs[i]? with
    |none=>rw[e]at q2;cases q2
    |some a=>rw[e]at q2;cases q2;rfl
   obtain⟨u,hu,rv⟩:=r.get ha
   have hp:ps[i]?=some y:=by
    rw[<-S.pre,ME (by omega)];exact q1
   exact⟨u,rv,.inl ⟨S.par y (KJ hp),nB ndP hp hu⟩⟩
  ·rw[KR (by simpa using hi),pz]at q2
   by_cases hj:i- vs.length<N.length- vs.length- cvs.length
   ·rw[KW (by simpa using hj),Qz]at q2
    split at q2<;>cases q2
   ·rw[KR (by simpa using hj),Oj,KL]at q2
    have ha:cvs[i- vs.length- (N.length- vs.length- cvs.length)]?=some v:=by
     cases e:cvs[i- vs.length- (N.length- vs.length- cvs.length)]? with
     |none=>rw[e]at q2;cases q2
     |some a=>rw[e]at q2;cases q2;rfl
    have hle:=S.le
    have hiN:i<N.length:=(Kr.mp q1).1
    have hx:i- vs.length- (N.length- vs.length- cvs.length)=i- (N.length- ys.length):=by omega
    rw[hx]at ha
    have hy:ys[i- (N.length- ys.length)]?=some y:=by
     have e1:N.drop (N.length- ys.length)=ys:=S.suf
     have e2:(N.drop (N.length- ys.length))[i- (N.length- ys.length)]?=some y:=by
      rw[List.getElem?_drop]
      rw[show N.length- ys.length+(i- (N.length- ys.length))=i by omega];exact q1
     rw[e1]at e2;exact e2
    obtain⟨c,ec,hc⟩:=ca.get ha
    obtain⟨⟨u,o,ru,eo,hdo⟩,_,_⟩:=(show bj P w H s.heap c (bW c v)from e0.hok c _ hc)
    exact⟨u,ru,.inr ⟨.inr (S.fr y (KJ hy)),c,mj hcl ndY hy ec,o,hk _ _ eo,hdo⟩⟩
 ·unfold dZ
  show _=N.length
  have:=S.le
  rw[Kn,Kn,pz,pz,Oj]
  omega
end
section
variable {P:KI}{w:Lp}{K:pv}{mg:Str->Option tx}{base:Heap}{k:Nat}{t:cX}{N:List Str}{sp:Sp}
theorem vO {body:List Stmt}(hb:t.body=.stmts body)(S:eP N t.ps t.ys t.scope)
  (hbody:∀(f c:Addr)(cl:List (Str×Addr))(A:Lh)(outer:List Env)(s:Km)(H:Hp)(vs cvs:List V)(Q:VK)(E:XK),bu k (A.deeper (Oz t.qual t.scope s.heap.objs.size f (.ref c) cl))->vs.length=t.ps.length->cvs.length=t.ys.length->sp (vs++cvs) H Q E->
   ∃td,PSs (gW P w K mg base N t.qual t.scope f c cl A outer s H E) body td/\td {nx:=fun _ H'=>Q .non H',rt:=Q} (dZ N vs cvs) H):fz P w K mg base (k+1) t sp:=by
 refine⟨fun A outer s H f cs us vs cvs Q E hr e0 ca r hl hsp=>?_⟩
 obtain⟨c,hf,hcc⟩:=ca.ex
 have KX:K.In s.heap:=e0.mod.kin.keeps fun b o e=>(e0.bs b o e).1
 have lim:s.heap.NoLimit:=e0.mod.nolimit.keeps fun b o e=>(e0.bs b o e).1
 obtain⟨⟨od,fd,sl,ho,h1,h2,h3,h4,h5,h6,h7,h8,h9,h10⟩,_,_⟩:=(show bj P w H s.heap f (df f t cs c)from e0.hok f _ hf)
 obtain⟨⟨o,vs',tk,hco,hdo,hv⟩,_,_⟩:=(show bj P w H s.heap c (cD c t.qual)from e0.hok c _ hcc)
 have hcd:s.heap.CodeRec fd.code fd.qualname:=⟨c,o,vs',tk,h6,hco,hdo,by rw[h1];exact hv⟩
 refine Nd (OI (R:=CR (CX1 P w) outer P w (cJ cs H) s (fun v H'=>Q v (cw cs H H')) (fun c a H'=>E c a (cw cs H H'))) hr.depth ho rfl (by rw[h3];exact S.co) (by rw[h3];exact S.gen) (h2.trans hb) hcd ?_) fun r s' h=>CR.back ca.cells e0.frf e0.hok h
 rw[h8 us (by rw[<-r.length];exact hl),h3,h4,h5,h1,h6,h7]
 refine Ko (OS S.nocell (fun y hy=>S.par y.1 (Mp hy).1) (fun h' hns hsb=>⟨lim.fresh _ hsb,?_⟩) S.kind)
 have hk:∀b o,s.heap.get? b=some o->h'.get? b=some o:=fun b o e=>hsb.extBut b o (KQ (Kp e)) (gV _ e)
 have lcv:cvs.length=t.ys.length:=by rw[<-h10];exact(Paired.length ca.cells).symm
 obtain⟨td,ht,hq⟩:=hbody f c (t.ys.zip cs) A outer s (cJ cs H) vs cvs _ _ (hr.deeper _) hl lcv hsp
 have I:=rS (tk:=s.toks+(t.ps.zip us).length) (qual:=t.qual) (f:=f) (c:=c) (E:=fun c a H'=>E c a (cw cs H H')) S hr.hd e0 ca.cells h9 h10 hl r hns hk
 show codeAny _ _ (.func body (Oz t.qual t.scope s.heap.objs.size f (.ref c) (t.ys.zip cs))) _ _
 refine Sh ?_
 refine KU (ht [] _ (dZ N vs cvs) _ _ I hq) (fun fl s' hs=>?_) fun e s' hs=>hs
 cases fl with
 |ret u=>
  obtain⟨v,σ',H',J,rv,q⟩:=hs
  exact⟨v,H',J.os,J.bare,J.base,J.hok,rv,q⟩
 |next=>
  obtain⟨σ',H',J,q⟩:=hs
  exact⟨V.non,H',J.os,J.bare,J.base,J.hok,rfl,q⟩
 |brk=>
  obtain⟨_,_,_,q⟩:=hs
  exact Ll q
 |cont=>
  obtain⟨_,_,_,q⟩:=hs
  exact Ll q
theorem sI {body:Expr}(hb:t.body=.expr body)(S:eP N t.ps t.ys t.scope)
  (hbody:∀(f c:Addr)(cl:List (Str×Addr))(A:Lh)(outer:List Env)(s:Km)(H:Hp)(vs cvs:List V)(Q:VK)(E:XK),bu k (A.deeper (Oz t.qual t.scope s.heap.objs.size f (.ref c) cl))->vs.length=t.ps.length->cvs.length=t.ys.length->sp (vs++cvs) H Q E->
   ∃te,PE (gW P w K mg base N t.qual t.scope f c cl A outer s H E) body te/\te (dZ N vs cvs) H Q):fz P w K mg base (k+1) t sp:=by
 refine⟨fun A outer s H f cs us vs cvs Q E hr e0 ca r hl hsp=>?_⟩
 obtain⟨c,hf,hcc⟩:=ca.ex
 have KX:K.In s.heap:=e0.mod.kin.keeps fun b o e=>(e0.bs b o e).1
 have lim:s.heap.NoLimit:=e0.mod.nolimit.keeps fun b o e=>(e0.bs b o e).1
 obtain⟨⟨od,fd,sl,ho,h1,h2,h3,h4,h5,h6,h7,h8,h9,h10⟩,_,_⟩:=(show bj P w H s.heap f (df f t cs c)from e0.hok f _ hf)
 obtain⟨⟨o,vs',tk,hco,hdo,hv⟩,_,_⟩:=(show bj P w H s.heap c (cD c t.qual)from e0.hok c _ hcc)
 have hcd:s.heap.CodeRec fd.code fd.qualname:=⟨c,o,vs',tk,h6,hco,hdo,by rw[h1];exact hv⟩
 refine Nd (W.kla_callFunE (R:=CR (CX1 P w) outer P w (cJ cs H) s (fun v H'=>Q v (cw cs H H')) (fun c a H'=>E c a (cw cs H H'))) hr.depth ho rfl (by rw[h3];exact S.co) (by rw[h3];exact S.gen) (h2.trans hb) hcd ?_) fun r s' h=>CR.back ca.cells e0.frf e0.hok h
 rw[h8 us (by rw[<-r.length];exact hl),h3,h4,h5,h1,h6,h7]
 refine Ko (OS S.nocell (fun y hy=>S.par y.1 (Mp hy).1) (fun h' hns hsb=>⟨lim.fresh _ hsb,?_⟩) S.kind)
 have hk:∀b o,s.heap.get? b=some o->h'.get? b=some o:=fun b o e=>hsb.extBut b o (KQ (Kp e)) (gV _ e)
 have lcv:cvs.length=t.ys.length:=by rw[<-h10];exact(Paired.length ca.cells).symm
 obtain⟨te,ht,hq⟩:=hbody f c (t.ys.zip cs) A outer s (cJ cs H) vs cvs _ _ (hr.deeper _) hl lcv hsp
 have I:=rS (tk:=s.toks+(t.ps.zip us).length) (qual:=t.qual) (f:=f) (c:=c) (E:=fun c a H'=>E c a (cw cs H H')) S hr.hd e0 ca.cells h9 h10 hl r hns hk
 show codeAny _ _ (.expr body (Oz t.qual t.scope s.heap.objs.size f (.ref c) (t.ys.zip cs))) _ _
 refine W.kla_codeExpr ?_
 refine KU (ht [] _ (dZ N vs cvs) _ _ I hq) (fun v s' hs=>?_) fun e s' hs=>hs
 obtain⟨x,H',J,rv,q⟩:=hs
 exact⟨x,H',J.os,J.bare,J.base,J.hok,rv,q⟩
end
def BM (mg:Str->Option tx)(h:Heap):Prop:=∃bm ob,mg "__builtins__"=some (.ref bm)/\bm≠builtinsNs/\h.get? bm=some ob/\ob.cls=.type "module"/\ob.dict=some builtinsNs/\ob.data=.plain
section
variable {X:Cx}{pins:List (Addr×Obj)}{σ:St}{H:Hp}{s:Km}{P c:Addr}{ps:Array tx}{t:cX}{cs:List Addr}{h':Heap}{tk:Nat}{fd:Kz}
theorem qI {more:Array tx}(I:Inv X pins σ H s)(hP:H P=some (.tbl ps))(hx:Rx P s.heap h')(hge:s.heap.objs.size<=c)(hlt:c<h'.objs.size)(hrec:h'.CodeRec (.ref c) t.qual)
  (htb:h'.get? P=some (Rf (ps++more)))(hfd:lQ t cs c fd):
  Inv X pins σ (upd (upd (upd H P (.tbl (ps++more))) c (cD c t.qual)) h'.objs.size (df h'.objs.size t cs c)) {s with heap:=h'.push {cls:=.type "function",data:=.func fd},toks:=tk}:=by
 have hcn:H c=none:=I.hok.fresh hge
 have hfn:H h'.objs.size=none:=I.hok.fresh (Mb (LA hge hlt))
 have ncP:c≠P:=(aI hP hcn).symm
 have nfP:h'.objs.size≠P:=(aI hP hfn).symm
 have ncf:c≠h'.objs.size:=KQ hlt
 have old:∀b o,s.heap.get? b=some o->b≠c/\b≠h'.objs.size:=fun b o e=>⟨KQ (KM (Kp e) hge),KQ (KM (Kp e) (Mb (LA hge hlt)))⟩
 have keepP:∀b o,b≠P->s.heap.get? b=some o->(h'.push {cls:=.type "function",data:=.func fd}).get? b=some o:=fun b o hb e=>gV _ (hx b o hb e)
 have neP:∀b,H b=none->b≠P:=fun b e z=>by rw[z,hP]at e;cases e
 have obj:∀b o,H b=some o->∃u,s.heap.get? b=some u:=fun b o e=>lg (I.hok b o e)
 have same:∀b o,H b=some o->b≠P->(upd (upd (upd H P (.tbl (ps++more))) c (cD c t.qual)) h'.objs.size (df h'.objs.size t cs c)) b=some o:=fun b o e hb=>by
  rw[aC (aI e hfn),aC (aI e hcn),aC hb];exact e
 refine I.un ⟨fun b o e n hb hx'=>keepP b o (neP b n) e,fun b o e n hb hx'=>⟨o.slots,keepP b o (neP b n) e⟩,fun b o e n hx'=>?_,fun b o e hx'=>?_,fun b xs e=>same b _ e (bN e hP (fun z=>nomatch z)),fun b o u e=>same b _ e (bN e hP (fun z=>nomatch z)),fun b qs e=>?_⟩ fun b o e=>?_
 ·rw[aC (old b o e).2,aC (old b o e).1,aC (neP b n)];exact n
 ·by_cases hb:b=P
  ·subst hb;exact⟨_,gV _ htb⟩
  ·exact⟨o,keepP b o hb e⟩
 ·by_cases hb:b=P
  ·subst hb
   rw[hP]at e;cases e
   exact⟨more,by rw[aC nfP.symm,aC ncP.symm,au]⟩
  ·exact⟨#[],by rw[same b _ e hb];simp⟩
 ·by_cases hf:b=h'.objs.size
  ·subst hf
   rw[au]at e;cases e
   refine⟨⟨_,fd,_,Kt _ rfl,hfd⟩,⟨_,Kt _ rfl⟩,?_⟩
   rintro h1 h2 ⟨od,fd',sl,e1,e2⟩ k
   exact⟨od,fd',sl,k _ e1,e2⟩
  ·rw[aC hf]at e
   by_cases hc:b=c
   ·subst hc
    rw[au]at e;cases e
    obtain⟨c2,oc,vs,tq,e0,e1,e2,e3⟩:=hrec
    cases e0
    refine⟨⟨oc,vs,tq,gV _ e1,e2,e3⟩,⟨_,gV _ e1⟩,?_⟩
    rintro h1 h2 ⟨o,vs,tk,a1,a2,a3⟩ k
    exact⟨o,vs,tk,k _ a1,a2,a3⟩
   ·rw[aC hc]at e
    by_cases hp:b=P
    ·subst hp
     rw[au]at e;cases e
     exact gV _ htb
    ·rw[aC hp]at e
     refine(I.hok b o e).stay (fun a u ha q=>keepP a u ?_ q) (fun a q=>same a _ q (bN q hP (fun z=>nomatch z))) fun a xs q=>same a _ q (bN q hP (fun z=>nomatch z))
     rcases ha with rfl|ha
     ·exact hp
     ·exact bN ha hP (fun z=>nomatch z)
theorem qL (I:Inv X pins σ H s)(hk:∀b o,s.heap.get? b=some o->h'.get? b=some o)(hsz:s.heap.objs.size<=h'.objs.size)(hfd:lQ t cs c fd):
  Inv X pins σ (upd H h'.objs.size (df h'.objs.size t cs c)) {s with heap:=h'.push {cls:=.type "function",data:=.func fd},toks:=tk}:=by
 refine I.laid (a:=h'.objs.size) (o:=df h'.objs.size t cs c) (fun b u e=>gV _ (hk b u e)) hsz ⟨⟨_,fd,_,Kt _ rfl,hfd⟩,⟨_,Kt _ rfl⟩,?_⟩
 rintro h1 h2 ⟨od,fd',sl,e1,e2⟩ k
 exact⟨od,fd',sl,k _ e1,e2⟩
end
def mL (P:Addr)(pos:Pos)(t:cX)(cs:List Addr):TE:=fun _ H Q=>∃ps,H P=some (.tbl ps)/\TriplesOk ps.toList/\
 ((codeAmong pos ps.toList=none/\∀c f,H c=none->H f=none->c≠f->Q (.ref f) (upd (upd (upd H P (.tbl (ps++#[rawInt pos.line,rawInt pos.col,.ref c]))) c (cD c t.qual)) f (df f t cs c)))\/
  ∃c,codeAmong pos ps.toList=some (.ref c)/\∀f,H f=none->Q (.ref f) (upd H f (df f t cs c)))
section
variable {X:Cx}{c0 P:Addr}{params:Arguments}{scope:Scope}{pos:Pos}{t:cX}{cs:List Addr}
theorem sJ {pins:List (Addr×Obj)}{σ:St}{H:Hp}{s:Km}{ps:Array tx}(I:Inv X pins σ H s)(hP:H P=some (.tbl ps))(B:BM X.mg X.base):
  s.heap.get? P=some (Rf ps)/\s.heap.Ns mainGlobals X.mg/\mainGlobals≠P/\s.heap.BuiltinsAt X.mg P:=by
 have hPo:s.heap.get? P=some (Rf ps):=I.hok P _ hP
 have hg:s.heap.Ns mainGlobals X.mg:=I.mod.glob.keeps I.bk
 have hgP:mainGlobals≠P:=fun q=>by
  obtain⟨o,es,ep,e,hd,_⟩:=hg
  rw[q,hPo]at e;cases e;cases hd
 obtain⟨bm,ob,b1,b2,b3,b4,b5,b6⟩:=B
 have b3':=I.bk _ _ b3
 refine⟨hPo,hg,hgP,bm,ob,b1,b2,fun q=>?_,fun q=>?_,b3',b4,b5,b6⟩
 ·obtain⟨o,es,ep,e,hd,_⟩:=hg
  rw[q,e]at b3';cases b3';rw[hd]at b6;cases b6
 ·rw[q,hPo]at b3';cases b3';cases b4
theorem Ab {body:Expr}(B:BM X.mg X.base)(C:Nf X.base c0 P)(hcode:X.env.code=.ref c0)(hcl:closureFor scope X.env=pure (t.ys.zip cs))(nd:cs.Nodup)(hl:cs.length=t.ys.length)
  (hq:X.env.qual++"<lambda>"=t.qual)(hb:t.body=.expr body)(hs:t.scope=scope)
  (hbind:∀(cl:List (Str×Addr))(pm cdv ct:tx)(us:List tx),us.length=t.ps.length->bindArgs (W.kla_fn "<lambda>" t.qual params body scope cl pm cdv ct) ⟨us,[]⟩=pure (t.ps.zip us))
  (hdef:defaultsOf params X.env=([],[]):=by rfl):QE X (.Lambda params body scope pos) (mL P pos t cs):=⟨fun pins s σ H Q I h=>by
 obtain⟨ps,hP,ht,h⟩:=h
 obtain⟨hPo,hg,hgP,hB⟩:=sJ I hP B
 have hfd:∀(pm ct:tx)(c:Addr),lQ t cs c (W.kla_fn "<lambda>" t.qual params body scope (t.ys.zip cs) pm (.ref c) ct):=fun pm ct c=>⟨rfl,hb.symm,hs.symm,rfl,rfl,rfl,rfl,hbind _ _ _ _,nd,hl⟩
 refine W.kla_eval hdef ?_
 rw[hq]
 rcases h with⟨hn,q⟩|⟨c,hf,q⟩
 ·refine W.kla_makeFunction hcl I.ok.glob hg hcode (C.keeps I.bk) hPo ht hn hgP hB fun c ctv h' tk hx hge hlt hrec htb=>?_
  exact⟨.ref h'.objs.size,_,qI I hP hx hge hlt hrec htb (hfd _ _ _),rfl,q c h'.objs.size (I.hok.fresh hge) (I.hok.fresh (Mb (LA hge hlt))) (KQ hlt)⟩
 ·refine W.kla_makeFunctionHit hcl I.ok.glob hg hcode (C.keeps I.bk) hPo ht hf hB fun ctv h' tk hk hsz=>?_
  exact⟨.ref h'.objs.size,_,qL I hk hsz (hfd _ _ _),rfl,q h'.objs.size (I.hok.fresh hsz)⟩⟩
theorem Ah (i:Nat){name:Str}{body:List Stmt}(hN:X.N.Nodup)(B:BM X.mg X.base)(C:Nf X.base c0 P)(hcode:X.env.code=.ref c0)(hcl:closureFor scope X.env=pure (t.ys.zip cs))(nd:cs.Nodup)(hl:cs.length=t.ys.length)
  (hq:qualnameIn X.env name name=t.qual)(hb:t.body=.stmts body)(hs:t.scope=scope)
  (hbind:∀(cl:List (Str×Addr))(doc pm cdv ct:tx)(us:List tx),us.length=t.ps.length->bindArgs (W.fnX name t.qual params body scope cl .none .none doc pm none cdv ct) ⟨us,[]⟩=pure (t.ps.zip us))
  (hi:X.N[i]?=some name:=by rfl)(hx:Loc X.env.scope name:=by first|exact .inl rfl|exact .inr rfl)(hf:X.fn name=true\/X.env.scope.names.lookup name=some .local:=by first|exact .inl rfl|exact .inr rfl)
  (hd0:params.defaults=[]:=by rfl)(hk0:params.kw_defaults=[]:=by rfl)(ha:annTrees params none X.env=[]:=by rfl):
  QS X (.FunctionDef name params body [] none [] scope none name pos) (aK (mL P pos t cs) (aE i)):=⟨fun pins s σ H D I h=>by
 obtain⟨ps,hP,ht,h⟩:=h
 obtain⟨hPo,hg,hgP,hB⟩:=sJ I hP B
 have hfd:∀(doc pm ct:tx)(c:Addr),lQ t cs c (W.fnX name t.qual params body scope (t.ys.zip cs) .none .none doc pm none (.ref c) ct):=fun doc pm ct c=>⟨rfl,hb.symm,hs.symm,rfl,rfl,rfl,rfl,hbind _ _ _ _ _,nd,hl⟩
 refine W.nestDef_K hd0 hk0 ha ?_
 rw[hq]
 rcases h with⟨hn,q⟩|⟨c,hff,q⟩
 ·refine W.makeFunction_K hcl I.ok.glob hg hcode (C.keeps I.bk) hPo ht hn hgP hB fun c ctv doc h' tk hx' hge hlt hrec htb=>?_
  have I2:=qI (tk:=tk) (cs:=cs) I hP hx' hge hlt hrec htb (hfd doc ((X.mg "__name__").getD .none) ctv c)
  exact gi I2 hN hi hx (v:=.ref h'.objs.size) rfl (fun s' I3=>⟨_,_,I3,q c h'.objs.size (I.hok.fresh hge) (I.hok.fresh (Mb (LA hge hlt))) (KQ hlt)⟩) hf
 ·refine W.makeFunction_hit hcl I.ok.glob hg hcode (C.keeps I.bk) hPo ht hff hB fun ctv doc h' tk hk hsz=>?_
  have I2:=qL (tk:=tk) (cs:=cs) I hk hsz (hfd doc ((X.mg "__name__").getD .none) ctv c)
  exact gi I2 hN hi hx (v:=.ref h'.objs.size) rfl (fun s' I3=>⟨_,_,I3,q h'.objs.size (I.hok.fresh hsz)⟩) hf⟩
end
section
variable {X:Cx}{k:Nat}{E:St->XK}{x:Str}{p pos:Pos}{e:Expr}{es:List Expr}{ta:TE}
abbrev lI:=List (cX×Sp)
def kF (ks:lI)(f:Addr)(vs:List V)(H:Hp)(Q:VK)(E:XK):Prop:=∃ts∈ks,∃cs cvs,dQ H f ts.1 cs cvs/\vs.length=ts.1.ps.length/\ts.2 (vs++cvs) (cJ cs H) (fun v H'=>Q v (cw cs H H')) (fun c a H'=>E c a (cw cs H H'))
def db (ks:lI)(E:St->XK)(ta:TE)(t:TA):TE:=fun σ H Q=>ta σ H fun x H1=>∃f,x=.ref f/\(∃ts∈ks,∃cs cvs,dQ H1 f ts.1 cs cvs)/\t σ H1 fun vs H2=>kF ks f vs H2 Q (E σ)
theorem wc {P:KI}{w:Lp}{H:Hp}{h:Heap}{f:Addr}{t:cX}{cs:List Addr}{cvs:List V}(ok:HOk P w H h)(c:dQ H f t cs cvs):W.FnAt f h:=by
 obtain⟨c',hf,_⟩:=c.ex
 obtain⟨⟨od,fd,sl,ho,_⟩,_,_⟩:=(show bj P w H h f (df f t cs c')from ok f _ hf)
 exact⟨_,_,_,_,ho⟩
def sh (P:KI)(w:Lp)(K:pv)(mg:Str->Option tx)(base:Heap)(k:Nat)(ks:lI):Prop:=∀ts∈ks,fz P w K mg base k ts.1 ts.2
theorem cQ {ks:lI}{t:TA}(hk:sh X.prog X.w X.K X.mg X.base k ks)(hr:bu k X.A)(hx:fD (CX1 X.prog X.w) X E)(hg:QE X (.Name x p) ta)(ha:QA X (e::es) t)(hs:bq (e::es)=true:=by rfl):
  QE X (.Call (.Name x p) (e::es) [] pos) (db ks E ta t):=⟨fun pins s σ H Q I h=>by
 have h':(bU e&&bq es)=true:=hs
 refine Lx (thn (hg.out pins s σ H _ I h) fun u s1 ⟨y,H1,I1,ry,f,ey,⟨ts,hts,cs,cvs,ca⟩,q⟩=>?_)
 subst ey
 obtain rfl:u=Kx f:=ry
 refine W.callWith_F (wc I1.hok ca) (thn (ha.out pos pins s1 σ H1 _ I1 q) fun us s2 ⟨vs,H2,I2,rv,ts2,hm2,cs2,cvs2,ca2,hl,hsp⟩=>⟨wc I2.hok ca2,?_⟩)
  (bh (Ku.mp h').1 es X.env) (cf (Ku.mp h').2)
 refine PR (Nd ((hk ts2 hm2).run X.A X.stack s2 H2 f cs2 us vs cvs2 Q (E σ) hr I2.env0 ca2 rv hl hsp) fun r s' hq=>?_)
 cases r with
 |error e=>exact hx pins σ H2 s2 e s' I2 hq
 |ok fl=>
  cases fl with
  |ret u=>exact I2.after hq
  |next=>exact Ll hq
  |brk=>exact Ll hq
  |cont=>exact Ll hq⟩
end
structure lT where
 nx:St->Hp->Prop
 rt:St->VK
abbrev TSM:=lT->St->Hp->Prop
def SPM (X:Cx)(pins:List (Addr×Obj))(D:lT)(f:Flow)(s':Km):Prop:=
 match f with
 |.next=>∃σ' H',Inv X pins σ' H' s'/\D.nx σ' H'
 |.ret u=>∃v σ' H',Inv X pins σ' H' s'/\aY v u/\D.rt σ' v H'
 |_=>False
structure QM (X:Cx)(st:Stmt)(t:TSM):Prop where
 out:∀(pins:List (Addr×Obj))(s:Km)(σ:St)(H:Hp)(D:lT),Inv X pins σ H s->t D σ H->wpAny (model X.prog X.w) X.A (exec st X.env) (SPM X pins D) X.xe s
structure QMs (X:Cx)(st:List Stmt)(t:TSM):Prop where
 out:∀(pins:List (Addr×Obj))(s:Km)(σ:St)(H:Hp)(D:lT),Inv X pins σ H s->t D σ H->wpAny (model X.prog X.w) X.A (execs st X.env) (SPM X pins D) X.xe s
def sZ (t u:TSM):TSM:=fun D σ H=>t {D with nx:=fun σ' H'=>u D σ' H'} σ H
def pV (t:TS):TSM:=fun D σ H=>t {nx:=D.nx,rt:=fun _ _=>False} σ H
def qV (te:TE):TSM:=fun D σ H=>te σ H (D.rt σ)
section
variable {X:Cx}{st:Stmt}{sts l m:List Stmt}{t u:TSM}{tS:TS}{e c:Expr}{te:TE}{tc:TT}{pos:Pos}
theorem qz (h:QS X st tS):QM X st (pV tS):=⟨fun pins s σ H D I hq=>thn (h.out pins s σ H _ I hq) fun f s1 q=>by
 cases f with
 |next=>exact q
 |ret v=>obtain⟨_,_,_,_,_,z⟩:=q;exact z.elim
 |brk=>obtain⟨_,_,_,z⟩:=q;exact z.elim
 |cont=>obtain⟨_,_,_,z⟩:=q;exact z.elim⟩
theorem pZ (h:QE X e te):QM X (.Return (some e) pos) (qV te):=⟨fun pins s σ H D I hq=>
 Tv (thn (h.out pins s σ H _ I hq) fun v s1 ⟨x,H1,I1,r1,q1⟩=>⟨x,σ,H1,I1,r1,q1⟩)⟩
theorem rn (h1:QM X st t)(h2:QMs X sts u):QMs X (st::sts) (sZ t u):=⟨fun pins s σ H D I h=>by
 refine Ou (thn (h1.out pins s σ H _ I h) fun f s1 q=>?_)
 cases f with
 |next=>
  obtain⟨σ',H',I',q⟩:=q
  exact h2.out pins s1 σ' H' D I' q
 |ret v=>exact q
 |brk=>exact q
 |cont=>exact q⟩
theorem pd (h1:QM X st t):QMs X [st] t:=⟨fun pins s σ H D I h=>by
 refine Ou (thn (h1.out pins s σ H D I h) fun f s1 q=>?_)
 cases f with
 |next=>exact NS q
 |ret v=>exact q
 |brk=>exact q
 |cont=>exact q⟩
end
def cR:List (Nat×Addr)->St->Hp->Hp
 |[],_,H=>H
 |(i,c)::r,σ,H=>match σ[i]? with
  |some (some v)=>cR r σ (upd H c (bW c v))
  |_=>cR r σ H
theorem kP {P:KI}{w:Lp}{fs:List Addr}{H:Hp}{h h':Heap}{σ:St}:∀(cs:List (Nat×Addr))(H':Hp),(cs.map (·.2)).Nodup->(∀p∈cs,H' p.2=none/\h.objs.size<=p.2/\∀v,σ[p.1]? =some (some v)->∃u o,aY v u/\h'.get? p.2=some o/\o.data=.cell (some u))->
  Un fs [] H H' h h'->HOk P w H' h'->Un fs [] H (cR cs σ H') h h'/\HOk P w (cR cs σ H') h'
 |[],H',_,_,u,ok=>⟨u,ok⟩
 |(i,c)::r,H',nd,hc,u,ok=>by
  unfold cR
  have ndr:=(LW.mp nd).2
  have hcr:∀p∈r,H' p.2=none/\h.objs.size<=p.2/\∀v,σ[p.1]? =some (some v)->∃u o,aY v u/\h'.get? p.2=some o/\o.data=.cell (some u):=fun p hp=>hc p (KC _ hp)
  split
  ·rename_i v hv
   obtain⟨hn,hge,hcell⟩:=hc (i,c) KY
   have hn:H' c=none:=hn
   have hge:h.objs.size<=c:=hge
   obtain⟨uv,o,ru,eo,hd⟩:=hcell v hv
   have eo:h'.get? c=some o:=eo
   refine kP r (upd H' c (bW c v)) ndr (fun p hp=>⟨?_,(hcr p hp).2⟩) ⟨u.keep,u.slot,fun b ob e n hx=>?_,u.there,fun b xs e=>?_,fun b ob z e=>?_,fun b ps e=>?_⟩ fun b ob e=>?_
   ·have:p.2≠c:=fun z=>(LW.mp nd).1 (by rw[<-z];exact LC.mpr ⟨p,hp,rfl⟩)
    rw[aC this];exact(hcr p hp).1
   ·rw[aC (KQ (KM (Kp e) hge))];exact u.free b ob e n hx
   ·have z:=u.tups b xs e;rw[aC (aI z hn)];exact z
   ·have z:=u.frzs b ob _ e;rw[aC (aI z hn)];exact z
   ·obtain⟨more,z⟩:=u.tbls b ps e;exact⟨more,by rw[aC (aI z hn)];exact z⟩
   ·by_cases hb:b=c
    ·subst hb
     rw[au]at e;cases e
     refine⟨⟨uv,o,ru,eo,hd⟩,⟨o,eo⟩,?_⟩
     rintro h1 h2 ⟨u',o',r',e',d'⟩ k
     exact⟨u',o',r',k _ e',d'⟩
    ·rw[aC hb]at e
     exact(ok b ob e).stay (fun a q _ z=>z) (fun a q=>by rw[aC (aI q hn)];exact q) fun a xs q=>by rw[aC (aI q hn)];exact q
  ·exact kP r H' ndr hcr u ok
theorem Fun.okM {P:KI}{w:Lp}{K:pv}{mg:Str->Option tx}{base:Heap}{x qual:Str}{st:Stmt}{f c0:Addr}{fd:Kz}{N ps:List Str}{k:Nat}{sp:Sp}{caps:Nat->List (Nat×Addr)}(F:Fun K x qual st f fd)(hcd:fd.code=.ref c0)(S:aN N ps (aw st))(len:∀vs H Q E,sp vs H Q E->vs.length=ps.length)
  (hcaps:∀(L:Nat)(p:Nat×Addr),p∈caps L->∃y,N[p.1]? =some y/\(aw st).names.lookup y=some .cell/\(cellsFrom (L+1) (aw st).names []).lookup y=some p.2)(hnd:∀L,((caps L).map (·.2)).Nodup)
  (hbody:∀(A:Lh)(outer:List Env)(s:Km)(H:Hp)(vs:List V)(Q:VK)(E:XK),bu k (A.deeper (envOfC qual (aw st) s.heap.objs.size f (.ref c0)))->sp vs H Q E->
   ∃t,QMs (dq (CX1 P w) P w K mg base N qual (aw st) f (.ref c0) A outer s H E) (ba st) t/\t {nx:=fun σ H'=>(∀p∈caps s.heap.objs.size,H' p.2=none)->Q .non (cR (caps s.heap.objs.size) σ H'),rt:=fun σ v H'=>(∀p∈caps s.heap.objs.size,H' p.2=none)->Q v (cR (caps s.heap.objs.size) σ H')} (start N vs) H):aV P w K mg base (CX1 P w) (k+1) f fd ps sp:=by
 obtain⟨oc,od,kV,doc,pm,an,cdv,ct,osl,rfl,lk,hcd'⟩:=F.ex
 obtain rfl:cdv=.ref c0:=hcd
 refine⟨len,fun A outer s H args us vs Q E hr e0 hb r hsp=>?_⟩
 have hl:=len _ _ _ _ hsp
 have KX:K.In s.heap:=e0.mod.kin.keeps fun b o e=>(e0.bs b o e).1
 have lim:s.heap.NoLimit:=e0.mod.nolimit.keeps fun b o e=>(e0.bs b o e).1
 have hkind:∀y∈ps.zip us,(aw st).names.lookup y.1=some .local\/((aw st).names.lookup y.1=some .cell/\((cellsFrom (s.heap.objs.size+1) (aw st).names []).lookup y.1).isSome=true):=fun⟨n,v⟩ hy=>by
  rcases S.par n (Mp hy).1 with q|q
  ·exact .inl q
  ·exact .inr ⟨q,PX _ _ _ (.inl q)⟩
 refine OI hr.depth (KX _ _ lk) rfl S.co S.gen rfl (W.codeRec_of KX hcd') (hb _ _ _ _ ?_)
 refine QR S.kind hkind fun env he s1 x=>?_
 subst he
 refine⟨lim.keeps x.toInCall.keep,Sh ?_⟩
 obtain⟨t,ht,hq⟩:=hbody A outer s H vs Q E (hr.deeper _) hsp
 have I:Inv (dq (CX1 P w) P w K mg base N qual (aw st) f (.ref c0) A outer s H E) [] (start N vs) H s1:=oF S hr.hd e0 hl r x
 refine KU (ht.out [] s1 (start N vs) H _ I hq) (fun fl s' hs=>?_) fun e s' hs=>hs
 have fin:∀{σ':St}{H':Hp}{v:V}{u:tx},Inv (dq (CX1 P w) P w K mg base N qual (aw st) f (.ref c0) A outer s H E) [] σ' H' s'->aY v u->((∀p∈caps s.heap.objs.size,H' p.2=none)->Q v (cR (caps s.heap.objs.size) σ' H'))->CE outer P w H s Q u s':=
  fun{σ' H' v u} J rv q=>by
   have free:∀p∈caps s.heap.objs.size,H' p.2=none:=fun p hp=>by
    obtain⟨y,_,_,hc⟩:=hcaps _ p hp
    exact J.freeC y p.2 hc
   have hcond:∀p∈caps s.heap.objs.size,H' p.2=none/\s.heap.objs.size<=p.2/\∀v,σ'[p.1]? =some (some v)->∃u o,aY v u/\s'.heap.get? p.2=some o/\o.data=.cell (some u):=fun p hp=>by
    obtain⟨y,hy,hk,hc⟩:=hcaps _ p hp
    refine⟨free p hp,J.ok.cab y p.2 rfl hc,fun v hv=>?_⟩
    obtain⟨m,_,hloc⟩:=J.loc
    obtain⟨u',r',lk'⟩:=hloc p.1 y v hy hv (.inr (.inl hk))
    rcases lk' with⟨z,_⟩|⟨_,c,ec,o,eo,hd⟩
    ·have z:(aw st).names.lookup y=some .local:=z
     rw[hk]at z;cases z
    ·have ec:(cellsFrom (s.heap.objs.size+1) (aw st).names []).lookup y=some c:=ec
     rw[hc]at ec;cases ec
     exact⟨u',o,r',eo,hd⟩
   obtain⟨un,ok⟩:=kP (P:=P) (w:=w) (σ:=σ') (caps s.heap.objs.size) H' (hnd _) hcond J.base J.hok
   exact⟨v,_,J.os,J.bare,un,ok,rv,q free⟩
 cases fl with
 |ret u=>
  obtain⟨v,σ',H',J,rv,q⟩:=hs
  exact fin J rv q
 |next=>
  obtain⟨σ',H',J,q⟩:=hs
  exact fin (v:=V.non) (u:=MB) J rfl q
 |brk=>exact Ll hs
 |cont=>exact Ll hs
theorem vy {P:KI}{w:Lp}{K:pv}{mg mb:Str->Option tx}{CX:CXT}{k:Nat}{fa a:Addr}{fd:Kz}{x:Str}{sp:Sp}{s₁:Km}{vs:List tx}{ns:List Int}{tabs:List (Addr×Addr)}
  (KX:K.In s₁.heap)(hns:s₁.heap.Ns mainGlobals mg)(hb:s₁.heap.Ns builtinsNs mb)(hbb:∀x:Str,x≠"__name__"->mb x=bootBuiltins x)(hlim:s₁.heap.NoLimit)(hg:s₁.gens=#[])(hB:BM mg s₁.heap)
  (hT:∀q∈tabs,Nf s₁.heap q.1 q.2/\s₁.heap.get? q.2=some (Rf #[]))(hKT:Rh K=true)
  (ha:s₁.heap.get? a=some {cls:=.type "list",data:=.seq vs.toArray})(hi:Pc vs ns)(hl:ns.length<=sizeLine)(hr:bu k callerA)
  (F:∀base:Heap,K.In base->base.Ns mainGlobals mg->BM mg base->(∀q∈tabs,Nf base q.1 q.2)->aV P w K mg base CX k fa fd [x] sp)(hbind:∀(s:Km)(u:tx),RL s fd ⟨[u],[]⟩ [(x,u)])
  (hsp:∀H:Hp,(∀q∈tabs,H q.2=some (.tbl #[]))->SqL K H a (ns.map V.int)->sp [.ref a] H (fun v _=>v=.bl true) fun _ _ _=>False)
  (hCX:∀H e s',CX [] H s₁ (fun _ _ _=>False) e s'->False):
  codeAny (model P w) callerA (.call (.ref fa) ⟨[.ref a],[]⟩) (fun r s'=>r=.ok (.ret (.bool true))/\OldK s₁.heap s'.heap/\s'.os=s₁.os/\Oo s'.gens) s₁:=by
 have rv:=oh hi
 have lenV:=hi.length
 have tabK:∀q∈tabs,K.lookup q.2=none:=fun q hq=>by
  cases e:K.lookup q.2 with
  |none=>rfl
  |some o=>
   have e2:=KX _ _ e
   rw[(hT q hq).2]at e2;cases e2
   have:=LD.mp hKT _ (W.mem_of_lookupK e)
   exact absurd (show false=true from this) KF
 have tabA:∀q∈tabs,q.2≠a:=fun q hq e=>by
  have e2:=(hT q hq).2
  rw[e,ha]at e2;cases e2
 have core:∀H:Hp,(∀q∈tabs,H q.2=some (.tbl #[]))->SqL K H a (ns.map V.int)->HOk P w H s₁.heap->(∀b,H b≠none->(b=a/\∃o xs,H b=some (.frz o (.lst xs)))\/∃q∈tabs,q.2=b)->(∀b,H b≠none->K.lookup b=none)->
   codeAny (model P w) callerA (.call (.ref fa) ⟨[.ref a],[]⟩) (fun r s'=>r=.ok (.ret (.bool true))/\OldK s₁.heap s'.heap/\s'.os=s₁.os/\Oo s'.gens) s₁:=by
  intro H hO hS hok hA hK
  have base_of:∀{b:Addr}{o:Obj},s₁.heap.get? b=some o->H b=none->(gl s₁.heap H).get? b=some o:=fun e n=>yE e n
  have noA:∀{b:Addr}{o:Obj},s₁.heap.get? b=some o->o.cls≠.none->o.cls≠.type "list"->H b=none:=fun{b o} e c1 c2=>by
   cases q:H b with
   |none=>rfl
   |some u=>
    rcases hA b (by rw[q];simp)with⟨rfl,_⟩|⟨p,hp,rfl⟩
    ·rw[ha]at e;cases e;exact absurd rfl c2
    ·rw[(hT p hp).2]at e;cases e;exact absurd rfl c1
  have noD:∀{b:Addr}{o:Obj}{es:Array DictEntry}{ep:Nat},s₁.heap.get? b=some o->o.data=.dict es ep->H b=none:=fun{b o es ep} e d=>by
   cases q:H b with
   |none=>rfl
   |some u=>
    rcases hA b (by rw[q];simp)with⟨rfl,_⟩|⟨p,hp,rfl⟩
    ·rw[ha]at e;cases e;cases d
    ·rw[(hT p hp).2]at e;cases e;cases d
  have nsK:∀{b:Addr}{m:Str->Option tx},s₁.heap.Ns b m->(gl s₁.heap H).Ns b m:=fun{b m}⟨o,es,ep,e,d,r⟩=>⟨o,es,ep,base_of e (noD e d),d,r⟩
  have hKb:K.In (gl s₁.heap H):=fun b o e=>base_of (KX b o e) (by
   cases q:H b with
   |none=>rfl
   |some u=>rw[hK b (by rw[q];simp)]at e;cases e)
  have hBb:BM mg (gl s₁.heap H):=by
   obtain⟨bm,ob,b1,b2,b3,b4,b5,b6⟩:=hB
   exact⟨bm,ob,b1,b2,base_of b3 (noA b3 (by rw[b4];intro z;cases z) (by rw[b4];intro z;exact absurd (Ri z) (by decide))),b4,b5,b6⟩
  have hCb:∀q∈tabs,Nf (gl s₁.heap H) q.1 q.2:=fun q hq=>by
   obtain⟨o,vs,file,tf,flags,tg,inF,text,tt,e1,e2,r⟩:=(hT q hq).1
   exact⟨o,vs,file,tf,flags,tg,inF,text,tt,base_of e1 (noA e1 (by rw[e2];intro z;cases z) (by rw[e2];intro z;exact absurd (Ri z) (by decide))),e2,r⟩
  have hM:Mod K mg (gl s₁.heap H):=⟨hKb,nsK hns,⟨mb,nsK hb,hbb⟩,let ⟨mc,h1,h2⟩:=hlim;⟨mc,nsK h1,h2⟩⟩
  have e0:iY P w K mg (gl s₁.heap H) callerA [] s₁ H:=⟨rfl,hM,fun b o e=>AF e,Oq (vk _ _),trivial,fun b hb=>absurd (show b∈([]:List Addr)from hb) (by simp),hok,.of_eq hg⟩
  refine Nd ((F _ hKb (nsK hns) hBb hCb).run callerA [] s₁ H ⟨[.ref a],[]⟩ [.ref a] [.ref a] _ _ hr e0 (hbind s₁ (.ref a)) (.cons rfl .nil) (hsp H hO hS)) fun r s' h=>?_
  cases r with
  |error e=>exact(hCX H e s' h).elim
  |ok fl=>
   cases fl with
   |next=>exact Ll h
   |brk=>exact Ll h
   |cont=>exact Ll h
   |ret u=>
    obtain⟨v,H',os,bare,un,hok',r',q⟩:=h
    have q':v=.bl true:=q
    subst q'
    obtain rfl:u=Mj true:=r'
    have all:∀b o,s₁.heap.get? b=some o->s'.heap.get? b=some o\/∃q∈tabs,q.2=b/\∃more,s'.heap.get? b=some (Rf more):=fun b o e=>by
     cases q:H b with
     |none=>exact .inl (un.keep b o e q (by intro z;exact absurd (show b∈([]:List Addr)from z) (by simp)) (by simp))
     |some u=>
      rcases hA b (by rw[q];simp)with⟨rfl,ob,xs,z⟩|⟨p,hp,rfl⟩
      ·have z2:=un.frzs b ob _ z
       obtain⟨e1,_⟩:=hok b _ z
       obtain⟨e2,_⟩:=hok' b _ z2
       rw[e]at e1;cases e1
       exact .inl e2
      ·obtain⟨more,z2⟩:=un.tbls p.2 _ (hO p hp)
       exact .inr ⟨p,hp,rfl,_,hok' p.2 _ z2⟩
    refine⟨rfl,⟨fun b o e=>?_,fun b o e=>?_⟩,os,bare⟩
    ·rcases all b o e with z|⟨p,hp,rfl,more,z⟩
     ·exact .inl z
     ·have e2:=(hT p hp).2
      rw[e]at e2;cases e2
      exact .inr (.inl ⟨((hT p hp).1.tab (hT p hp).2).isCodeTable,rfl,#[],more,rfl,by rw[Array.empty_append];exact z⟩)
    ·rcases all b o e with z|⟨p,hp,rfl,more,z⟩
     ·exact⟨_,z⟩
     ·exact⟨_,z⟩
 cases hk:K.lookup a with
 |some o=>
  have e:=KX a o hk
  rw[ha]at e
  cases e
  refine core (fun b=>if b∈tabs.map (·.2)then some (.tbl #[])else none) (fun q hq=>if_pos (LC.mpr ⟨q,hq,rfl⟩)) (.inr ⟨_,vs.toArray,_,hk,rfl,rfl,rfl,by rw[Ks,lenV];exact hl,by simpa using rv⟩) (fun b u z=>?_) (fun b z=>?_) fun b z=>?_
  ·by_cases hb:b∈tabs.map (·.2)
   ·have z':=(if_pos hb).symm.trans z
    cases z'
    obtain⟨q,hq,rfl⟩:=LC.mp hb
    exact(hT q hq).2
   ·have z':=(if_neg hb).symm.trans z
    cases z'
  ·by_cases hb:b∈tabs.map (·.2)
   ·obtain⟨q,hq,e⟩:=LC.mp hb
    exact .inr ⟨q,hq,e⟩
   ·exact absurd (if_neg hb) z
  ·by_cases hb:b∈tabs.map (·.2)
   ·obtain⟨q,hq,rfl⟩:=LC.mp hb
    exact tabK q hq
   ·exact absurd (if_neg hb) z
 |none=>
  refine core (fun b=>if b=a then some (.frz {cls:=.type "list",data:=.seq vs.toArray} (.lst (ns.map V.int)))else if b∈tabs.map (·.2)then some (.tbl #[])else none)
   (fun q hq=>by show(if q.2=a then _ else _)=_;rw[if_neg (tabA q hq),if_pos (LC.mpr ⟨q,hq,rfl⟩)]) (.inl (.inr ⟨{cls:=.type "list",data:=.seq vs.toArray},if_pos rfl⟩)) (fun b u z=>?_) (fun b z=>?_) fun b z=>?_
  ·by_cases hb:b=a
   ·have z':=(if_pos hb).symm.trans z
    cases z'
    subst hb
    exact⟨ha,by rw[pz];exact hl,vs,_,rv,ha⟩
   ·have z':(if b∈tabs.map (·.2)then some (HO.tbl #[])else none)=some u:=(if_neg hb).symm.trans z
    by_cases hb2:b∈tabs.map (·.2)
    ·rw[if_pos hb2]at z';cases z'
     obtain⟨q,hq,rfl⟩:=LC.mp hb2
     exact(hT q hq).2
    ·rw[if_neg hb2]at z';cases z'
  ·by_cases hb:b=a
   ·exact .inl ⟨hb,_,_,if_pos hb⟩
   ·by_cases hb2:b∈tabs.map (·.2)
    ·obtain⟨q,hq,e⟩:=LC.mp hb2
     exact .inr ⟨q,hq,e⟩
    ·exact absurd ((if_neg hb).trans (if_neg hb2)) z
  ·by_cases hb:b=a
   ·rw[hb];exact hk
   ·by_cases hb2:b∈tabs.map (·.2)
    ·obtain⟨q,hq,rfl⟩:=LC.mp hb2
     exact tabK q hq
    ·exact absurd ((if_neg hb).trans (if_neg hb2)) z
theorem yX {l:W.OpenLaw}{n k:Nat}{q:KI}{loose:List Str}{XP:(Str->Option tx)->Heap->Prop}{YP:Lp->Heap->Prop}{d:DefRec}{K:Params->pv}{CX:Lp->CXT}{x:Str}{names:List Str}
  (hn:l.most=some n)(hn2:n<=sizeLine)(hdf:d.params.defaults=[])(hr:bu k callerA)
  (hY:∀(w:Lp)(h:Heap),YP w h->(K w.params).In h)
  (hq:∀y∈names,((PL q).find? fun e=>e.name==y).isSome=true)
  (F:∀(w:Lp)(mg:Str->Option tx)(fa:Addr)(h:Heap),(K w.params).In h->h.Ns mainGlobals mg->mg d.name=some (.ref fa)->
   ∃(fd:Kz)(tabs:List (Addr×Addr))(sp:Sp),(∀(s:Km)(u:tx),RL s fd ⟨[u],[]⟩ [(x,u)])/\Rh (K w.params)=true/\(∀t∈tabs,∃y∈names,NW (K w.params) y=some t)/\
    (∀base:Heap,(K w.params).In base->base.Ns mainGlobals mg->BM mg base->(∀t∈tabs,Nf base t.1 t.2)->aV l.prog w (K w.params) mg base (CX w) k fa fd [x] sp)/\
    ∀(H:Hp)(a:Addr)(ns:List Int),ns.length<=n->(∀t∈tabs,H t.2=some (.tbl #[]))->SqL (K w.params) H a (ns.map V.int)->sp [.ref a] H (fun v _=>v=.bl true) fun _ _ _=>False)
  (hCX:∀(w:Lp)(H:Hp)(s:Km)(e:tx)(s':Km),CX w [] H s (fun _ _ _=>False) e s'->False):
  W.WalkO q loose XP YP l.row.toRowW d [] (fun f vs=>RG f vs):=by
 refine Att.attach_call hn hdf fun w s₀ s₁ mg mb fa o pm cd doc a vs ns G Y ho hd hcd hmg hobj hints hlen hg=>?_
 have KX:=hY w _ Y
 obtain⟨fd,tabs,sp,hb,hKT,htabs,hF,hsp⟩:=F w mg fa _ KX G.T.g hmg
 refine vy (tabs:=tabs) KX G.T.g G.T.b G.T.builtins G.T.nolimit hg G.T.bmain (fun t ht=>?_) hKT hobj hints (KN hlen hn2) hr hF hb (fun H hO hS=>hsp H a ns hlen hO hS) fun H e s'=>hCX w H s₁ e s'
 obtain⟨y,hy,e⟩:=htabs t ht
 obtain⟨dd,hdd⟩:=Lk.mp (hq y hy)
 exact W.tab_of G.T KX hdd e
section
variable {X:Cx}
theorem SPM.unwish {E:tx->Km->Prop}{pins:List (Addr×Obj)}{D:lT}{f:Flow}{s':Km}(h:SPM (X.wish E) pins D f s'):SPM X pins D f s':=by
 cases f with
 |next=>obtain⟨σ',H',I,q⟩:=h;exact⟨σ',H',I.unwish,q⟩
 |brk=>exact h
 |cont=>exact h
 |ret u=>obtain⟨v,σ',H',I,r,q⟩:=h;exact⟨v,σ',H',I.unwish,r,q⟩
theorem QMs.nox {st:List Stmt}{t:TSM}(h:QMs X.nox st t):QMs X st t:=⟨fun pins s σ H D I hw=>
 KU (h.out pins s σ H D (I.wish _) hw) (fun _ _ q=>SPM.unwish q) fun _ _ z=>Ll z⟩
theorem fz.mono {P:KI}{w:Lp}{K:pv}{mg:Str->Option tx}{base:Heap}{j k:Nat}{t:cX}{sp:Sp}(F:fz P w K mg base j t sp)(h:j<=k):fz P w K mg base k t sp:=
 ⟨fun A outer s H f cs us vs cvs Q E hr=>F.run A outer s H f cs us vs cvs Q E (hr.mono h)⟩
def mz:V->List V->Hp->VK->Prop:=fun x vs H Q=>∃a y d r H',x=.ref a/\vs=[y,d]/\Dv H a y d r H'/\Q r H'
theorem om (hu:X.A.units+1<cLine):MtR X "dict.setdefault" mz:=by
 intro pins s σ H x xs v us Q I rx rs h
 obtain⟨a,y,d,r,H',rfl,rfl,g,q⟩:=h
 obtain rfl:v=Kx a:=rx
 obtain⟨uy,ud,rfl,ry,rd⟩:=uj rs
 rcases g with⟨g,rfl⟩|⟨g,p,rfl⟩
 ·rcases g with⟨kvs,k,e,rfl,l⟩|⟨kvs,k,b,e,rfl,eb,l⟩
  ·obtain⟨z,hd,vs,rel,dd⟩:=iH I.hok e
   obtain⟨w',hw,rw'⟩:=cA.some_of (v:=r) (o:=valueAt vs k) (by rw[l];exact rel.val k)
   exact OJ LG dd.typeIs MG (MD _ _ _) (SW (bY X.prog X.w) a (iN ry) hd ud)
    ⟨vs,dd,by rw[<-rel.length];exact z,(fun v' hv'=>by rw[hw]at hv';cases hv';exact⟨r,H',I.tok _,rw',q⟩),(fun hn=>by rw[hw]at hn;cases hn)⟩
  ·cases (show uy=Kx b from ry)
   obtain⟨z,hd,xs,rel,dd⟩:=jS I.hok e
   obtain⟨w',hw,rw'⟩:=cA.some_of (v:=r) (o:=(atKey xs k).map (·.2)) (by rw[l];exact rel.val k)
   obtain⟨pp,hp,hp2⟩:=Qs.mp hw
   refine LF LG dd.typeIs MG ?_ (MD _ _ _)
   unfold NC.«dict.setdefault»
   refine cW ?_
   unfold OM
   refine cW (Sd dd.typeIs ?_)
   show wpAny _ _ (pure (a,Kx b,some ud)) _ _ s
   refine Ko ?_
   show wpAny _ _ (if (a==sysModules)=true then _ else(dictSetDefault a (.ref b) ud>>=_)) _ _ s
   rw[if_neg (by rw[hd];exact KF)]
   refine cW (fg (MY hu) (gz I.hok eb) dd (fun p' hp'=>?_) (fun hn=>?_) (by rw[<-Paired.length rel];exact z))
   ·rw[hp]at hp';cases hp'
    exact Ko ⟨_,rfl,⟨r,H',I.tok _,by rw[hp2];exact rw',q⟩⟩
   ·rw[hp]at hn;cases hn
 ·rcases g with⟨kvs,k,e,rfl,l⟩|⟨kvs,k,b,e,rfl,eb,l⟩
  ·rcases p with⟨kvs',k',e',ey,lz,rfl⟩|⟨kvs',k',b',e',ey,_⟩
   ·have ek:k=k':=by cases k<;>cases k'<;>first|(cases ey;rfl)|cases ey
    subst ek
    obtain⟨z,hd,vs,rel,dd⟩:=Ad I.hok e'
    have ee:kvs=kvs':=by
     rcases e with e|⟨o,e⟩
     ·rw[e']at e;cases e;rfl
     ·rw[e']at e;cases e
    subst ee
    have hn:valueAt vs k=none:=cA.none_of (by rw[l];exact rel.val k)
    refine OJ LG dd.typeIs MG (MD _ _ _) (SW (bY X.prog X.w) a (iN ry) hd ud)
     ⟨vs,dd,by rw[<-rel.length];exact z,(fun v' hv'=>by rw[hn]at hv';cases hv'),fun _ h' dd' hs=>?_⟩
    have he:∃q,h'.get? a=some q:=let ⟨q,_,_,hq,_⟩:=dd';⟨q,hq⟩
    have hl:(cv kvs k r).length<=sizeLine:=by have:=eJ kvs k r;omega
    exact⟨r,_,jL I (by rw[e'];exact Mc) hs he (wL hl hd (rel.put k rd) dd'),rd,q⟩
   ·cases k<;>cases ey
  ·rcases p with⟨kvs',k',e',ey,_⟩|⟨kvs',k',b',e',ey,eb',lz,rfl⟩
   ·cases k'<;>cases ey
   ·cases ey
    have ek:k=k':=iB (HO.tup.inj (KG (eb.symm.trans eb')))
    subst ek
    cases (show uy=Kx b from ry)
    obtain⟨z,hd,xs,rel,dd⟩:=ux I.hok e'
    have ee:kvs=kvs':=by
     rcases e with e|⟨o,e⟩
     ·rw[e']at e;cases e;rfl
     ·rw[e']at e;cases e
    subst ee
    have hn:atKey xs k=none:=by
     have:=cA.none_of (o:=(atKey xs k).map (·.2)) (by rw[l];exact rel.val k)
     exact Option.map_eq_none_iff.mp this
    refine LF LG dd.typeIs MG ?_ (MD _ _ _)
    unfold NC.«dict.setdefault»
    refine cW ?_
    unfold OM
    refine cW (Sd dd.typeIs ?_)
    show wpAny _ _ (pure (a,Kx b,some ud)) _ _ s
    refine Ko ?_
    show wpAny _ _ (if (a==sysModules)=true then _ else(dictSetDefault a (.ref b) ud>>=_)) _ _ s
    rw[if_neg (by rw[hd];exact KF)]
    refine cW (fg (MY hu) (gz I.hok eb) dd (fun p' hp'=>?_) (fun _ h' dd' hs=>?_) (by rw[<-Paired.length rel];exact z))
    ·rw[hn]at hp';cases hp'
    ·obtain⟨q',es,ep,hq,h2,h3,h4,_,h5⟩:=dd'
     have hl:(cv kvs k r).length<=sizeLine:=by have:=eJ kvs k r;omega
     refine Ko ⟨_,rfl,⟨r,_,jL (ob:=.dT (cv kvs k r)) I (by rw[e'];exact Mc) hs ⟨q',hq⟩ ⟨hl,hd,_,(rel.put k eb rd).keeps fun c ys ec=>?_,q',es,ep,hq,h2,h3,h4,h5⟩,rd,q⟩⟩
     rw[aC (bN ec e' (fun z=>nomatch z))]
     exact ec
def Its (z:Str):It:=⟨fun i _=>i<z.length,fun i H x H'=>H'=H/\∃c,z.cps[i]?=some c/\x=.str ⟨#[c]⟩,fun i _=>z.length<=i⟩
theorem zr {P:KI}{w:Lp}{K:pv}{tg:Expr}(z:Str)(t:Tok)(it:Addr):ju P w K tg (Its z) [it] it (fun i h=>h.IsStrIter it "str_ascii_iterator" z t i)where
 mem:=by simp
 obj:=fun i h st b hb=>by
  have e:b=it:=by simpa using hb
  subst e
  obtain⟨o,e,c,d⟩:=st
  exact⟨o,e,fun v z=>by rw[d]at z;cases z⟩
 keep:=fun i h h' st k=>let ⟨o,ho,r⟩:=st;⟨o,k it (by simp) o ho,r⟩
 item:=by
  intro X hP hw hK hc i pins s σ H E I hf st hg
  subst hP hw hK
  obtain⟨f0,f1,f2,f3,f4,f5⟩:=hf it (by simp)
  have hi:i<z.cps.size:=hg
  refine wpAny_pyNext_ascii_item st (c:=z.cps[i]) (Mz hi) fun h' st' sb=>?_
  have I1:Inv X pins σ H {s with heap:=h',toks:=s.toks+1}:=I.turned (t':=s.toks+1) (fun b o hb e=>(sb.2 b hb).trans e) f0 f1 f3 f4 f5
  obtain⟨o,e,c,d⟩:=id st'
  exact⟨_,rfl,jR (s:={s with heap:=h',toks:=s.toks+1}) e c d (by decide) ⟨.str ⟨#[z.cps[i]]⟩,H,I1,⟨_,rfl⟩,⟨rfl,_,Mz hi,rfl⟩,st',fun b hb=>(hf b hb).1⟩⟩
 done:=by
  intro X hP hw hK hc i pins s σ H E I hf st hg
  subst hP hw hK
  obtain⟨f0,f1,f2,f3,f4,f5⟩:=hf it (by simp)
  exact wpAny_pyNext_ascii_end (I.ok.hd hc) st (Od (show z.cps.size<=i from hg)) fun h' eb=>⟨rfl,I.turned (t':=s.toks) (fun b o hb e=>eb b o hb e) f0 f1 f3 f4 f5⟩
 self:=fun A i s Q E st h=>by
  refine Tt st.typeIs PJ (LF PJ st.typeIs F.entry_str_ascii_iterator_iter ?_ (F.args_str_ascii_iterator_iter_1 _))
  show wpAny _ _ (ret (.ref it)) _ _ s
  exact Ko ⟨_,rfl,"str_ascii_iterator",_,st.typeIs,F.slot_str_ascii_iterator_next.lookup,h⟩
variable {a:Expr}{ta:TE}{tg:Expr}
def eO (K:pv)(tl:TE):TI:=fun σ H R=>tl σ H fun x H1=>match x with
 |.str z=>z.cps.all (·<128)=true/\R (Its z) H1
 |x=>∃a,x=.ref a/\(((∃xs,SqL K H1 a xs)/\R (Itl K a) H1)\/((∃xs,SqT K H1 a xs)/\R (Itt K a) H1))
theorem ef (h:QE X a ta):QI X tg a (eO X.K ta):=⟨fun pins s σ H R I hw=>by
 refine thn (h.out pins s σ H _ I hw) fun v s1 ⟨x,H1,I1,r1,q1⟩=>?_
 cases x with
 |str z=>
  obtain⟨t,rfl⟩:=r1
  refine wpAny_pyIter_ascii q1.1 ?_
  refine⟨s1.heap.objs.size,[s1.heap.objs.size],_,_,H1,rfl,I1.kept (t':=s1.toks) fun b o e=>gV _ e,zr z t _,⟨_,Kt _ rfl,rfl,rfl⟩,fun b hb=>?_,q1.2⟩
  have e:b=s1.heap.objs.size:=by simpa using hb
  subst e
  exact I1.fpOk (Gt _) (I1.hok.fresh (Gt _))
 |ref c=>
  obtain⟨a,e,q⟩:=q1
  cases e
  cases r1
  rcases q with⟨⟨xs,hq⟩,q⟩|⟨⟨xs,hq⟩,q⟩
  ·obtain⟨its,rv,p,hz⟩:=I1.list hq
   refine PQ (qe p) ?_
   refine⟨s1.heap.objs.size,[s1.heap.objs.size],_,_,H1,rfl,I1.kept (t':=s1.toks) fun b o e=>gV _ e,vf _ _,⟨_,Kt _ rfl,rfl,rfl⟩,fun b hb=>?_,q⟩
   have e:b=s1.heap.objs.size:=by simpa using hb
   subst e
   exact I1.fpOk (Gt _) (I1.hok.fresh (Gt _))
  ·obtain⟨its,rv,p,hz⟩:=I1.tuple hq
   refine Tc (show s1.heap.IsTuple c its.toArray from p) ?_
   refine⟨s1.heap.objs.size,[s1.heap.objs.size],_,_,H1,rfl,I1.kept (t':=s1.toks) fun b o e=>gV _ e,tI _ _,⟨_,Kt _ rfl,rfl,rfl⟩,fun b hb=>?_,q⟩
   have e:b=s1.heap.objs.size:=by simpa using hb
   subst e
   exact I1.fpOk (Gt _) (I1.hok.fresh (Gt _))
 |_=>obtain⟨_,e,_⟩:=q1;cases e⟩
end
theorem Dl {J:It}{n:Nat}{it:Nat->V}{Pk:Hp->Prop}{g:TG}{tb:TS}{D:fy}{σ:St}{H:Hp}(T:da J n it Pk)(Pv:Nat->St->Hp->Prop)(h0:Pv 0 σ H)(hl:∀i σ H,i<=n->Pv i σ H->Pk H)
  (hs:∀i σ H,i<n->Pv i σ H->g (it i) σ H fun σ2 H2=>tb {D with nx:=Pv (i+1),ct:=Pv (i+1),bk:=D.nx} σ2 H2)(hd:∀σ H,Pv n σ H->D.nx σ H):
  ∃W:Nat->Nat->St->Hp->Prop,(∃m,W 0 m σ H)/\∀i m σ H,W i m σ H->
   (J.stop i H/\D.nx σ H)\/(J.go i H/\∃N:St->Hp->Prop,(∀σ' H',N σ' H'->∃m',m'<m/\W (i+1) m' σ' H')/\∀x H',J.yld i H x H'->g x σ H' fun σ2 H2=>tb {D with nx:=N,ct:=N,bk:=D.nx} σ2 H2):=by
 refine⟨fun i m σ H=>m=n- i/\i<=n/\Pv i σ H,⟨n,by simp,KS _,h0⟩,?_⟩
 rintro i m σ H ⟨rfl,hi,p⟩
 have q:=hl i σ H hi p
 by_cases hlt:i<n
 ·refine .inr ⟨T.go i H hlt q,Pv (i+1),fun σ' H' p'=>⟨n- (i+1),by omega,rfl,hlt,p'⟩,fun x H' y=>?_⟩
  obtain⟨rfl,rfl⟩:=T.yld i H x H' hlt q y
  exact hs i σ _ hlt p
 ·have e:i=n:=by omega
  subst e
  exact .inl ⟨T.stop H q,hd σ H p⟩
theorem uJ {α β:Type}(f:β->α->β)(b:β)(l:List α)(i:Nat)(x:α)(h:l[i]?=some x):(l.take (i+1)).foldl f b=f ((l.take i).foldl f b) x:=by
 rw[Tb,h];simp
theorem fX {α β:Type}{f:α->β}{l:List α}{i:Nat}{x:β}(h:(l.map f)[i]?=some x):∃a,l[i]?=some a/\x=f a:=by
 rw[KL]at h
 cases e:l[i]? with
 |none=>rw[e]at h;cases h
 |some a=>rw[e]at h;cases h;exact⟨a,rfl,rfl⟩
theorem dQ.keep {H H':Hp}{f:Addr}{t:cX}{cs:List Addr}{cvs:List V}(k:∀b φ,H b=some (.ext φ)->H' b=some (.ext φ))(c:dQ H f t cs cvs):dQ H' f t cs cvs:=by
 obtain⟨⟨a,h1,h2⟩,h3⟩:=c
 refine⟨⟨a,k _ _ h1,k _ _ h2⟩,?_⟩
 clear h1 h2
 induction h3 with
 |nil=>exact .nil
 |cons r t ih=>exact .cons (k _ _ r) ih
theorem nP (k:List Key):(k.map kV).all jy=true:=by
 rw[List.all_map,LD]
 intro x _
 cases x<;>rfl
def bC:Key->Sl
 |.inl i=>.int i
 |.inr z=>.str z
theorem fM {K:pv}{H:Hp}:∀k:List Key,DatVs K H (k.map kV) (k.map bC)
 |[]=>.nil
 |.inl i::r=>.cons (.int i) (fM r)
 |.inr z::r=>.cons (.str z) (fM r)
theorem dW {K:pv}{H:Hp}{a:Addr}{k:List Key}(h:H a=some (.tup (k.map kV))):eG K H (.ref a) (.tuple (k.map bC)):=.tup (SqT.of h) (fM k)
theorem dL:∀k l:List Key,OC (k.map bC) (l.map bC)=decide (k=l)
 |[],[]=>by rfl
 |[],_::_=>by rw[decide_eq_false (by simp)];rfl
 |_::_,[]=>by rw[decide_eq_false (by simp)];rfl
 |a::r,b::s=>by
  show((bC a).eqv (bC b)&&OC (r.map bC) (s.map bC))=_
  rw[dL r s]
  have e:(bC a).eqv (bC b)=decide (a=b):=by
   cases a<;>cases b
   ·rename_i i j
    show decide (i=j)=decide (Nb i=Nb j)
    simp
   ·show false=_;simp
   ·show false=_;simp
   ·rename_i i j
    show(i==j)=decide ((MW i:Key)=MW j)
    by_cases h:i=j<;>simp[h]
  rw[e]
  by_cases h1:a=b<;>by_cases h2:r=s<;>simp[h1,h2]
def gI:Key->Bool
 |.inl _=>true
 |.inr z=>Oe z
theorem bZ:∀{k:List Key},k.all gI=true->MT (k.map bC)=true
 |[],_=>rfl
 |.inl i::r,h=>bZ (k:=r) (by rw[MJ]at h;exact h)
 |.inr z::r,h=>by
  rw[MJ,Li]at h
  show(Oe z&&MT (r.map bC))=true
  rw[show Oe z=true from h.1,bZ h.2];rfl
theorem eE:∀k:List Key,LJ (k.map bC)=0
 |[]=>rfl
 |.inl i::r=>by show max 0 (LJ (r.map bC))=0;rw[eE r];rfl
 |.inr i::r=>by show max 0 (LJ (r.map bC))=0;rw[eE r];rfl
theorem tc1 {i:Nat}{σ:St}{x:V}{H:Hp}{R:List V->Hp->Prop}(e:σ[i]?=some (some x))(h:R [x] H):ai (af i) av σ H R:=by
 unfold ai av af
 rw[e];exact h
theorem yr (k:List Key):(Ng (k.map bC)).depth<=150:=by show LJ (k.map bC)+1<=150;rw[eE];decide
theorem vp {k l:List Key}(h:(!(Ng (k.map bC)).eqv (.tuple (l.map bC)))=true):k≠l:=fun e=>by
 have h:(!PyData.eqvAll (k.map bC) (l.map bC))=true:=h
 rw[dL,decide_eq_true e]at h;cases h
theorem Eb {k l:List Key}(h:(!(Ng (k.map bC)).eqv (.tuple (l.map bC)))=false):k=l:=by
 have h:(!PyData.eqvAll (k.map bC) (l.map bC))=false:=h
 rw[dL]at h
 simpa using h
def nK (K:pv)(ns:List Str):Bool:=decide ((ns.map fun n=>(NW K n).map (·.2)).Nodup)
theorem yQ {l:List Addr}(h:(l.map some).Nodup):l.Nodup:=Ug some (fun a b h e=>h (congrArg some e)) h
end L2
namespace HT
open PySem PyProof.Rows
theorem sub_tuple_dict:isSubtype (.type "tuple") (.type "dict")=pure false:=by rw[Nj];kernel_rfl
theorem nk:isSubtype (.type "dict") (.type "tuple")=pure false:=by rw[Nj];kernel_rfl
theorem tW (l b:Addr)(o:Obj)(hc:o.cls=.type "dict")(o2:Obj)(hc2:o2.cls=.type "tuple"):
  Meets (NC.«dict.__eq__» ⟨[.ref l,.ref b],[]⟩) (fun _ R s=>s.heap.get? l=some o/\s.heap.get? b=some o2/\R (.ok (.ret .notImplemented)) s):=
 .of_wp fun prog w A R s h=>by
  obtain⟨hp,g,d,tk,os⟩:=s;obtain⟨hl,hb,h⟩:=h;obtain⟨cls,dd,data,sl⟩:=o;obtain⟨cls2,dd2,data2,sl2⟩:=o2
  simp only at hc hc2;subst hc hc2
  have f1:=sub_tuple_dict;wp_walk using OH hl,OH hb;exact⟨_,rfl,h⟩
theorem rG (l b:Addr)(o:Obj)(hc:o.cls=.type "tuple")(o2:Obj)(hc2:o2.cls=.type "dict"):
  Meets (NC.«tuple.__eq__» ⟨[.ref l,.ref b],[]⟩) (fun _ R s=>s.heap.get? l=some o/\s.heap.get? b=some o2/\R (.ok (.ret .notImplemented)) s):=
 .of_wp fun prog w A R s h=>by
  obtain⟨hp,g,d,tk,os⟩:=s;obtain⟨hl,hb,h⟩:=h;obtain⟨cls,dd,data,sl⟩:=o;obtain⟨cls2,dd2,data2,sl2⟩:=o2
  simp only at hc hc2;subst hc hc2
  have f1:=nk;wp_walk using OH hl,OH hb;exact⟨_,rfl,h⟩
end HT
namespace L2
open PySem PySem.Spec PyProof.Rows
section
variable {X:Cx}
def zv (K:pv):R2:=fun x y H Q=>∃a b ys,x=.ref a/\y=.ref b/\((∃kvs,H a=some (.dK kvs))\/∃kvs,H a=some (.dT kvs))/\SqT K H b ys/\Q (.bl false) H
theorem Bn (hu:X.A.units<cLine):OpR X (compareOp .Eq) (zv X.K):=by
 intro pins s σ H x y v u Q I rx ry h
 obtain⟨a,b,ys,rfl,rfl,ha,hb,q⟩:=h
 cases rx
 cases ry
 obtain⟨its,_,p1,_⟩:=I.tuple hb
 obtain⟨o2,ho2,hc2,_⟩:=id p1
 obtain⟨o,ho,hc⟩:∃o,s.heap.get? a=some o/\o.cls=.type "dict":=by
  rcases ha with⟨kvs,e⟩|⟨kvs,e⟩
  ·obtain⟨_,_,_,_,o,_,_,h1,h2,_⟩:=(show bj X.prog X.w H s.heap a (.dK kvs)from I.hok a _ e)
   exact⟨o,h1,h2.1⟩
  ·obtain⟨_,_,_,_,o,_,_,h1,h2,_⟩:=(show bj X.prog X.w H s.heap a (.dT kvs)from I.hok a _ e)
   exact⟨o,h1,h2.1⟩
 have hne:a≠b:=fun e=>by
  subst e
  rw[ho]at ho2;cases ho2
  rw[hc]at hc2;exact absurd hc2 (by simp)
 show wpAny _ _ (richCompare .Eq (.ref a) (.ref b)) _ _ s
 exact SeqAt.rc_eq_decline_or (k:=false) ⟨_,ho,hc⟩ ⟨_,ho2,hc2⟩ (by decide) F.sub_tuple_dict F.slot_dict_eq RW
  (fun _ hq=>Tz F.slot_dict_eq ⟨_,ho,hc⟩ F.entry_dict_eq (F.args_dict_eq_2 _ _) (HT.tW a b o hc o2 hc2) ⟨ho,ho2,hq⟩)
  (fun _ hq=>Tz RW ⟨_,ho2,hc2⟩ F.entry_tuple_eq (F.args_tuple_eq_2 _ _) (HT.rG b a o2 hc2 o hc) ⟨ho2,ho,hq⟩)
  (fun _ hq=>wpAny_isSame_ref_other hne ho ho2 (by rw[hc];simp) hq) (.inr hu) ⟨.bl false,H,I,rfl,q⟩
def bw (K:pv):R2:=fun x y H Q=>match x,y with
 |.ref a,.ref b=>BF K (.ref a) (.ref b) H Q\/uu K (.ref a) (.ref b) H Q\/zv K (.ref a) (.ref b) H Q
 |.ref a,y=>uu K (.ref a) y H Q
 |x,.ref b=>uu K x (.ref b) H Q
 |x,y=>mEq x y H Q
theorem bB (hu:X.A.units+150<cLine):OpR X (compareOp .Eq) (bw X.K):=((En (by omega)).or ((Ep hu).or ((Bn (by omega)).or oEq))).imp fun x y H Q q=>by
 unfold bw at q
 split at q
 ·exact q.elim .inl fun z=>z.elim (fun z=>.inr (.inl z)) fun z=>.inr (.inr (.inl z))
 ·exact .inr (.inl q)
 ·exact .inr (.inl q)
 ·exact .inr (.inr (.inr q))
end
end L2
namespace HT
open PySem PyProof.Rows
theorem lu:typeLookup (.type "tuple") "__reversed__"=pure none:=by rw[MN,LK];kernel_rfl
theorem nJ:Manifest.owners.lookup (String.ofList ['d','e','s','r','e','v','e','r'].reverse)=some Manifest.sig_reversed:=by kernel_rfl
theorem dH:Slot "reversed" "__next__" "reversed.__next__":=
 .of (owner:="reversed") (n:="__next__") (by rw[MN,LK];kernel_rfl) (by decide+kernel) (by decide+kernel) (by decide+kernel)
  (by first|exact .inl (by decide+kernel)|exact .inr (by decide+kernel)) (by rw[Nj];kernel_rfl)
theorem iw:entryFor table "reversed.__next__"=some NC.«reversed.__next__»:=entryFor_of_tree (by kernel_rfl)
theorem jc (a:tx):argsOk "reversed.__next__" ⟨[a],[]⟩:=by
 unfold argsOk;rw[signature?_of (id:="reversed.__next__") (n:=['_','_','t','x','e','n','_','_']) (o:=['d','e','s','r','e','v','e','r']) (by kernel_rfl) nJ];kernel_rfl
theorem jb:Slot "reversed" "__iter__" "reversed.__iter__":=
 .of (owner:="reversed") (n:="__iter__") (by rw[MN,LK];kernel_rfl) (by decide+kernel) (by decide+kernel) (by decide+kernel)
  (by first|exact .inl (by decide+kernel)|exact .inr (by decide+kernel)) (by rw[Nj];kernel_rfl)
theorem oK (a:tx):argsOk "reversed.__iter__" ⟨[a],[]⟩:=by
 unfold argsOk;rw[signature?_of (id:="reversed.__iter__") (n:=['_','_','r','e','t','i','_','_']) (o:=['d','e','s','r','e','v','e','r']) (by kernel_rfl) nJ];kernel_rfl
theorem mT:entryFor table "reversed.__iter__"=some NC.«dict_keyiterator.__iter__»:=
 entryFor_alias (id':="dict_keyiterator.__iter__") (by kernel_rfl) (by first|rfl|decide+kernel|(unfold String.splitOn;simp+decide [String.splitOnAux])) (by decide+kernel) (by kernel_rfl)
theorem oJ:Slot "reversed" "__init__" "object.__init__":=
 .of (owner:="object") (n:="__init__") (by rw[MN,LK];kernel_rfl) (by decide+kernel) (by decide+kernel) (by decide+kernel)
  (by first|exact .inl (by decide+kernel)|exact .inr (by decide+kernel)) (by rw[Nj];kernel_rfl)
theorem tT:TypeCalled "reversed" "reversed.__new__" "object.__init__":=
 ⟨by decide+kernel,PySem.F.create_reversed,⟨_,_,PySem.F.mro_reversed⟩,PySem.F.made_reversed,by decide+kernel,PySem.F.sub_reversed_self,oJ⟩
theorem qU:isSubtype (.type "tuple") (.type "dict")=pure false:=by rw[Nj];kernel_rfl
def rq (t:Addr)(i:Int):Obj:={cls:=.type "reversed",data:=.fields #[.ref t,rawInt i]}
theorem oM (t:Addr)(items:Array tx):Meets (NC.«reversed.__new__» ⟨[.type "reversed",.ref t],[]⟩) (fun _ R s=>QL s.heap t items/\(items.size:Int)<2^63/\
  R (.ok (.ret (.ref s.heap.objs.size))) {s with heap:=s.heap.push (rq t ((items.size:Int)- 1)),toks:=s.toks+1+1}):=
 .of_wp fun prog w A R s h=>by
  obtain⟨ht,hz,h⟩:=h
  unfold NC.«reversed.__new__»
  refine cW (NB (newClass_reversed _) ?_)
  try dsimp only
  refine cW (NB (a:=()) (by first|rfl|kernel_rfl) ?_)
  refine cW (NB (a:=()) (by first|rfl|kernel_rfl) ?_)
  try dsimp only
  refine cW (ML ht.typeIs lu ?_)
  try dsimp only
  refine cW (cW (Ot (T:="tuple") (b:=false) ht.typeIs qU ?_))
  rw[if_neg (by simp)]
  refine cW (ML (r:=some (.builtin "tuple.__getitem__")) ht.typeIs slot_tuple_getitem.lookup ?_)
  show wpAny _ _ (if (["tuple.__getitem__","str.__getitem__","bytes.__getitem__","bytearray.__getitem__","memoryview.__getitem__","numpy.ndarray.__getitem__","sqlite3.Row.__getitem__"].contains "tuple.__getitem__")=true then _ else _) _ _ s
  rw[if_pos (by decide)]
  refine Ko ?_
  rw[if_neg (by simp)]
  refine cW (len_tuple ht hz ?_)
  refine cW (NB (a:=some ((items.size:Nat):Int)) rfl ?_)
  show wpAny _ _ (newObj (.type "reversed") (.fields #[.ref t,rawInt ((items.size:Int)- 1)])>>=_) _ _ _
  exact cW (LY (Ko ⟨_,rfl,h⟩))
section
variable {prog:KI}{w:Lp}{A:Lh}{E:tx->Km->Prop}{s:Km}
theorem je {t:Addr}{items:Array tx}{Q:tx->Km->Prop}(ht:QL s.heap t items)(hz:(items.size:Int)<2^63)
  (h:Q (.ref s.heap.objs.size) {s with heap:=s.heap.push (rq t ((items.size:Int)- 1)),toks:=s.toks+1+1}):wpAny (model prog w) A (call (.type "reversed") [.ref t]) Q E s:=
 callType_new tT (by decide) (PySem.F.typeCall_reversed_1 _) (PySem.F.newCall_reversed_1 _) (fun obj=>PySem.F.args_object_init_2 obj _) PySem.F.entry_reversed_new (oM t items) ⟨ht,hz,⟨_,Kt _ rfl,rfl⟩,h⟩
def gK (h:Heap)(a t:Addr)(i:Int):Prop:=h.get? a=some (rq t i)
theorem gK.typeIs {a t:Addr}{i:Int}(x:gK s.heap a t i):s.TypeIs (.ref a) "reversed":=⟨_,x,rfl⟩
theorem oN {it t:Addr}{i:Nat}{items:Array tx}{x:tx}{Q:Option tx->Km->Prop}(hit:gK s.heap it t (i:Int))(ht:QL s.heap t items)(hz:(items.size:Int)<2^63)(hx:items[i]?=some x)
  (hQ:∀h',gK h' it t ((i:Int)- 1)->Mw it s.heap h'->Q (some x) {s with heap:=h',toks:=s.toks+1}):wpAny (model prog w) A (pyNext (.ref it)) Q E s:=by
 have hi:i<items.size:=by
  rcases Nat.lt_or_ge i items.size with h|h
  ·exact h
  ·rw[Od h]at hx;cases hx
 unfold pyNext
 refine cW (NL (Lz (name:=LM "__next__") hit.typeIs dH
  (LF dH hit.typeIs iw ?_ (jc _))))
 unfold NC.«reversed.__next__»
 refine cW (NB (a:=(Kx it,[])) rfl ?_)
 try dsimp only
 refine cW (Lf hit rfl (x:=.ref t) rfl ?_)
 refine cW (Lf hit rfl (x:=rawInt (i:Int)) rfl ?_)
 show wpAny _ _ (if (i:Int)<0 then _ else _) _ _ s
 rw[if_neg (by omega)]
 refine cW (ML (r:=some (.builtin "tuple.__getitem__")) ht.typeIs slot_tuple_getitem.lookup ?_)
 rw[if_neg (by simp)]
 refine cW (wpAny_mkInt ?_)
 refine cW (NL (getItem_tuple (j:=i) (x:=x) ht (by omega) (by omega) ?_ hx ?_))
 ·unfold seqIndex?
  simp
  omega
 ·refine cW (Lf (s:={s with toks:=s.toks+1}) hit rfl (x:=rawInt (i:Int)) rfl ?_)
  refine cW (LO hit (by simp) fun h' y sb=>?_)
  exact Ko ⟨x,rfl,Ko (hQ h' y sb)⟩
theorem qb {it t:Addr}{Q:Option tx->Km->Prop}(hh:A.handled=none)(hit:gK s.heap it t (-1))
  (hQ:∀h',Rx it s.heap h'->Q none {s with heap:=h'}):wpAny (model prog w) A (pyNext (.ref it)) Q E s:=by
 unfold pyNext
 refine cW (NL (Lz (name:=LM "__next__") hit.typeIs dH
  (LF dH hit.typeIs iw ?_ (jc _))))
 unfold NC.«reversed.__next__»
 refine cW (NB (a:=(Kx it,[])) rfl ?_)
 try dsimp only
 refine cW (Lf hit rfl (x:=.ref t) rfl ?_)
 refine cW (Lf hit rfl (x:=rawInt (-1)) rfl ?_)
 show wpAny _ _ (if (-1:Int)<0 then _ else _) _ _ s
 rw[if_pos (by decide)]
 refine cW (ON ?_)
 refine cW (cW (LO hit (by simp) fun h1 y1 s1=>?_))
 refine LO y1 (by simp) fun h2 y2 s2=>?_
 first
 |show wpAny _ _ (newExc (.type "StopIteration") []>>=_) _ _ _
 |(refine cW ?_;show wpAny _ _ (newExc (.type "StopIteration") []>>=_) _ _ _)
 refine cW ?_
 simp only[newExc,newTuple]
 refine cW (LY ?_ (by size_fits))
 refine cW (m:=firstArgMember _ _) (NB (a:=MB) (by first|rfl|(simp only[firstArgMember];rfl)) ?_)
 refine LY ?_ (by size_fits)
 simp only[raiseNew]
 refine cW (wpAny_handled ?_)
 first|rw[show A.in1.handled=none from hh]|rw[hh]
 refine cW (Ko (wpAny_throw ?_))
 refine cW (Ot (T:="StopIteration") (b:=true) ⟨_,Kt _ rfl,rfl⟩ isSubtype_stop ?_)
 have eb:Rx it s.heap h2:=fun c o hc e=>s2.extBut _ _ hc (s1.extBut _ _ hc e)
 exact Ko (hQ _ ((eb.push _).push _))
theorem qF {it t:Addr}{i:Int}{Q:tx->Km->Prop}(hit:gK s.heap it t i)(h:Q (.ref it) s):wpAny (model prog w) A (pyIter (.ref it)) Q E s:=by
 refine Tt hit.typeIs jb (LF jb hit.typeIs mT ?_ (oK _))
 show wpAny _ _ (ret (.ref it)) _ _ s
 exact Ko ⟨_,rfl,"reversed",_,hit.typeIs,dH.lookup,h⟩
end
end HT
namespace L2
open PySem PySem.Spec PyProof.Rows
def Ei (K:pv)(a:Addr)(xs:List V):It:=
 ⟨fun i H=>SqT K H a xs/\i<xs.length,fun i H x H'=>H'=H/\xs.reverse[i]?=some x,fun i _=>xs.length<=i⟩
theorem xi {P:KI}{w:Lp}{K:pv}{tg:Expr}(a it:Addr)(xs:List V):ju P w K tg (Ei K a xs) [it] it (fun i h=>i<=xs.length/\HT.gK h it a ((xs.length:Int)- 1- i))where
 mem:=by simp
 obj:=fun i h st b hb=>by
  have e:b=it:=by simpa using hb
  subst e
  exact⟨_,st.2,fun v z=>by cases z⟩
 keep:=fun i h h' st k=>⟨st.1,k it (by simp) _ st.2⟩
 item:=by
  intro X hP hw hK hc i pins s σ H E I hf st hg
  subst hP hw hK
  obtain⟨hq,hi⟩:=hg
  obtain⟨its,rv,p,hz⟩:=I.tuple hq
  obtain⟨f0,f1,f2,f3,f4,f5⟩:=hf it (by simp)
  have hl:=rv.length
  obtain⟨x,hx⟩:∃x,xs[xs.length- 1- i]?=some x:=⟨_,If (by omega)⟩
  obtain⟨u,hu,ru⟩:=rv.get hx
  have hrx:xs.reverse[i]?=some x:=by rw[LX hi];exact hx
  have e1:(xs.length:Int)- 1- i=((xs.length- 1- i:Nat):Int):=by omega
  have st2:=st.2
  rw[e1]at st2
  refine HT.oN st2 (show QL s.heap a its.toArray from p) (by rw[Ks];rw[Mi]at hz;omega) (x:=u) (by simpa using hu) fun h' st' sb=>?_
  have I1:Inv X pins σ H {s with heap:=h',toks:=s.toks+1}:=I.turned (t':=s.toks+1) (fun b o hb e=>(sb.2 b hb).trans e) f0 f1 f3 f4 f5
  have e2:((xs.length- 1- i:Nat):Int)- 1=(xs.length:Int)- 1- ((i+1:Nat):Int):=by omega
  rw[e2]at st'
  exact⟨u,rfl,jR (s:={s with heap:=h',toks:=s.toks+1}) st' rfl rfl (by decide) ⟨x,H,I1,ru,⟨rfl,hrx⟩,⟨hi,st'⟩,fun b hb=>(hf b hb).1⟩⟩
 done:=by
  intro X hP hw hK hc i pins s σ H E I hf st hg
  subst hP hw hK
  obtain⟨f0,f1,f2,f3,f4,f5⟩:=hf it (by simp)
  have hi:xs.length<=i:=hg
  have e1:(xs.length:Int)- 1- i= -1:=by have:=st.1;omega
  have st2:=st.2
  rw[e1]at st2
  exact HT.qb (I.ok.hd hc) st2 fun h' eb=>⟨rfl,I.turned (t':=s.toks) (fun b o hb e=>eb b o hb e) f0 f1 f3 f4 f5⟩
 self:=fun A i s Q E st h=>HT.qF st.2 h
theorem kJ:bootBuiltins "reversed"=some (.type "reversed"):=by decide+kernel
section
variable {X:Cx}{a:Expr}{t:TA}{p pos:Pos}{tg:Expr}
theorem rA:∀{ns:List Int}{its:List tx},bc (ns.map V.int) its->Pc its ns
 |[],its,h=>by cases h;exact .nil
 |n::r,its,h=>by
  cases h with
  |cons h1 h2=>
   obtain⟨t,rfl⟩:=h1
   exact .cons _ _ (rA h2)
def Cf (K:pv):List V->Hp->VK->Prop:=fun xs H Q=>∃(a:Addr)(ns:List Int),xs=[.ref a]/\SqL K H a (ns.map V.int)/\Q (.int ns.sum) H
theorem JN (hc:X.calm=true):ck X (.builtin "sum") (Cf X.K):=fun pins s σ H xs us Q I r h=>by
 obtain⟨a,ns,rfl,hq,q⟩:=h
 obtain⟨u,rfl,ru⟩:=fE r
 cases ru
 obtain⟨its,rv,p,hz⟩:=I.list hq
 have hi:=rA rv
 obtain⟨ys,hy⟩:=hi.allInts.items
 have hl':s.heap.IsList a (intItems ys):=hy▸qe p
 refine sum_intListG (I.ok.hd hc) hl' fun h' tk t' hk=>?_
 have e1:ns=ys.toList.map (·.1):=by
  rw[<-nums_intItems,<-hy]
  exact(show numsOf its.toArray.toList=ns from hi.numsOf).symm
 have e2:preSum (numAt ys) ys.size=ns.sum:=by
  rw[preSum_eq,QN (by simp),e1]
 rw[e2]
 exact⟨.int ns.sum,H,I.kept (t':=tk) hk,⟨_,rfl⟩,q⟩
theorem xA:OpR X (binaryOp .FloorDiv) (rI (fun _ j=>0<j/\j<1267650600228229401496703205376) fun i j=>.int (i/j)):=opI fun i j _ _ _ _ _ hc q=>by
 have h1:(0:Int)<j:=hc.1
 have h2:j<1267650600228229401496703205376:=hc.2
 have h3:j.natAbs.log2<100:=(RQ (by omega)).mpr (Nat.lt_of_lt_of_eq (m:=1267650600228229401496703205376) (by omega) (by decide))
 exact floordiv_int (by omega) (by rw[Int.fdiv_eq_ediv_of_nonneg i (by omega)];exact q) (.inl (PyProof.noPylong_of_log2 (by omega)))
def cb:R2:=fun x y H Q=>match x,y with|.int i,.int j=>(0<j/\j<1267650600228229401496703205376)/\Q (.int (i/j)) H|_,_=>False
theorem cq:OpR X (binaryOp .FloorDiv) cb:=xA.imp fun x y H Q q=>by
 unfold cb at q
 split at q
 ·exact⟨_,_,rfl,rfl,q.1,q.2⟩
 ·exact q.elim
end
section
variable {α:Type}{l:List α}
theorem sS (h:l.length=0):l=[]:=List.length_eq_zero_iff.mp h
theorem eK (h:l.length=1):∃a0,l=[a0]:=by
 cases l with
 |nil=>simp at h
 |cons a l=>
  obtain rfl:=sS (l:=l) (by simpa using h)
  exact⟨a,rfl⟩
theorem zX (h:l.length=2):∃a0 a1,l=[a0,a1]:=by
 cases l with
 |nil=>simp at h
 |cons a l=>
  obtain⟨b0,rfl⟩:=eK (l:=l) (by simpa using h)
  exact⟨a,b0,rfl⟩
theorem tE (h:l.length=3):∃a0 a1 a2,l=[a0,a1,a2]:=by
 cases l with
 |nil=>simp at h
 |cons a l=>
  obtain⟨b0,b1,rfl⟩:=zX (l:=l) (by simpa using h)
  exact⟨a,b0,b1,rfl⟩
theorem zI (h:l.length=4):∃a0 a1 a2 a3,l=[a0,a1,a2,a3]:=by
 cases l with
 |nil=>simp at h
 |cons a l=>
  obtain⟨b0,b1,b2,rfl⟩:=tE (l:=l) (by simpa using h)
  exact⟨a,b0,b1,b2,rfl⟩
theorem zF (h:l.length=5):∃a0 a1 a2 a3 a4,l=[a0,a1,a2,a3,a4]:=by
 cases l with
 |nil=>simp at h
 |cons a l=>
  obtain⟨b0,b1,b2,b3,rfl⟩:=zI (l:=l) (by simpa using h)
  exact⟨a,b0,b1,b2,b3,rfl⟩
theorem An (h:l.length=6):∃a0 a1 a2 a3 a4 a5,l=[a0,a1,a2,a3,a4,a5]:=by
 cases l with
 |nil=>simp at h
 |cons a l=>
  obtain⟨b0,b1,b2,b3,b4,rfl⟩:=zF (l:=l) (by simpa using h)
  exact⟨a,b0,b1,b2,b3,b4,rfl⟩
theorem FG (h:l.length=7):∃a0 a1 a2 a3 a4 a5 a6,l=[a0,a1,a2,a3,a4,a5,a6]:=by
 cases l with
 |nil=>simp at h
 |cons a l=>
  obtain⟨b0,b1,b2,b3,b4,b5,rfl⟩:=An (l:=l) (by simpa using h)
  exact⟨a,b0,b1,b2,b3,b4,b5,rfl⟩
end
section
variable {X:Cx}
def zN:V->List V->Hp->VK->Prop:=fun x vs H Q=>∃a y d o,x=.ref a/\vs=[y,d]/\dc H a y o/\Q (o.getD d) H
theorem Av (hu:X.A.units+1<cLine):MtR X "dict.get" zN:=by
 intro pins s σ H x vs v us Q I rx rv h
 obtain⟨a,y,d,o,rfl,rfl,g,q⟩:=h
 obtain rfl:v=Kx a:=rx
 obtain⟨uy,ud,rfl,ry,rd⟩:=rv.two
 exact DL hu I g ry rd fun w' s' I' r'=>⟨_,H,I',r',q⟩
end
theorem bu.le {A:Lh}{m n:Nat}(h:bu m A)(d:n<=m:=by first|decide|omega):bu n A:=h.mono d
theorem scF {N P:List Str}{sc:Scope}(h1:sc.kind=.function:=by rfl)(h2:sc.isCoroutine=false:=by rfl)(h3:sc.isGenerator=false:=by rfl)(h4:N.Nodup:=by decide+kernel)(h5:N.take P.length=P:=by rfl)
 (h6:∀x∈P,sc.names.lookup x=some .local\/sc.names.lookup x=some .cell:=by decide+kernel)(h7:∀y∈sc.names,y.2≠.free:=by decide+kernel):aN N P sc:=⟨h1,h2,h3,h4,h5,h6,h7⟩
structure Fm (K:pv)(mg:Str->Option tx)(x qual:Str)(st:Stmt)(a:Addr)(d:Kz)(ps:List Str):Prop where
 f:Fun K x qual st a d
 m:mg x=some (.ref a)
 b:cy K d ps []
structure Fa (K:pv)(x qual:Str)(st:Stmt)(a:Addr)(d:Kz):Prop where
 m:NM K mainGlobals x=some (some (.ref a))
 f:Fun K x qual st a d
section
variable {P:KI}{w:Lp}{K:pv}{mg:Str->Option tx}{base h:Heap}{x qual:Str}{st:Stmt}{a:Addr}{d:Kz}{ps:List Str}
theorem aZ {oc:tx}{od an:Option Addr}{osl:Array (Option tx)}{kV doc pm cdv ct:tx}(m:NM K mainGlobals x=some (some (.ref a)))(l:K.lookup a=some ⟨oc,od,.func (Na x qual (bE st) (ba st) (aw st) .none kV doc pm an cdv ct),osl⟩)
 (c:SI K cdv qual=true)(k:NV K (.ref a)=true):Fa K x qual st a (Na x qual (bE st) (ba st) (aw st) .none kV doc pm an cdv ct):=⟨m,lJ l c k⟩
theorem Fa.code (F:Fa K x qual st a d)(X:K.In h)(G:h.Ns mainGlobals mg){z t:Addr}(ht:NW K x=some (z,t)):d.code=.ref z:=by
 obtain⟨oc,od,kV,doc,pm,an,cdv,ct,osl,e,lk,hcd⟩:=F.f.ex
 exact W.law_code X G ht (NN X G F.m) (X _ _ lk) rfl
theorem Fun.bt {p:Str}(F:Fun K x qual st a d)(hb:∀(kV doc pm:tx)(an:Option Addr)(cdv ct v:tx),bindArgs (Na x qual (bE st) (ba st) (aw st) .none kV doc pm an cdv ct) ⟨[v],[]⟩=pure [(p,v)]:=by intros;rfl)(s:Km)(v:tx):RL s d ⟨[v],[]⟩ [(p,v)]:=by
 obtain⟨oc,od,kV,doc,pm,an,cdv,ct,osl,rfl,lk,hcd⟩:=F.ex
 exact .of_eq (hb kV doc pm an cdv ct v)
theorem Fun.b0 (F:Fun K x qual st a d)(hb:∀(kV doc pm:tx)(an:Option Addr)(cdv ct:tx),bindArgs (Na x qual (bE st) (ba st) (aw st) .none kV doc pm an cdv ct) ⟨[],[]⟩=pure (MS [] []):=by intros;rfl):cy K d [] []:=F.binds fun kV doc pm an cdv ct us hl=>by
 obtain rfl:=L2.sS hl
 exact hb kV doc pm an cdv ct
theorem Fa.fm0 (F:Fa K x qual st a d)(X:K.In h)(G:h.Ns mainGlobals mg)(hb:∀(kV doc pm:tx)(an:Option Addr)(cdv ct:tx),bindArgs (Na x qual (bE st) (ba st) (aw st) .none kV doc pm an cdv ct) ⟨[],[]⟩=pure (MS [] []):=by intros;rfl):Fm K mg x qual st a d []:=⟨F.f,NN X G F.m,F.f.b0 hb⟩
theorem Fun.b1 {p0:Str}(F:Fun K x qual st a d)(hb:∀(kV doc pm:tx)(an:Option Addr)(cdv ct u0:tx),bindArgs (Na x qual (bE st) (ba st) (aw st) .none kV doc pm an cdv ct) ⟨[u0],[]⟩=pure (MS [p0] [u0]):=by intros;rfl):cy K d [p0] []:=F.binds fun kV doc pm an cdv ct us hl=>by
 obtain⟨u0,rfl⟩:=L2.eK hl
 exact hb kV doc pm an cdv ct u0
theorem Fa.fm1 {p0:Str}(F:Fa K x qual st a d)(X:K.In h)(G:h.Ns mainGlobals mg)(hb:∀(kV doc pm:tx)(an:Option Addr)(cdv ct u0:tx),bindArgs (Na x qual (bE st) (ba st) (aw st) .none kV doc pm an cdv ct) ⟨[u0],[]⟩=pure (MS [p0] [u0]):=by intros;rfl):Fm K mg x qual st a d [p0]:=⟨F.f,NN X G F.m,F.f.b1 hb⟩
theorem Fun.b2 {p0 p1:Str}(F:Fun K x qual st a d)(hb:∀(kV doc pm:tx)(an:Option Addr)(cdv ct u0 u1:tx),bindArgs (Na x qual (bE st) (ba st) (aw st) .none kV doc pm an cdv ct) ⟨[u0,u1],[]⟩=pure (MS [p0,p1] [u0,u1]):=by intros;rfl):cy K d [p0,p1] []:=F.binds fun kV doc pm an cdv ct us hl=>by
 obtain⟨u0,u1,rfl⟩:=L2.zX hl
 exact hb kV doc pm an cdv ct u0 u1
theorem Fa.fm2 {p0 p1:Str}(F:Fa K x qual st a d)(X:K.In h)(G:h.Ns mainGlobals mg)(hb:∀(kV doc pm:tx)(an:Option Addr)(cdv ct u0 u1:tx),bindArgs (Na x qual (bE st) (ba st) (aw st) .none kV doc pm an cdv ct) ⟨[u0,u1],[]⟩=pure (MS [p0,p1] [u0,u1]):=by intros;rfl):Fm K mg x qual st a d [p0,p1]:=⟨F.f,NN X G F.m,F.f.b2 hb⟩
theorem Fun.b3 {p0 p1 p2:Str}(F:Fun K x qual st a d)(hb:∀(kV doc pm:tx)(an:Option Addr)(cdv ct u0 u1 u2:tx),bindArgs (Na x qual (bE st) (ba st) (aw st) .none kV doc pm an cdv ct) ⟨[u0,u1,u2],[]⟩=pure (MS [p0,p1,p2] [u0,u1,u2]):=by intros;rfl):cy K d [p0,p1,p2] []:=F.binds fun kV doc pm an cdv ct us hl=>by
 obtain⟨u0,u1,u2,rfl⟩:=L2.tE hl
 exact hb kV doc pm an cdv ct u0 u1 u2
theorem Fa.fm3 {p0 p1 p2:Str}(F:Fa K x qual st a d)(X:K.In h)(G:h.Ns mainGlobals mg)(hb:∀(kV doc pm:tx)(an:Option Addr)(cdv ct u0 u1 u2:tx),bindArgs (Na x qual (bE st) (ba st) (aw st) .none kV doc pm an cdv ct) ⟨[u0,u1,u2],[]⟩=pure (MS [p0,p1,p2] [u0,u1,u2]):=by intros;rfl):Fm K mg x qual st a d [p0,p1,p2]:=⟨F.f,NN X G F.m,F.f.b3 hb⟩
theorem Fun.b4 {p0 p1 p2 p3:Str}(F:Fun K x qual st a d)(hb:∀(kV doc pm:tx)(an:Option Addr)(cdv ct u0 u1 u2 u3:tx),bindArgs (Na x qual (bE st) (ba st) (aw st) .none kV doc pm an cdv ct) ⟨[u0,u1,u2,u3],[]⟩=pure (MS [p0,p1,p2,p3] [u0,u1,u2,u3]):=by intros;rfl):cy K d [p0,p1,p2,p3] []:=F.binds fun kV doc pm an cdv ct us hl=>by
 obtain⟨u0,u1,u2,u3,rfl⟩:=L2.zI hl
 exact hb kV doc pm an cdv ct u0 u1 u2 u3
theorem Fa.fm4 {p0 p1 p2 p3:Str}(F:Fa K x qual st a d)(X:K.In h)(G:h.Ns mainGlobals mg)(hb:∀(kV doc pm:tx)(an:Option Addr)(cdv ct u0 u1 u2 u3:tx),bindArgs (Na x qual (bE st) (ba st) (aw st) .none kV doc pm an cdv ct) ⟨[u0,u1,u2,u3],[]⟩=pure (MS [p0,p1,p2,p3] [u0,u1,u2,u3]):=by intros;rfl):Fm K mg x qual st a d [p0,p1,p2,p3]:=⟨F.f,NN X G F.m,F.f.b4 hb⟩
theorem Fun.b5 {p0 p1 p2 p3 p4:Str}(F:Fun K x qual st a d)(hb:∀(kV doc pm:tx)(an:Option Addr)(cdv ct u0 u1 u2 u3 u4:tx),bindArgs (Na x qual (bE st) (ba st) (aw st) .none kV doc pm an cdv ct) ⟨[u0,u1,u2,u3,u4],[]⟩=pure (MS [p0,p1,p2,p3,p4] [u0,u1,u2,u3,u4]):=by intros;rfl):cy K d [p0,p1,p2,p3,p4] []:=F.binds fun kV doc pm an cdv ct us hl=>by
 obtain⟨u0,u1,u2,u3,u4,rfl⟩:=L2.zF hl
 exact hb kV doc pm an cdv ct u0 u1 u2 u3 u4
theorem Fa.fm5 {p0 p1 p2 p3 p4:Str}(F:Fa K x qual st a d)(X:K.In h)(G:h.Ns mainGlobals mg)(hb:∀(kV doc pm:tx)(an:Option Addr)(cdv ct u0 u1 u2 u3 u4:tx),bindArgs (Na x qual (bE st) (ba st) (aw st) .none kV doc pm an cdv ct) ⟨[u0,u1,u2,u3,u4],[]⟩=pure (MS [p0,p1,p2,p3,p4] [u0,u1,u2,u3,u4]):=by intros;rfl):Fm K mg x qual st a d [p0,p1,p2,p3,p4]:=⟨F.f,NN X G F.m,F.f.b5 hb⟩
theorem Fun.b6 {p0 p1 p2 p3 p4 p5:Str}(F:Fun K x qual st a d)(hb:∀(kV doc pm:tx)(an:Option Addr)(cdv ct u0 u1 u2 u3 u4 u5:tx),bindArgs (Na x qual (bE st) (ba st) (aw st) .none kV doc pm an cdv ct) ⟨[u0,u1,u2,u3,u4,u5],[]⟩=pure (MS [p0,p1,p2,p3,p4,p5] [u0,u1,u2,u3,u4,u5]):=by intros;rfl):cy K d [p0,p1,p2,p3,p4,p5] []:=F.binds fun kV doc pm an cdv ct us hl=>by
 obtain⟨u0,u1,u2,u3,u4,u5,rfl⟩:=L2.An hl
 exact hb kV doc pm an cdv ct u0 u1 u2 u3 u4 u5
theorem Fa.fm6 {p0 p1 p2 p3 p4 p5:Str}(F:Fa K x qual st a d)(X:K.In h)(G:h.Ns mainGlobals mg)(hb:∀(kV doc pm:tx)(an:Option Addr)(cdv ct u0 u1 u2 u3 u4 u5:tx),bindArgs (Na x qual (bE st) (ba st) (aw st) .none kV doc pm an cdv ct) ⟨[u0,u1,u2,u3,u4,u5],[]⟩=pure (MS [p0,p1,p2,p3,p4,p5] [u0,u1,u2,u3,u4,u5]):=by intros;rfl):Fm K mg x qual st a d [p0,p1,p2,p3,p4,p5]:=⟨F.f,NN X G F.m,F.f.b6 hb⟩
theorem Fun.b7 {p0 p1 p2 p3 p4 p5 p6:Str}(F:Fun K x qual st a d)(hb:∀(kV doc pm:tx)(an:Option Addr)(cdv ct u0 u1 u2 u3 u4 u5 u6:tx),bindArgs (Na x qual (bE st) (ba st) (aw st) .none kV doc pm an cdv ct) ⟨[u0,u1,u2,u3,u4,u5,u6],[]⟩=pure (MS [p0,p1,p2,p3,p4,p5,p6] [u0,u1,u2,u3,u4,u5,u6]):=by intros;rfl):cy K d [p0,p1,p2,p3,p4,p5,p6] []:=F.binds fun kV doc pm an cdv ct us hl=>by
 obtain⟨u0,u1,u2,u3,u4,u5,u6,rfl⟩:=L2.FG hl
 exact hb kV doc pm an cdv ct u0 u1 u2 u3 u4 u5 u6
theorem Fa.fm7 {p0 p1 p2 p3 p4 p5 p6:Str}(F:Fa K x qual st a d)(X:K.In h)(G:h.Ns mainGlobals mg)(hb:∀(kV doc pm:tx)(an:Option Addr)(cdv ct u0 u1 u2 u3 u4 u5 u6:tx),bindArgs (Na x qual (bE st) (ba st) (aw st) .none kV doc pm an cdv ct) ⟨[u0,u1,u2,u3,u4,u5,u6],[]⟩=pure (MS [p0,p1,p2,p3,p4,p5,p6] [u0,u1,u2,u3,u4,u5,u6]):=by intros;rfl):Fm K mg x qual st a d [p0,p1,p2,p3,p4,p5,p6]:=⟨F.f,NN X G F.m,F.f.b7 hb⟩
theorem Fun.okS {CX:CXT}{N:List Str}{k:Nat}{sp:Sp}{t:TS}(F:Fun K x qual st a d)(S:aN N ps (aw st))(len:∀vs H Q E,sp vs H Q E->vs.length=ps.length)
  (hrd:∀(vs:List V)(H:Hp)(Q:VK)(E:XK),sp vs H Q E->t {nx:=fun _ H'=>Q .non H',rt:=Q} (start N vs) H)
  (hq:∀(cdv:tx)(A:Lh)(outer:List Env)(s:Km)(H:Hp)(E:XK),bu k (A.deeper (envOfC qual (aw st) s.heap.objs.size a cdv))->QSs (dq CX P w K mg base N qual (aw st) a cdv A outer s H E).nox (ba st) t):aV P w K mg base CX (k+1) a d ps sp:=
 F.okN S len fun cdv A outer s H vs Q E hr h=>⟨t,(hq cdv A outer s H E hr).out,hrd vs H Q E h⟩
end
section
variable {X:Cx}{x q:Str}{e:Expr}{es:List Expr}{t:TA}{p pos:Pos}{st:Stmt}{f:Addr}{fd:Kz}{ps:List Str}{k:Nat}{sp:Sp}
theorem aM {P:KI}{w:Lp}(F:aV X.prog X.w X.K X.mg X.base (CX1 P w) k f fd ps sp)(hr:bu k X.A)(M:Fm X.K X.mg x q st f fd ps)
 (ha:QA X (e::es) t)(hg:Gl X x:=by rfl)(hdb:(x==("__debug__":Str))=false:=by decide)(hs:bq (e::es)=true:=by rfl):QE X (.Call (.Name x p) (e::es) [] pos) (aD sp (fun _=>E0) t):=mR F hr M.m M.f.kp M.b cE ha hg hdb hs
end
end L2
namespace HT
open PySem PyProof.Rows
theorem wY:typeLookup (.type "list_reverseiterator") "__len__"=pure none:=by rw[MN,LK];kernel_rfl
theorem xF:typeLookup (.type "list_reverseiterator") "__length_hint__"=pure (some (.builtin "list_reverseiterator.__length_hint__")):=by rw[MN,LK];kernel_rfl
section
variable {prog:KI}{w:Lp}{A:Lh}{s:Km}{R:Py->Km->Prop}
variable {I:Addr}{fp wr:List Addr}{G:Array Pz->Array Pz->Prop}{n:Nat}{P:Nat->tx->Prop}{St:Nat->Km->Prop}
theorem uE (W:WalksS prog w A.in1 I fp wr G n P St)(hT:∀i s,St i s->s.TypeIs (.ref I) "list_reverseiterator")(S:Addr)(res:tx)(c₀:Nat)(hst:St 0 s)(hSf:S∉fp)(hI:I∈fp)
  (hS:s.heap.get? S=some {cls:=.type "list",data:=.seq #[] c₀})
  (hR:∀s' acc' c',Moved (S::wr) G s s'->s'.heap.get? S=some {cls:=.type "list",dict:=none,data:=.seq acc' c',slots:=#[]}->ItemsOf P acc' n->R (.ok (.ret res)) s')(hn:n<=sizeLine):
  wpAny (model prog w) A.in1 (Lr (.ref S) (.ref I) res)
   (fun fin s'=>match fin with|.done f=>R (.ok f) s'|.again c'=>c'.quiet=true/\codeAny (model prog w) A c' R s') (fun e s'=>R (.error e) s') s:=by
 have hSI:S≠I:=fun e=>hSf (e▸hI)
 have h1:MX (.ref S) (.ref I)=false:=by simp[MX,hSI]
 unfold Lr
 refine cW (OG (hT 0 _ hst) ?_)
 rw[if_neg (by rw[h1];decide)]
 refine cW (W.self 0 _ _ _ hst ?_)
 refine cW (Md ?_)
 unfold OF
 refine cW (ML (hT 0 _ hst) wY ?_)
 show wpAny _ A.in1 (specialOf (Kx I) (LM "__length_hint__")>>=_) _ _ _
 refine cW (ML (hT 0 _ hst) xF ?_)
 generalize hid:("list_reverseiterator.__length_hint__":String)=id0
 wp_delta
 rw[show splitId id0=some ("list_reverseiterator","__length_hint__")from by subst hid;decide+kernel]
 subst hid
 refine cW (Ot (b:=true) (hT 0 _ hst) (by rw[Nj];kernel_rfl) ?_)
 refine Ko ?_
 rw[if_neg (by decide)]
 exact Ko ⟨Pt Ma _,codeAny_extend_loopS W hn _ hSf _ n 0 _ _ _ rfl (KS _) hst hS (ItemsOf.nil P) fun s' acc' c' hm hS' hacc=>hR s' acc' c' hm hS' hacc⟩
theorem oH (W:WalksS prog w A.in1 I fp wr G n P St)(hT:∀i s,St i s->s.TypeIs (.ref I) "list_reverseiterator")(S:Addr)(hst:St 0 s)(hSf:S∉fp)(hI:I∈fp)
  (hS:s.heap.get? S=some {cls:=.type "list",data:=.seq #[]})
  (hR:∀s' acc' c',Moved (S::wr) G s s'->s'.heap.get? S=some {cls:=.type "list",dict:=none,data:=.seq acc' c',slots:=#[]}->ItemsOf P acc' n->R (.ok (.ret .none)) s')(hn:n<=sizeLine):
  wpAny (model prog w) A.in1 (NC.«list.__init__» ⟨[.ref S,.ref I],[]⟩)
   (fun fin s'=>match fin with|.done f=>R (.ok f) s'|.again c'=>c'.quiet=true/\codeAny (model prog w) A c' R s') (fun e s'=>R (.error e) s') s:=by
 show wpAny _ A.in1 (do let old<-Nh (.ref S);Pb (.ref S) (fun _=>#[]);letGo old.toList.reverse;Lr (.ref S) (.ref I) .none) _ _ s
 refine cW ?_
 unfold Nh
 refine cW (Mr hS rfl (Ko ?_))
 show wpAny _ A.in1 (updateSeq S (fun _=>#[])>>=fun _=>letGo (#[]:Array tx).toList.reverse>>=fun _=>Lr (.ref S) (.ref I) .none) _ _ s
 refine cW (NR hS rfl ?_)
 have hS₂:=Lm (LU (fun _=>(#[]:Array tx))) hS rfl
 have oth:∀b o,b≠S->s.heap.get? b=some o->(s.heap.update S (LU (fun _=>(#[]:Array tx)))).get? b=some o:=
  fun b o hb e=>(Lu _ _ (Lj hb)).trans e
 refine cW (Pg ?_)
 refine uE (hn:=hn) W hT S .none _ (W.frame 0 s _ s.toks hst (Gt _) fun b hb o e=>oth b o (fun h=>hSf (h▸hb)) e) hSf hI hS₂ fun s' acc' c' hm hS' hacc=>?_
 exact hR s' acc' c' (Moved.trans W.gtrans ((Moved.refl W.grefl).then_heap (Gt _) fun b o hb e=>oth b o (fun h=>hb (h▸KY)) e) hm) hS' hacc
end
section
variable {prog:KI}{w:Lp}{A:Lh}{E:tx->Km->Prop}{s:Km}
variable {I:Addr}{fp wr:List Addr}{G:Array Pz->Array Pz->Prop}{n:Nat}{P:Nat->tx->Prop}{St:Nat->Km->Prop}
theorem oO {Q:tx->Km->Prop}(W:WalksS prog w A.in1.in1 I fp wr G n P St)(hT:∀i s,St i s->s.TypeIs (.ref I) "list_reverseiterator")(hst:St 0 s)(hfp:∀b∈fp,b<s.heap.objs.size)(hI:I∈fp)
  (hQ:∀s' acc' c',Moved (s.heap.objs.size::wr) G {s with heap:=s.heap.push {cls:=.type "list",data:=.seq #[]}} s'->
   s'.heap.get? s.heap.objs.size=some {cls:=.type "list",dict:=none,data:=.seq acc' c',slots:=#[]}->ItemsOf P acc' n->Q (.ref s.heap.objs.size) s')(hn:n<=sizeLine):
  wpAny (model prog w) A (call (.type "list") [.ref I]) Q E s:=by
 have hSf:s.heap.objs.size∉fp:=fun hm=>Ml _ (hfp _ hm)
 refine callType_codes (Q₁:=fun obj s₁=>obj=.ref s.heap.objs.size/\s₁={s with heap:=s.heap.push {cls:=.type "list",data:=.seq #[]}}) So (Rl _) Rm
  (code_list_new _ ⟨rfl,rfl⟩) fun obj s₁ h₁=>?_
 obtain⟨rfl,rfl⟩:=h₁
 have hS:(s.heap.push {cls:=.type "list",data:=.seq #[]}).get? s.heap.objs.size=some {cls:=.type "list",data:=.seq #[]}:=Kt _ rfl
 refine⟨⟨_,hS,rfl⟩,QV _ _,oH (hn:=hn) W hT _ (W.frame 0 s _ s.toks hst (Gt _) fun b _ o e=>gV _ e) hSf hI hS fun s' acc' c' hm hS' hacc=>?_⟩
 exact⟨rfl,hQ s' acc' c' hm hS' hacc⟩
end
end HT
namespace L2
open PySem PySem.Spec PyProof.Rows
def kS (K:pv):List V->Hp->VK->Prop:=fun xs H Q=>∃c ys,xs=[.ref c]/\SqL K H c ys/\∀l,H l=none->Q (.ref l) (upd H l (.lst ys.reverse))
section
variable {X:Cx}{pins:List (Addr×Obj)}{σ:St}{H:Hp}{s:Km}
theorem zk {Q:VK}{c:Addr}{ys:List V}(hc:X.calm=true)(I:Inv X pins σ H s)(hq:SqL X.K H c ys)(q:∀l,H l=none->Q (.ref l) (upd H l (.lst ys.reverse))):
  wpAny (model X.prog X.w) X.A (call (.type "reversed") [.ref c]) (fun u s2=>wpAny (model X.prog X.w) X.A (call (.type "list") [u]) (EP X pins σ Q) X.xe s2) X.xe s:=by
 obtain⟨its,r',pl,hz⟩:=I.list hq
 have hlen:=r'.length
 have hl:=pl.isList
 refine Td hl ?_
 have hcs:c<s.heap.objs.size:=by obtain⟨o,ho,_⟩:=hl;exact Kp ho
 have hne:c≠s.heap.objs.size:=KQ hcs
 have W:=(Walks.listRev (prog:=X.prog) (w:=X.w) (A:=X.A.in1.in1) (I.ok.hd hc) s.heap.objs.size c hne its.toArray).toS
 have hl2:(s.heap.push (revObj c ((its.toArray.size:Int)- 1))).IsList c its.toArray:=hl.at fun o e=>gV _ e
 have hz':its.toArray.size<=sizeLine:=by rw[Ks];omega
 have hsz:(s.heap.push (revObj c ((its.toArray.size:Int)- 1))).objs.size=s.heap.objs.size+1:=MA _ _
 refine HT.oO (s:={s with heap:=s.heap.push (revObj c ((its.toArray.size:Int)- 1))}) W (fun i s3 st=>st.2.1.typeIs) ⟨KS _,⟨_,Kt _ rfl,rfl,by show Ry _=Ry _;simp⟩,hl2⟩ (fun b hb=>?_) (by simp) (fun s' acc' c' hm hS' hacc=>?_) hz'
 ·show b<(s.heap.push _).objs.size
  rw[hsz]
  rcases KD.mp hb with z|z
  ·rw[z];exact Mg _
  ·rw[Ky.mp z];exact Nat.lt_succ_of_lt hcs
 ·have e1:acc'.toList=its.reverse:=by
   refine Sa fun j=>?_
   by_cases hj:j<its.length
   ·have hj2:j<acc'.size:=by rw[hacc.1,Ks];exact hj
    have ea:acc'[j]?=some acc'[j]:=Mz hj2
    have hp:its.toArray[its.toArray.size- 1- j]?=some acc'[j]:=hacc.2 j _ ea
    rw[Array.getElem?_toList,ea,LX hj,<-hp]
    simp
   ·rw[Lo (by rw[MH,hacc.1,Ks];omega),Lo (by simp;omega)]
  have hw:∀b o,s.heap.get? b=some o->s'.heap.get? b=some o:=fun b o e=>by
   have hb:=Kp e
   refine hm.heap b o (fun z=>?_) (gV _ (gV _ e))
   rcases KD.mp z with z|z
   ·have z:b=(s.heap.push (revObj c ((its.toArray.size:Int)- 1))).objs.size:=z
    rw[hsz]at z
    rw[z]at hb
    exact Ml _ (Nat.lt_trans (Mg _) hb)
   ·rw[Ky.mp z]at hb
    exact Ml _ hb
  have es:s'={s with heap:=s'.heap,toks:=s'.toks}:=by
   have h1:=hm.gens
   have h2:=hm.drawn
   have h3:=hm.os
   cases s'
   cases h1;cases h2;cases h3
   rfl
  have hS2:s'.heap.get? (s.heap.objs.size+1)=some {cls:=.type "list",dict:=none,data:=.seq its.reverse.toArray c',slots:=#[]}:=by
   rw[<-hsz,hS',<-e1]
  have new:bj X.prog X.w (upd H (s.heap.objs.size+1) (.lst ys.reverse)) s'.heap (s.heap.objs.size+1) (.lst ys.reverse):=⟨by rw[LS];exact hz,its.reverse,c',r'.reverse,hS2⟩
  refine⟨.ref (s.heap.objs.size+1),upd H (s.heap.objs.size+1) (.lst ys.reverse),?_,?_,q _ (I.hok.fresh (MO _))⟩
  ·rw[es];exact I.laid hw (MO _) new
  ·show Kx _=Kx _
   rw[hsz]
end
section
variable {X:Cx}{a:Expr}{t:TA}{p1 p2 pos1 pos2:Pos}
theorem se:bootBuiltins "list"=some (.type "list"):=by decide+kernel
theorem oq (hm1:X.mg "list"=none)(hm2:X.mg "reversed"=none)(hc:X.calm=true)(ha:QA X [a] t)(hg1:Gl X "list":=by rfl)(hg2:Gl X "reversed":=by rfl)(hs:bq [a]=true:=by rfl):
  QE X (.Call (.Name "list" p1) [.Call (.Name "reversed" p2) [a] [] pos2] [] pos1) (tCB (kS X.K) t):=⟨fun pins s σ H Q I h=>by
 have h':(bU a&&bq [])=true:=hs
 refine Lx (eI I hg1 hm1 se ?_ (by decide) (by decide))
 refine Ls ?_ rfl rfl
 show wpAny _ _ (spliced ((false,eval (.Call (.Name "reversed" p2) [a] [] pos2) X.env)::backTo pos1 (starEach [] X.env))) _ _ s
 refine OL ?_
 refine Lx (eI I hg2 hm2 kJ ?_ (by decide) (by decide))
 refine Ls (thn (ha.out pos2 pins s σ H _ I h) fun us s1 ⟨vs,H1,I1,r1,q1⟩=>?_)
  (bh (Ku.mp h').1 [] X.env) (cf (Ku.mp h').2)
 obtain⟨c,ys,rfl,hq,q⟩:=q1
 obtain⟨u,rfl,ru⟩:=fE r1
 cases ru
 refine KU (zk hc I1 hq q) (fun u s2 z=>?_) fun _ _ z=>z
 exact OV z⟩
end
end L2
namespace HT
open PySem PyProof.Rows
abbrev iF (f0 f1:tx)(TI TO:Addr):Obj:={cls:=.type "zip",dict:=none,data:=.fields #[f0,f1,.bool false,.ref TI,.ref TO],slots:=#[]}
structure fk (h:Heap)(z TI TO i1 i2 l t S:Addr)(k:Nat):Prop where
 z:(k=0/\h.get? z=some (iF .none (.bool false) TI TO))\/∃T f oT,h.get? z=some (iF (rawInt (T:Addr)) (.bool f) TI TO)/\h.get? T=some oT/\T≠z/\T≠TO/\T≠i1/\T≠i2/\T≠S
 ti:NF h TI (.ref i1) (.ref i2)
 to:∃a b,NF h TO a b
 j1:h.IsListIter i1 l k
 j2:h.IsTupleIter i2 t k
section
variable {prog:KI}{w:Lp}{A:Lh}{E:tx->Km->Prop}{s:Km}
theorem rZ {z TI TO T:Addr}{f:Bool}{oT:Obj}(hz:s.heap.get? z=some (iF (rawInt T) (.bool f) TI TO))(hTt:s.heap.get? T=some oT):
  wpAny (model prog w) A (La (.ref z)) (fun b s1=>b=false/\∃h₁,s1={s with heap:=h₁}/\h₁.get? z=some (iF (rawInt T) (.bool true) TI TO)/\Mw z s.heap h₁) (fun _ _=>False) s:=by
 unfold La
 refine cW (Lf hz rfl (x:=rawInt T) rfl ?_)
 show wpAny _ _ (loadIfAlive ((T:Int).toNat) >>= _) _ _ _
 rw[Nx]
 refine cW (W.kdx_alive hTt ?_)
 simp only[Option.isNone_some,Mx,if_false]
 refine cW (Lf hz rfl (x:=.bool f) rfl ?_)
 cases f with
 |true=>
  rw[if_neg (show ¬((Mj true !=Mj true)=true)from KF)]
  exact Ko ⟨rfl,s.heap,rfl,hz,Heap.SameBut.refl _ _⟩
 |false=>
  rw[if_pos (show(Mj false !=Mj true)=true from rfl)]
  exact cW (LO hz (by simp) fun h₃ he₃ hs₃=>Ko ⟨rfl,h₃,rfl,he₃,hs₃⟩)
theorem tR {z TI TO i1 i2 l t S:Addr}{k:Nat}{xs ys:Array tx}{x y a b:tx}{Q:Option tx->Km->Prop}(D:OO z TI TO i1 i2 l t)(hz:TL s.heap z TI TO .none)(hTI:NF s.heap TI (.ref i1) (.ref i2))(hTO:NF s.heap TO a b)
  (h1:s.heap.IsListIter i1 l k)(h2:s.heap.IsTupleIter i2 t k)(ht1:s.heap.IsList l xs)(ht2:s.heap.IsTuple t ys)(hx:xs[k]? =some x)(hy:ys[k]? =some y)(hS:S<s.heap.objs.size)
  (hQ:∀h',fk h' z TI TO i1 i2 l t S (k+1)->NF h' s.heap.objs.size x y->
   (∀c o,c≠z->c≠TO->c≠i1->c≠i2->s.heap.get? c=some o->h'.get? c=some o)->Q (some (.ref s.heap.objs.size)) {s with heap:=h'}):
  wpAny (model prog w) A (pyNext (.ref z)) Q E s:=by
 have hT:s.TypeIs (.ref z) "zip":=⟨_,hz,rfl⟩
 unfold pyNext
 refine cW (NL (Lz (name:=LM "__next__") hT Nr (LF Nr hT PZ ?_ (PC _))))
 show wpAny _ _ (field (.ref z) 2 >>= _) _ _ _
 refine cW (Lf hz rfl (x:=.bool false) rfl ?_)
 show wpAny _ _ (field (.ref z) 3 >>= _) _ _ _
 refine cW (Lf hz rfl (x:=.ref TI) rfl (cW (Mr hTI rfl ?_)))
 show wpAny _ _ (La (.ref z) >>= _) _ _ _
 refine cW ?_
 unfold La
 refine cW (Lf hz rfl (x:=.none) rfl (Ko ?_))
 simp only[if_true]
 refine cW (ON (cW (Lf hz rfl (x:=.ref TO) rfl (cW (LO hz (by simp) fun ha hza hsa=>cW ?_)))))
 replace hza:TL ha z TI TO .ellipsis:=hza
 simp only[Sw,SN,Nm,NQ]
 refine cW (cW (RE ?_))
 show wpAny _ _ (Lv (.ref i1) >>= _) _ _ _
 refine cW (RV (h1.at fun o e=>hsa.extBut _ _ D.i1z e) (ht1.at fun o e=>hsa.extBut _ _ D.l1z e) hx fun hb h1b hsb=>Ko ?_)
 have hTOb:NF hb TO a b:=hsb.extBut _ _ D.TOi1 (hsa.extBut _ _ D.TOz hTO)
 refine cW (Mr hTOb rfl (cW (SE hTOb fun hc hTOc hsc=>?_)))
 replace hTOc:NF hc TO x b:=hTOc
 refine cW (Pg (Ko ?_))
 refine cW (cW (RE ?_))
 show wpAny _ _ (Lv (.ref i2) >>= _) _ _ _
 refine cW (qM (h2.at fun o e=>hsc.extBut _ _ D.TOi2.symm (hsb.extBut _ _ D.i12.symm (hsa.extBut _ _ D.i2z e)))
  (ht2.at fun o e=>hsc.extBut _ _ D.l2TO (hsb.extBut _ _ D.l2i1 (hsa.extBut _ _ D.l2z e))) hy fun hd h2d hsd=>Ko ?_)
 have hTOd:NF hd TO x b:=hsd.extBut _ _ D.TOi2 hTOc
 refine cW (Mr hTOd rfl (cW (SE hTOd fun he hTOe hse=>?_)))
 replace hTOe:NF he TO x y:=hTOe
 refine cW (Pg (Ko (Ko ?_)))
 refine cW (Mr hTOe rfl (cW (wpAny_newTuple ?_)))
 have hsz:he.objs.size=s.heap.objs.size:=by rw[hse.1,hsd.1,hsc.1,hsb.1,hsa.1]
 have hze:TL he z TI TO .ellipsis:=hse.extBut _ _ D.TOz.symm (hsd.extBut _ _ D.i2z.symm (hsc.extBut _ _ D.TOz.symm (hsb.extBut _ _ D.i1z.symm hza)))
 have hke:∀c o,c≠z->c≠TO->c≠i1->c≠i2->s.heap.get? c=some o->he.get? c=some o:=fun c o c1 c2 c3 c4 e=>
  hse.extBut _ _ c2 (hsd.extBut _ _ c4 (hsc.extBut _ _ c2 (hsb.extBut _ _ c3 (hsa.extBut _ _ c1 e))))
 have h1e:he.IsListIter i1 l (k+1):=h1b.at fun o e=>hse.extBut _ _ D.TOi1.symm (hsd.extBut _ _ D.i12 (hsc.extBut _ _ D.TOi1.symm e))
 have h2e:he.IsTupleIter i2 t (k+1):=h2d.at fun o e=>hse.extBut _ _ D.TOi2.symm e
 show wpAny _ _ (NJ (.ref z) (.ref he.objs.size) >>= _) _ _ _
 refine cW ?_
 unfold NJ
 have hzf:TL (he.push {cls:=.type "tuple",data:=.seq #[x,y]}) z TI TO .ellipsis:=gV _ hze
 refine cW (LO hzf (by simp) fun hg hzg hsg=>?_)
 replace hzg:TL hg z TI TO (rawInt he.objs.size):=hzg
 refine LO hzg (by simp) fun hh hzh hsh=>?_
 replace hzh:TL hh z TI TO (rawInt he.objs.size):=hzh
 have up:∀c o,c≠z->he.get? c=some o->hh.get? c=some o:=fun c o c1 e=>hsh.extBut _ _ c1 (hsg.extBut _ _ c1 (gV _ e))
 have hTh:NF hh he.objs.size x y:=hsh.extBut _ _ (Mm (Kp hze)) (hsg.extBut _ _ (Mm (Kp hze)) (Kt _ rfl))
 have n1:he.objs.size≠z:=Mm (Kp hze)
 have n2:he.objs.size≠TO:=Mm (Kp hTOe)
 have n3:he.objs.size≠i1:=by obtain⟨o,eo,_⟩:=h1e;exact Mm (Kp eo)
 have n4:he.objs.size≠i2:=by obtain⟨o,eo,_⟩:=h2e;exact Mm (Kp eo)
 have n5:he.objs.size≠S:=by rw[hsz];exact Mm hS
 rw[hsz]at hzh hTh n1 n2 n3 n4 n5
 have fin:=hQ hh ⟨.inr ⟨s.heap.objs.size,false,_,hzh,hTh,n1,n2,n3,n4,n5⟩,up _ _ D.TIz (hke _ _ D.TIz D.TITO D.TIi1 D.TIi2 hTI),⟨x,y,up _ _ D.TOz hTOe⟩,h1e.at fun o e=>up _ o D.i1z e,h2e.at fun o e=>up _ o D.i2z e⟩ hTh fun c o c1 c2 c3 c4 e=>up c o c1 (hke c o c1 c2 c3 c4 e)
 rw[<-hsz]at fin
 exact Ko ⟨_,rfl,Ko fin⟩
theorem wF {z TI TO i1 i2 l t S T:Addr}{f:Bool}{oT:Obj}{k:Nat}{xs ys:Array tx}{x y:tx}{Q:Option tx->Km->Prop}(D:OO z TI TO i1 i2 l t)(hz:s.heap.get? z=some (iF (rawInt T) (.bool f) TI TO))(hTt:s.heap.get? T=some oT)
  (nT:T≠z/\T≠TO/\T≠i1/\T≠i2/\T≠S)(hTI:NF s.heap TI (.ref i1) (.ref i2))(hTO:∃a b,NF s.heap TO a b)
  (h1:s.heap.IsListIter i1 l k)(h2:s.heap.IsTupleIter i2 t k)(ht1:s.heap.IsList l xs)(ht2:s.heap.IsTuple t ys)(hx:xs[k]? =some x)(hy:ys[k]? =some y)
  (hQ:∀h',fk h' z TI TO i1 i2 l t S (k+1)->NF h' s.heap.objs.size x y->
   (∀c o,c≠z->c≠TO->c≠i1->c≠i2->s.heap.get? c=some o->h'.get? c=some o)->Q (some (.ref s.heap.objs.size)) {s with heap:=h'}):
  wpAny (model prog w) A (pyNext (.ref z)) Q E s:=by
 have hT:s.TypeIs (.ref z) "zip":=⟨_,hz,rfl⟩
 unfold pyNext
 refine cW (NL (Lz (name:=LM "__next__") hT Nr (LF Nr hT PZ ?_ (PC _))))
 show wpAny _ _ (field (.ref z) 2 >>= _) _ _ _
 refine cW (Lf hz rfl (x:=.bool false) rfl ?_)
 show wpAny _ _ (field (.ref z) 3 >>= _) _ _ _
 refine cW (Lf hz rfl (x:=.ref TI) rfl (cW (Mr hTI rfl ?_)))
 show wpAny _ _ (La (.ref z) >>= _) _ _ _
 refine cW (KU (rZ hz hTt) (fun b s1 hb=>?_) fun _ _ e=>e.elim)
 obtain⟨rfl,ha,rfl,hza,hsa⟩:=hb
 simp only[Mx,if_false]
 refine cW ?_
 rw[<-RC]
 simp only[Nm,NQ]
 refine cW (cW (Md ?_))
 show wpAny _ _ (Lv (.ref i1) >>= _) _ _ _
 refine cW (RV (h1.at fun o e=>hsa.extBut _ _ D.i1z e) (ht1.at fun o e=>hsa.extBut _ _ D.l1z e) hx fun hb h1b hsb=>Ko (Ko ?_))
 refine cW (cW (Md ?_))
 show wpAny _ _ (Lv (.ref i2) >>= _) _ _ _
 refine cW (qM (h2.at fun o e=>hsb.extBut _ _ D.i12.symm (hsa.extBut _ _ D.i2z e)) (ht2.at fun o e=>hsb.extBut _ _ D.l2i1 (hsa.extBut _ _ D.l2z e)) hy fun hd h2d hsd=>Ko (Ko (Ko ?_)))
 refine cW (wpAny_newTuple (hsz:=by show 2<=sizeLine;decide) ?_)
 have hsz:hd.objs.size=s.heap.objs.size:=by rw[hsd.1,hsb.1,hsa.1]
 have hk:∀c o,c≠z->c≠TO->c≠i1->c≠i2->s.heap.get? c=some o->(hd.push {cls:=.type "tuple",data:=.seq #[x,y]}).get? c=some o:=fun c o c1 c2 c3 c4 e=>
  gV _ (hsd.extBut _ _ c4 (hsb.extBut _ _ c3 (hsa.extBut _ _ c1 e)))
 obtain⟨a,b,hTO⟩:=hTO
 have fin:=hQ (hd.push {cls:=.type "tuple",data:=.seq #[x,y]}) ⟨.inr ⟨T,true,oT,gV _ (hsd.extBut _ _ D.i2z.symm (hsb.extBut _ _ D.i1z.symm hza)),hk T oT nT.1 nT.2.1 nT.2.2.1 nT.2.2.2.1 hTt,nT⟩,
  hk _ _ D.TIz D.TITO D.TIi1 D.TIi2 hTI,⟨a,b,gV _ (hsd.extBut _ _ D.TOi2 (hsb.extBut _ _ D.TOi1 (hsa.extBut _ _ D.TOz hTO)))⟩,
  h1b.at fun o e=>gV _ (hsd.extBut _ _ D.i12 e),h2d.at fun o e=>gV _ e⟩ (by rw[<-hsz];exact Kt _ rfl) hk
 rw[<-hsz]at fin
 exact Ko ⟨_,rfl,Ko fin⟩
theorem yu {z TI TO i1 i2 l t S:Addr}{k:Nat}{xs:Array tx}{Q:Option tx->Km->Prop}(hh:A.handled=none)(D:OO z TI TO i1 i2 l t)(Z:fk s.heap z TI TO i1 i2 l t S k)
  (ht1:s.heap.IsList l xs)(hend:xs[k]?=none)
  (hQ:∀h',(∀c o,c≠z->c≠TO->c≠i1->c≠i2->s.heap.get? c=some o->h'.get? c=some o)->Q none {s with heap:=h'}):wpAny (model prog w) A (pyNext (.ref z)) Q E s:=by
 obtain⟨Zz,hTI,⟨a,b,hTO⟩,h1,h2⟩:=Z
 have hT:s.TypeIs (.ref z) "zip":=by rcases Zz with⟨_,e⟩|⟨_,_,_,e,_⟩<;>exact⟨_,e,rfl⟩
 have fin:∀h' e,(∀c o,c≠z->c≠TO->c≠i1->c≠i2->s.heap.get? c=some o->h'.get? c=some o)->(∃o,h'.get? e=some o/\o.cls=.type "StopIteration")->
   wpAny (model prog w) A (do if<-isInstance (.ref e) (.type "StopIteration")then pure none else throw (.ref e)) Q E {s with heap:=h'}:=fun h' e hk ⟨o,ho,hc⟩=>
  cW (Ot (T:="StopIteration") (b:=true) ⟨o,ho,hc⟩ isSubtype_stop (Ko (hQ _ hk)))
 unfold pyNext
 refine cW (NL (Lz (name:=LM "__next__") hT Nr (LF Nr hT PZ ?_ (PC _))))
 show wpAny _ _ (field (.ref z) 2>>=_) _ _ _
 rcases Zz with⟨_,hz⟩|⟨T,f,oT,hz,hTt,nT⟩
 ·refine cW (Lf hz rfl (x:=.bool false) rfl ?_)
  show wpAny _ _ (field (.ref z) 3>>=_) _ _ _
  refine cW (Lf hz rfl (x:=.ref TI) rfl (cW (Mr hTI rfl ?_)))
  show wpAny _ _ (La (.ref z)>>=_) _ _ _
  refine cW ?_
  unfold La
  refine cW (Lf hz rfl (x:=.none) rfl (Ko ?_))
  simp only[if_true]
  refine cW (ON (cW (Lf hz rfl (x:=.ref TO) rfl (cW (LO hz (by simp) fun ha hza hsa=>cW ?_)))))
  replace hza:TL ha z TI TO .ellipsis:=hza
  simp only[Sw,SN,Nm,NQ]
  refine cW (cW (RE ?_))
  show wpAny _ _ (Lv (.ref i1)>>=_) _ _ _
  refine cW (Se hh (h1.at fun o e=>hsa.extBut _ _ D.i1z e) (ht1.at fun o e=>hsa.extBut _ _ D.l1z e) hend fun hb e hsb he=>?_)
  obtain⟨oe,hoe,hce⟩:=he
  have hzb:TL hb z TI TO .ellipsis:=hsb _ _ D.i1z.symm hza
  have hez:e≠z:=fun x=>by subst x;rw[hzb]at hoe;cases hoe;simp at hce
  exact LO hzb (by simp) fun hc _ hsc=>fin hc e (fun c o c1 _ c3 _ x=>hsc.extBut _ _ c1 (hsb _ _ c3 (hsa.extBut _ _ c1 x))) ⟨oe,hsc.extBut _ _ hez hoe,hce⟩
 ·refine cW (Lf hz rfl (x:=.bool false) rfl ?_)
  show wpAny _ _ (field (.ref z) 3>>=_) _ _ _
  refine cW (Lf hz rfl (x:=.ref TI) rfl (cW (Mr hTI rfl ?_)))
  show wpAny _ _ (La (.ref z)>>=_) _ _ _
  refine cW (KU (rZ hz hTt) (fun b s1 hb=>?_) fun _ _ e=>e.elim)
  obtain⟨rfl,ha,rfl,hza,hsa⟩:=hb
  simp only[Mx,if_false]
  refine cW ?_
  rw[<-RC]
  simp only[Nm,NQ]
  refine cW (cW (Md ?_))
  show wpAny _ _ (Lv (.ref i1)>>=_) _ _ _
  refine cW (Se hh (h1.at fun o e=>hsa.extBut _ _ D.i1z e) (ht1.at fun o e=>hsa.extBut _ _ D.l1z e) hend fun hb e hsb he=>?_)
  exact fin hb e (fun c o c1 _ c3 _ x=>hsb _ _ c3 (hsa.extBut _ _ c1 x)) he
structure jo (xs ys:Array tx)(lo:Addr)(h:Heap)(as:List Addr):Prop where
 rise:as.Pairwise (·<·)
 above:∀a∈as,lo<=a
 pairs:∀(j:Nat)(a:Addr),as[j]?=some a->∃x y,xs[j]?=some x/\ys[j]?=some y/\NF h a x y
theorem jo.there {xs ys:Array tx}{lo:Addr}{h:Heap}{as:List Addr}(g:jo xs ys lo h as){a:Addr}(ha:a∈as):a<h.objs.size:=by
 obtain⟨j,hj⟩:=MV.mp ha
 obtain⟨_,_,_,_,e⟩:=g.pairs j a hj
 exact Kp e
theorem fk.keepS {h h':Heap}{z TI TO i1 i2 l t S:Addr}{k:Nat}(Z:fk h z TI TO i1 i2 l t S k)(nS:S≠z/\S≠TI/\S≠TO/\S≠i1/\S≠i2)(hk:∀b o,b≠S->h.get? b=some o->h'.get? b=some o):fk h' z TI TO i1 i2 l t S k:=by
 obtain⟨Zz,hTI,⟨a,b,hTO⟩,h1,h2⟩:=Z
 refine⟨?_,hk _ _ nS.2.1.symm hTI,⟨a,b,hk _ _ nS.2.2.1.symm hTO⟩,h1.at fun o e=>hk _ o nS.2.2.2.1.symm e,h2.at fun o e=>hk _ o nS.2.2.2.2.symm e⟩
 rcases Zz with⟨e,hz⟩|⟨T,f,oT,hz,hTt,nT⟩
 ·exact .inl ⟨e,hk _ _ nS.1.symm hz⟩
 ·exact .inr ⟨T,f,oT,hk _ _ nS.1.symm hz,hk _ _ nT.2.2.2.2 hTt,nT⟩
theorem fk.item {z TI TO i1 i2 l t S:Addr}{k:Nat}{xs ys:Array tx}{x y:tx}{Q:Option tx->Km->Prop}(Z:fk s.heap z TI TO i1 i2 l t S k)(D:OO z TI TO i1 i2 l t)
  (ht1:s.heap.IsList l xs)(ht2:s.heap.IsTuple t ys)(hx:xs[k]? =some x)(hy:ys[k]? =some y)(hS:S<s.heap.objs.size)
  (hQ:∀h',fk h' z TI TO i1 i2 l t S (k+1)->NF h' s.heap.objs.size x y->
   (∀c o,c≠z->c≠TO->c≠i1->c≠i2->s.heap.get? c=some o->h'.get? c=some o)->Q (some (.ref s.heap.objs.size)) {s with heap:=h'}):
  wpAny (model prog w) A (pyNext (.ref z)) Q E s:=by
 obtain⟨Zz,hTI,⟨a,b,hTO⟩,h1,h2⟩:=Z
 rcases Zz with⟨_,hz⟩|⟨T,f,oT,hz,hTt,nT⟩
 ·exact tR D hz hTI hTO h1 h2 ht1 ht2 hx hy hS hQ
 ·exact wF D hz hTt nT hTI ⟨a,b,hTO⟩ h1 h2 ht1 ht2 hx hy hQ
end
section
variable {prog:KI}{w:Lp}{A:Lh}{s:Km}{R:Py->Km->Prop}{xs ys:Array tx}
theorem wa {z TI TO i1 i2 l t S lo:Addr}(hh:A.handled=none)(D:OO z TI TO i1 i2 l t)(nS:S≠z/\S≠TI/\S≠TO/\S≠i1/\S≠i2)(nl:l≠S)(nt:t≠S)(below:∀b∈[z,TI,TO,i1,i2,S],b<lo)(hn:xs.size<=sizeLine)(hlen:xs.size=ys.size)(res:tx){h₁:Heap}
  (hR:∀h' tk acc c as,(∀b o,b∉[z,TI,TO,i1,i2,S]->h₁.get? b=some o->h'.get? b=some o)->h'.get? S=some {cls:=.type "list",dict:=none,data:=.seq acc c,slots:=#[]}->as.length=xs.size->jo xs ys lo h' as->
   acc.toList=as.map Kx->R (.ok (.ret res)) {s with heap:=h',toks:=tk}):
  ∀(k i:Nat)(h:Heap)(tk c:Nat)(acc:Array tx)(as:List Addr),xs.size- i=k->i<=xs.size->fk h z TI TO i1 i2 l t S i->h.IsList l xs->h.IsTuple t ys->(∀b o,b∉[z,TI,TO,i1,i2,S]->h₁.get? b=some o->h.get? b=some o)->
   h.get? S=some {cls:=.type "list",dict:=none,data:=.seq acc c,slots:=#[]}->acc.toList=as.map Kx->as.length=i->jo xs ys lo h as->lo<=h.objs.size->
   codeAny (model prog w) A (.builtin "list.extend.loop" ⟨[.ref S,.ref z,res],[]⟩) R {s with heap:=h,toks:=tk}:=by
 have inb:∀b,b∉[z,TI,TO,i1,i2,S]->b≠z/\b≠TO/\b≠i1/\b≠i2/\b≠S:=fun b hb=>by
  simp only[KD,LL,or_false,not_or]at hb
  exact⟨hb.1,hb.2.2.1,hb.2.2.2.1,hb.2.2.2.2.1,hb.2.2.2.2.2⟩
 have above:∀b,lo<=b->b≠z/\b≠TO/\b≠i1/\b≠i2/\b≠S:=fun b hb=>by
  have f:∀c∈[z,TI,TO,i1,i2,S],b≠c:=fun c hc=>Mm (KM (below c hc) hb)
  exact⟨f z (by simp),f TO (by simp),f i1 (by simp),f i2 (by simp),f S (by simp)⟩
 intro k
 induction k with
 |zero=>
  intro i h tk c acc as hk hi hst hl ht hkeep hS hacc hal hG hIs
  have hin:i=xs.size:=by omega
  refine codeAny_builtin PB ?_
  rw[QG Ma _]
  show wpAny _ A.in1 (pyNext (.ref z) >>= _) _ _ _
  refine cW (yu (s:={s with heap:=h,toks:=tk}) (A:=A.in1) hh D hst hl (Od (by omega)) fun h' he=>?_)
  refine Ko (hR h' tk acc c as (fun b o h1 e=>?_) (he S _ nS.1 nS.2.2.1 nS.2.2.2.1 nS.2.2.2.2 hS) (by omega) ⟨hG.rise,hG.above,fun j a hj=>?_⟩ hacc)
  ·obtain⟨n1,n2,n3,n4,n5⟩:=inb b h1
   exact he b o n1 n2 n3 n4 (hkeep b o h1 e)
  ·obtain⟨x,y,e1,e2,e3⟩:=hG.pairs j a hj
   obtain⟨n1,n2,n3,n4,n5⟩:=above a (hG.above a (KJ hj))
   exact⟨x,y,e1,e2,he a _ n1 n2 n3 n4 e3⟩
 |succ k ih=>
  intro i h tk c acc as hk hi hst hl ht hkeep hS hacc hal hG hIs
  have hlt:i<xs.size:=by omega
  obtain⟨x,hx⟩:∃p,xs[i]? =some p:=⟨xs[i],Mz hlt⟩
  obtain⟨y,hy⟩:∃p,ys[i]? =some p:=⟨ys[i],Mz (by omega)⟩
  have hsz:acc.size=i:=by rw[<-MH,hacc,pz,hal]
  refine codeAny_builtin PB ?_
  rw[QG Ma _]
  show wpAny _ A.in1 (pyNext (.ref z) >>= _) _ _ _
  refine cW (fk.item (s:={s with heap:=h,toks:=tk}) (S:=S) hst D hl ht hx hy (Kp hS) fun h' hst' hT hkp=>?_)
  dsimp only at hT hkp⊢
  have hS':=hkp S _ nS.1 nS.2.2.1 nS.2.2.2.1 nS.2.2.2.2 hS
  have up:∀b o,b≠S->h'.get? b=some o->(h'.update S (LU (·.push (Kx h.objs.size)))).get? b=some o:=fun b o hb e=>(Lu _ _ (Lj hb)).trans e
  obtain⟨m1,m2,m3,m4,m5⟩:=above h.objs.size hIs
  have kl:∀o,h.get? l=some o->(h'.update S (LU (·.push (Kx h.objs.size)))).get? l=some o:=fun o e=>up l o nl (hkp l o D.l1z D.l1TO D.l1i1 D.l1i2 e)
  have kt:∀o,h.get? t=some o->(h'.update S (LU (·.push (Kx h.objs.size)))).get? t=some o:=fun o e=>up t o nt (hkp t o D.l2z D.l2TO D.l2i1 D.l2i2 e)
  show wpAny _ A.in1 (updateSeq S (·.push (Kx h.objs.size)) >>= _) _ _ _
  refine cW ?_
  refine NR hS' rfl (Ko ⟨Pt Ma _,ih (i+1) _ tk _ (acc.push (Kx h.objs.size)) (as++[h.objs.size]) (by omega) hlt (hst'.keepS nS up) (hl.at kl) (ht.at kt)
   (fun b o h1 e=>?_) (Lm _ hS' rfl) (by rw[Array.toList_push,hacc,Kq];rfl) (by rw[Kn,hal];rfl) ⟨?_,?_,?_⟩ ?_⟩) (by rw[hsz];omega) (by show(acc.push (Kx h.objs.size)).size<=sizeLine+1;rw[Array.size_push,hsz];omega)
  ·obtain⟨n1,n2,n3,n4,n5⟩:=inb b h1
   exact up b o n5 (hkp b o n1 n2 n3 n4 (hkeep b o h1 e))
  ·refine List.pairwise_append.mpr ⟨hG.rise,List.pairwise_singleton _ _,fun a ha b hb=>?_⟩
   rw[Ky.mp hb]
   exact hG.there ha
  ·intro a ha
   rcases Lw.mp ha with ha|ha
   ·exact hG.above a ha
   ·rw[Ky.mp ha];exact hIs
  ·intro j b hj
   rcases NY j as.length with h1|h1|h1
   ·rw[KW h1]at hj
    obtain⟨x',y',e1,e2,e3⟩:=hG.pairs j b hj
    obtain⟨n1,n2,n3,n4,n5⟩:=above b (hG.above b (KJ hj))
    exact⟨x',y',e1,e2,up b _ n5 (hkp b _ n1 n2 n3 n4 e3)⟩
   ·subst h1
    have hb:h.objs.size=b:=by simpa using hj
    subst hb
    exact⟨x,y,by rw[hal];exact hx,by rw[hal];exact hy,up _ _ m5 hT⟩
   ·have hnone:(as++[h.objs.size])[j]? =none:=Lo (by rw[Kn,QZ];omega)
    rw[hnone]at hj;cases hj
  ·have e:(h'.update S (LU (·.push (Kx h.objs.size)))).get? h.objs.size=_:=up _ _ m5 hT
   exact Mb (LA hIs (Kp e))
end
theorem vT:typeLookup (.type "zip") "__len__"=pure none:=by rw[MN,LK];kernel_rfl
theorem uh:typeLookup (.type "zip") "__length_hint__"=pure none:=by rw[MN,LK];kernel_rfl
section
variable {prog:KI}{w:Lp}{A:Lh}{s:Km}{R:Py->Km->Prop}{xs ys:Array tx}{z TI TO i1 i2 l t S:Addr}
theorem rD (hh:A.handled=none)(D:OO z TI TO i1 i2 l t)(nS:S≠z/\S≠TI/\S≠TO/\S≠i1/\S≠i2)(nl:l≠S)(nt:t≠S)(hn:xs.size<=sizeLine)(hlen:xs.size=ys.size)(res:tx)(c₀:Nat)
  (Z:fk s.heap z TI TO i1 i2 l t S 0)(hz0:s.heap.get? z=some (iF .none (.bool false) TI TO))(hl:s.heap.IsList l xs)(ht:s.heap.IsTuple t ys)(hS:s.heap.get? S=some {cls:=.type "list",data:=.seq #[] c₀})
  (hR:∀h' tk acc c as,(∀b o,b∉[z,TI,TO,i1,i2,S]->s.heap.get? b=some o->h'.get? b=some o)->h'.get? S=some {cls:=.type "list",dict:=none,data:=.seq acc c,slots:=#[]}->as.length=xs.size->jo xs ys s.heap.objs.size h' as->
   acc.toList=as.map Kx->R (.ok (.ret res)) {s with heap:=h',toks:=tk}):
  wpAny (model prog w) A.in1 (Lr (.ref S) (.ref z) res)
   (fun fin s'=>match fin with|.done f=>R (.ok f) s'|.again c'=>c'.quiet=true/\codeAny (model prog w) A c' R s') (fun e s'=>R (.error e) s') s:=by
 have hT:s.TypeIs (.ref z) "zip":=⟨_,hz0,rfl⟩
 have below:∀b∈[z,TI,TO,i1,i2,S],b<s.heap.objs.size:=fun b hb=>by
  obtain⟨_,hTI,⟨x,y,hTO⟩,⟨o1,e1,_⟩,⟨o2,e2,_⟩⟩:=Z
  simp only[KD,LL,or_false]at hb
  rcases hb with rfl|rfl|rfl|rfl|rfl|rfl
  ·exact Kp hz0
  ·exact Kp hTI
  ·exact Kp hTO
  ·exact Kp e1
  ·exact Kp e2
  ·exact Kp hS
 have key:∀(h:Heap)(c₁ tk:Nat),h.objs.size=s.heap.objs.size->(∀b o,b≠S->s.heap.get? b=some o->h.get? b=some o)->
   h.get? S=some {cls:=.type "list",data:=.seq #[] c₁}->codeAny (model prog w) A (.builtin "list.extend.loop" ⟨[.ref S,.ref z,res],[]⟩) R {s with heap:=h,toks:=tk}:=by
  intro h c₁ tk hz hk hS₁
  refine wa (s:=s) (h₁:=s.heap) hh D nS nl nt below hn hlen res (fun h' tk' acc c as hk' hS' hl hG hacc=>hR h' tk' acc c as hk' hS' hl hG hacc)
   xs.size 0 h tk c₁ #[] [] (LN _) (KS _) (Z.keepS nS hk) (hl.at fun o e=>hk l o nl e) (ht.at fun o e=>hk t o nt e) (fun b o hb e=>hk b o (fun q=>hb (by rw[q];simp)) e) hS₁ rfl rfl
   ⟨Qd,(fun _ ha=>nomatch ha),(fun j a hj=>by simp at hj)⟩ (Oq hz.symm)
 unfold Lr
 refine cW (OG (T:="zip") hT ?_)
 have h1:MX (.ref S) (.ref z)=false:=by simp[MX,nS.1]
 have h2:(Oi "zip"==Oi "list")=false:=by decide
 have h3:(Oi "zip"==Oi "tuple")=false:=by decide
 simp only[h1,h2,h3,Tp,Mx,if_false]
 refine cW (wpAny_pyIter_zip hz0 ?_)
 refine cW (Md ?_)
 unfold OF
 refine cW (ML hT vT ?_)
 show wpAny _ A.in1 (specialOf (Kx z) (LM "__length_hint__")>>=_) _ _ _
 refine cW (ML hT uh ?_)
 refine Ko ?_
 refine wpAny_ite_split (fun _=>?_) (fun _=>Ko ⟨Pt Ma _,key _ c₀ _ rfl (fun b o _ e=>e) hS⟩)
 refine cW (ON ?_)
 refine cW ?_
 show wpAny _ _ (updateSeq S (·.push .none)>>=fun _=>updateSeq S (·.pop)) _ _ _
 refine cW (NR hS rfl ?_)
 have hS₂:=Lm (LU (·.push MB)) hS rfl
 refine NR (hz:=by seq_fits) hS₂ rfl ?_
 have hS₃:=Lm (LU (·.pop)) hS₂ rfl
 refine Ko ⟨Pt Ma _,key _ _ _ ?_ (fun b o hb e=>?_) hS₃⟩
 ·rw[Pq,Pq]
 ·exact(Lu _ _ (Lj hb)).trans ((Lu _ _ (Lj hb)).trans e)
theorem wn (hh:A.handled=none)(D:OO z TI TO i1 i2 l t)(nS:S≠z/\S≠TI/\S≠TO/\S≠i1/\S≠i2)(nl:l≠S)(nt:t≠S)(hn:xs.size<=sizeLine)(hlen:xs.size=ys.size)
  (Z:fk s.heap z TI TO i1 i2 l t S 0)(hz0:s.heap.get? z=some (iF .none (.bool false) TI TO))(hl:s.heap.IsList l xs)(ht:s.heap.IsTuple t ys)(hS:s.heap.get? S=some {cls:=.type "list",data:=.seq #[]})
  (hR:∀h' tk acc c as,(∀b o,b∉[z,TI,TO,i1,i2,S]->s.heap.get? b=some o->h'.get? b=some o)->h'.get? S=some {cls:=.type "list",dict:=none,data:=.seq acc c,slots:=#[]}->as.length=xs.size->jo xs ys s.heap.objs.size h' as->
   acc.toList=as.map Kx->R (.ok (.ret .none)) {s with heap:=h',toks:=tk}):
  wpAny (model prog w) A.in1 (NC.«list.__init__» ⟨[.ref S,.ref z],[]⟩)
   (fun fin s'=>match fin with|.done f=>R (.ok f) s'|.again c'=>c'.quiet=true/\codeAny (model prog w) A c' R s') (fun e s'=>R (.error e) s') s:=by
 show wpAny _ _ (do let old<-Nh (.ref S);Pb (.ref S) (fun _=>#[]);letGo old.toList.reverse;Lr (.ref S) (.ref z) .none) _ _ s
 refine cW ?_
 unfold Nh
 refine cW (Mr hS rfl (Ko ?_))
 show wpAny _ _ (updateSeq S (fun _=>#[]) >>= fun _=>letGo (#[]:Array tx).toList.reverse >>= fun _=>Lr (.ref S) (.ref z) .none) _ _ s
 refine cW (NR hS rfl ?_)
 have hS₂:=Lm (LU (fun _=>(#[]:Array tx))) hS rfl
 have oth:∀b o,b≠S->s.heap.get? b=some o->(s.heap.update S (LU (fun _=>(#[]:Array tx)))).get? b=some o:=
  fun b o hb e=>(Lu _ _ (Lj hb)).trans e
 refine cW (Pg ?_)
 refine rD (s:={s with heap:=s.heap.update S (LU (fun _=>(#[]:Array tx)))}) hh D nS nl nt hn hlen .none _ (Z.keepS nS oth) (oth _ _ nS.1.symm hz0) (hl.at fun o e=>oth l o nl e) (ht.at fun o e=>oth t o nt e) hS₂ (fun h' tk acc c as hk hS' hl hG hacc=>?_)
 refine hR h' tk acc c as (fun b o hb e=>hk b o hb (oth b o (fun q=>hb (by rw[q];simp)) e)) hS' hl ?_ hacc
 have:(s.heap.update S (LU (fun _=>(#[]:Array tx)))).objs.size=s.heap.objs.size:=Pq ..
 rw[<-this];exact hG
end
section
variable {prog:KI}{w:Lp}{A:Lh}{E:tx->Km->Prop}{s:Km}{xs ys:Array tx}{z TI TO i1 i2 l t:Addr}
theorem uW {Q:tx->Km->Prop}(hh:A.handled=none)(D:OO z TI TO i1 i2 l t)(hn:xs.size<=sizeLine)(hlen:xs.size=ys.size)
  (hz0:s.heap.get? z=some (iF .none (.bool false) TI TO))(hTI:NF s.heap TI (.ref i1) (.ref i2))(hTO:∃a b,NF s.heap TO a b)(j1:s.heap.IsListIter i1 l 0)(j2:s.heap.IsTupleIter i2 t 0)(hl:s.heap.IsList l xs)(ht:s.heap.IsTuple t ys)
  (hQ:∀h' tk acc c as,(∀b o,b∉[z,TI,TO,i1,i2]->s.heap.get? b=some o->h'.get? b=some o)->h'.get? s.heap.objs.size=some {cls:=.type "list",dict:=none,data:=.seq acc c,slots:=#[]}->as.length=xs.size->jo xs ys (s.heap.objs.size+1) h' as->
   acc.toList=as.map Kx->Q (.ref s.heap.objs.size) {s with heap:=h',toks:=tk}):
  wpAny (model prog w) A (call (.type "list") [.ref z]) Q E s:=by
 refine callType_codes (Q₁:=fun obj s₁=>obj=.ref s.heap.objs.size/\s₁={s with heap:=s.heap.push {cls:=.type "list",data:=.seq #[]}}) So (Rl _) Rm
  (code_list_new _ ⟨rfl,rfl⟩) fun obj s₁ h₁=>?_
 obtain⟨rfl,rfl⟩:=h₁
 have hS:(s.heap.push {cls:=.type "list",data:=.seq #[]}).get? s.heap.objs.size=some {cls:=.type "list",data:=.seq #[]}:=Kt _ rfl
 have up:∀b o,s.heap.get? b=some o->(s.heap.push {cls:=.type "list",data:=.seq #[]}).get? b=some o:=fun b o e=>gV _ e
 obtain⟨a,b,hTO⟩:=hTO
 have nn:∀b o,s.heap.get? b=some o->s.heap.objs.size≠b:=fun b o e=>Mm (Kp e)
 have nS:s.heap.objs.size≠z/\s.heap.objs.size≠TI/\s.heap.objs.size≠TO/\s.heap.objs.size≠i1/\s.heap.objs.size≠i2:=by
  obtain⟨o1,e1,_⟩:=j1
  obtain⟨o2,e2,_⟩:=j2
  exact⟨nn _ _ hz0,nn _ _ hTI,nn _ _ hTO,nn _ _ e1,nn _ _ e2⟩
 have nl:l≠s.heap.objs.size:=by obtain⟨o,e,_⟩:=hl;exact(nn _ _ e).symm
 have nt:t≠s.heap.objs.size:=by obtain⟨o,e,_⟩:=ht;exact(nn _ _ e).symm
 refine⟨⟨_,hS,rfl⟩,QV _ _,wn (s:={s with heap:=s.heap.push {cls:=.type "list",data:=.seq #[]}}) (A:=A.in1) hh D nS nl nt hn hlen
  ⟨.inl ⟨rfl,up _ _ hz0⟩,up _ _ hTI,⟨a,b,up _ _ hTO⟩,j1.at fun o e=>up _ o e,j2.at fun o e=>up _ o e⟩ (up _ _ hz0) (hl.at fun o e=>up _ o e) (ht.at fun o e=>up _ o e) hS (fun h' tk acc c as hk hS' hl hG hacc=>?_)⟩
 refine⟨rfl,hQ h' tk acc c as (fun b o hb e=>hk b o (fun q=>?_) (up b o e)) hS' hl ?_ hacc⟩
 ·simp only[KD,LL,or_false]at q hb
  rcases q with q|q|q|q|q|q
  ·exact hb (.inl q)
  ·exact hb (.inr (.inl q))
  ·exact hb (.inr (.inr (.inl q)))
  ·exact hb (.inr (.inr (.inr (.inl q))))
  ·exact hb (.inr (.inr (.inr (.inr q))))
  ·exact nn b o e q.symm
 ·have:(s.heap.push {cls:=.type "list",data:=.seq #[]}).objs.size=s.heap.objs.size+1:=MA ..
  rw[<-this];exact hG
abbrev CW (l:Addr):Obj:={cls:=.type "list_iterator",data:=.fields #[.ref l,.int 0 0]}
abbrev zm1 (h:Heap)(t1:Addr):Heap:=h.push (CW t1)
abbrev zm2 (h:Heap)(t1 t2:Addr):Heap:=(zm1 h t1).push (itO t2)
abbrev zm3 (h:Heap)(t1 t2:Addr):Heap:=(zm2 h t1 t2).push {cls:=.type "tuple",data:=.seq #[.ref h.objs.size,.ref (zm1 h t1).objs.size]}
abbrev zm4 (h:Heap)(t1 t2:Addr):Heap:=(zm3 h t1 t2).push {cls:=.type "tuple",data:=.seq #[.none,.none]}
abbrev zm5 (h:Heap)(t1 t2:Addr):Heap:=(zm4 h t1 t2).push {cls:=.type "zip",data:=.fields #[.none,.bool false,.bool false,.ref (zm2 h t1 t2).objs.size,.ref (zm3 h t1 t2).objs.size]}
theorem xf (t1 t2:Addr)(xs ys:Array tx):
  Meets (NC.«zip.__new__» ⟨[.type "zip",.ref t1,.ref t2],[]⟩) (fun _ R s=>s.heap.IsList t1 xs/\s.heap.IsTuple t2 ys/\R (.ok (.ret (.ref (zm4 s.heap t1 t2).objs.size))) {s with heap:=zm5 s.heap t1 t2}):=
 .of_wp fun prog w A R s h=>by
  obtain⟨hp,g,d,tk,os⟩:=s;obtain⟨hl1,hl2,h⟩:=h
  have hsub:=sub_zip
  have hL1:Heap.IsList (Tf ⟨hp,g,d,tk,os⟩) t1 xs:=hl1
  have hL2:Heap.IsTuple (Tf ⟨hp.push (CW t1),g,d,tk,os⟩) t2 ys:=hl2.at fun o e=>gV _ e
  wp_walk using PQ hL1,Tc hL2
  exact⟨_,rfl,h⟩
theorem wR {t1 t2:Addr}{Q:tx->Km->Prop}(hl1:s.heap.IsList t1 xs)(hl2:s.heap.IsTuple t2 ys)
  (h:∀h',h'.get? (s.heap.objs.size+4)=some (iF .none (.bool false) (s.heap.objs.size+2) (s.heap.objs.size+3))->NF h' (s.heap.objs.size+2) (.ref s.heap.objs.size) (.ref (s.heap.objs.size+1))->(∃a b,NF h' (s.heap.objs.size+3) a b)->
   h'.IsListIter s.heap.objs.size t1 0->h'.IsTupleIter (s.heap.objs.size+1) t2 0->h'.objs.size=s.heap.objs.size+5->(∀c o,s.heap.get? c=some o->h'.get? c=some o)->Q (.ref (s.heap.objs.size+4)) {s with heap:=h'}):
  wpAny (model prog w) A (call (.type "zip") [.ref t1,.ref t2]) Q E s:=by
 refine callType_new F.called_zip (by decide) (F.typeCall_zip_2 _ _) (F.newCall_zip_2 _ _) (fun obj=>F.args_object_init_3 obj _ _) F.entry_zip_new (xf t1 t2 xs ys) ⟨hl1,hl2,?_⟩
 have z1:(zm1 s.heap t1).objs.size=s.heap.objs.size+1:=MA ..
 have z2:(zm2 s.heap t1 t2).objs.size=s.heap.objs.size+2:=by rw[MA,z1]
 have z3:(zm3 s.heap t1 t2).objs.size=s.heap.objs.size+3:=by rw[MA,z2]
 have z4:(zm4 s.heap t1 t2).objs.size=s.heap.objs.size+4:=by rw[MA,z3]
 have z5:(zm5 s.heap t1 t2).objs.size=s.heap.objs.size+5:=by rw[MA,z4]
 have g5:(zm5 s.heap t1 t2).get? (zm4 s.heap t1 t2).objs.size=some _:=Kt _ rfl
 have g4:(zm5 s.heap t1 t2).get? (zm3 s.heap t1 t2).objs.size=some _:=gV _ (Kt _ rfl)
 have g3:(zm5 s.heap t1 t2).get? (zm2 s.heap t1 t2).objs.size=some _:=gV _ (gV _ (Kt _ rfl))
 have g2:(zm5 s.heap t1 t2).get? (zm1 s.heap t1).objs.size=some _:=gV _ (gV _ (gV _ (Kt _ rfl)))
 have g1:(zm5 s.heap t1 t2).get? s.heap.objs.size=some _:=gV _ (gV _ (gV _ (gV _ (Kt _ rfl))))
 show _/\_
 rw[z2,z3,z4]at g5
 rw[z1,z2]at g3
 rw[z3]at g4
 rw[z1]at g2
 rw[z4]
 exact⟨⟨_,g5,rfl⟩,h _ g5 g3 ⟨_,_,g4⟩ ⟨_,g1,rfl,rfl⟩ ⟨_,g2,rfl,rfl⟩ z5 fun c o x=>gV _ (gV _ (gV _ (gV _ (gV _ x))))⟩
end
end HT
namespace L2
open PySem PySem.Spec PyProof.Rows
section
variable {X:Cx}{pins:List (Addr×Obj)}{σ:St}{H:Hp}{s:Km}{h':Heap}
theorem rK {tk:Nat}{us vs:List V}{xs ys:List tx}{lo:Addr}{as:List Addr}(I:Inv X pins σ H s)(k:∀b o,s.heap.get? b=some o->h'.get? b=some o)(hlo:s.heap.objs.size<=lo)(r1:bc us xs)(r2:bc vs ys)(G:HT.jo xs.toArray ys.toArray lo h' as):
  ∀n,n<=as.length->∃H',aA H H'/\(∀j a x y,j<n->as[j]? =some a->us[j]? =some x->vs[j]? =some y->H' a=some (.tup [x,y]))/\(∀b,H b=none->b∉as.take n->H' b=none)/\Inv X pins σ H' {s with heap:=h',toks:=tk}:=by
 intro n
 induction n with
 |zero=>intro _;exact⟨H,aA.rfl',fun j a x y h=>absurd h (by omega),fun b e _=>e,I.kept (t':=tk) k⟩
 |succ n ih=>
  intro hn
  obtain⟨H1,S1,t1,f1,I1⟩:=ih (by omega)
  have hlt:n<as.length:=hn
  have ea:as[n]? =some as[n]:=If hlt
  obtain⟨x,y,e1,e2,e3⟩:=G.pairs n _ ea
  have hxl:n<xs.length:=by have:=(Ms.mp e1).1;simpa using this
  have hyl:n<ys.length:=by have:=(Ms.mp e2).1;simpa using this
  obtain⟨u,hu⟩:∃u,us[n]? =some u:=⟨_,If (by rw[r1.length];exact hxl)⟩
  obtain⟨v,hv⟩:∃v,vs[n]? =some v:=⟨_,If (by rw[r2.length];exact hyl)⟩
  obtain⟨x',gx,rx⟩:=r1.get hu
  obtain⟨y',gy,ry⟩:=r2.get hv
  have ex:x'=x:=by have:xs[n]? =some x:=by simpa using e1
                   exact KG (gx.symm.trans this)
  have ey:y'=y:=by have:ys[n]? =some y:=by simpa using e2
                   exact KG (gy.symm.trans this)
  subst ex ey
  have ge:s.heap.objs.size<=as[n]:=KN hlo (G.above _ (KJ ea))
  have nin:as[n]∉as.take n:=fun hm=>by
   obtain⟨j,hj⟩:=MV.mp hm
   have hjn:j<n:=by have:=(Kr.mp hj).1;rw[Mu]at this;omega
   rw[RT,if_pos hjn]at hj
   have:=List.pairwise_iff_getElem.mp G.rise j n (by omega) hlt hjn
   rw[(Kr.mp hj).2]at this
   exact Ml _ this
  have hfree:H1 as[n]=none:=f1 _ (I.hok.fresh ge) nin
  have I2:Inv X pins σ (upd H1 as[n] (.tup [u,v])) {s with heap:=h',toks:=tk}:=Inv.track2 I I1 ge hfree ⟨by show 2<=sizeLine;decide,[x',y'],.cons rx (.cons ry .nil),⟨_,e3,rfl,_,rfl⟩⟩
  refine⟨_,S1.trans (aA.upd hfree),fun j a x y hj ha hx hy=>?_,fun b e hb=>?_,I2⟩
  ·rcases Nat.lt_or_eq_of_le (Nat.le_of_lt_succ hj)with h|h
   ·exact aA.upd hfree _ _ (t1 j a x y h ha hx hy)
   ·subst h
    rw[ea]at ha;cases ha
    rw[hu]at hx;cases hx
    rw[hv]at hy;cases hy
    exact au
  ·have nb:b≠as[n]:=fun q=>hb (by rw[q];exact MV.mpr ⟨n,by rw[RT,if_pos (Mg _)];exact ea⟩)
   rw[aC nb]
   exact f1 b e fun q=>hb (by rw[Tb];exact Lb _ q)
def qP (K:pv):List V->Hp->VK->Prop:=fun xs H Q=>∃c d us vs,xs=[.ref c,.ref d]/\SqL K H c us/\SqT K H d vs/\us.length=vs.length/\
 ∀(l:Addr)(ps:List Addr)(H':Hp),H l=none->aA H H'->ps.length=us.length->(∀(j:Nat)(p:Addr)(x y:V),ps[j]?=some p->us[j]?=some x->vs[j]?=some y->H' p=some (.tup [x,y]))->H' l=some (.lst (ps.map V.ref))->Q (.ref l) H'
theorem xc {Q:VK}{c d:Addr}{us vs:List V}(hc:X.calm=true)(I:Inv X pins σ H s)(hx:SqL X.K H c us)(hy:SqT X.K H d vs)(hl:us.length=vs.length)
  (q:∀(l:Addr)(ps:List Addr)(H':Hp),H l=none->aA H H'->ps.length=us.length->(∀(j:Nat)(p:Addr)(x y:V),ps[j]?=some p->us[j]?=some x->vs[j]?=some y->H' p=some (.tup [x,y]))->H' l=some (.lst (ps.map V.ref))->Q (.ref l) H'):
  wpAny (model X.prog X.w) X.A (call (.type "zip") [.ref c,.ref d]) (fun u s2=>wpAny (model X.prog X.w) X.A (call (.type "list") [u]) (EP X pins σ Q) X.xe s2) X.xe s:=by
 obtain⟨its,r1,p1,hz1⟩:=I.list hx
 obtain⟨its2,r2,p2,_⟩:=I.tuple hy
 have l1:=r1.length
 have l2:=r2.length
 have hL:s.heap.IsList c its.toArray:=p1.isList
 have hT:s.heap.IsTuple d its2.toArray:=p2
 have lt1:c<s.heap.objs.size:=by obtain⟨o,e,_⟩:=hL;exact Kp e
 have lt2:d<s.heap.objs.size:=by obtain⟨o,e,_⟩:=hT;exact Kp e
 refine HT.wR hL hT fun h1 y1 y2 y3 y4 y5 hsz hk=>?_
 refine HT.uW (s:={s with heap:=h1}) (I.ok.hd hc) (zipApart_new lt1 lt2) (by rw[Ks];omega) (by rw[Ks,Ks];omega) y1 y2 y3 y4 y5 (hL.at fun o e=>hk _ o e) (hT.at fun o e=>hk _ o e) fun h2 tk acc cc as hk2 hS hla hG hacc=>?_
 have hsz1:({s with heap:=h1}:Km).heap.objs.size=s.heap.objs.size+5:=hsz
 rw[hsz1]at hS hG⊢
 have kk:∀b o,s.heap.get? b=some o->h2.get? b=some o:=fun b o e=>hk2 b o (fun z=>by
  have hb:=Kp e
  simp only[KD,LL,or_false]at z
  rcases z with rfl|rfl|rfl|rfl|rfl<;>exact absurd hb (Nat.not_lt.mpr (by first|exact Gt _|exact ND _ _))) (hk b o e)
 obtain⟨H',S',tr,fr,I'⟩:=rK (tk:=tk) I kk (KN (ND _ 5) (MO _)) r1 r2 hG as.length (Gt _)
 have hSfree:H' (s.heap.objs.size+5)=none:=fr _ (I.hok.fresh (ND _ _)) fun hm=>by
  have:=hG.above _ (Ow hm)
  exact absurd this (Nat.not_le.mpr (Mg _))
 have rr:bc (as.map V.ref) (as.map Kx):=by
  clear q tr fr hla hG hacc
  induction as with
  |nil=>exact .nil
  |cons a r ih=>exact .cons rfl ih
 have hla':as.length=us.length:=by rw[hla,Ks];omega
 have I2:Inv X pins σ (upd H' (s.heap.objs.size+5) (.lst (as.map V.ref))) {s with heap:=h2,toks:=tk}:=Inv.track2 I I' (ND _ _) hSfree ⟨by rw[pz,hla'];exact hz1,as.map Kx,cc,rr,by rw[hS,<-hacc]⟩
 exact⟨.ref (s.heap.objs.size+5),_,I2,rfl,q _ as _ (I.hok.fresh (ND _ _)) (S'.trans (aA.upd hSfree)) hla' (fun j p x y hj hx hy=>aA.upd hSfree _ _ (tr j p x y (Kr.mp hj).1 hj hx hy)) au⟩
end
section
variable {X:Cx}{a b:Expr}{t:TA}{p1 p2 pos1 pos2:Pos}
theorem uZ (hm1:X.mg "list"=none)(hm2:X.mg "zip"=none)(hc:X.calm=true)(ha:QA X [a,b] t)(hg1:Gl X "list":=by rfl)(hg2:Gl X "zip":=by rfl)(hs:bq [a,b]=true:=by rfl):
  QE X (.Call (.Name "list" p1) [.Call (.Name "zip" p2) [a,b] [] pos2] [] pos1) (tCB (qP X.K) t):=⟨fun pins s σ H Q I h=>by
 have h':(bU a&&bq [b])=true:=hs
 refine Lx (eI I hg1 hm1 se ?_ (by decide) (by decide))
 refine Ls ?_ rfl rfl
 show wpAny _ _ (spliced ((false,eval (.Call (.Name "zip" p2) [a,b] [] pos2) X.env)::backTo pos1 (starEach [] X.env))) _ _ s
 refine OL ?_
 refine Lx (eI I hg2 hm2 CS ?_ (by decide) (by decide))
 refine Ls (thn (ha.out pos2 pins s σ H _ I h) fun us s1 ⟨vs,H1,I1,r1,q1⟩=>?_)
  (bh (Ku.mp h').1 [b] X.env) (cf (Ku.mp h').2)
 obtain⟨c,d,xs,ys,rfl,hx,hy,hl,q⟩:=q1
 obtain⟨u,w',rfl,ru,rw'⟩:=uj r1
 cases ru
 cases rw'
 refine KU (xc hc I1 hx hy hl q) (fun u s2 z=>?_) fun _ _ z=>z
 exact OV z⟩
end
def zm (K:pv)(a:Addr)(n:Nat):It where
 go:=fun i H=>i<n/\∃xs,SqL K H a xs/\xs.length=n
 yld:=fun i H x H'=>H'=H/\∀xs,SqL K H a xs->xs[n- 1- i]?=some x
 stop:=fun i _=>n<=i
theorem wW {P:KI}{w:Lp}{K:pv}{tg:Expr}(a it:Addr)(n:Nat):ju P w K tg (zm K a n) [it] it (fun i h=>i<=n/\h.IsRevIter it a ((n:Int)- 1- i))where
 mem:=by simp
 obj:=fun i h st b hb=>by
  have e:b=it:=by simpa using hb
  subst e
  obtain⟨_,o,e,c,d⟩:=st
  exact⟨o,e,fun v z=>by rw[d]at z;cases z⟩
 keep:=fun i h h' st k=>⟨st.1,st.2.at fun o e=>k it (by simp) o e⟩
 item:=by
  intro X hP hw hK hc i pins s σ H E I hf st hg
  subst hP hw hK
  obtain⟨hi,xs,hq,hl⟩:=hg
  obtain⟨its,rv,p,hz⟩:=I.list hq
  obtain⟨x,hx⟩:∃x,xs[n- 1- i]?=some x:=⟨_,If (by omega)⟩
  obtain⟨u,hu,ru⟩:=rv.get hx
  obtain⟨f0,f1,f2,f3,f4,f5⟩:=hf it (by simp)
  have st2:=st.2
  rw[show(n:Int)- 1- i=((n- 1- i:Nat):Int)by omega]at st2
  refine wpAny_pyNext_rev_item st2 p.isList (x:=u) (by simpa using hu) fun h' st' sb=>?_
  have I1:Inv X pins σ H {s with heap:=h'}:=I.turned (t':=s.toks) (fun b o hb e=>(sb.2 b hb).trans e) f0 f1 f3 f4 f5
  obtain⟨o,e1,c,d⟩:=id st'
  refine⟨u,rfl,jR (s:={s with heap:=h'}) e1 c d (by decide) ⟨x,H,I1,ru,⟨rfl,fun ys hy=>by rw[I.list_inj hy hq];exact hx⟩,⟨hi,?_⟩,fun b hb=>(hf b hb).1⟩⟩
  rw[show(n:Int)- 1- ((i+1:Nat):Int)=((n- 1- i:Nat):Int)- 1 by omega];exact st'
 done:=by
  intro X hP hw hK hc i pins s σ H E I hf st hg
  subst hP hw hK
  obtain⟨f0,f1,f2,f3,f4,f5⟩:=hf it (by simp)
  have hg:n<=i:=hg
  have hi:=st.1
  have st2:=st.2
  rw[show(n:Int)- 1- i= -1 by omega]at st2
  exact wpAny_pyNext_rev_end (I.ok.hd hc) st2 fun h' eb=>⟨rfl,I.turned (t':=s.toks) (fun b o hb e=>eb b o hb e) f0 f1 f3 f4 f5⟩
 self:=fun _ _ _ _ _ st h=>SG st.2 h
theorem da.revL {K:pv}{a:Addr}{xs:List V}(d:V):da (zm K a xs.length) xs.length (fun i=>xs.reverse.getD i d) (fun H=>SqL K H a xs)where
 go:=fun i H hi h=>⟨hi,xs,h,rfl⟩
 yld:=fun i H x H' hi h y=>⟨y.1,by rw[KA,LX hi,y.2 xs h];rfl⟩
 stop:=fun H h=>Gt _
section
variable {X:Cx}{a:Expr}{t:TA}{p pos:Pos}{tg:Expr}
def zC (K:pv)(t:TA):TI:=fun σ H R=>t σ H fun vs H1=>∃c xs,vs=[.ref c]/\((SqL K H1 c xs/\R (zm K c xs.length) H1)\/(SqT K H1 c xs/\R (Ei K c xs) H1))
theorem Dh (hm:X.mg "reversed"=none)(ha:QA X [a] t)(hg:Gl X "reversed":=by rfl)(hs:bq [a]=true:=by rfl):QI X tg (.Call (.Name "reversed" p) [a] [] pos) (zC X.K t):=⟨fun pins s σ H R I h=>by
 have h':(bU a&&bq [])=true:=hs
 refine Lx (eI I hg hm kJ ?_ (by decide) (by decide))
 refine Ls (thn (ha.out pos pins s σ H _ I h) fun us s1 ⟨vs,H1,I1,r1,q1⟩=>?_)
  (bh (Ku.mp h').1 [] X.env) (cf (Ku.mp h').2)
 obtain⟨c,xs,rfl,q1⟩:=q1
 obtain⟨u,rfl,ru⟩:=fE r1
 cases ru
 rcases q1 with⟨hq,q⟩|⟨hq,q⟩
 ·obtain⟨its,rv,p,hz⟩:=I1.list hq
  have hl:=rv.length
  refine Td p.isList ?_
  have st:(s1.heap.push (revObj c ((its.toArray.size:Int)- 1))).IsRevIter s1.heap.objs.size c ((xs.length:Int)- 1- ((0:Nat):Int)):=by
   refine⟨_,Kt _ rfl,rfl,?_⟩
   have e:(xs.length:Int)- 1- ((0:Nat):Int)=(its.toArray.size:Int)- 1:=by rw[Ks];omega
   rw[e];rfl
  refine SG (s:={s1 with heap:=s1.heap.push (revObj c ((its.toArray.size:Int)- 1))}) st ?_
  refine⟨s1.heap.objs.size,[s1.heap.objs.size],_,_,H1,rfl,I1.kept (t':=s1.toks) fun b o e=>gV _ e,wW c _ xs.length,⟨KS _,st⟩,fun b hb=>?_,q⟩
  have e:b=s1.heap.objs.size:=by simpa using hb
  subst e
  exact I1.fpOk (Gt _) (I1.hok.fresh (Gt _))
 ·obtain⟨its,rv,p,hz⟩:=I1.tuple hq
  have hl:=rv.length
  refine HT.je (show QL s1.heap c its.toArray from p) (by rw[Ks];rw[Mi]at hz;omega) ?_
  have st:HT.gK (s1.heap.push (HT.rq c ((its.toArray.size:Int)- 1))) s1.heap.objs.size c ((xs.length:Int)- 1- ((0:Nat):Int)):=by
   show(s1.heap.push _).get? _=_
   have e:(xs.length:Int)- 1- ((0:Nat):Int)=(its.toArray.size:Int)- 1:=by rw[Ks];omega
   rw[e]
   exact Kt _ rfl
  refine HT.qF (s:={s1 with heap:=s1.heap.push (HT.rq c ((its.toArray.size:Int)- 1)),toks:=s1.toks+1+1}) st ?_
  refine⟨s1.heap.objs.size,[s1.heap.objs.size],_,_,H1,rfl,I1.kept (t':=s1.toks+1+1) fun b o e=>gV _ e,xi c _ xs,⟨KS _,st⟩,fun b hb=>?_,q⟩
  have e:b=s1.heap.objs.size:=by simpa using hb
  subst e
  exact I1.fpOk (Gt _) (I1.hok.fresh (Gt _))⟩
end
end L2
namespace HT
open PySem PySem.W PyProof.Rows
abbrev kY (C t:Addr)(d:Option Addr):Obj:={cls:=.ref C,dict:=d,data:=.fields #[.ref t,.none,.none,.none,.bool false,.none]}
abbrev hU (h:Heap)(C:Addr)(us:List tx):Heap:=(h.push {cls:=.type "tuple",data:=.seq us.toArray}).push (kY C h.objs.size none)
section
variable {prog:KI}{w:Lp}{A:Lh}{K:Frag}{C f:Addr}{R:Py->Km->Prop}{h:Heap}{g:Array Pz}{d:Drawn}{t:Nat}{os:OsState}
theorem zo {us:List tx}(X:K.In h)(hC:L2.dD K C)(hi:findIn K (.ref C) "__init__"=some (some (.ref f)))(hf:typeIn K (.ref f)=some (.type "function"))(hus:us.length<=sizeLine)
  (hq:codeAny (model prog w) (A.under (.builtin "type.__call__" ⟨.ref C::us,[]⟩)) (.call (.ref f) ⟨.ref (h.objs.size+1)::us,[]⟩) (InitBack (h.objs.size+1) R) ⟨hU h C us,g,d,t,os⟩):
  codeAny (model prog w) A (.call (.ref C) ⟨us,[]⟩) R ⟨h,g,d,t,os⟩:=by
 obtain⟨bm,N,nm,qn,bs,hdct,sn,sub,ab,col,dd,k0,k1,k2,k3,k5,mN,oC,hN,_,T,_⟩:=L2.iu X hC
 have f1:=tc_lookup
 have f2:=tc_bind (.ref C)
 have hT:(⟨h,g,d,t,os⟩:Km).TypeIs (.ref C) "type":=⟨_,oC,rfl⟩
 have FB:=F.excBase_ValueError
 have hBn:(L2.veM).contains (.type "ValueError")=true:=by decide+kernel
 refine codeAny_of_tree ?_
 show wpAny _ _ (callAny (.ref C) _) _ _ _
 repeat (any_goals (first|assumption|with_reducible refine MM oC ?_ |wp_step))
 refine⟨rfl,?_⟩
 refine codeAny_call_builtin_at (RK _ (by decide+kernel)) entry_typeCall (wpAny_check_type_call_sub oC ?_)
 repeat (first|with_reducible refine MM oC ?_ |with_reducible refine wpAny_madeBy_exc oC ?_ |wp_step)
 refine codeAny_call_builtin_code (RK _ FB.quiet) (wpAny_check_new_subU FB hBn T oC ?_)
 refine codeAny_exc_new_subU FB hBn FB T oC ?_ hus
 show wpAny _ _ _ _ _ _
 have k:∀b o,h.get? b=some o->(hU h C us).get? b=some o:=fun b o e=>gV _ (gV _ e)
 have hx:(hU h C us).get? (h.objs.size+1)=some (kY C h.objs.size none):=by heap_get
 have oC1:=k _ _ oC
 have hcC:(Kx C::bm).contains (.ref C)=true:=by simp
 have t1:Looks (model prog w) (hU h C us) (typeOf (.ref (h.objs.size+1))) (.ref C):=(Looks.ld hx).andThen .now
 have i1:=(looks_findIn (M:=model prog w) X hi).keeps k
 have b1:=(bind_fn (M:=model prog w) X (.ref (h.objs.size+1)) hf).keeps k
 unfold isInstance
 repeat (first|with_reducible refine MM hx ?_ |(with_reducible refine MP oC1 ?_;rw[hcC])|wp_step)
 show wpAny _ _ (isSubtype (.ref C) (.ref C)) _ _ ⟨hU h C us,g,d,t,os⟩
 refine MP oC1 ?_
 rw[hcC,if_neg (by decide)]
 unfold callSpecial? specialOf
 repeat (first|with_reducible refine PR ?_ |lk)
 refine Nd hq fun r s' z=>?_
 rcases r with e|(v|_|_|_)<;>first|exact z|exact z.elim|skip
 obtain⟨rfl,z⟩:=z
 exact Ko (Ko z)
end
end HT
namespace HT
open PySem PySem.W PyProof.Rows
open Builtin Builtin.ObjectAttr
theorem rF (self:tx){h:Heap}{bm:List tx}(T:OwnTail h L2.veM bm):refuseLoop self "__setattr__" bm=pure ():=by
 induction T with
 |base=>exact PySem.F.store_ValueError.passes self
 |own _ _ _ _ ih=>rw[refuseLoop_ref];exact ih
structure ix (K:Frag)(C:Addr)(name:Str):Prop where
 ok:L2.dD K C
 sa:findIn K (.ref C) "__setattr__"=some (some (.builtin "object.__setattr__"))
 eg:L2.wD K C
 no:findIn K (.ref C) name=some none
 hd:hasDictIn K C=true
section
variable {prog:KI}{w:Lp}{A:Lh}{E:tx->Km->Prop}{s:Km}{K:Frag}{x C:Addr}{name:Str}{v:tx}
theorem sm {ox:Obj}{od:Option Obj}{tk:Tok}{R:Py->Km->Prop}(X:K.In s.heap)(I:InstAt s.heap x ox C od)(G:ix K C name)
  (h:wpAny (model prog w) A.in1 (storeInOwnDict (.ref x) (.ref C) (.str name tk) name v false)
   (fun fin s'=>match fin with|.done f=>R (.ok f) s'|.again c'=>c'.quiet=true/\codeAny (model prog w) A c' R s') (fun e s'=>R (.error e) s') s):
  codeAny (model prog w) A (.call (.builtin "object.__setattr__") ⟨[.ref x,.str name tk,v],[]⟩) R s:=by
 have SF:=PySem.F.store_object
 obtain⟨bm,N,nm,qn,bs,hdct,sn,sub,ab,col,dd,k0,k1,k2,k3,k5,mN,oC,hN,_,T,_⟩:=L2.iu X G.ok
 have hm:Looks (model prog w) s.heap (mroOf (.ref C)) (.ref C::bm):=((Looks.ld (part:=none) oC).andThen .now).andThen .now
 have hsub:Looks (model prog w) s.heap (isSubtype (.ref C) (.type "object")) true:=fun A' Q' E' s' k q=>by
  obtain⟨hh,g,d,t,os⟩:=s'
  refine MP (k _ _ oC) ?_
  rw[OR,T.hasType (X:="object") (b:=true) (by decide+kernel),Rb];exact q
 have hsub':Looks (model prog w) s.heap (isInstance (.ref x) (.type "object")) true:=I.type.andThen hsub
 refine codeAny_call_builtin SF.slot.plain SF.entry (@check_slot (model prog w) _ _ s "object.__setattr__" "object" "__setattr__" (.ref x) [.str name tk,v] [] _ SF.kind SF.split hsub' (SF.args (.ref x) (.str name tk) v) ?_)
 rw[osa_eq,refuse_eq]
 refine cW (cW (I.type.here (cW (hm.here ?_))))
 rw[refuseLoop_ref,rF _ T]
 exact Ko (cW (I.type.here (cW ((looks_findIn X G.no).here (cW (Ko h))))))
theorem AM {ox:Obj}{dx:Addr}{mA:Str->Option tx}{ns:List Str}{Q:Unit->Km->Prop}(X:K.In s.heap)(hx:s.heap.get? x=some ox)(hc:ox.cls=.ref C)(hdx:ox.dict=some dx)(hf:∃vs,ox.data=.fields vs)(hn:s.heap.Ns1 dx mA)(ne:dx≠x)(G:ix K C name)
  (hw:Within mA ns)(hsz:ns.length<=sizeLine)(h:∀h' t',h'.Ns1 dx (fun y=>if y=name then some v else mA y)->Mw dx s.heap h'->Q () {s with heap:=h',toks:=t'}):wpAny (model prog w) A (setAttr (.ref x) name v) Q E s:=by
 obtain⟨vs,hvs⟩:=hf
 obtain⟨oc,od,odt,osl⟩:=ox
 dsimp only at hc hdx hvs
 subst hc hdx hvs
 obtain⟨oD0,esD0,epD0,hoD0,_⟩:=id hn
 have J:InstAt s.heap x _ C (some oD0):=⟨hx,rfl,rfl,hoD0⟩
 refine set_plain X J G.sa (sm (s:={s with toks:=s.toks+1}) X J G ?_)
 obtain⟨cd,hcc,hd'⟩:=any_some G.hd
 refine cW (Ko (cW (cW (Re hx (cW (Looks.here (s:={s with toks:=s.toks+1}) (looks_clsIn X hcc) ?_))))))
 rw[hd']
 refine Ko (a:=some dx) (cW (Ko (cW ?_)))
 refine Sb (s:={s with toks:=s.toks+1}) hn fun h' hn2 hs2=>?_
 obtain⟨oD,esD,epD,hoD,hdD,hcD⟩:=hn2.count (PF name v hw)
 refine cW (Qm hoD (by rw[hdD];exact Qn (KN hcD (by rw[KH];omega))) ?_)
 exact Ko (h _ _ hn2 hs2)
theorem xm {ox:Obj}{Q:Unit->Km->Prop}(X:K.In s.heap)(hx:s.heap.get? x=some ox)(hc:ox.cls=.ref C)(hdx:ox.dict=none)(hf:∃vs,ox.data=.fields vs)(G:ix K C name)
  (h:∀h' t',h'.get? x=some {ox with dict:=some s.heap.objs.size}->h'.Ns1 s.heap.objs.size (fun y=>if y=name then some v else none)->(∀b o,b≠x->s.heap.get? b=some o->h'.get? b=some o)->Q () {s with heap:=h',toks:=t'}):
  wpAny (model prog w) A (setAttr (.ref x) name v) Q E s:=by
 obtain⟨vs,hvs⟩:=hf
 obtain⟨oc,od,odt,osl⟩:=ox
 dsimp only at hc hdx hvs
 subst hc hdx hvs
 have J:InstAt s.heap x _ C none:=⟨hx,rfl,rfl,trivial⟩
 refine set_plain X J G.sa (sm (s:={s with toks:=s.toks+1}) X J G ?_)
 obtain⟨cd,hcc,hd'⟩:=any_some G.hd
 refine cW (Ko (cW (cW (Re hx (cW (Looks.here (s:={s with toks:=s.toks+1}) (looks_clsIn X hcc) ?_))))))
 rw[hd']
 show wpAny _ _ (alloc {cls:=.type "dict",data:=.dict #[]}>>=fun d=>update x (fun o=>{o with dict:=some d})>>=fun _=>pure (some d)) _ _ _
 have xs:x≠s.heap.objs.size:=KQ (Kp hx)
 have hx1:(s.heap.push {cls:=.type "dict",data:=.dict #[]}).get? x=some _:=gV _ hx
 refine cW (wpAny_alloc' (cW (wpAny_update' hx1 (Ko ?_))))
 generalize hh2:((s.heap.push {cls:=.type "dict",data:=.dict #[]}).update x fun o=>{o with dict:=some s.heap.objs.size})=h2
 have hx2:h2.get? x=some ⟨.ref C,some s.heap.objs.size,.fields vs,osl⟩:=by rw[<-hh2];exact Lm _ hx1 rfl
 have hd2:h2.get? s.heap.objs.size=some {cls:=.type "dict",data:=.dict #[]}:=by rw[<-hh2];exact(Rw _ _ _ _ xs.symm).trans (Heap.get?_push_at rfl rfl)
 have k2:∀b o,b≠x->s.heap.get? b=some o->h2.get? b=some o:=fun b o nb e=>by rw[<-hh2];exact(Rw _ _ _ _ nb).trans (gV _ e)
 have n2:h2.Ns s.heap.objs.size (fun _=>none):=⟨_,#[],_,hd2,rfl,fun e he=>absurd he (by simp),fun _=>rfl⟩
 show wpAny _ _ (storeInDict s.heap.objs.size (.str name s.toks) name v) _ _ {s with heap:=h2,toks:=s.toks+1}
 unfold storeInDict newKeyGuard
 refine cW (Ko (cW (Sb (s:={s with heap:=h2,toks:=s.toks+1}) (QU n2) fun h' hn' hs=>?_)))
 obtain⟨oD,esD,epD,hoD,hdD,hcD⟩:=hn'.count (PF name v Within.nil)
 refine cW (Qm hoD (by rw[hdD];exact Qn (KN hcD (by rw[KH,SQ,Mi];omega))) ?_)
 exact Ko (h _ _ ((hs.2 x xs).trans hx2) hn' fun b o nb e=>(hs.2 b (KQ (Kp e))).trans (k2 b o nb e))
end
end HT
namespace L2
open PySem PySem.Spec PyProof.Rows
def fh (C a:Addr)(d:Option Addr):HO:=.ext fun h=>∃t,h.get? a=some (HT.kY C t d)
theorem sr {P:KI}{w:Lp}{H:Hp}{h:Heap}{C a t:Addr}{d:Option Addr}(e:h.get? a=some (HT.kY C t d)):bj P w H h a (fh C a d):=⟨⟨t,e⟩,⟨_,e⟩,fun h1 h2 ⟨t1,e1⟩ k=>⟨t1,k _ e1⟩⟩
theorem nv {P:KI}{w:Lp}{H:Hp}{h:Heap}{C a:Addr}{d:Option Addr}(x:bj P w H h a (fh C a d)):∃t,h.get? a=some (HT.kY C t d):=x.1
def iV (fs:List (Str×V))(dx:Addr):HO:=.ext fun h=>∃mA,h.Ns1 dx mA/\∀f,cA (fs.lookup f) (mA f)
theorem sq {P:KI}{w:Lp}{H:Hp}{h:Heap}{dx:Addr}{fs:List (Str×V)}{mA:Str->Option tx}(n:h.Ns1 dx mA)(r:∀f,cA (fs.lookup f) (mA f)):bj P w H h dx (iV fs dx):=by
 refine⟨⟨mA,n,r⟩,?_,fun h1 h2 ⟨m1,n1,r1⟩ k=>⟨m1,?_,r1⟩⟩
 ·obtain⟨o,es,ep,e,_⟩:=n
  exact⟨o,e⟩
 ·obtain⟨o,es,ep,e,c⟩:=n1
  exact⟨o,es,ep,k _ e,c⟩
theorem AH {P:KI}{w:Lp}{H:Hp}{h:Heap}{dx:Addr}{fs:List (Str×V)}(x:bj P w H h dx (iV fs dx)):∃mA,h.Ns1 dx mA/\∀f,cA (fs.lookup f) (mA f):=x.1
theorem rC {fs:List (Str×V)}{mA:Str->Option tx}(r:∀f,cA (fs.lookup f) (mA f)):OZ mA (fs.map (·.1)):=fun y h=>by
 have ry:=r y
 cases e:fs.lookup y with
 |none=>
  rw[e]at ry
  cases q:mA y with
  |none=>exact absurd q h
  |some u=>rw[q]at ry;exact ry.elim
 |some v=>
  have:∀(l:List (Str×V)),l.lookup y=some v->y∈l.map (·.1):=by
   intro l
   induction l with
   |nil=>intro z;cases z
   |cons p l ih=>
    intro z
    obtain⟨k,x⟩:=p
    rw[Mt]at z
    by_cases hk:(y==k)=true
    ·rw[KZ];exact KD.mpr (.inl (beq_iff_eq.mp hk))
    ·rw[Bool.not_eq_true]at hk
     rw[hk]at z
     exact KC _ (ih z)
  exact this fs e
def sV (K:pv)(C:Addr)(ta tv:TE)(f:Str):TS:=fun D σ H=>tv σ H fun y H1=>ta σ H1 fun x H2=>∃a,x=.ref a/\HT.ix K C f/\
 ((H2 a=some (fh C a none)/\∀dx,H2 dx=none->dx≠a->D.nx σ (upd (upd H2 a (fh C a (some dx))) dx (iV [(f,y)] dx)))\/
  (∃dx fs,H2 a=some (fh C a (some dx))/\H2 dx=some (iV fs dx)/\dx≠a/\fs.length<1000/\D.nx σ (upd H2 dx (iV (dv f y fs) dx))))
section
variable {X:Cx}{o value:Expr}{ta tv:TE}{f:Str}{pos pos':Pos}{C:Addr}
theorem wd (ho:QE X o ta)(hv:QE X value tv)(hs:swapsWith value (some (.Attribute o f pos')) pos.line X.env=pure false:=by rfl):QS X (.Assign [.Attribute o f pos'] value pos) (sV X.K C ta tv f):=by
 refine⟨fun pins s σ H D I h=>?_⟩
 refine PV (thn (hv.out pins s σ H _ I h) fun u s1 ⟨y,H1,I1,ry,q⟩=>thn (ho.out pins s1 σ H1 _ I1 q) fun ov s2 ⟨x,H2,I2,rx,a,ex,G,q2⟩=>?_) hs
 subst ex
 obtain rfl:ov=Kx a:=rx
 rcases q2 with⟨ea,q2⟩|⟨dx,fs,ea,ed,ne,hl,q2⟩
 ·obtain⟨t,et⟩:=nv (P:=X.prog) (w:=X.w) (I2.hok a _ ea)
  refine HT.xm I2.kIn et rfl rfl ⟨_,rfl⟩ G fun h' t' e1 e2 k=>?_
  have I3:Inv X pins σ (upd H2 a (fh C a (some s2.heap.objs.size))) {s2 with heap:=h',toks:=t'}:=I2.write (x:=a) (e:=a) (by rw[ea];exact Mc) (.inl rfl) (fun b u nb e=>k b u nb e) ⟨_,e1⟩ (sr e1)
  have na:s2.heap.objs.size≠a:=Mm (Kp et)
  have hn:upd H2 a (fh C a (some s2.heap.objs.size)) s2.heap.objs.size=none:=by rw[aC na];exact I2.hok.fresh (Gt _)
  exact⟨σ,_,Inv.track2 I2 I3 (Gt _) hn (sq e2 fun g=>by
   show cA (LR g [(f,y)]) (if g=f then some u else none)
   by_cases hg:g=f
   ·rw[if_pos hg,hg]
    simp only[LR,beq_self_eq_true];exact ry
   ·have hb:(g==f)=false:=beq_eq_false_iff_ne.mpr hg
    rw[if_neg hg]
    simp only[LR,hb];exact Mc),q2 _ (I2.hok.fresh (Gt _)) na⟩
 ·obtain⟨t,et⟩:=nv (P:=X.prog) (w:=X.w) (I2.hok a _ ea)
  obtain⟨mA,n1,r1⟩:=AH (P:=X.prog) (w:=X.w) (I2.hok dx _ ed)
  refine HT.AM (ns:=fs.map (·.1)) I2.kIn et rfl rfl ⟨_,rfl⟩ n1 ne G (rC r1) (by rw[pz,Mi];omega) fun h' t' e2 sb=>?_
  have hd:∃u,h'.get? dx=some u:=let ⟨o,_,_,e',_⟩:=e2;⟨o,e'⟩
  exact⟨σ,_,I2.write (x:=dx) (e:=dx) (by rw[ed];exact Mc) (.inl rfl) (fun b u nb e=>(sb.2 b nb).trans e) hd (sq e2 fun g=>by
   rw[ia]
   by_cases hg:g=f
   ·rw[if_pos hg,if_pos hg];exact ry
   ·rw[if_neg hg,if_neg hg];exact r1 g),q2⟩
end
def jA (a:Addr)(H:Hp):Hp:=fun b=>if b=a then none else H b
theorem jC {a:Addr}{H:Hp}:jA a H a=none:=by unfold jA;rw[if_pos rfl]
theorem dw {a b:Addr}{H:Hp}(h:b≠a):jA a H b=H b:=by unfold jA;rw[if_neg h]
theorem HOk.off {P:KI}{w:Lp}{H:Hp}{h:Heap}{a:Addr}{φ:Heap->Prop}(k:HOk P w H h)(ha:H a=some (.ext φ)):HOk P w (jA a H) h:=fun b o e=>by
 by_cases hb:b=a
 ·subst hb;rw[jC]at e;cases e
 ·rw[dw hb]at e
  exact(k b o e).stay (fun c u _ q=>q) (fun c q=>by rw[dw (fun z=>by rw[z,ha]at q;cases q)];exact q) fun c xs q=>by rw[dw (fun z=>by rw[z,ha]at q;cases q)];exact q
theorem Un.off {fs:List Addr}{H H':Hp}{h h':Heap}{a:Addr}(u:Un fs [] H H' h h')(ha:H a=none):Un fs [] H (jA a H') h h' where
 keep:=u.keep
 slot:=u.slot
 free:=fun b o e n hx=>by
  by_cases hb:b=a
  ·rw[hb];exact jC
  ·rw[dw hb];exact u.free b o e n hx
 there:=u.there
 tups:=fun b xs e=>by rw[dw (aI e ha)];exact u.tups b xs e
 frzs:=fun b o v e=>by rw[dw (aI e ha)];exact u.frzs b o v e
 tbls:=fun b ps e=>by rw[dw (aI e ha)];exact u.tbls b ps e
end L2
namespace HT
open PySem PyProof.Rows
section
variable {M:TK}{A:Lh}{E:tx->Km->Prop}{env:Env}{K:pv}{C:Addr}
theorem vK {s:Km}{x:Sem tx}{Q:Flow->Km->Prop}(hC:L2.dD K C)(hh:A.handled=none)
  (h:wpAny M A x (fun v s₁=>∃e t d,v=.ref e/\K.In s₁.heap/\s₁.heap.get? e=some (kY C t d)/\E (.ref e) s₁) E s):wpAny M A (raiseStmt env (some x) none) Q E s:=by
 unfold raiseStmt
 refine cW (KU h (fun v s₁ h₁=>?_) fun _ _ x=>x)
 obtain⟨e,t,d,rfl,X,he,hE⟩:=h₁
 obtain⟨bm,N,nm,qn,bs,hdct,sn,sub,ab,col,dd,k0,k1,k2,k3,k5,mN,oC,hN,_,T,_⟩:=L2.iu X hC
 have hcB:(Kx C::bm).contains (.type "BaseException")=true:=by rw[OR,T.hasType (X:="BaseException") (b:=true) (by decide+kernel),Rb]
 obtain⟨hp,g,dr,tk,os⟩:=s₁
 repeat (first|with_reducible refine MM he ?_ |with_reducible refine MM oC ?_ |(with_reducible refine MP oC ?_;rw[hcB])|wp_step)
 exact wpAny_raiseNew_none hh hE
theorem vI {prog:KI}{w:Lp}{A:Lh}{K:pv}{C f:Addr}{R:Py->Km->Prop}{s:Km}{us:List tx}(X:K.In s.heap)(hC:L2.dD K C)(hi:LI K (.ref C) "__init__"=some (some (.ref f)))(hf:W.typeIn K (.ref f)=some (.type "function"))(hus:us.length<=sizeLine)
  (hq:codeAny (model prog w) (A.under (.builtin "type.__call__" ⟨.ref C::us,[]⟩)) (.call (.ref f) ⟨.ref (s.heap.objs.size+1)::us,[]⟩) (W.InitBack (s.heap.objs.size+1) R) {s with heap:=hU s.heap C us}):
  codeAny (model prog w) A (.call (.ref C) ⟨us,[]⟩) R s:=by
 obtain⟨h,g,d,t,os⟩:=s
 exact zo X hC hi hf hus hq
end
end HT
namespace L2
open PySem PySem.Spec PyProof.Rows
def mW (C:Addr)(sp:Sp)(E:St->XK)(t:TA):TS:=fun _ σ H=>t σ H fun vs H1=>∀a,H1 a=none->sp (.ref a::vs) (upd H1 a (fh C a none)) (fun v H2=>v=.non/\∃d,H2 a=some (fh C a d)/\E σ (.ref C) d (jA a H2)) E0
structure zU (K:pv)(C f:Addr):Prop where
 ok:dD K C
 init:LI K (.ref C) "__init__"=some (some (.ref f))
 fn:RI K (.ref f)=true
 kp:NV K (.ref C)=true
section
variable {X:Cx}{k:Nat}{f C:Addr}{fd:Kz}{ps:List Str}{sp:Sp}{E:St->XK}{x:Str}{np cpos pos:Pos}{e:Expr}{es:List Expr}{t:TA}
theorem qO (Y:zU X.K C f)(F:aV X.prog X.w X.K X.mg X.base (CX1 X.prog X.w) k f fd ps sp)(hr:bu (k+1) X.A)(hb:cy X.K fd ps [])(hm:X.mg x=some (.ref C))(hR:vh X E)(ha:QA X (e::es) t)
  (hc:X.calm=true:=by rfl)(hg:Gl X x:=by rfl)(hdb:(x==("__debug__":Str))=false:=by decide)(hs:bq (e::es)=true:=by rfl)(hps:ps.length<=1000:=by decide):QS X (.Raise (some (.Call (.Name x np) (e::es) [] cpos)) none pos) (mW C sp E t):=by
 refine⟨fun pins s σ H D I h=>?_⟩
 have h':(bU e&&bq es)=true:=hs
 rw[arm_exec_Raise]
 refine cW (NK (HT.vK Y.ok (I.ok.hd hc) ?_))
 refine cW (KU ?_ (fun v s₃ h₃=>cW (NK (Ko h₃))) fun _ _ x=>x)
 refine Lx (iq I hg hm ?_ hdb)
 refine RJ (h₀:=X.base) I.ok.mod.kin Y.kp (thn (ha.out cpos pins s σ H _ I h) fun us s1 ⟨vs,H1,I1,r,q⟩=>⟨I1.kIn,?_⟩) (bh (Ku.mp h').1 es X.env) (cf (Ku.mp h').2)
 have ka:∀b u,s1.heap.get? b=some u->(HT.hU s1.heap C us).get? b=some u:=fun b u eb=>gV _ (gV _ eb)
 have ex:(HT.hU s1.heap C us).get? (s1.heap.objs.size+1)=some (HT.kY C s1.heap.objs.size none):=by heap_get
 have hfr:H1 (s1.heap.objs.size+1)=none:=I1.hok.fresh (MO _)
 have I2:Inv X pins σ (upd H1 (s1.heap.objs.size+1) (fh C (s1.heap.objs.size+1) none)) {s1 with heap:=HT.hU s1.heap C us,toks:=s1.toks}:=I1.laid ka (MO _) (sr ex)
 have hq:=q (s1.heap.objs.size+1) hfr
 have r2:bc (V.ref (s1.heap.objs.size+1)::vs) (Kx (s1.heap.objs.size+1)::us):=.cons rfl r
 have hl:(Kx (s1.heap.objs.size+1)::us).length=ps.length:=by rw[<-r2.length];exact F.len _ _ _ _ hq
 have hb':=hb {s1 with heap:=HT.hU s1.heap C us} (Kx (s1.heap.objs.size+1)::us) I2.kIn (by rw[Ly];exact hl)
 rw[Ly]at hb'
 have husz:us.length<=sizeLine:=by
  rw[KH]at hl
  rw[Mi];omega
 refine PR (HT.vI I1.kIn Y.ok Y.init (beq_iff_eq.mp Y.fn) husz (Nd (F.run _ X.stack _ _ ⟨Kx (s1.heap.objs.size+1)::us,[]⟩ (Kx (s1.heap.objs.size+1)::us) _ _ _ (hr.make C us []) (I2.env0.make C us []) hb' r2 hq) fun rr s' hq'=>?_))
 cases rr with
 |error e'=>
  obtain⟨_,_,_,_,_,_,z⟩:=hq'
  exact z.elim
 |ok fl=>
  cases fl with
  |next=>exact Ll hq'
  |brk=>exact Ll hq'
  |cont=>exact Ll hq'
  |ret u=>
   obtain⟨v,H',os,bare,un,hok,rv,rfl,d,hd,hE⟩:=hq'
   obtain⟨t,et⟩:=nv (P:=X.prog) (w:=X.w) (hok _ _ hd)
   have u1:Un (frs X.stack) [] H1 H' s1.heap s'.heap:=(Un.laid (o:=fh C (s1.heap.objs.size+1) none) ka (MO _) hfr).trans un
   have kin:X.K.In s'.heap:=by
    have I3:Inv X pins σ H' s':=I1.call' (ch:=[]) os u1 hok bare fun b z=>absurd z (by simp)
    exact I3.kIn
   refine⟨rv,s1.heap.objs.size+1,t,d,rfl,kin,et,hR pins σ H1 s1 C (s1.heap.objs.size+1) d (jA (s1.heap.objs.size+1) H') s' I1 ⟨os,bare,u1.off hfr,hok.off hd,Rk (MO _),jC,⟨_,_,.ref t,et,rfl,rfl,rfl,⟨rfl,rfl⟩,rfl⟩⟩ hE⟩
end
end L2
namespace L2
open PySem PySem.Spec PyProof.Rows PySem.W
section
variable {key:Nat->Int}{n:Nat}
def at' (p:Array Nat)(i:Nat):Nat:=p.getD i 0
variable (inj:∀i j,i<n->j<n->key i=key j->i=j)
include inj
omit inj in
omit inj in
omit inj in
end
end L2
namespace Rs
abbrev st (B k d:Nat):Nat:=k/2^(B- d)
section
variable {α:Type}
def alN (B x y:Nat):Nat->Nat
 |0=>0
 |c+1=>if x/2^(B- (c+1))=y/2^(B- (c+1))then c+1 else alN B x y c
def al (B x y:Nat):Nat:=alN B x y B
end
end Rs
namespace L2
open PySem PySem.Spec PyProof.Rows
section
variable {X:Cx}
def uH:R2:=fun x y H Q=>∃z n,x=.str z/\y=.int n/\(0<=n/\n<=100000/\z.length=1)/\Q (.str (Txt.mul z n)) H
theorem Hf:OpR X (binaryOp .Mult) uH:=by
 intro pins s σ H x y v u Q I rx ry h
 obtain⟨z,n,rfl,rfl,⟨h1,h2,h3⟩,q⟩:=h
 obtain⟨t,rfl⟩:=rx
 obtain⟨t',rfl⟩:=ry
 refine SB.mul ⟨?_,fun hn _=>?_,fun hn _=>?_⟩ fun t' k=>⟨.str _,H,I.tok k,⟨_,rfl⟩,q⟩
 ·rw[decide_eq_false (by omega),decide_eq_false (by omega)];rfl
 ·intro hgt
  have h5:(1:Int)<=(2^63- 1)/n:=Int.le_ediv_of_mul_le (by omega) (by omega)
  omega
 ·have h6:z.length*n.toNat<=1*100000:=LV (by omega) (by omega)
  unfold Builtin.Str.tooLong
  rw[Mi]
  simp only[gt_iff_lt,decide_eq_false_iff_not]
  omega
end
end L2
namespace Rs
open PySem PySem.Spec PyProof.Rows L2
abbrev gOp:=List Key->Option Key
def ui (s:Stmt)(j:Nat):Stmt:=match s with
 |.ClassDef _ _ _ b _ _ _ _ _ _ _=>b.getD j (.Pass ⟨0,0,0,0⟩)
 |_=>.Pass ⟨0,0,0,0⟩
def top (i:Nat):Stmt:=PySem.Challenge.pw_rootstamp_k50_whole_places_and_growths.main.body.getD i (.Pass ⟨0,0,0,0⟩)
abbrev xw:Stmt:=top 9
abbrev ze:Stmt:=top 10
abbrev yg:Stmt:=top 11
abbrev yl:Stmt:=top 13
abbrev yz:Stmt:=top 12
abbrev s_2:Stmt:=ui (top 38) 1
abbrev s_3:Stmt:=top 43
abbrev lf:Stmt:=top 47
abbrev lh:Stmt:=top 39
abbrev s_1:Stmt:=ui (top 38) 0
abbrev kW:Stmt:=top 40
abbrev kZ:Stmt:=top 48
abbrev yP:Stmt:=top 49
abbrev s_5:Stmt:=top 51
abbrev yH:Stmt:=top 52
abbrev zf:Stmt:=top 45
abbrev zc:Stmt:=top 46
abbrev xa:Stmt:=top 53
abbrev yb:Stmt:=top 54
abbrev zd:Stmt:=top 55
abbrev zq:Stmt:=top 56
abbrev xR:Stmt:=top 17
abbrev xW:Stmt:=top 23
abbrev xK:Stmt:=top 24
abbrev yK:Stmt:=top 19
abbrev xV:Stmt:=top 15
abbrev yC:Stmt:=top 32
abbrev wZ:Stmt:=top 20
abbrev xT:Stmt:=top 22
abbrev xv:Stmt:=top 26
abbrev yI:Stmt:=top 35
abbrev xB:Stmt:=top 34
abbrev zj:Stmt:=top 33
abbrev s_0:Stmt:=ui (top 6) 0
abbrev mx:Stmt:=top 36
abbrev za:Stmt:=top 18
abbrev yk:Stmt:=top 16
abbrev yy:Stmt:=top 27
abbrev yM:Stmt:=top 28
abbrev xU:Stmt:=top 29
abbrev mZ:Stmt:=top 30
abbrev yq:Stmt:=top 68
abbrev s_9:Stmt:=top 57
abbrev xg:Stmt:=top 71
abbrev yB:Stmt:=top 64
abbrev zi:Stmt:=top 65
abbrev s_4:Stmt:=top 66
abbrev xu:Stmt:=top 61
abbrev xO:Stmt:=top 59
abbrev xC:Stmt:=top 62
abbrev ye:Stmt:=top 50
abbrev s_8:Stmt:=top 69
abbrev xN:Stmt:=top 67
abbrev xn:Stmt:=top 41
abbrev s_7:Stmt:=top 70
abbrev xL:Stmt:=top 72
abbrev xt:Stmt:=top 58
abbrev s_6:Stmt:=top 60
abbrev xD:Stmt:=top 63
abbrev xy:Stmt:=top 73
abbrev yY:Stmt:=top 74
def sAt (i:Nat)(l:List Stmt):Stmt:=l.getD i (.Pass ⟨0,0,0,0⟩)
def EW:Stmt->Expr|.Return (some e) _=>e|.Assign _ e _=>e|.Expr e _=>e|_=>.Constant .none 0 ⟨0,0,0,0⟩
def ki:Expr->Expr|.Lambda _ b _ _=>b|e=>e
def qt:Expr->Scope|.Lambda _ _ sc _=>sc|_=>{kind:=.function,names:=[],isGenerator:=false,isCoroutine:=false}
abbrev xk:Expr:=(EW (sAt 0 (ba lh)))
def fA:cX:=⟨(("writing":Str)++".<locals>.")++"<lambda>",.expr (ki xk),qt xk,["term"],[]⟩
abbrev yi:Expr:=(EW (sAt 1 (ba kW)))
def fR:cX:=⟨(("counting":Str)++".<locals>.")++"<lambda>",.expr (ki yi),qt yi,["term"],["numbers"]⟩
abbrev yd:Stmt:=(sAt 0 (ba lf))
def fU:cX:=⟨(("_law_weak":Str)++".<locals>.")++"_law_stamp",.stmts (ba yd),aw yd,["_law_term_here"],["_law_many"]⟩
abbrev yZ:Stmt:=(sAt 0 (ba kZ))
def fQ:cX:=⟨(("_law_planted":Str)++".<locals>.")++"_law_stamp",.stmts (ba yZ),aw yZ,["_law_term_here"],["_law_step","_law_known","_law_alias"]⟩
set_option genInjectivity false in
set_option genSizeOf false in
abbrev Rd (sp:Sp)(t:TS)(N:List Str):Prop:=∀(vs:List V)(H:Hp)(Q:VK)(E:XK),sp vs H Q E->t {nx:=fun _ H'=>Q .non H',rt:=Q} (L2.start N vs) H
abbrev Ln (sp:Sp)(n:Nat):Prop:=∀vs H Q E,sp vs H Q E->vs.length=n
structure Adr where
 a_52:Addr
 d_52:Kz
 a_50:Addr
 d_50:Kz
 a_51:Addr
 d_51:Kz
 a_55:Addr
 d_55:Kz
 a_64:Addr
 d_64:Kz
 a_2:Addr
 d_2:Kz
 a_3:Addr
 d_3:Kz
 a_33:Addr
 d_33:Kz
 a_62:Addr
 d_62:Kz
 a_1:Addr
 d_1:Kz
 a_38:Addr
 d_38:Kz
 a_23:Addr
 d_23:Kz
 a_26:Addr
 d_26:Kz
 a_5:Addr
 d_5:Kz
 a_17:Addr
 d_17:Kz
 a_28:Addr
 d_28:Kz
 a_25:Addr
 d_25:Kz
 a_12:Addr
 d_12:Kz
 a_30:Addr
 d_30:Kz
 a_14:Addr
 d_14:Kz
 a_19:Addr
 d_19:Kz
 a_45:Addr
 d_45:Kz
 a_47:Addr
 d_47:Kz
 a_36:Addr
 d_36:Kz
 a_46:Addr
 d_46:Kz
 a_44:Addr
 d_44:Kz
 a_43:Addr
 d_43:Kz
 a_35:Addr
 d_35:Kz
 a_60:Addr
 d_60:Kz
 a_53:Addr
 d_53:Kz
 a_40:Addr
 d_40:Kz
 a_59:Addr
 d_59:Kz
 a_42:Addr
 d_42:Kz
 a_0:Addr
 d_0:Kz
 a_41:Addr
 d_41:Kz
 a_48:Addr
 d_48:Kz
 a_61:Addr
 d_61:Kz
 a_49:Addr
 d_49:Kz
 a_58:Addr
 d_58:Kz
 a_57:Addr
 d_57:Kz
 a_56:Addr
 d_56:Kz
 a_29:Addr
 d_29:Kz
 a_9:Addr
 d_9:Kz
 a_15:Addr
 d_15:Kz
 a_18:Addr
 d_18:Kz
 a_31:Addr
 d_31:Kz
 a_4:Addr
 d_4:Kz
 a_27:Addr
 d_27:Kz
 a_32:Addr
 d_32:Kz
 a_20:Addr
 d_20:Kz
 a_22:Addr
 d_22:Kz
 a_8:Addr
 d_8:Kz
 a_16:Addr
 d_16:Kz
 a_37:Addr
 d_37:Kz
 a_7:Addr
 d_7:Kz
 a_21:Addr
 d_21:Kz
 a_13:Addr
 d_13:Kz
 a_6:Addr
 d_6:Kz
 a_10:Addr
 d_10:Kz
 a_11:Addr
 d_11:Kz
 a_54:Addr
 d_54:Kz
 k_33:Addr
 t_33:Addr
 k_62:Addr
 t_62:Addr
 k_38:Addr
 t_38:Addr
 k_23:Addr
 t_23:Addr
 c_Broken:Addr
 c_Numbers:Addr
set_option genInjectivity false in
set_option genSizeOf false in
structure Txt (K:pv)(mg:Str->Option tx)(A:Adr):Prop where
 f_52:Fm K mg "is_whole" "is_whole" xw A.a_52 A.d_52 ["thing"]
 f_50:Fm K mg "is_stamp" "is_stamp" ze A.a_50 A.d_50 ["thing"]
 f_51:Fm K mg "is_term" "is_term" yg A.a_51 A.d_51 ["thing"]
 f_55:Fm K mg "part_form" "part_form" yl A.a_55 A.d_55 ["part"]
 f_64:Fm K mg "written" "written" yz A.a_64 A.d_64 ["term"]
 f_2:Fun K "number_of" "Numbers.number_of" s_2 A.a_2 A.d_2
 b_2:cy K A.d_2 ["self","term"] []
 f_3:Fm K mg "_law_cell_at" "_law_cell_at" s_3 A.a_3 A.d_3 ["_law_script","_law_k"]
 f_33:Fm K mg "_law_weak" "_law_weak" lf A.a_33 A.d_33 ["_law_many"]
 f_62:Fm K mg "writing" "writing" lh A.a_62 A.d_62 []
 f_1:Fun K "__init__" "Numbers.__init__" s_1 A.a_1 A.d_1
 b_1:cy K A.d_1 ["self"] []
 f_38:Fm K mg "counting" "counting" kW A.a_38 A.d_38 []
 f_23:Fm K mg "_law_planted" "_law_planted" kZ A.a_23 A.d_23 ["_law_known","_law_alias","_law_step"]
 f_26:Fm K mg "_law_stamper" "_law_stamper" yP A.a_26 A.d_26 ["_law_way_here","_law_cell","_law_known","_law_alias"]
 f_5:Fm K mg "_law_count_by" "_law_count_by" s_5 A.a_5 A.d_5 ["_law_cell"]
 f_17:Fm K mg "_law_lesser" "_law_lesser" yH A.a_17 A.d_17 ["_law_cell","_law_count"]
 f_28:Fm K mg "_law_text_by" "_law_text_by" zf A.a_28 A.d_28 ["_law_cell"]
 f_25:Fm K mg "_law_stamp_by" "_law_stamp_by" zc A.a_25 A.d_25 ["_law_cell"]
 f_12:Fm K mg "_law_half" "_law_half" xa A.a_12 A.d_12 ["_law_many"]
 f_30:Fm K mg "_law_top" "_law_top" yb A.a_30 A.d_30 ["_law_stamper_here","_law_tree","_law_low","_law_many"]
 f_14:Fm K mg "_law_head" "_law_head" zd A.a_14 A.d_14 ["_law_stamper_here","_law_tree","_law_count"]
 f_19:Fm K mg "_law_paper" "_law_paper" zq A.a_19 A.d_19 ["_law_stamper_here","_law_tree","_law_many"]
 f_45:Fm K mg "is_count" "is_count" xR A.a_45 A.d_45 ["thing"]
 f_47:Fm K mg "is_head" "is_head" xW A.a_47 A.d_47 ["thing"]
 f_36:Fm K mg "check_head" "check_head" xK A.a_36 A.d_36 ["thing"]
 f_46:Fm K mg "is_elder" "is_elder" yK A.a_46 A.d_46 ["count","elder"]
 f_44:Fm K mg "half" "half" xV A.a_44 A.d_44 ["many"]
 f_43:Fm K mg "growth_turns" "growth_turns" yC A.a_43 A.d_43 ["count","elder"]
 f_35:Fm K mg "are_marks" "are_marks" wZ A.a_35 A.d_35 ["many","thing"]
 f_60:Fm K mg "void_terms" "void_terms" xT A.a_60 A.d_60 ["stamper"]
 f_53:Fm K mg "joint" "joint" xv A.a_53 A.d_53 ["turn","own","aside"]
 f_40:Fm K mg "grown_terms" "grown_terms" yI A.a_40 A.d_40 ["stamper","count","elder","steps"]
 f_59:Fm K mg "step_marks" "step_marks" xB A.a_59 A.d_59 ["turns","marks"]
 f_42:Fm K mg "growth_terms" "growth_terms" zj A.a_42 A.d_42 ["stamper","count","elder","marks"]
 f_0:Fun K "__init__" "Broken.__init__" s_0 A.a_0 A.d_0
 b_0:cy K A.d_0 ["self","due","came"] []
 f_41:Fm K mg "growth_answer" "growth_answer" mx A.a_41 A.d_41 ["stamper","head","elder","marks"]
 f_48:Fm K mg "is_place" "is_place" za A.a_48 A.d_48 ["count","place"]
 f_61:Fm K mg "ways" "ways" yk A.a_61 A.d_61 ["place","many"]
 f_49:Fm K mg "is_place_paper" "is_place_paper" yy A.a_49 A.d_49 ["turns","thing"]
 f_58:Fm K mg "place_terms" "place_terms" yM A.a_58 A.d_58 ["stamper","count","place","paper"]
 f_57:Fm K mg "place_mark" "place_mark" xU A.a_57 A.d_57 ["stamper","count","place","paper"]
 f_56:Fm K mg "place_answer" "place_answer" mZ A.a_56 A.d_56 ["stamper","head","place","paper"]
 f_29:Fm K mg "_law_told" "_law_told" yq A.a_29 A.d_29 ["_law_stamper_here","_law_growing","_law_head_here","_law_at","_law_paper_here"]
 f_9:Fm K mg "_law_growth" "_law_growth" s_9 A.a_9 A.d_9 ["_law_stamper_here","_law_tree","_law_many","_law_elder"]
 f_15:Fm K mg "_law_honest" "_law_honest" xg A.a_15 A.d_15 ["_law_stamper_here","_law_tree","_law_heads","_law_place"]
 f_18:Fm K mg "_law_near" "_law_near" yB A.a_18 A.d_18 ["_law_mark"]
 f_31:Fm K mg "_law_turned" "_law_turned" zi A.a_31 A.d_31 ["_law_kind","_law_cell","_law_marks"]
 f_4:Fm K mg "_law_changed" "_law_changed" s_4 A.a_4 A.d_4 ["_law_kind","_law_cell","_law_paper_here"]
 f_27:Fm K mg "_law_term" "_law_term" xu A.a_27 A.d_27 ["_law_stamper_here","_law_count","_law_hands_here","_law_marks","_law_top_here","_law_height"]
 f_32:Fm K mg "_law_way" "_law_way" xO A.a_32 A.d_32 ["_law_count","_law_place"]
 f_20:Fm K mg "_law_place_term" "_law_place_term" xC A.a_20 A.d_20 ["_law_stamper_here","_law_count","_law_place","_law_paper_here","_law_height"]
 f_22:Fm K mg "_law_plant" "_law_plant" ye A.a_22 A.d_22 ["_law_known","_law_alias","_law_new","_law_old"]
 f_8:Fm K mg "_law_grown" "_law_grown" s_8 A.a_8 A.d_8 ["_law_stamper_here","_law_count","_law_elder","_law_marks"]
 f_16:Fm K mg "_law_is_clash" "_law_is_clash" xN A.a_16 A.d_16 ["_law_stamper_here","_law_terms","_law_found"]
 f_37:Fm K mg "clash" "clash" xn A.a_37 A.d_37 ["stamper","terms"]
 f_7:Fm K mg "_law_good" "_law_good" s_7 A.a_7 A.d_7 ["_law_stamper_here","_law_terms","_law_told_here","_law_due","_law_sure"]
 f_21:Fm K mg "_law_places" "_law_places" xL A.a_21 A.d_21 ["_law_stamper_here","_law_script","_law_tree","_law_heads","_law_known","_law_alias","_law_way_here"]
 f_13:Fm K mg "_law_hands" "_law_hands" xt A.a_13 A.d_13 ["_law_count","_law_elder"]
 f_6:Fm K mg "_law_dealt" "_law_dealt" s_6 A.a_6 A.d_6 ["_law_hands_here","_law_marks"]
 f_10:Fm K mg "_law_growth_term" "_law_growth_term" xD A.a_10 A.d_10 ["_law_stamper_here","_law_count","_law_elder","_law_marks","_law_height"]
 f_11:Fm K mg "_law_growths" "_law_growths" xy A.a_11 A.d_11 ["_law_stamper_here","_law_script","_law_tree","_law_heads","_law_known","_law_alias","_law_way_here"]
 f_54:Fm K mg "law" "law" yY A.a_54 A.d_54 ["_law_script"]
 z_all:mg "all"=none
 z_bool:mg "bool"=none
 z_int:mg "int"=none
 z_isinstance:mg "isinstance"=none
 z_len:mg "len"=none
 z_list:mg "list"=none
 z_range:mg "range"=none
 z_reversed:mg "reversed"=none
 z_str:mg "str"=none
 z_sum:mg "sum"=none
 z_tuple:mg "tuple"=none
 z_zip:mg "zip"=none
 c_MOST_PARTS:∃t,mg "MOST_PARTS"=some (.int 8 t)
 kc_33:A.d_33.code=.ref A.k_33
 kc_62:A.d_62.code=.ref A.k_62
 kc_38:A.d_38.code=.ref A.k_38
 kc_23:A.d_23.code=.ref A.k_23
 mc_Broken:mg "Broken"=some (.ref A.c_Broken)
 eo_Broken:dD K A.c_Broken
 eg_Broken:wD K A.c_Broken
 ef_Broken_came:HT.ix K A.c_Broken "came"
 ef_Broken_due:HT.ix K A.c_Broken "due"
 em_Broken:zU K A.c_Broken A.a_0
 sb_Broken_Broken:iR K A.c_Broken A.c_Broken=some true
 mc_Numbers:mg "Numbers"=some (.ref A.c_Numbers)
 cl_Numbers:Cls K A.c_Numbers
 na_Numbers_given:gw K A.c_Numbers "given"
 me_Numbers_number_of:xX K A.c_Numbers "number_of" A.a_2
 mk_Numbers:Mk K A.c_Numbers A.a_1
def Ap (A:Adr)(H:Hp):Prop:=H A.t_33=some (.tbl #[])/\H A.t_62=some (.tbl #[])/\H A.t_38=some (.tbl #[])/\H A.t_23=some (.tbl #[])/\([A.t_33,A.t_62,A.t_38,A.t_23]:List Addr).Nodup
theorem Fv:eP ["term"] ["term"] [] fA.scope:=⟨rfl,rfl,rfl,by decide+kernel,rfl,rfl,by decide+kernel,by decide+kernel,by decide+kernel,by decide+kernel,by decide+kernel⟩
theorem HP:eP ["term","numbers"] ["term"] ["numbers"] fR.scope:=⟨rfl,rfl,rfl,by decide+kernel,rfl,rfl,by decide+kernel,by decide+kernel,by decide+kernel,by decide+kernel,by decide+kernel⟩
theorem ml:eP ["_law_term_here","_law_total","_law_part","_law_many"] ["_law_term_here"] ["_law_many"] fU.scope:=⟨rfl,rfl,rfl,by decide+kernel,rfl,rfl,by decide+kernel,by decide+kernel,by decide+kernel,by decide+kernel,by decide+kernel⟩
theorem Ik:eP ["_law_term_here","_law_step","_law_known","_law_alias"] ["_law_term_here"] ["_law_step","_law_known","_law_alias"] fQ.scope:=⟨rfl,rfl,rfl,by decide+kernel,rfl,rfl,by decide+kernel,by decide+kernel,by decide+kernel,by decide+kernel,by decide+kernel⟩
theorem GM:aN ["thing"] ["thing"] (aw xw):=scF
theorem GD:aN ["thing"] ["thing"] (aw ze):=scF
theorem Hn:aN ["thing"] ["thing"] (aw yg):=scF
theorem zY:aN ["part","signs"] ["part"] (aw yl):=scF
theorem HX:aN ["term"] ["term"] (aw yz):=scF
theorem Jf:aN ["self","term"] ["self","term"] (aw s_2):=scF
theorem IH:aN ["_law_script","_law_k"] ["_law_script","_law_k"] (aw s_3):=scF
theorem zW:aN ["_law_many","_law_stamp"] ["_law_many"] (aw lf):=scF
theorem Ft:aN [] [] (aw lh):=scF
theorem JI:aN ["self"] ["self"] (aw s_1):=scF
theorem zL:aN ["numbers"] [] (aw kW):=scF
theorem zw:aN ["_law_known","_law_alias","_law_step","_law_stamp"] ["_law_known","_law_alias","_law_step"] (aw kZ):=scF
theorem GF:aN ["_law_way_here","_law_cell","_law_known","_law_alias"] ["_law_way_here","_law_cell","_law_known","_law_alias"] (aw yP):=scF
theorem IC:aN ["_law_cell"] ["_law_cell"] (aw s_5):=scF
theorem FK:aN ["_law_cell","_law_count"] ["_law_cell","_law_count"] (aw yH):=scF
theorem sX:aN ["_law_cell","_law_some"] ["_law_cell"] (aw zf):=scF
theorem FD:aN ["_law_cell"] ["_law_cell"] (aw zc):=scF
theorem Hh:aN ["_law_many"] ["_law_many"] (aw xa):=scF
theorem tV:aN ["_law_stamper_here","_law_tree","_law_low","_law_many","_law_cut","_law_left"] ["_law_stamper_here","_law_tree","_law_low","_law_many"] (aw yb):=scF
theorem Io:aN ["_law_stamper_here","_law_tree","_law_count"] ["_law_stamper_here","_law_tree","_law_count"] (aw zd):=scF
theorem iX:aN ["_law_stamper_here","_law_tree","_law_many","_law_marks","_law_low","_law_cut"] ["_law_stamper_here","_law_tree","_law_many"] (aw zq):=scF
theorem FF:aN ["thing"] ["thing"] (aw xR):=scF
theorem GG:aN ["thing"] ["thing"] (aw xW):=scF
theorem HU:aN ["thing"] ["thing"] (aw xK):=scF
theorem GE:aN ["count","elder"] ["count","elder"] (aw yK):=scF
theorem GZ:aN ["many"] ["many"] (aw xV):=scF
theorem gX:aN ["count","elder","turns","early","rest","ahead"] ["count","elder"] (aw yC):=scF
theorem GS:aN ["many","thing"] ["many","thing"] (aw wZ):=scF
theorem HG:aN ["stamper"] ["stamper"] (aw xT):=scF
theorem HA:aN ["turn","own","aside"] ["turn","own","aside"] (aw xv):=scF
theorem gZ:aN ["stamper","count","elder","steps","younger","older","top","older_top","step"] ["stamper","count","elder","steps"] (aw yI):=scF
theorem iP:aN ["turns","marks","steps","first","last","turn"] ["turns","marks"] (aw xB):=scF
theorem uM:aN ["stamper","count","elder","marks","turns","younger"] ["stamper","count","elder","marks"] (aw zj):=scF
theorem IK:aN ["self","due","came"] ["self","due","came"] (aw s_0):=scF
theorem tG:aN ["stamper","head","elder","marks","terms","came"] ["stamper","head","elder","marks"] (aw mx):=scF
theorem Fe:aN ["count","place"] ["count","place"] (aw za):=scF
theorem gR:aN ["place","many","turns","first","rest","ahead"] ["place","many"] (aw yk):=scF
theorem Gp:aN ["turns","thing"] ["turns","thing"] (aw yy):=scF
theorem pq:aN ["stamper","count","place","paper","turns","terms","step"] ["stamper","count","place","paper"] (aw yM):=scF
theorem HV:aN ["stamper","count","place","paper"] ["stamper","count","place","paper"] (aw xU):=scF
theorem zA:aN ["stamper","head","place","paper","came"] ["stamper","head","place","paper"] (aw mZ):=scF
theorem lM:aN ["_law_stamper_here","_law_growing","_law_head_here","_law_at","_law_paper_here","_law_found"] ["_law_stamper_here","_law_growing","_law_head_here","_law_at","_law_paper_here"] (aw yq):=scF
theorem jv:aN ["_law_stamper_here","_law_tree","_law_many","_law_elder","_law_ahead","_law_behind","_law_low","_law_cut"] ["_law_stamper_here","_law_tree","_law_many","_law_elder"] (aw s_9):=scF
theorem lH:aN ["_law_stamper_here","_law_tree","_law_heads","_law_place","_law_k","_law_paper_here","_law_j","_law_marks"] ["_law_stamper_here","_law_tree","_law_heads","_law_place"] (aw xg):=scF
theorem GO:aN ["_law_mark"] ["_law_mark"] (aw yB):=scF
theorem jN:aN ["_law_kind","_law_cell","_law_marks","_law_spot","_law_thing"] ["_law_kind","_law_cell","_law_marks"] (aw zi):=scF
theorem IF:aN ["_law_kind","_law_cell","_law_paper_here"] ["_law_kind","_law_cell","_law_paper_here"] (aw s_4):=scF
theorem kr:aN ["_law_stamper_here","_law_count","_law_hands_here","_law_marks","_law_top_here","_law_height","_law_k","_law_term_here"] ["_law_stamper_here","_law_count","_law_hands_here","_law_marks","_law_top_here","_law_height"] (aw xu):=scF
theorem jV:aN ["_law_count","_law_place","_law_hands_here","_law_cut"] ["_law_count","_law_place"] (aw xO):=scF
theorem zG:aN ["_law_stamper_here","_law_count","_law_place","_law_paper_here","_law_height","_law_term_here"] ["_law_stamper_here","_law_count","_law_place","_law_paper_here","_law_height"] (aw xC):=scF
theorem Fq:aN ["_law_known","_law_alias","_law_new","_law_old"] ["_law_known","_law_alias","_law_new","_law_old"] (aw ye):=scF
theorem Ci:aN ["_law_stamper_here","_law_count","_law_elder","_law_marks","_law_found"] ["_law_stamper_here","_law_count","_law_elder","_law_marks"] (aw s_8):=scF
theorem GX:aN ["_law_stamper_here","_law_terms","_law_found"] ["_law_stamper_here","_law_terms","_law_found"] (aw xN):=scF
theorem oW:aN ["stamper","terms","firsts","term","ahead"] ["stamper","terms"] (aw xn):=scF
theorem Jt:aN ["_law_stamper_here","_law_terms","_law_told_here","_law_due","_law_sure"] ["_law_stamper_here","_law_terms","_law_told_here","_law_due","_law_sure"] (aw s_7):=scF
theorem eF:aN ["_law_stamper_here","_law_script","_law_tree","_law_heads","_law_known","_law_alias","_law_way_here","_law_cell","_law_k","_law_place","_law_papers","_law_count","_law_other","_law_height","_law_old","_law_terms","_law_marks"] ["_law_stamper_here","_law_script","_law_tree","_law_heads","_law_known","_law_alias","_law_way_here"] (aw xL):=scF
theorem iS:aN ["_law_count","_law_elder","_law_hands_here","_law_low","_law_cut"] ["_law_count","_law_elder"] (aw xt):=scF
theorem la:aN ["_law_hands_here","_law_marks","_law_dealt_here","_law_low","_law_high","_law_hand"] ["_law_hands_here","_law_marks"] (aw s_6):=scF
theorem tK:aN ["_law_stamper_here","_law_count","_law_elder","_law_marks","_law_height","_law_hands_here","_law_dealt_here"] ["_law_stamper_here","_law_count","_law_elder","_law_marks","_law_height"] (aw xD):=scF
theorem eD:aN ["_law_stamper_here","_law_script","_law_tree","_law_heads","_law_known","_law_alias","_law_way_here","_law_cell","_law_k","_law_count","_law_last","_law_marks","_law_other","_law_height","_law_old","_law_terms","_law_between","_law_told_here"] ["_law_stamper_here","_law_script","_law_tree","_law_heads","_law_known","_law_alias","_law_way_here"] (aw xy):=scF
theorem eM:aN ["_law_script","_law_way_here","_law_known","_law_alias","_law_stamper_here","_law_count","_law_elder","_law_last","_law_place","_law_seed","_law_tree","_law_heads"] ["_law_script"] (aw yY):=scF
inductive Dat where
 |non
 |bl (b:Bool)
 |int (i:Int)
 |str (z:Str)
 |lst (ds:List Dat)
 |tup (ds:List Dat)
 |dic
mutual
inductive eB (H:Hp):V->Dat->Prop
 |non:eB H .non .non
 |bl (b):eB H (.bl b) (.bl b)
 |int (i):eB H (.int i) (.int i)
 |str (z):eB H (.str z) (.str z)
 |lst {a xs ds}:H a=some (.lst xs)->DatWs H xs ds->eB H (.ref a) (.lst ds)
 |tup {a xs ds}:H a=some (.tup xs)->DatWs H xs ds->eB H (.ref a) (.tup ds)
 |dic {a}:((∃kvs,H a=some (.dK kvs))\/∃kvs,H a=some (.dT kvs))->eB H (.ref a) .dic
inductive DatWs (H:Hp):List V->List Dat->Prop
 |nil:DatWs H [] []
 |cons {x xs d ds}:eB H x d->DatWs H xs ds->DatWs H (x::xs) (d::ds)
end
mutual
def JL:Dat->Sl
 |.non=>.none
 |.bl b=>.bool b
 |.int i=>.int i
 |.str z=>.str z
 |.lst ds=>.list (toPys ds)
 |.tup ds=>.tuple (toPys ds)
 |.dic=>.none
def toPys:List Dat->List Sl
 |[]=>[]
 |d::r=>JL d::toPys r
end
def cm (z:Str):Bool:=z.cps.all (·<128)
mutual
def okD:Dat->Bool
 |.str z=>cm z&&decide (z.length<=2000000)
 |.lst ds=>okDs ds
 |.tup ds=>okDs ds
 |.dic=>false
 |.non=>true
 |.bl _=>true
 |.int _=>true
def okDs:List Dat->Bool
 |[]=>true
 |d::r=>okD d&&okDs r
end
def zg:Dat->Bool
 |.int _=>true
 |_=>false
def gB:Dat->Bool
 |.int i=>decide (0<=i/\i<10^60)
 |.str _=>true
 |_=>false
def gO (K:pv)(A:Adr):Sp:=fun vs H Q _=>∃v d,vs=[v]/\eB H v d/\Q (.bl (zg d)) H
def iK (K:pv)(A:Adr):Sp:=fun vs H Q _=>∃v d,vs=[v]/\eB H v d/\Q (.bl (gB d)) H
def mX:Key->Dat
 |.inl i=>.int i
 |.inr z=>.str z
def szK:Key->Nat
 |.inl _=>62
 |.inr z=>z.length+62
def okP:Key->Bool
 |.inl i=>decide (0<=i/\i<10^60)
 |.inr z=>cm z&&decide (z.length<=2000000)
def FW:Key->Bool
 |.inr _=>true
 |.inl _=>false
def okT (k:List Key):Bool:=decide (1<=k.length/\k.length<=8)&&(k.head?.map FW).getD false&&k.all okP
def szT (k:List Key):Nat:=(k.map szK).sum
def uI (k:List Key):Key->Prop
 |.inl i=>0<=i/\i<10^60
 |.inr z=>cm z=true/\z.length<=szT k
def cK:Key->Str
 |.inl i=>toString i++";"
 |.inr z=>toString (z.length:Int)++":"++z
def cg:List Key->Str
 |[]=>My
 |x::r=>cK x++cg r
def uq (H H':Hp):Prop:=∀b o,H b=some o->(∀ps,o≠.tbl ps)->H' b=some o
def cM (kvs:List (List Key×Key)):List (List Key×V):=kvs.map fun p=>(p.1,kV p.2)
def cp (kvs:List (List Key×Key))(k:List Key):Option Key:=(kvs.find? fun p=>decide (p.1=k)).map (·.2)
def iz:Key->Prop
 |.inl i=>0<=i/\i<10^60
 |.inr z=>cm z=true/\z.length<=62
def fH (kvs:List (List Key×Key)):Prop:=∀p∈kvs,iz p.2
structure fO (A:Adr)(H:Hp)(x d:Addr)(kvs:List (List Key×V)):Prop where
 ob:∃dx,H x=some (.ins A.c_Numbers dx [("given",.ref d)])
 di:H d=some (.dT kvs)
def mi (t:Int):Key->Int
 |.inr z=>2*t+z.length
 |.inl i=>2*t+i
def tU (m:Int)(k:List Key):Key:=.inl (k.foldl mi k.length%m)
def aO (b:Addr)(H H':Hp):Prop:=∀x o,x≠b->H x=some o->H' x=some o
def Lin (a c:Int)(kvs:List (List Key×Key)):Prop:=∀(i:Nat)(p:List Key×Key),kvs[i]?=some p->p.2=Nb (a*(i:Int)+c)
inductive Kd where
 |wri
 |cnt
 |wea
 |pla (D:Addr) (al:Option (List Key×List Key))
def alF:Option (List Key×List Key)->List Key->List Key
 |none,k=>k
 |some p,k=>if k=p.1 then p.2 else k
def jH (H:Hp)(D:Addr):Option (List Key×List Key)->Prop
 |none=>H D=some (.dT [])
 |some p=>∃o,H D=some (.dT [(p.1,.ref o)])/\H o=some (.tup (p.2.map kV))/\okT p.2=true
inductive Stp (A:Adr)(H:Hp)(f b:Addr)(d:Kd)(g:gOp)(n:Nat):Prop
 |wri (hc:dQ H f fA [] []) (hb:b=f) (hg:g=fun k=>some (.inr (cg k))) (ed:d=.wri)
 |cnt (q x:Addr) (kvs:List (List Key×Key)) (hc:dQ H f fR [q] [.ref x]) (num:fO A H x b (cM kvs)) (hl:kvs.length<=n) (hs:fH kvs) (st:Lin 1 0 kvs) (hg:g=cp kvs) (ed:d=.cnt)
 |wea (q:Addr) (m:Int) (h1:1<=m) (h2:m<=9) (hc:dQ H f fU [q] [.int m]) (hb:b=f) (hg:g=fun k=>some (tU m k)) (ed:d=.wea)
 |pla (q0 q1 q2 D:Addr) (j:Int) (h0:1<=j) (h1:j<1000) (kvs:List (List Key×Key)) (al:Option (List Key×List Key)) (hc:dQ H f fQ [q0,q1,q2] [.int j,.ref b,.ref D]) (hb:H b=some (.dT (cM kvs))) (ha:jH H D al) (bD:b≠D) (hl:kvs.length<=n) (hs:fH kvs) (st:Lin j 5 kvs) (hg:g=fun k=>cp kvs (alF al k)) (ed:d=.pla D al)
def Sub (g g':gOp):Prop:=∀k v,g k=some v->g' k=some v
def Ext (g:gOp)(h:List Key->Key):Prop:=∀k v,g k=some v->h k=v
abbrev PK (H:Hp):List Addr->List (List Key)->Prop:=Paired (fun(p:Addr)(k:List Key)=>H p=some (.tup (k.map kV))/\okT k=true)
def lG (K:pv)(A:Adr):Sp:=fun vs H Q _=>∃(p:Addr)(k:List Key),vs=[.ref p]/\H p=some (.tup (k.map kV))/\okT k=true/\∀H',aA H H'->Q (.bl true) H'
def pP (K:pv)(A:Adr):Sp:=fun vs H Q _=>∃x:Key,vs=[kV x]/\okP x=true/\Q (.str (cK x)) H
def mn (K:pv)(A:Adr):Sp:=fun vs H Q _=>∃(p:Addr)(k:List Key),vs=[.ref p]/\H p=some (.tup (k.map kV))/\okT k=true/\∀H',aA H H'->Q (.str (cg k)) H'
def tJ (K:pv)(A:Adr):Sp:=mn K A
def ja (kvs:List (List Key×V))(kk:List Key)(d:V):V:=(bH kvs kk).getD d
def iQ (H:Hp)(b:Addr)(kvs:List (List Key×V))(kk:List Key)(d:V):Hp:=if (bH kvs kk).isSome=true then H else upd H b (.dT (cv kvs kk d))
def ub (K:pv)(A:Adr):Sp:=fun vs H Q _=>∃x dx,vs=[.ref x]/\H x=some (.ins A.c_Numbers dx [])/\∀d,H d=none->Q .non (upd (upd H d (.dT [])) x (.ins A.c_Numbers dx [("given",.ref d)]))
def tP (K:pv)(A:Adr):Sp:=fun vs H Q _=>∃(x d p:Addr)(kvs:List (List Key×V))(k:List Key),vs=[.ref x,.ref p]/\fO A H x d kvs/\kvs.length<=50000/\H p=some (.tup (k.map kV))/\okT k=true/\∀H',aA H H'->Q (ja kvs k (.int kvs.length)) (iQ H' d kvs k (.int kvs.length))
def uw (K:pv)(A:Adr):Sp:=fun vs H Q _=>∃(x d p:Addr)(kvs:List (List Key×V))(k:List Key),vs=[.ref p,.ref x]/\fO A H x d kvs/\kvs.length<=50000/\H p=some (.tup (k.map kV))/\okT k=true/\∀H',aA H H'->Q (ja kvs k (.int kvs.length)) (iQ H' d kvs k (.int kvs.length))
def bS (P:Addr)(H H':Hp):Prop:=∀b o,H b=some o->b≠P->H' b=some o
def ue (K:pv)(A:Adr):Sp:=fun vs H Q _=>∃(p:Addr)(m:Int)(k:List Key),vs=[.ref p,.int m]/\1<=m/\m<=9/\H p=some (.tup (k.map kV))/\okT k=true/\Q (kV (tU m k)) H
def uG (K:pv)(A:Adr):Sp:=fun vs H Q _=>∃(p b D:Addr)(j:Int)(k:List Key)(kvs:List (List Key×V))(al:Option (List Key×List Key)),vs=[.ref p,.int j,.ref b,.ref D]/\0<=j/\j<1000/\H p=some (.tup (k.map kV))/\H b=some (.dT kvs)/\jH H D al/\kvs.length<=50000/\Q (ja kvs (alF al k) (.int (j*(kvs.length:Int)+5))) (iQ H b kvs (alF al k) (.int (j*(kvs.length:Int)+5)))
def MkQ (A:Adr)(P:Addr)(d:Kd)(H:Hp)(Q:VK):Prop:=∀(f b:Addr)(g:gOp)(H':Hp),bS P H H'->Stp A H' f b d g 0->H b=none->Q (.ref f) H'
def pO (K:pv)(A:Adr):Sp:=fun vs H Q _=>vs=[]/\H A.t_62=some (.tbl #[])/\MkQ A A.t_62 .wri H Q
def oR (K:pv)(A:Adr):Sp:=fun vs H Q _=>vs=[]/\H A.t_38=some (.tbl #[])/\MkQ A A.t_38 .cnt H Q
def pe (K:pv)(A:Adr):Sp:=fun vs H Q _=>∃m:Int,vs=[.int m]/\1<=m/\m<=9/\H A.t_33=some (.tbl #[])/\MkQ A A.t_33 .wea H Q
def pS (K:pv)(A:Adr):Sp:=fun vs H Q _=>∃(b D:Addr)(j:Int),vs=[.ref b,.ref D,.int j]/\1<=j/\j<1000/\H A.t_23=some (.tbl #[])/\H b=some (.dT [])/\H D=some (.dT [])/\b≠D/\
 ∀(f:Addr)(H':Hp),bS A.t_23 H H'->Stp A H' f b (.pla D none) (fun k=>cp [] (alF none k)) 0->Q (.ref f) H'
def Kd.sure:Kd->Prop
 |.wri=>True
 |.cnt=>True
 |.wea=>False
 |.pla _ al=>al=none
def pQ (K:pv)(A:Adr):Sp:=fun vs H Q _=>∃(w c:Int)(b0 D:Addr),vs=[.int w,.int c,.ref b0,.ref D]/\Ap A H/\H b0=some (.dT [])/\H D=some (.dT [])/\b0≠D/\0<=w/\w<=3/\
 ∀(f b:Addr)(d:Kd)(g:gOp)(H':Hp),uq H H'->Stp A H' f b d g 0->(b=b0\/H b=none)->(w=3->d.sure)->(w<2->d=.pla D none/\b=b0)->Q (.ref f) H'
def enK (e:Key):Prop:=okP e=true/\szK e<=24000
def aq (n:Nat):Nat:=2^Ov (n- 1)
def grF:Nat->Nat->Nat->List Int
 |0,_,_=>[]
 |f+1,c,el=>if el=0\/c<=el then[]else if el<=aq c then 0::grF f (aq c) el else 1::grF f (c- aq c) (el- aq c)
abbrev aR (c el:Nat):List Int:=grF 60 c el
def jtT (t:Int)(o a:Key):List Key:=if t=0 then[.inr "joint",o,a]else[.inr "joint",a,o]
def bM (c:Int)(st:List (Int×Key))(i:Nat)(v:Key):List Key:=match st[i]? with
 |some x=>jtT x.1 v x.2
 |none=>[.inr "row",.inl c,v]
def dA (h:List Key->Key)(c:Int)(m:Key)(st:List (Int×Key)):Nat->List Key
 |0=>bM c st 0 m
 |i+1=>bM c st (i+1) (h (dA h c m st i))
def fS (h:List Key->Key)(c:Int)(m:Key)(st:List (Int×Key))(k:Nat):List (List Key):=(MZ k).map (dA h c m st)
def cL (h:List Key->Key)(m:Key)(st:List (Int×Key)):Nat->List (List Key)×Key
 |0=>([],m)
 |i+1=>match st[i]? with
  |some x=>if x.1=1 then((cL h m st i).1++[jtT x.1 (cL h m st i).2 x.2],h (jtT x.1 (cL h m st i).2 x.2))else cL h m st i
  |none=>cL h m st i
def ji (h:List Key->Key)(el:Nat)(m:Key)(st:List (Int×Key)):List Key:=[.inr "row",.inl (el:Int),if el=0 then h [.inr "void"]else(cL h m st st.length).2]
def jp (h:List Key->Key)(el:Nat)(m:Key)(st:List (Int×Key)):List (List Key):=(if el=0 then[[.inr "void"]]else(cL h m st st.length).1)++[ji h el m st]
def dl:List Int->Nat->Nat->List Key->List (Option Key)
 |[],lo,_,ks=>[ks[lo]?]
 |t::r,lo,hi,ks=>if t=1 then ks[lo]?::dl r (lo+1) hi ks else ks[hi- 1]?::dl r lo (hi- 1) ks
def ci (ts:List Int)(ks:List Key):List Key:=(dl ts 0 ks.length ks).map fun x=>x.getD (.inl 0)
def stR (ts:List Int)(ks:List Key):List (Int×Key):=(ts.zip ks).reverse
def inM (ts:List Int)(ks:List Key):Key:=((ci ts ks)[ts.length]?).getD (.inl 0)
abbrev stG (ts:List Int)(ks:List Key):List (Int×Key):=stR ts (ci ts ks)
structure jW (A:Adr)(H:Hp)(f b P:Addr)(d:Kd)(c el:Nat)(ts:List Int)(ks:List Key)(g:gOp)(n:Nat):Prop where
 s:Stp A H f b d g n
 hn:n+400<=40000
 c1:1<=c
 c2:c<2^60
 ec:el<=c
 tl:ts.length<=60
 t01:∀t∈ts,t=0\/t=1
 z:el=0->ts=[]
 kl:ks.length=ts.length+1
 ke:∀k∈ks,enK k
 w:H P=some (.tup (ks.map kV))
def dU (K:pv)(A:Adr):Sp:=fun vs H Q _=>∃(a:Addr)(ns:List Int)(k:Int),vs=[.ref a,.int k]/\SqL K H a (ns.map V.int)/\0<=k/\∀z:Int,Q (.int z) H
def kf (K:pv)(A:Adr):Sp:=fun vs H Q _=>∃m:Nat,vs=[.int (m:Int)]/\2<=m/\m<=2^60/\Q (.int ((aq m:Nat):Int)) H
def pI (K:pv)(A:Adr):Sp:=fun vs H Q _=>∃c el:Nat,vs=[.int (c:Int),.int (el:Int)]/\1<=c/\el<=c/\c<=2^60/\∀D,H D=none->Q (.ref D) (upd H D (.lst ((aR c el).map V.int)))
def jP (K:pv)(A:Adr):Sp:=fun vs H Q _=>∃i:Int,vs=[.int i]/\0<=i/\i<2^60/\Q (.bl true) H
def pU (K:pv)(A:Adr):Sp:=fun vs H Q _=>∃c p:Int,vs=[.int c,.int p]/\0<=p/\p<=c/\c<2^60/\Q (.bl true) H
def pA (K:pv)(A:Adr):Sp:=fun vs H Q _=>∃(p:Addr)(c:Nat)(v:Key),vs=[.ref p]/\H p=some (.tup [.int (c:Int),kV v])/\c<2^60/\okP v=true/\Q (.bl true) H
def lP (K:pv)(A:Adr):Sp:=fun vs H Q _=>∃(p:Addr)(c:Nat)(v:Key),vs=[.ref p]/\H p=some (.tup [.int (c:Int),kV v])/\c<2^60/\okP v=true/\Q .non H
def lF (K:pv)(A:Adr):Sp:=fun vs H Q _=>∃(p:Addr)(ks:List Key),vs=[.int (ks.length:Int),.ref p]/\H p=some (.tup (ks.map kV))/\(∀k∈ks,okP k=true)/\ks.length<=500/\∀H',aA H H'->Q (.bl true) H'
def kA (K:pv)(A:Adr):Sp:=fun vs H Q _=>∃(t:Int)(o a:Key),vs=[.int t,kV o,kV a]/\∀p,H p=none->Q (.ref p) (upd H p (.tup ((jtT t o a).map kV)))
def lV (K:pv)(A:Adr):Sp:=fun vs H Q _=>∃(f b:Addr)(d:Kd)(g:gOp)(n:Nat),vs=[.ref f]/\Stp A H f b d g n/\n<=40000/\
 ∀(O:Addr)(po:List Addr)(v:Key)(g':gOp)(H':Hp),aO b H H'->Stp A H' f b d g' (n+1)->Sub g g'->g' [.inr "void"]=some v->okP v=true->szK v<=200->H' O=some (.lst (po.map V.ref))->PK H' po [[.inr "void"],[.inr "row",.inl 0,v]]->Q (.ref O) H'
def pL (K:pv)(A:Adr):Sp:=fun vs H Q _=>∃(L P:Addr)(ts:List Int)(ks:List Key),vs=[.ref L,.ref P]/\H L=some (.lst (ts.map V.int))/\H P=some (.tup (ks.map kV))/\ks.length=ts.length+1/\ts.length<=60/\(∀t∈ts,t=0\/t=1)/\
 ∀(R Z:Addr)(ps:List Addr)(H':Hp),aA H H'->H' R=some (.tup [kV (inM ts ks),.ref Z])->H' Z=some (.lst (ps.map V.ref))->ps.length=ts.length->(∀(j:Nat)(p:Addr)(x:Int×Key),ps[j]?=some p->(stG ts ks)[j]?=some x->H' p=some (.tup [.int x.1,kV x.2]))->Q (.ref R) H'
def EO (A:Adr)(f b:Addr)(d:Kd)(c el:Nat)(m:Key)(st:List (Int×Key))(g:gOp)(n:Nat)(H:Hp)(R:Addr->Addr->Hp->Prop):Prop:=
 ∀(Y O:Addr)(py po:List Addr)(ty to:List (List Key))(g':gOp)(H':Hp),aO b H H'->Stp A H' f b d g' (n+130)->Sub g g'->H' Y=some (.lst (py.map V.ref))->H' O=some (.lst (po.map V.ref))->PK H' py ty->PK H' po to->ty.length=st.length+1->1<=to.length->to.length<=70->(∀k∈ty,szT k<=1600000)->(∀k∈to,szT k<=1600000)->(∀h,Ext g' h->ty=fS h c m st (st.length+1)/\to=jp h el m st)->R Y O H'
def pF (K:pv)(A:Adr):Sp:=fun vs H Q _=>∃(f b R Z:Addr)(d:Kd)(c el:Nat)(m:Key)(st:List (Int×Key))(ps:List Addr)(g:gOp)(n:Nat),vs=[.ref f,.int (c:Int),.int (el:Int),.ref R]/\Stp A H f b d g n/\n+400<=40000/\1<=el/\el<=c/\c<2^60/\H R=some (.tup [kV m,.ref Z])/\H Z=some (.lst (ps.map V.ref))/\ps.length=st.length/\(∀(j:Nat)(p:Addr)(x:Int×Key),ps[j]?=some p->st[j]?=some x->H p=some (.tup [.int x.1,kV x.2]))/\st.length<=60/\enK m/\(∀x∈st,(x.1=0\/x.1=1)/\enK x.2)/\
 EO A f b d c el m st g n H fun Y O H'=>∀p,H' p=none->Q (.ref p) (upd H' p (.tup [.ref Y,.ref O]))
def lY (K:pv)(A:Adr):Sp:=fun vs H Q _=>∃(f b P:Addr)(d:Kd)(c el:Nat)(ks:List Key)(g:gOp)(n:Nat),vs=[.ref f,.int (c:Int),.int (el:Int),.ref P]/\jW A H f b P d c el (aR c el) ks g n/\
 EO A f b d c el (inM (aR c el) ks) (stG (aR c el) ks) g n H fun Y O H'=>∀p,H' p=none->Q (.ref p) (upd H' p (.tup [.ref Y,.ref O]))
def ql (K:pv)(A:Adr):Sp:=fun vs H Q _=>∃(a:Addr)(x y:V),vs=[.ref a,x,y]/\H a=some (fh A.c_Broken a none)/\∀dx,H dx=none->Q .non (upd (upd (upd H a (fh A.c_Broken a (some dx))) dx (iV [("due",x)] dx)) dx (iV (dv "came" y [("due",x)]) dx))
def pM (K:pv)(A:Adr):Sp:=fun vs H Q E=>∃(f b hd P:Addr)(d:Kd)(c el:Nat)(ks:List Key)(mk:Key)(g:gOp)(n:Nat),vs=[.ref f,.ref hd,.int (el:Int),.ref P]/\jW A H f b P d c el (aR c el) ks g n/\H hd=some (.tup [.int (c:Int),kV mk])/\okP mk=true/\
 ∀(w:Key)(g':gOp)(H':Hp),aO b H H'->Stp A H' f b d g' (n+131)->Sub g g'->okP w=true->(∀h,Ext g' h->w=h (dA h c (inM (aR c el) ks) (stG (aR c el) ks) (aR c el).length))->
  (w=mk->∀(u:Key)(g'':gOp)(H'':Hp),aO b H' H''->Stp A H'' f b d g'' (n+132)->Sub g' g''->okP u=true->(∀h,Ext g'' h->u=h (ji h el (inM (aR c el) ks) (stG (aR c el) ks)))->Q (kV u) H'')/\
  (w≠mk->∀(dx:Addr)(H'':Hp),aA H' H''->H'' dx=some (iV (dv "came" (kV w) [("due",kV mk)]) dx)->E (.ref A.c_Broken) (some dx) H'')
def jK (K:pv)(A:Adr):Sp:=fun vs H Q _=>∃m:Key,vs=[kV m]/\enK m/\∀(e:Key)(H':Hp),aA H H'->enK e->Q (kV e) H'
def mf (K:pv)(A:Adr):Sp:=fun vs H Q _=>∃(f b D o1 o2:Addr)(k1 k2:List Key)(g:gOp)(n:Nat),vs=[.ref b,.ref D,.ref o1,.ref o2]/\Stp A H f b (.pla D none) g n/\n<=40000/\H o1=some (.tup (k1.map kV))/\H o2=some (.tup (k2.map kV))/\okT k1=true/\okT k2=true/\
 ∀(al:Option (List Key×List Key))(g':gOp)(H':Hp),aO D H H'->Stp A H' f b (.pla D al) g' n->Sub g g'->Q .non H'
def Ag (h:List Key->Key)(ks:List (List Key)):Option (List Key×List Key)->Prop
 |none=>∀(j k:Nat) a b,j<k->ks[j]?=some a->ks[k]?=some b->h a=h b->a=b
 |some r=>∃j k:Nat,j<k/\ks[j]?=some r.1/\ks[k]?=some r.2/\r.1≠r.2/\h r.1=h r.2/\(∀(j' k':Nat) a b,j'<k'->k'<k->ks[j']?=some a->ks[k']?=some b->h a=h b->a=b)/\∀(j':Nat) a,j'<j->ks[j']?=some a->h a=h r.2->a=r.2
def vM (H:Hp):Option (List Key×List Key)->V->Prop
 |none,v=>v=.non
 |some r,v=>∃p a b:Addr,v=.ref p/\H p=some (.tup [.ref a,.ref b])/\H a=some (.tup (r.1.map kV))/\H b=some (.tup (r.2.map kV))/\okT r.1=true/\okT r.2=true
def ph (K:pv)(A:Adr):Sp:=fun vs H Q _=>∃(f b L:Addr)(d:Kd)(ps:List Addr)(ks:List (List Key))(g:gOp)(n:Nat),vs=[.ref f,.ref L]/\Stp A H f b d g n/\H L=some (.lst (ps.map V.ref))/\PK H ps ks/\ks.length<=900/\n<=40000/\
 ∀(v:V)(H':Hp)(g':gOp)(r:Option (List Key×List Key)),aO b H H'->Stp A H' f b d g' (n+ks.length)->Sub g g'->vM H' r v->(∀h:List Key->Key,Ext g' h->Ag h ks r)->Q v H'
def pG (K:pv)(A:Adr):Sp:=fun vs H Q _=>∃(f b L:Addr)(d:Kd)(ps:List Addr)(ks:List (List Key))(r:List Key×List Key)(v:V)(g:gOp)(n:Nat),vs=[.ref f,.ref L,v]/\Stp A H f b d g n/\H L=some (.lst (ps.map V.ref))/\PK H ps ks/\ks.length<=900/\n+10<=40000/\vM H (some r) v/\r.1∈ks/\r.2∈ks/\r.1≠r.2/\(∀h,Ext g h->h r.1=h r.2)/\
 ∀H',Q (.bl true) H'
def bV:Nat->Nat->Nat->List Int
 |0,_,_=>[]
 |f+1,p,m=>if m<=1 then[]else if p<aq m then 0::bV f p (aq m)else 1::bV f (p- aq m) (m- aq m)
abbrev bo (c p:Nat):List Int:=bV 60 p c
def de (h:List Key->Key)(c:Int)(e:Key)(st:List (Int×Key)):Nat->List Key
 |0=>[.inr "entry",e]
 |i+1=>match st[i]? with
  |some x=>jtT x.1 (h (de h c e st i)) x.2
  |none=>[.inr "row",.inl c,h (de h c e st i)]
def hV (h:List Key->Key)(c:Int)(e:Key)(st:List (Int×Key))(m:Nat):List (List Key):=(MZ m).map (de h c e st)
structure dN (H:Hp)(P T:Addr)(e:Key)(ks:List Key):Prop where
 hP:H P=some (.tup [kV e,.ref T])
 hT:H T=some (.tup (ks.map kV))
structure iC (A:Adr)(H:Hp)(f b P T:Addr)(d:Kd)(c:Nat)(ts:List Int)(ks:List Key)(e:Key)(g:gOp)(n:Nat):Prop where
 s:Stp A H f b d g n
 hn:n+200<=40000
 c1:1<=c
 c2:c<2^60
 tl:ts.length<=60
 t01:∀t∈ts,t=0\/t=1
 kl:ks.length=ts.length
 ee:enK e
 ke:∀k∈ks,enK k
 w:dN H P T e ks
def oX (K:pv)(A:Adr):Sp:=fun vs H Q _=>∃p m:Nat,vs=[.int (p:Int),.int (m:Int)]/\p<m/\m<=2^60/\∀D,H D=none->Q (.ref D) (upd H D (.lst ((bo m p).map V.int)))
def oU (K:pv)(A:Adr):Sp:=fun vs H Q _=>∃c p:Int,vs=[.int c,.int p]/\0<=p/\p<c/\c<2^60/\Q (.bl true) H
def oZ (K:pv)(A:Adr):Sp:=fun vs H Q _=>∃(L P T:Addr)(ts:List Int)(e:Key)(ks:List Key),vs=[.ref L,.ref P]/\H L=some (.lst (ts.map V.int))/\dN H P T e ks/\okP e=true/\(∀k∈ks,okP k=true)/\ks.length=ts.length/\ks.length<=500/\∀H',aA H H'->Q (.bl true) H'
def qg (A:Adr)(f b:Addr)(d:Kd)(c:Nat)(st:List (Int×Key))(e:Key)(m:Nat)(g:gOp)(n:Nat)(H:Hp)(Q:VK):Prop:=
 ∀(M:Addr)(ps:List Addr)(tt:List (List Key))(g':gOp)(H':Hp),aO b H H'->Stp A H' f b d g' (n+70)->Sub g g'->H M=none->M≠b->H' M=some (.lst (ps.map V.ref))->PK H' ps tt->(∀p∈ps,p≠b)->tt.length=m->(∀k∈tt,szT k<=1600000)->(∀h,Ext g' h->tt=hV h c e st m)->Q (.ref M) H'
def kh (K:pv)(A:Adr):Sp:=fun vs H Q _=>∃(f b P T:Addr)(d:Kd)(c p:Nat)(ks:List Key)(e:Key)(g:gOp)(n:Nat),vs=[.ref f,.int (c:Int),.int (p:Int),.ref P]/\iC A H f b P T d c (bo c p) ks e g n/\p<c/\qg A f b d c (stR (bo c p) ks) e ((bo c p).length+2) g n H Q
def Ak (A:Adr)(f b:Addr)(d:Kd)(c:Nat)(st:List (Int×Key))(e:Key)(g:gOp)(n:Nat)(H:Hp)(R:Key->Hp->Prop):Prop:=
 ∀(w:Key)(g':gOp)(H':Hp),aO b H H'->Stp A H' f b d g' (n+71)->Sub g g'->okP w=true->(∀h,Ext g' h->w=h (de h c e st (st.length+1)))->R w H'
def pD (K:pv)(A:Adr):Sp:=fun vs H Q _=>∃(f b P T:Addr)(d:Kd)(c p:Nat)(ks:List Key)(e:Key)(g:gOp)(n:Nat),vs=[.ref f,.int (c:Int),.int (p:Int),.ref P]/\iC A H f b P T d c (bo c p) ks e g n/\p<c/\Ak A f b d c (stR (bo c p) ks) e g n H fun w H'=>Q (kV w) H'
def pR (K:pv)(A:Adr):Sp:=fun vs H Q E=>∃(f b hd P T:Addr)(d:Kd)(c p:Nat)(ks:List Key)(e mk:Key)(g:gOp)(n:Nat),vs=[.ref f,.ref hd,.int (p:Int),.ref P]/\iC A H f b P T d c (bo c p) ks e g n/\p<c/\H hd=some (.tup [.int (c:Int),kV mk])/\okP mk=true/\
 Ak A f b d c (stR (bo c p) ks) e g n H fun w H'=>(w=mk->Q (kV e) H')/\(w≠mk->∀(dx:Addr)(H'':Hp),aA H' H''->H'' dx=some (iV (dv "came" (kV w) [("due",kV mk)]) dx)->E (.ref A.c_Broken) (some dx) H'')
def sg1:Str:=" !\"#$&'()*+,-./0123456789:;<=>?@ABCDEFGHIJKLMNOPQRSTUVWXYZ[\\]^_`"
def sg2:Str:="abcdefghijklmnopqrstuvwxyz{|}~"
def sgn (c:Int)(k:Nat):Str:=⟨#[(sg1++sg2).cps.toList.getD (((c/5+(k:Int)*(c/470%7))%94).toNat) 0]⟩
def txB (c:Int):Str:=Txt.join "" ((MZ (c%5).toNat).map (sgn c))
def stB (c:Int):Key:=if c%4=0 then .inr (txB (c/4))else if c%4=1 then .inl (c/4%10^60)else .inl (c/4%7)
def smK (e:Key):Prop:=okP e=true/\szK e<=70
def pX (K:pv)(A:Adr):Sp:=fun vs H Q _=>∃c:Int,vs=[.int c]/\∀H',aA H H'->(txB c).length<=4->cm (txB c)=true->Q (.str (txB c)) H'
def fK (K:pv)(A:Adr):Sp:=fun vs H Q _=>∃c:Int,vs=[.int c]/\∀H',aA H H'->smK (stB c)->Q (kV (stB c)) H'
def uo (K:pv)(A:Adr):Sp:=fun vs H Q _=>∃c:Int,vs=[.int c]/\∀m:Nat,1<=m->m<=4200->Q (.int (m:Int)) H
def lE (K:pv)(A:Adr):Sp:=fun vs H Q _=>∃(c:Int)(n:Nat),vs=[.int c,.int (n:Int)]/\1<=n/\∀m:Nat,1<=m->m<=n->Q (.int (m:Int)) H
def gS (K:pv)(A:Adr):Sp:=kf K A
structure Tre where
 seed:Int
 s0:Nat
 s1:Nat
 s2:Nat
 e:Key
structure dE (H:Hp)(t S:Addr)(x:Tre):Prop where
 ht:H t=some (.tup [.int x.seed,.ref S,kV x.e])
 hS:H S=some (.lst [.int (x.s0:Int),.int (x.s1:Int),.int (x.s2:Int)])
 ok:smK x.e
def inR (lo m s:Nat):Nat:=if lo<=s/\s<lo+m then 1 else 0
def nS (x:Tre)(lo m:Nat):Nat:=inR lo m x.s0+inR lo m x.s1+inR lo m x.s2
def trM (h:List Key->Key)(x:Tre):Nat->Nat->Nat->Key
 |0,lo,m=>stB (x.seed+5*(lo:Int)+3*(m:Int))
 |f+1,lo,m=>if m=1/\lo=x.s0 then h [.inr "entry",x.e]else if m=1\/nS x lo m=0 then stB (x.seed+5*(lo:Int)+3*(m:Int))else h [.inr "joint",trM h x f lo (aq m),trM h x f (lo+aq m) (m- aq m)]
def tr (h:List Key->Key)(x:Tre)(lo m:Nat):Key:=trM h x m lo m
def eN (K:pv)(A:Adr)(j:Nat):Sp:=fun vs H Q _=>∃(f b t S:Addr)(d:Kd)(x:Tre)(g:gOp)(n lo m e:Nat),vs=[.ref f,.ref t,.int (lo:Int),.int (m:Int)]/\Stp A H f b d g n/\n+nS x lo m*(e+1)<=40000/\dE H t S x/\1<=m/\m<=4200/\m<=2^e/\e<j/\e<=13/\
 ∀(v:Key)(g':gOp)(H':Hp),aO b H H'->Stp A H' f b d g' (n+nS x lo m*(e+1))->Sub g g'->okP v=true->szK v<=300+600*(nS x lo m*e)->(∀h,Ext g' h->v=tr h x lo m)->Q (kV v) H'
def ku (K:pv)(A:Adr):Sp:=fun vs H Q _=>∃(f b t S:Addr)(d:Kd)(x:Tre)(g:gOp)(n c:Nat),vs=[.ref f,.ref t,.int (c:Int)]/\Stp A H f b d g n/\n+200<=40000/\dE H t S x/\1<=c/\c<=4200/\
 ∀(p:Addr)(v:Key)(g':gOp)(H':Hp),aO b H H'->Stp A H' f b d g' (n+50)->Sub g g'->okP v=true->H' p=some (.tup [.int (c:Int),kV v])->(∀h,Ext g' h->v=h [.inr "row",.inl (c:Int),tr h x 0 c])->Q (.ref p) H'
def pmF (h:List Key->Key)(x:Tre):Nat->Nat->Nat->List Key
 |0,_,_=>[]
 |f+1,lo,m=>if m<=1 then[]else if x.s0<lo+aq m then tr h x (lo+aq m) (m- aq m)::pmF h x f lo (aq m)else tr h x lo (aq m)::pmF h x f (lo+aq m) (m- aq m)
def km (K:pv)(A:Adr):Sp:=fun vs H Q _=>∃(f b t S:Addr)(d:Kd)(x:Tre)(g:gOp)(n c:Nat),vs=[.ref f,.ref t,.int (c:Int)]/\Stp A H f b d g n/\n+1000<=40000/\dE H t S x/\1<=c/\c<=4200/\x.s0<c/\
 ∀(P T:Addr)(ks:List Key)(g':gOp)(H':Hp),aO b H H'->Stp A H' f b d g' (n+700)->Sub g g'->dN H' P T x.e ks->(∀k∈ks,enK k)->ks.length=(bo c x.s0).length->(∀h,Ext g' h->ks=pmF h x 60 0 c)->Q (.ref P) H'
def gmF (h:List Key->Key)(x:Tre)(el:Nat):Nat->Nat->Nat->List Key
 |0,lo,m=>[tr h x lo m]
 |f+1,lo,m=>if lo+m<=el then[tr h x lo m]else if el<=lo+aq m then gmF h x el f lo (aq m)++[tr h x (lo+aq m) (m- aq m)]else tr h x lo (aq m)::gmF h x el f (lo+aq m) (m- aq m)
def jG (K:pv)(A:Adr):Sp:=fun vs H Q _=>∃(f b t S:Addr)(d:Kd)(x:Tre)(g:gOp)(n c el:Nat),vs=[.ref f,.ref t,.int (c:Int),.int (el:Int)]/\Stp A H f b d g n/\n+1000<=40000/\dE H t S x/\1<=el/\el<=c/\c<=4200/\
 ∀(P:Addr)(ks:List Key)(g':gOp)(H':Hp),aO b H H'->Stp A H' f b d g' (n+800)->Sub g g'->H' P=some (.tup (ks.map kV))->(∀k∈ks,enK k)->ks.length=(aR c el).length+1->(∀h,Ext g' h->ks=gmF h x el 60 0 c)->Q (.ref P) H'
def pB (K:pv)(A:Adr):Sp:=fun vs H Q _=>∃c el:Nat,vs=[.int (c:Int),.int (el:Int)]/\1<=el/\el<=c/\c<=2^60/\∀D,H D=none->Q (.ref D) (upd H D (.lst ((aR c el).map V.int)))
def pb (K:pv)(A:Adr):Sp:=fun vs H Q _=>∃m p:Nat,vs=[.int (m:Int),.int (p:Int)]/\p<m/\m<=2^60/\∀D,H D=none->Q (.ref D) (upd H D (.lst ((bo m p).map V.int)))
def sO (K:pv)(A:Adr):Sp:=fun vs H Q _=>∃(L P:Addr)(ts:List Int)(ks:List Key),vs=[.ref L,.ref P]/\H L=some (.lst (ts.map V.int))/\H P=some (.tup (ks.map kV))/\ks.length=ts.length+1/\ts.length<=60/\(∀t∈ts,t=0\/t=1)/\∀(M:Addr)(H':Hp),aA H H'->H M=none->H' M=some (.lst ((ci ts ks).map kV))->Q (.ref M) H'
def SqK (H:Hp)(M:Addr)(ks:List Key):Prop:=H M=some (.lst (ks.map kV))\/H M=some (.tup (ks.map kV))
def TmQ (A:Adr)(f b:Addr)(d:Kd)(g:gOp)(n:Nat)(H:Hp)(Q:VK):Prop:=∀(p:Addr)(k:List Key)(g':gOp)(H':Hp),aO b H H'->Stp A H' f b d g' (n+70)->Sub g g'->H' p=some (.tup (k.map kV))->okT k=true->Q (.ref p) H'
def mm (K:pv)(A:Adr):Sp:=fun vs H Q _=>∃(f b L M:Addr)(d:Kd)(c:Nat)(ts:List Int)(ks:List Key)(v:Key)(g:gOp)(n j:Nat),vs=[.ref f,.int (c:Int),.ref L,.ref M,kV v,.int (j:Int)]/\Stp A H f b d g n/\n+100<=40000/\c<2^60/\H L=some (.lst (ts.map V.int))/\SqK H M ks/\ks.length=ts.length/\ts.length<=60/\(∀t∈ts,t=0\/t=1)/\(∀k∈ks,enK k)/\okP v=true/\szK v<=25000/\j<=ts.length/\TmQ A f b d g n H Q
def md (K:pv)(A:Adr):Sp:=fun vs H Q _=>∃(f b P T:Addr)(d:Kd)(c p:Nat)(ks:List Key)(e:Key)(g:gOp)(n j:Nat),vs=[.ref f,.int (c:Int),.int (p:Int),.ref P,.int (j:Int)]/\iC A H f b P T d c (bo c p) ks e g n/\p<c/\j<=ks.length+1/\TmQ A f b d g (n+1) H Q
def lC (K:pv)(A:Adr):Sp:=fun vs H Q _=>∃(f b P:Addr)(d:Kd)(c el:Nat)(ks:List Key)(g:gOp)(n j:Nat),vs=[.ref f,.int (c:Int),.int (el:Int),.ref P,.int (j:Int)]/\jW A H f b P d c el (aR c el) ks g n/\1<=el/\j<ks.length/\TmQ A f b d g n H Q
def kg (K:pv)(A:Adr):Sp:=fun vs H Q _=>∃(k c:Int)(P:Addr)(ks:List Key),vs=[.int k,.int c,.ref P]/\H P=some (.tup (ks.map kV))/\(∀x∈ks,enK x)/\ks.length<=61/\
 ∀(P':Addr)(ks':List Key)(H':Hp),aA H H'->H' P'=some (.tup (ks'.map kV))->(∀x∈ks',enK x)->ks'.length=ks.length->Q (.ref P') H'
def ua (K:pv)(A:Adr):Sp:=fun vs H Q _=>∃(k c:Int)(P T:Addr)(e:Key)(ks:List Key),vs=[.int k,.int c,.ref P]/\dN H P T e ks/\enK e/\(∀x∈ks,enK x)/\ks.length<=60/\
 ∀(P' T':Addr)(e':Key)(ks':List Key)(H':Hp),aA H H'->dN H' P' T' e' ks'->enK e'->(∀x∈ks',enK x)->ks'.length=ks.length->Q (.ref P') H'
def TdW (H:Hp)(r:Addr):Option Key->Prop
 |none=>H r=some (.tup [.str "broken"])
 |some v=>H r=some (.tup [.str "told",kV v])
def PlT (h:List Key->Key)(c p:Nat)(ks:List Key)(e mk:Key):Option Key->Prop
 |some v=>v=e/\h (de h c e (stR (bo c p) ks) ((bo c p).length+1))=mk
 |none=>h (de h c e (stR (bo c p) ks) ((bo c p).length+1))≠mk
def GrT (h:List Key->Key)(c el:Nat)(ks:List Key)(mk:Key):Option Key->Prop
 |some v=>h (dA h c (inM (aR c el) ks) (stG (aR c el) ks) (aR c el).length)=mk/\v=h (ji h el (inM (aR c el) ks) (stG (aR c el) ks))
 |none=>h (dA h c (inM (aR c el) ks) (stG (aR c el) ks) (aR c el).length)≠mk
def iL (K:pv)(A:Adr):Sp:=fun vs H Q _=>∃(f b hd P:Addr)(d:Kd)(c at':Nat)(mk:Key)(g:List Key->Option Key)(n:Nat)(gr:Bool),vs=[.ref f,.bl gr,.ref hd,.int (at':Int),.ref P]/\H hd=some (.tup [.int (c:Int),kV mk])/\okP mk=true/\
 ((gr=true/\1<=at'/\∃ks,jW A H f b P d c at' (aR c at') ks g n/\∀(r:Addr)(v:Option Key)(g':List Key->Option Key)(H':Hp),aO b H H'->Stp A H' f b d g' (n+140)->Sub g g'->TdW H' r v->(∀h,Ext g' h->GrT h c at' ks mk v)->(∀u,v=some u->okP u=true)->Q (.ref r) H')\/
  (gr=false/\at'<c/\∃T ks e,iC A H f b P T d c (bo c at') ks e g n/\∀(r:Addr)(v:Option Key)(g':List Key->Option Key)(H':Hp),aO b H H'->Stp A H' f b d g' (n+140)->Sub g g'->TdW H' r v->(∀h,Ext g' h->PlT h c at' ks e mk v)->(∀u,v=some u->okP u=true)->Q (.ref r) H'))
def lq (K:pv)(A:Adr):Sp:=fun vs H Q _=>∃(f b P:Addr)(d:Kd)(c el:Nat)(ks:List Key)(g:gOp)(n:Nat),vs=[.ref f,.int (c:Int),.int (el:Int),.ref P]/\jW A H f b P d c el (aR c el) ks g n/\1<=el/\
 ∀(M:Addr)(ps:List Addr)(tt:List (List Key))(g':gOp)(H':Hp),aO b H H'->Stp A H' f b d g' (n+130)->Sub g g'->H' M=some (.lst (ps.map V.ref))->PK H' ps tt->tt.length<=140->(∀h,Ext g' h->tt=fS h c (inM (aR c el) ks) (stG (aR c el) ks) ((aR c el).length+1)++jp h el (inM (aR c el) ks) (stG (aR c el) ks))->Q (.ref M) H'
def rf (h:List Key->Key)(tt:List (List Key)):Prop:=∀a∈tt,∀b∈tt,h a=h b->a=b
def jt (K:pv)(A:Adr):Sp:=fun vs H Q _=>∃(f b M r:Addr)(d:Kd)(ps:List Addr)(tt:List (List Key))(v:Option Key)(du:Key)(g:gOp)(n:Nat)(su:Bool),vs=[.ref f,.ref M,.ref r,kV du,.bl su]/\Stp A H f b d g n/\n+1000<=40000/\H M=some (.lst (ps.map V.ref))/\PK H ps tt/\tt.length<=900/\TdW H r v/\okP du=true/\(∀u,v=some u->okP u=true)/\(∀u,v=some u->u≠du->su=false/\∀h,Ext g h->¬rf h tt)/\∀H',Q (.bl true) H'
structure Hds (H:Hp)(L:Addr)(x:Tre)(c0 c1 c2:Nat)(m0 m1 m2:Key)(g:gOp):Prop where
 ex:∃p0 p1 p2,H L=some (.lst [.ref p0,.ref p1,.ref p2])/\H p0=some (.tup [.int (c0:Int),kV m0])/\H p1=some (.tup [.int (c1:Int),kV m1])/\H p2=some (.tup [.int (c2:Int),kV m2])
 o0:okP m0=true
 o1:okP m1=true
 o2:okP m2=true
 e0:∀h,Ext g h->m0=h [.inr "row",.inl (c0:Int),tr h x 0 c0]
 e1:∀h,Ext g h->m1=h [.inr "row",.inl (c1:Int),tr h x 0 c1]
 e2:∀h,Ext g h->m2=h [.inr "row",.inl (c2:Int),tr h x 0 c2]
 l0:c0<=4200
 l1:c1<=c0
 l2:c2<=c1
 l3:x.s0<c2
 q1:x.s1+1=c1
 q2:x.s2+1=c2
def pK (K:pv)(A:Adr):Sp:=fun vs H Q _=>∃(f b t S L:Addr)(d:Kd)(x:Tre)(c0 c1 c2:Nat)(m0 m1 m2:Key)(g:gOp)(n:Nat),vs=[.ref f,.ref t,.ref L,.int (x.s0:Int)]/\Stp A H f b d g n/\n+9000<=40000/\dE H t S x/\Hds H L x c0 c1 c2 m0 m1 m2 g/\
 ∀(g':gOp)(H':Hp),aO b H H'->Stp A H' f b d g' (n+8200)->Sub g g'->Q (.bl true) H'
structure LwA (K:pv)(A:Adr)(H:Hp)(f b D a t S L:Addr)(d:Kd)(ns:List Int)(x:Tre)(c0 c1 c2:Nat)(m0 m1 m2:Key)(g:gOp)(n:Nat)(w:Int)(B:Addr):Prop where
 hs:SqL K H a (ns.map V.int)
 s:Stp A H f b d g n
 hn:n+12000<=40000
 tw:dE H t S x
 hd:Hds H L x c0 c1 c2 m0 m1 m2 g
 w3:0<=w/\w<=3
 su:w=3->d.sure
 pl:w<2->d=.pla D none/\b=B
def pJ (K:pv)(A:Adr):Sp:=fun vs H Q _=>∃(f b D a t S L B:Addr)(d:Kd)(ns:List Int)(x:Tre)(c0 c1 c2:Nat)(m0 m1 m2:Key)(g:gOp)(n:Nat)(w:Int),vs=[.ref f,.ref a,.ref t,.ref L,.ref B,.ref D,.int w]/\LwA K A H f b D a t S L d ns x c0 c1 c2 m0 m1 m2 g n w B/\∀H',Q (.bl true) H'
def pC (K:pv)(A:Adr):Sp:=fun vs H Q _=>∃(f b D a t S L B:Addr)(d:Kd)(ns:List Int)(x:Tre)(c0 c1 c2:Nat)(m0 m1 m2:Key)(g:gOp)(n:Nat)(w:Int),vs=[.ref f,.ref a,.ref t,.ref L,.ref B,.ref D,.int w]/\LwA K A H f b D a t S L d ns x c0 c1 c2 m0 m1 m2 g n w B/\∀H',Q (.bl true) H'
def oS (K:pv)(A:Adr):Sp:=fun vs H Q _=>∃(a:Addr)(ns:List Int),vs=[.ref a]/\SqL K H a (ns.map V.int)/\ns.length<=63/\Ap A H/\∀H',Q (.bl true) H'
def cN (K:pv)(A:Adr):L2.lI:=[(fA,tJ K A),(fR,uw K A),(fU,ue K A),(fQ,uG K A)]
def DK (K:pv)(A:Adr):TE:=aD (mn K A) (fun _=>E0) (ai (af 0) (av))
def Cg (K:pv)(A:Adr):TE:=wV A.c_Numbers "number_of" (tP K A) (fun _=>E0) (af 1) (ai (af 0) (av))
def CU (K:pv)(A:Adr):TS:=aF (aK (tCB (cr K) (ai (af 0) (av))) (aE 1)) (aF (gp (eO K (af 0)) (aE 2) (bf (dO K (tCB (fw) (ai (af 2) (ai (tC (.ty "str")) (av))))) (aK (tOp (bi K) (tOp (ib) (tC (.int 2)) (af 1)) (tCB (cr K) (ai (af 2) (av)))) (aE 1)) (aK (tOp (bi K) (tOp (ib) (tC (.int 2)) (af 1)) (af 2)) (aE 1)))) (aS (tOp (bL) (af 1) (af 3))))
def Eo (K:pv)(A:Adr):TS:=aS (tBM K "dict" mz (af 2) (ai (tBM K "dict" zN (af 3) (ai (af 0) (ai (af 0) (av)))) (ai (tOp (bi K) (tOp (ib) (af 1) (tCB (cr K) (ai (af 2) (av)))) (tC (.int 5))) (av))))
def Jw (K:pv)(A:Adr):TS:=aS (dk (tCB (fw) (ai (af 0) (ai (tC (.ty "int")) (av)))) (pH (tCB (fw) (ai (af 0) (ai (tC (.ty "bool")) (av))))))
def II (K:pv)(A:Adr):TS:=aF (bf (dO K (aD (gO K A) (fun _=>E0) (ai (af 0) (av)))) (aS (dG (mLe) (mLt) (tC (.int 0)) (af 0) (tOp (mH) (tC (.int 10)) (tC (.int 60))))) (be)) (aS (tCB (fw) (ai (af 0) (ai (tC (.ty "str")) (av)))))
def IY (K:pv)(A:Adr):TS:=aF (bf (fb (dO K (tCB (fw) (ai (af 0) (ai (tC (.ty "tuple")) (av)))))) (aS (tC (.bl false))) (be)) (aF (bf (fb (aU (dG (mLe) (mLe) (tC (.int 1)) (tCB (cr K) (ai (af 0) (av))) (tC (.int 8))))) (aS (tC (.bl false))) (be)) (aS (dk (tCB (fw) (ai (tOp (aG K) (af 0) (tC (.int 0))) (ai (tC (.ty "str")) (av)))) (tCB (xZ) (ai (fe [] (eO K (af 0)) (fun _ H Q=>Q true H) (aD (iK K A) (fun _=>E0) (ai (af 0) (av)))) (av))))))
def IJ (K:pv)(A:Adr):TS:=aF (bf (dO K (aD (gO K A) (fun _=>E0) (ai (af 0) (av)))) (aS (mJ ((uz (af 0))::(tC (.str ";"))::[]) My)) (be)) (aF (aK (tCB (cr K) (ai (af 0) (av))) (aE 1)) (aS (mJ ((uz (af 1))::(tC (.str ":"))::(uz (af 0))::[]) My)))
def IX (K:pv)(A:Adr):TS:=aF (bf (fb (dO K (aD (lG K A) (fun _=>E0) (ai (af 0) (av))))) (eZ) (be)) (aS (tBM K "str" ut (tC (.str "")) (ai (fe [] (eO K (af 0)) (fun _ H Q=>Q true H) (aD (pP K A) (fun _=>E0) (ai (af 0) (av)))) (av))))
def T_2 (K:pv)(A:Adr):TS:=aF (bf (fb (dO K (aD (lG K A) (fun _=>E0) (ai (af 1) (av))))) (eZ) (be)) (aF (bf (aU (tOp (gc K) (af 1) (mC K (af 0) "given"))) (aK (tCB (cr K) (ai (mC K (af 0) "given") (av))) (tY (mC K (af 0) "given") (af 1) oY)) (be)) (aS (tOp (aG K) (mC K (af 0) "given") (af 1))))
def T_3 (K:pv)(A:Adr):TS:=aF (bf (aU (tOp (mLt) (af 1) (tCB (cr K) (ai (af 0) (av))))) (aS (tOp (aG K) (af 0) (af 1))) (be)) (aS (tC (.int 0)))
def EI (K:pv)(A:Adr)(q0:Addr):TSM:=sZ (pV (aK (mL A.t_33 ⟨200,4,207,37⟩ fU [q0]) (aE 1))) (qV (af 1))
def Cr (K:pv)(A:Adr):TSM:=qV (mL A.t_62 ⟨170,11,170,37⟩ fA [])
def T_1 (K:pv)(A:Adr):TS:=xI K (af 0) (jm) "given"
def DV (K:pv)(A:Adr)(q0:Addr):TSM:=sZ (pV (aK (we A.c_Numbers (ub K A) (fun _=>E0) (av)) (aE 0))) (qV (mL A.t_38 ⟨173,11,173,47⟩ fR [q0]))
def EA (K:pv)(A:Adr)(q0 q1 q2:Addr):TSM:=sZ (pV (aK (mL A.t_23 ⟨211,4,212,117⟩ fQ [q2,q0,q1]) (aE 3))) (qV (af 3))
def Jl (K:pv)(A:Adr):TS:=aF (bf (aU (tOp (bw K) (af 0) (tC (.int 2)))) (aS (aD (pe K A) (fun _=>E0) (ai (tOp (bi K) (tC (.int 1)) (tOp (bL) (af 1) (tC (.int 9)))) (av)))) (be)) (aF (bf (qX (aU (tOp (bw K) (af 0) (tC (.int 3)))) (aU (tOp (bw K) (tOp (bL) (af 1) (tC (.int 3))) (tC (.int 0))))) (aS (aD (pO K A) (fun _=>E0) av)) (be)) (aF (bf (qX (aU (tOp (bw K) (af 0) (tC (.int 3)))) (aU (tOp (bw K) (tOp (bL) (af 1) (tC (.int 3))) (tC (.int 1))))) (aS (aD (oR K A) (fun _=>E0) av)) (be)) (aS (aD (pS K A) (fun _=>E0) (ai (af 2) (ai (af 3) (ai (tOp (bi K) (tC (.int 1)) (tOp (bL) (af 1) (tC (.int 9)))) (av))))))))
def T_5 (K:pv)(A:Adr):TS:=aF (bf (aU (tOp (bw K) (tOp (bL) (af 0) (tC (.int 3))) (tC (.int 0)))) (aS (tOp (bi K) (tC (.int 1)) (tOp (bL) (tOp (cb) (af 0) (tC (.int 3))) (tC (.int 41))))) (be)) (aF (bf (aU (tOp (bw K) (tOp (bL) (af 0) (tC (.int 3))) (tC (.int 1)))) (aS (tOp (bK) (tOp (bi K) (tOp (kO) (tC (.int 1)) (tOp (bi K) (tC (.int 1)) (tOp (bL) (tOp (cb) (af 0) (tC (.int 3))) (tC (.int 12))))) (tOp (bL) (tOp (cb) (af 0) (tC (.int 36))) (tC (.int 4)))) (tC (.int 1)))) (be)) (aS (tOp (bi K) (tC (.int 1)) (tOp (bL) (tOp (cb) (af 0) (tC (.int 3))) (tOp (kO) (tC (.int 1)) (tC (.int 12)))))))
def Ji (K:pv)(A:Adr):TS:=aF (bf (aU (tOp (bw K) (tOp (bL) (af 0) (tC (.int 4))) (tC (.int 0)))) (aS (af 1)) (be)) (aS (tOp (bi K) (tC (.int 1)) (tOp (bL) (tOp (cb) (af 0) (tC (.int 4))) (af 1))))
def uR (K:pv)(A:Adr):TS:=aS (tBM K "str" ut (tC (.str "")) (ai (fe [0,1] (lZ (ai (tOp (bL) (af 0) (tC (.int 5))) (av))) (fun _ H Q=>Q true H) (tOp (aG K) (af 2) (tOp (bL) (tOp (bi K) (tOp (cb) (af 1) (tC (.int 5))) (tOp (ib) (af 0) (tOp (bL) (tOp (cb) (af 1) (tC (.int 470))) (tC (.int 7))))) (tC (.int 94))))) (av)))
def JC (K:pv)(A:Adr):TS:=aF (aK (tC (.str " !\"#$&'()*+,-./0123456789:;<=>?@ABCDEFGHIJKLMNOPQRSTUVWXYZ[\\]^_`")) (aE 1)) (aF (aK (tOp (bi K) (af 1) (tC (.str "abcdefghijklmnopqrstuvwxyz{|}~"))) (aE 1)) (uR K A))
def Kf (K:pv)(A:Adr):TS:=aF (bf (aU (tOp (bw K) (tOp (bL) (af 0) (tC (.int 4))) (tC (.int 0)))) (aS (aD (pX K A) (fun _=>E0) (ai (tOp (cb) (af 0) (tC (.int 4))) (av)))) (be)) (aF (bf (aU (tOp (bw K) (tOp (bL) (af 0) (tC (.int 4))) (tC (.int 1)))) (aS (tOp (bL) (tOp (cb) (af 0) (tC (.int 4))) (tOp (mH) (tC (.int 10)) (tC (.int 60))))) (be)) (aS (tOp (bL) (tOp (cb) (af 0) (tC (.int 4))) (tC (.int 7)))))
def JS (K:pv)(A:Adr):TS:=aS (tOp (kO) (tC (.int 1)) (tOp (bK) (sW K "int" pf (tOp (bK) (af 0) (tC (.int 1)))) (tC (.int 1))))
def Fd (K:pv)(A:Adr)(n:Nat):TS:=aS (db (cN K A) (fun _=>E0) (af 0) (ai (bF (ai (tC (.str "joint")) (ai (af 5) (ai (aD (eN K A n) (fun _=>E0) (ai (af 0) (ai (af 1) (ai (tOp (bi K) (af 2) (af 4)) (ai (tOp (bK) (af 3) (af 4)) (av)))))) (av))))) (av)))
def DF (K:pv)(A:Adr)(n:Nat):TS:=aF (aK (aD (eN K A n) (fun _=>E0) (ai (af 0) (ai (af 1) (ai (af 2) (ai (af 4) (av)))))) (aE 5)) (Fd K A n)
def qa (K:pv)(A:Adr)(n:Nat):TS:=aF (aK (aD (gS K A) (fun _=>E0) (ai (af 3) (av))) (aE 4)) (DF K A n)
def wb (K:pv)(A:Adr)(n:Nat):TS:=aF (bf (mOr (aU (tOp (bw K) (af 3) (tC (.int 1)))) (aU (tOp (bw K) (fe [2,3] (eO K (tOp (aG K) (af 1) (tC (.int 1)))) (aU (dG (mLe) (mLt) (af 1) (af 0) (tOp (bi K) (af 1) (af 2)))) (af 0)) (cV (av))))) (aS (aD (fK K A) (fun _=>E0) (ai (tOp (bi K) (tOp (bi K) (tOp (aG K) (af 1) (tC (.int 0))) (tOp (ib) (tC (.int 5)) (af 2))) (tOp (ib) (tC (.int 3)) (af 3))) (av)))) (be)) (qa K A n)
def Kl (K:pv)(A:Adr)(n:Nat):TS:=aF (bf (qX (aU (tOp (bw K) (af 3) (tC (.int 1)))) (aU (tOp (bw K) (af 2) (tOp (aG K) (tOp (aG K) (af 1) (tC (.int 1))) (tC (.int 0)))))) (aS (db (cN K A) (fun _=>E0) (af 0) (ai (bF (ai (tC (.str "entry")) (ai (tOp (aG K) (af 1) (tC (.int 2))) (av)))) (av)))) (be)) (wb K A n)
def Ja (K:pv)(A:Adr):TS:=aS (bF (ai (af 2) (ai (db (cN K A) (fun _=>E0) (af 0) (ai (bF (ai (tC (.str "row")) (ai (af 2) (ai (aD (eN K A 70) (fun _=>E0) (ai (af 0) (ai (af 1) (ai (tC (.int 0)) (ai (af 2) (av)))))) (av))))) (av))) (av))))
def Jy (K:pv)(A:Adr):TS:=aF (aK (cV (av)) (aE 3)) (aF (aK (tC (.int 0)) (aE 4)) (aF (fF (aU (tOp (mGt) (af 2) (tC (.int 1)))) (aF (aK (aD (gS K A) (fun _=>E0) (ai (af 2) (av))) (aE 5)) (bf (aU (tOp (mLt) (tOp (aG K) (tOp (aG K) (af 1) (tC (.int 1))) (tC (.int 0))) (tOp (bi K) (af 4) (af 5)))) (aF (bR (tBM K "list" bG (af 3) (ai (aD (eN K A 70) (fun _=>E0) (ai (af 0) (ai (af 1) (ai (tOp (bi K) (af 4) (af 5)) (ai (tOp (bK) (af 2) (af 5)) (av)))))) (av)))) (aK (af 5) (aE 2))) (aF (bR (tBM K "list" bG (af 3) (ai (aD (eN K A 70) (fun _=>E0) (ai (af 0) (ai (af 1) (ai (af 4) (ai (af 5) (av)))))) (av)))) (aF (aK (tOp (bi K) (af 4) (af 5)) (aE 4)) (aK (tOp (bK) (af 2) (af 5)) (aE 2))))))) (aS (bF (ai (tOp (aG K) (af 1) (tC (.int 2))) (ai (tCB (qi K) (ai (af 3) (av))) (av)))))))
def JE (K:pv)(A:Adr):TS:=aS (dk (aD (gO K A) (fun _=>E0) (ai (af 0) (av))) (dG (mLe) (mLt) (tC (.int 0)) (af 0) (tOp (kO) (tC (.int 1)) (tC (.int 60)))))
def JV (K:pv)(A:Adr):TS:=aS (dk (tCB (fw) (ai (af 0) (ai (tC (.ty "tuple")) (av)))) (dk (tOp (bw K) (tCB (cr K) (ai (af 0) (av))) (tC (.int 2))) (dk (aD (jP K A) (fun _=>E0) (ai (tOp (aG K) (af 0) (tC (.int 0))) (av))) (aD (iK K A) (fun _=>E0) (ai (tOp (aG K) (af 0) (tC (.int 1))) (av))))))
def ID (K:pv)(A:Adr):TS:=bf (fb (dO K (aD (pA K A) (fun _=>E0) (ai (af 0) (av))))) (eZ) (be)
def JO (K:pv)(A:Adr):TS:=aS (dk (aD (jP K A) (fun _=>E0) (ai (af 0) (av))) (dk (aD (gO K A) (fun _=>E0) (ai (af 1) (av))) (dG (mLe) (mLe) (tC (.int 0)) (af 1) (af 0))))
def Kk (K:pv)(A:Adr):TS:=aS (tOp (kO) (tC (.int 1)) (tOp (bK) (sW K "int" pf (tOp (bK) (af 0) (tC (.int 1)))) (tC (.int 1))))
def JW (K:pv)(A:Adr):TS:=aF (aK (cV (av)) (aE 2)) (aF (aK (af 1) (aE 3)) (aF (aK (af 0) (aE 4)) (aF (fF (aU (dG (mLt) (mLt) (tC (.int 0)) (af 3) (af 4))) (aF (aK (aD (kf K A) (fun _=>E0) (ai (af 4) (av))) (aE 5)) (bf (aU (tOp (mLe) (af 3) (af 5))) (aF (bR (tBM K "list" bG (af 2) (ai (tC (.int 0)) (av)))) (aK (af 5) (aE 4))) (aF (bR (tBM K "list" bG (af 2) (ai (tC (.int 1)) (av)))) (aF (aK (tOp (bK) (af 3) (af 5)) (aE 3)) (aK (tOp (bK) (af 4) (af 5)) (aE 4))))))) (aS (af 2)))))
def JU (K:pv)(A:Adr):TS:=aS (dk (tCB (fw) (ai (af 1) (ai (tC (.ty "tuple")) (av)))) (dk (tOp (bw K) (tCB (cr K) (ai (af 1) (av))) (af 0)) (tCB (xZ) (ai (fe [] (eO K (af 1)) (fun _ H Q=>Q true H) (aD (iK K A) (fun _=>E0) (ai (af 0) (av)))) (av)))))
def Js (K:pv)(A:Adr):TS:=aS (cV (ai (bF (ai (tC (.str "void")) (av))) (ai (bF (ai (tC (.str "row")) (ai (tC (.int 0)) (ai (db (cN K A) (fun _=>E0) (af 0) (ai (bF (ai (tC (.str "void")) (av))) (av))) (av))))) (av))))
def Kg (K:pv)(A:Adr):TS:=aS (mIf (aU (tOp (bw K) (af 0) (tC (.int 0)))) (bF (ai (tC (.str "joint")) (ai (af 1) (ai (af 2) (av))))) (bF (ai (tC (.str "joint")) (ai (af 2) (ai (af 1) (av))))))
def Jh (K:pv)(A:Adr):TS:=aF (aK (cV (av)) (aE 4)) (aF (aK (cV (av)) (aE 5)) (aF (aK (tOp (aG K) (af 3) (tC (.int 0))) (aE 6)) (aF (aK (tOp (aG K) (af 3) (tC (.int 0))) (aE 7)) (aF (gp (eO K (tOp (aG K) (af 3) (tC (.int 1)))) (aE 8) (aF (bR (tBM K "list" bG (af 4) (ai (aD (kA K A) (fun _=>E0) (ai (tOp (aG K) (af 8) (tC (.int 0))) (ai (af 6) (ai (tOp (aG K) (af 8) (tC (.int 1))) (av))))) (av)))) (aF (aK (db (cN K A) (fun _=>E0) (af 0) (ai (tOp (aG K) (af 4) (tUn eQ (tC (.int 1)))) (av))) (aE 6)) (bf (aU (tOp (bw K) (tOp (aG K) (af 8) (tC (.int 0))) (tC (.int 1)))) (aF (bR (tBM K "list" bG (af 5) (ai (aD (kA K A) (fun _=>E0) (ai (tOp (aG K) (af 8) (tC (.int 0))) (ai (af 7) (ai (tOp (aG K) (af 8) (tC (.int 1))) (av))))) (av)))) (aK (db (cN K A) (fun _=>E0) (af 0) (ai (tOp (aG K) (af 5) (tUn eQ (tC (.int 1)))) (av))) (aE 7))) (be))))) (aF (bR (tBM K "list" bG (af 4) (ai (bF (ai (tC (.str "row")) (ai (af 1) (ai (af 6) (av))))) (av)))) (aF (bR (tBM K "list" bG (af 5) (ai (bF (ai (tC (.str "row")) (ai (af 2) (ai (af 7) (av))))) (av)))) (aS (bF (ai (af 4) (ai (af 5) (av)))))))))))
def Jo (K:pv)(A:Adr):TS:=aF (aK (cV (av)) (aE 2)) (aF (aK (tC (.int 0)) (aE 3)) (aF (aK (tOp (bK) (tCB (cr K) (ai (af 1) (av))) (tC (.int 1))) (aE 4)) (aF (gp (eO K (af 0)) (aE 5) (bf (aU (tOp (bw K) (af 5) (tC (.int 0)))) (aF (bR (tBM K "list" bG (af 2) (ai (bF (ai (af 5) (ai (tOp (aG K) (af 1) (af 4)) (av)))) (av)))) (aK (tOp (bK) (af 4) (tC (.int 1))) (aE 4))) (aF (bR (tBM K "list" bG (af 2) (ai (bF (ai (af 5) (ai (tOp (aG K) (af 1) (af 3)) (av)))) (av)))) (aK (tOp (bi K) (af 3) (tC (.int 1))) (aE 3))))) (aS (bF (ai (tOp (aG K) (af 1) (af 3)) (ai (tCB (kS K) (ai (af 2) (av))) (av))))))))
def JY (K:pv)(A:Adr):TS:=aF (bf (fb (dO K (aD (pU K A) (fun _=>E0) (ai (af 1) (ai (af 2) (av)))))) (eZ) (be)) (aF (aK (aD (pI K A) (fun _=>E0) (ai (af 1) (ai (af 2) (av)))) (aE 4)) (aF (bf (fb (dO K (aD (lF K A) (fun _=>E0) (ai (mIf (aU (tOp (bw K) (af 1) (tC (.int 0)))) (tC (.int 0)) (tOp (bi K) (tCB (cr K) (ai (af 4) (av))) (tC (.int 1)))) (ai (af 3) (av)))))) (eZ) (be)) (aF (bf (aU (tOp (bw K) (af 2) (tC (.int 0)))) (aF (aK (mIf (aU (tOp (bw K) (af 1) (tC (.int 0)))) (aD (lV K A) (fun _=>E0) (ai (af 0) (av))) (cV (ai (bF (ai (tC (.str "row")) (ai (af 1) (ai (tOp (aG K) (af 3) (tC (.int 0))) (av))))) (av)))) (aE 5)) (aS (bF (ai (af 5) (ai (aD (lV K A) (fun _=>E0) (ai (af 0) (av))) (av)))))) (be)) (aS (aD (pF K A) (fun _=>E0) (ai (af 0) (ai (af 1) (ai (af 2) (ai (aD (pL K A) (fun _=>E0) (ai (af 4) (ai (af 3) (av)))) (av))))))))))
def T_0 (K:pv)(A:Adr):TS:=aF (sV K A.c_Broken (af 0) (af 1) "due") (sV K A.c_Broken (af 0) (af 2) "came")
def Fb (K:pv)(A:Adr)(E:XK):TS:=aF (bR (aD (lP K A) (fun _=>E0) (ai (af 1) (av)))) (aF (aK (aD (lY K A) (fun _=>E0) (ai (af 0) (ai (tOp (aG K) (af 1) (tC (.int 0))) (ai (af 2) (ai (af 3) (av)))))) (aE 4)) (aF (aK (db (cN K A) (fun _=>E0) (af 0) (ai (tOp (aG K) (tOp (aG K) (af 4) (tC (.int 0))) (tUn eQ (tC (.int 1)))) (av))) (aE 5)) (aF (bf (aU (tOp (gn K) (af 5) (tOp (aG K) (af 1) (tC (.int 1))))) (mW A.c_Broken (ql K A) (fun _=>E) (ai (tOp (aG K) (af 1) (tC (.int 1))) (ai (af 5) (av)))) (be)) (aS (db (cN K A) (fun _=>E0) (af 0) (ai (tOp (aG K) (tOp (aG K) (af 4) (tC (.int 1))) (tUn eQ (tC (.int 1)))) (av)))))))
def JZ (K:pv)(A:Adr):TS:=aS (dk (aD (jP K A) (fun _=>E0) (ai (af 0) (av))) (dk (aD (gO K A) (fun _=>E0) (ai (af 1) (av))) (dG (mLe) (mLt) (tC (.int 0)) (af 1) (af 0))))
def JP (K:pv)(A:Adr):TS:=aF (aK (cV (av)) (aE 2)) (aF (aK (tC (.int 0)) (aE 3)) (aF (aK (af 1) (aE 4)) (aF (fF (aU (tOp (mGt) (af 4) (tC (.int 1)))) (aF (aK (aD (kf K A) (fun _=>E0) (ai (af 4) (av))) (aE 5)) (bf (aU (tOp (mLt) (af 0) (tOp (bi K) (af 3) (af 5)))) (aF (bR (tBM K "list" bG (af 2) (ai (tC (.int 0)) (av)))) (aK (af 5) (aE 4))) (aF (bR (tBM K "list" bG (af 2) (ai (tC (.int 1)) (av)))) (aF (aK (tOp (bi K) (af 3) (af 5)) (aE 3)) (aK (tOp (bK) (af 4) (af 5)) (aE 4))))))) (aS (af 2)))))
def IN (K:pv)(A:Adr):TS:=aF (bf (mOr (fb (dO K (tCB (fw) (ai (af 1) (ai (tC (.ty "tuple")) (av)))))) (aU (tOp (gn K) (tCB (cr K) (ai (af 1) (av))) (tC (.int 2))))) (aS (tC (.bl false))) (be)) (aS (dk (aD (iK K A) (fun _=>E0) (ai (tOp (aG K) (af 1) (tC (.int 0))) (av))) (aD (lF K A) (fun _=>E0) (ai (tCB (cr K) (ai (af 0) (av))) (ai (tOp (aG K) (af 1) (tC (.int 1))) (av))))))
def Jg (K:pv)(A:Adr):TS:=aF (bf (fb (dO K (aD (oU K A) (fun _=>E0) (ai (af 1) (ai (af 2) (av)))))) (eZ) (be)) (aF (aK (aD (oX K A) (fun _=>E0) (ai (af 2) (ai (af 1) (av)))) (aE 4)) (aF (bf (fb (dO K (aD (oZ K A) (fun _=>E0) (ai (af 4) (ai (af 3) (av)))))) (eZ) (be)) (aF (aK (cV (ai (bF (ai (tC (.str "entry")) (ai (tOp (aG K) (af 3) (tC (.int 0))) (av)))) (av))) (aE 5)) (aF (gp (zC K (ai (tCB (qP K) (ai (af 4) (ai (tOp (aG K) (af 3) (tC (.int 1))) (av)))) (av))) (aE 6) (bR (tBM K "list" bG (af 5) (ai (aD (kA K A) (fun _=>E0) (ai (tOp (aG K) (af 6) (tC (.int 0))) (ai (db (cN K A) (fun _=>E0) (af 0) (ai (tOp (aG K) (af 5) (tUn eQ (tC (.int 1)))) (av))) (ai (tOp (aG K) (af 6) (tC (.int 1))) (av))))) (av))))) (aF (bR (tBM K "list" bG (af 5) (ai (bF (ai (tC (.str "row")) (ai (af 1) (ai (db (cN K A) (fun _=>E0) (af 0) (ai (tOp (aG K) (af 5) (tUn eQ (tC (.int 1)))) (av))) (av))))) (av)))) (aS (af 5)))))))
def IL (K:pv)(A:Adr):TS:=aS (db (cN K A) (fun _=>E0) (af 0) (ai (tOp (aG K) (aD (kh K A) (fun _=>E0) (ai (af 0) (ai (af 1) (ai (af 2) (ai (af 3) (av)))))) (tUn eQ (tC (.int 1)))) (av)))
def BO (K:pv)(A:Adr)(E:XK):TS:=aF (bR (aD (lP K A) (fun _=>E0) (ai (af 1) (av)))) (aF (aK (aD (pD K A) (fun _=>E0) (ai (af 0) (ai (tOp (aG K) (af 1) (tC (.int 0))) (ai (af 2) (ai (af 3) (av)))))) (aE 4)) (aF (bf (aU (tOp (gn K) (af 4) (tOp (aG K) (af 1) (tC (.int 1))))) (mW A.c_Broken (ql K A) (fun _=>E) (ai (tOp (aG K) (af 1) (tC (.int 1))) (ai (af 4) (av)))) (be)) (aS (tOp (aG K) (af 3) (tC (.int 0))))))
def Jv (K:pv)(A:Adr):TS:=aF (aK (tC .non) (aE 5)) (aF (DO K (fun EH=>bf (dO K (af 1)) (aK (bF (ai (tC (.str "told")) (ai (aD (pM K A) EH (ai (af 0) (ai (af 2) (ai (af 3) (ai (af 4) (av)))))) (av)))) (aE 5)) (aK (bF (ai (tC (.str "told")) (ai (aD (pR K A) EH (ai (af 0) (ai (af 2) (ai (af 3) (ai (af 4) (av)))))) (av)))) (aE 5))) (BN K A.c_Broken (aK (bF (ai (tC (.str "broken")) (av))) (aE 5)) (zD)) (be)) (aS (af 5)))
def T_9 (K:pv)(A:Adr):TS:=aF (aK (cV (av)) (aE 4)) (aF (aK (cV (av)) (aE 5)) (aF (aK (tC (.int 0)) (aE 6)) (aF (fF (aU (tOp (mLt) (tOp (bK) (af 3) (af 6)) (af 2))) (aF (aK (aD (gS K A) (fun _=>E0) (ai (af 2) (av))) (aE 7)) (bf (aU (tOp (mGt) (tOp (bK) (af 3) (af 6)) (af 7))) (aF (bR (tBM K "list" bG (af 4) (ai (aD (eN K A 70) (fun _=>E0) (ai (af 0) (ai (af 1) (ai (af 6) (ai (af 7) (av)))))) (av)))) (aF (aK (tOp (bi K) (af 6) (af 7)) (aE 6)) (aK (tOp (bK) (af 2) (af 7)) (aE 2)))) (aF (bR (tBM K "list" bG (af 5) (ai (aD (eN K A 70) (fun _=>E0) (ai (af 0) (ai (af 1) (ai (tOp (bi K) (af 6) (af 7)) (ai (tOp (bK) (af 2) (af 7)) (av)))))) (av)))) (aK (af 7) (aE 2)))))) (aF (bR (tBM K "list" bG (af 4) (ai (aD (eN K A 70) (fun _=>E0) (ai (af 0) (ai (af 1) (ai (af 6) (ai (af 2) (av)))))) (av)))) (aS (tCB (qi K) (ai (tOp (bi K) (af 4) (tCB (kS K) (ai (af 5) (av)))) (av))))))))
def JX (K:pv)(A:Adr):TS:=aF (gp (lZ (ai (tC (.int 3)) (av))) (aE 4) (aF (aK (aD (km K A) (fun _=>E0) (ai (af 0) (ai (af 1) (ai (tOp (aG K) (tOp (aG K) (af 2) (af 4)) (tC (.int 0))) (av))))) (aE 5)) (aF (bf (aU (tOp (gn K) (aD (iL K A) (fun _=>E0) (ai (af 0) (ai (tC (.bl false)) (ai (tOp (aG K) (af 2) (af 4)) (ai (af 3) (ai (af 5) (av))))))) (bF (ai (tC (.str "told")) (ai (tOp (aG K) (af 1) (tC (.int 2))) (av)))))) (aS (tC (.bl false))) (be)) (gp (uK (ai (tOp (bi K) (af 4) (tC (.int 1))) (ai (tC (.int 3)) (av)))) (aE 6) (aF (aK (aD (jG K A) (fun _=>E0) (ai (af 0) (ai (af 1) (ai (tOp (aG K) (tOp (aG K) (af 2) (af 4)) (tC (.int 0))) (ai (tOp (aG K) (tOp (aG K) (af 2) (af 6)) (tC (.int 0))) (av)))))) (aE 7)) (bf (aU (tOp (gn K) (aD (iL K A) (fun _=>E0) (ai (af 0) (ai (tC (.bl true)) (ai (tOp (aG K) (af 2) (af 4)) (ai (tOp (aG K) (tOp (aG K) (af 2) (af 6)) (tC (.int 0))) (ai (af 7) (av))))))) (bF (ai (tC (.str "told")) (ai (tOp (aG K) (tOp (aG K) (af 2) (af 6)) (tC (.int 1))) (av)))))) (aS (tC (.bl false))) (be))))))) (aS (tC (.bl true)))
def Jz (K:pv)(A:Adr):TS:=aF (bf (dO K (tCB (fw) (ai (af 0) (ai (tC (.ty "str")) (av))))) (aS (tOp (uH) (tOp (aG K) (cV (ai (tC (.str "z")) (ai (tC (.str "y")) (av)))) (tCB (qH) (ai (tOp (bw K) (tSl (jj K) (af 0) (eX) (fB (tC (.int 1)))) (tC (.str "z"))) (av)))) (tCB (cr K) (ai (af 0) (av))))) (be)) (aS (tOp (bL) (tOp (bi K) (af 0) (tC (.int 2520))) (tOp (mH) (tC (.int 10)) (tC (.int 60)))))
def uY (K:pv)(A:Adr):TS:=aS (tOp (bi K) (tOp (bi K) (tSl (jj K) (af 2) (eX) (fB (af 3))) (bF (ai (af 4) (av)))) (tSl (jj K) (af 2) (fB (tOp (bi K) (af 3) (tC (.int 1)))) (eX)))
def va (K:pv)(A:Adr):TS:=aF (bf (aU (tOp (bw K) (af 0) (tC (.int 2)))) (aF (aK (tOp (bK) (tCB (cr K) (ai (af 2) (av))) (tC (.int 1))) (aE 3)) (aK (aD (fK K A) (fun _=>E0) (ai (tOp (cb) (af 1) (tC (.int 60))) (av))) (aE 4))) (be)) (uY K A)
def IV (K:pv)(A:Adr):TS:=aF (bf (aU (tOp (bw K) (tCB (cr K) (ai (af 2) (av))) (tC (.int 0)))) (aS (af 2)) (be)) (aF (aK (tOp (bL) (af 1) (tCB (cr K) (ai (af 2) (av)))) (aE 3)) (aF (aK (aD (jK K A) (fun _=>E0) (ai (tOp (aG K) (af 2) (af 3)) (av))) (aE 4)) (aF (bf (aU (tOp (bw K) (af 0) (tC (.int 0)))) (aS (tOp (bi K) (tSl (jj K) (af 2) (fB (tC (.int 1))) (eX)) (tSl (jj K) (af 2) (eX) (fB (tC (.int 1)))))) (be)) (aF (bf (aU (tOp (bw K) (af 0) (tC (.int 1)))) (aK (aD (fK K A) (fun _=>E0) (ai (tOp (cb) (af 1) (tC (.int 60))) (av))) (aE 4)) (be)) (va K A)))))
def T_4 (K:pv)(A:Adr):TS:=aF (bf (aU (tOp (mLt) (af 0) (tC (.int 3)))) (aS (bF (ai (aD (jK K A) (fun _=>E0) (ai (tOp (aG K) (af 2) (tC (.int 0))) (av))) (ai (tOp (aG K) (af 2) (tC (.int 1))) (av))))) (be)) (aF (bf (aU (tOp (bw K) (af 0) (tC (.int 3)))) (aS (bF (ai (aD (fK K A) (fun _=>E0) (ai (af 1) (av))) (ai (tOp (aG K) (af 2) (tC (.int 1))) (av))))) (be)) (aF (bf (aU (tOp (bw K) (af 0) (tC (.int 4)))) (aS (bF (ai (aD (jK K A) (fun _=>E0) (ai (tOp (aG K) (af 2) (tC (.int 0))) (av))) (ai (aD (kg K A) (fun _=>E0) (ai (tOp (bL) (af 1) (tC (.int 4))) (ai (tOp (cb) (af 1) (tC (.int 4))) (ai (tOp (aG K) (af 2) (tC (.int 1))) (av))))) (av))))) (be)) (aS (bF (ai (tOp (aG K) (af 2) (tC (.int 0))) (ai (aD (kg K A) (fun _=>E0) (ai (tOp (bL) (af 1) (tC (.int 4))) (ai (tOp (cb) (af 1) (tC (.int 4))) (ai (tOp (aG K) (af 2) (tC (.int 1))) (av))))) (av)))))))
def IP (K:pv)(A:Adr):TS:=aF (gp (lZ (ai (tOp (bi K) (af 5) (tC (.int 1))) (av))) (aE 6) (aF (bf (aU (tOp (bw K) (af 6) (tCB (cr K) (ai (af 2) (av))))) (aK (bF (ai (tC (.str "row")) (ai (af 1) (ai (af 4) (av))))) (aE 7)) (bf (aU (tOp (bw K) (tOp (aG K) (af 2) (tOp (bK) (tUn eQ (tC (.int 1))) (af 6))) (tC (.int 1)))) (aK (bF (ai (tC (.str "joint")) (ai (tOp (aG K) (af 3) (tOp (bK) (tUn eQ (tC (.int 1))) (af 6))) (ai (af 4) (av))))) (aE 7)) (aK (bF (ai (tC (.str "joint")) (ai (af 4) (ai (tOp (aG K) (af 3) (tOp (bK) (tUn eQ (tC (.int 1))) (af 6))) (av))))) (aE 7)))) (aF (bf (aU (tOp (bw K) (af 6) (af 5))) (aS (af 7)) (be)) (aK (db (cN K A) (fun _=>E0) (af 0) (ai (af 7) (av))) (aE 4))))) (aS (tC .non))
def IT (K:pv)(A:Adr):TS:=aF (aK (cV (av)) (aE 2)) (aF (fF (aU (tOp (mGt) (af 0) (tC (.int 1)))) (aF (aK (aD (gS K A) (fun _=>E0) (ai (af 0) (av))) (aE 3)) (aF (bR (tBM K "list" bG (af 2) (ai (tCB (qH) (ai (tOp (mGe) (af 1) (af 3)) (av))) (av)))) (bf (aU (tOp (mGe) (af 1) (af 3))) (aF (aK (tOp (bK) (af 1) (af 3)) (aE 1)) (aK (tOp (bK) (af 0) (af 3)) (aE 0))) (aK (af 3) (aE 0)))))) (aS (af 2)))
def Ct (K:pv)(A:Adr):TS:=aS (aD (mm K A) (fun _=>E0) (ai (af 0) (ai (af 1) (ai (aD (pb K A) (fun _=>E0) (ai (af 1) (ai (af 2) (av)))) (ai (tOp (aG K) (af 3) (tC (.int 1))) (ai (db (cN K A) (fun _=>E0) (af 0) (ai (af 5) (av))) (ai (tOp (bK) (af 4) (tC (.int 1))) (av))))))))
def vW (K:pv)(A:Adr):TS:=aF (bf (aU (tOp (bw K) (af 4) (tC (.int 0)))) (aS (af 5)) (be)) (Ct K A)
def Kh (K:pv)(A:Adr):TS:=aF (aK (bF (ai (tC (.str "entry")) (ai (tOp (aG K) (af 3) (tC (.int 0))) (av)))) (aE 5)) (vW K A)
def IE (K:pv)(A:Adr):TS:=bf (aU (tOp (gc K) (af 2) (af 0))) (aK (af 3) (tY (af 1) (af 2) oY)) (be)
def T_8 (K:pv)(A:Adr):TS:=aF (aK (aD (lY K A) (fun _=>E0) (ai (af 0) (ai (af 1) (ai (af 2) (ai (af 3) (av)))))) (aE 4)) (aS (tOp (bi K) (tOp (aG K) (af 4) (tC (.int 0))) (tOp (aG K) (af 4) (tC (.int 1)))))
def Jx (K:pv)(A:Adr):TS:=aF (bf (mOr (fb (dO K (tCB (fw) (ai (af 2) (ai (tC (.ty "tuple")) (av)))))) (mOr (aU (tOp (gn K) (tCB (cr K) (ai (af 2) (av))) (tC (.int 2)))) (aU (tOp (bw K) (tOp (aG K) (af 2) (tC (.int 0))) (tOp (aG K) (af 2) (tC (.int 1))))))) (aS (tC (.bl false))) (be)) (aF (bf (mOr (aU (tOp (gc K) (tOp (aG K) (af 2) (tC (.int 0))) (af 1))) (aU (tOp (gc K) (tOp (aG K) (af 2) (tC (.int 1))) (af 1)))) (aS (tC (.bl false))) (be)) (aS (tOp (bw K) (db (cN K A) (fun _=>E0) (af 0) (ai (tOp (aG K) (af 2) (tC (.int 0))) (av))) (db (cN K A) (fun _=>E0) (af 0) (ai (tOp (aG K) (af 2) (tC (.int 1))) (av))))))
def IA (K:pv)(A:Adr):TS:=aF (aK (jm) (aE 2)) (aF (gp (eO K (af 1)) (aE 3) (aF (aK (tBM K "dict" mz (af 2) (ai (db (cN K A) (fun _=>E0) (af 0) (ai (af 3) (av))) (ai (af 3) (av)))) (aE 4)) (bf (aU (tOp (gn K) (af 4) (af 3))) (aS (bF (ai (af 4) (ai (af 3) (av))))) (be)))) (aS (tC .non)))
def T_7 (K:pv)(A:Adr):TS:=aF (bf (mOr (aU (tOp (bw K) (af 2) (bF (ai (tC (.str "broken")) (av))))) (aU (tOp (bw K) (af 2) (bF (ai (tC (.str "told")) (ai (af 3) (av))))))) (aS (tC (.bl true))) (be)) (aS (dk (pH (af 4)) (aD (pG K A) (fun _=>E0) (ai (af 0) (ai (af 1) (ai (aD (ph K A) (fun _=>E0) (ai (af 0) (ai (af 1) (av)))) (av)))))))
def AA (K:pv)(A:Adr):TS:=aS (aD (jt K A) (fun _=>E0) (ai (af 0) (ai (af 15) (ai (aD (iL K A) (fun _=>E0) (ai (af 0) (ai (tC (.bl false)) (ai (tOp (aG K) (af 3) (af 8)) (ai (af 9) (ai (af 12) (av))))))) (ai (tOp (aG K) (af 2) (tC (.int 2))) (ai (tOp (bw K) (af 6) (tC (.int 3))) (av)))))))
def AW (K:pv)(A:Adr):TS:=aF (aK (tOp (bi K) (af 15) (aD (lq K A) (fun _=>E0) (ai (af 0) (ai (tOp (aG K) (tOp (aG K) (af 3) (tC (.int 0))) (tC (.int 0))) (ai (tOp (aG K) (tOp (aG K) (af 3) (tC (.int 1))) (tC (.int 0))) (ai (af 16) (av))))))) (aE 15)) (AA K A)
def Bd (K:pv)(A:Adr):TS:=aF (aK (aD (jG K A) (fun _=>E0) (ai (af 0) (ai (af 2) (ai (tOp (aG K) (tOp (aG K) (af 3) (tC (.int 0))) (tC (.int 0))) (ai (tOp (aG K) (tOp (aG K) (af 3) (tC (.int 1))) (tC (.int 0))) (av)))))) (aE 16)) (AW K A)
def De (K:pv)(A:Adr):TS:=aF (aK (tOp (bi K) (af 15) (aD (kh K A) (fun _=>E0) (ai (af 0) (ai (tOp (aG K) (tOp (aG K) (af 3) (tOp (bK) (tC (.int 1)) (af 8))) (tC (.int 0))) (ai (af 9) (ai (tOp (aG K) (af 10) (tOp (bK) (tC (.int 1)) (af 8))) (av))))))) (aE 15)) (Bd K A)
def vo (K:pv)(A:Adr):TS:=aF (aK (aD (kh K A) (fun _=>E0) (ai (af 0) (ai (af 11) (ai (af 9) (ai (af 12) (av)))))) (aE 15)) (De K A)
def vQ (K:pv)(A:Adr):TS:=aF (bf (aU (tOp (mLt) (af 6) (tC (.int 2)))) (aF (aK (aD (md K A) (fun _=>E0) (ai (af 0) (ai (af 11) (ai (af 9) (ai (tOp (aG K) (af 10) (af 8)) (ai (af 13) (av))))))) (aE 14)) (bR (aD (mf K A) (fun _=>E0) (ai (af 4) (ai (af 5) (ai (aD (md K A) (fun _=>E0) (ai (af 0) (ai (af 11) (ai (af 9) (ai (af 12) (ai (af 13) (av))))))) (ai (af 14) (av)))))))) (be)) (vo K A)
def CV (K:pv)(A:Adr):TS:=aF (aK (tOp (bL) (aD (dU K A) (fun _=>E0) (ai (af 1) (ai (tC (.int 7)) (av)))) (tOp (bi K) (tCB (cr K) (ai (tOp (aG K) (tOp (aG K) (af 10) (af 8)) (tC (.int 1))) (av))) (tC (.int 2)))) (aE 13)) (vQ K A)
def DC (K:pv)(A:Adr):TS:=aF (aK (aD (ua K A) (fun _=>E0) (ai (tOp (bL) (af 7) (tC (.int 6))) (ai (tOp (cb) (af 7) (tC (.int 6))) (ai (tOp (aG K) (af 10) (af 8)) (av))))) (aE 12)) (CV K A)
def vE (K:pv)(A:Adr):TS:=aF (aK (tOp (aG K) (tOp (aG K) (af 3) (af 8)) (tC (.int 0))) (aE 11)) (DC K A)
def BK (K:pv)(A:Adr):TS:=aF (aK (cV (ai (aD (km K A) (fun _=>E0) (ai (af 0) (ai (af 2) (ai (tOp (aG K) (tOp (aG K) (af 3) (tC (.int 0))) (tC (.int 0))) (av))))) (ai (aD (km K A) (fun _=>E0) (ai (af 0) (ai (af 2) (ai (tOp (aG K) (tOp (aG K) (af 3) (tC (.int 1))) (tC (.int 0))) (av))))) (av)))) (aE 10)) (vE K A)
def wz (K:pv)(A:Adr):TS:=aF (aK (tOp (aG K) (tOp (aG K) (af 2) (tC (.int 1))) (tC (.int 0))) (aE 9)) (BK K A)
def Jr (K:pv)(A:Adr):TS:=aF (aK (aD (dU K A) (fun _=>E0) (ai (af 1) (ai (tC (.int 6)) (av)))) (aE 7)) (aF (aK (tOp (bL) (tOp (cb) (aD (dU K A) (fun _=>E0) (ai (af 1) (ai (tC (.int 5)) (av)))) (tC (.int 2))) (tC (.int 2))) (aE 8)) (wz K A))
def JJ (K:pv)(A:Adr):TS:=aF (aK (cV (av)) (aE 2)) (aF (aK (tC (.int 0)) (aE 3)) (aF (fF (aU (tOp (mLt) (tOp (bK) (af 1) (af 3)) (af 0))) (aF (aK (aD (gS K A) (fun _=>E0) (ai (af 0) (av))) (aE 4)) (aF (bR (tBM K "list" bG (af 2) (ai (tCB (qH) (ai (tOp (mGt) (tOp (bK) (af 1) (af 3)) (af 4)) (av))) (av)))) (bf (aU (tOp (mGt) (tOp (bK) (af 1) (af 3)) (af 4))) (aF (aK (tOp (bi K) (af 3) (af 4)) (aE 3)) (aK (tOp (bK) (af 0) (af 4)) (aE 0))) (aK (af 4) (aE 0)))))) (aS (af 2))))
def T_6 (K:pv)(A:Adr):TS:=aF (aK (cV (av)) (aE 2)) (aF (aK (tC (.int 0)) (aE 3)) (aF (aK (tCB (cr K) (ai (af 1) (av))) (aE 4)) (aF (gp (eO K (af 0)) (aE 5) (bf (aU (tOp (bw K) (af 5) (tC (.int 1)))) (aF (bR (tBM K "list" bG (af 2) (ai (tOp (aG K) (af 1) (af 3)) (av)))) (aK (tOp (bi K) (af 3) (tC (.int 1))) (aE 3))) (aF (aK (tOp (bK) (af 4) (tC (.int 1))) (aE 4)) (bR (tBM K "list" bG (af 2) (ai (tOp (aG K) (af 1) (af 4)) (av))))))) (aS (tOp (bi K) (af 2) (cV (ai (tOp (aG K) (af 1) (af 3)) (av))))))))
def IU (K:pv)(A:Adr):TS:=aF (aK (aD (pB K A) (fun _=>E0) (ai (af 1) (ai (af 2) (av)))) (aE 5)) (aF (aK (aD (sO K A) (fun _=>E0) (ai (af 5) (ai (af 3) (av)))) (aE 6)) (aS (aD (mm K A) (fun _=>E0) (ai (af 0) (ai (af 1) (ai (af 5) (ai (tSl (jj K) (af 6) (eX) (fB (tUn eQ (tC (.int 1))))) (ai (tOp (aG K) (af 6) (tUn eQ (tC (.int 1)))) (ai (af 4) (av))))))))))
def Bs (K:pv)(A:Adr):TS:=aS (aD (jt K A) (fun _=>E0) (ai (af 0) (ai (af 15) (ai (af 17) (ai (tOp (aG K) (tOp (aG K) (af 3) (tC (.int 2))) (tC (.int 1))) (ai (tOp (bw K) (af 6) (tC (.int 3))) (av)))))))
def As (K:pv)(A:Adr):TS:=aF (aK (aD (iL K A) (fun _=>E0) (ai (af 0) (ai (tC (.bl true)) (ai (tOp (aG K) (af 3) (af 8)) (ai (af 10) (ai (af 12) (av))))))) (aE 17)) (Bs K A)
def Aw (K:pv)(A:Adr):TS:=aF (aK (tOp (bi K) (af 15) (aD (lq K A) (fun _=>E0) (ai (af 0) (ai (tOp (aG K) (tOp (aG K) (af 3) (tC (.int 0))) (tC (.int 0))) (ai (tOp (aG K) (tOp (aG K) (af 3) (tC (.int 1))) (tC (.int 0))) (ai (af 16) (av))))))) (aE 15)) (As K A)
def CF (K:pv)(A:Adr):TS:=aF (aK (aD (jG K A) (fun _=>E0) (ai (af 0) (ai (af 2) (ai (tOp (aG K) (tOp (aG K) (af 3) (tC (.int 0))) (tC (.int 0))) (ai (tOp (aG K) (tOp (aG K) (af 3) (tC (.int 1))) (tC (.int 0))) (av)))))) (aE 16)) (Aw K A)
def vc (K:pv)(A:Adr):TS:=aF (aK (tOp (bi K) (aD (lq K A) (fun _=>E0) (ai (af 0) (ai (af 9) (ai (af 10) (ai (af 12) (av)))))) (aD (lq K A) (fun _=>E0) (ai (af 0) (ai (tOp (aG K) (tOp (aG K) (af 3) (tOp (bK) (tC (.int 1)) (af 8))) (tC (.int 0))) (ai (af 10) (ai (tOp (aG K) (af 11) (tOp (bK) (tC (.int 1)) (af 8))) (av))))))) (aE 15)) (CF K A)
def uX (K:pv)(A:Adr):TS:=aF (bf (aU (tOp (mLt) (af 6) (tC (.int 2)))) (aF (aK (aD (lC K A) (fun _=>E0) (ai (af 0) (ai (af 9) (ai (af 10) (ai (tOp (aG K) (af 11) (af 8)) (ai (af 13) (av))))))) (aE 14)) (bR (aD (mf K A) (fun _=>E0) (ai (af 4) (ai (af 5) (ai (aD (lC K A) (fun _=>E0) (ai (af 0) (ai (af 9) (ai (af 10) (ai (af 12) (ai (af 13) (av))))))) (ai (af 14) (av)))))))) (be)) (vc K A)
def ET (K:pv)(A:Adr):TS:=aF (aK (tOp (bL) (aD (dU K A) (fun _=>E0) (ai (af 1) (ai (tC (.int 7)) (av)))) (tCB (cr K) (ai (tOp (aG K) (af 11) (af 8)) (av)))) (aE 13)) (uX K A)
def wg (K:pv)(A:Adr):TS:=aF (aK (aD (kg K A) (fun _=>E0) (ai (tOp (bL) (af 7) (tC (.int 5))) (ai (tOp (cb) (af 7) (tC (.int 5))) (ai (tOp (aG K) (af 11) (af 8)) (av))))) (aE 12)) (ET K A)
def CO (K:pv)(A:Adr):TS:=aF (aK (cV (ai (aD (jG K A) (fun _=>E0) (ai (af 0) (ai (af 2) (ai (tOp (aG K) (tOp (aG K) (af 3) (tC (.int 0))) (tC (.int 0))) (ai (af 10) (av)))))) (ai (aD (jG K A) (fun _=>E0) (ai (af 0) (ai (af 2) (ai (tOp (aG K) (tOp (aG K) (af 3) (tC (.int 1))) (tC (.int 0))) (ai (af 10) (av)))))) (av)))) (aE 11)) (wg K A)
def EE (K:pv)(A:Adr):TS:=aF (aK (tOp (aG K) (tOp (aG K) (af 3) (tC (.int 2))) (tC (.int 0))) (aE 10)) (CO K A)
def vG (K:pv)(A:Adr):TS:=aF (aK (tOp (aG K) (tOp (aG K) (af 3) (af 8)) (tC (.int 0))) (aE 9)) (EE K A)
def JD (K:pv)(A:Adr):TS:=aF (aK (aD (dU K A) (fun _=>E0) (ai (af 1) (ai (tC (.int 6)) (av)))) (aE 7)) (aF (aK (tOp (bL) (tOp (cb) (aD (dU K A) (fun _=>E0) (ai (af 1) (ai (tC (.int 5)) (av)))) (tC (.int 2))) (tC (.int 2))) (aE 8)) (vG K A))
def Bh (K:pv)(A:Adr):TS:=aS (aD (pC K A) (fun _=>E0) (ai (af 4) (ai (af 0) (ai (af 10) (ai (af 11) (ai (af 2) (ai (af 3) (ai (af 1) (av)))))))))
def By (K:pv)(A:Adr):TS:=aF (bf (aU (tOp (bw K) (tOp (bL) (aD (dU K A) (fun _=>E0) (ai (af 0) (ai (tC (.int 5)) (av)))) (tC (.int 2))) (tC (.int 0)))) (aS (aD (pJ K A) (fun _=>E0) (ai (af 4) (ai (af 0) (ai (af 10) (ai (af 11) (ai (af 2) (ai (af 3) (ai (af 1) (av)))))))))) (be)) (Bh K A)
def AE (K:pv)(A:Adr):TS:=aF (bf (fb (dO K (aD (pK K A) (fun _=>E0) (ai (af 4) (ai (af 10) (ai (af 11) (ai (af 8) (av)))))))) (aS (tC (.bl false))) (be)) (By K A)
def sA (K:pv)(A:Adr):TS:=aF (aK (fe [4,10] (eO K (cV (ai (af 5) (ai (af 6) (ai (af 7) (av)))))) (fun _ H Q=>Q true H) (aD (ku K A) (fun _=>E0) (ai (af 1) (ai (af 2) (ai (af 0) (av)))))) (aE 11)) (AE K A)
def DX (K:pv)(A:Adr):TS:=aF (aK (bF (ai (af 9) (ai (cV (ai (af 8) (ai (tOp (bK) (af 6) (tC (.int 1))) (ai (tOp (bK) (af 7) (tC (.int 1))) (av))))) (ai (aD (fK K A) (fun _=>E0) (ai (aD (dU K A) (fun _=>E0) (ai (af 0) (ai (tC (.int 8)) (av)))) (av))) (av))))) (aE 10)) (sA K A)
def vF (K:pv)(A:Adr):TS:=aF (aK (tCB (Cf K) (ai (fe [] (eO K (tSl (jj K) (af 0) (fB (tC (.int 8))) (fB (tC (.int 63))))) (fun _ H Q=>Q true H) (tOp (bL) (af 0) (tOp (mH) (tC (.int 10)) (tC (.int 30))))) (av))) (aE 9)) (DX K A)
def Ke (K:pv)(A:Adr):TS:=aF (aK (tOp (bL) (aD (dU K A) (fun _=>E0) (ai (af 0) (ai (tC (.int 0)) (av)))) (tC (.int 4))) (aE 1)) (aF (aK (jm) (aE 2)) (aF (aK (jm) (aE 3)) (aF (aK (aD (pQ K A) (fun _=>E0) (ai (af 1) (ai (tOp (cb) (aD (dU K A) (fun _=>E0) (ai (af 0) (ai (tC (.int 0)) (av)))) (tC (.int 4))) (ai (af 2) (ai (af 3) (av)))))) (aE 4)) (aF (aK (aD (uo K A) (fun _=>E0) (ai (aD (dU K A) (fun _=>E0) (ai (af 0) (ai (tC (.int 1)) (av)))) (av))) (aE 5)) (aF (aK (aD (lE K A) (fun _=>E0) (ai (aD (dU K A) (fun _=>E0) (ai (af 0) (ai (tC (.int 2)) (av)))) (ai (af 5) (av)))) (aE 6)) (aF (aK (aD (lE K A) (fun _=>E0) (ai (aD (dU K A) (fun _=>E0) (ai (af 0) (ai (tC (.int 3)) (av)))) (ai (af 6) (av)))) (aE 7)) (aF (aK (tOp (bL) (aD (dU K A) (fun _=>E0) (ai (af 0) (ai (tC (.int 4)) (av)))) (af 7)) (aE 8)) (vF K A))))))))
variable {K:pv}{mg:Str->Option tx}{A:Adr}
def tyD:Dat->String
 |.non=>"NoneType"
 |.bl _=>"bool"
 |.int _=>"int"
 |.str _=>"str"
 |.lst _=>"list"
 |.tup _=>"tuple"
 |.dic=>"dict"
theorem eB.ty {H:Hp}{v:V}{d:Dat}(h:eB H v d):tyN H v=some (tyD d):=by
 cases h with
 |lst e _=>unfold tyN;dsimp only;rw[e];rfl
 |tup e _=>unfold tyN;dsimp only;rw[e];rfl
 |dic e=>unfold tyN;dsimp only;rcases e with⟨kvs,e⟩|⟨kvs,e⟩<;>rw[e]<;>rfl
 |_=>rfl
theorem vb {z:Str}(h:cm z=true):Oe z=true:=by
 unfold Oe
 unfold cm at h
 rw[RU]at h⊢
 intro i hi
 have:=of_decide_eq_true (h i hi)
 exact decide_eq_true (by omega)
theorem ixT {K:pv}{H:Hp}{Q:VK}{a:Addr}{xs:List V}{x:V}{i:Int}{j:Nat}(ha:H a=some (.tup xs))(e:i=j)(hx:xs[j]?=some x)(q:Q x H):aG K (.ref a) (.int i) H Q:=by
 subst e
 refine .inl (.inr (.inl ⟨a,xs,j,x,rfl,rfl,SqT.of ha,?_,q⟩))
 have hj:=(Kr.mp hx).1
 rw[vm (by omega) (by omega)]
 simp[KA,hx]
theorem Cj (K:pv)(A:Adr):Ln (gO K A) 1:=by rintro vs H Q E ⟨v,d,rfl,_⟩;rfl
theorem GR (T:Txt K mg A)(vs:List V)(H:Hp)(Q:VK)(E:XK)(h:gO K A vs H Q E):Jw K A {nx:=fun _ H'=>Q .non H',rt:=Q} (start ["thing"] vs) H:=by
 obtain⟨v,d,rfl,w,q⟩:=h
 refine⟨by decide,_,w.ty,?_⟩
 cases d
 case int i=>exact Sel.yes rfl ⟨by decide,_,w.ty,q⟩
 case bl b=>exact Sel.yes rfl ⟨by decide,_,w.ty,q⟩
 all_goals exact Sel.no rfl q
theorem CT (K:pv)(A:Adr):Ln (iK K A) 1:=by rintro vs H Q E ⟨v,d,rfl,_⟩;rfl
theorem GU (T:Txt K mg A)(vs:List V)(H:Hp)(Q:VK)(E:XK)(h:iK K A vs H Q E):II K A {nx:=fun _ H'=>Q .non H',rt:=Q} (start ["thing"] vs) H:=by
 obtain⟨v,d,rfl,w,q⟩:=h
 refine⟨v,d,rfl,w,?_⟩
 cases w with
 |int i=>
  refine Sel.yes rfl (Sel.dec (fun h0=>⟨⟨by decide,by decide,by decide⟩,?_⟩) (fun h0=>?_))
  ·show Q (.bl (decide (i<10^((60:Int).toNat)))) H
   have e:gB (.int i)=decide (i<10^((60:Int).toNat)):=by
    show decide (0<=i/\i<10^60)=decide (i<10^60)
    by_cases h1:i<10^60
    ·rw[decide_eq_true h1,decide_eq_true ⟨h0,h1⟩]
    ·rw[decide_eq_false h1,decide_eq_false fun z=>h1 z.2]
   rw[<-e];exact q
  ·have e:gB (.int i)=false:=decide_eq_false fun z=>h0 z.1
   rw[<-e];exact q
 |non=>exact Sel.no rfl ⟨by decide,_,rfl,q⟩
 |bl b=>exact Sel.no rfl ⟨by decide,_,rfl,q⟩
 |str z=>exact Sel.no rfl ⟨by decide,_,rfl,q⟩
 |lst e r=>exact Sel.no rfl ⟨by decide,_,(eB.lst e r).ty,q⟩
 |tup e r=>exact Sel.no rfl ⟨by decide,_,(eB.tup e r).ty,q⟩
 |dic e=>exact Sel.no rfl ⟨by decide,_,(eB.dic e).ty,q⟩
theorem eS {n:Nat}(h:n<=16700000):n<=sizeLine:=by rw[Mi];omega
theorem oj {x y:Str}(h1:cm x=true)(h2:cm y=true):cm (x++y)=true:=by
 unfold cm at h1 h2⊢
 show(x.cps++y.cps).all _=true
 rw[Array.all_append,h1,h2];rfl
theorem ve (H:Hp)(m:Key):eB H (kV m) (mX m):=by cases m<;>constructor
theorem zh {K:pv}{H:Hp}{Q:VK}{a b:Key}(q:Q (.bl (decide (a=b))) H):bw K (kV a) (kV b) H Q:=by
 cases a<;>cases b
 ·rename_i i j
  have e:decide ((Nb i:Key)=Nb j)=decide (i=j):=by simp
  rw[e]at q;exact q
 ·have e:∀(i:Int)(j:Str),decide ((Nb i:Key)=MW j)=false:=by simp
  rw[e]at q;exact q
 ·have e:∀(i:Int)(j:Str),decide ((MW j:Key)=Nb i)=false:=by simp
  rw[e]at q;exact q
 ·rename_i i j
  have e:decide ((MW i:Key)=MW j)=decide (i=j):=by simp
  rw[e]at q;exact q
theorem vB {H:Hp}{ps:List Addr}{ts:List (List Key)}(h:PK H ps ts):∀{i:Nat}{t:List Key},ts[i]? =some t->∃p,ps[i]? =some p/\H p=some (.tup (t.map kV))/\okT t=true:=by
 induction h with
 |nil=>intro i t e;cases e
 |cons r _ ih=>
  intro i t e
  cases i with
  |zero=>cases e;exact⟨_,rfl,r⟩
  |succ i=>exact ih e
theorem cT {H:Hp}{ps:List Addr}{ts:List (List Key)}(h:PK H ps ts):ps.length=ts.length:=Paired.length h
theorem mB {k:List Key}(h:okT k=true):1<=k.length/\k.length<=8:=by
 unfold okT at h
 simp only[Li]at h
 exact of_decide_eq_true h.1.1
theorem dz {k:List Key}(h:okT k=true):k.all okP=true:=by
 unfold okT at h
 rw[Li]at h
 exact h.2
theorem kE {k:List Key}{x:Key}(h:okT k=true)(hx:x∈k):okP x=true:=LD.mp (dz h) x hx
theorem yp {k:List Key}(h:okT k=true):∃z r,k=.inr z::r:=by
 unfold okT at h
 simp only[Li]at h
 cases k with
 |nil=>cases h.1.2
 |cons x r=>
  cases x with
  |inl i=>cases h.1.2
  |inr z=>exact⟨z,r,rfl⟩
theorem yT {x:Key}(h:okP x=true):gB (mX x)=true:=by
 cases x with
 |inl i=>exact h
 |inr z=>rfl
theorem oy {i:Int}(h0:0<=i)(h1:i<10^60):i.natAbs.log2<1920:=by
 by_cases e:i.natAbs=0
 ·rw[e];decide
 ·refine(RQ e).mpr ?_
  have:i.natAbs<10^60:=by omega
  exact KM this (by decide+kernel)
theorem fL {i:Int}(h0:0<=i)(h1:i<10^60):((toString i:String):Str).length<=61:=by
 have:i.natAbs<10^60:=by omega
 have:=int_text_length_le10 (k:=60) (by decide) this
 show(LM _).length<=_
 rw[QF];exact this
theorem im (s:String)(h:s.length=1:=by rfl):(s:Str).length=1:=by
 show(LM s).length=1
 rw[QF];exact h
theorem oE {x:Key}(h:okP x=true):(cK x).length<=szK x:=by
 cases x with
 |inl i=>
  have h:=of_decide_eq_true h
  have:=fL h.1 h.2
  show(((toString i:String):Str)++((";":String):Str)).length<=62
  rw[MQ,im ";"];omega
 |inr z=>
  have h:=of_decide_eq_true (Ku.mp h).2
  have:=fL (i:=(z.length:Int)) (by omega) (by omega)
  show(((toString (z.length:Int):String):Str)++((":":String):Str)++z).length<=z.length+62
  rw[MQ,MQ,im ":"];omega
theorem Cu {x:Key}(h:okP x=true):szK x<=2000062:=by
 cases x with
 |inl i=>show 62<=2000062;decide
 |inr z=>
  have h:=of_decide_eq_true (Ku.mp h).2
  show z.length+62<=2000062;omega
theorem qR:∀xs:List Key,cg xs=(xs.map cK).foldr (·++·) My
 |[]=>rfl
 |x::r=>by show cK x++cg r=cK x++_;rw[qR r]
theorem nQ:∀{k:List Key},k.all okP=true->(cg k).length<=szT k
 |[],_=>by show My.length<=0;decide
 |x::r,h=>by
  rw[MJ,Li]at h
  have h1:=oE h.1
  have h2:=nQ h.2
  show(cK x++cg r).length<=((x::r).map szK).sum
  rw[MQ,KZ,Nl]
  unfold szT at h2
  omega
theorem kB {x y:Str}(h1:cm x=true)(h2:cm y=true):cm (x++y)=true:=oj h1 h2
theorem ya {z:Str}(h:∀c∈z.cps.toList,c<128):cm z=true:=by
 unfold cm
 rw[RU]
 intro i hi
 exact decide_eq_true (h _ (by simp))
theorem AI (n:Nat):cm ((toString (n:Int):String):Str)=true:=by
 refine ya fun c hc=>?_
 rw[Sk n]at hc
 obtain⟨ch,hch,e⟩:=LC.mp hc
 have:=digit_range (Qc (by decide) (by decide) hch)
 rw[<-e];omega
theorem si {i:Int}(h:0<=i):cm ((toString i:String):Str)=true:=by
 obtain⟨n,rfl⟩:=Lq h
 exact AI n
theorem uT {x:Key}(h:okP x=true):cm (cK x)=true:=by
 cases x with
 |inl i=>
  have h:=of_decide_eq_true h
  exact kB (si h.1) (by decide+kernel)
 |inr z=>
  have h:=(Ku.mp h).1
  exact kB (kB (si (by omega)) (by decide+kernel)) h
theorem oi:∀{k:List Key},k.all okP=true->cm (cg k)=true
 |[],_=>by decide+kernel
 |x::r,h=>by
  rw[MJ,Li]at h
  exact kB (uT h.1) (oi h.2)
theorem sg:∀{k:List Key},k.all okP=true->szT k<=k.length*2000062
 |[],_=>by decide
 |x::r,h=>by
  rw[MJ,Li]at h
  have h1:=Cu h.1
  have h2:=sg h.2
  show((x::r).map szK).sum<=_
  rw[KZ,Nl,KH,Nat.succ_mul]
  unfold szT at h2
  omega
theorem rc:∀{k:List Key},k.all okP=true->((k.map cK).map (·.length)).sum<=szT k
 |[],_=>by decide
 |x::r,h=>by
  rw[MJ,Li]at h
  have h1:=oE h.1
  have h2:=rc h.2
  show(((x::r).map cK).map (·.length)).sum<=((x::r).map szK).sum
  rw[KZ,KZ,Nl,KZ,Nl]
  unfold szT at h2
  omega
theorem BX (K:pv)(A:Adr):Ln (lG K A) 1:=by rintro vs H Q E ⟨p,k,rfl,_⟩;rfl
theorem FE (T:Txt K mg A):Rd (lG K A) (IY K A) ["thing"]:=by
 intro vs H Q E h
 obtain⟨p,k,rfl,hp,ok,q⟩:=h
 obtain⟨l1,l8⟩:=mB ok
 obtain⟨z,r,hk⟩:=yp ok
 have ty:tyN H (.ref p)=some "tuple":=by unfold tyN;dsimp only;rw[hp]
 refine⟨by decide,"tuple",ty,Sel.no rfl (.inl (.inr (.inl ⟨_,SqT.of hp,?_⟩)))⟩
 refine Sel.dec (fun h1=>?_) (fun h1=>absurd (by simp;omega) h1)
 refine Sel.ndec (fun h8=>absurd (by simp;omega) h8) (fun h8=>?_)
 refine ixT (j:=0) hp rfl (by rw[hk];rfl) ⟨by decide,"str",rfl,Sel.yes rfl ?_⟩
 refine⟨p,rfl,.inr ⟨⟨_,SqT.of hp⟩,fun D hD=>?_⟩⟩
 have hne:p≠D:=aI hp hD
 have hml:(k.map kV).length=k.length:=by simp
 refine ft (da.tuple (xs:=k.map kV) .non) (fun i ys H2=>ys=(k.take i).map (fun x=>V.bl true)/\H2=upd H D (.lst ys)) (fun i ys H2 hi ⟨_,e2⟩=>?_) ⟨rfl,rfl⟩ (fun i ys H2 hi ⟨e1,e2⟩=>?_) (fun ys H2 ⟨e1,e2⟩=>?_)
 ·rw[e2];exact SqT.of (by rw[aC hne];exact hp)
 ·subst e2
  have hi':i<k.length:=by omega
  obtain⟨x,hx⟩:∃x,k[i]?=some x:=⟨_,If hi'⟩
  have hg:(k.map kV).getD i .non=kV x:=by rw[KA,KL,hx];rfl
  rw[hg]
  have hs:=yT (kE ok (KJ hx))
  refine mO ⟨_,mX x,rfl,ve _ x,?_⟩
  rw[hs]
  have hyl:ys.length=i:=by rw[e1,pz,Mu];omega
  refine⟨au,by rw[hyl];exact bn (by omega),CWd.next hi ⟨?_,dm⟩⟩
  rw[e1,Pd,Kq,hx];rfl
 ·subst e2
  refine⟨D,k.map fun _=>true,rfl,by rw[au,e1,hml,NA,Pp];rfl,?_⟩
  have:(k.map fun _=>true).all id=true:=by simp
  rw[this];exact q _ (aA.upd hD)
theorem Es (K:pv)(A:Adr):Ln (pP K A) 1:=by rintro vs H Q E ⟨v,rfl,_⟩;rfl
theorem Iv (T:Txt K mg A):Rd (pP K A) (IJ K A) ["part","signs"]:=by
 intro vs H Q E h
 obtain⟨v,rfl,hp,q⟩:=h
 cases v with
 |inl i=>
  have h:=of_decide_eq_true hp
  have l:=fL h.1 h.2
  refine⟨.int i,.int i,rfl,.int i,Sel.t ?_⟩
  have e1:My++((toString i:String):Str)=((toString i:String):Str):=SJ _
  have l2:(((toString i:String):Str)++((";":String):Str)).length<=sizeLine:=by rw[MQ,im ";"];exact eS (by omega)
  refine⟨oy h.1 h.2,by rw[e1];exact eS (by omega),?_,?_,?_⟩<;>rw[e1]
  ·exact l2
  ·exact l2
  ·exact q
 |inr z=>
  have h:=of_decide_eq_true (Ku.mp hp).2
  have l:=fL (i:=(z.length:Int)) (by omega) (by omega)
  refine⟨.str z,.str z,rfl,.str z,Sel.f ?_⟩
  have e1:My++((toString (z.length:Int):String):Str)=((toString (z.length:Int):String):Str):=SJ _
  have l2:(((toString (z.length:Int):String):Str)++((":":String):Str)).length<=sizeLine:=by rw[MQ,im ":"];exact eS (by omega)
  have l3:(((toString (z.length:Int):String):Str)++((":":String):Str)++z).length<=sizeLine:=by rw[MQ,MQ,im ":"];exact eS (by omega)
  refine .inl ⟨eS (by omega),oy (by omega) (by omega),by rw[e1];exact eS (by omega),?_,eS (by omega),?_,?_,?_⟩<;>rw[e1]
  ·exact l2
  ·exact l3
  ·exact l3
  ·exact q
theorem Ed (K:pv)(A:Adr):Ln (mn K A) 1:=by rintro vs H Q E ⟨p,k,rfl,_⟩;rfl
theorem Hi (T:Txt K mg A):Rd (mn K A) (IX K A) ["term"]:=by
 intro vs H Q E h
 obtain⟨p,k,rfl,hp,ok,q⟩:=h
 refine⟨p,k,rfl,hp,ok,fun H' s=>Sel.no rfl ?_⟩
 have hp':=s _ _ hp
 have hml:(k.map kV).length=k.length:=by simp
 obtain⟨l1,l8⟩:=mB ok
 refine⟨rfl,⟨p,rfl,.inr ⟨⟨_,SqT.of hp'⟩,fun D hD=>?_⟩⟩⟩
 have hne:p≠D:=aI hp' hD
 refine ft (da.tuple (xs:=k.map kV) .non) (fun i ys H2=>ys=(k.take i).map (fun x=>V.str (cK x))/\H2=upd H' D (.lst ys)) (fun i ys H2 hi ⟨_,e2⟩=>?_) ⟨rfl,rfl⟩ (fun i ys H2 hi ⟨e1,e2⟩=>?_) (fun ys H2 ⟨e1,e2⟩=>?_)
 ·rw[e2];exact SqT.of (by rw[aC hne];exact hp')
 ·subst e2
  have hi':i<k.length:=by omega
  obtain⟨x,hx⟩:∃x,k[i]?=some x:=⟨_,If hi'⟩
  have hg:(k.map kV).getD i .non=kV x:=by rw[KA,KL,hx];rfl
  rw[hg]
  refine mO ⟨x,rfl,kE ok (KJ hx),?_⟩
  have hyl:ys.length=i:=by rw[e1,pz,Mu];omega
  refine⟨au,by rw[hyl];exact bn (by omega),CWd.next hi ⟨?_,dm⟩⟩
  rw[e1,Pd,Kq,hx];rfl
 ·subst e2
  refine⟨"",D,k.map cK,rfl,rfl,by rw[au,e1,hml,NA,Pp];rfl,?_,?_⟩
  ·have h1:=rc (dz ok)
   have h2:=sg (dz ok)
   have e0:(("":String):Str).length=0:=by decide
   rw[e0]
   have:k.length*2000062<=8*2000062:=RA _ l8
   omega
  ·rw[mY,<-qR]
   exact q _ (s.trans (aA.upd hD))
theorem HZ (K:pv)(A:Adr):Ln (ub K A) 1:=by rintro vs H Q E ⟨x,dx,rfl,_⟩;rfl
theorem IZ (T:Txt K mg A):Rd (ub K A) (T_1 K A) ["self"]:=by
 intro vs H Q E h
 obtain⟨x,dx,rfl,hx,q⟩:=h
 exact .inr fun d hd=>⟨x,A.c_Numbers,dx,[],rfl,by rw[aC (aI hx hd)];exact hx,T.cl_Numbers,T.na_Numbers_given,by decide,q d hd⟩
theorem fO.mono {H H':Hp}{x d:Addr}{kvs:List (List Key×V)}(s:aA H H')(n:fO A H x d kvs):fO A H' x d kvs:=by
 obtain⟨⟨dx,h1⟩,h2⟩:=n
 exact⟨⟨dx,s _ _ h1⟩,s _ _ h2⟩
theorem fO.hide {H:Hp}{x d:Addr}{kvs:List (List Key×V)}{cs:List Addr}{cvs:List V}(hc:cC H cs cvs)(n:fO A H x d kvs):fO A (cJ cs H) x d kvs:=by
 obtain⟨⟨dx,h1⟩,h2⟩:=n
 exact⟨⟨dx,hc.hide h1 (fun _ z=>nomatch z)⟩,hc.hide h2 (fun _ z=>nomatch z)⟩
theorem Il (K:pv)(A:Adr):Ln (tP K A) 2:=by rintro vs H Q E ⟨x,d,p,kvs,k,rfl,_⟩;rfl
theorem Jd (T:Txt K mg A):Rd (tP K A) (T_2 K A) ["self","term"]:=by
 intro vs H Q E h
 obtain⟨x,d,a,kvs,k,rfl,nu,hl,hp,ok,q⟩:=h
 refine⟨a,k,rfl,hp,ok,fun H' s=>Sel.no rfl ?_⟩
 have ta':=s _ _ hp
 obtain⟨⟨dx,hx⟩,hd⟩:=nu.mono s
 have q:=q H' s
 have g:=dc.t hd ta'
 refine⟨x,A.c_Numbers,dx,_,.ref d,rfl,hx,T.cl_Numbers,T.na_Numbers_given,rfl,.inl ⟨d,bH kvs k,rfl,g,?_⟩⟩
 unfold ja iQ at q
 cases e:bH kvs k with
 |some w=>
  rw[e]at q g
  have q:Q w H':=q
  exact Sel.no rfl ⟨x,A.c_Numbers,dx,_,.ref d,rfl,hx,T.cl_Numbers,T.na_Numbers_given,rfl,.inr ⟨d,w,rfl,g,q⟩⟩
 |none=>
  rw[e]at q g
  have q:Q (.int kvs.length) (upd H' d (.dT (cv kvs k (.int kvs.length)))):=q
  have hx':upd H' d (.dT (cv kvs k (.int kvs.length))) x=some (.ins A.c_Numbers dx [("given",.ref d)]):=by rw[aC (bN hx hd (fun z=>nomatch z))];exact hx
  have ha':upd H' d (.dT (cv kvs k (.int kvs.length))) a=some (.tup (k.map kV)):=by rw[aC (bN ta' hd (fun z=>nomatch z))];exact ta'
  refine Sel.yes rfl ⟨x,A.c_Numbers,dx,_,.ref d,rfl,hx,T.cl_Numbers,T.na_Numbers_given,rfl,.inr ⟨d,kvs,rfl,hd,x,A.c_Numbers,dx,_,.ref d,rfl,hx,T.cl_Numbers,T.na_Numbers_given,rfl,.inr ⟨d,_,rfl,.inr ⟨kvs,k,a,hd,rfl,ta',LA hl (aQ (n:=50001) (by decide)),rfl⟩,?_⟩⟩⟩
  have g2:=dc.t (kvs:=cv kvs k (.int kvs.length)) (k:=k) au ha'
  rw[iT,if_pos rfl]at g2
  exact⟨x,A.c_Numbers,dx,_,.ref d,rfl,hx',T.cl_Numbers,T.na_Numbers_given,rfl,.inr ⟨d,_,rfl,g2,q⟩⟩
theorem HN (T:Txt K mg A)(a0:V)(H:Hp)(Q:VK)(E:XK)(h:tJ K A [a0] H Q E):DK K A (dZ ["term"] [a0] []) H Q:=h
theorem Ii (T:Txt K mg A)(a0 b0:V)(H:Hp)(Q:VK)(E:XK)(h:uw K A [a0,b0] H Q E):Cg K A (dZ ["term","numbers"] [a0] [b0]) H Q:=by
 obtain⟨x,d,p,kvs,k,e,nu,hl,hp,ok,h⟩:=h
 cases e
 obtain⟨dx,hx⟩:=nu.ob
 exact⟨x,dx,_,rfl,hx,rfl,x,d,p,kvs,k,rfl,nu,hl,hp,ok,h⟩
theorem Dy {H:Hp}{b p:Addr}{kvs:List (List Key×V)}{kk:List Key}{d:V}(hb:H b=some (.dT kvs))(hp:H p=some (.tup (kk.map kV)))(hl:kvs.length<=50000):
  Dv H b (.ref p) d (ja kvs kk d) (iQ H b kvs kk d):=by
 unfold ja iQ
 have g:=dc.t hb hp
 cases e:bH kvs kk with
 |some v=>rw[e]at g;exact .inl ⟨g,if_pos rfl⟩
 |none=>rw[e]at g;exact .inr ⟨g,.inr ⟨kvs,kk,p,hb,rfl,hp,LA hl (aQ (n:=50001) (by decide)),if_neg (by decide)⟩,rfl⟩
theorem bS.trans {P:Addr}{H H1 H2:Hp}(a:bS P H H1)(b:bS P H1 H2):bS P H H2:=fun x o e n=>b x o (a x o e n) n
theorem bS.new {P p:Addr}{H:Hp}{o:HO}(h:H p=none):bS P H (upd H p o):=fun b u e _=>by rw[aC (aI e h)];exact e
theorem bS.tab {P:Addr}{H:Hp}{o:HO}:bS P H (upd H P o):=fun b u e n=>by rw[aC n];exact e
theorem cz {H:Hp}{P q:Addr}{o:HO}(hP:H P=some o)(hq:H q=none):q≠P:=fun e=>by rw[e,hP]at hq;cases hq
theorem cn {H:Hp}{p q:Addr}{o:HO}(h:upd H p o q=none):q≠p/\H q=none:=by
 by_cases e:q=p
 ·subst e;rw[au]at h;cases h
 ·rw[aC e]at h;exact⟨e,h⟩
theorem zB {H:Hp}{P c f q:Addr}{o1 o2:HO}{t:cX}{v:V}(hP:H P=some o1)(hc:H c=none)(hf:H f=none)(hne:c≠f)(hq:upd (upd (upd H P o2) c (cD c t.qual)) f (df f t [q] c) q=none):
  bS P H (upd (upd (upd (upd H P o2) c (cD c t.qual)) f (df f t [q] c)) q (bW q v))/\dQ (upd (upd (upd (upd H P o2) c (cD c t.qual)) f (df f t [q] c)) q (bW q v)) f t [q] [v]:=by
 have c1:upd H P o2 c=none:=by rw[aC (cz hP hc)];exact hc
 have f1:upd (upd H P o2) c (cD c t.qual) f=none:=by rw[aC (Lj hne),aC (cz hP hf)];exact hf
 have S3:=bS.new (P:=P) (o:=bW q v) hq
 have S2:=(bS.new (P:=P) (o:=df f t [q] c) f1).trans S3
 have S1:=(bS.new (P:=P) (o:=cD c t.qual) c1).trans S2
 exact⟨bS.tab.trans S1,⟨⟨c,S3 _ _ au (cz hP hf),S2 _ _ au (cz hP hc)⟩,.cons au .nil⟩⟩
theorem qj:fH []:=fun p hp=>nomatch hp
theorem uq.of {P:Addr}{H H':Hp}{ps:Array tx}(hP:H P=some (.tbl ps))(k:bS P H H'):uq H H':=fun b o e n=>k b o e fun z=>by subst z;rw[hP]at e;cases e;exact n _ rfl
theorem wj {x:Int}(h:x.natAbs<2^64):Mf x<=64:=by
 unfold Mf
 split
 ·decide
 ·rename_i hx
  have hx:x≠0:=by simpa using hx
  have:x.natAbs.log2<64:=(RQ (by omega)).mpr h
  omega
theorem Jn {x y:Int}(h0:0<=x)(h:x<2^64):Tg x y:=Nt (wj (by omega))
theorem JF {x y:Int}(h0:0<=y)(h:y<2^64):Tg x y:=IntMulOk.of_right (wj (by omega))
theorem Hl (T:Txt K mg A)(a0 b0:V)(H:Hp)(Q:VK)(E:XK)(h:ue K A [a0,b0] H Q E):CU K A {nx:=fun _ H'=>Q .non H',rt:=Q} (dZ ["_law_term_here","_law_total","_law_part","_law_many"] [a0] [b0]) H:=by
 obtain⟨p,m,k,e,h1,h2,hp,ok,q⟩:=h
 cases e
 refine .inl (.inr (.inl ⟨_,SqT.of hp,?_⟩))
 refine⟨p,rfl,.inr ⟨⟨_,SqT.of hp⟩,?_⟩⟩
 rw[pz]
 refine Bc (xs:=k.map kV) (fun i σ H'=>H'=H/\∃x2,σ=[some (.ref p),some (.int ((k.take i).foldl mi k.length)),x2,some (.int m)]) ⟨rfl,none,rfl⟩ ?_ ?_ ?_
 ·rintro i σ _ _ ⟨rfl,_⟩;exact SqT.of hp
 ·rintro i x σ _ hx ⟨rfl,x2,rfl⟩
  obtain⟨kk,hk,rfl⟩:=fX hx
  have okk:okP kk=true:=kE ok (KJ hk)
  have st:=uJ mi (k.length:Int) k i kk hk
  cases kk with
  |inl n=>
   refine⟨by decide,"int",rfl,Sel.no rfl ⟨Nt (by decide),rfl,some (.int n),?_⟩⟩
   rw[st];rfl
  |inr z=>
   refine⟨by decide,"str",rfl,Sel.yes rfl ⟨Nt (by decide),?_⟩⟩
   obtain⟨hz,hl⟩:=Ku.mp okk
   have hl:=of_decide_eq_true hl
   refine .inl ⟨eS (by omega),rfl,some (.str z),?_⟩
   rw[st];rfl
 ·rintro σ _ ⟨rfl,x2,rfl⟩
  have e:k.take (k.map kV).length=k:=by rw[pz,NA]
  rw[e]
  exact⟨by omega,q⟩
theorem Sub.rfl' {g:gOp}:Sub g g:=fun _ _ e=>e
theorem Sub.trans {g g1 g2:gOp}(a:Sub g g1)(b:Sub g1 g2):Sub g g2:=fun k v e=>b k v (a k v e)
theorem Ext.of {g g':gOp}{h:List Key->Key}(s:Sub g g')(e:Ext g' h):Ext g h:=fun k v z=>e k v (s k v z)
theorem jU (kvs:List (List Key×Key))(k:List Key):bH (cM kvs) k=(cp kvs k).map kV:=by
 unfold bH cM cp
 rw[List.find?_map]
 simp only[Option.map_map]
 congr 1
theorem vA {kvs:List (List Key×Key)}{k:List Key}{v:Key}{x:List Key×Key}(h:cp kvs k=some v):cp (kvs++[x]) k=some v:=by
 unfold cp at h⊢
 rw[RZ]
 cases e:kvs.find? fun p=>decide (p.1=k)with
 |none=>rw[e]at h;cases h
 |some y=>rw[e]at h;exact h
theorem xl {kvs:List (List Key×Key)}{k:List Key}{d:Key}(h:cp kvs k=none):cp (kvs++[(k,d)]) k=some d:=by
 unfold cp at h⊢
 rw[RZ]
 cases e:kvs.find? fun p=>decide (p.1=k)with
 |none=>simp
 |some y=>rw[e]at h;cases h
theorem yS {kvs:List (List Key×Key)}{k:List Key}{v:Key}(h:cp kvs k=some v):bH (cM kvs) k=some (kV v):=by rw[jU,h];rfl
theorem xH {kvs:List (List Key×Key)}{k:List Key}{v:Key}(hs:fH kvs)(h:cp kvs k=some v):iz v:=by
 unfold cp at h
 cases e:kvs.find? fun p=>decide (p.1=k)with
 |none=>rw[e]at h;cases h
 |some y=>
  rw[e]at h
  cases h
  exact hs y (Qk e)
theorem rM {kvs:List (List Key×Key)}{x:List Key×Key}(h:fH kvs)(hx:iz x.2):fH (kvs++[x]):=fun p hp=>by
 rcases Lw.mp hp with z|z
 ·exact h p z
 ·rw[Ky.mp z];exact hx
theorem lD {k:List Key}{v:Key}(hk:1<=k.length)(h:iz v):uI k v:=by
 cases v with
 |inl i=>exact h
 |inr z=>
  refine⟨h.1,KN h.2 ?_⟩
  cases k with
  |nil=>simp at hk
  |cons x r=>
   show 62<=((x::r).map szK).sum
   rw[KZ,Nl]
   have:62<=szK x:=by cases x with
    |inl i=>exact Gt 62
    |inr z=>show 62<=z.length+62;omega
   omega
theorem qS {H:Hp}{b:Addr}{cs:List Addr}{cvs:List V}{kvs:List (List Key×Key)}(kk:List Key)(d:Key)(hs:fH kvs)(hd:iz d)(hb:H b=some (.dT (cM kvs)))(hc:cC H cs cvs)(H1:Hp)(S:aA (cJ cs H) H1):
  ∃(kvs':List (List Key×Key))(v:Key)(H':Hp),ja (cM kvs) kk (kV d)=kV v/\cw cs H (iQ H1 b (cM kvs) kk (kV d))=H'/\H' b=some (.dT (cM kvs'))/\(∀x o,x≠b->H x=some o->H' x=some o)/\(kvs'=kvs\/kvs'=kvs++[(kk,d)])/\fH kvs'/\cp kvs' kk=some v/\iz v/\∀k v,cp kvs k=some v->cp kvs' k=some v:=by
 have hbc:b∉cs:=hc.notin hb fun _ z=>nomatch z
 have S2:=aA.hide cs S
 cases e:cp kvs kk with
 |some v=>
  have ev:=yS e
  refine⟨kvs,v,cw cs H H1,by unfold ja;rw[ev];rfl,?_,S2 _ _ hb,fun _ _ _ h=>S2 _ _ h,.inl rfl,hs,e,xH hs e,fun _ _ h=>h⟩
  unfold iQ;rw[ev];rfl
 |none=>
  have ev:bH (cM kvs) kk=none:=by rw[jU,e];rfl
  refine⟨kvs++[(kk,d)],d,upd (cw cs H H1) b (.dT (cM (kvs++[(kk,d)]))),by unfold ja;rw[ev];rfl,?_,au,fun x o n h=>by rw[aC n];exact S2 _ _ h,.inr rfl,rM hs hd,xl e,hd,fun _ _ h=>vA h⟩
  unfold iQ;rw[ev,if_neg (by decide),vC hbc,xY _ ev]
  unfold cM;rw[Kq];rfl
theorem Lin.nil {a c:Int}:Lin a c []:=fun i p h=>by cases i<;>cases h
theorem Lin.snoc {a c:Int}{kvs:List (List Key×Key)}(s:Lin a c kvs)(k:List Key):Lin a c (kvs++[(k,.inl (a*(kvs.length:Int)+c))]):=fun i p h=>by
 rcases NY i kvs.length with hi|hi|hi
 ·rw[KW hi]at h;exact s i p h
 ·rw[KR (by omega),hi,Ni]at h
  cases h;rw[hi]
 ·rw[Lo (by simp;omega)]at h;cases h
theorem Lin.step {a c:Int}{kvs kvs':List (List Key×Key)}{kk:List Key}(s:Lin a c kvs)(h:kvs'=kvs\/kvs'=kvs++[(kk,.inl (a*(kvs.length:Int)+c))]):Lin a c kvs'/\kvs'.length<=kvs.length+1:=by
 rcases h with rfl|rfl
 ·exact⟨s,MO _⟩
 ·exact⟨s.snoc kk,by simp⟩
theorem mU {kvs:List (List Key×Key)}{k:List Key}{v:Key}(h:cp kvs k=some v):∃i:Nat,kvs[i]? =some (k,v):=by
 unfold cp at h
 cases e:kvs.find? fun p=>decide (p.1=k)with
 |none=>rw[e]at h;cases h
 |some p=>
  rw[e]at h
  obtain⟨i,hi⟩:=MV.mp (Qk e)
  have h1:p.1=k:=by have:=List.find?_some e;exact of_decide_eq_true this
  have h2:p.2=v:=KG h
  exact⟨i,by rw[hi,<-h1,<-h2]⟩
theorem Lin.inj {a c:Int}{kvs:List (List Key×Key)}(ha:1<=a)(s:Lin a c kvs){k k':List Key}{v:Key}(h:cp kvs k=some v)(h':cp kvs k'=some v):k=k':=by
 obtain⟨i,hi⟩:=mU h
 obtain⟨j,hj⟩:=mU h'
 have e1:=s i _ hi
 have e2:=s j _ hj
 have e3:a*(i:Int)+c=a*(j:Int)+c:=SR (e1.symm.trans e2)
 have e4:(i:Int)=j:=Int.eq_of_mul_eq_mul_left (by omega) (by omega:a*(i:Int)=a*j)
 have e5:i=j:=by omega
 subst e5
 rw[hi]at hj
 cases hj;rfl
theorem m0 {x:cX×Sp}{l:List (cX×Sp)}:x∈x::l:=KY
theorem mS {x y:cX×Sp}{l:List (cX×Sp)}(h:x∈l):x∈y::l:=KC _ h
theorem aO.rfl' {b:Addr}{H:Hp}:aO b H H:=fun _ _ _ e=>e
theorem aO.trans {b:Addr}{H H1 H2:Hp}(a:aO b H H1)(c:aO b H1 H2):aO b H H2:=fun x o n e=>c x o n (a x o n e)
theorem aO.same {b:Addr}{H H':Hp}(S:aA H H'):aO b H H':=fun x o _ e=>S x o e
theorem Em (K:pv)(A:Adr):Ln (pO K A) 0:=by rintro vs H Q E ⟨rfl,_⟩;rfl
theorem Fp (T:Txt K mg A)(hnd:([]:List Addr).Nodup)(vs:List V)(H:Hp)(Q:VK)(E:XK)(h:pO K A vs H Q E):Cr K A {nx:=fun σ H'=>(∀p∈([]:List (Nat×Addr)),H' p.2=none)->Q .non (cR [] σ H'),rt:=fun σ v H'=>(∀p∈([]:List (Nat×Addr)),H' p.2=none)->Q v (cR [] σ H')} (L2.start [] vs) H:=by
 obtain⟨rfl,hP,q⟩:=h
 refine⟨#[],hP,trivial,.inl ⟨rfl,fun c f hc hf hne _=>?_⟩⟩
 have cP:=cz hP hc
 have fP:=cz hP hf
 have c1:∀o,upd H A.t_62 o c=none:=fun o=>by rw[aC cP];exact hc
 have f1:∀o,upd (upd H A.t_62 o) c (cD c fA.qual) f=none:=fun o=>by rw[aC (Lj hne),aC fP];exact hf
 exact q f f _ _ (bS.tab.trans ((bS.new (c1 _)).trans (bS.new (f1 _)))) (.wri ⟨⟨c,au,(aC hne).trans au⟩,.nil⟩ rfl rfl rfl) hf
theorem CZ (K:pv)(A:Adr):Ln (oR K A) 0:=by rintro vs H Q E ⟨rfl,_⟩;rfl
theorem FJ (T:Txt K mg A)(q0:Addr)(hnd:([q0]:List Addr).Nodup)(vs:List V)(H:Hp)(Q:VK)(E:XK)(h:oR K A vs H Q E):DV K A q0 {nx:=fun σ H'=>(∀p∈([(0,q0)]:List (Nat×Addr)),H' p.2=none)->Q .non (cR [(0,q0)] σ H'),rt:=fun σ v H'=>(∀p∈([(0,q0)]:List (Nat×Addr)),H' p.2=none)->Q v (cR [(0,q0)] σ H')} (L2.start ["numbers"] vs) H:=by
 obtain⟨rfl,hP,q⟩:=h
 intro x dx hx hdx hne
 refine⟨x,dx,rfl,au,fun d hd=>⟨rfl,?_⟩⟩
 obtain⟨dnx,hd1⟩:=cn hd
 obtain⟨dndx,hd0⟩:=cn hd1
 have xP:=cz hP hx
 have dxP:=cz hP hdx
 have dP:=cz hP hd0
 generalize e2:upd (upd (upd (upd H dx (.own x)) x (.ins A.c_Numbers dx [])) d (.dT [])) x (.ins A.c_Numbers dx [("given",.ref d)])=H2
 have S2:bS A.t_38 H H2:=by
  intro b o e n
  have b1:=aI e hx
  have b2:=aI e hdx
  have b3:=aI e hd0
  rw[<-e2,aC b1,aC b3,aC b1,aC b2];exact e
 have hP2:H2 A.t_38=some (.tbl #[]):=by rw[<-e2,aC (Lj xP),aC (Lj dP),aC (Lj xP),aC (Lj dxP)];exact hP
 have hx2:H2 x=some (.ins A.c_Numbers dx [("given",.ref d)]):=by rw[<-e2,au]
 have hd2:H2 d=some (.dT []):=by rw[<-e2,aC dnx,au]
 refine⟨#[],hP2,trivial,.inl ⟨rfl,fun c f hc hf hne hq=>?_⟩⟩
 obtain⟨k,ca⟩:=zB (v:=.ref x) hP2 hc hf hne (hq _ (Ky.mpr rfl))
 exact q f d _ _ (S2.trans k) (.cnt q0 x [] ca ⟨⟨dx,k _ _ hx2 xP⟩,k _ _ hd2 dP⟩ (KS _) qj .nil rfl rfl) hd0
theorem Eh (K:pv)(A:Adr):Ln (pe K A) 1:=by rintro vs H Q E ⟨m,rfl,_⟩;rfl
theorem Ga (T:Txt K mg A)(q0:Addr)(hnd:([q0]:List Addr).Nodup)(vs:List V)(H:Hp)(Q:VK)(E:XK)(h:pe K A vs H Q E):EI K A q0 {nx:=fun σ H'=>(∀p∈([(0,q0)]:List (Nat×Addr)),H' p.2=none)->Q .non (cR [(0,q0)] σ H'),rt:=fun σ v H'=>(∀p∈([(0,q0)]:List (Nat×Addr)),H' p.2=none)->Q v (cR [(0,q0)] σ H')} (L2.start ["_law_many","_law_stamp"] vs) H:=by
 obtain⟨m,rfl,m1,m2,hP,q⟩:=h
 refine⟨#[],hP,trivial,.inl ⟨rfl,fun c f hc hf hne hq=>?_⟩⟩
 obtain⟨k,ca⟩:=zB (v:=.int m) hP hc hf hne (hq _ (Ky.mpr rfl))
 exact q f f _ _ k (.wea q0 m m1 m2 ca rfl rfl rfl) hf
theorem Gx {H:Hp}{P c f q0 q1 q2:Addr}{o1 o2:HO}{t:cX}{v0 v1 v2:V}(hP:H P=some o1)(hc:H c=none)(hf:H f=none)(hne:c≠f)(n01:q0≠q1)(n02:q0≠q2)(n12:q1≠q2)(h0:upd (upd (upd H P o2) c (cD c t.qual)) f (df f t [q2,q0,q1] c) q0=none)(h1:upd (upd (upd H P o2) c (cD c t.qual)) f (df f t [q2,q0,q1] c) q1=none)(h2:upd (upd (upd H P o2) c (cD c t.qual)) f (df f t [q2,q0,q1] c) q2=none):
  bS P H (upd (upd (upd (upd (upd (upd H P o2) c (cD c t.qual)) f (df f t [q2,q0,q1] c)) q0 (bW q0 v0)) q1 (bW q1 v1)) q2 (bW q2 v2))/\dQ (upd (upd (upd (upd (upd (upd H P o2) c (cD c t.qual)) f (df f t [q2,q0,q1] c)) q0 (bW q0 v0)) q1 (bW q1 v1)) q2 (bW q2 v2)) f t [q2,q0,q1] [v2,v0,v1]:=by
 have c1:upd H P o2 c=none:=by rw[aC (cz hP hc)];exact hc
 have f1:upd (upd H P o2) c (cD c t.qual) f=none:=by rw[aC (Lj hne),aC (cz hP hf)];exact hf
 have h1':upd (upd (upd (upd H P o2) c (cD c t.qual)) f (df f t [q2,q0,q1] c)) q0 (bW q0 v0) q1=none:=by rw[aC (Lj n01)];exact h1
 have h2':upd (upd (upd (upd (upd H P o2) c (cD c t.qual)) f (df f t [q2,q0,q1] c)) q0 (bW q0 v0)) q1 (bW q1 v1) q2=none:=by rw[aC (Lj n12),aC (Lj n02)];exact h2
 have S5:=bS.new (P:=P) (o:=bW q2 v2) h2'
 have S4:=(bS.new (P:=P) (o:=bW q1 v1) h1').trans S5
 have S3:=(bS.new (P:=P) (o:=bW q0 v0) h0).trans S4
 have S2:=(bS.new (P:=P) (o:=df f t [q2,q0,q1] c) f1).trans S3
 have S1:=(bS.new (P:=P) (o:=cD c t.qual) c1).trans S2
 exact⟨bS.tab.trans S1,⟨⟨c,S3 _ _ au (cz hP hf),S2 _ _ au (cz hP hc)⟩,.cons au (.cons (by rw[aC n02,aC n01];exact au) (.cons (by rw[aC n12];exact au) .nil))⟩⟩
theorem Cd (K:pv)(A:Adr):Ln (pS K A) 3:=by rintro vs H Q E ⟨b,D,j,rfl,_⟩;rfl
theorem Hj (T:Txt K mg A)(q0 q1 q2:Addr)(hnd:([q0,q1,q2]:List Addr).Nodup)(vs:List V)(H:Hp)(Q:VK)(E:XK)(h:pS K A vs H Q E):EA K A q0 q1 q2 {nx:=fun σ H'=>(∀p∈([(0,q0),(1,q1),(2,q2)]:List (Nat×Addr)),H' p.2=none)->Q .non (cR [(0,q0),(1,q1),(2,q2)] σ H'),rt:=fun σ v H'=>(∀p∈([(0,q0),(1,q1),(2,q2)]:List (Nat×Addr)),H' p.2=none)->Q v (cR [(0,q0),(1,q1),(2,q2)] σ H')} (L2.start ["_law_known","_law_alias","_law_step","_law_stamp"] vs) H:=by
 obtain⟨b,D,j,rfl,j0,j1,hP,hb,hD,bD,q⟩:=h
 have n01:q0≠q1:=fun e=>by simp[e]at hnd
 have n02:q0≠q2:=fun e=>by simp[e]at hnd
 have n12:q1≠q2:=fun e=>by simp[e]at hnd
 refine⟨#[],hP,trivial,.inl ⟨rfl,fun c f hc hf hne hq=>?_⟩⟩
 obtain⟨k,ca⟩:=Gx (v0:=.ref b) (v1:=.ref D) (v2:=.int j) hP hc hf hne n01 n02 n12 (hq (0,q0) (by simp)) (hq (1,q1) (by simp)) (hq (2,q2) (by simp))
 have nb:b≠A.t_23:=bN hb hP (fun z=>nomatch z)
 have nD:D≠A.t_23:=bN hD hP (fun z=>nomatch z)
 exact q f _ k (.pla q2 q0 q1 D j j0 j1 [] none ca (k _ _ hb nb) (k _ _ hD nD) bD (KS _) qj .nil rfl rfl)
theorem Jp {H:Hp}{D p:Addr}{k:List Key}{al:Option (List Key×List Key)}(ha:jH H D al)(hp:H p=some (.tup (k.map kV))):∃(o:Option V)(p':Addr),dc H D (.ref p) o/\o.getD (.ref p)=.ref p'/\H p'=some (.tup ((alF al k).map kV)):=by
 cases al with
 |none=>exact⟨_,p,dc.t ha hp,rfl,hp⟩
 |some r=>
  obtain⟨o,hD,ho,ok⟩:=ha
  by_cases e:k=r.1
  ·refine⟨_,o,dc.t hD hp,?_,?_⟩
   ·unfold bH;simp[e]
   ·show H o=some (.tup ((if k=r.1 then r.2 else k).map kV));rw[if_pos e];exact ho
  ·refine⟨_,p,dc.t hD hp,?_,?_⟩
   ·unfold bH;simp[Lj e]
   ·show H p=some (.tup ((if k=r.1 then r.2 else k).map kV));rw[if_neg e];exact hp
theorem Hc (T:Txt K mg A)(a0 b0 b1 b2:V)(H:Hp)(Q:VK)(E:XK)(h:uG K A [a0,b0,b1,b2] H Q E):Eo K A {nx:=fun _ H'=>Q .non H',rt:=Q} (dZ ["_law_term_here","_law_step","_law_known","_law_alias"] [a0] [b0,b1,b2]) H:=by
 obtain⟨p,b,D,j,k,kvs,al,e,j0,j1,hp,hb,ha,hl,q⟩:=h
 cases e
 obtain⟨o,p',hg,eo,hp'⟩:=Jp ha hp
 have hD:∃kv,H D=some (.dT kv):=by
  cases al with
  |none=>exact⟨_,ha⟩
  |some r=>obtain⟨_,hD,_⟩:=ha;exact⟨_,hD⟩
 refine⟨.inr (.inr (.inl ⟨rfl,.inr ⟨_,hb⟩⟩)),.inr (.inr (.inl ⟨rfl,.inr hD⟩)),D,.ref p,.ref p,o,rfl,rfl,hg,?_⟩
 rw[eo]
 exact .inr ⟨b,kvs,rfl,hb,Jn j0 (by omega),b,.ref p',_,_,_,rfl,rfl,Dy hb hp' hl,q⟩
theorem Co (K:pv)(A:Adr):Ln (pQ K A) 4:=by rintro vs H Q E ⟨w,c,b,D,rfl,_⟩;rfl
theorem HS (T:Txt K mg A):Rd (pQ K A) (Jl K A) ["_law_way_here","_law_cell","_law_known","_law_alias"]:=by
 intro vs H Q E h
 obtain⟨w,c,b0,D,rfl,⟨t2,t1,t3,t4,_⟩,hb,hD,bD,w0,w3,q⟩:=h
 refine Sel.dec (fun h=>?_) (fun h=>?_)
 ·exact⟨by decide,_,rfl,by omega,by omega,t2,fun f b g H' k s hn=>q f b _ g H' (.of t2 k) s (.inr hn) (fun e=>by omega) (fun e=>by omega)⟩
 refine Sel.dec (fun h=>?_) (fun h=>?_)
 ·refine⟨by decide,Sel.dec (fun h2=>?_) (fun h2=>?_)⟩
  ·exact⟨rfl,t1,fun f b g H' k s hn=>q f b _ g H' (.of t1 k) s (.inr hn) (fun _=>trivial) (fun e=>by omega)⟩
  refine Sel.dec (fun h3=>?_) (fun h3=>absurd h h3)
  refine⟨by decide,Sel.dec (fun h4=>?_) (fun h4=>?_)⟩
  ·exact⟨rfl,t3,fun f b g H' k s hn=>q f b _ g H' (.of t3 k) s (.inr hn) (fun _=>trivial) (fun e=>by omega)⟩
  ·exact⟨by decide,b0,D,_,rfl,by omega,by omega,t4,hb,hD,bD,fun f H' k s=>q f b0 _ _ H' (.of t4 k) s (.inl rfl) (fun _=>rfl) (fun _=>⟨rfl,rfl⟩)⟩
 ·refine Sel.no rfl ?_
  refine Sel.dec (fun h3=>absurd h3 h) (fun h3=>?_)
  refine Sel.no rfl ?_
  exact⟨by decide,b0,D,_,rfl,by omega,by omega,t4,hb,hD,bD,fun f H' k s=>q f b0 _ _ H' (.of t4 k) s (.inl rfl) (fun _=>rfl) (fun _=>⟨rfl,rfl⟩)⟩
theorem Stp.clo {H:Hp}{f b:Addr}{d:Kd}{g:gOp}{n:Nat}(s:Stp A H f b d g n):∃ts∈cN K A,∃cs cvs,dQ H f ts.1 cs cvs:=by
 cases s with
 |wri hc _ _ _=>exact⟨_,m0,_,_,hc⟩
 |cnt _ _ _ hc=>exact⟨_,mS m0,_,_,hc⟩
 |wea _ _ _ _ hc=>exact⟨_,mS (mS m0),_,_,hc⟩
 |pla _ _ _ _ _ _ _ _ _ hc=>exact⟨_,mS (mS (mS m0)),_,_,hc⟩
theorem jH.keep {H H':Hp}{D:Addr}{al:Option (List Key×List Key)}(h:jH H D al)(kd:∀xs,H D=some (.dT xs)->H' D=some (.dT xs))(kt:∀o xs,H o=some (.tup xs)->H' o=some (.tup xs)):jH H' D al:=by
 cases al with
 |none=>exact kd _ h
 |some r=>obtain⟨o,h1,h2,h3⟩:=h;exact⟨o,kd _ h1,kt _ _ h2,h3⟩
theorem jH.dict {H:Hp}{D:Addr}{al:Option (List Key×List Key)}(ha:jH H D al):∃kv,H D=some (.dT kv):=by
 cases al with
 |none=>exact⟨_,ha⟩
 |some r=>obtain⟨_,hD,_⟩:=ha;exact⟨_,hD⟩
theorem Stp.same {H H':Hp}{f b:Addr}{d:Kd}{g:List Key->Option Key}{n m:Nat}(s:Stp A H f b d g n)(hn:n<=m)(S:aA H H'):Stp A H' f b d g m:=by
 cases s with
 |wri hc hb hg ed=>exact .wri (hc.keep fun x φ e=>S _ _ e) hb hg ed
 |cnt q x kvs hc num hl hs st hg ed=>
  obtain⟨⟨dx,h1⟩,h2⟩:=num
  exact .cnt q x kvs (hc.keep fun x φ e=>S _ _ e) ⟨⟨dx,S _ _ h1⟩,S _ _ h2⟩ (KN hl hn) hs st hg ed
 |wea q m h1 h2 hc hb hg ed=>exact .wea q m h1 h2 (hc.keep fun x φ e=>S _ _ e) hb hg ed
 |pla q0 q1 q2 D j j0 j1 kvs al hc hb ha bD hl hs st hg ed=>exact .pla q0 q1 q2 D j j0 j1 kvs al (hc.keep fun x φ e=>S _ _ e) (S _ _ hb) (ha.keep (fun _ e=>S _ _ e) (fun _ _ e=>S _ _ e)) bD (KN hl hn) hs st hg ed
theorem cB {H:Hp}{f b p:Addr}{d:Kd}{g:List Key->Option Key}{n:Nat}{k:List Key}{R:VK}(s:Stp A H f b d g n)(hn:n<=45000)(hp:H p=some (.tup (k.map kV)))(ok:okT k=true)
  (q:∀(v:Key)(H':Hp)(g':List Key->Option Key),aO b H H'->Stp A H' f b d g' (n+1)->Sub g g'->g' k=some v->uI k v->R (kV v) H'):kF (cN K A) f [.ref p] H R E0:=by
 have s0:=s
 have hk:=(mB ok).1
 have ll:∀kvs:List (List Key×Key),(cM kvs).length=kvs.length:=fun kvs=>by simp[cM]
 cases s with
 |wri hc hb hg ed=>
  refine⟨_,m0,_,_,hc,rfl,p,k,rfl,hc.cells.hide hp (fun _ z=>nomatch z),ok,fun H' S=>?_⟩
  have S:=aA.hide _ S
  exact q (.inr (cg k)) _ g (aO.same S) (s0.same (MO _) S) Sub.rfl' (by rw[hg]) ⟨oi (dz ok),nQ (dz ok)⟩
 |wea c m h1 h2 hc hb hg ed=>
  refine⟨_,mS (mS m0),_,_,hc,rfl,p,m,k,rfl,h1,h2,hc.cells.hide hp (fun _ z=>nomatch z),ok,?_⟩
  have S:=aA.hide [c] (.refl (cJ [c] H))
  have r0:=MF (k.foldl mi k.length) (b:=m) (by omega)
  have r1:=Me (k.foldl mi k.length) (b:=m) (by omega)
  have p60:(9:Int)<10^60:=by decide+kernel
  exact q (tU m k) _ g (aO.same S) (s0.same (MO _) S) Sub.rfl' (by rw[hg]) (show 0<=_/\_<_ from⟨r0,by omega⟩)
 |cnt c x kvs hc num hl hs st hg ed=>
  have p60:(50000:Int)<10^60:=by decide+kernel
  refine⟨_,mS m0,_,_,hc,rfl,x,b,p,cM kvs,k,rfl,num.hide hc.cells,by rw[ll];omega,hc.cells.hide hp (fun _ z=>nomatch z),ok,fun H' S=>?_⟩
  obtain⟨dx,hx⟩:=num.ob
  obtain⟨kvs',v,H2,ev,eH,hb',keep,hl',hs',gv,sv,sub⟩:=qS k (.inl ((cM kvs).length:Int)) hs (show 0<=_/\_<_ from⟨by omega,by rw[ll];omega⟩) num.di hc.cells H' S
  rw[show V.int ((cM kvs).length:Int)=kV (.inl ((cM kvs).length:Int))from rfl,ev,eH]
  obtain⟨st',hl2⟩:=st.step (kk:=k) (by rw[show(1:Int)*(kvs.length:Int)+0=((cM kvs).length:Int)by rw[ll];omega];exact hl')
  refine q v H2 (cp kvs') (fun x o n e=>keep x o n e)
   (.cnt c x kvs' (hc.keep fun x φ e=>keep x _ (bN e num.di (fun z=>nomatch z)) e) ⟨⟨dx,keep _ _ (bN hx num.di (fun z=>nomatch z)) hx⟩,hb'⟩ (by omega) hs' st' rfl ed) ?_ gv (lD hk sv)
  rw[hg];exact sub
 |pla q0 q1 q2 D j j0 j1 kvs al hc hb ha bD hl hs st hg ed=>
  have p60:(50000000:Int)<10^60:=by decide+kernel
  have bd:0<=j*((cM kvs).length:Int)+5/\j*((cM kvs).length:Int)+5<10^60:=by
   rw[ll]
   have h1:j*(kvs.length:Int)<=1000*45000:=Int.mul_le_mul (by omega) (by omega) (by omega) (by decide)
   have h2:0<=j*(kvs.length:Int):=Int.mul_nonneg (by omega) (by omega)
   omega
  obtain⟨kvs',v,H2,ev,eH,hb',keep,hl',hs',gv,sv,sub⟩:=qS (alF al k) (.inl (j*((cM kvs).length:Int)+5)) hs bd hb hc.cells _ (.refl _)
  obtain⟨kD,hD⟩:=ha.dict
  refine⟨_,mS (mS (mS m0)),_,_,hc,rfl,p,b,D,j,k,cM kvs,al,rfl,by omega,j1,hc.cells.hide hp (fun _ z=>nomatch z),hc.cells.hide hb (fun _ z=>nomatch z),ha.keep (fun _ e=>hc.cells.hide e (fun _ z=>nomatch z)) (fun _ _ e=>hc.cells.hide e (fun _ z=>nomatch z)),by rw[ll];omega,?_⟩
  dsimp only
  rw[show V.int (j*((cM kvs).length:Int)+5)=kV (.inl (j*((cM kvs).length:Int)+5))from rfl,ev,eH]
  obtain⟨st',hl2⟩:=st.step (kk:=alF al k) (by rw[<-ll kvs];exact hl')
  refine q v H2 (fun k=>cp kvs' (alF al k)) (fun x o n e=>keep x o n e)
   (.pla q0 q1 q2 D j j0 j1 kvs' al (hc.keep fun x φ e=>keep x _ (bN e hb (fun z=>nomatch z)) e) hb' (ha.keep (fun _ e=>keep _ _ (Lj bD) e) (fun _ _ e=>keep _ _ (bN e hb (fun z=>nomatch z)) e)) bD (by omega) hs' st' rfl ed) ?_ gv (lD hk sv)
  rw[hg];exact fun k v e=>sub _ _ e
theorem vv {H:Hp}(x:Key):eB H (kV x) (mX x):=by
 cases x with
 |inl i=>exact .int i
 |inr z=>exact .str z
theorem ixL {K:pv}{H:Hp}{Q:VK}{a:Addr}{xs:List V}{x:V}{i:Int}{j:Nat}(ha:H a=some (.lst xs))(e:i=j)(hx:xs[j]?=some x)(q:Q x H):aG K (.ref a) (.int i) H Q:=by
 subst e
 refine .inl (.inl ⟨a,xs,j,x,rfl,rfl,SqL.of ha,?_,q⟩)
 have hj:=(Kr.mp hx).1
 rw[vm (by omega) (by omega)]
 simp[KA,hx]
theorem jz {e:Key}(h:okP e=true):gB (mX e)=true:=by
 cases e with
 |inl i=>exact h
 |inr z=>rfl
theorem GC:(Px " !\"#$&'()*+,-./0123456789:;<=>?@ABCDEFGHIJKLMNOPQRSTUVWXYZ[\\]^_`"+Px "abcdefghijklmnopqrstuvwxyz{|}~")<=1000000:=by decide+kernel
theorem wU:(sg1++sg2).length=94/\(sg1++sg2).cps.toList.length=94/\(sg1++sg2).cps.toList.all (·<128)=true:=by decide+kernel
theorem yj {zs:List Str}(h:∀z∈zs,cm z=true):cm (Txt.join "" zs)=true:=by
 rw[mY]
 induction zs with
 |nil=>decide+kernel
 |cons z r ih=>exact oj (h z KY) (ih fun y hy=>h y (KC _ hy))
theorem Dm (K:pv)(A:Adr):Ln (jP K A) 1:=by rintro vs H Q E ⟨i,rfl,_⟩;rfl
theorem Ib (T:Txt K mg A):Rd (jP K A) (JE K A) ["thing"]:=by
 intro vs H Q E h
 obtain⟨i,rfl,h0,h1,q⟩:=h
 refine⟨_,_,rfl,.int i,Sel.t (Sel.yes (decide_eq_true h0) ⟨by decide,?_⟩)⟩
 have e:decide (i<1*2^(60:Int).toNat)=true:=decide_eq_true (by show i<1*2^60;omega)
 show Q (.bl (decide (i<1*2^(60:Int).toNat))) H
 rw[e];exact q
theorem Gk (K:pv)(A:Adr):Ln (dU K A) 2:=by rintro vs H Q E ⟨a,ns,k,rfl,_⟩;rfl
theorem IB (T:Txt K mg A):Rd (dU K A) (T_3 K A) ["_law_script","_law_k"]:=by
 intro vs H Q E h
 obtain⟨a,ns,k,rfl,hs,h0,q⟩:=h
 refine .inl (.inl ⟨_,hs,Sel.dec (fun h=>?_) (fun h=>q 0)⟩)
 obtain⟨v,hv⟩:=CJ h0 h
 obtain⟨j,_,hj,_⟩:=jY hv
 obtain⟨z,_,rfl⟩:=fX hj
 exact .inl (.inl ⟨a,_,k,_,rfl,rfl,hs,hv,q z⟩)
theorem eR {K:pv}{H:Hp}{Q:VK}{L:Addr}{qs:List V}{p:V}(hL:H L=some (.lst (qs++[p])))(q:Q p H):aG K (.ref L) (.int (-1)) H Q:=
 .inl (.inl ⟨L,_,-1,p,rfl,rfl,SqL.of hL,zb _ _,q⟩)
theorem gD {w:Str}{r:List Key}(hw:okP (.inr w)=true)(hr:∀x∈r,okP x=true)(hl:r.length<=7):okT (.inr w::r)=true:=by
 show(decide (1<=r.length+1/\r.length+1<=8)&&true&&(okP (.inr w)&&r.all okP))=true
 rw[hw,LD.mpr hr,decide_eq_true (by omega)];rfl
theorem eW {k:List Key}{v:Key}(h:uI k v):szK v<=szT k+62:=by
 cases v with
 |inl i=>exact Nat.le_add_left _ _
 |inr z=>exact RB h.2 _
theorem dg {k:List Key}{v:Key}(h:uI k v)(hs:szT k<=2000000):okP v=true:=by
 cases v with
 |inl i=>exact decide_eq_true h
 |inr z=>
  show(cm z&&decide (z.length<=2000000))=true
  rw[h.1,decide_eq_true (KN h.2 hs)];rfl
theorem okW:okP (.inr "void")=true/\okP (.inr "entry")=true/\okP (.inr "joint")=true/\okP (.inr "row")=true:=by decide+kernel
theorem szW:szK (.inr "void")=66/\szK (.inr "entry")=67/\szK (.inr "joint")=67/\szK (.inr "row")=65:=by decide+kernel
theorem sz1 (x:Key):szT [x]=szK x:=by simp[szT]
theorem sz2 (x y:Key):szT [x,y]=szK x+szK y:=by simp[szT]
theorem sz3 (x y z:Key):szT [x,y,z]=szK x+(szK y+szK z):=by simp[szT]
theorem gN {e:Key}(h:okP e=true):okT [.inr "entry",e]=true:=gD okW.2.1 (fun x hx=>by rw[Ky.mp hx];exact h) (show 1<=7 by decide)
theorem fG {x y:Key}(hx:okP x=true)(hy:okP y=true):okT [.inr "joint",x,y]=true:=gD okW.2.2.1 (fun z hz=>by
 rcases KD.mp hz with h|h
 ·rw[h];exact hx
 ·rw[Ky.mp h];exact hy) (show 2<=7 by decide)
theorem bO {m:Nat}(h:2<=m):aq m<m:=by
 have:=PD (n:=m- 1) (by omega)
 unfold aq;omega
theorem bX {m:Nat}(h:2<=m):m<=2*aq m:=by
 have:=Nat.lt_log2_self (n:=m- 1)
 unfold aq;rw[Nat.pow_succ]at this;omega
theorem dB (m:Nat):0<aq m:=Nat.two_pow_pos _
theorem nF {m e:Nat}(h:2<=m)(he:m<=2^e):∃k,aq m=2^k/\k<e:=by
 refine⟨Ov (m- 1),rfl,?_⟩
 have h1:=PD (n:=m- 1) (by omega)
 exact(Qw (by decide:1<2)).mp (by omega:2^Ov (m- 1)<2^e)
theorem cj {m e:Nat}(h:2<=m)(he:m<=2^(e+1)):aq m<=2^e:=by
 obtain⟨k,e1,hk⟩:=nF h he
 rw[e1];exact Mh (by decide) (by omega)
theorem Dt (K:pv)(A:Adr):Ln (kf K A) 1:=by rintro vs H Q E ⟨m,rfl,_⟩;rfl
theorem Ao (T:Txt K mg A)(vs:List V)(H:Hp)(Q:VK)(E:XK)(h:kf K A vs H Q E):Kk K A {nx:=fun _ H'=>Q .non H',rt:=Q} (start ["many"] vs) H:=by
 obtain⟨m,rfl,h2,h60,q⟩:=h
 obtain⟨k,ek,hk⟩:=nF h2 h60
 have e:(Mf ((m:Int)- 1):Int)- 1=((Ov (m- 1):Nat):Int):=by
  unfold Mf
  rw[if_neg (by simp;omega)]
  have:((m:Int)- 1).natAbs=m- 1:=by omega
  rw[this];omega
 have hl:Ov (m- 1)<60:=by
  have h1:=PD (n:=m- 1) (by omega)
  exact(Qw (by decide:1<2)).mp (by omega:2^Ov (m- 1)<2^60)
 refine⟨rfl,?_⟩
 show((0<=(Mf ((m:Int)- 1):Int)- 1/\_/\_)/\Q (.int (1*2^((Mf ((m:Int)- 1):Int)- 1).toNat)) H)
 rw[e]
 refine⟨⟨by omega,by omega,by decide⟩,?_⟩
 rw[Int.one_mul,Nx,<-Ac]
 exact q
theorem DH (K:pv)(A:Adr):Ln (kA K A) 3:=by rintro vs H Q E ⟨t,o,a,rfl,_⟩;rfl
theorem GB (T:Txt K mg A):Rd (kA K A) (Kg K A) ["turn","own","aside"]:=by
 intro vs H Q E h
 obtain⟨t,o,a,rfl,q⟩:=h
 unfold jtT at q
 refine Sel.dec (fun h=>⟨aQ (show 3<=1000000 by decide),fun p hp=>?_⟩) (fun h=>⟨aQ (show 3<=1000000 by decide),fun p hp=>?_⟩)
 ·rw[if_pos h]at q;exact q p hp
 ·rw[if_neg h]at q;exact q p hp
theorem BE (K:pv)(A:Adr):Ln (pA K A) 1:=by rintro vs H Q E ⟨p,c,v,rfl,_⟩;rfl
theorem FH (T:Txt K mg A):Rd (pA K A) (JV K A) ["thing"]:=by
 intro vs H Q E h
 obtain⟨p,c,v,rfl,hp,hc,okv,q⟩:=h
 have ty:tyN H (.ref p)=some "tuple":=by unfold tyN;dsimp only;rw[hp]
 refine⟨by decide,"tuple",ty,Sel.t (.inl (.inr (.inl ⟨_,SqT.of hp,Sel.t (ixT (j:=0) hp rfl rfl ⟨c,rfl,by omega,by omega,Sel.t (ixT (j:=1) hp rfl rfl ⟨_,_,rfl,vv v,?_⟩)⟩)⟩)))⟩
 rw[jz okv];exact q
theorem CQ (K:pv)(A:Adr):Ln (lP K A) 1:=by rintro vs H Q E ⟨p,c,v,rfl,_⟩;rfl
theorem Hx (T:Txt K mg A):Rd (lP K A) (ID K A) ["thing"]:=by
 intro vs H Q E h
 obtain⟨p,c,v,rfl,hp,hc,okv,q⟩:=h
 exact⟨p,c,v,rfl,hp,hc,okv,Sel.no rfl q⟩
theorem BS (K:pv)(A:Adr):Ln (lF K A) 2:=by rintro vs H Q E ⟨p,ks,rfl,_⟩;rfl
theorem Fx (T:Txt K mg A):Rd (lF K A) (JU K A) ["many","thing"]:=by
 intro vs H Q E h
 obtain⟨p,k,rfl,hp,ok,l5,q⟩:=h
 have ty:tyN H (.ref p)=some "tuple":=by unfold tyN;dsimp only;rw[hp]
 have hml:(k.map kV).length=k.length:=by simp
 refine⟨by decide,"tuple",ty,Sel.t (.inl (.inr (.inl ⟨_,SqT.of hp,?_⟩)))⟩
 rw[hml]
 refine Sel.dec (fun _=>?_) (fun h=>absurd rfl h)
 refine⟨p,rfl,.inr ⟨⟨_,SqT.of hp⟩,fun D hD=>?_⟩⟩
 have hne:p≠D:=aI hp hD
 refine ft (da.tuple (xs:=k.map kV) .non) (fun i ys H2=>ys=(k.take i).map (fun x=>V.bl true)/\H2=upd H D (.lst ys)) (fun i ys H2 hi ⟨_,e2⟩=>?_) ⟨rfl,rfl⟩ (fun i ys H2 hi ⟨e1,e2⟩=>?_) (fun ys H2 ⟨e1,e2⟩=>?_)
 ·rw[e2];exact SqT.of (by rw[aC hne];exact hp)
 ·subst e2
  have hi':i<k.length:=by omega
  obtain⟨x,hx⟩:∃x,k[i]?=some x:=⟨_,If hi'⟩
  have hg:(k.map kV).getD i .non=kV x:=by rw[KA,KL,hx];rfl
  rw[hg]
  have hs:=jz (ok x (KJ hx))
  refine mO ⟨_,mX x,rfl,ve _ x,?_⟩
  rw[hs]
  have hyl:ys.length=i:=by rw[e1,pz,Mu];omega
  refine⟨au,by rw[hyl];exact bn (by omega),CWd.next hi ⟨?_,dm⟩⟩
  rw[e1,Pd,Kq,hx];rfl
 ·subst e2
  refine⟨D,k.map fun _=>true,rfl,by rw[au,e1,hml,NA,Pp];rfl,?_⟩
  have:(k.map fun _=>true).all id=true:=by simp
  rw[this];exact q _ (aA.upd hD)
section
variable {K:pv}{mg:Str->Option tx}{A:Adr}
theorem Ext.refl' (g:gOp):Ext g (fun k=>(g k).getD (.inl 0)):=fun k v e=>by show(g k).getD _=v;rw[e];rfl
theorem okC {c:Nat}(h:c<2^60):okP (.inl (c:Int))=true:=by
 have p60:(2:Int)^60<10^60:=by decide+kernel
 have k:∀i:Int,0<=i->i<10^60->okP (.inl i)=true:=fun i h0 h1=>decide_eq_true ⟨h0,h1⟩
 exact k _ (by omega) (by omega)
theorem Aj {t:Int}{v a:Key}(hv:okP v=true)(ha:okP a=true):okT (jtT t v a)=true:=by
 unfold jtT;split
 ·exact fG hv ha
 ·exact fG ha hv
theorem zV {t:Int}{v a:Key}:szT (jtT t v a)=67+szK v+szK a:=by
 unfold jtT;split
 ·rw[sz3,szW.2.2.1];omega
 ·rw[sz3,szW.2.2.1];omega
theorem vx {c:Nat}{st:List (Int×Key)}{i B:Nat}{v:Key}(hc:c<2^60)(hm:∀x∈st,enK x.2)(ov:okP v=true)(sv:szK v<=B+62):okT (bM c st i v)=true/\szT (bM c st i v)<=B+24150:=by
 unfold bM
 cases e:st[i]? with
 |some x=>
  have hx:=hm x (KJ e)
  exact⟨Aj ov hx.1,by rw[zV];have:=hx.2;omega⟩
 |none=>
  refine⟨gD okW.2.2.2 (fun z hz=>?_) (show 2<=7 by decide),?_⟩
  ·rcases KD.mp hz with rfl|hz
   ·exact okC hc
   ·rw[Ky.mp hz];exact ov
  ·show szT [.inr "row",.inl (c:Int),v]<=_
   rw[sz3,szW.2.2.2];show 65+(62+szK v)<=_;omega
theorem Eg {t:Int}{v v' a a':Key}(h:jtT t v a=jtT t v' a'):v=v'/\a=a':=by
 unfold jtT at h
 split at h
 ·cases h;exact⟨rfl,rfl⟩
 ·cases h;exact⟨rfl,rfl⟩
theorem dy {ts:List Int}{ks:List Key}(h:ks.length=ts.length):(stR ts ks).length=ts.length:=by unfold stR;simp[Mq,h]
theorem mK {ts:List Int}{ks:List Key}{x:Int×Key}(h:x∈stR ts ks):x.1∈ts/\x.2∈ks:=by
 unfold stR at h
 rw[Pr]at h
 obtain⟨a,b⟩:=x
 exact⟨(Mp h).1,(Mp h).2⟩
theorem AC {ts:List Int}{ks:List Key}(h:ks.length=ts.length){i:Nat}(hi:i<ts.length):∃t k,ts[ts.length- 1- i]?=some t/\ks[ts.length- 1- i]?=some k/\(stR ts ks)[i]?=some (t,k):=by
 refine⟨ts[ts.length- 1- i]'(by omega),ks[ts.length- 1- i]'(by omega),If (by omega),If (by omega),?_⟩
 unfold stR
 rw[LX (by rw[Mq];omega)]
 have e:(ts.zip ks).length- 1- i=ts.length- 1- i:=by rw[Mq];omega
 rw[e,If (by rw[Mq];omega),Sz]
variable {A:Adr}
theorem Stp.bb {H:Hp}{f b:Addr}{d:Kd}{g:gOp}{n:Nat}(s:Stp A H f b d g n):(∃φ,H b=some (.ext φ))\/∃kvs,H b=some (.dT kvs):=by
 cases s with
 |wri hc hb hg=>obtain⟨c,h1,_⟩:=hc.ex;exact .inl ⟨_,by rw[hb];exact h1⟩
 |cnt q x kvs hc num=>exact .inr ⟨_,num.di⟩
 |wea q m h1 h2 hc hb hg=>obtain⟨c,h1,_⟩:=hc.ex;exact .inl ⟨_,by rw[hb];exact h1⟩
 |pla q0 q1 q2 D j j0 j1 kvs al hc hb=>exact .inr ⟨_,hb⟩
theorem Stp.nb {H:Hp}{f b z:Addr}{d:Kd}{g:gOp}{n:Nat}{o:HO}(s:Stp A H f b d g n)(h:H z=some o)(h1:∀φ,o≠.ext φ)(h2:∀kvs,o≠.dT kvs):z≠b:=fun e=>by
 subst e
 rcases s.bb with⟨φ,e⟩|⟨kvs,e⟩
 ·rw[h]at e;exact h1 _ (KG e)
 ·rw[h]at e;exact h2 _ (KG e)
theorem Stp.setL {H:Hp}{f b L:Addr}{d:Kd}{g:List Key->Option Key}{n:Nat}{xs:List V}{o:HO}(s:Stp A H f b d g n)(hL:H L=some (.lst xs)):Stp A (upd H L o) f b d g n:=by
 have kx:∀z (u:HO),H z=some u->(∀xs,u≠.lst xs)->upd H L o z=some u:=fun z u e hu=>by rw[aC (bN e hL (hu _))];exact e
 cases s with
 |wri hc hb hg ed=>exact .wri (hc.keep fun x φ e=>kx _ _ e (fun _ z=>nomatch z)) hb hg ed
 |cnt q x kvs hc num hl hs st hg ed=>
  obtain⟨⟨dx,h1⟩,h2⟩:=num
  exact .cnt q x kvs (hc.keep fun x φ e=>kx _ _ e (fun _ z=>nomatch z)) ⟨⟨dx,kx _ _ h1 (fun _ z=>nomatch z)⟩,kx _ _ h2 (fun _ z=>nomatch z)⟩ hl hs st hg ed
 |wea q m h1 h2 hc hb hg ed=>exact .wea q m h1 h2 (hc.keep fun x φ e=>kx _ _ e (fun _ z=>nomatch z)) hb hg ed
 |pla q0 q1 q2 D j j0 j1 kvs al hc hb ha bD hl hs st hg ed=>exact .pla q0 q1 q2 D j j0 j1 kvs al (hc.keep fun x φ e=>kx _ _ e (fun _ z=>nomatch z)) (kx _ _ hb (fun _ z=>nomatch z)) (ha.keep (fun _ e=>kx _ _ e (fun _ z=>nomatch z)) (fun _ _ e=>kx _ _ e (fun _ z=>nomatch z))) bD hl hs st hg ed
end
theorem PK.keep {H H':Hp}{ps:List Addr}{tt:List (List Key)}(h:PK H ps tt)(k:∀x xs,H x=some (.tup xs)->H' x=some (.tup xs)):PK H' ps tt:=Paired.mapP h fun p t ⟨h1,h2⟩=>⟨k _ _ h1,h2⟩
theorem dJ {α β:Type}{F:α->β->Prop}:∀{l₁:List α}{l₂:List β}{a:α}{b:β},Paired F l₁ l₂->F a b->Paired F (l₁++[a]) (l₂++[b])
 |_,_,_,_,.nil,h=>.cons h .nil
 |_,_,_,_,.cons r t,h=>.cons r (dJ t h)
theorem aO.tup {H H':Hp}{f b:Addr}{d:Kd}{g:gOp}{n:Nat}(s:Stp A H f b d g n)(k:aO b H H'):∀x xs,H x=some (.tup xs)->H' x=some (.tup xs):=fun x xs e=>k _ _ (s.nb e (fun _ z=>nomatch z) (fun _ z=>nomatch z)) e
theorem iA {H:Hp}{p:Addr}{t:List Key}:∀{ps:List Addr}{tt:List (List Key)},ps.length=tt.length->PK H (ps++[p]) (tt++[t])->H p=some (.tup (t.map kV))/\okT t=true
 |[],[],_,.cons h _=>h
 |_::_,_::_,hl,.cons _ r=>iA (Nat.succ.inj hl) r
 |[],_::_,hl,_=>nomatch hl
 |_::_,[],hl,_=>nomatch hl
theorem gf {H:Hp}{p:Addr}{t:List Key}{ps:List Addr}{tt:List (List Key)}(h:PK H (ps++[p]) (tt++[t])):ps.length=tt.length:=by
 have:=cT h
 simp at this;exact this
theorem ixB {K:pv}{H:Hp}{Q:VK}{a:Addr}{xs:List V}{x:V}{i:Nat}(ha:H a=some (.lst xs))(hi:i<xs.length)(hx:xs[xs.length- 1- i]?=some x)(q:Q x H):aG K (.ref a) (.int (-1- (i:Int))) H Q:=by
 refine .inl (.inl ⟨a,xs,-1- (i:Int),x,rfl,rfl,SqL.of ha,?_,q⟩)
 unfold atI L2.ixN
 rw[if_neg (by omega),if_pos (by omega)]
 show xs[(-1- (i:Int)+(xs.length:Int)).toNat]?=_
 have:(-1- (i:Int)+(xs.length:Int)).toNat=xs.length- 1- i:=by omega
 rw[this];exact hx
theorem JB {K:pv}{H:Hp}{Q:VK}{a:Addr}{xs:List V}{x:V}{i:Nat}(ha:H a=some (.tup xs))(hi:i<xs.length)(hx:xs[xs.length- 1- i]?=some x)(q:Q x H):aG K (.ref a) (.int (-1- (i:Int))) H Q:=by
 refine .inl (.inr (.inl ⟨a,xs,-1- (i:Int),x,rfl,rfl,SqT.of ha,?_,q⟩))
 unfold atI L2.ixN
 rw[if_neg (by omega),if_pos (by omega)]
 show xs[(-1- (i:Int)+(xs.length:Int)).toNat]?=_
 have:(-1- (i:Int)+(xs.length:Int)).toNat=xs.length- 1- i:=by omega
 rw[this];exact hx
theorem qg.last {tt:List (List Key)}{m:Nat}(h:tt.length=m+1):∃r t,tt=r++[t]:=by
 cases e:tt.reverse with
 |nil=>have:=congrArg PP e;rw[LS,h]at this;simp at this
 |cons x r=>exact⟨r.reverse,x,by rw[<-Ro tt,e,Mn]⟩
theorem li {H:Hp}{ps:List Addr}{r:List (List Key)}{t:List Key}(h:PK H ps (r++[t])):∃qs p,ps=qs++[p]/\PK H (qs++[p]) (r++[t]):=by
 have hl:=cT h
 cases e:ps.reverse with
 |nil=>have:=congrArg PP e;rw[LS,hl]at this;simp at this
 |cons x q=>
  have e2:ps=q.reverse++[x]:=by rw[<-Ro ps,e,Mn]
  exact⟨_,_,e2,by rw[<-e2];exact h⟩
theorem HH (K:pv)(A:Adr):Ln (ql K A) 3:=by rintro vs H Q E ⟨a,x,y,rfl,_⟩;rfl
theorem JT (T:Txt K mg A):Rd (ql K A) (T_0 K A) ["self","due","came"]:=by
 intro vs H Q E h
 obtain⟨a,x,y,rfl,ha,q⟩:=h
 refine⟨a,rfl,T.ef_Broken_due,.inl ⟨ha,fun dx hdx ne=>?_⟩⟩
 refine⟨a,rfl,T.ef_Broken_came,.inr ⟨dx,_,by rw[aC (Lj ne)];exact au,au,ne,by show 1<1000;decide,?_⟩⟩
 exact q dx hdx
theorem nG {K:pv}{H:Hp}{Q:VK}{a b:Key}(q:Q (.bl (!decide (a=b))) H):gn K (kV a) (kV b) H Q:=by
 cases a<;>cases b
 ·rename_i i j
  have e:decide ((Nb i:Key)=Nb j)=decide (i=j):=by simp
  rw[e]at q;exact q
 ·have e:∀(i:Int)(j:Str),decide ((Nb i:Key)=MW j)=false:=by simp
  rw[e]at q;exact q
 ·have e:∀(i:Int)(j:Str),decide ((MW j:Key)=Nb i)=false:=by simp
  rw[e]at q;exact q
 ·rename_i i j
  have e:decide ((MW i:Key)=MW j)=decide (i=j):=by simp
  rw[e]at q;exact q
theorem nX (xs:List V)(j:Nat)(hj:j<=xs.length):dX xs none (some (j:Int))=xs.take j:=by
 unfold dX
 rw[HT.rY,HT.kT,OB,LN,Ta hj]
theorem qu (xs:List V)(j:Nat)(hj:j<=xs.length):dX xs (some (j:Int)) none=xs.drop j:=by
 unfold dX
 rw[HT.rY,HT.kT,Ta hj,QN (by rw[Oc];omega)]
theorem El (K:pv)(A:Adr):Ln (jK K A) 1:=by rintro vs H Q E ⟨m,rfl,_⟩;rfl
theorem EB (K:pv)(A:Adr):Ln (mf K A) 4:=by rintro vs H Q E ⟨f,b,D,o1,o2,k1,k2,g,n,rfl,_⟩;rfl
theorem Hu (T:Txt K mg A):Rd (mf K A) (IE K A) ["_law_known","_law_alias","_law_new","_law_old"]:=by
 intro vs H Q E h
 obtain⟨f,b,D,o1,o2,k1,k2,g,n,rfl,s,hn,h1,h2,ok1,ok2,q⟩:=h
 have s0:=s
 cases s with
 |wri _ _ _ ed=>cases ed
 |cnt _ _ _ _ _ _ _ _ _ ed=>cases ed
 |wea _ _ _ _ _ _ _ ed=>cases ed
 |pla q0 q1 q2 D' j j0 j1 kvs al hc hb ha bD hl hs st hg ed=>
  obtain⟨rfl,rfl⟩:D=D'/\none=al:=by cases ed;exact⟨rfl,rfl⟩
  have hD:H D=some (.dT []):=ha
  refine .inl ⟨b,_,rfl,dc.t hb h1,?_⟩
  cases e:cp kvs k1 with
  |some v=>
   rw[jU,e]
   exact Sel.no rfl (q none g H (fun x o _ e=>e) s0 Sub.rfl')
  |none=>
   rw[jU,e]
   refine Sel.yes rfl (.inr ⟨D,upd H D (.dT (cv [] k1 (.ref o2))),rfl,.inr ⟨[],k1,o1,hD,rfl,h1,by decide,rfl⟩,?_⟩)
   have kx:∀z (u:HO),z≠D->H z=some u->upd H D (.dT (cv [] k1 (.ref o2))) z=some u:=fun z u nz ez=>by rw[aC nz];exact ez
   refine q (some (k1,k2)) (fun k=>cp kvs (alF (some (k1,k2)) k)) _ (fun x o n e=>kx x o n e) (.pla q0 q1 q2 D j j0 j1 kvs (some (k1,k2)) (hc.keep fun x φ e=>kx _ _ (bN e hD (fun z=>nomatch z)) e) (kx _ _ bD hb) ⟨o2,au,kx _ _ (bN h2 hD (fun z=>nomatch z)) h2,ok2⟩ bD hl hs st rfl rfl) fun k v gk=>?_
   rw[hg]at gk
   have gk:cp kvs k=some v:=gk
   show cp kvs (if k=k1 then k2 else k)=some v
   rw[if_neg (fun z=>by rw[z,e]at gk;cases gk)];exact gk
theorem xE {α:Type}{ks:List α}{a:α}:∀(j:Nat),ks[j]? =some a->∃j0,j0<=j/\ks[j0]? =some a/\∀j',j'<j0->ks[j']? ≠some a:=by
 intro j
 induction j using Nat.strongRecOn with
 |ind j ih=>
  intro h
  by_cases e:∃j',j'<j/\ks[j']? =some a
  ·obtain⟨j',h1,h2⟩:=e
   obtain⟨j0,h3,h4,h5⟩:=ih j' h1 h2
   exact⟨j0,by omega,h4,h5⟩
  ·exact⟨j,Gt _,h,fun j' h1 h2=>e ⟨j',h1,h2⟩⟩
theorem fY {k:List Key}(h:okT k=true):k.all gI=true:=by
 rw[LD]
 intro x hx
 have:=kE h hx
 cases x with
 |inl i=>rfl
 |inr z=>exact vb (Ku.mp this).1
theorem GL {H:Hp}{ps:List Addr}{ts:List (List Key)}(h:PK H ps ts):∀{i:Nat}{p:Addr},ps[i]? =some p->∃t,ts[i]? =some t/\H p=some (.tup (t.map kV))/\okT t=true:=by
 induction h with
 |nil=>intro i t e;cases e
 |cons r _ ih=>
  intro i t e
  cases i with
  |zero=>cases e;exact⟨_,rfl,r⟩
  |succ i=>exact ih e
theorem Stp.keep {H H':Hp}{f b:Addr}{d:Kd}{g:List Key->Option Key}{n m:Nat}(s:Stp A H f b d g n)(hn:n<=m)(k:∀z o,H z=some o->(∀xs,o≠.dK xs)->(∀xs,o≠.lst xs)->H' z=some o):Stp A H' f b d g m:=by
 have kx:∀z φ,H z=some (.ext φ)->H' z=some (.ext φ):=fun z φ e=>k z _ e (fun _ z=>nomatch z) (fun _ z=>nomatch z)
 have kd:∀z xs,H z=some (.dT xs)->H' z=some (.dT xs):=fun z φ e=>k z _ e (fun _ z=>nomatch z) (fun _ z=>nomatch z)
 cases s with
 |wri hc hb hg ed=>exact .wri (hc.keep kx) hb hg ed
 |cnt q x kvs hc num hl hs st hg ed=>
  obtain⟨⟨dx,h1⟩,h2⟩:=num
  exact .cnt q x kvs (hc.keep kx) ⟨⟨dx,k _ _ h1 (fun _ z=>nomatch z) (fun _ z=>nomatch z)⟩,kd _ _ h2⟩ (KN hl hn) hs st hg ed
 |wea q m h1 h2 hc hb hg ed=>exact .wea q m h1 h2 (hc.keep kx) hb hg ed
 |pla q0 q1 q2 D j j0 j1 kvs al hc hb ha bD hl hs st hg ed=>exact .pla q0 q1 q2 D j j0 j1 kvs al (hc.keep kx) (kd _ _ hb) (ha.keep (fun _ e=>kd _ _ e) (fun _ _ e=>k _ _ e (fun _ z=>nomatch z) (fun _ z=>nomatch z))) bD (KN hl hn) hs st hg ed
theorem aO.obj {H H':Hp}{b x:Addr}{o:HO}(k:aO b H H')(hb:(∃φ,H b=some (.ext φ))\/∃kvs,H b=some (.dT kvs))(e:H x=some o)(h:∀kvs,o≠.dT kvs)(h2:∀φ,o≠.ext φ:=by intro _ z;cases z):H' x=some o:=k _ _ (fun z=>by
 subst z
 rcases hb with⟨φ,hb⟩|⟨kvs,hb⟩
 ·rw[e]at hb;exact h2 _ (KG hb)
 ·rw[e]at hb;exact h _ (KG hb)) e
theorem Er (K:pv)(A:Adr):Ln (ph K A) 2:=by rintro vs H Q E ⟨f,bb,L,dd,ps,ks,g,n,rfl,_⟩;rfl
theorem FL (T:Txt K mg A):Rd (ph K A) (IA K A) ["stamper","terms","firsts","term","ahead"]:=by
 intro vs H Q E h
 obtain⟨f,bb,L,dd,ps,ks,g,n,rfl,s,hL,pk,hk9,hn,q⟩:=h
 have sdd:=s.bb
 have pl:=cT pk
 refine .inl fun d hd=>?_
 have S0:=aA.upd (o:=.dK []) hd
 refine⟨L,rfl,.inl ⟨⟨_,SqL.of (S0 _ _ hL)⟩,?_⟩⟩
 have noc:∀(i:Nat)(H':Hp)(g':List Key->Option Key)(kvs:List (Key×V)),(∀j a,j<i->ks[j]? =some a->∃v p,g' a=some v/\bH kvs v=some (.ref p)/\H' p=some (.tup (a.map kV)))->∀(h:List Key->Key),Ext g' h->∀(j k:Nat) a b,j<k->k<i->ks[j]? =some a->ks[k]? =some b->h a=h b->a=b:=by
  intro i H' g' kvs I1 h hh j k a b h1 h2 h3 h4 h5
  obtain⟨v,p,e1,e2,e3⟩:=I1 j a (by omega) h3
  obtain⟨v',p',e1',e2',e3'⟩:=I1 k b h2 h4
  have:v=v':=by rw[hh _ _ e1,hh _ _ e1']at h5;exact h5
  subst this
  rw[e2]at e2';cases e2'
  rw[e3]at e3'
  injection e3' with e;injection e with e
  exact iB e
 refine iM (xs:=ps.map V.ref) (fun i σ H'=>∃x3 x4 g' kvs,σ=[some (.ref f),some (.ref L),some (.ref d),x3,x4]/\aO bb H H'/\Stp A H' f bb dd g' (n+i)/\Sub g g'/\H' d=some (.dK kvs)/\kvs.length<=i/\
   (∀j a,j<i->ks[j]? =some a->∃v p,g' a=some v/\bH kvs v=some (.ref p)/\H' p=some (.tup (a.map kV)))/\
   ∀v x,bH kvs v=some x->∃j a p,j<i/\ks[j]? =some a/\x=.ref p/\H' p=some (.tup (a.map kV))/\okT a=true/\g' a=some v)
  ⟨none,none,g,[],rfl,aO.same S0,s.same (Gt _) S0,fun _ _ e=>e,au,Gt _,fun j a hj=>by omega,fun v x e=>by cases e⟩ ?_ ?_ ?_
 ·rintro i σ H' _ ⟨x3,x4,g',kvs,rfl,kp,_⟩;exact SqL.of (kp.obj sdd hL (fun _ z=>nomatch z))
 ·rintro i x σ H' hx ⟨x3,x4,g',kvs,rfl,kp,s',sub,hd',hl,I1,I2⟩
  obtain⟨p,hp,rfl⟩:=fX hx
  obtain⟨k,hk,hpk,ok⟩:=GL pk hp
  have hi:i<ks.length:=(Kr.mp hk).1
  refine⟨.inr (.inr (.inl ⟨rfl,.inl ⟨_,hd'⟩⟩)),f,rfl,s'.clo,tc1 rfl (cB s' (by omega) (kp.obj sdd hpk (fun _ z=>nomatch z)) ok fun v H3 g3 k3 s3 sub3 gv _=>tc1 rfl ?_)⟩
  have hp3:H3 p=some (.tup (k.map kV)):=k3.obj s'.bb (kp.obj sdd hpk (fun _ z=>nomatch z)) (fun _ z=>nomatch z)
  have hd3:=k3.obj s'.bb hd' (fun _ z=>nomatch z)
  have J1:∀j a,j<i->ks[j]? =some a->∃v p,g3 a=some v/\bH kvs v=some (.ref p)/\H3 p=some (.tup (a.map kV)):=fun j a hj e=>by
   obtain⟨v,p,e1,e2,e3⟩:=I1 j a hj e
   exact⟨v,p,sub3 _ _ e1,e2,k3.obj s'.bb e3 (fun _ z=>nomatch z)⟩
  have J2:∀v x,bH kvs v=some x->∃j a p,j<i/\ks[j]? =some a/\x=.ref p/\H3 p=some (.tup (a.map kV))/\okT a=true/\g3 a=some v:=fun v x e=>by
   obtain⟨j,a,p,e1,e2,e3,e4,e5,e6⟩:=I2 v x e
   exact⟨j,a,p,e1,e2,e3,k3.obj s'.bb e4 (fun _ z=>nomatch z),e5,sub3 _ _ e6⟩
  have kp3:=kp.trans k3
  have sub':Sub g g3:=fun a b e=>sub3 a b (sub a b e)
  have gd:=dc.k (k:=v) hd3
  cases ev:bH kvs v with
  |some x=>
   rw[ev]at gd
   obtain⟨j0,a0,p0,hj0,ha0,rfl,hp0,ok0,g0⟩:=J2 v x ev
   refine⟨d,kV v,.ref p,.ref p0,H3,rfl,rfl,.inl ⟨gd,rfl⟩,?_⟩
   refine⟨_,_,dW hp0,dW hp3,bZ (fY ok0),bZ (fY ok),yr _,Sel.mk (fun t=>?_) (fun t=>?_)⟩
   ·have ne:=vp t
    refine⟨aQ (n:=2) (by decide),fun r hr=>?_⟩
    have S:=aA.upd (o:=.tup [V.ref p0,V.ref p]) hr
    refine q _ _ g3 (some (a0,k)) (kp3.trans (aO.same S)) (s3.same (by omega) S) sub' ⟨r,p0,p,rfl,au,S _ _ hp0,S _ _ hp3,ok0,ok⟩ (fun h hh=>?_)
    obtain⟨j1,hj1,hb1,hmin⟩:=xE j0 ha0
    refine⟨j1,i,by omega,hb1,hk,ne,by rw[hh _ _ g0,hh _ _ gv],noc i H3 g3 kvs J1 h hh,fun j' a hj' ha he=>?_⟩
    obtain⟨v1,p1,e1,e2,e3⟩:=J1 j' a (by omega) ha
    have:v1=v:=by rw[hh _ _ e1,hh _ _ gv]at he;exact he
    subst this
    rw[ev]at e2;cases e2
    rw[hp0]at e3
    injection e3 with e;injection e with e
    have:=iB e
    subst this
    exact(hmin j' hj' ha).elim
   ·have e:=Eb t
    subst e
    refine⟨_,_,g3,kvs,rfl,kp3,s3,sub',hd3,by omega,fun j a hj ha=>?_,fun w x e=>?_⟩
    ·by_cases e:j=i
     ·subst e;rw[hk]at ha;cases ha
      exact⟨v,p0,gv,ev,hp0⟩
     ·exact J1 j a (by omega) ha
    ·obtain⟨j,a,r,e1,e2⟩:=J2 w x e
     exact⟨j,a,r,by omega,e2⟩
  |none=>
   rw[ev]at gd
   refine⟨d,kV v,.ref p,.ref p,upd H3 d (.dK (cv kvs v (.ref p))),rfl,rfl,.inr ⟨gd,ng.k hd3 (LA hl (aQ (n:=i+1) (by omega))),rfl⟩,?_⟩
   have dn:∀b o,H3 b=some o->(∀kvs,o≠.dK kvs)->upd H3 d (.dK (cv kvs v (.ref p))) b=some o:=fun b o e nd=>by rw[aC (fun z=>by subst z;rw[hd3]at e;cases e;exact nd _ rfl)];exact e
   have hp4:=dn _ _ hp3 (fun _ z=>nomatch z)
   refine⟨_,_,dW hp4,dW hp4,bZ (fY ok),bZ (fY ok),yr _,Sel.mk (fun t=>(vp t rfl).elim) (fun t=>?_)⟩
   refine⟨_,_,g3,cv kvs v (.ref p),rfl,?_,s3.keep (Gt _) (fun b o e nd _=>dn b o e nd),sub',au,KN (eJ _ _ _) (by omega),fun j a hj ha=>?_,fun w x e=>?_⟩
   ·intro b o nb e
    rw[aC (aI e hd)]
    exact kp3 _ _ nb e
   ·by_cases e:j=i
    ·subst e;rw[hk]at ha;cases ha
     exact⟨v,p,gv,by rw[iT,if_pos rfl],hp4⟩
    ·obtain⟨w,r,e1,e2,e3⟩:=J1 j a (by omega) ha
     exact⟨w,r,e1,by rw[iT,if_neg (fun z=>by subst z;rw[ev]at e2;cases e2)];exact e2,dn _ _ e3 (fun _ z=>nomatch z)⟩
   ·rw[iT]at e
    by_cases ew:w=v
    ·subst ew
     rw[if_pos rfl]at e;cases e
     exact⟨i,k,p,by omega,hk,rfl,hp4,ok,gv⟩
    ·rw[if_neg ew]at e
     obtain⟨j,a,r,e1,e2,e3,e4,e5⟩:=J2 w x e
     exact⟨j,a,r,by omega,e2,e3,dn _ _ e4 (fun _ z=>nomatch z),e5⟩
 ·rintro σ H' ⟨x3,x4,g',kvs,rfl,kp,s',sub,hd',hl,I1,I2⟩
  have el:(ps.map V.ref).length=ks.length:=by rw[pz,pl]
  rw[el]at s' I1
  refine q _ _ g' none kp s' sub rfl fun h hh=>?_
  exact fun j k a b h1 h2 h3 h4=>noc ks.length H' g' kvs I1 h hh j k a b h1 (Kr.mp h3).1 h2 h3 h4
theorem gM {H:Hp}{Q:VK}{a b:Addr}{k l:List Key}(ha:H a=some (.tup (k.map kV)))(hb:H b=some (.tup (l.map kV)))(q:Q (.bl (decide (k=l))) H):bw K (.ref a) (.ref b) H Q:=by
 refine .inl ⟨a,b,_,_,rfl,rfl,SqT.of ha,SqT.of hb,nP _,nP _,?_⟩
 by_cases e:k=l
 ·subst e;rw[decide_eq_true rfl]at q⊢;exact q
 ·rw[decide_eq_false e]at q;rw[decide_eq_false fun z=>e (iB z)];exact q
theorem rJ {K:pv}{H:Hp}{ps:List Addr}{tt:List (List Key)}(h:PK H ps tt):DatVs K H (ps.map V.ref) (tt.map fun t=>Ng (t.map bC)):=by
 induction h with
 |nil=>exact .nil
 |cons r _ ih=>exact .cons (dW r.1) ih
theorem wJ {H:Hp}{ps:List Addr}{tt:List (List Key)}(h:PK H ps tt):MT (tt.map fun t=>Ng (t.map bC))=true/\LJ (tt.map fun t=>Ng (t.map bC))<=1:=by
 induction h with
 |nil=>exact⟨rfl,KS _⟩
 | @cons p t l1 l2 r _ ih=>
   refine⟨?_,?_⟩
   ·show(MT (t.map bC)&&MT _)=true
    rw[bZ (fY r.2),ih.1];rfl
   ·show max (LJ (t.map bC)+1) (LJ _)<=1
    rw[eE];have:=ih.2;omega
theorem vr {tt:List (List Key)}{t:List Key}(h:t∈tt):((tt.map fun t=>Ng (t.map bC)).any fun e=>e.eqv (Ng (t.map bC)))=true:=by
 rw[List.any_eq_true]
 refine⟨_,LC.mpr ⟨t,h,rfl⟩,?_⟩
 show OC (t.map bC) (t.map bC)=true
 rw[dL];exact decide_eq_true rfl
theorem EZ (K:pv)(A:Adr):Ln (pG K A) 3:=by rintro vs H Q E ⟨f,b,L,d,ps,ks,r,v,g,n,rfl,_⟩;rfl
theorem FY (T:Txt K mg A):Rd (pG K A) (Jx K A) ["_law_stamper_here","_law_terms","_law_found"]:=by
 intro vs H Q E h
 obtain⟨f,b,L,d,ps,ks,r,v,g,n,rfl,s,hL,pk,hk9,hn,⟨p,a1,a2,rfl,hp,h1,h2,ok1,ok2⟩,m1,m2,ne,eqh,q⟩:=h
 have ty:tyN H (.ref p)=some "tuple":=by unfold tyN;dsimp only;rw[hp]
 obtain⟨cl,dl⟩:=wJ pk
 have no:∀(a:Addr)(k:List Key)(R:VK),H a=some (.tup (k.map kV))->okT k=true->k∈ks->R (.bl false) H->gc K (.ref a) (.ref L) H R:=fun a k R ha ok hm hR=>
  .inr ⟨_,_,dW ha,.inl (.lst (SqL.of hL) (rJ pk)),cl,bZ (fY ok),by show LJ (k.map bC)+1<=140;rw[eE];decide,by rw[vr hm];exact hR⟩
 refine⟨by decide,"tuple",ty,Sel.no rfl (.inl (.inr (.inl ⟨_,SqT.of hp,Sel.no rfl ?_⟩)))⟩
 refine ixT (j:=0) hp rfl rfl (ixT (j:=1) hp rfl rfl (gM h1 h2 (Sel.no (decide_eq_false ne) ?_)))
 refine ixT (j:=0) hp rfl rfl (no _ _ _ h1 ok1 m1 (Sel.no rfl (ixT (j:=1) hp rfl rfl (no _ _ _ h2 ok2 m2 (Sel.no rfl ?_)))))
 refine⟨f,rfl,s.clo,ixT (j:=0) hp rfl rfl ?_⟩
 dsimp only[av]
 refine cB s (by omega) h1 ok1 fun v1 H1 g1 kb1 s1 sub1 gv1 st1=>?_
 have hp1:=kb1.obj s.bb hp (fun _ z=>nomatch z)
 refine⟨f,rfl,s1.clo,ixT (j:=1) hp1 rfl rfl ?_⟩
 dsimp only[av]
 refine cB s1 (by omega) (kb1.obj s.bb h2 (fun _ z=>nomatch z)) ok2 fun v2 H2 g2 kb2 s2 sub2 gv2 st2=>?_
 have e:v1=v2:=by
  have x:=Ext.refl' g2
  rw[<-x _ _ (sub2 _ _ gv1),<-x _ _ gv2]
  exact eqh _ (Ext.of (sub1.trans sub2) x)
 subst e
 refine zh ?_
 rw[decide_eq_true rfl];exact q _
def dig (m:Nat):List Nat:=(Nat.toDigits 10 m).map Char.toNat
theorem qN {n:Int}(h0:0<=n):(((toString n:String):Str)).cps.toList=dig n.toNat:=by
 obtain⟨m,rfl⟩:=Lq h0
 exact Sk m
theorem sC (m:Nat):∀d∈dig m,48<=d/\d<=57:=fun d hd=>by
 obtain⟨ch,hch,e⟩:=LC.mp hd
 rw[<-e]
 exact digit_range (Qc (by decide) (by decide) hch)
theorem rX (m:Nat):TJ (dig m)=m:=W.KIN.val_back m
theorem Aq {m n:Nat}(h:dig m=dig n):m=n:=by rw[<-rX m,h,rX n]
theorem AN (z:Str):z.length=z.cps.toList.length:=by rw[MH];rfl
theorem Ba {x y:Str}(h:x.cps.toList=y.cps.toList):x=y:=by
 cases x;cases y
 simp only[Str.mk.injEq]at h⊢
 exact Array.toList_inj.mp h
theorem fq (a b:Str):(a++b).cps.toList=a.cps.toList++b.cps.toList:=by
 rw[show(a++b).cps=a.cps++b.cps from rfl,Array.toList_append]
theorem wA {a b:List Nat}{c d:Nat}{t u:List Nat}(ha:∀x∈a,48<=x/\x<=57)(hb:∀x∈b,48<=x/\x<=57)(hc:c=58\/c=59)(hd:d=58\/d=59)(h:a++c::t=b++d::u):a=b/\c=d/\t=u:=by
 induction a generalizing b with
 |nil=>
  cases b with
  |nil=>exact⟨rfl,(Le h).1,(Le h).2⟩
  |cons y r=>
   have e:=(Le h).1
   have:=hb y KY
   omega
 |cons x r ih=>
  cases b with
  |nil=>
   have e:=(Le h).1
   have:=ha x KY
   omega
  |cons y r'=>
   obtain⟨e1,e2⟩:=Le h
   obtain⟨i1,i2,i3⟩:=ih (fun z hz=>ha z (KC _ hz)) (fun z hz=>hb z (KC _ hz)) e2
   exact⟨by rw[e1,i1],i2,i3⟩
theorem iZ (v:Key)(h:okP v=true):∃(m c:Nat)(w:List Nat),(cK v).cps.toList=dig m++c::w/\((c=59/\w=[]/\v=.inl (m:Int))\/(c=58/\m=w.length/\v=.inr ⟨w.toArray⟩)):=by
 cases v with
 |inl i=>
  have h0:0<=i:=(of_decide_eq_true h).1
  refine⟨i.toNat,59,[],?_,.inl ⟨rfl,rfl,by rw[Int.toNat_of_nonneg h0]⟩⟩
  show(((toString i:String):Str)++((";":String):Str)).cps.toList=_
  rw[fq,qN h0];rfl
 |inr z=>
  refine⟨z.length,58,z.cps.toList,?_,.inr ⟨rfl,AN z,rfl⟩⟩
  show(((toString (z.length:Int):String):Str)++((":":String):Str)++z).cps.toList=_
  rw[fq,fq,qN (by omega),Nx,Lg];rfl
theorem wM {x y:Key}{t u:List Nat}(hx:okP x=true)(hy:okP y=true)(h:(cK x).cps.toList++t=(cK y).cps.toList++u):x=y/\t=u:=by
 obtain⟨m,c,w,e,hv⟩:=iZ x hx
 obtain⟨m',c',w',e',hv'⟩:=iZ y hy
 rw[e,e',Lg,Lg]at h
 obtain⟨h1,h2,h3⟩:=wA (sC m) (sC m') (by rcases hv with⟨q,_⟩|⟨q,_⟩;exact .inr q;exact .inl q) (by rcases hv' with⟨q,_⟩|⟨q,_⟩;exact .inr q;exact .inl q) h
 have hm:=Aq h1
 subst hm h2
 rcases hv with⟨q1,q2,q3⟩|⟨q1,q2,q3⟩<;>rcases hv' with⟨r1,r2,r3⟩|⟨r1,r2,r3⟩
 ·subst q2 r2
  exact⟨q3.trans r3.symm,by simpa using h3⟩
 ·omega
 ·omega
 ·have hl:w.length=w'.length:=by omega
  obtain⟨a1,a2⟩:=List.append_inj h3 hl
  subst a1
  exact⟨q3.trans r3.symm,a2⟩
theorem nW {x:Key}(h:okP x=true):(cK x).cps.toList≠[]:=by
 obtain⟨m,c,w,e,_⟩:=iZ x h
 rw[e];simp
theorem gP:∀{xs ys:List Key},xs.all okP=true->ys.all okP=true->cg xs=cg ys->xs=ys
 |[],[],_,_,_=>rfl
 |[],y::r,_,hy,h=>by
  rw[MJ,Li]at hy
  have e:=congrArg (fun s:Str=>s.cps.toList) h
  have e2:(cg (y::r)).cps.toList=(cK y).cps.toList++(cg r).cps.toList:=fq _ _
  have e:([]:List Nat)=(cg (y::r)).cps.toList:=e
  rw[e2]at e
  exact absurd (QQ.mp e.symm).1 (nW hy.1)
 |x::r,[],hx,_,h=>by
  rw[MJ,Li]at hx
  have e:=congrArg (fun s:Str=>s.cps.toList) h
  have e2:(cg (x::r)).cps.toList=(cK x).cps.toList++(cg r).cps.toList:=fq _ _
  have e:(cg (x::r)).cps.toList=([]:List Nat):=e
  rw[e2]at e
  exact absurd (QQ.mp e).1 (nW hx.1)
 |x::r,y::r',hx,hy,h=>by
  rw[MJ,Li]at hx hy
  have e:(cK x).cps.toList++(cg r).cps.toList=(cK y).cps.toList++(cg r').cps.toList:=by
   rw[<-fq,<-fq];exact congrArg (fun s:Str=>s.cps.toList) h
  obtain⟨h1,h2⟩:=wM hx.1 hy.1 e
  rw[h1,gP hx.2 hy.2 (Ba h2)]
theorem Stp.inj {H:Hp}{f b:Addr}{d:Kd}{g:List Key->Option Key}{n:Nat}(s:Stp A H f b d g n)(hd:d.sure){k k':List Key}{v:Key}(ok:okT k=true)(ok':okT k'=true)(h:g k=some v)(h':g k'=some v):k=k':=by
 cases s with
 |wri hc hb hg ed=>
  subst hg
  have e:(MW (cg k):Key)=MW (cg k'):=(KG h).trans (KG h').symm
  exact gP (dz ok) (dz ok') (Pf e)
 |cnt q x kvs hc num hl hs st hg ed=>subst hg;exact st.inj (by decide) h h'
 |wea q m h1 h2 hc hb hg ed=>subst ed;exact hd.elim
 |pla q0 q1 q2 D j j0 j1 kvs al hc hb ha bD hl hs st hg ed=>
  subst ed
  have hd:al=none:=hd
  subst hd hg
  exact st.inj j0 h h'
theorem ig {H:Hp}:∀{ps rs:List Addr}{tt ss:List (List Key)},PK H ps tt->PK H rs ss->PK H (ps++rs) (tt++ss)
 |_,_,_,_,.nil,h=>h
 |_,_,_,_,.cons r t,h=>.cons r (ig t h)
theorem dS {f c el:Nat}(h:el=0\/c<=el):grF f c el=[]:=by
 cases f with
 |zero=>rfl
 |succ f=>rw[grF,if_pos h]
theorem fm {f c el:Nat}(h:¬(el=0\/c<=el)):grF (f+1) c el=if el<=aq c then 0::grF f (aq c) el else 1::grF f (c- aq c) (el- aq c):=by rw[grF,if_neg h]
theorem lO:∀f c el,(grF f c el).length<=f
 |0,_,_=>Gt _
 |f+1,c,el=>by
  rw[grF]
  split
  ·exact KS _
  ·split
   ·have:=lO f (aq c) el;simp;omega
   ·have:=lO f (c- aq c) (el- aq c);simp;omega
theorem hJ:∀(f c el:Nat),∀t∈grF f c el,t=0\/t=1
 |0,_,_,t,h=>nomatch h
 |f+1,c,el,t,h=>by
  rw[grF]at h
  split at h
  ·cases h
  ·split at h
   ·rcases KD.mp h with rfl|h
    ·exact .inl rfl
    ·exact hJ f _ _ t h
   ·rcases KD.mp h with rfl|h
    ·exact .inr rfl
    ·exact hJ f _ _ t h
theorem Dp (K:pv)(A:Adr):Ln (pI K A) 2:=by rintro vs H Q E ⟨c,e,rfl,_⟩;rfl
theorem HE (T:Txt K mg A):Rd (pI K A) (JW K A) ["count","elder","turns","early","rest","ahead"]:=by
 intro vs H Q E h
 obtain⟨c,el,rfl,c1,ec,c2,q⟩:=h
 refine⟨KS _,fun L hL=>?_⟩
 have q':=q L hL
 refine⟨fun e σ H'=>∃(acc:List Int)(d r:Nat)(x5:Option V),σ=[some (.int (c:Int)),some (.int (el:Int)),some (.ref L),some (.int (d:Int)),some (.int (r:Int)),x5]/\H'=upd H L (.lst (acc.map V.int))/\acc++grF e r d=aR c el/\d<=r/\r<=2^e/\acc.length+e=60,
  ⟨60,[],el,c,none,rfl,rfl,by rw[PN],ec,c2,rfl⟩,?_⟩
 rintro e σ H' ⟨acc,d,r,x5,rfl,rfl,ht,hd,hr,hl⟩
 have fin:(d=0\/r<=d)->Q (.ref L) (upd H L (.lst (acc.map V.int))):=fun h=>by
  rw[dS h,Ly]at ht
  rw[ht];exact q'
 have lt:(acc.map V.int).length<sizeLine:=by rw[pz];exact bn (by omega)
 have ap:∀t:Int,upd (upd H L (.lst (acc.map V.int))) L (.lst (acc.map V.int++[.int t]))=upd H L (.lst ((acc++[t]).map V.int)):=fun t=>by rw[dm,Kq];rfl
 refine Sel.dec (fun h0=>?_) (fun h0=>?_)
 ·refine eC (Sel.dec (fun h1=>?_) (fun h1=>?_))
  ·have h2:2<=r:=by omega
   have b1:=bO h2
   have b2:=bX h2
   cases e with
   |zero=>simp at hr;omega
   |succ e=>
   have b3:=cj h2 hr
   have c60:r<=2^60:=KN hr (Mh (by decide) (by omega))
   rw[fm (by omega)]at ht
   refine⟨fun σ H'=>∃(acc:List Int)(d r:Nat)(x5:Option V),σ=[some (.int (c:Int)),some (.int (el:Int)),some (.ref L),some (.int (d:Int)),some (.int (r:Int)),x5]/\H'=upd H L (.lst (acc.map V.int))/\acc++grF e r d=aR c el/\d<=r/\r<=2^e/\acc.length+e=60,fun σ' H' hh=>⟨e,by omega,hh⟩,?_⟩
   refine⟨r,rfl,h2,c60,Sel.dec (fun h=>?_) (fun h=>?_)⟩
   ·rw[if_pos (by omega)]at ht
    refine⟨.inl ⟨rfl,_,SqL.of au⟩,L,_,_,rfl,rfl,au,lt,?_⟩
    exact⟨acc++[0],d,aq r,_,rfl,ap 0,by rw[Lg];exact ht,by omega,b3,by rw[Kn];show _+1+_=_;omega⟩
   ·rw[if_neg (by omega)]at ht
    refine⟨.inl ⟨rfl,_,SqL.of au⟩,L,_,_,rfl,rfl,au,lt,?_⟩
    refine⟨acc++[1],d- aq r,r- aq r,some (.int ((aq r:Nat):Int)),?_,ap 1,by rw[Lg];exact ht,by omega,by omega,by rw[Kn];show _+1+_=_;omega⟩
    rw[OW (by omega),OW (by omega)];rfl
  ·exact fin (.inr (by omega))
 ·exact fin (.inl (by omega))
theorem ED (K:pv)(A:Adr):Ln (pU K A) 2:=by rintro vs H Q E ⟨i,j,rfl,_⟩;rfl
theorem HJ (T:Txt K mg A):Rd (pU K A) (JO K A) ["count","elder"]:=by
 intro vs H Q E h
 obtain⟨c,p,rfl,h0,h1,h2,q⟩:=h
 refine⟨c,rfl,by omega,h2,Sel.t ⟨_,_,rfl,.int p,Sel.t (Sel.yes (decide_eq_true h0) ?_)⟩⟩
 show Q (.bl (decide (p<=c))) H
 rw[decide_eq_true h1];exact q
theorem qq:okT [.inr "void"]=true:=gD okW.1 (fun _ h=>nomatch h) (by decide)
theorem jJ {c:Nat}{y:Key}(hc:c<2^60)(hy:okP y=true):okT [.inr "row",.inl (c:Int),y]=true:=gD okW.2.2.2 (fun z hz=>by
 rcases KD.mp hz with rfl|hz
 ·exact okC hc
 ·rw[Ky.mp hz];exact hy) (show 2<=7 by decide)
theorem ER (K:pv)(A:Adr):Ln (lV K A) 1:=by rintro vs H Q E ⟨f,b,d,g,n,rfl,_⟩;rfl
theorem GV (T:Txt K mg A):Rd (lV K A) (Js K A) ["stamper"]:=by
 intro vs H Q E h
 obtain⟨f,b,d,g,n,rfl,s,hn,q⟩:=h
 refine⟨aQ (show 1<=1000000 by decide),fun p1 hp1=>?_⟩
 have S1:aA H (upd H p1 (.tup [.str "void"])):=aA.upd hp1
 have s1:=s.same (Gt _) S1
 have hp11:upd H p1 (.tup [.str "void"]) p1=some (.tup (([.inr "void"]:List Key).map kV)):=au
 generalize upd H p1 (.tup [.str "void"])=H1 at S1 s1 hp11
 refine⟨f,rfl,s1.clo,aQ (show 1<=1000000 by decide),fun p0 hp0=>?_⟩
 have S2:aA H1 (upd H1 p0 (.tup [.str "void"])):=aA.upd hp0
 have s2:=s1.same (Gt _) S2
 have hk2:upd H1 p0 (.tup [.str "void"]) p0=some (.tup (([.inr "void"]:List Key).map kV)):=au
 generalize upd H1 p0 (.tup [.str "void"])=H2 at S2 s2 hk2
 dsimp only[av]
 refine cB s2 (by omega) hk2 qq fun w H3 g3 kb s3 sub3 gv st=>⟨aQ (show 3<=1000000 by decide),fun p2 hp2=>⟨aQ (show 2<=1000000 by decide),fun L hL=>?_⟩⟩
 have S4:aA H3 (upd (upd H3 p2 (.tup [.str "row",.int 0,kV w])) L (.lst [.ref p1,.ref p2])):=(aA.upd hp2).trans (aA.upd hL)
 have okv:=dg st (by rw[sz1,szW.1];decide)
 refine q L [p1,p2] w g3 _ (((aO.same S1).trans (aO.same S2)).trans (kb.trans (aO.same S4))) (s3.same (Gt _) S4) sub3 gv okv (KN (eW st) (by rw[sz1,szW.1];decide)) au (.cons ⟨?_,qq⟩ (.cons ⟨?_,jJ (c:=0) (by decide) okv⟩ .nil))
 ·exact S4 _ _ (kb.obj s2.bb (S2 _ _ hp11) (fun _ z=>nomatch z))
 ·rw[aC (Lj (cn hL).1)];exact au
theorem rj {ts:List Int}{ds:List Key}(h:ds.length=ts.length+1):(stR ts ds).length=ts.length:=by unfold stR;simp[Mq,h]
theorem yF {ts:List Int}{ds:List Key}(h:ds.length=ts.length+1){i:Nat}(hi:i<ts.length):∃t k,ts[ts.length- 1- i]?=some t/\ds[ts.length- 1- i]?=some k/\(stR ts ds)[i]?=some (t,k):=by
 refine⟨ts[ts.length- 1- i]'(by omega),ds[ts.length- 1- i]'(by omega),If (by omega),If (by omega),?_⟩
 unfold stR
 rw[LX (by rw[Mq];omega)]
 have e:(ts.zip ds).length- 1- i=ts.length- 1- i:=by rw[Mq];omega
 rw[e,If (by rw[Mq];omega),Sz]
theorem AG {ts:List Int}{ks ds:List Key}(h:dl ts 0 ks.length ks=ds.map some):ci ts ks=ds:=by
 unfold ci;rw[h,Pp]
 have:((fun x:Option Key=>x.getD (.inl 0))∘some)=id:=rfl
 rw[this,List.map_id]
structure Dg (ts:List Int)(ks acc:List Key)(i lo hi:Nat):Prop where
 al:acc.length=i
 hl:hi<=ks.length
 w:hi=lo+(ts.length- i)+1
 eq:acc.map some++dl (ts.drop i) lo hi ks=dl ts 0 ks.length ks
theorem Dg.start {ts:List Int}{ks:List Key}(h:ks.length=ts.length+1):Dg ts ks [] 0 0 ks.length:=⟨rfl,Gt _,by omega,by rw[OB];rfl⟩
theorem Dg.one {ts:List Int}{ks acc:List Key}{i lo hi:Nat}{k:Key}(d:Dg ts ks acc i lo hi)(ht:ts[i]?=some 1)(hk:ks[lo]?=some k):Dg ts ks (acc++[k]) (i+1) (lo+1) hi:=by
 have hi':=(Kr.mp ht).1
 have e:ts.drop i=1::ts.drop (i+1):=by rw[Ql hi',(Kr.mp ht).2]
 refine⟨by rw[Kn,d.al];rfl,d.hl,by have:=d.w;omega,?_⟩
 rw[<-d.eq,e,dl,if_pos rfl,hk,Kq,Lg];rfl
theorem Dg.nul {ts:List Int}{ks acc:List Key}{i lo hi:Nat}{k:Key}{t:Int}(d:Dg ts ks acc i lo hi)(ht:ts[i]?=some t)(t1:t≠1)(hk:ks[hi- 1]?=some k):Dg ts ks (acc++[k]) (i+1) lo (hi- 1):=by
 have hi':=(Kr.mp ht).1
 have e:ts.drop i=t::ts.drop (i+1):=by rw[Ql hi',(Kr.mp ht).2]
 refine⟨by rw[Kn,d.al];rfl,by have:=d.hl;omega,by have:=d.w;omega,?_⟩
 rw[<-d.eq,e,dl,if_neg t1,hk,Kq,Lg];rfl
theorem Dg.done {ts:List Int}{ks acc:List Key}{i lo hi:Nat}{k:Key}(d:Dg ts ks acc i lo hi)(hi':i=ts.length)(hk:ks[lo]?=some k):ci ts ks=acc++[k]:=by
 subst hi'
 refine AG ?_
 rw[<-d.eq,List.drop_length,dl,hk,Kq];rfl
theorem Dg.lo {ts:List Int}{ks acc:List Key}{i lo hi:Nat}(d:Dg ts ks acc i lo hi)(h:ks.length=ts.length+1)(hi':i<=ts.length):lo<ks.length/\1<=hi/\hi- 1<ks.length:=by
 have:=d.hl;have:=d.w;omega
theorem HW (K:pv)(A:Adr):Ln (sO K A) 2:=by rintro vs H Q E ⟨L,P,ts,ks,rfl,_⟩;rfl
theorem Iz (T:Txt K mg A):Rd (sO K A) (T_6 K A) ["_law_hands_here","_law_marks","_law_dealt_here","_law_low","_law_high","_law_hand"]:=by
 intro vs H Q E h
 obtain⟨L,P,ts,ks,rfl,hL,hP,kl,tl,t01,q⟩:=h
 refine⟨KS _,fun D hD=>?_⟩
 have S1:aA H (upd H D (.lst [])):=aA.upd hD
 have hD1:upd H D (.lst []) D=some (.lst (([]:List Key).map kV)):=au
 generalize upd H D (.lst [])=H1 at S1 hD1
 refine .inl (.inr (.inl ⟨_,SqT.of (S1 _ _ hP),?_⟩))
 rw[pz]
 refine⟨L,rfl,.inl ⟨⟨_,SqL.of (S1 _ _ hL)⟩,?_⟩⟩
 refine iM (xs:=ts.map V.int) (fun i σ H'=>∃(acc:List Key)(lo hi:Nat)(x5:Option V),σ=[some (.ref L),some (.ref P),some (.ref D),some (.int (lo:Int)),some (.int (hi:Int)),x5]/\aA H H'/\H' D=some (.lst (acc.map kV))/\Dg ts ks acc i lo hi)
  ⟨[],0,ks.length,none,rfl,S1,hD1,Dg.start kl⟩ ?_ ?_ ?_
 ·rintro i σ H' _ ⟨_,_,_,_,_,S,_⟩;exact SqL.of (S _ _ hL)
 ·rintro i x σ H' hx ⟨acc,lo,hi,x5,rfl,S,hD',d⟩
  obtain⟨t,ht,rfl⟩:=fX hx
  have hi':=(Kr.mp ht).1
  obtain⟨b1,b2,b3⟩:=d.lo kl (by omega)
  have lt:(acc.map kV).length<sizeLine:=by rw[pz,d.al];exact bn (by omega)
  have ap:∀k:Key,upd H' D (.lst (acc.map kV++[kV k])) D=some (.lst ((acc++[k]).map kV)):=fun k=>by rw[au,Kq];rfl
  have Sx:∀o,aA H (upd H' D o):=fun o z u ez=>by rw[aC (aI ez hD)];exact S _ _ ez
  refine Sel.dec (fun h=>?_) (fun h=>?_)
  ·have h:t=1:=h
   subst h
   obtain⟨k,hk⟩:∃k,ks[lo]?=some k:=⟨_,If b1⟩
   refine⟨.inl ⟨rfl,_,SqL.of hD'⟩,ixT (j:=lo) (S _ _ hP) rfl (by rw[KL,hk];rfl) ⟨D,_,_,rfl,rfl,hD',lt,?_⟩⟩
   exact⟨acc++[k],lo+1,hi,_,rfl,Sx _,ap k,d.one ht hk⟩
  ·have h:¬t=1:=h
   obtain⟨k,hk⟩:∃k,ks[hi- 1]?=some k:=⟨_,If b3⟩
   refine⟨.inl ⟨rfl,_,SqL.of hD'⟩,ixT (j:=hi- 1) (S _ _ hP) (by omega) (by rw[KL,hk];rfl) ⟨D,_,_,rfl,rfl,hD',lt,?_⟩⟩
   refine⟨acc++[k],lo,hi- 1,some (.int t),?_,Sx _,ap k,d.nul ht h hk⟩
   rw[OW (by omega)];rfl
 ·rintro σ H' ⟨acc,lo,hi,x5,rfl,S,hD',d⟩
  rw[pz]at d
  obtain⟨b1,b2,b3⟩:=d.lo kl (by omega)
  obtain⟨k,hk⟩:∃k,ks[lo]?=some k:=⟨_,If b1⟩
  refine ixT (j:=lo) (S _ _ hP) rfl (by rw[KL,hk];rfl) ⟨aQ (show 1<=1000000 by decide),fun N hN=>?_⟩
  refine .inl ⟨D,N,_,_,rfl,rfl,aA.upd hN _ _ hD',au,by rw[pz,d.al];exact Mb (aQ (by simp;omega)),fun M hM=>?_⟩
  refine q M _ (S.trans ((aA.upd hN).trans (aA.upd hM))) ?_ ?_
  ·have h1:=(cn hM).2
   cases z:H M with
   |none=>rfl
   |some o=>rw[S _ _ z]at h1;cases h1
  ·rw[au,d.done rfl hk,Kq];rfl
theorem Cy (K:pv)(A:Adr):Ln (pL K A) 2:=by rintro vs H Q E ⟨L,P,ts,ks,rfl,_⟩;rfl
theorem FZ (T:Txt K mg A):Rd (pL K A) (Jo K A) ["turns","marks","steps","first","last","turn"]:=by
 intro vs H Q E h
 obtain⟨L,P,ts,ks,rfl,hL,hP,kl,tl,t01,q⟩:=h
 refine⟨KS _,fun D hD=>?_⟩
 have S1:aA H (upd H D (.lst [])):=aA.upd hD
 have hD1:upd H D (.lst []) D=some (.lst (([]:List Addr).map V.ref)):=au
 generalize upd H D (.lst [])=H1 at S1 hD1
 refine .inl (.inr (.inl ⟨_,SqT.of (S1 _ _ hP),?_⟩))
 rw[pz]
 refine⟨L,rfl,.inl ⟨⟨_,SqL.of (S1 _ _ hL)⟩,?_⟩⟩
 refine iM (xs:=ts.map V.int) (fun i σ H'=>∃(acc:List Key)(ps:List Addr)(lo hi:Nat)(x5:Option V),σ=[some (.ref L),some (.ref P),some (.ref D),some (.int (lo:Int)),some (.int ((hi:Int)- 1)),x5]/\aA H H'/\H' D=some (.lst (ps.map V.ref))/\ps.length=i/\Dg ts ks acc i lo hi/\∀(j:Nat)(p:Addr)(t:Int)(k:Key),ps[j]?=some p->ts[j]?=some t->acc[j]?=some k->H' p=some (.tup [.int t,kV k]))
  ⟨[],[],0,ks.length,none,rfl,S1,hD1,rfl,Dg.start kl,fun j p t k h=>nomatch h⟩ ?_ ?_ ?_
 ·rintro i σ H' _ ⟨_,_,_,_,_,_,S,_⟩;exact SqL.of (S _ _ hL)
 ·rintro i x σ H' hx ⟨acc,ps,lo,hi,x5,rfl,S,hD',pl,d,hp⟩
  obtain⟨t,ht,rfl⟩:=fX hx
  have hi':=(Kr.mp ht).1
  obtain⟨b1,b2,b3⟩:=d.lo kl (by omega)
  have lt:(ps.map V.ref).length<sizeLine:=by rw[pz,pl];exact bn (by omega)
  have al:=d.al
  have nx:∀(k:Key)(p7:Addr),H' p7=none->∀(lo' hi':Nat),Dg ts ks (acc++[k]) (i+1) lo' hi'->aA H (upd (upd H' p7 (.tup [.int t,kV k])) D (.lst (ps.map V.ref++[.ref p7])))/\upd (upd H' p7 (.tup [.int t,kV k])) D (.lst (ps.map V.ref++[.ref p7])) D=some (.lst ((ps++[p7]).map V.ref))/\(ps++[p7]).length=i+1/\∀(j:Nat)(p:Addr)(t':Int)(k':Key),(ps++[p7])[j]?=some p->ts[j]?=some t'->(acc++[k])[j]?=some k'->upd (upd H' p7 (.tup [.int t,kV k])) D (.lst (ps.map V.ref++[.ref p7])) p=some (.tup [.int t',kV k']):=by
   intro k p7 hp7 lo' hi' d'
   have Dn:p7≠D:=Lj (aI hD' hp7)
   refine⟨fun z u ez=>?_,by rw[au,Kq];rfl,by rw[Kn,pl];rfl,fun j p t' k' h1 h2 h3=>?_⟩
   ·rw[aC (aI ez hD)];exact aA.upd hp7 _ _ (S _ _ ez)
   ·rcases NY j i with hj|hj|hj
    ·rw[KW (by omega)]at h1 h3
     have:=hp j p t' k' h1 h2 h3
     rw[aC (bN this hD' (fun z=>nomatch z))]
     rw[aC (aI this hp7)];exact this
    ·subst hj
     rw[KR (by omega),pl,Ni]at h1
     rw[KR (by omega),al,Ni]at h3
     cases h1;cases h3
     rw[ht]at h2;cases h2
     rw[aC Dn];exact au
    ·rw[Lo (by rw[Kn,pl];show i+1<=j;omega)]at h1;cases h1
  refine Sel.dec (fun h=>?_) (fun h=>?_)
  ·have h:t=0:=h
   obtain⟨k,hk⟩:∃k,ks[hi- 1]?=some k:=⟨_,If b3⟩
   refine⟨.inl ⟨rfl,_,SqL.of hD'⟩,ixT (j:=hi- 1) (S _ _ hP) (by omega) (by rw[KL,hk];rfl) ⟨aQ (show 2<=1000000 by decide),fun p7 hp7=>⟨D,_,_,rfl,rfl,aA.upd hp7 _ _ hD',lt,?_⟩⟩⟩
   have d':=d.nul ht (by omega) hk
   obtain⟨a1,a2,a3,a4⟩:=nx k p7 hp7 lo (hi- 1) d'
   refine⟨acc++[k],ps++[p7],lo,hi- 1,some (.int t),?_,a1,a2,a3,d',a4⟩
   rw[OW (by omega)];rfl
  ·have h:¬t=0:=h
   have t1:t=1:=(t01 t (KJ ht)).resolve_left h
   obtain⟨k,hk⟩:∃k,ks[lo]?=some k:=⟨_,If b1⟩
   refine⟨.inl ⟨rfl,_,SqL.of hD'⟩,ixT (j:=lo) (S _ _ hP) rfl (by rw[KL,hk];rfl) ⟨aQ (show 2<=1000000 by decide),fun p7 hp7=>⟨D,_,_,rfl,rfl,aA.upd hp7 _ _ hD',lt,?_⟩⟩⟩
   have d':=d.one (t1▸ht) hk
   obtain⟨a1,a2,a3,a4⟩:=nx k p7 hp7 (lo+1) hi d'
   exact⟨acc++[k],ps++[p7],lo+1,hi,_,rfl,a1,a2,a3,d',a4⟩
 ·rintro σ H' ⟨acc,ps,lo,hi,x5,rfl,S,hD',pl,d,hp⟩
  rw[pz]at d pl
  obtain⟨b1,b2,b3⟩:=d.lo kl (by omega)
  obtain⟨k,hk⟩:∃k,ks[lo]?=some k:=⟨_,If b1⟩
  have ed:=d.done rfl hk
  have al:=d.al
  have em:inM ts ks=k:=by
   unfold inM;rw[ed,KR (by omega),al,Ni];rfl
  have dlen:(ci ts ks).length=ts.length+1:=by rw[ed,Kn,al];rfl
  refine ixT (j:=lo) (S _ _ hP) rfl (by rw[KL,hk];rfl) ⟨D,_,rfl,SqL.of hD',fun Z hZ=>⟨aQ (show 2<=1000000 by decide),fun R hR=>?_⟩⟩
  have S2:=(aA.upd (o:=.lst (ps.map V.ref).reverse) hZ).trans (aA.upd (o:=.tup [kV k,.ref Z]) hR)
  refine q R Z ps.reverse _ (S.trans S2) (by rw[au,em]) (by rw[aA.upd hR _ _ au,Sy]) (by rw[LS,pl]) fun j p x h1 h2=>?_
  have hj:j<ts.length:=by
   have:=(Kr.mp h1).1
   rw[LS,pl]at this;exact this
  obtain⟨tn,m,g1,g2,g3⟩:=yF dlen hj
  have h2:(stR ts (ci ts ks))[j]?=some x:=h2
  rw[g3]at h2
  cases h2
  rw[LX (by omega),pl]at h1
  rw[ed,KW (by omega)]at g2
  exact S2 _ _ (hp _ _ _ _ h1 g1 g2)
def mP (h:List Key->Key)(c:Int)(m:Key)(st:List (Int×Key)):Nat->Key
 |0=>m
 |i+1=>h (dA h c m st i)
theorem dC (h:List Key->Key)(c:Int)(m:Key)(st:List (Int×Key))(i:Nat):dA h c m st i=bM c st i (mP h c m st i):=by cases i<;>rfl
theorem iJ (h:List Key->Key)(c:Int)(m:Key)(st:List (Int×Key))(k:Nat):fS h c m st (k+1)=fS h c m st k++[dA h c m st k]:=by
 unfold fS;rw[PM,Kq];rfl
structure Gy (A:Adr)(H H':Hp)(f b Y O:Addr)(d:Kd)(c:Nat)(m:Key)(st:List (Int×Key))(iy io:Nat)(g g':gOp)(n:Nat)(py po:List Addr)(ty to:List (List Key))(v u:Key):Prop where
 kb:aO b H H'
 s:Stp A H' f b d g' (n+iy+io)
 sub:Sub g g'
 nY:H Y=none
 nO:H O=none
 yo:Y≠O
 hY:H' Y=some (.lst (py.map V.ref))
 hO:H' O=some (.lst (po.map V.ref))
 ky:PK H' py ty
 ko:PK H' po to
 ly:ty.length=iy
 lo:to.length<=io
 ov:okP v=true
 sv:szK v<=24200*iy+24100
 ou:okP u=true
 su:szK u<=24200*io+24100
 sy:∀k∈ty,szT k<=1600000
 so:∀k∈to,szT k<=1600000
 eq:∀h,Ext g' h->ty=fS h c m st iy/\v=mP h c m st iy/\to=(cL h m st io).1/\u=(cL h m st io).2
section
variable {H H':Hp}{f b Y O:Addr}{d:Kd}{c:Nat}{m:Key}{st:List (Int×Key)}{iy io:Nat}{g g':gOp}{n:Nat}{py po:List Addr}{ty to:List (List Key)}{v u:Key}{R:VK}
theorem Gy.nb (l:Gy A H H' f b Y O d c m st iy io g g' n py po ty to v u):Y≠b/\O≠b:=⟨l.s.nb l.hY (fun _ z=>nomatch z) (fun _ z=>nomatch z),l.s.nb l.hO (fun _ z=>nomatch z) (fun _ z=>nomatch z)⟩
theorem Gy.young (l:Gy A H H' f b Y O d c m st iy io g g' n py po ty to v u)(hc:c<2^60)(hm:∀x∈st,enK x.2)(i60:iy<=60)(o60:io<=60)(hn:n<=40000){p7:Addr}(hp7:H' p7=none)
  (q:∀(v':Key)(H8:Hp)(g8:gOp),(∀z o,z≠b->z≠Y->H' z=some o->H8 z=some o)->Gy A H H8 f b Y O d c m st (iy+1) io g g8 n (py++[p7]) po (ty++[bM c st iy v]) to v' u->R (kV v') H8):
  kF (cN K A) f [.ref p7] (upd (upd H' p7 (.tup ((bM c st iy v).map kV))) Y (.lst (py.map V.ref++[.ref p7]))) R E0:=by
 obtain⟨nYb,nOb⟩:=l.nb
 have Y7:p7≠Y:=Lj (aI l.hY hp7)
 have hY7:upd H' p7 (.tup ((bM c st iy v).map kV)) Y=some (.lst (py.map V.ref)):=aA.upd hp7 _ _ l.hY
 have kx:∀z o,z≠Y->H' z=some o->upd (upd H' p7 (.tup ((bM c st iy v).map kV))) Y (.lst (py.map V.ref++[.ref p7])) z=some o:=fun z o nz ez=>by rw[aC nz];exact aA.upd hp7 _ _ ez
 have s7:Stp A (upd (upd H' p7 (.tup ((bM c st iy v).map kV))) Y (.lst (py.map V.ref++[.ref p7]))) f b d g' (n+iy+io):=(l.s.same (Gt _) (aA.upd hp7)).setL hY7
 obtain⟨ok7,sz7⟩:=vx (i:=iy) (B:=24200*iy+24038) hc hm l.ov (by have:=l.sv;omega)
 have hp77:upd (upd H' p7 (.tup ((bM c st iy v).map kV))) Y (.lst (py.map V.ref++[.ref p7])) p7=some (.tup ((bM c st iy v).map kV)):=by rw[aC Y7];exact au
 have hYY:upd (upd H' p7 (.tup ((bM c st iy v).map kV))) Y (.lst (py.map V.ref++[.ref p7])) Y=some (.lst ((py++[p7]).map V.ref)):=by rw[au,Kq];rfl
 have kt:∀x xs,H' x=some (.tup xs)->upd (upd H' p7 (.tup ((bM c st iy v).map kV))) Y (.lst (py.map V.ref++[.ref p7])) x=some (.tup xs):=fun x xs ex=>kx _ _ (bN ex l.hY (fun z=>nomatch z)) ex
 have hO7:=kx _ _ (Lj l.yo) l.hO
 have kb7:aO b H (upd (upd H' p7 (.tup ((bM c st iy v).map kV))) Y (.lst (py.map V.ref++[.ref p7]))):=fun z o nz ez=>kx _ _ (aI ez l.nY) (l.kb _ _ nz ez)
 generalize upd (upd H' p7 (.tup ((bM c st iy v).map kV))) Y (.lst (py.map V.ref++[.ref p7]))=H7 at kx s7 hp77 hYY kt hO7 kb7
 refine cB s7 (by omega) hp77 ok7 fun v' H8 g8 kb8 s8 sub8 gv st8=>?_
 have sv:=eW st8
 refine q v' H8 g8 (fun z o nz ny ez=>kb8 _ _ nz (kx _ _ ny ez)) ⟨kb7.trans kb8,s8.same (by omega) (.refl _),l.sub.trans sub8,l.nY,l.nO,l.yo,kb8 _ _ nYb hYY,kb8 _ _ nOb hO7,dJ ((l.ky.keep kt).keep (aO.tup s7 kb8)) ⟨kb8.obj s7.bb hp77 (fun _ z=>nomatch z),ok7⟩,(l.ko.keep kt).keep (aO.tup s7 kb8),by rw[Kn,l.ly];rfl,l.lo,dg st8 (by omega),by omega,l.ou,l.su,fun k hk=>?_,l.so,fun h eh=>?_⟩
 ·rcases Lw.mp hk with h|h
  ·exact l.sy k h
  ·rw[Ky.mp h];omega
 ·obtain⟨e1,e2,e3,e4⟩:=l.eq h (Ext.of sub8 eh)
  have e5:bM c st iy v=dA h c m st iy:=by rw[dC,e2]
  refine⟨by rw[iJ,<-e1,e5],?_,e3,e4⟩
  show v'=h (dA h c m st iy)
  rw[<-e5,eh _ _ gv]
theorem Gy.old (l:Gy A H H' f b Y O d c m st iy io g g' n py po ty to v u)(hm:∀x∈st,enK x.2)(i60:iy<=61)(o60:io<=60)(hn:n<=40000){x:Int×Key}(hx:st[io]?=some x)(x1:x.1=1){p7:Addr}(hp7:H' p7=none)
  (q:∀(u':Key)(H8:Hp)(g8:gOp),(∀z o,z≠b->z≠O->H' z=some o->H8 z=some o)->Gy A H H8 f b Y O d c m st iy (io+1) g g8 n py (po++[p7]) ty (to++[jtT x.1 u x.2]) v u'->R (kV u') H8):
  kF (cN K A) f [.ref p7] (upd (upd H' p7 (.tup ((jtT x.1 u x.2).map kV))) O (.lst (po.map V.ref++[.ref p7]))) R E0:=by
 obtain⟨nYb,nOb⟩:=l.nb
 have O7:p7≠O:=Lj (aI l.hO hp7)
 have hO7:upd H' p7 (.tup ((jtT x.1 u x.2).map kV)) O=some (.lst (po.map V.ref)):=aA.upd hp7 _ _ l.hO
 have kx:∀z o,z≠O->H' z=some o->upd (upd H' p7 (.tup ((jtT x.1 u x.2).map kV))) O (.lst (po.map V.ref++[.ref p7])) z=some o:=fun z o nz ez=>by rw[aC nz];exact aA.upd hp7 _ _ ez
 have s7:Stp A (upd (upd H' p7 (.tup ((jtT x.1 u x.2).map kV))) O (.lst (po.map V.ref++[.ref p7]))) f b d g' (n+iy+io):=(l.s.same (Gt _) (aA.upd hp7)).setL hO7
 have hxe:=hm x (KJ hx)
 have ok7:okT (jtT x.1 u x.2)=true:=Aj l.ou hxe.1
 have sz7:szT (jtT x.1 u x.2)<=24200*io+48237:=by rw[zV];have:=l.su;have:=hxe.2;omega
 have hp77:upd (upd H' p7 (.tup ((jtT x.1 u x.2).map kV))) O (.lst (po.map V.ref++[.ref p7])) p7=some (.tup ((jtT x.1 u x.2).map kV)):=by rw[aC O7];exact au
 have hOO:upd (upd H' p7 (.tup ((jtT x.1 u x.2).map kV))) O (.lst (po.map V.ref++[.ref p7])) O=some (.lst ((po++[p7]).map V.ref)):=by rw[au,Kq];rfl
 have kt:∀z xs,H' z=some (.tup xs)->upd (upd H' p7 (.tup ((jtT x.1 u x.2).map kV))) O (.lst (po.map V.ref++[.ref p7])) z=some (.tup xs):=fun z xs ex=>kx _ _ (bN ex l.hO (fun z=>nomatch z)) ex
 have hY7:=kx _ _ l.yo l.hY
 have kb7:aO b H (upd (upd H' p7 (.tup ((jtT x.1 u x.2).map kV))) O (.lst (po.map V.ref++[.ref p7]))):=fun z o nz ez=>kx _ _ (aI ez l.nO) (l.kb _ _ nz ez)
 generalize upd (upd H' p7 (.tup ((jtT x.1 u x.2).map kV))) O (.lst (po.map V.ref++[.ref p7]))=H7 at kx s7 hp77 hOO kt hY7 kb7
 refine cB s7 (by omega) hp77 ok7 fun u' H8 g8 kb8 s8 sub8 gv st8=>?_
 have sv:=eW st8
 refine q u' H8 g8 (fun z o nz ny ez=>kb8 _ _ nz (kx _ _ ny ez)) ⟨kb7.trans kb8,s8.same (by omega) (.refl _),l.sub.trans sub8,l.nY,l.nO,l.yo,kb8 _ _ nYb hY7,kb8 _ _ nOb hOO,(l.ky.keep kt).keep (aO.tup s7 kb8),dJ ((l.ko.keep kt).keep (aO.tup s7 kb8)) ⟨kb8.obj s7.bb hp77 (fun _ z=>nomatch z),ok7⟩,l.ly,by rw[Kn];have:=l.lo;show _+1<=_;omega,l.ov,l.sv,dg st8 (by omega),by omega,l.sy,fun k hk=>?_,fun h eh=>?_⟩
 ·rcases Lw.mp hk with h|h
  ·exact l.so k h
  ·rw[Ky.mp h];omega
 ·obtain⟨e1,e2,e3,e4⟩:=l.eq h (Ext.of sub8 eh)
  refine⟨e1,e2,?_,?_⟩
  ·rw[cL,hx];dsimp only;rw[if_pos x1,<-e3,<-e4]
  ·rw[cL,hx];dsimp only;rw[if_pos x1,<-e4,eh _ _ gv]
theorem Gy.skip (l:Gy A H H' f b Y O d c m st iy io g g' n py po ty to v u){x:Int×Key}(hx:st[io]?=some x)(x1:x.1≠1):Gy A H H' f b Y O d c m st iy (io+1) g g' n py po ty to v u:=by
 have e:∀h,cL h m st (io+1)=cL h m st io:=fun h=>by rw[cL,hx];dsimp only;rw[if_neg x1]
 exact{l with
  s:=l.s.same (by omega) (.refl _)
  lo:=Sv l.lo
  su:=KN l.su (by omega)
  eq:=fun h eh=>⟨(l.eq h eh).1,(l.eq h eh).2.1,by rw[e];exact(l.eq h eh).2.2.1,by rw[e];exact(l.eq h eh).2.2.2⟩}
end
theorem Ca (K:pv)(A:Adr):Ln (pF K A) 4:=by rintro vs H Q E ⟨f,b,R,Z,d,c,el,m,st,ps,g,n,rfl,_⟩;rfl
theorem qG (ps:List Addr)(p:Addr):(ps++[p]).map V.ref=ps.map V.ref++[.ref p]:=by rw[Kq];rfl
theorem Gw (T:Txt K mg A):Rd (pF K A) (Jh K A) ["stamper","count","elder","steps","younger","older","top","older_top","step"]:=by
 intro vs H Q E h
 obtain⟨f,b,R,Z,d,c,el,m,st,ps,g,n,rfl,s,hn,e1,ec,c2,hR,hZ,pl,hp,s60,em,sx,q⟩:=h
 have hm:∀x∈st,enK x.2:=fun x hx=>(sx x hx).2
 refine⟨KS _,fun Y hY=>⟨KS _,fun O hO=>?_⟩⟩
 have S1:aA H (upd (upd H Y (.lst [])) O (.lst [])):=(aA.upd hY).trans (aA.upd hO)
 have hY1:upd (upd H Y (.lst [])) O (.lst []) Y=some (.lst (([]:List Addr).map V.ref)):=aA.upd hO _ _ au
 have hO1:upd (upd H Y (.lst [])) O (.lst []) O=some (.lst (([]:List Addr).map V.ref)):=au
 have OY:O≠Y:=(cn hO).1
 have hOn:H O=none:=(cn hO).2
 generalize upd (upd H Y (.lst [])) O (.lst [])=H1 at S1 hY1 hO1
 have l0:Gy A H H1 f b Y O d c m st 0 0 g g n [] [] [] [] m m:=⟨aO.same S1,s.same (Gt _) S1,Sub.rfl',hY,hOn,Lj OY,hY1,hO1,.nil,.nil,rfl,Gt _,em.1,by have:=em.2;omega,em.1,by have:=em.2;omega,(fun _ h=>nomatch h),(fun _ h=>nomatch h),fun h _=>⟨rfl,rfl,rfl,rfl⟩⟩
 have hR1:=S1 _ _ hR
 refine ixT (j:=0) hR1 rfl rfl (ixT (j:=0) hR1 rfl rfl (ixT (j:=1) hR1 rfl rfl ⟨Z,rfl,.inl ⟨⟨_,SqL.of (S1 _ _ hZ)⟩,?_⟩⟩))
 have nZ:Z≠b:=s.nb hZ (fun _ z=>nomatch z) (fun _ z=>nomatch z)
 refine iM (xs:=ps.map V.ref) (fun i σ H'=>∃(x8:Option V)(g':gOp)(py po:List Addr)(ty to:List (List Key))(v u:Key),σ=[some (.ref f),some (.int (c:Int)),some (.int (el:Int)),some (.ref R),some (.ref Y),some (.ref O),some (kV v),some (kV u),x8]/\Gy A H H' f b Y O d c m st i i g g' n py po ty to v u)
  ⟨none,g,[],[],[],[],m,m,rfl,l0⟩ ?_ ?_ ?_
 ·rintro i σ H' _ ⟨_,_,_,_,_,_,_,_,_,l⟩;exact SqL.of (l.kb _ _ nZ hZ)
 ·rintro i x σ H' hx ⟨x8,g',py,po,ty,to,v,u,rfl,l⟩
  obtain⟨pj,hpj,rfl⟩:=fX hx
  have hi:i<st.length:=by rw[<-pl];exact(Kr.mp hpj).1
  obtain⟨x,hxs⟩:∃x,st[i]?=some x:=⟨_,If hi⟩
  have hpp:=hp i pj x hpj hxs
  have npj:pj≠b:=s.nb hpp (fun _ z=>nomatch z) (fun _ z=>nomatch z)
  have hp':=l.kb _ _ npj hpp
  have en:∀w,bM c st i w=jtT x.1 w x.2:=fun w=>by unfold bM;rw[hxs]
  have llen:=l.ly
  have lolen:=l.lo
  have plen:=cT l.ky
  have polen:=cT l.ko
  refine⟨.inl ⟨rfl,_,SqL.of l.hY⟩,ixT (j:=0) hp' rfl rfl (ixT (j:=1) hp' rfl rfl ⟨x.1,v,x.2,rfl,fun p7 hp7=>⟨Y,_,_,rfl,rfl,aA.upd hp7 _ _ l.hY,by rw[pz];exact bn (by omega),?_⟩⟩)⟩
  refine⟨f,rfl,?_,eR au ?_⟩
  ·have hY7:upd H' p7 (.tup ((jtT x.1 v x.2).map kV)) Y=some (.lst (py.map V.ref)):=aA.upd hp7 _ _ l.hY
   exact((l.s.same (Gt _) (aA.upd hp7)).setL hY7).clo
  dsimp only[av]
  rw[<-en v]
  refine l.young c2 hm (by omega) (by omega) (by omega) hp7 fun v' H8 g8 kx l8=>?_
  have pjY:pj≠Y:=aI hpp hY
  have hp8:=kx _ _ npj pjY hp'
  refine ixT (j:=0) hp8 rfl rfl (Sel.dec (fun h1=>?_) (fun h1=>?_))
  ·have h1:x.1=1:=h1
   refine⟨.inl ⟨rfl,_,SqL.of l8.hO⟩,ixT (j:=0) hp8 rfl rfl (ixT (j:=1) hp8 rfl rfl ⟨x.1,u,x.2,rfl,fun p9 hp9=>⟨O,_,_,rfl,rfl,aA.upd hp9 _ _ l8.hO,by rw[pz];exact bn (by omega),?_⟩⟩)⟩
   refine⟨f,rfl,?_,eR au ?_⟩
   ·have hO9:upd H8 p9 (.tup ((jtT x.1 u x.2).map kV)) O=some (.lst (po.map V.ref)):=aA.upd hp9 _ _ l8.hO
    exact((l8.s.same (Gt _) (aA.upd hp9)).setL hO9).clo
   dsimp only[av]
   exact l8.old hm (by omega) (by omega) (by omega) hxs h1 hp9 fun u' H10 g10 kx10 l10=>⟨_,g10,_,_,_,_,v',u',rfl,l10⟩
  ·have h1:¬x.1=1:=h1
   exact⟨_,g8,_,_,_,_,v',u,rfl,l8.skip hxs h1⟩
 ·rintro σ H' ⟨x8,g',py,po,ty,to,v,u,rfl,l⟩
  rw[pz,pl]at l
  have llen:=l.ly
  have lolen:=l.lo
  have plen:=cT l.ky
  have polen:=cT l.ko
  obtain⟨nYb,nOb⟩:=l.nb
  refine⟨.inl ⟨rfl,_,SqL.of l.hY⟩,aQ (show 3<=1000000 by decide),fun p7 hp7=>⟨Y,_,_,rfl,rfl,aA.upd hp7 _ _ l.hY,by rw[pz];exact bn (by omega),?_⟩⟩
  have Y7:p7≠Y:=Lj (aI l.hY hp7)
  have kx:∀z o,z≠Y->H' z=some o->upd (upd H' p7 (.tup [.str "row",.int (c:Int),kV v])) Y (.lst (py.map V.ref++[.ref p7])) z=some o:=fun z o nz ez=>by rw[aC nz];exact aA.upd hp7 _ _ ez
  have s7:Stp A (upd (upd H' p7 (.tup [.str "row",.int (c:Int),kV v])) Y (.lst (py.map V.ref++[.ref p7]))) f b d g' (n+st.length+st.length):=(l.s.same (Gt _) (aA.upd hp7)).setL (aA.upd hp7 _ _ l.hY)
  have hp77:upd (upd H' p7 (.tup [.str "row",.int (c:Int),kV v])) Y (.lst (py.map V.ref++[.ref p7])) p7=some (.tup (([.inr "row",.inl (c:Int),v]:List Key).map kV)):=by rw[aC Y7];exact au
  have hYY:upd (upd H' p7 (.tup [.str "row",.int (c:Int),kV v])) Y (.lst (py.map V.ref++[.ref p7])) Y=some (.lst ((py++[p7]).map V.ref)):=by rw[au,qG]
  generalize upd (upd H' p7 (.tup [.str "row",.int (c:Int),kV v])) Y (.lst (py.map V.ref++[.ref p7]))=H7 at kx s7 hp77 hYY
  have hO7:=kx _ _ (Lj l.yo) l.hO
  have kt7:∀x xs,H' x=some (.tup xs)->H7 x=some (.tup xs):=fun x xs ex=>kx _ _ (bN ex l.hY (fun z=>nomatch z)) ex
  refine⟨.inl ⟨rfl,_,SqL.of hO7⟩,aQ (show 3<=1000000 by decide),fun p9 hp9=>⟨O,_,_,rfl,rfl,aA.upd hp9 _ _ hO7,by rw[pz];exact bn (by omega),?_⟩⟩
  have O9:p9≠O:=Lj (aI hO7 hp9)
  have kz:∀z o,z≠O->H7 z=some o->upd (upd H7 p9 (.tup [.str "row",.int (el:Int),kV u])) O (.lst (po.map V.ref++[.ref p9])) z=some o:=fun z o nz ez=>by rw[aC nz];exact aA.upd hp9 _ _ ez
  have s9:Stp A (upd (upd H7 p9 (.tup [.str "row",.int (el:Int),kV u])) O (.lst (po.map V.ref++[.ref p9]))) f b d g' (n+st.length+st.length):=(s7.same (Gt _) (aA.upd hp9)).setL (aA.upd hp9 _ _ hO7)
  have hp99:upd (upd H7 p9 (.tup [.str "row",.int (el:Int),kV u])) O (.lst (po.map V.ref++[.ref p9])) p9=some (.tup (([.inr "row",.inl (el:Int),u]:List Key).map kV)):=by rw[aC O9];exact au
  have hOO:upd (upd H7 p9 (.tup [.str "row",.int (el:Int),kV u])) O (.lst (po.map V.ref++[.ref p9])) O=some (.lst ((po++[p9]).map V.ref)):=by rw[au,qG]
  generalize upd (upd H7 p9 (.tup [.str "row",.int (el:Int),kV u])) O (.lst (po.map V.ref++[.ref p9]))=H9 at kz s9 hp99 hOO
  have kt9:∀x xs,H7 x=some (.tup xs)->H9 x=some (.tup xs):=fun x xs ex=>kz _ _ (bN ex hO7 (fun z=>nomatch z)) ex
  have okc:=jJ c2 l.ov
  have oke:=jJ (c:=el) (by omega) l.ou
  have sv:=l.sv
  have su:=l.su
  have szc:szT [.inr "row",.inl (c:Int),v]<=1600000:=by rw[sz3,szW.2.2.2];show 65+(62+szK v)<=_;omega
  have sze:szT [.inr "row",.inl (el:Int),u]<=1600000:=by rw[sz3,szW.2.2.2];show 65+(62+szK u)<=_;omega
  refine⟨aQ (show 2<=1000000 by decide),q Y O (py++[p7]) (po++[p9]) (ty++[[.inr "row",.inl (c:Int),v]]) (to++[[.inr "row",.inl (el:Int),u]]) g' H9 (fun z o nz ez=>kz _ _ (aI ez l.nO) (kx _ _ (aI ez l.nY) (l.kb _ _ nz ez))) (s9.same (by omega) (.refl _)) l.sub (kz _ _ l.yo hYY) hOO (dJ ((l.ky.keep kt7).keep kt9) ⟨kt9 _ _ hp77,okc⟩) (dJ ((l.ko.keep kt7).keep kt9) ⟨hp99,oke⟩) (by rw[Kn,llen];rfl) (by rw[Kn];show 1<=_+1;omega) (by rw[Kn];show _+1<=_;omega) (fun k hk=>?_) (fun k hk=>?_) fun h eh=>?_⟩
  ·rcases Lw.mp hk with h|h
   ·exact l.sy k h
   ·rw[Ky.mp h];exact szc
  ·rcases Lw.mp hk with h|h
   ·exact l.so k h
   ·rw[Ky.mp h];exact sze
  ·obtain⟨a1,a2,a3,a4⟩:=l.eq h eh
   refine⟨?_,?_⟩
   ·rw[iJ,<-a1,dC,<-a2]
    unfold bM;rw[Lo (Gt _)]
   ·unfold jp ji;rw[if_neg (by omega),if_neg (by omega),<-a3,<-a4]
theorem qf:∀(ts:List Int)(lo hi:Nat)(ks:List Key),(dl ts lo hi ks).length=ts.length+1
 |[],_,_,_=>rfl
 |t::r,lo,hi,ks=>by
  rw[dl];split
  ·rw[KH,qf r];rfl
  ·rw[KH,qf r];rfl
theorem qx:∀(ts:List Int)(lo hi:Nat)(ks:List Key),hi=lo+ts.length+1->hi<=ks.length->∀x∈dl ts lo hi ks,∃k∈ks,x=some k
 |[],lo,hi,ks,h1,h2,x,hx=>by
  rw[dl]at hx
  rw[Ky.mp hx]
  have:lo<ks.length:=by simp at h1;omega
  exact⟨ks[lo],Mv _,If this⟩
 |t::r,lo,hi,ks,h1,h2,x,hx=>by
  rw[KH]at h1
  rw[dl]at hx
  split at hx
  ·rcases KD.mp hx with rfl|hx
   ·have:lo<ks.length:=by omega
    exact⟨ks[lo],Mv _,If this⟩
   ·exact qx r (lo+1) hi ks (by omega) h2 x hx
  ·rcases KD.mp hx with rfl|hx
   ·have:hi- 1<ks.length:=by omega
    exact⟨ks[hi- 1],Mv _,If this⟩
   ·exact qx r lo (hi- 1) ks (by omega) (by omega) x hx
theorem gE (ts:List Int)(ks:List Key):(ci ts ks).length=ts.length+1:=by unfold ci;rw[pz,qf]
theorem lv {ts:List Int}{ks:List Key}(kl:ks.length=ts.length+1):∀k∈ci ts ks,k∈ks:=fun k hk=>by
 unfold ci at hk
 obtain⟨x,hx,rfl⟩:=LC.mp hk
 obtain⟨k',hk',rfl⟩:=qx ts 0 ks.length ks (by omega) (Gt _) x hx
 exact hk'
theorem Be {ts:List Int}{ks:List Key}(kl:ks.length=ts.length+1):inM ts ks∈ks:=by
 unfold inM
 have h:=gE ts ks
 have e:(ci ts ks)[ts.length]?=some ((ci ts ks)[ts.length]'(by omega)):=If (by omega)
 rw[e]
 exact lv kl _ (Mv _)
theorem CG {ts:List Int}{ks:List Key}(kl:ks.length=ts.length+1)(t01:∀t∈ts,t=0\/t=1)(ke:∀k∈ks,enK k):∀x∈stG ts ks,(x.1=0\/x.1=1)/\enK x.2:=fun x hx=>⟨t01 _ (mK hx).1,ke _ (lv kl _ (mK hx).2)⟩
theorem Ds (K:pv)(A:Adr):Ln (lY K A) 4:=by rintro vs H Q E ⟨f,b,P,d,c,el,ks,g,n,rfl,_⟩;rfl
theorem FV (T:Txt K mg A):Rd (lY K A) (JY K A) ["stamper","count","elder","marks","turns","younger"]:=by
 intro vs H Q E h
 obtain⟨f,b,P,d,c,el,ks,g,n,rfl,⟨s,hn,c1,c2,ec,tl,t01,z0,kl,ke,hP⟩,q⟩:=h
 refine⟨_,_,rfl,by omega,by omega,by omega,Sel.no rfl ⟨c,el,rfl,c1,ec,by omega,fun W hWn=>?_⟩⟩
 have S1:aA H (upd H W (.lst ((aR c el).map V.int))):=aA.upd hWn
 have hW:upd H W (.lst ((aR c el).map V.int)) W=some (.lst ((aR c el).map V.int)):=au
 generalize upd H W (.lst ((aR c el).map V.int))=H1 at S1 hW
 generalize aR c el=ts at*
 refine Sel.dec (fun h=>by omega) (fun _=>.inl (.inl ⟨_,SqL.of hW,?_⟩))
 rw[pz]
 refine⟨P,ks,by rw[kl];rfl,S1 _ _ hP,fun k hk=>(ke k hk).1,by omega,fun H2 S2=>Sel.no rfl ?_⟩
 have S12:=S1.trans S2
 have hP2:=S12 _ _ hP
 have s2:=s.same (Gt _) S12
 refine Sel.dec (fun h=>?_) (fun h=>?_)
 ·have e0:el=0:=by have h:(el:Int)=0:=h;omega
  have ets:=z0 e0
  subst ets
  have k1:ks.length=1:=kl
  obtain⟨m,hm⟩:∃m,ks[0]?=some m:=⟨_,If (by omega)⟩
  have em:inM [] ks=m:=by
   unfold inM ci dl
   rw[hm];rfl
  have enm:=ke m (KJ hm)
  refine Sel.dec (fun h=>by omega) (fun _=>?_)
  refine ixT (j:=0) hP2 rfl (by rw[KL,hm];rfl) ⟨aQ (show 3<=1000000 by decide),fun p1 hp1=>⟨aQ (show 1<=1000000 by decide),fun Y hY=>?_⟩⟩
  have S3:aA H2 (upd (upd H2 p1 (.tup [.str "row",.int (c:Int),kV m])) Y (.lst [.ref p1])):=(aA.upd hp1).trans (aA.upd hY)
  have hY3:upd (upd H2 p1 (.tup [.str "row",.int (c:Int),kV m])) Y (.lst [.ref p1]) Y=some (.lst (([p1]:List Addr).map V.ref)):=au
  have hp3:upd (upd H2 p1 (.tup [.str "row",.int (c:Int),kV m])) Y (.lst [.ref p1]) p1=some (.tup (([.inr "row",.inl (c:Int),m]:List Key).map kV)):=aA.upd hY _ _ au
  generalize upd (upd H2 p1 (.tup [.str "row",.int (c:Int),kV m])) Y (.lst [.ref p1])=H3 at S3 hY3 hp3
  have s3:=s2.same (Gt _) S3
  refine⟨f,b,d,g,n,rfl,s3,by omega,fun O po v g4 H4 kb4 s4 sub4 gv okv svo hO pk=>⟨aQ (show 2<=1000000 by decide),?_⟩⟩
  have szv:szT [.inr "row",.inl (0:Int),v]<=1600000:=by rw[sz3,szW.2.2.2];show 65+(62+szK v)<=_;omega
  refine q Y O [p1] po [[.inr "row",.inl (c:Int),m]] _ g4 H4 ((aO.same (S12.trans S3)).trans kb4) (s4.same (by omega) (.refl _)) sub4 (kb4.obj s3.bb hY3 (fun _ z=>nomatch z)) hO (.cons ⟨kb4.obj s3.bb hp3 (fun _ z=>nomatch z),jJ c2 enm.1⟩ .nil) pk rfl (by show 1<=2;decide) (by show 2<=70;decide) (fun k hk=>?_) (fun k hk=>?_) fun h eh=>?_
  ·rw[Ky.mp hk,sz3,szW.2.2.2];show 65+(62+szK m)<=_;have:=enm.2;omega
  ·rcases KD.mp hk with rfl|hk
   ·rw[sz1,szW.1];decide
   ·rw[Ky.mp hk];exact szv
  ·refine⟨by rw[em];rfl,?_⟩
   unfold jp ji
   rw[if_pos e0,if_pos e0,eh _ _ gv,e0];rfl
 ·have e0:1<=el:=by have h:¬(el:Int)=0:=h;omega
  refine⟨W,P,ts,ks,rfl,S2 _ _ hW,hP2,kl,tl,t01,fun R Z ps H3 S3 hR hZ pl hp=>?_⟩
  have S13:=S12.trans S3
  have slen:(stG ts ks).length=ts.length:=rj (gE ts ks)
  refine⟨f,b,R,Z,d,c,el,inM ts ks,stG ts ks,ps,g,n,rfl,s2.same (Gt _) S3,hn,e0,ec,c2,hR,hZ,by rw[slen];exact pl,hp,by omega,ke _ (Be kl),CG kl t01 ke,?_⟩
  intro Y O py po ty to g' H' kb' s' sub' hY hO ky ko ly l1 l70 sy so eq
  exact q Y O py po ty to g' H' ((aO.same S13).trans kb') s' sub' hY hO ky ko ly l1 l70 sy so eq
theorem tM {h:List Key->Key}{c:Int}{m:Key}{st:List (Int×Key)}{r:List (List Key)}{t:List Key}{k:Nat}(e:r++[t]=fS h c m st (k+1)):t=dA h c m st k:=by
 rw[iJ]at e
 exact OQ.mp (Ps e rfl).2
theorem wf {h:List Key->Key}{el:Nat}{m:Key}{st:List (Int×Key)}{r:List (List Key)}{t:List Key}(e:r++[t]=jp h el m st):t=ji h el m st:=by
 unfold jp at e
 exact OQ.mp (Ps e rfl).2
theorem qd {tt:List (List Key)}(h:1<=tt.length):∃r t,tt=r++[t]:=qg.last (m:=tt.length- 1) (by omega)
theorem Ce (K:pv)(A:Adr):Ln (pM K A) 4:=by rintro vs H Q E ⟨f,b,hd,P,d,c,el,ks,mk,g,n,rfl,_⟩;rfl
theorem Ff (T:Txt K mg A)(vs:List V)(H:Hp)(Q:VK)(E:XK)(h:pM K A vs H Q E):Fb K A E {nx:=fun _ H'=>Q .non H',rt:=Q} (L2.start ["stamper","head","elder","marks","terms","came"] vs) H:=by
 obtain⟨f,b,hd,P,d,c,el,ks,mk,g,n,rfl,pp,hh,okm,q⟩:=h
 have hn:=pp.hn
 have slen:(stG (aR c el) ks).length=(aR c el).length:=rj (gE _ ks)
 refine⟨hd,c,mk,rfl,hh,pp.c2,okm,ixT (j:=0) hh rfl rfl ?_⟩
 refine⟨f,b,P,d,c,el,ks,g,n,rfl,pp,fun Y O py po ty to g1 H1 kb1 s1 sub1 hY hO ky ko ly l1 l70 sy so eq p hp=>?_⟩
 obtain⟨ry,t,rfl⟩:=qd (tt:=ty) (by omega)
 obtain⟨ro,t2,rfl⟩:=qd (tt:=to) l1
 obtain⟨qy,py1,rfl,ky'⟩:=li ky
 obtain⟨qo,po1,rfl,ko'⟩:=li ko
 obtain⟨hpy,oky⟩:=iA (gf ky') ky'
 obtain⟨hpo,oko⟩:=iA (gf ko') ko'
 have S2:=aA.upd (o:=.tup [.ref Y,.ref O]) hp
 have s2:=s1.same (Gt _) S2
 have hT2:upd H1 p (.tup [.ref Y,.ref O]) p=some (.tup [.ref Y,.ref O]):=au
 have hY2:=S2 _ _ hY
 have hO2:=S2 _ _ hO
 have hpy2:=S2 _ _ hpy
 have hpo2:=S2 _ _ hpo
 have hh2:=S2 _ _ (kb1.obj pp.s.bb hh (fun _ z=>nomatch z))
 generalize upd H1 p (.tup [.ref Y,.ref O])=H2 at S2 s2 hT2 hY2 hO2 hpy2 hpo2 hh2
 rw[Kq]at hY2 hO2
 refine⟨f,rfl,s2.clo,ixT (j:=0) hT2 rfl rfl (eR hY2 ?_)⟩
 dsimp only[av]
 refine cB s2 (by omega) hpy2 oky fun w H3 g3 kb3 s3 sub3 gv st3=>?_
 have szt:=sy t (by simp)
 obtain⟨q1,q2⟩:=q w g3 H3 ((kb1.trans (aO.same S2)).trans kb3) s3 (sub1.trans sub3) (dg st3 (by omega)) (fun h eh=>by
  have e:=tM (eq h (Ext.of sub3 eh)).1
  rw[slen]at e
  rw[<-e,eh _ _ gv])
 have hh3:=kb3.obj s2.bb hh2 (fun _ z=>nomatch z)
 refine ixT (j:=1) hh3 rfl rfl (nG ?_)
 by_cases ewm:w=mk
 ·refine Sel.no (by rw[decide_eq_true ewm];rfl) ?_
  refine⟨f,rfl,s3.clo,ixT (j:=1) (kb3.obj s2.bb hT2 (fun _ z=>nomatch z)) rfl rfl (eR (kb3.obj s2.bb hO2 (fun _ z=>nomatch z)) ?_)⟩
  dsimp only[av]
  refine cB s3 (by omega) (kb3.obj s2.bb hpo2 (fun _ z=>nomatch z)) oko fun u H4 g4 kb4 s4 sub4 gu st4=>?_
  have szo:=so t2 (by simp)
  exact q1 ewm u g4 H4 kb4 s4 sub4 (dg st4 (by omega)) fun h eh=>by
   rw[<-wf (eq h (Ext.of sub3 (Ext.of sub4 eh))).2,eh _ _ gu]
 ·refine Sel.yes (by rw[decide_eq_false ewm];rfl) ?_
  refine ixT (j:=1) hh3 rfl rfl fun a ha=>⟨a,kV mk,kV w,rfl,au,fun dx hdx=>⟨rfl,some dx,?_,?_⟩⟩
  ·obtain⟨nd,_⟩:=cn hdx
   rw[aC (Lj nd),aC (Lj nd)];exact au
  ·obtain⟨nd,hd0⟩:=cn hdx
   refine q2 ewm dx _ (fun z o ez=>?_) (by rw[dw nd];exact au)
   have na:=aI ez ha
   have nz:=aI ez hd0
   rw[dw na,aC nz,aC nz,aC na,aC na];exact ez
section
variable {K:pv}{mg:Str->Option tx}{A:Adr}
theorem DI (K:pv)(A:Adr):Ln (oU K A) 2:=by rintro vs H Q E ⟨i,j,rfl,_⟩;rfl
theorem Fl (T:Txt K mg A):Rd (oU K A) (JZ K A) ["count","place"]:=by
 intro vs H Q E h
 obtain⟨c,p,rfl,h0,h1,h2,q⟩:=h
 refine⟨c,rfl,by omega,h2,Sel.t ⟨_,_,rfl,.int p,Sel.t (Sel.yes (decide_eq_true h0) ?_)⟩⟩
 show Q (.bl (decide (p<c))) H
 rw[decide_eq_true h1];exact q
theorem dj {e p m:Nat}(h:m<=1):bV e p m=[]:=by
 cases e with
 |zero=>rfl
 |succ e=>unfold bV;rw[if_pos h]
theorem dY {e p m:Nat}(h:¬m<=1):bV (e+1) p m=if p<aq m then 0::bV e p (aq m)else 1::bV e (p- aq m) (m- aq m):=by
 show(if m<=1 then _ else _)=_
 rw[if_neg h]
theorem gC:∀e p m,(bV e p m).length<=e
 |0,_,_=>KS _
 |e+1,p,m=>by
  unfold bV
  split
  ·simp
  ·split
   ·have:=gC e p (aq m);simp;omega
   ·have:=gC e (p- aq m) (m- aq m);simp;omega
theorem Do (K:pv)(A:Adr):Ln (oX K A) 2:=by rintro vs H Q E ⟨p,m,rfl,_⟩;rfl
theorem Gr (T:Txt K mg A)(vs:List V)(H:Hp)(Q:VK)(E:XK)(h:oX K A vs H Q E):JP K A {nx:=fun _ H'=>Q .non H',rt:=Q} (start ["place","many","turns","first","rest","ahead"] vs) H:=by
 obtain⟨p,m,rfl,hp,hm,q⟩:=h
 refine⟨by show 0<=sizeLine;decide,fun D hD=>?_⟩
 have q':=q D hD
 refine⟨fun e σ H2=>∃(f r:Nat)(ts:List Int)(ah:Option V),σ=[some (.int p),some (.int m),some (.ref D),some (.int f),some (.int r),ah]/\H2=upd H D (.lst (ts.map V.int))/\
  f<=p/\p<f+r/\r<=2^e/\e<=60/\ts.length+e=60/\ts++bV e (p- f) r=bV 60 p m,⟨60,0,m,[],none,rfl,rfl,by omega,by omega,hm,by omega,rfl,by rw[PN,LN]⟩,?_⟩
 rintro e σ H2 ⟨f,r,ts,ah,rfl,rfl,hf,hr,he,h60,hl,hw⟩
 refine mV (fun h=>?_) (fun h=>?_)
 ·have h2:2<=r:=by omega
  cases e with
  |zero=>simp at he;omega
  |succ e=>
  have b1:=bO h2
  have b2:=bX h2
  have b3:=cj h2 he
  have hr60:r<=2^60:=KN he (Mh (by decide) h60)
  rw[dY (by omega)]at hw
  refine⟨fun σ' H'=>∃(f r:Nat)(ts:List Int)(ah:Option V),σ'=[some (.int p),some (.int m),some (.ref D),some (.int f),some (.int r),ah]/\H'=upd H D (.lst (ts.map V.int))/\
   f<=p/\p<f+r/\r<=2^e/\e<=60/\ts.length+e=60/\ts++bV e (p- f) r=bV 60 p m,fun σ' H' w=>⟨e,by omega,w⟩,?_⟩
  refine⟨r,rfl,h2,hr60,?_⟩
  refine Sel.dec (fun hlt=>?_) (fun hlt=>?_)
  ·rw[if_pos (by omega)]at hw
   refine⟨.inl ⟨rfl,_,SqL.of au⟩,D,_,_,rfl,rfl,au,by rw[pz];exact bn (by omega),?_⟩
   refine⟨f,aq r,ts++[0],_,rfl,by rw[Kq];exact dm,hf,by omega,b3,by omega,by rw[Kn];simp;omega,?_⟩
   rw[Lg];exact hw
  ·rw[if_neg (by omega)]at hw
   refine⟨.inl ⟨rfl,_,SqL.of au⟩,D,_,_,rfl,rfl,au,by rw[pz];exact bn (by omega),?_⟩
   refine⟨f+aq r,r- aq r,ts++[1],some (.int (aq r)),?_,by rw[Kq];exact dm,by omega,by omega,by omega,by omega,by rw[Kn];simp;omega,?_⟩
   ·show[some (V.int p),some (V.int m),some (V.ref D),some (V.int ((f:Int)+(aq r:Int))),some (V.int ((r:Int)- (aq r:Int))),some (V.int (aq r))]=_
    rw[show((f:Int)+(aq r:Int))=((f+aq r:Nat):Int)by omega,show((r:Int)- (aq r:Int))=((r- aq r:Nat):Int)by omega]
   ·rw[Lg,show p- (f+aq r)=p- f- aq r by omega];exact hw
 ·rw[dj (by omega),Ly]at hw
  show Q (.ref D) (upd H D (.lst (ts.map V.int)))
  rw[hw];exact q'
theorem dN.same {H H':Hp}{P T:Addr}{e:Key}{ks:List Key}(w:dN H P T e ks)(S:aA H H'):dN H' P T e ks:=⟨S _ _ w.hP,S _ _ w.hT⟩
theorem CN (K:pv)(A:Adr):Ln (oZ K A) 2:=by rintro vs H Q E ⟨L,P,T,ts,e,ks,rfl,_⟩;rfl
theorem FN (T:Txt K mg A):Rd (oZ K A) (IN K A) ["turns","thing"]:=by
 intro vs H Q E h
 obtain⟨L,P,TT,ts,e,ks,rfl,hL,w,oke,okk,hl,l5,q⟩:=h
 have ty:tyN H (.ref P)=some "tuple":=by unfold tyN;dsimp only;rw[w.hP]
 refine⟨by decide,"tuple",ty,Sel.no rfl (.inl (.inr (.inl ⟨_,SqT.of w.hP,Sel.no (by simp) (ixT (j:=0) w.hP rfl rfl ⟨_,_,rfl,vv e,?_⟩)⟩)))⟩
 rw[jz oke]
 refine Sel.t (.inl (.inl ⟨_,SqL.of hL,ixT (j:=1) w.hP rfl rfl ⟨TT,ks,?_,w.hT,okk,l5,q⟩⟩))
 rw[pz,hl]
theorem wm (h:List Key->Key)(c:Int)(e:Key)(st:List (Int×Key))(i:Nat):de h c e st (i+1)=bM c st i (h (de h c e st i)):=rfl
theorem nV (h:List Key->Key)(c:Int)(e:Key)(st:List (Int×Key))(m:Nat):hV h c e st (m+1)=hV h c e st m++[de h c e st m]:=by
 unfold hV;rw[PM,Kq];rfl
theorem rz {g:gOp}{c:Int}{e:Key}{st:List (Int×Key)}{m:Nat}{tt:List (List Key)}{t:List Key}(H1:∀h,Ext g h->tt++[t]=hV h c e st (m+1)){h:List Key->Key}(eh:Ext g h):t=de h c e st m:=by
 have:=H1 h eh
 rw[nV]at this
 exact OQ.mp (Ps this rfl).2
theorem zn {g g':gOp}{c:Int}{e:Key}{st:List (Int×Key)}{m:Nat}{tt:List (List Key)}{t:List Key}{v:Key}(H1:∀h,Ext g h->tt++[t]=hV h c e st (m+1))(sub:Sub g g')(gv:g' t=some v):
  ∀h,Ext g' h->(tt++[t])++[bM c st m v]=hV h c e st (m+2):=fun h eh=>by
 have e1:=Ext.of sub eh
 rw[nV,<-H1 h e1,wm,<-rz H1 e1,eh _ _ gv]
theorem qh:∀(f p m:Nat),∀t∈bV f p m,t=0\/t=1
 |0,_,_,t,h=>nomatch h
 |f+1,p,m,t,h=>by
  rw[bV]at h
  split at h
  ·cases h
  ·split at h
   ·rcases KD.mp h with rfl|h
    ·exact .inl rfl
    ·exact qh f _ _ t h
   ·rcases KD.mp h with rfl|h
    ·exact .inr rfl
    ·exact qh f _ _ t h
variable {A:Adr}
theorem dN.kb {H H':Hp}{P T f b:Addr}{d:Kd}{e:Key}{ks:List Key}{g:gOp}{n:Nat}(w:dN H P T e ks)(s:Stp A H f b d g n)(k:aO b H H'):dN H' P T e ks:=
 ⟨k _ _ (s.nb w.hP (fun _ z=>nomatch z) (fun _ z=>nomatch z)) w.hP,k _ _ (s.nb w.hT (fun _ z=>nomatch z) (fun _ z=>nomatch z)) w.hT⟩
structure Ld (A:Adr)(H H':Hp)(f b M:Addr)(d:Kd)(c:Nat)(e:Key)(st:List (Int×Key))(i:Nat)(g g':gOp)(n:Nat)(ps:List Addr)(p:Addr)(tt:List (List Key))(t:List Key):Prop where
 kb:aO b H H'
 s:Stp A H' f b d g' (n+i)
 sub:Sub g g'
 hM:H' M=some (.lst (ps.map V.ref++[.ref p]))
 pk:PK H' (ps++[p]) (tt++[t])
 len:tt.length=i
 sz:∀k∈tt++[t],szT k<=24200*(i+1)
 eq:∀h,Ext g' h->tt++[t]=hV h c e st (i+1)
theorem Ld.step {H H5:Hp}{f b M:Addr}{d:Kd}{c:Nat}{e:Key}{st:List (Int×Key)}{i:Nat}{g g5:gOp}{n:Nat}{ps:List Addr}{p:Addr}{tt:List (List Key)}{t:List Key}{R:VK}
  (l:Ld A H H5 f b M d c e st i g g5 n ps p tt t)(hM:H M=none)(hc:c<2^60)(hm:∀x∈st,enK x.2)(hi:i<=61)(hn:n+i<=45000)
  (q:∀(v:Key)(H6:Hp)(g6:gOp),aO b H5 H6->H6 M=some (.lst (ps.map V.ref++[.ref p]))->(∀p7,H6 p7=none->Ld A H (upd (upd H6 p7 (.tup ((bM c st i v).map kV))) M (.lst (ps.map V.ref++[.ref p]++[.ref p7]))) f b M d c e st (i+1) g g6 n (ps++[p]) p7 (tt++[t]) (bM c st i v))->R (kV v) H6):kF (cN K A) f [.ref p] H5 R E0:=by
 obtain⟨kb,s5,sub,hM5,pk,len,sz,eq⟩:=l
 obtain⟨hp,ok⟩:=iA (gf pk) pk
 have nM:M≠b:=s5.nb hM5 (fun _ z=>nomatch z) (fun _ z=>nomatch z)
 refine cB s5 hn hp ok fun v H6 g6 kb6 s6 sub6 gv st6=>?_
 have hM6:=kb6 _ _ nM hM5
 have szt:=sz t (by simp)
 have ov:=dg st6 (by omega)
 have sv:=eW st6
 obtain⟨ok7,sz7⟩:=vx (i:=i) (B:=24200*(i+1)) hc hm ov (by omega)
 refine q v H6 g6 kb6 hM6 fun p7 hp7=>?_
 have L7:p7≠M:=Lj (aI hM6 hp7)
 have hM7:upd H6 p7 (.tup ((bM c st i v).map kV)) M=some (.lst (ps.map V.ref++[.ref p])):=aA.upd hp7 _ _ hM6
 have kt:∀x xs,H6 x=some (.tup xs)->upd (upd H6 p7 (.tup ((bM c st i v).map kV))) M (.lst (ps.map V.ref++[.ref p]++[.ref p7])) x=some (.tup xs):=fun x xs ex=>by
  rw[aC (bN ex hM6 (fun z=>nomatch z))];exact aA.upd hp7 _ _ ex
 refine⟨fun z o nz ez=>?_,?_,sub.trans sub6,by rw[au,Kq];rfl,dJ ((pk.keep (aO.tup s5 kb6)).keep kt) ⟨by rw[aC L7];exact au,ok7⟩,by rw[Kn,len];rfl,fun k hk=>?_,zn eq sub6 gv⟩
 ·rw[aC (aI ez hM)];exact aA.upd hp7 _ _ (kb6 _ _ nz (kb _ _ nz ez))
 ·exact(s6.same (Gt _) (aA.upd hp7)).setL hM7
 ·rcases Lw.mp hk with h|h
  ·have:=sz k h;omega
  ·rw[Ky.mp h];omega
theorem Ld.start {H H3:Hp}{f b M t0:Addr}{d:Kd}{c:Nat}{e:Key}{st:List (Int×Key)}{g:gOp}{n:Nat}(s:Stp A H f b d g n)(S:aA H H3)(he:enK e)(ht:H3 t0=some (.tup [.str "entry",kV e]))(hM:H3 M=some (.lst [.ref t0])):Ld A H H3 f b M d c e st 0 g g n [] t0 [] [.inr "entry",e]:=
 ⟨aO.same S,s.same (Gt _) S,Sub.rfl',hM,.cons ⟨ht,gN he.1⟩ .nil,rfl,fun k hk=>by
  rw[Ky.mp hk,sz2,szW.2.1];have:=he.2;omega,fun h _=>rfl⟩
theorem Ld.done {H H':Hp}{f b M:Addr}{d:Kd}{c:Nat}{e:Key}{st:List (Int×Key)}{i m:Nat}{g g':gOp}{n:Nat}{ps:List Addr}{p:Addr}{tt:List (List Key)}{t:List Key}{Q:VK}
  (l:Ld A H H' f b M d c e st i g g' n ps p tt t)(hM:H M=none)(hi:i<=62)(em:m=i+1)(q:qg A f b d c st e m g n H Q):Q (.ref M) H':=by
 subst em
 have nM:M≠b:=l.s.nb l.hM (fun _ z=>nomatch z) (fun _ z=>nomatch z)
 refine q M (ps++[p]) (tt++[t]) g' H' l.kb (l.s.same (by omega) (.refl _)) l.sub hM nM (by rw[l.hM,Kq];rfl) l.pk (fun x hx=>?_) (by rw[Kn,l.len];rfl) (fun k hk=>by have:=l.sz k hk;omega) l.eq
 obtain⟨j,hj⟩:=MV.mp hx
 have hlt:j<(tt++[t]).length:=by rw[<-cT l.pk];exact(Kr.mp hj).1
 obtain⟨p',h1,h2,_⟩:=vB l.pk (If hlt)
 rw[hj]at h1
 cases h1
 exact l.s.nb h2 (fun _ z=>nomatch z) (fun _ z=>nomatch z)
theorem wk {ts:List Int}{ks:List Key}(h:∀k∈ks,enK k):∀x∈stR ts ks,enK x.2:=fun x hx=>h _ (mK hx).2
theorem CY (K:pv)(A:Adr):Ln (kh K A) 4:=by rintro vs H Q E ⟨f,b,P,T,d,c,p,ks,e,g,n,rfl,_⟩;rfl
theorem HF (T:Txt K mg A):Rd (kh K A) (Jg K A) ["stamper","count","place","paper","turns","terms","step"]:=by
 intro vs H Q E h
 obtain⟨f,b,P,TT,d,c,p,ks,e,g,n,rfl,pp,lt,q⟩:=h
 obtain⟨s,hn,c1,c2,tl,t01,kl,ee,ke,w⟩:=pp
 refine⟨_,_,rfl,by omega,by omega,by omega,Sel.no rfl ⟨p,c,rfl,lt,by omega,fun W hWn=>?_⟩⟩
 have S1:aA H (upd H W (.lst ((bo c p).map V.int))):=aA.upd hWn
 have hW:upd H W (.lst ((bo c p).map V.int)) W=some (.lst ((bo c p).map V.int)):=au
 generalize upd H W (.lst ((bo c p).map V.int))=H1 at S1 hW
 generalize hts:bo c p=ts at*
 refine⟨W,P,TT,_,e,ks,rfl,hW,w.same S1,ee.1,fun k hk=>(ke k hk).1,kl,by omega,fun H2 S2=>Sel.no rfl ?_⟩
 have w2:=(w.same S1).same S2
 refine ixT (j:=0) w2.hP rfl rfl ⟨aQ (show 2<=1000000 by decide),fun t ht=>⟨aQ (show 1<=1000000 by decide),fun L hL=>?_⟩⟩
 have S3:aA H2 (upd (upd H2 t (.tup [.str "entry",kV e])) L (.lst [.ref t])):=(aA.upd ht).trans (aA.upd hL)
 have hL3:upd (upd H2 t (.tup [.str "entry",kV e])) L (.lst [.ref t]) L=some (.lst [.ref t]):=au
 have ht3:upd (upd H2 t (.tup [.str "entry",kV e])) L (.lst [.ref t]) t=some (.tup [.str "entry",kV e]):=aA.upd hL _ _ au
 have hLn:H2 L=none:=(cn hL).2
 generalize upd (upd H2 t (.tup [.str "entry",kV e])) L (.lst [.ref t])=H3 at S3 hL3 ht3
 have w3:=w2.same S3
 have hLH:H L=none:=by
  cases z:H L with
  |none=>rfl
  |some o=>rw[S2 _ _ (S1 _ _ z)]at hLn;cases hLn
 refine ixT (j:=1) w3.hP rfl rfl ⟨W,TT,_,_,rfl,SqL.of (S3 _ _ (S2 _ _ hW)),SqT.of w3.hT,by rw[pz,pz,kl],fun Z ps H4 hZn S4 lp hps hZ=>⟨Z,_,rfl,.inl ⟨SqL.of hZ,?_⟩⟩⟩
 have S:aA H H4:=S1.trans (S2.trans (S3.trans S4))
 have lps:ps.length=ts.length:=by rw[lp,pz]
 have hp4:∀(j:Nat)(p:Addr)(tn:Int)(k:Key),ps[j]?=some p->ts[j]?=some tn->ks[j]?=some k->H4 p=some (.tup [.int tn,kV k]):=fun j p' tn k h1 h2 h3=>hps j p' _ _ h1 (by rw[KL,h2];rfl) (by rw[KL,h3];rfl)
 have LZ:Z≠L:=Lj (aI hL3 hZn)
 have hL4:=S4 _ _ hL3
 refine Dl (da.revL (xs:=ps.map V.ref) .non) (fun i σ H'=>∃x6 g' qs pr tt t',σ=[some (.ref f),some (.int (c:Int)),some (.int (p:Int)),some (.ref P),some (.ref W),some (.ref L),x6]/\Ld A H H' f b L d c e (stR ts ks) i g g' n qs pr tt t'/\H' Z=some (.lst (ps.map V.ref))/\
   ∀(j:Nat)(p:Addr)(tn:Int)(k:Key),ps[j]?=some p->ts[j]?=some tn->ks[j]?=some k->H' p=some (.tup [.int tn,kV k]))
  ⟨none,g,_,_,_,_,rfl,Ld.start s S ee (S4 _ _ ht3) hL4,hZ,hp4⟩
  (fun i σ H' _ h=>?_) (fun i σ H5 hi h=>?_) (fun σ H5 h=>?_)
 ·obtain⟨_,_,_,_,_,_,_,_,x,_⟩:=h
  exact SqL.of x
 ·obtain⟨x6,g5,qs,pr,tt,t5,rfl,l,hZ5,hp5⟩:=h
  have hi:i<ts.length:=by rw[pz,lps]at hi;exact hi
  obtain⟨tn,k,h1,h2,h3⟩:=AC kl (i:=i) hi
  obtain⟨pj,hpj⟩:∃pj,ps[ts.length- 1- i]?=some pj:=⟨_,If (by omega)⟩
  have hg:(ps.map V.ref).reverse.getD i .non=.ref pj:=by
   rw[KA,LX (by rw[pz];omega),pz,lps,KL,hpj];rfl
  rw[hg]
  have hpp:=hp5 _ _ _ _ hpj h1 h2
  have s5:=l.s
  have npj:pj≠b:=s5.nb hpp (fun _ z=>nomatch z) (fun _ z=>nomatch z)
  have nZ:Z≠b:=s5.nb hZ5 (fun _ z=>nomatch z) (fun _ z=>nomatch z)
  have en:∀v,bM c (stR ts ks) i v=jtT tn v k:=fun v=>by unfold bM;rw[h3]
  have hlen:(qs.map V.ref++[V.ref pr]).length<sizeLine:=by
   have:=gf l.pk
   have:=l.len
   rw[Kn,pz];exact bn (by show qs.length+1<=_;omega)
  refine⟨.inl ⟨rfl,_,SqL.of l.hM⟩,ixT (j:=0) hpp rfl rfl ⟨f,rfl,s5.clo,eR l.hM ?_⟩⟩
  dsimp only[av]
  refine l.step hLH c2 (wk ke) (by omega) (by omega) fun v H6 g6 kb6 hL6 nx=>?_
  refine ixT (j:=1) (kb6 _ _ npj hpp) rfl rfl ⟨tn,v,k,rfl,fun p7 hp7=>⟨L,_,.ref p7,rfl,rfl,aA.upd hp7 _ _ hL6,hlen,?_⟩⟩
  have l7:=nx p7 hp7
  rw[en v]at l7
  have Sx:∀z o,z≠L->H6 z=some o->upd (upd H6 p7 (.tup ((jtT tn v k).map kV))) L (.lst (qs.map V.ref++[.ref pr]++[.ref p7])) z=some o:=fun z o nz ez=>by rw[aC nz];exact aA.upd hp7 _ _ ez
  refine⟨_,g6,_,_,_,_,rfl,l7,Sx _ _ LZ (kb6 _ _ nZ hZ5),fun j p' tn' k' a1 a2 a3=>?_⟩
  have h5:=hp5 j p' tn' k' a1 a2 a3
  exact Sx _ _ (bN h5 l.hM (fun z=>nomatch z)) (kb6 _ _ (s5.nb h5 (fun _ z=>nomatch z) (fun _ z=>nomatch z)) h5)
 ·obtain⟨x6,g5,qs,pr,tt,t5,rfl,l,hZ5,hp5⟩:=h
  rw[pz,lps]at l
  have e0:∀v,bM c (stR ts ks) ts.length v=[.inr "row",.inl (c:Int),v]:=fun v=>by unfold bM;rw[Lo (by rw[dy kl];omega)]
  have hlen:(qs.map V.ref++[V.ref pr]).length<sizeLine:=by
   have:=gf l.pk
   have:=l.len
   rw[Kn,pz];exact bn (by show qs.length+1<=_;omega)
  refine⟨.inl ⟨rfl,_,SqL.of l.hM⟩,f,rfl,l.s.clo,eR l.hM ?_⟩
  dsimp only[av]
  refine l.step hLH c2 (wk ke) (by omega) (by omega) fun v H6 g6 kb6 hL6 nx=>?_
  refine⟨aQ (show 3<=1000000 by decide),fun p7 hp7=>⟨L,_,.ref p7,rfl,rfl,aA.upd hp7 _ _ hL6,hlen,?_⟩⟩
  have l7:=nx p7 hp7
  rw[e0 v]at l7
  exact l7.done hLH (by omega) rfl q
theorem DW (K:pv)(A:Adr):Ln (pD K A) 4:=by rintro vs H Q E ⟨f,b,P,T,d,c,p,ks,e,g,n,rfl,_⟩;rfl
theorem Gc (T:Txt K mg A):Rd (pD K A) (IL K A) ["stamper","count","place","paper"]:=by
 intro vs H Q E h
 obtain⟨f,b,P,TT,d,c,p,ks,e,g,n,rfl,pp,lt,q⟩:=h
 have hn:=pp.hn
 refine⟨f,rfl,pp.s.clo,f,b,P,TT,d,c,p,ks,e,g,n,rfl,pp,lt,fun M ps tt g1 H1 k1 s1 sub1 hMn nM hM pk npb tl sz eq=>?_⟩
 obtain⟨r,t,rfl⟩:=qg.last tl
 obtain⟨qs,p1,rfl,pk1⟩:=li pk
 obtain⟨hp,ok⟩:=iA (gf pk1) pk1
 rw[Kq]at hM
 refine eR hM ?_
 dsimp only[av]
 refine cB s1 (by omega) hp ok fun v H2 g2 kb s2 sub2 gv st=>?_
 have szt:=sz t (by simp)
 refine q v g2 H2 (k1.trans kb) s2 (sub1.trans sub2) (dg st (by omega)) fun h eh=>?_
 rw[dy pp.kl,<-rz eq (Ext.of sub2 eh),eh _ _ gv]
theorem DB (K:pv)(A:Adr):Ln (pR K A) 4:=by rintro vs H Q E ⟨f,b,hd,P,T,d,c,p,ks,e,mk,g,n,rfl,_⟩;rfl
theorem HK (T:Txt K mg A)(vs:List V)(H:Hp)(Q:VK)(E:XK)(h:pR K A vs H Q E):BO K A E {nx:=fun _ H'=>Q .non H',rt:=Q} (L2.start ["stamper","head","place","paper","came"] vs) H:=by
 obtain⟨f,b,hd,P,TT,d,c,p,ks,e,mk,g,n,rfl,pp,lt,hh,okm,q⟩:=h
 have nh:hd≠b:=pp.s.nb hh (fun _ z=>nomatch z) (fun _ z=>nomatch z)
 refine⟨hd,c,mk,rfl,hh,pp.c2,okm,ixT (j:=0) hh rfl rfl ?_⟩
 refine⟨f,b,P,TT,d,c,p,ks,e,g,n,rfl,pp,lt,fun w g1 H1 k1 s1 sub1 okw ew=>?_⟩
 obtain⟨q1,q2⟩:=q w g1 H1 k1 s1 sub1 okw ew
 have hh1:=k1 _ _ nh hh
 refine ixT (j:=1) hh1 rfl rfl (nG ?_)
 by_cases ewm:w=mk
 ·refine Sel.no (by rw[decide_eq_true ewm];rfl) ?_
  exact ixT (j:=0) (pp.w.kb pp.s k1).hP rfl rfl (q1 ewm)
 ·refine Sel.yes (by rw[decide_eq_false ewm];rfl) ?_
  refine ixT (j:=1) hh1 rfl rfl fun a ha=>⟨a,kV mk,kV w,rfl,au,fun dx hdx=>⟨rfl,some dx,?_,?_⟩⟩
  ·obtain⟨nd,_⟩:=cn hdx
   rw[aC (Lj nd),aC (Lj nd)];exact au
  ·obtain⟨nd,hd0⟩:=cn hdx
   refine q2 ewm dx _ (fun z o ez=>?_) (by rw[dw nd];exact au)
   have na:=aI ez ha
   have nz:=aI ez hd0
   rw[dw na,aC nz,aC nz,aC na,aC na];exact ez
end
theorem wK (c:Int)(k:Nat):(sgn c k).length=1/\cm (sgn c k)=true:=by
 obtain⟨g1,g2,g3⟩:=wU
 refine⟨rfl,?_⟩
 unfold sgn
 have hi:(((c/5+(k:Int)*(c/470%7))%94).toNat)<(sg1++sg2).cps.toList.length:=by rw[g2];omega
 generalize (((c/5+(k:Int)*(c/470%7))%94).toNat)=i at hi
 rw[KA,If hi]
 have:=of_decide_eq_true (LD.mp g3 _ (Mv hi))
 unfold cm
 simpa using this
theorem wv (c:Int):(txB c).length<=4/\cm (txB c)=true:=by
 have one:∀z∈(MZ (c%5).toNat).map (sgn c),z.length=1/\cm z=true:=fun z hz=>by
  obtain⟨k,_,rfl⟩:=LC.mp hz
  exact wK c k
 refine⟨?_,yj fun z hz=>(one z hz).2⟩
 unfold txB
 rw[xQ _ fun z hz=>(one z hz).1,pz,Pe]
 omega
theorem EQ {α:Type}{xs:List α}{i:Int}(h0:0<=i)(h1:i<xs.length):atI xs i=xs[i.toNat]?:=by
 unfold atI L2.ixN
 rw[if_pos h0,if_pos h1];rfl
theorem Cw (K:pv)(A:Adr):Ln (pX K A) 1:=by rintro vs H Q E ⟨i,rfl,_⟩;rfl
theorem Hk (T:Txt K mg A):Rd (pX K A) (JC K A) ["_law_cell","_law_some"]:=by
 intro vs H Q E h
 obtain⟨c,rfl,q⟩:=h
 obtain⟨g1,g2,g3⟩:=wU
 refine⟨aQ GC,?_⟩
 show uR K A _ [some (.int c),some (.str (sg1++sg2))] H
 refine⟨rfl,by decide,c%5,rfl,by omega,by omega,fun D hD=>?_⟩
 refine ft (da.range (lo:=0) (n:=(c%5).toNat)) (fun i ys H2=>ys=((MZ i).map (sgn c)).map V.str/\H2=upd H D (.lst ys)) (fun _ _ _ _ _=>trivial) ⟨rfl,rfl⟩ (fun i ys H2 hi ⟨e1,e4⟩=>?_) ?_
 ·subst e4
  refine mO ⟨⟨by decide,by decide⟩,⟨by decide,by decide⟩,by decide,JF (by omega) (by omega),by decide,?_⟩
  have ez:(0:Int)+(i:Int)=(i:Int):=by omega
  rw[ez]
  refine .inl (.inr (.inr ⟨_,_,(sg1++sg2).cps.toList.getD (((c/5+(i:Int)*(c/470%7))%94).toNat) 0,rfl,rfl,by rw[g1];exact aQ (by decide),?_,?_⟩))
  ·have hi:(((c/5+(i:Int)*(c/470%7))%94).toNat)<(sg1++sg2).cps.toList.length:=by rw[g2];omega
   rw[EQ (by omega) (by rw[g2];omega),KA,If hi];rfl
  have hyl:ys.length=i:=by rw[e1,pz,pz,Pe]
  refine⟨au,by rw[hyl];exact bn (by omega),CWd.next hi ⟨?_,dm⟩⟩
  rw[e1,PM,Kq,Kq];rfl
 ·rintro ys H2 ⟨rfl,rfl⟩
  obtain⟨l4,asc⟩:=wv c
  refine⟨_,_,(MZ (c%5).toNat).map (sgn c),rfl,rfl,au,?_,q _ (aA.upd hD) l4 asc⟩
  have e0:(("":String):Str).length=0:=by decide
  rw[e0,kX _ fun z hz=>by obtain⟨k,_,rfl⟩:=LC.mp hz;exact(wK c k).1]
  rw[pz,Pe]
  omega
theorem DJ (c:Int):smK (stB c):=by
 unfold stB
 have p60:(7:Int)<10^60:=by decide+kernel
 have num:∀i:Int,0<=i->i<10^60->smK (.inl i):=fun i h0 h1=>⟨decide_eq_true ⟨h0,h1⟩,show 62<=70 by decide⟩
 split
 ·obtain⟨l4,asc⟩:=wv (c/4)
  refine⟨?_,by show(txB (c/4)).length+62<=70;omega⟩
  show(cm (txB (c/4))&&decide ((txB (c/4)).length<=2000000))=true
  rw[asc,decide_eq_true (by omega)];rfl
 ·split
  ·have p:(0:Int)<10^60:=by decide+kernel
   exact num _ (MF _ (Int.ne_of_gt p)) (Me _ p)
  ·exact num _ (by omega) (by omega)
theorem smK.en {e:Key}(h:smK e):enK e:=⟨h.1,KN h.2 (by decide)⟩
theorem DP (K:pv)(A:Adr):Ln (fK K A) 1:=by rintro vs H Q E ⟨i,rfl,_⟩;rfl
theorem FA (T:Txt K mg A):Rd (fK K A) (Kf K A) ["_law_cell"]:=by
 intro vs H Q E h
 obtain⟨c,rfl,q⟩:=h
 have ok:=DJ c
 have q0:=q H aA.rfl' ok
 refine⟨by decide,Sel.dec (fun h=>?_) (fun h=>?_)⟩
 ·have h:c%4=0:=h
  have e:stB c=.inr (txB (c/4)):=if_pos h
  refine⟨by decide,_,rfl,fun H' S hz ha=>?_⟩
  have:=q H' S ok
  rw[e]at this;exact this
 have h:¬c%4=0:=h
 refine⟨by decide,Sel.dec (fun h1=>?_) (fun h1=>?_)⟩
 ·have h1:c%4=1:=h1
  have e:stB c=.inl (c/4%10^60):=by unfold stB;rw[if_neg h,if_pos h1]
  rw[e]at q0
  exact⟨by decide,⟨by decide,by decide,by decide⟩,by decide+kernel,q0⟩
 ·have h1:¬c%4=1:=h1
  have e:stB c=.inl (c/4%7):=by unfold stB;rw[if_neg h,if_neg h1]
  rw[e]at q0
  exact⟨by decide,by decide,q0⟩
theorem Gm (K:pv)(A:Adr):Ln (uo K A) 1:=by rintro vs H Q E ⟨m,rfl,_⟩;rfl
theorem Jc (T:Txt K mg A):Rd (uo K A) (T_5 K A) ["_law_cell"]:=by
 intro vs H Q E h
 obtain⟨c,rfl,q⟩:=h
 have q':∀i:Int,1<=i->i<=4200->Q (.int i) H:=fun i h0 h1=>by
  obtain⟨m,rfl⟩:=Lq (by omega:0<=i)
  exact q m (by omega) (by omega)
 refine⟨by decide,Sel.dec (fun h=>?_) (fun h=>?_)⟩
 ·exact⟨⟨by decide,by decide⟩,by decide,q' _ (by omega) (by omega)⟩
 refine⟨by decide,Sel.dec (fun h=>?_) (fun h=>?_)⟩
 ·refine⟨⟨by decide,by decide⟩,by decide,⟨by omega,by omega,by decide⟩,⟨by decide,by decide⟩,by decide,?_⟩
  have k1:1<=(1+c/3%12).toNat:=by omega
  have k2:(1+c/3%12).toNat<=12:=by omega
  generalize (1+c/3%12).toNat=k at k1 k2⊢
  have a:(2:Nat)^1<=2^k:=Mh (by decide) k1
  have b:(2:Nat)^k<=2^12:=Mh (by decide) k2
  show Q (.int (1*2^k+c/36%4- 1)) H
  have e:(2:Int)^k=((2^k:Nat):Int):=(Ac k).symm
  exact q' _ (by rw[e];omega) (by rw[e];omega)
 ·refine⟨⟨by decide,by decide⟩,⟨by decide,by decide,by decide⟩,by decide,?_⟩
  show Q (.int (1+c/3%(1*2^12))) H
  exact q' _ (by omega) (by omega)
theorem EJ (K:pv)(A:Adr):Ln (lE K A) 2:=by rintro vs H Q E ⟨c,n,rfl,_⟩;rfl
theorem FR (T:Txt K mg A):Rd (lE K A) (Ji K A) ["_law_cell","_law_count"]:=by
 intro vs H Q E h
 obtain⟨c,n,rfl,n1,q⟩:=h
 refine⟨by decide,Sel.dec (fun h=>q n n1 (Gt _)) (fun h=>?_)⟩
 refine⟨⟨by decide,by decide⟩,by omega,?_⟩
 have r0:=MF (c/4) (b:=(n:Int)) (by omega)
 have r1:=Me (c/4) (b:=(n:Int)) (by omega)
 obtain⟨m,em⟩:=Lq (show 0<=1+c/4%(n:Int)by omega)
 show Q (.int (1+c/4%(n:Int))) H
 rw[em];exact q m (by omega) (by omega)
theorem Cs (K:pv)(A:Adr):Ln (gS K A) 1:=by rintro vs H Q E ⟨m,rfl,_⟩;rfl
theorem Ha (T:Txt K mg A)(vs:List V)(H:Hp)(Q:VK)(E:XK)(h:gS K A vs H Q E):JS K A {nx:=fun _ H'=>Q .non H',rt:=Q} (L2.start ["_law_many"] vs) H:=Ao T vs H Q E h
theorem DT {w:Str}(hw:w="z"\/w="y"){n:Nat}(hn:n<=100000):okP (.inr (Ol w (n:Int)))=true/\(Ol w (n:Int)).length<=n:=by
 obtain⟨c,hc,rfl⟩:∃c:Nat,c<128/\w=⟨#[c]⟩:=by
  rcases hw with rfl|rfl
  ·exact⟨122,by decide,by decide+kernel⟩
  ·exact⟨121,by decide,by decide+kernel⟩
 have hl:(Ol ⟨#[c]⟩ (n:Int)).length<=n:=len_mul_one (N:=n) rfl (by omega)
 refine⟨?_,hl⟩
 show(cm _&&decide _)=true
 rw[decide_eq_true (by omega),Tq]
 unfold cm
 rw[<-Array.all_toList,mul_one_list,LD]
 intro x hx
 rw[(List.mem_replicate.mp hx).2];exact decide_eq_true hc
theorem Ho (T:Txt K mg A):Rd (jK K A) (Jz K A) ["_law_mark"]:=by
 intro vs H Q E h
 obtain⟨m,rfl,en,q⟩:=h
 cases m with
 |inl i=>
  refine⟨by decide,"int",rfl,Sel.no rfl ?_⟩
  have r0:=MF (i+2520) (b:=10^60) (by decide+kernel)
  have r1:=Me (i+2520) (b:=10^60) (by decide+kernel)
  have k:∀i:Int,0<=i->i<10^60->okP (.inl i)=true:=fun i h0 h1=>decide_eq_true ⟨h0,h1⟩
  refine⟨⟨by decide,by decide,by decide⟩,by decide+kernel,?_⟩
  exact q (.inl ((i+2520)%10^60)) H (.refl H) ⟨k _ r0 r1,(by show 62<=24000;decide)⟩
 |inr z=>
  have hz:z.length+62<=24000:=en.2
  refine⟨by decide,"str",rfl,Sel.yes rfl ⟨aQ (show 2<=1000000 by decide),fun p hp=>⟨1,rfl,.inr ⟨z,rfl,Mb (aQ (by omega)),?_⟩⟩⟩⟩
  have fin:∀w:Str,(w="z"\/w="y")->uH (.str w) (.int (z.length:Int)) (upd H p (.lst [.str "z",.str "y"])) Q:=fun w hw=>by
   obtain⟨o1,o2⟩:=DT hw (n:=z.length) (by omega)
   refine⟨w,_,rfl,rfl,⟨by omega,by omega,by rcases hw with rfl|rfl<;>decide⟩,q (.inr (Ol w (z.length:Int))) _ (aA.upd hp) ⟨o1,KN (RB o2 62) hz⟩⟩
  by_cases e:OU z none (some 1)="z"
  ·show aG K (.ref p) (.int (if decide (OU z none (some 1)="z")=true then 1 else 0)) _ _
   rw[if_pos (decide_eq_true e)]
   exact ixL (j:=1) au rfl rfl (.inl ⟨Mb (aQ (by omega)),fin _ (.inr rfl)⟩)
  ·show aG K (.ref p) (.int (if decide (OU z none (some 1)="z")=true then 1 else 0)) _ _
   rw[if_neg (by rw[decide_eq_false e];decide)]
   exact ixL (j:=0) au rfl rfl (.inl ⟨Mb (aQ (by omega)),fin _ (.inl rfl)⟩)
theorem mM {lo m c s:Nat}(h:c<=m):inR lo m s=inR lo c s+inR (lo+c) (m- c) s:=by
 unfold inR
 split<;>split<;>split<;>omega
theorem CM {x:Tre}{lo m c:Nat}(h:c<=m):nS x lo m=nS x lo c+nS x (lo+c) (m- c):=by
 unfold nS
 rw[mM (s:=x.s0) h,mM (s:=x.s1) h,mM (s:=x.s2) h];omega
theorem iI {x:Tre}{lo m:Nat}:nS x lo m<=3:=by
 unfold nS inR;split<;>split<;>split<;>omega
theorem tX {x:Tre}{lo m s:Nat}(h:s=x.s0\/s=x.s1\/s=x.s2)(h1:lo<=s)(h2:s<lo+m):nS x lo m≠0:=by
 have e:inR lo m s=1:=if_pos ⟨h1,h2⟩
 unfold nS
 rcases h with rfl|rfl|rfl<;>rw[e]<;>omega
theorem kq {h:List Key->Key}{x:Tre}:∀(f f' lo m:Nat),1<=m->m<=f->m<=f'->trM h x f lo m=trM h x f' lo m
 |0,_,_,_,h1,h2,_=>by omega
 |f+1,0,_,_,h1,_,h2=>by omega
 |f+1,f'+1,lo,m,h1,h2,h3=>by
  unfold trM
  by_cases e1:m=1/\lo=x.s0
  ·rw[if_pos e1,if_pos e1]
  rw[if_neg e1,if_neg e1]
  by_cases e2:m=1\/nS x lo m=0
  ·rw[if_pos e2,if_pos e2]
  rw[if_neg e2,if_neg e2]
  have m2:2<=m:=by omega
  have b1:=bO m2
  have b2:=dB m
  rw[kq f f' lo (aq m) (by omega) (by omega) (by omega),kq f f' (lo+aq m) (m- aq m) (by omega) (by omega) (by omega)]
theorem lx {h:List Key->Key}{x:Tre}:tr h x x.s0 1=h [.inr "entry",x.e]:=by
 show trM h x 1 x.s0 1=_
 unfold trM;rw[if_pos ⟨rfl,rfl⟩]
theorem Bu {h:List Key->Key}{x:Tre}{lo m:Nat}(m1:1<=m)(h0:¬(m=1/\lo=x.s0))(h1:m=1\/nS x lo m=0):tr h x lo m=stB (x.seed+5*(lo:Int)+3*(m:Int)):=by
 unfold tr
 cases m with
 |zero=>omega
 |succ m=>unfold trM;rw[if_neg h0,if_pos h1]
theorem jO {h:List Key->Key}{x:Tre}{lo m:Nat}(m2:2<=m)(h1:nS x lo m≠0):tr h x lo m=h [.inr "joint",tr h x lo (aq m),tr h x (lo+aq m) (m- aq m)]:=by
 have b1:=bO m2
 have b2:=dB m
 unfold tr
 cases m with
 |zero=>omega
 |succ m=>
  rw[trM,if_neg (by omega),if_neg (by omega)]
  rw[kq m (aq (m+1)) lo (aq (m+1)) (by omega) (by omega) (by omega),kq m (m+1- aq (m+1)) (lo+aq (m+1)) (m+1- aq (m+1)) (by omega) (by omega) (by omega)]
theorem Az {H:Hp}{Q:VK}{a b:Addr}{k:List Key}(ha:H a=some (.lst (k.map kV)))(hb:H b=some (.lst []))(ok:k.all gI=true)(q:Q (.bl (decide (k=[]))) H):bw K (.ref a) (.ref b) H Q:=by
 refine .inr (.inl ⟨.list (k.map bC),.list [],.lst (SqL.of ha) (L2.fM k),.lst (SqL.of hb) .nil,bZ ok,rfl,?_,?_⟩)
 ·show LJ (k.map bC)+1<=150;rw[eE];decide
 ·show Q (.bl (OC (k.map bC) (([]:List Key).map bC))) H
  rw[dL];exact q
def spF (x:Tre):Nat->Nat
 |0=>x.s0
 |1=>x.s1
 |_=>x.s2
def qA (x:Tre)(lo m:Nat):Nat->Nat
 |0=>0
 |i+1=>qA x lo m i+inR lo m (spF x i)
theorem dE.same {H H':Hp}{t S:Addr}{x:Tre}(w:dE H t S x)(k:aA H H'):dE H' t S x:=⟨k _ _ w.ht,k _ _ w.hS,w.ok⟩
theorem dE.kb {H H':Hp}{f b t S:Addr}{d:Kd}{g:gOp}{n:Nat}{x:Tre}(w:dE H t S x)(s:Stp A H f b d g n)(k:aO b H H'):dE H' t S x:=⟨k _ _ (s.nb w.ht (fun _ z=>nomatch z) (fun _ z=>nomatch z)) w.ht,k _ _ (s.nb w.hS (fun _ z=>nomatch z) (fun _ z=>nomatch z)) w.hS,w.ok⟩
theorem uD {H:Hp}{t S D:Addr}{x:Tre}{lo m:Nat}{σ:L2.St}{Q:VK}(tw:dE H t S x)(hσ:bJ σ [2,3]=[some (.int (lo:Int)),some (.int (m:Int))])(hD:H D=none)
  (q:∀ks:List Key,ks.length=nS x lo m->ks.all gI=true->Q (.ref D) (upd H D (.lst (ks.map kV)))):
  sP [2,3] (aU (dG (mLe) (mLt) (af 1) (af 0) (tOp (bi K) (af 1) (af 2)))) (af 0) σ D (Itl K S) H Q:=by
 have nl:S≠D:=aI tw.hS hD
 refine ft (da.list (xs:=[.int (x.s0:Int),.int (x.s1:Int),.int (x.s2:Int)]) .non) (fun i ys H2=>H2=upd H D (.lst ys)/\∃ks:List Key,ys=ks.map kV/\ks.length=qA x lo m i/\ks.all gI=true/\ks.length<=i) ?_ ⟨rfl,[],rfl,rfl,rfl,Gt _⟩ ?_ ?_
 ·rintro i ys _ _ ⟨rfl,_⟩;exact SqL.of (by rw[aC nl];exact tw.hS)
 ·rintro i ys _ hi ⟨rfl,ks,rfl,l1,a1,l2⟩
  have hi':i<3:=hi
  have it:([.int (x.s0:Int),.int (x.s1:Int),.int (x.s2:Int)]:List V).getD i .non=.int (spF x i:Int):=by
   match i,hi' with
   |0,_=>rfl
   |1,_=>rfl
   |2,_=>rfl
  rw[it,hσ]
  have no:inR lo m (spF x i)=0->upd H D (.lst (ks.map kV))=upd H D (.lst (ks.map kV))/\∃ls:List Key,ks.map kV=ls.map kV/\ls.length=qA x lo m (i+1)/\ls.all gI=true/\ls.length<=i+1:=fun e=>⟨rfl,ks,rfl,by show _=qA x lo m i+_;rw[e,l1];rfl,a1,by omega⟩
  refine Sel.dec (fun h1=>?_) (fun h1=>?_)
  ·have h1:(lo:Int)<=(spF x i:Int):=h1
   refine mV (fun h2=>?_) (fun h2=>?_)
   ·have h2:(spF x i:Int)<(lo:Int)+(m:Int):=h2
    have e:inR lo m (spF x i)=1:=if_pos ⟨by omega,by omega⟩
    refine⟨au,bn (by rw[pz];omega),CWd.next hi ⟨by rw[dm],ks++[.inl (spF x i:Int)],by rw[Kq];rfl,?_,?_,?_⟩⟩
    ·rw[Kn,l1];show _=qA x lo m i+_;rw[e];rfl
    ·rw[List.all_append,a1];rfl
    ·rw[Kn];show ks.length+1<=_;omega
   ·have h2:¬(spF x i:Int)<(lo:Int)+(m:Int):=h2
    exact CWd.next hi (no (if_neg (by omega)))
  ·have h1:¬(lo:Int)<=(spF x i:Int):=h1
   exact Ka (CWd.next hi (no (if_neg (by omega))))
 ·rintro ys _ ⟨rfl,ks,rfl,l1,a1,l2⟩
  refine q ks ?_ a1
  rw[l1]
  show 0+_+_+_=_
  rw[Rn];rfl
theorem BH (K:pv)(A:Adr)(n:Nat):Ln (eN K A n) 4:=by rintro vs H Q E ⟨f,b,t,S,d,x,g,n,lo,m,e,rfl,_⟩;rfl
theorem zy (K:pv)(A:Adr):∀vs H Q E,eN K A 0 vs H Q E->False:=by rintro vs H Q E ⟨f,b,t,S,d,x,g,n,lo,m,e,rfl,_,_,_,_,_,_,h,_⟩;omega
theorem Gq (T:Txt K mg A)(n:Nat):Rd (eN K A (n+1)) (Kl K A n) ["_law_stamper_here","_law_tree","_law_low","_law_many","_law_cut","_law_left"]:=by
 intro vs H Q E h
 obtain⟨f,b,t,S,d,x,g,n0,lo,m,e,rfl,s,hn,tw,m1,m4,me,ej,e13,q⟩:=h
 have drawn:∀H1,aA H H1->¬(m=1/\lo=x.s0)->(m=1\/nS x lo m=0)->aS (aD (fK K A) (fun _=>E0) (ai (tOp (bi K) (tOp (bi K) (tOp (aG K) (af 1) (tC (.int 0))) (tOp (ib) (tC (.int 5)) (af 2))) (tOp (ib) (tC (.int 3)) (af 3))) (av))) {nx:=qa K A n {nx:=fun _ H'=>Q .non H',rt:=Q},rt:=Q} [some (.ref f),some (.ref t),some (.int (lo:Int)),some (.int (m:Int)),none,none] H1:=by
  intro H1 S1 h0 h1
  refine ixT (j:=0) (S1 _ _ tw.ht) rfl rfl ⟨Nt (by decide),Nt (by decide),_,rfl,fun H2 S2 ok=>?_⟩
  exact q _ g H2 (aO.same (S1.trans S2)) (s.same (by omega) (S1.trans S2)) Sub.rfl' ok.1 (by have:=ok.2;omega) fun h _=>(Bu m1 h0 h1).symm
 have bQ:∀H1,aA H H1->2<=m->nS x lo m≠0->qa K A n {nx:=fun _ H'=>Q .non H',rt:=Q} [some (.ref f),some (.ref t),some (.int (lo:Int)),some (.int (m:Int)),none,none] H1:=by
  intro H1 S1 m2 ns
  have b1:=bO m2
  have b2:=dB m
  have n3:=iI (x:=x) (lo:=lo) (m:=m)
  have na:=CM (x:=x) (lo:=lo) (show aq m<=m by omega)
  cases e with
  |zero=>have:m<=1:=me;omega
  |succ e=>
  have b3:=cj m2 me
  have b4:=bX m2
  have hl:nS x lo (aq m)*(e+1)<=3*14:=LV (by omega) (by omega)
  have es:nS x lo m*(e+1+1)=nS x lo (aq m)*(e+1)+nS x (lo+aq m) (m- aq m)*(e+1)+nS x lo m:=by rw[na,Nat.add_mul,Qb _ (e+1) 1,Qb _ (e+1) 1];omega
  have es2:nS x lo m*(e+1)=nS x lo (aq m)*e+nS x (lo+aq m) (m- aq m)*e+nS x lo m:=by rw[na,Nat.add_mul,Qb _ e 1,Qb _ e 1];omega
  have s1:=s.same (Gt _) S1
  refine⟨m,rfl,m2,KN m4 (by decide),?_⟩
  refine⟨f,b,t,S,d,x,g,n0,lo,aq m,e,rfl,s1,by omega,tw.same S1,b2,by omega,b3,by omega,by omega,fun v g2 H2 k2 s2 sub2 ok2 sz2 ev2=>?_⟩
  have tw2:=(tw.same S1).kb s1 k2
  refine⟨f,rfl,s2.clo,?_⟩
  have e1:(lo:Int)+(aq m:Int)=((lo+aq m:Nat):Int):=by omega
  have e2:(m:Int)- (aq m:Int)=((m- aq m:Nat):Int):=by omega
  refine⟨f,b,t,S,d,x,g2,n0+nS x lo (aq m)*(e+1),lo+aq m,m- aq m,e,(show([.ref f,.ref t,.int ((lo:Int)+(aq m:Int)),.int ((m:Int)- (aq m:Int))]:List V)=_ by rw[e1,e2]),s2,by omega,tw2,by omega,by omega,by omega,by omega,by omega,fun w g3 H3 k3 s3 sub3 ok3 sz3' ev3=>?_⟩
  refine⟨aQ (show 3<=1000000 by decide),fun p hp=>?_⟩
  have S4:aA H3 (upd H3 p (.tup ([.inr "joint",v,w].map kV))):=aA.upd hp
  dsimp only[av]
  refine cB (s3.same (Gt _) S4) (by omega) au (fG ok2 ok3) fun u H5 g5 k5 s5 sub5 gu st5=>?_
  have hsz:=eW st5
  rw[sz3,szW.2.2.1]at hsz
  have l1:nS x lo (aq m)*e<=3*13:=LV (by omega) (by omega)
  have l2:nS x (lo+aq m) (m- aq m)*e<=3*13:=LV (by omega) (by omega)
  refine q u g5 H5 (((aO.same S1).trans k2).trans (k3.trans ((aO.same S4).trans k5))) (s5.same (by omega) (.refl _)) ((sub2.trans sub3).trans sub5) (dg st5 (by rw[sz3,szW.2.2.1];omega)) (by omega) fun h eh=>?_
  rw[jO m2 ns,<-eh _ _ gu,<-ev2 h (Ext.of (sub3.trans sub5) eh),<-ev3 h (Ext.of sub5 eh)]
 have s2:∀H1,aA H H1->¬(m=1/\lo=x.s0)->wb K A n {nx:=fun _ H'=>Q .non H',rt:=Q} [some (.ref f),some (.ref t),some (.int (lo:Int)),some (.int (m:Int)),none,none] H1:=by
  intro H1 S1 h0
  refine Sel.dec (fun h1=>?_) (fun h1=>?_)
  ·have h1:(m:Int)=1:=h1
   exact Sel.t (drawn H1 S1 h0 (.inl (by omega)))
  have h1:¬(m:Int)=1:=h1
  refine ixT (j:=1) (S1 _ _ tw.ht) rfl rfl ⟨S,rfl,.inl ⟨⟨_,SqL.of (S1 _ _ tw.hS)⟩,fun D hD=>?_⟩⟩
  refine uD (tw.same S1) rfl hD fun ks lk ak=>?_
  have S2:aA H1 (upd H1 D (.lst (ks.map kV))):=aA.upd hD
  have h2:upd H1 D (.lst (ks.map kV)) D=some (.lst (ks.map kV)):=au
  generalize upd H1 D (.lst (ks.map kV))=H2 at S2 h2
  refine⟨KS _,fun L hL=>?_⟩
  have S3:aA H2 (upd H2 L (.lst [])):=aA.upd hL
  refine Az (S3 _ _ h2) au ak (Sel.dec (fun z=>?_) (fun z=>?_))
  ·exact drawn _ (S1.trans (S2.trans S3)) h0 (.inr (by rw[<-lk,z];rfl))
  ·exact bQ _ (S1.trans (S2.trans S3)) (by omega) (fun y=>z (List.eq_nil_of_length_eq_zero (lk.trans y)))
 refine Sel.dec (fun h1=>?_) (fun h1=>?_)
 ·have h1:(m:Int)=1:=h1
  refine ixT (j:=1) tw.ht rfl rfl (ixL (j:=0) tw.hS rfl rfl (Sel.dec (fun h2=>?_) (fun h2=>?_)))
  ·have h2:(lo:Int)=(x.s0:Int):=h2
   have em:m=1:=by omega
   have el:lo=x.s0:=by omega
   subst em
   subst el
   refine⟨f,rfl,s.clo,ixT (j:=2) tw.ht rfl rfl ⟨aQ (show 2<=1000000 by decide),fun p hp=>?_⟩⟩
   have S4:aA H (upd H p (.tup ([.inr "entry",x.e].map kV))):=aA.upd hp
   dsimp only[av]
   refine cB (s.same (Gt _) S4) (by have:=KS (nS x x.s0 1*(e+1));omega) au (gN tw.ok.1) fun u H5 g5 k5 s5 sub5 gu st5=>?_
   have hsz:=eW st5
   rw[sz2,szW.2.1]at hsz
   have:=tw.ok.2
   have ns:=tX (x:=x) (lo:=x.s0) (m:=1) (.inl rfl) (Gt _) (by omega)
   have:1*(e+1)<=nS x x.s0 1*(e+1):=RA _ (by omega)
   refine q u g5 H5 ((aO.same S4).trans k5) (s5.same (by omega) (.refl _)) sub5 (dg st5 (by rw[sz2,szW.2.1];omega)) (by omega) fun h eh=>?_
   rw[lx,eh _ _ gu]
  ·have h2:¬(lo:Int)=(x.s0:Int):=h2
   exact s2 H aA.rfl' (by omega)
 ·have h1:¬(m:Int)=1:=h1
  exact Sel.f (s2 H aA.rfl' (by omega))
theorem DY (K:pv)(A:Adr):Ln (ku K A) 3:=by rintro vs H Q E ⟨f,b,t,S,d,x,g,n,c,rfl,_⟩;rfl
theorem Ih (T:Txt K mg A):Rd (ku K A) (Ja K A) ["_law_stamper_here","_law_tree","_law_count"]:=by
 intro vs H Q E h
 obtain⟨f,b,t,S,d,x,g,n,c,rfl,s,hn,tw,c1,c4,q⟩:=h
 have n3:=iI (x:=x) (lo:=0) (m:=c)
 have l1:nS x 0 c*(13+1)<=3*14:=LV (by omega) (by omega)
 have l2:nS x 0 c*13<=3*13:=LV (by omega) (by omega)
 refine⟨f,rfl,s.clo,f,b,t,S,d,x,g,n,0,c,13,rfl,s,by omega,tw,c1,c4,by omega,by omega,by omega,fun v g2 H2 k2 s2 sub2 ok2 sz2 ev2=>⟨aQ (show 3<=1000000 by decide),fun p hp=>?_⟩⟩
 have S4:aA H2 (upd H2 p (.tup ([.inr "row",.inl (c:Int),v].map kV))):=aA.upd hp
 dsimp only[av]
 have okt:okT [.inr "row",.inl (c:Int),v]=true:=gD okW.2.2.2 (fun z hz=>by
  rcases KD.mp hz with rfl|hz
  ·exact okC (by omega)
  ·rw[Ky.mp hz];exact ok2) (show 2<=7 by decide)
 refine cB (s2.same (Gt _) S4) (by omega) au okt fun u H5 g5 k5 s5 sub5 gu st5=>⟨aQ (show 2<=1000000 by decide),fun p2 hp2=>?_⟩
 have S6:=aA.upd (o:=.tup [.int (c:Int),kV u]) hp2
 refine q p2 u g5 _ ((k2.trans ((aO.same S4).trans k5)).trans (aO.same S6)) (s5.same (by omega) S6) (sub2.trans sub5) (dg st5 (by rw[sz3,szW.2.2.2];show 65+(62+szK v)<=_;omega)) au fun h eh=>?_
 rw[<-ev2 h (Ext.of sub5 eh),eh _ _ gu]
theorem Ck {h:List Key->Key}{x:Tre}{f lo m:Nat}(h1:m<=1):pmF h x f lo m=[]:=by
 cases f with
 |zero=>rfl
 |succ f=>rw[pmF,if_pos h1]
theorem nj {h:List Key->Key}{x:Tre}{f lo m:Nat}(h1:¬m<=1):pmF h x (f+1) lo m=if x.s0<lo+aq m then tr h x (lo+aq m) (m- aq m)::pmF h x f lo (aq m)else tr h x lo (aq m)::pmF h x f (lo+aq m) (m- aq m):=by rw[pmF,if_neg h1]
theorem vP {h:List Key->Key}{x:Tre}{el f lo m:Nat}(h1:lo+m<=el):gmF h x el f lo m=[tr h x lo m]:=by
 cases f with
 |zero=>rfl
 |succ f=>rw[gmF,if_pos h1]
theorem mG {h:List Key->Key}{x:Tre}{el f lo m:Nat}(h1:¬lo+m<=el):gmF h x el (f+1) lo m=if el<=lo+aq m then gmF h x el f lo (aq m)++[tr h x (lo+aq m) (m- aq m)]else tr h x lo (aq m)::gmF h x el f (lo+aq m) (m- aq m):=by rw[gmF,if_neg h1]
theorem mq {x:Tre}{a w e:Nat}{v:Key}(ok:okP v=true)(sz:szK v<=300+600*(nS x a w*e))(e13:e<=13):enK v:=by
 have n3:=iI (x:=x) (lo:=a) (m:=w)
 have:nS x a w*e<=3*13:=LV n3 e13
 exact⟨ok,by omega⟩
structure PI (A:Adr)(H H2:Hp)(f b M:Addr)(d:Kd)(x:Tre)(c:Nat)(g g2:gOp)(n e lo m:Nat)(ks:List Key):Prop where
 kb:aO b H H2
 s:Stp A H2 f b d g2 (n+42*(13- e))
 sub:Sub g g2
 hM:H2 M=some (.lst (ks.map kV))
 en:∀k∈ks,enK k
 lk:ks.length+(bV (e+47) (x.s0- lo) m).length=(bo c x.s0).length
 l13:ks.length+e=13
 m1:1<=m
 m4:m<=4200
 me:m<=2^e
 lo1:lo<=x.s0
 lo2:x.s0<lo+m
 eq:∀h,Ext g2 h->ks++pmF h x (e+47) lo m=pmF h x 60 0 c
theorem iO {ks:List Key}{v:Key}(en:∀k∈ks,enK k)(ev:enK v):∀k∈ks++[v],enK k:=fun k hk=>by
 rcases Lw.mp hk with h|h
 ·exact en k h
 ·rw[Ky.mp h];exact ev
theorem PI.app {H H2 H3:Hp}{f b M:Addr}{d:Kd}{x:Tre}{c n e lo m lo' m' a w:Nat}{g g2 g3:gOp}{ks:List Key}{v:Key}(l:PI A H H2 f b M d x c g g2 n (e+1) lo m ks)(hMn:H M=none)(kb:aO b H2 H3)(s3:Stp A H3 f b d g3 (n+42*(13- (e+1))+nS x a w*(e+1)))(sub3:Sub g2 g3)(ok:okP v=true)(sz:szK v<=300+600*(nS x a w*e))(ev:∀h,Ext g3 h->v=tr h x a w)
  (lk:(bV (e+1+47) (x.s0- lo) m).length=(bV (e+47) (x.s0- lo') m').length+1)(m1:1<=m')(m4:m'<=4200)(me:m'<=2^e)(lo1:lo'<=x.s0)(lo2:x.s0<lo'+m')(eq:∀h,pmF h x (e+1+47) lo m=tr h x a w::pmF h x (e+47) lo' m'):
  H3 M=some (.lst (ks.map kV))/\PI A H (upd H3 M (.lst (ks.map kV++[kV v]))) f b M d x c g g3 n e lo' m' (ks++[v]):=by
 have l13:=l.l13
 have n3:=iI (x:=x) (lo:=a) (m:=w)
 have:nS x a w*(e+1)<=3*14:=LV n3 (by omega)
 have hM3:=kb _ _ (l.s.nb l.hM (fun _ z=>nomatch z) (fun _ z=>nomatch z)) l.hM
 refine⟨hM3,⟨fun z o nz ez=>by rw[aC (aI ez hMn)];exact kb _ _ nz (l.kb _ _ nz ez),(s3.same (by omega) (.refl _)).setL hM3,l.sub.trans sub3,by rw[au,Kq];rfl,iO l.en (mq ok sz (by omega)),by rw[Kn];have:=l.lk;show ks.length+1+_=_;omega,by rw[Kn];show ks.length+1+e=13;omega,m1,m4,me,lo1,lo2,fun h eh=>?_⟩⟩
 rw[<-l.eq h (Ext.of sub3 eh),eq h,ev h eh,Lg];rfl
theorem DE (K:pv)(A:Adr):Ln (km K A) 3:=by rintro vs H Q E ⟨f,b,t,S,d,x,g,n,c,rfl,_⟩;rfl
theorem Iw (T:Txt K mg A):Rd (km K A) (Jy K A) ["_law_stamper_here","_law_tree","_law_many","_law_marks","_law_low","_law_cut"]:=by
 intro vs H Q E h
 obtain⟨f,b,t,S,d,x,g,n,c,rfl,s,hn,tw,c1,c4,sc,q⟩:=h
 refine⟨KS _,fun M hM=>?_⟩
 have S1:aA H (upd H M (.lst [])):=aA.upd hM
 have h1:upd H M (.lst []) M=some (.lst []):=au
 generalize upd H M (.lst [])=H1 at S1 h1
 refine⟨fun e σ H2=>∃(lo m:Nat)(ks:List Key)(cut:Option V)(g2:gOp),σ=[some (.ref f),some (.ref t),some (.int (m:Int)),some (.ref M),some (.int (lo:Int)),cut]/\PI A H H2 f b M d x c g g2 n e lo m ks,
  ⟨13,0,c,[],none,g,rfl,⟨aO.same S1,s.same (by omega) S1,Sub.rfl',h1,(fun _ h=>nomatch h),by show 0+_=_;rw[LN,Rn],rfl,c1,c4,by omega,KS _,by omega,fun h _=>rfl⟩⟩,?_⟩
 rintro e σ H2 ⟨lo,m,ks,cut,g2,rfl,l⟩
 have l13:=l.l13
 have l1:=l.m1
 have l4:=l.m4
 have a1:=l.lo1
 have a2:=l.lo2
 have tw2:=(tw.kb s l.kb)
 refine mV (fun h=>?_) (fun h=>?_)
 ·have h:(1:Int)<(m:Int):=h
  have m2:2<=m:=by omega
  cases e with
  |zero=>have:m<=1:=l.me;omega
  |succ e=>
  have b1:=bO m2
  have b2:=dB m
  have b3:=cj m2 l.me
  have b4:=bX m2
  refine⟨fun σ' H'=>∃(lo m:Nat)(ks:List Key)(cut:Option V)(g2:gOp),σ'=[some (.ref f),some (.ref t),some (.int (m:Int)),some (.ref M),some (.int (lo:Int)),cut]/\PI A H H' f b M d x c g g2 n e lo m ks,fun σ' H' w=>⟨e,by omega,w⟩,?_⟩
  refine⟨m,rfl,m2,KN l4 (by decide),?_⟩
  have ws:=dY (e:=e+47) (p:=x.s0- lo) (m:=m) (by omega)
  have n42:∀a w,nS x a w*(e+1)<=3*14:=fun a w=>LV iI (by omega)
  refine ixT (j:=1) tw2.ht rfl rfl (ixL (j:=0) tw2.hS rfl rfl (Sel.dec (fun hlt=>?_) (fun hlt=>?_)))
  ·have hlt:(x.s0:Int)<(lo:Int)+(aq m:Int):=hlt
   rw[if_pos (by omega)]at ws
   refine⟨.inl ⟨rfl,_,SqL.of l.hM⟩,f,b,t,S,d,x,g2,_,lo+aq m,m- aq m,e,(show([.ref f,.ref t,.int ((lo:Int)+(aq m:Int)),.int ((m:Int)- (aq m:Int))]:List V)=_ by rw[show(lo:Int)+(aq m:Int)=((lo+aq m:Nat):Int)by omega,show(m:Int)- (aq m:Int)=((m- aq m:Nat):Int)by omega]),l.s,by have:=n42 (lo+aq m) (m- aq m);omega,tw2,by omega,by omega,by omega,by omega,by omega,fun v g3 H3 k3 s3 sub3 ok3 sz3' ev3=>?_⟩
   obtain⟨hM3,l'⟩:=l.app (lo':=lo) (m':=aq m) hM k3 s3 sub3 ok3 sz3' ev3 (by rw[show e+1+47=e+47+1 by omega,ws];rfl) b2 (by omega) b3 a1 (by omega) (fun h=>by rw[show e+1+47=e+47+1 by omega,nj (by omega),if_pos (by omega)])
   exact⟨M,_,_,rfl,rfl,hM3,bn (by rw[pz];omega),lo,aq m,_,_,g3,rfl,l'⟩
  ·have hlt:¬(x.s0:Int)<(lo:Int)+(aq m:Int):=hlt
   rw[if_neg (by omega)]at ws
   refine⟨.inl ⟨rfl,_,SqL.of l.hM⟩,f,b,t,S,d,x,g2,_,lo,aq m,e,rfl,l.s,by have:=n42 lo (aq m);omega,tw2,b2,by omega,b3,by omega,by omega,fun v g3 H3 k3 s3 sub3 ok3 sz3' ev3=>?_⟩
   obtain⟨hM3,l'⟩:=l.app (lo':=lo+aq m) (m':=m- aq m) hM k3 s3 sub3 ok3 sz3' ev3 (by rw[show e+1+47=e+47+1 by omega,ws,show x.s0- (lo+aq m)=x.s0- lo- aq m by omega];rfl) (by omega) (by omega) (by omega) (by omega) (by omega) (fun h=>by rw[show e+1+47=e+47+1 by omega,nj (by omega),if_neg (by omega)])
   refine⟨M,_,_,rfl,rfl,hM3,bn (by rw[pz];omega),lo+aq m,m- aq m,_,some (.int (aq m:Int)),g3,?_,l'⟩
   show[some (V.ref f),some (V.ref t),some (V.int ((m:Int)- (aq m:Int))),some (V.ref M),some (V.int ((lo:Int)+(aq m:Int))),some (V.int (aq m:Int))]=_
   rw[show(lo:Int)+(aq m:Int)=((lo+aq m:Nat):Int)by omega,show(m:Int)- (aq m:Int)=((m- aq m:Nat):Int)by omega]
 ·have h:¬(1:Int)<(m:Int):=h
  have lk:=l.lk
  rw[dj (by omega)]at lk
  refine ixT (j:=2) tw2.ht rfl rfl ⟨M,_,rfl,.inl ⟨SqL.of l.hM,fun TT hTT=>⟨aQ (show 2<=1000000 by decide),fun P hP=>?_⟩⟩⟩
  have S3:=(aA.upd (o:=.tup (ks.map kV)) hTT).trans (aA.upd (o:=.tup [kV x.e,.ref TT]) hP)
  refine q P TT ks g2 _ (l.kb.trans (aO.same S3)) (l.s.same (by omega) S3) l.sub ⟨au,aA.upd hP _ _ au⟩ l.en (by simpa using lk) fun h eh=>?_
  have:=l.eq h eh
  rw[Ck (by omega),Ly]at this
  exact this
structure GI (A:Adr)(H H2:Hp)(f b M N:Addr)(d:Kd)(x:Tre)(c el:Nat)(g g2:gOp)(n e lo m:Nat)(ks bs:List Key):Prop where
 kb:aO b H H2
 s:Stp A H2 f b d g2 (n+42*(13- e))
 sub:Sub g g2
 hM:H2 M=some (.lst (ks.map kV))
 hN:H2 N=some (.lst (bs.map kV))
 en:∀k∈ks,enK k
 eb:∀k∈bs,enK k
 lk:ks.length+bs.length+(grF (e+47) m (el- lo)).length=(aR c el).length
 l13:ks.length+bs.length+e=13
 m1:1<=m
 m4:m<=4200
 me:m<=2^e
 lo1:lo<el
 lo2:el<=lo+m
 eq:∀h,Ext g2 h->ks++gmF h x el (e+47) lo m++bs.reverse=gmF h x el 60 0 c
theorem Iu (K:pv)(A:Adr):Ln (jG K A) 4:=by rintro vs H Q E ⟨f,b,t,S,d,x,g,n,c,el,rfl,_⟩;rfl
theorem IW (T:Txt K mg A):Rd (jG K A) (T_9 K A) ["_law_stamper_here","_law_tree","_law_many","_law_elder","_law_ahead","_law_behind","_law_low","_law_cut"]:=by
 intro vs H Q E h
 obtain⟨f,b,t,S,d,x,g,n,c,el,rfl,s,hn,tw,e1,ec,c4,q⟩:=h
 refine⟨KS _,fun M hM=>⟨KS _,fun N hN=>?_⟩⟩
 have S1:aA H (upd (upd H M (.lst [])) N (.lst [])):=(aA.upd hM).trans (aA.upd hN)
 have h1:upd (upd H M (.lst [])) N (.lst []) M=some (.lst []):=aA.upd hN _ _ au
 have h2:upd (upd H M (.lst [])) N (.lst []) N=some (.lst []):=au
 have nMN:N≠M:=(cn hN).1
 have hNn:H N=none:=(cn hN).2
 generalize upd (upd H M (.lst [])) N (.lst [])=H1 at S1 h1 h2
 refine⟨fun e σ H2=>∃(lo m:Nat)(ks bs:List Key)(cut:Option V)(g2:gOp),σ=[some (.ref f),some (.ref t),some (.int (m:Int)),some (.int (el:Int)),some (.ref M),some (.ref N),some (.int (lo:Int)),cut]/\GI A H H2 f b M N d x c el g g2 n e lo m ks bs,
  ⟨13,0,c,[],[],none,g,rfl,⟨aO.same S1,s.same (by omega) S1,Sub.rfl',h1,h2,(fun _ h=>nomatch h),(fun _ h=>nomatch h),by show 0+0+_=_;rw[LN,Rn],rfl,by omega,c4,by omega,by omega,by omega,fun h _=>by show[]++_++_=_;simp⟩⟩,?_⟩
 rintro e σ H2 ⟨lo,m,ks,bs,cut,g2,rfl,l⟩
 have l13:=l.l13
 have l1:=l.m1
 have l4:=l.m4
 have a1:=l.lo1
 have a2:=l.lo2
 have tw2:=(tw.kb s l.kb)
 have nbM:=l.s.nb l.hM (fun _ z=>nomatch z) (fun _ z=>nomatch z)
 have nbN:=l.s.nb l.hN (fun _ z=>nomatch z) (fun _ z=>nomatch z)
 refine mV (fun h=>?_) (fun h=>?_)
 ·have h:(el:Int)- (lo:Int)<(m:Int):=h
  have m2:2<=m:=by omega
  cases e with
  |zero=>have:m<=1:=l.me;omega
  |succ e=>
  have b1:=bO m2
  have b2:=dB m
  have b3:=cj m2 l.me
  have b4:=bX m2
  refine⟨fun σ' H'=>∃(lo m:Nat)(ks bs:List Key)(cut:Option V)(g2:gOp),σ'=[some (.ref f),some (.ref t),some (.int (m:Int)),some (.int (el:Int)),some (.ref M),some (.ref N),some (.int (lo:Int)),cut]/\GI A H H' f b M N d x c el g g2 n e lo m ks bs,fun σ' H' w=>⟨e,by omega,w⟩,?_⟩
  refine⟨m,rfl,m2,KN l4 (by decide),?_⟩
  have gs:=fm (f:=e+47) (c:=m) (el:=el- lo) (by omega)
  have n42:∀a w,nS x a w*(e+1)<=3*14:=fun a w=>LV iI (by omega)
  refine Sel.dec (fun hlt=>?_) (fun hlt=>?_)
  ·have hlt:(aq m:Int)<(el:Int)- (lo:Int):=hlt
   rw[if_neg (by omega)]at gs
   refine⟨.inl ⟨rfl,_,SqL.of l.hM⟩,f,b,t,S,d,x,g2,_,lo,aq m,e,rfl,l.s,by have:=n42 lo (aq m);omega,tw2,b2,by omega,b3,by omega,by omega,fun v g3 H3 k3 s3 sub3 ok3 sz3' ev3=>?_⟩
   have hM3:=k3 _ _ nbM l.hM
   have hN3:=k3 _ _ nbN l.hN
   have:=n42 lo (aq m)
   refine⟨M,_,_,rfl,rfl,hM3,bn (by rw[pz];omega),lo+aq m,m- aq m,ks++[v],bs,some (.int (aq m:Int)),g3,?_,⟨fun z o nz ez=>by rw[aC (aI ez hM)];exact k3 _ _ nz (l.kb _ _ nz ez),(s3.same (by omega) (.refl _)).setL hM3,l.sub.trans sub3,by rw[au,Kq];rfl,by rw[aC nMN];exact hN3,iO l.en (mq ok3 sz3' (by omega)),l.eb,?_,by rw[Kn];show ks.length+1+_+e=13;omega,by omega,by omega,by omega,by omega,by omega,fun h eh=>?_⟩⟩
   ·show[some (V.ref f),some (V.ref t),some (V.int ((m:Int)- (aq m:Int))),some (V.int (el:Int)),some (V.ref M),some (V.ref N),some (V.int ((lo:Int)+(aq m:Int))),some (V.int (aq m:Int))]=_
    rw[show(lo:Int)+(aq m:Int)=((lo+aq m:Nat):Int)by omega,show(m:Int)- (aq m:Int)=((m- aq m:Nat):Int)by omega]
   ·have lk:=l.lk
    rw[show e+1+47=e+47+1 by omega,gs,KH]at lk
    rw[Kn,show el- (lo+aq m)=el- lo- aq m by omega]
    show ks.length+1+_+_=_
    omega
   ·rw[<-l.eq h (Ext.of sub3 eh),show e+1+47=e+47+1 by omega,mG (lo:=lo) (m:=m) (by omega),if_neg (by omega),ev3 h eh,Lg ks];rfl
  ·have hlt:¬(aq m:Int)<(el:Int)- (lo:Int):=hlt
   rw[if_pos (by omega)]at gs
   refine⟨.inl ⟨rfl,_,SqL.of l.hN⟩,f,b,t,S,d,x,g2,_,lo+aq m,m- aq m,e,(show([.ref f,.ref t,.int ((lo:Int)+(aq m:Int)),.int ((m:Int)- (aq m:Int))]:List V)=_ by rw[show(lo:Int)+(aq m:Int)=((lo+aq m:Nat):Int)by omega,show(m:Int)- (aq m:Int)=((m- aq m:Nat):Int)by omega]),l.s,by have:=n42 (lo+aq m) (m- aq m);omega,tw2,by omega,by omega,by omega,by omega,by omega,fun v g3 H3 k3 s3 sub3 ok3 sz3' ev3=>?_⟩
   have hM3:=k3 _ _ nbM l.hM
   have hN3:=k3 _ _ nbN l.hN
   have:=n42 (lo+aq m) (m- aq m)
   refine⟨N,_,_,rfl,rfl,hN3,bn (by rw[pz];omega),lo,aq m,ks,bs++[v],_,g3,rfl,⟨fun z o nz ez=>by rw[aC (aI ez hNn)];exact k3 _ _ nz (l.kb _ _ nz ez),(s3.same (by omega) (.refl _)).setL hN3,l.sub.trans sub3,by rw[aC (Lj nMN)];exact hM3,by rw[au,Kq];rfl,l.en,iO l.eb (mq ok3 sz3' (by omega)),?_,by rw[Kn];show ks.length+(bs.length+1)+e=13;omega,by omega,by omega,by omega,by omega,by omega,fun h eh=>?_⟩⟩
   ·have lk:=l.lk
    rw[show e+1+47=e+47+1 by omega,gs,KH]at lk
    rw[Kn]
    show ks.length+(bs.length+1)+_=_
    omega
   ·rw[<-l.eq h (Ext.of sub3 eh),show e+1+47=e+47+1 by omega,mG (lo:=lo) (m:=m) (by omega),if_pos (by omega),ev3 h eh,List.reverse_append]
    simp[Lg]
 ·have h:¬(el:Int)- (lo:Int)<(m:Int):=h
  have lk:=l.lk
  rw[dS (.inr (by omega))]at lk
  have n42:nS x lo m*(13+1)<=3*14:=LV iI (by omega)
  refine⟨.inl ⟨rfl,_,SqL.of l.hM⟩,f,b,t,S,d,x,g2,_,lo,m,13,rfl,l.s,by omega,tw2,l1,l4,by omega,by omega,by omega,fun v g3 H3 k3 s3 sub3 ok3 sz3' ev3=>?_⟩
  have hM3:=k3 _ _ nbM l.hM
  have hN3:=k3 _ _ nbN l.hN
  refine⟨M,_,_,rfl,rfl,hM3,bn (by rw[pz];omega),?_⟩
  have s4:=(s3.same (Gt _) (.refl _)).setL (o:=.lst (ks.map kV++[kV v])) hM3
  have hM4:upd H3 M (.lst (ks.map kV++[kV v])) M=some (.lst ((ks++[v]).map kV)):=by rw[au,Kq];rfl
  have hN4:upd H3 M (.lst (ks.map kV++[kV v])) N=some (.lst (bs.map kV)):=by rw[aC nMN];exact hN3
  have kb4:aO b H (upd H3 M (.lst (ks.map kV++[kV v]))):=fun z o nz ez=>by rw[aC (aI ez hM)];exact k3 _ _ nz (l.kb _ _ nz ez)
  generalize upd H3 M (.lst (ks.map kV++[kV v]))=H4 at s4 hM4 hN4 kb4
  refine⟨N,_,rfl,SqL.of hN4,fun R hR=>?_⟩
  have S5:aA H4 (upd H4 R (.lst (bs.map kV).reverse)):=aA.upd hR
  have h5:upd H4 R (.lst (bs.map kV).reverse) R=some (.lst (bs.reverse.map kV)):=by rw[au,Sy]
  generalize upd H4 R (.lst (bs.map kV).reverse)=H5 at S5 h5
  refine .inl ⟨M,R,_,_,rfl,rfl,S5 _ _ hM4,h5,by rw[pz,pz,Kn,LS];exact aQ (by show ks.length+1+bs.length<=_;omega),fun Z hZ=>?_⟩
  rw[<-Kq]
  have S6:aA H5 (upd H5 Z (.lst ((ks++[v]++bs.reverse).map kV))):=aA.upd hZ
  have h6:upd H5 Z (.lst ((ks++[v]++bs.reverse).map kV)) Z=some (.lst ((ks++[v]++bs.reverse).map kV)):=au
  generalize upd H5 Z (.lst ((ks++[v]++bs.reverse).map kV))=H6 at S6 h6
  refine⟨Z,_,rfl,.inl ⟨SqL.of h6,fun P hP=>?_⟩⟩
  have SS:=S5.trans (S6.trans (aA.upd (o:=.tup ((ks++[v]++bs.reverse).map kV)) hP))
  refine q P (ks++[v]++bs.reverse) g3 _ (kb4.trans (aO.same SS)) (s4.same (by omega) SS) (l.sub.trans sub3) au (fun k hk=>?_) ?_ fun h eh=>?_
  ·rcases Lw.mp hk with h|h
   ·exact iO l.en (mq ok3 sz3' (by omega)) k h
   ·exact l.eb k (Pr.mp h)
  ·rw[Kn,Kn,LS]
   have lk:ks.length+bs.length+0=(aR c el).length:=lk
   show ks.length+1+_=_
   omega
  ·rw[<-l.eq h (Ext.of sub3 eh),vP (lo:=lo) (m:=m) (by omega),ev3 h eh]
theorem CB (K:pv)(A:Adr):Ln (pb K A) 2:=by rintro vs H Q E ⟨m,p,rfl,_⟩;rfl
theorem FP (T:Txt K mg A):Rd (pb K A) (IT K A) ["_law_count","_law_place","_law_hands_here","_law_cut"]:=by
 intro vs H Q E h
 obtain⟨m,p,rfl,hp,hm,q⟩:=h
 refine⟨KS _,fun D hD=>?_⟩
 have q':=q D hD
 refine⟨fun e σ H2=>∃(r s:Nat)(ts:List Int)(cut:Option V),σ=[some (.int (r:Int)),some (.int (s:Int)),some (.ref D),cut]/\H2=upd H D (.lst (ts.map V.int))/\s<r/\r<=2^e/\ts.length+e=60/\ts++bV e s r=bV 60 p m,⟨60,m,p,[],none,rfl,rfl,hp,hm,rfl,rfl⟩,?_⟩
 rintro e σ H2 ⟨r,s,ts,cut,rfl,rfl,hs,he,hl,hw⟩
 refine mV (fun h=>?_) (fun h=>?_)
 ·have h:(1:Int)<(r:Int):=h
  have h2:2<=r:=by omega
  cases e with
  |zero=>simp at he;omega
  |succ e=>
  have b1:=bO h2
  have b2:=bX h2
  have b3:=cj h2 he
  have hr60:r<=2^60:=KN he (Mh (by decide) (by omega))
  rw[dY (by omega)]at hw
  refine⟨fun σ' H'=>∃(r s:Nat)(ts:List Int)(cut:Option V),σ'=[some (.int (r:Int)),some (.int (s:Int)),some (.ref D),cut]/\H'=upd H D (.lst (ts.map V.int))/\s<r/\r<=2^e/\ts.length+e=60/\ts++bV e s r=bV 60 p m,fun σ' H' w=>⟨e,by omega,w⟩,?_⟩
  refine⟨r,rfl,h2,hr60,?_⟩
  refine⟨.inl ⟨rfl,_,SqL.of au⟩,D,_,_,rfl,rfl,au,by rw[pz];exact bn (by omega),?_⟩
  rw[dm]
  refine Sel.dec (fun hlt=>?_) (fun hlt=>?_)
  ·have hlt:(aq r:Int)<=(s:Int):=hlt
   rw[if_neg (by omega)]at hw
   refine⟨r- aq r,s- aq r,ts++[1],some (.int (aq r:Int)),?_,?_,by omega,by omega,by rw[Kn];show ts.length+1+e=60;omega,by rw[Lg];exact hw⟩
   ·show[some (V.int ((r:Int)- (aq r:Int))),some (V.int ((s:Int)- (aq r:Int))),some (V.ref D),some (V.int (aq r:Int))]=_
    rw[show(r:Int)- (aq r:Int)=((r- aq r:Nat):Int)by omega,show(s:Int)- (aq r:Int)=((s- aq r:Nat):Int)by omega]
   ·rw[Kq,if_pos (decide_eq_true hlt)];rfl
  ·have hlt:¬(aq r:Int)<=(s:Int):=hlt
   rw[if_pos (by omega)]at hw
   refine⟨aq r,s,ts++[0],_,rfl,?_,by omega,b3,by rw[Kn];show ts.length+1+e=60;omega,by rw[Lg];exact hw⟩
   rw[Kq,if_neg (by rw[decide_eq_false hlt];decide)];rfl
 ·have h:¬(1:Int)<(r:Int):=h
  rw[dj (by omega),Ly]at hw
  show Q (.ref D) (upd H D (.lst (ts.map V.int)))
  rw[hw];exact q'
theorem BR (K:pv)(A:Adr):Ln (pB K A) 2:=by rintro vs H Q E ⟨c,el,rfl,_⟩;rfl
theorem Gh (T:Txt K mg A):Rd (pB K A) (JJ K A) ["_law_count","_law_elder","_law_hands_here","_law_low","_law_cut"]:=by
 intro vs H Q E h
 obtain⟨c,el,rfl,e1,ec,c60,q⟩:=h
 refine⟨KS _,fun D hD=>?_⟩
 have q':=q D hD
 refine⟨fun e σ H2=>∃(r lo:Nat)(ts:List Int)(cut:Option V),σ=[some (.int (r:Int)),some (.int (el:Int)),some (.ref D),some (.int (lo:Int)),cut]/\H2=upd H D (.lst (ts.map V.int))/\lo<el/\el<=lo+r/\r<=2^e/\ts.length+e=60/\ts++grF e r (el- lo)=grF 60 c el,⟨60,c,0,[],none,rfl,rfl,by omega,by omega,c60,rfl,by rw[PN,LN]⟩,?_⟩
 rintro e σ H2 ⟨r,lo,ts,cut,rfl,rfl,h1,h2',he,hl,hw⟩
 refine mV (fun h=>?_) (fun h=>?_)
 ·have h:(el:Int)- (lo:Int)<(r:Int):=h
  have h2:2<=r:=by omega
  cases e with
  |zero=>simp at he;omega
  |succ e=>
  have b1:=bO h2
  have b2:=bX h2
  have b3:=cj h2 he
  have hr60:r<=2^60:=KN he (Mh (by decide) (by omega))
  rw[fm (by omega)]at hw
  refine⟨fun σ' H'=>∃(r lo:Nat)(ts:List Int)(cut:Option V),σ'=[some (.int (r:Int)),some (.int (el:Int)),some (.ref D),some (.int (lo:Int)),cut]/\H'=upd H D (.lst (ts.map V.int))/\lo<el/\el<=lo+r/\r<=2^e/\ts.length+e=60/\ts++grF e r (el- lo)=grF 60 c el,fun σ' H' w=>⟨e,by omega,w⟩,?_⟩
  refine⟨r,rfl,h2,hr60,?_⟩
  refine⟨.inl ⟨rfl,_,SqL.of au⟩,D,_,_,rfl,rfl,au,by rw[pz];exact bn (by omega),?_⟩
  rw[dm]
  refine Sel.dec (fun hlt=>?_) (fun hlt=>?_)
  ·have hlt:(aq r:Int)<(el:Int)- (lo:Int):=hlt
   rw[if_neg (by omega)]at hw
   refine⟨r- aq r,lo+aq r,ts++[1],some (.int (aq r:Int)),?_,?_,by omega,by omega,by omega,by rw[Kn];show ts.length+1+e=60;omega,by rw[Lg,show el- (lo+aq r)=el- lo- aq r by omega];exact hw⟩
   ·show[some (V.int ((r:Int)- (aq r:Int))),some (V.int (el:Int)),some (V.ref D),some (V.int ((lo:Int)+(aq r:Int))),some (V.int (aq r:Int))]=_
    rw[show(r:Int)- (aq r:Int)=((r- aq r:Nat):Int)by omega,show(lo:Int)+(aq r:Int)=((lo+aq r:Nat):Int)by omega]
   ·rw[Kq,if_pos (decide_eq_true hlt)];rfl
  ·have hlt:¬(aq r:Int)<(el:Int)- (lo:Int):=hlt
   rw[if_pos (by omega)]at hw
   refine⟨aq r,lo,ts++[0],_,rfl,?_,by omega,by omega,b3,by rw[Kn];show ts.length+1+e=60;omega,by rw[Lg];exact hw⟩
   rw[Kq,if_neg (by rw[decide_eq_false hlt];decide)];rfl
 ·have h:¬(el:Int)- (lo:Int)<(r:Int):=h
  rw[dS (.inr (by omega)),Ly]at hw
  show Q (.ref D) (upd H D (.lst (ts.map V.int)))
  rw[hw];exact q'
theorem SqK.kb {H H':Hp}{f b M:Addr}{d:Kd}{g:gOp}{n:Nat}{ks:List Key}(w:SqK H M ks)(s:Stp A H f b d g n)(k:aO b H H'):SqK H' M ks:=by
 rcases w with e|e
 ·exact .inl (k _ _ (s.nb e (fun _ z=>nomatch z) (fun _ z=>nomatch z)) e)
 ·exact .inr (k _ _ (s.nb e (fun _ z=>nomatch z) (fun _ z=>nomatch z)) e)
theorem ixK {H:Hp}{Q:VK}{M:Addr}{ks:List Key}{k:Key}{i:Nat}(w:SqK H M ks)(hi:i<ks.length)(hk:ks[ks.length- 1- i]?=some k)(q:Q (kV k) H):aG K (.ref M) (.int (-1- (i:Int))) H Q:=by
 rcases w with e|e
 ·exact ixB (i:=i) e (by rw[pz];exact hi) (by rw[pz,KL,hk];rfl) q
 ·exact JB (i:=i) e (by rw[pz];exact hi) (by rw[pz,KL,hk];rfl) q
structure TI (A:Adr)(H H2:Hp)(f b:Addr)(d:Kd)(g g2:gOp)(n i:Nat)(v:Key):Prop where
 kb:aO b H H2
 s:Stp A H2 f b d g2 (n+i)
 sub:Sub g g2
 ok:okP v=true
 sz:szK v<=25000+24200*i
def LT (K:pv)(A:Adr):TS:=aF (bf (aU (tOp (bw K) (af 6) (af 5))) (aS (af 7)) (be)) (aK (db (cN K A) (fun _=>E0) (af 0) (ai (af 7) (av))) (aE 4))
theorem lb {H H2 H3:Hp}{f b L M p:Addr}{d:Kd}{g g2:gOp}{n i j c:Nat}{v:Key}{tk:List Key}{Q:VK}{D:fy}(l:TI A H H2 f b d g g2 n i v)(S:aA H2 H3)(hp:H3 p=some (.tup (tk.map kV)))(ok:okT tk=true)(sz:szT tk<=49100+24200*i)(i60:i<=60)(ij:i<=j)(hn:n+100<=40000)(q:TmQ A f b d g n H Q)(hr:∀v H,Q v H->D.rt v H)
  (hx:i<j->∀(v':Key)(H4:Hp)(g4:gOp),TI A H H4 f b d g g4 n (i+1) v'->D.nx [some (.ref f),some (.int (c:Int)),some (.ref L),some (.ref M),some (kV v'),some (.int (j:Int)),some (.int (i:Int)),some (.ref p)] H4):
  LT K A D [some (.ref f),some (.int (c:Int)),some (.ref L),some (.ref M),some (kV v),some (.int (j:Int)),some (.int (i:Int)),some (.ref p)] H3:=by
 have s3:=l.s.same (Gt _) S
 refine Sel.dec (fun h=>?_) (fun h=>?_)
 ·exact hr _ _ (q p tk g2 H3 (l.kb.trans (aO.same S)) (s3.same (by omega) (.refl _)) l.sub hp ok)
 ·have h:¬(i:Int)=(j:Int):=h
  refine⟨f,rfl,s3.clo,?_⟩
  show kF (cN K A) f [.ref p] H3 _ E0
  refine cB s3 (by omega) hp ok fun u H5 g5 k5 s5 sub5 gu st5=>?_
  have hsz:=eW st5
  exact hx (by omega) u H5 g5 ⟨(l.kb.trans (aO.same S)).trans k5,s5.same (by omega) (.refl _),l.sub.trans sub5,dg st5 (by omega),by omega⟩
theorem DN (K:pv)(A:Adr):Ln (mm K A) 6:=by rintro vs H Q E ⟨f,b,L,M,d,c,ts,ks,v,g,n,j,rfl,_⟩;rfl
theorem Gg (T:Txt K mg A):Rd (mm K A) (IP K A) ["_law_stamper_here","_law_count","_law_hands_here","_law_marks","_law_top_here","_law_height","_law_k","_law_term_here"]:=by
 intro vs H Q E h
 obtain⟨f,b,L,M,d,c,ts,ks,v,g,n,j,rfl,s,hn,c60,hL,hM,kl,t60,t01,ke,ov,sv,jl,q⟩:=h
 have nL:L≠b:=s.nb hL (fun _ z=>nomatch z) (fun _ z=>nomatch z)
 refine⟨_,rfl,by omega,by omega,?_⟩
 have ej:((j:Int)+1).toNat=j+1:=by omega
 rw[ej]
 refine jr (lo:=0) (n:=j+1) (D:={nx:=aS (tC .non) {nx:=fun _ H'=>Q .non H',rt:=Q},rt:=Q}) (g:=aE 6) (fun i σ H'=>∃(v':Key)(g':gOp)(x6 x7:Option V),σ=[some (.ref f),some (.int (c:Int)),some (.ref L),some (.ref M),some (kV v'),some (.int (j:Int)),x6,x7]/\TI A H H' f b d g g' n i v'/\i<=j)
  ⟨v,g,none,none,rfl,⟨aO.rfl',s,Sub.rfl',ov,by omega⟩,KS _⟩ ?_ ?_
 ·rintro i σ H' hi ⟨v',g',x6,x7,rfl,l,ij⟩
  have ez:(0:Int)+(i:Int)=(i:Int):=by omega
  rw[ez]
  have hL':=l.kb _ _ nL hL
  have hM':=hM.kb s l.kb
  have sz:=l.sz
  have nx:i<j->∀(v2:Key)(p:Addr)(H4:Hp)(g4:gOp),TI A H H4 f b d g g4 n (i+1) v2->∃(v':Key)(g':gOp)(x6 x7:Option V),[some (.ref f),some (.int (c:Int)),some (.ref L),some (.ref M),some (kV v2),some (.int (j:Int)),some (.int (i:Int)),some (V.ref p)]=[some (.ref f),some (.int (c:Int)),some (.ref L),some (.ref M),some (kV v'),some (.int (j:Int)),x6,x7]/\TI A H H4 f b d g g' n (i+1) v'/\i+1<=j:=fun h v2 p H4 g4 l4=>⟨v2,g4,_,_,rfl,l4,h⟩
  refine .inl (.inl ⟨_,SqL.of hL',?_⟩)
  rw[pz]
  refine Sel.dec (fun h1=>?_) (fun h1=>?_)
  ·refine⟨aQ (show 3<=1000000 by decide),fun p hp=>?_⟩
   refine lb (tk:=[.inr "row",.inl (c:Int),v']) l (aA.upd hp) au (gD okW.2.2.2 (fun z hz=>?_) (show 2<=7 by decide)) (by rw[sz3,szW.2.2.2];show 65+(62+szK v')<=_;omega) (by omega) ij hn q (fun _ _ q=>q) fun h v2 H4 g4 l4=>nx h v2 p H4 g4 l4
   rcases KD.mp hz with rfl|hz
   ·exact okC c60
   ·rw[Ky.mp hz];exact l.ok
  have h1:¬(i:Int)=(ts.length:Int):=h1
  have il:i<ts.length:=by omega
  obtain⟨tn,ht⟩:∃tn,ts[ts.length- 1- i]?=some tn:=⟨_,If (by omega)⟩
  obtain⟨k,hk⟩:∃k,ks[ks.length- 1- i]?=some k:=⟨_,If (by omega)⟩
  have ek:=ke k (KJ hk)
  have sk:=ek.2
  refine ixB (i:=i) hL' (by rw[pz];exact il) (by rw[pz,KL,ht];rfl) ?_
  refine Sel.dec (fun h2=>?_) (fun h2=>?_)
  ·refine ixK (i:=i) hM' (by omega) hk ?_
   refine⟨aQ (show 3<=1000000 by decide),fun p hp=>?_⟩
   exact lb (tk:=[.inr "joint",k,v']) l (aA.upd hp) au (fG ek.1 l.ok) (by rw[sz3,szW.2.2.1];omega) (by omega) ij hn q (fun _ _ q=>q) fun h v2 H4 g4 l4=>nx h v2 p H4 g4 l4
  ·refine ixK (i:=i) hM' (by omega) hk ?_
   refine⟨aQ (show 3<=1000000 by decide),fun p hp=>?_⟩
   exact lb (tk:=[.inr "joint",v',k]) l (aA.upd hp) au (fG l.ok ek.1) (by rw[sz3,szW.2.2.1];omega) (by omega) ij hn q (fun _ _ q=>q) fun h v2 H4 g4 l4=>nx h v2 p H4 g4 l4
 ·rintro σ H' ⟨_,_,_,_,_,_,h⟩;omega
theorem xJ (xs:List V):dX xs none (some (-1))=xs.dropLast:=by
 unfold dX
 rw[HT.kT,OB,LN,Ra]
 congr 1
 have e:HT.sIx xs.length xs.length (some (-1))=((-1:Int)+(xs.length:Int)).toNat:=by
  show(if (-1:Int)<0 then((-1:Int)+(xs.length:Int)).toNat else min (-1:Int).toNat xs.length)=_
  rw[if_pos (by decide)]
 rw[e];omega
theorem Df (K:pv)(A:Adr):Ln (md K A) 5:=by rintro vs H Q E ⟨f,b,P,T,d,c,p,ks,e,g,n,j,rfl,_⟩;rfl
theorem Gz (T:Txt K mg A):Rd (md K A) (Kh K A) ["_law_stamper_here","_law_count","_law_place","_law_paper_here","_law_height","_law_term_here"]:=by
 intro vs H Q E h
 obtain⟨f,b,P,TT,d,c,p,ks,e,g,n,j,rfl,pp,lt,jl,q⟩:=h
 obtain⟨s,hn,c1,c2,tl,t01,kl,ee,ke,w⟩:=pp
 refine ixT (j:=0) w.hP rfl rfl ⟨aQ (show 2<=1000000 by decide),fun t ht=>?_⟩
 have S1:aA H (upd H t (.tup ([.inr "entry",e].map kV))):=aA.upd ht
 have h1:upd H t (.tup ([.inr "entry",e].map kV)) t=some (.tup ([.inr "entry",e].map kV)):=au
 change vW K A {nx:=fun _ H'=>Q .non H',rt:=Q} [some (.ref f),some (.int (c:Int)),some (.int (p:Int)),some (.ref P),some (.int (j:Int)),some (.ref t)] (upd H t (.tup ([.inr "entry",e].map kV)))
 generalize upd H t (.tup ([.inr "entry",e].map kV))=H1 at S1 h1
 have s1:=s.same (Gt _) S1
 refine Sel.dec (fun h=>?_) (fun h=>?_)
 ·exact q t [.inr "entry",e] g H1 (aO.same S1) (s1.same (by omega) (.refl _)) Sub.rfl' h1 (gN ee.1)
 have h:¬(j:Int)=0:=h
 refine⟨c,p,rfl,lt,by omega,fun W hW=>?_⟩
 have S2:aA H1 (upd H1 W (.lst ((bo c p).map V.int))):=aA.upd hW
 have h2:upd H1 W (.lst ((bo c p).map V.int)) W=some (.lst ((bo c p).map V.int)):=au
 generalize upd H1 W (.lst ((bo c p).map V.int))=H2 at S2 h2
 have w2:=(w.same S1).same S2
 have s2:=s1.same (Gt _) S2
 generalize hts:bo c p=ts at*
 refine ixT (j:=1) w2.hP rfl rfl ⟨f,rfl,s2.clo,?_⟩
 dsimp only[af,av,ai,List.set,QC,QB]
 refine cB s2 (by omega) (S2 _ _ h1) (gN ee.1) fun v H3 g3 k3 s3 sub3 gv st3=>?_
 have hsz:=eW st3
 rw[sz2,szW.2.1]at hsz
 have:=ee.2
 have w3:=w2.kb s2 k3
 refine⟨f,b,W,TT,d,c,ts,ks,v,g3,n+1,j- 1,(show([.ref f,.int (c:Int),.ref W,.ref TT,kV v,.int ((j:Int)- 1)]:List V)=_ by rw[show(j:Int)- 1=((j- 1:Nat):Int)by omega]),s3,by omega,c2,k3 _ _ (s2.nb h2 (fun _ z=>nomatch z) (fun _ z=>nomatch z)) h2,.inr w3.hT,kl,tl,t01,ke,dg st3 (by rw[sz2,szW.2.1];omega),by omega,by omega,fun p' k g4 H4 k4 s4 sub4 hp ok=>?_⟩
 exact q p' k g4 H4 ((aO.same (S1.trans S2)).trans (k3.trans k4)) s4 (sub3.trans sub4) hp ok
theorem Ek (K:pv)(A:Adr):Ln (lC K A) 5:=by rintro vs H Q E ⟨f,b,P,d,c,el,ks,g,n,j,rfl,_⟩;rfl
theorem GT (T:Txt K mg A):Rd (lC K A) (IU K A) ["_law_stamper_here","_law_count","_law_elder","_law_marks","_law_height","_law_hands_here","_law_dealt_here"]:=by
 intro vs H Q E h
 obtain⟨f,b,P,d,c,el,ks,g,n,j,rfl,pp,e1,jl,q⟩:=h
 obtain⟨s,hn,c1,c2,ec,tl,t01,z,kl,ke,w⟩:=pp
 refine⟨c,el,rfl,e1,ec,by omega,fun L hL=>?_⟩
 have S1:aA H (upd H L (.lst ((aR c el).map V.int))):=aA.upd hL
 have h1:upd H L (.lst ((aR c el).map V.int)) L=some (.lst ((aR c el).map V.int)):=au
 generalize upd H L (.lst ((aR c el).map V.int))=H1 at S1 h1
 generalize hts:aR c el=ts at*
 refine⟨L,P,ts,ks,rfl,h1,S1 _ _ w,kl,tl,t01,fun M H2 S2 hMn h2=>?_⟩
 have dlen:(ci ts ks).length=ts.length+1:=gE ts ks
 have den:∀k∈ci ts ks,enK k:=fun k hk=>ke k (lv kl k hk)
 obtain⟨r,y,er⟩:∃r y,ci ts ks=r++[y]:=⟨_,_,(List.dropLast_concat_getLast (by intro z;rw[z]at dlen;simp at dlen)).symm⟩
 have rl:r.length=ts.length:=by rw[er,Kn]at dlen;simpa using dlen
 have ey:=den y (by rw[er];simp)
 refine⟨_,rfl,.inl (.inl ⟨M,_,rfl,SqL.of h2,fun N hN=>?_⟩)⟩
 rw[xJ]
 have edl:((ci ts ks).map kV).dropLast=r.map kV:=by rw[er,Kq];simp
 rw[edl]
 have S3:aA H2 (upd H2 N (.lst (r.map kV))):=aA.upd hN
 have h3:upd H2 N (.lst (r.map kV)) N=some (.lst (r.map kV)):=au
 generalize upd H2 N (.lst (r.map kV))=H3 at S3 h3
 have hM3:=S3 _ _ h2
 rw[er,Kq]at hM3
 refine eR (qs:=r.map kV) (p:=kV y) hM3 ?_
 have SS:=S1.trans (S2.trans S3)
 refine⟨f,b,L,N,d,c,ts,r,y,g,n,j,rfl,s.same (Gt _) SS,by omega,c2,S3 _ _ (S2 _ _ h1),.inl h3,rl,tl,t01,fun k hk=>den k (by rw[er];exact Lb _ hk),ey.1,by have:=ey.2;omega,by omega,fun p' k g4 H4 k4 s4 sub4 hp ok=>?_⟩
 exact q p' k g4 H4 ((aO.same SS).trans k4) s4 sub4 hp ok
theorem Ea (K:pv)(A:Adr):Ln (kg K A) 3:=by rintro vs H Q E ⟨k,c,P,ks,rfl,_⟩;rfl
theorem Hs (T:Txt K mg A):Rd (kg K A) (IV K A) ["_law_kind","_law_cell","_law_marks","_law_spot","_law_thing"]:=by
 intro vs H Q E h
 obtain⟨k,c,P,ks,rfl,hP,ke,l61,q⟩:=h
 have lz:∀m:Nat,m<=200->m<=sizeLine:=fun m hm=>Mb (aQ (by omega))
 have ll:(ks.map kV).length=ks.length:=pz ..
 refine .inl (.inr (.inl ⟨_,SqT.of hP,?_⟩))
 rw[pz]
 refine Sel.dec (fun h=>q P ks H aA.rfl' hP ke rfl) (fun h0=>?_)
 have h0:¬(ks.length:Int)=0:=h0
 have l1:1<=ks.length:=by omega
 refine .inl (.inr (.inl ⟨_,SqT.of hP,?_⟩))
 rw[pz]
 have r0:=MF c (b:=(ks.length:Int)) (by omega)
 have r1:=Me c (b:=(ks.length:Int)) (by omega)
 refine⟨by omega,?_⟩
 obtain⟨sp,hsp⟩:=Lq r0
 rw[hsp]
 have spl:sp<ks.length:=by omega
 obtain⟨kk,hkk⟩:∃kk,ks[sp]?=some kk:=⟨_,If spl⟩
 have ekk:=ke kk (KJ hkk)
 refine ixT (j:=sp) hP rfl (by rw[KL,hkk];rfl) ⟨kk,rfl,ekk,fun t1 H1 S1 et1=>?_⟩
 have mid:∀{H2:Hp}(sp:Nat)(t:Key),sp<ks.length->aA H H2->enK t->uY K A {nx:=fun _ H'=>Q .non H',rt:=Q} [some (.int k),some (.int c),some (.ref P),some (.int (sp:Int)),some (kV t)] H2:=by
  intro H2 sp t spl S2 et
  refine⟨(sp:Int),rfl,.inl (.inr ⟨P,_,rfl,S2 _ _ hP,fun p1 H3 S3 hp1=>?_⟩)⟩
  refine⟨by show 1<=sizeLine;decide,fun t4 h4=>?_⟩
  have S4:=aA.upd (o:=.tup [kV t]) h4
  have hp1:upd H3 t4 (.tup [kV t]) p1=some (.tup ((ks.take sp).map kV)):=by rw[S4 _ _ hp1,Qx];exact congrArg (fun z=>some (HO.tup z)) (nX _ sp (by omega))
  refine .inr ⟨p1,t4,_,[kV t],rfl,rfl,hp1,au,lz _ (by simp;omega),fun p5 H5 S5 hp5=>?_⟩
  have S15:=(((S2.trans S3).trans S4).trans S5)
  refine⟨(sp:Int)+1,rfl,.inl (.inr ⟨P,_,rfl,S15 _ _ hP,fun p6 H6 S6 hp6=>?_⟩)⟩
  have hp6:H6 p6=some (.tup ((ks.drop (sp+1)).map kV)):=by rw[hp6,Qy];exact congrArg (fun z=>some (HO.tup z)) (qu _ (sp+1) (by omega))
  refine .inr ⟨p5,p6,_,_,rfl,rfl,S6 _ _ hp5,hp6,lz _ (by simp;omega),fun p7 H7 S7 hp7=>?_⟩
  have e7:(ks.take sp).map kV++[kV t]++(ks.drop (sp+1)).map kV=(ks.take sp++[t]++ks.drop (sp+1)).map kV:=by simp
  rw[e7]at hp7
  refine q p7 _ H7 ((S15.trans S6).trans S7) hp7 (fun x hx=>?_) (by simp;omega)
  rcases Lw.mp hx with h|h
  ·rcases Lw.mp h with h|h
   ·exact ke x (Ow h)
   ·rw[Ky.mp h];exact et
  ·exact ke x (Rp h)
 refine Sel.dec (fun h=>?_) (fun hk0=>?_)
 ·have hP1:=S1 _ _ hP
  refine⟨1,rfl,.inl (.inr ⟨P,_,rfl,hP1,fun p1 H2 S2 hp1=>?_⟩)⟩
  refine⟨1,rfl,.inl (.inr ⟨P,_,rfl,S2 _ _ hP1,fun p2 H3 S3 hp2=>?_⟩)⟩
  have hp1:H3 p1=some (.tup ((ks.drop 1).map kV)):=by rw[S3 _ _ hp1,Qy];exact congrArg (fun z=>some (HO.tup z)) (qu _ 1 (by omega))
  have hp2:H3 p2=some (.tup ((ks.take 1).map kV)):=by rw[hp2,Qx];exact congrArg (fun z=>some (HO.tup z)) (nX _ 1 (by omega))
  refine .inr ⟨p1,p2,_,_,rfl,rfl,hp1,hp2,lz _ (by simp;omega),fun p3 H4 S4 hp3=>?_⟩
  rw[<-Kq]at hp3
  refine q p3 _ H4 (S1.trans ((S2.trans S3).trans S4)) hp3 (fun x hx=>?_) (by simp;omega)
  rcases Lw.mp hx with h|h
  ·exact ke x (Rp h)
  ·exact ke x (Ow h)
 have two:∀{H2:Hp}(t:Key),aA H H2->enK t->va K A {nx:=fun _ H'=>Q .non H',rt:=Q} [some (.int k),some (.int c),some (.ref P),some (.int (sp:Int)),some (kV t)] H2:=by
  intro H2 t S2 et
  refine Sel.dec (fun h=>?_) (fun h=>mid sp t spl S2 et)
  refine .inl (.inr (.inl ⟨_,SqT.of (S2 _ _ hP),?_⟩))
  rw[pz]
  refine⟨⟨by decide,by decide⟩,_,rfl,fun H3 S3 ok=>?_⟩
  have:=mid (ks.length- 1) (stB (c/60)) (by omega) (S2.trans S3) ok.en
  rw[show((ks.length- 1:Nat):Int)=(ks.length:Int)- 1 by omega]at this
  exact this
 refine Sel.dec (fun h=>?_) (fun h=>two t1 S1 et1)
 exact⟨⟨by decide,by decide⟩,_,rfl,fun H2 S2 ok=>two _ (S1.trans S2) ok.en⟩
theorem oV {H:Hp}{Q:VK}{T':Addr}{e':Key}{ks':List Key}(hT:H T'=some (.tup (ks'.map kV)))(q:∀(P':Addr)(H':Hp),aA H H'->dN H' P' T' e' ks'->Q (.ref P') H'):([kV e',V.ref T']:List V).length<=sizeLine/\∀p,H p=none->Q (.ref p) (upd H p (.tup [kV e',.ref T'])):=
 ⟨(by show 2<=sizeLine;decide),fun p hp=>q p _ (aA.upd hp) ⟨au,aA.upd hp _ _ hT⟩⟩
theorem GP (K:pv)(A:Adr):Ln (ua K A) 3:=by rintro vs H Q E ⟨k,c,P,T,e,ks,rfl,_⟩;rfl
theorem JM (T:Txt K mg A):Rd (ua K A) (T_4 K A) ["_law_kind","_law_cell","_law_paper_here"]:=by
 intro vs H Q E h
 obtain⟨k,c,P,TT,e,ks,rfl,w,ee,ke,l60,q⟩:=h
 refine Sel.dec (fun h=>?_) (fun h0=>?_)
 ·refine ixT (j:=0) w.hP rfl rfl ⟨e,rfl,ee,fun e' H1 S1 ee'=>ixT (j:=1) (S1 _ _ w.hP) rfl rfl (oV (S1 _ _ w.hT) fun P' H2 S2 w'=>q P' TT e' ks H2 (S1.trans S2) w' ee' ke rfl)⟩
 refine Sel.dec (fun h=>?_) (fun h1=>?_)
 ·refine⟨c,rfl,fun H1 S1 ok=>ixT (j:=1) (S1 _ _ w.hP) rfl rfl (oV (S1 _ _ w.hT) fun P' H2 S2 w'=>q P' TT (stB c) ks H2 (S1.trans S2) w' ok.en ke rfl)⟩
 refine Sel.dec (fun h=>?_) (fun h2=>?_)
 ·refine ixT (j:=0) w.hP rfl rfl ⟨e,rfl,ee,fun e' H1 S1 ee'=>⟨by decide,⟨by decide,by decide⟩,ixT (j:=1) (S1 _ _ w.hP) rfl rfl ?_⟩⟩
  exact⟨_,_,TT,ks,rfl,S1 _ _ w.hT,ke,by omega,fun T' ks' H2 S2 hT' ke' l'=>oV hT' fun P' H3 S3 w'=>q P' T' e' ks' H3 (S1.trans (S2.trans S3)) w' ee' ke' l'⟩
 ·refine ixT (j:=0) w.hP rfl rfl ⟨by decide,⟨by decide,by decide⟩,ixT (j:=1) w.hP rfl rfl ?_⟩
  exact⟨_,_,TT,ks,rfl,w.hT,ke,by omega,fun T' ks' H2 S2 hT' ke' l'=>oV hT' fun P' H3 S3 w'=>q P' T' e ks' H3 (S2.trans S3) w' ee ke' l'⟩
theorem fx (ts:List Int)(ks:List Key):(stG ts ks).length=ts.length:=by
 show(stR ts (ci ts ks)).length=_
 unfold stR
 rw[LS,Mq,gE];omega
theorem CK (K:pv)(A:Adr):Ln (iL K A) 5:=by rintro vs H Q E ⟨f,b,hd,P,d,c,at',mk,g,n,gr,rfl,_⟩;rfl
theorem Ge (T:Txt K mg A):Rd (iL K A) (Jv K A) ["_law_stamper_here","_law_growing","_law_head_here","_law_at","_law_paper_here","_law_found"]:=by
 intro vs H Q E h
 obtain⟨f,b,hd,P,d,c,at',mk,g,n,gr,rfl,hh,okm,q⟩:=h
 rcases q with⟨rfl,a1,ks,pp,q⟩|⟨rfl,a1,TT,ks,e,pp,q⟩
 ·refine Sel.t ⟨f,b,hd,P,d,c,at',ks,mk,g,n,rfl,pp,hh,okm,fun w g1 H1 k1 s1 sub1 okw ew=>⟨fun em u g2 H2 k2 s2 sub2 oku eu=>?_,fun em dx H2 S2 hdx=>?_⟩⟩
  ·refine⟨aQ (show 2<=1000000 by decide),fun r hr=>?_⟩
   have S3:=aA.upd (o:=.tup [.str "told",kV u]) hr
   exact q r (some u) g2 _ ((k1.trans k2).trans (aO.same S3)) (s2.same (by omega) S3) (sub1.trans sub2) au (fun h eh=>⟨by rw[<-ew h (Ext.of sub2 eh),em],eu h eh⟩) (fun _ z=>by cases z;exact oku)
  ·refine⟨A.c_Broken,rfl,T.eo_Broken,true,T.sb_Broken_Broken,Sel.t ⟨aQ (show 1<=1000000 by decide),fun r hr=>?_⟩⟩
   have S3:=aA.upd (o:=.tup [.str "broken"]) hr
   exact q r none g1 _ (k1.trans (aO.same (S2.trans S3))) (s1.same (by omega) (S2.trans S3)) sub1 au (fun h eh=>by show h _≠mk;rw[<-ew h eh];exact em) (fun _ z=>by cases z)
 ·have kl:=pp.kl
  have sl:(stR (bo c at') ks).length=(bo c at').length:=dy kl
  have ok:=pp.ee.1
  refine Sel.f ⟨f,b,hd,P,TT,d,c,at',ks,e,mk,g,n,rfl,pp,a1,hh,okm,fun w g1 H1 k1 s1 sub1 okw ew=>⟨fun em=>?_,fun em dx H2 S2 hdx=>?_⟩⟩
  ·refine⟨aQ (show 2<=1000000 by decide),fun r hr=>?_⟩
   have S3:=aA.upd (o:=.tup [.str "told",kV e]) hr
   refine q r (some e) g1 _ (k1.trans (aO.same S3)) (s1.same (by omega) S3) sub1 au (fun h eh=>⟨rfl,?_⟩) (fun _ z=>by cases z;exact ok)
   rw[<-sl,<-ew h eh,em]
  ·refine⟨A.c_Broken,rfl,T.eo_Broken,true,T.sb_Broken_Broken,Sel.t ⟨aQ (show 1<=1000000 by decide),fun r hr=>?_⟩⟩
   have S3:=aA.upd (o:=.tup [.str "broken"]) hr
   refine q r none g1 _ (k1.trans (aO.same (S2.trans S3))) (s1.same (by omega) (S2.trans S3)) sub1 au (fun h eh=>?_) (fun _ z=>by cases z)
   show h _≠mk
   rw[<-sl,<-ew h eh];exact em
theorem Gj (K:pv)(A:Adr):Ln (lq K A) 4:=by rintro vs H Q E ⟨f,b,P,d,c,el,ks,g,n,rfl,_⟩;rfl
theorem Kc (T:Txt K mg A):Rd (lq K A) (T_8 K A) ["_law_stamper_here","_law_count","_law_elder","_law_marks","_law_found"]:=by
 intro vs H Q E h
 obtain⟨f,b,P,d,c,el,ks,g,n,rfl,pp,e1,q⟩:=h
 have tl:=pp.tl
 refine⟨f,b,P,d,c,el,ks,g,n,rfl,pp,fun Y O py po ty to g1 H1 k1 s1 sub1 hY hO ky ko ly lo lo2 sy so eq p hp=>?_⟩
 have S2:aA H1 (upd H1 p (.tup [.ref Y,.ref O])):=aA.upd hp
 have h2:upd H1 p (.tup [.ref Y,.ref O]) p=some (.tup [.ref Y,.ref O]):=au
 generalize upd H1 p (.tup [.ref Y,.ref O])=H2 at S2 h2
 rw[fx]at ly
 have l1:=cT ky
 have l2:=cT ko
 refine ixT (j:=0) h2 rfl rfl (ixT (j:=1) h2 rfl rfl (.inl ⟨Y,O,_,_,rfl,rfl,S2 _ _ hY,S2 _ _ hO,by rw[pz,pz];exact aQ (by omega),fun M hM=>?_⟩))
 rw[<-Kq]
 have S3:=aA.upd (o:=.lst ((py++po).map V.ref)) hM
 have SS:=S2.trans S3
 refine q M (py++po) (ty++to) g1 _ (k1.trans (aO.same SS)) (s1.same (Gt _) SS) sub1 au (ig (ky.keep fun x xs e=>SS _ _ e) (ko.keep fun x xs e=>SS _ _ e)) (by rw[Kn];omega) fun h eh=>?_
 obtain⟨a1,a2⟩:=eq h eh
 rw[a1,a2,fx]
def hOf (g:gOp)(k:List Key):Key:=(g k).getD (.inl 0)
theorem dM (g:gOp):Ext g (hOf g):=fun k v e=>by unfold hOf;rw[e];rfl
theorem AY {h:List Key->Key}{tt:List (List Key)}(d:Ag h tt none):rf h tt:=fun a ha b hb e=>by
 obtain⟨i,hi⟩:=Oy ha
 obtain⟨j,hj⟩:=Oy hb
 rcases NY i j with l|l|l
 ·exact d i j a b l hi hj e
 ·subst l;rw[hi]at hj;exact KG hj
 ·exact(d j i b a l hj hi e.symm).symm
theorem Fy (K:pv)(A:Adr):Ln (jt K A) 5:=by rintro vs H Q E ⟨f,b,M,r,d,ps,tt,v,du,g,n,su,rfl,_⟩;rfl
theorem JA (T:Txt K mg A):Rd (jt K A) (T_7 K A) ["_law_stamper_here","_law_terms","_law_told_here","_law_due","_law_sure"]:=by
 intro vs H Q E h
 obtain⟨f,b,M,r,d,ps,tt,v,du,g,n,su,rfl,s,hn,hM,pk,l9,tw,okd,oku,hc,q⟩:=h
 refine⟨aQ (show 1<=1000000 by decide),fun p1 hp1=>?_⟩
 have S1:aA H (upd H p1 (.tup ([.inr "broken"].map kV))):=aA.upd hp1
 have h1:upd H p1 (.tup ([.inr "broken"].map kV)) p1=some (.tup ([.inr "broken"].map kV)):=au
 cases v with
 |none=>
  have tw:H r=some (.tup ([.inr "broken"].map kV)):=tw
  exact gM (S1 _ _ tw) h1 (Sel.yes (decide_eq_true rfl) (Sel.t (q _)))
 |some u=>
  have tw:H r=some (.tup ([.inr "told",u].map kV)):=tw
  refine gM (S1 _ _ tw) h1 (Sel.no (decide_eq_false fun z=>by simp at z) ?_)
  change upd H p1 (.tup ([.inr "broken"].map kV)) p1=_ at h1
  refine⟨aQ (show 2<=1000000 by decide),fun p2 hp2=>?_⟩
  have S2:=S1.trans (aA.upd (o:=.tup ([.inr "told",du].map kV)) hp2)
  refine gM (k:=[.inr "told",u]) (l:=[.inr "told",du]) (S2 _ _ tw) au ?_
  by_cases ud:u=du
  ·subst ud
   exact Sel.yes (decide_eq_true rfl) (q _)
  refine Sel.no (decide_eq_false fun z=>ud (Le (Le z).2).1) ?_
  obtain⟨esu,ni⟩:=hc u rfl ud
  subst esu
  refine Sel.t ⟨f,b,M,d,ps,tt,g,n,rfl,s.same (Gt _) S2,S2 _ _ hM,pk.keep fun x xs e=>S2 _ _ e,l9,by omega,fun v' H' g' r' kb s' sub ret isd=>?_⟩
  cases r' with
  |none=>exact absurd (AY (isd _ (dM g'))) (ni _ (Ext.of sub (dM g')))
  |some r'=>
   obtain⟨j,k,jk,a1,a2,ne,_⟩:=isd _ (dM g')
   have s2:=s.same (Gt _) S2
   refine⟨f,b,M,d,ps,tt,r',v',g',_,rfl,s',kb _ _ (s2.nb (S2 _ _ hM) (fun _ z=>nomatch z) (fun _ z=>nomatch z)) (S2 _ _ hM),(pk.keep fun x xs e=>S2 _ _ e).keep (aO.tup s2 kb),l9,by omega,ret,KJ a1,KJ a2,ne,fun h eh=>?_,q⟩
   obtain⟨_,_,_,_,_,_,e,_⟩:=isd h eh
   exact e
def tpF (h:List Key->Key):List Int->List Key->Key×Key
 |[],ks=>(ks.getD 0 (.inl 0),ks.getD 0 (.inl 0))
 |t::r,ks=>if t=1 then(h [.inr "joint",ks.getD 0 (.inl 0),(tpF h r ks.tail).1],h [.inr "joint",ks.getD 0 (.inl 0),(tpF h r ks.tail).2])
  else(h [.inr "joint",(tpF h r ks.dropLast).1,ks.getD (ks.length- 1) (.inl 0)],(tpF h r ks.dropLast).2)
theorem my:∀(r:List Int)(lo hi:Nat)(k:Key)(ks:List Key),lo+r.length+1=hi->dl r (lo+1) (hi+1) (k::ks)=dl r lo hi ks
 |[],lo,hi,k,ks,_=>rfl
 |t::r,lo,hi,k,ks,h=>by
  rw[KH]at h
  obtain⟨j,rfl⟩:∃j,hi=j+1:=⟨hi- 1,by omega⟩
  rw[dl,dl]
  by_cases ht:t=1
  ·rw[if_pos ht,if_pos ht,my r (lo+1) (j+1) k ks (by omega)];rfl
  ·rw[if_neg ht,if_neg ht]
   show(k::ks)[j+1]? ::dl r (lo+1) (j+1) (k::ks)=ks[j]? ::dl r lo j ks
   rw[my r lo j k ks (by omega)];rfl
theorem mD:∀(r:List Int)(lo hi m:Nat)(ks:List Key),lo+r.length+1=hi->hi<=m->dl r lo hi (ks.take m)=dl r lo hi ks
 |[],lo,hi,m,ks,h,hm=>by
  show[(ks.take m)[lo]?]=[ks[lo]?]
  rw[ME (by simp at h;omega)]
 |t::r,lo,hi,m,ks,h,hm=>by
  rw[KH]at h
  rw[dl,dl,mD r (lo+1) hi m ks (by omega) hm,mD r lo (hi- 1) m ks (by omega) (by omega),ME (by omega),ME (by omega)]
theorem sG {r:List Int}{k:Key}{ks:List Key}(h:ks.length=r.length+1):ci (1::r) (k::ks)=k::ci r ks:=by
 unfold ci
 rw[dl,if_pos rfl,KH,my r 0 ks.length k ks (by omega)];rfl
theorem sD {r:List Int}{ks:List Key}(h:ks.length=r.length+2):ci (0::r) ks=ks.getD (ks.length- 1) (.inl 0)::ci r ks.dropLast:=by
 unfold ci
 rw[dl,if_neg (by decide),KZ,Ox,Ra,mD r 0 (ks.length- 1) (ks.length- 1) ks (by omega) (Gt _),KA]
theorem iU {h:List Key->Key}{c:Int}{m:Key}{st l:List (Int×Key)}:∀{i:Nat},i<=st.length->mP h c m (st++l) i=mP h c m st i
 |0,_=>rfl
 |i+1,hi=>by
  show h (dA h c m (st++l) i)=h (dA h c m st i)
  rw[dC,dC,iU (by omega)]
  unfold bM
  rw[KW (by omega)]
theorem iW {h:List Key->Key}{m:Key}{st l:List (Int×Key)}:∀{i:Nat},i<=st.length->cL h m (st++l) i=cL h m st i
 |0,_=>rfl
 |i+1,hi=>by
  rw[cL,cL,iW (by omega),KW (by omega)]
theorem pW {h:List Key->Key}{c:Int}:∀(ts:List Int)(ks:List Key),ks.length=ts.length+1->(∀t∈ts,t=0\/t=1)->tpF h ts ks=(mP h c (inM ts ks) (stG ts ks) ts.length,(cL h (inM ts ks) (stG ts ks) ts.length).2)
 |[],ks,hl,_=>by
  have e:inM [] ks=ks.getD 0 (.inl 0):=by
   unfold inM ci dl
   rw[KA];rfl
  show(ks.getD 0 (.inl 0),ks.getD 0 (.inl 0))=(inM [] ks,inM [] ks)
  rw[e]
 |t::r,ks,hl,h01=>by
  rw[KH]at hl
  have hr:∀t∈r,t=0\/t=1:=fun t ht=>h01 t (KC _ ht)
  have step:∀(x:Key)(ks':List Key),ks'.length=r.length+1->ci (t::r) ks=x::ci r ks'->(mP h c (inM (t::r) ks) (stG (t::r) ks) (r.length+1),(cL h (inM (t::r) ks) (stG (t::r) ks) (r.length+1)).2)=(h (jtT t (tpF h r ks').1 x),if t=1 then h (jtT t (tpF h r ks').2 x)else(tpF h r ks').2):=fun x ks' l' e=>by
   have em:inM (t::r) ks=inM r ks':=by unfold inM;rw[e];rfl
   have sl:(stG r ks').length=r.length:=fx r ks'
   have es:stG (t::r) ks=stG r ks'++[(t,x)]:=by
    unfold stG stR
    rw[e,OP,Mn]
   have g:(stG r ks'++[(t,x)])[r.length]? =some (t,x):=by rw[KR (by omega),sl,Ni];rfl
   rw[pW (c:=c) r ks' l' hr,em,es]
   refine Tn ?_ ?_
   ·show h (dA h c _ (stG r ks'++[(t,x)]) r.length)=_
    rw[dC,iU (by omega)]
    unfold bM
    rw[g]
   ·show(cL h _ (stG r ks'++[(t,x)]) (r.length+1)).2=_
    rw[cL,g,iW (by omega)]
    dsimp only
    split
    ·rfl
    ·rfl
  rcases h01 t KY with rfl|rfl
  ·rw[KH,step (ks.getD (ks.length- 1) (.inl 0)) ks.dropLast (by rw[Ox];omega) (sD hl)];rfl
  ·match ks,hl with
   |k::ks,hl=>
    rw[KH]at hl
    rw[KH,step k ks (by omega) (sG (by omega))];rfl
theorem jh {n d:Nat}(h2:2<=n)(h0:aq n<d)(h1:d<=n):aq d=aq n:=by
 have t:=bX h2
 unfold aq at*
 have e:Ov (d- 1)=Ov (n- 1):=(Nat.log2_eq_iff (by omega)).mpr ⟨by omega,by rw[Nat.pow_succ];omega⟩
 rw[e]
section
variable {h:List Key->Key}{In:List Key->Prop}
def plU (h:List Key->Key):List Int->List Key->Key->Key
 |[],_,e=>h [.inr "entry",e]
 |t::ts,ks,e=>h (jtT t (plU h ts ks.tail e) (ks.getD 0 (.inl 0)))
def pIn (In:List Key->Prop)(h:List Key->Key):List Int->List Key->Key->Prop
 |[],_,e=>In [.inr "entry",e]
 |t::ts,ks,e=>In (jtT t (plU h ts ks.tail e) (ks.getD 0 (.inl 0)))/\pIn In h ts ks.tail e
def gIn (In:List Key->Prop)(h:List Key->Key):List Int->List Key->Prop
 |[],_=>True
 |t::r,ks=>if t=1 then In [.inr "joint",ks.getD 0 (.inl 0),(tpF h r ks.tail).1]/\In [.inr "joint",ks.getD 0 (.inl 0),(tpF h r ks.tail).2]/\gIn In h r ks.tail
  else In [.inr "joint",(tpF h r ks.dropLast).1,ks.getD (ks.length- 1) (.inl 0)]/\gIn In h r ks.dropLast
theorem qB (t:Int)(ts:List Int)(k:Key)(ks:List Key):stR (t::ts) (k::ks)=stR ts ks++[(t,k)]:=by unfold stR;rw[OP,Mn]
theorem jZ {c:Int}{e:Key}{st l:List (Int×Key)}:∀{i:Nat},i<=st.length->de h c e (st++l) i=de h c e st i
 |0,_=>rfl
 |i+1,hi=>by
  rw[de,de,KW (by omega),jZ (by omega)]
theorem mQ {c:Int}{e:Key}:∀(ts:List Int)(ks:List Key),ks.length=ts.length->plU h ts ks e=h (de h c e (stR ts ks) ts.length)
 |[],_,_=>rfl
 |t::ts,[],hl=>by simp at hl
 |t::ts,k::ks,hl=>by
  have hl:ks.length=ts.length:=by simpa using hl
  rw[qB,KH,de,KR (by rw[dy hl];exact Gt _),dy hl,Ni,jZ (by rw[dy hl];exact Gt _),<-mQ ts ks hl];rfl
theorem ww {c:Int}{e:Key}:∀(ts:List Int)(ks:List Key),ks.length=ts.length->(∀i,i<=ts.length->In (de h c e (stR ts ks) i))->pIn In h ts ks e
 |[],_,_,a=>a 0 (Gt _)
 |t::ts,[],hl,_=>by simp at hl
 |t::ts,k::ks,hl,a=>by
  have hl:ks.length=ts.length:=by simpa using hl
  rw[qB]at a
  refine⟨?_,ww (c:=c) ts ks hl fun i hi=>?_⟩
  ·have:=a (ts.length+1) (Gt _)
   rw[de,KR (by rw[dy hl];exact Gt _),dy hl,Ni,jZ (by rw[dy hl];exact Gt _),<-mQ (h:=h) (c:=c) (e:=e) ts ks hl]at this
   exact this
  ·have:=a i (Sv hi)
   rw[jZ (by rw[dy hl];exact hi)]at this;exact this
theorem mE {c:Int}{e:Key}{ts:List Int}{ks:List Key}(hl:ks.length=ts.length):de h c e (stR ts ks) (ts.length+1)=[.inr "row",.inl c,plU h ts ks e]:=by
 rw[de,Lo (by rw[dy hl];exact Gt _),mQ (c:=c) ts ks hl]
theorem xh {c:Int}{m:Key}{st l:List (Int×Key)}{i:Nat}(hi:i<st.length):dA h c m (st++l) i=dA h c m st i:=by
 rw[dC,dC,iU (by omega)]
 unfold bM
 rw[KW hi]
theorem wt {c:Int}:∀(ts:List Int)(ks:List Key),ks.length=ts.length+1->(∀t∈ts,t=0\/t=1)->(∀i,i<ts.length->In (dA h c (inM ts ks) (stG ts ks) i))->(∀k∈(cL h (inM ts ks) (stG ts ks) ts.length).1,In k)->gIn In h ts ks
 |[],_,_,_,_,_=>trivial
 |t::r,ks,hl,h01,ay,ao=>by
  rw[KH]at hl
  have hr:∀t∈r,t=0\/t=1:=fun t ht=>h01 t (KC _ ht)
  have step:∀(x:Key)(ks':List Key),ks'.length=r.length+1->ci (t::r) ks=x::ci r ks'->In (jtT t (tpF h r ks').1 x)/\(t=1->In (jtT t (tpF h r ks').2 x))/\gIn In h r ks':=fun x ks' l' e=>by
   have em:inM (t::r) ks=inM r ks':=by unfold inM;rw[e];rfl
   have sl:(stG r ks').length=r.length:=fx r ks'
   have es:stG (t::r) ks=stG r ks'++[(t,x)]:=by
    unfold stG stR
    rw[e,OP,Mn]
   have g:(stG r ks'++[(t,x)])[r.length]? =some (t,x):=by rw[KR (by omega),sl,Ni];rfl
   rw[em,es]at ay ao
   rw[KH]at ay ao
   have te:=pW (h:=h) (c:=c) r ks' l' hr
   refine⟨?_,fun t1=>?_,wt (c:=c) r ks' l' hr (fun i hi=>?_) (fun k hk=>?_)⟩
   ·have:=ay r.length (Mg _)
    rw[dC,iU (by omega)]at this
    unfold bM at this
    rw[g]at this
    rw[te];exact this
   ·refine ao _ ?_
    rw[cL,g,iW (by omega)]
    dsimp only
    rw[if_pos t1,te]
    exact KP _ (Ky.mpr rfl)
   ·have:=ay i (by omega)
    rw[xh (by omega)]at this;exact this
   ·refine ao k ?_
    rw[cL,g,iW (by omega)]
    dsimp only
    split
    ·exact Lb _ hk
    ·exact hk
  rcases h01 t KY with rfl|rfl
  ·obtain⟨a1,_,a3⟩:=step (ks.getD (ks.length- 1) (.inl 0)) ks.dropLast (by rw[Ox];omega) (sD hl)
   rw[gIn,if_neg (by decide)]
   exact⟨a1,a3⟩
  ·match ks,hl with
   |k::ks,hl=>
    rw[KH]at hl
    obtain⟨a1,a2,a3⟩:=step k ks (by omega) (sG (by omega))
    rw[gIn,if_pos rfl]
    exact⟨a1,a2 rfl,a3⟩
theorem gL {r:List Int}{ks:List Key}:tpF h (0::r) ks=(h [.inr "joint",(tpF h r ks.dropLast).1,ks.getD (ks.length- 1) (.inl 0)],(tpF h r ks.dropLast).2):=by rw[tpF,if_neg (by decide)]
theorem fN {r:List Int}{ks:List Key}:tpF h (1::r) ks=(h [.inr "joint",ks.getD 0 (.inl 0),(tpF h r ks.tail).1],h [.inr "joint",ks.getD 0 (.inl 0),(tpF h r ks.tail).2]):=by rw[tpF,if_pos rfl]
theorem gJ {r:List Int}{ks:List Key}(a:gIn In h (0::r) ks):In [.inr "joint",(tpF h r ks.dropLast).1,ks.getD (ks.length- 1) (.inl 0)]/\gIn In h r ks.dropLast:=by rw[gIn,if_neg (by decide)]at a;exact a
theorem gq {r:List Int}{ks:List Key}(a:gIn In h (1::r) ks):In [.inr "joint",ks.getD 0 (.inl 0),(tpF h r ks.tail).1]/\In [.inr "joint",ks.getD 0 (.inl 0),(tpF h r ks.tail).2]/\gIn In h r ks.tail:=by rw[gIn,if_pos rfl]at a;exact a
theorem gY:∀(f f' p m:Nat),m<=2^f->m<=2^f'->bV f p m=bV f' p m
 |0,f',p,m,h1,_=>by rw[dj (by simpa using h1),dj (by simpa using h1)]
 |f+1,0,p,m,_,h2=>by rw[dj (by simpa using h2),dj (by simpa using h2)]
 |f+1,f'+1,p,m,h1,h2=>by
  by_cases hm:m<=1
  ·rw[dj hm,dj hm]
  have b1:=bO (m:=m) (by omega)
  have b2:=bX (m:=m) (by omega)
  have b3:=cj (m:=m) (by omega) h1
  have b4:=cj (m:=m) (by omega) h2
  rw[dY hm,dY hm,gY f f' p (aq m) b3 b4,gY f f' (p- aq m) (m- aq m) (by omega) (by omega)]
theorem jQ:∀(f f' c el:Nat),c<=2^f->c<=2^f'->grF f c el=grF f' c el
 |0,f',c,el,h1,_=>by
  have h1:c<=1:=by simpa using h1
  rw[dS (by omega),dS (by omega)]
 |f+1,0,c,el,_,h2=>by
  have h2:c<=1:=by simpa using h2
  rw[dS (by omega),dS (by omega)]
 |f+1,f'+1,c,el,h1,h2=>by
  by_cases hm:el=0\/c<=el
  ·rw[dS hm,dS hm]
  have b1:=bO (m:=c) (by omega)
  have b2:=bX (m:=c) (by omega)
  have b3:=cj (m:=c) (by omega) h1
  have b4:=cj (m:=c) (by omega) h2
  rw[fm hm,fm hm,jQ f f' (aq c) el b3 b4,jQ f f' (c- aq c) (el- aq c) (by omega) (by omega)]
theorem rp {c p:Nat}(c2:2<=c)(c60:c<=2^60):bo c p=if p<aq c then 0::bo (aq c) p else 1::bo (c- aq c) (p- aq c):=by
 have b1:=bO c2
 have b2:=bX c2
 have b3:aq c<=2^59:=cj c2 c60
 show bV (59+1) p c=_
 rw[dY (by omega),gY 59 60 p (aq c) b3 (by omega),gY 59 60 (p- aq c) (c- aq c) (by omega) (by omega)]
theorem iE {c el:Nat}(e1:1<=el)(ec:el<c)(c60:c<=2^60):aR c el=if el<=aq c then 0::aR (aq c) el else 1::aR (c- aq c) (el- aq c):=by
 have c2:2<=c:=by omega
 have b1:=bO c2
 have b2:=bX c2
 have b3:aq c<=2^59:=cj c2 c60
 show grF (59+1) c el=_
 rw[fm (by omega),jQ 59 60 (aq c) el b3 (by omega),jQ 59 60 (c- aq c) (el- aq c) (by omega) (by omega)]
theorem mv {c:Nat}:aR c c=[]:=dS (.inr (Gt _))
def jT (In:List Key->Prop)(h:List Key->Key):Prop:=∀a b,In a->In b->h a=h b->a=b
theorem sT (I:jT In h):∀(ts:List Int)(ks ks':List Key)(e e':Key),pIn In h ts ks e->pIn In h ts ks' e'->plU h ts ks e=plU h ts ks' e'->e=e'
 |[],_,_,e,e',a,b,q=>(Le (Le (I _ _ a b q)).2).1
 |t::ts,ks,ks',e,e',a,b,q=>sT I ts _ _ e e' a.2 b.2 (Eg (I _ _ a.1 b.1 q)).1
theorem jF (I:jT In h):∀(ts:List Int)(ks ks':List Key),(∀t∈ts,t=0\/t=1)->gIn In h ts ks->gIn In h ts ks'->(tpF h ts ks).1=(tpF h ts ks').1->(tpF h ts ks).2=(tpF h ts ks').2
 |[],_,_,_,_,_,q=>q
 |t::ts,ks,ks',h01,a,b,q=>by
  have hr:∀t∈ts,t=0\/t=1:=fun t ht=>h01 t (KC _ ht)
  rcases h01 t KY with rfl|rfl
  ·rw[gL,gL]at q⊢
   obtain⟨a1,a2⟩:=gJ a
   obtain⟨b1,b2⟩:=gJ b
   exact jF I ts _ _ hr a2 b2 (Le (Le (I _ _ a1 b1 q)).2).1
  ·rw[fN,fN]at q⊢
   obtain⟨a1,_,a2⟩:=gq a
   obtain⟨b1,_,b2⟩:=gq b
   have e:=(Le (I _ _ a1 b1 q)).2
   have e1:=(Le e).1
   have e2:=jF I ts _ _ hr a2 b2 (Le (Le e).2).1
   show h [.inr "joint",_,_]=h [.inr "joint",_,_]
   rw[e1,e2]
theorem lW:∀(f c el:Nat),∀t∈grF f c el,t=0\/t=1
 |0,_,_,t,ht=>by cases ht
 |f+1,c,el,t,ht=>by
  rw[grF]at ht
  split at ht
  ·cases ht
  ·split at ht
   ·rcases KD.mp ht with e|ht
    ·exact .inl e
    ·exact lW f _ _ t ht
   ·rcases KD.mp ht with e|ht
    ·exact .inr e
    ·exact lW f _ _ t ht
theorem j2 {a b c d:Key}(e:([.inr "joint",a,b]:List Key)=[.inr "joint",c,d]):a=c/\b=d:=⟨(Le (Le e).2).1,(Le (Le (Le e).2).2).1⟩
theorem tZ (I:jT In h):∀(n c1 c2 p:Nat)(gs ks1 ks2:List Key)(e1 e2:Key),c1<=n->c1<=2^60->p<c2->c2<=c1->gIn In h (aR c1 c2) gs->pIn In h (bo c1 p) ks1 e1->pIn In h (bo c2 p) ks2 e2->(tpF h (aR c1 c2) gs).1=plU h (bo c1 p) ks1 e1->(tpF h (aR c1 c2) gs).2=plU h (bo c2 p) ks2 e2->e1=e2
 |0,c1,c2,p,gs,ks1,ks2,e1,e2,hn,c60,pc,cc,ag,a1,a2,q1,q2=>by omega
 |n+1,c1,c2,p,gs,ks1,ks2,e1,e2,hn,c60,pc,cc,ag,a1,a2,q1,q2=>by
  by_cases ec:c2=c1
  ·subst ec
   rw[mv]at q1 q2
   exact sT I _ _ _ _ _ a1 a2 (q1.symm.trans q2)
  have m2:2<=c1:=by omega
  have b1:=bO m2
  have b2:=bX m2
  have b3:=dB c1
  have gs1:=iE (c:=c1) (el:=c2) (by omega) (by omega) c60
  have ws1:=rp (p:=p) m2 c60
  by_cases hc:c2<=aq c1
  ·rw[if_pos hc]at gs1
   rw[if_pos (by omega)]at ws1
   rw[gs1]at ag q1 q2
   rw[ws1]at a1 q1
   rw[gL]at q1 q2
   obtain⟨x1,x2⟩:=gJ ag
   obtain⟨y1,y2⟩:=a1
   exact tZ I n (aq c1) c2 p _ _ _ e1 e2 (by omega) (by omega) pc hc x2 y2 a2 (j2 (I _ _ x1 y1 q1)).1 q2
  ·rw[if_neg hc]at gs1
   have hs:aq c2=aq c1:=jh m2 (by omega) cc
   have ws2:=rp (c:=c2) (p:=p) (by omega) (by omega)
   rw[hs]at ws2
   rw[gs1]at ag q1 q2
   rw[fN]at q1 q2
   obtain⟨x1,x2,x3⟩:=gq ag
   by_cases hp:p<aq c1
   ·rw[if_pos hp]at ws1 ws2
    rw[ws1]at a1 q1
    rw[ws2]at a2 q2
    obtain⟨y1,y2⟩:=a1
    obtain⟨z1,z2⟩:=a2
    exact sT I _ _ _ _ _ y2 z2 ((j2 (I _ _ x1 y1 q1)).1.symm.trans (j2 (I _ _ x2 z1 q2)).1)
   ·rw[if_neg hp]at ws1 ws2
    rw[ws1]at a1 q1
    rw[ws2]at a2 q2
    obtain⟨y1,y2⟩:=a1
    obtain⟨z1,z2⟩:=a2
    exact tZ I n (c1- aq c1) (c2- aq c1) (p- aq c1) _ _ _ e1 e2 (by omega) (by omega) (by omega) (by omega) x3 y2 z2 (j2 (I _ _ x1 y1 q1)).2 (j2 (I _ _ x2 z1 q2)).2
theorem tD (I:jT In h):∀(n c1 c2 c3:Nat)(g12 g13 g23:List Key),c1<=n->c1<=2^60->1<=c3->c3<=c2->c2<=c1->gIn In h (aR c1 c2) g12->gIn In h (aR c1 c3) g13->gIn In h (aR c2 c3) g23->(tpF h (aR c1 c2) g12).1=(tpF h (aR c1 c3) g13).1->(tpF h (aR c1 c2) g12).2=(tpF h (aR c2 c3) g23).1->(tpF h (aR c1 c3) g13).2=(tpF h (aR c2 c3) g23).2
 |0,c1,c2,c3,g12,g13,g23,hn,c60,o1,o2,o3,a,b,c,q1,q2=>by omega
 |n+1,c1,c2,c3,g12,g13,g23,hn,c60,o1,o2,o3,a,b,c,q1,q2=>by
  by_cases ec:c2=c1
  ·subst ec
   rw[mv]at q1 q2
   exact jF I _ _ _ (lW _ _ _) b c (q1.symm.trans q2)
  have m2:2<=c1:=by omega
  have b1:=bO m2
  have b2:=bX m2
  have b3:=dB c1
  have s12:=iE (c:=c1) (el:=c2) (by omega) (by omega) c60
  have s13:=iE (c:=c1) (el:=c3) (by omega) (by omega) c60
  by_cases hc:c2<=aq c1
  ·rw[if_pos hc]at s12
   rw[if_pos (by omega)]at s13
   rw[s12]at a q1 q2
   rw[s13]at b q1⊢
   rw[gL]at q1 q2⊢
   rw[gL]at q1
   obtain⟨x1,x2⟩:=gJ a
   obtain⟨y1,y2⟩:=gJ b
   exact tD I n (aq c1) c2 c3 _ _ _ (by omega) (by omega) o1 o2 hc x2 y2 c (j2 (I _ _ x1 y1 q1)).1 q2
  ·rw[if_neg hc]at s12
   have hs:aq c2=aq c1:=jh m2 (by omega) o3
   rw[s12]at a q1 q2
   rw[fN]at q1 q2
   obtain⟨x1,x2,x3⟩:=gq a
   by_cases h3:c3=c2
   ·subst h3
    rw[mv]at q2⊢
    rw[s12]at b q1⊢
    have q1':=q1
    rw[fN]at q1'⊢
    obtain⟨y1,y2,y3⟩:=gq b
    obtain⟨u1,u2⟩:=j2 (I _ _ x1 y1 q1')
    have u3:=jF I _ _ _ (lW _ _ _) x3 y3 u2
    rw[u1,u3]at q2
    exact q2
   have s23:=iE (c:=c2) (el:=c3) (by omega) (by omega) (by omega)
   rw[hs]at s23
   by_cases hp:c3<=aq c1
   ·rw[if_pos hp]at s13 s23
    rw[s13]at b q1⊢
    rw[s23]at c q2⊢
    rw[gL]at q1 q2⊢
    obtain⟨y1,y2⟩:=gJ b
    obtain⟨z1,z2⟩:=gJ c
    rw[gL]
    exact jF I _ _ _ (lW _ _ _) y2 z2 ((j2 (I _ _ x1 y1 q1)).1.symm.trans (j2 (I _ _ x2 z1 q2)).1)
   ·rw[if_neg hp]at s13 s23
    rw[s13]at b q1⊢
    rw[s23]at c q2⊢
    have r1:=q1
    have r2:=q2
    rw[fN]at r1 r2
    obtain⟨y1,y2,y3⟩:=gq b
    obtain⟨z1,z2,z3⟩:=gq c
    obtain⟨u1,u2⟩:=j2 (I _ _ x1 y1 r1)
    obtain⟨w1,w2⟩:=j2 (I _ _ x2 z1 r2)
    have fin:=tD I n (c1- aq c1) (c2- aq c1) (c3- aq c1) _ _ _ (by omega) (by omega) (by omega) (by omega) (by omega) x3 y3 z3 u2 w2
    rw[fN,fN]
    show h [.inr "joint",_,_]=h [.inr "joint",_,_]
    rw[fin,<-u1,<-w1]
theorem vV {x:Tre}:∀(f lo m:Nat),m<=2^f->lo<=x.s0->x.s0<lo+m->plU h (bV f (x.s0- lo) m) (pmF h x f lo m) x.e=tr h x lo m:=by
 intro f
 induction f with
 |zero=>
  intro lo m h1 h2 h3
  have h1:m<=1:=by simpa using h1
  have e1:m=1:=by omega
  have e2:lo=x.s0:=by omega
  subst e1;subst e2
  rw[lx];rfl
 |succ f ih=>
  intro lo m h1 h2 h3
  by_cases hm:m<=1
  ·have e1:m=1:=by omega
   have e2:lo=x.s0:=by omega
   subst e1;subst e2
   rw[lx,dj hm];rfl
  have m2:2<=m:=by omega
  have b1:=bO m2
  have b2:=bX m2
  have b3:=cj m2 h1
  rw[dY hm,nj hm,jO m2 (tX (.inl rfl) h2 h3)]
  by_cases hp:x.s0<lo+aq m
  ·rw[if_pos hp,if_pos (by omega),<-ih lo (aq m) b3 h2 hp];rfl
  ·rw[if_neg hp,if_neg (by omega),<-ih (lo+aq m) (m- aq m) (by omega) (by omega) (by omega),show x.s0- (lo+aq m)=x.s0- lo- aq m by omega];rfl
theorem mh {x:Tre}{el:Nat}(hs:el- 1=x.s1\/el- 1=x.s2):∀(f lo m:Nat),m<=2^f->lo<el->el<=lo+m->tpF h (grF f m (el- lo)) (gmF h x el f lo m)=(tr h x lo m,tr h x lo (el- lo)):=by
 intro f
 induction f with
 |zero=>
  intro lo m h1 h2 h3
  have h1:m<=1:=by simpa using h1
  have e1:m=1:=by omega
  subst e1
  have e2:el- lo=1:=by omega
  rw[e2];rfl
 |succ f ih=>
  intro lo m h1 h2 h3
  by_cases hm:lo+m<=el
  ·have e2:el- lo=m:=by omega
   rw[vP hm,dS (.inr (by omega)),e2];rfl
  have m2:2<=m:=by omega
  have b1:=bO m2
  have b2:=bX m2
  have b4:=dB m
  have b3:=cj m2 h1
  have hn:∀w,el<=lo+w->nS x lo w≠0:=fun w hw=>tX (s:=el- 1) (hs.elim (fun e=>.inr (.inl e)) fun e=>.inr (.inr e)) (by omega) (by omega)
  rw[fm (by omega),mG hm,jO m2 (hn m (by omega))]
  by_cases hp:el<=lo+aq m
  ·rw[if_pos hp,if_pos (by omega),gL,List.dropLast_concat,ih lo (aq m) b3 h2 hp]
   rw[KA,Kn,KR (by simp)]
   simp
  ·rw[if_neg hp,if_neg (by omega),fN]
   have i:=ih (lo+aq m) (m- aq m) (by omega) (by omega) (by omega)
   rw[show el- (lo+aq m)=el- lo- aq m by omega]at i
   have e:aq (el- lo)=aq m:=jh m2 (by omega) (by omega)
   rw[jO (m:=el- lo) (by omega) (hn _ (by omega)),e]
   show(h [.inr "joint",tr h x lo (aq m),_],h [.inr "joint",tr h x lo (aq m),_])=_
   rw[List.tail_cons,i]
theorem kM {c:Int}{ts:List Int}{ks:List Key}(kl:ks.length=ts.length+1)(h01:∀t∈ts,t=0\/t=1):dA h c (inM ts ks) (stG ts ks) ts.length=[.inr "row",.inl c,(tpF h ts ks).1]:=by
 rw[dC,pW (c:=c) ts ks kl h01]
 unfold bM
 rw[Lo (by rw[fx];exact Gt _)]
theorem lc {el:Nat}{ts:List Int}{ks:List Key}(e1:1<=el)(kl:ks.length=ts.length+1)(h01:∀t∈ts,t=0\/t=1):ji h el (inM ts ks) (stG ts ks)=[.inr "row",.inl (el:Int),(tpF h ts ks).2]:=by
 rw[pW (c:=0) ts ks kl h01]
 unfold ji
 rw[if_neg (by omega),fx]
end
theorem qQ {k:List Key}(h:∀x∈k,okP x=true):k.all gI=true:=by
 rw[LD]
 intro x hx
 have:=h x hx
 cases x with
 |inl i=>rfl
 |inr z=>exact vb (Ku.mp this).1
theorem vX {H:Hp}{Q:VK}{a b:Addr}{k:List Key}(ha:H a=some (.tup (k.map kV)))(hb:H b=some (.tup (k.map kV)))(ok:∀x∈k,okP x=true)(q:Q (.bl false) H):gn K (.ref a) (.ref b) H Q:=by
 refine⟨_,_,dW ha,dW hb,bZ (qQ ok),bZ (qQ ok),yr _,?_⟩
 show Q (.bl (!PyData.eqvAll (k.map bC) (k.map bC))) H
 rw[dL,decide_eq_true rfl];exact q
theorem Bj:okP (.inr "told")=true:=by decide+kernel
theorem rT {u:Key}(h:okP u=true):∀x∈([.inr "told",u]:List Key),okP x=true:=fun x hx=>by
 rcases KD.mp hx with e|hx
 ·rw[e];exact Bj
 ·rw[Ky.mp hx];exact h
section
variable {h:List Key->Key}{x:Tre}{c el:Nat}{ks:List Key}{mk:Key}{v:Option Key}
theorem rB (c60:c<=2^60)(sc:x.s0<c)(kl:ks.length=(bo c x.s0).length)(ek:ks=pmF h x 60 0 c)(em:mk=h [.inr "row",.inl (c:Int),tr h x 0 c])(t:PlT h c x.s0 ks x.e mk v):v=some x.e:=by
 have e:=vV (h:=h) (x:=x) 60 0 c c60 (KS _) (by omega)
 rw[LN,<-ek]at e
 have e2:h (de h c x.e (stR (bo c x.s0) ks) ((bo c x.s0).length+1))=mk:=by rw[mE kl,e,em]
 cases v with
 |none=>exact absurd e2 t
 |some v=>rw[t.1]
theorem oI (c60:c<=2^60)(e1:1<=el)(ec:el<=c)(hs:el- 1=x.s1\/el- 1=x.s2)(kl:ks.length=(aR c el).length+1)(ek:ks=gmF h x el 60 0 c)(em:mk=h [.inr "row",.inl (c:Int),tr h x 0 c])(t:GrT h c el ks mk v):v=some (h [.inr "row",.inl (el:Int),tr h x 0 el]):=by
 have e:=mh (h:=h) (x:=x) hs 60 0 c c60 (by omega) (by omega)
 rw[LN,<-ek]at e
 have e2:h (dA h c (inM (aR c el) ks) (stG (aR c el) ks) (aR c el).length)=mk:=by rw[kM kl (hJ _ _ _),em];rw[show(tpF h (aR c el) ks).1=tr h x 0 c from congrArg RN e]
 cases v with
 |none=>exact absurd e2 t
 |some v=>
  rw[t.2,lc e1 kl (hJ _ _ _),show(tpF h (aR c el) ks).2=tr h x 0 el from congrArg RM e]
end
structure HdF (H:Hp)(L:Addr)(x:Tre)(c:Nat->Nat)(m:Nat->Key)(g:gOp):Prop where
 ex:∃ps:List Addr,H L=some (.lst (ps.map V.ref))/\ps.length=3/\∀(i:Nat)(p:Addr),ps[i]?=some p->H p=some (.tup [.int (c i:Int),kV (m i)])
 ok:∀i,i<3->okP (m i)=true
 eq:∀i,i<3->∀h,Ext g h->m i=h [.inr "row",.inl (c i:Int),tr h x 0 (c i)]
 le:∀i,i<3->c i<=4200
 mono:∀i j,i<=j->j<3->c j<=c i
 s0:∀i,i<3->x.s0<c i
 sp:∀j,1<=j->j<3->c j- 1=x.s1\/c j- 1=x.s2
def cF (c0 c1 c2:Nat):Nat->Nat
 |0=>c0
 |1=>c1
 |_=>c2
def mF (m0 m1 m2:Key):Nat->Key
 |0=>m0
 |1=>m1
 |_=>m2
theorem Hds.F {H:Hp}{L:Addr}{x:Tre}{c0 c1 c2:Nat}{m0 m1 m2:Key}{g:gOp}(y:Hds H L x c0 c1 c2 m0 m1 m2 g):HdF H L x (cF c0 c1 c2) (mF m0 m1 m2) g:=by
 obtain⟨⟨p0,p1,p2,a,b0,b1,b2⟩,o0,o1,o2,e0,e1,e2,l0,l1,l2,l3,q1,q2⟩:=y
 refine⟨⟨[p0,p1,p2],a,rfl,fun i p hi=>?_⟩,fun i hi=>?_,fun i hi=>?_,fun i hi=>?_,fun i j h1 h2=>?_,fun i hi=>?_,fun j h1 h2=>?_⟩
 ·match i,hi with
  |0,hi=>cases hi;exact b0
  |1,hi=>cases hi;exact b1
  |2,hi=>cases hi;exact b2
  |i+3,hi=>simp at hi
 ·match i,hi with
  |0,_=>exact o0
  |1,_=>exact o1
  |2,_=>exact o2
 ·match i,hi with
  |0,_=>exact e0
  |1,_=>exact e1
  |2,_=>exact e2
 ·match i,hi with
  |0,_=>exact l0
  |1,_=>show c1<=4200;omega
  |2,_=>show c2<=4200;omega
 ·rcases(show j=0\/j=1\/j=2 by omega)with rfl|rfl|rfl<;>rcases(show i=0\/i=1\/i=2 by omega)with rfl|rfl|rfl<;>(simp only[cF];omega)
 ·match i,hi with
  |0,_=>show x.s0<c0;omega
  |1,_=>show x.s0<c1;omega
  |2,_=>exact l3
 ·match j,h1,h2 with
  |1,_,_=>exact .inl (by show c1- 1=x.s1;omega)
  |2,_,_=>exact .inr (by show c2- 1=x.s2;omega)
theorem HdF.kb {H H':Hp}{f b L:Addr}{x:Tre}{c:Nat->Nat}{m:Nat->Key}{d:Kd}{g g':gOp}{n:Nat}(y:HdF H L x c m g)(s:Stp A H f b d g n)(k:aO b H H')(sub:Sub g g'):HdF H' L x c m g':=by
 obtain⟨ps,a1,a2,a3⟩:=y.ex
 exact⟨⟨ps,k _ _ (s.nb a1 (fun _ z=>nomatch z) (fun _ z=>nomatch z)) a1,a2,fun i p hi=>k _ _ (s.nb (a3 i p hi) (fun _ z=>nomatch z) (fun _ z=>nomatch z)) (a3 i p hi)⟩,y.ok,fun i hi h eh=>y.eq i hi h (Ext.of sub eh),y.le,y.mono,y.s0,y.sp⟩
theorem HdF.same {H H':Hp}{L:Addr}{x:Tre}{c:Nat->Nat}{m:Nat->Key}{g:gOp}(y:HdF H L x c m g)(S:aA H H'):HdF H' L x c m g:=by
 obtain⟨ps,a1,a2,a3⟩:=y.ex
 exact⟨⟨ps,S _ _ a1,a2,fun i p hi=>S _ _ (a3 i p hi)⟩,y.ok,y.eq,y.le,y.mono,y.s0,y.sp⟩
theorem HdF.at' {H:Hp}{L:Addr}{x:Tre}{c:Nat->Nat}{m:Nat->Key}{g:gOp}(y:HdF H L x c m g){i:Nat}(hi:i<3){Q:VK}(q:∀p,H p=some (.tup [.int (c i:Int),kV (m i)])->Q (.ref p) H):aG K (.ref L) (.int (i:Int)) H Q:=by
 obtain⟨ps,a1,a2,a3⟩:=y.ex
 obtain⟨p,hp⟩:∃p,ps[i]?=some p:=⟨_,If (by omega)⟩
 exact ixL (j:=i) a1 rfl (by rw[KL,hp];rfl) (q p (a3 i p hp))
theorem HdF.at0 {H:Hp}{L:Addr}{x:Tre}{c:Nat->Nat}{m:Nat->Key}{g:gOp}(y:HdF H L x c m g){i:Nat}(hi:i<3){Q:VK}(q:Q (.int (c i:Int)) H):aG K (.ref L) (.int (i:Int)) H fun v H=>aG K v (.int 0) H Q:=y.at' hi fun p hp=>ixT (j:=0) hp rfl rfl q
theorem HdF.at1 {H:Hp}{L:Addr}{x:Tre}{c:Nat->Nat}{m:Nat->Key}{g:gOp}(y:HdF H L x c m g){i:Nat}(hi:i<3){Q:VK}(q:Q (kV (m i)) H):aG K (.ref L) (.int (i:Int)) H fun v H=>aG K v (.int 1) H Q:=y.at' hi fun p hp=>ixT (j:=1) hp rfl rfl q
theorem eT {H:Hp}{f b P T:Addr}{d:Kd}{c p:Nat}{ks:List Key}{e:Key}{g:gOp}{n:Nat}(s:Stp A H f b d g n)(hn:n+400<=40000)(pc:p<c)(c4:c<=4200)(kl:ks.length=(bo c p).length)(ee:enK e)(ke:∀k∈ks,enK k)(w:dN H P T e ks):iC A H f b P T d c (bo c p) ks e g n:=
 ⟨s,by omega,by omega,LA c4 (by decide),gC 60 p c,qh 60 p c,kl,ee,ke,w⟩
theorem eA {H:Hp}{f b P:Addr}{d:Kd}{c el:Nat}{ks:List Key}{g:gOp}{n:Nat}(s:Stp A H f b d g n)(hn:n+400<=40000)(e1:1<=el)(ec:el<=c)(c4:c<=4200)(kl:ks.length=(aR c el).length+1)(ke:∀k∈ks,enK k)(w:H P=some (.tup (ks.map kV))):jW A H f b P d c el (aR c el) ks g n:=
 ⟨s,hn,by omega,LA c4 (by decide),ec,lO 60 c el,hJ 60 c el,fun z=>by omega,kl,ke,w⟩
theorem c60 {c:Nat}(h:c<=4200):c<=2^60:=KN h (by decide)
theorem Cv (K:pv)(A:Adr):Ln (pK K A) 4:=by rintro vs H Q E ⟨f,b,t,S,L,d,x,c0,c1,c2,m0,m1,m2,g,n,rfl,_⟩;rfl
theorem Ij (T:Txt K mg A):Rd (pK K A) (JX K A) ["_law_stamper_here","_law_tree","_law_heads","_law_place","_law_k","_law_paper_here","_law_j","_law_marks"]:=by
 intro vs H Q E h
 obtain⟨f,b,t,S,L,d,x,c0,c1,c2,m0,m1,m2,g,n,rfl,s,hn,tw,hd,q⟩:=h
 have y:=hd.F
 generalize cF c0 c1 c2=c at y
 generalize mF m0 m1 m2=m at y
 clear hd
 refine⟨_,rfl,by omega,by omega,?_⟩
 refine jr (lo:=0) (n:=3) (D:={nx:=aS (tC (.bl true)) {nx:=fun _ H'=>Q .non H',rt:=Q},rt:=Q}) (g:=aE 4) (fun i σ H'=>∃(g':gOp)(x4 x5 x6 x7:Option V),σ=[some (.ref f),some (.ref t),some (.ref L),some (.int (x.s0:Int)),x4,x5,x6,x7]/\aO b H H'/\Stp A H' f b d g' (n+2720*i)/\Sub g g')
  ⟨g,none,none,none,none,rfl,aO.rfl',s,Sub.rfl'⟩ ?_ ?_
 ·rintro i σ H1 hi ⟨g1,x4,x5,x6,x7,rfl,k1,s1,sub1⟩
  rw[show(0:Int)+(i:Int)=(i:Int)by omega]
  have y1:=y.kb s k1 sub1
  have t1:=tw.kb s k1
  have le:=y.le i hi
  have sc:=y.s0 i hi
  refine y1.at0 hi ?_
  refine⟨f,b,t,S,d,x,g1,n+2720*i,c i,rfl,s1,by omega,t1,by omega,le,sc,fun P TT ks g2 H2 k2 s2 sub2 w2 ke kl ek=>?_⟩
  have y2:=y1.kb s1 k2 sub2
  have t2:=t1.kb s1 k2
  refine y2.at' hi fun hd hhd=>?_
  refine⟨f,b,hd,P,d,c i,x.s0,m i,g2,n+2720*i+700,false,rfl,hhd,y2.ok i hi,.inr ⟨rfl,sc,TT,ks,x.e,eT s2 (by omega) sc le kl t2.ok.en ke w2,fun r v g3 H3 k3 s3 sub3 td pt okv=>?_⟩⟩
  have ev:=rB (c60 le) sc kl (ek _ (Ext.of sub3 (dM g3))) (y2.eq i hi _ (Ext.of sub3 (dM g3))) (pt _ (dM g3))
  subst ev
  have y3:=y2.kb s2 k3 sub3
  have t3:=t2.kb s2 k3
  refine ixT (j:=2) t3.ht rfl rfl ⟨aQ (show 2<=1000000 by decide),fun p hp=>?_⟩
  have S4:aA H3 (upd H3 p (.tup ([.inr "told",x.e].map kV))):=aA.upd hp
  have h4:upd H3 p (.tup ([.inr "told",x.e].map kV)) p=some (.tup ([.inr "told",x.e].map kV)):=au
  have td4:upd H3 p (.tup ([.inr "told",x.e].map kV)) r=some (.tup ([.inr "told",x.e].map kV)):=S4 _ _ td
  refine vX td4 h4 (rT t3.ok.1) (Sel.f ?_)
  have k4:=(k1.trans k2).trans (k3.trans (aO.same S4))
  have sub4:=sub1.trans (sub2.trans sub3)
  have s4:=s3.same (Gt _) S4
  refine⟨_,_,rfl,⟨by omega,by omega,by omega,by omega⟩,?_⟩
  rw[show((3:Int)- ((i:Int)+1)).toNat=2- i by omega]
  refine jr (lo:=(i:Int)+1) (n:=2- i) (D:={nx:=fun σ H'=>∃(g':gOp)(x4 x5 x6 x7:Option V),σ=[some (.ref f),some (.ref t),some (.ref L),some (.int (x.s0:Int)),x4,x5,x6,x7]/\aO b H H'/\Stp A H' f b d g' (n+2720*(i+1))/\Sub g g',rt:=Q}) (g:=aE 6) (fun j σ H'=>∃(g':gOp)(x6 x7:Option V),σ=[some (.ref f),some (.ref t),some (.ref L),some (.int (x.s0:Int)),some (.int (i:Int)),some (.ref P),x6,x7]/\aO b H H'/\Stp A H' f b d g' (n+2720*i+840+940*j)/\Sub g g')
   ⟨g3,_,_,rfl,k4,s4.same (by omega) (.refl _),sub4⟩ ?_ ?_
  ·rintro j σ H5 hj ⟨g5,x6,x7,rfl,k5,s5,sub5⟩
   have ez:(i:Int)+1+(j:Int)=((i+1+j:Nat):Int):=by omega
   rw[ez]
   have hj3:i+1+j<3:=by omega
   generalize hjj:i+1+j=j' at hj3⊢
   have y5:=y.kb s k5 sub5
   have t5:=tw.kb s k5
   have le5:=y.le j' hj3
   have mo:=y.mono i j' (by omega) hj3
   have sc5:=y.s0 j' hj3
   refine y5.at0 hi (y5.at0 hj3 ?_)
   refine⟨f,b,t,S,d,x,g5,n+2720*i+840+940*j,c i,c j',rfl,s5,by omega,t5,by omega,mo,le,fun G gs g6 H6 k6 s6 sub6 w6 ke6 kl6 ek6=>?_⟩
   have y6:=y5.kb s5 k6 sub6
   refine y6.at' hi fun hd6 hhd6=>y6.at0 hj3 ?_
   refine⟨f,b,hd6,G,d,c i,c j',m i,g6,n+2720*i+840+940*j+800,true,rfl,hhd6,y6.ok i hi,.inl ⟨rfl,by omega,gs,eA s6 (by omega) (by omega) mo le kl6 ke6 w6,fun r7 v7 g7 H7 k7 s7 sub7 td7 gt7 okv7=>?_⟩⟩
   have ev7:=oI (c60 le) (by omega) mo (y.sp j' (by omega) hj3) kl6 (ek6 _ (Ext.of sub7 (dM g7))) (y6.eq i hi _ (Ext.of sub7 (dM g7))) (gt7 _ (dM g7))
   rw[<-y6.eq j' hj3 _ (Ext.of sub7 (dM g7))]at ev7
   subst ev7
   have y7:=y6.kb s6 k7 sub7
   refine y7.at1 hj3 ⟨aQ (show 2<=1000000 by decide),fun p8 hp8=>?_⟩
   have S8:aA H7 (upd H7 p8 (.tup ([.inr "told",m j'].map kV))):=aA.upd hp8
   have h8:upd H7 p8 (.tup ([.inr "told",m j'].map kV)) p8=some (.tup ([.inr "told",m j'].map kV)):=au
   have td8:upd H7 p8 (.tup ([.inr "told",m j'].map kV)) r7=some (.tup ([.inr "told",m j'].map kV)):=S8 _ _ td7
   refine vX td8 h8 (rT (y.ok j' hj3)) (Sel.f ?_)
   exact⟨g7,_,_,rfl,k5.trans (k6.trans (k7.trans (aO.same S8))),s7.same (by omega) S8,sub5.trans (sub6.trans sub7)⟩
  ·rintro σ H5 ⟨g5,x6,x7,rfl,k5,s5,sub5⟩
   exact⟨g5,_,_,_,_,rfl,k5,s5.same (by omega) (.refl _),sub5⟩
 ·rintro σ H1 ⟨g1,x4,x5,x6,x7,rfl,k1,s1,sub1⟩
  exact q g1 H1 k1 (s1.same (by omega) (.refl _)) sub1
theorem Lin.num {a c:Int}{kvs:List (List Key×Key)}(s:Lin a c kvs)(k:List Key)(v:Key)(h:cp kvs k=some v):∃i,v=.inl i:=by
 obtain⟨i,hi⟩:=mU h
 exact⟨_,s i _ hi⟩
theorem Stp.sureH {H:Hp}{f b:Addr}{d:Kd}{g:List Key->Option Key}{n:Nat}(s:Stp A H f b d g n)(hd:d.sure):∃h,Ext g h/\∀k k',okT k=true->okT k'=true->h k=h k'->k=k':=by
 have inj:∀k k' v,okT k=true->okT k'=true->g k=some v->g k'=some v->k=k':=fun k k' v a b c d=>s.inj hd a b c d
 have gen:(∀k v,g k=some v->∃i,v=.inl i)->∃h,Ext g h/\∀k k',okT k=true->okT k'=true->h k=h k'->k=k':=fun num=>by
  refine⟨fun k=>(g k).getD (.inr (cg k)),fun k v e=>by show(g k).getD _=v;rw[e];rfl,fun k k' ok ok' e=>?_⟩
  have e:(g k).getD (.inr (cg k))=(g k').getD (.inr (cg k')):=e
  cases a:g k with
  |none=>
   cases b:g k' with
   |none=>rw[a,b]at e;exact gP (dz ok) (dz ok') (Pf e)
   |some w=>obtain⟨i,rfl⟩:=num _ _ b;rw[a,b]at e;cases e
  |some v=>
   cases b:g k' with
   |none=>obtain⟨i,rfl⟩:=num _ _ a;rw[a,b]at e;cases e
   |some w=>
    rw[a,b]at e
    have e:v=w:=e
    subst e
    exact inj k k' v ok ok' a b
 cases s with
 |wri hc hb hg ed=>
  subst hg
  exact⟨fun k=>.inr (cg k),fun k v e=>KG e,fun k k' ok ok' e=>gP (dz ok) (dz ok') (Pf e)⟩
 |cnt q x kvs hc num hl hs st hg ed=>subst hg;exact gen st.num
 |wea q m h1 h2 hc hb hg ed=>subst ed;exact hd.elim
 |pla q0 q1 q2 D j j0 j1 kvs al hc hb ha bD hl hs st hg ed=>
  subst ed
  have hd:al=none:=hd
  subst hd hg
  exact gen st.num
theorem r3 {c:Int}{a b:Key}(e:([.inr "row",.inl c,a]:List Key)=[.inr "row",.inl c,b]):a=b:=(Le (Le (Le e).2).2).1
section
variable {h:List Key->Key}{tt:List (List Key)}{x:Tre}
theorem rh {c:Int}{e:Key}{st:List (Int×Key)}{m i:Nat}(hi:i<m):de h c e st i∈hV h c e st m:=LC.mpr ⟨i,Nw.mpr hi,rfl⟩
theorem nE {c:Int}{m:Key}{st:List (Int×Key)}{k i:Nat}(hi:i<k):dA h c m st i∈fS h c m st k:=LC.mpr ⟨i,Nw.mpr hi,rfl⟩
def gT (h:List Key->Key)(c el:Nat)(gs:List Key):List (List Key):=fS h c (inM (aR c el) gs) (stG (aR c el) gs) ((aR c el).length+1)++jp h el (inM (aR c el) gs) (stG (aR c el) gs)
def pT (h:List Key->Key)(c p:Nat)(ks:List Key)(e:Key):List (List Key):=hV h c e (stR (bo c p) ks) ((bo c p).length+2)
theorem pY {c el:Nat}{gs:List Key}(e1:1<=el)(kl:gs.length=(aR c el).length+1)(a:∀t∈gT h c el gs,t∈tt):gIn (·∈tt) h (aR c el) gs/\[.inr "row",.inl (c:Int),(tpF h (aR c el) gs).1]∈tt/\[.inr "row",.inl (el:Int),(tpF h (aR c el) gs).2]∈tt:=by
 refine⟨wt (c:=(c:Int)) _ _ kl (hJ _ _ _) (fun i hi=>a _ (Lb _ (nE (by omega)))) (fun k hk=>a _ (KP _ ?_)),?_,?_⟩
 ·unfold jp
  rw[if_neg (by omega),fx]
  exact Lb _ hk
 ·rw[<-kM kl (hJ _ _ _)]
  exact a _ (Lb _ (nE (Mg _)))
 ·rw[<-lc e1 kl (hJ _ _ _)]
  exact a _ (KP _ (KP _ (Ky.mpr rfl)))
theorem zx {c p:Nat}{ks:List Key}{e:Key}(kl:ks.length=(bo c p).length)(a:∀t∈pT h c p ks e,t∈tt):pIn (·∈tt) h (bo c p) ks e/\[.inr "row",.inl (c:Int),plU h (bo c p) ks e]∈tt:=by
 refine⟨ww (c:=(c:Int)) _ _ kl fun i hi=>a _ (rh (by omega)),?_⟩
 rw[<-mE kl]
 exact a _ (rh (Mg _))
theorem vY (I:rf h tt){c0 c1:Nat}{gs ks0 ks1:List Key}{e0 e1:Key}(l0:c0<=4200)(l1:c1<=c0)(s0:x.s0<c1)(sp:c1- 1=x.s1\/c1- 1=x.s2)(klg:gs.length=(aR c0 c1).length+1)(kl0:ks0.length=(bo c0 x.s0).length)(kl1:ks1.length=(bo c1 x.s0).length)(eg:gs=gmF h x c1 60 0 c0)
  (ag:∀t∈gT h c0 c1 gs,t∈tt)(a0:∀t∈pT h c0 x.s0 ks0 e0,t∈tt)(a1:∀t∈pT h c1 x.s0 ks1 e1,t∈tt)(q0:h [.inr "row",.inl (c0:Int),plU h (bo c0 x.s0) ks0 e0]=h [.inr "row",.inl (c0:Int),tr h x 0 c0])(q1:h [.inr "row",.inl (c1:Int),plU h (bo c1 x.s0) ks1 e1]=h [.inr "row",.inl (c1:Int),tr h x 0 c1]):e0=e1:=by
 have J:jT (·∈tt) h:=fun a b ha hb e=>I a ha b hb e
 obtain⟨b1,b2,b3⟩:=pY (by omega) klg ag
 obtain⟨p1,p2⟩:=zx kl0 a0
 obtain⟨r1,r2⟩:=zx kl1 a1
 have e:=mh (h:=h) (x:=x) sp 60 0 c0 (c60 l0) (by omega) (by omega)
 rw[LN,<-eg]at e
 have f1:(tpF h (aR c0 c1) gs).1=tr h x 0 c0:=congrArg RN e
 have f2:(tpF h (aR c0 c1) gs).2=tr h x 0 c1:=congrArg RM e
 have u1:=r3 (I _ b2 _ p2 (by rw[q0,f1]))
 have u2:=r3 (I _ b3 _ r2 (by rw[q1,f2]))
 exact tZ J c0 c0 c1 x.s0 gs ks0 ks1 e0 e1 (Gt _) (c60 l0) s0 l1 b1 p1 r1 u1 u2
theorem wu (I:rf h tt){c0 c1 c2:Nat}{gs ga gb:List Key}(l0:c0<=4200)(l1:c1<=c0)(l2:c2<=c1)(l3:1<=c2)(sp:c1- 1=x.s1\/c1- 1=x.s2)(klg:gs.length=(aR c0 c1).length+1)(kla:ga.length=(aR c0 c2).length+1)(klb:gb.length=(aR c1 c2).length+1)(eg:gs=gmF h x c1 60 0 c0)
  (ag:∀t∈gT h c0 c1 gs,t∈tt)(aa:∀t∈gT h c0 c2 ga,t∈tt)(ab:∀t∈gT h c1 c2 gb,t∈tt)(q0:h [.inr "row",.inl (c0:Int),(tpF h (aR c0 c2) ga).1]=h [.inr "row",.inl (c0:Int),tr h x 0 c0])(q1:h [.inr "row",.inl (c1:Int),(tpF h (aR c1 c2) gb).1]=h [.inr "row",.inl (c1:Int),tr h x 0 c1]):(tpF h (aR c0 c2) ga).2=(tpF h (aR c1 c2) gb).2:=by
 have J:jT (·∈tt) h:=fun a b ha hb e=>I a ha b hb e
 obtain⟨b1,b2,b3⟩:=pY (by omega) klg ag
 obtain⟨p1,p2,_⟩:=pY (by omega) kla aa
 obtain⟨r1,r2,_⟩:=pY (by omega) klb ab
 have e:=mh (h:=h) (x:=x) sp 60 0 c0 (c60 l0) (by omega) (by omega)
 rw[LN,<-eg]at e
 have f1:(tpF h (aR c0 c1) gs).1=tr h x 0 c0:=congrArg RN e
 have f2:(tpF h (aR c0 c1) gs).2=tr h x 0 c1:=congrArg RM e
 have u1:=r3 (I _ b2 _ p2 (by rw[q0,f1]))
 have u2:=r3 (I _ b3 _ r2 (by rw[q1,f2]))
 exact tD J c0 c0 c1 c2 gs ga gb (Gt _) (c60 l0) l3 l2 l1 b1 p1 r1 u1 u2
end
theorem sH {H:Hp}{f b M r:Addr}{d:Kd}{ps:List Addr}{tt:List (List Key)}{v:Option Key}{du:Key}{g:gOp}{n:Nat}{w:Int}{Q:VK}(s:Stp A H f b d g n)(hn:n+1000<=40000)(hM:H M=some (.lst (ps.map V.ref)))(pk:PK H ps tt)(l9:tt.length<=900)(td:TdW H r v)(okd:okP du=true)(okv:∀u,v=some u->okP u=true)(su:w=3->d.sure)(core:∀h,Ext g h->rf h tt->∀u,v=some u->u=du)(q:∀H',Q (.bl true) H'):
  jt K A [.ref f,.ref M,.ref r,kV du,.bl (decide (w=3))] H Q E0:=by
 refine⟨f,b,M,r,d,ps,tt,v,du,g,n,_,rfl,s,hn,hM,pk,l9,td,okd,okv,fun u eu ne=>⟨decide_eq_false fun w3=>?_,fun h eh I=>ne (core h eh I u eu)⟩,q⟩
 obtain⟨h,eh,inj⟩:=s.sureH (su w3)
 refine ne (core h eh (fun a ha b hb e=>?_) u eu)
 have okm:∀a∈tt,okT a=true:=fun a ha=>by
  obtain⟨i,hi⟩:=Oy ha
  obtain⟨_,_,_,ok⟩:=vB pk hi
  exact ok
 exact inj a b (okm a ha) (okm b hb) e
def KO (H H':Hp):Prop:=∀z o,H z=some o->(∀φ,o≠.ext φ)->(∀kvs,o≠.dT kvs)->H' z=some o
section
variable {H H' H2:Hp}{f b L t S N P T M:Addr}{d:Kd}{g g':gOp}{n:Nat}{x:Tre}{c:Nat->Nat}{m:Nat->Key}{ks:List Key}{e:Key}
theorem KO.of (s:Stp A H f b d g n)(k:aO b H H'):KO H H':=fun z o e h1 h2=>k z o (s.nb e h1 h2) e
theorem KO.same (S:aA H H'):KO H H':=fun z o e _ _=>S z o e
theorem KO.trans (a:KO H H')(c:KO H' H2):KO H H2:=fun z o e h1 h2=>c z o (a z o e h1 h2) h1 h2
theorem KO.tp (k:KO H H'){z:Addr}{xs:List V}(e:H z=some (.tup xs)):H' z=some (.tup xs):=k _ _ e (fun _ z=>nomatch z) (fun _ z=>nomatch z)
theorem KO.ls (k:KO H H'){z:Addr}{xs:List V}(e:H z=some (.lst xs)):H' z=some (.lst xs):=k _ _ e (fun _ z=>nomatch z) (fun _ z=>nomatch z)
theorem dE.ko (w:dE H t S x)(k:KO H H'):dE H' t S x:=⟨k.tp w.ht,k.ls w.hS,w.ok⟩
theorem dN.ko (w:dN H P T e ks)(k:KO H H'):dN H' P T e ks:=⟨k.tp w.hP,k.tp w.hT⟩
theorem HdF.ko (y:HdF H L x c m g)(k:KO H H')(sub:Sub g g'):HdF H' L x c m g':=by
 obtain⟨ps,a1,a2,a3⟩:=y.ex
 exact⟨⟨ps,k.ls a1,a2,fun i p hi=>k.tp (a3 i p hi)⟩,y.ok,fun i hi h eh=>y.eq i hi h (Ext.of sub eh),y.le,y.mono,y.s0,y.sp⟩
theorem SqL.ko {a:Addr}{xs:List V}(w:SqL K H a xs)(k:KO H H'):SqL K H' a xs:=by
 rcases w with(h|⟨o,h⟩)|h
 ·exact .inl (.inl (k.ls h))
 ·exact .inl (.inr ⟨o,k _ _ h (fun _ z=>nomatch z) (fun _ z=>nomatch z)⟩)
 ·exact .inr h
theorem HdF.az (y:HdF H L x c m g){i:Nat}{z:Int}(ez:z=(i:Int))(hi:i<3){Q:VK}(q:∀p,H p=some (.tup [.int (c i:Int),kV (m i)])->Q (.ref p) H):aG K (.ref L) (.int z) H Q:=by subst ez;exact y.at' hi q
theorem HdF.az0 (y:HdF H L x c m g){i:Nat}{z:Int}(ez:z=(i:Int))(hi:i<3){Q:VK}(q:Q (.int (c i:Int)) H):aG K (.ref L) (.int z) H fun v H=>aG K v (.int 0) H Q:=by subst ez;exact y.at0 hi q
theorem HdF.az1 (y:HdF H L x c m g){i:Nat}{z:Int}(ez:z=(i:Int))(hi:i<3){Q:VK}(q:Q (kV (m i)) H):aG K (.ref L) (.int z) H fun v H=>aG K v (.int 1) H Q:=by subst ez;exact y.at1 hi q
end
structure PpF (H:Hp)(N:Addr)(x:Tre)(c:Nat->Nat)(g:gOp)(P T:Nat->Addr)(ks:Nat->List Key):Prop where
 hN:H N=some (.lst [.ref (P 0),.ref (P 1)])
 w:∀i,i<2->dN H (P i) (T i) x.e (ks i)
 ke:∀i,i<2->∀k∈ks i,enK k
 kl:∀i,i<2->(ks i).length=(bo (c i) x.s0).length
 eq:∀i,i<2->∀h,Ext g h->ks i=pmF h x 60 0 (c i)
section
variable {H H':Hp}{N:Addr}{x:Tre}{c:Nat->Nat}{g g':gOp}{P T:Nat->Addr}{ks:Nat->List Key}
theorem PpF.ko (p:PpF H N x c g P T ks)(k:KO H H')(sub:Sub g g'):PpF H' N x c g' P T ks:=⟨k.ls p.hN,fun i hi=>(p.w i hi).ko k,p.ke,p.kl,fun i hi h eh=>p.eq i hi h (Ext.of sub eh)⟩
theorem PpF.az (p:PpF H N x c g P T ks){i:Nat}{z:Int}(ez:z=(i:Int))(hi:i<2){Q:VK}(q:Q (.ref (P i)) H):aG K (.ref N) (.int z) H Q:=by
 subst ez
 match i,hi with
 |0,_=>exact ixL (j:=0) p.hN rfl rfl q
 |1,_=>exact ixL (j:=1) p.hN rfl rfl q
end
theorem lK (T:Txt K mg A){H:Hp}{f b t S L N Po To:Addr}{d:Kd}{x:Tre}{c:Nat->Nat}{m:Nat->Key}{g:gOp}{n k:Nat}{w:Int}{P TT:Nat->Addr}{ks:Nat->List Key}{e':Key}{ks':List Key}{Q:VK}{x1 x4 x5 x7 x13 x14:Option V}(s:Stp A H f b d g n)(hn:n+4000<=40000)(tw:dE H t S x)(y:HdF H L x c m g)(pp:PpF H N x c g P TT ks)(wo:dN H Po To e' ks')(ee:enK e')(ke:∀k∈ks',enK k)(hk:k<2)(kl:ks'.length=(bo (c k) x.s0).length)(su:w=3->d.sure)(q:∀H',Q (.bl true) H'):
  vo K A {nx:=fun _ H'=>Q .non H',rt:=Q} [some (.ref f),x1,some (.ref t),some (.ref L),x4,x5,some (.int w),x7,some (.int (k:Int)),some (.int (x.s0:Int)),some (.ref N),some (.int (c k:Int)),some (.ref Po),x13,x14,none,none] H:=by
 have le:∀i,i<2->c i<=4200:=fun i hi=>y.le i (by omega)
 have sc:∀i,i<2->x.s0<c i:=fun i hi=>y.s0 i (by omega)
 have ho:1- k<2:=by omega
 have wl:∀a b,(bo a b).length<=60:=fun a b=>gC 60 b a
 refine⟨f,b,Po,To,d,c k,x.s0,ks',e',g,n,rfl,eT s (by omega) (sc k hk) (le k hk) kl ee ke wo,sc k hk,fun M1 ps1 tt1 g1 H1 k1 s1 sub1 _ _ hM1 pk1 _ l1 _ eq1=>?_⟩
 have K1:=KO.of s k1
 have y1:=y.ko K1 sub1
 have p1:=pp.ko K1 sub1
 refine y1.az0 (i:=1- k) (by omega) (by omega) (p1.az (i:=1- k) (by omega) ho ?_)
 refine⟨f,b,P (1- k),TT (1- k),d,c (1- k),x.s0,ks (1- k),x.e,g1,n+70,rfl,eT s1 (by omega) (sc _ ho) (le _ ho) (pp.kl _ ho) tw.ok.en (pp.ke _ ho) (p1.w _ ho),sc _ ho,fun M2 ps2 tt2 g2 H2 k2 s2 sub2 _ _ hM2 pk2 _ l2 _ eq2=>?_⟩
 have K2:=KO.of s1 k2
 have lp1:=cT pk1
 have lp2:=cT pk2
 have w1:=wl (c k) x.s0
 have w2:=wl (c (1- k)) x.s0
 refine .inl ⟨M1,M2,_,_,rfl,rfl,K2.ls hM1,hM2,by rw[pz,pz];exact aQ (by omega),fun M3 hM3=>?_⟩
 rw[<-Kq]
 have S3:aA H2 (upd H2 M3 (.lst ((ps1++ps2).map V.ref))):=aA.upd hM3
 have h3:upd H2 M3 (.lst ((ps1++ps2).map V.ref)) M3=some (.lst ((ps1++ps2).map V.ref)):=au
 have pk3:PK (upd H2 M3 (.lst ((ps1++ps2).map V.ref))) (ps1++ps2) (tt1++tt2):=ig ((pk1.keep fun z xs e=>K2.tp e).keep fun z xs e=>S3 _ _ e) (pk2.keep fun z xs e=>S3 _ _ e)
 have s3:=s2.same (Gt _) S3
 have K3:=(K1.trans K2).trans (KO.same S3)
 have sub3:=sub1.trans sub2
 generalize upd H2 M3 (.lst ((ps1++ps2).map V.ref))=H3 at S3 h3 pk3 s3 K3
 have y3:=y.ko K3 sub3
 refine y3.az0 (i:=0) rfl (by omega) (y3.az0 (i:=1) rfl (by omega) ?_)
 have mo:=y.mono 0 1 (by omega) (by omega)
 have c1:=sc 1 (by omega)
 refine⟨f,b,t,S,d,x,g2,n+140,c 0,c 1,rfl,s3.same (by omega) (.refl _),by omega,tw.ko K3,by omega,mo,le 0 (by omega),fun G gs g4 H4 k4 s4 sub4 wG keG klG ekG=>?_⟩
 have K4:=KO.of s3 k4
 have y4:=y3.ko K4 sub4
 refine y4.az0 (i:=0) rfl (by omega) (y4.az0 (i:=1) rfl (by omega) ?_)
 refine⟨f,b,G,d,c 0,c 1,gs,g4,n+140+800,rfl,eA s4 (by omega) (by omega) mo (le 0 (by omega)) klG keG wG,by omega,fun M5 ps5 tt5 g5 H5 k5 s5 sub5 hM5 pk5 l5 eq5=>?_⟩
 have K5:=KO.of s4 k5
 have lp5:=cT pk5
 refine .inl ⟨M3,M5,_,_,rfl,rfl,(K4.trans K5).ls h3,hM5,by rw[pz,pz,Kn];exact aQ (by omega),fun M6 hM6=>?_⟩
 rw[<-Kq]
 have S6:aA H5 (upd H5 M6 (.lst ((ps1++ps2++ps5).map V.ref))):=aA.upd hM6
 have h6:upd H5 M6 (.lst ((ps1++ps2++ps5).map V.ref)) M6=some (.lst ((ps1++ps2++ps5).map V.ref)):=au
 have pk6:PK (upd H5 M6 (.lst ((ps1++ps2++ps5).map V.ref))) (ps1++ps2++ps5) (tt1++tt2++tt5):=ig ((pk3.keep fun z xs e=>(K4.trans K5).tp e).keep fun z xs e=>S6 _ _ e) (pk5.keep fun z xs e=>S6 _ _ e)
 have s6:=s5.same (Gt _) S6
 have K6:=(K3.trans (K4.trans K5)).trans (KO.same S6)
 have sub6:=sub3.trans (sub4.trans sub5)
 generalize upd H5 M6 (.lst ((ps1++ps2++ps5).map V.ref))=H6 at S6 h6 pk6 s6 K6
 have y6:=y.ko K6 sub6
 refine y6.az (i:=k) rfl (by omega) fun hd hhd=>?_
 refine⟨f,b,hd,Po,d,c k,x.s0,m k,g5,n+140+800+130,false,rfl,hhd,y.ok k (by omega),.inr ⟨rfl,sc k hk,To,ks',e',eT s6 (by omega) (sc k hk) (le k hk) kl ee ke (wo.ko K6),fun r v g7 H7 k7 s7 sub7 td pt okv=>?_⟩⟩
 have K7:=KO.of s6 k7
 have tw7:=(tw.ko K6).ko K7
 refine ixT (j:=2) tw7.ht rfl rfl ?_
 show jt K A [.ref f,.ref M6,.ref r,kV x.e,.bl (decide (w=3))] H7 Q E0
 refine sH s7 (by omega) (K7.ls h6) (pk6.keep fun z xs e=>K7.tp e) (by rw[Kn,Kn];omega) td tw.ok.1 okv su (fun h eh I u eu=>?_) q
 subst eu
 obtain⟨rfl,pm⟩:=pt h eh
 have eh5:=Ext.of sub7 eh
 have eh4:=Ext.of sub5 eh5
 have eh2:=Ext.of sub4 eh4
 have eh1:=Ext.of sub2 eh2
 have a1:∀t∈pT h (c k) x.s0 ks' u,t∈tt1++tt2++tt5:=fun t ht=>Lb _ (Lb _ (by rw[eq1 h eh1];exact ht))
 have a2:∀t∈pT h (c (1- k)) x.s0 (ks (1- k)) x.e,t∈tt1++tt2++tt5:=fun t ht=>Lb _ (KP _ (by rw[eq2 h eh2];exact ht))
 have a5:∀t∈gT h (c 0) (c 1) gs,t∈tt1++tt2++tt5:=fun t ht=>KP _ (by rw[eq5 h eh5];exact ht)
 have qk:h [.inr "row",.inl (c k:Int),plU h (bo (c k) x.s0) ks' u]=h [.inr "row",.inl (c k:Int),tr h x 0 (c k)]:=by
  rw[<-mE kl,pm,y6.eq k (by omega) h eh5]
 have qo:h [.inr "row",.inl (c (1- k):Int),plU h (bo (c (1- k)) x.s0) (ks (1- k)) x.e]=h [.inr "row",.inl (c (1- k):Int),tr h x 0 (c (1- k))]:=by
  have e:=vV (h:=h) (x:=x) 60 0 (c (1- k)) (c60 (le _ ho)) (KS _) (by have:=sc _ ho;omega)
  rw[LN,<-p1.eq _ ho h eh1]at e
  rw[e]
 have sp:=y.sp 1 (by omega) (by omega)
 match k,hk with
 |0,_=>exact vY I (le 0 (by omega)) mo c1 sp klG kl (pp.kl 1 (by omega)) (ekG h eh4) a5 a1 a2 qk qo
 |1,_=>exact(vY I (le 0 (by omega)) mo c1 sp klG (pp.kl 0 (by omega)) kl (ekG h eh4) a5 a2 a1 qo qk).symm
theorem KO.plant {H H':Hp}{f b D:Addr}{g:List Key->Option Key}{n:Nat}(s:Stp A H f b (.pla D none) g n)(k:aO D H H'):KO H H':=by
 cases s with
 |wri hc hb hg ed=>cases ed
 |cnt q x kvs hc num hl hs st hg ed=>cases ed
 |wea q m h1 h2 hc hb hg ed=>cases ed
 |pla q0 q1 q2 D' j j0 j1 kvs al hc hb ha bD hl hs st hg ed=>
  obtain⟨rfl,rfl⟩:D=D'/\none=al:=by cases ed;exact⟨rfl,rfl⟩
  have hD:H D=some (.dT []):=ha
  exact fun z o e _ h2=>k z o (bN e hD (h2 _)) e
theorem BU (K:pv)(A:Adr):Ln (pJ K A) 7:=by rintro vs H Q E ⟨f,b,D,a,t,S,L,B,d,ns,x,c0,c1,c2,m0,m1,m2,g,n,w,rfl,_⟩;rfl
theorem FI (T:Txt K mg A):Rd (pJ K A) (Jr K A) ["_law_stamper_here","_law_script","_law_tree","_law_heads","_law_known","_law_alias","_law_way_here","_law_cell","_law_k","_law_place","_law_papers","_law_count","_law_other","_law_height","_law_old","_law_terms","_law_marks"]:=by
 intro vs H Q E h
 obtain⟨f,b,D,a,t,S,L,B,d,ns,x,c0,c1,c2,m0,m1,m2,g,n,w,rfl,⟨hs,s,hn,tw,hd,⟨w0,w3⟩,su,pl⟩,q⟩:=h
 have y:=hd.F
 generalize cF c0 c1 c2=c at y
 generalize mF m0 m1 m2=m at y
 clear hd
 refine⟨a,ns,6,rfl,hs,by decide,fun z6=>⟨a,ns,5,rfl,hs,by decide,fun z5=>⟨⟨by decide,by decide⟩,by decide,?_⟩⟩⟩
 have bQ:∀k:Nat,k<2->wz K A {nx:=fun _ H'=>Q .non H',rt:=Q} [some (.ref f),some (.ref a),some (.ref t),some (.ref L),some (.ref B),some (.ref D),some (.int w),some (.int z6),some (.int (k:Int)),none,none,none,none,none,none,none,none] H:=by
  intro k hk
  have le:∀i,i<2->c i<=4200:=fun i hi=>y.le i (by omega)
  have sc:∀i,i<2->x.s0<c i:=fun i hi=>y.s0 i (by omega)
  have wl:∀a b,(bo a b).length<=60:=fun a b=>gC 60 b a
  refine ixT (j:=1) tw.ht rfl rfl (ixL (j:=0) tw.hS rfl rfl ?_)
  refine y.az0 (i:=0) rfl (by omega) ⟨f,b,t,S,d,x,g,n,c 0,rfl,s,by omega,tw,by have:=sc 0 (by omega);omega,le 0 (by omega),sc 0 (by omega),fun P0 T0 ks0 g1 H1 k1 s1 sub1 wp0 ke0 kl0 ek0=>?_⟩
  have K1:=KO.of s k1
  have y1:=y.ko K1 sub1
  refine y1.az0 (i:=1) rfl (by omega) ⟨f,b,t,S,d,x,g1,n+700,c 1,rfl,s1,by omega,tw.ko K1,by have:=sc 1 (by omega);omega,le 1 (by omega),sc 1 (by omega),fun P1 T1 ks1 g2 H2 k2 s2 sub2 wp1 ke1 kl1 ek1=>⟨aQ (show 2<=1000000 by decide),fun N hN=>?_⟩⟩
  have K2:=KO.of s1 k2
  have S3:aA H2 (upd H2 N (.lst [.ref P0,.ref P1])):=aA.upd hN
  have h3:upd H2 N (.lst [.ref P0,.ref P1]) N=some (.lst [.ref P0,.ref P1]):=au
  have s3:=s2.same (Gt _) S3
  have K3:=(K1.trans K2).trans (KO.same S3)
  have wp0:=(wp0.ko K2).same S3
  have wp1:=wp1.same S3
  show vE K A {nx:=fun _ H'=>Q .non H',rt:=Q} [some (.ref f),some (.ref a),some (.ref t),some (.ref L),some (.ref B),some (.ref D),some (.int w),some (.int z6),some (.int (k:Int)),some (.int (x.s0:Int)),some (.ref N),none,none,none,none,none,none] (upd H2 N (.lst [.ref P0,.ref P1]))
  generalize upd H2 N (.lst [.ref P0,.ref P1])=H3 at S3 h3 s3 K3 wp0 wp1
  have sub3:=sub1.trans sub2
  obtain⟨P,TT,ks,pp⟩:∃P TT ks,PpF H3 N x c g2 P TT ks:=by
   refine⟨fun i=>if i=0 then P0 else P1,fun i=>if i=0 then T0 else T1,fun i=>if i=0 then ks0 else ks1,h3,fun i hi=>?_,fun i hi=>?_,fun i hi=>?_,fun i hi=>?_⟩
   all_goals match i,hi with
    |0,_=>first|exact wp0|exact ke0|exact kl0|exact fun h eh=>ek0 h (Ext.of sub2 eh)
    |1,_=>first|exact wp1|exact ke1|exact kl1|exact ek1
  have y3:=y.ko K3 sub3
  have tw3:=tw.ko K3
  have hs3:=SqL.ko hs K3
  clear wp0 wp1 ke0 ke1 kl0 kl1 ek0 ek1
  refine y3.az0 (i:=k) rfl (by omega) ?_
  refine⟨by decide,⟨by decide,by decide⟩,pp.az (i:=k) rfl hk ?_⟩
  have kl:=pp.kl k hk
  have w60:=wl (c k) x.s0
  refine⟨_,_,P k,TT k,x.e,ks k,rfl,pp.w k hk,tw.ok.en,pp.ke k hk,by omega,fun Po To e' ks' H4 S4 wo ee ke kl'=>?_⟩
  have pp4:=pp.ko (KO.same S4) Sub.rfl'
  have s4:=s3.same (Gt _) S4
  have tw4:=tw3.same S4
  have y4:=y3.same S4
  refine⟨a,ns,7,rfl,SqL.ko hs3 (KO.same S4),by decide,fun z7=>pp4.az (i:=k) rfl hk (ixT (j:=1) (pp4.w k hk).hP rfl rfl ?_)⟩
  refine .inl (.inr (.inl ⟨_,SqT.of (pp4.w k hk).hT,?_⟩))
  rw[pz]
  refine⟨(by show(0:Int)<((ks k).length:Int)+2;omega),?_⟩
  have rest2:∀j:Nat,j<=(ks k).length+1->vQ K A {nx:=fun _ H'=>Q .non H',rt:=Q} [some (.ref f),some (.ref a),some (.ref t),some (.ref L),some (.ref B),some (.ref D),some (.int w),some (.int z6),some (.int (k:Int)),some (.int (x.s0:Int)),some (.ref N),some (.int (c k:Int)),some (.ref Po),some (.int (j:Int)),none,none,none] H4:=by
   intro j hj
   have klo:ks'.length=(bo (c k) x.s0).length:=by rw[kl',kl]
   refine Sel.dec (fun w2=>?_) (fun w2=>?_)
   ·have w2:w<2:=w2
    obtain⟨ed,eb⟩:=pl w2
    subst ed
    subst eb
    refine pp4.az (i:=k) rfl hk ⟨f,b,P k,TT k,_,c k,x.s0,ks k,x.e,g2,n+700+700,j,rfl,eT s4 (by omega) (sc k hk) (le k hk) kl tw.ok.en (pp.ke k hk) (pp4.w k hk),sc k hk,hj,fun p5 k5' g5 H5 k5 s5 sub5 hp5 ok5=>?_⟩
    have K5:=KO.of s4 k5
    refine⟨f,b,Po,To,_,c k,x.s0,ks',e',g5,n+700+700+1+70,j,rfl,eT s5 (by omega) (sc k hk) (le k hk) klo ee ke (wo.ko K5),sc k hk,by omega,fun p6 k6' g6 H6 k6 s6 sub6 hp6 ok6=>?_⟩
    have K6:=KO.of s5 k6
    refine⟨f,b,D,p6,p5,k6',k5',g6,_,rfl,s6,by omega,hp6,K6.tp hp5,ok6,ok5,fun al g7 H7 k7 s7 sub7=>?_⟩
    have K7:=(K5.trans K6).trans (KO.plant s6 k7)
    have sub:=(sub5.trans sub6).trans sub7
    exact lK (k:=k) T s7 (by omega) (tw4.ko K7) (y4.ko K7 sub) (pp4.ko K7 sub) (wo.ko K7) ee ke hk klo (fun z=>by omega) q
   ·exact lK (k:=k) T s4 (by omega) tw4 y4 pp4 wo ee ke hk klo su q
  have r0:=MF z7 (b:=((ks k).length:Int)+2) (by omega)
  have r1:=Me z7 (b:=((ks k).length:Int)+2) (by omega)
  obtain⟨j,ej⟩:=Lq r0
  have:=rest2 j (by omega)
  rw[<-ej]at this
  exact this
 obtain⟨k,ek⟩:=Lq (show 0<=z5/2%2 by omega)
 have:=bQ k (by omega)
 rw[<-ek]at this
 exact this
structure GpF (H:Hp)(N:Addr)(x:Tre)(c:Nat->Nat)(g:gOp)(P:Nat->Addr)(ks:Nat->List Key):Prop where
 hN:H N=some (.lst [.ref (P 0),.ref (P 1)])
 w:∀i,i<2->H (P i)=some (.tup ((ks i).map kV))
 ke:∀i,i<2->∀k∈ks i,enK k
 kl:∀i,i<2->(ks i).length=(aR (c i) (c 2)).length+1
 eq:∀i,i<2->∀h,Ext g h->ks i=gmF h x (c 2) 60 0 (c i)
section
variable {H H':Hp}{N:Addr}{x:Tre}{c:Nat->Nat}{g g':gOp}{P:Nat->Addr}{ks:Nat->List Key}
theorem GpF.ko (p:GpF H N x c g P ks)(k:KO H H')(sub:Sub g g'):GpF H' N x c g' P ks:=⟨k.ls p.hN,fun i hi=>k.tp (p.w i hi),p.ke,p.kl,fun i hi h eh=>p.eq i hi h (Ext.of sub eh)⟩
theorem GpF.az (p:GpF H N x c g P ks){i:Nat}{z:Int}(ez:z=(i:Int))(hi:i<2){Q:VK}(q:Q (.ref (P i)) H):aG K (.ref N) (.int z) H Q:=by
 subst ez
 match i,hi with
 |0,_=>exact ixL (j:=0) p.hN rfl rfl q
 |1,_=>exact ixL (j:=1) p.hN rfl rfl q
end
theorem kK (T:Txt K mg A){H:Hp}{f b t S L N Po:Addr}{d:Kd}{x:Tre}{c:Nat->Nat}{m:Nat->Key}{g:gOp}{n k:Nat}{w:Int}{P:Nat->Addr}{ks:Nat->List Key}{ks':List Key}{Q:VK}{x1 x4 x5 x7 x13 x14:Option V}(s:Stp A H f b d g n)(hn:n+4000<=40000)(tw:dE H t S x)(y:HdF H L x c m g)(pp:GpF H N x c g P ks)(wo:H Po=some (.tup (ks'.map kV)))(ke:∀k∈ks',enK k)(hk:k<2)(kl:ks'.length=(aR (c k) (c 2)).length+1)(su:w=3->d.sure)(q:∀H',Q (.bl true) H'):
  vc K A {nx:=fun _ H'=>Q .non H',rt:=Q} [some (.ref f),x1,some (.ref t),some (.ref L),x4,x5,some (.int w),x7,some (.int (k:Int)),some (.int (c k:Int)),some (.int (c 2:Int)),some (.ref N),some (.ref Po),x13,x14,none,none,none] H:=by
 have le:∀i,i<2->c i<=4200:=fun i hi=>y.le i (by omega)
 have c2:∀i,i<2->c 2<=c i:=fun i hi=>y.mono i 2 (by omega) (by omega)
 have c21:1<=c 2:=by have:=y.s0 2 (by omega);omega
 have ho:1- k<2:=by omega
 refine⟨f,b,Po,d,c k,c 2,ks',g,n,rfl,eA s (by omega) c21 (c2 k hk) (le k hk) kl ke wo,c21,fun M1 ps1 tt1 g1 H1 k1 s1 sub1 hM1 pk1 l1 eq1=>?_⟩
 have K1:=KO.of s k1
 have y1:=y.ko K1 sub1
 have p1:=pp.ko K1 sub1
 refine y1.az0 (i:=1- k) (by omega) (by omega) (p1.az (i:=1- k) (by omega) ho ?_)
 refine⟨f,b,P (1- k),d,c (1- k),c 2,ks (1- k),g1,n+130,rfl,eA s1 (by omega) c21 (c2 _ ho) (le _ ho) (pp.kl _ ho) (pp.ke _ ho) (p1.w _ ho),c21,fun M2 ps2 tt2 g2 H2 k2 s2 sub2 hM2 pk2 l2 eq2=>?_⟩
 have K2:=KO.of s1 k2
 have lp1:=cT pk1
 have lp2:=cT pk2
 refine .inl ⟨M1,M2,_,_,rfl,rfl,K2.ls hM1,hM2,by rw[pz,pz];exact aQ (by omega),fun M3 hM3=>?_⟩
 rw[<-Kq]
 have S3:aA H2 (upd H2 M3 (.lst ((ps1++ps2).map V.ref))):=aA.upd hM3
 have h3:upd H2 M3 (.lst ((ps1++ps2).map V.ref)) M3=some (.lst ((ps1++ps2).map V.ref)):=au
 have pk3:PK (upd H2 M3 (.lst ((ps1++ps2).map V.ref))) (ps1++ps2) (tt1++tt2):=ig ((pk1.keep fun z xs e=>K2.tp e).keep fun z xs e=>S3 _ _ e) (pk2.keep fun z xs e=>S3 _ _ e)
 have s3:=s2.same (Gt _) S3
 have K3:=(K1.trans K2).trans (KO.same S3)
 have sub3:=sub1.trans sub2
 generalize upd H2 M3 (.lst ((ps1++ps2).map V.ref))=H3 at S3 h3 pk3 s3 K3
 have y3:=y.ko K3 sub3
 refine y3.az0 (i:=0) rfl (by omega) (y3.az0 (i:=1) rfl (by omega) ?_)
 have mo:=y.mono 0 1 (by omega) (by omega)
 have c11:1<=c 1:=by have:=c2 1 (by omega);omega
 refine⟨f,b,t,S,d,x,g2,n+130+130,c 0,c 1,rfl,s3,by omega,tw.ko K3,c11,mo,le 0 (by omega),fun G gs g4 H4 k4 s4 sub4 wG keG klG ekG=>?_⟩
 have K4:=KO.of s3 k4
 have y4:=y3.ko K4 sub4
 refine y4.az0 (i:=0) rfl (by omega) (y4.az0 (i:=1) rfl (by omega) ?_)
 refine⟨f,b,G,d,c 0,c 1,gs,g4,n+130+130+800,rfl,eA s4 (by omega) c11 mo (le 0 (by omega)) klG keG wG,c11,fun M5 ps5 tt5 g5 H5 k5 s5 sub5 hM5 pk5 l5 eq5=>?_⟩
 have K5:=KO.of s4 k5
 have lp5:=cT pk5
 refine .inl ⟨M3,M5,_,_,rfl,rfl,(K4.trans K5).ls h3,hM5,by rw[pz,pz,Kn];exact aQ (by omega),fun M6 hM6=>?_⟩
 rw[<-Kq]
 have S6:aA H5 (upd H5 M6 (.lst ((ps1++ps2++ps5).map V.ref))):=aA.upd hM6
 have h6:upd H5 M6 (.lst ((ps1++ps2++ps5).map V.ref)) M6=some (.lst ((ps1++ps2++ps5).map V.ref)):=au
 have pk6:PK (upd H5 M6 (.lst ((ps1++ps2++ps5).map V.ref))) (ps1++ps2++ps5) (tt1++tt2++tt5):=ig ((pk3.keep fun z xs e=>(K4.trans K5).tp e).keep fun z xs e=>S6 _ _ e) (pk5.keep fun z xs e=>S6 _ _ e)
 have s6:=s5.same (Gt _) S6
 have K6:=(K3.trans (K4.trans K5)).trans (KO.same S6)
 have sub6:=sub3.trans (sub4.trans sub5)
 generalize upd H5 M6 (.lst ((ps1++ps2++ps5).map V.ref))=H6 at S6 h6 pk6 s6 K6
 have y6:=y.ko K6 sub6
 refine y6.az (i:=k) rfl (by omega) fun hd hhd=>?_
 refine⟨f,b,hd,Po,d,c k,c 2,m k,g5,n+130+130+800+130,true,rfl,hhd,y.ok k (by omega),.inl ⟨rfl,c21,ks',eA s6 (by omega) c21 (c2 k hk) (le k hk) kl ke (K6.tp wo),fun r v g7 H7 k7 s7 sub7 td gt okv=>?_⟩⟩
 have K7:=KO.of s6 k7
 have y7:=y6.ko K7 sub7
 refine y7.az1 (i:=2) rfl (by omega) ?_
 show jt K A [.ref f,.ref M6,.ref r,kV (m 2),.bl (decide (w=3))] H7 Q E0
 refine sH s7 (by omega) (K7.ls h6) (pk6.keep fun z xs e=>K7.tp e) (by rw[Kn,Kn];omega) td (y.ok 2 (by omega)) okv su (fun h eh I u eu=>?_) q
 subst eu
 obtain⟨pm,eu⟩:=gt h eh
 have eh5:=Ext.of sub7 eh
 have eh4:=Ext.of sub5 eh5
 have eh2:=Ext.of sub4 eh4
 have eh1:=Ext.of sub2 eh2
 have a1:∀t∈gT h (c k) (c 2) ks',t∈tt1++tt2++tt5:=fun t ht=>Lb _ (Lb _ (by rw[eq1 h eh1];exact ht))
 have a2:∀t∈gT h (c (1- k)) (c 2) (ks (1- k)),t∈tt1++tt2++tt5:=fun t ht=>Lb _ (KP _ (by rw[eq2 h eh2];exact ht))
 have a5:∀t∈gT h (c 0) (c 1) gs,t∈tt1++tt2++tt5:=fun t ht=>KP _ (by rw[eq5 h eh5];exact ht)
 have sp2:=y.sp 2 (by omega) (by omega)
 have qk:h [.inr "row",.inl (c k:Int),(tpF h (aR (c k) (c 2)) ks').1]=h [.inr "row",.inl (c k:Int),tr h x 0 (c k)]:=by
  rw[<-kM kl (hJ _ _ _),pm,y6.eq k (by omega) h eh5]
 have eo:=mh (h:=h) (x:=x) sp2 60 0 (c (1- k)) (c60 (le _ ho)) (by omega) (by have:=c2 _ ho;omega)
 rw[LN,<-p1.eq _ ho h eh1]at eo
 have qo:h [.inr "row",.inl (c (1- k):Int),(tpF h (aR (c (1- k)) (c 2)) (ks (1- k))).1]=h [.inr "row",.inl (c (1- k):Int),tr h x 0 (c (1- k))]:=by rw[show(tpF h (aR (c (1- k)) (c 2)) (ks (1- k))).1=_ from congrArg RN eo]
 have fo:(tpF h (aR (c (1- k)) (c 2)) (ks (1- k))).2=tr h x 0 (c 2):=congrArg RM eo
 have sp:=y.sp 1 (by omega) (by omega)
 have fin:(tpF h (aR (c k) (c 2)) ks').2=tr h x 0 (c 2):=by
  match k,hk with
  |0,_=>exact(wu I (le 0 (by omega)) mo (c2 1 (by omega)) c21 sp klG kl (pp.kl 1 (by omega)) (ekG h eh4) a5 a1 a2 qk qo).trans fo
  |1,_=>exact(wu I (le 0 (by omega)) mo (c2 1 (by omega)) c21 sp klG (pp.kl 0 (by omega)) kl (ekG h eh4) a5 a2 a1 qo qk).symm.trans fo
 rw[eu,lc c21 kl (hJ _ _ _),fin,y6.eq 2 (by omega) h eh5]
theorem BA (K:pv)(A:Adr):Ln (pC K A) 7:=by rintro vs H Q E ⟨f,b,D,a,t,S,L,B,d,ns,x,c0,c1,c2,m0,m1,m2,g,n,w,rfl,_⟩;rfl
theorem GA (T:Txt K mg A):Rd (pC K A) (JD K A) ["_law_stamper_here","_law_script","_law_tree","_law_heads","_law_known","_law_alias","_law_way_here","_law_cell","_law_k","_law_count","_law_last","_law_marks","_law_other","_law_height","_law_old","_law_terms","_law_between","_law_told_here"]:=by
 intro vs H Q E h
 obtain⟨f,b,D,a,t,S,L,B,d,ns,x,c0,c1,c2,m0,m1,m2,g,n,w,rfl,⟨hs,s,hn,tw,hd,⟨w0,w3⟩,su,pl⟩,q⟩:=h
 have y:=hd.F
 generalize cF c0 c1 c2=c at y
 generalize mF m0 m1 m2=m at y
 clear hd
 refine⟨a,ns,6,rfl,hs,by decide,fun z6=>⟨a,ns,5,rfl,hs,by decide,fun z5=>⟨⟨by decide,by decide⟩,by decide,?_⟩⟩⟩
 have bQ:∀k:Nat,k<2->vG K A {nx:=fun _ H'=>Q .non H',rt:=Q} [some (.ref f),some (.ref a),some (.ref t),some (.ref L),some (.ref B),some (.ref D),some (.int w),some (.int z6),some (.int (k:Int)),none,none,none,none,none,none,none,none,none] H:=by
  intro k hk
  have le:∀i,i<2->c i<=4200:=fun i hi=>y.le i (by omega)
  have c2:∀i,i<2->c 2<=c i:=fun i hi=>y.mono i 2 (by omega) (by omega)
  have c21:1<=c 2:=by have:=y.s0 2 (by omega);omega
  have wl:∀a b,(aR a b).length<=60:=fun a b=>lO 60 a b
  refine y.az0 (i:=k) rfl (by omega) (y.az0 (i:=2) rfl (by omega) ?_)
  refine y.az0 (i:=0) rfl (by omega) ⟨f,b,t,S,d,x,g,n,c 0,c 2,rfl,s,by omega,tw,c21,c2 0 (by omega),le 0 (by omega),fun P0 ks0 g1 H1 k1 s1 sub1 wp0 ke0 kl0 ek0=>?_⟩
  have K1:=KO.of s k1
  have y1:=y.ko K1 sub1
  refine y1.az0 (i:=1) rfl (by omega) ⟨f,b,t,S,d,x,g1,n+800,c 1,c 2,rfl,s1,by omega,tw.ko K1,c21,c2 1 (by omega),le 1 (by omega),fun P1 ks1 g2 H2 k2 s2 sub2 wp1 ke1 kl1 ek1=>⟨aQ (show 2<=1000000 by decide),fun N hN=>?_⟩⟩
  have K2:=KO.of s1 k2
  have S3:aA H2 (upd H2 N (.lst [.ref P0,.ref P1])):=aA.upd hN
  have h3:upd H2 N (.lst [.ref P0,.ref P1]) N=some (.lst [.ref P0,.ref P1]):=au
  have s3:=s2.same (Gt _) S3
  have K3:=(K1.trans K2).trans (KO.same S3)
  have wp0:=S3 _ _ (K2.tp wp0)
  have wp1:=S3 _ _ wp1
  show wg K A {nx:=fun _ H'=>Q .non H',rt:=Q} [some (.ref f),some (.ref a),some (.ref t),some (.ref L),some (.ref B),some (.ref D),some (.int w),some (.int z6),some (.int (k:Int)),some (.int (c k:Int)),some (.int (c 2:Int)),some (.ref N),none,none,none,none,none,none] (upd H2 N (.lst [.ref P0,.ref P1]))
  generalize upd H2 N (.lst [.ref P0,.ref P1])=H3 at S3 h3 s3 K3 wp0 wp1
  have sub3:=sub1.trans sub2
  obtain⟨P,ks,pp⟩:∃P ks,GpF H3 N x c g2 P ks:=by
   refine⟨fun i=>if i=0 then P0 else P1,fun i=>if i=0 then ks0 else ks1,h3,fun i hi=>?_,fun i hi=>?_,fun i hi=>?_,fun i hi=>?_⟩
   all_goals match i,hi with
    |0,_=>first|exact wp0|exact ke0|exact kl0|exact fun h eh=>ek0 h (Ext.of sub2 eh)
    |1,_=>first|exact wp1|exact ke1|exact kl1|exact ek1
  have y3:=y.ko K3 sub3
  have tw3:=tw.ko K3
  have hs3:=SqL.ko hs K3
  clear wp0 wp1 ke0 ke1 kl0 kl1 ek0 ek1
  refine⟨by decide,⟨by decide,by decide⟩,pp.az (i:=k) rfl hk ?_⟩
  have kl:=pp.kl k hk
  have w60:=wl (c k) (c 2)
  refine⟨_,_,P k,ks k,rfl,pp.w k hk,pp.ke k hk,by omega,fun Po ks' H4 S4 wo ke kl'=>?_⟩
  have pp4:=pp.ko (KO.same S4) Sub.rfl'
  have s4:=s3.same (Gt _) S4
  have tw4:=tw3.same S4
  have y4:=y3.same S4
  refine⟨a,ns,7,rfl,SqL.ko hs3 (KO.same S4),by decide,fun z7=>pp4.az (i:=k) rfl hk ?_⟩
  refine .inl (.inr (.inl ⟨_,SqT.of (pp4.w k hk),?_⟩))
  rw[pz]
  refine⟨(by show(0:Int)<((ks k).length:Int);omega),?_⟩
  have rest2:∀j:Nat,j<(ks k).length->uX K A {nx:=fun _ H'=>Q .non H',rt:=Q} [some (.ref f),some (.ref a),some (.ref t),some (.ref L),some (.ref B),some (.ref D),some (.int w),some (.int z6),some (.int (k:Int)),some (.int (c k:Int)),some (.int (c 2:Int)),some (.ref N),some (.ref Po),some (.int (j:Int)),none,none,none,none] H4:=by
   intro j hj
   have klo:ks'.length=(aR (c k) (c 2)).length+1:=by rw[kl',kl]
   refine Sel.dec (fun w2=>?_) (fun w2=>?_)
   ·have w2:w<2:=w2
    obtain⟨ed,eb⟩:=pl w2
    subst ed
    subst eb
    refine pp4.az (i:=k) rfl hk ⟨f,b,P k,_,c k,c 2,ks k,g2,n+800+800,j,rfl,eA s4 (by omega) c21 (c2 k hk) (le k hk) kl (pp.ke k hk) (pp4.w k hk),c21,hj,fun p5 k5' g5 H5 k5 s5 sub5 hp5 ok5=>?_⟩
    have K5:=KO.of s4 k5
    refine⟨f,b,Po,_,c k,c 2,ks',g5,n+800+800+70,j,rfl,eA s5 (by omega) c21 (c2 k hk) (le k hk) klo ke (K5.tp wo),c21,by omega,fun p6 k6' g6 H6 k6 s6 sub6 hp6 ok6=>?_⟩
    have K6:=KO.of s5 k6
    refine⟨f,b,D,p6,p5,k6',k5',g6,_,rfl,s6,by omega,hp6,K6.tp hp5,ok6,ok5,fun al g7 H7 k7 s7 sub7=>?_⟩
    have K7:=(K5.trans K6).trans (KO.plant s6 k7)
    have sub:=(sub5.trans sub6).trans sub7
    exact kK (k:=k) T s7 (by omega) (tw4.ko K7) (y4.ko K7 sub) (pp4.ko K7 sub) (K7.tp wo) ke hk klo (fun z=>by omega) q
   ·exact kK (k:=k) T s4 (by omega) tw4 y4 pp4 wo ke hk klo su q
  have r0:=MF z7 (b:=((ks k).length:Int)) (by omega)
  have r1:=Me z7 (b:=((ks k).length:Int)) (by omega)
  obtain⟨j,ej⟩:=Lq r0
  have:=rest2 j (by omega)
  rw[<-ej]at this
  exact this
 obtain⟨k,ek⟩:=Lq (show 0<=z5/2%2 by omega)
 have:=bQ k (by omega)
 rw[<-ek]at this
 exact this
theorem wQ {σ:L2.St}{f t:Addr}{z:Int}{H:Hp}{Q:VK}(h0:σ[0]?=some (some (.int z)))(h1:σ[1]?=some (some (.ref f)))(h2:σ[2]?=some (some (.ref t)))(h:ku K A [.ref f,.ref t,.int z] H Q E0):aD (ku K A) (fun _=>E0) (ai (af 1) (ai (af 2) (ai (af 0) av))) σ H Q:=by
 dsimp only[aD,ai,af,av]
 rw[h1]
 dsimp only
 rw[h2]
 dsimp only
 rw[h0];exact h
theorem AB (ns:List Int)(lo hi:Option Int):∃ms:List Int,dX (ns.map V.int) lo hi=ms.map V.int/\ms.length<=ns.length:=by
 unfold dX
 rw[<-Qy,<-Qx]
 exact⟨_,rfl,by rw[Mu,Oc];omega⟩
structure HI (A:Adr)(H0 H:Hp)(f b:Addr)(d:Kd)(x:Tre)(c:Nat->Nat)(g g':gOp)(N:Addr)(i:Nat)(ps:List Addr):Prop where
 kb:aO b H0 H
 s:Stp A H f b d g' (50*i)
 sub:Sub g g'
 hN:H N=some (.lst (ps.map V.ref))
 pl:ps.length=i
 at':∀(j:Nat)(p:Addr),ps[j]?=some p->∃m,okP m=true/\H p=some (.tup [.int (c j:Int),kV m])/\∀h,Ext g' h->m=h [.inr "row",.inl (c j:Int),tr h x 0 (c j)]
theorem HI.step {H0 H1:Hp}{f b:Addr}{d:Kd}{x:Tre}{c:Nat->Nat}{g g' g1:gOp}{N p:Addr}{i:Nat}{ps:List Addr}{H:Hp}{m:Key}(y:HI A H0 H f b d x c g g' N i ps)(hN:H0 N=none)(k1:aO b H H1)(s1:Stp A H1 f b d g1 (50*i+50))(sub1:Sub g' g1)(ok:okP m=true)(hp:H1 p=some (.tup [.int (c i:Int),kV m]))(em:∀h,Ext g1 h->m=h [.inr "row",.inl (c i:Int),tr h x 0 (c i)]):
  H1 N=some (.lst (ps.map V.ref))/\HI A H0 (upd H1 N (.lst (ps.map V.ref++[.ref p]))) f b d x c g g1 N (i+1) (ps++[p]):=by
 have nb:=y.s.nb y.hN (fun _ z=>nomatch z) (fun _ z=>nomatch z)
 have hN1:=k1 _ _ nb y.hN
 refine⟨hN1,⟨fun z o nz e=>by rw[aC (aI e hN)];exact k1 _ _ nz (y.kb _ _ nz e),(s1.same (by omega) (.refl _)).setL hN1,y.sub.trans sub1,by rw[au,Kq];rfl,by rw[Kn,y.pl];rfl,fun j q hj=>?_⟩⟩
 rcases Nat.lt_or_ge j ps.length with l|l
 ·rw[KW l]at hj
  obtain⟨m',a1,a2,a3⟩:=y.at' j q hj
  have a2':=k1 _ _ (y.s.nb a2 (fun _ z=>nomatch z) (fun _ z=>nomatch z)) a2
  exact⟨m',a1,by rw[aC (bN a2' hN1 (fun z=>nomatch z))];exact a2',fun h eh=>a3 h (Ext.of sub1 eh)⟩
 ·have hl:=(Kr.mp hj).1
  rw[Kn]at hl
  have lj:j<ps.length+1:=hl
  have ej:j=i:=by have:=y.pl;omega
  rw[KR l,show j- ps.length=0 by omega]at hj
  cases hj
  rw[ej]
  exact⟨m,ok,by rw[aC (bN hp hN1 (fun z=>nomatch z))];exact hp,em⟩
theorem HQ (T:Txt K mg A){H:Hp}{a f b B D t S:Addr}{d:Kd}{ns:List Int}{x:Tre}{c0 c1 c2:Nat}{g:List Key->Option Key}{w:Int}{Q:VK}{x9:Option V}(hs:SqL K H a (ns.map V.int))(s:Stp A H f b d g 0)(tw:dE H t S x)(l0:c0<=4200)(l1:c1<=c0)(l2:c2<=c1)(l3:x.s0<c2)(q1:x.s1+1=c1)(q2:x.s2+1=c2)(w3:0<=w/\w<=3)(su:w=3->d.sure)(pl:w<2->d=.pla D none/\b=B)(q:∀H',Q (.bl true) H'):
  sA K A {nx:=fun _ H'=>Q .non H',rt:=Q} [some (.ref a),some (.int w),some (.ref B),some (.ref D),some (.ref f),some (.int (c0:Int)),some (.int (c1:Int)),some (.int (c2:Int)),some (.int (x.s0:Int)),x9,some (.ref t),none] H:=by
 refine⟨aQ (show 3<=1000000 by decide),fun C hC=>?_⟩
 have S1:aA H (upd H C (.lst [.int (c0:Int),.int (c1:Int),.int (c2:Int)])):=aA.upd hC
 have h1:upd H C (.lst [.int (c0:Int),.int (c1:Int),.int (c2:Int)]) C=some (.lst [.int (c0:Int),.int (c1:Int),.int (c2:Int)]):=au
 generalize upd H C (.lst [.int (c0:Int),.int (c1:Int),.int (c2:Int)])=H1 at S1 h1
 have s1:=s.same (Gt _) S1
 have tw1:=tw.same S1
 refine⟨C,rfl,.inl ⟨⟨_,SqL.of h1⟩,fun N hN=>?_⟩⟩
 refine ft (da.list (xs:=[.int (c0:Int),.int (c1:Int),.int (c2:Int)]) .non) (fun i ys H'=>∃(ps:List Addr)(g':List Key->Option Key),ys=ps.map V.ref/\HI A H1 H' f b d x (cF c0 c1 c2) g g' N i ps)
  (fun i ys H' _ hx=>by obtain⟨ps,g',_,y⟩:=hx;exact SqL.of (y.kb _ _ (s1.nb h1 (fun _ z=>nomatch z) (fun _ z=>nomatch z)) h1))
  ⟨[],g,rfl,⟨aO.same (aA.upd hN),s1.same (Gt _) (aA.upd hN),Sub.rfl',au,rfl,(fun j p h=>by simp at h)⟩⟩ (fun i ys H2 hi hx=>?_) (fun ys H2 hx=>?_)
 ·obtain⟨ps,g',rfl,y⟩:=hx
  have hi':i<3:=hi
  have it:([.int (c0:Int),.int (c1:Int),.int (c2:Int)]:List V).getD i .non=.int (cF c0 c1 c2 i:Int):=by
   match i,hi' with
   |0,_=>rfl
   |1,_=>rfl
   |2,_=>rfl
  have cl:1<=cF c0 c1 c2 i/\cF c0 c1 c2 i<=4200:=by
   match i,hi' with
   |0,_=>show 1<=c0/\c0<=4200;omega
   |1,_=>show 1<=c1/\c1<=4200;omega
   |2,_=>show 1<=c2/\c2<=4200;omega
  rw[it]
  refine mO (wQ (f:=f) (t:=t) (z:=(cF c0 c1 c2 i:Int)) rfl rfl rfl ⟨f,b,t,S,d,x,g',50*i,cF c0 c1 c2 i,rfl,y.s,by omega,tw1.kb s1 y.kb,cl.1,cl.2,fun p m g3 H3 k3 s3 sub3 okm hp em=>?_⟩)
  obtain⟨hN3,y'⟩:=y.step hN k3 s3 sub3 okm hp em
  exact⟨hN3,bn (by rw[pz,y.pl];omega),CWd.next hi ⟨ps++[p],g3,by rw[Kq];rfl,y'⟩⟩
 ·obtain⟨ps,g',rfl,y⟩:=hx
  have y:HI A H1 H2 f b d x (cF c0 c1 c2) g g' N 3 ps:=y
  match ps,y with
  |[p0,p1,p2],y=>
   obtain⟨m0,o0,b0,e0⟩:=y.at' 0 p0 rfl
   obtain⟨m1,o1,b1,e1⟩:=y.at' 1 p1 rfl
   obtain⟨m2,o2,b2,e2⟩:=y.at' 2 p2 rfl
   have hd:Hds H2 N x c0 c1 c2 m0 m1 m2 g':=⟨⟨p0,p1,p2,y.hN,b0,b1,b2⟩,o0,o1,o2,e0,e1,e2,l0,l1,l2,l3,q1,q2⟩
   have K2:=(KO.same S1).trans (KO.of s1 y.kb)
   have tw2:=tw.ko K2
   refine⟨f,b,t,S,N,d,x,c0,c1,c2,m0,m1,m2,g',150,rfl,y.s,by omega,tw2,hd,fun g3 H3 k3 s3 sub3=>Sel.f ?_⟩
   have K3:=KO.of y.s k3
   have hd3:Hds H3 N x c0 c1 c2 m0 m1 m2 g3:=⟨⟨p0,p1,p2,K3.ls y.hN,K3.tp b0,K3.tp b1,K3.tp b2⟩,o0,o1,o2,fun h eh=>e0 h (Ext.of sub3 eh),fun h eh=>e1 h (Ext.of sub3 eh),fun h eh=>e2 h (Ext.of sub3 eh),l0,l1,l2,l3,q1,q2⟩
   have hs3:=SqL.ko (SqL.ko hs K2) K3
   have lw:LwA K A H3 f b D a t S N d ns x c0 c1 c2 m0 m1 m2 g3 (150+8200) w B:=⟨hs3,s3,by omega,tw2.ko K3,hd3,w3,su,pl⟩
   refine⟨a,ns,5,rfl,hs3,by decide,fun z5=>⟨by decide,Sel.dec (fun _=>?_) (fun _=>?_)⟩⟩
   ·exact⟨f,b,D,a,t,S,N,B,d,ns,x,c0,c1,c2,m0,m1,m2,g3,_,w,rfl,lw,q⟩
   ·exact⟨f,b,D,a,t,S,N,B,d,ns,x,c0,c1,c2,m0,m1,m2,g3,_,w,rfl,lw,q⟩
  |[],y=>exact absurd y.pl (by simp)
  |[_],y=>exact absurd y.pl (by simp)
  |[_,_],y=>exact absurd y.pl (by simp)
  |_::_::_::_::_,y=>exact absurd y.pl (by simp)
theorem BB (K:pv)(A:Adr):Ln (oS K A) 1:=by rintro vs H Q E ⟨a,ns,rfl,_⟩;rfl
theorem GK (T:Txt K mg A):Rd (oS K A) (Ke K A) ["_law_script","_law_way_here","_law_known","_law_alias","_law_stamper_here","_law_count","_law_elder","_law_last","_law_place","_law_seed","_law_tree","_law_heads"]:=by
 intro vs H Q E h
 obtain⟨a,ns,rfl,hs,ln,tabs,q⟩:=h
 refine⟨a,ns,0,rfl,hs,by decide,fun z0=>⟨by decide,?_⟩⟩
 refine .inr fun B hB=>.inr fun D hD=>?_
 have SB:aA H (upd (upd H B (.dT [])) D (.dT [])):=(aA.upd hB).trans (aA.upd hD)
 have BD:B≠D:=Lj (cn hD).1
 have hB1:upd (upd H B (.dT [])) D (.dT []) B=some (.dT []):=aA.upd hD _ _ au
 have hD1:upd (upd H B (.dT [])) D (.dT []) D=some (.dT []):=au
 generalize upd (upd H B (.dT [])) D (.dT [])=H1 at SB hB1 hD1
 have w0:0<=z0%4:=by omega
 have w3:z0%4<=3:=by omega
 generalize z0%4=w at w0 w3
 have hs1:=SqL.ko hs (KO.same SB)
 refine⟨a,ns,0,rfl,hs1,by decide,fun z0'=>⟨⟨by decide,by decide⟩,?_⟩⟩
 refine⟨w,_,B,D,rfl,⟨SB _ _ tabs.1,SB _ _ tabs.2.1,SB _ _ tabs.2.2.1,SB _ _ tabs.2.2.2.1,tabs.2.2.2.2⟩,hB1,hD1,BD,w0,w3,fun f b d g H2 kn s hb hsu hpla=>?_⟩
 have hs2:SqL K H2 a (ns.map V.int):=by
  rcases hs1 with(h|⟨o,h⟩)|h
  ·exact .inl (.inl (kn _ _ h (fun _ z=>nomatch z)))
  ·exact .inl (.inr ⟨o,kn _ _ h (fun _ z=>nomatch z)⟩)
  ·exact .inr h
 refine⟨a,ns,1,rfl,hs2,by decide,fun z1=>⟨z1,rfl,fun c0 c01 c04=>?_⟩⟩
 refine⟨a,ns,2,rfl,hs2,by decide,fun z2=>⟨z2,c0,rfl,c01,fun c1 c11 c10=>?_⟩⟩
 refine⟨a,ns,3,rfl,hs2,by decide,fun z3=>⟨z3,c1,rfl,c11,fun c2 c21 c20=>?_⟩⟩
 refine⟨a,ns,4,rfl,hs2,by decide,fun z4=>⟨by omega,?_⟩⟩
 have bQ:∀p:Nat,p<c2->vF K A {nx:=fun _ H'=>Q .non H',rt:=Q} [some (.ref a),some (.int w),some (.ref B),some (.ref D),some (.ref f),some (.int (c0:Int)),some (.int (c1:Int)),some (.int (c2:Int)),some (.int (p:Int)),none,none,none] H2:=by
  intro p hp
  refine⟨_,rfl,_,rfl,.inl (.inl ⟨a,_,rfl,hs2,fun C hC=>?_⟩)⟩
  obtain⟨ms,em,lm⟩:=AB ns (some 8) (some 63)
  rw[em]
  have S3:aA H2 (upd H2 C (.lst (ms.map V.int))):=aA.upd hC
  have h3:upd H2 C (.lst (ms.map V.int)) C=some (.lst (ms.map V.int)):=au
  generalize upd H2 C (.lst (ms.map V.int))=H3 at S3 h3
  refine⟨C,rfl,.inl ⟨⟨_,SqL.of h3⟩,fun N hN=>?_⟩⟩
  have nCN:C≠N:=aI h3 hN
  refine ft (da.list (xs:=ms.map V.int) .non) (fun i ys H'=>H'=upd H3 N (.lst ys)/\∃rs:List Int,ys=rs.map V.int/\rs.length=i) ?_ ⟨rfl,[],rfl,rfl⟩ ?_ ?_
  ·rintro i ys _ _ ⟨rfl,_⟩;exact SqL.of (by rw[aC nCN];exact h3)
  ·rintro i ys _ hi ⟨rfl,rs,rfl,lr⟩
   have hi':i<ms.length:=by rw[pz]at hi;exact hi
   have it:(ms.map V.int).getD i .non=.int ms[i]:=by rw[KA,KL,If hi'];rfl
   rw[it]
   exact mO ⟨⟨by decide,by decide,by decide⟩,by decide+kernel,au,bn (by rw[pz];omega),CWd.next hi ⟨by rw[dm],rs++[_],by rw[Kq];rfl,by rw[Kn,lr];rfl⟩⟩
  ·rintro ys _ ⟨rfl,rs,rfl,lr⟩
   have S4:aA H3 (upd H3 N (.lst (rs.map V.int))):=aA.upd hN
   have h4:upd H3 N (.lst (rs.map V.int)) N=some (.lst (rs.map V.int)):=au
   generalize upd H3 N (.lst (rs.map V.int))=H4 at S4 h4
   refine⟨N,rs,rfl,SqL.of h4,aQ (show 3<=1000000 by decide),fun S hS=>?_⟩
   have e1:(c1:Int)- 1=((c1- 1:Nat):Int):=by omega
   have e2:(c2:Int)- 1=((c2- 1:Nat):Int):=by omega
   have S5:aA H4 (upd H4 S (.lst [.int (p:Int),.int ((c1:Int)- 1),.int ((c2:Int)- 1)])):=aA.upd hS
   have h5:upd H4 S (.lst [.int (p:Int),.int ((c1:Int)- 1),.int ((c2:Int)- 1)]) S=some (.lst [.int (p:Int),.int ((c1- 1:Nat):Int),.int ((c2- 1:Nat):Int)]):=by rw[au,e1,e2]
   have SS:=S3.trans (S4.trans S5)
   have hs5:=SqL.ko hs2 (KO.same SS)
   refine⟨a,ns,8,rfl,hs5,by decide,fun z8=>⟨z8,rfl,fun H6 S6 ok=>⟨aQ (show 3<=1000000 by decide),fun t ht=>?_⟩⟩⟩
   have S7:=aA.upd (o:=.tup [.int rs.sum,.ref S,kV (stB z8)]) ht
   have S8:=S6.trans S7
   exact HQ (x:=⟨rs.sum,p,c1- 1,c2- 1,stB z8⟩) T (SqL.ko hs5 (KO.same S8)) (s.same (Gt _) (SS.trans S8)) ⟨au,S8 _ _ h5,ok⟩ c04 c10 c20 hp (by show c1- 1+1=c1;omega) (by show c2- 1+1=c2;omega) ⟨w0,w3⟩ hsu hpla q
 have r0:=MF z4 (b:=(c2:Int)) (by omega)
 have r1:=Me z4 (b:=(c2:Int)) (by omega)
 obtain⟨p,ep⟩:=Lq r0
 have:=bQ p (by omega)
 rw[<-ep]at this
 exact this
section
structure TP (P:KI)(w:Lp)(K:pv)(mg:Str->Option tx)(base:Heap)(A:Adr):Prop extends Txt K mg A where
 B:BM mg base
 C_33:Nf base A.k_33 A.t_33
 C_62:Nf base A.k_62 A.t_62
 C_38:Nf base A.k_38 A.t_38
 C_23:Nf base A.k_23 A.t_23
variable {P:KI}{w:Lp}{K:pv}{mg:Str->Option tx}{base:Heap}{A:Adr}(T:TP P w K mg base A)
include T
theorem lN:aV P w K mg base (CX1 P w) 1 A.a_52 A.d_52 ["thing"] (gO K A):=
 T.f_52.f.okS GM (Cj K A) (GR T.1) fun _ _ _ _ _ _ hr=>
 ax (aP (dR (bg gF T.z_isinstance LP (ae (ac 0) (ae (gH T.z_int boot_int) (am)))) (fW (zT (bg gF T.z_isinstance LP (ae (ac 0) (ae (gH T.z_bool boot_bool) (am))))))))
theorem pE:aV P w K mg base (CX1 P w) 2 A.a_50 A.d_50 ["thing"] (iK K A):=
 T.f_50.f.okS GD (CT K A) (GU T.1) fun _ _ _ _ _ _ hr=>
 ar (aW (cS (aM (lN T) hr.le T.f_52 (ae (ac 0) (am)))) (ax (aP (kC oLe oLt (aj) (ac 0) (aJ tu (aj) (aj))))) (aX)) (ax (aP (bg gF T.z_isinstance LP (ae (ac 0) (ae (gH T.z_str Tj) (am))))))
theorem zP:aV P w K mg base (CX1 P w) 3 A.a_51 A.d_51 ["thing"] (lG K A):=
 T.f_51.f.okS Hn (BX K A) (FE T.1) fun _ _ _ _ _ _ hr=>
 ar (aW (dI (cS (bg gF T.z_isinstance LP (ae (ac 0) (ae (gH T.z_tuple Oh) (am)))))) (ax (aP (eY))) (aX)) (ar (aW (dI (kR oLe oLe (aj) (bg cx T.z_len Lc (ae (ac 0) (am))) (Jm T.c_MOST_PARTS))) (ax (aP (eY))) (aX)) (ax (aP (dR (bg gF T.z_isinstance LP (ae (aL (aB hr.units1) (ac 0) (aj) (fun _ _=>rfl)) (ae (gH T.z_str Tj) (am)))) (fW (bg (DU rfl) T.z_all L2.vU (ae (ip (ys:=[]) (by exact⟨rfl,by decide+kernel,by decide+kernel,rfl,by decide+kernel,by decide+kernel⟩) (by exact .nil) (ef (ac 0)) (fun C s H fp=>ir) (fun C s H fp=>(aM (pE T) hr.le T.f_50 (ae (ac 0) (am))))) (am))))))))
theorem FM:aV P w K mg base (CX1 P w) 2 A.a_55 A.d_55 ["part"] (pP K A):=
 T.f_55.f.okS zY (Es K A) (Iv T.1) fun _ _ _ _ _ _ hr=>
 ar (aW (cS (aM (lN T) hr.le T.f_52 (ae (ac 0) (am)))) (ax (aP (vj (.cons (uc (ac 0)) (.cons (bA) (.nil)))))) (aX)) (ar (aH 1 zY.nd (bg cx T.z_len Lc (ae (ac 0) (am)))) (ax (aP (vj (.cons (uc (ac 1)) (.cons (bA) (.cons (uc (ac 0)) (.nil))))))))
theorem Iy:aV P w K mg base (CX1 P w) 4 A.a_64 A.d_64 ["term"] (mn K A):=
 T.f_64.f.okS HX (Ed K A) (Hi T.1) fun _ _ _ _ _ _ hr=>
 ar (aW (dI (cS (aM (zP T) hr.le T.f_51 (ae (ac 0) (am))))) (ax (fu)) (aX)) (ax (aP (cI Qf Qq Qp sM (bA) (ae (ip (ys:=[]) (by exact⟨rfl,by decide+kernel,by decide+kernel,rfl,by decide+kernel,by decide+kernel⟩) (by exact .nil) (ef (ac 0)) (fun C s H fp=>ir) (fun C s H fp=>(aM (FM T) hr.le T.f_55 (ae (ac 0) (am))))) (am)))))
theorem Gv (f c:Addr)(cl:List (Str×Addr))(Ar:Lh)(outer:List Env)(s:Km)(H:Hp)(E:XK)
  (hr:bu 4 (Ar.deeper (Oz fA.qual fA.scope s.heap.objs.size f (.ref c) cl))):PE (gW P w K mg base ["term"] fA.qual fA.scope f c cl Ar outer s H E).nox (ki xk) (DK K A):=QE.out (
 aM (Iy T) hr.le T.f_64 (ae (ac 0) (am)))
theorem Iq:fz P w K mg base 5 fA (tJ K A):=
 sI rfl Fv (fun f c cl Ar outer s H vs cvs Q E hr hl hc h=>by
  obtain⟨a0,rfl⟩:=L2.eK hl
  obtain rfl:=L2.sS hc
  exact⟨_,(Gv T f c cl Ar outer s H E hr).nox,HN T.1 a0 H Q E h⟩)
theorem JH:aV P w K mg base (CX1 P w) 4 A.a_2 A.d_2 ["self","term"] (tP K A):=
 T.f_2.okS Jf (Il K A) (Jd T.1) fun _ _ _ _ _ _ hr=>
 ar (aW (dI (cS (aM (zP T) hr.le T.f_51 (ae (ac 1) (am))))) (ax (fu)) (aX)) (ar (aW (aT (kj hr.units150) (ac 1) (pw (ac 0))) (ax (re hr.units1 (pw (ac 0)) (ac 1) (bg cx T.z_len Lc (ae (pw (ac 0)) (am))))) (aX)) (ax (aP (aL (aB hr.units1) (pw (ac 0)) (ac 1) (fun _ _=>rfl)))))
theorem FS (f c:Addr)(cl:List (Str×Addr))(Ar:Lh)(outer:List Env)(s:Km)(H:Hp)(E:XK)
  (hr:bu 4 (Ar.deeper (Oz fR.qual fR.scope s.heap.objs.size f (.ref c) cl))):PE (gW P w K mg base ["term","numbers"] fR.qual fR.scope f c cl Ar outer s H E).nox (ki yi) (Cg K A):=QE.out (
 Bl (ac 1) T.cl_Numbers T.me_Numbers_number_of (JH T) hr.le T.b_2 cE (ae (ac 0) (am)))
theorem Gu:fz P w K mg base 5 fR (uw K A):=
 sI rfl HP (fun f c cl Ar outer s H vs cvs Q E hr hl hc h=>by
  obtain⟨a0,rfl⟩:=L2.eK hl
  obtain⟨b0,rfl⟩:=L2.eK hc
  exact⟨_,(FS T f c cl Ar outer s H E hr).nox,Ii T.1 a0 b0 H Q E h⟩)
theorem GW (f c:Addr)(cl:List (Str×Addr))(Ar:Lh)(outer:List Env)(s:Km)(H:Hp)(E:XK)
  (hr:bu 0 (Ar.deeper (Oz fU.qual fU.scope s.heap.objs.size f (.ref c) cl))):PSs (gW P w K mg base ["_law_term_here","_law_total","_law_part","_law_many"] fU.qual fU.scope f c cl Ar outer s H E).nox (ba yd) (CU K A):=QSs.out (
 ar (aH 1 ml.nd (bg cx T.z_len Lc (ae (ac 0) (am)))) (ar (fV 2 ml.nd (ef (ac 0)) (ax (aW (cS (bg gF T.z_isinstance LP (ae (ac 2) (ae (gH T.z_str Tj) (am))))) (ax (aH 1 ml.nd (aJ bp (aJ mI (aj) (ac 1)) (bg cx T.z_len Lc (ae (ac 2) (am)))))) (ax (aH 1 ml.nd (aJ bp (aJ mI (aj) (ac 1)) (ac 2)))))) Lt) (ax (aP (aJ bT (ac 1) (ac 3))))))
theorem FT:fz P w K mg base 1 fU (ue K A):=
 vO rfl ml (fun f c cl Ar outer s H vs cvs Q E hr hl hc h=>by
  obtain⟨a0,rfl⟩:=L2.eK hl
  obtain⟨b0,rfl⟩:=L2.eK hc
  exact⟨_,(GW T f c cl Ar outer s H E hr).nox,Hl T.1 a0 b0 H Q E h⟩)
theorem Hd (f c:Addr)(cl:List (Str×Addr))(Ar:Lh)(outer:List Env)(s:Km)(H:Hp)(E:XK)
  (hr:bu 0 (Ar.deeper (Oz fQ.qual fQ.scope s.heap.objs.size f (.ref c) cl))):PSs (gW P w K mg base ["_law_term_here","_law_step","_law_known","_law_alias"] fQ.qual fQ.scope f c cl Ar outer s H E).nox (ba yZ) (Eo K A):=QSs.out (
 ax (aP (cI NT LG Pa (om hr.units1) (ac 2) (ae (cI NT Ob PySem.F.type_dict_get (Av hr.units1) (ac 3) (ae (ac 0) (ae (ac 0) (am)))) (ae (aJ bp (aJ mI (ac 1) (bg cx T.z_len Lc (ae (ac 2) (am)))) (aj)) (am))))))
theorem Gd:fz P w K mg base 1 fQ (uG K A):=
 vO rfl Ik (fun f c cl Ar outer s H vs cvs Q E hr hl hc h=>by
  obtain⟨a0,rfl⟩:=L2.eK hl
  obtain⟨b0,b1,b2,rfl⟩:=L2.tE hc
  exact⟨_,(Hd T f c cl Ar outer s H E hr).nox,Hc T.1 a0 b0 b1 b2 H Q E h⟩)
theorem fc:aV P w K mg base (CX1 P w) 1 A.a_3 A.d_3 ["_law_script","_law_k"] (dU K A):=
 T.f_3.f.okS IH (Gk K A) (IB T.1) fun _ _ _ _ _ _ hr=>
 ar (aW (aT oLt (ac 1) (bg cx T.z_len Lc (ae (ac 0) (am)))) (ax (aP (aL (aB hr.units1) (ac 0) (ac 1) (fun _ _=>rfl)))) (aX)) (ax (aP (aj)))
theorem Fh (B:BM mg base)(C:Nf base A.k_33 A.t_33)(Ar:Lh)(outer:List Env)(s:Km)(H:Hp)(E:XK)
  (hr:bu 0 (Ar.deeper (envOfC "_law_weak" (aw lf) s.heap.objs.size A.a_33 (.ref A.k_33)))):QMs (dq (CX1 P w) P w K mg base ["_law_many","_law_stamp"] "_law_weak" (aw lf) A.a_33 (.ref A.k_33) Ar outer s H E).nox (ba lf) (EI K A (s.heap.objs.size+1)):=(
 rn (qz (Ah 1 zW.nd B C rfl (by rfl) (by simp<;>omega) rfl rfl rfl rfl (fun _ _ _ _ _ us hl=>by obtain⟨_,rfl⟩:=L2.eK hl;rfl))) (pd (pZ (ac 1))))
theorem Fi:aV P w K mg base (CX1 P w) 1 A.a_33 A.d_33 ["_law_many"] (pe K A):=
 T.f_33.f.okM (caps:=fun L=>[(0,L+1)]) T.kc_33 zW (Eh K A) (fun L p hp=>by simp only[KD,LL,or_false]at hp;rcases hp with rfl<;>exact⟨_,rfl,rfl,rfl⟩) (fun L=>by simp) (fun Ar outer s H vs Q E hr h=>⟨_,QMs.nox (Fh T T.B T.C_33 Ar outer s H E hr),Ga T.1 (s.heap.objs.size+1) (by simp) vs H Q E h⟩)
theorem Gb (B:BM mg base)(C:Nf base A.k_62 A.t_62)(Ar:Lh)(outer:List Env)(s:Km)(H:Hp)(E:XK)
  (hr:bu 0 (Ar.deeper (envOfC "writing" (aw lh) s.heap.objs.size A.a_62 (.ref A.k_62)))):QMs (dq (CX1 P w) P w K mg base [] "writing" (aw lh) A.a_62 (.ref A.k_62) Ar outer s H E).nox (ba lh) (Cr K A):=(
 pd (pZ (Ab B C rfl (by rfl) (by simp<;>omega) rfl rfl rfl rfl (fun _ _ _ _ us hl=>by obtain⟨_,rfl⟩:=L2.eK hl;rfl))))
theorem HY:aV P w K mg base (CX1 P w) 1 A.a_62 A.d_62 [] (pO K A):=
 T.f_62.f.okM (caps:=fun L=>[]) T.kc_62 Ft (Em K A) (fun L p hp=>nomatch hp) (fun L=>by simp) (fun Ar outer s H vs Q E hr h=>⟨_,QMs.nox (Gb T T.B T.C_62 Ar outer s H E hr),Fp T.1 (by simp) vs H Q E h⟩)
theorem Jb:aV P w K mg base (CX1 P w) 1 A.a_1 A.d_1 ["self"] (ub K A):=
 T.f_1.okS JI (HZ K A) (IZ T.1) fun _ _ _ _ _ _ hr=>
 ax (yf (ac 0) (jM))
theorem Hv (B:BM mg base)(C:Nf base A.k_38 A.t_38)(Ar:Lh)(outer:List Env)(s:Km)(H:Hp)(E:XK)
  (hr:bu 2 (Ar.deeper (envOfC "counting" (aw kW) s.heap.objs.size A.a_38 (.ref A.k_38)))):QMs (dq (CX1 P w) P w K mg base ["numbers"] "counting" (aw kW) A.a_38 (.ref A.k_38) Ar outer s H E).nox (ba kW) (DV K A (s.heap.objs.size+1)):=(
 rn (qz (aH 0 zL.nd (xj T.mk_Numbers (Jb T) hr.le T.mc_Numbers T.b_1 cE))) (pd (pZ (Ab B C rfl (by rfl) (by simp<;>omega) rfl rfl rfl rfl (fun _ _ _ _ us hl=>by obtain⟨_,rfl⟩:=L2.eK hl;rfl)))))
theorem Fk:aV P w K mg base (CX1 P w) 3 A.a_38 A.d_38 [] (oR K A):=
 T.f_38.f.okM (caps:=fun L=>[(0,L+1)]) T.kc_38 zL (CZ K A) (fun L p hp=>by simp only[KD,LL,or_false]at hp;rcases hp with rfl<;>exact⟨_,rfl,rfl,rfl⟩) (fun L=>by simp) (fun Ar outer s H vs Q E hr h=>⟨_,QMs.nox (Hv T T.B T.C_38 Ar outer s H E hr),FJ T.1 (s.heap.objs.size+1) (by simp) vs H Q E h⟩)
theorem Ip (B:BM mg base)(C:Nf base A.k_23 A.t_23)(Ar:Lh)(outer:List Env)(s:Km)(H:Hp)(E:XK)
  (hr:bu 0 (Ar.deeper (envOfC "_law_planted" (aw kZ) s.heap.objs.size A.a_23 (.ref A.k_23)))):QMs (dq (CX1 P w) P w K mg base ["_law_known","_law_alias","_law_step","_law_stamp"] "_law_planted" (aw kZ) A.a_23 (.ref A.k_23) Ar outer s H E).nox (ba kZ) (EA K A (s.heap.objs.size+1) (s.heap.objs.size+1+1) (s.heap.objs.size+1+1+1)):=(
 rn (qz (Ah 3 zw.nd B C rfl (by rfl) (by simp<;>omega) rfl rfl rfl rfl (fun _ _ _ _ _ us hl=>by obtain⟨_,rfl⟩:=L2.eK hl;rfl))) (pd (pZ (ac 3))))
theorem GJ:aV P w K mg base (CX1 P w) 1 A.a_23 A.d_23 ["_law_known","_law_alias","_law_step"] (pS K A):=
 T.f_23.f.okM (caps:=fun L=>[(0,L+1),(1,L+1+1),(2,L+1+1+1)]) T.kc_23 zw (Cd K A) (fun L p hp=>by simp only[KD,LL,or_false]at hp;rcases hp with rfl|rfl|rfl<;>exact⟨_,rfl,rfl,rfl⟩) (fun L=>by simp) (fun Ar outer s H vs Q E hr h=>⟨_,QMs.nox (Ip T T.B T.C_23 Ar outer s H E hr),Hj T.1 (s.heap.objs.size+1) (s.heap.objs.size+1+1) (s.heap.objs.size+1+1+1) (by simp) vs H Q E h⟩)
theorem GN:aV P w K mg base (CX1 P w) 4 A.a_26 A.d_26 ["_law_way_here","_law_cell","_law_known","_law_alias"] (pQ K A):=
 T.f_26.f.okS GF (Co K A) (HS T.1) fun _ _ _ _ _ _ hr=>
 ar (aW (aT (bB hr.units150) (ac 0) (aj)) (ax (aP (aM (Fi T) hr.le T.f_33 (ae (aJ bp (aj) (aJ bT (ac 1) (aj))) (am))))) (aX)) (ar (aW (x_w (qW (aT (bB hr.units150) (ac 0) (aj)) (mw (aT (bB hr.units150) (aJ bT (ac 1) (aj)) (aj))))) (ax (aP (qK (HY T) hr.le T.f_62.m T.f_62.f.kp T.f_62.b cE))) (aX)) (ar (aW (x_w (qW (aT (bB hr.units150) (ac 0) (aj)) (mw (aT (bB hr.units150) (aJ bT (ac 1) (aj)) (aj))))) (ax (aP (qK (Fk T) hr.le T.f_38.m T.f_38.f.kp T.f_38.b cE))) (aX)) (ax (aP (aM (GJ T) hr.le T.f_23 (ae (ac 2) (ae (ac 3) (ae (aJ bp (aj) (aJ bT (ac 1) (aj))) (am)))))))))
theorem IS:aV P w K mg base (CX1 P w) 1 A.a_5 A.d_5 ["_law_cell"] (uo K A):=
 T.f_5.f.okS IC (Gm K A) (Jc T.1) fun _ _ _ _ _ _ hr=>
 ar (aW (aT (bB hr.units150) (aJ bT (ac 0) (aj)) (aj)) (ax (aP (aJ bp (aj) (aJ bT (aJ cq (ac 0) (aj)) (aj))))) (aX)) (ar (aW (aT (bB hr.units150) (aJ bT (ac 0) (aj)) (aj)) (ax (aP (aJ bP (aJ bp (aJ rk (aj) (aJ bp (aj) (aJ bT (aJ cq (ac 0) (aj)) (aj)))) (aJ bT (aJ cq (ac 0) (aj)) (aj))) (aj)))) (aX)) (ax (aP (aJ bp (aj) (aJ bT (aJ cq (ac 0) (aj)) (aJ rk (aj) (aj)))))))
theorem zH:aV P w K mg base (CX1 P w) 1 A.a_17 A.d_17 ["_law_cell","_law_count"] (lE K A):=
 T.f_17.f.okS FK (EJ K A) (FR T.1) fun _ _ _ _ _ _ hr=>
 ar (aW (aT (bB hr.units150) (aJ bT (ac 0) (aj)) (aj)) (ax (aP (ac 1))) (aX)) (ax (aP (aJ bp (aj) (aJ bT (aJ cq (ac 0) (aj)) (ac 1)))))
theorem Fj:aV P w K mg base (CX1 P w) 1 A.a_28 A.d_28 ["_law_cell"] (pX K A):=
 T.f_28.f.okS sX (Cw K A) (Hk T.1) fun _ _ _ _ _ _ hr=>
 ar (aH 1 sX.nd (bA)) (ar (aH 1 sX.nd (aJ bp (ac 1) (bA))) (ax (aP (cI Qf Qq Qp sM (bA) (ae (ip (ys:=["_law_cell","_law_some"]) (by exact⟨rfl,by decide+kernel,by decide+kernel,rfl,by decide+kernel,by decide+kernel⟩) (by exact .cons rfl (by first|exact .inl rfl|exact .inr rfl) rfl (.cons rfl (by first|exact .inl rfl|exact .inr rfl) rfl (.nil))) (kQ T.z_range (ae (aJ bT (ac 0) (aj)) (am))) (fun C s H fp=>ir) (fun C s H fp=>(aL (aB hr.units1) (ac 2) (aJ bT (aJ bp (aJ cq (ac 1) (aj)) (aJ mI (ac 0) (aJ bT (aJ cq (ac 1) (aj)) (aj)))) (aj)) (fun _ _=>rfl)))) (am))))))
theorem lU:aV P w K mg base (CX1 P w) 2 A.a_25 A.d_25 ["_law_cell"] (fK K A):=
 T.f_25.f.okS FD (DP K A) (FA T.1) fun _ _ _ _ _ _ hr=>
 ar (aW (aT (bB hr.units150) (aJ bT (ac 0) (aj)) (aj)) (ax (aP (aM (Fj T) hr.le T.f_28 (ae (aJ cq (ac 0) (aj)) (am))))) (aX)) (ar (aW (aT (bB hr.units150) (aJ bT (ac 0) (aj)) (aj)) (ax (aP (aJ bT (aJ cq (ac 0) (aj)) (aJ tu (aj) (aj))))) (aX)) (ax (aP (aJ bT (aJ cq (ac 0) (aj)) (aj)))))
theorem lS:aV P w K mg base (CX1 P w) 1 A.a_12 A.d_12 ["_law_many"] (gS K A):=
 T.f_12.f.okS Hh (Cs K A) (Ha T.1) fun _ _ _ _ _ _ hr=>
 ax (aP (aJ rk (aj) (aJ bP (Al Qg Pm Pl sE (aJ bP (ac 0) (aj))) (aj))))
theorem cO:sh P w K mg base 5 (cN K A):=fun ts hts=>by
 simp only[cN,KD,LL,or_false]at hts
 rcases hts with rfl|rfl|rfl|rfl
 ·exact(Iq T).mono (by decide)
 ·exact(Gu T).mono (by decide)
 ·exact(FT T).mono (by decide)
 ·exact(Gd T).mono (by decide)
theorem gU:∀n:Nat,aV P w K mg base (CX1 P w) (5+n) A.a_30 A.d_30 ["_law_stamper_here","_law_tree","_law_low","_law_many"] (eN K A n)
 |0=>⟨fun vs H Q E h=>(zy K A vs H Q E h).elim,fun _ _ _ H _ _ vs Q E _ _ _ _ h=>(zy K A vs H Q E h).elim⟩
 |n+1=>T.f_30.f.okS tV (BH K A (n+1)) (Gq T.1 n) fun _ _ _ _ _ _ (hr:bu (5+n) _)=>
 ar (aW (x_w (qW (aT (bB hr.units150) (ac 3) (aj)) (mw (aT (bB hr.units150) (ac 2) (aL (aB hr.units1) (aL (aB hr.units1) (ac 1) (aj) (fun _ _=>rfl)) (aj) (fun _ _=>rfl)))))) (ax (aP (cQ (cO T) hr.le cE (ac 0) (ae (bv (ae (bA) (ae (aL (aB hr.units1) (ac 1) (aj) (fun _ _=>rfl)) (am)))) (am))))) (aX)) (ar (aW (x_w (jI (aT (bB hr.units150) (ac 3) (aj)) (jE (aT (bB hr.units150) (ip (ys:=["_law_low","_law_many"]) (by exact⟨rfl,by decide+kernel,by decide+kernel,rfl,by decide+kernel,by decide+kernel⟩) (by exact .cons rfl (by first|exact .inl rfl|exact .inr rfl) rfl (.cons rfl (by first|exact .inl rfl|exact .inr rfl) rfl (.nil))) (ef (aL (aB hr.units1) (ac 1) (aj) (fun _ _=>rfl))) (fun C s H fp=>AU (kR oLe oLt (ac 1) (ac 0) (aJ bp (ac 1) (ac 2)))) (fun C s H fp=>(ac 0))) (cH (am)))))) (ax (aP (aM (lU T) hr.le T.f_25 (ae (aJ bp (aJ bp (aL (aB hr.units1) (ac 1) (aj) (fun _ _=>rfl)) (aJ mI (aj) (ac 2))) (aJ mI (aj) (ac 3))) (am))))) (aX)) (ar (aH 4 tV.nd (aM (lS T) hr.le T.f_12 (ae (ac 3) (am)))) (ar (aH 5 tV.nd (aM (gU n) hr.le T.f_30 (ae (ac 0) (ae (ac 1) (ae (ac 2) (ae (ac 4) (am))))))) (ax (aP (cQ (cO T) hr.le cE (ac 0) (ae (bv (ae (bA) (ae (ac 5) (ae (aM (gU n) hr.le T.f_30 (ae (ac 0) (ae (ac 1) (ae (aJ bp (ac 2) (ac 4)) (ae (aJ bP (ac 3) (ac 4)) (am)))))) (am))))) (am))))))))
theorem Hm:aV P w K mg base (CX1 P w) 76 A.a_14 A.d_14 ["_law_stamper_here","_law_tree","_law_count"] (ku K A):=
 T.f_14.f.okS Io (DY K A) (Ih T.1) fun _ _ _ _ _ _ hr=>
 ax (aP (bv (ae (ac 2) (ae (cQ (cO T) hr.le cE (ac 0) (ae (bv (ae (bA) (ae (ac 2) (ae (aM (gU T 70) hr.le T.f_30 (ae (ac 0) (ae (ac 1) (ae (aj) (ae (ac 2) (am)))))) (am))))) (am))) (am)))))
theorem tz:aV P w K mg base (CX1 P w) 76 A.a_19 A.d_19 ["_law_stamper_here","_law_tree","_law_many"] (km K A):=
 T.f_19.f.okS iX (DE K A) (Iw T.1) fun _ _ _ _ _ _ hr=>
 ar (aH 3 iX.nd (cH (am))) (ar (aH 4 iX.nd (aj)) (ar (fZ (aT oGt (ac 2) (aj)) (ar (aH 5 iX.nd (aM (lS T) hr.le T.f_12 (ae (ac 2) (am)))) (ax (aW (aT oLt (aL (aB hr.units1) (aL (aB hr.units1) (ac 1) (aj) (fun _ _=>rfl)) (aj) (fun _ _=>rfl)) (aJ bp (ac 4) (ac 5))) (ar (bI (cI KB Kv Kw br (ac 3) (ae (aM (gU T 70) hr.le T.f_30 (ae (ac 0) (ae (ac 1) (ae (aJ bp (ac 4) (ac 5)) (ae (aJ bP (ac 2) (ac 5)) (am)))))) (am)))) (ax (aH 2 iX.nd (ac 5)))) (ar (bI (cI KB Kv Kw br (ac 3) (ae (aM (gU T 70) hr.le T.f_30 (ae (ac 0) (ae (ac 1) (ae (ac 4) (ae (ac 5) (am)))))) (am)))) (ar (aH 4 iX.nd (aJ bp (ac 4) (ac 5))) (ax (aH 2 iX.nd (aJ bP (ac 2) (ac 5))))))))) Lt) (ax (aP (bv (ae (aL (aB hr.units1) (ac 1) (aj) (fun _ _=>rfl)) (ae (gA vD T.z_tuple Oh (ae (ac 3) (am))) (am))))))))
theorem sN:aV P w K mg base (CX1 P w) 2 A.a_45 A.d_45 ["thing"] (jP K A):=
 T.f_45.f.okS FF (Dm K A) (Ib T.1) fun _ _ _ _ _ _ hr=>
 ax (aP (dR (aM (lN T) hr.le T.f_52 (ae (ac 0) (am))) (fW (kC oLe oLt (aj) (ac 0) (aJ rk (aj) (aj))))))
theorem GH:aV P w K mg base (CX1 P w) 3 A.a_47 A.d_47 ["thing"] (pA K A):=
 T.f_47.f.okS GG (BE K A) (FH T.1) fun _ _ _ _ _ _ hr=>
 ax (aP (dR (bg gF T.z_isinstance LP (ae (ac 0) (ae (gH T.z_tuple Oh) (am)))) (dR (gQ (bB hr.units150) (bg cx T.z_len Lc (ae (ac 0) (am))) (aj)) (dR (aM (sN T) hr.le T.f_45 (ae (aL (aB hr.units1) (ac 0) (aj) (fun _ _=>rfl)) (am))) (fW (aM (pE T) hr.le T.f_50 (ae (aL (aB hr.units1) (ac 0) (aj) (fun _ _=>rfl)) (am))))))))
theorem zS:aV P w K mg base (CX1 P w) 4 A.a_36 A.d_36 ["thing"] (lP K A):=
 T.f_36.f.okS HU (CQ K A) (Hx T.1) fun _ _ _ _ _ _ hr=>
 ax (aW (dI (cS (aM (GH T) hr.le T.f_47 (ae (ac 0) (am))))) (ax (fu)) (aX))
theorem FU:aV P w K mg base (CX1 P w) 3 A.a_46 A.d_46 ["count","elder"] (pU K A):=
 T.f_46.f.okS GE (ED K A) (HJ T.1) fun _ _ _ _ _ _ hr=>
 ax (aP (dR (aM (sN T) hr.le T.f_45 (ae (ac 0) (am))) (dR (aM (lN T) hr.le T.f_52 (ae (ac 1) (am))) (fW (kC oLe oLe (aj) (ac 1) (ac 0))))))
theorem zK:aV P w K mg base (CX1 P w) 1 A.a_44 A.d_44 ["many"] (kf K A):=
 T.f_44.f.okS GZ (Dt K A) (Ao T.1) fun _ _ _ _ _ _ hr=>
 ax (aP (aJ rk (aj) (aJ bP (Al Qg Pm Pl sE (aJ bP (ac 0) (aj))) (aj))))
theorem Hq:aV P w K mg base (CX1 P w) 2 A.a_43 A.d_43 ["count","elder"] (pI K A):=
 T.f_43.f.okS gX (Dp K A) (HE T.1) fun _ _ _ _ _ _ hr=>
 ar (aH 2 gX.nd (cH (am))) (ar (aH 3 gX.nd (ac 1)) (ar (aH 4 gX.nd (ac 0)) (ar (fZ (kR oLt oLt (aj) (ac 3) (ac 4)) (ar (aH 5 gX.nd (aM (zK T) hr.le T.f_44 (ae (ac 4) (am)))) (ax (aW (aT oLe (ac 3) (ac 5)) (ar (bI (cI KB Kv Kw br (ac 2) (ae (aj) (am)))) (ax (aH 4 gX.nd (ac 5)))) (ar (bI (cI KB Kv Kw br (ac 2) (ae (aj) (am)))) (ar (aH 3 gX.nd (aJ bP (ac 3) (ac 5))) (ax (aH 4 gX.nd (aJ bP (ac 4) (ac 5))))))))) Lt) (ax (aP (ac 2))))))
theorem zM:aV P w K mg base (CX1 P w) 3 A.a_35 A.d_35 ["many","thing"] (lF K A):=
 T.f_35.f.okS GS (BS K A) (Fx T.1) fun _ _ _ _ _ _ hr=>
 ax (aP (dR (bg gF T.z_isinstance LP (ae (ac 1) (ae (gH T.z_tuple Oh) (am)))) (dR (gQ (bB hr.units150) (bg cx T.z_len Lc (ae (ac 1) (am))) (ac 0)) (fW (bg (DU rfl) T.z_all L2.vU (ae (ip (ys:=[]) (by exact⟨rfl,by decide+kernel,by decide+kernel,rfl,by decide+kernel,by decide+kernel⟩) (by exact .nil) (ef (ac 1)) (fun C s H fp=>ir) (fun C s H fp=>(aM (pE T) hr.le T.f_50 (ae (ac 0) (am))))) (am)))))))
theorem zJ:aV P w K mg base (CX1 P w) 6 A.a_60 A.d_60 ["stamper"] (lV K A):=
 T.f_60.f.okS HG (ER K A) (GV T.1) fun _ _ _ _ _ _ hr=>
 ax (aP (cH (ae (bv (ae (bA) (am))) (ae (bv (ae (bA) (ae (aj) (ae (cQ (cO T) hr.le cE (ac 0) (ae (bv (ae (bA) (am))) (am))) (am))))) (am)))))
theorem tQ:aV P w K mg base (CX1 P w) 1 A.a_53 A.d_53 ["turn","own","aside"] (kA K A):=
 T.f_53.f.okS HA (DH K A) (GB T.1) fun _ _ _ _ _ _ hr=>
 ax (aP (yN (aT (bB hr.units150) (ac 0) (aj)) (bv (ae (bA) (ae (ac 1) (ae (ac 2) (am))))) (bv (ae (bA) (ae (ac 2) (ae (ac 1) (am)))))))
theorem Ht:aV P w K mg base (CX1 P w) 6 A.a_40 A.d_40 ["stamper","count","elder","steps"] (pF K A):=
 T.f_40.f.okS gZ (Ca K A) (Gw T.1) fun _ _ _ _ _ _ hr=>
 ar (aH 4 gZ.nd (cH (am))) (ar (aH 5 gZ.nd (cH (am))) (ar (aH 6 gZ.nd (aL (aB hr.units1) (ac 3) (aj) (fun _ _=>rfl))) (ar (aH 7 gZ.nd (aL (aB hr.units1) (ac 3) (aj) (fun _ _=>rfl))) (ar (fV 8 gZ.nd (ef (aL (aB hr.units1) (ac 3) (aj) (fun _ _=>rfl))) (ar (bI (cI KB Kv Kw br (ac 4) (ae (aM (tQ T) hr.le T.f_53 (ae (aL (aB hr.units1) (ac 8) (aj) (fun _ _=>rfl)) (ae (ac 6) (ae (aL (aB hr.units1) (ac 8) (aj) (fun _ _=>rfl)) (am))))) (am)))) (ar (aH 6 gZ.nd (cQ (cO T) hr.le cE (ac 0) (ae (aL (aB hr.units1) (ac 4) (eL (aj)) (fun _ _=>rfl)) (am)))) (ax (aW (aT (bB hr.units150) (aL (aB hr.units1) (ac 8) (aj) (fun _ _=>rfl)) (aj)) (ar (bI (cI KB Kv Kw br (ac 5) (ae (aM (tQ T) hr.le T.f_53 (ae (aL (aB hr.units1) (ac 8) (aj) (fun _ _=>rfl)) (ae (ac 7) (ae (aL (aB hr.units1) (ac 8) (aj) (fun _ _=>rfl)) (am))))) (am)))) (ax (aH 7 gZ.nd (cQ (cO T) hr.le cE (ac 0) (ae (aL (aB hr.units1) (ac 5) (eL (aj)) (fun _ _=>rfl)) (am)))))) (aX))))) Lt) (ar (bI (cI KB Kv Kw br (ac 4) (ae (bv (ae (bA) (ae (ac 1) (ae (ac 6) (am))))) (am)))) (ar (bI (cI KB Kv Kw br (ac 5) (ae (bv (ae (bA) (ae (ac 2) (ae (ac 7) (am))))) (am)))) (ax (aP (bv (ae (ac 4) (ae (ac 5) (am))))))))))))
theorem Hb:aV P w K mg base (CX1 P w) 1 A.a_59 A.d_59 ["turns","marks"] (pL K A):=
 T.f_59.f.okS iP (Cy K A) (FZ T.1) fun _ _ _ _ _ _ hr=>
 ar (aH 2 iP.nd (cH (am))) (ar (aH 3 iP.nd (aj)) (ar (aH 4 iP.nd (aJ bP (bg cx T.z_len Lc (ae (ac 1) (am))) (aj))) (ar (fV 5 iP.nd (ef (ac 0)) (ax (aW (aT (bB hr.units150) (ac 5) (aj)) (ar (bI (cI KB Kv Kw br (ac 2) (ae (bv (ae (ac 5) (ae (aL (aB hr.units1) (ac 1) (ac 4) (fun _ _=>rfl)) (am)))) (am)))) (ax (aH 4 iP.nd (aJ bP (ac 4) (aj))))) (ar (bI (cI KB Kv Kw br (ac 2) (ae (bv (ae (ac 5) (ae (aL (aB hr.units1) (ac 1) (ac 3) (fun _ _=>rfl)) (am)))) (am)))) (ax (aH 3 iP.nd (aJ bp (ac 3) (aj))))))) Lt) (ax (aP (bv (ae (aL (aB hr.units1) (ac 1) (ac 3) (fun _ _=>rfl)) (ae (oq T.z_list T.z_reversed rfl (ae (ac 2) (am))) (am)))))))))
theorem zQ:aV P w K mg base (CX1 P w) 7 A.a_42 A.d_42 ["stamper","count","elder","marks"] (lY K A):=
 T.f_42.f.okS uM (Ds K A) (FV T.1) fun _ _ _ _ _ _ hr=>
 ar (aW (dI (cS (aM (FU T) hr.le T.f_46 (ae (ac 1) (ae (ac 2) (am)))))) (ax (fu)) (aX)) (ar (aH 4 uM.nd (aM (Hq T) hr.le T.f_43 (ae (ac 1) (ae (ac 2) (am))))) (ar (aW (dI (cS (aM (zM T) hr.le T.f_35 (ae (yN (aT (bB hr.units150) (ac 1) (aj)) (aj) (aJ bp (bg cx T.z_len Lc (ae (ac 4) (am))) (aj))) (ae (ac 3) (am)))))) (ax (fu)) (aX)) (ar (aW (aT (bB hr.units150) (ac 2) (aj)) (ar (aH 5 uM.nd (yN (aT (bB hr.units150) (ac 1) (aj)) (aM (zJ T) hr.le T.f_60 (ae (ac 0) (am))) (cH (ae (bv (ae (bA) (ae (ac 1) (ae (aL (aB hr.units1) (ac 3) (aj) (fun _ _=>rfl)) (am))))) (am))))) (ax (aP (bv (ae (ac 5) (ae (aM (zJ T) hr.le T.f_60 (ae (ac 0) (am))) (am))))))) (aX)) (ax (aP (aM (Ht T) hr.le T.f_40 (ae (ac 0) (ae (ac 1) (ae (ac 2) (ae (aM (Hb T) hr.le T.f_59 (ae (ac 4) (ae (ac 3) (am)))) (am)))))))))))
theorem EG:aV P w K mg base (CX1 P w) 1 A.a_0 A.d_0 ["self","due","came"] (ql K A):=
 T.f_0.okS IK (HH K A) (JT T.1) fun _ _ _ _ _ _ hr=>
 ar (wd (ac 0) (ac 1)) (ax (wd (ac 0) (ac 2)))
theorem HL (cdv:tx)(Ar:Lh)(outer:List Env)(s:Km)(H:Hp)(E:XK)
  (hr:bu 7 (Ar.deeper (envOfC "growth_answer" (aw mx) s.heap.objs.size A.a_41 cdv))):PSs (dq (CX1 P w) P w K mg base ["stamper","head","elder","marks","terms","came"] "growth_answer" (aw mx) A.a_41 cdv Ar outer s H E) (ba mx) (Fb K A E):=QSs.out (
 ar (bI (aM (zS T) hr.le T.f_36 (ae (ac 1) (am)))) (ar (aH 4 tG.nd (aM (zQ T) hr.le T.f_42 (ae (ac 0) (ae (aL (aB hr.units1) (ac 1) (aj) (fun _ _=>rfl)) (ae (ac 2) (ae (ac 3) (am))))))) (ar (aH 5 tG.nd (cQ (cO T) hr.le cE (ac 0) (ae (aL (aB hr.units1) (aL (aB hr.units1) (ac 4) (aj) (fun _ _=>rfl)) (eL (aj)) (fun _ _=>rfl)) (am)))) (ar (aW (aT (kU hr.units150) (ac 5) (aL (aB hr.units1) (ac 1) (aj) (fun _ _=>rfl))) (ax (qO T.em_Broken (EG T) hr.le T.b_0 T.mc_Broken nN (ae (aL (aB hr.units1) (ac 1) (aj) (fun _ _=>rfl)) (ae (ac 5) (am))))) (aX)) (ax (aP (cQ (cO T) hr.le cE (ac 0) (ae (aL (aB hr.units1) (aL (aB hr.units1) (ac 4) (aj) (fun _ _=>rfl)) (eL (aj)) (fun _ _=>rfl)) (am)))))))))
theorem GQ:aV P w K mg base (CX1 P w) 8 A.a_41 A.d_41 ["stamper","head","elder","marks"] (pM K A):=
 T.f_41.f.okX tG (Ce K A) (fun cdv Ar outer s H vs Q E hr h=>⟨_,HL T cdv Ar outer s H E hr,Ff T.1 vs H Q E h⟩)
theorem Hy:aV P w K mg base (CX1 P w) 3 A.a_48 A.d_48 ["count","place"] (oU K A):=
 T.f_48.f.okS Fe (DI K A) (Fl T.1) fun _ _ _ _ _ _ hr=>
 ax (aP (dR (aM (sN T) hr.le T.f_45 (ae (ac 0) (am))) (dR (aM (lN T) hr.le T.f_52 (ae (ac 1) (am))) (fW (kC oLe oLt (aj) (ac 1) (ac 0))))))
theorem HC:aV P w K mg base (CX1 P w) 2 A.a_61 A.d_61 ["place","many"] (oX K A):=
 T.f_61.f.okS gR (Do K A) (Gr T.1) fun _ _ _ _ _ _ hr=>
 ar (aH 2 gR.nd (cH (am))) (ar (aH 3 gR.nd (aj)) (ar (aH 4 gR.nd (ac 1)) (ar (fZ (aT oGt (ac 4) (aj)) (ar (aH 5 gR.nd (aM (zK T) hr.le T.f_44 (ae (ac 4) (am)))) (ax (aW (aT oLt (ac 0) (aJ bp (ac 3) (ac 5))) (ar (bI (cI KB Kv Kw br (ac 2) (ae (aj) (am)))) (ax (aH 4 gR.nd (ac 5)))) (ar (bI (cI KB Kv Kw br (ac 2) (ae (aj) (am)))) (ar (aH 3 gR.nd (aJ bp (ac 3) (ac 5))) (ax (aH 4 gR.nd (aJ bP (ac 4) (ac 5))))))))) Lt) (ax (aP (ac 2))))))
theorem GY:aV P w K mg base (CX1 P w) 4 A.a_49 A.d_49 ["turns","thing"] (oZ K A):=
 T.f_49.f.okS Gp (CN K A) (FN T.1) fun _ _ _ _ _ _ hr=>
 ar (aW (x_w (jI (dI (cS (bg gF T.z_isinstance LP (ae (ac 1) (ae (gH T.z_tuple Oh) (am)))))) (jE (aT (kU hr.units150) (bg cx T.z_len Lc (ae (ac 1) (am))) (aj))))) (ax (aP (eY))) (aX)) (ax (aP (dR (aM (pE T) hr.le T.f_50 (ae (aL (aB hr.units1) (ac 1) (aj) (fun _ _=>rfl)) (am))) (fW (aM (zM T) hr.le T.f_35 (ae (bg cx T.z_len Lc (ae (ac 0) (am))) (ae (aL (aB hr.units1) (ac 1) (aj) (fun _ _=>rfl)) (am))))))))
theorem ur:aV P w K mg base (CX1 P w) 6 A.a_58 A.d_58 ["stamper","count","place","paper"] (kh K A):=
 T.f_58.f.okS pq (CY K A) (HF T.1) fun _ _ _ _ _ _ hr=>
 ar (aW (dI (cS (aM (Hy T) hr.le T.f_48 (ae (ac 1) (ae (ac 2) (am)))))) (ax (fu)) (aX)) (ar (aH 4 pq.nd (aM (HC T) hr.le T.f_61 (ae (ac 2) (ae (ac 1) (am))))) (ar (aW (dI (cS (aM (GY T) hr.le T.f_49 (ae (ac 4) (ae (ac 3) (am)))))) (ax (fu)) (aX)) (ar (aH 5 pq.nd (cH (ae (bv (ae (bA) (ae (aL (aB hr.units1) (ac 3) (aj) (fun _ _=>rfl)) (am)))) (am)))) (ar (fV 6 pq.nd (Dh T.z_reversed (ae (uZ T.z_list T.z_zip rfl (ae (ac 4) (ae (aL (aB hr.units1) (ac 3) (aj) (fun _ _=>rfl)) (am)))) (am))) (ax (bI (cI KB Kv Kw br (ac 5) (ae (aM (tQ T) hr.le T.f_53 (ae (aL (aB hr.units1) (ac 6) (aj) (fun _ _=>rfl)) (ae (cQ (cO T) hr.le cE (ac 0) (ae (aL (aB hr.units1) (ac 5) (eL (aj)) (fun _ _=>rfl)) (am))) (ae (aL (aB hr.units1) (ac 6) (aj) (fun _ _=>rfl)) (am))))) (am))))) Lt) (ar (bI (cI KB Kv Kw br (ac 5) (ae (bv (ae (bA) (ae (ac 1) (ae (cQ (cO T) hr.le cE (ac 0) (ae (aL (aB hr.units1) (ac 5) (eL (aj)) (fun _ _=>rfl)) (am))) (am))))) (am)))) (ax (aP (ac 5))))))))
theorem FO:aV P w K mg base (CX1 P w) 7 A.a_57 A.d_57 ["stamper","count","place","paper"] (pD K A):=
 T.f_57.f.okS HV (DW K A) (Gc T.1) fun _ _ _ _ _ _ hr=>
 ax (aP (cQ (cO T) hr.le cE (ac 0) (ae (aL (aB hr.units1) (aM (ur T) hr.le T.f_58 (ae (ac 0) (ae (ac 1) (ae (ac 2) (ae (ac 3) (am)))))) (eL (aj)) (fun _ _=>rfl)) (am))))
theorem Fz (cdv:tx)(Ar:Lh)(outer:List Env)(s:Km)(H:Hp)(E:XK)
  (hr:bu 7 (Ar.deeper (envOfC "place_answer" (aw mZ) s.heap.objs.size A.a_56 cdv))):PSs (dq (CX1 P w) P w K mg base ["stamper","head","place","paper","came"] "place_answer" (aw mZ) A.a_56 cdv Ar outer s H E) (ba mZ) (BO K A E):=QSs.out (
 ar (bI (aM (zS T) hr.le T.f_36 (ae (ac 1) (am)))) (ar (aH 4 zA.nd (aM (FO T) hr.le T.f_57 (ae (ac 0) (ae (aL (aB hr.units1) (ac 1) (aj) (fun _ _=>rfl)) (ae (ac 2) (ae (ac 3) (am))))))) (ar (aW (aT (kU hr.units150) (ac 4) (aL (aB hr.units1) (ac 1) (aj) (fun _ _=>rfl))) (ax (qO T.em_Broken (EG T) hr.le T.b_0 T.mc_Broken nN (ae (aL (aB hr.units1) (ac 1) (aj) (fun _ _=>rfl)) (ae (ac 4) (am))))) (aX)) (ax (aP (aL (aB hr.units1) (ac 3) (aj) (fun _ _=>rfl)))))))
theorem FQ:aV P w K mg base (CX1 P w) 8 A.a_56 A.d_56 ["stamper","head","place","paper"] (pR K A):=
 T.f_56.f.okX zA (DB K A) (fun cdv Ar outer s H vs Q E hr h=>⟨_,Fz T cdv Ar outer s H E hr,HK T.1 vs H Q E h⟩)
theorem pN:aV P w K mg base (CX1 P w) 9 A.a_29 A.d_29 ["_law_stamper_here","_law_growing","_law_head_here","_law_at","_law_paper_here"] (iL K A):=
 T.f_29.f.okS lM (CK K A) (Ge T.1) fun _ _ _ _ _ E hr=>
 ar (aH 5 lM.nd (tL)) (ar (Ig (fun pn' E' EH hEH=>ax (aW (cS (ac 1)) (ax (aH 5 lM.nd (bv (ae (bA) (ae (mR (GQ T) hr.le T.f_41.m T.f_41.f.kp T.f_41.b hEH (ae (ac 0) (ae (ac 2) (ae (ac 3) (ae (ac 4) (am)))))) (am)))))) (ax (aH 5 lM.nd (bv (ae (bA) (ae (mR (FQ T) hr.le T.f_56.m T.f_56.f.kp T.f_56.b hEH (ae (ac 0) (ae (ac 2) (ae (ac 3) (ae (ac 4) (am)))))) (am)))))))) (DM T.eo_Broken T.mc_Broken (fun a=>ax (aH 5 lM.nd (bv (ae (bA) (am))))) (EN)) (aX)) (ax (aP (ac 5))))
theorem qr:aV P w K mg base (CX1 P w) 76 A.a_9 A.d_9 ["_law_stamper_here","_law_tree","_law_many","_law_elder"] (jG K A):=
 T.f_9.f.okS jv (Iu K A) (IW T.1) fun _ _ _ _ _ _ hr=>
 ar (aH 4 jv.nd (cH (am))) (ar (aH 5 jv.nd (cH (am))) (ar (aH 6 jv.nd (aj)) (ar (fZ (aT oLt (aJ bP (ac 3) (ac 6)) (ac 2)) (ar (aH 7 jv.nd (aM (lS T) hr.le T.f_12 (ae (ac 2) (am)))) (ax (aW (aT oGt (aJ bP (ac 3) (ac 6)) (ac 7)) (ar (bI (cI KB Kv Kw br (ac 4) (ae (aM (gU T 70) hr.le T.f_30 (ae (ac 0) (ae (ac 1) (ae (ac 6) (ae (ac 7) (am)))))) (am)))) (ar (aH 6 jv.nd (aJ bp (ac 6) (ac 7))) (ax (aH 2 jv.nd (aJ bP (ac 2) (ac 7)))))) (ar (bI (cI KB Kv Kw br (ac 5) (ae (aM (gU T 70) hr.le T.f_30 (ae (ac 0) (ae (ac 1) (ae (aJ bp (ac 6) (ac 7)) (ae (aJ bP (ac 2) (ac 7)) (am)))))) (am)))) (ax (aH 2 jv.nd (ac 7))))))) Lt) (ar (bI (cI KB Kv Kw br (ac 4) (ae (aM (gU T 70) hr.le T.f_30 (ae (ac 0) (ae (ac 1) (ae (ac 6) (ae (ac 2) (am)))))) (am)))) (ax (aP (gA vD T.z_tuple Oh (ae (aJ bp (ac 4) (oq T.z_list T.z_reversed rfl (ae (ac 5) (am)))) (am)))))))))
theorem HB:aV P w K mg base (CX1 P w) 77 A.a_15 A.d_15 ["_law_stamper_here","_law_tree","_law_heads","_law_place"] (pK K A):=
 T.f_15.f.okS lH (Cv K A) (Ij T.1) fun _ _ _ _ _ _ hr=>
 ar (fV 4 lH.nd (kQ T.z_range (ae (aj) (am))) (ar (aH 5 lH.nd (aM (tz T) hr.le T.f_19 (ae (ac 0) (ae (ac 1) (ae (aL (aB hr.units1) (aL (aB hr.units1) (ac 2) (ac 4) (fun _ _=>rfl)) (aj) (fun _ _=>rfl)) (am)))))) (ar (aW (aT (kU hr.units150) (aM (pN T) hr.le T.f_29 (ae (ac 0) (ae (eY) (ae (aL (aB hr.units1) (ac 2) (ac 4) (fun _ _=>rfl)) (ae (ac 3) (ae (ac 5) (am))))))) (bv (ae (bA) (ae (aL (aB hr.units1) (ac 1) (aj) (fun _ _=>rfl)) (am))))) (ax (aP (eY))) (aX)) (ax (fV 6 lH.nd (yR T.z_range (ae (aJ bp (ac 4) (aj)) (ae (aj) (am)))) (ar (aH 7 lH.nd (aM (qr T) hr.le T.f_9 (ae (ac 0) (ae (ac 1) (ae (aL (aB hr.units1) (aL (aB hr.units1) (ac 2) (ac 4) (fun _ _=>rfl)) (aj) (fun _ _=>rfl)) (ae (aL (aB hr.units1) (aL (aB hr.units1) (ac 2) (ac 6) (fun _ _=>rfl)) (aj) (fun _ _=>rfl)) (am))))))) (ax (aW (aT (kU hr.units150) (aM (pN T) hr.le T.f_29 (ae (ac 0) (ae (eY) (ae (aL (aB hr.units1) (ac 2) (ac 4) (fun _ _=>rfl)) (ae (aL (aB hr.units1) (aL (aB hr.units1) (ac 2) (ac 6) (fun _ _=>rfl)) (aj) (fun _ _=>rfl)) (ae (ac 7) (am))))))) (bv (ae (bA) (ae (aL (aB hr.units1) (aL (aB hr.units1) (ac 2) (ac 6) (fun _ _=>rfl)) (aj) (fun _ _=>rfl)) (am))))) (ax (aP (eY))) (aX)))) Lt)))) Lt) (ax (aP (eY)))
theorem uf:aV P w K mg base (CX1 P w) 1 A.a_18 A.d_18 ["_law_mark"] (jK K A):=
 T.f_18.f.okS GO (El K A) (Ho T.1) fun _ _ _ _ _ _ hr=>
 ar (aW (cS (bg gF T.z_isinstance LP (ae (ac 0) (ae (gH T.z_str Tj) (am))))) (ax (aP (aJ Hf (aL (aB hr.units1) (cH (ae (bA) (ae (bA) (am)))) (gA yt T.z_int L2.qE (ae (gQ (bB hr.units150) (fj gh (ac 0) (gg) (eV (aj))) (bA)) (am))) (fun _ _=>rfl)) (bg cx T.z_len Lc (ae (ac 0) (am)))))) (aX)) (ax (aP (aJ bT (aJ bp (ac 0) (aj)) (aJ tu (aj) (aj)))))
theorem ul:aV P w K mg base (CX1 P w) 3 A.a_31 A.d_31 ["_law_kind","_law_cell","_law_marks"] (kg K A):=
 T.f_31.f.okS jN (Ea K A) (Hs T.1) fun _ _ _ _ _ _ hr=>
 ar (aW (aT (bB hr.units150) (bg cx T.z_len Lc (ae (ac 2) (am))) (aj)) (ax (aP (ac 2))) (aX)) (ar (aH 3 jN.nd (aJ bT (ac 1) (bg cx T.z_len Lc (ae (ac 2) (am))))) (ar (aH 4 jN.nd (aM (uf T) hr.le T.f_18 (ae (aL (aB hr.units1) (ac 2) (ac 3) (fun _ _=>rfl)) (am)))) (ar (aW (aT (bB hr.units150) (ac 0) (aj)) (ax (aP (aJ bp (fj gh (ac 2) (eV (aj)) (gg)) (fj gh (ac 2) (gg) (eV (aj)))))) (aX)) (ar (aW (aT (bB hr.units150) (ac 0) (aj)) (ax (aH 4 jN.nd (aM (lU T) hr.le T.f_25 (ae (aJ cq (ac 1) (aj)) (am))))) (aX)) (ar (aW (aT (bB hr.units150) (ac 0) (aj)) (ar (aH 3 jN.nd (aJ bP (bg cx T.z_len Lc (ae (ac 2) (am))) (aj))) (ax (aH 4 jN.nd (aM (lU T) hr.le T.f_25 (ae (aJ cq (ac 1) (aj)) (am)))))) (aX)) (ax (aP (aJ bp (aJ bp (fj gh (ac 2) (gg) (eV (ac 3))) (bv (ae (ac 4) (am)))) (fj gh (ac 2) (eV (aJ bp (ac 3) (aj))) (gg))))))))))
theorem IG:aV P w K mg base (CX1 P w) 4 A.a_4 A.d_4 ["_law_kind","_law_cell","_law_paper_here"] (ua K A):=
 T.f_4.f.okS IF (GP K A) (JM T.1) fun _ _ _ _ _ _ hr=>
 ar (aW (aT oLt (ac 0) (aj)) (ax (aP (bv (ae (aM (uf T) hr.le T.f_18 (ae (aL (aB hr.units1) (ac 2) (aj) (fun _ _=>rfl)) (am))) (ae (aL (aB hr.units1) (ac 2) (aj) (fun _ _=>rfl)) (am)))))) (aX)) (ar (aW (aT (bB hr.units150) (ac 0) (aj)) (ax (aP (bv (ae (aM (lU T) hr.le T.f_25 (ae (ac 1) (am))) (ae (aL (aB hr.units1) (ac 2) (aj) (fun _ _=>rfl)) (am)))))) (aX)) (ar (aW (aT (bB hr.units150) (ac 0) (aj)) (ax (aP (bv (ae (aM (uf T) hr.le T.f_18 (ae (aL (aB hr.units1) (ac 2) (aj) (fun _ _=>rfl)) (am))) (ae (aM (ul T) hr.le T.f_31 (ae (aJ bT (ac 1) (aj)) (ae (aJ cq (ac 1) (aj)) (ae (aL (aB hr.units1) (ac 2) (aj) (fun _ _=>rfl)) (am))))) (am)))))) (aX)) (ax (aP (bv (ae (aL (aB hr.units1) (ac 2) (aj) (fun _ _=>rfl)) (ae (aM (ul T) hr.le T.f_31 (ae (aJ bT (ac 1) (aj)) (ae (aJ cq (ac 1) (aj)) (ae (aL (aB hr.units1) (ac 2) (aj) (fun _ _=>rfl)) (am))))) (am))))))))
theorem Aa:aV P w K mg base (CX1 P w) 6 A.a_27 A.d_27 ["_law_stamper_here","_law_count","_law_hands_here","_law_marks","_law_top_here","_law_height"] (mm K A):=
 T.f_27.f.okS kr (DN K A) (Gg T.1) fun _ _ _ _ _ _ hr=>
 ar (fV 6 kr.nd (kQ T.z_range (ae (aJ bp (ac 5) (aj)) (am))) (ar (aW (aT (bB hr.units150) (ac 6) (bg cx T.z_len Lc (ae (ac 2) (am)))) (ax (aH 7 kr.nd (bv (ae (bA) (ae (ac 1) (ae (ac 4) (am))))))) (ax (aW (aT (bB hr.units150) (aL (aB hr.units1) (ac 2) (aJ bP (eL (aj)) (ac 6)) (fun _ _=>rfl)) (aj)) (ax (aH 7 kr.nd (bv (ae (bA) (ae (aL (aB hr.units1) (ac 3) (aJ bP (eL (aj)) (ac 6)) (fun _ _=>rfl)) (ae (ac 4) (am))))))) (ax (aH 7 kr.nd (bv (ae (bA) (ae (ac 4) (ae (aL (aB hr.units1) (ac 3) (aJ bP (eL (aj)) (ac 6)) (fun _ _=>rfl)) (am)))))))))) (ar (aW (aT (bB hr.units150) (ac 6) (ac 5)) (ax (aP (ac 7))) (aX)) (ax (aH 4 kr.nd (cQ (cO T) hr.le cE (ac 0) (ae (ac 7) (am))))))) Lt) (ax (aP (tL)))
theorem Ie:aV P w K mg base (CX1 P w) 2 A.a_32 A.d_32 ["_law_count","_law_place"] (pb K A):=
 T.f_32.f.okS jV (CB K A) (FP T.1) fun _ _ _ _ _ _ hr=>
 ar (aH 2 jV.nd (cH (am))) (ar (fZ (aT oGt (ac 0) (aj)) (ar (aH 3 jV.nd (aM (lS T) hr.le T.f_12 (ae (ac 0) (am)))) (ar (bI (cI KB Kv Kw br (ac 2) (ae (gA yt T.z_int L2.qE (ae (gQ oGe (ac 1) (ac 3)) (am))) (am)))) (ax (aW (aT oGe (ac 1) (ac 3)) (ar (aH 1 jV.nd (aJ bP (ac 1) (ac 3))) (ax (aH 0 jV.nd (aJ bP (ac 0) (ac 3))))) (ax (aH 0 jV.nd (ac 3))))))) Lt) (ax (aP (ac 2))))
theorem zu:aV P w K mg base (CX1 P w) 7 A.a_20 A.d_20 ["_law_stamper_here","_law_count","_law_place","_law_paper_here","_law_height"] (md K A):=
 T.f_20.f.okS zG (Df K A) (Gz T.1) fun _ _ _ _ _ _ hr=>
 ar (aH 5 zG.nd (bv (ae (bA) (ae (aL (aB hr.units1) (ac 3) (aj) (fun _ _=>rfl)) (am))))) (ar (aW (aT (bB hr.units150) (ac 4) (aj)) (ax (aP (ac 5))) (aX)) (ax (aP (aM (Aa T) hr.le T.f_27 (ae (ac 0) (ae (ac 1) (ae (aM (Ie T) hr.le T.f_32 (ae (ac 1) (ae (ac 2) (am)))) (ae (aL (aB hr.units1) (ac 3) (aj) (fun _ _=>rfl)) (ae (cQ (cO T) hr.le cE (ac 0) (ae (ac 5) (am))) (ae (aJ bP (ac 4) (aj)) (am)))))))))))
theorem zt:aV P w K mg base (CX1 P w) 1 A.a_22 A.d_22 ["_law_known","_law_alias","_law_new","_law_old"] (mf K A):=
 T.f_22.f.okS Fq (EB K A) (Hu T.1) fun _ _ _ _ _ _ hr=>
 ax (aW (aT (kj hr.units150) (ac 2) (ac 0)) (ax (re hr.units1 (ac 1) (ac 2) (ac 3))) (aX))
theorem um:aV P w K mg base (CX1 P w) 8 A.a_8 A.d_8 ["_law_stamper_here","_law_count","_law_elder","_law_marks"] (lq K A):=
 T.f_8.f.okS Ci (Gj K A) (Kc T.1) fun _ _ _ _ _ _ hr=>
 ar (aH 4 Ci.nd (aM (zQ T) hr.le T.f_42 (ae (ac 0) (ae (ac 1) (ae (ac 2) (ae (ac 3) (am))))))) (ax (aP (aJ bp (aL (aB hr.units1) (ac 4) (aj) (fun _ _=>rfl)) (aL (aB hr.units1) (ac 4) (aj) (fun _ _=>rfl)))))
theorem Gn:aV P w K mg base (CX1 P w) 6 A.a_16 A.d_16 ["_law_stamper_here","_law_terms","_law_found"] (pG K A):=
 T.f_16.f.okS GX (EZ K A) (FY T.1) fun _ _ _ _ _ _ hr=>
 ar (aW (x_w (jI (dI (cS (bg gF T.z_isinstance LP (ae (ac 2) (ae (gH T.z_tuple Oh) (am)))))) (jI (aT (kU hr.units150) (bg cx T.z_len Lc (ae (ac 2) (am))) (aj)) (jE (aT (bB hr.units150) (aL (aB hr.units1) (ac 2) (aj) (fun _ _=>rfl)) (aL (aB hr.units1) (ac 2) (aj) (fun _ _=>rfl))))))) (ax (aP (eY))) (aX)) (ar (aW (x_w (jI (aT (kj hr.units150) (aL (aB hr.units1) (ac 2) (aj) (fun _ _=>rfl)) (ac 1)) (jE (aT (kj hr.units150) (aL (aB hr.units1) (ac 2) (aj) (fun _ _=>rfl)) (ac 1))))) (ax (aP (eY))) (aX)) (ax (aP (gQ (bB hr.units150) (cQ (cO T) hr.le cE (ac 0) (ae (aL (aB hr.units1) (ac 2) (aj) (fun _ _=>rfl)) (am))) (cQ (cO T) hr.le cE (ac 0) (ae (aL (aB hr.units1) (ac 2) (aj) (fun _ _=>rfl)) (am)))))))
theorem Hw:aV P w K mg base (CX1 P w) 6 A.a_37 A.d_37 ["stamper","terms"] (ph K A):=
 T.f_37.f.okS oW (Er K A) (FL T.1) fun _ _ _ _ _ _ hr=>
 ar (aH 2 oW.nd (jM)) (ar (fV 3 oW.nd (ef (ac 1)) (ar (aH 4 oW.nd (cI NT LG Pa (om hr.units1) (ac 2) (ae (cQ (cO T) hr.le cE (ac 0) (ae (ac 3) (am))) (ae (ac 3) (am))))) (ax (aW (aT (kU hr.units150) (ac 4) (ac 3)) (ax (aP (bv (ae (ac 4) (ae (ac 3) (am)))))) (aX)))) Lt) (ax (aP (tL))))
theorem DD:aV P w K mg base (CX1 P w) 7 A.a_7 A.d_7 ["_law_stamper_here","_law_terms","_law_told_here","_law_due","_law_sure"] (jt K A):=
 T.f_7.f.okS Jt (Fy K A) (JA T.1) fun _ _ _ _ _ _ hr=>
 ar (aW (x_w (jI (aT (bB hr.units150) (ac 2) (bv (ae (bA) (am)))) (jE (aT (bB hr.units150) (ac 2) (bv (ae (bA) (ae (ac 3) (am)))))))) (ax (aP (eY))) (aX)) (ax (aP (dR (zT (ac 4)) (fW (aM (Gn T) hr.le T.f_16 (ae (ac 0) (ae (ac 1) (ae (aM (Hw T) hr.le T.f_37 (ae (ac 0) (ae (ac 1) (am)))) (am)))))))))
theorem Gf:aV P w K mg base (CX1 P w) 77 A.a_21 A.d_21 ["_law_stamper_here","_law_script","_law_tree","_law_heads","_law_known","_law_alias","_law_way_here"] (pJ K A):=
 T.f_21.f.okS eF (BU K A) (FI T.1) fun _ _ _ _ _ _ hr=>
 ar (aH 7 eF.nd (aM (fc T) hr.le T.f_3 (ae (ac 1) (ae (aj) (am))))) (ar (aH 8 eF.nd (aJ bT (aJ cq (aM (fc T) hr.le T.f_3 (ae (ac 1) (ae (aj) (am)))) (aj)) (aj))) (ar (aH 9 eF.nd (aL (aB hr.units1) (aL (aB hr.units1) (ac 2) (aj) (fun _ _=>rfl)) (aj) (fun _ _=>rfl))) (ar (aH 10 eF.nd (cH (ae (aM (tz T) hr.le T.f_19 (ae (ac 0) (ae (ac 2) (ae (aL (aB hr.units1) (aL (aB hr.units1) (ac 3) (aj) (fun _ _=>rfl)) (aj) (fun _ _=>rfl)) (am))))) (ae (aM (tz T) hr.le T.f_19 (ae (ac 0) (ae (ac 2) (ae (aL (aB hr.units1) (aL (aB hr.units1) (ac 3) (aj) (fun _ _=>rfl)) (aj) (fun _ _=>rfl)) (am))))) (am))))) (ar (aH 11 eF.nd (aL (aB hr.units1) (aL (aB hr.units1) (ac 3) (ac 8) (fun _ _=>rfl)) (aj) (fun _ _=>rfl))) (ar (aH 12 eF.nd (aM (IG T) hr.le T.f_4 (ae (aJ bT (ac 7) (aj)) (ae (aJ cq (ac 7) (aj)) (ae (aL (aB hr.units1) (ac 10) (ac 8) (fun _ _=>rfl)) (am)))))) (ar (aH 13 eF.nd (aJ bT (aM (fc T) hr.le T.f_3 (ae (ac 1) (ae (aj) (am)))) (aJ bp (bg cx T.z_len Lc (ae (aL (aB hr.units1) (aL (aB hr.units1) (ac 10) (ac 8) (fun _ _=>rfl)) (aj) (fun _ _=>rfl)) (am))) (aj)))) (ar (aW (aT oLt (ac 6) (aj)) (ar (aH 14 eF.nd (aM (zu T) hr.le T.f_20 (ae (ac 0) (ae (ac 11) (ae (ac 9) (ae (aL (aB hr.units1) (ac 10) (ac 8) (fun _ _=>rfl)) (ae (ac 13) (am)))))))) (ax (bI (aM (zt T) hr.le T.f_22 (ae (ac 4) (ae (ac 5) (ae (aM (zu T) hr.le T.f_20 (ae (ac 0) (ae (ac 11) (ae (ac 9) (ae (ac 12) (ae (ac 13) (am))))))) (ae (ac 14) (am))))))))) (aX)) (ar (aH 15 eF.nd (aM (ur T) hr.le T.f_58 (ae (ac 0) (ae (ac 11) (ae (ac 9) (ae (ac 12) (am))))))) (ar (aH 15 eF.nd (aJ bp (ac 15) (aM (ur T) hr.le T.f_58 (ae (ac 0) (ae (aL (aB hr.units1) (aL (aB hr.units1) (ac 3) (aJ bP (aj) (ac 8)) (fun _ _=>rfl)) (aj) (fun _ _=>rfl)) (ae (ac 9) (ae (aL (aB hr.units1) (ac 10) (aJ bP (aj) (ac 8)) (fun _ _=>rfl)) (am)))))))) (ar (aH 16 eF.nd (aM (qr T) hr.le T.f_9 (ae (ac 0) (ae (ac 2) (ae (aL (aB hr.units1) (aL (aB hr.units1) (ac 3) (aj) (fun _ _=>rfl)) (aj) (fun _ _=>rfl)) (ae (aL (aB hr.units1) (aL (aB hr.units1) (ac 3) (aj) (fun _ _=>rfl)) (aj) (fun _ _=>rfl)) (am))))))) (ar (aH 15 eF.nd (aJ bp (ac 15) (aM (um T) hr.le T.f_8 (ae (ac 0) (ae (aL (aB hr.units1) (aL (aB hr.units1) (ac 3) (aj) (fun _ _=>rfl)) (aj) (fun _ _=>rfl)) (ae (aL (aB hr.units1) (aL (aB hr.units1) (ac 3) (aj) (fun _ _=>rfl)) (aj) (fun _ _=>rfl)) (ae (ac 16) (am)))))))) (ax (aP (aM (DD T) hr.le T.f_7 (ae (ac 0) (ae (ac 15) (ae (aM (pN T) hr.le T.f_29 (ae (ac 0) (ae (eY) (ae (aL (aB hr.units1) (ac 3) (ac 8) (fun _ _=>rfl)) (ae (ac 9) (ae (ac 12) (am))))))) (ae (aL (aB hr.units1) (ac 2) (aj) (fun _ _=>rfl)) (ae (gQ (bB hr.units150) (ac 6) (aj)) (am))))))))))))))))))))
theorem Ic:aV P w K mg base (CX1 P w) 2 A.a_13 A.d_13 ["_law_count","_law_elder"] (pB K A):=
 T.f_13.f.okS iS (BR K A) (Gh T.1) fun _ _ _ _ _ _ hr=>
 ar (aH 2 iS.nd (cH (am))) (ar (aH 3 iS.nd (aj)) (ar (fZ (aT oLt (aJ bP (ac 1) (ac 3)) (ac 0)) (ar (aH 4 iS.nd (aM (lS T) hr.le T.f_12 (ae (ac 0) (am)))) (ar (bI (cI KB Kv Kw br (ac 2) (ae (gA yt T.z_int L2.qE (ae (gQ oGt (aJ bP (ac 1) (ac 3)) (ac 4)) (am))) (am)))) (ax (aW (aT oGt (aJ bP (ac 1) (ac 3)) (ac 4)) (ar (aH 3 iS.nd (aJ bp (ac 3) (ac 4))) (ax (aH 0 iS.nd (aJ bP (ac 0) (ac 4))))) (ax (aH 0 iS.nd (ac 4))))))) Lt) (ax (aP (ac 2)))))
theorem JR:aV P w K mg base (CX1 P w) 1 A.a_6 A.d_6 ["_law_hands_here","_law_marks"] (sO K A):=
 T.f_6.f.okS la (HW K A) (Iz T.1) fun _ _ _ _ _ _ hr=>
 ar (aH 2 la.nd (cH (am))) (ar (aH 3 la.nd (aj)) (ar (aH 4 la.nd (bg cx T.z_len Lc (ae (ac 1) (am)))) (ar (fV 5 la.nd (ef (ac 0)) (ax (aW (aT (bB hr.units150) (ac 5) (aj)) (ar (bI (cI KB Kv Kw br (ac 2) (ae (aL (aB hr.units1) (ac 1) (ac 3) (fun _ _=>rfl)) (am)))) (ax (aH 3 la.nd (aJ bp (ac 3) (aj))))) (ar (aH 4 la.nd (aJ bP (ac 4) (aj))) (ax (bI (cI KB Kv Kw br (ac 2) (ae (aL (aB hr.units1) (ac 1) (ac 4) (fun _ _=>rfl)) (am)))))))) Lt) (ax (aP (aJ bp (ac 2) (cH (ae (aL (aB hr.units1) (ac 1) (ac 3) (fun _ _=>rfl)) (am)))))))))
theorem zZ:aV P w K mg base (CX1 P w) 7 A.a_10 A.d_10 ["_law_stamper_here","_law_count","_law_elder","_law_marks","_law_height"] (lC K A):=
 T.f_10.f.okS tK (Ek K A) (GT T.1) fun _ _ _ _ _ _ hr=>
 ar (aH 5 tK.nd (aM (Ic T) hr.le T.f_13 (ae (ac 1) (ae (ac 2) (am))))) (ar (aH 6 tK.nd (aM (JR T) hr.le T.f_6 (ae (ac 5) (ae (ac 3) (am))))) (ax (aP (aM (Aa T) hr.le T.f_27 (ae (ac 0) (ae (ac 1) (ae (ac 5) (ae (fj gh (ac 6) (gg) (eV (eL (aj)))) (ae (aL (aB hr.units1) (ac 6) (eL (aj)) (fun _ _=>rfl)) (ae (ac 4) (am)))))))))))
theorem Ir:aV P w K mg base (CX1 P w) 77 A.a_11 A.d_11 ["_law_stamper_here","_law_script","_law_tree","_law_heads","_law_known","_law_alias","_law_way_here"] (pC K A):=
 T.f_11.f.okS eD (BA K A) (GA T.1) fun _ _ _ _ _ _ hr=>
 ar (aH 7 eD.nd (aM (fc T) hr.le T.f_3 (ae (ac 1) (ae (aj) (am))))) (ar (aH 8 eD.nd (aJ bT (aJ cq (aM (fc T) hr.le T.f_3 (ae (ac 1) (ae (aj) (am)))) (aj)) (aj))) (ar (aH 9 eD.nd (aL (aB hr.units1) (aL (aB hr.units1) (ac 3) (ac 8) (fun _ _=>rfl)) (aj) (fun _ _=>rfl))) (ar (aH 10 eD.nd (aL (aB hr.units1) (aL (aB hr.units1) (ac 3) (aj) (fun _ _=>rfl)) (aj) (fun _ _=>rfl))) (ar (aH 11 eD.nd (cH (ae (aM (qr T) hr.le T.f_9 (ae (ac 0) (ae (ac 2) (ae (aL (aB hr.units1) (aL (aB hr.units1) (ac 3) (aj) (fun _ _=>rfl)) (aj) (fun _ _=>rfl)) (ae (ac 10) (am)))))) (ae (aM (qr T) hr.le T.f_9 (ae (ac 0) (ae (ac 2) (ae (aL (aB hr.units1) (aL (aB hr.units1) (ac 3) (aj) (fun _ _=>rfl)) (aj) (fun _ _=>rfl)) (ae (ac 10) (am)))))) (am))))) (ar (aH 12 eD.nd (aM (ul T) hr.le T.f_31 (ae (aJ bT (ac 7) (aj)) (ae (aJ cq (ac 7) (aj)) (ae (aL (aB hr.units1) (ac 11) (ac 8) (fun _ _=>rfl)) (am)))))) (ar (aH 13 eD.nd (aJ bT (aM (fc T) hr.le T.f_3 (ae (ac 1) (ae (aj) (am)))) (bg cx T.z_len Lc (ae (aL (aB hr.units1) (ac 11) (ac 8) (fun _ _=>rfl)) (am))))) (ar (aW (aT oLt (ac 6) (aj)) (ar (aH 14 eD.nd (aM (zZ T) hr.le T.f_10 (ae (ac 0) (ae (ac 9) (ae (ac 10) (ae (aL (aB hr.units1) (ac 11) (ac 8) (fun _ _=>rfl)) (ae (ac 13) (am)))))))) (ax (bI (aM (zt T) hr.le T.f_22 (ae (ac 4) (ae (ac 5) (ae (aM (zZ T) hr.le T.f_10 (ae (ac 0) (ae (ac 9) (ae (ac 10) (ae (ac 12) (ae (ac 13) (am))))))) (ae (ac 14) (am))))))))) (aX)) (ar (aH 15 eD.nd (aJ bp (aM (um T) hr.le T.f_8 (ae (ac 0) (ae (ac 9) (ae (ac 10) (ae (ac 12) (am)))))) (aM (um T) hr.le T.f_8 (ae (ac 0) (ae (aL (aB hr.units1) (aL (aB hr.units1) (ac 3) (aJ bP (aj) (ac 8)) (fun _ _=>rfl)) (aj) (fun _ _=>rfl)) (ae (ac 10) (ae (aL (aB hr.units1) (ac 11) (aJ bP (aj) (ac 8)) (fun _ _=>rfl)) (am)))))))) (ar (aH 16 eD.nd (aM (qr T) hr.le T.f_9 (ae (ac 0) (ae (ac 2) (ae (aL (aB hr.units1) (aL (aB hr.units1) (ac 3) (aj) (fun _ _=>rfl)) (aj) (fun _ _=>rfl)) (ae (aL (aB hr.units1) (aL (aB hr.units1) (ac 3) (aj) (fun _ _=>rfl)) (aj) (fun _ _=>rfl)) (am))))))) (ar (aH 15 eD.nd (aJ bp (ac 15) (aM (um T) hr.le T.f_8 (ae (ac 0) (ae (aL (aB hr.units1) (aL (aB hr.units1) (ac 3) (aj) (fun _ _=>rfl)) (aj) (fun _ _=>rfl)) (ae (aL (aB hr.units1) (aL (aB hr.units1) (ac 3) (aj) (fun _ _=>rfl)) (aj) (fun _ _=>rfl)) (ae (ac 16) (am)))))))) (ar (aH 17 eD.nd (aM (pN T) hr.le T.f_29 (ae (ac 0) (ae (eY) (ae (aL (aB hr.units1) (ac 3) (ac 8) (fun _ _=>rfl)) (ae (ac 10) (ae (ac 12) (am)))))))) (ax (aP (aM (DD T) hr.le T.f_7 (ae (ac 0) (ae (ac 15) (ae (ac 17) (ae (aL (aB hr.units1) (aL (aB hr.units1) (ac 3) (aj) (fun _ _=>rfl)) (aj) (fun _ _=>rfl)) (ae (gQ (bB hr.units150) (ac 6) (aj)) (am))))))))))))))))))))
theorem Gs:aV P w K mg base (CX1 P w) 78 A.a_54 A.d_54 ["_law_script"] (oS K A):=
 T.f_54.f.okS eM (BB K A) (GK T.1) fun _ _ _ _ _ _ hr=>
 ar (aH 1 eM.nd (aJ bT (aM (fc T) hr.le T.f_3 (ae (ac 0) (ae (aj) (am)))) (aj))) (ar (aH 2 eM.nd (jM)) (ar (aH 3 eM.nd (jM)) (ar (aH 4 eM.nd (aM (GN T) hr.le T.f_26 (ae (ac 1) (ae (aJ cq (aM (fc T) hr.le T.f_3 (ae (ac 0) (ae (aj) (am)))) (aj)) (ae (ac 2) (ae (ac 3) (am))))))) (ar (aH 5 eM.nd (aM (IS T) hr.le T.f_5 (ae (aM (fc T) hr.le T.f_3 (ae (ac 0) (ae (aj) (am)))) (am)))) (ar (aH 6 eM.nd (aM (zH T) hr.le T.f_17 (ae (aM (fc T) hr.le T.f_3 (ae (ac 0) (ae (aj) (am)))) (ae (ac 5) (am))))) (ar (aH 7 eM.nd (aM (zH T) hr.le T.f_17 (ae (aM (fc T) hr.le T.f_3 (ae (ac 0) (ae (aj) (am)))) (ae (ac 6) (am))))) (ar (aH 8 eM.nd (aJ bT (aM (fc T) hr.le T.f_3 (ae (ac 0) (ae (aj) (am)))) (ac 7))) (ar (aH 9 eM.nd (bg (JN rfl) T.z_sum boot_sum (ae (ip (ys:=[]) (by exact⟨rfl,by decide+kernel,by decide+kernel,rfl,by decide+kernel,by decide+kernel⟩) (by exact .nil) (ef (fj gh (ac 0) (eV (aj)) (eV (aj)))) (fun C s H fp=>ir) (fun C s H fp=>(aJ bT (ac 0) (aJ tu (aj) (aj))))) (am)))) (ar (aH 10 eM.nd (bv (ae (ac 9) (ae (cH (ae (ac 8) (ae (aJ bP (ac 6) (aj)) (ae (aJ bP (ac 7) (aj)) (am))))) (ae (aM (lU T) hr.le T.f_25 (ae (aM (fc T) hr.le T.f_3 (ae (ac 0) (ae (aj) (am)))) (am))) (am)))))) (ar (vi (ys:=["_law_stamper_here","_law_tree"]) 11 eM.nd (by exact⟨rfl,by decide+kernel,by decide+kernel,rfl,by decide+kernel,by decide+kernel⟩) (by exact .cons rfl (by first|exact .inl rfl|exact .inr rfl) rfl (.cons rfl (by first|exact .inl rfl|exact .inr rfl) rfl (.nil))) (ef (cH (ae (ac 5) (ae (ac 6) (ae (ac 7) (am)))))) (fun C s H fp=>ir) (fun C s H fp=>(aM (Hm T) hr.le T.f_14 (ae (ac 1) (ae (ac 2) (ae (ac 0) (am))))))) (ar (aW (dI (cS (aM (HB T) hr.le T.f_15 (ae (ac 4) (ae (ac 10) (ae (ac 11) (ae (ac 8) (am)))))))) (ax (aP (eY))) (aX)) (ar (aW (aT (bB hr.units150) (aJ bT (aM (fc T) hr.le T.f_3 (ae (ac 0) (ae (aj) (am)))) (aj)) (aj)) (ax (aP (aM (Gf T) hr.le T.f_21 (ae (ac 4) (ae (ac 0) (ae (ac 10) (ae (ac 11) (ae (ac 2) (ae (ac 3) (ae (ac 1) (am))))))))))) (aX)) (ax (aP (aM (Ir T) hr.le T.f_11 (ae (ac 4) (ae (ac 0) (ae (ac 10) (ae (ac 11) (ae (ac 2) (ae (ac 3) (ae (ac 1) (am)))))))))))))))))))))))
omit T
def ug (P:KI)(w:Lp)(K:pv)(mg:Str->Option tx)(fa:Addr):Prop:=∃(fd:Kz)(tabs:List (Addr×Addr))(sp:Sp),(∀(s:Km)(v:tx),RL s fd ⟨[v],[]⟩ [("_law_script",v)])/\Rh K=true/\(∀t∈tabs,∃y∈(["_law_weak","writing","counting","_law_planted"]:List Str),NW K y=some t)/\(∀base:Heap,K.In base->base.Ns mainGlobals mg->BM mg base->(∀t∈tabs,Nf base t.1 t.2)->aV P w K mg base (CX1 P w) 78 fa fd ["_law_script"] sp)/\∀(H:Hp)(a:Addr)(ns:List Int),ns.length<=63->(∀t∈tabs,H t.2=some (.tbl #[]))->SqL K H a (ns.map V.int)->sp [.ref a] H (fun v _=>v=.bl true) fun _ _ _=>False
theorem Fc (T:Txt K mg A)(nt:Rh K=true)(tb_33:NW K "_law_weak"=some (A.k_33,A.t_33))(tb_62:NW K "writing"=some (A.k_62,A.t_62))(tb_38:NW K "counting"=some (A.k_38,A.t_38))(tb_23:NW K "_law_planted"=some (A.k_23,A.t_23))(tdn:([A.t_33,A.t_62,A.t_38,A.t_23]:List Addr).Nodup):ug P w K mg A.a_54:=by
 refine⟨A.d_54,[(A.k_33,A.t_33),(A.k_62,A.t_62),(A.k_38,A.t_38),(A.k_23,A.t_23)],oS K A,T.f_54.f.bt,nt,?_,fun base _ _ B C=>?_,fun H a ns hl hO hS=>⟨a,ns,rfl,hS,hl,⟨hO (A.k_33,A.t_33) (by simp),hO (A.k_62,A.t_62) (by simp),hO (A.k_38,A.t_38) (by simp),hO (A.k_23,A.t_23) (by simp),tdn⟩,fun _=>rfl⟩⟩
 ·intro t ht
  simp only[KD,LL,or_false]at ht
  rcases ht with rfl|rfl|rfl|rfl
  ·exact⟨"_law_weak",by simp,tb_33⟩
  ·exact⟨"writing",by simp,tb_62⟩
  ·exact⟨"counting",by simp,tb_38⟩
  ·exact⟨"_law_planted",by simp,tb_23⟩
 ·exact Gs ⟨T,B,C (A.k_33,A.t_33) (by simp),C (A.k_62,A.t_62) (by simp),C (A.k_38,A.t_38) (by simp),C (A.k_23,A.t_23) (by simp)⟩
theorem EU {h:Heap}{fa:Addr}(X:K.In h)(G:h.Ns mainGlobals mg)(hfa:mg "law"=some (.ref fa)){x_52 x_50 x_51 x_55 x_64 x_2 x_3 x_33 x_62 x_1 x_38 x_23 x_26 x_5 x_17 x_28 x_25 x_12 x_30 x_14 x_19 x_45 x_47 x_36 x_46 x_44 x_43 x_35 x_60 x_53 x_40 x_59 x_42 x_0 x_41 x_48 x_61 x_49 x_58 x_57 x_56 x_29 x_9 x_15 x_18 x_31 x_4 x_27 x_32 x_20 x_22 x_8 x_16 x_37 x_7 x_21 x_13 x_6 x_10 x_11 x_54 y_Broken y_Numbers:Addr}{d0 d1 d2 d3 d4 d5 d6 d7 d8 d9 d10 d11 d12 d13 d14 d15 d16 d17 d18 d19 d20 d21 d22 d23 d24 d25 d26 d27 d28 d29 d30 d31 d32 d33 d34 d35 d36 d37 d38 d39 d40 d41 d42 d43 d44 d45 d46 d47 d48 d49 d50 d51 d52 d53 d54 d55 d56 d57 d58 d59 d60:Kz}{tc0:Tok}
  (bo_Numbers:NM K mainGlobals "Numbers"=some (some (.ref y_Numbers)))(bc_Broken:NM K mainGlobals "Broken"=some (some (.ref y_Broken)))(h0:Fa K "is_whole" "is_whole" xw x_52 d0)(h1:Fa K "is_stamp" "is_stamp" ze x_50 d1)(h2:Fa K "is_term" "is_term" yg x_51 d2)(h3:Fa K "part_form" "part_form" yl x_55 d3)(h4:Fa K "written" "written" yz x_64 d4)(a5:LI K (.ref y_Numbers) "number_of"=some (some (.ref x_2)))(h5:Fun K "number_of" "Numbers.number_of" s_2 x_2 d5)(fn5:RI K (.ref x_2)=true)(h6:Fa K "_law_cell_at" "_law_cell_at" s_3 x_3 d6)(h7:Fa K "_law_weak" "_law_weak" lf x_33 d7)(tb_33:(NW K "_law_weak").isSome=true)(h8:Fa K "writing" "writing" lh x_62 d8)(tb_62:(NW K "writing").isSome=true)(a9:LI K (.ref y_Numbers) "__init__"=some (some (.ref x_1)))(h9:Fun K "__init__" "Numbers.__init__" s_1 x_1 d9)(fn9:RI K (.ref x_1)=true)(h10:Fa K "counting" "counting" kW x_38 d10)(tb_38:(NW K "counting").isSome=true)(h11:Fa K "_law_planted" "_law_planted" kZ x_23 d11)(tb_23:(NW K "_law_planted").isSome=true)(h12:Fa K "_law_stamper" "_law_stamper" yP x_26 d12)(h13:Fa K "_law_count_by" "_law_count_by" s_5 x_5 d13)(h14:Fa K "_law_lesser" "_law_lesser" yH x_17 d14)(h15:Fa K "_law_text_by" "_law_text_by" zf x_28 d15)(h16:Fa K "_law_stamp_by" "_law_stamp_by" zc x_25 d16)(h17:Fa K "_law_half" "_law_half" xa x_12 d17)(h18:Fa K "_law_top" "_law_top" yb x_30 d18)(h19:Fa K "_law_head" "_law_head" zd x_14 d19)(h20:Fa K "_law_paper" "_law_paper" zq x_19 d20)(h21:Fa K "is_count" "is_count" xR x_45 d21)(h22:Fa K "is_head" "is_head" xW x_47 d22)(h23:Fa K "check_head" "check_head" xK x_36 d23)(h24:Fa K "is_elder" "is_elder" yK x_46 d24)(h25:Fa K "half" "half" xV x_44 d25)(h26:Fa K "growth_turns" "growth_turns" yC x_43 d26)(h27:Fa K "are_marks" "are_marks" wZ x_35 d27)(h28:Fa K "void_terms" "void_terms" xT x_60 d28)(h29:Fa K "joint" "joint" xv x_53 d29)(h30:Fa K "grown_terms" "grown_terms" yI x_40 d30)(h31:Fa K "step_marks" "step_marks" xB x_59 d31)(h32:Fa K "growth_terms" "growth_terms" zj x_42 d32)(a33:LI K (.ref y_Broken) "__init__"=some (some (.ref x_0)))(h33:Fun K "__init__" "Broken.__init__" s_0 x_0 d33)(fn33:RI K (.ref x_0)=true)(h34:Fa K "growth_answer" "growth_answer" mx x_41 d34)(h35:Fa K "is_place" "is_place" za x_48 d35)(h36:Fa K "ways" "ways" yk x_61 d36)(h37:Fa K "is_place_paper" "is_place_paper" yy x_49 d37)(h38:Fa K "place_terms" "place_terms" yM x_58 d38)(h39:Fa K "place_mark" "place_mark" xU x_57 d39)(h40:Fa K "place_answer" "place_answer" mZ x_56 d40)(h41:Fa K "_law_told" "_law_told" yq x_29 d41)(h42:Fa K "_law_growth" "_law_growth" s_9 x_9 d42)(h43:Fa K "_law_honest" "_law_honest" xg x_15 d43)(h44:Fa K "_law_near" "_law_near" yB x_18 d44)(h45:Fa K "_law_turned" "_law_turned" zi x_31 d45)(h46:Fa K "_law_changed" "_law_changed" s_4 x_4 d46)(h47:Fa K "_law_term" "_law_term" xu x_27 d47)(h48:Fa K "_law_way" "_law_way" xO x_32 d48)(h49:Fa K "_law_place_term" "_law_place_term" xC x_20 d49)(h50:Fa K "_law_plant" "_law_plant" ye x_22 d50)(h51:Fa K "_law_grown" "_law_grown" s_8 x_8 d51)(h52:Fa K "_law_is_clash" "_law_is_clash" xN x_16 d52)(h53:Fa K "clash" "clash" xn x_37 d53)(h54:Fa K "_law_good" "_law_good" s_7 x_7 d54)(h55:Fa K "_law_places" "_law_places" xL x_21 d55)(h56:Fa K "_law_hands" "_law_hands" xt x_13 d56)(h57:Fa K "_law_dealt" "_law_dealt" s_6 x_6 d57)(h58:Fa K "_law_growth_term" "_law_growth_term" xD x_10 d58)(h59:Fa K "_law_growths" "_law_growths" xy x_11 d59)(h60:Fa K "law" "law" yY x_54 d60)(pg_Numbers:Pu K y_Numbers My=true)(hd_Numbers:OT K y_Numbers=true)(po_Numbers:Si K y_Numbers=true)(sa_Numbers:LI K (.ref y_Numbers) "__setattr__"=some (some (.builtin "object.__setattr__")))(na_Numbers_given:LI K (.ref y_Numbers) "given"=some none)(mk_Numbers:TC K y_Numbers=true)(kc_Numbers:NV K (.ref y_Numbers)=true)(eo2_Broken:rg K y_Broken=true)(sa_Broken:LI K (.ref y_Broken) "__setattr__"=some (some (.builtin "object.__setattr__")))(hd_Broken:OT K y_Broken=true)(na_Broken_came:LI K (.ref y_Broken) "came"=some none)(na_Broken_due:LI K (.ref y_Broken) "due"=some none)(kc_Broken:NV K (.ref y_Broken)=true)(e0_Broken:LI K (.ref y_Broken) "__getattribute__"=some (some (.builtin "BaseException.__getattribute__")))(e1_Broken:LI K (.ref y_Broken) "__getattr__"=some none)(e2_Broken:LI K (.ref y_Broken) "__class__"=some (some (.builtin "object.__class__")))(em0_Broken:Pw K y_Broken (.type "object")=some true)(em1_Broken:Pw K y_Broken (.type "BaseException")=some true)(sb_Broken_Broken:Pw K y_Broken (.ref y_Broken)=some true)(z_all:NM K mainGlobals "all"=some none)(z_bool:NM K mainGlobals "bool"=some none)(z_int:NM K mainGlobals "int"=some none)(z_isinstance:NM K mainGlobals "isinstance"=some none)(z_len:NM K mainGlobals "len"=some none)(z_list:NM K mainGlobals "list"=some none)(z_range:NM K mainGlobals "range"=some none)(z_reversed:NM K mainGlobals "reversed"=some none)(z_str:NM K mainGlobals "str"=some none)(z_sum:NM K mainGlobals "sum"=some none)(z_tuple:NM K mainGlobals "tuple"=some none)(z_zip:NM K mainGlobals "zip"=some none)(c_MOST_PARTS:NM K mainGlobals "MOST_PARTS"=some (some (.int 8 tc0)))(nt:Rh K=true)(td:nK K ["_law_weak","writing","counting","_law_planted"]=true):ug P w K mg fa:=by
 cases hfa.symm.trans (NN X G h60.m)
 obtain⟨⟨z_33,t_33⟩,tb_33⟩:=Lk.mp tb_33
 obtain⟨⟨z_62,t_62⟩,tb_62⟩:=Lk.mp tb_62
 obtain⟨⟨z_38,t_38⟩,tb_38⟩:=Lk.mp tb_38
 obtain⟨⟨z_23,t_23⟩,tb_23⟩:=Lk.mp tb_23
 have tdn:([t_33,t_62,t_38,t_23]:List Addr).Nodup:=yQ (by unfold nK at td;simp only[KZ,Pn,tb_33,tb_62,tb_38,tb_23,NE]at td;exact of_decide_eq_true td)
 exact Fc (A:=⟨x_52,d0,x_50,d1,x_51,d2,x_55,d3,x_64,d4,x_2,d5,x_3,d6,x_33,d7,x_62,d8,x_1,d9,x_38,d10,x_23,d11,x_26,d12,x_5,d13,x_17,d14,x_28,d15,x_25,d16,x_12,d17,x_30,d18,x_14,d19,x_19,d20,x_45,d21,x_47,d22,x_36,d23,x_46,d24,x_44,d25,x_43,d26,x_35,d27,x_60,d28,x_53,d29,x_40,d30,x_59,d31,x_42,d32,x_0,d33,x_41,d34,x_48,d35,x_61,d36,x_49,d37,x_58,d38,x_57,d39,x_56,d40,x_29,d41,x_9,d42,x_15,d43,x_18,d44,x_31,d45,x_4,d46,x_27,d47,x_32,d48,x_20,d49,x_22,d50,x_8,d51,x_16,d52,x_37,d53,x_7,d54,x_21,d55,x_13,d56,x_6,d57,x_10,d58,x_11,d59,fa,d60,z_33,t_33,z_62,t_62,z_38,t_38,z_23,t_23,y_Broken,y_Numbers⟩) ⟨h0.fm1 X G,h1.fm1 X G,h2.fm1 X G,h3.fm1 X G,h4.fm1 X G,h5,h5.b2,h6.fm2 X G,h7.fm1 X G,h8.fm0 X G,h9,h9.b1,h10.fm0 X G,h11.fm3 X G,h12.fm4 X G,h13.fm1 X G,h14.fm2 X G,h15.fm1 X G,h16.fm1 X G,h17.fm1 X G,h18.fm4 X G,h19.fm3 X G,h20.fm3 X G,h21.fm1 X G,h22.fm1 X G,h23.fm1 X G,h24.fm2 X G,h25.fm1 X G,h26.fm2 X G,h27.fm2 X G,h28.fm1 X G,h29.fm3 X G,h30.fm4 X G,h31.fm2 X G,h32.fm4 X G,h33,h33.b3,h34.fm4 X G,h35.fm2 X G,h36.fm2 X G,h37.fm2 X G,h38.fm4 X G,h39.fm4 X G,h40.fm4 X G,h41.fm5 X G,h42.fm4 X G,h43.fm4 X G,h44.fm1 X G,h45.fm3 X G,h46.fm3 X G,h47.fm6 X G,h48.fm2 X G,h49.fm5 X G,h50.fm4 X G,h51.fm4 X G,h52.fm3 X G,h53.fm2 X G,h54.fm5 X G,h55.fm7 X G,h56.fm2 X G,h57.fm2 X G,h58.fm5 X G,h59.fm7 X G,h60.fm1 X G,Mo X G z_all,Mo X G z_bool,Mo X G z_int,Mo X G z_isinstance,Mo X G z_len,Mo X G z_list,Mo X G z_range,Mo X G z_reversed,Mo X G z_str,Mo X G z_sum,Mo X G z_tuple,Mo X G z_zip,⟨_,NN X G c_MOST_PARTS⟩,h7.code X G tb_33,h8.code X G tb_62,h10.code X G tb_38,h11.code X G tb_23,NN X G bc_Broken,eo2_Broken,⟨e0_Broken,e1_Broken,e2_Broken,em0_Broken,em1_Broken⟩,⟨eo2_Broken,sa_Broken,⟨e0_Broken,e1_Broken,e2_Broken,em0_Broken,em1_Broken⟩,na_Broken_came,hd_Broken⟩,⟨eo2_Broken,sa_Broken,⟨e0_Broken,e1_Broken,e2_Broken,em0_Broken,em1_Broken⟩,na_Broken_due,hd_Broken⟩,⟨eo2_Broken,a33,fn33,kc_Broken⟩,yx sb_Broken_Broken,NN X G bo_Numbers,⟨pg_Numbers,hd_Numbers,po_Numbers,sa_Numbers⟩,na_Numbers_given,⟨a5,fn5,h5.kp⟩,⟨mk_Numbers,a9,fn9,kc_Numbers⟩⟩ nt tb_33 tb_62 tb_38 tb_23 tdn
theorem Jk {l:W.OpenLaw}{q:KI}{loose:List Str}{XP:(Str->Option tx)->Heap->Prop}{YP:Lp->Heap->Prop}{d:DefRec}{K:Params->pv}(hn:l.most=some 63)(hdf:d.params.defaults=[])
  (hY:∀(w:Lp)(h:Heap),YP w h->(K w.params).In h)(hq:∀y∈(["_law_weak","writing","counting","_law_planted"]:List Str),((PL q).find? fun e=>e.name==y).isSome=true)
  (F:∀(w:Lp)(mg:Str->Option tx)(fa:Addr)(h:Heap),(K w.params).In h->h.Ns mainGlobals mg->mg d.name=some (.ref fa)->ug l.prog w (K w.params) mg fa):
  W.WalkO q loose XP YP l.row.toRowW d [] (fun f vs=>RG f vs):=
 L2.yX (n:=63) (k:=78) (x:="_law_script") (CX:=fun w=>CX1 l.prog w) hn (by decide) hdf ⟨rfl,by decide,by decide⟩ hY hq F fun _ _ _ _ _ ⟨_,_,_,_,_,_,z⟩=>z
end
end Rs
def PySem.W.Fast.tw5494536257455381980:Unit:=()
def PySem.W.Fast.tw15455558702964633480:Unit:=()
def PySem.W.Fast.tw1768834431526692761:Unit:=()
def PySem.W.Fast.tw5747027511104820640:Unit:=()
def PySem.W.Fast.tw11126552610779252713:Unit:=()
def PySem.W.Fast.tw13438116451542276704:Unit:=()
def PySem.W.Fast.tw15186614784205018458:Unit:=()
def PySem.W.Fast.tw15402443657988238347:Unit:=()
def PySem.W.Fast.tw5194597950860010055:Unit:=()
def PySem.W.Fast.tw3849344805334071386:Unit:=()
def PySem.W.Fast.tw15937497413498464887:Unit:=()
def PySem.W.Fast.tw16355106335637561297:Unit:=()
def PySem.W.Fast.tw10395835026521945241:Unit:=()
def PySem.W.Fast.tw2162975036376479027:Unit:=()
def PySem.W.Fast.tw5304626094586073063:Unit:=()
def PySem.W.Fast.tw14711361736944482084:Unit:=()
def PySem.W.Fast.tw16350373412016219212:Unit:=()
def PySem.W.Fast.tw5726055754800086257:Unit:=()
def PySem.W.Fast.tw10736026744449170363:Unit:=()
def PySem.W.Fast.tw15033398630339915115:Unit:=()
def PySem.W.Fast.tw2507165537714504906:Unit:=()
def PySem.W.Fast.tw17411821336920421548:Unit:=()
def PySem.W.Fast.tw14476899689444154880:Unit:=()
def PySem.W.Fast.tw13838656709756752341:Unit:=()
def PySem.W.Fast.tw6957209768738328683:Unit:=()
def PySem.W.Fast.tw2124489795084059009:Unit:=()
def PySem.W.Fast.tw5373888400047831917:Unit:=()
def PySem.W.Fast.tw5797247569507004641:Unit:=()
def PySem.W.Fast.tw14649966824773382412:Unit:=()
def PySem.W.Fast.tw3786344645801200840:Unit:=()
def PySem.W.Fast.tw18340543594327490240:Unit:=()
def PySem.W.Fast.tw7207977147242594257:Unit:=()
def PySem.W.Fast.tw1822498773493589989:Unit:=()
def PySem.W.Fast.tw4694825268937497145:Unit:=()
def PySem.W.Fast.tw14698205562172997167:Unit:=()
def PySem.W.Fast.tw13244582427594672863:Unit:=()
def PySem.W.Fast.tw17690655120168366235:Unit:=()
def PySem.W.Fast.tw12954218801418533805:Unit:=()
def PySem.W.Fast.tw10888907183622295271:Unit:=()
def PySem.W.Fast.tw11008128455351333427:Unit:=()
def PySem.W.Fast.tw16615098178145017427:Unit:=()
def PySem.W.Fast.tw14671935409518863341:Unit:=()
def PySem.W.Fast.tw3750102685174322682:Unit:=()
def PySem.W.Fast.tw3887092048752822065:Unit:=()
def PySem.W.Fast.tw4862441934284076898:Unit:=()
def PySem.W.Fast.tw10929854346798340423:Unit:=()
def PySem.W.Fast.tw15684673782537679693:Unit:=()
def PySem.W.Fast.tw9182592867714162036:Unit:=()
def PySem.W.Fast.tw10154795103410443263:Unit:=()
def PySem.W.Fast.tw3278588587833872608:Unit:=()
def PySem.W.Fast.tw160027657409018945:Unit:=()
def PySem.W.Fast.tw16777031848619133791:Unit:=()
def PySem.W.Fast.tw13038444131977091348:Unit:=()
def PySem.W.Fast.tw18275663364228866881:Unit:=()
def PySem.W.Fast.tw11219497720899206974:Unit:=()
def PySem.W.Fast.tw13171910595656651935:Unit:=()
def PySem.W.Fast.tw2341586707287909542:Unit:=()
def PySem.W.Fast.tw6260158853050019385:Unit:=()
def PySem.W.Fast.tw8853668608105698652:Unit:=()
def PySem.W.Fast.tw10479907516096569348:Unit:=()
def PySem.W.Fast.tw1075049977270224280:Unit:=()
def PySem.W.Fast.tw15911474278998461613:Unit:=()
open PySem PySem.W PyProof.Rows
set_option maxRecDepth 100000 in
set_option maxHeartbeats 0 in
theorem PySem.Challenge.cw_rootstamp_k50_whole_places_and_growths_holds : PySem.Challenge.rw_rootstamp_k50_whole_places_and_growths.Holds := by
 w_on; o_law; k_head; (case hw => w_witness2)
 k_fill
 refine Rs.Jk (l := PySem.Challenge.rw_rootstamp_k50_whole_places_and_growths) rfl rfl (fun w h Y => by first | exact PySem.W.kIn_of Y | exact PySem.W.km_in_of Y) (by decide +kernel) ?F
 case F =>
  intro w mg fa h KX G hmg
  refine' Rs.EU KX G hmg ?bo_Numbers ?bc_Broken (L2.aZ ?a0 ?l0 ?c0 ?k0) (L2.aZ ?a1 ?l1 ?c1 ?k1) (L2.aZ ?a2 ?l2 ?c2 ?k2) (L2.aZ ?a3 ?l3 ?c3 ?k3) (L2.aZ ?a4 ?l4 ?c4 ?k4) ?a5 (L2.lJ ?l5 ?c5 ?k5) ?fn5 (L2.aZ ?a6 ?l6 ?c6 ?k6) (L2.aZ ?a7 ?l7 ?c7 ?k7) ?tb_33 (L2.aZ ?a8 ?l8 ?c8 ?k8) ?tb_62 ?a9 (L2.lJ ?l9 ?c9 ?k9) ?fn9 (L2.aZ ?a10 ?l10 ?c10 ?k10) ?tb_38 (L2.aZ ?a11 ?l11 ?c11 ?k11) ?tb_23 (L2.aZ ?a12 ?l12 ?c12 ?k12) (L2.aZ ?a13 ?l13 ?c13 ?k13) (L2.aZ ?a14 ?l14 ?c14 ?k14) (L2.aZ ?a15 ?l15 ?c15 ?k15) (L2.aZ ?a16 ?l16 ?c16 ?k16) (L2.aZ ?a17 ?l17 ?c17 ?k17) (L2.aZ ?a18 ?l18 ?c18 ?k18) (L2.aZ ?a19 ?l19 ?c19 ?k19) (L2.aZ ?a20 ?l20 ?c20 ?k20) (L2.aZ ?a21 ?l21 ?c21 ?k21) (L2.aZ ?a22 ?l22 ?c22 ?k22) (L2.aZ ?a23 ?l23 ?c23 ?k23) (L2.aZ ?a24 ?l24 ?c24 ?k24) (L2.aZ ?a25 ?l25 ?c25 ?k25) (L2.aZ ?a26 ?l26 ?c26 ?k26) (L2.aZ ?a27 ?l27 ?c27 ?k27) (L2.aZ ?a28 ?l28 ?c28 ?k28) (L2.aZ ?a29 ?l29 ?c29 ?k29) (L2.aZ ?a30 ?l30 ?c30 ?k30) (L2.aZ ?a31 ?l31 ?c31 ?k31) (L2.aZ ?a32 ?l32 ?c32 ?k32) ?a33 (L2.lJ ?l33 ?c33 ?k33) ?fn33 (L2.aZ ?a34 ?l34 ?c34 ?k34) (L2.aZ ?a35 ?l35 ?c35 ?k35) (L2.aZ ?a36 ?l36 ?c36 ?k36) (L2.aZ ?a37 ?l37 ?c37 ?k37) (L2.aZ ?a38 ?l38 ?c38 ?k38) (L2.aZ ?a39 ?l39 ?c39 ?k39) (L2.aZ ?a40 ?l40 ?c40 ?k40) (L2.aZ ?a41 ?l41 ?c41 ?k41) (L2.aZ ?a42 ?l42 ?c42 ?k42) (L2.aZ ?a43 ?l43 ?c43 ?k43) (L2.aZ ?a44 ?l44 ?c44 ?k44) (L2.aZ ?a45 ?l45 ?c45 ?k45) (L2.aZ ?a46 ?l46 ?c46 ?k46) (L2.aZ ?a47 ?l47 ?c47 ?k47) (L2.aZ ?a48 ?l48 ?c48 ?k48) (L2.aZ ?a49 ?l49 ?c49 ?k49) (L2.aZ ?a50 ?l50 ?c50 ?k50) (L2.aZ ?a51 ?l51 ?c51 ?k51) (L2.aZ ?a52 ?l52 ?c52 ?k52) (L2.aZ ?a53 ?l53 ?c53 ?k53) (L2.aZ ?a54 ?l54 ?c54 ?k54) (L2.aZ ?a55 ?l55 ?c55 ?k55) (L2.aZ ?a56 ?l56 ?c56 ?k56) (L2.aZ ?a57 ?l57 ?c57 ?k57) (L2.aZ ?a58 ?l58 ?c58 ?k58) (L2.aZ ?a59 ?l59 ?c59 ?k59) (L2.aZ ?a60 ?l60 ?c60 ?k60) ?pg_Numbers ?hd_Numbers ?po_Numbers ?sa_Numbers ?na_Numbers_given ?mk_Numbers ?kc_Numbers ?eo2_Broken ?sa_Broken ?hd_Broken ?na_Broken_came ?na_Broken_due ?kc_Broken ?e0_Broken ?e1_Broken ?e2_Broken ?em0_Broken ?em1_Broken ?sb_Broken_Broken ?z_all ?z_bool ?z_int ?z_isinstance ?z_len ?z_list ?z_range ?z_reversed ?z_str ?z_sum ?z_tuple ?z_zip ?c_MOST_PARTS ?nt ?td
  case bo_Numbers | bc_Broken | a0 | l0 | c0 | k0 | a1 | l1 | c1 | k1 | a2 | l2 | c2 | k2 | a3 | l3 | c3 | k3 | a4 | l4 | c4 | k4 | a5 | l5 | c5 | k5 | fn5 | a6 | l6 | c6 | k6 | a7 | l7 | c7 | k7 => k_is
  case tb_33 => kernel_rfl
  case a8 | l8 | c8 | k8 => k_is
  case tb_62 => kernel_rfl
  case a9 | l9 | c9 | k9 | fn9 | a10 | l10 | c10 | k10 => k_is
  case tb_38 => kernel_rfl
  case a11 | l11 | c11 | k11 => k_is
  case tb_23 => kernel_rfl
  case a12 | l12 | c12 | k12 | a13 | l13 | c13 | k13 | a14 | l14 | c14 | k14 | a15 | l15 | c15 | k15 | a16 | l16 | c16 | k16 | a17 | l17 | c17 | k17 | a18 | l18 | c18 | k18 | a19 | l19 | c19 | k19 | a20 | l20 | c20 | k20 | a21 | l21 | c21 | k21 | a22 | l22 | c22 | k22 | a23 | l23 | c23 | k23 | a24 | l24 | c24 | k24 | a25 | l25 | c25 | k25 | a26 | l26 | c26 | k26 | a27 | l27 | c27 | k27 | a28 | l28 | c28 | k28 | a29 | l29 | c29 | k29 | a30 | l30 | c30 | k30 | a31 | l31 | c31 | k31 | a32 | l32 | c32 | k32 | a33 | l33 | c33 | k33 | fn33 | a34 | l34 | c34 | k34 | a35 | l35 | c35 | k35 | a36 | l36 | c36 | k36 | a37 | l37 | c37 | k37 | a38 | l38 | c38 | k38 | a39 | l39 | c39 | k39 | a40 | l40 | c40 | k40 | a41 | l41 | c41 | k41 | a42 | l42 | c42 | k42 | a43 | l43 | c43 | k43 | a44 | l44 | c44 | k44 | a45 | l45 | c45 | k45 | a46 | l46 | c46 | k46 | a47 | l47 | c47 | k47 | a48 | l48 | c48 | k48 | a49 | l49 | c49 | k49 | a50 | l50 | c50 | k50 | a51 | l51 | c51 | k51 | a52 | l52 | c52 | k52 | a53 | l53 | c53 | k53 | a54 | l54 | c54 | k54 | a55 | l55 | c55 | k55 | a56 | l56 | c56 | k56 | a57 | l57 | c57 | k57 | a58 | l58 | c58 | k58 | a59 | l59 | c59 | k59 | a60 | l60 | c60 | k60 | pg_Numbers | hd_Numbers | po_Numbers | sa_Numbers | na_Numbers_given | mk_Numbers | kc_Numbers => k_is
  case eo2_Broken => kernel_rfl
  case sa_Broken | hd_Broken | na_Broken_came | na_Broken_due | kc_Broken | e0_Broken | e1_Broken | e2_Broken | em0_Broken | em1_Broken | sb_Broken_Broken | z_all | z_bool | z_int | z_isinstance | z_len | z_list | z_range | z_reversed | z_str | z_sum | z_tuple | z_zip | c_MOST_PARTS => k_is
  case nt | td => kernel_rfl
