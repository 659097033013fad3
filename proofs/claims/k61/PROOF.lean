import PyProof.Rows.All
import Wide.All
import OpenK.AllK
import Wide.FinOn
import Lean
import PyProof.EqAt
import PyProof.EqKinds
import PyProof.TupleCall
import PyProof.P3In
import KE.KDictLaws
import KE.KTabLook
import KE.KRevIter
import KE.KItemsList
import PyProof.TupleOfGen
import KE.KSortTup
import KE.KDictSum
import KE.KEqDict
import PyProof.EnumMake
import PyProof.EnumFor
import PyProof.EnumStmt
import PyProof.AttrMissHeap
import KE.KDictOf
import PyProof.Rows.SortShell
import KE.KDictList
import PyProof.Rows.StrJoinRep
import PyProof.NeKinds
import KE.KUnpack
import PySem.Challenge.RW_rootstamp_k61_what_a_desk_hears
set_option genSizeOf false
set_option compiler.extract_closed false
set_option Elab.async false
set_option linter.all false
set_option maxRecDepth 100000
set_option maxHeartbeats 4000000
open Array renaming length_toList->OB,getElem?_eq_some_iff->OI,getElem?_eq_getElem->OM,append_assoc->Qb,getElem?_setIfInBounds_ne->Qp,all_eq_true->Sn,toList->TN
open Bool renaming and_eq_true_iff->LX,false_ne_true->Mo,and_eq_true->MF,eq_iff_iff->OF,and_false->PP,false_eq_true->Qk,true_and->Rx,or_true->RH,false_and->Tw,false_or->TK
open Classical renaming byContradiction->OA
open False renaming elim->MB
open ForInStep renaming yield->RX
open Int renaming emod_nonneg->NC,eq_ofNat_of_zero_le->NI,emod_lt_of_pos->NN,ofNat_sub->Of,toNat_natCast->Oq,toNat_of_nonneg->Qa,ne_of_gt->RW
open LawfulBEq renaming eq_of_beq->SW
open LawfulMonad renaming pure_bind->SV
open List renaming getElem?_eq_getElem->LV,mem_cons->LZ,length_cons->Mb,size_toArray->Me,length_map->Mf,getElem?_eq_some_iff->Mh,getD_eq_getElem?_getD->Mi,mem_singleton->Mj,mem_cons_of_mem->Mm,not_mem_nil->Mp,length_append->Mr,map_cons->My,mem_of_getElem?->Mz,map_append->MC,mem_cons_self->MD,getElem?_map->ME,mem_append_right->MJ,getElem?_append_right->MK,nodup_cons->MQ,getElem?_append_left->MT,append_nil->MU,filterMap_cons->MW,mem_append->MX,all_eq_true->Na,lookup->Nc,mem_map->Nf,getElem_mem->Nj,of_mem_zip->Nm,lookup_cons->Nr,getElem?_eq_none->Nu,getElem?_take_of_lt->NB,reverse_cons->NS,length_take->NX,length_reverse->NY,sum_cons->Od,find?_cons->Oe,zip->Oo,take_length->Ox,range->Oz,singleton_inj->OL,append_assoc->OS,append_inj'->Pg,getElem?_set_self->Pl,length_zip->Pq,length_replicate->Pr,getElem?_reverse->Ps,dropLast_eq_take->Pt,mem_append_left->Pz,length_dropLast->PB,getElem?_set_ne->PC,mem_range->PM,drop_zero->PN,contains_cons->Qi,all_cons->Qj,take_add_one->Qt,map_nil->QB,map_map->QC,length_drop->QG,length->QU,replicate->Ri,drop_eq_getElem_cons->Rj,getElem?_replicate->Rv,any_cons->Rw,lookup_cons_self->RE,length_singleton->RF,all_map->RG,reverse_reverse->RU,mem_iff_getElem->RV,mem_filterMap->Sm,take_sublist->Sr,find?_append->Ss,ext_getElem?->Sv,all_eq_false->Sw,mem_reverse->SQ,getElem_inj->SR,cons_append->SU,range_succ->Tf,nil_append->Tg,mem_filter->Th,length_nil->Tj,forIn_cons->Tl,map_take->TF,map_drop->TJ
open List.Pairwise renaming of_map->Uu,nil->Uv
open List.cons renaming inj->QN
open Nat renaming le_refl->pv,lt_of_lt_of_le->Mg,ne_of_lt->Ml,le_trans->Mv,zero_le->MS,lt_of_le_of_lt->MY,lt_irrefl->Nd,le_succ->NQ,pow_le_pow_right->NU,le_of_lt->Ob,pow_lt_pow_iff_right->OV,log2->Pf,lt_succ_self->Ph,log2_self_le->Pj,sub_self->QD,le_of_eq->QF,min_le_right->QL,sub_zero->RS,ne_of_gt->RT,log2_lt->Sl,min_le_left->Tu,min_eq_left->Tv
open Ne renaming symm->Md
open Option renaming isSome_iff_exists->Mt,map_some->Oy,isSome_map->Qh,map_eq_some_iff->Rr,getD_some->Sj,getD_none->Sk,none->TD
open Option.some renaming inj->LW
open Or renaming inr->SO
open Prod renaming ext->TC
open PyProof.Rows renaming boot_isinstance->MA,slot_tuple_getitem->MO,callWith_type1->Ni,AllBare->Pe,boot_tuple->Qg,recsOf->QR,subscriptTail_builtinR->Sq,entry_tuple_getitem->Ts,IntsAre->Tt,args_tuple_getitem->TB,IsTup->Ut
open PyProof.Rows.IsTup renaming new->SM
open PySem renaming wpAny_bind->gV,Value->tx,Shared->If,wpAny_pure->LY,FuncData->Mc,Program->Ms,Around->Mw,wpAny_mono->Mx,World->MG,wpAny_loadPart_at->MN,boot_len->MP,wpAny_Call_Name_kw->MV,mem_of_lookup->Nb,wpAny_holding->Nn,wpAny_truthy_bool->Nq,codeAny_mono->Nw,NameKind->NG,wpAny_isSubtype_exc->NJ,strLen_append->NK,sizeLine_eq->NL,tupleKind_room_in1->NR,wpAny_passesOwn->NT,wpAny_newObj_type->NV,wpAny_standAt->Ol,wpAny_execs_nil->Om,wpAny_call_entry->OG,codeAny_call_builtin->OJ,wpAny_call->ON,wpAny_field->OQ,atKey_none_of_get->Pm,wpAny_callSpecial?_slot->Pu,GenState->Pw,ExceptHandler->Px,wpAny_execs_cons->Py,wpAny_loadPart'->PU,codeAny_call_function->PV,Builtin->PZ,wpAny_newFunctionEnv->Ql,wpAny_loadPart->Qq,Within->Qr,Result->Qs,wpAny_assign_Name->QV,plainObj_wpAny_Assign_Attribute->QX,PlainAttrs->QZ,wpAny_typeOf->Ra,IsPart->Rc,wpAny_lookBehind->Rk,pastItsLine_dict->Rl,noFill_tuple_add->Rm,wpAny_specialOf->Ry,ofString_length->Rz,wpAny_newFunctionEnv_cells->RB,isSubtype_type->RI,wpAny_comprehension_free->RY,seq_tuple_add->Se,call->Sf,BindsTo->Si,wpAny_nsSet1->Sx,wpAny_notOrdered_dict->Sy,seqIndex_neg->Sz,concat_meets->SC,codeAny_func->SD,call_meetsIn->SE,builtinLookup_eq_fast->SG,PyData->SI,PassesOwn->SJ,Model->SK,CmpOp->SL,storedH_new->Tn,seqIndex_of->To,kt_meets_setdefault->Tp,IntMulOk->Tx,wpAny_sequenceKey->TQ,wpAny_pyIter_list->TR,wpAny_dictEntries->TU,wpAny_Return_some->TV,wpAny_Name->TX,typeIs_str->TY,call_meets->TZ
open PySem.Around renaming under->Ru,frames_deeper->RA
open PySem.Builtin.Dict renaming keyAndDefault->PY
open PySem.Builtin.Int renaming intBits->MH
open PySem.Builtin.List renaming listExtendWith->NH,listSameRef->Qo,listItems->Qz
open PySem.Builtin.Range renaming rangeSize->Us
open PySem.Builtin.Slice renaming slicePlaces->NM,sliceAdjust->Ov,sliceApplied->PR,slicePartIndex->Uq,sliceFields->Ur
open PySem.Builtin.Str renaming occurrences->Qy
open PySem.Builtin.Tuple renaming tupleExact->NO,tupleItemsOf->PQ,tupleIsExact->Up
open PySem.Calls renaming Name_function_global->OH,loadGlobal_global->Rq,callWith_builtin->Rt,spliced_cons->Sd,spliced_nil->Sh
open PySem.Code renaming quiet_builtin->Qf,isFrame->RD
open PySem.Data renaming fields->Sb
open PySem.EntryCells renaming newEntry->Rh
open PySem.EqMixed renaming ne_str_int->Ug,ne_str_bool->Uh,ne_int_str->Ui,ne_bool_str->Uj,eq_str_int->Uk,eq_str_bool->Ul,eq_int_str->Um,eq_bool_str->Uo
open PySem.F renaming slot_list_append->MI,type_list_append->MM,plainAttrs_list->MR,slot_dict_setdefault->Nk,args_dict_setdefault_3->NA,entry_dict_setdefault->NF,excBase_ValueError->OD,excAttr_ValueError->OE,args_tuple_add_2->OK,entry_tuple_add->OR,slot_tuple_add->OU,typeOf_object_class->PL,type_int_bit_length->Qw,slot_int_bit_length->Qx,slot_str_ascii_iterator_iter->QQ,plainAttrs_str->Rf,plainAttrs_int->Rg,type_str_join->Ro,slot_str_join->Rp,slot_gs_get->RQ,slot_tuple_eq_refl->So,slot_dict_len->Ud,entry_bexc_ga->Ue
open PySem.Heap renaming get?_push_of_some->Lt,lt_size->Ma,get?_push_size->Mu,get?_update_other->Np,get?_update_self->Nt,SameBut->Oa,size_push->Re,get?_none_of_le->RP,get?_update_ne->Sa
open PySem.Heap.IsSliceOf renaming new->Tz
open PySem.Heap.Ns1 renaming of_empty->RC
open PySem.Heap.SameBut renaming update->OW
open PySem.IntMulOk renaming of_left->Qe
open PySem.NameKind renaming free->Nz,cell->OP
open PySem.Obj renaming mapSeq->OT,mapFields->Pd,data_mapFields->Qn,isFreed_of_fields->RO,data_mapDictKeys->RZ
open PySem.PassesOwn renaming never->NW
open PySem.PyData renaming depthAll->Nv,canLayAll0->OO,eqv->Qd,eqvAll->Td,strOk->Tr
open PySem.SeqAt renaming eqv_refl->Og
open PySem.SeqAt.EqAt renaming int_int->PJ,str_int->Qu,int_str->Qv,str_str->Tc
open PySem.Str renaming empty->Nl,ofString->Ou,length->QK,empty_append->Ta,append_empty->Tb
open PySem.Value renaming ref->Mn,builtin->NE,bool->NP,none->Oj,str->On,int->PX,type->Rb,float->RN,isStrOf->Tq,isInt->Ub,bytes->Uc
open PySem.Value.type renaming inj->RM
open PySem.W renaming Frag->cW,kitOne->Gt,findIn->Mq,mroIn->ML,CodeHd->MZ,mg_none_of->Nh,mg_of->Nx,nsIn->Ny,tabIn->ND,kia_one->NZ,emptyDict->Oc,keepIn->Oh,fnOf->Oi,hasDictIn->Ot,hideAll_none->Ow,envX->OC,plainGet->Pa,isFn->Pb,instObj->Pc,plainGet_of->Pn,hideAll_get->Po,excIn->Pp,methodCall_KW->PD,callWith_K->PF,looks_findIn->Qc,plainOver->Qm,cellsFrom_some->QY,makesIn->Rn,tabObj->RJ,noTabs->RK,callWith_K0->RL,of_hideAll->Sg,methodObj->SH,lookIn->SY,codeIn->SZ,takerIn->Ua,InstAt->SN
open PySem.Within renaming cons->QP
open Sum renaming inr->OX,inl->OZ
open True renaming intro->Ng
namespace L2
open PySem PySem.Spec PyProof.Rows
abbrev Key:=Sum Int Str
def ls:Key->tx->Bool
 |.inl k,v=>Ub k v
 |.inr x,v=>Tq x v
def Ku (w:MG):Key->Int
 |.inl k=>hashInt k
 |.inr x=>hashStr w x
theorem cM:∀{k:Key}{v:tx},ls k v=true->(∃i t,k=OZ i/\v=PX i t)\/(∃x t,k=OX x/\v=On x t)
 |.inl i,v,h=>by
  obtain⟨t,e⟩:=Value.isInt_shape (k:=i) (v:=v) h
  exact .inl ⟨i,t,rfl,e⟩
 |.inr x,v,h=>by
  obtain⟨t,e⟩:=Value.isStrOf_shape (x:=x) (v:=v) h
  exact .inr ⟨x,t,rfl,e⟩
def wF (i:Int)(t:Tok):ls (.inl i) (.int i t)=true:=by simp[ls,Ub]
def wM (x:Str)(t:Tok):ls (.inr x) (.str x t)=true:=by simp[ls,Tq]
def Fw (a b:Int):decide ((OZ a:Key)=OZ b)=(a==b):=by
 by_cases e:a=b
 ·subst e;simp
 ·have h:¬(OZ a:Key)=OZ b:=fun q=>e (Sum.inl.inj q)
  rw[decide_eq_false h]
  exact(beq_eq_false_iff_ne.mpr e).symm
def BR (a b:Str):decide ((OX a:Key)=OX b)=decide (a=b):=by
 by_cases e:a=b
 ·subst e;simp
 ·have h:¬(OX a:Key)=OX b:=fun q=>e (Sum.inr.inj q)
  rw[decide_eq_false h,decide_eq_false e]
def DJ (a:Int)(b:Str):decide ((OZ a:Key)=OX b)=false:=decide_eq_false (fun q=>nomatch q)
def DE (a:Str)(b:Int):decide ((OX a:Key)=OZ b)=false:=decide_eq_false (fun q=>nomatch q)
def cJ (prog:Ms)(w:MG):PySem.KeyKind prog w Key where
 is:=ls
 hash:=Ku w
 inj:=fun v a b ha hb=>by
  rcases cM ha with⟨i,t,rfl,rfl⟩|⟨x,t,rfl,rfl⟩
  ·rcases cM hb with⟨j,u,rfl,e⟩|⟨y,u,rfl,e⟩
   ·injection e with e1 _;rw[e1]
   ·exact nomatch e
  ·rcases cM hb with⟨j,u,rfl,e⟩|⟨y,u,rfl,e⟩
   ·exact nomatch e
   ·injection e with e1 _;rw[e1]
 byValue:=fun k v h=>by
  rcases cM h with⟨i,t,rfl,rfl⟩|⟨x,t,rfl,rfl⟩<;>rfl
 pyHash:=fun hv h=>by
  rcases cM hv with⟨i,t,rfl,rfl⟩|⟨x,t,rfl,rfl⟩
  ·exact wpAny_pyHash_int h
  ·exact wpAny_pyHash_str h
 eqBool:=fun hu hv h=>by
  rcases cM hu with⟨i,t,rfl,rfl⟩|⟨x,t,rfl,rfl⟩
  ·rcases cM hv with⟨j,u,rfl,rfl⟩|⟨y,u,rfl,rfl⟩
   ·rw[Fw]at h;exact wpAny_eqBool_int h
   ·rw[DJ]at h;exact Qv i t y u _ _ _ _ h
  ·rcases cM hv with⟨j,u,rfl,rfl⟩|⟨y,u,rfl,rfl⟩
   ·rw[DE]at h;exact Qu x t j u _ _ _ _ h
   ·rw[BR]at h;exact wpAny_eqBool_str h
 «strs»:=fun k x t v h=>by
  rcases cM h with⟨i,u,rfl,e⟩|⟨y,u,rfl,e⟩
  ·exact nomatch e
  ·injection e with e1 _
   subst e1
   cases v<;>rfl
def rO (prog:Ms)(w:MG)(i:Int)(t:Tok):(cJ prog w).is (.inl i) (.int i t)=true:=wF i t
def rS (prog:Ms)(w:MG)(x:Str)(t:Tok):(cJ prog w).is (.inr x) (.str x t)=true:=wM x t
inductive V where
 |non|bl (b:Bool)|int (i:Int)|str (x:Str)|byt (b:Array UInt8)|flt (b:UInt64)|ref (a:Addr)|ty (n:String)
 deriving DecidableEq
def aS:V->tx->Prop
 |.non,u=>u=Oj
 |.bl b,u=>u=NP b
 |.int i,u=>∃t,u=PX i t
 |.str x,u=>∃t,u=On x t
 |.byt b,u=>∃t,u=Uc b t
 |.flt b,u=>∃t,u=RN b t
 |.ref a,u=>u=Mn a
 |.ty n,u=>u=Rb n
abbrev ba:List V->List tx->Prop:=Paired aS
def ba.length {xs:List V}{us:List tx}(r:ba xs us):xs.length=us.length:=Paired.length r
theorem ba.get:∀{xs:List V}{us:List tx}{i:Nat}{x:V},ba xs us->xs[i]? =some x->∃u,us[i]? =some u/\aS x u
 |_,_,_,_,.nil,e=>by simp at e
 |_,_,0,_,.cons r _,e=>by simp at e;subst e;exact⟨_,rfl,r⟩
 |_,_,i+1,x,.cons _ t,e=>by
  obtain⟨u,h1,h2⟩:=ba.get (i:=i) (x:=x) t (by simpa using e)
  exact⟨u,by simpa using h1,h2⟩
theorem ba.set {x:V}{u:tx}(r:aS x u):∀{xs:List V}{us:List tx}(i:Nat),ba xs us->ba (xs.set i x) (us.set i u)
 |_,_,_,.nil=>.nil
 |_,_,0,.cons _ t=>.cons r t
 |_,_,i+1,.cons q t=>.cons q (ba.set r i t)
theorem ba.append:∀{xs ys:List V}{us ws:List tx},ba xs us->ba ys ws->ba (xs++ys) (us++ws)
 |_,_,_,_,.nil,s=>s
 |_,_,_,_,.cons r t,s=>.cons r (ba.append t s)
theorem ba.take:∀{xs:List V}{us:List tx}(n:Nat),ba xs us->ba (xs.take n) (us.take n)
 |_,_,0,_=>.nil
 |_,_,_+1,.nil=>.nil
 |_,_,n+1,.cons r t=>.cons r (ba.take n t)
theorem ba.drop:∀{xs:List V}{us:List tx}(n:Nat),ba xs us->ba (xs.drop n) (us.drop n)
 |_,_,0,r=>r
 |_,_,_+1,.nil=>.nil
 |_,_,n+1,.cons _ t=>ba.drop n t
def cO:Option V->Option tx->Prop
 |some v,some u=>aS v u
 |none,none=>True
 |_,_=>False
def KV {κ:Type}:List (κ×V)->List (κ×tx)->Prop:=Paired fun(p:κ×V)(q:κ×tx)=>p.1=q.1/\aS p.2 q.2
def kV:Key->V
 |.inl i=>.int i
 |.inr x=>.str x
inductive HO where
 |lst (xs:List V)
 |tup (xs:List V)
 |dK (kvs:List (Key×V))|dT (kvs:List (List Key×V))
 |set (S:Int->Bool) (n:Nat)
 |ins (C dx:Addr) (fs:List (Str×V))
 |own (x:Addr)
 |xd (fs:List (Str×V))
 |met (f x:Addr)
 |rng (lo hi:Int)
 |frz (o:Obj) (u:HO)
 |tbl (ps:Array tx)
 |ext (φ:Heap->Prop)
abbrev Hp:=Addr->Option HO
def upd (H:Hp)(a:Addr)(o:HO):Hp:=fun b=>if b=a then some o else H b
def ag {H:Hp}{a:Addr}{o:HO}:upd H a o a=some o:=by unfold upd;rw[if_pos rfl]
def ao {H:Hp}{a b:Addr}{o:HO}(h:b≠a):upd H a o b=H b:=by unfold upd;rw[if_neg h]
def fN {H:Hp}{a:Addr}{o u:HO}:upd (upd H a o) a u=upd H a u:=by
 funext b;unfold upd;split<;>rfl
def aF {H:Hp}{a b:Addr}{o u:HO}(h:H a=some o)(h':H b=some u)(d:o≠u):a≠b:=by
 intro e;subst e;rw[h]at h';exact d (LW h')
def av {H:Hp}{a b:Addr}{o:HO}(h:H a=some o)(h':H b=none):a≠b:=by
 intro e;subst e;rw[h]at h';cases h'
section
variable (P:Ms)(w:MG)
def bg (H:Hp)(h:Heap)(a:Addr):HO->Prop
 |.lst xs=>xs.length<=sizeLine/\∃(its:List tx)(n:Nat),ba xs its/\h.get? a=some {cls:=.type "list",data:=.seq its.toArray n}
 |.tup xs=>xs.length<=sizeLine/\∃its:List tx,ba xs its/\Ut h a its.toArray
 |.dK kvs=>kvs.length<=sizeLine/\(a==sysModules)=false/\∃vs,KV kvs vs/\h.DictOf (cJ P w) a vs
 |.dT kvs=>kvs.length<=sizeLine/\(a==sysModules)=false/\∃xs:List (List Key×Addr×tx),
  Paired (fun(p:List Key×V)(q:List Key×Addr×tx)=>p.1=q.1/\H q.2.1=some (.tup (p.1.map kV))/\aS p.2 q.2.2) kvs xs/\
  ∃o es ep,h.get? a=some o/\o.ExactDict/\o.data=.dict es ep/\es.toList=xs.map (entryOfKey (tupleKind (cJ P w)))/\(xs.map (·.1)).Nodup
 |.set S n=>h.SetOf (intKind P w) a S n
 |.ins C dx fs=>H dx=some (.own a)/\fs.length<=1000/\dx≠a/\h.get? a=some (Pc C dx)/\
  ∃mA,h.Ns1 dx mA/\(∀f,cO (fs.lookup f) (mA f))/\Qr mA (fs.map (·.1))
 |.own _=>∃o,h.get? a=some o
 |.xd fs=>∃mA,h.Ns1 a mA/\∀f,cO (fs.lookup f) (mA f)
 |.rng lo hi=>∃t u v,h.get? a=some {cls:=.type "range",data:=.fields #[.int lo t,.int hi u,.int 1 v]}
 |.frz o u=>h.get? a=some o/\bg H h a u
 |.tbl ps=>h.get? a=some {cls:=.none,data:=.fields ps}
 |.met f x=>h.get? a=some (SH (.ref f) (.ref x))
 |.ext φ=>φ h/\(∃o,h.get? a=some o)/\∀h1 h2:Heap,φ h1->(∀o,h1.get? a=some o->h2.get? a=some o)->φ h2
def HOk (H:Hp)(h:Heap):Prop:=∀a o,H a=some o->bg P w H h a o
end
section
variable {P:Ms}{w:MG}{H H':Hp}{h h':Heap}{a:Addr}{o:HO}
def bg.lt (x:bg P w H h a o):a<h.objs.size:=by
 cases o with
 |lst xs=>obtain⟨_,_,_,_,e⟩:=x;exact Ma e
 |tup xs=>obtain⟨_,_,_,p⟩:=x;exact p.lt
 |dK kvs=>obtain⟨_,_,_,_,o,_,_,e,_⟩:=x;exact Ma e
 |dT kvs=>obtain⟨_,_,_,_,o,_,_,e,_⟩:=x;exact Ma e
 |set S n=>obtain⟨o,_,_,_,e,_⟩:=x;exact Ma e
 |ins C dx fs=>obtain⟨_,_,_,e,_⟩:=x;exact Ma e
 |own y=>obtain⟨_,e⟩:=x;exact Ma e
 |xd fs=>obtain⟨_,⟨_,_,_,e,_⟩,_⟩:=x;exact Ma e
 |rng lo hi=>obtain⟨_,_,_,e⟩:=x;exact Ma e
 |frz ob u=>obtain⟨e,_⟩:=x;exact Ma e
 |tbl ps=>exact Ma (show h.get? a=some _ from x)
 |met f y=>exact Ma (show h.get? a=some _ from x)
 |ext φ=>obtain⟨_,⟨_,e⟩,_⟩:=x;exact Ma e
theorem Paired.mapP {α β:Type}{F G:α->β->Prop}:∀{l₁:List α}{l₂:List β},Paired F l₁ l₂->(∀a b,F a b->G a b)->Paired G l₁ l₂
 |_,_,.nil,_=>.nil
 |_,_,.cons r t,f=>.cons (f _ _ r) (Paired.mapP t f)
def bg.stay (x:bg P w H h a o)(k:∀b u,(b=a\/H b=some (.own a))->h.get? b=some u->h'.get? b=some u)
  (ho:∀b,H b=some (.own a)->H' b=some (.own a))(ht:∀b xs,H b=some (.tup xs)->H' b=some (.tup xs)):bg P w H' h' a o:=by
 induction o with
 |lst xs=>obtain⟨z,its,n,r,e⟩:=x;exact⟨z,its,n,r,k _ _ (.inl rfl) e⟩
 |tup xs=>obtain⟨z,its,r,ob,e,c⟩:=x;exact⟨z,its,r,ob,k _ _ (.inl rfl) e,c⟩
 |dK kvs=>obtain⟨z,y,vs,r,ob,es,ep,e,c⟩:=x;exact⟨z,y,vs,r,ob,es,ep,k _ _ (.inl rfl) e,c⟩
 |dT kvs=>
  obtain⟨z,y,xs,r,ob,es,ep,e,c⟩:=x
  exact⟨z,y,xs,Paired.mapP r fun p q z=>⟨z.1,ht _ _ z.2.1,z.2.2⟩,ob,es,ep,k _ _ (.inl rfl) e,c⟩
 |set S n=>obtain⟨ob,es,ep,t,e,c⟩:=x;exact⟨ob,es,ep,t,k _ _ (.inl rfl) e,c⟩
 |ins C dx fs=>
  obtain⟨d,z,ne,e,mA,⟨od,es,ep,e2,c⟩,r⟩:=x
  exact⟨ho _ d,z,ne,k _ _ (.inl rfl) e,mA,⟨od,es,ep,k _ _ (.inr d) e2,c⟩,r⟩
 |own y=>obtain⟨ob,e⟩:=x;exact⟨ob,k _ _ (.inl rfl) e⟩
 |xd fs=>obtain⟨mA,⟨od,es,ep,e,c⟩,r⟩:=x;exact⟨mA,⟨od,es,ep,k _ _ (.inl rfl) e,c⟩,r⟩
 |rng lo hi=>obtain⟨t,u,v,e⟩:=x;exact⟨t,u,v,k _ _ (.inl rfl) e⟩
 |frz ob u ih=>obtain⟨e,q⟩:=x;exact⟨k _ _ (.inl rfl) e,ih q⟩
 |tbl ps=>
  have e:h.get? a=some {cls:=.none,data:=.fields ps}:=x
  show h'.get? a=some {cls:=.none,data:=.fields ps}
  exact k a _ (.inl rfl) e
 |met f y=>
  have e:h.get? a=some (SH (.ref f) (.ref y)):=x
  show h'.get? a=some (SH (.ref f) (.ref y))
  exact k a _ (.inl rfl) e
 |ext φ=>obtain⟨p,⟨o,e⟩,st⟩:=x;exact⟨st _ _ p fun o q=>k _ _ (.inl rfl) q,⟨o,k _ _ (.inl rfl) e⟩,st⟩
def HOk.lt (x:HOk P w H h)(e:H a=some o):a<h.objs.size:=(x a o e).lt
def HOk.fresh (x:HOk P w H h)(e:h.objs.size<=a):H a=none:=by
 cases q:H a with
 |none=>rfl
 |some u=>exact absurd (Mg (x.lt q) e) (Nd _)
def HOk.kept (x:HOk P w H h)(k:∀b u,h.get? b=some u->h'.get? b=some u):HOk P w H h':=fun a o e=>
 (x a o e).stay (fun b u _ q=>k b u q) (fun _ q=>q) fun _ _ q=>q
def HOk.laid (x:HOk P w H h)(k:∀b u,h.get? b=some u->h'.get? b=some u)(hp:h.objs.size<=a)(new:bg P w (upd H a o) h' a o):HOk P w (upd H a o) h':=fun b u e=>by
 have hn:=x.fresh hp
 by_cases hb:b=a
 ·subst hb;rw[ag]at e;cases e;exact new
 ·rw[ao hb]at e
  exact(x b u e).stay (fun c v _ q=>k c v q) (fun c q=>by rw[ao (av q hn)];exact q) fun c xs q=>by rw[ao (av q hn)];exact q
end
def Rd (H:Hp)(a:Addr)(u:HO):Prop:=H a=some u\/∃o,H a=some (.frz o u)
def Rd.ok {P:Ms}{w:MG}{H:Hp}{h:Heap}{a:Addr}{u:HO}(r:Rd H a u)(x:HOk P w H h):bg P w H h a u:=by
 rcases r with r|⟨o,r⟩
 ·exact x a u r
 ·obtain⟨_,q⟩:=x a _ r
  exact q
def Mut:Option HO->Prop
 |some (.lst _)=>True
 |some (.dK _)=>True
 |some (.dT _)=>True
 |some (.set _ _)=>True
 |some (.ins _ _ _)=>True
 |some (.ext _)=>True
 |_=>False
section
variable {P:Ms}{w:MG}{H:Hp}{h h':Heap}{x e:Addr}{o':HO}
def HOk.write (ok:HOk P w H h)(mu:Mut (H x))(he:e=x\/H e=some (.own x))(k:∀b u,b≠e->h.get? b=some u->h'.get? b=some u)(heo:∃u,h'.get? e=some u)
  (new:bg P w (upd H x o') h' x o'):HOk P w (upd H x o') h':=fun b u q=>by
 have nown:∀c y,H c=some (.own y)->c≠x:=fun c y r z=>by subst z;rw[r]at mu;exact mu
 have ntup:∀c xs,H c=some (.tup xs)->c≠x:=fun c xs r z=>by subst z;rw[r]at mu;exact mu
 by_cases hb:b=x
 ·subst hb;rw[ag]at q;cases q;exact new
 ·rw[ao hb]at q
  by_cases hbe:b=e
  ·have q':H b=some (.own x):=by
    rcases he with z|z
    ·exact absurd (hbe.trans z) hb
    ·rw[hbe];exact z
   rw[q]at q';cases q'
   obtain⟨v,hv⟩:=heo
   exact⟨v,by rw[hbe];exact hv⟩
  ·refine(ok b u q).stay (fun c v hc r=>k c v ?_ r) (fun c r=>by rw[ao (nown c b r)];exact r) fun c xs r=>by rw[ao (ntup c xs r)];exact r
   rcases hc with rfl|hc
   ·exact hbe
   ·rintro rfl
    rcases he with z|z
    ·exact nown c b hc z
    ·rw[hc]at z;cases z;exact hb rfl
end
structure Un (fs ex:List Addr)(H H':Hp)(h h':Heap):Prop where
 keep:∀b o,h.get? b=some o->H b=none->b∉fs->b∉ex->h'.get? b=some o
 slot:∀b o,h.get? b=some o->H b=none->b∈fs->b∉ex->∃sl,h'.get? b=some {o with slots:=sl}
 free:∀b o,h.get? b=some o->H b=none->b∉ex->H' b=none
 there:∀b o,h.get? b=some o->b∉ex->∃o',h'.get? b=some o'
 tups:∀b xs,H b=some (.tup xs)->H' b=some (.tup xs)
 frzs:∀b o u,H b=some (.frz o u)->H' b=some (.frz o u)
 tbls:∀b ps,H b=some (.tbl ps)->∃more,H' b=some (.tbl (ps++more))
section
variable {fs fs' ex ex':List Addr}{H H1 H2:Hp}{h h1 h2 h':Heap}{a x e:Addr}{o:HO}
def Un.any (u:Un fs ex H H1 h h1){b:Addr}{ob:Obj}(q:h.get? b=some ob)(n:H b=none)(hx:b∉ex):∃sl,h1.get? b=some {ob with slots:=sl}:=by
 by_cases hb:b∈fs
 ·exact u.slot b ob q n hb hx
 ·exact⟨ob.slots,u.keep b ob q n hb hx⟩
def Un.trans (a:Un fs ex H H1 h h1)(b:Un fs ex H1 H2 h1 h2):Un fs ex H H2 h h2 where
 keep:=fun c ob q n hc hx=>b.keep c ob (a.keep c ob q n hc hx) (a.free c ob q n hx) hc hx
 slot:=fun c ob q n hc hx=>by
  obtain⟨sl,e1⟩:=a.slot c ob q n hc hx
  obtain⟨sl',e2⟩:=b.slot c _ e1 (a.free c ob q n hx) hc hx
  exact⟨sl',e2⟩
 free:=fun c ob q n hx=>by
  obtain⟨o',e1⟩:=a.there c ob q hx
  exact b.free c o' e1 (a.free c ob q n hx) hx
 there:=fun c ob q hx=>by
  obtain⟨o',e1⟩:=a.there c ob q hx
  exact b.there c o' e1 hx
 tups:=fun c xs q=>b.tups c xs (a.tups c xs q)
 frzs:=fun c ob xs q=>b.frzs c ob xs (a.frzs c ob xs q)
 tbls:=fun c ps q=>by
  obtain⟨m1,e1⟩:=a.tbls c ps q
  obtain⟨m2,e2⟩:=b.tbls c _ e1
  exact⟨m1++m2,by rw[e2,Qb]⟩
def Un.kept (k:∀b u,h.get? b=some u->h'.get? b=some u):Un fs ex H H h h':=
 ⟨fun b ob q _ _ _=>k b ob q,fun b ob q _ _ _=>⟨ob.slots,k b ob q⟩,fun _ _ _ n _=>n,fun b ob q _=>⟨ob,k b ob q⟩,fun _ _ q=>q,fun _ _ _ q=>q,fun _ ps q=>⟨#[],by rw[q];simp⟩⟩
def Un.refl:Un fs ex H H h h:=Un.kept fun _ _ q=>q
def Un.laid (k:∀b u,h.get? b=some u->h'.get? b=some u)(hp:h.objs.size<=a)(hn:H a=none):Un fs ex H (upd H a o) h h' where
 keep:=fun b u q _ _ _=>k b u q
 slot:=fun b u q _ _ _=>⟨u.slots,k b u q⟩
 free:=fun b u q n _=>by rw[ao (Ml (Mg (Ma q) hp))];exact n
 there:=fun b u q _=>⟨u,k b u q⟩
 tups:=fun b xs q=>by rw[ao (av q hn)];exact q
 frzs:=fun b u xs q=>by rw[ao (av q hn)];exact q
 tbls:=fun b ps q=>⟨#[],by rw[ao (av q hn),q];simp⟩
def Un.write (mu:Mut (H x))(he:e=x\/H e=some (.own x))(k:∀b u,b≠e->h.get? b=some u->h'.get? b=some u)(heo:∃u,h'.get? e=some u):Un fs ex H (upd H x o) h h':=by
 have hx:∀b,H b=none->b≠x:=fun b n z=>by subst z;rw[n]at mu;exact mu
 have hb:∀b,H b=none->b≠e:=fun b n z=>by
  subst z
  rcases he with r|r
  ·exact hx b n r
  ·rw[n]at r;cases r
 have hm:∀b u,H b=some u->¬Mut (some u)->b≠x:=fun b u q nm z=>by subst z;rw[q]at mu;exact nm mu
 refine⟨fun b u q n _ _=>k b u (hb b n) q,fun b u q n _ _=>⟨u.slots,k b u (hb b n) q⟩,fun b u q n _=>by rw[ao (hx b n)];exact n,fun b u q _=>?_,
  fun b xs q=>by rw[ao (hm b _ q fun z=>z)];exact q,fun b u xs q=>by rw[ao (hm b _ q fun z=>z)];exact q,fun b ps q=>⟨#[],by rw[ao (hm b _ q fun z=>z),q];simp⟩⟩
 by_cases hbe:b=e
 ·subst hbe;exact heo
 ·exact⟨u,k b u hbe q⟩
end
def trk (h:Heap)(H:Hp):List Addr:=(Oz h.objs.size).filter fun a=>(H a).isSome
def ik (h:Heap)(H:Hp):Heap:=W.hideAll h (trk h H)
def wq (h:Heap)(H:Hp):(ik h H).objs.size=h.objs.size:=W.hideAll_size _ _
def yb {h:Heap}{H:Hp}{b:Addr}{o:Obj}(e:h.get? b=some o)(n:H b=none):(ik h H).get? b=some o:=
 Po _ e fun hm=>by
  have q:(H b).isSome=true:=(Th.mp hm).2
  rw[n]at q;simp at q
def Av {h:Heap}{H:Hp}{b:Addr}{o:Obj}(e:(ik h H).get? b=some o):h.get? b=some o/\H b=none:=by
 have e':h.get? b=some o:=Sg (trk h H) e
 refine⟨e',?_⟩
 cases q:H b with
 |none=>rfl
 |some x=>
  have hm:b∈trk h H:=Th.mpr ⟨PM.mpr (Ma e'),by simp[q]⟩
  have z:(ik h H).get? b=none:=Ow (trk h H) hm
  rw[z]at e;cases e
def Bd (g h:Heap)(L:Addr):List (Addr×Obj):=(Oz h.objs.size).filterMap fun a=>if a=L\/(g.get? a).isSome=true then none else(h.get? a).map fun o=>(a,o)
def cB (g h:Heap)(L d:Addr):List (Addr×Obj):=(Bd g h L).filter fun p=>decide (p.1≠d)
structure Mod (K:cW)(mg:Str->Option tx)(base:Heap):Prop where
 kin:K.In base
 glob:base.Ns mainGlobals mg
 blt:∃mb,base.Ns builtinsNs mb/\∀x:Str,x≠"__name__"->mb x=bootBuiltins x
 nolimit:base.NoLimit
set_option genInjectivity false in
structure Cx where
 prog:Ms
 w:MG
 K:cW
 mg:Str->Option tx
 base:Heap
 A:Mw
 N:List Str
 s₀:If
 H₀:Hp
 env:Env
 outer:List Env
 stack:List Env
 ex:List Addr
 fn:Str->Bool
 calm:Bool
 pn:List (Addr×Obj)
 xe:tx->If->Prop
def frs (l:List Env):List Addr:=l.filterMap (·.frame)
abbrev Cx.fs (X:Cx):List Addr:=frs X.outer
def Vis (sc:Scope)(x:Str):Prop:=sc.names.lookup x=some .local\/sc.names.lookup x=some .cell\/sc.names.lookup x=some .free
def Loc (sc:Scope)(x:Str):Prop:=sc.names.lookup x=some .local\/sc.names.lookup x=some .cell
def BU (env:Env)(h:Heap)(m:Str->Option tx)(x:Str)(u:tx):Prop:=
 (env.kindOf x=some .local/\m x=some u)\/((env.kindOf x=some .cell\/env.kindOf x=some .free)/\∃c,env.cells.lookup x=some c/\h.IsCell c (some u))
set_option genInjectivity false in
structure Cx.Ok (X:Cx):Prop where
 mod:Mod X.K X.mg X.base
 kind:X.env.scope.kind=.function
 glob:X.env.globals=mainGlobals
 blt:X.env.builtins=builtinsNs
 above:X.s₀.heap.objs.size<=X.env.locals
 inj:∀x y c,X.env.cells.lookup x=some c->X.env.cells.lookup y=some c->x=y
 has:∀x,(X.env.kindOf x=some .cell\/X.env.kindOf x=some .free)->∃c,X.env.cells.lookup x=some c
 cab:∀x c,X.fn x=true->X.env.cells.lookup x=some c->X.s₀.heap.objs.size<=c
 hd:X.calm=true->X.A.handled=none
 frames:X.A.frames=some X.stack
 stk:X.stack=X.outer\/(X.stack=X.env::X.outer/\X.env.frame=some X.env.locals)
 exf:∀b∈X.ex,b≠X.env.locals/\∀x c,X.env.cells.lookup x=some c->c≠b
 bs:∀b o,X.base.get? b=some o->X.s₀.heap.get? b=some o/\X.H₀ b=none
 bsz:X.base.objs.size<=X.s₀.heap.objs.size
 noex:∀b o,X.base.get? b=some o->b∉X.ex
 exfs:∀b∈X.ex,b∉X.fs
 funs:X.s₀.heap.FunFrames X.base X.outer
 frf:∀b∈X.fs,X.H₀ b=none
structure Inv (X:Cx)(pins:List (Addr×Obj))(σ:List (Option V))(H:Hp)(s:If):Prop where
 ok:X.Ok
 os:s.os=X.s₀.os
 bare:Pe s.gens
 base:Un X.fs X.ex X.H₀ H X.s₀.heap s.heap
 loc:∃m,s.heap.Ns X.env.locals m/\∀(i:Nat)(x:Str)(v:V),X.N[i]?=some x->σ[i]?=some (some v)->Vis X.env.scope x->∃u,aS v u/\BU X.env s.heap m x u
 cell:∀x c,X.env.cells.lookup x=some c->∃v,s.heap.IsCell c v
 free:H X.env.locals=none
 freeC:∀x c,X.env.cells.lookup x=some c->H c=none
 pin:∀p∈X.pn++pins,s.heap.get? p.1=some p.2/\H p.1=none/\p.1≠X.env.locals/\p.1∉X.fs/\∀v,p.2.data≠.cell v
 hok:HOk X.prog X.w H s.heap
 len:σ.length=X.N.length
section
variable {X:Cx}{pins:List (Addr×Obj)}{σ:List (Option V)}{H H':Hp}{s:If}{h':Heap}
def Cx.Ok.nofr (ok:X.Ok){b:Addr}{o:Obj}(e:X.base.get? b=some o):b∉X.fs:=fun hb=>by
 have:=(ok.funs.mem hb).1
 rw[e]at this;cases this
def Inv.bs (I:Inv X pins σ H s):∀b o,X.base.get? b=some o->s.heap.get? b=some o/\H b=none:=fun b o e=>
 ⟨I.base.keep b o (I.ok.bs b o e).1 (I.ok.bs b o e).2 (I.ok.nofr e) (I.ok.noex b o e),I.base.free b o (I.ok.bs b o e).1 (I.ok.bs b o e).2 (I.ok.noex b o e)⟩
def Inv.bk (I:Inv X pins σ H s):∀b o,X.base.get? b=some o->s.heap.get? b=some o:=fun b o e=>(I.bs b o e).1
def Inv.mod (I:Inv X pins σ H s):Mod X.K X.mg X.base:=I.ok.mod
def Inv.kIn (I:Inv X pins σ H s):X.K.In s.heap:=I.ok.mod.kin.keeps I.bk
def Inv.lt (I:Inv X pins σ H s):X.env.locals<s.heap.objs.size:=let ⟨_,hn,_⟩:=I.loc;hn.lt
def Inv.sz (I:Inv X pins σ H s):X.s₀.heap.objs.size<=s.heap.objs.size:=Mv I.ok.above (Ob I.lt)
def Inv.nofs (I:Inv X pins σ H s){a:Addr}(h:s.heap.objs.size<=a):a∉X.fs:=fun hb=>by
 obtain⟨_,o,ho,_⟩:=I.ok.funs.mem hb
 exact absurd (Mg (Ma ho) (Mv I.sz h)) (Nd _)
def Inv.cne (I:Inv X pins σ H s):∀x c,X.env.cells.lookup x=some c->c≠X.env.locals:=fun x c e z=>by
 obtain⟨v,o,ho,hd⟩:=I.cell x c e
 obtain⟨m,⟨o',es,ep,ho',hd',_⟩,_⟩:=I.loc
 rw[z,ho']at ho;cases ho;rw[hd']at hd;cases hd
def Inv.funs (I:Inv X pins σ H s):s.heap.FunFrames X.base X.outer:=by
 have all:∀(l:List Env),(∀b∈frs l,b∈X.fs)->X.s₀.heap.FunFrames X.base l->s.heap.FunFrames X.base l:=by
  intro l
  induction l with
  |nil=>intro _ _;trivial
  |cons env r ih=>
   intro hs hl
   obtain⟨hk,⟨L,o,hf,hn,ho,hd⟩,hr⟩:=hl
   have hL:L∈X.fs:=hs L (by unfold frs;rw[MW,hf];exact MD)
   obtain⟨sl,e⟩:=I.base.slot L o ho (I.ok.frf L hL) hL fun z=>I.ok.exfs L z hL
   exact⟨hk,⟨L,_,hf,hn,e,hd⟩,ih (fun b hb=>hs b (by unfold frs;rw[MW,hf];exact Mm _ hb)) hr⟩
 exact all X.outer (fun _ hb=>hb) I.ok.funs
def Inv.stack (I:Inv X pins σ H s):s.heap.FunFrames X.base X.stack:=by
 rcases I.ok.stk with e|⟨e,hf⟩
 ·rw[e];exact I.funs
 ·rw[e]
  obtain⟨m,hn,_⟩:=I.loc
  refine .cons (by rw[I.ok.kind];decide) hf hn ?_ I.funs
  exact RP (Mv I.ok.bsz I.ok.above)
def Inv.stkSub (I:Inv X pins σ H s):∀b∈frs X.stack,b∈X.env.locals::X.fs:=fun b hb=>by
 rcases I.ok.stk with e|⟨e,hf⟩
 ·rw[e]at hb;exact Mm _ hb
 ·rw[e]at hb
  unfold frs at hb
  rw[MW,hf]at hb
  exact hb
def Inv.stkFree (I:Inv X pins σ H s):∀b∈frs X.stack,H b=none:=fun b hb=>by
 rcases LZ.mp (I.stkSub b hb)with e|hb
 ·rw[e];exact I.free
 ·obtain⟨_,o,ho,_⟩:=I.ok.funs.mem hb
  exact I.base.free b o ho (I.ok.frf b hb) fun z=>I.ok.exfs b z hb
def Inv.step {g':Array Pw}{t':Nat}{d':Drawn}{ch:List Addr}(I:Inv X pins σ H s)
  (hch:∀b∈ch,(b∈X.ex\/X.s₀.heap.objs.size<=b)/\b≠X.env.locals/\(∀x c,X.env.cells.lookup x=some c->c≠b)/\∀p∈X.pn++pins,p.1≠b)
  (keep:∀b o,b≠X.env.locals->b∉X.fs->b∉ch->s.heap.get? b=some o->H b=none->h'.get? b=some o)
  (slot:∀b o,b≠X.env.locals->b∈X.fs->b∉ch->s.heap.get? b=some o->H b=none->∃sl,h'.get? b=some {o with slots:=sl})(free:∀b o,b∉ch->s.heap.get? b=some o->H b=none->H' b=none)
  (there:∀b o,b∉ch->s.heap.get? b=some o->∃o',h'.get? b=some o')
  (tups:∀b xs,H b=some (.tup xs)->H' b=some (.tup xs))(frzs:∀b o u,H b=some (.frz o u)->H' b=some (.frz o u))(tbls:∀b ps,H b=some (.tbl ps)->∃more,H' b=some (.tbl (ps++more)))
  (ns:∀m,s.heap.Ns X.env.locals m->h'.Ns X.env.locals m)(hok:HOk X.prog X.w H' h')(hg:Pe g'):
  Inv X pins σ H' {s with heap:=h',gens:=g',drawn:=d',toks:=t'}:=by
 have neL:∀b o,X.s₀.heap.get? b=some o->b≠X.env.locals:=fun b o e=>Ml (Mg (Ma e) I.ok.above)
 have neC:∀b o,X.s₀.heap.get? b=some o->b∉X.ex->b∉ch:=fun b o e hx hb=>by
  rcases(hch b hb).1 with z|z
  ·exact hx z
  ·exact absurd (Mg (Ma e) z) (Nd _)
 have cellK:∀x c,X.env.cells.lookup x=some c->∀v,s.heap.IsCell c v->h'.IsCell c v:=fun x c e v ⟨o,ho,hd⟩=>by
  have nch:c∉ch:=fun z=>(hch c z).2.2.1 x c e rfl
  by_cases hc:c∈X.fs
  ·obtain⟨sl,q⟩:=slot c o (I.cne x c e) hc nch ho (I.freeC x c e)
   exact⟨_,q,hd⟩
  ·exact⟨o,keep c o (I.cne x c e) hc nch ho (I.freeC x c e),hd⟩
 refine⟨I.ok,I.os,hg,⟨fun b o e n hb hx=>?_,fun b o e n hb hx=>?_,fun b o e n hx=>?_,fun b o e hx=>?_,fun b xs e=>tups b xs (I.base.tups b xs e),fun b o xs e=>frzs b o xs (I.base.frzs b o xs e),fun b ps e=>?_⟩,?_,fun x c e=>?_,?_,fun x c e=>?_,fun p hp=>?_,hok,I.len⟩
 ·exact keep b o (neL b o e) hb (neC b o e hx) (I.base.keep b o e n hb hx) (I.base.free b o e n hx)
 ·obtain⟨sl,e1⟩:=I.base.slot b o e n hb hx
  obtain⟨sl',e2⟩:=slot b _ (neL b o e) hb (neC b o e hx) e1 (I.base.free b o e n hx)
  exact⟨sl',e2⟩
 ·obtain⟨o',e1⟩:=I.base.there b o e hx
  exact free b o' (neC b o e hx) e1 (I.base.free b o e n hx)
 ·obtain⟨o',e1⟩:=I.base.there b o e hx
  exact there b o' (neC b o e hx) e1
 ·obtain⟨m1,e1⟩:=I.base.tbls b ps e
  obtain⟨m2,e2⟩:=tbls b _ e1
  exact⟨m1++m2,by rw[e2,Qb]⟩
 ·obtain⟨m,hn,hl⟩:=I.loc
  refine⟨m,ns m hn,fun i x v e1 e2 e3=>?_⟩
  obtain⟨u,r,l⟩:=hl i x v e1 e2 e3
  refine⟨u,r,?_⟩
  rcases l with l|⟨k,c,e,z⟩
  ·exact .inl l
  ·exact .inr ⟨k,c,e,cellK x c e _ z⟩
 ·obtain⟨v,z⟩:=I.cell x c e
  exact⟨v,cellK x c e v z⟩
 ·obtain⟨m,⟨o,_,_,ho,_⟩,_⟩:=I.loc
  exact free _ o (fun z=>(hch _ z).2.1 rfl) ho I.free
 ·obtain⟨v,o,ho,hd⟩:=I.cell x c e
  exact free c o (fun z=>(hch c z).2.2.1 x c e rfl) ho (I.freeC x c e)
 ·obtain⟨e,n,ne,nf,d⟩:=I.pin p hp
  have nch:p.1∉ch:=fun z=>(hch p.1 z).2.2.2 p hp rfl
  exact⟨keep p.1 p.2 ne nf nch e n,free p.1 p.2 nch e n,ne,nf,d⟩
def Inv.un {t':Nat}(I:Inv X pins σ H s)(u:Un X.fs [] H H' s.heap h')(hok:HOk X.prog X.w H' h'):Inv X pins σ H' {s with heap:=h',toks:=t'}:=by
 obtain⟨m,⟨o,es,ep,ho,r⟩,_⟩:=id I.loc
 obtain⟨sl,hL⟩:=u.any ho I.free (by simp)
 exact I.step (g':=s.gens) (d':=s.drawn) (ch:=[]) (fun _ z=>nomatch z) (fun b o _ hb _ e n=>u.keep b o e n hb (by simp)) (fun b o _ hb _ e n=>u.slot b o e n hb (by simp)) (fun b o _ e n=>u.free b o e n (by simp)) (fun b o _ e=>u.there b o e (by simp)) u.tups u.frzs u.tbls (fun m' hm=>by
  obtain⟨o',es',ep',ho',r'⟩:=hm
  rw[ho]at ho';cases ho'
  exact⟨_,es',ep',hL,r'⟩) hok I.bare
def Inv.call {g':Array Pw}{t':Nat}{d':Drawn}{ch:List Addr}(I:Inv X pins σ H s)(u:Un (frs X.stack) ch H H' s.heap h')(hok:HOk X.prog X.w H' h')(hg:Pe g')
  (hch:∀b∈ch,(b∈X.ex\/X.s₀.heap.objs.size<=b)/\b≠X.env.locals/\(∀x c,X.env.cells.lookup x=some c->c≠b)/\∀p∈X.pn++pins,p.1≠b):
  Inv X pins σ H' {s with heap:=h',gens:=g',drawn:=d',toks:=t'}:=by
 obtain⟨m,⟨o,es,ep,ho,r⟩,_⟩:=id I.loc
 obtain⟨sl,hL⟩:=u.any ho I.free fun z=>(hch _ z).2.1 rfl
 exact I.step (ch:=ch) hch (fun b o hL hb hc e n=>u.keep b o e n (fun z=>(LZ.mp (I.stkSub b z)).elim hL hb) hc) (fun b o _ _ hc e n=>u.any e n hc) (fun b o hc e n=>u.free b o e n hc) (fun b o hc e=>u.there b o e hc) u.tups u.frzs u.tbls (fun m' hm=>by
  obtain⟨o',es',ep',ho',r'⟩:=hm
  rw[ho]at ho';cases ho'
  exact⟨_,es',ep',hL,r'⟩) hok hg
def Inv.turned {t':Nat}{it:Addr}(I:Inv X pins σ H s)(k:∀b o,b≠it->s.heap.get? b=some o->h'.get? b=some o)(hn:H it=none)(hL:it≠X.env.locals)
  (h1:it∈X.ex\/X.s₀.heap.objs.size<=it)(h2:∀x c,X.env.cells.lookup x=some c->c≠it)(h3:∀p∈X.pn++pins,p.1≠it):Inv X pins σ H {s with heap:=h',toks:=t'}:=by
 have nit:∀b u,H b=some u->b≠it:=fun b u e z=>by rw[z,hn]at e;cases e
 refine I.step (g':=s.gens) (d':=s.drawn) (ch:=[it]) (fun b hb=>?_) (fun b o _ _ hc e _=>k b o (fun z=>hc (by simp[z])) e) (fun b o _ _ hc e _=>⟨o.slots,k b o (fun z=>hc (by simp[z])) e⟩) (fun _ _ _ _ n=>n)
  (fun b o hc e=>⟨o,k b o (fun z=>hc (by simp[z])) e⟩) (fun _ _ e=>e) (fun _ _ _ e=>e) (fun b ps e=>⟨#[],by rw[e];simp⟩) (fun m hm=>?_) (fun b u e=>?_) I.bare
 ·have e:b=it:=by simpa using hb
  subst e
  exact⟨h1,hL,h2,h3⟩
 ·obtain⟨o,es,ep,ho,r⟩:=hm
  exact⟨o,es,ep,k _ o (Md hL) ho,r⟩
 ·refine(I.hok b u e).stay (fun c v hc q=>k c v ?_ q) (fun _ q=>q) fun _ _ q=>q
  rcases hc with z|z
  ·rw[z];exact nit b u e
  ·exact nit c _ z
def Inv.tok (I:Inv X pins σ H s)(t:Nat):Inv X pins σ H {s with toks:=t}:=I.un (h':=s.heap) (t':=t) Un.refl I.hok
def Inv.kept {t':Nat}(I:Inv X pins σ H s)(k:∀b u,s.heap.get? b=some u->h'.get? b=some u):Inv X pins σ H {s with heap:=h',toks:=t'}:=I.un (Un.kept k) (I.hok.kept k)
def Inv.laid {a:Addr}{o:HO}{t':Nat}(I:Inv X pins σ H s)(k:∀b u,s.heap.get? b=some u->h'.get? b=some u)(hp:s.heap.objs.size<=a)(new:bg X.prog X.w (upd H a o) h' a o):
 Inv X pins σ (upd H a o) {s with heap:=h',toks:=t'}:=I.un (Un.laid k hp (I.hok.fresh hp)) (I.hok.laid k hp new)
def Inv.write {x e:Addr}{o:HO}{t':Nat}(I:Inv X pins σ H s)(mu:Mut (H x))(he:e=x\/H e=some (.own x))(k:∀b u,b≠e->s.heap.get? b=some u->h'.get? b=some u)(heo:∃u,h'.get? e=some u)
 (new:bg X.prog X.w (upd H x o) h' x o):Inv X pins σ (upd H x o) {s with heap:=h',toks:=t'}:=I.un (Un.write mu he k heo) (I.hok.write mu he k heo new)
def Inv.pins_of {pins':List (Addr×Obj)}(I:Inv X pins σ H s)(h:∀p∈pins',s.heap.get? p.1=some p.2/\H p.1=none/\p.1≠X.env.locals/\p.1∉X.fs/\∀v,p.2.data≠.cell v):Inv X pins' σ H s:=
 ⟨I.ok,I.os,I.bare,I.base,I.loc,I.cell,I.free,I.freeC,fun p hp=>(MX.mp hp).elim (fun z=>I.pin p (Pz _ z)) (h p),I.hok,I.len⟩
def jM {N:List Str}(hN:N.Nodup){i j:Nat}{x:Str}(a:N[i]?=some x)(b:N[j]?=some x):i=j:=by
 obtain⟨h1,e1⟩:=Mh.mp a
 obtain⟨h2,e2⟩:=Mh.mp b
 exact(SR hN).mp (e1.trans e2.symm)
def pb {M:SK}{A:Mw}{E:tx->If->Prop}{i:Nat}{x:Str}{v:V}{u:tx}{Q:Unit->If->Prop}(I:Inv X pins σ H s)(hN:X.N.Nodup)(hi:X.N[i]?=some x)(hx:Loc X.env.scope x)(r:aS v u)
  (h:∀s',Inv X pins (σ.set i (some v)) H s'->(∃a,Oa a s.heap s'.heap/\(a=X.env.locals\/X.env.cells.lookup x=some a))->Q () s')(hf:X.fn x=true\/X.env.scope.names.lookup x=some .local:=by first|exact .inl rfl|exact .inr rfl|assumption):wpAny M A (storeName X.env x u) Q E s:=by
 obtain⟨m,hn,hl⟩:=id I.loc
 have hcls:(X.env.scope.kind==.class||(X.env.scope.kind==.module&&X.env.locals !=X.env.globals))=false:=by rw[I.ok.kind];rfl
 have hiσ:i<σ.length:=by rw[I.len];exact(Mh.mp hi).1
 have cne:=I.cne
 have tracked:∀{a:Addr}{h':Heap},(∃o,s.heap.get? a=some o/\H a=none)->Oa a s.heap h'->HOk X.prog X.w H h':=fun{a h'} ha hs b ob e=>by
  obtain⟨_,_,hfree⟩:=ha
  refine(I.hok b ob e).stay (fun c w' hc q=>(hs.2 c ?_).trans q) (fun _ q=>q) fun _ _ q=>q
  rintro rfl
  rcases hc with rfl|hc
  ·rw[hfree]at e;cases e
  ·rw[hfree]at hc;cases hc
 rcases hx with hk|hk
 ·refine wpAny_storeName_local hk hn (fun h' hn' hs=>?_) hcls
  obtain⟨oL,_,_,hoL,_⟩:=id hn
  refine h _ ⟨I.ok,I.os,I.bare,⟨fun b o e n hb hx=>?_,fun b o e n hb hx=>?_,I.base.free,fun b o e hx=>?_,I.base.tups,I.base.frzs,I.base.tbls⟩,⟨_,hn',fun j y v' e1 e2 e3=>?_⟩,fun y c e=>?_,I.free,I.freeC,fun p hp=>?_,tracked ⟨oL,hoL,I.free⟩ hs,by simpa using I.len⟩ ⟨_,hs,.inl rfl⟩
  ·exact(hs.2 b (Ml (Mg (Ma e) I.ok.above))).trans (I.base.keep b o e n hb hx)
  ·obtain⟨sl,e1⟩:=I.base.slot b o e n hb hx
   exact⟨sl,(hs.2 b (Ml (Mg (Ma e) I.ok.above))).trans e1⟩
  ·obtain⟨o',e1⟩:=I.base.there b o e hx
   exact⟨o',(hs.2 b (Ml (Mg (Ma e) I.ok.above))).trans e1⟩
  ·by_cases hj:j=i
   ·subst hj
    rw[hi]at e1;cases e1
    rw[Pl hiσ]at e2
    cases e2
    exact⟨u,r,.inl ⟨hk,by simp⟩⟩
   ·rw[PC (Md hj)]at e2
    obtain⟨u',r',q⟩:=hl j y v' e1 e2 e3
    refine⟨u',r',?_⟩
    rcases q with⟨k,e⟩|⟨k,c,e,z⟩
    ·refine .inl ⟨k,?_⟩
     have:y≠x:=fun e=>hj (jM hN e1 (e▸hi))
     simp[this,e]
    ·exact .inr ⟨k,c,e,z.sameBut hs (cne y c e)⟩
  ·obtain⟨w',z⟩:=I.cell y c e
   exact⟨w',z.sameBut hs (cne y c e)⟩
  ·obtain⟨e,n,ne,nf,d⟩:=I.pin p hp
   exact⟨(hs.2 p.1 ne).trans e,n,ne,nf,d⟩
 ·have hfn:X.fn x=true:=by
   rcases hf with z|z
   ·exact z
   ·rw[z]at hk;cases hk
  obtain⟨c,hc⟩:=I.ok.has x (.inl hk)
  obtain⟨w',z⟩:=I.cell x c hc
  refine wpAny_storeName_cell I.ok.kind hk hc z (fun h' hc' hs=>?_)
  obtain⟨oc,hoc,hocd⟩:=id z
  refine h {s with heap:=h'} ⟨I.ok,I.os,I.bare,⟨fun b o e n hb hx=>?_,fun b o e n hb hx=>?_,I.base.free,fun b o e hx=>?_,I.base.tups,I.base.frzs,I.base.tbls⟩,⟨m,hn.sameBut hs (Md (cne x c hc)),fun j y v' e1 e2 e3=>?_⟩,fun y c' e=>?_,I.free,I.freeC,fun p hp=>?_,tracked ⟨oc,hoc,I.freeC x c hc⟩ hs,by simpa using I.len⟩ ⟨c,hs,.inr hc⟩
  ·exact(hs.2 b (Ml (Mg (Ma e) (I.ok.cab x c hfn hc)))).trans (I.base.keep b o e n hb hx)
  ·obtain⟨sl,e1⟩:=I.base.slot b o e n hb hx
   exact⟨sl,(hs.2 b (Ml (Mg (Ma e) (I.ok.cab x c hfn hc)))).trans e1⟩
  ·obtain⟨o',e1⟩:=I.base.there b o e hx
   exact⟨o',(hs.2 b (Ml (Mg (Ma e) (I.ok.cab x c hfn hc)))).trans e1⟩
  ·by_cases hj:j=i
   ·subst hj
    rw[hi]at e1;cases e1
    rw[Pl hiσ]at e2
    cases e2
    exact⟨u,r,.inr ⟨.inl hk,c,hc,hc'⟩⟩
   ·rw[PC (Md hj)]at e2
    obtain⟨u',r',q⟩:=hl j y v' e1 e2 e3
    refine⟨u',r',?_⟩
    rcases q with q|⟨k,c',e,z'⟩
    ·exact .inl q
    ·refine .inr ⟨k,c',e,z'.sameBut hs ?_⟩
     rintro rfl
     exact hj (jM hN e1 (I.ok.inj _ _ _ e hc▸hi))
  ·by_cases hcc:c'=c
   ·subst hcc;exact⟨_,hc'⟩
   ·obtain⟨w2,z2⟩:=I.cell y c' e
    exact⟨w2,z2.sameBut hs hcc⟩
  ·obtain⟨e,n,ne,nf,d⟩:=I.pin p hp
   refine⟨(hs.2 p.1 ?_).trans e,n,ne,nf,d⟩
   intro q
   rw[q,hoc]at e
   have q':oc=p.2:=LW e
   exact d w' (by rw[<-q'];exact hocd)
def gp {M:SK}{A:Mw}{E:tx->If->Prop}{i:Nat}{x:Str}{v:V}{u:tx}{Q:Unit->If->Prop}(I:Inv X pins σ H s)(hN:X.N.Nodup)(hi:X.N[i]?=some x)(hx:Loc X.env.scope x)(r:aS v u)
  (h:∀s',Inv X pins (σ.set i (some v)) H s'->Q () s')(hf:X.fn x=true\/X.env.scope.names.lookup x=some .local:=by first|exact .inl rfl|exact .inr rfl|assumption):wpAny M A (storeName X.env x u) Q E s:=
 pb I hN hi hx r (fun s' I' _=>h s' I') hf
def Inv.call' {s':If}{ch:List Addr}(I:Inv X pins σ H s)(ho:s'.os=s.os)(u:Un (frs X.stack) ch H H' s.heap s'.heap)(hok:HOk X.prog X.w H' s'.heap)(hg:Pe s'.gens)
  (hch:∀b∈ch,(b∈X.ex\/X.s₀.heap.objs.size<=b)/\b≠X.env.locals/\(∀x c,X.env.cells.lookup x=some c->c≠b)/\∀p∈X.pn++pins,p.1≠b):Inv X pins σ H' s':=by
 obtain⟨h',g',d',t',o'⟩:=s'
 have e:o'=s.os:=ho
 subst e
 exact I.call (g':=g') (t':=t') (d':=d') u hok hg hch
end
abbrev XK:=tx->Option Addr->Hp->Prop
abbrev St:=List (Option V)
abbrev VK:=V->Hp->Prop
abbrev TE:=St->Hp->VK->Prop
abbrev TT:=St->Hp->(Bool->Hp->Prop)->Prop
abbrev TA:=St->Hp->(List V->Hp->Prop)->Prop
structure gh where
 nx:St->Hp->Prop
 rt:VK
 bk:St->Hp->Prop:=fun _ _=>False
 ct:St->Hp->Prop:=fun _ _=>False
abbrev TS:=gh->St->Hp->Prop
def EP (X:Cx)(pins:List (Addr×Obj))(σ:St)(Q:VK)(u:tx)(s':If):Prop:=∃v H',Inv X pins σ H' s'/\aS v u/\Q v H'
def TP (X:Cx)(pins:List (Addr×Obj))(σ:St)(Q:Bool->Hp->Prop)(b:Bool)(s':If):Prop:=∃H',Inv X pins σ H' s'/\Q b H'
def AP (X:Cx)(pins:List (Addr×Obj))(σ:St)(Q:List V->Hp->Prop)(us:List tx)(s':If):Prop:=∃vs H',Inv X pins σ H' s'/\ba vs us/\Q vs H'
def SP (X:Cx)(pins:List (Addr×Obj))(D:gh)(f:Flow)(s':If):Prop:=
 match f with
 |.next=>∃σ' H',Inv X pins σ' H' s'/\D.nx σ' H'
 |.brk=>∃σ' H',Inv X pins σ' H' s'/\D.bk σ' H'
 |.cont=>∃σ' H',Inv X pins σ' H' s'/\D.ct σ' H'
 |.ret u=>∃v σ' H',Inv X pins σ' H' s'/\aS v u/\D.rt v H'
def PE (X:Cx)(e:Expr)(t:TE):Prop:=
 ∀(pins:List (Addr×Obj))(s:If)(σ:St)(H:Hp)(Q:VK),Inv X pins σ H s->t σ H Q->wpAny (model X.prog X.w) X.A (eval e X.env) (EP X pins σ Q) X.xe s
def PT (X:Cx)(e:Expr)(t:TT):Prop:=
 ∀(pins:List (Addr×Obj))(s:If)(σ:St)(H:Hp)(Q:Bool->Hp->Prop),Inv X pins σ H s->t σ H Q->wpAny (model X.prog X.w) X.A (isTrue e X.env (eval e X.env)) (TP X pins σ Q) X.xe s
def PW (X:Cx)(e:Expr)(t:TT):Prop:=
 ∀(whole:Sem tx)(pins:List (Addr×Obj))(s:If)(σ:St)(H:Hp)(Q:Bool->Hp->Prop),Inv X pins σ H s->t σ H Q->wpAny (model X.prog X.w) X.A (isTrue e X.env whole) (TP X pins σ Q) X.xe s
def PW.pt {X:Cx}{e:Expr}{t:TT}(h:PW X e t):PT X e t:=h _
def PA (X:Cx)(es:List Expr)(t:TA):Prop:=
 ∀(pos:Pos)(pins:List (Addr×Obj))(s:If)(σ:St)(H:Hp)(Q:List V->Hp->Prop),Inv X pins σ H s->t σ H Q->wpAny (model X.prog X.w) X.A (spliced (backTo pos (starEach es X.env))) (AP X pins σ Q) X.xe s
def PS (X:Cx)(st:Stmt)(t:TS):Prop:=
 ∀(pins:List (Addr×Obj))(s:If)(σ:St)(H:Hp)(D:gh),Inv X pins σ H s->t D σ H->wpAny (model X.prog X.w) X.A (exec st X.env) (SP X pins D) X.xe s
def PSs (X:Cx)(st:List Stmt)(t:TS):Prop:=
 ∀(pins:List (Addr×Obj))(s:If)(σ:St)(H:Hp)(D:gh),Inv X pins σ H s->t D σ H->wpAny (model X.prog X.w) X.A (execs st X.env) (SP X pins D) X.xe s
def thn {α:Type}{t:Sem α}{Q Q':α->If->Prop}{M:SK}{A:Mw}{E:tx->If->Prop}{s:If}(h:wpAny M A t Q E s)(hQ:∀a s,Q a s->Q' a s):wpAny M A t Q' E s:=Mx h hQ fun _ _ x=>x
section
variable {X:Cx}
def Lu (i:Nat):TE:=fun σ H Q=>∃v,σ[i]?=some (some v)/\Q v H
def tC (v:V):TE:=fun _ H Q=>Q v H
def BO {i:Nat}{x:Str}{pos:Pos}(hN:X.N[i]?=some x)(hv:Vis X.env.scope x)(hd:(x==("__debug__":Str))=false:=by decide)(hcd:(x==("__classdict__":Str))=false:=by decide):PE X (.Name x pos) (Lu i):=by
 intro pins s σ H Q I h
 obtain⟨v,e,h⟩:=h
 obtain⟨m,hn,hl⟩:=I.loc
 obtain⟨u,r,l⟩:=hl i x v hN e hv
 have fin:EP X pins σ Q u s:=⟨v,H,I,r,h⟩
 rcases l with⟨hk,hm⟩|⟨hk,c,hc,hcell⟩
 ·exact TX (wpAny_loadName_local I.ok.kind hk hn hm fin) hd
 ·rcases hk with hk|hk
  ·exact TX (wpAny_loadName_cell I.ok.kind hk hc hcell fin) hd
  ·exact TX (wpAny_loadName_free I.ok.kind hk hc hcell fin hcd) hd
def CH {i j pos}:PE X (.Constant (.int i) j pos) (tC (.int i)):=fun _ _ _ H _ I h=>wpAny_Constant_int ⟨.int i,H,I.tok _,⟨_,rfl⟩,h⟩
def IK {b j pos}:PE X (.Constant (.bool b) j pos) (tC (.bl b)):=fun _ _ _ H _ I h=>Constant_bool ⟨.bl b,H,I,rfl,h⟩
def Ef {j pos}:PE X (.Constant .none j pos) (tC .non):=fun _ _ _ H _ I h=>Constant_none ⟨.non,H,I,rfl,h⟩
def Do {x j pos}:PE X (.Constant (.str x) j pos) (tC (.str x)):=fun _ _ _ H _ I h=>Calls.Constant_str ⟨.str x,H,I.tok _,⟨_,rfl⟩,h⟩
def Gl (X:Cx)(x:Str):Prop:=X.env.kindOf x=some .globalImplicit
def gg {E:tx->If->Prop}{pins:List (Addr×Obj)}{s:If}{σ:St}{H:Hp}{x:Str}{u:tx}{pos:Pos}{Q:tx->If->Prop}(I:Inv X pins σ H s)(hg:Gl X x)(hm:X.mg x=some u)(h:Q u s)
  (hd:(x==("__debug__":Str))=false:=by decide):wpAny (model X.prog X.w) X.A (eval (.Name x pos) X.env) Q E s:=
 OH I.ok.kind hg (Rq (by rw[I.ok.glob];exact I.mod.glob.keeps I.bk) hm h) hd
def ix {E:tx->If->Prop}{pins:List (Addr×Obj)}{s:If}{σ:St}{H:Hp}{x:Str}{u:tx}{pos:Pos}{Q:tx->If->Prop}(I:Inv X pins σ H s)(hg:Gl X x)(hm:X.mg x=none)(hv:bootBuiltins x=some u)(h:Q u s)
  (hn:x≠"__name__":=by decide)(hd:(x==("__debug__":Str))=false:=by decide):wpAny (model X.prog X.w) X.A (eval (.Name x pos) X.env) Q E s:=by
 obtain⟨mb,h1,h2⟩:=I.mod.blt
 exact OH I.ok.kind hg (Calls.loadGlobal_builtin (by rw[I.ok.glob];exact I.mod.glob.keeps I.bk) hm (by rw[I.ok.blt];exact h1.keeps I.bk) ((h2 x hn).trans hv) h) hd
def sB {x:Str}{v:V}{u:tx}{pos:Pos}(hg:Gl X x)(hm:X.mg x=some u)(r:aS v u)(hd:(x==("__debug__":Str))=false:=by decide):PE X (.Name x pos) (tC v):=
 fun _ _ _ H _ I h=>gg I hg hm ⟨v,H,I,r,h⟩ hd
def Bc {x:Str}{v:V}{u:tx}{pos:Pos}(hg:Gl X x)(hm:X.mg x=none)(hv:bootBuiltins x=some u)(r:aS v u)(hn:x≠"__name__":=by decide)(hd:(x==("__debug__":Str))=false:=by decide):PE X (.Name x pos) (tC v):=
 fun _ _ _ H _ I h=>ix I hg hm hv ⟨v,H,I,r,h⟩ hn hd
variable {a b:Expr}{ta tb:TE}{pos:Pos}
variable {tA tB':TT}{cB:List Expr}
def eX (t:TT):TT:=fun σ H Q=>t σ H fun c H1=>Q (!c) H1
def AR (ha:PT X a tA):PW X (.BoolOp .And [a] pos) tA:=by
 intro wh pins s σ H Q I h
 refine isTrue_and (thn (ha pins s σ H Q I h) fun c s1 e=>?_)
 cases c with
 |true=>exact isTrue_and_nil e
 |false=>exact e
def Ce (ha:PT X a tA):PW X (.BoolOp .Or [a] pos) tA:=by
 intro wh pins s σ H Q I h
 refine isTrue_or (thn (ha pins s σ H Q I h) fun c s1 e=>?_)
 cases c with
 |false=>exact isTrue_or_nil e
 |true=>exact e
def CY (ha:PT X a tA):PT X (.UnaryOp .Not a pos) (eX tA):=by
 intro pins s σ H Q I h
 exact isTrue_not (ha pins s σ H (fun c H1=>Q (!c) H1) I h)
def BH {op}{t:TE}(h:PE X a t):PE X (.BoolOp op [a] pos) t:=fun pins s σ H Q I hw=>BoolOp_one (h pins s σ H Q I hw)
end
def SqL (K:cW)(H:Hp)(a:Addr)(xs:List V):Prop:=
 Rd H a (.lst xs)\/
  ∃(o:Obj)(its:Array tx)(n:Nat),K.lookup a=some o/\o.cls=.type "list"/\o.dict=none/\o.data=.seq its n/\its.size<=sizeLine/\ba xs its.toList
def SqT (K:cW)(H:Hp)(a:Addr)(xs:List V):Prop:=
 Rd H a (.tup xs)\/
  ∃(o:Obj)(its:Array tx)(n:Nat),K.lookup a=some o/\o.cls=.type "tuple"/\o.data=.seq its n/\its.size<=sizeLine/\ba xs its.toList
def KS:tx->Option V
 |.none=>some .non
 |.bool b=>some (.bl b)
 |.int i _=>some (.int i)
 |.str x _=>some (.str x)
 |.bytes b _=>some (.byt b)
 |.float b _=>some (.flt b)
 |.ref a=>some (.ref a)
 |.type n=>some (.ty n)
 |_=>none
def aS.abs {x:V}{u:tx}(r:aS x u):KS u=some x:=by
 cases x with
 |non=>cases r;rfl
 |bl _=>cases r;rfl
 |int _=>obtain⟨t,rfl⟩:=r;rfl
 |str _=>obtain⟨t,rfl⟩:=r;rfl
 |byt _=>obtain⟨t,rfl⟩:=r;rfl
 |flt _=>obtain⟨t,rfl⟩:=r;rfl
 |ref _=>cases r;rfl
 |ty _=>cases r;rfl
def aS.inj {x y:V}{u:tx}(r:aS x u)(q:aS y u):x=y:=LW (r.abs.symm.trans q.abs)
theorem ba.inj:∀{xs ys:List V}{us:List tx},ba xs us->ba ys us->xs=ys
 |_,_,_,.nil,.nil=>rfl
 |_,_,_,.cons r t,.cons r' t'=>by rw[r.inj r',ba.inj t t']
section
variable {X:Cx}{pins:List (Addr×Obj)}{σ:St}{H:Hp}{s:If}{a:Addr}{xs ys:List V}
def SqL.of {K:cW}(h:H a=some (.lst xs)):SqL K H a xs:=.inl (.inl h)
def SqT.of {K:cW}(h:H a=some (.tup xs)):SqT K H a xs:=.inl (.inl h)
def Inv.list (I:Inv X pins σ H s)(h:SqL X.K H a xs):∃its:List tx,ba xs its/\PlainL s.heap a its.toArray/\xs.length<=sizeLine:=by
 rcases h with h|⟨o,its,n,hk,hc,hd,hs,hz,r⟩
 ·obtain⟨z,its,n,r,e⟩:=h.ok I.hok
  exact⟨its,r,⟨_,n,e,rfl,rfl,rfl⟩,z⟩
 ·refine⟨its.toList,r,⟨o,n,I.kIn a o hk,hc,hd,by simpa using hs⟩,?_⟩
  have e:=r.length
  simp only[OB]at e
  omega
def Inv.tuple (I:Inv X pins σ H s)(h:SqT X.K H a xs):∃its:List tx,ba xs its/\Ut s.heap a its.toArray/\xs.length<=sizeLine:=by
 rcases h with h|⟨o,its,n,hk,hc,hs,hz,r⟩
 ·obtain⟨z,its,r,p⟩:=h.ok I.hok
  exact⟨its,r,p,z⟩
 ·refine⟨its.toList,r,⟨o,I.kIn a o hk,hc,n,by simpa using hs⟩,?_⟩
  have e:=r.length
  simp only[OB]at e
  omega
def Inv.list_inj (I:Inv X pins σ H s)(h:SqL X.K H a xs)(h':SqL X.K H a ys):xs=ys:=by
 obtain⟨its,r,⟨o,n,e,_,_,d⟩,_⟩:=I.list h
 obtain⟨its',r',⟨o',n',e',_,_,d'⟩,_⟩:=I.list h'
 rw[e]at e';cases e'
 rw[d]at d'
 injection d' with d1 _
 have:its=its':=by simpa using congrArg TN d1
 subst this
 exact r.inj r'
def Inv.tuple_inj (I:Inv X pins σ H s)(h:SqT X.K H a xs)(h':SqT X.K H a ys):xs=ys:=by
 obtain⟨its,r,⟨o,e,_,n,d⟩,_⟩:=I.tuple h
 obtain⟨its',r',⟨o',e',_,n',d'⟩,_⟩:=I.tuple h'
 rw[e]at e';cases e'
 rw[d]at d'
 injection d' with d1 _
 have:its=its':=by simpa using congrArg TN d1
 subst this
 exact r.inj r'
end
abbrev Cx.wish (X:Cx)(E:tx->If->Prop):Cx:={X with xe:=E}
abbrev Cx.nox (X:Cx):Cx:=X.wish fun _ _=>False
def Cx.Ok.wish {X:Cx}(ok:X.Ok)(E:tx->If->Prop):(X.wish E).Ok:=
 ⟨ok.mod,ok.kind,ok.glob,ok.blt,ok.above,ok.inj,ok.has,ok.cab,ok.hd,ok.frames,ok.stk,ok.exf,ok.bs,ok.bsz,ok.noex,ok.exfs,ok.funs,ok.frf⟩
def Cx.Ok.unwish {X:Cx}{E:tx->If->Prop}(ok:(X.wish E).Ok):X.Ok:=
 ⟨ok.mod,ok.kind,ok.glob,ok.blt,ok.above,ok.inj,ok.has,ok.cab,ok.hd,ok.frames,ok.stk,ok.exf,ok.bs,ok.bsz,ok.noex,ok.exfs,ok.funs,ok.frf⟩
section
variable {X:Cx}{pins:List (Addr×Obj)}{σ:St}{H:Hp}{s:If}{E:tx->If->Prop}
def Inv.wish (I:Inv X pins σ H s)(E:tx->If->Prop):Inv (X.wish E) pins σ H s:=⟨I.ok.wish E,I.os,I.bare,I.base,I.loc,I.cell,I.free,I.freeC,I.pin,I.hok,I.len⟩
def Inv.unwish (I:Inv (X.wish E) pins σ H s):Inv X pins σ H s:=⟨I.ok.unwish,I.os,I.bare,I.base,I.loc,I.cell,I.free,I.freeC,I.pin,I.hok,I.len⟩
def SP.unwish {D:gh}{f:Flow}{s':If}(h:SP (X.wish E) pins D f s'):SP X pins D f s':=by
 cases f with
 |next=>obtain⟨σ',H',I,q⟩:=h;exact⟨σ',H',I.unwish,q⟩
 |brk=>obtain⟨σ',H',I,q⟩:=h;exact⟨σ',H',I.unwish,q⟩
 |cont=>obtain⟨σ',H',I,q⟩:=h;exact⟨σ',H',I.unwish,q⟩
 |ret u=>obtain⟨v,σ',H',I,r,q⟩:=h;exact⟨v,σ',H',I.unwish,r,q⟩
def PE.nox {e:Expr}{t:TE}(h:PE X.nox e t):PE X e t:=fun pins s σ H Q I hw=>
 Mx (h pins s σ H Q (I.wish _) hw) (fun _ _ ⟨v,H',I',r,q⟩=>⟨v,H',I'.unwish,r,q⟩) fun _ _ z=>MB z
def PSs.nox {st:List Stmt}{t:TS}(h:PSs X.nox st t):PSs X st t:=fun pins s σ H D I hw=>
 Mx (h pins s σ H D (I.wish _) hw) (fun _ _ q=>q.unwish) fun _ _ z=>MB z
end
section
variable {X:Cx}{st:Stmt}{cB:List Stmt}{t u:TS}{e:Expr}{te:TE}{pos:Pos}
def bi:TS:=fun D σ H=>D.nx σ H
def aC (t u:TS):TS:=fun D σ H=>t {D with nx:=u D} σ H
def AH:PSs X [] bi:=fun _ _ σ H _ I h=>Om ⟨σ,H,I,h⟩
def yn (h1:PS X st t)(h2:PSs X cB u):PSs X (st::cB) (aC t u):=by
 intro pins s σ H D I h
 refine Py (thn (h1 pins s σ H {D with nx:=u D} I h) fun f s1 q=>?_)
 cases f with
 |next=>
  obtain⟨σ',H',I',q⟩:=q
  exact h2 pins s1 σ' H' D I' q
 |ret v=>exact q
 |brk=>exact q
 |cont=>exact q
def Bj (h1:PS X st t):PSs X [st] t:=by
 intro pins s σ H D I h
 refine Py (thn (h1 pins s σ H D I h) fun f s1 q=>?_)
 cases f with
 |next=>exact Om q
 |ret v=>exact q
 |brk=>exact q
 |cont=>exact q
def Inv.quiet {pins:List (Addr×Obj)}{σ:St}{H:Hp}{s:If}(I:Inv X pins σ H s):interactive X.env=false:=by simp[interactive,I.ok.kind]
def dZ (te:TE):TS:=fun D σ H=>te σ H fun _ H1=>D.nx σ H1
def AT (he:PE X e te)(hs:swapsWith e none pos.line X.env=pure false:=by rfl):PS X (.Expr e pos) (dZ te):=by
 intro pins s σ H D I h
 exact wpAny_Expr_any (thn (he pins s σ H _ I h) fun v s1 ⟨x,H1,I1,r1,q1⟩=>⟨σ,H1,I1,q1⟩) I.quiet hs
def aO (te:TE):TS:=fun D σ H=>te σ H D.rt
def En (he:PE X e te):PS X (.Return (some e) pos) (aO te):=by
 intro pins s σ H D I h
 exact TV (thn (he pins s σ H _ I h) fun v s1 ⟨x,H1,I1,r1,q1⟩=>⟨x,σ,H1,I1,r1,q1⟩)
def mB:TS:=fun _ _ _=>False
def xl:PS X st mB:=fun _ _ _ _ _ _ h=>h.elim
end
abbrev TG:=V->St->Hp->(St->Hp->Prop)->Prop
abbrev TGs:=List V->St->Hp->(St->Hp->Prop)->Prop
def PG (X:Cx)(target:Expr)(t:TG):Prop:=
 ∀(pins:List (Addr×Obj))(s:If)(σ:St)(H:Hp)(v:V)(u:tx)(Q:St->Hp->Prop),Inv X pins σ H s->aS v u->t v σ H Q->
  wpAny (model X.prog X.w) X.A (assign target X.env u) (fun _ s'=>∃σ' H',Inv X pins σ' H' s'/\Q σ' H') X.xe s
def PGs (X:Cx)(ts:List Expr)(t:TGs):Prop:=
 ∀(pins:List (Addr×Obj))(s:If)(σ:St)(H:Hp)(vs:List V)(us:List tx)(Q:St->Hp->Prop),Inv X pins σ H s->ba vs us->t vs σ H Q->
  wpAny (model X.prog X.w) X.A (assignInOrder ((assignEach ts X.env).map (·.2)) us) (fun _ s'=>∃σ' H',Inv X pins σ' H' s'/\Q σ' H') X.xe s
abbrev zu:=V->V->V->Hp->(Hp->Prop)->Prop
def tU (X:Cx)(t:zu):Prop:=
 ∀(pins:List (Addr×Obj))(s:If)(σ:St)(H:Hp)(o i v:V)(ov iv u:tx)(Q:Hp->Prop),Inv X pins σ H s->aS o ov->aS i iv->aS v u->t o i v H Q->
  wpAny (model X.prog X.w) X.A (setItem ov iv u) (fun _ s'=>∃H',Inv X pins σ H' s'/\Q H') X.xe s
section
variable {X:Cx}{pos:Pos}
def ay (i:Nat):TG:=fun v σ H Q=>Q (σ.set i (some v)) H
def dF {i:Nat}{x:Str}(hN:X.N.Nodup)(hi:X.N[i]?=some x)(hx:Loc X.env.scope x)(hf:X.fn x=true\/X.env.scope.names.lookup x=some .local:=by first|exact .inl rfl|exact .inr rfl|assumption):PG X (.Name x pos) (ay i):=by
 intro pins s σ H v u Q I r h
 exact QV (gp I hN hi hx r (fun s' I'=>⟨_,H,I',h⟩) hf)
def iS:TGs:=fun vs σ H Q=>vs=[]/\Q σ H
def cx (t:TG)(u:TGs):TGs:=fun vs σ H Q=>∃v r,vs=v::r/\t v σ H fun σ' H'=>u r σ' H' Q
def lu:PGs X [] iS:=by
 intro pins s σ H vs us Q I r h
 obtain⟨e,h⟩:=h
 subst e
 cases r
 exact assignInOrder_nil ⟨σ,H,I,h⟩
def dA {e:Expr}{es:List Expr}{t:TG}{u:TGs}(h1:PG X e t)(h2:PGs X es u)
  (hs:(assignEach (e::es) X.env).map (·.2)=assign e X.env::(assignEach es X.env).map (·.2):=by rfl):PGs X (e::es) (cx t u):=by
 intro pins s σ H vs us Q I r h
 obtain⟨v,vr,e1,h⟩:=h
 subst e1
 cases r with
 |cons r rr=>
  rw[hs]
  refine assignInOrder_cons (thn (h1 pins s σ H _ _ _ I r h) fun _ s1 ⟨σ1,H1,I1,q1⟩=>?_)
  exact h2 pins s1 σ1 H1 _ _ Q I1 rr q1
def kJ (K:cW)(n:Nat)(t:TGs):TG:=fun v σ H Q=>∃a xs,v=.ref a/\SqT K H a xs/\xs.length=n/\t xs σ H Q
def qw {es:List Expr}{k:Nat}{t:TGs}{n:Nat}(hc:X.calm=true)(h:PGs X es t)
  (hn:(assignEach es X.env).length=n:=by rfl)(hst:(assignEach es X.env).findIdx? (·.1)=none:=by rfl):PG X (.Tuple es k pos) (kJ X.K n t):=by
 intro pins s σ H v u Q I r hw
 obtain⟨a,xs,e1,hq,hl,hw⟩:=hw
 subst e1
 cases r
 obtain⟨its,rv,ht,hz⟩:=I.tuple hq
 refine assign_Tuple_tuple (I.ok.hd hc) ht (by simp[hn,<-hl,rv.length]) hst fun h' hx=>?_
 have I1:Inv X pins σ H {s with heap:=h'}:=I.kept (t':=s.toks) fun b o e=>hx b o (Ml (Ma e)) e
 exact h pins _ σ H xs _ Q I1 (by simpa using rv) hw
def iQ (to ti:TE)(t:zu):TG:=fun v σ H Q=>to σ H fun o H1=>ti σ H1 fun i H2=>t o i v H2 fun H3=>Q σ H3
def DZ {o i:Expr}{to ti:TE}{t:zu}(ho:PE X o to)(hi:PE X i ti)(hs:tU X t)
  (ha:∀v,assign (.Subscript o i pos) X.env v=(do
   let ov<-holding [v] (eval o X.env)
   let iv<-holding [v,ov] (eval i X.env)
   standAt pos
   holding [v,ov,iv] (setItem ov iv v)
   release [v,ov,iv] []):=by intro _;rfl):PG X (.Subscript o i pos) (iQ to ti t):=by
 intro pins s σ H v u Q I r h
 rw[ha]
 refine gV (Nn (thn (ho pins s σ H _ I h) fun ov s1 ⟨x,H1,I1,r1,q1⟩=>?_))
 refine gV (Nn (thn (hi pins s1 σ H1 _ I1 q1) fun iv s2 ⟨y,H2,I2,r2,q2⟩=>?_))
 refine gV (Ol (gV (Nn (thn (hs pins s2 σ H2 x y v ov iv u _ I2 r1 r2 r q2) fun _ s3 ⟨H3,I3,q3⟩=>?_))))
 exact wpAny_release ⟨σ,H3,I3,q3⟩
def aE (te:TE)(g:TG):TS:=fun D σ H=>te σ H fun x H1=>g x σ H1 D.nx
def jZ {tg e:Expr}{te:TE}{g:TG}(he:PE X e te)(hg:PG X tg g)(hs:swapsWithSole [tg] e pos.line X.env=pure false:=by rfl)(hw:swappedStores [tg] e X.env=pure none:=by rfl)
  (h1:(assignEach [tg] X.env).map (·.2)=[assign tg X.env]:=by rfl):PS X (.Assign [tg] e pos) (aE te g):=by
 intro pins s σ H D I h
 refine wpAny_Assign_stores (thn (he pins s σ H _ I h) fun v s1 ⟨x,H1,I1,r1,q1⟩=>?_) hs hw
 rw[h1]
 exact thn (hg pins s1 σ H1 x v _ I1 r1 q1) fun _ s2 q=>q
def EY {i:Nat}{x:Str}{e:Expr}{te:TE}{pos':Pos}(hN:X.N.Nodup)(hi:X.N[i]?=some x)(hx:Loc X.env.scope x)(he:PE X e te)(hs:swapsWith e (some (.Name x pos')) pos.line X.env=pure false:=by rfl)(hf:X.fn x=true\/X.env.scope.names.lookup x=some .local:=by first|exact .inl rfl|exact .inr rfl|assumption):
  PS X (.Assign [.Name x pos'] e pos) (aE te (ay i)):=by
 intro pins s σ H D I h
 refine wpAny_Assign_Name (thn (he pins s σ H _ I h) fun v s1 ⟨y,H1,I1,r1,q1⟩=>?_) hs
 exact gp I1 hN hi hx r1 (fun s2 I2=>⟨_,H1,I2,q1⟩) hf
end
section
variable {X:Cx}{pos:Pos}
def mh (c:TT)(tb:TS):TS:=fun D σ H=>∃W:Nat->St->Hp->Prop,(∃m,W m σ H)/\∀m σ H,W m σ H->
 c σ H fun b H1=>if b=true then ∃N:St->Hp->Prop,(∀σ' H',N σ' H'->∃m',m'<m/\W m' σ' H')/\tb {D with nx:=N,ct:=N,bk:=D.nx} σ H1 else D.nx σ H1
def xr {c:Expr}{body:List Stmt}{tc:TT}{tb:TS}(hp:SJ (model X.prog X.w) X.A X.env X.xe)(hc:PT X c tc)(hb:PSs X body tb):PS X (.While c body [] pos) (mh tc tb):=by
 intro pins s σ H D I h
 obtain⟨W,⟨m0,w0⟩,turn⟩:=h
 refine wpAny_While (codeAny_whileLoop (fun n s'=>∃σ' H',Inv X pins σ' H' s'/\W n σ' H') ?_ m0 ⟨σ,H,I,w0⟩)
 rintro n s1 ⟨σ1,H1,I1,w1⟩
 refine NT hp (thn (hc pins s1 σ1 H1 _ I1 (turn n σ1 H1 w1)) fun b s2 ⟨H2,I2,q2⟩=>?_)
 cases b with
 |true=>
  obtain⟨N,hN,q2⟩:=q2
  rw[if_pos rfl]
  refine NT hp (thn (hb pins s2 σ1 H2 _ I2 q2) fun f s3 q3=>?_)
  cases f with
  |next=>
   obtain⟨σ3,H3,I3,n3⟩:=q3
   obtain⟨m',hm,w3⟩:=hN σ3 H3 n3
   exact⟨m',hm,σ3,H3,I3,w3⟩
  |cont=>
   obtain⟨σ3,H3,I3,n3⟩:=q3
   obtain⟨m',hm,w3⟩:=hN σ3 H3 n3
   exact⟨m',hm,σ3,H3,I3,w3⟩
  |brk=>exact q3
  |ret v=>exact q3
 |false=>
  rw[if_neg Mo]
  exact Om ⟨σ1,H2,I2,q2⟩
end
structure It where
 go:Nat->Hp->Prop
 yld:Nat->Hp->V->Hp->Prop
 stop:Nat->Hp->Prop
def kK (X:Cx)(pins:List (Addr×Obj))(H:Hp)(b:Addr):Prop:=
 H b=none/\b≠X.env.locals/\b∉X.fs/\(b∈X.ex\/X.s₀.heap.objs.size<=b)/\(∀x c,X.env.cells.lookup x=some c->c≠b)/\∀p∈X.pn++pins,p.1≠b
def Inv.fpOk {X:Cx}{pins:List (Addr×Obj)}{σ:St}{H H':Hp}{s:If}{b:Addr}(I:Inv X pins σ H s)(hb:s.heap.objs.size<=b)(hn:H' b=none):kK X pins H' b:=by
 refine⟨hn,RT (Mg I.lt hb),I.nofs hb,.inr (Mv I.sz hb),fun x c e z=>?_,fun p hp z=>?_⟩
 ·obtain⟨v,q⟩:=I.cell x c e
  exact absurd (Mg q.lt (by rw[z];exact hb)) (Nd _)
 ·exact absurd (Mg (Ma (I.pin p hp).1) (by rw[z];exact hb)) (Nd _)
structure nS (P:Ms)(w:MG)(K:cW)(tg:Expr)(J:It)(fp:List Addr)(it:Addr)(tn:Nat->Heap->Prop):Prop where
 mem:it∈fp
 obj:∀i h,tn i h->∀b∈fp,∃o,h.get? b=some o/\∀v,o.data≠.cell v
 keep:∀i h h',tn i h->(∀b∈fp,∀o,h.get? b=some o->h'.get? b=some o)->tn i h'
 item:∀(X:Cx),X.prog=P->X.w=w->X.K=K->X.calm=true->∀(i:Nat)(pins:List (Addr×Obj))(s:If)(σ:St)(H:Hp)(E:tx->If->Prop),Inv X pins σ H s->(∀b∈fp,kK X pins H b)->tn i s.heap->J.go i H->
  wpAny (model P w) X.A (pyNext (.ref it)) (fun r s1=>∃u,r=some u/\
   wpAny (model P w) X.A (letOwnedTupleGo tg (.ref it) u) (fun _ s2=>∃x H',Inv X pins σ H' s2/\aS x u/\J.yld i H x H'/\tn (i+1) s2.heap/\∀b∈fp,H' b=none) E s1) E s
 done:∀(X:Cx),X.prog=P->X.w=w->X.K=K->X.calm=true->∀(i:Nat)(pins:List (Addr×Obj))(s:If)(σ:St)(H:Hp)(E:tx->If->Prop),Inv X pins σ H s->(∀b∈fp,kK X pins H b)->tn i s.heap->J.stop i H->
  wpAny (model P w) X.A (pyNext (.ref it)) (fun r s1=>r=none/\Inv X pins σ H s1) E s
 self:∀(A:Mw)(i:Nat)(s:If)(Q:tx->If->Prop)(E:tx->If->Prop),tn i s.heap->Q (.ref it) s->wpAny (model P w) A (pyIter (.ref it)) Q E s
abbrev TI:=St->Hp->(It->Hp->Prop)->Prop
def PIE (X:Cx)(pins:List (Addr×Obj))(σ:St)(tg:Expr)(R:It->Hp->Prop)(itv:tx)(s2:If):Prop:=
 ∃(it:Addr)(fp:List Addr)(tn:Nat->Heap->Prop)(J:It)(H':Hp),itv=.ref it/\Inv X pins σ H' s2/\nS X.prog X.w X.K tg J fp it tn/\tn 0 s2.heap/\(∀b∈fp,kK X pins H' b)/\R J H'
def PI (X:Cx)(tg iter:Expr)(wi:TI):Prop:=
 ∀(pins:List (Addr×Obj))(s:If)(σ:St)(H:Hp)(R:It->Hp->Prop),Inv X pins σ H s->wi σ H R->
  wpAny (model X.prog X.w) X.A (eval iter X.env) (fun v s1=>wpAny (model X.prog X.w) X.A (pyIter v) (PIE X pins σ tg R) X.xe s1) X.xe s
def pZ {M:SK}{A:Mw}{E:tx->If->Prop}{s:If}{tg:Expr}{it:Addr}{u:tx}{o:Obj}{n:String}{vs:Array tx}{Q:Unit->If->Prop}(ho:s.heap.get? it=some o)(hc:o.cls=.type n)(hd:o.data=.fields vs)
  (hn:["enumerate","zip","dict_itemiterator","dict_reverseitemiterator","odict_iterator","itertools.zip_longest","itertools.pairwise"].contains n=false)(hQ:Q () s):wpAny M A (letOwnedTupleGo tg (.ref it) u) Q E s:=by
 unfold letOwnedTupleGo
 cases tg<;>first
  |exact LY hQ
  |(cases u<;>first
   |exact LY hQ
   |(refine gV (wpAny_load ho ?_)
     rw[hc,hd]
     show wpAny M A (if (["enumerate","zip","dict_itemiterator","dict_reverseitemiterator","odict_iterator","itertools.zip_longest","itertools.pairwise"].contains n&&vs[0]? ==some (rawInt _))=true then _ else _) Q E s
     rw[if_neg (by intro h;rw[hn,Tw]at h;cases h)]
     exact LY hQ))
def Itl (K:cW)(a:Addr):It:=
 ⟨fun i H=>∃xs x,SqL K H a xs/\xs[i]?=some x,fun i H x H'=>H'=H/\∀xs,SqL K H a xs->xs[i]?=some x,fun i H=>∃xs,SqL K H a xs/\xs.length<=i⟩
def Itt (K:cW)(a:Addr):It:=
 ⟨fun i H=>∃xs x,SqT K H a xs/\xs[i]?=some x,fun i H x H'=>H'=H/\∀xs,SqT K H a xs->xs[i]?=some x,fun i H=>∃xs,SqT K H a xs/\xs.length<=i⟩
def Itr (lo:Int)(n:Nat):It:=⟨fun i _=>i<n,fun i H x H'=>H'=H/\x=.int (lo+i),fun i _=>n<=i⟩
def xi {P:Ms}{w:MG}{K:cW}{tg:Expr}(a it:Addr):nS P w K tg (Itl K a) [it] it (fun i h=>h.IsListIter it a i)where
 mem:=by simp
 obj:=fun i h st b hb=>by
  have e:b=it:=by simpa using hb
  subst e
  obtain⟨o,e,c,d⟩:=st
  exact⟨o,e,fun v z=>by rw[d]at z;cases z⟩
 keep:=fun i h h' st k=>st.at fun o e=>k it (by simp) o e
 item:=by
  intro X hP hw hK hc i pins s σ H E I hf st hg
  subst hP hw hK
  obtain⟨xs,x,hq,hx⟩:=hg
  obtain⟨its,rv,p,hz⟩:=I.list hq
  obtain⟨u,hu,ru⟩:=rv.get hx
  obtain⟨f0,f1,f2,f3,f4,f5⟩:=hf it (by simp)
  refine wpAny_pyNext_list_item st p.isList (x:=u) (by simpa using hu) fun h' st' sb=>?_
  have I1:Inv X pins σ H {s with heap:=h'}:=I.turned (t':=s.toks) (fun b o hb e=>(sb.2 b hb).trans e) f0 f1 f3 f4 f5
  obtain⟨o,e,c,d⟩:=id st'
  exact⟨u,rfl,pZ (s:={s with heap:=h'}) e c d (by decide) ⟨x,H,I1,ru,⟨rfl,fun ys hy=>by rw[I.list_inj hy hq];exact hx⟩,st',fun b hb=>(hf b hb).1⟩⟩
 done:=by
  intro X hP hw hK hc i pins s σ H E I hf st hg
  subst hP hw hK
  obtain⟨xs,hq,hx⟩:=hg
  obtain⟨its,rv,p,hz⟩:=I.list hq
  obtain⟨f0,f1,f2,f3,f4,f5⟩:=hf it (by simp)
  have hl:=rv.length
  exact wpAny_pyNext_list_end (I.ok.hd hc) st p.isList (by simp;omega) fun h' eb=>⟨rfl,I.turned (t':=s.toks) (fun b o hb e=>eb b o hb e) f0 f1 f3 f4 f5⟩
 self:=fun _ _ _ _ _ st h=>wpAny_pyIter_listiter st h
def ua {P:Ms}{w:MG}{K:cW}{tg:Expr}(a it:Addr):nS P w K tg (Itt K a) [it] it (fun i h=>h.IsTupleIter it a i)where
 mem:=by simp
 obj:=fun i h st b hb=>by
  have e:b=it:=by simpa using hb
  subst e
  obtain⟨o,e,c,d⟩:=st
  exact⟨o,e,fun v z=>by rw[d]at z;cases z⟩
 keep:=fun i h h' st k=>st.at fun o e=>k it (by simp) o e
 item:=by
  intro X hP hw hK hc i pins s σ H E I hf st hg
  subst hP hw hK
  obtain⟨xs,x,hq,hx⟩:=hg
  obtain⟨its,rv,p,hz⟩:=I.tuple hq
  obtain⟨u,hu,ru⟩:=rv.get hx
  obtain⟨f0,f1,f2,f3,f4,f5⟩:=hf it (by simp)
  refine wpAny_pyNext_tuple_item st (show s.heap.IsTuple a its.toArray from p) (x:=u) (by simpa using hu) fun h' st' sb=>?_
  have I1:Inv X pins σ H {s with heap:=h'}:=I.turned (t':=s.toks) (fun b o hb e=>(sb.2 b hb).trans e) f0 f1 f3 f4 f5
  obtain⟨o,e,c,d⟩:=id st'
  exact⟨u,rfl,pZ (s:={s with heap:=h'}) e c d (by decide) ⟨x,H,I1,ru,⟨rfl,fun ys hy=>by rw[I.tuple_inj hy hq];exact hx⟩,st',fun b hb=>(hf b hb).1⟩⟩
 done:=by
  intro X hP hw hK hc i pins s σ H E I hf st hg
  subst hP hw hK
  obtain⟨xs,hq,hx⟩:=hg
  obtain⟨its,rv,p,hz⟩:=I.tuple hq
  obtain⟨f0,f1,f2,f3,f4,f5⟩:=hf it (by simp)
  have hl:=rv.length
  exact wpAny_pyNext_tuple_end (I.ok.hd hc) st (show s.heap.IsTuple a its.toArray from p) (by simp;omega) fun h' eb=>⟨rfl,I.turned (t':=s.toks) (fun b o hb e=>eb b o hb e) f0 f1 f3 f4 f5⟩
 self:=fun _ _ _ _ _ st h=>wpAny_pyIter_tupleiter st h
def tO {P:Ms}{w:MG}{K:cW}{tg:Expr}(it:Addr)(lo:Int)(n:Nat):nS P w K tg (Itr lo n) [it] it (fun i h=>IsRangeIter h it (lo+(i:Nat)*1) ((n:Int)- (i:Nat)) 1)where
 mem:=by simp
 obj:=fun i h st b hb=>by
  have e:b=it:=by simpa using hb
  subst e
  exact⟨_,st,fun v z=>by
   have z':Sb _=Data.cell v:=z
   cases z'⟩
 keep:=fun i h h' st k=>k it (by simp) _ st
 item:=by
  intro X hP hw hK hc i pins s σ H E I hf st hg
  subst hP hw hK
  obtain⟨f0,f1,f2,f3,f4,f5⟩:=hf it (by simp)
  have W:=Walks.range (prog:=X.prog) (w:=X.w) (I.ok.hd hc) it lo 1 n
  refine W.item i s _ _ hg st fun v h' tk hv st' kk=>?_
  obtain⟨t,rfl⟩:=hv
  have I1:Inv X pins σ H {s with heap:=h',toks:=tk}:=I.turned (fun b o hb e=>kk b o (by simpa using hb) e) f0 f1 f3 f4 f5
  refine⟨_,rfl,pZ (s:={s with heap:=h',toks:=tk}) (n:="range_iterator") st' rfl rfl (by decide) ⟨.int (lo+i),H,I1,⟨t,?_⟩,⟨rfl,rfl⟩,st',fun b hb=>(hf b hb).1⟩⟩
  rw[Int.mul_one]
 done:=by
  intro X hP hw hK hc i pins s σ H E I hf st hg
  subst hP hw hK
  obtain⟨f0,f1,f2,f3,f4,f5⟩:=hf it (by simp)
  exact wpAny_pyNext_range_end (I.ok.hd hc) st (by have:n<=i:=hg;omega) fun h' eb=>⟨rfl,I.turned (t':=s.toks) (fun b o hb e=>eb b o hb e) f0 f1 f3 f4 f5⟩
 self:=fun _ _ _ _ _ st h=>wpAny_pyIter_rangeiter st h
section
variable {X:Cx}{tg:Expr}
def qF {pins:List (Addr×Obj)}{σ:St}{H:Hp}{s:If}{R:It->Hp->Prop}{E:tx->If->Prop}{lo hi:Int}{t u v:Tok}{tk:Nat}(I:Inv X pins σ H s)(h1: -(2^62)<=lo)(h2:lo<2^62)(h3: -(2^62)<=hi)(h4:hi<2^62)
  (q:R (Itr lo (hi- lo).toNat) H):wpAny (model X.prog X.w) X.A (pyIter (.ref s.heap.objs.size)) (PIE X pins σ tg R) E {s with heap:=s.heap.push {cls:=.type "range",data:=.fields #[.int lo t,.int hi u,.int 1 v]},toks:=tk}:=by
 refine wpAny_pyIter_range (IsRange.new ..) (small_one h1 h2 h3 h4) ?_
 have I1:Inv X pins σ H {s with heap:=s.heap.push {cls:=.type "range",data:=.fields #[.int lo t,.int hi u,.int 1 v]},toks:=tk}:=I.kept fun b o e=>Lt _ e
 refine⟨(s.heap.push {cls:=.type "range",data:=.fields #[.int lo t,.int hi u,.int 1 v]}).objs.size,[(s.heap.push {cls:=.type "range",data:=.fields #[.int lo t,.int hi u,.int 1 v]}).objs.size],_,_,H,rfl,
  I1.kept (t':=tk) fun b o e=>Lt _ e,tO _ lo (hi- lo).toNat,?_,fun b hb=>?_,q⟩
 ·have e1:lo+((0:Nat):Int)*1=lo:=by simp
  have e2:(((hi- lo).toNat:Nat):Int)- ((0:Nat):Int)=Us lo hi 1:=by rw[rangeSize_one];split<;>omega
  show IsRangeIter _ _ (lo+((0:Nat):Int)*1) ((((hi- lo).toNat:Nat):Int)- ((0:Nat):Int)) 1
  rw[e1,e2]
  exact Mu _ rfl
 ·have e:b=(s.heap.push {cls:=.type "range",data:=.fields #[.int lo t,.int hi u,.int 1 v]}).objs.size:=by simpa using hb
  subst e
  exact I1.fpOk (pv _) (I1.hok.fresh (pv _))
def jF (ta:TA):TI:=fun σ H R=>ta σ H fun vs H1=>∃j:Int,vs=[.int j]/\ -(2^62)<=j/\j<2^62/\R (Itr 0 j.toNat) H1
def uj (ta:TA):TI:=fun σ H R=>ta σ H fun vs H1=>∃i j:Int,vs=[.int i,.int j]/\(-(2^62)<=i/\i<2^62/\ -(2^62)<=j/\j<2^62)/\R (Itr i (j- i).toNat) H1
def wJ {a:Expr}{ta:TA}{p pos:Pos}(hg:Gl X "range")(hm:X.mg "range"=none)(ha:PA X [a] ta)(hs:starEach [a] X.env=[(false,eval a X.env)]:=by rfl):PI X tg (.Call (.Name "range" p) [a] [] pos) (jF ta):=by
 intro pins s σ H R I h
 refine Call_ (ix I hg hm boot_range (Ni (thn (ha pos pins s σ H _ I h) fun us s1 ⟨vs,H1,I1,r1,q1⟩=>?_) hs rfl))
 obtain⟨j,e,q1,q2,q⟩:=q1
 subst e
 cases r1 with
 |cons r rr=>
  cases rr
  obtain⟨t,rfl⟩:=r
  exact call_range_1 (qF I1 (by omega) (by omega) q1 q2 (by simpa using q))
def xc {a b:Expr}{ta:TA}{p pos:Pos}(hg:Gl X "range")(hm:X.mg "range"=none)(ha:PA X [a,b] ta)(hs:starEach [a,b] X.env=[(false,eval a X.env),(false,eval b X.env)]:=by rfl)(hs2:starEach [b] X.env=[(false,eval b X.env)]:=by rfl):
  PI X tg (.Call (.Name "range" p) [a,b] [] pos) (uj ta):=by
 intro pins s σ H R I h
 refine Call_ (ix I hg hm boot_range (Ni (thn (ha pos pins s σ H _ I h) fun us s1 ⟨vs,H1,I1,r1,q1⟩=>?_) (by rw[hs,hs2]) (by rw[hs2];rfl)))
 obtain⟨i,j,e,⟨q1,q2,q3,q4⟩,q⟩:=q1
 subst e
 cases r1 with
 |cons r rr=>
  cases rr with
  |cons r' rr=>
   cases rr
   obtain⟨t,rfl⟩:=r
   obtain⟨t',rfl⟩:=r'
   exact call_range_2 (qF I1 q1 q2 q3 q4 q)
def nP (wi:TI)(g:TG)(tb:TS):TS:=fun D σ H=>wi σ H fun J H1=>∃W:Nat->Nat->St->Hp->Prop,(∃m,W 0 m σ H1)/\∀i m σ H,W i m σ H->
 (J.stop i H/\D.nx σ H)\/(J.go i H/\∃N:St->Hp->Prop,(∀σ' H',N σ' H'->∃m',m'<m/\W (i+1) m' σ' H')/\∀x H',J.yld i H x H'->g x σ H' fun σ2 H2=>tb {D with nx:=N,ct:=N,bk:=D.nx} σ2 H2)
def kj (fp:List Addr)(h:Heap):List (Addr×Obj):=fp.filterMap fun b=>(h.get? b).map fun o=>(b,o)
def hJ {fp:List Addr}{h:Heap}{b:Addr}{o:Obj}(hb:b∈fp)(e:h.get? b=some o):(b,o)∈kj fp h:=Sm.mpr ⟨b,hb,by rw[e];rfl⟩
def we {fp:List Addr}{h:Heap}{p:Addr×Obj}(hp:p∈kj fp h):p.1∈fp/\h.get? p.1=some p.2:=by
 obtain⟨b,hb,e⟩:=Sm.mp hp
 cases q:h.get? b with
 |none=>rw[q]at e;cases e
 |some o=>
  rw[q]at e
  have e':(b,o)=p:=LW e
  subst e'
  exact⟨hb,q⟩
def Inv.pinned {pins:List (Addr×Obj)}{σ:St}{H:Hp}{s:If}{fp:List Addr}(I:Inv X pins σ H s)(hf:∀b∈fp,kK X pins H b)(ho:∀b∈fp,∃o,s.heap.get? b=some o/\∀v,o.data≠.cell v):Inv X (pins++kj fp s.heap) σ H s:=
 I.pins_of fun p hp=>(MX.mp hp).elim (fun z=>I.pin p (MJ _ z)) fun z=>by
  obtain⟨hb,e⟩:=we z
  obtain⟨f0,f1,f2,_⟩:=hf p.1 hb
  obtain⟨o,e',d⟩:=ho p.1 hb
  rw[e]at e';cases e'
  exact⟨e,f0,f1,f2,d⟩
def Inv.unpinned {pins pl:List (Addr×Obj)}{σ:St}{H:Hp}{s:If}(I:Inv X (pins++pl) σ H s):Inv X pins σ H s:=I.pins_of fun p hp=>I.pin p (MJ _ (Pz _ hp))
def DK {iter:Expr}{body:List Stmt}{wi:TI}{g:TG}{tb:TS}{pos:Pos}(hp:SJ (model X.prog X.w) X.A X.env X.xe)(hc:X.calm=true)(hi:PI X tg iter wi)(hg:PG X tg g)(hb:PSs X body tb)
  (hs:∀x,foldedSetIterable iter X.env x=pure x:=by intro _;rfl):PS X (.For tg iter body [] pos) (nP wi g tb):=by
 intro pins s σ H D I h
 refine wpAny_For (thn (hi pins s σ H _ I h) fun v s1 h1=>thn h1 fun itv s2 h2=>?_) hs
 obtain⟨it,fp,tn,J,H2,e,I2,T,st2,f2,W,⟨m0,w0⟩,turn⟩:=h2
 subst e
 have stat:∀{H':Hp},(∀b∈fp,H' b=none)->∀b∈fp,kK X pins H' b:=fun hn b hb=>⟨hn b hb,(f2 b hb).2⟩
 refine codeAny_forLoop_any (fun n s'=>∃i σ' H',Inv X pins σ' H' s'/\tn i s'.heap/\(∀b∈fp,H' b=none)/\W i n σ' H') ?_ m0 ⟨0,σ,H2,I2,st2,fun b hb=>(f2 b hb).1,w0⟩
 rintro n s3 ⟨i,σ3,H3,I3,st3,fr3,w3⟩
 rcases turn i n σ3 H3 w3 with⟨stop,qn⟩|⟨go,N,hN,step⟩
 ·refine NT hp (thn (T.done X rfl rfl rfl hc i pins s3 σ3 H3 X.xe I3 (stat fr3) st3 stop) fun r s4 ⟨hr,I4⟩=>?_)
  subst hr
  exact Om ⟨σ3,H3,I4,qn⟩
 ·refine NT hp (thn (T.item X rfl rfl rfl hc i pins s3 σ3 H3 X.xe I3 (stat fr3) st3 go) fun r s4 ⟨u,hr,h4⟩=>?_)
  subst hr
  refine NT hp (thn h4 fun _ s5 ⟨x,H5,I5,r5,y5,st5,fr5⟩=>?_)
  have I5':=I5.pinned (stat fr5) (T.obj _ _ st5)
  refine NT hp (thn (hg _ s5 σ3 H5 x u _ I5' r5 (step x H5 y5)) fun _ s6 ⟨σ6,H6,I6,q6⟩=>?_)
  refine NT hp (thn (hb _ s6 σ6 H6 _ I6 q6) fun f s7 q7=>?_)
  have again:∀{σ7:St}{H7:Hp},Inv X (pins++kj fp s5.heap) σ7 H7 s7->N σ7 H7->∃m,m<n/\∃i σ' H',Inv X pins σ' H' s7/\tn i s7.heap/\(∀b∈fp,H' b=none)/\W i m σ' H':=fun{σ7 H7} I7 n7=>by
   obtain⟨m',hm,w7⟩:=hN σ7 H7 n7
   refine⟨m',hm,i+1,σ7,H7,I7.unpinned,T.keep _ _ _ st5 fun b hb o e=>(I7.pin (b,o) (MJ _ (MJ _ (hJ hb e)))).1,fun b hb=>?_,w7⟩
   obtain⟨o,e,d⟩:=T.obj _ _ st5 b hb
   exact(I7.pin (b,o) (MJ _ (MJ _ (hJ hb e)))).2.1
  cases f with
  |next=>obtain⟨σ7,H7,I7,n7⟩:=q7;exact again I7 n7
  |cont=>obtain⟨σ7,H7,I7,n7⟩:=q7;exact again I7 n7
  |brk=>obtain⟨σ7,H7,I7,q7⟩:=q7;exact⟨σ7,H7,I7.unpinned,q7⟩
  |ret v=>obtain⟨x7,σ7,H7,I7,r7,q7⟩:=q7;exact⟨x7,σ7,H7,I7.unpinned,r7,q7⟩
end
def qx {K:cW}{a:Addr}{xs:List V}{g:TG}{tb:TS}{D:gh}{σ:St}{H:Hp}(Pv:Nat->St->Hp->Prop)(h0:Pv 0 σ H)(hl:∀i σ H,i<=xs.length->Pv i σ H->SqL K H a xs)
  (hs:∀i x σ H,xs[i]?=some x->Pv i σ H->g x σ H fun σ2 H2=>tb {D with nx:=Pv (i+1),ct:=Pv (i+1),bk:=D.nx} σ2 H2)(hd:∀σ H,Pv xs.length σ H->D.nx σ H):
  ∃W:Nat->Nat->St->Hp->Prop,(∃m,W 0 m σ H)/\∀i m σ H,W i m σ H->
   ((Itl K a).stop i H/\D.nx σ H)\/((Itl K a).go i H/\∃N:St->Hp->Prop,(∀σ' H',N σ' H'->∃m',m'<m/\W (i+1) m' σ' H')/\∀x H',(Itl K a).yld i H x H'->g x σ H' fun σ2 H2=>tb {D with nx:=N,ct:=N,bk:=D.nx} σ2 H2):=by
 refine⟨fun i m σ H=>m=xs.length- i/\i<=xs.length/\Pv i σ H,⟨xs.length,by simp,MS _,h0⟩,?_⟩
 rintro i m σ H ⟨rfl,hi,p⟩
 have q:=hl i σ H hi p
 by_cases hlt:i<xs.length
 ·refine .inr ⟨⟨xs,xs[i],q,by simp[hlt]⟩,Pv (i+1),fun σ' H' p'=>⟨xs.length- (i+1),by omega,rfl,hlt,p'⟩,fun x H' y=>?_⟩
  obtain⟨e,y⟩:=y
  subst e
  exact hs i x σ _ (y xs q) p
 ·have e:i=xs.length:=by omega
  subst e
  exact .inl ⟨⟨xs,q,pv _⟩,hd σ H p⟩
def Bw {K:cW}{a:Addr}{xs:List V}{g:TG}{tb:TS}{D:gh}{σ:St}{H:Hp}(Pv:Nat->St->Hp->Prop)(h0:Pv 0 σ H)(hl:∀i σ H,i<=xs.length->Pv i σ H->SqT K H a xs)
  (hs:∀i x σ H,xs[i]?=some x->Pv i σ H->g x σ H fun σ2 H2=>tb {D with nx:=Pv (i+1),ct:=Pv (i+1),bk:=D.nx} σ2 H2)(hd:∀σ H,Pv xs.length σ H->D.nx σ H):
  ∃W:Nat->Nat->St->Hp->Prop,(∃m,W 0 m σ H)/\∀i m σ H,W i m σ H->
   ((Itt K a).stop i H/\D.nx σ H)\/((Itt K a).go i H/\∃N:St->Hp->Prop,(∀σ' H',N σ' H'->∃m',m'<m/\W (i+1) m' σ' H')/\∀x H',(Itt K a).yld i H x H'->g x σ H' fun σ2 H2=>tb {D with nx:=N,ct:=N,bk:=D.nx} σ2 H2):=by
 refine⟨fun i m σ H=>m=xs.length- i/\i<=xs.length/\Pv i σ H,⟨xs.length,by simp,MS _,h0⟩,?_⟩
 rintro i m σ H ⟨rfl,hi,p⟩
 have q:=hl i σ H hi p
 by_cases hlt:i<xs.length
 ·refine .inr ⟨⟨xs,xs[i],q,by simp[hlt]⟩,Pv (i+1),fun σ' H' p'=>⟨xs.length- (i+1),by omega,rfl,hlt,p'⟩,fun x H' y=>?_⟩
  obtain⟨e,y⟩:=y
  subst e
  exact hs i x σ _ (y xs q) p
 ·have e:i=xs.length:=by omega
  subst e
  exact .inl ⟨⟨xs,q,pv _⟩,hd σ H p⟩
def xb {lo:Int}{n:Nat}{g:TG}{tb:TS}{D:gh}{σ:St}{H:Hp}(Pv:Nat->St->Hp->Prop)(h0:Pv 0 σ H)
  (hs:∀i σ H,i<n->Pv i σ H->g (.int (lo+i)) σ H fun σ2 H2=>tb {D with nx:=Pv (i+1),ct:=Pv (i+1),bk:=D.nx} σ2 H2)(hd:∀σ H,Pv n σ H->D.nx σ H):
  ∃W:Nat->Nat->St->Hp->Prop,(∃m,W 0 m σ H)/\∀i m σ H,W i m σ H->
   ((Itr lo n).stop i H/\D.nx σ H)\/((Itr lo n).go i H/\∃N:St->Hp->Prop,(∀σ' H',N σ' H'->∃m',m'<m/\W (i+1) m' σ' H')/\∀x H',(Itr lo n).yld i H x H'->g x σ H' fun σ2 H2=>tb {D with nx:=N,ct:=N,bk:=D.nx} σ2 H2):=by
 refine⟨fun i m σ H=>m=n- i/\i<=n/\Pv i σ H,⟨n,by simp,MS _,h0⟩,?_⟩
 rintro i m σ H ⟨rfl,hi,p⟩
 by_cases hlt:i<n
 ·refine .inr ⟨hlt,Pv (i+1),fun σ' H' p'=>⟨n- (i+1),by omega,rfl,hlt,p'⟩,fun x H' y=>?_⟩
  obtain⟨e,y⟩:=y
  subst e y
  exact hs i σ _ hlt p
 ·have e:i=n:=by omega
  subst e
  exact .inl ⟨pv _,hd σ H p⟩
abbrev R2:=V->V->Hp->VK->Prop
def OpR (X:Cx)(f:tx->tx->Sem tx)(r:R2):Prop:=
 ∀(pins:List (Addr×Obj))(s:If)(σ:St)(H:Hp)(x y:V)(v u:tx)(Q:VK),Inv X pins σ H s->aS x v->aS y u->r x y H Q->
  wpAny (model X.prog X.w) X.A (f v u) (EP X pins σ Q) X.xe s
def UnR (X:Cx)(f:tx->Sem tx)(r:V->Hp->VK->Prop):Prop:=
 ∀(pins:List (Addr×Obj))(s:If)(σ:St)(H:Hp)(x:V)(v:tx)(Q:VK),Inv X pins σ H s->aS x v->r x H Q->
  wpAny (model X.prog X.w) X.A (f v) (EP X pins σ Q) X.xe s
def bX (X:Cx)(f:tx)(r:List V->Hp->VK->Prop):Prop:=
 ∀(pins:List (Addr×Obj))(s:If)(σ:St)(H:Hp)(xs:List V)(us:List tx)(Q:VK),Inv X pins σ H s->ba xs us->r xs H Q->
  wpAny (model X.prog X.w) X.A (call f us) (EP X pins σ Q) X.xe s
def JU (X:Cx)(r:V->Hp->(Bool->Hp->Prop)->Prop):Prop:=
 ∀(pins:List (Addr×Obj))(s:If)(σ:St)(H:Hp)(x:V)(v:tx)(Q:Bool->Hp->Prop),Inv X pins σ H s->aS x v->r x H Q->
  wpAny (model X.prog X.w) X.A (truthy v) (TP X pins σ Q) X.xe s
def tOp (r:R2)(ta tb:TE):TE:=fun σ H Q=>ta σ H fun x H1=>tb σ H1 fun y H2=>r x y H2 Q
def tUn (r:V->Hp->VK->Prop)(ta:TE):TE:=fun σ H Q=>ta σ H fun x H1=>r x H1 Q
def rI (C:Int->Int->Prop)(g:Int->Int->V):R2:=fun x y H Q=>∃i j,x=.int i/\y=.int j/\C i j/\Q (g i j) H
def rI0 (g:Int->Int->V):R2:=fun x y H Q=>∃i j,x=.int i/\y=.int j/\Q (g i j) H
def rU (g:Int->V):V->Hp->VK->Prop:=fun x H Q=>∃i,x=.int i/\Q (g i) H
section
variable {X:Cx}{a b c:Expr}{ta tb tc:TE}{pos:Pos}
def yP (ha:PE X a ta)(hb:PE X b tb){pins:List (Addr×Obj)}{s:If}{σ:St}{H:Hp}{R:V->V->Hp->Prop}(I:Inv X pins σ H s)
  (h:ta σ H fun x H1=>tb σ H1 fun y H2=>R x y H2){Q:tx->If->Prop}{f:tx->tx->Sem tx}
  (hf:∀v u s2 x y H2,Inv X pins σ H2 s2->aS x v->aS y u->R x y H2->wpAny (model X.prog X.w) X.A (f v u) Q X.xe s2):
  wpAny (model X.prog X.w) X.A (eval a X.env) (fun v s₁=>wpAny (model X.prog X.w) X.A (eval b X.env) (fun u s₂=>wpAny (model X.prog X.w) X.A (f v u) Q X.xe s₂) X.xe s₁) X.xe s:=by
 refine thn (ha pins s σ H _ I h) fun v s1 ⟨x,H1,I1,r1,q1⟩=>?_
 refine thn (hb pins s1 σ H1 _ I1 q1) fun u s2 ⟨y,H2,I2,r2,q2⟩=>?_
 exact hf v u s2 x y H2 I2 r1 r2 q2
def HN {op:Operator}{r:R2}(ho:OpR X (binaryOp op) r)(ha:PE X a ta)(hb:PE X b tb):PE X (.BinOp a op b pos) (tOp r ta tb):=by
 intro pins s σ H Q I h
 exact wpAny_BinOp (yP ha hb I h fun v u s2 x y H2 I2 rx ry q=>ho pins s2 σ H2 x y v u Q I2 rx ry q)
def HP {op:UnaryOp}{r:V->Hp->VK->Prop}(ho:UnR X (unaryOp op) r)(ha:PE X a ta):PE X (.UnaryOp op a pos) (tUn r ta):=by
 intro pins s σ H Q I h
 exact UnaryOp_ (thn (ha pins s σ H _ I h) fun v s1 ⟨x,H1,I1,r1,q1⟩=>ho pins s1 σ H1 x v Q I1 r1 q1)
def opI {f:tx->tx->Sem tx}{C:Int->Int->Prop}{g:Int->Int->Int}
  (rule:∀(i j:Int)(t u:Tok)(s:If)(Q:tx->If->Prop)(E:tx->If->Prop),C i j->Q (.int (g i j) s.toks) {s with toks:=s.toks+1}->wpAny (model X.prog X.w) X.A (f (.int i t) (.int j u)) Q E s):
  OpR X f (rI C fun i j=>.int (g i j)):=by
 intro pins s σ H x y v u Q I rx ry h
 obtain⟨i,j,rfl,rfl,hc,q⟩:=h
 obtain⟨t,rfl⟩:=rx
 obtain⟨t',rfl⟩:=ry
 exact rule i j t t' s _ _ hc ⟨.int (g i j),H,I.tok _,⟨_,rfl⟩,q⟩
def EA {f:tx->tx->Sem tx}{g:Int->Int->Int}
  (rule:∀(i j:Int)(t u:Tok)(s:If)(Q:tx->If->Prop)(E:tx->If->Prop),Q (.int (g i j) s.toks) {s with toks:=s.toks+1}->wpAny (model X.prog X.w) X.A (f (.int i t) (.int j u)) Q E s):
  OpR X f (rI0 fun i j=>.int (g i j)):=by
 intro pins s σ H x y v u Q I rx ry h
 obtain⟨i,j,rfl,rfl,q⟩:=h
 obtain⟨t,rfl⟩:=rx
 obtain⟨t',rfl⟩:=ry
 exact rule i j t t' s _ _ ⟨.int (g i j),H,I.tok _,⟨_,rfl⟩,q⟩
def ye {f:tx->tx->Sem tx}{g:Int->Int->Bool}
  (rule:∀(i j:Int)(t u:Tok)(s:If)(Q:tx->If->Prop)(E:tx->If->Prop),Q (.bool (g i j)) s->wpAny (model X.prog X.w) X.A (f (.int i t) (.int j u)) Q E s):
  OpR X f (rI0 fun i j=>.bl (g i j)):=by
 intro pins s σ H x y v u Q I rx ry h
 obtain⟨i,j,rfl,rfl,q⟩:=h
 obtain⟨t,rfl⟩:=rx
 obtain⟨t',rfl⟩:=ry
 exact rule i j t t' s _ _ ⟨.bl (g i j),H,I,rfl,q⟩
def Cg (i j:Int):Prop:=0<=j/\j<=1000000/\i.natAbs<2^64
def Cf:OpR X (binaryOp .Add) (rI0 fun i j=>.int (i+j)):=EA fun _ _ _ _ _ _ _ q=>add_int q
def Ex:OpR X (binaryOp .Sub) (rI0 fun i j=>.int (i- j)):=EA fun _ _ _ _ _ _ _ q=>sub_int q
def Fp:OpR X (binaryOp .Mod) (rI (fun _ j=>0<j) fun i j=>.int (i%j)):=opI fun i j _ _ _ _ _ hc q=>by
 have h1:(0:Int)<j:=hc
 exact mod_int' (by omega) (by rw[Int.fmod_eq_emod_of_nonneg i (by omega)];exact q)
def DB:OpR X (binaryOp .Pow) (rI Cg fun i j=>.int (i^j.toNat)):=opI fun _ _ _ _ _ _ _ hc q=>pow_int_small hc.1 hc.2.1 hc.2.2 q
def ER:OpR X (binaryOp .LShift) (rI Cg fun i j=>.int (i*2^j.toNat)):=opI fun _ _ _ _ _ _ _ hc q=>lshift_int_small hc.1 hc.2.1 hc.2.2 q
def unI {f:tx->Sem tx}{g:Int->Int}
  (rule:∀(i:Int)(t:Tok)(s:If)(Q:tx->If->Prop)(E:tx->If->Prop),Q (.int (g i) s.toks) {s with toks:=s.toks+1}->wpAny (model X.prog X.w) X.A (f (.int i t)) Q E s):
  UnR X f (rU fun i=>.int (g i)):=by
 intro pins s σ H x v Q I rx h
 obtain⟨i,rfl,q⟩:=h
 obtain⟨t,rfl⟩:=rx
 exact rule i t s _ _ ⟨.int (g i),H,I.tok _,⟨_,rfl⟩,q⟩
def Ck:UnR X (unaryOp .USub) (rU fun i=>.int (-i)):=unI fun _ _ _ _ _ q=>neg_int q
end
def Eh:V->V->Bool
 |.non,.non=>true|.non,.int _=>true|.int _,.non=>true|.non,.bl _=>true|.bl _,.non=>true|.non,.str _=>true|.str _,.non=>true
 |.int _,.int _=>true|.bl _,.bl _=>true|.str _,.str _=>true|.byt _,.byt _=>true
 |.int _,.str _=>true|.str _,.int _=>true|.bl _,.str _=>true|.str _,.bl _=>true
 |_,_=>false
def rEq:R2:=fun x y H Q=>Eh x y=true/\Q (.bl (decide (x=y))) H
def rNe:R2:=fun x y H Q=>Eh x y=true/\Q (.bl (!decide (x=y))) H
def tH {i j:Int}:decide (V.int i=V.int j)=(i==j):=by
 rw[OF]
 simp
def wc {i j:Bool}:decide (V.bl i=V.bl j)=(i==j):=by
 rw[OF]
 simp
def sG {i j:Str}:decide (V.str i=V.str j)=(i==j):=by
 rw[OF]
 simp
def sj {i j:Array UInt8}:decide (V.byt i=V.byt j)=(i.toList==j.toList):=by
 rw[OF]
 cases i
 cases j
 simp
section
variable {X:Cx}{a b c:Expr}{ta tb tc:TE}{pos:Pos}
def bD {pins:List (Addr×Obj)}{σ:St}{H:Hp}{s:If}{Q:VK}{k k':Bool}(I:Inv X pins σ H s)(q:Q (.bl k) H)(e:k=k'):EP X pins σ Q (.bool k') s:=by
 subst e
 exact⟨.bl k,H,I,rfl,q⟩
def FM:OpR X (compareOp .Eq) rEq:=by
 intro pins s σ H x y v u Q I rx ry h
 obtain⟨hs,q⟩:=h
 cases x with
 |non=>
  cases rx
  cases y with
  |non=>cases ry;exact PySem.EqNone.eq_none_none (bD I q (by simp))
  |bl j=>cases ry;exact PySem.EqNone.eq_none_bool (bD I q (by simp))
  |int j=>obtain⟨t',rfl⟩:=ry;exact PySem.EqNone.eq_none_int (bD I q (by simp))
  |str j=>obtain⟨t',rfl⟩:=ry;exact PySem.EqNone.eq_none_str (bD I q (by simp))
  |_=>exact absurd (show false=true from hs) Mo
 |bl i=>
  cases rx
  cases y with
  |non=>cases ry;exact PySem.EqNone.eq_bool_none (bD I q (by simp))
  |bl j=>cases ry;exact eq_bool (bD I q wc)
  |str j=>obtain⟨t',rfl⟩:=ry;exact Uo (bD I q (by simp))
  |_=>exact absurd (show false=true from hs) Mo
 |int i=>
  obtain⟨t,rfl⟩:=rx
  cases y with
  |non=>cases ry;exact PySem.EqNone.eq_int_none (bD I q (by simp))
  |int j=>obtain⟨t',rfl⟩:=ry;exact eq_int (bD I q tH)
  |str j=>obtain⟨t',rfl⟩:=ry;exact Um (bD I q (by simp))
  |_=>exact absurd (show false=true from hs) Mo
 |str i=>
  obtain⟨t,rfl⟩:=rx
  cases y with
  |non=>cases ry;exact PySem.EqNone.eq_str_none (bD I q (by simp))
  |bl j=>cases ry;exact Ul (bD I q (by simp))
  |int j=>obtain⟨t',rfl⟩:=ry;exact Uk (bD I q (by simp))
  |str j=>obtain⟨t',rfl⟩:=ry;exact eq_str (bD I q sG)
  |_=>exact absurd (show false=true from hs) Mo
 |byt i=>
  obtain⟨t,rfl⟩:=rx
  cases y with
  |byt j=>obtain⟨t',rfl⟩:=ry;exact W.eq_bytes (bD I q sj)
  |_=>exact absurd (show false=true from hs) Mo
 |_=>cases y<;>exact absurd (show false=true from hs) Mo
def Il:OpR X (compareOp .NotEq) rNe:=by
 intro pins s σ H x y v u Q I rx ry h
 obtain⟨hs,q⟩:=h
 cases x with
 |non=>
  cases rx
  cases y with
  |non=>cases ry;exact PySem.EqNone.ne_none_none (bD I q (by simp))
  |bl j=>cases ry;exact PySem.EqNone.ne_none_bool (bD I q (by simp))
  |int j=>obtain⟨t',rfl⟩:=ry;exact PySem.EqNone.ne_none_int (bD I q (by simp))
  |str j=>obtain⟨t',rfl⟩:=ry;exact PySem.EqNone.ne_none_str (bD I q (by simp))
  |_=>exact absurd (show false=true from hs) Mo
 |bl i=>
  cases rx
  cases y with
  |non=>cases ry;exact PySem.EqNone.ne_bool_none (bD I q (by simp))
  |bl j=>cases ry;exact ne_bool (bD I q (congrArg not wc))
  |str j=>obtain⟨t',rfl⟩:=ry;exact Uj (bD I q (by simp))
  |_=>exact absurd (show false=true from hs) Mo
 |int i=>
  obtain⟨t,rfl⟩:=rx
  cases y with
  |non=>cases ry;exact PySem.EqNone.ne_int_none (bD I q (by simp))
  |int j=>obtain⟨t',rfl⟩:=ry;exact ne_int (bD I q (congrArg not tH))
  |str j=>obtain⟨t',rfl⟩:=ry;exact Ui (bD I q (by simp))
  |_=>exact absurd (show false=true from hs) Mo
 |str i=>
  obtain⟨t,rfl⟩:=rx
  cases y with
  |non=>cases ry;exact PySem.EqNone.ne_str_none (bD I q (by simp))
  |bl j=>cases ry;exact Uh (bD I q (by simp))
  |int j=>obtain⟨t',rfl⟩:=ry;exact Ug (bD I q (by simp))
  |str j=>obtain⟨t',rfl⟩:=ry;exact ne_str (bD I q (congrArg not sG))
  |_=>exact absurd (show false=true from hs) Mo
 |byt i=>
  obtain⟨t,rfl⟩:=rx
  cases y with
  |byt j=>obtain⟨t',rfl⟩:=ry;exact W.ne_bytes (bD I q (congrArg not sj))
  |_=>exact absurd (show false=true from hs) Mo
 |_=>cases y<;>exact absurd (show false=true from hs) Mo
def Jo:OpR X (compareOp .Lt) (rI0 fun i j=>.bl (decide (i<j))):=ye fun _ _ _ _ _ _ _ q=>lt_int q
def IL:OpR X (compareOp .LtE) (rI0 fun i j=>.bl (decide (i<=j))):=ye fun _ _ _ _ _ _ _ q=>le_int q
def Im:OpR X (compareOp .Gt) (rI0 fun i j=>.bl (decide (j<i))):=ye fun _ _ _ _ _ _ _ q=>gt_int q
def vT:OpR X (compareOp .In) (fun x y H Q=>∃i j,x=.str i/\y=.str j/\Q (.bl (!(Qy j i 0 j.length 1).isEmpty)) H):=by
 intro pins s σ H x y v u Q I rx ry h
 obtain⟨i,j,rfl,rfl,q⟩:=h
 obtain⟨t,rfl⟩:=rx
 obtain⟨t',rfl⟩:=ry
 exact in_str (bD I q rfl)
def BE:OpR X (compareOp .Is) (fun x y H Q=>y=.non/\Q (.bl (decide (x=.non))) H):=by
 intro pins s σ H x y v u Q I rx ry h
 obtain⟨rfl,q⟩:=h
 cases ry
 refine is_none_gen (bD I q ?_)
 cases x<;>first
  |(cases rx;rfl)
  |(obtain⟨t,rfl⟩:=rx;rfl)
def OpR.or {f:tx->tx->Sem tx}{r r':R2}(h:OpR X f r)(h':OpR X f r'):OpR X f (fun x y H Q=>r x y H Q\/r' x y H Q):=by
 intro pins s σ H x y v u Q I rx ry q
 rcases q with q|q
 ·exact h pins s σ H x y v u Q I rx ry q
 ·exact h' pins s σ H x y v u Q I rx ry q
def mW (b:Expr){op:SL}(h:op≠.In:=by decide)(h2:op≠.NotIn:=by decide):behindInMarks op b=false:=by
 have e1:(op==CmpOp.In)=false:=by cases op<;>first|rfl|exact absurd rfl h
 have e2:(op==CmpOp.NotIn)=false:=by cases op<;>first|rfl|exact absurd rfl h2
 cases b<;>simp[behindInMarks,e1,e2]
def Bl {op:SL}{r:R2}(ho:OpR X (compareOp op) r)(ha:PE X a ta)(hb:PE X b tb)(hm:behindInMarks op b=false):PE X (.Compare a [op] [b] pos) (tOp r ta tb):=by
 intro pins s σ H Q I h
 exact wpAny_Compare1 (yP ha hb I h fun v u s2 x y H2 I2 rx ry q=>ho pins s2 σ H2 x y v u Q I2 rx ry q) hm
def Cz (K:cW)(x:V)(H:Hp)(k:Bool):Prop:=
 match x with
 |.non=>k=false
 |.bl b=>k=b
 |.int i=>k=(i !=0)
 |.str y=>y.length<=sizeLine/\k=((y.length:Int) !=0)
 |.byt y=>y.size<=sizeLine/\k=((y.size:Int) !=0)
 |.ref p=>(∃xs,SqL K H p xs/\k= !xs.isEmpty)\/(∃xs,SqT K H p xs/\k= !xs.isEmpty)\/∃kvs,H p=some (.dK kvs)/\k= !kvs.isEmpty
 |_=>False
def tX {κ:Type}{kvs:List (κ×V)}{vs:List (κ×tx)}(r:KV kvs vs):(!vs.isEmpty)= !kvs.isEmpty:=by
 cases r<;>rfl
def mG {xs:List V}{its:List tx}(r:ba xs its):(!its.toArray.isEmpty)= !xs.isEmpty:=by
 cases r<;>simp
def jl:(sizeLine:Nat)<2^63:=by rw[NL];decide
def EE:JU X (fun x H Q=>∃k,Cz X.K x H k/\Q k H):=by
 intro pins s σ H x v Q I rx h
 obtain⟨k,e,q⟩:=h
 have hl:=jl
 have hs:sizeLine=16777216:=NL
 cases x with
 |non=>
  cases rx
  have e':k=false:=e
  subst e'
  exact truthy_none ⟨H,I,q⟩
 |bl b=>
  cases rx
  have e':k=b:=e
  subst e'
  exact Nq ⟨H,I,q⟩
 |int i=>
  obtain⟨t,rfl⟩:=rx
  have e':k=(i !=0):=e
  subst e'
  exact PySem.P.truthy_int ⟨H,I,q⟩
 |str y=>
  obtain⟨t,rfl⟩:=rx
  obtain⟨hy,e'⟩:y.length<=sizeLine/\k=((y.length:Int) !=0):=e
  subst e'
  exact PySem.P.truthy_str (by omega) ⟨H,I.tok _,q⟩
 |byt y=>
  obtain⟨t,rfl⟩:=rx
  obtain⟨hy,e'⟩:y.size<=sizeLine/\k=((y.size:Int) !=0):=e
  subst e'
  exact W.truthy_bytes (by omega) ⟨H,I.tok _,q⟩
 |ref p=>
  cases rx
  have e':(∃xs,SqL X.K H p xs/\k= !xs.isEmpty)\/(∃xs,SqT X.K H p xs/\k= !xs.isEmpty)\/∃kvs,H p=some (.dK kvs)/\k= !kvs.isEmpty:=e
  rcases e' with⟨xs,hx,e'⟩|⟨xs,hx,e'⟩|⟨kvs,hx,e'⟩
  ·subst e'
   obtain⟨its,r,pl,hz⟩:=I.list hx
   have hlen:=r.length
   exact wpAny_truthy_list pl.isList (by simp only[Me];omega) ⟨H,I.tok _,by rw[mG r];exact q⟩
  ·subst e'
   obtain⟨its,r,pl,hz⟩:=I.tuple hx
   have hlen:=r.length
   exact truthy_tuple pl (by simp only[Me];omega) ⟨H,I.tok _,by rw[mG r];exact q⟩
  ·subst e'
   obtain⟨hz,hS,vs,r,m⟩:kvs.length<=sizeLine/\(p==sysModules)=false/\∃vs,KV kvs vs/\s.heap.DictOf (cJ X.prog X.w) p vs:=I.hok p _ hx
   have hlen:kvs.length=vs.length:=Paired.length r
   exact wpAny_truthy_dict hS m (by omega) ⟨H,I.tok _,by rw[tX r];exact q⟩
 |_=>exact(show False from e).elim
def uC:OpR X (binaryOp .Add) (fun x y H Q=>∃i j,x=.str i/\y=.str j/\i.length+j.length<=sizeLine/\Q (.str (i++j)) H):=by
 intro pins s σ H x y v u Q I rx ry h
 obtain⟨i,j,rfl,rfl,hz,q⟩:=h
 obtain⟨t,rfl⟩:=rx
 obtain⟨t',rfl⟩:=ry
 exact add_str (fun t' tk=>⟨.str (i++j),H,I.tok _,⟨_,rfl⟩,q⟩) hz
def jR {x:V}{us:List tx}(r:ba [x] us):∃u,us=[u]/\aS x u:=by
 cases r with
 |cons r1 r2=>cases r2;exact⟨_,rfl,r1⟩
def mI {x y:V}{us:List tx}(r:ba [x,y] us):∃u w',us=[u,w']/\aS x u/\aS y w':=by
 cases r with
 |cons r1 r2=>
  cases r2 with
  |cons r3 r4=>cases r4;exact⟨_,_,rfl,r1,r3⟩
def vV (hc:X.calm=true):bX X (.builtin "max") (fun xs H Q=>∃i j,xs=[.int i,.int j]/\Q (.int (if j>i then j else i)) H):=by
 intro pins s σ H xs us Q I r h
 obtain⟨i,j,rfl,q⟩:=h
 obtain⟨u,w',rfl,⟨t,rfl⟩,⟨t',rfl⟩⟩:=mI r
 refine max_two_ints (I.ok.hd hc) fun h' tk k=>⟨_,H,I.kept k,?_,q⟩
 by_cases hj:j>i
 ·rw[if_pos hj,if_pos hj];exact⟨_,rfl⟩
 ·rw[if_neg hj,if_neg hj];exact⟨_,rfl⟩
def wt (hc:X.calm=true):bX X (.builtin "min") (fun xs H Q=>∃i j,xs=[.int i,.int j]/\Q (.int (if j<i then j else i)) H):=by
 intro pins s σ H xs us Q I r h
 obtain⟨i,j,rfl,q⟩:=h
 obtain⟨u,w',rfl,⟨t,rfl⟩,⟨t',rfl⟩⟩:=mI r
 refine min_two_ints (I.ok.hd hc) fun h' tk k=>⟨_,H,I.kept k,?_,q⟩
 by_cases hj:j<i
 ·rw[if_pos hj,if_pos hj];exact⟨_,rfl⟩
 ·rw[if_neg hj,if_neg hj];exact⟨_,rfl⟩
def LD (K:cW)(x:V)(H:Hp)(n:Nat):Prop:=
 match x with
 |.str y=>y.length<=sizeLine/\n=y.length
 |.byt y=>y.size<=sizeLine/\n=y.size
 |.ref p=>(∃xs,SqL K H p xs/\n=xs.length)\/∃xs,SqT K H p xs/\n=xs.length
 |_=>False
def lJ:bX X (.builtin "len") (fun xs H Q=>∃x n,xs=[x]/\LD X.K x H n/\Q (.int n) H):=by
 intro pins s σ H xs us Q I r h
 obtain⟨x,n,rfl,e,q⟩:=h
 obtain⟨u,rfl,rx⟩:=jR r
 have hl:=jl
 have hs:sizeLine=16777216:=NL
 cases x with
 |str y=>
  obtain⟨t,rfl⟩:=rx
  obtain⟨hy,e'⟩:y.length<=sizeLine/\n=y.length:=e
  subst e'
  exact len_str (by omega) ⟨.int _,H,I.tok _,⟨_,rfl⟩,q⟩
 |byt y=>
  obtain⟨t,rfl⟩:=rx
  obtain⟨hy,e'⟩:y.size<=sizeLine/\n=y.size:=e
  subst e'
  exact W.len_bytes (by omega) ⟨.int _,H,I.tok _,⟨_,rfl⟩,q⟩
 |ref p=>
  cases rx
  have e':(∃xs,SqL X.K H p xs/\n=xs.length)\/∃xs,SqT X.K H p xs/\n=xs.length:=e
  rcases e' with⟨xs,hx,e'⟩|⟨xs,hx,e'⟩
  ·subst e'
   obtain⟨its,r',pl,hz⟩:=I.list hx
   have hlen:=r'.length
   exact Calls.call_len_list pl.isList (by simp only[Me];omega) ⟨.int xs.length,H,I.tok _,⟨_,by simp only[Me];rw[hlen]⟩,q⟩
  ·subst e'
   obtain⟨its,r',pl,hz⟩:=I.tuple hx
   have hlen:=r'.length
   exact len_tuple pl (by simp only[Me];omega) ⟨.int xs.length,H,I.tok _,⟨_,by simp only[Me];rw[hlen]⟩,q⟩
 |_=>exact(show False from e).elim
end
structure lW (h:Heap)(x dx C:Addr)(mA:Str->Option tx):Prop where
 obj:h.get? x=some (Pc C dx)
 ns:h.Ns1 dx mA
 ne:dx≠x
def oX {h:Heap}{dx:Addr}{mA:Str->Option tx}(n:h.Ns1 dx mA):∃od,h.get? dx=some od/\∀name,SY name od=some (mA name):=by
 obtain⟨o,es,ep,ho,hd,hk,_,hm⟩:=n
 refine⟨o,ho,fun name=>?_⟩
 have e:=hm name
 unfold nsFind findBy at e
 rw[<-Array.find?_toList]at e
 unfold SY
 rw[hd]
 dsimp only
 split
 ·rename_i y q
  rw[q]at e
  exact congrArg some e
 ·rename_i q
  rw[q]at e
  have a:es.toList.any (·.refKey)=false:=by
   rw[List.any_eq_false]
   intro y hy
   obtain⟨z,t,hkey⟩:=hk y (Array.mem_toList_iff.mp hy)
   simp[DictEntry.refKey,hkey]
  have a':¬es.toList.any (·.refKey)=true:=by rw[a];exact Mo
  rw[if_neg a']
  exact congrArg some e
def lW.look {h:Heap}{x dx C:Addr}{mA:Str->Option tx}(I:lW h x dx C mA):∃od,W.InstAt h x (Pc C dx) C (some od)/\∀name,SY name od=some (mA name):=
 let ⟨od,ho,hl⟩:=oX I.ns
 ⟨od,⟨I.obj,rfl,rfl,ho⟩,hl⟩
section
variable {prog:Ms}{w:MG}{A:Mw}{E:tx->If->Prop}{s:If}{K:cW}{x dx C f:Addr}{mA:Str->Option tx}{name:Str}{v:tx}
def Bk {expr:Bool}{Q:tx->If->Prop}(X:K.In s.heap)(I:lW s.heap x dx C mA)(hg:Pa K C name=true)(hh:Ot K C=true)
  (ha:Mq K (.ref C) name=some none)(hv:mA name=some v)(hv':W.handedIn v=true)(h:Q v {s with toks:=s.toks+1}):
  wpAny (model prog w) A (getAttr (.ref x) name expr) Q E s:=by
 obtain⟨od,J,hl⟩:=I.look
 exact W.get_value X J (Pn hg).1 (W.findObj_own hh ha rfl (by rw[hl,hv])) hv' h
def zf {pl:Sem Bool}{Q:tx×List tx->If->Prop}(X:K.In s.heap)(I:lW s.heap x dx C mA)(hg:Pa K C name=true)
  (hf:Mq K (.ref C) name=some (some (.ref f)))(ht:Pb K (.ref f)=true)(hv:mA name=none)(h:Q (.ref f,[.ref x]) s):
  wpAny (model prog w) A (getMethod (.ref x) name pl) Q E s:=by
 obtain⟨od,J,hl⟩:=I.look
 exact W.method_fn X J (Pn hg).1 (Pn hg).2 hf (beq_iff_eq.mp ht) (by show(SY name od).map (·.isSome)=some false;rw[hl,hv];rfl) h
def Bv {ns:List Str}{Q:Unit->If->Prop}(X:K.In s.heap)(I:lW s.heap x dx C mA)
  (hs:Mq K (.ref C) "__setattr__"=some (some (.builtin "object.__setattr__")))(hp:Qm K C=true)(ht:Ua K C name=some none)(hh:Ot K C=true)
  (hw:Qr mA ns)(hsz:ns.length<=sizeLine)
  (h:∀h',lW h' x dx C (fun y=>if y=name then some v else mA y)->Oa dx s.heap h'->Q () {s with heap:=h',toks:=s.toks+2}):
  wpAny (model prog w) A (setAttr (.ref x) name v) Q E s:=by
 obtain⟨od,J,hl⟩:=I.look
 refine W.set_plain X J hs (W.osa_open (s:={s with toks:=s.toks+1}) (r:=none) X J hp ht fun b=>?_)
 obtain⟨cd,hc,hd'⟩:=W.any_some hh
 have hx:s.heap.get? x=some ⟨.ref C,some dx,.plain,#[]⟩:=I.obj
 refine gV (LY (gV (gV (Qq hx (gV (W.Looks.here (s:={s with toks:=s.toks+1}) (W.looks_clsIn X hc) ?_))))))
 rw[hd']
 refine LY (a:=some dx) (gV (LY (gV ?_)))
 refine Sx (s:={s with toks:=s.toks+1}) I.ns fun h' hn2 hs2=>?_
 obtain⟨oD,esD,epD,hoD,hdD,hcD⟩:=hn2.count (QP name v hw)
 refine gV (Rk hoD (by rw[hdD];exact Rl (Mv hcD (by rw[Mb];omega))) ?_)
 exact LY (h _ ⟨(hs2.2 _ (Md I.ne)).trans I.obj,hn2,I.ne⟩ hs2)
def xM {R:Qs->If->Prop}{vs:List tx}{kw:List (Str×tx)}(X:K.In s.heap)(hm:Rn K C=true)
  (hi:Mq K (.ref C) "__init__"=some (some (.ref f)))(hf:W.typeIn K (.ref f)=some (.type "function"))
  (h:codeAny (model prog w) (A.under (.builtin "type.__call__" ⟨.ref C::vs,kw⟩)) (.call (.ref f) ⟨.ref (s.heap.objs.size+1)::vs,kw⟩) (W.InitBack (s.heap.objs.size+1) R)
   {s with heap:=(s.heap.push Oc).push (Pc C s.heap.objs.size)}):
  codeAny (model prog w) A (.call (.ref C) ⟨vs,kw⟩) R s:=by
 obtain⟨hh,g,d,t,os⟩:=s
 exact W.make_core (W.makes_of X hm) (Qc X hi) (fun self=>W.bind_fn X self hf) (.inl rfl) h
end
def dg (f:Str)(v:V):List (Str×V)->List (Str×V)
 |[]=>[(f,v)]
 |(g,x)::r=>if g=f then(g,v)::r else(g,x)::dg f v r
theorem iR (f g:Str)(v:V):∀fs:List (Str×V),(dg f v fs).lookup g=if g=f then some v else fs.lookup g
 |[]=>by
  show Nc g [(f,v)]=_
  by_cases h:g=f
  ·have hb:(g==f)=true:=beq_iff_eq.mpr h
   simp only[Nc,hb,if_pos h]
  ·have hb:(g==f)=false:=beq_eq_false_iff_ne.mpr h
   simp only[Nc,hb,if_neg h]
 |(k,x)::r=>by
  have ih:=iR f g v r
  rw[show dg f v ((k,x)::r)=(if k=f then(k,v)::r else(k,x)::dg f v r)from rfl]
  by_cases hk:k=f
  ·rw[if_pos hk]
   by_cases h:g=k
   ·have hb:(g==k)=true:=beq_iff_eq.mpr h
    simp only[Nc,hb,if_pos (h.trans hk)]
   ·have hb:(g==k)=false:=beq_eq_false_iff_ne.mpr h
    simp only[Nc,hb,if_neg (fun e:g=f=>h (e.trans hk.symm))]
  ·rw[if_neg hk]
   by_cases h:g=k
   ·have hb:(g==k)=true:=beq_iff_eq.mpr h
    simp only[Nc,hb,if_neg (fun e:g=f=>hk (h.symm.trans e))]
   ·have hb:(g==k)=false:=beq_eq_false_iff_ne.mpr h
    simp only[Nc,hb]
    exact ih
theorem kL (f:Str)(v:V):∀fs:List (Str×V),f∈(dg f v fs).map (·.1)/\∀g,g∈fs.map (·.1)->g∈(dg f v fs).map (·.1)
 |[]=>⟨by simp[dg],fun g h=>by simp at h⟩
 |(k,x)::r=>by
  obtain⟨i1,i2⟩:=kL f v r
  rw[show dg f v ((k,x)::r)=(if k=f then(k,v)::r else(k,x)::dg f v r)from rfl]
  by_cases hk:k=f
  ·rw[if_pos hk]
   subst hk
   exact⟨by simp,fun g h=>by simpa using h⟩
  ·rw[if_neg hk]
   refine⟨?_,fun g h=>?_⟩
   ·rw[My]
    exact Mm _ i1
   ·rw[My]at h⊢
    rcases LZ.mp h with e|e
    ·exact LZ.mpr (.inl e)
    ·exact Mm _ (i2 g e)
theorem lA (f:Str)(v:V):∀fs:List (Str×V),(dg f v fs).length<=fs.length+1
 |[]=>by simp[dg]
 |(k,x)::r=>by
  have ih:=lA f v r
  rw[show dg f v ((k,x)::r)=(if k=f then(k,v)::r else(k,x)::dg f v r)from rfl]
  by_cases hk:k=f
  ·rw[if_pos hk,Mb,Mb];omega
  ·rw[if_neg hk,Mb,Mb];omega
def cO.some_of {v:V}{o:Option tx}(r:cO (some v) o):∃u,o=some u/\aS v u:=by
 cases o with
 |none=>exact(show False from r).elim
 |some u=>exact⟨u,rfl,r⟩
def cO.none_of {o:Option tx}(r:cO none o):o=none:=by
 cases o with
 |none=>rfl
 |some u=>exact(show False from r).elim
def oA {v:V}{u:tx}(r:aS v u):W.handedIn u=true:=by
 cases v with
 |non=>cases (show u=Oj from r);rfl
 |bl b=>cases (show u=NP b from r);rfl
 |int i=>obtain⟨t,e⟩:=(show ∃t,u=PX i t from r);cases e;rfl
 |str x=>obtain⟨t,e⟩:=(show ∃t,u=On x t from r);cases e;rfl
 |byt b=>obtain⟨t,e⟩:=(show ∃t,u=Uc b t from r);cases e;rfl
 |flt b=>obtain⟨t,e⟩:=(show ∃t,u=RN b t from r);cases e;rfl
 |ref a=>cases (show u=Mn a from r);rfl
 |ty n=>cases (show u=Rb n from r);rfl
section
variable {P:Ms}{w:MG}{H H':Hp}{h h':Heap}{a C dx:Addr}{fs fs':List (Str×V)}
def ja (hok:HOk P w H h)(e:H a=some (.ins C dx fs)):∃mA,lW h a dx C mA/\(∀f,cO (fs.lookup f) (mA f))/\Qr mA (fs.map (·.1))/\fs.length<=1000/\H dx=some (.own a):=by
 obtain⟨d,z,ne,ob,mA,n,r,q⟩:=(show bg P w H h a (.ins C dx fs)from hok a _ e)
 exact⟨mA,⟨ob,n,ne⟩,r,q,z,d⟩
end
structure Cls (K:cW)(C:Addr):Prop where
 pg:Pa K C Nl=true
 hd:Ot K C=true
 po:Qm K C=true
 sa:Mq K (.ref C) "__setattr__"=some (some (.builtin "object.__setattr__"))
def Cls.get {K:cW}{C:Addr}(c:Cls K C)(f:Str):Pa K C f=true:=c.pg
def dM (K:cW)(C:Addr)(f:Str):Prop:=Mq K (.ref C) f=some none
def dM.taker {K:cW}{C:Addr}{f:Str}(n:dM K C f):Ua K C f=some none:=by
 unfold Ua
 rw[show Mq K (.ref C) f=some none from n]
 rfl
structure iL (K:cW)(C:Addr)(m:Str)(f:Addr):Prop where
 at_:Mq K (.ref C) m=some (some (.ref f))
 fn:Pb K (.ref f)=true
 kp:Oh K (.ref f)=true
section
variable {X:Cx}{pins:List (Addr×Obj)}{σ:St}{H:Hp}{s:If}{a C dx:Addr}{fs:List (Str×V)}{f:Str}{v:V}{A:Mw}{E:tx->If->Prop}
def mK {b:Bool}{Q:tx->If->Prop}(I:Inv X pins σ H s)(e:H a=some (.ins C dx fs))(c:Cls X.K C)(n:dM X.K C f)(l:fs.lookup f=some v)
  (h:∀u s',Inv X pins σ H s'->aS v u->Q u s'):wpAny (model X.prog X.w) A (getAttr (.ref a) f b) Q E s:=by
 obtain⟨mA,O,r,_,_,_⟩:=ja I.hok e
 obtain⟨u,hu,ru⟩:=cO.some_of (v:=v) (o:=mA f) (by rw[<-l];exact r f)
 exact Bk I.kIn O (c.get f) c.hd n hu (oA ru) (h u _ (I.tok _) ru)
def jQ {m:Str}{g:Addr}{pl:Sem Bool}{Q:tx×List tx->If->Prop}(I:Inv X pins σ H s)(e:H a=some (.ins C dx fs))(c:Cls X.K C)(k:iL X.K C m g)(l:fs.lookup m=none)
  (h:Q (.ref g,[.ref a]) s):wpAny (model X.prog X.w) A (getMethod (.ref a) m pl) Q E s:=by
 obtain⟨mA,O,r,_,_,_⟩:=ja I.hok e
 have hn:mA m=none:=cO.none_of (by rw[<-l];exact r m)
 exact zf I.kIn O (c.get m) k.at_ k.fn hn h
def vp {y:V}{u:tx}{Q:Unit->If->Prop}(I:Inv X pins σ H s)(e:H a=some (.ins C dx fs))(c:Cls X.K C)(n:dM X.K C f)(hl:fs.length<1000)(ry:aS y u)
  (h:∀s',Inv X pins σ (upd H a (.ins C dx (dg f y fs))) s'->Q () s'):wpAny (model X.prog X.w) A (setAttr (.ref a) f u) Q E s:=by
 obtain⟨mA,O,r,wi,_,ho⟩:=ja I.hok e
 have hz:(fs.map (·.1)).length<=sizeLine:=by rw[Mf,NL];omega
 refine Bv I.kIn O c.sa c.po n.taker c.hd wi hz fun h' O' sb=>h _ ?_
 have hd:∃o,h'.get? dx=some o:=let ⟨o,_,_,e',_⟩:=O'.ns;⟨o,e'⟩
 refine I.write (x:=a) (e:=dx) (by rw[e];exact Ng) (.inr ho) (fun b q hb z=>(sb.2 b hb).trans z) hd ?_
 refine⟨by rw[ao O.ne];exact ho,?_,O.ne,O'.obj,_,O'.ns,fun g=>?_,fun g hg=>?_⟩
 ·have:=lA f y fs;omega
 ·show cO ((dg f y fs).lookup g) (if g=f then some u else mA g)
  rw[iR]
  by_cases q:g=f
  ·rw[if_pos q,if_pos q];exact ry
  ·rw[if_neg q,if_neg q];exact r g
 ·by_cases q:g=f
  ·rw[q];exact(kL f y fs).1
  ·refine(kL f y fs).2 g (wi g fun z=>hg ?_)
   show(if g=f then some u else mA g)=none
   rw[if_neg q];exact z
def Inv.made (I:Inv X pins σ H s):Inv X pins σ (upd (upd H s.heap.objs.size (.own (s.heap.objs.size+1))) (s.heap.objs.size+1) (.ins C s.heap.objs.size []))
  {s with heap:=(s.heap.push Oc).push (Pc C s.heap.objs.size)}:=by
 have e1:(s.heap.push Oc).get? s.heap.objs.size=some Oc:=Mu s.heap rfl
 have e2:((s.heap.push Oc).push (Pc C s.heap.objs.size)).get? (s.heap.objs.size+1)=some (Pc C s.heap.objs.size):=by
  have:=Mu (s.heap.push Oc) (o:=Pc C s.heap.objs.size) rfl
  rwa [Re]at this
 have e3:(s.heap.push Oc).Ns s.heap.objs.size (fun _=>none):=⟨Oc,#[],_,e1,rfl,(fun e he=>absurd he (by simp)),fun _=>rfl⟩
 have I1:=I.laid (a:=s.heap.objs.size) (o:=.own (s.heap.objs.size+1)) (h':=s.heap.push Oc) (t':=s.toks) (fun b u q=>Lt _ q) (pv _) ⟨_,e1⟩
 refine I1.laid (a:=s.heap.objs.size+1) (o:=.ins C s.heap.objs.size []) (t':=s.toks) (fun b u q=>Lt _ q) (QF (Re _ _)) ?_
 have ne:s.heap.objs.size≠s.heap.objs.size+1:=Ml (Ph _)
 refine⟨by rw[ao ne,ag],MS _,ne,e2,fun _=>none,(RC e3).at fun o q=>Lt _ q,fun _=>Ng,fun y hy=>absurd rfl hy⟩
def sZ {prog:Ms}{w:MG}{env:Env}{e:Expr}{f:Str}{pos:Pos}{s:If}{Q:tx->If->Prop}(hb:attributeBase e f env (eval e env)=eval e env)
  (h:wpAny (model prog w) A (eval e env) (fun o s₁=>wpAny (model prog w) A (getAttr o f true) Q E s₁) E s):wpAny (model prog w) A (eval (.Attribute e f pos) env) Q E s:=
 Attribute_any_ h (by rw[arm_eval_Attribute,hb])
end
inductive FlI (K:cW)(f:Str)(x:V)(H1:Hp)(Q:VK):Prop|mk (a C dx:Addr)(fs:List (Str×V))(v:V)(_:x=.ref a)(_:H1 a=some (.ins C dx fs))(_:Cls K C)(_:dM K C f)(_:fs.lookup f=some v)(_:Q v H1)
def eK (K:cW)(ta:TE)(f:Str):TE:=fun σ H Q=>ta σ H fun x H1=>FlI K f x H1 Q
def iM (K:cW)(ta tv:TE)(f:Str):TS:=fun D σ H=>tv σ H fun y H1=>ta σ H1 fun x H2=>∃a C dx fs,x=.ref a/\H2 a=some (.ins C dx fs)/\Cls K C/\dM K C f/\fs.length<1000/\
 D.nx σ (upd H2 a (.ins C dx (dg f y fs)))
section
variable {X:Cx}{o e value:Expr}{f:Str}{pos pos' tpos:Pos}{ta tv:TE}
def Cw (he:PE X e ta)(hb:attributeBase e f X.env (eval e X.env)=eval e X.env):PE X (.Attribute e f pos) (eK X.K ta f):=by
 intro pins s σ H Q I h
 refine sZ hb (thn (he pins s σ H _ I h) fun u s1 ⟨x,H1,I1,rx,a,C,dx,fs,v,ex,ea,c,n,l,q⟩=>?_)
 subst ex
 obtain rfl:u=Mn a:=rx
 exact mK I1 ea c n l fun u' s2 I2 ru=>⟨v,H1,I2,ru,q⟩
def FE (ha:PE X o ta)(hv:PE X value tv)(hs:swapsWith value (some (.Attribute o f pos')) pos.line X.env=pure false):PS X (.Assign [.Attribute o f pos'] value pos) (iM X.K ta tv f):=by
 intro pins s σ H D I h
 refine QX (thn (hv pins s σ H _ I h) fun u s1 ⟨y,H1,I1,ry,q⟩=>thn (ha pins s1 σ H1 _ I1 q) fun ov s2 ⟨x,H2,I2,rx,a,C,dx,fs,ex,ea,c,n,l,q2⟩=>?_) hs
 subst ex
 obtain rfl:ov=Mn a:=rx
 exact vp I2 ea c n l ry fun s3 I3=>⟨σ,_,I3,q2⟩
end
section
variable {X:Cx}{pins:List (Addr×Obj)}{σ:St}{H:Hp}{s:If}{A:Mw}{E:tx->If->Prop}{Q:tx->If->Prop}{c:tx}{b:Bool}
inductive gk (K:cW)(H:Hp):V->tx->Prop where
 |non:gk K H .non (.type "NoneType")
 |bl (x:Bool):gk K H (.bl x) (.type "bool")
 |int (i:Int):gk K H (.int i) (.type "int")
 |str (x:Str):gk K H (.str x) (.type "str")
 |flt (x:UInt64):gk K H (.flt x) (.type "float")
 |lst {a:Addr} {xs:List V} (e:H a=some (.lst xs)):gk K H (.ref a) (.type "list")
 |frz {a:Addr} {o:Obj} {xs:List V} (e:H a=some (.frz o (.lst xs))):gk K H (.ref a) (.type "list")
 |tup {a:Addr} {xs:List V} (e:H a=some (.tup xs)):gk K H (.ref a) (.type "tuple")
 |dK {a:Addr} {kvs:List (Key×V)} (e:H a=some (.dK kvs)):gk K H (.ref a) (.type "dict")
 |dT {a:Addr} {kvs:List (List Key×V)} (e:H a=some (.dT kvs)):gk K H (.ref a) (.type "dict")
 |ins {a C dx:Addr} {fs:List (Str×V)} (e:H a=some (.ins C dx fs)) (cl:Cls K C) (ha:Mq K (.ref C) "__class__"=some (some (.builtin "object.__class__")))
  (hn:W.specialIn K (.builtin "object.__class__") "__get__"=some (some (.builtin "getset_descriptor.__get__"))) (htk:W.takesIn K (.builtin "object.__class__")=some true)
  (hm:ML K C (.type "object")=some true):gk K H (.ref a) (.ref C)
def vF {x:V}{u t:tx}(I:Inv X pins σ H s)(rx:aS x u)(ty:gk X.K H x t)(e:Gt X.K t c=some b)(h:∀tk,Q (.bool b) {s with toks:=tk}):
  wpAny (model X.prog X.w) A (call (.builtin "isinstance") [u,c]) Q E s:=by
 cases ty with
 |non=>cases (show u=Oj from rx);exact NZ W.kitx_none I.kIn Ng e (fun z=>nomatch z) h
 |bl y=>cases (show u=NP y from rx);exact NZ W.kitx_bool I.kIn Ng e (fun z=>nomatch z) h
 |int i=>obtain⟨t,q⟩:=(show ∃t,u=PX i t from rx);cases q;exact NZ W.kitx_int I.kIn Ng e (fun z=>nomatch z) h
 |str y=>obtain⟨t,q⟩:=(show ∃t,u=On y t from rx);cases q;exact NZ W.kitx_str I.kIn Ng e (fun z=>nomatch z) h
 |flt y=>obtain⟨t,q⟩:=(show ∃t,u=RN y t from rx);cases q;exact NZ W.kitx_float I.kIn Ng e (fun z=>nomatch z) h
 | @lst a xs ea=>
   cases (show u=Mn a from rx)
   obtain⟨_,_,n,_,h1⟩:=(show bg X.prog X.w H s.heap a (.lst xs)from I.hok a _ ea)
   exact NZ W.kitx_list I.kIn ⟨_,h1,rfl⟩ e (fun z=>nomatch z) h
 | @frz a ob xs ea=>
   cases (show u=Mn a from rx)
   obtain⟨_,_,_,n,_,h1⟩:=(show bg X.prog X.w H s.heap a (.frz ob (.lst xs))from I.hok a _ ea)
   exact NZ W.kitx_list I.kIn ⟨_,h1,rfl⟩ e (fun z=>nomatch z) h
 | @tup a xs ea=>
   cases (show u=Mn a from rx)
   obtain⟨_,_,_,p⟩:=(show bg X.prog X.w H s.heap a (.tup xs)from I.hok a _ ea)
   obtain⟨o,h1,h2,_⟩:=p
   exact NZ W.kitx_tuple I.kIn ⟨o,h1,h2⟩ e (fun z=>nomatch z) h
 | @dK a kvs ea=>
   cases (show u=Mn a from rx)
   obtain⟨_,_,vs,_,p⟩:=(show bg X.prog X.w H s.heap a (.dK kvs)from I.hok a _ ea)
   obtain⟨o,es,ep,h1,h2,_⟩:=p
   exact NZ W.kitx_dict I.kIn ⟨o,h1,h2.1⟩ e (fun z=>nomatch z) h
 | @dT a kvs ea=>
   cases (show u=Mn a from rx)
   obtain⟨_,_,xs,_,o,es,ep,h1,h2,_⟩:=(show bg X.prog X.w H s.heap a (.dT kvs)from I.hok a _ ea)
   exact NZ W.kitx_dict I.kIn ⟨o,h1,h2.1⟩ e (fun z=>nomatch z) h
 | @ins a C dx fs ea cl ha hn htk hm=>
   cases (show u=Mn a from rx)
   obtain⟨mA,O,_⟩:=ja I.hok ea
   obtain⟨od,J,_⟩:=O.look
   exact NZ (W.kitx_own (cl.get _) cl.hd ha hn htk hm) I.kIn J e (fun z=>nomatch z) h
end
structure aX (k:Nat)(A:Mw):Prop where
 hd:A.handled=none
 dp:A.depth+3*k+5<recursionLimit
 un:A.units+16*k+200<cLine
def aX.mono {j k:Nat}{A:Mw}(r:aX k A)(h:j<=k):aX j A:=⟨r.hd,by have:=r.dp;omega,by have:=r.un;omega⟩
def aX.deeper {k:Nat}{A:Mw}(r:aX (k+1) A)(env:Env):aX k (A.deeper env):=
 ⟨r.hd,by have:=r.dp;show A.depth+1+3*k+5<_;omega,by have:=r.un;show A.units+3+16*k+200<_;omega⟩
def tR {A:Mw}{C:Addr}{us:List tx}{kw:List (Str×tx)}:(A.under (.builtin "type.__call__" ⟨.ref C::us,kw⟩)).depth=A.depth+1:=by
 first|rfl|simp[Ru,Code.weight,Code.isCreation,Code.isGuard,Code.isCaller,Code.frames,RD,guardIds]
def tQ {A:Mw}{C:Addr}{us:List tx}{kw:List (Str×tx)}:(A.under (.builtin "type.__call__" ⟨.ref C::us,kw⟩)).units=A.units+1:=by
 first|rfl|simp[Ru,Code.cUnits,Code.frames,RD]
def aX.make {k:Nat}{A:Mw}(r:aX (k+1) A)(C:Addr)(us:List tx)(kw:List (Str×tx)):aX k (A.under (.builtin "type.__call__" ⟨.ref C::us,kw⟩)):=
 ⟨r.hd,by have:=r.dp;rw[tR];omega,by have:=r.un;rw[tQ];omega⟩
def aX.depth {k:Nat}{A:Mw}(r:aX k A):A.depth<recursionLimit:=by have:=r.dp;omega
def ak:TA:=fun _ H Q=>Q [] H
def ae (ta:TE)(tr:TA):TA:=fun σ H Q=>ta σ H fun x H1=>tr σ H1 fun xs H2=>Q (x::xs) H2
section
variable {X:Cx}{e:Expr}{es:List Expr}{te:TE}{t:TA}{pos:Pos}
def FD:PA X [] ak:=fun _ _ _ _ H Q I h=>Sh ⟨[],H,I,.nil,h⟩
def AZ (ha:PE X e te)(hr:PA X es t)(hs:starEach (e::es) X.env=(false,eval e X.env)::starEach es X.env:=by rfl):PA X (e::es) (ae te t):=by
 intro pos pins s σ H Q I h
 rw[hs]
 show wpAny _ _ (spliced ((false,eval e X.env)::backTo pos (starEach es X.env))) _ _ s
 refine Sd (thn (ha pins s σ H _ I h) fun u s1 ⟨x,H1,I1,r1,q1⟩=>?_)
 exact thn (hr pos pins s1 σ H1 _ I1 q1) fun us s2 ⟨xs,H2,I2,r2,q2⟩=>⟨x::xs,H2,I2,.cons r1 r2,q2⟩
def bh (t:TA):TE:=fun σ H Q=>t σ H fun xs H1=>xs.length<=sizeLine/\∀p,H1 p=none->Q (.ref p) (upd H1 p (.tup xs))
def dE (t:TA):TE:=fun σ H Q=>t σ H fun xs H1=>xs.length<=sizeLine/\∀p,H1 p=none->Q (.ref p) (upd H1 p (.lst xs))
def Dd {x1}(h:PA X es t):PE X (.Tuple es x1 pos) (bh t):=by
 intro pins s σ H Q I hq
 refine wpAny_Tuple_spliced (thn (h pos pins s σ H _ I hq) fun us s1 ⟨xs,H1,I1,r,z,q⟩=>⟨by rw[<-r.length];exact z,?_⟩)
 have hf:H1 s1.heap.objs.size=none:=I1.hok.fresh (pv _)
 refine⟨.ref s1.heap.objs.size,upd H1 s1.heap.objs.size (.tup xs),I1.laid (t':=s1.toks) (fun b u e=>Lt _ e) (pv _) ?_,rfl,q _ hf⟩
 exact⟨z,us,r,⟨_,Mu _ rfl,rfl,_,rfl⟩⟩
def Fu (h:PA X es t):PE X (.List es pos) (dE t):=by
 intro pins s σ H Q I hq
 refine wpAny_List_spliced (thn (h pos pins s σ H _ I hq) fun us s1 ⟨xs,H1,I1,r,z,q⟩=>⟨by rw[<-r.length];exact z,?_⟩)
 have hf:H1 s1.heap.objs.size=none:=I1.hok.fresh (pv _)
 refine⟨.ref s1.heap.objs.size,upd H1 s1.heap.objs.size (.lst xs),I1.laid (t':=s1.toks) (fun b u e=>Lt _ e) (pv _) ?_,rfl,q _ hf⟩
 exact⟨z,us,0,r,Mu _ rfl⟩
end
abbrev Sp:=List V->Hp->VK->XK->Prop
abbrev CXT:=List Env->Hp->If->XK->tx->If->Prop
structure iK (P:Ms)(w:MG)(K:cW)(mg:Str->Option tx)(base:Heap)(A:Mw)(outer:List Env)(s:If)(H:Hp):Prop where
 frames:A.frames=some outer
 mod:Mod K mg base
 bs:∀b o,base.get? b=some o->s.heap.get? b=some o/\H b=none
 bsz:base.objs.size<=s.heap.objs.size
 funs:s.heap.FunFrames base outer
 frf:∀b∈frs outer,H b=none
 hok:HOk P w H s.heap
 bare:Pe s.gens
def CE (outer:List Env)(P:Ms)(w:MG)(H:Hp)(s:If)(Q:VK)(u:tx)(s':If):Prop:=
 ∃v H',s'.os=s.os/\Pe s'.gens/\Un (frs outer) [] H H' s.heap s'.heap/\HOk P w H' s'.heap/\aS v u/\Q v H'
def CR (CX:CXT)(outer:List Env)(P:Ms)(w:MG)(H:Hp)(s:If)(Q:VK)(E:XK)(r:Qs)(s':If):Prop:=
 match r with
 |.ok (.ret u)=>CE outer P w H s Q u s'
 |.ok _=>False
 |.error e=>CX outer H s E e s'
structure aP (P:Ms)(w:MG)(K:cW)(mg:Str->Option tx)(base:Heap)(CX:CXT)(k:Nat)(f:Addr)(fd:Mc)(ps:List Str)(sp:Sp):Prop where
 len:∀vs H Q E,sp vs H Q E->vs.length=ps.length
 run:∀(A:Mw)(outer:List Env)(s:If)(H:Hp)(args:Args)(us:List tx)(vs:List V)(Q:VK)(E:XK),aX k A->iK P w K mg base A outer s H->Si s fd args (ps.zip us)->ba vs us->sp vs H Q E->
  codeAny (model P w) A (.call (.ref f) args) (CR CX outer P w H s Q E) s
def iK.make {P:Ms}{w:MG}{K:cW}{mg:Str->Option tx}{base:Heap}{A:Mw}{outer:List Env}{s:If}{H:Hp}(e:iK P w K mg base A outer s H)(C:Addr)(us:List tx)(kw:List (Str×tx)):
 iK P w K mg base (A.under (.builtin "type.__call__" ⟨.ref C::us,kw⟩)) outer s H:=⟨by first|exact e.frames|(simpa[Ru,Code.envs,RD,pushEnvs]using e.frames),e.mod,e.bs,e.bsz,e.funs,e.frf,e.hok,e.bare⟩
section
variable {X:Cx}{pins:List (Addr×Obj)}{σ:St}{H:Hp}{s s':If}
def Inv.env0 (I:Inv X pins σ H s):iK X.prog X.w X.K X.mg X.base X.A X.stack s H:=
 ⟨I.ok.frames,I.ok.mod,I.bs,Mv I.ok.bsz I.sz,I.stack,I.stkFree,I.hok,I.bare⟩
def Inv.after {Q:VK}{u:tx}(I:Inv X pins σ H s)(h:CE X.stack X.prog X.w H s Q u s'):EP X pins σ Q u s':=by
 obtain⟨v,H',os,bare,un,hok,r,q⟩:=h
 obtain⟨hh,g,d,t,os'⟩:=s'
 obtain rfl:os'=s.os:=os
 exact⟨v,H',I.call (h':=hh) (g':=g) (d':=d) (t':=t) (ch:=[]) un hok bare (fun b z=>absurd z (by simp)),r,q⟩
end
def bK (K:cW)(fd:Mc)(ps:List Str)(ds:List tx):Prop:=
 ∀(s:If)(us:List tx),K.In s.heap->(us++ds).length=ps.length->Si s fd ⟨us,[]⟩ (ps.zip (us++ds))
def bK.all {K:cW}{fd:Mc}{ps:List Str}(h:∀us:List tx,us.length=ps.length->bindArgs fd ⟨us,[]⟩=pure (ps.zip us)):bK K fd ps []:=fun s us _ hl=>by
 rw[MU]at hl⊢
 exact .of_eq (h us hl)
section
variable {X:Cx}{CX:CXT}{k:Nat}{f C:Addr}{fd:Mc}{ps:List Str}{sp:Sp}{dvs:List V}{ds:List tx}{E:XK}{x m:Str}{p pos apos:Pos}{e o:Expr}{es:List Expr}{ta:TE}{t:TA}
structure Mk (K:cW)(C f:Addr):Prop where
 makes:Rn K C=true
 init:Mq K (.ref C) "__init__"=some (some (.ref f))
 fn:Pb K (.ref f)=true
 kp:Oh K (.ref C)=true
end
def PK (X:Cx)(kws:List Keyword)(t:TA):Prop:=
 ∀(pos:Pos)(pins:List (Addr×Obj))(s:If)(σ:St)(H:Hp)(Q:List V->Hp->Prop),Inv X pins σ H s->t σ H Q->wpAny (model X.prog X.w) X.A (evalAll ((backToKw pos (keywordEach kws X.env)).map (·.2))) (AP X pins σ Q) X.xe s
structure aD (N P:List Str)(sc:Scope):Prop where
 kind:sc.kind=.function
 co:sc.isCoroutine=false
 gen:sc.isGenerator=false
 nd:N.Nodup
 pre:N.take P.length=P
 par:∀x∈P,sc.names.lookup x=some .local\/sc.names.lookup x=some .cell
 nofree:∀y∈sc.names,y.2≠.free
theorem oS {kindOf:Str->Option NG}{x:Str}:∀{binds:List (Str×tx)}{m:Str->Option tx},(∀v,(x,v)∉binds)->bindL kindOf binds m x=m x
 |[],_,_=>rfl
 |(n,v)::r,m,h=>by
  unfold bindL
  rw[oS fun w hw=>h w (Mm _ hw)]
  split
  ·have:x≠n:=by rintro rfl;exact h v MD
   simp[this]
  ·rfl
theorem pc {kindOf:Str->Option NG}{x:Str}:∀{binds:List (Str×tx)}{m:Str->Option tx},(∀v,(x,v)∉binds)->bindC kindOf binds m x=m x
 |[],_,_=>rfl
 |(n,v)::r,m,h=>by
  unfold bindC
  rw[pc fun w hw=>h w (Mm _ hw)]
  split
  ·rfl
  ·have:x≠n:=by rintro rfl;exact h v MD
   simp[this]
theorem oJ {kindOf:Str->Option NG}{x:Str}{v:tx}:∀{P:List Str}{vs:List tx}{i:Nat}{m:Str->Option tx},P.Nodup->P[i]? =some x->vs[i]? =some v->kindOf x=some .local->
  bindL kindOf (P.zip vs) m x=some v
 |[],_,_,_,_,h,_,_=>by simp at h
 |_::_,[],_,_,_,_,h,_=>by simp at h
 |p::P,w::vs,0,m,nd,h1,h2,hk=>by
  simp at h1 h2;subst h1;subst h2
  show bindL kindOf ((p,w)::P.zip vs) m p=_
  unfold bindL
  rw[oS fun v hv=>(MQ.mp nd).1 (Nm hv).1,if_pos hk]
  simp
 |p::P,w::vs,i+1,m,nd,h1,h2,hk=>by
  show bindL kindOf ((p,w)::P.zip vs) m x=_
  unfold bindL
  exact oJ (i:=i) (MQ.mp nd).2 (by simpa using h1) (by simpa using h2) hk
theorem oG {kindOf:Str->Option NG}{x:Str}{v:tx}:∀{P:List Str}{vs:List tx}{i:Nat}{m:Str->Option tx},P.Nodup->P[i]? =some x->vs[i]? =some v->kindOf x≠some .local->
  bindC kindOf (P.zip vs) m x=some v
 |[],_,_,_,_,h,_,_=>by simp at h
 |_::_,[],_,_,_,_,h,_=>by simp at h
 |p::P,w::vs,0,m,nd,h1,h2,hk=>by
  simp at h1 h2;subst h1;subst h2
  show bindC kindOf ((p,w)::P.zip vs) m p=_
  unfold bindC
  rw[pc fun v hv=>(MQ.mp nd).1 (Nm hv).1,if_neg hk]
  simp
 |p::P,w::vs,i+1,m,nd,h1,h2,hk=>by
  show bindC kindOf ((p,w)::P.zip vs) m x=_
  unfold bindC
  exact oG (i:=i) (MQ.mp nd).2 (by simpa using h1) (by simpa using h2) hk
def start (N:List Str)(vs:List V):St:=vs.map some++Ri (N.length- vs.length) none
def cq (CX:CXT)(P:Ms)(w:MG)(K:cW)(mg:Str->Option tx)(base:Heap)(N:List Str)(qual:Str)(scope:Scope)(f:Addr)(cd:tx)(A:Mw)(outer:List Env)(s:If)(H:Hp)(E:XK):Cx where
 prog:=P
 w:=w
 K:=K
 mg:=mg
 base:=base
 A:=A.deeper (envOfC qual scope s.heap.objs.size f cd)
 N:=N
 s₀:=s
 H₀:=H
 env:=envOfC qual scope s.heap.objs.size f cd
 outer:=outer
 stack:=envOfC qual scope s.heap.objs.size f cd::outer
 ex:=[]
 calm:=true
 fn:=fun _=>true
 pn:=[]
 xe:=fun e s'=>wpAny (model P w) (A.deeper (envOfC qual scope s.heap.objs.size f cd)) (leaving (envOfC qual scope s.heap.objs.size f cd) e) (fun _ s''=>CX outer H s E e s'') (fun e' s''=>CX outer H s E e' s'') s'
def rz {sc:Scope}{n:Nat}{x:Str}(h:sc.names.lookup x=some .cell):∃c,(cellsFrom n sc.names []).lookup x=some c:=by
 have q:=QY sc.names n [] (.inl h)
 exact Mt.mp q
def oW {CX:CXT}{P:Ms}{w:MG}{K:cW}{mg:Str->Option tx}{base:Heap}{N ps:List Str}{qual:Str}{scope:Scope}{f:Addr}{cd:tx}{A:Mw}{outer:List Env}{s s1:If}{H:Hp}{E:XK}{us:List tx}{vs:List V}
  (S:aD N ps scope)(hd:A.handled=none)(e0:iK P w K mg base A outer s H)(hl:vs.length=ps.length)(r:ba vs us)
  (x:InCallC s s.heap.objs.size (bindL (envOfC qual scope s.heap.objs.size f cd).kindOf (ps.zip us) fun _=>none) (cellsFrom (s.heap.objs.size+1) scope.names []) (bindC (envOfC qual scope s.heap.objs.size f cd).kindOf (ps.zip us) fun _=>none) s1):
  Inv (cq CX P w K mg base N qual scope f cd A outer s H E) [] (start N vs) H s1:=by
 have hpl:ps.length<=N.length:=by have:=congrArg QU S.pre;rw[NX]at this;omega
 obtain⟨h1,tk,rfl,hk⟩:=x.done
 have noA:∀b:Addr,b∉(cq CX P w K mg base N qual scope f cd A outer s H E).ex:=fun b z=>absurd (show b∈([]:List Addr)from z) (by simp)
 refine⟨⟨e0.mod,S.kind,rfl,rfl,pv _,fun y z c h1 h2=>?_,fun y hy=>?_,fun y c _ h=>?_,fun _=>hd,RA e0.frames,.inr ⟨rfl,rfl⟩,fun b z=>absurd z (noA b),e0.bs,e0.bsz,fun b _ _=>noA b,fun b z=>absurd z (noA b),e0.funs,e0.frf⟩,
  rfl,e0.bare,Un.kept hk,⟨_,x.toInCall.ns,fun i y v h1 h2 h3=>?_⟩,fun y c h=>⟨_,x.cell y c h⟩,e0.hok.fresh (pv _),fun y c h=>?_,fun p hp=>absurd (show p∈([]:List (Addr×Obj))from hp) (by simp),e0.hok.kept hk,?_⟩
 ·exact name_of_addr x.apart (Nb h1) (Nb h2)
 ·have hy:scope.names.lookup y=some .cell\/scope.names.lookup y=some .free:=hy
  rcases hy with hy|hy
  ·exact rz hy
  ·exact absurd rfl (S.nofree _ (Nb hy))
 ·exact Ob (x.above y c (Nb h))
 ·have hi:i<vs.length:=by
   unfold start at h2
   by_cases hi:i<vs.length
   ·exact hi
   ·rw[MK (by simpa using hi)]at h2
    rw[Rv]at h2
    split at h2<;>cases h2
  have ha:vs[i]?=some v:=by
   unfold start at h2
   rw[MT (by simpa using hi),ME]at h2
   cases e:vs[i]? with
   |none=>rw[e]at h2;cases h2
   |some a=>rw[e]at h2;cases h2;rfl
  obtain⟨u,hu,rv⟩:=r.get ha
  have hp:ps[i]?=some y:=by
   rw[<-S.pre,NB (by omega)];exact h1
  have ndP:ps.Nodup:=by rw[<-S.pre];exact S.nd.sublist (Sr _ _)
  refine⟨u,rv,?_⟩
  rcases S.par y (Mz hp)with k|k
  ·exact .inl ⟨k,oJ ndP hp hu k⟩
  ·obtain⟨c,e⟩:=rz (n:=s.heap.objs.size+1) k
   refine .inr ⟨.inl k,c,e,?_⟩
   have q:=x.cell y c e
   rw[oG ndP hp hu (by show scope.names.lookup y≠_;rw[k];decide)]at q
   exact q
 ·exact e0.hok.fresh (Ob (x.above y c (Nb h)))
 ·unfold start
  show _=N.length
  rw[Mr,Mf,Pr]
  omega
def zT {CX:CXT}{P:Ms}{w:MG}{K:cW}{mg:Str->Option tx}{base:Heap}{k:Nat}{f:Addr}{name qual:Str}{params:Arguments}{body:List Stmt}{scope:Scope}{dV kV doc pm cdv ct oc:tx}{an od:Option Addr}
  {osl:Array (Option tx)}{N ps:List Str}{sp:Sp}(lk:K.lookup f=some ⟨oc,od,.func (Oi name qual params body scope dV kV doc pm an cdv ct),osl⟩)(hcd:SZ K cdv qual=true)(S:aD N ps scope)
  (len:∀vs H Q E,sp vs H Q E->vs.length=ps.length)
  (hbody:∀(A:Mw)(outer:List Env)(s:If)(H:Hp)(vs:List V)(Q:VK)(E:XK),aX k (A.deeper (envOfC qual scope s.heap.objs.size f cdv))->sp vs H Q E->
   ∃t,PSs (cq CX P w K mg base N qual scope f cdv A outer s H E) body t/\t {nx:=fun _ H'=>Q .non H',rt:=Q} (start N vs) H):
  aP P w K mg base CX (k+1) f (Oi name qual params body scope dV kV doc pm an cdv ct) ps sp:=by
 refine⟨len,fun A outer s H args us vs Q E hr e0 hb r hsp=>?_⟩
 have hl:=len _ _ _ _ hsp
 have KX:K.In s.heap:=e0.mod.kin.keeps fun b o e=>(e0.bs b o e).1
 have lim:s.heap.NoLimit:=e0.mod.nolimit.keeps fun b o e=>(e0.bs b o e).1
 have hkind:∀y∈ps.zip us,scope.names.lookup y.1=some .local\/(scope.names.lookup y.1=some .cell/\((cellsFrom (s.heap.objs.size+1) scope.names []).lookup y.1).isSome=true):=fun⟨n,v⟩ hy=>by
  rcases S.par n (Nm hy).1 with q|q
  ·exact .inl q
  ·exact .inr ⟨q,QY _ _ _ (.inl q)⟩
 refine PV hr.depth (KX _ _ lk) rfl S.co S.gen rfl (W.codeRec_of KX hcd) (hb _ _ _ _ ?_)
 refine RB S.kind hkind fun env he s1 x=>?_
 subst he
 refine⟨lim.keeps x.toInCall.keep,SD ?_⟩
 obtain⟨t,ht,hq⟩:=hbody A outer s H vs Q E (hr.deeper _) hsp
 have I:Inv (cq CX P w K mg base N qual scope f cdv A outer s H E) [] (start N vs) H s1:=oW S hr.hd e0 hl r x
 refine Mx (ht [] s1 (start N vs) H _ I hq) (fun fl s' hs=>?_) fun e s' hs=>hs
 have fin:∀{σ':St}{H':Hp}{v:V}{u:tx},Inv (cq CX P w K mg base N qual scope f cdv A outer s H E) [] σ' H' s'->aS v u->Q v H'->CE outer P w H s Q u s':=
  fun{σ' H' v u} J rv q=>⟨v,H',J.os,J.bare,J.base,J.hok,rv,q⟩
 cases fl with
 |ret u=>
  obtain⟨v,σ',H',J,rv,q⟩:=hs
  exact fin J rv q
 |next=>
  obtain⟨σ',H',J,q⟩:=hs
  exact fin (v:=V.non) (u:=Oj) J rfl q
 |brk=>
  obtain⟨_,_,_,q⟩:=hs
  exact MB q
 |cont=>
  obtain⟨_,_,_,q⟩:=hs
  exact MB q
section
variable {X:Cx}{x:Str}{p pos:Pos}{e:Expr}{es:List Expr}{t:TA}{id T:String}{r:List V->Hp->VK->Prop}
def tCB (r:List V->Hp->VK->Prop)(t:TA):TE:=fun σ H Q=>t σ H fun vs H1=>r vs H1 Q
def xw (hc:bX X (.builtin id) r)(hg:Gl X x)(hm:X.mg x=none)(hv:bootBuiltins x=some (.builtin id))(ha:PA X (e::es) t)(hn:x≠"__name__":=by decide)(hdb:(x==("__debug__":Str))=false:=by decide)
  (he:starEach (e::es) X.env=(false,eval e X.env)::starEach es X.env:=by rfl)(hpl:(backTo pos (starEach es X.env)).any (·.1)=false:=by rfl):PE X (.Call (.Name x p) (e::es) [] pos) (tCB r t):=by
 intro pins s σ H Q I h
 refine MV (ix I hg hm hv ?_ hn hdb)
 exact PyProof.Rows.callWith_builtin1 (thn (ha pos pins s σ H _ I h) fun us s1 ⟨vs,H1,I1,r1,q1⟩=>hc pins s1 σ H1 vs us Q I1 r1 q1) he hpl
def wX (hc:bX X (.type T) r)(hg:Gl X x)(hm:X.mg x=none)(hv:bootBuiltins x=some (.type T))(ha:PA X (e::es) t)(hn:x≠"__name__":=by decide)(hdb:(x==("__debug__":Str))=false:=by decide)
  (he:starEach (e::es) X.env=(false,eval e X.env)::starEach es X.env:=by rfl)(hpl:(backTo pos (starEach es X.env)).any (·.1)=false:=by rfl):PE X (.Call (.Name x p) (e::es) [] pos) (tCB r t):=by
 intro pins s σ H Q I h
 refine MV (ix I hg hm hv ?_ hn hdb)
 exact Ni (thn (ha pos pins s σ H _ I h) fun us s1 ⟨vs,H1,I1,r1,q1⟩=>hc pins s1 σ H1 vs us Q I1 r1 q1) he hpl
end
end L2
namespace HT
open PySem PyProof.Rows
section
open PySem.SeqAt
open PySem.AutoSeq1 (wpAny_loadPart')
open PySem.MeetsSeq PySem.MeetsSeq2 PySem.MeetsSeq3
end
section
variable {prog:Ms}{w:MG}{A:Mw}{E:tx->If->Prop}{s:If}
def AX {t b:Addr}{vs ws:List tx}{Q:tx->If->Prop}(ht:Ut s.heap t vs.toArray)(hb:Ut s.heap b ws.toArray)(hv:vs≠[])
  (h1:ws=[]->Q (.ref t) s)(h2:ws≠[]->Q (.ref s.heap.objs.size) {s with heap:=s.heap.push {cls:=.type "tuple",data:=.seq (vs++ws).toArray}})
  (hsz:vs.length+ws.length<=sizeLine):wpAny (model prog w) A (binaryOp .Add (.ref t) (.ref b)) Q E s:=by
 obtain⟨⟨cls,dd,data,sl⟩,ho,hc,n,hd⟩:=id ht
 obtain⟨⟨cls2,dd2,data2,sl2⟩,ho2,hc2,n2,hd2⟩:=id hb
 simp only at hc hd hc2 hd2
 subst hc hd hc2 hd2
 have e:vs.toArray++ws.toArray=(vs++ws).toArray:=by simp
 by_cases hw:ws=[]
 ·exact SC ⟨_,ho,rfl⟩ ⟨_,ho2,rfl⟩ Rm Se OU OR (OK _ _)
   (tuple_addW1 t b vs.toArray ws.toArray n n2 dd dd2 sl sl2 (by simpa using hv) (by simp[hw])) ⟨ho,ho2,h1 hw⟩
 ·refine SC ⟨_,ho,rfl⟩ ⟨_,ho2,rfl⟩ Rm Se OU OR (OK _ _)
   (tuple_addW2 t b vs.toArray ws.toArray n n2 dd dd2 sl sl2 (by simpa using hv) (by simpa using hw) (by rw[Me,Me];exact hsz)) ⟨ho,ho2,?_⟩
  rw[e]
  exact h2 hw
def sIx (n d:Nat):Option Int->Nat
 |none=>d
 |some v=>if v<0 then(v+(n:Int)).toNat else min v.toNat n
def lZ (n d:Nat):sIx n d none=d:=rfl
def tI (n d k:Nat):sIx n d (some (k:Int))=min k n:=by
 show(if (k:Int)<0 then((k:Int)+(n:Int)).toNat else min (k:Int).toNat n)=min k n
 rw[if_neg (by omega),Oq]
def Fv (n d:Nat)(hd:d<=n)(o:Option Int):sIx n d o<=n:=by
 cases o with
 |none=>exact hd
 |some v=>
  show(if v<0 then(v+(n:Int)).toNat else min v.toNat n)<=n
  by_cases hv:v<0
  ·rw[if_pos hv];omega
  ·rw[if_neg hv];exact QL _ _
def sC (v:Int)(n d:Nat):(if v<0 then max (v+(n:Int)) 0 else min v (n:Int))=((sIx n d (some v):Nat):Int):=by
 show(if v<0 then max (v+(n:Int)) 0 else min v (n:Int))=(((if v<0 then(v+(n:Int)).toNat else min v.toNat n):Nat):Int)
 by_cases hv:v<0
 ·simp only[if_pos hv];omega
 ·simp only[if_neg hv];omega
def uf (lo hi:Option Int)(n:Nat):Ov lo hi 1 (n:Int)=(((sIx n 0 lo:Nat):Int),((sIx n n hi:Nat):Int)):=by
 have h1:¬((1:Int)<0):=by omega
 unfold Ov
 simp only[h1,if_false]
 refine TC ?_ ?_
 ·cases lo with
  |none=>rfl
  |some v=>exact sC v n 0
 ·cases hi with
  |none=>rfl
  |some v=>exact sC v n n
def uq (i j:Nat):NM (i:Int) (j:Int) 1=j- i:=by
 unfold NM
 have h1:(1:Int)>0:=by omega
 simp only[h1,if_true,Int.ediv_one]
 split<;>omega
def me {v:tx}{o:Option Int}{Q:Option Int->If->Prop}(p:Rc v o)(h:Q o s):wpAny (model prog w) A (Uq v) Q E s:=by
 cases p with
 |none=>exact slicePart_none h
 |int i t=>exact slicePart_int h
def iB {sl:Addr}{vl vu:tx}{lo hi:Option Int}{n:Nat}{Q:Int×Int×Nat->If->Prop}(hs:s.heap.IsSliceOf sl vl vu .none)(pl:Rc vl lo)(pu:Rc vu hi)
  (h:Q (((sIx n 0 lo:Nat):Int),1,sIx n n hi- sIx n 0 lo) s):wpAny (model prog w) A (PR (.ref sl) (pure (n:Int))) Q E s:=by
 obtain⟨os,hos,hcs,hds⟩:=id hs
 unfold PR Ur
 refine gV (gV (OQ hos hds (x:=vl) rfl (gV (OQ hos hds (x:=vu) rfl (gV (OQ hos hds (x:=.none) rfl (LY ?_)))))))
 refine gV (slicePart_none ?_)
 show wpAny _ _ (if ((1:Int)==0)=true then _ else _) _ _ s
 rw[if_neg (by decide)]
 refine gV (me pl (gV (me pu (gV (LY ?_)))))
 show wpAny _ _ (match Ov lo hi 1 (n:Int)with|(lo,hi)=>pure (lo,(1:Int),NM lo hi 1)) _ _ s
 rw[uf lo hi n]
 show wpAny _ _ (pure (((sIx n 0 lo:Nat):Int),(1:Int),NM ((sIx n 0 lo:Nat):Int) ((sIx n n hi:Nat):Int) 1)) _ _ s
 rw[uq]
 exact LY h
def yF (xs:Array tx)(i k:Nat):((Oz k).filterMap fun(m:Nat)=>xs[((i:Int)+(m:Int)*1).toNat]?).toArray=((xs.toList.drop i).take k).toArray:=by
 have e:(fun(m:Nat)=>xs[((i:Int)+(m:Int)*1).toNat]?)=fun m=>xs[i+m]?:=by
  funext m
  have:((i:Int)+(m:Int)*1).toNat=i+m:=by omega
  rw[this]
 rw[e]
 have:=pick_run xs i k
 rw[List.filterMap_map]at this
 have e2:((fun x=>xs[x]?)∘fun x=>i+x)=fun m=>xs[i+m]?:=rfl
 rw[e2]at this
 rw[this]
def lv {t sl:Addr}{items:Array tx}{vl vu:tx}{lo hi:Option Int}{Q:tx->If->Prop}(ht:Ut s.heap t items)(hs:s.heap.IsSliceOf sl vl vu .none)(pl:Rc vl lo)(pu:Rc vu hi)
  (hw:¬(sIx items.size 0 lo=0/\sIx items.size items.size hi=items.size))
  (h:Q (.ref s.heap.objs.size) {s with heap:=s.heap.push {cls:=.type "tuple",data:=.seq ((items.toList.drop (sIx items.size 0 lo)).take (sIx items.size items.size hi- sIx items.size 0 lo)).toArray}})
  (hsz:items.size<=sizeLine):wpAny (model prog w) A (getItem (.ref t) (.ref sl)) Q E s:=by
 have htake:sizeOk (.seq ((items.toList.drop (sIx items.size 0 lo)).take (sIx items.size items.size hi- sIx items.size 0 lo)).toArray):=by
  show((items.toList.drop (sIx items.size 0 lo)).take (sIx items.size items.size hi- sIx items.size 0 lo)).toArray.size<=sizeLine
  rw[Me,NX,QG,OB]
  omega
 have hj:sIx items.size items.size hi<=items.size:=Fv _ _ (pv _) hi
 obtain⟨os,hos,hcs,hds⟩:=id hs
 have hTs:s.TypeIs (.ref sl) "slice":=⟨os,hos,hcs⟩
 unfold getItem
 try with_reducible refine Nn ?_
 first|refine gV (LY ?_)|skip
 refine gV (TQ ht.typeIs (by decide) ?_)
 refine gV (Pu (name:=Ou "__getitem__") ht.typeIs MO
  (OG MO ht.typeIs Ts ?_ (TB _ _)))
 show wpAny _ _ (PQ (.ref t)>>=_) _ _ s
 refine gV (tupleItemsOf_ ht ?_)
 refine gV (Ra hTs ?_)
 rw[if_pos (by decide)]
 refine gV (iB hs pl pu ?_)
 have hno:¬((((sIx items.size 0 lo:Nat):Int)==0&&(1:Int)==1&&(sIx items.size items.size hi- sIx items.size 0 lo)==items.size)=true):=by
  intro q
  rw[MF,MF]at q
  have q1:((sIx items.size 0 lo:Nat):Int)=0:=SW q.1.1
  have q2:sIx items.size items.size hi- sIx items.size 0 lo=items.size:=SW q.2
  exact hw ⟨by omega,by omega⟩
 show wpAny _ _ (if (((sIx items.size 0 lo:Nat):Int)==0&&(1:Int)==1&&(sIx items.size items.size hi- sIx items.size 0 lo)==items.size)=true then _ else _) _ _ s
 rw[if_neg hno,yF]
 first
  |exact gV (m:=NO _) (NV (LY ⟨_,rfl,LY h⟩) htake)
  |exact gV (m:=NO _) (NV (gV (LY (LY ⟨_,rfl,LY h⟩))) htake)
  |exact gV (gV (m:=NO _) (NV (LY (LY ⟨_,rfl,LY h⟩)) htake))
  |exact gV (gV (m:=NO _) (NV (LY ⟨_,rfl,LY h⟩) htake))
end
end HT
namespace L2
open PySem PySem.Spec PyProof.Rows
abbrev TO:=St->Hp->(Option Int->Hp->Prop)->Prop
def PO (X:Cx)(e:Option Expr)(t:TO):Prop:=
 ∀(pins:List (Addr×Obj))(s:If)(σ:St)(H:Hp)(Q:Option Int->Hp->Prop),Inv X pins σ H s->t σ H Q->
  wpAny (model X.prog X.w) X.A (evalPart e X.env) (fun u s'=>∃o H',Inv X pins σ H' s'/\Rc u o/\Q o H') X.xe s
def fj:TO:=fun _ H Q=>Q none H
def gU (t:TE):TO:=fun σ H Q=>t σ H fun x H1=>∃i,x=.int i/\Q (some i) H1
section
variable {X:Cx}{e:Expr}{te:TE}{lo hi:Option Expr}{tl th:TO}{pos p2:Pos}
def AS:PO X none fj:=by
 intro pins s σ H Q I h
 rw[evalPart_none]
 exact LY ⟨none,H,I,.none,h⟩
def Bt (h:PE X e te):PO X (some e) (gU te):=by
 intro pins s σ H Q I hw
 rw[evalPart_some]
 refine thn (h pins s σ H _ I hw) fun u s1 ⟨x,H1,I1,r1,q1⟩=>?_
 obtain⟨i,rfl,q⟩:=q1
 obtain⟨t,rfl⟩:=r1
 exact⟨some i,H1,I1,.int i t,q⟩
def SlR (X:Cx)(r:V->Option Int->Option Int->Hp->VK->Prop):Prop:=
 ∀(pins:List (Addr×Obj))(s:If)(σ:St)(H:Hp)(x:V)(v vl vu:tx)(lo hi:Option Int)(sl:Addr)(Q:VK),Inv X pins σ H s->aS x v->s.heap.IsSliceOf sl vl vu .none->Rc vl lo->Rc vu hi->r x lo hi H Q->
  ∃T id,typeLookup (.type T) "__getitem__"=pure (some (.builtin id))/\s.TypeIs v T/\wpAny (model X.prog X.w) X.A (getItem v (.ref sl)) (EP X pins σ Q) X.xe s
def SlR.or {r r':V->Option Int->Option Int->Hp->VK->Prop}(h:SlR X r)(h':SlR X r'):SlR X (fun x lo hi H Q=>r x lo hi H Q\/r' x lo hi H Q):=by
 intro pins s σ H x v vl vu lo hi sl Q I rx hs pl pu q
 rcases q with q|q
 ·exact h pins s σ H x v vl vu lo hi sl Q I rx hs pl pu q
 ·exact h' pins s σ H x v vl vu lo hi sl Q I rx hs pl pu q
def tSl (r:V->Option Int->Option Int->Hp->VK->Prop)(te:TE)(tl th:TO):TE:=fun σ H Q=>te σ H fun x H1=>tl σ H1 fun l H2=>th σ H2 fun u H3=>r x l u H3 Q
def ya {r:V->Option Int->Option Int->Hp->VK->Prop}(hr:SlR X r)(he:PE X e te)(hl:PO X lo tl)(hu:PO X hi th):PE X (.Subscript e (.Slice lo hi none p2) pos) (tSl r te tl th):=by
 intro pins s σ H Q I h
 refine Subscript_ (thn (he pins s σ H _ I h) fun v s1 ⟨x,H1,I1,r1,q1⟩=>?_)
 refine wpAny_Slice (thn (hl pins s1 σ H1 _ I1 q1) fun vl s2 ⟨l,H2,I2,pl,q2⟩=>thn (hu pins s2 σ H2 _ I2 q2) fun vu s3 ⟨u,H3,I3,pu,q3⟩=>?_)
 rw[evalPart_none]
 refine LY ?_
 have I4:Inv X pins σ H3 {s3 with heap:=s3.heap.push {cls:=.type "slice",data:=.fields #[vl,vu,.none]}}:=I3.kept (t':=s3.toks) fun b ob q=>Lt _ q
 obtain⟨T,id,hT,ht,hg⟩:=hr pins {s3 with heap:=s3.heap.push {cls:=.type "slice",data:=.fields #[vl,vu,.none]}} σ H3 x v vl vu l u s3.heap.objs.size Q I4 r1 (Tz ..) pl pu q3
 show wpAny (model X.prog X.w) X.A (subscriptTail e (.Slice lo hi none p2) v (.ref s3.heap.objs.size)) (EP X pins σ Q) X.xe {s3 with heap:=s3.heap.push {cls:=.type "slice",data:=.fields #[vl,vu,.none]}}
 exact tail_any (ops:=[.ref s3.heap.objs.size,v]) ht hT hg (by with_unfolding_all rfl)
def fv (xs:List V)(lo hi:Option Int):List V:=(xs.drop (HT.sIx xs.length 0 lo)).take (HT.sIx xs.length xs.length hi- HT.sIx xs.length 0 lo)
def lx (xs:List V)(lo hi:Option Int):(fv xs lo hi).length<=xs.length:=by
 unfold fv
 rw[NX,QG]
 omega
def Kv (K:cW):V->Option Int->Option Int->Hp->VK->Prop:=fun x lo hi H Q=>∃a xs,x=.ref a/\SqT K H a xs/\
 ¬(HT.sIx xs.length 0 lo=0/\HT.sIx xs.length xs.length hi=xs.length)/\∀p,H p=none->Q (.ref p) (upd H p (.tup (fv xs lo hi)))
def EJ:SlR X (Kv X.K):=by
 intro pins s σ H x v vl vu lo hi sl Q I rx hs pl pu h
 obtain⟨a,xs,rfl,hx,hw,q⟩:=h
 cases rx
 obtain⟨its,r,ht,hz⟩:=I.tuple hx
 have hlen:its.toArray.size=xs.length:=by rw[Me];exact r.length.symm
 refine⟨"tuple",_,MO.lookup,ht.typeIs,?_⟩
 refine HT.lv ht hs pl pu (by rw[hlen];exact hw) ?_ (by rw[hlen];exact hz)
 rw[hlen]
 refine⟨.ref s.heap.objs.size,_,I.laid (t':=s.toks) (o:=.tup (fv xs lo hi)) (fun b ob q=>Lt _ q) (pv _) ?_,rfl,q _ (I.hok.fresh (pv _))⟩
 exact⟨Mv (lx xs lo hi) hz,_,(r.drop (HT.sIx xs.length 0 lo)).take (HT.sIx xs.length xs.length hi- HT.sIx xs.length 0 lo),SM _ _⟩
def GG (K:cW):R2:=fun x y H Q=>∃a b xs ys,x=.ref a/\y=.ref b/\SqT K H a xs/\SqT K H b ys/\xs≠[]/\xs.length+ys.length<=sizeLine/\
 (ys=[]->Q (.ref a) H)/\(ys≠[]->∀p,H p=none->Q (.ref p) (upd H p (.tup (xs++ys))))
def ba.nil_iff {xs:List V}{us:List tx}(r:ba xs us):us=[]↔xs=[]:=by
 cases r with
 |nil=>simp
 |cons _ _=>simp
def Bq:OpR X (binaryOp .Add) (GG X.K):=by
 intro pins s σ H x y v u Q I rx ry h
 obtain⟨a,b,xs,ys,rfl,rfl,ha,hb,hx,hz,q1,q2⟩:=h
 cases rx
 cases ry
 obtain⟨its,r1,p1,_⟩:=I.tuple ha
 obtain⟨its2,r2,p2,_⟩:=I.tuple hb
 refine HT.AX p1 p2 (fun z=>hx (r1.nil_iff.mp z)) (fun z=>⟨.ref a,H,I,rfl,q1 (r2.nil_iff.mp z)⟩) (fun z=>?_) (by rw[<-r1.length,<-r2.length];exact hz)
 refine⟨.ref s.heap.objs.size,_,I.laid (t':=s.toks) (o:=.tup (xs++ys)) (fun b ob q=>Lt _ q) (pv _) ?_,rfl,q2 (fun w=>z (r2.nil_iff.mpr w)) _ (I.hok.fresh (pv _))⟩
 exact⟨by rw[Mr];exact hz,_,r1.append r2,SM _ _⟩
end
def ixN (n:Nat)(i:Int):Option Nat:=if 0<=i then(if i<n then some i.toNat else none)else if-(n:Int)<=i then some (i+n).toNat else none
def atI {α:Type}(xs:List α)(i:Int):Option α:=(ixN xs.length i).bind fun j=>xs[j]?
def sA {n:Nat}{i:Int}{j:Nat}(h:ixN n i=some j):seqIndex? i n=some j/\j<n/\ -(n:Int)<=i/\i<n:=by
 unfold ixN at h
 by_cases h0:0<=i
 ·rw[if_pos h0]at h
  by_cases h1:i<n
  ·rw[if_pos h1]at h
   have e:i.toNat=j:=LW h
   exact⟨by rw[To h0 h1,e],by omega,by omega,h1⟩
  ·rw[if_neg h1]at h;cases h
 ·rw[if_neg h0]at h
  by_cases h1: -(n:Int)<=i
  ·rw[if_pos h1]at h
   have e:(i+n).toNat=j:=LW h
   exact⟨by rw[Sz (by omega) h1,e],by omega,h1,by omega⟩
  ·rw[if_neg h1]at h;cases h
def iU {α:Type}{xs:List α}{i:Int}{v:α}(h:atI xs i=some v):∃j,seqIndex? i xs.length=some j/\xs[j]? =some v/\j<xs.length/\ -(xs.length:Int)<=i/\i<xs.length:=by
 unfold atI at h
 cases e:ixN xs.length i with
 |none=>rw[e]at h;cases h
 |some j=>
  rw[e]at h
  obtain⟨h1,h2,h3,h4⟩:=sA e
  exact⟨j,h1,h,h2,h3,h4⟩
def rF {α:Type}(xs:List α)(v:α):atI (xs++[v]) (-1)=some v:=by
 have hl:(xs++[v]).length=xs.length+1:=by simp
 have e:ixN (xs++[v]).length (-1)=some xs.length:=by
  unfold ixN
  rw[hl,if_neg (by decide),if_pos (by omega)]
  congr 1
  omega
 unfold atI
 rw[e]
 show(xs++[v])[xs.length]?=some v
 simp
def sL (b:Expr):Prop:=∀o i,subscripted b false o i=operate [o,i] (getItem o i)
def IxR (X:Cx)(r:R2):Prop:=
 ∀(value slice:Expr)(pins:List (Addr×Obj))(s:If)(σ:St)(H:Hp)(x y:V)(v u:tx)(Q:VK),Inv X pins σ H s->aS x v->aS y u->r x y H Q->
  subscripted slice false v u=operate [v,u] (getItem v u)->wpAny (model X.prog X.w) X.A (subscriptTail value slice v u) (EP X pins σ Q) X.xe s
def MtR (X:Cx)(id:String)(r:V->List V->Hp->VK->Prop):Prop:=
 ∀(pins:List (Addr×Obj))(s:If)(σ:St)(H:Hp)(x:V)(xs:List V)(v:tx)(us:List tx)(Q:VK),Inv X pins σ H s->aS x v->ba xs us->r x xs H Q->
  wpAny (model X.prog X.w) X.A (call (.builtin id) (v::us)) (EP X pins σ Q) X.xe s
section
variable {X:Cx}{a b:Expr}{ta tb:TE}{pos:Pos}
def IxR.or {r r':R2}(h:IxR X r)(h':IxR X r'):IxR X (fun x y H Q=>r x y H Q\/r' x y H Q):=by
 intro value slice pins s σ H x y v u Q I rx ry q hs
 rcases q with q|q
 ·exact h value slice pins s σ H x y v u Q I rx ry q hs
 ·exact h' value slice pins s σ H x y v u Q I rx ry q hs
def HL {r:R2}(hr:IxR X r)(ha:PE X a ta)(hb:PE X b tb)(hs:sL b):PE X (.Subscript a b pos) (tOp r ta tb):=by
 intro pins s σ H Q I h
 exact Subscript_ (yP ha hb I h fun v u s2 x y H2 I2 rx ry q=>hr a b pins s2 σ H2 x y v u Q I2 rx ry q (hs _ _))
def Eb (K:cW):R2:=fun x y H Q=>∃p xs i v,x=.ref p/\y=.int i/\SqL K H p xs/\atI xs i=some v/\Q v H
def Dj (K:cW):R2:=fun x y H Q=>∃p xs i v,x=.ref p/\y=.int i/\SqT K H p xs/\atI xs i=some v/\Q v H
def Fb:R2:=fun x y H Q=>∃z i c,x=.str z/\y=.int i/\z.length<=sizeLine/\atI z.cps.toList i=some c/\Q (.str ⟨#[c]⟩) H
def By:IxR X (Eb X.K):=by
 intro value slice pins s σ H x y v u Q I rx ry h hs
 obtain⟨p,xs,i,z,rfl,rfl,hq,he,q⟩:=h
 cases rx
 obtain⟨t,rfl⟩:=ry
 obtain⟨its,r,pl,hz⟩:=I.list hq
 obtain⟨j,h1,h2,h3,h4,h5⟩:=iU he
 obtain⟨w,ew,rw'⟩:=r.get h2
 have hl:=r.length
 have hn:=jl
 have fin:EP X pins σ Q w s:=⟨z,H,I,rw',q⟩
 by_cases h0:0<=i
 ·have hj:i.toNat=j:=by
   rw[To h0 h5]at h1
   exact LW h1
  exact item_listR pl.isList h0 (by omega) (by rw[hj];simpa using ew) fin hs
 ·have hj:(i+(its.toArray.size:Int)).toNat=j:=by
   rw[Sz (by omega) h4]at h1
   rw[Me,<-hl]
   exact LW h1
  exact Sq (x:=w) pl.isList.typeIs slot_list_getitem.lookup
   (wpAny_getItem_list_neg (Q:=fun r s'=>r=w/\EP X pins σ Q r s') pl.isList (by omega) (by rw[Me]<;>omega) (by omega) (by rw[hj];simpa using ew) ⟨rfl,fin⟩) hs
def Fy:IxR X (Dj X.K):=by
 intro value slice pins s σ H x y v u Q I rx ry h hs
 obtain⟨p,xs,i,z,rfl,rfl,hq,he,q⟩:=h
 cases rx
 obtain⟨t,rfl⟩:=ry
 obtain⟨its,r,pl,hz⟩:=I.tuple hq
 obtain⟨j,h1,h2,h3,h4,h5⟩:=iU he
 obtain⟨w,ew,rw'⟩:=r.get h2
 have hl:=r.length
 have hn:=jl
 have fin:EP X pins σ Q w s:=⟨z,H,I,rw',q⟩
 exact Sq (x:=w) pl.typeIs slot_tuple_getitem.lookup
  (getItem_tuple (j:=j) (Q:=fun r s'=>r=w/\EP X pins σ Q r s') pl (by omega) (by omega) (by rw[Me,<-hl];exact h1) (by simpa using ew) ⟨rfl,fin⟩) hs
def CC:IxR X Fb:=by
 intro value slice pins s σ H x y v u Q I rx ry h hs
 obtain⟨z,i,c,rfl,rfl,hz,he,q⟩:=h
 obtain⟨t,rfl⟩:=rx
 obtain⟨t',rfl⟩:=ry
 obtain⟨j,h1,h2,h3,h4,h5⟩:=iU he
 have hl:z.cps.toList.length=z.length:=by simp[QK]
 rw[hl]at h1 h4 h5
 have hn:=jl
 exact tail_any (TY s z t) slot_str_getitem.lookup (getItem_str (c:=c) (by
  have e1:decide (i< -(2^63:Int))=false:=decide_eq_false (by omega)
  have e2:decide (i>=2^63)=false:=decide_eq_false (by omega)
  rw[e1,e2,Bool.or_false]) (by rw[h1];simpa using h2) ⟨.str ⟨#[c]⟩,H,I.tok _,⟨_,rfl⟩,q⟩) hs
def rIx (K:cW):R2:=fun x y H Q=>Eb K x y H Q\/Dj K x y H Q\/Fb x y H Q
def DX:IxR X (rIx X.K):=By.or (Fy.or CC)
def uG (its:List tx)(n j:Nat)(u:tx):OT (·.setIfInBounds j u) {cls:=.type "list",data:=.seq its.toArray n}={cls:=.type "list",data:=.seq (its.set j u).toArray n}:=by
 simp[OT]
def Inv.lst {pins:List (Addr×Obj)}{σ:St}{H:Hp}{s:If}{p:Addr}{xs:List V}(I:Inv X pins σ H s)(h:H p=some (.lst xs)):
  ∃(its:List tx)(n:Nat),ba xs its/\s.heap.get? p=some {cls:=.type "list",data:=.seq its.toArray n}/\xs.length<=sizeLine:=by
 obtain⟨z,its,n,r,e⟩:=I.hok p _ h
 exact⟨its,n,r,e,z⟩
def Inv.lstUpd {pins:List (Addr×Obj)}{σ:St}{H:Hp}{s:If}{p:Addr}{xs ys:List V}{its its':List tx}{n n':Nat}{f:Obj->Obj}(I:Inv X pins σ H s)(h:H p=some (.lst xs))
  (ho:s.heap.get? p=some {cls:=.type "list",data:=.seq its.toArray n})(hf:f {cls:=.type "list",data:=.seq its.toArray n}={cls:=.type "list",data:=.seq its'.toArray n'})(r:ba ys its')(hz:ys.length<=sizeLine)(t:Nat):
  Inv X pins σ (upd H p (.lst ys)) {s with heap:=s.heap.update p f,toks:=t}:=by
 have e:(s.heap.update p f).get? p=some {cls:=.type "list",data:=.seq its'.toArray n'}:=by
  rw[Nt f ho (by rw[hf]<;>rfl),hf]
 refine I.write (x:=p) (e:=p) (by rw[h];trivial) (.inl rfl) (fun b u hb q=>(Np _ _ (Md hb)).trans q) ⟨_,e⟩ ?_
 exact⟨hz,its',n',r,e⟩
def zK:V->V->V->Hp->(Hp->Prop)->Prop:=fun o i v H Q=>∃p xs k j,o=.ref p/\i=.int k/\H p=some (.lst xs)/\ixN xs.length k=some j/\Q (upd H p (.lst (xs.set j v)))
def yL:tU X zK:=by
 intro pins s σ H o i v ov iv u Q I ro ri rv h
 obtain⟨p,xs,k,j,rfl,rfl,hp,hj,q⟩:=h
 cases ro
 obtain⟨t,rfl⟩:=ri
 obtain⟨its,n,r,ho,hz⟩:=I.lst hp
 obtain⟨h1,h2,h3,h4⟩:=sA hj
 have hl:=r.length
 have hn:=jl
 have I':Inv X pins σ (upd H p (.lst (xs.set j v))) {s with heap:=s.heap.update p (OT (·.setIfInBounds j u))}:=
  I.lstUpd hp ho (uG its n j u) (r.set rv j) (by rw[List.length_set];exact hz) s.toks
 by_cases h0:0<=k
 ·have hk:k.toNat=j:=by
   rw[To h0 h4]at h1
   exact LW h1
  exact W.ki_setAt ho h0 (by omega) (by rw[Me,<-hl];exact h4) (by rw[hk];exact⟨_,I',q⟩)
 ·have hk:(k+(its.toArray.size:Int)).toNat=j:=by
   rw[Sz (by omega) h3]at h1
   rw[Me,<-hl]
   exact LW h1
  exact W.ki_setBack ho (by omega) (by rw[Me,<-hl];exact h3) (by omega) (by rw[hk];exact⟨_,I',q⟩)
def qX (lo hi:Option Int)(n:Nat):(sliceBounds lo hi none n).1=((HT.sIx n 0 lo:Nat):Int)/\(sliceBounds lo hi none n).2.1=((HT.sIx n n hi:Nat):Int)/\(sliceBounds lo hi none n).2.2=1:=by
 refine⟨?_,?_,rfl⟩
 ·cases lo with
  |none=>simp[sliceBounds,HT.sIx]
  |some i=>
   simp only[sliceBounds,HT.sIx,Sk,show(1:Int)>0 by decide,if_true]
   by_cases h:i<0
   ·simp only[h,if_true]<;>omega
   ·simp only[h,if_false]<;>omega
 ·cases hi with
  |none=>simp[sliceBounds,HT.sIx]
  |some i=>
   simp only[sliceBounds,HT.sIx,Sk,show(1:Int)>0 by decide,if_true]
   by_cases h:i<0
   ·simp only[h,if_true]<;>omega
   ·simp only[h,if_false]<;>omega
def ph (its:List tx)(lo hi:Option Int):slicePick its.toArray lo hi none=((its.drop (HT.sIx its.length 0 lo)).take (HT.sIx its.length its.length hi- HT.sIx its.length 0 lo)).toArray:=by
 obtain⟨h1,h2,h3⟩:=qX lo hi its.toArray.size
 unfold slicePick
 rw[h1,h2,h3]
 simp only[sliceRange_one,pick_run,Me]<;>rfl
def CF (K:cW):V->Option Int->Option Int->Hp->VK->Prop:=fun x lo hi H Q=>∃a xs,x=.ref a/\SqL K H a xs/\∀p,H p=none->Q (.ref p) (upd H p (.lst (fv xs lo hi)))
def AK:SlR X (CF X.K):=by
 intro pins s σ H x v vl vu lo hi sl Q I rx hs pl pu h
 obtain⟨a,xs,rfl,hx,q⟩:=h
 cases rx
 obtain⟨its,r,ht,hz⟩:=I.list hx
 have hlen:=r.length
 refine⟨"list",_,slot_list_getitem.lookup,ht.isList.typeIs,?_⟩
 refine wpAny_getItem_list_slice ht.isList hs pl pu .none (by simp) ?_ (by rw[Me]<;>omega)
 rw[ph,<-hlen]
 refine⟨.ref s.heap.objs.size,_,I.laid (t':=s.toks) (o:=.lst (fv xs lo hi)) (fun b ob q=>Lt _ q) (pv _) ?_,rfl,q _ (I.hok.fresh (pv _))⟩
 exact⟨Mv (lx xs lo hi) hz,_,0,(r.drop (HT.sIx xs.length 0 lo)).take (HT.sIx xs.length xs.length hi- HT.sIx xs.length 0 lo),Mu _ rfl⟩
def bX.or {f:tx}{r r':List V->Hp->VK->Prop}(h:bX X f r)(h':bX X f r'):bX X f (fun xs H Q=>r xs H Q\/r' xs H Q):=by
 intro pins s σ H xs us Q I rs q
 rcases q with q|q
 ·exact h pins s σ H xs us Q I rs q
 ·exact h' pins s σ H xs us Q I rs q
def rk:bX X (.type "list") (fun xs H Q=>∃p ys,xs=[.ref p]/\(SqL X.K H p ys\/SqT X.K H p ys)/\∀l,H l=none->Q (.ref l) (upd H l (.lst ys))):=by
 intro pins s σ H xs us Q I r h
 obtain⟨p,ys,rfl,hq,q⟩:=h
 obtain⟨u,rfl,rx⟩:=jR r
 cases rx
 have fin:∀(its:List tx),ba ys its->ys.length<=sizeLine->∀(h':Heap)(c':Nat),(∀b o',s.heap.get? b=some o'->h'.get? b=some o')->
   h'.get? s.heap.objs.size=some {cls:=.type "list",dict:=none,data:=.seq its.toArray c',slots:=#[]}->EP X pins σ Q (.ref s.heap.objs.size) {s with heap:=h'}:=fun its r' hz h' c' kp e=>
  ⟨.ref s.heap.objs.size,_,I.laid (t':=s.toks) kp (pv _) (show bg X.prog X.w _ h' _ (.lst ys)from⟨hz,its,c',r',e⟩),rfl,q _ (I.hok.fresh (pv _))⟩
 rcases hq with hq|hq
 ·obtain⟨its,r',pl,hz⟩:=I.list hq
  have hlen:=r'.length
  obtain⟨o,ho,hc,n,hd⟩:=pl.isList
  exact call_list_seq p (.inl rfl) ho hc hd (fun h' c' kp e=>fin its r' hz h' c' kp e) (by simp only[Me]<;>omega)
 ·obtain⟨its,r',pl,hz⟩:=I.tuple hq
  have hlen:=r'.length
  obtain⟨o,ho,hc,n,hd⟩:=pl
  exact call_list_seq p (.inr rfl) ho hc hd (fun h' c' kp e=>fin its r' hz h' c' kp e) (by simp only[Me]<;>omega)
def pw:bX X (.type "tuple") (fun xs H Q=>∃p ys,xs=[.ref p]/\((SqL X.K H p ys/\∀l,H l=none->Q (.ref l) (upd H l (.tup ys)))\/(SqT X.K H p ys/\Q (.ref p) H))):=by
 intro pins s σ H xs us Q I r h
 obtain⟨p,ys,rfl,h⟩:=h
 obtain⟨u,rfl,rx⟩:=jR r
 cases rx
 rcases h with⟨hq,q⟩|⟨hq,q⟩
 ·obtain⟨its,r',pl,hz⟩:=I.list hq
  have hlen:=r'.length
  refine call_tuple_list pl.isList (fun h' kp=>?_) (by simp only[Me]<;>omega)
  have I1:Inv X pins σ H {s with heap:=h'}:=I.kept (t':=s.toks) kp
  have I2:Inv X pins σ (upd H h'.objs.size (.tup ys)) {s with heap:=h'.push {cls:=.type "tuple",data:=.seq its.toArray}}:=
   I1.laid (t':=s.toks) (fun b o e=>Lt _ e) (pv _) (show bg X.prog X.w _ _ _ (.tup ys)from⟨hz,its,r',SM _ _⟩)
  exact⟨.ref h'.objs.size,_,I2,rfl,q _ (I1.hok.fresh (pv _))⟩
 ·obtain⟨its,r',pl,hz⟩:=I.tuple hq
  exact call_tuple_same pl ⟨.ref p,H,I,rfl,q⟩
def tyV (K:cW)(T:String)(x:V)(H:Hp):Prop:=match x with
 |.str _=>T="str"
 |.int _=>T="int"
 |.ref p=>(T="list"/\∃xs,SqL K H p xs)\/(T="tuple"/\∃o,K.lookup p=some o/\o.cls=.type "tuple"/\o.dict=none)\/
  (T="dict"/\((∃kvs,H p=some (.dK kvs))\/∃kvs,H p=some (.dT kvs)))\/(T="set"/\∃S n,H p=some (.set S n))
 |_=>False
def wK {pins:List (Addr×Obj)}{σ:St}{H:Hp}{s:If}{T:String}{x:V}{v:tx}(I:Inv X pins σ H s)(r:aS x v)(ty:tyV X.K T x H):
  s.TypeIs v T/\∀a,v=.ref a->∃ob,s.heap.get? a=some ob/\ob.dict=none:=by
 cases x with
 |str z=>
  obtain⟨t,rfl⟩:=r
  cases (show T="str" from ty)
  exact⟨TY s z t,fun _ e=>nomatch e⟩
 |int i=>
  obtain⟨t,rfl⟩:=r
  cases (show T="int" from ty)
  exact⟨typeIs_int s i t,fun _ e=>nomatch e⟩
 |ref p=>
  cases r
  rcases ty with⟨rfl,xs,hq⟩|⟨rfl,o,hk,hc,hd⟩|⟨rfl,hk⟩|⟨rfl,S,n,hk⟩
  ·obtain⟨its,_,pl,_⟩:=I.list hq
   refine⟨pl.isList.typeIs,fun a e=>?_⟩
   cases e
   obtain⟨o,n,e,c,hd,_⟩:=pl
   exact⟨o,e,hd⟩
  ·refine⟨⟨o,I.kIn p o hk,hc⟩,fun a e=>?_⟩
   cases e
   exact⟨o,I.kIn _ o hk,hd⟩
  ·have z:∃o,s.heap.get? p=some o/\o.ExactDict:=by
    rcases hk with⟨kvs,hk⟩|⟨kvs,hk⟩
    ·obtain⟨_,_,_,_,o,_,_,e,ex,_⟩:=I.hok p _ hk
     exact⟨o,e,ex⟩
    ·obtain⟨_,_,_,_,o,_,_,e,ex,_⟩:=I.hok p _ hk
     exact⟨o,e,ex⟩
   obtain⟨o,e,ex⟩:=z
   refine⟨⟨o,e,ex.1⟩,fun a e2=>?_⟩
   cases e2
   exact⟨o,e,ex.2.1⟩
  ·obtain⟨o,_,_,_,e,ex,_⟩:=I.hok p _ hk
   refine⟨⟨o,e,ex.1⟩,fun a e2=>?_⟩
   cases e2
   exact⟨o,e,ex.2.1⟩
 |_=>exact MB ty
def uJ (K:cW)(T:String)(r:V->List V->Hp->VK->Prop)(to:TE):TE:=fun σ H Q=>to σ H fun x H1=>tyV K T x H1/\r x [] H1 Q
def tBM (K:cW)(T:String)(r:V->List V->Hp->VK->Prop)(to:TE)(t:TA):TE:=fun σ H Q=>to σ H fun x H1=>tyV K T x H1/\t σ H1 fun xs H2=>r x xs H2 Q
variable {o e:Expr}{es:List Expr}{to:TE}{t:TA}{name:Str}{apos cpos:Pos}{T id:String}{r:V->List V->Hp->VK->Prop}
def Dm (pa:QZ T)(slot:Slot T name id)(hty:typeOf (.builtin id)=pure (.type "method_descriptor"))(hm:MtR X id r)(ho:PE X o to)
  (hbase:attributeBase o name X.env (eval o X.env)=eval o X.env:=by rfl)(hline:(apos.endLine==cpos.line)=true:=by rfl):PE X (.Call (.Attribute o name apos) [] [] cpos) (uJ X.K T r to):=by
 intro pins s σ H Q I h
 refine wpAny_Call_method0_late hbase hline (thn (ho pins s σ H _ I h) fun v s1 ⟨x,H1,I1,r1,ty,q1⟩=>?_)
 obtain⟨h1,h2⟩:=wK I1 r1 ty
 exact⟨T,id,pa,slot,hty,h1,h2,Rt rfl (PySem.evalArgs_none (hm pins s1 σ H1 x [] v [] Q I1 r1 .nil q1))⟩
def HF (pa:QZ T)(slot:Slot T name id)(hty:typeOf (.builtin id)=pure (.type "method_descriptor"))(hm:MtR X id r)(ho:PE X o to)(ha:PA X (e::es) t)
  (hbase:attributeBase o name X.env (eval o X.env)=eval o X.env:=by rfl)
  (hfew:((backTo cpos (starEach (e::es) X.env)).all (fun x=> !x.1)&&(backToKw cpos (keywordEach [] X.env)).all (fun x=>x.1.isSome)
   &&decide ((e::es).length+([]:List Keyword).length+(if ([]:List Keyword).isEmpty then 0 else 1)<30))=true:=by rfl)
  (hline:(apos.endLine==cpos.line)=true:=by rfl)(hs:starEach (e::es) X.env=(false,eval e X.env)::starEach es X.env:=by rfl)(hplain:(backTo cpos (starEach es X.env)).any (·.1)=false:=by rfl):
  PE X (.Call (.Attribute o name apos) (e::es) [] cpos) (tBM X.K T r to t):=by
 intro pins s σ H Q I h
 refine wpAny_Call_method_late hbase hfew hline rfl (thn (ho pins s σ H _ I h) fun v s1 ⟨x,H1,I1,r1,ty,q1⟩=>?_)
 obtain⟨h1,h2⟩:=wK I1 r1 ty
 refine⟨T,id,pa,slot,hty,h1,h2,?_⟩
 have hA:=ha cpos pins s1 σ H1 _ I1 q1
 rw[hs]at hA⊢
 refine Rt (by show(false||(backTo cpos (starEach es X.env)).any (·.1))=false;rw[hplain]<;>rfl) (Calls.evalArgs_plain ?_)
 exact thn hA fun us s2 ⟨vs,H2,I2,r2,q2⟩=>hm pins s2 σ H2 x vs v us Q I2 r1 r2 q2
end
def MtM (X:Cx)(id:String)(r:V->List V->Hp->VK->Prop):Prop:=
 ∀(pins:List (Addr×Obj))(s:If)(σ:St)(H:Hp)(x:V)(xs:List V)(v:tx)(us:List tx)(Q:VK),Inv X pins σ H s->aS x v->ba xs us->r x xs H Q->
  wpAny (model X.prog X.w) X.A (call (.builtin id) (v::us)) (EP X pins σ Q) X.xe s
theorem ba.one:∀{x:V}{us:List tx},ba [x] us->∃u,us=[u]/\aS x u
 |_,_,.cons r .nil=>⟨_,rfl,r⟩
def ba.reverse {xs:List V}{us:List tx}(h:ba xs us):ba xs.reverse us.reverse:=by
 induction h with
 |nil=>exact .nil
 |cons r t ih=>rw[NS,NS];exact ba.append ih (.cons r .nil)
section
variable {X:Cx}{pins:List (Addr×Obj)}{σ:St}{H:Hp}{s:If}{l b:Addr}{xs ys zs:List V}
def Inv.lset {its its':List tx}{n:Nat}{f:Array tx->Array tx}{t':Nat}(I:Inv X pins σ H s)(hH:H l=some (.lst xs))
  (e:s.heap.get? l=some {cls:=.type "list",data:=.seq its.toArray n})(hf:f its.toArray=its'.toArray)(hv:ba ys its')(hz:ys.length<=sizeLine):
  Inv X pins σ (upd H l (.lst ys)) {s with heap:=s.heap.update l (OT f),toks:=t'}:=by
 have q:=PySem.IsL.update e f
 rw[hf]at q
 refine I.write (x:=l) (e:=l) (by rw[hH];exact trivial) (.inl rfl) (fun b' u hb hu=>(Np s.heap (OT f) (Md hb)).trans hu) ⟨_,q⟩ ?_
 exact⟨hz,its',_,hv,q⟩
def Inv.lnew {its:List tx}{t':Nat}(I:Inv X pins σ H s)(hv:ba ys its)(hz:ys.length<=sizeLine):
  Inv X pins σ (upd H s.heap.objs.size (.lst ys)) {s with heap:=s.heap.push {cls:=.type "list",data:=.seq its.toArray},toks:=t'}:=
 I.laid (fun _ _ q=>Lt _ q) (pv _) ⟨hz,its,0,hv,Mu _ rfl⟩
def Inv.fresh (I:Inv X pins σ H s):H s.heap.objs.size=none:=I.hok.fresh (pv _)
def Inv.lstM (I:Inv X pins σ H s)(hH:H l=some (.lst xs)):xs.length<=sizeLine/\∃(its:List tx)(n:Nat),ba xs its/\xs.length=its.length/\s.heap.get? l=some {cls:=.type "list",data:=.seq its.toArray n}:=by
 obtain⟨z,its,n,r,e⟩:=I.hok l _ hH
 exact⟨z,its,n,r,r.length,e⟩
end
section
variable {X:Cx}
def fm:V->List V->Hp->VK->Prop:=fun x vs H Q=>∃l xs y,x=.ref l/\vs=[y]/\H l=some (.lst xs)/\xs.length<sizeLine/\Q .non (upd H l (.lst (xs++[y])))
def dO:MtM X "list.append" fm:=by
 intro pins s σ H x vs v us Q I rx rv h
 obtain⟨l,xs,y,rfl,rfl,hH,hz,q⟩:=h
 cases rx
 obtain⟨u,rfl,ru⟩:=rv.one
 obtain⟨z,its,n,r,hl,e⟩:=I.lstM hH
 refine TZ MI ⟨_,e,rfl⟩ F.entry_list_append (F.args_list_append_2 _ _) (PySem.list_append l its.toArray n u (by rw[Me];omega)) ⟨e,?_⟩
 refine⟨.non,_,I.lset (its':=its++[u]) hH e (by simp) (r.append (.cons ru .nil)) ?_,rfl,q⟩
 rw[Mr,RF]
 omega
def Cj:R2:=fun x y H Q=>∃l b xs zs,x=.ref l/\y=.ref b/\H l=some (.lst xs)/\H b=some (.lst zs)/\xs.length+zs.length<=sizeLine/\∀p,H p=none->Q (.ref p) (upd H p (.lst (xs++zs)))
def FG:OpR X (binaryOp .Add) Cj:=by
 intro pins s σ H x y v u Q I rx ry h
 obtain⟨l,b,xs,zs,rfl,rfl,hH,hB,hz,q⟩:=h
 cases rx
 cases ry
 obtain⟨z,its,n,r,hl,e⟩:=I.lstM hH
 obtain⟨z2,its2,n2,r2,hl2,e2⟩:=I.lstM hB
 refine PySem.P.add_list e e2 ?_ (by rw[Me,Me];omega)
 have ea:its.toArray++its2.toArray=(its++its2).toArray:=by simp
 rw[ea]
 exact⟨.ref _,_,I.lnew (t':=s.toks) (r.append r2) (by rw[Mr];omega),rfl,q _ I.fresh⟩
end
section
variable {prog:Ms}{w:MG}{A:Mw}{E:tx->If->Prop}{s:If}
set_option maxRecDepth 100000 in
end
section
variable {κ:Type}[DecidableEq κ]
def cg (kvs:List (κ×V))(k:κ):Option V:=(kvs.find? fun kv=>decide (kv.1=k)).map (·.2)
def bu (kvs:List (κ×V))(k:κ)(v:V):List (κ×V):=
 if (kvs.any fun kv=>decide (kv.1=k))=true then kvs.map (fun kv=>if kv.1=k then(kv.1,v)else kv)else kvs++[(k,v)]
def dy {p:κ×V}{r:List (κ×V)}{k:κ}(e:p.1=k):cg (p::r) k=some p.2:=by simp[cg,Oe,e]
def dj {p:κ×V}{r:List (κ×V)}{k:κ}(e:¬p.1=k):cg (p::r) k=cg r k:=by simp[cg,Oe,e]
theorem iz (k:κ):∀kvs:List (κ×V),(kvs.any fun kv=>decide (kv.1=k))=(cg kvs k).isSome
 |[]=>rfl
 |p::r=>by
  rw[Rw]
  by_cases e:p.1=k
  ·simp only[dy e,decide_eq_true e,Bool.true_or,Option.isSome_some]
  ·rw[dj e,decide_eq_false e,TK];exact iz k r
theorem qK (k j:κ)(y:V):∀kvs:List (κ×V),cg (kvs.map fun kv=>if kv.1=k then(kv.1,y)else kv) j=(cg kvs j).map fun x=>if j=k then y else x
 |[]=>rfl
 |p::r=>by
  have ih:=qK k j y r
  rw[My]
  by_cases h:p.1=k
  ·rw[if_pos h]
   by_cases e:p.1=j
   ·rw[dy (p:=(p.1,y)) e,dy e,Oy,if_pos (e.symm.trans h)]
   ·rw[dj (p:=(p.1,y)) e,dj e,ih]
  ·rw[if_neg h]
   by_cases e:p.1=j
   ·rw[dy (p:=p) e,dy e,Oy,if_neg (fun z=>h (e.trans z))]
   ·rw[dj (p:=p) e,dj e,ih]
theorem ow (k j:κ)(y:V):∀kvs:List (κ×V),cg kvs k=none->cg (kvs++[(k,y)]) j=if j=k then some y else cg kvs j
 |[],_=>by
  by_cases e:k=j
  ·rw[if_pos e.symm];exact dy (p:=(k,y)) e
  ·rw[if_neg (fun z=>e z.symm)];exact dj (p:=(k,y)) e
 |p::r,hn=>by
  rw[SU]
  have hk:¬p.1=k:=fun z=>by rw[dy z]at hn;cases hn
  rw[dj hk]at hn
  have ih:=ow k j y r hn
  by_cases e:p.1=j
  ·rw[dy e,dy e,if_neg (fun z=>hk (e.trans z))]
  ·rw[dj e,dj e,ih]
def jS (kvs:List (κ×V))(k j:κ)(y:V):cg (bu kvs k y) j=if j=k then some y else cg kvs j:=by
 unfold bu
 by_cases a:(kvs.any fun kv=>decide (kv.1=k))=true
 ·rw[if_pos a,qK]
  rw[iz]at a
  by_cases e:j=k
  ·obtain⟨x,hx⟩:=Mt.mp a
   rw[if_pos e,e,hx,Oy,if_pos rfl]
  ·rw[if_neg e]
   cases cg kvs j with
   |none=>rfl
   |some x=>rw[Oy,if_neg e]
 ·rw[if_neg a]
  refine ow k j y kvs ?_
  rw[iz]at a
  cases q:cg kvs k with
  |none=>rfl
  |some x=>rw[q]at a;exact(a rfl).elim
def dW (kvs:List (κ×V))(k:κ)(v:V):(bu kvs k v).length<=kvs.length+1:=by
 unfold bu
 split
 ·rw[Mf];omega
 ·rw[Mr,Mb,Tj];omega
def zq {kvs:List (κ×V)}{k:κ}(v:V)(h:cg kvs k=none):bu kvs k v=kvs++[(k,v)]:=by
 unfold bu
 rw[iz,h]
 exact if_neg (by decide)
def cO.isSome_eq {o:Option V}{u:Option tx}(r:cO o u):o.isSome=u.isSome:=by
 cases o with
 |none=>cases u with
  |none=>rfl
  |some _=>exact(show False from r).elim
 |some _=>cases u with
  |none=>exact(show False from r).elim
  |some _=>rfl
def KV.val {kvs:List (κ×V)}{vs:List (κ×tx)}(r:KV kvs vs)(k:κ):cO (cg kvs k) (valueAt vs k):=by
 unfold KV at r
 induction r with
 |nil=>exact Ng
 | @cons p q ps qs h t ih=>
   obtain⟨h1,h2⟩:=h
   by_cases e:p.1=k
   ·have e':q.1=k:=h1.symm.trans e
    have b:valueAt (q::qs) k=some q.2:=by simp[valueAt,Oe,e']
    rw[dy e,b];exact h2
   ·have e':¬q.1=k:=fun z=>e (h1.trans z)
    have b:valueAt (q::qs) k=valueAt qs k:=by simp[valueAt,Oe,e']
    rw[dj e,b];exact ih
def KV.any {kvs:List (κ×V)}{vs:List (κ×tx)}(r:KV kvs vs)(k:κ):(kvs.any fun kv=>decide (kv.1=k))=vs.any fun kv=>decide (kv.1=k):=by
 unfold KV at r
 induction r with
 |nil=>rfl
 |cons h t ih=>rw[Rw,Rw,ih,h.1]
def KV.repl {kvs:List (κ×V)}{vs:List (κ×tx)}(r:KV kvs vs)(k:κ){y:V}{u:tx}(ry:aS y u):
  KV (kvs.map fun kv=>if kv.1=k then(kv.1,y)else kv) (vs.map fun kv=>if kv.1=k then(kv.1,u)else kv):=by
 unfold KV at r⊢
 induction r with
 |nil=>exact .nil
 | @cons p q ps qs h t ih=>
   rw[My,My]
   refine .cons ?_ ih
   obtain⟨h1,h2⟩:=h
   by_cases e:p.1=k
   ·rw[if_pos e,if_pos (h1.symm.trans e)];exact⟨h1,ry⟩
   ·rw[if_neg e,if_neg (fun z=>e (h1.trans z))];exact⟨h1,h2⟩
def KV.put {kvs:List (κ×V)}{vs:List (κ×tx)}(r:KV kvs vs)(k:κ){y:V}{u:tx}(ry:aS y u):KV (bu kvs k y) (stored vs k u):=by
 unfold bu stored
 rw[r.any k]
 by_cases e:(vs.any fun kv=>decide (kv.1=k))=true
 ·rw[if_pos e,if_pos e];exact r.repl k ry
 ·rw[if_neg e,if_neg e];exact Paired.snoc r ⟨rfl,ry⟩
def KV.length {kvs:List (κ×V)}{vs:List (κ×tx)}(r:KV kvs vs):kvs.length=vs.length:=Paired.length r
end
def jG {P:Ms}{w:MG}{k:Key}{u:tx}(r:aS (kV k) u):(cJ P w).is k u=true:=by
 cases k with
 |inl i=>obtain⟨t,e⟩:=(show ∃t,u=PX i t from r);subst e;exact rO P w i t
 |inr x=>obtain⟨t,e⟩:=(show ∃t,u=On x t from r);subst e;exact rS P w x t
def Ej {a b:Key}(e:kV a=kV b):a=b:=by
 cases a with
 |inl i=>cases b with
  |inl j=>have e':V.int i=V.int j:=e;injection e' with e';rw[e']
  |inr y=>exact nomatch (show V.int i=V.str y from e)
 |inr x=>cases b with
  |inl j=>exact nomatch (show V.str x=V.int j from e)
  |inr y=>have e':V.str x=V.str y:=e;injection e' with e';rw[e']
theorem nv:∀{a b:List Key},a.map kV=b.map kV->a=b
 |[],[],_=>rfl
 |[],_::_,e=>by simp at e
 |_::_,[],e=>by simp at e
 |x::xs,y::ys,e=>by
  rw[My,My]at e
  injection e with e1 e2
  rw[Ej e1,nv e2]
theorem oq {P:Ms}{w:MG}:∀{ks:List Key}{us:List tx},ba (ks.map kV) us->ItemsAre (cJ P w) ks us
 |[],_,r=>by rw[QB]at r;cases r;exact .nil
 |k::ks,_,r=>by
  rw[My]at r
  cases r with
  |cons h t=>exact .cons (jG h) (oq t)
abbrev KT (H:Hp):List (List Key×V)->List (List Key×Addr×tx)->Prop:=Paired fun p q=>p.1=q.1/\H q.2.1=some (.tup (p.1.map kV))/\aS p.2 q.2.2
def KT.val {H:Hp}{kvs:List (List Key×V)}{xs:List (List Key×Addr×tx)}(r:KT H kvs xs)(k:List Key):cO (cg kvs k) ((atKey xs k).map (·.2)):=by
 induction r with
 |nil=>exact Ng
 | @cons p q ps qs h t ih=>
   obtain⟨h1,_,h2⟩:=h
   by_cases e:p.1=k
   ·have e':q.1=k:=h1.symm.trans e
    have b:atKey (q::qs) k=some q.2:=by simp[atKey,Oe,e']
    rw[dy e,b];exact h2
   ·have e':¬q.1=k:=fun z=>e (h1.trans z)
    have b:atKey (q::qs) k=atKey qs k:=by simp[atKey,Oe,e']
    rw[dj e,b];exact ih
def KT.repl {H:Hp}{kvs:List (List Key×V)}{xs:List (List Key×Addr×tx)}(r:KT H kvs xs)(k:List Key){y:V}{u:tx}(ry:aS y u):
  KT H (kvs.map fun kv=>if kv.1=k then(kv.1,y)else kv) (xs.map (putAt k u)):=by
 induction r with
 |nil=>exact .nil
 | @cons p q ps qs h t ih=>
   rw[My,My]
   refine .cons ?_ ih
   obtain⟨h1,h2,h3⟩:=h
   unfold putAt
   by_cases e:p.1=k
   ·rw[if_pos e,if_pos (h1.symm.trans e)];exact⟨h1,h2,ry⟩
   ·rw[if_neg e,if_neg (fun z=>e (h1.trans z))];exact⟨h1,h2,h3⟩
def KT.put {H:Hp}{kvs:List (List Key×V)}{xs:List (List Key×Addr×tx)}(r:KT H kvs xs)(k:List Key){b:Addr}{y:V}{u:tx}(hb:H b=some (.tup (k.map kV)))(ry:aS y u):
  KT H (bu kvs k y) (storedH xs k b u):=by
 have e:(kvs.any fun kv=>decide (kv.1=k))=(atKey xs k).isSome:=by
  rw[iz,(r.val k).isSome_eq,Qh]
 unfold bu storedH
 rw[e]
 by_cases q:(atKey xs k).isSome=true
 ·rw[if_pos q,if_pos q];exact r.repl k ry
 ·rw[if_neg q,if_neg q];exact Paired.snoc r ⟨rfl,hb,ry⟩
def KT.keeps {H H':Hp}{kvs:List (List Key×V)}{xs:List (List Key×Addr×tx)}(r:KT H kvs xs)(ht:∀b ys,H b=some (.tup ys)->H' b=some (.tup ys)):KT H' kvs xs:=
 Paired.mapP r fun _ _ z=>⟨z.1,ht _ _ z.2.1,z.2.2⟩
section
variable {P:Ms}{w:MG}{H:Hp}{h:Heap}{a:Addr}
def zZ {u:HO}(ok:HOk P w H h)(e:Rd H a u):bg P w H h a u:=e.ok ok
def jo {kvs:List (Key×V)}(ok:HOk P w H h)(e:Rd H a (.dK kvs)):kvs.length<=sizeLine/\(a==sysModules)=false/\∃vs,KV kvs vs/\h.DictOf (cJ P w) a vs:=
 show bg P w H h a (.dK kvs)from zZ ok e
def An {kvs:List (Key×V)}(ok:HOk P w H h)(e:H a=some (.dK kvs)):kvs.length<=sizeLine/\(a==sysModules)=false/\∃vs,KV kvs vs/\h.DictOf (cJ P w) a vs:=jo ok (.inl e)
def ir {ks:List Key}(ok:HOk P w H h)(e:H a=some (.tup (ks.map kV))):(tupleKind (cJ P w)).is h ks a:=by
 obtain⟨_,its,r,o,h1,h2,n,h3⟩:=(show bg P w H h a (.tup (ks.map kV))from ok a _ e)
 exact⟨o,its.toArray,n,h1,h2,h3,by simpa using oq r⟩
def kM {kvs:List (List Key×V)}(ok:HOk P w H h)(e:Rd H a (.dT kvs)):kvs.length<=sizeLine/\(a==sysModules)=false/\
  ∃xs,KT H kvs xs/\h.DictOfH (tupleKind (cJ P w)) a xs:=by
 obtain⟨z,y,xs,r,o,es,ep,h1,h2,h3,h4,h5⟩:=(show bg P w H h a (.dT kvs)from zZ ok e)
 refine⟨z,y,xs,r,o,es,ep,h1,h2,h3,h4,fun x hx=>?_,h5⟩
 have all:∀{l:List (List Key×V)}{m:List (List Key×Addr×tx)},KT H l m->∀x∈m,(tupleKind (cJ P w)).is h x.1 x.2.1:=by
  intro l m q
  induction q with
  |nil=>intro x hx;exact nomatch hx
  | @cons p q ps qs hq t ih=>
    intro x hx
    rcases LZ.mp hx with e|hx
    ·subst e
     exact ir ok (by rw[<-hq.1];exact hq.2.1)
    ·exact ih x hx
 exact all r x hx
def um {kvs:List (List Key×V)}(ok:HOk P w H h)(e:H a=some (.dT kvs)):kvs.length<=sizeLine/\(a==sysModules)=false/\
 ∃xs,KT H kvs xs/\h.DictOfH (tupleKind (cJ P w)) a xs:=kM ok (.inl e)
end
def fM (H:Hp)(a:Addr)(y:V)(r:Option V):Prop:=
 (∃kvs k,Rd H a (.dK kvs)/\y=kV k/\r=cg kvs k)\/∃kvs k b,Rd H a (.dT kvs)/\y=.ref b/\H b=some (.tup (k.map kV))/\r=cg kvs k
def ku (H:Hp)(a:Addr)(y v:V)(H':Hp):Prop:=
 (∃kvs k,H a=some (.dK kvs)/\y=kV k/\kvs.length<sizeLine/\H'=upd H a (.dK (bu kvs k v)))\/
 ∃kvs k b,H a=some (.dT kvs)/\y=.ref b/\H b=some (.tup (k.map kV))/\kvs.length<sizeLine/\H'=upd H a (.dT (bu kvs k v))
def fM.t {H:Hp}{a b:Addr}{kvs:List (List Key×V)}{k:List Key}(e:H a=some (.dT kvs))(eb:H b=some (.tup (k.map kV))):fM H a (.ref b) (cg kvs k):=.inr ⟨kvs,k,b,.inl e,rfl,eb,rfl⟩
def ku.t {H:Hp}{a b:Addr}{kvs:List (List Key×V)}{k:List Key}{v:V}(e:H a=some (.dT kvs))(eb:H b=some (.tup (k.map kV)))(hl:kvs.length<sizeLine):
 ku H a (.ref b) v (upd H a (.dT (bu kvs k v))):=.inr ⟨kvs,k,b,e,rfl,eb,hl,rfl⟩
section
variable {X:Cx}{pins:List (Addr×Obj)}{σ:St}{H:Hp}{s:If}{a:Addr}{y v:V}{u r:tx}{o:Option V}{A:Mw}{E:tx->If->Prop}
def Inv.big (I:Inv X pins σ H s):sysModules<s.heap.objs.size:=by
 have h:mainGlobals<s.heap.objs.size:=(I.mod.glob.keeps I.bk).lt
 exact Nat.lt_trans (by decide) h
def vK {Q:tx->If->Prop}(hu:A.units+1<cLine)(I:Inv X pins σ H s)(g:fM H a y (some v))(ry:aS y u)(h:∀w' s',Inv X pins σ H s'->aS v w'->Q w' s'):
  wpAny (model X.prog X.w) A (getItem (.ref a) u) Q E s:=by
 rcases g with⟨kvs,k,e,ey,l⟩|⟨kvs,k,b,e,ey,eb,l⟩
 ·subst ey
  obtain⟨z,hd,vs,rel,dd⟩:=jo I.hok e
  obtain⟨w',hw,rw'⟩:=cO.some_of (v:=v) (o:=valueAt vs k) (by rw[l];exact rel.val k)
  exact wpAny_getItem_of (jG ry) dd.mapOf hw (h w' _ (I.tok _) rw')
 ·subst ey
  cases (show u=Mn b from ry)
  obtain⟨z,hd,xs,rel,dd⟩:=kM I.hok e
  obtain⟨w',hw,rw'⟩:=cO.some_of (v:=v) (o:=(atKey xs k).map (·.2)) (by rw[l];exact rel.val k)
  obtain⟨p,hp,hp2⟩:=Rr.mp hw
  refine wpAny_getItem_heap (NR hu) (ir I.hok eb) dd hp ?_
  rw[hp2]
  exact h w' _ (I.tok _) rw'
def Kr {Q:tx->If->Prop}(hu:A.units+1<cLine)(I:Inv X pins σ H s)(g:fM H a y o)(ry:aS y u)(h:∀s',Inv X pins σ H s'->Q (.bool o.isSome) s'):
  wpAny (model X.prog X.w) A (compareOp .In u (.ref a)) Q E s:=by
 rcases g with⟨kvs,k,e,ey,l⟩|⟨kvs,k,b,e,ey,eb,l⟩
 ·subst ey
  obtain⟨z,hd,vs,rel,dd⟩:=jo I.hok e
  refine wpAny_in_of (jG ry) hd dd.mapOf ?_
  rw[<-(rel.val k).isSome_eq,<-l]
  exact h _ (I.tok _)
 ·subst ey
  cases (show u=Mn b from ry)
  obtain⟨z,hd,xs,rel,dd⟩:=kM I.hok e
  refine wpAny_in_heap (NR hu) (ir I.hok eb) hd dd ?_
  have q:=(rel.val k).isSome_eq
  rw[Qh]at q
  rw[<-q,<-l]
  exact h _ (I.tok _)
def AL {Q:tx->If->Prop}(hu:A.units+1<cLine)(I:Inv X pins σ H s)(g:fM H a y o)(ry:aS y u)(h:∀s',Inv X pins σ H s'->Q (.bool (!o.isSome)) s'):
  wpAny (model X.prog X.w) A (compareOp .NotIn u (.ref a)) Q E s:=by
 rcases g with⟨kvs,k,e,ey,l⟩|⟨kvs,k,b,e,ey,eb,l⟩
 ·subst ey
  obtain⟨z,hd,vs,rel,dd⟩:=jo I.hok e
  refine wpAny_notIn_of (jG ry) hd dd.mapOf ?_
  rw[<-(rel.val k).isSome_eq,<-l]
  exact h _ (I.tok _)
 ·subst ey
  cases (show u=Mn b from ry)
  obtain⟨z,hd,xs,rel,dd⟩:=kM I.hok e
  refine wpAny_notIn_heap (NR hu) (ir I.hok eb) hd dd ?_
  have q:=(rel.val k).isSome_eq
  rw[Qh]at q
  rw[<-q,<-l]
  exact h _ (I.tok _)
def kT {h':Heap}{t':Nat}{ob:HO}(I:Inv X pins σ H s)(mu:Mut (H a))(hs:Oa a s.heap h')(he:∃q,h'.get? a=some q)(new:bg X.prog X.w (upd H a ob) h' a ob):
  Inv X pins σ (upd H a ob) {s with heap:=h',toks:=t'}:=
 I.write (x:=a) (e:=a) mu (.inl rfl) (fun b q hb z=>(hs.2 b hb).trans z) he new
def wD {P:Ms}{w:MG}{H':Hp}{h':Heap}{kvs:List (Key×V)}{vs:List (Key×tx)}(z:kvs.length<=sizeLine)(hd:(a==sysModules)=false)(rel:KV kvs vs)(dd:h'.DictOf (cJ P w) a vs):
 bg P w H' h' a (.dK kvs):=⟨z,hd,vs,rel,dd⟩
def vW {H':Hp}{Q:Unit->If->Prop}(hu:A.units+1<cLine)(I:Inv X pins σ H s)(g:ku H a y v H')(ry:aS y u)(rv:aS v r)(h:∀s',Inv X pins σ H' s'->Q () s'):
  wpAny (model X.prog X.w) A (setItem (.ref a) u r) Q E s:=by
 rcases g with⟨kvs,k,e,ey,l,eH⟩|⟨kvs,k,b,e,ey,eb,l,eH⟩
 ·subst ey eH
  obtain⟨z,hd,vs,rel,dd⟩:=An I.hok e
  have hz:vs.length<=sizeLine:=by rw[<-rel.length];exact z
  have hl:(bu kvs k v).length<=sizeLine:=by have:=dW kvs k v;omega
  refine wpAny_setItem_pairs (hsz:=hz) (jG ry) dd fun h' dd' hs=>h _ ?_
  have he:∃q,h'.get? a=some q:=let ⟨q,_,_,hq,_⟩:=dd';⟨q,hq⟩
  exact kT I (by rw[e];exact Ng) hs he (wD hl hd (rel.put k rv) dd')
 ·subst ey eH
  cases (show u=Mn b from ry)
  obtain⟨z,hd,xs,rel,dd⟩:=um I.hok e
  have hz:xs.length<=sizeLine:=by rw[<-Paired.length rel];exact z
  have hl:(bu kvs k v).length<=sizeLine:=by have:=dW kvs k v;omega
  refine wpAny_setItem_heap (hsz:=hz) (NR hu) (ir I.hok eb) dd fun h' dd' hs=>h _ ?_
  obtain⟨q,es,ep,hq,h2,h3,h4,_,h5⟩:=dd'
  refine kT I (by rw[e];exact Ng) hs ⟨q,hq⟩ ⟨hl,hd,_,(rel.put k eb rv).keeps fun c ys ec=>?_,q,es,ep,hq,h2,h3,h4,h5⟩
  rw[ao (aF ec e (fun z=>nomatch z))]
  exact ec
end
section
variable {X:Cx}{pins:List (Addr×Obj)}{σ:St}{H:Hp}{s:If}{a:Addr}{kvs:List (Key×V)}{k:Key}{u:tx}{A:Mw}{E:tx->If->Prop}
def Gk {Q:tx->If->Prop}(I:Inv X pins σ H s)(e:Rd H a (.dK kvs))(h:∀t s',Inv X pins σ H s'->Q (.int kvs.length t) s'):wpAny (model X.prog X.w) A (call (.builtin "len") [.ref a]) Q E s:=by
 obtain⟨z,hd,vs,rel,dd⟩:=jo I.hok e
 refine call_len_dict hd dd (by rw[<-rel.length];rw[NL]at z;omega) ?_
 rw[<-rel.length]
 exact h _ _ (I.tok _)
end
def rQ {X:Cx}{pins:List (Addr×Obj)}{σ:St}{H:Hp}{s:If}{a:Addr}{y:V}{o:Option V}(I:Inv X pins σ H s)(g:fM H a y o):s.TypeIs (.ref a) "dict":=by
 rcases g with⟨kvs,k,e,_,_⟩|⟨kvs,k,b,e,_,_,_⟩
 ·obtain⟨_,_,vs,_,dd⟩:=jo I.hok e
  exact dd.typeIs
 ·obtain⟨_,_,xs,_,dd⟩:=kM I.hok e
  exact dd.typeIs
def yz {P:Ms}{w:MG}{H:Hp}(h:Heap)(hb:sysModules<h.objs.size):bg P w H (h.push {cls:=.type "dict",data:=.dict #[]}) h.objs.size (.dK []):=
 ⟨MS _,beq_eq_false_iff_ne.mpr (Md (Ml hb)),[],.nil,Heap.DictOf.new h⟩
def yS {P:Ms}{w:MG}{H:Hp}(h:Heap)(hb:sysModules<h.objs.size):bg P w H (h.push {cls:=.type "dict",data:=.dict #[]}) h.objs.size (.dT []):=
 ⟨MS _,beq_eq_false_iff_ne.mpr (Md (Ml hb)),[],.nil,_,#[],0,Mu _ rfl,⟨rfl,rfl,rfl⟩,rfl,rfl,List.nodup_nil⟩
def wZ:TE:=fun _ H Q=>∀p,H p=none->Q (.ref p) (upd H p (.dK []))
def wQ:TE:=fun _ H Q=>∀p,H p=none->Q (.ref p) (upd H p (.dT []))
section
variable {X:Cx}{pos:Pos}
def yx:PE X (.Dict [] [] pos) wZ:=fun pins s σ H Q I h=>
 wpAny_Dict_empty ⟨.ref s.heap.objs.size,_,I.laid (a:=s.heap.objs.size) (o:=.dK []) (t':=s.toks) (fun _ _ q=>Lt _ q) (pv _) (yz s.heap I.big),rfl,h _ (I.hok.fresh (pv _))⟩
def xG:PE X (.Dict [] [] pos) wQ:=fun pins s σ H Q I h=>
 wpAny_Dict_empty ⟨.ref s.heap.objs.size,_,I.laid (a:=s.heap.objs.size) (o:=.dT []) (t':=s.toks) (fun _ _ q=>Lt _ q) (pv _) (yS s.heap I.big),rfl,h _ (I.hok.fresh (pv _))⟩
end
end L2
namespace Att
open PySem PySem.W PySem.Calls PyProof.Rows
def ints_of_wellAll {P:Params}{h:Heap}:∀(ns:List Int)(vs:List tx),WellAll P h vs (ns.map WData.int)->Tt vs ns:=by
 intro ns
 induction ns with
 |nil=>
  intro vs w
  rw[QB]at w
  cases w
  exact .nil
 |cons n ns ih=>
  intro vs w
  rw[My]at w
  cases w with
  |cons a b=>
   cases a
   exact .cons _ _ (ih _ b)
def script_of {l:OpenLaw}{n:Nat}(hn:l.most=some n){P:Params}{h:Heap}{args:List WData}{vals:List tx}
  (hpre:l.row.toRowW.claim.pre args=true)(hwl:WellAll P h vals args):
  ∃a vs ns,vals=[Mn a]/\args=[WData.list (ns.map WData.int)]/\h.get? a=some {cls:=.type "list",data:=.seq vs.toArray}/\Tt vs ns/\ns.length<=n:=by
 have hsh:WShape.hasAll [] args [.list .int]=true:=(pre_splitW hpre).1
 have hc:l.pre.holds [] {args:=args}=true:=(pre_splitW hpre).2
 obtain⟨d,r,rfl,h1,h2⟩:=hasAllW_cons hsh
 obtain rfl:=hasAllW_nil h2
 obtain⟨xs,rfl,h3⟩:=hasW_list h1
 obtain⟨ns,rfl⟩:=items_int h3
 have hlen:ns.length<=n:=by
  unfold OpenLaw.pre at hc
  have h4:(WTm.not (.lt (.lit (.int (n:Int))) (.len (.arg 0)))).holds [] {args:=[.list (ns.map .int)]}=true:=by
   have h4:=(holds_andW hc).1
   rw[hn]at h4
   exact h4
  have h5:=condW_of h4 (w_not (w_lt w_lit (w_len_list (w_arg rfl))))
  rw[Mf]at h5
  refine Nat.le_of_not_lt fun q=>?_
  have q':(n:Int)<((ns.length:Nat):Int):=by omega
  first
   |(rw[decide_eq_true q']at h5;exact absurd h5 (by decide))
   |(simp at h5;omega)
 cases hwl with
 |cons w1 w2=>
  cases w2
  cases w1 with
  |list ho hall=>exact⟨_,_,ns,rfl,rfl,ho,ints_of_wellAll ns _ hall,hlen⟩
def post_true (l:OpenLaw)(args:List WData):l.row.toRowW.claim.post args (.bool true) args=true:=
 postW_of (r:=l.row.toRowW) (X:=(true==true))
  (show WShape.has [] (.bool true) .bool=true by first|rfl|decide|simp[WShape.has,WShape.arms,WShape.armsAll])
  (show(WTm.eq .res (.lit (.bool true))).value [] {args:=args,res:=some (.bool true),after:=args}=some (.bool (true==true))from w_eq_bool (w_res rfl) w_lit) rfl
def attach_call {l:OpenLaw}{n:Nat}{q:Ms}{loose:List Str}{XP:(Str->Option tx)->Heap->Prop}{YP:MG->Heap->Prop}{d:DefRec}
  (hn:l.most=some n)(hdf:d.params.defaults=[])
  (call:∀(w:MG)(s₀ s₁:If)(mg mb:Str->Option tx)(fa:Addr)(o:Obj)(pm cd doc:tx)(a:Addr)(vs:List tx)(ns:List Int),
   Ground q loose [] XP w s₀ mg mb s₁.heap->YP w s₁.heap->
   s₁.heap.get? fa=some o->o.data=.func (docDef d.name d.params d.body d.scope pm cd doc)->s₁.heap.CodeRec cd d.name->mg d.name=some (.ref fa)->
   s₁.heap.get? a=some {cls:=.type "list",data:=.seq vs.toArray}->Tt vs ns->ns.length<=n->s₁.gens=#[]->
   codeAny (model l.prog w) callerA (.call (.ref fa) ⟨[.ref a],[]⟩) (fun r s'=>r=.ok (.ret (.bool true))/\OldK s₁.heap s'.heap/\s'.os=s₁.os/\Pe s'.gens) s₁):
  WalkO q loose XP YP l.row.toRowW d [] (fun f vs=>Sf f vs):=by
 intro w s₀ s₁ mg mb G Y fa o pm cd doc dV kV ho hd hcd hD hmg hg args vals as hpre hlay hrd hwl hlo
 obtain rfl:dV=.none:=Dflts.none hD hdf
 obtain rfl:kV=.none:=Dflts.noKw hD
 obtain⟨a,vs,ns,rfl,rfl,hobj,hints,hlen⟩:=script_of hn hpre hwl
 refine enter_call (Nw (call w s₀ s₁ mg mb fa o pm cd doc a vs ns G Y ho (fd_plain hd) hcd hmg hobj hints hlen hg) fun r s' hq=>?_)
 obtain⟨rfl,h2,h3,h4⟩:=hq
 exact⟨.inl ⟨.bool true,.bool true,[],rfl,fun _=>rfl,.bool true,post_true l _,fun _=>⟨Uv,fun _ hm=>(nomatch hm)⟩⟩,h2,h3,h4⟩
end Att
namespace L2
open PySem PySem.Spec PyProof.Rows
theorem oH:∀{vs:List tx}{ns:List Int},Tt vs ns->ba (ns.map V.int) vs
 |_,_,.nil=>.nil
 |_,_,.cons n t h=>.cons ⟨t,rfl⟩ (oH h)
def cn (s:Stmt):Arguments:=match s with
 |.FunctionDef _ a _ _ _ _ _ _ _ _=>a
 |_=>{posonlyargs:=[],args:=[],vararg:=none,kwonlyargs:=[],kw_defaults:=[],kwarg:=none,defaults:=[]}
def aK (s:Stmt):List Stmt:=match s with
 |.FunctionDef _ _ b _ _ _ _ _ _ _=>b
 |_=>[]
def am (s:Stmt):Scope:=match s with
 |.FunctionDef _ _ _ _ _ _ sc _ _ _=>sc
 |_=>{kind:=.function,names:=[],isGenerator:=false,isCoroutine:=false}
abbrev E0:XK:=fun _ _ _=>False
structure Fun (K:cW)(x qual:Str)(st:Stmt)(f:Addr)(fd:Mc):Prop where
 ex:∃(oc:tx)(od:Option Addr)(kV doc pm:tx)(an:Option Addr)(cdv ct:tx)(osl:Array (Option tx)),
  fd=Oi x qual (cn st) (aK st) (am st) .none kV doc pm an cdv ct/\K.lookup f=some ⟨oc,od,.func fd,osl⟩/\SZ K cdv qual=true
 kp:Oh K (.ref f)=true
section
variable {P:Ms}{w:MG}{K:cW}{mg:Str->Option tx}{base:Heap}
def Fun.binds {x qual:Str}{st:Stmt}{f:Addr}{fd:Mc}{ps:List Str}(F:Fun K x qual st f fd)
  (h:∀(kV doc pm:tx)(an:Option Addr)(cdv ct:tx)(us:List tx),us.length=ps.length->bindArgs (Oi x qual (cn st) (aK st) (am st) .none kV doc pm an cdv ct) ⟨us,[]⟩=pure (ps.zip us)):bK K fd ps []:=by
 obtain⟨oc,od,kV,doc,pm,an,cdv,ct,osl,rfl,lk,hcd⟩:=F.ex
 exact .all (h kV doc pm an cdv ct)
def eS {x qual:Str}{st:Stmt}{f:Addr}{oc:tx}{od an:Option Addr}{osl:Array (Option tx)}{kV doc pm cdv ct:tx}(l:K.lookup f=some ⟨oc,od,.func (Oi x qual (cn st) (aK st) (am st) .none kV doc pm an cdv ct),osl⟩)
 (c:SZ K cdv qual=true)(k:Oh K (.ref f)=true):Fun K x qual st f (Oi x qual (cn st) (aK st) (am st) .none kV doc pm an cdv ct):=⟨⟨oc,od,kV,doc,pm,an,cdv,ct,osl,rfl,l,c⟩,k⟩
end
def bU {n:Nat}(h:n<=1000):n<sizeLine:=MY h (by decide)
section
variable {X:Cx}
def vX:bX X (.builtin "len") (fun xs H Q=>∃a kvs,xs=[V.ref a]/\H a=some (.dK kvs)/\Q (.int kvs.length) H):=by
 intro pins s σ H xs us Q I r h
 obtain⟨a,kvs,rfl,ha,q⟩:=h
 obtain⟨u,rfl,ru⟩:=jR r
 cases ru
 exact Gk I (.inl ha) fun t s' I'=>⟨.int kvs.length,H,I',⟨t,rfl⟩,q⟩
end
def lP {A B:Prop}(h:A):if true=true then A else B:=by
 rw[if_pos rfl]
 exact h
def ar (H H':Hp):Prop:=∀b o,H b=some o->H' b=some o
def ar.refl (H:Hp):ar H H:=fun _ _ h=>h
def ar.trans {H H1 H2:Hp}(a:ar H H1)(b:ar H1 H2):ar H H2:=fun c o h=>b c o (a c o h)
def ar.free {H H':Hp}(e:ar H H'){l:Addr}(h:H' l=TD):H l=TD:=by
 cases q:H l with
 |none=>rfl
 |some o=>
  rw[e l o q]at h
  cases h
def eM:List (Str×NG)->List (Str×Addr)->List (Str×Addr)->List (Str×Addr)
 |[],_,cs=>cs
 |(n,k)::r,cells,cs=>eM r cells (if k==.free then(match cells.lookup n with|some a=>(n,a)::cs|none=>cs)else cs)
def re {scope:Scope}{env:Env}(h:∀y∈scope.names,y.2=.free->(env.cells.lookup y.1).isSome=true):closureFor scope env=pure (eM scope.names env.cells []):=by
 have key:∀(l:List (Str×NG))(cs:List (Str×Addr)),(∀y∈l,y.2=.free->(env.cells.lookup y.1).isSome=true)->
   (forIn l cs (fun(x:Str×NG)(cs:List (Str×Addr))=>(if (x.2==Nz)=true then(do let a<-cellOf env x.1;pure (RX ((x.1,a)::cs)))else(pure (RX cs):Sem _))):Sem (List (Str×Addr)))=pure (eM l env.cells cs):=by
  intro l
  induction l with
  |nil=>intro cs _;rfl
  |cons y r ih=>
   intro cs hy
   obtain⟨n,k⟩:=y
   rw[Tl]
   by_cases hk:k=.free
   ·subst hk
    have hs:=hy (n,.free) MD rfl
    cases e:env.cells.lookup n with
    |none=>rw[e]at hs;cases hs
    |some a=>
     have:=ih ((n,a)::cs) (fun z hz=>hy z (Mm _ hz))
     simp only[eM,beq_self_eq_true,if_true,e,cellOf,SV]
     exact this
   ·have hb:(k==Nz)=false:=by simpa using hk
    have:=ih cs (fun z hz=>hy z (Mm _ hz))
    simp only[eM,hb,Qk,if_false,SV]
    exact this
 have:=key scope.names [] h
 unfold closureFor
 simpa using this
theorem oV:∀{l:List (Str×NG)}{cells cs:List (Str×Addr)}{x:Str}{c:Addr},(∀x c,cs.lookup x=some c->cells.lookup x=some c)->(eM l cells cs).lookup x=some c->cells.lookup x=some c
 |[],_,_,_,_,h,e=>h _ _ e
 |(n,k)::r,cells,cs,x,c,h,e=>by
  refine oV (l:=r) (fun y d hy=>?_) e
  split at hy
  ·split at hy
   ·rename_i a ha
    by_cases hyn:y=n
    ·subst hyn
     rw[RE]at hy
     rw[<-hy];exact ha
    ·rw[Nr]at hy
     have:(y==n)=false:=by simpa using hyn
     rw[this]at hy
     exact h _ _ hy
   ·exact h _ _ hy
  ·exact h _ _ hy
theorem mL:∀{l:List (Str×NG)}{cells cs:List (Str×Addr)}{x:Str},(cs.lookup x).isSome=true->((eM l cells cs).lookup x).isSome=true
 |[],_,_,_,h=>h
 |(n,k)::r,cells,cs,x,h=>by
  refine mL (l:=r) ?_
  split
  ·split
   ·rw[Nr]
    split
    ·rfl
    ·exact h
   ·exact h
  ·exact h
theorem kD:∀{l:List (Str×NG)}{cells cs:List (Str×Addr)}{x:Str},(x,Nz)∈l->(cells.lookup x).isSome=true->((eM l cells cs).lookup x).isSome=true
 |[],_,_,_,h,_=>by cases h
 |(n,k)::r,cells,cs,x,h,hs=>by
  rcases LZ.mp h with e|h
  ·cases e
   refine mL (l:=r) ?_
   simp only[beq_self_eq_true,if_true]
   cases e:cells.lookup n with
   |none=>rw[e]at hs;cases hs
   |some a=>simp only[RE];rfl
  ·exact kD (l:=r) h hs
def mi {x:Str}{k:NG}:∀{l:List (Str×NG)},l.lookup x=some k->(x,k)∈l:=fun h=>Nb h
inductive gS (X:Cx)(scope:Scope):List Str->List Nat->Prop where
 |nil:gS X scope [] []
 |cons {y:Str} {i:Nat} {ys:List Str} {is:List Nat} (h1:X.N[i]?=some y) (h2:X.env.kindOf y=some .cell\/X.env.kindOf y=some .free) (h3:scope.names.lookup y=some .free) (h:gS X scope ys is):gS X scope (y::ys) (i::is)
structure fO (scope:Scope)(x:Str)(ys:List Str):Prop where
 kind:scope.kind=.function
 nocell:∀y∈scope.names,y.2≠.cell
 names:∀y∈scope.names,y.2=.local->scope.names.lookup y.1=some .local
 own:scope.names.lookup x=some .local
 all:∀y∈scope.names,y.2=.free->y.1∈ys
 nd:(x::ys).Nodup
def bG (X:Cx)(scope:Scope)(C:Addr)(N:List Str)(s:If)(H:Hp)(fp:List Addr):Cx:=
 {X with N:=N,s₀:=s,H₀:=H,env:=compEnvC scope (eM scope.names X.env.cells []) C X.env,outer:=X.stack,ex:=fp,fn:=fun _=>false,pn:=[],xe:=fun _ _=>False}
def bS (σ:St)(is:List Nat):St:=is.map fun i=>(σ[i]?).getD none
theorem jc {f:Str×NG->Str×NG}(hf:∀p,(f p).1=p.1){x:Str}:∀(l:List (Str×NG)),(l.map f).lookup x=(l.lookup x).map fun k=>(f (x,k)).2
 |[]=>rfl
 |(n,k)::r=>by
  have ih:=jc hf (x:=x) r
  have e:f (n,k)=(n,(f (n,k)).2):=TC (hf (n,k)) rfl
  rw[My,e,Nr,Nr]
  cases hx:x==n with
  |true=>
   have e':x=n:=by simpa using hx
   subst e';rfl
  |false=>exact ih
def jD (scope:Scope)(env:Env)(x:Str):(relabel scope env).names.lookup x=(scope.names.lookup x).map fun k=>if (k==Nz&&env.scope.kind==.function&&env.kindOf x==some .cell)then OP else k:=by
 have hf:∀p:Str×NG,((fun(n,k)=>if (k==Nz&&env.scope.kind==.function&&env.kindOf n==some .cell)then(n,OP)else(n,k)) p:Str×NG).1=p.1:=by
  intro p
  obtain⟨n,k⟩:=p
  show(if _ then(n,OP)else(n,k)).1=n
  split<;>rfl
 have:=jc hf (x:=x) scope.names
 show Nc x (List.map _ scope.names)=_
 rw[this]
 congr 1
 funext k
 show(if _ then(x,OP)else(x,k)).2=_
 split<;>rfl
def ji {scope:Scope}{env:Env}{x:Str}{k:NG}(nc:∀y∈scope.names,y.2≠.cell)(h:(relabel scope env).names.lookup x=some k)(hk:k=.cell\/k=.free):(x,Nz)∈scope.names:=by
 rw[jD]at h
 cases q:scope.names.lookup x with
 |none=>rw[q]at h;cases h
 |some k'=>
  have hm:=mi q
  rw[q]at h
  have h:(if (k'==Nz&&env.scope.kind== .function&&env.kindOf x==some .cell)then OP else k')=k:=LW h
  by_cases hc:k'=.free
  ·subst hc;exact hm
  ·have hb:(k'==Nz)=false:=by simpa using hc
   rw[hb]at h
   have h:k'=k:=h
   subst h
   rcases hk with z|z
   ·exact absurd z (nc _ hm)
   ·exact absurd z hc
def qz {scope:Scope}{env:Env}{x:Str}(h:scope.names.lookup x=some .free):(relabel scope env).names.lookup x=some .cell\/(relabel scope env).names.lookup x=some .free:=by
 rw[jD,h]
 show some (if _ then _ else _)=_\/some (if _ then _ else _)=_
 split
 ·exact .inl rfl
 ·exact .inr rfl
def pr {scope:Scope}{env:Env}{x:Str}(h:scope.names.lookup x=some .local):(relabel scope env).names.lookup x=some .local:=by
 rw[jD,h];rfl
def wA {X:Cx}{scope:Scope}{ys:List Str}{is:List Nat}{m:Str->Option tx}{h:Heap}{σ:St}(hc:gS X scope ys is)
  (hl:∀(i:Nat)(x:Str)(v:V),X.N[i]? =some x->σ[i]? =some (some v)->Vis X.env.scope x->∃u,aS v u/\BU X.env h m x u)(nd:True):
  ∀(j:Nat)(y:Str)(v:V),ys[j]? =some y->(bS σ is)[j]? =some (some v)->∃u,aS v u/\scope.names.lookup y=some .free/\∃c,X.env.cells.lookup y=some c/\h.IsCell c (some u):=by
 induction hc with
 |nil=>intro j y v e;simp at e
 | @cons z i zs js h1 h2 h3 hr ih=>
   intro j y v e1 e2
   cases j with
   |zero=>
    simp at e1;subst e1
    have e2:(σ[i]?).getD none=some v:=by simpa[bS]using e2
    have e3:σ[i]? =some (some v):=by
     cases q:σ[i]? with
     |none=>rw[q]at e2;simp at e2
     |some o=>rw[q]at e2;simp at e2;rw[e2]
    have hv:Vis X.env.scope z:=by
     rcases h2 with q|q
     ·exact .inr (.inl q)
     ·exact .inr (.inr q)
    obtain⟨u,r,l⟩:=hl i z v h1 e3 hv
    refine⟨u,r,h3,?_⟩
    rcases l with⟨k,_⟩|⟨_,c,e,ic⟩
    ·rcases h2 with q|q
     ·rw[q]at k;cases k
     ·rw[q]at k;cases k
    ·exact⟨c,e,ic⟩
   |succ j=>
    exact ih j y v (by simpa using e1) (by simpa[bS]using e2)
def vq (is:List Nat)(tc:TT)(te:TE)(σ:St)(D:Addr)(J:It)(H1:Hp)(Q:VK):Prop:=∃W:Nat->Nat->List V->Hp->Prop,(∃m,W 0 m [] (upd H1 D (.lst [])))/\
 ∀i m ys H2,W i m ys H2->(J.stop i H2/\Q (.ref D) H2)\/(J.go i H2/\∀x H3,J.yld i H2 x H3->tc (some x::bS σ is) H3 fun b H4=>if b=true then
  te (some x::bS σ is) H4 fun y H5=>H5 D=some (.lst ys)/\ys.length<sizeLine/\∃m',m'<m/\W (i+1) m' (ys++[y]) (upd H5 D (.lst (ys++[y])))
  else ∃m',m'<m/\W (i+1) m' ys H4)
def fJ (is:List Nat)(wi:TI)(tc:TT)(te:TE):TE:=fun σ H Q=>wi σ H fun J H1=>∀D,H1 D=none->vq is tc te σ D J H1 Q
def rR (elt target iter c:Expr)(scope:Scope)(pos:Pos)(it acc:tx)(env:Env):
  compTurn (.ListComp elt [⟨target,iter,[c],0⟩] scope pos) 0 it acc env=(standAt iter.pos >>= fun _=>pyNext it >>= fun r=>match r with
   |none=>pure (.done .next)
   |some v=>letOwnedTupleGo target it v >>= fun _=>assign target env v >>= fun _=>isTrue c env (eval c env) >>= fun ok=>
    (if ok=true then(eval elt env >>= fun x=>call (.builtin "list.append") [acc,x] >>= fun _=>pure ())else pure ()) >>= fun _=>
     again (.compLoop (.ListComp elt [⟨target,iter,[c],0⟩] scope pos) 0 it acc env)):=by
 unfold compTurn
 simp only[Tl,List.forIn_nil,List.getElem?_cons_zero,List.getElem?_cons_succ,List.getElem?_nil,bind_assoc,SV,bne_self_eq_false,Qk,if_false,if_true]
 congr 1
 funext _
 congr 1
 funext r
 cases r with
 |none=>rfl
 |some v=>
  simp only[bind_assoc,SV,if_true]
  congr 1;funext _
  congr 1;funext _
  congr 1;funext b
  cases b<;>simp
section
variable {prog:Ms}{w:MG}{A:Mw}{R:Qs->If->Prop}{s:If}
def jV {elt target iter c:Expr}{scope:Scope}{pos:Pos}{it acc:tx}{env:Env}(I:Nat->If->Prop)
  (turn:∀n s,I n s->wpAny (model prog w) A (pyNext it) (fun r s₁=>match r with
   |none=>R (.ok .next) s₁
   |some v=>wpAny (model prog w) A (letOwnedTupleGo target it v) (fun _ s₁=>wpAny (model prog w) A (assign target env v) (fun _ s₂=>wpAny (model prog w) A (isTrue c env (eval c env)) (fun ok s₂=>if ok=true then wpAny (model prog w) A (eval elt env) (fun x s₃=>
    wpAny (model prog w) A (call (.builtin "list.append") [acc,x]) (fun _ s₄=>∃m,m<n/\I m s₄) (notedBy (model prog w) A env fun e s'=>R (.error e) s') s₃)
    (notedBy (model prog w) A env fun e s'=>R (.error e) s') s₂ else ∃m,m<n/\I m s₂) (notedBy (model prog w) A env fun e s'=>R (.error e) s') s₂) (notedBy (model prog w) A env fun e s'=>R (.error e) s') s₁) (notedBy (model prog w) A env fun e s'=>R (.error e) s') s₁) (notedBy (model prog w) A env fun e s'=>R (.error e) s') s)
  (n:Nat)(h:I n s):
  codeAny (model prog w) A (.compLoop (.ListComp elt [⟨target,iter,[c],0⟩] scope pos) 0 it acc env) R s:=by
 refine codeAny_loop rfl I (fun n s hI=>?_) n h
 show wpAny _ _ ((compTurn (.ListComp elt [⟨target,iter,[c],0⟩] scope pos) 0 it acc env).onRaise (fun x=>do noteFrame x env;theTreesLotGoes x)) _ _ s
 refine wpAny_noted ?_
 rw[rR]
 refine gV (Ol (gV (Mx (turn n s hI) (fun r s₁ h₁=>?_) fun _ _ h'=>h')))
 cases r with
 |none=>exact LY h₁
 |some v=>
  refine gV (Mx h₁ (fun _ s₁ h₁=>gV (Mx h₁ (fun _ s₂ h₂=>gV (Mx h₂ (fun ok s₃ h₃=>?_) fun _ _ h'=>h')) fun _ _ h'=>h')) fun _ _ h'=>h')
  cases ok with
  |true=>
   rw[if_pos rfl]at h₃
   simp only[if_true]
   exact gV (gV (Mx h₃ (fun x s₃ h₃=>gV (Mx h₃ (fun _ s₄ h₄=>LY (LY ⟨rfl,h₄⟩)) fun _ _ h'=>h')) fun _ _ h'=>h'))
  |false=>
   rw[if_neg Mo]at h₃
   simp only[Qk,if_false]
   exact gV (LY (LY ⟨rfl,h₃⟩))
def jT {elt target iter:Expr}{scope:Scope}{pos:Pos}{it acc:tx}{env:Env}(I:Nat->If->Prop)
  (turn:∀n s,I n s->wpAny (model prog w) A (pyNext it) (fun r s₁=>match r with
   |none=>R (.ok .next) s₁
   |some v=>wpAny (model prog w) A (letOwnedTupleGo target it v) (fun _ s₁=>wpAny (model prog w) A (assign target env v) (fun _ s₂=>wpAny (model prog w) A (eval elt env) (fun x s₃=>
    wpAny (model prog w) A (call (.builtin "list.append") [acc,x]) (fun _ s₄=>∃m,m<n/\I m s₄) (notedBy (model prog w) A env fun e s'=>R (.error e) s') s₃)
    (notedBy (model prog w) A env fun e s'=>R (.error e) s') s₂) (notedBy (model prog w) A env fun e s'=>R (.error e) s') s₁) (notedBy (model prog w) A env fun e s'=>R (.error e) s') s₁) (notedBy (model prog w) A env fun e s'=>R (.error e) s') s)
  (n:Nat)(h:I n s):
  codeAny (model prog w) A (.compLoop (.ListComp elt [⟨target,iter,[],0⟩] scope pos) 0 it acc env) R s:=by
 refine codeAny_loop rfl I (fun n s hI=>?_) n h
 show wpAny _ _ ((compTurn (.ListComp elt [⟨target,iter,[],0⟩] scope pos) 0 it acc env).onRaise (fun x=>do noteFrame x env;theTreesLotGoes x)) _ _ s
 refine wpAny_noted ?_
 rw[compTurn_list1]
 refine gV (Ol (gV (Mx (turn n s hI) (fun r s₁ h₁=>?_) fun _ _ h'=>h')))
 cases r with
 |none=>exact LY h₁
 |some v=>
  exact gV (Mx h₁ (fun _ s₁ h₁=>gV (Mx h₁ (fun _ s₂ h₂=>gV (gV (Mx h₂ (fun x s₃ h₃=>gV (Mx h₃
   (fun _ s₄ h₄=>LY (LY ⟨rfl,h₄⟩)) fun _ _ h'=>h')) fun _ _ h'=>h'))) fun _ _ h'=>h')) fun _ _ h'=>h')
end
def uR (X:Cx)(ifs:List Expr)(tc:TT):Prop:=match ifs with
 |[]=>tc=fun _ H Q=>Q true H
 |[c]=>PT X c tc
 |_=>False
section
variable {X:Cx}
def xp {scope:Scope}{ys:List Str}{is:List Nat}(h:gS X scope ys is):is.length=ys.length:=by
 induction h with
 |nil=>rfl
 |cons _ _ _ _ ih=>simp[ih]
def oM {scope:Scope}{ys:List Str}{is:List Nat}(h:gS X scope ys is){y:Str}(hy:y∈ys):X.env.kindOf y=some .cell\/X.env.kindOf y=some .free:=by
 induction h with
 |nil=>cases hy
 |cons _ h2 _ _ ih=>
  rcases LZ.mp hy with e|e
  ·rw[e];exact h2
  ·exact ih e
def oE {elt iter:Expr}{ifs:List Expr}{x:Str}{px pos:Pos}{scope:Scope}{ys:List Str}{is:List Nat}{tc:TT}{te:TE}{pins:List (Addr×Obj)}{σ:St}{H2:Hp}{s2:If}{it:Addr}{fp:List Addr}{tn:Nat->Heap->Prop}{J:It}{E:tx->If->Prop}{Q:VK}{RR:tx->Addr->Qs->If->Prop}
  (hc:X.calm=true)(S:fO scope x ys)(hcap:gS X scope ys is)
  (hif:∀C s H fp,uR (bG X scope C (x::ys) s H fp) ifs tc)(he:∀C s H fp,PE (bG X scope C (x::ys) s H fp) elt te)
  (I2:Inv X pins σ H2 s2)(T:nS X.prog X.w X.K (.Name x px) J fp it tn)(st2:tn 0 s2.heap)(f2:∀b∈fp,kK X pins H2 b)
  (hW:∀D,H2 D=none->∃W:Nat->Nat->List V->Hp->Prop,(∃m,W 0 m [] (upd H2 D (.lst [])))/\
   ∀i m ys H2,W i m ys H2->(J.stop i H2/\Q (.ref D) H2)\/(J.go i H2/\∀x H3,J.yld i H2 x H3->tc (some x::bS σ is) H3 fun b H4=>if b=true then
    te (some x::bS σ is) H4 fun y H5=>H5 D=some (.lst ys)/\ys.length<sizeLine/\∃m',m'<m/\W (i+1) m' (ys++[y]) (upd H5 D (.lst (ys++[y])))
    else ∃m',m'<m/\W (i+1) m' ys H4))
  (hRR:∀D C H' s',(X.s₀.heap.objs.size<=C/\∀p∈X.pn++pins,p.1≠C)->(∃m,s'.heap.Ns C m)->C≠X.env.locals->H' C=none->Inv X pins σ H' s'->(∀h',Oa C s'.heap h'->Inv X pins σ H' {s' with heap:=h'})->Q (.ref D) H'->RR (.ref D) C (.ok .next) s'):
  wpAny (model X.prog X.w) X.A (newList []) (fun acc s₃=>wpAny (model X.prog X.w) X.A (newFunctionEnv scope X.env.globals (eM scope.names X.env.cells []) [] X.env.qual none .none (some X.env)) (fun cenv s₄=>
   codeAny (model X.prog X.w) X.A (.compStart (.ListComp elt [⟨.Name x px,iter,ifs,0⟩] scope pos) 0 (.ref it) acc {cenv with scope:=relabel scope X.env}) (RR acc cenv.locals) s₄) E s₃) E s2:=by
 have hf2:H2 s2.heap.objs.size=none:=I2.fresh
 refine NV (Ql S.nocell (by intro y hy;simp at hy) (fun h₁ hns₁ hsb₁=>?_) S.kind)
 dsimp only at hns₁ hsb₁⊢
 have I3:Inv X pins σ (upd H2 s2.heap.objs.size (.lst [])) {s2 with heap:=s2.heap.push {cls:=.type "list",data:=.seq ([]:List tx).toArray}}:=I2.lnew (t':=s2.toks) (ys:=[]) .nil (MS _)
 obtain⟨W,⟨m0,w0⟩,turn⟩:=hW _ hf2
 generalize hD:s2.heap.objs.size=D at I3 w0 turn hf2⊢
 generalize hs3:({s2 with heap:=s2.heap.push {cls:=.type "list",data:=.seq ([]:List tx).toArray}}:If)=s3 at I3
 have hp3:s2.heap.push {cls:=.type "list",dict:=none,data:=.seq ([]:List tx).toArray}=s3.heap:=by rw[<-hs3]
 rw[hp3]at hns₁ hsb₁⊢
 have tk3:s2.toks=s3.toks:=by rw[<-hs3]
 generalize hH3:upd H2 D (.lst [])=H3 at I3 w0
 generalize hC:s3.heap.objs.size=C at hns₁ hsb₁⊢
 have keep2:∀b o,s2.heap.get? b=some o->s3.heap.get? b=some o:=fun b o e=>by rw[<-hp3];exact Lt _ e
 have keep3:∀b o,s3.heap.get? b=some o->h₁.get? b=some o:=fun b o e=>hsb₁.extBut b o (by rw[<-hC];exact Ml (Ma e)) (Lt _ e)
 have st3:tn 0 s3.heap:=T.keep _ _ _ st2 fun b _ o e=>keep2 b o e
 have st4:tn 0 h₁:=T.keep _ _ _ st3 fun b _ o e=>keep3 b o e
 have fp3:∀b∈fp,H3 b=none/\b<C:=fun b hb=>by
  obtain⟨o,e,_⟩:=T.obj _ _ st2 b hb
  refine⟨?_,by rw[<-hC];exact Ma (keep2 b o e)⟩
  rw[<-hH3,ao (by rw[<-hD];exact Ml (Ma e))]
  exact(f2 b hb).1
 have hcells:∀{z:Str}{c:Addr},(eM scope.names X.env.cells []).lookup z=some c->X.env.cells.lookup z=some c:=fun h=>oV (fun _ _ q=>by cases q) h
 have hX:(bG X scope C (x::ys) s3 H3 fp).Ok:=by
  refine⟨I3.ok.mod,S.kind,I3.ok.glob,I3.ok.blt,QF hC,fun y z c h1 h2=>I3.ok.inj y z c (hcells h1) (hcells h2),fun y hy=>?_,fun y c h _=>absurd (show false=true from h) Mo,I3.ok.hd,I3.ok.frames,.inl rfl,fun b hb=>⟨Ml (fp3 b hb).2,fun y c h=>(f2 b hb).2.2.2.2.1 y c (hcells h)⟩,fun b o e=>I3.bs b o e,Mv I3.ok.bsz I3.sz,fun b o e hb=>?_,fun b hb z=>?_,I3.stack,I3.stkFree⟩
  ·have hy:(relabel scope X.env).names.lookup y=some .cell\/(relabel scope X.env).names.lookup y=some .free:=hy
   have hm:(y,Nz)∈scope.names:=by
    rcases hy with q|q
    ·exact ji S.nocell q (.inl rfl)
    ·exact ji S.nocell q (.inr rfl)
   have hs:∃c,X.env.cells.lookup y=some c:=by
    by_cases hk:X.env.kindOf y=some .cell\/X.env.kindOf y=some .free
    ·exact I3.ok.has y hk
    ·exact absurd (oM hcap (S.all _ hm rfl)) hk
   exact Mt.mp (kD hm (Mt.mpr hs))
  ·rcases(f2 b hb).2.2.2.1 with z|z
   ·exact I3.ok.noex b o e z
   ·exact absurd (Mg (Ma e) (Mv I3.ok.bsz z)) (Nd _)
  ·rcases LZ.mp (I3.stkSub b z)with q|q
   ·exact(f2 b hb).2.1 q
   ·exact(f2 b hb).2.2.1 q
 have I4:Inv (bG X scope C (x::ys) s3 H3 fp) [] (none::bS σ is) H3 {s2 with heap:=h₁,toks:=s2.toks+([]:List (Str×tx)).length}:=by
  obtain⟨m3,hm3,hl3⟩:=id I3.loc
  refine⟨hX,?_,?_,Un.kept keep3,⟨_,hns₁,fun i y v e1 e2 e3=>?_⟩,fun y c e=>?_,?_,fun y c e=>I3.freeC y c (hcells e),fun p hp=>absurd (show p∈([]:List (Addr×Obj))from hp) (by simp),I3.hok.kept keep3,?_⟩
  ·show s2.os=s3.os
   rw[<-hs3]
  ·have:=I2.bare;exact this
  ·cases i with
   |zero=>simp at e2
   |succ j=>
    obtain⟨u,r,hfr,c,ec,ic⟩:=wA hcap hl3 trivial j y v (by have e1':(x::ys)[j+1]? =some y:=e1;simpa using e1') (by simpa using e2)
    have hk:=qz (env:=X.env) hfr
    obtain⟨c',ec'⟩:=Mt.mp (kD (cs:=[]) (mi hfr) (by rw[ec];rfl) (cells:=X.env.cells))
    have:c'=c:=by have:=hcells ec';rw[ec]at this;exact(LW this).symm
    subst this
    obtain⟨o,ho,hd⟩:=ic
    exact⟨u,r,.inr ⟨hk,c',ec',o,keep3 _ _ ho,hd⟩⟩
  ·obtain⟨v,o,ho,hd⟩:=I3.cell y c (hcells e)
   exact⟨v,o,keep3 _ _ ho,hd⟩
  ·have:=I3.hok.fresh (a:=C) (QF hC)
   exact this
  ·have:=xp hcap
   show(none::bS σ is).length=(x::ys).length
   simp[bS,this]
 have lenσ:∀v:Option V,(v::bS σ is).set 0=fun w=>w::bS σ is:=fun v=>rfl
 have hown:(relabel scope X.env).names.lookup x=some .local:=pr S.own
 have loop:codeAny (model X.prog X.w) X.A (.compLoop (.ListComp elt [⟨.Name x px,iter,ifs,0⟩] scope pos) 0 (.ref it) (.ref D) (compEnvC scope (eM scope.names X.env.cells []) C X.env)) (RR (.ref D) C)
   {s2 with heap:=h₁,toks:=s2.toks+([]:List (Str×tx)).length}:=by
  have fin:∀{H':Hp}{v:Option V}{s':If},Inv (bG X scope C (x::ys) s3 H3 fp) [] (v::bS σ is) H' s'->Q (.ref D) H'->RR (.ref D) C (.ok .next) s':=fun{H' v s'} J q=>by
   obtain⟨m',hm',_⟩:=J.loc
   have hCL:C≠X.env.locals:=Md (by rw[<-hC];exact Ml I3.lt)
   have back:∀h',Oa C s'.heap h'->Inv X pins σ H' {s' with heap:=h'}:=fun h' hs'=>by
    have os':s'.os=s3.os:=J.os
    refine I3.call' (s':={s' with heap:=h'}) (ch:=fp) os' ⟨fun b o e n hb hx=>?_,fun b o e n hb hx=>?_,fun b o e n hx=>J.base.free b o e n hx,fun b o e hx=>?_,J.base.tups,J.base.frzs,J.base.tbls⟩ (fun b o e=>?_) J.bare fun b hb=>?_
    ·exact hs'.extBut b o (by rw[<-hC];exact Ml (Ma e)) (J.base.keep b o e n hb hx)
    ·obtain⟨sl,e1⟩:=J.base.slot b o e n hb hx
     exact⟨sl,hs'.extBut b _ (by rw[<-hC];exact Ml (Ma e)) e1⟩
    ·obtain⟨o',e1⟩:=J.base.there b o e hx
     exact⟨o',hs'.extBut b _ (by rw[<-hC];exact Ml (Ma e)) e1⟩
    ·refine(J.hok b o e).stay (fun c w' hc q=>(hs'.2 c ?_).trans q) (fun _ q=>q) fun _ _ q=>q
     have fC:H' C=none:=J.free
     rintro rfl
     rcases hc with rfl|hc
     ·rw[fC]at e;cases e
     ·rw[fC]at hc;cases hc
    ·obtain⟨_,a1,_,a2,a3,a4⟩:=f2 b hb
     exact⟨a2,a1,a3,a4⟩
   refine hRR D C H' s' ⟨by rw[<-hC];exact I3.sz,fun p hp=>by rw[<-hC];exact Ml (Ma (I3.pin p hp).1)⟩ ⟨m',hm'⟩ hCL J.free ?_ back q
   have:=back s'.heap (.refl ..)
   exact this
  have stat:∀{H':Hp},(∀b∈fp,H' b=none)->∀b∈fp,kK (bG X scope C (x::ys) s3 H3 fp) [] H' b:=fun hn b hb=>by
   obtain⟨_,a1,a5,a2,a3,a4⟩:=f2 b hb
   refine⟨hn b hb,Ml (fp3 b hb).2,fun z=>?_,.inl hb,fun y c e=>a3 y c (hcells e),fun p hp=>absurd (show p∈([]:List (Addr×Obj))from hp) (by simp)⟩
   rcases LZ.mp (I3.stkSub b z)with q|q
   ·exact a1 q
   ·exact a5 q
  have turnAt:∀n s,(∃i v ys' H',Inv (bG X scope C (x::ys) s3 H3 fp) [] (v::bS σ is) H' s/\tn i s.heap/\(∀b∈fp,H' b=none)/\W i n ys' H')->
    wpAny (model X.prog X.w) X.A (pyNext (.ref it)) (fun r s₁=>match r with
     |none=>RR (.ref D) C (.ok .next) s₁
     |some u=>wpAny (model X.prog X.w) X.A (letOwnedTupleGo (.Name x px) (.ref it) u) (fun _ s₁=>wpAny (model X.prog X.w) X.A (assign (.Name x px) (compEnvC scope (eM scope.names X.env.cells []) C X.env) u) (fun _ s₂=>
      ∃(xx:V)(i:Nat)(ys':List V)(H3' H6:Hp)(pl:List (Addr×Obj)),Inv (bG X scope C (x::ys) s3 H3 fp) ([]++pl) (some xx::bS σ is) H6 s₂/\
       (∀s7 v7 H7,Inv (bG X scope C (x::ys) s3 H3 fp) ([]++pl) (v7::bS σ is) H7 s7->Inv (bG X scope C (x::ys) s3 H3 fp) [] (v7::bS σ is) H7 s7/\tn (i+1) s7.heap/\∀b∈fp,H7 b=none)/\
       (tc (some xx::bS σ is) H6 fun b H4=>if b=true then te (some xx::bS σ is) H4 fun y H5=>H5 D=some (.lst ys')/\ys'.length<sizeLine/\∃m',m'<n/\W (i+1) m' (ys'++[y]) (upd H5 D (.lst (ys'++[y])))
        else ∃m',m'<n/\W (i+1) m' ys' H4)) (fun _ _=>False) s₁) (fun _ _=>False) s₁) (fun _ _=>False) s:=by
   rintro n s ⟨i,v,ys',H',J,st,fr,w'⟩
   rcases turn i n ys' H' w' with⟨stop,qn⟩|⟨go,step⟩
   ·refine thn (T.done (bG X scope C (x::ys) s3 H3 fp) rfl rfl rfl hc i [] s _ H' (fun _ _=>False) J (stat fr) st stop) fun r s4 ⟨hr,J4⟩=>?_
    subst hr
    exact fin J4 qn
   ·refine thn (T.item (bG X scope C (x::ys) s3 H3 fp) rfl rfl rfl hc i [] s _ H' (fun _ _=>False) J (stat fr) st go) fun r s4 ⟨u,hr,h4⟩=>?_
    subst hr
    refine thn h4 fun _ s5 ⟨xx,H5,J5,r5,y5,st5,fr5⟩=>?_
    have J5':=J5.pinned (stat fr5) (T.obj _ _ st5)
    refine QV (gp (i:=0) J5' S.nd rfl (.inl hown) r5 (fun s6 J6=>?_) (.inr hown))
    refine⟨xx,i,ys',H5,H5,kj fp s5.heap,J6,fun s7 v7 H7 J7=>⟨J7.unpinned,T.keep _ _ _ st5 fun b hb o e=>(J7.pin (b,o) (MJ _ (MJ _ (hJ hb e)))).1,fun b hb=>?_⟩,step xx H5 y5⟩
    obtain⟨o,e,d⟩:=T.obj _ _ st5 b hb
    exact(J7.pin (b,o) (MJ _ (MJ _ (hJ hb e)))).2.1
  have start0:∃i v ys' H',Inv (bG X scope C (x::ys) s3 H3 fp) [] (v::bS σ is) H' {s2 with heap:=h₁,toks:=s2.toks+([]:List (Str×tx)).length}/\tn i h₁/\(∀b∈fp,H' b=none)/\W i m0 ys' H':=
   ⟨0,none,[],H3,I4,st4,fun b hb=>(fp3 b hb).1,w0⟩
  have emit:∀(n:Nat)(xx:V)(i:Nat)(ys':List V)(H4:Hp)(pl:List (Addr×Obj))(s₂:If),Inv (bG X scope C (x::ys) s3 H3 fp) ([]++pl) (some xx::bS σ is) H4 s₂->
    (∀s7 v7 H7,Inv (bG X scope C (x::ys) s3 H3 fp) ([]++pl) (v7::bS σ is) H7 s7->Inv (bG X scope C (x::ys) s3 H3 fp) [] (v7::bS σ is) H7 s7/\tn (i+1) s7.heap/\∀b∈fp,H7 b=none)->
    (te (some xx::bS σ is) H4 fun y H5=>H5 D=some (.lst ys')/\ys'.length<sizeLine/\∃m',m'<n/\W (i+1) m' (ys'++[y]) (upd H5 D (.lst (ys'++[y]))))->
    wpAny (model X.prog X.w) X.A (eval elt (compEnvC scope (eM scope.names X.env.cells []) C X.env)) (fun y s₃=>wpAny (model X.prog X.w) X.A (call (.builtin "list.append") [.ref D,y]) (fun _ s₄=>
     ∃m,m<n/\∃i v ys' H',Inv (bG X scope C (x::ys) s3 H3 fp) [] (v::bS σ is) H' s₄/\tn i s₄.heap/\(∀b∈fp,H' b=none)/\W i m ys' H') (fun _ _=>False) s₃) (fun _ _=>False) s₂:=by
   intro n xx i ys' H4 pl s₂ J2 back q
   refine thn (he C s3 H3 fp ([]++pl) s₂ _ H4 _ J2 q) fun y s₃ ⟨yv,H5,J3,r3,q1,q2,q3⟩=>?_
   refine thn (dO (X:=bG X scope C (x::ys) s3 H3 fp) ([]++pl) s₃ _ H5 (.ref D) [yv] (.ref D) [y] (fun v H7=>v=.non/\H7=upd H5 D (.lst (ys'++[yv]))) J3 rfl (.cons r3 .nil) ⟨D,ys',yv,rfl,rfl,q1,q2,rfl,rfl⟩) fun _ s₄ ⟨_,H7,J4,_,_,e7⟩=>?_
   subst e7
   obtain⟨m',hm',w'⟩:=q3
   obtain⟨b1,b2,b3⟩:=back s₄ _ _ J4
   exact⟨m',hm',i+1,some xx,ys'++[yv],_,b1,b2,b3,w'⟩
  have ex0:∀{α:Type}{t:Sem α}{Q':α->If->Prop}{E':tx->If->Prop}{s:If},wpAny (model X.prog X.w) X.A t Q' (fun _ _=>False) s->wpAny (model X.prog X.w) X.A t Q' E' s:=fun h=>Mx h (fun _ _ q=>q) fun _ _ q=>q.elim
  cases ifs with
  |nil=>
   have htc:tc=fun _ H Q=>Q true H:=hif C s3 H3 fp
   subst htc
   refine jT (fun n s=>∃i v ys' H',Inv (bG X scope C (x::ys) s3 H3 fp) [] (v::bS σ is) H' s/\tn i s.heap/\(∀b∈fp,H' b=none)/\W i n ys' H') (fun n s hI=>?_) m0 start0
   refine Mx (turnAt n s hI) (fun r s₁ h₁=>?_) fun _ _ q=>q.elim
   cases r with
   |none=>exact h₁
   |some u=>
    refine Mx h₁ (fun _ s₁ h₁=>Mx h₁ (fun _ s₂ h₂=>?_) fun _ _ q=>q.elim) fun _ _ q=>q.elim
    obtain⟨xx,i,ys',_,H6,pl,J2,back,q⟩:=h₂
    dsimp only at q
    rw[if_pos rfl]at q
    exact Mx (emit n xx i ys' H6 pl s₂ J2 back q) (fun y s₃ h₃=>ex0 h₃) fun _ _ q=>q.elim
  |cons c r0=>
   cases r0 with
   |cons _ _=>exact(hif C s3 H3 fp).elim
   |nil=>
    have hpt:PT (bG X scope C (x::ys) s3 H3 fp) c tc:=hif C s3 H3 fp
    refine jV (fun n s=>∃i v ys' H',Inv (bG X scope C (x::ys) s3 H3 fp) [] (v::bS σ is) H' s/\tn i s.heap/\(∀b∈fp,H' b=none)/\W i n ys' H') (fun n s hI=>?_) m0 start0
    refine Mx (turnAt n s hI) (fun r s₁ h₁=>?_) fun _ _ q=>q.elim
    cases r with
    |none=>exact h₁
    |some u=>
     refine Mx h₁ (fun _ s₁ h₁=>Mx h₁ (fun _ s₂ h₂=>?_) fun _ _ q=>q.elim) fun _ _ q=>q.elim
     obtain⟨xx,i,ys',_,H6,pl,J2,back,q⟩:=h₂
     refine Mx (hpt ([]++pl) s₂ _ H6 _ J2 q) (fun b s₃ h₃=>?_) fun _ _ q=>q.elim
     obtain⟨H4,J4,q4⟩:=h₃
     cases b with
     |true=>
      rw[if_pos rfl]at q4⊢
      exact Mx (emit n xx i ys' H4 pl s₃ J4 back q4) (fun y s₃ h₃=>ex0 h₃) fun _ _ q=>q.elim
     |false=>
      rw[if_neg Mo]at q4⊢
      obtain⟨m',hm',w'⟩:=q4
      obtain⟨b1,b2,b3⟩:=back s₃ _ _ J4
      exact⟨m',hm',i+1,some xx,ys',_,b1,b2,b3,w'⟩
 exact codeAny_compStart_list loop (T.self X.A 0 _ _ _ st4 loop)
end
section
variable {X:Cx}
def sr {scope:Scope}{x:Str}{ys:List Str}{is:List Nat}(ok:X.Ok)(S:fO scope x ys)(hcap:gS X scope ys is):closureFor scope X.env=pure (eM scope.names X.env.cells []):=
 re fun y hy hk=>by
  obtain⟨c,e⟩:=ok.has y.1 (oM hcap (S.all y hy hk))
  rw[e];rfl
def Bg {elt iter:Expr}{ifs:List Expr}{x:Str}{px pos:Pos}{scope:Scope}{ys:List Str}{is:List Nat}{wi:TI}{tc:TT}{te:TE}
  (hc:X.calm=true)(S:fO scope x ys)(hcap:gS X scope ys is)(hi:PI X (.Name x px) iter wi)
  (hif:∀C s H fp,uR (bG X scope C (x::ys) s H fp) ifs tc)(he:∀C s H fp,PE (bG X scope C (x::ys) s H fp) elt te)
  (hs:∀x,foldedSetIterable iter X.env x=pure x:=by intro _;rfl):PE X (.ListComp elt [⟨.Name x px,iter,ifs,0⟩] scope pos) (fJ is wi tc te):=by
 intro pins s σ H Q I h
 rw[eval_ListComp]
 refine RY (use:=none) rfl hs (sr I.ok S hcap) S.kind S.names (thn (hi pins s σ H _ I h) fun v s1 h1=>thn h1 fun itv s2 h2=>?_)
 obtain⟨it,fp,tn,J,H2,rfl,I2,T,st2,f2,hW⟩:=h2
 refine oE (RR:=fun acc C=>compPost (model X.prog X.w) X.A X.xe none (EP X pins σ Q) acc C) hc S hcap hif he I2 T st2 f2 hW ?_
 intro D C H' s' hlt hns hne hfr I' back q
 obtain⟨m,hm⟩:=hns
 exact⟨m,hm,fun h' hs'=>⟨.ref D,H',back h' hs',rfl,q⟩⟩
def uL {elt iter:Expr}{ifs:List Expr}{x y:Str}{px py pos spos:Pos}{scope:Scope}{ys:List Str}{is:List Nat}{wi:TI}{tc:TT}{te:TE}{j:Nat}
  (hN:X.N.Nodup)(hj:X.N[j]?=some y)(hy:Loc X.env.scope y)
  (hc:X.calm=true)(S:fO scope x ys)(hcap:gS X scope ys is)(hi:PI X (.Name x px) iter wi)
  (hif:∀C s H fp,uR (bG X scope C (x::ys) s H fp) ifs tc)(he:∀C s H fp,PE (bG X scope C (x::ys) s H fp) elt te)
  (hsw:swapsWith (.ListComp elt [⟨.Name x px,iter,ifs,0⟩] scope pos) (some (.Name y py)) spos.line X.env=pure true:=by rfl)
  (hf:X.fn y=true\/X.env.scope.names.lookup y=some .local:=by first|exact .inl rfl|exact .inr rfl|assumption)
  (hs:∀x,foldedSetIterable iter X.env x=pure x:=by intro _;rfl):PS X (.Assign [.Name y py] (.ListComp elt [⟨.Name x px,iter,ifs,0⟩] scope pos) spos) (aE (fJ is wi tc te) (ay j)):=by
 intro pins s σ H D I h
 rw[exec_Assign_Name_used _ _ _ _ hsw]
 refine gV (Ol (gV ?_))
 show wpAny _ X.A (do let _<-comprehension (.ListComp elt [⟨.Name x px,iter,ifs,0⟩] scope pos) scope X.env _ (newList []) false (eval iter X.env) (some (assign (.Name y py) X.env))) _ _ s
 refine gV (Mx (RY (use:=some (assign (.Name y py) X.env)) (Q:=fun _ s'=>SP X pins D .next s') rfl hs (sr I.ok S hcap) S.kind S.names
  (thn (hi pins s σ H _ I h) fun v s1 h1=>thn h1 fun itv s2 h2=>?_)) (fun _ s' hq=>LY (LY hq)) fun _ _ e=>e)
 obtain⟨it,fp,tn,J,H2,rfl,I2,T,st2,f2,hW⟩:=h2
 refine oE (Q:=fun x H1=>ay j x σ H1 D.nx) (RR:=fun acc C=>compPost (model X.prog X.w) X.A X.xe (some (assign (.Name y py) X.env)) (fun _ s'=>SP X pins D .next s') acc C) hc S hcap hif he I2 T st2 f2 hW ?_
 intro Da C H' s' hlt hns hne hfr I' back q
 show wpAny _ X.A (assign (.Name y py) X.env (.ref Da)) _ _ _
 obtain⟨m,hm⟩:=hns
 refine QV (pb I' hN hj hy (v:=.ref Da) rfl (fun s2 I2' ⟨a,hsb,ha⟩=>?_) hf)
 have hCa:C≠a:=by
  rcases ha with e|e
  ·rw[e];exact hne
  ·rintro rfl
   obtain⟨v,o,ho,hd⟩:=I'.cell y C e
   obtain⟨o2,es,ep,ho2,hd2,_⟩:=hm
   rw[ho]at ho2;cases ho2;rw[hd]at hd2;cases hd2
 refine⟨m,hm.sameBut hsb hCa,fun h' hs'=>?_⟩
 have hCn:∀y c,X.env.cells.lookup y=some c->c≠C:=fun z c e q=>by
  subst q
  obtain⟨v,o,ho,hd⟩:=I'.cell z c e
  obtain⟨o2,es,ep,ho2,hd2,_⟩:=hm
  rw[ho]at ho2;cases ho2;rw[hd]at hd2;cases hd2
 have I3:Inv X pins (σ.set j (some (.ref Da))) H' {s2 with heap:=h'}:=by
  refine I2'.step (g':=s2.gens) (d':=s2.drawn) (t':=s2.toks) (ch:=[C]) (fun b hb=>?_) (fun b o _ _ hb e _=>(hs'.2 b (fun z=>hb (by simp[z]))).trans e) (fun b o _ _ hb e _=>⟨o.slots,(hs'.2 b (fun z=>hb (by simp[z]))).trans e⟩) (fun _ _ _ _ n=>n) (fun b o hb e=>⟨o,(hs'.2 b (fun z=>hb (by simp[z]))).trans e⟩)
   (fun _ _ e=>e) (fun _ _ _ e=>e) (fun b ps e=>⟨#[],by rw[e];simp⟩) (fun m' hm'=>hm'.sameBut hs' (Md hne)) (fun b o e=>?_) I2'.bare
  ·have e:b=C:=by simpa using hb
   subst e
   exact⟨.inr hlt.1,hne,fun z c e=>hCn z c e,hlt.2⟩
  ·refine(I2'.hok b o e).stay (fun c w' hc q=>(hs'.2 c ?_).trans q) (fun _ q=>q) fun _ _ q=>q
   rintro rfl
   rcases hc with rfl|hc
   ·rw[hfr]at e;cases e
   ·rw[hfr]at hc;cases hc
 exact⟨_,H',I3,q⟩
end
def tyN (H:Hp):V->Option String
 |.non=>some "NoneType"
 |.bl _=>some "bool"
 |.int _=>some "int"
 |.str _=>some "str"
 |.ref a=>match H a with
  |some (.lst _)=>some "list"
  |some (.frz _ (.lst _))=>some "list"
  |some (.tup _)=>some "tuple"
  |some (.dK _)=>some "dict"
  |some (.dT _)=>some "dict"
  |_=>none
 |_=>none
def DD {K:cW}{H:Hp}{x:V}{t:String}(h:tyN H x=some t):gk K H x (.type t):=by
 cases x with
 |non=>cases h;exact .non
 |bl b=>cases h;exact .bl b
 |int i=>cases h;exact .int i
 |str x=>cases h;exact .str x
 |byt _=>cases h
 |flt _=>cases h
 |ty _=>cases h
 |ref a=>
  unfold tyN at h
  dsimp only at h
  split at h
  ·rename_i e;cases h;exact .lst e
  ·rename_i e;cases h;exact .frz e
  ·rename_i e;cases h;exact .tup e
  ·rename_i e;cases h;exact .dK e
  ·rename_i e;cases h;exact .dT e
  ·cases h
def tyL:List String:=["NoneType","bool","int","str","list","tuple","dict"]
def ES {H:Hp}{x:V}{t:String}(h:tyN H x=some t):t∈tyL:=by
 cases x with
 |non=>cases h;decide
 |bl b=>cases h;decide
 |int i=>cases h;decide
 |str x=>cases h;decide
 |byt _=>cases h
 |flt _=>cases h
 |ty _=>cases h
 |ref a=>
  unfold tyN at h
  dsimp only at h
  split at h<;>first|(cases h;decide)|cases h
def isI (t T:String):Bool:=t==T||(T=="int"&&t=="bool")
def CJ (K:cW):∀t∈tyL,∀T∈["int","bool","str","tuple","list","dict"],Gt K (.type t) (.type T)=some (isI t T):=by
 intro t ht T hT
 simp only[tyL,LZ,Mp,or_false]at ht hT
 rcases ht with rfl|rfl|rfl|rfl|rfl|rfl|rfl<;>rcases hT with rfl|rfl|rfl|rfl|rfl|rfl<;>(unfold Gt;first|rfl|decide+kernel|(simp only[W.kitCls];rfl))
section
variable {X:Cx}
def yJ:bX X (.builtin "isinstance") (fun xs H Q=>∃x T t,xs=[x,.ty T]/\T∈["int","bool","str","tuple","list","dict"]/\tyN H x=some t/\Q (.bl (isI t T)) H):=by
 intro pins s σ H xs us Q I r h
 obtain⟨x,T,t,rfl,hT,ht,q⟩:=h
 obtain⟨u,w',rfl,r1,r2⟩:=mI r
 cases r2
 exact vF I r1 (DD ht) (CJ X.K t (ES ht) T hT) fun tk=>⟨.bl _,H,I.tok tk,rfl,q⟩
end
section
variable {X:Cx}
theorem sX:∀{bs:List Bool}{us:List tx},ba (bs.map V.bl) us->us=bs.map NP
 |[],_,.nil=>rfl
 |b::bs,_,.cons r t=>by
  have e:_=NP b:=r
  rw[sX t,My,e]
def wm (bs:List Bool):(Oz bs.length).all (fun i=>bs.getD i false)=bs.all id:=by
 rw[OF,Na,Na]
 constructor
 ·intro h b hb
  obtain⟨i,hi,e⟩:=RV.mp hb
  have:=h i (PM.mpr hi)
  simp only[Mi,LV hi,Sj]at this
  rw[<-e];exact this
 ·intro h i hi
  have hi:=PM.mp hi
  simp only[Mi,LV hi,Sj]
  exact h _ (Nj hi)
def rP {prog:Ms}{w:MG}{A:Mw}{bs:List Bool}:TruthOf prog w A (fun i v=>(bs.map NP).toArray[i]? =some v) (fun i=>bs.getD i false):=by
 intro i v s Q E hP hQ
 have hP:(bs.map NP)[i]? =some v:=by simpa using hP
 rw[ME]at hP
 cases e:bs[i]? with
 |none=>rw[e]at hP;cases hP
 |some b=>
  rw[e]at hP
  cases hP
  have hQ':Q b s:=by
   have e2:bs.getD i false=b:=by rw[Mi,e];rfl
   have hQ2:Q (bs.getD i false) s:=hQ
   rw[e2]at hQ2;exact hQ2
  exact wpAny_of_eq (a:=b) rfl hQ'
def yR (hc:X.calm=true):bX X (.builtin "all") (fun xs H Q=>∃(a:Addr)(bs:List Bool),xs=[.ref a]/\H a=some (.lst (bs.map V.bl))/\Q (.bl (bs.all id)) H):=by
 intro pins s σ H xs us Q I r h
 obtain⟨a,bs,rfl,hH,q⟩:=h
 obtain⟨u,rfl,ru⟩:=jR r
 cases ru
 obtain⟨z,its,n,rv,e⟩:=I.hok a _ hH
 have ei:=sX rv
 subst ei
 have hl:s.heap.IsList a (bs.map NP).toArray:=⟨_,e,rfl,_,rfl⟩
 refine call_all_walk (TR hl ?_)
 have hne:a≠s.heap.objs.size:=Ml (Ma e)
 refine⟨s.heap.objs.size,_,_,_,_,_,_,rfl,Walks.list (by show X.A.handled=none;exact I.ok.hd hc) _ a hne (bs.map NP).toArray,⟨⟨_,Mu _ rfl,rfl,rfl⟩,⟨_,Lt _ e,rfl,_,rfl⟩⟩,rP,fun h' tk hk=>?_⟩
 have e2:((bs.map NP).toArray).size=bs.length:=by simp
 rw[e2,wm]
 refine⟨.bl _,H,I.kept (t':=tk) fun b o hb=>hk b o ?_ (Lt _ hb),rfl,q⟩
 intro z
 have:b=s.heap.objs.size:=by simpa using z
 rw[this]at hb
 exact absurd (Ma hb) (Nd _)
theorem tE:∀{xs:List Str}{us:List tx},ba (xs.map V.str) us->StrsAre us xs
 |[],_,.nil=>.nil
 |x::xs,_,.cons r t=>by
  obtain⟨tk,e⟩:=(show ∃t,_=On x t from r)
  rw[e]
  exact .cons _ _ (tE t)
def uc:V->List V->Hp->VK->Prop:=fun x vs H Q=>∃(z:Str)(a:Addr)(xs:List Str),x=.str z/\vs=[.ref a]/\H a=some (.lst (xs.map V.str))/\(xs.map (·.length)).sum+xs.length*z.length<=16777216/\Q (.str (Txt.join z xs)) H
def sN:MtM X "str.join" uc:=by
 intro pins s σ H x vs v us Q I rx rv h
 obtain⟨z,a,xs,rfl,rfl,hH,hz,q⟩:=h
 obtain⟨t,rfl⟩:=(show ∃t,v=On z t from rx)
 obtain⟨u,rfl,ru⟩:=rv.one
 cases ru
 obtain⟨_,its,n,rv,e⟩:=I.hok a _ hH
 refine join_list (items:=its.toArray) ⟨_,e,rfl,_,rfl⟩ (by simpa using tE rv) hz fun t' k=>⟨.str _,H,I.tok k,⟨_,rfl⟩,q⟩
end
@[irreducible] def Sel (b:Bool)(A B:Prop):Prop:=if b=true then A else B
def Sel.mk {b:Bool}{A B:Prop}(h1:b=true->A)(h2:b=false->B):Sel b A B:=by
 unfold Sel
 cases b with
 |true=>exact h1 rfl
 |false=>exact h2 rfl
def Sel.t {A B:Prop}(h:A):Sel true A B:=.mk (fun _=>h) fun e=>by cases e
def Sel.f {A B:Prop}(h:B):Sel false A B:=.mk (fun e=>by cases e) fun _=>h
def Sel.dec {p A B:Prop}[Decidable p](h1:p->A)(h2:¬p->B):Sel (decide p) A B:=.mk (fun e=>h1 (of_decide_eq_true e)) fun e=>h2 (of_decide_eq_false e)
def Sel.ndec {p A B:Prop}[Decidable p](h1:¬p->A)(h2:p->B):Sel (!decide p) A B:=.mk (fun e=>h1 (by simpa using e)) fun e=>h2 (by simpa using e)
def Sel.yes {b:Bool}{A B:Prop}(e:b=true)(h:A):Sel b A B:=by rw[e];exact .t h
def Sel.no {b:Bool}{A B:Prop}(e:b=false)(h:B):Sel b A B:=by rw[e];exact .f h
def dI {b:Bool}{A B:Prop}(h:Sel b A B):if b=true then A else B:=by unfold Sel at h;exact h
def af (i:Nat):TE:=fun σ H Q=>match σ[i]? with|some (some v)=>Q v H|_=>False
section
variable {X:Cx}
def PE.imp {e:Expr}{t t':TE}(h:PE X e t)(i:∀σ H Q,t' σ H Q->t σ H Q):PE X e t':=fun pins s σ H Q I q=>h pins s σ H Q I (i _ _ _ q)
def OpR.imp {f:tx->tx->Sem tx}{r r':R2}(h:OpR X f r)(i:∀x y H Q,r' x y H Q->r x y H Q):OpR X f r':=fun pins s σ H x y v u Q I rx ry q=>h pins s σ H x y v u Q I rx ry (i _ _ _ _ q)
def qv (i:Nat){x:Str}{pos:Pos}(hN:X.N[i]?=some x:=by rfl)(hv:Vis X.env.scope x:=by first|exact Or.inl rfl|exact SO (Or.inl rfl)|exact SO (SO rfl))(hd:(x==("__debug__":Str))=false:=by decide)
  (hcd:(x==("__classdict__":Str))=false:=by decide):PE X (.Name x pos) (af i):=(BO hN hv hd hcd).imp fun σ H Q q=>by
 unfold af at q
 split at q
 ·rename_i v e;exact⟨v,e,q⟩
 ·exact q.elim
def qgi {x:Str}{i:Int}{pos:Pos}(hm:∃t,X.mg x=some (.int i t))(hg:Gl X x:=by rfl)(hd:(x==("__debug__":Str))=false:=by decide):PE X (.Name x pos) (tC (.int i)):=by
 obtain⟨t,e⟩:=hm
 exact sB hg e ⟨t,rfl⟩ hd
def eW:R2:=fun x y H Q=>match x,y with|.int i,.int j=>Q (.int (i- j)) H|_,_=>False
def ft:OpR X (binaryOp .Sub) eW:=Ex.imp fun x y H Q q=>by
 unfold eW at q
 split at q
 ·exact⟨_,_,rfl,rfl,q⟩
 ·exact q.elim
def AY:OpR X (binaryOp .Mult) (rI Tx fun i j=>.int (i*j)):=opI fun _ _ _ _ _ _ _ hc q=>mul_int q hc
def xS:R2:=fun x y H Q=>match x,y with
 |.int i,.int j=>Tx i j/\Q (.int (i*j)) H
 |_,_=>False
def Ky:OpR X (binaryOp .Mult) xS:=AY.imp fun x y H Q q=>by
 unfold xS at q
 split at q
 ·exact⟨_,_,rfl,rfl,q.1,q.2⟩
 ·exact q.elim
def bQ:R2:=fun x y H Q=>match x,y with|.int i,.int j=>0<j/\Q (.int (i%j)) H|_,_=>False
def cb:OpR X (binaryOp .Mod) bQ:=Fp.imp fun x y H Q q=>by
 unfold bQ at q
 split at q
 ·exact⟨_,_,rfl,rfl,q.1,q.2⟩
 ·exact q.elim
def kc:R2:=fun x y H Q=>match x,y with|.int i,.int j=>(0<=j/\j<=1000000/\i.natAbs<2^64)/\Q (.int (i^j.toNat)) H|_,_=>False
def nN:OpR X (binaryOp .Pow) kc:=DB.imp fun x y H Q q=>by
 unfold kc at q
 split at q
 ·exact⟨_,_,rfl,rfl,q.1,q.2⟩
 ·exact q.elim
def jY:R2:=fun x y H Q=>match x,y with|.int i,.int j=>(0<=j/\j<=1000000/\i.natAbs<2^64)/\Q (.int (i*2^j.toNat)) H|_,_=>False
def nF:OpR X (binaryOp .LShift) jY:=ER.imp fun x y H Q q=>by
 unfold jY at q
 split at q
 ·exact⟨_,_,rfl,rfl,q.1,q.2⟩
 ·exact q.elim
def mLt:R2:=fun x y H Q=>match x,y with|.int i,.int j=>Q (.bl (decide (i<j))) H|_,_=>False
def oLt:OpR X (compareOp .Lt) mLt:=Jo.imp fun x y H Q q=>by
 unfold mLt at q
 split at q
 ·exact⟨_,_,rfl,rfl,q⟩
 ·exact q.elim
def mLe:R2:=fun x y H Q=>match x,y with|.int i,.int j=>Q (.bl (decide (i<=j))) H|_,_=>False
def oLe:OpR X (compareOp .LtE) mLe:=IL.imp fun x y H Q q=>by
 unfold mLe at q
 split at q
 ·exact⟨_,_,rfl,rfl,q⟩
 ·exact q.elim
def mGt:R2:=fun x y H Q=>match x,y with|.int i,.int j=>Q (.bl (decide (j<i))) H|_,_=>False
def oGt:OpR X (compareOp .Gt) mGt:=Im.imp fun x y H Q q=>by
 unfold mGt at q
 split at q
 ·exact⟨_,_,rfl,rfl,q⟩
 ·exact q.elim
def mEq:R2:=fun x y H Q=>match x,y with
 |.int i,.int j=>Q (.bl (decide (i=j))) H
 |.str i,.str j=>Q (.bl (decide (i=j))) H
 |.bl i,.bl j=>Q (.bl (decide (i=j))) H
 |.non,.non=>Q (.bl true) H
 |.non,.int _=>Q (.bl false) H|.int _,.non=>Q (.bl false) H|.non,.bl _=>Q (.bl false) H|.bl _,.non=>Q (.bl false) H|.non,.str _=>Q (.bl false) H|.str _,.non=>Q (.bl false) H
 |.int _,.str _=>Q (.bl false) H|.str _,.int _=>Q (.bl false) H|.bl _,.str _=>Q (.bl false) H|.str _,.bl _=>Q (.bl false) H
 |_,_=>False
def kh {α:Type}[DecidableEq α]{f:α->V}(hf:∀a b,f a=f b->a=b)(a b:α):decide (f a=f b)=decide (a=b):=by
 by_cases h:a=b
 ·subst h;simp
 ·rw[decide_eq_false h,decide_eq_false fun e=>h (hf a b e)]
def oEq:OpR X (compareOp .Eq) mEq:=FM.imp fun x y H Q q=>by
 unfold mEq at q
 split at q
 ·exact⟨rfl,by rw[kh (f:=V.int) fun _ _ e=>V.int.inj e];exact q⟩
 ·exact⟨rfl,by rw[kh (f:=V.str) fun _ _ e=>V.str.inj e];exact q⟩
 ·exact⟨rfl,by rw[kh (f:=V.bl) fun _ _ e=>V.bl.inj e];exact q⟩
 ·exact⟨rfl,by simpa using q⟩
 all_goals first|exact q.elim|exact⟨rfl,q⟩
def mNe:R2:=fun x y H Q=>match x,y with
 |.int i,.int j=>Q (.bl (!decide (i=j))) H
 |.str i,.str j=>Q (.bl (!decide (i=j))) H
 |.bl i,.bl j=>Q (.bl (!decide (i=j))) H
 |.non,.non=>Q (.bl false) H
 |.non,.int _=>Q (.bl true) H|.int _,.non=>Q (.bl true) H|.non,.bl _=>Q (.bl true) H|.bl _,.non=>Q (.bl true) H|.non,.str _=>Q (.bl true) H|.str _,.non=>Q (.bl true) H
 |.int _,.str _=>Q (.bl true) H|.str _,.int _=>Q (.bl true) H|.bl _,.str _=>Q (.bl true) H|.str _,.bl _=>Q (.bl true) H
 |_,_=>False
def oNe:OpR X (compareOp .NotEq) mNe:=Il.imp fun x y H Q q=>by
 unfold mNe at q
 split at q
 ·exact⟨rfl,by rw[kh (f:=V.int) fun _ _ e=>V.int.inj e];exact q⟩
 ·exact⟨rfl,by rw[kh (f:=V.str) fun _ _ e=>V.str.inj e];exact q⟩
 ·exact⟨rfl,by rw[kh (f:=V.bl) fun _ _ e=>V.bl.inj e];exact q⟩
 ·exact⟨rfl,by simpa using q⟩
 all_goals first|exact q.elim|exact⟨rfl,q⟩
def yZ:R2:=fun x y H Q=>match y with|.non=>Q (.bl (match x with|.non=>true|_=>false)) H|_=>False
def oIs:OpR X (compareOp .Is) yZ:=BE.imp fun x y H Q q=>by
 unfold yZ at q
 split at q
 ·refine⟨rfl,?_⟩
  cases x<;>simpa using q
 ·exact q.elim
def bc (t:TE):TT:=fun σ H Q=>t σ H fun x H'=>match x with|.bl k=>Q k H'|_=>False
def qtc {op:SL}{r:R2}{a b:Expr}{ta tb:TE}{pos:Pos}(ho:OpR X (compareOp op) r)(ha:PE X a ta)(hb:PE X b tb)(hm:behindInMarks op b=false:=by first|exact mW _|rfl):PT X (.Compare a [op] [b] pos) (bc (tOp r ta tb)):=by
 intro pins s σ H Q I h
 refine wpAny_isTrue_Compare1 (thn (ha pins s σ H _ I h) fun v s1 ⟨x,H1,I1,r1,q1⟩=>thn (hb pins s1 σ H1 _ I1 q1) fun u s2 ⟨y,H2,I2,r2,q2⟩=>
  thn (ho pins s2 σ H2 x y v u _ I2 r1 r2 q2) fun c s3 ⟨z,H3,I3,r3,q3⟩=>?_) hm
 cases z<;>first|exact q3.elim|(cases r3;exact Nq ⟨H3,I3,q3⟩)
def qc {op:SL}{r:R2}{a b:Expr}{ta tb:TE}{pos:Pos}(ho:OpR X (compareOp op) r)(ha:PE X a ta)(hb:PE X b tb)(hm:behindInMarks op b=false:=by first|exact mW _|rfl):PE X (.Compare a [op] [b] pos) (tOp r ta tb):=Bl ho ha hb hm
def fi (r r':R2)(ta tb tc:TE):TE:=fun σ H Q=>ta σ H fun x H1=>tb σ H1 fun y H2=>r x y H2 fun z H3=>match z with
 |.bl k=>Sel k (tc σ H3 fun w' H4=>r' y w' H4 Q) (Q (.bl false) H3)
 |_=>False
def qch {op op':SL}{r r':R2}{a b c:Expr}{ta tb tc:TE}{pos:Pos}(ho:OpR X (compareOp op) r)(ho':OpR X (compareOp op') r')(ha:PE X a ta)(hb:PE X b tb)(hc:PE X c tc)
  (hm:lastMarks [op,op'] [b,c]=false:=by with_unfolding_all rfl):PE X (.Compare a [op,op'] [b,c] pos) (fi r r' ta tb tc):=by
 intro pins s σ H Q I h
 refine Compare_chain (thn (ha pins s σ H _ I h) fun v s1 ⟨x,H1,I1,r1,q1⟩=>chain_link (thn (hb pins s1 σ H1 _ I1 q1) fun u s2 ⟨y,H2,I2,r2,q2⟩=>
  thn (ho pins s2 σ H2 x y v u _ I2 r1 r2 q2) fun d s3 ⟨z,H3,I3,r3,q3⟩=>?_)) hm
 cases z<;>first|exact q3.elim|skip
 rename_i k
 cases r3
 refine Nq ?_
 have q3:=dI q3
 cases k with
 |false=>exact ite_ff ⟨.bl false,H3,I3,rfl,q3⟩
 |true=>exact ite_tt (chain_last (thn (hc pins s3 σ H3 _ I3 q3) fun w' s4 ⟨z',H4,I4,r4,q4⟩=>ho' pins s4 σ H4 y z' u w' Q I4 r2 r4 q4))
def LI {op op':SL}{r r':R2}{a b c:Expr}{ta tb tc:TE}{pos:Pos}(ho:OpR X (compareOp op) r)(ho':OpR X (compareOp op') r')(ha:PE X a ta)(hb:PE X b tb)(hc:PE X c tc)
  (hm:lastMarks [op,op'] [b,c]=false:=by with_unfolding_all rfl):PT X (.Compare a [op,op'] [b,c] pos) (bc (fi r r' ta tb tc)):=by
 intro pins s σ H Q I h
 refine isTrue_chain (thn (ha pins s σ H _ I h) fun v s1 ⟨x,H1,I1,r1,q1⟩=>test_link (thn (hb pins s1 σ H1 _ I1 q1) fun u s2 ⟨y,H2,I2,r2,q2⟩=>
  thn (ho pins s2 σ H2 x y v u _ I2 r1 r2 q2) fun d s3 ⟨z,H3,I3,r3,q3⟩=>?_)) hm
 cases z<;>first|exact q3.elim|skip
 rename_i k
 cases r3
 refine Nq ?_
 have q3:=dI q3
 cases k with
 |false=>exact ite_ff ⟨H3,I3,q3⟩
 |true=>
  refine ite_tt (test_last (thn (hc pins s3 σ H3 _ I3 q3) fun w' s4 ⟨z',H4,I4,r4,q4⟩=>thn (ho' pins s4 σ H4 y z' u w' _ I4 r2 r4 q4) fun d' s5 ⟨z2,H5,I5,r5,q5⟩=>?_))
  cases z2<;>first|exact q5.elim|(cases r5;exact Nq ⟨H5,I5,q5⟩)
def cG (K:cW)(t:TE):TT:=fun σ H Q=>t σ H fun x H'=>match x with
 |.bl k=>Q k H'
 |.non=>Q false H'
 |.int i=>Q (i !=0) H'
 |x=>∃k,Cz K x H' k/\Q k H'
def qtb {e:Expr}{t:TE}(h:PE X e t)(he:∀whole,isTrue e X.env whole=(do let v<-whole;standAt e.pos;holding [v] (truthy v)):=by intro _;rfl):PT X e (cG X.K t):=by
 intro pins s σ H Q I q
 refine isTrue_plain (thn (h pins s σ H _ I q) fun v s1 ⟨x,H1,I1,r1,q1⟩=>EE pins s1 σ H1 x v Q I1 r1 ?_) (he _)
 cases x<;>first|exact⟨_,rfl,q1⟩|exact q1
def lH (t u:TT):TT:=fun σ H Q=>t σ H fun c H1=>Sel c (u σ H1 Q) (Q false H1)
def mOr (t u:TT):TT:=fun σ H Q=>t σ H fun c H1=>Sel c (Q true H1) (u σ H1 Q)
variable {a b c:Expr}{ta tb:TE}{tA tB':TT}{cB:List Expr}{pos:Pos}
def AC (ha:PT X a tA):PW X (.BoolOp .And [a] pos) tA:=AR ha
def CA (ha:PT X a tA):PW X (.BoolOp .Or [a] pos) tA:=Ce ha
def BZ (ha:PT X a tA)(hb:PW X (.BoolOp .And (b::cB) pos) tB'):PW X (.BoolOp .And (a::b::cB) pos) (lH tA tB'):=by
 intro wh pins s σ H Q I h
 refine isTrue_and (thn (ha pins s σ H _ I h) fun c s1 ⟨H1,I1,q1⟩=>?_)
 have q1:=dI q1
 cases c with
 |true=>exact hb wh pins s1 σ H1 Q I1 q1
 |false=>exact⟨H1,I1,q1⟩
def GE (ha:PT X a tA)(hb:PW X (.BoolOp .Or (b::cB) pos) tB'):PW X (.BoolOp .Or (a::b::cB) pos) (mOr tA tB'):=by
 intro wh pins s σ H Q I h
 refine isTrue_or (thn (ha pins s σ H _ I h) fun c s1 ⟨H1,I1,q1⟩=>?_)
 have q1:=dI q1
 cases c with
 |true=>exact⟨H1,I1,q1⟩
 |false=>exact hb wh pins s1 σ H1 Q I1 q1
def er (ta tb:TE):TE:=fun σ H Q=>ta σ H fun x H1=>match x with|.bl c=>Sel c (tb σ H1 Q) (Q (.bl false) H1)|_=>False
def zk (ta tb:TE):TE:=fun σ H Q=>ta σ H fun x H1=>match x with|.bl c=>Sel c (Q (.bl true) H1) (tb σ H1 Q)|_=>False
def uV (ta:TE):TE:=fun σ H Q=>ta σ H fun x H1=>match x with|.bl c=>Q (.bl (!c)) H1|_=>False
def Kw (ha:PE X a ta)(hb:PE X (.BoolOp .And (b::cB) pos) tb):PE X (.BoolOp .And (a::b::cB) pos) (er ta tb):=by
 intro pins s σ H Q I h
 refine BoolOp_and (thn (ha pins s σ H _ I h) fun v s1 ⟨x,H1,I1,r1,q1⟩=>?_)
 cases x<;>first|exact q1.elim|skip
 rename_i c
 cases r1
 refine Nq ?_
 have q1:=dI q1
 cases c with
 |true=>exact hb pins s1 σ H1 Q I1 q1
 |false=>exact⟨.bl false,H1,I1,rfl,q1⟩
def qor (ha:PE X a ta)(hb:PE X (.BoolOp .Or (b::cB) pos) tb):PE X (.BoolOp .Or (a::b::cB) pos) (zk ta tb):=by
 intro pins s σ H Q I h
 refine BoolOp_or (thn (ha pins s σ H _ I h) fun v s1 ⟨x,H1,I1,r1,q1⟩=>?_)
 cases x<;>first|exact q1.elim|skip
 rename_i c
 cases r1
 refine Nq ?_
 have q1:=dI q1
 cases c with
 |false=>exact hb pins s1 σ H1 Q I1 q1
 |true=>exact⟨.bl true,H1,I1,rfl,q1⟩
def Iu (ha:PE X a ta):PE X (.UnaryOp .Not a pos) (uV ta):=by
 intro pins s σ H Q I h
 refine UnaryOp_ (thn (ha pins s σ H _ I h) fun v s1 ⟨x,H1,I1,r1,q1⟩=>?_)
 cases x<;>first|exact q1.elim|skip
 rename_i c
 cases r1
 exact not_of (Nq ⟨.bl (!c),H1,I1,rfl,q1⟩)
def mIf (t:TT)(ta tb:TE):TE:=fun σ H Q=>t σ H fun c H1=>Sel c (ta σ H1 Q) (tb σ H1 Q)
def KG {c:Expr}(hc:PT X c tA)(ha:PE X a ta)(hb:PE X b tb):PE X (.IfExp c a b pos) (mIf tA ta tb):=by
 intro pins s σ H Q I h
 refine wpAny_IfExp (thn (hc pins s σ H _ I h) fun d s1 ⟨H1,I1,q1⟩=>?_)
 have q1:=dI q1
 cases d with
 |true=>exact ha pins s1 σ H1 Q I1 q1
 |false=>exact hb pins s1 σ H1 Q I1 q1
def bw (c:TT)(t u:TS):TS:=fun D σ H=>c σ H fun b H1=>Sel b (t D σ H1) (u D σ H1)
def qif {c:Expr}{l m:List Stmt}{tc:TT}{t u:TS}(hc:PT X c tc)(ha:PSs X l t)(hb:PSs X m u):PS X (.If c l m pos) (bw tc t u):=by
 intro pins s σ H D I h
 refine wpAny_If (thn (hc pins s σ H _ I h) fun d s1 ⟨H1,I1,q1⟩=>?_)
 have q1:=dI q1
 cases d with
 |true=>exact ha pins s1 σ H1 D I1 q1
 |false=>exact hb pins s1 σ H1 D I1 q1
theorem Kn:bX X (.builtin "len") (fun xs H Q=>match xs with
  |[.str y]=>y.length<=sizeLine/\Q (.int y.length) H
  |[.ref p]=>(∃xs,SqL X.K H p xs/\Q (.int xs.length) H)\/(∃xs,SqT X.K H p xs/\Q (.int xs.length) H)\/∃kvs,H p=some (.dK kvs)/\Q (.int kvs.length) H
  |_=>False):=by
 intro pins s σ H xs us Q I r h
 split at h
 ·rename_i y
  exact lJ pins s σ H _ us Q I r ⟨_,_,rfl,⟨h.1,rfl⟩,h.2⟩
 ·rename_i p
  rcases h with⟨ys,h1,h2⟩|⟨ys,h1,h2⟩|⟨kvs,h1,h2⟩
  ·exact lJ pins s σ H _ us Q I r ⟨_,_,rfl,.inl ⟨ys,h1,rfl⟩,h2⟩
  ·exact lJ pins s σ H _ us Q I r ⟨_,_,rfl,.inr ⟨ys,h1,rfl⟩,h2⟩
  ·exact vX pins s σ H _ us Q I r ⟨p,kvs,rfl,h1,h2⟩
 ·exact h.elim
end
section
variable {X:Cx}{tg:Expr}
def gG:V->Hp->VK->Prop:=fun x H Q=>match x with|.int i=>Q (.int (-i)) H|_=>False
def Lp:UnR X (unaryOp .USub) gG:=fun pins s σ H x v Q I rx q=>Ck pins s σ H x v Q I rx (by
 unfold gG at q
 split at q
 ·exact⟨_,rfl,q⟩
 ·exact q.elim)
def Fg (K:cW):List V->Hp->VK->Prop:=fun xs H Q=>match xs with
 |[.str y]=>y.length<=sizeLine/\Q (.int y.length) H
 |[.ref p]=>(∃xs,SqL K H p xs/\Q (.int xs.length) H)\/(∃xs,SqT K H p xs/\Q (.int xs.length) H)\/∃kvs,H p=some (.dK kvs)/\Q (.int kvs.length) H
 |_=>False
def Ke:bX X (.builtin "len") (Fg X.K):=Kn
def gO:List V->Hp->VK->Prop:=fun xs H Q=>match xs with
 |[x,.ty T]=>T∈["int","bool","str","tuple","list","dict"]/\∃t,tyN H x=some t/\Q (.bl (isI t T)) H
 |_=>False
def iP:bX X (.builtin "isinstance") gO:=fun pins s σ H xs us Q I r h=>by
 unfold gO at h
 split at h
 ·obtain⟨h1,t,h2,h3⟩:=h
  exact yJ pins s σ H _ us Q I r ⟨_,_,t,rfl,h1,h2,h3⟩
 ·exact h.elim
def zi:List V->Hp->VK->Prop:=fun xs H Q=>∃(a:Addr)(bs:List Bool),xs=[.ref a]/\H a=some (.lst (bs.map V.bl))/\Q (.bl (bs.all id)) H
def DO (hc:X.calm=true):bX X (.builtin "all") zi:=yR hc
def Ag (K:cW):List V->Hp->VK->Prop:=fun xs H Q=>∃p ys,xs=[.ref p]/\(SqL K H p ys\/SqT K H p ys)/\∀l,H l=none->Q (.ref l) (upd H l (.lst ys))
def IF:bX X (.type "list") (Ag X.K):=rk
def xh (K:cW):List V->Hp->VK->Prop:=fun xs H Q=>∃p ys,xs=[.ref p]/\((SqL K H p ys/\∀l,H l=none->Q (.ref l) (upd H l (.tup ys)))\/(SqT K H p ys/\Q (.ref p) H))
def CZ:bX X (.type "tuple") (xh X.K):=pw
end
def wN:bootBuiltins "all"=some (.builtin "all"):=by decide+kernel
structure fI (J:It)(n:Nat)(it:Nat->V)(Pv:Hp->Prop):Prop where
 go:∀i H,i<n->Pv H->J.go i H
 yld:∀i H x H',i<n->Pv H->J.yld i H x H'->H'=H/\x=it i
 stop:∀H,Pv H->J.stop n H
def fI.tuple {K:cW}{a:Addr}{xs:List V}(d:V):fI (Itt K a) xs.length (fun i=>xs.getD i d) (fun H=>SqT K H a xs)where
 go:=fun i H hi h=>⟨xs,xs[i],h,by simp[hi]⟩
 yld:=fun i H x H' hi h y=>⟨y.1,by have:=y.2 xs h;rw[Mi,this];rfl⟩
 stop:=fun H h=>⟨xs,h,pv _⟩
def fI.range {lo:Int}{n:Nat}:fI (Itr lo n) n (fun i=>.int (lo+i)) (fun _=>True)where
 go:=fun i H hi _=>hi
 yld:=fun i H x H' hi _ y=>y
 stop:=fun H _=>pv _
def CWd (n:Nat)(Pv:Nat->List V->Hp->Prop):Nat->Nat->List V->Hp->Prop:=fun i m ys H=>i<=n/\m=n- i/\Pv i ys H
def CWd.next {n i:Nat}{Pv:Nat->List V->Hp->Prop}{ys:List V}{H:Hp}(hi:i<n)(h:Pv (i+1) ys H):∃m',m'<n- i/\CWd n Pv (i+1) m' ys H:=⟨n- (i+1),by omega,hi,rfl,h⟩
def gB {J:It}{n:Nat}{it:Nat->V}{Pk:Hp->Prop}{σ:St}{is:List Nat}{tc:TT}{te:TE}{Q:VK}{H1:Hp}{D:Addr}(T:fI J n it Pk)(Pv:Nat->List V->Hp->Prop)
  (hk:∀i ys H,i<=n->Pv i ys H->Pk H)(h0:Pv 0 [] (upd H1 D (.lst [])))
  (hs:∀i ys H2,i<n->Pv i ys H2->tc (some (it i)::bS σ is) H2 fun b H4=>if b=true then
   te (some (it i)::bS σ is) H4 fun y H5=>H5 D=some (.lst ys)/\ys.length<sizeLine/\∃m',m'<n- i/\CWd n Pv (i+1) m' (ys++[y]) (upd H5 D (.lst (ys++[y])))
   else ∃m',m'<n- i/\CWd n Pv (i+1) m' ys H4)
  (hd:∀ys H,Pv n ys H->Q (.ref D) H):vq is tc te σ D J H1 Q:=by
 refine⟨CWd n Pv,⟨n,MS _,rfl,h0⟩,?_⟩
 rintro i m ys H2 ⟨hi,rfl,p⟩
 by_cases hlt:i<n
 ·refine .inr ⟨T.go i H2 hlt (hk i ys H2 hi p),fun x H3 y=>?_⟩
  obtain⟨rfl,rfl⟩:=T.yld i H2 x H3 hlt (hk i ys H2 hi p) y
  exact hs i ys _ hlt p
 ·have e:i=n:=by omega
  subst e
  exact .inl ⟨T.stop H2 (hk _ ys H2 hi p),hd ys H2 p⟩
def ar.upd {H:Hp}{p:Addr}{o:HO}(h:H p=none):ar H (upd H p o):=fun b u e=>by rw[ao (av e h)];exact e
def qN {xs:List V}{i:Int}(h0:0<=i)(h1:i<xs.length):atI xs i=some (xs.getD i.toNat .non):=by
 unfold atI ixN
 rw[if_pos h0,if_pos h1]
 show xs[i.toNat]?=_
 rw[Mi]
 have:i.toNat<xs.length:=by omega
 rw[LV this];rfl
def cf:Expr->Bool
 |.Starred _ _=>false
 |_=>true
def be {e:Expr}(h:cf e=true)(cB:List Expr)(env:Env):starEach (e::cB) env=(false,eval e env)::starEach cB env:=by
 cases e<;>first|rfl|cases h
def bv:List Expr->Bool
 |[]=>true
 |e::r=>cf e&&bv r
theorem ck:∀{es:List Expr}{env:Env}{pos:Pos},bv es=true->(backTo pos (starEach es env)).any (·.1)=false
 |[],_,_,_=>rfl
 |e::r,env,pos,h=>by
  have h:(cf e&&bv r)=true:=h
  rw[MF]at h
  rw[be h.1]
  show(false||(backTo pos (starEach r env)).any (·.1))=false
  rw[ck h.2];rfl
section
variable {X:Cx}{e:Expr}{es:List Expr}{te:TE}{t:TA}{pos:Pos}
def AW (ha:PE X e te)(hr:PA X es t)(hs:cf e=true:=by rfl):PA X (e::es) (ae te t):=AZ ha hr (be hs es X.env)
variable {x:Str}{p apos cpos:Pos}{id T:String}{r:List V->Hp->VK->Prop}
def Bh (hc:bX X (.builtin id) r)(hg:Gl X x)(hm:X.mg x=none)(hv:bootBuiltins x=some (.builtin id))(ha:PA X (e::es) t)(hn:x≠"__name__":=by decide)(hdb:(x==("__debug__":Str))=false:=by decide)
  (hs:bv (e::es)=true:=by rfl):PE X (.Call (.Name x p) (e::es) [] pos) (tCB r t):=
 have h:(cf e&&bv es)=true:=hs
 xw hc hg hm hv ha hn hdb (be (LX.mp h).1 es X.env) (ck (LX.mp h).2)
def xL (hc:bX X (.type T) r)(hg:Gl X x)(hm:X.mg x=none)(hv:bootBuiltins x=some (.type T))(ha:PA X (e::es) t)(hn:x≠"__name__":=by decide)(hdb:(x==("__debug__":Str))=false:=by decide)
  (hs:bv (e::es)=true:=by rfl):PE X (.Call (.Name x p) (e::es) [] pos) (tCB r t):=
 have h:(cf e&&bv es)=true:=hs
 wX hc hg hm hv ha hn hdb (be (LX.mp h).1 es X.env) (ck (LX.mp h).2)
variable {CX:CXT}{k:Nat}{f C:Addr}{fd:Mc}{ps:List Str}{sp:Sp}{dvs:List V}{ds:List tx}{E:XK}{m:Str}{o:Expr}{ta:TE}
theorem lw:∀{es:List Expr}{env:Env}{pos:Pos},bv es=true->(backTo pos (starEach es env)).all (fun x=> !x.1)=true
 |[],_,_,_=>rfl
 |e::r,env,pos,h=>by
  have h:(cf e&&bv r)=true:=h
  rw[MF]at h
  rw[be h.1]
  show(true&&(backTo pos (starEach r env)).all (fun x=> !x.1))=true
  rw[lw h.2];rfl
variable {to:TE}{name:Str}{rm:V->List V->Hp->VK->Prop}
def Ls (pa:QZ T)(slot:Slot T name id)(hty:typeOf (.builtin id)=pure (.type "method_descriptor"))(hm:MtR X id rm)(ho:PE X o to)(ha:PA X (e::es) t)
  (hbase:attributeBase o name X.env (eval o X.env)=eval o X.env:=by rfl)(hfew:decide ((e::es).length<30)=true:=by rfl)
  (hline:(apos.endLine==cpos.line)=true:=by rfl)(hs:bv (e::es)=true:=by rfl):PE X (.Call (.Attribute o name apos) (e::es) [] cpos) (tBM X.K T rm to t):=
 have h:(cf e&&bv es)=true:=hs
 HF pa slot hty hm ho ha hbase (by rw[lw hs];exact hfew) hline (be (LX.mp h).1 es X.env) (ck (LX.mp h).2)
end
structure QE (X:Cx)(e:Expr)(t:TE):Prop where
 out:PE X e t
structure QT (X:Cx)(e:Expr)(t:TT):Prop where
 out:PT X e t
structure QW (X:Cx)(e:Expr)(t:TT):Prop where
 out:PW X e t
structure QA (X:Cx)(e:List Expr)(t:TA):Prop where
 out:PA X e t
structure QS (X:Cx)(e:Stmt)(t:TS):Prop where
 out:PS X e t
structure QSs (X:Cx)(e:List Stmt)(t:TS):Prop where
 out:PSs X e t
structure QI (X:Cx)(tg iter:Expr)(t:TI):Prop where
 out:PI X tg iter t
structure QO (X:Cx)(e:Option Expr)(t:TO):Prop where
 out:PO X e t
structure zB (X:Cx)(e:List Expr)(t:TT):Prop where
 out:uR X e t
section
variable {X:Cx}{a b c e o:Expr}{es cB:List Expr}{ta tb tc te to tv:TE}{tA tB':TT}{t:TA}{pos apos cpos p:Pos}{x y:Str}
def ac (i:Nat)(hN:X.N[i]?=some x:=by rfl)(hv:Vis X.env.scope x:=by first|exact Or.inl rfl|exact SO (Or.inl rfl)|exact SO (SO rfl))(hd:(x==("__debug__":Str))=false:=by decide)
 (hcd:(x==("__classdict__":Str))=false:=by decide):QE X (.Name x pos) (af i):=⟨qv i hN hv hd hcd⟩
def Em {i:Int}(hm:∃t,X.mg x=some (.int i t))(hg:Gl X x:=by rfl)(hd:(x==("__debug__":Str))=false:=by decide):QE X (.Name x pos) (tC (.int i)):=⟨qgi hm hg hd⟩
def ii {T:String}(hm:X.mg x=none)(hv:bootBuiltins x=some (.type T))(hg:Gl X x:=by rfl)(hn:x≠"__name__":=by decide)(hd:(x==("__debug__":Str))=false:=by decide):QE X (.Name x pos) (tC (.ty T)):=⟨Bc hg hm hv rfl hn hd⟩
def aj {i:Int}{j}:QE X (.Constant (.int i) j pos) (tC (.int i)):=⟨CH⟩
def dU {b:Bool}{j}:QE X (.Constant (.bool b) j pos) (tC (.bl b)):=⟨IK⟩
def fE {j}:QE X (.Constant .none j pos) (tC .non):=⟨Ef⟩
def bC {z:Str}{j}:QE X (.Constant (.str z) j pos) (tC (.str z)):=⟨Do⟩
def gH (ha:QE X a ta):QE X (.UnaryOp .USub a pos) (tUn gG ta):=⟨HP Lp ha.out⟩
def HE (ha:QE X a ta):QE X (.UnaryOp .Not a pos) (uV ta):=⟨Iu ha.out⟩
def aB {op:Operator}{r:R2}(ho:OpR X (binaryOp op) r)(ha:QE X a ta)(hb:QE X b tb):QE X (.BinOp a op b pos) (tOp r ta tb):=⟨HN ho ha.out hb.out⟩
def eN {op:SL}{r:R2}(ho:OpR X (compareOp op) r)(ha:QE X a ta)(hb:QE X b tb)(hm:behindInMarks op b=false:=by first|exact mW _|rfl):QE X (.Compare a [op] [b] pos) (tOp r ta tb):=⟨qc ho ha.out hb.out hm⟩
def kU {op op':SL}{r r':R2}(ho:OpR X (compareOp op) r)(ho':OpR X (compareOp op') r')(ha:QE X a ta)(hb:QE X b tb)(hc:QE X c tc)(hm:lastMarks [op,op'] [b,c]=false:=by with_unfolding_all rfl):
 QE X (.Compare a [op,op'] [b,c] pos) (fi r r' ta tb tc):=⟨qch ho ho' ha.out hb.out hc.out hm⟩
def fX {op}(h:QE X a ta):QE X (.BoolOp op [a] pos) ta:=⟨BH h.out⟩
def fb (ha:QE X a ta)(hb:QE X (.BoolOp .And (b::cB) pos) tb):QE X (.BoolOp .And (a::b::cB) pos) (er ta tb):=⟨Kw ha.out hb.out⟩
def LM (ha:QE X a ta)(hb:QE X (.BoolOp .Or (b::cB) pos) tb):QE X (.BoolOp .Or (a::b::cB) pos) (zk ta tb):=⟨qor ha.out hb.out⟩
def xq (hc:QT X c tA)(ha:QE X a ta)(hb:QE X b tb):QE X (.IfExp c a b pos) (mIf tA ta tb):=⟨KG hc.out ha.out hb.out⟩
def ai:QA X [] ak:=⟨FD⟩
def aa (ha:QE X e te)(hr:QA X es t)(hs:cf e=true:=by rfl):QA X (e::es) (ae te t):=⟨AW ha.out hr.out hs⟩
def cS (h:QA X es t):QE X (.List es pos) (dE t):=⟨Fu h.out⟩
def aQ {x1}(h:QA X es t):QE X (.Tuple es x1 pos) (bh t):=⟨Dd h.out⟩
def aN {r:R2}(hr:IxR X r)(ha:QE X a ta)(hb:QE X b tb)(hs:sL b):QE X (.Subscript a b pos) (tOp r ta tb):=⟨HL hr ha.out hb.out hs⟩
def gn:QO X none fj:=⟨AS⟩
def gs (h:QE X e te):QO X (some e) (gU te):=⟨Bt h.out⟩
def gD {r:V->Option Int->Option Int->Hp->VK->Prop}{lo hi:Option Expr}{tl th:TO}{p2:Pos}(hr:SlR X r)(he:QE X e te)(hl:QO X lo tl)(hu:QO X hi th):QE X (.Subscript e (.Slice lo hi none p2) pos) (tSl r te tl th):=⟨ya hr he.out hl.out hu.out⟩
variable {id T:String}{r:List V->Hp->VK->Prop}
def aY (hc:bX X (.builtin id) r)(hm:X.mg x=none)(hv:bootBuiltins x=some (.builtin id))(ha:QA X (e::es) t)(hg:Gl X x:=by rfl)(hn:x≠"__name__":=by decide)(hdb:(x==("__debug__":Str))=false:=by decide)
 (hs:bv (e::es)=true:=by rfl):QE X (.Call (.Name x p) (e::es) [] pos) (tCB r t):=⟨Bh hc hg hm hv ha.out hn hdb hs⟩
def rn (hc:bX X (.type T) r)(hm:X.mg x=none)(hv:bootBuiltins x=some (.type T))(ha:QA X (e::es) t)(hg:Gl X x:=by rfl)(hn:x≠"__name__":=by decide)(hdb:(x==("__debug__":Str))=false:=by decide)
 (hs:bv (e::es)=true:=by rfl):QE X (.Call (.Name x p) (e::es) [] pos) (tCB r t):=⟨xL hc hg hm hv ha.out hn hdb hs⟩
variable {CX:CXT}{k:Nat}{f C:Addr}{fd:Mc}{ps:List Str}{sp:Sp}{dvs:List V}{ds:List tx}{E:XK}{m:Str}
variable {name:Str}{rm:V->List V->Hp->VK->Prop}
def iq (pa:QZ T)(slot:Slot T name id)(hty:typeOf (.builtin id)=pure (.type "method_descriptor"))(hm:MtR X id rm)(ho:QE X o to)(ha:QA X (e::es) t)
 (hbase:attributeBase o name X.env (eval o X.env)=eval o X.env:=by rfl)(hfew:decide ((e::es).length<30)=true:=by rfl)
 (hline:(apos.endLine==cpos.line)=true:=by rfl)(hs:bv (e::es)=true:=by rfl):QE X (.Call (.Attribute o name apos) (e::es) [] cpos) (tBM X.K T rm to t):=⟨Ls pa slot hty hm ho.out ha.out hbase hfew hline hs⟩
def aW {op:SL}{r:R2}(ho:OpR X (compareOp op) r)(ha:QE X a ta)(hb:QE X b tb)(hm:behindInMarks op b=false:=by first|exact mW _|rfl):QT X (.Compare a [op] [b] pos) (bc (tOp r ta tb)):=⟨qtc ho ha.out hb.out hm⟩
def lR {op op':SL}{r r':R2}(ho:OpR X (compareOp op) r)(ho':OpR X (compareOp op') r')(ha:QE X a ta)(hb:QE X b tb)(hc:QE X c tc)(hm:lastMarks [op,op'] [b,c]=false:=by with_unfolding_all rfl):
 QT X (.Compare a [op,op'] [b,c] pos) (bc (fi r r' ta tb tc)):=⟨LI ho ho' ha.out hb.out hc.out hm⟩
def bJ (h:QE X e te)(he:∀whole,isTrue e X.env whole=(do let v<-whole;standAt e.pos;holding [v] (truthy v)):=by intro _;rfl):QT X e (cG X.K te):=⟨qtb h.out he⟩
def cX (ha:QT X a tA):QT X (.UnaryOp .Not a pos) (eX tA):=⟨CY ha.out⟩
def x_w (h:QW X e tA):QT X e tA:=⟨h.out.pt⟩
def lc (ha:QT X a tA):QW X (.BoolOp .And [a] pos) tA:=⟨AC ha.out⟩
def mj (ha:QT X a tA):QW X (.BoolOp .Or [a] pos) tA:=⟨CA ha.out⟩
def kC (ha:QT X a tA)(hb:QW X (.BoolOp .And (b::cB) pos) tB'):QW X (.BoolOp .And (a::b::cB) pos) (lH tA tB'):=⟨BZ ha.out hb.out⟩
def pL (ha:QT X a tA)(hb:QW X (.BoolOp .Or (b::cB) pos) tB'):QW X (.BoolOp .Or (a::b::cB) pos) (mOr tA tB'):=⟨GE ha.out hb.out⟩
variable {tg iter elt:Expr}{wi:TI}{ifs:List Expr}{scope:Scope}{ys:List Str}{is:List Nat}{px py spos:Pos}
def im (hm:X.mg "range"=none)(ha:QA X [a] t)(hg:Gl X "range":=by rfl)(hs:cf a=true:=by rfl):QI X tg (.Call (.Name "range" p) [a] [] pos) (jF t):=⟨wJ hg hm ha.out (be hs [] X.env)⟩
def yX (hm:X.mg "range"=none)(ha:QA X [a,b] t)(hg:Gl X "range":=by rfl)(hs:cf a=true:=by rfl)(hs2:cf b=true:=by rfl):QI X tg (.Call (.Name "range" p) [a,b] [] pos) (uj t):=
 ⟨xc hg hm ha.out (by rw[be hs,be hs2];rfl) (be hs2 [] X.env)⟩
def gK:zB X [] (fun _ H Q=>Q true H):=⟨rfl⟩
def iZ {tcn:TT}(S:fO scope x ys)(hcap:gS X scope ys is)(hi:QI X (.Name x px) iter wi)
 (hif:∀C s H fp,zB (bG X scope C (x::ys) s H fp) ifs tcn)(he:∀C s H fp,QE (bG X scope C (x::ys) s H fp) elt te)(hc:X.calm=true:=by rfl)
 (hs:∀x,foldedSetIterable iter X.env x=pure x:=by intro _;rfl):QE X (.ListComp elt [⟨.Name x px,iter,ifs,0⟩] scope pos) (fJ is wi tcn te):=⟨Bg hc S hcap hi.out (fun C s H fp=>(hif C s H fp).out) (fun C s H fp=>(he C s H fp).out) hs⟩
variable {st:Stmt}{sts:List Stmt}{tS uS:TS}{i j:Nat}
def aU:QSs X [] bi:=⟨AH⟩
def aw (h:QS X st tS):QSs X [st] tS:=⟨Bj h.out⟩
def au (h1:QS X st tS)(h2:QSs X sts uS):QSs X (st::sts) (aC tS uS):=⟨yn h1.out h2.out⟩
def aM (h:QE X e te):QS X (.Return (some e) pos) (aO te):=⟨En h.out⟩
def bf {l m:List Stmt}(hc:QT X c tA)(ha:QSs X l tS)(hb:QSs X m uS):QS X (.If c l m pos) (bw tA tS uS):=⟨qif hc.out ha.out hb.out⟩
def aH (i:Nat)(hN:X.N.Nodup)(he:QE X e te)(hi:X.N[i]?=some x:=by rfl)(hx:Loc X.env.scope x:=by first|exact .inl rfl|exact .inr rfl)
 (hs:swapsWith e (some (.Name x p)) pos.line X.env=pure false:=by rfl)(hf:X.fn x=true\/X.env.scope.names.lookup x=some .local:=by first|exact .inl rfl|exact .inr rfl):QS X (.Assign [.Name x p] e pos) (aE te (ay i)):=⟨EY hN hi hx he.out hs hf⟩
def oB (j:Nat){tcn:TT}(hN:X.N.Nodup)(S:fO scope x ys)(hcap:gS X scope ys is)(hi:QI X (.Name x px) iter wi)
  (hif:∀C s H fp,zB (bG X scope C (x::ys) s H fp) ifs tcn)(he:∀C s H fp,QE (bG X scope C (x::ys) s H fp) elt te)(hc:X.calm=true:=by rfl)
  (hj:X.N[j]?=some y:=by rfl)(hy:Loc X.env.scope y:=by first|exact .inl rfl|exact .inr rfl)
  (hsw:swapsWith (.ListComp elt [⟨.Name x px,iter,ifs,0⟩] scope pos) (some (.Name y py)) spos.line X.env=pure true:=by rfl)(hf:X.fn y=true\/X.env.scope.names.lookup y=some .local:=by first|exact .inl rfl|exact .inr rfl)
  (hs:∀x,foldedSetIterable iter X.env x=pure x:=by intro _;rfl):QS X (.Assign [.Name y py] (.ListComp elt [⟨.Name x px,iter,ifs,0⟩] scope pos) spos) (aE (fJ is wi tcn te) (ay j)):=
 ⟨uL hN hj hy hc S hcap hi.out (fun C s H fp=>(hif C s H fp).out) (fun C s H fp=>(he C s H fp).out) hsw hf hs⟩
def dQ (h:QE X e te)(hs:swapsWith e none pos.line X.env=pure false:=by rfl):QS X (.Expr e pos) (dZ te):=⟨AT h.out hs⟩
def pY (i:Nat)(hN:X.N.Nodup){body:List Stmt}(hi:QI X (.Name x px) iter wi)(hb:QSs X body tS)(hp:SJ (model X.prog X.w) X.A X.env X.xe)(hc:X.calm=true:=by rfl)
 (hj:X.N[i]?=some x:=by rfl)(hx:Loc X.env.scope x:=by first|exact .inl rfl|exact .inr rfl)(hf:X.fn x=true\/X.env.scope.names.lookup x=some .local:=by first|exact .inl rfl|exact .inr rfl)
 (hs:∀x,foldedSetIterable iter X.env x=pure x:=by intro _;rfl):QS X (.For (.Name x px) iter body [] pos) (nP wi (ay i) tS):=⟨DK hp hc hi.out (dF hN hj hx hf) hb.out hs⟩
def sQ {body:List Stmt}(hc:QT X c tA)(hb:QSs X body tS)(hp:SJ (model X.prog X.w) X.A X.env X.xe):QS X (.While c body [] pos) (mh tA tS):=⟨xr hp hc.out hb.out⟩
def tJ:QS X st mB:=⟨xl⟩
end
end L2
namespace HT
open PySem PyProof.Rows
structure Hd0 (vs:Array tx)(a0:tx):Prop where
 a:vs[0]?=some a0
 b:vs[2]?=some .none
structure TrD (h base:Heap)(e:Addr)(cls a0:tx)(d:Option Addr)(fl:tx):Prop where
 ex:∃oe vs T oT ts,h.get? e=some oe/\oe.cls=cls/\oe.dict=d/\oe.data=.fields vs/\Hd0 vs a0/\vs[1]?=some (.ref T)/\base.get? T=none/\T≠e/\h.get? T=some oT/\oT.data=.fields ts/\ts[3]?=some fl
structure lB (base:Heap)(l:List Env)(e:Addr)(cls a0:tx)(d:Option Addr)(fl:tx)(h h':Heap):Prop where
 st:base.StaysIn h'
 fr:h'.FunFrames base l
 tr:TrD h' base e cls a0 d fl
 up:h.UpToSlots h'
def oi (o:Obj)(f:Array tx->Array tx):(Pd f o).dict=o.dict:=by
 obtain⟨c,d,dt,sl⟩:=o
 cases dt<;>rfl
section
variable {M:SK}{A:Mw}{E:tx->If->Prop}{s:If}{base:Heap}{env:Env}{outer:List Env}{L e:Addr}{cls a0:tx}{d:Option Addr}{Q:Unit->If->Prop}
def wg {oe:Obj}{vs:Array tx}{head:tx}{hadNext:Bool}(hfr:A.frames=some (env::outer))(hl:s.heap.FunFrames base (env::outer))(hf:env.frame=some L)(he:s.heap.get? e=some oe)(hc:oe.cls=cls)(hdc:oe.dict=d)
  (hkb:base.StaysIn s.heap)(hen:base.get? e=none)(hd:oe.data=.fields vs)(hsz:1<vs.size)(h0:Hd0 vs a0)(h:∀h',lB base (env::outer) e cls a0 d (rawInt L) s.heap h'->Q () {s with heap:=h'}):
  wpAny M A (do let a<-frameOf env;let pl<-entryPlaceOf L hadNext;let b<-Rh head a .none (rawInt L) .none pl;setField (.ref e) 1 b) Q E s:=by
 have nfr:e∉(env::outer).filterMap (·.frame):=fun hm=>by
  obtain⟨_,o,ho,hnf⟩:=hl.mem hm
  rw[he]at ho
  cases ho
  exact hnf vs hd
 refine gV (wpAny_frameOf_fun hfr hl hf fun h1 s1=>gV (wpAny_entryPlaceOf fun pl hpl=>?_))
 unfold Rh newFields
 refine gV (NV ?_ (hpl.sizeOk5 _ _ _ _ _))
 generalize hts:([head,Mn L,.none,rawInt L,.none]++(if pl.isEmpty then Ri 6 Oj else pl)).toArray=ts
 have hts3:ts[3]?=some (rawInt L):=by rw[<-hts];first|(simp;done)|(rcases hpl with rfl|⟨_,_,_,_,_,_,_,rfl⟩<;>simp)
 have e1:h1.get? e=some oe:=(s1.2.1 e nfr).trans he
 have kb1:base.StaysIn h1:=fun b o hbo=>(s1.2.1 b fun hm=>by rw[(hl.mem hm).1]at hbo;cases hbo).trans (hkb b o hbo)
 have e2:(h1.push {cls:=.type "traceback",dict:=none,data:=.fields ts}).get? e=some oe:=Lt _ e1
 have nT:h1.objs.size≠e:=RT (Ma e1)
 refine wpAny_setField e2 hd hsz (h _ ?_)
 have d3:=Qn hd (·.setIfInBounds 1 (Mn h1.objs.size))
 have e3:=Nt (Pd (·.setIfInBounds 1 (Mn h1.objs.size))) e2 (RO d3)
 have kp:∀b o,b≠e->h1.get? b=some o->((h1.push {cls:=.type "traceback",dict:=none,data:=.fields ts}).update e (Pd (·.setIfInBounds 1 (Mn h1.objs.size)))).get? b=some o:=fun b o nb eb=>
  (Np _ _ (Md nb)).trans (Lt _ eb)
 have T3:=(Np (h1.push {cls:=.type "traceback",dict:=none,data:=.fields ts}) (Pd (·.setIfInBounds 1 (Mn h1.objs.size))) (Md nT)).trans (Mu h1 rfl)
 have nr:∀b o,s.heap.get? b=some o->(∀vs,o.data≠.fields vs)->b≠e:=fun b o hb hnf q=>by
  rw[q,he]at hb
  cases hb
  exact hnf vs hd
 refine⟨fun b o hbo=>kp b o (fun q=>by rw[q,hen]at hbo;cases hbo) (kb1 b o hbo),hl.of_keeps fun b o hb hnf=>?_,⟨_,_,h1.objs.size,_,ts,e3,(Obj.cls_mapFields ..).trans hc,(oi ..).trans hdc,d3,?_,by simp[hsz],kb1.fresh,nT,T3,rfl,hts3⟩,fun b o hb hnf=>?_⟩
 ·obtain⟨sl,hs⟩:=s1.2.2 b o hb
  exact⟨_,kp b _ (nr b o hb hnf) hs,rfl⟩
 ·exact⟨by rw[Qp (by decide)];exact h0.a,by rw[Qp (by decide)];exact h0.b⟩
 ·obtain⟨sl,hs⟩:=s1.2.2 b o hb
  exact⟨sl,kp b _ (nr b o hb hnf) hs⟩
def rV {oe:Obj}{vs:Array tx}(hfr:A.frames=some (env::outer))(hl:s.heap.FunFrames base (env::outer))(hf:env.frame=some L)(he:s.heap.get? e=some oe)(hc:oe.cls=cls)(hdc:oe.dict=d)(hkb:base.StaysIn s.heap)(hen:base.get? e=none)
  (hd:oe.data=.fields vs)(h1:vs[1]?=some .none)(h0:Hd0 vs a0)(h:∀h',lB base (env::outer) e cls a0 d (rawInt L) s.heap h'->Q () {s with heap:=h'}):wpAny M A (noteFrame (.ref e) env) Q E s:=by
 unfold noteFrame
 simp only[hf]
 refine gV (OQ he hd h1 ?_)
 rw[if_neg (by decide)]
 exact wg hfr hl hf he hc hdc hkb hen hd (OI.mp h1).1 h0 h
def Fh {fl fl':tx}{T:Addr}{oT:Obj}{ts:Array tx}{l:List Env}{oe:Obj}{vs:Array tx}(hkb:base.StaysIn s.heap)(hl:s.heap.FunFrames base l)(he:s.heap.get? e=some oe)(hc:oe.cls=cls)(hdc:oe.dict=d)(hd:oe.data=.fields vs)(h0:Hd0 vs a0)
  (h1:vs[1]?=some (.ref T))(nT:base.get? T=none)(Te:T≠e)(hT:s.heap.get? T=some oT)(hdT:oT.data=.fields ts)(h3:ts[3]?=some fl)(h:∀h',lB base l e cls a0 d fl' s.heap h'->(h'.get? e=some oe)->Q () {s with heap:=h'}):wpAny M A (setField (.ref T) 3 fl') Q E s:=by
 have sz:=(OI.mp h3).1
 have ot:∀b,b≠T->(s.heap.update T (Pd (·.setIfInBounds 3 fl'))).get? b=s.heap.get? b:=fun b hb=>Np _ _ (Md hb)
 have nr:∀b o,s.heap.get? b=some o->(∀vs,o.data≠.fields vs)->b≠T:=fun b o hb hnf q=>by
  rw[q,hT]at hb
  cases hb
  exact hnf ts hdT
 refine wpAny_setField hT hdT sz (h _ ⟨fun b o hbo=>(ot b fun q=>by rw[q,nT]at hbo;cases hbo).trans (hkb b o hbo),hl.of_keeps fun b o hb hnf=>⟨o,(ot b (nr b o hb hnf)).trans hb,rfl⟩,
  ⟨oe,vs,T,_,_,(ot e (Md Te)).trans he,hc,hdc,hd,h0,h1,nT,Te,Nt _ hT (RO (Qn hdT _)),Qn hdT _,by simp[sz]⟩,fun b o hb hnf=>⟨o.slots,(ot b (nr b o hb hnf)).trans hb⟩⟩ ((ot e (Md Te)).trans he))
def lr {fl:tx}{l:List Env}(hkb:base.StaysIn s.heap)(hl:s.heap.FunFrames base l)(ht:TrD s.heap base e cls a0 d fl)(h:∀h',lB base l e cls a0 d .none s.heap h'->Q () {s with heap:=h'}):wpAny M A (setFlight (.ref e) none) Q E s:=by
 obtain⟨oe,vs,T,oT,ts,he,hc,hdc,hd,h0,h1,nT,Te,hT,hdT,h3⟩:=ht.ex
 unfold setFlight
 refine gV (OQ he hd h1 ?_)
 rw[if_pos (show(Mn T !=Oj)=true from by simp)]
 exact Fh hkb hl he hc hdc hd h0 h1 nT Te hT hdT h3 fun h' n _=>h h' n
def ms (hfr:A.frames=some (env::outer))(hl:s.heap.FunFrames base (env::outer))(hf:env.frame=some L)(ht:TrD s.heap base e cls a0 d .none)(hkb:base.StaysIn s.heap)(hen:base.get? e=none)
  (h:∀h',lB base (env::outer) e cls a0 d (rawInt L) s.heap h'->Q () {s with heap:=h'}):wpAny M A (noteFrame (.ref e) env) Q E s:=by
 obtain⟨oe,vs,T,oT,ts,he,hc,hdc,hd,h0,h1,nT,Te,hT,hdT,h3⟩:=ht.ex
 unfold noteFrame
 simp only[hf]
 refine gV (OQ he hd h1 ?_)
 rw[if_pos (show(Mn T !=Oj)=true from by simp)]
 refine gV (OQ hT hdT h3 ?_)
 rw[if_neg (show ¬((Oj==rawInt L)=true)from by simp[rawInt])]
 refine gV (Fh (fl':=.none) hkb hl he hc hdc hd h0 h1 nT Te hT hdT h3 fun h' n he'=>?_)
 exact wg (s:={s with heap:=h'}) hfr n.fr hf he' hc hdc n.st hen hd (OI.mp h1).1 h0 fun h2 n2=>h h2 ⟨n2.st,n2.fr,n2.tr,n.up.trans n2.up⟩
def rp {oe:Obj}{vs:Array tx}(hfr:A.frames=some (env::outer))(hl:s.heap.FunFrames base (env::outer))(hf:env.frame=some L)(he:s.heap.get? e=some oe)(hc:oe.cls=cls)(hdc:oe.dict=d)(hkb:base.StaysIn s.heap)(hen:base.get? e=none)
  (hd:oe.data=.fields vs)(h1:vs[1]?=some .none)(h0:Hd0 vs a0)(h:∀h',lB base outer e cls a0 d .none s.heap h'->Q () {s with heap:=h'}):wpAny M A (leaving env (.ref e)) Q E s:=by
 unfold leaving
 refine gV (rV hfr hl hf he hc hdc hkb hen hd h1 h0 fun h' n=>?_)
 obtain⟨n1,⟨_,_,n2⟩,n3,n4⟩:=n
 exact lr (s:={s with heap:=h'}) n1 n2 n3 fun h2 m=>h h2 ⟨m.st,m.fr,m.tr,n4.trans m.up⟩
def rZ (hfr:A.frames=some (env::outer))(hl:s.heap.FunFrames base (env::outer))(hf:env.frame=some L)(ht:TrD s.heap base e cls a0 d .none)(hkb:base.StaysIn s.heap)(hen:base.get? e=none)
  (h:∀h',lB base outer e cls a0 d .none s.heap h'->Q () {s with heap:=h'}):wpAny M A (leaving env (.ref e)) Q E s:=by
 unfold leaving
 refine gV (ms hfr hl hf ht hkb hen fun h' n=>?_)
 obtain⟨n1,⟨_,_,n2⟩,n3,n4⟩:=n
 exact lr (s:={s with heap:=h'}) n1 n2 n3 fun h2 m=>h h2 ⟨m.st,m.fr,m.tr,n4.trans m.up⟩
end
end HT
namespace L2
open PySem PySem.Spec PyProof.Rows
abbrev veM:List tx:=[.type "ValueError",.type "Exception",.type "BaseException",.type "object"]
def cw (K:cW)(C D:Addr):Option Bool:=match K.lookup C with
 |some ⟨_,_,.cls cd,_⟩=>some (cd.mro.contains (.ref D))
 |_=>none
def kH (K:cW)(C:Addr):Bool:=match K.lookup C with
 |some ⟨.type "type",_,.cls cd,sl⟩=>(match cd.mro,sl.toList with
  |.ref C'::bm,[_,_,_,_,some (.builtin n),_]=>C'==C&&n=="ValueError.__new__"&& !cd.hasDel&&W.tailIn K veM bm&&W.nsOkIn K cd.ns
  |_,_=>false)
 |_=>false
def bT (K:cW)(C:Addr):Prop:=kH K C=true
def cr (K:cW)(C:Addr):Prop:=Pp K C veM "ValueError.__new__"=true
def cr.ok {K:cW}{C:Addr}(q:cr K C):bT K C:=by
 unfold cr Pp at q
 unfold bT kH
 split at q
 ·rename_i dd cd sl ho
  split at q
  ·rename_i C' bm k0 k1 k2 k3 n k5 hm hs
   rw[ho]
   simp only[hm,hs]
   simp only[MF]at q⊢
   exact q.1
  ·cases q
 ·cases q
def fQ {K:cW}{h:Heap}{C:Addr}(X:K.In h)(q:bT K C):
  ∃bm N nm qn bs hdct sn sub ab col dd k0 k1 k2 k3 k5 mN,h.get? C=some (excClassObj nm qn C N bs bm hdct sn sub ab col dd k0 k1 k2 k3 k5 "ValueError.__new__")/\h.Ns N mN/\(cr K C->mN "__init__"=none)/\OwnTail h veM bm/\
   ∀D,cw K C D=some ((Mn C::bm).contains (.ref D)):=by
 have q2:=q
 unfold bT kH at q
 split at q
 ·rename_i dd cd sl ho
  split at q
  ·rename_i C' bm k0 k1 k2 k3 n k5 hm hs
   simp only[MF,beq_iff_eq,Bool.not_eq_true']at q
   obtain⟨⟨⟨⟨rfl,rfl⟩,hdel⟩,ht⟩,hok⟩:=q
   obtain⟨nm,bs,mro,ns,qn,hd,sn,sub,ab,col,del⟩:=cd
   dsimp only at hm hdel hok
   subst hm hdel
   have hsl:sl=#[k0,k1,k2,k3,some (.builtin "ValueError.__new__"),k5]:=by
    obtain⟨l⟩:=sl
    simp only at hs
    rw[hs]
   subst hsl
   refine⟨bm,ns,nm,qn,bs,hd,sn,sub,ab,col,dd,k0,k1,k2,k3,k5,_,X _ _ ho,.of_isNs (W.isNs_of_in X hok),fun r=>?_,W.tail_of_in X ht,fun D=>?_⟩
   ·unfold cr Pp at r
    rw[ho]at r
    simp only[MF,beq_iff_eq]at r
    exact W.nsMap_none_of_in X hok r.2
   ·unfold cw
    rw[ho]
  ·cases q
 ·cases q
def nM {M:SK}{A:Mw}{E:tx->If->Prop}{s:If}{K:cW}{C D e:Addr}{oe:Obj}{Q:Bool->If->Prop}{b:Bool}(X:K.In s.heap)(hC:bT K C)(hD:bT K D)(he:s.heap.get? e=some oe)(hcls:oe.cls=.ref C)
  (hs:cw K C D=some b)(hq:Q b s):wpAny M A (excMatches (.ref e) (.ref D)) Q E s:=by
 obtain⟨bm,N,nm,qn,bs,hdct,sn,sub,ab,col,dd,k0,k1,k2,k3,k5,mN,oC,_,_,_,hsub⟩:=fQ X hC
 obtain⟨bm',N',nm',qn',bs',hdct',sn',sub',ab',col',dd',k0',k1',k2',k3',k5',mN',oD,_,_,T',_⟩:=fQ X hD
 have hb:(Mn C::bm).contains (.ref D)=b:=LW ((hsub D).symm.trans hs)
 have hbase:(Mn D::bm').contains (.type "BaseException")=true:=by
  rw[Qi,T'.hasType (X:="BaseException") (b:=true) (by decide+kernel),RH]
 have f:=tc_notTuple
 obtain⟨hp,g,d,t,os⟩:=s
 unfold excMatches
 repeat (first|(with_reducible refine MN he ?_;rw[hcls])|with_reducible refine MN oD ?_ |(with_reducible refine NJ oC ?_;rw[hb])|(with_reducible refine NJ oD ?_;rw[hbase])|wp_step)
 all_goals first|exact hq|(cases b<;>first|exact hq|(repeat (first|exact hq|wp_step)))
structure Fly (P:Ms)(w:MG)(l:List Env)(H:Hp)(s:If)(cls fl:tx)(a:Addr)(d:Option Addr)(H':Hp)(s':If):Prop where
 os:s'.os=s.os
 bare:Pe s'.gens
 un:Un (frs l) [] H H' s.heap s'.heap
 hok:HOk P w H' s'.heap
 new:s.heap.get? a=none
 free:H' a=none
 tr:∃oe vs a0 T oT ts,s'.heap.get? a=some oe/\oe.cls=cls/\oe.dict=d/\oe.data=.fields vs/\HT.Hd0 vs a0/\vs[1]?=some (.ref T)/\T≠a/\s'.heap.get? T=some oT/\oT.data=.fields ts/\ts[3]?=some fl/\s.heap.get? T=none/\H' T=none
def CX1 (P:Ms)(w:MG):CXT:=fun outer H s E e s'=>∃a C d H',e=.ref a/\Fly P w outer H s (.ref C) .none a d H' s'/\E (.ref C) d H'
def jK {P:Ms}{w:MG}{H:Hp}{h:Heap}{a:Addr}{o:HO}(x:bg P w H h a o):∃u,h.get? a=some u:=by
 cases o with
 |lst xs=>obtain⟨_,_,_,_,e⟩:=x;exact⟨_,e⟩
 |tup xs=>obtain⟨_,_,_,p⟩:=x;obtain⟨o,e,_⟩:=p;exact⟨_,e⟩
 |dK kvs=>obtain⟨_,_,_,_,o,_,_,e,_⟩:=x;exact⟨_,e⟩
 |dT kvs=>obtain⟨_,_,_,_,o,_,_,e,_⟩:=x;exact⟨_,e⟩
 |set S n=>obtain⟨o,_,_,_,e,_⟩:=x;exact⟨_,e⟩
 |ins C dx fs=>obtain⟨_,_,_,e,_⟩:=x;exact⟨_,e⟩
 |own y=>exact x
 |xd fs=>obtain⟨_,⟨_,_,_,e,_⟩,_⟩:=x;exact⟨_,e⟩
 |rng lo hi=>obtain⟨_,_,_,e⟩:=x;exact⟨_,e⟩
 |frz ob u=>obtain⟨e,_⟩:=x;exact⟨_,e⟩
 |tbl ps=>exact⟨_,(show h.get? a=some _ from x)⟩
 |met f y=>exact⟨_,(show h.get? a=some _ from x)⟩
 |ext φ=>obtain⟨_,e,_⟩:=x;exact e
section
variable {P:Ms}{w:MG}{l:List Env}{H H':Hp}{s s':If}{cls fl fl':tx}{a:Addr}{d:Option Addr}{base:Heap}
def gr (h:Heap)(l:List Env)(a T:Addr):Heap:=W.hideAll h (a::T::frs l)
def Fly.frames (F:Fly P w l H s cls fl a d H' s')(ff:s.heap.FunFrames base l)(frf:∀b∈frs l,H b=none):s'.heap.FunFrames base l:=by
 have all:∀(k:List Env),(∀b∈frs k,b∈frs l)->s.heap.FunFrames base k->s'.heap.FunFrames base k:=by
  intro k
  induction k with
  |nil=>intro _ _;trivial
  |cons env r ih=>
   intro hs hl
   obtain⟨hk,⟨L,o,hf,hn,ho,hd⟩,hr⟩:=hl
   have hL:L∈frs l:=hs L (by unfold frs;rw[MW,hf];exact MD)
   obtain⟨sl,e⟩:=F.un.slot L o ho (frf L hL) hL (by simp)
   exact⟨hk,⟨L,_,hf,hn,e,hd⟩,ih (fun b hb=>hs b (by unfold frs;rw[MW,hf];exact Mm _ hb)) hr⟩
 exact all l (fun _ hb=>hb) ff
theorem kB {h B B':Heap}:∀{k:List Env},h.FunFrames B k->(∀b∈frs k,B'.get? b=none)->h.FunFrames B' k
 |[],_,_=>trivial
 |env::r,⟨hk,⟨L,o,hf,hn,ho,hd⟩,hr⟩,hb=>⟨hk,⟨L,o,hf,hb L (by unfold frs;rw[MW,hf];exact MD),ho,hd⟩,kB hr fun b h=>hb b (by unfold frs;rw[MW,hf];exact Mm _ h)⟩
def Fly.moved (F:Fly P w l H s cls fl a d H' s')(ff:s.heap.FunFrames base l)(frf:∀b∈frs l,H b=none)(ffs:∀b∈frs l,H' b=none){T:Addr}{oT:Obj}(hT0:s.heap.get? T=none)(hT1:H' T=none){h':Heap}{a0:tx}
  (st:(gr s'.heap l a T).StaysIn h')(up:s'.heap.UpToSlots h')(tr:HT.TrD h' (gr s'.heap l a T) a cls a0 d fl'):Fly P w l H s cls fl' a d H' {s' with heap:=h'}:=by
 have kp:∀b o,s'.heap.get? b=some o->b≠a->b≠T->b∉frs l->h'.get? b=some o:=fun b o e h1 h2 h3=>st b o (Po _ e (by simp[h1,h2,h3]))
 have ff':=F.frames ff frf
 have nf:∀b∈frs l,∀o,s'.heap.get? b=some o->∀vs,o.data≠.fields vs:=fun b hb o e vs z=>by
  obtain⟨_,o',ho,hd⟩:=ff'.mem hb
  rw[e]at ho;cases ho
  exact hd vs z
 have old:∀b o,s.heap.get? b=some o->b≠a/\b≠T:=fun b o e=>⟨fun z=>(by rw[z,F.new]at e;cases e),fun z=>(by rw[z,hT0]at e;cases e)⟩
 refine⟨F.os,F.bare,⟨fun b o e n hb hx=>?_,fun b o e n hb hx=>?_,F.un.free,fun b o e hx=>?_,F.un.tups,F.un.frzs,F.un.tbls⟩,fun b o e=>?_,F.new,F.free,?_⟩
 ·exact kp b o (F.un.keep b o e n hb hx) (old b o e).1 (old b o e).2 hb
 ·obtain⟨sl,e1⟩:=F.un.slot b o e n hb hx
  obtain⟨sl',e2⟩:=up b _ e1 (nf b hb _ e1)
  exact⟨sl',e2⟩
 ·obtain⟨o',e1⟩:=F.un.there b o e hx
  by_cases hb:b∈frs l
  ·obtain⟨sl',e2⟩:=up b _ e1 (nf b hb _ e1)
   exact⟨_,e2⟩
  ·exact⟨o',kp b o' e1 (old b o e).1 (old b o e).2 hb⟩
 ·refine(F.hok b o e).stay (fun c u hc q=>kp c u q ?_ ?_ ?_) (fun _ q=>q) fun _ _ q=>q
  ·rintro rfl
   rcases hc with r|r
   ·rw[<-r,F.free]at e;cases e
   ·rw[F.free]at r;cases r
  ·rintro rfl
   rcases hc with r|r
   ·rw[<-r,hT1]at e;cases e
   ·rw[hT1]at r;cases r
  ·intro hm
   rcases hc with r|r
   ·rw[<-r,ffs _ hm]at e;cases e
   ·rw[ffs _ hm]at r;cases r
 ·obtain⟨oe,vs,T',oT',ts,he,hc,hdc,hd,h0,h1,hn,hne,hT',hdT,h3⟩:=tr.ex
  have key:s'.heap.get? T'=none\/T'=T:=by
   cases q:s'.heap.get? T' with
   |none=>exact .inl rfl
   |some o=>
    refine .inr (OA fun hz=>?_)
    by_cases hf:T'∈frs l
    ·obtain⟨sl',e2⟩:=up T' o q (nf T' hf o q)
     rw[hT']at e2;cases e2
     exact nf T' hf o q ts hdT
    ·have:(gr s'.heap l a T).get? T'=some o:=Po _ q (by simp[hz,hne,hf])
     rw[hn]at this;cases this
  refine⟨oe,vs,a0,T',oT',ts,he,hc,hdc,hd,h0,h1,hne,hT',hdT,h3,?_,?_⟩
  ·rcases key with z|z
   ·cases q:s.heap.get? T' with
    |none=>rfl
    |some o=>
     obtain⟨o',e⟩:=F.un.there T' o q (by simp)
     rw[z]at e;cases e
   ·rw[z];exact hT0
  ·rcases key with z|z
   ·cases q:H' T' with
    |none=>rfl
    |some o=>
     obtain⟨o1,e1⟩:=jK (F.hok T' o q)
     rw[z]at e1;cases e1
   ·rw[z];exact hT1
end
section
variable {X:Cx}{pins:List (Addr×Obj)}{σ:St}{H H':Hp}{s s':If}{cls fl:tx}{a:Addr}{d:Option Addr}
def Fly.inv (I:Inv X pins σ H s)(F:Fly X.prog X.w X.stack H s cls fl a d H' s'):Inv X pins σ H' s':=I.call' (ch:=[]) F.os F.un F.hok F.bare fun b z=>absurd z (by simp)
def Fly.up (I:Inv X pins σ H s)(hex:X.ex=[])(F:Fly X.prog X.w X.stack H s cls fl a d H' s'):Fly X.prog X.w X.outer X.H₀ X.s₀ cls fl a d H' s':=by
 have I2:=F.inv I
 have back:∀b,s.heap.get? b=none->X.s₀.heap.get? b=none:=fun b e=>by
  cases q:X.s₀.heap.get? b with
  |none=>rfl
  |some o=>
   obtain⟨o',e'⟩:=I.base.there b o q (by rw[hex];simp)
   rw[e]at e';cases e'
 obtain⟨oe,vs,a0,T,oT,ts,h1,h2,hd,h3,h4,h5,h6,h7,h8,h9,h10,h11⟩:=F.tr
 have b:=I2.base
 rw[hex]at b
 exact⟨I2.os,I2.bare,b,I2.hok,back a F.new,F.free,oe,vs,a0,T,oT,ts,h1,h2,hd,h3,h4,h5,h6,h7,h8,h9,back T h10,h11⟩
def Fly.flying (I:Inv X pins σ H s)(F:Fly X.prog X.w X.stack H s cls .none a d H' s'):∃T a0,s.heap.get? T=none/\H' T=none/\(gr s'.heap X.stack a T).StaysIn s'.heap/\(gr s'.heap X.stack a T).get? a=none/\s'.heap.FunFrames (gr s'.heap X.stack a T) X.stack/\
  HT.TrD s'.heap (gr s'.heap X.stack a T) a cls a0 d .none:=by
 obtain⟨oe,vs,a0,T,oT,ts,h1,h2,hd,h3,h4,h5,h6,h7,h8,h9,h10,h11⟩:=F.tr
 exact⟨T,a0,h10,h11,fun b o e=>Sg _ e,Ow _ (by simp),kB (F.frames I.stack I.stkFree) fun b hb=>Ow _ (by simp[hb]),⟨oe,vs,T,oT,ts,h1,h2,hd,h3,h4,h5,Ow _ (by simp),h6,h7,h8,h9⟩⟩
end
structure uu (P:Ms)(w:MG)(l:List Env)(H:Hp)(s:If)(cls:tx)(a:Addr)(d:Option Addr)(H':Hp)(s':If):Prop where
 os:s'.os=s.os
 bare:Pe s'.gens
 un:Un (frs l) [] H H' s.heap s'.heap
 hok:HOk P w H' s'.heap
 new:s.heap.get? a=none
 free:H' a=none
 tr:∃oe vs a0,s'.heap.get? a=some oe/\oe.cls=cls/\oe.dict=d/\oe.data=.fields vs/\HT.Hd0 vs a0/\vs[1]?=some .none
section
variable {P:Ms}{w:MG}{l:List Env}{H H':Hp}{s s':If}{cls fl':tx}{a:Addr}{d:Option Addr}{base:Heap}
def oK (un:Un (frs l) [] H H' s.heap s'.heap)(ff:s.heap.FunFrames base l)(frf:∀b∈frs l,H b=none):s'.heap.FunFrames base l:=by
 have all:∀(k:List Env),(∀b∈frs k,b∈frs l)->s.heap.FunFrames base k->s'.heap.FunFrames base k:=by
  intro k
  induction k with
  |nil=>intro _ _;trivial
  |cons env r ih=>
   intro hs hl
   obtain⟨hk,⟨L,o,hf,hn,ho,hd⟩,hr⟩:=hl
   have hL:L∈frs l:=hs L (by unfold frs;rw[MW,hf];exact MD)
   obtain⟨sl,e⟩:=un.slot L o ho (frf L hL) hL (by simp)
   exact⟨hk,⟨L,_,hf,hn,e,hd⟩,ih (fun b hb=>hs b (by unfold frs;rw[MW,hf];exact Mm _ hb)) hr⟩
 exact all l (fun _ hb=>hb) ff
def uu.moved (F:uu P w l H s cls a d H' s')(ff:s.heap.FunFrames base l)(frf:∀b∈frs l,H b=none)(ffs:∀b∈frs l,H' b=none){h':Heap}{a0:tx}
  (st:(gr s'.heap l a a).StaysIn h')(up:s'.heap.UpToSlots h')(tr:HT.TrD h' (gr s'.heap l a a) a cls a0 d fl'):Fly P w l H s cls fl' a d H' {s' with heap:=h'}:=by
 have kp:∀b o,s'.heap.get? b=some o->b≠a->b∉frs l->h'.get? b=some o:=fun b o e h1 h3=>st b o (Po _ e (by simp[h1,h3]))
 have ff':=oK F.un ff frf
 have nf:∀b∈frs l,∀o,s'.heap.get? b=some o->∀vs,o.data≠.fields vs:=fun b hb o e vs z=>by
  obtain⟨_,o',ho,hd⟩:=ff'.mem hb
  rw[e]at ho;cases ho
  exact hd vs z
 have old:∀b o,s.heap.get? b=some o->b≠a:=fun b o e z=>by rw[z,F.new]at e;cases e
 refine⟨F.os,F.bare,⟨fun b o e n hb hx=>?_,fun b o e n hb hx=>?_,F.un.free,fun b o e hx=>?_,F.un.tups,F.un.frzs,F.un.tbls⟩,fun b o e=>?_,F.new,F.free,?_⟩
 ·exact kp b o (F.un.keep b o e n hb hx) (old b o e) hb
 ·obtain⟨sl,e1⟩:=F.un.slot b o e n hb hx
  obtain⟨sl',e2⟩:=up b _ e1 (nf b hb _ e1)
  exact⟨sl',e2⟩
 ·obtain⟨o',e1⟩:=F.un.there b o e hx
  by_cases hb:b∈frs l
  ·obtain⟨sl',e2⟩:=up b _ e1 (nf b hb _ e1)
   exact⟨_,e2⟩
  ·exact⟨o',kp b o' e1 (old b o e) hb⟩
 ·refine(F.hok b o e).stay (fun c u hc q=>kp c u q ?_ ?_) (fun _ q=>q) fun _ _ q=>q
  ·rintro rfl
   rcases hc with r|r
   ·rw[<-r,F.free]at e;cases e
   ·rw[F.free]at r;cases r
  ·intro hm
   rcases hc with r|r
   ·rw[<-r,ffs _ hm]at e;cases e
   ·rw[ffs _ hm]at r;cases r
 ·obtain⟨oe,vs,T',oT',ts,he,hc,hdc,hd,h0,h1,hn,hne,hT',hdT,h3⟩:=tr.ex
  have key:s'.heap.get? T'=none:=by
   cases q:s'.heap.get? T' with
   |none=>rfl
   |some o=>
    by_cases hf:T'∈frs l
    ·obtain⟨sl',e2⟩:=up T' o q (nf T' hf o q)
     rw[hT']at e2;cases e2
     exact(nf T' hf o q ts hdT).elim
    ·have:(gr s'.heap l a a).get? T'=some o:=Po _ q (by simp[hne,hf])
     rw[hn]at this;cases this
  refine⟨oe,vs,a0,T',oT',ts,he,hc,hdc,hd,h0,h1,hne,hT',hdT,h3,?_,?_⟩
  ·cases q:s.heap.get? T' with
   |none=>rfl
   |some o=>
    obtain⟨o',e⟩:=F.un.there T' o q (by simp)
    rw[key]at e;cases e
  ·cases q:H' T' with
   |none=>rfl
   |some o=>
    obtain⟨o1,e1⟩:=jK (F.hok T' o q)
    rw[key]at e1;cases e1
end
def eZ (CX:CXT)(X:Cx)(E:St->XK):Prop:=∀(pins:List (Addr×Obj))(σ:St)(H:Hp)(s:If)(e:tx)(s':If),Inv X pins σ H s->CX X.stack H s (E σ) e s'->X.xe e s'
def qQ (X:Cx)(E:St->XK):Prop:=∀(pins:List (Addr×Obj))(σ:St)(H:Hp)(s:If)(C a:Addr)(d:Option Addr)(H2:Hp)(s2:If),Inv X pins σ H s->uu X.prog X.w X.stack H s (.ref C) a d H2 s2->E σ (.ref C) d H2->X.xe (.ref a) s2
def bR {P:Ms}{w:MG}{X:Cx}:eZ (CX1 P w) X (fun _=>E0):=fun pins σ H s e s' I ⟨_,_,_,_,_,_,h⟩=>h.elim
section
variable {P:Ms}{w:MG}{K:cW}{mg:Str->Option tx}{base:Heap}{N:List Str}{qual:Str}{scope:Scope}{f:Addr}{cd:tx}{A:Mw}{outer:List Env}{s:If}{H:Hp}{E:XK}
def eO:eZ (CX1 P w) (cq (CX1 P w) P w K mg base N qual scope f cd A outer s H E) (fun _=>E):=by
 intro pins σ H1 s1 e s' I hx
 obtain⟨a,C,d,H',rfl,F,hE⟩:=hx
 obtain⟨T,a0,hT0,hT1,f1,f2,f3,f4⟩:=F.flying I
 refine HT.rZ (I.ok.frames) f3 rfl f4 f1 f2 fun h' n=>?_
 have F2:=F.moved (oT:={cls:=.none,data:=.dict #[]}) I.stack I.stkFree (F.inv I).stkFree hT0 hT1 n.st n.up n.tr
 exact⟨a,C,d,H',rfl,F2.up I rfl,hE⟩
def dJ:qQ (cq (CX1 P w) P w K mg base N qual scope f cd A outer s H E) (fun _=>E):=by
 intro pins σ H1 s1 C a d H2 s2 I F hE
 have I2:Inv (cq (CX1 P w) P w K mg base N qual scope f cd A outer s H E) pins σ H2 s2:=I.call' (ch:=[]) F.os F.un F.hok F.bare fun b z=>absurd z (by simp)
 obtain⟨oe,vs,a0,he,hc,hdc,hd,h0,h1⟩:=F.tr
 refine HT.rp I.ok.frames (kB (B':=gr s2.heap (cq (CX1 P w) P w K mg base N qual scope f cd A outer s H E).stack a a) (oK F.un I.stack I.stkFree) fun b hb=>Ow _ (Mm _ (Mm _ hb))) rfl he hc hdc (fun b o e=>Sg _ e) (Ow _ (by simp)) hd h1 h0 fun h' n=>?_
 have F2:=F.moved I.stack I.stkFree I2.stkFree n.st n.up n.tr
 exact⟨a,C,d,H2,rfl,F2.up I rfl,hE⟩
def GF {X:Cx}{pins:List (Addr×Obj)}{σ:St}{H:Hp}{s:If}{C a:Addr}{h1:Heap}(I:Inv X pins σ H s)(hm:Heap.MadeExcOf s.heap h1 a (.ref C) []):uu X.prog X.w X.stack H s (.ref C) a none H {s with heap:=h1}:=by
 obtain⟨t,ht,_,_⟩:=hm.there
 refine⟨rfl,I.bare,Un.kept hm.keeps,I.hok.kept hm.keeps,hm.new,?_,⟨_,_,.ref t,ht,rfl,rfl,rfl,⟨rfl,rfl⟩,rfl⟩⟩
 cases q:H a with
 |none=>rfl
 |some o=>
  obtain⟨u,e'⟩:=jK (I.hok a o q)
  rw[hm.new]at e';cases e'
end
def az (sp:Sp)(E:St->XK)(t:TA):TE:=fun σ H Q=>t σ H fun vs H1=>sp vs H1 Q (E σ)
section
variable {X:Cx}{CX:CXT}{k:Nat}{f:Addr}{fd:Mc}{ps:List Str}{sp:Sp}{E:St->XK}{x:Str}{p pos:Pos}{e:Expr}{es:List Expr}{t:TA}
def kP {pins:List (Addr×Obj)}{σ:St}{H:Hp}{s:If}{Q:VK}{us:List tx}{vs:List V}(F:aP X.prog X.w X.K X.mg X.base CX k f fd ps sp)(hr:aX k X.A)(hb:bK X.K fd ps [])(hx:eZ CX X E)
  (I:Inv X pins σ H s)(r:ba vs us)(h:sp vs H Q (E σ)):wpAny (model X.prog X.w) X.A (call (.ref f) us) (EP X pins σ Q) X.xe s:=by
 have hl:us.length=ps.length:=by rw[<-r.length];exact F.len _ _ _ _ h
 have hb':=hb s us I.kIn (by rw[MU];exact hl)
 rw[MU]at hb'
 refine ON (Nw (F.run X.A X.stack s H ⟨us,[]⟩ us vs Q (E σ) hr I.env0 hb' r h) fun r s' hq=>?_)
 cases r with
 |error e=>exact hx pins σ H s e s' I hq
 |ok fl=>
  cases fl with
  |ret u=>exact I.after hq
  |next=>exact MB hq
  |brk=>exact MB hq
  |cont=>exact MB hq
def gA (F:aP X.prog X.w X.K X.mg X.base CX k f fd ps sp)(hr:aX k X.A)(hm:X.mg x=some (.ref f))(hk:Oh X.K (.ref f)=true)(hb:bK X.K fd ps [])(hx:eZ CX X E)
  (ha:QA X (e::es) t)(hg:Gl X x:=by rfl)(hdb:(x==("__debug__":Str))=false:=by decide)(hs:bv (e::es)=true:=by rfl):QE X (.Call (.Name x p) (e::es) [] pos) (az sp E t):=by
 refine⟨fun pins s σ H Q I h=>?_⟩
 have h':(cf e&&bv es)=true:=hs
 refine MV (gg I hg hm ?_ hdb)
 refine PF (h₀:=X.base) I.ok.mod.kin hk (thn (ha.out pos pins s σ H _ I h) fun us s1 ⟨vs,H1,I1,r,q⟩=>⟨I1.kIn,?_⟩) (be (LX.mp h').1 es X.env) (ck (LX.mp h').2)
 exact kP F hr hb hx I1 r q
def rh (F:aP X.prog X.w X.K X.mg X.base CX k f fd ps sp)(hr:aX k X.A)(hm:X.mg x=some (.ref f))(hk:Oh X.K (.ref f)=true)(hb:bK X.K fd ps [])(hx:eZ CX X E)
  (hg:Gl X x:=by rfl)(hdb:(x==("__debug__":Str))=false:=by decide):QE X (.Call (.Name x p) [] [] pos) (az sp E ak):=by
 refine⟨fun pins s σ H Q I h=>?_⟩
 refine MV (gg I hg hm ?_ hdb)
 exact RL I.kIn hk (kP (us:=[]) F hr hb hx I .nil h)
def gM (C:Addr)(E:St->XK):TS:=fun _ σ H=>E σ (.ref C) none H
def gi {C:Addr}{np cpos:Pos}(hC:cr X.K C)(hm:X.mg x=some (.ref C))(hR:qQ X E)(hc:X.calm=true:=by rfl)(hg:Gl X x:=by rfl)(hdb:(x==("__debug__":Str))=false:=by decide):
  QS X (.Raise (some (.Call (.Name x np) [] [] cpos)) none pos) (gM C E):=by
 refine⟨fun pins s σ H D I h=>?_⟩
 obtain⟨bm,N,nm,qn,bs,hdct,sn,sub,ab,col,dd,k0,k1,k2,k3,k5,mN,oC,hN,hni,T,_⟩:=fQ I.kIn hC.ok
 refine wpAny_Raise_call_subU (C:=C) (nm:=nm) (q:=qn) (N:=N) (bs:=bs) (bm:=bm) (hdct:=hdct) (sn:=sn) (sub:=sub) (ab:=ab) (col:=col) (dd:=dd) (k0:=k0) (k1:=k1) (k2:=k2) (k3:=k3) (k5:=k5)
  OD (by decide+kernel) OD (mN:=mN) (T.hasType OD.hasBase) (I.ok.hd hc) rfl (hni hC) (gg I hg hm ⟨rfl,?_⟩ hdb)
 exact evalArgs_empty ⟨rfl,MS _,oC,hN,T,fun h' e hm'=>hR pins σ H s C e none H _ I (GF I hm') h⟩
end
def Fun.okX {P:Ms}{w:MG}{K:cW}{mg:Str->Option tx}{base:Heap}{x qual:Str}{st:Stmt}{f:Addr}{fd:Mc}{N ps:List Str}{k:Nat}{sp:Sp}(F:Fun K x qual st f fd)(S:aD N ps (am st))(len:∀vs H Q E,sp vs H Q E->vs.length=ps.length)
  (hbody:∀(cdv:tx)(A:Mw)(outer:List Env)(s:If)(H:Hp)(vs:List V)(Q:VK)(E:XK),aX k (A.deeper (envOfC qual (am st) s.heap.objs.size f cdv))->sp vs H Q E->
   ∃t,PSs (cq (CX1 P w) P w K mg base N qual (am st) f cdv A outer s H E) (aK st) t/\t {nx:=fun _ H'=>Q .non H',rt:=Q} (start N vs) H):aP P w K mg base (CX1 P w) (k+1) f fd ps sp:=by
 obtain⟨oc,od,kV,doc,pm,an,cdv,ct,osl,rfl,lk,hcd⟩:=F.ex
 exact zT lk hcd S len fun A outer s H vs Q E hr hsp=>hbody cdv A outer s H vs Q E hr hsp
def gP (C:Addr)(d:Option Addr)(a:Addr):HO:=.ext fun h=>∃o vs,h.get? a=some o/\o.cls=.ref C/\o.dict=d/\o.data=.fields vs/\vs[2]?=some .none
def AD {P:Ms}{w:MG}{H:Hp}{h:Heap}{C a:Addr}{d:Option Addr}{o:Obj}{vs:Array tx}(e:h.get? a=some o)(hc:o.cls=.ref C)(hdc:o.dict=d)(hd:o.data=.fields vs)(h2:vs[2]?=some .none):bg P w H h a (gP C d a):=
 ⟨⟨o,vs,e,hc,hdc,hd,h2⟩,⟨o,e⟩,fun _ _ ⟨o1,vs1,e1,c1,x1,d1,y1⟩ k=>⟨o1,vs1,k o1 e1,c1,x1,d1,y1⟩⟩
def sf {P:Ms}{w:MG}{H:Hp}{h:Heap}{C a:Addr}{d:Option Addr}(x:bg P w H h a (gP C d a)):∃o vs,h.get? a=some o/\o.cls=.ref C/\o.dict=d/\o.data=.fields vs/\vs[2]?=some .none:=x.1
section
variable {X:Cx}{pins:List (Addr×Obj)}{σ:St}{H H1 H':Hp}{s s0:If}{a:Addr}{o:HO}
def Inv.track (I0:Inv X pins σ H1 s0)(hex:X.ex=[])(I:Inv X pins σ H s)(new:s0.heap.get? a=none)(hn:H a=none)(ok:bg X.prog X.w (upd H a o) s.heap a o):Inv X pins σ (upd H a o) s:=by
 have ne:∀b u,s0.heap.get? b=some u->b≠a:=fun b u e z=>by rw[z,new]at e;cases e
 have ne0:∀b u,X.s₀.heap.get? b=some u->b≠a:=fun b u e=>by
  obtain⟨u',e'⟩:=I0.base.there b u e (by rw[hex];simp)
  exact ne b u' e'
 have nL:X.env.locals≠a:=by
  obtain⟨m,⟨o',_,_,e,_⟩,_⟩:=I0.loc
  exact ne _ _ e
 refine⟨I.ok,I.os,I.bare,⟨I.base.keep,I.base.slot,fun b u e n hx=>?_,I.base.there,fun b xs e=>?_,fun b u v e=>?_,fun b ps e=>?_⟩,I.loc,I.cell,?_,fun x c e=>?_,fun p hp=>?_,fun b u e=>?_,I.len⟩
 ·rw[ao (ne0 b u e)];exact I.base.free b u e n hx
 ·have:=I.base.tups b xs e
  rw[ao (av this hn)];exact this
 ·have:=I.base.frzs b u v e
  rw[ao (av this hn)];exact this
 ·obtain⟨more,this⟩:=I.base.tbls b ps e
  exact⟨more,by rw[ao (av this hn)];exact this⟩
 ·rw[ao nL];exact I.free
 ·obtain⟨v,o',e',_⟩:=I0.cell x c e
  rw[ao (ne _ _ e')];exact I.freeC x c e
 ·obtain⟨h1,h2,h3⟩:=I.pin p hp
  exact⟨h1,by rw[ao (ne _ _ (I0.pin p hp).1)];exact h2,h3⟩
 ·by_cases hb:b=a
  ·subst hb
   rw[ag]at e;cases e
   exact ok
  ·rw[ao hb]at e
   exact(I.hok b u e).stay (fun c v _ q=>q) (fun c q=>by
    have:c≠a:=av q hn
    rw[ao this];exact q) fun c xs q=>by
    have:c≠a:=av q hn
    rw[ao this];exact q
end
def cxH (X:Cx)(a:Addr):Cx:={X with A:=X.A.mark (some (.ref a)),calm:=false,xe:=fun _ _=>False}
section
variable {X:Cx}{pins:List (Addr×Obj)}{σ:St}{H:Hp}{s:If}{a:Addr}
def Cx.Ok.toH (ok:X.Ok):(cxH X a).Ok:=⟨ok.mod,ok.kind,ok.glob,ok.blt,ok.above,ok.inj,ok.has,ok.cab,fun h=>absurd (show false=true from h) Mo,ok.frames,ok.stk,ok.exf,ok.bs,ok.bsz,ok.noex,ok.exfs,ok.funs,ok.frf⟩
def Inv.toH (I:Inv X pins σ H s):Inv (cxH X a) pins σ H s:=⟨I.ok.toH,I.os,I.bare,I.base,I.loc,I.cell,I.free,I.freeC,I.pin,I.hok,I.len⟩
def Inv.ofH (ok:X.Ok)(I:Inv (cxH X a) pins σ H s):Inv X pins σ H s:=⟨ok,I.os,I.bare,I.base,I.loc,I.cell,I.free,I.freeC,I.pin,I.hok,I.len⟩
def SP.ofH {D:gh}{f:Flow}(ok:X.Ok)(h:SP (cxH X a) pins D f s):SP X pins D f s:=by
 cases f with
 |next=>obtain⟨σ',H',J,q⟩:=h;exact⟨σ',H',J.ofH ok,q⟩
 |brk=>obtain⟨σ',H',J,q⟩:=h;exact⟨σ',H',J.ofH ok,q⟩
 |cont=>obtain⟨σ',H',J,q⟩:=h;exact⟨σ',H',J.ofH ok,q⟩
 |ret u=>obtain⟨v,σ',H',J,r,q⟩:=h;exact⟨v,σ',H',J.ofH ok,r,q⟩
end
abbrev TH:=gh->St->Addr->Option Addr->Hp->Prop
def PH (X:Cx)(hs:List Px)(t:TH):Prop:=∀(pins:List (Addr×Obj))(s0:If)(σ:St)(H1 H':Hp)(C a:Addr)(d:Option Addr)(s3:If)(D:gh),X.stack=X.env::X.outer->X.env.frame=some X.env.locals->X.ex=[]->
 Inv X pins σ H1 s0->Fly X.prog X.w X.stack H1 s0 (.ref C) .none a d H' s3->bT X.K C->t D σ C d H'->wpAny (model X.prog X.w) X.A (handleBy (.ref a) X.env hs) (SP X pins D) X.xe s3
structure QH (X:Cx)(hs:List Px)(t:TH):Prop where
 out:PH X hs t
def mR:TH:=fun _ _ _ _ _=>False
def vJ (i:Nat)(D:gh):gh:=⟨fun σ H=>D.nx (σ.set i none) H,D.rt,fun σ H=>D.bk (σ.set i none) H,fun σ H=>D.ct (σ.set i none) H⟩
def hAs (K:cW)(Dc:Addr)(i:Nat)(ts:TS)(r:TH):TH:=fun D σ C d H=>∃b,cw K C Dc=some b/\Sel b (∀a,H a=none->ts (vJ i D) (σ.set i (some (.ref a))) (upd H a (gP C d a))) (r D σ C d H)
section
variable {X:Cx}
def wl:QH X [] mR:=⟨fun _ _ _ _ _ _ _ _ _ _ _ _ _ _ _ _ h=>h.elim⟩
def wu {pins:List (Addr×Obj)}{σ:St}{H H':Hp}{s s':If}{cls:tx}{a:Addr}{d:Option Addr}{M:SK}{A:Mw}{E:tx->If->Prop}{Q:Unit->If->Prop}(I:Inv X pins σ H s)(F:Fly X.prog X.w X.stack H s cls .none a d H' s')
  (hQ:∀s'',Fly X.prog X.w X.stack H s cls .none a d H' s''->Q () s''):wpAny M A (setFlight (.ref a) none) Q E s':=by
 obtain⟨T,a0,hT0,hT1,f1,f2,f3,f4⟩:=F.flying I
 refine HT.lr f1 f3 f4 fun h' n=>?_
 exact hQ _ (F.moved (oT:={cls:=.none,data:=.dict #[]}) I.stack I.stkFree (F.inv I).stkFree hT0 hT1 n.st n.up n.tr)
variable {x n:Str}{np hp:Pos}{Dc:Addr}{b0:Stmt}{suite:List Stmt}{cB:List Px}{ts:TS}{r:TH}{i:Nat}
def zx {A:Mw}{E:tx->If->Prop}{pins:List (Addr×Obj)}{s:If}{σ:St}{H:Hp}{u:tx}{pos:Pos}{Q:tx->If->Prop}(I:Inv X pins σ H s)(hg:Gl X x)(hm:X.mg x=some u)(h:Q u s)
  (hd:(x==("__debug__":Str))=false:=by decide):wpAny (model X.prog X.w) A (eval (.Name x pos) X.env) Q E s:=
 OH I.ok.kind hg (Rq (by rw[I.ok.glob];exact I.mod.glob.keeps I.bk) hm h) hd
def zW (i:Nat)(hN:X.N.Nodup)(hD:bT X.K Dc)(hm:X.mg x=some (.ref Dc))(hs:∀a,QSs (cxH X a) (b0::suite) ts)(hr:QH X cB r)(hg:Gl X x:=by rfl)(hdb:(x==("__debug__":Str))=false:=by decide)
  (hi:X.N[i]? =some n:=by rfl)(hl:X.env.scope.names.lookup n=some .local:=by rfl):
  QH X (.ExceptHandler (some (.Name x np)) (some n) (b0::suite) hp::cB) (hAs X.K Dc i ts r):=by
 refine⟨fun pins s0 σ H1 H' C a d s3 D e1 e2 hex I F hC h=>?_⟩
 obtain⟨b,hb,q⟩:=h
 have I3:=F.inv I
 obtain⟨oe,vs,_,_,_,_,he,hc,hdc,hd,_⟩:=F.tr
 refine wpAny_handleBy_cons (codeAny_handlers_test (zx I3 hg hm ?_ hdb)) (by intro q;cases q)
 refine nM I3.kIn hC hD he hc hb ?_
 have q:=dI q
 cases b with
 |false=>exact hr.out pins s0 σ H1 H' C a d s3 D e1 e2 hex I F hC q
 |true=>
  refine codeAny_handlers_suite_as (wu I F fun s4 F4=>?_)
  have I4:=F4.inv I
  obtain⟨oe4,vs4,_,_,_,_,he4,hc4,hdc4,hd4,h04,_⟩:=F4.tr
  have I5:Inv X pins σ (upd H' a (gP C d a)) s4:=Inv.track I hex I4 F.new F.free (AD he4 hc4 hdc4 hd4 h04.b)
  have hcls:(X.env.scope.kind== .class||(X.env.scope.kind== .module&&X.env.locals !=X.env.globals))=false:=by rw[I.ok.kind];rfl
  refine gp (v:=.ref a) I5 hN hi (.inl hl) rfl (fun s6 I6=>?_) (.inr hl)
  refine Mx ((hs a).out pins s6 _ _ (vJ i D) I6.toH (q a F.free)) (fun f s7 h7=>?_) fun _ _ z=>z.elim
  have h7:=SP.ofH I.ok h7
  have go:∀{σ':St}{H'':Hp}{Q:Unit->If->Prop},Inv X pins σ' H'' s7->(∀s8,Inv X pins (σ'.set i none) H'' s8->Q () s8)->wpAny (model X.prog X.w) X.A (do bindName X.env n .none;unbindBehindTheSuite X.env n hp) Q X.xe s7:=fun{σ' H'' Q} J hQ=>by
   obtain⟨m,hn,hloc⟩:=id J.loc
   refine wpAny_nameGoes_keeps hl hn hcls fun h' v hn' hs'=>hQ _ ?_
   obtain⟨oL,_,_,hoL,_⟩:=id hn
   refine⟨J.ok,J.os,J.bare,⟨fun b o e n hb hx=>?_,fun b o e n hb hx=>?_,J.base.free,fun b o e hx=>?_,J.base.tups,J.base.frzs,J.base.tbls⟩,⟨_,hn',fun j y v' e1 e2 e3=>?_⟩,fun y c e=>?_,J.free,J.freeC,fun p hp=>?_,fun b ob e=>?_,by simpa using J.len⟩
   ·exact(hs'.2 b (Ml (Mg (Ma e) J.ok.above))).trans (J.base.keep b o e n hb hx)
   ·obtain⟨sl,e1⟩:=J.base.slot b o e n hb hx
    exact⟨sl,(hs'.2 b (Ml (Mg (Ma e) J.ok.above))).trans e1⟩
   ·obtain⟨o',e1⟩:=J.base.there b o e hx
    exact⟨o',(hs'.2 b (Ml (Mg (Ma e) J.ok.above))).trans e1⟩
   ·have hji:j≠i:=by
     rintro rfl
     have:j<σ'.length:=by rw[J.len];exact(Mh.mp hi).1
     rw[Pl this]at e2;cases e2
    rw[PC (Md hji)]at e2
    obtain⟨u,ru,lk⟩:=hloc j y v' e1 e2 e3
    refine⟨u,ru,?_⟩
    rcases lk with⟨k,e⟩|⟨k,c,e,z⟩
    ·refine .inl ⟨k,?_⟩
     have:y≠n:=fun e=>hji (jM hN e1 (e▸hi))
     simp[this,e]
    ·exact .inr ⟨k,c,e,z.sameBut hs' (J.cne y c e)⟩
   ·obtain⟨w',z⟩:=J.cell y c e
    exact⟨w',z.sameBut hs' (J.cne y c e)⟩
   ·obtain⟨e,n,ne,nf,d⟩:=J.pin p hp
    exact⟨(hs'.2 p.1 ne).trans e,n,ne,nf,d⟩
   ·refine(J.hok b ob e).stay (fun c w' hc q=>(hs'.2 c ?_).trans q) (fun _ q=>q) fun _ _ q=>q
    rintro rfl
    rcases hc with r|hc
    ·rw[<-r,J.free]at e;cases e
    ·rw[J.free]at hc;cases hc
  cases f with
  |next=>obtain⟨σ',H'',J,q'⟩:=h7;exact go J fun s8 J8=>⟨_,_,J8,q'⟩
  |brk=>obtain⟨σ',H'',J,q'⟩:=h7;exact go J fun s8 J8=>⟨_,_,J8,q'⟩
  |cont=>obtain⟨σ',H'',J,q'⟩:=h7;exact go J fun s8 J8=>⟨_,_,J8,q'⟩
  |ret u=>obtain⟨v,σ',H'',J,rv,q'⟩:=h7;exact go J fun s8 J8=>⟨v,_,_,J8,rv,q'⟩
end
def zp (K:cW)(tb:(St->XK)->TS)(th:TH)(te:TS):TS:=fun D σ H=>
 tb (fun σ' cls d H'=>∃C,cls=.ref C/\bT K C/\th D σ' C d H') {D with nx:=te D} σ H
abbrev cxT (X:Cx)(pn:List (Addr×Obj))(E':tx->If->Prop):Cx:={X with pn:=pn,xe:=E'}
section
variable {X:Cx}{pins pn:List (Addr×Obj)}{σ:St}{H:Hp}{s:If}{E':tx->If->Prop}
def Cx.Ok.toT (ok:X.Ok):(cxT X pn E').Ok:=⟨ok.mod,ok.kind,ok.glob,ok.blt,ok.above,ok.inj,ok.has,ok.cab,ok.hd,ok.frames,ok.stk,ok.exf,ok.bs,ok.bsz,ok.noex,ok.exfs,ok.funs,ok.frf⟩
def Inv.toT (I:Inv X pins σ H s):Inv (cxT X (X.pn++pins) E') [] σ H s:=⟨I.ok.toT,I.os,I.bare,I.base,I.loc,I.cell,I.free,I.freeC,fun p hp=>I.pin p (by
 have hp:p∈(X.pn++pins)++[]:=hp
 rwa [MU]at hp),I.hok,I.len⟩
def Inv.ofT {pins':List (Addr×Obj)}(ok:X.Ok)(I:Inv (cxT X (X.pn++pins) E') pins' σ H s):Inv X pins σ H s:=⟨ok,I.os,I.bare,I.base,I.loc,I.cell,I.free,I.freeC,fun p hp=>I.pin p (Pz _ hp),I.hok,I.len⟩
def Ad {body orelse:List Stmt}{h0:Px}{hs:List Px}{pos:Pos}{tb:(St->XK)->TS}{te:TS}{th:TH}
  (hb:∀(pn':List (Addr×Obj))(E':tx->If->Prop)(EH:St->XK),eZ (CX1 X.prog X.w) (cxT X pn' E') EH->QSs (cxT X pn' E') body (tb EH))(hh:QH X (h0::hs) th)(he:QSs X orelse te)
  (e1:X.stack=X.env::X.outer:=by rfl)(e2:X.env.frame=some X.env.locals:=by rfl)(hex:X.ex=[]:=by rfl):QS X (.Try body (h0::hs) orelse [] pos) (zp X.K tb th te):=by
 refine⟨fun pins s σ H D I h=>?_⟩
 let E':tx->If->Prop:=fun e s1=>∃σ1 H1 s0 C a d H',e=.ref a/\Inv X pins σ1 H1 s0/\Fly X.prog X.w X.stack H1 s0 (.ref C) .none a d H' s1/\bT X.K C/\th D σ1 C d H'
 have pass:eZ (CX1 X.prog X.w) (cxT X (X.pn++pins) E') (fun σ' cls d H'=>∃C,cls=.ref C/\bT X.K C/\th D σ' C d H'):=by
  intro pins' σ1 H1 s0 e s1 I1 hx
  obtain⟨a,C,d,H',rfl,F,C',ec,hC,ht⟩:=hx
  cases ec
  exact⟨σ1,H1,s0,C,a,d,H',rfl,I1.ofT I.ok,F,hC,ht⟩
 refine wpAny_Try_except (Mx ((hb (X.pn++pins) E' _ pass).out [] s σ H _ I.toT h) (fun f s1 h1=>?_) fun e s1 h1=>?_)
 ·cases f with
  |next=>
   obtain⟨σ',H',J,q⟩:=h1
   exact he.out pins s1 σ' H' D (J.ofT I.ok) q
  |brk=>obtain⟨σ',H',J,q⟩:=h1;exact⟨σ',H',J.ofT I.ok,q⟩
  |cont=>obtain⟨σ',H',J,q⟩:=h1;exact⟨σ',H',J.ofT I.ok,q⟩
  |ret u=>obtain⟨v,σ',H',J,rv,q⟩:=h1;exact⟨v,σ',H',J.ofT I.ok,rv,q⟩
 ·obtain⟨σ1,H1,s0,C,a,d,H',rfl,I1,F,hC,ht⟩:=h1
  obtain⟨T,a0,hT0,hT1,f1,f2,f3,f4⟩:=F.flying I1
  have hfr:=I1.ok.frames
  rw[e1]at hfr
  have f3':=f3
  rw[e1]at f3'
  have f1':=f1
  have f2':=f2
  have f4':=f4
  rw[e1]at f1' f2' f4'
  refine HT.ms hfr f3' e2 f4' f1' f2' fun h' n1=>?_
  refine HT.lr (s:={s1 with heap:=h'}) n1.st n1.fr n1.tr fun h'' n2=>?_
  have st:(gr s1.heap X.stack a T).StaysIn h'':=by rw[e1];exact n2.st
  have tr:HT.TrD h'' (gr s1.heap X.stack a T) a (.ref C) a0 d .none:=by rw[e1];exact n2.tr
  have F3:=F.moved (oT:={cls:=.none,data:=.dict #[]}) I1.stack I1.stkFree (F.inv I1).stkFree hT0 hT1 st (n1.up.trans n2.up) tr
  exact hh.out pins s0 σ1 H1 H' C a d _ D e1 e2 hex I1 F3 hC ht
end
structure cu (K:cW)(C:Addr):Prop where
 ga:Mq K (.ref C) "__getattribute__"=some (some (.builtin "BaseException.__getattribute__"))
 na:Mq K (.ref C) "__getattr__"=some none
 cl:Mq K (.ref C) "__class__"=some (some (.builtin "object.__class__"))
 mo:ML K C (.type "object")=some true
 mb:ML K C (.type "BaseException")=some true
section
variable {K:cW}{prog:Ms}{w:MG}{A:Mw}{E:tx->If->Prop}{h:Heap}{g:Array Pw}{d:Drawn}{t:Nat}{os:OsState}{a C:Addr}{o:Obj}
def AN {M:SK}(hx:h.get? a=some o)(hc:o.cls=.ref C):W.Looks M h (typeOf (.ref a)) (.ref C):=hc▸(W.Looks.ld hx).andThen .now
def Di {R:Qs->If->Prop}(X:K.In h)(G:cu K C)(hx:h.get? a=some o)(hc:o.cls=.ref C)(hq:R (.ok (.ret (.ref C))) ⟨h,g,d,t,os⟩):
  codeAny (model prog w) A (.call (.builtin "getset_descriptor.__get__") ⟨[.builtin "object.__class__",.ref a,.ref C],[]⟩) R ⟨h,g,d,t,os⟩:=by
 have hT5:(⟨h,g,d,t,os⟩:If).TypeIs (.builtin "object.__class__") "getset_descriptor":=PL
 have f8:=W.looks_mroIn (M:=model prog w) X G.mo
 have hcB:(".".intercalate ("object.__class__".cutAt '.').dropLast)="object":=F.owner_object_class
 refine OJ RQ.plain F.entry_gs_get (RQ.check _ _ _ _ _ _ _ _ hT5 (F.args_gs_get _ _ _) ?_)
 repeat (any_goals (first|assumption|(with_reducible refine MN hx ?_;rw[hc])|(rw[hcB];with_reducible refine f8.at ?_)|wp_step))
 refine⟨Qf _ (by decide+kernel),codeAny_builtin F.entry_object_class ?_⟩
 repeat (any_goals (first|assumption|(with_reducible refine MN hx ?_;rw[hc])|wp_step))
def zA {tk:Tok}{Q:Fin->If->Prop}(X:K.In h)(G:cu K C)(hx:h.get? a=some o)(hc:o.cls=.ref C)(hq:Q (.done (.ret (.ref C))) ⟨h,g,d,t,os⟩):
  wpAny (model prog w) A (PZ.«object.__getattribute__» ⟨[.ref a,.str "__class__" tk],[]⟩) Q E ⟨h,g,d,t,os⟩:=by
 have hT5:(⟨h,g,d,t,os⟩:If).TypeIs (.builtin "object.__class__") "getset_descriptor":=PL
 have f4:=Qc (M:=model prog w) X G.cl
 have f5:=PL
 have f6:=RQ.lookup
 have f7:=F.slot_gs_set.lookup
 repeat (any_goals (first|assumption|(with_reducible refine MN hx ?_;rw[hc])|with_reducible refine f4.at ?_ |wp_step))
 refine Di X G hx hc ?_
 repeat (any_goals (first|assumption|wp_step))
def rE {M:SK}{nameV:tx}{Q:Unit->If->Prop}(X:K.In h)(G:cu K C)(hx:h.get? a=some o)(hc:o.cls=.ref C)(hq:Q () ⟨h,g,d,t,os⟩):wpAny M A (checkBuiltinCall "BaseException.__getattribute__" ⟨[.ref a,nameV],[]⟩) Q E ⟨h,g,d,t,os⟩:=by
 have hk:builtinKind "BaseException.__getattribute__"=some .slot:=by decide+kernel
 have hsplit:splitId "BaseException.__getattribute__"=some ("BaseException","__getattribute__"):=by decide+kernel
 have f8:=W.looks_mroIn (M:=M) X G.mb
 have ha:=F.args_bexc_ga (.ref a) nameV
 simp only[checkBuiltinCall,hk,hsplit]
 refine gV ?_
 ·unfold isInstance
  repeat (first|(with_reducible refine MN hx ?_;rw[hc])|with_reducible refine f8.at ?_ |wp_step)
  exact hq
def Az {tk:Tok}{R:Qs->If->Prop}(X:K.In h)(G:cu K C)(hx:h.get? a=some o)(hc:o.cls=.ref C)(hq:R (.ok (.ret (.ref C))) ⟨h,g,d,t,os⟩):
  codeAny (model prog w) A (.call (.builtin "BaseException.__getattribute__") ⟨[.ref a,.str "__class__" tk],[]⟩) R ⟨h,g,d,t,os⟩:=
 OJ OE.ga.plain Ue (rE X G hx hc (zA X G hx hc hq))
def Jk {tk:Tok}{Q:tx->If->Prop}(X:K.In h)(G:cu K C)(hx:h.get? a=some o)(hc:o.cls=.ref C)(hq:Q (.ref C) ⟨h,g,d,t,os⟩):
  wpAny (model prog w) A (getAttrBy (.ref a) (.str "__class__" tk) false) Q E ⟨h,g,d,t,os⟩:=by
 have f3:=OE.ga.bind (.ref a)
 have f1:=Qc (M:=model prog w) X G.ga
 have f2:=Qc (M:=model prog w) X G.na
 have hx2:(NE "BaseException.__getattribute__"==NE "object.__getattribute__")=false:=by decide+kernel
 have hx1:(onTheHeap (Mn C)&&NE "BaseException.__getattribute__"==NE "object.__getattribute__")=false:=by rw[hx2];rfl
 repeat (any_goals (first|assumption|(with_reducible refine MN hx ?_;rw[hc])|with_reducible refine f1.at ?_ |with_reducible refine f2.at ?_ |wp_step))
 refine Az X G hx hc ?_
 repeat (any_goals (first|assumption|wp_step))
def Bo {Q:Option tx->If->Prop}(X:K.In h)(G:cu K C)(hx:h.get? a=some o)(hc:o.cls=.ref C)(hq:Q (some (.ref C)) ⟨h,g,d,t+1,os⟩):
  wpAny (model prog w) A (getAttr? (.ref a) "__class__") Q E ⟨h,g,d,t,os⟩:=by
 unfold getAttr? getAttrBy?
 repeat (any_goals (first|assumption|with_reducible apply Jk X G hx hc|wp_step))
def BY {a C:Addr}(hC:bT K C)(G:cu K C):W.KitX K (.ref a) (.ref C) (fun h=>∃o,h.get? a=some o/\o.cls=.ref C)where
 ty:=fun M h X ⟨o,hx,hc⟩=>AN hx hc
 it:=fun M h X _=>by
  obtain⟨bm,N,nm,qn,bs,hdct,sn,sub,ab,col,dd,k0,k1,k2,k3,k5,mN,oC,_⟩:=fQ X hC
  intro A' Q' E' s' k q
  unfold isType loadHead
  exact gV (Qq (k _ _ oC) (LY q))
 ne:=fun h tp dd its n sl X htp=>by
  obtain⟨bm,N,nm,qn,bs,hdct,sn,sub,ab,col,dd,k0,k1,k2,k3,k5,mN,oC,_⟩:=fQ X hC
  refine Bool.eq_false_iff.mpr fun q=>?_
  have e:C=tp:=Value.ref.inj (beq_iff_eq.mp q)
  subst e
  rw[oC]at htp
  have z:Rb "type"=Rb "tuple":=congrArg Obj.cls (LW htp)
  exact absurd z (by decide)
 ca:=fun{prog w A E Q s} X ⟨o,hx,hc⟩ k=>by
  obtain⟨h,g,d,t,os⟩:=s
  exact Bo X G hx hc k
end
section
variable {X:Cx}
def fD (K:cW):List V->Hp->VK->Prop:=fun xs H Q=>∃a C dd b c cv,xs=[.ref a,c]/\H a=some (gP C dd a)/\bT K C/\cu K C/\aS c cv/\(∀u,aS c u->u=cv)/\Gt K (.ref C) cv=some b/\Q (.bl b) H
def fT:bX X (.builtin "isinstance") (fD X.K):=fun pins s σ H xs us Q I r h=>by
 obtain⟨a,C,dd,b,c,cv,rfl,ha,hC,G,rc,un,hk,q⟩:=h
 obtain⟨u,w',rfl,r1,r2⟩:=mI r
 cases un _ r2
 cases (show u=Mn a from r1)
 obtain⟨o,vs,ho,hc,_,_⟩:=sf (P:=X.prog) (w:=X.w) (I.hok a _ ha)
 exact NZ (BY hC G) I.kIn ⟨o,ho,hc⟩ hk (fun z=>nomatch z) fun tk=>⟨.bl _,H,I.tok tk,rfl,q⟩
def iJ {x:Str}{D:Addr}{pos:Pos}(hm:X.mg x=some (.ref D))(hg:Gl X x:=by rfl)(hd:(x==("__debug__":Str))=false:=by decide):QE X (.Name x pos) (tC (.ref D)):=⟨sB hg hm rfl hd⟩
end
end L2
namespace HT
open PySem PyProof.Rows
section
variable {prog:Ms}{w:MG}{A:Mw}{E:tx->If->Prop}{s:If}
def jU {t sl:Addr}{items:Array tx}{vl vu:tx}{lo hi:Option Int}{Q:tx->If->Prop}(ht:Ut s.heap t items)(hs:s.heap.IsSliceOf sl vl vu .none)(pl:Rc vl lo)(pu:Rc vu hi)
  (hw:sIx items.size 0 lo=0/\sIx items.size items.size hi=items.size)(h:Q (.ref t) s):wpAny (model prog w) A (getItem (.ref t) (.ref sl)) Q E s:=by
 obtain⟨os,hos,hcs,hds⟩:=id hs
 have hTs:s.TypeIs (.ref sl) "slice":=⟨os,hos,hcs⟩
 unfold getItem
 try with_reducible refine Nn ?_
 first|refine gV (LY ?_)|skip
 refine gV (TQ ht.typeIs (by decide) ?_)
 refine gV (Pu (name:=Ou "__getitem__") ht.typeIs MO
  (OG MO ht.typeIs Ts ?_ (TB _ _)))
 show wpAny _ _ (PQ (.ref t)>>=_) _ _ s
 refine gV (tupleItemsOf_ ht ?_)
 refine gV (Ra hTs ?_)
 rw[if_pos (by decide)]
 refine gV (iB hs pl pu ?_)
 have hyes:(((sIx items.size 0 lo:Nat):Int)==0&&(1:Int)==1&&(sIx items.size items.size hi- sIx items.size 0 lo)==items.size)=true:=by
  rw[hw.1,hw.2];simp
 show wpAny _ _ (if (((sIx items.size 0 lo:Nat):Int)==0&&(1:Int)==1&&(sIx items.size items.size hi- sIx items.size 0 lo)==items.size)=true then _ else _) _ _ s
 rw[if_pos hyes]
 have hte:s.TypeIs (.ref t) "tuple":=ht.typeIs
 unfold Up
 repeat (first|exact⟨_,rfl,LY h⟩|(with_reducible refine Ra hte ?_)|wp_step)
end
section
variable {prog:Ms}{w:MG}{A:Mw}{E:tx->If->Prop}{s:If}
def yc {t b:Addr}{ws:List tx}{Q:tx->If->Prop}(ht:Ut s.heap t #[])(hb:Ut s.heap b ws.toArray)(h1:Q (.ref b) s):wpAny (model prog w) A (binaryOp .Add (.ref t) (.ref b)) Q E s:=by
 obtain⟨⟨cls,dd,data,sl⟩,ho,hc,n,hd⟩:=id ht
 obtain⟨⟨cls2,dd2,data2,sl2⟩,ho2,hc2,n2,hd2⟩:=id hb
 simp only at hc hd hc2 hd2
 subst hc hd hc2 hd2
 exact SC ⟨_,ho,rfl⟩ ⟨_,ho2,rfl⟩ Rm Se OU OR (OK _ _)
  (tuple_addW0 t b #[] ws.toArray n n2 dd dd2 sl sl2 (by simp)) ⟨ho,ho2,h1⟩
end
end HT
namespace L2
open PySem PySem.Spec PyProof.Rows
def ar.rfl' {H:Hp}:ar H H:=fun _ _ e=>e
def uM {xs:List V}{lo hi:Option Int}(h:HT.sIx xs.length 0 lo=0/\HT.sIx xs.length xs.length hi=xs.length):fv xs lo hi=xs:=by
 unfold fv
 rw[h.1,h.2,PN,RS,Ox]
section
variable {X:Cx}
def zV:V->Option Int->Option Int->Hp->VK->Prop:=fun x lo hi H Q=>∃a xs,x=.ref a/\H a=some (.tup xs)/\∀p H',ar H H'->H' p=some (.tup (fv xs lo hi))->Q (.ref p) H'
def AM:SlR X zV:=by
 intro pins s σ H x v vl vu lo hi sl Q I rx hs pl pu h
 obtain⟨a,xs,rfl,hx,q⟩:=h
 have hq:SqT X.K H a xs:=.inl (.inl hx)
 by_cases hw:HT.sIx xs.length 0 lo=0/\HT.sIx xs.length xs.length hi=xs.length
 ·cases rx
  obtain⟨its,r,ht,hz⟩:=I.tuple hq
  have hlen:its.toArray.size=xs.length:=by rw[Me];exact r.length.symm
  refine⟨"tuple",_,MO.lookup,ht.typeIs,?_⟩
  refine HT.jU ht hs pl pu (by rw[hlen];exact hw) ?_
  exact⟨.ref a,H,I,rfl,q a H ar.rfl' (by rw[uM hw];exact hx)⟩
 ·exact EJ pins s σ H _ v vl vu lo hi sl Q I rx hs pl pu ⟨a,xs,rfl,hq,hw,fun p hp=>q p _ (ar.upd hp) (ag ..)⟩
def Aj:R2:=fun x y H Q=>∃a b xs ys,x=.ref a/\y=.ref b/\H a=some (.tup xs)/\H b=some (.tup ys)/\xs.length+ys.length<=sizeLine/\∀p H',ar H H'->H' p=some (.tup (xs++ys))->Q (.ref p) H'
def Bb:OpR X (binaryOp .Add) Aj:=by
 intro pins s σ H x y v u Q I rx ry h
 obtain⟨a,b,xs,ys,rfl,rfl,ha,hb,hz,q⟩:=h
 by_cases hx:xs=[]
 ·subst hx
  cases rx
  cases ry
  obtain⟨its,r1,p1,_⟩:=I.tuple (.inl (.inl ha))
  obtain⟨its2,r2,p2,_⟩:=I.tuple (.inl (.inl hb))
  cases r1
  exact HT.yc p1 p2 ⟨.ref b,H,I,rfl,q b H ar.rfl' hb⟩
 ·refine Bq pins s σ H _ _ v u Q I rx ry ⟨a,b,xs,ys,rfl,rfl,.inl (.inl ha),.inl (.inl hb),hx,hz,fun e=>?_,fun _ p hp=>q p _ (ar.upd hp) (ag ..)⟩
  subst e
  exact q a H ar.rfl' (by rw[MU];exact ha)
def bM (K:cW):R2:=fun x y H Q=>match x,y with
 |.int i,.int j=>Q (.int (i+j)) H
 |.str i,.str j=>i.length+j.length<=sizeLine/\Q (.str (i++j)) H
 |.ref a,.ref b=>Cj (.ref a) (.ref b) H Q\/Aj (.ref a) (.ref b) H Q
 |_,_=>False
def bW:OpR X (binaryOp .Add) (bM X.K):=(Cf.or (uC.or (FG.or Bb))).imp fun x y H Q q=>by
 unfold bM at q
 split at q
 ·exact .inl ⟨_,_,rfl,rfl,q⟩
 ·exact .inr (.inl ⟨_,_,rfl,rfl,q.1,q.2⟩)
 ·exact .inr (.inr q)
 ·exact q.elim
def BN (K:cW):V->Option Int->Option Int->Hp->VK->Prop:=fun x lo hi H Q=>CF K x lo hi H Q\/zV x lo hi H Q
def Ek:SlR X (BN X.K):=AK.or AM
def vB (t:TE):TE:=fun σ H Q=>t σ H fun x H'=>match x with
 |.int i=>i.natAbs.log2<1920/\Q (.str (toString i)) H'
 |.str z=>z.length<=sizeLine/\Q (.str z) H'
 |_=>False
def vg {e:Expr}{te:TE}{pos:Pos}(h:QE X e te):QE X (.FormattedValue e (-1) none pos) (vB te):=⟨fun pins s σ H Q I q=>by
 refine FormattedValue_plain (thn (h.out pins s σ H _ I q) fun v s1 ⟨x,H1,I1,r1,q1⟩=>?_)
 cases x<;>first|exact q1.elim|skip
 ·rename_i i
  obtain⟨t,rfl⟩:=(show ∃t,v=PX i t from r1)
  exact formatField_int_small q1.1 ⟨.str _,H1,I1.tok _,⟨_,rfl⟩,q1.2⟩
 ·rename_i z
  obtain⟨t,rfl⟩:=(show ∃t,v=On z t from r1)
  exact formatField_str (fun t' tk=>⟨.str _,H1,I1.tok _,⟨_,rfl⟩,q1.2⟩) q1.1⟩
def mJ:List TE->Str->TE
 |[],acc=>fun σ H Q=>acc.length<=sizeLine/\Q (.str acc) H
 |t::r,acc=>fun σ H Q=>t σ H fun x H'=>match x with
  |.str y=>(acc++y).length<=sizeLine/\mJ r (acc++y) σ H' Q
  |_=>False
inductive QJ (X:Cx):List Expr->List TE->Prop where
 |nil:QJ X [] []
 |cons {e:Expr} {t:TE} {es:List Expr} {ts:List TE}:QE X e t->QJ X es ts->QJ X (e::es) (t::ts)
def Ik {es:List Expr}{ts:List TE}(j:QJ X es ts):∀{pins:List (Addr×Obj)}{s:If}{σ:St}{H:Hp}{Q:VK}{acc:Str},Inv X pins σ H s->mJ ts acc σ H Q->wpAny (model X.prog X.w) X.A (joinParts acc (evalEach es X.env)) (EP X pins σ Q) X.xe s:=by
 induction j with
 |nil=>intro pins s σ H Q acc I q;exact joinParts_nil ⟨.str _,H,I.tok _,⟨_,rfl⟩,q.2⟩ q.1
 |cons h _ ih=>
  intro pins s σ H Q acc I q
  refine joinParts_cons (thn (h.out pins s σ H _ I q) fun v s1 ⟨x,H1,I1,r1,q1⟩=>?_)
  cases x<;>first|exact q1.elim|skip
  rename_i z
  obtain⟨t,rfl⟩:=(show ∃t,v=On z t from r1)
  exact⟨q1.1,ih I1 q1.2⟩
def vH {v1 v2:Expr}{cB:List Expr}{ts:List TE}{pos:Pos}(j:QJ X (v1::v2::cB) ts):QE X (.JoinedStr (v1::v2::cB) pos) (mJ ts Nl):=⟨fun pins s σ H Q I q=>JoinedStr_many (Ik j I q)⟩
end
def pe:bootBuiltins "ValueError"=some (.type "ValueError"):=by decide+kernel
def bV {K:cW}{C D:Addr}{b:Bool}(h:ML K C (.ref D)=some b):cw K C D=some b:=by
 unfold ML W.clsIn at h
 unfold cw
 split at h
 ·rename_i cd sl e
  rw[e]
  dsimp only[Option.bind]at h⊢
  split at h
  ·cases h
  ·exact h
 ·cases h
def Fun.okN {P:Ms}{w:MG}{K:cW}{mg:Str->Option tx}{base:Heap}{CX:CXT}{x qual:Str}{st:Stmt}{f:Addr}{fd:Mc}{N ps:List Str}{k:Nat}{sp:Sp}(F:Fun K x qual st f fd)(S:aD N ps (am st))(len:∀vs H Q E,sp vs H Q E->vs.length=ps.length)
  (hbody:∀(cdv:tx)(A:Mw)(outer:List Env)(s:If)(H:Hp)(vs:List V)(Q:VK)(E:XK),aX k (A.deeper (envOfC qual (am st) s.heap.objs.size f cdv))->sp vs H Q E->
   ∃t,PSs (cq CX P w K mg base N qual (am st) f cdv A outer s H E).nox (aK st) t/\t {nx:=fun _ H'=>Q .non H',rt:=Q} (start N vs) H):aP P w K mg base CX (k+1) f fd ps sp:=by
 obtain⟨oc,od,kV,doc,pm,an,cdv,ct,osl,rfl,lk,hcd⟩:=F.ex
 refine zT lk hcd S len fun A outer s H vs Q E hr hsp=>?_
 obtain⟨t,h,q⟩:=hbody cdv A outer s H vs Q E hr hsp
 exact⟨t,h.nox,q⟩
section
variable {X:Cx}
def DT:V->Option Int->Option Int->Hp->VK->Prop:=fun x lo hi H Q=>∃z,x=.str z/\z.length<=sizeLine/\Q (.str (Txt.slice z lo hi)) H
def Ct:SlR X DT:=by
 intro pins s σ H x v vl vu lo hi sl Q I rx hs pl pu h
 obtain⟨z,rfl,hz,q⟩:=h
 obtain⟨t,rfl⟩:=(show ∃t,v=On z t from rx)
 refine⟨"str",_,F.slot_str_getitem.lookup,TY _ _ _,?_⟩
 have fin:∀(l u:Option (Int×Tok)),l.map (·.1)=lo->u.map (·.1)=hi->s.heap.IsSlice sl l u none->wpAny (model X.prog X.w) X.A (getItem (.str z t) (.ref sl)) (EP X pins σ Q) X.xe s:=fun l u e1 e2 hs'=>by
  subst e1 e2
  refine wpAny_getItem_str_slice (l:=l) (u:=u) (st:=none) hs' rfl (post_val_or_str ⟨Mv (Txt.slice_le z _ _) hz,fun t' k=>⟨.str _,H,I.tok k,⟨_,rfl⟩,q⟩⟩)
 obtain⟨os,hos,hcs,hds⟩:=hs
 cases pl with
 |none=>cases pu with
  |none=>exact fin none none rfl rfl ⟨os,hos,hcs,hds⟩
  |int j tj=>exact fin none (some (j,tj)) rfl rfl ⟨os,hos,hcs,hds⟩
 |int i ti=>cases pu with
  |none=>exact fin (some (i,ti)) none rfl rfl ⟨os,hos,hcs,hds⟩
  |int j tj=>exact fin (some (i,ti)) (some (j,tj)) rfl rfl ⟨os,hos,hcs,hds⟩
def kA (K:cW):V->Option Int->Option Int->Hp->VK->Prop:=fun x lo hi H Q=>BN K x lo hi H Q\/DT x lo hi H Q
def ie:SlR X (kA X.K):=Ek.or Ct
def kf:V->Bool
 |.int _=>true
 |.str _=>true
 |_=>false
def ui {A:Mw}{s:If}{x y:V}{u v:tx}(rx:aS x u)(ry:aS y v)(hx:kf x=true)(hy:kf y=true):PySem.SeqAt.EqAt A s u v (decide (x=y)):=by
 cases x<;>first|cases hx|skip
 all_goals (cases y<;>first|cases hy|skip)
 ·obtain⟨t,rfl⟩:=rx;obtain⟨t',rfl⟩:=ry
  have e:=PJ (A:=A) (s:=s) ‹Int› t ‹Int› t'
  rename_i i j
  have e2:decide (V.int i=V.int j)=(i==j):=by rw[kh (f:=V.int) fun _ _ e=>V.int.inj e];rfl
  rw[e2];exact PJ i t j t'
 ·obtain⟨t,rfl⟩:=rx;obtain⟨t',rfl⟩:=ry
  exact Qv _ _ _ _
 ·obtain⟨t,rfl⟩:=rx;obtain⟨t',rfl⟩:=ry
  exact Qu _ _ _ _
 ·obtain⟨t,rfl⟩:=rx;obtain⟨t',rfl⟩:=ry
  rename_i i j
  have e2:decide (V.str i=V.str j)=(i==j):=by
   rw[kh (f:=V.str) fun _ _ e=>V.str.inj e]
   by_cases h:i=j
   ·rw[h];simp
   ·rw[decide_eq_false h];exact(beq_eq_false_iff_ne.mpr h).symm
  rw[e2];exact Tc i t j t'
def vO {xs ys:List V}:decide (xs=ys)=((Oz (min xs.length ys.length)).all (fun j=>decide (xs[j]?=ys[j]?))&&xs.length==ys.length):=by
 by_cases h:xs=ys
 ·subst h;simp
 ·rw[decide_eq_false h]
  by_cases hl:xs.length=ys.length
  ·rw[hl,Nat.min_self,beq_self_eq_true,Bool.and_true]
   symm
   rw[Sw]
   apply OA
   intro hn
   apply h
   apply Sv fun i=>?_
   by_cases hi:i<ys.length
   ·apply OA
    intro hne
    exact hn ⟨i,PM.mpr hi,by simpa using hne⟩
   ·rw[Nu (by omega),Nu (by omega)]
  ·have:(xs.length==ys.length)=false:=by simpa using hl
   rw[this,PP]
def CB (K:cW):R2:=fun x y H Q=>∃a b xs ys,x=.ref a/\y=.ref b/\SqT K H a xs/\SqT K H b ys/\xs.all kf=true/\ys.all kf=true/\Q (.bl (decide (xs=ys))) H
def Ei (hu:X.A.units<cLine):OpR X (compareOp .Eq) (CB X.K):=by
 intro pins s σ H x y v u Q I rx ry h
 obtain⟨a,b,xs,ys,rfl,rfl,ha,hb,px,py,q⟩:=h
 cases rx
 cases ry
 obtain⟨its,r1,p1,_⟩:=I.tuple ha
 obtain⟨its2,r2,p2,_⟩:=I.tuple hb
 have l1:=r1.length
 have l2:=r2.length
 refine PySem.SeqAt.eq_tupleAt (e:=fun j=>decide (xs[j]?=ys[j]?)) p1 p2 hu (fun j h1 h2=>?_) ?_
 ·have h1:j<its.length:=by simpa using h1
  have h2:j<its2.length:=by simpa using h2
  have e1:xs[j]?=some xs[j]:=LV (by omega)
  have e2:ys[j]?=some ys[j]:=LV (by omega)
  obtain⟨u1,g1,ru1⟩:=r1.get e1
  obtain⟨u2,g2,ru2⟩:=r2.get e2
  have g1':its.toArray[j]=u1:=by
   rw[LV h1]at g1;simpa using LW g1
  have g2':its2.toArray[j]=u2:=by
   rw[LV h2]at g2;simpa using LW g2
  rw[g1',g2',e1,e2]
  have:decide (some xs[j]=some ys[j])=decide (xs[j]=ys[j]):=by simp
  rw[this]
  exact ui ru1 ru2 (Na.mp px _ (Nj _)) (Na.mp py _ (Nj _))
 ·have e:=vO (xs:=xs) (ys:=ys)
  rw[l1,l2]at e
  simp only[Me]
  rw[<-e]
  exact⟨.bl _,H,I,rfl,q⟩
def xm:R2:=fun x y H Q=>match x,y with
 |.str i,.str j=>Q (.bl (!(Qy j i 0 j.length 1).isEmpty)) H
 |_,_=>False
def Lx:OpR X (compareOp .In) xm:=vT.imp fun x y H Q q=>by
 unfold xm at q
 split at q
 ·exact⟨_,_,rfl,rfl,q⟩
 ·exact q.elim
end
section
variable {X:Cx}{pins:List (Addr×Obj)}{σ:St}{H H1:Hp}{s s0:If}{a:Addr}{o:HO}
def Inv.track2 (I0:Inv X pins σ H1 s0)(I:Inv X pins σ H s)(new:s0.heap.objs.size<=a)(hn:H a=none)(ok:bg X.prog X.w (upd H a o) s.heap a o):Inv X pins σ (upd H a o) s:=by
 have ne:∀b u,s0.heap.get? b=some u->b≠a:=fun b u e=>Ml (Mg (Ma e) new)
 have ne0:∀b u,X.s₀.heap.get? b=some u->b≠a:=fun b u e=>Ml (Mg (Ma e) (Mv I0.sz new))
 have nL:X.env.locals≠a:=by
  obtain⟨m,⟨o',_,_,e,_⟩,_⟩:=I0.loc
  exact ne _ _ e
 refine⟨I.ok,I.os,I.bare,⟨I.base.keep,I.base.slot,fun b u e n hx=>?_,I.base.there,fun b xs e=>?_,fun b u v e=>?_,fun b ps e=>?_⟩,I.loc,I.cell,?_,fun x c e=>?_,fun p hp=>?_,fun b u e=>?_,I.len⟩
 ·rw[ao (ne0 b u e)];exact I.base.free b u e n hx
 ·have:=I.base.tups b xs e
  rw[ao (av this hn)];exact this
 ·have:=I.base.frzs b u v e
  rw[ao (av this hn)];exact this
 ·obtain⟨more,this⟩:=I.base.tbls b ps e
  exact⟨more,by rw[ao (av this hn)];exact this⟩
 ·rw[ao nL];exact I.free
 ·obtain⟨v,o',e',_⟩:=I0.cell x c e
  rw[ao (ne _ _ e')];exact I.freeC x c e
 ·obtain⟨h1,h2,h3⟩:=I.pin p hp
  exact⟨h1,by rw[ao (ne _ _ (I0.pin p hp).1)];exact h2,h3⟩
 ·by_cases hb:b=a
  ·subst hb
   rw[ag]at e;cases e
   exact ok
  ·rw[ao hb]at e
   exact(I.hok b u e).stay (fun c v _ q=>q) (fun c q=>by
    have:c≠a:=av q hn
    rw[ao this];exact q) fun c xs q=>by
    have:c≠a:=av q hn
    rw[ao this];exact q
end
inductive MtI (C:Addr)(m:Str)(x:V)(H1:Hp)(P:Prop):Prop|mk (a dx:Addr)(fs:List (Str×V))(_:x=.ref a)(_:H1 a=some (.ins C dx fs))(_:fs.lookup m=none)(_:P)
def eC (C:Addr)(m:Str)(sp:Sp)(E:St->XK)(ta:TE)(t:TA):TE:=fun σ H Q=>ta σ H fun x H1=>MtI C m x H1 (t σ H1 fun vs H2=>sp (x::vs) H2 Q (E σ))
def gN (C:Addr)(sp:Sp)(E:St->XK)(t:TA):TE:=fun σ H Q=>t σ H fun vs H1=>∀x dx,H1 x=none->H1 dx=none->dx≠x->
 sp (.ref x::vs) (upd (upd H1 dx (.own x)) x (.ins C dx [])) (fun v H2=>v=.non/\Q (.ref x) H2) (E σ)
section
variable {X:Cx}{CX:CXT}{k:Nat}{f C:Addr}{fd:Mc}{ps:List Str}{sp:Sp}{E:St->XK}{x m fl:Str}{p pos apos pos':Pos}{e o value:Expr}{es:List Expr}{ta tv to:TE}{t:TA}
def dY (he:QE X e ta)(hb:attributeBase e fl X.env (eval e X.env)=eval e X.env:=by rfl):QE X (.Attribute e fl pos) (eK X.K ta fl):=⟨Cw he.out hb⟩
def fK (ho:QE X o to)(hv:QE X value tv)(hs:swapsWith value (some (.Attribute o fl pos')) pos.line X.env=pure false:=by rfl):QS X (.Assign [.Attribute o fl pos'] value pos) (iM X.K to tv fl):=⟨FE ho.out hv.out hs⟩
def fS {pl:Sem Bool}(he:QE X o ta)(c:Cls X.K C)(hm:iL X.K C m f)(F:aP X.prog X.w X.K X.mg X.base CX k f fd ps sp)(hr:aX k X.A)(hb:bK X.K fd ps [])(hx:eZ CX X E)(ha:QA X (e::es) t)
  (hs:bv (e::es)=true:=by rfl)
  (ht:eval (.Call (.Attribute o m apos) (e::es) [] pos) X.env=(do
   let ov<-eval o X.env
   standAt apos.atName
   let (f,first)<-holding [ov] (getMethod ov m pl)
   callWith pos f first (backTo pos (starEach (e::es) X.env)) (backToKw pos (keywordEach [] X.env))):=by rfl):
  QE X (.Call (.Attribute o m apos) (e::es) [] pos) (eC C m sp E ta t):=⟨fun pins s σ H Q I h=>by
 have h':(cf e&&bv es)=true:=hs
 refine PD (pl:=pl) (thn (he.out pins s σ H _ I h) fun u s1 ⟨x,H1,I1,rx,a,dx,fs,ex,ea,l,q⟩=>?_) ht
 subst ex
 obtain rfl:u=Mn a:=rx
 refine jQ I1 ea c hm l ?_
 refine PF (first:=[.ref a]) (h₀:=X.base) I.ok.mod.kin hm.kp (thn (ha.out pos pins s1 σ H1 _ I1 q) fun us s2 ⟨vs,H2,I2,r,q2⟩=>⟨I2.kIn,?_⟩)
  (be (LX.mp h').1 es X.env) (ck (LX.mp h').2)
 exact kP (us:=.ref a::us) (vs:=.ref a::vs) F hr hb hx I2 (.cons rfl r) q2⟩
def xK {pl:Sem Bool}(he:QE X o ta)(c:Cls X.K C)(hm:iL X.K C m f)(F:aP X.prog X.w X.K X.mg X.base CX k f fd ps sp)(hr:aX k X.A)(hb:bK X.K fd ps [])(hx:eZ CX X E)
  (ht:eval (.Call (.Attribute o m apos) [] [] pos) X.env=(do
   let ov<-eval o X.env
   standAt apos.atName
   let (f,first)<-holding [ov] (getMethod ov m pl)
   callWith pos f first (backTo pos (starEach [] X.env)) (backToKw pos (keywordEach [] X.env))):=by rfl):
  QE X (.Call (.Attribute o m apos) [] [] pos) (eC C m sp E ta ak):=⟨fun pins s σ H Q I h=>by
 refine PD (pl:=pl) (thn (he.out pins s σ H _ I h) fun u s1 ⟨x,H1,I1,rx,a,dx,fs,ex,ea,l,q⟩=>?_) ht
 subst ex
 obtain rfl:u=Mn a:=rx
 refine jQ I1 ea c hm l ?_
 exact RL (first:=[.ref a]) I1.kIn hm.kp (kP (us:=[.ref a]) (vs:=[.ref a]) F hr hb hx I1 (.cons rfl .nil) q)⟩
def oU {pins:List (Addr×Obj)}{σ:St}{H:Hp}{s:If}{Q:VK}{us:List tx}{vs:List V}(M:Mk X.K C f)(F:aP X.prog X.w X.K X.mg X.base CX k f fd ps sp)(hr:aX (k+1) X.A)(hb:bK X.K fd ps [])
  (hx:eZ CX X E)(I:Inv X pins σ H s)(r:ba vs us)
  (h:∀x dx,H x=none->H dx=none->dx≠x->sp (.ref x::vs) (upd (upd H dx (.own x)) x (.ins C dx [])) (fun v H2=>v=.non/\Q (.ref x) H2) (E σ)):
  wpAny (model X.prog X.w) X.A (call (.ref C) us) (EP X pins σ Q) X.xe s:=by
 have hq:=h (s.heap.objs.size+1) s.heap.objs.size (I.hok.fresh (NQ _)) (I.hok.fresh (pv _)) (Ml (Ph _))
 have I2:=Inv.made (C:=C) I
 have r2:ba (V.ref (s.heap.objs.size+1)::vs) (Mn (s.heap.objs.size+1)::us):=.cons rfl r
 have hl:(Mn (s.heap.objs.size+1)::us).length=ps.length:=by
  have e:=r2.length
  rw[F.len _ _ _ _ hq]at e
  exact e.symm
 have hb':=hb _ (Mn (s.heap.objs.size+1)::us) I2.kIn (by rw[MU];exact hl)
 rw[MU]at hb'
 refine ON (xM (f:=f) I.kIn M.makes M.init (beq_iff_eq.mp M.fn) (Nw (F.run _ X.stack _ _ ⟨Mn (s.heap.objs.size+1)::us,[]⟩ (Mn (s.heap.objs.size+1)::us) _ _ (E σ) (hr.make C us [])
  (I2.env0.make C us []) hb' r2 hq) fun r s' hq'=>?_))
 cases r with
 |error e=>exact hx pins σ _ _ e s' I2 hq'
 |ok fl=>
  cases fl with
  |ret u=>
   obtain⟨v,H',I3,rv,ev,q3⟩:=I2.after hq'
   subst ev
   exact⟨rv,⟨V.ref (s.heap.objs.size+1),H',I3,rfl,q3⟩⟩
  |next=>exact MB hq'
  |brk=>exact MB hq'
  |cont=>exact MB hq'
def jg (M:Mk X.K C f)(F:aP X.prog X.w X.K X.mg X.base CX k f fd ps sp)(hr:aX (k+1) X.A)(hm:X.mg x=some (.ref C))(hb:bK X.K fd ps [])(hx:eZ CX X E)(ha:QA X (e::es) t)
  (hg:Gl X x:=by rfl)(hdb:(x==("__debug__":Str))=false:=by decide)(hs:bv (e::es)=true:=by rfl):QE X (.Call (.Name x p) (e::es) [] pos) (gN C sp E t):=⟨fun pins s σ H Q I h=>by
 have h':(cf e&&bv es)=true:=hs
 refine MV (gg I hg hm ?_ hdb)
 refine PF (h₀:=X.base) I.ok.mod.kin M.kp (thn (ha.out pos pins s σ H _ I h) fun us s1 ⟨vs,H1,I1,r,q⟩=>⟨I1.kIn,?_⟩) (be (LX.mp h').1 es X.env) (ck (LX.mp h').2)
 exact oU M F hr hb hx I1 r q⟩
def zj (M:Mk X.K C f)(F:aP X.prog X.w X.K X.mg X.base CX k f fd ps sp)(hr:aX (k+1) X.A)(hm:X.mg x=some (.ref C))(hb:bK X.K fd ps [])(hx:eZ CX X E)
  (hg:Gl X x:=by rfl)(hdb:(x==("__debug__":Str))=false:=by decide):QE X (.Call (.Name x p) [] [] pos) (gN C sp E ak):=⟨fun pins s σ H Q I h=>by
 refine MV (gg I hg hm ?_ hdb)
 exact RL I.kIn M.kp (oU (us:=[]) M F hr hb hx I .nil h)⟩
end
mutual
inductive dR (K:cW)(H:Hp):V->SI->Prop
 |non:dR K H .non .none
 |bl (b):dR K H (.bl b) (.bool b)
 |int (i):dR K H (.int i) (.int i)
 |str (z):dR K H (.str z) (.str z)
 |lst {a xs ds}:SqL K H a xs->DatVs K H xs ds->dR K H (.ref a) (.list ds)
 |tup {a xs ds}:SqT K H a xs->DatVs K H xs ds->dR K H (.ref a) (.tuple ds)
inductive DatVs (K:cW)(H:Hp):List V->List SI->Prop
 |nil:DatVs K H [] []
 |cons {x xs d ds}:dR K H x d->DatVs K H xs ds->DatVs K H (x::xs) (d::ds)
end
section
variable {X:Cx}
mutual
theorem cH {pins:List (Addr×Obj)}{σ:St}{H:Hp}{s:If}(I:Inv X pins σ H s):∀{x:V}{d:SI},dR X.K H x d->∀{v:tx},aS x v->∃as,Reads s.heap v d as
 |_,_,.non,_,r=>by cases r;exact⟨_,.none⟩
 |_,_,.bl b,_,r=>by cases r;exact⟨_,.bool b⟩
 |_,_,.int i,_,r=>by obtain⟨t,rfl⟩:=r;exact⟨_,.int i t⟩
 |_,_,.str z,_,r=>by obtain⟨t,rfl⟩:=r;exact⟨_,.str z t⟩
 |_,_,.lst h hs,_,r=>by
  cases r
  obtain⟨its,r1,⟨o,n,h1,h2,_,h3⟩,_⟩:=I.list h
  obtain⟨as,ra⟩:=datVs_reads I hs r1
  exact⟨_,.list h1 h2 h3 (by simpa using ra)⟩
 |_,_,.tup h hs,_,r=>by
  cases r
  obtain⟨its,r1,⟨o,h1,h2,n,h3⟩,_⟩:=I.tuple h
  obtain⟨as,ra⟩:=datVs_reads I hs r1
  exact⟨_,.tuple h1 h2 h3 (by simpa using ra)⟩
theorem datVs_reads {pins:List (Addr×Obj)}{σ:St}{H:Hp}{s:If}(I:Inv X pins σ H s):∀{xs:List V}{ds:List SI},DatVs X.K H xs ds->∀{vs:List tx},ba xs vs->∃as,ReadsAll s.heap vs ds as
 |_,_,.nil,_,r=>by cases r;exact⟨_,.nil⟩
 |_,_,.cons h hs,_,r=>by
  cases r with
  |cons r1 r2=>
   obtain⟨as,a⟩:=cH I h r1
   obtain⟨bs,b⟩:=datVs_reads I hs r2
   exact⟨_,.cons a b⟩
end
def uZ (K:cW):R2:=fun x y H Q=>∃d e,dR K H x d/\dR K H y e/\d.canLay0=true/\e.canLay0=true/\d.depth<=150/\Q (.bl (d.eqv e)) H
def xC (K:cW):R2:=fun x y H Q=>∃d e,dR K H x d/\dR K H y e/\d.canLay0=true/\e.canLay0=true/\d.depth<=150/\Q (.bl (!d.eqv e)) H
def BC (hu:X.A.units+150<cLine):OpR X (compareOp .Eq) (uZ X.K):=by
 intro pins s σ H x y v u Q I rx ry h
 obtain⟨d,e,hd,he,cd,ce,dp,q⟩:=h
 obtain⟨as,ra⟩:=cH I hd rx
 obtain⟨bs,rb⟩:=cH I he ry
 exact PySem.SeqAt.compareEq_reads ra rb cd ce (by have:=Tu d.depth e.depth;omega) ⟨.bl _,H,I,rfl,q⟩
def EC (hu:X.A.units+150<cLine):OpR X (compareOp .NotEq) (xC X.K):=by
 intro pins s σ H x y v u Q I rx ry h
 obtain⟨d,e,hd,he,cd,ce,dp,q⟩:=h
 obtain⟨as,ra⟩:=cH I hd rx
 obtain⟨bs,rb⟩:=cH I he ry
 exact PySem.SeqAt.compareNe_reads ra rb cd ce (by have:=Tu d.depth e.depth;omega) ⟨.bl _,H,I,rfl,q⟩
def aX.units150 {k:Nat}{A:Mw}(r:aX k A):A.units+150<cLine:=by have:=r.un;omega
def iw (K:cW):R2:=fun x y H Q=>match x,y with
 |.ref a,y=>xC K (.ref a) y H Q
 |x,.ref b=>xC K x (.ref b) H Q
 |x,y=>mNe x y H Q
def ki (hu:X.A.units+150<cLine):OpR X (compareOp .NotEq) (iw X.K):=((EC hu).or oNe).imp fun x y H Q q=>by
 unfold iw at q
 split at q
 ·exact .inl q
 ·exact .inl q
 ·exact .inr q
def pA:V->List V->Hp->VK->Prop:=fun x vs H Q=>match x,vs with|.int i,[]=>Q (.int (MH i)) H|_,_=>False
def sg:MtR X "int.bit_length" pA:=by
 intro pins s σ H x xs v us Q I rx rs q
 unfold pA at q
 split at q
 ·obtain⟨t,rfl⟩:=rx
  cases rs
  exact call_int_bit_length ⟨.int _,H,I.tok _,⟨_,rfl⟩,q⟩
 ·exact q.elim
def yG:List V->Hp->VK->Prop:=fun xs H Q=>match xs with|[.int i,.int j]=>Q (.int (if j<i then j else i)) H|_=>False
def Lf (hc:X.calm=true):bX X (.builtin "min") yG:=fun pins s σ H xs us Q I r q=>by
 unfold yG at q
 split at q
 ·exact wt hc pins s σ H _ us Q I r ⟨_,_,rfl,q⟩
 ·exact q.elim
variable {o:Expr}{to:TE}{name:Str}{apos cpos:Pos}{T id:String}{rm:V->List V->Hp->VK->Prop}
def Am (pa:QZ T)(slot:Slot T name id)(hty:typeOf (.builtin id)=pure (.type "method_descriptor"))(hm:MtR X id rm)(ho:QE X o to)
 (hbase:attributeBase o name X.env (eval o X.env)=eval o X.env:=by rfl)(hline:(apos.endLine==cpos.line)=true:=by rfl):QE X (.Call (.Attribute o name apos) [] [] cpos) (uJ X.K T rm to):=⟨Dm pa slot hty hm ho.out hbase hline⟩
end
def vD:(("":String):Str)=Nl:=by decide
theorem zM:∀xs:List Str,Str.join "" xs=xs.foldr (· ++ ·) Nl
 |[]=>rfl
 |[x]=>(Tb x).symm
 |x::y::r=>by
  show x++(("":String):Str)++Str.join "" (y::r)=x++(y::r).foldr (· ++ ·) Nl
  rw[zM (y::r),vD,Tb]
def nC (xs:List Str):Txt.join "" xs=xs.foldr (·++·) Nl:=(SW (join_plain_closes "" xs)).trans (zM xs)
theorem qS:∀xs:List Str,(xs.foldr (· ++ ·) Nl).length=(xs.map (·.length)).sum
 |[]=>by decide
 |x::r=>by
  show(x++r.foldr (· ++ ·) Nl).length=_
  rw[NK,qS r,My,Od]
def ax {n:Nat}(h:n<=1000000):n<=sizeLine:=by rw[NL];omega
def uU (k:Nat):((2^k:Nat):Int)=(2:Int)^k:=by simp
def vd {K:cW}{H:Hp}{Q:VK}{p:Addr}{xs:List V}{i:Int}(hp:H p=some (.lst xs))(h0:0<=i)(h1:i<xs.length)(q:∀v∈xs,Q v H):rIx K (.ref p) (.int i) H Q:=by
 refine .inl ⟨p,xs,i,_,rfl,rfl,SqL.of hp,qN h0 h1,q _ ?_⟩
 have h2:i.toNat<xs.length:=by omega
 rw[Mi,LV h2];exact Nj h2
def wG {α:Type}{xs:List α}{i:Int}(h0:0<=i)(h1:i<xs.length):∃c,atI xs i=some c:=by
 unfold atI ixN
 rw[if_pos h0,if_pos h1]
 have:i.toNat<xs.length:=by omega
 exact⟨xs[i.toNat],by show xs[i.toNat]?=_;rw[LV this]⟩
theorem lS:∀(xs:List Str),(∀x∈xs,x.length=1)->(xs.map (·.length)).sum=xs.length
 |[],_=>rfl
 |x::r,h=>by
  rw[My,Od,Mb,lS r fun y hy=>h y (Mm _ hy),h x MD];omega
def yC (xs:List Str)(h:∀x∈xs,x.length=1):(Txt.join "" xs).length=xs.length:=by rw[nC,qS,lS xs h]
section
variable {X:Cx}
def aX.units1 {k:Nat}{A:Mw}(r:aX k A):A.units+1<cLine:=by have:=r.un;omega
def Fc:R2:=fun x y H Q=>∃a v,x=.ref a/\fM H a y (some v)/\Q v H
def AG (hu:X.A.units+1<cLine):IxR X Fc:=by
 intro value slice pins s σ H x y v u Q I rx ry h hs
 obtain⟨a,w0,rfl,g,q⟩:=h
 obtain rfl:v=Mn a:=rx
 have hT:=rQ I g
 have h2:wpAny (model X.prog X.w) X.A (getItem (.ref a) u) (EP X pins σ Q) X.xe s:=vK hu I g ry fun w' s3 I3 rw'=>⟨w0,H,I3,rw',q⟩
 unfold subscriptTail
 refine gV ?_
 rw[getitemInPython_of_ne hT.not_modules]
 refine gV (Ry hT PySem.F.slot_dict_getitem.lookup ?_)
 have fin:wpAny (model X.prog X.w) X.A (subscripted slice false (.ref a) u) (fun r s₃=>wpAny (model X.prog X.w) X.A (letTemporaryGo value (.ref a) r>>=fun _=>pure r) (EP X pins σ Q) X.xe s₃) X.xe s:=by
  rw[hs]
  exact wpAny_operating (Mx h2 (fun r s₃ h₃=>gV (wpAny_letTemporaryGo (LY h₃))) fun _ _ x=>x)
 first
  |exact LY (gV fin)
  |exact gV (LY (gV fin))
  |exact gV fin
def aJ (K:cW):R2:=fun x y H Q=>rIx K x y H Q\/Fc x y H Q
def aA (hu:X.A.units+1<cLine):IxR X (aJ X.K):=DX.or (AG hu)
def Ao:V->V->V->Hp->(Hp->Prop)->Prop:=fun o i v H Q=>∃a H',o=.ref a/\ku H a i v H'/\Q H'
def yV (hu:X.A.units+1<cLine):tU X Ao:=by
 intro pins s σ H o i v ov iv u Q I ro ri rv h
 obtain⟨a,H',rfl,g,q⟩:=h
 obtain rfl:ov=Mn a:=ro
 exact vW hu I g ri rv fun s4 I4=>⟨H',I4,q⟩
def gI:V->V->V->Hp->(Hp->Prop)->Prop:=fun o i v H Q=>zK o i v H Q\/Ao o i v H Q
def AE (hu:X.A.units+1<cLine):tU X gI:=by
 intro pins s σ H o i v ov iv u Q I ro ri rv h
 rcases h with h|h
 ·exact yL pins s σ H o i v ov iv u Q I ro ri rv h
 ·exact yV hu pins s σ H o i v ov iv u Q I ro ri rv h
variable {o e:Expr}{to te:TE}{p pos:Pos}
def gF {ti:TE}{i:Expr}(hu:X.A.units+1<cLine)(ho:QE X o to)(hi:QE X i ti)(he:QE X e te)(hs:swapsWithSole [.Subscript o i p] e pos.line X.env=pure false:=by rfl)(hw:swappedStores [.Subscript o i p] e X.env=pure none:=by rfl)(ha:∀v,assign (.Subscript o i p) X.env v=(do let ov<-holding [v] (eval o X.env);let iv<-holding [v,ov] (eval i X.env);standAt p;holding [v,ov,iv] (setItem ov iv v);release [v,ov,iv] []):=by intro _;rfl):QS X (.Assign [.Subscript o i p] e pos) (aE te (iQ to ti gI)):=⟨jZ he.out (DZ ho.out hi.out (AE hu) ha) hs hw⟩
def Ds:R2:=fun y x H Q=>∃a o,x=.ref a/\fM H a y o/\Q (.bl o.isSome) H
def DV (hu:X.A.units+1<cLine):OpR X (compareOp .In) Ds:=by
 intro pins s σ H x y v u Q I rx ry h
 obtain⟨a,ov,rfl,g,q⟩:=h
 obtain rfl:u=Mn a:=ry
 exact Kr hu I g rx fun s3 I3=>⟨.bl ov.isSome,H,I3,rfl,q⟩
def sk:R2:=fun y x H Q=>∃a o,x=.ref a/\fM H a y o/\Q (.bl (!o.isSome)) H
def wY (hu:X.A.units+1<cLine):OpR X (compareOp .NotIn) sk:=by
 intro pins s σ H x y v u Q I rx ry h
 obtain⟨a,ov,rfl,g,q⟩:=h
 obtain rfl:u=Mn a:=ry
 exact AL hu I g rx fun s3 I3=>⟨.bl (!ov.isSome),H,I3,rfl,q⟩
def Cv (K:cW):R2:=fun y x H Q=>∃d ds,dR K H y d/\(dR K H x (.list ds)\/dR K H x (.tuple ds))/\OO ds=true/\d.canLay0=true/\d.depth<=140/\Q (.bl (ds.any fun e=>e.eqv d)) H
def sP (K:cW):R2:=fun y x H Q=>∃d ds,dR K H y d/\(dR K H x (.list ds)\/dR K H x (.tuple ds))/\OO ds=true/\d.canLay0=true/\d.depth<=140/\Q (.bl (!ds.any fun e=>e.eqv d)) H
def Fs (hu:X.A.units+150<cLine):OpR X (compareOp .In) (Cv X.K):=by
 intro pins s σ H x y v u Q I rx ry h
 obtain⟨d,ds,hd,hx,c1,c2,dp,q⟩:=h
 obtain⟨as,ra⟩:=cH I hd rx
 have hm:X.A.units+1+min (Nv ds) d.depth<cLine:=by have:=QL (Nv ds) d.depth;omega
 rcases hx with hx|hx
 ·obtain⟨bs,rb⟩:=cH I hx ry
  exact PySem.SeqAt.in_list_reads rb ra c1 c2 hm ⟨.bl _,H,I,rfl,q⟩
 ·obtain⟨bs,rb⟩:=cH I hx ry
  exact PySem.SeqAt.in_tuple_reads rb ra c1 c2 hm ⟨.bl _,H,I,rfl,q⟩
def wk (hu:X.A.units+150<cLine):OpR X (compareOp .NotIn) (sP X.K):=by
 intro pins s σ H x y v u Q I rx ry h
 obtain⟨d,ds,hd,hx,c1,c2,dp,q⟩:=h
 obtain⟨as,ra⟩:=cH I hd rx
 have hm:X.A.units+1+min (Nv ds) d.depth<cLine:=by have:=QL (Nv ds) d.depth;omega
 rcases hx with hx|hx
 ·obtain⟨bs,rb⟩:=cH I hx ry
  exact PySem.SeqAt.notIn_list_reads rb ra c1 c2 hm ⟨.bl _,H,I,rfl,q⟩
 ·obtain⟨bs,rb⟩:=cH I hx ry
  exact PySem.SeqAt.notIn_tuple_reads rb ra c1 c2 hm ⟨.bl _,H,I,rfl,q⟩
def yU (K:cW):R2:=fun y x H Q=>match y,x with
 |y,.ref a=>Ds y (.ref a) H Q\/Cv K y (.ref a) H Q
 |y,x=>xm y x H Q
def Kb (hu:X.A.units+150<cLine):OpR X (compareOp .In) (yU X.K):=((DV (by omega)).or ((Fs hu).or Lx)).imp fun x y H Q q=>by
 unfold yU at q
 split at q
 ·exact q.elim .inl fun z=>.inr (.inl z)
 ·exact .inr (.inr q)
def sR (K:cW):R2:=fun y x H Q=>sk y x H Q\/sP K y x H Q
def Bf (hu:X.A.units+150<cLine):OpR X (compareOp .NotIn) (sR X.K):=(wY (by omega)).or (wk hu)
def iW:TE:=fun σ H Q=>wZ σ H Q\/wQ σ H Q
def jh:QE X (.Dict [] [] pos) iW:=⟨fun pins s σ H Q I h=>h.elim (yx pins s σ H Q I) (xG pins s σ H Q I)⟩
def wV:bX X (.builtin "len") (fun xs H Q=>∃p kvs,xs=[.ref p]/\H p=some (.dT kvs)/\Q (.int kvs.length) H):=by
 intro pins s σ H xs us Q I r h
 obtain⟨a,kvs,rfl,e,q⟩:=h
 obtain⟨u,rfl,r1⟩:=jR r
 cases r1
 obtain⟨z,hd,ps,rel,dd⟩:=um I.hok e
 have hl:ps.length=kvs.length:=(Paired.length rel).symm
 have hT:s.TypeIs (.ref a) "dict":=dd.typeIs
 obtain⟨o,es,ep,ho,hc,hdat,he,his,hn⟩:=dd
 have hsz:es.size=kvs.length:=by rw[<-hl];have:=congrArg QU he;simpa using this
 have M:MeetsIn X.prog X.w (PZ.«dict.__len__» ⟨[.ref a],[]⟩) (fun _ R s=>s.heap.get? a=some o/\R (.ok (.ret (.int kvs.length s.toks))) {s with toks:=s.toks+1}):=
  .of_wp fun A R s ⟨ho,h⟩=>by
   show wpAny _ _ (dictSize a>>=_) _ _ s
   unfold dictSize
   refine gV (gV (TU ho hdat (LY ?_)))
   show wpAny _ _ (Builtin.Dict.pendingCount a>>=_) _ _ s
   refine gV (wpAny_pendingCount_other hd ?_)
   refine wpAny_ret_mkInt ?_
   rw[Nat.add_zero,hsz];exact h
 refine Calls.call_function_entry kind_len plain_len entry_len (args_len1 _) ?_
 unfold PZ.«len»
 refine gV (m:=oneArg "len" _) (LY ?_)
 refine gV (m:=callSpecial? (.ref a) (Ou "__len__")) (Pu (name:=Ou "__len__") hT Ud
  (SE Ud hT F.entry_dict_len (F.args_dict_len_1 _) M ⟨ho,?_⟩))
 show wpAny _ _ _ _ _ {s with toks:=s.toks+1}
 refine gV (Nn (LY ?_))
 refine gV (wpAny_letGo ?_)
 have zz:kvs.length<=sizeLine:=z
 rw[NL]at zz
 show wpAny _ _ (if ((kvs.length:Nat):Int)<0 then _ else _) _ _ _
 rw[if_neg (by omega)]
 show wpAny _ _ (if ((kvs.length:Nat):Int)>=2^63 then _ else _) _ _ _
 rw[if_neg (by omega)]
 exact gV (wpAny_mkInt (LY ⟨_,rfl,⟨.int kvs.length,H,I.tok _,⟨_,rfl⟩,q⟩⟩))
def eI (K:cW):List V->Hp->VK->Prop:=fun xs H Q=>Fg K xs H Q\/∃p kvs,xs=[.ref p]/\H p=some (.dT kvs)/\Q (.int kvs.length) H
def fc:bX X (.builtin "len") (eI X.K):=Ke.or wV
def DN (H:Hp)(a:Addr)(y d:V)(r:V)(H':Hp):Prop:=(fM H a y (some r)/\H'=H)\/(fM H a y none/\ku H a y d H'/\r=d)
def gc {A:Mw}{E:tx->If->Prop}{s:If}{P:Ms}{w:MG}{K:Type}[DecidableEq K]{knd:HeapKind P w K}{d a:Addr}{xs:List (K×Addr×tx)}{k:K}{v:tx}{Q:tx->If->Prop}(hu:knd.room A)(hkey:knd.is s.heap k a)(hm:s.heap.DictOfH knd d xs)
  (hthere:∀p,atKey xs k=some p->Q p.2 {s with toks:=s.toks+knd.draws k})
  (hQ:atKey xs k=none->∀h',h'.DictOfH knd d (storedH xs k a v)->Oa d s.heap h'->Q v {s with heap:=h',toks:=s.toks+knd.draws k})
  (hsz:xs.length<=sizeLine):
  wpAny (model P w) A (dictSetDefault d (.ref a) v) Q E s:=by
 obtain⟨o,es,ep,ho,hc,hd,he,his,hn⟩:=hm
 unfold dictSetDefault
 try with_reducible refine Nn ?_
 refine gV (knd.pyHash hu hkey ?_)
 refine gV (wpAny_dictFind_heap (s:={s with toks:=s.toks+knd.draws k}) hu hkey ho hd he his hn ?_ ?_)
 ·intro hno
  have hnot:k∉xs.map (·.1):=not_mem_keys_of_get hno
  refine gV (wpAny_rule (gV (wpAny_updateDictKeys (hz:=by have e:=size_of_entries he;omega) (s:={s with toks:=s.toks+knd.draws k}) ho hd (LY (hQ (Pm hno) _ ⟨_,_,ep+1,Nt _ ho (Obj.isFreed_of_dict (RZ hd _)),
   hc.mapDictKeys _,RZ hd _,?_,?_,?_⟩ (OW ..))))))
  ·rw[Tn (Pm hno)]
   simp[he,entryOfKey]
  ·rw[Tn (Pm hno)]
   intro x hx
   rcases MX.mp hx with hx|hx
   ·exact knd.keeps (his x hx) ho hd (OW ..)
   ·simp only[Mj]at hx
    subst hx
    exact knd.keeps hkey ho hd (OW ..)
  ·rw[Tn (Pm hno)]
   rw[MC,List.nodup_append]
   refine⟨hn,by simp,?_⟩
   intro x hx y hy
   simp only[My,QB,Mj]at hy
   subst hy
   exact fun e=>hnot (e▸hx)
 ·intro j p hj
  refine gV (TU (s:={s with toks:=s.toks+knd.draws k}) ho hd ?_)
  rw[entry_at he j,hj]
  exact gV (wpAny_rule (LY (hthere p (atKey_of_get hn hj))))
end
def yj {h:Heap}{a:Addr}{its:Array tx}(p:PlainL h a its):h.IsList a its:=let ⟨o,n,e,c,_,d⟩:=p;⟨o,e,c,n,d⟩
set_option genInjectivity false in
structure cz where
 qual:Str
 body:FuncBody
 scope:Scope
 ps:List Str
 ys:List Str
def mH (t:cz)(cs:List Addr)(c:Addr)(fd:Mc):Prop:=
 fd.qualname=t.qual/\fd.body=t.body/\fd.scope=t.scope/\fd.globals=mainGlobals/\fd.closure=t.ys.zip cs/\fd.code=.ref c/\fd.builtins=builtinsNs/\
  (∀us:List tx,us.length=t.ps.length->bindArgs fd ⟨us,[]⟩=pure (t.ps.zip us))/\cs.Nodup/\cs.length=t.ys.length
def bN (f:Addr)(t:cz)(cs:List Addr)(c:Addr):HO:=.ext fun h=>∃od fd sl,h.get? f=some ⟨.type "function",od,.func fd,sl⟩/\mH t cs c fd
def bz (c:Addr)(qual:Str):HO:=.ext fun h=>∃o vs tk,h.get? c=some o/\o.data=.fields vs/\vs[1]?=some (.str qual tk)
def bB (c:Addr)(v:V):HO:=.ext fun h=>∃u o,aS v u/\h.get? c=some o/\o.data=.cell (some u)
abbrev cK (H:Hp):List Addr->List V->Prop:=Paired fun c v=>H c=some (bB c v)
structure da (H:Hp)(f:Addr)(t:cz)(cs:List Addr)(cvs:List V):Prop where
 ex:∃c,H f=some (bN f t cs c)/\H c=some (bz c t.qual)
 cells:cK H cs cvs
def cK.mem {H:Hp}{cs:List Addr}{cvs:List V}(h:cK H cs cvs):∀c∈cs,∃v,H c=some (bB c v):=by
 induction h with
 |nil=>intro c hc;cases hc
 |cons r t ih=>
  intro c hc
  rcases LZ.mp hc with rfl|hc
  ·exact⟨_,r⟩
  ·exact ih c hc
def cK.get {H:Hp}{cs:List Addr}{cvs:List V}(h:cK H cs cvs):∀{i:Nat}{v:V},cvs[i]? =some v->∃c,cs[i]? =some c/\H c=some (bB c v):=by
 induction h with
 |nil=>intro i v e;cases e
 | @cons c w cs ws r t ih=>
   intro i v e
   cases i with
   |zero=>cases e;exact⟨c,rfl,r⟩
   |succ i=>exact ih e
def cp (cs:List Addr)(H:Hp):Hp:=fun b=>if b∈cs then none else H b
def cF (cs:List Addr)(H H':Hp):Hp:=fun b=>if b∈cs then H b else H' b
def gE {cs:List Addr}{H:Hp}{b:Addr}(h:b∈cs):cp cs H b=none:=if_pos h
def cj {cs:List Addr}{H:Hp}{b:Addr}(h:b∉cs):cp cs H b=H b:=if_neg h
def ig {cs:List Addr}{H H':Hp}{b:Addr}(h:b∈cs):cF cs H H' b=H b:=if_pos h
def cD {cs:List Addr}{H H':Hp}{b:Addr}(h:b∉cs):cF cs H H' b=H' b:=if_neg h
def tZ (cs:List Addr)(H:Hp):cF cs H (cp cs H)=H:=by
 funext b
 by_cases h:b∈cs
 ·exact ig h
 ·rw[cD h,cj h]
def vM {cs:List Addr}{H H':Hp}{d:Addr}{o:HO}(h:d∉cs):cF cs H (upd H' d o)=upd (cF cs H H') d o:=by
 funext b
 by_cases hb:b∈cs
 ·have:b≠d:=fun e=>h (e▸hb)
  rw[ig hb,ao this,ig hb]
 ·rw[cD hb]
  by_cases e:b=d
  ·subst e;rw[ag,ag]
  ·rw[ao e,ao e,cD hb]
def cK.notin {H:Hp}{cs:List Addr}{cvs:List V}(h:cK H cs cvs){b:Addr}{o:HO}(e:H b=some o)(hn:∀φ,o≠.ext φ):b∉cs:=fun hb=>by
 obtain⟨v,ev⟩:=h.mem b hb
 rw[e]at ev
 exact hn _ (LW ev)
def cK.hide {H:Hp}{cs:List Addr}{cvs:List V}(h:cK H cs cvs){b:Addr}{o:HO}(e:H b=some o)(hn:∀φ,o≠.ext φ):cp cs H b=some o:=by
 rw[cj (h.notin e hn)];exact e
def ar.hide {H H':Hp}(cs:List Addr)(s:ar (cp cs H) H'):ar H (cF cs H H'):=fun b o e=>by
 by_cases hb:b∈cs
 ·rw[ig hb];exact e
 ·rw[cD hb];exact s _ _ (by rw[cj hb];exact e)
section
variable {P:Ms}{w:MG}{fs:List Addr}{H H':Hp}{h h':Heap}{cs:List Addr}{cvs:List V}
def tK (hc:cK H cs cvs)(ok:HOk P w H h):HOk P w (cp cs H) h:=fun b o e=>by
 by_cases hb:b∈cs
 ·rw[gE hb]at e;cases e
 ·rw[cj hb]at e
  exact(ok b o e).stay (fun c u _ q=>q) (fun c q=>hc.hide q fun φ z=>nomatch z) fun c xs q=>hc.hide q fun φ z=>nomatch z
def sE (hc:cK H cs cvs)(hfs:∀b∈fs,H b=none)(ok:HOk P w H h)(u:Un fs [] (cp cs H) H' h h')(ok':HOk P w H' h'):Un fs [] H (cF cs H H') h h'/\HOk P w (cF cs H H') h':=by
 have obj:∀c∈cs,∃v o,H c=some (bB c v)/\h.get? c=some o/\h'.get? c=some o/\H' c=none:=fun c hm=>by
  obtain⟨v,ev⟩:=hc.mem c hm
  obtain⟨_,⟨o,eo⟩,_⟩:=(show bg P w H h c (bB c v)from ok c _ ev)
  refine⟨v,o,ev,eo,u.keep c o eo (gE hm) (fun z=>?_) (by simp),u.free c o eo (gE hm) (by simp)⟩
  rw[hfs c z]at ev;cases ev
 have nin:∀b,H b=none->b∉cs:=fun b e hb=>by
  obtain⟨v,ev⟩:=hc.mem b hb
  rw[e]at ev;cases ev
 have nin':∀b o,H' b=some o->b∉cs:=fun b o e hb=>by
  obtain⟨_,_,_,_,_,z⟩:=obj b hb
  rw[e]at z;cases z
 refine⟨⟨fun b o e n hb hx=>u.keep b o e (by rw[cj (nin b n)];exact n) hb hx,fun b o e n hb hx=>u.slot b o e (by rw[cj (nin b n)];exact n) hb hx,
  fun b o e n hx=>by rw[cD (nin b n)];exact u.free b o e (by rw[cj (nin b n)];exact n) hx,u.there,fun b xs e=>?_,fun b o v e=>?_,fun b ps e=>?_⟩,fun b o e=>?_⟩
 ·have hb:=hc.notin e fun φ z=>nomatch z
  rw[cD hb];exact u.tups b xs (by rw[cj hb];exact e)
 ·have hb:=hc.notin e fun φ z=>nomatch z
  rw[cD hb];exact u.frzs b o v (by rw[cj hb];exact e)
 ·have hb:=hc.notin e fun φ z=>nomatch z
  rw[cD hb];exact u.tbls b ps (by rw[cj hb];exact e)
 ·by_cases hb:b∈cs
  ·rw[ig hb]at e
   obtain⟨v,o',ev,e1,e2,_⟩:=obj b hb
   rw[e]at ev;cases ev
   obtain⟨φ1,_,φ3⟩:=(show bg P w H h b (bB b v)from ok b _ e)
   exact⟨φ3 h h' φ1 fun q hq=>by rw[e1]at hq;cases hq;exact e2,⟨o',e2⟩,φ3⟩
  ·rw[cD hb]at e
   exact(ok' b o e).stay (fun c u _ q=>q) (fun c q=>by rw[cD (nin' c _ q)];exact q) fun c xs q=>by rw[cD (nin' c _ q)];exact q
def CR.back {outer:List Env}{s s':If}{Q:VK}{E:XK}{r:Qs}(hc:cK H cs cvs)(hfs:∀b∈frs outer,H b=none)(ok:HOk P w H s.heap)
  (h:CR (CX1 P w) outer P w (cp cs H) s (fun v H'=>Q v (cF cs H H')) (fun c a H'=>E c a (cF cs H H')) r s'):CR (CX1 P w) outer P w H s Q E r s':=by
 cases r with
 |error e=>
  obtain⟨a,C,d,H',rfl,F,q⟩:=h
  obtain⟨u,k⟩:=sE hc hfs ok F.un F.hok
  have na:a∉cs:=fun hb=>by
   obtain⟨v,ev⟩:=hc.mem a hb
   obtain⟨_,⟨o,eo⟩,_⟩:=(show bg P w H s.heap a (bB a v)from ok a _ ev)
   rw[F.new]at eo;cases eo
  obtain⟨oe,vs,a0,T,oT,ts,t1,t2,td,t3,t4,t5,t6,t7,t8,t9,t10,t11⟩:=F.tr
  have nT:T∉cs:=fun hb=>by
   obtain⟨v,ev⟩:=hc.mem T hb
   obtain⟨_,⟨o,eo⟩,_⟩:=(show bg P w H s.heap T (bB T v)from ok T _ ev)
   rw[t10]at eo;cases eo
  exact⟨a,C,d,_,rfl,⟨F.os,F.bare,u,k,F.new,by rw[cD na];exact F.free,⟨oe,vs,a0,T,oT,ts,t1,t2,td,t3,t4,t5,t6,t7,t8,t9,t10,by rw[cD nT];exact t11⟩⟩,q⟩
 |ok fl=>
  cases fl with
  |ret u=>
   obtain⟨v,H',os,bare,un,hok,rv,q⟩:=h
   obtain⟨u',k⟩:=sE hc hfs ok un hok
   exact⟨v,_,os,bare,u',k,rv,q⟩
  |next=>exact MB h
  |brk=>exact MB h
  |cont=>exact MB h
end
structure eG (P:Ms)(w:MG)(K:cW)(mg:Str->Option tx)(base:Heap)(k:Nat)(t:cz)(sp:Sp):Prop where
 run:∀(A:Mw)(outer:List Env)(s:If)(H:Hp)(f:Addr)(cs:List Addr)(us:List tx)(vs cvs:List V)(Q:VK)(E:XK),aX k A->iK P w K mg base A outer s H->da H f t cs cvs->ba vs us->vs.length=t.ps.length->
  sp (vs++cvs) (cp cs H) (fun v H'=>Q v (cF cs H H')) (fun c a H'=>E c a (cF cs H H'))->codeAny (model P w) A (.call (.ref f) ⟨us,[]⟩) (CR (CX1 P w) outer P w H s Q E) s
def cV (N:List Str)(vs cvs:List V):St:=vs.map some++(Ri (N.length- vs.length- cvs.length) none++cvs.map some)
def fk (P:Ms)(w:MG)(K:cW)(mg:Str->Option tx)(base:Heap)(N:List Str)(qual:Str)(scope:Scope)(f c:Addr)(cl:List (Str×Addr))(A:Mw)(outer:List Env)(s:If)(H:Hp)(E:XK):Cx where
 prog:=P
 w:=w
 K:=K
 mg:=mg
 base:=base
 A:=A.deeper (OC qual scope s.heap.objs.size f (.ref c) cl)
 N:=N
 s₀:=s
 H₀:=H
 env:=OC qual scope s.heap.objs.size f (.ref c) cl
 outer:=outer
 stack:=OC qual scope s.heap.objs.size f (.ref c) cl::outer
 ex:=[]
 calm:=true
 fn:=fun _=>false
 pn:=[]
 xe:=fun e s'=>wpAny (model P w) (A.deeper (OC qual scope s.heap.objs.size f (.ref c) cl)) (leaving (OC qual scope s.heap.objs.size f (.ref c) cl) e) (fun _ s''=>CX1 P w outer H s E e s'') (fun e' s''=>CX1 P w outer H s E e' s'') s'
structure cU (N ps ys:List Str)(sc:Scope):Prop where
 kind:sc.kind=.function
 co:sc.isCoroutine=false
 gen:sc.isGenerator=false
 nd:N.Nodup
 pre:N.take ps.length=ps
 suf:N.drop (N.length- ys.length)=ys
 le:ps.length+ys.length<=N.length
 par:∀x∈ps,sc.names.lookup x=some .local
 nocell:∀x∈sc.names,x.2≠.cell
 fr:∀x∈ys,sc.names.lookup x=some .free
 frs:∀y∈sc.names,y.2=.free->y.1∈ys
def mD {ys:List Str}{cs:List Addr}(hl:cs.length=ys.length)(nd:ys.Nodup):∀{i:Nat}{y:Str}{c:Addr},ys[i]? =some y->cs[i]? =some c->(ys.zip cs).lookup y=some c:=by
 induction ys generalizing cs with
 |nil=>intro i y c e;cases e
 |cons a r ih=>
  intro i y c e1 e2
  cases cs with
  |nil=>cases e2
  |cons b cs=>
   cases i with
   |zero=>cases e1;cases e2;show(Nc _ ((_,_)::_))=_;rw[Nr];simp
   |succ i=>
    have hne:y≠a:=fun e=>(MQ.mp nd).1 (e▸Mz (show r[i]? =some y from e1))
    show(Nc y ((a,b)::r.zip cs))=_
    rw[Nr,show(y==a)=false from by simpa using hne]
    exact ih (by simpa using hl) (MQ.mp nd).2 (show r[i]? =some y from e1) (show cs[i]? =some c from e2)
def gR {ys:List Str}{cs:List Addr}:∀{y:Str}{c:Addr},(ys.zip cs).lookup y=some c->∃i:Nat,ys[i]? =some y/\cs[i]? =some c:=by
 induction ys generalizing cs with
 |nil=>intro y c e;cases e
 |cons a r ih=>
  intro y c e
  cases cs with
  |nil=>cases e
  |cons b cs=>
   have e:(Nc y ((a,b)::r.zip cs))=some c:=e
   rw[Nr]at e
   by_cases hy:(y==a)=true
   ·rw[hy]at e;cases e;exact⟨0,by simpa using(SW hy).symm,rfl⟩
   ·rw[show(y==a)=false from by simpa using hy]at e
    obtain⟨i,h1,h2⟩:=ih e
    exact⟨i+1,h1,h2⟩
def nq {ps:List Str}{us:List tx}(nd:ps.Nodup):∀{i:Nat}{x:Str}{u:tx},ps[i]? =some x->us[i]? =some u->(ps.zip us).reverse.lookup x=some u:=by
 induction ps generalizing us with
 |nil=>intro i x u e;cases e
 |cons a r ih=>
  intro i x u e1 e2
  cases us with
  |nil=>cases e2
  |cons b us=>
   show(Nc x ((a,b)::r.zip us).reverse)=_
   rw[NS,List.lookup_append]
   cases i with
   |zero=>
    cases e1;cases e2
    have:(r.zip us).reverse.lookup a=none:=by
     rw[List.lookup_eq_none_iff]
     intro p hp
     have:=(Nm (SQ.mp hp)).1
     simp only[beq_eq_false_iff_ne,ne_eq,bne_iff_ne]
     intro e
     exact(MQ.mp nd).1 (by rw[<-e]at this;exact this)
    rw[this];simp
   |succ i=>
    rw[ih (MQ.mp nd).2 (show r[i]? =some x from e1) (show us[i]? =some u from e2)];rfl
section
variable {P:Ms}{w:MG}{K:cW}{mg:Str->Option tx}{base:Heap}{N ps ys:List Str}{qual:Str}{scope:Scope}{f c:Addr}{A:Mw}{outer:List Env}{s:If}{H:Hp}{E:XK}{us:List tx}{vs cvs:List V}{cs:List Addr}{h1:Heap}{tk:Nat}
def sS (S:cU N ps ys scope)(hd:A.handled=none)(e0:iK P w K mg base A outer s H)(ca:cK H cs cvs)(hcs:cs.Nodup)(hcl:cs.length=ys.length)(hl:vs.length=ps.length)(r:ba vs us)
  (hns:h1.Ns s.heap.objs.size (fun x=>(ps.zip us).reverse.lookup x))(hk:∀b o,s.heap.get? b=some o->h1.get? b=some o):
  Inv (fk P w K mg base N qual scope f c (ys.zip cs) A outer s (cp cs H) E) [] (cV N vs cvs) (cp cs H) {s with heap:=h1,toks:=tk}:=by
 have ndY:ys.Nodup:=by rw[<-S.suf];exact S.nd.sublist (List.drop_sublist _ _)
 have ndP:ps.Nodup:=by rw[<-S.pre];exact S.nd.sublist (Sr _ _)
 have lcv:cvs.length=ys.length:=by rw[<-hcl];exact(Paired.length ca).symm
 have cellOf:∀c∈cs,∃v,h1.IsCell c v:=fun c hm=>by
  obtain⟨v,ev⟩:=ca.mem c hm
  obtain⟨⟨u,o,_,eo,hd⟩,_,_⟩:=(show bg P w H s.heap c (bB c v)from e0.hok c _ ev)
  exact⟨_,o,hk _ _ eo,hd⟩
 have memC:∀x c,(ys.zip cs).lookup x=some c->c∈cs:=fun x c e=>by
  obtain⟨i,_,e2⟩:=gR e
  exact Mz e2
 have noA:∀b:Addr,b∉(fk P w K mg base N qual scope f c (ys.zip cs) A outer s (cp cs H) E).ex:=fun b z=>absurd (show b∈([]:List Addr)from z) (by simp)
 have hid:∀b,H b=none->cp cs H b=none:=fun b e=>by
  by_cases hb:b∈cs
  ·exact gE hb
  ·rw[cj hb];exact e
 refine⟨⟨e0.mod,S.kind,rfl,rfl,pv _,fun y z c h1 h2=>?_,fun y hy=>?_,fun y c hf _=>?_,fun _=>hd,RA e0.frames,.inr ⟨rfl,rfl⟩,fun b z=>absurd z (noA b),fun b o e=>⟨(e0.bs b o e).1,hid b (e0.bs b o e).2⟩,e0.bsz,fun b _ _=>noA b,fun b z=>absurd z (noA b),e0.funs,fun b hb=>hid b (e0.frf b hb)⟩,
  rfl,e0.bare,Un.kept hk,⟨_,hns,fun i y v q1 q2 q3=>?_⟩,fun y c h=>cellOf c (memC y c h),hid _ (e0.hok.fresh (pv _)),fun y c h=>gE (memC y c h),fun p hp=>absurd (show p∈([]:List (Addr×Obj))from hp) (by simp),(tK ca e0.hok).kept hk,?_⟩
 ·obtain⟨i,e1,e2⟩:=gR (show(ys.zip cs).lookup y=some c from h1)
  obtain⟨j,e3,e4⟩:=gR (show(ys.zip cs).lookup z=some c from h2)
  have:i=j:=by
   obtain⟨a1,b1⟩:=Mh.mp e2
   obtain⟨a2,b2⟩:=Mh.mp e4
   exact(SR hcs).mp (b1.trans b2.symm)
  subst this
  rw[e1]at e3;exact LW e3
 ·have hy:scope.names.lookup y=some .cell\/scope.names.lookup y=some .free:=hy
  rcases hy with hy|hy
  ·exact absurd rfl (S.nocell _ (Nb hy))
  ·obtain⟨i,hi,e⟩:=RV.mp (S.frs _ (Nb hy) rfl)
   have hi2:i<cs.length:=by omega
   exact⟨cs[i],mD hcl ndY (Mh.mpr ⟨hi,e⟩) (LV hi2)⟩
 ·exact absurd (show false=true from hf) Mo
 ·unfold cV at q2
  by_cases hi:i<vs.length
  ·rw[MT (by simpa using hi),ME]at q2
   have ha:vs[i]?=some v:=by
    cases e:vs[i]? with
    |none=>rw[e]at q2;cases q2
    |some a=>rw[e]at q2;cases q2;rfl
   obtain⟨u,hu,rv⟩:=r.get ha
   have hp:ps[i]?=some y:=by
    rw[<-S.pre,NB (by omega)];exact q1
   exact⟨u,rv,.inl ⟨S.par y (Mz hp),nq ndP hp hu⟩⟩
  ·rw[MK (by simpa using hi),Mf]at q2
   by_cases hj:i- vs.length<N.length- vs.length- cvs.length
   ·rw[MT (by simpa using hj),Rv]at q2
    split at q2<;>cases q2
   ·rw[MK (by simpa using hj),Pr,ME]at q2
    have ha:cvs[i- vs.length- (N.length- vs.length- cvs.length)]?=some v:=by
     cases e:cvs[i- vs.length- (N.length- vs.length- cvs.length)]? with
     |none=>rw[e]at q2;cases q2
     |some a=>rw[e]at q2;cases q2;rfl
    have hle:=S.le
    have hiN:i<N.length:=(Mh.mp q1).1
    have hx:i- vs.length- (N.length- vs.length- cvs.length)=i- (N.length- ys.length):=by omega
    rw[hx]at ha
    have hy:ys[i- (N.length- ys.length)]?=some y:=by
     have e1:N.drop (N.length- ys.length)=ys:=S.suf
     have e2:(N.drop (N.length- ys.length))[i- (N.length- ys.length)]?=some y:=by
      rw[List.getElem?_drop]
      rw[show N.length- ys.length+(i- (N.length- ys.length))=i by omega];exact q1
     rw[e1]at e2;exact e2
    obtain⟨c,ec,hc⟩:=ca.get ha
    obtain⟨⟨u,o,ru,eo,hdo⟩,_,_⟩:=(show bg P w H s.heap c (bB c v)from e0.hok c _ hc)
    exact⟨u,ru,.inr ⟨.inr (S.fr y (Mz hy)),c,mD hcl ndY hy ec,o,hk _ _ eo,hdo⟩⟩
 ·unfold cV
  show _=N.length
  have:=S.le
  rw[Mr,Mr,Mf,Mf,Pr]
  omega
end
section
variable {P:Ms}{w:MG}{K:cW}{mg:Str->Option tx}{base:Heap}{k:Nat}{t:cz}{N:List Str}{sp:Sp}
def qD {body:List Stmt}(hb:t.body=.stmts body)(S:cU N t.ps t.ys t.scope)
  (hbody:∀(f c:Addr)(cl:List (Str×Addr))(A:Mw)(outer:List Env)(s:If)(H:Hp)(vs cvs:List V)(Q:VK)(E:XK),aX k (A.deeper (OC t.qual t.scope s.heap.objs.size f (.ref c) cl))->vs.length=t.ps.length->cvs.length=t.ys.length->sp (vs++cvs) H Q E->
   ∃td,PSs (fk P w K mg base N t.qual t.scope f c cl A outer s H E) body td/\td {nx:=fun _ H'=>Q .non H',rt:=Q} (cV N vs cvs) H):eG P w K mg base (k+1) t sp:=by
 refine⟨fun A outer s H f cs us vs cvs Q E hr e0 ca r hl hsp=>?_⟩
 obtain⟨c,hf,hcc⟩:=ca.ex
 have KX:K.In s.heap:=e0.mod.kin.keeps fun b o e=>(e0.bs b o e).1
 have lim:s.heap.NoLimit:=e0.mod.nolimit.keeps fun b o e=>(e0.bs b o e).1
 obtain⟨⟨od,fd,sl,ho,h1,h2,h3,h4,h5,h6,h7,h8,h9,h10⟩,_,_⟩:=(show bg P w H s.heap f (bN f t cs c)from e0.hok f _ hf)
 obtain⟨⟨o,vs',tk,hco,hdo,hv⟩,_,_⟩:=(show bg P w H s.heap c (bz c t.qual)from e0.hok c _ hcc)
 have hcd:s.heap.CodeRec fd.code fd.qualname:=⟨c,o,vs',tk,h6,hco,hdo,by rw[h1];exact hv⟩
 refine Nw (PV (R:=CR (CX1 P w) outer P w (cp cs H) s (fun v H'=>Q v (cF cs H H')) (fun c a H'=>E c a (cF cs H H'))) hr.depth ho rfl (by rw[h3];exact S.co) (by rw[h3];exact S.gen) (h2.trans hb) hcd ?_) fun r s' h=>CR.back ca.cells e0.frf e0.hok h
 rw[h8 us (by rw[<-r.length];exact hl),h3,h4,h5,h1,h6,h7]
 refine LY (Ql S.nocell (fun y hy=>S.par y.1 (Nm hy).1) (fun h' hns hsb=>⟨lim.fresh _ hsb,?_⟩) S.kind)
 have hk:∀b o,s.heap.get? b=some o->h'.get? b=some o:=fun b o e=>hsb.extBut b o (Ml (Ma e)) (Lt _ e)
 have lcv:cvs.length=t.ys.length:=by rw[<-h10];exact(Paired.length ca.cells).symm
 obtain⟨td,ht,hq⟩:=hbody f c (t.ys.zip cs) A outer s (cp cs H) vs cvs _ _ (hr.deeper _) hl lcv hsp
 have I:=sS (tk:=s.toks+(t.ps.zip us).length) (qual:=t.qual) (f:=f) (c:=c) (E:=fun c a H'=>E c a (cF cs H H')) S hr.hd e0 ca.cells h9 h10 hl r hns hk
 show codeAny _ _ (.func body (OC t.qual t.scope s.heap.objs.size f (.ref c) (t.ys.zip cs))) _ _
 refine SD ?_
 refine Mx (ht [] _ (cV N vs cvs) _ _ I hq) (fun fl s' hs=>?_) fun e s' hs=>hs
 cases fl with
 |ret u=>
  obtain⟨v,σ',H',J,rv,q⟩:=hs
  exact⟨v,H',J.os,J.bare,J.base,J.hok,rv,q⟩
 |next=>
  obtain⟨σ',H',J,q⟩:=hs
  exact⟨V.non,H',J.os,J.bare,J.base,J.hok,rfl,q⟩
 |brk=>
  obtain⟨_,_,_,q⟩:=hs
  exact MB q
 |cont=>
  obtain⟨_,_,_,q⟩:=hs
  exact MB q
def ib {body:Expr}(hb:t.body=.expr body)(S:cU N t.ps t.ys t.scope)
  (hbody:∀(f c:Addr)(cl:List (Str×Addr))(A:Mw)(outer:List Env)(s:If)(H:Hp)(vs cvs:List V)(Q:VK)(E:XK),aX k (A.deeper (OC t.qual t.scope s.heap.objs.size f (.ref c) cl))->vs.length=t.ps.length->cvs.length=t.ys.length->sp (vs++cvs) H Q E->
   ∃te,PE (fk P w K mg base N t.qual t.scope f c cl A outer s H E) body te/\te (cV N vs cvs) H Q):eG P w K mg base (k+1) t sp:=by
 refine⟨fun A outer s H f cs us vs cvs Q E hr e0 ca r hl hsp=>?_⟩
 obtain⟨c,hf,hcc⟩:=ca.ex
 have KX:K.In s.heap:=e0.mod.kin.keeps fun b o e=>(e0.bs b o e).1
 have lim:s.heap.NoLimit:=e0.mod.nolimit.keeps fun b o e=>(e0.bs b o e).1
 obtain⟨⟨od,fd,sl,ho,h1,h2,h3,h4,h5,h6,h7,h8,h9,h10⟩,_,_⟩:=(show bg P w H s.heap f (bN f t cs c)from e0.hok f _ hf)
 obtain⟨⟨o,vs',tk,hco,hdo,hv⟩,_,_⟩:=(show bg P w H s.heap c (bz c t.qual)from e0.hok c _ hcc)
 have hcd:s.heap.CodeRec fd.code fd.qualname:=⟨c,o,vs',tk,h6,hco,hdo,by rw[h1];exact hv⟩
 refine Nw (W.kla_callFunE (R:=CR (CX1 P w) outer P w (cp cs H) s (fun v H'=>Q v (cF cs H H')) (fun c a H'=>E c a (cF cs H H'))) hr.depth ho rfl (by rw[h3];exact S.co) (by rw[h3];exact S.gen) (h2.trans hb) hcd ?_) fun r s' h=>CR.back ca.cells e0.frf e0.hok h
 rw[h8 us (by rw[<-r.length];exact hl),h3,h4,h5,h1,h6,h7]
 refine LY (Ql S.nocell (fun y hy=>S.par y.1 (Nm hy).1) (fun h' hns hsb=>⟨lim.fresh _ hsb,?_⟩) S.kind)
 have hk:∀b o,s.heap.get? b=some o->h'.get? b=some o:=fun b o e=>hsb.extBut b o (Ml (Ma e)) (Lt _ e)
 have lcv:cvs.length=t.ys.length:=by rw[<-h10];exact(Paired.length ca.cells).symm
 obtain⟨te,ht,hq⟩:=hbody f c (t.ys.zip cs) A outer s (cp cs H) vs cvs _ _ (hr.deeper _) hl lcv hsp
 have I:=sS (tk:=s.toks+(t.ps.zip us).length) (qual:=t.qual) (f:=f) (c:=c) (E:=fun c a H'=>E c a (cF cs H H')) S hr.hd e0 ca.cells h9 h10 hl r hns hk
 show codeAny _ _ (.expr body (OC t.qual t.scope s.heap.objs.size f (.ref c) (t.ys.zip cs))) _ _
 refine W.kla_codeExpr ?_
 refine Mx (ht [] _ (cV N vs cvs) _ _ I hq) (fun v s' hs=>?_) fun e s' hs=>hs
 obtain⟨x,H',J,rv,q⟩:=hs
 exact⟨x,H',J.os,J.bare,J.base,J.hok,rv,q⟩
end
def BM (mg:Str->Option tx)(h:Heap):Prop:=∃bm ob,mg "__builtins__"=some (.ref bm)/\bm≠builtinsNs/\h.get? bm=some ob/\ob.cls=.type "module"/\ob.dict=some builtinsNs/\ob.data=.plain
section
variable {X:Cx}{pins:List (Addr×Obj)}{σ:St}{H:Hp}{s:If}{P c:Addr}{ps:Array tx}{t:cz}{cs:List Addr}{h':Heap}{tk:Nat}{fd:Mc}
def rj {more:Array tx}(I:Inv X pins σ H s)(hP:H P=some (.tbl ps))(hx:Heap.ExtBut P s.heap h')(hge:s.heap.objs.size<=c)(hlt:c<h'.objs.size)(hrec:h'.CodeRec (.ref c) t.qual)
  (htb:h'.get? P=some (RJ (ps++more)))(hfd:mH t cs c fd):
  Inv X pins σ (upd (upd (upd H P (.tbl (ps++more))) c (bz c t.qual)) h'.objs.size (bN h'.objs.size t cs c)) {s with heap:=h'.push {cls:=.type "function",data:=.func fd},toks:=tk}:=by
 have hcn:H c=none:=I.hok.fresh hge
 have hfn:H h'.objs.size=none:=I.hok.fresh (Ob (MY hge hlt))
 have ncP:c≠P:=(av hP hcn).symm
 have nfP:h'.objs.size≠P:=(av hP hfn).symm
 have ncf:c≠h'.objs.size:=Ml hlt
 have old:∀b o,s.heap.get? b=some o->b≠c/\b≠h'.objs.size:=fun b o e=>⟨Ml (Mg (Ma e) hge),Ml (Mg (Ma e) (Ob (MY hge hlt)))⟩
 have keepP:∀b o,b≠P->s.heap.get? b=some o->(h'.push {cls:=.type "function",data:=.func fd}).get? b=some o:=fun b o hb e=>Lt _ (hx b o hb e)
 have neP:∀b,H b=none->b≠P:=fun b e z=>by rw[z,hP]at e;cases e
 have obj:∀b o,H b=some o->∃u,s.heap.get? b=some u:=fun b o e=>jK (I.hok b o e)
 have same:∀b o,H b=some o->b≠P->(upd (upd (upd H P (.tbl (ps++more))) c (bz c t.qual)) h'.objs.size (bN h'.objs.size t cs c)) b=some o:=fun b o e hb=>by
  rw[ao (av e hfn),ao (av e hcn),ao hb];exact e
 refine I.un ⟨fun b o e n hb hx'=>keepP b o (neP b n) e,fun b o e n hb hx'=>⟨o.slots,keepP b o (neP b n) e⟩,fun b o e n hx'=>?_,fun b o e hx'=>?_,fun b xs e=>same b _ e (aF e hP (fun z=>nomatch z)),fun b o u e=>same b _ e (aF e hP (fun z=>nomatch z)),fun b qs e=>?_⟩ fun b o e=>?_
 ·rw[ao (old b o e).2,ao (old b o e).1,ao (neP b n)];exact n
 ·by_cases hb:b=P
  ·subst hb;exact⟨_,Lt _ htb⟩
  ·exact⟨o,keepP b o hb e⟩
 ·by_cases hb:b=P
  ·subst hb
   rw[hP]at e;cases e
   exact⟨more,by rw[ao nfP.symm,ao ncP.symm,ag]⟩
  ·exact⟨#[],by rw[same b _ e hb];simp⟩
 ·by_cases hf:b=h'.objs.size
  ·subst hf
   rw[ag]at e;cases e
   refine⟨⟨_,fd,_,Mu _ rfl,hfd⟩,⟨_,Mu _ rfl⟩,?_⟩
   rintro h1 h2 ⟨od,fd',sl,e1,e2⟩ k
   exact⟨od,fd',sl,k _ e1,e2⟩
  ·rw[ao hf]at e
   by_cases hc:b=c
   ·subst hc
    rw[ag]at e;cases e
    obtain⟨c2,oc,vs,tq,e0,e1,e2,e3⟩:=hrec
    cases e0
    refine⟨⟨oc,vs,tq,Lt _ e1,e2,e3⟩,⟨_,Lt _ e1⟩,?_⟩
    rintro h1 h2 ⟨o,vs,tk,a1,a2,a3⟩ k
    exact⟨o,vs,tk,k _ a1,a2,a3⟩
   ·rw[ao hc]at e
    by_cases hp:b=P
    ·subst hp
     rw[ag]at e;cases e
     exact Lt _ htb
    ·rw[ao hp]at e
     refine(I.hok b o e).stay (fun a u ha q=>keepP a u ?_ q) (fun a q=>same a _ q (aF q hP (fun z=>nomatch z))) fun a xs q=>same a _ q (aF q hP (fun z=>nomatch z))
     rcases ha with rfl|ha
     ·exact hp
     ·exact aF ha hP (fun z=>nomatch z)
def rB (I:Inv X pins σ H s)(hk:∀b o,s.heap.get? b=some o->h'.get? b=some o)(hsz:s.heap.objs.size<=h'.objs.size)(hfd:mH t cs c fd):
  Inv X pins σ (upd H h'.objs.size (bN h'.objs.size t cs c)) {s with heap:=h'.push {cls:=.type "function",data:=.func fd},toks:=tk}:=by
 refine I.laid (a:=h'.objs.size) (o:=bN h'.objs.size t cs c) (fun b u e=>Lt _ (hk b u e)) hsz ⟨⟨_,fd,_,Mu _ rfl,hfd⟩,⟨_,Mu _ rfl⟩,?_⟩
 rintro h1 h2 ⟨od,fd',sl,e1,e2⟩ k
 exact⟨od,fd',sl,k _ e1,e2⟩
end
def iu (P:Addr)(pos:Pos)(t:cz)(cs:List Addr):TE:=fun _ H Q=>∃ps,H P=some (.tbl ps)/\TriplesOk ps.toList/\
 ((codeAmong pos ps.toList=none/\∀c f,H c=none->H f=none->c≠f->Q (.ref f) (upd (upd (upd H P (.tbl (ps++#[rawInt pos.line,rawInt pos.col,.ref c]))) c (bz c t.qual)) f (bN f t cs c)))\/
  ∃c,codeAmong pos ps.toList=some (.ref c)/\∀f,H f=none->Q (.ref f) (upd H f (bN f t cs c)))
section
variable {X:Cx}{c0 P:Addr}{params:Arguments}{scope:Scope}{pos:Pos}{t:cz}{cs:List Addr}
def tL {pins:List (Addr×Obj)}{σ:St}{H:Hp}{s:If}{ps:Array tx}(I:Inv X pins σ H s)(hP:H P=some (.tbl ps))(B:BM X.mg X.base):
  s.heap.get? P=some (RJ ps)/\s.heap.Ns mainGlobals X.mg/\mainGlobals≠P/\s.heap.BuiltinsAt X.mg P:=by
 have hPo:s.heap.get? P=some (RJ ps):=I.hok P _ hP
 have hg:s.heap.Ns mainGlobals X.mg:=I.mod.glob.keeps I.bk
 have hgP:mainGlobals≠P:=fun q=>by
  obtain⟨o,es,ep,e,hd,_⟩:=hg
  rw[q,hPo]at e;cases e;cases hd
 obtain⟨bm,ob,b1,b2,b3,b4,b5,b6⟩:=B
 have b3':=I.bk _ _ b3
 refine⟨hPo,hg,hgP,bm,ob,b1,b2,fun q=>?_,fun q=>?_,b3',b4,b5,b6⟩
 ·obtain⟨o,es,ep,e,hd,_⟩:=hg
  rw[q,e]at b3';cases b3';rw[hd]at b6;cases b6
 ·rw[q,hPo]at b3';cases b3';cases b4
def lf {body:Expr}(B:BM X.mg X.base)(C:MZ X.base c0 P)(hcode:X.env.code=.ref c0)(hcl:closureFor scope X.env=pure (t.ys.zip cs))(nd:cs.Nodup)(hl:cs.length=t.ys.length)
  (hq:X.env.qual++"<lambda>"=t.qual)(hb:t.body=.expr body)(hs:t.scope=scope)
  (hbind:∀(cl:List (Str×Addr))(pm cdv ct:tx)(us:List tx),us.length=t.ps.length->bindArgs (W.kla_fn "<lambda>" t.qual params body scope cl pm cdv ct) ⟨us,[]⟩=pure (t.ps.zip us))
  (hdef:defaultsOf params X.env=([],[]):=by rfl):QE X (.Lambda params body scope pos) (iu P pos t cs):=⟨fun pins s σ H Q I h=>by
 obtain⟨ps,hP,ht,h⟩:=h
 obtain⟨hPo,hg,hgP,hB⟩:=tL I hP B
 have hfd:∀(pm ct:tx)(c:Addr),mH t cs c (W.kla_fn "<lambda>" t.qual params body scope (t.ys.zip cs) pm (.ref c) ct):=fun pm ct c=>⟨rfl,hb.symm,hs.symm,rfl,rfl,rfl,rfl,hbind _ _ _ _,nd,hl⟩
 refine W.kla_eval hdef ?_
 rw[hq]
 rcases h with⟨hn,q⟩|⟨c,hf,q⟩
 ·refine W.kla_makeFunction hcl I.ok.glob hg hcode (C.keeps I.bk) hPo ht hn hgP hB fun c ctv h' tk hx hge hlt hrec htb=>?_
  exact⟨.ref h'.objs.size,_,rj I hP hx hge hlt hrec htb (hfd _ _ _),rfl,q c h'.objs.size (I.hok.fresh hge) (I.hok.fresh (Ob (MY hge hlt))) (Ml hlt)⟩
 ·refine W.kla_makeFunctionHit hcl I.ok.glob hg hcode (C.keeps I.bk) hPo ht hf hB fun ctv h' tk hk hsz=>?_
  exact⟨.ref h'.objs.size,_,rB I hk hsz (hfd _ _ _),rfl,q h'.objs.size (I.hok.fresh hsz)⟩⟩
def ug (i:Nat){name:Str}{body:List Stmt}(hN:X.N.Nodup)(B:BM X.mg X.base)(C:MZ X.base c0 P)(hcode:X.env.code=.ref c0)(hcl:closureFor scope X.env=pure (t.ys.zip cs))(nd:cs.Nodup)(hl:cs.length=t.ys.length)
  (hq:qualnameIn X.env name name=t.qual)(hb:t.body=.stmts body)(hs:t.scope=scope)
  (hbind:∀(cl:List (Str×Addr))(doc pm cdv ct:tx)(us:List tx),us.length=t.ps.length->bindArgs (W.fnX name t.qual params body scope cl .none .none doc pm none cdv ct) ⟨us,[]⟩=pure (t.ps.zip us))
  (hi:X.N[i]?=some name:=by rfl)(hx:Loc X.env.scope name:=by first|exact .inl rfl|exact .inr rfl)(hf:X.fn name=true\/X.env.scope.names.lookup name=some .local:=by first|exact .inl rfl|exact .inr rfl)
  (hd0:params.defaults=[]:=by rfl)(hk0:params.kw_defaults=[]:=by rfl)(ha:annTrees params none X.env=[]:=by rfl):
  QS X (.FunctionDef name params body [] none [] scope none name pos) (aE (iu P pos t cs) (ay i)):=⟨fun pins s σ H D I h=>by
 obtain⟨ps,hP,ht,h⟩:=h
 obtain⟨hPo,hg,hgP,hB⟩:=tL I hP B
 have hfd:∀(doc pm ct:tx)(c:Addr),mH t cs c (W.fnX name t.qual params body scope (t.ys.zip cs) .none .none doc pm none (.ref c) ct):=fun doc pm ct c=>⟨rfl,hb.symm,hs.symm,rfl,rfl,rfl,rfl,hbind _ _ _ _ _,nd,hl⟩
 refine W.nestDef_K hd0 hk0 ha ?_
 rw[hq]
 rcases h with⟨hn,q⟩|⟨c,hff,q⟩
 ·refine W.makeFunction_K hcl I.ok.glob hg hcode (C.keeps I.bk) hPo ht hn hgP hB fun c ctv doc h' tk hx' hge hlt hrec htb=>?_
  have I2:=rj (tk:=tk) (cs:=cs) I hP hx' hge hlt hrec htb (hfd doc ((X.mg "__name__").getD .none) ctv c)
  exact gp I2 hN hi hx (v:=.ref h'.objs.size) rfl (fun s' I3=>⟨_,_,I3,q c h'.objs.size (I.hok.fresh hge) (I.hok.fresh (Ob (MY hge hlt))) (Ml hlt)⟩) hf
 ·refine W.makeFunction_hit hcl I.ok.glob hg hcode (C.keeps I.bk) hPo ht hff hB fun ctv doc h' tk hk hsz=>?_
  have I2:=rB (tk:=tk) (cs:=cs) I hk hsz (hfd doc ((X.mg "__name__").getD .none) ctv c)
  exact gp I2 hN hi hx (v:=.ref h'.objs.size) rfl (fun s' I3=>⟨_,_,I3,q h'.objs.size (I.hok.fresh hsz)⟩) hf⟩
end
section
variable {X:Cx}{k:Nat}{E:St->XK}{x:Str}{p pos:Pos}{e:Expr}{es:List Expr}{ta:TE}
abbrev iF:=List (cz×Sp)
def jz (ks:iF)(f:Addr)(vs:List V)(H:Hp)(Q:VK)(E:XK):Prop:=∃ts∈ks,∃cs cvs,da H f ts.1 cs cvs/\vs.length=ts.1.ps.length/\ts.2 (vs++cvs) (cp cs H) (fun v H'=>Q v (cF cs H H')) (fun c a H'=>E c a (cF cs H H'))
def dX (ks:iF)(E:St->XK)(ta:TE)(t:TA):TE:=fun σ H Q=>ta σ H fun x H1=>∃f,x=.ref f/\(∃ts∈ks,∃cs cvs,da H1 f ts.1 cs cvs)/\t σ H1 fun vs H2=>jz ks f vs H2 Q (E σ)
def mX {P:Ms}{w:MG}{H:Hp}{h:Heap}{f:Addr}{t:cz}{cs:List Addr}{cvs:List V}(ok:HOk P w H h)(c:da H f t cs cvs):W.FnAt f h:=by
 obtain⟨c',hf,_⟩:=c.ex
 obtain⟨⟨od,fd,sl,ho,_⟩,_,_⟩:=(show bg P w H h f (bN f t cs c')from ok f _ hf)
 exact⟨_,_,_,_,ho⟩
def lg (P:Ms)(w:MG)(K:cW)(mg:Str->Option tx)(base:Heap)(k:Nat)(ks:iF):Prop:=∀ts∈ks,eG P w K mg base k ts.1 ts.2
def dm {ks:iF}{t:TA}(hk:lg X.prog X.w X.K X.mg X.base k ks)(hr:aX k X.A)(hx:eZ (CX1 X.prog X.w) X E)(hg:QE X (.Name x p) ta)(ha:QA X (e::es) t)(hs:bv (e::es)=true:=by rfl):
  QE X (.Call (.Name x p) (e::es) [] pos) (dX ks E ta t):=⟨fun pins s σ H Q I h=>by
 have h':(cf e&&bv es)=true:=hs
 refine MV (thn (hg.out pins s σ H _ I h) fun u s1 ⟨y,H1,I1,ry,f,ey,⟨ts,hts,cs,cvs,ca⟩,q⟩=>?_)
 subst ey
 obtain rfl:u=Mn f:=ry
 refine W.callWith_F (mX I1.hok ca) (thn (ha.out pos pins s1 σ H1 _ I1 q) fun us s2 ⟨vs,H2,I2,rv,ts2,hm2,cs2,cvs2,ca2,hl,hsp⟩=>⟨mX I2.hok ca2,?_⟩)
  (be (LX.mp h').1 es X.env) (ck (LX.mp h').2)
 refine ON (Nw ((hk ts2 hm2).run X.A X.stack s2 H2 f cs2 us vs cvs2 Q (E σ) hr I2.env0 ca2 rv hl hsp) fun r s' hq=>?_)
 cases r with
 |error e=>exact hx pins σ H2 s2 e s' I2 hq
 |ok fl=>
  cases fl with
  |ret u=>exact I2.after hq
  |next=>exact MB hq
  |brk=>exact MB hq
  |cont=>exact MB hq⟩
end
structure gb where
 nx:St->Hp->Prop
 rt:St->VK
abbrev TSM:=gb->St->Hp->Prop
def SPM (X:Cx)(pins:List (Addr×Obj))(D:gb)(f:Flow)(s':If):Prop:=
 match f with
 |.next=>∃σ' H',Inv X pins σ' H' s'/\D.nx σ' H'
 |.ret u=>∃v σ' H',Inv X pins σ' H' s'/\aS v u/\D.rt σ' v H'
 |_=>False
structure QM (X:Cx)(st:Stmt)(t:TSM):Prop where
 out:∀(pins:List (Addr×Obj))(s:If)(σ:St)(H:Hp)(D:gb),Inv X pins σ H s->t D σ H->wpAny (model X.prog X.w) X.A (exec st X.env) (SPM X pins D) X.xe s
structure QMs (X:Cx)(st:List Stmt)(t:TSM):Prop where
 out:∀(pins:List (Addr×Obj))(s:If)(σ:St)(H:Hp)(D:gb),Inv X pins σ H s->t D σ H->wpAny (model X.prog X.w) X.A (execs st X.env) (SPM X pins D) X.xe s
def fH:TSM:=fun D σ H=>D.nx σ H
def bH (t u:TSM):TSM:=fun D σ H=>t {D with nx:=fun σ' H'=>u D σ' H'} σ H
def bF (t:TS):TSM:=fun D σ H=>t {nx:=D.nx,rt:=fun _ _=>False} σ H
def fg (te:TE):TSM:=fun D σ H=>te σ H (D.rt σ)
def gQ (c:TT)(t u:TSM):TSM:=fun D σ H=>c σ H fun b H1=>Sel b (t D σ H1) (u D σ H1)
section
variable {X:Cx}{st:Stmt}{sts l m:List Stmt}{t u:TSM}{tS:TS}{e c:Expr}{te:TE}{tc:TT}{pos:Pos}
def bA (h:QS X st tS):QM X st (bF tS):=⟨fun pins s σ H D I hq=>thn (h.out pins s σ H _ I hq) fun f s1 q=>by
 cases f with
 |next=>exact q
 |ret v=>obtain⟨_,_,_,_,_,z⟩:=q;exact z.elim
 |brk=>obtain⟨_,_,_,z⟩:=q;exact z.elim
 |cont=>obtain⟨_,_,_,z⟩:=q;exact z.elim⟩
def ej (h:QE X e te):QM X (.Return (some e) pos) (fg te):=⟨fun pins s σ H D I hq=>
 TV (thn (h.out pins s σ H _ I hq) fun v s1 ⟨x,H1,I1,r1,q1⟩=>⟨x,σ,H1,I1,r1,q1⟩)⟩
def ip (hc:QT X c tc)(ha:QMs X l t)(hb:QMs X m u):QM X (.If c l m pos) (gQ tc t u):=⟨fun pins s σ H D I h=>by
 refine wpAny_If (thn (hc.out pins s σ H _ I h) fun d s1 ⟨H1,I1,q1⟩=>?_)
 have q1:=dI q1
 cases d with
 |true=>exact ha.out pins s1 σ H1 D I1 q1
 |false=>exact hb.out pins s1 σ H1 D I1 q1⟩
def fZ:QMs X [] fH:=⟨fun _ _ σ H _ I h=>Om ⟨σ,H,I,h⟩⟩
def bn (h1:QM X st t)(h2:QMs X sts u):QMs X (st::sts) (bH t u):=⟨fun pins s σ H D I h=>by
 refine Py (thn (h1.out pins s σ H _ I h) fun f s1 q=>?_)
 cases f with
 |next=>
  obtain⟨σ',H',I',q⟩:=q
  exact h2.out pins s1 σ' H' D I' q
 |ret v=>exact q
 |brk=>exact q
 |cont=>exact q⟩
def cT (h1:QM X st t):QMs X [st] t:=⟨fun pins s σ H D I h=>by
 refine Py (thn (h1.out pins s σ H D I h) fun f s1 q=>?_)
 cases f with
 |next=>exact Om q
 |ret v=>exact q
 |brk=>exact q
 |cont=>exact q⟩
end
def br:List (Nat×Addr)->St->Hp->Hp
 |[],_,H=>H
 |(i,c)::r,σ,H=>match σ[i]? with
  |some (some v)=>br r σ (upd H c (bB c v))
  |_=>br r σ H
theorem jr {P:Ms}{w:MG}{fs:List Addr}{H:Hp}{h h':Heap}{σ:St}:∀(cs:List (Nat×Addr))(H':Hp),(cs.map (·.2)).Nodup->(∀p∈cs,H' p.2=none/\h.objs.size<=p.2/\∀v,σ[p.1]? =some (some v)->∃u o,aS v u/\h'.get? p.2=some o/\o.data=.cell (some u))->
  Un fs [] H H' h h'->HOk P w H' h'->Un fs [] H (br cs σ H') h h'/\HOk P w (br cs σ H') h'
 |[],H',_,_,u,ok=>⟨u,ok⟩
 |(i,c)::r,H',nd,hc,u,ok=>by
  unfold br
  have ndr:=(MQ.mp nd).2
  have hcr:∀p∈r,H' p.2=none/\h.objs.size<=p.2/\∀v,σ[p.1]? =some (some v)->∃u o,aS v u/\h'.get? p.2=some o/\o.data=.cell (some u):=fun p hp=>hc p (Mm _ hp)
  split
  ·rename_i v hv
   obtain⟨hn,hge,hcell⟩:=hc (i,c) MD
   have hn:H' c=none:=hn
   have hge:h.objs.size<=c:=hge
   obtain⟨uv,o,ru,eo,hd⟩:=hcell v hv
   have eo:h'.get? c=some o:=eo
   refine jr r (upd H' c (bB c v)) ndr (fun p hp=>⟨?_,(hcr p hp).2⟩) ⟨u.keep,u.slot,fun b ob e n hx=>?_,u.there,fun b xs e=>?_,fun b ob z e=>?_,fun b ps e=>?_⟩ fun b ob e=>?_
   ·have:p.2≠c:=fun z=>(MQ.mp nd).1 (by rw[<-z];exact Nf.mpr ⟨p,hp,rfl⟩)
    rw[ao this];exact(hcr p hp).1
   ·rw[ao (Ml (Mg (Ma e) hge))];exact u.free b ob e n hx
   ·have z:=u.tups b xs e;rw[ao (av z hn)];exact z
   ·have z:=u.frzs b ob _ e;rw[ao (av z hn)];exact z
   ·obtain⟨more,z⟩:=u.tbls b ps e;exact⟨more,by rw[ao (av z hn)];exact z⟩
   ·by_cases hb:b=c
    ·subst hb
     rw[ag]at e;cases e
     refine⟨⟨uv,o,ru,eo,hd⟩,⟨o,eo⟩,?_⟩
     rintro h1 h2 ⟨u',o',r',e',d'⟩ k
     exact⟨u',o',r',k _ e',d'⟩
    ·rw[ao hb]at e
     exact(ok b ob e).stay (fun a q _ z=>z) (fun a q=>by rw[ao (av q hn)];exact q) fun a xs q=>by rw[ao (av q hn)];exact q
  ·exact jr r H' ndr hcr u ok
def Fun.okM {P:Ms}{w:MG}{K:cW}{mg:Str->Option tx}{base:Heap}{x qual:Str}{st:Stmt}{f c0:Addr}{fd:Mc}{N ps:List Str}{k:Nat}{sp:Sp}{caps:Nat->List (Nat×Addr)}(F:Fun K x qual st f fd)(hcd:fd.code=.ref c0)(S:aD N ps (am st))(len:∀vs H Q E,sp vs H Q E->vs.length=ps.length)
  (hcaps:∀(L:Nat)(p:Nat×Addr),p∈caps L->∃y,N[p.1]? =some y/\(am st).names.lookup y=some .cell/\(cellsFrom (L+1) (am st).names []).lookup y=some p.2)(hnd:∀L,((caps L).map (·.2)).Nodup)
  (hbody:∀(A:Mw)(outer:List Env)(s:If)(H:Hp)(vs:List V)(Q:VK)(E:XK),aX k (A.deeper (envOfC qual (am st) s.heap.objs.size f (.ref c0)))->sp vs H Q E->
   ∃t,QMs (cq (CX1 P w) P w K mg base N qual (am st) f (.ref c0) A outer s H E) (aK st) t/\t {nx:=fun σ H'=>(∀p∈caps s.heap.objs.size,H' p.2=none)->Q .non (br (caps s.heap.objs.size) σ H'),rt:=fun σ v H'=>(∀p∈caps s.heap.objs.size,H' p.2=none)->Q v (br (caps s.heap.objs.size) σ H')} (start N vs) H):aP P w K mg base (CX1 P w) (k+1) f fd ps sp:=by
 obtain⟨oc,od,kV,doc,pm,an,cdv,ct,osl,rfl,lk,hcd'⟩:=F.ex
 obtain rfl:cdv=.ref c0:=hcd
 refine⟨len,fun A outer s H args us vs Q E hr e0 hb r hsp=>?_⟩
 have hl:=len _ _ _ _ hsp
 have KX:K.In s.heap:=e0.mod.kin.keeps fun b o e=>(e0.bs b o e).1
 have lim:s.heap.NoLimit:=e0.mod.nolimit.keeps fun b o e=>(e0.bs b o e).1
 have hkind:∀y∈ps.zip us,(am st).names.lookup y.1=some .local\/((am st).names.lookup y.1=some .cell/\((cellsFrom (s.heap.objs.size+1) (am st).names []).lookup y.1).isSome=true):=fun⟨n,v⟩ hy=>by
  rcases S.par n (Nm hy).1 with q|q
  ·exact .inl q
  ·exact .inr ⟨q,QY _ _ _ (.inl q)⟩
 refine PV hr.depth (KX _ _ lk) rfl S.co S.gen rfl (W.codeRec_of KX hcd') (hb _ _ _ _ ?_)
 refine RB S.kind hkind fun env he s1 x=>?_
 subst he
 refine⟨lim.keeps x.toInCall.keep,SD ?_⟩
 obtain⟨t,ht,hq⟩:=hbody A outer s H vs Q E (hr.deeper _) hsp
 have I:Inv (cq (CX1 P w) P w K mg base N qual (am st) f (.ref c0) A outer s H E) [] (start N vs) H s1:=oW S hr.hd e0 hl r x
 refine Mx (ht.out [] s1 (start N vs) H _ I hq) (fun fl s' hs=>?_) fun e s' hs=>hs
 have fin:∀{σ':St}{H':Hp}{v:V}{u:tx},Inv (cq (CX1 P w) P w K mg base N qual (am st) f (.ref c0) A outer s H E) [] σ' H' s'->aS v u->((∀p∈caps s.heap.objs.size,H' p.2=none)->Q v (br (caps s.heap.objs.size) σ' H'))->CE outer P w H s Q u s':=
  fun{σ' H' v u} J rv q=>by
   have free:∀p∈caps s.heap.objs.size,H' p.2=none:=fun p hp=>by
    obtain⟨y,_,_,hc⟩:=hcaps _ p hp
    exact J.freeC y p.2 hc
   have hcond:∀p∈caps s.heap.objs.size,H' p.2=none/\s.heap.objs.size<=p.2/\∀v,σ'[p.1]? =some (some v)->∃u o,aS v u/\s'.heap.get? p.2=some o/\o.data=.cell (some u):=fun p hp=>by
    obtain⟨y,hy,hk,hc⟩:=hcaps _ p hp
    refine⟨free p hp,J.ok.cab y p.2 rfl hc,fun v hv=>?_⟩
    obtain⟨m,_,hloc⟩:=J.loc
    obtain⟨u',r',lk'⟩:=hloc p.1 y v hy hv (.inr (.inl hk))
    rcases lk' with⟨z,_⟩|⟨_,c,ec,o,eo,hd⟩
    ·have z:(am st).names.lookup y=some .local:=z
     rw[hk]at z;cases z
    ·have ec:(cellsFrom (s.heap.objs.size+1) (am st).names []).lookup y=some c:=ec
     rw[hc]at ec;cases ec
     exact⟨u',o,r',eo,hd⟩
   obtain⟨un,ok⟩:=jr (P:=P) (w:=w) (σ:=σ') (caps s.heap.objs.size) H' (hnd _) hcond J.base J.hok
   exact⟨v,_,J.os,J.bare,un,ok,rv,q free⟩
 cases fl with
 |ret u=>
  obtain⟨v,σ',H',J,rv,q⟩:=hs
  exact fin J rv q
 |next=>
  obtain⟨σ',H',J,q⟩:=hs
  exact fin (v:=V.non) (u:=Oj) J rfl q
 |brk=>exact MB hs
 |cont=>exact MB hs
def wO {P:Ms}{w:MG}{K:cW}{mg mb:Str->Option tx}{CX:CXT}{k:Nat}{fa a:Addr}{fd:Mc}{x:Str}{sp:Sp}{s₁:If}{vs:List tx}{ns:List Int}{tabs:List (Addr×Addr)}
  (KX:K.In s₁.heap)(hns:s₁.heap.Ns mainGlobals mg)(hb:s₁.heap.Ns builtinsNs mb)(hbb:∀x:Str,x≠"__name__"->mb x=bootBuiltins x)(hlim:s₁.heap.NoLimit)(hg:s₁.gens=#[])(hB:BM mg s₁.heap)
  (hT:∀q∈tabs,MZ s₁.heap q.1 q.2/\s₁.heap.get? q.2=some (RJ #[]))(hKT:RK K=true)
  (ha:s₁.heap.get? a=some {cls:=.type "list",data:=.seq vs.toArray})(hi:Tt vs ns)(hl:ns.length<=sizeLine)(hr:aX k callerA)
  (F:∀base:Heap,K.In base->base.Ns mainGlobals mg->BM mg base->(∀q∈tabs,MZ base q.1 q.2)->aP P w K mg base CX k fa fd [x] sp)(hbind:∀(s:If)(u:tx),Si s fd ⟨[u],[]⟩ [(x,u)])
  (hsp:∀H:Hp,(∀q∈tabs,H q.2=some (.tbl #[]))->SqL K H a (ns.map V.int)->sp [.ref a] H (fun v _=>v=.bl true) fun _ _ _=>False)
  (hCX:∀H e s',CX [] H s₁ (fun _ _ _=>False) e s'->False):
  codeAny (model P w) callerA (.call (.ref fa) ⟨[.ref a],[]⟩) (fun r s'=>r=.ok (.ret (.bool true))/\OldK s₁.heap s'.heap/\s'.os=s₁.os/\Pe s'.gens) s₁:=by
 have rv:=oH hi
 have lenV:=hi.length
 have tabK:∀q∈tabs,K.lookup q.2=none:=fun q hq=>by
  cases e:K.lookup q.2 with
  |none=>rfl
  |some o=>
   have e2:=KX _ _ e
   rw[(hT q hq).2]at e2;cases e2
   have:=Na.mp hKT _ (W.mem_of_lookupK e)
   exact absurd (show false=true from this) Mo
 have tabA:∀q∈tabs,q.2≠a:=fun q hq e=>by
  have e2:=(hT q hq).2
  rw[e,ha]at e2;cases e2
 have core:∀H:Hp,(∀q∈tabs,H q.2=some (.tbl #[]))->SqL K H a (ns.map V.int)->HOk P w H s₁.heap->(∀b,H b≠none->(b=a/\∃o xs,H b=some (.frz o (.lst xs)))\/∃q∈tabs,q.2=b)->(∀b,H b≠none->K.lookup b=none)->
   codeAny (model P w) callerA (.call (.ref fa) ⟨[.ref a],[]⟩) (fun r s'=>r=.ok (.ret (.bool true))/\OldK s₁.heap s'.heap/\s'.os=s₁.os/\Pe s'.gens) s₁:=by
  intro H hO hS hok hA hK
  have base_of:∀{b:Addr}{o:Obj},s₁.heap.get? b=some o->H b=none->(ik s₁.heap H).get? b=some o:=fun e n=>yb e n
  have noA:∀{b:Addr}{o:Obj},s₁.heap.get? b=some o->o.cls≠.none->o.cls≠.type "list"->H b=none:=fun{b o} e c1 c2=>by
   cases q:H b with
   |none=>rfl
   |some u=>
    rcases hA b (by rw[q];simp)with⟨rfl,_⟩|⟨p,hp,rfl⟩
    ·rw[ha]at e;cases e;exact absurd rfl c2
    ·rw[(hT p hp).2]at e;cases e;exact absurd rfl c1
  have noD:∀{b:Addr}{o:Obj}{es:Array DictEntry}{ep:Nat},s₁.heap.get? b=some o->o.data=.dict es ep->H b=none:=fun{b o es ep} e d=>by
   cases q:H b with
   |none=>rfl
   |some u=>
    rcases hA b (by rw[q];simp)with⟨rfl,_⟩|⟨p,hp,rfl⟩
    ·rw[ha]at e;cases e;cases d
    ·rw[(hT p hp).2]at e;cases e;cases d
  have nsK:∀{b:Addr}{m:Str->Option tx},s₁.heap.Ns b m->(ik s₁.heap H).Ns b m:=fun{b m}⟨o,es,ep,e,d,r⟩=>⟨o,es,ep,base_of e (noD e d),d,r⟩
  have hKb:K.In (ik s₁.heap H):=fun b o e=>base_of (KX b o e) (by
   cases q:H b with
   |none=>rfl
   |some u=>rw[hK b (by rw[q];simp)]at e;cases e)
  have hBb:BM mg (ik s₁.heap H):=by
   obtain⟨bm,ob,b1,b2,b3,b4,b5,b6⟩:=hB
   exact⟨bm,ob,b1,b2,base_of b3 (noA b3 (by rw[b4];intro z;cases z) (by rw[b4];intro z;exact absurd (RM z) (by decide))),b4,b5,b6⟩
  have hCb:∀q∈tabs,MZ (ik s₁.heap H) q.1 q.2:=fun q hq=>by
   obtain⟨o,vs,file,tf,flags,tg,inF,text,tt,e1,e2,r⟩:=(hT q hq).1
   exact⟨o,vs,file,tf,flags,tg,inF,text,tt,base_of e1 (noA e1 (by rw[e2];intro z;cases z) (by rw[e2];intro z;exact absurd (RM z) (by decide))),e2,r⟩
  have hM:Mod K mg (ik s₁.heap H):=⟨hKb,nsK hns,⟨mb,nsK hb,hbb⟩,let ⟨mc,h1,h2⟩:=hlim;⟨mc,nsK h1,h2⟩⟩
  have e0:iK P w K mg (ik s₁.heap H) callerA [] s₁ H:=⟨rfl,hM,fun b o e=>Av e,QF (wq _ _),trivial,fun b hb=>absurd (show b∈([]:List Addr)from hb) (by simp),hok,.of_eq hg⟩
  refine Nw ((F _ hKb (nsK hns) hBb hCb).run callerA [] s₁ H ⟨[.ref a],[]⟩ [.ref a] [.ref a] _ _ hr e0 (hbind s₁ (.ref a)) (.cons rfl .nil) (hsp H hO hS)) fun r s' h=>?_
  cases r with
  |error e=>exact(hCX H e s' h).elim
  |ok fl=>
   cases fl with
   |next=>exact MB h
   |brk=>exact MB h
   |cont=>exact MB h
   |ret u=>
    obtain⟨v,H',os,bare,un,hok',r',q⟩:=h
    have q':v=.bl true:=q
    subst q'
    obtain rfl:u=NP true:=r'
    have all:∀b o,s₁.heap.get? b=some o->s'.heap.get? b=some o\/∃q∈tabs,q.2=b/\∃more,s'.heap.get? b=some (RJ more):=fun b o e=>by
     cases q:H b with
     |none=>exact .inl (un.keep b o e q (by intro z;exact absurd (show b∈([]:List Addr)from z) (by simp)) (by simp))
     |some u=>
      rcases hA b (by rw[q];simp)with⟨rfl,ob,xs,z⟩|⟨p,hp,rfl⟩
      ·have z2:=un.frzs b ob _ z
       obtain⟨e1,_⟩:=hok b _ z
       obtain⟨e2,_⟩:=hok' b _ z2
       rw[e]at e1;cases e1
       exact .inl e2
      ·obtain⟨more,z2⟩:=un.tbls p.2 _ (hO p hp)
       exact .inr ⟨p,hp,rfl,_,hok' p.2 _ z2⟩
    refine⟨rfl,⟨fun b o e=>?_,fun b o e=>?_⟩,os,bare⟩
    ·rcases all b o e with z|⟨p,hp,rfl,more,z⟩
     ·exact .inl z
     ·have e2:=(hT p hp).2
      rw[e]at e2;cases e2
      exact .inr (.inl ⟨((hT p hp).1.tab (hT p hp).2).isCodeTable,rfl,#[],more,rfl,by rw[Array.empty_append];exact z⟩)
    ·rcases all b o e with z|⟨p,hp,rfl,more,z⟩
     ·exact⟨_,z⟩
     ·exact⟨_,z⟩
 cases hk:K.lookup a with
 |some o=>
  have e:=KX a o hk
  rw[ha]at e
  cases e
  refine core (fun b=>if b∈tabs.map (·.2)then some (.tbl #[])else none) (fun q hq=>if_pos (Nf.mpr ⟨q,hq,rfl⟩)) (.inr ⟨_,vs.toArray,_,hk,rfl,rfl,rfl,by rw[Me,lenV];exact hl,by simpa using rv⟩) (fun b u z=>?_) (fun b z=>?_) fun b z=>?_
  ·by_cases hb:b∈tabs.map (·.2)
   ·have z':=(if_pos hb).symm.trans z
    cases z'
    obtain⟨q,hq,rfl⟩:=Nf.mp hb
    exact(hT q hq).2
   ·have z':=(if_neg hb).symm.trans z
    cases z'
  ·by_cases hb:b∈tabs.map (·.2)
   ·obtain⟨q,hq,e⟩:=Nf.mp hb
    exact .inr ⟨q,hq,e⟩
   ·exact absurd (if_neg hb) z
  ·by_cases hb:b∈tabs.map (·.2)
   ·obtain⟨q,hq,rfl⟩:=Nf.mp hb
    exact tabK q hq
   ·exact absurd (if_neg hb) z
 |none=>
  refine core (fun b=>if b=a then some (.frz {cls:=.type "list",data:=.seq vs.toArray} (.lst (ns.map V.int)))else if b∈tabs.map (·.2)then some (.tbl #[])else none)
   (fun q hq=>by show(if q.2=a then _ else _)=_;rw[if_neg (tabA q hq),if_pos (Nf.mpr ⟨q,hq,rfl⟩)]) (.inl (.inr ⟨{cls:=.type "list",data:=.seq vs.toArray},if_pos rfl⟩)) (fun b u z=>?_) (fun b z=>?_) fun b z=>?_
  ·by_cases hb:b=a
   ·have z':=(if_pos hb).symm.trans z
    cases z'
    subst hb
    exact⟨ha,by rw[Mf];exact hl,vs,_,rv,ha⟩
   ·have z':(if b∈tabs.map (·.2)then some (HO.tbl #[])else none)=some u:=(if_neg hb).symm.trans z
    by_cases hb2:b∈tabs.map (·.2)
    ·rw[if_pos hb2]at z';cases z'
     obtain⟨q,hq,rfl⟩:=Nf.mp hb2
     exact(hT q hq).2
    ·rw[if_neg hb2]at z';cases z'
  ·by_cases hb:b=a
   ·exact .inl ⟨hb,_,_,if_pos hb⟩
   ·by_cases hb2:b∈tabs.map (·.2)
    ·obtain⟨q,hq,e⟩:=Nf.mp hb2
     exact .inr ⟨q,hq,e⟩
    ·exact absurd ((if_neg hb).trans (if_neg hb2)) z
  ·by_cases hb:b=a
   ·rw[hb];exact hk
   ·by_cases hb2:b∈tabs.map (·.2)
    ·obtain⟨q,hq,rfl⟩:=Nf.mp hb2
     exact tabK q hq
    ·exact absurd ((if_neg hb).trans (if_neg hb2)) z
def yr {l:W.OpenLaw}{n k:Nat}{q:Ms}{loose:List Str}{XP:(Str->Option tx)->Heap->Prop}{YP:MG->Heap->Prop}{d:DefRec}{K:Params->cW}{CX:MG->CXT}{x:Str}{names:List Str}
  (hn:l.most=some n)(hn2:n<=sizeLine)(hdf:d.params.defaults=[])(hr:aX k callerA)
  (hY:∀(w:MG)(h:Heap),YP w h->(K w.params).In h)
  (hq:∀y∈names,((QR q).find? fun e=>e.name==y).isSome=true)
  (F:∀(w:MG)(mg:Str->Option tx)(fa:Addr)(h:Heap),(K w.params).In h->h.Ns mainGlobals mg->mg d.name=some (.ref fa)->
   ∃(fd:Mc)(tabs:List (Addr×Addr))(sp:Sp),(∀(s:If)(u:tx),Si s fd ⟨[u],[]⟩ [(x,u)])/\RK (K w.params)=true/\(∀t∈tabs,∃y∈names,ND (K w.params) y=some t)/\
    (∀base:Heap,(K w.params).In base->base.Ns mainGlobals mg->BM mg base->(∀t∈tabs,MZ base t.1 t.2)->aP l.prog w (K w.params) mg base (CX w) k fa fd [x] sp)/\
    ∀(H:Hp)(a:Addr)(ns:List Int),ns.length<=n->(∀t∈tabs,H t.2=some (.tbl #[]))->SqL (K w.params) H a (ns.map V.int)->sp [.ref a] H (fun v _=>v=.bl true) fun _ _ _=>False)
  (hCX:∀(w:MG)(H:Hp)(s:If)(e:tx)(s':If),CX w [] H s (fun _ _ _=>False) e s'->False):
  W.WalkO q loose XP YP l.row.toRowW d [] (fun f vs=>Sf f vs):=by
 refine Att.attach_call hn hdf fun w s₀ s₁ mg mb fa o pm cd doc a vs ns G Y ho hd hcd hmg hobj hints hlen hg=>?_
 have KX:=hY w _ Y
 obtain⟨fd,tabs,sp,hb,hKT,htabs,hF,hsp⟩:=F w mg fa _ KX G.T.g hmg
 refine wO (tabs:=tabs) KX G.T.g G.T.b G.T.builtins G.T.nolimit hg G.T.bmain (fun t ht=>?_) hKT hobj hints (Mv hlen hn2) hr hF hb (fun H hO hS=>hsp H a ns hlen hO hS) fun H e s'=>hCX w H s₁ e s'
 obtain⟨y,hy,e⟩:=htabs t ht
 obtain⟨dd,hdd⟩:=Mt.mp (hq y hy)
 exact W.tab_of G.T KX hdd e
section
variable {X:Cx}
def SPM.unwish {E:tx->If->Prop}{pins:List (Addr×Obj)}{D:gb}{f:Flow}{s':If}(h:SPM (X.wish E) pins D f s'):SPM X pins D f s':=by
 cases f with
 |next=>obtain⟨σ',H',I,q⟩:=h;exact⟨σ',H',I.unwish,q⟩
 |brk=>exact h
 |cont=>exact h
 |ret u=>obtain⟨v,σ',H',I,r,q⟩:=h;exact⟨v,σ',H',I.unwish,r,q⟩
def QMs.nox {st:List Stmt}{t:TSM}(h:QMs X.nox st t):QMs X st t:=⟨fun pins s σ H D I hw=>
 Mx (h.out pins s σ H D (I.wish _) hw) (fun _ _ q=>SPM.unwish q) fun _ _ z=>MB z⟩
def eG.mono {P:Ms}{w:MG}{K:cW}{mg:Str->Option tx}{base:Heap}{j k:Nat}{t:cz}{sp:Sp}(F:eG P w K mg base j t sp)(h:j<=k):eG P w K mg base k t sp:=
 ⟨fun A outer s H f cs us vs cvs Q E hr=>F.run A outer s H f cs us vs cvs Q E (hr.mono h)⟩
def tB:V->List V->Hp->VK->Prop:=fun x vs H Q=>∃a y d r H',x=.ref a/\vs=[y,d]/\DN H a y d r H'/\Q r H'
def wf (hu:X.A.units+1<cLine):MtR X "dict.setdefault" tB:=by
 intro pins s σ H x xs v us Q I rx rs h
 obtain⟨a,y,d,r,H',rfl,rfl,g,q⟩:=h
 obtain rfl:v=Mn a:=rx
 obtain⟨uy,ud,rfl,ry,rd⟩:=mI rs
 rcases g with⟨g,rfl⟩|⟨g,p,rfl⟩
 ·rcases g with⟨kvs,k,e,rfl,l⟩|⟨kvs,k,b,e,rfl,eb,l⟩
  ·obtain⟨z,hd,vs,rel,dd⟩:=jo I.hok e
   obtain⟨w',hw,rw'⟩:=cO.some_of (v:=r) (o:=valueAt vs k) (by rw[l];exact rel.val k)
   exact SE Nk dd.typeIs NF (NA _ _ _) (Tp (cJ X.prog X.w) a (jG ry) hd ud)
    ⟨vs,dd,by rw[<-rel.length];exact z,(fun v' hv'=>by rw[hw]at hv';cases hv';exact⟨r,H',I.tok _,rw',q⟩),(fun hn=>by rw[hw]at hn;cases hn)⟩
  ·cases (show uy=Mn b from ry)
   obtain⟨z,hd,xs,rel,dd⟩:=kM I.hok e
   obtain⟨w',hw,rw'⟩:=cO.some_of (v:=r) (o:=(atKey xs k).map (·.2)) (by rw[l];exact rel.val k)
   obtain⟨pp,hp,hp2⟩:=Rr.mp hw
   refine OG Nk dd.typeIs NF ?_ (NA _ _ _)
   unfold PZ.«dict.setdefault»
   refine gV ?_
   unfold PY
   refine gV (Sy dd.typeIs ?_)
   show wpAny _ _ (pure (a,Mn b,some ud)) _ _ s
   refine LY ?_
   show wpAny _ _ (if (a==sysModules)=true then _ else(dictSetDefault a (.ref b) ud>>=_)) _ _ s
   rw[if_neg (by rw[hd];exact Mo)]
   refine gV (gc (NR hu) (ir I.hok eb) dd (fun p' hp'=>?_) (fun hn=>?_) (by rw[<-Paired.length rel];exact z))
   ·rw[hp]at hp';cases hp'
    exact LY ⟨_,rfl,⟨r,H',I.tok _,by rw[hp2];exact rw',q⟩⟩
   ·rw[hp]at hn;cases hn
 ·rcases g with⟨kvs,k,e,rfl,l⟩|⟨kvs,k,b,e,rfl,eb,l⟩
  ·rcases p with⟨kvs',k',e',ey,lz,rfl⟩|⟨kvs',k',b',e',ey,_⟩
   ·have ek:k=k':=by cases k<;>cases k'<;>first|(cases ey;rfl)|cases ey
    subst ek
    obtain⟨z,hd,vs,rel,dd⟩:=An I.hok e'
    have ee:kvs=kvs':=by
     rcases e with e|⟨o,e⟩
     ·rw[e']at e;cases e;rfl
     ·rw[e']at e;cases e
    subst ee
    have hn:valueAt vs k=none:=cO.none_of (by rw[l];exact rel.val k)
    refine SE Nk dd.typeIs NF (NA _ _ _) (Tp (cJ X.prog X.w) a (jG ry) hd ud)
     ⟨vs,dd,by rw[<-rel.length];exact z,(fun v' hv'=>by rw[hn]at hv';cases hv'),fun _ h' dd' hs=>?_⟩
    have he:∃q,h'.get? a=some q:=let ⟨q,_,_,hq,_⟩:=dd';⟨q,hq⟩
    have hl:(bu kvs k r).length<=sizeLine:=by have:=dW kvs k r;omega
    exact⟨r,_,kT I (by rw[e'];exact Ng) hs he (wD hl hd (rel.put k rd) dd'),rd,q⟩
   ·cases k<;>cases ey
  ·rcases p with⟨kvs',k',e',ey,_⟩|⟨kvs',k',b',e',ey,eb',lz,rfl⟩
   ·cases k'<;>cases ey
   ·cases ey
    have ek:k=k':=nv (HO.tup.inj (LW (eb.symm.trans eb')))
    subst ek
    cases (show uy=Mn b from ry)
    obtain⟨z,hd,xs,rel,dd⟩:=um I.hok e'
    have ee:kvs=kvs':=by
     rcases e with e|⟨o,e⟩
     ·rw[e']at e;cases e;rfl
     ·rw[e']at e;cases e
    subst ee
    have hn:atKey xs k=none:=by
     have:=cO.none_of (o:=(atKey xs k).map (·.2)) (by rw[l];exact rel.val k)
     exact Option.map_eq_none_iff.mp this
    refine OG Nk dd.typeIs NF ?_ (NA _ _ _)
    unfold PZ.«dict.setdefault»
    refine gV ?_
    unfold PY
    refine gV (Sy dd.typeIs ?_)
    show wpAny _ _ (pure (a,Mn b,some ud)) _ _ s
    refine LY ?_
    show wpAny _ _ (if (a==sysModules)=true then _ else(dictSetDefault a (.ref b) ud>>=_)) _ _ s
    rw[if_neg (by rw[hd];exact Mo)]
    refine gV (gc (NR hu) (ir I.hok eb) dd (fun p' hp'=>?_) (fun _ h' dd' hs=>?_) (by rw[<-Paired.length rel];exact z))
    ·rw[hn]at hp';cases hp'
    ·obtain⟨q',es,ep,hq,h2,h3,h4,_,h5⟩:=dd'
     have hl:(bu kvs k r).length<=sizeLine:=by have:=dW kvs k r;omega
     refine LY ⟨_,rfl,⟨r,_,kT (ob:=.dT (bu kvs k r)) I (by rw[e'];exact Ng) hs ⟨q',hq⟩ ⟨hl,hd,_,(rel.put k eb rd).keeps fun c ys ec=>?_,q',es,ep,hq,h2,h3,h4,h5⟩,rd,q⟩⟩
     rw[ao (aF ec e' (fun z=>nomatch z))]
     exact ec
def Its (z:Str):It:=⟨fun i _=>i<z.length,fun i H x H'=>H'=H/\∃c,z.cps[i]?=some c/\x=.str ⟨#[c]⟩,fun i _=>z.length<=i⟩
def zv {P:Ms}{w:MG}{K:cW}{tg:Expr}(z:Str)(t:Tok)(it:Addr):nS P w K tg (Its z) [it] it (fun i h=>h.IsStrIter it "str_ascii_iterator" z t i)where
 mem:=by simp
 obj:=fun i h st b hb=>by
  have e:b=it:=by simpa using hb
  subst e
  obtain⟨o,e,c,d⟩:=st
  exact⟨o,e,fun v z=>by rw[d]at z;cases z⟩
 keep:=fun i h h' st k=>let ⟨o,ho,r⟩:=st;⟨o,k it (by simp) o ho,r⟩
 item:=by
  intro X hP hw hK hc i pins s σ H E I hf st hg
  subst hP hw hK
  obtain⟨f0,f1,f2,f3,f4,f5⟩:=hf it (by simp)
  have hi:i<z.cps.size:=hg
  refine wpAny_pyNext_ascii_item st (c:=z.cps[i]) (OM hi) fun h' st' sb=>?_
  have I1:Inv X pins σ H {s with heap:=h',toks:=s.toks+1}:=I.turned (t':=s.toks+1) (fun b o hb e=>(sb.2 b hb).trans e) f0 f1 f3 f4 f5
  obtain⟨o,e,c,d⟩:=id st'
  exact⟨_,rfl,pZ (s:={s with heap:=h',toks:=s.toks+1}) e c d (by decide) ⟨.str ⟨#[z.cps[i]]⟩,H,I1,⟨_,rfl⟩,⟨rfl,_,OM hi,rfl⟩,st',fun b hb=>(hf b hb).1⟩⟩
 done:=by
  intro X hP hw hK hc i pins s σ H E I hf st hg
  subst hP hw hK
  obtain⟨f0,f1,f2,f3,f4,f5⟩:=hf it (by simp)
  exact wpAny_pyNext_ascii_end (I.ok.hd hc) st (Array.getElem?_eq_none (show z.cps.size<=i from hg)) fun h' eb=>⟨rfl,I.turned (t':=s.toks) (fun b o hb e=>eb b o hb e) f0 f1 f3 f4 f5⟩
 self:=fun A i s Q E st h=>by
  refine wpAny_pyIter_slot st.typeIs QQ (OG QQ st.typeIs F.entry_str_ascii_iterator_iter ?_ (F.args_str_ascii_iterator_iter_1 _))
  show wpAny _ _ (ret (.ref it)) _ _ s
  exact LY ⟨_,rfl,"str_ascii_iterator",_,st.typeIs,F.slot_str_ascii_iterator_next.lookup,h⟩
variable {a:Expr}{ta:TE}{tg:Expr}
def jx (K:cW)(tl:TE):TI:=fun σ H R=>tl σ H fun x H1=>match x with
 |.str z=>z.cps.all (·<128)=true/\R (Its z) H1
 |x=>∃a,x=.ref a/\(((∃xs,SqL K H1 a xs)/\R (Itl K a) H1)\/((∃xs,SqT K H1 a xs)/\R (Itt K a) H1))
def jm (h:QE X a ta):QI X tg a (jx X.K ta):=⟨fun pins s σ H R I hw=>by
 refine thn (h.out pins s σ H _ I hw) fun v s1 ⟨x,H1,I1,r1,q1⟩=>?_
 cases x with
 |str z=>
  obtain⟨t,rfl⟩:=r1
  refine wpAny_pyIter_ascii q1.1 ?_
  refine⟨s1.heap.objs.size,[s1.heap.objs.size],_,_,H1,rfl,I1.kept (t':=s1.toks) fun b o e=>Lt _ e,zv z t _,⟨_,Mu _ rfl,rfl,rfl⟩,fun b hb=>?_,q1.2⟩
  have e:b=s1.heap.objs.size:=by simpa using hb
  subst e
  exact I1.fpOk (pv _) (I1.hok.fresh (pv _))
 |ref c=>
  obtain⟨a,e,q⟩:=q1
  cases e
  cases r1
  rcases q with⟨⟨xs,hq⟩,q⟩|⟨⟨xs,hq⟩,q⟩
  ·obtain⟨its,rv,p,hz⟩:=I1.list hq
   refine TR (yj p) ?_
   refine⟨s1.heap.objs.size,[s1.heap.objs.size],_,_,H1,rfl,I1.kept (t':=s1.toks) fun b o e=>Lt _ e,xi _ _,⟨_,Mu _ rfl,rfl,rfl⟩,fun b hb=>?_,q⟩
   have e:b=s1.heap.objs.size:=by simpa using hb
   subst e
   exact I1.fpOk (pv _) (I1.hok.fresh (pv _))
  ·obtain⟨its,rv,p,hz⟩:=I1.tuple hq
   refine wpAny_pyIter_tuple (show s1.heap.IsTuple c its.toArray from p) ?_
   refine⟨s1.heap.objs.size,[s1.heap.objs.size],_,_,H1,rfl,I1.kept (t':=s1.toks) fun b o e=>Lt _ e,ua _ _,⟨_,Mu _ rfl,rfl,rfl⟩,fun b hb=>?_,q⟩
   have e:b=s1.heap.objs.size:=by simpa using hb
   subst e
   exact I1.fpOk (pv _) (I1.hok.fresh (pv _))
 |_=>obtain⟨_,e,_⟩:=q1;cases e⟩
def Bs:OpR X (binaryOp .Mult) (fun x y H Q=>∃z n,x=.str z/\y=.int n/\(-1000<=n/\n<=1000/\z.length<=1000)/\Q (.str (Txt.mul z n)) H):=by
 intro pins s σ H x y v u Q I rx ry h
 obtain⟨z,n,rfl,rfl,⟨h1,h2,h3⟩,q⟩:=h
 obtain⟨t,rfl⟩:=rx
 obtain⟨t',rfl⟩:=ry
 refine SB.mul ⟨?_,fun hn _=>?_,fun hn _=>?_⟩ fun t' k=>⟨.str _,H,I.tok k,⟨_,rfl⟩,q⟩
 ·rw[decide_eq_false (by omega),decide_eq_false (by omega)];rfl
 ·intro hgt
  have h5:(1000:Int)<=(2^63- 1)/n:=Int.le_ediv_of_mul_le (by omega) (by omega)
  omega
 ·have h6:z.length*n.toNat<=1000*1000:=Nat.mul_le_mul h3 (by omega)
  exact decide_eq_false (by rw[NL];omega)
end
def ub {α β:Type}(f:β->α->β)(b:β)(l:List α)(i:Nat)(x:α)(h:l[i]?=some x):(l.take (i+1)).foldl f b=f ((l.take i).foldl f b) x:=by
 rw[List.take_succ,h];simp
def kY {α β:Type}{f:α->β}{l:List α}{i:Nat}{x:β}(h:(l.map f)[i]?=some x):∃a,l[i]?=some a/\x=f a:=by
 rw[ME]at h
 cases e:l[i]? with
 |none=>rw[e]at h;cases h
 |some a=>rw[e]at h;cases h;exact⟨a,rfl,rfl⟩
def da.keep {H H':Hp}{f:Addr}{t:cz}{cs:List Addr}{cvs:List V}(k:∀b φ,H b=some (.ext φ)->H' b=some (.ext φ))(c:da H f t cs cvs):da H' f t cs cvs:=by
 obtain⟨⟨a,h1,h2⟩,h3⟩:=c
 refine⟨⟨a,k _ _ h1,k _ _ h2⟩,?_⟩
 clear h1 h2
 induction h3 with
 |nil=>exact .nil
 |cons r t ih=>exact .cons (k _ _ r) ih
def oQ (k:List Key):(k.map kV).all kf=true:=by
 rw[RG,Na]
 intro x _
 cases x<;>rfl
def oF (K:cW)(ns:List Str):Bool:=decide ((ns.map fun n=>(ND K n).map (·.2)).Nodup)
def yK {l:List Addr}(h:(l.map some).Nodup):l.Nodup:=Uu some (fun a b h e=>h (congrArg some e)) h
section
variable {X:Cx}
def zG:R2:=fun _ _ _ _=>False
def AJ:OpR X (binaryOp .Mult) zG:=fun _ _ _ _ _ _ _ _ _ _ _ _ h=>h.elim
def jE:R2:=fun x y H Q=>match x,y with
 |.str z,.int n=>(-1000<=n/\n<=1000/\z.length<=1000)/\Q (.str (Txt.mul z n)) H
 |.ref a,.int n=>zG (.ref a) (.int n) H Q
 |x,y=>xS x y H Q
def ml:OpR X (binaryOp .Mult) jE:=(Bs.or (AJ.or Ky)).imp fun x y H Q q=>by
 unfold jE at q
 split at q
 ·exact .inl ⟨_,_,rfl,rfl,q.1,q.2⟩
 ·exact .inr (.inl q)
 ·exact .inr (.inr q)
end
section
variable {X:Cx}
def BF:OpR X (compareOp .Is) (fun x y H Q=>∃b c,x=.bl b/\y=.bl c/\Q (.bl (decide (b=c))) H):=by
 intro pins s σ H x y v u Q I rx ry h
 obtain⟨b,c,rfl,rfl,q⟩:=h
 cases rx
 cases ry
 refine wpAny_is_plain (by rfl) (bD I q ?_)
 cases b<;>cases c<;>rfl
def nA:R2:=fun x y H Q=>match x,y with
 |.bl b,.bl c=>Q (.bl (decide (b=c))) H
 |x,y=>yZ x y H Q
def uO:OpR X (compareOp .Is) nA:=(BF.or oIs).imp fun x y H Q q=>by
 unfold nA at q
 split at q
 ·exact .inl ⟨_,_,rfl,rfl,q⟩
 ·exact .inr q
def vR {x y:Str}{px py ep pos:Pos}{ek:Nat}{e:Expr}{te:TE}(i j:Nat)(hN:X.N.Nodup)(hc:X.calm=true)(he:QE X e te)(hi:X.N[i]?=some x:=by rfl)(hj:X.N[j]?=some y:=by rfl)
  (hx:Loc X.env.scope x:=by first|exact .inl rfl|exact .inr rfl)(hy:Loc X.env.scope y:=by first|exact .inl rfl|exact .inr rfl)
  (fx:X.fn x=true\/X.env.scope.names.lookup x=some .local:=by first|exact .inl rfl|exact .inr rfl)(fy:X.fn y=true\/X.env.scope.names.lookup y=some .local:=by first|exact .inl rfl|exact .inr rfl)
  (hs:swapsWithSole [.Tuple [.Name x px,.Name y py] ek ep] e pos.line X.env=pure false:=by rfl)(hw:swappedStores [.Tuple [.Name x px,.Name y py] ek ep] e X.env=pure none:=by rfl):
  QS X (.Assign [.Tuple [.Name x px,.Name y py] ek ep] e pos) (aE te (kJ X.K 2 (cx (ay i) (cx (ay j) iS)))):=
 ⟨jZ he.out (qw hc (dA (dF hN hi hx fx) (dA (dF hN hj hy fy) lu))) hs hw⟩
end
end L2
namespace HT
open PySem PyProof.Rows
def sub_tuple_dict:isSubtype (.type "tuple") (.type "dict")=pure false:=by rw[RI];kernel_rfl
def nU:isSubtype (.type "dict") (.type "tuple")=pure false:=by rw[RI];kernel_rfl
def uh (l b:Addr)(o:Obj)(hc:o.cls=.type "dict")(o2:Obj)(hc2:o2.cls=.type "tuple"):
  Meets (PZ.«dict.__eq__» ⟨[.ref l,.ref b],[]⟩) (fun _ R s=>s.heap.get? l=some o/\s.heap.get? b=some o2/\R (.ok (.ret .notImplemented)) s):=
 .of_wp fun prog w A R s h=>by
  obtain⟨hp,g,d,tk,os⟩:=s;obtain⟨hl,hb,h⟩:=h;obtain⟨cls,dd,data,sl⟩:=o;obtain⟨cls2,dd2,data2,sl2⟩:=o2
  simp only at hc hc2;subst hc hc2
  have f1:=sub_tuple_dict;wp_walk using PU hl,PU hb;exact⟨_,rfl,h⟩
def rY (l b:Addr)(o:Obj)(hc:o.cls=.type "tuple")(o2:Obj)(hc2:o2.cls=.type "dict"):
  Meets (PZ.«tuple.__eq__» ⟨[.ref l,.ref b],[]⟩) (fun _ R s=>s.heap.get? l=some o/\s.heap.get? b=some o2/\R (.ok (.ret .notImplemented)) s):=
 .of_wp fun prog w A R s h=>by
  obtain⟨hp,g,d,tk,os⟩:=s;obtain⟨hl,hb,h⟩:=h;obtain⟨cls,dd,data,sl⟩:=o;obtain⟨cls2,dd2,data2,sl2⟩:=o2
  simp only at hc hc2;subst hc hc2
  have f1:=nU;wp_walk using PU hl,PU hb;exact⟨_,rfl,h⟩
end HT
namespace L2
open PySem PySem.Spec PyProof.Rows
section
variable {X:Cx}
def Ap (K:cW):R2:=fun x y H Q=>∃a b ys,x=.ref a/\y=.ref b/\((∃kvs,H a=some (.dK kvs))\/∃kvs,H a=some (.dT kvs))/\SqT K H b ys/\Q (.bl false) H
def AB (hu:X.A.units<cLine):OpR X (compareOp .Eq) (Ap X.K):=by
 intro pins s σ H x y v u Q I rx ry h
 obtain⟨a,b,ys,rfl,rfl,ha,hb,q⟩:=h
 cases rx
 cases ry
 obtain⟨its,_,p1,_⟩:=I.tuple hb
 obtain⟨o2,ho2,hc2,_⟩:=id p1
 obtain⟨o,ho,hc⟩:∃o,s.heap.get? a=some o/\o.cls=.type "dict":=by
  rcases ha with⟨kvs,e⟩|⟨kvs,e⟩
  ·obtain⟨_,_,_,_,o,_,_,h1,h2,_⟩:=(show bg X.prog X.w H s.heap a (.dK kvs)from I.hok a _ e)
   exact⟨o,h1,h2.1⟩
  ·obtain⟨_,_,_,_,o,_,_,h1,h2,_⟩:=(show bg X.prog X.w H s.heap a (.dT kvs)from I.hok a _ e)
   exact⟨o,h1,h2.1⟩
 have hne:a≠b:=fun e=>by
  subst e
  rw[ho]at ho2;cases ho2
  rw[hc]at hc2;exact absurd hc2 (by simp)
 show wpAny _ _ (richCompare .Eq (.ref a) (.ref b)) _ _ s
 exact SeqAt.rc_eq_decline_or (k:=false) ⟨_,ho,hc⟩ ⟨_,ho2,hc2⟩ (by decide) F.sub_tuple_dict F.slot_dict_eq So
  (fun _ hq=>TZ F.slot_dict_eq ⟨_,ho,hc⟩ F.entry_dict_eq (F.args_dict_eq_2 _ _) (HT.uh a b o hc o2 hc2) ⟨ho,ho2,hq⟩)
  (fun _ hq=>TZ So ⟨_,ho2,hc2⟩ F.entry_tuple_eq (F.args_tuple_eq_2 _ _) (HT.rY b a o2 hc2 o hc) ⟨ho2,ho,hq⟩)
  (fun _ hq=>wpAny_isSame_ref_other hne ho ho2 (by rw[hc];simp) hq) (.inr hu) ⟨.bl false,H,I,rfl,q⟩
def bL (K:cW):R2:=fun x y H Q=>match x,y with
 |.ref a,.ref b=>CB K (.ref a) (.ref b) H Q\/uZ K (.ref a) (.ref b) H Q\/Ap K (.ref a) (.ref b) H Q
 |.ref a,y=>uZ K (.ref a) y H Q
 |x,.ref b=>uZ K x (.ref b) H Q
 |x,y=>mEq x y H Q
def bZ (hu:X.A.units+150<cLine):OpR X (compareOp .Eq) (bL X.K):=((Ei (by omega)).or ((BC hu).or ((AB (by omega)).or oEq))).imp fun x y H Q q=>by
 unfold bL at q
 split at q
 ·exact q.elim .inl fun z=>z.elim (fun z=>.inr (.inl z)) fun z=>.inr (.inr (.inl z))
 ·exact .inr (.inl q)
 ·exact .inr (.inl q)
 ·exact .inr (.inr (.inr q))
end
def rX:bootBuiltins "reversed"=some (.type "reversed"):=by decide+kernel
section
variable {X:Cx}{a:Expr}{t:TA}{p pos:Pos}{tg:Expr}
def yt:List V->Hp->VK->Prop:=fun xs H Q=>match xs with|[.int i,.int j]=>Q (.int (if j>i then j else i)) H|_=>False
def Km (hc:X.calm=true):bX X (.builtin "max") yt:=fun pins s σ H xs us Q I r q=>by
 unfold yt at q
 split at q
 ·exact vV hc pins s σ H _ us Q I r ⟨_,_,rfl,q⟩
 ·exact q.elim
def xT:OpR X (binaryOp .FloorDiv) (rI (fun _ j=>0<j/\j<1267650600228229401496703205376) fun i j=>.int (i/j)):=opI fun i j _ _ _ _ _ hc q=>by
 have h1:(0:Int)<j:=hc.1
 have h2:j<1267650600228229401496703205376:=hc.2
 have h3:j.natAbs.log2<100:=(Sl (by omega)).mpr (Nat.lt_of_lt_of_eq (m:=1267650600228229401496703205376) (by omega) (by decide))
 exact floordiv_int (by omega) (by rw[Int.fdiv_eq_ediv_of_nonneg i (by omega)];exact q) (.inl (PyProof.noPylong_of_log2 (by omega)))
def bO:R2:=fun x y H Q=>match x,y with|.int i,.int j=>(0<j/\j<1267650600228229401496703205376)/\Q (.int (i/j)) H|_,_=>False
def ci:OpR X (binaryOp .FloorDiv) bO:=xT.imp fun x y H Q q=>by
 unfold bO at q
 split at q
 ·exact⟨_,_,rfl,rfl,q.1,q.2⟩
 ·exact q.elim
end
section
variable {α:Type}{l:List α}
def kO (h:l.length=0):l=[]:=List.length_eq_zero_iff.mp h
def cI (h:l.length=1):∃a0,l=[a0]:=by
 cases l with
 |nil=>simp at h
 |cons a l=>
  obtain rfl:=kO (l:=l) (by simpa using h)
  exact⟨a,rfl⟩
def vj (h:l.length=2):∃a0 a1,l=[a0,a1]:=by
 cases l with
 |nil=>simp at h
 |cons a l=>
  obtain⟨b0,rfl⟩:=cI (l:=l) (by simpa using h)
  exact⟨a,b0,rfl⟩
def ur (h:l.length=3):∃a0 a1 a2,l=[a0,a1,a2]:=by
 cases l with
 |nil=>simp at h
 |cons a l=>
  obtain⟨b0,b1,rfl⟩:=vj (l:=l) (by simpa using h)
  exact⟨a,b0,b1,rfl⟩
def Ai (h:l.length=4):∃a0 a1 a2 a3,l=[a0,a1,a2,a3]:=by
 cases l with
 |nil=>simp at h
 |cons a l=>
  obtain⟨b0,b1,b2,rfl⟩:=ur (l:=l) (by simpa using h)
  exact⟨a,b0,b1,b2,rfl⟩
def GR (h:l.length=5):∃a0 a1 a2 a3 a4,l=[a0,a1,a2,a3,a4]:=by
 cases l with
 |nil=>simp at h
 |cons a l=>
  obtain⟨b0,b1,b2,b3,rfl⟩:=Ai (l:=l) (by simpa using h)
  exact⟨a,b0,b1,b2,b3,rfl⟩
end
def aX.le {A:Mw}{m n:Nat}(h:aX m A)(d:n<=m:=by first|decide|omega):aX n A:=h.mono d
def scF {N P:List Str}{sc:Scope}(h1:sc.kind=.function:=by rfl)(h2:sc.isCoroutine=false:=by rfl)(h3:sc.isGenerator=false:=by rfl)(h4:N.Nodup:=by decide+kernel)(h5:N.take P.length=P:=by rfl)
 (h6:∀x∈P,sc.names.lookup x=some .local\/sc.names.lookup x=some .cell:=by decide+kernel)(h7:∀y∈sc.names,y.2≠.free:=by decide+kernel):aD N P sc:=⟨h1,h2,h3,h4,h5,h6,h7⟩
structure Fm (K:cW)(mg:Str->Option tx)(x qual:Str)(st:Stmt)(a:Addr)(d:Mc)(ps:List Str):Prop where
 f:Fun K x qual st a d
 m:mg x=some (.ref a)
 b:bK K d ps []
structure Fa (K:cW)(x qual:Str)(st:Stmt)(a:Addr)(d:Mc):Prop where
 m:Ny K mainGlobals x=some (some (.ref a))
 f:Fun K x qual st a d
section
variable {P:Ms}{w:MG}{K:cW}{mg:Str->Option tx}{base h:Heap}{x qual:Str}{st:Stmt}{a:Addr}{d:Mc}{ps:List Str}
def bq {oc:tx}{od an:Option Addr}{osl:Array (Option tx)}{kV doc pm cdv ct:tx}(m:Ny K mainGlobals x=some (some (.ref a)))(l:K.lookup a=some ⟨oc,od,.func (Oi x qual (cn st) (aK st) (am st) .none kV doc pm an cdv ct),osl⟩)
 (c:SZ K cdv qual=true)(k:Oh K (.ref a)=true):Fa K x qual st a (Oi x qual (cn st) (aK st) (am st) .none kV doc pm an cdv ct):=⟨m,eS l c k⟩
def Fa.code (F:Fa K x qual st a d)(X:K.In h)(G:h.Ns mainGlobals mg){z t:Addr}(ht:ND K x=some (z,t)):d.code=.ref z:=by
 obtain⟨oc,od,kV,doc,pm,an,cdv,ct,osl,e,lk,hcd⟩:=F.f.ex
 exact W.law_code X G ht (Nx X G F.m) (X _ _ lk) rfl
def Fun.bt {p:Str}(F:Fun K x qual st a d)(hb:∀(kV doc pm:tx)(an:Option Addr)(cdv ct v:tx),bindArgs (Oi x qual (cn st) (aK st) (am st) .none kV doc pm an cdv ct) ⟨[v],[]⟩=pure [(p,v)]:=by intros;rfl)(s:If)(v:tx):Si s d ⟨[v],[]⟩ [(p,v)]:=by
 obtain⟨oc,od,kV,doc,pm,an,cdv,ct,osl,rfl,lk,hcd⟩:=F.ex
 exact .of_eq (hb kV doc pm an cdv ct v)
def Fun.b0 (F:Fun K x qual st a d)(hb:∀(kV doc pm:tx)(an:Option Addr)(cdv ct:tx),bindArgs (Oi x qual (cn st) (aK st) (am st) .none kV doc pm an cdv ct) ⟨[],[]⟩=pure (Oo [] []):=by intros;rfl):bK K d [] []:=F.binds fun kV doc pm an cdv ct us hl=>by
 obtain rfl:=L2.kO hl
 exact hb kV doc pm an cdv ct
def Fa.fm0 (F:Fa K x qual st a d)(X:K.In h)(G:h.Ns mainGlobals mg)(hb:∀(kV doc pm:tx)(an:Option Addr)(cdv ct:tx),bindArgs (Oi x qual (cn st) (aK st) (am st) .none kV doc pm an cdv ct) ⟨[],[]⟩=pure (Oo [] []):=by intros;rfl):Fm K mg x qual st a d []:=⟨F.f,Nx X G F.m,F.f.b0 hb⟩
def Fun.b1 {p0:Str}(F:Fun K x qual st a d)(hb:∀(kV doc pm:tx)(an:Option Addr)(cdv ct u0:tx),bindArgs (Oi x qual (cn st) (aK st) (am st) .none kV doc pm an cdv ct) ⟨[u0],[]⟩=pure (Oo [p0] [u0]):=by intros;rfl):bK K d [p0] []:=F.binds fun kV doc pm an cdv ct us hl=>by
 obtain⟨u0,rfl⟩:=L2.cI hl
 exact hb kV doc pm an cdv ct u0
def Fa.fm1 {p0:Str}(F:Fa K x qual st a d)(X:K.In h)(G:h.Ns mainGlobals mg)(hb:∀(kV doc pm:tx)(an:Option Addr)(cdv ct u0:tx),bindArgs (Oi x qual (cn st) (aK st) (am st) .none kV doc pm an cdv ct) ⟨[u0],[]⟩=pure (Oo [p0] [u0]):=by intros;rfl):Fm K mg x qual st a d [p0]:=⟨F.f,Nx X G F.m,F.f.b1 hb⟩
def Fun.b2 {p0 p1:Str}(F:Fun K x qual st a d)(hb:∀(kV doc pm:tx)(an:Option Addr)(cdv ct u0 u1:tx),bindArgs (Oi x qual (cn st) (aK st) (am st) .none kV doc pm an cdv ct) ⟨[u0,u1],[]⟩=pure (Oo [p0,p1] [u0,u1]):=by intros;rfl):bK K d [p0,p1] []:=F.binds fun kV doc pm an cdv ct us hl=>by
 obtain⟨u0,u1,rfl⟩:=L2.vj hl
 exact hb kV doc pm an cdv ct u0 u1
def Fa.fm2 {p0 p1:Str}(F:Fa K x qual st a d)(X:K.In h)(G:h.Ns mainGlobals mg)(hb:∀(kV doc pm:tx)(an:Option Addr)(cdv ct u0 u1:tx),bindArgs (Oi x qual (cn st) (aK st) (am st) .none kV doc pm an cdv ct) ⟨[u0,u1],[]⟩=pure (Oo [p0,p1] [u0,u1]):=by intros;rfl):Fm K mg x qual st a d [p0,p1]:=⟨F.f,Nx X G F.m,F.f.b2 hb⟩
def Fun.b3 {p0 p1 p2:Str}(F:Fun K x qual st a d)(hb:∀(kV doc pm:tx)(an:Option Addr)(cdv ct u0 u1 u2:tx),bindArgs (Oi x qual (cn st) (aK st) (am st) .none kV doc pm an cdv ct) ⟨[u0,u1,u2],[]⟩=pure (Oo [p0,p1,p2] [u0,u1,u2]):=by intros;rfl):bK K d [p0,p1,p2] []:=F.binds fun kV doc pm an cdv ct us hl=>by
 obtain⟨u0,u1,u2,rfl⟩:=L2.ur hl
 exact hb kV doc pm an cdv ct u0 u1 u2
def Fa.fm3 {p0 p1 p2:Str}(F:Fa K x qual st a d)(X:K.In h)(G:h.Ns mainGlobals mg)(hb:∀(kV doc pm:tx)(an:Option Addr)(cdv ct u0 u1 u2:tx),bindArgs (Oi x qual (cn st) (aK st) (am st) .none kV doc pm an cdv ct) ⟨[u0,u1,u2],[]⟩=pure (Oo [p0,p1,p2] [u0,u1,u2]):=by intros;rfl):Fm K mg x qual st a d [p0,p1,p2]:=⟨F.f,Nx X G F.m,F.f.b3 hb⟩
def Fun.b4 {p0 p1 p2 p3:Str}(F:Fun K x qual st a d)(hb:∀(kV doc pm:tx)(an:Option Addr)(cdv ct u0 u1 u2 u3:tx),bindArgs (Oi x qual (cn st) (aK st) (am st) .none kV doc pm an cdv ct) ⟨[u0,u1,u2,u3],[]⟩=pure (Oo [p0,p1,p2,p3] [u0,u1,u2,u3]):=by intros;rfl):bK K d [p0,p1,p2,p3] []:=F.binds fun kV doc pm an cdv ct us hl=>by
 obtain⟨u0,u1,u2,u3,rfl⟩:=L2.Ai hl
 exact hb kV doc pm an cdv ct u0 u1 u2 u3
def Fa.fm4 {p0 p1 p2 p3:Str}(F:Fa K x qual st a d)(X:K.In h)(G:h.Ns mainGlobals mg)(hb:∀(kV doc pm:tx)(an:Option Addr)(cdv ct u0 u1 u2 u3:tx),bindArgs (Oi x qual (cn st) (aK st) (am st) .none kV doc pm an cdv ct) ⟨[u0,u1,u2,u3],[]⟩=pure (Oo [p0,p1,p2,p3] [u0,u1,u2,u3]):=by intros;rfl):Fm K mg x qual st a d [p0,p1,p2,p3]:=⟨F.f,Nx X G F.m,F.f.b4 hb⟩
def Fun.b5 {p0 p1 p2 p3 p4:Str}(F:Fun K x qual st a d)(hb:∀(kV doc pm:tx)(an:Option Addr)(cdv ct u0 u1 u2 u3 u4:tx),bindArgs (Oi x qual (cn st) (aK st) (am st) .none kV doc pm an cdv ct) ⟨[u0,u1,u2,u3,u4],[]⟩=pure (Oo [p0,p1,p2,p3,p4] [u0,u1,u2,u3,u4]):=by intros;rfl):bK K d [p0,p1,p2,p3,p4] []:=F.binds fun kV doc pm an cdv ct us hl=>by
 obtain⟨u0,u1,u2,u3,u4,rfl⟩:=L2.GR hl
 exact hb kV doc pm an cdv ct u0 u1 u2 u3 u4
def Fa.fm5 {p0 p1 p2 p3 p4:Str}(F:Fa K x qual st a d)(X:K.In h)(G:h.Ns mainGlobals mg)(hb:∀(kV doc pm:tx)(an:Option Addr)(cdv ct u0 u1 u2 u3 u4:tx),bindArgs (Oi x qual (cn st) (aK st) (am st) .none kV doc pm an cdv ct) ⟨[u0,u1,u2,u3,u4],[]⟩=pure (Oo [p0,p1,p2,p3,p4] [u0,u1,u2,u3,u4]):=by intros;rfl):Fm K mg x qual st a d [p0,p1,p2,p3,p4]:=⟨F.f,Nx X G F.m,F.f.b5 hb⟩
def Fun.okS {CX:CXT}{N:List Str}{k:Nat}{sp:Sp}{t:TS}(F:Fun K x qual st a d)(S:aD N ps (am st))(len:∀vs H Q E,sp vs H Q E->vs.length=ps.length)
  (hrd:∀(vs:List V)(H:Hp)(Q:VK)(E:XK),sp vs H Q E->t {nx:=fun _ H'=>Q .non H',rt:=Q} (start N vs) H)
  (hq:∀(cdv:tx)(A:Mw)(outer:List Env)(s:If)(H:Hp)(E:XK),aX k (A.deeper (envOfC qual (am st) s.heap.objs.size a cdv))->QSs (cq CX P w K mg base N qual (am st) a cdv A outer s H E).nox (aK st) t):aP P w K mg base CX (k+1) a d ps sp:=
 F.okN S len fun cdv A outer s H vs Q E hr h=>⟨t,(hq cdv A outer s H E hr).out,hrd vs H Q E h⟩
end
section
variable {X:Cx}{x q:Str}{e:Expr}{es:List Expr}{t:TA}{p pos:Pos}{st:Stmt}{f:Addr}{fd:Mc}{ps:List Str}{k:Nat}{sp:Sp}
def aR {P:Ms}{w:MG}(F:aP X.prog X.w X.K X.mg X.base (CX1 P w) k f fd ps sp)(hr:aX k X.A)(M:Fm X.K X.mg x q st f fd ps)
 (ha:QA X (e::es) t)(hg:Gl X x:=by rfl)(hdb:(x==("__debug__":Str))=false:=by decide)(hs:bv (e::es)=true:=by rfl):QE X (.Call (.Name x p) (e::es) [] pos) (az sp (fun _=>E0) t):=gA F hr M.m M.f.kp M.b bR ha hg hdb hs
end
section
variable {X:Cx}
def Cq {x y z:Str}{px py pz ep pos:Pos}{ek:Nat}{e:Expr}{te:TE}(i j k:Nat)(hN:X.N.Nodup)(hc:X.calm=true)(he:QE X e te)(hi:X.N[i]?=some x:=by rfl)(hj:X.N[j]?=some y:=by rfl)(hk:X.N[k]?=some z:=by rfl)
  (hx:Loc X.env.scope x:=by first|exact .inl rfl|exact .inr rfl)(hy:Loc X.env.scope y:=by first|exact .inl rfl|exact .inr rfl)(hz:Loc X.env.scope z:=by first|exact .inl rfl|exact .inr rfl)
  (fx:X.fn x=true\/X.env.scope.names.lookup x=some .local:=by first|exact .inl rfl|exact .inr rfl)(fy:X.fn y=true\/X.env.scope.names.lookup y=some .local:=by first|exact .inl rfl|exact .inr rfl)(fz:X.fn z=true\/X.env.scope.names.lookup z=some .local:=by first|exact .inl rfl|exact .inr rfl)
  (hs:swapsWithSole [.Tuple [.Name x px,.Name y py,.Name z pz] ek ep] e pos.line X.env=pure false:=by rfl)(hw:swappedStores [.Tuple [.Name x px,.Name y py,.Name z pz] ek ep] e X.env=pure none:=by rfl):
  QS X (.Assign [.Tuple [.Name x px,.Name y py,.Name z pz] ek ep] e pos) (aE te (kJ X.K 3 (cx (ay i) (cx (ay j) (cx (ay k) iS))))):=
 ⟨jZ he.out (qw hc (dA (dF hN hi hx fx) (dA (dF hN hj hy fy) (dA (dF hN hk hz fz) lu)))) hs hw⟩
end
def mZ (ks:iF)(C:Addr)(m:Str)(E:St->XK)(ta:TE)(t:TA):TE:=fun σ H Q=>ta σ H fun x H1=>∃a dx fs f,x=.ref a/\H1 a=some (.ins C dx fs)/\fs.lookup m=some (.ref f)/\(∃ts∈ks,∃cs cvs,da H1 f ts.1 cs cvs)/\t σ H1 fun vs H2=>jz ks f vs H2 Q (E σ)
section
variable {X:Cx}{pins:List (Addr×Obj)}{σ:St}{H:Hp}{s:If}{A:Mw}{E:tx->If->Prop}{a C dx:Addr}{fs:List (Str×V)}{v:V}
def uz {m:Str}{pl:Sem Bool}{Q:tx×List tx->If->Prop}(I:Inv X pins σ H s)(e:H a=some (.ins C dx fs))(c:Cls X.K C)(n:dM X.K C m)(l:fs.lookup m=some v)
  (h:∀u s',Inv X pins σ H s'->aS v u->Q (u,[]) s'):wpAny (model X.prog X.w) A (getMethod (.ref a) m pl) Q E s:=by
 obtain⟨mA,O,r,_,_,_⟩:=ja I.hok e
 obtain⟨od,J,hl⟩:=O.look
 exact W.method_usual (r:=none) I.kIn J (Pn (c.get m)).1 (Pn (c.get m)).2 n rfl (mK I e c n l h)
end
section
variable {X:Cx}{k:Nat}{C:Addr}{E:St->XK}{m:Str}{pos apos:Pos}{e o:Expr}{es:List Expr}{ta:TE}{t:TA}
def nV {pl:Sem Bool}{ks:iF}(hk:lg X.prog X.w X.K X.mg X.base k ks)(hr:aX k X.A)(hx:eZ (CX1 X.prog X.w) X E)(he:QE X o ta)(c:Cls X.K C)(n:dM X.K C m)(ha:QA X (e::es) t)
  (hs:bv (e::es)=true:=by rfl)
  (ht:eval (.Call (.Attribute o m apos) (e::es) [] pos) X.env=(do
   let ov<-eval o X.env
   standAt apos.atName
   let (f,first)<-holding [ov] (getMethod ov m pl)
   callWith pos f first (backTo pos (starEach (e::es) X.env)) (backToKw pos (keywordEach [] X.env))):=by rfl):
  QE X (.Call (.Attribute o m apos) (e::es) [] pos) (mZ ks C m E ta t):=⟨fun pins s σ H Q I h=>by
 have h':(cf e&&bv es)=true:=hs
 refine PD (pl:=pl) (thn (he.out pins s σ H _ I h) fun u s1 ⟨x,H1,I1,rx,a,dx,fs,f,ex,ea,l,⟨ts,hts,cs,cvs,ca⟩,q⟩=>?_) ht
 subst ex
 obtain rfl:u=Mn a:=rx
 refine uz I1 ea c n l fun w s2 I2 rw2=>?_
 obtain rfl:w=Mn f:=rw2
 refine W.callWith_F (mX I2.hok ca) (thn (ha.out pos pins s2 σ H1 _ I2 q) fun us s3 ⟨vs,H2,I3,rv,ts2,hm2,cs2,cvs2,ca2,hl,hsp⟩=>⟨mX I3.hok ca2,?_⟩)
  (be (LX.mp h').1 es X.env) (ck (LX.mp h').2)
 refine ON (Nw ((hk ts2 hm2).run X.A X.stack s3 H2 f cs2 us vs cvs2 Q (E σ) hr I3.env0 ca2 rv hl hsp) fun r s' hq=>?_)
 cases r with
 |error e=>exact hx pins σ H2 s3 e s' I3 hq
 |ok fl=>
  cases fl with
  |ret u=>exact I3.after hq
  |next=>exact MB hq
  |brk=>exact MB hq
  |cont=>exact MB hq⟩
end
end L2
namespace HT
open PySem PyProof.Rows
def wz:typeLookup (.type "list_reverseiterator") "__len__"=pure none:=by rw[typeLookup_type,SG];kernel_rfl
def yW:typeLookup (.type "list_reverseiterator") "__length_hint__"=pure (some (.builtin "list_reverseiterator.__length_hint__")):=by rw[typeLookup_type,SG];kernel_rfl
section
variable {prog:Ms}{w:MG}{A:Mw}{s:If}{R:Qs->If->Prop}
variable {I:Addr}{fp wr:List Addr}{G:Array Pw->Array Pw->Prop}{n:Nat}{P:Nat->tx->Prop}{St:Nat->If->Prop}
def vv (W:WalksS prog w A.in1 I fp wr G n P St)(hT:∀i s,St i s->s.TypeIs (.ref I) "list_reverseiterator")(S:Addr)(res:tx)(c₀:Nat)(hst:St 0 s)(hSf:S∉fp)(hI:I∈fp)
  (hS:s.heap.get? S=some {cls:=.type "list",data:=.seq #[] c₀})
  (hR:∀s' acc' c',Moved (S::wr) G s s'->s'.heap.get? S=some {cls:=.type "list",dict:=none,data:=.seq acc' c',slots:=#[]}->ItemsOf P acc' n->R (.ok (.ret res)) s')(hn:n<=sizeLine):
  wpAny (model prog w) A.in1 (NH (.ref S) (.ref I) res)
   (fun fin s'=>match fin with|.done f=>R (.ok f) s'|.again c'=>c'.quiet=true/\codeAny (model prog w) A c' R s') (fun e s'=>R (.error e) s') s:=by
 have hSI:S≠I:=fun e=>hSf (e▸hI)
 have h1:Qo (.ref S) (.ref I)=false:=by simp[Qo,hSI]
 unfold NH
 refine gV (Ra (hT 0 _ hst) ?_)
 rw[if_neg (by rw[h1];decide)]
 refine gV (W.self 0 _ _ _ hst ?_)
 refine gV (Nn ?_)
 unfold Builtin.List.listLengthHint
 refine gV (Ry (hT 0 _ hst) wz ?_)
 show wpAny _ A.in1 (specialOf (Mn I) (Ou "__length_hint__")>>=_) _ _ _
 refine gV (Ry (hT 0 _ hst) yW ?_)
 generalize hid:("list_reverseiterator.__length_hint__":String)=id0
 wp_delta
 rw[show splitId id0=some ("list_reverseiterator","__length_hint__")from by subst hid;decide+kernel]
 subst hid
 refine gV (wpAny_isInstance (b:=true) (hT 0 _ hst) (by rw[RI];kernel_rfl) ?_)
 refine LY ?_
 rw[if_neg (by decide)]
 exact LY ⟨plainId_quiet F.plain_extend_loop _,codeAny_extend_loopS W hn _ hSf _ n 0 _ _ _ rfl (MS _) hst hS (ItemsOf.nil P) fun s' acc' c' hm hS' hacc=>hR s' acc' c' hm hS' hacc⟩
def pf (W:WalksS prog w A.in1 I fp wr G n P St)(hT:∀i s,St i s->s.TypeIs (.ref I) "list_reverseiterator")(S:Addr)(hst:St 0 s)(hSf:S∉fp)(hI:I∈fp)
  (hS:s.heap.get? S=some {cls:=.type "list",data:=.seq #[]})
  (hR:∀s' acc' c',Moved (S::wr) G s s'->s'.heap.get? S=some {cls:=.type "list",dict:=none,data:=.seq acc' c',slots:=#[]}->ItemsOf P acc' n->R (.ok (.ret .none)) s')(hn:n<=sizeLine):
  wpAny (model prog w) A.in1 (PZ.«list.__init__» ⟨[.ref S,.ref I],[]⟩)
   (fun fin s'=>match fin with|.done f=>R (.ok f) s'|.again c'=>c'.quiet=true/\codeAny (model prog w) A c' R s') (fun e s'=>R (.error e) s') s:=by
 show wpAny _ A.in1 (do let old<-Qz (.ref S);Builtin.List.listUpdate (.ref S) (fun _=>#[]);letGo old.toList.reverse;NH (.ref S) (.ref I) .none) _ _ s
 refine gV ?_
 unfold Qz
 refine gV (wpAny_seqItems hS rfl (LY ?_))
 show wpAny _ A.in1 (updateSeq S (fun _=>#[])>>=fun _=>letGo (#[]:Array tx).toList.reverse>>=fun _=>NH (.ref S) (.ref I) .none) _ _ s
 refine gV (wpAny_updateSeq hS rfl ?_)
 have hS₂:=Nt (OT (fun _=>(#[]:Array tx))) hS rfl
 have oth:∀b o,b≠S->s.heap.get? b=some o->(s.heap.update S (OT (fun _=>(#[]:Array tx)))).get? b=some o:=
  fun b o hb e=>(Np _ _ (Md hb)).trans e
 refine gV (wpAny_letGo ?_)
 refine vv (hn:=hn) W hT S .none _ (W.frame 0 s _ s.toks hst (pv _) fun b hb o e=>oth b o (fun h=>hSf (h▸hb)) e) hSf hI hS₂ fun s' acc' c' hm hS' hacc=>?_
 exact hR s' acc' c' (Moved.trans W.gtrans ((Moved.refl W.grefl).then_heap (pv _) fun b o hb e=>oth b o (fun h=>hb (h▸MD)) e) hm) hS' hacc
end
section
variable {prog:Ms}{w:MG}{A:Mw}{E:tx->If->Prop}{s:If}
variable {I:Addr}{fp wr:List Addr}{G:Array Pw->Array Pw->Prop}{n:Nat}{P:Nat->tx->Prop}{St:Nat->If->Prop}
def pq {Q:tx->If->Prop}(W:WalksS prog w A.in1.in1 I fp wr G n P St)(hT:∀i s,St i s->s.TypeIs (.ref I) "list_reverseiterator")(hst:St 0 s)(hfp:∀b∈fp,b<s.heap.objs.size)(hI:I∈fp)
  (hQ:∀s' acc' c',Moved (s.heap.objs.size::wr) G {s with heap:=s.heap.push {cls:=.type "list",data:=.seq #[]}} s'->
   s'.heap.get? s.heap.objs.size=some {cls:=.type "list",dict:=none,data:=.seq acc' c',slots:=#[]}->ItemsOf P acc' n->Q (.ref s.heap.objs.size) s')(hn:n<=sizeLine):
  wpAny (model prog w) A (call (.type "list") [.ref I]) Q E s:=by
 have hSf:s.heap.objs.size∉fp:=fun hm=>Nd _ (hfp _ hm)
 refine callType_codes (Q₁:=fun obj s₁=>obj=.ref s.heap.objs.size/\s₁={s with heap:=s.heap.push {cls:=.type "list",data:=.seq #[]}}) F.called_list (F.typeCall_list_1 _) F.entry_list_init
  (code_list_new _ ⟨rfl,rfl⟩) fun obj s₁ h₁=>?_
 obtain⟨rfl,rfl⟩:=h₁
 have hS:(s.heap.push {cls:=.type "list",data:=.seq #[]}).get? s.heap.objs.size=some {cls:=.type "list",data:=.seq #[]}:=Mu _ rfl
 refine⟨⟨_,hS,rfl⟩,F.args_list_init_2 _ _,pf (hn:=hn) W hT _ (W.frame 0 s _ s.toks hst (pv _) fun b _ o e=>Lt _ e) hSf hI hS fun s' acc' c' hm hS' hacc=>?_⟩
 exact⟨rfl,hQ s' acc' c' hm hS' hacc⟩
end
end HT
namespace L2
open PySem PySem.Spec PyProof.Rows
def qA (K:cW):List V->Hp->VK->Prop:=fun xs H Q=>∃c ys,xs=[.ref c]/\SqL K H c ys/\∀l,H l=none->Q (.ref l) (upd H l (.lst ys.reverse))
section
variable {X:Cx}{pins:List (Addr×Obj)}{σ:St}{H:Hp}{s:If}
def xW {Q:VK}{c:Addr}{ys:List V}(hc:X.calm=true)(I:Inv X pins σ H s)(hq:SqL X.K H c ys)(q:∀l,H l=none->Q (.ref l) (upd H l (.lst ys.reverse))):
  wpAny (model X.prog X.w) X.A (call (.type "reversed") [.ref c]) (fun u s2=>wpAny (model X.prog X.w) X.A (call (.type "list") [u]) (EP X pins σ Q) X.xe s2) X.xe s:=by
 obtain⟨its,r',pl,hz⟩:=I.list hq
 have hlen:=r'.length
 have hl:=pl.isList
 refine call_reversed_list hl ?_
 have hcs:c<s.heap.objs.size:=by obtain⟨o,ho,_⟩:=hl;exact Ma ho
 have hne:c≠s.heap.objs.size:=Ml hcs
 have W:=(Walks.listRev (prog:=X.prog) (w:=X.w) (A:=X.A.in1.in1) (I.ok.hd hc) s.heap.objs.size c hne its.toArray).toS
 have hl2:(s.heap.push (revObj c ((its.toArray.size:Int)- 1))).IsList c its.toArray:=hl.at fun o e=>Lt _ e
 have hz':its.toArray.size<=sizeLine:=by rw[Me];omega
 have hsz:(s.heap.push (revObj c ((its.toArray.size:Int)- 1))).objs.size=s.heap.objs.size+1:=Re _ _
 refine HT.pq (s:={s with heap:=s.heap.push (revObj c ((its.toArray.size:Int)- 1))}) W (fun i s3 st=>st.2.1.typeIs) ⟨MS _,⟨_,Mu _ rfl,rfl,by show Sb _=Sb _;simp⟩,hl2⟩ (fun b hb=>?_) (by simp) (fun s' acc' c' hm hS' hacc=>?_) hz'
 ·show b<(s.heap.push _).objs.size
  rw[hsz]
  rcases LZ.mp hb with z|z
  ·rw[z];exact Ph _
  ·rw[Mj.mp z];exact Nat.lt_succ_of_lt hcs
 ·have e1:acc'.toList=its.reverse:=by
   refine Sv fun j=>?_
   by_cases hj:j<its.length
   ·have hj2:j<acc'.size:=by rw[hacc.1,Me];exact hj
    have ea:acc'[j]?=some acc'[j]:=OM hj2
    have hp:its.toArray[its.toArray.size- 1- j]?=some acc'[j]:=hacc.2 j _ ea
    rw[Array.getElem?_toList,ea,Ps hj,<-hp]
    simp
   ·rw[Nu (by rw[OB,hacc.1,Me];omega),Nu (by simp;omega)]
  have hw:∀b o,s.heap.get? b=some o->s'.heap.get? b=some o:=fun b o e=>by
   have hb:=Ma e
   refine hm.heap b o (fun z=>?_) (Lt _ (Lt _ e))
   rcases LZ.mp z with z|z
   ·have z:b=(s.heap.push (revObj c ((its.toArray.size:Int)- 1))).objs.size:=z
    rw[hsz]at z
    rw[z]at hb
    exact Nd _ (Nat.lt_trans (Ph _) hb)
   ·rw[Mj.mp z]at hb
    exact Nd _ hb
  have es:s'={s with heap:=s'.heap,toks:=s'.toks}:=by
   have h1:=hm.gens
   have h2:=hm.drawn
   have h3:=hm.os
   cases s'
   cases h1;cases h2;cases h3
   rfl
  have hS2:s'.heap.get? (s.heap.objs.size+1)=some {cls:=.type "list",dict:=none,data:=.seq its.reverse.toArray c',slots:=#[]}:=by
   rw[<-hsz,hS',<-e1]
  have new:bg X.prog X.w (upd H (s.heap.objs.size+1) (.lst ys.reverse)) s'.heap (s.heap.objs.size+1) (.lst ys.reverse):=⟨by rw[NY];exact hz,its.reverse,c',r'.reverse,hS2⟩
  refine⟨.ref (s.heap.objs.size+1),upd H (s.heap.objs.size+1) (.lst ys.reverse),?_,?_,q _ (I.hok.fresh (NQ _))⟩
  ·rw[es];exact I.laid hw (NQ _) new
  ·show Mn _=Mn _
   rw[hsz]
end
section
variable {X:Cx}{a:Expr}{t:TA}{p1 p2 pos1 pos2:Pos}
def Br:bootBuiltins "list"=some (.type "list"):=by decide+kernel
def vP (hm1:X.mg "list"=none)(hm2:X.mg "reversed"=none)(hc:X.calm=true)(ha:QA X [a] t)(hg1:Gl X "list":=by rfl)(hg2:Gl X "reversed":=by rfl)(hs:bv [a]=true:=by rfl):
  QE X (.Call (.Name "list" p1) [.Call (.Name "reversed" p2) [a] [] pos2] [] pos1) (tCB (qA X.K) t):=⟨fun pins s σ H Q I h=>by
 have h':(cf a&&bv [])=true:=hs
 refine MV (ix I hg1 hm1 Br ?_ (by decide) (by decide))
 refine Ni ?_ rfl rfl
 show wpAny _ _ (spliced ((false,eval (.Call (.Name "reversed" p2) [a] [] pos2) X.env)::backTo pos1 (starEach [] X.env))) _ _ s
 refine Sd ?_
 refine MV (ix I hg2 hm2 rX ?_ (by decide) (by decide))
 refine Ni (thn (ha.out pos2 pins s σ H _ I h) fun us s1 ⟨vs,H1,I1,r1,q1⟩=>?_)
  (be (LX.mp h').1 [] X.env) (ck (LX.mp h').2)
 obtain⟨c,ys,rfl,hq,q⟩:=q1
 obtain⟨u,rfl,ru⟩:=jR r1
 cases ru
 refine Mx (xW hc I1 hq q) (fun u s2 z=>?_) fun _ _ z=>z
 exact Sh z⟩
end
end L2
namespace HT
open PySem PySem.W PyProof.Rows
abbrev lO (C t:Addr)(d:Option Addr):Obj:={cls:=.ref C,dict:=d,data:=.fields #[.ref t,.none,.none,.none,.bool false,.none]}
abbrev iO (h:Heap)(C:Addr)(us:List tx):Heap:=(h.push {cls:=.type "tuple",data:=.seq us.toArray}).push (lO C h.objs.size none)
section
variable {prog:Ms}{w:MG}{A:Mw}{K:Frag}{C f:Addr}{R:Qs->If->Prop}{h:Heap}{g:Array Pw}{d:Drawn}{t:Nat}{os:OsState}
def zC {us:List tx}(X:K.In h)(hC:L2.bT K C)(hi:findIn K (.ref C) "__init__"=some (some (.ref f)))(hf:typeIn K (.ref f)=some (.type "function"))(hus:us.length<=sizeLine)
  (hq:codeAny (model prog w) (A.under (.builtin "type.__call__" ⟨.ref C::us,[]⟩)) (.call (.ref f) ⟨.ref (h.objs.size+1)::us,[]⟩) (InitBack (h.objs.size+1) R) ⟨iO h C us,g,d,t,os⟩):
  codeAny (model prog w) A (.call (.ref C) ⟨us,[]⟩) R ⟨h,g,d,t,os⟩:=by
 obtain⟨bm,N,nm,qn,bs,hdct,sn,sub,ab,col,dd,k0,k1,k2,k3,k5,mN,oC,hN,_,T,_⟩:=L2.fQ X hC
 have f1:=tc_lookup
 have f2:=tc_bind (.ref C)
 have hT:(⟨h,g,d,t,os⟩:If).TypeIs (.ref C) "type":=⟨_,oC,rfl⟩
 have FB:=OD
 have hBn:(L2.veM).contains (.type "ValueError")=true:=by decide+kernel
 refine codeAny_of_tree ?_
 show wpAny _ _ (callAny (.ref C) _) _ _ _
 repeat (any_goals (first|assumption|with_reducible refine MN oC ?_ |wp_step))
 refine⟨rfl,?_⟩
 refine codeAny_call_builtin_at (Qf _ (by decide+kernel)) entry_typeCall (wpAny_check_type_call_sub oC ?_)
 repeat (first|with_reducible refine MN oC ?_ |with_reducible refine wpAny_madeBy_exc oC ?_ |wp_step)
 refine codeAny_call_builtin_code (Qf _ FB.quiet) (wpAny_check_new_subU FB hBn T oC ?_)
 refine codeAny_exc_new_subU FB hBn FB T oC ?_ hus
 show wpAny _ _ _ _ _ _
 have k:∀b o,h.get? b=some o->(iO h C us).get? b=some o:=fun b o e=>Lt _ (Lt _ e)
 have hx:(iO h C us).get? (h.objs.size+1)=some (lO C h.objs.size none):=by heap_get
 have oC1:=k _ _ oC
 have hcC:(Mn C::bm).contains (.ref C)=true:=by simp
 have t1:Looks (model prog w) (iO h C us) (typeOf (.ref (h.objs.size+1))) (.ref C):=(Looks.ld hx).andThen .now
 have i1:=(looks_findIn (M:=model prog w) X hi).keeps k
 have b1:=(bind_fn (M:=model prog w) X (.ref (h.objs.size+1)) hf).keeps k
 unfold isInstance
 repeat (first|with_reducible refine MN hx ?_ |(with_reducible refine NJ oC1 ?_;rw[hcC])|wp_step)
 show wpAny _ _ (isSubtype (.ref C) (.ref C)) _ _ ⟨iO h C us,g,d,t,os⟩
 refine NJ oC1 ?_
 rw[hcC,if_neg (by decide)]
 unfold callSpecial? specialOf
 repeat (first|with_reducible refine ON ?_ |lk)
 refine Nw hq fun r s' z=>?_
 rcases r with e|(v|_|_|_)<;>first|exact z|exact z.elim|skip
 obtain⟨rfl,z⟩:=z
 exact LY (LY z)
end
end HT
namespace HT
open PySem PySem.W PyProof.Rows
open Builtin Builtin.ObjectAttr
def rW (self:tx){h:Heap}{bm:List tx}(T:OwnTail h L2.veM bm):refuseLoop self "__setattr__" bm=pure ():=by
 induction T with
 |base=>exact PySem.F.store_ValueError.passes self
 |own _ _ _ _ ih=>rw[refuseLoop_ref];exact ih
structure eT (K:Frag)(C:Addr)(name:Str):Prop where
 ok:L2.bT K C
 sa:findIn K (.ref C) "__setattr__"=some (some (.builtin "object.__setattr__"))
 eg:L2.cu K C
 no:findIn K (.ref C) name=some none
 hd:hasDictIn K C=true
section
variable {prog:Ms}{w:MG}{A:Mw}{E:tx->If->Prop}{s:If}{K:Frag}{x C:Addr}{name:Str}{v:tx}
def sK {ox:Obj}{od:Option Obj}{tk:Tok}{R:Qs->If->Prop}(X:K.In s.heap)(I:SN s.heap x ox C od)(G:eT K C name)
  (h:wpAny (model prog w) A.in1 (storeInOwnDict (.ref x) (.ref C) (.str name tk) name v false)
   (fun fin s'=>match fin with|.done f=>R (.ok f) s'|.again c'=>c'.quiet=true/\codeAny (model prog w) A c' R s') (fun e s'=>R (.error e) s') s):
  codeAny (model prog w) A (.call (.builtin "object.__setattr__") ⟨[.ref x,.str name tk,v],[]⟩) R s:=by
 have SF:=PySem.F.store_object
 obtain⟨bm,N,nm,qn,bs,hdct,sn,sub,ab,col,dd,k0,k1,k2,k3,k5,mN,oC,hN,_,T,_⟩:=L2.fQ X G.ok
 have hm:Looks (model prog w) s.heap (mroOf (.ref C)) (.ref C::bm):=((Looks.ld (part:=none) oC).andThen .now).andThen .now
 have hsub:Looks (model prog w) s.heap (isSubtype (.ref C) (.type "object")) true:=fun A' Q' E' s' k q=>by
  obtain⟨hh,g,d,t,os⟩:=s'
  refine NJ (k _ _ oC) ?_
  rw[Qi,T.hasType (X:="object") (b:=true) (by decide+kernel),RH];exact q
 have hsub':Looks (model prog w) s.heap (isInstance (.ref x) (.type "object")) true:=I.type.andThen hsub
 refine OJ SF.slot.plain SF.entry (@check_slot (model prog w) _ _ s "object.__setattr__" "object" "__setattr__" (.ref x) [.str name tk,v] [] _ SF.kind SF.split hsub' (SF.args (.ref x) (.str name tk) v) ?_)
 rw[osa_eq,refuse_eq]
 refine gV (gV (I.type.here (gV (hm.here ?_))))
 rw[refuseLoop_ref,rW _ T]
 exact LY (gV (I.type.here (gV ((looks_findIn X G.no).here (gV (LY h))))))
def Bp {ox:Obj}{dx:Addr}{mA:Str->Option tx}{ns:List Str}{Q:Unit->If->Prop}(X:K.In s.heap)(hx:s.heap.get? x=some ox)(hc:ox.cls=.ref C)(hdx:ox.dict=some dx)(hf:∃vs,ox.data=.fields vs)(hn:s.heap.Ns1 dx mA)(ne:dx≠x)(G:eT K C name)
  (hw:Within mA ns)(hsz:ns.length<=sizeLine)(h:∀h' t',h'.Ns1 dx (fun y=>if y=name then some v else mA y)->Oa dx s.heap h'->Q () {s with heap:=h',toks:=t'}):wpAny (model prog w) A (setAttr (.ref x) name v) Q E s:=by
 obtain⟨vs,hvs⟩:=hf
 obtain⟨oc,od,odt,osl⟩:=ox
 dsimp only at hc hdx hvs
 subst hc hdx hvs
 obtain⟨oD0,esD0,epD0,hoD0,_⟩:=id hn
 have J:SN s.heap x _ C (some oD0):=⟨hx,rfl,rfl,hoD0⟩
 refine set_plain X J G.sa (sK (s:={s with toks:=s.toks+1}) X J G ?_)
 obtain⟨cd,hcc,hd'⟩:=any_some G.hd
 refine gV (LY (gV (gV (Qq hx (gV (Looks.here (s:={s with toks:=s.toks+1}) (looks_clsIn X hcc) ?_))))))
 rw[hd']
 refine LY (a:=some dx) (gV (LY (gV ?_)))
 refine Sx (s:={s with toks:=s.toks+1}) hn fun h' hn2 hs2=>?_
 obtain⟨oD,esD,epD,hoD,hdD,hcD⟩:=hn2.count (QP name v hw)
 refine gV (Rk hoD (by rw[hdD];exact Rl (Mv hcD (by rw[Mb];omega))) ?_)
 exact LY (h _ _ hn2 hs2)
def xN {ox:Obj}{Q:Unit->If->Prop}(X:K.In s.heap)(hx:s.heap.get? x=some ox)(hc:ox.cls=.ref C)(hdx:ox.dict=none)(hf:∃vs,ox.data=.fields vs)(G:eT K C name)
  (h:∀h' t',h'.get? x=some {ox with dict:=some s.heap.objs.size}->h'.Ns1 s.heap.objs.size (fun y=>if y=name then some v else none)->(∀b o,b≠x->s.heap.get? b=some o->h'.get? b=some o)->Q () {s with heap:=h',toks:=t'}):
  wpAny (model prog w) A (setAttr (.ref x) name v) Q E s:=by
 obtain⟨vs,hvs⟩:=hf
 obtain⟨oc,od,odt,osl⟩:=ox
 dsimp only at hc hdx hvs
 subst hc hdx hvs
 have J:SN s.heap x _ C none:=⟨hx,rfl,rfl,trivial⟩
 refine set_plain X J G.sa (sK (s:={s with toks:=s.toks+1}) X J G ?_)
 obtain⟨cd,hcc,hd'⟩:=any_some G.hd
 refine gV (LY (gV (gV (Qq hx (gV (Looks.here (s:={s with toks:=s.toks+1}) (looks_clsIn X hcc) ?_))))))
 rw[hd']
 show wpAny _ _ (alloc {cls:=.type "dict",data:=.dict #[]}>>=fun d=>update x (fun o=>{o with dict:=some d})>>=fun _=>pure (some d)) _ _ _
 have xs:x≠s.heap.objs.size:=Ml (Ma hx)
 have hx1:(s.heap.push {cls:=.type "dict",data:=.dict #[]}).get? x=some _:=Lt _ hx
 refine gV (wpAny_alloc' (gV (wpAny_update' hx1 (LY ?_))))
 generalize hh2:((s.heap.push {cls:=.type "dict",data:=.dict #[]}).update x fun o=>{o with dict:=some s.heap.objs.size})=h2
 have hx2:h2.get? x=some ⟨.ref C,some s.heap.objs.size,.fields vs,osl⟩:=by rw[<-hh2];exact Nt _ hx1 rfl
 have hd2:h2.get? s.heap.objs.size=some {cls:=.type "dict",data:=.dict #[]}:=by rw[<-hh2];exact(Sa _ _ _ _ xs.symm).trans (Heap.get?_push_at rfl rfl)
 have k2:∀b o,b≠x->s.heap.get? b=some o->h2.get? b=some o:=fun b o nb e=>by rw[<-hh2];exact(Sa _ _ _ _ nb).trans (Lt _ e)
 have n2:h2.Ns s.heap.objs.size (fun _=>none):=⟨_,#[],_,hd2,rfl,fun e he=>absurd he (by simp),fun _=>rfl⟩
 show wpAny _ _ (storeInDict s.heap.objs.size (.str name s.toks) name v) _ _ {s with heap:=h2,toks:=s.toks+1}
 unfold storeInDict newKeyGuard
 refine gV (LY (gV (Sx (s:={s with heap:=h2,toks:=s.toks+1}) (RC n2) fun h' hn' hs=>?_)))
 obtain⟨oD,esD,epD,hoD,hdD,hcD⟩:=hn'.count (QP name v Within.nil)
 refine gV (Rk hoD (by rw[hdD];exact Rl (Mv hcD (by rw[Mb,Tj,NL];omega))) ?_)
 exact LY (h _ _ ((hs.2 x xs).trans hx2) hn' fun b o nb e=>(hs.2 b (Ml (Ma e))).trans (k2 b o nb e))
end
section
variable {prog:Ms}{w:MG}{A:Mw}{E:tx->If->Prop}{h:Heap}{g:Array Pw}{d:Drawn}{t:Nat}{os:OsState}{K:Frag}{a C:Addr}{o:Obj}{od:Option Obj}{name:Str}{v:tx}
def yI {tk:Tok}{Q:Fin->If->Prop}(X:K.In h)(I:SN h a o C od)(hf:findObj K C od name=some (.value v))(hq:Q (.done (.ret v)) ⟨h,g,d,t,os⟩):
  wpAny (model prog w) A (PZ.«object.__getattribute__» ⟨[.ref a,.str name tk],[]⟩) Q E ⟨h,g,d,t,os⟩:=by
 have L0:=I.type (M:=model prog w)
 have L1:=looks_find (M:=model prog w) X I hf
 unfold PZ.«object.__getattribute__»
 refine gV (LY (gV (LY (gV (L0.at (gV (L1.at ?_)))))))
 exact LY hq
def Aq {tk:Tok}{R:Qs->If->Prop}(X:K.In h)(G:L2.cu K C)(I:SN h a o C od)(hf:findObj K C od name=some (.value v))(hq:R (.ok (.ret v)) ⟨h,g,d,t,os⟩):
  codeAny (model prog w) A (.call (.builtin "BaseException.__getattribute__") ⟨[.ref a,.str name tk],[]⟩) R ⟨h,g,d,t,os⟩:=
 OJ OE.ga.plain Ue (L2.rE X G I.at_ I.cls (yI X I hf hq))
def Gg {tk:Tok}{fill expr:Bool}{Q:tx->If->Prop}(X:K.In h)(G:L2.cu K C)(I:SN h a o C od)(hf:findObj K C od name=some (.value v))(hh:handedIn v=true)(hq:Q v ⟨h,g,d,t,os⟩):
  wpAny (model prog w) A (getAttrBy (.ref a) (.str name tk) fill expr) Q E ⟨h,g,d,t,os⟩:=by
 have f3:=OE.ga.bind (.ref a)
 have L0:=I.type (M:=model prog w)
 have L1:=looks_findIn (M:=model prog w) X G.ga
 have L2':=looks_findIn (M:=model prog w) X G.na
 have hx2:(NE "BaseException.__getattribute__"==NE "object.__getattribute__")=false:=by decide+kernel
 have hx0:(expr&&onTheHeap (NE "BaseException.__getattribute__"))=false:=by cases expr<;>rfl
 unfold getAttrBy
 refine Nn (gV (L0.at (gV (L1.at ?_))))
 show wpAny _ _ (if (onTheHeap (Mn C)&&NE "BaseException.__getattribute__"==NE "object.__getattribute__")=true then _ else _) _ _ _
 rw[hx2,PP,if_neg Mo]
 unfold getAttrByItsOwn
 refine gV ?_
 show wpAny _ _ (typeLookup (.ref C) "__getattr__") _ _ _
 refine L2'.at (gV (wpAny_attempt (Nn ?_)))
 unfold callGetattribute
 rw[hx0,if_neg Mo]
 unfold boundAndCalled
 rw[f3]
 refine gV (LY (ON (Aq X G I hf ?_)))
 show wpAny _ _ (handedOut v) _ _ _
 rw[handedOut_of hh];exact LY hq
def AQ {dx:Addr}{mA:Str->Option tx}{expr:Bool}{Q:tx->If->Prop}(X:K.In h)(hx:h.get? a=some o)(hc:o.cls=.ref C)(hdx:o.dict=some dx)(hfl:∃vs,o.data=.fields vs)(hn:h.Ns1 dx mA)(G:eT K C name)
  (hv:mA name=some v)(hh:handedIn v=true)(hq:Q v ⟨h,g,d,t+1,os⟩):wpAny (model prog w) A (getAttr (.ref a) name expr) Q E ⟨h,g,d,t,os⟩:=by
 obtain⟨vs,hvs⟩:=hfl
 obtain⟨oc,odd,odt,osl⟩:=o
 dsimp only at hc hdx hvs
 subst hc hdx hvs
 obtain⟨od,ho,hl⟩:=L2.oX hn
 have J:SN h a _ C (some od):=⟨hx,rfl,rfl,ho⟩
 unfold getAttr
 exact gV (wpAny_mkText (Gg X G.eg J (findObj_own G.hd G.no rfl (by rw[hl,hv])) hh hq))
end
end HT
namespace L2
open PySem PySem.Spec PyProof.Rows
def fh (C a:Addr)(d:Option Addr):HO:=.ext fun h=>∃t,h.get? a=some (HT.lO C t d)
def sD {P:Ms}{w:MG}{H:Hp}{h:Heap}{C a t:Addr}{d:Option Addr}(e:h.get? a=some (HT.lO C t d)):bg P w H h a (fh C a d):=⟨⟨t,e⟩,⟨_,e⟩,fun h1 h2 ⟨t1,e1⟩ k=>⟨t1,k _ e1⟩⟩
def nR {P:Ms}{w:MG}{H:Hp}{h:Heap}{C a:Addr}{d:Option Addr}(x:bg P w H h a (fh C a d)):∃t,h.get? a=some (HT.lO C t d):=x.1
def fL (fs:List (Str×V))(dx:Addr):HO:=.ext fun h=>∃mA,h.Ns1 dx mA/\∀f,cO (fs.lookup f) (mA f)
def sI {P:Ms}{w:MG}{H:Hp}{h:Heap}{dx:Addr}{fs:List (Str×V)}{mA:Str->Option tx}(n:h.Ns1 dx mA)(r:∀f,cO (fs.lookup f) (mA f)):bg P w H h dx (fL fs dx):=by
 refine⟨⟨mA,n,r⟩,?_,fun h1 h2 ⟨m1,n1,r1⟩ k=>⟨m1,?_,r1⟩⟩
 ·obtain⟨o,es,ep,e,_⟩:=n
  exact⟨o,e⟩
 ·obtain⟨o,es,ep,e,c⟩:=n1
  exact⟨o,es,ep,k _ e,c⟩
def sJ {P:Ms}{w:MG}{H:Hp}{h:Heap}{dx:Addr}{fs:List (Str×V)}(x:bg P w H h dx (fL fs dx)):∃mA,h.Ns1 dx mA/\∀f,cO (fs.lookup f) (mA f):=x.1
def rN {fs:List (Str×V)}{mA:Str->Option tx}(r:∀f,cO (fs.lookup f) (mA f)):Qr mA (fs.map (·.1)):=fun y h=>by
 have ry:=r y
 cases e:fs.lookup y with
 |none=>
  rw[e]at ry
  cases q:mA y with
  |none=>exact absurd q h
  |some u=>rw[q]at ry;exact ry.elim
 |some v=>
  have:∀(l:List (Str×V)),l.lookup y=some v->y∈l.map (·.1):=by
   intro l
   induction l with
   |nil=>intro z;cases z
   |cons p l ih=>
    intro z
    obtain⟨k,x⟩:=p
    rw[Nr]at z
    by_cases hk:(y==k)=true
    ·rw[My];exact LZ.mpr (.inl (beq_iff_eq.mp hk))
    ·rw[Bool.not_eq_true]at hk
     rw[hk]at z
     exact Mm _ (ih z)
  exact this fs e
def mV (K:cW)(C:Addr)(ta tv:TE)(f:Str):TS:=fun D σ H=>tv σ H fun y H1=>ta σ H1 fun x H2=>∃a,x=.ref a/\HT.eT K C f/\
 ((H2 a=some (fh C a none)/\∀dx,H2 dx=none->dx≠a->D.nx σ (upd (upd H2 a (fh C a (some dx))) dx (fL [(f,y)] dx)))\/
  (∃dx fs,H2 a=some (fh C a (some dx))/\H2 dx=some (fL fs dx)/\dx≠a/\fs.length<1000/\D.nx σ (upd H2 dx (fL (dg f y fs) dx))))
def my (K:cW)(ta:TE)(f:Str):TE:=fun σ H Q=>ta σ H fun x H1=>∃a C dx fs v,x=.ref a/\H1 a=some (gP C (some dx) a)/\H1 dx=some (fL fs dx)/\HT.eT K C f/\fs.lookup f=some v/\Q v H1
section
variable {X:Cx}{o value:Expr}{ta tv:TE}{f:Str}{pos pos':Pos}{C:Addr}
def mf (ho:QE X o ta)(hv:QE X value tv)(hs:swapsWith value (some (.Attribute o f pos')) pos.line X.env=pure false:=by rfl):QS X (.Assign [.Attribute o f pos'] value pos) (mV X.K C ta tv f):=by
 refine⟨fun pins s σ H D I h=>?_⟩
 refine QX (thn (hv.out pins s σ H _ I h) fun u s1 ⟨y,H1,I1,ry,q⟩=>thn (ho.out pins s1 σ H1 _ I1 q) fun ov s2 ⟨x,H2,I2,rx,a,ex,G,q2⟩=>?_) hs
 subst ex
 obtain rfl:ov=Mn a:=rx
 rcases q2 with⟨ea,q2⟩|⟨dx,fs,ea,ed,ne,hl,q2⟩
 ·obtain⟨t,et⟩:=nR (P:=X.prog) (w:=X.w) (I2.hok a _ ea)
  refine HT.xN I2.kIn et rfl rfl ⟨_,rfl⟩ G fun h' t' e1 e2 k=>?_
  have I3:Inv X pins σ (upd H2 a (fh C a (some s2.heap.objs.size))) {s2 with heap:=h',toks:=t'}:=I2.write (x:=a) (e:=a) (by rw[ea];exact Ng) (.inl rfl) (fun b u nb e=>k b u nb e) ⟨_,e1⟩ (sD e1)
  have na:s2.heap.objs.size≠a:=RT (Ma et)
  have hn:upd H2 a (fh C a (some s2.heap.objs.size)) s2.heap.objs.size=none:=by rw[ao na];exact I2.hok.fresh (pv _)
  exact⟨σ,_,Inv.track2 I2 I3 (pv _) hn (sI e2 fun g=>by
   show cO (Nc g [(f,y)]) (if g=f then some u else none)
   by_cases hg:g=f
   ·rw[if_pos hg,hg]
    simp only[Nc,beq_self_eq_true];exact ry
   ·have hb:(g==f)=false:=beq_eq_false_iff_ne.mpr hg
    rw[if_neg hg]
    simp only[Nc,hb];exact Ng),q2 _ (I2.hok.fresh (pv _)) na⟩
 ·obtain⟨t,et⟩:=nR (P:=X.prog) (w:=X.w) (I2.hok a _ ea)
  obtain⟨mA,n1,r1⟩:=sJ (P:=X.prog) (w:=X.w) (I2.hok dx _ ed)
  refine HT.Bp (ns:=fs.map (·.1)) I2.kIn et rfl rfl ⟨_,rfl⟩ n1 ne G (rN r1) (by rw[Mf,NL];omega) fun h' t' e2 sb=>?_
  have hd:∃u,h'.get? dx=some u:=let ⟨o,_,_,e',_⟩:=e2;⟨o,e'⟩
  exact⟨σ,_,I2.write (x:=dx) (e:=dx) (by rw[ed];exact Ng) (.inl rfl) (fun b u nb e=>(sb.2 b nb).trans e) hd (sI e2 fun g=>by
   rw[iR]
   by_cases hg:g=f
   ·rw[if_pos hg,if_pos hg];exact ry
   ·rw[if_neg hg,if_neg hg];exact r1 g),q2⟩
def vE (he:QE X o ta)(hb:attributeBase o f X.env (eval o X.env)=eval o X.env:=by rfl):QE X (.Attribute o f pos) (my X.K ta f):=by
 refine⟨fun pins s σ H Q I h=>?_⟩
 refine sZ hb (thn (he.out pins s σ H _ I h) fun u s1 ⟨x,H1,I1,rx,a,C,dx,fs,v,ex,ea,ed,G,l,q⟩=>?_)
 subst ex
 obtain rfl:u=Mn a:=rx
 obtain⟨oe,vs,e1,e2,e3,e4,_⟩:=sf (P:=X.prog) (w:=X.w) (I1.hok a _ ea)
 obtain⟨mA,n1,r1⟩:=sJ (P:=X.prog) (w:=X.w) (I1.hok dx _ ed)
 obtain⟨u,hu,ru⟩:=cO.some_of (v:=v) (o:=mA f) (by rw[<-l];exact r1 f)
 obtain⟨hp,g,d,tk,os⟩:=s1
 exact HT.AQ I1.kIn e1 e2 e3 ⟨_,e4⟩ n1 G hu (oA ru) ⟨v,H1,I1.tok _,ru,q⟩
end
def jP (a:Addr)(H:Hp):Hp:=fun b=>if b=a then none else H b
def kg {a:Addr}{H:Hp}:jP a H a=none:=by unfold jP;rw[if_pos rfl]
def eA {a b:Addr}{H:Hp}(h:b≠a):jP a H b=H b:=by unfold jP;rw[if_neg h]
def HOk.off {P:Ms}{w:MG}{H:Hp}{h:Heap}{a:Addr}{φ:Heap->Prop}(k:HOk P w H h)(ha:H a=some (.ext φ)):HOk P w (jP a H) h:=fun b o e=>by
 by_cases hb:b=a
 ·subst hb;rw[kg]at e;cases e
 ·rw[eA hb]at e
  exact(k b o e).stay (fun c u _ q=>q) (fun c q=>by rw[eA (fun z=>by rw[z,ha]at q;cases q)];exact q) fun c xs q=>by rw[eA (fun z=>by rw[z,ha]at q;cases q)];exact q
def Un.off {fs:List Addr}{H H':Hp}{h h':Heap}{a:Addr}(u:Un fs [] H H' h h')(ha:H a=none):Un fs [] H (jP a H') h h' where
 keep:=u.keep
 slot:=u.slot
 free:=fun b o e n hx=>by
  by_cases hb:b=a
  ·rw[hb];exact kg
  ·rw[eA hb];exact u.free b o e n hx
 there:=u.there
 tups:=fun b xs e=>by rw[eA (av e ha)];exact u.tups b xs e
 frzs:=fun b o v e=>by rw[eA (av e ha)];exact u.frzs b o v e
 tbls:=fun b ps e=>by rw[eA (av e ha)];exact u.tbls b ps e
end L2
namespace HT
open PySem PyProof.Rows
section
variable {M:SK}{A:Mw}{E:tx->If->Prop}{env:Env}{K:cW}{C:Addr}
def xg {s:If}{x:Sem tx}{Q:Flow->If->Prop}(hC:L2.bT K C)(hh:A.handled=none)
  (h:wpAny M A x (fun v s₁=>∃e t d,v=.ref e/\K.In s₁.heap/\s₁.heap.get? e=some (lO C t d)/\E (.ref e) s₁) E s):wpAny M A (raiseStmt env (some x) none) Q E s:=by
 unfold raiseStmt
 refine gV (Mx h (fun v s₁ h₁=>?_) fun _ _ x=>x)
 obtain⟨e,t,d,rfl,X,he,hE⟩:=h₁
 obtain⟨bm,N,nm,qn,bs,hdct,sn,sub,ab,col,dd,k0,k1,k2,k3,k5,mN,oC,hN,_,T,_⟩:=L2.fQ X hC
 have hcB:(Mn C::bm).contains (.type "BaseException")=true:=by rw[Qi,T.hasType (X:="BaseException") (b:=true) (by decide+kernel),RH]
 obtain⟨hp,g,dr,tk,os⟩:=s₁
 repeat (first|with_reducible refine MN he ?_ |with_reducible refine MN oC ?_ |(with_reducible refine NJ oC ?_;rw[hcB])|wp_step)
 exact wpAny_raiseNew_none hh hE
def wy {prog:Ms}{w:MG}{A:Mw}{K:cW}{C f:Addr}{R:Qs->If->Prop}{s:If}{us:List tx}(X:K.In s.heap)(hC:L2.bT K C)(hi:Mq K (.ref C) "__init__"=some (some (.ref f)))(hf:W.typeIn K (.ref f)=some (.type "function"))(hus:us.length<=sizeLine)
  (hq:codeAny (model prog w) (A.under (.builtin "type.__call__" ⟨.ref C::us,[]⟩)) (.call (.ref f) ⟨.ref (s.heap.objs.size+1)::us,[]⟩) (W.InitBack (s.heap.objs.size+1) R) {s with heap:=iO s.heap C us}):
  codeAny (model prog w) A (.call (.ref C) ⟨us,[]⟩) R s:=by
 obtain⟨h,g,d,t,os⟩:=s
 exact zC X hC hi hf hus hq
end
end HT
namespace L2
open PySem PySem.Spec PyProof.Rows
def nK (C:Addr)(sp:Sp)(E:St->XK)(t:TA):TS:=fun _ σ H=>t σ H fun vs H1=>∀a,H1 a=none->sp (.ref a::vs) (upd H1 a (fh C a none)) (fun v H2=>v=.non/\∃d,H2 a=some (fh C a d)/\E σ (.ref C) d (jP a H2)) E0
structure vk (K:cW)(C f:Addr):Prop where
 ok:bT K C
 init:Mq K (.ref C) "__init__"=some (some (.ref f))
 fn:Pb K (.ref f)=true
 kp:Oh K (.ref C)=true
section
variable {X:Cx}{k:Nat}{f C:Addr}{fd:Mc}{ps:List Str}{sp:Sp}{E:St->XK}{x:Str}{np cpos pos:Pos}{e:Expr}{es:List Expr}{t:TA}
def rJ (Y:vk X.K C f)(F:aP X.prog X.w X.K X.mg X.base (CX1 X.prog X.w) k f fd ps sp)(hr:aX (k+1) X.A)(hb:bK X.K fd ps [])(hm:X.mg x=some (.ref C))(hR:qQ X E)(ha:QA X (e::es) t)
  (hc:X.calm=true:=by rfl)(hg:Gl X x:=by rfl)(hdb:(x==("__debug__":Str))=false:=by decide)(hs:bv (e::es)=true:=by rfl)(hps:ps.length<=1000:=by decide):QS X (.Raise (some (.Call (.Name x np) (e::es) [] cpos)) none pos) (nK C sp E t):=by
 refine⟨fun pins s σ H D I h=>?_⟩
 have h':(cf e&&bv es)=true:=hs
 rw[arm_exec_Raise]
 refine gV (Ol (HT.xg Y.ok (I.ok.hd hc) ?_))
 refine gV (Mx ?_ (fun v s₃ h₃=>gV (Ol (LY h₃))) fun _ _ x=>x)
 refine MV (gg I hg hm ?_ hdb)
 refine PF (h₀:=X.base) I.ok.mod.kin Y.kp (thn (ha.out cpos pins s σ H _ I h) fun us s1 ⟨vs,H1,I1,r,q⟩=>⟨I1.kIn,?_⟩) (be (LX.mp h').1 es X.env) (ck (LX.mp h').2)
 have ka:∀b u,s1.heap.get? b=some u->(HT.iO s1.heap C us).get? b=some u:=fun b u eb=>Lt _ (Lt _ eb)
 have ex:(HT.iO s1.heap C us).get? (s1.heap.objs.size+1)=some (HT.lO C s1.heap.objs.size none):=by heap_get
 have hfr:H1 (s1.heap.objs.size+1)=none:=I1.hok.fresh (NQ _)
 have I2:Inv X pins σ (upd H1 (s1.heap.objs.size+1) (fh C (s1.heap.objs.size+1) none)) {s1 with heap:=HT.iO s1.heap C us,toks:=s1.toks}:=I1.laid ka (NQ _) (sD ex)
 have hq:=q (s1.heap.objs.size+1) hfr
 have r2:ba (V.ref (s1.heap.objs.size+1)::vs) (Mn (s1.heap.objs.size+1)::us):=.cons rfl r
 have hl:(Mn (s1.heap.objs.size+1)::us).length=ps.length:=by rw[<-r2.length];exact F.len _ _ _ _ hq
 have hb':=hb {s1 with heap:=HT.iO s1.heap C us} (Mn (s1.heap.objs.size+1)::us) I2.kIn (by rw[MU];exact hl)
 rw[MU]at hb'
 have husz:us.length<=sizeLine:=by
  rw[Mb]at hl
  rw[NL];omega
 refine ON (HT.wy I1.kIn Y.ok Y.init (beq_iff_eq.mp Y.fn) husz (Nw (F.run _ X.stack _ _ ⟨Mn (s1.heap.objs.size+1)::us,[]⟩ (Mn (s1.heap.objs.size+1)::us) _ _ _ (hr.make C us []) (I2.env0.make C us []) hb' r2 hq) fun rr s' hq'=>?_))
 cases rr with
 |error e'=>
  obtain⟨_,_,_,_,_,_,z⟩:=hq'
  exact z.elim
 |ok fl=>
  cases fl with
  |next=>exact MB hq'
  |brk=>exact MB hq'
  |cont=>exact MB hq'
  |ret u=>
   obtain⟨v,H',os,bare,un,hok,rv,rfl,d,hd,hE⟩:=hq'
   obtain⟨t,et⟩:=nR (P:=X.prog) (w:=X.w) (hok _ _ hd)
   have u1:Un (frs X.stack) [] H1 H' s1.heap s'.heap:=(Un.laid (o:=fh C (s1.heap.objs.size+1) none) ka (NQ _) hfr).trans un
   have kin:X.K.In s'.heap:=by
    have I3:Inv X pins σ H' s':=I1.call' (ch:=[]) os u1 hok bare fun b z=>absurd z (by simp)
    exact I3.kIn
   refine⟨rv,s1.heap.objs.size+1,t,d,rfl,kin,et,hR pins σ H1 s1 C (s1.heap.objs.size+1) d (jP (s1.heap.objs.size+1) H') s' I1 ⟨os,bare,u1.off hfr,hok.off hd,RP (NQ _),kg,⟨_,_,.ref t,et,rfl,rfl,rfl,⟨rfl,rfl⟩,rfl⟩⟩ hE⟩
end
end L2
namespace L2
open PySem PySem.Spec PyProof.Rows PySem.W
section
variable {key:Nat->Int}{n:Nat}
def at' (p:Array Nat)(i:Nat):Nat:=p.getD i 0
variable (inj:∀i j,i<n->j<n->key i=key j->i=j)
include inj
omit inj in
omit inj in
omit inj in
end
end L2
namespace Rs
abbrev st (B k d:Nat):Nat:=k/2^(B- d)
abbrev sd (B k d:Nat):Nat:=k/2^(B- 1- d)%2
section
variable {α:Type}
def alN (B x y:Nat):Nat->Nat
 |0=>0
 |c+1=>if x/2^(B- (c+1))=y/2^(B- (c+1))then c+1 else alN B x y c
def al (B x y:Nat):Nat:=alN B x y B
end
end Rs
namespace L2
open PySem PySem.Spec PyProof.Rows
section
variable {X:Cx}
def CW {x y z u:Str}{px py pz pu ep pos:Pos}{ek:Nat}{e:Expr}{te:TE}(i j k l:Nat)(hN:X.N.Nodup)(hc:X.calm=true)(he:QE X e te)(hi:X.N[i]?=some x:=by rfl)(hj:X.N[j]?=some y:=by rfl)(hk:X.N[k]?=some z:=by rfl)(hl:X.N[l]?=some u:=by rfl)
  (hx:Loc X.env.scope x:=by first|exact .inl rfl|exact .inr rfl)(hy:Loc X.env.scope y:=by first|exact .inl rfl|exact .inr rfl)(hz:Loc X.env.scope z:=by first|exact .inl rfl|exact .inr rfl)(hu:Loc X.env.scope u:=by first|exact .inl rfl|exact .inr rfl)
  (fx:X.fn x=true\/X.env.scope.names.lookup x=some .local:=by first|exact .inl rfl|exact .inr rfl)(fy:X.fn y=true\/X.env.scope.names.lookup y=some .local:=by first|exact .inl rfl|exact .inr rfl)(fz:X.fn z=true\/X.env.scope.names.lookup z=some .local:=by first|exact .inl rfl|exact .inr rfl)(fu:X.fn u=true\/X.env.scope.names.lookup u=some .local:=by first|exact .inl rfl|exact .inr rfl)
  (hs:swapsWithSole [.Tuple [.Name x px,.Name y py,.Name z pz,.Name u pu] ek ep] e pos.line X.env=pure false:=by rfl)(hw:swappedStores [.Tuple [.Name x px,.Name y py,.Name z pz,.Name u pu] ek ep] e X.env=pure none:=by rfl):
  QS X (.Assign [.Tuple [.Name x px,.Name y py,.Name z pz,.Name u pu] ek ep] e pos) (aE te (kJ X.K 4 (cx (ay i) (cx (ay j) (cx (ay k) (cx (ay l) iS)))))):=
 ⟨jZ he.out (qw hc (dA (dF hN hi hx fx) (dA (dF hN hj hy fy) (dA (dF hN hk hz fz) (dA (dF hN hl hu fu) lu))))) hs hw⟩
end
theorem dv {σ:St}{b:Addr}:∀(cs:List (Nat×Addr))(H:Hp),(∀p∈cs,p.2≠b)->br cs σ H b=H b
 |[],H,_=>rfl
 |(i,c)::r,H,h=>by
  have hr:∀p∈r,p.2≠b:=fun p hp=>h p (Mm _ hp)
  have hc:c≠b:=h (i,c) MD
  unfold br
  rcases hσ:σ[i]? with _|_|v
  ·exact dv r _ hr
  ·exact dv r _ hr
  ·show br r σ (upd H c (bB c v)) b=H b
   rw[dv r _ hr,ao (Md hc)]
section
variable {X:Cx}{pins:List (Addr×Obj)}{σ:St}{H H':Hp}{s s':If}{cs:List (Nat×Addr)}
structure Lcs (X:Cx)(cs:List (Nat×Addr)):Prop where
 ex:X.ex=[]
 nd:(cs.map (·.2)).Nodup
 at':∀p∈cs,∃y,X.N[p.1]?=some y/\X.fn y=true/\X.env.scope.names.lookup y=some .cell/\X.env.cells.lookup y=some p.2
def Ax (I:Inv X pins σ H s)(C:Lcs X cs):Un X.fs [] X.H₀ (br cs σ H) X.s₀.heap s.heap/\HOk X.prog X.w (br cs σ H) s.heap:=by
 have b:=I.base
 rw[C.ex]at b
 refine jr (σ:=σ) cs H C.nd (fun p hp=>?_) b I.hok
 obtain⟨y,hy,hf,hk,hc⟩:=C.at' p hp
 refine⟨I.freeC y p.2 hc,I.ok.cab y p.2 hf hc,fun v hv=>?_⟩
 obtain⟨m,_,hloc⟩:=I.loc
 obtain⟨u',r',lk'⟩:=hloc p.1 y v hy hv (.inr (.inl hk))
 rcases lk' with⟨z,_⟩|⟨_,c,ec,o,eo,hd⟩
 ·have z:X.env.scope.names.lookup y=some .local:=z
  rw[hk]at z;cases z
 ·rw[hc]at ec;cases ec
  exact⟨u',o,r',eo,hd⟩
def Lcs.notin (C:Lcs X cs)(I:Inv X pins σ H s){b:Addr}{o:Obj}(e:s.heap.get? b=some o)(hd:∀v,o.data≠.cell v):∀p∈cs,p.2≠b:=fun p hp z=>by
 obtain⟨y,_,_,_,hc⟩:=C.at' p hp
 obtain⟨v,o',e',d'⟩:=I.cell y p.2 hc
 rw[z,e]at e';cases e'
 exact hd v d'
def yg (I:Inv X pins σ H s)(C:Lcs X cs):iK X.prog X.w X.K X.mg X.base X.A X.stack s (br cs σ H):=by
 obtain⟨un,ok⟩:=Ax I C
 have ev:=I.env0
 have old:∀b o,X.s₀.heap.get? b=some o->∀p∈cs,p.2≠b:=fun b o e p hp z=>by
  obtain⟨y,_,hf,_,hc⟩:=C.at' p hp
  have:=I.ok.cab y p.2 hf hc
  rw[z]at this
  exact absurd (Mg (Ma e) this) (Nd _)
 refine⟨ev.frames,ev.mod,fun b o eb=>⟨(ev.bs b o eb).1,?_⟩,ev.bsz,ev.funs,fun b hb=>?_,ok,ev.bare⟩
 ·rw[dv _ _ (old b o (I.ok.bs b o eb).1)];exact(ev.bs b o eb).2
 ·rcases LZ.mp (I.stkSub b hb)with z|z
  ·obtain⟨m,⟨o,es,ep,ho,r⟩,_⟩:=I.loc
   rw[z,dv _ _ (C.notin I ho fun v z=>by rw[r.1]at z;cases z)];exact I.free
  ·obtain⟨_,o,ho,_⟩:=I.ok.funs.mem z
   rw[dv _ _ (old b o ho)];exact ev.frf b hb
def Inv.live (I:Inv X pins σ H s)(C:Lcs X cs)(hN:X.N.Nodup)(os:s'.os=s.os)(bare:Pe s'.gens)(u:Un (frs X.stack) [] (br cs σ H) H' s.heap s'.heap)(hok:HOk X.prog X.w H' s'.heap)(st:∀p∈cs,∃v,σ[p.1]? =some (some v)/\H' p.2=some (bB p.2 v)):Inv X pins σ (cp (cs.map (·.2)) H') s':=by
 have out:∀{b:Addr},(∀p∈cs,p.2≠b)->b∉cs.map (·.2):=fun h z=>by
  obtain⟨p,hp,e⟩:=Nf.mp z
  exact h p hp e
 have tk:∀{b:Addr},(∀p∈cs,p.2≠b)->br cs σ H b=H b:=fun h=>dv _ _ h
 have fr:∀b o,s.heap.get? b=some o->H b=none->cp (cs.map (·.2)) H' b=none:=fun b o e n=>by
  by_cases hb:b∈cs.map (·.2)
  ·exact gE hb
  ·rw[cj hb]
   exact u.free b o e (by rw[tk fun p hp z=>hb (Nf.mpr ⟨p,hp,z⟩)];exact n) (by simp)
 have ks:∀b o,(∀p∈cs,p.2≠b)->b≠X.env.locals->b∉X.fs->s.heap.get? b=some o->H b=none->s'.heap.get? b=some o:=fun b o h hL hb e n=>u.keep b o e (by rw[tk h];exact n) (fun z=>(LZ.mp (I.stkSub b z)).elim hL hb) (by simp)
 have sl:∀b o,(∀p∈cs,p.2≠b)->s.heap.get? b=some o->H b=none->∃q,s'.heap.get? b=some {o with slots:=q}:=fun b o h e n=>u.any e (by rw[tk h];exact n) (by simp)
 have some':∀b o,H b=some o->∀p∈cs,p.2≠b:=fun b o e p hp z=>by
  obtain⟨y,_,_,_,hc⟩:=C.at' p hp
  have:=I.freeC y p.2 hc
  rw[z,e]at this;cases this
 have neL:∀b o,X.s₀.heap.get? b=some o->b≠X.env.locals:=fun b o e=>Ml (Mg (Ma e) I.ok.above)
 have old:∀b o,X.s₀.heap.get? b=some o->∀p∈cs,p.2≠b:=fun b o e p hp z=>by
  obtain⟨y,_,hf,_,hc⟩:=C.at' p hp
  have:=I.ok.cab y p.2 hf hc
  rw[z]at this
  exact absurd (Mg (Ma e) this) (Nd _)
 obtain⟨m,⟨oL,es,ep,hoL,rL⟩,hl⟩:=id I.loc
 have nL:=C.notin I hoL fun v z=>by rw[rL.1]at z;cases z
 obtain⟨qL,hL'⟩:=sl _ oL nL hoL I.free
 have cellK:∀x c,X.env.cells.lookup x=some c->(∀p∈cs,p.2≠c)->∀v,s.heap.IsCell c v->s'.heap.IsCell c v:=fun x c e h v ⟨o,ho,hd⟩=>by
  obtain⟨q,e'⟩:=sl c o h ho (I.freeC x c e)
  exact⟨_,e',hd⟩
 have cellS:∀p∈cs,∃v w,σ[p.1]? =some (some v)/\aS v w/\s'.heap.IsCell p.2 (some w):=fun p hp=>by
  obtain⟨v,hv,e⟩:=st p hp
  obtain⟨w,o,r,eo,hd⟩:=(hok p.2 _ e).1
  exact⟨v,w,hv,r,o,eo,hd⟩
 refine⟨I.ok,os.trans I.os,bare,⟨fun b o e n hb hx=>?_,fun b o e n hb hx=>?_,fun b o e n hx=>?_,fun b o e hx=>?_,fun b xs e=>?_,fun b o xs e=>?_,fun b ps e=>?_⟩,⟨m,⟨_,es,ep,hL',rL⟩,fun i x v e1 e2 e3=>?_⟩,fun x c e=>?_,fr _ oL hoL I.free,fun x c e=>?_,fun p hp=>?_,?_,I.len⟩
 ·exact ks b o (old b o e) (neL b o e) hb (I.base.keep b o e n hb hx) (I.base.free b o e n hx)
 ·obtain⟨q1,e1⟩:=I.base.slot b o e n hb hx
  obtain⟨q2,e2⟩:=sl b _ (old b o e) e1 (I.base.free b o e n hx)
  exact⟨q2,e2⟩
 ·obtain⟨o',e1⟩:=I.base.there b o e hx
  exact fr b o' e1 (I.base.free b o e n hx)
 ·obtain⟨o',e1⟩:=I.base.there b o e hx
  exact u.there b o' e1 (by simp)
 ·have e1:=I.base.tups b xs e
  have h:=some' b _ e1
  rw[cj (out h)];exact u.tups b xs (by rw[tk h];exact e1)
 ·have e1:=I.base.frzs b o xs e
  have h:=some' b _ e1
  rw[cj (out h)];exact u.frzs b o xs (by rw[tk h];exact e1)
 ·obtain⟨m1,e1⟩:=I.base.tbls b ps e
  have h:=some' b _ e1
  obtain⟨m2,e2⟩:=u.tbls b _ (by rw[tk h];exact e1)
  exact⟨m1++m2,by rw[cj (out h),e2,Qb]⟩
 ·obtain⟨w,r,lk⟩:=hl i x v e1 e2 e3
  rcases lk with lk|⟨k,c,e,z⟩
  ·exact⟨w,r,.inl lk⟩
  ·by_cases hc:∃p∈cs,p.2=c
   ·obtain⟨p,hp,rfl⟩:=hc
    obtain⟨y,hy,_,_,hcy⟩:=C.at' p hp
    have exy:=I.ok.inj x y p.2 e hcy
    subst exy
    obtain⟨v',w',hv',r',ic⟩:=cellS p hp
    have ei:=jM hN e1 hy
    subst ei
    rw[e2]at hv'
    have ev:=LW (LW hv')
    subst ev
    exact⟨w',r',.inr ⟨k,p.2,e,ic⟩⟩
   ·exact⟨w,r,.inr ⟨k,c,e,cellK x c e (fun p hp z=>hc ⟨p,hp,z⟩) _ z⟩⟩
 ·by_cases hc:∃p∈cs,p.2=c
  ·obtain⟨p,hp,rfl⟩:=hc
   obtain⟨v',w',_,_,ic⟩:=cellS p hp
   exact⟨_,ic⟩
  ·obtain⟨v,z⟩:=I.cell x c e
   exact⟨v,cellK x c e (fun p hp z=>hc ⟨p,hp,z⟩) v z⟩
 ·obtain⟨v,o,ho,hd⟩:=I.cell x c e
  exact fr c o ho (I.freeC x c e)
 ·obtain⟨e,n,ne,nf,d⟩:=I.pin p hp
  have h:=C.notin I e d
  exact⟨ks p.1 p.2 h ne nf e n,fr p.1 p.2 e n,ne,nf,d⟩
 ·have ca:∀l:List (Nat×Addr),(∀p∈l,∃v,σ[p.1]? =some (some v)/\H' p.2=some (bB p.2 v))->∃cvs,cK H' (l.map (·.2)) cvs:=fun l=>by
   induction l with
   |nil=>intro _;exact⟨[],.nil⟩
   |cons p r ih=>
    intro h
    obtain⟨cvs,t⟩:=ih fun q hq=>h q (Mm _ hq)
    obtain⟨v,_,e⟩:=h p MD
    exact⟨v::cvs,.cons e t⟩
  obtain⟨cvs,c⟩:=ca cs st
  exact tK c hok
def spL (cs:List (Nat×Addr))(sp:Sp)(vs:List V)(σ:St)(H:Hp)(Q:VK):Prop:=(∀p∈cs,∃v,σ[p.1]?=some (some v))/\((∀p∈cs,H p.2=none)->sp vs (br cs σ H) (fun v H2=>(∀p∈cs,∀w,σ[p.1]?=some (some w)->H2 p.2=some (bB p.2 w))/\Q v (cp (cs.map (·.2)) H2)) E0)
def zm {k:Nat}{f:Addr}{fd:Mc}{ps:List Str}{sp:Sp}{P:Ms}{w:MG}{Q:VK}{us:List tx}{vs:List V}(F:aP X.prog X.w X.K X.mg X.base (CX1 P w) k f fd ps sp)(hr:aX k X.A)(hb:bK X.K fd ps [])(C:Lcs X cs)(hN:X.N.Nodup)
  (I:Inv X pins σ H s)(r:ba vs us)(h:spL cs sp vs σ H Q):wpAny (model X.prog X.w) X.A (call (.ref f) us) (EP X pins σ Q) X.xe s:=by
 have h2:=h.2 fun p hp=>by
  obtain⟨y,_,_,_,hc⟩:=C.at' p hp
  exact I.freeC y p.2 hc
 have hl:us.length=ps.length:=by rw[<-r.length];exact F.len _ _ _ _ h2
 have hb2:=hb s us I.kIn (by rw[MU];exact hl)
 rw[MU]at hb2
 refine ON (Nw (F.run X.A X.stack s _ ⟨us,[]⟩ us vs _ E0 hr (yg I C) hb2 r h2) fun rr s' hq=>?_)
 cases rr with
 |error e=>obtain⟨_,_,_,_,_,_,z⟩:=hq;exact z.elim
 |ok fl=>
  cases fl with
  |ret u=>
   obtain⟨v,H',os,bare,un,hok,rv,st,qv⟩:=hq
   exact⟨v,_,I.live C hN os bare un hok (fun p hp=>by obtain⟨w,hw⟩:=h.1 p hp;exact⟨w,hw,st p hp w hw⟩),rv,qv⟩
  |next=>exact MB hq
  |brk=>exact MB hq
  |cont=>exact MB hq
def vQ (cs:List (Nat×Addr))(C:Addr)(m:Str)(sp:Sp)(ta:TE)(t:TA):TE:=fun σ H Q=>ta σ H fun x H1=>MtI C m x H1 (t σ H1 fun vs H2=>spL cs sp (x::vs) σ H2 Q)
def Ba {k:Nat}{f D:Addr}{fd:Mc}{ps:List Str}{sp:Sp}{P:Ms}{w:MG}{m:Str}{o e:Expr}{es:List Expr}{ta:TE}{t:TA}{apos pos:Pos}{pl:Sem Bool}(he:QE X o ta)(c:Cls X.K D)(hm:iL X.K D m f)(F:aP X.prog X.w X.K X.mg X.base (CX1 P w) k f fd ps sp)(hr:aX k X.A)(hb:bK X.K fd ps [])(C:Lcs X cs)(hN:X.N.Nodup)(ha:QA X (e::es) t)(hs:bv (e::es)=true:=by rfl)
  (ht:eval (.Call (.Attribute o m apos) (e::es) [] pos) X.env=(do
   let ov<-eval o X.env
   standAt apos.atName
   let (f,first)<-holding [ov] (getMethod ov m pl)
   callWith pos f first (backTo pos (starEach (e::es) X.env)) (backToKw pos (keywordEach [] X.env))):=by rfl):
  QE X (.Call (.Attribute o m apos) (e::es) [] pos) (vQ cs D m sp ta t):=⟨fun pins s σ H Q I h=>by
 have h':(cf e&&bv es)=true:=hs
 refine PD (pl:=pl) (thn (he.out pins s σ H _ I h) fun u s1 ⟨x,H1,I1,rx,a,dx,fs,ex,ea,l,q⟩=>?_) ht
 subst ex
 obtain rfl:u=Mn a:=rx
 refine jQ I1 ea c hm l ?_
 refine PF (first:=[.ref a]) (h₀:=X.base) I.ok.mod.kin hm.kp (thn (ha.out pos pins s1 σ H1 _ I1 q) fun us s2 ⟨vs,H2,I2,r,q2⟩=>⟨I2.kIn,?_⟩)
  (be (LX.mp h').1 es X.env) (ck (LX.mp h').2)
 exact zm (us:=.ref a::us) (vs:=.ref a::vs) F hr hb C hN I2 (.cons rfl r) q2⟩
end
def vA (K:cW)(n:Nat)(t:TGs):TG:=fun v σ H Q=>∃a xs,v=.ref a/\SqL K H a xs/\xs.length=n/\t xs σ H Q
section
variable {X:Cx}{pos:Pos}
def Be {es:List Expr}{k:Nat}{t:TGs}{n:Nat}(hc:X.calm=true)(h:PGs X es t)
  (hn:(assignEach es X.env).length=n:=by rfl)(hst:(assignEach es X.env).findIdx? (·.1)=none:=by rfl):PG X (.Tuple es k pos) (vA X.K n t):=by
 intro pins s σ H v u Q I r hw
 obtain⟨a,xs,e1,hq,hl,hw⟩:=hw
 subst e1
 cases r
 obtain⟨its,rv,⟨o,m,e,hcl,_,hd⟩,hz⟩:=I.list hq
 have hL:s.heap.IsList a its.toArray:=⟨o,e,hcl,m,hd⟩
 have hs:(assignEach es X.env).length=its.toArray.size:=by simp[hn,<-hl,rv.length]
 rw[assign_Tuple]
 refine gV (Ol ?_)
 unfold unpack
 rw[hs,hst]
 refine gV (Nn (W.kun_itemsOf (I.ok.hd hc) hL fun h' hx=>?_))
 have I1:Inv X pins σ H {s with heap:=h'}:=I.kept (t':=s.toks) fun b o e=>hx b o (Ml (Ma e)) e
 exact h pins _ σ H xs _ Q I1 (by simpa using rv) hw
def AF {x y:Str}{px py ep pos:Pos}{ek:Nat}{e:Expr}{te:TE}(i j:Nat)(hN:X.N.Nodup)(hc:X.calm=true)(he:QE X e te)(hi:X.N[i]?=some x:=by rfl)(hj:X.N[j]?=some y:=by rfl)
  (hx:Loc X.env.scope x:=by first|exact .inl rfl|exact .inr rfl)(hy:Loc X.env.scope y:=by first|exact .inl rfl|exact .inr rfl)
  (fx:X.fn x=true\/X.env.scope.names.lookup x=some .local:=by first|exact .inl rfl|exact .inr rfl)(fy:X.fn y=true\/X.env.scope.names.lookup y=some .local:=by first|exact .inl rfl|exact .inr rfl)
  (hs:swapsWithSole [.Tuple [.Name x px,.Name y py] ek ep] e pos.line X.env=pure false:=by rfl)(hw:swappedStores [.Tuple [.Name x px,.Name y py] ek ep] e X.env=pure none:=by rfl):
  QS X (.Assign [.Tuple [.Name x px,.Name y py] ek ep] e pos) (aE te (vA X.K 2 (cx (ay i) (cx (ay j) iS)))):=
 ⟨jZ he.out (Be hc (dA (dF hN hi hx fx) (dA (dF hN hj hy fy) lu))) hs hw⟩
end
end L2
namespace Rs
open PySem PySem.Spec PyProof.Rows L2
abbrev gOp:=List Key->Option Key
def fU (s:Stmt)(j:Nat):Stmt:=match s with
 |.ClassDef _ _ _ b _ _ _ _ _ _ _=>b.getD j (.Pass ⟨0,0,0,0⟩)
 |_=>.Pass ⟨0,0,0,0⟩
def top (i:Nat):Stmt:=PySem.Challenge.pw_rootstamp_k61_what_a_desk_hears.main.body.getD i (.Pass ⟨0,0,0,0⟩)
abbrev zE:Stmt:=top 15
abbrev zg:Stmt:=top 16
abbrev xF:Stmt:=top 17
abbrev yD:Stmt:=top 19
abbrev xE:Stmt:=top 18
abbrev s_6:Stmt:=fU (top 48) 1
abbrev lT:Stmt:=top 49
abbrev s_5:Stmt:=fU (top 48) 0
abbrev lN:Stmt:=top 50
abbrev ma:Stmt:=top 56
abbrev lD:Stmt:=top 57
abbrev yM:Stmt:=top 58
abbrev yN:Stmt:=top 52
abbrev yd:Stmt:=top 59
abbrev zh:Stmt:=top 65
abbrev yu:Stmt:=top 60
abbrev yO:Stmt:=top 61
abbrev yi:Stmt:=top 54
abbrev yQ:Stmt:=top 55
abbrev yh:Stmt:=top 62
abbrev xk:Stmt:=top 74
abbrev yw:Stmt:=top 75
abbrev yB:Stmt:=top 63
abbrev zb:Stmt:=top 71
abbrev xj:Stmt:=top 76
abbrev zo:Stmt:=top 64
abbrev xJ:Stmt:=top 22
abbrev ym:Stmt:=top 29
abbrev xQ:Stmt:=top 30
abbrev s_1:Stmt:=fU (top 42) 0
abbrev xt:Stmt:=top 25
abbrev zy:Stmt:=top 31
abbrev nX:Stmt:=top 32
abbrev s_2:Stmt:=fU (top 42) 1
abbrev xB:Stmt:=top 26
abbrev yk:Stmt:=top 24
abbrev zc:Stmt:=top 36
abbrev zw:Stmt:=top 27
abbrev zl:Stmt:=top 34
abbrev xU:Stmt:=top 39
abbrev xY:Stmt:=top 38
abbrev nE:Stmt:=top 37
abbrev s_0:Stmt:=fU (top 11) 0
abbrev nw:Stmt:=top 40
abbrev s_7:Stmt:=fU (top 12) 0
abbrev s_4:Stmt:=fU (top 42) 2
abbrev lG:Stmt:=top 69
abbrev xZ:Stmt:=top 72
abbrev oa:Stmt:=top 43
abbrev xR:Stmt:=fU (top 46) 1
abbrev s_9:Stmt:=fU (top 46) 2
abbrev s_3:Stmt:=fU (top 42) 3
abbrev zD:Stmt:=top 66
abbrev xA:Stmt:=top 67
abbrev xD:Stmt:=top 73
abbrev s_8:Stmt:=fU (top 46) 0
abbrev lC:Stmt:=top 68
abbrev lY:Stmt:=top 77
abbrev lV:Stmt:=top 70
abbrev lX:Stmt:=top 78
def sAt (i:Nat)(l:List Stmt):Stmt:=l.getD i (.Pass ⟨0,0,0,0⟩)
def LL:Stmt->List Stmt|.Try b _ _ _ _=>b|_=>[]
def Hy:Stmt->Expr|.If c _ _ _=>c|_=>.Constant .none 0 ⟨0,0,0,0⟩
def qO:Stmt->Expr|.Return (some e) _=>e|.Assign _ e _=>e|.Expr e _=>e|_=>.Constant .none 0 ⟨0,0,0,0⟩
def qp (i:Nat):Expr->Expr|.Call _ l _ _=>l.getD i (.Constant .none 0 ⟨0,0,0,0⟩)|e=>e
def BP:Expr->Expr|.Compare a _ _ _=>a|e=>e
def LQ:Expr->Expr|.Attribute o _ _=>o|e=>e
def dG:Expr->Expr|.Lambda _ b _ _=>b|e=>e
def gz:Expr->Scope|.Lambda _ _ sc _=>sc|_=>{kind:=.function,names:=[],isGenerator:=false,isCoroutine:=false}
abbrev yy:Expr:=(qO (sAt 0 (aK lT)))
def gJ:cz:=⟨(("writing":Str)++".<locals>.")++"<lambda>",.expr (dG yy),gz yy,["term"],[]⟩
abbrev xO:Expr:=(qO (sAt 1 (aK lN)))
def hU:cz:=⟨(("counting":Str)++".<locals>.")++"<lambda>",.expr (dG xO),gz xO,["term"],["numbers"]⟩
abbrev ze:Stmt:=(sAt 1 (aK ma))
def hV:cz:=⟨(("_law_sure":Str)++".<locals>.")++"_law_stamp",.stmts (aK ze),am ze,["_law_term"],["_law_step","_law_known"]⟩
abbrev zt:Stmt:=(sAt 0 (aK lD))
def fV:cz:=⟨(("_law_weak":Str)++".<locals>.")++"_law_stamp",.stmts (aK zt),am zt,["_law_term"],["_law_many_here"]⟩
abbrev xH:Stmt:=(sAt 0 (aK lC))
def cN:cz:=⟨(("_law_line":Str)++".<locals>.")++"_law_say",.stmts (aK xH),am xH,["_law_question"],["_law_marks","_law_head_here","_law_elder"]⟩
abbrev xv:Expr:=(qp 2 (qO (sAt 0 (aK lG))))
def df:cz:=⟨(("_law_desk":Str)++".<locals>.")++"<lambda>",.expr (dG xv),gz xv,["_law_one"],["_law_seals"]⟩
abbrev zd:Expr:=(qp 2 (qO (sAt 0 (LL (sAt 2 (aK lV))))))
def eQ:cz:=⟨(("_law_no_bits":Str)++".<locals>.")++"<lambda>",.expr (dG zd),gz zd,["_law_one"],[]⟩
abbrev za:Expr:=(qp 0 (qp 1 (BP (qO (sAt 8 (aK lY))))))
def cL:cz:=⟨(("_law_both":Str)++".<locals>.")++"<lambda>",.expr (dG za),gz za,["_law_question"],[]⟩
abbrev xo:Expr:=(qp 2 (LQ (BP (Hy (sAt 17 (aK lX))))))
def fW:cz:=⟨(("law":Str)++".<locals>.")++"<lambda>",.expr (dG xo),gz xo,["_law_one"],[]⟩
abbrev Rd (sp:Sp)(t:TS)(N:List Str):Prop:=∀(vs:List V)(H:Hp)(Q:VK)(E:XK),sp vs H Q E->t {nx:=fun _ H'=>Q .non H',rt:=Q} (L2.start N vs) H
abbrev Ln (sp:Sp)(n:Nat):Prop:=∀vs H Q E,sp vs H Q E->vs.length=n
set_option genInjectivity false in
structure Adr where
 a_57:Addr
 d_57:Mc
 a_55:Addr
 d_55:Mc
 a_56:Addr
 d_56:Mc
 a_62:Addr
 d_62:Mc
 a_68:Addr
 d_68:Mc
 a_6:Addr
 d_6:Mc
 a_66:Addr
 d_66:Mc
 a_5:Addr
 d_5:Mc
 a_44:Addr
 d_44:Mc
 a_36:Addr
 d_36:Mc
 a_40:Addr
 d_40:Mc
 a_35:Addr
 d_35:Mc
 a_15:Addr
 d_15:Mc
 a_16:Addr
 d_16:Mc
 a_20:Addr
 d_20:Mc
 a_23:Addr
 d_23:Mc
 a_28:Addr
 d_28:Mc
 a_38:Addr
 d_38:Mc
 a_34:Addr
 d_34:Mc
 a_39:Addr
 d_39:Mc
 a_13:Addr
 d_13:Mc
 a_25:Addr
 d_25:Mc
 a_33:Addr
 d_33:Mc
 a_31:Addr
 d_31:Mc
 a_24:Addr
 d_24:Mc
 a_32:Addr
 d_32:Mc
 a_51:Addr
 d_51:Mc
 a_65:Addr
 d_65:Mc
 a_61:Addr
 d_61:Mc
 a_1:Addr
 d_1:Mc
 a_52:Addr
 d_52:Mc
 a_54:Addr
 d_54:Mc
 a_43:Addr
 d_43:Mc
 a_2:Addr
 d_2:Mc
 a_53:Addr
 d_53:Mc
 a_50:Addr
 d_50:Mc
 a_49:Addr
 d_49:Mc
 a_42:Addr
 d_42:Mc
 a_58:Addr
 d_58:Mc
 a_46:Addr
 d_46:Mc
 a_63:Addr
 d_63:Mc
 a_48:Addr
 d_48:Mc
 a_0:Addr
 d_0:Mc
 a_47:Addr
 d_47:Mc
 a_7:Addr
 d_7:Mc
 a_4:Addr
 d_4:Mc
 a_17:Addr
 d_17:Mc
 a_19:Addr
 d_19:Mc
 a_64:Addr
 d_64:Mc
 a_10:Addr
 d_10:Mc
 a_9:Addr
 d_9:Mc
 a_3:Addr
 d_3:Mc
 a_21:Addr
 d_21:Mc
 a_14:Addr
 d_14:Mc
 a_22:Addr
 d_22:Mc
 a_8:Addr
 d_8:Mc
 a_26:Addr
 d_26:Mc
 a_11:Addr
 d_11:Mc
 a_29:Addr
 d_29:Mc
 a_59:Addr
 d_59:Mc
 k_66:Addr
 t_66:Addr
 k_44:Addr
 t_44:Addr
 k_36:Addr
 t_36:Addr
 k_40:Addr
 t_40:Addr
 k_17:Addr
 t_17:Addr
 k_26:Addr
 t_26:Addr
 k_11:Addr
 t_11:Addr
 k_29:Addr
 t_29:Addr
 k_59:Addr
 t_59:Addr
 c_NoBits:Addr
 c_NoHead:Addr
 c_Elder:Addr
 c_Unsealed:Addr
 c_NoPaper:Addr
 c_NoPlace:Addr
 c_Broken:Addr
 c_Parted:Addr
 c_Silent:Addr
 c_StampError:Addr
 c_Numbers:Addr
 c_Desk:Addr
 c_Spoken:Addr
set_option genInjectivity false in
structure Txt (K:cW)(mg:Str->Option tx)(A:Adr):Prop where
 f_57:Fm K mg "is_whole" "is_whole" zE A.a_57 A.d_57 ["thing"]
 f_55:Fm K mg "is_stamp" "is_stamp" zg A.a_55 A.d_55 ["thing"]
 f_56:Fm K mg "is_term" "is_term" xF A.a_56 A.d_56 ["thing"]
 f_62:Fm K mg "part_form" "part_form" yD A.a_62 A.d_62 ["part"]
 f_68:Fm K mg "written" "written" xE A.a_68 A.d_68 ["term"]
 f_6:Fun K "number_of" "Numbers.number_of" s_6 A.a_6 A.d_6
 b_6:bK K A.d_6 ["self","term"] []
 f_66:Fm K mg "writing" "writing" lT A.a_66 A.d_66 []
 f_5:Fun K "__init__" "Numbers.__init__" s_5 A.a_5 A.d_5
 b_5:bK K A.d_5 ["self"] []
 f_44:Fm K mg "counting" "counting" lN A.a_44 A.d_44 []
 f_36:Fm K mg "_law_sure" "_law_sure" ma A.a_36 A.d_36 ["_law_step"]
 f_40:Fm K mg "_law_weak" "_law_weak" lD A.a_40 A.d_40 ["_law_many_here"]
 f_35:Fm K mg "_law_stamper" "_law_stamper" yM A.a_35 A.d_35 ["_law_cell"]
 f_15:Fm K mg "_law_cell_at" "_law_cell_at" yN A.a_15 A.d_15 ["_law_script","_law_k"]
 f_16:Fm K mg "_law_count_by" "_law_count_by" yd A.a_16 A.d_16 ["_law_cell"]
 f_20:Fm K mg "_law_elder_for" "_law_elder_for" zh A.a_20 A.d_20 ["_law_cell","_law_count"]
 f_23:Fm K mg "_law_half" "_law_half" yu A.a_23 A.d_23 ["_law_many_here"]
 f_28:Fm K mg "_law_many" "_law_many" yO A.a_28 A.d_28 ["_law_count","_law_elder"]
 f_38:Fm K mg "_law_text_by" "_law_text_by" yi A.a_38 A.d_38 ["_law_cell"]
 f_34:Fm K mg "_law_stamp_by" "_law_stamp_by" yQ A.a_34 A.d_34 ["_law_cell"]
 f_39:Fm K mg "_law_tops" "_law_tops" yh A.a_39 A.d_39 ["_law_stamper_here","_law_count","_law_elder","_law_marks"]
 f_13:Fm K mg "_law_built" "_law_built" xk A.a_13 A.d_13 ["_law_stamper_here","_law_script"]
 f_25:Fm K mg "_law_held" "_law_held" yw A.a_25 A.d_25 ["_law_stamper_here","_law_cell","_law_elder","_law_top"]
 f_33:Fm K mg "_law_no_stamp" "_law_no_stamp" yB A.a_33 A.d_33 ["_law_cell"]
 f_31:Fm K mg "_law_no_head" "_law_no_head" zb A.a_31 A.d_31 ["_law_cell","_law_head_here"]
 f_24:Fm K mg "_law_head" "_law_head" xj A.a_24 A.d_24 ["_law_script","_law_wrong","_law_head_here","_law_elder"]
 f_32:Fm K mg "_law_no_paper" "_law_no_paper" zo A.a_32 A.d_32 ["_law_cell","_law_marks"]
 f_51:Fm K mg "is_bits" "is_bits" xJ A.a_51 A.d_51 ["thing"]
 f_65:Fm K mg "void_terms" "void_terms" ym A.a_65 A.d_65 ["stamper"]
 f_61:Fm K mg "none_head" "none_head" xQ A.a_61 A.d_61 ["stamper"]
 f_1:Fun K "__init__" "Desk.__init__" s_1 A.a_1 A.d_1
 b_1:bK K A.d_1 ["self","stamper","bits","knows"] []
 f_52:Fm K mg "is_count" "is_count" xt A.a_52 A.d_52 ["thing"]
 f_54:Fm K mg "is_head" "is_head" zy A.a_54 A.d_54 ["thing"]
 f_43:Fm K mg "check_head" "check_head" nX A.a_43 A.d_43 ["thing"]
 f_2:Fun K "check_new" "Desk.check_new" s_2 A.a_2 A.d_2
 b_2:bK K A.d_2 ["self","head"] []
 f_53:Fm K mg "is_elder" "is_elder" xB A.a_53 A.d_53 ["count","elder"]
 f_50:Fm K mg "half" "half" yk A.a_50 A.d_50 ["many"]
 f_49:Fm K mg "growth_turns" "growth_turns" zc A.a_49 A.d_49 ["count","elder"]
 f_42:Fm K mg "are_marks" "are_marks" zw A.a_42 A.d_42 ["many","thing"]
 f_58:Fm K mg "joint" "joint" zl A.a_58 A.d_58 ["turn","own","aside"]
 f_46:Fm K mg "grown_terms" "grown_terms" xU A.a_46 A.d_46 ["stamper","count","elder","steps"]
 f_63:Fm K mg "step_marks" "step_marks" xY A.a_63 A.d_63 ["turns","marks"]
 f_48:Fm K mg "growth_terms" "growth_terms" nE A.a_48 A.d_48 ["stamper","count","elder","marks"]
 f_0:Fun K "__init__" "Broken.__init__" s_0 A.a_0 A.d_0
 b_0:bK K A.d_0 ["self","due","came"] []
 f_47:Fm K mg "growth_answer" "growth_answer" nw A.a_47 A.d_47 ["stamper","head","elder","marks"]
 f_7:Fun K "__init__" "Parted.__init__" s_7 A.a_7 A.d_7
 b_7:bK K A.d_7 ["self","due","came"] []
 f_4:Fun K "hear" "Desk.hear" s_4 A.a_4 A.d_4
 b_4:bK K A.d_4 ["self","head","marks"] []
 f_17:Fm K mg "_law_desk" "_law_desk" lG A.a_17 A.d_17 ["_law_stamper_here","_law_bits","_law_seals","_law_head_here","_law_top"]
 f_19:Fm K mg "_law_due" "_law_due" xZ A.a_19 A.d_19 ["_law_wrong","_law_held_here","_law_head_here","_law_came","_law_old"]
 f_64:Fm K mg "told" "told" oa A.a_64 A.d_64 ["answer"]
 f_10:Fun K "newest" "Spoken.newest" xR A.a_10 A.d_10
 b_10:bK K A.d_10 ["self"] []
 f_9:Fun K "growth" "Spoken.growth" s_9 A.a_9 A.d_9
 b_9:bK K A.d_9 ["self","count","elder"] []
 f_3:Fun K "follow" "Desk.follow" s_3 A.a_3 A.d_3
 b_3:bK K A.d_3 ["self","line"] []
 f_21:Fm K mg "_law_flags" "_law_flags" zD A.a_21 A.d_21 ["_law_caught_here"]
 f_14:Fm K mg "_law_caught" "_law_caught" xA A.a_14 A.d_14 ["_law_desk_here","_law_line_here","_law_head_here","_law_marks"]
 f_22:Fm K mg "_law_gone" "_law_gone" xD A.a_22 A.d_22 ["_law_desk_here","_law_due_here","_law_told","_law_held_here","_law_head_here"]
 f_8:Fun K "__init__" "Spoken.__init__" s_8 A.a_8 A.d_8
 b_8:bK K A.d_8 ["self","say"] []
 f_26:Fm K mg "_law_line" "_law_line" lC A.a_26 A.d_26 ["_law_head_here","_law_marks","_law_elder"]
 f_11:Fm K mg "_law_both" "_law_both" lY A.a_11 A.d_11 ["_law_desks","_law_due_here","_law_elder","_law_case"]
 f_29:Fm K mg "_law_no_bits" "_law_no_bits" lV A.a_29 A.d_29 ["_law_stamper_here","_law_cell"]
 f_59:Fm K mg "law" "law" lX A.a_59 A.d_59 ["_law_script"]
 z_ValueError:mg "ValueError"=none
 z_all:mg "all"=none
 z_bool:mg "bool"=none
 z_int:mg "int"=none
 z_isinstance:mg "isinstance"=none
 z_len:mg "len"=none
 z_list:mg "list"=none
 z_max:mg "max"=none
 z_min:mg "min"=none
 z_range:mg "range"=none
 z_reversed:mg "reversed"=none
 z_str:mg "str"=none
 z_tuple:mg "tuple"=none
 c_MOST_BITS:∃t,mg "MOST_BITS"=some (.int 60 t)
 c_MOST_PARTS:∃t,mg "MOST_PARTS"=some (.int 8 t)
 kc_66:A.d_66.code=.ref A.k_66
 kc_44:A.d_44.code=.ref A.k_44
 kc_36:A.d_36.code=.ref A.k_36
 kc_40:A.d_40.code=.ref A.k_40
 kc_17:A.d_17.code=.ref A.k_17
 kc_26:A.d_26.code=.ref A.k_26
 kc_11:A.d_11.code=.ref A.k_11
 kc_29:A.d_29.code=.ref A.k_29
 kc_59:A.d_59.code=.ref A.k_59
 mc_NoBits:mg "NoBits"=some (.ref A.c_NoBits)
 eo_NoBits:bT K A.c_NoBits
 mc_NoHead:mg "NoHead"=some (.ref A.c_NoHead)
 eo_NoHead:bT K A.c_NoHead
 mc_Elder:mg "Elder"=some (.ref A.c_Elder)
 eo_Elder:bT K A.c_Elder
 mc_Unsealed:mg "Unsealed"=some (.ref A.c_Unsealed)
 eo_Unsealed:bT K A.c_Unsealed
 mc_NoPaper:mg "NoPaper"=some (.ref A.c_NoPaper)
 eo_NoPaper:bT K A.c_NoPaper
 mc_NoPlace:mg "NoPlace"=some (.ref A.c_NoPlace)
 eo_NoPlace:bT K A.c_NoPlace
 mc_Broken:mg "Broken"=some (.ref A.c_Broken)
 eo_Broken:bT K A.c_Broken
 mc_Parted:mg "Parted"=some (.ref A.c_Parted)
 eo_Parted:bT K A.c_Parted
 mc_Silent:mg "Silent"=some (.ref A.c_Silent)
 eo_Silent:bT K A.c_Silent
 mc_StampError:mg "StampError"=some (.ref A.c_StampError)
 eo_StampError:bT K A.c_StampError
 er_NoBits:cr K A.c_NoBits
 er_NoHead:cr K A.c_NoHead
 er_Elder:cr K A.c_Elder
 er_Unsealed:cr K A.c_Unsealed
 er_NoPaper:cr K A.c_NoPaper
 er_NoPlace:cr K A.c_NoPlace
 er_Silent:cr K A.c_Silent
 eg_NoBits:cu K A.c_NoBits
 eg_NoHead:cu K A.c_NoHead
 eg_Elder:cu K A.c_Elder
 eg_Unsealed:cu K A.c_Unsealed
 eg_NoPaper:cu K A.c_NoPaper
 eg_NoPlace:cu K A.c_NoPlace
 eg_Broken:cu K A.c_Broken
 eg_Parted:cu K A.c_Parted
 eg_Silent:cu K A.c_Silent
 ef_Broken_came:HT.eT K A.c_Broken "came"
 ef_Broken_due:HT.eT K A.c_Broken "due"
 ef_Parted_came:HT.eT K A.c_Parted "came"
 ef_Parted_due:HT.eT K A.c_Parted "due"
 em_Broken:vk K A.c_Broken A.a_0
 em_Parted:vk K A.c_Parted A.a_7
 sb_NoBits_StampError:cw K A.c_NoBits A.c_StampError=some true
 sb_NoBits_NoBits:cw K A.c_NoBits A.c_NoBits=some true
 sb_NoHead_StampError:cw K A.c_NoHead A.c_StampError=some true
 sb_NoHead_NoBits:cw K A.c_NoHead A.c_NoBits=some false
 sb_Elder_StampError:cw K A.c_Elder A.c_StampError=some true
 sb_Elder_NoBits:cw K A.c_Elder A.c_NoBits=some false
 sb_Unsealed_StampError:cw K A.c_Unsealed A.c_StampError=some true
 sb_Unsealed_NoBits:cw K A.c_Unsealed A.c_NoBits=some false
 sb_NoPaper_StampError:cw K A.c_NoPaper A.c_StampError=some true
 sb_NoPaper_NoBits:cw K A.c_NoPaper A.c_NoBits=some false
 sb_NoPlace_StampError:cw K A.c_NoPlace A.c_StampError=some true
 sb_NoPlace_NoBits:cw K A.c_NoPlace A.c_NoBits=some false
 sb_Broken_StampError:cw K A.c_Broken A.c_StampError=some true
 sb_Broken_NoBits:cw K A.c_Broken A.c_NoBits=some false
 sb_Parted_StampError:cw K A.c_Parted A.c_StampError=some true
 sb_Parted_NoBits:cw K A.c_Parted A.c_NoBits=some false
 sb_Silent_StampError:cw K A.c_Silent A.c_StampError=some true
 sb_Silent_NoBits:cw K A.c_Silent A.c_NoBits=some false
 ki_NoBits_ValueError:Gt K (.ref A.c_NoBits) (.type "ValueError")=some true
 ki_NoBits_Silent:Gt K (.ref A.c_NoBits) (.ref A.c_Silent)=some false
 ki_NoBits_Parted:Gt K (.ref A.c_NoBits) (.ref A.c_Parted)=some false
 ki_NoBits_Broken:Gt K (.ref A.c_NoBits) (.ref A.c_Broken)=some false
 ki_NoBits_NoPaper:Gt K (.ref A.c_NoBits) (.ref A.c_NoPaper)=some false
 ki_NoBits_Elder:Gt K (.ref A.c_NoBits) (.ref A.c_Elder)=some false
 ki_NoBits_Unsealed:Gt K (.ref A.c_NoBits) (.ref A.c_Unsealed)=some false
 ki_NoBits_NoHead:Gt K (.ref A.c_NoBits) (.ref A.c_NoHead)=some false
 ki_NoBits_StampError:Gt K (.ref A.c_NoBits) (.ref A.c_StampError)=some true
 ki_NoHead_ValueError:Gt K (.ref A.c_NoHead) (.type "ValueError")=some true
 ki_NoHead_Silent:Gt K (.ref A.c_NoHead) (.ref A.c_Silent)=some false
 ki_NoHead_Parted:Gt K (.ref A.c_NoHead) (.ref A.c_Parted)=some false
 ki_NoHead_Broken:Gt K (.ref A.c_NoHead) (.ref A.c_Broken)=some false
 ki_NoHead_NoPaper:Gt K (.ref A.c_NoHead) (.ref A.c_NoPaper)=some false
 ki_NoHead_Elder:Gt K (.ref A.c_NoHead) (.ref A.c_Elder)=some false
 ki_NoHead_Unsealed:Gt K (.ref A.c_NoHead) (.ref A.c_Unsealed)=some false
 ki_NoHead_NoHead:Gt K (.ref A.c_NoHead) (.ref A.c_NoHead)=some true
 ki_NoHead_StampError:Gt K (.ref A.c_NoHead) (.ref A.c_StampError)=some true
 ki_Elder_ValueError:Gt K (.ref A.c_Elder) (.type "ValueError")=some true
 ki_Elder_Silent:Gt K (.ref A.c_Elder) (.ref A.c_Silent)=some false
 ki_Elder_Parted:Gt K (.ref A.c_Elder) (.ref A.c_Parted)=some false
 ki_Elder_Broken:Gt K (.ref A.c_Elder) (.ref A.c_Broken)=some false
 ki_Elder_NoPaper:Gt K (.ref A.c_Elder) (.ref A.c_NoPaper)=some false
 ki_Elder_Elder:Gt K (.ref A.c_Elder) (.ref A.c_Elder)=some true
 ki_Elder_Unsealed:Gt K (.ref A.c_Elder) (.ref A.c_Unsealed)=some false
 ki_Elder_NoHead:Gt K (.ref A.c_Elder) (.ref A.c_NoHead)=some false
 ki_Elder_StampError:Gt K (.ref A.c_Elder) (.ref A.c_StampError)=some true
 ki_Unsealed_ValueError:Gt K (.ref A.c_Unsealed) (.type "ValueError")=some true
 ki_Unsealed_Silent:Gt K (.ref A.c_Unsealed) (.ref A.c_Silent)=some false
 ki_Unsealed_Parted:Gt K (.ref A.c_Unsealed) (.ref A.c_Parted)=some false
 ki_Unsealed_Broken:Gt K (.ref A.c_Unsealed) (.ref A.c_Broken)=some false
 ki_Unsealed_NoPaper:Gt K (.ref A.c_Unsealed) (.ref A.c_NoPaper)=some false
 ki_Unsealed_Elder:Gt K (.ref A.c_Unsealed) (.ref A.c_Elder)=some false
 ki_Unsealed_Unsealed:Gt K (.ref A.c_Unsealed) (.ref A.c_Unsealed)=some true
 ki_Unsealed_NoHead:Gt K (.ref A.c_Unsealed) (.ref A.c_NoHead)=some false
 ki_Unsealed_StampError:Gt K (.ref A.c_Unsealed) (.ref A.c_StampError)=some true
 ki_NoPaper_ValueError:Gt K (.ref A.c_NoPaper) (.type "ValueError")=some true
 ki_NoPaper_Silent:Gt K (.ref A.c_NoPaper) (.ref A.c_Silent)=some false
 ki_NoPaper_Parted:Gt K (.ref A.c_NoPaper) (.ref A.c_Parted)=some false
 ki_NoPaper_Broken:Gt K (.ref A.c_NoPaper) (.ref A.c_Broken)=some false
 ki_NoPaper_NoPaper:Gt K (.ref A.c_NoPaper) (.ref A.c_NoPaper)=some true
 ki_NoPaper_Elder:Gt K (.ref A.c_NoPaper) (.ref A.c_Elder)=some false
 ki_NoPaper_Unsealed:Gt K (.ref A.c_NoPaper) (.ref A.c_Unsealed)=some false
 ki_NoPaper_NoHead:Gt K (.ref A.c_NoPaper) (.ref A.c_NoHead)=some false
 ki_NoPaper_StampError:Gt K (.ref A.c_NoPaper) (.ref A.c_StampError)=some true
 ki_NoPlace_ValueError:Gt K (.ref A.c_NoPlace) (.type "ValueError")=some true
 ki_NoPlace_Silent:Gt K (.ref A.c_NoPlace) (.ref A.c_Silent)=some false
 ki_NoPlace_Parted:Gt K (.ref A.c_NoPlace) (.ref A.c_Parted)=some false
 ki_NoPlace_Broken:Gt K (.ref A.c_NoPlace) (.ref A.c_Broken)=some false
 ki_NoPlace_NoPaper:Gt K (.ref A.c_NoPlace) (.ref A.c_NoPaper)=some false
 ki_NoPlace_Elder:Gt K (.ref A.c_NoPlace) (.ref A.c_Elder)=some false
 ki_NoPlace_Unsealed:Gt K (.ref A.c_NoPlace) (.ref A.c_Unsealed)=some false
 ki_NoPlace_NoHead:Gt K (.ref A.c_NoPlace) (.ref A.c_NoHead)=some false
 ki_NoPlace_StampError:Gt K (.ref A.c_NoPlace) (.ref A.c_StampError)=some true
 ki_Broken_ValueError:Gt K (.ref A.c_Broken) (.type "ValueError")=some true
 ki_Broken_Silent:Gt K (.ref A.c_Broken) (.ref A.c_Silent)=some false
 ki_Broken_Parted:Gt K (.ref A.c_Broken) (.ref A.c_Parted)=some false
 ki_Broken_Broken:Gt K (.ref A.c_Broken) (.ref A.c_Broken)=some true
 ki_Broken_NoPaper:Gt K (.ref A.c_Broken) (.ref A.c_NoPaper)=some false
 ki_Broken_Elder:Gt K (.ref A.c_Broken) (.ref A.c_Elder)=some false
 ki_Broken_Unsealed:Gt K (.ref A.c_Broken) (.ref A.c_Unsealed)=some false
 ki_Broken_NoHead:Gt K (.ref A.c_Broken) (.ref A.c_NoHead)=some false
 ki_Broken_StampError:Gt K (.ref A.c_Broken) (.ref A.c_StampError)=some true
 ki_Parted_ValueError:Gt K (.ref A.c_Parted) (.type "ValueError")=some true
 ki_Parted_Silent:Gt K (.ref A.c_Parted) (.ref A.c_Silent)=some false
 ki_Parted_Parted:Gt K (.ref A.c_Parted) (.ref A.c_Parted)=some true
 ki_Parted_Broken:Gt K (.ref A.c_Parted) (.ref A.c_Broken)=some false
 ki_Parted_NoPaper:Gt K (.ref A.c_Parted) (.ref A.c_NoPaper)=some false
 ki_Parted_Elder:Gt K (.ref A.c_Parted) (.ref A.c_Elder)=some false
 ki_Parted_Unsealed:Gt K (.ref A.c_Parted) (.ref A.c_Unsealed)=some false
 ki_Parted_NoHead:Gt K (.ref A.c_Parted) (.ref A.c_NoHead)=some false
 ki_Parted_StampError:Gt K (.ref A.c_Parted) (.ref A.c_StampError)=some true
 ki_Silent_ValueError:Gt K (.ref A.c_Silent) (.type "ValueError")=some true
 ki_Silent_Silent:Gt K (.ref A.c_Silent) (.ref A.c_Silent)=some true
 ki_Silent_Parted:Gt K (.ref A.c_Silent) (.ref A.c_Parted)=some false
 ki_Silent_Broken:Gt K (.ref A.c_Silent) (.ref A.c_Broken)=some false
 ki_Silent_NoPaper:Gt K (.ref A.c_Silent) (.ref A.c_NoPaper)=some false
 ki_Silent_Elder:Gt K (.ref A.c_Silent) (.ref A.c_Elder)=some false
 ki_Silent_Unsealed:Gt K (.ref A.c_Silent) (.ref A.c_Unsealed)=some false
 ki_Silent_NoHead:Gt K (.ref A.c_Silent) (.ref A.c_NoHead)=some false
 ki_Silent_StampError:Gt K (.ref A.c_Silent) (.ref A.c_StampError)=some true
 mc_Numbers:mg "Numbers"=some (.ref A.c_Numbers)
 cl_Numbers:Cls K A.c_Numbers
 na_Numbers_given:dM K A.c_Numbers "given"
 mc_Desk:mg "Desk"=some (.ref A.c_Desk)
 cl_Desk:Cls K A.c_Desk
 na_Desk_stamper:dM K A.c_Desk "stamper"
 na_Desk_bits:dM K A.c_Desk "bits"
 na_Desk_asks_seal:dM K A.c_Desk "asks_seal"
 na_Desk_held:dM K A.c_Desk "held"
 mc_Spoken:mg "Spoken"=some (.ref A.c_Spoken)
 cl_Spoken:Cls K A.c_Spoken
 na_Spoken_answerer:dM K A.c_Spoken "answerer"
 me_Desk_check_new:iL K A.c_Desk "check_new" A.a_2
 me_Desk_hear:iL K A.c_Desk "hear" A.a_4
 me_Spoken_growth:iL K A.c_Spoken "growth" A.a_9
 me_Spoken_newest:iL K A.c_Spoken "newest" A.a_10
 me_Desk_follow:iL K A.c_Desk "follow" A.a_3
 me_Numbers_number_of:iL K A.c_Numbers "number_of" A.a_6
 mk_Numbers:Mk K A.c_Numbers A.a_5
 mk_Desk:Mk K A.c_Desk A.a_1
 mk_Spoken:Mk K A.c_Spoken A.a_8
def pP (A:Adr)(H:Hp):Prop:=H A.t_66=some (.tbl #[])/\H A.t_44=some (.tbl #[])/\H A.t_36=some (.tbl #[])/\H A.t_40=some (.tbl #[])/\H A.t_17=some (.tbl #[])/\H A.t_26=some (.tbl #[])/\H A.t_11=some (.tbl #[])/\H A.t_29=some (.tbl #[])/\H A.t_59=some (.tbl #[])/\([A.t_66,A.t_44,A.t_36,A.t_40,A.t_17,A.t_26,A.t_11,A.t_29,A.t_59]:List Addr).Nodup
def Gd:cU ["term"] ["term"] [] gJ.scope:=⟨rfl,rfl,rfl,by decide+kernel,rfl,rfl,by decide+kernel,by decide+kernel,by decide+kernel,by decide+kernel,by decide+kernel⟩
def JI:cU ["term","numbers"] ["term"] ["numbers"] hU.scope:=⟨rfl,rfl,rfl,by decide+kernel,rfl,rfl,by decide+kernel,by decide+kernel,by decide+kernel,by decide+kernel,by decide+kernel⟩
def Gu:cU ["_law_term","_law_step","_law_known"] ["_law_term"] ["_law_step","_law_known"] hV.scope:=⟨rfl,rfl,rfl,by decide+kernel,rfl,rfl,by decide+kernel,by decide+kernel,by decide+kernel,by decide+kernel,by decide+kernel⟩
def mz:cU ["_law_term","_law_total","_law_part","_law_many_here"] ["_law_term"] ["_law_many_here"] fV.scope:=⟨rfl,rfl,rfl,by decide+kernel,rfl,rfl,by decide+kernel,by decide+kernel,by decide+kernel,by decide+kernel,by decide+kernel⟩
def FJ:cU ["_law_question","_law_marks","_law_head_here","_law_elder"] ["_law_question"] ["_law_marks","_law_head_here","_law_elder"] cN.scope:=⟨rfl,rfl,rfl,by decide+kernel,rfl,rfl,by decide+kernel,by decide+kernel,by decide+kernel,by decide+kernel,by decide+kernel⟩
def HK:cU ["_law_one","_law_seals"] ["_law_one"] ["_law_seals"] df.scope:=⟨rfl,rfl,rfl,by decide+kernel,rfl,rfl,by decide+kernel,by decide+kernel,by decide+kernel,by decide+kernel,by decide+kernel⟩
def Hv:cU ["_law_one"] ["_law_one"] [] eQ.scope:=⟨rfl,rfl,rfl,by decide+kernel,rfl,rfl,by decide+kernel,by decide+kernel,by decide+kernel,by decide+kernel,by decide+kernel⟩
def HM:cU ["_law_question"] ["_law_question"] [] cL.scope:=⟨rfl,rfl,rfl,by decide+kernel,rfl,rfl,by decide+kernel,by decide+kernel,by decide+kernel,by decide+kernel,by decide+kernel⟩
def Hu:cU ["_law_one"] ["_law_one"] [] fW.scope:=⟨rfl,rfl,rfl,by decide+kernel,rfl,rfl,by decide+kernel,by decide+kernel,by decide+kernel,by decide+kernel,by decide+kernel⟩
def Gz:aD ["thing"] ["thing"] (am zE):=scF
def Gq:aD ["thing"] ["thing"] (am zg):=scF
def FL:aD ["thing"] ["thing"] (am xF):=scF
def zS:aD ["part","signs"] ["part"] (am yD):=scF
def HI:aD ["term"] ["term"] (am xE):=scF
def KU:aD ["self","term"] ["self","term"] (am s_6):=scF
def Jj:aD [] [] (am lT):=scF
def LO:aD ["self"] ["self"] (am s_5):=scF
def zY:aD ["numbers"] [] (am lN):=scF
def ve:aD ["_law_step","_law_known","_law_stamp"] ["_law_step"] (am ma):=scF
def Ah:aD ["_law_many_here","_law_stamp"] ["_law_many_here"] (am lD):=scF
def Hi:aD ["_law_cell"] ["_law_cell"] (am yM):=scF
def Hj:aD ["_law_script","_law_k"] ["_law_script","_law_k"] (am yN):=scF
def Gi:aD ["_law_cell"] ["_law_cell"] (am yd):=scF
def Iq:aD ["_law_cell","_law_count"] ["_law_cell","_law_count"] (am zh):=scF
def Hm:aD ["_law_many_here"] ["_law_many_here"] (am yu):=scF
def jA:aD ["_law_count","_law_elder","_law_found","_law_cut"] ["_law_count","_law_elder"] (am yO):=scF
def uT:aD ["_law_cell","_law_some"] ["_law_cell"] (am yi):=scF
def GN:aD ["_law_cell"] ["_law_cell"] (am yQ):=scF
def qf:aD ["_law_stamper_here","_law_count","_law_elder","_law_marks","_law_cut","_law_young","_law_old"] ["_law_stamper_here","_law_count","_law_elder","_law_marks"] (am yh):=scF
def gX:aD ["_law_stamper_here","_law_script","_law_count","_law_elder","_law_many_here","_law_marks","_law_void","_law_tops_here"] ["_law_stamper_here","_law_script"] (am xk):=scF
def Ac:aD ["_law_stamper_here","_law_cell","_law_elder","_law_top"] ["_law_stamper_here","_law_cell","_law_elder","_law_top"] (am yw):=scF
def uF:aD ["_law_cell","_law_number","_law_some"] ["_law_cell"] (am yB):=scF
def vC:aD ["_law_cell","_law_head_here","_law_some"] ["_law_cell","_law_head_here"] (am zb):=scF
def uH:aD ["_law_script","_law_wrong","_law_head_here","_law_elder","_law_mark"] ["_law_script","_law_wrong","_law_head_here","_law_elder"] (am xj):=scF
def qb:aD ["_law_cell","_law_marks","_law_spot","_law_thing","_law_some"] ["_law_cell","_law_marks"] (am zo):=scF
def IC:aD ["thing"] ["thing"] (am xJ):=scF
def HZ:aD ["stamper"] ["stamper"] (am ym):=scF
def Gj:aD ["stamper"] ["stamper"] (am xQ):=scF
def Le:aD ["self","stamper","bits","knows"] ["self","stamper","bits","knows"] (am s_1):=scF
def GB:aD ["thing"] ["thing"] (am xt):=scF
def Gc:aD ["thing"] ["thing"] (am zy):=scF
def Ii:aD ["thing"] ["thing"] (am nX):=scF
def La:aD ["self","head"] ["self","head"] (am s_2):=scF
def FS:aD ["count","elder"] ["count","elder"] (am xB):=scF
def JM:aD ["many"] ["many"] (am yk):=scF
def iD:aD ["count","elder","turns","early","rest","ahead"] ["count","elder"] (am zc):=scF
def Jb:aD ["many","thing"] ["many","thing"] (am zw):=scF
def JH:aD ["turn","own","aside"] ["turn","own","aside"] (am zl):=scF
def iG:aD ["stamper","count","elder","steps","younger","older","top","older_top","step"] ["stamper","count","elder","steps"] (am xU):=scF
def jp:aD ["turns","marks","steps","first","last","turn"] ["turns","marks"] (am xY):=scF
def uY:aD ["stamper","count","elder","marks","turns","younger"] ["stamper","count","elder","marks"] (am nE):=scF
def LJ:aD ["self","due","came"] ["self","due","came"] (am s_0):=scF
def tV:aD ["stamper","head","elder","marks","terms","came"] ["stamper","head","elder","marks"] (am nw):=scF
def Lb:aD ["self","due","came"] ["self","due","came"] (am s_7):=scF
def BS:aD ["self","head","marks","came"] ["self","head","marks"] (am s_4):=scF
def vw:aD ["_law_stamper_here","_law_bits","_law_seals","_law_head_here","_law_top","_law_desk_here"] ["_law_stamper_here","_law_bits","_law_seals","_law_head_here","_law_top"] (am lG):=scF
def mM:aD ["_law_wrong","_law_held_here","_law_head_here","_law_came","_law_old","_law_order","_law_k","_law_flags_here"] ["_law_wrong","_law_held_here","_law_head_here","_law_came","_law_old"] (am xZ):=scF
def Jw:aD ["answer"] ["answer"] (am oa):=scF
def Hl:aD ["self"] ["self"] (am xR):=scF
def JZ:aD ["self","count","elder"] ["self","count","elder"] (am s_9):=scF
def CL:aD ["self","line","head"] ["self","line"] (am s_3):=scF
def va:aD ["_law_caught_here","_law_kinds"] ["_law_caught_here"] (am zD):=scF
def jH:aD ["_law_desk_here","_law_line_here","_law_head_here","_law_marks","_law_caught_here","_law_told","e"] ["_law_desk_here","_law_line_here","_law_head_here","_law_marks"] (am xA):=scF
def IQ:aD ["_law_desk_here","_law_due_here","_law_told","_law_held_here","_law_head_here"] ["_law_desk_here","_law_due_here","_law_told","_law_held_here","_law_head_here"] (am xD):=scF
def LN:aD ["self","say"] ["self","say"] (am s_8):=scF
def zJ:aD ["_law_head_here","_law_marks","_law_elder","_law_say"] ["_law_head_here","_law_marks","_law_elder"] (am lC):=scF
def lb:aD ["_law_desks","_law_due_here","_law_elder","_law_case","_law_held_here","_law_head_here","_law_paper","_law_told","_law_silent"] ["_law_desks","_law_due_here","_law_elder","_law_case"] (am lY):=scF
def mO:aD ["_law_stamper_here","_law_cell","_law_some","_law_caught_here","e"] ["_law_stamper_here","_law_cell"] (am lV):=scF
def eP:aD ["_law_script","_law_stamper_here","_law_bits","_law_count","_law_elder","_law_marks","_law_tops_here","_law_good","_law_old","_law_held_here","_law_top","_law_wrong","_law_head_here","_law_paper","_law_seals","_law_desks","_law_due_here","_law_bare"] ["_law_script"] (am lX):=scF
inductive Dat where
 |non
 |bl (b:Bool)
 |int (i:Int)
 |str (z:Str)
 |lst (ds:List Dat)
 |tup (ds:List Dat)
 |dic
mutual
inductive aG (H:Hp):V->Dat->Prop
 |non:aG H .non .non
 |bl (b):aG H (.bl b) (.bl b)
 |int (i):aG H (.int i) (.int i)
 |str (z):aG H (.str z) (.str z)
 |lst {a xs ds}:H a=some (.lst xs)->DatWs H xs ds->aG H (.ref a) (.lst ds)
 |tup {a xs ds}:H a=some (.tup xs)->DatWs H xs ds->aG H (.ref a) (.tup ds)
 |dic {a}:(∃kvs,H a=some (.dK kvs))->aG H (.ref a) .dic
inductive DatWs (H:Hp):List V->List Dat->Prop
 |nil:DatWs H [] []
 |cons {x xs d ds}:aG H x d->DatWs H xs ds->DatWs H (x::xs) (d::ds)
end
mutual
def db:Dat->SI
 |.non=>.none
 |.bl b=>.bool b
 |.int i=>.int i
 |.str z=>.str z
 |.lst ds=>.list (toPys ds)
 |.tup ds=>.tuple (toPys ds)
 |.dic=>.none
def toPys:List Dat->List SI
 |[]=>[]
 |d::r=>db d::toPys r
end
def cQ (z:Str):Bool:=z.cps.all (·<128)
mutual
def okD:Dat->Bool
 |.str z=>cQ z&&decide (z.length<=100000)
 |.lst ds=>okDs ds
 |.tup ds=>okDs ds
 |.dic=>false
 |.non=>true
 |.bl _=>true
 |.int _=>true
def okDs:List Dat->Bool
 |[]=>true
 |d::r=>okD d&&okDs r
end
mutual
def nbD:Dat->Bool
 |.lst ds=>(match ds with
  |.bl _::_=>false
  |_=>true)&&nbDs ds
 |.tup ds=>nbDs ds
 |.non=>true
 |.bl _=>true
 |.int _=>true
 |.str _=>true
 |.dic=>true
def nbDs:List Dat->Bool
 |[]=>true
 |d::r=>nbD d&&nbDs r
end
def rH:Dat->Bool
 |.int _=>true
 |_=>false
def bE:Dat->Bool
 |.int i=>decide (0<=i/\i<10^60)
 |.str _=>true
 |_=>false
def iC (K:cW)(A:Adr):Sp:=fun vs H Q _=>∃v d,vs=[v]/\aG H v d/\Q (.bl (rH d)) H
def kS (K:cW)(A:Adr):Sp:=fun vs H Q _=>∃v d,vs=[v]/\aG H v d/\Q (.bl (bE d)) H
def aV:Key->Dat
 |.inl i=>.int i
 |.inr z=>.str z
def szK:Key->Nat
 |.inl _=>62
 |.inr z=>z.length+62
def okP:Key->Bool
 |.inl i=>decide (0<=i/\i<10^60)
 |.inr z=>cQ z&&decide (z.length<=100000)
def Je:Key->Bool
 |.inr _=>true
 |.inl _=>false
def okT (k:List Key):Bool:=decide (1<=k.length/\k.length<=8)&&(k.head?.map Je).getD false&&k.all okP
def szT (k:List Key):Nat:=(k.map szK).sum
def vz (k:List Key):Key->Prop
 |.inl i=>0<=i/\i<10^60
 |.inr z=>cQ z=true/\z.length<=szT k
def fG:Key->Str
 |.inl i=>toString i++";"
 |.inr z=>toString (z.length:Int)++":"++z
def gT:List Key->Str
 |[]=>Nl
 |x::r=>fG x++gT r
def ux (H H':Hp):Prop:=∀b o,H b=some o->(∀ps,o≠.tbl ps)->H' b=some o
def dc (kvs:List (List Key×Key)):List (List Key×V):=kvs.map fun p=>(p.1,kV p.2)
def eF (kvs:List (List Key×Key))(k:List Key):Option Key:=(kvs.find? fun p=>decide (p.1=k)).map (·.2)
def jj:Key->Prop
 |.inl i=>0<=i/\i<10^60
 |.inr z=>cQ z=true/\z.length<=62
def gL (kvs:List (List Key×Key)):Prop:=∀p∈kvs,jj p.2
structure gZ (A:Adr)(H:Hp)(x d:Addr)(kvs:List (List Key×V)):Prop where
 ob:∃dx,H x=some (.ins A.c_Numbers dx [("given",.ref d)])
 di:H d=some (.dT kvs)
def mQ (t:Int):Key->Int
 |.inr z=>2*t+z.length
 |.inl i=>2*t+i
def ul (m:Int)(k:List Key):Key:=.inl (k.foldl mQ k.length%m)
def aI (b:Addr)(H H':Hp):Prop:=∀x o,x≠b->H x=some o->H' x=some o
inductive Stp (A:Adr)(H:Hp)(f b:Addr)(g:gOp)(n:Nat):Prop
 |wri (hc:da H f gJ [] []) (hb:b=A.t_66/\∃ps,H b=some (.tbl ps)) (hg:g=fun k=>some (.inr (gT k)))
 |cnt (q x:Addr) (kvs:List (List Key×Key)) (hc:da H f hU [q] [.ref x]) (num:gZ A H x b (dc kvs)) (hl:kvs.length<=n) (hs:gL kvs) (hg:g=eF kvs)
 |sur (q0 q1:Addr) (j:Int) (h0:0<=j) (h1:j<1000) (kvs:List (List Key×Key)) (hc:da H f hV [q0,q1] [.int j,.ref b]) (hb:H b=some (.dT (dc kvs))) (hl:kvs.length<=n) (hs:gL kvs) (hg:g=eF kvs)
 |wea (q:Addr) (m:Int) (h1:1<=m) (h2:m<=9) (hc:da H f fV [q] [.int m]) (hb:b=A.t_40/\∃ps,H b=some (.tbl ps)) (hg:g=fun k=>some (ul m k))
def Sub (g g':gOp):Prop:=∀k v,g k=some v->g' k=some v
def Ext (g:gOp)(h:List Key->Key):Prop:=∀k v,g k=some v->h k=v
abbrev PK (H:Hp):List Addr->List (List Key)->Prop:=Paired (fun(p:Addr)(k:List Key)=>H p=some (.tup (k.map kV))/\okT k=true)
def mY (K:cW)(A:Adr):Sp:=fun vs H Q _=>∃(p:Addr)(k:List Key),vs=[.ref p]/\H p=some (.tup (k.map kV))/\okT k=true/\∀H',ar H H'->Q (.bl true) H'
def pQ (K:cW)(A:Adr):Sp:=fun vs H Q _=>∃x:Key,vs=[kV x]/\okP x=true/\Q (.str (fG x)) H
def mE (K:cW)(A:Adr):Sp:=fun vs H Q _=>∃(p:Addr)(k:List Key),vs=[.ref p]/\H p=some (.tup (k.map kV))/\okT k=true/\∀H',ar H H'->Q (.str (gT k)) H'
def vt (K:cW)(A:Adr):Sp:=mE K A
def jy (kvs:List (List Key×V))(kk:List Key)(d:V):V:=(cg kvs kk).getD d
def jC (H:Hp)(b:Addr)(kvs:List (List Key×V))(kk:List Key)(d:V):Hp:=if (cg kvs kk).isSome=true then H else upd H b (.dT (bu kvs kk d))
def uD (K:cW)(A:Adr):Sp:=fun vs H Q _=>∃x dx,vs=[.ref x]/\H x=some (.ins A.c_Numbers dx [])/\∀d,H d=none->Q .non (upd (upd H d (.dT [])) x (.ins A.c_Numbers dx [("given",.ref d)]))
inductive uw (K:cW)(A:Adr)(vs:List V)(H:Hp)(Q:VK)(E:XK):Prop|mk (x d p:Addr)(kvs:List (List Key×V))(k:List Key)(_:vs=[.ref x,.ref p])(_:gZ A H x d kvs)(_:kvs.length<=50000)(_:H p=some (.tup (k.map kV)))(_:okT k=true)(_:∀H',ar H H'->Q (jy kvs k (.int kvs.length)) (jC H' d kvs k (.int kvs.length)))
inductive vb (K:cW)(A:Adr)(vs:List V)(H:Hp)(Q:VK)(E:XK):Prop|mk (x d p:Addr)(kvs:List (List Key×V))(k:List Key)(_:vs=[.ref p,.ref x])(_:gZ A H x d kvs)(_:kvs.length<=50000)(_:H p=some (.tup (k.map kV)))(_:okT k=true)(_:∀H',ar H H'->Q (jy kvs k (.int kvs.length)) (jC H' d kvs k (.int kvs.length)))
def aZ (P:Addr)(H H':Hp):Prop:=∀b o,H b=some o->b≠P->H' b=some o
inductive uB (K:cW)(A:Adr)(vs:List V)(H:Hp)(Q:VK)(E:XK):Prop|mk (p b:Addr)(j:Int)(k:List Key)(kvs:List (List Key×V))(_:vs=[.ref p,.int j,.ref b])(_:0<=j)(_:j<1000)(_:H p=some (.tup (k.map kV)))(_:H b=some (.dT kvs))(_:kvs.length<=50000)(_:Q (jy kvs k (.int (j*(kvs.length:Int)+5))) (jC H b kvs k (.int (j*(kvs.length:Int)+5))))
inductive tP (K:cW)(A:Adr)(vs:List V)(H:Hp)(Q:VK)(E:XK):Prop|mk (p:Addr)(m:Int)(k:List Key)(_:vs=[.ref p,.int m])(_:1<=m)(_:m<=9)(_:H p=some (.tup (k.map kV)))(_:okT k=true)(_:Q (kV (ul m k)) H)
def Eg (H:Hp)(b:Addr):Prop:=∀z o,H z=some o->(∀ps,o≠.tbl ps)->z≠b
def MkQ (A:Adr)(P:Addr)(H:Hp)(Q:VK):Prop:=∀(f b:Addr)(g:gOp)(H':Hp),aZ P H H'->Stp A H' f b g 0->Eg H b->Q (.ref f) H'
def qh (K:cW)(A:Adr):Sp:=fun vs H Q _=>vs=[]/\H A.t_66=some (.tbl #[])/\MkQ A A.t_66 H Q
def qa (K:cW)(A:Adr):Sp:=fun vs H Q _=>vs=[]/\H A.t_44=some (.tbl #[])/\MkQ A A.t_44 H Q
def qk (K:cW)(A:Adr):Sp:=fun vs H Q _=>∃j:Int,vs=[.int j]/\0<=j/\j<1000/\H A.t_36=some (.tbl #[])/\MkQ A A.t_36 H Q
def qd (K:cW)(A:Adr):Sp:=fun vs H Q _=>∃m:Int,vs=[.int m]/\1<=m/\m<=9/\H A.t_40=some (.tbl #[])/\MkQ A A.t_40 H Q
def jI (A:Adr)(H:Hp):Prop:=H A.t_17=some (.tbl #[])/\H A.t_26=some (.tbl #[])/\H A.t_11=some (.tbl #[])/\H A.t_29=some (.tbl #[])/\H A.t_59=some (.tbl #[])
def pT (K:cW)(A:Adr):Sp:=fun vs H Q _=>∃c:Int,vs=[.int c]/\pP A H/\∀(f b:Addr)(g:gOp)(H':Hp),ux H H'->jI A H'->Stp A H' f b g 0->Eg H b->Q (.ref f) H'
def enK (e:Key):Prop:=okP e=true/\szK e<=70
def enB (e:Key):Prop:=okP e=true/\szK e<=13000
def aT (n:Nat):Nat:=2^Pf (n- 1)
def cA:Dat->Bool
 |.int i=>decide (0<=i/\i<2^60)
 |_=>false
def dS (c e:Dat):Bool:=cA c&&rH e&&match c,e with
 |.int c,.int e=>decide (0<=e/\e<=c)
 |_,_=>false
def cC (n:Int):Dat->Bool
 |.tup ds=>decide ((ds.length:Int)=n)&&ds.all bE
 |_=>false
def cm:Dat->Bool
 |.tup [c,v]=>cA c&&bE v
 |_=>false
def eD:Dat->Prop
 |.tup ds=>ds.length<=500
 |_=>True
def md (K:cW)(A:Adr):Sp:=fun vs H Q _=>∃v d,vs=[v]/\aG H v d/\Q (.bl (cA d)) H
def ql (K:cW)(A:Adr):Sp:=fun vs H Q _=>∃v d w e,vs=[v,w]/\aG H v d/\aG H w e/\Q (.bl (dS d e)) H
def qg (K:cW)(A:Adr):Sp:=fun vs H Q _=>∃(n:Int)(v:V)(d:Dat),vs=[.int n,v]/\aG H v d/\eD d/\∀H',ar H H'->Q (.bl (cC n d)) H'
def pM (K:cW)(A:Adr):Sp:=fun vs H Q _=>∃v d,vs=[v]/\aG H v d/\Q (.bl (cm d)) H
def mr (K:cW)(A:Adr):Sp:=fun vs H Q E=>∃v d,vs=[v]/\aG H v d/\(cm d=true->Q .non H)/\(cm d=false->E (.ref A.c_NoHead) none H)
def pK (K:cW)(A:Adr):Sp:=fun vs H Q _=>∃m:Nat,vs=[.int (m:Int)]/\2<=m/\m<=2^60/\Q (.int ((aT m:Nat):Int)) H
def nk (K:cW)(A:Adr):Sp:=fun vs H Q _=>∃m:Nat,vs=[.int (m:Int)]/\2<=m/\m<=2^60/\Q (.int ((aT m:Nat):Int)) H
def grF:Nat->Nat->Nat->List Int
 |0,_,_=>[]
 |f+1,c,el=>if el=0\/c<=el then[]else if el<=aT c then 0::grF f (aT c) el else 1::grF f (c- aT c) (el- aT c)
abbrev bj (c el:Nat):List Int:=grF 60 c el
def jtT (t:Int)(o a:Key):List Key:=if t=0 then[.inr "joint",o,a]else[.inr "joint",a,o]
def cY (c:Int)(st:List (Int×Key))(i:Nat)(v:Key):List Key:=match st[i]? with
 |some x=>jtT x.1 v x.2
 |none=>[.inr "row",.inl c,v]
def gf (h:List Key->Key)(c:Int)(m:Key)(st:List (Int×Key)):Nat->List Key
 |0=>cY c st 0 m
 |i+1=>cY c st (i+1) (h (gf h c m st i))
def kQ (h:List Key->Key)(c:Int)(m:Key)(st:List (Int×Key))(k:Nat):List (List Key):=(Oz k).map (gf h c m st)
def dC (h:List Key->Key)(m:Key)(st:List (Int×Key)):Nat->List (List Key)×Key
 |0=>([],m)
 |i+1=>match st[i]? with
  |some x=>if x.1=1 then((dC h m st i).1++[jtT x.1 (dC h m st i).2 x.2],h (jtT x.1 (dC h m st i).2 x.2))else dC h m st i
  |none=>dC h m st i
def jN (h:List Key->Key)(el:Nat)(m:Key)(st:List (Int×Key)):List Key:=[.inr "row",.inl (el:Int),if el=0 then h [.inr "void"]else(dC h m st st.length).2]
def tY (h:List Key->Key)(el:Nat)(m:Key)(st:List (Int×Key)):List (List Key):=(if el=0 then[[.inr "void"]]else(dC h m st st.length).1)++[jN h el m st]
def dl:List Int->Nat->Nat->List Key->List (Option Key)
 |[],lo,_,ks=>[ks[lo]?]
 |t::r,lo,hi,ks=>if t=1 then ks[lo]?::dl r (lo+1) hi ks else ks[hi- 1]?::dl r lo (hi- 1) ks
def dn (ts:List Int)(ks:List Key):List Key:=(dl ts 0 ks.length ks).map fun x=>x.getD (.inl 0)
def stR (ts:List Int)(ks:List Key):List (Int×Key):=(ts.zip ks).reverse
def inM (ts:List Int)(ks:List Key):Key:=((dn ts ks)[ts.length]?).getD (.inl 0)
abbrev stG (ts:List Int)(ks:List Key):List (Int×Key):=stR ts (dn ts ks)
def eJ (K:cW)(A:Adr):Sp:=fun vs H Q _=>∃(a:Addr)(ns:List Int)(k:Int),vs=[.ref a,.int k]/\SqL K H a (ns.map V.int)/\0<=k/\∀z:Int,Q (.int z) H
def qi (K:cW)(A:Adr):Sp:=fun vs H Q _=>∃c:Int,vs=[.int c]/\∀(z:Str)(H':Hp),ar H H'->z.length<=4->cQ z=true->Q (.str z) H'
def kR (K:cW)(A:Adr):Sp:=fun vs H Q _=>∃c:Int,vs=[.int c]/\∀(e:Key)(H':Hp),ar H H'->enK e->Q (kV e) H'
def qe (K:cW)(A:Adr):Sp:=fun vs H Q _=>∃c:Int,vs=[.int c]/\∀m:Nat,m<2^60->Q (.int (m:Int)) H
def pH (K:cW)(A:Adr):Sp:=fun vs H Q _=>∃c el:Nat,vs=[.int (c:Int),.int (el:Int)]/\el<=c/\c<=2^60/\∀D,H D=none->Q (.ref D) (upd H D (.lst ((bj c el).map V.int)))
def nl (K:cW)(A:Adr):Sp:=fun vs H Q _=>∃(t:Int)(o a:Key),vs=[.int t,kV o,kV a]/\∀p,H p=none->Q (.ref p) (upd H p (.tup ((jtT t o a).map kV)))
inductive kX (K:cW)(A:Adr)(vs:List V)(H:Hp)(Q:VK)(E:XK):Prop|mk (f b:Addr)(g:gOp)(n:Nat)(_:vs=[.ref f])(_:Stp A H f b g n)(_:n<=40000)(_:∀(O:Addr)(po:List Addr)(v:Key)(g':gOp)(H':Hp),aI b H H'->Stp A H' f b g' (n+1)->Sub g g'->g' [.inr "void"]=some v->okP v=true->szK v<=200->H' O=some (.lst (po.map V.ref))->PK H' po [[.inr "void"],[.inr "row",.inl 0,v]]->H O=none->Q (.ref O) H')
inductive pI (K:cW)(A:Adr)(vs:List V)(H:Hp)(Q:VK)(E:XK):Prop|mk (L P:Addr)(ts:List Int)(ks:List Key)(_:vs=[.ref L,.ref P])(_:H L=some (.lst (ts.map V.int)))(_:H P=some (.tup (ks.map kV)))(_:ks.length=ts.length+1)(_:ts.length<=60)(_:(∀t∈ts,t=0\/t=1))(_:∀(R Z:Addr)(ps:List Addr)(H':Hp),ar H H'->H' R=some (.tup [kV (inM ts ks),.ref Z])->H' Z=some (.lst (ps.map V.ref))->ps.length=ts.length->(∀(j:Nat)(p:Addr)(x:Int×Key),ps[j]?=some p->(stG ts ks)[j]?=some x->H' p=some (.tup [.int x.1,kV x.2]))->Q (.ref R) H')
def Kf (A:Adr)(f b:Addr)(c el:Nat)(m:Key)(st:List (Int×Key))(g:gOp)(n:Nat)(H:Hp)(R:Addr->Addr->Hp->Prop):Prop:=
 ∀(Y O:Addr)(py po:List Addr)(ty to:List (List Key))(g':gOp)(H':Hp),aI b H H'->Stp A H' f b g' (n+130)->Sub g g'->H' Y=some (.lst (py.map V.ref))->H' O=some (.lst (po.map V.ref))->PK H' py ty->PK H' po to->ty.length=st.length+1->1<=to.length->to.length<=70->(∀k∈ty,szT k<=40000)->(∀k∈to,szT k<=40000)->(∀h,Ext g' h->ty=kQ h c m st (st.length+1)/\to=tY h el m st)->R Y O H'
def pD (K:cW)(A:Adr):Sp:=fun vs H Q _=>∃(f b R Z:Addr)(c el:Nat)(m:Key)(st:List (Int×Key))(ps:List Addr)(g:gOp)(n:Nat),vs=[.ref f,.int (c:Int),.int (el:Int),.ref R]/\Stp A H f b g n/\n+400<=40000/\1<=el/\el<=c/\c<2^60/\H R=some (.tup [kV m,.ref Z])/\H Z=some (.lst (ps.map V.ref))/\ps.length=st.length/\(∀(j:Nat)(p:Addr)(x:Int×Key),ps[j]?=some p->st[j]?=some x->H p=some (.tup [.int x.1,kV x.2]))/\st.length<=60/\enB m/\(∀x∈st,(x.1=0\/x.1=1)/\enK x.2)/\
 Kf A f b c el m st g n H fun Y O H'=>∀p,H' p=none->Q (.ref p) (upd H' p (.tup [.ref Y,.ref O]))
def vc (K:cW)(A:Adr):Sp:=fun vs H Q _=>∃(a:Addr)(x y:V),vs=[.ref a,x,y]/\H a=some (fh A.c_Broken a none)/\∀dx,H dx=none->Q .non (upd (upd (upd H a (fh A.c_Broken a (some dx))) dx (fL [("due",x)] dx)) dx (fL (dg "came" y [("due",x)]) dx))
def yT (h:List Key->Key)(c el:Nat)(ks:List Key):List Key:=if c=0 then[.inr "row",.inl 0,h [.inr "void"]]else gf h c (inM (bj c el) ks) (stG (bj c el) ks) (bj c el).length
def oT (h:List Key->Key)(c el:Nat)(ks:List Key):List Key:=jN h el (inM (bj c el) ks) (stG (bj c el) ks)
def bI (c el:Nat):Nat:=if c=0 then 0 else(bj c el).length+1
structure Ask (A:Adr)(H:Hp)(f b:Addr)(g:gOp)(n:Nat)(w m:V)(e k:Dat):Prop where
 s:Stp A H f b g n
 hn:n+400<=40000
 he:aG H w e
 hm:aG H m k
 sh:eD k
structure dN (k:Dat)(n:Nat)(ks:List Key):Prop where
 e:k=.tup (ks.map aV)
 l:ks.length=n
 en:(∀x∈ks,enK x)\/∃x,ks=[x]/\enB x
def GTQ (A:Adr)(f b:Addr)(c el:Nat)(ks:List Key)(g:gOp)(n:Nat)(H:Hp)(Q:VK):Prop:=
 ∀(Y O:Addr)(py po:List Addr)(ty to:List (List Key))(g':gOp)(H':Hp),aI b H H'->Stp A H' f b g' (n+130)->Sub g g'->H' Y=some (.lst (py.map V.ref))->H' O=some (.lst (po.map V.ref))->(c=0->Y≠O/\H Y=none)->PK H' py ty->PK H' po to->(∀k∈ty,szT k<=40000)->(∀k∈to,szT k<=40000)->
  (∀h,Ext g' h->(∃r,ty=r++[yT h c el ks])/\(∃r,to=r++[oT h c el ks])/\(c=0->ty=[[.inr "void"],[.inr "row",.inl 0,h [.inr "void"]]]/\to=[[.inr "void"],[.inr "row",.inl 0,h [.inr "void"]]]))->∀p,H' p=none->Q (.ref p) (upd H' p (.tup [.ref Y,.ref O]))
inductive pJ (K:cW)(A:Adr)(vs:List V)(H:Hp)(Q:VK)(E:XK):Prop|mk (f b:Addr)(g:gOp)(n:Nat)(v w m:V)(d e k:Dat)(_:vs=[.ref f,v,w,m])(_:Ask A H f b g n w m e k)(_:aG H v d)(_:(dS d e=false->E (.ref A.c_NoPlace) none H))(_:∀c el:Nat,d=.int (c:Int)->e=.int (el:Int)->el<=c->c<2^60-> (cC (bI c el) k=false/\∀H',ar H H'->E (.ref A.c_NoPaper) none H')\/∃ks,dN k (bI c el) ks/\GTQ A f b c el ks g n H Q)
inductive pC (K:cW)(A:Adr)(vs:List V)(H:Hp)(Q:VK)(E:XK):Prop|mk (f b:Addr)(g:List Key->Option Key)(n:Nat)(v w m:V)(d e k:Dat)(_:vs=[.ref f,v,w,m])(_:Ask A H f b g n w m e k)(_:aG H v d)(_:((cm d=false/\E (.ref A.c_NoHead) none H)\/∃(c:Nat)(mk:Key),d=.tup [.int (c:Int),aV mk]/\c<2^60/\okP mk=true/\ (dS (.int (c:Int)) e=false->E (.ref A.c_NoPlace) none H)/\ ∀el:Nat,e=.int (el:Int)->el<=c->(cC (bI c el) k=false/\∀H',ar H H'->E (.ref A.c_NoPaper) none H')\/ ∃ks,dN k (bI c el) ks/\∀(w:Key)(g':List Key->Option Key)(H':Hp),aI b H H'->Stp A H' f b g' (n+131)->Sub g g'->okP w=true->(∀h,Ext g' h->w=h (yT h c el ks))-> (w=mk->∀(u:Key)(g'':List Key->Option Key)(H'':Hp),aI b H' H''->Stp A H'' f b g'' (n+132)->Sub g' g''->okP u=true->(∀h,Ext g'' h->u=h (oT h c el ks))->Q (kV u) H'')/\ (w≠mk->∀(dx:Addr)(H'':Hp),ar H' H''->H'' dx=some (fL (dg "came" (kV w) [("due",kV mk)]) dx)->E (.ref A.c_Broken) (some dx) H'')))
def mP (K:cW)(A:Adr):Sp:=fun vs H Q _=>∃z:Int,vs=[.int z]/\∀(v:V)(d:Dat)(H':Hp),ar H H'->aG H' v d->bE d=false->nbD d=true->Q v H'
def pG (K:cW)(A:Adr):Sp:=fun vs H Q _=>∃(z:Int)(P:Addr)(ks:List Key),vs=[.int z,.ref P]/\H P=some (.tup (ks.map kV))/\ks.length<=61/\∀(v:V)(d:Dat)(H':Hp),ar H H'->aG H' v d->cC ks.length d=false->eD d->nbD d=true->Q v H'
def pE (K:cW)(A:Adr):Sp:=fun vs H Q _=>∃c el:Nat,vs=[.int (c:Int),.int (el:Int)]/\el<=c/\c<2^60/\Q (.int (bI c el:Nat)) H
def tpF (h:List Key->Key):List Int->List Key->Key×Key
 |[],ks=>(ks.getD 0 (.inl 0),ks.getD 0 (.inl 0))
 |t::r,ks=>if t=1 then(h [.inr "joint",ks.getD 0 (.inl 0),(tpF h r ks.tail).1],h [.inr "joint",ks.getD 0 (.inl 0),(tpF h r ks.tail).2])
  else(h [.inr "joint",(tpF h r ks.dropLast).1,ks.getD (ks.length- 1) (.inl 0)],(tpF h r ks.dropLast).2)
inductive ju (K:cW)(A:Adr)(j:Nat)(vs:List V)(H:Hp)(Q:VK)(E:XK):Prop|mk (f b P:Addr)(c el:Nat)(ks:List Key)(g:gOp)(n:Nat)(_:vs=[.ref f,.int (c:Int),.int (el:Int),.ref P])(_:Stp A H f b g n)(_:n+400<=40000)(_:1<=el)(_:el<=c)(_:c<2^60)(_:H P=some (.tup (ks.map kV)))(_:ks.length=(bj c el).length+1)(_:(bj c el).length<j)(_:(bj c el).length<=60)(_:(∀x∈ks,enK x))(_:∀(p:Addr)(y o:Key)(g':gOp)(H':Hp),aI b H H'->Stp A H' f b g' (n+2*(bj c el).length)->Sub g g'->H' p=some (.tup [kV y,kV o])->okP y=true->okP o=true->szK y<=70+200*(bj c el).length->szK o<=70+200*(bj c el).length->(∀h,Ext g' h->(y,o)=tpF h (bj c el) ks)->Q (.ref p) H')
inductive nj (K:cW)(A:Adr)(vs:List V)(H:Hp)(Q:VK)(E:XK):Prop|mk (f b:Addr)(g:gOp)(n:Nat)(_:vs=[.ref f])(_:Stp A H f b g n)(_:n<=39000)(_:∀(p:Addr)(v:Key)(g':gOp)(H':Hp),aI b H H'->Stp A H' f b g' (n+2)->Sub g g'->H' p=some (.tup [.int 0,kV v])->okP v=true->(∀h,Ext g' h->v=h [.inr "row",.inl 0,h [.inr "void"]])->Q (.ref p) H')
def fq:Dat->Bool
 |.int i=>decide (1<=i/\i<=60)
 |_=>false
def pF (K:cW)(A:Adr):Sp:=fun vs H Q _=>∃(v:V)(d:Dat),vs=[v]/\aG H v d/\Q (.bl (fq d)) H
def tW (K:cW)(A:Adr):Sp:=fun vs H Q _=>∃(a:Addr)(x y:V),vs=[.ref a,x,y]/\H a=some (fh A.c_Parted a none)/\∀dx,H dx=none->Q .non (upd (upd (upd H a (fh A.c_Parted a (some dx))) dx (fL [("due",x)] dx)) dx (fL (dg "came" y [("due",x)]) dx))
def lq (K:cW)(A:Adr):Sp:=fun vs H Q E=>∃v,vs=[v]/\((v=.non/\E (.ref A.c_Silent) none H)\/((∃d,aG H v d/\d≠.non)/\Q v H))
def KM (S:List Addr)(H H':Hp):Prop:=∀z o,z∉S->H z=some o->H' z=some o
abbrev dkF (f:Addr)(B:Int)(qs hd:Addr):List (Str×V):=[("stamper",.ref f),("bits",.int B),("asks_seal",.ref qs),("held",.ref hd)]
structure DkA (A:Adr)(H:Hp)(dk f qs hd:Addr)(n:Nat)(v:Key):Prop where
 ob:∃dx B,H dk=some (.ins A.c_Desk dx (dkF f B qs hd))
 hh:H hd=some (.tup [.int (n:Int),kV v])
 ok:okP v=true
 n6:n<2^60
def hdK (c:Nat)(mk:Key):List Key:=[.inl (c:Int),mk]
def SlA (H:Hp)(qs sd:Addr)(kvs:List (List Key×V)):Prop:=(∃q,da H qs df [q] [.ref sd])/\H sd=some (.dT kvs)
def gW (kvs:List (List Key×V))(c:Nat)(mk:Key):Bool:=(cg kvs (hdK c mk)).isSome
inductive uX (K:cW)(A:Adr)(vs:List V)(H:Hp)(Q:VK)(E:XK):Prop|mk (p sd:Addr)(kvs:List (List Key×V))(c:Nat)(mk:Key)(_:vs=[.ref p,.ref sd])(_:H p=some (.tup [.int (c:Int),kV mk]))(_:H sd=some (.dT kvs))(_:Q (.bl (gW kvs c mk)) H)
def uo (K:cW)(A:Adr):Sp:=fun _ _ _ _=>False
def vn (K:cW)(A:Adr):Sp:=fun _ _ _ _=>False
def vx (K:cW)(A:Adr):Sp:=fun vs H Q _=>∃v,vs=[v]/\Q .non H
def uN (K:cW)(A:Adr):Sp:=fun vs H Q _=>∃(p:Addr)(m v:V)(e:Int),vs=[.ref p,m,v,.int e]/\((H p=some (.tup [.str "newest"])/\∀H',ar H H'->Q v H')\/∃(hp:Addr)(c:Int)(mk:Key),v=.ref hp/\H hp=some (.tup [.int c,kV mk])/\H p=some (.tup [.str "growth",.int c,.int e])/\∀H',ar H H'->Q m H')
def LnA (A:Adr)(H:Hp)(ln:Addr)(v m:V)(e:Int):Prop:=∃dx fa q0 q1 q2,H ln=some (.ins A.c_Spoken dx [("answerer",.ref fa)])/\da H fa cN [q1,q0,q2] [m,v,.int e]
def LnN (A:Adr)(H:Hp)(ln:Addr):Prop:=∃dx fa,H ln=some (.ins A.c_Spoken dx [("answerer",.ref fa)])/\da H fa cL [] []
def rD (K:cW)(A:Adr):Sp:=fun vs H Q _=>∃(x dx f:Addr),vs=[.ref x,.ref f]/\H x=some (.ins A.c_Spoken dx [])/\Q .non (upd H x (.ins A.c_Spoken dx [("answerer",.ref f)]))
def qm (K:cW)(A:Adr):Sp:=fun vs H Q _=>∃ln:Addr,vs=[.ref ln]/\((LnN A H ln/\∀H',ar H H'->Q .non H')\/∃(v m:V)(e:Int),LnA A H ln v m e/\∀H',ar H H'->Q v H')
inductive rA (K:cW)(A:Adr)(vs:List V)(H:Hp)(Q:VK)(E:XK):Prop|mk (ln hp:Addr)(m:V)(c e:Int)(mk:Key)(_:vs=[.ref ln,.int c,.int e])(_:LnA A H ln (.ref hp) m e)(_:H hp=some (.tup [.int c,kV mk]))(_:∀H',ar H H'->Q m H')
inductive Out where
 |held
 |ref (i:Nat)
 |bad (i:Nat) (x y:Key)
def cE (A:Adr):Nat->Addr
 |0=>A.c_NoHead
 |1=>A.c_Unsealed
 |2=>A.c_Elder
 |3=>A.c_NoPaper
 |4=>A.c_Broken
 |5=>A.c_Parted
 |_=>A.c_Silent
def dD (mk tm v0 tu:Key):Out:=if tm=mk then(if tu=v0 then .held else .bad 5 v0 tu)else .bad 4 mk tm
structure GdH (d:Dat)(c:Nat)(mk:Key):Prop where
 e:d=.tup [.int (c:Int),aV mk]
 c6:c<2^60
 ok:okP mk=true
inductive Due (g:gOp)(kvs:List (List Key×V))(n:Nat)(v0:Key)(d k:Dat):Out->Prop
 |head (h:cm d=false):Due g kvs n v0 d k (.ref 0)
 |unse {c:Nat} {mk:Key} (gd:GdH d c mk) (h:gW kvs c mk=false):Due g kvs n v0 d k (.ref 1)
 |eld {c:Nat} {mk:Key} (gd:GdH d c mk) (h:gW kvs c mk=true) (lt:c<n):Due g kvs n v0 d k (.ref 2)
 |pap {c:Nat} {mk:Key} (gd:GdH d c mk) (h:gW kvs c mk=true) (le:n<=c) (hk:cC (bI c n) k=false):Due g kvs n v0 d k (.ref 3)
 |good {c:Nat} {mk tm tu:Key} {ks:List Key} (gd:GdH d c mk) (h:gW kvs c mk=true) (le:n<=c) (hk:dN k (bI c n) ks) (ht:∀h,Ext g h->tm=h (yT h c n ks)) (hu:∀h,Ext g h->tu=h (oT h c n ks)):Due g kvs n v0 d k (dD mk tm v0 tu)
def lF (A:Adr)(H:Hp)(f b:Addr)(g:gOp)(N:Nat)(o:Out)(E:XK):Prop:=
 (∀i,i<=6->o=.ref i->∀(g':gOp)(H':Hp),aI b H H'->Stp A H' f b g' (N+132)->Sub g g'->E (.ref (cE A i)) none H')/\
 (∀i x y,i<=6->o=.bad i x y->okP x=true->okP y=true->∀(dx:Addr)(g':gOp)(H':Hp),aI b H H'->Stp A H' f b g' (N+132)->Sub g g'->H' dx=some (fL (dg "came" (kV y) [("due",kV x)]) dx)->E (.ref (cE A i)) (some dx) H')
def rg (A:Adr)(H:Hp)(dk f b qs:Addr)(g:gOp)(N:Nat)(o:Out)(v:V)(d:Dat)(Q:VK):Prop:=o=.held->∀(hv c:Nat)(mk:Key)(g':gOp)(H':Hp),v=.ref hv->GdH d c mk->KM [b,dk] H H'->Stp A H' f b g' (N+132)->Sub g g'->DkA A H' dk f qs hv c mk->Q v H'
structure HrA (A:Adr)(H:Hp)(dk f b qs hd sd:Addr)(kvs:List (List Key×V))(n:Nat)(v0:Key)(g:gOp)(N:Nat):Prop where
 dk:DkA A H dk f qs hd n v0
 sl:SlA H qs sd kvs
 s:Stp A H f b g N
 hN:N+600<=39000
 sb:sd≠b
inductive lU (K:cW)(A:Adr)(vs:List V)(H:Hp)(Q:VK)(E:XK):Prop|mk (dk dx f b qs:Addr)(v:V)(d:Dat)(g:gOp)(N:Nat)(_:vs=[.ref dk,.ref f,v,.ref qs])(_:H dk=some (.ins A.c_Desk dx []))(_:aG H v d)(_:Stp A H f b g N)(_:N<=38000)(_:((fq d=false/\E (.ref A.c_NoBits) none H)\/(fq d=true/\ ∀(hd:Addr)(v0:Key)(g':gOp)(H':Hp),KM [b,dk] H H'->Stp A H' f b g' (N+2)->Sub g g'->DkA A H' dk f qs hd 0 v0->(∀h,Ext g' h->v0=h [.inr "row",.inl 0,h [.inr "void"]])->Q .non H')))
inductive rl (K:cW)(A:Adr)(vs:List V)(H:Hp)(Q:VK)(E:XK):Prop|mk (dk f qs hd sd:Addr)(kvs:List (List Key×V))(n:Nat)(v0:Key)(v:V)(d:Dat)(_:vs=[.ref dk,v])(_:DkA A H dk f qs hd n v0)(_:SlA H qs sd kvs)(_:aG H v d)(_:((cm d=false/\∀H',ar H H'->E (.ref A.c_NoHead) none H')\/∃c mk,GdH d c mk/\((gW kvs c mk=false/\∀H',ar H H'->E (.ref A.c_Unsealed) none H')\/(gW kvs c mk=true/\((c<n/\∀H',ar H H'->E (.ref A.c_Elder) none H')\/(n<=c/\∀H',ar H H'->Q .non H'))))))
inductive jW (K:cW)(A:Adr)(vs:List V)(H:Hp)(Q:VK)(E:XK):Prop|mk (dk f b qs hd sd:Addr)(kvs:List (List Key×V))(n:Nat)(v0:Key)(g:gOp)(N:Nat)(v m:V)(d k:Dat)(o:Out)(_:vs=[.ref dk,v,m])(_:HrA A H dk f b qs hd sd kvs n v0 g N)(_:aG H v d)(_:aG H m k)(_:eD k)(_:Due g kvs n v0 d k o)(_:lF A H f b g N o E)(_:rg A H dk f b qs g N o v d Q)
def fY (k:Dat)(o:Out):Out:=match k,o with
 |.non,.ref 3=>.ref 6
 |_,o=>o
inductive uk (K:cW)(A:Adr)(vs:List V)(H:Hp)(Q:VK)(E:XK):Prop|mk (dk f b qs hd sd ln:Addr)(kvs:List (List Key×V))(n:Nat)(v0:Key)(g:gOp)(N:Nat)(_:vs=[.ref dk,.ref ln])(_:HrA A H dk f b qs hd sd kvs n v0 g N)(_:((LnN A H ln/\lF A H f b g N (.ref 6) E)\/∃(v m:V)(d k:Dat)(o:Out),LnA A H ln v m (n:Int)/\aG H v d/\d≠.non/\aG H m k/\eD k/\Due g kvs n v0 d k o/\lF A H f b g N (fY k o) E/\rg A H dk f b qs g N o v d Q))
def fA (i:Nat):List Bool:=(Oz 8).map fun j=>decide (j=i)||decide (j=7)
def eY (d:Dat):Out->Dat
 |.held=>.tup [.str "held",d]
 |.ref i=>.tup [.str "refused",.lst ((fA i).map Dat.bl)]
 |.bad i x y=>.tup [.str "refused",.lst ((fA i).map Dat.bl),aV x,aV y]
def KL (A:Adr)(H:Hp)(v:V)(i:Nat):Prop:=i<7/\∃a d,v=.ref a/\H a=some (gP (cE A i) d a)
def lp (K:cW)(A:Adr):Sp:=fun vs H Q _=>∃(v:V)(i:Nat),vs=[v]/\KL A H v i/\∀(p:Addr)(H':Hp),ar H H'->H' p=some (.lst ((fA i).map V.bl))->Q (.ref p) H'
inductive vi (A:Adr)(H:Hp)(g:gOp)(kvs:List (List Key×V))(n:Nat)(v0:Key)(v m:V)(d k:Dat):V->Out->Prop
 |word {o:Out} (due:Due g kvs n v0 d k o):vi A H g kvs n v0 v m d k .non o
 |none {ln:Addr} (h:LnN A H ln):vi A H g kvs n v0 v m d k (.ref ln) (.ref 6)
 |line {ln:Addr} {o:Out} (h:LnA A H ln v m (n:Int)) (due:Due g kvs n v0 d k o):vi A H g kvs n v0 v m d k (.ref ln) (fY k o)
def DkZ (A:Adr)(H:Hp)(dk f qs hd:Addr)(n:Nat)(v0:Key)(v:V)(d:Dat):Out->Prop
 |.held=>∃(hv c:Nat)(mk:Key),v=.ref hv/\GdH d c mk/\DkA A H dk f qs hv c mk
 |_=>DkA A H dk f qs hd n v0
inductive kN (K:cW)(A:Adr)(vs:List V)(H:Hp)(Q:VK)(E:XK):Prop|mk (dk f b qs hd sd:Addr)(kvs:List (List Key×V))(n:Nat)(v0:Key)(g:gOp)(N:Nat)(l v m:V)(d k:Dat)(o':Out)(_:vs=[.ref dk,l,v,m])(_:HrA A H dk f b qs hd sd kvs n v0 g N)(_:aG H v d)(_:d≠.non)(_:aG H m k)(_:eD k)(_:vi A H g kvs n v0 v m d k l o')(_:∀(p:Addr)(g':gOp)(H':Hp),KM [b,dk] H H'->Stp A H' f b g' (N+132)->Sub g g'->DkZ A H' dk f qs hd n v0 v d o'->aG H' (.ref p) (eY d o')->okD (eY d o')=true->Q (.ref p) H')
inductive mT (K:cW)(A:Adr)(vs:List V)(H:Hp)(Q:VK)(E:XK):Prop|mk (dk f qs hd h2 du p:Addr)(n:Nat)(v0:Key)(v:V)(d:Dat)(o:Out)(_:vs=[.ref dk,.ref du,.ref p,.ref h2,v])(_:DkZ A H dk f qs hd n v0 v d o)(_:aG H (.ref du) (eY d o))(_:aG H (.ref p) (eY d o))(_:okD (eY d o)=true)(_:H h2=some (.tup [.int (n:Int),kV v0]))(_:okP v0=true)(_:∀H',ar H H'->Q (.bl true) H')
def kF (P:Addr)(ct:cz)(l c:Nat)(H:Hp):Prop:=∃ps,H P=some (.tbl ps)/\(ps=#[]\/∃a,ps=#[]++#[rawInt ((l:Nat):Int),rawInt ((c:Nat):Int),.ref a]/\H a=some (bz a ct.qual))
def TnA (A:Adr):Prop:=[A.t_66,A.t_40,A.t_17,A.t_26,A.t_11,A.t_29,A.t_59].Nodup
def pS (K:cW)(A:Adr):Sp:=fun vs H Q _=>∃(v m:V)(e:Int),vs=[v,m,.int e]/\H A.t_26=some (.tbl #[])/\∀(ln:Addr)(H':Hp),aZ A.t_26 H H'->LnA A H' ln v m e->Q (.ref ln) H'
inductive mU (K:cW)(A:Adr)(vs:List V)(H:Hp)(Q:VK)(E:XK):Prop|mk (f b sd hd:Addr)(B c:Nat)(kvs:List (List Key×V))(mk top:Key)(g:gOp)(N:Nat)(_:vs=[.ref f,.int (B:Int),.ref sd,.ref hd,kV top])(_:1<=B)(_:B<=60)(_:TnA A)(_:kF A.t_17 df 352 56 H)(_:Stp A H f b g N)(_:N+1000<=38000)(_:sd≠b)(_:H sd=some (.dT kvs))(_:kvs.length<=10)(_:H hd=some (.tup [.int (c:Int),kV mk]))(_:c<2^60)(_:okP mk=true)(_:enB top)(_:(∀h,Ext g h->mk=h [.inr "row",.inl (c:Int),if c=0 then h [.inr "void"]else top]))(_:∀(dk qs h2:Addr)(kvs':List (List Key×V))(g':gOp)(H':Hp),KM [b,sd,A.t_17] H H'->kF A.t_17 df 352 56 H'->H dk=none->Stp A H' f b g' (N+200)->Sub g g'->DkA A H' dk f qs h2 c mk->SlA H' qs sd kvs'->kvs'=(if c=0 then kvs else bu kvs (hdK c mk) (.bl true))->Q (.ref dk) H')
inductive pO (K:cW)(A:Adr)(vs:List V)(H:Hp)(Q:VK)(E:XK):Prop|mk (f b:Addr)(z:Int)(g:gOp)(N:Nat)(_:vs=[.ref f,.int z])(_:Stp A H f b g N)(_:N<=38000)(_:TnA A)(_:H A.t_29=some (.tbl #[]))(_:∀H',aZ A.t_29 H H'->Q (.bl true) H')
inductive pN (K:cW)(A:Adr)(vs:List V)(H:Hp)(Q:VK)(E:XK):Prop|mk (z:Int)(hp:Addr)(c:Nat)(mk:Key)(_:vs=[.int z,.ref hp])(_:H hp=some (.tup [.int (c:Int),kV mk]))(_:c<2^60)(_:∀(v:V)(d:Dat)(H':Hp),ar H H'->aG H' v d->cm d=false->d≠.non->nbD d=true->Q v H')
def qj (K:cW)(A:Adr):Sp:=fun vs H Q _=>∃(z:Int)(c:Nat),vs=[.int z,.int (c:Int)]/\∀e:Nat,e<=c->Q (.int (e:Int)) H
def yl (b0 b1 b2 b3:Bool)(mk tm v0 tu:Key):Out:=if b0 then .ref 0 else if b1 then .ref 1 else if b2 then .ref 2 else if b3 then .ref 3 else dD mk tm v0 tu
inductive pB (K:cW)(A:Adr)(vs:List V)(H:Hp)(Q:VK)(E:XK):Prop|mk (L hp:Addr)(b0 b1 b2 b3 b4:Bool)(n c:Nat)(v0 tm tu mk:Key)(v:V)(d:Dat)(_:vs=[.ref L,.ref hp,v,kV tm,kV tu])(_:H L=some (.lst [.bl b0,.bl b1,.bl b2,.bl b3,.bl b4]))(_:H hp=some (.tup [.int (n:Int),kV v0]))(_:aG H v d)(_:(b0=false->GdH d c mk))(_:okP tm=true)(_:okP tu=true)(_:okP v0=true)(_:∀(p:Addr)(H':Hp),ar H H'->aG H' (.ref p) (eY d (yl b0 b1 b2 b3 mk tm v0 tu))->Q (.ref p) H')
inductive pR (K:cW)(A:Adr)(vs:List V)(H:Hp)(Q:VK)(E:XK):Prop|mk (f b a:Addr)(ns:List Int)(g:gOp)(N:Nat)(_:vs=[.ref f,.ref a])(_:Stp A H f b g N)(_:N<=100)(_:SqL K H a (ns.map V.int))(_:∀(p P R:Addr)(c e:Nat)(ks:List Key)(y o:Key)(g':gOp)(H':Hp),aI b H H'->Stp A H' f b g' (N+130)->Sub g g'->H' p=some (.tup [.int (c:Int),.int (e:Int),.ref P,.ref R])->e<=c->c<2^60->H' P=some (.tup (ks.map kV))->ks.length=bI c e->(∀x∈ks,enK x)->H' R=some (.tup [kV y,kV o])->enB y->enB o->(∀h,Ext g' h->yT h c e ks=[.inr "row",.inl (c:Int),y]/\oT h c e ks=[.inr "row",.inl (e:Int),o]/\(e=0->o=h [.inr "void"]))->Q (.ref p) H')
inductive pV (K:cW)(A:Adr)(vs:List V)(H:Hp)(Q:VK)(E:XK):Prop|mk (f b:Addr)(z:Int)(e:Nat)(o:Key)(g:gOp)(N:Nat)(_:vs=[.ref f,.int z,.int (e:Int),kV o])(_:Stp A H f b g N)(_:N<=1000)(_:e<2^60)(_:enB o)(_:∀(r hp:Addr)(top mk:Key)(g':gOp)(H':Hp),aI b H H'->Stp A H' f b g' (N+1)->Sub g g'->H' r=some (.lst [.ref hp,kV top])->H' hp=some (.tup [.int (e:Int),kV mk])->enB top->(e=0->top=o)->okP mk=true->g' [.inr "row",.inl (e:Int),top]=some mk->Q (.ref r) H')
inductive pW (K:cW)(A:Adr)(vs:List V)(H:Hp)(Q:VK)(E:XK):Prop|mk (a L hp:Addr)(ns:List Int)(b0 b1 b2 b3 b4:Bool)(c e:Nat)(mk:Key)(_:vs=[.ref a,.ref L,.ref hp,.int (e:Int)])(_:SqL K H a (ns.map V.int))(_:H L=some (.lst [.bl b0,.bl b1,.bl b2,.bl b3,.bl b4]))(_:H hp=some (.tup [.int (c:Int),kV mk]))(_:c<2^60)(_:okP mk=true)(_:(b2=true->0<e))(_:e<=c)(_:∀(v:V)(d:Dat)(H':Hp),ar H H'->aG H' v d->d≠.non->(b0=true->cm d=false)->(b0=false->∃c' mk',GdH d c' mk'/\(b2=true->c'<e)/\(b2=false->c'=c))->nbD d=true->Q v H')
inductive pU (K:cW)(A:Adr)(vs:List V)(H:Hp)(Q:VK)(E:XK):Prop|mk (ds du cs hp h0 h1 dk0 dk1 f b qs0 qs1 sd:Addr)(kvs:List (List Key×V))(n:Nat)(v0:Key)(g:gOp)(N:Nat)(v m:V)(d k:Dat)(o:Out)(_:vs=[.ref ds,.ref du,.int (n:Int),.ref cs])(_:H ds=some (.lst [.ref dk0,.ref dk1]))(_:H cs=some (.tup [.ref hp,v,m]))(_:H hp=some (.tup [.int (n:Int),kV v0]))(_:HrA A H dk0 f b qs0 h0 sd kvs n v0 g N)(_:HrA A H dk1 f b qs1 h1 sd kvs n v0 g N)(_:dk0≠dk1)(_:N<=30000)(_:aG H v d)(_:d≠.non)(_:aG H m k)(_:eD k)(_:Due g kvs n v0 d k o)(_:aG H (.ref du) (eY d o))(_:TnA A)(_:H A.t_26=some (.tbl #[]))(_:H A.t_11=some (.tbl #[]))(_:∀(g':gOp)(H':Hp),KM [b,dk0,dk1,A.t_26,A.t_11] H H'->Stp A H' f b g' (N+500)->Sub g g'->(o≠.held->DkA A H' dk0 f qs0 h0 n v0)->Q (.bl true) H')
def pX (K:cW)(A:Adr):Sp:=fun vs H Q _=>∃(a:Addr)(ns:List Int),vs=[.ref a]/\SqL K H a (ns.map V.int)/\ns.length<=63/\pP A H/\∀H',Q (.bl true) H'
def dh (K:cW)(A:Adr):L2.iF:=[(gJ,vt K A),(hU,vb K A),(hV,uB K A),(fV,tP K A)]
def kG (K:cW)(A:Adr):L2.iF:=[(cN,uN K A),(df,uX K A),(eQ,uo K A),(cL,vx K A),(fW,vn K A)]
def Cm (K:cW)(A:Adr):TE:=az (mE K A) (fun _=>E0) (ae (af 0) (ak))
def BA (K:cW)(A:Adr):TE:=eC A.c_Numbers "number_of" (uw K A) (fun _=>E0) (af 1) (ae (af 0) (ak))
def DU (K:cW)(A:Adr):TS:=aO (tBM K "dict" tB (af 2) (ae (af 0) (ae (tOp (bM K) (tOp (jE) (af 1) (tCB (eI K) (ae (af 2) (ak)))) (tC (.int 5))) (ak))))
def Cb (K:cW)(A:Adr):TS:=aC (aE (tCB (eI K) (ae (af 0) (ak))) (ay 1)) (aC (nP (jx K (af 0)) (ay 2) (bw (cG K (tCB (gO) (ae (af 2) (ae (tC (.ty "str")) (ak))))) (aE (tOp (bM K) (tOp (jE) (tC (.int 2)) (af 1)) (tCB (eI K) (ae (af 2) (ak)))) (ay 1)) (aE (tOp (bM K) (tOp (jE) (tC (.int 2)) (af 1)) (af 2)) (ay 1)))) (aO (tOp (bQ) (af 1) (af 3))))
def El (K:cW)(A:Adr):TS:=aC (bw (bc (tOp (bL K) (af 0) (bh (ae (tC (.str "newest")) (ak))))) (aO (af 2)) (bi)) (aC (bw (lH (cG K (tCB (gO) (ae (af 2) (ae (tC (.ty "tuple")) (ak))))) (bc (tOp (bL K) (af 0) (bh (ae (tC (.str "growth")) (ae (tOp (aJ K) (af 2) (tC (.int 0))) (ae (af 3) (ak)))))))) (aO (af 1)) (bi)) (aO (tC .non)))
def Dv (K:cW)(A:Adr):TE:=tOp (yU K) (af 0) (af 1)
def ET (K:cW)(A:Adr):TE:=tC (.bl true)
def EW (K:cW)(A:Adr):TE:=tC .non
def Ez (K:cW)(A:Adr):TE:=tC (.bl true)
def LT (K:cW)(A:Adr):TS:=aO (er (tCB (gO) (ae (af 0) (ae (tC (.ty "int")) (ak)))) (uV (tCB (gO) (ae (af 0) (ae (tC (.ty "bool")) (ak))))))
def LH (K:cW)(A:Adr):TS:=aC (bw (cG K (az (iC K A) (fun _=>E0) (ae (af 0) (ak)))) (aO (fi (mLe) (mLt) (tC (.int 0)) (af 0) (tOp (kc) (tC (.int 10)) (tC (.int 60))))) (bi)) (aO (tCB (gO) (ae (af 0) (ae (tC (.ty "str")) (ak)))))
def Lm (K:cW)(A:Adr):TS:=aC (bw (eX (cG K (tCB (gO) (ae (af 0) (ae (tC (.ty "tuple")) (ak)))))) (aO (tC (.bl false))) (bi)) (aC (bw (eX (bc (fi (mLe) (mLe) (tC (.int 1)) (tCB (eI K) (ae (af 0) (ak))) (tC (.int 8))))) (aO (tC (.bl false))) (bi)) (aO (er (tCB (gO) (ae (tOp (aJ K) (af 0) (tC (.int 0))) (ae (tC (.ty "str")) (ak)))) (tCB (zi) (ae (fJ [] (jx K (af 0)) (fun _ H Q=>Q true H) (az (kS K A) (fun _=>E0) (ae (af 0) (ak)))) (ak))))))
def LP (K:cW)(A:Adr):TS:=aC (bw (cG K (az (iC K A) (fun _=>E0) (ae (af 0) (ak)))) (aO (mJ ((vB (af 0))::(tC (.str ";"))::[]) Nl)) (bi)) (aC (aE (tCB (eI K) (ae (af 0) (ak))) (ay 1)) (aO (mJ ((vB (af 1))::(tC (.str ":"))::(vB (af 0))::[]) Nl)))
def Ks (K:cW)(A:Adr):TS:=aC (bw (eX (cG K (az (mY K A) (fun _=>E0) (ae (af 0) (ak))))) (mB) (bi)) (aO (tBM K "str" uc (tC (.str "")) (ae (fJ [] (jx K (af 0)) (fun _ H Q=>Q true H) (az (pQ K A) (fun _=>E0) (ae (af 0) (ak)))) (ak))))
def T_6 (K:cW)(A:Adr):TS:=aC (bw (eX (cG K (az (mY K A) (fun _=>E0) (ae (af 1) (ak))))) (mB) (bi)) (aC (bw (bc (tOp (sR K) (af 1) (eK K (af 0) "given"))) (aE (tCB (eI K) (ae (eK K (af 0) "given") (ak))) (iQ (eK K (af 0) "given") (af 1) gI)) (bi)) (aO (tOp (aJ K) (eK K (af 0) "given") (af 1))))
def Ci (K:cW)(A:Adr):TSM:=fg (iu A.t_66 ⟨232,11,232,37⟩ gJ [])
def T_5 (K:cW)(A:Adr):TS:=iM K (af 0) (iW) "given"
def Du (K:cW)(A:Adr)(q0:Addr):TSM:=bH (bF (aE (gN A.c_Numbers (uD K A) (fun _=>E0) (ak)) (ay 0))) (fg (iu A.t_44 ⟨235,11,235,47⟩ hU [q0]))
def Fi (K:cW)(A:Adr)(q0 q1:Addr):TSM:=bH (bF (aE (iW) (ay 1))) (bH (bF (aE (iu A.t_36 ⟨256,4,257,80⟩ hV [q0,q1]) (ay 2))) (fg (af 2)))
def EG (K:cW)(A:Adr)(q0:Addr):TSM:=bH (bF (aE (iu A.t_40 ⟨261,4,268,42⟩ fV [q0]) (ay 1))) (fg (af 1))
def Lh (K:cW)(A:Adr):TS:=aC (bw (bc (tOp (bL K) (tOp (bQ) (af 0) (tC (.int 5))) (tC (.int 0)))) (aO (az (qh K A) (fun _=>E0) ak)) (bi)) (aC (bw (bc (tOp (bL K) (tOp (bQ) (af 0) (tC (.int 5))) (tC (.int 1)))) (aO (az (qa K A) (fun _=>E0) ak)) (bi)) (aC (bw (bc (tOp (bL K) (tOp (bQ) (af 0) (tC (.int 5))) (tC (.int 2)))) (aO (az (qk K A) (fun _=>E0) (ae (tOp (bM K) (tC (.int 1)) (tOp (bQ) (tOp (bO) (af 0) (tC (.int 5))) (tC (.int 9)))) (ak)))) (bi)) (aO (az (qd K A) (fun _=>E0) (ae (tOp (bM K) (tC (.int 1)) (tOp (bQ) (tOp (bO) (af 0) (tC (.int 5))) (tC (.int 9)))) (ak))))))
def Lz (K:cW)(A:Adr):TS:=aC (bw (bc (tOp (mLt) (af 1) (tCB (eI K) (ae (af 0) (ak))))) (aO (tOp (aJ K) (af 0) (af 1))) (bi)) (aO (tC (.int 0)))
def Lg (K:cW)(A:Adr):TS:=aC (bw (bc (tOp (bL K) (tOp (bQ) (af 0) (tC (.int 3))) (tC (.int 0)))) (aO (tOp (bQ) (tOp (bO) (af 0) (tC (.int 3))) (tC (.int 41)))) (bi)) (aC (bw (bc (tOp (bL K) (tOp (bQ) (af 0) (tC (.int 3))) (tC (.int 1)))) (aO (tOp (eW) (tOp (bM K) (tOp (jY) (tC (.int 1)) (tOp (bM K) (tC (.int 1)) (tOp (bQ) (tOp (bO) (af 0) (tC (.int 3))) (tC (.int 59))))) (tOp (bQ) (tOp (bO) (af 0) (tC (.int 177))) (tC (.int 4)))) (tC (.int 1)))) (bi)) (aO (tOp (bQ) (tOp (bO) (af 0) (tC (.int 3))) (tOp (jY) (tC (.int 1)) (tC (.int 60))))))
def Kl (K:cW)(A:Adr):TS:=aC (bw (bc (tOp (bL K) (tOp (bQ) (af 0) (tC (.int 4))) (tC (.int 0)))) (aO (af 1)) (bi)) (aO (tOp (bQ) (tOp (bO) (af 0) (tC (.int 4))) (tOp (bM K) (af 1) (tC (.int 1)))))
def JS (K:cW)(A:Adr):TS:=aO (tOp (jY) (tC (.int 1)) (tOp (eW) (uJ K "int" pA (tOp (eW) (af 0) (tC (.int 1)))) (tC (.int 1))))
def BQ (K:cW)(A:Adr):TS:=aO (af 2)
def xf (K:cW)(A:Adr):TS:=aC (mh (bc (fi (mLt) (mLt) (tC (.int 0)) (af 1) (af 0))) (aC (aE (az (nk K A) (fun _=>E0) (ae (af 0) (ak))) (ay 3)) (aC (aE (tOp (bM K) (af 2) (tC (.int 1))) (ay 2)) (bw (bc (tOp (mGt) (af 1) (af 3))) (aC (aE (tOp (eW) (af 0) (af 3)) (ay 0)) (aE (tOp (eW) (af 1) (af 3)) (ay 1))) (aE (af 3) (ay 0)))))) (BQ K A)
def Kq (K:cW)(A:Adr):TS:=aC (aE (tCB (yG) (ae (af 0) (ae (tC (.int 1)) (ak)))) (ay 2)) (xf K A)
def wB (K:cW)(A:Adr):TS:=aO (tBM K "str" uc (tC (.str "")) (ae (fJ [0,1] (jF (ae (tOp (bQ) (af 0) (tC (.int 5))) (ak))) (fun _ H Q=>Q true H) (tOp (aJ K) (af 2) (tOp (bQ) (tOp (bM K) (tOp (bO) (af 1) (tC (.int 5))) (tOp (jE) (af 0) (tOp (bQ) (tOp (bO) (af 1) (tC (.int 470))) (tC (.int 7))))) (tC (.int 94))))) (ak)))
def KR (K:cW)(A:Adr):TS:=aC (aE (tC (.str " !\"#$&'()*+,-./0123456789:;<=>?@ABCDEFGHIJKLMNOPQRSTUVWXYZ[\\]^_`")) (ay 1)) (aC (aE (tOp (bM K) (af 1) (tC (.str "abcdefghijklmnopqrstuvwxyz{|}~"))) (ay 1)) (wB K A))
def LG (K:cW)(A:Adr):TS:=aC (bw (bc (tOp (bL K) (tOp (bQ) (af 0) (tC (.int 4))) (tC (.int 0)))) (aO (az (qi K A) (fun _=>E0) (ae (tOp (bO) (af 0) (tC (.int 4))) (ak)))) (bi)) (aC (bw (bc (tOp (bL K) (tOp (bQ) (af 0) (tC (.int 4))) (tC (.int 1)))) (aO (tOp (bQ) (tOp (bO) (af 0) (tC (.int 4))) (tOp (kc) (tC (.int 10)) (tC (.int 60))))) (bi)) (aO (tOp (bQ) (tOp (bO) (af 0) (tC (.int 4))) (tC (.int 7)))))
def Ko (K:cW)(A:Adr)(n:Nat):TS:=aC (bw (bc (tOp (bL K) (af 2) (af 1))) (aO (bh (ae (tOp (aJ K) (af 3) (tC (.int 0))) (ae (tOp (aJ K) (af 3) (tC (.int 0))) (ak))))) (bi)) (aC (aE (az (nk K A) (fun _=>E0) (ae (af 1) (ak))) (ay 4)) (aC (bw (bc (tOp (mGt) (af 2) (af 4))) (aC (aE (az (ju K A n) (fun _=>E0) (ae (af 0) (ae (tOp (eW) (af 1) (af 4)) (ae (tOp (eW) (af 2) (af 4)) (ae (tSl (kA K) (af 3) (gU (tC (.int 1))) (fj)) (ak)))))) (kJ K 2 (cx (ay 5) (cx (ay 6) iS)))) (aO (bh (ae (dX (dh K A) (fun _=>E0) (af 0) (ae (bh (ae (tC (.str "joint")) (ae (tOp (aJ K) (af 3) (tC (.int 0))) (ae (af 5) (ak))))) (ak))) (ae (dX (dh K A) (fun _=>E0) (af 0) (ae (bh (ae (tC (.str "joint")) (ae (tOp (aJ K) (af 3) (tC (.int 0))) (ae (af 6) (ak))))) (ak))) (ak)))))) (bi)) (aC (aE (az (ju K A n) (fun _=>E0) (ae (af 0) (ae (af 4) (ae (af 2) (ae (tSl (kA K) (af 3) (fj) (gU (tUn gG (tC (.int 1))))) (ak)))))) (kJ K 2 (cx (ay 5) (cx (ay 6) iS)))) (aO (bh (ae (dX (dh K A) (fun _=>E0) (af 0) (ae (bh (ae (tC (.str "joint")) (ae (af 5) (ae (tOp (aJ K) (af 3) (tUn gG (tC (.int 1)))) (ak))))) (ak))) (ae (af 6) (ak))))))))
def vG (K:cW)(A:Adr):TS:=aO (bh (ae (af 2) (ae (af 3) (ae (af 5) (ae (af 7) (ak))))))
def DQ (K:cW)(A:Adr):TS:=aC (bw (bc (tOp (mGt) (af 3) (tC (.int 0)))) (aE (az (ju K A 70) (fun _=>E0) (ae (af 0) (ae (af 2) (ae (af 3) (ae (af 5) (ak)))))) (ay 7)) (bw (bc (tOp (mGt) (af 2) (tC (.int 0)))) (aE (bh (ae (tOp (aJ K) (af 5) (tC (.int 0))) (ae (af 6) (ak)))) (ay 7)) (bi))) (vG K A)
def Bz (K:cW)(A:Adr):TS:=aC (aE (bh (ae (af 6) (ae (af 6) (ak)))) (ay 7)) (DQ K A)
def wn (K:cW)(A:Adr):TS:=aC (aE (dX (dh K A) (fun _=>E0) (af 0) (ae (bh (ae (tC (.str "void")) (ak))) (ak))) (ay 6)) (Bz K A)
def KW (K:cW)(A:Adr):TS:=aC (aE (az (qe K A) (fun _=>E0) (ae (az (eJ K A) (fun _=>E0) (ae (af 1) (ae (tC (.int 1)) (ak)))) (ak))) (ay 2)) (aC (aE (az (qj K A) (fun _=>E0) (ae (az (eJ K A) (fun _=>E0) (ae (af 1) (ae (tC (.int 2)) (ak)))) (ae (af 2) (ak)))) (ay 3)) (aC (aE (az (pE K A) (fun _=>E0) (ae (af 2) (ae (af 3) (ak)))) (ay 4)) (aC (aE (tCB (xh K) (ae (fJ [1] (jF (ae (af 4) (ak))) (fun _ H Q=>Q true H) (az (kR K A) (fun _=>E0) (ae (tOp (bM K) (az (eJ K A) (fun _=>E0) (ae (af 1) (ae (tOp (bM K) (tC (.int 11)) (af 0)) (ak)))) (tOp (jE) (tC (.int 5)) (af 0))) (ak)))) (ak))) (ay 5)) (wn K A))))
def wH (K:cW)(A:Adr):TS:=aO (dE (ae (bh (ae (af 2) (ae (dX (dh K A) (fun _=>E0) (af 0) (ae (bh (ae (tC (.str "row")) (ae (af 2) (ae (af 3) (ak))))) (ak))) (ak)))) (ae (af 3) (ak))))
def Ki (K:cW)(A:Adr):TS:=aC (bw (lH (bc (tOp (bL K) (tOp (bQ) (af 1) (tC (.int 4))) (tC (.int 0)))) (bc (tOp (mGt) (af 2) (tC (.int 0))))) (aE (az (kR K A) (fun _=>E0) (ae (tOp (bO) (af 1) (tC (.int 4))) (ak))) (ay 3)) (bi)) (wH K A)
def KO (K:cW)(A:Adr):TS:=aC (aE (tOp (bQ) (tOp (bO) (af 0) (tC (.int 9))) (tOp (kc) (tC (.int 10)) (tC (.int 30)))) (ay 1)) (aC (aE (dE (ae (tC .non) (ae (tC (.bl true)) (ae (tC (.bl false)) (ae (tOp (eW) (tUn gG (tC (.int 1))) (af 1)) (ae (tOp (bM K) (tOp (kc) (tC (.int 10)) (tC (.int 60))) (af 1)) (ae (bh (ae (af 1) (ak))) (ae (dE (ae (af 1) (ak))) (ae (iW) (ae (bh (ae (tC (.str "a")) (ak))) (ak))))))))))) (ay 2)) (aO (tOp (aJ K) (af 2) (tOp (bQ) (af 0) (tC (.int 9))))))
def Fe (K:cW)(A:Adr):TS:=aO (tOp (aJ K) (af 2) (tOp (bQ) (af 0) (tC (.int 8))))
def wI (K:cW)(A:Adr):TS:=aC (aE (tOp (bM K) (af 2) (dE (ae (bh (ae (tOp (aJ K) (af 1) (tC (.int 0))) (ae (az (mP K A) (fun _=>E0) (ae (tOp (bO) (af 0) (tC (.int 8))) (ak))) (ak)))) (ae (tOp (aJ K) (af 1) (tC (.int 1))) (ae (iW) (ak)))))) (ay 2)) (Fe K A)
def KZ (K:cW)(A:Adr):TS:=aC (aE (dE (ae (bh (ae (tOp (aJ K) (af 1) (tC (.int 0))) (ak))) (ae (dE (ae (tOp (aJ K) (af 1) (tC (.int 0))) (ae (tOp (aJ K) (af 1) (tC (.int 1))) (ak)))) (ae (bh (ae (tC (.bl true)) (ae (tOp (aJ K) (af 1) (tC (.int 1))) (ak)))) (ae (bh (ae (tOp (eW) (tUn gG (tC (.int 1))) (tOp (aJ K) (af 1) (tC (.int 0)))) (ae (tOp (aJ K) (af 1) (tC (.int 1))) (ak)))) (ae (bh (ae (tOp (jY) (tC (.int 1)) (tC (.int 60))) (ae (tOp (aJ K) (af 1) (tC (.int 1))) (ak)))) (ak))))))) (ay 2)) (wI K A)
def EZ (K:cW)(A:Adr):TS:=aO (bh (ae (tOp (aJ K) (af 2) (tC (.int 0))) (ae (af 4) (ak))))
def BD (K:cW)(A:Adr):TS:=aC (bw (cG K (tOp (aJ K) (af 1) (tC (.int 2)))) (aO (bh (ae (tOp (bQ) (tOp (bO) (az (eJ K A) (fun _=>E0) (ae (af 0) (ae (tC (.int 6)) (ak)))) (tC (.int 4))) (af 3)) (ae (af 4) (ak))))) (bi)) (EZ K A)
def vU (K:cW)(A:Adr):TS:=aC (bw (cG K (tOp (aJ K) (af 1) (tC (.int 0)))) (aO (az (pN K A) (fun _=>E0) (ae (tOp (bO) (az (eJ K A) (fun _=>E0) (ae (af 0) (ae (tC (.int 4)) (ak)))) (tC (.int 4))) (ae (af 2) (ak))))) (bi)) (BD K A)
def Ld (K:cW)(A:Adr):TS:=aC (aE (tOp (aJ K) (af 2) (tC (.int 1))) (ay 4)) (aC (bw (cG K (tOp (aJ K) (af 1) (tC (.int 4)))) (aE (az (kR K A) (fun _=>E0) (ae (tOp (bO) (az (eJ K A) (fun _=>E0) (ae (af 0) (ae (tC (.int 8)) (ak)))) (tC (.int 4))) (ak))) (ay 4)) (bi)) (vU K A))
def Fq (K:cW)(A:Adr):TS:=aO (tOp (bM K) (tOp (bM K) (tSl (kA K) (af 1) (fj) (gU (af 2))) (bh (ae (af 3) (ak)))) (tSl (kA K) (af 1) (gU (tOp (bM K) (af 2) (tC (.int 1)))) (fj)))
def Ew (K:cW)(A:Adr):TS:=aC (bw (bc (tOp (bL K) (tOp (bQ) (tOp (bO) (tOp (bO) (af 0) (tC (.int 5))) (tC (.int 60))) (tC (.int 2))) (tC (.int 0)))) (aO (tOp (bM K) (tSl (kA K) (af 1) (fj) (gU (af 2))) (tSl (kA K) (af 1) (gU (tOp (bM K) (af 2) (tC (.int 1)))) (fj)))) (bi)) (Fq K A)
def BB (K:cW)(A:Adr):TS:=aC (bw (mOr (bc (tOp (mLt) (tOp (bQ) (af 0) (tC (.int 5))) (tC (.int 4)))) (bc (tOp (bL K) (tCB (eI K) (ae (af 1) (ak))) (tC (.int 0))))) (aO (tOp (aJ K) (af 4) (tOp (bQ) (tOp (bQ) (af 0) (tC (.int 5))) (tC (.int 4))))) (bi)) (Ew K A)
def xa (K:cW)(A:Adr):TS:=aC (aE (dE (ae (tC .non) (ae (tCB (Ag K) (ae (af 1) (ak))) (ae (tOp (bM K) (af 1) (bh (ae (tC (.str "a")) (ak)))) (ae (tOp (bM K) (af 1) (bh (ae (af 3) (ak)))) (ak)))))) (ay 4)) (BB K A)
def Lq (K:cW)(A:Adr):TS:=aC (aE (tOp (bQ) (tOp (bO) (af 0) (tC (.int 5))) (tCB (yt) (ae (tC (.int 1)) (ae (tCB (eI K) (ae (af 1) (ak))) (ak))))) (ay 2)) (aC (aE (az (mP K A) (fun _=>E0) (ae (tOp (bO) (af 0) (tC (.int 300))) (ak))) (ay 3)) (xa K A))
def KN (K:cW)(A:Adr):TS:=aO (er (az (iC K A) (fun _=>E0) (ae (af 0) (ak))) (fi (mLe) (mLe) (tC (.int 1)) (af 0) (tC (.int 60))))
def Lj (K:cW)(A:Adr):TS:=aO (dE (ae (bh (ae (tC (.str "void")) (ak))) (ae (bh (ae (tC (.str "row")) (ae (tC (.int 0)) (ae (dX (dh K A) (fun _=>E0) (af 0) (ae (bh (ae (tC (.str "void")) (ak))) (ak))) (ak))))) (ak))))
def JO (K:cW)(A:Adr):TS:=aO (bh (ae (tC (.int 0)) (ae (dX (dh K A) (fun _=>E0) (af 0) (ae (tOp (aJ K) (az (kX K A) (fun _=>E0) (ae (af 0) (ak))) (tUn gG (tC (.int 1)))) (ak))) (ak))))
def T_1 (K:cW)(A:Adr)(E:XK):TS:=aC (bw (eX (cG K (az (pF K A) (fun _=>E0) (ae (af 2) (ak))))) (gM A.c_NoBits (fun _=>E)) (bi)) (aC (iM K (af 0) (af 1) "stamper") (aC (iM K (af 0) (af 2) "bits") (aC (iM K (af 0) (af 3) "asks_seal") (iM K (af 0) (az (nj K A) (fun _=>E0) (ae (af 1) (ak))) "held"))))
def Kd (K:cW)(A:Adr):TS:=aO (er (az (iC K A) (fun _=>E0) (ae (af 0) (ak))) (fi (mLe) (mLt) (tC (.int 0)) (af 0) (tOp (jY) (tC (.int 1)) (tC (.int 60)))))
def JR (K:cW)(A:Adr):TS:=aO (er (tCB (gO) (ae (af 0) (ae (tC (.ty "tuple")) (ak)))) (er (tOp (bL K) (tCB (eI K) (ae (af 0) (ak))) (tC (.int 2))) (er (az (md K A) (fun _=>E0) (ae (tOp (aJ K) (af 0) (tC (.int 0))) (ak))) (az (kS K A) (fun _=>E0) (ae (tOp (aJ K) (af 0) (tC (.int 1))) (ak))))))
def EF (K:cW)(A:Adr)(E:XK):TS:=bw (eX (cG K (az (pM K A) (fun _=>E0) (ae (af 0) (ak))))) (gM A.c_NoHead (fun _=>E)) (bi)
def T_2 (K:cW)(A:Adr)(E:XK):TS:=aC (dZ (az (mr K A) (fun _=>E) (ae (af 1) (ak)))) (aC (bw (eX (cG K (mZ (kG K A) A.c_Desk "asks_seal" (fun _=>E0) (af 0) (ae (af 1) (ak))))) (gM A.c_Unsealed (fun _=>E)) (bi)) (bw (bc (tOp (mLt) (tOp (aJ K) (af 1) (tC (.int 0))) (tOp (aJ K) (eK K (af 0) "held") (tC (.int 0))))) (gM A.c_Elder (fun _=>E)) (bi)))
def Ka (K:cW)(A:Adr):TS:=aO (er (az (md K A) (fun _=>E0) (ae (af 0) (ak))) (er (az (iC K A) (fun _=>E0) (ae (af 1) (ak))) (fi (mLe) (mLe) (tC (.int 0)) (af 1) (af 0))))
def JY (K:cW)(A:Adr):TS:=aO (tOp (jY) (tC (.int 1)) (tOp (eW) (uJ K "int" pA (tOp (eW) (af 0) (tC (.int 1)))) (tC (.int 1))))
def Ly (K:cW)(A:Adr):TS:=aC (aE (dE (ak)) (ay 2)) (aC (aE (af 1) (ay 3)) (aC (aE (af 0) (ay 4)) (aC (mh (bc (fi (mLt) (mLt) (tC (.int 0)) (af 3) (af 4))) (aC (aE (az (pK K A) (fun _=>E0) (ae (af 4) (ak))) (ay 5)) (bw (bc (tOp (mLe) (af 3) (af 5))) (aC (dZ (tBM K "list" fm (af 2) (ae (tC (.int 0)) (ak)))) (aE (af 5) (ay 4))) (aC (dZ (tBM K "list" fm (af 2) (ae (tC (.int 1)) (ak)))) (aC (aE (tOp (eW) (af 3) (af 5)) (ay 3)) (aE (tOp (eW) (af 4) (af 5)) (ay 4))))))) (aO (af 2)))))
def Kc (K:cW)(A:Adr):TS:=aO (er (tCB (gO) (ae (af 1) (ae (tC (.ty "tuple")) (ak)))) (er (tOp (bL K) (tCB (eI K) (ae (af 1) (ak))) (af 0)) (tCB (zi) (ae (fJ [] (jx K (af 1)) (fun _ H Q=>Q true H) (az (kS K A) (fun _=>E0) (ae (af 0) (ak)))) (ak)))))
def Kk (K:cW)(A:Adr):TS:=aO (mIf (bc (tOp (bL K) (af 0) (tC (.int 0)))) (bh (ae (tC (.str "joint")) (ae (af 1) (ae (af 2) (ak))))) (bh (ae (tC (.str "joint")) (ae (af 2) (ae (af 1) (ak))))))
def LA (K:cW)(A:Adr):TS:=aC (aE (dE (ak)) (ay 4)) (aC (aE (dE (ak)) (ay 5)) (aC (aE (tOp (aJ K) (af 3) (tC (.int 0))) (ay 6)) (aC (aE (tOp (aJ K) (af 3) (tC (.int 0))) (ay 7)) (aC (nP (jx K (tOp (aJ K) (af 3) (tC (.int 1)))) (ay 8) (aC (dZ (tBM K "list" fm (af 4) (ae (az (nl K A) (fun _=>E0) (ae (tOp (aJ K) (af 8) (tC (.int 0))) (ae (af 6) (ae (tOp (aJ K) (af 8) (tC (.int 1))) (ak))))) (ak)))) (aC (aE (dX (dh K A) (fun _=>E0) (af 0) (ae (tOp (aJ K) (af 4) (tUn gG (tC (.int 1)))) (ak))) (ay 6)) (bw (bc (tOp (bL K) (tOp (aJ K) (af 8) (tC (.int 0))) (tC (.int 1)))) (aC (dZ (tBM K "list" fm (af 5) (ae (az (nl K A) (fun _=>E0) (ae (tOp (aJ K) (af 8) (tC (.int 0))) (ae (af 7) (ae (tOp (aJ K) (af 8) (tC (.int 1))) (ak))))) (ak)))) (aE (dX (dh K A) (fun _=>E0) (af 0) (ae (tOp (aJ K) (af 5) (tUn gG (tC (.int 1)))) (ak))) (ay 7))) (bi))))) (aC (dZ (tBM K "list" fm (af 4) (ae (bh (ae (tC (.str "row")) (ae (af 1) (ae (af 6) (ak))))) (ak)))) (aC (dZ (tBM K "list" fm (af 5) (ae (bh (ae (tC (.str "row")) (ae (af 2) (ae (af 7) (ak))))) (ak)))) (aO (bh (ae (af 4) (ae (af 5) (ak)))))))))))
def KJ (K:cW)(A:Adr):TS:=aC (aE (dE (ak)) (ay 2)) (aC (aE (tC (.int 0)) (ay 3)) (aC (aE (tOp (eW) (tCB (eI K) (ae (af 1) (ak))) (tC (.int 1))) (ay 4)) (aC (nP (jx K (af 0)) (ay 5) (bw (bc (tOp (bL K) (af 5) (tC (.int 0)))) (aC (dZ (tBM K "list" fm (af 2) (ae (bh (ae (af 5) (ae (tOp (aJ K) (af 1) (af 4)) (ak)))) (ak)))) (aE (tOp (eW) (af 4) (tC (.int 1))) (ay 4))) (aC (dZ (tBM K "list" fm (af 2) (ae (bh (ae (af 5) (ae (tOp (aJ K) (af 1) (af 3)) (ak)))) (ak)))) (aE (tOp (bM K) (af 3) (tC (.int 1))) (ay 3))))) (aO (bh (ae (tOp (aJ K) (af 1) (af 3)) (ae (tCB (qA K) (ae (af 2) (ak))) (ak))))))))
def Dk (K:cW)(A:Adr)(E:XK):TS:=aO (az (pD K A) (fun _=>E0) (ae (af 0) (ae (af 1) (ae (af 2) (ae (az (pI K A) (fun _=>E0) (ae (af 4) (ae (af 3) (ak)))) (ak))))))
def qW (K:cW)(A:Adr)(E:XK):TS:=aC (bw (bc (tOp (bL K) (af 2) (tC (.int 0)))) (aC (aE (mIf (bc (tOp (bL K) (af 1) (tC (.int 0)))) (az (kX K A) (fun _=>E0) (ae (af 0) (ak))) (dE (ae (bh (ae (tC (.str "row")) (ae (af 1) (ae (tOp (aJ K) (af 3) (tC (.int 0))) (ak))))) (ak)))) (ay 5)) (aO (bh (ae (af 5) (ae (az (kX K A) (fun _=>E0) (ae (af 0) (ak))) (ak)))))) (bi)) (Dk K A E)
def Fd (K:cW)(A:Adr)(E:XK):TS:=aC (bw (eX (cG K (az (ql K A) (fun _=>E0) (ae (af 1) (ae (af 2) (ak)))))) (gM A.c_NoPlace (fun _=>E)) (bi)) (aC (aE (az (pH K A) (fun _=>E0) (ae (af 1) (ae (af 2) (ak)))) (ay 4)) (aC (bw (eX (cG K (az (qg K A) (fun _=>E0) (ae (mIf (bc (tOp (bL K) (af 1) (tC (.int 0)))) (tC (.int 0)) (tOp (bM K) (tCB (eI K) (ae (af 4) (ak))) (tC (.int 1)))) (ae (af 3) (ak)))))) (gM A.c_NoPaper (fun _=>E)) (bi)) (qW K A E)))
def T_0 (K:cW)(A:Adr):TS:=aC (mV K A.c_Broken (af 0) (af 1) "due") (mV K A.c_Broken (af 0) (af 2) "came")
def BK (K:cW)(A:Adr)(E:XK):TS:=aC (dZ (az (mr K A) (fun _=>E) (ae (af 1) (ak)))) (aC (aE (az (pJ K A) (fun _=>E) (ae (af 0) (ae (tOp (aJ K) (af 1) (tC (.int 0))) (ae (af 2) (ae (af 3) (ak)))))) (ay 4)) (aC (aE (dX (dh K A) (fun _=>E0) (af 0) (ae (tOp (aJ K) (tOp (aJ K) (af 4) (tC (.int 0))) (tUn gG (tC (.int 1)))) (ak))) (ay 5)) (aC (bw (bc (tOp (iw K) (af 5) (tOp (aJ K) (af 1) (tC (.int 1))))) (nK A.c_Broken (vc K A) (fun _=>E) (ae (tOp (aJ K) (af 1) (tC (.int 1))) (ae (af 5) (ak)))) (bi)) (aO (dX (dh K A) (fun _=>E0) (af 0) (ae (tOp (aJ K) (tOp (aJ K) (af 4) (tC (.int 1))) (tUn gG (tC (.int 1)))) (ak)))))))
def T_7 (K:cW)(A:Adr):TS:=aC (mV K A.c_Parted (af 0) (af 1) "due") (mV K A.c_Parted (af 0) (af 2) "came")
def T_4 (K:cW)(A:Adr)(E:XK):TS:=aC (dZ (eC A.c_Desk "check_new" (rl K A) (fun _=>E) (af 0) (ae (af 1) (ak)))) (aC (aE (az (pC K A) (fun _=>E) (ae (eK K (af 0) "stamper") (ae (af 1) (ae (tOp (aJ K) (eK K (af 0) "held") (tC (.int 0))) (ae (af 2) (ak)))))) (ay 3)) (aC (bw (bc (tOp (iw K) (af 3) (tOp (aJ K) (eK K (af 0) "held") (tC (.int 1))))) (nK A.c_Parted (tW K A) (fun _=>E) (ae (tOp (aJ K) (eK K (af 0) "held") (tC (.int 1))) (ae (af 3) (ak)))) (bi)) (aC (iM K (af 0) (af 1) "held") (aO (af 1)))))
def Dh (K:cW)(A:Adr)(q0:Addr):TSM:=fg (af 5)
def wU (K:cW)(A:Adr)(q0:Addr):TSM:=bH (gQ (bc (tOp (mGt) (tOp (aJ K) (af 3) (tC (.int 0))) (tC (.int 0)))) (bH (bF (aE (tC (.bl true)) (iQ (af 2) (af 3) gI))) (bF (dZ (vQ [(2,q0)] A.c_Desk "hear" (jW K A) (af 5) (ae (af 3) (ae (bh (ae (af 4) (ak))) (ak))))))) (fH)) (Dh K A q0)
def Eo (K:cW)(A:Adr)(q0:Addr):TSM:=bH (bF (aE (gN A.c_Desk (lU K A) (fun _=>E0) (ae (af 0) (ae (af 1) (ae (iu A.t_17 ⟨352,56,352,95⟩ df [q0]) (ak))))) (ay 5))) (wU K A q0)
def CS (K:cW)(A:Adr):TS:=aO (bh (ae (tC (.str "held")) (ae (af 2) (ak))))
def vN (K:cW)(A:Adr):TS:=aC (nP (jF (ae (tCB (eI K) (ae (af 5) (ak))) (ak))) (ay 6) (bw (cG K (tOp (aJ K) (af 5) (af 6))) (aC (aE (fJ [6] (jF (ae (tC (.int 8)) (ak))) (fun _ H Q=>Q true H) (zk (tOp (bL K) (af 0) (af 1)) (tOp (bL K) (af 0) (tC (.int 7))))) (ay 7)) (aC (bw (bc (tOp (bL K) (af 6) (tC (.int 4)))) (aO (bh (ae (tC (.str "refused")) (ae (af 7) (ae (tOp (aJ K) (af 2) (tC (.int 1))) (ae (af 3) (ak))))))) (bi)) (aC (bw (bc (tOp (bL K) (af 6) (tC (.int 5)))) (aO (bh (ae (tC (.str "refused")) (ae (af 7) (ae (tOp (aJ K) (af 1) (tC (.int 1))) (ae (af 4) (ak))))))) (bi)) (aO (bh (ae (tC (.str "refused")) (ae (af 7) (ak)))))))) (bi))) (CS K A)
def LS (K:cW)(A:Adr):TS:=aC (aE (tSl (kA K) (af 0) (fj) (gU (tC (.int 4)))) (ay 5)) (aC (bw (eX (cG K (tOp (aJ K) (af 0) (tC (.int 0))))) (aE (tOp (bM K) (af 5) (dE (ae (tOp (iw K) (af 3) (tOp (aJ K) (af 2) (tC (.int 1)))) (ae (tOp (iw K) (af 4) (tOp (aJ K) (af 1) (tC (.int 1)))) (ak))))) (ay 5)) (bi)) (vN K A))
def CM (K:cW)(A:Adr)(E:XK):TS:=aC (bw (bc (tOp (nA) (af 0) (tC .non))) (gM A.c_Silent (fun _=>E)) (bi)) (aO (af 0))
def LC (K:cW)(A:Adr):TS:=aO (mZ (kG K A) A.c_Spoken "answerer" (fun _=>E0) (af 0) (ae (bh (ae (tC (.str "newest")) (ak))) (ak)))
def T_9 (K:cW)(A:Adr):TS:=aO (mZ (kG K A) A.c_Spoken "answerer" (fun _=>E0) (af 0) (ae (bh (ae (tC (.str "growth")) (ae (af 1) (ae (af 2) (ak))))) (ak)))
def T_3 (K:cW)(A:Adr)(E:XK):TS:=aC (aE (az (lq K A) (fun _=>E) (ae (eC A.c_Spoken "newest" (qm K A) (fun _=>E0) (af 1) ak) (ak))) (ay 2)) (aC (dZ (eC A.c_Desk "check_new" (rl K A) (fun _=>E) (af 0) (ae (af 2) (ak)))) (aO (eC A.c_Desk "hear" (jW K A) (fun _=>E) (af 0) (ae (af 2) (ae (az (lq K A) (fun _=>E) (ae (eC A.c_Spoken "growth" (rA K A) (fun _=>E0) (af 1) (ae (tOp (aJ K) (af 2) (tC (.int 0))) (ae (tOp (aJ K) (eK K (af 0) "held") (tC (.int 0))) (ak)))) (ak))) (ak))))))
def wC (K:cW)(A:Adr):TS:=aO (tOp (bM K) (af 1) (dE (ae (tCB (fD K) (ae (af 0) (ae (tC (.ref A.c_Silent)) (ak)))) (ae (tCB (fD K) (ae (af 0) (ae (tC (.ty "ValueError")) (ak)))) (ak)))))
def Lc (K:cW)(A:Adr):TS:=aC (aE (dE (ae (tCB (fD K) (ae (af 0) (ae (tC (.ref A.c_NoHead)) (ak)))) (ae (tCB (fD K) (ae (af 0) (ae (tC (.ref A.c_Unsealed)) (ak)))) (ae (tCB (fD K) (ae (af 0) (ae (tC (.ref A.c_Elder)) (ak)))) (ak))))) (ay 1)) (aC (aE (tOp (bM K) (af 1) (dE (ae (tCB (fD K) (ae (af 0) (ae (tC (.ref A.c_NoPaper)) (ak)))) (ae (tCB (fD K) (ae (af 0) (ae (tC (.ref A.c_Broken)) (ak)))) (ae (tCB (fD K) (ae (af 0) (ae (tC (.ref A.c_Parted)) (ak)))) (ak)))))) (ay 1)) (wC K A))
def CN (K:cW)(A:Adr):TS:=aO (bh (ae (tC (.str "refused")) (ae (az (lp K A) (fun _=>E0) (ae (af 4) (ak))) (ak))))
def Es (K:cW)(A:Adr):TS:=aC (bw (mOr (cG K (tCB (fD K) (ae (af 4) (ae (tC (.ref A.c_Broken)) (ak))))) (cG K (tCB (fD K) (ae (af 4) (ae (tC (.ref A.c_Parted)) (ak)))))) (aO (bh (ae (tC (.str "refused")) (ae (az (lp K A) (fun _=>E0) (ae (af 4) (ak))) (ae (my K (af 4) "due") (ae (my K (af 4) "came") (ak))))))) (bi)) (CN K A)
def mC (K:cW)(A:Adr):TS:=aC (bw (bc (tOp (nA) (af 4) (tC .non))) (aO (bh (ae (tC (.str "held")) (ae (af 5) (ak))))) (bi)) (Es K A)
def Li (K:cW)(A:Adr):TS:=aC (aE (tC .non) (ay 4)) (aC (aE (tC .non) (ay 5)) (aC (zp K (fun EH=>bw (bc (tOp (nA) (af 1) (tC .non))) (aE (eC A.c_Desk "hear" (jW K A) EH (af 0) (ae (af 2) (ae (af 3) (ak)))) (ay 5)) (aE (eC A.c_Desk "follow" (uk K A) EH (af 0) (ae (af 1) (ak))) (ay 5))) (hAs K A.c_StampError 6 (aE (af 6) (ay 4)) (mR)) (bi)) (mC K A)))
def vL (K:cW)(A:Adr):TS:=aO (tOp (bL K) (eK K (af 0) "held") (af 3))
def KC (K:cW)(A:Adr):TS:=aC (bw (bc (tOp (iw K) (af 2) (af 1))) (aO (tC (.bl false))) (bi)) (aC (bw (bc (tOp (bL K) (tOp (aJ K) (af 2) (tC (.int 0))) (tC (.str "held")))) (aO (er (tOp (bL K) (eK K (af 0) "held") (af 4)) (tCB (gO) (ae (eK K (af 0) "held") (ae (tC (.ty "tuple")) (ak)))))) (bi)) (vL K A))
def T_8 (K:cW)(A:Adr):TS:=iM K (af 0) (af 1) "answerer"
def CQ (K:cW)(A:Adr)(q0 q1 q2:Addr):TSM:=bH (bF (aE (iu A.t_26 ⟨344,4,349,19⟩ cN [q1,q0,q2]) (ay 3))) (fg (gN A.c_Spoken (rD K A) (fun _=>E0) (ae (af 3) (ak))))
def Ec (K:cW)(A:Adr):TSM:=fg (tOp (bL K) (az (kN K A) (fun _=>E0) (ae (tOp (aJ K) (af 0) (tC (.int 1))) (ae (gN A.c_Spoken (rD K A) (fun _=>E0) (ae (iu A.t_11 ⟨426,45,426,71⟩ cL []) (ak))) (ae (af 5) (ae (af 6) (ak)))))) (af 8))
def CU (K:cW)(A:Adr):TSM:=bH (gQ (eX (cG K (az (mT K A) (fun _=>E0) (ae (tOp (aJ K) (af 0) (tC (.int 1))) (ae (af 1) (ae (af 7) (ae (af 4) (ae (af 5) (ak))))))))) (fg (tC (.bl false))) (fH)) (Ec K A)
def qq (K:cW)(A:Adr):TSM:=bH (bF (aE (az (kN K A) (fun _=>E0) (ae (tOp (aJ K) (af 0) (tC (.int 1))) (ae (az (pS K A) (fun _=>E0) (ae (af 5) (ae (af 6) (ae (af 2) (ak))))) (ae (af 5) (ae (af 6) (ak)))))) (ay 7))) (CU K A)
def EV (K:cW)(A:Adr):TSM:=bH (bF (aE (af 3) (kJ K 3 (cx (ay 4) (cx (ay 5) (cx (ay 6) iS)))))) (bH (gQ (bc (tOp (iw K) (eK K (tOp (aJ K) (af 0) (tC (.int 0))) "held") (af 4))) (fg (tC (.bl false))) (fH)) (bH (bF (aE (az (kN K A) (fun _=>E0) (ae (tOp (aJ K) (af 0) (tC (.int 0))) (ae (tC .non) (ae (af 5) (ae (af 6) (ak)))))) (ay 7))) (bH (gQ (eX (cG K (az (mT K A) (fun _=>E0) (ae (tOp (aJ K) (af 0) (tC (.int 0))) (ae (af 1) (ae (af 7) (ae (af 4) (ae (af 5) (ak))))))))) (fg (tC (.bl false))) (fH)) (bH (bF (aE (bh (ae (tC (.str "refused")) (ae (fJ [] (jF (ae (tC (.int 8)) (ak))) (fun _ H Q=>Q true H) (tOp (mGt) (af 0) (tC (.int 5)))) (ak)))) (ay 8))) (bH (gQ (lH (bc (tOp (nA) (af 6) (tC .non))) (lH (bc (tOp (bL K) (tOp (aJ K) (af 1) (tC (.int 0))) (tC (.str "refused")))) (cG K (tOp (aJ K) (tOp (aJ K) (af 1) (tC (.int 1))) (tC (.int 3)))))) (bF (aE (af 8) (ay 1))) (fH)) (qq K A))))))
def BV (K:cW)(A:Adr):TSM:=bH (bF (aE (dE (ae (tC .non) (ae (tC (.bl true)) (ae (tC (.int 0)) (ae (tC (.int 61)) (ae (tOp (eW) (tUn gG (tC (.int 1))) (tOp (bQ) (af 1) (tOp (kc) (tC (.int 10)) (tC (.int 30))))) (ae (tOp (bM K) (tC (.int 61)) (tOp (bQ) (af 1) (tOp (kc) (tC (.int 10)) (tC (.int 30))))) (ae (tC (.str "4")) (ae (dE (ae (tC (.int 4)) (ak))) (ae (bh (ae (tC (.int 4)) (ak))) (ak))))))))))) (ay 2))) (bH (bF (aE (tC (.bl false)) (ay 3))) (bH (bF (zp K (fun EH=>dZ (gN A.c_Desk (lU K A) EH (ae (af 0) (ae (tOp (aJ K) (af 2) (tOp (bQ) (af 1) (tC (.int 9)))) (ae (iu A.t_29 ⟨361,58,361,79⟩ eQ []) (ak)))))) (hAs K A.c_NoBits 4 (aE (tCB (fD K) (ae (af 4) (ae (tC (.ref A.c_StampError)) (ak)))) (ay 3)) (mR)) (bi))) (fg (af 3))))
def Bx (K:cW)(A:Adr)(q0:Addr):TSM:=fg (er (tOp (bL K) (eC A.c_Desk "hear" (jW K A) (fun _=>E0) (tOp (aJ K) (af 15) (tC (.int 0))) (ae (af 7) (ae (af 5) (ak)))) (af 7)) (tOp (bL K) (eK K (tOp (aJ K) (af 15) (tC (.int 0))) "held") (af 7)))
def sU (K:cW)(A:Adr)(q0:Addr):TSM:=bH (bF (aE (tC (.bl true)) (iQ (af 14) (af 7) gI))) (Bx K A q0)
def ss (K:cW)(A:Adr)(q0:Addr):TSM:=bH (gQ (mOr (bc (tOp (bL K) (tOp (aJ K) (af 16) (tC (.int 0))) (tC (.str "held")))) (bc (tOp (iw K) (af 9) (af 8)))) (fg (tC (.bl true))) (fH)) (sU K A q0)
def tD (K:cW)(A:Adr)(q0:Addr):TSM:=bH (gQ (eX (cG K (az (pO K A) (fun _=>E0) (ae (af 1) (ae (az (eJ K A) (fun _=>E0) (ae (af 0) (ae (tC (.int 10)) (ak)))) (ak)))))) (fg (tC (.bl false))) (fH)) (ss K A q0)
def tz (K:cW)(A:Adr)(q0:Addr):TSM:=bH (gQ (bc (tOp (iw K) (eK K (gN A.c_Desk (lU K A) (fun _=>E0) (ae (af 1) (ae (af 2) (ae (iu A.t_59 ⟨449,42,449,63⟩ fW []) (ak))))) "held") (af 17))) (fg (tC (.bl false))) (fH)) (tD K A q0)
def sT (K:cW)(A:Adr)(q0:Addr):TSM:=bH (bF (aE (bh (ae (tC (.int 0)) (ae (dX (dh K A) (fun _=>E0) (af 1) (ae (bh (ae (tC (.str "row")) (ae (tC (.int 0)) (ae (dX (dh K A) (fun _=>E0) (af 1) (ae (bh (ae (tC (.str "void")) (ak))) (ak))) (ak))))) (ak))) (ak)))) (ay 17))) (tz K A q0)
def tM (K:cW)(A:Adr)(q0:Addr):TSM:=bH (gQ (eX (cG K (az (pU K A) (fun _=>E0) (ae (af 15) (ae (af 16) (ae (af 4) (ae (bh (ae (af 9) (ae (af 12) (ae (af 13) (ak))))) (ak)))))))) (fg (tC (.bl false))) (fH)) (sT K A q0)
def nJ (K:cW)(A:Adr)(q0:Addr):TSM:=bH (bF (aE (az (pB K A) (fun _=>E0) (ae (af 11) (ae (af 9) (ae (af 12) (ae (tOp (aJ K) (af 7) (tC (.int 1))) (ae (tOp (aJ K) (af 8) (tC (.int 1))) (ak))))))) (ay 16))) (tM K A q0)
def sw (K:cW)(A:Adr)(q0:Addr):TSM:=bH (gQ (lH (eX (cG K (tOp (aJ K) (af 11) (tC (.int 0))))) (mOr (eX (cG K (tOp (aJ K) (af 11) (tC (.int 1))))) (bc (tOp (bL K) (af 12) (af 9))))) (bH (bF (aE (tC (.bl true)) (iQ (af 14) (af 12) gI))) (bF (aE (tC (.bl false)) (iQ (af 11) (tC (.int 1)) gI)))) (fH)) (nJ K A q0)
def tG (K:cW)(A:Adr)(q0:Addr):TSM:=bH (bF (aE (dE (ae (az (mU K A) (fun _=>E0) (ae (af 1) (ae (af 2) (ae (af 14) (ae (af 9) (ae (af 10) (ak))))))) (ae (az (mU K A) (fun _=>E0) (ae (af 1) (ae (af 2) (ae (af 14) (ae (af 9) (ae (af 10) (ak))))))) (ak)))) (ay 15))) (sw K A q0)
def sW (K:cW)(A:Adr)(q0:Addr):TSM:=bH (bF (aE (iW) (ay 14))) (tG K A q0)
def tw (K:cW)(A:Adr)(q0:Addr):TSM:=bH (gQ (cG K (tOp (aJ K) (af 11) (tC (.int 3)))) (bF (aE (az (pG K A) (fun _=>E0) (ae (tOp (bO) (az (eJ K A) (fun _=>E0) (ae (af 0) (ae (tC (.int 7)) (ak)))) (tC (.int 4))) (ae (af 5) (ak)))) (ay 13))) (fH)) (sW K A q0)
def CV (K:cW)(A:Adr)(q0:Addr):TSM:=bH (bF (aE (af 5) (ay 13))) (tw K A q0)
def vY (K:cW)(A:Adr)(q0:Addr):TSM:=bH (bF (aE (az (pW K A) (fun _=>E0) (ae (af 0) (ae (af 11) (ae (af 7) (ae (af 4) (ak)))))) (ay 12))) (CV K A q0)
def Fj (K:cW)(A:Adr)(q0:Addr):TSM:=bH (bF (aE (er (tOp (aJ K) (af 11) (tC (.int 2))) (tOp (mGt) (af 4) (tC (.int 0)))) (iQ (af 11) (tC (.int 2)) gI))) (vY K A q0)
def vI (K:cW)(A:Adr)(q0:Addr):TSM:=bH (bF (aE (fJ [0] (uj (ae (tC (.int 4)) (ae (tC (.int 9)) (ak)))) (fun _ H Q=>Q true H) (tOp (bL K) (tOp (bQ) (az (eJ K A) (fun _=>E0) (ae (af 1) (ae (af 0) (ak)))) (tC (.int 4))) (tC (.int 0)))) (ay 11))) (Fj K A q0)
def De (K:cW)(A:Adr)(q0:Addr):TSM:=bH (bF (aE (az (pV K A) (fun _=>E0) (ae (af 1) (ae (az (eJ K A) (fun _=>E0) (ae (af 0) (ae (tC (.int 9)) (ak)))) (ae (af 4) (ae (tOp (aJ K) (af 6) (tC (.int 1))) (ak)))))) (vA K 2 (cx (ay 9) (cx (ay 10) iS))))) (vI K A q0)
def DR (K:cW)(A:Adr)(q0:Addr):TSM:=bH (bF (aE (bh (ae (af 4) (ae (dX (dh K A) (fun _=>E0) (af 1) (ae (bh (ae (tC (.str "row")) (ae (af 4) (ae (tOp (aJ K) (af 6) (tC (.int 1))) (ak))))) (ak))) (ak)))) (ay 8))) (De K A q0)
def wo (K:cW)(A:Adr)(q0:Addr):TSM:=bH (bF (aE (bh (ae (af 3) (ae (dX (dh K A) (fun _=>E0) (af 1) (ae (bh (ae (tC (.str "row")) (ae (af 3) (ae (tOp (aJ K) (af 6) (tC (.int 0))) (ak))))) (ak))) (ak)))) (ay 7))) (DR K A q0)
def wv (K:cW)(A:Adr)(q0:Addr):TSM:=bH (bF (aE (az (pR K A) (fun _=>E0) (ae (af 1) (ae (af 0) (ak)))) (kJ K 4 (cx (ay 3) (cx (ay 4) (cx (ay 5) (cx (ay 6) iS))))))) (wo K A q0)
def EL (K:cW)(A:Adr)(q0:Addr):TSM:=bH (bF (aE (az (pT K A) (fun _=>E0) (ae (az (eJ K A) (fun _=>E0) (ae (af 0) (ae (tC (.int 0)) (ak)))) (ak))) (ay 1))) (bH (bF (aE (tOp (bM K) (tC (.int 1)) (tOp (bQ) (az (eJ K A) (fun _=>E0) (ae (af 0) (ae (tC (.int 3)) (ak)))) (tC (.int 60)))) (ay 2))) (wv K A q0))
variable {K:cW}{mg:Str->Option tx}{A:Adr}
def tyD:Dat->String
 |.non=>"NoneType"
 |.bl _=>"bool"
 |.int _=>"int"
 |.str _=>"str"
 |.lst _=>"list"
 |.tup _=>"tuple"
 |.dic=>"dict"
def aG.ty {H:Hp}{v:V}{d:Dat}(h:aG H v d):tyN H v=some (tyD d):=by
 cases h with
 |lst e _=>unfold tyN;dsimp only;rw[e];rfl
 |tup e _=>unfold tyN;dsimp only;rw[e];rfl
 |dic e=>unfold tyN;dsimp only;obtain⟨kvs,e⟩:=e;rw[e];rfl
 |_=>rfl
mutual
theorem aG.toV {K:cW}{H:Hp}{v:V}{d:Dat}(h:aG H v d)(ok:okD d=true):dR K H v (db d):=by
 cases h with
 |non=>exact .non
 |bl b=>exact .bl b
 |int i=>exact .int i
 |str z=>exact .str z
 |lst e r=>exact .lst (SqL.of e) (DatWs.toV r ok)
 |tup e r=>exact .tup (SqT.of e) (DatWs.toV r ok)
 |dic e=>cases ok
theorem DatWs.toV {K:cW}{H:Hp}{xs:List V}{ds:List Dat}(h:DatWs H xs ds)(ok:okDs ds=true):DatVs K H xs (toPys ds):=by
 cases h with
 |nil=>exact .nil
 |cons a r=>
  have ok:(okD _&&okDs _)=true:=ok
  rw[MF]at ok
  exact .cons (aG.toV a ok.1) (DatWs.toV r ok.2)
end
def Ff {z:Str}(h:cQ z=true):Tr z=true:=by
 unfold Tr
 unfold cQ at h
 rw[Sn]at h⊢
 intro i hi
 have:=of_decide_eq_true (h i hi)
 exact decide_eq_true (by omega)
mutual
theorem cy:∀{d:Dat},okD d=true->(db d).canLay0=true
 |.non,_=>rfl
 |.bl _,_=>rfl
 |.int _,_=>rfl
 |.str z,h=>Ff (LX.mp h).1
 |.lst ds,h=>lay_toPys h
 |.tup ds,h=>lay_toPys h
theorem lay_toPys:∀{ds:List Dat},okDs ds=true->OO (toPys ds)=true
 |[],_=>rfl
 |d::r,h=>by
  have h:(okD d&&okDs r)=true:=h
  rw[MF]at h
  show((db d).canLay0&&OO (toPys r))=true
  rw[cy h.1,lay_toPys h.2];rfl
end
theorem DatWs.len {H:Hp}:∀{xs:List V}{ds:List Dat},DatWs H xs ds->xs.length=ds.length
 |_,_,.nil=>rfl
 |_,_,.cons _ r=>by rw[Mb,Mb,r.len]
theorem DatWs.get {H:Hp}:∀{xs:List V}{ds:List Dat},DatWs H xs ds->∀{i:Nat}{x:V},xs[i]? =some x->∃d,ds[i]? =some d/\aG H x d
 |_,_,.nil,i,x,e=>by cases e
 |_,_,.cons a r,i,x,e=>by
  cases i with
  |zero=>cases e;exact⟨_,rfl,a⟩
  |succ i=>exact r.get e
mutual
theorem aG.mono {H H':Hp}{v:V}{d:Dat}(s:ar H H')(h:aG H v d):aG H' v d:=by
 cases h with
 |non=>exact .non
 |bl b=>exact .bl b
 |int i=>exact .int i
 |str z=>exact .str z
 |lst e r=>exact .lst (s _ _ e) (DatWs.mono s r)
 |tup e r=>exact .tup (s _ _ e) (DatWs.mono s r)
 |dic e=>exact(let ⟨k,e⟩:=e;.dic ⟨k,s _ _ e⟩)
theorem DatWs.mono {H H':Hp}{xs:List V}{ds:List Dat}(s:ar H H')(h:DatWs H xs ds):DatWs H' xs ds:=by
 cases h with
 |nil=>exact .nil
 |cons a r=>exact .cons (aG.mono s a) (DatWs.mono s r)
end
def ixT {K:cW}{H:Hp}{Q:VK}{a:Addr}{xs:List V}{x:V}{i:Int}{j:Nat}(ha:H a=some (.tup xs))(e:i=j)(hx:xs[j]?=some x)(q:Q x H):aJ K (.ref a) (.int i) H Q:=by
 subst e
 refine .inl (.inr (.inl ⟨a,xs,j,x,rfl,rfl,SqT.of ha,?_,q⟩))
 have hj:=(Mh.mp hx).1
 rw[qN (by omega) (by omega)]
 simp[Mi,hx]
def Cy (K:cW)(A:Adr):Ln (iC K A) 1:=by rintro vs H Q E ⟨v,d,rfl,_⟩;rfl
def IJ (T:Txt K mg A)(vs:List V)(H:Hp)(Q:VK)(E:XK)(h:iC K A vs H Q E):LT K A {nx:=fun _ H'=>Q .non H',rt:=Q} (start ["thing"] vs) H:=by
 obtain⟨v,d,rfl,w,q⟩:=h
 refine⟨by decide,_,w.ty,?_⟩
 cases d
 case int i=>exact Sel.yes rfl ⟨by decide,_,w.ty,q⟩
 case bl b=>exact Sel.yes rfl ⟨by decide,_,w.ty,q⟩
 all_goals exact Sel.no rfl q
def DY (K:cW)(A:Adr):Ln (kS K A) 1:=by rintro vs H Q E ⟨v,d,rfl,_⟩;rfl
def FI (T:Txt K mg A)(vs:List V)(H:Hp)(Q:VK)(E:XK)(h:kS K A vs H Q E):LH K A {nx:=fun _ H'=>Q .non H',rt:=Q} (start ["thing"] vs) H:=by
 obtain⟨v,d,rfl,w,q⟩:=h
 refine⟨v,d,rfl,w,?_⟩
 cases w with
 |int i=>
  refine Sel.yes rfl (Sel.dec (fun h0=>⟨⟨by decide,by decide,by decide⟩,?_⟩) (fun h0=>?_))
  ·show Q (.bl (decide (i<10^((60:Int).toNat)))) H
   have e:bE (.int i)=decide (i<10^((60:Int).toNat)):=by
    show decide (0<=i/\i<10^60)=decide (i<10^60)
    by_cases h1:i<10^60
    ·rw[decide_eq_true h1,decide_eq_true ⟨h0,h1⟩]
    ·rw[decide_eq_false h1,decide_eq_false fun z=>h1 z.2]
   rw[<-e];exact q
  ·have e:bE (.int i)=false:=decide_eq_false fun z=>h0 z.1
   rw[<-e];exact q
 |non=>exact Sel.no rfl ⟨by decide,_,rfl,q⟩
 |bl b=>exact Sel.no rfl ⟨by decide,_,rfl,q⟩
 |str z=>exact Sel.no rfl ⟨by decide,_,rfl,q⟩
 |lst e r=>exact Sel.no rfl ⟨by decide,_,(aG.lst e r).ty,q⟩
 |tup e r=>exact Sel.no rfl ⟨by decide,_,(aG.tup e r).ty,q⟩
 |dic e=>exact Sel.no rfl ⟨by decide,_,(aG.dic e).ty,q⟩
def oR {x y:Str}(h1:cQ x=true)(h2:cQ y=true):cQ (x++y)=true:=by
 unfold cQ at h1 h2⊢
 show(x.cps++y.cps).all _=true
 rw[Array.all_append,h1,h2];rfl
def EU (H:Hp)(m:Key):aG H (kV m) (aV m):=by cases m<;>constructor
theorem yE:∀{a b:Key},aV a=aV b->a=b
 |.inl i,.inl j,h=>by cases h;rfl
 |.inl i,.inr j,h=>by cases h
 |.inr i,.inl j,h=>by cases h
 |.inr i,.inr j,h=>by cases h;rfl
def je {H:Hp}{ps:List Addr}{ts:List (List Key)}(h:PK H ps ts):ps.length=ts.length:=Paired.length h
def nD {k:List Key}(h:okT k=true):1<=k.length/\k.length<=8:=by
 unfold okT at h
 simp only[MF]at h
 exact of_decide_eq_true h.1.1
def iT {k:List Key}(h:okT k=true):k.all okP=true:=by
 unfold okT at h
 rw[MF]at h
 exact h.2
def oh {k:List Key}{x:Key}(h:okT k=true)(hx:x∈k):okP x=true:=Na.mp (iT h) x hx
def xX {k:List Key}(h:okT k=true):∃z r,k=.inr z::r:=by
 unfold okT at h
 simp only[MF]at h
 cases k with
 |nil=>cases h.1.2
 |cons x r=>
  cases x with
  |inl i=>cases h.1.2
  |inr z=>exact⟨z,r,rfl⟩
def yA {x:Key}(h:okP x=true):bE (aV x)=true:=by
 cases x with
 |inl i=>exact h
 |inr z=>rfl
def oN {i:Int}(h0:0<=i)(h1:i<10^60):i.natAbs.log2<1920:=by
 by_cases e:i.natAbs=0
 ·rw[e];decide
 ·refine(Sl e).mpr ?_
  have:i.natAbs<10^60:=by omega
  exact Mg this (by decide+kernel)
def gY {i:Int}(h0:0<=i)(h1:i<10^60):((toString i:String):Str).length<=61:=by
 have:i.natAbs<10^60:=by omega
 have:=int_text_length_le10 (k:=60) (by decide) this
 show(Ou _).length<=_
 rw[Rz];exact this
def iY (s:String)(h:s.length=1:=by rfl):(s:Str).length=1:=by
 show(Ou s).length=1
 rw[Rz];exact h
def oO {x:Key}(h:okP x=true):(fG x).length<=szK x:=by
 cases x with
 |inl i=>
  have h:=of_decide_eq_true h
  have:=gY h.1 h.2
  show(((toString i:String):Str)++((";":String):Str)).length<=62
  rw[NK,iY ";"];omega
 |inr z=>
  have h:=of_decide_eq_true (LX.mp h).2
  have:=gY (i:=(z.length:Int)) (by omega) (by omega)
  show(((toString (z.length:Int):String):Str)++((":":String):Str)++z).length<=z.length+62
  rw[NK,NK,iY ":"];omega
def Fz {x:Key}(h:okP x=true):szK x<=100062:=by
 cases x with
 |inl i=>show 62<=100062;decide
 |inr z=>
  have h:=of_decide_eq_true (LX.mp h).2
  show z.length+62<=100062;omega
theorem rK:∀xs:List Key,gT xs=(xs.map fG).foldr (·++·) Nl
 |[]=>rfl
 |x::r=>by show fG x++gT r=fG x++_;rw[rK r]
theorem oZ:∀{k:List Key},k.all okP=true->(gT k).length<=szT k
 |[],_=>by show Nl.length<=0;decide
 |x::r,h=>by
  rw[Qj,MF]at h
  have h1:=oO h.1
  have h2:=oZ h.2
  show(fG x++gT r).length<=((x::r).map szK).sum
  rw[NK,My,Od]
  unfold szT at h2
  omega
def kZ {x y:Str}(h1:cQ x=true)(h2:cQ y=true):cQ (x++y)=true:=oR h1 h2
def zn {z:Str}(h:∀c∈z.cps.toList,c<128):cQ z=true:=by
 unfold cQ
 rw[Sn]
 intro i hi
 exact decide_eq_true (h _ (by simp))
def AU (n:Nat):cQ ((toString (n:Int):String):Str)=true:=by
 refine zn fun c hc=>?_
 rw[W.KIN.signs_num n]at hc
 obtain⟨ch,hch,e⟩:=Nf.mp hc
 have:=digit_range (Nat.isDigit_of_mem_toDigits (by decide) (by decide) hch)
 rw[<-e];omega
def sF {i:Int}(h:0<=i):cQ ((toString i:String):Str)=true:=by
 obtain⟨n,rfl⟩:=NI h
 exact AU n
def wR {x:Key}(h:okP x=true):cQ (fG x)=true:=by
 cases x with
 |inl i=>
  have h:=of_decide_eq_true h
  exact kZ (sF h.1) (by decide+kernel)
 |inr z=>
  have h:=(LX.mp h).1
  exact kZ (kZ (sF (by omega)) (by decide+kernel)) h
theorem pd:∀{k:List Key},k.all okP=true->cQ (gT k)=true
 |[],_=>by decide+kernel
 |x::r,h=>by
  rw[Qj,MF]at h
  exact kZ (wR h.1) (pd h.2)
theorem se:∀{k:List Key},k.all okP=true->szT k<=k.length*100062
 |[],_=>by decide
 |x::r,h=>by
  rw[Qj,MF]at h
  have h1:=Fz h.1
  have h2:=se h.2
  show((x::r).map szK).sum<=_
  rw[My,Od,Mb,Nat.succ_mul]
  unfold szT at h2
  omega
theorem qU:∀{k:List Key},k.all okP=true->((k.map fG).map (·.length)).sum<=szT k
 |[],_=>by decide
 |x::r,h=>by
  rw[Qj,MF]at h
  have h1:=oO h.1
  have h2:=qU h.2
  show(((x::r).map fG).map (·.length)).sum<=((x::r).map szK).sum
  rw[My,My,Od,My,Od]
  unfold szT at h2
  omega
def Dr (K:cW)(A:Adr):Ln (mY K A) 1:=by rintro vs H Q E ⟨p,k,rfl,_⟩;rfl
def JD (T:Txt K mg A):Rd (mY K A) (Lm K A) ["thing"]:=by
 intro vs H Q E h
 obtain⟨p,k,rfl,hp,ok,q⟩:=h
 obtain⟨l1,l8⟩:=nD ok
 obtain⟨z,r,hk⟩:=xX ok
 have ty:tyN H (.ref p)=some "tuple":=by unfold tyN;dsimp only;rw[hp]
 refine⟨by decide,"tuple",ty,Sel.no rfl (.inl (.inr (.inl ⟨_,SqT.of hp,?_⟩)))⟩
 refine Sel.dec (fun h1=>?_) (fun h1=>absurd (by simp;omega) h1)
 refine Sel.ndec (fun h8=>absurd (by simp;omega) h8) (fun h8=>?_)
 refine ixT (j:=0) hp rfl (by rw[hk];rfl) ⟨by decide,"str",rfl,Sel.yes rfl ?_⟩
 refine⟨p,rfl,.inr ⟨⟨_,SqT.of hp⟩,fun D hD=>?_⟩⟩
 have hne:p≠D:=av hp hD
 have hml:(k.map kV).length=k.length:=by simp
 refine gB (fI.tuple (xs:=k.map kV) .non) (fun i ys H2=>ys=(k.take i).map (fun x=>V.bl true)/\H2=upd H D (.lst ys)) (fun i ys H2 hi ⟨_,e2⟩=>?_) ⟨rfl,rfl⟩ (fun i ys H2 hi ⟨e1,e2⟩=>?_) (fun ys H2 ⟨e1,e2⟩=>?_)
 ·rw[e2];exact SqT.of (by rw[ao hne];exact hp)
 ·subst e2
  have hi':i<k.length:=by omega
  obtain⟨x,hx⟩:∃x,k[i]?=some x:=⟨_,LV hi'⟩
  have hg:(k.map kV).getD i .non=kV x:=by rw[Mi,ME,hx];rfl
  rw[hg]
  have hs:=yA (oh ok (Mz hx))
  refine lP ⟨_,aV x,rfl,EU _ x,?_⟩
  rw[hs]
  have hyl:ys.length=i:=by rw[e1,Mf,NX];omega
  refine⟨ag,by rw[hyl];exact bU (by omega),CWd.next hi ⟨?_,fN⟩⟩
  rw[e1,Qt,MC,hx];rfl
 ·subst e2
  refine⟨D,k.map fun _=>true,rfl,by rw[ag,e1,hml,Ox,QC];rfl,?_⟩
  have:(k.map fun _=>true).all id=true:=by simp
  rw[this];exact q _ (ar.upd hD)
def DH (K:cW)(A:Adr):Ln (pQ K A) 1:=by rintro vs H Q E ⟨v,rfl,_⟩;rfl
def FV (T:Txt K mg A):Rd (pQ K A) (LP K A) ["part","signs"]:=by
 intro vs H Q E h
 obtain⟨v,rfl,hp,q⟩:=h
 cases v with
 |inl i=>
  have h:=of_decide_eq_true hp
  have l:=gY h.1 h.2
  refine⟨.int i,.int i,rfl,.int i,Sel.t ?_⟩
  have e1:Nl++((toString i:String):Str)=((toString i:String):Str):=Ta _
  have l2:(((toString i:String):Str)++((";":String):Str)).length<=sizeLine:=by rw[NK,iY ";"];exact ax (by omega)
  refine⟨oN h.1 h.2,by rw[e1];exact ax (by omega),?_,?_,?_⟩<;>rw[e1]
  ·exact l2
  ·exact l2
  ·exact q
 |inr z=>
  have h:=of_decide_eq_true (LX.mp hp).2
  have l:=gY (i:=(z.length:Int)) (by omega) (by omega)
  refine⟨.str z,.str z,rfl,.str z,Sel.f ?_⟩
  have e1:Nl++((toString (z.length:Int):String):Str)=((toString (z.length:Int):String):Str):=Ta _
  have l2:(((toString (z.length:Int):String):Str)++((":":String):Str)).length<=sizeLine:=by rw[NK,iY ":"];exact ax (by omega)
  have l3:(((toString (z.length:Int):String):Str)++((":":String):Str)++z).length<=sizeLine:=by rw[NK,NK,iY ":"];exact ax (by omega)
  refine .inl ⟨ax (by omega),oN (by omega) (by omega),by rw[e1];exact ax (by omega),?_,ax (by omega),?_,?_,?_⟩<;>rw[e1]
  ·exact l2
  ·exact l3
  ·exact l3
  ·exact q
def BJ (K:cW)(A:Adr):Ln (mE K A) 1:=by rintro vs H Q E ⟨p,k,rfl,_⟩;rfl
def IS (T:Txt K mg A):Rd (mE K A) (Ks K A) ["term"]:=by
 intro vs H Q E h
 obtain⟨p,k,rfl,hp,ok,q⟩:=h
 refine⟨p,k,rfl,hp,ok,fun H' s=>Sel.no rfl ?_⟩
 have hp':=s _ _ hp
 have hml:(k.map kV).length=k.length:=by simp
 obtain⟨l1,l8⟩:=nD ok
 refine⟨rfl,⟨p,rfl,.inr ⟨⟨_,SqT.of hp'⟩,fun D hD=>?_⟩⟩⟩
 have hne:p≠D:=av hp' hD
 refine gB (fI.tuple (xs:=k.map kV) .non) (fun i ys H2=>ys=(k.take i).map (fun x=>V.str (fG x))/\H2=upd H' D (.lst ys)) (fun i ys H2 hi ⟨_,e2⟩=>?_) ⟨rfl,rfl⟩ (fun i ys H2 hi ⟨e1,e2⟩=>?_) (fun ys H2 ⟨e1,e2⟩=>?_)
 ·rw[e2];exact SqT.of (by rw[ao hne];exact hp')
 ·subst e2
  have hi':i<k.length:=by omega
  obtain⟨x,hx⟩:∃x,k[i]?=some x:=⟨_,LV hi'⟩
  have hg:(k.map kV).getD i .non=kV x:=by rw[Mi,ME,hx];rfl
  rw[hg]
  refine lP ⟨x,rfl,oh ok (Mz hx),?_⟩
  have hyl:ys.length=i:=by rw[e1,Mf,NX];omega
  refine⟨ag,by rw[hyl];exact bU (by omega),CWd.next hi ⟨?_,fN⟩⟩
  rw[e1,Qt,MC,hx];rfl
 ·subst e2
  refine⟨"",D,k.map fG,rfl,rfl,by rw[ag,e1,hml,Ox,QC];rfl,?_,?_⟩
  ·have h1:=qU (iT ok)
   have h2:=se (iT ok)
   have e0:(("":String):Str).length=0:=by decide
   rw[e0]
   have:k.length*100062<=8*100062:=Nat.mul_le_mul_right _ l8
   omega
  ·rw[nC,<-rK]
   exact q _ (s.trans (ar.upd hD))
def IX (K:cW)(A:Adr):Ln (uD K A) 1:=by rintro vs H Q E ⟨x,dx,rfl,_⟩;rfl
def JP (T:Txt K mg A):Rd (uD K A) (T_5 K A) ["self"]:=by
 intro vs H Q E h
 obtain⟨x,dx,rfl,hx,q⟩:=h
 exact .inr fun d hd=>⟨x,A.c_Numbers,dx,[],rfl,by rw[ao (av hx hd)];exact hx,T.cl_Numbers,T.na_Numbers_given,by decide,q d hd⟩
def gZ.mono {H H':Hp}{x d:Addr}{kvs:List (List Key×V)}(s:ar H H')(n:gZ A H x d kvs):gZ A H' x d kvs:=by
 obtain⟨⟨dx,h1⟩,h2⟩:=n
 exact⟨⟨dx,s _ _ h1⟩,s _ _ h2⟩
def gZ.hide {H:Hp}{x d:Addr}{kvs:List (List Key×V)}{cs:List Addr}{cvs:List V}(hc:cK H cs cvs)(n:gZ A H x d kvs):gZ A (cp cs H) x d kvs:=by
 obtain⟨⟨dx,h1⟩,h2⟩:=n
 exact⟨⟨dx,hc.hide h1 (fun _ z=>nomatch z)⟩,hc.hide h2 (fun _ z=>nomatch z)⟩
def Jn (K:cW)(A:Adr):Ln (uw K A) 2:=by rintro vs H Q E ⟨x,d,p,kvs,k,rfl,_⟩;rfl
def Kj (T:Txt K mg A):Rd (uw K A) (T_6 K A) ["self","term"]:=by
 intro vs H Q E h
 obtain⟨x,d,a,kvs,k,rfl,nu,hl,hp,ok,q⟩:=h
 refine⟨a,k,rfl,hp,ok,fun H' s=>Sel.no rfl ?_⟩
 have ta':=s _ _ hp
 obtain⟨⟨dx,hx⟩,hd⟩:=nu.mono s
 have q:=q H' s
 have g:=fM.t hd ta'
 refine⟨x,A.c_Numbers,dx,_,.ref d,rfl,hx,T.cl_Numbers,T.na_Numbers_given,rfl,.inl ⟨d,cg kvs k,rfl,g,?_⟩⟩
 unfold jy jC at q
 cases e:cg kvs k with
 |some w=>
  rw[e]at q g
  have q:Q w H':=q
  exact Sel.no rfl ⟨x,A.c_Numbers,dx,_,.ref d,rfl,hx,T.cl_Numbers,T.na_Numbers_given,rfl,.inr ⟨d,w,rfl,g,q⟩⟩
 |none=>
  rw[e]at q g
  have q:Q (.int kvs.length) (upd H' d (.dT (bu kvs k (.int kvs.length)))):=q
  have hx':upd H' d (.dT (bu kvs k (.int kvs.length))) x=some (.ins A.c_Numbers dx [("given",.ref d)]):=by rw[ao (aF hx hd (fun z=>nomatch z))];exact hx
  have ha':upd H' d (.dT (bu kvs k (.int kvs.length))) a=some (.tup (k.map kV)):=by rw[ao (aF ta' hd (fun z=>nomatch z))];exact ta'
  refine Sel.yes rfl ⟨x,A.c_Numbers,dx,_,.ref d,rfl,hx,T.cl_Numbers,T.na_Numbers_given,rfl,.inr ⟨d,kvs,rfl,hd,x,A.c_Numbers,dx,_,.ref d,rfl,hx,T.cl_Numbers,T.na_Numbers_given,rfl,.inr ⟨d,_,rfl,.inr ⟨kvs,k,a,hd,rfl,ta',MY hl (ax (n:=50001) (by decide)),rfl⟩,?_⟩⟩⟩
  have g2:=fM.t (kvs:=bu kvs k (.int kvs.length)) (k:=k) ag ha'
  rw[jS,if_pos rfl]at g2
  exact⟨x,A.c_Numbers,dx,_,.ref d,rfl,hx',T.cl_Numbers,T.na_Numbers_given,rfl,.inr ⟨d,_,rfl,g2,q⟩⟩
def JC (T:Txt K mg A)(a0:V)(H:Hp)(Q:VK)(E:XK)(h:vt K A [a0] H Q E):Cm K A (cV ["term"] [a0] []) H Q:=h
def Hh (T:Txt K mg A)(a0 b0:V)(H:Hp)(Q:VK)(E:XK)(h:vb K A [a0,b0] H Q E):BA K A (cV ["term","numbers"] [a0] [b0]) H Q:=by
 obtain⟨x,d,p,kvs,k,e,nu,hl,hp,ok,h⟩:=h
 cases e
 obtain⟨dx,hx⟩:=nu.ob
 exact⟨x,dx,_,rfl,hx,rfl,x,d,p,kvs,k,rfl,nu,hl,hp,ok,h⟩
def CI {H:Hp}{b p:Addr}{kvs:List (List Key×V)}{kk:List Key}{d:V}(hb:H b=some (.dT kvs))(hp:H p=some (.tup (kk.map kV)))(hl:kvs.length<=50000):
  DN H b (.ref p) d (jy kvs kk d) (jC H b kvs kk d):=by
 unfold jy jC
 have g:=fM.t hb hp
 cases e:cg kvs kk with
 |some v=>rw[e]at g;exact .inl ⟨g,if_pos rfl⟩
 |none=>rw[e]at g;exact .inr ⟨g,.inr ⟨kvs,kk,p,hb,rfl,hp,MY hl (ax (n:=50001) (by decide)),if_neg (by decide)⟩,rfl⟩
def aZ.trans {P:Addr}{H H1 H2:Hp}(a:aZ P H H1)(b:aZ P H1 H2):aZ P H H2:=fun x o e n=>b x o (a x o e n) n
def aZ.new {P p:Addr}{H:Hp}{o:HO}(h:H p=none):aZ P H (upd H p o):=fun b u e _=>by rw[ao (av e h)];exact e
def aZ.tab {P:Addr}{H:Hp}{o:HO}:aZ P H (upd H P o):=fun b u e n=>by rw[ao n];exact e
def bx {H:Hp}{P q:Addr}{o:HO}(hP:H P=some o)(hq:H q=none):q≠P:=fun e=>by rw[e,hP]at hq;cases hq
def dB {H:Hp}{p q:Addr}{o:HO}(h:upd H p o q=none):q≠p/\H q=none:=by
 by_cases e:q=p
 ·subst e;rw[ag]at h;cases h
 ·rw[ao e]at h;exact⟨e,h⟩
def zO {H:Hp}{P c f q:Addr}{o1 o2:HO}{t:cz}{v:V}(hP:H P=some o1)(hc:H c=none)(hf:H f=none)(hne:c≠f)(hq:upd (upd (upd H P o2) c (bz c t.qual)) f (bN f t [q] c) q=none):
  aZ P H (upd (upd (upd (upd H P o2) c (bz c t.qual)) f (bN f t [q] c)) q (bB q v))/\da (upd (upd (upd (upd H P o2) c (bz c t.qual)) f (bN f t [q] c)) q (bB q v)) f t [q] [v]:=by
 have c1:upd H P o2 c=none:=by rw[ao (bx hP hc)];exact hc
 have f1:upd (upd H P o2) c (bz c t.qual) f=none:=by rw[ao (Md hne),ao (bx hP hf)];exact hf
 have S3:=aZ.new (P:=P) (o:=bB q v) hq
 have S2:=(aZ.new (P:=P) (o:=bN f t [q] c) f1).trans S3
 have S1:=(aZ.new (P:=P) (o:=bz c t.qual) c1).trans S2
 exact⟨aZ.tab.trans S1,⟨⟨c,S3 _ _ ag (bx hP hf),S2 _ _ ag (bx hP hc)⟩,.cons ag .nil⟩⟩
def qM:gL []:=fun p hp=>nomatch hp
def ux.of {P:Addr}{H H':Hp}{ps:Array tx}(hP:H P=some (.tbl ps))(k:aZ P H H'):ux H H':=fun b o e n=>k b o e fun z=>by subst z;rw[hP]at e;cases e;exact n _ rfl
def vS {x:Int}(h:x.natAbs<2^64):MH x<=64:=by
 unfold MH
 split
 ·decide
 ·rename_i hx
  have hx:x≠0:=by simpa using hx
  have:x.natAbs.log2<64:=(Sl (by omega)).mpr h
  omega
def BI {x y:Int}(h0:0<=x)(h:x<2^64):Tx x y:=Qe (vS (by omega))
def KD {x y:Int}(h0:0<=y)(h:y<2^64):Tx x y:=IntMulOk.of_right (vS (by omega))
def Fk {H:Hp}{P c f q0 q1:Addr}{o1 o2:HO}{t:cz}{v0 v1:V}(hP:H P=some o1)(hc:H c=none)(hf:H f=none)(hne:c≠f)(n01:q0≠q1)(h0:upd (upd (upd H P o2) c (bz c t.qual)) f (bN f t [q0,q1] c) q0=none)(h1:upd (upd (upd H P o2) c (bz c t.qual)) f (bN f t [q0,q1] c) q1=none):
  aZ P H (upd (upd (upd (upd (upd H P o2) c (bz c t.qual)) f (bN f t [q0,q1] c)) q0 (bB q0 v0)) q1 (bB q1 v1))/\da (upd (upd (upd (upd (upd H P o2) c (bz c t.qual)) f (bN f t [q0,q1] c)) q0 (bB q0 v0)) q1 (bB q1 v1)) f t [q0,q1] [v0,v1]:=by
 have c1:upd H P o2 c=none:=by rw[ao (bx hP hc)];exact hc
 have f1:upd (upd H P o2) c (bz c t.qual) f=none:=by rw[ao (Md hne),ao (bx hP hf)];exact hf
 have h1':upd (upd (upd (upd H P o2) c (bz c t.qual)) f (bN f t [q0,q1] c)) q0 (bB q0 v0) q1=none:=by rw[ao (Md n01)];exact h1
 have S4:=aZ.new (P:=P) (o:=bB q1 v1) h1'
 have S3:=(aZ.new (P:=P) (o:=bB q0 v0) h0).trans S4
 have S2:=(aZ.new (P:=P) (o:=bN f t [q0,q1] c) f1).trans S3
 have S1:=(aZ.new (P:=P) (o:=bz c t.qual) c1).trans S2
 exact⟨aZ.tab.trans S1,⟨⟨c,S3 _ _ ag (bx hP hf),S2 _ _ ag (bx hP hc)⟩,.cons (by rw[ao n01];exact ag) (.cons ag .nil)⟩⟩
def Ig (T:Txt K mg A)(a0 b0 b1:V)(H:Hp)(Q:VK)(E:XK)(h:uB K A [a0,b0,b1] H Q E):DU K A {nx:=fun _ H'=>Q .non H',rt:=Q} (cV ["_law_term","_law_step","_law_known"] [a0] [b0,b1]) H:=by
 obtain⟨p,b,j,k,kvs,e,j0,j1,hp,hb,hl,q⟩:=h
 cases e
 exact⟨.inr (.inr (.inl ⟨rfl,.inr ⟨_,hb⟩⟩)),.inr ⟨b,kvs,rfl,hb,BI j0 (by omega),b,.ref p,_,_,_,rfl,rfl,CI hb hp hl,q⟩⟩
def JA (T:Txt K mg A)(a0 b0:V)(H:Hp)(Q:VK)(E:XK)(h:tP K A [a0,b0] H Q E):Cb K A {nx:=fun _ H'=>Q .non H',rt:=Q} (cV ["_law_term","_law_total","_law_part","_law_many_here"] [a0] [b0]) H:=by
 obtain⟨p,m,k,e,h1,h2,hp,ok,q⟩:=h
 cases e
 refine .inl (.inr (.inl ⟨_,SqT.of hp,?_⟩))
 refine⟨p,rfl,.inr ⟨⟨_,SqT.of hp⟩,?_⟩⟩
 rw[Mf]
 refine Bw (xs:=k.map kV) (fun i σ H'=>H'=H/\∃x2,σ=[some (.ref p),some (.int ((k.take i).foldl mQ k.length)),x2,some (.int m)]) ⟨rfl,none,rfl⟩ ?_ ?_ ?_
 ·rintro i σ _ _ ⟨rfl,_⟩;exact SqT.of hp
 ·rintro i x σ _ hx ⟨rfl,x2,rfl⟩
  obtain⟨kk,hk,rfl⟩:=kY hx
  have okk:okP kk=true:=oh ok (Mz hk)
  have st:=ub mQ (k.length:Int) k i kk hk
  cases kk with
  |inl n=>
   refine⟨by decide,"int",rfl,Sel.no rfl ⟨Qe (by decide),rfl,some (.int n),?_⟩⟩
   rw[st];rfl
  |inr z=>
   refine⟨by decide,"str",rfl,Sel.yes rfl ⟨Qe (by decide),?_⟩⟩
   obtain⟨hz,hl⟩:=LX.mp okk
   have hl:=of_decide_eq_true hl
   refine .inl ⟨ax (by omega),rfl,some (.str z),?_⟩
   rw[st];rfl
 ·rintro σ _ ⟨rfl,x2,rfl⟩
  have e:k.take (k.map kV).length=k:=by rw[Mf,Ox]
  rw[e]
  exact⟨by omega,q⟩
def Sub.rfl' {g:gOp}:Sub g g:=fun _ _ e=>e
def Sub.trans {g g1 g2:gOp}(a:Sub g g1)(b:Sub g1 g2):Sub g g2:=fun k v e=>b k v (a k v e)
def Ext.of {g g':gOp}{h:List Key->Key}(s:Sub g g')(e:Ext g' h):Ext g h:=fun k v z=>e k v (s k v z)
def tF (kvs:List (List Key×Key))(k:List Key):cg (dc kvs) k=(eF kvs k).map kV:=by
 unfold cg dc eF
 rw[List.find?_map]
 simp only[Option.map_map]
 congr 1
def wL {kvs:List (List Key×Key)}{k:List Key}{v:Key}{x:List Key×Key}(h:eF kvs k=some v):eF (kvs++[x]) k=some v:=by
 unfold eF at h⊢
 rw[Ss]
 cases e:kvs.find? fun p=>decide (p.1=k)with
 |none=>rw[e]at h;cases h
 |some y=>rw[e]at h;exact h
def xy {kvs:List (List Key×Key)}{k:List Key}{d:Key}(h:eF kvs k=none):eF (kvs++[(k,d)]) k=some d:=by
 unfold eF at h⊢
 rw[Ss]
 cases e:kvs.find? fun p=>decide (p.1=k)with
 |none=>simp
 |some y=>rw[e]at h;cases h
def yp {kvs:List (List Key×Key)}{k:List Key}{v:Key}(h:eF kvs k=some v):cg (dc kvs) k=some (kV v):=by rw[tF,h];rfl
def xV {kvs:List (List Key×Key)}{k:List Key}{v:Key}(hs:gL kvs)(h:eF kvs k=some v):jj v:=by
 unfold eF at h
 cases e:kvs.find? fun p=>decide (p.1=k)with
 |none=>rw[e]at h;cases h
 |some y=>
  rw[e]at h
  cases h
  exact hs y (List.mem_of_find?_eq_some e)
def rT {kvs:List (List Key×Key)}{x:List Key×Key}(h:gL kvs)(hx:jj x.2):gL (kvs++[x]):=fun p hp=>by
 rcases MX.mp hp with z|z
 ·exact h p z
 ·rw[Mj.mp z];exact hx
def ng {k:List Key}{v:Key}(hk:1<=k.length)(h:jj v):vz k v:=by
 cases v with
 |inl i=>exact h
 |inr z=>
  refine⟨h.1,Mv h.2 ?_⟩
  cases k with
  |nil=>simp at hk
  |cons x r=>
   show 62<=((x::r).map szK).sum
   rw[My,Od]
   have:62<=szK x:=by cases x with
    |inl i=>exact pv 62
    |inr z=>show 62<=z.length+62;omega
   omega
def qZ {H:Hp}{b:Addr}{cs:List Addr}{cvs:List V}{kvs:List (List Key×Key)}(kk:List Key)(d:Key)(hs:gL kvs)(hd:jj d)(hb:H b=some (.dT (dc kvs)))(hc:cK H cs cvs)(H1:Hp)(S:ar (cp cs H) H1):
  ∃(kvs':List (List Key×Key))(v:Key)(H':Hp),jy (dc kvs) kk (kV d)=kV v/\cF cs H (jC H1 b (dc kvs) kk (kV d))=H'/\H' b=some (.dT (dc kvs'))/\(∀x o,x≠b->H x=some o->H' x=some o)/\kvs'.length<=kvs.length+1/\gL kvs'/\eF kvs' kk=some v/\jj v/\∀k v,eF kvs k=some v->eF kvs' k=some v:=by
 have hbc:b∉cs:=hc.notin hb fun _ z=>nomatch z
 have S2:=ar.hide cs S
 cases e:eF kvs kk with
 |some v=>
  have ev:=yp e
  refine⟨kvs,v,cF cs H H1,by unfold jy;rw[ev];rfl,?_,S2 _ _ hb,fun _ _ _ h=>S2 _ _ h,NQ _,hs,e,xV hs e,fun _ _ h=>h⟩
  unfold jC;rw[ev];rfl
 |none=>
  have ev:cg (dc kvs) kk=none:=by rw[tF,e];rfl
  refine⟨kvs++[(kk,d)],d,upd (cF cs H H1) b (.dT (dc (kvs++[(kk,d)]))),by unfold jy;rw[ev];rfl,?_,ag,fun x o n h=>by rw[ao n];exact S2 _ _ h,by simp,rT hs hd,xy e,hd,fun _ _ h=>wL h⟩
  unfold jC;rw[ev,if_neg (by decide),vM hbc,zq _ ev]
  unfold dc;rw[MC];rfl
def m0 {x:cz×Sp}{l:List (cz×Sp)}:x∈x::l:=MD
def mS {x y:cz×Sp}{l:List (cz×Sp)}(h:x∈l):x∈y::l:=Mm _ h
def aI.trans {b:Addr}{H H1 H2:Hp}(a:aI b H H1)(c:aI b H1 H2):aI b H H2:=fun x o n e=>c x o n (a x o n e)
def aI.same {b:Addr}{H H':Hp}(S:ar H H'):aI b H H':=fun x o _ e=>S x o e
def BX (K:cW)(A:Adr):Ln (qh K A) 0:=by rintro vs H Q E ⟨rfl,_⟩;rfl
def HR (T:Txt K mg A)(hnd:([]:List Addr).Nodup)(vs:List V)(H:Hp)(Q:VK)(E:XK)(h:qh K A vs H Q E):Ci K A {nx:=fun σ H'=>(∀p∈([]:List (Nat×Addr)),H' p.2=none)->Q .non (br [] σ H'),rt:=fun σ v H'=>(∀p∈([]:List (Nat×Addr)),H' p.2=none)->Q v (br [] σ H')} (L2.start [] vs) H:=by
 obtain⟨rfl,hP,q⟩:=h
 refine⟨#[],hP,trivial,.inl ⟨rfl,fun c f hc hf hne _=>?_⟩⟩
 have cP:=bx hP hc
 have fP:=bx hP hf
 have c1:∀o,upd H A.t_66 o c=none:=fun o=>by rw[ao cP];exact hc
 have f1:∀o,upd (upd H A.t_66 o) c (bz c gJ.qual) f=none:=fun o=>by rw[ao (Md hne),ao fP];exact hf
 exact q f A.t_66 _ _ (aZ.tab.trans ((aZ.new (c1 _)).trans (aZ.new (f1 _)))) (.wri ⟨⟨c,ag,(ao hne).trans ag⟩,.nil⟩ ⟨rfl,_,(ao (Md fP)).trans ((ao (Md cP)).trans ag)⟩ rfl) fun z o e h=>aF e hP (h _)
def Dt (K:cW)(A:Adr):Ln (qa K A) 0:=by rintro vs H Q E ⟨rfl,_⟩;rfl
def IM (T:Txt K mg A)(q0:Addr)(hnd:([q0]:List Addr).Nodup)(vs:List V)(H:Hp)(Q:VK)(E:XK)(h:qa K A vs H Q E):Du K A q0 {nx:=fun σ H'=>(∀p∈([(0,q0)]:List (Nat×Addr)),H' p.2=none)->Q .non (br [(0,q0)] σ H'),rt:=fun σ v H'=>(∀p∈([(0,q0)]:List (Nat×Addr)),H' p.2=none)->Q v (br [(0,q0)] σ H')} (L2.start ["numbers"] vs) H:=by
 obtain⟨rfl,hP,q⟩:=h
 intro x dx hx hdx hne
 refine⟨x,dx,rfl,ag,fun d hd=>⟨rfl,?_⟩⟩
 obtain⟨dnx,hd1⟩:=dB hd
 obtain⟨dndx,hd0⟩:=dB hd1
 have xP:=bx hP hx
 have dxP:=bx hP hdx
 have dP:=bx hP hd0
 generalize e2:upd (upd (upd (upd H dx (.own x)) x (.ins A.c_Numbers dx [])) d (.dT [])) x (.ins A.c_Numbers dx [("given",.ref d)])=H2
 have S2:aZ A.t_44 H H2:=by
  intro b o e n
  have b1:=av e hx
  have b2:=av e hdx
  have b3:=av e hd0
  rw[<-e2,ao b1,ao b3,ao b1,ao b2];exact e
 have hP2:H2 A.t_44=some (.tbl #[]):=by rw[<-e2,ao (Md xP),ao (Md dP),ao (Md xP),ao (Md dxP)];exact hP
 have hx2:H2 x=some (.ins A.c_Numbers dx [("given",.ref d)]):=by rw[<-e2,ag]
 have hd2:H2 d=some (.dT []):=by rw[<-e2,ao dnx,ag]
 refine⟨#[],hP2,trivial,.inl ⟨rfl,fun c f hc hf hne hq=>?_⟩⟩
 obtain⟨k,ca⟩:=zO (v:=.ref x) hP2 hc hf hne (hq _ (Mj.mpr rfl))
 exact q f d _ _ (S2.trans k) (.cnt q0 x [] ca ⟨⟨dx,k _ _ hx2 xP⟩,k _ _ hd2 dP⟩ (MS _) qM rfl) fun z o e _=>av e hd0
def Eu (K:cW)(A:Adr):Ln (qd K A) 1:=by rintro vs H Q E ⟨m,rfl,_⟩;rfl
def FH (T:Txt K mg A)(q0:Addr)(hnd:([q0]:List Addr).Nodup)(vs:List V)(H:Hp)(Q:VK)(E:XK)(h:qd K A vs H Q E):EG K A q0 {nx:=fun σ H'=>(∀p∈([(0,q0)]:List (Nat×Addr)),H' p.2=none)->Q .non (br [(0,q0)] σ H'),rt:=fun σ v H'=>(∀p∈([(0,q0)]:List (Nat×Addr)),H' p.2=none)->Q v (br [(0,q0)] σ H')} (L2.start ["_law_many_here","_law_stamp"] vs) H:=by
 obtain⟨m,rfl,m1,m2,hP,q⟩:=h
 refine⟨#[],hP,trivial,.inl ⟨rfl,fun c f hc hf hne hq=>?_⟩⟩
 have cP:=bx hP hc
 have fP:=bx hP hf
 have hq0:=hq _ (Mj.mpr rfl)
 obtain⟨k,ca⟩:=zO (v:=.int m) hP hc hf hne hq0
 have h3:∃ps,upd (upd (upd H A.t_40 (.tbl (#[]++#[rawInt ((261:Nat):Int),rawInt ((4:Nat):Int),.ref c]))) c (bz c fV.qual)) f (bN f fV [q0] c) A.t_40=some (.tbl ps):=⟨_,(ao (Md fP)).trans ((ao (Md cP)).trans ag)⟩
 obtain⟨ps,h3⟩:=h3
 exact q f A.t_40 _ _ k (.wea q0 m m1 m2 ca ⟨rfl,ps,(ao (av h3 hq0)).trans h3⟩ rfl) fun z o e h=>aF e hP (h _)
def Dy (K:cW)(A:Adr):Ln (qk K A) 1:=by rintro vs H Q E ⟨j,rfl,_⟩;rfl
def GP (T:Txt K mg A)(q0 q1:Addr)(hnd:([q0,q1]:List Addr).Nodup)(vs:List V)(H:Hp)(Q:VK)(E:XK)(h:qk K A vs H Q E):Fi K A q0 q1 {nx:=fun σ H'=>(∀p∈([(0,q0),(1,q1)]:List (Nat×Addr)),H' p.2=none)->Q .non (br [(0,q0),(1,q1)] σ H'),rt:=fun σ v H'=>(∀p∈([(0,q0),(1,q1)]:List (Nat×Addr)),H' p.2=none)->Q v (br [(0,q0),(1,q1)] σ H')} (L2.start ["_law_step","_law_known","_law_stamp"] vs) H:=by
 obtain⟨j,rfl,j0,j1,hP,q⟩:=h
 have n01:q0≠q1:=fun e=>by simp[e]at hnd
 refine .inr fun b hb=>?_
 have bP:b≠A.t_36:=bx hP hb
 have hP1:upd H b (.dT []) A.t_36=some (.tbl #[]):=by rw[ao (Md bP)];exact hP
 have S1:aZ A.t_36 H (upd H b (.dT [])):=aZ.new hb
 refine⟨#[],hP1,trivial,.inl ⟨rfl,fun c f hc hf hne hq=>?_⟩⟩
 obtain⟨k,ca⟩:=Fk (v0:=.int j) (v1:=.ref b) hP1 hc hf hne n01 (hq (0,q0) (by simp)) (hq (1,q1) (by simp))
 exact q f b _ _ (S1.trans k) (.sur q0 q1 j j0 j1 [] ca (k _ _ ag bP) (MS _) qM rfl) fun z o e _=>av e hb
def jO {A:Adr}{P:Addr}{H H':Hp}(t:pP A H)(hP:P∈[A.t_66,A.t_44,A.t_36,A.t_40])(k:aZ P H H'):jI A H':=by
 obtain⟨_,_,_,_,t5,t6,t7,t8,t9,nd⟩:=t
 simp only[MQ,LZ,Mp,or_false,not_or]at nd
 simp only[LZ,Mp,or_false]at hP
 obtain⟨n1,n2,n3,n4,_⟩:=nd
 rcases hP with rfl|rfl|rfl|rfl
 ·exact⟨k _ _ t5 (Md n1.2.2.2.1),k _ _ t6 (Md n1.2.2.2.2.1),k _ _ t7 (Md n1.2.2.2.2.2.1),k _ _ t8 (Md n1.2.2.2.2.2.2.1),k _ _ t9 (Md n1.2.2.2.2.2.2.2)⟩
 ·exact⟨k _ _ t5 (Md n2.2.2.1),k _ _ t6 (Md n2.2.2.2.1),k _ _ t7 (Md n2.2.2.2.2.1),k _ _ t8 (Md n2.2.2.2.2.2.1),k _ _ t9 (Md n2.2.2.2.2.2.2)⟩
 ·exact⟨k _ _ t5 (Md n3.2.1),k _ _ t6 (Md n3.2.2.1),k _ _ t7 (Md n3.2.2.2.1),k _ _ t8 (Md n3.2.2.2.2.1),k _ _ t9 (Md n3.2.2.2.2.2)⟩
 ·exact⟨k _ _ t5 (Md n4.1),k _ _ t6 (Md n4.2.1),k _ _ t7 (Md n4.2.2.1),k _ _ t8 (Md n4.2.2.2.1),k _ _ t9 (Md n4.2.2.2.2)⟩
def Dz (K:cW)(A:Adr):Ln (pT K A) 1:=by rintro vs H Q E ⟨c,rfl,_⟩;rfl
def FW (T:Txt K mg A):Rd (pT K A) (Lh K A) ["_law_cell"]:=by
 intro vs H Q E h
 obtain⟨c,rfl,tabs,q⟩:=h
 obtain⟨t1,t2,t3,t4,_⟩:=id tabs
 refine⟨by decide,Sel.dec (fun h=>?_) (fun h=>?_)⟩
 ·exact⟨rfl,t1,fun f b g H' k s=>q f b g H' (.of t1 k) (jO tabs (by simp) k) s⟩
 refine⟨by decide,Sel.dec (fun h=>?_) (fun h=>?_)⟩
 ·exact⟨rfl,t2,fun f b g H' k s=>q f b g H' (.of t2 k) (jO tabs (by simp) k) s⟩
 refine⟨by decide,Sel.dec (fun h=>?_) (fun h=>?_)⟩
 ·exact⟨⟨by decide,by decide⟩,by decide,_,rfl,by omega,by omega,t3,fun f b g H' k s=>q f b g H' (.of t3 k) (jO tabs (by simp) k) s⟩
 ·exact⟨⟨by decide,by decide⟩,by decide,_,rfl,by omega,by omega,t4,fun f b g H' k s=>q f b g H' (.of t4 k) (jO tabs (by simp) k) s⟩
def Stp.clo {H:Hp}{f b:Addr}{g:gOp}{n:Nat}(s:Stp A H f b g n):∃ts∈dh K A,∃cs cvs,da H f ts.1 cs cvs:=by
 cases s with
 |wri hc _ _=>exact⟨_,m0,_,_,hc⟩
 |cnt _ _ _ hc=>exact⟨_,mS m0,_,_,hc⟩
 |sur _ _ _ _ _ _ hc=>exact⟨_,mS (mS m0),_,_,hc⟩
 |wea _ _ _ _ hc=>exact⟨_,mS (mS (mS m0)),_,_,hc⟩
def Stp.keep {H H':Hp}{f b:Addr}{g:List Key->Option Key}{n m:Nat}(s:Stp A H f b g n)(hn:n<=m)(k:∀z o,H z=some o->(∀xs,o≠.lst xs)->((∀ps,o≠.tbl ps)\/z=b)->(z=b\/∀kvs,o≠.dT kvs)->H' z=some o):Stp A H' f b g m:=by
 have kx:∀z φ,H z=some (.ext φ)->H' z=some (.ext φ):=fun z φ e=>k z _ e (fun _ z=>nomatch z) (.inl fun _ z=>nomatch z) (.inr fun _ z=>nomatch z)
 have kd:∀xs,H b=some (.dT xs)->H' b=some (.dT xs):=fun φ e=>k b _ e (fun _ z=>nomatch z) (.inr rfl) (.inl rfl)
 cases s with
 |wri hc hb hg=>exact .wri (hc.keep kx) (hb.imp id fun⟨ps,e⟩=>⟨ps,k b _ e (fun _ z=>nomatch z) (.inr rfl) (.inl rfl)⟩) hg
 |cnt q x kvs hc num hl hs hg=>
  obtain⟨⟨dx,h1⟩,h2⟩:=num
  exact .cnt q x kvs (hc.keep kx) ⟨⟨dx,k _ _ h1 (fun _ z=>nomatch z) (.inl fun _ z=>nomatch z) (.inr fun _ z=>nomatch z)⟩,kd _ h2⟩ (Mv hl hn) hs hg
 |sur q0 q1 j j0 j1 kvs hc hb hl hs hg=>exact .sur q0 q1 j j0 j1 kvs (hc.keep kx) (kd _ hb) (Mv hl hn) hs hg
 |wea q m h1 h2 hc hb hg=>exact .wea q m h1 h2 (hc.keep kx) (hb.imp id fun⟨ps,e⟩=>⟨ps,k b _ e (fun _ z=>nomatch z) (.inr rfl) (.inl rfl)⟩) hg
def Stp.same {H H':Hp}{f b:Addr}{g:gOp}{n m:Nat}(s:Stp A H f b g n)(hn:n<=m)(S:ar H H'):Stp A H' f b g m:=s.keep hn fun b o e _ _ _=>S b o e
def eU {H:Hp}{f b p:Addr}{g:List Key->Option Key}{n:Nat}{k:List Key}{R:VK}(s:Stp A H f b g n)(hn:n<=45000)(hp:H p=some (.tup (k.map kV)))(ok:okT k=true)
  (q:∀(v:Key)(H':Hp)(g':List Key->Option Key),aI b H H'->Stp A H' f b g' (n+1)->Sub g g'->g' k=some v->vz k v->R (kV v) H'):jz (dh K A) f [.ref p] H R E0:=by
 have s0:=s
 have hk:=(nD ok).1
 have ll:∀kvs:List (List Key×Key),(dc kvs).length=kvs.length:=fun kvs=>by simp[dc]
 cases s with
 |wri hc hb hg=>
  refine⟨_,m0,_,_,hc,rfl,p,k,rfl,hc.cells.hide hp (fun _ z=>nomatch z),ok,fun H' S=>?_⟩
  have S:=ar.hide _ S
  exact q (.inr (gT k)) _ g (aI.same S) (s0.same (NQ _) S) Sub.rfl' (by rw[hg]) ⟨pd (iT ok),oZ (iT ok)⟩
 |wea c m h1 h2 hc hb hg=>
  refine⟨_,mS (mS (mS m0)),_,_,hc,rfl,p,m,k,rfl,h1,h2,hc.cells.hide hp (fun _ z=>nomatch z),ok,?_⟩
  have S:=ar.hide [c] (.refl (cp [c] H))
  have r0:=NC (k.foldl mQ k.length) (b:=m) (by omega)
  have r1:=NN (k.foldl mQ k.length) (b:=m) (by omega)
  have p60:(9:Int)<10^60:=by decide+kernel
  exact q (ul m k) _ g (aI.same S) (s0.same (NQ _) S) Sub.rfl' (by rw[hg]) (show 0<=_/\_<_ from⟨r0,by omega⟩)
 |cnt c x kvs hc num hl hs hg=>
  have p60:(50000:Int)<10^60:=by decide+kernel
  refine⟨_,mS m0,_,_,hc,rfl,x,b,p,dc kvs,k,rfl,num.hide hc.cells,by rw[ll];omega,hc.cells.hide hp (fun _ z=>nomatch z),ok,fun H' S=>?_⟩
  obtain⟨dx,hx⟩:=num.ob
  obtain⟨kvs',v,H2,ev,eH,hb',keep,hl',hs',gv,sv,sub⟩:=qZ k (.inl ((dc kvs).length:Int)) hs (show 0<=_/\_<_ from⟨by omega,by rw[ll];omega⟩) num.di hc.cells H' S
  rw[show V.int ((dc kvs).length:Int)=kV (.inl ((dc kvs).length:Int))from rfl,ev,eH]
  refine q v H2 (eF kvs') (fun x o n e=>keep x o n e)
   (.cnt c x kvs' (hc.keep fun x φ e=>keep x _ (aF e num.di (fun z=>nomatch z)) e) ⟨⟨dx,keep _ _ (aF hx num.di (fun z=>nomatch z)) hx⟩,hb'⟩ (by omega) hs' rfl) ?_ gv (ng hk sv)
  rw[hg];exact sub
 |sur q0 q1 j j0 j1 kvs hc hb hl hs hg=>
  have p60:(50000000:Int)<10^60:=by decide+kernel
  have bd:0<=j*((dc kvs).length:Int)+5/\j*((dc kvs).length:Int)+5<10^60:=by
   rw[ll]
   have h1:j*(kvs.length:Int)<=1000*45000:=Int.mul_le_mul (by omega) (by omega) (by omega) (by decide)
   have h2:0<=j*(kvs.length:Int):=Int.mul_nonneg j0 (by omega)
   omega
  obtain⟨kvs',v,H2,ev,eH,hb',keep,hl',hs',gv,sv,sub⟩:=qZ k (.inl (j*((dc kvs).length:Int)+5)) hs bd hb hc.cells _ (.refl _)
  refine⟨_,mS (mS m0),_,_,hc,rfl,p,b,j,k,dc kvs,rfl,j0,j1,hc.cells.hide hp (fun _ z=>nomatch z),hc.cells.hide hb (fun _ z=>nomatch z),by rw[ll];omega,?_⟩
  rw[show V.int (j*((dc kvs).length:Int)+5)=kV (.inl (j*((dc kvs).length:Int)+5))from rfl,ev,eH]
  refine q v H2 (eF kvs') (fun x o n e=>keep x o n e)
   (.sur q0 q1 j j0 j1 kvs' (hc.keep fun x φ e=>keep x _ (aF e hb (fun z=>nomatch z)) e) hb' (by omega) hs' rfl) ?_ gv (ng hk sv)
  rw[hg];exact sub
def bY {H:Hp}(x:Key):aG H (kV x) (aV x):=by
 cases x with
 |inl i=>exact .int i
 |inr z=>exact .str z
def ixL {K:cW}{H:Hp}{Q:VK}{a:Addr}{xs:List V}{x:V}{i:Int}{j:Nat}(ha:H a=some (.lst xs))(e:i=j)(hx:xs[j]?=some x)(q:Q x H):aJ K (.ref a) (.int i) H Q:=by
 subst e
 refine .inl (.inl ⟨a,xs,j,x,rfl,rfl,SqL.of ha,?_,q⟩)
 have hj:=(Mh.mp hx).1
 rw[qN (by omega) (by omega)]
 simp[Mi,hx]
def oY {e:Key}(h:okP e=true):bE (aV e)=true:=by
 cases e with
 |inl i=>exact h
 |inr z=>rfl
def HC:(QK " !\"#$&'()*+,-./0123456789:;<=>?@ABCDEFGHIJKLMNOPQRSTUVWXYZ[\\]^_`"+QK "abcdefghijklmnopqrstuvwxyz{|}~")<=1000000:=by decide+kernel
def sg1:Str:=" !\"#$&'()*+,-./0123456789:;<=>?@ABCDEFGHIJKLMNOPQRSTUVWXYZ[\\]^_`"
def sg2:Str:="abcdefghijklmnopqrstuvwxyz{|}~"
def EX:(sg1++sg2).length=94/\(sg1++sg2).cps.toList.length=94/\(sg1++sg2).cps.toList.all (·<128)=true:=by decide+kernel
def yf {zs:List Str}(h:∀z∈zs,cQ z=true):cQ (Txt.join "" zs)=true:=by
 rw[nC]
 induction zs with
 |nil=>decide+kernel
 |cons z r ih=>exact oR (h z MD) (ih fun y hy=>h y (Mm _ hy))
def Cc (K:cW)(A:Adr):Ln (eJ K A) 2:=by rintro vs H Q E ⟨a,ns,k,rfl,_⟩;rfl
def Jr (T:Txt K mg A):Rd (eJ K A) (Lz K A) ["_law_script","_law_k"]:=by
 intro vs H Q E h
 obtain⟨a,ns,k,rfl,hs,h0,q⟩:=h
 refine .inl (.inl ⟨_,hs,Sel.dec (fun h=>?_) (fun h=>q 0)⟩)
 obtain⟨v,hv⟩:=wG h0 h
 obtain⟨j,_,hj,_⟩:=iU hv
 obtain⟨z,_,rfl⟩:=kY hj
 exact .inl (.inl ⟨a,_,k,_,rfl,rfl,hs,hv,q z⟩)
def DG (K:cW)(A:Adr):Ln (qi K A) 1:=by rintro vs H Q E ⟨i,rfl,_⟩;rfl
def HA (T:Txt K mg A):Rd (qi K A) (KR K A) ["_law_cell","_law_some"]:=by
 intro vs H Q E h
 obtain⟨c,rfl,q⟩:=h
 obtain⟨g1,g2,g3⟩:=EX
 refine⟨ax HC,?_⟩
 show wB K A _ [some (.int c),some (.str (sg1++sg2))] H
 refine⟨rfl,by decide,c%5,rfl,by omega,by omega,fun D hD=>?_⟩
 refine gB (fI.range (lo:=0) (n:=(c%5).toNat)) (fun i ys H2=>∃zs:List Str,ys=zs.map V.str/\zs.length=i/\(∀z∈zs,z.length=1/\cQ z=true)/\H2=upd H D (.lst ys)) (fun _ _ _ _ _=>trivial) ⟨[],rfl,rfl,(fun _ h=>nomatch h),rfl⟩ (fun i ys H2 hi ⟨zs,e1,e2,e3,e4⟩=>?_) ?_
 ·subst e4
  refine lP ⟨⟨by decide,by decide⟩,⟨by decide,by decide⟩,by decide,KD (by omega) (by omega),by decide,?_⟩
  generalize (c/5+_:Int)=w
  obtain⟨cc,hcc⟩:=wG (xs:=(sg1++sg2).cps.toList) (i:=w%94) (by omega) (by rw[g2];omega)
  refine .inl (.inr (.inr ⟨_,_,cc,rfl,rfl,by rw[g1];exact ax (by decide),hcc,?_⟩))
  have hyl:ys.length=i:=by rw[e1,Mf,e2]
  refine⟨ag,by rw[hyl];exact bU (by omega),CWd.next hi ⟨zs++[⟨#[cc]⟩],by rw[e1,MC];rfl,by rw[Mr,e2];rfl,fun z hz=>?_,fN⟩⟩
  rcases MX.mp hz with h|h
  ·exact e3 z h
  ·rw[Mj.mp h]
   refine⟨rfl,?_⟩
   obtain⟨j,_,hj,_⟩:=iU hcc
   have:=of_decide_eq_true (Na.mp g3 cc (Mz hj))
   unfold cQ
   simp
   omega
 ·rintro ys H2 ⟨zs,rfl,e2,e3,rfl⟩
  have hl:(Txt.join "" zs).length=zs.length:=yC zs fun z hz=>(e3 z hz).1
  refine⟨_,_,zs,rfl,rfl,ag,?_,q _ _ (ar.upd hD) (by rw[hl];omega) (yf fun z hz=>(e3 z hz).2)⟩
  have e0:(("":String):Str).length=0:=by decide
  rw[e0,lS zs fun z hz=>(e3 z hz).1]
  omega
def Fx (K:cW)(A:Adr):Ln (kR K A) 1:=by rintro vs H Q E ⟨i,rfl,_⟩;rfl
def Hn (T:Txt K mg A):Rd (kR K A) (LG K A) ["_law_cell"]:=by
 intro vs H Q E h
 obtain⟨c,rfl,q⟩:=h
 have p60:(7:Int)<10^60:=by decide+kernel
 have num:∀i:Int,0<=i->i<10^60->Q (.int i) H:=fun i h0 h1=>q (.inl i) H (.refl _) ⟨decide_eq_true ⟨h0,h1⟩,show 62<=70 by decide⟩
 refine⟨by decide,Sel.dec (fun h=>?_) (fun h=>?_)⟩
 ·refine⟨by decide,_,rfl,fun z H' S hz ha=>q (.inr z) H' S ⟨?_,?_⟩⟩
  ·show(cQ z&&decide (z.length<=100000))=true
   rw[ha,decide_eq_true (by omega)];rfl
  ·show z.length+62<=70
   omega
 refine⟨by decide,Sel.dec (fun h=>?_) (fun h=>?_)⟩
 ·refine⟨by decide,⟨by decide,by decide,by decide⟩,by decide+kernel,?_⟩
  have p:(0:Int)<10^60:=by decide+kernel
  exact num (c/4%10^60) (NC _ (RW p)) (NN _ p)
 ·exact⟨by decide,by decide,num (c/4%7) (by omega) (by omega)⟩
def jf {K:cW}{H:Hp}{Q:VK}{L:Addr}{qs:List V}{p:V}(hL:H L=some (.lst (qs++[p])))(q:Q p H):aJ K (.ref L) (.int (-1)) H Q:=
 .inl (.inl ⟨L,_,-1,p,rfl,rfl,SqL.of hL,rF _ _,q⟩)
def mq {w:Str}{r:List Key}(hw:okP (.inr w)=true)(hr:∀x∈r,okP x=true)(hl:r.length<=7):okT (.inr w::r)=true:=by
 show(decide (1<=r.length+1/\r.length+1<=8)&&true&&(okP (.inr w)&&r.all okP))=true
 rw[hw,Na.mpr hr,decide_eq_true (by omega)];rfl
def gj {k:List Key}{v:Key}(h:vz k v):szK v<=szT k+62:=by
 cases v with
 |inl i=>exact Nat.le_add_left _ _
 |inr z=>exact Nat.add_le_add_right h.2 _
def eV {k:List Key}{v:Key}(h:vz k v)(hs:szT k<=100000):okP v=true:=by
 cases v with
 |inl i=>exact decide_eq_true h
 |inr z=>
  show(cQ z&&decide (z.length<=100000))=true
  rw[h.1,decide_eq_true (Mv h.2 hs)];rfl
def okW:okP (.inr "void")=true/\okP (.inr "entry")=true/\okP (.inr "joint")=true/\okP (.inr "row")=true:=by decide+kernel
def szW:szK (.inr "void")=66/\szK (.inr "entry")=67/\szK (.inr "joint")=67/\szK (.inr "row")=65:=by decide+kernel
def sz1 (x:Key):szT [x]=szK x:=by simp[szT]
def sz3 (x y z:Key):szT [x,y,z]=szK x+(szK y+szK z):=by simp[szT]
def kr {x y:Key}(hx:okP x=true)(hy:okP y=true):okT [.inr "joint",x,y]=true:=mq okW.2.2.1 (fun z hz=>by
 rcases LZ.mp hz with h|h
 ·rw[h];exact hx
 ·rw[Mj.mp h];exact hy) (show 2<=7 by decide)
def Bu {k:Nat}(h1:1<=k)(h2:k<=59):(2:Int)<=2^k/\(2:Int)^k<=2^59:=by
 have a:(2:Nat)^1<=2^k:=NU (by decide) h1
 have b:(2:Nat)^k<=2^59:=NU (by decide) h2
 rw[<-uU k];omega
def il {m:Nat}(h:2<=m):aT m<m:=by
 have:=Pj (n:=m- 1) (by omega)
 unfold aT;omega
def iA {m:Nat}(h:2<=m):m<=2*aT m:=by
 have:=Nat.lt_log2_self (n:=m- 1)
 unfold aT;rw[Nat.pow_succ]at this;omega
def jX {m e:Nat}(h:2<=m)(he:m<=2^e):∃k,aT m=2^k/\k<e:=by
 refine⟨Pf (m- 1),rfl,?_⟩
 have h1:=Pj (n:=m- 1) (by omega)
 exact(OV (by decide:1<2)).mp (by omega:2^Pf (m- 1)<2^e)
def gl {m e:Nat}(h:2<=m)(he:m<=2^(e+1)):aT m<=2^e:=by
 obtain⟨k,e1,hk⟩:=jX h he
 rw[e1];exact NU (by decide) (by omega)
def EB (K:cW)(A:Adr):Ln (pK K A) 1:=by rintro vs H Q E ⟨m,rfl,_⟩;rfl
def Jf (T:Txt K mg A)(vs:List V)(H:Hp)(Q:VK)(E:XK)(h:pK K A vs H Q E):JY K A {nx:=fun _ H'=>Q .non H',rt:=Q} (start ["many"] vs) H:=by
 obtain⟨m,rfl,h2,h60,q⟩:=h
 obtain⟨k,ek,hk⟩:=jX h2 h60
 have e:(MH ((m:Int)- 1):Int)- 1=((Pf (m- 1):Nat):Int):=by
  unfold MH
  rw[if_neg (by simp;omega)]
  have:((m:Int)- 1).natAbs=m- 1:=by omega
  rw[this];omega
 have hl:Pf (m- 1)<60:=by
  have h1:=Pj (n:=m- 1) (by omega)
  exact(OV (by decide:1<2)).mp (by omega:2^Pf (m- 1)<2^60)
 refine⟨rfl,?_⟩
 show((0<=(MH ((m:Int)- 1):Int)- 1/\_/\_)/\Q (.int (1*2^((MH ((m:Int)- 1):Int)- 1).toNat)) H)
 rw[e]
 refine⟨⟨by omega,by omega,by decide⟩,?_⟩
 rw[Int.one_mul,Oq,<-uU]
 exact q
def DP (K:cW)(A:Adr):Ln (nl K A) 3:=by rintro vs H Q E ⟨t,o,a,rfl,_⟩;rfl
def JE (T:Txt K mg A):Rd (nl K A) (Kk K A) ["turn","own","aside"]:=by
 intro vs H Q E h
 obtain⟨t,o,a,rfl,q⟩:=h
 unfold jtT at q
 refine Sel.dec (fun h=>⟨ax (show 3<=1000000 by decide),fun p hp=>?_⟩) (fun h=>⟨ax (show 3<=1000000 by decide),fun p hp=>?_⟩)
 ·rw[if_pos h]at q;exact q p hp
 ·rw[if_neg h]at q;exact q p hp
def jt:okT [.inr "void"]=true:=mq okW.1 (fun _ h=>nomatch h) (by decide)
def Stp.bb {H:Hp}{f b:Addr}{g:gOp}{n:Nat}(s:Stp A H f b g n):(∃φ,H b=some (.tbl φ))\/∃kvs,H b=some (.dT kvs):=by
 cases s with
 |wri hc hb hg=>exact .inl hb.2
 |cnt q x kvs hc num hl hs hg=>exact .inr ⟨_,num.di⟩
 |sur q0 q1 j h0 h1 kvs hc hb hl hs hg=>exact .inr ⟨_,hb⟩
 |wea q m h1 h2 hc hb hg=>exact .inl hb.2
def Stp.nb {H:Hp}{f b z:Addr}{g:gOp}{n:Nat}{o:HO}(s:Stp A H f b g n)(h:H z=some o)(h1:∀φ,o≠.tbl φ)(h2:∀kvs,o≠.dT kvs):z≠b:=by
 rcases s.bb with⟨φ,e⟩|⟨kvs,e⟩
 ·exact aF h e (h1 φ)
 ·exact aF h e (h2 kvs)
section
def Ext.refl' (g:gOp):Ext g (fun k=>(g k).getD (.inl 0)):=fun k v e=>by show(g k).getD _=v;rw[e];rfl
def okC {c:Nat}(h:c<2^60):okP (.inl (c:Int))=true:=by
 have p60:(2:Int)^60<10^60:=by decide+kernel
 have k:∀i:Int,0<=i->i<10^60->okP (.inl i)=true:=fun i h0 h1=>decide_eq_true ⟨h0,h1⟩
 exact k _ (by omega) (by omega)
def zR {t:Int}{v a:Key}(hv:okP v=true)(ha:okP a=true):okT (jtT t v a)=true:=by
 unfold jtT;split
 ·exact kr hv ha
 ·exact kr ha hv
def zH {t:Int}{v a:Key}:szT (jtT t v a)=67+szK v+szK a:=by
 unfold jtT;split
 ·rw[sz3,szW.2.2.1];omega
 ·rw[sz3,szW.2.2.1];omega
def Cr {c:Nat}{st:List (Int×Key)}{i B:Nat}{v:Key}(hc:c<2^60)(hm:∀x∈st,enK x.2)(ov:okP v=true)(sv:szK v<=B+62):okT (cY c st i v)=true/\szT (cY c st i v)<=B+200:=by
 unfold cY
 cases e:st[i]? with
 |some x=>
  have hx:=hm x (Mz e)
  exact⟨zR ov hx.1,by rw[zH];have:=hx.2;omega⟩
 |none=>
  refine⟨mq okW.2.2.2 (fun z hz=>?_) (show 2<=7 by decide),?_⟩
  ·rcases LZ.mp hz with rfl|hz
   ·exact okC hc
   ·rw[Mj.mp hz];exact ov
  ·show szT [.inr "row",.inl (c:Int),v]<=_
   rw[sz3,szW.2.2.2];show 65+(62+szK v)<=_;omega
def sM {ts:List Int}{ks:List Key}{x:Int×Key}(h:x∈stR ts ks):x.1∈ts/\x.2∈ks:=by
 unfold stR at h
 rw[SQ]at h
 obtain⟨a,b⟩:=x
 exact⟨(Nm h).1,(Nm h).2⟩
variable {A:Adr}
end
def PK.keep {H H':Hp}{ps:List Addr}{tt:List (List Key)}(h:PK H ps tt)(k:∀x xs,H x=some (.tup xs)->H' x=some (.tup xs)):PK H' ps tt:=Paired.mapP h fun p t ⟨h1,h2⟩=>⟨k _ _ h1,h2⟩
theorem fB {α β:Type}{F:α->β->Prop}:∀{l₁:List α}{l₂:List β}{a:α}{b:β},Paired F l₁ l₂->F a b->Paired F (l₁++[a]) (l₂++[b])
 |_,_,_,_,.nil,h=>.cons h .nil
 |_,_,_,_,.cons r t,h=>.cons r (fB t h)
def aI.tup {H H':Hp}{f b:Addr}{g:gOp}{n:Nat}(s:Stp A H f b g n)(k:aI b H H'):∀x xs,H x=some (.tup xs)->H' x=some (.tup xs):=fun x xs e=>k _ _ (s.nb e (fun _ z=>nomatch z) (fun _ z=>nomatch z)) e
theorem ol {H:Hp}{p:Addr}{t:List Key}:∀{ps:List Addr}{tt:List (List Key)},ps.length=tt.length->PK H (ps++[p]) (tt++[t])->H p=some (.tup (t.map kV))/\okT t=true
 |[],[],_,.cons h _=>h
 |_::_,_::_,hl,.cons _ r=>ol (Nat.succ.inj hl) r
 |[],_::_,hl,_=>nomatch hl
 |_::_,[],hl,_=>nomatch hl
def tN {H:Hp}{p:Addr}{t:List Key}{ps:List Addr}{tt:List (List Key)}(h:PK H (ps++[p]) (tt++[t])):ps.length=tt.length:=by
 have:=je h
 simp at this;exact this
def LadQ.last {tt:List (List Key)}{m:Nat}(h:tt.length=m+1):∃r t,tt=r++[t]:=by
 cases e:tt.reverse with
 |nil=>have:=congrArg QU e;rw[NY,h]at this;simp at this
 |cons x r=>exact⟨r.reverse,x,by rw[<-RU tt,e,NS]⟩
def rG {H:Hp}{ps:List Addr}{r:List (List Key)}{t:List Key}(h:PK H ps (r++[t])):∃qs p,ps=qs++[p]/\PK H (qs++[p]) (r++[t]):=by
 have hl:=je h
 cases e:ps.reverse with
 |nil=>have:=congrArg QU e;rw[NY,hl]at this;simp at this
 |cons x q=>
  have e2:ps=q.reverse++[x]:=by rw[<-RU ps,e,NS]
  exact⟨_,_,e2,by rw[<-e2];exact h⟩
def Hb (K:cW)(A:Adr):Ln (vc K A) 3:=by rintro vs H Q E ⟨a,x,y,rfl,_⟩;rfl
def LU (T:Txt K mg A):Rd (vc K A) (T_0 K A) ["self","due","came"]:=by
 intro vs H Q E h
 obtain⟨a,x,y,rfl,ha,q⟩:=h
 refine⟨a,rfl,T.ef_Broken_due,.inl ⟨ha,fun dx hdx ne=>?_⟩⟩
 refine⟨a,rfl,T.ef_Broken_came,.inr ⟨dx,_,by rw[ao (Md ne)];exact ag,ag,ne,by show 1<1000;decide,?_⟩⟩
 exact q dx hdx
def iH {K:cW}{H:Hp}{Q:VK}{a b:Key}(q:Q (.bl (!decide (a=b))) H):iw K (kV a) (kV b) H Q:=by
 cases a<;>cases b
 ·rename_i i j
  have e:decide ((OZ i:Key)=OZ j)=decide (i=j):=by simp
  rw[e]at q;exact q
 ·have e:∀(i:Int)(j:Str),decide ((OZ i:Key)=OX j)=false:=by simp
  rw[e]at q;exact q
 ·have e:∀(i:Int)(j:Str),decide ((OX j:Key)=OZ i)=false:=by simp
  rw[e]at q;exact q
 ·rename_i i j
  have e:decide ((OX i:Key)=OX j)=decide (i=j):=by simp
  rw[e]at q;exact q
def oP (xs:List V)(j:Nat)(hj:j<=xs.length):fv xs none (some (j:Int))=xs.take j:=by
 unfold fv
 rw[HT.tI,HT.lZ,PN,RS,Tv hj]
def lL (xs:List V)(j:Nat)(hj:j<=xs.length):fv xs (some (j:Int)) none=xs.drop j:=by
 unfold fv
 rw[HT.tI,HT.lZ,Tv hj,List.take_of_length_le (by rw[QG];omega)]
def aI.obj {H H':Hp}{b x:Addr}{o:HO}(k:aI b H H')(hb:(∃φ,H b=some (.tbl φ))\/∃kvs,H b=some (.dT kvs))(e:H x=some o)(h:∀kvs,o≠.dT kvs)(h2:∀φ,o≠.tbl φ:=by intro _ z;cases z):H' x=some o:=k _ _ (fun z=>by
 subst z
 rcases hb with⟨φ,hb⟩|⟨kvs,hb⟩
 ·rw[e]at hb;exact h2 _ (LW hb)
 ·rw[e]at hb;exact h _ (LW hb)) e
def Stp.setL {H:Hp}{f b P:Addr}{g:gOp}{n:Nat}{xs ys:List V}(s:Stp A H f b g n)(hP:H P=some (.lst xs)):Stp A (upd H P (.lst ys)) f b g n:=s.keep (pv _) fun z o e h1 _ _=>by rw[ao (aF e hP (h1 _))];exact e
def CO (K:cW)(A:Adr):Ln (md K A) 1:=by rintro vs H Q E ⟨v,d,rfl,_⟩;rfl
def FK (T:Txt K mg A):Rd (md K A) (Kd K A) ["thing"]:=by
 intro vs H Q E h
 obtain⟨v,d,rfl,w,q⟩:=h
 refine⟨_,d,rfl,w,?_⟩
 cases w with
 |int i=>
  refine Sel.yes rfl (Sel.dec (fun h0=>⟨by decide,?_⟩) (fun h0=>?_))
  ·show Q (.bl (decide (i<1*2^(60:Int).toNat))) H
   have e:cA (.int i)=decide (i<1*2^(60:Int).toNat):=by
    show decide (0<=i/\i<2^60)=decide (i<1*2^60)
    by_cases h1:i<2^60
    ·rw[decide_eq_true ⟨h0,h1⟩,decide_eq_true (by omega)]
    ·rw[decide_eq_false fun z=>h1 z.2,decide_eq_false (by omega)]
   rw[<-e];exact q
  ·have e:cA (.int i)=false:=decide_eq_false fun z=>h0 z.1
   rw[<-e];exact q
 |non=>exact Sel.no rfl q
 |bl b=>exact Sel.no rfl q
 |str z=>exact Sel.no rfl q
 |lst e r=>exact Sel.no rfl q
 |tup e r=>exact Sel.no rfl q
 |dic e=>exact Sel.no rfl q
def oI {d:Dat}(h:cA d=true):∃c:Nat,d=.int (c:Int)/\c<2^60:=by
 cases d with
 |int i=>
  obtain⟨h0,h1⟩:0<=i/\i<2^60:=of_decide_eq_true h
  exact⟨i.toNat,by rw[Qa h0],by omega⟩
 |non=>cases h
 |bl b=>cases h
 |str z=>cases h
 |lst e=>cases h
 |tup e=>cases h
 |dic=>cases h
def aG.int_inv {H:Hp}{v:V}{i:Int}(w:aG H v (.int i)):v=.int i:=by cases w;rfl
def Dx (K:cW)(A:Adr):Ln (ql K A) 2:=by rintro vs H Q E ⟨v,d,w,e,rfl,_⟩;rfl
def HY (T:Txt K mg A):Rd (ql K A) (Ka K A) ["count","elder"]:=by
 intro vs H Q E h
 obtain⟨v,d,w,e,rfl,hd,he,q⟩:=h
 refine⟨v,d,rfl,hd,?_⟩
 unfold dS at q
 cases hc:cA d with
 |false=>rw[hc]at q;exact Sel.f q
 |true=>
  rw[hc]at q
  obtain⟨c,rfl,c2⟩:=oI hc
  cases hd.int_inv
  refine Sel.t ⟨w,e,rfl,he,?_⟩
  cases he with
  |int i=>
   refine Sel.yes rfl (Sel.dec (fun h0=>?_) (fun h0=>?_))
   ·show Q (.bl (decide (i<=(c:Int)))) H
    have ee:decide (0<=i/\i<=(c:Int))=decide (i<=(c:Int)):=by
     by_cases h1:i<=(c:Int)
     ·rw[decide_eq_true ⟨h0,h1⟩,decide_eq_true h1]
     ·rw[decide_eq_false fun z=>h1 z.2,decide_eq_false h1]
    rw[<-ee];exact q
   ·have ee:decide (0<=i/\i<=(c:Int))=false:=decide_eq_false fun z=>h0 z.1
    rw[<-ee];exact q
  |non=>exact Sel.no rfl q
  |bl b=>exact Sel.no rfl q
  |str z=>exact Sel.no rfl q
  |lst e r=>exact Sel.no rfl q
  |tup e r=>exact Sel.no rfl q
  |dic e=>exact Sel.no rfl q
def wj {d e:Dat}(h:dS d e=true):∃c el:Nat,d=.int (c:Int)/\e=.int (el:Int)/\el<=c/\c<2^60:=by
 unfold dS at h
 obtain⟨h1,h2⟩:=LX.mp h
 obtain⟨h3,h4⟩:=LX.mp h1
 obtain⟨c,rfl,c2⟩:=oI h3
 cases e with
 |int i=>
  obtain⟨a,b⟩:0<=i/\i<=(c:Int):=of_decide_eq_true h2
  exact⟨c,i.toNat,rfl,by rw[Qa a],by omega,c2⟩
 |non=>cases h4
 |bl b=>cases h4
 |str z=>cases h4
 |lst e=>cases h4
 |tup e=>cases h4
 |dic=>cases h4
def qY {i:Int}(h0:0<=i)(h1:i<2^60):cA (.int i)=true:=decide_eq_true ⟨h0,h1⟩
def vZ {c e:Int}(h0:0<=e)(h1:e<=c)(h2:c<2^60):dS (.int c) (.int e)=true:=by
 unfold dS
 rw[qY (by omega) h2]
 show decide (0<=e/\e<=c)=true
 exact decide_eq_true ⟨h0,h1⟩
def qr {c el:Nat}(h1:el<=c)(h2:c<2^60):dS (.int (c:Int)) (.int (el:Int))=true:=vZ (by omega) (by omega) (by omega)
def Ca (K:cW)(A:Adr):Ln (pM K A) 1:=by rintro vs H Q E ⟨v,d,rfl,_⟩;rfl
def Ia (T:Txt K mg A):Rd (pM K A) (JR K A) ["thing"]:=by
 intro vs H Q E h
 obtain⟨v,d,rfl,w,q⟩:=h
 cases w with
 | @tup a xs ds ea r=>
   have ty:tyN H (.ref a)=some "tuple":=by unfold tyN;dsimp only;rw[ea]
   refine⟨by decide,"tuple",ty,Sel.t (.inl (.inr (.inl ⟨_,SqT.of ea,?_⟩)))⟩
   have hl:=r.len
   by_cases h2:ds.length=2
   ·refine Sel.yes (decide_eq_true (by omega)) ?_
    cases r with
    |nil=>cases h2
    |cons r1 r=>
    cases r with
    |nil=>cases h2
    |cons r2 r=>
    cases r with
    |cons r3 r=>simp at h2
    |nil=>
    refine ixT (j:=0) ea rfl rfl ⟨_,_,rfl,r1,?_⟩
    refine Sel.mk (fun hc=>?_) (fun hc=>?_)
    ·refine ixT (j:=1) ea rfl rfl ⟨_,_,rfl,r2,?_⟩
     have q:Q (.bl (cA _&&bE _)) H:=q
     rw[hc,Rx]at q;exact q
    ·have q:Q (.bl (cA _&&bE _)) H:=q
     rw[hc,Tw]at q;exact q
   ·refine Sel.no (decide_eq_false (by omega)) ?_
    have e:cm (.tup ds)=false:=by
     match ds,h2 with
     |[],_=>rfl
     |[_],_=>rfl
     |[_,_],h=>exact absurd rfl h
     |_::_::_::_,_=>rfl
    rw[e]at q;exact q
 |int i=>exact⟨by decide,_,rfl,Sel.f q⟩
 |non=>exact⟨by decide,_,rfl,Sel.f q⟩
 |bl b=>exact⟨by decide,_,rfl,Sel.f q⟩
 |str z=>exact⟨by decide,_,rfl,Sel.f q⟩
 |lst e r=>exact⟨by decide,_,(aG.lst e r).ty,Sel.f q⟩
 |dic e=>exact⟨by decide,_,(aG.dic e).ty,Sel.f q⟩
def Ee (K:cW)(A:Adr):Ln (mr K A) 1:=by rintro vs H Q E ⟨v,d,rfl,_⟩;rfl
def Iv (T:Txt K mg A)(vs:List V)(H:Hp)(Q:VK)(E:XK)(h:mr K A vs H Q E):EF K A E {nx:=fun _ H'=>Q .non H',rt:=Q} (L2.start ["thing"] vs) H:=by
 obtain⟨v,d,rfl,w,q1,q2⟩:=h
 refine⟨v,d,rfl,w,?_⟩
 cases e:cm d with
 |true=>exact Sel.f (q1 e)
 |false=>exact Sel.t (q2 e)
def Cd (K:cW)(A:Adr):Ln (qg K A) 2:=by rintro vs H Q E ⟨n,v,d,rfl,_⟩;rfl
def Jq (T:Txt K mg A):Rd (qg K A) (Kc K A) ["many","thing"]:=by
 intro vs H Q E h
 obtain⟨n,v,d,rfl,w,sh,q⟩:=h
 cases w with
 | @tup p xs ds hp r=>
   have ty:tyN H (.ref p)=some "tuple":=by unfold tyN;dsimp only;rw[hp]
   have hl:=r.len
   have l5:ds.length<=500:=sh
   refine⟨by decide,"tuple",ty,Sel.t (.inl (.inr (.inl ⟨_,SqT.of hp,?_⟩)))⟩
   have q:∀H',ar H H'->Q (.bl (decide ((ds.length:Int)=n)&&ds.all bE)) H':=q
   refine Sel.dec (fun hn=>?_) (fun hn=>?_)
   ·rw[decide_eq_true (show(ds.length:Int)=n by rw[<-hl];exact hn)]at q
    refine⟨p,rfl,.inr ⟨⟨_,SqT.of hp⟩,fun D hD=>?_⟩⟩
    have hne:p≠D:=av hp hD
    refine gB (fI.tuple (xs:=xs) .non) (fun i ys H2=>ys=(ds.take i).map (fun x=>V.bl (bE x))/\H2=upd H D (.lst ys)) (fun i ys H2 hi ⟨_,e2⟩=>?_) ⟨rfl,rfl⟩ (fun i ys H2 hi ⟨e1,e2⟩=>?_) (fun ys H2 ⟨e1,e2⟩=>?_)
    ·rw[e2];exact SqT.of (by rw[ao hne];exact hp)
    ·subst e2
     obtain⟨x,hx⟩:∃x,xs[i]? =some x:=⟨_,LV hi⟩
     obtain⟨dx,hdx,wx⟩:=r.get hx
     have hg:xs.getD i .non=x:=by rw[Mi,hx];rfl
     rw[hg]
     refine lP ⟨_,dx,rfl,wx.mono (ar.upd hD),?_⟩
     have hyl:ys.length=i:=by rw[e1,Mf,NX];omega
     refine⟨ag,by rw[hyl];exact bU (by omega),CWd.next hi ⟨?_,fN⟩⟩
     rw[e1,Qt,MC,hdx];rfl
    ·subst e2
     rw[hl,Ox]at e1
     refine⟨D,ds.map bE,rfl,by rw[ag,e1,QC];rfl,?_⟩
     have e:(ds.map bE).all id=ds.all bE:=by rw[RG];rfl
     have:=q _ (ar.upd (o:=.lst ys) hD)
     rw[Rx,<-e]at this
     exact this
   ·rw[decide_eq_false (show ¬(ds.length:Int)=n by rw[<-hl];exact hn)]at q
    exact q H (.refl H)
 |int i=>exact⟨by decide,_,rfl,Sel.f (q H (.refl H))⟩
 |non=>exact⟨by decide,_,rfl,Sel.f (q H (.refl H))⟩
 |bl b=>exact⟨by decide,_,rfl,Sel.f (q H (.refl H))⟩
 |str z=>exact⟨by decide,_,rfl,Sel.f (q H (.refl H))⟩
 |lst e r=>exact⟨by decide,_,(aG.lst e r).ty,Sel.f (q H (.refl H))⟩
 |dic e=>exact⟨by decide,_,(aG.dic e).ty,Sel.f (q H (.refl H))⟩
def ED (K:cW)(A:Adr):Ln (qe K A) 1:=by rintro vs H Q E ⟨c,rfl,_⟩;rfl
def HV (T:Txt K mg A)(vs:List V)(H:Hp)(Q:VK)(E:XK)(h:qe K A vs H Q E):Lg K A {nx:=fun _ H'=>Q .non H',rt:=Q} (start ["_law_cell"] vs) H:=by
 obtain⟨c,rfl,q⟩:=h
 have q':∀i:Int,0<=i->i<2^60->Q (.int i) H:=fun i h0 h1=>by
  have:=q i.toNat (by omega)
  rwa [Qa h0]at this
 refine⟨by decide,?_⟩
 refine Sel.dec (fun h=>?_) (fun h=>?_)
 ·exact⟨⟨by decide,by decide⟩,by decide,q' _ (by omega) (by omega)⟩
 ·refine⟨by decide,?_⟩
  refine Sel.dec (fun h=>?_) (fun h=>?_)
  ·refine⟨⟨by decide,by decide⟩,by decide,⟨by omega,by omega,by decide⟩,⟨by decide,by decide⟩,by decide,?_⟩
   have b:=Bu (k:=(1+c/3%59).toNat) (by omega) (by omega)
   generalize (1+c/3%59).toNat=k at b⊢
   show Q (.int (1*2^k+c/177%4- 1)) H
   exact q' _ (by omega) (by omega)
  ·refine⟨⟨by decide,by decide⟩,⟨by decide,by decide,by decide⟩,by decide,?_⟩
   show Q (.int (c/3%(1*2^60))) H
   exact q' _ (by omega) (by omega)
def JV {b L:Addr}{H:Hp}(bb:(∃φ,H b=some (.tbl φ))\/∃kvs,H b=some (.dT kvs))(h:H L=none):b≠L:=by
 rintro rfl
 rcases bb with⟨φ,e⟩|⟨kvs,e⟩<;>(rw[h]at e;cases e)
def AV {b p2 L:Addr}{H H1 H2 H3:Hp}{o:HO}(S1:ar H H1)(S2:ar H1 H2)(kb:aI b H2 H3)(bb:(∃φ,H2 b=some (.tbl φ))\/∃kvs,H2 b=some (.dT kvs))(hp2:H3 p2=none)(hL:upd H3 p2 o L=none)(hb:b≠L):H L=none:=by
 obtain⟨n,h3⟩:=dB hL
 cases e:H L with
 |none=>rfl
 |some u=>rw[kb L u (Md hb) (S2 _ _ (S1 _ _ e))]at h3;cases h3
theorem nG {H:Hp}:∀{xs:List V}{ks:List Key},DatWs H xs (ks.map aV)->xs=ks.map kV
 |[],[],_=>rfl
 |_::_,[],h=>nomatch h
 |[],_::_,h=>nomatch h
 |x::xs,k::ks,h=>by
  cases h with
  |cons a r=>
   have e:x=kV k:=by
    cases k with
    |inl i=>cases a;rfl
    |inr z=>cases a;rfl
   rw[e,nG r];rfl
theorem fw {H:Hp}:∀ks:List Key,DatWs H (ks.map kV) (ks.map aV)
 |[]=>.nil
 |k::r=>.cons (bY k) (fw r)
def dN.at {H:Hp}{m:V}{k:Dat}{n:Nat}{ks:List Key}(M:dN k n ks)(w:aG H m k):∃P,m=.ref P/\H P=some (.tup (ks.map kV)):=by
 rw[M.e]at w
 cases w with
 |tup e r=>exact⟨_,rfl,by rw[e,nG r]⟩
def dN.ok {k:Dat}{n:Nat}{ks:List Key}(M:dN k n ks):∀x∈ks,okP x=true:=fun x hx=>by
 rcases M.en with h|⟨y,rfl,h⟩
 ·exact(h x hx).1
 ·rw[Mj.mp hx];exact h.1
def dN.yes {k:Dat}{n:Nat}{ks:List Key}(M:dN k n ks):cC n k=true:=by
 rw[M.e]
 show(decide (((ks.map aV).length:Int)=(n:Int))&&(ks.map aV).all bE)=true
 rw[Mf,M.l,decide_eq_true rfl,Rx,RG,Na]
 exact fun x hx=>oY (M.ok x hx)
def Ep (K:cW)(A:Adr):Ln (nk K A) 1:=by rintro vs H Q E ⟨m,rfl,_⟩;rfl
def FY (T:Txt K mg A)(vs:List V)(H:Hp)(Q:VK)(E:XK)(h:nk K A vs H Q E):JS K A {nx:=fun _ H'=>Q .non H',rt:=Q} (start ["_law_many_here"] vs) H:=by
 obtain⟨m,rfl,h2,h60,q⟩:=h
 obtain⟨k,ek,hk⟩:=jX h2 h60
 have e:(MH ((m:Int)- 1):Int)- 1=((Pf (m- 1):Nat):Int):=by
  unfold MH
  rw[if_neg (by simp;omega)]
  have:((m:Int)- 1).natAbs=m- 1:=by omega
  rw[this];omega
 have hl:Pf (m- 1)<60:=by
  have h1:=Pj (n:=m- 1) (by omega)
  exact(OV (by decide:1<2)).mp (by omega:2^Pf (m- 1)<2^60)
 refine⟨rfl,?_⟩
 show((0<=(MH ((m:Int)- 1):Int)- 1/\_/\_)/\Q (.int (1*2^((MH ((m:Int)- 1):Int)- 1).toNat)) H)
 rw[e]
 refine⟨⟨by omega,by omega,by decide⟩,?_⟩
 rw[Int.one_mul,Oq,<-uU]
 exact q
def eB {f c el:Nat}(h:el=0\/c<=el):grF f c el=[]:=by
 cases f with
 |zero=>rfl
 |succ f=>rw[grF,if_pos h]
def ia {f c el:Nat}(h:¬(el=0\/c<=el)):grF (f+1) c el=if el<=aT c then 0::grF f (aT c) el else 1::grF f (c- aT c) (el- aT c):=by rw[grF,if_neg h]
theorem rf:∀f c el,(grF f c el).length<=f
 |0,_,_=>pv _
 |f+1,c,el=>by
  rw[grF]
  split
  ·exact MS _
  ·split
   ·have:=rf f (aT c) el;simp;omega
   ·have:=rf f (c- aT c) (el- aT c);simp;omega
theorem qT:∀(f c el:Nat),∀t∈grF f c el,t=0\/t=1
 |0,_,_,t,h=>nomatch h
 |f+1,c,el,t,h=>by
  rw[grF]at h
  split at h
  ·cases h
  ·split at h
   ·rcases LZ.mp h with rfl|h
    ·exact .inl rfl
    ·exact qT f _ _ t h
   ·rcases LZ.mp h with rfl|h
    ·exact .inr rfl
    ·exact qT f _ _ t h
def FA (K:cW)(A:Adr):Ln (pH K A) 2:=by rintro vs H Q E ⟨c,e,rfl,_⟩;rfl
def GD (T:Txt K mg A):Rd (pH K A) (Ly K A) ["count","elder","turns","early","rest","ahead"]:=by
 intro vs H Q E h
 obtain⟨c,el,rfl,ec,c2,q⟩:=h
 refine⟨MS _,fun L hL=>?_⟩
 have q':=q L hL
 refine⟨fun e σ H'=>∃(acc:List Int)(d r:Nat)(x5:Option V),σ=[some (.int (c:Int)),some (.int (el:Int)),some (.ref L),some (.int (d:Int)),some (.int (r:Int)),x5]/\H'=upd H L (.lst (acc.map V.int))/\acc++grF e r d=bj c el/\d<=r/\r<=2^e/\acc.length+e=60,
  ⟨60,[],el,c,none,rfl,rfl,by rw[Tg],ec,c2,rfl⟩,?_⟩
 rintro e σ H' ⟨acc,d,r,x5,rfl,rfl,ht,hd,hr,hl⟩
 have fin:(d=0\/r<=d)->Q (.ref L) (upd H L (.lst (acc.map V.int))):=fun h=>by
  rw[eB h,MU]at ht
  rw[ht];exact q'
 have lt:(acc.map V.int).length<sizeLine:=by rw[Mf];exact bU (by omega)
 have ap:∀t:Int,upd (upd H L (.lst (acc.map V.int))) L (.lst (acc.map V.int++[.int t]))=upd H L (.lst ((acc++[t]).map V.int)):=fun t=>by rw[fN,MC];rfl
 refine Sel.dec (fun h0=>?_) (fun h0=>?_)
 ·refine dI (Sel.dec (fun h1=>?_) (fun h1=>?_))
  ·have h2:2<=r:=by omega
   have b1:=il h2
   have b2:=iA h2
   cases e with
   |zero=>simp at hr;omega
   |succ e=>
   have b3:=gl h2 hr
   have c60:r<=2^60:=Mv hr (NU (by decide) (by omega))
   rw[ia (by omega)]at ht
   refine⟨fun σ H'=>∃(acc:List Int)(d r:Nat)(x5:Option V),σ=[some (.int (c:Int)),some (.int (el:Int)),some (.ref L),some (.int (d:Int)),some (.int (r:Int)),x5]/\H'=upd H L (.lst (acc.map V.int))/\acc++grF e r d=bj c el/\d<=r/\r<=2^e/\acc.length+e=60,fun σ' H' hh=>⟨e,by omega,hh⟩,?_⟩
   refine⟨r,rfl,h2,c60,Sel.dec (fun h=>?_) (fun h=>?_)⟩
   ·rw[if_pos (by omega)]at ht
    refine⟨.inl ⟨rfl,_,SqL.of ag⟩,L,_,_,rfl,rfl,ag,lt,?_⟩
    exact⟨acc++[0],d,aT r,_,rfl,ap 0,by rw[OS];exact ht,by omega,b3,by rw[Mr];show _+1+_=_;omega⟩
   ·rw[if_neg (by omega)]at ht
    refine⟨.inl ⟨rfl,_,SqL.of ag⟩,L,_,_,rfl,rfl,ag,lt,?_⟩
    refine⟨acc++[1],d- aT r,r- aT r,some (.int ((aT r:Nat):Int)),?_,ap 1,by rw[OS];exact ht,by omega,by omega,by rw[Mr];show _+1+_=_;omega⟩
    rw[Of (by omega),Of (by omega)];rfl
  ·exact fin (.inr (by omega))
 ·exact fin (.inl (by omega))
def iV {c:Nat}{y:Key}(hc:c<2^60)(hy:okP y=true):okT [.inr "row",.inl (c:Int),y]=true:=mq okW.2.2.2 (fun z hz=>by
 rcases LZ.mp hz with rfl|hz
 ·exact okC hc
 ·rw[Mj.mp hz];exact hy) (show 2<=7 by decide)
def CP (K:cW)(A:Adr):Ln (kX K A) 1:=by rintro vs H Q E ⟨f,b,g,n,rfl,_⟩;rfl
def Iz (T:Txt K mg A):Rd (kX K A) (Lj K A) ["stamper"]:=by
 intro vs H Q E h
 obtain⟨f,b,g,n,rfl,s,hn,q⟩:=h
 refine⟨ax (show 1<=1000000 by decide),fun p1 hp1=>?_⟩
 have S1:ar H (upd H p1 (.tup [.str "void"])):=ar.upd hp1
 have s1:=s.same (pv _) S1
 have hp11:upd H p1 (.tup [.str "void"]) p1=some (.tup (([.inr "void"]:List Key).map kV)):=ag
 generalize upd H p1 (.tup [.str "void"])=H1 at S1 s1 hp11
 refine⟨f,rfl,s1.clo,ax (show 1<=1000000 by decide),fun p0 hp0=>?_⟩
 have S2:ar H1 (upd H1 p0 (.tup [.str "void"])):=ar.upd hp0
 have s2:=s1.same (pv _) S2
 have hk2:upd H1 p0 (.tup [.str "void"]) p0=some (.tup (([.inr "void"]:List Key).map kV)):=ag
 generalize upd H1 p0 (.tup [.str "void"])=H2 at S2 s2 hk2
 dsimp only[ak]
 refine eU s2 (by omega) hk2 jt fun w H3 g3 kb s3 sub3 gv st=>⟨ax (show 3<=1000000 by decide),fun p2 hp2=>⟨ax (show 2<=1000000 by decide),fun L hL=>?_⟩⟩
 have S4:ar H3 (upd (upd H3 p2 (.tup [.str "row",.int 0,kV w])) L (.lst [.ref p1,.ref p2])):=(ar.upd hp2).trans (ar.upd hL)
 have okv:=eV st (by rw[sz1,szW.1];decide)
 refine q L [p1,p2] w g3 _ (((aI.same S1).trans (aI.same S2)).trans (kb.trans (aI.same S4))) (s3.same (pv _) S4) sub3 gv okv (Mv (gj st) (by rw[sz1,szW.1];decide)) ag (.cons ⟨?_,jt⟩ (.cons ⟨?_,iV (c:=0) (by decide) okv⟩ .nil)) (AV S1 S2 kb s2.bb hp2 hL (JV s3.bb (dB hL).2))
 ·exact S4 _ _ (kb.obj s2.bb (S2 _ _ hp11) (fun _ z=>nomatch z))
 ·rw[ao (Md (dB hL).1)];exact ag
def jL {ts:List Int}{ds:List Key}(h:ds.length=ts.length+1):(stR ts ds).length=ts.length:=by unfold stR;simp[Pq,h]
def xn {ts:List Int}{ds:List Key}(h:ds.length=ts.length+1){i:Nat}(hi:i<ts.length):∃t k,ts[ts.length- 1- i]?=some t/\ds[ts.length- 1- i]?=some k/\(stR ts ds)[i]?=some (t,k):=by
 refine⟨ts[ts.length- 1- i]'(by omega),ds[ts.length- 1- i]'(by omega),LV (by omega),LV (by omega),?_⟩
 unfold stR
 rw[Ps (by rw[Pq];omega)]
 have e:(ts.zip ds).length- 1- i=ts.length- 1- i:=by rw[Pq];omega
 rw[e,LV (by rw[Pq];omega),List.getElem_zip]
def Bi {ts:List Int}{ks ds:List Key}(h:dl ts 0 ks.length ks=ds.map some):dn ts ks=ds:=by
 unfold dn;rw[h,QC]
 have:((fun x:Option Key=>x.getD (.inl 0))∘some)=id:=rfl
 rw[this,List.map_id]
structure Dg (ts:List Int)(ks acc:List Key)(i lo hi:Nat):Prop where
 al:acc.length=i
 hl:hi<=ks.length
 w:hi=lo+(ts.length- i)+1
 eq:acc.map some++dl (ts.drop i) lo hi ks=dl ts 0 ks.length ks
def Dg.start {ts:List Int}{ks:List Key}(h:ks.length=ts.length+1):Dg ts ks [] 0 0 ks.length:=⟨rfl,pv _,by omega,by rw[PN];rfl⟩
def Dg.one {ts:List Int}{ks acc:List Key}{i lo hi:Nat}{k:Key}(d:Dg ts ks acc i lo hi)(ht:ts[i]?=some 1)(hk:ks[lo]?=some k):Dg ts ks (acc++[k]) (i+1) (lo+1) hi:=by
 have hi':=(Mh.mp ht).1
 have e:ts.drop i=1::ts.drop (i+1):=by rw[Rj hi',(Mh.mp ht).2]
 refine⟨by rw[Mr,d.al];rfl,d.hl,by have:=d.w;omega,?_⟩
 rw[<-d.eq,e,dl,if_pos rfl,hk,MC,OS];rfl
def Dg.nul {ts:List Int}{ks acc:List Key}{i lo hi:Nat}{k:Key}{t:Int}(d:Dg ts ks acc i lo hi)(ht:ts[i]?=some t)(t1:t≠1)(hk:ks[hi- 1]?=some k):Dg ts ks (acc++[k]) (i+1) lo (hi- 1):=by
 have hi':=(Mh.mp ht).1
 have e:ts.drop i=t::ts.drop (i+1):=by rw[Rj hi',(Mh.mp ht).2]
 refine⟨by rw[Mr,d.al];rfl,by have:=d.hl;omega,by have:=d.w;omega,?_⟩
 rw[<-d.eq,e,dl,if_neg t1,hk,MC,OS];rfl
def Dg.done {ts:List Int}{ks acc:List Key}{i lo hi:Nat}{k:Key}(d:Dg ts ks acc i lo hi)(hi':i=ts.length)(hk:ks[lo]?=some k):dn ts ks=acc++[k]:=by
 subst hi'
 refine Bi ?_
 rw[<-d.eq,List.drop_length,dl,hk,MC];rfl
def Dg.lo {ts:List Int}{ks acc:List Key}{i lo hi:Nat}(d:Dg ts ks acc i lo hi)(h:ks.length=ts.length+1)(hi':i<=ts.length):lo<ks.length/\1<=hi/\hi- 1<ks.length:=by
 have:=d.hl;have:=d.w;omega
def BG (K:cW)(A:Adr):Ln (pI K A) 2:=by rintro vs H Q E ⟨L,P,ts,ks,rfl,_⟩;rfl
def GK (T:Txt K mg A):Rd (pI K A) (KJ K A) ["turns","marks","steps","first","last","turn"]:=by
 intro vs H Q E h
 obtain⟨L,P,ts,ks,rfl,hL,hP,kl,tl,t01,q⟩:=h
 refine⟨MS _,fun D hD=>?_⟩
 have S1:ar H (upd H D (.lst [])):=ar.upd hD
 have hD1:upd H D (.lst []) D=some (.lst (([]:List Addr).map V.ref)):=ag
 generalize upd H D (.lst [])=H1 at S1 hD1
 refine .inl (.inr (.inl ⟨_,SqT.of (S1 _ _ hP),?_⟩))
 rw[Mf]
 refine⟨L,rfl,.inl ⟨⟨_,SqL.of (S1 _ _ hL)⟩,?_⟩⟩
 refine qx (xs:=ts.map V.int) (fun i σ H'=>∃(acc:List Key)(ps:List Addr)(lo hi:Nat)(x5:Option V),σ=[some (.ref L),some (.ref P),some (.ref D),some (.int (lo:Int)),some (.int ((hi:Int)- 1)),x5]/\ar H H'/\H' D=some (.lst (ps.map V.ref))/\ps.length=i/\Dg ts ks acc i lo hi/\∀(j:Nat)(p:Addr)(t:Int)(k:Key),ps[j]?=some p->ts[j]?=some t->acc[j]?=some k->H' p=some (.tup [.int t,kV k]))
  ⟨[],[],0,ks.length,none,rfl,S1,hD1,rfl,Dg.start kl,fun j p t k h=>nomatch h⟩ ?_ ?_ ?_
 ·rintro i σ H' _ ⟨_,_,_,_,_,_,S,_⟩;exact SqL.of (S _ _ hL)
 ·rintro i x σ H' hx ⟨acc,ps,lo,hi,x5,rfl,S,hD',pl,d,hp⟩
  obtain⟨t,ht,rfl⟩:=kY hx
  have hi':=(Mh.mp ht).1
  obtain⟨b1,b2,b3⟩:=d.lo kl (by omega)
  have lt:(ps.map V.ref).length<sizeLine:=by rw[Mf,pl];exact bU (by omega)
  have al:=d.al
  have nx:∀(k:Key)(p7:Addr),H' p7=none->∀(lo' hi':Nat),Dg ts ks (acc++[k]) (i+1) lo' hi'->ar H (upd (upd H' p7 (.tup [.int t,kV k])) D (.lst (ps.map V.ref++[.ref p7])))/\upd (upd H' p7 (.tup [.int t,kV k])) D (.lst (ps.map V.ref++[.ref p7])) D=some (.lst ((ps++[p7]).map V.ref))/\(ps++[p7]).length=i+1/\∀(j:Nat)(p:Addr)(t':Int)(k':Key),(ps++[p7])[j]?=some p->ts[j]?=some t'->(acc++[k])[j]?=some k'->upd (upd H' p7 (.tup [.int t,kV k])) D (.lst (ps.map V.ref++[.ref p7])) p=some (.tup [.int t',kV k']):=by
   intro k p7 hp7 lo' hi' d'
   have Dn:p7≠D:=Md (av hD' hp7)
   refine⟨fun z u ez=>?_,by rw[ag,MC];rfl,by rw[Mr,pl];rfl,fun j p t' k' h1 h2 h3=>?_⟩
   ·rw[ao (av ez hD)];exact ar.upd hp7 _ _ (S _ _ ez)
   ·rcases Nat.lt_trichotomy j i with hj|hj|hj
    ·rw[MT (by omega)]at h1 h3
     have:=hp j p t' k' h1 h2 h3
     rw[ao (aF this hD' (fun z=>nomatch z))]
     rw[ao (av this hp7)];exact this
    ·subst hj
     rw[MK (by omega),pl,QD]at h1
     rw[MK (by omega),al,QD]at h3
     cases h1;cases h3
     rw[ht]at h2;cases h2
     rw[ao Dn];exact ag
    ·rw[Nu (by rw[Mr,pl];show i+1<=j;omega)]at h1;cases h1
  refine Sel.dec (fun h=>?_) (fun h=>?_)
  ·have h:t=0:=h
   obtain⟨k,hk⟩:∃k,ks[hi- 1]?=some k:=⟨_,LV b3⟩
   refine⟨.inl ⟨rfl,_,SqL.of hD'⟩,ixT (j:=hi- 1) (S _ _ hP) (by omega) (by rw[ME,hk];rfl) ⟨ax (show 2<=1000000 by decide),fun p7 hp7=>⟨D,_,_,rfl,rfl,ar.upd hp7 _ _ hD',lt,?_⟩⟩⟩
   have d':=d.nul ht (by omega) hk
   obtain⟨a1,a2,a3,a4⟩:=nx k p7 hp7 lo (hi- 1) d'
   refine⟨acc++[k],ps++[p7],lo,hi- 1,some (.int t),?_,a1,a2,a3,d',a4⟩
   rw[Of (by omega)];rfl
  ·have h:¬t=0:=h
   have t1:t=1:=(t01 t (Mz ht)).resolve_left h
   obtain⟨k,hk⟩:∃k,ks[lo]?=some k:=⟨_,LV b1⟩
   refine⟨.inl ⟨rfl,_,SqL.of hD'⟩,ixT (j:=lo) (S _ _ hP) rfl (by rw[ME,hk];rfl) ⟨ax (show 2<=1000000 by decide),fun p7 hp7=>⟨D,_,_,rfl,rfl,ar.upd hp7 _ _ hD',lt,?_⟩⟩⟩
   have d':=d.one (t1▸ht) hk
   obtain⟨a1,a2,a3,a4⟩:=nx k p7 hp7 (lo+1) hi d'
   exact⟨acc++[k],ps++[p7],lo+1,hi,_,rfl,a1,a2,a3,d',a4⟩
 ·rintro σ H' ⟨acc,ps,lo,hi,x5,rfl,S,hD',pl,d,hp⟩
  rw[Mf]at d pl
  obtain⟨b1,b2,b3⟩:=d.lo kl (by omega)
  obtain⟨k,hk⟩:∃k,ks[lo]?=some k:=⟨_,LV b1⟩
  have ed:=d.done rfl hk
  have al:=d.al
  have em:inM ts ks=k:=by
   unfold inM;rw[ed,MK (by omega),al,QD];rfl
  have dlen:(dn ts ks).length=ts.length+1:=by rw[ed,Mr,al];rfl
  refine ixT (j:=lo) (S _ _ hP) rfl (by rw[ME,hk];rfl) ⟨D,_,rfl,SqL.of hD',fun Z hZ=>⟨ax (show 2<=1000000 by decide),fun R hR=>?_⟩⟩
  have S2:=(ar.upd (o:=.lst (ps.map V.ref).reverse) hZ).trans (ar.upd (o:=.tup [kV k,.ref Z]) hR)
  refine q R Z ps.reverse _ (S.trans S2) (by rw[ag,em]) (by rw[ar.upd hR _ _ ag,List.map_reverse]) (by rw[NY,pl]) fun j p x h1 h2=>?_
  have hj:j<ts.length:=by
   have:=(Mh.mp h1).1
   rw[NY,pl]at this;exact this
  obtain⟨tn,m,g1,g2,g3⟩:=xn dlen hj
  have h2:(stR ts (dn ts ks))[j]?=some x:=h2
  rw[g3]at h2
  cases h2
  rw[Ps (by omega),pl]at h1
  rw[ed,MT (by omega)]at g2
  exact S2 _ _ (hp _ _ _ _ h1 g1 g2)
def nB (h:List Key->Key)(c:Int)(m:Key)(st:List (Int×Key)):Nat->Key
 |0=>m
 |i+1=>h (gf h c m st i)
def gC (h:List Key->Key)(c:Int)(m:Key)(st:List (Int×Key))(i:Nat):gf h c m st i=cY c st i (nB h c m st i):=by cases i<;>rfl
def jJ (h:List Key->Key)(c:Int)(m:Key)(st:List (Int×Key))(k:Nat):kQ h c m st (k+1)=kQ h c m st k++[gf h c m st k]:=by
 unfold kQ;rw[Tf,MC];rfl
structure Gy (A:Adr)(H H':Hp)(f b Y O:Addr)(c:Nat)(m:Key)(st:List (Int×Key))(iy io:Nat)(g g':gOp)(n:Nat)(py po:List Addr)(ty to:List (List Key))(v u:Key):Prop where
 kb:aI b H H'
 s:Stp A H' f b g' (n+iy+io)
 sub:Sub g g'
 nY:H Y=none
 nO:H O=none
 yo:Y≠O
 hY:H' Y=some (.lst (py.map V.ref))
 hO:H' O=some (.lst (po.map V.ref))
 ky:PK H' py ty
 ko:PK H' po to
 ly:ty.length=iy
 lo:to.length<=io
 ov:okP v=true
 sv:szK v<=200*iy+13000
 ou:okP u=true
 su:szK u<=200*io+13000
 sy:∀k∈ty,szT k<=40000
 so:∀k∈to,szT k<=40000
 eq:∀h,Ext g' h->ty=kQ h c m st iy/\v=nB h c m st iy/\to=(dC h m st io).1/\u=(dC h m st io).2
section
variable {H H':Hp}{f b Y O:Addr}{c:Nat}{m:Key}{st:List (Int×Key)}{iy io:Nat}{g g':gOp}{n:Nat}{py po:List Addr}{ty to:List (List Key)}{v u:Key}{R:VK}
def Gy.nb (l:Gy A H H' f b Y O c m st iy io g g' n py po ty to v u):Y≠b/\O≠b:=⟨l.s.nb l.hY (fun _ z=>nomatch z) (fun _ z=>nomatch z),l.s.nb l.hO (fun _ z=>nomatch z) (fun _ z=>nomatch z)⟩
def Gy.young (l:Gy A H H' f b Y O c m st iy io g g' n py po ty to v u)(hc:c<2^60)(hm:∀x∈st,enK x.2)(i60:iy<=60)(o60:io<=60)(hn:n<=40000){p7:Addr}(hp7:H' p7=none)
  (q:∀(v':Key)(H8:Hp)(g8:gOp),(∀z o,z≠b->z≠Y->H' z=some o->H8 z=some o)->Gy A H H8 f b Y O c m st (iy+1) io g g8 n (py++[p7]) po (ty++[cY c st iy v]) to v' u->R (kV v') H8):
  jz (dh K A) f [.ref p7] (upd (upd H' p7 (.tup ((cY c st iy v).map kV))) Y (.lst (py.map V.ref++[.ref p7]))) R E0:=by
 obtain⟨nYb,nOb⟩:=l.nb
 have Y7:p7≠Y:=Md (av l.hY hp7)
 have hY7:upd H' p7 (.tup ((cY c st iy v).map kV)) Y=some (.lst (py.map V.ref)):=ar.upd hp7 _ _ l.hY
 have kx:∀z o,z≠Y->H' z=some o->upd (upd H' p7 (.tup ((cY c st iy v).map kV))) Y (.lst (py.map V.ref++[.ref p7])) z=some o:=fun z o nz ez=>by rw[ao nz];exact ar.upd hp7 _ _ ez
 have s7:Stp A (upd (upd H' p7 (.tup ((cY c st iy v).map kV))) Y (.lst (py.map V.ref++[.ref p7]))) f b g' (n+iy+io):=(l.s.same (pv _) (ar.upd hp7)).setL hY7
 obtain⟨ok7,sz7⟩:=Cr (i:=iy) (B:=200*iy+12938) hc hm l.ov (by have:=l.sv;omega)
 have hp77:upd (upd H' p7 (.tup ((cY c st iy v).map kV))) Y (.lst (py.map V.ref++[.ref p7])) p7=some (.tup ((cY c st iy v).map kV)):=by rw[ao Y7];exact ag
 have hYY:upd (upd H' p7 (.tup ((cY c st iy v).map kV))) Y (.lst (py.map V.ref++[.ref p7])) Y=some (.lst ((py++[p7]).map V.ref)):=by rw[ag,MC];rfl
 have kt:∀x xs,H' x=some (.tup xs)->upd (upd H' p7 (.tup ((cY c st iy v).map kV))) Y (.lst (py.map V.ref++[.ref p7])) x=some (.tup xs):=fun x xs ex=>kx _ _ (aF ex l.hY (fun z=>nomatch z)) ex
 have hO7:=kx _ _ (Md l.yo) l.hO
 have kb7:aI b H (upd (upd H' p7 (.tup ((cY c st iy v).map kV))) Y (.lst (py.map V.ref++[.ref p7]))):=fun z o nz ez=>kx _ _ (av ez l.nY) (l.kb _ _ nz ez)
 generalize upd (upd H' p7 (.tup ((cY c st iy v).map kV))) Y (.lst (py.map V.ref++[.ref p7]))=H7 at kx s7 hp77 hYY kt hO7 kb7
 refine eU s7 (by omega) hp77 ok7 fun v' H8 g8 kb8 s8 sub8 gv st8=>?_
 have sv:=gj st8
 refine q v' H8 g8 (fun z o nz ny ez=>kb8 _ _ nz (kx _ _ ny ez)) ⟨kb7.trans kb8,s8.same (by omega) (.refl _),l.sub.trans sub8,l.nY,l.nO,l.yo,kb8 _ _ nYb hYY,kb8 _ _ nOb hO7,fB ((l.ky.keep kt).keep (aI.tup s7 kb8)) ⟨kb8.obj s7.bb hp77 (fun _ z=>nomatch z),ok7⟩,(l.ko.keep kt).keep (aI.tup s7 kb8),by rw[Mr,l.ly];rfl,l.lo,eV st8 (by omega),by omega,l.ou,l.su,fun k hk=>?_,l.so,fun h eh=>?_⟩
 ·rcases MX.mp hk with h|h
  ·exact l.sy k h
  ·rw[Mj.mp h];omega
 ·obtain⟨e1,e2,e3,e4⟩:=l.eq h (Ext.of sub8 eh)
  have e5:cY c st iy v=gf h c m st iy:=by rw[gC,e2]
  refine⟨by rw[jJ,<-e1,e5],?_,e3,e4⟩
  show v'=h (gf h c m st iy)
  rw[<-e5,eh _ _ gv]
def Gy.old (l:Gy A H H' f b Y O c m st iy io g g' n py po ty to v u)(hm:∀x∈st,enK x.2)(i60:iy<=61)(o60:io<=60)(hn:n<=40000){x:Int×Key}(hx:st[io]?=some x)(x1:x.1=1){p7:Addr}(hp7:H' p7=none)
  (q:∀(u':Key)(H8:Hp)(g8:gOp),(∀z o,z≠b->z≠O->H' z=some o->H8 z=some o)->Gy A H H8 f b Y O c m st iy (io+1) g g8 n py (po++[p7]) ty (to++[jtT x.1 u x.2]) v u'->R (kV u') H8):
  jz (dh K A) f [.ref p7] (upd (upd H' p7 (.tup ((jtT x.1 u x.2).map kV))) O (.lst (po.map V.ref++[.ref p7]))) R E0:=by
 obtain⟨nYb,nOb⟩:=l.nb
 have O7:p7≠O:=Md (av l.hO hp7)
 have hO7:upd H' p7 (.tup ((jtT x.1 u x.2).map kV)) O=some (.lst (po.map V.ref)):=ar.upd hp7 _ _ l.hO
 have kx:∀z o,z≠O->H' z=some o->upd (upd H' p7 (.tup ((jtT x.1 u x.2).map kV))) O (.lst (po.map V.ref++[.ref p7])) z=some o:=fun z o nz ez=>by rw[ao nz];exact ar.upd hp7 _ _ ez
 have s7:Stp A (upd (upd H' p7 (.tup ((jtT x.1 u x.2).map kV))) O (.lst (po.map V.ref++[.ref p7]))) f b g' (n+iy+io):=(l.s.same (pv _) (ar.upd hp7)).setL hO7
 have hxe:=hm x (Mz hx)
 have ok7:okT (jtT x.1 u x.2)=true:=zR l.ou hxe.1
 have sz7:szT (jtT x.1 u x.2)<=200*io+13137:=by rw[zH];have:=l.su;have:=hxe.2;omega
 have hp77:upd (upd H' p7 (.tup ((jtT x.1 u x.2).map kV))) O (.lst (po.map V.ref++[.ref p7])) p7=some (.tup ((jtT x.1 u x.2).map kV)):=by rw[ao O7];exact ag
 have hOO:upd (upd H' p7 (.tup ((jtT x.1 u x.2).map kV))) O (.lst (po.map V.ref++[.ref p7])) O=some (.lst ((po++[p7]).map V.ref)):=by rw[ag,MC];rfl
 have kt:∀z xs,H' z=some (.tup xs)->upd (upd H' p7 (.tup ((jtT x.1 u x.2).map kV))) O (.lst (po.map V.ref++[.ref p7])) z=some (.tup xs):=fun z xs ex=>kx _ _ (aF ex l.hO (fun z=>nomatch z)) ex
 have hY7:=kx _ _ l.yo l.hY
 have kb7:aI b H (upd (upd H' p7 (.tup ((jtT x.1 u x.2).map kV))) O (.lst (po.map V.ref++[.ref p7]))):=fun z o nz ez=>kx _ _ (av ez l.nO) (l.kb _ _ nz ez)
 generalize upd (upd H' p7 (.tup ((jtT x.1 u x.2).map kV))) O (.lst (po.map V.ref++[.ref p7]))=H7 at kx s7 hp77 hOO kt hY7 kb7
 refine eU s7 (by omega) hp77 ok7 fun u' H8 g8 kb8 s8 sub8 gv st8=>?_
 have sv:=gj st8
 refine q u' H8 g8 (fun z o nz ny ez=>kb8 _ _ nz (kx _ _ ny ez)) ⟨kb7.trans kb8,s8.same (by omega) (.refl _),l.sub.trans sub8,l.nY,l.nO,l.yo,kb8 _ _ nYb hY7,kb8 _ _ nOb hOO,(l.ky.keep kt).keep (aI.tup s7 kb8),fB ((l.ko.keep kt).keep (aI.tup s7 kb8)) ⟨kb8.obj s7.bb hp77 (fun _ z=>nomatch z),ok7⟩,l.ly,by rw[Mr];have:=l.lo;show _+1<=_;omega,l.ov,l.sv,eV st8 (by omega),by omega,l.sy,fun k hk=>?_,fun h eh=>?_⟩
 ·rcases MX.mp hk with h|h
  ·exact l.so k h
  ·rw[Mj.mp h];omega
 ·obtain⟨e1,e2,e3,e4⟩:=l.eq h (Ext.of sub8 eh)
  refine⟨e1,e2,?_,?_⟩
  ·rw[dC,hx];dsimp only;rw[if_pos x1,<-e3,<-e4]
  ·rw[dC,hx];dsimp only;rw[if_pos x1,<-e4,eh _ _ gv]
def Gy.skip (l:Gy A H H' f b Y O c m st iy io g g' n py po ty to v u){x:Int×Key}(hx:st[io]?=some x)(x1:x.1≠1):Gy A H H' f b Y O c m st iy (io+1) g g' n py po ty to v u:=by
 have e:∀h,dC h m st (io+1)=dC h m st io:=fun h=>by rw[dC,hx];dsimp only;rw[if_neg x1]
 exact{l with
  s:=l.s.same (by omega) (.refl _)
  lo:=Nat.le_succ_of_le l.lo
  su:=Mv l.su (by omega)
  eq:=fun h eh=>⟨(l.eq h eh).1,(l.eq h eh).2.1,by rw[e];exact(l.eq h eh).2.2.1,by rw[e];exact(l.eq h eh).2.2.2⟩}
end
def FC (K:cW)(A:Adr):Ln (pD K A) 4:=by rintro vs H Q E ⟨f,b,R,Z,c,el,m,st,ps,g,n,rfl,_⟩;rfl
def qt (ps:List Addr)(p:Addr):(ps++[p]).map V.ref=ps.map V.ref++[.ref p]:=by rw[MC];rfl
def GZ (T:Txt K mg A):Rd (pD K A) (LA K A) ["stamper","count","elder","steps","younger","older","top","older_top","step"]:=by
 intro vs H Q E h
 obtain⟨f,b,R,Z,c,el,m,st,ps,g,n,rfl,s,hn,e1,ec,c2,hR,hZ,pl,hp,s60,em,sx,q⟩:=h
 have hm:∀x∈st,enK x.2:=fun x hx=>(sx x hx).2
 refine⟨MS _,fun Y hY=>⟨MS _,fun O hO=>?_⟩⟩
 have S1:ar H (upd (upd H Y (.lst [])) O (.lst [])):=(ar.upd hY).trans (ar.upd hO)
 have hY1:upd (upd H Y (.lst [])) O (.lst []) Y=some (.lst (([]:List Addr).map V.ref)):=ar.upd hO _ _ ag
 have hO1:upd (upd H Y (.lst [])) O (.lst []) O=some (.lst (([]:List Addr).map V.ref)):=ag
 have OY:O≠Y:=(dB hO).1
 have hOn:H O=none:=(dB hO).2
 generalize upd (upd H Y (.lst [])) O (.lst [])=H1 at S1 hY1 hO1
 have l0:Gy A H H1 f b Y O c m st 0 0 g g n [] [] [] [] m m:=⟨aI.same S1,s.same (pv _) S1,Sub.rfl',hY,hOn,Md OY,hY1,hO1,.nil,.nil,rfl,pv _,em.1,by have:=em.2;omega,em.1,by have:=em.2;omega,(fun _ h=>nomatch h),(fun _ h=>nomatch h),fun h _=>⟨rfl,rfl,rfl,rfl⟩⟩
 have hR1:=S1 _ _ hR
 refine ixT (j:=0) hR1 rfl rfl (ixT (j:=0) hR1 rfl rfl (ixT (j:=1) hR1 rfl rfl ⟨Z,rfl,.inl ⟨⟨_,SqL.of (S1 _ _ hZ)⟩,?_⟩⟩))
 have nZ:Z≠b:=s.nb hZ (fun _ z=>nomatch z) (fun _ z=>nomatch z)
 refine qx (xs:=ps.map V.ref) (fun i σ H'=>∃(x8:Option V)(g':gOp)(py po:List Addr)(ty to:List (List Key))(v u:Key),σ=[some (.ref f),some (.int (c:Int)),some (.int (el:Int)),some (.ref R),some (.ref Y),some (.ref O),some (kV v),some (kV u),x8]/\Gy A H H' f b Y O c m st i i g g' n py po ty to v u)
  ⟨none,g,[],[],[],[],m,m,rfl,l0⟩ ?_ ?_ ?_
 ·rintro i σ H' _ ⟨_,_,_,_,_,_,_,_,_,l⟩;exact SqL.of (l.kb _ _ nZ hZ)
 ·rintro i x σ H' hx ⟨x8,g',py,po,ty,to,v,u,rfl,l⟩
  obtain⟨pj,hpj,rfl⟩:=kY hx
  have hi:i<st.length:=by rw[<-pl];exact(Mh.mp hpj).1
  obtain⟨x,hxs⟩:∃x,st[i]?=some x:=⟨_,LV hi⟩
  have hpp:=hp i pj x hpj hxs
  have npj:pj≠b:=s.nb hpp (fun _ z=>nomatch z) (fun _ z=>nomatch z)
  have hp':=l.kb _ _ npj hpp
  have en:∀w,cY c st i w=jtT x.1 w x.2:=fun w=>by unfold cY;rw[hxs]
  have llen:=l.ly
  have lolen:=l.lo
  have plen:=je l.ky
  have polen:=je l.ko
  refine⟨.inl ⟨rfl,_,SqL.of l.hY⟩,ixT (j:=0) hp' rfl rfl (ixT (j:=1) hp' rfl rfl ⟨x.1,v,x.2,rfl,fun p7 hp7=>⟨Y,_,_,rfl,rfl,ar.upd hp7 _ _ l.hY,by rw[Mf];exact bU (by omega),?_⟩⟩)⟩
  refine⟨f,rfl,?_,jf ag ?_⟩
  ·have hY7:upd H' p7 (.tup ((jtT x.1 v x.2).map kV)) Y=some (.lst (py.map V.ref)):=ar.upd hp7 _ _ l.hY
   exact((l.s.same (pv _) (ar.upd hp7)).setL hY7).clo
  dsimp only[ak]
  rw[<-en v]
  refine l.young c2 hm (by omega) (by omega) (by omega) hp7 fun v' H8 g8 kx l8=>?_
  have pjY:pj≠Y:=av hpp hY
  have hp8:=kx _ _ npj pjY hp'
  refine ixT (j:=0) hp8 rfl rfl (Sel.dec (fun h1=>?_) (fun h1=>?_))
  ·have h1:x.1=1:=h1
   refine⟨.inl ⟨rfl,_,SqL.of l8.hO⟩,ixT (j:=0) hp8 rfl rfl (ixT (j:=1) hp8 rfl rfl ⟨x.1,u,x.2,rfl,fun p9 hp9=>⟨O,_,_,rfl,rfl,ar.upd hp9 _ _ l8.hO,by rw[Mf];exact bU (by omega),?_⟩⟩)⟩
   refine⟨f,rfl,?_,jf ag ?_⟩
   ·have hO9:upd H8 p9 (.tup ((jtT x.1 u x.2).map kV)) O=some (.lst (po.map V.ref)):=ar.upd hp9 _ _ l8.hO
    exact((l8.s.same (pv _) (ar.upd hp9)).setL hO9).clo
   dsimp only[ak]
   exact l8.old hm (by omega) (by omega) (by omega) hxs h1 hp9 fun u' H10 g10 kx10 l10=>⟨_,g10,_,_,_,_,v',u',rfl,l10⟩
  ·have h1:¬x.1=1:=h1
   exact⟨_,g8,_,_,_,_,v',u,rfl,l8.skip hxs h1⟩
 ·rintro σ H' ⟨x8,g',py,po,ty,to,v,u,rfl,l⟩
  rw[Mf,pl]at l
  have llen:=l.ly
  have lolen:=l.lo
  have plen:=je l.ky
  have polen:=je l.ko
  obtain⟨nYb,nOb⟩:=l.nb
  refine⟨.inl ⟨rfl,_,SqL.of l.hY⟩,ax (show 3<=1000000 by decide),fun p7 hp7=>⟨Y,_,_,rfl,rfl,ar.upd hp7 _ _ l.hY,by rw[Mf];exact bU (by omega),?_⟩⟩
  have Y7:p7≠Y:=Md (av l.hY hp7)
  have kx:∀z o,z≠Y->H' z=some o->upd (upd H' p7 (.tup [.str "row",.int (c:Int),kV v])) Y (.lst (py.map V.ref++[.ref p7])) z=some o:=fun z o nz ez=>by rw[ao nz];exact ar.upd hp7 _ _ ez
  have s7:Stp A (upd (upd H' p7 (.tup [.str "row",.int (c:Int),kV v])) Y (.lst (py.map V.ref++[.ref p7]))) f b g' (n+st.length+st.length):=(l.s.same (pv _) (ar.upd hp7)).setL (ar.upd hp7 _ _ l.hY)
  have hp77:upd (upd H' p7 (.tup [.str "row",.int (c:Int),kV v])) Y (.lst (py.map V.ref++[.ref p7])) p7=some (.tup (([.inr "row",.inl (c:Int),v]:List Key).map kV)):=by rw[ao Y7];exact ag
  have hYY:upd (upd H' p7 (.tup [.str "row",.int (c:Int),kV v])) Y (.lst (py.map V.ref++[.ref p7])) Y=some (.lst ((py++[p7]).map V.ref)):=by rw[ag,qt]
  generalize upd (upd H' p7 (.tup [.str "row",.int (c:Int),kV v])) Y (.lst (py.map V.ref++[.ref p7]))=H7 at kx s7 hp77 hYY
  have hO7:=kx _ _ (Md l.yo) l.hO
  have kt7:∀x xs,H' x=some (.tup xs)->H7 x=some (.tup xs):=fun x xs ex=>kx _ _ (aF ex l.hY (fun z=>nomatch z)) ex
  refine⟨.inl ⟨rfl,_,SqL.of hO7⟩,ax (show 3<=1000000 by decide),fun p9 hp9=>⟨O,_,_,rfl,rfl,ar.upd hp9 _ _ hO7,by rw[Mf];exact bU (by omega),?_⟩⟩
  have O9:p9≠O:=Md (av hO7 hp9)
  have kz:∀z o,z≠O->H7 z=some o->upd (upd H7 p9 (.tup [.str "row",.int (el:Int),kV u])) O (.lst (po.map V.ref++[.ref p9])) z=some o:=fun z o nz ez=>by rw[ao nz];exact ar.upd hp9 _ _ ez
  have s9:Stp A (upd (upd H7 p9 (.tup [.str "row",.int (el:Int),kV u])) O (.lst (po.map V.ref++[.ref p9]))) f b g' (n+st.length+st.length):=(s7.same (pv _) (ar.upd hp9)).setL (ar.upd hp9 _ _ hO7)
  have hp99:upd (upd H7 p9 (.tup [.str "row",.int (el:Int),kV u])) O (.lst (po.map V.ref++[.ref p9])) p9=some (.tup (([.inr "row",.inl (el:Int),u]:List Key).map kV)):=by rw[ao O9];exact ag
  have hOO:upd (upd H7 p9 (.tup [.str "row",.int (el:Int),kV u])) O (.lst (po.map V.ref++[.ref p9])) O=some (.lst ((po++[p9]).map V.ref)):=by rw[ag,qt]
  generalize upd (upd H7 p9 (.tup [.str "row",.int (el:Int),kV u])) O (.lst (po.map V.ref++[.ref p9]))=H9 at kz s9 hp99 hOO
  have kt9:∀x xs,H7 x=some (.tup xs)->H9 x=some (.tup xs):=fun x xs ex=>kz _ _ (aF ex hO7 (fun z=>nomatch z)) ex
  have okc:=iV c2 l.ov
  have oke:=iV (c:=el) (by omega) l.ou
  have sv:=l.sv
  have su:=l.su
  have szc:szT [.inr "row",.inl (c:Int),v]<=40000:=by rw[sz3,szW.2.2.2];show 65+(62+szK v)<=_;omega
  have sze:szT [.inr "row",.inl (el:Int),u]<=40000:=by rw[sz3,szW.2.2.2];show 65+(62+szK u)<=_;omega
  refine⟨ax (show 2<=1000000 by decide),q Y O (py++[p7]) (po++[p9]) (ty++[[.inr "row",.inl (c:Int),v]]) (to++[[.inr "row",.inl (el:Int),u]]) g' H9 (fun z o nz ez=>kz _ _ (av ez l.nO) (kx _ _ (av ez l.nY) (l.kb _ _ nz ez))) (s9.same (by omega) (.refl _)) l.sub (kz _ _ l.yo hYY) hOO (fB ((l.ky.keep kt7).keep kt9) ⟨kt9 _ _ hp77,okc⟩) (fB ((l.ko.keep kt7).keep kt9) ⟨hp99,oke⟩) (by rw[Mr,llen];rfl) (by rw[Mr];show 1<=_+1;omega) (by rw[Mr];show _+1<=_;omega) (fun k hk=>?_) (fun k hk=>?_) fun h eh=>?_⟩
  ·rcases MX.mp hk with h|h
   ·exact l.sy k h
   ·rw[Mj.mp h];exact szc
  ·rcases MX.mp hk with h|h
   ·exact l.so k h
   ·rw[Mj.mp h];exact sze
  ·obtain⟨a1,a2,a3,a4⟩:=l.eq h eh
   refine⟨?_,?_⟩
   ·rw[jJ,<-a1,gC,<-a2]
    unfold cY;rw[Nu (pv _)]
   ·unfold tY jN;rw[if_neg (by omega),if_neg (by omega),<-a3,<-a4]
theorem qR:∀(ts:List Int)(lo hi:Nat)(ks:List Key),(dl ts lo hi ks).length=ts.length+1
 |[],_,_,_=>rfl
 |t::r,lo,hi,ks=>by
  rw[dl];split
  ·rw[Mb,qR r];rfl
  ·rw[Mb,qR r];rfl
theorem rC:∀(ts:List Int)(lo hi:Nat)(ks:List Key),hi=lo+ts.length+1->hi<=ks.length->∀x∈dl ts lo hi ks,∃k∈ks,x=some k
 |[],lo,hi,ks,h1,h2,x,hx=>by
  rw[dl]at hx
  rw[Mj.mp hx]
  have:lo<ks.length:=by simp at h1;omega
  exact⟨ks[lo],Nj _,LV this⟩
 |t::r,lo,hi,ks,h1,h2,x,hx=>by
  rw[Mb]at h1
  rw[dl]at hx
  split at hx
  ·rcases LZ.mp hx with rfl|hx
   ·have:lo<ks.length:=by omega
    exact⟨ks[lo],Nj _,LV this⟩
   ·exact rC r (lo+1) hi ks (by omega) h2 x hx
  ·rcases LZ.mp hx with rfl|hx
   ·have:hi- 1<ks.length:=by omega
    exact⟨ks[hi- 1],Nj _,LV this⟩
   ·exact rC r lo (hi- 1) ks (by omega) (by omega) x hx
def ij (ts:List Int)(ks:List Key):(dn ts ks).length=ts.length+1:=by unfold dn;rw[Mf,qR]
def qG {ts:List Int}{ks:List Key}(kl:ks.length=ts.length+1):∀k∈dn ts ks,k∈ks:=fun k hk=>by
 unfold dn at hk
 obtain⟨x,hx,rfl⟩:=Nf.mp hk
 obtain⟨k',hk',rfl⟩:=rC ts 0 ks.length ks (by omega) (pv _) x hx
 exact hk'
def AI {ts:List Int}{ks:List Key}(kl:ks.length=ts.length+1):inM ts ks∈ks:=by
 unfold inM
 have h:=ij ts ks
 have e:(dn ts ks)[ts.length]?=some ((dn ts ks)[ts.length]'(by omega)):=LV (by omega)
 rw[e]
 exact qG kl _ (Nj _)
def CT {ts:List Int}{ks:List Key}(kl:ks.length=ts.length+1)(t01:∀t∈ts,t=0\/t=1)(ke:∀k∈ks,enK k):∀x∈stG ts ks,(x.1=0\/x.1=1)/\enK x.2:=fun x hx=>⟨t01 _ (sM hx).1,ke _ (qG kl _ (sM hx).2)⟩
def enK.b {x:Key}(h:enK x):enB x:=⟨h.1,Mv h.2 (by decide)⟩
def dN.enb {k:Dat}{n:Nat}{ks:List Key}{x:Key}(M:dN k n ks)(_:ks.length=ks.length)(hx:x∈ks):enB x:=by
 rcases M.en with h|⟨y,rfl,h⟩
 ·exact(h x hx).b
 ·rw[Mj.mp hx];exact h
def dN.inB {k:Dat}{n:Nat}{ks:List Key}{ts:List Int}(M:dN k n ks)(kl:ks.length=ts.length+1):enB (inM ts ks):=M.enb rfl (AI kl)
def dN.stE {k:Dat}{n:Nat}{ks:List Key}{ts:List Int}(M:dN k n ks)(kl:ks.length=ts.length+1)(t01:∀t∈ts,t=0\/t=1):∀x∈stG ts ks,(x.1=0\/x.1=1)/\enK x.2:=by
 rcases M.en with h|⟨y,rfl,h⟩
 ·exact CT kl t01 h
 ·have e:ts=[]:=List.eq_nil_of_length_eq_zero (by rw[RF]at kl;omega)
  subst e
  intro x hx
  cases hx
def tT {h:List Key->Key}{c:Int}{m:Key}{st:List (Int×Key)}{r:List (List Key)}{t:List Key}{k:Nat}(e:r++[t]=kQ h c m st (k+1)):t=gf h c m st k:=by
 rw[jJ]at e
 exact OL.mp (Pg e rfl).2
def wW {h:List Key->Key}{el:Nat}{m:Key}{st:List (Int×Key)}{r:List (List Key)}{t:List Key}(e:r++[t]=tY h el m st):t=jN h el m st:=by
 unfold tY at e
 exact OL.mp (Pg e rfl).2
def jB {tt:List (List Key)}(h:1<=tt.length):∃r t,tt=r++[t]:=LadQ.last (m:=tt.length- 1) (by omega)
def lM (c el:Nat):(bj c el).length<=60:=rf 60 c el
def fe {c el:Nat}(h:1<=c):bI c el=(bj c el).length+1:=if_neg (by omega)
def qC {h:List Key->Key}{c el:Nat}{ks:List Key}(hc:1<=c):yT h c el ks=gf h c (inM (bj c el) ks) (stG (bj c el) ks) (bj c el).length:=if_neg (by omega)
def CD (K:cW)(A:Adr):Ln (pJ K A) 4:=by rintro vs H Q E ⟨f,b,g,n,v,w,m,d,e,k,rfl,_⟩;rfl
def oj {v:Key}(h:szK v<=200):∀k∈([[.inr "void"],[.inr "row",.inl 0,v]]:List (List Key)),szT k<=40000:=fun k hk=>by
 rcases LZ.mp hk with rfl|hk
 ·rw[sz1,szW.1];decide
 ·rw[Mj.mp hk,sz3,szW.2.2.2];show 65+(62+szK v)<=_;omega
def IB (T:Txt K mg A)(vs:List V)(H:Hp)(Q:VK)(E:XK)(h:pJ K A vs H Q E):Fd K A E {nx:=fun _ H'=>Q .non H',rt:=Q} (L2.start ["stamper","count","elder","marks","turns","younger"] vs) H:=by
 obtain⟨f,b,g,n,v,w,m,d,e,k,rfl,a,hd,q1,q2⟩:=h
 refine⟨v,d,w,e,rfl,hd,a.he,?_⟩
 cases hE:dS d e with
 |false=>exact Sel.t (q1 hE)
 |true=>
  refine Sel.f ?_
  obtain⟨c,el,rfl,rfl,ec,c2⟩:=wj hE
  cases hd.int_inv
  cases a.he.int_inv
  have q3:=q2 c el rfl rfl ec c2
  refine⟨c,el,rfl,ec,by omega,fun W hWn=>?_⟩
  have S1:ar H (upd H W (.lst ((bj c el).map V.int))):=ar.upd hWn
  have hW:upd H W (.lst ((bj c el).map V.int)) W=some (.lst ((bj c el).map V.int)):=ag
  generalize upd H W (.lst ((bj c el).map V.int))=H1 at S1 hW
  have hn:=a.hn
  have wm1:=a.hm.mono S1
  have go:∀H2,ar H1 H2->∀ks,dN k (bI c el) ks->GTQ A f b c el ks g n H Q->qW K A E {nx:=fun _ H'=>Q .non H',rt:=Q} [some (.ref f),some (.int (c:Int)),some (.int (el:Int)),some m,some (.ref W),none] H2:=fun H2 S2 ks M gq=>by
   have S12:=S1.trans S2
   obtain⟨P,rfl,hP⟩:=M.at a.hm
   have hP2:=S12 _ _ hP
   have s2:=a.s.same (pv _) S12
   have tl:=lM c el
   have t01:=qT 60 c el
   have W2:=S2 _ _ hW
   refine Sel.dec (fun h=>?_) (fun h=>?_)
   ·have e0:el=0:=by have h:(el:Int)=0:=h;omega
    subst e0
    have ets:bj c 0=[]:=eB (.inl rfl)
    refine Sel.dec (fun hc=>?_) (fun hc=>?_)
    ·have c0:c=0:=by have hc:(c:Int)=0:=hc;omega
     subst c0
     refine⟨f,b,g,n,rfl,s2,by omega,fun Y py vy g3 H3 kb3 s3 sub3 gv3 ok3 sz3' hY pk3 fr3=>?_⟩
     refine⟨f,b,g3,n+1,rfl,s3,by omega,fun O po vo g4 H4 kb4 s4 sub4 gv4 ok4 sz4 hO pk4 fr4=>⟨ax (show 2<=1000000 by decide),?_⟩⟩
     have ev:vy=vo:=LW ((sub4 _ _ gv3).symm.trans gv4)
     subst ev
     refine gq Y O py po _ _ g4 H4 ((aI.same S12).trans (kb3.trans kb4)) (s4.same (by omega) (.refl _)) (sub3.trans sub4) (kb4.obj s3.bb hY (fun _ z=>nomatch z)) hO (fun _=>⟨av hY fr4,S12.free fr3⟩) (pk3.keep (aI.tup s3 kb4)) pk4 (oj sz3') (oj sz3') fun h eh=>?_
     have eh:=eh _ _ gv4
     refine⟨⟨[[.inr "void"]],?_⟩,⟨[[.inr "void"]],?_⟩,fun _=>⟨by rw[eh],by rw[eh]⟩⟩
     ·unfold yT;rw[if_pos rfl,eh];rfl
     ·unfold oT jN;rw[if_pos rfl,eh];rfl
    ·have c1:1<=c:=by have hc:¬(c:Int)=0:=hc;omega
     have kl:=M.l
     rw[fe c1,ets]at kl
     have k1:ks.length=1:=kl
     obtain⟨x,hm⟩:∃x,ks[0]? =some x:=⟨_,LV (by omega)⟩
     have em:inM [] ks=x:=by
      unfold inM dn dl
      rw[hm];rfl
     have enm:enB x:=M.enb (k1▸rfl) (Mz hm)
     refine ixT (j:=0) hP2 rfl (by rw[ME,hm];rfl) ⟨ax (show 3<=1000000 by decide),fun p1 hp1=>⟨ax (show 1<=1000000 by decide),fun Y hY=>?_⟩⟩
     have S3:ar H2 (upd (upd H2 p1 (.tup [.str "row",.int (c:Int),kV x])) Y (.lst [.ref p1])):=(ar.upd hp1).trans (ar.upd hY)
     have hY3:upd (upd H2 p1 (.tup [.str "row",.int (c:Int),kV x])) Y (.lst [.ref p1]) Y=some (.lst (([p1]:List Addr).map V.ref)):=ag
     have hp3:upd (upd H2 p1 (.tup [.str "row",.int (c:Int),kV x])) Y (.lst [.ref p1]) p1=some (.tup (([.inr "row",.inl (c:Int),x]:List Key).map kV)):=ar.upd hY _ _ ag
     generalize upd (upd H2 p1 (.tup [.str "row",.int (c:Int),kV x])) Y (.lst [.ref p1])=H3 at S3 hY3 hp3
     have s3:=s2.same (pv _) S3
     refine⟨f,b,g,n,rfl,s3,by omega,fun O po v g4 H4 kb4 s4 sub4 gv okv svo hO pk fr=>⟨ax (show 2<=1000000 by decide),?_⟩⟩
     refine gq Y O [p1] po [[.inr "row",.inl (c:Int),x]] _ g4 H4 ((aI.same (S12.trans S3)).trans kb4) (s4.same (by omega) (.refl _)) sub4 (kb4.obj s3.bb hY3 (fun _ z=>nomatch z)) hO (fun z=>by omega) (.cons ⟨kb4.obj s3.bb hp3 (fun _ z=>nomatch z),iV c2 enm.1⟩ .nil) pk (fun k hk=>?_) (oj svo) fun h eh=>?_
     ·rw[Mj.mp hk,sz3,szW.2.2.2];show 65+(62+szK x)<=_;have:=enm.2;omega
     ·refine⟨⟨[],?_⟩,⟨[[.inr "void"]],?_⟩,fun z=>by omega⟩
      ·rw[qC c1,ets,em];rfl
      ·unfold oT jN;rw[if_pos rfl,eh _ _ gv];rfl
   ·have e0:1<=el:=by have h:¬(el:Int)=0:=h;omega
    have c1:1<=c:=by omega
    have kl:ks.length=(bj c el).length+1:=by rw[M.l,fe c1]
    refine⟨W,P,bj c el,ks,rfl,W2,hP2,kl,tl,t01,fun R Z ps H3 S3 hR hZ pl hp=>?_⟩
    have S13:=S12.trans S3
    have slen:(stG (bj c el) ks).length=(bj c el).length:=jL (ij _ ks)
    refine⟨f,b,R,Z,c,el,inM (bj c el) ks,stG (bj c el) ks,ps,g,n,rfl,s2.same (pv _) S3,hn,e0,ec,c2,hR,hZ,by rw[slen];exact pl,hp,by omega,M.inB kl,M.stE kl t01,?_⟩
    intro Y O py po ty to g' H' kb' s' sub' hY hO ky ko ly l1 l70 sy so eq
    refine gq Y O py po ty to g' H' ((aI.same S13).trans kb') s' sub' hY hO (fun z=>by omega) ky ko sy so fun h eh=>?_
    obtain⟨r1,t1,e1⟩:=jB (tt:=ty) (by omega)
    obtain⟨r2,t2,e2⟩:=jB (tt:=to) l1
    obtain⟨q1,q2⟩:=eq h eh
    refine⟨⟨r1,?_⟩,⟨r2,?_⟩,fun z=>by omega⟩
    ·rw[slen,e1]at q1;rw[e1,qC c1,tT q1]
    ·rw[e2]at q2;rw[e2,wW q2];rfl
  have fin:∀H2,ar H1 H2->Sel (!cC (bI c el:Nat) k) (E (.ref A.c_NoPaper) none H2) (qW K A E {nx:=fun _ H'=>Q .non H',rt:=Q} [some (.ref f),some (.int (c:Int)),some (.int (el:Int)),some m,some (.ref W),none] H2):=fun H2 S2=>by
   rcases q3 with⟨hb,qE⟩|⟨ks,M,gq⟩
   ·rw[hb];exact Sel.t (qE H2 (S1.trans S2))
   ·rw[M.yes];exact Sel.f (go H2 S2 ks M gq)
  refine Sel.dec (fun hc=>?_) (fun hc=>?_)
  ·have c0:c=0:=by have hc:(c:Int)=0:=hc;omega
   have em:((bI c el:Nat):Int)=0:=by subst c0;rfl
   rw[em]at fin
   exact⟨0,m,k,rfl,wm1,a.sh,fin⟩
  ·have c1:1<=c:=by have hc:¬(c:Int)=0:=hc;omega
   refine .inl (.inl ⟨_,SqL.of hW,?_⟩)
   have em:((bI c el:Nat):Int)=(((bj c el).map V.int).length:Int)+1:=by rw[fe c1,Mf];rfl
   rw[em]at fin
   exact⟨_,m,k,rfl,wm1,a.sh,fin⟩
def DA (K:cW)(A:Adr):Ln (pC K A) 4:=by rintro vs H Q E ⟨f,b,g,n,v,w,m,d,e,k,rfl,_⟩;rfl
def sO {H:Hp}{v:V}{c:Nat}{mk:Key}(w:aG H v (.tup [.int (c:Int),aV mk])):∃hd,v=.ref hd/\H hd=some (.tup [.int (c:Int),kV mk]):=by
 cases w with
 |tup e r=>
  have:=nG (ks:=[.inl (c:Int),mk]) r
  subst this
  exact⟨_,rfl,e⟩
def qJ {c:Nat}{mk:Key}(h:c<2^60)(ok:okP mk=true):cm (.tup [.int (c:Int),aV mk])=true:=by
 show(cA (.int (c:Int))&&bE (aV mk))=true
 rw[qY (by omega) (by omega),oY ok];rfl
def FZ (T:Txt K mg A)(vs:List V)(H:Hp)(Q:VK)(E:XK)(h:pC K A vs H Q E):BK K A E {nx:=fun _ H'=>Q .non H',rt:=Q} (L2.start ["stamper","head","elder","marks","terms","came"] vs) H:=by
 obtain⟨f,b,g,n,v,w,m,d,e,k,rfl,a,hd,q⟩:=h
 rcases q with⟨hF,qE⟩|⟨c,mk,rfl,c2,okm,qP,q2⟩
 ·exact⟨v,d,rfl,hd,fun z=>(by rw[hF]at z;cases z),fun _=>qE⟩
 refine⟨v,_,rfl,hd,fun _=>?_,fun z=>by rw[qJ c2 okm]at z;cases z⟩
 obtain⟨hp,rfl,hh⟩:=sO hd
 have hn:=a.hn
 refine ixT (j:=0) hh rfl rfl ?_
 refine⟨f,b,g,n,.int (c:Int),w,m,.int (c:Int),e,k,rfl,a,.int _,qP,fun c' el ec ee le _=>?_⟩
 have ecc:c'=c:=by
  have:(c:Int)=(c':Int):=by injection ec
  omega
 subst ecc
 rcases q2 el ee le with⟨hb,qE⟩|⟨ks,M,q⟩
 ·exact .inl ⟨hb,qE⟩
 refine .inr ⟨ks,M,fun Y O py po ty to g1 H1 kb1 s1 sub1 hY hO _ ky ko sy so eq p hp'=>?_⟩
 obtain⟨h0,eh0⟩:∃h,Ext g1 h:=⟨_,Ext.refl' g1⟩
 obtain⟨⟨ry0,ey0⟩,⟨ro0,eo0⟩,_⟩:=eq h0 eh0
 obtain⟨ry,t,rfl⟩:=jB (tt:=ty) (by rw[ey0];simp)
 obtain⟨ro,t2,rfl⟩:=jB (tt:=to) (by rw[eo0];simp)
 have eqt:∀h,Ext g1 h->t=yT h c' el ks/\t2=oT h c' el ks:=fun h eh=>by
  obtain⟨⟨r1,e1⟩,⟨r2,e2⟩,_⟩:=eq h eh
  exact⟨OL.mp (Pg e1 rfl).2,OL.mp (Pg e2 rfl).2⟩
 obtain⟨qy,py1,rfl,ky'⟩:=rG ky
 obtain⟨qo,po1,rfl,ko'⟩:=rG ko
 obtain⟨hpy,oky⟩:=ol (tN ky') ky'
 obtain⟨hpo,oko⟩:=ol (tN ko') ko'
 have S2:=ar.upd (o:=.tup [.ref Y,.ref O]) hp'
 have s2:=s1.same (pv _) S2
 have hT2:upd H1 p (.tup [.ref Y,.ref O]) p=some (.tup [.ref Y,.ref O]):=ag
 have hY2:=S2 _ _ hY
 have hO2:=S2 _ _ hO
 have hpy2:=S2 _ _ hpy
 have hpo2:=S2 _ _ hpo
 have hh2:=S2 _ _ (kb1.obj a.s.bb hh (fun _ z=>nomatch z))
 generalize upd H1 p (.tup [.ref Y,.ref O])=H2 at S2 s2 hT2 hY2 hO2 hpy2 hpo2 hh2
 rw[MC]at hY2 hO2
 refine⟨f,rfl,s2.clo,ixT (j:=0) hT2 rfl rfl (jf hY2 ?_)⟩
 dsimp only[ak]
 refine eU s2 (by omega) hpy2 oky fun w H3 g3 kb3 s3 sub3 gv st3=>?_
 have szt:=sy t (by simp)
 obtain⟨q1,q2⟩:=q w g3 H3 ((kb1.trans (aI.same S2)).trans kb3) s3 (sub1.trans sub3) (eV st3 (by omega)) (fun h eh=>by
  rw[<-(eqt h (Ext.of sub3 eh)).1,eh _ _ gv])
 have hh3:=kb3.obj s2.bb hh2 (fun _ z=>nomatch z)
 refine ixT (j:=1) hh3 rfl rfl (iH ?_)
 by_cases ewm:w=mk
 ·refine Sel.no (by rw[decide_eq_true ewm];rfl) ?_
  refine⟨f,rfl,s3.clo,ixT (j:=1) (kb3.obj s2.bb hT2 (fun _ z=>nomatch z)) rfl rfl (jf (kb3.obj s2.bb hO2 (fun _ z=>nomatch z)) ?_)⟩
  dsimp only[ak]
  refine eU s3 (by omega) (kb3.obj s2.bb hpo2 (fun _ z=>nomatch z)) oko fun u H4 g4 kb4 s4 sub4 gu st4=>?_
  exact q1 ewm u g4 H4 kb4 s4 sub4 (eV st4 (by have:=so t2 (by simp);omega)) fun h eh=>by
   rw[<-(eqt h (Ext.of sub3 (Ext.of sub4 eh))).2,eh _ _ gu]
 ·refine Sel.yes (by rw[decide_eq_false ewm];rfl) ?_
  refine ixT (j:=1) hh3 rfl rfl fun a ha=>⟨a,kV mk,kV w,rfl,ag,fun dx hdx=>⟨rfl,some dx,?_,?_⟩⟩
  ·obtain⟨nd,_⟩:=dB hdx
   rw[ao (Md nd),ao (Md nd)];exact ag
  ·obtain⟨nd,hd0⟩:=dB hdx
   refine q2 ewm dx _ (fun z o ez=>?_) (by rw[eA nd];exact ag)
   have na:=av ez ha
   have nz:=av ez hd0
   rw[eA na,ao nz,ao nz,ao na,ao na];exact ez
def sV {i:Int}(h:i<0\/10^60<=i):bE (.int i)=false:=decide_eq_false (by omega)
def p30:(0:Int)<10^(30:Int).toNat:=by decide+kernel
def CK (K:cW)(A:Adr):Ln (mP K A) 1:=by rintro vs H Q E ⟨z,rfl,_⟩;rfl
def Hg (T:Txt K mg A):Rd (mP K A) (KO K A) ["_law_cell","_law_number","_law_some"]:=by
 intro vs H Q E h
 obtain⟨z,rfl,q⟩:=h
 refine⟨⟨by decide,by decide⟩,⟨by decide,by decide,by decide⟩,p30,?_⟩
 have r0:=NC (z/9) (RW p30)
 show aC _ _ _ [some (.int z),some (.int (z/9%10^(30:Int).toNat)),none] H
 generalize z/9%10^(30:Int).toNat=k at r0
 refine⟨⟨by decide,by decide,by decide⟩,ax (show 1<=1000000 by decide),fun p1 h1=>⟨ax (show 1<=1000000 by decide),fun p2 h2=>.inl fun p3 h3=>⟨ax (show 1<=1000000 by decide),fun p4 h4=>⟨ax (show 9<=1000000 by decide),fun L hL=>⟨by decide,?_⟩⟩⟩⟩⟩
 refine .inl (vd ag (by omega) (by show z%9<9;omega) fun v hv=>?_)
 generalize hLL:(HO.lst [V.non,V.bl true,V.bl false,V.int (-1- k),V.int (10^(60:Int).toNat+k),V.ref p1,V.ref p2,V.ref p3,V.ref p4])=o at*
 have S:=(ar.upd (o:=.tup [V.int k]) h1).trans ((ar.upd (o:=.lst [V.int k]) h2).trans ((ar.upd (o:=.dK []) h3).trans ((ar.upd (o:=.tup [V.str "a"]) h4).trans (ar.upd (o:=o) hL))))
 have e1:=ar.upd (o:=o) hL _ _ (ar.upd (o:=.tup [V.str "a"]) h4 _ _ (ar.upd (o:=.dK []) h3 _ _ (ar.upd (o:=.lst [V.int k]) h2 _ _ (ag (H:=H) (a:=p1) (o:=.tup [V.int k])))))
 have e2:=ar.upd (o:=o) hL _ _ (ar.upd (o:=.tup [V.str "a"]) h4 _ _ (ar.upd (o:=.dK []) h3 _ _ (ag (H:=upd H p1 (.tup [V.int k])) (a:=p2) (o:=.lst [V.int k]))))
 have e3:=ar.upd (o:=o) hL _ _ (ar.upd (o:=.tup [V.str "a"]) h4 _ _ (ag (H:=upd (upd H p1 (.tup [V.int k])) p2 (.lst [V.int k])) (a:=p3) (o:=.dK [])))
 have e4:=ar.upd (o:=o) hL _ _ (ag (H:=upd (upd (upd H p1 (.tup [V.int k])) p2 (.lst [V.int k])) p3 (.dK [])) (a:=p4) (o:=.tup [V.str "a"]))
 have n60:(10:Int)^(60:Int).toNat=10^60:=rfl
 simp only[LZ,Mp,or_false]at hv
 rcases hv with rfl|rfl|rfl|rfl|rfl|rfl|rfl|rfl|rfl
 ·exact q _ _ _ S .non rfl rfl
 ·exact q _ _ _ S (.bl _) rfl rfl
 ·exact q _ _ _ S (.bl _) rfl rfl
 ·exact q _ _ _ S (.int _) (sV (.inl (by omega))) rfl
 ·exact q _ _ _ S (.int _) (sV (.inr (by rw[n60];omega))) rfl
 ·exact q _ _ _ S (.tup e1 (.cons (.int _) .nil)) rfl rfl
 ·exact q _ _ _ S (.lst e2 (.cons (.int _) .nil)) rfl rfl
 ·exact q _ _ _ S (.dic ⟨_,e3⟩) rfl rfl
 ·exact q _ _ _ S (.tup e4 (.cons (.str _) .nil)) rfl rfl
def kE (x:Key):nbD (aV x)=true:=by cases x<;>rfl
theorem fR:∀ks:List Key,nbDs (ks.map aV)=true
 |[]=>rfl
 |x::r=>by
  show(nbD (aV x)&&nbDs (r.map aV))=true
  rw[kE,fR r];rfl
theorem iX:∀{a b:List Dat},nbDs a=true->nbDs b=true->nbD (.tup (a++b))=true
 |[],_,_,h=>h
 |x::r,b,h1,h2=>by
  obtain⟨h3,h4⟩:=LX.mp h1
  show(nbD x&&nbDs (r++b))=true
  rw[h3,show nbDs (r++b)=true from iX h4 h2];rfl
def As {a b c:List Dat}(h1:nbDs a=true)(h2:nbDs b=true)(h3:nbDs c=true):nbD (.tup (a++b++c))=true:=iX (show nbDs (a++b)=true from iX h1 h2) h3
def kI {d:Dat}(h:nbD d=true):nbDs [d]=true:=by show(nbD d&&true)=true;rw[h];rfl
def Cu (ks:List Key):nbD (.lst (ks.map aV))=true:=by
 cases ks with
 |nil=>rfl
 |cons x r=>
  have h:=fR (x::r)
  cases x with
  |inl i=>exact h
  |inr z=>exact h
def nW {c s:Dat}(h:cA c=false):cm (.tup [c,s])=false:=by show(cA c&&bE s)=false;rw[h];rfl
def Aw {c s:Dat}(h:bE s=false):cm (.tup [c,s])=false:=by show(cA c&&bE s)=false;rw[h,PP]
def Au (k:Key):cm (aV k)=false:=by cases k<;>rfl
theorem DatWs.app {H:Hp}:∀{xs ys:List V}{ds es:List Dat},DatWs H xs ds->DatWs H ys es->DatWs H (xs++ys) (ds++es)
 |_,_,_,_,.nil,h=>h
 |_,_,_,_,.cons a r,h=>.cons a (r.app h)
def lK {n:Nat}{ds:List Dat}(h:ds.length≠n):cC n (.tup ds)=false:=by
 show(decide ((ds.length:Int)=(n:Int))&&_)=false
 rw[decide_eq_false (by omega)];rfl
def yq {n:Nat}{ds:List Dat}{d:Dat}(hm:d∈ds)(h:bE d=false):cC n (.tup ds)=false:=by
 show(_&&ds.all bE)=false
 have:ds.all bE=false:=Sw.mpr ⟨d,hm,by rw[h];simp⟩
 rw[this,PP]
def Dl (K:cW)(A:Adr):Ln (pG K A) 2:=by rintro vs H Q E ⟨z,P,ks,rfl,_⟩;rfl
def GJ (T:Txt K mg A):Rd (pG K A) (Lq K A) ["_law_cell","_law_marks","_law_spot","_law_thing","_law_some"]:=by
 intro vs H Q E h
 obtain⟨z,P,ks,rfl,hP,l61,q⟩:=h
 have lz:∀m:Nat,m<=200->m<=sizeLine:=fun m hm=>Ob (ax (by omega))
 have ll:(ks.map kV).length=ks.length:=Mf ..
 refine⟨⟨by decide,by decide⟩,.inl (.inr (.inl ⟨_,SqT.of hP,?_⟩))⟩
 rw[Mf]
 have mx:(if (ks.length:Int)>1 then(ks.length:Int)else 1)=((max 1 ks.length:Nat):Int):=by
  split<;>omega
 show 0<(if (ks.length:Int)>1 then(ks.length:Int)else 1)/\_
 rw[mx]
 refine⟨by omega,⟨by decide,by decide⟩,_,rfl,fun jv jd H1 S1 jw jn jb=>?_⟩
 have r0:=NC (z/5) (b:=((max 1 ks.length:Nat):Int)) (by omega)
 have r1:=NN (z/5) (b:=((max 1 ks.length:Nat):Int)) (by omega)
 show xa K A _ [some (.int z),some (.ref P),some (.int (z/5%((max 1 ks.length:Nat):Int))),some jv,none] H1
 obtain⟨sp,hsp⟩:=NI r0
 rw[hsp]at r1⊢
 have hP1:=S1 _ _ hP
 refine⟨P,_,rfl,.inr (SqT.of hP1),fun l1 hl1=>⟨ax (show 1<=1000000 by decide),fun p2 h2=>?_⟩⟩
 have S2:=(ar.upd (o:=.lst (ks.map kV)) hl1).trans (ar.upd (o:=.tup [V.str "a"]) h2)
 have el1:=ar.upd (o:=.tup [V.str "a"]) h2 _ _ (ag (H:=H1) (a:=l1) (o:=.lst (ks.map kV)))
 have ep2:upd (upd H1 l1 (.lst (ks.map kV))) p2 (.tup [V.str "a"]) p2=some (.tup [V.str "a"]):=ag
 generalize upd (upd H1 l1 (.lst (ks.map kV))) p2 (.tup [V.str "a"])=H2 at*
 refine .inr ⟨P,p2,_,_,rfl,rfl,S2 _ _ hP1,ep2,lz _ (by simp;omega),fun p3 H3 S3 hp3=>⟨ax (show 1<=1000000 by decide),fun p4 h4=>?_⟩⟩
 have S4:=ar.upd (o:=.tup [jv]) h4
 have ep4:upd H3 p4 (.tup [jv]) p4=some (.tup [jv]):=ag
 generalize upd H3 p4 (.tup [jv])=H4 at*
 refine .inr ⟨P,p4,_,_,rfl,rfl,S4 _ _ (S3 _ _ (S2 _ _ hP1)),ep4,lz _ (by simp;omega),fun p5 H5 S5 hp5=>⟨ax (show 4<=1000000 by decide),fun L hL=>?_⟩⟩
 have S6:=ar.upd (o:=.lst [V.non,.ref l1,.ref p3,.ref p5]) hL
 have eL:upd H5 L (.lst [V.non,.ref l1,.ref p3,.ref p5]) L=some (.lst [V.non,.ref l1,.ref p3,.ref p5]):=ag
 generalize upd H5 L (.lst [V.non,.ref l1,.ref p3,.ref p5])=H6 at*
 have S56:=S5.trans S6
 have S46:=S4.trans S56
 have S36:=S3.trans S46
 have S26:=S2.trans S36
 have SS:=S1.trans S26
 have hP6:=S26 _ _ hP1
 have jw6:=jw.mono S26
 have some4:∀v∈[V.non,.ref l1,.ref p3,.ref p5],Q v H6:=fun v hv=>by
  simp only[LZ,Mp,or_false]at hv
  rcases hv with rfl|rfl|rfl|rfl
  ·exact q _ _ _ SS .non rfl trivial rfl
  ·exact q _ _ _ SS (.lst (S36 _ _ el1) (fw ks)) rfl trivial (Cu ks)
  ·exact q _ _ _ SS (.tup (S46 _ _ hp3) ((fw ks).app (.cons (.str _) .nil))) (lK (by simp)) (by show _<=500;simp;omega) (iX (fR ks) rfl)
  ·exact q _ _ _ SS (.tup (S6 _ _ hp5) ((fw ks).app (.cons jw6 .nil))) (lK (by simp)) (by show _<=500;simp;omega) (iX (fR ks) (kI jb))
 have first:aJ K (.ref L) (.int (z%5%4)) H6 Q:=.inl (vd eL (by omega) (by show z%5%4<4;omega) some4)
 refine⟨by decide,Sel.dec (fun h=>Sel.t ⟨by decide,by decide,first⟩) (fun h=>.inl (.inr (.inl ⟨_,SqT.of hP6,?_⟩)))⟩
 rw[Mf]
 refine Sel.dec (fun h0=>⟨by decide,by decide,first⟩) (fun h0=>?_)
 have l1':1<=ks.length:=by have h0:¬(ks.length:Int)=0:=h0;omega
 have spl:sp<ks.length:=by have:max 1 ks.length=ks.length:=by omega
                           omega
 refine⟨⟨by decide,by decide⟩,⟨by decide,by decide⟩,by decide,Sel.dec (fun h2=>?_) (fun h2=>?_)⟩
 ·refine⟨(sp:Int),rfl,.inl (.inr ⟨P,_,rfl,hP6,fun q1 H7 S7 hq1=>?_⟩)⟩
  refine⟨(sp:Int)+1,rfl,.inl (.inr ⟨P,_,rfl,S7 _ _ hP6,fun q2 H8 S8 hq2=>?_⟩)⟩
  rw[oP _ sp (by omega),<-TF]at hq1
  rw[show((sp:Int)+1)=((sp+1:Nat):Int)by omega,lL _ (sp+1) (by omega),<-TJ]at hq2
  refine .inr ⟨q1,q2,_,_,rfl,rfl,S8 _ _ hq1,hq2,lz _ (by simp;omega),fun q3 H9 S9 hq3=>?_⟩
  refine q _ _ _ (SS.trans (S7.trans (S8.trans S9))) (.tup hq3 ((fw _).app (fw _))) (lK (by simp;omega)) (by show _<=500;simp;omega) (iX (fR _) (fR _))
 ·refine⟨(sp:Int),rfl,.inl (.inr ⟨P,_,rfl,hP6,fun q1 H7 S7 hq1=>?_⟩)⟩
  rw[oP _ sp (by omega),<-TF]at hq1
  refine⟨ax (show 1<=1000000 by decide),fun q4 h4'=>?_⟩
  have S74:=ar.upd (o:=.tup [jv]) h4'
  have e74:upd H7 q4 (.tup [jv]) q4=some (.tup [jv]):=ag
  generalize upd H7 q4 (.tup [jv])=H7' at*
  refine .inr ⟨q1,q4,_,_,rfl,rfl,S74 _ _ hq1,e74,lz _ (by simp;omega),fun q5 H8 S8 hq5=>?_⟩
  refine⟨(sp:Int)+1,rfl,.inl (.inr ⟨P,_,rfl,S8 _ _ (S74 _ _ (S7 _ _ hP6)),fun q2 H9 S9 hq2=>?_⟩)⟩
  rw[show((sp:Int)+1)=((sp+1:Nat):Int)by omega,lL _ (sp+1) (by omega),<-TJ]at hq2
  refine .inr ⟨q5,q2,_,_,rfl,rfl,S9 _ _ hq5,hq2,lz _ (by simp;omega),fun q3 H10 S10 hq3=>?_⟩
  have SX:=S7.trans (S74.trans (S8.trans (S9.trans S10)))
  refine q _ _ _ (SS.trans SX) (.tup hq3 (((fw _).app (.cons (jw6.mono SX) .nil)).app (fw _))) (yq (d:=jd) (by simp) jn) (by show _<=500;simp;omega) (As (fR _) (kI jb) (fR _))
theorem kW:∀(e f c el:Nat),c<=2^e->c<=2^f->el<=c->grF e c el=grF f c el
 |0,f,c,el,h1,_,h3=>by rw[eB (by simp at h1;omega),eB (by simp at h1;omega)]
 |e+1,0,c,el,_,h2,h3=>by rw[eB (by simp at h2;omega),eB (by simp at h2;omega)]
 |e+1,f+1,c,el,h1,h2,h3=>by
  by_cases h:el=0\/c<=el
  ·rw[eB h,eB h]
  ·have h2':2<=c:=by omega
   have b1:=il h2'
   have b2:=iA h2'
   have b3:=gl h2' h1
   have b4:=gl h2' h2
   rw[ia h,ia h]
   by_cases hl:el<=aT c
   ·rw[if_pos hl,if_pos hl,kW e f (aT c) el b3 b4 hl]
   ·rw[if_neg hl,if_neg hl,kW e f (c- aT c) (el- aT c) (by omega) (by omega) (by omega)]
def BL {c el:Nat}(h0:1<=el)(h1:el<c)(c2:c<=2^60)(hl:el<=aT c):bj c el=0::bj (aT c) el:=by
 have h2:2<=c:=by omega
 have b3:=gl (e:=59) h2 c2
 unfold bj
 rw[ia (by omega),if_pos hl,kW 59 60 (aT c) el b3 (by omega) hl]
def Dp {c el:Nat}(h0:1<=el)(h1:el<c)(c2:c<=2^60)(hl:¬el<=aT c):bj c el=1::bj (c- aT c) (el- aT c):=by
 have h2:2<=c:=by omega
 have b1:=il h2
 have b2:=iA h2
 have b3:=gl (e:=59) h2 c2
 unfold bj
 rw[ia (by omega),if_neg hl,kW 59 60 (c- aT c) (el- aT c) (by omega) (by omega) (by omega)]
theorem og:∀(r:List Int)(lo hi:Nat)(k:Key)(ks:List Key),lo+r.length+1=hi->dl r (lo+1) (hi+1) (k::ks)=dl r lo hi ks
 |[],lo,hi,k,ks,_=>rfl
 |t::r,lo,hi,k,ks,h=>by
  rw[Mb]at h
  obtain⟨j,rfl⟩:∃j,hi=j+1:=⟨hi- 1,by omega⟩
  rw[dl,dl]
  by_cases ht:t=1
  ·rw[if_pos ht,if_pos ht,og r (lo+1) (j+1) k ks (by omega)];rfl
  ·rw[if_neg ht,if_neg ht]
   show(k::ks)[j+1]? ::dl r (lo+1) (j+1) (k::ks)=ks[j]? ::dl r lo j ks
   rw[og r lo j k ks (by omega)];rfl
theorem nI:∀(r:List Int)(lo hi m:Nat)(ks:List Key),lo+r.length+1=hi->hi<=m->dl r lo hi (ks.take m)=dl r lo hi ks
 |[],lo,hi,m,ks,h,hm=>by
  show[(ks.take m)[lo]?]=[ks[lo]?]
  rw[NB (by simp at h;omega)]
 |t::r,lo,hi,m,ks,h,hm=>by
  rw[Mb]at h
  rw[dl,dl,nI r (lo+1) hi m ks (by omega) hm,nI r lo (hi- 1) m ks (by omega) (by omega),NB (by omega),NB (by omega)]
def AO {r:List Int}{k:Key}{ks:List Key}(h:ks.length=r.length+1):dn (1::r) (k::ks)=k::dn r ks:=by
 unfold dn
 rw[dl,if_pos rfl,Mb,og r 0 ks.length k ks (by omega)];rfl
def AA {r:List Int}{ks:List Key}(h:ks.length=r.length+2):dn (0::r) ks=ks.getD (ks.length- 1) (.inl 0)::dn r ks.dropLast:=by
 unfold dn
 rw[dl,if_neg (by decide),My,PB,Pt,nI r 0 (ks.length- 1) (ks.length- 1) ks (by omega) (pv _),Mi]
theorem qu {h:List Key->Key}{c:Int}{m:Key}{st l:List (Int×Key)}:∀{i:Nat},i<=st.length->nB h c m (st++l) i=nB h c m st i
 |0,_=>rfl
 |i+1,hi=>by
  show h (gf h c m (st++l) i)=h (gf h c m st i)
  rw[gC,gC,qu (by omega)]
  unfold cY
  rw[MT (by omega)]
theorem qV {h:List Key->Key}{m:Key}{st l:List (Int×Key)}:∀{i:Nat},i<=st.length->dC h m (st++l) i=dC h m st i
 |0,_=>rfl
 |i+1,hi=>by
  rw[dC,dC,qV (by omega),MT (by omega)]
theorem uQ {h:List Key->Key}{c:Int}:∀(ts:List Int)(ks:List Key),ks.length=ts.length+1->(∀t∈ts,t=0\/t=1)->tpF h ts ks=(nB h c (inM ts ks) (stG ts ks) ts.length,(dC h (inM ts ks) (stG ts ks) ts.length).2)
 |[],ks,hl,_=>by
  have e:inM [] ks=ks.getD 0 (.inl 0):=by
   unfold inM dn dl
   rw[Mi];rfl
  show(ks.getD 0 (.inl 0),ks.getD 0 (.inl 0))=(inM [] ks,inM [] ks)
  rw[e]
 |t::r,ks,hl,h01=>by
  rw[Mb]at hl
  have hr:∀t∈r,t=0\/t=1:=fun t ht=>h01 t (Mm _ ht)
  have step:∀(x:Key)(ks':List Key),ks'.length=r.length+1->dn (t::r) ks=x::dn r ks'->(nB h c (inM (t::r) ks) (stG (t::r) ks) (r.length+1),(dC h (inM (t::r) ks) (stG (t::r) ks) (r.length+1)).2)=(h (jtT t (tpF h r ks').1 x),if t=1 then h (jtT t (tpF h r ks').2 x)else(tpF h r ks').2):=fun x ks' l' e=>by
   have em:inM (t::r) ks=inM r ks':=by unfold inM;rw[e];rfl
   have sl:(stG r ks').length=r.length:=jL (ij r ks')
   have es:stG (t::r) ks=stG r ks'++[(t,x)]:=by
    unfold stG stR
    rw[e,List.zip_cons_cons,NS]
   have g:(stG r ks'++[(t,x)])[r.length]? =some (t,x):=by rw[MK (by omega),sl,QD];rfl
   rw[uQ (c:=c) r ks' l' hr,em,es]
   refine TC ?_ ?_
   ·show h (gf h c _ (stG r ks'++[(t,x)]) r.length)=_
    rw[gC,qu (by omega)]
    unfold cY
    rw[g]
   ·show(dC h _ (stG r ks'++[(t,x)]) (r.length+1)).2=_
    rw[dC,g,qV (by omega)]
    dsimp only
    split
    ·rfl
    ·rfl
  rcases h01 t MD with rfl|rfl
  ·rw[Mb,step (ks.getD (ks.length- 1) (.inl 0)) ks.dropLast (by rw[PB];omega) (AA hl)];rfl
  ·match ks,hl with
   |k::ks,hl=>
    rw[Mb]at hl
    rw[Mb,step k ks (by omega) (AO (by omega))];rfl
def uA {h:List Key->Key}{c el:Nat}{ks:List Key}(h1:1<=c)(hl:ks.length=(bj c el).length+1):yT h c el ks=[.inr "row",.inl (c:Int),(tpF h (bj c el) ks).1]:=by
 rw[qC h1,uQ (c:=(c:Int)) (bj c el) ks hl (qT 60 c el),gC]
 have sl:(stG (bj c el) ks).length=(bj c el).length:=jL (ij _ ks)
 unfold cY
 rw[List.getElem?_eq_none_iff.mpr (by omega)]
def Ir {h:List Key->Key}{c el:Nat}{ks:List Key}(h1:1<=el)(hl:ks.length=(bj c el).length+1):oT h c el ks=[.inr "row",.inl (el:Int),(tpF h (bj c el) ks).2]:=by
 rw[uQ (c:=(c:Int)) (bj c el) ks hl (qT 60 c el)]
 have sl:(stG (bj c el) ks).length=(bj c el).length:=jL (ij _ ks)
 unfold oT jN
 rw[if_neg (by omega),sl]
def EN (K:cW)(A:Adr):Ln (pE K A) 2:=by rintro vs H Q E ⟨c,e,rfl,_⟩;rfl
def HB (T:Txt K mg A):Rd (pE K A) (Kq K A) ["_law_count","_law_elder","_law_found","_law_cut"]:=by
 intro vs H Q E h
 obtain⟨c,el,rfl,ec,c2,q⟩:=h
 have mn:(if (1:Int)<(c:Int)then(1:Int)else(c:Int))=((min c 1:Nat):Int):=by split<;>omega
 show xf K A {nx:=fun _ H'=>Q .non H',rt:=Q} [some (.int (c:Int)),some (.int (el:Int)),some (.int (if (1:Int)<(c:Int)then(1:Int)else(c:Int))),none] H
 rw[mn]
 refine⟨fun e σ H'=>∃(fo d r:Nat)(x3:Option V),σ=[some (.int (r:Int)),some (.int (d:Int)),some (.int (fo:Int)),x3]/\H'=H/\fo+(grF e r d).length=bI c el/\d<=r/\r<=2^e/\e<=60,
  ⟨60,min c 1,el,c,none,rfl,rfl,?_,ec,by omega,by omega⟩,?_⟩
 ·unfold bI
  by_cases h:c=0
  ·subst h;rw[eB (by omega)];rfl
  ·rw[if_neg h];show min c 1+(bj c el).length=_;omega
 rintro e σ H' ⟨fo,d,r,x3,rfl,rfl,ht,hd,hr,he⟩
 have fin:(d=0\/r<=d)->Q (.int (fo:Int)) H':=fun h=>by
  rw[eB h]at ht
  have:fo=bI c el:=by simpa using ht
  rw[this];exact q
 refine Sel.dec (fun h0=>?_) (fun h0=>?_)
 ·refine dI (Sel.dec (fun h1=>?_) (fun h1=>?_))
  ·have h2:2<=r:=by omega
   have b1:=il h2
   have b2:=iA h2
   cases e with
   |zero=>simp at hr;omega
   |succ e=>
   have b3:=gl h2 hr
   have c60:r<=2^60:=Mv hr (NU (by decide) he)
   rw[ia (by omega)]at ht
   refine⟨fun σ H''=>∃(fo d r:Nat)(x3:Option V),σ=[some (.int (r:Int)),some (.int (d:Int)),some (.int (fo:Int)),x3]/\H''=H'/\fo+(grF e r d).length=bI c el/\d<=r/\r<=2^e/\e<=60,fun σ' H'' hh=>⟨e,by omega,hh⟩,?_⟩
   refine⟨r,rfl,h2,c60,Sel.dec (fun h=>?_) (fun h=>?_)⟩
   ·rw[if_neg (by omega),Mb]at ht
    refine⟨fo+1,d- aT r,r- aT r,some (.int ((aT r:Nat):Int)),?_,rfl,by omega,by omega,by omega,by omega⟩
    rw[Of (by omega),Of (by omega)];rfl
   ·rw[if_pos (by omega),Mb]at ht
    exact⟨fo+1,d,aT r,some (.int ((aT r:Nat):Int)),rfl,rfl,by omega,by omega,b3,by omega⟩
  ·exact fin (.inr (by omega))
 ·exact fin (.inl (by omega))
def xI (xs:List V):fv xs none (some (-1))=xs.dropLast:=by
 unfold fv
 rw[HT.lZ,PN,RS,Pt]
 congr 1
 have e:HT.sIx xs.length xs.length (some (-1))=((-1:Int)+(xs.length:Int)).toNat:=by
  show(if (-1:Int)<0 then((-1:Int)+(xs.length:Int)).toNat else min (-1:Int).toNat xs.length)=_
  rw[if_pos (by decide)]
 rw[e];omega
def Bm {H:Hp}{Q:VK}{P:Addr}{ks:List Key}(hP:H P=some (.tup (ks.map kV)))(h:1<=ks.length)(q:Q (kV (ks.getD (ks.length- 1) (.inl 0))) H):aJ K (.ref P) (.int (-1)) H Q:=by
 obtain⟨r,x,rfl⟩:∃r x,ks=r++[x]:=⟨_,_,(List.dropLast_concat_getLast (by intro z;rw[z]at h;simp at h)).symm⟩
 have e:(r++[x]).getD ((r++[x]).length- 1) (.inl 0)=x:=by
  rw[Mi,Mr,MK (by simp)];simp
 rw[e]at q
 rw[MC]at hP
 exact .inl (.inr (.inl ⟨P,_,-1,kV x,rfl,rfl,SqT.of hP,rF _ _,q⟩))
def iN {H:Hp}{f b:Addr}{g:gOp}{n L:Nat}{x y:Key}{Q:VK}(s:Stp A H f b g n)(hn:n<=40000)(hx:okP x=true)(hy:okP y=true)(sz:szK x+szK y<=140+200*L)(hL:L<=60)
  (q:∀(v:Key)(g':gOp)(H':Hp),aI b H H'->Stp A H' f b g' (n+1)->Sub g g'->g' [.inr "joint",x,y]=some v->okP v=true->szK v<=70+200*(L+1)->Q (kV v) H'):
  ∀p1,H p1=none->jz (dh K A) f [.ref p1] (upd H p1 (.tup [.str "joint",kV x,kV y])) Q E0:=fun p1 h1=>by
 have hk:upd H p1 (.tup [.str "joint",kV x,kV y]) p1=some (.tup (([.inr "joint",x,y]:List Key).map kV)):=ag
 refine eU (s.same (pv _) (ar.upd h1)) (by omega) hk (kr hx hy) fun v H' g' kb s' sub gv st=>?_
 have szt:szT [.inr "joint",x,y]=67+(szK x+szK y):=by rw[sz3,szW.2.2.1]
 exact q v g' H' ((aI.same (ar.upd h1)).trans kb) s' sub gv (eV st (by omega)) (by have:=gj st;omega)
def CG (K:cW)(A:Adr)(n:Nat):Ln (ju K A n) 4:=by rintro vs H Q E ⟨f,b,P,c,el,ks,g,m,rfl,_⟩;rfl
def zF (K:cW)(A:Adr):∀vs H Q E,ju K A 0 vs H Q E->False:=by rintro vs H Q E ⟨f,b,P,c,el,ks,g,m,rfl,_,_,_,_,_,_,_,h,_⟩;omega
def IP (T:Txt K mg A)(n:Nat):Rd (ju K A (n+1)) (Ko K A n) ["_law_stamper_here","_law_count","_law_elder","_law_marks","_law_cut","_law_young","_law_old"]:=by
 intro vs H Q E h
 obtain⟨f,b,P,c,el,ks,g,m,rfl,s,hn,e1,ec,c2,hP,kl,lj,l60,en,q⟩:=h
 refine Sel.dec (fun h=>?_) (fun h=>?_)
 ·have eq:el=c:=by have h:(el:Int)=(c:Int):=h;omega
  subst eq
  have ew:bj el el=[]:=eB (.inr (pv _))
  rw[ew]at q kl
  obtain⟨x,hx⟩:∃x,ks[0]?=some x:=⟨_,LV (by rw[kl];simp)⟩
  have ex:=en x (Mz hx)
  have hx':(ks.map kV)[0]?=some (kV x):=by rw[ME,hx];rfl
  refine ixT (j:=0) hP rfl hx' (ixT (j:=0) hP rfl hx' ⟨ax (show 2<=1000000 by decide),fun p hp=>?_⟩)
  refine q p x x g _ (aI.same (ar.upd hp)) (s.same (pv _) (ar.upd hp)) Sub.rfl' ag ex.1 ex.1 ex.2 ex.2 fun h _=>?_
  show(x,x)=(ks.getD 0 (.inl 0),ks.getD 0 (.inl 0))
  rw[Mi,hx];rfl
 ·have lt:el<c:=by have h:¬(el:Int)=(c:Int):=h;omega
  have c2':2<=c:=by omega
  have b1:=il c2'
  have b2:=iA c2'
  refine⟨c,rfl,c2',by omega,Sel.dec (fun hg=>?_) (fun hg=>?_)⟩
  ·have hg:¬el<=aT c:=by have hg:(el:Int)>((aT c:Nat):Int):=hg;omega
   have ew:=Dp e1 lt (by omega) hg
   rw[ew]at q kl lj l60
   rw[Mb]at kl lj l60
   match ks,kl,hP,en,q with
   |x::ks,kl,hP,en,q=>
   rw[Mb]at kl
   have ex:=en x MD
   refine⟨1,rfl,.inl (.inr ⟨P,_,rfl,hP,fun P1 H1 S1 hP1=>?_⟩)⟩
   have hP1:H1 P1=some (.tup (ks.map kV)):=by rw[hP1];exact congrArg (fun z=>some (HO.tup z)) (lL _ 1 (by simp))
   refine⟨f,b,P1,c- aT c,el- aT c,ks,g,m,by rw[Of (by omega),Of (by omega)],s.same (pv _) S1,hn,by omega,by omega,by omega,hP1,by omega,by omega,by omega,fun k hk=>en k (Mm _ hk),fun p y o g1 H2 kb1 s1 sub1 hp oky oko szy szo eq=>?_⟩
   refine⟨p,_,rfl,SqT.of hp,rfl,_,_,rfl,_,_,rfl,rfl,?_⟩
   have kb0:=(aI.same S1).trans kb1
   have hP2:H2 P=some (.tup ((x::ks).map kV)):=kb1.obj (s.same (pv m) S1).bb (S1 _ _ hP) (fun _ z=>nomatch z)
   refine⟨f,rfl,s1.clo,ixT (j:=0) hP2 rfl rfl ⟨ax (show 3<=1000000 by decide),fun p1 h1=>?_⟩⟩
   dsimp only[ak]
   refine iN s1 (by omega) ex.1 oky (L:=(bj (c- aT c) (el- aT c)).length) (by have:=ex.2;omega) (by omega) (fun v g2 H3 kb2 s2 sub2 gv okv szv=>?_) p1 h1
   have hP3:H3 P=some (.tup ((x::ks).map kV)):=kb2.obj s1.bb hP2 (fun _ z=>nomatch z)
   refine⟨f,rfl,s2.clo,ixT (j:=0) hP3 rfl rfl ⟨ax (show 3<=1000000 by decide),fun p2 h2=>?_⟩⟩
   dsimp only[ak]
   refine iN s2 (by omega) ex.1 oko (L:=(bj (c- aT c) (el- aT c)).length) (by have:=ex.2;omega) (by omega) (fun u g3 H4 kb3 s3 sub3 gu oku szu=>?_) p2 h2
   refine⟨ax (show 2<=1000000 by decide),fun r hr=>?_⟩
   refine q r v u g3 _ (kb0.trans (kb2.trans (kb3.trans (aI.same (ar.upd hr))))) (s3.same (by rw[Mb];omega) (ar.upd hr)) (sub1.trans (sub2.trans sub3)) ag okv oku (by rw[Mb];exact szv) (by rw[Mb];exact szu) fun h eh=>?_
   have e0:=eq h (Ext.of (sub2.trans sub3) eh)
   show(v,u)=(h [.inr "joint",x,(tpF h (bj (c- aT c) (el- aT c)) ks).1],h [.inr "joint",x,(tpF h (bj (c- aT c) (el- aT c)) ks).2])
   rw[<-e0,eh _ _ (sub3 _ _ gv),eh _ _ gu]
  ·have hg:el<=aT c:=by have hg:¬(el:Int)>((aT c:Nat):Int):=hg;omega
   have ew:=BL e1 lt (by omega) hg
   rw[ew]at q kl lj l60
   rw[Mb]at kl lj l60
   have k1:1<=ks.length:=by omega
   have ex:enK (ks.getD (ks.length- 1) (.inl 0)):=en _ (by
    rw[Mi,LV (by omega)];exact Nj _)
   refine⟨-1,rfl,.inl (.inr ⟨P,_,rfl,hP,fun P1 H1 S1 hP1=>?_⟩)⟩
   have hP1:H1 P1=some (.tup (ks.dropLast.map kV)):=by rw[hP1,xI,List.map_dropLast]
   refine⟨f,b,P1,aT c,el,ks.dropLast,g,m,rfl,s.same (pv _) S1,hn,e1,hg,by omega,hP1,by rw[PB];omega,by omega,by omega,fun k hk=>en k (by rw[Pt]at hk;exact List.mem_of_mem_take hk),fun p y o g1 H2 kb1 s1 sub1 hp oky oko szy szo eq=>?_⟩
   refine⟨p,_,rfl,SqT.of hp,rfl,_,_,rfl,_,_,rfl,rfl,?_⟩
   have kb0:=(aI.same S1).trans kb1
   have hP2:H2 P=some (.tup (ks.map kV)):=kb1.obj (s.same (pv m) S1).bb (S1 _ _ hP) (fun _ z=>nomatch z)
   refine⟨f,rfl,s1.clo,Bm hP2 k1 ⟨ax (show 3<=1000000 by decide),fun p1 h1=>?_⟩⟩
   dsimp only[ak]
   refine iN s1 (by omega) oky ex.1 (L:=(bj (aT c) el).length) (by have:=ex.2;omega) (by omega) (fun v g2 H3 kb2 s2 sub2 gv okv szv=>?_) p1 h1
   refine⟨ax (show 2<=1000000 by decide),fun r hr=>?_⟩
   refine q r v o g2 _ (kb0.trans (kb2.trans (aI.same (ar.upd hr)))) (s2.same (by rw[Mb];omega) (ar.upd hr)) (sub1.trans sub2) ag okv oko (by rw[Mb];exact szv) (by rw[Mb];omega) fun h eh=>?_
   have e0:=eq h (Ext.of sub2 eh)
   show(v,o)=(h [.inr "joint",(tpF h (bj (aT c) el) ks.dropLast).1,ks.getD (ks.length- 1) (.inl 0)],(tpF h (bj (aT c) el) ks.dropLast).2)
   rw[<-e0,eh _ _ gv]
def iI {H:Hp}{f b:Addr}{g:gOp}{n c:Nat}{y:Key}{Q:VK}(s:Stp A H f b g n)(hn:n<=40000)(hc:c<2^60)(hy:okP y=true)(sz:szK y<=20000)
  (q:∀(v:Key)(g':gOp)(H':Hp),aI b H H'->Stp A H' f b g' (n+1)->Sub g g'->g' [.inr "row",.inl (c:Int),y]=some v->okP v=true->szK v<=50000->Q (kV v) H'):
  ∀p1,H p1=none->jz (dh K A) f [.ref p1] (upd H p1 (.tup [.str "row",.int (c:Int),kV y])) Q E0:=fun p1 h1=>by
 have hk:upd H p1 (.tup [.str "row",.int (c:Int),kV y]) p1=some (.tup (([.inr "row",.inl (c:Int),y]:List Key).map kV)):=ag
 refine eU (s.same (pv _) (ar.upd h1)) (by omega) hk (iV hc hy) fun v H' g' kb s' sub gv st=>?_
 have szt:szT [.inr "row",.inl (c:Int),y]=65+(62+szK y):=by rw[sz3,szW.2.2.2];rfl
 exact q v g' H' ((aI.same (ar.upd h1)).trans kb) s' sub gv (eV st (by omega)) (by have:=gj st;omega)
def Stp.setI {H:Hp}{f b dk C dx:Addr}{g:List Key->Option Key}{n:Nat}{fs fs':List (Str×V)}(s:Stp A H f b g n)(hd:H dk=some (.ins C dx fs))(hf:∀v,fs≠[(("given":Str),v)]):Stp A (upd H dk (.ins C dx fs')) f b g n:=by
 have kx:∀z o,H z=some o->(∀C dx fs,o≠.ins C dx fs)->upd H dk (.ins C dx fs') z=some o:=fun z o e h=>by rw[ao (aF e hd (h _ _ _))];exact e
 have kt:(∃ps,H b=some (.tbl ps))->∃ps,upd H dk (.ins C dx fs') b=some (.tbl ps):=fun⟨ps,e⟩=>⟨ps,kx _ _ e (fun _ _ _ z=>nomatch z)⟩
 cases s with
 |wri hc hb hg=>exact .wri (hc.keep fun z φ e=>kx _ _ e (fun _ _ _ z=>nomatch z)) (hb.imp id kt) hg
 |wea q m h1 h2 hc hb hg=>exact .wea q m h1 h2 (hc.keep fun z φ e=>kx _ _ e (fun _ _ _ z=>nomatch z)) (hb.imp id kt) hg
 |cnt q x kvs hc num hl hs hg=>
  obtain⟨⟨dx2,h1⟩,h2⟩:=num
  have nx:x≠dk:=fun z=>by
   subst z
   rw[h1]at hd
   injection hd with hd
   injection hd with _ _ e3
   exact hf _ e3.symm
  exact .cnt q x kvs (hc.keep fun z φ e=>kx _ _ e (fun _ _ _ z=>nomatch z)) ⟨⟨dx2,by rw[ao nx];exact h1⟩,kx _ _ h2 (fun _ _ _ z=>nomatch z)⟩ hl hs hg
 |sur q0 q1 j j0 j1 kvs hc hb hl hs hg=>exact .sur q0 q1 j j0 j1 kvs (hc.keep fun z φ e=>kx _ _ e (fun _ _ _ z=>nomatch z)) (kx _ _ hb (fun _ _ _ z=>nomatch z)) hl hs hg
def Fl (K:cW)(A:Adr):Ln (nj K A) 1:=by rintro vs H Q E ⟨f,b,g,n,rfl,_⟩;rfl
def Hr (T:Txt K mg A):Rd (nj K A) (JO K A) ["stamper"]:=by
 intro vs H Q E h
 obtain⟨f,b,g,n,rfl,s,hn,q⟩:=h
 refine⟨f,rfl,s.clo,f,b,g,n,rfl,s,by omega,fun O po v g1 H1 k1 s1 sub1 gv okv szv hO pk _=>?_⟩
 cases pk with
 |cons h0 pk=>
 cases pk with
 |cons h1 pk=>
 cases pk with
 |nil=>
 rename_i p1 p2
 refine jf (qs:=[.ref p1]) hO ?_
 dsimp only[ak]
 refine eU s1 (by omega) (k:=[.inr "row",.inl 0,v]) h1.1 h1.2 fun w H3 g3 kb s3 sub3 gw st=>⟨ax (show 2<=1000000 by decide),fun p hp=>?_⟩
 refine q p w g3 _ (k1.trans (kb.trans (aI.same (ar.upd hp)))) (s3.same (pv _) (ar.upd hp)) (sub1.trans sub3) ag (eV st ?_) fun h eh=>?_
 ·rw[sz3,szW.2.2.2]
  show 65+(62+_)<=_
  omega
 ·rw[<-eh _ _ gw,<-eh _ _ (sub3 _ _ gv)]
def FF (K:cW)(A:Adr):Ln (pF K A) 1:=by rintro vs H Q E ⟨v,d,rfl,_⟩;rfl
def Ja (T:Txt K mg A):Rd (pF K A) (KN K A) ["thing"]:=by
 intro vs H Q E h
 obtain⟨v,d,rfl,w,q⟩:=h
 refine⟨v,d,rfl,w,?_⟩
 cases w with
 |int i=>
  refine Sel.yes rfl (Sel.dec (fun h1=>?_) (fun h1=>?_))
  ·have e:fq (.int i)=decide (i<=60):=by
    show decide (1<=i/\i<=60)=_
    by_cases h2:i<=60
    ·rw[decide_eq_true h2,decide_eq_true ⟨h1,h2⟩]
    ·rw[decide_eq_false h2,decide_eq_false fun z=>h2 z.2]
   show Q (.bl (decide (i<=60))) H
   rw[<-e];exact q
  ·have e:fq (.int i)=false:=decide_eq_false fun z=>h1 z.1
   rw[<-e];exact q
 |_=>exact Sel.no rfl q
def Jc (K:cW)(A:Adr):Ln (tW K A) 3:=by rintro vs H Q E ⟨a,x,y,rfl,_⟩;rfl
def LR (T:Txt K mg A):Rd (tW K A) (T_7 K A) ["self","due","came"]:=by
 intro vs H Q E h
 obtain⟨a,x,y,rfl,ha,q⟩:=h
 refine⟨a,rfl,T.ef_Parted_due,.inl ⟨ha,fun dx hdx ne=>?_⟩⟩
 refine⟨a,rfl,T.ef_Parted_came,.inr ⟨dx,_,by rw[ao (Md ne)];exact ag,ag,ne,by show 1<1000;decide,?_⟩⟩
 exact q dx hdx
def DL (K:cW)(A:Adr):Ln (lq K A) 1:=by rintro vs H Q E ⟨v,rfl,_⟩;rfl
def ID (T:Txt K mg A)(vs:List V)(H:Hp)(Q:VK)(E:XK)(h:lq K A vs H Q E):CM K A E {nx:=fun _ H'=>Q .non H',rt:=Q} (L2.start ["answer"] vs) H:=by
 obtain⟨v,rfl,⟨rfl,q⟩|⟨⟨d,w,nd⟩,q⟩⟩:=h
 ·exact Sel.t q
 ·cases w with
  |non=>exact absurd rfl nd
  |bl b=>exact Sel.f q
  |int i=>exact Sel.f q
  |str z=>exact Sel.f q
  |lst _ _=>exact Sel.f q
  |tup _ _=>exact Sel.f q
  |dic _=>exact Sel.f q
def eE {H:Hp}{Q:VK}{a b:Addr}{k l:List Key}(ha:H a=some (.tup (k.map kV)))(hb:H b=some (.tup (l.map kV)))(q:Q (.bl (decide (k=l))) H):bL K (.ref a) (.ref b) H Q:=by
 refine .inl ⟨a,b,_,_,rfl,rfl,SqT.of ha,SqT.of hb,oQ _,oQ _,?_⟩
 by_cases e:k=l
 ·subst e;rw[decide_eq_true rfl]at q⊢;exact q
 ·rw[decide_eq_false e]at q;rw[decide_eq_false fun z=>e (nv z)];exact q
def Gx (K:cW)(A:Adr):Ln (rD K A) 2:=by rintro vs H Q E ⟨x,dx,f,rfl,_⟩;rfl
def JX (T:Txt K mg A):Rd (rD K A) (T_8 K A) ["self","say"]:=by
 intro vs H Q E h
 obtain⟨x,dx,f,rfl,hx,q⟩:=h
 exact⟨x,A.c_Spoken,dx,_,rfl,hx,T.cl_Spoken,T.na_Spoken_answerer,by decide,q⟩
def Gp (T:Txt K mg A)(a0:V)(H:Hp)(Q:VK)(E:XK)(h:vn K A [a0] H Q E):Ez K A (cV ["_law_one"] [a0] []) H Q:=h.elim
def HU (T:Txt K mg A)(a0:V)(H:Hp)(Q:VK)(E:XK)(h:uo K A [a0] H Q E):ET K A (cV ["_law_one"] [a0] []) H Q:=h.elim
def Jg (T:Txt K mg A)(a0:V)(H:Hp)(Q:VK)(E:XK)(h:vx K A [a0] H Q E):EW K A (cV ["_law_question"] [a0] []) H Q:=by
 obtain⟨v,e,q⟩:=h
 exact q
def Gn (T:Txt K mg A)(a0 b0:V)(H:Hp)(Q:VK)(E:XK)(h:uX K A [a0,b0] H Q E):Dv K A (cV ["_law_one","_law_seals"] [a0] [b0]) H Q:=by
 obtain⟨p,sd,kvs,c,mk,e,hp,hs,q⟩:=h
 cases e
 exact .inl ⟨sd,_,rfl,fM.t (k:=hdK c mk) hs hp,q⟩
def Ju (T:Txt K mg A)(a0 b0 b1 b2:V)(H:Hp)(Q:VK)(E:XK)(h:uN K A [a0,b0,b1,b2] H Q E):El K A {nx:=fun _ H'=>Q .non H',rt:=Q} (cV ["_law_question","_law_marks","_law_head_here","_law_elder"] [a0] [b0,b1,b2]) H:=by
 obtain⟨p,m,v,e,ee,h⟩:=h
 cases ee
 refine⟨ax (show 1<=1000000 by decide),fun t ht=>?_⟩
 have S:=ar.upd (o:=.tup [.str "newest"]) ht
 have ht1:upd H t (.tup [.str "newest"]) t=some (.tup (([.inr "newest"]:List Key).map kV)):=ag
 generalize upd H t (.tup [.str "newest"])=H1 at S ht1
 rcases h with⟨hp,q⟩|⟨hp2,c,mk,rfl,hh,hp,q⟩
 ·refine eE (k:=[.inr "newest"]) (l:=[.inr "newest"]) (S _ _ hp) ht1 (Sel.yes (decide_eq_true rfl) (q H1 S))
 ·refine eE (k:=[.inr "growth",.inl c,.inl e]) (l:=[.inr "newest"]) (S _ _ hp) ht1 (Sel.no (decide_eq_false fun z=>by simp at z) ?_)
  have hh1:=S _ _ hh
  have ty:tyN H1 (.ref hp2)=some "tuple":=by unfold tyN;dsimp only;rw[hh1]
  refine⟨by decide,"tuple",ty,Sel.t (ixT (j:=0) hh1 rfl rfl ⟨ax (show 3<=1000000 by decide),fun t2 ht2=>?_⟩)⟩
  have S2:=ar.upd (o:=.tup [.str "growth",.int c,.int e]) ht2
  exact eE (k:=[.inr "growth",.inl c,.inl e]) (l:=[.inr "growth",.inl c,.inl e]) (S2 _ _ (S _ _ hp)) ag (Sel.yes (decide_eq_true rfl) (q _ (S.trans S2)))
def LnA.same {H H':Hp}{ln:Addr}{v w:V}{e:Int}(l:LnA A H ln v w e)(S:ar H H'):LnA A H' ln v w e:=by
 obtain⟨dx,fa,q0,q1,q2,h1,h2⟩:=l
 exact⟨dx,fa,q0,q1,q2,S _ _ h1,h2.keep fun z φ e=>S _ _ e⟩
def Ey (K:cW)(A:Adr):Ln (qm K A) 1:=by rintro vs H Q E ⟨ln,rfl,_⟩;rfl
def IH (T:Txt K mg A):Rd (qm K A) (LC K A) ["self"]:=by
 intro vs H Q E h
 obtain⟨ln,rfl,⟨⟨dx,fa,hl,hc⟩,q⟩|⟨v,m,e,⟨dx,fa,q0,q1,q2,hl,hc⟩,q⟩⟩:=h
 ·refine⟨ln,dx,_,fa,rfl,hl,rfl,⟨_,mS (mS (mS m0)),_,_,hc⟩,ax (show 1<=1000000 by decide),fun p hp=>?_⟩
  have S:=ar.upd (o:=.tup [.str "newest"]) hp
  have hc1:=hc.keep fun z φ e=>S z _ e
  exact⟨_,mS (mS (mS m0)),_,_,hc1,rfl,_,rfl,q _ (S.trans (ar.hide _ ar.rfl'))⟩
 ·refine⟨ln,dx,_,fa,rfl,hl,rfl,⟨_,m0,_,_,hc⟩,ax (show 1<=1000000 by decide),fun p hp=>?_⟩
  have S:=ar.upd (o:=.tup [.str "newest"]) hp
  have hp1:upd H p (.tup [.str "newest"]) p=some (.tup [.str "newest"]):=ag
  generalize upd H p (.tup [.str "newest"])=H1 at S hp1
  have hc1:=hc.keep fun z φ e=>S z _ e
  exact⟨_,m0,_,_,hc1,rfl,p,m,v,e,rfl,.inl ⟨hc1.cells.hide hp1 (fun _ z=>nomatch z),fun H' S'=>q _ (S.trans (ar.hide _ S'))⟩⟩
def HJ (K:cW)(A:Adr):Ln (rA K A) 3:=by rintro vs H Q E ⟨ln,hp,m,c,e,mk,rfl,_⟩;rfl
def Kg (T:Txt K mg A):Rd (rA K A) (T_9 K A) ["self","count","elder"]:=by
 intro vs H Q E h
 obtain⟨ln,hh,m,c,e,mk,rfl,⟨dx,fa,q0,q1,q2,hl,hc⟩,hv,q⟩:=h
 refine⟨ln,dx,_,fa,rfl,hl,rfl,⟨_,m0,_,_,hc⟩,ax (show 3<=1000000 by decide),fun p hp=>?_⟩
 have S:=ar.upd (o:=.tup [.str "growth",.int c,.int e]) hp
 have hp1:upd H p (.tup [.str "growth",.int c,.int e]) p=some (.tup [.str "growth",.int c,.int e]):=ag
 generalize upd H p (.tup [.str "growth",.int c,.int e])=H1 at S hp1
 have hc1:=hc.keep fun z φ e=>S z _ e
 exact⟨_,m0,_,_,hc1,rfl,p,m,.ref hh,e,rfl,.inr ⟨hh,c,mk,rfl,hc1.cells.hide (S _ _ hv) (fun _ z=>nomatch z),hc1.cells.hide hp1 (fun _ z=>nomatch z),fun H' S'=>q _ (S.trans (ar.hide _ S'))⟩⟩
section
variable {l l':List Addr}{H H' H'':Hp}{b x:Addr}{o:HO}
def KM.same (S:ar H H'):KM l H H':=fun z o _ e=>S z o e
def KM.trans (a:KM l H H')(c:KM l H' H''):KM l H H'':=fun z o n e=>c z o n (a z o n e)
def KM.kb (k:aI b H H')(h:b∈l):KM l H H':=fun z o n e=>k z o (fun q=>n (q▸h)) e
def KM.upd (h:x∈l):KM l H (L2.upd H x o):=fun z u n e=>by
 rw[ao (show z≠x from fun q=>n (q▸h))];exact e
end
def cR {z b x:Addr}(h1:z≠b)(h2:z≠x):z∉[b,x]:=fun q=>by
 simp only[LZ,Mp,or_false]at q
 exact q.elim h1 h2
section
variable {H H':Hp}{dk f b qs hd sd:Addr}{n N:Nat}{v:Key}{g:gOp}{kvs:List (List Key×V)}
def DkA.same (d:DkA A H dk f qs hd n v)(S:ar H H'):DkA A H' dk f qs hd n v:=by
 obtain⟨dx,B,e⟩:=d.ob
 exact⟨⟨dx,B,S _ _ e⟩,S _ _ d.hh,d.ok,d.n6⟩
def DkA.kb (d:DkA A H dk f qs hd n v)(s:Stp A H f b g N)(k:aI b H H'):DkA A H' dk f qs hd n v:=by
 obtain⟨dx,B,e⟩:=d.ob
 exact⟨⟨dx,B,k.obj s.bb e (fun _ z=>nomatch z)⟩,k.obj s.bb d.hh (fun _ z=>nomatch z),d.ok,d.n6⟩
def SlA.keep (h:SlA H qs sd kvs)(kx:∀z φ,H z=some (.ext φ)->H' z=some (.ext φ))(kd:H' sd=some (.dT kvs)):SlA H' qs sd kvs:=by
 obtain⟨⟨q,hc⟩,_⟩:=h
 exact⟨⟨q,hc.keep kx⟩,kd⟩
def SlA.same (h:SlA H qs sd kvs)(S:ar H H'):SlA H' qs sd kvs:=h.keep (fun z φ e=>S _ _ e) (S _ _ h.2)
end
def xu {d:Dat}(h:fq d=true):∃B:Int,d=.int B:=by
 cases d with
 |int i=>exact⟨i,rfl⟩
 |non=>cases h
 |bl _=>cases h
 |str _=>cases h
 |lst _=>cases h
 |tup _=>cases h
 |dic=>cases h
def Ga (K:cW)(A:Adr):Ln (lU K A) 4:=by rintro vs H Q E ⟨dk,dx,f,b,qs,v,d,g,N,rfl,_⟩;rfl
def Ll (T:Txt K mg A)(vs:List V)(H:Hp)(Q:VK)(E:XK)(h:lU K A vs H Q E):T_1 K A E {nx:=fun _ H'=>Q .non H',rt:=Q} (L2.start ["self","stamper","bits","knows"] vs) H:=by
 obtain⟨dk,dx,f,b,qs,v,d,g,N,rfl,hd,dw,s,hN,⟨hb,q⟩|⟨hb,q⟩⟩:=h
 ·refine⟨v,d,rfl,dw,?_⟩
  rw[hb]
  exact Sel.t q
 obtain⟨B,rfl⟩:=xu hb
 cases dw
 refine⟨_,_,rfl,.int B,?_⟩
 rw[hb]
 refine Sel.f ⟨dk,A.c_Desk,dx,_,rfl,hd,T.cl_Desk,T.na_Desk_stamper,by decide,?_⟩
 refine⟨dk,A.c_Desk,dx,_,rfl,ag,T.cl_Desk,T.na_Desk_bits,(by show 1<1000;decide),?_⟩
 refine⟨dk,A.c_Desk,dx,_,rfl,ag,T.cl_Desk,T.na_Desk_asks_seal,(by show 2<1000;decide),?_⟩
 rw[fN,fN]
 have s1:=s.setI (fs':=[("stamper",.ref f),("bits",.int B),("asks_seal",.ref qs)]) hd (fun v z=>by cases z)
 have hd1:upd H dk (.ins A.c_Desk dx [("stamper",.ref f),("bits",.int B),("asks_seal",.ref qs)]) dk=some (.ins A.c_Desk dx [("stamper",.ref f),("bits",.int B),("asks_seal",.ref qs)]):=ag
 have k1:∀z o,z≠dk->H z=some o->upd H dk (.ins A.c_Desk dx [("stamper",.ref f),("bits",.int B),("asks_seal",.ref qs)]) z=some o:=fun z o nz e=>by rw[ao nz];exact e
 suffices key:∀H1:Hp,Stp A H1 f b g N->H1 dk=some (.ins A.c_Desk dx [("stamper",.ref f),("bits",.int B),("asks_seal",.ref qs)])->(∀z o,z≠dk->H z=some o->H1 z=some o)->iM K (af 0) (az (nj K A) (fun _=>E0) (ae (af 1) ak)) "held" {nx:=fun _ H'=>Q .non H',rt:=Q} (L2.start ["self","stamper","bits","knows"] [.ref dk,.ref f,.int B,.ref qs]) H1 from key _ s1 hd1 k1
 clear s1 hd1 k1
 intro H1 s1 hd1 k1
 refine⟨f,b,g,N,rfl,s1,by omega,fun p v0 g' H2 kb s2 sub hp okv ev=>?_⟩
 have hd2:=kb.obj s1.bb hd1 (fun _ z=>nomatch z)
 refine⟨dk,A.c_Desk,dx,_,rfl,hd2,T.cl_Desk,T.na_Desk_held,(by show 3<1000;decide),?_⟩
 refine q p v0 g' _ (fun z o nz e=>?_) (s2.setI hd2 (fun v z=>by cases z)) sub ⟨⟨dx,B,ag⟩,?_,okv,by decide⟩ ev
 ·have nb:z≠b:=fun q=>nz (by simp[q])
  have nd:z≠dk:=fun q=>nz (by simp[q])
  rw[ao nd];exact kb _ _ nb (k1 _ _ nd e)
 ·rw[ao (aF hp hd2 (fun z=>nomatch z))];exact hp
def lm {H:Hp}{v:V}{d:Dat}{c:Nat}{mk:Key}(w:aG H v d)(gd:GdH d c mk):∃hp,v=.ref hp/\H hp=some (.tup [.int (c:Int),kV mk]):=sO (gd.e▸w)
def GdH.yes {d:Dat}{c:Nat}{mk:Key}(gd:GdH d c mk):cm d=true:=by rw[gd.e];exact qJ gd.c6 gd.ok
def Hs (K:cW)(A:Adr):Ln (rl K A) 2:=by rintro vs H Q E ⟨dk,f,qs,hd,sd,kvs,n,v0,v,d,rfl,_⟩;rfl
def Lv (T:Txt K mg A)(vs:List V)(H:Hp)(Q:VK)(E:XK)(h:rl K A vs H Q E):T_2 K A E {nx:=fun _ H'=>Q .non H',rt:=Q} (L2.start ["self","head"] vs) H:=by
 obtain⟨dk,f,qs,hd,sd,kvs,n,v0,v,d,rfl,dd,⟨⟨q,cl⟩,hs⟩,dw,⟨hF,q1⟩|⟨c,mk,gd,q1⟩⟩:=h
 ·exact⟨v,d,rfl,dw,fun z=>(by rw[hF]at z;cases z),fun _=>q1 H ar.rfl'⟩
 refine⟨v,d,rfl,dw,fun _=>?_,fun z=>(by rw[gd.yes]at z;cases z)⟩
 obtain⟨hp,rfl,hh⟩:=lm dw gd
 obtain⟨dx,B,ob⟩:=dd.ob
 refine⟨dk,dx,_,qs,rfl,ob,rfl,⟨_,mS m0,_,_,cl⟩,_,mS m0,_,_,cl,rfl,hp,sd,kvs,c,mk,rfl,cl.cells.hide hh (fun _ z=>nomatch z),cl.cells.hide hs (fun _ z=>nomatch z),?_⟩
 dsimp only
 rw[tZ]
 rcases q1 with⟨hse,q1⟩|⟨hse,q1⟩
 ·rw[hse]
  exact Sel.t (q1 H ar.rfl')
 rw[hse]
 refine Sel.f (ixT (j:=0) hh rfl rfl ⟨dk,A.c_Desk,dx,_,_,rfl,ob,T.cl_Desk,T.na_Desk_held,rfl,ixT (j:=0) dd.hh rfl rfl ?_⟩)
 rcases q1 with⟨lt,q1⟩|⟨le,q1⟩
 ·exact Sel.yes (decide_eq_true (show(c:Int)<n by omega)) (q1 H ar.rfl')
 ·exact Sel.no (decide_eq_false (show ¬(c:Int)<n by omega)) (q1 H ar.rfl')
def yH {a b:Nat}(h:Dat.int (a:Int)=Dat.int (b:Int)):b=a:=by
 have:(a:Int)=(b:Int):=by injection h
 omega
section
variable {H H':Hp}{dk f b qs hd sd:Addr}{n N:Nat}{v0:Key}{g:gOp}{kvs:List (List Key×V)}{o:Out}{E:XK}{Q:VK}{v:V}{d:Dat}
def HrA.same (x:HrA A H dk f b qs hd sd kvs n v0 g N)(S:ar H H'):HrA A H' dk f b qs hd sd kvs n v0 g N:=⟨x.dk.same S,x.sl.same S,x.s.same (pv _) S,x.hN,x.sb⟩
def lF.same (h:lF A H f b g N o E)(S:ar H H'):lF A H' f b g N o E:=
 ⟨fun i hi e g' H'' k=>h.1 i hi e g' H'' ((aI.same S).trans k),fun i x y hi e ox oy dx g' H'' k=>h.2 i x y hi e ox oy dx g' H'' ((aI.same S).trans k)⟩
def rg.same (h:rg A H dk f b qs g N o v d Q)(S:ar H H'):rg A H' dk f b qs g N o v d Q:=fun e hv c mk g' H'' ev gd k=>h e hv c mk g' H'' ev gd ((KM.same S).trans k)
end
def Hw (K:cW)(A:Adr):Ln (jW K A) 3:=by rintro vs H Q E ⟨dk,f,b,qs,hd,sd,kvs,n,v0,g,N,v,m,d,k,o,rfl,_⟩;rfl
def Kt (T:Txt K mg A)(vs:List V)(H:Hp)(Q:VK)(E:XK)(h:jW K A vs H Q E):T_4 K A E {nx:=fun _ H'=>Q .non H',rt:=Q} (L2.start ["self","head","marks","came"] vs) H:=by
 obtain⟨dk,f,b,qs,hd,sd,kvs,n,v0,g,N,v,m,d,k,o,rfl,⟨dd,sl,s,hN,sb⟩,dw,mw,sh,due,rq,aq⟩:=h
 obtain⟨dx,B,ob⟩:=dd.ob
 refine⟨dk,dx,_,rfl,ob,rfl,dk,f,qs,hd,sd,kvs,n,v0,v,d,rfl,dd,sl,dw,?_⟩
 have eR:∀i,i<=6->o=.ref i->∀H1,ar H H1->E (.ref (cE A i)) none H1:=fun i hi e H1 S1=>rq.1 i hi e g H1 (aI.same S1) (s.same (by omega) S1) Sub.rfl'
 cases due with
 |head hF=>exact .inl ⟨hF,eR 0 (by decide) rfl⟩
 |unse gd h=>exact .inr ⟨_,_,gd,.inl ⟨h,eR 1 (by decide) rfl⟩⟩
 |eld gd h lt=>exact .inr ⟨_,_,gd,.inr ⟨h,.inl ⟨lt,eR 2 (by decide) rfl⟩⟩⟩
 | @pap c mk gd h le hk=>
   refine .inr ⟨_,_,gd,.inr ⟨h,.inr ⟨le,fun H1 S1=>?_⟩⟩⟩
   have c6:=gd.c6
   refine⟨dk,A.c_Desk,dx,_,_,rfl,S1 _ _ ob,T.cl_Desk,T.na_Desk_stamper,rfl,dk,A.c_Desk,dx,_,_,rfl,S1 _ _ ob,T.cl_Desk,T.na_Desk_held,rfl,ixT (j:=0) (dd.same S1).hh rfl rfl ?_⟩
   refine⟨f,b,g,N,v,.int (n:Int),m,d,.int (n:Int),k,rfl,⟨s.same (pv _) S1,by omega,.int _,mw.mono S1,sh⟩,dw.mono S1,.inr ⟨c,mk,gd.e,gd.c6,gd.ok,fun z=>(by rw[qr le gd.c6]at z;cases z),fun el e1 _=>.inl ?_⟩⟩
   cases yH e1
   exact⟨hk,fun H2 S2=>eR 3 (by decide) rfl H2 (S1.trans S2)⟩
 | @good c mk tm tu ks gd h le hk ht hu=>
   refine .inr ⟨_,_,gd,.inr ⟨h,.inr ⟨le,fun H1 S1=>?_⟩⟩⟩
   have c6:=gd.c6
   have dd1:=dd.same S1
   have s1:=s.same (pv N) S1
   have dw1:=dw.mono S1
   obtain⟨hp,rfl,hh⟩:=lm dw1 gd
   refine⟨dk,A.c_Desk,dx,_,_,rfl,S1 _ _ ob,T.cl_Desk,T.na_Desk_stamper,rfl,dk,A.c_Desk,dx,_,_,rfl,S1 _ _ ob,T.cl_Desk,T.na_Desk_held,rfl,ixT (j:=0) dd1.hh rfl rfl ?_⟩
   refine⟨f,b,g,N,_,.int (n:Int),m,d,.int (n:Int),k,rfl,⟨s1,by omega,.int _,mw.mono S1,sh⟩,dw1,.inr ⟨c,mk,gd.e,gd.c6,gd.ok,fun z=>(by rw[qr le gd.c6]at z;cases z),fun el e1 _=>.inr ?_⟩⟩
   cases yH e1
   refine⟨ks,hk,fun w g2 H2 k2 s2 sub2 okw ew=>?_⟩
   have ewt:w=tm:=by rw[ew _ (Ext.refl' g2),<-ht _ (Ext.of sub2 (Ext.refl' g2))]
   subst ewt
   refine⟨fun ewm u g3 H3 k3 s3 sub3 oku eu=>?_,fun nwm dx' H3 S3 hdx=>?_⟩
   ·have eut:u=tu:=by rw[eu _ (Ext.refl' g3),<-hu _ (Ext.of (sub2.trans sub3) (Ext.refl' g3))]
    subst eut
    have dd3:=(dd1.kb s1 k2).kb s2 k3
    obtain⟨dx3,B3,ob3⟩:=dd3.ob
    have kk:aI b H H3:=(aI.same S1).trans (k2.trans k3)
    have hh3:H3 hp=some (.tup [.int (c:Int),kV mk]):=k3.obj s2.bb (k2.obj s1.bb hh (fun _ z=>nomatch z)) (fun _ z=>nomatch z)
    refine⟨dk,A.c_Desk,dx3,_,_,rfl,ob3,T.cl_Desk,T.na_Desk_held,rfl,ixT (j:=1) dd3.hh rfl rfl (iH ?_)⟩
    by_cases e:u=v0
    ·refine Sel.no (by rw[decide_eq_true e];rfl) ⟨dk,A.c_Desk,dx3,_,rfl,ob3,T.cl_Desk,T.na_Desk_held,(by show 4<1000;decide),?_⟩
     have eo:dD mk w v0 u=.held:=by unfold dD;rw[if_pos ewm,if_pos e]
     refine aq eo hp c mk g3 _ rfl gd (fun z o nz ez=>?_) ((s3.setI ob3 (fun v z=>by cases z)).same (by omega) ar.rfl') (sub2.trans sub3) ⟨⟨dx3,B3,ag⟩,?_,gd.ok,gd.c6⟩
     ·have nb:z≠b:=fun q=>nz (by simp[q])
      have nd:z≠dk:=fun q=>nz (by simp[q])
      rw[ao nd];exact kk _ _ nb ez
     ·rw[ao (aF hh3 ob3 (fun z=>nomatch z))];exact hh3
    ·have eo:dD mk w v0 u=.bad 5 v0 u:=by unfold dD;rw[if_pos ewm,if_neg e]
     refine Sel.yes (by rw[decide_eq_false e];rfl) ⟨dk,A.c_Desk,dx3,_,_,rfl,ob3,T.cl_Desk,T.na_Desk_held,rfl,ixT (j:=1) dd3.hh rfl rfl fun a ha=>⟨a,kV v0,kV u,rfl,ag,fun dx hdx=>⟨rfl,some dx,?_,?_⟩⟩⟩
     ·obtain⟨nd,_⟩:=dB hdx
      rw[ao (Md nd),ao (Md nd)];exact ag
     ·obtain⟨nd,hd0⟩:=dB hdx
      have S4:ar H3 (jP a (upd (upd (upd (upd H3 a (fh A.c_Parted a none)) a (fh A.c_Parted a (some dx))) dx (fL [("due",kV v0)] dx)) dx (fL (dg "came" (kV u) [("due",kV v0)]) dx))):=fun z o ez=>by
       have na:=av ez ha
       have nz:=av ez hd0
       rw[eA na,ao nz,ao nz,ao na,ao na];exact ez
      exact rq.2 5 v0 u (by decide) eo dd.ok oku dx g3 _ (kk.trans (aI.same S4)) (s3.same (by omega) S4) (sub2.trans sub3) (by rw[eA nd];exact ag)
   ·have eo:dD mk w v0 tu=.bad 4 mk w:=by unfold dD;rw[if_neg nwm]
    exact rq.2 4 mk w (by decide) eo gd.ok okw dx' g2 H3 ((aI.same S1).trans (k2.trans (aI.same S3))) (s2.same (by omega) S3) sub2 hdx
def jq {k:Dat}{o:Out}(h:k≠.non):fY k o=o:=by
 cases k with
 |non=>exact absurd rfl h
 |bl _=>rfl
 |int _=>rfl
 |str _=>rfl
 |lst _=>rfl
 |tup _=>rfl
 |dic=>rfl
def lh {k:Dat}{i:Nat}(h:i≠3):fY k (.ref i)=.ref i:=by
 by_cases hk:k=.non
 ·subst hk
  unfold fY
  split
  ·rename_i e;cases e;exact absurd rfl h
  ·rfl
 ·exact jq hk
def sm {H:Hp}{v:V}(h:aG H v .non):v=.non:=by cases h;rfl
def FP (K:cW)(A:Adr):Ln (uk K A) 2:=by rintro vs H Q E ⟨dk,f,b,qs,hd,sd,ln,kvs,n,v0,g,N,rfl,_⟩;rfl
def Lo (T:Txt K mg A)(vs:List V)(H:Hp)(Q:VK)(E:XK)(h:uk K A vs H Q E):T_3 K A E {nx:=fun _ H'=>Q .non H',rt:=Q} (L2.start ["self","line","head"] vs) H:=by
 obtain⟨dk,f,b,qs,hd,sd,ln,kvs,n,v0,g,N,rfl,x,⟨l,rq⟩|⟨v,m,d,k,o,l,dw,nd,mw,sh,due,rq,aq⟩⟩:=h
 ·obtain⟨dxl,fa,hl,hc⟩:=id l
  exact⟨ln,dxl,_,rfl,hl,rfl,ln,rfl,.inl ⟨l,fun H1 S1=>⟨.non,rfl,.inl ⟨rfl,rq.1 6 (by decide) rfl g H1 (aI.same S1) (x.s.same (by omega) S1) Sub.rfl'⟩⟩⟩⟩
 obtain⟨dxl,fa,q0,q1,q2,hl,hc⟩:=id l
 refine⟨ln,dxl,_,rfl,hl,rfl,ln,rfl,.inr ⟨v,m,(n:Int),l,fun H1 S1=>⟨v,rfl,.inr ⟨⟨d,dw.mono S1,nd⟩,?_⟩⟩⟩⟩
 have x1:=x.same S1
 have l1:=l.same S1
 obtain⟨dx,B,ob1⟩:=x1.dk.ob
 refine⟨dk,dx,_,rfl,ob1,rfl,dk,f,qs,hd,sd,kvs,n,v0,v,d,rfl,x1.dk,x1.sl,dw.mono S1,?_⟩
 have eR:∀i,i<=6->fY k o=.ref i->∀H1,ar H H1->E (.ref (cE A i)) none H1:=fun i hi e H1 S1=>rq.1 i hi e g H1 (aI.same S1) (x.s.same (by omega) S1) Sub.rfl'
 have go:∀(c:Nat)(mk:Key)(H2:Hp),GdH d c mk->ar H1 H2->(k=.non->o=.ref 3)->aO (eC A.c_Desk "hear" (jW K A) (fun _=>E) (af 0) (ae (af 2) (ae (az (lq K A) (fun _=>E) (ae (eC A.c_Spoken "growth" (rA K A) (fun _=>E0) (af 1) (ae (tOp (aJ K) (af 2) (tC (.int 0))) (ae (tOp (aJ K) (eK K (af 0) "held") (tC (.int 0))) (ak)))) (ak))) (ak)))) {nx:=fun _ H'=>Q .non H',rt:=Q} [some (.ref dk),some (.ref ln),some v] H2:=fun c mk H2 gd S2 hk=>by
  have x2:=x1.same S2
  have l2:=l1.same S2
  have ob2:=S2 _ _ ob1
  obtain⟨hp,rfl,hh2⟩:=lm (dw.mono (S1.trans S2)) gd
  obtain⟨dxl2,fa2,q02,q12,q22,hl2,hc2⟩:=id l2
  refine⟨dk,dx,_,rfl,ob2,rfl,ln,dxl2,_,rfl,hl2,rfl,ixT (j:=0) hh2 rfl rfl ⟨dk,A.c_Desk,dx,_,_,rfl,ob2,T.cl_Desk,T.na_Desk_held,rfl,ixT (j:=0) x2.dk.hh rfl rfl ?_⟩⟩
  refine⟨ln,hp,m,_,_,mk,rfl,l2,hh2,fun H3 S3=>⟨m,rfl,?_⟩⟩
  have S:=S1.trans (S2.trans S3)
  by_cases kn:k=.non
  ·have ho:=hk kn
   subst kn
   subst ho
   exact .inl ⟨sm mw,eR 6 (by decide) rfl H3 S⟩
  ·rw[jq kn]at rq
   exact .inr ⟨⟨k,mw.mono S,kn⟩,dk,f,b,qs,hd,sd,kvs,n,v0,g,N,_,m,d,k,o,rfl,x2.same S3,dw.mono S,mw.mono S,sh,due,rq.same S,aq.same S⟩
 cases id due with
 |head hF=>exact .inl ⟨hF,fun H2 S2=>eR 0 (by decide) (lh (by decide)) H2 (S1.trans S2)⟩
 |unse gd h=>exact .inr ⟨_,_,gd,.inl ⟨h,fun H2 S2=>eR 1 (by decide) (lh (by decide)) H2 (S1.trans S2)⟩⟩
 |eld gd h lt=>exact .inr ⟨_,_,gd,.inr ⟨h,.inl ⟨lt,fun H2 S2=>eR 2 (by decide) (lh (by decide)) H2 (S1.trans S2)⟩⟩⟩
 |pap gd h le hk=>exact .inr ⟨_,_,gd,.inr ⟨h,.inr ⟨le,fun H2 S2=>go _ _ H2 gd S2 fun _=>rfl⟩⟩⟩
 |good gd h le hk ht hu=>exact .inr ⟨_,_,gd,.inr ⟨h,.inr ⟨le,fun H2 S2=>go _ _ H2 gd S2 fun z=>by rw[hk.e]at z;cases z⟩⟩⟩
theorem eoE (T:Txt K mg A):∀i:Nat,i<7->bT K (cE A i)
 |0,_=>T.eo_NoHead
 |1,_=>T.eo_Unsealed
 |2,_=>T.eo_Elder
 |3,_=>T.eo_NoPaper
 |4,_=>T.eo_Broken
 |5,_=>T.eo_Parted
 |6,_=>T.eo_Silent
 |i+7,h=>absurd h (by omega)
theorem egE (T:Txt K mg A):∀i:Nat,i<7->cu K (cE A i)
 |0,_=>T.eg_NoHead
 |1,_=>T.eg_Unsealed
 |2,_=>T.eg_Elder
 |3,_=>T.eg_NoPaper
 |4,_=>T.eg_Broken
 |5,_=>T.eg_Parted
 |6,_=>T.eg_Silent
 |i+7,h=>absurd h (by omega)
theorem sbE (T:Txt K mg A):∀i:Nat,i<7->cw K (cE A i) A.c_StampError=some true
 |0,_=>T.sb_NoHead_StampError
 |1,_=>T.sb_Unsealed_StampError
 |2,_=>T.sb_Elder_StampError
 |3,_=>T.sb_NoPaper_StampError
 |4,_=>T.sb_Broken_StampError
 |5,_=>T.sb_Parted_StampError
 |6,_=>T.sb_Silent_StampError
 |i+7,h=>absurd h (by omega)
theorem JQ (T:Txt K mg A):∀i:Nat,i<7->Gt K (.ref (cE A i)) (.ref A.c_NoHead)=some (decide (i=0))
 |0,_=>T.ki_NoHead_NoHead
 |1,_=>T.ki_Unsealed_NoHead
 |2,_=>T.ki_Elder_NoHead
 |3,_=>T.ki_NoPaper_NoHead
 |4,_=>T.ki_Broken_NoHead
 |5,_=>T.ki_Parted_NoHead
 |6,_=>T.ki_Silent_NoHead
 |i+7,h=>absurd h (by omega)
theorem KF (T:Txt K mg A):∀i:Nat,i<7->Gt K (.ref (cE A i)) (.ref A.c_Unsealed)=some (decide (i=1))
 |0,_=>T.ki_NoHead_Unsealed
 |1,_=>T.ki_Unsealed_Unsealed
 |2,_=>T.ki_Elder_Unsealed
 |3,_=>T.ki_NoPaper_Unsealed
 |4,_=>T.ki_Broken_Unsealed
 |5,_=>T.ki_Parted_Unsealed
 |6,_=>T.ki_Silent_Unsealed
 |i+7,h=>absurd h (by omega)
theorem Lw (T:Txt K mg A):∀i:Nat,i<7->Gt K (.ref (cE A i)) (.ref A.c_Elder)=some (decide (i=2))
 |0,_=>T.ki_NoHead_Elder
 |1,_=>T.ki_Unsealed_Elder
 |2,_=>T.ki_Elder_Elder
 |3,_=>T.ki_NoPaper_Elder
 |4,_=>T.ki_Broken_Elder
 |5,_=>T.ki_Parted_Elder
 |6,_=>T.ki_Silent_Elder
 |i+7,h=>absurd h (by omega)
theorem KI (T:Txt K mg A):∀i:Nat,i<7->Gt K (.ref (cE A i)) (.ref A.c_NoPaper)=some (decide (i=3))
 |0,_=>T.ki_NoHead_NoPaper
 |1,_=>T.ki_Unsealed_NoPaper
 |2,_=>T.ki_Elder_NoPaper
 |3,_=>T.ki_NoPaper_NoPaper
 |4,_=>T.ki_Broken_NoPaper
 |5,_=>T.ki_Parted_NoPaper
 |6,_=>T.ki_Silent_NoPaper
 |i+7,h=>absurd h (by omega)
theorem ue (T:Txt K mg A):∀i:Nat,i<7->Gt K (.ref (cE A i)) (.ref A.c_Broken)=some (decide (i=4))
 |0,_=>T.ki_NoHead_Broken
 |1,_=>T.ki_Unsealed_Broken
 |2,_=>T.ki_Elder_Broken
 |3,_=>T.ki_NoPaper_Broken
 |4,_=>T.ki_Broken_Broken
 |5,_=>T.ki_Parted_Broken
 |6,_=>T.ki_Silent_Broken
 |i+7,h=>absurd h (by omega)
theorem yY (T:Txt K mg A):∀i:Nat,i<7->Gt K (.ref (cE A i)) (.ref A.c_Parted)=some (decide (i=5))
 |0,_=>T.ki_NoHead_Parted
 |1,_=>T.ki_Unsealed_Parted
 |2,_=>T.ki_Elder_Parted
 |3,_=>T.ki_NoPaper_Parted
 |4,_=>T.ki_Broken_Parted
 |5,_=>T.ki_Parted_Parted
 |6,_=>T.ki_Silent_Parted
 |i+7,h=>absurd h (by omega)
theorem LE (T:Txt K mg A):∀i:Nat,i<7->Gt K (.ref (cE A i)) (.ref A.c_Silent)=some (decide (i=6))
 |0,_=>T.ki_NoHead_Silent
 |1,_=>T.ki_Unsealed_Silent
 |2,_=>T.ki_Elder_Silent
 |3,_=>T.ki_NoPaper_Silent
 |4,_=>T.ki_Broken_Silent
 |5,_=>T.ki_Parted_Silent
 |6,_=>T.ki_Silent_Silent
 |i+7,h=>absurd h (by omega)
theorem KY (T:Txt K mg A):∀i:Nat,i<7->Gt K (.ref (cE A i)) (.type "ValueError")=some true
 |0,_=>T.ki_NoHead_ValueError
 |1,_=>T.ki_Unsealed_ValueError
 |2,_=>T.ki_Elder_ValueError
 |3,_=>T.ki_NoPaper_ValueError
 |4,_=>T.ki_Broken_ValueError
 |5,_=>T.ki_Parted_ValueError
 |6,_=>T.ki_Silent_ValueError
 |i+7,h=>absurd h (by omega)
def Fo (K:cW)(A:Adr):Ln (lp K A) 1:=by rintro vs H Q E ⟨v,i,rfl,_⟩;rfl
def Gm (T:Txt K mg A):Rd (lp K A) (Lc K A) ["_law_caught_here","_law_kinds"]:=by
 intro vs H Q E h
 obtain⟨v,i,rfl,⟨lt,a,d,rfl,ha⟩,q⟩:=h
 have hC:=eoE T i lt
 have hG:=egE T i lt
 refine⟨a,_,_,_,_,_,rfl,ha,hC,hG,rfl,fun _ e=>e,JQ T i lt,a,_,_,_,_,_,rfl,ha,hC,hG,rfl,fun _ e=>e,KF T i lt,a,_,_,_,_,_,rfl,ha,hC,hG,rfl,fun _ e=>e,Lw T i lt,ax (show 3<=1000000 by decide),fun p1 h1=>?_⟩
 have ha1:∀xs,upd H p1 (.lst xs) a=some (gP (cE A i) d a):=fun xs=>ar.upd h1 _ _ ha
 refine⟨a,_,_,_,_,_,rfl,ha1 _,hC,hG,rfl,fun _ e=>e,KI T i lt,a,_,_,_,_,_,rfl,ha1 _,hC,hG,rfl,fun _ e=>e,ue T i lt,a,_,_,_,_,_,rfl,ha1 _,hC,hG,rfl,fun _ e=>e,yY T i lt,ax (show 3<=1000000 by decide),fun p2 h2=>?_⟩
 have n12:p1≠p2:=av ag h2
 refine .inl ⟨p1,p2,_,_,rfl,rfl,by rw[ao n12];exact ag,ag,ax (by exact(show 6<=1000000 by decide)),fun p3 h3=>?_⟩
 have S3:ar H (upd (upd (upd H p1 (.lst [V.bl (decide (i=0)),.bl (decide (i=1)),.bl (decide (i=2))])) p2 (.lst [V.bl (decide (i=3)),.bl (decide (i=4)),.bl (decide (i=5))])) p3 (.lst ([V.bl (decide (i=0)),.bl (decide (i=1)),.bl (decide (i=2))]++[V.bl (decide (i=3)),.bl (decide (i=4)),.bl (decide (i=5))]))):=(ar.upd h1).trans ((ar.upd h2).trans (ar.upd h3))
 have hp3:upd (upd (upd H p1 (.lst [V.bl (decide (i=0)),.bl (decide (i=1)),.bl (decide (i=2))])) p2 (.lst [V.bl (decide (i=3)),.bl (decide (i=4)),.bl (decide (i=5))])) p3 (.lst ([V.bl (decide (i=0)),.bl (decide (i=1)),.bl (decide (i=2))]++[V.bl (decide (i=3)),.bl (decide (i=4)),.bl (decide (i=5))])) p3=some (.lst ([V.bl (decide (i=0)),.bl (decide (i=1)),.bl (decide (i=2))]++[V.bl (decide (i=3)),.bl (decide (i=4)),.bl (decide (i=5))])):=ag
 show wC K A {nx:=fun _ H'=>Q .non H',rt:=Q} [some (.ref a),some (.ref p3)] _
 generalize upd (upd (upd H p1 (.lst [V.bl (decide (i=0)),.bl (decide (i=1)),.bl (decide (i=2))])) p2 (.lst [V.bl (decide (i=3)),.bl (decide (i=4)),.bl (decide (i=5))])) p3 (.lst ([V.bl (decide (i=0)),.bl (decide (i=1)),.bl (decide (i=2))]++[V.bl (decide (i=3)),.bl (decide (i=4)),.bl (decide (i=5))]))=H3 at S3 hp3
 have ha3:=S3 _ _ ha
 refine⟨a,_,_,_,_,_,rfl,ha3,hC,hG,rfl,fun _ e=>e,LE T i lt,a,_,_,_,_,_,rfl,ha3,hC,hG,rfl,fun _ e=>e,KY T i lt,ax (show 2<=1000000 by decide),fun p4 h4=>?_⟩
 refine .inl ⟨p3,p4,_,_,rfl,rfl,ar.upd h4 _ _ hp3,ag,ax (by exact(show 8<=1000000 by decide)),fun p5 h5=>?_⟩
 have e8:(([V.bl (decide (i=0)),.bl (decide (i=1)),.bl (decide (i=2))]++[V.bl (decide (i=3)),.bl (decide (i=4)),.bl (decide (i=5))])++[V.bl (decide (i=6)),.bl true])=(fA i).map V.bl:=by
  have:i=0\/i=1\/i=2\/i=3\/i=4\/i=5\/i=6:=by omega
  rcases this with rfl|rfl|rfl|rfl|rfl|rfl|rfl<;>rfl
 rw[e8]
 exact q p5 _ (S3.trans ((ar.upd h4).trans (ar.upd h5))) ag
theorem mv (H:Hp):∀bs:List Bool,DatWs H (bs.map V.bl) (bs.map Dat.bl)
 |[]=>.nil
 |b::r=>.cons (.bl b) (mv H r)
theorem lQ:∀bs:List Bool,okDs (bs.map Dat.bl)=true
 |[]=>rfl
 |_::r=>lQ r
def nQ {x:Key}(h:okP x=true):okD (aV x)=true:=by
 cases x with
 |inl i=>rfl
 |inr z=>exact h
def GdH.okD {d:Dat}{c:Nat}{mk:Key}(gd:GdH d c mk):okD d=true:=by
 rw[gd.e]
 show(true&&(Rs.okD (aV mk)&&true))=true
 rw[nQ gd.ok];rfl
def okO (d:Dat):Out->Prop
 |.held=>okD d=true
 |.ref i=>i<7/\i≠4/\i≠5
 |.bad i x y=>(i=4\/i=5)/\okP x=true/\okP y=true
def qI {d:Dat}{o:Out}(h:okO d o):okD (eY d o)=true:=by
 cases o with
 |held=>
  show(okD (.str "held")&&(okD d&&true))=true
  rw[show okD d=true from h];decide+kernel
 |ref i=>
  show(okD (.str "refused")&&(okDs ((fA i).map Dat.bl)&&true))=true
  rw[lQ];decide+kernel
 |bad i x y=>
  show(okD (.str "refused")&&(okDs ((fA i).map Dat.bl)&&(okD (aV x)&&(okD (aV y)&&true))))=true
  rw[lQ,nQ h.2.1,nQ h.2.2];decide+kernel
def kdO:Out->Prop
 |.held=>True
 |.ref i=>i<7/\i≠4/\i≠5
 |.bad i _ _=>i=4\/i=5
def EM (mk tm v0 tu:Key):kdO (dD mk tm v0 tu):=by
 unfold dD
 split
 ·split
  ·trivial
  ·exact .inr rfl
 ·exact .inl rfl
def Due.kd {g:gOp}{kvs:List (List Key×V)}{n:Nat}{v0:Key}{d k:Dat}{o:Out}(h:Due g kvs n v0 d k o):kdO o:=by
 cases h with
 |head _=>exact⟨by decide,by decide,by decide⟩
 |unse _ _=>exact⟨by decide,by decide,by decide⟩
 |eld _ _ _=>exact⟨by decide,by decide,by decide⟩
 |pap _ _ _ _=>exact⟨by decide,by decide,by decide⟩
 |good _ _ _ _ _ _=>exact EM _ _ _ _
def vh {k:Dat}:fY k .held=.held:=by
 by_cases h:k=.non
 ·subst h;rfl
 ·exact jq h
def Bn {k:Dat}{o:Out}(h:kdO o):kdO (fY k o):=by
 unfold fY
 split
 ·exact⟨by decide,by decide,by decide⟩
 ·exact h
def lE (K:cW)(A:Adr):TS:=(aO (bh (ae (tC (.str "refused")) (ae (az (lp K A) (fun _=>E0) (ae (af 4) (ak))) (ae (my K (af 4) "due") (ae (my K (af 4) "came") (ak)))))))
def DF (K:cW)(A:Adr):Ln (kN K A) 4:=by rintro vs H Q E ⟨dk,f,b,qs,hd,sd,kvs,n,v0,g,N,l,v,m,d,k,o',rfl,_⟩;rfl
def Hq (T:Txt K mg A):Rd (kN K A) (Li K A) ["_law_desk_here","_law_line_here","_law_head_here","_law_marks","_law_caught_here","_law_told","e"]:=by
 intro vs H Q E h
 obtain⟨dk,f,b,qs,hd,sd,kvs,n,v0,g,N,l,v,m,d,k,o',rfl,x,dw,nd,mw,sh,as,q⟩:=h
 have kd:kdO o':=by
  cases as with
  |word due=>exact due.kd
  |none _=>exact⟨by decide,by decide,by decide⟩
  |line _ due=>exact Bn due.kd
 obtain⟨dx,B,ob⟩:=x.dk.ob
 have fl:∀(i:Nat)(dd:Option Addr)(g1:gOp)(H1:Hp),i<7->aI b H H1->Stp A H1 f b g1 (N+132)->Sub g g1->((o'=.ref i/\i≠4/\i≠5)\/∃dx y z,dd=some dx/\o'=.bad i y z/\(i=4\/i=5)/\okP y=true/\okP z=true/\H1 dx=some (fL (dg "came" (kV z) [("due",kV y)]) dx))->
    hAs K A.c_StampError 6 (aE (af 6) (ay 4)) mR {nx:=mC K A {nx:=fun _ H'=>Q .non H',rt:=Q},rt:=Q} [some (.ref dk),some l,some v,some m,some .non,some .non,none] (cE A i) dd H1:=fun i dd g1 H1 hi kb s1 sub1 hc=>by
  refine⟨true,sbE T i hi,Sel.t fun ah hah=>Sel.f ?_⟩
  have S2:=ar.upd (o:=gP (cE A i) dd ah) hah
  have ha:upd H1 ah (gP (cE A i) dd ah) ah=some (gP (cE A i) dd ah):=ag
  have dk1:=x.dk.kb x.s kb
  have hC:=eoE T i hi
  have hG:=egE T i hi
  generalize upd H1 ah (gP (cE A i) dd ah)=H2 at S2 ha
  have kb2:=kb.trans (aI.same S2)
  rcases hc with⟨eo,n4,n5⟩|⟨dx,y,z,rfl,eo,h45,oy,oz,hdx⟩
  ·subst eo
   refine⟨ah,_,_,_,_,_,rfl,ha,hC,hG,rfl,fun _ e=>e,ue T i hi,Sel.no (decide_eq_false n4) ⟨ah,_,_,_,_,_,rfl,ha,hC,hG,rfl,fun _ e=>e,yY T i hi,Sel.no (decide_eq_false n5) ?_⟩⟩
   refine⟨.ref ah,i,rfl,⟨hi,ah,dd,rfl,ha⟩,fun p H3 S3 hp=>⟨ax (show 2<=1000000 by decide),fun r hr=>?_⟩⟩
   have S4:=ar.upd (o:=.tup [.str "refused",.ref p]) hr
   exact q r g1 _ (KM.kb (kb2.trans (aI.same (S3.trans S4))) (by simp)) (s1.same (pv _) (S2.trans (S3.trans S4))) sub1 (dk1.same (S2.trans (S3.trans S4))) (.tup ag (.cons (.str _) (.cons (.lst (S4 _ _ hp) (mv _ _)) .nil))) (qI (show okO d (.ref i)from kd))
  ·subst eo
   have ef:HT.eT K (cE A i) "due"/\HT.eT K (cE A i) "came":=by
    rcases h45 with rfl|rfl
    ·exact⟨T.ef_Broken_due,T.ef_Broken_came⟩
    ·exact⟨T.ef_Parted_due,T.ef_Parted_came⟩
   have fin:lE K A {nx:=fun _ H'=>Q .non H',rt:=Q} [some (.ref dk),some l,some v,some m,some (.ref ah),some .non,none] H2:=by
    refine⟨.ref ah,i,rfl,⟨hi,ah,_,rfl,ha⟩,fun p H3 S3 hp=>?_⟩
    have ha3:=S3 _ _ ha
    have hx3:=S3 _ _ (S2 _ _ hdx)
    refine⟨ah,cE A i,dx,_,kV y,rfl,ha3,hx3,ef.1,rfl,ah,cE A i,dx,_,kV z,rfl,ha3,hx3,ef.2,rfl,ax (show 4<=1000000 by decide),fun r hr=>?_⟩
    have S4:=ar.upd (o:=.tup [.str "refused",.ref p,kV y,kV z]) hr
    exact q r g1 _ (KM.kb (kb2.trans (aI.same (S3.trans S4))) (by simp)) (s1.same (pv _) (S2.trans (S3.trans S4))) sub1 (dk1.same (S2.trans (S3.trans S4))) (.tup ag (.cons (.str _) (.cons (.lst (S4 _ _ hp) (mv _ _)) (.cons (bY y) (.cons (bY z) .nil))))) (qI (show okO d (.bad i y z)from⟨h45,oy,oz⟩))
   by_cases e4:i=4
   ·exact⟨ah,_,_,_,_,_,rfl,ha,hC,hG,rfl,fun _ e=>e,ue T i hi,Sel.yes (decide_eq_true e4) (Sel.t fin)⟩
   ·exact⟨ah,_,_,_,_,_,rfl,ha,hC,hG,rfl,fun _ e=>e,ue T i hi,Sel.no (decide_eq_false e4) ⟨ah,_,_,_,_,_,rfl,ha,hC,hG,rfl,fun _ e=>e,yY T i hi,Sel.yes (decide_eq_true (by omega)) fin⟩⟩
 have held:∀(g':gOp)(H':Hp)(hv c:Nat)(mk:Key),o'=.held->v=.ref hv->GdH d c mk->KM [b,dk] H H'->Stp A H' f b g' (N+132)->Sub g g'->DkA A H' dk f qs hv c mk->mC K A {nx:=fun _ H'=>Q .non H',rt:=Q} [some (.ref dk),some l,some v,some m,some .non,some v,none] H':=fun g' H' hv c mk eo ev gd km s sub dk'=>by
  subst eo
  subst ev
  refine Sel.t ⟨ax (show 2<=1000000 by decide),fun r hr=>?_⟩
  have S4:=ar.upd (o:=.tup [.str "held",.ref hv]) hr
  refine q r g' _ (km.trans (KM.same S4)) (s.same (pv _) S4) sub ⟨hv,c,mk,rfl,gd,dk'.same S4⟩ (.tup ag (.cons (.str _) (.cons ?_ .nil))) (qI (show okO d .held from gd.okD))
  rw[gd.e]
  exact .tup (S4 _ _ dk'.hh) (.cons (.int _) (.cons (bY mk) .nil))
 have rq:lF A H f b g N o' (fun c dd H1=>∃C,c=.ref C/\bT K C/\hAs K A.c_StampError 6 (aE (af 6) (ay 4)) mR {nx:=mC K A {nx:=fun _ H'=>Q .non H',rt:=Q},rt:=Q} [some (.ref dk),some l,some v,some m,some .non,some .non,none] C dd H1):=
  ⟨fun i hi e g' H' kb s sub=>⟨_,rfl,eoE T i (by omega),fl i none g' H' (by omega) kb s sub (.inl (by subst e;exact⟨rfl,kd.2⟩))⟩,
   fun i y z hi e oy oz dx g' H' kb s sub hdx=>⟨_,rfl,eoE T i (by omega),fl i (some dx) g' H' (by omega) kb s sub (.inr ⟨dx,y,z,rfl,e,by subst e;exact kd,oy,oz,hdx⟩)⟩⟩
 cases as with
 |word due=>exact Sel.t ⟨dk,dx,_,rfl,ob,rfl,dk,f,b,qs,hd,sd,kvs,n,v0,g,N,v,m,d,k,_,rfl,x,dw,mw,sh,due,rq,fun eo hv c mk g' H' ev gd km s sub dk'=>held g' H' hv c mk eo ev gd km s sub dk'⟩
 |none hl=>exact Sel.f ⟨dk,dx,_,rfl,ob,rfl,dk,f,b,qs,hd,sd,_,kvs,n,v0,g,N,rfl,x,.inl ⟨hl,rq⟩⟩
 |line hl due=>exact Sel.f ⟨dk,dx,_,rfl,ob,rfl,dk,f,b,qs,hd,sd,_,kvs,n,v0,g,N,rfl,x,.inr ⟨v,m,d,k,_,hl,dw,nd,mw,sh,due,rq,fun eo hv c mk g' H' ev gd km s sub dk'=>held g' H' hv c mk (by rw[eo];exact vh) ev gd km s sub dk'⟩⟩
def sH {i:Int}(h:i<0\/2^60<=i):cA (.int i)=false:=decide_eq_false (by omega)
def sY {d:Dat}{o:Out}(h:o=.held->(db d).depth<=140):(db (eY d o)).depth<=150:=by
 have hb:∀bs:List Bool,Nv (toPys (bs.map Dat.bl))=0:=fun bs=>by
  induction bs with
  |nil=>rfl
  |cons b r ih=>
   show max 0 (Nv (toPys (r.map Dat.bl)))=0
   rw[ih];rfl
 have hk:∀x:Key,(db (aV x)).depth=0:=fun x=>by cases x<;>rfl
 cases o with
 |held=>
  show max 0 (max (db d).depth 0)+1<=150
  have:=h rfl
  omega
 |ref i=>
  show max 0 (max (Nv (toPys ((fA i).map Dat.bl))+1) 0)+1<=150
  rw[hb];decide
 |bad i x y=>
  show max 0 (max (Nv (toPys ((fA i).map Dat.bl))+1) (max (db (aV x)).depth (max (db (aV y)).depth 0)))+1<=150
  rw[hb,hk,hk];decide
def GdH.dep {d:Dat}{c:Nat}{mk:Key}(gd:GdH d c mk):(db d).depth<=140:=by
 rw[gd.e]
 have:(db (aV mk)).depth=0:=by cases mk<;>rfl
 show max 0 (max (db (aV mk)).depth 0)+1<=140
 rw[this];decide
def BW (K:cW)(A:Adr):Ln (mT K A) 5:=by rintro vs H Q E ⟨dk,f,qs,hd,h2,du,p,n,v0,v,d,o,rfl,_⟩;rfl
def Hk (T:Txt K mg A):Rd (mT K A) (KC K A) ["_law_desk_here","_law_due_here","_law_told","_law_held_here","_law_head_here"]:=by
 intro vs H Q E h
 obtain⟨dk,f,qs,hd,h2,du,p,n,v0,v,d,o,rfl,dz,wd,wp,ok,hh2,okv,q⟩:=h
 have dep:(db (eY d o)).depth<=150:=sY fun e=>by
  subst e
  obtain⟨_,_,_,_,gd,_⟩:=dz
  exact gd.dep
 refine⟨_,_,wp.toV ok,wd.toV ok,cy ok,cy ok,dep,?_⟩
 rw[Og _ (cy ok)]
 refine Sel.f ?_
 have fin:DkA A H dk f qs hd n v0->vL K A {nx:=fun _ H'=>Q .non H',rt:=Q} [some (.ref dk),some (.ref du),some (.ref p),some (.ref h2),some v] H:=fun dk'=>by
  obtain⟨dx,B,ob⟩:=dk'.ob
  refine⟨dk,A.c_Desk,dx,_,_,rfl,ob,T.cl_Desk,T.na_Desk_held,rfl,eE (k:=hdK n v0) (l:=hdK n v0) dk'.hh hh2 ?_⟩
  rw[decide_eq_true rfl]
  exact q H ar.rfl'
 cases o with
 |held=>
  obtain⟨hv,c,mk,rfl,gd,dk'⟩:=dz
  obtain⟨dx,B,ob⟩:=dk'.ob
  cases wp with
  |tup hp ws=>
  cases ws with
  |cons w1 ws=>
  cases w1 with
  |str z=>
  have ty:tyN H (.ref hv)=some "tuple":=by unfold tyN;dsimp only;rw[dk'.hh]
  refine ixT (j:=0) hp rfl rfl (Sel.yes (by decide) ⟨dk,A.c_Desk,dx,_,_,rfl,ob,T.cl_Desk,T.na_Desk_held,rfl,eE (k:=hdK c mk) (l:=hdK c mk) dk'.hh dk'.hh ?_⟩)
  rw[decide_eq_true rfl]
  exact Sel.t ⟨dk,A.c_Desk,dx,_,_,rfl,ob,T.cl_Desk,T.na_Desk_held,rfl,by decide,"tuple",ty,q H ar.rfl'⟩
 |ref i=>
  cases wp with
  |tup hp ws=>
  cases ws with
  |cons w1 ws=>
  cases w1 with
  |str z=>exact ixT (j:=0) hp rfl rfl (Sel.no (by decide) (fin dz))
 |bad i x y=>
  cases wp with
  |tup hp ws=>
  cases ws with
  |cons w1 ws=>
  cases w1 with
  |str z=>exact ixT (j:=0) hp rfl rfl (Sel.no (by decide) (fin dz))
def DI (K:cW)(A:Adr):Ln (pS K A) 3:=by rintro vs H Q E ⟨v,m,e,rfl,_⟩;rfl
def Jd (T:Txt K mg A)(q0 q1 q2:Addr)(nd:([q0,q1,q2]:List Addr).Nodup)(vs:List V)(H:Hp)(Q:VK)(E:XK)(h:pS K A vs H Q E):CQ K A q0 q1 q2 {nx:=fun σ H'=>(∀p∈([(0,q0),(1,q1),(2,q2)]:List (Nat×Addr)),H' p.2=none)->Q .non (br [(0,q0),(1,q1),(2,q2)] σ H'),rt:=fun σ v H'=>(∀p∈([(0,q0),(1,q1),(2,q2)]:List (Nat×Addr)),H' p.2=none)->Q v (br [(0,q0),(1,q1),(2,q2)] σ H')} (L2.start ["_law_head_here","_law_marks","_law_elder","_law_say"] vs) H:=by
 obtain⟨v,m,e,rfl,hP,q⟩:=h
 simp only[MQ,LZ,Mp,or_false,not_or]at nd
 obtain⟨⟨n01,n02⟩,n12,_⟩:=nd
 refine⟨#[],hP,trivial,.inl ⟨rfl,fun c fa hc hf hne=>?_⟩⟩
 have cP:=bx hP hc
 have fP:=bx hP hf
 have c1:∀o,upd H A.t_26 o c=none:=fun o=>by rw[ao cP];exact hc
 have f1:∀o,upd (upd H A.t_26 o) c (bz c cN.qual) fa=none:=fun o=>by rw[ao (Md hne),ao fP];exact hf
 have K3:=aZ.tab.trans ((aZ.new (c1 (.tbl (#[]++#[rawInt ((344:Nat):Int),rawInt ((4:Nat):Int),.ref c])))).trans (aZ.new (o:=bN fa cN [q1,q0,q2] c) (f1 (.tbl (#[]++#[rawInt ((344:Nat):Int),rawInt ((4:Nat):Int),.ref c])))))
 have hf3:upd (upd (upd H A.t_26 (.tbl (#[]++#[rawInt ((344:Nat):Int),rawInt ((4:Nat):Int),.ref c]))) c (bz c cN.qual)) fa (bN fa cN [q1,q0,q2] c) fa=some (bN fa cN [q1,q0,q2] c):=ag
 have hc3:upd (upd (upd H A.t_26 (.tbl (#[]++#[rawInt ((344:Nat):Int),rawInt ((4:Nat):Int),.ref c]))) c (bz c cN.qual)) fa (bN fa cN [q1,q0,q2] c) c=some (bz c cN.qual):=by rw[ao hne];exact ag
 intro y dx hy hdx ne
 refine⟨y,dx,fa,rfl,ag,rfl,fun hq=>?_⟩
 revert hq hy hdx
 show ∀(hy:upd (upd (upd H A.t_26 (.tbl (#[]++#[rawInt ((344:Nat):Int),rawInt ((4:Nat):Int),.ref c]))) c (bz c cN.qual)) fa (bN fa cN [q1,q0,q2] c) y=none)(hdx:_)(hq:_),_
 generalize upd (upd (upd H A.t_26 (.tbl (#[]++#[rawInt ((344:Nat):Int),rawInt ((4:Nat):Int),.ref c]))) c (bz c cN.qual)) fa (bN fa cN [q1,q0,q2] c)=H3 at K3 hf3 hc3⊢
 intro hy hdx hq
 have S4:ar H3 (upd (upd (upd H3 dx (.own y)) y (.ins A.c_Spoken dx [])) y (.ins A.c_Spoken dx [("answerer",.ref fa)])):=fun z o e=>by
  have n1:=av e hy
  have n2:=av e hdx
  rw[ao n1,ao n1,ao n2];exact e
 have hy4:upd (upd (upd H3 dx (.own y)) y (.ins A.c_Spoken dx [])) y (.ins A.c_Spoken dx [("answerer",.ref fa)]) y=some (.ins A.c_Spoken dx [("answerer",.ref fa)]):=ag
 have hq0:=hq (0,q0) (by simp)
 have hq1:=hq (1,q1) (by simp)
 have hq2:=hq (2,q2) (by simp)
 clear hq
 show Q (.ref y) (upd (upd (upd (upd (upd (upd H3 dx (.own y)) y (.ins A.c_Spoken dx [])) y (.ins A.c_Spoken dx [("answerer",.ref fa)])) q0 (bB q0 v)) q1 (bB q1 m)) q2 (bB q2 (.int e)))
 generalize upd (upd (upd H3 dx (.own y)) y (.ins A.c_Spoken dx [])) y (.ins A.c_Spoken dx [("answerer",.ref fa)])=H4 at S4 hq0 hq1 hq2 hy4⊢
 have S5:=ar.upd (o:=bB q0 v) hq0
 have hq1':upd H4 q0 (bB q0 v) q1=none:=by rw[ao (Md n01)];exact hq1
 have S6:=ar.upd (o:=bB q1 m) hq1'
 have hq2':upd (upd H4 q0 (bB q0 v)) q1 (bB q1 m) q2=none:=by rw[ao (Md n12),ao (Md n02)];exact hq2
 have S7:=ar.upd (o:=bB q2 (.int e)) hq2'
 have S57:=S5.trans (S6.trans S7)
 have S:=S4.trans S57
 exact q y _ (K3.trans fun z o e n=>S z o e) ⟨dx,fa,q0,q1,q2,S57 _ _ hy4,⟨⟨c,S _ _ hf3,S _ _ hc3⟩,.cons (S7 _ _ ag) (.cons (S7 _ _ (S6 _ _ ag)) (.cons ag .nil))⟩⟩
def Et (K:cW)(A:Adr):Ln (qj K A) 2:=by rintro vs H Q E ⟨z,c,rfl,_⟩;rfl
def IG (T:Txt K mg A):Rd (qj K A) (Kl K A) ["_law_cell","_law_count"]:=by
 intro vs H Q E h
 obtain⟨z,c,rfl,q⟩:=h
 refine⟨by decide,Sel.dec (fun h=>q c (pv _)) (fun h=>⟨⟨by decide,by decide⟩,by show(0:Int)<(c:Int)+1;omega,?_⟩)⟩
 have m0:=NC (z/4) (b:=(c:Int)+1) (by omega)
 have m1:=NN (z/4) (b:=(c:Int)+1) (by omega)
 obtain⟨e,he⟩:=NI m0
 show Q (.int (z/4%((c:Int)+1))) H
 rw[he]
 exact q e (by omega)
def EO (K:cW)(A:Adr):Ln (pN K A) 2:=by rintro vs H Q E ⟨z,hp,c,mk,rfl,_⟩;rfl
def IR (T:Txt K mg A):Rd (pN K A) (KZ K A) ["_law_cell","_law_head_here","_law_some"]:=by
 intro vs H Q E h
 obtain⟨z,hp,c,mk,rfl,hh,c2,q⟩:=h
 have k1:∀{HH:Hp}{p:Addr}{o:HO},HH p=none->ar HH (upd HH p o):=fun h=>ar.upd h
 have kn:aV mk≠.non:=by cases mk<;>(intro z;cases z)
 have nb2:(nbD (aV mk)&&true)=true:=by rw[kE];rfl
 refine ixT (j:=0) hh rfl rfl ⟨ax (show 1<=1000000 by decide),fun p1 h1=>?_⟩
 have S1:=k1 (o:=.tup [V.int (c:Int)]) h1
 have e1:upd H p1 (.tup [V.int (c:Int)]) p1=some (.tup [V.int (c:Int)]):=ag
 generalize upd H p1 (.tup [V.int (c:Int)])=H1 at S1 e1⊢
 refine ixT (j:=0) (S1 _ _ hh) rfl rfl (ixT (j:=1) (S1 _ _ hh) rfl rfl ⟨ax (show 2<=1000000 by decide),fun p2 h2=>?_⟩)
 have S2:=S1.trans (k1 (o:=.lst [V.int (c:Int),kV mk]) h2)
 have e1:=k1 (o:=.lst [V.int (c:Int),kV mk]) h2 _ _ e1
 have e2:upd H1 p2 (.lst [V.int (c:Int),kV mk]) p2=some (.lst [V.int (c:Int),kV mk]):=ag
 generalize upd H1 p2 (.lst [V.int (c:Int),kV mk])=H2 at S2 e1 e2⊢
 refine ixT (j:=1) (S2 _ _ hh) rfl rfl ⟨ax (show 2<=1000000 by decide),fun p3 h3=>?_⟩
 have T3:=k1 (o:=.tup [V.bl true,kV mk]) h3
 have S3:=S2.trans T3
 have e1:=T3 _ _ e1
 have e2:=T3 _ _ e2
 have e3:upd H2 p3 (.tup [V.bl true,kV mk]) p3=some (.tup [V.bl true,kV mk]):=ag
 clear T3
 generalize upd H2 p3 (.tup [V.bl true,kV mk])=H3 at S3 e1 e2 e3⊢
 refine ixT (j:=0) (S3 _ _ hh) rfl rfl (ixT (j:=1) (S3 _ _ hh) rfl rfl ⟨ax (show 2<=1000000 by decide),fun p4 h4=>?_⟩)
 have T4:=k1 (o:=.tup [V.int (-1- (c:Int)),kV mk]) h4
 have S4:=S3.trans T4
 have e1:=T4 _ _ e1
 have e2:=T4 _ _ e2
 have e3:=T4 _ _ e3
 have e4:upd H3 p4 (.tup [V.int (-1- (c:Int)),kV mk]) p4=some (.tup [V.int (-1- (c:Int)),kV mk]):=ag
 clear T4
 generalize upd H3 p4 (.tup [V.int (-1- (c:Int)),kV mk])=H4 at S4 e1 e2 e3 e4⊢
 refine⟨⟨by decide,by decide,by decide⟩,ixT (j:=1) (S4 _ _ hh) rfl rfl ⟨ax (show 2<=1000000 by decide),fun p5 h5=>⟨ax (show 5<=1000000 by decide),fun L1 hL1=>?_⟩⟩⟩
 have T5:=(k1 (o:=.tup [V.int (1*2^(60:Int).toNat),kV mk]) h5).trans (k1 (o:=.lst [.ref p1,.ref p2,.ref p3,.ref p4,.ref p5]) hL1)
 have S5:=S4.trans T5
 have e1:=T5 _ _ e1
 have e2:=T5 _ _ e2
 have e3:=T5 _ _ e3
 have e4:=T5 _ _ e4
 have e5:=k1 (o:=.lst [.ref p1,.ref p2,.ref p3,.ref p4,.ref p5]) hL1 p5 (.tup [V.int (1*2^(60:Int).toNat),kV mk]) ag
 have eL:upd (upd H4 p5 (.tup [V.int (1*2^(60:Int).toNat),kV mk])) L1 (.lst [.ref p1,.ref p2,.ref p3,.ref p4,.ref p5]) L1=some (.lst [.ref p1,.ref p2,.ref p3,.ref p4,.ref p5]):=ag
 clear T5
 generalize upd (upd H4 p5 (.tup [V.int (1*2^(60:Int).toNat),kV mk])) L1 (.lst [.ref p1,.ref p2,.ref p3,.ref p4,.ref p5])=H5 at S5 e1 e2 e3 e4 e5 eL⊢
 show wI K A {nx:=fun _ H'=>Q .non H',rt:=Q} [some (.int z),some (.ref hp),some (.ref L1)] H5
 refine ixT (j:=0) (S5 _ _ hh) rfl rfl ⟨⟨by decide,by decide⟩,_,rfl,fun jv jd H6 S6 jw jn jb=>⟨ax (show 2<=1000000 by decide),fun p6 h6=>?_⟩⟩
 have T6:=k1 (o:=.tup [.int (c:Int),jv]) h6
 have hh6:=T6 _ _ (S6 _ _ (S5 _ _ hh))
 refine ixT (j:=1) hh6 rfl rfl (.inl fun p7 h7=>⟨ax (show 3<=1000000 by decide),fun L2 hL2=>?_⟩)
 have T7:=k1 (o:=.dK []) h7
 have TL:=k1 (o:=.lst [.ref p6,kV mk,.ref p7]) hL2
 have SA:=S6.trans (T6.trans (T7.trans TL))
 have e6:=(T7.trans TL) p6 (.tup [.int (c:Int),jv]) ag
 have e7:=TL p7 (.dK []) ag
 have jw2:=jw.mono (T6.trans (T7.trans TL))
 have eL2:upd (upd (upd H6 p6 (.tup [.int (c:Int),jv])) p7 (.dK [])) L2 (.lst [.ref p6,kV mk,.ref p7]) L2=some (.lst [.ref p6,kV mk,.ref p7]):=ag
 clear hh6 T6 T7 TL
 generalize upd (upd (upd H6 p6 (.tup [.int (c:Int),jv])) p7 (.dK [])) L2 (.lst [.ref p6,kV mk,.ref p7])=H7 at SA e6 e7 jw2 eL2⊢
 refine .inl ⟨L1,L2,_,_,rfl,rfl,SA _ _ eL,eL2,ax (by exact(show 8<=1000000 by decide)),fun L3 hL3=>⟨by decide,?_⟩⟩
 refine .inl (vd ag (by omega) (by show z%8<8;omega) fun v hv=>?_)
 have S3:=k1 (o:=.lst ([.ref p1,.ref p2,.ref p3,.ref p4,.ref p5]++[.ref p6,kV mk,.ref p7])) hL3
 have S:=S5.trans (SA.trans S3)
 have T:=SA.trans S3
 simp only[SU,Tg,LZ,Mp,or_false]at hv
 rcases hv with rfl|rfl|rfl|rfl|rfl|rfl|rfl|rfl
 ·exact q _ _ _ S (.tup (T _ _ e1) (.cons (.int _) .nil)) rfl nofun rfl
 ·exact q _ _ _ S (.lst (T _ _ e2) (.cons (.int _) (.cons (bY mk) .nil))) rfl nofun nb2
 ·exact q _ _ _ S (.tup (T _ _ e3) (.cons (.bl _) (.cons (bY mk) .nil))) (nW rfl) nofun nb2
 ·exact q _ _ _ S (.tup (T _ _ e4) (.cons (.int _) (.cons (bY mk) .nil))) (nW (sH (.inl (by omega)))) nofun nb2
 ·exact q _ _ _ S (.tup (T _ _ e5) (.cons (.int _) (.cons (bY mk) .nil))) (nW (sH (.inr (by decide)))) nofun nb2
 ·exact q _ _ _ S (.tup (S3 _ _ e6) (.cons (.int _) (.cons (jw2.mono S3) .nil))) (Aw jn) nofun (kI jb)
 ·exact q _ _ _ S (bY mk) (Au mk) kn (kE mk)
 ·exact q _ _ _ S (.dic ⟨_,S3 _ _ e7⟩) rfl nofun rfl
def iE {H:Hp}{x dx:Addr}{o u:HO}(hx:H x=none)(hdx:H dx=none)(ne:dx≠x):ar H (upd (upd H dx o) x u):=(ar.upd hdx).trans (ar.upd (by rw[ao (Md ne)];exact hx))
def cZ (o:HO):Prop:=(∃xs,o=.lst xs)\/(∃xs,o=.tup xs)\/∃kvs,o=.dK kvs
mutual
theorem aG.keep {H H':Hp}{v:V}{d:Dat}(k:∀z o,H z=some o->cZ o->H' z=some o)(h:aG H v d):aG H' v d:=by
 cases h with
 |non=>exact .non
 |bl b=>exact .bl b
 |int i=>exact .int i
 |str z=>exact .str z
 |lst e r=>exact .lst (k _ _ e (.inl ⟨_,rfl⟩)) (r.keep k)
 |tup e r=>exact .tup (k _ _ e (.inr (.inl ⟨_,rfl⟩))) (r.keep k)
 |dic e=>exact .dic (e.imp fun _ e=>k _ _ e (.inr (.inr ⟨_,rfl⟩)))
theorem DatWs.keep {H H':Hp}{xs:List V}{ds:List Dat}(k:∀z o,H z=some o->cZ o->H' z=some o)(h:DatWs H xs ds):DatWs H' xs ds:=by
 cases h with
 |nil=>exact .nil
 |cons a r=>exact .cons (a.keep k) (r.keep k)
end
def Stp.nt {H:Hp}{f b P:Addr}{g:gOp}{n:Nat}{ps:Array tx}(s:Stp A H f b g n)(hP:H P=some (.tbl ps))(h1:P≠A.t_66)(h2:P≠A.t_40):P≠b:=fun z=>by
 subst z
 cases s with
 |wri hc hb hg=>exact h1 hb.1
 |wea q m m1 m2 hc hb hg=>exact h2 hb.1
 |cnt q x kvs hc num hl hs hg=>have:=num.di;rw[hP]at this;cases this
 |sur q0 q1 j j0 j1 kvs hc hb hl hs hg=>rw[hP]at hb;cases hb
section
variable (t:TnA A)
include t
def TnA.all:(A.t_17≠A.t_66/\A.t_17≠A.t_40)/\(A.t_26≠A.t_66/\A.t_26≠A.t_40)/\(A.t_11≠A.t_66/\A.t_11≠A.t_40)/\(A.t_29≠A.t_66/\A.t_29≠A.t_40)/\(A.t_59≠A.t_66/\A.t_59≠A.t_40)/\(A.t_17≠A.t_26/\A.t_17≠A.t_11/\A.t_17≠A.t_29/\A.t_17≠A.t_59)/\(A.t_26≠A.t_11/\A.t_26≠A.t_29/\A.t_26≠A.t_59)/\(A.t_11≠A.t_29/\A.t_11≠A.t_59)/\A.t_29≠A.t_59:=by
 unfold TnA at t
 simp only[MQ,LZ,Mp,or_false,not_or]at t
 obtain⟨⟨_,w1,w2,w3,w4,w5⟩,⟨k1,k2,k3,k4,k5⟩,d,l,b,n,_⟩:=t
 exact⟨⟨Md w1,Md k1⟩,⟨Md w2,Md k2⟩,⟨Md w3,Md k3⟩,⟨Md w4,Md k4⟩,⟨Md w5,Md k5⟩,d,l,b,n⟩
def TnA.de:A.t_17≠A.t_66/\A.t_17≠A.t_40:=t.all.1
def TnA.li:A.t_26≠A.t_66/\A.t_26≠A.t_40:=t.all.2.1
def TnA.bo:A.t_11≠A.t_66/\A.t_11≠A.t_40:=t.all.2.2.1
def TnA.nb:A.t_29≠A.t_66/\A.t_29≠A.t_40:=t.all.2.2.2.1
def TnA.la:A.t_59≠A.t_66/\A.t_59≠A.t_40:=t.all.2.2.2.2.1
end
def Ft (K:cW)(A:Adr):Ln (pO K A) 2:=by rintro vs H Q E ⟨f,b,z,g,N,rfl,_⟩;rfl
def GS (T:Txt K mg A)(nd:([]:List Addr).Nodup)(vs:List V)(H:Hp)(Q:VK)(E:XK)(h:pO K A vs H Q E):BV K A {nx:=fun σ H'=>(∀p∈([]:List (Nat×Addr)),H' p.2=none)->Q .non (br [] σ H'),rt:=fun σ v H'=>(∀p∈([]:List (Nat×Addr)),H' p.2=none)->Q v (br [] σ H')} (L2.start ["_law_stamper_here","_law_cell","_law_some","_law_caught_here","e"] vs) H:=by
 obtain⟨f,b,z,g,N,rfl,s,hN,tn,hP,q⟩:=h
 have r0:=NC z (RW p30)
 refine⟨⟨by decide,by decide,by decide⟩,p30,⟨by decide,by decide,by decide⟩,p30,ax (show 1<=1000000 by decide),fun p1 h1=>⟨ax (show 1<=1000000 by decide),fun p2 h2=>⟨ax (show 9<=1000000 by decide),fun L hL=>?_⟩⟩⟩
 generalize hk:z%10^(30:Int).toNat=k at*
 have S1:=ar.upd (o:=.lst [.int 4]) h1
 have S2:=ar.upd (o:=.tup [.int 4]) h2
 have S3:=ar.upd (o:=.lst [.non,.bl true,.int 0,.int 61,.int (-1- k),.int (61+k),.str "4",.ref p1,.ref p2]) hL
 have S:=S1.trans (S2.trans S3)
 have e1:=(S2.trans S3) p1 (.lst [.int 4]) ag
 have e2:=S3 p2 (.tup [.int 4]) ag
 have eL:upd (upd (upd H p1 (.lst [.int 4])) p2 (.tup [.int 4])) L (.lst [.non,.bl true,.int 0,.int 61,.int (-1- k),.int (61+k),.str "4",.ref p1,.ref p2]) L=some (.lst [.non,.bl true,.int 0,.int 61,.int (-1- k),.int (61+k),.str "4",.ref p1,.ref p2]):=ag
 generalize upd (upd (upd H p1 (.lst [.int 4])) p2 (.tup [.int 4])) L (.lst [.non,.bl true,.int 0,.int 61,.int (-1- k),.int (61+k),.str "4",.ref p1,.ref p2])=H1 at S e1 e2 eL⊢
 clear S1 S2 S3
 refine⟨by decide,.inl (vd eL (by omega) (by show z%9<9;omega) fun v hv=>?_)⟩
 have jk:∃d,aG H1 v d/\fq d=false:=by
  simp only[LZ,Mp,or_false]at hv
  rcases hv with rfl|rfl|rfl|rfl|rfl|rfl|rfl|rfl|rfl
  ·exact⟨_,.non,rfl⟩
  ·exact⟨_,.bl _,rfl⟩
  ·exact⟨_,.int _,by decide⟩
  ·exact⟨_,.int _,by decide⟩
  ·exact⟨_,.int _,decide_eq_false (by omega)⟩
  ·exact⟨_,.int _,decide_eq_false (by omega)⟩
  ·exact⟨_,.str _,rfl⟩
  ·exact⟨_,.lst e1 (.cons (.int 4) .nil),rfl⟩
  ·exact⟨_,.tup e2 (.cons (.int 4) .nil),rfl⟩
 obtain⟨d,dw,hb⟩:=jk
 have hP1:=S _ _ hP
 refine⟨#[],hP1,trivial,.inl ⟨rfl,fun c fa hc hf hne=>?_⟩⟩
 have cP:=bx hP1 hc
 have fP:=bx hP1 hf
 have c1:∀o,upd H1 A.t_29 o c=none:=fun o=>by rw[ao cP];exact hc
 have f1:∀o,upd (upd H1 A.t_29 o) c (bz c eQ.qual) fa=none:=fun o=>by rw[ao (Md hne),ao fP];exact hf
 intro dk dx hdk hdx ne
 have k4:aZ A.t_29 H (upd (upd (upd (upd (upd H1 A.t_29 (.tbl (#[]++#[rawInt ((361:Nat):Int),rawInt ((58:Nat):Int),.ref c]))) c (bz c eQ.qual)) fa (bN fa eQ [] c)) dx (.own dk)) dk (.ins A.c_Desk dx [])):=fun z o e n=>iE (o:=.own dk) (u:=.ins A.c_Desk dx []) hdk hdx ne _ _ ((aZ.tab.trans ((aZ.new (c1 _)).trans (aZ.new (f1 _)))) _ _ (S _ _ e) n)
 have hd4:upd (upd (upd (upd (upd H1 A.t_29 (.tbl (#[]++#[rawInt ((361:Nat):Int),rawInt ((58:Nat):Int),.ref c]))) c (bz c eQ.qual)) fa (bN fa eQ [] c)) dx (.own dk)) dk (.ins A.c_Desk dx []) dk=some (.ins A.c_Desk dx []):=ag
 have dw4:aG (upd (upd (upd (upd (upd H1 A.t_29 (.tbl (#[]++#[rawInt ((361:Nat):Int),rawInt ((58:Nat):Int),.ref c]))) c (bz c eQ.qual)) fa (bN fa eQ [] c)) dx (.own dk)) dk (.ins A.c_Desk dx [])) v d:=dw.keep fun z o e h=>iE (o:=.own dk) (u:=.ins A.c_Desk dx []) hdk hdx ne _ _ ((aZ.tab.trans ((aZ.new (c1 _)).trans (aZ.new (f1 _)))) _ _ e (aF e hP1 fun z=>by subst z;rcases h with⟨_,z⟩|⟨_,z⟩|⟨_,z⟩<;>cases z))
 refine⟨dk,dx,f,b,fa,v,d,g,N,rfl,hd4,dw4,?_,hN,.inl ⟨hb,_,rfl,T.eo_NoBits,true,T.sb_NoBits_NoBits,Sel.t fun ah hah=>?_⟩⟩
 ·refine s.keep (pv _) fun z o e h1 h2 _=>?_
  by_cases zP:z=A.t_29
  ·subst zP
   rw[hP]at e
   cases e
   rcases h2 with h2|h2
   ·exact absurd rfl (h2 _)
   ·exact absurd h2 (s.nt hP tn.nb.1 tn.nb.2)
  ·exact k4 _ _ e zP
 ·refine⟨ah,_,_,_,_,_,rfl,ag,T.eo_NoBits,T.eg_NoBits,rfl,fun _ e=>e,T.ki_NoBits_StampError,fun _=>?_⟩
  exact q _ fun z o e n=>ar.upd hah _ _ (k4 z o e n)
def kd8 (i j:Nat):List Bool:=(Oz j).map fun m=>decide (m=i)||decide (m=7)
def mm {is:List Nat}{te:TE}{σ:L2.St}{Q:VK}{H:Hp}{i:Nat}(hb:∀(j:Nat)(H':Hp)(q:VK),j<8->q (.bl (decide (j=i)||decide (j=7))) H'->te (some (.int (0+(j:Int)))::bS σ is) H' q)(k:∀(D:Addr)(H':Hp),ar H H'->H' D=some (.lst ((fA i).map V.bl))->Q (.ref D) H'):
  ∀D,H D=none->vq is (fun _ H Q=>Q true H) te σ D (Itr 0 8) H Q:=fun D hD=>by
 refine gB (fI.range (lo:=0) (n:=8)) (fun j ys H'=>H'=upd H D (.lst ys)/\ys=(kd8 i j).map V.bl) (fun _ _ _ _ _=>trivial) ⟨rfl,rfl⟩ ?_ ?_
 ·rintro j ys H' hj ⟨rfl,rfl⟩
  have hyl:((kd8 i j).map V.bl).length=j:=by unfold kd8;simp
  refine lP (hb j _ _ hj ⟨ag,by rw[hyl];exact bU (by omega),CWd.next hj ⟨by rw[fN],?_⟩⟩)
  unfold kd8
  rw[Tf,MC,MC];rfl
 ·rintro ys H' ⟨rfl,rfl⟩
  exact k D _ (ar.upd hD) ag
def DM (K:cW)(A:Adr):Ln (pB K A) 5:=by rintro vs H Q E ⟨L,hp,b0,b1,b2,b3,b4,n,c,v0,tm,tu,mk,v,d,rfl,_⟩;rfl
def EK (mk tm v0 tu:Key)(k:Nat):Out:=if k=4 then .bad 4 mk tm else if k=5 then .bad 5 v0 tu else .ref k
def qB {Q:VK}{H:Hp}{L5 L hp:Addr}{bs:List Bool}{n c:Nat}{v0 tm tu mk:Key}{v:V}{d:Dat}{o:Out}(hL:H L5=some (.lst (bs.map V.bl)))(hl:bs.length<=6)(hh:H hp=some (.tup [.int (n:Int),kV v0]))(dw:aG H v d)(gd:4<bs.length->GdH d c mk)
  (e1:∀k,bs[k]? =some true->(∀j,j<k->bs[j]? =some false)->o=EK mk tm v0 tu k)(e2:(∀j,j<bs.length->bs[j]? =some false)->o=.held)
  (q:∀(p:Addr)(H':Hp),ar H H'->aG H' (.ref p) (eY d o)->Q (.ref p) H'):
  vN K A {nx:=fun _ H'=>Q .non H',rt:=Q} [some (.ref L),some (.ref hp),some v,some (kV tm),some (kV tu),some (.ref L5),none,none] H:=by
 refine .inl (.inl ⟨_,SqL.of hL,?_⟩)
 rw[Mf]
 refine⟨(bs.length:Int),rfl,by omega,by omega,?_⟩
 rw[Oq]
 refine xb (lo:=0) (n:=bs.length) (fun i σ H'=>H'=H/\(∃x6,σ=[some (.ref L),some (.ref hp),some v,some (kV tm),some (kV tu),some (.ref L5),x6,none])/\∀j,j<i->bs[j]? =some false) ⟨rfl,⟨none,rfl⟩,fun j hj=>by omega⟩ ?_ ?_
 ·rintro i σ _ hi ⟨rfl,⟨x6,rfl⟩,hf⟩
  obtain⟨b,hb⟩:∃b,bs[i]? =some b:=⟨_,LV hi⟩
  refine ixL (j:=i) hL (by omega) (by rw[ME,hb];rfl) ?_
  cases b with
  |false=>
   refine Sel.f ⟨rfl,⟨_,rfl⟩,fun j hj=>?_⟩
   by_cases e:j=i
   ·rw[e];exact hb
   ·exact hf j (by omega)
  |true=>
   refine Sel.t ⟨8,rfl,by decide,by decide,mm (i:=i) (fun j H' q hj h=>?_) fun D H1 S1 hD=>?_⟩
   ·refine Sel.dec (fun e=>?_) (fun e=>?_)
    ·have e:(0:Int)+(j:Int)=0+(i:Int):=e
     rw[decide_eq_true (show j=i by omega)]at h
     exact h
    ·have e:¬(0:Int)+(j:Int)=0+(i:Int):=e
     rw[decide_eq_false (show ¬j=i by omega),TK]at h
     have e7:decide ((0:Int)+(j:Int)=7)=decide (j=7):=by
      by_cases e7:j=7
      ·rw[decide_eq_true e7,decide_eq_true (by omega)]
      ·rw[decide_eq_false e7,decide_eq_false (by omega)]
     show q (.bl (decide ((0:Int)+(j:Int)=7))) H'
     rw[e7];exact h
   ·have eo:=e1 i hb hf
    have ws:aG H1 (.ref D) (.lst ((fA i).map Dat.bl)):=.lst hD (mv _ _)
    refine Sel.dec (fun e4=>?_) (fun e4=>Sel.dec (fun e5=>?_) (fun e5=>?_))
    ·have e4:i=4:=by have e4:(0:Int)+(i:Int)=4:=e4;omega
     subst e4
     have gd:=gd (by omega)
     obtain⟨h2,rfl,hh2⟩:=lm (dw.mono S1) gd
     refine ixT (j:=1) hh2 rfl rfl ⟨ax (show 4<=1000000 by decide),fun r hr=>?_⟩
     have S2:=ar.upd (o:=.tup [.str "refused",.ref D,kV mk,kV tm]) hr
     refine q r _ (S1.trans S2) ?_
     rw[eo]
     exact .tup ag (.cons (.str _) (.cons (ws.mono S2) (.cons (bY mk) (.cons (bY tm) .nil))))
    ·have e5:i=5:=by have e5:(0:Int)+(i:Int)=5:=e5;omega
     subst e5
     refine ixT (j:=1) (S1 _ _ hh) rfl rfl ⟨ax (show 4<=1000000 by decide),fun r hr=>?_⟩
     have S2:=ar.upd (o:=.tup [.str "refused",.ref D,kV v0,kV tu]) hr
     refine q r _ (S1.trans S2) ?_
     rw[eo]
     exact .tup ag (.cons (.str _) (.cons (ws.mono S2) (.cons (bY v0) (.cons (bY tu) .nil))))
    ·have e4:¬i=4:=by have e4:¬(0:Int)+(i:Int)=4:=e4;omega
     have e5:¬i=5:=by have e5:¬(0:Int)+(i:Int)=5:=e5;omega
     refine⟨ax (show 2<=1000000 by decide),fun r hr=>?_⟩
     have S2:=ar.upd (o:=.tup [.str "refused",.ref D]) hr
     refine q r _ (S1.trans S2) ?_
     rw[eo]
     unfold EK
     rw[if_neg e4,if_neg e5]
     exact .tup ag (.cons (.str _) (.cons (ws.mono S2) .nil))
 ·rintro σ _ ⟨rfl,⟨x6,rfl⟩,hf⟩
  refine⟨ax (show 2<=1000000 by decide),fun r hr=>?_⟩
  have S2:=ar.upd (o:=.tup [.str "held",v]) hr
  refine q r _ S2 ?_
  rw[e2 hf]
  exact .tup ag (.cons (.str _) (.cons (dw.mono S2) .nil))
def HD (T:Txt K mg A):Rd (pB K A) (LS K A) ["_law_wrong","_law_held_here","_law_head_here","_law_came","_law_old","_law_order","_law_k","_law_flags_here"]:=by
 intro vs H Q E h
 obtain⟨L,hp,b0,b1,b2,b3,b4,n,c,v0,tm,tu,mk,v,d,rfl,hL,hh,dw,gd,ot,ou,ov,q⟩:=h
 refine⟨4,rfl,.inl (.inl ⟨L,_,rfl,SqL.of hL,fun L2 hL2=>?_⟩)⟩
 have ec:fv [V.bl b0,.bl b1,.bl b2,.bl b3,.bl b4] none (some 4)=[b0,b1,b2,b3].map V.bl:=rfl
 rw[ec]
 have S1:=ar.upd (o:=.lst ([b0,b1,b2,b3].map V.bl)) hL2
 have e2:upd H L2 (.lst ([b0,b1,b2,b3].map V.bl)) L2=some (.lst ([b0,b1,b2,b3].map V.bl)):=ag
 generalize upd H L2 (.lst ([b0,b1,b2,b3].map V.bl))=H1 at S1 e2⊢
 refine ixL (j:=0) (S1 _ _ hL) rfl rfl ?_
 cases b0 with
 |true=>
  refine Sel.f (qB (A:=A) (bs:=[true,b1,b2,b3]) (n:=n) (c:=c) (mk:=mk) (o:=yl true b1 b2 b3 mk tm v0 tu) e2 (by simp) (S1 _ _ hh) (dw.mono S1) (fun z=>by simp at z) (fun k hk hj=>?_) (fun hj=>?_) fun p H' S'=>q p H' (S1.trans S'))
  ·have:k=0:=by
    by_cases e:k=0
    ·exact e
    ·have:=hj 0 (by omega);cases this
   subst this;rfl
  ·have:=hj 0 (by simp);cases this
 |false=>
  have gd:=gd rfl
  obtain⟨h2,rfl,hh2⟩:=lm (dw.mono S1) gd
  refine Sel.t (ixT (j:=1) hh2 rfl rfl (iH (ixT (j:=1) (S1 _ _ hh) rfl rfl (iH ⟨ax (show 2<=1000000 by decide),fun p hp'=>?_⟩))))
  have S2:=ar.upd (o:=.lst [V.bl (!decide (tm=mk)),.bl (!decide (tu=v0))]) hp'
  refine .inl ⟨L2,p,_,_,rfl,rfl,S2 _ _ e2,ag,ax (by exact(show 6<=1000000 by decide)),fun L3 hL3=>?_⟩
  have S3:=ar.upd (o:=.lst ([false,b1,b2,b3].map V.bl++[V.bl (!decide (tm=mk)),.bl (!decide (tu=v0))])) hL3
  have S:=S1.trans (S2.trans S3)
  refine qB (A:=A) (bs:=[false,b1,b2,b3,!decide (tm=mk),!decide (tu=v0)]) (n:=n) (c:=c) (mk:=mk) (o:=yl false b1 b2 b3 mk tm v0 tu) ag (by simp) (S _ _ hh) (dw.mono S) (fun _=>gd) (fun k hk hj=>?_) (fun hj=>?_) fun p H' S'=>q p H' (S.trans S')
  ·have k6:k<6:=(Mh.mp hk).1
   rcases(show k=0\/k=1\/k=2\/k=3\/k=4\/k=5 by omega)with rfl|rfl|rfl|rfl|rfl|rfl
   ·cases hk
   ·cases LW hk
    rfl
   ·cases LW hk
    cases LW (hj 1 (by omega))
    rfl
   ·cases LW hk
    cases LW (hj 1 (by omega))
    cases LW (hj 2 (by omega))
    rfl
   ·have h4:(!decide (tm=mk))=true:=LW hk
    cases LW (hj 1 (by omega))
    cases LW (hj 2 (by omega))
    cases LW (hj 3 (by omega))
    show dD mk tm v0 tu=.bad 4 mk tm
    unfold dD
    rw[if_neg (by simpa using h4)]
   ·have h5:(!decide (tu=v0))=true:=LW hk
    have h4:(!decide (tm=mk))=false:=LW (hj 4 (by omega))
    cases LW (hj 1 (by omega))
    cases LW (hj 2 (by omega))
    cases LW (hj 3 (by omega))
    show dD mk tm v0 tu=.bad 5 v0 tu
    unfold dD
    rw[if_pos (by simpa using h4),if_neg (by simpa using h5)]
  ·have h5:(!decide (tu=v0))=false:=LW (hj 5 (by simp))
   have h4:(!decide (tm=mk))=false:=LW (hj 4 (by simp))
   cases LW (hj 1 (by simp))
   cases LW (hj 2 (by simp))
   cases LW (hj 3 (by simp))
   show dD mk tm v0 tu=.held
   unfold dD
   rw[if_pos (by simpa using h4),if_pos (by simpa using h5)]
def Stp.kp {H H':Hp}{f b P:Addr}{g:gOp}{n m:Nat}{ps:Array tx}(s:Stp A H f b g n)(hn:n<=m)(hP:H P=some (.tbl ps))(h1:P≠A.t_66)(h2:P≠A.t_40)(k:aZ P H H'):Stp A H' f b g m:=by
 refine s.keep hn fun z o e _ h3 _=>?_
 by_cases zP:z=P
 ·subst zP
  rw[hP]at e
  cases e
  rcases h3 with h3|h3
  ·exact absurd rfl (h3 _)
  ·exact absurd h3 (s.nt hP h1 h2)
 ·exact k _ _ e zP
def GdH.uniq {d:Dat}{c c':Nat}{mk mk':Key}(a:GdH d c mk)(b:GdH d c' mk'):c'=c/\mk'=mk:=by
 have e:=a.e.symm.trans b.e
 injection e with e
 have e1:=(QN e).1
 have e2:=(QN (QN e).2).1
 exact⟨yH e1,(yE e2).symm⟩
def kF.keep {P:Addr}{ct:cz}{l c:Nat}{H H':Hp}(h:kF P ct l c H)(kt:∀ps,H P=some (.tbl ps)->H' P=some (.tbl ps))(kx:∀z φ,H z=some (.ext φ)->H' z=some (.ext φ)):kF P ct l c H':=by
 obtain⟨ps,hP,r⟩:=h
 exact⟨ps,kt _ hP,r.imp id fun⟨a,e,ha⟩=>⟨a,e,kx _ _ ha⟩⟩
def DS {H:Hp}{q:Addr}{o:HO}(h:H q=some o):upd (cp [q] H) q o=H:=by
 funext z
 by_cases e:z=q
 ·subst e;rw[ag,h]
 ·rw[ao e]
  unfold cp
  rw[if_neg fun w=>e (Mj.mp w)]
def oo (kvs:List (List Key×V))(k:List Key)(v:V):(cg (bu kvs k v) k).isSome=true:=by
 rw[jS,if_pos rfl];rfl
def Ed (K:cW)(A:Adr):Ln (mU K A) 5:=by rintro vs H Q E ⟨f,b,sd,hd,B,c,kvs,mk,top,g,N,rfl,_⟩;rfl
def JG (T:Txt K mg A)(q0:Addr)(nd:([q0]:List Addr).Nodup)(vs:List V)(H:Hp)(Q:VK)(E:XK)(h:mU K A vs H Q E):Eo K A q0 {nx:=fun σ H'=>(∀p∈([(2,q0)]:List (Nat×Addr)),H' p.2=none)->Q .non (br [(2,q0)] σ H'),rt:=fun σ v H'=>(∀p∈([(2,q0)]:List (Nat×Addr)),H' p.2=none)->Q v (br [(2,q0)] σ H')} (L2.start ["_law_stamper_here","_law_bits","_law_seals","_law_head_here","_law_top","_law_desk_here"] vs) H:=by
 obtain⟨f,b,sd,hd,B,c,kvs,mk,top,g,N,rfl,B1,B60,tn,tab,s,hN,sb,hsd,kl,hhd,c6,okm,enT,emk,q⟩:=h
 obtain⟨ps,hP,tab⟩:=tab
 have tde:=tn.de
 suffices key:∀(cc fa:Addr)(H3:Hp),aZ A.t_17 H H3->kF A.t_17 df 352 56 H3->H3 fa=some (bN fa df [q0] cc)->H3 cc=some (bz cc df.qual)->∀(dk dx:Addr),H3 dk=none->H3 dx=none->dx≠dk->lU K A [.ref dk,.ref f,.int (B:Int),.ref fa] (upd (upd H3 dx (.own dk)) dk (.ins A.c_Desk dx [])) (fun v H2=>v=.non/\wU K A q0 {nx:=fun σ H'=>(∀p∈([(2,q0)]:List (Nat×Addr)),H' p.2=none)->Q .non (br [(2,q0)] σ H'),rt:=fun σ v H'=>(∀p∈([(2,q0)]:List (Nat×Addr)),H' p.2=none)->Q v (br [(2,q0)] σ H')} [some (.ref f),some (.int (B:Int)),some (.ref sd),some (.ref hd),some (kV top),some (.ref dk)] H2) E0 by
  rcases tab with rfl|⟨cc,rfl,hcc⟩
  ·refine⟨#[],hP,trivial,.inl ⟨rfl,fun cc fa hc hf hne=>?_⟩⟩
   have cP:=bx hP hc
   have fP:=bx hP hf
   have c1:∀o,upd H A.t_17 o cc=none:=fun o=>by rw[ao cP];exact hc
   have f1:∀o,upd (upd H A.t_17 o) cc (bz cc df.qual) fa=none:=fun o=>by rw[ao (Md hne),ao fP];exact hf
   refine key cc fa _ (aZ.tab.trans ((aZ.new (c1 _)).trans (aZ.new (f1 _)))) ⟨_,?_,.inr ⟨cc,rfl,?_⟩⟩ ag ?_
   ·rw[ao (Md fP),ao (Md cP)];exact ag
   ·rw[ao hne];exact ag
   ·rw[ao hne];exact ag
  ·refine⟨_,hP,trivial,.inr ⟨cc,rfl,fun fa hf=>?_⟩⟩
   have S1:=ar.upd (o:=bN fa df [q0] cc) hf
   exact key cc fa _ (aZ.new hf) ⟨_,S1 _ _ hP,.inr ⟨cc,rfl,S1 _ _ hcc⟩⟩ ag (S1 _ _ hcc)
 intro cc fa H3 k3 tb3 hfa hcc dk dx hdk hdx ne
 have S3:=iE (o:=.own dk) (u:=.ins A.c_Desk dx []) hdk hdx ne
 have s3:=(s.kp (pv N) hP tde.1 tde.2 k3).same (pv _) S3
 have bt:fq (.int (B:Int))=true:=decide_eq_true ⟨by omega,by omega⟩
 have dH:H dk=none:=by
  cases e:H dk with
  |none=>rfl
  |some o=>
   by_cases ed:dk=A.t_17
   ·obtain⟨ps',e',_⟩:=tb3
    rw[ed,e']at hdk;cases hdk
   ·rw[k3 _ _ e ed]at hdk;cases hdk
 refine⟨dk,dx,f,b,fa,_,_,g,N,rfl,ag,.int _,s3,by omega,.inr ⟨bt,fun h0 v0 g1 H4 km4 s4 sub4 dk4 ev=>⟨rfl,?_⟩⟩⟩
 have k34:∀z o,z≠b->H3 z=some o->H4 z=some o:=fun z o nb e=>km4 _ _ (cR nb (av e hdk)) (S3 _ _ e)
 have nbx:∀{z:Addr}{o:HO},H z=some o->(∀ps,o≠.tbl ps)->(∀ps,o≠.dT ps)->z≠b:=fun e h1 h2=>s.nb e h1 h2
 have s3':=s.kp (pv N) hP tde.1 tde.2 k3
 have x34:∀z φ,H3 z=some (.ext φ)->H4 z=some (.ext φ):=fun z φ e=>k34 _ _ (s3'.nb e (fun _ z=>nomatch z) (fun _ z=>nomatch z)) e
 have hhd3:=k3 _ _ hhd (aF hhd hP fun z=>nomatch z)
 have hhd4:=k34 _ _ (s3'.nb hhd3 (fun _ z=>nomatch z) (fun _ z=>nomatch z)) hhd3
 have hsd3:=k3 _ _ hsd (aF hsd hP fun z=>nomatch z)
 have hsd4:=k34 _ _ sb hsd3
 have tb4:kF A.t_17 df 352 56 H4:=tb3.keep (fun ps e=>k34 _ _ (s3'.nt e tde.1 tde.2) e) x34
 have hfa4:=x34 _ _ hfa
 have hcc4:=x34 _ _ hcc
 have km:KM [b,sd,A.t_17] H H4:=fun z o nz e=>by
  have n1:z≠b:=fun w=>nz (by simp[w])
  have n3:z≠A.t_17:=fun w=>nz (by simp[w])
  exact k34 _ _ n1 (k3 _ _ e n3)
 refine ixT (j:=0) hhd4 rfl rfl (Sel.dec (fun hc=>?_) (fun hc=>?_))
 ·have c1:1<=c:=by have hc:(c:Int)>0:=hc;omega
  refine .inr ⟨sd,_,rfl,ku.t (k:=hdK c mk) hsd4 hhd4 (bU (by omega)),?_⟩
  have ob4:=dk4.ob
  obtain⟨dx4,B4,ob4⟩:=ob4
  have nsd:dk≠sd:=aF ob4 hsd4 fun z=>nomatch z
  have k5:∀z o,z≠sd->H4 z=some o->upd H4 sd (.dT (bu kvs (hdK c mk) (.bl true))) z=some o:=fun z o nz e=>by rw[ao nz];exact e
  have hsd5:upd H4 sd (.dT (bu kvs (hdK c mk) (.bl true))) sd=some (.dT (bu kvs (hdK c mk) (.bl true))):=ag
  have ob5:=k5 _ _ nsd ob4
  refine⟨dk,dx4,_,rfl,ob5,rfl,ax (show 1<=1000000 by decide),fun tp htp=>⟨fun p hp=>by rw[Mj.mp hp];exact⟨_,rfl⟩,fun hq=>?_⟩⟩
  have hq0:=hq (2,q0) (by simp)
  have s5:Stp A (upd H4 sd (.dT (bu kvs (hdK c mk) (.bl true)))) f b g1 (N+2):=s4.keep (pv _) fun z o e _ _ h3=>k5 _ _ (fun w=>by
   subst w
   rw[hsd4]at e
   cases e
   rcases h3 with h3|h3
   ·exact sb h3
   ·exact h3 _ rfl) e
  have dk5:DkA A (upd H4 sd (.dT (bu kvs (hdK c mk) (.bl true)))) dk f fa h0 0 v0:=⟨⟨dx4,B4,ob5⟩,k5 _ _ (aF dk4.hh hsd4 fun z=>nomatch z) dk4.hh,dk4.ok,dk4.n6⟩
  have hfa5:=k5 _ _ (aF hfa4 hsd4 fun z=>nomatch z) hfa4
  have hcc5:=k5 _ _ (aF hcc4 hsd4 fun z=>nomatch z) hcc4
  have hhd5:=k5 _ _ (aF hhd4 hsd4 fun z=>nomatch z) hhd4
  have tb5:kF A.t_17 df 352 56 (upd H4 sd (.dT (bu kvs (hdK c mk) (.bl true)))):=tb4.keep (fun ps e=>k5 _ _ (aF e hsd4 fun z=>nomatch z) e) fun z φ e=>k5 _ _ (aF e hsd4 fun z=>nomatch z) e
  have km5:KM [b,sd,A.t_17] H (upd H4 sd (.dT (bu kvs (hdK c mk) (.bl true)))):=km.trans (KM.upd (by simp))
  revert hq0
  show upd (upd H4 sd (.dT (bu kvs (hdK c mk) (.bl true)))) tp (.tup [kV top]) q0=none->_
  clear hq
  generalize upd H4 sd (.dT (bu kvs (hdK c mk) (.bl true)))=H5 at*
  intro hq0
  have S6:=ar.upd (o:=.tup [kV top]) htp
  have S7:=ar.upd (o:=bB q0 (.ref sd)) hq0
  have S57:=S6.trans S7
  have htp7:=S7 _ _ (ag (H:=H5) (a:=tp) (o:=.tup [kV top]))
  have gd:GdH (.tup [.int (c:Int),aV mk]) c mk:=⟨rfl,c6,okm⟩
  have ew:bj c 0=[]:=eB (.inl rfl)
  have mn:bI c 0=1:=by rw[fe c1,ew];rfl
  have mks:dN (.tup [aV top]) (bI c 0) [top]:=⟨rfl,by rw[mn];rfl,.inr ⟨top,rfl,enT⟩⟩
  have due:Due g1 (bu kvs (hdK c mk) (.bl true)) 0 v0 (.tup [.int (c:Int),aV mk]) (.tup [aV top]) (dD mk mk v0 v0):=.good gd (oo _ _ _) (MS _) mks (fun h eh=>by
   rw[uA c1 (by rw[ew];rfl),ew]
   have:=emk h (Ext.of sub4 eh)
   rw[if_neg (by omega)]at this
   exact this) (fun h eh=>by
   rw[ev h eh]
   unfold oT jN;rw[if_pos rfl];rfl)
  have eh:dD mk mk v0 v0=.held:=by unfold dD;rw[if_pos rfl,if_pos rfl]
  rw[eh]at due
  have cl7:da (upd (upd H5 tp (.tup [kV top])) q0 (bB q0 (.ref sd))) fa df [q0] [.ref sd]:=⟨⟨cc,S57 _ _ hfa5,S57 _ _ hcc5⟩,.cons ag .nil⟩
  refine⟨dk,f,b,fa,h0,sd,bu kvs (hdK c mk) (.bl true),0,v0,g1,N+2,.ref hd,.ref tp,.tup [.int (c:Int),aV mk],.tup [aV top],.held,rfl,⟨dk5.same S57,⟨⟨q0,cl7⟩,S57 _ _ hsd5⟩,s5.same (pv _) S57,by omega,sb⟩,.tup (S57 _ _ hhd5) (.cons (.int _) (.cons (bY mk) .nil)),.tup htp7 (.cons (bY top) .nil),by show 1<=500;decide,due,⟨fun i _ e=>(nomatch e),fun i x y _ e=>(nomatch e)⟩,fun _ hv c' mk' g2 H8 e8 gd' km8 s8 sub8 dk8=>?_⟩
  obtain⟨rfl,rfl⟩:=gd.uniq gd'
  have s7:=s5.same (pv (N+2)) S57
  have x78:∀z φ,upd (upd H5 tp (.tup [kV top])) q0 (bB q0 (.ref sd)) z=some (.ext φ)->H8 z=some (.ext φ):=fun z φ e=>km8 _ _ (cR (s7.nb e (fun _ z=>nomatch z) (fun _ z=>nomatch z)) (aF e (S57 _ _ ob5) fun z=>nomatch z)) e
  have hq8:H8 q0=some (bB q0 (.ref sd)):=x78 _ _ ag
  refine⟨fun p hp w ew=>?_,fun _=>?_⟩
  ·rw[Mj.mp hp]at ew⊢
   cases LW (LW ew)
   exact hq8
  ·show Q (.ref dk) (upd (cp [q0] H8) q0 (bB q0 (.ref sd)))
   rw[DS hq8]
   have hsd8:H8 sd=some (.dT (bu kvs (hdK c' mk') (.bl true))):=km8 _ _ (cR sb (Md nsd)) (S57 _ _ hsd5)
   refine q dk fa hv _ g2 H8 (fun z o nz e=>?_) (tb5.keep (fun ps e=>?_) fun z φ e=>x78 _ _ (S57 _ _ e)) dH (s8.same (by omega) ar.rfl') (sub4.trans sub8) dk8 ⟨⟨q0,cl7.keep x78⟩,hsd8⟩ (by rw[if_neg (by omega)])
   ·have n1:z≠b:=fun w=>nz (by simp[w])
    exact km8 _ _ (cR n1 (av e dH)) (S57 _ _ (km5 _ _ nz e))
   ·exact km8 _ _ (cR (s7.nt (S57 _ _ e) tde.1 tde.2) (aF e ob5 fun z=>nomatch z)) (S57 _ _ e)
 ·have c0:c=0:=by have hc:¬(c:Int)>0:=hc;omega
  subst c0
  intro hq
  have hq0:H4 q0=none:=hq (2,q0) (by simp)
  have S5:=ar.upd (o:=bB q0 (.ref sd)) hq0
  have em:v0=mk:=by rw[ev _ (Ext.refl' g1),emk _ (Ext.of sub4 (Ext.refl' g1)),if_pos rfl];rfl
  subst em
  exact q dk fa h0 kvs g1 _ (km.trans (KM.same S5)) (tb4.keep (fun ps e=>S5 _ _ e) fun z φ e=>S5 _ _ e) dH (s4.same (by omega) S5) sub4 (dk4.same S5) ⟨⟨q0,⟨⟨cc,S5 _ _ hfa4,S5 _ _ hcc4⟩,.cons ag .nil⟩⟩,S5 _ _ hsd4⟩ (by rw[if_pos rfl])
def nH {H H':Hp}{a:Addr}{xs:List V}(s:SqL K H a xs)(k:ar H H'):SqL K H' a xs:=by
 rcases s with(e|⟨o,e⟩)|e
 ·exact .inl (.inl (k _ _ e))
 ·exact .inl (.inr ⟨o,k _ _ e⟩)
 ·exact .inr e
def qH (c e:Nat):bI c e<=61:=by
 unfold bI
 have:=lM c e
 split<;>omega
def Cp (K:cW)(A:Adr):Ln (pR K A) 2:=by rintro vs H Q E ⟨f,b,a,ns,g,N,rfl,_⟩;rfl
def Ea (T:Txt K mg A){Q:VK}{H:Hp}{f b a P:Addr}{c el:Nat}{x4:Option V}{ks:List Key}{g:gOp}{m:Nat}(s:Stp A H f b g m)(hn:m+500<=40000)(ec:el<=c)(c2:c<2^60)(hP:H P=some (.tup (ks.map kV)))(kl:ks.length=bI c el)(en:∀x∈ks,enK x)
  (q:∀(p R:Addr)(y o:Key)(g':gOp)(H':Hp),aI b H H'->Stp A H' f b g' (m+130)->Sub g g'->H' p=some (.tup [.int (c:Int),.int (el:Int),.ref P,.ref R])->H' P=some (.tup (ks.map kV))->H' R=some (.tup [kV y,kV o])->enB y->enB o->(∀h,Ext g' h->yT h c el ks=[.inr "row",.inl (c:Int),y]/\oT h c el ks=[.inr "row",.inl (el:Int),o]/\(el=0->o=h [.inr "void"]))->Q (.ref p) H'):
  wn K A {nx:=fun _ H'=>Q .non H',rt:=Q} [some (.ref f),some (.ref a),some (.int (c:Int)),some (.int (el:Int)),x4,some (.ref P),none,none] H:=by
 refine⟨f,rfl,s.clo,ax (show 1<=1000000 by decide),fun p0 hp0=>?_⟩
 have hk0:upd H p0 (.tup [.str "void"]) p0=some (.tup (([.inr "void"]:List Key).map kV)):=ag
 dsimp only[ak]
 refine eU (s.same (pv _) (ar.upd hp0)) (by omega) hk0 jt fun vo H1 g1 kb1 s1 sub1 gv1 st1=>⟨ax (show 2<=1000000 by decide),fun t0 ht0=>?_⟩
 have kb1:=(aI.same (ar.upd hp0)).trans kb1
 have okv:=eV st1 (by rw[sz1,szW.1];decide)
 have szv:szK vo<=200:=Mv (gj st1) (by rw[sz1,szW.1];decide)
 have hP1:H1 P=some (.tup (ks.map kV)):=kb1.obj s.bb hP (fun _ z=>nomatch z)
 have S2:=ar.upd (o:=.tup [kV vo,kV vo]) ht0
 have s2:=s1.same (pv _) S2
 have hP2:=S2 _ _ hP1
 have ht2:upd H1 t0 (.tup [kV vo,kV vo]) t0=some (.tup [kV vo,kV vo]):=ag
 generalize upd H1 t0 (.tup [kV vo,kV vo])=H2 at*
 have kb2:=kb1.trans (aI.same S2)
 have fin:∀(R:Addr)(y o:Key)(g3:gOp)(H3:Hp)(k:Nat),aI b H H3->Stp A H3 f b g3 (m+k)->k<=125->Sub g g3->H3 P=some (.tup (ks.map kV))->H3 R=some (.tup [kV y,kV o])->enB y->enB o->(∀h,Ext g3 h->yT h c el ks=[.inr "row",.inl (c:Int),y]/\oT h c el ks=[.inr "row",.inl (el:Int),o]/\(el=0->o=h [.inr "void"]))->
   vG K A {nx:=fun _ H'=>Q .non H',rt:=Q} [some (.ref f),some (.ref a),some (.int (c:Int)),some (.int (el:Int)),x4,some (.ref P),some (kV vo),some (.ref R)] H3:=fun R y o g3 H3 k kb3 s3 hk sub3 hP3 hR ey eo eq=>by
  refine⟨ax (show 4<=1000000 by decide),fun p hp=>?_⟩
  have S4:=ar.upd (o:=.tup [V.int (c:Int),.int (el:Int),.ref P,.ref R]) hp
  exact q p R y o g3 _ (kb3.trans (aI.same S4)) (s3.same (by omega) S4) sub3 ag (S4 _ _ hP3) (S4 _ _ hR) ey eo eq
 refine Sel.dec (fun he=>?_) (fun he=>?_)
 ·have e1:1<=el:=by have he:(el:Int)>0:=he;omega
  have c1:1<=c:=by omega
  rw[fe c1]at kl
  have l60:=lM c el
  refine⟨f,b,P,c,el,ks,g1,m+1,rfl,s2,by omega,e1,ec,c2,hP2,kl,by omega,l60,en,fun p y o g3 H3 kb3 s3 sub3 hp oky oko szy szo eq=>?_⟩
  refine fin p y o g3 H3 (1+2*(bj c el).length) (kb2.trans kb3) (s3.same (by omega) (.refl _)) (by omega) (sub1.trans sub3) (kb3.obj s2.bb hP2 (fun _ z=>nomatch z)) hp ⟨oky,by omega⟩ ⟨oko,by omega⟩ fun h eh=>?_
  rw[uA c1 kl,Ir e1 kl,<-eq h eh]
  exact⟨rfl,rfl,fun z=>by omega⟩
 ·have e0:el=0:=by have he:¬(el:Int)>0:=he;omega
  subst e0
  have ot:∀h,Ext g1 h->oT h c 0 ks=[.inr "row",.inl ((0:Nat):Int),vo]:=fun h eh=>by
   unfold oT jN;rw[if_pos rfl,eh _ _ gv1]
  have ov:∀h,Ext g1 h->(0:Nat)=0->vo=h [.inr "void"]:=fun h eh _=>(eh _ _ gv1).symm
  refine Sel.dec (fun hc=>?_) (fun hc=>?_)
  ·have c1:1<=c:=by have hc:(c:Int)>0:=hc;omega
   have ew:bj c 0=[]:=eB (.inl rfl)
   have kl':ks.length=(bj c 0).length+1:=by rw[kl,fe c1]
   rw[ew]at kl'
   obtain⟨x,hx⟩:∃x,ks[0]?=some x:=⟨_,LV (by rw[kl'];simp)⟩
   have ex:=en x (Mz hx)
   refine ixT (j:=0) hP2 rfl (by rw[ME,hx];rfl) ⟨ax (show 2<=1000000 by decide),fun R hR=>?_⟩
   refine fin R x vo g1 _ 1 (kb2.trans (aI.same (ar.upd hR))) (s2.same (pv _) (ar.upd hR)) (by omega) sub1 (ar.upd hR _ _ hP2) ag ex.b ⟨okv,by omega⟩ fun h eh=>⟨?_,ot h eh,ov h eh⟩
   rw[uA c1 (by rw[kl,fe c1]),ew]
   show[_,_,ks.getD 0 (.inl 0)]=_
   rw[Mi,hx];rfl
  ·have c0:c=0:=by have hc:¬(c:Int)>0:=hc;omega
   subst c0
   refine fin t0 vo vo g1 H2 1 kb2 s2 (by omega) sub1 hP2 ht2 ⟨okv,by omega⟩ ⟨okv,by omega⟩ fun h eh=>⟨?_,ot h eh,ov h eh⟩
   unfold yT
   rw[if_pos rfl,eh _ _ gv1];rfl
def GQ (T:Txt K mg A):Rd (pR K A) (KW K A) ["_law_stamper_here","_law_script","_law_count","_law_elder","_law_many_here","_law_marks","_law_void","_law_tops_here"]:=by
 intro vs H Q E h
 obtain⟨f,b,a,ns,g,N,rfl,s,hN,sq,q⟩:=h
 refine⟨a,ns,1,rfl,sq,by decide,fun z1=>⟨z1,rfl,fun c c6=>⟨a,ns,2,rfl,sq,by decide,fun z2=>⟨z2,c,rfl,fun e ec=>⟨c,e,rfl,ec,c6,?_⟩⟩⟩⟩⟩
 have m61:=qH c e
 refine⟨((bI c e:Nat):Int),rfl,by omega,by omega,fun C hC=>?_⟩
 rw[Oq]
 refine gB (fI.range (lo:=0) (n:=bI c e)) (fun i ys H'=>∃es:List Key,ys=es.map kV/\es.length=i/\(∀e∈es,enK e)/\H' C=some (.lst ys)/\ar H H')
  (fun _ _ _ _ _=>trivial) ⟨[],rfl,rfl,(fun _ h=>nomatch h),ag,ar.upd hC⟩ (fun i ys H5 hi h=>?_) (fun ys H5 h=>?_)
 ·obtain⟨es,e1,e2,e3,e4,S⟩:=h
  refine lP ⟨a,ns,_,rfl,nH sq S,by omega,fun zz=>⟨BI (by decide) (by decide),_,rfl,fun e H6 S6 en=>⟨S6 _ _ e4,?_,CWd.next hi ⟨es++[e],by rw[e1,MC];rfl,by rw[Mr,e2];rfl,fun x hx=>?_,ag,fun z o h=>?_⟩⟩⟩⟩
  ·rw[e1,Mf,e2];exact bU (by omega)
  ·rcases MX.mp hx with h|h
   ·exact e3 x h
   ·rw[Mj.mp h];exact en
  ·rw[ao (av h hC)];exact S6 _ _ (S _ _ h)
 obtain⟨ks,rfl,kl,ke,hC5,S5⟩:=h
 refine⟨C,_,rfl,.inl ⟨SqL.of hC5,fun P hP=>?_⟩⟩
 have S6:=S5.trans (ar.upd (o:=.tup (ks.map kV)) hP)
 exact Ea T (s.same (pv _) S6) (by omega) ec c6 ag kl ke fun p R y o g' H' kb s' sub hp hP' hR ey eo eq=>q p P R c e ks y o g' H' ((aI.same S6).trans kb) s' sub hp ec c6 hP' kl ke hR ey eo eq
def EQ (K:cW)(A:Adr):Ln (pV K A) 4:=by rintro vs H Q E ⟨f,b,z,e,o,g,N,rfl,_⟩;rfl
def JK (T:Txt K mg A):Rd (pV K A) (Ki K A) ["_law_stamper_here","_law_cell","_law_elder","_law_top"]:=by
 intro vs H Q E h
 obtain⟨f,b,z,e,o,g,N,rfl,s,hN,e6,eo,q⟩:=h
 have fin:∀(top:Key)(H1:Hp),ar H H1->enB top->(e=0->top=o)->wH K A {nx:=fun _ H'=>Q .non H',rt:=Q} [some (.ref f),some (.int z),some (.int (e:Int)),some (kV top)] H1:=fun top H1 S1 et e0=>by
  have s1:=s.same (pv _) S1
  refine⟨f,rfl,s1.clo,ax (show 3<=1000000 by decide),fun p1 h1=>?_⟩
  dsimp only[ak]
  refine iI s1 (by omega) e6 et.1 (by have:=et.2;omega) (fun v g' H' kb s' sub gv okv szv=>⟨ax (show 2<=1000000 by decide),fun hp hhp=>⟨ax (show 2<=1000000 by decide),fun r hr=>?_⟩⟩) p1 h1
  have S2:=ar.upd (o:=.tup [V.int (e:Int),kV v]) hhp
  have S3:=ar.upd (o:=.lst [V.ref hp,kV top]) hr
  exact q r hp top v g' _ ((aI.same S1).trans (kb.trans (aI.same (S2.trans S3)))) (s'.same (pv _) (S2.trans S3)) sub ag (S3 _ _ ag) et e0 okv gv
 refine⟨by decide,Sel.dec (fun h1=>Sel.dec (fun h2=>⟨⟨by decide,by decide⟩,_,rfl,fun t H1 S1 et=>fin t H1 S1 et.b fun z=>?_⟩) (fun h2=>fin o H ar.rfl' eo fun _=>rfl)) (fun h1=>Sel.f (fin o H ar.rfl' eo fun _=>rfl))⟩
 have h2:(e:Int)>0:=h2
 omega
def Er (K:cW)(A:Adr):Ln (pW K A) 4:=by rintro vs H Q E ⟨a,L,hp,ns,b0,b1,b2,b3,b4,c,e,mk,rfl,_⟩;rfl
def GI (T:Txt K mg A):Rd (pW K A) (Ld K A) ["_law_script","_law_wrong","_law_head_here","_law_elder","_law_mark"]:=by
 intro vs H Q E h
 obtain⟨a,L,hp,ns,b0,b1,b2,b3,b4,c,e,mk,rfl,sq,hL,hh,c6,okm,b2e,ec,q⟩:=h
 have fin:∀(m:Key)(H1:Hp),ar H H1->okP m=true->vU K A {nx:=fun _ H'=>Q .non H',rt:=Q} [some (.ref a),some (.ref L),some (.ref hp),some (.int (e:Int)),some (kV m)] H1:=fun m H1 S1 om=>by
  refine ixL (j:=0) (S1 _ _ hL) rfl rfl ?_
  cases b0 with
  |true=>exact Sel.t ⟨a,ns,4,rfl,nH sq S1,by decide,fun z=>⟨⟨by decide,by decide⟩,_,hp,c,mk,rfl,S1 _ _ hh,c6,fun v d H2 S2 dw hd nd nb=>q v d H2 (S1.trans S2) dw nd (fun _=>hd) (fun z=>nomatch z) nb⟩⟩
  |false=>
   refine Sel.f (ixL (j:=2) (S1 _ _ hL) rfl rfl ?_)
   cases b2 with
   |true=>
    have e0:=b2e rfl
    refine Sel.t ⟨a,ns,6,rfl,nH sq S1,by decide,fun z=>⟨⟨by decide,by decide⟩,by show(0:Int)<(e:Int);omega,ax (show 2<=1000000 by decide),fun p hp'=>?_⟩⟩
    have m0:=NC (z/4) (b:=(e:Int)) (by omega)
    have m1:=NN (z/4) (b:=(e:Int)) (by omega)
    obtain⟨k,hk⟩:=NI m0
    rw[hk]at m1⊢
    have S2:=ar.upd (o:=.tup [V.int (k:Int),kV m]) hp'
    exact q (.ref p) (.tup [.int (k:Int),aV m]) _ (S1.trans S2) (.tup ag (.cons (.int _) (.cons (bY m) .nil))) nofun (fun z=>nomatch z) (fun _=>⟨k,m,⟨rfl,by omega,om⟩,fun _=>by omega,(fun z=>nomatch z)⟩) (kI (kE m))
   |false=>
    refine Sel.f (ixT (j:=0) (S1 _ _ hh) rfl rfl ⟨ax (show 2<=1000000 by decide),fun p hp'=>?_⟩)
    have S2:=ar.upd (o:=.tup [V.int (c:Int),kV m]) hp'
    exact q (.ref p) (.tup [.int (c:Int),aV m]) _ (S1.trans S2) (.tup ag (.cons (.int _) (.cons (bY m) .nil))) nofun (fun z=>nomatch z) (fun _=>⟨c,m,⟨rfl,c6,om⟩,(fun z=>nomatch z),fun _=>rfl⟩) (kI (kE m))
 refine ixT (j:=1) hh rfl rfl (ixL (j:=4) hL rfl rfl ?_)
 cases b4 with
 |true=>exact Sel.t ⟨a,ns,8,rfl,sq,by decide,fun z=>⟨⟨by decide,by decide⟩,_,rfl,fun m H1 S1 em=>fin m H1 S1 em.1⟩⟩
 |false=>exact Sel.f (fin mk H ar.rfl' okm)
def JL {H:Hp}{Q:VK}{p r:Addr}{d:Dat}(hp:aG H (.ref p) d)(hr:aG H (.ref r) d)(ok:okD d=true)(dp:(db d).depth<=150)(q:Q (.bl true) H):bL K (.ref p) (.ref r) H Q:=
 .inr (.inl ⟨_,_,hp.toV ok,hr.toV ok,cy ok,cy ok,dp,by rw[Og _ (cy ok)];exact q⟩)
def Kp (b x:Addr)(H H':Hp):Prop:=∀z o,H z=some o->z≠b->z≠x->(∀ps,o≠.tbl ps)->H' z=some o
section
variable {H H' H'':Hp}{b x P:Addr}
def Kp.km (k:KM [b,x] H H'):Kp b x H H':=fun z o e n1 n2 _=>k z o (cR n1 n2) e
def Kp.kp {ps:Array tx}(hP:H P=some (.tbl ps))(k:aZ P H H'):Kp b x H H':=fun z o e _ _ n3=>k z o e (aF e hP (n3 _))
end
section
variable {H H':Hp}{dk f b qs hd sd x0:Addr}{n N N':Nat}{v0:Key}{g g':gOp}{kvs:List (List Key×V)}{v:V}{d:Dat}
def HrA.kp (x:HrA A H dk f b qs hd sd kvs n v0 g N)(k:Kp b x0 H H')(ne:dk≠x0)(hx0:∃C dx fs,H x0=some (.ins C dx fs))(s':Stp A H' f b g' N')(hN:N'+600<=39000):HrA A H' dk f b qs hd sd kvs n v0 g' N':=by
 obtain⟨C,d0,fs,e0⟩:=hx0
 have s:=x.s
 obtain⟨dx,B,ob⟩:=x.dk.ob
 have kx:∀z φ,H z=some (.ext φ)->H' z=some (.ext φ):=fun z φ e=>k _ _ e (s.nb e (fun _ z=>nomatch z) (fun _ z=>nomatch z)) (aF e e0 fun z=>nomatch z) (fun _ z=>nomatch z)
 refine⟨⟨⟨dx,B,k _ _ ob (s.nb ob (fun _ z=>nomatch z) (fun _ z=>nomatch z)) ne (fun _ z=>nomatch z)⟩,?_,x.dk.ok,x.dk.n6⟩,x.sl.keep kx ?_,s',hN,x.sb⟩
 ·exact k _ _ x.dk.hh (s.nb x.dk.hh (fun _ z=>nomatch z) (fun _ z=>nomatch z)) (aF x.dk.hh e0 fun z=>nomatch z) (fun _ z=>nomatch z)
 ·exact k _ _ x.sl.2 x.sb (aF x.sl.2 e0 fun z=>nomatch z) (fun _ z=>nomatch z)
def kq (s:Stp A H f b g N)(k:Kp b x0 H H')(hx0:∃C dx fs,H x0=some (.ins C dx fs)):∀z o,H z=some o->cZ o->H' z=some o:=fun z o e hd=>by
 obtain⟨C,d0,fs,e0⟩:=hx0
 rcases hd with⟨_,rfl⟩|⟨_,rfl⟩|⟨_,rfl⟩
 ·exact k _ _ e (s.nb e (fun _ z=>nomatch z) (fun _ z=>nomatch z)) (aF e e0 fun z=>nomatch z) (fun _ z=>nomatch z)
 ·exact k _ _ e (s.nb e (fun _ z=>nomatch z) (fun _ z=>nomatch z)) (aF e e0 fun z=>nomatch z) (fun _ z=>nomatch z)
 ·exact k _ _ e (s.nb e (fun _ z=>nomatch z) (fun _ z=>nomatch z)) (aF e e0 fun z=>nomatch z) (fun _ z=>nomatch z)
def HrA.ins (x:HrA A H dk f b qs hd sd kvs n v0 g N):∃C dx fs,H dk=some (.ins C dx fs):=by
 obtain⟨dx,B,ob⟩:=x.dk.ob
 exact⟨_,_,_,ob⟩
end
def Due.mono {g g':gOp}{kvs:List (List Key×V)}{n:Nat}{v0:Key}{d k:Dat}{o:Out}(h:Due g kvs n v0 d k o)(sub:Sub g g'):Due g' kvs n v0 d k o:=by
 cases h with
 |head h=>exact .head h
 |unse gd h=>exact .unse gd h
 |eld gd h lt=>exact .eld gd h lt
 |pap gd h le hk=>exact .pap gd h le hk
 |good gd h le hk ht hu=>exact .good gd h le hk (fun h eh=>ht h (Ext.of sub eh)) (fun h eh=>hu h (Ext.of sub eh))
theorem nn {H:Hp}:∀{xs:List V}{bs:List Bool},DatWs H xs (bs.map Dat.bl)->xs=bs.map V.bl
 |[],[],_=>rfl
 |[],_::_,h=>by cases h
 |_::_,[],h=>by cases h
 |x::xs,b::bs,h=>by
  cases h with
  |cons h1 h2=>
   cases h1
   rw[nn h2];rfl
def EI (K:cW)(A:Adr):Ln (pU K A) 4:=by rintro vs H Q E ⟨ds,du,cs,hp,h0,h1,dk0,dk1,f,b,qs0,qs1,sd,kvs,n,v0,g,N,v,m,d,k,o,rfl,_⟩;rfl
def DkZ.hr {H:Hp}{dk f b qs hd sd:Addr}{kvs:List (List Key×V)}{n N:Nat}{v0:Key}{v:V}{d:Dat}{o:Out}{g:List Key->Option Key}(z:DkZ A H dk f qs hd n v0 v d o)(sl:SlA H qs sd kvs)(s:Stp A H f b g N)(hN:N+600<=39000)(sb:sd≠b):∃h1 n1 v1,HrA A H dk f b qs h1 sd kvs n1 v1 g N:=by
 cases o with
 |held=>
  obtain⟨hv,c,mk,_,_,dk'⟩:=z
  exact⟨hv,c,mk,dk',sl,s,hN,sb⟩
 |ref i=>exact⟨hd,n,v0,z,sl,s,hN,sb⟩
 |bad i x y=>exact⟨hd,n,v0,z,sl,s,hN,sb⟩
def FQ (T:Txt K mg A){D:gb}{H:Hp}{ds du si cs hp h1 dk0 dk1 f b qs1 sd:Addr}{kvs:List (List Key×V)}{n:Nat}{v0:Key}{g:gOp}{N:Nat}{v m:V}{d k:Dat}{o:Out}{x7:Option V}(hds:H ds=some (.lst [.ref dk0,.ref dk1]))(hhp:H hp=some (.tup [.int (n:Int),kV v0]))(x:HrA A H dk1 f b qs1 h1 sd kvs n v0 g N)(hN:N+1200<=39000)(dw:aG H v d)(nd:d≠.non)(mw:aG H m k)(sh:eD k)(due:Due g kvs n v0 d k o)(wd:aG H (.ref du) (eY d (fY k o)))(ws:aG H (.ref si) (eY d (.ref 6)))(tn:TnA A)(tl:H A.t_26=some (.tbl #[]))(tb:H A.t_11=some (.tbl #[]))
  (q:∀(σ:L2.St)(g':gOp)(H':Hp),KM [b,dk1,A.t_26,A.t_11] H H'->Stp A H' f b g' (N+300)->Sub g g'->D.rt σ (.bl true) H'):
  qq K A D [some (.ref ds),some (.ref du),some (.int (n:Int)),some (.ref cs),some (.ref hp),some v,some m,x7,some (.ref si)] H:=by
 obtain⟨_,_,_,_,_,_,⟨nlb,_⟩,_⟩:=tn.all
 have s:=x.s
 refine ixL (j:=1) hds rfl rfl ⟨v,m,(n:Int),rfl,tl,fun ln H1 k1 ln1=>?_⟩
 have s1:=s.kp (pv N) tl tn.li.1 tn.li.2 k1
 have K1:Kp b dk1 H H1:=Kp.kp tl k1
 have dat1:∀z o,H z=some o->cZ o->H1 z=some o:=kq s K1 x.ins
 have x1:HrA A H1 dk1 f b qs1 h1 sd kvs n v0 g N:=by
  obtain⟨dx,B,ob⟩:=x.dk.ob
  have nt:∀{z:Addr}{o:HO},H z=some o->(∀ps,o≠.tbl ps)->H1 z=some o:=fun e h=>k1 _ _ e (aF e tl (h _))
  exact⟨⟨⟨dx,B,nt ob (fun _ z=>nomatch z)⟩,nt x.dk.hh (fun _ z=>nomatch z),x.dk.ok,x.dk.n6⟩,x.sl.keep (fun z φ e=>nt e (fun _ z=>nomatch z)) (nt x.sl.2 (fun _ z=>nomatch z)),s1,x.hN,x.sb⟩
 have tb1:=k1 _ _ tb (Md nlb)
 refine⟨dk1,f,b,qs1,h1,sd,kvs,n,v0,g,N,.ref ln,v,m,d,k,_,rfl,x1,dw.keep dat1,nd,mw.keep dat1,sh,.line ln1 due,fun p g2 H2 km2 s2 sub2 dz2 w2 ok2=>?_⟩
 have dat2:∀z o,H z=some o->cZ o->H2 z=some o:=fun z o e hd=>kq s1 (Kp.km km2) x1.ins z o (dat1 z o e hd) hd
 have dat2':∀z o,H z=some o->cZ o->H2 z=some o:=dat2
 refine ixL (j:=1) (dat2 _ _ hds (.inl ⟨_,rfl⟩)) rfl rfl ⟨dk1,f,qs1,h1,hp,du,p,n,v0,v,d,_,rfl,dz2,wd.keep dat2,w2,ok2,dat2 _ _ hhp (.inr (.inl ⟨_,rfl⟩)),x.dk.ok,fun H3 S3=>Sel.f ?_⟩
 have s3:=s2.same (pv _) S3
 have dat3:∀z o,H z=some o->cZ o->H3 z=some o:=fun z o e hd=>S3 _ _ (dat2 z o e hd)
 have e1:=x1.ins
 obtain⟨C0,d0,fs0,e1⟩:=e1
 have sl2:SlA H2 qs1 sd kvs:=x1.sl.keep (fun z φ e=>km2 _ _ (cR (s1.nb e (fun _ z=>nomatch z) (fun _ z=>nomatch z)) (aF e e1 fun z=>nomatch z)) e) (km2 _ _ (cR x.sb (aF x1.sl.2 e1 fun z=>nomatch z)) x1.sl.2)
 obtain⟨h2,n2,v2,x2⟩:=dz2.hr sl2 s2 (by omega) x.sb
 have x3:=x2.same S3
 have tb2:=km2 _ _ (cR (s1.nt tb1 tn.bo.1 tn.bo.2) (aF tb1 e1 fun z=>nomatch z)) tb1
 have tb3:=S3 _ _ tb2
 refine ixL (j:=1) (dat3 _ _ hds (.inl ⟨_,rfl⟩)) rfl rfl ⟨#[],tb3,trivial,.inl ⟨rfl,fun cc fa hc hf hne=>?_⟩⟩
 have cP:=bx tb3 hc
 have fP:=bx tb3 hf
 have c1:∀o,upd H3 A.t_11 o cc=none:=fun o=>by rw[ao cP];exact hc
 have f1:∀o,upd (upd H3 A.t_11 o) cc (bz cc cL.qual) fa=none:=fun o=>by rw[ao (Md hne),ao fP];exact hf
 intro ln2 dx hln hdx ne
 have k4:aZ A.t_11 H3 (upd (upd (upd H3 A.t_11 (.tbl (#[]++#[rawInt ((426:Nat):Int),rawInt ((45:Nat):Int),.ref cc]))) cc (bz cc cL.qual)) fa (bN fa cL [] cc)):=aZ.tab.trans ((aZ.new (c1 _)).trans (aZ.new (f1 _)))
 have hfa4:upd (upd (upd H3 A.t_11 (.tbl (#[]++#[rawInt ((426:Nat):Int),rawInt ((45:Nat):Int),.ref cc]))) cc (bz cc cL.qual)) fa (bN fa cL [] cc) fa=some (bN fa cL [] cc):=ag
 have hcc4:upd (upd (upd H3 A.t_11 (.tbl (#[]++#[rawInt ((426:Nat):Int),rawInt ((45:Nat):Int),.ref cc]))) cc (bz cc cL.qual)) fa (bN fa cL [] cc) cc=some (bz cc cL.qual):=by rw[ao hne];exact ag
 refine⟨ln2,dx,fa,rfl,ag,rfl,?_⟩
 revert hln hdx
 show ∀(hln:upd (upd (upd H3 A.t_11 (.tbl (#[]++#[rawInt ((426:Nat):Int),rawInt ((45:Nat):Int),.ref cc]))) cc (bz cc cL.qual)) fa (bN fa cL [] cc) ln2=none)(hdx:_),_
 generalize upd (upd (upd H3 A.t_11 (.tbl (#[]++#[rawInt ((426:Nat):Int),rawInt ((45:Nat):Int),.ref cc]))) cc (bz cc cL.qual)) fa (bN fa cL [] cc)=H4 at k4 hfa4 hcc4⊢
 intro hln hdx
 have S5:ar H4 (upd (upd (upd H4 dx (.own ln2)) ln2 (.ins A.c_Spoken dx [])) ln2 (.ins A.c_Spoken dx [("answerer",.ref fa)])):=fun z o e=>by
  have n1:=av e hln
  have n2:=av e hdx
  rw[ao n1,ao n1,ao n2];exact e
 have hl5:upd (upd (upd H4 dx (.own ln2)) ln2 (.ins A.c_Spoken dx [])) ln2 (.ins A.c_Spoken dx [("answerer",.ref fa)]) ln2=some (.ins A.c_Spoken dx [("answerer",.ref fa)]):=ag
 generalize upd (upd (upd H4 dx (.own ln2)) ln2 (.ins A.c_Spoken dx [])) ln2 (.ins A.c_Spoken dx [("answerer",.ref fa)])=H5 at S5 hl5⊢
 have lnn:LnN A H5 ln2:=⟨dx,fa,hl5,⟨⟨cc,S5 _ _ hfa4,S5 _ _ hcc4⟩,.nil⟩⟩
 have s4:=s3.kp (pv _) tb3 tn.bo.1 tn.bo.2 k4
 have s5:=s4.same (pv _) S5
 have nt4:∀{z:Addr}{o:HO},H3 z=some o->(∀ps,o≠.tbl ps)->H5 z=some o:=fun e h=>S5 _ _ (k4 _ _ e (aF e tb3 (h _)))
 have dat5:∀z o,H z=some o->cZ o->H5 z=some o:=fun z o e hd=>nt4 (dat3 z o e hd) fun ps w=>by subst w;rcases hd with⟨_,w⟩|⟨_,w⟩|⟨_,w⟩<;>cases w
 have x5:HrA A H5 dk1 f b qs1 h2 sd kvs n2 v2 g2 (N+132):=by
  obtain⟨dx,B,ob⟩:=x3.dk.ob
  exact⟨⟨⟨dx,B,nt4 ob (fun _ z=>nomatch z)⟩,nt4 x3.dk.hh (fun _ z=>nomatch z),x3.dk.ok,x3.dk.n6⟩,x3.sl.keep (fun z φ e=>nt4 e (fun _ z=>nomatch z)) (nt4 x3.sl.2 (fun _ z=>nomatch z)),s5,x3.hN,x3.sb⟩
 refine⟨dk1,f,b,qs1,h2,sd,kvs,n2,v2,g2,N+132,.ref ln2,v,m,d,k,_,rfl,x5,dw.keep dat5,nd,mw.keep dat5,sh,.none lnn,fun p6 g6 H6 km6 s6 sub6 dz6 w6 ok6=>?_⟩
 have dat6:∀z o,H z=some o->cZ o->H6 z=some o:=fun z o e hd=>kq s5 (Kp.km km6) x5.ins z o (dat5 z o e hd) hd
 refine JL w6 (ws.keep dat6) ok6 (sY fun z=>nomatch z) (q _ g6 H6 (fun z o nz e=>?_) (s6.same (by omega) ar.rfl') (sub2.trans sub6))
 have n1:z≠b:=fun w=>nz (by simp[w])
 have n2:z≠dk1:=fun w=>nz (by simp[w])
 have n3:z≠A.t_26:=fun w=>nz (by simp[w])
 have n4:z≠A.t_11:=fun w=>nz (by simp[w])
 exact km6 _ _ (cR n1 n2) (S5 _ _ (k4 _ _ (S3 _ _ (km2 _ _ (cR n1 n2) (k1 _ _ e n3))) n4))
def Gb (T:Txt K mg A)(nd:([]:List Addr).Nodup)(vs:List V)(H:Hp)(Q:VK)(E:XK)(h:pU K A vs H Q E):EV K A {nx:=fun σ H'=>(∀p∈([]:List (Nat×Addr)),H' p.2=none)->Q .non (br [] σ H'),rt:=fun σ v H'=>(∀p∈([]:List (Nat×Addr)),H' p.2=none)->Q v (br [] σ H')} (L2.start ["_law_desks","_law_due_here","_law_elder","_law_case","_law_held_here","_law_head_here","_law_paper","_law_told","_law_silent"] vs) H:=by
 obtain⟨ds,du,cs,hp,h0,h1,dk0,dk1,f,b,qs0,qs1,sd,kvs,n,v0,g,N,v,m,d,k,o,rfl,hds,hcs,hhp,x0,x1,ne,hN3,dw,ndd,mw,sh,due,wd,tn,tl,tb,q⟩:=h
 obtain⟨dx0,B0,ob0⟩:=x0.dk.ob
 have s:=x0.s
 refine⟨cs,_,rfl,SqT.of hcs,rfl,_,_,rfl,_,_,rfl,_,_,rfl,rfl,?_⟩
 refine ixL (j:=0) hds rfl rfl ⟨dk0,A.c_Desk,dx0,_,_,rfl,ob0,T.cl_Desk,T.na_Desk_held,rfl,?_⟩
 have gdh:GdH (.tup [.int (n:Int),aV v0]) n v0:=⟨rfl,x0.dk.n6,x0.dk.ok⟩
 have wh0:aG H (.ref h0) (.tup [.int (n:Int),aV v0]):=.tup x0.dk.hh (.cons (.int _) (.cons (bY v0) .nil))
 have whp:aG H (.ref hp) (.tup [.int (n:Int),aV v0]):=.tup hhp (.cons (.int _) (.cons (bY v0) .nil))
 refine⟨_,_,wh0.toV gdh.okD,whp.toV gdh.okD,cy gdh.okD,cy gdh.okD,Mv gdh.dep (by decide),?_⟩
 rw[Og _ (cy gdh.okD)]
 refine Sel.f (ixL (j:=0) hds rfl rfl ⟨dk0,f,b,qs0,h0,sd,kvs,n,v0,g,N,.non,v,m,d,k,o,rfl,x0,dw,ndd,mw,sh,.word due,fun p1 g1 H1 km1 s1 sub1 dz1 w1 ok1=>?_⟩)
 have dat1:∀z o,H z=some o->cZ o->H1 z=some o:=kq s (Kp.km km1) x0.ins
 refine ixL (j:=0) (dat1 _ _ hds (.inl ⟨_,rfl⟩)) rfl rfl ⟨dk0,f,qs0,h0,hp,du,p1,n,v0,v,d,o,rfl,dz1,wd.keep dat1,w1,ok1,dat1 _ _ hhp (.inr (.inl ⟨_,rfl⟩)),x0.dk.ok,fun H2 S2=>Sel.f ?_⟩
 refine⟨8,rfl,by decide,by decide,mm (i:=6) (fun j H' q hj h=>?_) fun Df H3 S3 hDf=>⟨ax (show 2<=1000000 by decide),fun si hsi=>?_⟩⟩
 ·have e:(decide ((0:Int)+(j:Int)>5))=(decide (j=6)||decide (j=7)):=by
   rcases(show j<6\/j=6\/j=7 by omega)with e|rfl|rfl
   ·rw[decide_eq_false (by omega),decide_eq_false (by omega),decide_eq_false (by omega)];rfl
   ·rfl
   ·rfl
  show q (.bl (decide ((0:Int)+(j:Int)>5))) H'
  rw[e];exact h
 have S4:=ar.upd (o:=.tup [.str "refused",.ref Df]) hsi
 have S14:=S2.trans (S3.trans S4)
 have ws:aG (upd H3 si (.tup [.str "refused",.ref Df])) (.ref si) (eY d (.ref 6)):=.tup ag (.cons (.str _) (.cons (.lst (S4 _ _ hDf) (mv _ _)) .nil))
 generalize upd H3 si (.tup [.str "refused",.ref Df])=H4 at S4 S14 ws⊢
 have dat4:∀z o,H z=some o->cZ o->H4 z=some o:=fun z o e hd=>S14 _ _ (dat1 z o e hd)
 have s4:=s1.same (pv _) S14
 have e0:=x0.ins
 have hN:=x0.hN
 have x14:HrA A H4 dk1 f b qs1 h1 sd kvs n v0 g1 (N+132):=(x1.kp (Kp.km km1) (Md ne) e0 s1 (by omega)).same S14
 obtain⟨C0,d0,fs0,e0⟩:=e0
 have tab4:∀{P:Addr},P≠A.t_66->P≠A.t_40->H P=some (.tbl #[])->H4 P=some (.tbl #[]):=fun n1 n2 e=>S14 _ _ (km1 _ _ (cR (s.nt e n1 n2) (aF e e0 fun z=>nomatch z)) e)
 have tl4:=tab4 tn.li.1 tn.li.2 tl
 have tb4:=tab4 tn.bo.1 tn.bo.2 tb
 have nl0:dk0≠A.t_26:=aF e0 tl fun z=>nomatch z
 have nb0:dk0≠A.t_11:=aF e0 tb fun z=>nomatch z
 have b0:dk0≠b:=s.nb e0 (fun _ z=>nomatch z) (fun _ z=>nomatch z)
 have fin:∀(du':Addr),aG H4 (.ref du') (eY d (fY k o))->qq K A {nx:=fun σ H'=>(∀p∈([]:List (Nat×Addr)),H' p.2=none)->Q .non (br [] σ H'),rt:=fun σ v H'=>(∀p∈([]:List (Nat×Addr)),H' p.2=none)->Q v (br [] σ H')} [some (.ref ds),some (.ref du'),some (.int (n:Int)),some (.ref cs),some (.ref hp),some v,some m,some (.ref p1),some (.ref si)] H4:=fun du' wd'=>
  FQ T (dat4 _ _ hds (.inl ⟨_,rfl⟩)) (dat4 _ _ hhp (.inr (.inl ⟨_,rfl⟩))) x14 (by omega) (dw.keep dat4) ndd (mw.keep dat4) sh (due.mono sub1) wd' ws tn tl4 tb4 fun σ g' H' km s' sub _=>q g' H' (fun z o nz e=>?_) (s'.same (by omega) ar.rfl') (sub1.trans sub) fun nh=>?_
 . -- the flag for no paper
   have wd4:=wd.keep dat4
   by_cases kn:k=.non
   ·subst kn
    cases sm mw
    refine Sel.t ?_
    cases o with
    |held=>
     cases wd4 with
     |tup hdu wds=>
     cases wds with
     |cons w1 wds=>
     cases w1 with
     |str _=>exact ixT (j:=0) hdu rfl rfl (Sel.no (by decide) (Sel.f (fin du (wd.keep dat4))))
    |ref i=>
     cases wd4 with
     |tup hdu wds=>
     cases wds with
     |cons w1 wds=>
     cases w1 with
     |str _=>
     cases wds with
     |cons w2 wds=>
     cases w2 with
     |lst hfl wfl=>
     have efl:=nn wfl
     subst efl
     refine ixT (j:=0) hdu rfl rfl (Sel.yes (by decide) (ixT (j:=1) hdu rfl rfl (ixL (j:=3) hfl rfl (by rw[ME];rfl) ?_)))
     by_cases i3:i=3
     ·subst i3
      exact Sel.t (fin si ws)
     ·refine Sel.no (by show(decide (3=i)||decide (3=7))=false;rw[decide_eq_false (Md i3)];rfl) (fin du ?_)
      rw[lh i3]
      exact wd.keep dat4
    |bad i y z=>
     cases wd4 with
     |tup hdu wds=>
     cases wds with
     |cons w1 wds=>
     cases w1 with
     |str _=>
     cases wds with
     |cons w2 wds=>
     cases w2 with
     |lst hfl wfl=>
     have efl:=nn wfl
     subst efl
     have i3:i≠3:=by have:=due.kd;rcases this with rfl|rfl<;>decide
     refine ixT (j:=0) hdu rfl rfl (Sel.yes (by decide) (ixT (j:=1) hdu rfl rfl (ixL (j:=3) hfl rfl (by rw[ME];rfl) ?_)))
     exact Sel.no (by show(decide (3=i)||decide (3=7))=false;rw[decide_eq_false (Md i3)];rfl) (fin du (wd.keep dat4))
   ·have f1:=fin du (by rw[jq kn];exact wd4)
    have mw4:=mw.keep dat4
    cases mw with
    |non=>exact absurd rfl kn
    |bl _=>exact Sel.f (Sel.f f1)
    |int _=>exact Sel.f (Sel.f f1)
    |str _=>exact Sel.f (Sel.f f1)
    |lst _ _=>exact Sel.f (Sel.f f1)
    |tup _ _=>exact Sel.f (Sel.f f1)
    |dic _=>exact Sel.f (Sel.f f1)
 ·have n1:z≠b:=fun w=>nz (by simp[w])
  have n2:z≠dk0:=fun w=>nz (by simp[w])
  refine km _ _ (fun w=>nz ?_) (S14 _ _ (km1 _ _ (cR n1 n2) e))
  simp only[LZ,Mp,or_false]at w⊢
  rcases w with w|w|w|w
  ·exact .inl w
  ·exact .inr (.inr (.inl w))
  ·exact .inr (.inr (.inr (.inl w)))
  ·exact .inr (.inr (.inr (.inr w)))
 ·have dk4:DkA A H4 dk0 f qs0 h0 n v0:=by
   have:DkA A H1 dk0 f qs0 h0 n v0:=by
    cases o with
    |held=>exact absurd rfl nh
    |ref i=>exact dz1
    |bad i y z=>exact dz1
   exact this.same S14
  obtain⟨dx4,B4,ob4⟩:=dk4.ob
  have n0:∀{z:Addr}{o:HO},H4 z=some o->z≠b->z≠dk1->(∀ps,o≠.tbl ps)->H' z=some o:=fun e h1 h2 h3=>km _ _ (fun w=>by
   simp only[LZ,Mp,or_false]at w
   rcases w with w|w|w|w
   ·exact h1 w
   ·exact h2 w
   ·exact aF e tl4 (h3 _) w
   ·exact aF e tb4 (h3 _) w) e
  obtain⟨C1,d1,fs1,e1⟩:=x14.ins
  exact⟨⟨dx4,B4,n0 ob4 b0 ne (fun _ z=>nomatch z)⟩,n0 dk4.hh (s4.nb dk4.hh (fun _ z=>nomatch z) (fun _ z=>nomatch z)) (aF dk4.hh e1 fun z=>nomatch z) (fun _ z=>nomatch z),dk4.ok,dk4.n6⟩
def Ay {x y:Key}(h:(db (aV x)).eqv (db (aV y))=true):x=y:=by
 cases x with
 |inl i=>
  cases y with
  |inl j=>
   have h:(PyData.int i).eqv (.int j)=true:=h
   simp[Qd]at h
   rw[h]
  |inr z=>simp[db,aV,Qd]at h
 |inr z=>
  cases y with
  |inl j=>simp[db,aV,Qd]at h
  |inr w=>
   have h:(PyData.str z).eqv (.str w)=true:=h
   simp[Qd]at h
   rw[h]
def rM {H:Hp}{a b:Addr}{n:Nat}{x y:Key}(n6:n<2^60)(ha:H a=some (.tup [.int (n:Int),kV x]))(hb:H b=some (.tup [.int (n:Int),kV y]))(ox:okP x=true)(oy:okP y=true):∃d1 d2:SI,dR K H (.ref a) d1/\dR K H (.ref b) d2/\d1.canLay0=true/\d2.canLay0=true/\d1.depth<=150/\(d1.eqv d2=false\/(d1.eqv d2=true/\x=y)):=by
 have gx:GdH (.tup [.int (n:Int),aV x]) n x:=⟨rfl,n6,ox⟩
 have gy:GdH (.tup [.int (n:Int),aV y]) n y:=⟨rfl,n6,oy⟩
 have wa:aG H (.ref a) (.tup [.int (n:Int),aV x]):=.tup ha (.cons (.int _) (.cons (bY x) .nil))
 have wb:aG H (.ref b) (.tup [.int (n:Int),aV y]):=.tup hb (.cons (.int _) (.cons (bY y) .nil))
 refine⟨_,_,wa.toV gx.okD,wb.toV gy.okD,cy gx.okD,cy gy.okD,Mv (by first|exact gx.dep|exact gy.dep) (by decide),?_⟩
 cases e:(db (.tup [.int (n:Int),aV x])).eqv (db (.tup [.int (n:Int),aV y]))with
 |false=>exact .inl rfl
 |true=>
  refine .inr ⟨rfl,Ay ?_⟩
  have e:(Td [.int (n:Int),db (aV x)] [.int (n:Int),db (aV y)])=true:=by simpa[db,toPys,Qd]using e
  simp[Td]at e
  exact e.2
section
variable {D:gb}{H:Hp}{a f b P R hg ho hp L sd ds du dk0 dk1 qs0 qs1 h0 h1 q0:Addr}{B c e N:Nat}{ks:List Key}{y o1 gm om hm top:Key}{g:gOp}{kvs:List (List Key×V)}{ns:List Int}{v m:V}{d k:Dat}{x11 x12 x13 x16 x17:Option V}
def zI (T:Txt K mg A){x0 x2 x6 x8 x9 x10:Option V}(hds:H ds=some (.lst [.ref dk0,.ref dk1]))(hhg:H hg=some (.tup [.int (c:Int),kV gm]))(hP:H P=some (.tup (ks.map kV)))(x:HrA A H dk0 f b qs0 h0 sd kvs e om g N)(hN:N<=35000)(kvl:kvs.length<=20)(kl:ks.length=bI c e)(en:∀x∈ks,enK x)(ec:e<=c)(c6:c<2^60)(okg:okP gm=true)(eg:∀h,Ext g h->gm=h (yT h c e ks))(eo:∀h,Ext g h->om=h (oT h c e ks))(q:∀σ H',D.rt σ (.bl true) H'):
  sU K A q0 D [x0,some (.ref f),x2,some (.int (c:Int)),some (.int (e:Int)),some (.ref P),x6,some (.ref hg),x8,x9,x10,x11,x12,x13,some (.ref sd),some (.ref ds),x16,x17] H:=by
 have s:=x.s
 refine .inr ⟨sd,_,rfl,ku.t (k:=hdK c gm) x.sl.2 hhg (bU (by omega)),?_⟩
 have k5:∀z o,z≠sd->H z=some o->upd H sd (.dT (bu kvs (hdK c gm) (.bl true))) z=some o:=fun z o nz e=>by rw[ao nz];exact e
 have hsd5:upd H sd (.dT (bu kvs (hdK c gm) (.bl true))) sd=some (.dT (bu kvs (hdK c gm) (.bl true))):=ag
 have hsd:=x.sl.2
 have s5:Stp A (upd H sd (.dT (bu kvs (hdK c gm) (.bl true)))) f b g N:=s.keep (pv _) fun z o e _ _ h3=>k5 _ _ (fun w=>by
  subst w
  rw[hsd]at e
  cases e
  rcases h3 with h3|h3
  ·exact x.sb h3
  ·exact h3 _ rfl) e
 obtain⟨dx,B0,ob⟩:=x.dk.ob
 have ob5:=k5 _ _ (aF ob hsd fun z=>nomatch z) ob
 have x5:HrA A (upd H sd (.dT (bu kvs (hdK c gm) (.bl true)))) dk0 f b qs0 h0 sd (bu kvs (hdK c gm) (.bl true)) e om g N:=⟨⟨⟨dx,B0,ob5⟩,k5 _ _ (aF x.dk.hh hsd fun z=>nomatch z) x.dk.hh,x.dk.ok,x.dk.n6⟩,⟨x.sl.1.imp fun q cl=>cl.keep fun z φ e=>k5 _ _ (aF e hsd fun z=>nomatch z) e,hsd5⟩,s5,x.hN,x.sb⟩
 have hds5:=k5 _ _ (aF hds hsd fun z=>nomatch z) hds
 have hhg5:=k5 _ _ (aF hhg hsd fun z=>nomatch z) hhg
 have hP5:=k5 _ _ (aF hP hsd fun z=>nomatch z) hP
 generalize upd H sd (.dT (bu kvs (hdK c gm) (.bl true)))=H5 at*
 have gd:GdH (.tup [.int (c:Int),aV gm]) c gm:=⟨rfl,c6,okg⟩
 have l61:=qH c e
 have due:Due g (bu kvs (hdK c gm) (.bl true)) e om (.tup [.int (c:Int),aV gm]) (.tup (ks.map aV)) (dD gm gm om om):=.good gd (oo _ _ _) ec ⟨rfl,kl,.inl en⟩ eg eo
 have eh:dD gm gm om om=.held:=by unfold dD;rw[if_pos rfl,if_pos rfl]
 rw[eh]at due
 refine ixL (j:=0) hds5 rfl rfl ⟨dk0,dx,_,rfl,ob5,rfl,dk0,f,b,qs0,h0,sd,_,e,om,g,N,.ref hg,.ref P,_,_,.held,rfl,x5,.tup hhg5 (.cons (.int _) (.cons (bY gm) .nil)),.tup hP5 (fw ks),by show(ks.map aV).length<=500;rw[Mf];omega,due,⟨fun i _ e=>(nomatch e),fun i x y _ e=>(nomatch e)⟩,fun _ hv c' mk' g2 H2 e2 gd' km2 s2 sub2 dk2=>?_⟩
 obtain⟨rfl,rfl⟩:=gd.uniq gd'
 cases e2
 have kd2:∀z o,H5 z=some o->cZ o->H2 z=some o:=kq s5 (Kp.km km2) ⟨_,_,_,ob5⟩
 obtain⟨dx2,B2,ob2⟩:=dk2.ob
 refine eE (k:=hdK c' mk') (l:=hdK c' mk') dk2.hh dk2.hh ?_
 rw[decide_eq_true rfl]
 refine Sel.t (ixL (j:=0) (kd2 _ _ hds5 (.inl ⟨_,rfl⟩)) rfl rfl ⟨dk0,A.c_Desk,dx2,_,_,rfl,ob2,T.cl_Desk,T.na_Desk_held,rfl,eE (k:=hdK c' mk') (l:=hdK c' mk') dk2.hh dk2.hh ?_⟩)
 rw[decide_eq_true rfl]
 exact q _ H2
def FN (T:Txt K mg A){o:Out}{x0 x2 x6 x10:Option V}(hds:H ds=some (.lst [.ref dk0,.ref dk1]))(hhg:H hg=some (.tup [.int (c:Int),kV gm]))(hP:H P=some (.tup (ks.map kV)))(hho:H ho=some (.tup [.int (e:Int),kV om]))(hhp:H hp=some (.tup [.int (e:Int),kV hm]))(wd:aG H (.ref du) (eY d o))(x:o≠.held->HrA A H dk0 f b qs0 h0 sd kvs e hm g N)(okh:okP hm=true)(hN:N<=35000)(kvl:kvs.length<=20)(kl:ks.length=bI c e)(en:∀x∈ks,enK x)(ec:e<=c)(c6:c<2^60)(okg:okP gm=true)(oko:okP om=true)(eg:∀h,Ext g h->gm=h (yT h c e ks))(eo:∀h,Ext g h->om=h (oT h c e ks))(q:∀σ H',D.rt σ (.bl true) H'):
  ss K A q0 D [x0,some (.ref f),x2,some (.int (c:Int)),some (.int (e:Int)),some (.ref P),x6,some (.ref hg),some (.ref ho),some (.ref hp),x10,x11,x12,x13,some (.ref sd),some (.ref ds),some (.ref du),x17] H:=by
 cases o with
 |held=>
  cases wd with
  |tup hdu wds=>
  cases wds with
  |cons w1 wds=>
  cases w1 with
  |str _=>exact ixT (j:=0) hdu rfl rfl (Sel.yes (by decide) (Sel.t (q _ H)))
 |ref i=>
  have x:=x nofun
  cases wd with
  |tup hdu wds=>
  cases wds with
  |cons w1 wds=>
  cases w1 with
  |str _=>
   refine ixT (j:=0) hdu rfl rfl (Sel.no (by decide) ?_)
   obtain⟨d1,d2,w1,w2,l1,l2,dp,h⟩:=rM (K:=K) x.dk.n6 hhp hho okh oko
   refine⟨d1,d2,w1,w2,l1,l2,dp,?_⟩
   rcases h with ee|⟨ee,rfl⟩
   ·rw[ee];exact Sel.t (q _ H)
   ·rw[ee]
    exact Sel.f (zI T hds hhg hP x hN kvl kl en ec c6 okg eg eo q)
 |bad i y z=>
  have x:=x nofun
  cases wd with
  |tup hdu wds=>
  cases wds with
  |cons w1 wds=>
  cases w1 with
  |str _=>
   refine ixT (j:=0) hdu rfl rfl (Sel.no (by decide) ?_)
   obtain⟨d1,d2,w1,w2,l1,l2,dp,h⟩:=rM (K:=K) x.dk.n6 hhp hho okh oko
   refine⟨d1,d2,w1,w2,l1,l2,dp,?_⟩
   rcases h with ee|⟨ee,rfl⟩
   ·rw[ee];exact Sel.t (q _ H)
   ·rw[ee]
    exact Sel.f (zI T hds hhg hP x hN kvl kl en ec c6 okg eg eo q)
end
def Sc (K:cW)(a b:Addr)(ns:List Int)(H:Hp):Prop:=SqL K H a (ns.map V.int)/\((∀H',SqL K H' a (ns.map V.int))\/a≠b)
def Sc.k {a b:Addr}{ns:List Int}{H H':Hp}(h:Sc K a b ns H)(k:∀o,H a=some o->(∀ps,o≠.tbl ps)->(∀C dx fs,o≠.ins C dx fs)->(∀kv,o≠.dT kv)->a≠b->H' a=some o):Sc K a b ns H':=by
 obtain⟨s,n⟩:=h
 rcases n with n|n
 ·exact⟨n H',.inl n⟩
 ·refine⟨?_,.inr n⟩
  rcases s with(e|⟨o,e⟩)|e
  ·exact .inl (.inl (k _ e (fun _ z=>nomatch z) (fun _ _ _ z=>nomatch z) (fun _ z=>nomatch z) n))
  ·exact .inl (.inr ⟨o,k _ e (fun _ z=>nomatch z) (fun _ _ _ z=>nomatch z) (fun _ z=>nomatch z) n⟩)
  ·exact .inr e
def Sc.same {a b:Addr}{ns:List Int}{H H':Hp}(h:Sc K a b ns H)(S:ar H H'):Sc K a b ns H':=h.k fun o e _ _ _ _=>S _ _ e
def Sc.kb {a b:Addr}{ns:List Int}{H H':Hp}(h:Sc K a b ns H)(k:aI b H H'):Sc K a b ns H':=h.k fun o e _ _ _ n=>k _ _ n e
def Kx (b:Addr)(H H':Hp):Prop:=∀z o,H z=some o->z≠b->(∀ps,o≠.tbl ps)->H' z=some o
def Sc.kn {a b:Addr}{ns:List Int}{H H':Hp}(h:Sc K a b ns H)(k:Kx b H H'):Sc K a b ns H':=h.k fun o e h1 _ _ n=>k _ _ e n h1
structure E19 (A:Adr)(H:Hp)(f b P hg ho hp sd ds du dk0 dk1 qs0 h0:Addr)(c e:Nat)(ks:List Key)(gm om hm:Key)(g:gOp)(N:Nat)(kvs:List (List Key×V))(d:Dat)(o:Out):Prop where
 hds:H ds=some (.lst [.ref dk0,.ref dk1])
 hhg:H hg=some (.tup [.int (c:Int),kV gm])
 hP:H P=some (.tup (ks.map kV))
 hho:H ho=some (.tup [.int (e:Int),kV om])
 hhp:H hp=some (.tup [.int (e:Int),kV hm])
 wd:aG H (.ref du) (eY d o)
 s:Stp A H f b g N
 x:o≠.held->HrA A H dk0 f b qs0 h0 sd kvs e hm g N
 okh:okP hm=true
 kvl:kvs.length<=20
 kl:ks.length=bI c e
 en:∀x∈ks,enK x
 ec:e<=c
 c6:c<2^60
 okg:okP gm=true
 oko:okP om=true
 eg:∀h,Ext g h->gm=h (yT h c e ks)
 eo:∀h,Ext g h->om=h (oT h c e ks)
def HrA.kn {H H':Hp}{dk f b qs hd sd:Addr}{n N N':Nat}{v0:Key}{g g':gOp}{kvs:List (List Key×V)}(x:HrA A H dk f b qs hd sd kvs n v0 g N)(k:Kx b H H')(s':Stp A H' f b g' N')(hN:N'+600<=39000):HrA A H' dk f b qs hd sd kvs n v0 g' N':=by
 have s:=x.s
 obtain⟨dx,B,ob⟩:=x.dk.ob
 exact⟨⟨⟨dx,B,k _ _ ob (s.nb ob (fun _ z=>nomatch z) (fun _ z=>nomatch z)) (fun _ z=>nomatch z)⟩,k _ _ x.dk.hh (s.nb x.dk.hh (fun _ z=>nomatch z) (fun _ z=>nomatch z)) (fun _ z=>nomatch z),x.dk.ok,x.dk.n6⟩,x.sl.keep (fun z φ e=>k _ _ e (s.nb e (fun _ z=>nomatch z) (fun _ z=>nomatch z)) (fun _ z=>nomatch z)) (k _ _ x.sl.2 x.sb (fun _ z=>nomatch z)),s',hN,x.sb⟩
def ww {H H':Hp}{f b:Addr}{g:gOp}{N:Nat}(s:Stp A H f b g N)(k:Kx b H H'):∀z o,H z=some o->cZ o->H' z=some o:=fun z o e hd=>by
 rcases hd with⟨_,rfl⟩|⟨_,rfl⟩|⟨_,rfl⟩
 ·exact k _ _ e (s.nb e (fun _ z=>nomatch z) (fun _ z=>nomatch z)) (fun _ z=>nomatch z)
 ·exact k _ _ e (s.nb e (fun _ z=>nomatch z) (fun _ z=>nomatch z)) (fun _ z=>nomatch z)
 ·exact k _ _ e (s.nb e (fun _ z=>nomatch z) (fun _ z=>nomatch z)) (fun _ z=>nomatch z)
section
variable {D:gb}{H H':Hp}{a f b P R hg ho hp L sd ds du dk0 dk1 qs0 qs1 h0 h1 q0:Addr}{B c e N N':Nat}{ks:List Key}{gm om hm:Key}{g g':gOp}{kvs:List (List Key×V)}{ns:List Int}{v m:V}{d k:Dat}{o:Out}{x6 x10 x11 x12 x13 x16 x17:Option V}
def E19.kn (x:E19 A H f b P hg ho hp sd ds du dk0 dk1 qs0 h0 c e ks gm om hm g N kvs d o)(k:Kx b H H')(s':Stp A H' f b g' N')(sub:Sub g g')(hN:N'+600<=39000):E19 A H' f b P hg ho hp sd ds du dk0 dk1 qs0 h0 c e ks gm om hm g' N' kvs d o:=by
 have kd:=ww x.s k
 have T2:∀xs,cZ (.tup xs):=fun xs=>.inr (.inl ⟨_,rfl⟩)
 exact⟨kd _ _ x.hds (.inl ⟨_,rfl⟩),kd _ _ x.hhg (T2 _),kd _ _ x.hP (T2 _),kd _ _ x.hho (T2 _),kd _ _ x.hhp (T2 _),x.wd.keep kd,s',fun h=>(x.x h).kn k s' hN,x.okh,x.kvl,x.kl,x.en,x.ec,x.c6,x.okg,x.oko,fun h eh=>x.eg h (Ext.of sub eh),fun h eh=>x.eo h (Ext.of sub eh)⟩
def FX (T:Txt K mg A)(x:E19 A H f b P hg ho hp sd ds du dk0 dk1 qs0 h0 c e ks gm om hm g N kvs d o)(hN:N<=34000)(sc:Sc K a b ns H)(tn:TnA A)(ht:H A.t_29=some (.tbl #[]))(q:∀σ H',D.rt σ (.bl true) H'):
  tD K A q0 D [some (.ref a),some (.ref f),some (.int (B:Int)),some (.int (c:Int)),some (.int (e:Int)),some (.ref P),x6,some (.ref hg),some (.ref ho),some (.ref hp),x10,x11,x12,x13,some (.ref sd),some (.ref ds),some (.ref du),x17] H:=by
 refine⟨a,ns,10,rfl,sc.1,by decide,fun z=>⟨f,b,z,g,N,rfl,x.s,by omega,tn,ht,fun H1 k1=>Sel.f ?_⟩⟩
 have k:Kx b H H1:=fun z o e _ n=>k1 _ _ e (aF e ht (n _))
 have x1:=x.kn k (x.s.kp (pv N) ht tn.nb.1 tn.nb.2 k1) Sub.rfl' (by omega)
 exact FN T x1.hds x1.hhg x1.hP x1.hho x1.hhp x1.wd x1.x x1.okh (by omega) x1.kvl x1.kl x1.en x1.ec x1.c6 x1.okg x1.oko x1.eg x1.eo q
def FU (T:Txt K mg A){bp:Addr}{bm:Key}(x:E19 A H f b P hg ho hp sd ds du dk0 dk1 qs0 h0 c e ks gm om hm g N kvs d o)(hN:N<=33000)(B1:1<=B)(B60:B<=60)(sc:Sc K a b ns H)(tn:TnA A)(ht:H A.t_29=some (.tbl #[]))(hl:H A.t_59=some (.tbl #[]))(hb:H bp=some (.tup [.int 0,kV bm]))(okb:okP bm=true)(eb:∀h,Ext g h->bm=h [.inr "row",.inl 0,h [.inr "void"]])(q:∀σ H',D.rt σ (.bl true) H'):
  tz K A q0 D [some (.ref a),some (.ref f),some (.int (B:Int)),some (.int (c:Int)),some (.int (e:Int)),some (.ref P),x6,some (.ref hg),some (.ref ho),some (.ref hp),x10,x11,x12,x13,some (.ref sd),some (.ref ds),some (.ref du),some (.ref bp)] H:=by
 obtain⟨_,_,_,_,_,_,_,_,nbl⟩:=tn.all
 refine⟨#[],hl,trivial,.inl ⟨rfl,fun cc fa hc hf hne=>?_⟩⟩
 have cP:=bx hl hc
 have fP:=bx hl hf
 have c1:∀o,upd H A.t_59 o cc=none:=fun o=>by rw[ao cP];exact hc
 have f1:∀o,upd (upd H A.t_59 o) cc (bz cc fW.qual) fa=none:=fun o=>by rw[ao (Md hne),ao fP];exact hf
 intro dk dx hdk hdx ne
 have k4:aZ A.t_59 H (upd (upd (upd H A.t_59 (.tbl (#[]++#[rawInt ((449:Nat):Int),rawInt ((42:Nat):Int),.ref cc]))) cc (bz cc fW.qual)) fa (bN fa fW [] cc)):=aZ.tab.trans ((aZ.new (c1 _)).trans (aZ.new (f1 _)))
 have S5:=iE (o:=.own dk) (u:=.ins A.c_Desk dx []) hdk hdx ne
 have s4:=(x.s.kp (pv N) hl tn.la.1 tn.la.2 k4).same (pv _) S5
 have bt:fq (.int (B:Int))=true:=decide_eq_true ⟨by omega,by omega⟩
 refine⟨dk,dx,f,b,fa,_,_,g,N,rfl,ag,.int _,s4,by omega,.inr ⟨bt,fun h2 v2 g2 H2 km2 s2 sub2 dk2 ev=>⟨rfl,?_⟩⟩⟩
 obtain⟨dx2,B2,ob2⟩:=dk2.ob
 have kk:∀z o,H z=some o->z≠b->z≠A.t_59->H2 z=some o:=fun z o e nb nt=>km2 _ _ (cR nb (av (k4 _ _ e nt) hdk)) (S5 _ _ (k4 _ _ e nt))
 have kn:Kx b H H2:=fun z o e nb nt=>kk _ _ e nb (aF e hl (nt _))
 have em:bm=v2:=by rw[ev _ (Ext.refl' g2),eb _ (Ext.of sub2 (Ext.refl' g2))]
 subst em
 have hb2:=ww x.s kn _ _ hb (.inr (.inl ⟨_,rfl⟩))
 have gd:GdH (.tup [.int ((0:Nat):Int),aV bm]) 0 bm:=⟨rfl,by decide,okb⟩
 have w1:aG H2 (.ref h2) (.tup [.int ((0:Nat):Int),aV bm]):=.tup dk2.hh (.cons (.int _) (.cons (bY bm) .nil))
 have w2:aG H2 (.ref bp) (.tup [.int ((0:Nat):Int),aV bm]):=.tup hb2 (.cons (.int _) (.cons (bY bm) .nil))
 refine⟨dk,A.c_Desk,dx2,_,_,rfl,ob2,T.cl_Desk,T.na_Desk_held,rfl,?_⟩
 refine⟨_,_,w1.toV gd.okD,w2.toV gd.okD,cy gd.okD,cy gd.okD,Mv gd.dep (by decide),?_⟩
 rw[Og _ (cy gd.okD)]
 exact Sel.f (FX T (x.kn kn s2 sub2 (by omega)) (by omega) (sc.kn kn) tn (kk _ _ ht (x.s.nt ht tn.nb.1 tn.nb.2) nbl) q)
def Gs (T:Txt K mg A)(x:E19 A H f b P hg ho hp sd ds du dk0 dk1 qs0 h0 c e ks gm om hm g N kvs d o)(hN:N<=32000)(B1:1<=B)(B60:B<=60)(sc:Sc K a b ns H)(tn:TnA A)(ht:H A.t_29=some (.tbl #[]))(hl:H A.t_59=some (.tbl #[]))(q:∀σ H',D.rt σ (.bl true) H'):
  sT K A q0 D [some (.ref a),some (.ref f),some (.int (B:Int)),some (.int (c:Int)),some (.int (e:Int)),some (.ref P),x6,some (.ref hg),some (.ref ho),some (.ref hp),x10,x11,x12,x13,some (.ref sd),some (.ref ds),some (.ref du),x17] H:=by
 have s:=x.s
 refine⟨f,rfl,s.clo,f,rfl,s.clo,ax (show 1<=1000000 by decide),fun p0 hp0=>?_⟩
 have hk0:upd H p0 (.tup [.str "void"]) p0=some (.tup (([.inr "void"]:List Key).map kV)):=ag
 dsimp only[ak]
 refine eU (s.same (pv _) (ar.upd hp0)) (by omega) hk0 jt fun vo H1 g1 kb1 s1 sub1 gv1 st1=>⟨ax (show 3<=1000000 by decide),fun p1 h1=>?_⟩
 have kb1:=(aI.same (ar.upd hp0)).trans kb1
 have okv:=eV st1 (by rw[sz1,szW.1];decide)
 have szv:szK vo<=200:=Mv (gj st1) (by rw[sz1,szW.1];decide)
 refine iI (c:=0) s1 (by omega) (by decide) okv (by omega) (fun w g2 H2 kb2 s2 sub2 gw okw szw=>⟨ax (show 2<=1000000 by decide),fun bp hbp=>?_⟩) p1 h1
 have S3:=ar.upd (o:=.tup [V.int 0,kV w]) hbp
 have kb:aI b H (upd H2 bp (.tup [V.int 0,kV w])):=kb1.trans (kb2.trans (aI.same S3))
 have kn:Kx b H (upd H2 bp (.tup [V.int 0,kV w])):=fun z o e nb _=>kb _ _ nb e
 exact FU T (x.kn kn (s2.same (pv _) S3) (sub1.trans sub2) (by omega)) (by omega) B1 B60 (sc.kn kn) tn (kb _ _ (s.nt ht tn.nb.1 tn.nb.2) ht) (kb _ _ (s.nt hl tn.la.1 tn.la.2) hl) ag okw (fun h eh=>by
  rw[<-eh _ _ gw,<-eh _ _ (sub2 _ _ gv1)];rfl) q
end
structure W13 (A:Adr)(H:Hp)(f b P hg ho hp sd ds dk0 dk1 qs0 qs1 h0 h1:Addr)(c e:Nat)(ks:List Key)(gm om hm:Key)(g:gOp)(N:Nat)(kvs:List (List Key×V)):Prop where
 hds:H ds=some (.lst [.ref dk0,.ref dk1])
 hhg:H hg=some (.tup [.int (c:Int),kV gm])
 hP:H P=some (.tup (ks.map kV))
 hho:H ho=some (.tup [.int (e:Int),kV om])
 hhp:H hp=some (.tup [.int (e:Int),kV hm])
 x0:HrA A H dk0 f b qs0 h0 sd kvs e hm g N
 x1:HrA A H dk1 f b qs1 h1 sd kvs e hm g N
 ne:dk0≠dk1
 kvl:kvs.length<=19
 kl:ks.length=bI c e
 en:∀x∈ks,enK x
 ec:e<=c
 c6:c<2^60
 okg:okP gm=true
 oko:okP om=true
 eg:∀h,Ext g h->gm=h (yT h c e ks)
 eo:∀h,Ext g h->om=h (oT h c e ks)
section
variable {D:gb}{H H':Hp}{a f b P R hg ho hp L sd ds du dk0 dk1 qs0 qs1 h0 h1 q0:Addr}{B c e N N':Nat}{ks:List Key}{gm om hm:Key}{g g':gOp}{kvs kvs':List (List Key×V)}{ns:List Int}{v m:V}{d k:Dat}{o:Out}{x6 x10 x11 x12 x13 x16 x17:Option V}{b0 b1 b2 b3 b4:Bool}
def W13.same (x:W13 A H f b P hg ho hp sd ds dk0 dk1 qs0 qs1 h0 h1 c e ks gm om hm g N kvs)(S:ar H H'):W13 A H' f b P hg ho hp sd ds dk0 dk1 qs0 qs1 h0 h1 c e ks gm om hm g N kvs:=⟨S _ _ x.hds,S _ _ x.hhg,S _ _ x.hP,S _ _ x.hho,S _ _ x.hhp,x.x0.same S,x.x1.same S,x.ne,x.kvl,x.kl,x.en,x.ec,x.c6,x.okg,x.oko,x.eg,x.eo⟩
def HW (T:Txt K mg A)(w:W13 A H f b P hg ho hp sd ds dk0 dk1 qs0 qs1 h0 h1 c e ks gm om hm g N kvs)(hN:N<=20000)(B1:1<=B)(B60:B<=60)(sc:Sc K a b ns H)(tn:TnA A)(t1:H A.t_26=some (.tbl #[]))(t2:H A.t_11=some (.tbl #[]))(t3:H A.t_29=some (.tbl #[]))(t4:H A.t_59=some (.tbl #[]))(dw:aG H v d)(nd:d≠.non)(mw:aG H m k)(sh:eD k)(due:Due g kvs e hm d k o)(wd:aG H (.ref du) (eY d o))(q:∀σ H',D.rt σ (.bl true) H'):
  tM K A q0 D [some (.ref a),some (.ref f),some (.int (B:Int)),some (.int (c:Int)),some (.int (e:Int)),some (.ref P),x6,some (.ref hg),some (.ref ho),some (.ref hp),x10,x11,some v,some m,some (.ref sd),some (.ref ds),some (.ref du),x17] H:=by
 obtain⟨_,_,_,_,_,_,⟨_,nln,nll⟩,⟨nbn,nbl⟩,_⟩:=tn.all
 refine⟨ax (show 3<=1000000 by decide),fun cs hcs=>?_⟩
 have S1:=ar.upd (o:=.tup [.ref hp,v,m]) hcs
 have w1:=w.same S1
 have hcs1:upd H cs (.tup [.ref hp,v,m]) cs=some (.tup [.ref hp,v,m]):=ag
 have sc1:=sc.same S1
 have dw1:=dw.mono S1
 have mw1:=mw.mono S1
 have wd1:=wd.mono S1
 have t1:=S1 _ _ t1
 have t2:=S1 _ _ t2
 have t3:=S1 _ _ t3
 have t4:=S1 _ _ t4
 generalize upd H cs (.tup [.ref hp,v,m])=H1 at*
 refine⟨ds,du,cs,hp,h0,h1,dk0,dk1,f,b,qs0,qs1,sd,kvs,e,hm,g,N,v,m,d,k,o,rfl,w1.hds,hcs1,w1.hhp,w1.x0,w1.x1,w1.ne,by omega,dw1,nd,mw1,sh,due,wd1,tn,t1,t2,fun g2 H2 km s2 sub2 hdk=>Sel.f ?_⟩
 have s1:=w1.x0.s
 obtain⟨C0,d0,f0,e0⟩:=w1.x0.ins
 obtain⟨C1,d1,f1,e1⟩:=w1.x1.ins
 have kk:∀z o,H1 z=some o->z≠b->(∀C dx fs,o≠.ins C dx fs)->z≠A.t_26->z≠A.t_11->H2 z=some o:=fun z o ez nb ni n1 n2=>km _ _ (fun w=>by
  simp only[LZ,Mp,or_false]at w
  rcases w with w|w|w|w|w
  ·exact nb w
  ·exact aF ez e0 (ni _ _ _) w
  ·exact aF ez e1 (ni _ _ _) w
  ·exact n1 w
  ·exact n2 w) ez
 have kt:∀z o,H1 z=some o->z≠b->(∀C dx fs,o≠.ins C dx fs)->(∀ps,o≠.tbl ps)->H2 z=some o:=fun z o ez nb ni nt=>kk _ _ ez nb ni (aF ez t1 (nt _)) (aF ez t2 (nt _))
 have kd:∀z o,H1 z=some o->cZ o->H2 z=some o:=fun z o ez hd=>by
  rcases hd with⟨_,rfl⟩|⟨_,rfl⟩|⟨_,rfl⟩
  ·exact kt _ _ ez (s1.nb ez (fun _ z=>nomatch z) (fun _ z=>nomatch z)) (fun _ _ _ z=>nomatch z) (fun _ z=>nomatch z)
  ·exact kt _ _ ez (s1.nb ez (fun _ z=>nomatch z) (fun _ z=>nomatch z)) (fun _ _ _ z=>nomatch z) (fun _ z=>nomatch z)
  ·exact kt _ _ ez (s1.nb ez (fun _ z=>nomatch z) (fun _ z=>nomatch z)) (fun _ _ _ z=>nomatch z) (fun _ z=>nomatch z)
 have T2:∀xs,cZ (.tup xs):=fun xs=>.inr (.inl ⟨_,rfl⟩)
 have kvl:=w.kvl
 have x19:E19 A H2 f b P hg ho hp sd ds du dk0 dk1 qs0 h0 c e ks gm om hm g2 (N+500) kvs d o:=⟨kd _ _ w1.hds (.inl ⟨_,rfl⟩),kd _ _ w1.hhg (T2 _),kd _ _ w1.hP (T2 _),kd _ _ w1.hho (T2 _),kd _ _ w1.hhp (T2 _),wd1.keep kd,s2,fun nh=>⟨hdk nh,w1.x0.sl.keep (fun z φ ez=>kt _ _ ez (s1.nb ez (fun _ z=>nomatch z) (fun _ z=>nomatch z)) (fun _ _ _ z=>nomatch z) (fun _ z=>nomatch z)) (kt _ _ w1.x0.sl.2 w1.x0.sb (fun _ _ _ z=>nomatch z) (fun _ z=>nomatch z)),s2,by omega,w1.x0.sb⟩,w1.x0.dk.ok,by omega,w.kl,w.en,w.ec,w.c6,w.okg,w.oko,fun h eh=>w.eg h (Ext.of sub2 eh),fun h eh=>w.eo h (Ext.of sub2 eh)⟩
 exact Gs T x19 (by omega) B1 B60 (sc1.k fun o ez h1 h2 _ nb=>kt _ _ ez nb h2 h1) tn (kk _ _ t3 (s1.nt t3 tn.nb.1 tn.nb.2) (fun _ _ _ z=>nomatch z) (Md nln) (Md nbn)) (kk _ _ t4 (s1.nt t4 tn.la.1 tn.la.2) (fun _ _ _ z=>nomatch z) (Md nll) (Md nbl)) q
def uE (T:Txt K mg A){c':Nat}{mk':Key}(w:W13 A H f b P hg ho hp sd ds dk0 dk1 qs0 qs1 h0 h1 c e ks gm om hm g N kvs)(hN:N<=20000)(B1:1<=B)(B60:B<=60)(sc:Sc K a b ns H)(tn:TnA A)(t1:H A.t_26=some (.tbl #[]))(t2:H A.t_11=some (.tbl #[]))(t3:H A.t_29=some (.tbl #[]))(t4:H A.t_59=some (.tbl #[]))(dw:aG H v d)(nd:d≠.non)(mw:aG H m k)(sh:eD k)(hL:H L=some (.lst [.bl b0,.bl b1,.bl b2,.bl b3,.bl b4]))
  (hb0:b0=true->cm d=false)(gd:b0=false->GdH d c' mk')(hb1:b0=false->gW kvs c' mk'= !b1)(hb2:b0=false->b2=true->c'<e)(hb2':b0=false->b2=false->c'=c)(hb3:b3=true->cC (bI c e) k=false)(hb3':b3=false->k=.tup (ks.map aV))(q:∀σ H',D.rt σ (.bl true) H'):
  nJ K A q0 D [some (.ref a),some (.ref f),some (.int (B:Int)),some (.int (c:Int)),some (.int (e:Int)),some (.ref P),x6,some (.ref hg),some (.ref ho),some (.ref hp),x10,some (.ref L),some v,some m,some (.ref sd),some (.ref ds),x16,x17] H:=by
 refine ixT (j:=1) w.hhg rfl rfl (ixT (j:=1) w.hho rfl rfl ⟨L,hp,b0,b1,b2,b3,b4,e,c',hm,gm,om,mk',v,d,rfl,hL,w.hhp,dw,gd,w.okg,w.oko,w.x0.dk.ok,fun du H1 S1 wd=>?_⟩)
 refine HW T (w.same S1) hN B1 B60 (sc.same S1) tn (S1 _ _ t1) (S1 _ _ t2) (S1 _ _ t3) (S1 _ _ t4) (dw.mono S1) nd (mw.mono S1) sh ?_ wd q
 cases b0 with
 |true=>exact .head (hb0 rfl)
 |false=>
  have gd:=gd rfl
  have hb1:=hb1 rfl
  cases b1 with
  |true=>exact .unse gd hb1
  |false=>
   cases b2 with
   |true=>exact .eld gd hb1 (hb2 rfl rfl)
   |false=>
    cases hb2' rfl rfl
    cases b3 with
    |true=>exact .pap gd hb1 w.ec (hb3 rfl)
    |false=>exact .good gd hb1 w.ec ⟨hb3' rfl,w.kl,.inl w.en⟩ w.eg w.eo
def GV (T:Txt K mg A){c':Nat}{mk':Key}(w:W13 A H f b P hg ho hp sd ds dk0 dk1 qs0 qs1 h0 h1 c e ks gm om hm g N kvs)(hN:N<=20000)(kvl:kvs.length<=10)(hk:∀j,j≠hdK e hm->cg kvs j=none)(B1:1<=B)(B60:B<=60)(sc:Sc K a b ns H)(tn:TnA A)(t1:H A.t_26=some (.tbl #[]))(t2:H A.t_11=some (.tbl #[]))(t3:H A.t_29=some (.tbl #[]))(t4:H A.t_59=some (.tbl #[]))(dw:aG H v d)(nd:d≠.non)(mw:aG H m k)(sh:eD k)(hL:H L=some (.lst [.bl b0,.bl b1,.bl b2,.bl b3,.bl b4]))
  (aL:a≠L\/∀H',SqL K H' a (ns.map V.int))(nL:L≠ds)
  (dL:∀H',(∀z o,z≠L->H z=some o->cZ o->H' z=some o)->aG H' v d/\aG H' m k)
  (hb0:b0=true->cm d=false)(gd:b0=false->GdH d c' mk')(hb2:b0=false->b2=true->c'<e)(hb2':b0=false->b2=false->c'=c)(hb3:b3=true->cC (bI c e) k=false)(hb3':b3=false->k=.tup (ks.map aV))(q:∀σ H',D.rt σ (.bl true) H'):
  sw K A q0 D [some (.ref a),some (.ref f),some (.int (B:Int)),some (.int (c:Int)),some (.int (e:Int)),some (.ref P),x6,some (.ref hg),some (.ref ho),some (.ref hp),x10,some (.ref L),some v,some m,some (.ref sd),some (.ref ds),x16,x17] H:=by
 refine ixL (j:=0) hL rfl rfl ?_
 cases b0 with
 |true=>exact Sel.f (Sel.f (uE (c':=c') (mk':=mk') T w hN B1 B60 sc tn t1 t2 t3 t4 dw nd mw sh hL hb0 (fun z=>nomatch z) (fun z=>nomatch z) (fun z=>nomatch z) (fun z=>nomatch z) hb3 hb3' q))
 |false=>
  have gd:=gd rfl
  obtain⟨hv,rfl,hhv⟩:=lm dw gd
  have s:=w.x0.s
  have hsd:=w.x0.sl.2
  have set:∀σ12:Option V,bH (bF (aE (tC (.bl true)) (iQ (af 14) (af 12) gI))) (bF (aE (tC (.bl false)) (iQ (af 11) (tC (.int 1)) gI))) {nx:=nJ K A q0 D,rt:=D.rt} [some (.ref a),some (.ref f),some (.int (B:Int)),some (.int (c:Int)),some (.int (e:Int)),some (.ref P),x6,some (.ref hg),some (.ref ho),some (.ref hp),x10,some (.ref L),some (.ref hv),some m,some (.ref sd),some (.ref ds),x16,x17] H:=fun _=>by
   refine .inr ⟨sd,_,rfl,ku.t (k:=hdK c' mk') hsd hhv (bU (by omega)),?_⟩
   have nsL:L≠sd:=aF hL hsd fun z=>nomatch z
   refine .inl ⟨L,_,_,1,rfl,rfl,by rw[ao nsL];exact hL,rfl,?_⟩
   have k5:∀z o,z≠sd->z≠L->H z=some o->upd (upd H sd (.dT (bu kvs (hdK c' mk') (.bl true)))) L (.lst ([.bl false,.bl b1,.bl b2,.bl b3,.bl b4].set 1 (.bl false))) z=some o:=fun z o n1 n2 e=>by rw[ao n2,ao n1];exact e
   have hsd5:upd (upd H sd (.dT (bu kvs (hdK c' mk') (.bl true)))) L (.lst ([.bl false,.bl b1,.bl b2,.bl b3,.bl b4].set 1 (.bl false))) sd=some (.dT (bu kvs (hdK c' mk') (.bl true))):=by rw[ao (Md nsL)];exact ag
   have hL5:upd (upd H sd (.dT (bu kvs (hdK c' mk') (.bl true)))) L (.lst ([.bl false,.bl b1,.bl b2,.bl b3,.bl b4].set 1 (.bl false))) L=some (.lst [.bl false,.bl false,.bl b2,.bl b3,.bl b4]):=ag
   have s5:Stp A (upd (upd H sd (.dT (bu kvs (hdK c' mk') (.bl true)))) L (.lst ([.bl false,.bl b1,.bl b2,.bl b3,.bl b4].set 1 (.bl false)))) f b g N:=s.keep (pv _) fun z o e h1 _ h3=>k5 _ _ (fun w'=>by
    subst w'
    rw[hsd]at e
    cases e
    rcases h3 with h3|h3
    ·exact w.x0.sb h3
    ·exact h3 _ rfl) (aF e hL (h1 _)) e
   have hr:∀{dk qs hd:Addr},HrA A H dk f b qs hd sd kvs e hm g N->HrA A (upd (upd H sd (.dT (bu kvs (hdK c' mk') (.bl true)))) L (.lst ([.bl false,.bl b1,.bl b2,.bl b3,.bl b4].set 1 (.bl false)))) dk f b qs hd sd (bu kvs (hdK c' mk') (.bl true)) e hm g N:=fun x=>by
    obtain⟨dx,B0,ob⟩:=x.dk.ob
    exact⟨⟨⟨dx,B0,k5 _ _ (aF ob hsd fun z=>nomatch z) (aF ob hL fun z=>nomatch z) ob⟩,k5 _ _ (aF x.dk.hh hsd fun z=>nomatch z) (aF x.dk.hh hL fun z=>nomatch z) x.dk.hh,x.dk.ok,x.dk.n6⟩,⟨x.sl.1.imp fun q cl=>cl.keep fun z φ e=>k5 _ _ (aF e hsd fun z=>nomatch z) (aF e hL fun z=>nomatch z) e,hsd5⟩,s5,x.hN,x.sb⟩
   have tp:∀{z:Addr}{xs:List V},H z=some (.tup xs)->upd (upd H sd (.dT (bu kvs (hdK c' mk') (.bl true)))) L (.lst ([.bl false,.bl b1,.bl b2,.bl b3,.bl b4].set 1 (.bl false))) z=some (.tup xs):=fun e=>k5 _ _ (aF e hsd fun z=>nomatch z) (aF e hL fun z=>nomatch z) e
   have tt:∀{z:Addr}{ps:Array tx},H z=some (.tbl ps)->upd (upd H sd (.dT (bu kvs (hdK c' mk') (.bl true)))) L (.lst ([.bl false,.bl b1,.bl b2,.bl b3,.bl b4].set 1 (.bl false))) z=some (.tbl ps):=fun e=>k5 _ _ (aF e hsd fun z=>nomatch z) (aF e hL fun z=>nomatch z) e
   have kvl':=dW kvs (hdK c' mk') (.bl true)
   have w5:W13 A (upd (upd H sd (.dT (bu kvs (hdK c' mk') (.bl true)))) L (.lst ([.bl false,.bl b1,.bl b2,.bl b3,.bl b4].set 1 (.bl false)))) f b P hg ho hp sd ds dk0 dk1 qs0 qs1 h0 h1 c e ks gm om hm g N (bu kvs (hdK c' mk') (.bl true)):=⟨k5 _ _ (aF w.hds hsd fun z=>nomatch z) (Md nL) w.hds,tp w.hhg,tp w.hP,tp w.hho,tp w.hhp,hr w.x0,hr w.x1,w.ne,by omega,w.kl,w.en,w.ec,w.c6,w.okg,w.oko,w.eg,w.eo⟩
   obtain⟨dw5,mw5⟩:=dL (upd (upd H sd (.dT (bu kvs (hdK c' mk') (.bl true)))) L (.lst ([.bl false,.bl b1,.bl b2,.bl b3,.bl b4].set 1 (.bl false)))) fun z o n e hd=>k5 _ _ (aF e hsd fun z=>by subst z;rcases hd with⟨_,z⟩|⟨_,z⟩|⟨_,z⟩<;>cases z) n e
   have sc5:Sc K a b ns (upd (upd H sd (.dT (bu kvs (hdK c' mk') (.bl true)))) L (.lst ([.bl false,.bl b1,.bl b2,.bl b3,.bl b4].set 1 (.bl false)))):=by
    rcases aL with n|n
    ·exact sc.k fun o e _ _ h3 _=>k5 _ _ (aF e hsd (h3 _)) n e
    ·exact⟨n _,.inl n⟩
   exact uE (c':=c') (mk':=mk') T w5 hN B1 B60 sc5 tn (tt t1) (tt t2) (tt t3) (tt t4) dw5 nd mw5 sh hL5 (fun z=>nomatch z) (fun _=>gd) (fun _=>oo _ _ _) hb2 hb2' hb3 hb3' q
  refine Sel.t (ixL (j:=1) hL rfl rfl ?_)
  cases b1 with
  |false=>exact Sel.t (Sel.t (set none))
  |true=>
   refine Sel.f (eE (k:=hdK c' mk') (l:=hdK e hm) hhv w.hhp ?_)
   by_cases ek:hdK c' mk'=hdK e hm
   ·rw[decide_eq_true ek]
    exact Sel.t (set none)
   ·rw[decide_eq_false ek]
    refine Sel.f (uE (c':=c') (mk':=mk') T w hN B1 B60 sc tn t1 t2 t3 t4 dw nd mw sh hL (fun z=>nomatch z) (fun _=>gd) (fun _=>?_) hb2 hb2' hb3 hb3' q)
    unfold gW
    rw[hk _ ek];rfl
end
mutual
theorem aG.keepL {H H':Hp}{v:V}{d:Dat}{L:Addr}{b:Bool}{xs:List V}(h:aG H v d)(nb:nbD d=true)(hL:H L=some (.lst (.bl b::xs)))(k:∀z o,z≠L->H z=some o->cZ o->H' z=some o):aG H' v d:=by
 cases h with
 |non=>exact .non
 |bl b=>exact .bl b
 |int i=>exact .int i
 |str z=>exact .str z
 |lst e r=>
  obtain⟨n1,n2⟩:=LX.mp nb
  refine .lst (k _ _ (fun w=>?_) e (.inl ⟨_,rfl⟩)) (r.keepL n2 hL k)
  rw[w,hL]at e
  cases e
  cases r with
  |cons h1 h2=>
   cases h1
   cases n1
 |tup e r=>exact .tup (k _ _ (aF e hL fun z=>nomatch z) e (.inr (.inl ⟨_,rfl⟩))) (r.keepL nb hL k)
 |dic e=>
  obtain⟨kv,e⟩:=e
  exact .dic ⟨kv,k _ _ (aF e hL (fun z=>nomatch z)) e (.inr (.inr ⟨_,rfl⟩))⟩
theorem DatWs.keepL {H H':Hp}{ys:List V}{ds:List Dat}{L:Addr}{b:Bool}{xs:List V}(h:DatWs H ys ds)(nb:nbDs ds=true)(hL:H L=some (.lst (.bl b::xs)))(k:∀z o,z≠L->H z=some o->cZ o->H' z=some o):DatWs H' ys ds:=by
 cases h with
 |nil=>exact .nil
 |cons a r=>
  obtain⟨n1,n2⟩:=LX.mp nb
  exact .cons (a.keepL n1 hL k) (r.keepL n2 hL k)
end
section
variable {D:gb}{H H':Hp}{a f b P R hg ho hp L sd ds du dk0 dk1 qs0 qs1 h0 h1 q0:Addr}{B c e N N':Nat}{ks:List Key}{y o1 gm om hm top:Key}{g g':gOp}{kvs kvs':List (List Key×V)}{ns:List Int}{v m:V}{d k:Dat}{o:Out}{x6 x10 x11 x12 x13 x14 x15 x16 x17:Option V}{b0 b1 b2 b3 b4:Bool}
structure W9 (A:Adr)(H:Hp)(f b P hg ho hp:Addr)(c e:Nat)(ks:List Key)(gm om hm top:Key)(g:gOp)(N:Nat):Prop where
 hhg:H hg=some (.tup [.int (c:Int),kV gm])
 hP:H P=some (.tup (ks.map kV))
 hho:H ho=some (.tup [.int (e:Int),kV om])
 hhp:H hp=some (.tup [.int (e:Int),kV hm])
 s:Stp A H f b g N
 kl:ks.length=bI c e
 en:∀x∈ks,enK x
 ec:e<=c
 c6:c<2^60
 okg:okP gm=true
 oko:okP om=true
 okh:okP hm=true
 et:enB top
 eg:∀h,Ext g h->gm=h (yT h c e ks)
 eo:∀h,Ext g h->om=h (oT h c e ks)
 eh:∀h,Ext g h->hm=h [.inr "row",.inl (e:Int),if e=0 then h [.inr "void"]else top]
def W9.same (w:W9 A H f b P hg ho hp c e ks gm om hm top g N)(S:ar H H'):W9 A H' f b P hg ho hp c e ks gm om hm top g N:=⟨S _ _ w.hhg,S _ _ w.hP,S _ _ w.hho,S _ _ w.hhp,w.s.same (pv _) S,w.kl,w.en,w.ec,w.c6,w.okg,w.oko,w.okh,w.et,w.eg,w.eo,w.eh⟩
def GY (T:Txt K mg A){c':Nat}{mk':Key}(w:W9 A H f b P hg ho hp c e ks gm om hm top g N)(hN:N<=1000)(B1:1<=B)(B60:B<=60)(sc:Sc K a b ns H)(tn:TnA A)(tabs:jI A H)(hsd:H sd=some (.dT []))(sb:sd≠b)(dw:aG H v d)(nd:d≠.non)(mw:aG H m k)(sh:eD k)(hL:H L=some (.lst [.bl b0,.bl b1,.bl b2,.bl b3,.bl b4]))
  (aL:a≠L\/∀H',SqL K H' a (ns.map V.int))
  (dL:∀H',(∀z o,z≠L->H z=some o->cZ o->H' z=some o)->aG H' v d/\aG H' m k)
  (hb0:b0=true->cm d=false)(gd:b0=false->GdH d c' mk')(hb2:b0=false->b2=true->c'<e)(hb2':b0=false->b2=false->c'=c)(hb3:b3=true->cC (bI c e) k=false)(hb3':b3=false->k=.tup (ks.map aV))(q:∀σ H',D.rt σ (.bl true) H'):
  tG K A q0 D [some (.ref a),some (.ref f),some (.int (B:Int)),some (.int (c:Int)),some (.int (e:Int)),some (.ref P),x6,some (.ref hg),some (.ref ho),some (.ref hp),some (kV top),some (.ref L),some v,some m,some (.ref sd),x15,x16,x17] H:=by
 obtain⟨t0,t1,t2,t3,t4⟩:=tabs
 obtain⟨_,_,_,_,_,⟨nd1,nd2,nd3,nd4⟩,_⟩:=tn.all
 have e6:e<2^60:=MY w.ec w.c6
 have s:=w.s
 refine⟨f,b,sd,hp,B,e,[],hm,top,g,N,rfl,B1,B60,tn,⟨#[],t0,.inl rfl⟩,s,by omega,sb,hsd,by decide,w.hhp,e6,w.okh,w.et,w.eh,fun dk0 qs0 h0 kv1 g1 H1 km1 tb1 fr0 s1 sub1 d0 sl0 ek1=>?_⟩
 have ksd:∀{z:Addr}{o:HO},H z=some o->(∀kv,o≠.dT kv)->(∀ps,o≠.tbl ps)->z∉[b,sd,A.t_17]:=fun ez h1 h2 w'=>by
  simp only[LZ,Mp,or_false]at w'
  rcases w' with w'|w'|w'
  ·exact s.nb ez h2 h1 w'
  ·exact aF ez hsd (h1 _) w'
  ·exact aF ez t0 (h2 _) w'
 have k1:∀{z:Addr}{o:HO},H z=some o->(∀kv,o≠.dT kv)->(∀ps,o≠.tbl ps)->H1 z=some o:=fun ez h1 h2=>km1 _ _ (ksd ez h1 h2) ez
 have tt1:∀{P:Addr},P≠A.t_66->P≠A.t_40->P≠A.t_17->H P=some (.tbl #[])->H1 P=some (.tbl #[]):=fun n1 n2 n3 ez=>km1 _ _ (fun w'=>by
  simp only[LZ,Mp,or_false]at w'
  rcases w' with w'|w'|w'
  ·exact s.nt ez n1 n2 w'
  ·exact aF ez hsd (fun z=>nomatch z) w'
  ·exact n3 w') ez
 have l1:kv1.length<=1:=by
  rw[ek1]
  split
  ·decide
  ·exact dW _ _ _
 refine⟨f,b,sd,hp,B,e,kv1,hm,top,g1,N+200,rfl,B1,B60,tn,tb1,s1,by omega,sb,sl0.2,by omega,k1 w.hhp (fun _ z=>nomatch z) (fun _ z=>nomatch z),e6,w.okh,w.et,fun h eh=>w.eh h (Ext.of sub1 eh),fun dk1 qs1 h1 kv2 g2 H2 km2 tb2 fr1 s2 sub2 d1 sl1 ek2=>⟨ax (show 2<=1000000 by decide),fun ds hds=>?_⟩⟩
 obtain⟨ps1,tbl1,_⟩:=id tb1
 have k2:∀{z:Addr}{o:HO},H1 z=some o->(∀kv,o≠.dT kv)->(∀ps,o≠.tbl ps)->H2 z=some o:=fun ez h1 h2=>km2 _ _ (fun w'=>by
  simp only[LZ,Mp,or_false]at w'
  rcases w' with w'|w'|w'
  ·exact s1.nb ez h2 h1 w'
  ·exact aF ez sl0.2 (h1 _) w'
  ·exact aF ez tbl1 (h2 _) w') ez
 have tt2:∀{P:Addr},P≠A.t_66->P≠A.t_40->P≠A.t_17->H P=some (.tbl #[])->H2 P=some (.tbl #[]):=fun n1 n2 n3 ez=>km2 _ _ (fun w'=>by
  simp only[LZ,Mp,or_false]at w'
  rcases w' with w'|w'|w'
  ·exact s1.nt (tt1 n1 n2 n3 ez) n1 n2 w'
  ·exact aF (tt1 n1 n2 n3 ez) sl0.2 (fun z=>nomatch z) w'
  ·exact n3 w') (tt1 n1 n2 n3 ez)
 have k02:∀{z:Addr}{o:HO},H z=some o->(∀kv,o≠.dT kv)->(∀ps,o≠.tbl ps)->H2 z=some o:=fun ez h1 h2=>k2 (k1 ez h1 h2) h1 h2
 have kd:∀z o,H z=some o->cZ o->H2 z=some o:=fun z o ez hd=>by
  rcases hd with⟨_,rfl⟩|⟨_,rfl⟩|⟨_,rfl⟩
  ·exact k02 ez (fun _ z=>nomatch z) (fun _ z=>nomatch z)
  ·exact k02 ez (fun _ z=>nomatch z) (fun _ z=>nomatch z)
  ·exact k02 ez (fun _ z=>nomatch z) (fun _ z=>nomatch z)
 have S3:=ar.upd (o:=.lst [.ref dk0,.ref dk1]) hds
 have nds:L≠ds:=av (kd _ _ hL (.inl ⟨_,rfl⟩)) hds
 obtain⟨dx0,B0,ob0⟩:=d0.ob
 have ne01:dk0≠dk1:=av ob0 fr1
 have l2:kv2.length<=2:=by
  rw[ek2]
  split
  ·omega
  ·have:=dW kv1 (hdK e hm) (.bl true);omega
 have hk:∀j,j≠hdK e hm->cg kv2 j=none:=fun j hj=>by
  have h1:cg kv1 j=none:=by
   rw[ek1]
   split
   ·rfl
   ·rw[jS,if_neg hj];rfl
  rw[ek2]
  split
  ·exact h1
  ·rw[jS,if_neg hj];exact h1
 have d0':DkA A H2 dk0 f qs0 h0 e hm:=⟨⟨dx0,B0,k2 ob0 (fun _ z=>nomatch z) (fun _ z=>nomatch z)⟩,k2 d0.hh (fun _ z=>nomatch z) (fun _ z=>nomatch z),d0.ok,d0.n6⟩
 have sl0':SlA H2 qs0 sd kv2:=⟨sl0.1.imp fun q cl=>cl.keep fun z φ ez=>k2 ez (fun _ z=>nomatch z) (fun _ z=>nomatch z),sl1.2⟩
 have s3:=s2.same (pv _) S3
 have w13:W13 A (upd H2 ds (.lst [.ref dk0,.ref dk1])) f b P hg ho hp sd ds dk0 dk1 qs0 qs1 h0 h1 c e ks gm om hm g2 (N+200+200) kv2:=⟨ag,S3 _ _ (k02 w.hhg (fun _ z=>nomatch z) (fun _ z=>nomatch z)),S3 _ _ (k02 w.hP (fun _ z=>nomatch z) (fun _ z=>nomatch z)),S3 _ _ (k02 w.hho (fun _ z=>nomatch z) (fun _ z=>nomatch z)),S3 _ _ (k02 w.hhp (fun _ z=>nomatch z) (fun _ z=>nomatch z)),⟨d0'.same S3,sl0'.same S3,s3,by omega,sb⟩,⟨d1.same S3,sl1.same S3,s3,by omega,sb⟩,ne01,by omega,w.kl,w.en,w.ec,w.c6,w.okg,w.oko,fun h eh=>w.eg h (Ext.of (sub1.trans sub2) eh),fun h eh=>w.eo h (Ext.of (sub1.trans sub2) eh)⟩
 have kd3:∀z o,H z=some o->cZ o->upd H2 ds (.lst [.ref dk0,.ref dk1]) z=some o:=fun z o ez hd=>S3 _ _ (kd _ _ ez hd)
 have dw3:=dw.keep kd3
 have mw3:=mw.keep kd3
 refine GV (c':=c') (mk':=mk') T w13 (by omega) (by omega) hk B1 B60 ((sc.k fun o ez h1 h2 h3 nb=>k02 ez h3 h1).same S3) tn (S3 _ _ (tt2 tn.li.1 tn.li.2 (Md nd1) t1)) (S3 _ _ (tt2 tn.bo.1 tn.bo.2 (Md nd2) t2)) (S3 _ _ (tt2 tn.nb.1 tn.nb.2 (Md nd3) t3)) (S3 _ _ (tt2 tn.la.1 tn.la.2 (Md nd4) t4)) dw3 nd mw3 sh (kd3 _ _ hL (.inl ⟨_,rfl⟩)) aL nds (fun H' hH'=>dL H' fun z o nz ez hd=>hH' z o nz (kd3 z o ez hd) hd) hb0 gd hb2 hb2' hb3 hb3' q
def zX (T:Txt K mg A){c':Nat}{mk':Key}(w:W9 A H f b P hg ho hp c e ks gm om hm top g N)(hN:N<=1000)(B1:1<=B)(B60:B<=60)(sc:Sc K a b ns H)(tn:TnA A)(tabs:jI A H)(dw:aG H v d)(nd:d≠.non)(hL:H L=some (.lst [.bl b0,.bl b1,.bl b2,.bl b3,.bl b4]))
  (aL:a≠L\/∀H',SqL K H' a (ns.map V.int))
  (dL:∀H',(∀z o,z≠L->H z=some o->cZ o->H' z=some o)->aG H' v d)
  (hb0:b0=true->cm d=false)(gd:b0=false->GdH d c' mk')(hb2:b0=false->b2=true->c'<e)(hb2':b0=false->b2=false->c'=c)(q:∀σ H',D.rt σ (.bl true) H'):
  tw K A q0 D [some (.ref a),some (.ref f),some (.int (B:Int)),some (.int (c:Int)),some (.int (e:Int)),some (.ref P),x6,some (.ref hg),some (.ref ho),some (.ref hp),some (kV top),some (.ref L),some v,some (.ref P),x14,x15,x16,x17] H:=by
 have m61:=qH c e
 have go:∀(m:V)(k:Dat)(H1:Hp),ar H H1->(aG H1 m k/\nbD k=true)\/(m=.ref P/\k=.tup (ks.map aV))->eD k->(b3=true->cC (bI c e) k=false)->(b3=false->k=.tup (ks.map aV))->sW K A q0 D [some (.ref a),some (.ref f),some (.int (B:Int)),some (.int (c:Int)),some (.int (e:Int)),some (.ref P),x6,some (.ref hg),some (.ref ho),some (.ref hp),some (kV top),some (.ref L),some v,some m,x14,x15,x16,x17] H1:=fun m k H1 S1 mw sh h3 h3'=>by
  refine .inr fun sd hsd=>?_
  have S2:=ar.upd (o:=.dT []) hsd
  have S:=S1.trans S2
  have sb:sd≠b:=by
   rcases(w.same S1).s.bb with⟨_,e⟩|⟨_,e⟩
   ·exact Md (av e hsd)
   ·exact Md (av e hsd)
  obtain⟨t0,t1,t2,t3,t4⟩:=tabs
  have mwS:∀H',(∀z o,z≠L->H1 z=some o->cZ o->H' z=some o)->aG H' m k:=fun H' hH'=>by
   rcases mw with mw|⟨rfl,rfl⟩
   ·exact mw.1.keepL mw.2 (S1 _ _ hL) hH'
   ·exact .tup (hH' _ _ (aF w.hP hL fun z=>nomatch z) (S1 _ _ w.hP) (.inr (.inl ⟨_,rfl⟩))) (fw ks)
  have mw1:aG H1 m k:=mwS H1 fun z o _ ez _=>ez
  exact GY (c':=c') (mk':=mk') T (w.same S) hN B1 B60 (sc.same S) tn ⟨S _ _ t0,S _ _ t1,S _ _ t2,S _ _ t3,S _ _ t4⟩ ag sb (dw.mono S) nd (mw1.mono S2) sh (S _ _ hL) aL (fun H' hH'=>⟨dL H' fun z o nz ez hd=>hH' z o nz (S _ _ ez) hd,mwS H' fun z o nz ez hd=>hH' z o nz (S2 _ _ ez) hd⟩) hb0 gd hb2 hb2' h3 h3' q
 refine ixL (j:=3) hL rfl rfl ?_
 cases b3 with
 |false=>exact Sel.f (go _ _ H ar.rfl' (.inr ⟨rfl,rfl⟩) (by show(ks.map aV).length<=500;rw[Mf,w.kl];omega) (fun z=>nomatch z) fun _=>rfl)
 |true=>exact Sel.t ⟨a,ns,7,rfl,sc.1,by decide,fun z=>⟨⟨by decide,by decide⟩,_,P,ks,rfl,w.hP,by rw[w.kl];omega,fun m k H1 S1 mw hk sh nb=>go m k H1 S1 (.inl ⟨mw,nb⟩) sh (fun _=>by rw[<-w.kl];exact hk) (fun z=>nomatch z)⟩⟩
end
def Dq (K:cW)(A:Adr):Ln (pX K A) 1:=by rintro vs H Q E ⟨a,ns,rfl,_⟩;rfl
def Dw {H:Hp}(t:pP A H):TnA A:=by
 obtain⟨_,_,_,_,_,_,_,_,_,n⟩:=t
 exact n.sublist (.cons₂ _ (.cons _ (.cons _ (.cons₂ _ (.cons₂ _ (.cons₂ _ (.cons₂ _ (.cons₂ _ (.cons₂ _ .slnil)))))))))
def LB {xs:List V}(h:xs.length=5)(hb:∀x∈xs,∃b,x=V.bl b):∃b0 b1 b2 b3 b4,xs=[.bl b0,.bl b1,.bl b2,.bl b3,.bl b4]:=by
 match xs,h with
 |[x0,x1,x2,x3,x4],_=>
  obtain⟨b0,rfl⟩:=hb x0 (by simp)
  obtain⟨b1,rfl⟩:=hb x1 (by simp)
  obtain⟨b2,rfl⟩:=hb x2 (by simp)
  obtain⟨b3,rfl⟩:=hb x3 (by simp)
  obtain⟨b4,rfl⟩:=hb x4 (by simp)
  exact⟨b0,b1,b2,b3,b4,rfl⟩
section
variable {D:gb}{H H':Hp}{a f b P R hg ho hp L q0:Addr}{B c e N:Nat}{ks:List Key}{gm om hm top y o1:Key}{g:gOp}{ns:List Int}{x7 x8 x9 x11 x12 x13 x14 x15 x16 x17 x10:Option V}
def KQ (T:Txt K mg A)(w:W9 A H f b P hg ho hp c e ks gm om hm top g N)(hN:N<=1000)(B1:1<=B)(B60:B<=60)(sc:Sc K a b ns H)(tn:TnA A)(tabs:jI A H)(q:∀σ H',D.rt σ (.bl true) H'):
  vI K A q0 D [some (.ref a),some (.ref f),some (.int (B:Int)),some (.int (c:Int)),some (.int (e:Int)),some (.ref P),some (.ref R),some (.ref hg),some (.ref ho),some (.ref hp),some (kV top),x11,x12,x13,x14,x15,x16,x17] H:=by
 refine⟨4,9,rfl,by decide,fun C hC=>?_⟩
 refine gB (fI.range (lo:=4) (n:=5)) (fun i ys H'=>ys.length=i/\(∀x∈ys,∃b,x=V.bl b)/\H' C=some (.lst ys)/\ar H H')
  (fun _ _ _ _ _=>trivial) ⟨rfl,(fun _ h=>nomatch h),ag,ar.upd hC⟩ (fun i ys H5 hi h=>?_) (fun ys H5 h=>?_)
 ·obtain⟨e1,e2,e3,S⟩:=h
  refine lP ⟨a,ns,_,rfl,(sc.same S).1,by omega,fun zz=>⟨by decide,e3,?_,CWd.next hi ⟨by rw[Mr,e1];rfl,fun x hx=>?_,ag,fun z o h=>?_⟩⟩⟩
  ·rw[e1];exact bU (by omega)
  ·rcases MX.mp hx with h|h
   ·exact e2 x h
   ·exact⟨_,Mj.mp h⟩
  ·rw[ao (av h hC)];exact S _ _ h
 obtain⟨l5,hb,hL,S⟩:=h
 obtain⟨b0,b1,b2,b3,b4,rfl⟩:=LB l5 hb
 have aL:a≠C\/∀H',SqL K H' a (ns.map V.int):=by
  rcases sc.2 with n|_
  ·exact .inr n
  ·rcases sc.1 with(z|⟨o,z⟩)|z
   ·exact .inl (av z hC)
   ·exact .inl (av z hC)
   ·exact .inr fun H'=>.inr z
 have S1:ar H H5:=S
 obtain⟨t0,t1,t2,t3,t4⟩:=tabs
 have go:∀b2':Bool,(b2'=true->0<e)->vY K A q0 D [some (.ref a),some (.ref f),some (.int (B:Int)),some (.int (c:Int)),some (.int (e:Int)),some (.ref P),some (.ref R),some (.ref hg),some (.ref ho),some (.ref hp),some (kV top),some (.ref C),x12,x13,x14,x15,x16,x17] (upd H5 C (.lst [.bl b0,.bl b1,.bl b2',.bl b3,.bl b4])):=fun b2' b2e=>by
  have S2:ar H (upd H5 C (.lst [.bl b0,.bl b1,.bl b2',.bl b3,.bl b4])):=fun z o h=>by rw[ao (av h hC)];exact S _ _ h
  have hL2:upd H5 C (.lst [.bl b0,.bl b1,.bl b2',.bl b3,.bl b4]) C=some (.lst [.bl b0,.bl b1,.bl b2',.bl b3,.bl b4]):=ag
  generalize upd H5 C (.lst [.bl b0,.bl b1,.bl b2',.bl b3,.bl b4])=H6 at*
  have w6:=w.same S2
  refine⟨a,C,hg,ns,b0,b1,b2',b3,b4,c,e,gm,rfl,(sc.same S2).1,hL2,w6.hhg,w.c6,w.okg,b2e,w.ec,fun v d H7 S7 dw nd h0 h1 nb=>?_⟩
  have S3:=S2.trans S7
  have hL7:=S7 _ _ hL2
  have tb:jI A H7:=⟨S3 _ _ t0,S3 _ _ t1,S3 _ _ t2,S3 _ _ t3,S3 _ _ t4⟩
  cases b0 with
  |true=>exact zX (c':=0) (mk':=.inl 0) T (w.same S3) hN B1 B60 (sc.same S3) tn tb dw nd hL7 aL (fun H' hH'=>dw.keepL nb hL7 hH') h0 (fun z=>nomatch z) (fun z=>nomatch z) (fun z=>nomatch z) q
  |false=>
   obtain⟨c',mk',gd,h2,h3⟩:=h1 rfl
   exact zX (c':=c') (mk':=mk') T (w.same S3) hN B1 B60 (sc.same S3) tn tb dw nd hL7 aL (fun H' hH'=>dw.keepL nb hL7 hH') h0 (fun _=>gd) (fun _=>h2) (fun _=>h3) q
 refine ixL (j:=2) hL rfl rfl ?_
 cases b2 with
 |false=>exact Sel.f (.inl ⟨C,_,_,2,rfl,rfl,hL,rfl,go false fun z=>nomatch z⟩)
 |true=>exact Sel.t (.inl ⟨C,_,_,2,rfl,rfl,hL,rfl,go _ fun z=>by have z:(0:Int)<(e:Int):=of_decide_eq_true z;omega⟩)
def JW (T:Txt K mg A)(s:Stp A H f b g N)(hN:N<=900)(hP:H P=some (.tup (ks.map kV)))(hR:H R=some (.tup [kV y,kV o1]))(ey:enB y)(eo:enB o1)(kl:ks.length=bI c e)(en:∀x∈ks,enK x)(ec:e<=c)(c6:c<2^60)(eq:∀h,Ext g h->yT h c e ks=[.inr "row",.inl (c:Int),y]/\oT h c e ks=[.inr "row",.inl (e:Int),o1]/\(e=0->o1=h [.inr "void"]))(B1:1<=B)(B60:B<=60)(sc:Sc K a b ns H)(tn:TnA A)(tabs:jI A H)(q:∀σ H',D.rt σ (.bl true) H'):
  wo K A q0 D [some (.ref a),some (.ref f),some (.int (B:Int)),some (.int (c:Int)),some (.int (e:Int)),some (.ref P),some (.ref R),x7,x8,x9,x10,x11,x12,x13,x14,x15,x16,x17] H:=by
 obtain⟨t0,t1,t2,t3,t4⟩:=tabs
 obtain⟨_,_,_,_,_,⟨nd1,nd2,nd3,nd4⟩,_⟩:=tn.all
 have e6:e<2^60:=MY ec c6
 refine⟨f,rfl,s.clo,ixT (j:=0) hR rfl rfl ⟨ax (show 3<=1000000 by decide),fun p1 h1=>?_⟩⟩
 dsimp only[ak]
 refine iI s (by omega) c6 ey.1 (by have:=ey.2;omega) (fun gm g1 H1 kb1 s1 sub1 gv1 okg _=>⟨ax (show 2<=1000000 by decide),fun hg hhg=>?_⟩) p1 h1
 have S1:=ar.upd (o:=.tup [V.int (c:Int),kV gm]) hhg
 have s1:=s1.same (pv _) S1
 have kb1:=kb1.trans (aI.same S1)
 have ehg:upd H1 hg (.tup [V.int (c:Int),kV gm]) hg=some (.tup [V.int (c:Int),kV gm]):=ag
 generalize upd H1 hg (.tup [V.int (c:Int),kV gm])=H2 at*
 have hR2:=kb1.obj s.bb hR (fun _ z=>nomatch z)
 refine⟨f,rfl,s1.clo,ixT (j:=1) hR2 rfl rfl ⟨ax (show 3<=1000000 by decide),fun p2 h2=>?_⟩⟩
 dsimp only[ak]
 refine iI s1 (by omega) e6 eo.1 (by have:=eo.2;omega) (fun om g2 H3 kb2 s2 sub2 gv2 oko _=>⟨ax (show 2<=1000000 by decide),fun ho hho=>?_⟩) p2 h2
 have S2:=ar.upd (o:=.tup [V.int (e:Int),kV om]) hho
 have s2:=s2.same (pv _) S2
 have kb2:=kb2.trans (aI.same S2)
 have eho:upd H3 ho (.tup [V.int (e:Int),kV om]) ho=some (.tup [V.int (e:Int),kV om]):=ag
 generalize upd H3 ho (.tup [V.int (e:Int),kV om])=H4 at*
 have hR4:=kb2.obj s1.bb hR2 (fun _ z=>nomatch z)
 have k4:=kb1.trans kb2
 refine⟨a,ns,9,rfl,(sc.kb k4).1,by decide,fun z=>ixT (j:=1) hR4 rfl rfl ⟨f,b,z,e,o1,g2,N+1+1,rfl,s2,by omega,e6,eo,fun r hp top hm g3 H5 kb3 s3 sub3 hr hhp et e0 okh gv3=>?_⟩⟩
 refine⟨r,_,rfl,SqL.of hr,rfl,_,_,rfl,_,_,rfl,rfl,?_⟩
 have k5:=k4.trans kb3
 have w:W9 A H5 f b P hg ho hp c e ks gm om hm top g3 (N+1+1+1):=⟨kb3.obj s2.bb (kb2.obj s1.bb ehg (fun _ z=>nomatch z)) (fun _ z=>nomatch z),k5.obj s.bb hP (fun _ z=>nomatch z),kb3.obj s2.bb eho (fun _ z=>nomatch z),hhp,s3,kl,en,ec,c6,okg,oko,okh,et,
  fun h eh=>by rw[(eq h (Ext.of (sub1.trans (sub2.trans sub3)) eh)).1,eh _ _ (sub3 _ _ (sub2 _ _ gv1))],
  fun h eh=>by rw[(eq h (Ext.of (sub1.trans (sub2.trans sub3)) eh)).2.1,eh _ _ (sub3 _ _ gv2)],
  fun h eh=>by
   rw[<-eh _ _ gv3]
   split
   ·rename_i z
    rw[<-(eq h (Ext.of (sub1.trans (sub2.trans sub3)) eh)).2.2 z,e0 z]
   ·rfl⟩
 have tt:∀{P:Addr},P≠A.t_66->P≠A.t_40->H P=some (.tbl #[])->H5 P=some (.tbl #[]):=fun n1 n2 ez=>k5 _ _ (s.nt ez n1 n2) ez
 exact KQ T w (by omega) B1 B60 (sc.kb k5) tn ⟨tt tn.de.1 tn.de.2 t0,tt tn.li.1 tn.li.2 t1,tt tn.bo.1 tn.bo.2 t2,tt tn.nb.1 tn.nb.2 t3,tt tn.la.1 tn.la.2 t4⟩ q
end
def HS (T:Txt K mg A)(q0:Addr)(nd:([q0]:List Addr).Nodup)(vs:List V)(H:Hp)(Q:VK)(E:XK)(h:pX K A vs H Q E):EL K A q0 {nx:=fun σ H'=>(∀p∈([(0,q0)]:List (Nat×Addr)),H' p.2=none)->Q .non (br [(0,q0)] σ H'),rt:=fun σ v H'=>(∀p∈([(0,q0)]:List (Nat×Addr)),H' p.2=none)->Q v (br [(0,q0)] σ H')} (L2.start ["_law_script","_law_stamper_here","_law_bits","_law_count","_law_elder","_law_marks","_law_tops_here","_law_good","_law_old","_law_held_here","_law_top","_law_wrong","_law_head_here","_law_paper","_law_seals","_law_desks","_law_due_here","_law_bare"] vs) H:=by
 obtain⟨a,ns,rfl,hs,l63,tabs,q⟩:=h
 have tn:=Dw tabs
 refine⟨a,ns,0,rfl,hs,by decide,fun z0=>⟨z0,rfl,tabs,fun f b g H1 kn t1 s1 nb=>?_⟩⟩
 have sc:Sc K a b ns H1:=by
  rcases hs with(z|⟨o,z⟩)|z
  ·exact⟨.inl (.inl (kn _ _ z (fun _ z=>nomatch z))),.inr (nb _ _ z (fun _ z=>nomatch z))⟩
  ·exact⟨.inl (.inr ⟨o,kn _ _ z (fun _ z=>nomatch z)⟩),.inr (nb _ _ z (fun _ z=>nomatch z))⟩
  ·exact⟨.inr z,.inl fun H'=>.inr z⟩
 refine⟨a,ns,3,rfl,sc.1,by decide,fun z=>⟨by decide,?_⟩⟩
 have m0:=NC z (b:=60) (by decide)
 have m1:=NN z (b:=60) (by decide)
 obtain⟨B,hB⟩:=NI (show 0<=1+z%60 by omega)
 show wv K A q0 _ [some (.ref a),some (.ref f),some (.int (1+z%60)),none,none,none,none,none,none,none,none,none,none,none,none,none,none,none] H1
 rw[hB]
 refine⟨f,b,a,ns,g,0,rfl,s1,by decide,sc.1,fun p P R c e ks y o g2 H2 kb2 s2 sub2 hp ec c6 hP kl en hR ey eo eq=>?_⟩
 refine⟨p,_,rfl,.inl (.inl hp),rfl,_,_,rfl,_,_,rfl,_,_,rfl,_,_,rfl,rfl,?_⟩
 obtain⟨u0,u1,u2,u3,u4⟩:=t1
 have tt:∀{P:Addr},P≠A.t_66->P≠A.t_40->H1 P=some (.tbl #[])->H2 P=some (.tbl #[]):=fun n1 n2 ez=>kb2 _ _ (s1.nt ez n1 n2) ez
 exact JW T s2 (by omega) hP hR ey eo kl en ec c6 eq (by omega) (by omega) (sc.kb kb2) tn ⟨tt tn.de.1 tn.de.2 u0,tt tn.li.1 tn.li.2 u1,tt tn.bo.1 tn.bo.2 u2,tt tn.nb.1 tn.nb.2 u3,tt tn.la.1 tn.la.2 u4⟩ fun σ H' _=>q _
section
structure TP (P:Ms)(w:MG)(K:cW)(mg:Str->Option tx)(base:Heap)(A:Adr):Prop extends Txt K mg A where
 B:BM mg base
 C_66:MZ base A.k_66 A.t_66
 C_44:MZ base A.k_44 A.t_44
 C_36:MZ base A.k_36 A.t_36
 C_40:MZ base A.k_40 A.t_40
 C_17:MZ base A.k_17 A.t_17
 C_26:MZ base A.k_26 A.t_26
 C_11:MZ base A.k_11 A.t_11
 C_29:MZ base A.k_29 A.t_29
 C_59:MZ base A.k_59 A.t_59
variable {P:Ms}{w:MG}{K:cW}{mg:Str->Option tx}{base:Heap}{A:Adr}(T:TP P w K mg base A)
include T
def mF:aP P w K mg base (CX1 P w) 1 A.a_57 A.d_57 ["thing"] (iC K A):=
 T.f_57.f.okS Gz (Cy K A) (IJ T.1) fun _ _ _ _ _ _ hr=>
 aw (aM (fb (aY iP T.z_isinstance MA (aa (ac 0) (aa (ii T.z_int boot_int) (ai)))) (fX (HE (aY iP T.z_isinstance MA (aa (ac 0) (aa (ii T.z_bool boot_bool) (ai))))))))
def vf:aP P w K mg base (CX1 P w) 2 A.a_55 A.d_55 ["thing"] (kS K A):=
 T.f_55.f.okS Gq (DY K A) (FI T.1) fun _ _ _ _ _ _ hr=>
 au (bf (bJ (aR (mF T) hr.le T.f_57 (aa (ac 0) (ai)))) (aw (aM (kU oLe oLt (aj) (ac 0) (aB nN (aj) (aj))))) (aU)) (aw (aM (aY iP T.z_isinstance MA (aa (ac 0) (aa (ii T.z_str boot_str) (ai))))))
def Ak:aP P w K mg base (CX1 P w) 3 A.a_56 A.d_56 ["thing"] (mY K A):=
 T.f_56.f.okS FL (Dr K A) (JD T.1) fun _ _ _ _ _ _ hr=>
 au (bf (cX (bJ (aY iP T.z_isinstance MA (aa (ac 0) (aa (ii T.z_tuple Qg) (ai)))))) (aw (aM (dU))) (aU)) (au (bf (cX (lR oLe oLe (aj) (aY fc T.z_len MP (aa (ac 0) (ai))) (Em T.c_MOST_PARTS))) (aw (aM (dU))) (aU)) (aw (aM (fb (aY iP T.z_isinstance MA (aa (aN (aA hr.units1) (ac 0) (aj) (fun _ _=>rfl)) (aa (ii T.z_str boot_str) (ai)))) (fX (aY (DO rfl) T.z_all L2.wN (aa (iZ (ys:=[]) (by exact⟨rfl,by decide+kernel,by decide+kernel,rfl,by decide+kernel,by decide+kernel⟩) (by exact .nil) (jm (ac 0)) (fun C s H fp=>gK) (fun C s H fp=>(aR (vf T) hr.le T.f_55 (aa (ac 0) (ai))))) (ai))))))))
def GA:aP P w K mg base (CX1 P w) 2 A.a_62 A.d_62 ["part"] (pQ K A):=
 T.f_62.f.okS zS (DH K A) (FV T.1) fun _ _ _ _ _ _ hr=>
 au (bf (bJ (aR (mF T) hr.le T.f_57 (aa (ac 0) (ai)))) (aw (aM (vH (.cons (vg (ac 0)) (.cons (bC) (.nil)))))) (aU)) (au (aH 1 zS.nd (aY fc T.z_len MP (aa (ac 0) (ai)))) (aw (aM (vH (.cons (vg (ac 1)) (.cons (bC) (.cons (vg (ac 0)) (.nil))))))))
def Hf:aP P w K mg base (CX1 P w) 4 A.a_68 A.d_68 ["term"] (mE K A):=
 T.f_68.f.okS HI (BJ K A) (IS T.1) fun _ _ _ _ _ _ hr=>
 au (bf (cX (bJ (aR (Ak T) hr.le T.f_56 (aa (ac 0) (ai))))) (aw (tJ)) (aU)) (aw (aM (iq Rf Rp Ro sN (bC) (aa (iZ (ys:=[]) (by exact⟨rfl,by decide+kernel,by decide+kernel,rfl,by decide+kernel,by decide+kernel⟩) (by exact .nil) (jm (ac 0)) (fun C s H fp=>gK) (fun C s H fp=>(aR (GA T) hr.le T.f_62 (aa (ac 0) (ai))))) (ai)))))
def IY (f c:Addr)(cl:List (Str×Addr))(Ar:Mw)(outer:List Env)(s:If)(H:Hp)(E:XK)
  (hr:aX 4 (Ar.deeper (OC gJ.qual gJ.scope s.heap.objs.size f (.ref c) cl))):PE (fk P w K mg base ["term"] gJ.qual gJ.scope f c cl Ar outer s H E).nox (dG yy) (Cm K A):=QE.out (
 aR (Hf T) hr.le T.f_68 (aa (ac 0) (ai)))
def HX:eG P w K mg base 5 gJ (vt K A):=
 ib rfl Gd (fun f c cl Ar outer s H vs cvs Q E hr hl hc h=>by
  obtain⟨a0,rfl⟩:=L2.cI hl
  obtain rfl:=L2.kO hc
  exact⟨_,(IY T f c cl Ar outer s H E hr).nox,JC T.1 a0 H Q E h⟩)
def JT:aP P w K mg base (CX1 P w) 4 A.a_6 A.d_6 ["self","term"] (uw K A):=
 T.f_6.okS KU (Jn K A) (Kj T.1) fun _ _ _ _ _ _ hr=>
 au (bf (cX (bJ (aR (Ak T) hr.le T.f_56 (aa (ac 1) (ai))))) (aw (tJ)) (aU)) (au (bf (aW (Bf hr.units150) (ac 1) (dY (ac 0))) (aw (gF hr.units1 (dY (ac 0)) (ac 1) (aY fc T.z_len MP (aa (dY (ac 0)) (ai))))) (aU)) (aw (aM (aN (aA hr.units1) (dY (ac 0)) (ac 1) (fun _ _=>rfl)))))
def Ho (f c:Addr)(cl:List (Str×Addr))(Ar:Mw)(outer:List Env)(s:If)(H:Hp)(E:XK)
  (hr:aX 4 (Ar.deeper (OC hU.qual hU.scope s.heap.objs.size f (.ref c) cl))):PE (fk P w K mg base ["term","numbers"] hU.qual hU.scope f c cl Ar outer s H E).nox (dG xO) (BA K A):=QE.out (
 fS (ac 1) T.cl_Numbers T.me_Numbers_number_of (JT T) hr.le T.b_6 bR (aa (ac 0) (ai)))
def Ib:eG P w K mg base 5 hU (vb K A):=
 ib rfl JI (fun f c cl Ar outer s H vs cvs Q E hr hl hc h=>by
  obtain⟨a0,rfl⟩:=L2.cI hl
  obtain⟨b0,rfl⟩:=L2.cI hc
  exact⟨_,(Ho T f c cl Ar outer s H E hr).nox,Hh T.1 a0 b0 H Q E h⟩)
def Gv (f c:Addr)(cl:List (Str×Addr))(Ar:Mw)(outer:List Env)(s:If)(H:Hp)(E:XK)
  (hr:aX 0 (Ar.deeper (OC hV.qual hV.scope s.heap.objs.size f (.ref c) cl))):PSs (fk P w K mg base ["_law_term","_law_step","_law_known"] hV.qual hV.scope f c cl Ar outer s H E).nox (aK ze) (DU K A):=QSs.out (
 aw (aM (iq PySem.F.plainAttrs_dict Nk PySem.F.type_dict_setdefault (wf hr.units1) (ac 2) (aa (ac 0) (aa (aB bW (aB ml (ac 1) (aY fc T.z_len MP (aa (ac 2) (ai)))) (aj)) (ai))))))
def GM:eG P w K mg base 1 hV (uB K A):=
 qD rfl Gu (fun f c cl Ar outer s H vs cvs Q E hr hl hc h=>by
  obtain⟨a0,rfl⟩:=L2.cI hl
  obtain⟨b0,b1,rfl⟩:=L2.vj hc
  exact⟨_,(Gv T f c cl Ar outer s H E hr).nox,Ig T.1 a0 b0 b1 H Q E h⟩)
def FR (f c:Addr)(cl:List (Str×Addr))(Ar:Mw)(outer:List Env)(s:If)(H:Hp)(E:XK)
  (hr:aX 0 (Ar.deeper (OC fV.qual fV.scope s.heap.objs.size f (.ref c) cl))):PSs (fk P w K mg base ["_law_term","_law_total","_law_part","_law_many_here"] fV.qual fV.scope f c cl Ar outer s H E).nox (aK zt) (Cb K A):=QSs.out (
 au (aH 1 mz.nd (aY fc T.z_len MP (aa (ac 0) (ai)))) (au (pY 2 mz.nd (jm (ac 0)) (aw (bf (bJ (aY iP T.z_isinstance MA (aa (ac 2) (aa (ii T.z_str boot_str) (ai))))) (aw (aH 1 mz.nd (aB bW (aB ml (aj) (ac 1)) (aY fc T.z_len MP (aa (ac 2) (ai)))))) (aw (aH 1 mz.nd (aB bW (aB ml (aj) (ac 1)) (ac 2)))))) NW) (aw (aM (aB cb (ac 1) (ac 3))))))
def Ha:eG P w K mg base 1 fV (tP K A):=
 qD rfl mz (fun f c cl Ar outer s H vs cvs Q E hr hl hc h=>by
  obtain⟨a0,rfl⟩:=L2.cI hl
  obtain⟨b0,rfl⟩:=L2.cI hc
  exact⟨_,(FR T f c cl Ar outer s H E hr).nox,JA T.1 a0 b0 H Q E h⟩)
def Gf (f c:Addr)(cl:List (Str×Addr))(Ar:Mw)(outer:List Env)(s:If)(H:Hp)(E:XK)
  (hr:aX 0 (Ar.deeper (OC cN.qual cN.scope s.heap.objs.size f (.ref c) cl))):PSs (fk P w K mg base ["_law_question","_law_marks","_law_head_here","_law_elder"] cN.qual cN.scope f c cl Ar outer s H E).nox (aK xH) (El K A):=QSs.out (
 au (bf (aW (bZ hr.units150) (ac 0) (aQ (aa (bC) (ai)))) (aw (aM (ac 2))) (aU)) (au (bf (x_w (kC (bJ (aY iP T.z_isinstance MA (aa (ac 2) (aa (ii T.z_tuple Qg) (ai))))) (lc (aW (bZ hr.units150) (ac 0) (aQ (aa (bC) (aa (aN (aA hr.units1) (ac 2) (aj) (fun _ _=>rfl)) (aa (ac 3) (ai))))))))) (aw (aM (ac 1))) (aU)) (aw (aM (fE)))))
def Jp:eG P w K mg base 1 cN (uN K A):=
 qD rfl FJ (fun f c cl Ar outer s H vs cvs Q E hr hl hc h=>by
  obtain⟨a0,rfl⟩:=L2.cI hl
  obtain⟨b0,b1,b2,rfl⟩:=L2.ur hc
  exact⟨_,(Gf T f c cl Ar outer s H E hr).nox,Ju T.1 a0 b0 b1 b2 H Q E h⟩)
theorem Ht (f c:Addr)(cl:List (Str×Addr))(Ar:Mw)(outer:List Env)(s:If)(H:Hp)(E:XK)
  (hr:aX 0 (Ar.deeper (OC df.qual df.scope s.heap.objs.size f (.ref c) cl))):PE (fk P w K mg base ["_law_one","_law_seals"] df.qual df.scope f c cl Ar outer s H E).nox (dG xv) (Dv K A):=QE.out (
 eN (Kb hr.units150) (ac 0) (ac 1))
def Iw:eG P w K mg base 1 df (uX K A):=
 ib rfl HK (fun f c cl Ar outer s H vs cvs Q E hr hl hc h=>by
  obtain⟨a0,rfl⟩:=L2.cI hl
  obtain⟨b0,rfl⟩:=L2.cI hc
  exact⟨_,(Ht T f c cl Ar outer s H E hr).nox,Gn T.1 a0 b0 H Q E h⟩)
theorem IW (f c:Addr)(cl:List (Str×Addr))(Ar:Mw)(outer:List Env)(s:If)(H:Hp)(E:XK)
  (hr:aX 0 (Ar.deeper (OC eQ.qual eQ.scope s.heap.objs.size f (.ref c) cl))):PE (fk P w K mg base ["_law_one"] eQ.qual eQ.scope f c cl Ar outer s H E).nox (dG zd) (ET K A):=QE.out (
 dU)
def Ic:eG P w K mg base 1 eQ (uo K A):=
 ib rfl Hv (fun f c cl Ar outer s H vs cvs Q E hr hl hc h=>by
  obtain⟨a0,rfl⟩:=L2.cI hl
  obtain rfl:=L2.kO hc
  exact⟨_,(IW T f c cl Ar outer s H E hr).nox,HU T.1 a0 H Q E h⟩)
theorem Hx (f c:Addr)(cl:List (Str×Addr))(Ar:Mw)(outer:List Env)(s:If)(H:Hp)(E:XK)
  (hr:aX 0 (Ar.deeper (OC cL.qual cL.scope s.heap.objs.size f (.ref c) cl))):PE (fk P w K mg base ["_law_question"] cL.qual cL.scope f c cl Ar outer s H E).nox (dG za) (EW K A):=QE.out (
 fE)
def HG:eG P w K mg base 1 cL (vx K A):=
 ib rfl HM (fun f c cl Ar outer s H vs cvs Q E hr hl hc h=>by
  obtain⟨a0,rfl⟩:=L2.cI hl
  obtain rfl:=L2.kO hc
  exact⟨_,(Hx T f c cl Ar outer s H E hr).nox,Jg T.1 a0 H Q E h⟩)
theorem GT (f c:Addr)(cl:List (Str×Addr))(Ar:Mw)(outer:List Env)(s:If)(H:Hp)(E:XK)
  (hr:aX 0 (Ar.deeper (OC fW.qual fW.scope s.heap.objs.size f (.ref c) cl))):PE (fk P w K mg base ["_law_one"] fW.qual fW.scope f c cl Ar outer s H E).nox (dG xo) (Ez K A):=QE.out (
 dU)
def JN:eG P w K mg base 1 fW (vn K A):=
 ib rfl Hu (fun f c cl Ar outer s H vs cvs Q E hr hl hc h=>by
  obtain⟨a0,rfl⟩:=L2.cI hl
  obtain rfl:=L2.kO hc
  exact⟨_,(GT T f c cl Ar outer s H E hr).nox,Gp T.1 a0 H Q E h⟩)
theorem IZ (B:BM mg base)(C:MZ base A.k_66 A.t_66)(Ar:Mw)(outer:List Env)(s:If)(H:Hp)(E:XK)
  (hr:aX 0 (Ar.deeper (envOfC "writing" (am lT) s.heap.objs.size A.a_66 (.ref A.k_66)))):QMs (cq (CX1 P w) P w K mg base [] "writing" (am lT) A.a_66 (.ref A.k_66) Ar outer s H E).nox (aK lT) (Ci K A):=(
 cT (ej (lf B C rfl (by rfl) (by simp<;>omega) rfl rfl rfl rfl (fun _ _ _ _ us hl=>by obtain⟨_,rfl⟩:=L2.cI hl;rfl))))
def Jz:aP P w K mg base (CX1 P w) 1 A.a_66 A.d_66 [] (qh K A):=
 T.f_66.f.okM (caps:=fun L=>[]) T.kc_66 Jj (BX K A) (fun L p hp=>nomatch hp) (fun L=>by simp) (fun Ar outer s H vs Q E hr h=>⟨_,QMs.nox (IZ T T.B T.C_66 Ar outer s H E hr),HR T.1 (by simp) vs H Q E h⟩)
def Lr:aP P w K mg base (CX1 P w) 1 A.a_5 A.d_5 ["self"] (uD K A):=
 T.f_5.okS LO (IX K A) (JP T.1) fun _ _ _ _ _ _ hr=>
 aw (fK (ac 0) (jh))
def Hc (B:BM mg base)(C:MZ base A.k_44 A.t_44)(Ar:Mw)(outer:List Env)(s:If)(H:Hp)(E:XK)
  (hr:aX 2 (Ar.deeper (envOfC "counting" (am lN) s.heap.objs.size A.a_44 (.ref A.k_44)))):QMs (cq (CX1 P w) P w K mg base ["numbers"] "counting" (am lN) A.a_44 (.ref A.k_44) Ar outer s H E).nox (aK lN) (Du K A (s.heap.objs.size+1)):=(
 bn (bA (aH 0 zY.nd (zj T.mk_Numbers (Lr T) hr.le T.mc_Numbers T.b_5 bR))) (cT (ej (lf B C rfl (by rfl) (by simp<;>omega) rfl rfl rfl rfl (fun _ _ _ _ us hl=>by obtain⟨_,rfl⟩:=L2.cI hl;rfl)))))
def Hd:aP P w K mg base (CX1 P w) 3 A.a_44 A.d_44 [] (qa K A):=
 T.f_44.f.okM (caps:=fun L=>[(0,L+1)]) T.kc_44 zY (Dt K A) (fun L p hp=>by simp only[LZ,Mp,or_false]at hp;rcases hp with rfl<;>exact⟨_,rfl,rfl,rfl⟩) (fun L=>by simp) (fun Ar outer s H vs Q E hr h=>⟨_,QMs.nox (Hc T T.B T.C_44 Ar outer s H E hr),IM T.1 (s.heap.objs.size+1) (by simp) vs H Q E h⟩)
theorem JF (B:BM mg base)(C:MZ base A.k_36 A.t_36)(Ar:Mw)(outer:List Env)(s:If)(H:Hp)(E:XK)
  (hr:aX 0 (Ar.deeper (envOfC "_law_sure" (am ma) s.heap.objs.size A.a_36 (.ref A.k_36)))):QMs (cq (CX1 P w) P w K mg base ["_law_step","_law_known","_law_stamp"] "_law_sure" (am ma) A.a_36 (.ref A.k_36) Ar outer s H E).nox (aK ma) (Fi K A (s.heap.objs.size+1) (s.heap.objs.size+1+1)):=(
 bn (bA (aH 1 ve.nd (jh))) (bn (bA (ug 2 ve.nd B C rfl (by rfl) (by simp<;>omega) rfl rfl rfl rfl (fun _ _ _ _ _ us hl=>by obtain⟨_,rfl⟩:=L2.cI hl;rfl))) (cT (ej (ac 2)))))
def Gr:aP P w K mg base (CX1 P w) 1 A.a_36 A.d_36 ["_law_step"] (qk K A):=
 T.f_36.f.okM (caps:=fun L=>[(0,L+1),(1,L+1+1)]) T.kc_36 ve (Dy K A) (fun L p hp=>by simp only[LZ,Mp,or_false]at hp;rcases hp with rfl|rfl<;>exact⟨_,rfl,rfl,rfl⟩) (fun L=>by simp) (fun Ar outer s H vs Q E hr h=>⟨_,QMs.nox (JF T T.B T.C_36 Ar outer s H E hr),GP T.1 (s.heap.objs.size+1) (s.heap.objs.size+1+1) (by simp) vs H Q E h⟩)
theorem IA (B:BM mg base)(C:MZ base A.k_40 A.t_40)(Ar:Mw)(outer:List Env)(s:If)(H:Hp)(E:XK)
  (hr:aX 0 (Ar.deeper (envOfC "_law_weak" (am lD) s.heap.objs.size A.a_40 (.ref A.k_40)))):QMs (cq (CX1 P w) P w K mg base ["_law_many_here","_law_stamp"] "_law_weak" (am lD) A.a_40 (.ref A.k_40) Ar outer s H E).nox (aK lD) (EG K A (s.heap.objs.size+1)):=(
 bn (bA (ug 1 Ah.nd B C rfl (by rfl) (by simp<;>omega) rfl rfl rfl rfl (fun _ _ _ _ _ us hl=>by obtain⟨_,rfl⟩:=L2.cI hl;rfl))) (cT (ej (ac 1))))
def IE:aP P w K mg base (CX1 P w) 1 A.a_40 A.d_40 ["_law_many_here"] (qd K A):=
 T.f_40.f.okM (caps:=fun L=>[(0,L+1)]) T.kc_40 Ah (Eu K A) (fun L p hp=>by simp only[LZ,Mp,or_false]at hp;rcases hp with rfl<;>exact⟨_,rfl,rfl,rfl⟩) (fun L=>by simp) (fun Ar outer s H vs Q E hr h=>⟨_,QMs.nox (IA T T.B T.C_40 Ar outer s H E hr),FH T.1 (s.heap.objs.size+1) (by simp) vs H Q E h⟩)
def Jx:aP P w K mg base (CX1 P w) 4 A.a_35 A.d_35 ["_law_cell"] (pT K A):=
 T.f_35.f.okS Hi (Dz K A) (FW T.1) fun _ _ _ _ _ _ hr=>
 au (bf (aW (bZ hr.units150) (aB cb (ac 0) (aj)) (aj)) (aw (aM (rh (Jz T) hr.le T.f_66.m T.f_66.f.kp T.f_66.b bR))) (aU)) (au (bf (aW (bZ hr.units150) (aB cb (ac 0) (aj)) (aj)) (aw (aM (rh (Hd T) hr.le T.f_44.m T.f_44.f.kp T.f_44.b bR))) (aU)) (au (bf (aW (bZ hr.units150) (aB cb (ac 0) (aj)) (aj)) (aw (aM (aR (Gr T) hr.le T.f_36 (aa (aB bW (aj) (aB cb (aB ci (ac 0) (aj)) (aj))) (ai))))) (aU)) (aw (aM (aR (IE T) hr.le T.f_40 (aa (aB bW (aj) (aB cb (aB ci (ac 0) (aj)) (aj))) (ai)))))))
def fF:aP P w K mg base (CX1 P w) 1 A.a_15 A.d_15 ["_law_script","_law_k"] (eJ K A):=
 T.f_15.f.okS Hj (Cc K A) (Jr T.1) fun _ _ _ _ _ _ hr=>
 au (bf (aW oLt (ac 1) (aY fc T.z_len MP (aa (ac 0) (ai)))) (aw (aM (aN (aA hr.units1) (ac 0) (ac 1) (fun _ _=>rfl)))) (aU)) (aw (aM (aj)))
def Jh:aP P w K mg base (CX1 P w) 1 A.a_16 A.d_16 ["_law_cell"] (qe K A):=
 T.f_16.f.okS Gi (ED K A) (HV T.1) fun _ _ _ _ _ _ hr=>
 au (bf (aW (bZ hr.units150) (aB cb (ac 0) (aj)) (aj)) (aw (aM (aB cb (aB ci (ac 0) (aj)) (aj)))) (aU)) (au (bf (aW (bZ hr.units150) (aB cb (ac 0) (aj)) (aj)) (aw (aM (aB ft (aB bW (aB nF (aj) (aB bW (aj) (aB cb (aB ci (ac 0) (aj)) (aj)))) (aB cb (aB ci (ac 0) (aj)) (aj))) (aj)))) (aU)) (aw (aM (aB cb (aB ci (ac 0) (aj)) (aB nF (aj) (aj))))))
def IU:aP P w K mg base (CX1 P w) 1 A.a_20 A.d_20 ["_law_cell","_law_count"] (qj K A):=
 T.f_20.f.okS Iq (Et K A) (IG T.1) fun _ _ _ _ _ _ hr=>
 au (bf (aW (bZ hr.units150) (aB cb (ac 0) (aj)) (aj)) (aw (aM (ac 1))) (aU)) (aw (aM (aB cb (aB ci (ac 0) (aj)) (aB bW (ac 1) (aj)))))
def zU:aP P w K mg base (CX1 P w) 1 A.a_23 A.d_23 ["_law_many_here"] (nk K A):=
 T.f_23.f.okS Hm (Ep K A) (FY T.1) fun _ _ _ _ _ _ hr=>
 aw (aM (aB nF (aj) (aB ft (Am Rg Qx Qw sg (aB ft (ac 0) (aj))) (aj))))
def JB:aP P w K mg base (CX1 P w) 2 A.a_28 A.d_28 ["_law_count","_law_elder"] (pE K A):=
 T.f_28.f.okS jA (EN K A) (HB T.1) fun _ _ _ _ _ _ hr=>
 au (aH 2 jA.nd (aY (Lf rfl) T.z_min boot_min (aa (ac 0) (aa (aj) (ai))))) (au (sQ (lR oLt oLt (aj) (ac 1) (ac 0)) (au (aH 3 jA.nd (aR (zU T) hr.le T.f_23 (aa (ac 0) (ai)))) (au (aH 2 jA.nd (aB bW (ac 2) (aj))) (aw (bf (aW oGt (ac 1) (ac 3)) (au (aH 0 jA.nd (aB ft (ac 0) (ac 3))) (aw (aH 1 jA.nd (aB ft (ac 1) (ac 3))))) (aw (aH 0 jA.nd (ac 3))))))) NW) (aw (aM (ac 2))))
def Ge:aP P w K mg base (CX1 P w) 1 A.a_38 A.d_38 ["_law_cell"] (qi K A):=
 T.f_38.f.okS uT (DG K A) (HA T.1) fun _ _ _ _ _ _ hr=>
 au (aH 1 uT.nd (bC)) (au (aH 1 uT.nd (aB bW (ac 1) (bC))) (aw (aM (iq Rf Rp Ro sN (bC) (aa (iZ (ys:=["_law_cell","_law_some"]) (by exact⟨rfl,by decide+kernel,by decide+kernel,rfl,by decide+kernel,by decide+kernel⟩) (by exact .cons rfl (by first|exact .inl rfl|exact .inr rfl) rfl (.cons rfl (by first|exact .inl rfl|exact .inr rfl) rfl (.nil))) (im T.z_range (aa (aB cb (ac 0) (aj)) (ai))) (fun C s H fp=>gK) (fun C s H fp=>(aN (aA hr.units1) (ac 2) (aB cb (aB bW (aB ci (ac 1) (aj)) (aB ml (ac 0) (aB cb (aB ci (ac 1) (aj)) (aj)))) (aj)) (fun _ _=>rfl)))) (ai))))))
def vm:aP P w K mg base (CX1 P w) 2 A.a_34 A.d_34 ["_law_cell"] (kR K A):=
 T.f_34.f.okS GN (Fx K A) (Hn T.1) fun _ _ _ _ _ _ hr=>
 au (bf (aW (bZ hr.units150) (aB cb (ac 0) (aj)) (aj)) (aw (aM (aR (Ge T) hr.le T.f_38 (aa (aB ci (ac 0) (aj)) (ai))))) (aU)) (au (bf (aW (bZ hr.units150) (aB cb (ac 0) (aj)) (aj)) (aw (aM (aB cb (aB ci (ac 0) (aj)) (aB nN (aj) (aj))))) (aU)) (aw (aM (aB cb (aB ci (ac 0) (aj)) (aj)))))
def dq:lg P w K mg base 5 (dh K A):=fun ts hts=>by
 simp only[dh,LZ,Mp,or_false]at hts
 rcases hts with rfl|rfl|rfl|rfl
 ·exact(HX T).mono (by decide)
 ·exact(Ib T).mono (by decide)
 ·exact(GM T).mono (by decide)
 ·exact(Ha T).mono (by decide)
theorem uW:∀n:Nat,aP P w K mg base (CX1 P w) (5+n) A.a_39 A.d_39 ["_law_stamper_here","_law_count","_law_elder","_law_marks"] (ju K A n)
 |0=>⟨fun vs H Q E h=>(zF K A vs H Q E h).elim,fun _ _ _ H _ _ vs Q E _ _ _ _ h=>(zF K A vs H Q E h).elim⟩
 |n+1=>T.f_39.f.okS qf (CG K A (n+1)) (IP T.1 n) fun _ _ _ _ _ _ (hr:aX (5+n) _)=>
 au (bf (aW (bZ hr.units150) (ac 2) (ac 1)) (aw (aM (aQ (aa (aN (aA hr.units1) (ac 3) (aj) (fun _ _=>rfl)) (aa (aN (aA hr.units1) (ac 3) (aj) (fun _ _=>rfl)) (ai)))))) (aU)) (au (aH 4 qf.nd (aR (zU T) hr.le T.f_23 (aa (ac 1) (ai)))) (au (bf (aW oGt (ac 2) (ac 4)) (au (vR 5 6 qf.nd rfl (aR (uW n) hr.le T.f_39 (aa (ac 0) (aa (aB ft (ac 1) (ac 4)) (aa (aB ft (ac 2) (ac 4)) (aa (gD ie (ac 3) (gs (aj)) (gn)) (ai))))))) (aw (aM (aQ (aa (dm (dq T) hr.le bR (ac 0) (aa (aQ (aa (bC) (aa (aN (aA hr.units1) (ac 3) (aj) (fun _ _=>rfl)) (aa (ac 5) (ai))))) (ai))) (aa (dm (dq T) hr.le bR (ac 0) (aa (aQ (aa (bC) (aa (aN (aA hr.units1) (ac 3) (aj) (fun _ _=>rfl)) (aa (ac 6) (ai))))) (ai))) (ai))))))) (aU)) (au (vR 5 6 qf.nd rfl (aR (uW n) hr.le T.f_39 (aa (ac 0) (aa (ac 4) (aa (ac 2) (aa (gD ie (ac 3) (gn) (gs (gH (aj)))) (ai))))))) (aw (aM (aQ (aa (dm (dq T) hr.le bR (ac 0) (aa (aQ (aa (bC) (aa (ac 5) (aa (aN (aA hr.units1) (ac 3) (gH (aj)) (fun _ _=>rfl)) (ai))))) (ai))) (aa (ac 6) (ai)))))))))
def Ip:aP P w K mg base (CX1 P w) 76 A.a_13 A.d_13 ["_law_stamper_here","_law_script"] (pR K A):=
 T.f_13.f.okS gX (Cp K A) (GQ T.1) fun _ _ _ _ _ _ hr=>
 au (aH 2 gX.nd (aR (Jh T) hr.le T.f_16 (aa (aR (fF T) hr.le T.f_15 (aa (ac 1) (aa (aj) (ai)))) (ai)))) (au (aH 3 gX.nd (aR (IU T) hr.le T.f_20 (aa (aR (fF T) hr.le T.f_15 (aa (ac 1) (aa (aj) (ai)))) (aa (ac 2) (ai))))) (au (aH 4 gX.nd (aR (JB T) hr.le T.f_28 (aa (ac 2) (aa (ac 3) (ai))))) (au (aH 5 gX.nd (rn CZ T.z_tuple Qg (aa (iZ (ys:=["_law_script"]) (by exact⟨rfl,by decide+kernel,by decide+kernel,rfl,by decide+kernel,by decide+kernel⟩) (by exact .cons rfl (by first|exact .inl rfl|exact .inr rfl) rfl (.nil)) (im T.z_range (aa (ac 4) (ai))) (fun C s H fp=>gK) (fun C s H fp=>(aR (vm T) hr.le T.f_34 (aa (aB bW (aR (fF T) hr.le T.f_15 (aa (ac 1) (aa (aB bW (aj) (ac 0)) (ai)))) (aB ml (aj) (ac 0))) (ai))))) (ai)))) (au (aH 6 gX.nd (dm (dq T) hr.le bR (ac 0) (aa (aQ (aa (bC) (ai))) (ai)))) (au (aH 7 gX.nd (aQ (aa (ac 6) (aa (ac 6) (ai))))) (au (bf (aW oGt (ac 3) (aj)) (aw (aH 7 gX.nd (aR (uW T 70) hr.le T.f_39 (aa (ac 0) (aa (ac 2) (aa (ac 3) (aa (ac 5) (ai)))))))) (aw (bf (aW oGt (ac 2) (aj)) (aw (aH 7 gX.nd (aQ (aa (aN (aA hr.units1) (ac 5) (aj) (fun _ _=>rfl)) (aa (ac 6) (ai)))))) (aU)))) (aw (aM (aQ (aa (ac 2) (aa (ac 3) (aa (ac 5) (aa (ac 7) (ai))))))))))))))
def Ij:aP P w K mg base (CX1 P w) 6 A.a_25 A.d_25 ["_law_stamper_here","_law_cell","_law_elder","_law_top"] (pV K A):=
 T.f_25.f.okS Ac (EQ K A) (JK T.1) fun _ _ _ _ _ _ hr=>
 au (bf (x_w (kC (aW (bZ hr.units150) (aB cb (ac 1) (aj)) (aj)) (lc (aW oGt (ac 2) (aj))))) (aw (aH 3 Ac.nd (aR (vm T) hr.le T.f_34 (aa (aB ci (ac 1) (aj)) (ai))))) (aU)) (aw (aM (cS (aa (aQ (aa (ac 2) (aa (dm (dq T) hr.le bR (ac 0) (aa (aQ (aa (bC) (aa (ac 2) (aa (ac 3) (ai))))) (ai))) (ai)))) (aa (ac 3) (ai))))))
def zQ:aP P w K mg base (CX1 P w) 1 A.a_33 A.d_33 ["_law_cell"] (mP K A):=
 T.f_33.f.okS uF (CK K A) (Hg T.1) fun _ _ _ _ _ _ hr=>
 au (aH 1 uF.nd (aB cb (aB ci (ac 0) (aj)) (aB nN (aj) (aj)))) (au (aH 2 uF.nd (cS (aa (fE) (aa (dU) (aa (dU) (aa (aB ft (gH (aj)) (ac 1)) (aa (aB bW (aB nN (aj) (aj)) (ac 1)) (aa (aQ (aa (ac 1) (ai))) (aa (cS (aa (ac 1) (ai))) (aa (jh) (aa (aQ (aa (bC) (ai))) (ai)))))))))))) (aw (aM (aN (aA hr.units1) (ac 2) (aB cb (ac 0) (aj)) (fun _ _=>rfl)))))
def Jl:aP P w K mg base (CX1 P w) 2 A.a_31 A.d_31 ["_law_cell","_law_head_here"] (pN K A):=
 T.f_31.f.okS vC (EO K A) (IR T.1) fun _ _ _ _ _ _ hr=>
 au (aH 2 vC.nd (cS (aa (aQ (aa (aN (aA hr.units1) (ac 1) (aj) (fun _ _=>rfl)) (ai))) (aa (cS (aa (aN (aA hr.units1) (ac 1) (aj) (fun _ _=>rfl)) (aa (aN (aA hr.units1) (ac 1) (aj) (fun _ _=>rfl)) (ai)))) (aa (aQ (aa (dU) (aa (aN (aA hr.units1) (ac 1) (aj) (fun _ _=>rfl)) (ai)))) (aa (aQ (aa (aB ft (gH (aj)) (aN (aA hr.units1) (ac 1) (aj) (fun _ _=>rfl))) (aa (aN (aA hr.units1) (ac 1) (aj) (fun _ _=>rfl)) (ai)))) (aa (aQ (aa (aB nF (aj) (aj)) (aa (aN (aA hr.units1) (ac 1) (aj) (fun _ _=>rfl)) (ai)))) (ai)))))))) (au (aH 2 vC.nd (aB bW (ac 2) (cS (aa (aQ (aa (aN (aA hr.units1) (ac 1) (aj) (fun _ _=>rfl)) (aa (aR (zQ T) hr.le T.f_33 (aa (aB ci (ac 0) (aj)) (ai))) (ai)))) (aa (aN (aA hr.units1) (ac 1) (aj) (fun _ _=>rfl)) (aa (jh) (ai))))))) (aw (aM (aN (aA hr.units1) (ac 2) (aB cb (ac 0) (aj)) (fun _ _=>rfl)))))
def Gw:aP P w K mg base (CX1 P w) 3 A.a_24 A.d_24 ["_law_script","_law_wrong","_law_head_here","_law_elder"] (pW K A):=
 T.f_24.f.okS uH (Er K A) (GI T.1) fun _ _ _ _ _ _ hr=>
 au (aH 4 uH.nd (aN (aA hr.units1) (ac 2) (aj) (fun _ _=>rfl))) (au (bf (bJ (aN (aA hr.units1) (ac 1) (aj) (fun _ _=>rfl))) (aw (aH 4 uH.nd (aR (vm T) hr.le T.f_34 (aa (aB ci (aR (fF T) hr.le T.f_15 (aa (ac 0) (aa (aj) (ai)))) (aj)) (ai))))) (aU)) (au (bf (bJ (aN (aA hr.units1) (ac 1) (aj) (fun _ _=>rfl))) (aw (aM (aR (Jl T) hr.le T.f_31 (aa (aB ci (aR (fF T) hr.le T.f_15 (aa (ac 0) (aa (aj) (ai)))) (aj)) (aa (ac 2) (ai)))))) (aU)) (au (bf (bJ (aN (aA hr.units1) (ac 1) (aj) (fun _ _=>rfl))) (aw (aM (aQ (aa (aB cb (aB ci (aR (fF T) hr.le T.f_15 (aa (ac 0) (aa (aj) (ai)))) (aj)) (ac 3)) (aa (ac 4) (ai)))))) (aU)) (aw (aM (aQ (aa (aN (aA hr.units1) (ac 2) (aj) (fun _ _=>rfl)) (aa (ac 4) (ai)))))))))
def GX:aP P w K mg base (CX1 P w) 2 A.a_32 A.d_32 ["_law_cell","_law_marks"] (pG K A):=
 T.f_32.f.okS qb (Dl K A) (GJ T.1) fun _ _ _ _ _ _ hr=>
 au (aH 2 qb.nd (aB cb (aB ci (ac 0) (aj)) (aY (Km rfl) T.z_max boot_max (aa (aj) (aa (aY fc T.z_len MP (aa (ac 1) (ai))) (ai)))))) (au (aH 3 qb.nd (aR (zQ T) hr.le T.f_33 (aa (aB ci (ac 0) (aj)) (ai)))) (au (aH 4 qb.nd (cS (aa (fE) (aa (rn IF T.z_list boot_list (aa (ac 1) (ai))) (aa (aB bW (ac 1) (aQ (aa (bC) (ai)))) (aa (aB bW (ac 1) (aQ (aa (ac 3) (ai)))) (ai))))))) (au (bf (x_w (pL (aW oLt (aB cb (ac 0) (aj)) (aj)) (mj (aW (bZ hr.units150) (aY fc T.z_len MP (aa (ac 1) (ai))) (aj))))) (aw (aM (aN (aA hr.units1) (ac 4) (aB cb (aB cb (ac 0) (aj)) (aj)) (fun _ _=>rfl)))) (aU)) (au (bf (aW (bZ hr.units150) (aB cb (aB ci (aB ci (ac 0) (aj)) (aj)) (aj)) (aj)) (aw (aM (aB bW (gD ie (ac 1) (gn) (gs (ac 2))) (gD ie (ac 1) (gs (aB bW (ac 2) (aj))) (gn))))) (aU)) (aw (aM (aB bW (aB bW (gD ie (ac 1) (gn) (gs (ac 2))) (aQ (aa (ac 3) (ai)))) (gD ie (ac 1) (gs (aB bW (ac 2) (aj))) (gn)))))))))
def Jm:aP P w K mg base (CX1 P w) 2 A.a_51 A.d_51 ["thing"] (pF K A):=
 T.f_51.f.okS IC (FF K A) (Ja T.1) fun _ _ _ _ _ _ hr=>
 aw (aM (fb (aR (mF T) hr.le T.f_57 (aa (ac 0) (ai))) (fX (kU oLe oLe (aj) (ac 0) (Em T.c_MOST_BITS)))))
def uP:aP P w K mg base (CX1 P w) 6 A.a_65 A.d_65 ["stamper"] (kX K A):=
 T.f_65.f.okS HZ (CP K A) (Iz T.1) fun _ _ _ _ _ _ hr=>
 aw (aM (cS (aa (aQ (aa (bC) (ai))) (aa (aQ (aa (bC) (aa (aj) (aa (dm (dq T) hr.le bR (ac 0) (aa (aQ (aa (bC) (ai))) (ai))) (ai))))) (ai)))))
def GC:aP P w K mg base (CX1 P w) 7 A.a_61 A.d_61 ["stamper"] (nj K A):=
 T.f_61.f.okS Gj (Fl K A) (Hr T.1) fun _ _ _ _ _ _ hr=>
 aw (aM (aQ (aa (aj) (aa (dm (dq T) hr.le bR (ac 0) (aa (aN (aA hr.units1) (aR (uP T) hr.le T.f_65 (aa (ac 0) (ai))) (gH (aj)) (fun _ _=>rfl)) (ai))) (ai)))))
def Kz (cdv:tx)(Ar:Mw)(outer:List Env)(s:If)(H:Hp)(E:XK)
  (hr:aX 7 (Ar.deeper (envOfC "Desk.__init__" (am s_1) s.heap.objs.size A.a_1 cdv))):PSs (cq (CX1 P w) P w K mg base ["self","stamper","bits","knows"] "Desk.__init__" (am s_1) A.a_1 cdv Ar outer s H E) (aK s_1) (T_1 K A E):=QSs.out (
 au (bf (cX (bJ (aR (Jm T) hr.le T.f_51 (aa (ac 2) (ai))))) (aw (gi T.er_NoBits T.mc_NoBits dJ)) (aU)) (au (fK (ac 0) (ac 1)) (au (fK (ac 0) (ac 2)) (au (fK (ac 0) (ac 3)) (aw (fK (ac 0) (aR (GC T) hr.le T.f_61 (aa (ac 1) (ai)))))))))
def zr:aP P w K mg base (CX1 P w) 8 A.a_1 A.d_1 ["self","stamper","bits","knows"] (lU K A):=
 T.f_1.okX Le (Ga K A) (fun cdv Ar outer s H vs Q E hr h=>⟨_,Kz T cdv Ar outer s H E hr,Ll T.1 vs H Q E h⟩)
def Ae:aP P w K mg base (CX1 P w) 2 A.a_52 A.d_52 ["thing"] (md K A):=
 T.f_52.f.okS GB (CO K A) (FK T.1) fun _ _ _ _ _ _ hr=>
 aw (aM (fb (aR (mF T) hr.le T.f_57 (aa (ac 0) (ai))) (fX (kU oLe oLt (aj) (ac 0) (aB nF (aj) (aj))))))
def Ie:aP P w K mg base (CX1 P w) 3 A.a_54 A.d_54 ["thing"] (pM K A):=
 T.f_54.f.okS Gc (Ca K A) (Ia T.1) fun _ _ _ _ _ _ hr=>
 aw (aM (fb (aY iP T.z_isinstance MA (aa (ac 0) (aa (ii T.z_tuple Qg) (ai)))) (fb (eN (bZ hr.units150) (aY fc T.z_len MP (aa (ac 0) (ai))) (aj)) (fb (aR (Ae T) hr.le T.f_52 (aa (aN (aA hr.units1) (ac 0) (aj) (fun _ _=>rfl)) (ai))) (fX (aR (vf T) hr.le T.f_55 (aa (aN (aA hr.units1) (ac 0) (aj) (fun _ _=>rfl)) (ai))))))))
def GL (cdv:tx)(Ar:Mw)(outer:List Env)(s:If)(H:Hp)(E:XK)
  (hr:aX 3 (Ar.deeper (envOfC "check_head" (am nX) s.heap.objs.size A.a_43 cdv))):PSs (cq (CX1 P w) P w K mg base ["thing"] "check_head" (am nX) A.a_43 cdv Ar outer s H E) (aK nX) (EF K A E):=QSs.out (
 aw (bf (cX (bJ (aR (Ie T) hr.le T.f_54 (aa (ac 0) (ai))))) (aw (gi T.er_NoHead T.mc_NoHead dJ)) (aU)))
def Ab:aP P w K mg base (CX1 P w) 4 A.a_43 A.d_43 ["thing"] (mr K A):=
 T.f_43.f.okX Ii (Ee K A) (fun cdv Ar outer s H vs Q E hr h=>⟨_,GL T cdv Ar outer s H E hr,Iv T.1 vs H Q E h⟩)
def lI:lg P w K mg base 1 (kG K A):=fun ts hts=>by
 simp only[kG,LZ,Mp,or_false]at hts
 rcases hts with rfl|rfl|rfl|rfl|rfl
 ·exact(Jp T).mono (by decide)
 ·exact(Iw T).mono (by decide)
 ·exact(Ic T).mono (by decide)
 ·exact(HG T).mono (by decide)
 ·exact(JN T).mono (by decide)
def KB (cdv:tx)(Ar:Mw)(outer:List Env)(s:If)(H:Hp)(E:XK)
  (hr:aX 4 (Ar.deeper (envOfC "Desk.check_new" (am s_2) s.heap.objs.size A.a_2 cdv))):PSs (cq (CX1 P w) P w K mg base ["self","head"] "Desk.check_new" (am s_2) A.a_2 cdv Ar outer s H E) (aK s_2) (T_2 K A E):=QSs.out (
 au (dQ (gA (Ab T) hr.le T.f_43.m T.f_43.f.kp T.f_43.b eO (aa (ac 1) (ai)))) (au (bf (cX (bJ (nV (lI T) hr.le bR (ac 0) T.cl_Desk T.na_Desk_asks_seal (aa (ac 1) (ai))))) (aw (gi T.er_Unsealed T.mc_Unsealed dJ)) (aU)) (aw (bf (aW oLt (aN (aA hr.units1) (ac 1) (aj) (fun _ _=>rfl)) (aN (aA hr.units1) (dY (ac 0)) (aj) (fun _ _=>rfl))) (aw (gi T.er_Elder T.mc_Elder dJ)) (aU)))))
def DW:aP P w K mg base (CX1 P w) 5 A.a_2 A.d_2 ["self","head"] (rl K A):=
 T.f_2.okX La (Hs K A) (fun cdv Ar outer s H vs Q E hr h=>⟨_,KB T cdv Ar outer s H E hr,Lv T.1 vs H Q E h⟩)
def Ji:aP P w K mg base (CX1 P w) 3 A.a_53 A.d_53 ["count","elder"] (ql K A):=
 T.f_53.f.okS FS (Dx K A) (HY T.1) fun _ _ _ _ _ _ hr=>
 aw (aM (fb (aR (Ae T) hr.le T.f_52 (aa (ac 0) (ai))) (fb (aR (mF T) hr.le T.f_57 (aa (ac 1) (ai))) (fX (kU oLe oLe (aj) (ac 1) (ac 0))))))
def Gh:aP P w K mg base (CX1 P w) 1 A.a_50 A.d_50 ["many"] (pK K A):=
 T.f_50.f.okS JM (EB K A) (Jf T.1) fun _ _ _ _ _ _ hr=>
 aw (aM (aB nF (aj) (aB ft (Am Rg Qx Qw sg (aB ft (ac 0) (aj))) (aj))))
def IT:aP P w K mg base (CX1 P w) 2 A.a_49 A.d_49 ["count","elder"] (pH K A):=
 T.f_49.f.okS iD (FA K A) (GD T.1) fun _ _ _ _ _ _ hr=>
 au (aH 2 iD.nd (cS (ai))) (au (aH 3 iD.nd (ac 1)) (au (aH 4 iD.nd (ac 0)) (au (sQ (lR oLt oLt (aj) (ac 3) (ac 4)) (au (aH 5 iD.nd (aR (Gh T) hr.le T.f_50 (aa (ac 4) (ai)))) (aw (bf (aW oLe (ac 3) (ac 5)) (au (dQ (iq MR MI MM dO (ac 2) (aa (aj) (ai)))) (aw (aH 4 iD.nd (ac 5)))) (au (dQ (iq MR MI MM dO (ac 2) (aa (aj) (ai)))) (au (aH 3 iD.nd (aB ft (ac 3) (ac 5))) (aw (aH 4 iD.nd (aB ft (ac 4) (ac 5))))))))) NW) (aw (aM (ac 2))))))
def Jy:aP P w K mg base (CX1 P w) 3 A.a_42 A.d_42 ["many","thing"] (qg K A):=
 T.f_42.f.okS Jb (Cd K A) (Jq T.1) fun _ _ _ _ _ _ hr=>
 aw (aM (fb (aY iP T.z_isinstance MA (aa (ac 1) (aa (ii T.z_tuple Qg) (ai)))) (fb (eN (bZ hr.units150) (aY fc T.z_len MP (aa (ac 1) (ai))) (ac 0)) (fX (aY (DO rfl) T.z_all L2.wN (aa (iZ (ys:=[]) (by exact⟨rfl,by decide+kernel,by decide+kernel,rfl,by decide+kernel,by decide+kernel⟩) (by exact .nil) (jm (ac 1)) (fun C s H fp=>gK) (fun C s H fp=>(aR (vf T) hr.le T.f_55 (aa (ac 0) (ai))))) (ai)))))))
def Aa:aP P w K mg base (CX1 P w) 1 A.a_58 A.d_58 ["turn","own","aside"] (nl K A):=
 T.f_58.f.okS JH (DP K A) (JE T.1) fun _ _ _ _ _ _ hr=>
 aw (aM (xq (aW (bZ hr.units150) (ac 0) (aj)) (aQ (aa (bC) (aa (ac 1) (aa (ac 2) (ai))))) (aQ (aa (bC) (aa (ac 2) (aa (ac 1) (ai)))))))
def Ih:aP P w K mg base (CX1 P w) 6 A.a_46 A.d_46 ["stamper","count","elder","steps"] (pD K A):=
 T.f_46.f.okS iG (FC K A) (GZ T.1) fun _ _ _ _ _ _ hr=>
 au (aH 4 iG.nd (cS (ai))) (au (aH 5 iG.nd (cS (ai))) (au (aH 6 iG.nd (aN (aA hr.units1) (ac 3) (aj) (fun _ _=>rfl))) (au (aH 7 iG.nd (aN (aA hr.units1) (ac 3) (aj) (fun _ _=>rfl))) (au (pY 8 iG.nd (jm (aN (aA hr.units1) (ac 3) (aj) (fun _ _=>rfl))) (au (dQ (iq MR MI MM dO (ac 4) (aa (aR (Aa T) hr.le T.f_58 (aa (aN (aA hr.units1) (ac 8) (aj) (fun _ _=>rfl)) (aa (ac 6) (aa (aN (aA hr.units1) (ac 8) (aj) (fun _ _=>rfl)) (ai))))) (ai)))) (au (aH 6 iG.nd (dm (dq T) hr.le bR (ac 0) (aa (aN (aA hr.units1) (ac 4) (gH (aj)) (fun _ _=>rfl)) (ai)))) (aw (bf (aW (bZ hr.units150) (aN (aA hr.units1) (ac 8) (aj) (fun _ _=>rfl)) (aj)) (au (dQ (iq MR MI MM dO (ac 5) (aa (aR (Aa T) hr.le T.f_58 (aa (aN (aA hr.units1) (ac 8) (aj) (fun _ _=>rfl)) (aa (ac 7) (aa (aN (aA hr.units1) (ac 8) (aj) (fun _ _=>rfl)) (ai))))) (ai)))) (aw (aH 7 iG.nd (dm (dq T) hr.le bR (ac 0) (aa (aN (aA hr.units1) (ac 5) (gH (aj)) (fun _ _=>rfl)) (ai)))))) (aU))))) NW) (au (dQ (iq MR MI MM dO (ac 4) (aa (aQ (aa (bC) (aa (ac 1) (aa (ac 6) (ai))))) (ai)))) (au (dQ (iq MR MI MM dO (ac 5) (aa (aQ (aa (bC) (aa (ac 2) (aa (ac 7) (ai))))) (ai)))) (aw (aM (aQ (aa (ac 4) (aa (ac 5) (ai))))))))))))
def IV:aP P w K mg base (CX1 P w) 1 A.a_63 A.d_63 ["turns","marks"] (pI K A):=
 T.f_63.f.okS jp (BG K A) (GK T.1) fun _ _ _ _ _ _ hr=>
 au (aH 2 jp.nd (cS (ai))) (au (aH 3 jp.nd (aj)) (au (aH 4 jp.nd (aB ft (aY fc T.z_len MP (aa (ac 1) (ai))) (aj))) (au (pY 5 jp.nd (jm (ac 0)) (aw (bf (aW (bZ hr.units150) (ac 5) (aj)) (au (dQ (iq MR MI MM dO (ac 2) (aa (aQ (aa (ac 5) (aa (aN (aA hr.units1) (ac 1) (ac 4) (fun _ _=>rfl)) (ai)))) (ai)))) (aw (aH 4 jp.nd (aB ft (ac 4) (aj))))) (au (dQ (iq MR MI MM dO (ac 2) (aa (aQ (aa (ac 5) (aa (aN (aA hr.units1) (ac 1) (ac 3) (fun _ _=>rfl)) (ai)))) (ai)))) (aw (aH 3 jp.nd (aB bW (ac 3) (aj))))))) NW) (aw (aM (aQ (aa (aN (aA hr.units1) (ac 1) (ac 3) (fun _ _=>rfl)) (aa (vP T.z_list T.z_reversed rfl (aa (ac 2) (ai))) (ai)))))))))
def IN (cdv:tx)(Ar:Mw)(outer:List Env)(s:If)(H:Hp)(E:XK)
  (hr:aX 6 (Ar.deeper (envOfC "growth_terms" (am nE) s.heap.objs.size A.a_48 cdv))):PSs (cq (CX1 P w) P w K mg base ["stamper","count","elder","marks","turns","younger"] "growth_terms" (am nE) A.a_48 cdv Ar outer s H E) (aK nE) (Fd K A E):=QSs.out (
 au (bf (cX (bJ (aR (Ji T) hr.le T.f_53 (aa (ac 1) (aa (ac 2) (ai)))))) (aw (gi T.er_NoPlace T.mc_NoPlace dJ)) (aU)) (au (aH 4 uY.nd (aR (IT T) hr.le T.f_49 (aa (ac 1) (aa (ac 2) (ai))))) (au (bf (cX (bJ (aR (Jy T) hr.le T.f_42 (aa (xq (aW (bZ hr.units150) (ac 1) (aj)) (aj) (aB bW (aY fc T.z_len MP (aa (ac 4) (ai))) (aj))) (aa (ac 3) (ai)))))) (aw (gi T.er_NoPaper T.mc_NoPaper dJ)) (aU)) (au (bf (aW (bZ hr.units150) (ac 2) (aj)) (au (aH 5 uY.nd (xq (aW (bZ hr.units150) (ac 1) (aj)) (aR (uP T) hr.le T.f_65 (aa (ac 0) (ai))) (cS (aa (aQ (aa (bC) (aa (ac 1) (aa (aN (aA hr.units1) (ac 3) (aj) (fun _ _=>rfl)) (ai))))) (ai))))) (aw (aM (aQ (aa (ac 5) (aa (aR (uP T) hr.le T.f_65 (aa (ac 0) (ai))) (ai))))))) (aU)) (aw (aM (aR (Ih T) hr.le T.f_46 (aa (ac 0) (aa (ac 1) (aa (ac 2) (aa (aR (IV T) hr.le T.f_63 (aa (ac 4) (aa (ac 3) (ai)))) (ai))))))))))))
def Jv:aP P w K mg base (CX1 P w) 7 A.a_48 A.d_48 ["stamper","count","elder","marks"] (pJ K A):=
 T.f_48.f.okX uY (CD K A) (fun cdv Ar outer s H vs Q E hr h=>⟨_,IN T cdv Ar outer s H E hr,IB T.1 vs H Q E h⟩)
def LF:aP P w K mg base (CX1 P w) 1 A.a_0 A.d_0 ["self","due","came"] (vc K A):=
 T.f_0.okS LJ (Hb K A) (LU T.1) fun _ _ _ _ _ _ hr=>
 au (mf (ac 0) (ac 1)) (aw (mf (ac 0) (ac 2)))
def Jt (cdv:tx)(Ar:Mw)(outer:List Env)(s:If)(H:Hp)(E:XK)
  (hr:aX 7 (Ar.deeper (envOfC "growth_answer" (am nw) s.heap.objs.size A.a_47 cdv))):PSs (cq (CX1 P w) P w K mg base ["stamper","head","elder","marks","terms","came"] "growth_answer" (am nw) A.a_47 cdv Ar outer s H E) (aK nw) (BK K A E):=QSs.out (
 au (dQ (gA (Ab T) hr.le T.f_43.m T.f_43.f.kp T.f_43.b eO (aa (ac 1) (ai)))) (au (aH 4 tV.nd (gA (Jv T) hr.le T.f_48.m T.f_48.f.kp T.f_48.b eO (aa (ac 0) (aa (aN (aA hr.units1) (ac 1) (aj) (fun _ _=>rfl)) (aa (ac 2) (aa (ac 3) (ai))))))) (au (aH 5 tV.nd (dm (dq T) hr.le bR (ac 0) (aa (aN (aA hr.units1) (aN (aA hr.units1) (ac 4) (aj) (fun _ _=>rfl)) (gH (aj)) (fun _ _=>rfl)) (ai)))) (au (bf (aW (ki hr.units150) (ac 5) (aN (aA hr.units1) (ac 1) (aj) (fun _ _=>rfl))) (aw (rJ T.em_Broken (LF T) hr.le T.b_0 T.mc_Broken dJ (aa (aN (aA hr.units1) (ac 1) (aj) (fun _ _=>rfl)) (aa (ac 5) (ai))))) (aU)) (aw (aM (dm (dq T) hr.le bR (ac 0) (aa (aN (aA hr.units1) (aN (aA hr.units1) (ac 4) (aj) (fun _ _=>rfl)) (gH (aj)) (fun _ _=>rfl)) (ai)))))))))
def Js:aP P w K mg base (CX1 P w) 8 A.a_47 A.d_47 ["stamper","head","elder","marks"] (pC K A):=
 T.f_47.f.okX tV (DA K A) (fun cdv Ar outer s H vs Q E hr h=>⟨_,Jt T cdv Ar outer s H E hr,FZ T.1 vs H Q E h⟩)
def KP:aP P w K mg base (CX1 P w) 1 A.a_7 A.d_7 ["self","due","came"] (tW K A):=
 T.f_7.okS Lb (Jc K A) (LR T.1) fun _ _ _ _ _ _ hr=>
 au (mf (ac 0) (ac 1)) (aw (mf (ac 0) (ac 2)))
def Lk (cdv:tx)(Ar:Mw)(outer:List Env)(s:If)(H:Hp)(E:XK)
  (hr:aX 8 (Ar.deeper (envOfC "Desk.hear" (am s_4) s.heap.objs.size A.a_4 cdv))):PSs (cq (CX1 P w) P w K mg base ["self","head","marks","came"] "Desk.hear" (am s_4) A.a_4 cdv Ar outer s H E) (aK s_4) (T_4 K A E):=QSs.out (
 au (dQ (fS (ac 0) T.cl_Desk T.me_Desk_check_new (DW T) hr.le T.b_2 eO (aa (ac 1) (ai)))) (au (aH 3 BS.nd (gA (Js T) hr.le T.f_47.m T.f_47.f.kp T.f_47.b eO (aa (dY (ac 0)) (aa (ac 1) (aa (aN (aA hr.units1) (dY (ac 0)) (aj) (fun _ _=>rfl)) (aa (ac 2) (ai))))))) (au (bf (aW (ki hr.units150) (ac 3) (aN (aA hr.units1) (dY (ac 0)) (aj) (fun _ _=>rfl))) (aw (rJ T.em_Parted (KP T) hr.le T.b_7 T.mc_Parted dJ (aa (aN (aA hr.units1) (dY (ac 0)) (aj) (fun _ _=>rfl)) (aa (ac 3) (ai))))) (aU)) (au (fK (ac 0) (ac 1)) (aw (aM (ac 1)))))))
def uK:aP P w K mg base (CX1 P w) 9 A.a_4 A.d_4 ["self","head","marks"] (jW K A):=
 T.f_4.okX BS (Hw K A) (fun cdv Ar outer s H vs Q E hr h=>⟨_,Lk T cdv Ar outer s H E hr,Kt T.1 vs H Q E h⟩)
def II (B:BM mg base)(C:MZ base A.k_17 A.t_17)(Ar:Mw)(outer:List Env)(s:If)(H:Hp)(E:XK)
  (hr:aX 9 (Ar.deeper (envOfC "_law_desk" (am lG) s.heap.objs.size A.a_17 (.ref A.k_17)))):QMs (cq (CX1 P w) P w K mg base ["_law_stamper_here","_law_bits","_law_seals","_law_head_here","_law_top","_law_desk_here"] "_law_desk" (am lG) A.a_17 (.ref A.k_17) Ar outer s H E).nox (aK lG) (Eo K A (s.heap.objs.size+1)):=(
 bn (bA (aH 5 vw.nd (jg T.mk_Desk (zr T) hr.le T.mc_Desk T.b_1 bR (aa (ac 0) (aa (ac 1) (aa (lf B C rfl (by rfl) (by simp<;>omega) rfl rfl rfl rfl (fun _ _ _ _ us hl=>by obtain⟨_,rfl⟩:=L2.cI hl;rfl)) (ai))))))) (bn (ip (aW oGt (aN (aA hr.units1) (ac 3) (aj) (fun _ _=>rfl)) (aj)) (bn (bA (gF hr.units1 (ac 2) (ac 3) (dU))) (cT (bA (dQ (Ba (ac 5) T.cl_Desk T.me_Desk_hear (uK T) hr.le T.b_4 (⟨rfl,by simp,fun p hp=>by simp only[LZ,Mp,or_false]at hp;rcases hp with rfl<;>exact⟨_,rfl,rfl,rfl,rfl⟩⟩) vw.nd (aa (ac 3) (aa (aQ (aa (ac 4) (ai))) (ai)))))))) (fZ)) (cT (ej (ac 5)))))
def zN:aP P w K mg base (CX1 P w) 10 A.a_17 A.d_17 ["_law_stamper_here","_law_bits","_law_seals","_law_head_here","_law_top"] (mU K A):=
 T.f_17.f.okM (caps:=fun L=>[(2,L+1)]) T.kc_17 vw (Ed K A) (fun L p hp=>by simp only[LZ,Mp,or_false]at hp;rcases hp with rfl<;>exact⟨_,rfl,rfl,rfl⟩) (fun L=>by simp) (fun Ar outer s H vs Q E hr h=>⟨_,QMs.nox (II T T.B T.C_17 Ar outer s H E hr),JG T.1 (s.heap.objs.size+1) (by simp) vs H Q E h⟩)
def FT:aP P w K mg base (CX1 P w) 1 A.a_19 A.d_19 ["_law_wrong","_law_held_here","_law_head_here","_law_came","_law_old"] (pB K A):=
 T.f_19.f.okS mM (DM K A) (HD T.1) fun _ _ _ _ _ _ hr=>
 au (aH 5 mM.nd (gD ie (ac 0) (gn) (gs (aj)))) (au (bf (cX (bJ (aN (aA hr.units1) (ac 0) (aj) (fun _ _=>rfl)))) (aw (aH 5 mM.nd (aB bW (ac 5) (cS (aa (eN (ki hr.units150) (ac 3) (aN (aA hr.units1) (ac 2) (aj) (fun _ _=>rfl))) (aa (eN (ki hr.units150) (ac 4) (aN (aA hr.units1) (ac 1) (aj) (fun _ _=>rfl))) (ai))))))) (aU)) (au (pY 6 mM.nd (im T.z_range (aa (aY fc T.z_len MP (aa (ac 5) (ai))) (ai))) (aw (bf (bJ (aN (aA hr.units1) (ac 5) (ac 6) (fun _ _=>rfl))) (au (oB (ys:=["_law_k"]) 7 mM.nd (by exact⟨rfl,by decide+kernel,by decide+kernel,rfl,by decide+kernel,by decide+kernel⟩) (by exact .cons rfl (by first|exact .inl rfl|exact .inr rfl) rfl (.nil)) (im T.z_range (aa (aj) (ai))) (fun C s H fp=>gK) (fun C s H fp=>(LM (eN (bZ hr.units150) (ac 0) (ac 1)) (fX (eN (bZ hr.units150) (ac 0) (aj)))))) (au (bf (aW (bZ hr.units150) (ac 6) (aj)) (aw (aM (aQ (aa (bC) (aa (ac 7) (aa (aN (aA hr.units1) (ac 2) (aj) (fun _ _=>rfl)) (aa (ac 3) (ai)))))))) (aU)) (au (bf (aW (bZ hr.units150) (ac 6) (aj)) (aw (aM (aQ (aa (bC) (aa (ac 7) (aa (aN (aA hr.units1) (ac 1) (aj) (fun _ _=>rfl)) (aa (ac 4) (ai)))))))) (aU)) (aw (aM (aQ (aa (bC) (aa (ac 7) (ai))))))))) (aU))) NW) (aw (aM (aQ (aa (bC) (aa (ac 2) (ai))))))))
def GW (cdv:tx)(Ar:Mw)(outer:List Env)(s:If)(H:Hp)(E:XK)
  (hr:aX 0 (Ar.deeper (envOfC "told" (am oa) s.heap.objs.size A.a_64 cdv))):PSs (cq (CX1 P w) P w K mg base ["answer"] "told" (am oa) A.a_64 cdv Ar outer s H E) (aK oa) (CM K A E):=QSs.out (
 au (bf (aW uO (ac 0) (fE)) (aw (gi T.er_Silent T.mc_Silent dJ)) (aU)) (aw (aM (ac 0))))
def Af:aP P w K mg base (CX1 P w) 1 A.a_64 A.d_64 ["answer"] (lq K A):=
 T.f_64.f.okX Jw (DL K A) (fun cdv Ar outer s H vs Q E hr h=>⟨_,GW T cdv Ar outer s H E hr,ID T.1 vs H Q E h⟩)
def GU:aP P w K mg base (CX1 P w) 2 A.a_10 A.d_10 ["self"] (qm K A):=
 T.f_10.okS Hl (Ey K A) (IH T.1) fun _ _ _ _ _ _ hr=>
 aw (aM (nV (lI T) hr.le bR (ac 0) T.cl_Spoken T.na_Spoken_answerer (aa (aQ (aa (bC) (ai))) (ai))))
def Kh:aP P w K mg base (CX1 P w) 2 A.a_9 A.d_9 ["self","count","elder"] (rA K A):=
 T.f_9.okS JZ (HJ K A) (Kg T.1) fun _ _ _ _ _ _ hr=>
 aw (aM (nV (lI T) hr.le bR (ac 0) T.cl_Spoken T.na_Spoken_answerer (aa (aQ (aa (bC) (aa (ac 1) (aa (ac 2) (ai))))) (ai))))
def LK (cdv:tx)(Ar:Mw)(outer:List Env)(s:If)(H:Hp)(E:XK)
  (hr:aX 9 (Ar.deeper (envOfC "Desk.follow" (am s_3) s.heap.objs.size A.a_3 cdv))):PSs (cq (CX1 P w) P w K mg base ["self","line","head"] "Desk.follow" (am s_3) A.a_3 cdv Ar outer s H E) (aK s_3) (T_3 K A E):=QSs.out (
 au (aH 2 CL.nd (gA (Af T) hr.le T.f_64.m T.f_64.f.kp T.f_64.b eO (aa (xK (ac 1) T.cl_Spoken T.me_Spoken_newest (GU T) hr.le T.b_10 bR) (ai)))) (au (dQ (fS (ac 0) T.cl_Desk T.me_Desk_check_new (DW T) hr.le T.b_2 eO (aa (ac 2) (ai)))) (aw (aM (fS (ac 0) T.cl_Desk T.me_Desk_hear (uK T) hr.le T.b_4 eO (aa (ac 2) (aa (gA (Af T) hr.le T.f_64.m T.f_64.f.kp T.f_64.b eO (aa (fS (ac 1) T.cl_Spoken T.me_Spoken_growth (Kh T) hr.le T.b_9 bR (aa (aN (aA hr.units1) (ac 2) (aj) (fun _ _=>rfl)) (aa (aN (aA hr.units1) (dY (ac 0)) (aj) (fun _ _=>rfl)) (ai)))) (ai))) (ai))))))))
def KA:aP P w K mg base (CX1 P w) 10 A.a_3 A.d_3 ["self","line"] (uk K A):=
 T.f_3.okX CL (FP K A) (fun cdv Ar outer s H vs Q E hr h=>⟨_,LK T cdv Ar outer s H E hr,Lo T.1 vs H Q E h⟩)
def zL:aP P w K mg base (CX1 P w) 1 A.a_21 A.d_21 ["_law_caught_here"] (lp K A):=
 T.f_21.f.okS va (Fo K A) (Gm T.1) fun _ _ _ _ _ _ hr=>
 au (aH 1 va.nd (cS (aa (aY fT T.z_isinstance MA (aa (ac 0) (aa (iJ T.mc_NoHead) (ai)))) (aa (aY fT T.z_isinstance MA (aa (ac 0) (aa (iJ T.mc_Unsealed) (ai)))) (aa (aY fT T.z_isinstance MA (aa (ac 0) (aa (iJ T.mc_Elder) (ai)))) (ai)))))) (au (aH 1 va.nd (aB bW (ac 1) (cS (aa (aY fT T.z_isinstance MA (aa (ac 0) (aa (iJ T.mc_NoPaper) (ai)))) (aa (aY fT T.z_isinstance MA (aa (ac 0) (aa (iJ T.mc_Broken) (ai)))) (aa (aY fT T.z_isinstance MA (aa (ac 0) (aa (iJ T.mc_Parted) (ai)))) (ai))))))) (aw (aM (aB bW (ac 1) (cS (aa (aY fT T.z_isinstance MA (aa (ac 0) (aa (iJ T.mc_Silent) (ai)))) (aa (aY fT T.z_isinstance MA (aa (ac 0) (aa (ii T.z_ValueError pe) (ai)))) (ai))))))))
def uI:aP P w K mg base (CX1 P w) 11 A.a_14 A.d_14 ["_law_desk_here","_law_line_here","_law_head_here","_law_marks"] (kN K A):=
 T.f_14.f.okS jH (DF K A) (Hq T.1) fun _ _ _ _ _ E hr=>
 au (aH 4 jH.nd (fE)) (au (aH 5 jH.nd (fE)) (au (Ad (fun pn' E' EH hEH=>aw (bf (aW uO (ac 1) (fE)) (aw (aH 5 jH.nd (fS (ac 0) T.cl_Desk T.me_Desk_hear (uK T) hr.le T.b_4 hEH (aa (ac 2) (aa (ac 3) (ai)))))) (aw (aH 5 jH.nd (fS (ac 0) T.cl_Desk T.me_Desk_follow (KA T) hr.le T.b_3 hEH (aa (ac 1) (ai))))))) (zW 6 jH.nd T.eo_StampError T.mc_StampError (fun a=>aw (aH 4 jH.nd (ac 6))) (wl)) (aU)) (au (bf (aW uO (ac 4) (fE)) (aw (aM (aQ (aa (bC) (aa (ac 5) (ai)))))) (aU)) (au (bf (x_w (pL (bJ (aY fT T.z_isinstance MA (aa (ac 4) (aa (iJ T.mc_Broken) (ai))))) (mj (bJ (aY fT T.z_isinstance MA (aa (ac 4) (aa (iJ T.mc_Parted) (ai)))))))) (aw (aM (aQ (aa (bC) (aa (aR (zL T) hr.le T.f_21 (aa (ac 4) (ai))) (aa (vE (ac 4)) (aa (vE (ac 4)) (ai)))))))) (aU)) (aw (aM (aQ (aa (bC) (aa (aR (zL T) hr.le T.f_21 (aa (ac 4) (ai))) (ai))))))))))
def Al:aP P w K mg base (CX1 P w) 1 A.a_22 A.d_22 ["_law_desk_here","_law_due_here","_law_told","_law_held_here","_law_head_here"] (mT K A):=
 T.f_22.f.okS IQ (BW K A) (Hk T.1) fun _ _ _ _ _ _ hr=>
 au (bf (aW (ki hr.units150) (ac 2) (ac 1)) (aw (aM (dU))) (aU)) (au (bf (aW (bZ hr.units150) (aN (aA hr.units1) (ac 2) (aj) (fun _ _=>rfl)) (bC)) (aw (aM (fb (eN (bZ hr.units150) (dY (ac 0)) (ac 4)) (fX (aY iP T.z_isinstance MA (aa (dY (ac 0)) (aa (ii T.z_tuple Qg) (ai)))))))) (aU)) (aw (aM (eN (bZ hr.units150) (dY (ac 0)) (ac 3)))))
def Cs:aP P w K mg base (CX1 P w) 1 A.a_8 A.d_8 ["self","say"] (rD K A):=
 T.f_8.okS LN (Gx K A) (JX T.1) fun _ _ _ _ _ _ hr=>
 aw (fK (ac 0) (ac 1))
def GO (B:BM mg base)(C:MZ base A.k_26 A.t_26)(Ar:Mw)(outer:List Env)(s:If)(H:Hp)(E:XK)
  (hr:aX 2 (Ar.deeper (envOfC "_law_line" (am lC) s.heap.objs.size A.a_26 (.ref A.k_26)))):QMs (cq (CX1 P w) P w K mg base ["_law_head_here","_law_marks","_law_elder","_law_say"] "_law_line" (am lC) A.a_26 (.ref A.k_26) Ar outer s H E).nox (aK lC) (CQ K A (s.heap.objs.size+1) (s.heap.objs.size+1+1) (s.heap.objs.size+1+1+1)):=(
 bn (bA (ug 3 zJ.nd B C rfl (by rfl) (by simp<;>omega) rfl rfl rfl rfl (fun _ _ _ _ _ us hl=>by obtain⟨_,rfl⟩:=L2.cI hl;rfl))) (cT (ej (jg T.mk_Spoken (Cs T) hr.le T.mc_Spoken T.b_8 bR (aa (ac 3) (ai))))))
def Io:aP P w K mg base (CX1 P w) 3 A.a_26 A.d_26 ["_law_head_here","_law_marks","_law_elder"] (pS K A):=
 T.f_26.f.okM (caps:=fun L=>[(0,L+1),(1,L+1+1),(2,L+1+1+1)]) T.kc_26 zJ (DI K A) (fun L p hp=>by simp only[LZ,Mp,or_false]at hp;rcases hp with rfl|rfl|rfl<;>exact⟨_,rfl,rfl,rfl⟩) (fun L=>by simp) (fun Ar outer s H vs Q E hr h=>⟨_,QMs.nox (GO T T.B T.C_26 Ar outer s H E hr),Jd T.1 (s.heap.objs.size+1) (s.heap.objs.size+1+1) (s.heap.objs.size+1+1+1) (by simp) vs H Q E h⟩)
def GH (B:BM mg base)(C:MZ base A.k_11 A.t_11)(Ar:Mw)(outer:List Env)(s:If)(H:Hp)(E:XK)
  (hr:aX 11 (Ar.deeper (envOfC "_law_both" (am lY) s.heap.objs.size A.a_11 (.ref A.k_11)))):QMs (cq (CX1 P w) P w K mg base ["_law_desks","_law_due_here","_law_elder","_law_case","_law_held_here","_law_head_here","_law_paper","_law_told","_law_silent"] "_law_both" (am lY) A.a_11 (.ref A.k_11) Ar outer s H E).nox (aK lY) (EV K A):=(
 bn (bA (Cq 4 5 6 lb.nd rfl (ac 3))) (bn (ip (aW (ki hr.units150) (dY (aN (aA hr.units1) (ac 0) (aj) (fun _ _=>rfl))) (ac 4)) (cT (ej (dU))) (fZ)) (bn (bA (aH 7 lb.nd (aR (uI T) hr.le T.f_14 (aa (aN (aA hr.units1) (ac 0) (aj) (fun _ _=>rfl)) (aa (fE) (aa (ac 5) (aa (ac 6) (ai)))))))) (bn (ip (cX (bJ (aR (Al T) hr.le T.f_22 (aa (aN (aA hr.units1) (ac 0) (aj) (fun _ _=>rfl)) (aa (ac 1) (aa (ac 7) (aa (ac 4) (aa (ac 5) (ai))))))))) (cT (ej (dU))) (fZ)) (bn (bA (aH 8 lb.nd (aQ (aa (bC) (aa (iZ (ys:=[]) (by exact⟨rfl,by decide+kernel,by decide+kernel,rfl,by decide+kernel,by decide+kernel⟩) (by exact .nil) (im T.z_range (aa (aj) (ai))) (fun C s H fp=>gK) (fun C s H fp=>(eN oGt (ac 0) (aj)))) (ai)))))) (bn (ip (x_w (kC (aW uO (ac 6) (fE)) (kC (aW (bZ hr.units150) (aN (aA hr.units1) (ac 1) (aj) (fun _ _=>rfl)) (bC)) (lc (bJ (aN (aA hr.units1) (aN (aA hr.units1) (ac 1) (aj) (fun _ _=>rfl)) (aj) (fun _ _=>rfl))))))) (cT (bA (aH 1 lb.nd (ac 8)))) (fZ)) (bn (bA (aH 7 lb.nd (aR (uI T) hr.le T.f_14 (aa (aN (aA hr.units1) (ac 0) (aj) (fun _ _=>rfl)) (aa (aR (Io T) hr.le T.f_26 (aa (ac 5) (aa (ac 6) (aa (ac 2) (ai))))) (aa (ac 5) (aa (ac 6) (ai)))))))) (bn (ip (cX (bJ (aR (Al T) hr.le T.f_22 (aa (aN (aA hr.units1) (ac 0) (aj) (fun _ _=>rfl)) (aa (ac 1) (aa (ac 7) (aa (ac 4) (aa (ac 5) (ai))))))))) (cT (ej (dU))) (fZ)) (cT (ej (eN (bZ hr.units150) (aR (uI T) hr.le T.f_14 (aa (aN (aA hr.units1) (ac 0) (aj) (fun _ _=>rfl)) (aa (jg T.mk_Spoken (Cs T) hr.le T.mc_Spoken T.b_8 bR (aa (lf B C rfl (by rfl) (by simp<;>omega) rfl rfl rfl rfl (fun _ _ _ _ us hl=>by obtain⟨_,rfl⟩:=L2.cI hl;rfl)) (ai))) (aa (ac 5) (aa (ac 6) (ai)))))) (ac 8))))))))))))
def JJ:aP P w K mg base (CX1 P w) 12 A.a_11 A.d_11 ["_law_desks","_law_due_here","_law_elder","_law_case"] (pU K A):=
 T.f_11.f.okM (caps:=fun L=>[]) T.kc_11 lb (EI K A) (fun L p hp=>nomatch hp) (fun L=>by simp) (fun Ar outer s H vs Q E hr h=>⟨_,QMs.nox (GH T T.B T.C_11 Ar outer s H E hr),Gb T.1 (by simp) vs H Q E h⟩)
def Iy (B:BM mg base)(C:MZ base A.k_29 A.t_29)(Ar:Mw)(outer:List Env)(s:If)(H:Hp)(E:XK)
  (hr:aX 9 (Ar.deeper (envOfC "_law_no_bits" (am lV) s.heap.objs.size A.a_29 (.ref A.k_29)))):QMs (cq (CX1 P w) P w K mg base ["_law_stamper_here","_law_cell","_law_some","_law_caught_here","e"] "_law_no_bits" (am lV) A.a_29 (.ref A.k_29) Ar outer s H E).nox (aK lV) (BV K A):=(
 bn (bA (aH 2 mO.nd (cS (aa (fE) (aa (dU) (aa (aj) (aa (aj) (aa (aB ft (gH (aj)) (aB cb (ac 1) (aB nN (aj) (aj)))) (aa (aB bW (aj) (aB cb (ac 1) (aB nN (aj) (aj)))) (aa (bC) (aa (cS (aa (aj) (ai))) (aa (aQ (aa (aj) (ai))) (ai))))))))))))) (bn (bA (aH 3 mO.nd (dU))) (bn (bA (Ad (fun pn' E' EH hEH=>aw (dQ (jg T.mk_Desk (zr T) hr.le T.mc_Desk T.b_1 hEH (aa (ac 0) (aa (aN (aA hr.units1) (ac 2) (aB cb (ac 1) (aj)) (fun _ _=>rfl)) (aa (lf B C rfl (by rfl) (by simp<;>omega) rfl rfl rfl rfl (fun _ _ _ _ us hl=>by obtain⟨_,rfl⟩:=L2.cI hl;rfl)) (ai))))))) (zW 4 mO.nd T.eo_NoBits T.mc_NoBits (fun a=>aw (aH 3 mO.nd (aY fT T.z_isinstance MA (aa (ac 4) (aa (iJ T.mc_StampError) (ai)))))) (wl)) (aU))) (cT (ej (ac 3))))))
def FO:aP P w K mg base (CX1 P w) 10 A.a_29 A.d_29 ["_law_stamper_here","_law_cell"] (pO K A):=
 T.f_29.f.okM (caps:=fun L=>[]) T.kc_29 mO (Ft K A) (fun L p hp=>nomatch hp) (fun L=>by simp) (fun Ar outer s H vs Q E hr h=>⟨_,QMs.nox (Iy T T.B T.C_29 Ar outer s H E hr),GS T.1 (by simp) vs H Q E h⟩)
def Hz (B:BM mg base)(C:MZ base A.k_59 A.t_59)(Ar:Mw)(outer:List Env)(s:If)(H:Hp)(E:XK)
  (hr:aX 76 (Ar.deeper (envOfC "law" (am lX) s.heap.objs.size A.a_59 (.ref A.k_59)))):QMs (cq (CX1 P w) P w K mg base ["_law_script","_law_stamper_here","_law_bits","_law_count","_law_elder","_law_marks","_law_tops_here","_law_good","_law_old","_law_held_here","_law_top","_law_wrong","_law_head_here","_law_paper","_law_seals","_law_desks","_law_due_here","_law_bare"] "law" (am lX) A.a_59 (.ref A.k_59) Ar outer s H E).nox (aK lX) (EL K A (s.heap.objs.size+1)):=(
 bn (bA (aH 1 eP.nd (aR (Jx T) hr.le T.f_35 (aa (aR (fF T) hr.le T.f_15 (aa (ac 0) (aa (aj) (ai)))) (ai))))) (bn (bA (aH 2 eP.nd (aB bW (aj) (aB cb (aR (fF T) hr.le T.f_15 (aa (ac 0) (aa (aj) (ai)))) (aj))))) (bn (bA (CW 3 4 5 6 eP.nd rfl (aR (Ip T) hr.le T.f_13 (aa (ac 1) (aa (ac 0) (ai)))))) (bn (bA (aH 7 eP.nd (aQ (aa (ac 3) (aa (dm (dq T) hr.le bR (ac 1) (aa (aQ (aa (bC) (aa (ac 3) (aa (aN (aA hr.units1) (ac 6) (aj) (fun _ _=>rfl)) (ai))))) (ai))) (ai)))))) (bn (bA (aH 8 eP.nd (aQ (aa (ac 4) (aa (dm (dq T) hr.le bR (ac 1) (aa (aQ (aa (bC) (aa (ac 4) (aa (aN (aA hr.units1) (ac 6) (aj) (fun _ _=>rfl)) (ai))))) (ai))) (ai)))))) (bn (bA (AF 9 10 eP.nd rfl (aR (Ij T) hr.le T.f_25 (aa (ac 1) (aa (aR (fF T) hr.le T.f_15 (aa (ac 0) (aa (aj) (ai)))) (aa (ac 4) (aa (aN (aA hr.units1) (ac 6) (aj) (fun _ _=>rfl)) (ai)))))))) (bn (bA (oB (ys:=["_law_script"]) 11 eP.nd (by exact⟨rfl,by decide+kernel,by decide+kernel,rfl,by decide+kernel,by decide+kernel⟩) (by exact .cons rfl (by first|exact .inl rfl|exact .inr rfl) rfl (.nil)) (yX T.z_range (aa (aj) (aa (aj) (ai)))) (fun C s H fp=>gK) (fun C s H fp=>(eN (bZ hr.units150) (aB cb (aR (fF T) hr.le T.f_15 (aa (ac 1) (aa (ac 0) (ai)))) (aj)) (aj))))) (bn (bA (gF hr.units1 (ac 11) (aj) (fb (aN (aA hr.units1) (ac 11) (aj) (fun _ _=>rfl)) (fX (eN oGt (ac 4) (aj)))))) (bn (bA (aH 12 eP.nd (aR (Gw T) hr.le T.f_24 (aa (ac 0) (aa (ac 11) (aa (ac 7) (aa (ac 4) (ai)))))))) (bn (bA (aH 13 eP.nd (ac 5))) (bn (ip (bJ (aN (aA hr.units1) (ac 11) (aj) (fun _ _=>rfl))) (cT (bA (aH 13 eP.nd (aR (GX T) hr.le T.f_32 (aa (aB ci (aR (fF T) hr.le T.f_15 (aa (ac 0) (aa (aj) (ai)))) (aj)) (aa (ac 5) (ai))))))) (fZ)) (bn (bA (aH 14 eP.nd (jh))) (bn (bA (aH 15 eP.nd (cS (aa (aR (zN T) hr.le T.f_17 (aa (ac 1) (aa (ac 2) (aa (ac 14) (aa (ac 9) (aa (ac 10) (ai))))))) (aa (aR (zN T) hr.le T.f_17 (aa (ac 1) (aa (ac 2) (aa (ac 14) (aa (ac 9) (aa (ac 10) (ai))))))) (ai)))))) (bn (ip (x_w (kC (cX (bJ (aN (aA hr.units1) (ac 11) (aj) (fun _ _=>rfl)))) (lc (x_w (pL (cX (bJ (aN (aA hr.units1) (ac 11) (aj) (fun _ _=>rfl)))) (mj (aW (bZ hr.units150) (ac 12) (ac 9)))))))) (bn (bA (gF hr.units1 (ac 14) (ac 12) (dU))) (cT (bA (gF hr.units1 (ac 11) (aj) (dU))))) (fZ)) (bn (bA (aH 16 eP.nd (aR (FT T) hr.le T.f_19 (aa (ac 11) (aa (ac 9) (aa (ac 12) (aa (aN (aA hr.units1) (ac 7) (aj) (fun _ _=>rfl)) (aa (aN (aA hr.units1) (ac 8) (aj) (fun _ _=>rfl)) (ai))))))))) (bn (ip (cX (bJ (aR (JJ T) hr.le T.f_11 (aa (ac 15) (aa (ac 16) (aa (ac 4) (aa (aQ (aa (ac 9) (aa (ac 12) (aa (ac 13) (ai))))) (ai)))))))) (cT (ej (dU))) (fZ)) (bn (bA (aH 17 eP.nd (aQ (aa (aj) (aa (dm (dq T) hr.le bR (ac 1) (aa (aQ (aa (bC) (aa (aj) (aa (dm (dq T) hr.le bR (ac 1) (aa (aQ (aa (bC) (ai))) (ai))) (ai))))) (ai))) (ai)))))) (bn (ip (aW (ki hr.units150) (dY (jg T.mk_Desk (zr T) hr.le T.mc_Desk T.b_1 bR (aa (ac 1) (aa (ac 2) (aa (lf B C rfl (by rfl) (by simp<;>omega) rfl rfl rfl rfl (fun _ _ _ _ us hl=>by obtain⟨_,rfl⟩:=L2.cI hl;rfl)) (ai)))))) (ac 17)) (cT (ej (dU))) (fZ)) (bn (ip (cX (bJ (aR (FO T) hr.le T.f_29 (aa (ac 1) (aa (aR (fF T) hr.le T.f_15 (aa (ac 0) (aa (aj) (ai)))) (ai)))))) (cT (ej (dU))) (fZ)) (bn (ip (x_w (pL (aW (bZ hr.units150) (aN (aA hr.units1) (ac 16) (aj) (fun _ _=>rfl)) (bC)) (mj (aW (ki hr.units150) (ac 9) (ac 8))))) (cT (ej (dU))) (fZ)) (bn (bA (gF hr.units1 (ac 14) (ac 7) (dU))) (cT (ej (fb (eN (bZ hr.units150) (fS (aN (aA hr.units1) (ac 15) (aj) (fun _ _=>rfl)) T.cl_Desk T.me_Desk_hear (uK T) hr.le T.b_4 bR (aa (ac 7) (aa (ac 5) (ai)))) (ac 7)) (fX (eN (bZ hr.units150) (dY (aN (aA hr.units1) (ac 15) (aj) (fun _ _=>rfl))) (ac 7)))))))))))))))))))))))))))
def HQ:aP P w K mg base (CX1 P w) 77 A.a_59 A.d_59 ["_law_script"] (pX K A):=
 T.f_59.f.okM (caps:=fun L=>[(0,L+1)]) T.kc_59 eP (Dq K A) (fun L p hp=>by simp only[LZ,Mp,or_false]at hp;rcases hp with rfl<;>exact⟨_,rfl,rfl,rfl⟩) (fun L=>by simp) (fun Ar outer s H vs Q E hr h=>⟨_,QMs.nox (Hz T T.B T.C_59 Ar outer s H E hr),HS T.1 (s.heap.objs.size+1) (by simp) vs H Q E h⟩)
omit T
def ut (P:Ms)(w:MG)(K:cW)(mg:Str->Option tx)(fa:Addr):Prop:=∃(fd:Mc)(tabs:List (Addr×Addr))(sp:Sp),(∀(s:If)(v:tx),Si s fd ⟨[v],[]⟩ [("_law_script",v)])/\RK K=true/\(∀t∈tabs,∃y∈(["writing","counting","_law_sure","_law_weak","_law_desk","_law_line","_law_both","_law_no_bits","law"]:List Str),ND K y=some t)/\(∀base:Heap,K.In base->base.Ns mainGlobals mg->BM mg base->(∀t∈tabs,MZ base t.1 t.2)->aP P w K mg base (CX1 P w) 77 fa fd ["_law_script"] sp)/\∀(H:Hp)(a:Addr)(ns:List Int),ns.length<=63->(∀t∈tabs,H t.2=some (.tbl #[]))->SqL K H a (ns.map V.int)->sp [.ref a] H (fun v _=>v=.bl true) fun _ _ _=>False
def DC (T:Txt K mg A)(nt:RK K=true)(tb_66:ND K "writing"=some (A.k_66,A.t_66))(tb_44:ND K "counting"=some (A.k_44,A.t_44))(tb_36:ND K "_law_sure"=some (A.k_36,A.t_36))(tb_40:ND K "_law_weak"=some (A.k_40,A.t_40))(tb_17:ND K "_law_desk"=some (A.k_17,A.t_17))(tb_26:ND K "_law_line"=some (A.k_26,A.t_26))(tb_11:ND K "_law_both"=some (A.k_11,A.t_11))(tb_29:ND K "_law_no_bits"=some (A.k_29,A.t_29))(tb_59:ND K "law"=some (A.k_59,A.t_59))(tdn:([A.t_66,A.t_44,A.t_36,A.t_40,A.t_17,A.t_26,A.t_11,A.t_29,A.t_59]:List Addr).Nodup):ut P w K mg A.a_59:=by
 refine⟨A.d_59,[(A.k_66,A.t_66),(A.k_44,A.t_44),(A.k_36,A.t_36),(A.k_40,A.t_40),(A.k_17,A.t_17),(A.k_26,A.t_26),(A.k_11,A.t_11),(A.k_29,A.t_29),(A.k_59,A.t_59)],pX K A,T.f_59.f.bt,nt,?_,fun base _ _ B C=>?_,fun H a ns hl hO hS=>⟨a,ns,rfl,hS,hl,⟨hO (A.k_66,A.t_66) (by simp),hO (A.k_44,A.t_44) (by simp),hO (A.k_36,A.t_36) (by simp),hO (A.k_40,A.t_40) (by simp),hO (A.k_17,A.t_17) (by simp),hO (A.k_26,A.t_26) (by simp),hO (A.k_11,A.t_11) (by simp),hO (A.k_29,A.t_29) (by simp),hO (A.k_59,A.t_59) (by simp),tdn⟩,fun _=>rfl⟩⟩
 ·intro t ht
  simp only[LZ,Mp,or_false]at ht
  rcases ht with rfl|rfl|rfl|rfl|rfl|rfl|rfl|rfl|rfl
  ·exact⟨"writing",by simp,tb_66⟩
  ·exact⟨"counting",by simp,tb_44⟩
  ·exact⟨"_law_sure",by simp,tb_36⟩
  ·exact⟨"_law_weak",by simp,tb_40⟩
  ·exact⟨"_law_desk",by simp,tb_17⟩
  ·exact⟨"_law_line",by simp,tb_26⟩
  ·exact⟨"_law_both",by simp,tb_11⟩
  ·exact⟨"_law_no_bits",by simp,tb_29⟩
  ·exact⟨"law",by simp,tb_59⟩
 ·exact HQ ⟨T,B,C (A.k_66,A.t_66) (by simp),C (A.k_44,A.t_44) (by simp),C (A.k_36,A.t_36) (by simp),C (A.k_40,A.t_40) (by simp),C (A.k_17,A.t_17) (by simp),C (A.k_26,A.t_26) (by simp),C (A.k_11,A.t_11) (by simp),C (A.k_29,A.t_29) (by simp),C (A.k_59,A.t_59) (by simp)⟩
def Co {h:Heap}{fa:Addr}(X:K.In h)(G:h.Ns mainGlobals mg)(hfa:mg "law"=some (.ref fa)){x_57 x_55 x_56 x_62 x_68 x_6 x_66 x_5 x_44 x_36 x_40 x_35 x_15 x_16 x_20 x_23 x_28 x_38 x_34 x_39 x_13 x_25 x_33 x_31 x_24 x_32 x_51 x_65 x_61 x_1 x_52 x_54 x_43 x_2 x_53 x_50 x_49 x_42 x_58 x_46 x_63 x_48 x_0 x_47 x_7 x_4 x_17 x_19 x_64 x_10 x_9 x_3 x_21 x_14 x_22 x_8 x_26 x_11 x_29 x_59 y_NoBits y_NoHead y_Elder y_Unsealed y_NoPaper y_NoPlace y_Broken y_Parted y_Silent y_StampError y_Numbers y_Desk y_Spoken:Addr}{d0 d1 d2 d3 d4 d5 d6 d7 d8 d9 d10 d11 d12 d13 d14 d15 d16 d17 d18 d19 d20 d21 d22 d23 d24 d25 d26 d27 d28 d29 d30 d31 d32 d33 d34 d35 d36 d37 d38 d39 d40 d41 d42 d43 d44 d45 d46 d47 d48 d49 d50 d51 d52 d53 d54 d55 d56 d57 d58 d59:Mc}{tc0 tc1:Tok}
  (bo_Numbers:Ny K mainGlobals "Numbers"=some (some (.ref y_Numbers)))(bo_Desk:Ny K mainGlobals "Desk"=some (some (.ref y_Desk)))(bo_Spoken:Ny K mainGlobals "Spoken"=some (some (.ref y_Spoken)))(bc_NoBits:Ny K mainGlobals "NoBits"=some (some (.ref y_NoBits)))(bc_NoHead:Ny K mainGlobals "NoHead"=some (some (.ref y_NoHead)))(bc_Elder:Ny K mainGlobals "Elder"=some (some (.ref y_Elder)))(bc_Unsealed:Ny K mainGlobals "Unsealed"=some (some (.ref y_Unsealed)))(bc_NoPaper:Ny K mainGlobals "NoPaper"=some (some (.ref y_NoPaper)))(bc_NoPlace:Ny K mainGlobals "NoPlace"=some (some (.ref y_NoPlace)))(bc_Broken:Ny K mainGlobals "Broken"=some (some (.ref y_Broken)))(bc_Parted:Ny K mainGlobals "Parted"=some (some (.ref y_Parted)))(bc_Silent:Ny K mainGlobals "Silent"=some (some (.ref y_Silent)))(bc_StampError:Ny K mainGlobals "StampError"=some (some (.ref y_StampError)))(h0:Fa K "is_whole" "is_whole" zE x_57 d0)(h1:Fa K "is_stamp" "is_stamp" zg x_55 d1)(h2:Fa K "is_term" "is_term" xF x_56 d2)(h3:Fa K "part_form" "part_form" yD x_62 d3)(h4:Fa K "written" "written" xE x_68 d4)(a5:Mq K (.ref y_Numbers) "number_of"=some (some (.ref x_6)))(h5:Fun K "number_of" "Numbers.number_of" s_6 x_6 d5)(fn5:Pb K (.ref x_6)=true)(h6:Fa K "writing" "writing" lT x_66 d6)(tb_66:(ND K "writing").isSome=true)(a7:Mq K (.ref y_Numbers) "__init__"=some (some (.ref x_5)))(h7:Fun K "__init__" "Numbers.__init__" s_5 x_5 d7)(fn7:Pb K (.ref x_5)=true)(h8:Fa K "counting" "counting" lN x_44 d8)(tb_44:(ND K "counting").isSome=true)(h9:Fa K "_law_sure" "_law_sure" ma x_36 d9)(tb_36:(ND K "_law_sure").isSome=true)(h10:Fa K "_law_weak" "_law_weak" lD x_40 d10)(tb_40:(ND K "_law_weak").isSome=true)(h11:Fa K "_law_stamper" "_law_stamper" yM x_35 d11)(h12:Fa K "_law_cell_at" "_law_cell_at" yN x_15 d12)(h13:Fa K "_law_count_by" "_law_count_by" yd x_16 d13)(h14:Fa K "_law_elder_for" "_law_elder_for" zh x_20 d14)(h15:Fa K "_law_half" "_law_half" yu x_23 d15)(h16:Fa K "_law_many" "_law_many" yO x_28 d16)(h17:Fa K "_law_text_by" "_law_text_by" yi x_38 d17)(h18:Fa K "_law_stamp_by" "_law_stamp_by" yQ x_34 d18)(h19:Fa K "_law_tops" "_law_tops" yh x_39 d19)(h20:Fa K "_law_built" "_law_built" xk x_13 d20)(h21:Fa K "_law_held" "_law_held" yw x_25 d21)(h22:Fa K "_law_no_stamp" "_law_no_stamp" yB x_33 d22)(h23:Fa K "_law_no_head" "_law_no_head" zb x_31 d23)(h24:Fa K "_law_head" "_law_head" xj x_24 d24)(h25:Fa K "_law_no_paper" "_law_no_paper" zo x_32 d25)(h26:Fa K "is_bits" "is_bits" xJ x_51 d26)(h27:Fa K "void_terms" "void_terms" ym x_65 d27)(h28:Fa K "none_head" "none_head" xQ x_61 d28)(a29:Mq K (.ref y_Desk) "__init__"=some (some (.ref x_1)))(h29:Fun K "__init__" "Desk.__init__" s_1 x_1 d29)(fn29:Pb K (.ref x_1)=true)(h30:Fa K "is_count" "is_count" xt x_52 d30)(h31:Fa K "is_head" "is_head" zy x_54 d31)(h32:Fa K "check_head" "check_head" nX x_43 d32)(a33:Mq K (.ref y_Desk) "check_new"=some (some (.ref x_2)))(h33:Fun K "check_new" "Desk.check_new" s_2 x_2 d33)(fn33:Pb K (.ref x_2)=true)(h34:Fa K "is_elder" "is_elder" xB x_53 d34)(h35:Fa K "half" "half" yk x_50 d35)(h36:Fa K "growth_turns" "growth_turns" zc x_49 d36)(h37:Fa K "are_marks" "are_marks" zw x_42 d37)(h38:Fa K "joint" "joint" zl x_58 d38)(h39:Fa K "grown_terms" "grown_terms" xU x_46 d39)(h40:Fa K "step_marks" "step_marks" xY x_63 d40)(h41:Fa K "growth_terms" "growth_terms" nE x_48 d41)(a42:Mq K (.ref y_Broken) "__init__"=some (some (.ref x_0)))(h42:Fun K "__init__" "Broken.__init__" s_0 x_0 d42)(fn42:Pb K (.ref x_0)=true)(h43:Fa K "growth_answer" "growth_answer" nw x_47 d43)(a44:Mq K (.ref y_Parted) "__init__"=some (some (.ref x_7)))(h44:Fun K "__init__" "Parted.__init__" s_7 x_7 d44)(fn44:Pb K (.ref x_7)=true)(a45:Mq K (.ref y_Desk) "hear"=some (some (.ref x_4)))(h45:Fun K "hear" "Desk.hear" s_4 x_4 d45)(fn45:Pb K (.ref x_4)=true)(h46:Fa K "_law_desk" "_law_desk" lG x_17 d46)(tb_17:(ND K "_law_desk").isSome=true)(h47:Fa K "_law_due" "_law_due" xZ x_19 d47)(h48:Fa K "told" "told" oa x_64 d48)(a49:Mq K (.ref y_Spoken) "newest"=some (some (.ref x_10)))(h49:Fun K "newest" "Spoken.newest" xR x_10 d49)(fn49:Pb K (.ref x_10)=true)(a50:Mq K (.ref y_Spoken) "growth"=some (some (.ref x_9)))(h50:Fun K "growth" "Spoken.growth" s_9 x_9 d50)(fn50:Pb K (.ref x_9)=true)(a51:Mq K (.ref y_Desk) "follow"=some (some (.ref x_3)))(h51:Fun K "follow" "Desk.follow" s_3 x_3 d51)(fn51:Pb K (.ref x_3)=true)(h52:Fa K "_law_flags" "_law_flags" zD x_21 d52)(h53:Fa K "_law_caught" "_law_caught" xA x_14 d53)(h54:Fa K "_law_gone" "_law_gone" xD x_22 d54)(a55:Mq K (.ref y_Spoken) "__init__"=some (some (.ref x_8)))(h55:Fun K "__init__" "Spoken.__init__" s_8 x_8 d55)(fn55:Pb K (.ref x_8)=true)(h56:Fa K "_law_line" "_law_line" lC x_26 d56)(tb_26:(ND K "_law_line").isSome=true)(h57:Fa K "_law_both" "_law_both" lY x_11 d57)(tb_11:(ND K "_law_both").isSome=true)(h58:Fa K "_law_no_bits" "_law_no_bits" lV x_29 d58)(tb_29:(ND K "_law_no_bits").isSome=true)(h59:Fa K "law" "law" lX x_59 d59)(tb_59:(ND K "law").isSome=true)(pg_Numbers:Pa K y_Numbers Nl=true)(hd_Numbers:Ot K y_Numbers=true)(po_Numbers:Qm K y_Numbers=true)(sa_Numbers:Mq K (.ref y_Numbers) "__setattr__"=some (some (.builtin "object.__setattr__")))(na_Numbers_given:Mq K (.ref y_Numbers) "given"=some none)(pg_Desk:Pa K y_Desk Nl=true)(hd_Desk:Ot K y_Desk=true)(po_Desk:Qm K y_Desk=true)(sa_Desk:Mq K (.ref y_Desk) "__setattr__"=some (some (.builtin "object.__setattr__")))(na_Desk_stamper:Mq K (.ref y_Desk) "stamper"=some none)(na_Desk_bits:Mq K (.ref y_Desk) "bits"=some none)(na_Desk_asks_seal:Mq K (.ref y_Desk) "asks_seal"=some none)(na_Desk_held:Mq K (.ref y_Desk) "held"=some none)(pg_Spoken:Pa K y_Spoken Nl=true)(hd_Spoken:Ot K y_Spoken=true)(po_Spoken:Qm K y_Spoken=true)(sa_Spoken:Mq K (.ref y_Spoken) "__setattr__"=some (some (.builtin "object.__setattr__")))(na_Spoken_answerer:Mq K (.ref y_Spoken) "answerer"=some none)(mk_Numbers:Rn K y_Numbers=true)(kc_Numbers:Oh K (.ref y_Numbers)=true)(mk_Desk:Rn K y_Desk=true)(kc_Desk:Oh K (.ref y_Desk)=true)(mk_Spoken:Rn K y_Spoken=true)(kc_Spoken:Oh K (.ref y_Spoken)=true)(eo_NoBits:Pp K y_NoBits veM "ValueError.__new__"=true)(eo_NoHead:Pp K y_NoHead veM "ValueError.__new__"=true)(eo_Elder:Pp K y_Elder veM "ValueError.__new__"=true)(eo_Unsealed:Pp K y_Unsealed veM "ValueError.__new__"=true)(eo_NoPaper:Pp K y_NoPaper veM "ValueError.__new__"=true)(eo_NoPlace:Pp K y_NoPlace veM "ValueError.__new__"=true)(eo2_Broken:kH K y_Broken=true)(eo2_Parted:kH K y_Parted=true)(eo_Silent:Pp K y_Silent veM "ValueError.__new__"=true)(eo_StampError:Pp K y_StampError veM "ValueError.__new__"=true)(sa_Broken:Mq K (.ref y_Broken) "__setattr__"=some (some (.builtin "object.__setattr__")))(hd_Broken:Ot K y_Broken=true)(sa_Parted:Mq K (.ref y_Parted) "__setattr__"=some (some (.builtin "object.__setattr__")))(hd_Parted:Ot K y_Parted=true)(na_Broken_came:Mq K (.ref y_Broken) "came"=some none)(na_Broken_due:Mq K (.ref y_Broken) "due"=some none)(na_Parted_came:Mq K (.ref y_Parted) "came"=some none)(na_Parted_due:Mq K (.ref y_Parted) "due"=some none)(kc_Broken:Oh K (.ref y_Broken)=true)(kc_Parted:Oh K (.ref y_Parted)=true)(e0_NoBits:Mq K (.ref y_NoBits) "__getattribute__"=some (some (.builtin "BaseException.__getattribute__")))(e1_NoBits:Mq K (.ref y_NoBits) "__getattr__"=some none)(e2_NoBits:Mq K (.ref y_NoBits) "__class__"=some (some (.builtin "object.__class__")))(em0_NoBits:ML K y_NoBits (.type "object")=some true)(em1_NoBits:ML K y_NoBits (.type "BaseException")=some true)(e0_NoHead:Mq K (.ref y_NoHead) "__getattribute__"=some (some (.builtin "BaseException.__getattribute__")))(e1_NoHead:Mq K (.ref y_NoHead) "__getattr__"=some none)(e2_NoHead:Mq K (.ref y_NoHead) "__class__"=some (some (.builtin "object.__class__")))(em0_NoHead:ML K y_NoHead (.type "object")=some true)(em1_NoHead:ML K y_NoHead (.type "BaseException")=some true)(e0_Elder:Mq K (.ref y_Elder) "__getattribute__"=some (some (.builtin "BaseException.__getattribute__")))(e1_Elder:Mq K (.ref y_Elder) "__getattr__"=some none)(e2_Elder:Mq K (.ref y_Elder) "__class__"=some (some (.builtin "object.__class__")))(em0_Elder:ML K y_Elder (.type "object")=some true)(em1_Elder:ML K y_Elder (.type "BaseException")=some true)(e0_Unsealed:Mq K (.ref y_Unsealed) "__getattribute__"=some (some (.builtin "BaseException.__getattribute__")))(e1_Unsealed:Mq K (.ref y_Unsealed) "__getattr__"=some none)(e2_Unsealed:Mq K (.ref y_Unsealed) "__class__"=some (some (.builtin "object.__class__")))(em0_Unsealed:ML K y_Unsealed (.type "object")=some true)(em1_Unsealed:ML K y_Unsealed (.type "BaseException")=some true)(e0_NoPaper:Mq K (.ref y_NoPaper) "__getattribute__"=some (some (.builtin "BaseException.__getattribute__")))(e1_NoPaper:Mq K (.ref y_NoPaper) "__getattr__"=some none)(e2_NoPaper:Mq K (.ref y_NoPaper) "__class__"=some (some (.builtin "object.__class__")))(em0_NoPaper:ML K y_NoPaper (.type "object")=some true)(em1_NoPaper:ML K y_NoPaper (.type "BaseException")=some true)(e0_NoPlace:Mq K (.ref y_NoPlace) "__getattribute__"=some (some (.builtin "BaseException.__getattribute__")))(e1_NoPlace:Mq K (.ref y_NoPlace) "__getattr__"=some none)(e2_NoPlace:Mq K (.ref y_NoPlace) "__class__"=some (some (.builtin "object.__class__")))(em0_NoPlace:ML K y_NoPlace (.type "object")=some true)(em1_NoPlace:ML K y_NoPlace (.type "BaseException")=some true)(e0_Broken:Mq K (.ref y_Broken) "__getattribute__"=some (some (.builtin "BaseException.__getattribute__")))(e1_Broken:Mq K (.ref y_Broken) "__getattr__"=some none)(e2_Broken:Mq K (.ref y_Broken) "__class__"=some (some (.builtin "object.__class__")))(em0_Broken:ML K y_Broken (.type "object")=some true)(em1_Broken:ML K y_Broken (.type "BaseException")=some true)(e0_Parted:Mq K (.ref y_Parted) "__getattribute__"=some (some (.builtin "BaseException.__getattribute__")))(e1_Parted:Mq K (.ref y_Parted) "__getattr__"=some none)(e2_Parted:Mq K (.ref y_Parted) "__class__"=some (some (.builtin "object.__class__")))(em0_Parted:ML K y_Parted (.type "object")=some true)(em1_Parted:ML K y_Parted (.type "BaseException")=some true)(e0_Silent:Mq K (.ref y_Silent) "__getattribute__"=some (some (.builtin "BaseException.__getattribute__")))(e1_Silent:Mq K (.ref y_Silent) "__getattr__"=some none)(e2_Silent:Mq K (.ref y_Silent) "__class__"=some (some (.builtin "object.__class__")))(em0_Silent:ML K y_Silent (.type "object")=some true)(em1_Silent:ML K y_Silent (.type "BaseException")=some true)(sb_NoBits_StampError:ML K y_NoBits (.ref y_StampError)=some true)(sb_NoBits_NoBits:ML K y_NoBits (.ref y_NoBits)=some true)(sb_NoHead_StampError:ML K y_NoHead (.ref y_StampError)=some true)(sb_NoHead_NoBits:ML K y_NoHead (.ref y_NoBits)=some false)(sb_Elder_StampError:ML K y_Elder (.ref y_StampError)=some true)(sb_Elder_NoBits:ML K y_Elder (.ref y_NoBits)=some false)(sb_Unsealed_StampError:ML K y_Unsealed (.ref y_StampError)=some true)(sb_Unsealed_NoBits:ML K y_Unsealed (.ref y_NoBits)=some false)(sb_NoPaper_StampError:ML K y_NoPaper (.ref y_StampError)=some true)(sb_NoPaper_NoBits:ML K y_NoPaper (.ref y_NoBits)=some false)(sb_NoPlace_StampError:ML K y_NoPlace (.ref y_StampError)=some true)(sb_NoPlace_NoBits:ML K y_NoPlace (.ref y_NoBits)=some false)(sb_Broken_StampError:ML K y_Broken (.ref y_StampError)=some true)(sb_Broken_NoBits:ML K y_Broken (.ref y_NoBits)=some false)(sb_Parted_StampError:ML K y_Parted (.ref y_StampError)=some true)(sb_Parted_NoBits:ML K y_Parted (.ref y_NoBits)=some false)(sb_Silent_StampError:ML K y_Silent (.ref y_StampError)=some true)(sb_Silent_NoBits:ML K y_Silent (.ref y_NoBits)=some false)(ki_NoBits_ValueError:Gt K (.ref y_NoBits) (.type "ValueError")=some true)(ki_NoBits_Silent:Gt K (.ref y_NoBits) (.ref y_Silent)=some false)(ki_NoBits_Parted:Gt K (.ref y_NoBits) (.ref y_Parted)=some false)(ki_NoBits_Broken:Gt K (.ref y_NoBits) (.ref y_Broken)=some false)(ki_NoBits_NoPaper:Gt K (.ref y_NoBits) (.ref y_NoPaper)=some false)(ki_NoBits_Elder:Gt K (.ref y_NoBits) (.ref y_Elder)=some false)(ki_NoBits_Unsealed:Gt K (.ref y_NoBits) (.ref y_Unsealed)=some false)(ki_NoBits_NoHead:Gt K (.ref y_NoBits) (.ref y_NoHead)=some false)(ki_NoBits_StampError:Gt K (.ref y_NoBits) (.ref y_StampError)=some true)(ki_NoHead_ValueError:Gt K (.ref y_NoHead) (.type "ValueError")=some true)(ki_NoHead_Silent:Gt K (.ref y_NoHead) (.ref y_Silent)=some false)(ki_NoHead_Parted:Gt K (.ref y_NoHead) (.ref y_Parted)=some false)(ki_NoHead_Broken:Gt K (.ref y_NoHead) (.ref y_Broken)=some false)(ki_NoHead_NoPaper:Gt K (.ref y_NoHead) (.ref y_NoPaper)=some false)(ki_NoHead_Elder:Gt K (.ref y_NoHead) (.ref y_Elder)=some false)(ki_NoHead_Unsealed:Gt K (.ref y_NoHead) (.ref y_Unsealed)=some false)(ki_NoHead_NoHead:Gt K (.ref y_NoHead) (.ref y_NoHead)=some true)(ki_NoHead_StampError:Gt K (.ref y_NoHead) (.ref y_StampError)=some true)(ki_Elder_ValueError:Gt K (.ref y_Elder) (.type "ValueError")=some true)(ki_Elder_Silent:Gt K (.ref y_Elder) (.ref y_Silent)=some false)(ki_Elder_Parted:Gt K (.ref y_Elder) (.ref y_Parted)=some false)(ki_Elder_Broken:Gt K (.ref y_Elder) (.ref y_Broken)=some false)(ki_Elder_NoPaper:Gt K (.ref y_Elder) (.ref y_NoPaper)=some false)(ki_Elder_Elder:Gt K (.ref y_Elder) (.ref y_Elder)=some true)(ki_Elder_Unsealed:Gt K (.ref y_Elder) (.ref y_Unsealed)=some false)(ki_Elder_NoHead:Gt K (.ref y_Elder) (.ref y_NoHead)=some false)(ki_Elder_StampError:Gt K (.ref y_Elder) (.ref y_StampError)=some true)(ki_Unsealed_ValueError:Gt K (.ref y_Unsealed) (.type "ValueError")=some true)(ki_Unsealed_Silent:Gt K (.ref y_Unsealed) (.ref y_Silent)=some false)(ki_Unsealed_Parted:Gt K (.ref y_Unsealed) (.ref y_Parted)=some false)(ki_Unsealed_Broken:Gt K (.ref y_Unsealed) (.ref y_Broken)=some false)(ki_Unsealed_NoPaper:Gt K (.ref y_Unsealed) (.ref y_NoPaper)=some false)(ki_Unsealed_Elder:Gt K (.ref y_Unsealed) (.ref y_Elder)=some false)(ki_Unsealed_Unsealed:Gt K (.ref y_Unsealed) (.ref y_Unsealed)=some true)(ki_Unsealed_NoHead:Gt K (.ref y_Unsealed) (.ref y_NoHead)=some false)(ki_Unsealed_StampError:Gt K (.ref y_Unsealed) (.ref y_StampError)=some true)(ki_NoPaper_ValueError:Gt K (.ref y_NoPaper) (.type "ValueError")=some true)(ki_NoPaper_Silent:Gt K (.ref y_NoPaper) (.ref y_Silent)=some false)(ki_NoPaper_Parted:Gt K (.ref y_NoPaper) (.ref y_Parted)=some false)(ki_NoPaper_Broken:Gt K (.ref y_NoPaper) (.ref y_Broken)=some false)(ki_NoPaper_NoPaper:Gt K (.ref y_NoPaper) (.ref y_NoPaper)=some true)(ki_NoPaper_Elder:Gt K (.ref y_NoPaper) (.ref y_Elder)=some false)(ki_NoPaper_Unsealed:Gt K (.ref y_NoPaper) (.ref y_Unsealed)=some false)(ki_NoPaper_NoHead:Gt K (.ref y_NoPaper) (.ref y_NoHead)=some false)(ki_NoPaper_StampError:Gt K (.ref y_NoPaper) (.ref y_StampError)=some true)(ki_NoPlace_ValueError:Gt K (.ref y_NoPlace) (.type "ValueError")=some true)(ki_NoPlace_Silent:Gt K (.ref y_NoPlace) (.ref y_Silent)=some false)(ki_NoPlace_Parted:Gt K (.ref y_NoPlace) (.ref y_Parted)=some false)(ki_NoPlace_Broken:Gt K (.ref y_NoPlace) (.ref y_Broken)=some false)(ki_NoPlace_NoPaper:Gt K (.ref y_NoPlace) (.ref y_NoPaper)=some false)(ki_NoPlace_Elder:Gt K (.ref y_NoPlace) (.ref y_Elder)=some false)(ki_NoPlace_Unsealed:Gt K (.ref y_NoPlace) (.ref y_Unsealed)=some false)(ki_NoPlace_NoHead:Gt K (.ref y_NoPlace) (.ref y_NoHead)=some false)(ki_NoPlace_StampError:Gt K (.ref y_NoPlace) (.ref y_StampError)=some true)(ki_Broken_ValueError:Gt K (.ref y_Broken) (.type "ValueError")=some true)(ki_Broken_Silent:Gt K (.ref y_Broken) (.ref y_Silent)=some false)(ki_Broken_Parted:Gt K (.ref y_Broken) (.ref y_Parted)=some false)(ki_Broken_Broken:Gt K (.ref y_Broken) (.ref y_Broken)=some true)(ki_Broken_NoPaper:Gt K (.ref y_Broken) (.ref y_NoPaper)=some false)(ki_Broken_Elder:Gt K (.ref y_Broken) (.ref y_Elder)=some false)(ki_Broken_Unsealed:Gt K (.ref y_Broken) (.ref y_Unsealed)=some false)(ki_Broken_NoHead:Gt K (.ref y_Broken) (.ref y_NoHead)=some false)(ki_Broken_StampError:Gt K (.ref y_Broken) (.ref y_StampError)=some true)(ki_Parted_ValueError:Gt K (.ref y_Parted) (.type "ValueError")=some true)(ki_Parted_Silent:Gt K (.ref y_Parted) (.ref y_Silent)=some false)(ki_Parted_Parted:Gt K (.ref y_Parted) (.ref y_Parted)=some true)(ki_Parted_Broken:Gt K (.ref y_Parted) (.ref y_Broken)=some false)(ki_Parted_NoPaper:Gt K (.ref y_Parted) (.ref y_NoPaper)=some false)(ki_Parted_Elder:Gt K (.ref y_Parted) (.ref y_Elder)=some false)(ki_Parted_Unsealed:Gt K (.ref y_Parted) (.ref y_Unsealed)=some false)(ki_Parted_NoHead:Gt K (.ref y_Parted) (.ref y_NoHead)=some false)(ki_Parted_StampError:Gt K (.ref y_Parted) (.ref y_StampError)=some true)(ki_Silent_ValueError:Gt K (.ref y_Silent) (.type "ValueError")=some true)(ki_Silent_Silent:Gt K (.ref y_Silent) (.ref y_Silent)=some true)(ki_Silent_Parted:Gt K (.ref y_Silent) (.ref y_Parted)=some false)(ki_Silent_Broken:Gt K (.ref y_Silent) (.ref y_Broken)=some false)(ki_Silent_NoPaper:Gt K (.ref y_Silent) (.ref y_NoPaper)=some false)(ki_Silent_Elder:Gt K (.ref y_Silent) (.ref y_Elder)=some false)(ki_Silent_Unsealed:Gt K (.ref y_Silent) (.ref y_Unsealed)=some false)(ki_Silent_NoHead:Gt K (.ref y_Silent) (.ref y_NoHead)=some false)(ki_Silent_StampError:Gt K (.ref y_Silent) (.ref y_StampError)=some true)(z_ValueError:Ny K mainGlobals "ValueError"=some none)(z_all:Ny K mainGlobals "all"=some none)(z_bool:Ny K mainGlobals "bool"=some none)(z_int:Ny K mainGlobals "int"=some none)(z_isinstance:Ny K mainGlobals "isinstance"=some none)(z_len:Ny K mainGlobals "len"=some none)(z_list:Ny K mainGlobals "list"=some none)(z_max:Ny K mainGlobals "max"=some none)(z_min:Ny K mainGlobals "min"=some none)(z_range:Ny K mainGlobals "range"=some none)(z_reversed:Ny K mainGlobals "reversed"=some none)(z_str:Ny K mainGlobals "str"=some none)(z_tuple:Ny K mainGlobals "tuple"=some none)(c_MOST_BITS:Ny K mainGlobals "MOST_BITS"=some (some (.int 60 tc0)))(c_MOST_PARTS:Ny K mainGlobals "MOST_PARTS"=some (some (.int 8 tc1)))(nt:RK K=true)(td:oF K ["writing","counting","_law_sure","_law_weak","_law_desk","_law_line","_law_both","_law_no_bits","law"]=true):ut P w K mg fa:=by
 cases hfa.symm.trans (Nx X G h59.m)
 obtain⟨⟨z_66,t_66⟩,tb_66⟩:=Mt.mp tb_66
 obtain⟨⟨z_44,t_44⟩,tb_44⟩:=Mt.mp tb_44
 obtain⟨⟨z_36,t_36⟩,tb_36⟩:=Mt.mp tb_36
 obtain⟨⟨z_40,t_40⟩,tb_40⟩:=Mt.mp tb_40
 obtain⟨⟨z_17,t_17⟩,tb_17⟩:=Mt.mp tb_17
 obtain⟨⟨z_26,t_26⟩,tb_26⟩:=Mt.mp tb_26
 obtain⟨⟨z_11,t_11⟩,tb_11⟩:=Mt.mp tb_11
 obtain⟨⟨z_29,t_29⟩,tb_29⟩:=Mt.mp tb_29
 obtain⟨⟨z_59,t_59⟩,tb_59⟩:=Mt.mp tb_59
 have tdn:([t_66,t_44,t_36,t_40,t_17,t_26,t_11,t_29,t_59]:List Addr).Nodup:=yK (by unfold oF at td;simp only[My,QB,tb_66,tb_44,tb_36,tb_40,tb_17,tb_26,tb_11,tb_29,tb_59,Oy]at td;exact of_decide_eq_true td)
 exact DC (A:=⟨x_57,d0,x_55,d1,x_56,d2,x_62,d3,x_68,d4,x_6,d5,x_66,d6,x_5,d7,x_44,d8,x_36,d9,x_40,d10,x_35,d11,x_15,d12,x_16,d13,x_20,d14,x_23,d15,x_28,d16,x_38,d17,x_34,d18,x_39,d19,x_13,d20,x_25,d21,x_33,d22,x_31,d23,x_24,d24,x_32,d25,x_51,d26,x_65,d27,x_61,d28,x_1,d29,x_52,d30,x_54,d31,x_43,d32,x_2,d33,x_53,d34,x_50,d35,x_49,d36,x_42,d37,x_58,d38,x_46,d39,x_63,d40,x_48,d41,x_0,d42,x_47,d43,x_7,d44,x_4,d45,x_17,d46,x_19,d47,x_64,d48,x_10,d49,x_9,d50,x_3,d51,x_21,d52,x_14,d53,x_22,d54,x_8,d55,x_26,d56,x_11,d57,x_29,d58,fa,d59,z_66,t_66,z_44,t_44,z_36,t_36,z_40,t_40,z_17,t_17,z_26,t_26,z_11,t_11,z_29,t_29,z_59,t_59,y_NoBits,y_NoHead,y_Elder,y_Unsealed,y_NoPaper,y_NoPlace,y_Broken,y_Parted,y_Silent,y_StampError,y_Numbers,y_Desk,y_Spoken⟩) ⟨h0.fm1 X G,h1.fm1 X G,h2.fm1 X G,h3.fm1 X G,h4.fm1 X G,h5,h5.b2,h6.fm0 X G,h7,h7.b1,h8.fm0 X G,h9.fm1 X G,h10.fm1 X G,h11.fm1 X G,h12.fm2 X G,h13.fm1 X G,h14.fm2 X G,h15.fm1 X G,h16.fm2 X G,h17.fm1 X G,h18.fm1 X G,h19.fm4 X G,h20.fm2 X G,h21.fm4 X G,h22.fm1 X G,h23.fm2 X G,h24.fm4 X G,h25.fm2 X G,h26.fm1 X G,h27.fm1 X G,h28.fm1 X G,h29,h29.b4,h30.fm1 X G,h31.fm1 X G,h32.fm1 X G,h33,h33.b2,h34.fm2 X G,h35.fm1 X G,h36.fm2 X G,h37.fm2 X G,h38.fm3 X G,h39.fm4 X G,h40.fm2 X G,h41.fm4 X G,h42,h42.b3,h43.fm4 X G,h44,h44.b3,h45,h45.b3,h46.fm5 X G,h47.fm5 X G,h48.fm1 X G,h49,h49.b1,h50,h50.b3,h51,h51.b2,h52.fm1 X G,h53.fm4 X G,h54.fm5 X G,h55,h55.b2,h56.fm3 X G,h57.fm4 X G,h58.fm2 X G,h59.fm1 X G,Nh X G z_ValueError,Nh X G z_all,Nh X G z_bool,Nh X G z_int,Nh X G z_isinstance,Nh X G z_len,Nh X G z_list,Nh X G z_max,Nh X G z_min,Nh X G z_range,Nh X G z_reversed,Nh X G z_str,Nh X G z_tuple,⟨_,Nx X G c_MOST_BITS⟩,⟨_,Nx X G c_MOST_PARTS⟩,h6.code X G tb_66,h8.code X G tb_44,h9.code X G tb_36,h10.code X G tb_40,h46.code X G tb_17,h56.code X G tb_26,h57.code X G tb_11,h58.code X G tb_29,h59.code X G tb_59,Nx X G bc_NoBits,cr.ok eo_NoBits,Nx X G bc_NoHead,cr.ok eo_NoHead,Nx X G bc_Elder,cr.ok eo_Elder,Nx X G bc_Unsealed,cr.ok eo_Unsealed,Nx X G bc_NoPaper,cr.ok eo_NoPaper,Nx X G bc_NoPlace,cr.ok eo_NoPlace,Nx X G bc_Broken,eo2_Broken,Nx X G bc_Parted,eo2_Parted,Nx X G bc_Silent,cr.ok eo_Silent,Nx X G bc_StampError,cr.ok eo_StampError,eo_NoBits,eo_NoHead,eo_Elder,eo_Unsealed,eo_NoPaper,eo_NoPlace,eo_Silent,⟨e0_NoBits,e1_NoBits,e2_NoBits,em0_NoBits,em1_NoBits⟩,⟨e0_NoHead,e1_NoHead,e2_NoHead,em0_NoHead,em1_NoHead⟩,⟨e0_Elder,e1_Elder,e2_Elder,em0_Elder,em1_Elder⟩,⟨e0_Unsealed,e1_Unsealed,e2_Unsealed,em0_Unsealed,em1_Unsealed⟩,⟨e0_NoPaper,e1_NoPaper,e2_NoPaper,em0_NoPaper,em1_NoPaper⟩,⟨e0_NoPlace,e1_NoPlace,e2_NoPlace,em0_NoPlace,em1_NoPlace⟩,⟨e0_Broken,e1_Broken,e2_Broken,em0_Broken,em1_Broken⟩,⟨e0_Parted,e1_Parted,e2_Parted,em0_Parted,em1_Parted⟩,⟨e0_Silent,e1_Silent,e2_Silent,em0_Silent,em1_Silent⟩,⟨eo2_Broken,sa_Broken,⟨e0_Broken,e1_Broken,e2_Broken,em0_Broken,em1_Broken⟩,na_Broken_came,hd_Broken⟩,⟨eo2_Broken,sa_Broken,⟨e0_Broken,e1_Broken,e2_Broken,em0_Broken,em1_Broken⟩,na_Broken_due,hd_Broken⟩,⟨eo2_Parted,sa_Parted,⟨e0_Parted,e1_Parted,e2_Parted,em0_Parted,em1_Parted⟩,na_Parted_came,hd_Parted⟩,⟨eo2_Parted,sa_Parted,⟨e0_Parted,e1_Parted,e2_Parted,em0_Parted,em1_Parted⟩,na_Parted_due,hd_Parted⟩,⟨eo2_Broken,a42,fn42,kc_Broken⟩,⟨eo2_Parted,a44,fn44,kc_Parted⟩,bV sb_NoBits_StampError,bV sb_NoBits_NoBits,bV sb_NoHead_StampError,bV sb_NoHead_NoBits,bV sb_Elder_StampError,bV sb_Elder_NoBits,bV sb_Unsealed_StampError,bV sb_Unsealed_NoBits,bV sb_NoPaper_StampError,bV sb_NoPaper_NoBits,bV sb_NoPlace_StampError,bV sb_NoPlace_NoBits,bV sb_Broken_StampError,bV sb_Broken_NoBits,bV sb_Parted_StampError,bV sb_Parted_NoBits,bV sb_Silent_StampError,bV sb_Silent_NoBits,ki_NoBits_ValueError,ki_NoBits_Silent,ki_NoBits_Parted,ki_NoBits_Broken,ki_NoBits_NoPaper,ki_NoBits_Elder,ki_NoBits_Unsealed,ki_NoBits_NoHead,ki_NoBits_StampError,ki_NoHead_ValueError,ki_NoHead_Silent,ki_NoHead_Parted,ki_NoHead_Broken,ki_NoHead_NoPaper,ki_NoHead_Elder,ki_NoHead_Unsealed,ki_NoHead_NoHead,ki_NoHead_StampError,ki_Elder_ValueError,ki_Elder_Silent,ki_Elder_Parted,ki_Elder_Broken,ki_Elder_NoPaper,ki_Elder_Elder,ki_Elder_Unsealed,ki_Elder_NoHead,ki_Elder_StampError,ki_Unsealed_ValueError,ki_Unsealed_Silent,ki_Unsealed_Parted,ki_Unsealed_Broken,ki_Unsealed_NoPaper,ki_Unsealed_Elder,ki_Unsealed_Unsealed,ki_Unsealed_NoHead,ki_Unsealed_StampError,ki_NoPaper_ValueError,ki_NoPaper_Silent,ki_NoPaper_Parted,ki_NoPaper_Broken,ki_NoPaper_NoPaper,ki_NoPaper_Elder,ki_NoPaper_Unsealed,ki_NoPaper_NoHead,ki_NoPaper_StampError,ki_NoPlace_ValueError,ki_NoPlace_Silent,ki_NoPlace_Parted,ki_NoPlace_Broken,ki_NoPlace_NoPaper,ki_NoPlace_Elder,ki_NoPlace_Unsealed,ki_NoPlace_NoHead,ki_NoPlace_StampError,ki_Broken_ValueError,ki_Broken_Silent,ki_Broken_Parted,ki_Broken_Broken,ki_Broken_NoPaper,ki_Broken_Elder,ki_Broken_Unsealed,ki_Broken_NoHead,ki_Broken_StampError,ki_Parted_ValueError,ki_Parted_Silent,ki_Parted_Parted,ki_Parted_Broken,ki_Parted_NoPaper,ki_Parted_Elder,ki_Parted_Unsealed,ki_Parted_NoHead,ki_Parted_StampError,ki_Silent_ValueError,ki_Silent_Silent,ki_Silent_Parted,ki_Silent_Broken,ki_Silent_NoPaper,ki_Silent_Elder,ki_Silent_Unsealed,ki_Silent_NoHead,ki_Silent_StampError,Nx X G bo_Numbers,⟨pg_Numbers,hd_Numbers,po_Numbers,sa_Numbers⟩,na_Numbers_given,Nx X G bo_Desk,⟨pg_Desk,hd_Desk,po_Desk,sa_Desk⟩,na_Desk_stamper,na_Desk_bits,na_Desk_asks_seal,na_Desk_held,Nx X G bo_Spoken,⟨pg_Spoken,hd_Spoken,po_Spoken,sa_Spoken⟩,na_Spoken_answerer,⟨a33,fn33,h33.kp⟩,⟨a45,fn45,h45.kp⟩,⟨a50,fn50,h50.kp⟩,⟨a49,fn49,h49.kp⟩,⟨a51,fn51,h51.kp⟩,⟨a5,fn5,h5.kp⟩,⟨mk_Numbers,a7,fn7,kc_Numbers⟩,⟨mk_Desk,a29,fn29,kc_Desk⟩,⟨mk_Spoken,a55,fn55,kc_Spoken⟩⟩ nt tb_66 tb_44 tb_36 tb_40 tb_17 tb_26 tb_11 tb_29 tb_59 tdn
def KH {l:W.OpenLaw}{q:Ms}{loose:List Str}{XP:(Str->Option tx)->Heap->Prop}{YP:MG->Heap->Prop}{d:DefRec}{K:Params->cW}(hn:l.most=some 63)(hdf:d.params.defaults=[])
  (hY:∀(w:MG)(h:Heap),YP w h->(K w.params).In h)(hq:∀y∈(["writing","counting","_law_sure","_law_weak","_law_desk","_law_line","_law_both","_law_no_bits","law"]:List Str),((QR q).find? fun e=>e.name==y).isSome=true)
  (F:∀(w:MG)(mg:Str->Option tx)(fa:Addr)(h:Heap),(K w.params).In h->h.Ns mainGlobals mg->mg d.name=some (.ref fa)->ut l.prog w (K w.params) mg fa):
  W.WalkO q loose XP YP l.row.toRowW d [] (fun f vs=>Sf f vs):=
 L2.yr (n:=63) (k:=77) (x:="_law_script") (CX:=fun w=>CX1 l.prog w) hn (by decide) hdf ⟨rfl,by decide,by decide⟩ hY hq F fun _ _ _ _ _ ⟨_,_,_,_,_,_,z⟩=>z
end
end Rs
inductive PySem.W.Fast where
|tw755511587001802728
|tw12207044069300651035
|tw3650728996232898301
|tw3830363082957116110
|tw6573497590181664976
|tw9613019382553205601
|tw8251792271507808132
|tw12219053483737098155
|tw14888049779184220261
|tw2937882216976217867
|tw9644189597887836019
|tw192674648581000191
|tw14385592698411971116
|tw7912377389830924136
|tw6467199943582625293
|tw16050927283861852941
|tw7597839889487839109
|tw17863663332863438376
|tw10804344859536140933
|tw10074325705961236129
|tw4353293757562837473
|tw14237706912354092442
|tw8328370566862470461
|tw14790658515895723108
|tw10531110798032997318
|tw14790783977942914006
|tw3856827042258103980
|tw17147405606946477541
|tw1369576004884088650
|tw7506621977858309777
|tw12520148942445938326
|tw12528446810627880382
|tw4581060120823140845
|tw6047317265576217202
|tw8759881115172436200
|tw13174668735582993710
|tw2718399549337593108
|tw9733460085504390558
|tw10089296202419933719
|tw12548261264543327668
|tw18065676009064473970
|tw9247601270982617165
|tw10939226520148525739
|tw13896109445449164266
|tw8147284696842744931
|tw8484482260813771622
|tw10495970373030624551
|tw14360308659792303236
|tw17998887506263378838
|tw8587862712357785287
|tw2765838558874275441
|tw1903183234559639273
|tw1423759567467736729
|tw13500017518920835229
|tw10155743244566682127
|tw14814584026894735215
|tw12893653113570231876
|tw10333483244485244542
|tw15369235962363576621
|tw4013309729807030135
|tw14588546776009744636
|tw16198617054236162138
|tw14946574069451557333
|tw3198861457526157061
|tw10902522200576081624
|tw3688038401846760170
|tw97654257540848250
|tw13762179471387753012
|tw14196991544828881016
|tw11598570524841583451
|tw3377699582983192577
|tw9687534011685536260
|tw11783206470940379668
|tw941303588012697085
|tw11456184233814352579
|tw11136433830490629294
|tw13756789804451198205
|tw15083086007826665796
|tw16603803550196551325
|tw4077817899256775270
|tw16457001173230028497
|tw16024379620201223214
|tw13598004851177291925
|tw7812145865509765885
|tw6844845211113841386
|tw12171328092746007288
|tw7343604530380034290
|tw4623062514911471725
|tw1993666254190115618
|tw11447354976674364816
|tw3328388813281616994
|tw9129772523087309704
|tw1494964204527872063
|tw8126492221336429763
|tw704420672352422695
|tw16095836252650260915
|tw7534150388098478189
|tw1013569304406052016
|tw1320878462296339182
|tw10209855096681168124
|tw280433909336933653
|tw16858487046033149580
|tw8802713096671373974
|tw17371516642559520699
|tw734810912318810327
|tw12236124185902849800
|tw4126548440465843135
|tw114583907194885485
|tw1317975312766383308
|tw4356484734801649923
|tw1254629000990950961
|tw4318215328832701106
|tw1564248496984233446
|tw17160485563475043465
|tw3783213251505827041
|tw12458290121324780115
|tw5477833542705288774
|tw18242818094039165011
|tw2825147815697789377
|tw13903296211948244884
|tw15429945234568001065
|tw11344471877182789361
|tw12069029800781175342
|tw2208772124280029856
|tw17298000827005875698
|tw1503205879042493293
|tw9852511618148706545
|tw14927145498461151386
|tw2971993596330833195
|tw571882130979779844
|tw204193639917323512
|tw4734304046321493500
|tw12454321543172914464
|tw5721599052549826446
|tw7786055367788962944
|tw1096899212189181843
|tw5946910756535487589
|tw16225975168695478060
|tw731982896886305461
|tw6482187589412344862
|tw16763090595294123271
|tw7255390757975234405
|tw82683862122196133
|tw387135265979716626
|tw12997088239346142250
|tw33011520666847784
|tw15329265888228480388
|tw2117871363399748595
|tw2392990126527589531
|tw2363000211411357312
|tw15620295509529490411
|tw15102342943832069093
|tw5159996514624064675
|tw3018126215501343285
|tw3677457575635051419
|tw1839702838858250243
|tw16536957785713590516
|tw12882089452065588090
|tw13776285783646762888
|tw7029092956177114429
|tw13529037574428973357
|tw14909731732548596159
|tw14393928493140513109
|tw2029487097321475309
|tw7508831071408102559
|tw6314928250890014839
|tw9064943122125416295
|tw14252199118083466003
|tw12654278813736117401
|tw8125566664525107600
|tw1201989688144282870
|tw1621927382089367273
|tw14390457539087354327
|tw9333366791828566541
|tw11912651284802978603
|tw11735604302332233519
|tw10220113500923378397
|tw12562814327243380809
|tw8689227888227022949
|tw11657693106944631406
|tw960480994016964063
|tw13241958527526093327
|tw16058142129853943924
|tw18270764889681865423
|tw2047366535173415366
|tw6684075339765946978
|tw6515386030245143217
|tw17845153019693537400
|tw13304392503617258989
|tw4096510607537569258
|tw8009635971319405350
|tw6516190676145834296
|tw15414877739430957515
|tw5927973005595421275
|tw2748656242563696639
|tw17423898062921022152
|tw15748576690934974696
|tw17912978287784951448
|tw629997344779294576
|tw3528980992467721198
|tw13293541427335258962
|tw10504740716053998410
|tw5730784549652335015
|tw16191973163515361505
|tw8125617529022639064
|tw2132120268901016794
|tw14000423531633982442
|tw12181249749055456723
|tw17888205087336686318
|tw18424317282004005109
|tw14125169444686539385
|tw5345376418714826572
|tw15139537334038174961
|tw3479758917715284652
|tw10447915612814498817
|tw3589062126675973407
|tw16373526685873998626
|tw11897611538651672018
|tw12173640316350975506
|tw17212940703245444379
|tw4695266885549181
|tw2234364994599105100
|tw12708365936301009352
|tw17113229908576170714
|tw1545251113811768145
|tw2334410024367294941
|tw14376172815822532013
|tw11262357249495595318
|tw5612503718823677222
|tw5192950206365513973
|tw15822484255641755946
|tw7403421611979680699
|tw1242894436837477721
|tw9760911003995691009
|tw1425156493497275616
|tw1489135667337137507
|tw1913620793202100897
|tw1667127745228522763
|tw11635631668705477084
|tw7771646272969098231
|tw16164389526717798117
|tw10881445416549929592
|tw13643135331431083486
|tw12790487498647343475
|tw13424754913779235354
|tw17447131834991093848
|tw9182412189561514152
|tw10746906090940864246
|tw2001063264601707203
|tw18233475956375028896
|tw358810304509383146
|tw1855755537319457286
|tw8639148454901975372
|tw17317654152274920885
|tw3694378014078599908
|tw12129155523022900914
|tw4761624782705590044
|tw12614869263656537671
|tw10860113040512133654
|tw3907226421143863826
|tw13637513203890155395
|tw12519788615159018366
|tw10608116282501599405
|tw15454894181075750681
|tw12611023197408102220
|tw14394798210280724933
|tw16368166588701020262
|tw2385055433835095052
|tw4545549454145437291
|tw6081982259892326052
|tw13850000639847724092
|tw17607279391901733788
|tw1277226907683428161
|tw5081032901441281857
|tw13600545051680756786
|tw1866777587344514298
|tw1789533707660854571
|tw16728791036631842505
|tw15293308877200665018
|tw16961749543810188692
|tw11780304188775600300
|tw14279356635068583676
|tw2206469781162550333
|tw4188944762311712658
|tw5358082463961076342
|tw8777445943371268143
|tw14504980475353642103
|tw7674973969937657624
|tw2455817890382215490
|tw6317485374676889331
|tw11545020538674551962
|tw7496933512462017716
|tw4587835363956787813
|tw18368986759373475996
|tw8417774427075384707
|tw18003375414277237520
|tw6522428811083534139
|tw10342638773954115841
|tw3091182091668874482
|tw18365950325879045151
|tw13504033185921833658
|tw3722701265214796149
|tw7668031071604386177
|tw1568160808406781254
|tw11173882487948302326
|tw11870681524247271066
|tw883238202039513545
|tw1651987111035461734
|tw14904290151257622176
|tw4069187815619790579
|tw8894379298357669184
|tw17849807200245253837
|tw14183085061892098488
|tw14947731079790955166
|tw12284572873057480745
|tw25845280653329537
|tw2687522423465552565
|tw7231204903188616997
|tw14597229745605286413
|tw292619404232207960
|tw2451445978985537773
|tw6863643753878435824
|tw12474089671681405838
|tw13861976001182158206
|tw9763908880448774650
|tw13139078784577961274
|tw11184159685637798272
|tw16978976882207006180
|tw4598563359862989204
|tw10348743303940718581
|tw1241920545819488463
|tw1773568826297251045
|tw14627282513119728400
|tw5064746312072302617
|tw6712613320891806284
|tw8464007945861461798
|tw8387169448574418772
|tw15254148842919658308
|tw2113093620742871104
|tw1030170791997145014
|tw11786140427817668171
|tw1477347981968357775
|tw7410134865322904579
|tw4989398308500703330
|tw7478125126681793221
|tw513838161891854686
|tw4518082378027163712
|tw423996351269923019
|tw13910406110347962223
|tw12165749361185290249
|tw721708330422418938
|tw17845132805903585032
|tw14540645158475954042
|tw5511799415522912660
|tw15324477463954026850
|tw13860529627095199857
|tw12702924985512215757
|tw15575801982635036556
|tw12950328496963210057
|tw12744846856256483265
|tw7651779929401479065
|tw2382173500685604259
|tw15964815913097548764
|tw16178811417701739388
|tw1092166364557774692
|tw5050014976904428365
|tw17524221600481360257
|tw6183298544040635640
|tw7742159548309887607
|tw13236165073210403823
|tw10097690209613772216
|tw4829574170025922408
|tw7718307232928212286
|tw109951385835310729
|tw7017837025120381055
|tw13886702367374088429
|tw7810169268614026054
|tw15998832722233011280
|tw8456131801120496665
|tw4789034080489842060
|tw9961415638568857725
|tw8365944377416812557
|tw1045090939555163616
|tw10964302190130717644
|tw3579267508743793715
|tw9046841838234177525
|tw1746275025326893995
|tw10857565268392806878
|tw15910758605295195784
|tw10687046152699002259
|tw14957992064710570132
|tw10177779171548373979
|tw8551048307063763856
|tw16740951023562794314
|tw14599319620088662043
|tw9022908427336435035
|tw15130610475477727065
|tw17546074125326540735
|tw15818608682919208742
|tw16402610531062808795
|tw16529356658710825772
|tw9371326968886555743
|tw16582485749712955666
|tw14238499882751129365
|tw9822423154909274844
|tw5165668013246356993
|tw17529110143256041180
|tw1886839362332524931
|tw11670585180275823161
|tw11668451513018439923
|tw13462526298726499134
|tw14300962979513000284
|tw2329346545936126984
|tw4868875090665258391
|tw412430350685887375
|tw4628424995226159884
|tw14726923713647219044
|tw1732610993387925254
|tw6834478515341697660
|tw14655914761726261333
|tw12919067266061968962
|tw6690965284380558843
|tw9677444668652358000
|tw4879466662120040189
|tw6682298229186807506
|tw10355734492876438740
|tw13071276537349229887
|tw7154080863147524218
|tw11944180675337838794
|tw16897933099942802626
|tw12137781305750277214
|tw53412183973588038
|tw9330983677616241629
|tw7320118237172165532
|tw8051388525086887213
|tw18307762433310669778
|tw3523593194341105549
|tw11863458398552746595
|tw13128371469205587613
|tw1818291257174525348
|tw8203623610236166911
|tw10767331989294663777
|tw14261757576947519711
|tw10682327953257920577
|tw14125342770422465657
|tw14969430871549813546
|tw10710998060405345899
|tw364028214818305526
|tw8659309818037148223
|tw18286932242645842586
|tw610017869968451884
|tw7053212023271014124
|tw3047268765999159627
|tw15932147967084850554
|tw10746566286072784285
|tw104197549256123887
|tw15496724313134928040
|tw7218261325744942020
|tw7148612959394414999
|tw14433820093348326385
|tw273359850483481655
|tw7563323788638566998
|tw9376485290215976134
|tw795706412121367620
|tw17507743907503480406
|tw1732044910631900170
open PySem PySem.W PyProof.Rows
set_option maxRecDepth 100000 in
set_option maxHeartbeats 0 in
theorem PySem.Challenge.cw_rootstamp_k61_what_a_desk_hears_holds : PySem.Challenge.rw_rootstamp_k61_what_a_desk_hears.Holds := by
 w_on; o_law; k_head; (case hw => w_witness2)
 k_fill
 refine Rs.KH (l := PySem.Challenge.rw_rootstamp_k61_what_a_desk_hears) rfl rfl (fun w h Y => by first | exact PySem.W.kIn_of Y | exact PySem.W.km_in_of Y) (by decide +kernel) ?F
 case F =>
  intro w mg fa h KX G hmg
  refine' Rs.Co KX G hmg ?bo_Numbers ?bo_Desk ?bo_Spoken ?bc_NoBits ?bc_NoHead ?bc_Elder ?bc_Unsealed ?bc_NoPaper ?bc_NoPlace ?bc_Broken ?bc_Parted ?bc_Silent ?bc_StampError (L2.bq ?a0 ?l0 ?c0 ?k0) (L2.bq ?a1 ?l1 ?c1 ?k1) (L2.bq ?a2 ?l2 ?c2 ?k2) (L2.bq ?a3 ?l3 ?c3 ?k3) (L2.bq ?a4 ?l4 ?c4 ?k4) ?a5 (L2.eS ?l5 ?c5 ?k5) ?fn5 (L2.bq ?a6 ?l6 ?c6 ?k6) ?tb_66 ?a7 (L2.eS ?l7 ?c7 ?k7) ?fn7 (L2.bq ?a8 ?l8 ?c8 ?k8) ?tb_44 (L2.bq ?a9 ?l9 ?c9 ?k9) ?tb_36 (L2.bq ?a10 ?l10 ?c10 ?k10) ?tb_40 (L2.bq ?a11 ?l11 ?c11 ?k11) (L2.bq ?a12 ?l12 ?c12 ?k12) (L2.bq ?a13 ?l13 ?c13 ?k13) (L2.bq ?a14 ?l14 ?c14 ?k14) (L2.bq ?a15 ?l15 ?c15 ?k15) (L2.bq ?a16 ?l16 ?c16 ?k16) (L2.bq ?a17 ?l17 ?c17 ?k17) (L2.bq ?a18 ?l18 ?c18 ?k18) (L2.bq ?a19 ?l19 ?c19 ?k19) (L2.bq ?a20 ?l20 ?c20 ?k20) (L2.bq ?a21 ?l21 ?c21 ?k21) (L2.bq ?a22 ?l22 ?c22 ?k22) (L2.bq ?a23 ?l23 ?c23 ?k23) (L2.bq ?a24 ?l24 ?c24 ?k24) (L2.bq ?a25 ?l25 ?c25 ?k25) (L2.bq ?a26 ?l26 ?c26 ?k26) (L2.bq ?a27 ?l27 ?c27 ?k27) (L2.bq ?a28 ?l28 ?c28 ?k28) ?a29 (L2.eS ?l29 ?c29 ?k29) ?fn29 (L2.bq ?a30 ?l30 ?c30 ?k30) (L2.bq ?a31 ?l31 ?c31 ?k31) (L2.bq ?a32 ?l32 ?c32 ?k32) ?a33 (L2.eS ?l33 ?c33 ?k33) ?fn33 (L2.bq ?a34 ?l34 ?c34 ?k34) (L2.bq ?a35 ?l35 ?c35 ?k35) (L2.bq ?a36 ?l36 ?c36 ?k36) (L2.bq ?a37 ?l37 ?c37 ?k37) (L2.bq ?a38 ?l38 ?c38 ?k38) (L2.bq ?a39 ?l39 ?c39 ?k39) (L2.bq ?a40 ?l40 ?c40 ?k40) (L2.bq ?a41 ?l41 ?c41 ?k41) ?a42 (L2.eS ?l42 ?c42 ?k42) ?fn42 (L2.bq ?a43 ?l43 ?c43 ?k43) ?a44 (L2.eS ?l44 ?c44 ?k44) ?fn44 ?a45 (L2.eS ?l45 ?c45 ?k45) ?fn45 (L2.bq ?a46 ?l46 ?c46 ?k46) ?tb_17 (L2.bq ?a47 ?l47 ?c47 ?k47) (L2.bq ?a48 ?l48 ?c48 ?k48) ?a49 (L2.eS ?l49 ?c49 ?k49) ?fn49 ?a50 (L2.eS ?l50 ?c50 ?k50) ?fn50 ?a51 (L2.eS ?l51 ?c51 ?k51) ?fn51 (L2.bq ?a52 ?l52 ?c52 ?k52) (L2.bq ?a53 ?l53 ?c53 ?k53) (L2.bq ?a54 ?l54 ?c54 ?k54) ?a55 (L2.eS ?l55 ?c55 ?k55) ?fn55 (L2.bq ?a56 ?l56 ?c56 ?k56) ?tb_26 (L2.bq ?a57 ?l57 ?c57 ?k57) ?tb_11 (L2.bq ?a58 ?l58 ?c58 ?k58) ?tb_29 (L2.bq ?a59 ?l59 ?c59 ?k59) ?tb_59 ?pg_Numbers ?hd_Numbers ?po_Numbers ?sa_Numbers ?na_Numbers_given ?pg_Desk ?hd_Desk ?po_Desk ?sa_Desk ?na_Desk_stamper ?na_Desk_bits ?na_Desk_asks_seal ?na_Desk_held ?pg_Spoken ?hd_Spoken ?po_Spoken ?sa_Spoken ?na_Spoken_answerer ?mk_Numbers ?kc_Numbers ?mk_Desk ?kc_Desk ?mk_Spoken ?kc_Spoken ?eo_NoBits ?eo_NoHead ?eo_Elder ?eo_Unsealed ?eo_NoPaper ?eo_NoPlace ?eo2_Broken ?eo2_Parted ?eo_Silent ?eo_StampError ?sa_Broken ?hd_Broken ?sa_Parted ?hd_Parted ?na_Broken_came ?na_Broken_due ?na_Parted_came ?na_Parted_due ?kc_Broken ?kc_Parted ?e0_NoBits ?e1_NoBits ?e2_NoBits ?em0_NoBits ?em1_NoBits ?e0_NoHead ?e1_NoHead ?e2_NoHead ?em0_NoHead ?em1_NoHead ?e0_Elder ?e1_Elder ?e2_Elder ?em0_Elder ?em1_Elder ?e0_Unsealed ?e1_Unsealed ?e2_Unsealed ?em0_Unsealed ?em1_Unsealed ?e0_NoPaper ?e1_NoPaper ?e2_NoPaper ?em0_NoPaper ?em1_NoPaper ?e0_NoPlace ?e1_NoPlace ?e2_NoPlace ?em0_NoPlace ?em1_NoPlace ?e0_Broken ?e1_Broken ?e2_Broken ?em0_Broken ?em1_Broken ?e0_Parted ?e1_Parted ?e2_Parted ?em0_Parted ?em1_Parted ?e0_Silent ?e1_Silent ?e2_Silent ?em0_Silent ?em1_Silent ?sb_NoBits_StampError ?sb_NoBits_NoBits ?sb_NoHead_StampError ?sb_NoHead_NoBits ?sb_Elder_StampError ?sb_Elder_NoBits ?sb_Unsealed_StampError ?sb_Unsealed_NoBits ?sb_NoPaper_StampError ?sb_NoPaper_NoBits ?sb_NoPlace_StampError ?sb_NoPlace_NoBits ?sb_Broken_StampError ?sb_Broken_NoBits ?sb_Parted_StampError ?sb_Parted_NoBits ?sb_Silent_StampError ?sb_Silent_NoBits ?ki_NoBits_ValueError ?ki_NoBits_Silent ?ki_NoBits_Parted ?ki_NoBits_Broken ?ki_NoBits_NoPaper ?ki_NoBits_Elder ?ki_NoBits_Unsealed ?ki_NoBits_NoHead ?ki_NoBits_StampError ?ki_NoHead_ValueError ?ki_NoHead_Silent ?ki_NoHead_Parted ?ki_NoHead_Broken ?ki_NoHead_NoPaper ?ki_NoHead_Elder ?ki_NoHead_Unsealed ?ki_NoHead_NoHead ?ki_NoHead_StampError ?ki_Elder_ValueError ?ki_Elder_Silent ?ki_Elder_Parted ?ki_Elder_Broken ?ki_Elder_NoPaper ?ki_Elder_Elder ?ki_Elder_Unsealed ?ki_Elder_NoHead ?ki_Elder_StampError ?ki_Unsealed_ValueError ?ki_Unsealed_Silent ?ki_Unsealed_Parted ?ki_Unsealed_Broken ?ki_Unsealed_NoPaper ?ki_Unsealed_Elder ?ki_Unsealed_Unsealed ?ki_Unsealed_NoHead ?ki_Unsealed_StampError ?ki_NoPaper_ValueError ?ki_NoPaper_Silent ?ki_NoPaper_Parted ?ki_NoPaper_Broken ?ki_NoPaper_NoPaper ?ki_NoPaper_Elder ?ki_NoPaper_Unsealed ?ki_NoPaper_NoHead ?ki_NoPaper_StampError ?ki_NoPlace_ValueError ?ki_NoPlace_Silent ?ki_NoPlace_Parted ?ki_NoPlace_Broken ?ki_NoPlace_NoPaper ?ki_NoPlace_Elder ?ki_NoPlace_Unsealed ?ki_NoPlace_NoHead ?ki_NoPlace_StampError ?ki_Broken_ValueError ?ki_Broken_Silent ?ki_Broken_Parted ?ki_Broken_Broken ?ki_Broken_NoPaper ?ki_Broken_Elder ?ki_Broken_Unsealed ?ki_Broken_NoHead ?ki_Broken_StampError ?ki_Parted_ValueError ?ki_Parted_Silent ?ki_Parted_Parted ?ki_Parted_Broken ?ki_Parted_NoPaper ?ki_Parted_Elder ?ki_Parted_Unsealed ?ki_Parted_NoHead ?ki_Parted_StampError ?ki_Silent_ValueError ?ki_Silent_Silent ?ki_Silent_Parted ?ki_Silent_Broken ?ki_Silent_NoPaper ?ki_Silent_Elder ?ki_Silent_Unsealed ?ki_Silent_NoHead ?ki_Silent_StampError ?z_ValueError ?z_all ?z_bool ?z_int ?z_isinstance ?z_len ?z_list ?z_max ?z_min ?z_range ?z_reversed ?z_str ?z_tuple ?c_MOST_BITS ?c_MOST_PARTS ?nt ?td
  case bo_Numbers | bo_Desk | bo_Spoken | bc_NoBits | bc_NoHead | bc_Elder | bc_Unsealed | bc_NoPaper | bc_NoPlace | bc_Broken | bc_Parted | bc_Silent | bc_StampError | a0 | l0 | c0 | k0 | a1 | l1 | c1 | k1 | a2 | l2 | c2 | k2 | a3 | l3 | c3 | k3 | a4 | l4 | c4 | k4 | a5 | l5 | c5 | k5 | fn5 | a6 | l6 | c6 | k6 => k_is
  case tb_66 => kernel_rfl
  case a7 | l7 | c7 | k7 | fn7 | a8 | l8 | c8 | k8 => k_is
  case tb_44 => kernel_rfl
  case a9 | l9 | c9 | k9 => k_is
  case tb_36 => kernel_rfl
  case a10 | l10 | c10 | k10 => k_is
  case tb_40 => kernel_rfl
  case a11 | l11 | c11 | k11 | a12 | l12 | c12 | k12 | a13 | l13 | c13 | k13 | a14 | l14 | c14 | k14 | a15 | l15 | c15 | k15 | a16 | l16 | c16 | k16 | a17 | l17 | c17 | k17 | a18 | l18 | c18 | k18 | a19 | l19 | c19 | k19 | a20 | l20 | c20 | k20 | a21 | l21 | c21 | k21 | a22 | l22 | c22 | k22 | a23 | l23 | c23 | k23 | a24 | l24 | c24 | k24 | a25 | l25 | c25 | k25 | a26 | l26 | c26 | k26 | a27 | l27 | c27 | k27 | a28 | l28 | c28 | k28 | a29 | l29 | c29 | k29 | fn29 | a30 | l30 | c30 | k30 | a31 | l31 | c31 | k31 | a32 | l32 | c32 | k32 | a33 | l33 | c33 | k33 | fn33 | a34 | l34 | c34 | k34 | a35 | l35 | c35 | k35 | a36 | l36 | c36 | k36 | a37 | l37 | c37 | k37 | a38 | l38 | c38 | k38 | a39 | l39 | c39 | k39 | a40 | l40 | c40 | k40 | a41 | l41 | c41 | k41 | a42 | l42 | c42 | k42 | fn42 | a43 | l43 | c43 | k43 | a44 | l44 | c44 | k44 | fn44 | a45 | l45 | c45 | k45 | fn45 | a46 | l46 | c46 | k46 => k_is
  case tb_17 => kernel_rfl
  case a47 | l47 | c47 | k47 | a48 | l48 | c48 | k48 | a49 | l49 | c49 | k49 | fn49 | a50 | l50 | c50 | k50 | fn50 | a51 | l51 | c51 | k51 | fn51 | a52 | l52 | c52 | k52 | a53 | l53 | c53 | k53 | a54 | l54 | c54 | k54 | a55 | l55 | c55 | k55 | fn55 | a56 | l56 | c56 | k56 => k_is
  case tb_26 => kernel_rfl
  case a57 | l57 | c57 | k57 => k_is
  case tb_11 => kernel_rfl
  case a58 | l58 | c58 | k58 => k_is
  case tb_29 => kernel_rfl
  case a59 | l59 | c59 | k59 => k_is
  case tb_59 => kernel_rfl
  case pg_Numbers | hd_Numbers | po_Numbers | sa_Numbers | na_Numbers_given | pg_Desk | hd_Desk | po_Desk | sa_Desk | na_Desk_stamper | na_Desk_bits | na_Desk_asks_seal | na_Desk_held | pg_Spoken | hd_Spoken | po_Spoken | sa_Spoken | na_Spoken_answerer | mk_Numbers | kc_Numbers | mk_Desk | kc_Desk | mk_Spoken | kc_Spoken => k_is
  case eo_NoBits | eo_NoHead | eo_Elder | eo_Unsealed | eo_NoPaper | eo_NoPlace => k_exc
  case eo2_Broken | eo2_Parted => kernel_rfl
  case eo_Silent | eo_StampError => k_exc
  case sa_Broken | hd_Broken | sa_Parted | hd_Parted | na_Broken_came | na_Broken_due | na_Parted_came | na_Parted_due | kc_Broken | kc_Parted | e0_NoBits | e1_NoBits | e2_NoBits | em0_NoBits | em1_NoBits | e0_NoHead | e1_NoHead | e2_NoHead | em0_NoHead | em1_NoHead | e0_Elder | e1_Elder | e2_Elder | em0_Elder | em1_Elder | e0_Unsealed | e1_Unsealed | e2_Unsealed | em0_Unsealed | em1_Unsealed | e0_NoPaper | e1_NoPaper | e2_NoPaper | em0_NoPaper | em1_NoPaper | e0_NoPlace | e1_NoPlace | e2_NoPlace | em0_NoPlace | em1_NoPlace | e0_Broken | e1_Broken | e2_Broken | em0_Broken | em1_Broken | e0_Parted | e1_Parted | e2_Parted | em0_Parted | em1_Parted | e0_Silent | e1_Silent | e2_Silent | em0_Silent | em1_Silent | sb_NoBits_StampError | sb_NoBits_NoBits | sb_NoHead_StampError | sb_NoHead_NoBits | sb_Elder_StampError | sb_Elder_NoBits | sb_Unsealed_StampError | sb_Unsealed_NoBits | sb_NoPaper_StampError | sb_NoPaper_NoBits | sb_NoPlace_StampError | sb_NoPlace_NoBits | sb_Broken_StampError | sb_Broken_NoBits | sb_Parted_StampError | sb_Parted_NoBits | sb_Silent_StampError | sb_Silent_NoBits => k_is
  case ki_NoBits_ValueError | ki_NoBits_Silent | ki_NoBits_Parted | ki_NoBits_Broken | ki_NoBits_NoPaper | ki_NoBits_Elder | ki_NoBits_Unsealed | ki_NoBits_NoHead | ki_NoBits_StampError | ki_NoHead_ValueError | ki_NoHead_Silent | ki_NoHead_Parted | ki_NoHead_Broken | ki_NoHead_NoPaper | ki_NoHead_Elder | ki_NoHead_Unsealed | ki_NoHead_NoHead | ki_NoHead_StampError | ki_Elder_ValueError | ki_Elder_Silent | ki_Elder_Parted | ki_Elder_Broken | ki_Elder_NoPaper | ki_Elder_Elder | ki_Elder_Unsealed | ki_Elder_NoHead | ki_Elder_StampError | ki_Unsealed_ValueError | ki_Unsealed_Silent | ki_Unsealed_Parted | ki_Unsealed_Broken | ki_Unsealed_NoPaper | ki_Unsealed_Elder | ki_Unsealed_Unsealed | ki_Unsealed_NoHead | ki_Unsealed_StampError | ki_NoPaper_ValueError | ki_NoPaper_Silent | ki_NoPaper_Parted | ki_NoPaper_Broken | ki_NoPaper_NoPaper | ki_NoPaper_Elder | ki_NoPaper_Unsealed | ki_NoPaper_NoHead | ki_NoPaper_StampError | ki_NoPlace_ValueError | ki_NoPlace_Silent | ki_NoPlace_Parted | ki_NoPlace_Broken | ki_NoPlace_NoPaper | ki_NoPlace_Elder | ki_NoPlace_Unsealed | ki_NoPlace_NoHead | ki_NoPlace_StampError | ki_Broken_ValueError | ki_Broken_Silent | ki_Broken_Parted | ki_Broken_Broken | ki_Broken_NoPaper | ki_Broken_Elder | ki_Broken_Unsealed | ki_Broken_NoHead | ki_Broken_StampError | ki_Parted_ValueError | ki_Parted_Silent | ki_Parted_Parted | ki_Parted_Broken | ki_Parted_NoPaper | ki_Parted_Elder | ki_Parted_Unsealed | ki_Parted_NoHead | ki_Parted_StampError | ki_Silent_ValueError | ki_Silent_Silent | ki_Silent_Parted | ki_Silent_Broken | ki_Silent_NoPaper | ki_Silent_Elder | ki_Silent_Unsealed | ki_Silent_NoHead | ki_Silent_StampError => kit_is
  case z_ValueError | z_all | z_bool | z_int | z_isinstance | z_len | z_list | z_max | z_min | z_range | z_reversed | z_str | z_tuple | c_MOST_BITS | c_MOST_PARTS => k_is
  case nt | td => kernel_rfl
