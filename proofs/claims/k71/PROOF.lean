import PyProof.Rows.All
import Wide.All
import OpenK.AllK
import Wide.FinOn
import Lean
import PyProof.EqAt
import PyProof.EqKinds
import PyProof.TupleCall
import PyProof.P3In
import KE.KDictLaws
import KE.KTabLook
import KE.KRevIter
import KE.KItemsList
import PyProof.TupleOfGen
import KE.KSortTup
import KE.KDictSum
import KE.KEqDict
import PyProof.EnumMake
import PyProof.EnumFor
import PyProof.EnumStmt
import PyProof.AttrMissHeap
import KE.KDictOf
import PyProof.Rows.SortShell
import KE.KDictList
import PyProof.Rows.StrJoinRep
import PyProof.NeKinds
import KE.KUnpack
import PySem.Challenge.RW_rootstamp_k71_ways_of_a_crook
set_option genSizeOf false
set_option compiler.extract_closed false
set_option Elab.async false
set_option linter.all false
set_option maxRecDepth 100000
set_option maxHeartbeats 4000000
open Array renaming getElem?_eq_getElem->SW,length_toList->SZ,getElem?_eq_some_iff->TK,getElem?_toList->Uo,getElem?_setIfInBounds_ne->UV,getElem?_eq_none->VW,toArray_toList->Wo,toList->XM
open Bool renaming and_eq_true_iff->Gt,false_ne_true->Rg,and_eq_true->Rt,eq_iff_iff->TD,false_eq_true->UR,false_and->VF,false_or->VV,true_and->XI,and_true->XJ,true_or->Yt
open Classical renaming byContradiction->RL
open False renaming elim->Rw
open ForInStep renaming yield->Wz
open Int renaming emod_lt_of_pos->RY,eq_ofNat_of_zero_le->Sf,emod_nonneg->Sh,toNat_natCast->Tq,ofNat_sub->TC,natCast_add->TJ,toNat_of_nonneg->UO,one_mul->Vw,fdiv_eq_ediv_of_nonneg->VE
open LawfulBEq renaming eq_of_beq->Xl
open LawfulMonad renaming pure_bind->We
open List renaming length_map->QC,mem_cons->QG,size_toArray->QJ,mem_cons_of_mem->QN,length_append->QP,getElem?_eq_getElem->QQ,mem_singleton->QR,getElem?_eq_some_iff->QY,mem_cons_self->Rb,not_mem_nil->Rc,map_append->Rm,getElem?_map->Ro,mem_of_getElem?->Rp,getD_eq_getElem?_getD->Rr,mem_append_right->Ru,mem_append->Rv,nodup_cons->RA,map_cons->RD,length_cons->RE,mem_map->RJ,filterMap_cons->RN,append_nil->RO,all_eq_true->So,lookup->Sv,mem_append_left->Sy,lookup_cons->SD,length_take->SE,find?_cons->SM,getElem?_append_right->SR,getElem?_append_left->SX,zip->SY,map_map->Td,of_mem_zip->Tg,reverse_cons->Tn,append_assoc->To,getElem?_eq_none->Ts,getLast?_eq_some_iff->TX,getLast?_eq_none_iff->TY,mem_iff_getElem?->Uq,length_replicate->Ur,nodup_nil->UC,mem_range->UD,map_congr_left->UI,length_reverse->UJ,any_cons->UQ,range->UW,length_drop->Ve,getElem_mem->Vf,filter_cons->Vg,replicate->VC,drop_zero->VD,getElem?_take_of_lt->VM,sum_cons->VR,pairwise_singleton->VS,getLast?_cons_cons->VT,getElem?_replicate->VU,getElem?_set_self->Wd,map_nil->Wj,lookup_cons_self->Wk,length_filter_le->Wl,getElem?_reverse->Wm,dropLast_eq_take->Wn,mem_iff_getElem->Wx,getElem?_set_ne->Wy,pairwise_cons->WP,mem_filterMap->WQ,take_sublist->WT,take_add_one->WU,map_dropLast->WV,find?_append->WW,ext_getElem?->WX,take_length->Xi,mem_reverse->Xj,getElem_inj->Xk,mem_filter->Xr,forIn_cons->Xs
open List.Pairwise renaming of_map->Yr,nil->Ys
open List.cons renaming inj->Ri
open Nat renaming le_refl->gV,zero_le->QK,lt_of_lt_of_le->Ra,ne_of_lt->Rf,le_trans->Rl,shiftRight_eq_div_pow->RV,lt_of_le_of_lt->RX,pow_le_pow_right->Sd,lt_irrefl->Ss,two_pow_pos->Th,div_div_eq_div_mul->Tl,div_eq_of_lt->Tw,le_of_lt->TV,pow_add->Ui,log2_self_le->Uj,pow_succ->Uv,le_of_eq->Uw,div_lt_iff_lt_mul->Ux,le_succ->UN,sub_zero->Vd,min_le_right->Vk,lt_succ_self->Vl,log2->Vp,div_add_mod->Vv,shiftRight_xor_distrib->VA,mod_two_eq_zero_or_one->VB,pow_lt_pow_iff_right->VQ,lt_or_ge->Ww,lt_succ_of_lt->Xh,xor_div_two->XB,min_le_left->XC
open Ne renaming symm->QU
open Option renaming isSome_iff_exists->RH,map_some->Tx,isSome_map->UP,getD_some->WN,getD_none->WO,map->Yq
open Option.some renaming inj->QZ
open Or renaming inr->Xg
open Prod renaming ext->XH
open PyProof.Rows renaming slot_tuple_getitem->RI,boot_isinstance->RK,callWith_type1->RW,boot_tuple->Um,AllBare->Uu,recsOf->Vo,IsTup->VL,IntsAre->Wc,subscriptTail_builtinR->WS,entry_tuple_getitem->XA,args_tuple_getitem->XG
open PyProof.Rows.IsTup renaming new->Wb
open PySem renaming wpAny_bind->pv,Value->tx,Shared->If,FuncData->QD,wpAny_pure->QL,Program->Rh,wpAny_mono->Rq,boot_len->RB,Around->RC,World->RF,wpAny_newObj_type->RM,wpAny_Call_Name_kw->RP,mem_of_lookup->RU,builtinLookup_eq_fast->RZ,wpAny_field->Se,wpAny_truthy_bool->Si,sizeLine_eq->Sm,wpAny_call_entry->Sw,wpAny_of_eq->SA,NameKind->SC,wpAny_holding->SH,wpAny_callSpecial?_slot->SI,isSubtype_type->SK,wpAny_passesOwn->SS,typeLookup_type->SU,codeAny_mono->SV,wpAny_specialOf->Tp,wpAny_execs_nil->TZ,Builtin->Ub,tupleKind_room_in1->Ue,wpAny_standAt->Us,ExceptHandler->Ut,wpAny_execs_cons->Uy,wpAny_typeOf->UK,wpAny_loadPart'->UL,wpAny_setField_rec->Vh,wpAny_attempt->Vi,plainId_quiet->Vj,wpAny_assign_Name->Vr,PlainAttrs->Vt,IsPart->Vx,wpAny_isInstance->VG,noFill_tuple_add->VH,codeAny_builtin->VX,Within->VY,wpAny_newFunctionEnv_cells->Wf,wpAny_comprehension_free->WA,wpAny_call->WB,call_meets->WC,signature?_of->WG,seq_tuple_add->WH,call->WI,BindsTo->WM,seqIndex_neg->WY,concat_meets->WZ,codeAny_call_function->Xa,PyData->Xc,PassesOwn->Xd,CmpOp->Xf,wpAny_newFunctionEnv->Xm,wpAny_mkInt->Xt,wpAny_isSubtype_exc->Xu,seqIndex_of->Xv,IntMulOk->XD,GenState->XF,wpAny_sequenceKey->XN,wpAny_rule->XO,wpAny_pyIter_slot->XQ,wpAny_pyIter_list->XR,wpAny_loadPart_at->XS,wpAny_load->XT,wpAny_Return_some->XU,wpAny_Name->XW,typeIs_str->XX
open PySem.Around renaming under_plainId->Up,under->VP,frames_deeper->Wa
open PySem.Builtin renaming bitNot->Rz,bitAnd->Sn,bitXor->SQ
open PySem.Builtin.Int renaming intBits->RG
open PySem.Builtin.List renaming listExtendWith->UH,listSameRef->UU
open PySem.Builtin.Range renaming rangeSize->Yp
open PySem.Builtin.Slice renaming slicePlaces->SJ,sliceAdjust->Tu,sliceApplied->UG,slicePartIndex->Yn,sliceFields->Yo
open PySem.Builtin.Str renaming occurrences->Vc
open PySem.Builtin.Tuple renaming tupleExact->RT,tupleItemsOf->UF,tupleIsExact->Ym
open PySem.Calls renaming Name_function_global->TF,call_function_entry->Vu,loadGlobal_global->VJ,callWith_builtin->VO,spliced_cons->WE,spliced_nil->WL
open PySem.Code renaming isFrame->Wi
open PySem.EntryCells renaming newEntry->Vz
open PySem.EqMixed renaming ne_str_int->Ye,ne_str_bool->Yf,ne_int_str->Yg,ne_bool_str->Yh,eq_str_int->Yi,eq_str_bool->Yj,eq_int_str->Yk,eq_bool_str->Yl
open PySem.F renaming slot_list_append->Rj,plainAttrs_list->Rk,type_list_append->Rn,args_tuple_add_2->TQ,entry_tuple_add->Ua,slot_tuple_add->Ud,excBase_ValueError->UM,type_int_bit_length->Va,slot_int_bit_length->Vb,slot_str_ascii_iterator_iter->Vn,plainAttrs_int->Vy,slot_dict_pop->VI,args_object_init_2->VN,called_tuple->VZ,slot_list_pop->WK,slot_tuple_eq_refl->WR,plain_extend_loop->Xe,plain_tuple_new->Xy,plain_list_iadd->Xz,slot_dict_len->Yd
open PySem.Heap renaming get?_push_of_some->Lt,lt_size->QV,get?_push_size->QX,get?_update_other->RS,get?_update_self->SL,SameBut->Tr,size_push->UB,ExtBut->WD
open PySem.Heap.IsSliceOf renaming new->XE
open PySem.NameKind renaming free->Sz,cell->TU
open PySem.Obj renaming mapSeq->Uc,mapFields->Uh,data_mapFields->UT,isFreed_of_fields->Wv
open PySem.PassesOwn renaming never->Sr
open PySem.PyData renaming depthAll->Ry,str->Sx,canLayAll0->TR,strOk->Xx
open PySem.SeqAt renaming eqv_refl->Vm
open PySem.SeqAt.EqAt renaming int_int->UA,str_int->UY,int_str->UZ,str_str->Xq
open PySem.Str renaming empty->Sb,ofString->Tt,append_empty->Xp
open PySem.Value renaming ref->Re,none->SN,bool->SO,str->Tz,int->TB,float->Wu,isStrOf->Xw,isInt->Yb,bytes->Yc
open PySem.Value.type renaming inj->Wt
open PySem.W renaming Frag->cW,findIn->QF,isFn->Rx,mg_none_of->RQ,hasDictIn->Sa,plainGet->Sg,plainOver->Sj,mg_of->Sk,kitOne->Sl,nsIn->Sq,keepIn->SG,kia_one->Tb,fnOf->Tc,emptyDict->Tf,makesIn->Tj,hideAll_none->Tv,mroIn->TL,methodCall_KW->TN,instObj->Ug,plainGet_of->Uk,hideAll_get->Ul,callWith_K->Uz,CodeHd->UE,specialIn->US,cellsFrom_some->Vs,handedIn->Wg,envX->Wh,tabObj->Wp,tabIn->Wq,noTabs->Wr,callWith_K0->Ws,of_hideAll->WJ,methodObj->Xb,lookIn->Xn,codeIn->Xo,takesIn->XY,takerIn->XZ,excIn->Ya
open Sum renaming inl->Ta,inr->Vq
open Sum.inl renaming inj->UX
open True renaming intro->SF
namespace L2
open PySem PySem.Spec PyProof.Rows
abbrev Key:=Sum Int Str
def ls:Key->tx->Bool
 |.inl k,v=>Yb k v
 |.inr x,v=>Xw x v
def PU (w:RF):Key->Int
 |.inl k=>hashInt k
 |.inr x=>hashStr w x
theorem cI:∀{k:Key}{v:tx},ls k v=true->(∃i t,k=Ta i/\v=TB i t)\/(∃x t,k=Vq x/\v=Tz x t)
 |.inl i,v,h=>by
  obtain⟨t,e⟩:=Value.isInt_shape (k:=i) (v:=v) h
  exact .inl ⟨i,t,rfl,e⟩
 |.inr x,v,h=>by
  obtain⟨t,e⟩:=Value.isStrOf_shape (x:=x) (v:=v) h
  exact .inr ⟨x,t,rfl,e⟩
def xI (i:Int)(t:Tok):ls (.inl i) (.int i t)=true:=by simp[ls,Yb]
def xM (x:Str)(t:Tok):ls (.inr x) (.str x t)=true:=by simp[ls,Xw]
def Gg (a b:Int):decide ((Ta a:Key)=Ta b)=(a==b):=by
 by_cases e:a=b
 ·subst e;simp
 ·have h:¬(Ta a:Key)=Ta b:=fun q=>e (UX q)
  rw[decide_eq_false h]
  exact(beq_eq_false_iff_ne.mpr e).symm
def GR (a b:Str):decide ((Vq a:Key)=Vq b)=decide (a=b):=by
 by_cases e:a=b
 ·subst e;simp
 ·have h:¬(Vq a:Key)=Vq b:=fun q=>e (Sum.inr.inj q)
  rw[decide_eq_false h,decide_eq_false e]
def FK (a:Int)(b:Str):decide ((Ta a:Key)=Vq b)=false:=decide_eq_false (fun q=>nomatch q)
def Gd (a:Str)(b:Int):decide ((Vq a:Key)=Ta b)=false:=decide_eq_false (fun q=>nomatch q)
def cD (prog:Rh)(w:RF):PySem.KeyKind prog w Key where
 is:=ls
 hash:=PU w
 inj:=fun v a b ha hb=>by
  rcases cI ha with⟨i,t,rfl,rfl⟩|⟨x,t,rfl,rfl⟩
  ·rcases cI hb with⟨j,u,rfl,e⟩|⟨y,u,rfl,e⟩
   ·injection e with e1 _;rw[e1]
   ·exact nomatch e
  ·rcases cI hb with⟨j,u,rfl,e⟩|⟨y,u,rfl,e⟩
   ·exact nomatch e
   ·injection e with e1 _;rw[e1]
 byValue:=fun k v h=>by
  rcases cI h with⟨i,t,rfl,rfl⟩|⟨x,t,rfl,rfl⟩<;>rfl
 pyHash:=fun hv h=>by
  rcases cI hv with⟨i,t,rfl,rfl⟩|⟨x,t,rfl,rfl⟩
  ·exact wpAny_pyHash_int h
  ·exact wpAny_pyHash_str h
 eqBool:=fun hu hv h=>by
  rcases cI hu with⟨i,t,rfl,rfl⟩|⟨x,t,rfl,rfl⟩
  ·rcases cI hv with⟨j,u,rfl,rfl⟩|⟨y,u,rfl,rfl⟩
   ·rw[Gg]at h;exact wpAny_eqBool_int h
   ·rw[FK]at h;exact UZ i t y u _ _ _ _ h
  ·rcases cI hv with⟨j,u,rfl,rfl⟩|⟨y,u,rfl,rfl⟩
   ·rw[Gd]at h;exact UY x t j u _ _ _ _ h
   ·rw[GR]at h;exact wpAny_eqBool_str h
 «strs»:=fun k x t v h=>by
  rcases cI h with⟨i,u,rfl,e⟩|⟨y,u,rfl,e⟩
  ·exact nomatch e
  ·injection e with e1 _
   subst e1
   cases v<;>rfl
def tJ (prog:Rh)(w:RF)(i:Int)(t:Tok):(cD prog w).is (.inl i) (.int i t)=true:=xI i t
def tF (prog:Rh)(w:RF)(x:Str)(t:Tok):(cD prog w).is (.inr x) (.str x t)=true:=xM x t
inductive V where
 |non|bl (b:Bool)|int (i:Int)|str (x:Str)|byt (b:Array UInt8)|flt (b:UInt64)|ref (a:Addr)|ty (n:String)
 deriving DecidableEq
def ba:V->tx->Prop
 |.non,u=>u=SN
 |.bl b,u=>u=SO b
 |.int i,u=>∃t,u=TB i t
 |.str x,u=>∃t,u=Tz x t
 |.byt b,u=>∃t,u=Yc b t
 |.flt b,u=>∃t,u=Wu b t
 |.ref a,u=>u=Re a
 |.ty n,u=>u=Value.type n
abbrev bc:List V->List tx->Prop:=Paired ba
def bc.length {xs:List V}{us:List tx}(r:bc xs us):xs.length=us.length:=Paired.length r
theorem bc.get:∀{xs:List V}{us:List tx}{i:Nat}{x:V},bc xs us->xs[i]? =some x->∃u,us[i]? =some u/\ba x u
 |_,_,_,_,.nil,e=>by simp at e
 |_,_,0,_,.cons r _,e=>by simp at e;subst e;exact⟨_,rfl,r⟩
 |_,_,i+1,x,.cons _ t,e=>by
  obtain⟨u,h1,h2⟩:=bc.get (i:=i) (x:=x) t (by simpa using e)
  exact⟨u,by simpa using h1,h2⟩
theorem bc.set {x:V}{u:tx}(r:ba x u):∀{xs:List V}{us:List tx}(i:Nat),bc xs us->bc (xs.set i x) (us.set i u)
 |_,_,_,.nil=>.nil
 |_,_,0,.cons _ t=>.cons r t
 |_,_,i+1,.cons q t=>.cons q (bc.set r i t)
theorem bc.append:∀{xs ys:List V}{us ws:List tx},bc xs us->bc ys ws->bc (xs++ys) (us++ws)
 |_,_,_,_,.nil,s=>s
 |_,_,_,_,.cons r t,s=>.cons r (bc.append t s)
theorem bc.take:∀{xs:List V}{us:List tx}(n:Nat),bc xs us->bc (xs.take n) (us.take n)
 |_,_,0,_=>.nil
 |_,_,_+1,.nil=>.nil
 |_,_,n+1,.cons r t=>.cons r (bc.take n t)
theorem bc.drop:∀{xs:List V}{us:List tx}(n:Nat),bc xs us->bc (xs.drop n) (us.drop n)
 |_,_,0,r=>r
 |_,_,_+1,.nil=>.nil
 |_,_,n+1,.cons _ t=>bc.drop n t
def fb:Option V->Option tx->Prop
 |some v,some u=>ba v u
 |none,none=>True
 |_,_=>False
def KV {κ:Type}:List (κ×V)->List (κ×tx)->Prop:=Paired fun(p:κ×V)(q:κ×tx)=>p.1=q.1/\ba p.2 q.2
def kV:Key->V
 |.inl i=>.int i
 |.inr x=>.str x
inductive HO where
 |lst (xs:List V)
 |tup (xs:List V)
 |dK (kvs:List (Key×V))|dT (kvs:List (List Key×V))
 |set (S:Int->Bool) (n:Nat)
 |ins (C dx:Addr) (fs:List (Str×V))
 |own (x:Addr)
 |xd (fs:List (Str×V))
 |met (f x:Addr)
 |rng (lo hi:Int)
 |frz (o:Obj) (u:HO)
 |tbl (ps:Array tx)
 |ext (φ:Heap->Prop)
abbrev Hp:=Addr->Option HO
def upd (H:Hp)(a:Addr)(o:HO):Hp:=fun b=>if b=a then some o else H b
def ag {H:Hp}{a:Addr}{o:HO}:upd H a o a=some o:=by unfold upd;rw[if_pos rfl]
def ap {H:Hp}{a b:Addr}{o:HO}(h:b≠a):upd H a o b=H b:=by unfold upd;rw[if_neg h]
def eN {H:Hp}{a:Addr}{o u:HO}:upd (upd H a o) a u=upd H a u:=by
 funext b;unfold upd;split<;>rfl
def bw {H:Hp}{a b:Addr}{o u:HO}(h:H a=some o)(h':H b=some u)(d:o≠u):a≠b:=by
 intro e;subst e;rw[h]at h';exact d (QZ h')
def aq {H:Hp}{a b:Addr}{o:HO}(h:H a=some o)(h':H b=none):a≠b:=by
 intro e;subst e;rw[h]at h';cases h'
section
variable (P:Rh)(w:RF)
def bx (H:Hp)(h:Heap)(a:Addr):HO->Prop
 |.lst xs=>xs.length<=sizeLine/\∃(its:List tx)(n:Nat),bc xs its/\h.get? a=some {cls:=.type "list",data:=.seq its.toArray n}
 |.tup xs=>xs.length<=sizeLine/\∃its:List tx,bc xs its/\VL h a its.toArray
 |.dK kvs=>kvs.length<=sizeLine/\(a==sysModules)=false/\∃vs,KV kvs vs/\h.DictOf (cD P w) a vs
 |.dT kvs=>kvs.length<=sizeLine/\(a==sysModules)=false/\∃xs:List (List Key×Addr×tx),
  Paired (fun(p:List Key×V)(q:List Key×Addr×tx)=>p.1=q.1/\H q.2.1=some (.tup (p.1.map kV))/\ba p.2 q.2.2) kvs xs/\
  ∃o es ep,h.get? a=some o/\o.ExactDict/\o.data=.dict es ep/\es.toList=xs.map (entryOfKey (tupleKind (cD P w)))/\(xs.map (·.1)).Nodup
 |.set S n=>h.SetOf (intKind P w) a S n
 |.ins C dx fs=>H dx=some (.own a)/\fs.length<=1000/\dx≠a/\h.get? a=some (Ug C dx)/\
  ∃mA,h.Ns1 dx mA/\(∀f,fb (fs.lookup f) (mA f))/\VY mA (fs.map (·.1))
 |.own _=>∃o,h.get? a=some o
 |.xd fs=>∃mA,h.Ns1 a mA/\∀f,fb (fs.lookup f) (mA f)
 |.rng lo hi=>∃t u v,h.get? a=some {cls:=.type "range",data:=.fields #[.int lo t,.int hi u,.int 1 v]}
 |.frz o u=>h.get? a=some o/\bx H h a u
 |.tbl ps=>h.get? a=some {cls:=.none,data:=.fields ps}
 |.met f x=>h.get? a=some (Xb (.ref f) (.ref x))
 |.ext φ=>φ h/\(∃o,h.get? a=some o)/\∀h1 h2:Heap,φ h1->(∀o,h1.get? a=some o->h2.get? a=some o)->φ h2
def HOk (H:Hp)(h:Heap):Prop:=∀a o,H a=some o->bx P w H h a o
end
section
variable {P:Rh}{w:RF}{H H':Hp}{h h':Heap}{a:Addr}{o:HO}
def bx.lt (x:bx P w H h a o):a<h.objs.size:=by
 cases o with
 |lst xs=>obtain⟨_,_,_,_,e⟩:=x;exact QV e
 |tup xs=>obtain⟨_,_,_,p⟩:=x;exact p.lt
 |dK kvs=>obtain⟨_,_,_,_,o,_,_,e,_⟩:=x;exact QV e
 |dT kvs=>obtain⟨_,_,_,_,o,_,_,e,_⟩:=x;exact QV e
 |set S n=>obtain⟨o,_,_,_,e,_⟩:=x;exact QV e
 |ins C dx fs=>obtain⟨_,_,_,e,_⟩:=x;exact QV e
 |own y=>obtain⟨_,e⟩:=x;exact QV e
 |xd fs=>obtain⟨_,⟨_,_,_,e,_⟩,_⟩:=x;exact QV e
 |rng lo hi=>obtain⟨_,_,_,e⟩:=x;exact QV e
 |frz ob u=>obtain⟨e,_⟩:=x;exact QV e
 |tbl ps=>exact QV (show h.get? a=some _ from x)
 |met f y=>exact QV (show h.get? a=some _ from x)
 |ext φ=>obtain⟨_,⟨_,e⟩,_⟩:=x;exact QV e
theorem Paired.mapP {α β:Type}{F G:α->β->Prop}:∀{l₁:List α}{l₂:List β},Paired F l₁ l₂->(∀a b,F a b->G a b)->Paired G l₁ l₂
 |_,_,.nil,_=>.nil
 |_,_,.cons r t,f=>.cons (f _ _ r) (Paired.mapP t f)
def bx.stay (x:bx P w H h a o)(k:∀b u,(b=a\/H b=some (.own a))->h.get? b=some u->h'.get? b=some u)
  (ho:∀b,H b=some (.own a)->H' b=some (.own a))(ht:∀b xs,H b=some (.tup xs)->H' b=some (.tup xs)):bx P w H' h' a o:=by
 induction o with
 |lst xs=>obtain⟨z,its,n,r,e⟩:=x;exact⟨z,its,n,r,k _ _ (.inl rfl) e⟩
 |tup xs=>obtain⟨z,its,r,ob,e,c⟩:=x;exact⟨z,its,r,ob,k _ _ (.inl rfl) e,c⟩
 |dK kvs=>obtain⟨z,y,vs,r,ob,es,ep,e,c⟩:=x;exact⟨z,y,vs,r,ob,es,ep,k _ _ (.inl rfl) e,c⟩
 |dT kvs=>
  obtain⟨z,y,xs,r,ob,es,ep,e,c⟩:=x
  exact⟨z,y,xs,Paired.mapP r fun p q z=>⟨z.1,ht _ _ z.2.1,z.2.2⟩,ob,es,ep,k _ _ (.inl rfl) e,c⟩
 |set S n=>obtain⟨ob,es,ep,t,e,c⟩:=x;exact⟨ob,es,ep,t,k _ _ (.inl rfl) e,c⟩
 |ins C dx fs=>
  obtain⟨d,z,ne,e,mA,⟨od,es,ep,e2,c⟩,r⟩:=x
  exact⟨ho _ d,z,ne,k _ _ (.inl rfl) e,mA,⟨od,es,ep,k _ _ (.inr d) e2,c⟩,r⟩
 |own y=>obtain⟨ob,e⟩:=x;exact⟨ob,k _ _ (.inl rfl) e⟩
 |xd fs=>obtain⟨mA,⟨od,es,ep,e,c⟩,r⟩:=x;exact⟨mA,⟨od,es,ep,k _ _ (.inl rfl) e,c⟩,r⟩
 |rng lo hi=>obtain⟨t,u,v,e⟩:=x;exact⟨t,u,v,k _ _ (.inl rfl) e⟩
 |frz ob u ih=>obtain⟨e,q⟩:=x;exact⟨k _ _ (.inl rfl) e,ih q⟩
 |tbl ps=>
  have e:h.get? a=some {cls:=.none,data:=.fields ps}:=x
  show h'.get? a=some {cls:=.none,data:=.fields ps}
  exact k a _ (.inl rfl) e
 |met f y=>
  have e:h.get? a=some (Xb (.ref f) (.ref y)):=x
  show h'.get? a=some (Xb (.ref f) (.ref y))
  exact k a _ (.inl rfl) e
 |ext φ=>obtain⟨p,⟨o,e⟩,st⟩:=x;exact⟨st _ _ p fun o q=>k _ _ (.inl rfl) q,⟨o,k _ _ (.inl rfl) e⟩,st⟩
def HOk.lt (x:HOk P w H h)(e:H a=some o):a<h.objs.size:=(x a o e).lt
def HOk.fresh (x:HOk P w H h)(e:h.objs.size<=a):H a=none:=by
 cases q:H a with
 |none=>rfl
 |some u=>exact absurd (Ra (x.lt q) e) (Ss _)
def HOk.kept (x:HOk P w H h)(k:∀b u,h.get? b=some u->h'.get? b=some u):HOk P w H h':=fun a o e=>
 (x a o e).stay (fun b u _ q=>k b u q) (fun _ q=>q) fun _ _ q=>q
def HOk.laid (x:HOk P w H h)(k:∀b u,h.get? b=some u->h'.get? b=some u)(hp:h.objs.size<=a)(new:bx P w (upd H a o) h' a o):HOk P w (upd H a o) h':=fun b u e=>by
 have hn:=x.fresh hp
 by_cases hb:b=a
 ·subst hb;rw[ag]at e;cases e;exact new
 ·rw[ap hb]at e
  exact(x b u e).stay (fun c v _ q=>k c v q) (fun c q=>by rw[ap (aq q hn)];exact q) fun c xs q=>by rw[ap (aq q hn)];exact q
end
def Rd (H:Hp)(a:Addr)(u:HO):Prop:=H a=some u\/∃o,H a=some (.frz o u)
def Rd.ok {P:Rh}{w:RF}{H:Hp}{h:Heap}{a:Addr}{u:HO}(r:Rd H a u)(x:HOk P w H h):bx P w H h a u:=by
 rcases r with r|⟨o,r⟩
 ·exact x a u r
 ·obtain⟨_,q⟩:=x a _ r
  exact q
def Mut:Option HO->Prop
 |some (.lst _)=>True
 |some (.dK _)=>True
 |some (.dT _)=>True
 |some (.set _ _)=>True
 |some (.ins _ _ _)=>True
 |some (.ext _)=>True
 |_=>False
section
variable {P:Rh}{w:RF}{H:Hp}{h h':Heap}{x e:Addr}{o':HO}
def HOk.write (ok:HOk P w H h)(mu:Mut (H x))(he:e=x\/H e=some (.own x))(k:∀b u,b≠e->h.get? b=some u->h'.get? b=some u)(heo:∃u,h'.get? e=some u)
  (new:bx P w (upd H x o') h' x o'):HOk P w (upd H x o') h':=fun b u q=>by
 have nown:∀c y,H c=some (.own y)->c≠x:=fun c y r z=>by subst z;rw[r]at mu;exact mu
 have ntup:∀c xs,H c=some (.tup xs)->c≠x:=fun c xs r z=>by subst z;rw[r]at mu;exact mu
 by_cases hb:b=x
 ·subst hb;rw[ag]at q;cases q;exact new
 ·rw[ap hb]at q
  by_cases hbe:b=e
  ·have q':H b=some (.own x):=by
    rcases he with z|z
    ·exact absurd (hbe.trans z) hb
    ·rw[hbe];exact z
   rw[q]at q';cases q'
   obtain⟨v,hv⟩:=heo
   exact⟨v,by rw[hbe];exact hv⟩
  ·refine(ok b u q).stay (fun c v hc r=>k c v ?_ r) (fun c r=>by rw[ap (nown c b r)];exact r) fun c xs r=>by rw[ap (ntup c xs r)];exact r
   rcases hc with rfl|hc
   ·exact hbe
   ·rintro rfl
    rcases he with z|z
    ·exact nown c b hc z
    ·rw[hc]at z;cases z;exact hb rfl
end
structure Un (fs ex:List Addr)(H H':Hp)(h h':Heap):Prop where
 keep:∀b o,h.get? b=some o->H b=none->b∉fs->b∉ex->h'.get? b=some o
 slot:∀b o,h.get? b=some o->H b=none->b∈fs->b∉ex->∃sl,h'.get? b=some {o with slots:=sl}
 free:∀b o,h.get? b=some o->H b=none->b∉ex->H' b=none
 there:∀b o,h.get? b=some o->b∉ex->∃o',h'.get? b=some o'
 tups:∀b xs,H b=some (.tup xs)->H' b=some (.tup xs)
 frzs:∀b o u,H b=some (.frz o u)->H' b=some (.frz o u)
 tbls:∀b ps,H b=some (.tbl ps)->∃more,H' b=some (.tbl (ps++more))
section
variable {fs fs' ex ex':List Addr}{H H1 H2:Hp}{h h1 h2 h':Heap}{a x e:Addr}{o:HO}
def Un.any (u:Un fs ex H H1 h h1){b:Addr}{ob:Obj}(q:h.get? b=some ob)(n:H b=none)(hx:b∉ex):∃sl,h1.get? b=some {ob with slots:=sl}:=by
 by_cases hb:b∈fs
 ·exact u.slot b ob q n hb hx
 ·exact⟨ob.slots,u.keep b ob q n hb hx⟩
def Un.kept (k:∀b u,h.get? b=some u->h'.get? b=some u):Un fs ex H H h h':=
 ⟨fun b ob q _ _ _=>k b ob q,fun b ob q _ _ _=>⟨ob.slots,k b ob q⟩,fun _ _ _ n _=>n,fun b ob q _=>⟨ob,k b ob q⟩,fun _ _ q=>q,fun _ _ _ q=>q,fun _ ps q=>⟨#[],by rw[q];simp⟩⟩
def Un.refl:Un fs ex H H h h:=Un.kept fun _ _ q=>q
def Un.laid (k:∀b u,h.get? b=some u->h'.get? b=some u)(hp:h.objs.size<=a)(hn:H a=none):Un fs ex H (upd H a o) h h' where
 keep:=fun b u q _ _ _=>k b u q
 slot:=fun b u q _ _ _=>⟨u.slots,k b u q⟩
 free:=fun b u q n _=>by rw[ap (Rf (Ra (QV q) hp))];exact n
 there:=fun b u q _=>⟨u,k b u q⟩
 tups:=fun b xs q=>by rw[ap (aq q hn)];exact q
 frzs:=fun b u xs q=>by rw[ap (aq q hn)];exact q
 tbls:=fun b ps q=>⟨#[],by rw[ap (aq q hn),q];simp⟩
def Un.write (mu:Mut (H x))(he:e=x\/H e=some (.own x))(k:∀b u,b≠e->h.get? b=some u->h'.get? b=some u)(heo:∃u,h'.get? e=some u):Un fs ex H (upd H x o) h h':=by
 have hx:∀b,H b=none->b≠x:=fun b n z=>by subst z;rw[n]at mu;exact mu
 have hb:∀b,H b=none->b≠e:=fun b n z=>by
  subst z
  rcases he with r|r
  ·exact hx b n r
  ·rw[n]at r;cases r
 have hm:∀b u,H b=some u->¬Mut (some u)->b≠x:=fun b u q nm z=>by subst z;rw[q]at mu;exact nm mu
 refine⟨fun b u q n _ _=>k b u (hb b n) q,fun b u q n _ _=>⟨u.slots,k b u (hb b n) q⟩,fun b u q n _=>by rw[ap (hx b n)];exact n,fun b u q _=>?_,
  fun b xs q=>by rw[ap (hm b _ q fun z=>z)];exact q,fun b u xs q=>by rw[ap (hm b _ q fun z=>z)];exact q,fun b ps q=>⟨#[],by rw[ap (hm b _ q fun z=>z),q];simp⟩⟩
 by_cases hbe:b=e
 ·subst hbe;exact heo
 ·exact⟨u,k b u hbe q⟩
end
def trk (h:Heap)(H:Hp):List Addr:=(UW h.objs.size).filter fun a=>(H a).isSome
def gS (h:Heap)(H:Hp):Heap:=W.hideAll h (trk h H)
def wU (h:Heap)(H:Hp):(gS h H).objs.size=h.objs.size:=W.hideAll_size _ _
def zU {h:Heap}{H:Hp}{b:Addr}{o:Obj}(e:h.get? b=some o)(n:H b=none):(gS h H).get? b=some o:=
 Ul _ e fun hm=>by
  have q:(H b).isSome=true:=(Xr.mp hm).2
  rw[n]at q;simp at q
def Dj {h:Heap}{H:Hp}{b:Addr}{o:Obj}(e:(gS h H).get? b=some o):h.get? b=some o/\H b=none:=by
 have e':h.get? b=some o:=WJ (trk h H) e
 refine⟨e',?_⟩
 cases q:H b with
 |none=>rfl
 |some x=>
  have hm:b∈trk h H:=Xr.mpr ⟨UD.mpr (QV e'),by simp[q]⟩
  have z:(gS h H).get? b=none:=Tv (trk h H) hm
  rw[z]at e;cases e
def DE (g h:Heap)(L:Addr):List (Addr×Obj):=(UW h.objs.size).filterMap fun a=>if a=L\/(g.get? a).isSome=true then none else(h.get? a).map fun o=>(a,o)
def cH (g h:Heap)(L d:Addr):List (Addr×Obj):=(DE g h L).filter fun p=>decide (p.1≠d)
structure Mod (K:cW)(mg:Str->Option tx)(base:Heap):Prop where
 kin:K.In base
 glob:base.Ns mainGlobals mg
 blt:∃mb,base.Ns builtinsNs mb/\∀x:Str,x≠"__name__"->mb x=bootBuiltins x
 nolimit:base.NoLimit
set_option genInjectivity false in
structure Cx where
 prog:Rh
 w:RF
 K:cW
 mg:Str->Option tx
 base:Heap
 A:RC
 N:List Str
 s₀:If
 H₀:Hp
 env:Env
 outer:List Env
 stack:List Env
 ex:List Addr
 fn:Str->Bool
 calm:Bool
 pn:List (Addr×Obj)
 xe:tx->If->Prop
def frs (l:List Env):List Addr:=l.filterMap (·.frame)
abbrev Cx.fs (X:Cx):List Addr:=frs X.outer
def Vis (sc:Scope)(x:Str):Prop:=sc.names.lookup x=some .local\/sc.names.lookup x=some .cell\/sc.names.lookup x=some .free
def Loc (sc:Scope)(x:Str):Prop:=sc.names.lookup x=some .local\/sc.names.lookup x=some .cell
def Ie (env:Env)(h:Heap)(m:Str->Option tx)(x:Str)(u:tx):Prop:=
 (env.kindOf x=some .local/\m x=some u)\/((env.kindOf x=some .cell\/env.kindOf x=some .free)/\∃c,env.cells.lookup x=some c/\h.IsCell c (some u))
set_option genInjectivity false in
structure Cx.Ok (X:Cx):Prop where
 mod:Mod X.K X.mg X.base
 kind:X.env.scope.kind=.function
 glob:X.env.globals=mainGlobals
 blt:X.env.builtins=builtinsNs
 above:X.s₀.heap.objs.size<=X.env.locals
 inj:∀x y c,X.env.cells.lookup x=some c->X.env.cells.lookup y=some c->x=y
 has:∀x,(X.env.kindOf x=some .cell\/X.env.kindOf x=some .free)->∃c,X.env.cells.lookup x=some c
 cab:∀x c,X.fn x=true->X.env.cells.lookup x=some c->X.s₀.heap.objs.size<=c
 hd:X.calm=true->X.A.handled=none
 frames:X.A.frames=some X.stack
 stk:X.stack=X.outer\/(X.stack=X.env::X.outer/\X.env.frame=some X.env.locals)
 exf:∀b∈X.ex,b≠X.env.locals/\∀x c,X.env.cells.lookup x=some c->c≠b
 bs:∀b o,X.base.get? b=some o->X.s₀.heap.get? b=some o/\X.H₀ b=none
 bsz:X.base.objs.size<=X.s₀.heap.objs.size
 noex:∀b o,X.base.get? b=some o->b∉X.ex
 exfs:∀b∈X.ex,b∉X.fs
 funs:X.s₀.heap.FunFrames X.base X.outer
 frf:∀b∈X.fs,X.H₀ b=none
structure Inv (X:Cx)(pins:List (Addr×Obj))(σ:List (Option V))(H:Hp)(s:If):Prop where
 ok:X.Ok
 os:s.os=X.s₀.os
 bare:Uu s.gens
 base:Un X.fs X.ex X.H₀ H X.s₀.heap s.heap
 loc:∃m,s.heap.Ns X.env.locals m/\∀(i:Nat)(x:Str)(v:V),X.N[i]?=some x->σ[i]?=some (some v)->Vis X.env.scope x->∃u,ba v u/\Ie X.env s.heap m x u
 cell:∀x c,X.env.cells.lookup x=some c->∃v,s.heap.IsCell c v
 free:H X.env.locals=none
 freeC:∀x c,X.env.cells.lookup x=some c->H c=none
 pin:∀p∈X.pn++pins,s.heap.get? p.1=some p.2/\H p.1=none/\p.1≠X.env.locals/\p.1∉X.fs/\∀v,p.2.data≠.cell v
 hok:HOk X.prog X.w H s.heap
 len:σ.length=X.N.length
section
variable {X:Cx}{pins:List (Addr×Obj)}{σ:List (Option V)}{H H':Hp}{s:If}{h':Heap}
def Cx.Ok.nofr (ok:X.Ok){b:Addr}{o:Obj}(e:X.base.get? b=some o):b∉X.fs:=fun hb=>by
 have:=(ok.funs.mem hb).1
 rw[e]at this;cases this
def Inv.bs (I:Inv X pins σ H s):∀b o,X.base.get? b=some o->s.heap.get? b=some o/\H b=none:=fun b o e=>
 ⟨I.base.keep b o (I.ok.bs b o e).1 (I.ok.bs b o e).2 (I.ok.nofr e) (I.ok.noex b o e),I.base.free b o (I.ok.bs b o e).1 (I.ok.bs b o e).2 (I.ok.noex b o e)⟩
def Inv.bk (I:Inv X pins σ H s):∀b o,X.base.get? b=some o->s.heap.get? b=some o:=fun b o e=>(I.bs b o e).1
def Inv.mod (I:Inv X pins σ H s):Mod X.K X.mg X.base:=I.ok.mod
def Inv.kIn (I:Inv X pins σ H s):X.K.In s.heap:=I.ok.mod.kin.keeps I.bk
def Inv.lt (I:Inv X pins σ H s):X.env.locals<s.heap.objs.size:=let ⟨_,hn,_⟩:=I.loc;hn.lt
def Inv.sz (I:Inv X pins σ H s):X.s₀.heap.objs.size<=s.heap.objs.size:=Rl I.ok.above (TV I.lt)
def Inv.nofs (I:Inv X pins σ H s){a:Addr}(h:s.heap.objs.size<=a):a∉X.fs:=fun hb=>by
 obtain⟨_,o,ho,_⟩:=I.ok.funs.mem hb
 exact absurd (Ra (QV ho) (Rl I.sz h)) (Ss _)
def Inv.cne (I:Inv X pins σ H s):∀x c,X.env.cells.lookup x=some c->c≠X.env.locals:=fun x c e z=>by
 obtain⟨v,o,ho,hd⟩:=I.cell x c e
 obtain⟨m,⟨o',es,ep,ho',hd',_⟩,_⟩:=I.loc
 rw[z,ho']at ho;cases ho;rw[hd']at hd;cases hd
def Inv.funs (I:Inv X pins σ H s):s.heap.FunFrames X.base X.outer:=by
 have all:∀(l:List Env),(∀b∈frs l,b∈X.fs)->X.s₀.heap.FunFrames X.base l->s.heap.FunFrames X.base l:=by
  intro l
  induction l with
  |nil=>intro _ _;trivial
  |cons env r ih=>
   intro hs hl
   obtain⟨hk,⟨L,o,hf,hn,ho,hd⟩,hr⟩:=hl
   have hL:L∈X.fs:=hs L (by unfold frs;rw[RN,hf];exact Rb)
   obtain⟨sl,e⟩:=I.base.slot L o ho (I.ok.frf L hL) hL fun z=>I.ok.exfs L z hL
   exact⟨hk,⟨L,_,hf,hn,e,hd⟩,ih (fun b hb=>hs b (by unfold frs;rw[RN,hf];exact QN _ hb)) hr⟩
 exact all X.outer (fun _ hb=>hb) I.ok.funs
def Inv.stack (I:Inv X pins σ H s):s.heap.FunFrames X.base X.stack:=by
 rcases I.ok.stk with e|⟨e,hf⟩
 ·rw[e];exact I.funs
 ·rw[e]
  obtain⟨m,hn,_⟩:=I.loc
  refine .cons (by rw[I.ok.kind];decide) hf hn ?_ I.funs
  exact Heap.get?_none_of_le (Rl I.ok.bsz I.ok.above)
def Inv.stkSub (I:Inv X pins σ H s):∀b∈frs X.stack,b∈X.env.locals::X.fs:=fun b hb=>by
 rcases I.ok.stk with e|⟨e,hf⟩
 ·rw[e]at hb;exact QN _ hb
 ·rw[e]at hb
  unfold frs at hb
  rw[RN,hf]at hb
  exact hb
def Inv.stkFree (I:Inv X pins σ H s):∀b∈frs X.stack,H b=none:=fun b hb=>by
 rcases QG.mp (I.stkSub b hb)with e|hb
 ·rw[e];exact I.free
 ·obtain⟨_,o,ho,_⟩:=I.ok.funs.mem hb
  exact I.base.free b o ho (I.ok.frf b hb) fun z=>I.ok.exfs b z hb
def Inv.step {g':Array XF}{t':Nat}{d':Drawn}{ch:List Addr}(I:Inv X pins σ H s)
  (hch:∀b∈ch,(b∈X.ex\/X.s₀.heap.objs.size<=b)/\b≠X.env.locals/\(∀x c,X.env.cells.lookup x=some c->c≠b)/\∀p∈X.pn++pins,p.1≠b)
  (keep:∀b o,b≠X.env.locals->b∉X.fs->b∉ch->s.heap.get? b=some o->H b=none->h'.get? b=some o)
  (slot:∀b o,b≠X.env.locals->b∈X.fs->b∉ch->s.heap.get? b=some o->H b=none->∃sl,h'.get? b=some {o with slots:=sl})(free:∀b o,b∉ch->s.heap.get? b=some o->H b=none->H' b=none)
  (there:∀b o,b∉ch->s.heap.get? b=some o->∃o',h'.get? b=some o')
  (tups:∀b xs,H b=some (.tup xs)->H' b=some (.tup xs))(frzs:∀b o u,H b=some (.frz o u)->H' b=some (.frz o u))(tbls:∀b ps,H b=some (.tbl ps)->∃more,H' b=some (.tbl (ps++more)))
  (ns:∀m,s.heap.Ns X.env.locals m->h'.Ns X.env.locals m)(hok:HOk X.prog X.w H' h')(hg:Uu g'):
  Inv X pins σ H' {s with heap:=h',gens:=g',drawn:=d',toks:=t'}:=by
 have neL:∀b o,X.s₀.heap.get? b=some o->b≠X.env.locals:=fun b o e=>Rf (Ra (QV e) I.ok.above)
 have neC:∀b o,X.s₀.heap.get? b=some o->b∉X.ex->b∉ch:=fun b o e hx hb=>by
  rcases(hch b hb).1 with z|z
  ·exact hx z
  ·exact absurd (Ra (QV e) z) (Ss _)
 have cellK:∀x c,X.env.cells.lookup x=some c->∀v,s.heap.IsCell c v->h'.IsCell c v:=fun x c e v ⟨o,ho,hd⟩=>by
  have nch:c∉ch:=fun z=>(hch c z).2.2.1 x c e rfl
  by_cases hc:c∈X.fs
  ·obtain⟨sl,q⟩:=slot c o (I.cne x c e) hc nch ho (I.freeC x c e)
   exact⟨_,q,hd⟩
  ·exact⟨o,keep c o (I.cne x c e) hc nch ho (I.freeC x c e),hd⟩
 refine⟨I.ok,I.os,hg,⟨fun b o e n hb hx=>?_,fun b o e n hb hx=>?_,fun b o e n hx=>?_,fun b o e hx=>?_,fun b xs e=>tups b xs (I.base.tups b xs e),fun b o xs e=>frzs b o xs (I.base.frzs b o xs e),fun b ps e=>?_⟩,?_,fun x c e=>?_,?_,fun x c e=>?_,fun p hp=>?_,hok,I.len⟩
 ·exact keep b o (neL b o e) hb (neC b o e hx) (I.base.keep b o e n hb hx) (I.base.free b o e n hx)
 ·obtain⟨sl,e1⟩:=I.base.slot b o e n hb hx
  obtain⟨sl',e2⟩:=slot b _ (neL b o e) hb (neC b o e hx) e1 (I.base.free b o e n hx)
  exact⟨sl',e2⟩
 ·obtain⟨o',e1⟩:=I.base.there b o e hx
  exact free b o' (neC b o e hx) e1 (I.base.free b o e n hx)
 ·obtain⟨o',e1⟩:=I.base.there b o e hx
  exact there b o' (neC b o e hx) e1
 ·obtain⟨m1,e1⟩:=I.base.tbls b ps e
  obtain⟨m2,e2⟩:=tbls b _ e1
  exact⟨m1++m2,by rw[e2,Array.append_assoc]⟩
 ·obtain⟨m,hn,hl⟩:=I.loc
  refine⟨m,ns m hn,fun i x v e1 e2 e3=>?_⟩
  obtain⟨u,r,l⟩:=hl i x v e1 e2 e3
  refine⟨u,r,?_⟩
  rcases l with l|⟨k,c,e,z⟩
  ·exact .inl l
  ·exact .inr ⟨k,c,e,cellK x c e _ z⟩
 ·obtain⟨v,z⟩:=I.cell x c e
  exact⟨v,cellK x c e v z⟩
 ·obtain⟨m,⟨o,_,_,ho,_⟩,_⟩:=I.loc
  exact free _ o (fun z=>(hch _ z).2.1 rfl) ho I.free
 ·obtain⟨v,o,ho,hd⟩:=I.cell x c e
  exact free c o (fun z=>(hch c z).2.2.1 x c e rfl) ho (I.freeC x c e)
 ·obtain⟨e,n,ne,nf,d⟩:=I.pin p hp
  have nch:p.1∉ch:=fun z=>(hch p.1 z).2.2.2 p hp rfl
  exact⟨keep p.1 p.2 ne nf nch e n,free p.1 p.2 nch e n,ne,nf,d⟩
def Inv.un {t':Nat}(I:Inv X pins σ H s)(u:Un X.fs [] H H' s.heap h')(hok:HOk X.prog X.w H' h'):Inv X pins σ H' {s with heap:=h',toks:=t'}:=by
 obtain⟨m,⟨o,es,ep,ho,r⟩,_⟩:=id I.loc
 obtain⟨sl,hL⟩:=u.any ho I.free (by simp)
 exact I.step (g':=s.gens) (d':=s.drawn) (ch:=[]) (fun _ z=>nomatch z) (fun b o _ hb _ e n=>u.keep b o e n hb (by simp)) (fun b o _ hb _ e n=>u.slot b o e n hb (by simp)) (fun b o _ e n=>u.free b o e n (by simp)) (fun b o _ e=>u.there b o e (by simp)) u.tups u.frzs u.tbls (fun m' hm=>by
  obtain⟨o',es',ep',ho',r'⟩:=hm
  rw[ho]at ho';cases ho'
  exact⟨_,es',ep',hL,r'⟩) hok I.bare
def Inv.call {g':Array XF}{t':Nat}{d':Drawn}{ch:List Addr}(I:Inv X pins σ H s)(u:Un (frs X.stack) ch H H' s.heap h')(hok:HOk X.prog X.w H' h')(hg:Uu g')
  (hch:∀b∈ch,(b∈X.ex\/X.s₀.heap.objs.size<=b)/\b≠X.env.locals/\(∀x c,X.env.cells.lookup x=some c->c≠b)/\∀p∈X.pn++pins,p.1≠b):
  Inv X pins σ H' {s with heap:=h',gens:=g',drawn:=d',toks:=t'}:=by
 obtain⟨m,⟨o,es,ep,ho,r⟩,_⟩:=id I.loc
 obtain⟨sl,hL⟩:=u.any ho I.free fun z=>(hch _ z).2.1 rfl
 exact I.step (ch:=ch) hch (fun b o hL hb hc e n=>u.keep b o e n (fun z=>(QG.mp (I.stkSub b z)).elim hL hb) hc) (fun b o _ _ hc e n=>u.any e n hc) (fun b o hc e n=>u.free b o e n hc) (fun b o hc e=>u.there b o e hc) u.tups u.frzs u.tbls (fun m' hm=>by
  obtain⟨o',es',ep',ho',r'⟩:=hm
  rw[ho]at ho';cases ho'
  exact⟨_,es',ep',hL,r'⟩) hok hg
def Inv.turned {t':Nat}{it:Addr}(I:Inv X pins σ H s)(k:∀b o,b≠it->s.heap.get? b=some o->h'.get? b=some o)(hn:H it=none)(hL:it≠X.env.locals)
  (h1:it∈X.ex\/X.s₀.heap.objs.size<=it)(h2:∀x c,X.env.cells.lookup x=some c->c≠it)(h3:∀p∈X.pn++pins,p.1≠it):Inv X pins σ H {s with heap:=h',toks:=t'}:=by
 have nit:∀b u,H b=some u->b≠it:=fun b u e z=>by rw[z,hn]at e;cases e
 refine I.step (g':=s.gens) (d':=s.drawn) (ch:=[it]) (fun b hb=>?_) (fun b o _ _ hc e _=>k b o (fun z=>hc (by simp[z])) e) (fun b o _ _ hc e _=>⟨o.slots,k b o (fun z=>hc (by simp[z])) e⟩) (fun _ _ _ _ n=>n)
  (fun b o hc e=>⟨o,k b o (fun z=>hc (by simp[z])) e⟩) (fun _ _ e=>e) (fun _ _ _ e=>e) (fun b ps e=>⟨#[],by rw[e];simp⟩) (fun m hm=>?_) (fun b u e=>?_) I.bare
 ·have e:b=it:=by simpa using hb
  subst e
  exact⟨h1,hL,h2,h3⟩
 ·obtain⟨o,es,ep,ho,r⟩:=hm
  exact⟨o,es,ep,k _ o (QU hL) ho,r⟩
 ·refine(I.hok b u e).stay (fun c v hc q=>k c v ?_ q) (fun _ q=>q) fun _ _ q=>q
  rcases hc with z|z
  ·rw[z];exact nit b u e
  ·exact nit c _ z
def Inv.tok (I:Inv X pins σ H s)(t:Nat):Inv X pins σ H {s with toks:=t}:=I.un (h':=s.heap) (t':=t) Un.refl I.hok
def Inv.kept {t':Nat}(I:Inv X pins σ H s)(k:∀b u,s.heap.get? b=some u->h'.get? b=some u):Inv X pins σ H {s with heap:=h',toks:=t'}:=I.un (Un.kept k) (I.hok.kept k)
def Inv.laid {a:Addr}{o:HO}{t':Nat}(I:Inv X pins σ H s)(k:∀b u,s.heap.get? b=some u->h'.get? b=some u)(hp:s.heap.objs.size<=a)(new:bx X.prog X.w (upd H a o) h' a o):
 Inv X pins σ (upd H a o) {s with heap:=h',toks:=t'}:=I.un (Un.laid k hp (I.hok.fresh hp)) (I.hok.laid k hp new)
def Inv.write {x e:Addr}{o:HO}{t':Nat}(I:Inv X pins σ H s)(mu:Mut (H x))(he:e=x\/H e=some (.own x))(k:∀b u,b≠e->s.heap.get? b=some u->h'.get? b=some u)(heo:∃u,h'.get? e=some u)
 (new:bx X.prog X.w (upd H x o) h' x o):Inv X pins σ (upd H x o) {s with heap:=h',toks:=t'}:=I.un (Un.write mu he k heo) (I.hok.write mu he k heo new)
def Inv.pins_of {pins':List (Addr×Obj)}(I:Inv X pins σ H s)(h:∀p∈pins',s.heap.get? p.1=some p.2/\H p.1=none/\p.1≠X.env.locals/\p.1∉X.fs/\∀v,p.2.data≠.cell v):Inv X pins' σ H s:=
 ⟨I.ok,I.os,I.bare,I.base,I.loc,I.cell,I.free,I.freeC,fun p hp=>(Rv.mp hp).elim (fun z=>I.pin p (Sy _ z)) (h p),I.hok,I.len⟩
def rT {N:List Str}(hN:N.Nodup){i j:Nat}{x:Str}(a:N[i]?=some x)(b:N[j]?=some x):i=j:=by
 obtain⟨h1,e1⟩:=QY.mp a
 obtain⟨h2,e2⟩:=QY.mp b
 exact(Xk hN).mp (e1.trans e2.symm)
def ph {M:Model}{A:RC}{E:tx->If->Prop}{i:Nat}{x:Str}{v:V}{u:tx}{Q:Unit->If->Prop}(I:Inv X pins σ H s)(hN:X.N.Nodup)(hi:X.N[i]?=some x)(hx:Loc X.env.scope x)(r:ba v u)
  (h:∀s',Inv X pins (σ.set i (some v)) H s'->(∃a,Tr a s.heap s'.heap/\(a=X.env.locals\/X.env.cells.lookup x=some a))->Q () s')(hf:X.fn x=true\/X.env.scope.names.lookup x=some .local:=by first|exact .inl rfl|exact .inr rfl|assumption):wpAny M A (storeName X.env x u) Q E s:=by
 obtain⟨m,hn,hl⟩:=id I.loc
 have hcls:(X.env.scope.kind==.class||(X.env.scope.kind==.module&&X.env.locals !=X.env.globals))=false:=by rw[I.ok.kind];rfl
 have hiσ:i<σ.length:=by rw[I.len];exact(QY.mp hi).1
 have cne:=I.cne
 have tracked:∀{a:Addr}{h':Heap},(∃o,s.heap.get? a=some o/\H a=none)->Tr a s.heap h'->HOk X.prog X.w H h':=fun{a h'} ha hs b ob e=>by
  obtain⟨_,_,hfree⟩:=ha
  refine(I.hok b ob e).stay (fun c w' hc q=>(hs.2 c ?_).trans q) (fun _ q=>q) fun _ _ q=>q
  rintro rfl
  rcases hc with rfl|hc
  ·rw[hfree]at e;cases e
  ·rw[hfree]at hc;cases hc
 rcases hx with hk|hk
 ·refine wpAny_storeName_local hk hn (fun h' hn' hs=>?_) hcls
  obtain⟨oL,_,_,hoL,_⟩:=id hn
  refine h _ ⟨I.ok,I.os,I.bare,⟨fun b o e n hb hx=>?_,fun b o e n hb hx=>?_,I.base.free,fun b o e hx=>?_,I.base.tups,I.base.frzs,I.base.tbls⟩,⟨_,hn',fun j y v' e1 e2 e3=>?_⟩,fun y c e=>?_,I.free,I.freeC,fun p hp=>?_,tracked ⟨oL,hoL,I.free⟩ hs,by simpa using I.len⟩ ⟨_,hs,.inl rfl⟩
  ·exact(hs.2 b (Rf (Ra (QV e) I.ok.above))).trans (I.base.keep b o e n hb hx)
  ·obtain⟨sl,e1⟩:=I.base.slot b o e n hb hx
   exact⟨sl,(hs.2 b (Rf (Ra (QV e) I.ok.above))).trans e1⟩
  ·obtain⟨o',e1⟩:=I.base.there b o e hx
   exact⟨o',(hs.2 b (Rf (Ra (QV e) I.ok.above))).trans e1⟩
  ·by_cases hj:j=i
   ·subst hj
    rw[hi]at e1;cases e1
    rw[Wd hiσ]at e2
    cases e2
    exact⟨u,r,.inl ⟨hk,by simp⟩⟩
   ·rw[Wy (QU hj)]at e2
    obtain⟨u',r',q⟩:=hl j y v' e1 e2 e3
    refine⟨u',r',?_⟩
    rcases q with⟨k,e⟩|⟨k,c,e,z⟩
    ·refine .inl ⟨k,?_⟩
     have:y≠x:=fun e=>hj (rT hN e1 (e▸hi))
     simp[this,e]
    ·exact .inr ⟨k,c,e,z.sameBut hs (cne y c e)⟩
  ·obtain⟨w',z⟩:=I.cell y c e
   exact⟨w',z.sameBut hs (cne y c e)⟩
  ·obtain⟨e,n,ne,nf,d⟩:=I.pin p hp
   exact⟨(hs.2 p.1 ne).trans e,n,ne,nf,d⟩
 ·have hfn:X.fn x=true:=by
   rcases hf with z|z
   ·exact z
   ·rw[z]at hk;cases hk
  obtain⟨c,hc⟩:=I.ok.has x (.inl hk)
  obtain⟨w',z⟩:=I.cell x c hc
  refine wpAny_storeName_cell I.ok.kind hk hc z (fun h' hc' hs=>?_)
  obtain⟨oc,hoc,hocd⟩:=id z
  refine h {s with heap:=h'} ⟨I.ok,I.os,I.bare,⟨fun b o e n hb hx=>?_,fun b o e n hb hx=>?_,I.base.free,fun b o e hx=>?_,I.base.tups,I.base.frzs,I.base.tbls⟩,⟨m,hn.sameBut hs (QU (cne x c hc)),fun j y v' e1 e2 e3=>?_⟩,fun y c' e=>?_,I.free,I.freeC,fun p hp=>?_,tracked ⟨oc,hoc,I.freeC x c hc⟩ hs,by simpa using I.len⟩ ⟨c,hs,.inr hc⟩
  ·exact(hs.2 b (Rf (Ra (QV e) (I.ok.cab x c hfn hc)))).trans (I.base.keep b o e n hb hx)
  ·obtain⟨sl,e1⟩:=I.base.slot b o e n hb hx
   exact⟨sl,(hs.2 b (Rf (Ra (QV e) (I.ok.cab x c hfn hc)))).trans e1⟩
  ·obtain⟨o',e1⟩:=I.base.there b o e hx
   exact⟨o',(hs.2 b (Rf (Ra (QV e) (I.ok.cab x c hfn hc)))).trans e1⟩
  ·by_cases hj:j=i
   ·subst hj
    rw[hi]at e1;cases e1
    rw[Wd hiσ]at e2
    cases e2
    exact⟨u,r,.inr ⟨.inl hk,c,hc,hc'⟩⟩
   ·rw[Wy (QU hj)]at e2
    obtain⟨u',r',q⟩:=hl j y v' e1 e2 e3
    refine⟨u',r',?_⟩
    rcases q with q|⟨k,c',e,z'⟩
    ·exact .inl q
    ·refine .inr ⟨k,c',e,z'.sameBut hs ?_⟩
     rintro rfl
     exact hj (rT hN e1 (I.ok.inj _ _ _ e hc▸hi))
  ·by_cases hcc:c'=c
   ·subst hcc;exact⟨_,hc'⟩
   ·obtain⟨w2,z2⟩:=I.cell y c' e
    exact⟨w2,z2.sameBut hs hcc⟩
  ·obtain⟨e,n,ne,nf,d⟩:=I.pin p hp
   refine⟨(hs.2 p.1 ?_).trans e,n,ne,nf,d⟩
   intro q
   rw[q,hoc]at e
   have q':oc=p.2:=QZ e
   exact d w' (by rw[<-q'];exact hocd)
def lX {M:Model}{A:RC}{E:tx->If->Prop}{i:Nat}{x:Str}{v:V}{u:tx}{Q:Unit->If->Prop}(I:Inv X pins σ H s)(hN:X.N.Nodup)(hi:X.N[i]?=some x)(hx:Loc X.env.scope x)(r:ba v u)
  (h:∀s',Inv X pins (σ.set i (some v)) H s'->Q () s')(hf:X.fn x=true\/X.env.scope.names.lookup x=some .local:=by first|exact .inl rfl|exact .inr rfl|assumption):wpAny M A (storeName X.env x u) Q E s:=
 ph I hN hi hx r (fun s' I' _=>h s' I') hf
def Inv.call' {s':If}{ch:List Addr}(I:Inv X pins σ H s)(ho:s'.os=s.os)(u:Un (frs X.stack) ch H H' s.heap s'.heap)(hok:HOk X.prog X.w H' s'.heap)(hg:Uu s'.gens)
  (hch:∀b∈ch,(b∈X.ex\/X.s₀.heap.objs.size<=b)/\b≠X.env.locals/\(∀x c,X.env.cells.lookup x=some c->c≠b)/\∀p∈X.pn++pins,p.1≠b):Inv X pins σ H' s':=by
 obtain⟨h',g',d',t',o'⟩:=s'
 have e:o'=s.os:=ho
 subst e
 exact I.call (g':=g') (t':=t') (d':=d') u hok hg hch
end
abbrev XK:=tx->Option Addr->Hp->Prop
abbrev St:=List (Option V)
abbrev VK:=V->Hp->Prop
abbrev TE:=St->Hp->VK->Prop
abbrev TT:=St->Hp->(Bool->Hp->Prop)->Prop
abbrev TA:=St->Hp->(List V->Hp->Prop)->Prop
structure fV where
 nx:St->Hp->Prop
 rt:VK
 bk:St->Hp->Prop:=fun _ _=>False
 ct:St->Hp->Prop:=fun _ _=>False
abbrev TS:=fV->St->Hp->Prop
def EP (X:Cx)(pins:List (Addr×Obj))(σ:St)(Q:VK)(u:tx)(s':If):Prop:=∃v H',Inv X pins σ H' s'/\ba v u/\Q v H'
def TP (X:Cx)(pins:List (Addr×Obj))(σ:St)(Q:Bool->Hp->Prop)(b:Bool)(s':If):Prop:=∃H',Inv X pins σ H' s'/\Q b H'
def AP (X:Cx)(pins:List (Addr×Obj))(σ:St)(Q:List V->Hp->Prop)(us:List tx)(s':If):Prop:=∃vs H',Inv X pins σ H' s'/\bc vs us/\Q vs H'
def SP (X:Cx)(pins:List (Addr×Obj))(D:fV)(f:Flow)(s':If):Prop:=
 match f with
 |.next=>∃σ' H',Inv X pins σ' H' s'/\D.nx σ' H'
 |.brk=>∃σ' H',Inv X pins σ' H' s'/\D.bk σ' H'
 |.cont=>∃σ' H',Inv X pins σ' H' s'/\D.ct σ' H'
 |.ret u=>∃v σ' H',Inv X pins σ' H' s'/\ba v u/\D.rt v H'
def PE (X:Cx)(e:Expr)(t:TE):Prop:=
 ∀(pins:List (Addr×Obj))(s:If)(σ:St)(H:Hp)(Q:VK),Inv X pins σ H s->t σ H Q->wpAny (model X.prog X.w) X.A (eval e X.env) (EP X pins σ Q) X.xe s
def PT (X:Cx)(e:Expr)(t:TT):Prop:=
 ∀(pins:List (Addr×Obj))(s:If)(σ:St)(H:Hp)(Q:Bool->Hp->Prop),Inv X pins σ H s->t σ H Q->wpAny (model X.prog X.w) X.A (isTrue e X.env (eval e X.env)) (TP X pins σ Q) X.xe s
def PW (X:Cx)(e:Expr)(t:TT):Prop:=
 ∀(whole:Sem tx)(pins:List (Addr×Obj))(s:If)(σ:St)(H:Hp)(Q:Bool->Hp->Prop),Inv X pins σ H s->t σ H Q->wpAny (model X.prog X.w) X.A (isTrue e X.env whole) (TP X pins σ Q) X.xe s
def PW.pt {X:Cx}{e:Expr}{t:TT}(h:PW X e t):PT X e t:=h _
def PA (X:Cx)(es:List Expr)(t:TA):Prop:=
 ∀(pos:Pos)(pins:List (Addr×Obj))(s:If)(σ:St)(H:Hp)(Q:List V->Hp->Prop),Inv X pins σ H s->t σ H Q->wpAny (model X.prog X.w) X.A (spliced (backTo pos (starEach es X.env))) (AP X pins σ Q) X.xe s
def PS (X:Cx)(st:Stmt)(t:TS):Prop:=
 ∀(pins:List (Addr×Obj))(s:If)(σ:St)(H:Hp)(D:fV),Inv X pins σ H s->t D σ H->wpAny (model X.prog X.w) X.A (exec st X.env) (SP X pins D) X.xe s
def PSs (X:Cx)(st:List Stmt)(t:TS):Prop:=
 ∀(pins:List (Addr×Obj))(s:If)(σ:St)(H:Hp)(D:fV),Inv X pins σ H s->t D σ H->wpAny (model X.prog X.w) X.A (execs st X.env) (SP X pins D) X.xe s
def thn {α:Type}{t:Sem α}{Q Q':α->If->Prop}{M:Model}{A:RC}{E:tx->If->Prop}{s:If}(h:wpAny M A t Q E s)(hQ:∀a s,Q a s->Q' a s):wpAny M A t Q' E s:=Rq h hQ fun _ _ x=>x
section
variable {X:Cx}
def OH (i:Nat):TE:=fun σ H Q=>∃v,σ[i]?=some (some v)/\Q v H
def tC (v:V):TE:=fun _ H Q=>Q v H
def Iw {i:Nat}{x:Str}{pos:Pos}(hN:X.N[i]?=some x)(hv:Vis X.env.scope x)(hd:(x==("__debug__":Str))=false:=by decide)(hcd:(x==("__classdict__":Str))=false:=by decide):PE X (.Name x pos) (OH i):=by
 intro pins s σ H Q I h
 obtain⟨v,e,h⟩:=h
 obtain⟨m,hn,hl⟩:=I.loc
 obtain⟨u,r,l⟩:=hl i x v hN e hv
 have fin:EP X pins σ Q u s:=⟨v,H,I,r,h⟩
 rcases l with⟨hk,hm⟩|⟨hk,c,hc,hcell⟩
 ·exact XW (wpAny_loadName_local I.ok.kind hk hn hm fin) hd
 ·rcases hk with hk|hk
  ·exact XW (wpAny_loadName_cell I.ok.kind hk hc hcell fin) hd
  ·exact XW (wpAny_loadName_free I.ok.kind hk hc hcell fin hcd) hd
def FU {i j pos}:PE X (.Constant (.int i) j pos) (tC (.int i)):=fun _ _ _ H _ I h=>wpAny_Constant_int ⟨.int i,H,I.tok _,⟨_,rfl⟩,h⟩
def KF {b j pos}:PE X (.Constant (.bool b) j pos) (tC (.bl b)):=fun _ _ _ H _ I h=>Constant_bool ⟨.bl b,H,I,rfl,h⟩
def Gj {j pos}:PE X (.Constant .none j pos) (tC .non):=fun _ _ _ H _ I h=>Constant_none ⟨.non,H,I,rfl,h⟩
def FI {x j pos}:PE X (.Constant (.str x) j pos) (tC (.str x)):=fun _ _ _ H _ I h=>Calls.Constant_str ⟨.str x,H,I.tok _,⟨_,rfl⟩,h⟩
def Gl (X:Cx)(x:Str):Prop:=X.env.kindOf x=some .globalImplicit
def gH {E:tx->If->Prop}{pins:List (Addr×Obj)}{s:If}{σ:St}{H:Hp}{x:Str}{u:tx}{pos:Pos}{Q:tx->If->Prop}(I:Inv X pins σ H s)(hg:Gl X x)(hm:X.mg x=some u)(h:Q u s)
  (hd:(x==("__debug__":Str))=false:=by decide):wpAny (model X.prog X.w) X.A (eval (.Name x pos) X.env) Q E s:=
 TF I.ok.kind hg (VJ (by rw[I.ok.glob];exact I.mod.glob.keeps I.bk) hm h) hd
def gT {E:tx->If->Prop}{pins:List (Addr×Obj)}{s:If}{σ:St}{H:Hp}{x:Str}{u:tx}{pos:Pos}{Q:tx->If->Prop}(I:Inv X pins σ H s)(hg:Gl X x)(hm:X.mg x=none)(hv:bootBuiltins x=some u)(h:Q u s)
  (hn:x≠"__name__":=by decide)(hd:(x==("__debug__":Str))=false:=by decide):wpAny (model X.prog X.w) X.A (eval (.Name x pos) X.env) Q E s:=by
 obtain⟨mb,h1,h2⟩:=I.mod.blt
 exact TF I.ok.kind hg (Calls.loadGlobal_builtin (by rw[I.ok.glob];exact I.mod.glob.keeps I.bk) hm (by rw[I.ok.blt];exact h1.keeps I.bk) ((h2 x hn).trans hv) h) hd
def oq {x:Str}{v:V}{u:tx}{pos:Pos}(hg:Gl X x)(hm:X.mg x=some u)(r:ba v u)(hd:(x==("__debug__":Str))=false:=by decide):PE X (.Name x pos) (tC v):=
 fun _ _ _ H _ I h=>gH I hg hm ⟨v,H,I,r,h⟩ hd
def DR {x:Str}{v:V}{u:tx}{pos:Pos}(hg:Gl X x)(hm:X.mg x=none)(hv:bootBuiltins x=some u)(r:ba v u)(hn:x≠"__name__":=by decide)(hd:(x==("__debug__":Str))=false:=by decide):PE X (.Name x pos) (tC v):=
 fun _ _ _ H _ I h=>gT I hg hm hv ⟨v,H,I,r,h⟩ hn hd
variable {a b:Expr}{ta tb:TE}{pos:Pos}
variable {tA tB':TT}{cH:List Expr}
def dL (t:TT):TT:=fun σ H Q=>t σ H fun c H1=>Q (!c) H1
def DM (ha:PT X a tA):PW X (.BoolOp .And [a] pos) tA:=by
 intro wh pins s σ H Q I h
 refine isTrue_and (thn (ha pins s σ H Q I h) fun c s1 e=>?_)
 cases c with
 |true=>exact isTrue_and_nil e
 |false=>exact e
def EY (ha:PT X a tA):PW X (.BoolOp .Or [a] pos) tA:=by
 intro wh pins s σ H Q I h
 refine isTrue_or (thn (ha pins s σ H Q I h) fun c s1 e=>?_)
 cases c with
 |false=>exact isTrue_or_nil e
 |true=>exact e
def HB (ha:PT X a tA):PT X (.UnaryOp .Not a pos) (dL tA):=by
 intro pins s σ H Q I h
 exact isTrue_not (ha pins s σ H (fun c H1=>Q (!c) H1) I h)
def HW {op}{t:TE}(h:PE X a t):PE X (.BoolOp op [a] pos) t:=fun pins s σ H Q I hw=>BoolOp_one (h pins s σ H Q I hw)
end
def SqL (K:cW)(H:Hp)(a:Addr)(xs:List V):Prop:=
 Rd H a (.lst xs)\/
  ∃(o:Obj)(its:Array tx)(n:Nat),K.lookup a=some o/\o.cls=.type "list"/\o.dict=none/\o.data=.seq its n/\its.size<=sizeLine/\bc xs its.toList
def SqT (K:cW)(H:Hp)(a:Addr)(xs:List V):Prop:=
 Rd H a (.tup xs)\/
  ∃(o:Obj)(its:Array tx)(n:Nat),K.lookup a=some o/\o.cls=.type "tuple"/\o.data=.seq its n/\its.size<=sizeLine/\bc xs its.toList
def Pw:tx->Option V
 |.none=>some .non
 |.bool b=>some (.bl b)
 |.int i _=>some (.int i)
 |.str x _=>some (.str x)
 |.bytes b _=>some (.byt b)
 |.float b _=>some (.flt b)
 |.ref a=>some (.ref a)
 |.type n=>some (.ty n)
 |_=>none
def ba.abs {x:V}{u:tx}(r:ba x u):Pw u=some x:=by
 cases x with
 |non=>cases r;rfl
 |bl _=>cases r;rfl
 |int _=>obtain⟨t,rfl⟩:=r;rfl
 |str _=>obtain⟨t,rfl⟩:=r;rfl
 |byt _=>obtain⟨t,rfl⟩:=r;rfl
 |flt _=>obtain⟨t,rfl⟩:=r;rfl
 |ref _=>cases r;rfl
 |ty _=>cases r;rfl
def ba.inj {x y:V}{u:tx}(r:ba x u)(q:ba y u):x=y:=QZ (r.abs.symm.trans q.abs)
theorem bc.inj:∀{xs ys:List V}{us:List tx},bc xs us->bc ys us->xs=ys
 |_,_,_,.nil,.nil=>rfl
 |_,_,_,.cons r t,.cons r' t'=>by rw[r.inj r',bc.inj t t']
section
variable {X:Cx}{pins:List (Addr×Obj)}{σ:St}{H:Hp}{s:If}{a:Addr}{xs ys:List V}
def SqL.of {K:cW}(h:H a=some (.lst xs)):SqL K H a xs:=.inl (.inl h)
def SqT.of {K:cW}(h:H a=some (.tup xs)):SqT K H a xs:=.inl (.inl h)
def Inv.list (I:Inv X pins σ H s)(h:SqL X.K H a xs):∃its:List tx,bc xs its/\PlainL s.heap a its.toArray/\xs.length<=sizeLine:=by
 rcases h with h|⟨o,its,n,hk,hc,hd,hs,hz,r⟩
 ·obtain⟨z,its,n,r,e⟩:=h.ok I.hok
  exact⟨its,r,⟨_,n,e,rfl,rfl,rfl⟩,z⟩
 ·refine⟨its.toList,r,⟨o,n,I.kIn a o hk,hc,hd,by simpa using hs⟩,?_⟩
  have e:=r.length
  simp only[SZ]at e
  omega
def Inv.tuple (I:Inv X pins σ H s)(h:SqT X.K H a xs):∃its:List tx,bc xs its/\VL s.heap a its.toArray/\xs.length<=sizeLine:=by
 rcases h with h|⟨o,its,n,hk,hc,hs,hz,r⟩
 ·obtain⟨z,its,r,p⟩:=h.ok I.hok
  exact⟨its,r,p,z⟩
 ·refine⟨its.toList,r,⟨o,I.kIn a o hk,hc,n,by simpa using hs⟩,?_⟩
  have e:=r.length
  simp only[SZ]at e
  omega
def Inv.list_inj (I:Inv X pins σ H s)(h:SqL X.K H a xs)(h':SqL X.K H a ys):xs=ys:=by
 obtain⟨its,r,⟨o,n,e,_,_,d⟩,_⟩:=I.list h
 obtain⟨its',r',⟨o',n',e',_,_,d'⟩,_⟩:=I.list h'
 rw[e]at e';cases e'
 rw[d]at d'
 injection d' with d1 _
 have:its=its':=by simpa using congrArg XM d1
 subst this
 exact r.inj r'
def Inv.tuple_inj (I:Inv X pins σ H s)(h:SqT X.K H a xs)(h':SqT X.K H a ys):xs=ys:=by
 obtain⟨its,r,⟨o,e,_,n,d⟩,_⟩:=I.tuple h
 obtain⟨its',r',⟨o',e',_,n',d'⟩,_⟩:=I.tuple h'
 rw[e]at e';cases e'
 rw[d]at d'
 injection d' with d1 _
 have:its=its':=by simpa using congrArg XM d1
 subst this
 exact r.inj r'
end
abbrev Cx.wish (X:Cx)(E:tx->If->Prop):Cx:={X with xe:=E}
abbrev Cx.nox (X:Cx):Cx:=X.wish fun _ _=>False
def Cx.Ok.wish {X:Cx}(ok:X.Ok)(E:tx->If->Prop):(X.wish E).Ok:=
 ⟨ok.mod,ok.kind,ok.glob,ok.blt,ok.above,ok.inj,ok.has,ok.cab,ok.hd,ok.frames,ok.stk,ok.exf,ok.bs,ok.bsz,ok.noex,ok.exfs,ok.funs,ok.frf⟩
def Cx.Ok.unwish {X:Cx}{E:tx->If->Prop}(ok:(X.wish E).Ok):X.Ok:=
 ⟨ok.mod,ok.kind,ok.glob,ok.blt,ok.above,ok.inj,ok.has,ok.cab,ok.hd,ok.frames,ok.stk,ok.exf,ok.bs,ok.bsz,ok.noex,ok.exfs,ok.funs,ok.frf⟩
section
variable {X:Cx}{pins:List (Addr×Obj)}{σ:St}{H:Hp}{s:If}{E:tx->If->Prop}
def Inv.wish (I:Inv X pins σ H s)(E:tx->If->Prop):Inv (X.wish E) pins σ H s:=⟨I.ok.wish E,I.os,I.bare,I.base,I.loc,I.cell,I.free,I.freeC,I.pin,I.hok,I.len⟩
def Inv.unwish (I:Inv (X.wish E) pins σ H s):Inv X pins σ H s:=⟨I.ok.unwish,I.os,I.bare,I.base,I.loc,I.cell,I.free,I.freeC,I.pin,I.hok,I.len⟩
def SP.unwish {D:fV}{f:Flow}{s':If}(h:SP (X.wish E) pins D f s'):SP X pins D f s':=by
 cases f with
 |next=>obtain⟨σ',H',I,q⟩:=h;exact⟨σ',H',I.unwish,q⟩
 |brk=>obtain⟨σ',H',I,q⟩:=h;exact⟨σ',H',I.unwish,q⟩
 |cont=>obtain⟨σ',H',I,q⟩:=h;exact⟨σ',H',I.unwish,q⟩
 |ret u=>obtain⟨v,σ',H',I,r,q⟩:=h;exact⟨v,σ',H',I.unwish,r,q⟩
def PE.nox {e:Expr}{t:TE}(h:PE X.nox e t):PE X e t:=fun pins s σ H Q I hw=>
 Rq (h pins s σ H Q (I.wish _) hw) (fun _ _ ⟨v,H',I',r,q⟩=>⟨v,H',I'.unwish,r,q⟩) fun _ _ z=>Rw z
def PSs.nox {st:List Stmt}{t:TS}(h:PSs X.nox st t):PSs X st t:=fun pins s σ H D I hw=>
 Rq (h pins s σ H D (I.wish _) hw) (fun _ _ q=>q.unwish) fun _ _ z=>Rw z
end
section
variable {X:Cx}{st:Stmt}{cH:List Stmt}{t u:TS}{e:Expr}{te:TE}{pos:Pos}
def aY:TS:=fun D σ H=>D.nx σ H
def ax (t u:TS):TS:=fun D σ H=>t {D with nx:=u D} σ H
def Ek:PSs X [] aY:=fun _ _ σ H _ I h=>TZ ⟨σ,H,I,h⟩
def yl (h1:PS X st t)(h2:PSs X cH u):PSs X (st::cH) (ax t u):=by
 intro pins s σ H D I h
 refine Uy (thn (h1 pins s σ H {D with nx:=u D} I h) fun f s1 q=>?_)
 cases f with
 |next=>
  obtain⟨σ',H',I',q⟩:=q
  exact h2 pins s1 σ' H' D I' q
 |ret v=>exact q
 |brk=>exact q
 |cont=>exact q
def Eo (h1:PS X st t):PSs X [st] t:=by
 intro pins s σ H D I h
 refine Uy (thn (h1 pins s σ H D I h) fun f s1 q=>?_)
 cases f with
 |next=>exact TZ q
 |ret v=>exact q
 |brk=>exact q
 |cont=>exact q
def Inv.quiet {pins:List (Addr×Obj)}{σ:St}{H:Hp}{s:If}(I:Inv X pins σ H s):interactive X.env=false:=by simp[interactive,I.ok.kind]
def bK (te:TE):TS:=fun D σ H=>te σ H fun _ H1=>D.nx σ H1
def DA (he:PE X e te)(hs:swapsWith e none pos.line X.env=pure false:=by rfl):PS X (.Expr e pos) (bK te):=by
 intro pins s σ H D I h
 exact wpAny_Expr_any (thn (he pins s σ H _ I h) fun v s1 ⟨x,H1,I1,r1,q1⟩=>⟨σ,H1,I1,q1⟩) I.quiet hs
def aC (te:TE):TS:=fun D σ H=>te σ H D.rt
def Fc (he:PE X e te):PS X (.Return (some e) pos) (aC te):=by
 intro pins s σ H D I h
 exact XU (thn (he pins s σ H _ I h) fun v s1 ⟨x,H1,I1,r1,q1⟩=>⟨x,σ,H1,I1,r1,q1⟩)
def dJ:TS:=fun _ _ _=>False
def zQ:PS X st dJ:=fun _ _ _ _ _ _ h=>h.elim
end
abbrev TG:=V->St->Hp->(St->Hp->Prop)->Prop
abbrev TGs:=List V->St->Hp->(St->Hp->Prop)->Prop
def PG (X:Cx)(target:Expr)(t:TG):Prop:=
 ∀(pins:List (Addr×Obj))(s:If)(σ:St)(H:Hp)(v:V)(u:tx)(Q:St->Hp->Prop),Inv X pins σ H s->ba v u->t v σ H Q->
  wpAny (model X.prog X.w) X.A (assign target X.env u) (fun _ s'=>∃σ' H',Inv X pins σ' H' s'/\Q σ' H') X.xe s
def PGs (X:Cx)(ts:List Expr)(t:TGs):Prop:=
 ∀(pins:List (Addr×Obj))(s:If)(σ:St)(H:Hp)(vs:List V)(us:List tx)(Q:St->Hp->Prop),Inv X pins σ H s->bc vs us->t vs σ H Q->
  wpAny (model X.prog X.w) X.A (assignInOrder ((assignEach ts X.env).map (·.2)) us) (fun _ s'=>∃σ' H',Inv X pins σ' H' s'/\Q σ' H') X.xe s
abbrev Az:=V->V->V->Hp->(Hp->Prop)->Prop
def vJ (X:Cx)(t:Az):Prop:=
 ∀(pins:List (Addr×Obj))(s:If)(σ:St)(H:Hp)(o i v:V)(ov iv u:tx)(Q:Hp->Prop),Inv X pins σ H s->ba o ov->ba i iv->ba v u->t o i v H Q->
  wpAny (model X.prog X.w) X.A (setItem ov iv u) (fun _ s'=>∃H',Inv X pins σ H' s'/\Q H') X.xe s
section
variable {X:Cx}{pos:Pos}
def aE (i:Nat):TG:=fun v σ H Q=>Q (σ.set i (some v)) H
def oh {i:Nat}{x:Str}(hN:X.N.Nodup)(hi:X.N[i]?=some x)(hx:Loc X.env.scope x)(hf:X.fn x=true\/X.env.scope.names.lookup x=some .local:=by first|exact .inl rfl|exact .inr rfl|assumption):PG X (.Name x pos) (aE i):=by
 intro pins s σ H v u Q I r h
 exact Vr (lX I hN hi hx r (fun s' I'=>⟨_,H,I',h⟩) hf)
def zO:TGs:=fun vs σ H Q=>vs=[]/\Q σ H
def ng (t:TG)(u:TGs):TGs:=fun vs σ H Q=>∃v r,vs=v::r/\t v σ H fun σ' H'=>u r σ' H' Q
def DV:PGs X [] zO:=by
 intro pins s σ H vs us Q I r h
 obtain⟨e,h⟩:=h
 subst e
 cases r
 exact assignInOrder_nil ⟨σ,H,I,h⟩
def rH {e:Expr}{es:List Expr}{t:TG}{u:TGs}(h1:PG X e t)(h2:PGs X es u)
  (hs:(assignEach (e::es) X.env).map (·.2)=assign e X.env::(assignEach es X.env).map (·.2):=by rfl):PGs X (e::es) (ng t u):=by
 intro pins s σ H vs us Q I r h
 obtain⟨v,vr,e1,h⟩:=h
 subst e1
 cases r with
 |cons r rr=>
  rw[hs]
  refine assignInOrder_cons (thn (h1 pins s σ H _ _ _ I r h) fun _ s1 ⟨σ1,H1,I1,q1⟩=>?_)
  exact h2 pins s1 σ1 H1 _ _ Q I1 rr q1
def gZ (to ti:TE)(t:Az):TG:=fun v σ H Q=>to σ H fun o H1=>ti σ H1 fun i H2=>t o i v H2 fun H3=>Q σ H3
def HD {o i:Expr}{to ti:TE}{t:Az}(ho:PE X o to)(hi:PE X i ti)(hs:vJ X t)
  (ha:∀v,assign (.Subscript o i pos) X.env v=(do
   let ov<-holding [v] (eval o X.env)
   let iv<-holding [v,ov] (eval i X.env)
   standAt pos
   holding [v,ov,iv] (setItem ov iv v)
   release [v,ov,iv] []):=by intro _;rfl):PG X (.Subscript o i pos) (gZ to ti t):=by
 intro pins s σ H v u Q I r h
 rw[ha]
 refine pv (SH (thn (ho pins s σ H _ I h) fun ov s1 ⟨x,H1,I1,r1,q1⟩=>?_))
 refine pv (SH (thn (hi pins s1 σ H1 _ I1 q1) fun iv s2 ⟨y,H2,I2,r2,q2⟩=>?_))
 refine pv (Us (pv (SH (thn (hs pins s2 σ H2 x y v ov iv u _ I2 r1 r2 r q2) fun _ s3 ⟨H3,I3,q3⟩=>?_))))
 exact wpAny_release ⟨σ,H3,I3,q3⟩
def aN (te:TE)(g:TG):TS:=fun D σ H=>te σ H fun x H1=>g x σ H1 D.nx
def wK {tg e:Expr}{te:TE}{g:TG}(he:PE X e te)(hg:PG X tg g)(hs:swapsWithSole [tg] e pos.line X.env=pure false:=by rfl)(hw:swappedStores [tg] e X.env=pure none:=by rfl)
  (h1:(assignEach [tg] X.env).map (·.2)=[assign tg X.env]:=by rfl):PS X (.Assign [tg] e pos) (aN te g):=by
 intro pins s σ H D I h
 refine wpAny_Assign_stores (thn (he pins s σ H _ I h) fun v s1 ⟨x,H1,I1,r1,q1⟩=>?_) hs hw
 rw[h1]
 exact thn (hg pins s1 σ H1 x v _ I1 r1 q1) fun _ s2 q=>q
def HE {i:Nat}{x:Str}{e:Expr}{te:TE}{pos':Pos}(hN:X.N.Nodup)(hi:X.N[i]?=some x)(hx:Loc X.env.scope x)(he:PE X e te)(hs:swapsWith e (some (.Name x pos')) pos.line X.env=pure false:=by rfl)(hf:X.fn x=true\/X.env.scope.names.lookup x=some .local:=by first|exact .inl rfl|exact .inr rfl|assumption):
  PS X (.Assign [.Name x pos'] e pos) (aN te (aE i)):=by
 intro pins s σ H D I h
 refine wpAny_Assign_Name (thn (he pins s σ H _ I h) fun v s1 ⟨y,H1,I1,r1,q1⟩=>?_) hs
 exact lX I1 hN hi hx r1 (fun s2 I2=>⟨_,H1,I2,q1⟩) hf
end
section
variable {X:Cx}{pos:Pos}
def mJ (c:TT)(tb:TS):TS:=fun D σ H=>∃W:Nat->St->Hp->Prop,(∃m,W m σ H)/\∀m σ H,W m σ H->
 c σ H fun b H1=>if b=true then ∃N:St->Hp->Prop,(∀σ' H',N σ' H'->∃m',m'<m/\W m' σ' H')/\tb {D with nx:=N,ct:=N,bk:=D.nx} σ H1 else D.nx σ H1
def Aq {c:Expr}{body:List Stmt}{tc:TT}{tb:TS}(hp:Xd (model X.prog X.w) X.A X.env X.xe)(hc:PT X c tc)(hb:PSs X body tb):PS X (.While c body [] pos) (mJ tc tb):=by
 intro pins s σ H D I h
 obtain⟨W,⟨m0,w0⟩,turn⟩:=h
 refine wpAny_While (codeAny_whileLoop (fun n s'=>∃σ' H',Inv X pins σ' H' s'/\W n σ' H') ?_ m0 ⟨σ,H,I,w0⟩)
 rintro n s1 ⟨σ1,H1,I1,w1⟩
 refine SS hp (thn (hc pins s1 σ1 H1 _ I1 (turn n σ1 H1 w1)) fun b s2 ⟨H2,I2,q2⟩=>?_)
 cases b with
 |true=>
  obtain⟨N,hN,q2⟩:=q2
  rw[if_pos rfl]
  refine SS hp (thn (hb pins s2 σ1 H2 _ I2 q2) fun f s3 q3=>?_)
  cases f with
  |next=>
   obtain⟨σ3,H3,I3,n3⟩:=q3
   obtain⟨m',hm,w3⟩:=hN σ3 H3 n3
   exact⟨m',hm,σ3,H3,I3,w3⟩
  |cont=>
   obtain⟨σ3,H3,I3,n3⟩:=q3
   obtain⟨m',hm,w3⟩:=hN σ3 H3 n3
   exact⟨m',hm,σ3,H3,I3,w3⟩
  |brk=>exact q3
  |ret v=>exact q3
 |false=>
  rw[if_neg Rg]
  exact TZ ⟨σ1,H2,I2,q2⟩
end
structure It where
 go:Nat->Hp->Prop
 yld:Nat->Hp->V->Hp->Prop
 stop:Nat->Hp->Prop
def kI (X:Cx)(pins:List (Addr×Obj))(H:Hp)(b:Addr):Prop:=
 H b=none/\b≠X.env.locals/\b∉X.fs/\(b∈X.ex\/X.s₀.heap.objs.size<=b)/\(∀x c,X.env.cells.lookup x=some c->c≠b)/\∀p∈X.pn++pins,p.1≠b
def Inv.fpOk {X:Cx}{pins:List (Addr×Obj)}{σ:St}{H H':Hp}{s:If}{b:Addr}(I:Inv X pins σ H s)(hb:s.heap.objs.size<=b)(hn:H' b=none):kI X pins H' b:=by
 refine⟨hn,Nat.ne_of_gt (Ra I.lt hb),I.nofs hb,.inr (Rl I.sz hb),fun x c e z=>?_,fun p hp z=>?_⟩
 ·obtain⟨v,q⟩:=I.cell x c e
  exact absurd (Ra q.lt (by rw[z];exact hb)) (Ss _)
 ·exact absurd (Ra (QV (I.pin p hp).1) (by rw[z];exact hb)) (Ss _)
structure oM (P:Rh)(w:RF)(K:cW)(tg:Expr)(J:It)(fp:List Addr)(it:Addr)(tn:Nat->Heap->Prop):Prop where
 mem:it∈fp
 obj:∀i h,tn i h->∀b∈fp,∃o,h.get? b=some o/\∀v,o.data≠.cell v
 keep:∀i h h',tn i h->(∀b∈fp,∀o,h.get? b=some o->h'.get? b=some o)->tn i h'
 item:∀(X:Cx),X.prog=P->X.w=w->X.K=K->X.calm=true->∀(i:Nat)(pins:List (Addr×Obj))(s:If)(σ:St)(H:Hp)(E:tx->If->Prop),Inv X pins σ H s->(∀b∈fp,kI X pins H b)->tn i s.heap->J.go i H->
  wpAny (model P w) X.A (pyNext (.ref it)) (fun r s1=>∃u,r=some u/\
   wpAny (model P w) X.A (letOwnedTupleGo tg (.ref it) u) (fun _ s2=>∃x H',Inv X pins σ H' s2/\ba x u/\J.yld i H x H'/\tn (i+1) s2.heap/\∀b∈fp,H' b=none) E s1) E s
 done:∀(X:Cx),X.prog=P->X.w=w->X.K=K->X.calm=true->∀(i:Nat)(pins:List (Addr×Obj))(s:If)(σ:St)(H:Hp)(E:tx->If->Prop),Inv X pins σ H s->(∀b∈fp,kI X pins H b)->tn i s.heap->J.stop i H->
  wpAny (model P w) X.A (pyNext (.ref it)) (fun r s1=>r=none/\Inv X pins σ H s1) E s
 self:∀(A:RC)(i:Nat)(s:If)(Q:tx->If->Prop)(E:tx->If->Prop),tn i s.heap->Q (.ref it) s->wpAny (model P w) A (pyIter (.ref it)) Q E s
abbrev TI:=St->Hp->(It->Hp->Prop)->Prop
def PIE (X:Cx)(pins:List (Addr×Obj))(σ:St)(tg:Expr)(R:It->Hp->Prop)(itv:tx)(s2:If):Prop:=
 ∃(it:Addr)(fp:List Addr)(tn:Nat->Heap->Prop)(J:It)(H':Hp),itv=.ref it/\Inv X pins σ H' s2/\oM X.prog X.w X.K tg J fp it tn/\tn 0 s2.heap/\(∀b∈fp,kI X pins H' b)/\R J H'
def PI (X:Cx)(tg iter:Expr)(wi:TI):Prop:=
 ∀(pins:List (Addr×Obj))(s:If)(σ:St)(H:Hp)(R:It->Hp->Prop),Inv X pins σ H s->wi σ H R->
  wpAny (model X.prog X.w) X.A (eval iter X.env) (fun v s1=>wpAny (model X.prog X.w) X.A (pyIter v) (PIE X pins σ tg R) X.xe s1) X.xe s
def qP {M:Model}{A:RC}{E:tx->If->Prop}{s:If}{tg:Expr}{it:Addr}{u:tx}{o:Obj}{n:String}{vs:Array tx}{Q:Unit->If->Prop}(ho:s.heap.get? it=some o)(hc:o.cls=.type n)(hd:o.data=.fields vs)
  (hn:["enumerate","zip","dict_itemiterator","dict_reverseitemiterator","odict_iterator","itertools.zip_longest","itertools.pairwise"].contains n=false)(hQ:Q () s):wpAny M A (letOwnedTupleGo tg (.ref it) u) Q E s:=by
 unfold letOwnedTupleGo
 cases tg<;>first
  |exact QL hQ
  |(cases u<;>first
   |exact QL hQ
   |(refine pv (XT ho ?_)
     rw[hc,hd]
     show wpAny M A (if (["enumerate","zip","dict_itemiterator","dict_reverseitemiterator","odict_iterator","itertools.zip_longest","itertools.pairwise"].contains n&&vs[0]? ==some (rawInt _))=true then _ else _) Q E s
     rw[if_neg (by intro h;rw[hn,VF]at h;cases h)]
     exact QL hQ))
def Itl (K:cW)(a:Addr):It:=
 ⟨fun i H=>∃xs x,SqL K H a xs/\xs[i]?=some x,fun i H x H'=>H'=H/\∀xs,SqL K H a xs->xs[i]?=some x,fun i H=>∃xs,SqL K H a xs/\xs.length<=i⟩
def Itt (K:cW)(a:Addr):It:=
 ⟨fun i H=>∃xs x,SqT K H a xs/\xs[i]?=some x,fun i H x H'=>H'=H/\∀xs,SqT K H a xs->xs[i]?=some x,fun i H=>∃xs,SqT K H a xs/\xs.length<=i⟩
def Itr (lo:Int)(n:Nat):It:=⟨fun i _=>i<n,fun i H x H'=>H'=H/\x=.int (lo+i),fun i _=>n<=i⟩
def wQ {P:Rh}{w:RF}{K:cW}{tg:Expr}(a it:Addr):oM P w K tg (Itl K a) [it] it (fun i h=>h.IsListIter it a i)where
 mem:=by simp
 obj:=fun i h st b hb=>by
  have e:b=it:=by simpa using hb
  subst e
  obtain⟨o,e,c,d⟩:=st
  exact⟨o,e,fun v z=>by rw[d]at z;cases z⟩
 keep:=fun i h h' st k=>st.at fun o e=>k it (by simp) o e
 item:=by
  intro X hP hw hK hc i pins s σ H E I hf st hg
  subst hP hw hK
  obtain⟨xs,x,hq,hx⟩:=hg
  obtain⟨its,rv,p,hz⟩:=I.list hq
  obtain⟨u,hu,ru⟩:=rv.get hx
  obtain⟨f0,f1,f2,f3,f4,f5⟩:=hf it (by simp)
  refine wpAny_pyNext_list_item st p.isList (x:=u) (by simpa using hu) fun h' st' sb=>?_
  have I1:Inv X pins σ H {s with heap:=h'}:=I.turned (t':=s.toks) (fun b o hb e=>(sb.2 b hb).trans e) f0 f1 f3 f4 f5
  obtain⟨o,e,c,d⟩:=id st'
  exact⟨u,rfl,qP (s:={s with heap:=h'}) e c d (by decide) ⟨x,H,I1,ru,⟨rfl,fun ys hy=>by rw[I.list_inj hy hq];exact hx⟩,st',fun b hb=>(hf b hb).1⟩⟩
 done:=by
  intro X hP hw hK hc i pins s σ H E I hf st hg
  subst hP hw hK
  obtain⟨xs,hq,hx⟩:=hg
  obtain⟨its,rv,p,hz⟩:=I.list hq
  obtain⟨f0,f1,f2,f3,f4,f5⟩:=hf it (by simp)
  have hl:=rv.length
  exact wpAny_pyNext_list_end (I.ok.hd hc) st p.isList (by simp;omega) fun h' eb=>⟨rfl,I.turned (t':=s.toks) (fun b o hb e=>eb b o hb e) f0 f1 f3 f4 f5⟩
 self:=fun _ _ _ _ _ st h=>wpAny_pyIter_listiter st h
def uU {P:Rh}{w:RF}{K:cW}{tg:Expr}(a it:Addr):oM P w K tg (Itt K a) [it] it (fun i h=>h.IsTupleIter it a i)where
 mem:=by simp
 obj:=fun i h st b hb=>by
  have e:b=it:=by simpa using hb
  subst e
  obtain⟨o,e,c,d⟩:=st
  exact⟨o,e,fun v z=>by rw[d]at z;cases z⟩
 keep:=fun i h h' st k=>st.at fun o e=>k it (by simp) o e
 item:=by
  intro X hP hw hK hc i pins s σ H E I hf st hg
  subst hP hw hK
  obtain⟨xs,x,hq,hx⟩:=hg
  obtain⟨its,rv,p,hz⟩:=I.tuple hq
  obtain⟨u,hu,ru⟩:=rv.get hx
  obtain⟨f0,f1,f2,f3,f4,f5⟩:=hf it (by simp)
  refine wpAny_pyNext_tuple_item st (show s.heap.IsTuple a its.toArray from p) (x:=u) (by simpa using hu) fun h' st' sb=>?_
  have I1:Inv X pins σ H {s with heap:=h'}:=I.turned (t':=s.toks) (fun b o hb e=>(sb.2 b hb).trans e) f0 f1 f3 f4 f5
  obtain⟨o,e,c,d⟩:=id st'
  exact⟨u,rfl,qP (s:={s with heap:=h'}) e c d (by decide) ⟨x,H,I1,ru,⟨rfl,fun ys hy=>by rw[I.tuple_inj hy hq];exact hx⟩,st',fun b hb=>(hf b hb).1⟩⟩
 done:=by
  intro X hP hw hK hc i pins s σ H E I hf st hg
  subst hP hw hK
  obtain⟨xs,hq,hx⟩:=hg
  obtain⟨its,rv,p,hz⟩:=I.tuple hq
  obtain⟨f0,f1,f2,f3,f4,f5⟩:=hf it (by simp)
  have hl:=rv.length
  exact wpAny_pyNext_tuple_end (I.ok.hd hc) st (show s.heap.IsTuple a its.toArray from p) (by simp;omega) fun h' eb=>⟨rfl,I.turned (t':=s.toks) (fun b o hb e=>eb b o hb e) f0 f1 f3 f4 f5⟩
 self:=fun _ _ _ _ _ st h=>wpAny_pyIter_tupleiter st h
def vp {P:Rh}{w:RF}{K:cW}{tg:Expr}(it:Addr)(lo:Int)(n:Nat):oM P w K tg (Itr lo n) [it] it (fun i h=>IsRangeIter h it (lo+(i:Nat)*1) ((n:Int)- (i:Nat)) 1)where
 mem:=by simp
 obj:=fun i h st b hb=>by
  have e:b=it:=by simpa using hb
  subst e
  exact⟨_,st,fun v z=>by
   have z':Data.fields _=Data.cell v:=z
   cases z'⟩
 keep:=fun i h h' st k=>k it (by simp) _ st
 item:=by
  intro X hP hw hK hc i pins s σ H E I hf st hg
  subst hP hw hK
  obtain⟨f0,f1,f2,f3,f4,f5⟩:=hf it (by simp)
  have W:=Walks.range (prog:=X.prog) (w:=X.w) (I.ok.hd hc) it lo 1 n
  refine W.item i s _ _ hg st fun v h' tk hv st' kk=>?_
  obtain⟨t,rfl⟩:=hv
  have I1:Inv X pins σ H {s with heap:=h',toks:=tk}:=I.turned (fun b o hb e=>kk b o (by simpa using hb) e) f0 f1 f3 f4 f5
  refine⟨_,rfl,qP (s:={s with heap:=h',toks:=tk}) (n:="range_iterator") st' rfl rfl (by decide) ⟨.int (lo+i),H,I1,⟨t,?_⟩,⟨rfl,rfl⟩,st',fun b hb=>(hf b hb).1⟩⟩
  rw[Int.mul_one]
 done:=by
  intro X hP hw hK hc i pins s σ H E I hf st hg
  subst hP hw hK
  obtain⟨f0,f1,f2,f3,f4,f5⟩:=hf it (by simp)
  exact wpAny_pyNext_range_end (I.ok.hd hc) st (by have:n<=i:=hg;omega) fun h' eb=>⟨rfl,I.turned (t':=s.toks) (fun b o hb e=>eb b o hb e) f0 f1 f3 f4 f5⟩
 self:=fun _ _ _ _ _ st h=>wpAny_pyIter_rangeiter st h
section
variable {X:Cx}{tg:Expr}
def sR {pins:List (Addr×Obj)}{σ:St}{H:Hp}{s:If}{R:It->Hp->Prop}{E:tx->If->Prop}{lo hi:Int}{t u v:Tok}{tk:Nat}(I:Inv X pins σ H s)(h1: -(2^62)<=lo)(h2:lo<2^62)(h3: -(2^62)<=hi)(h4:hi<2^62)
  (q:R (Itr lo (hi- lo).toNat) H):wpAny (model X.prog X.w) X.A (pyIter (.ref s.heap.objs.size)) (PIE X pins σ tg R) E {s with heap:=s.heap.push {cls:=.type "range",data:=.fields #[.int lo t,.int hi u,.int 1 v]},toks:=tk}:=by
 refine wpAny_pyIter_range (IsRange.new ..) (small_one h1 h2 h3 h4) ?_
 have I1:Inv X pins σ H {s with heap:=s.heap.push {cls:=.type "range",data:=.fields #[.int lo t,.int hi u,.int 1 v]},toks:=tk}:=I.kept fun b o e=>Lt _ e
 refine⟨(s.heap.push {cls:=.type "range",data:=.fields #[.int lo t,.int hi u,.int 1 v]}).objs.size,[(s.heap.push {cls:=.type "range",data:=.fields #[.int lo t,.int hi u,.int 1 v]}).objs.size],_,_,H,rfl,
  I1.kept (t':=tk) fun b o e=>Lt _ e,vp _ lo (hi- lo).toNat,?_,fun b hb=>?_,q⟩
 ·have e1:lo+((0:Nat):Int)*1=lo:=by simp
  have e2:(((hi- lo).toNat:Nat):Int)- ((0:Nat):Int)=Yp lo hi 1:=by rw[rangeSize_one];split<;>omega
  show IsRangeIter _ _ (lo+((0:Nat):Int)*1) ((((hi- lo).toNat:Nat):Int)- ((0:Nat):Int)) 1
  rw[e1,e2]
  exact QX _ rfl
 ·have e:b=(s.heap.push {cls:=.type "range",data:=.fields #[.int lo t,.int hi u,.int 1 v]}).objs.size:=by simpa using hb
  subst e
  exact I1.fpOk (gV _) (I1.hok.fresh (gV _))
def mR (ta:TA):TI:=fun σ H R=>ta σ H fun vs H1=>∃j:Int,vs=[.int j]/\ -(2^62)<=j/\j<2^62/\R (Itr 0 j.toNat) H1
def vF (ta:TA):TI:=fun σ H R=>ta σ H fun vs H1=>∃i j:Int,vs=[.int i,.int j]/\(-(2^62)<=i/\i<2^62/\ -(2^62)<=j/\j<2^62)/\R (Itr i (j- i).toNat) H1
def xR {a:Expr}{ta:TA}{p pos:Pos}(hg:Gl X "range")(hm:X.mg "range"=none)(ha:PA X [a] ta)(hs:starEach [a] X.env=[(false,eval a X.env)]:=by rfl):PI X tg (.Call (.Name "range" p) [a] [] pos) (mR ta):=by
 intro pins s σ H R I h
 refine Call_ (gT I hg hm boot_range (RW (thn (ha pos pins s σ H _ I h) fun us s1 ⟨vs,H1,I1,r1,q1⟩=>?_) hs rfl))
 obtain⟨j,e,q1,q2,q⟩:=q1
 subst e
 cases r1 with
 |cons r rr=>
  cases rr
  obtain⟨t,rfl⟩:=r
  exact call_range_1 (sR I1 (by omega) (by omega) q1 q2 (by simpa using q))
def ya {a b:Expr}{ta:TA}{p pos:Pos}(hg:Gl X "range")(hm:X.mg "range"=none)(ha:PA X [a,b] ta)(hs:starEach [a,b] X.env=[(false,eval a X.env),(false,eval b X.env)]:=by rfl)(hs2:starEach [b] X.env=[(false,eval b X.env)]:=by rfl):
  PI X tg (.Call (.Name "range" p) [a,b] [] pos) (vF ta):=by
 intro pins s σ H R I h
 refine Call_ (gT I hg hm boot_range (RW (thn (ha pos pins s σ H _ I h) fun us s1 ⟨vs,H1,I1,r1,q1⟩=>?_) (by rw[hs,hs2]) (by rw[hs2];rfl)))
 obtain⟨i,j,e,⟨q1,q2,q3,q4⟩,q⟩:=q1
 subst e
 cases r1 with
 |cons r rr=>
  cases rr with
  |cons r' rr=>
   cases rr
   obtain⟨t,rfl⟩:=r
   obtain⟨t',rfl⟩:=r'
   exact call_range_2 (sR I1 q1 q2 q3 q4 q)
def kL (wi:TI)(g:TG)(tb:TS):TS:=fun D σ H=>wi σ H fun J H1=>∃W:Nat->Nat->St->Hp->Prop,(∃m,W 0 m σ H1)/\∀i m σ H,W i m σ H->
 (J.stop i H/\D.nx σ H)\/(J.go i H/\∃N:St->Hp->Prop,(∀σ' H',N σ' H'->∃m',m'<m/\W (i+1) m' σ' H')/\∀x H',J.yld i H x H'->g x σ H' fun σ2 H2=>tb {D with nx:=N,ct:=N,bk:=D.nx} σ2 H2)
def ki (fp:List Addr)(h:Heap):List (Addr×Obj):=fp.filterMap fun b=>(h.get? b).map fun o=>(b,o)
def gz {fp:List Addr}{h:Heap}{b:Addr}{o:Obj}(hb:b∈fp)(e:h.get? b=some o):(b,o)∈ki fp h:=WQ.mpr ⟨b,hb,by rw[e];rfl⟩
def xA {fp:List Addr}{h:Heap}{p:Addr×Obj}(hp:p∈ki fp h):p.1∈fp/\h.get? p.1=some p.2:=by
 obtain⟨b,hb,e⟩:=WQ.mp hp
 cases q:h.get? b with
 |none=>rw[q]at e;cases e
 |some o=>
  rw[q]at e
  have e':(b,o)=p:=QZ e
  subst e'
  exact⟨hb,q⟩
def Inv.pinned {pins:List (Addr×Obj)}{σ:St}{H:Hp}{s:If}{fp:List Addr}(I:Inv X pins σ H s)(hf:∀b∈fp,kI X pins H b)(ho:∀b∈fp,∃o,s.heap.get? b=some o/\∀v,o.data≠.cell v):Inv X (pins++ki fp s.heap) σ H s:=
 I.pins_of fun p hp=>(Rv.mp hp).elim (fun z=>I.pin p (Ru _ z)) fun z=>by
  obtain⟨hb,e⟩:=xA z
  obtain⟨f0,f1,f2,_⟩:=hf p.1 hb
  obtain⟨o,e',d⟩:=ho p.1 hb
  rw[e]at e';cases e'
  exact⟨e,f0,f1,f2,d⟩
def Inv.unpinned {pins pl:List (Addr×Obj)}{σ:St}{H:Hp}{s:If}(I:Inv X (pins++pl) σ H s):Inv X pins σ H s:=I.pins_of fun p hp=>I.pin p (Ru _ (Sy _ hp))
def Fo {iter:Expr}{body:List Stmt}{wi:TI}{g:TG}{tb:TS}{pos:Pos}(hp:Xd (model X.prog X.w) X.A X.env X.xe)(hc:X.calm=true)(hi:PI X tg iter wi)(hg:PG X tg g)(hb:PSs X body tb)
  (hs:∀x,foldedSetIterable iter X.env x=pure x:=by intro _;rfl):PS X (.For tg iter body [] pos) (kL wi g tb):=by
 intro pins s σ H D I h
 refine wpAny_For (thn (hi pins s σ H _ I h) fun v s1 h1=>thn h1 fun itv s2 h2=>?_) hs
 obtain⟨it,fp,tn,J,H2,e,I2,T,st2,f2,W,⟨m0,w0⟩,turn⟩:=h2
 subst e
 have stat:∀{H':Hp},(∀b∈fp,H' b=none)->∀b∈fp,kI X pins H' b:=fun hn b hb=>⟨hn b hb,(f2 b hb).2⟩
 refine codeAny_forLoop_any (fun n s'=>∃i σ' H',Inv X pins σ' H' s'/\tn i s'.heap/\(∀b∈fp,H' b=none)/\W i n σ' H') ?_ m0 ⟨0,σ,H2,I2,st2,fun b hb=>(f2 b hb).1,w0⟩
 rintro n s3 ⟨i,σ3,H3,I3,st3,fr3,w3⟩
 rcases turn i n σ3 H3 w3 with⟨stop,qn⟩|⟨go,N,hN,step⟩
 ·refine SS hp (thn (T.done X rfl rfl rfl hc i pins s3 σ3 H3 X.xe I3 (stat fr3) st3 stop) fun r s4 ⟨hr,I4⟩=>?_)
  subst hr
  exact TZ ⟨σ3,H3,I4,qn⟩
 ·refine SS hp (thn (T.item X rfl rfl rfl hc i pins s3 σ3 H3 X.xe I3 (stat fr3) st3 go) fun r s4 ⟨u,hr,h4⟩=>?_)
  subst hr
  refine SS hp (thn h4 fun _ s5 ⟨x,H5,I5,r5,y5,st5,fr5⟩=>?_)
  have I5':=I5.pinned (stat fr5) (T.obj _ _ st5)
  refine SS hp (thn (hg _ s5 σ3 H5 x u _ I5' r5 (step x H5 y5)) fun _ s6 ⟨σ6,H6,I6,q6⟩=>?_)
  refine SS hp (thn (hb _ s6 σ6 H6 _ I6 q6) fun f s7 q7=>?_)
  have again:∀{σ7:St}{H7:Hp},Inv X (pins++ki fp s5.heap) σ7 H7 s7->N σ7 H7->∃m,m<n/\∃i σ' H',Inv X pins σ' H' s7/\tn i s7.heap/\(∀b∈fp,H' b=none)/\W i m σ' H':=fun{σ7 H7} I7 n7=>by
   obtain⟨m',hm,w7⟩:=hN σ7 H7 n7
   refine⟨m',hm,i+1,σ7,H7,I7.unpinned,T.keep _ _ _ st5 fun b hb o e=>(I7.pin (b,o) (Ru _ (Ru _ (gz hb e)))).1,fun b hb=>?_,w7⟩
   obtain⟨o,e,d⟩:=T.obj _ _ st5 b hb
   exact(I7.pin (b,o) (Ru _ (Ru _ (gz hb e)))).2.1
  cases f with
  |next=>obtain⟨σ7,H7,I7,n7⟩:=q7;exact again I7 n7
  |cont=>obtain⟨σ7,H7,I7,n7⟩:=q7;exact again I7 n7
  |brk=>obtain⟨σ7,H7,I7,q7⟩:=q7;exact⟨σ7,H7,I7.unpinned,q7⟩
  |ret v=>obtain⟨x7,σ7,H7,I7,r7,q7⟩:=q7;exact⟨x7,σ7,H7,I7.unpinned,r7,q7⟩
end
def jG {K:cW}{a:Addr}{xs:List V}{g:TG}{tb:TS}{D:fV}{σ:St}{H:Hp}(Pv:Nat->St->Hp->Prop)(h0:Pv 0 σ H)(hl:∀i σ H,i<=xs.length->Pv i σ H->SqL K H a xs)
  (hs:∀i x σ H,xs[i]?=some x->Pv i σ H->g x σ H fun σ2 H2=>tb {D with nx:=Pv (i+1),ct:=Pv (i+1),bk:=D.nx} σ2 H2)(hd:∀σ H,Pv xs.length σ H->D.nx σ H):
  ∃W:Nat->Nat->St->Hp->Prop,(∃m,W 0 m σ H)/\∀i m σ H,W i m σ H->
   ((Itl K a).stop i H/\D.nx σ H)\/((Itl K a).go i H/\∃N:St->Hp->Prop,(∀σ' H',N σ' H'->∃m',m'<m/\W (i+1) m' σ' H')/\∀x H',(Itl K a).yld i H x H'->g x σ H' fun σ2 H2=>tb {D with nx:=N,ct:=N,bk:=D.nx} σ2 H2):=by
 refine⟨fun i m σ H=>m=xs.length- i/\i<=xs.length/\Pv i σ H,⟨xs.length,by simp,QK _,h0⟩,?_⟩
 rintro i m σ H ⟨rfl,hi,p⟩
 have q:=hl i σ H hi p
 by_cases hlt:i<xs.length
 ·refine .inr ⟨⟨xs,xs[i],q,by simp[hlt]⟩,Pv (i+1),fun σ' H' p'=>⟨xs.length- (i+1),by omega,rfl,hlt,p'⟩,fun x H' y=>?_⟩
  obtain⟨e,y⟩:=y
  subst e
  exact hs i x σ _ (y xs q) p
 ·have e:i=xs.length:=by omega
  subst e
  exact .inl ⟨⟨xs,q,gV _⟩,hd σ H p⟩
def pF {lo:Int}{n:Nat}{g:TG}{tb:TS}{D:fV}{σ:St}{H:Hp}(Pv:Nat->St->Hp->Prop)(h0:Pv 0 σ H)
  (hs:∀i σ H,i<n->Pv i σ H->g (.int (lo+i)) σ H fun σ2 H2=>tb {D with nx:=Pv (i+1),ct:=Pv (i+1),bk:=D.nx} σ2 H2)(hd:∀σ H,Pv n σ H->D.nx σ H):
  ∃W:Nat->Nat->St->Hp->Prop,(∃m,W 0 m σ H)/\∀i m σ H,W i m σ H->
   ((Itr lo n).stop i H/\D.nx σ H)\/((Itr lo n).go i H/\∃N:St->Hp->Prop,(∀σ' H',N σ' H'->∃m',m'<m/\W (i+1) m' σ' H')/\∀x H',(Itr lo n).yld i H x H'->g x σ H' fun σ2 H2=>tb {D with nx:=N,ct:=N,bk:=D.nx} σ2 H2):=by
 refine⟨fun i m σ H=>m=n- i/\i<=n/\Pv i σ H,⟨n,by simp,QK _,h0⟩,?_⟩
 rintro i m σ H ⟨rfl,hi,p⟩
 by_cases hlt:i<n
 ·refine .inr ⟨hlt,Pv (i+1),fun σ' H' p'=>⟨n- (i+1),by omega,rfl,hlt,p'⟩,fun x H' y=>?_⟩
  obtain⟨e,y⟩:=y
  subst e y
  exact hs i σ _ hlt p
 ·have e:i=n:=by omega
  subst e
  exact .inl ⟨gV _,hd σ H p⟩
abbrev R2:=V->V->Hp->VK->Prop
def OpR (X:Cx)(f:tx->tx->Sem tx)(r:R2):Prop:=
 ∀(pins:List (Addr×Obj))(s:If)(σ:St)(H:Hp)(x y:V)(v u:tx)(Q:VK),Inv X pins σ H s->ba x v->ba y u->r x y H Q->
  wpAny (model X.prog X.w) X.A (f v u) (EP X pins σ Q) X.xe s
def UnR (X:Cx)(f:tx->Sem tx)(r:V->Hp->VK->Prop):Prop:=
 ∀(pins:List (Addr×Obj))(s:If)(σ:St)(H:Hp)(x:V)(v:tx)(Q:VK),Inv X pins σ H s->ba x v->r x H Q->
  wpAny (model X.prog X.w) X.A (f v) (EP X pins σ Q) X.xe s
def bS (X:Cx)(f:tx)(r:List V->Hp->VK->Prop):Prop:=
 ∀(pins:List (Addr×Obj))(s:If)(σ:St)(H:Hp)(xs:List V)(us:List tx)(Q:VK),Inv X pins σ H s->bc xs us->r xs H Q->
  wpAny (model X.prog X.w) X.A (call f us) (EP X pins σ Q) X.xe s
def Qh (X:Cx)(r:V->Hp->(Bool->Hp->Prop)->Prop):Prop:=
 ∀(pins:List (Addr×Obj))(s:If)(σ:St)(H:Hp)(x:V)(v:tx)(Q:Bool->Hp->Prop),Inv X pins σ H s->ba x v->r x H Q->
  wpAny (model X.prog X.w) X.A (truthy v) (TP X pins σ Q) X.xe s
def tOp (r:R2)(ta tb:TE):TE:=fun σ H Q=>ta σ H fun x H1=>tb σ H1 fun y H2=>r x y H2 Q
def tUn (r:V->Hp->VK->Prop)(ta:TE):TE:=fun σ H Q=>ta σ H fun x H1=>r x H1 Q
def rI (C:Int->Int->Prop)(g:Int->Int->V):R2:=fun x y H Q=>∃i j,x=.int i/\y=.int j/\C i j/\Q (g i j) H
def rI0 (g:Int->Int->V):R2:=fun x y H Q=>∃i j,x=.int i/\y=.int j/\Q (g i j) H
def rU (g:Int->V):V->Hp->VK->Prop:=fun x H Q=>∃i,x=.int i/\Q (g i) H
section
variable {X:Cx}{a b c:Expr}{ta tb tc:TE}{pos:Pos}
def yn (ha:PE X a ta)(hb:PE X b tb){pins:List (Addr×Obj)}{s:If}{σ:St}{H:Hp}{R:V->V->Hp->Prop}(I:Inv X pins σ H s)
  (h:ta σ H fun x H1=>tb σ H1 fun y H2=>R x y H2){Q:tx->If->Prop}{f:tx->tx->Sem tx}
  (hf:∀v u s2 x y H2,Inv X pins σ H2 s2->ba x v->ba y u->R x y H2->wpAny (model X.prog X.w) X.A (f v u) Q X.xe s2):
  wpAny (model X.prog X.w) X.A (eval a X.env) (fun v s₁=>wpAny (model X.prog X.w) X.A (eval b X.env) (fun u s₂=>wpAny (model X.prog X.w) X.A (f v u) Q X.xe s₂) X.xe s₁) X.xe s:=by
 refine thn (ha pins s σ H _ I h) fun v s1 ⟨x,H1,I1,r1,q1⟩=>?_
 refine thn (hb pins s1 σ H1 _ I1 q1) fun u s2 ⟨y,H2,I2,r2,q2⟩=>?_
 exact hf v u s2 x y H2 I2 r1 r2 q2
def Mh {op:Operator}{r:R2}(ho:OpR X (binaryOp op) r)(ha:PE X a ta)(hb:PE X b tb):PE X (.BinOp a op b pos) (tOp r ta tb):=by
 intro pins s σ H Q I h
 exact wpAny_BinOp (yn ha hb I h fun v u s2 x y H2 I2 rx ry q=>ho pins s2 σ H2 x y v u Q I2 rx ry q)
def Mx {op:UnaryOp}{r:V->Hp->VK->Prop}(ho:UnR X (unaryOp op) r)(ha:PE X a ta):PE X (.UnaryOp op a pos) (tUn r ta):=by
 intro pins s σ H Q I h
 exact UnaryOp_ (thn (ha pins s σ H _ I h) fun v s1 ⟨x,H1,I1,r1,q1⟩=>ho pins s1 σ H1 x v Q I1 r1 q1)
def opI {f:tx->tx->Sem tx}{C:Int->Int->Prop}{g:Int->Int->Int}
  (rule:∀(i j:Int)(t u:Tok)(s:If)(Q:tx->If->Prop)(E:tx->If->Prop),C i j->Q (.int (g i j) s.toks) {s with toks:=s.toks+1}->wpAny (model X.prog X.w) X.A (f (.int i t) (.int j u)) Q E s):
  OpR X f (rI C fun i j=>.int (g i j)):=by
 intro pins s σ H x y v u Q I rx ry h
 obtain⟨i,j,rfl,rfl,hc,q⟩:=h
 obtain⟨t,rfl⟩:=rx
 obtain⟨t',rfl⟩:=ry
 exact rule i j t t' s _ _ hc ⟨.int (g i j),H,I.tok _,⟨_,rfl⟩,q⟩
def vA {f:tx->tx->Sem tx}{g:Int->Int->Int}
  (rule:∀(i j:Int)(t u:Tok)(s:If)(Q:tx->If->Prop)(E:tx->If->Prop),Q (.int (g i j) s.toks) {s with toks:=s.toks+1}->wpAny (model X.prog X.w) X.A (f (.int i t) (.int j u)) Q E s):
  OpR X f (rI0 fun i j=>.int (g i j)):=by
 intro pins s σ H x y v u Q I rx ry h
 obtain⟨i,j,rfl,rfl,q⟩:=h
 obtain⟨t,rfl⟩:=rx
 obtain⟨t',rfl⟩:=ry
 exact rule i j t t' s _ _ ⟨.int (g i j),H,I.tok _,⟨_,rfl⟩,q⟩
def yG {f:tx->tx->Sem tx}{g:Int->Int->Bool}
  (rule:∀(i j:Int)(t u:Tok)(s:If)(Q:tx->If->Prop)(E:tx->If->Prop),Q (.bool (g i j)) s->wpAny (model X.prog X.w) X.A (f (.int i t) (.int j u)) Q E s):
  OpR X f (rI0 fun i j=>.bl (g i j)):=by
 intro pins s σ H x y v u Q I rx ry h
 obtain⟨i,j,rfl,rfl,q⟩:=h
 obtain⟨t,rfl⟩:=rx
 obtain⟨t',rfl⟩:=ry
 exact rule i j t t' s _ _ ⟨.bl (g i j),H,I,rfl,q⟩
def FW (i j:Int):Prop:=0<=j/\j<=1000000/\i.natAbs<2^64
def vy (k:Nat):(0:Int)<=2^k:=by
 rw[two_pow_cast]
 exact Int.natCast_nonneg _
def Hu:OpR X (binaryOp .Add) (rI0 fun i j=>.int (i+j)):=vA fun _ _ _ _ _ _ _ q=>add_int q
def GQ:OpR X (binaryOp .Sub) (rI0 fun i j=>.int (i- j)):=vA fun _ _ _ _ _ _ _ q=>sub_int q
def Hl:OpR X (binaryOp .Mod) (rI (fun _ j=>0<j) fun i j=>.int (i%j)):=opI fun i j _ _ _ _ _ hc q=>by
 have h1:(0:Int)<j:=hc
 exact mod_int' (by omega) (by rw[Int.fmod_eq_emod_of_nonneg i (by omega)];exact q)
def GW:OpR X (binaryOp .Pow) (rI FW fun i j=>.int (i^j.toNat)):=opI fun _ _ _ _ _ _ _ hc q=>pow_int_small hc.1 hc.2.1 hc.2.2 q
def Fh:OpR X (binaryOp .LShift) (rI FW fun i j=>.int (i*2^j.toNat)):=opI fun _ _ _ _ _ _ _ hc q=>lshift_int_small hc.1 hc.2.1 hc.2.2 q
def GB:OpR X (binaryOp .RShift) (rI (fun _ j=>0<=j) fun i j=>.int (i/2^j.toNat)):=opI fun i j _ _ _ _ _ hc q=>
 rshift_int hc (by rw[VE i (vy _)];exact q)
def Hf:OpR X (binaryOp .BitAnd) (rI0 fun i j=>.int (Sn i j)):=vA fun _ _ _ _ _ _ _ q=>and_int q
def Fk:OpR X (binaryOp .BitXor) (rI0 fun i j=>.int (SQ i j)):=vA fun _ _ _ _ _ _ _ q=>xor_int q
def unI {f:tx->Sem tx}{g:Int->Int}
  (rule:∀(i:Int)(t:Tok)(s:If)(Q:tx->If->Prop)(E:tx->If->Prop),Q (.int (g i) s.toks) {s with toks:=s.toks+1}->wpAny (model X.prog X.w) X.A (f (.int i t)) Q E s):
  UnR X f (rU fun i=>.int (g i)):=by
 intro pins s σ H x v Q I rx h
 obtain⟨i,rfl,q⟩:=h
 obtain⟨t,rfl⟩:=rx
 exact rule i t s _ _ ⟨.int (g i),H,I.tok _,⟨_,rfl⟩,q⟩
def FH:UnR X (unaryOp .USub) (rU fun i=>.int (-i)):=unI fun _ _ _ _ _ q=>neg_int q
end
def GF:V->V->Bool
 |.non,.non=>true|.non,.int _=>true|.int _,.non=>true|.non,.bl _=>true|.bl _,.non=>true|.non,.str _=>true|.str _,.non=>true
 |.int _,.int _=>true|.bl _,.bl _=>true|.str _,.str _=>true|.byt _,.byt _=>true
 |.int _,.str _=>true|.str _,.int _=>true|.bl _,.str _=>true|.str _,.bl _=>true
 |_,_=>false
def rEq:R2:=fun x y H Q=>GF x y=true/\Q (.bl (decide (x=y))) H
def rNe:R2:=fun x y H Q=>GF x y=true/\Q (.bl (!decide (x=y))) H
def tW {i j:Int}:decide (V.int i=V.int j)=(i==j):=by
 rw[TD]
 simp
def xT {i j:Bool}:decide (V.bl i=V.bl j)=(i==j):=by
 rw[TD]
 simp
def uA {i j:Str}:decide (V.str i=V.str j)=(i==j):=by
 rw[TD]
 simp
def uc {i j:Array UInt8}:decide (V.byt i=V.byt j)=(i.toList==j.toList):=by
 rw[TD]
 cases i
 cases j
 simp
section
variable {X:Cx}{a b c:Expr}{ta tb tc:TE}{pos:Pos}
def bF {pins:List (Addr×Obj)}{σ:St}{H:Hp}{s:If}{Q:VK}{k k':Bool}(I:Inv X pins σ H s)(q:Q (.bl k) H)(e:k=k'):EP X pins σ Q (.bool k') s:=by
 subst e
 exact⟨.bl k,H,I,rfl,q⟩
def IJ:OpR X (compareOp .Eq) rEq:=by
 intro pins s σ H x y v u Q I rx ry h
 obtain⟨hs,q⟩:=h
 cases x with
 |non=>
  cases rx
  cases y with
  |non=>cases ry;exact PySem.EqNone.eq_none_none (bF I q (by simp))
  |bl j=>cases ry;exact PySem.EqNone.eq_none_bool (bF I q (by simp))
  |int j=>obtain⟨t',rfl⟩:=ry;exact PySem.EqNone.eq_none_int (bF I q (by simp))
  |str j=>obtain⟨t',rfl⟩:=ry;exact PySem.EqNone.eq_none_str (bF I q (by simp))
  |_=>exact absurd (show false=true from hs) Rg
 |bl i=>
  cases rx
  cases y with
  |non=>cases ry;exact PySem.EqNone.eq_bool_none (bF I q (by simp))
  |bl j=>cases ry;exact eq_bool (bF I q xT)
  |str j=>obtain⟨t',rfl⟩:=ry;exact Yl (bF I q (by simp))
  |_=>exact absurd (show false=true from hs) Rg
 |int i=>
  obtain⟨t,rfl⟩:=rx
  cases y with
  |non=>cases ry;exact PySem.EqNone.eq_int_none (bF I q (by simp))
  |int j=>obtain⟨t',rfl⟩:=ry;exact eq_int (bF I q tW)
  |str j=>obtain⟨t',rfl⟩:=ry;exact Yk (bF I q (by simp))
  |_=>exact absurd (show false=true from hs) Rg
 |str i=>
  obtain⟨t,rfl⟩:=rx
  cases y with
  |non=>cases ry;exact PySem.EqNone.eq_str_none (bF I q (by simp))
  |bl j=>cases ry;exact Yj (bF I q (by simp))
  |int j=>obtain⟨t',rfl⟩:=ry;exact Yi (bF I q (by simp))
  |str j=>obtain⟨t',rfl⟩:=ry;exact eq_str (bF I q uA)
  |_=>exact absurd (show false=true from hs) Rg
 |byt i=>
  obtain⟨t,rfl⟩:=rx
  cases y with
  |byt j=>obtain⟨t',rfl⟩:=ry;exact W.eq_bytes (bF I q uc)
  |_=>exact absurd (show false=true from hs) Rg
 |_=>cases y<;>exact absurd (show false=true from hs) Rg
def Jm:OpR X (compareOp .NotEq) rNe:=by
 intro pins s σ H x y v u Q I rx ry h
 obtain⟨hs,q⟩:=h
 cases x with
 |non=>
  cases rx
  cases y with
  |non=>cases ry;exact PySem.EqNone.ne_none_none (bF I q (by simp))
  |bl j=>cases ry;exact PySem.EqNone.ne_none_bool (bF I q (by simp))
  |int j=>obtain⟨t',rfl⟩:=ry;exact PySem.EqNone.ne_none_int (bF I q (by simp))
  |str j=>obtain⟨t',rfl⟩:=ry;exact PySem.EqNone.ne_none_str (bF I q (by simp))
  |_=>exact absurd (show false=true from hs) Rg
 |bl i=>
  cases rx
  cases y with
  |non=>cases ry;exact PySem.EqNone.ne_bool_none (bF I q (by simp))
  |bl j=>cases ry;exact ne_bool (bF I q (congrArg not xT))
  |str j=>obtain⟨t',rfl⟩:=ry;exact Yh (bF I q (by simp))
  |_=>exact absurd (show false=true from hs) Rg
 |int i=>
  obtain⟨t,rfl⟩:=rx
  cases y with
  |non=>cases ry;exact PySem.EqNone.ne_int_none (bF I q (by simp))
  |int j=>obtain⟨t',rfl⟩:=ry;exact ne_int (bF I q (congrArg not tW))
  |str j=>obtain⟨t',rfl⟩:=ry;exact Yg (bF I q (by simp))
  |_=>exact absurd (show false=true from hs) Rg
 |str i=>
  obtain⟨t,rfl⟩:=rx
  cases y with
  |non=>cases ry;exact PySem.EqNone.ne_str_none (bF I q (by simp))
  |bl j=>cases ry;exact Yf (bF I q (by simp))
  |int j=>obtain⟨t',rfl⟩:=ry;exact Ye (bF I q (by simp))
  |str j=>obtain⟨t',rfl⟩:=ry;exact ne_str (bF I q (congrArg not uA))
  |_=>exact absurd (show false=true from hs) Rg
 |byt i=>
  obtain⟨t,rfl⟩:=rx
  cases y with
  |byt j=>obtain⟨t',rfl⟩:=ry;exact W.ne_bytes (bF I q (congrArg not uc))
  |_=>exact absurd (show false=true from hs) Rg
 |_=>cases y<;>exact absurd (show false=true from hs) Rg
def La:OpR X (compareOp .Lt) (rI0 fun i j=>.bl (decide (i<j))):=yG fun _ _ _ _ _ _ _ q=>lt_int q
def Jv:OpR X (compareOp .LtE) (rI0 fun i j=>.bl (decide (i<=j))):=yG fun _ _ _ _ _ _ _ q=>le_int q
def Kq:OpR X (compareOp .Gt) (rI0 fun i j=>.bl (decide (j<i))):=yG fun _ _ _ _ _ _ _ q=>gt_int q
def xC:OpR X (compareOp .In) (fun x y H Q=>∃i j,x=.str i/\y=.str j/\Q (.bl (!(Vc j i 0 j.length 1).isEmpty)) H):=by
 intro pins s σ H x y v u Q I rx ry h
 obtain⟨i,j,rfl,rfl,q⟩:=h
 obtain⟨t,rfl⟩:=rx
 obtain⟨t',rfl⟩:=ry
 exact in_str (bF I q rfl)
def GV:OpR X (compareOp .Is) (fun x y H Q=>y=.non/\Q (.bl (decide (x=.non))) H):=by
 intro pins s σ H x y v u Q I rx ry h
 obtain⟨rfl,q⟩:=h
 cases ry
 refine is_none_gen (bF I q ?_)
 cases x<;>first
  |(cases rx;rfl)
  |(obtain⟨t,rfl⟩:=rx;rfl)
def OpR.or {f:tx->tx->Sem tx}{r r':R2}(h:OpR X f r)(h':OpR X f r'):OpR X f (fun x y H Q=>r x y H Q\/r' x y H Q):=by
 intro pins s σ H x y v u Q I rx ry q
 rcases q with q|q
 ·exact h pins s σ H x y v u Q I rx ry q
 ·exact h' pins s σ H x y v u Q I rx ry q
def ni (b:Expr){op:Xf}(h:op≠.In:=by decide)(h2:op≠.NotIn:=by decide):behindInMarks op b=false:=by
 have e1:(op==CmpOp.In)=false:=by cases op<;>first|rfl|exact absurd rfl h
 have e2:(op==CmpOp.NotIn)=false:=by cases op<;>first|rfl|exact absurd rfl h2
 cases b<;>simp[behindInMarks,e1,e2]
def Ee {op:Xf}{r:R2}(ho:OpR X (compareOp op) r)(ha:PE X a ta)(hb:PE X b tb)(hm:behindInMarks op b=false):PE X (.Compare a [op] [b] pos) (tOp r ta tb):=by
 intro pins s σ H Q I h
 exact wpAny_Compare1 (yn ha hb I h fun v u s2 x y H2 I2 rx ry q=>ho pins s2 σ H2 x y v u Q I2 rx ry q) hm
def IC (K:cW)(x:V)(H:Hp)(k:Bool):Prop:=
 match x with
 |.non=>k=false
 |.bl b=>k=b
 |.int i=>k=(i !=0)
 |.str y=>y.length<=sizeLine/\k=((y.length:Int) !=0)
 |.byt y=>y.size<=sizeLine/\k=((y.size:Int) !=0)
 |.ref p=>(∃xs,SqL K H p xs/\k= !xs.isEmpty)\/(∃xs,SqT K H p xs/\k= !xs.isEmpty)\/∃kvs,H p=some (.dK kvs)/\k= !kvs.isEmpty
 |_=>False
def vj {κ:Type}{kvs:List (κ×V)}{vs:List (κ×tx)}(r:KV kvs vs):(!vs.isEmpty)= !kvs.isEmpty:=by
 cases r<;>rfl
def mW {xs:List V}{its:List tx}(r:bc xs its):(!its.toArray.isEmpty)= !xs.isEmpty:=by
 cases r<;>simp
def iE:(sizeLine:Nat)<2^63:=by rw[Sm];decide
def EB:Qh X (fun x H Q=>∃k,IC X.K x H k/\Q k H):=by
 intro pins s σ H x v Q I rx h
 obtain⟨k,e,q⟩:=h
 have hl:=iE
 have hs:sizeLine=16777216:=Sm
 cases x with
 |non=>
  cases rx
  have e':k=false:=e
  subst e'
  exact truthy_none ⟨H,I,q⟩
 |bl b=>
  cases rx
  have e':k=b:=e
  subst e'
  exact Si ⟨H,I,q⟩
 |int i=>
  obtain⟨t,rfl⟩:=rx
  have e':k=(i !=0):=e
  subst e'
  exact PySem.P.truthy_int ⟨H,I,q⟩
 |str y=>
  obtain⟨t,rfl⟩:=rx
  obtain⟨hy,e'⟩:y.length<=sizeLine/\k=((y.length:Int) !=0):=e
  subst e'
  exact PySem.P.truthy_str (by omega) ⟨H,I.tok _,q⟩
 |byt y=>
  obtain⟨t,rfl⟩:=rx
  obtain⟨hy,e'⟩:y.size<=sizeLine/\k=((y.size:Int) !=0):=e
  subst e'
  exact W.truthy_bytes (by omega) ⟨H,I.tok _,q⟩
 |ref p=>
  cases rx
  have e':(∃xs,SqL X.K H p xs/\k= !xs.isEmpty)\/(∃xs,SqT X.K H p xs/\k= !xs.isEmpty)\/∃kvs,H p=some (.dK kvs)/\k= !kvs.isEmpty:=e
  rcases e' with⟨xs,hx,e'⟩|⟨xs,hx,e'⟩|⟨kvs,hx,e'⟩
  ·subst e'
   obtain⟨its,r,pl,hz⟩:=I.list hx
   have hlen:=r.length
   exact wpAny_truthy_list pl.isList (by simp only[QJ];omega) ⟨H,I.tok _,by rw[mW r];exact q⟩
  ·subst e'
   obtain⟨its,r,pl,hz⟩:=I.tuple hx
   have hlen:=r.length
   exact truthy_tuple pl (by simp only[QJ];omega) ⟨H,I.tok _,by rw[mW r];exact q⟩
  ·subst e'
   obtain⟨hz,hS,vs,r,m⟩:kvs.length<=sizeLine/\(p==sysModules)=false/\∃vs,KV kvs vs/\s.heap.DictOf (cD X.prog X.w) p vs:=I.hok p _ hx
   have hlen:kvs.length=vs.length:=Paired.length r
   exact wpAny_truthy_dict hS m (by omega) ⟨H,I.tok _,by rw[vj r];exact q⟩
 |_=>exact(show False from e).elim
def uM:OpR X (binaryOp .Add) (fun x y H Q=>∃i j,x=.str i/\y=.str j/\i.length+j.length<=sizeLine/\Q (.str (i++j)) H):=by
 intro pins s σ H x y v u Q I rx ry h
 obtain⟨i,j,rfl,rfl,hz,q⟩:=h
 obtain⟨t,rfl⟩:=rx
 obtain⟨t',rfl⟩:=ry
 exact add_str (fun t' tk=>⟨.str (i++j),H,I.tok _,⟨_,rfl⟩,q⟩) hz
def fU {x:V}{us:List tx}(r:bc [x] us):∃u,us=[u]/\ba x u:=by
 cases r with
 |cons r1 r2=>cases r2;exact⟨_,rfl,r1⟩
def rf {x y:V}{us:List tx}(r:bc [x,y] us):∃u w',us=[u,w']/\ba x u/\ba y w':=by
 cases r with
 |cons r1 r2=>
  cases r2 with
  |cons r3 r4=>cases r4;exact⟨_,_,rfl,r1,r3⟩
def wJ (hc:X.calm=true):bS X (.builtin "max") (fun xs H Q=>∃i j,xs=[.int i,.int j]/\Q (.int (if j>i then j else i)) H):=by
 intro pins s σ H xs us Q I r h
 obtain⟨i,j,rfl,q⟩:=h
 obtain⟨u,w',rfl,⟨t,rfl⟩,⟨t',rfl⟩⟩:=rf r
 refine max_two_ints (I.ok.hd hc) fun h' tk k=>⟨_,H,I.kept k,?_,q⟩
 by_cases hj:j>i
 ·rw[if_pos hj,if_pos hj];exact⟨_,rfl⟩
 ·rw[if_neg hj,if_neg hj];exact⟨_,rfl⟩
def xj (hc:X.calm=true):bS X (.builtin "min") (fun xs H Q=>∃i j,xs=[.int i,.int j]/\Q (.int (if j<i then j else i)) H):=by
 intro pins s σ H xs us Q I r h
 obtain⟨i,j,rfl,q⟩:=h
 obtain⟨u,w',rfl,⟨t,rfl⟩,⟨t',rfl⟩⟩:=rf r
 refine min_two_ints (I.ok.hd hc) fun h' tk k=>⟨_,H,I.kept k,?_,q⟩
 by_cases hj:j<i
 ·rw[if_pos hj,if_pos hj];exact⟨_,rfl⟩
 ·rw[if_neg hj,if_neg hj];exact⟨_,rfl⟩
def NX (K:cW)(x:V)(H:Hp)(n:Nat):Prop:=
 match x with
 |.str y=>y.length<=sizeLine/\n=y.length
 |.byt y=>y.size<=sizeLine/\n=y.size
 |.ref p=>(∃xs,SqL K H p xs/\n=xs.length)\/∃xs,SqT K H p xs/\n=xs.length
 |_=>False
def mf:bS X (.builtin "len") (fun xs H Q=>∃x n,xs=[x]/\NX X.K x H n/\Q (.int n) H):=by
 intro pins s σ H xs us Q I r h
 obtain⟨x,n,rfl,e,q⟩:=h
 obtain⟨u,rfl,rx⟩:=fU r
 have hl:=iE
 have hs:sizeLine=16777216:=Sm
 cases x with
 |str y=>
  obtain⟨t,rfl⟩:=rx
  obtain⟨hy,e'⟩:y.length<=sizeLine/\n=y.length:=e
  subst e'
  exact len_str (by omega) ⟨.int _,H,I.tok _,⟨_,rfl⟩,q⟩
 |byt y=>
  obtain⟨t,rfl⟩:=rx
  obtain⟨hy,e'⟩:y.size<=sizeLine/\n=y.size:=e
  subst e'
  exact W.len_bytes (by omega) ⟨.int _,H,I.tok _,⟨_,rfl⟩,q⟩
 |ref p=>
  cases rx
  have e':(∃xs,SqL X.K H p xs/\n=xs.length)\/∃xs,SqT X.K H p xs/\n=xs.length:=e
  rcases e' with⟨xs,hx,e'⟩|⟨xs,hx,e'⟩
  ·subst e'
   obtain⟨its,r',pl,hz⟩:=I.list hx
   have hlen:=r'.length
   exact Calls.call_len_list pl.isList (by simp only[QJ];omega) ⟨.int xs.length,H,I.tok _,⟨_,by simp only[QJ];rw[hlen]⟩,q⟩
  ·subst e'
   obtain⟨its,r',pl,hz⟩:=I.tuple hx
   have hlen:=r'.length
   exact len_tuple pl (by simp only[QJ];omega) ⟨.int xs.length,H,I.tok _,⟨_,by simp only[QJ];rw[hlen]⟩,q⟩
 |_=>exact(show False from e).elim
end
structure lN (h:Heap)(x dx C:Addr)(mA:Str->Option tx):Prop where
 obj:h.get? x=some (Ug C dx)
 ns:h.Ns1 dx mA
 ne:dx≠x
def xO {h:Heap}{dx:Addr}{mA:Str->Option tx}(n:h.Ns1 dx mA):∃od,h.get? dx=some od/\∀name,Xn name od=some (mA name):=by
 obtain⟨o,es,ep,ho,hd,hk,_,hm⟩:=n
 refine⟨o,ho,fun name=>?_⟩
 have e:=hm name
 unfold nsFind findBy at e
 rw[<-Array.find?_toList]at e
 unfold Xn
 rw[hd]
 dsimp only
 split
 ·rename_i y q
  rw[q]at e
  exact congrArg some e
 ·rename_i q
  rw[q]at e
  have a:es.toList.any (·.refKey)=false:=by
   rw[List.any_eq_false]
   intro y hy
   obtain⟨z,t,hkey⟩:=hk y (Array.mem_toList_iff.mp hy)
   simp[DictEntry.refKey,hkey]
  have a':¬es.toList.any (·.refKey)=true:=by rw[a];exact Rg
  rw[if_neg a']
  exact congrArg some e
def lN.look {h:Heap}{x dx C:Addr}{mA:Str->Option tx}(I:lN h x dx C mA):∃od,W.InstAt h x (Ug C dx) C (some od)/\∀name,Xn name od=some (mA name):=
 let ⟨od,ho,hl⟩:=xO I.ns
 ⟨od,⟨I.obj,rfl,rfl,ho⟩,hl⟩
section
variable {prog:Rh}{w:RF}{A:RC}{E:tx->If->Prop}{s:If}{K:cW}{x dx C f:Addr}{mA:Str->Option tx}{name:Str}{v:tx}
def Dy {expr:Bool}{Q:tx->If->Prop}(X:K.In s.heap)(I:lN s.heap x dx C mA)(hg:Sg K C name=true)(hh:Sa K C=true)
  (ha:QF K (.ref C) name=some none)(hv:mA name=some v)(hv':Wg v=true)(h:Q v {s with toks:=s.toks+1}):
  wpAny (model prog w) A (getAttr (.ref x) name expr) Q E s:=by
 obtain⟨od,J,hl⟩:=I.look
 exact W.get_value X J (Uk hg).1 (W.findObj_own hh ha rfl (by rw[hl,hv])) hv' h
def Ab {pl:Sem Bool}{Q:tx×List tx->If->Prop}(X:K.In s.heap)(I:lN s.heap x dx C mA)(hg:Sg K C name=true)
  (hf:QF K (.ref C) name=some (some (.ref f)))(ht:Rx K (.ref f)=true)(hv:mA name=none)(h:Q (.ref f,[.ref x]) s):
  wpAny (model prog w) A (getMethod (.ref x) name pl) Q E s:=by
 obtain⟨od,J,hl⟩:=I.look
 exact W.method_fn X J (Uk hg).1 (Uk hg).2 hf (beq_iff_eq.mp ht) (by show(Xn name od).map (·.isSome)=some false;rw[hl,hv];rfl) h
def Dz {ns:List Str}{Q:Unit->If->Prop}(X:K.In s.heap)(I:lN s.heap x dx C mA)
  (hs:QF K (.ref C) "__setattr__"=some (some (.builtin "object.__setattr__")))(hp:Sj K C=true)(ht:XZ K C name=some none)(hh:Sa K C=true)
  (hw:VY mA ns)(hsz:ns.length<=sizeLine)
  (h:∀h',lN h' x dx C (fun y=>if y=name then some v else mA y)->Tr dx s.heap h'->Q () {s with heap:=h',toks:=s.toks+2}):
  wpAny (model prog w) A (setAttr (.ref x) name v) Q E s:=by
 obtain⟨od,J,hl⟩:=I.look
 refine W.set_plain X J hs (W.osa_open (s:={s with toks:=s.toks+1}) (r:=none) X J hp ht fun b=>?_)
 obtain⟨cd,hc,hd'⟩:=W.any_some hh
 have hx:s.heap.get? x=some ⟨.ref C,some dx,.plain,#[]⟩:=I.obj
 refine pv (QL (pv (pv (wpAny_loadPart hx (pv (W.Looks.here (s:={s with toks:=s.toks+1}) (W.looks_clsIn X hc) ?_))))))
 rw[hd']
 refine QL (a:=some dx) (pv (QL (pv ?_)))
 refine wpAny_nsSet1 (s:={s with toks:=s.toks+1}) I.ns fun h' hn2 hs2=>?_
 obtain⟨oD,esD,epD,hoD,hdD,hcD⟩:=hn2.count (PySem.Within.cons name v hw)
 refine pv (wpAny_lookBehind hoD (by rw[hdD];exact pastItsLine_dict (Rl hcD (by rw[RE];omega))) ?_)
 exact QL (h _ ⟨(hs2.2 _ (QU I.ne)).trans I.obj,hn2,I.ne⟩ hs2)
def Ag {R:Result->If->Prop}{vs:List tx}{kw:List (Str×tx)}(X:K.In s.heap)(hm:Tj K C=true)
  (hi:QF K (.ref C) "__init__"=some (some (.ref f)))(hf:W.typeIn K (.ref f)=some (.type "function"))
  (h:codeAny (model prog w) (A.under (.builtin "type.__call__" ⟨.ref C::vs,kw⟩)) (.call (.ref f) ⟨.ref (s.heap.objs.size+1)::vs,kw⟩) (W.InitBack (s.heap.objs.size+1) R)
   {s with heap:=(s.heap.push Tf).push (Ug C s.heap.objs.size)}):
  codeAny (model prog w) A (.call (.ref C) ⟨vs,kw⟩) R s:=by
 obtain⟨hh,g,d,t,os⟩:=s
 exact W.make_core (W.makes_of X hm) (W.looks_findIn X hi) (fun self=>W.bind_fn X self hf) (.inl rfl) h
end
def br (f:Str)(v:V):List (Str×V)->List (Str×V)
 |[]=>[(f,v)]
 |(g,x)::r=>if g=f then(g,v)::r else(g,x)::br f v r
theorem lJ (f g:Str)(v:V):∀fs:List (Str×V),(br f v fs).lookup g=if g=f then some v else fs.lookup g
 |[]=>by
  show Sv g [(f,v)]=_
  by_cases h:g=f
  ·have hb:(g==f)=true:=beq_iff_eq.mpr h
   simp only[Sv,hb,if_pos h]
  ·have hb:(g==f)=false:=beq_eq_false_iff_ne.mpr h
   simp only[Sv,hb,if_neg h]
 |(k,x)::r=>by
  have ih:=lJ f g v r
  rw[show br f v ((k,x)::r)=(if k=f then(k,v)::r else(k,x)::br f v r)from rfl]
  by_cases hk:k=f
  ·rw[if_pos hk]
   by_cases h:g=k
   ·have hb:(g==k)=true:=beq_iff_eq.mpr h
    simp only[Sv,hb,if_pos (h.trans hk)]
   ·have hb:(g==k)=false:=beq_eq_false_iff_ne.mpr h
    simp only[Sv,hb,if_neg (fun e:g=f=>h (e.trans hk.symm))]
  ·rw[if_neg hk]
   by_cases h:g=k
   ·have hb:(g==k)=true:=beq_iff_eq.mpr h
    simp only[Sv,hb,if_neg (fun e:g=f=>hk (h.symm.trans e))]
   ·have hb:(g==k)=false:=beq_eq_false_iff_ne.mpr h
    simp only[Sv,hb]
    exact ih
theorem kA (f:Str)(v:V):∀fs:List (Str×V),f∈(br f v fs).map (·.1)/\∀g,g∈fs.map (·.1)->g∈(br f v fs).map (·.1)
 |[]=>⟨by simp[br],fun g h=>by simp at h⟩
 |(k,x)::r=>by
  obtain⟨i1,i2⟩:=kA f v r
  rw[show br f v ((k,x)::r)=(if k=f then(k,v)::r else(k,x)::br f v r)from rfl]
  by_cases hk:k=f
  ·rw[if_pos hk]
   subst hk
   exact⟨by simp,fun g h=>by simpa using h⟩
  ·rw[if_neg hk]
   refine⟨?_,fun g h=>?_⟩
   ·rw[RD]
    exact QN _ i1
   ·rw[RD]at h⊢
    rcases QG.mp h with e|e
    ·exact QG.mpr (.inl e)
    ·exact QN _ (i2 g e)
theorem lM (f:Str)(v:V):∀fs:List (Str×V),(br f v fs).length<=fs.length+1
 |[]=>by simp[br]
 |(k,x)::r=>by
  have ih:=lM f v r
  rw[show br f v ((k,x)::r)=(if k=f then(k,v)::r else(k,x)::br f v r)from rfl]
  by_cases hk:k=f
  ·rw[if_pos hk,RE,RE];omega
  ·rw[if_neg hk,RE,RE];omega
def fb.some_of {v:V}{o:Option tx}(r:fb (some v) o):∃u,o=some u/\ba v u:=by
 cases o with
 |none=>exact(show False from r).elim
 |some u=>exact⟨u,rfl,r⟩
def fb.none_of {o:Option tx}(r:fb none o):o=none:=by
 cases o with
 |none=>rfl
 |some u=>exact(show False from r).elim
def wA {v:V}{u:tx}(r:ba v u):Wg u=true:=by
 cases v with
 |non=>cases (show u=SN from r);rfl
 |bl b=>cases (show u=SO b from r);rfl
 |int i=>obtain⟨t,e⟩:=(show ∃t,u=TB i t from r);cases e;rfl
 |str x=>obtain⟨t,e⟩:=(show ∃t,u=Tz x t from r);cases e;rfl
 |byt b=>obtain⟨t,e⟩:=(show ∃t,u=Yc b t from r);cases e;rfl
 |flt b=>obtain⟨t,e⟩:=(show ∃t,u=Wu b t from r);cases e;rfl
 |ref a=>cases (show u=Re a from r);rfl
 |ty n=>cases (show u=Value.type n from r);rfl
section
variable {P:Rh}{w:RF}{H H':Hp}{h h':Heap}{a C dx:Addr}{fs fs':List (Str×V)}
def gL (hok:HOk P w H h)(e:H a=some (.ins C dx fs)):∃mA,lN h a dx C mA/\(∀f,fb (fs.lookup f) (mA f))/\VY mA (fs.map (·.1))/\fs.length<=1000/\H dx=some (.own a):=by
 obtain⟨d,z,ne,ob,mA,n,r,q⟩:=(show bx P w H h a (.ins C dx fs)from hok a _ e)
 exact⟨mA,⟨ob,n,ne⟩,r,q,z,d⟩
end
structure Cls (K:cW)(C:Addr):Prop where
 pg:Sg K C Sb=true
 hd:Sa K C=true
 po:Sj K C=true
 sa:QF K (.ref C) "__setattr__"=some (some (.builtin "object.__setattr__"))
def Cls.get {K:cW}{C:Addr}(c:Cls K C)(f:Str):Sg K C f=true:=c.pg
def bq (K:cW)(C:Addr)(f:Str):Prop:=QF K (.ref C) f=some none
def bq.taker {K:cW}{C:Addr}{f:Str}(n:bq K C f):XZ K C f=some none:=by
 unfold XZ
 rw[show QF K (.ref C) f=some none from n]
 rfl
structure bE (K:cW)(C:Addr)(m:Str)(f:Addr):Prop where
 at_:QF K (.ref C) m=some (some (.ref f))
 fn:Rx K (.ref f)=true
 kp:SG K (.ref f)=true
section
variable {X:Cx}{pins:List (Addr×Obj)}{σ:St}{H:Hp}{s:If}{a C dx:Addr}{fs:List (Str×V)}{f:Str}{v:V}{A:RC}{E:tx->If->Prop}
def nF {b:Bool}{Q:tx->If->Prop}(I:Inv X pins σ H s)(e:H a=some (.ins C dx fs))(c:Cls X.K C)(n:bq X.K C f)(l:fs.lookup f=some v)
  (h:∀u s',Inv X pins σ H s'->ba v u->Q u s'):wpAny (model X.prog X.w) A (getAttr (.ref a) f b) Q E s:=by
 obtain⟨mA,O,r,_,_,_⟩:=gL I.hok e
 obtain⟨u,hu,ru⟩:=fb.some_of (v:=v) (o:=mA f) (by rw[<-l];exact r f)
 exact Dy I.kIn O (c.get f) c.hd n hu (wA ru) (h u _ (I.tok _) ru)
def jE {m:Str}{g:Addr}{pl:Sem Bool}{Q:tx×List tx->If->Prop}(I:Inv X pins σ H s)(e:H a=some (.ins C dx fs))(c:Cls X.K C)(k:bE X.K C m g)(l:fs.lookup m=none)
  (h:Q (.ref g,[.ref a]) s):wpAny (model X.prog X.w) A (getMethod (.ref a) m pl) Q E s:=by
 obtain⟨mA,O,r,_,_,_⟩:=gL I.hok e
 have hn:mA m=none:=fb.none_of (by rw[<-l];exact r m)
 exact Ab I.kIn O (c.get m) k.at_ k.fn hn h
def vh {y:V}{u:tx}{Q:Unit->If->Prop}(I:Inv X pins σ H s)(e:H a=some (.ins C dx fs))(c:Cls X.K C)(n:bq X.K C f)(hl:fs.length<1000)(ry:ba y u)
  (h:∀s',Inv X pins σ (upd H a (.ins C dx (br f y fs))) s'->Q () s'):wpAny (model X.prog X.w) A (setAttr (.ref a) f u) Q E s:=by
 obtain⟨mA,O,r,wi,_,ho⟩:=gL I.hok e
 have hz:(fs.map (·.1)).length<=sizeLine:=by rw[QC,Sm];omega
 refine Dz I.kIn O c.sa c.po n.taker c.hd wi hz fun h' O' sb=>h _ ?_
 have hd:∃o,h'.get? dx=some o:=let ⟨o,_,_,e',_⟩:=O'.ns;⟨o,e'⟩
 refine I.write (x:=a) (e:=dx) (by rw[e];exact SF) (.inr ho) (fun b q hb z=>(sb.2 b hb).trans z) hd ?_
 refine⟨by rw[ap O.ne];exact ho,?_,O.ne,O'.obj,_,O'.ns,fun g=>?_,fun g hg=>?_⟩
 ·have:=lM f y fs;omega
 ·show fb ((br f y fs).lookup g) (if g=f then some u else mA g)
  rw[lJ]
  by_cases q:g=f
  ·rw[if_pos q,if_pos q];exact ry
  ·rw[if_neg q,if_neg q];exact r g
 ·by_cases q:g=f
  ·rw[q];exact(kA f y fs).1
  ·refine(kA f y fs).2 g (wi g fun z=>hg ?_)
   show(if g=f then some u else mA g)=none
   rw[if_neg q];exact z
def Inv.made (I:Inv X pins σ H s):Inv X pins σ (upd (upd H s.heap.objs.size (.own (s.heap.objs.size+1))) (s.heap.objs.size+1) (.ins C s.heap.objs.size []))
  {s with heap:=(s.heap.push Tf).push (Ug C s.heap.objs.size)}:=by
 have e1:(s.heap.push Tf).get? s.heap.objs.size=some Tf:=QX s.heap rfl
 have e2:((s.heap.push Tf).push (Ug C s.heap.objs.size)).get? (s.heap.objs.size+1)=some (Ug C s.heap.objs.size):=by
  have:=QX (s.heap.push Tf) (o:=Ug C s.heap.objs.size) rfl
  rwa [UB]at this
 have e3:(s.heap.push Tf).Ns s.heap.objs.size (fun _=>none):=⟨Tf,#[],_,e1,rfl,(fun e he=>absurd he (by simp)),fun _=>rfl⟩
 have I1:=I.laid (a:=s.heap.objs.size) (o:=.own (s.heap.objs.size+1)) (h':=s.heap.push Tf) (t':=s.toks) (fun b u q=>Lt _ q) (gV _) ⟨_,e1⟩
 refine I1.laid (a:=s.heap.objs.size+1) (o:=.ins C s.heap.objs.size []) (t':=s.toks) (fun b u q=>Lt _ q) (Uw (UB _ _)) ?_
 have ne:s.heap.objs.size≠s.heap.objs.size+1:=Rf (Vl _)
 refine⟨by rw[ap ne,ag],QK _,ne,e2,fun _=>none,(Heap.Ns1.of_empty e3).at fun o q=>Lt _ q,fun _=>SF,fun y hy=>absurd rfl hy⟩
def Eg {prog:Rh}{w:RF}{env:Env}{e:Expr}{f:Str}{pos:Pos}{s:If}{Q:tx->If->Prop}(hb:attributeBase e f env (eval e env)=eval e env)
  (h:wpAny (model prog w) A (eval e env) (fun o s₁=>wpAny (model prog w) A (getAttr o f true) Q E s₁) E s):wpAny (model prog w) A (eval (.Attribute e f pos) env) Q E s:=
 Attribute_any_ h (by rw[arm_eval_Attribute,hb])
end
inductive FlI (K:cW)(f:Str)(x:V)(H1:Hp)(Q:VK):Prop|mk (a C dx:Addr)(fs:List (Str×V))(v:V)(_:x=.ref a)(_:H1 a=some (.ins C dx fs))(_:Cls K C)(_:bq K C f)(_:fs.lookup f=some v)(_:Q v H1)
def aH (K:cW)(ta:TE)(f:Str):TE:=fun σ H Q=>ta σ H fun x H1=>FlI K f x H1 Q
def cY (K:cW)(ta tv:TE)(f:Str):TS:=fun D σ H=>tv σ H fun y H1=>ta σ H1 fun x H2=>∃a C dx fs,x=.ref a/\H2 a=some (.ins C dx fs)/\Cls K C/\bq K C f/\fs.length<1000/\
 D.nx σ (upd H2 a (.ins C dx (br f y fs)))
section
variable {X:Cx}{o e value:Expr}{f:Str}{pos pos' tpos:Pos}{ta tv:TE}
def FD (he:PE X e ta)(hb:attributeBase e f X.env (eval e X.env)=eval e X.env):PE X (.Attribute e f pos) (aH X.K ta f):=by
 intro pins s σ H Q I h
 refine Eg hb (thn (he pins s σ H _ I h) fun u s1 ⟨x,H1,I1,rx,a,C,dx,fs,v,ex,ea,c,n,l,q⟩=>?_)
 subst ex
 obtain rfl:u=Re a:=rx
 exact nF I1 ea c n l fun u' s2 I2 ru=>⟨v,H1,I2,ru,q⟩
def Io (ha:PE X o ta)(hv:PE X value tv)(hs:swapsWith value (some (.Attribute o f pos')) pos.line X.env=pure false):PS X (.Assign [.Attribute o f pos'] value pos) (cY X.K ta tv f):=by
 intro pins s σ H D I h
 refine plainObj_wpAny_Assign_Attribute (thn (hv pins s σ H _ I h) fun u s1 ⟨y,H1,I1,ry,q⟩=>thn (ha pins s1 σ H1 _ I1 q) fun ov s2 ⟨x,H2,I2,rx,a,C,dx,fs,ex,ea,c,n,l,q2⟩=>?_) hs
 subst ex
 obtain rfl:ov=Re a:=rx
 exact vh I2 ea c n l ry fun s3 I3=>⟨σ,_,I3,q2⟩
end
section
variable {X:Cx}{pins:List (Addr×Obj)}{σ:St}{H:Hp}{s:If}{A:RC}{E:tx->If->Prop}{Q:tx->If->Prop}{c:tx}{b:Bool}
inductive gd (K:cW)(H:Hp):V->tx->Prop where
 |non:gd K H .non (.type "NoneType")
 |bl (x:Bool):gd K H (.bl x) (.type "bool")
 |int (i:Int):gd K H (.int i) (.type "int")
 |str (x:Str):gd K H (.str x) (.type "str")
 |flt (x:UInt64):gd K H (.flt x) (.type "float")
 |lst {a:Addr} {xs:List V} (e:H a=some (.lst xs)):gd K H (.ref a) (.type "list")
 |frz {a:Addr} {o:Obj} {xs:List V} (e:H a=some (.frz o (.lst xs))):gd K H (.ref a) (.type "list")
 |tup {a:Addr} {xs:List V} (e:H a=some (.tup xs)):gd K H (.ref a) (.type "tuple")
 |dK {a:Addr} {kvs:List (Key×V)} (e:H a=some (.dK kvs)):gd K H (.ref a) (.type "dict")
 |dT {a:Addr} {kvs:List (List Key×V)} (e:H a=some (.dT kvs)):gd K H (.ref a) (.type "dict")
 |ins {a C dx:Addr} {fs:List (Str×V)} (e:H a=some (.ins C dx fs)) (cl:Cls K C) (ha:QF K (.ref C) "__class__"=some (some (.builtin "object.__class__")))
  (hn:US K (.builtin "object.__class__") "__get__"=some (some (.builtin "getset_descriptor.__get__"))) (htk:XY K (.builtin "object.__class__")=some true)
  (hm:TL K C (.type "object")=some true):gd K H (.ref a) (.ref C)
def xa {x:V}{u t:tx}(I:Inv X pins σ H s)(rx:ba x u)(ty:gd X.K H x t)(e:Sl X.K t c=some b)(h:∀tk,Q (.bool b) {s with toks:=tk}):
  wpAny (model X.prog X.w) A (call (.builtin "isinstance") [u,c]) Q E s:=by
 cases ty with
 |non=>cases (show u=SN from rx);exact Tb W.kitx_none I.kIn SF e (fun z=>nomatch z) h
 |bl y=>cases (show u=SO y from rx);exact Tb W.kitx_bool I.kIn SF e (fun z=>nomatch z) h
 |int i=>obtain⟨t,q⟩:=(show ∃t,u=TB i t from rx);cases q;exact Tb W.kitx_int I.kIn SF e (fun z=>nomatch z) h
 |str y=>obtain⟨t,q⟩:=(show ∃t,u=Tz y t from rx);cases q;exact Tb W.kitx_str I.kIn SF e (fun z=>nomatch z) h
 |flt y=>obtain⟨t,q⟩:=(show ∃t,u=Wu y t from rx);cases q;exact Tb W.kitx_float I.kIn SF e (fun z=>nomatch z) h
 | @lst a xs ea=>
   cases (show u=Re a from rx)
   obtain⟨_,_,n,_,h1⟩:=(show bx X.prog X.w H s.heap a (.lst xs)from I.hok a _ ea)
   exact Tb W.kitx_list I.kIn ⟨_,h1,rfl⟩ e (fun z=>nomatch z) h
 | @frz a ob xs ea=>
   cases (show u=Re a from rx)
   obtain⟨_,_,_,n,_,h1⟩:=(show bx X.prog X.w H s.heap a (.frz ob (.lst xs))from I.hok a _ ea)
   exact Tb W.kitx_list I.kIn ⟨_,h1,rfl⟩ e (fun z=>nomatch z) h
 | @tup a xs ea=>
   cases (show u=Re a from rx)
   obtain⟨_,_,_,p⟩:=(show bx X.prog X.w H s.heap a (.tup xs)from I.hok a _ ea)
   obtain⟨o,h1,h2,_⟩:=p
   exact Tb W.kitx_tuple I.kIn ⟨o,h1,h2⟩ e (fun z=>nomatch z) h
 | @dK a kvs ea=>
   cases (show u=Re a from rx)
   obtain⟨_,_,vs,_,p⟩:=(show bx X.prog X.w H s.heap a (.dK kvs)from I.hok a _ ea)
   obtain⟨o,es,ep,h1,h2,_⟩:=p
   exact Tb W.kitx_dict I.kIn ⟨o,h1,h2.1⟩ e (fun z=>nomatch z) h
 | @dT a kvs ea=>
   cases (show u=Re a from rx)
   obtain⟨_,_,xs,_,o,es,ep,h1,h2,_⟩:=(show bx X.prog X.w H s.heap a (.dT kvs)from I.hok a _ ea)
   exact Tb W.kitx_dict I.kIn ⟨o,h1,h2.1⟩ e (fun z=>nomatch z) h
 | @ins a C dx fs ea cl ha hn htk hm=>
   cases (show u=Re a from rx)
   obtain⟨mA,O,_⟩:=gL I.hok ea
   obtain⟨od,J,_⟩:=O.look
   exact Tb (W.kitx_own (cl.get _) cl.hd ha hn htk hm) I.kIn J e (fun z=>nomatch z) h
end
structure bB (k:Nat)(A:RC):Prop where
 hd:A.handled=none
 dp:A.depth+3*k+5<recursionLimit
 un:A.units+16*k+200<cLine
def bB.mono {j k:Nat}{A:RC}(r:bB k A)(h:j<=k):bB j A:=⟨r.hd,by have:=r.dp;omega,by have:=r.un;omega⟩
def bB.deeper {k:Nat}{A:RC}(r:bB (k+1) A)(env:Env):bB k (A.deeper env):=
 ⟨r.hd,by have:=r.dp;show A.depth+1+3*k+5<_;omega,by have:=r.un;show A.units+3+16*k+200<_;omega⟩
def vM {A:RC}{C:Addr}{us:List tx}{kw:List (Str×tx)}:(A.under (.builtin "type.__call__" ⟨.ref C::us,kw⟩)).depth=A.depth+1:=by
 first|rfl|simp[VP,Code.weight,Code.isCreation,Code.isGuard,Code.isCaller,Code.frames,Wi,guardIds]
def uP {A:RC}{C:Addr}{us:List tx}{kw:List (Str×tx)}:(A.under (.builtin "type.__call__" ⟨.ref C::us,kw⟩)).units=A.units+1:=by
 first|rfl|simp[VP,Code.cUnits,Code.frames,Wi]
def bB.make {k:Nat}{A:RC}(r:bB (k+1) A)(C:Addr)(us:List tx)(kw:List (Str×tx)):bB k (A.under (.builtin "type.__call__" ⟨.ref C::us,kw⟩)):=
 ⟨r.hd,by have:=r.dp;rw[vM];omega,by have:=r.un;rw[uP];omega⟩
def bB.depth {k:Nat}{A:RC}(r:bB k A):A.depth<recursionLimit:=by have:=r.dp;omega
def aj:TA:=fun _ H Q=>Q [] H
def af (ta:TE)(tr:TA):TA:=fun σ H Q=>ta σ H fun x H1=>tr σ H1 fun xs H2=>Q (x::xs) H2
section
variable {X:Cx}{e:Expr}{es:List Expr}{te:TE}{t:TA}{pos:Pos}
def EI:PA X [] aj:=fun _ _ _ _ H Q I h=>WL ⟨[],H,I,.nil,h⟩
def DG (ha:PE X e te)(hr:PA X es t)(hs:starEach (e::es) X.env=(false,eval e X.env)::starEach es X.env:=by rfl):PA X (e::es) (af te t):=by
 intro pos pins s σ H Q I h
 rw[hs]
 show wpAny _ _ (spliced ((false,eval e X.env)::backTo pos (starEach es X.env))) _ _ s
 refine WE (thn (ha pins s σ H _ I h) fun u s1 ⟨x,H1,I1,r1,q1⟩=>?_)
 exact thn (hr pos pins s1 σ H1 _ I1 q1) fun us s2 ⟨xs,H2,I2,r2,q2⟩=>⟨x::xs,H2,I2,.cons r1 r2,q2⟩
def bZ (t:TA):TE:=fun σ H Q=>t σ H fun xs H1=>xs.length<=sizeLine/\∀p,H1 p=none->Q (.ref p) (upd H1 p (.tup xs))
def dm (t:TA):TE:=fun σ H Q=>t σ H fun xs H1=>xs.length<=sizeLine/\∀p,H1 p=none->Q (.ref p) (upd H1 p (.lst xs))
def Ew {x1}(h:PA X es t):PE X (.Tuple es x1 pos) (bZ t):=by
 intro pins s σ H Q I hq
 refine wpAny_Tuple_spliced (thn (h pos pins s σ H _ I hq) fun us s1 ⟨xs,H1,I1,r,z,q⟩=>⟨by rw[<-r.length];exact z,?_⟩)
 have hf:H1 s1.heap.objs.size=none:=I1.hok.fresh (gV _)
 refine⟨.ref s1.heap.objs.size,upd H1 s1.heap.objs.size (.tup xs),I1.laid (t':=s1.toks) (fun b u e=>Lt _ e) (gV _) ?_,rfl,q _ hf⟩
 exact⟨z,us,r,⟨_,QX _ rfl,rfl,_,rfl⟩⟩
def Hq (h:PA X es t):PE X (.List es pos) (dm t):=by
 intro pins s σ H Q I hq
 refine wpAny_List_spliced (thn (h pos pins s σ H _ I hq) fun us s1 ⟨xs,H1,I1,r,z,q⟩=>⟨by rw[<-r.length];exact z,?_⟩)
 have hf:H1 s1.heap.objs.size=none:=I1.hok.fresh (gV _)
 refine⟨.ref s1.heap.objs.size,upd H1 s1.heap.objs.size (.lst xs),I1.laid (t':=s1.toks) (fun b u e=>Lt _ e) (gV _) ?_,rfl,q _ hf⟩
 exact⟨z,us,0,r,QX _ rfl⟩
end
abbrev Sp:=List V->Hp->VK->XK->Prop
abbrev CXT:=List Env->Hp->If->XK->tx->If->Prop
structure jc (P:Rh)(w:RF)(K:cW)(mg:Str->Option tx)(base:Heap)(A:RC)(outer:List Env)(s:If)(H:Hp):Prop where
 frames:A.frames=some outer
 mod:Mod K mg base
 bs:∀b o,base.get? b=some o->s.heap.get? b=some o/\H b=none
 bsz:base.objs.size<=s.heap.objs.size
 funs:s.heap.FunFrames base outer
 frf:∀b∈frs outer,H b=none
 hok:HOk P w H s.heap
 bare:Uu s.gens
def CE (outer:List Env)(P:Rh)(w:RF)(H:Hp)(s:If)(Q:VK)(u:tx)(s':If):Prop:=
 ∃v H',s'.os=s.os/\Uu s'.gens/\Un (frs outer) [] H H' s.heap s'.heap/\HOk P w H' s'.heap/\ba v u/\Q v H'
def CR (CX:CXT)(outer:List Env)(P:Rh)(w:RF)(H:Hp)(s:If)(Q:VK)(E:XK)(r:Result)(s':If):Prop:=
 match r with
 |.ok (.ret u)=>CE outer P w H s Q u s'
 |.ok _=>False
 |.error e=>CX outer H s E e s'
structure aG (P:Rh)(w:RF)(K:cW)(mg:Str->Option tx)(base:Heap)(CX:CXT)(k:Nat)(f:Addr)(fd:QD)(ps:List Str)(sp:Sp):Prop where
 len:∀vs H Q E,sp vs H Q E->vs.length=ps.length
 run:∀(A:RC)(outer:List Env)(s:If)(H:Hp)(args:Args)(us:List tx)(vs:List V)(Q:VK)(E:XK),bB k A->jc P w K mg base A outer s H->WM s fd args (ps.zip us)->bc vs us->sp vs H Q E->
  codeAny (model P w) A (.call (.ref f) args) (CR CX outer P w H s Q E) s
def jc.make {P:Rh}{w:RF}{K:cW}{mg:Str->Option tx}{base:Heap}{A:RC}{outer:List Env}{s:If}{H:Hp}(e:jc P w K mg base A outer s H)(C:Addr)(us:List tx)(kw:List (Str×tx)):
 jc P w K mg base (A.under (.builtin "type.__call__" ⟨.ref C::us,kw⟩)) outer s H:=⟨by first|exact e.frames|(simpa[VP,Code.envs,Wi,pushEnvs]using e.frames),e.mod,e.bs,e.bsz,e.funs,e.frf,e.hok,e.bare⟩
section
variable {X:Cx}{pins:List (Addr×Obj)}{σ:St}{H:Hp}{s s':If}
def Inv.env0 (I:Inv X pins σ H s):jc X.prog X.w X.K X.mg X.base X.A X.stack s H:=
 ⟨I.ok.frames,I.ok.mod,I.bs,Rl I.ok.bsz I.sz,I.stack,I.stkFree,I.hok,I.bare⟩
def Inv.after {Q:VK}{u:tx}(I:Inv X pins σ H s)(h:CE X.stack X.prog X.w H s Q u s'):EP X pins σ Q u s':=by
 obtain⟨v,H',os,bare,un,hok,r,q⟩:=h
 obtain⟨hh,g,d,t,os'⟩:=s'
 obtain rfl:os'=s.os:=os
 exact⟨v,H',I.call (h':=hh) (g':=g) (d':=d) (t':=t) (ch:=[]) un hok bare (fun b z=>absurd z (by simp)),r,q⟩
end
def aL (K:cW)(fd:QD)(ps:List Str)(ds:List tx):Prop:=
 ∀(s:If)(us:List tx),K.In s.heap->(us++ds).length=ps.length->WM s fd ⟨us,[]⟩ (ps.zip (us++ds))
def aL.all {K:cW}{fd:QD}{ps:List Str}(h:∀us:List tx,us.length=ps.length->bindArgs fd ⟨us,[]⟩=pure (ps.zip us)):aL K fd ps []:=fun s us _ hl=>by
 rw[RO]at hl⊢
 exact .of_eq (h us hl)
section
variable {X:Cx}{CX:CXT}{k:Nat}{f C:Addr}{fd:QD}{ps:List Str}{sp:Sp}{dvs:List V}{ds:List tx}{E:XK}{x m:Str}{p pos apos:Pos}{e o:Expr}{es:List Expr}{ta:TE}{t:TA}
structure Mk (K:cW)(C f:Addr):Prop where
 makes:Tj K C=true
 init:QF K (.ref C) "__init__"=some (some (.ref f))
 fn:Rx K (.ref f)=true
 kp:SG K (.ref C)=true
end
structure aw (N P:List Str)(sc:Scope):Prop where
 kind:sc.kind=.function
 co:sc.isCoroutine=false
 gen:sc.isGenerator=false
 nd:N.Nodup
 pre:N.take P.length=P
 par:∀x∈P,sc.names.lookup x=some .local\/sc.names.lookup x=some .cell
 nofree:∀y∈sc.names,y.2≠.free
theorem oX {kindOf:Str->Option SC}{x:Str}:∀{binds:List (Str×tx)}{m:Str->Option tx},(∀v,(x,v)∉binds)->bindL kindOf binds m x=m x
 |[],_,_=>rfl
 |(n,v)::r,m,h=>by
  unfold bindL
  rw[oX fun w hw=>h w (QN _ hw)]
  split
  ·have:x≠n:=by rintro rfl;exact h v Rb
   simp[this]
  ·rfl
theorem pB {kindOf:Str->Option SC}{x:Str}:∀{binds:List (Str×tx)}{m:Str->Option tx},(∀v,(x,v)∉binds)->bindC kindOf binds m x=m x
 |[],_,_=>rfl
 |(n,v)::r,m,h=>by
  unfold bindC
  rw[pB fun w hw=>h w (QN _ hw)]
  split
  ·rfl
  ·have:x≠n:=by rintro rfl;exact h v Rb
   simp[this]
theorem pf {kindOf:Str->Option SC}{x:Str}{v:tx}:∀{P:List Str}{vs:List tx}{i:Nat}{m:Str->Option tx},P.Nodup->P[i]? =some x->vs[i]? =some v->kindOf x=some .local->
  bindL kindOf (P.zip vs) m x=some v
 |[],_,_,_,_,h,_,_=>by simp at h
 |_::_,[],_,_,_,_,h,_=>by simp at h
 |p::P,w::vs,0,m,nd,h1,h2,hk=>by
  simp at h1 h2;subst h1;subst h2
  show bindL kindOf ((p,w)::P.zip vs) m p=_
  unfold bindL
  rw[oX fun v hv=>(RA.mp nd).1 (Tg hv).1,if_pos hk]
  simp
 |p::P,w::vs,i+1,m,nd,h1,h2,hk=>by
  show bindL kindOf ((p,w)::P.zip vs) m x=_
  unfold bindL
  exact pf (i:=i) (RA.mp nd).2 (by simpa using h1) (by simpa using h2) hk
theorem oU {kindOf:Str->Option SC}{x:Str}{v:tx}:∀{P:List Str}{vs:List tx}{i:Nat}{m:Str->Option tx},P.Nodup->P[i]? =some x->vs[i]? =some v->kindOf x≠some .local->
  bindC kindOf (P.zip vs) m x=some v
 |[],_,_,_,_,h,_,_=>by simp at h
 |_::_,[],_,_,_,_,h,_=>by simp at h
 |p::P,w::vs,0,m,nd,h1,h2,hk=>by
  simp at h1 h2;subst h1;subst h2
  show bindC kindOf ((p,w)::P.zip vs) m p=_
  unfold bindC
  rw[pB fun v hv=>(RA.mp nd).1 (Tg hv).1,if_neg hk]
  simp
 |p::P,w::vs,i+1,m,nd,h1,h2,hk=>by
  show bindC kindOf ((p,w)::P.zip vs) m x=_
  unfold bindC
  exact oU (i:=i) (RA.mp nd).2 (by simpa using h1) (by simpa using h2) hk
def cO (N:List Str)(vs:List V):St:=vs.map some++VC (N.length- vs.length) none
def fw (CX:CXT)(P:Rh)(w:RF)(K:cW)(mg:Str->Option tx)(base:Heap)(N:List Str)(qual:Str)(scope:Scope)(f:Addr)(cd:tx)(A:RC)(outer:List Env)(s:If)(H:Hp)(E:XK):Cx where
 prog:=P
 w:=w
 K:=K
 mg:=mg
 base:=base
 A:=A.deeper (envOfC qual scope s.heap.objs.size f cd)
 N:=N
 s₀:=s
 H₀:=H
 env:=envOfC qual scope s.heap.objs.size f cd
 outer:=outer
 stack:=envOfC qual scope s.heap.objs.size f cd::outer
 ex:=[]
 calm:=true
 fn:=fun _=>true
 pn:=[]
 xe:=fun e s'=>wpAny (model P w) (A.deeper (envOfC qual scope s.heap.objs.size f cd)) (leaving (envOfC qual scope s.heap.objs.size f cd) e) (fun _ s''=>CX outer H s E e s'') (fun e' s''=>CX outer H s E e' s'') s'
def sX {sc:Scope}{n:Nat}{x:Str}(h:sc.names.lookup x=some .cell):∃c,(cellsFrom n sc.names []).lookup x=some c:=by
 have q:=Vs sc.names n [] (.inl h)
 exact RH.mp q
def pE {CX:CXT}{P:Rh}{w:RF}{K:cW}{mg:Str->Option tx}{base:Heap}{N ps:List Str}{qual:Str}{scope:Scope}{f:Addr}{cd:tx}{A:RC}{outer:List Env}{s s1:If}{H:Hp}{E:XK}{us:List tx}{vs:List V}
  (S:aw N ps scope)(hd:A.handled=none)(e0:jc P w K mg base A outer s H)(hl:vs.length=ps.length)(r:bc vs us)
  (x:InCallC s s.heap.objs.size (bindL (envOfC qual scope s.heap.objs.size f cd).kindOf (ps.zip us) fun _=>none) (cellsFrom (s.heap.objs.size+1) scope.names []) (bindC (envOfC qual scope s.heap.objs.size f cd).kindOf (ps.zip us) fun _=>none) s1):
  Inv (fw CX P w K mg base N qual scope f cd A outer s H E) [] (cO N vs) H s1:=by
 have hpl:ps.length<=N.length:=by have:=congrArg List.length S.pre;rw[SE]at this;omega
 obtain⟨h1,tk,rfl,hk⟩:=x.done
 have noA:∀b:Addr,b∉(fw CX P w K mg base N qual scope f cd A outer s H E).ex:=fun b z=>absurd (show b∈([]:List Addr)from z) (by simp)
 refine⟨⟨e0.mod,S.kind,rfl,rfl,gV _,fun y z c h1 h2=>?_,fun y hy=>?_,fun y c _ h=>?_,fun _=>hd,Wa e0.frames,.inr ⟨rfl,rfl⟩,fun b z=>absurd z (noA b),e0.bs,e0.bsz,fun b _ _=>noA b,fun b z=>absurd z (noA b),e0.funs,e0.frf⟩,
  rfl,e0.bare,Un.kept hk,⟨_,x.toInCall.ns,fun i y v h1 h2 h3=>?_⟩,fun y c h=>⟨_,x.cell y c h⟩,e0.hok.fresh (gV _),fun y c h=>?_,fun p hp=>absurd (show p∈([]:List (Addr×Obj))from hp) (by simp),e0.hok.kept hk,?_⟩
 ·exact name_of_addr x.apart (RU h1) (RU h2)
 ·have hy:scope.names.lookup y=some .cell\/scope.names.lookup y=some .free:=hy
  rcases hy with hy|hy
  ·exact sX hy
  ·exact absurd rfl (S.nofree _ (RU hy))
 ·exact TV (x.above y c (RU h))
 ·have hi:i<vs.length:=by
   unfold cO at h2
   by_cases hi:i<vs.length
   ·exact hi
   ·rw[SR (by simpa using hi)]at h2
    rw[VU]at h2
    split at h2<;>cases h2
  have ha:vs[i]?=some v:=by
   unfold cO at h2
   rw[SX (by simpa using hi),Ro]at h2
   cases e:vs[i]? with
   |none=>rw[e]at h2;cases h2
   |some a=>rw[e]at h2;cases h2;rfl
  obtain⟨u,hu,rv⟩:=r.get ha
  have hp:ps[i]?=some y:=by
   rw[<-S.pre,VM (by omega)];exact h1
  have ndP:ps.Nodup:=by rw[<-S.pre];exact S.nd.sublist (WT _ _)
  refine⟨u,rv,?_⟩
  rcases S.par y (Rp hp)with k|k
  ·exact .inl ⟨k,pf ndP hp hu k⟩
  ·obtain⟨c,e⟩:=sX (n:=s.heap.objs.size+1) k
   refine .inr ⟨.inl k,c,e,?_⟩
   have q:=x.cell y c e
   rw[oU ndP hp hu (by show scope.names.lookup y≠_;rw[k];decide)]at q
   exact q
 ·exact e0.hok.fresh (TV (x.above y c (RU h)))
 ·unfold cO
  show _=N.length
  rw[QP,QC,Ur]
  omega
def BR {CX:CXT}{P:Rh}{w:RF}{K:cW}{mg:Str->Option tx}{base:Heap}{k:Nat}{f:Addr}{name qual:Str}{params:Arguments}{body:List Stmt}{scope:Scope}{dV kV doc pm cdv ct oc:tx}{an od:Option Addr}
  {osl:Array (Option tx)}{N ps:List Str}{sp:Sp}(lk:K.lookup f=some ⟨oc,od,.func (Tc name qual params body scope dV kV doc pm an cdv ct),osl⟩)(hcd:Xo K cdv qual=true)(S:aw N ps scope)
  (len:∀vs H Q E,sp vs H Q E->vs.length=ps.length)
  (hbody:∀(A:RC)(outer:List Env)(s:If)(H:Hp)(vs:List V)(Q:VK)(E:XK),bB k (A.deeper (envOfC qual scope s.heap.objs.size f cdv))->sp vs H Q E->
   ∃t,PSs (fw CX P w K mg base N qual scope f cdv A outer s H E) body t/\t {nx:=fun _ H'=>Q .non H',rt:=Q} (cO N vs) H):
  aG P w K mg base CX (k+1) f (Tc name qual params body scope dV kV doc pm an cdv ct) ps sp:=by
 refine⟨len,fun A outer s H args us vs Q E hr e0 hb r hsp=>?_⟩
 have hl:=len _ _ _ _ hsp
 have KX:K.In s.heap:=e0.mod.kin.keeps fun b o e=>(e0.bs b o e).1
 have lim:s.heap.NoLimit:=e0.mod.nolimit.keeps fun b o e=>(e0.bs b o e).1
 have hkind:∀y∈ps.zip us,scope.names.lookup y.1=some .local\/(scope.names.lookup y.1=some .cell/\((cellsFrom (s.heap.objs.size+1) scope.names []).lookup y.1).isSome=true):=fun⟨n,v⟩ hy=>by
  rcases S.par n (Tg hy).1 with q|q
  ·exact .inl q
  ·exact .inr ⟨q,Vs _ _ _ (.inl q)⟩
 refine Xa hr.depth (KX _ _ lk) rfl S.co S.gen rfl (W.codeRec_of KX hcd) (hb _ _ _ _ ?_)
 refine Wf S.kind hkind fun env he s1 x=>?_
 subst he
 refine⟨lim.keeps x.toInCall.keep,codeAny_func ?_⟩
 obtain⟨t,ht,hq⟩:=hbody A outer s H vs Q E (hr.deeper _) hsp
 have I:Inv (fw CX P w K mg base N qual scope f cdv A outer s H E) [] (cO N vs) H s1:=pE S hr.hd e0 hl r x
 refine Rq (ht [] s1 (cO N vs) H _ I hq) (fun fl s' hs=>?_) fun e s' hs=>hs
 have fin:∀{σ':St}{H':Hp}{v:V}{u:tx},Inv (fw CX P w K mg base N qual scope f cdv A outer s H E) [] σ' H' s'->ba v u->Q v H'->CE outer P w H s Q u s':=
  fun{σ' H' v u} J rv q=>⟨v,H',J.os,J.bare,J.base,J.hok,rv,q⟩
 cases fl with
 |ret u=>
  obtain⟨v,σ',H',J,rv,q⟩:=hs
  exact fin J rv q
 |next=>
  obtain⟨σ',H',J,q⟩:=hs
  exact fin (v:=V.non) (u:=SN) J rfl q
 |brk=>
  obtain⟨_,_,_,q⟩:=hs
  exact Rw q
 |cont=>
  obtain⟨_,_,_,q⟩:=hs
  exact Rw q
section
variable {X:Cx}{x:Str}{p pos:Pos}{e:Expr}{es:List Expr}{t:TA}{id T:String}{r:List V->Hp->VK->Prop}
def tCB (r:List V->Hp->VK->Prop)(t:TA):TE:=fun σ H Q=>t σ H fun vs H1=>r vs H1 Q
def zW (hc:bS X (.builtin id) r)(hg:Gl X x)(hm:X.mg x=none)(hv:bootBuiltins x=some (.builtin id))(ha:PA X (e::es) t)(hn:x≠"__name__":=by decide)(hdb:(x==("__debug__":Str))=false:=by decide)
  (he:starEach (e::es) X.env=(false,eval e X.env)::starEach es X.env:=by rfl)(hpl:(backTo pos (starEach es X.env)).any (·.1)=false:=by rfl):PE X (.Call (.Name x p) (e::es) [] pos) (tCB r t):=by
 intro pins s σ H Q I h
 refine RP (gT I hg hm hv ?_ hn hdb)
 exact PyProof.Rows.callWith_builtin1 (thn (ha pos pins s σ H _ I h) fun us s1 ⟨vs,H1,I1,r1,q1⟩=>hc pins s1 σ H1 vs us Q I1 r1 q1) he hpl
def xk (hc:bS X (.type T) r)(hg:Gl X x)(hm:X.mg x=none)(hv:bootBuiltins x=some (.type T))(ha:PA X (e::es) t)(hn:x≠"__name__":=by decide)(hdb:(x==("__debug__":Str))=false:=by decide)
  (he:starEach (e::es) X.env=(false,eval e X.env)::starEach es X.env:=by rfl)(hpl:(backTo pos (starEach es X.env)).any (·.1)=false:=by rfl):PE X (.Call (.Name x p) (e::es) [] pos) (tCB r t):=by
 intro pins s σ H Q I h
 refine RP (gT I hg hm hv ?_ hn hdb)
 exact RW (thn (ha pos pins s σ H _ I h) fun us s1 ⟨vs,H1,I1,r1,q1⟩=>hc pins s1 σ H1 vs us Q I1 r1 q1) he hpl
end
end L2
namespace HT
open PySem PyProof.Rows
section
open PySem.SeqAt
open PySem.AutoSeq1 (wpAny_loadPart')
open PySem.MeetsSeq PySem.MeetsSeq2 PySem.MeetsSeq3
end
section
variable {prog:Rh}{w:RF}{A:RC}{E:tx->If->Prop}{s:If}
def DS {t b:Addr}{vs ws:List tx}{Q:tx->If->Prop}(ht:VL s.heap t vs.toArray)(hb:VL s.heap b ws.toArray)(hv:vs≠[])
  (h1:ws=[]->Q (.ref t) s)(h2:ws≠[]->Q (.ref s.heap.objs.size) {s with heap:=s.heap.push {cls:=.type "tuple",data:=.seq (vs++ws).toArray}})
  (hsz:vs.length+ws.length<=sizeLine):wpAny (model prog w) A (binaryOp .Add (.ref t) (.ref b)) Q E s:=by
 obtain⟨⟨cls,dd,data,sl⟩,ho,hc,n,hd⟩:=id ht
 obtain⟨⟨cls2,dd2,data2,sl2⟩,ho2,hc2,n2,hd2⟩:=id hb
 simp only at hc hd hc2 hd2
 subst hc hd hc2 hd2
 have e:vs.toArray++ws.toArray=(vs++ws).toArray:=by simp
 by_cases hw:ws=[]
 ·exact WZ ⟨_,ho,rfl⟩ ⟨_,ho2,rfl⟩ VH WH Ud Ua (TQ _ _)
   (tuple_addW1 t b vs.toArray ws.toArray n n2 dd dd2 sl sl2 (by simpa using hv) (by simp[hw])) ⟨ho,ho2,h1 hw⟩
 ·refine WZ ⟨_,ho,rfl⟩ ⟨_,ho2,rfl⟩ VH WH Ud Ua (TQ _ _)
   (tuple_addW2 t b vs.toArray ws.toArray n n2 dd dd2 sl sl2 (by simpa using hv) (by simpa using hw) (by rw[QJ,QJ];exact hsz)) ⟨ho,ho2,?_⟩
  rw[e]
  exact h2 hw
def sIx (n d:Nat):Option Int->Nat
 |none=>d
 |some v=>if v<0 then(v+(n:Int)).toNat else min v.toNat n
def rC (n d:Nat):sIx n d none=d:=rfl
def FM (n d:Nat)(hd:d<=n)(o:Option Int):sIx n d o<=n:=by
 cases o with
 |none=>exact hd
 |some v=>
  show(if v<0 then(v+(n:Int)).toNat else min v.toNat n)<=n
  by_cases hv:v<0
  ·rw[if_pos hv];omega
  ·rw[if_neg hv];exact Vk _ _
def um (v:Int)(n d:Nat):(if v<0 then max (v+(n:Int)) 0 else min v (n:Int))=((sIx n d (some v):Nat):Int):=by
 show(if v<0 then max (v+(n:Int)) 0 else min v (n:Int))=(((if v<0 then(v+(n:Int)).toNat else min v.toNat n):Nat):Int)
 by_cases hv:v<0
 ·simp only[if_pos hv];omega
 ·simp only[if_neg hv];omega
def vN (lo hi:Option Int)(n:Nat):Tu lo hi 1 (n:Int)=(((sIx n 0 lo:Nat):Int),((sIx n n hi:Nat):Int)):=by
 have h1:¬((1:Int)<0):=by omega
 unfold Tu
 simp only[h1,if_false]
 refine XH ?_ ?_
 ·cases lo with
  |none=>rfl
  |some v=>exact um v n 0
 ·cases hi with
  |none=>rfl
  |some v=>exact um v n n
def vo (i j:Nat):SJ (i:Int) (j:Int) 1=j- i:=by
 unfold SJ
 have h1:(1:Int)>0:=by omega
 simp only[h1,if_true,Int.ediv_one]
 split<;>omega
def nN {v:tx}{o:Option Int}{Q:Option Int->If->Prop}(p:Vx v o)(h:Q o s):wpAny (model prog w) A (Yn v) Q E s:=by
 cases p with
 |none=>exact slicePart_none h
 |int i t=>exact slicePart_int h
def gP {sl:Addr}{vl vu:tx}{lo hi:Option Int}{n:Nat}{Q:Int×Int×Nat->If->Prop}(hs:s.heap.IsSliceOf sl vl vu .none)(pl:Vx vl lo)(pu:Vx vu hi)
  (h:Q (((sIx n 0 lo:Nat):Int),1,sIx n n hi- sIx n 0 lo) s):wpAny (model prog w) A (UG (.ref sl) (pure (n:Int))) Q E s:=by
 obtain⟨os,hos,hcs,hds⟩:=id hs
 unfold UG Yo
 refine pv (pv (Se hos hds (x:=vl) rfl (pv (Se hos hds (x:=vu) rfl (pv (Se hos hds (x:=.none) rfl (QL ?_)))))))
 refine pv (slicePart_none ?_)
 show wpAny _ _ (if ((1:Int)==0)=true then _ else _) _ _ s
 rw[if_neg (by decide)]
 refine pv (nN pl (pv (nN pu (pv (QL ?_)))))
 show wpAny _ _ (match Tu lo hi 1 (n:Int)with|(lo,hi)=>pure (lo,(1:Int),SJ lo hi 1)) _ _ s
 rw[vN lo hi n]
 show wpAny _ _ (pure (((sIx n 0 lo:Nat):Int),(1:Int),SJ ((sIx n 0 lo:Nat):Int) ((sIx n n hi:Nat):Int) 1)) _ _ s
 rw[vo]
 exact QL h
def Bi (xs:Array tx)(i k:Nat):((UW k).filterMap fun(m:Nat)=>xs[((i:Int)+(m:Int)*1).toNat]?).toArray=((xs.toList.drop i).take k).toArray:=by
 have e:(fun(m:Nat)=>xs[((i:Int)+(m:Int)*1).toNat]?)=fun m=>xs[i+m]?:=by
  funext m
  have:((i:Int)+(m:Int)*1).toNat=i+m:=by omega
  rw[this]
 rw[e]
 have:=pick_run xs i k
 rw[List.filterMap_map]at this
 have e2:((fun x=>xs[x]?)∘fun x=>i+x)=fun m=>xs[i+m]?:=rfl
 rw[e2]at this
 rw[this]
def lI {t sl:Addr}{items:Array tx}{vl vu:tx}{lo hi:Option Int}{Q:tx->If->Prop}(ht:VL s.heap t items)(hs:s.heap.IsSliceOf sl vl vu .none)(pl:Vx vl lo)(pu:Vx vu hi)
  (hw:¬(sIx items.size 0 lo=0/\sIx items.size items.size hi=items.size))
  (h:Q (.ref s.heap.objs.size) {s with heap:=s.heap.push {cls:=.type "tuple",data:=.seq ((items.toList.drop (sIx items.size 0 lo)).take (sIx items.size items.size hi- sIx items.size 0 lo)).toArray}})
  (hsz:items.size<=sizeLine):wpAny (model prog w) A (getItem (.ref t) (.ref sl)) Q E s:=by
 have htake:sizeOk (.seq ((items.toList.drop (sIx items.size 0 lo)).take (sIx items.size items.size hi- sIx items.size 0 lo)).toArray):=by
  show((items.toList.drop (sIx items.size 0 lo)).take (sIx items.size items.size hi- sIx items.size 0 lo)).toArray.size<=sizeLine
  rw[QJ,SE,Ve,SZ]
  omega
 have hj:sIx items.size items.size hi<=items.size:=FM _ _ (gV _) hi
 obtain⟨os,hos,hcs,hds⟩:=id hs
 have hTs:s.TypeIs (.ref sl) "slice":=⟨os,hos,hcs⟩
 unfold getItem
 try with_reducible refine SH ?_
 first|refine pv (QL ?_)|skip
 refine pv (XN ht.typeIs (by decide) ?_)
 refine pv (SI (name:=Tt "__getitem__") ht.typeIs RI
  (Sw RI ht.typeIs XA ?_ (XG _ _)))
 show wpAny _ _ (UF (.ref t)>>=_) _ _ s
 refine pv (tupleItemsOf_ ht ?_)
 refine pv (UK hTs ?_)
 rw[if_pos (by decide)]
 refine pv (gP hs pl pu ?_)
 have hno:¬((((sIx items.size 0 lo:Nat):Int)==0&&(1:Int)==1&&(sIx items.size items.size hi- sIx items.size 0 lo)==items.size)=true):=by
  intro q
  rw[Rt,Rt]at q
  have q1:((sIx items.size 0 lo:Nat):Int)=0:=Xl q.1.1
  have q2:sIx items.size items.size hi- sIx items.size 0 lo=items.size:=Xl q.2
  exact hw ⟨by omega,by omega⟩
 show wpAny _ _ (if (((sIx items.size 0 lo:Nat):Int)==0&&(1:Int)==1&&(sIx items.size items.size hi- sIx items.size 0 lo)==items.size)=true then _ else _) _ _ s
 rw[if_neg hno,Bi]
 first
  |exact pv (m:=RT _) (RM (QL ⟨_,rfl,QL h⟩) htake)
  |exact pv (m:=RT _) (RM (pv (QL (QL ⟨_,rfl,QL h⟩))) htake)
  |exact pv (pv (m:=RT _) (RM (QL (QL ⟨_,rfl,QL h⟩)) htake))
  |exact pv (pv (m:=RT _) (RM (QL ⟨_,rfl,QL h⟩) htake))
end
end HT
namespace L2
open PySem PySem.Spec PyProof.Rows
abbrev TO:=St->Hp->(Option Int->Hp->Prop)->Prop
def PO (X:Cx)(e:Option Expr)(t:TO):Prop:=
 ∀(pins:List (Addr×Obj))(s:If)(σ:St)(H:Hp)(Q:Option Int->Hp->Prop),Inv X pins σ H s->t σ H Q->
  wpAny (model X.prog X.w) X.A (evalPart e X.env) (fun u s'=>∃o H',Inv X pins σ H' s'/\Vx u o/\Q o H') X.xe s
def iT:TO:=fun _ H Q=>Q none H
def jv (t:TE):TO:=fun σ H Q=>t σ H fun x H1=>∃i,x=.int i/\Q (some i) H1
section
variable {X:Cx}{e:Expr}{te:TE}{lo hi:Option Expr}{tl th:TO}{pos p2:Pos}
def DB:PO X none iT:=by
 intro pins s σ H Q I h
 rw[evalPart_none]
 exact QL ⟨none,H,I,.none,h⟩
def DC (h:PE X e te):PO X (some e) (jv te):=by
 intro pins s σ H Q I hw
 rw[evalPart_some]
 refine thn (h pins s σ H _ I hw) fun u s1 ⟨x,H1,I1,r1,q1⟩=>?_
 obtain⟨i,rfl,q⟩:=q1
 obtain⟨t,rfl⟩:=r1
 exact⟨some i,H1,I1,.int i t,q⟩
def SlR (X:Cx)(r:V->Option Int->Option Int->Hp->VK->Prop):Prop:=
 ∀(pins:List (Addr×Obj))(s:If)(σ:St)(H:Hp)(x:V)(v vl vu:tx)(lo hi:Option Int)(sl:Addr)(Q:VK),Inv X pins σ H s->ba x v->s.heap.IsSliceOf sl vl vu .none->Vx vl lo->Vx vu hi->r x lo hi H Q->
  ∃T id,typeLookup (.type T) "__getitem__"=pure (some (.builtin id))/\s.TypeIs v T/\wpAny (model X.prog X.w) X.A (getItem v (.ref sl)) (EP X pins σ Q) X.xe s
def SlR.or {r r':V->Option Int->Option Int->Hp->VK->Prop}(h:SlR X r)(h':SlR X r'):SlR X (fun x lo hi H Q=>r x lo hi H Q\/r' x lo hi H Q):=by
 intro pins s σ H x v vl vu lo hi sl Q I rx hs pl pu q
 rcases q with q|q
 ·exact h pins s σ H x v vl vu lo hi sl Q I rx hs pl pu q
 ·exact h' pins s σ H x v vl vu lo hi sl Q I rx hs pl pu q
def tSl (r:V->Option Int->Option Int->Hp->VK->Prop)(te:TE)(tl th:TO):TE:=fun σ H Q=>te σ H fun x H1=>tl σ H1 fun l H2=>th σ H2 fun u H3=>r x l u H3 Q
def yF {r:V->Option Int->Option Int->Hp->VK->Prop}(hr:SlR X r)(he:PE X e te)(hl:PO X lo tl)(hu:PO X hi th):PE X (.Subscript e (.Slice lo hi none p2) pos) (tSl r te tl th):=by
 intro pins s σ H Q I h
 refine Subscript_ (thn (he pins s σ H _ I h) fun v s1 ⟨x,H1,I1,r1,q1⟩=>?_)
 refine wpAny_Slice (thn (hl pins s1 σ H1 _ I1 q1) fun vl s2 ⟨l,H2,I2,pl,q2⟩=>thn (hu pins s2 σ H2 _ I2 q2) fun vu s3 ⟨u,H3,I3,pu,q3⟩=>?_)
 rw[evalPart_none]
 refine QL ?_
 have I4:Inv X pins σ H3 {s3 with heap:=s3.heap.push {cls:=.type "slice",data:=.fields #[vl,vu,.none]}}:=I3.kept (t':=s3.toks) fun b ob q=>Lt _ q
 obtain⟨T,id,hT,ht,hg⟩:=hr pins {s3 with heap:=s3.heap.push {cls:=.type "slice",data:=.fields #[vl,vu,.none]}} σ H3 x v vl vu l u s3.heap.objs.size Q I4 r1 (XE ..) pl pu q3
 show wpAny (model X.prog X.w) X.A (subscriptTail e (.Slice lo hi none p2) v (.ref s3.heap.objs.size)) (EP X pins σ Q) X.xe {s3 with heap:=s3.heap.push {cls:=.type "slice",data:=.fields #[vl,vu,.none]}}
 exact tail_any (ops:=[.ref s3.heap.objs.size,v]) ht hT hg (by with_unfolding_all rfl)
def eT (xs:List V)(lo hi:Option Int):List V:=(xs.drop (HT.sIx xs.length 0 lo)).take (HT.sIx xs.length xs.length hi- HT.sIx xs.length 0 lo)
def iz (xs:List V)(lo hi:Option Int):(eT xs lo hi).length<=xs.length:=by
 unfold eT
 rw[SE,Ve]
 omega
def NZ (K:cW):V->Option Int->Option Int->Hp->VK->Prop:=fun x lo hi H Q=>∃a xs,x=.ref a/\SqT K H a xs/\
 ¬(HT.sIx xs.length 0 lo=0/\HT.sIx xs.length xs.length hi=xs.length)/\∀p,H p=none->Q (.ref p) (upd H p (.tup (eT xs lo hi)))
def EN:SlR X (NZ X.K):=by
 intro pins s σ H x v vl vu lo hi sl Q I rx hs pl pu h
 obtain⟨a,xs,rfl,hx,hw,q⟩:=h
 cases rx
 obtain⟨its,r,ht,hz⟩:=I.tuple hx
 have hlen:its.toArray.size=xs.length:=by rw[QJ];exact r.length.symm
 refine⟨"tuple",_,RI.lookup,ht.typeIs,?_⟩
 refine HT.lI ht hs pl pu (by rw[hlen];exact hw) ?_ (by rw[hlen];exact hz)
 rw[hlen]
 refine⟨.ref s.heap.objs.size,_,I.laid (t':=s.toks) (o:=.tup (eT xs lo hi)) (fun b ob q=>Lt _ q) (gV _) ?_,rfl,q _ (I.hok.fresh (gV _))⟩
 exact⟨Rl (iz xs lo hi) hz,_,(r.drop (HT.sIx xs.length 0 lo)).take (HT.sIx xs.length xs.length hi- HT.sIx xs.length 0 lo),Wb _ _⟩
def LS (K:cW):R2:=fun x y H Q=>∃a b xs ys,x=.ref a/\y=.ref b/\SqT K H a xs/\SqT K H b ys/\xs≠[]/\xs.length+ys.length<=sizeLine/\
 (ys=[]->Q (.ref a) H)/\(ys≠[]->∀p,H p=none->Q (.ref p) (upd H p (.tup (xs++ys))))
def bc.nil_iff {xs:List V}{us:List tx}(r:bc xs us):us=[]↔xs=[]:=by
 cases r with
 |nil=>simp
 |cons _ _=>simp
def Ef:OpR X (binaryOp .Add) (LS X.K):=by
 intro pins s σ H x y v u Q I rx ry h
 obtain⟨a,b,xs,ys,rfl,rfl,ha,hb,hx,hz,q1,q2⟩:=h
 cases rx
 cases ry
 obtain⟨its,r1,p1,_⟩:=I.tuple ha
 obtain⟨its2,r2,p2,_⟩:=I.tuple hb
 refine HT.DS p1 p2 (fun z=>hx (r1.nil_iff.mp z)) (fun z=>⟨.ref a,H,I,rfl,q1 (r2.nil_iff.mp z)⟩) (fun z=>?_) (by rw[<-r1.length,<-r2.length];exact hz)
 refine⟨.ref s.heap.objs.size,_,I.laid (t':=s.toks) (o:=.tup (xs++ys)) (fun b ob q=>Lt _ q) (gV _) ?_,rfl,q2 (fun w=>z (r2.nil_iff.mpr w)) _ (I.hok.fresh (gV _))⟩
 exact⟨by rw[QP];exact hz,_,r1.append r2,Wb _ _⟩
end
def ixN (n:Nat)(i:Int):Option Nat:=if 0<=i then(if i<n then some i.toNat else none)else if-(n:Int)<=i then some (i+n).toNat else none
def atI {α:Type}(xs:List α)(i:Int):Option α:=(ixN xs.length i).bind fun j=>xs[j]?
def uq {n:Nat}{i:Int}{j:Nat}(h:ixN n i=some j):seqIndex? i n=some j/\j<n/\ -(n:Int)<=i/\i<n:=by
 unfold ixN at h
 by_cases h0:0<=i
 ·rw[if_pos h0]at h
  by_cases h1:i<n
  ·rw[if_pos h1]at h
   have e:i.toNat=j:=QZ h
   exact⟨by rw[Xv h0 h1,e],by omega,by omega,h1⟩
  ·rw[if_neg h1]at h;cases h
 ·rw[if_neg h0]at h
  by_cases h1: -(n:Int)<=i
  ·rw[if_pos h1]at h
   have e:(i+n).toNat=j:=QZ h
   exact⟨by rw[WY (by omega) h1,e],by omega,h1,by omega⟩
  ·rw[if_neg h1]at h;cases h
def fH {α:Type}{xs:List α}{i:Int}{v:α}(h:atI xs i=some v):∃j,seqIndex? i xs.length=some j/\xs[j]? =some v/\j<xs.length/\ -(xs.length:Int)<=i/\i<xs.length:=by
 unfold atI at h
 cases e:ixN xs.length i with
 |none=>rw[e]at h;cases h
 |some j=>
  rw[e]at h
  obtain⟨h1,h2,h3,h4⟩:=uq e
  exact⟨j,h1,h,h2,h3,h4⟩
def AT {α:Type}(xs:List α)(v:α):atI (xs++[v]) (-1)=some v:=by
 have hl:(xs++[v]).length=xs.length+1:=by simp
 have e:ixN (xs++[v]).length (-1)=some xs.length:=by
  unfold ixN
  rw[hl,if_neg (by decide),if_pos (by omega)]
  congr 1
  omega
 unfold atI
 rw[e]
 show(xs++[v])[xs.length]?=some v
 simp
def uh (b:Expr):Prop:=∀o i,subscripted b false o i=operate [o,i] (getItem o i)
def IxR (X:Cx)(r:R2):Prop:=
 ∀(value slice:Expr)(pins:List (Addr×Obj))(s:If)(σ:St)(H:Hp)(x y:V)(v u:tx)(Q:VK),Inv X pins σ H s->ba x v->ba y u->r x y H Q->
  subscripted slice false v u=operate [v,u] (getItem v u)->wpAny (model X.prog X.w) X.A (subscriptTail value slice v u) (EP X pins σ Q) X.xe s
def MtR (X:Cx)(id:String)(r:V->List V->Hp->VK->Prop):Prop:=
 ∀(pins:List (Addr×Obj))(s:If)(σ:St)(H:Hp)(x:V)(xs:List V)(v:tx)(us:List tx)(Q:VK),Inv X pins σ H s->ba x v->bc xs us->r x xs H Q->
  wpAny (model X.prog X.w) X.A (call (.builtin id) (v::us)) (EP X pins σ Q) X.xe s
section
variable {X:Cx}{a b:Expr}{ta tb:TE}{pos:Pos}
def IxR.or {r r':R2}(h:IxR X r)(h':IxR X r'):IxR X (fun x y H Q=>r x y H Q\/r' x y H Q):=by
 intro value slice pins s σ H x y v u Q I rx ry q hs
 rcases q with q|q
 ·exact h value slice pins s σ H x y v u Q I rx ry q hs
 ·exact h' value slice pins s σ H x y v u Q I rx ry q hs
def Nz {r:R2}(hr:IxR X r)(ha:PE X a ta)(hb:PE X b tb)(hs:uh b):PE X (.Subscript a b pos) (tOp r ta tb):=by
 intro pins s σ H Q I h
 exact Subscript_ (yn ha hb I h fun v u s2 x y H2 I2 rx ry q=>hr a b pins s2 σ H2 x y v u Q I2 rx ry q (hs _ _))
def EC (K:cW):R2:=fun x y H Q=>∃p xs i v,x=.ref p/\y=.int i/\SqL K H p xs/\atI xs i=some v/\Q v H
def FR (K:cW):R2:=fun x y H Q=>∃p xs i v,x=.ref p/\y=.int i/\SqT K H p xs/\atI xs i=some v/\Q v H
def Ge:R2:=fun x y H Q=>∃z i c,x=.str z/\y=.int i/\z.length<=sizeLine/\atI z.cps.toList i=some c/\Q (.str ⟨#[c]⟩) H
def Ec:IxR X (EC X.K):=by
 intro value slice pins s σ H x y v u Q I rx ry h hs
 obtain⟨p,xs,i,z,rfl,rfl,hq,he,q⟩:=h
 cases rx
 obtain⟨t,rfl⟩:=ry
 obtain⟨its,r,pl,hz⟩:=I.list hq
 obtain⟨j,h1,h2,h3,h4,h5⟩:=fH he
 obtain⟨w,ew,rw'⟩:=r.get h2
 have hl:=r.length
 have hn:=iE
 have fin:EP X pins σ Q w s:=⟨z,H,I,rw',q⟩
 by_cases h0:0<=i
 ·have hj:i.toNat=j:=by
   rw[Xv h0 h5]at h1
   exact QZ h1
  exact item_listR pl.isList h0 (by omega) (by rw[hj];simpa using ew) fin hs
 ·have hj:(i+(its.toArray.size:Int)).toNat=j:=by
   rw[WY (by omega) h4]at h1
   rw[QJ,<-hl]
   exact QZ h1
  exact WS (x:=w) pl.isList.typeIs slot_list_getitem.lookup
   (wpAny_getItem_list_neg (Q:=fun r s'=>r=w/\EP X pins σ Q r s') pl.isList (by omega) (by rw[QJ]<;>omega) (by omega) (by rw[hj];simpa using ew) ⟨rfl,fin⟩) hs
def ES:IxR X (FR X.K):=by
 intro value slice pins s σ H x y v u Q I rx ry h hs
 obtain⟨p,xs,i,z,rfl,rfl,hq,he,q⟩:=h
 cases rx
 obtain⟨t,rfl⟩:=ry
 obtain⟨its,r,pl,hz⟩:=I.tuple hq
 obtain⟨j,h1,h2,h3,h4,h5⟩:=fH he
 obtain⟨w,ew,rw'⟩:=r.get h2
 have hl:=r.length
 have hn:=iE
 have fin:EP X pins σ Q w s:=⟨z,H,I,rw',q⟩
 exact WS (x:=w) pl.typeIs slot_tuple_getitem.lookup
  (getItem_tuple (j:=j) (Q:=fun r s'=>r=w/\EP X pins σ Q r s') pl (by omega) (by omega) (by rw[QJ,<-hl];exact h1) (by simpa using ew) ⟨rfl,fin⟩) hs
def GE:IxR X Ge:=by
 intro value slice pins s σ H x y v u Q I rx ry h hs
 obtain⟨z,i,c,rfl,rfl,hz,he,q⟩:=h
 obtain⟨t,rfl⟩:=rx
 obtain⟨t',rfl⟩:=ry
 obtain⟨j,h1,h2,h3,h4,h5⟩:=fH he
 have hl:z.cps.toList.length=z.length:=by simp[Str.length]
 rw[hl]at h1 h4 h5
 have hn:=iE
 exact tail_any (XX s z t) slot_str_getitem.lookup (getItem_str (c:=c) (by
  have e1:decide (i< -(2^63:Int))=false:=decide_eq_false (by omega)
  have e2:decide (i>=2^63)=false:=decide_eq_false (by omega)
  rw[e1,e2,Bool.or_false]) (by rw[h1];simpa using h2) ⟨.str ⟨#[c]⟩,H,I.tok _,⟨_,rfl⟩,q⟩) hs
def rIx (K:cW):R2:=fun x y H Q=>EC K x y H Q\/FR K x y H Q\/Ge x y H Q
def ER:IxR X (rIx X.K):=Ec.or (ES.or GE)
def uO (its:List tx)(n j:Nat)(u:tx):Uc (·.setIfInBounds j u) {cls:=.type "list",data:=.seq its.toArray n}={cls:=.type "list",data:=.seq (its.set j u).toArray n}:=by
 simp[Uc]
def Inv.lst {pins:List (Addr×Obj)}{σ:St}{H:Hp}{s:If}{p:Addr}{xs:List V}(I:Inv X pins σ H s)(h:H p=some (.lst xs)):
  ∃(its:List tx)(n:Nat),bc xs its/\s.heap.get? p=some {cls:=.type "list",data:=.seq its.toArray n}/\xs.length<=sizeLine:=by
 obtain⟨z,its,n,r,e⟩:=I.hok p _ h
 exact⟨its,n,r,e,z⟩
def Inv.lstUpd {pins:List (Addr×Obj)}{σ:St}{H:Hp}{s:If}{p:Addr}{xs ys:List V}{its its':List tx}{n n':Nat}{f:Obj->Obj}(I:Inv X pins σ H s)(h:H p=some (.lst xs))
  (ho:s.heap.get? p=some {cls:=.type "list",data:=.seq its.toArray n})(hf:f {cls:=.type "list",data:=.seq its.toArray n}={cls:=.type "list",data:=.seq its'.toArray n'})(r:bc ys its')(hz:ys.length<=sizeLine)(t:Nat):
  Inv X pins σ (upd H p (.lst ys)) {s with heap:=s.heap.update p f,toks:=t}:=by
 have e:(s.heap.update p f).get? p=some {cls:=.type "list",data:=.seq its'.toArray n'}:=by
  rw[SL f ho (by rw[hf]<;>rfl),hf]
 refine I.write (x:=p) (e:=p) (by rw[h];trivial) (.inl rfl) (fun b u hb q=>(RS _ _ (QU hb)).trans q) ⟨_,e⟩ ?_
 exact⟨hz,its',n',r,e⟩
def CH:V->V->V->Hp->(Hp->Prop)->Prop:=fun o i v H Q=>∃p xs k j,o=.ref p/\i=.int k/\H p=some (.lst xs)/\ixN xs.length k=some j/\Q (upd H p (.lst (xs.set j v)))
def zu:vJ X CH:=by
 intro pins s σ H o i v ov iv u Q I ro ri rv h
 obtain⟨p,xs,k,j,rfl,rfl,hp,hj,q⟩:=h
 cases ro
 obtain⟨t,rfl⟩:=ri
 obtain⟨its,n,r,ho,hz⟩:=I.lst hp
 obtain⟨h1,h2,h3,h4⟩:=uq hj
 have hl:=r.length
 have hn:=iE
 have I':Inv X pins σ (upd H p (.lst (xs.set j v))) {s with heap:=s.heap.update p (Uc (·.setIfInBounds j u))}:=
  I.lstUpd hp ho (uO its n j u) (r.set rv j) (by rw[List.length_set];exact hz) s.toks
 by_cases h0:0<=k
 ·have hk:k.toNat=j:=by
   rw[Xv h0 h4]at h1
   exact QZ h1
  exact W.ki_setAt ho h0 (by omega) (by rw[QJ,<-hl];exact h4) (by rw[hk];exact⟨_,I',q⟩)
 ·have hk:(k+(its.toArray.size:Int)).toNat=j:=by
   rw[WY (by omega) h3]at h1
   rw[QJ,<-hl]
   exact QZ h1
  exact W.ki_setBack ho (by omega) (by rw[QJ,<-hl];exact h3) (by omega) (by rw[hk];exact⟨_,I',q⟩)
def sJ (lo hi:Option Int)(n:Nat):(sliceBounds lo hi none n).1=((HT.sIx n 0 lo:Nat):Int)/\(sliceBounds lo hi none n).2.1=((HT.sIx n n hi:Nat):Int)/\(sliceBounds lo hi none n).2.2=1:=by
 refine⟨?_,?_,rfl⟩
 ·cases lo with
  |none=>simp[sliceBounds,HT.sIx]
  |some i=>
   simp only[sliceBounds,HT.sIx,WO,show(1:Int)>0 by decide,if_true]
   by_cases h:i<0
   ·simp only[h,if_true]<;>omega
   ·simp only[h,if_false]<;>omega
 ·cases hi with
  |none=>simp[sliceBounds,HT.sIx]
  |some i=>
   simp only[sliceBounds,HT.sIx,WO,show(1:Int)>0 by decide,if_true]
   by_cases h:i<0
   ·simp only[h,if_true]<;>omega
   ·simp only[h,if_false]<;>omega
def pJ (its:List tx)(lo hi:Option Int):slicePick its.toArray lo hi none=((its.drop (HT.sIx its.length 0 lo)).take (HT.sIx its.length its.length hi- HT.sIx its.length 0 lo)).toArray:=by
 obtain⟨h1,h2,h3⟩:=sJ lo hi its.toArray.size
 unfold slicePick
 rw[h1,h2,h3]
 simp only[sliceRange_one,pick_run,QJ]<;>rfl
def GM (K:cW):V->Option Int->Option Int->Hp->VK->Prop:=fun x lo hi H Q=>∃a xs,x=.ref a/\SqL K H a xs/\∀p,H p=none->Q (.ref p) (upd H p (.lst (eT xs lo hi)))
def DQ:SlR X (GM X.K):=by
 intro pins s σ H x v vl vu lo hi sl Q I rx hs pl pu h
 obtain⟨a,xs,rfl,hx,q⟩:=h
 cases rx
 obtain⟨its,r,ht,hz⟩:=I.list hx
 have hlen:=r.length
 refine⟨"list",_,slot_list_getitem.lookup,ht.isList.typeIs,?_⟩
 refine wpAny_getItem_list_slice ht.isList hs pl pu .none (by simp) ?_ (by rw[QJ]<;>omega)
 rw[pJ,<-hlen]
 refine⟨.ref s.heap.objs.size,_,I.laid (t':=s.toks) (o:=.lst (eT xs lo hi)) (fun b ob q=>Lt _ q) (gV _) ?_,rfl,q _ (I.hok.fresh (gV _))⟩
 exact⟨Rl (iz xs lo hi) hz,_,0,(r.drop (HT.sIx xs.length 0 lo)).take (HT.sIx xs.length xs.length hi- HT.sIx xs.length 0 lo),QX _ rfl⟩
def bS.or {f:tx}{r r':List V->Hp->VK->Prop}(h:bS X f r)(h':bS X f r'):bS X f (fun xs H Q=>r xs H Q\/r' xs H Q):=by
 intro pins s σ H xs us Q I rs q
 rcases q with q|q
 ·exact h pins s σ H xs us Q I rs q
 ·exact h' pins s σ H xs us Q I rs q
def rG:bS X (.type "list") (fun xs H Q=>∃p ys,xs=[.ref p]/\(SqL X.K H p ys\/SqT X.K H p ys)/\∀l,H l=none->Q (.ref l) (upd H l (.lst ys))):=by
 intro pins s σ H xs us Q I r h
 obtain⟨p,ys,rfl,hq,q⟩:=h
 obtain⟨u,rfl,rx⟩:=fU r
 cases rx
 have fin:∀(its:List tx),bc ys its->ys.length<=sizeLine->∀(h':Heap)(c':Nat),(∀b o',s.heap.get? b=some o'->h'.get? b=some o')->
   h'.get? s.heap.objs.size=some {cls:=.type "list",dict:=none,data:=.seq its.toArray c',slots:=#[]}->EP X pins σ Q (.ref s.heap.objs.size) {s with heap:=h'}:=fun its r' hz h' c' kp e=>
  ⟨.ref s.heap.objs.size,_,I.laid (t':=s.toks) kp (gV _) (show bx X.prog X.w _ h' _ (.lst ys)from⟨hz,its,c',r',e⟩),rfl,q _ (I.hok.fresh (gV _))⟩
 rcases hq with hq|hq
 ·obtain⟨its,r',pl,hz⟩:=I.list hq
  have hlen:=r'.length
  obtain⟨o,ho,hc,n,hd⟩:=pl.isList
  exact call_list_seq p (.inl rfl) ho hc hd (fun h' c' kp e=>fin its r' hz h' c' kp e) (by simp only[QJ]<;>omega)
 ·obtain⟨its,r',pl,hz⟩:=I.tuple hq
  have hlen:=r'.length
  obtain⟨o,ho,hc,n,hd⟩:=pl
  exact call_list_seq p (.inr rfl) ho hc hd (fun h' c' kp e=>fin its r' hz h' c' kp e) (by simp only[QJ]<;>omega)
def pR:bS X (.type "tuple") (fun xs H Q=>∃p ys,xs=[.ref p]/\((SqL X.K H p ys/\∀l,H l=none->Q (.ref l) (upd H l (.tup ys)))\/(SqT X.K H p ys/\Q (.ref p) H))):=by
 intro pins s σ H xs us Q I r h
 obtain⟨p,ys,rfl,h⟩:=h
 obtain⟨u,rfl,rx⟩:=fU r
 cases rx
 rcases h with⟨hq,q⟩|⟨hq,q⟩
 ·obtain⟨its,r',pl,hz⟩:=I.list hq
  have hlen:=r'.length
  refine call_tuple_list pl.isList (fun h' kp=>?_) (by simp only[QJ]<;>omega)
  have I1:Inv X pins σ H {s with heap:=h'}:=I.kept (t':=s.toks) kp
  have I2:Inv X pins σ (upd H h'.objs.size (.tup ys)) {s with heap:=h'.push {cls:=.type "tuple",data:=.seq its.toArray}}:=
   I1.laid (t':=s.toks) (fun b o e=>Lt _ e) (gV _) (show bx X.prog X.w _ _ _ (.tup ys)from⟨hz,its,r',Wb _ _⟩)
  exact⟨.ref h'.objs.size,_,I2,rfl,q _ (I1.hok.fresh (gV _))⟩
 ·obtain⟨its,r',pl,hz⟩:=I.tuple hq
  exact call_tuple_same pl ⟨.ref p,H,I,rfl,q⟩
def tyV (K:cW)(T:String)(x:V)(H:Hp):Prop:=match x with
 |.str _=>T="str"
 |.int _=>T="int"
 |.ref p=>(T="list"/\∃xs,SqL K H p xs)\/(T="tuple"/\∃o,K.lookup p=some o/\o.cls=.type "tuple"/\o.dict=none)\/
  (T="dict"/\((∃kvs,H p=some (.dK kvs))\/∃kvs,H p=some (.dT kvs)))\/(T="set"/\∃S n,H p=some (.set S n))
 |_=>False
def xE {pins:List (Addr×Obj)}{σ:St}{H:Hp}{s:If}{T:String}{x:V}{v:tx}(I:Inv X pins σ H s)(r:ba x v)(ty:tyV X.K T x H):
  s.TypeIs v T/\∀a,v=.ref a->∃ob,s.heap.get? a=some ob/\ob.dict=none:=by
 cases x with
 |str z=>
  obtain⟨t,rfl⟩:=r
  cases (show T="str" from ty)
  exact⟨XX s z t,fun _ e=>nomatch e⟩
 |int i=>
  obtain⟨t,rfl⟩:=r
  cases (show T="int" from ty)
  exact⟨typeIs_int s i t,fun _ e=>nomatch e⟩
 |ref p=>
  cases r
  rcases ty with⟨rfl,xs,hq⟩|⟨rfl,o,hk,hc,hd⟩|⟨rfl,hk⟩|⟨rfl,S,n,hk⟩
  ·obtain⟨its,_,pl,_⟩:=I.list hq
   refine⟨pl.isList.typeIs,fun a e=>?_⟩
   cases e
   obtain⟨o,n,e,c,hd,_⟩:=pl
   exact⟨o,e,hd⟩
  ·refine⟨⟨o,I.kIn p o hk,hc⟩,fun a e=>?_⟩
   cases e
   exact⟨o,I.kIn _ o hk,hd⟩
  ·have z:∃o,s.heap.get? p=some o/\o.ExactDict:=by
    rcases hk with⟨kvs,hk⟩|⟨kvs,hk⟩
    ·obtain⟨_,_,_,_,o,_,_,e,ex,_⟩:=I.hok p _ hk
     exact⟨o,e,ex⟩
    ·obtain⟨_,_,_,_,o,_,_,e,ex,_⟩:=I.hok p _ hk
     exact⟨o,e,ex⟩
   obtain⟨o,e,ex⟩:=z
   refine⟨⟨o,e,ex.1⟩,fun a e2=>?_⟩
   cases e2
   exact⟨o,e,ex.2.1⟩
  ·obtain⟨o,_,_,_,e,ex,_⟩:=I.hok p _ hk
   refine⟨⟨o,e,ex.1⟩,fun a e2=>?_⟩
   cases e2
   exact⟨o,e,ex.2.1⟩
 |_=>exact Rw ty
def sO (K:cW)(T:String)(r:V->List V->Hp->VK->Prop)(to:TE):TE:=fun σ H Q=>to σ H fun x H1=>tyV K T x H1/\r x [] H1 Q
def tBM (K:cW)(T:String)(r:V->List V->Hp->VK->Prop)(to:TE)(t:TA):TE:=fun σ H Q=>to σ H fun x H1=>tyV K T x H1/\t σ H1 fun xs H2=>r x xs H2 Q
variable {o e:Expr}{es:List Expr}{to:TE}{t:TA}{name:Str}{apos cpos:Pos}{T id:String}{r:V->List V->Hp->VK->Prop}
def Ip (pa:Vt T)(slot:Slot T name id)(hty:typeOf (.builtin id)=pure (.type "method_descriptor"))(hm:MtR X id r)(ho:PE X o to)
  (hbase:attributeBase o name X.env (eval o X.env)=eval o X.env:=by rfl)(hline:(apos.endLine==cpos.line)=true:=by rfl):PE X (.Call (.Attribute o name apos) [] [] cpos) (sO X.K T r to):=by
 intro pins s σ H Q I h
 refine wpAny_Call_method0_late hbase hline (thn (ho pins s σ H _ I h) fun v s1 ⟨x,H1,I1,r1,ty,q1⟩=>?_)
 obtain⟨h1,h2⟩:=xE I1 r1 ty
 exact⟨T,id,pa,slot,hty,h1,h2,VO rfl (PySem.evalArgs_none (hm pins s1 σ H1 x [] v [] Q I1 r1 .nil q1))⟩
def Ky (pa:Vt T)(slot:Slot T name id)(hty:typeOf (.builtin id)=pure (.type "method_descriptor"))(hm:MtR X id r)(ho:PE X o to)(ha:PA X (e::es) t)
  (hbase:attributeBase o name X.env (eval o X.env)=eval o X.env:=by rfl)
  (hfew:((backTo cpos (starEach (e::es) X.env)).all (fun x=> !x.1)&&(backToKw cpos (keywordEach [] X.env)).all (fun x=>x.1.isSome)
   &&decide ((e::es).length+([]:List Keyword).length+(if ([]:List Keyword).isEmpty then 0 else 1)<30))=true:=by rfl)
  (hline:(apos.endLine==cpos.line)=true:=by rfl)(hs:starEach (e::es) X.env=(false,eval e X.env)::starEach es X.env:=by rfl)(hplain:(backTo cpos (starEach es X.env)).any (·.1)=false:=by rfl):
  PE X (.Call (.Attribute o name apos) (e::es) [] cpos) (tBM X.K T r to t):=by
 intro pins s σ H Q I h
 refine wpAny_Call_method_late hbase hfew hline rfl (thn (ho pins s σ H _ I h) fun v s1 ⟨x,H1,I1,r1,ty,q1⟩=>?_)
 obtain⟨h1,h2⟩:=xE I1 r1 ty
 refine⟨T,id,pa,slot,hty,h1,h2,?_⟩
 have hA:=ha cpos pins s1 σ H1 _ I1 q1
 rw[hs]at hA⊢
 refine VO (by show(false||(backTo cpos (starEach es X.env)).any (·.1))=false;rw[hplain]<;>rfl) (Calls.evalArgs_plain ?_)
 exact thn hA fun us s2 ⟨vs,H2,I2,r2,q2⟩=>hm pins s2 σ H2 x vs v us Q I2 r1 r2 q2
end
def MtM (X:Cx)(id:String)(r:V->List V->Hp->VK->Prop):Prop:=
 ∀(pins:List (Addr×Obj))(s:If)(σ:St)(H:Hp)(x:V)(xs:List V)(v:tx)(us:List tx)(Q:VK),Inv X pins σ H s->ba x v->bc xs us->r x xs H Q->
  wpAny (model X.prog X.w) X.A (call (.builtin id) (v::us)) (EP X pins σ Q) X.xe s
theorem bc.one:∀{x:V}{us:List tx},bc [x] us->∃u,us=[u]/\ba x u
 |_,_,.cons r .nil=>⟨_,rfl,r⟩
theorem bc.zero:∀{us:List tx},bc [] us->us=[]
 |_,.nil=>rfl
def bc.dropLast {xs:List V}{us:List tx}(h:bc xs us):bc xs.dropLast us.dropLast:=by
 induction h with
 |nil=>exact .nil
 |cons r t ih=>
  cases t with
  |nil=>exact .nil
  |cons q t'=>exact .cons r ih
def bc.reverse {xs:List V}{us:List tx}(h:bc xs us):bc xs.reverse us.reverse:=by
 induction h with
 |nil=>exact .nil
 |cons r t ih=>rw[Tn,Tn];exact bc.append ih (.cons r .nil)
def vX {α:Type}(l:List α):l.eraseIdx (l.length- 1)=l.dropLast:=by
 induction l with
 |nil=>rfl
 |cons a r ih=>
  cases r with
  |nil=>rfl
  |cons b r=>
   have e:(a::b::r).length- 1=((b::r).length- 1)+1:=by
    have h1:(a::b::r).length=r.length+2:=rfl
    have h2:(b::r).length=r.length+1:=rfl
    omega
   rw[e,List.eraseIdx_cons_succ,ih]
   all_goals rfl
section
variable {X:Cx}{pins:List (Addr×Obj)}{σ:St}{H:Hp}{s:If}{l b:Addr}{xs ys zs:List V}
def Inv.lset {its its':List tx}{n:Nat}{f:Array tx->Array tx}{t':Nat}(I:Inv X pins σ H s)(hH:H l=some (.lst xs))
  (e:s.heap.get? l=some {cls:=.type "list",data:=.seq its.toArray n})(hf:f its.toArray=its'.toArray)(hv:bc ys its')(hz:ys.length<=sizeLine):
  Inv X pins σ (upd H l (.lst ys)) {s with heap:=s.heap.update l (Uc f),toks:=t'}:=by
 have q:=PySem.IsL.update e f
 rw[hf]at q
 refine I.write (x:=l) (e:=l) (by rw[hH];exact trivial) (.inl rfl) (fun b' u hb hu=>(RS s.heap (Uc f) (QU hb)).trans hu) ⟨_,q⟩ ?_
 exact⟨hz,its',_,hv,q⟩
def Inv.lnew {its:List tx}{t':Nat}(I:Inv X pins σ H s)(hv:bc ys its)(hz:ys.length<=sizeLine):
  Inv X pins σ (upd H s.heap.objs.size (.lst ys)) {s with heap:=s.heap.push {cls:=.type "list",data:=.seq its.toArray},toks:=t'}:=
 I.laid (fun _ _ q=>Lt _ q) (gV _) ⟨hz,its,0,hv,QX _ rfl⟩
def Inv.fresh (I:Inv X pins σ H s):H s.heap.objs.size=none:=I.hok.fresh (gV _)
def Inv.lstM (I:Inv X pins σ H s)(hH:H l=some (.lst xs)):xs.length<=sizeLine/\∃(its:List tx)(n:Nat),bc xs its/\xs.length=its.length/\s.heap.get? l=some {cls:=.type "list",data:=.seq its.toArray n}:=by
 obtain⟨z,its,n,r,e⟩:=I.hok l _ hH
 exact⟨z,its,n,r,r.length,e⟩
end
section
variable {X:Cx}
def cQ:V->List V->Hp->VK->Prop:=fun x vs H Q=>∃l xs y,x=.ref l/\vs=[y]/\H l=some (.lst xs)/\xs.length<sizeLine/\Q .non (upd H l (.lst (xs++[y])))
def cF:MtM X "list.append" cQ:=by
 intro pins s σ H x vs v us Q I rx rv h
 obtain⟨l,xs,y,rfl,rfl,hH,hz,q⟩:=h
 cases rx
 obtain⟨u,rfl,ru⟩:=rv.one
 obtain⟨z,its,n,r,hl,e⟩:=I.lstM hH
 refine WC Rj ⟨_,e,rfl⟩ F.entry_list_append (F.args_list_append_2 _ _) (PySem.list_append l its.toArray n u (by rw[QJ];omega)) ⟨e,?_⟩
 refine⟨.non,_,I.lset (its':=its++[u]) hH e (by simp) (r.append (.cons ru .nil)) ?_,rfl,q⟩
 rw[QP,List.length_singleton]
 omega
def Ez:V->List V->Hp->VK->Prop:=fun x vs H Q=>∃l xs y,x=.ref l/\vs=[]/\H l=some (.lst xs)/\xs[xs.length- 1]?=some y/\Q y (upd H l (.lst xs.dropLast))
def Gh:MtM X "list.pop" Ez:=by
 intro pins s σ H x vs v us Q I rx rv h
 obtain⟨l,xs,y,rfl,rfl,hH,hy,q⟩:=h
 cases rx
 have hus:=rv.zero
 subst hus
 obtain⟨z,its,n,r,hl,e⟩:=I.lstM hH
 obtain⟨u,hu,ru⟩:=r.get hy
 have hy':its.toArray[its.toArray.size- 1]?=some u:=by
  show its.toArray[its.length- 1]?=some u
  rw[<-Uo,<-hl]
  exact hu
 refine WC WK ⟨_,e,rfl⟩ F.entry_list_pop (F.args_list_pop_1 _) (MeetsSeq.list_pop_last l its.toArray n u hy' (by rw[QJ];omega)) ⟨e,?_⟩
 refine⟨y,_,I.lset (its':=its.dropLast) hH e ?_ r.dropLast ?_,ru,q⟩
 ·show its.toArray.eraseIdxIfInBounds (its.toArray.size- 1)=its.dropLast.toArray
  rw[QJ,List.eraseIdxIfInBounds_toArray,vX]
 ·rw[List.length_dropLast]
  omega
def Hg:R2:=fun x y H Q=>∃l b xs zs,x=.ref l/\y=.ref b/\H l=some (.lst xs)/\H b=some (.lst zs)/\xs.length+zs.length<=sizeLine/\∀p,H p=none->Q (.ref p) (upd H p (.lst (xs++zs)))
def HS:OpR X (binaryOp .Add) Hg:=by
 intro pins s σ H x y v u Q I rx ry h
 obtain⟨l,b,xs,zs,rfl,rfl,hH,hB,hz,q⟩:=h
 cases rx
 cases ry
 obtain⟨z,its,n,r,hl,e⟩:=I.lstM hH
 obtain⟨z2,its2,n2,r2,hl2,e2⟩:=I.lstM hB
 refine PySem.P.add_list e e2 ?_ (by rw[QJ,QJ];omega)
 have ea:its.toArray++its2.toArray=(its++its2).toArray:=by simp
 rw[ea]
 exact⟨.ref _,_,I.lnew (t':=s.toks) (r.append r2) (by rw[QP];omega),rfl,q _ I.fresh⟩
end
section
variable {prog:Rh}{w:RF}{A:RC}{E:tx->If->Prop}{s:If}
set_option maxRecDepth 100000 in
end
section
variable {κ:Type}[DecidableEq κ]
def cg (kvs:List (κ×V))(k:κ):Option V:=(kvs.find? fun kv=>decide (kv.1=k)).map (·.2)
def cy (kvs:List (κ×V))(k:κ)(v:V):List (κ×V):=
 if (kvs.any fun kv=>decide (kv.1=k))=true then kvs.map (fun kv=>if kv.1=k then(kv.1,v)else kv)else kvs++[(k,v)]
def jM (kvs:List (κ×V))(k:κ):List (κ×V):=kvs.filter fun kv=>decide (kv.1≠k)
def dM {p:κ×V}{r:List (κ×V)}{k:κ}(e:p.1=k):cg (p::r) k=some p.2:=by simp[cg,SM,e]
def dN {p:κ×V}{r:List (κ×V)}{k:κ}(e:¬p.1=k):cg (p::r) k=cg r k:=by simp[cg,SM,e]
theorem hU (k:κ):∀kvs:List (κ×V),(kvs.any fun kv=>decide (kv.1=k))=(cg kvs k).isSome
 |[]=>rfl
 |p::r=>by
  rw[UQ]
  by_cases e:p.1=k
  ·simp only[dM e,decide_eq_true e,Yt,Option.isSome_some]
  ·rw[dN e,decide_eq_false e,VV];exact hU k r
theorem sI (k j:κ)(y:V):∀kvs:List (κ×V),cg (kvs.map fun kv=>if kv.1=k then(kv.1,y)else kv) j=(cg kvs j).map fun x=>if j=k then y else x
 |[]=>rfl
 |p::r=>by
  have ih:=sI k j y r
  rw[RD]
  by_cases h:p.1=k
  ·rw[if_pos h]
   by_cases e:p.1=j
   ·rw[dM (p:=(p.1,y)) e,dM e,Tx,if_pos (e.symm.trans h)]
   ·rw[dN (p:=(p.1,y)) e,dN e,ih]
  ·rw[if_neg h]
   by_cases e:p.1=j
   ·rw[dM (p:=p) e,dM e,Tx,if_neg (fun z=>h (e.trans z))]
   ·rw[dN (p:=p) e,dN e,ih]
theorem pe (k j:κ)(y:V):∀kvs:List (κ×V),cg kvs k=none->cg (kvs++[(k,y)]) j=if j=k then some y else cg kvs j
 |[],_=>by
  by_cases e:k=j
  ·rw[if_pos e.symm];exact dM (p:=(k,y)) e
  ·rw[if_neg (fun z=>e z.symm)];exact dN (p:=(k,y)) e
 |p::r,hn=>by
  rw[List.cons_append]
  have hk:¬p.1=k:=fun z=>by rw[dM z]at hn;cases hn
  rw[dN hk]at hn
  have ih:=pe k j y r hn
  by_cases e:p.1=j
  ·rw[dM e,dM e,if_neg (fun z=>hk (e.trans z))]
  ·rw[dN e,dN e,ih]
def ma (kvs:List (κ×V))(k j:κ)(y:V):cg (cy kvs k y) j=if j=k then some y else cg kvs j:=by
 unfold cy
 by_cases a:(kvs.any fun kv=>decide (kv.1=k))=true
 ·rw[if_pos a,sI]
  rw[hU]at a
  by_cases e:j=k
  ·obtain⟨x,hx⟩:=RH.mp a
   rw[if_pos e,e,hx,Tx,if_pos rfl]
  ·rw[if_neg e]
   cases cg kvs j with
   |none=>rfl
   |some x=>rw[Tx,if_neg e]
 ·rw[if_neg a]
  refine pe k j y kvs ?_
  rw[hU]at a
  cases q:cg kvs k with
  |none=>rfl
  |some x=>rw[q]at a;exact(a rfl).elim
def iA (kvs:List (κ×V))(k:κ)(v:V):(cy kvs k v).length<=kvs.length+1:=by
 unfold cy
 split
 ·rw[QC];omega
 ·rw[QP,RE,List.length_nil];omega
def AA {kvs:List (κ×V)}{k:κ}(v:V)(h:cg kvs k=none):cy kvs k v=kvs++[(k,v)]:=by
 unfold cy
 rw[hU,h]
 exact if_neg (by decide)
def fb.isSome_eq {o:Option V}{u:Option tx}(r:fb o u):o.isSome=u.isSome:=by
 cases o with
 |none=>cases u with
  |none=>rfl
  |some _=>exact(show False from r).elim
 |some _=>cases u with
  |none=>exact(show False from r).elim
  |some _=>rfl
def KV.val {kvs:List (κ×V)}{vs:List (κ×tx)}(r:KV kvs vs)(k:κ):fb (cg kvs k) (valueAt vs k):=by
 unfold KV at r
 induction r with
 |nil=>exact SF
 | @cons p q ps qs h t ih=>
   obtain⟨h1,h2⟩:=h
   by_cases e:p.1=k
   ·have e':q.1=k:=h1.symm.trans e
    have b:valueAt (q::qs) k=some q.2:=by simp[valueAt,SM,e']
    rw[dM e,b];exact h2
   ·have e':¬q.1=k:=fun z=>e (h1.trans z)
    have b:valueAt (q::qs) k=valueAt qs k:=by simp[valueAt,SM,e']
    rw[dN e,b];exact ih
def KV.any {kvs:List (κ×V)}{vs:List (κ×tx)}(r:KV kvs vs)(k:κ):(kvs.any fun kv=>decide (kv.1=k))=vs.any fun kv=>decide (kv.1=k):=by
 unfold KV at r
 induction r with
 |nil=>rfl
 |cons h t ih=>rw[UQ,UQ,ih,h.1]
def KV.repl {kvs:List (κ×V)}{vs:List (κ×tx)}(r:KV kvs vs)(k:κ){y:V}{u:tx}(ry:ba y u):
  KV (kvs.map fun kv=>if kv.1=k then(kv.1,y)else kv) (vs.map fun kv=>if kv.1=k then(kv.1,u)else kv):=by
 unfold KV at r⊢
 induction r with
 |nil=>exact .nil
 | @cons p q ps qs h t ih=>
   rw[RD,RD]
   refine .cons ?_ ih
   obtain⟨h1,h2⟩:=h
   by_cases e:p.1=k
   ·rw[if_pos e,if_pos (h1.symm.trans e)];exact⟨h1,ry⟩
   ·rw[if_neg e,if_neg (fun z=>e (h1.trans z))];exact⟨h1,h2⟩
def KV.put {kvs:List (κ×V)}{vs:List (κ×tx)}(r:KV kvs vs)(k:κ){y:V}{u:tx}(ry:ba y u):KV (cy kvs k y) (stored vs k u):=by
 unfold cy stored
 rw[r.any k]
 by_cases e:(vs.any fun kv=>decide (kv.1=k))=true
 ·rw[if_pos e,if_pos e];exact r.repl k ry
 ·rw[if_neg e,if_neg e];exact Paired.snoc r ⟨rfl,ry⟩
def KV.drop {kvs:List (κ×V)}{vs:List (κ×tx)}(r:KV kvs vs)(k:κ):KV (jM kvs k) (without vs k):=by
 unfold KV at r⊢
 unfold jM without
 induction r with
 |nil=>exact .nil
 | @cons p q ps qs h t ih=>
   obtain⟨h1,h2⟩:=h
   rw[Vg,Vg]
   by_cases e:p.1=k
   ·have a:¬decide (p.1≠k)=true:=by simp[e]
    have b:¬decide (q.1≠k)=true:=by simp[h1.symm.trans e]
    rw[if_neg a,if_neg b];exact ih
   ·have e':¬q.1=k:=fun z=>e (h1.trans z)
    have a:decide (p.1≠k)=true:=by simp[e]
    have b:decide (q.1≠k)=true:=by simp[e']
    rw[if_pos a,if_pos b];exact .cons ⟨h1,h2⟩ ih
def KV.length {kvs:List (κ×V)}{vs:List (κ×tx)}(r:KV kvs vs):kvs.length=vs.length:=Paired.length r
def AV (kvs:List (κ×V))(k:κ):(jM kvs k).length<=kvs.length:=Wl _ _
end
def kN {P:Rh}{w:RF}{k:Key}{u:tx}(r:ba (kV k) u):(cD P w).is k u=true:=by
 cases k with
 |inl i=>obtain⟨t,e⟩:=(show ∃t,u=TB i t from r);subst e;exact tJ P w i t
 |inr x=>obtain⟨t,e⟩:=(show ∃t,u=Tz x t from r);subst e;exact tF P w x t
def mQ {a b:Key}(e:kV a=kV b):a=b:=by
 cases a with
 |inl i=>cases b with
  |inl j=>have e':V.int i=V.int j:=e;injection e' with e';rw[e']
  |inr y=>exact nomatch (show V.int i=V.str y from e)
 |inr x=>cases b with
  |inl j=>exact nomatch (show V.str x=V.int j from e)
  |inr y=>have e':V.str x=V.str y:=e;injection e' with e';rw[e']
theorem pA {P:Rh}{w:RF}:∀{ks:List Key}{us:List tx},bc (ks.map kV) us->ItemsAre (cD P w) ks us
 |[],_,r=>by rw[Wj]at r;cases r;exact .nil
 |k::ks,_,r=>by
  rw[RD]at r
  cases r with
  |cons h t=>exact .cons (kN h) (pA t)
abbrev KT (H:Hp):List (List Key×V)->List (List Key×Addr×tx)->Prop:=Paired fun p q=>p.1=q.1/\H q.2.1=some (.tup (p.1.map kV))/\ba p.2 q.2.2
def KT.val {H:Hp}{kvs:List (List Key×V)}{xs:List (List Key×Addr×tx)}(r:KT H kvs xs)(k:List Key):fb (cg kvs k) ((atKey xs k).map (·.2)):=by
 induction r with
 |nil=>exact SF
 | @cons p q ps qs h t ih=>
   obtain⟨h1,_,h2⟩:=h
   by_cases e:p.1=k
   ·have e':q.1=k:=h1.symm.trans e
    have b:atKey (q::qs) k=some q.2:=by simp[atKey,SM,e']
    rw[dM e,b];exact h2
   ·have e':¬q.1=k:=fun z=>e (h1.trans z)
    have b:atKey (q::qs) k=atKey qs k:=by simp[atKey,SM,e']
    rw[dN e,b];exact ih
def KT.repl {H:Hp}{kvs:List (List Key×V)}{xs:List (List Key×Addr×tx)}(r:KT H kvs xs)(k:List Key){y:V}{u:tx}(ry:ba y u):
  KT H (kvs.map fun kv=>if kv.1=k then(kv.1,y)else kv) (xs.map (putAt k u)):=by
 induction r with
 |nil=>exact .nil
 | @cons p q ps qs h t ih=>
   rw[RD,RD]
   refine .cons ?_ ih
   obtain⟨h1,h2,h3⟩:=h
   unfold putAt
   by_cases e:p.1=k
   ·rw[if_pos e,if_pos (h1.symm.trans e)];exact⟨h1,h2,ry⟩
   ·rw[if_neg e,if_neg (fun z=>e (h1.trans z))];exact⟨h1,h2,h3⟩
def KT.put {H:Hp}{kvs:List (List Key×V)}{xs:List (List Key×Addr×tx)}(r:KT H kvs xs)(k:List Key){b:Addr}{y:V}{u:tx}(hb:H b=some (.tup (k.map kV)))(ry:ba y u):
  KT H (cy kvs k y) (storedH xs k b u):=by
 have e:(kvs.any fun kv=>decide (kv.1=k))=(atKey xs k).isSome:=by
  rw[hU,(r.val k).isSome_eq,UP]
 unfold cy storedH
 rw[e]
 by_cases q:(atKey xs k).isSome=true
 ·rw[if_pos q,if_pos q];exact r.repl k ry
 ·rw[if_neg q,if_neg q];exact Paired.snoc r ⟨rfl,hb,ry⟩
def KT.keeps {H H':Hp}{kvs:List (List Key×V)}{xs:List (List Key×Addr×tx)}(r:KT H kvs xs)(ht:∀b ys,H b=some (.tup ys)->H' b=some (.tup ys)):KT H' kvs xs:=
 Paired.mapP r fun _ _ z=>⟨z.1,ht _ _ z.2.1,z.2.2⟩
section
variable {P:Rh}{w:RF}{H:Hp}{h:Heap}{a:Addr}
def BJ {u:HO}(ok:HOk P w H h)(e:Rd H a u):bx P w H h a u:=e.ok ok
def jm {kvs:List (Key×V)}(ok:HOk P w H h)(e:Rd H a (.dK kvs)):kvs.length<=sizeLine/\(a==sysModules)=false/\∃vs,KV kvs vs/\h.DictOf (cD P w) a vs:=
 show bx P w H h a (.dK kvs)from BJ ok e
def vT {kvs:List (Key×V)}(ok:HOk P w H h)(e:H a=some (.dK kvs)):kvs.length<=sizeLine/\(a==sysModules)=false/\∃vs,KV kvs vs/\h.DictOf (cD P w) a vs:=jm ok (.inl e)
def kc {ks:List Key}(ok:HOk P w H h)(e:H a=some (.tup (ks.map kV))):(tupleKind (cD P w)).is h ks a:=by
 obtain⟨_,its,r,o,h1,h2,n,h3⟩:=(show bx P w H h a (.tup (ks.map kV))from ok a _ e)
 exact⟨o,its.toArray,n,h1,h2,h3,by simpa using pA r⟩
def nq {kvs:List (List Key×V)}(ok:HOk P w H h)(e:Rd H a (.dT kvs)):kvs.length<=sizeLine/\(a==sysModules)=false/\
  ∃xs,KT H kvs xs/\h.DictOfH (tupleKind (cD P w)) a xs:=by
 obtain⟨z,y,xs,r,o,es,ep,h1,h2,h3,h4,h5⟩:=(show bx P w H h a (.dT kvs)from BJ ok e)
 refine⟨z,y,xs,r,o,es,ep,h1,h2,h3,h4,fun x hx=>?_,h5⟩
 have all:∀{l:List (List Key×V)}{m:List (List Key×Addr×tx)},KT H l m->∀x∈m,(tupleKind (cD P w)).is h x.1 x.2.1:=by
  intro l m q
  induction q with
  |nil=>intro x hx;exact nomatch hx
  | @cons p q ps qs hq t ih=>
    intro x hx
    rcases QG.mp hx with e|hx
    ·subst e
     exact kc ok (by rw[<-hq.1];exact hq.2.1)
    ·exact ih x hx
 exact all r x hx
def Ci {kvs:List (List Key×V)}(ok:HOk P w H h)(e:H a=some (.dT kvs)):kvs.length<=sizeLine/\(a==sysModules)=false/\
 ∃xs,KT H kvs xs/\h.DictOfH (tupleKind (cD P w)) a xs:=nq ok (.inl e)
end
def eE (H:Hp)(a:Addr)(y:V)(r:Option V):Prop:=
 (∃kvs k,Rd H a (.dK kvs)/\y=kV k/\r=cg kvs k)\/∃kvs k b,Rd H a (.dT kvs)/\y=.ref b/\H b=some (.tup (k.map kV))/\r=cg kvs k
def kh (H:Hp)(a:Addr)(y v:V)(H':Hp):Prop:=
 (∃kvs k,H a=some (.dK kvs)/\y=kV k/\kvs.length<sizeLine/\H'=upd H a (.dK (cy kvs k v)))\/
 ∃kvs k b,H a=some (.dT kvs)/\y=.ref b/\H b=some (.tup (k.map kV))/\kvs.length<sizeLine/\H'=upd H a (.dT (cy kvs k v))
def eE.k {H:Hp}{a:Addr}{kvs:List (Key×V)}{k:Key}(e:H a=some (.dK kvs)):eE H a (kV k) (cg kvs k):=.inl ⟨kvs,k,.inl e,rfl,rfl⟩
def eE.t {H:Hp}{a b:Addr}{kvs:List (List Key×V)}{k:List Key}(e:H a=some (.dT kvs))(eb:H b=some (.tup (k.map kV))):eE H a (.ref b) (cg kvs k):=.inr ⟨kvs,k,b,.inl e,rfl,eb,rfl⟩
def kh.k {H:Hp}{a:Addr}{kvs:List (Key×V)}{k:Key}{v:V}(e:H a=some (.dK kvs))(hl:kvs.length<sizeLine):kh H a (kV k) v (upd H a (.dK (cy kvs k v))):=.inl ⟨kvs,k,e,rfl,hl,rfl⟩
def kh.t {H:Hp}{a b:Addr}{kvs:List (List Key×V)}{k:List Key}{v:V}(e:H a=some (.dT kvs))(eb:H b=some (.tup (k.map kV)))(hl:kvs.length<sizeLine):
 kh H a (.ref b) v (upd H a (.dT (cy kvs k v))):=.inr ⟨kvs,k,b,e,rfl,eb,hl,rfl⟩
section
variable {X:Cx}{pins:List (Addr×Obj)}{σ:St}{H:Hp}{s:If}{a:Addr}{y v:V}{u r:tx}{o:Option V}{A:RC}{E:tx->If->Prop}
def Inv.big (I:Inv X pins σ H s):sysModules<s.heap.objs.size:=by
 have h:mainGlobals<s.heap.objs.size:=(I.mod.glob.keeps I.bk).lt
 exact Nat.lt_trans (by decide) h
def wG {Q:tx->If->Prop}(hu:A.units+1<cLine)(I:Inv X pins σ H s)(g:eE H a y (some v))(ry:ba y u)(h:∀w' s',Inv X pins σ H s'->ba v w'->Q w' s'):
  wpAny (model X.prog X.w) A (getItem (.ref a) u) Q E s:=by
 rcases g with⟨kvs,k,e,ey,l⟩|⟨kvs,k,b,e,ey,eb,l⟩
 ·subst ey
  obtain⟨z,hd,vs,rel,dd⟩:=jm I.hok e
  obtain⟨w',hw,rw'⟩:=fb.some_of (v:=v) (o:=valueAt vs k) (by rw[l];exact rel.val k)
  exact wpAny_getItem_of (kN ry) dd.mapOf hw (h w' _ (I.tok _) rw')
 ·subst ey
  cases (show u=Re b from ry)
  obtain⟨z,hd,xs,rel,dd⟩:=nq I.hok e
  obtain⟨w',hw,rw'⟩:=fb.some_of (v:=v) (o:=(atKey xs k).map (·.2)) (by rw[l];exact rel.val k)
  obtain⟨p,hp,hp2⟩:=Option.map_eq_some_iff.mp hw
  refine wpAny_getItem_heap (Ue hu) (kc I.hok eb) dd hp ?_
  rw[hp2]
  exact h w' _ (I.tok _) rw'
def NY {Q:tx->If->Prop}(hu:A.units+1<cLine)(I:Inv X pins σ H s)(g:eE H a y o)(ry:ba y u)(h:∀s',Inv X pins σ H s'->Q (.bool o.isSome) s'):
  wpAny (model X.prog X.w) A (compareOp .In u (.ref a)) Q E s:=by
 rcases g with⟨kvs,k,e,ey,l⟩|⟨kvs,k,b,e,ey,eb,l⟩
 ·subst ey
  obtain⟨z,hd,vs,rel,dd⟩:=jm I.hok e
  refine wpAny_in_of (kN ry) hd dd.mapOf ?_
  rw[<-(rel.val k).isSome_eq,<-l]
  exact h _ (I.tok _)
 ·subst ey
  cases (show u=Re b from ry)
  obtain⟨z,hd,xs,rel,dd⟩:=nq I.hok e
  refine wpAny_in_heap (Ue hu) (kc I.hok eb) hd dd ?_
  have q:=(rel.val k).isSome_eq
  rw[UP]at q
  rw[<-q,<-l]
  exact h _ (I.tok _)
def Dt {Q:tx->If->Prop}(hu:A.units+1<cLine)(I:Inv X pins σ H s)(g:eE H a y o)(ry:ba y u)(h:∀s',Inv X pins σ H s'->Q (.bool (!o.isSome)) s'):
  wpAny (model X.prog X.w) A (compareOp .NotIn u (.ref a)) Q E s:=by
 rcases g with⟨kvs,k,e,ey,l⟩|⟨kvs,k,b,e,ey,eb,l⟩
 ·subst ey
  obtain⟨z,hd,vs,rel,dd⟩:=jm I.hok e
  refine wpAny_notIn_of (kN ry) hd dd.mapOf ?_
  rw[<-(rel.val k).isSome_eq,<-l]
  exact h _ (I.tok _)
 ·subst ey
  cases (show u=Re b from ry)
  obtain⟨z,hd,xs,rel,dd⟩:=nq I.hok e
  refine wpAny_notIn_heap (Ue hu) (kc I.hok eb) hd dd ?_
  have q:=(rel.val k).isSome_eq
  rw[UP]at q
  rw[<-q,<-l]
  exact h _ (I.tok _)
def ox {h':Heap}{t':Nat}{ob:HO}(I:Inv X pins σ H s)(mu:Mut (H a))(hs:Tr a s.heap h')(he:∃q,h'.get? a=some q)(new:bx X.prog X.w (upd H a ob) h' a ob):
  Inv X pins σ (upd H a ob) {s with heap:=h',toks:=t'}:=
 I.write (x:=a) (e:=a) mu (.inl rfl) (fun b q hb z=>(hs.2 b hb).trans z) he new
def sM {P:Rh}{w:RF}{H':Hp}{h':Heap}{kvs:List (Key×V)}{vs:List (Key×tx)}(z:kvs.length<=sizeLine)(hd:(a==sysModules)=false)(rel:KV kvs vs)(dd:h'.DictOf (cD P w) a vs):
 bx P w H' h' a (.dK kvs):=⟨z,hd,vs,rel,dd⟩
def wL {H':Hp}{Q:Unit->If->Prop}(hu:A.units+1<cLine)(I:Inv X pins σ H s)(g:kh H a y v H')(ry:ba y u)(rv:ba v r)(h:∀s',Inv X pins σ H' s'->Q () s'):
  wpAny (model X.prog X.w) A (setItem (.ref a) u r) Q E s:=by
 rcases g with⟨kvs,k,e,ey,l,eH⟩|⟨kvs,k,b,e,ey,eb,l,eH⟩
 ·subst ey eH
  obtain⟨z,hd,vs,rel,dd⟩:=vT I.hok e
  have hz:vs.length<=sizeLine:=by rw[<-rel.length];exact z
  have hl:(cy kvs k v).length<=sizeLine:=by have:=iA kvs k v;omega
  refine wpAny_setItem_pairs (hsz:=hz) (kN ry) dd fun h' dd' hs=>h _ ?_
  have he:∃q,h'.get? a=some q:=let ⟨q,_,_,hq,_⟩:=dd';⟨q,hq⟩
  exact ox I (by rw[e];exact SF) hs he (sM hl hd (rel.put k rv) dd')
 ·subst ey eH
  cases (show u=Re b from ry)
  obtain⟨z,hd,xs,rel,dd⟩:=Ci I.hok e
  have hz:xs.length<=sizeLine:=by rw[<-Paired.length rel];exact z
  have hl:(cy kvs k v).length<=sizeLine:=by have:=iA kvs k v;omega
  refine wpAny_setItem_heap (hsz:=hz) (Ue hu) (kc I.hok eb) dd fun h' dd' hs=>h _ ?_
  obtain⟨q,es,ep,hq,h2,h3,h4,_,h5⟩:=dd'
  refine ox I (by rw[e];exact SF) hs ⟨q,hq⟩ ⟨hl,hd,_,(rel.put k eb rv).keeps fun c ys ec=>?_,q,es,ep,hq,h2,h3,h4,h5⟩
  rw[ap (bw ec e (fun z=>nomatch z))]
  exact ec
end
section
variable {X:Cx}{pins:List (Addr×Obj)}{σ:St}{H:Hp}{s:If}{a:Addr}{kvs:List (Key×V)}{k:Key}{u:tx}{A:RC}{E:tx->If->Prop}
def Lh {v:V}{more:List tx}{Q:tx->If->Prop}(I:Inv X pins σ H s)(e:H a=some (.dK kvs))(ry:ba (kV k) u)(l:cg kvs k=some v)(hm:more=[]\/∃x,more=[x])
  (h:∀w' s',Inv X pins σ (upd H a (.dK (jM kvs k))) s'->ba v w'->Q w' s'):wpAny (model X.prog X.w) A (call (.builtin "dict.pop") (.ref a::u::more)) Q E s:=by
 obtain⟨z,hd,vs,rel,dd⟩:=vT I.hok e
 obtain⟨w',hw,rw'⟩:=fb.some_of (v:=v) (o:=valueAt vs k) (by rw[<-l];exact rel.val k)
 have hp:(keyPart u).isSome=true:=by
  cases k with
  |inl i=>obtain⟨t,q⟩:=(show ∃t,u=TB i t from ry);subst q;rfl
  |inr x=>obtain⟨t,q⟩:=(show ∃t,u=Tz x t from ry);subst q;rfl
 have ha:argsOk "dict.pop" ⟨.ref a::u::more,[]⟩:=by
  rcases hm with q|⟨x,q⟩
  ·subst q;exact PySem.F.args_dict_pop_2 _ _
  ·subst q;exact PySem.F.args_dict_pop_3 _ _ _
 refine call_meetsIn VI dd.typeIs PySem.F.entry_dict_pop ha (meets_dict_pop_there (cD X.prog X.w) a (kN ry) more hm hp)
  ⟨vs,w',dd,by rw[<-rel.length];exact z,hw,fun h' dd' hs=>h w' _ ?_ rw'⟩
 have he:∃q,h'.get? a=some q:=let ⟨q,_,_,hq,_⟩:=dd';⟨q,hq⟩
 exact ox I (by rw[e];exact SF) hs he (sM (Rl (AV kvs k) z) hd (rel.drop k) dd')
def JK {Q:tx->If->Prop}(I:Inv X pins σ H s)(e:Rd H a (.dK kvs))(h:∀t s',Inv X pins σ H s'->Q (.int kvs.length t) s'):wpAny (model X.prog X.w) A (call (.builtin "len") [.ref a]) Q E s:=by
 obtain⟨z,hd,vs,rel,dd⟩:=jm I.hok e
 refine call_len_dict hd dd (by rw[<-rel.length];rw[Sm]at z;omega) ?_
 rw[<-rel.length]
 exact h _ _ (I.tok _)
end
def tK {X:Cx}{pins:List (Addr×Obj)}{σ:St}{H:Hp}{s:If}{a:Addr}{y:V}{o:Option V}(I:Inv X pins σ H s)(g:eE H a y o):s.TypeIs (.ref a) "dict":=by
 rcases g with⟨kvs,k,e,_,_⟩|⟨kvs,k,b,e,_,_,_⟩
 ·obtain⟨_,_,vs,_,dd⟩:=jm I.hok e
  exact dd.typeIs
 ·obtain⟨_,_,xs,_,dd⟩:=nq I.hok e
  exact dd.typeIs
def yV {P:Rh}{w:RF}{H:Hp}(h:Heap)(hb:sysModules<h.objs.size):bx P w H (h.push {cls:=.type "dict",data:=.dict #[]}) h.objs.size (.dK []):=
 ⟨QK _,beq_eq_false_iff_ne.mpr (QU (Rf hb)),[],.nil,Heap.DictOf.new h⟩
def Bw {P:Rh}{w:RF}{H:Hp}(h:Heap)(hb:sysModules<h.objs.size):bx P w H (h.push {cls:=.type "dict",data:=.dict #[]}) h.objs.size (.dT []):=
 ⟨QK _,beq_eq_false_iff_ne.mpr (QU (Rf hb)),[],.nil,_,#[],0,QX _ rfl,⟨rfl,rfl,rfl⟩,rfl,rfl,UC⟩
def wR:TE:=fun _ H Q=>∀p,H p=none->Q (.ref p) (upd H p (.dK []))
def xh:TE:=fun _ H Q=>∀p,H p=none->Q (.ref p) (upd H p (.dT []))
section
variable {X:Cx}{pos:Pos}
def By:PE X (.Dict [] [] pos) wR:=fun pins s σ H Q I h=>
 wpAny_Dict_empty ⟨.ref s.heap.objs.size,_,I.laid (a:=s.heap.objs.size) (o:=.dK []) (t':=s.toks) (fun _ _ q=>Lt _ q) (gV _) (yV s.heap I.big),rfl,h _ (I.hok.fresh (gV _))⟩
def Au:PE X (.Dict [] [] pos) xh:=fun pins s σ H Q I h=>
 wpAny_Dict_empty ⟨.ref s.heap.objs.size,_,I.laid (a:=s.heap.objs.size) (o:=.dT []) (t':=s.toks) (fun _ _ q=>Lt _ q) (gV _) (Bw s.heap I.big),rfl,h _ (I.hok.fresh (gV _))⟩
end
section
variable {X:Cx}{pins:List (Addr×Obj)}{σ:St}{H:Hp}{s:If}{a:Addr}{kvs:List (Key×V)}{A:RC}{E:tx->If->Prop}
def Br {Q:tx->If->Prop}(I:Inv X pins σ H s)(e:Rd H a (.dK kvs))(h:∀p s',H p=none->Inv X pins σ (upd H p (.dK kvs)) s'->Q (.ref p) s'):wpAny (model X.prog X.w) A (call (.type "dict") [.ref a]) Q E s:=by
 obtain⟨z,hd,vs,rel,dd⟩:=jm I.hok e
 refine kt_call_dict hd dd (by rw[<-rel.length];exact z) fun h' dd' hs=>?_
 refine h _ _ (I.hok.fresh (gV _)) (I.laid (a:=s.heap.objs.size) (o:=.dK kvs) (t':=s.toks) (fun b q hq=>?_) (gV _) (sM z (beq_eq_false_iff_ne.mpr (QU (Rf I.big))) rel dd'))
 exact(hs.2 b (Rf (QV hq))).trans (Lt _ hq)
end
end L2
namespace Att
open PySem PySem.W PySem.Calls PyProof.Rows
def ints_of_wellAll {P:Params}{h:Heap}:∀(ns:List Int)(vs:List tx),WellAll P h vs (ns.map WData.int)->Wc vs ns:=by
 intro ns
 induction ns with
 |nil=>
  intro vs w
  rw[Wj]at w
  cases w
  exact .nil
 |cons n ns ih=>
  intro vs w
  rw[RD]at w
  cases w with
  |cons a b=>
   cases a
   exact .cons _ _ (ih _ b)
def script_of {l:OpenLaw}{n:Nat}(hn:l.most=some n){P:Params}{h:Heap}{args:List WData}{vals:List tx}
  (hpre:l.row.toRowW.claim.pre args=true)(hwl:WellAll P h vals args):
  ∃a vs ns,vals=[Re a]/\args=[WData.list (ns.map WData.int)]/\h.get? a=some {cls:=.type "list",data:=.seq vs.toArray}/\Wc vs ns/\ns.length<=n:=by
 have hsh:WShape.hasAll [] args [.list .int]=true:=(pre_splitW hpre).1
 have hc:l.pre.holds [] {args:=args}=true:=(pre_splitW hpre).2
 obtain⟨d,r,rfl,h1,h2⟩:=hasAllW_cons hsh
 obtain rfl:=hasAllW_nil h2
 obtain⟨xs,rfl,h3⟩:=hasW_list h1
 obtain⟨ns,rfl⟩:=items_int h3
 have hlen:ns.length<=n:=by
  unfold OpenLaw.pre at hc
  have h4:(WTm.not (.lt (.lit (.int (n:Int))) (.len (.arg 0)))).holds [] {args:=[.list (ns.map .int)]}=true:=by
   have h4:=(holds_andW hc).1
   rw[hn]at h4
   exact h4
  have h5:=condW_of h4 (w_not (w_lt w_lit (w_len_list (w_arg rfl))))
  rw[QC]at h5
  refine Nat.le_of_not_lt fun q=>?_
  have q':(n:Int)<((ns.length:Nat):Int):=by omega
  first
   |(rw[decide_eq_true q']at h5;exact absurd h5 (by decide))
   |(simp at h5;omega)
 cases hwl with
 |cons w1 w2=>
  cases w2
  cases w1 with
  |list ho hall=>exact⟨_,_,ns,rfl,rfl,ho,ints_of_wellAll ns _ hall,hlen⟩
def post_true (l:OpenLaw)(args:List WData):l.row.toRowW.claim.post args (.bool true) args=true:=
 postW_of (r:=l.row.toRowW) (X:=(true==true))
  (show WShape.has [] (.bool true) .bool=true by first|rfl|decide|simp[WShape.has,WShape.arms,WShape.armsAll])
  (show(WTm.eq .res (.lit (.bool true))).value [] {args:=args,res:=some (.bool true),after:=args}=some (.bool (true==true))from w_eq_bool (w_res rfl) w_lit) rfl
def attach_call {l:OpenLaw}{n:Nat}{q:Rh}{loose:List Str}{XP:(Str->Option tx)->Heap->Prop}{YP:RF->Heap->Prop}{d:DefRec}
  (hn:l.most=some n)(hdf:d.params.defaults=[])
  (call:∀(w:RF)(s₀ s₁:If)(mg mb:Str->Option tx)(fa:Addr)(o:Obj)(pm cd doc:tx)(a:Addr)(vs:List tx)(ns:List Int),
   Ground q loose [] XP w s₀ mg mb s₁.heap->YP w s₁.heap->
   s₁.heap.get? fa=some o->o.data=.func (docDef d.name d.params d.body d.scope pm cd doc)->s₁.heap.CodeRec cd d.name->mg d.name=some (.ref fa)->
   s₁.heap.get? a=some {cls:=.type "list",data:=.seq vs.toArray}->Wc vs ns->ns.length<=n->s₁.gens=#[]->
   codeAny (model l.prog w) callerA (.call (.ref fa) ⟨[.ref a],[]⟩) (fun r s'=>r=.ok (.ret (.bool true))/\OldK s₁.heap s'.heap/\s'.os=s₁.os/\Uu s'.gens) s₁):
  WalkO q loose XP YP l.row.toRowW d [] (fun f vs=>WI f vs):=by
 intro w s₀ s₁ mg mb G Y fa o pm cd doc dV kV ho hd hcd hD hmg hg args vals as hpre hlay hrd hwl hlo
 obtain rfl:dV=.none:=Dflts.none hD hdf
 obtain rfl:kV=.none:=Dflts.noKw hD
 obtain⟨a,vs,ns,rfl,rfl,hobj,hints,hlen⟩:=script_of hn hpre hwl
 refine enter_call (SV (call w s₀ s₁ mg mb fa o pm cd doc a vs ns G Y ho (fd_plain hd) hcd hmg hobj hints hlen hg) fun r s' hq=>?_)
 obtain⟨rfl,h2,h3,h4⟩:=hq
 exact⟨.inl ⟨.bool true,.bool true,[],rfl,fun _=>rfl,.bool true,post_true l _,fun _=>⟨Ys,fun _ hm=>(nomatch hm)⟩⟩,h2,h3,h4⟩
end Att
namespace L2
open PySem PySem.Spec PyProof.Rows
theorem kH:∀{vs:List tx}{ns:List Int},Wc vs ns->bc (ns.map V.int) vs
 |_,_,.nil=>.nil
 |_,_,.cons n t h=>.cons ⟨t,rfl⟩ (kH h)
def bV (s:Stmt):Arguments:=match s with
 |.FunctionDef _ a _ _ _ _ _ _ _ _=>a
 |_=>{posonlyargs:=[],args:=[],vararg:=none,kwonlyargs:=[],kw_defaults:=[],kwarg:=none,defaults:=[]}
def bH (s:Stmt):List Stmt:=match s with
 |.FunctionDef _ _ b _ _ _ _ _ _ _=>b
 |_=>[]
def am (s:Stmt):Scope:=match s with
 |.FunctionDef _ _ _ _ _ _ sc _ _ _=>sc
 |_=>{kind:=.function,names:=[],isGenerator:=false,isCoroutine:=false}
abbrev E0:XK:=fun _ _ _=>False
structure Fun (K:cW)(x qual:Str)(st:Stmt)(f:Addr)(fd:QD):Prop where
 ex:∃(oc:tx)(od:Option Addr)(kV doc pm:tx)(an:Option Addr)(cdv ct:tx)(osl:Array (Option tx)),
  fd=Tc x qual (bV st) (bH st) (am st) .none kV doc pm an cdv ct/\K.lookup f=some ⟨oc,od,.func fd,osl⟩/\Xo K cdv qual=true
 kp:SG K (.ref f)=true
section
variable {P:Rh}{w:RF}{K:cW}{mg:Str->Option tx}{base:Heap}
def Fun.binds {x qual:Str}{st:Stmt}{f:Addr}{fd:QD}{ps:List Str}(F:Fun K x qual st f fd)
  (h:∀(kV doc pm:tx)(an:Option Addr)(cdv ct:tx)(us:List tx),us.length=ps.length->bindArgs (Tc x qual (bV st) (bH st) (am st) .none kV doc pm an cdv ct) ⟨us,[]⟩=pure (ps.zip us)):aL K fd ps []:=by
 obtain⟨oc,od,kV,doc,pm,an,cdv,ct,osl,rfl,lk,hcd⟩:=F.ex
 exact .all (h kV doc pm an cdv ct)
def aT {x qual:Str}{st:Stmt}{f:Addr}{oc:tx}{od an:Option Addr}{osl:Array (Option tx)}{kV doc pm cdv ct:tx}(l:K.lookup f=some ⟨oc,od,.func (Tc x qual (bV st) (bH st) (am st) .none kV doc pm an cdv ct),osl⟩)
 (c:Xo K cdv qual=true)(k:SG K (.ref f)=true):Fun K x qual st f (Tc x qual (bV st) (bH st) (am st) .none kV doc pm an cdv ct):=⟨⟨oc,od,kV,doc,pm,an,cdv,ct,osl,rfl,l,c⟩,k⟩
end
def cB {n:Nat}(h:n<=1000):n<sizeLine:=RX h (by decide)
section
variable {X:Cx}
def xH:bS X (.builtin "len") (fun xs H Q=>∃a kvs,xs=[V.ref a]/\H a=some (.dK kvs)/\Q (.int kvs.length) H):=by
 intro pins s σ H xs us Q I r h
 obtain⟨a,kvs,rfl,ha,q⟩:=h
 obtain⟨u,rfl,ru⟩:=fU r
 cases ru
 exact JK I (.inl ha) fun t s' I'=>⟨.int kvs.length,H,I',⟨t,rfl⟩,q⟩
end
def vQ {A B:Prop}(h:A):if true=true then A else B:=by
 rw[if_pos rfl]
 exact h
def au (H H':Hp):Prop:=∀b o,H b=some o->H' b=some o
def au.refl (H:Hp):au H H:=fun _ _ h=>h
def au.trans {H H1 H2:Hp}(a:au H H1)(b:au H1 H2):au H H2:=fun c o h=>b c o (a c o h)
def eK:List (Str×SC)->List (Str×Addr)->List (Str×Addr)->List (Str×Addr)
 |[],_,cs=>cs
 |(n,k)::r,cells,cs=>eK r cells (if k==.free then(match cells.lookup n with|some a=>(n,a)::cs|none=>cs)else cs)
def rR {scope:Scope}{env:Env}(h:∀y∈scope.names,y.2=.free->(env.cells.lookup y.1).isSome=true):closureFor scope env=pure (eK scope.names env.cells []):=by
 have key:∀(l:List (Str×SC))(cs:List (Str×Addr)),(∀y∈l,y.2=.free->(env.cells.lookup y.1).isSome=true)->
   (forIn l cs (fun(x:Str×SC)(cs:List (Str×Addr))=>(if (x.2==Sz)=true then(do let a<-cellOf env x.1;pure (Wz ((x.1,a)::cs)))else(pure (Wz cs):Sem _))):Sem (List (Str×Addr)))=pure (eK l env.cells cs):=by
  intro l
  induction l with
  |nil=>intro cs _;rfl
  |cons y r ih=>
   intro cs hy
   obtain⟨n,k⟩:=y
   rw[Xs]
   by_cases hk:k=.free
   ·subst hk
    have hs:=hy (n,.free) Rb rfl
    cases e:env.cells.lookup n with
    |none=>rw[e]at hs;cases hs
    |some a=>
     have:=ih ((n,a)::cs) (fun z hz=>hy z (QN _ hz))
     simp only[eK,beq_self_eq_true,if_true,e,cellOf,We]
     exact this
   ·have hb:(k==Sz)=false:=by simpa using hk
    have:=ih cs (fun z hz=>hy z (QN _ hz))
    simp only[eK,hb,UR,if_false,We]
    exact this
 have:=key scope.names [] h
 unfold closureFor
 simpa using this
theorem pq:∀{l:List (Str×SC)}{cells cs:List (Str×Addr)}{x:Str}{c:Addr},(∀x c,cs.lookup x=some c->cells.lookup x=some c)->(eK l cells cs).lookup x=some c->cells.lookup x=some c
 |[],_,_,_,_,h,e=>h _ _ e
 |(n,k)::r,cells,cs,x,c,h,e=>by
  refine pq (l:=r) (fun y d hy=>?_) e
  split at hy
  ·split at hy
   ·rename_i a ha
    by_cases hyn:y=n
    ·subst hyn
     rw[Wk]at hy
     rw[<-hy];exact ha
    ·rw[SD]at hy
     have:(y==n)=false:=by simpa using hyn
     rw[this]at hy
     exact h _ _ hy
   ·exact h _ _ hy
  ·exact h _ _ hy
theorem mV:∀{l:List (Str×SC)}{cells cs:List (Str×Addr)}{x:Str},(cs.lookup x).isSome=true->((eK l cells cs).lookup x).isSome=true
 |[],_,_,_,h=>h
 |(n,k)::r,cells,cs,x,h=>by
  refine mV (l:=r) ?_
  split
  ·split
   ·rw[SD]
    split
    ·rfl
    ·exact h
   ·exact h
  ·exact h
theorem kG:∀{l:List (Str×SC)}{cells cs:List (Str×Addr)}{x:Str},(x,Sz)∈l->(cells.lookup x).isSome=true->((eK l cells cs).lookup x).isSome=true
 |[],_,_,_,h,_=>by cases h
 |(n,k)::r,cells,cs,x,h,hs=>by
  rcases QG.mp h with e|h
  ·cases e
   refine mV (l:=r) ?_
   simp only[beq_self_eq_true,if_true]
   cases e:cells.lookup n with
   |none=>rw[e]at hs;cases hs
   |some a=>simp only[Wk];rfl
  ·exact kG (l:=r) h hs
def mD {x:Str}{k:SC}:∀{l:List (Str×SC)},l.lookup x=some k->(x,k)∈l:=fun h=>RU h
inductive gu (X:Cx)(scope:Scope):List Str->List Nat->Prop where
 |nil:gu X scope [] []
 |cons {y:Str} {i:Nat} {ys:List Str} {is:List Nat} (h1:X.N[i]?=some y) (h2:X.env.kindOf y=some .cell\/X.env.kindOf y=some .free) (h3:scope.names.lookup y=some .free) (h:gu X scope ys is):gu X scope (y::ys) (i::is)
structure fN (scope:Scope)(x:Str)(ys:List Str):Prop where
 kind:scope.kind=.function
 nocell:∀y∈scope.names,y.2≠.cell
 names:∀y∈scope.names,y.2=.local->scope.names.lookup y.1=some .local
 own:scope.names.lookup x=some .local
 all:∀y∈scope.names,y.2=.free->y.1∈ys
 nd:(x::ys).Nodup
def bP (X:Cx)(scope:Scope)(C:Addr)(N:List Str)(s:If)(H:Hp)(fp:List Addr):Cx:=
 {X with N:=N,s₀:=s,H₀:=H,env:=compEnvC scope (eK scope.names X.env.cells []) C X.env,outer:=X.stack,ex:=fp,fn:=fun _=>false,pn:=[],xe:=fun _ _=>False}
def bX (σ:St)(is:List Nat):St:=is.map fun i=>(σ[i]?).getD none
theorem iM {f:Str×SC->Str×SC}(hf:∀p,(f p).1=p.1){x:Str}:∀(l:List (Str×SC)),(l.map f).lookup x=(l.lookup x).map fun k=>(f (x,k)).2
 |[]=>rfl
 |(n,k)::r=>by
  have ih:=iM hf (x:=x) r
  have e:f (n,k)=(n,(f (n,k)).2):=XH (hf (n,k)) rfl
  rw[RD,e,SD,SD]
  cases hx:x==n with
  |true=>
   have e':x=n:=by simpa using hx
   subst e';rfl
  |false=>exact ih
def je (scope:Scope)(env:Env)(x:Str):(relabel scope env).names.lookup x=(scope.names.lookup x).map fun k=>if (k==Sz&&env.scope.kind==.function&&env.kindOf x==some .cell)then TU else k:=by
 have hf:∀p:Str×SC,((fun(n,k)=>if (k==Sz&&env.scope.kind==.function&&env.kindOf n==some .cell)then(n,TU)else(n,k)) p:Str×SC).1=p.1:=by
  intro p
  obtain⟨n,k⟩:=p
  show(if _ then(n,TU)else(n,k)).1=n
  split<;>rfl
 have:=iM hf (x:=x) scope.names
 show Sv x (List.map _ scope.names)=_
 rw[this]
 congr 1
 funext k
 show(if _ then(x,TU)else(x,k)).2=_
 split<;>rfl
def iL {scope:Scope}{env:Env}{x:Str}{k:SC}(nc:∀y∈scope.names,y.2≠.cell)(h:(relabel scope env).names.lookup x=some k)(hk:k=.cell\/k=.free):(x,Sz)∈scope.names:=by
 rw[je]at h
 cases q:scope.names.lookup x with
 |none=>rw[q]at h;cases h
 |some k'=>
  have hm:=mD q
  rw[q]at h
  have h:(if (k'==Sz&&env.scope.kind== .function&&env.kindOf x==some .cell)then TU else k')=k:=QZ h
  by_cases hc:k'=.free
  ·subst hc;exact hm
  ·have hb:(k'==Sz)=false:=by simpa using hc
   rw[hb]at h
   have h:k'=k:=h
   subst h
   rcases hk with z|z
   ·exact absurd z (nc _ hm)
   ·exact absurd z hc
def sE {scope:Scope}{env:Env}{x:Str}(h:scope.names.lookup x=some .free):(relabel scope env).names.lookup x=some .cell\/(relabel scope env).names.lookup x=some .free:=by
 rw[je,h]
 show some (if _ then _ else _)=_\/some (if _ then _ else _)=_
 split
 ·exact .inl rfl
 ·exact .inr rfl
def pQ {scope:Scope}{env:Env}{x:Str}(h:scope.names.lookup x=some .local):(relabel scope env).names.lookup x=some .local:=by
 rw[je,h];rfl
def xU {X:Cx}{scope:Scope}{ys:List Str}{is:List Nat}{m:Str->Option tx}{h:Heap}{σ:St}(hc:gu X scope ys is)
  (hl:∀(i:Nat)(x:Str)(v:V),X.N[i]? =some x->σ[i]? =some (some v)->Vis X.env.scope x->∃u,ba v u/\Ie X.env h m x u)(nd:True):
  ∀(j:Nat)(y:Str)(v:V),ys[j]? =some y->(bX σ is)[j]? =some (some v)->∃u,ba v u/\scope.names.lookup y=some .free/\∃c,X.env.cells.lookup y=some c/\h.IsCell c (some u):=by
 induction hc with
 |nil=>intro j y v e;simp at e
 | @cons z i zs js h1 h2 h3 hr ih=>
   intro j y v e1 e2
   cases j with
   |zero=>
    simp at e1;subst e1
    have e2:(σ[i]?).getD none=some v:=by simpa[bX]using e2
    have e3:σ[i]? =some (some v):=by
     cases q:σ[i]? with
     |none=>rw[q]at e2;simp at e2
     |some o=>rw[q]at e2;simp at e2;rw[e2]
    have hv:Vis X.env.scope z:=by
     rcases h2 with q|q
     ·exact .inr (.inl q)
     ·exact .inr (.inr q)
    obtain⟨u,r,l⟩:=hl i z v h1 e3 hv
    refine⟨u,r,h3,?_⟩
    rcases l with⟨k,_⟩|⟨_,c,e,ic⟩
    ·rcases h2 with q|q
     ·rw[q]at k;cases k
     ·rw[q]at k;cases k
    ·exact⟨c,e,ic⟩
   |succ j=>
    exact ih j y v (by simpa using e1) (by simpa[bX]using e2)
def Cg (is:List Nat)(tc:TT)(te:TE)(σ:St)(D:Addr)(J:It)(H1:Hp)(Q:VK):Prop:=∃W:Nat->Nat->List V->Hp->Prop,(∃m,W 0 m [] (upd H1 D (.lst [])))/\
 ∀i m ys H2,W i m ys H2->(J.stop i H2/\Q (.ref D) H2)\/(J.go i H2/\∀x H3,J.yld i H2 x H3->tc (some x::bX σ is) H3 fun b H4=>if b=true then
  te (some x::bX σ is) H4 fun y H5=>H5 D=some (.lst ys)/\ys.length<sizeLine/\∃m',m'<m/\W (i+1) m' (ys++[y]) (upd H5 D (.lst (ys++[y])))
  else ∃m',m'<m/\W (i+1) m' ys H4)
def ik (is:List Nat)(wi:TI)(tc:TT)(te:TE):TE:=fun σ H Q=>wi σ H fun J H1=>∀D,H1 D=none->Cg is tc te σ D J H1 Q
def tQ (elt target iter c:Expr)(scope:Scope)(pos:Pos)(it acc:tx)(env:Env):
  compTurn (.ListComp elt [⟨target,iter,[c],0⟩] scope pos) 0 it acc env=(standAt iter.pos >>= fun _=>pyNext it >>= fun r=>match r with
   |none=>pure (.done .next)
   |some v=>letOwnedTupleGo target it v >>= fun _=>assign target env v >>= fun _=>isTrue c env (eval c env) >>= fun ok=>
    (if ok=true then(eval elt env >>= fun x=>call (.builtin "list.append") [acc,x] >>= fun _=>pure ())else pure ()) >>= fun _=>
     again (.compLoop (.ListComp elt [⟨target,iter,[c],0⟩] scope pos) 0 it acc env)):=by
 unfold compTurn
 simp only[Xs,List.forIn_nil,List.getElem?_cons_zero,List.getElem?_cons_succ,List.getElem?_nil,bind_assoc,We,bne_self_eq_false,UR,if_false,if_true]
 congr 1
 funext _
 congr 1
 funext r
 cases r with
 |none=>rfl
 |some v=>
  simp only[bind_assoc,We,if_true]
  congr 1;funext _
  congr 1;funext _
  congr 1;funext b
  cases b<;>simp
section
variable {prog:Rh}{w:RF}{A:RC}{R:Result->If->Prop}{s:If}
def jS {elt target iter c:Expr}{scope:Scope}{pos:Pos}{it acc:tx}{env:Env}(I:Nat->If->Prop)
  (turn:∀n s,I n s->wpAny (model prog w) A (pyNext it) (fun r s₁=>match r with
   |none=>R (.ok .next) s₁
   |some v=>wpAny (model prog w) A (letOwnedTupleGo target it v) (fun _ s₁=>wpAny (model prog w) A (assign target env v) (fun _ s₂=>wpAny (model prog w) A (isTrue c env (eval c env)) (fun ok s₂=>if ok=true then wpAny (model prog w) A (eval elt env) (fun x s₃=>
    wpAny (model prog w) A (call (.builtin "list.append") [acc,x]) (fun _ s₄=>∃m,m<n/\I m s₄) (notedBy (model prog w) A env fun e s'=>R (.error e) s') s₃)
    (notedBy (model prog w) A env fun e s'=>R (.error e) s') s₂ else ∃m,m<n/\I m s₂) (notedBy (model prog w) A env fun e s'=>R (.error e) s') s₂) (notedBy (model prog w) A env fun e s'=>R (.error e) s') s₁) (notedBy (model prog w) A env fun e s'=>R (.error e) s') s₁) (notedBy (model prog w) A env fun e s'=>R (.error e) s') s)
  (n:Nat)(h:I n s):
  codeAny (model prog w) A (.compLoop (.ListComp elt [⟨target,iter,[c],0⟩] scope pos) 0 it acc env) R s:=by
 refine codeAny_loop rfl I (fun n s hI=>?_) n h
 show wpAny _ _ ((compTurn (.ListComp elt [⟨target,iter,[c],0⟩] scope pos) 0 it acc env).onRaise (fun x=>do noteFrame x env;theTreesLotGoes x)) _ _ s
 refine wpAny_noted ?_
 rw[tQ]
 refine pv (Us (pv (Rq (turn n s hI) (fun r s₁ h₁=>?_) fun _ _ h'=>h')))
 cases r with
 |none=>exact QL h₁
 |some v=>
  refine pv (Rq h₁ (fun _ s₁ h₁=>pv (Rq h₁ (fun _ s₂ h₂=>pv (Rq h₂ (fun ok s₃ h₃=>?_) fun _ _ h'=>h')) fun _ _ h'=>h')) fun _ _ h'=>h')
  cases ok with
  |true=>
   rw[if_pos rfl]at h₃
   simp only[if_true]
   exact pv (pv (Rq h₃ (fun x s₃ h₃=>pv (Rq h₃ (fun _ s₄ h₄=>QL (QL ⟨rfl,h₄⟩)) fun _ _ h'=>h')) fun _ _ h'=>h'))
  |false=>
   rw[if_neg Rg]at h₃
   simp only[UR,if_false]
   exact pv (QL (QL ⟨rfl,h₃⟩))
def jU {elt target iter:Expr}{scope:Scope}{pos:Pos}{it acc:tx}{env:Env}(I:Nat->If->Prop)
  (turn:∀n s,I n s->wpAny (model prog w) A (pyNext it) (fun r s₁=>match r with
   |none=>R (.ok .next) s₁
   |some v=>wpAny (model prog w) A (letOwnedTupleGo target it v) (fun _ s₁=>wpAny (model prog w) A (assign target env v) (fun _ s₂=>wpAny (model prog w) A (eval elt env) (fun x s₃=>
    wpAny (model prog w) A (call (.builtin "list.append") [acc,x]) (fun _ s₄=>∃m,m<n/\I m s₄) (notedBy (model prog w) A env fun e s'=>R (.error e) s') s₃)
    (notedBy (model prog w) A env fun e s'=>R (.error e) s') s₂) (notedBy (model prog w) A env fun e s'=>R (.error e) s') s₁) (notedBy (model prog w) A env fun e s'=>R (.error e) s') s₁) (notedBy (model prog w) A env fun e s'=>R (.error e) s') s)
  (n:Nat)(h:I n s):
  codeAny (model prog w) A (.compLoop (.ListComp elt [⟨target,iter,[],0⟩] scope pos) 0 it acc env) R s:=by
 refine codeAny_loop rfl I (fun n s hI=>?_) n h
 show wpAny _ _ ((compTurn (.ListComp elt [⟨target,iter,[],0⟩] scope pos) 0 it acc env).onRaise (fun x=>do noteFrame x env;theTreesLotGoes x)) _ _ s
 refine wpAny_noted ?_
 rw[compTurn_list1]
 refine pv (Us (pv (Rq (turn n s hI) (fun r s₁ h₁=>?_) fun _ _ h'=>h')))
 cases r with
 |none=>exact QL h₁
 |some v=>
  exact pv (Rq h₁ (fun _ s₁ h₁=>pv (Rq h₁ (fun _ s₂ h₂=>pv (pv (Rq h₂ (fun x s₃ h₃=>pv (Rq h₃
   (fun _ s₄ h₄=>QL (QL ⟨rfl,h₄⟩)) fun _ _ h'=>h')) fun _ _ h'=>h'))) fun _ _ h'=>h')) fun _ _ h'=>h')
end
def vz (X:Cx)(ifs:List Expr)(tc:TT):Prop:=match ifs with
 |[]=>tc=fun _ H Q=>Q true H
 |[c]=>PT X c tc
 |_=>False
section
variable {X:Cx}
def zV {scope:Scope}{ys:List Str}{is:List Nat}(h:gu X scope ys is):is.length=ys.length:=by
 induction h with
 |nil=>rfl
 |cons _ _ _ _ ih=>simp[ih]
def oZ {scope:Scope}{ys:List Str}{is:List Nat}(h:gu X scope ys is){y:Str}(hy:y∈ys):X.env.kindOf y=some .cell\/X.env.kindOf y=some .free:=by
 induction h with
 |nil=>cases hy
 |cons _ h2 _ _ ih=>
  rcases QG.mp hy with e|e
  ·rw[e];exact h2
  ·exact ih e
def oY {elt iter:Expr}{ifs:List Expr}{x:Str}{px pos:Pos}{scope:Scope}{ys:List Str}{is:List Nat}{tc:TT}{te:TE}{pins:List (Addr×Obj)}{σ:St}{H2:Hp}{s2:If}{it:Addr}{fp:List Addr}{tn:Nat->Heap->Prop}{J:It}{E:tx->If->Prop}{Q:VK}{RR:tx->Addr->Result->If->Prop}
  (hc:X.calm=true)(S:fN scope x ys)(hcap:gu X scope ys is)
  (hif:∀C s H fp,vz (bP X scope C (x::ys) s H fp) ifs tc)(he:∀C s H fp,PE (bP X scope C (x::ys) s H fp) elt te)
  (I2:Inv X pins σ H2 s2)(T:oM X.prog X.w X.K (.Name x px) J fp it tn)(st2:tn 0 s2.heap)(f2:∀b∈fp,kI X pins H2 b)
  (hW:∀D,H2 D=none->∃W:Nat->Nat->List V->Hp->Prop,(∃m,W 0 m [] (upd H2 D (.lst [])))/\
   ∀i m ys H2,W i m ys H2->(J.stop i H2/\Q (.ref D) H2)\/(J.go i H2/\∀x H3,J.yld i H2 x H3->tc (some x::bX σ is) H3 fun b H4=>if b=true then
    te (some x::bX σ is) H4 fun y H5=>H5 D=some (.lst ys)/\ys.length<sizeLine/\∃m',m'<m/\W (i+1) m' (ys++[y]) (upd H5 D (.lst (ys++[y])))
    else ∃m',m'<m/\W (i+1) m' ys H4))
  (hRR:∀D C H' s',(X.s₀.heap.objs.size<=C/\∀p∈X.pn++pins,p.1≠C)->(∃m,s'.heap.Ns C m)->C≠X.env.locals->H' C=none->Inv X pins σ H' s'->(∀h',Tr C s'.heap h'->Inv X pins σ H' {s' with heap:=h'})->Q (.ref D) H'->RR (.ref D) C (.ok .next) s'):
  wpAny (model X.prog X.w) X.A (newList []) (fun acc s₃=>wpAny (model X.prog X.w) X.A (newFunctionEnv scope X.env.globals (eK scope.names X.env.cells []) [] X.env.qual none .none (some X.env)) (fun cenv s₄=>
   codeAny (model X.prog X.w) X.A (.compStart (.ListComp elt [⟨.Name x px,iter,ifs,0⟩] scope pos) 0 (.ref it) acc {cenv with scope:=relabel scope X.env}) (RR acc cenv.locals) s₄) E s₃) E s2:=by
 have hf2:H2 s2.heap.objs.size=none:=I2.fresh
 refine RM (Xm S.nocell (by intro y hy;simp at hy) (fun h₁ hns₁ hsb₁=>?_) S.kind)
 dsimp only at hns₁ hsb₁⊢
 have I3:Inv X pins σ (upd H2 s2.heap.objs.size (.lst [])) {s2 with heap:=s2.heap.push {cls:=.type "list",data:=.seq ([]:List tx).toArray}}:=I2.lnew (t':=s2.toks) (ys:=[]) .nil (QK _)
 obtain⟨W,⟨m0,w0⟩,turn⟩:=hW _ hf2
 generalize hD:s2.heap.objs.size=D at I3 w0 turn hf2⊢
 generalize hs3:({s2 with heap:=s2.heap.push {cls:=.type "list",data:=.seq ([]:List tx).toArray}}:If)=s3 at I3
 have hp3:s2.heap.push {cls:=.type "list",dict:=none,data:=.seq ([]:List tx).toArray}=s3.heap:=by rw[<-hs3]
 rw[hp3]at hns₁ hsb₁⊢
 have tk3:s2.toks=s3.toks:=by rw[<-hs3]
 generalize hH3:upd H2 D (.lst [])=H3 at I3 w0
 generalize hC:s3.heap.objs.size=C at hns₁ hsb₁⊢
 have keep2:∀b o,s2.heap.get? b=some o->s3.heap.get? b=some o:=fun b o e=>by rw[<-hp3];exact Lt _ e
 have keep3:∀b o,s3.heap.get? b=some o->h₁.get? b=some o:=fun b o e=>hsb₁.extBut b o (by rw[<-hC];exact Rf (QV e)) (Lt _ e)
 have st3:tn 0 s3.heap:=T.keep _ _ _ st2 fun b _ o e=>keep2 b o e
 have st4:tn 0 h₁:=T.keep _ _ _ st3 fun b _ o e=>keep3 b o e
 have fp3:∀b∈fp,H3 b=none/\b<C:=fun b hb=>by
  obtain⟨o,e,_⟩:=T.obj _ _ st2 b hb
  refine⟨?_,by rw[<-hC];exact QV (keep2 b o e)⟩
  rw[<-hH3,ap (by rw[<-hD];exact Rf (QV e))]
  exact(f2 b hb).1
 have hcells:∀{z:Str}{c:Addr},(eK scope.names X.env.cells []).lookup z=some c->X.env.cells.lookup z=some c:=fun h=>pq (fun _ _ q=>by cases q) h
 have hX:(bP X scope C (x::ys) s3 H3 fp).Ok:=by
  refine⟨I3.ok.mod,S.kind,I3.ok.glob,I3.ok.blt,Uw hC,fun y z c h1 h2=>I3.ok.inj y z c (hcells h1) (hcells h2),fun y hy=>?_,fun y c h _=>absurd (show false=true from h) Rg,I3.ok.hd,I3.ok.frames,.inl rfl,fun b hb=>⟨Rf (fp3 b hb).2,fun y c h=>(f2 b hb).2.2.2.2.1 y c (hcells h)⟩,fun b o e=>I3.bs b o e,Rl I3.ok.bsz I3.sz,fun b o e hb=>?_,fun b hb z=>?_,I3.stack,I3.stkFree⟩
  ·have hy:(relabel scope X.env).names.lookup y=some .cell\/(relabel scope X.env).names.lookup y=some .free:=hy
   have hm:(y,Sz)∈scope.names:=by
    rcases hy with q|q
    ·exact iL S.nocell q (.inl rfl)
    ·exact iL S.nocell q (.inr rfl)
   have hs:∃c,X.env.cells.lookup y=some c:=by
    by_cases hk:X.env.kindOf y=some .cell\/X.env.kindOf y=some .free
    ·exact I3.ok.has y hk
    ·exact absurd (oZ hcap (S.all _ hm rfl)) hk
   exact RH.mp (kG hm (RH.mpr hs))
  ·rcases(f2 b hb).2.2.2.1 with z|z
   ·exact I3.ok.noex b o e z
   ·exact absurd (Ra (QV e) (Rl I3.ok.bsz z)) (Ss _)
  ·rcases QG.mp (I3.stkSub b z)with q|q
   ·exact(f2 b hb).2.1 q
   ·exact(f2 b hb).2.2.1 q
 have I4:Inv (bP X scope C (x::ys) s3 H3 fp) [] (none::bX σ is) H3 {s2 with heap:=h₁,toks:=s2.toks+([]:List (Str×tx)).length}:=by
  obtain⟨m3,hm3,hl3⟩:=id I3.loc
  refine⟨hX,?_,?_,Un.kept keep3,⟨_,hns₁,fun i y v e1 e2 e3=>?_⟩,fun y c e=>?_,?_,fun y c e=>I3.freeC y c (hcells e),fun p hp=>absurd (show p∈([]:List (Addr×Obj))from hp) (by simp),I3.hok.kept keep3,?_⟩
  ·show s2.os=s3.os
   rw[<-hs3]
  ·have:=I2.bare;exact this
  ·cases i with
   |zero=>simp at e2
   |succ j=>
    obtain⟨u,r,hfr,c,ec,ic⟩:=xU hcap hl3 trivial j y v (by have e1':(x::ys)[j+1]? =some y:=e1;simpa using e1') (by simpa using e2)
    have hk:=sE (env:=X.env) hfr
    obtain⟨c',ec'⟩:=RH.mp (kG (cs:=[]) (mD hfr) (by rw[ec];rfl) (cells:=X.env.cells))
    have:c'=c:=by have:=hcells ec';rw[ec]at this;exact(QZ this).symm
    subst this
    obtain⟨o,ho,hd⟩:=ic
    exact⟨u,r,.inr ⟨hk,c',ec',o,keep3 _ _ ho,hd⟩⟩
  ·obtain⟨v,o,ho,hd⟩:=I3.cell y c (hcells e)
   exact⟨v,o,keep3 _ _ ho,hd⟩
  ·have:=I3.hok.fresh (a:=C) (Uw hC)
   exact this
  ·have:=zV hcap
   show(none::bX σ is).length=(x::ys).length
   simp[bX,this]
 have lenσ:∀v:Option V,(v::bX σ is).set 0=fun w=>w::bX σ is:=fun v=>rfl
 have hown:(relabel scope X.env).names.lookup x=some .local:=pQ S.own
 have loop:codeAny (model X.prog X.w) X.A (.compLoop (.ListComp elt [⟨.Name x px,iter,ifs,0⟩] scope pos) 0 (.ref it) (.ref D) (compEnvC scope (eK scope.names X.env.cells []) C X.env)) (RR (.ref D) C)
   {s2 with heap:=h₁,toks:=s2.toks+([]:List (Str×tx)).length}:=by
  have fin:∀{H':Hp}{v:Option V}{s':If},Inv (bP X scope C (x::ys) s3 H3 fp) [] (v::bX σ is) H' s'->Q (.ref D) H'->RR (.ref D) C (.ok .next) s':=fun{H' v s'} J q=>by
   obtain⟨m',hm',_⟩:=J.loc
   have hCL:C≠X.env.locals:=QU (by rw[<-hC];exact Rf I3.lt)
   have back:∀h',Tr C s'.heap h'->Inv X pins σ H' {s' with heap:=h'}:=fun h' hs'=>by
    have os':s'.os=s3.os:=J.os
    refine I3.call' (s':={s' with heap:=h'}) (ch:=fp) os' ⟨fun b o e n hb hx=>?_,fun b o e n hb hx=>?_,fun b o e n hx=>J.base.free b o e n hx,fun b o e hx=>?_,J.base.tups,J.base.frzs,J.base.tbls⟩ (fun b o e=>?_) J.bare fun b hb=>?_
    ·exact hs'.extBut b o (by rw[<-hC];exact Rf (QV e)) (J.base.keep b o e n hb hx)
    ·obtain⟨sl,e1⟩:=J.base.slot b o e n hb hx
     exact⟨sl,hs'.extBut b _ (by rw[<-hC];exact Rf (QV e)) e1⟩
    ·obtain⟨o',e1⟩:=J.base.there b o e hx
     exact⟨o',hs'.extBut b _ (by rw[<-hC];exact Rf (QV e)) e1⟩
    ·refine(J.hok b o e).stay (fun c w' hc q=>(hs'.2 c ?_).trans q) (fun _ q=>q) fun _ _ q=>q
     have fC:H' C=none:=J.free
     rintro rfl
     rcases hc with rfl|hc
     ·rw[fC]at e;cases e
     ·rw[fC]at hc;cases hc
    ·obtain⟨_,a1,_,a2,a3,a4⟩:=f2 b hb
     exact⟨a2,a1,a3,a4⟩
   refine hRR D C H' s' ⟨by rw[<-hC];exact I3.sz,fun p hp=>by rw[<-hC];exact Rf (QV (I3.pin p hp).1)⟩ ⟨m',hm'⟩ hCL J.free ?_ back q
   have:=back s'.heap (.refl ..)
   exact this
  have stat:∀{H':Hp},(∀b∈fp,H' b=none)->∀b∈fp,kI (bP X scope C (x::ys) s3 H3 fp) [] H' b:=fun hn b hb=>by
   obtain⟨_,a1,a5,a2,a3,a4⟩:=f2 b hb
   refine⟨hn b hb,Rf (fp3 b hb).2,fun z=>?_,.inl hb,fun y c e=>a3 y c (hcells e),fun p hp=>absurd (show p∈([]:List (Addr×Obj))from hp) (by simp)⟩
   rcases QG.mp (I3.stkSub b z)with q|q
   ·exact a1 q
   ·exact a5 q
  have turnAt:∀n s,(∃i v ys' H',Inv (bP X scope C (x::ys) s3 H3 fp) [] (v::bX σ is) H' s/\tn i s.heap/\(∀b∈fp,H' b=none)/\W i n ys' H')->
    wpAny (model X.prog X.w) X.A (pyNext (.ref it)) (fun r s₁=>match r with
     |none=>RR (.ref D) C (.ok .next) s₁
     |some u=>wpAny (model X.prog X.w) X.A (letOwnedTupleGo (.Name x px) (.ref it) u) (fun _ s₁=>wpAny (model X.prog X.w) X.A (assign (.Name x px) (compEnvC scope (eK scope.names X.env.cells []) C X.env) u) (fun _ s₂=>
      ∃(xx:V)(i:Nat)(ys':List V)(H3' H6:Hp)(pl:List (Addr×Obj)),Inv (bP X scope C (x::ys) s3 H3 fp) ([]++pl) (some xx::bX σ is) H6 s₂/\
       (∀s7 v7 H7,Inv (bP X scope C (x::ys) s3 H3 fp) ([]++pl) (v7::bX σ is) H7 s7->Inv (bP X scope C (x::ys) s3 H3 fp) [] (v7::bX σ is) H7 s7/\tn (i+1) s7.heap/\∀b∈fp,H7 b=none)/\
       (tc (some xx::bX σ is) H6 fun b H4=>if b=true then te (some xx::bX σ is) H4 fun y H5=>H5 D=some (.lst ys')/\ys'.length<sizeLine/\∃m',m'<n/\W (i+1) m' (ys'++[y]) (upd H5 D (.lst (ys'++[y])))
        else ∃m',m'<n/\W (i+1) m' ys' H4)) (fun _ _=>False) s₁) (fun _ _=>False) s₁) (fun _ _=>False) s:=by
   rintro n s ⟨i,v,ys',H',J,st,fr,w'⟩
   rcases turn i n ys' H' w' with⟨stop,qn⟩|⟨go,step⟩
   ·refine thn (T.done (bP X scope C (x::ys) s3 H3 fp) rfl rfl rfl hc i [] s _ H' (fun _ _=>False) J (stat fr) st stop) fun r s4 ⟨hr,J4⟩=>?_
    subst hr
    exact fin J4 qn
   ·refine thn (T.item (bP X scope C (x::ys) s3 H3 fp) rfl rfl rfl hc i [] s _ H' (fun _ _=>False) J (stat fr) st go) fun r s4 ⟨u,hr,h4⟩=>?_
    subst hr
    refine thn h4 fun _ s5 ⟨xx,H5,J5,r5,y5,st5,fr5⟩=>?_
    have J5':=J5.pinned (stat fr5) (T.obj _ _ st5)
    refine Vr (lX (i:=0) J5' S.nd rfl (.inl hown) r5 (fun s6 J6=>?_) (.inr hown))
    refine⟨xx,i,ys',H5,H5,ki fp s5.heap,J6,fun s7 v7 H7 J7=>⟨J7.unpinned,T.keep _ _ _ st5 fun b hb o e=>(J7.pin (b,o) (Ru _ (Ru _ (gz hb e)))).1,fun b hb=>?_⟩,step xx H5 y5⟩
    obtain⟨o,e,d⟩:=T.obj _ _ st5 b hb
    exact(J7.pin (b,o) (Ru _ (Ru _ (gz hb e)))).2.1
  have start0:∃i v ys' H',Inv (bP X scope C (x::ys) s3 H3 fp) [] (v::bX σ is) H' {s2 with heap:=h₁,toks:=s2.toks+([]:List (Str×tx)).length}/\tn i h₁/\(∀b∈fp,H' b=none)/\W i m0 ys' H':=
   ⟨0,none,[],H3,I4,st4,fun b hb=>(fp3 b hb).1,w0⟩
  have emit:∀(n:Nat)(xx:V)(i:Nat)(ys':List V)(H4:Hp)(pl:List (Addr×Obj))(s₂:If),Inv (bP X scope C (x::ys) s3 H3 fp) ([]++pl) (some xx::bX σ is) H4 s₂->
    (∀s7 v7 H7,Inv (bP X scope C (x::ys) s3 H3 fp) ([]++pl) (v7::bX σ is) H7 s7->Inv (bP X scope C (x::ys) s3 H3 fp) [] (v7::bX σ is) H7 s7/\tn (i+1) s7.heap/\∀b∈fp,H7 b=none)->
    (te (some xx::bX σ is) H4 fun y H5=>H5 D=some (.lst ys')/\ys'.length<sizeLine/\∃m',m'<n/\W (i+1) m' (ys'++[y]) (upd H5 D (.lst (ys'++[y]))))->
    wpAny (model X.prog X.w) X.A (eval elt (compEnvC scope (eK scope.names X.env.cells []) C X.env)) (fun y s₃=>wpAny (model X.prog X.w) X.A (call (.builtin "list.append") [.ref D,y]) (fun _ s₄=>
     ∃m,m<n/\∃i v ys' H',Inv (bP X scope C (x::ys) s3 H3 fp) [] (v::bX σ is) H' s₄/\tn i s₄.heap/\(∀b∈fp,H' b=none)/\W i m ys' H') (fun _ _=>False) s₃) (fun _ _=>False) s₂:=by
   intro n xx i ys' H4 pl s₂ J2 back q
   refine thn (he C s3 H3 fp ([]++pl) s₂ _ H4 _ J2 q) fun y s₃ ⟨yv,H5,J3,r3,q1,q2,q3⟩=>?_
   refine thn (cF (X:=bP X scope C (x::ys) s3 H3 fp) ([]++pl) s₃ _ H5 (.ref D) [yv] (.ref D) [y] (fun v H7=>v=.non/\H7=upd H5 D (.lst (ys'++[yv]))) J3 rfl (.cons r3 .nil) ⟨D,ys',yv,rfl,rfl,q1,q2,rfl,rfl⟩) fun _ s₄ ⟨_,H7,J4,_,_,e7⟩=>?_
   subst e7
   obtain⟨m',hm',w'⟩:=q3
   obtain⟨b1,b2,b3⟩:=back s₄ _ _ J4
   exact⟨m',hm',i+1,some xx,ys'++[yv],_,b1,b2,b3,w'⟩
  have ex0:∀{α:Type}{t:Sem α}{Q':α->If->Prop}{E':tx->If->Prop}{s:If},wpAny (model X.prog X.w) X.A t Q' (fun _ _=>False) s->wpAny (model X.prog X.w) X.A t Q' E' s:=fun h=>Rq h (fun _ _ q=>q) fun _ _ q=>q.elim
  cases ifs with
  |nil=>
   have htc:tc=fun _ H Q=>Q true H:=hif C s3 H3 fp
   subst htc
   refine jU (fun n s=>∃i v ys' H',Inv (bP X scope C (x::ys) s3 H3 fp) [] (v::bX σ is) H' s/\tn i s.heap/\(∀b∈fp,H' b=none)/\W i n ys' H') (fun n s hI=>?_) m0 start0
   refine Rq (turnAt n s hI) (fun r s₁ h₁=>?_) fun _ _ q=>q.elim
   cases r with
   |none=>exact h₁
   |some u=>
    refine Rq h₁ (fun _ s₁ h₁=>Rq h₁ (fun _ s₂ h₂=>?_) fun _ _ q=>q.elim) fun _ _ q=>q.elim
    obtain⟨xx,i,ys',_,H6,pl,J2,back,q⟩:=h₂
    dsimp only at q
    rw[if_pos rfl]at q
    exact Rq (emit n xx i ys' H6 pl s₂ J2 back q) (fun y s₃ h₃=>ex0 h₃) fun _ _ q=>q.elim
  |cons c r0=>
   cases r0 with
   |cons _ _=>exact(hif C s3 H3 fp).elim
   |nil=>
    have hpt:PT (bP X scope C (x::ys) s3 H3 fp) c tc:=hif C s3 H3 fp
    refine jS (fun n s=>∃i v ys' H',Inv (bP X scope C (x::ys) s3 H3 fp) [] (v::bX σ is) H' s/\tn i s.heap/\(∀b∈fp,H' b=none)/\W i n ys' H') (fun n s hI=>?_) m0 start0
    refine Rq (turnAt n s hI) (fun r s₁ h₁=>?_) fun _ _ q=>q.elim
    cases r with
    |none=>exact h₁
    |some u=>
     refine Rq h₁ (fun _ s₁ h₁=>Rq h₁ (fun _ s₂ h₂=>?_) fun _ _ q=>q.elim) fun _ _ q=>q.elim
     obtain⟨xx,i,ys',_,H6,pl,J2,back,q⟩:=h₂
     refine Rq (hpt ([]++pl) s₂ _ H6 _ J2 q) (fun b s₃ h₃=>?_) fun _ _ q=>q.elim
     obtain⟨H4,J4,q4⟩:=h₃
     cases b with
     |true=>
      rw[if_pos rfl]at q4⊢
      exact Rq (emit n xx i ys' H4 pl s₃ J4 back q4) (fun y s₃ h₃=>ex0 h₃) fun _ _ q=>q.elim
     |false=>
      rw[if_neg Rg]at q4⊢
      obtain⟨m',hm',w'⟩:=q4
      obtain⟨b1,b2,b3⟩:=back s₃ _ _ J4
      exact⟨m',hm',i+1,some xx,ys',_,b1,b2,b3,w'⟩
 exact codeAny_compStart_list loop (T.self X.A 0 _ _ _ st4 loop)
end
section
variable {X:Cx}
def ut {scope:Scope}{x:Str}{ys:List Str}{is:List Nat}(ok:X.Ok)(S:fN scope x ys)(hcap:gu X scope ys is):closureFor scope X.env=pure (eK scope.names X.env.cells []):=
 rR fun y hy hk=>by
  obtain⟨c,e⟩:=ok.has y.1 (oZ hcap (S.all y hy hk))
  rw[e];rfl
def Dn {elt iter:Expr}{ifs:List Expr}{x:Str}{px pos:Pos}{scope:Scope}{ys:List Str}{is:List Nat}{wi:TI}{tc:TT}{te:TE}
  (hc:X.calm=true)(S:fN scope x ys)(hcap:gu X scope ys is)(hi:PI X (.Name x px) iter wi)
  (hif:∀C s H fp,vz (bP X scope C (x::ys) s H fp) ifs tc)(he:∀C s H fp,PE (bP X scope C (x::ys) s H fp) elt te)
  (hs:∀x,foldedSetIterable iter X.env x=pure x:=by intro _;rfl):PE X (.ListComp elt [⟨.Name x px,iter,ifs,0⟩] scope pos) (ik is wi tc te):=by
 intro pins s σ H Q I h
 rw[eval_ListComp]
 refine WA (use:=none) rfl hs (ut I.ok S hcap) S.kind S.names (thn (hi pins s σ H _ I h) fun v s1 h1=>thn h1 fun itv s2 h2=>?_)
 obtain⟨it,fp,tn,J,H2,rfl,I2,T,st2,f2,hW⟩:=h2
 refine oY (RR:=fun acc C=>compPost (model X.prog X.w) X.A X.xe none (EP X pins σ Q) acc C) hc S hcap hif he I2 T st2 f2 hW ?_
 intro D C H' s' hlt hns hne hfr I' back q
 obtain⟨m,hm⟩:=hns
 exact⟨m,hm,fun h' hs'=>⟨.ref D,H',back h' hs',rfl,q⟩⟩
def vf {elt iter:Expr}{ifs:List Expr}{x y:Str}{px py pos spos:Pos}{scope:Scope}{ys:List Str}{is:List Nat}{wi:TI}{tc:TT}{te:TE}{j:Nat}
  (hN:X.N.Nodup)(hj:X.N[j]?=some y)(hy:Loc X.env.scope y)
  (hc:X.calm=true)(S:fN scope x ys)(hcap:gu X scope ys is)(hi:PI X (.Name x px) iter wi)
  (hif:∀C s H fp,vz (bP X scope C (x::ys) s H fp) ifs tc)(he:∀C s H fp,PE (bP X scope C (x::ys) s H fp) elt te)
  (hsw:swapsWith (.ListComp elt [⟨.Name x px,iter,ifs,0⟩] scope pos) (some (.Name y py)) spos.line X.env=pure true:=by rfl)
  (hf:X.fn y=true\/X.env.scope.names.lookup y=some .local:=by first|exact .inl rfl|exact .inr rfl|assumption)
  (hs:∀x,foldedSetIterable iter X.env x=pure x:=by intro _;rfl):PS X (.Assign [.Name y py] (.ListComp elt [⟨.Name x px,iter,ifs,0⟩] scope pos) spos) (aN (ik is wi tc te) (aE j)):=by
 intro pins s σ H D I h
 rw[exec_Assign_Name_used _ _ _ _ hsw]
 refine pv (Us (pv ?_))
 show wpAny _ X.A (do let _<-comprehension (.ListComp elt [⟨.Name x px,iter,ifs,0⟩] scope pos) scope X.env _ (newList []) false (eval iter X.env) (some (assign (.Name y py) X.env))) _ _ s
 refine pv (Rq (WA (use:=some (assign (.Name y py) X.env)) (Q:=fun _ s'=>SP X pins D .next s') rfl hs (ut I.ok S hcap) S.kind S.names
  (thn (hi pins s σ H _ I h) fun v s1 h1=>thn h1 fun itv s2 h2=>?_)) (fun _ s' hq=>QL (QL hq)) fun _ _ e=>e)
 obtain⟨it,fp,tn,J,H2,rfl,I2,T,st2,f2,hW⟩:=h2
 refine oY (Q:=fun x H1=>aE j x σ H1 D.nx) (RR:=fun acc C=>compPost (model X.prog X.w) X.A X.xe (some (assign (.Name y py) X.env)) (fun _ s'=>SP X pins D .next s') acc C) hc S hcap hif he I2 T st2 f2 hW ?_
 intro Da C H' s' hlt hns hne hfr I' back q
 show wpAny _ X.A (assign (.Name y py) X.env (.ref Da)) _ _ _
 obtain⟨m,hm⟩:=hns
 refine Vr (ph I' hN hj hy (v:=.ref Da) rfl (fun s2 I2' ⟨a,hsb,ha⟩=>?_) hf)
 have hCa:C≠a:=by
  rcases ha with e|e
  ·rw[e];exact hne
  ·rintro rfl
   obtain⟨v,o,ho,hd⟩:=I'.cell y C e
   obtain⟨o2,es,ep,ho2,hd2,_⟩:=hm
   rw[ho]at ho2;cases ho2;rw[hd]at hd2;cases hd2
 refine⟨m,hm.sameBut hsb hCa,fun h' hs'=>?_⟩
 have hCn:∀y c,X.env.cells.lookup y=some c->c≠C:=fun z c e q=>by
  subst q
  obtain⟨v,o,ho,hd⟩:=I'.cell z c e
  obtain⟨o2,es,ep,ho2,hd2,_⟩:=hm
  rw[ho]at ho2;cases ho2;rw[hd]at hd2;cases hd2
 have I3:Inv X pins (σ.set j (some (.ref Da))) H' {s2 with heap:=h'}:=by
  refine I2'.step (g':=s2.gens) (d':=s2.drawn) (t':=s2.toks) (ch:=[C]) (fun b hb=>?_) (fun b o _ _ hb e _=>(hs'.2 b (fun z=>hb (by simp[z]))).trans e) (fun b o _ _ hb e _=>⟨o.slots,(hs'.2 b (fun z=>hb (by simp[z]))).trans e⟩) (fun _ _ _ _ n=>n) (fun b o hb e=>⟨o,(hs'.2 b (fun z=>hb (by simp[z]))).trans e⟩)
   (fun _ _ e=>e) (fun _ _ _ e=>e) (fun b ps e=>⟨#[],by rw[e];simp⟩) (fun m' hm'=>hm'.sameBut hs' (QU hne)) (fun b o e=>?_) I2'.bare
  ·have e:b=C:=by simpa using hb
   subst e
   exact⟨.inr hlt.1,hne,fun z c e=>hCn z c e,hlt.2⟩
  ·refine(I2'.hok b o e).stay (fun c w' hc q=>(hs'.2 c ?_).trans q) (fun _ q=>q) fun _ _ q=>q
   rintro rfl
   rcases hc with rfl|hc
   ·rw[hfr]at e;cases e
   ·rw[hfr]at hc;cases hc
 exact⟨_,H',I3,q⟩
end
def tyN (H:Hp):V->Option String
 |.non=>some "NoneType"
 |.bl _=>some "bool"
 |.int _=>some "int"
 |.str _=>some "str"
 |.ref a=>match H a with
  |some (.lst _)=>some "list"
  |some (.frz _ (.lst _))=>some "list"
  |some (.tup _)=>some "tuple"
  |some (.dK _)=>some "dict"
  |some (.dT _)=>some "dict"
  |_=>none
 |_=>none
def Fz {K:cW}{H:Hp}{x:V}{t:String}(h:tyN H x=some t):gd K H x (.type t):=by
 cases x with
 |non=>cases h;exact .non
 |bl b=>cases h;exact .bl b
 |int i=>cases h;exact .int i
 |str x=>cases h;exact .str x
 |byt _=>cases h
 |flt _=>cases h
 |ty _=>cases h
 |ref a=>
  unfold tyN at h
  dsimp only at h
  split at h
  ·rename_i e;cases h;exact .lst e
  ·rename_i e;cases h;exact .frz e
  ·rename_i e;cases h;exact .tup e
  ·rename_i e;cases h;exact .dK e
  ·rename_i e;cases h;exact .dT e
  ·cases h
def tyL:List String:=["NoneType","bool","int","str","list","tuple","dict"]
def GA {H:Hp}{x:V}{t:String}(h:tyN H x=some t):t∈tyL:=by
 cases x with
 |non=>cases h;decide
 |bl b=>cases h;decide
 |int i=>cases h;decide
 |str x=>cases h;decide
 |byt _=>cases h
 |flt _=>cases h
 |ty _=>cases h
 |ref a=>
  unfold tyN at h
  dsimp only at h
  split at h<;>first|(cases h;decide)|cases h
def isI (t T:String):Bool:=t==T||(T=="int"&&t=="bool")
def Gp (K:cW):∀t∈tyL,∀T∈["int","bool","str","tuple","list","dict"],Sl K (.type t) (.type T)=some (isI t T):=by
 intro t ht T hT
 simp only[tyL,QG,Rc,or_false]at ht hT
 rcases ht with rfl|rfl|rfl|rfl|rfl|rfl|rfl<;>rcases hT with rfl|rfl|rfl|rfl|rfl|rfl<;>(unfold Sl;first|rfl|decide+kernel|(simp only[W.kitCls];rfl))
section
variable {X:Cx}
def Ai:bS X (.builtin "isinstance") (fun xs H Q=>∃x T t,xs=[x,.ty T]/\T∈["int","bool","str","tuple","list","dict"]/\tyN H x=some t/\Q (.bl (isI t T)) H):=by
 intro pins s σ H xs us Q I r h
 obtain⟨x,T,t,rfl,hT,ht,q⟩:=h
 obtain⟨u,w',rfl,r1,r2⟩:=rf r
 cases r2
 exact xa I r1 (Fz ht) (Gp X.K t (GA ht) T hT) fun tk=>⟨.bl _,H,I.tok tk,rfl,q⟩
end
section
variable {X:Cx}
theorem ur:∀{bs:List Bool}{us:List tx},bc (bs.map V.bl) us->us=bs.map SO
 |[],_,.nil=>rfl
 |b::bs,_,.cons r t=>by
  have e:_=SO b:=r
  rw[ur t,RD,e]
def wV (bs:List Bool):(UW bs.length).all (fun i=>bs.getD i false)=bs.all id:=by
 rw[TD,So,So]
 constructor
 ·intro h b hb
  obtain⟨i,hi,e⟩:=Wx.mp hb
  have:=h i (UD.mpr hi)
  simp only[Rr,QQ hi,WN]at this
  rw[<-e];exact this
 ·intro h i hi
  have hi:=UD.mp hi
  simp only[Rr,QQ hi,WN]
  exact h _ (Vf hi)
def tP {prog:Rh}{w:RF}{A:RC}{bs:List Bool}:TruthOf prog w A (fun i v=>(bs.map SO).toArray[i]? =some v) (fun i=>bs.getD i false):=by
 intro i v s Q E hP hQ
 have hP:(bs.map SO)[i]? =some v:=by simpa using hP
 rw[Ro]at hP
 cases e:bs[i]? with
 |none=>rw[e]at hP;cases hP
 |some b=>
  rw[e]at hP
  cases hP
  have hQ':Q b s:=by
   have e2:bs.getD i false=b:=by rw[Rr,e];rfl
   have hQ2:Q (bs.getD i false) s:=hQ
   rw[e2]at hQ2;exact hQ2
  exact SA (a:=b) rfl hQ'
def yY (hc:X.calm=true):bS X (.builtin "all") (fun xs H Q=>∃(a:Addr)(bs:List Bool),xs=[.ref a]/\H a=some (.lst (bs.map V.bl))/\Q (.bl (bs.all id)) H):=by
 intro pins s σ H xs us Q I r h
 obtain⟨a,bs,rfl,hH,q⟩:=h
 obtain⟨u,rfl,ru⟩:=fU r
 cases ru
 obtain⟨z,its,n,rv,e⟩:=I.hok a _ hH
 have ei:=ur rv
 subst ei
 have hl:s.heap.IsList a (bs.map SO).toArray:=⟨_,e,rfl,_,rfl⟩
 refine call_all_walk (XR hl ?_)
 have hne:a≠s.heap.objs.size:=Rf (QV e)
 refine⟨s.heap.objs.size,_,_,_,_,_,_,rfl,Walks.list (by show X.A.handled=none;exact I.ok.hd hc) _ a hne (bs.map SO).toArray,⟨⟨_,QX _ rfl,rfl,rfl⟩,⟨_,Lt _ e,rfl,_,rfl⟩⟩,tP,fun h' tk hk=>?_⟩
 have e2:((bs.map SO).toArray).size=bs.length:=by simp
 rw[e2,wV]
 refine⟨.bl _,H,I.kept (t':=tk) fun b o hb=>hk b o ?_ (Lt _ hb),rfl,q⟩
 intro z
 have:b=s.heap.objs.size:=by simpa using z
 rw[this]at hb
 exact absurd (QV hb) (Ss _)
theorem ul:∀{xs:List Str}{us:List tx},bc (xs.map V.str) us->StrsAre us xs
 |[],_,.nil=>.nil
 |x::xs,_,.cons r t=>by
  obtain⟨tk,e⟩:=(show ∃t,_=Tz x t from r)
  rw[e]
  exact .cons _ _ (ul t)
def Cb:V->List V->Hp->VK->Prop:=fun x vs H Q=>∃(z:Str)(a:Addr)(xs:List Str),x=.str z/\vs=[.ref a]/\H a=some (.lst (xs.map V.str))/\(xs.map (·.length)).sum+xs.length*z.length<=16777216/\Q (.str (Txt.join z xs)) H
def DZ:MtM X "str.join" Cb:=by
 intro pins s σ H x vs v us Q I rx rv h
 obtain⟨z,a,xs,rfl,rfl,hH,hz,q⟩:=h
 obtain⟨t,rfl⟩:=(show ∃t,v=Tz z t from rx)
 obtain⟨u,rfl,ru⟩:=rv.one
 cases ru
 obtain⟨_,its,n,rv,e⟩:=I.hok a _ hH
 refine join_list (items:=its.toArray) ⟨_,e,rfl,_,rfl⟩ (by simpa using ul rv) hz fun t' k=>⟨.str _,H,I.tok k,⟨_,rfl⟩,q⟩
end
@[irreducible] def Sel (b:Bool)(A B:Prop):Prop:=if b=true then A else B
def Sel.mk {b:Bool}{A B:Prop}(h1:b=true->A)(h2:b=false->B):Sel b A B:=by
 unfold Sel
 cases b with
 |true=>exact h1 rfl
 |false=>exact h2 rfl
def Sel.t {A B:Prop}(h:A):Sel true A B:=.mk (fun _=>h) fun e=>by cases e
def Sel.f {A B:Prop}(h:B):Sel false A B:=.mk (fun e=>by cases e) fun _=>h
def Sel.dec {p A B:Prop}[Decidable p](h1:p->A)(h2:¬p->B):Sel (decide p) A B:=.mk (fun e=>h1 (of_decide_eq_true e)) fun e=>h2 (of_decide_eq_false e)
def Sel.ndec {p A B:Prop}[Decidable p](h1:¬p->A)(h2:p->B):Sel (!decide p) A B:=.mk (fun e=>h1 (by simpa using e)) fun e=>h2 (by simpa using e)
def Sel.yes {b:Bool}{A B:Prop}(e:b=true)(h:A):Sel b A B:=by rw[e];exact .t h
def Sel.no {b:Bool}{A B:Prop}(e:b=false)(h:B):Sel b A B:=by rw[e];exact .f h
def fv {b:Bool}{A B:Prop}(h:Sel b A B):if b=true then A else B:=by unfold Sel at h;exact h
def ac (i:Nat):TE:=fun σ H Q=>match σ[i]? with|some (some v)=>Q v H|_=>False
section
variable {X:Cx}
def PE.imp {e:Expr}{t t':TE}(h:PE X e t)(i:∀σ H Q,t' σ H Q->t σ H Q):PE X e t':=fun pins s σ H Q I q=>h pins s σ H Q I (i _ _ _ q)
def OpR.imp {f:tx->tx->Sem tx}{r r':R2}(h:OpR X f r)(i:∀x y H Q,r' x y H Q->r x y H Q):OpR X f r':=fun pins s σ H x y v u Q I rx ry q=>h pins s σ H x y v u Q I rx ry (i _ _ _ _ q)
def qv (i:Nat){x:Str}{pos:Pos}(hN:X.N[i]?=some x:=by rfl)(hv:Vis X.env.scope x:=by first|exact Or.inl rfl|exact Xg (Or.inl rfl)|exact Xg (Xg rfl))(hd:(x==("__debug__":Str))=false:=by decide)
  (hcd:(x==("__classdict__":Str))=false:=by decide):PE X (.Name x pos) (ac i):=(Iw hN hv hd hcd).imp fun σ H Q q=>by
 unfold ac at q
 split at q
 ·rename_i v e;exact⟨v,e,q⟩
 ·exact q.elim
def qgi {x:Str}{i:Int}{pos:Pos}(hm:∃t,X.mg x=some (.int i t))(hg:Gl X x:=by rfl)(hd:(x==("__debug__":Str))=false:=by decide):PE X (.Name x pos) (tC (.int i)):=by
 obtain⟨t,e⟩:=hm
 exact oq hg e ⟨t,rfl⟩ hd
def du:R2:=fun x y H Q=>match x,y with|.int i,.int j=>Q (.int (i- j)) H|_,_=>False
def dG:OpR X (binaryOp .Sub) du:=GQ.imp fun x y H Q q=>by
 unfold du at q
 split at q
 ·exact⟨_,_,rfl,rfl,q⟩
 ·exact q.elim
def Dv:OpR X (binaryOp .Mult) (rI XD fun i j=>.int (i*j)):=opI fun _ _ _ _ _ _ _ hc q=>mul_int q hc
def iB:R2:=fun x y H Q=>match x,y with
 |.int i,.int j=>XD i j/\Q (.int (i*j)) H
 |_,_=>False
def kj:OpR X (binaryOp .Mult) iB:=Dv.imp fun x y H Q q=>by
 unfold iB at q
 split at q
 ·exact⟨_,_,rfl,rfl,q.1,q.2⟩
 ·exact q.elim
def cK:R2:=fun x y H Q=>match x,y with|.int i,.int j=>0<j/\Q (.int (i%j)) H|_,_=>False
def dq:OpR X (binaryOp .Mod) cK:=Hl.imp fun x y H Q q=>by
 unfold cK at q
 split at q
 ·exact⟨_,_,rfl,rfl,q.1,q.2⟩
 ·exact q.elim
def Bm:R2:=fun x y H Q=>match x,y with|.int i,.int j=>(0<=j/\j<=1000000/\i.natAbs<2^64)/\Q (.int (i^j.toNat)) H|_,_=>False
def OW:OpR X (binaryOp .Pow) Bm:=GW.imp fun x y H Q q=>by
 unfold Bm at q
 split at q
 ·exact⟨_,_,rfl,rfl,q.1,q.2⟩
 ·exact q.elim
def iu:R2:=fun x y H Q=>match x,y with|.int i,.int j=>(0<=j/\j<=1000000/\i.natAbs<2^64)/\Q (.int (i*2^j.toNat)) H|_,_=>False
def kF:OpR X (binaryOp .LShift) iu:=Fh.imp fun x y H Q q=>by
 unfold iu at q
 split at q
 ·exact⟨_,_,rfl,rfl,q.1,q.2⟩
 ·exact q.elim
def uK:R2:=fun x y H Q=>match x,y with|.int i,.int j=>0<=j/\Q (.int (i/2^j.toNat)) H|_,_=>False
def Hm:OpR X (binaryOp .RShift) uK:=GB.imp fun x y H Q q=>by
 unfold uK at q
 split at q
 ·exact⟨_,_,rfl,rfl,q.1,q.2⟩
 ·exact q.elim
def sH:R2:=fun x y H Q=>match x,y with|.int i,.int j=>Q (.int (SQ i j)) H|_,_=>False
def zX:OpR X (binaryOp .BitXor) sH:=Fk.imp fun x y H Q q=>by
 unfold sH at q
 split at q
 ·exact⟨_,_,rfl,rfl,q⟩
 ·exact q.elim
def vR:R2:=fun x y H Q=>match x,y with|.int i,.int j=>Q (.int (Sn i j)) H|_,_=>False
def Ng:OpR X (binaryOp .BitAnd) vR:=Hf.imp fun x y H Q q=>by
 unfold vR at q
 split at q
 ·exact⟨_,_,rfl,rfl,q⟩
 ·exact q.elim
def mLt:R2:=fun x y H Q=>match x,y with|.int i,.int j=>Q (.bl (decide (i<j))) H|_,_=>False
def oLt:OpR X (compareOp .Lt) mLt:=La.imp fun x y H Q q=>by
 unfold mLt at q
 split at q
 ·exact⟨_,_,rfl,rfl,q⟩
 ·exact q.elim
def mLe:R2:=fun x y H Q=>match x,y with|.int i,.int j=>Q (.bl (decide (i<=j))) H|_,_=>False
def oLe:OpR X (compareOp .LtE) mLe:=Jv.imp fun x y H Q q=>by
 unfold mLe at q
 split at q
 ·exact⟨_,_,rfl,rfl,q⟩
 ·exact q.elim
def mGt:R2:=fun x y H Q=>match x,y with|.int i,.int j=>Q (.bl (decide (j<i))) H|_,_=>False
def oGt:OpR X (compareOp .Gt) mGt:=Kq.imp fun x y H Q q=>by
 unfold mGt at q
 split at q
 ·exact⟨_,_,rfl,rfl,q⟩
 ·exact q.elim
def mEq:R2:=fun x y H Q=>match x,y with
 |.int i,.int j=>Q (.bl (decide (i=j))) H
 |.str i,.str j=>Q (.bl (decide (i=j))) H
 |.bl i,.bl j=>Q (.bl (decide (i=j))) H
 |.non,.non=>Q (.bl true) H
 |.non,.int _=>Q (.bl false) H|.int _,.non=>Q (.bl false) H|.non,.bl _=>Q (.bl false) H|.bl _,.non=>Q (.bl false) H|.non,.str _=>Q (.bl false) H|.str _,.non=>Q (.bl false) H
 |.int _,.str _=>Q (.bl false) H|.str _,.int _=>Q (.bl false) H|.bl _,.str _=>Q (.bl false) H|.str _,.bl _=>Q (.bl false) H
 |_,_=>False
def kC {α:Type}[DecidableEq α]{f:α->V}(hf:∀a b,f a=f b->a=b)(a b:α):decide (f a=f b)=decide (a=b):=by
 by_cases h:a=b
 ·subst h;simp
 ·rw[decide_eq_false h,decide_eq_false fun e=>h (hf a b e)]
def oEq:OpR X (compareOp .Eq) mEq:=IJ.imp fun x y H Q q=>by
 unfold mEq at q
 split at q
 ·exact⟨rfl,by rw[kC (f:=V.int) fun _ _ e=>V.int.inj e];exact q⟩
 ·exact⟨rfl,by rw[kC (f:=V.str) fun _ _ e=>V.str.inj e];exact q⟩
 ·exact⟨rfl,by rw[kC (f:=V.bl) fun _ _ e=>V.bl.inj e];exact q⟩
 ·exact⟨rfl,by simpa using q⟩
 all_goals first|exact q.elim|exact⟨rfl,q⟩
def mNe:R2:=fun x y H Q=>match x,y with
 |.int i,.int j=>Q (.bl (!decide (i=j))) H
 |.str i,.str j=>Q (.bl (!decide (i=j))) H
 |.bl i,.bl j=>Q (.bl (!decide (i=j))) H
 |.non,.non=>Q (.bl false) H
 |.non,.int _=>Q (.bl true) H|.int _,.non=>Q (.bl true) H|.non,.bl _=>Q (.bl true) H|.bl _,.non=>Q (.bl true) H|.non,.str _=>Q (.bl true) H|.str _,.non=>Q (.bl true) H
 |.int _,.str _=>Q (.bl true) H|.str _,.int _=>Q (.bl true) H|.bl _,.str _=>Q (.bl true) H|.str _,.bl _=>Q (.bl true) H
 |_,_=>False
def oNe:OpR X (compareOp .NotEq) mNe:=Jm.imp fun x y H Q q=>by
 unfold mNe at q
 split at q
 ·exact⟨rfl,by rw[kC (f:=V.int) fun _ _ e=>V.int.inj e];exact q⟩
 ·exact⟨rfl,by rw[kC (f:=V.str) fun _ _ e=>V.str.inj e];exact q⟩
 ·exact⟨rfl,by rw[kC (f:=V.bl) fun _ _ e=>V.bl.inj e];exact q⟩
 ·exact⟨rfl,by simpa using q⟩
 all_goals first|exact q.elim|exact⟨rfl,q⟩
def zT:R2:=fun x y H Q=>match y with|.non=>Q (.bl (match x with|.non=>true|_=>false)) H|_=>False
def oIs:OpR X (compareOp .Is) zT:=GV.imp fun x y H Q q=>by
 unfold zT at q
 split at q
 ·refine⟨rfl,?_⟩
  cases x<;>simpa using q
 ·exact q.elim
def aU (t:TE):TT:=fun σ H Q=>t σ H fun x H'=>match x with|.bl k=>Q k H'|_=>False
def qtc {op:Xf}{r:R2}{a b:Expr}{ta tb:TE}{pos:Pos}(ho:OpR X (compareOp op) r)(ha:PE X a ta)(hb:PE X b tb)(hm:behindInMarks op b=false:=by first|exact ni _|rfl):PT X (.Compare a [op] [b] pos) (aU (tOp r ta tb)):=by
 intro pins s σ H Q I h
 refine wpAny_isTrue_Compare1 (thn (ha pins s σ H _ I h) fun v s1 ⟨x,H1,I1,r1,q1⟩=>thn (hb pins s1 σ H1 _ I1 q1) fun u s2 ⟨y,H2,I2,r2,q2⟩=>
  thn (ho pins s2 σ H2 x y v u _ I2 r1 r2 q2) fun c s3 ⟨z,H3,I3,r3,q3⟩=>?_) hm
 cases z<;>first|exact q3.elim|(cases r3;exact Si ⟨H3,I3,q3⟩)
def qc {op:Xf}{r:R2}{a b:Expr}{ta tb:TE}{pos:Pos}(ho:OpR X (compareOp op) r)(ha:PE X a ta)(hb:PE X b tb)(hm:behindInMarks op b=false:=by first|exact ni _|rfl):PE X (.Compare a [op] [b] pos) (tOp r ta tb):=Ee ho ha hb hm
def fo (r r':R2)(ta tb tc:TE):TE:=fun σ H Q=>ta σ H fun x H1=>tb σ H1 fun y H2=>r x y H2 fun z H3=>match z with
 |.bl k=>Sel k (tc σ H3 fun w' H4=>r' y w' H4 Q) (Q (.bl false) H3)
 |_=>False
def qch {op op':Xf}{r r':R2}{a b c:Expr}{ta tb tc:TE}{pos:Pos}(ho:OpR X (compareOp op) r)(ho':OpR X (compareOp op') r')(ha:PE X a ta)(hb:PE X b tb)(hc:PE X c tc)
  (hm:lastMarks [op,op'] [b,c]=false:=by with_unfolding_all rfl):PE X (.Compare a [op,op'] [b,c] pos) (fo r r' ta tb tc):=by
 intro pins s σ H Q I h
 refine Compare_chain (thn (ha pins s σ H _ I h) fun v s1 ⟨x,H1,I1,r1,q1⟩=>chain_link (thn (hb pins s1 σ H1 _ I1 q1) fun u s2 ⟨y,H2,I2,r2,q2⟩=>
  thn (ho pins s2 σ H2 x y v u _ I2 r1 r2 q2) fun d s3 ⟨z,H3,I3,r3,q3⟩=>?_)) hm
 cases z<;>first|exact q3.elim|skip
 rename_i k
 cases r3
 refine Si ?_
 have q3:=fv q3
 cases k with
 |false=>exact ite_ff ⟨.bl false,H3,I3,rfl,q3⟩
 |true=>exact ite_tt (chain_last (thn (hc pins s3 σ H3 _ I3 q3) fun w' s4 ⟨z',H4,I4,r4,q4⟩=>ho' pins s4 σ H4 y z' u w' Q I4 r2 r4 q4))
def Pg {op op':Xf}{r r':R2}{a b c:Expr}{ta tb tc:TE}{pos:Pos}(ho:OpR X (compareOp op) r)(ho':OpR X (compareOp op') r')(ha:PE X a ta)(hb:PE X b tb)(hc:PE X c tc)
  (hm:lastMarks [op,op'] [b,c]=false:=by with_unfolding_all rfl):PT X (.Compare a [op,op'] [b,c] pos) (aU (fo r r' ta tb tc)):=by
 intro pins s σ H Q I h
 refine isTrue_chain (thn (ha pins s σ H _ I h) fun v s1 ⟨x,H1,I1,r1,q1⟩=>test_link (thn (hb pins s1 σ H1 _ I1 q1) fun u s2 ⟨y,H2,I2,r2,q2⟩=>
  thn (ho pins s2 σ H2 x y v u _ I2 r1 r2 q2) fun d s3 ⟨z,H3,I3,r3,q3⟩=>?_)) hm
 cases z<;>first|exact q3.elim|skip
 rename_i k
 cases r3
 refine Si ?_
 have q3:=fv q3
 cases k with
 |false=>exact ite_ff ⟨H3,I3,q3⟩
 |true=>
  refine ite_tt (test_last (thn (hc pins s3 σ H3 _ I3 q3) fun w' s4 ⟨z',H4,I4,r4,q4⟩=>thn (ho' pins s4 σ H4 y z' u w' _ I4 r2 r4 q4) fun d' s5 ⟨z2,H5,I5,r5,q5⟩=>?_))
  cases z2<;>first|exact q5.elim|(cases r5;exact Si ⟨H5,I5,q5⟩)
def cw (K:cW)(t:TE):TT:=fun σ H Q=>t σ H fun x H'=>match x with
 |.bl k=>Q k H'
 |.non=>Q false H'
 |.int i=>Q (i !=0) H'
 |x=>∃k,IC K x H' k/\Q k H'
def qtb {e:Expr}{t:TE}(h:PE X e t)(he:∀whole,isTrue e X.env whole=(do let v<-whole;standAt e.pos;holding [v] (truthy v)):=by intro _;rfl):PT X e (cw X.K t):=by
 intro pins s σ H Q I q
 refine isTrue_plain (thn (h pins s σ H _ I q) fun v s1 ⟨x,H1,I1,r1,q1⟩=>EB pins s1 σ H1 x v Q I1 r1 ?_) (he _)
 cases x<;>first|exact⟨_,rfl,q1⟩|exact q1
def gO (t u:TT):TT:=fun σ H Q=>t σ H fun c H1=>Sel c (u σ H1 Q) (Q false H1)
def mOr (t u:TT):TT:=fun σ H Q=>t σ H fun c H1=>Sel c (Q true H1) (u σ H1 Q)
variable {a b c:Expr}{ta tb:TE}{tA tB':TT}{cH:List Expr}{pos:Pos}
def Ea (ha:PT X a tA):PW X (.BoolOp .And [a] pos) tA:=DM ha
def Iy (ha:PT X a tA):PW X (.BoolOp .Or [a] pos) tA:=EY ha
def Gz (ha:PT X a tA)(hb:PW X (.BoolOp .And (b::cH) pos) tB'):PW X (.BoolOp .And (a::b::cH) pos) (gO tA tB'):=by
 intro wh pins s σ H Q I h
 refine isTrue_and (thn (ha pins s σ H _ I h) fun c s1 ⟨H1,I1,q1⟩=>?_)
 have q1:=fv q1
 cases c with
 |true=>exact hb wh pins s1 σ H1 Q I1 q1
 |false=>exact⟨H1,I1,q1⟩
def ME (ha:PT X a tA)(hb:PW X (.BoolOp .Or (b::cH) pos) tB'):PW X (.BoolOp .Or (a::b::cH) pos) (mOr tA tB'):=by
 intro wh pins s σ H Q I h
 refine isTrue_or (thn (ha pins s σ H _ I h) fun c s1 ⟨H1,I1,q1⟩=>?_)
 have q1:=fv q1
 cases c with
 |true=>exact⟨H1,I1,q1⟩
 |false=>exact hb wh pins s1 σ H1 Q I1 q1
def dA (ta tb:TE):TE:=fun σ H Q=>ta σ H fun x H1=>match x with|.bl c=>Sel c (tb σ H1 Q) (Q (.bl false) H1)|_=>False
def AW (ta tb:TE):TE:=fun σ H Q=>ta σ H fun x H1=>match x with|.bl c=>Sel c (Q (.bl true) H1) (tb σ H1 Q)|_=>False
def vg (ta:TE):TE:=fun σ H Q=>ta σ H fun x H1=>match x with|.bl c=>Q (.bl (!c)) H1|_=>False
def Po (ha:PE X a ta)(hb:PE X (.BoolOp .And (b::cH) pos) tb):PE X (.BoolOp .And (a::b::cH) pos) (dA ta tb):=by
 intro pins s σ H Q I h
 refine BoolOp_and (thn (ha pins s σ H _ I h) fun v s1 ⟨x,H1,I1,r1,q1⟩=>?_)
 cases x<;>first|exact q1.elim|skip
 rename_i c
 cases r1
 refine Si ?_
 have q1:=fv q1
 cases c with
 |true=>exact hb pins s1 σ H1 Q I1 q1
 |false=>exact⟨.bl false,H1,I1,rfl,q1⟩
def qor (ha:PE X a ta)(hb:PE X (.BoolOp .Or (b::cH) pos) tb):PE X (.BoolOp .Or (a::b::cH) pos) (AW ta tb):=by
 intro pins s σ H Q I h
 refine BoolOp_or (thn (ha pins s σ H _ I h) fun v s1 ⟨x,H1,I1,r1,q1⟩=>?_)
 cases x<;>first|exact q1.elim|skip
 rename_i c
 cases r1
 refine Si ?_
 have q1:=fv q1
 cases c with
 |false=>exact hb pins s1 σ H1 Q I1 q1
 |true=>exact⟨.bl true,H1,I1,rfl,q1⟩
def JX (ha:PE X a ta):PE X (.UnaryOp .Not a pos) (vg ta):=by
 intro pins s σ H Q I h
 refine UnaryOp_ (thn (ha pins s σ H _ I h) fun v s1 ⟨x,H1,I1,r1,q1⟩=>?_)
 cases x<;>first|exact q1.elim|skip
 rename_i c
 cases r1
 exact not_of (Si ⟨.bl (!c),H1,I1,rfl,q1⟩)
def mIf (t:TT)(ta tb:TE):TE:=fun σ H Q=>t σ H fun c H1=>Sel c (ta σ H1 Q) (tb σ H1 Q)
def Ob {c:Expr}(hc:PT X c tA)(ha:PE X a ta)(hb:PE X b tb):PE X (.IfExp c a b pos) (mIf tA ta tb):=by
 intro pins s σ H Q I h
 refine wpAny_IfExp (thn (hc pins s σ H _ I h) fun d s1 ⟨H1,I1,q1⟩=>?_)
 have q1:=fv q1
 cases d with
 |true=>exact ha pins s1 σ H1 Q I1 q1
 |false=>exact hb pins s1 σ H1 Q I1 q1
def bh (c:TT)(t u:TS):TS:=fun D σ H=>c σ H fun b H1=>Sel b (t D σ H1) (u D σ H1)
def qif {c:Expr}{l m:List Stmt}{tc:TT}{t u:TS}(hc:PT X c tc)(ha:PSs X l t)(hb:PSs X m u):PS X (.If c l m pos) (bh tc t u):=by
 intro pins s σ H D I h
 refine wpAny_If (thn (hc pins s σ H _ I h) fun d s1 ⟨H1,I1,q1⟩=>?_)
 have q1:=fv q1
 cases d with
 |true=>exact ha pins s1 σ H1 D I1 q1
 |false=>exact hb pins s1 σ H1 D I1 q1
theorem Pd:bS X (.builtin "len") (fun xs H Q=>match xs with
  |[.str y]=>y.length<=sizeLine/\Q (.int y.length) H
  |[.ref p]=>(∃xs,SqL X.K H p xs/\Q (.int xs.length) H)\/(∃xs,SqT X.K H p xs/\Q (.int xs.length) H)\/∃kvs,H p=some (.dK kvs)/\Q (.int kvs.length) H
  |_=>False):=by
 intro pins s σ H xs us Q I r h
 split at h
 ·rename_i y
  exact mf pins s σ H _ us Q I r ⟨_,_,rfl,⟨h.1,rfl⟩,h.2⟩
 ·rename_i p
  rcases h with⟨ys,h1,h2⟩|⟨ys,h1,h2⟩|⟨kvs,h1,h2⟩
  ·exact mf pins s σ H _ us Q I r ⟨_,_,rfl,.inl ⟨ys,h1,rfl⟩,h2⟩
  ·exact mf pins s σ H _ us Q I r ⟨_,_,rfl,.inr ⟨ys,h1,rfl⟩,h2⟩
  ·exact xH pins s σ H _ us Q I r ⟨p,kvs,rfl,h1,h2⟩
 ·exact h.elim
end
section
variable {X:Cx}{tg:Expr}
def jd:V->Hp->VK->Prop:=fun x H Q=>match x with|.int i=>Q (.int (-i)) H|_=>False
def Qg:UnR X (unaryOp .USub) jd:=fun pins s σ H x v Q I rx q=>FH pins s σ H x v Q I rx (by
 unfold jd at q
 split at q
 ·exact⟨_,rfl,q⟩
 ·exact q.elim)
def HQ (K:cW):List V->Hp->VK->Prop:=fun xs H Q=>match xs with
 |[.str y]=>y.length<=sizeLine/\Q (.int y.length) H
 |[.ref p]=>(∃xs,SqL K H p xs/\Q (.int xs.length) H)\/(∃xs,SqT K H p xs/\Q (.int xs.length) H)\/∃kvs,H p=some (.dK kvs)/\Q (.int kvs.length) H
 |_=>False
def NP:bS X (.builtin "len") (HQ X.K):=Pd
def gR:List V->Hp->VK->Prop:=fun xs H Q=>match xs with
 |[x,.ty T]=>T∈["int","bool","str","tuple","list","dict"]/\∃t,tyN H x=some t/\Q (.bl (isI t T)) H
 |_=>False
def jp:bS X (.builtin "isinstance") gR:=fun pins s σ H xs us Q I r h=>by
 unfold gR at h
 split at h
 ·obtain⟨h1,t,h2,h3⟩:=h
  exact Ai pins s σ H _ us Q I r ⟨_,_,t,rfl,h1,h2,h3⟩
 ·exact h.elim
def Eu:List V->Hp->VK->Prop:=fun xs H Q=>∃(a:Addr)(bs:List Bool),xs=[.ref a]/\H a=some (.lst (bs.map V.bl))/\Q (.bl (bs.all id)) H
def Qo (hc:X.calm=true):bS X (.builtin "all") Eu:=yY hc
def vV (K:cW):List V->Hp->VK->Prop:=fun xs H Q=>∃p ys,xs=[.ref p]/\(SqL K H p ys\/SqT K H p ys)/\∀l,H l=none->Q (.ref l) (upd H l (.lst ys))
def Ca:bS X (.type "list") (vV X.K):=rG
def kJ (K:cW):List V->Hp->VK->Prop:=fun xs H Q=>∃p ys,xs=[.ref p]/\((SqL K H p ys/\∀l,H l=none->Q (.ref l) (upd H l (.tup ys)))\/(SqT K H p ys/\Q (.ref p) H))
def sj:bS X (.type "tuple") (kJ X.K):=pR
end
def EL:bootBuiltins "all"=some (.builtin "all"):=by decide+kernel
structure fO (J:It)(n:Nat)(it:Nat->V)(Pv:Hp->Prop):Prop where
 go:∀i H,i<n->Pv H->J.go i H
 yld:∀i H x H',i<n->Pv H->J.yld i H x H'->H'=H/\x=it i
 stop:∀H,Pv H->J.stop n H
def fO.list {K:cW}{a:Addr}{xs:List V}(d:V):fO (Itl K a) xs.length (fun i=>xs.getD i d) (fun H=>SqL K H a xs)where
 go:=fun i H hi h=>⟨xs,xs[i],h,by simp[hi]⟩
 yld:=fun i H x H' hi h y=>⟨y.1,by have:=y.2 xs h;rw[Rr,this];rfl⟩
 stop:=fun H h=>⟨xs,h,gV _⟩
def fO.tuple {K:cW}{a:Addr}{xs:List V}(d:V):fO (Itt K a) xs.length (fun i=>xs.getD i d) (fun H=>SqT K H a xs)where
 go:=fun i H hi h=>⟨xs,xs[i],h,by simp[hi]⟩
 yld:=fun i H x H' hi h y=>⟨y.1,by have:=y.2 xs h;rw[Rr,this];rfl⟩
 stop:=fun H h=>⟨xs,h,gV _⟩
def fO.range {lo:Int}{n:Nat}:fO (Itr lo n) n (fun i=>.int (lo+i)) (fun _=>True)where
 go:=fun i H hi _=>hi
 yld:=fun i H x H' hi _ y=>y
 stop:=fun H _=>gV _
def CWd (n:Nat)(Pv:Nat->List V->Hp->Prop):Nat->Nat->List V->Hp->Prop:=fun i m ys H=>i<=n/\m=n- i/\Pv i ys H
def CWd.next {n i:Nat}{Pv:Nat->List V->Hp->Prop}{ys:List V}{H:Hp}(hi:i<n)(h:Pv (i+1) ys H):∃m',m'<n- i/\CWd n Pv (i+1) m' ys H:=⟨n- (i+1),by omega,hi,rfl,h⟩
def kZ {J:It}{n:Nat}{it:Nat->V}{Pk:Hp->Prop}{σ:St}{is:List Nat}{tc:TT}{te:TE}{Q:VK}{H1:Hp}{D:Addr}(T:fO J n it Pk)(Pv:Nat->List V->Hp->Prop)
  (hk:∀i ys H,i<=n->Pv i ys H->Pk H)(h0:Pv 0 [] (upd H1 D (.lst [])))
  (hs:∀i ys H2,i<n->Pv i ys H2->tc (some (it i)::bX σ is) H2 fun b H4=>if b=true then
   te (some (it i)::bX σ is) H4 fun y H5=>H5 D=some (.lst ys)/\ys.length<sizeLine/\∃m',m'<n- i/\CWd n Pv (i+1) m' (ys++[y]) (upd H5 D (.lst (ys++[y])))
   else ∃m',m'<n- i/\CWd n Pv (i+1) m' ys H4)
  (hd:∀ys H,Pv n ys H->Q (.ref D) H):Cg is tc te σ D J H1 Q:=by
 refine⟨CWd n Pv,⟨n,QK _,rfl,h0⟩,?_⟩
 rintro i m ys H2 ⟨hi,rfl,p⟩
 by_cases hlt:i<n
 ·refine .inr ⟨T.go i H2 hlt (hk i ys H2 hi p),fun x H3 y=>?_⟩
  obtain⟨rfl,rfl⟩:=T.yld i H2 x H3 hlt (hk i ys H2 hi p) y
  exact hs i ys _ hlt p
 ·have e:i=n:=by omega
  subst e
  exact .inl ⟨T.stop H2 (hk _ ys H2 hi p),hd ys H2 p⟩
def au.upd {H:Hp}{p:Addr}{o:HO}(h:H p=none):au H (upd H p o):=fun b u e=>by rw[ap (aq e h)];exact e
def wN {xs:List V}{i:Int}(h0:0<=i)(h1:i<xs.length):atI xs i=some (xs.getD i.toNat .non):=by
 unfold atI ixN
 rw[if_pos h0,if_pos h1]
 show xs[i.toNat]?=_
 rw[Rr]
 have:i.toNat<xs.length:=by omega
 rw[QQ this];rfl
def cf:Expr->Bool
 |.Starred _ _=>false
 |_=>true
def bj {e:Expr}(h:cf e=true)(cH:List Expr)(env:Env):starEach (e::cH) env=(false,eval e env)::starEach cH env:=by
 cases e<;>first|rfl|cases h
def bz:List Expr->Bool
 |[]=>true
 |e::r=>cf e&&bz r
theorem cj:∀{es:List Expr}{env:Env}{pos:Pos},bz es=true->(backTo pos (starEach es env)).any (·.1)=false
 |[],_,_,_=>rfl
 |e::r,env,pos,h=>by
  have h:(cf e&&bz r)=true:=h
  rw[Rt]at h
  rw[bj h.1]
  show(false||(backTo pos (starEach r env)).any (·.1))=false
  rw[cj h.2];rfl
section
variable {X:Cx}{e:Expr}{es:List Expr}{te:TE}{t:TA}{pos:Pos}
def Dh (ha:PE X e te)(hr:PA X es t)(hs:cf e=true:=by rfl):PA X (e::es) (af te t):=DG ha hr (bj hs es X.env)
variable {x:Str}{p apos cpos:Pos}{id T:String}{r:List V->Hp->VK->Prop}
def Dw (hc:bS X (.builtin id) r)(hg:Gl X x)(hm:X.mg x=none)(hv:bootBuiltins x=some (.builtin id))(ha:PA X (e::es) t)(hn:x≠"__name__":=by decide)(hdb:(x==("__debug__":Str))=false:=by decide)
  (hs:bz (e::es)=true:=by rfl):PE X (.Call (.Name x p) (e::es) [] pos) (tCB r t):=
 have h:(cf e&&bz es)=true:=hs
 zW hc hg hm hv ha hn hdb (bj (Gt.mp h).1 es X.env) (cj (Gt.mp h).2)
def zE (hc:bS X (.type T) r)(hg:Gl X x)(hm:X.mg x=none)(hv:bootBuiltins x=some (.type T))(ha:PA X (e::es) t)(hn:x≠"__name__":=by decide)(hdb:(x==("__debug__":Str))=false:=by decide)
  (hs:bz (e::es)=true:=by rfl):PE X (.Call (.Name x p) (e::es) [] pos) (tCB r t):=
 have h:(cf e&&bz es)=true:=hs
 xk hc hg hm hv ha hn hdb (bj (Gt.mp h).1 es X.env) (cj (Gt.mp h).2)
variable {CX:CXT}{k:Nat}{f C:Addr}{fd:QD}{ps:List Str}{sp:Sp}{dvs:List V}{ds:List tx}{E:XK}{m:Str}{o:Expr}{ta:TE}
theorem lL:∀{es:List Expr}{env:Env}{pos:Pos},bz es=true->(backTo pos (starEach es env)).all (fun x=> !x.1)=true
 |[],_,_,_=>rfl
 |e::r,env,pos,h=>by
  have h:(cf e&&bz r)=true:=h
  rw[Rt]at h
  rw[bj h.1]
  show(true&&(backTo pos (starEach r env)).all (fun x=> !x.1))=true
  rw[lL h.2];rfl
variable {to:TE}{name:Str}{rm:V->List V->Hp->VK->Prop}
def OR (pa:Vt T)(slot:Slot T name id)(hty:typeOf (.builtin id)=pure (.type "method_descriptor"))(hm:MtR X id rm)(ho:PE X o to)(ha:PA X (e::es) t)
  (hbase:attributeBase o name X.env (eval o X.env)=eval o X.env:=by rfl)(hfew:decide ((e::es).length<30)=true:=by rfl)
  (hline:(apos.endLine==cpos.line)=true:=by rfl)(hs:bz (e::es)=true:=by rfl):PE X (.Call (.Attribute o name apos) (e::es) [] cpos) (tBM X.K T rm to t):=
 have h:(cf e&&bz es)=true:=hs
 Ky pa slot hty hm ho ha hbase (by rw[lL hs];exact hfew) hline (bj (Gt.mp h).1 es X.env) (cj (Gt.mp h).2)
end
structure QE (X:Cx)(e:Expr)(t:TE):Prop where
 out:PE X e t
structure QT (X:Cx)(e:Expr)(t:TT):Prop where
 out:PT X e t
structure QW (X:Cx)(e:Expr)(t:TT):Prop where
 out:PW X e t
structure QA (X:Cx)(e:List Expr)(t:TA):Prop where
 out:PA X e t
structure QS (X:Cx)(e:Stmt)(t:TS):Prop where
 out:PS X e t
structure QSs (X:Cx)(e:List Stmt)(t:TS):Prop where
 out:PSs X e t
structure QI (X:Cx)(tg iter:Expr)(t:TI):Prop where
 out:PI X tg iter t
structure QO (X:Cx)(e:Option Expr)(t:TO):Prop where
 out:PO X e t
structure zk (X:Cx)(e:List Expr)(t:TT):Prop where
 out:vz X e t
section
variable {X:Cx}{a b c e o:Expr}{es cH:List Expr}{ta tb tc te to tv:TE}{tA tB':TT}{t:TA}{pos apos cpos p:Pos}{x y:Str}
def aa (i:Nat)(hN:X.N[i]?=some x:=by rfl)(hv:Vis X.env.scope x:=by first|exact Or.inl rfl|exact Xg (Or.inl rfl)|exact Xg (Xg rfl))(hd:(x==("__debug__":Str))=false:=by decide)
 (hcd:(x==("__classdict__":Str))=false:=by decide):QE X (.Name x pos) (ac i):=⟨qv i hN hv hd hcd⟩
def yw {i:Int}(hm:∃t,X.mg x=some (.int i t))(hg:Gl X x:=by rfl)(hd:(x==("__debug__":Str))=false:=by decide):QE X (.Name x pos) (tC (.int i)):=⟨qgi hm hg hd⟩
def jI {T:String}(hm:X.mg x=none)(hv:bootBuiltins x=some (.type T))(hg:Gl X x:=by rfl)(hn:x≠"__name__":=by decide)(hd:(x==("__debug__":Str))=false:=by decide):QE X (.Name x pos) (tC (.ty T)):=⟨DR hg hm hv rfl hn hd⟩
def ar {i:Int}{j}:QE X (.Constant (.int i) j pos) (tC (.int i)):=⟨FU⟩
def gx {b:Bool}{j}:QE X (.Constant (.bool b) j pos) (tC (.bl b)):=⟨KF⟩
def dO {j}:QE X (.Constant .none j pos) (tC .non):=⟨Gj⟩
def bo {z:Str}{j}:QE X (.Constant (.str z) j pos) (tC (.str z)):=⟨FI⟩
def lf (ha:QE X a ta):QE X (.UnaryOp .USub a pos) (tUn jd ta):=⟨Mx Qg ha.out⟩
def Ja (ha:QE X a ta):QE X (.UnaryOp .Not a pos) (vg ta):=⟨JX ha.out⟩
def aF {op:Operator}{r:R2}(ho:OpR X (binaryOp op) r)(ha:QE X a ta)(hb:QE X b tb):QE X (.BinOp a op b pos) (tOp r ta tb):=⟨Mh ho ha.out hb.out⟩
def fW {op:Xf}{r:R2}(ho:OpR X (compareOp op) r)(ha:QE X a ta)(hb:QE X b tb)(hm:behindInMarks op b=false:=by first|exact ni _|rfl):QE X (.Compare a [op] [b] pos) (tOp r ta tb):=⟨qc ho ha.out hb.out hm⟩
def gI {op op':Xf}{r r':R2}(ho:OpR X (compareOp op) r)(ho':OpR X (compareOp op') r')(ha:QE X a ta)(hb:QE X b tb)(hc:QE X c tc)(hm:lastMarks [op,op'] [b,c]=false:=by with_unfolding_all rfl):
 QE X (.Compare a [op,op'] [b,c] pos) (fo r r' ta tb tc):=⟨qch ho ho' ha.out hb.out hc.out hm⟩
def eY {op}(h:QE X a ta):QE X (.BoolOp op [a] pos) ta:=⟨HW h.out⟩
def dS (ha:QE X a ta)(hb:QE X (.BoolOp .And (b::cH) pos) tb):QE X (.BoolOp .And (a::b::cH) pos) (dA ta tb):=⟨Po ha.out hb.out⟩
def OS (ha:QE X a ta)(hb:QE X (.BoolOp .Or (b::cH) pos) tb):QE X (.BoolOp .Or (a::b::cH) pos) (AW ta tb):=⟨qor ha.out hb.out⟩
def jL (hc:QT X c tA)(ha:QE X a ta)(hb:QE X b tb):QE X (.IfExp c a b pos) (mIf tA ta tb):=⟨Ob hc.out ha.out hb.out⟩
def ai:QA X [] aj:=⟨EI⟩
def ae (ha:QE X e te)(hr:QA X es t)(hs:cf e=true:=by rfl):QA X (e::es) (af te t):=⟨Dh ha.out hr.out hs⟩
def cJ (h:QA X es t):QE X (.List es pos) (dm t):=⟨Hq h.out⟩
def bU {x1}(h:QA X es t):QE X (.Tuple es x1 pos) (bZ t):=⟨Ew h.out⟩
def bp {r:R2}(hr:IxR X r)(ha:QE X a ta)(hb:QE X b tb)(hs:uh b):QE X (.Subscript a b pos) (tOp r ta tb):=⟨Nz hr ha.out hb.out hs⟩
def oE:QO X none iT:=⟨DB⟩
def iN (h:QE X e te):QO X (some e) (jv te):=⟨DC h.out⟩
def lw {r:V->Option Int->Option Int->Hp->VK->Prop}{lo hi:Option Expr}{tl th:TO}{p2:Pos}(hr:SlR X r)(he:QE X e te)(hl:QO X lo tl)(hu:QO X hi th):QE X (.Subscript e (.Slice lo hi none p2) pos) (tSl r te tl th):=⟨yF hr he.out hl.out hu.out⟩
variable {id T:String}{r:List V->Hp->VK->Prop}
def bu (hc:bS X (.builtin id) r)(hm:X.mg x=none)(hv:bootBuiltins x=some (.builtin id))(ha:QA X (e::es) t)(hg:Gl X x:=by rfl)(hn:x≠"__name__":=by decide)(hdb:(x==("__debug__":Str))=false:=by decide)
 (hs:bz (e::es)=true:=by rfl):QE X (.Call (.Name x p) (e::es) [] pos) (tCB r t):=⟨Dw hc hg hm hv ha.out hn hdb hs⟩
def eZ (hc:bS X (.type T) r)(hm:X.mg x=none)(hv:bootBuiltins x=some (.type T))(ha:QA X (e::es) t)(hg:Gl X x:=by rfl)(hn:x≠"__name__":=by decide)(hdb:(x==("__debug__":Str))=false:=by decide)
 (hs:bz (e::es)=true:=by rfl):QE X (.Call (.Name x p) (e::es) [] pos) (tCB r t):=⟨zE hc hg hm hv ha.out hn hdb hs⟩
variable {CX:CXT}{k:Nat}{f C:Addr}{fd:QD}{ps:List Str}{sp:Sp}{dvs:List V}{ds:List tx}{E:XK}{m:Str}
variable {name:Str}{rm:V->List V->Hp->VK->Prop}
def fT (pa:Vt T)(slot:Slot T name id)(hty:typeOf (.builtin id)=pure (.type "method_descriptor"))(hm:MtR X id rm)(ho:QE X o to)(ha:QA X (e::es) t)
 (hbase:attributeBase o name X.env (eval o X.env)=eval o X.env:=by rfl)(hfew:decide ((e::es).length<30)=true:=by rfl)
 (hline:(apos.endLine==cpos.line)=true:=by rfl)(hs:bz (e::es)=true:=by rfl):QE X (.Call (.Attribute o name apos) (e::es) [] cpos) (tBM X.K T rm to t):=⟨OR pa slot hty hm ho.out ha.out hbase hfew hline hs⟩
def aS {op:Xf}{r:R2}(ho:OpR X (compareOp op) r)(ha:QE X a ta)(hb:QE X b tb)(hm:behindInMarks op b=false:=by first|exact ni _|rfl):QT X (.Compare a [op] [b] pos) (aU (tOp r ta tb)):=⟨qtc ho ha.out hb.out hm⟩
def zJ {op op':Xf}{r r':R2}(ho:OpR X (compareOp op) r)(ho':OpR X (compareOp op') r')(ha:QE X a ta)(hb:QE X b tb)(hc:QE X c tc)(hm:lastMarks [op,op'] [b,c]=false:=by with_unfolding_all rfl):
 QT X (.Compare a [op,op'] [b,c] pos) (aU (fo r r' ta tb tc)):=⟨Pg ho ho' ha.out hb.out hc.out hm⟩
def bM (h:QE X e te)(he:∀whole,isTrue e X.env whole=(do let v<-whole;standAt e.pos;holding [v] (truthy v)):=by intro _;rfl):QT X e (cw X.K te):=⟨qtb h.out he⟩
def cq (ha:QT X a tA):QT X (.UnaryOp .Not a pos) (dL tA):=⟨HB ha.out⟩
def x_w (h:QW X e tA):QT X e tA:=⟨h.out.pt⟩
def fK (ha:QT X a tA):QW X (.BoolOp .And [a] pos) tA:=⟨Ea ha.out⟩
def gp (ha:QT X a tA):QW X (.BoolOp .Or [a] pos) tA:=⟨Iy ha.out⟩
def gn (ha:QT X a tA)(hb:QW X (.BoolOp .And (b::cH) pos) tB'):QW X (.BoolOp .And (a::b::cH) pos) (gO tA tB'):=⟨Gz ha.out hb.out⟩
def ij (ha:QT X a tA)(hb:QW X (.BoolOp .Or (b::cH) pos) tB'):QW X (.BoolOp .Or (a::b::cH) pos) (mOr tA tB'):=⟨ME ha.out hb.out⟩
variable {tg iter elt:Expr}{wi:TI}{ifs:List Expr}{scope:Scope}{ys:List Str}{is:List Nat}{px py spos:Pos}
def mn (hm:X.mg "range"=none)(ha:QA X [a] t)(hg:Gl X "range":=by rfl)(hs:cf a=true:=by rfl):QI X tg (.Call (.Name "range" p) [a] [] pos) (mR t):=⟨xR hg hm ha.out (bj hs [] X.env)⟩
def yI (hm:X.mg "range"=none)(ha:QA X [a,b] t)(hg:Gl X "range":=by rfl)(hs:cf a=true:=by rfl)(hs2:cf b=true:=by rfl):QI X tg (.Call (.Name "range" p) [a,b] [] pos) (vF t):=
 ⟨ya hg hm ha.out (by rw[bj hs,bj hs2];rfl) (bj hs2 [] X.env)⟩
def mU:zk X [] (fun _ H Q=>Q true H):=⟨rfl⟩
def xG {tcn:TT}(S:fN scope x ys)(hcap:gu X scope ys is)(hi:QI X (.Name x px) iter wi)
 (hif:∀C s H fp,zk (bP X scope C (x::ys) s H fp) ifs tcn)(he:∀C s H fp,QE (bP X scope C (x::ys) s H fp) elt te)(hc:X.calm=true:=by rfl)
 (hs:∀x,foldedSetIterable iter X.env x=pure x:=by intro _;rfl):QE X (.ListComp elt [⟨.Name x px,iter,ifs,0⟩] scope pos) (ik is wi tcn te):=⟨Dn hc S hcap hi.out (fun C s H fp=>(hif C s H fp).out) (fun C s H fp=>(he C s H fp).out) hs⟩
variable {st:Stmt}{sts:List Stmt}{tS uS:TS}{i j:Nat}
def aP:QSs X [] aY:=⟨Ek⟩
def ao (h:QS X st tS):QSs X [st] tS:=⟨Eo h.out⟩
def ak (h1:QS X st tS)(h2:QSs X sts uS):QSs X (st::sts) (ax tS uS):=⟨yl h1.out h2.out⟩
def az (h:QE X e te):QS X (.Return (some e) pos) (aC te):=⟨Fc h.out⟩
def aX {l m:List Stmt}(hc:QT X c tA)(ha:QSs X l tS)(hb:QSs X m uS):QS X (.If c l m pos) (bh tA tS uS):=⟨qif hc.out ha.out hb.out⟩
def aR (i:Nat)(hN:X.N.Nodup)(he:QE X e te)(hi:X.N[i]?=some x:=by rfl)(hx:Loc X.env.scope x:=by first|exact .inl rfl|exact .inr rfl)
 (hs:swapsWith e (some (.Name x p)) pos.line X.env=pure false:=by rfl)(hf:X.fn x=true\/X.env.scope.names.lookup x=some .local:=by first|exact .inl rfl|exact .inr rfl):QS X (.Assign [.Name x p] e pos) (aN te (aE i)):=⟨HE hN hi hx he.out hs hf⟩
def oV (j:Nat){tcn:TT}(hN:X.N.Nodup)(S:fN scope x ys)(hcap:gu X scope ys is)(hi:QI X (.Name x px) iter wi)
  (hif:∀C s H fp,zk (bP X scope C (x::ys) s H fp) ifs tcn)(he:∀C s H fp,QE (bP X scope C (x::ys) s H fp) elt te)(hc:X.calm=true:=by rfl)
  (hj:X.N[j]?=some y:=by rfl)(hy:Loc X.env.scope y:=by first|exact .inl rfl|exact .inr rfl)
  (hsw:swapsWith (.ListComp elt [⟨.Name x px,iter,ifs,0⟩] scope pos) (some (.Name y py)) spos.line X.env=pure true:=by rfl)(hf:X.fn y=true\/X.env.scope.names.lookup y=some .local:=by first|exact .inl rfl|exact .inr rfl)
  (hs:∀x,foldedSetIterable iter X.env x=pure x:=by intro _;rfl):QS X (.Assign [.Name y py] (.ListComp elt [⟨.Name x px,iter,ifs,0⟩] scope pos) spos) (aN (ik is wi tcn te) (aE j)):=
 ⟨vf hN hj hy hc S hcap hi.out (fun C s H fp=>(hif C s H fp).out) (fun C s H fp=>(he C s H fp).out) hsw hf hs⟩
def bT (h:QE X e te)(hs:swapsWith e none pos.line X.env=pure false:=by rfl):QS X (.Expr e pos) (bK te):=⟨DA h.out hs⟩
def lE (i:Nat)(hN:X.N.Nodup){body:List Stmt}(hi:QI X (.Name x px) iter wi)(hb:QSs X body tS)(hp:Xd (model X.prog X.w) X.A X.env X.xe)(hc:X.calm=true:=by rfl)
 (hj:X.N[i]?=some x:=by rfl)(hx:Loc X.env.scope x:=by first|exact .inl rfl|exact .inr rfl)(hf:X.fn x=true\/X.env.scope.names.lookup x=some .local:=by first|exact .inl rfl|exact .inr rfl)
 (hs:∀x,foldedSetIterable iter X.env x=pure x:=by intro _;rfl):QS X (.For (.Name x px) iter body [] pos) (kL wi (aE i) tS):=⟨Fo hp hc hi.out (oh hN hj hx hf) hb.out hs⟩
def ux {body:List Stmt}(hc:QT X c tA)(hb:QSs X body tS)(hp:Xd (model X.prog X.w) X.A X.env X.xe):QS X (.While c body [] pos) (mJ tA tS):=⟨Aq hp hc.out hb.out⟩
def dI:QS X st dJ:=⟨zQ⟩
end
end L2
namespace HT
open PySem PyProof.Rows
structure Hd0 (vs:Array tx)(a0:tx):Prop where
 a:vs[0]?=some a0
 b:vs[2]?=some .none
structure TrD (h base:Heap)(e:Addr)(cls a0:tx)(d:Option Addr)(fl:tx):Prop where
 ex:∃oe vs T oT ts,h.get? e=some oe/\oe.cls=cls/\oe.dict=d/\oe.data=.fields vs/\Hd0 vs a0/\vs[1]?=some (.ref T)/\base.get? T=none/\T≠e/\h.get? T=some oT/\oT.data=.fields ts/\ts[3]?=some fl
structure oN (base:Heap)(l:List Env)(e:Addr)(cls a0:tx)(d:Option Addr)(fl:tx)(h h':Heap):Prop where
 st:base.StaysIn h'
 fr:h'.FunFrames base l
 tr:TrD h' base e cls a0 d fl
 up:h.UpToSlots h'
def nX (o:Obj)(f:Array tx->Array tx):(Uh f o).dict=o.dict:=by
 obtain⟨c,d,dt,sl⟩:=o
 cases dt<;>rfl
section
variable {M:Model}{A:RC}{E:tx->If->Prop}{s:If}{base:Heap}{env:Env}{outer:List Env}{L e:Addr}{cls a0:tx}{d:Option Addr}{Q:Unit->If->Prop}
def wo {oe:Obj}{vs:Array tx}{head:tx}{hadNext:Bool}(hfr:A.frames=some (env::outer))(hl:s.heap.FunFrames base (env::outer))(hf:env.frame=some L)(he:s.heap.get? e=some oe)(hc:oe.cls=cls)(hdc:oe.dict=d)
  (hkb:base.StaysIn s.heap)(hen:base.get? e=none)(hd:oe.data=.fields vs)(hsz:1<vs.size)(h0:Hd0 vs a0)(h:∀h',oN base (env::outer) e cls a0 d (rawInt L) s.heap h'->Q () {s with heap:=h'}):
  wpAny M A (do let a<-frameOf env;let pl<-entryPlaceOf L hadNext;let b<-Vz head a .none (rawInt L) .none pl;setField (.ref e) 1 b) Q E s:=by
 have nfr:e∉(env::outer).filterMap (·.frame):=fun hm=>by
  obtain⟨_,o,ho,hnf⟩:=hl.mem hm
  rw[he]at ho
  cases ho
  exact hnf vs hd
 refine pv (wpAny_frameOf_fun hfr hl hf fun h1 s1=>pv (wpAny_entryPlaceOf fun pl hpl=>?_))
 unfold Vz newFields
 refine pv (RM ?_ (hpl.sizeOk5 _ _ _ _ _))
 generalize hts:([head,Re L,.none,rawInt L,.none]++(if pl.isEmpty then VC 6 SN else pl)).toArray=ts
 have hts3:ts[3]?=some (rawInt L):=by rw[<-hts];first|(simp;done)|(rcases hpl with rfl|⟨_,_,_,_,_,_,_,rfl⟩<;>simp)
 have e1:h1.get? e=some oe:=(s1.2.1 e nfr).trans he
 have kb1:base.StaysIn h1:=fun b o hbo=>(s1.2.1 b fun hm=>by rw[(hl.mem hm).1]at hbo;cases hbo).trans (hkb b o hbo)
 have e2:(h1.push {cls:=.type "traceback",dict:=none,data:=.fields ts}).get? e=some oe:=Lt _ e1
 have nT:h1.objs.size≠e:=Nat.ne_of_gt (QV e1)
 refine wpAny_setField e2 hd hsz (h _ ?_)
 have d3:=UT hd (·.setIfInBounds 1 (Re h1.objs.size))
 have e3:=SL (Uh (·.setIfInBounds 1 (Re h1.objs.size))) e2 (Wv d3)
 have kp:∀b o,b≠e->h1.get? b=some o->((h1.push {cls:=.type "traceback",dict:=none,data:=.fields ts}).update e (Uh (·.setIfInBounds 1 (Re h1.objs.size)))).get? b=some o:=fun b o nb eb=>
  (RS _ _ (QU nb)).trans (Lt _ eb)
 have T3:=(RS (h1.push {cls:=.type "traceback",dict:=none,data:=.fields ts}) (Uh (·.setIfInBounds 1 (Re h1.objs.size))) (QU nT)).trans (QX h1 rfl)
 have nr:∀b o,s.heap.get? b=some o->(∀vs,o.data≠.fields vs)->b≠e:=fun b o hb hnf q=>by
  rw[q,he]at hb
  cases hb
  exact hnf vs hd
 refine⟨fun b o hbo=>kp b o (fun q=>by rw[q,hen]at hbo;cases hbo) (kb1 b o hbo),hl.of_keeps fun b o hb hnf=>?_,⟨_,_,h1.objs.size,_,ts,e3,(Obj.cls_mapFields ..).trans hc,(nX ..).trans hdc,d3,?_,by simp[hsz],kb1.fresh,nT,T3,rfl,hts3⟩,fun b o hb hnf=>?_⟩
 ·obtain⟨sl,hs⟩:=s1.2.2 b o hb
  exact⟨_,kp b _ (nr b o hb hnf) hs,rfl⟩
 ·exact⟨by rw[UV (by decide)];exact h0.a,by rw[UV (by decide)];exact h0.b⟩
 ·obtain⟨sl,hs⟩:=s1.2.2 b o hb
  exact⟨sl,kp b _ (nr b o hb hnf) hs⟩
def tO {oe:Obj}{vs:Array tx}(hfr:A.frames=some (env::outer))(hl:s.heap.FunFrames base (env::outer))(hf:env.frame=some L)(he:s.heap.get? e=some oe)(hc:oe.cls=cls)(hdc:oe.dict=d)(hkb:base.StaysIn s.heap)(hen:base.get? e=none)
  (hd:oe.data=.fields vs)(h1:vs[1]?=some .none)(h0:Hd0 vs a0)(h:∀h',oN base (env::outer) e cls a0 d (rawInt L) s.heap h'->Q () {s with heap:=h'}):wpAny M A (noteFrame (.ref e) env) Q E s:=by
 unfold noteFrame
 simp only[hf]
 refine pv (Se he hd h1 ?_)
 rw[if_neg (by decide)]
 exact wo hfr hl hf he hc hdc hkb hen hd (TK.mp h1).1 h0 h
def setD {fl fl':tx}{T:Addr}{oT:Obj}{ts:Array tx}{l:List Env}{oe:Obj}{vs:Array tx}(hkb:base.StaysIn s.heap)(hl:s.heap.FunFrames base l)(he:s.heap.get? e=some oe)(hc:oe.cls=cls)(hdc:oe.dict=d)(hd:oe.data=.fields vs)(h0:Hd0 vs a0)
  (h1:vs[1]?=some (.ref T))(nT:base.get? T=none)(Te:T≠e)(hT:s.heap.get? T=some oT)(hdT:oT.data=.fields ts)(h3:ts[3]?=some fl)(h:∀h',oN base l e cls a0 d fl' s.heap h'->(h'.get? e=some oe)->Q () {s with heap:=h'}):wpAny M A (setField (.ref T) 3 fl') Q E s:=by
 have sz:=(TK.mp h3).1
 have ot:∀b,b≠T->(s.heap.update T (Uh (·.setIfInBounds 3 fl'))).get? b=s.heap.get? b:=fun b hb=>RS _ _ (QU hb)
 have nr:∀b o,s.heap.get? b=some o->(∀vs,o.data≠.fields vs)->b≠T:=fun b o hb hnf q=>by
  rw[q,hT]at hb
  cases hb
  exact hnf ts hdT
 refine wpAny_setField hT hdT sz (h _ ⟨fun b o hbo=>(ot b fun q=>by rw[q,nT]at hbo;cases hbo).trans (hkb b o hbo),hl.of_keeps fun b o hb hnf=>⟨o,(ot b (nr b o hb hnf)).trans hb,rfl⟩,
  ⟨oe,vs,T,_,_,(ot e (QU Te)).trans he,hc,hdc,hd,h0,h1,nT,Te,SL _ hT (Wv (UT hdT _)),UT hdT _,by simp[sz]⟩,fun b o hb hnf=>⟨o.slots,(ot b (nr b o hb hnf)).trans hb⟩⟩ ((ot e (QU Te)).trans he))
def oi {fl:tx}{l:List Env}(hkb:base.StaysIn s.heap)(hl:s.heap.FunFrames base l)(ht:TrD s.heap base e cls a0 d fl)(h:∀h',oN base l e cls a0 d .none s.heap h'->Q () {s with heap:=h'}):wpAny M A (setFlight (.ref e) none) Q E s:=by
 obtain⟨oe,vs,T,oT,ts,he,hc,hdc,hd,h0,h1,nT,Te,hT,hdT,h3⟩:=ht.ex
 unfold setFlight
 refine pv (Se he hd h1 ?_)
 rw[if_pos (show(Re T !=SN)=true from by simp)]
 exact setD hkb hl he hc hdc hd h0 h1 nT Te hT hdT h3 fun h' n _=>h h' n
def vq (hfr:A.frames=some (env::outer))(hl:s.heap.FunFrames base (env::outer))(hf:env.frame=some L)(ht:TrD s.heap base e cls a0 d .none)(hkb:base.StaysIn s.heap)(hen:base.get? e=none)
  (h:∀h',oN base (env::outer) e cls a0 d (rawInt L) s.heap h'->Q () {s with heap:=h'}):wpAny M A (noteFrame (.ref e) env) Q E s:=by
 obtain⟨oe,vs,T,oT,ts,he,hc,hdc,hd,h0,h1,nT,Te,hT,hdT,h3⟩:=ht.ex
 unfold noteFrame
 simp only[hf]
 refine pv (Se he hd h1 ?_)
 rw[if_pos (show(Re T !=SN)=true from by simp)]
 refine pv (Se hT hdT h3 ?_)
 rw[if_neg (show ¬((SN==rawInt L)=true)from by simp[rawInt])]
 refine pv (setD (fl':=.none) hkb hl he hc hdc hd h0 h1 nT Te hT hdT h3 fun h' n he'=>?_)
 exact wo (s:={s with heap:=h'}) hfr n.fr hf he' hc hdc n.st hen hd (TK.mp h1).1 h0 fun h2 n2=>h h2 ⟨n2.st,n2.fr,n2.tr,n.up.trans n2.up⟩
def sQ {oe:Obj}{vs:Array tx}(hfr:A.frames=some (env::outer))(hl:s.heap.FunFrames base (env::outer))(hf:env.frame=some L)(he:s.heap.get? e=some oe)(hc:oe.cls=cls)(hdc:oe.dict=d)(hkb:base.StaysIn s.heap)(hen:base.get? e=none)
  (hd:oe.data=.fields vs)(h1:vs[1]?=some .none)(h0:Hd0 vs a0)(h:∀h',oN base outer e cls a0 d .none s.heap h'->Q () {s with heap:=h'}):wpAny M A (leaving env (.ref e)) Q E s:=by
 unfold leaving
 refine pv (tO hfr hl hf he hc hdc hkb hen hd h1 h0 fun h' n=>?_)
 obtain⟨n1,⟨_,_,n2⟩,n3,n4⟩:=n
 exact oi (s:={s with heap:=h'}) n1 n2 n3 fun h2 m=>h h2 ⟨m.st,m.fr,m.tr,n4.trans m.up⟩
end
end HT
namespace L2
open PySem PySem.Spec PyProof.Rows
abbrev veM:List tx:=[.type "ValueError",.type "Exception",.type "BaseException",.type "object"]
def jh (K:cW)(C D:Addr):Option Bool:=match K.lookup C with
 |some ⟨_,_,.cls cd,_⟩=>some (cd.mro.contains (.ref D))
 |_=>none
def sW (K:cW)(C:Addr):Bool:=match K.lookup C with
 |some ⟨.type "type",_,.cls cd,sl⟩=>(match cd.mro,sl.toList with
  |.ref C'::bm,[_,_,_,_,some (.builtin n),_]=>C'==C&&n=="ValueError.__new__"&& !cd.hasDel&&W.tailIn K veM bm&&W.nsOkIn K cd.ns
  |_,_=>false)
 |_=>false
def fF (K:cW)(C:Addr):Prop:=sW K C=true
def gl (K:cW)(C:Addr):Prop:=Ya K C veM "ValueError.__new__"=true
def gl.ok {K:cW}{C:Addr}(q:gl K C):fF K C:=by
 unfold gl Ya at q
 unfold fF sW
 split at q
 ·rename_i dd cd sl ho
  split at q
  ·rename_i C' bm k0 k1 k2 k3 n k5 hm hs
   rw[ho]
   simp only[hm,hs]
   simp only[Rt]at q⊢
   exact q.1
  ·cases q
 ·cases q
def oA {K:cW}{h:Heap}{C:Addr}(X:K.In h)(q:fF K C):
  ∃bm N nm qn bs hdct sn sub ab col dd k0 k1 k2 k3 k5 mN,h.get? C=some (excClassObj nm qn C N bs bm hdct sn sub ab col dd k0 k1 k2 k3 k5 "ValueError.__new__")/\h.Ns N mN/\(gl K C->mN "__init__"=none)/\OwnTail h veM bm/\
   ∀D,jh K C D=some ((Re C::bm).contains (.ref D)):=by
 have q2:=q
 unfold fF sW at q
 split at q
 ·rename_i dd cd sl ho
  split at q
  ·rename_i C' bm k0 k1 k2 k3 n k5 hm hs
   simp only[Rt,beq_iff_eq,Bool.not_eq_true']at q
   obtain⟨⟨⟨⟨rfl,rfl⟩,hdel⟩,ht⟩,hok⟩:=q
   obtain⟨nm,bs,mro,ns,qn,hd,sn,sub,ab,col,del⟩:=cd
   dsimp only at hm hdel hok
   subst hm hdel
   have hsl:sl=#[k0,k1,k2,k3,some (.builtin "ValueError.__new__"),k5]:=by
    obtain⟨l⟩:=sl
    simp only at hs
    rw[hs]
   subst hsl
   refine⟨bm,ns,nm,qn,bs,hd,sn,sub,ab,col,dd,k0,k1,k2,k3,k5,_,X _ _ ho,.of_isNs (W.isNs_of_in X hok),fun r=>?_,W.tail_of_in X ht,fun D=>?_⟩
   ·unfold gl Ya at r
    rw[ho]at r
    simp only[Rt,beq_iff_eq]at r
    exact W.nsMap_none_of_in X hok r.2
   ·unfold jh
    rw[ho]
  ·cases q
 ·cases q
def oB {M:Model}{A:RC}{E:tx->If->Prop}{s:If}{K:cW}{C D e:Addr}{oe:Obj}{Q:Bool->If->Prop}{b:Bool}(X:K.In s.heap)(hC:fF K C)(hD:fF K D)(he:s.heap.get? e=some oe)(hcls:oe.cls=.ref C)
  (hs:jh K C D=some b)(hq:Q b s):wpAny M A (excMatches (.ref e) (.ref D)) Q E s:=by
 obtain⟨bm,N,nm,qn,bs,hdct,sn,sub,ab,col,dd,k0,k1,k2,k3,k5,mN,oC,_,_,_,hsub⟩:=oA X hC
 obtain⟨bm',N',nm',qn',bs',hdct',sn',sub',ab',col',dd',k0',k1',k2',k3',k5',mN',oD,_,_,T',_⟩:=oA X hD
 have hb:(Re C::bm).contains (.ref D)=b:=QZ ((hsub D).symm.trans hs)
 have hbase:(Re D::bm').contains (.type "BaseException")=true:=by
  rw[List.contains_cons,T'.hasType (X:="BaseException") (b:=true) (by decide+kernel),Bool.or_true]
 have f:=tc_notTuple
 obtain⟨hp,g,d,t,os⟩:=s
 unfold excMatches
 repeat (first|(with_reducible refine XS he ?_;rw[hcls])|with_reducible refine XS oD ?_ |(with_reducible refine Xu oC ?_;rw[hb])|(with_reducible refine Xu oD ?_;rw[hbase])|wp_step)
 all_goals first|exact hq|(cases b<;>first|exact hq|(repeat (first|exact hq|wp_step)))
structure Fly (P:Rh)(w:RF)(l:List Env)(H:Hp)(s:If)(cls fl:tx)(a:Addr)(d:Option Addr)(H':Hp)(s':If):Prop where
 os:s'.os=s.os
 bare:Uu s'.gens
 un:Un (frs l) [] H H' s.heap s'.heap
 hok:HOk P w H' s'.heap
 new:s.heap.get? a=none
 free:H' a=none
 tr:∃oe vs a0 T oT ts,s'.heap.get? a=some oe/\oe.cls=cls/\oe.dict=d/\oe.data=.fields vs/\HT.Hd0 vs a0/\vs[1]?=some (.ref T)/\T≠a/\s'.heap.get? T=some oT/\oT.data=.fields ts/\ts[3]?=some fl/\s.heap.get? T=none/\H' T=none
def CX1 (P:Rh)(w:RF):CXT:=fun outer H s E e s'=>∃a C d H',e=.ref a/\Fly P w outer H s (.ref C) .none a d H' s'/\E (.ref C) d H'
def jn {P:Rh}{w:RF}{H:Hp}{h:Heap}{a:Addr}{o:HO}(x:bx P w H h a o):∃u,h.get? a=some u:=by
 cases o with
 |lst xs=>obtain⟨_,_,_,_,e⟩:=x;exact⟨_,e⟩
 |tup xs=>obtain⟨_,_,_,p⟩:=x;obtain⟨o,e,_⟩:=p;exact⟨_,e⟩
 |dK kvs=>obtain⟨_,_,_,_,o,_,_,e,_⟩:=x;exact⟨_,e⟩
 |dT kvs=>obtain⟨_,_,_,_,o,_,_,e,_⟩:=x;exact⟨_,e⟩
 |set S n=>obtain⟨o,_,_,_,e,_⟩:=x;exact⟨_,e⟩
 |ins C dx fs=>obtain⟨_,_,_,e,_⟩:=x;exact⟨_,e⟩
 |own y=>exact x
 |xd fs=>obtain⟨_,⟨_,_,_,e,_⟩,_⟩:=x;exact⟨_,e⟩
 |rng lo hi=>obtain⟨_,_,_,e⟩:=x;exact⟨_,e⟩
 |frz ob u=>obtain⟨e,_⟩:=x;exact⟨_,e⟩
 |tbl ps=>exact⟨_,(show h.get? a=some _ from x)⟩
 |met f y=>exact⟨_,(show h.get? a=some _ from x)⟩
 |ext φ=>obtain⟨_,e,_⟩:=x;exact e
section
variable {P:Rh}{w:RF}{l:List Env}{H H':Hp}{s s':If}{cls fl fl':tx}{a:Addr}{d:Option Addr}{base:Heap}
def fZ (h:Heap)(l:List Env)(a T:Addr):Heap:=W.hideAll h (a::T::frs l)
def Fly.frames (F:Fly P w l H s cls fl a d H' s')(ff:s.heap.FunFrames base l)(frf:∀b∈frs l,H b=none):s'.heap.FunFrames base l:=by
 have all:∀(k:List Env),(∀b∈frs k,b∈frs l)->s.heap.FunFrames base k->s'.heap.FunFrames base k:=by
  intro k
  induction k with
  |nil=>intro _ _;trivial
  |cons env r ih=>
   intro hs hl
   obtain⟨hk,⟨L,o,hf,hn,ho,hd⟩,hr⟩:=hl
   have hL:L∈frs l:=hs L (by unfold frs;rw[RN,hf];exact Rb)
   obtain⟨sl,e⟩:=F.un.slot L o ho (frf L hL) hL (by simp)
   exact⟨hk,⟨L,_,hf,hn,e,hd⟩,ih (fun b hb=>hs b (by unfold frs;rw[RN,hf];exact QN _ hb)) hr⟩
 exact all l (fun _ hb=>hb) ff
theorem jX {h B B':Heap}:∀{k:List Env},h.FunFrames B k->(∀b∈frs k,B'.get? b=none)->h.FunFrames B' k
 |[],_,_=>trivial
 |env::r,⟨hk,⟨L,o,hf,hn,ho,hd⟩,hr⟩,hb=>⟨hk,⟨L,o,hf,hb L (by unfold frs;rw[RN,hf];exact Rb),ho,hd⟩,jX hr fun b h=>hb b (by unfold frs;rw[RN,hf];exact QN _ h)⟩
def Fly.moved (F:Fly P w l H s cls fl a d H' s')(ff:s.heap.FunFrames base l)(frf:∀b∈frs l,H b=none)(ffs:∀b∈frs l,H' b=none){T:Addr}{oT:Obj}(hT0:s.heap.get? T=none)(hT1:H' T=none){h':Heap}{a0:tx}
  (st:(fZ s'.heap l a T).StaysIn h')(up:s'.heap.UpToSlots h')(tr:HT.TrD h' (fZ s'.heap l a T) a cls a0 d fl'):Fly P w l H s cls fl' a d H' {s' with heap:=h'}:=by
 have kp:∀b o,s'.heap.get? b=some o->b≠a->b≠T->b∉frs l->h'.get? b=some o:=fun b o e h1 h2 h3=>st b o (Ul _ e (by simp[h1,h2,h3]))
 have ff':=F.frames ff frf
 have nf:∀b∈frs l,∀o,s'.heap.get? b=some o->∀vs,o.data≠.fields vs:=fun b hb o e vs z=>by
  obtain⟨_,o',ho,hd⟩:=ff'.mem hb
  rw[e]at ho;cases ho
  exact hd vs z
 have old:∀b o,s.heap.get? b=some o->b≠a/\b≠T:=fun b o e=>⟨fun z=>(by rw[z,F.new]at e;cases e),fun z=>(by rw[z,hT0]at e;cases e)⟩
 refine⟨F.os,F.bare,⟨fun b o e n hb hx=>?_,fun b o e n hb hx=>?_,F.un.free,fun b o e hx=>?_,F.un.tups,F.un.frzs,F.un.tbls⟩,fun b o e=>?_,F.new,F.free,?_⟩
 ·exact kp b o (F.un.keep b o e n hb hx) (old b o e).1 (old b o e).2 hb
 ·obtain⟨sl,e1⟩:=F.un.slot b o e n hb hx
  obtain⟨sl',e2⟩:=up b _ e1 (nf b hb _ e1)
  exact⟨sl',e2⟩
 ·obtain⟨o',e1⟩:=F.un.there b o e hx
  by_cases hb:b∈frs l
  ·obtain⟨sl',e2⟩:=up b _ e1 (nf b hb _ e1)
   exact⟨_,e2⟩
  ·exact⟨o',kp b o' e1 (old b o e).1 (old b o e).2 hb⟩
 ·refine(F.hok b o e).stay (fun c u hc q=>kp c u q ?_ ?_ ?_) (fun _ q=>q) fun _ _ q=>q
  ·rintro rfl
   rcases hc with r|r
   ·rw[<-r,F.free]at e;cases e
   ·rw[F.free]at r;cases r
  ·rintro rfl
   rcases hc with r|r
   ·rw[<-r,hT1]at e;cases e
   ·rw[hT1]at r;cases r
  ·intro hm
   rcases hc with r|r
   ·rw[<-r,ffs _ hm]at e;cases e
   ·rw[ffs _ hm]at r;cases r
 ·obtain⟨oe,vs,T',oT',ts,he,hc,hdc,hd,h0,h1,hn,hne,hT',hdT,h3⟩:=tr.ex
  have key:s'.heap.get? T'=none\/T'=T:=by
   cases q:s'.heap.get? T' with
   |none=>exact .inl rfl
   |some o=>
    refine .inr (RL fun hz=>?_)
    by_cases hf:T'∈frs l
    ·obtain⟨sl',e2⟩:=up T' o q (nf T' hf o q)
     rw[hT']at e2;cases e2
     exact nf T' hf o q ts hdT
    ·have:(fZ s'.heap l a T).get? T'=some o:=Ul _ q (by simp[hz,hne,hf])
     rw[hn]at this;cases this
  refine⟨oe,vs,a0,T',oT',ts,he,hc,hdc,hd,h0,h1,hne,hT',hdT,h3,?_,?_⟩
  ·rcases key with z|z
   ·cases q:s.heap.get? T' with
    |none=>rfl
    |some o=>
     obtain⟨o',e⟩:=F.un.there T' o q (by simp)
     rw[z]at e;cases e
   ·rw[z];exact hT0
  ·rcases key with z|z
   ·cases q:H' T' with
    |none=>rfl
    |some o=>
     obtain⟨o1,e1⟩:=jn (F.hok T' o q)
     rw[z]at e1;cases e1
   ·rw[z];exact hT1
end
section
variable {X:Cx}{pins:List (Addr×Obj)}{σ:St}{H H':Hp}{s s':If}{cls fl:tx}{a:Addr}{d:Option Addr}
def Fly.inv (I:Inv X pins σ H s)(F:Fly X.prog X.w X.stack H s cls fl a d H' s'):Inv X pins σ H' s':=I.call' (ch:=[]) F.os F.un F.hok F.bare fun b z=>absurd z (by simp)
def Fly.up (I:Inv X pins σ H s)(hex:X.ex=[])(F:Fly X.prog X.w X.stack H s cls fl a d H' s'):Fly X.prog X.w X.outer X.H₀ X.s₀ cls fl a d H' s':=by
 have I2:=F.inv I
 have back:∀b,s.heap.get? b=none->X.s₀.heap.get? b=none:=fun b e=>by
  cases q:X.s₀.heap.get? b with
  |none=>rfl
  |some o=>
   obtain⟨o',e'⟩:=I.base.there b o q (by rw[hex];simp)
   rw[e]at e';cases e'
 obtain⟨oe,vs,a0,T,oT,ts,h1,h2,hd,h3,h4,h5,h6,h7,h8,h9,h10,h11⟩:=F.tr
 have b:=I2.base
 rw[hex]at b
 exact⟨I2.os,I2.bare,b,I2.hok,back a F.new,F.free,oe,vs,a0,T,oT,ts,h1,h2,hd,h3,h4,h5,h6,h7,h8,h9,back T h10,h11⟩
def Fly.flying (I:Inv X pins σ H s)(F:Fly X.prog X.w X.stack H s cls .none a d H' s'):∃T a0,s.heap.get? T=none/\H' T=none/\(fZ s'.heap X.stack a T).StaysIn s'.heap/\(fZ s'.heap X.stack a T).get? a=none/\s'.heap.FunFrames (fZ s'.heap X.stack a T) X.stack/\
  HT.TrD s'.heap (fZ s'.heap X.stack a T) a cls a0 d .none:=by
 obtain⟨oe,vs,a0,T,oT,ts,h1,h2,hd,h3,h4,h5,h6,h7,h8,h9,h10,h11⟩:=F.tr
 exact⟨T,a0,h10,h11,fun b o e=>WJ _ e,Tv _ (by simp),jX (F.frames I.stack I.stkFree) fun b hb=>Tv _ (by simp[hb]),⟨oe,vs,T,oT,ts,h1,h2,hd,h3,h4,h5,Tv _ (by simp),h6,h7,h8,h9⟩⟩
end
structure wg (P:Rh)(w:RF)(l:List Env)(H:Hp)(s:If)(cls:tx)(a:Addr)(d:Option Addr)(H':Hp)(s':If):Prop where
 os:s'.os=s.os
 bare:Uu s'.gens
 un:Un (frs l) [] H H' s.heap s'.heap
 hok:HOk P w H' s'.heap
 new:s.heap.get? a=none
 free:H' a=none
 tr:∃oe vs a0,s'.heap.get? a=some oe/\oe.cls=cls/\oe.dict=d/\oe.data=.fields vs/\HT.Hd0 vs a0/\vs[1]?=some .none
section
variable {P:Rh}{w:RF}{l:List Env}{H H':Hp}{s s':If}{cls fl':tx}{a:Addr}{d:Option Addr}{base:Heap}
def pI (un:Un (frs l) [] H H' s.heap s'.heap)(ff:s.heap.FunFrames base l)(frf:∀b∈frs l,H b=none):s'.heap.FunFrames base l:=by
 have all:∀(k:List Env),(∀b∈frs k,b∈frs l)->s.heap.FunFrames base k->s'.heap.FunFrames base k:=by
  intro k
  induction k with
  |nil=>intro _ _;trivial
  |cons env r ih=>
   intro hs hl
   obtain⟨hk,⟨L,o,hf,hn,ho,hd⟩,hr⟩:=hl
   have hL:L∈frs l:=hs L (by unfold frs;rw[RN,hf];exact Rb)
   obtain⟨sl,e⟩:=un.slot L o ho (frf L hL) hL (by simp)
   exact⟨hk,⟨L,_,hf,hn,e,hd⟩,ih (fun b hb=>hs b (by unfold frs;rw[RN,hf];exact QN _ hb)) hr⟩
 exact all l (fun _ hb=>hb) ff
def wg.moved (F:wg P w l H s cls a d H' s')(ff:s.heap.FunFrames base l)(frf:∀b∈frs l,H b=none)(ffs:∀b∈frs l,H' b=none){h':Heap}{a0:tx}
  (st:(fZ s'.heap l a a).StaysIn h')(up:s'.heap.UpToSlots h')(tr:HT.TrD h' (fZ s'.heap l a a) a cls a0 d fl'):Fly P w l H s cls fl' a d H' {s' with heap:=h'}:=by
 have kp:∀b o,s'.heap.get? b=some o->b≠a->b∉frs l->h'.get? b=some o:=fun b o e h1 h3=>st b o (Ul _ e (by simp[h1,h3]))
 have ff':=pI F.un ff frf
 have nf:∀b∈frs l,∀o,s'.heap.get? b=some o->∀vs,o.data≠.fields vs:=fun b hb o e vs z=>by
  obtain⟨_,o',ho,hd⟩:=ff'.mem hb
  rw[e]at ho;cases ho
  exact hd vs z
 have old:∀b o,s.heap.get? b=some o->b≠a:=fun b o e z=>by rw[z,F.new]at e;cases e
 refine⟨F.os,F.bare,⟨fun b o e n hb hx=>?_,fun b o e n hb hx=>?_,F.un.free,fun b o e hx=>?_,F.un.tups,F.un.frzs,F.un.tbls⟩,fun b o e=>?_,F.new,F.free,?_⟩
 ·exact kp b o (F.un.keep b o e n hb hx) (old b o e) hb
 ·obtain⟨sl,e1⟩:=F.un.slot b o e n hb hx
  obtain⟨sl',e2⟩:=up b _ e1 (nf b hb _ e1)
  exact⟨sl',e2⟩
 ·obtain⟨o',e1⟩:=F.un.there b o e hx
  by_cases hb:b∈frs l
  ·obtain⟨sl',e2⟩:=up b _ e1 (nf b hb _ e1)
   exact⟨_,e2⟩
  ·exact⟨o',kp b o' e1 (old b o e) hb⟩
 ·refine(F.hok b o e).stay (fun c u hc q=>kp c u q ?_ ?_) (fun _ q=>q) fun _ _ q=>q
  ·rintro rfl
   rcases hc with r|r
   ·rw[<-r,F.free]at e;cases e
   ·rw[F.free]at r;cases r
  ·intro hm
   rcases hc with r|r
   ·rw[<-r,ffs _ hm]at e;cases e
   ·rw[ffs _ hm]at r;cases r
 ·obtain⟨oe,vs,T',oT',ts,he,hc,hdc,hd,h0,h1,hn,hne,hT',hdT,h3⟩:=tr.ex
  have key:s'.heap.get? T'=none:=by
   cases q:s'.heap.get? T' with
   |none=>rfl
   |some o=>
    by_cases hf:T'∈frs l
    ·obtain⟨sl',e2⟩:=up T' o q (nf T' hf o q)
     rw[hT']at e2;cases e2
     exact(nf T' hf o q ts hdT).elim
    ·have:(fZ s'.heap l a a).get? T'=some o:=Ul _ q (by simp[hne,hf])
     rw[hn]at this;cases this
  refine⟨oe,vs,a0,T',oT',ts,he,hc,hdc,hd,h0,h1,hne,hT',hdT,h3,?_,?_⟩
  ·cases q:s.heap.get? T' with
   |none=>rfl
   |some o=>
    obtain⟨o',e⟩:=F.un.there T' o q (by simp)
    rw[key]at e;cases e
  ·cases q:H' T' with
   |none=>rfl
   |some o=>
    obtain⟨o1,e1⟩:=jn (F.hok T' o q)
    rw[key]at e1;cases e1
end
def eA (CX:CXT)(X:Cx)(E:St->XK):Prop:=∀(pins:List (Addr×Obj))(σ:St)(H:Hp)(s:If)(e:tx)(s':If),Inv X pins σ H s->CX X.stack H s (E σ) e s'->X.xe e s'
def wx (X:Cx)(E:St->XK):Prop:=∀(pins:List (Addr×Obj))(σ:St)(H:Hp)(s:If)(C a:Addr)(d:Option Addr)(H2:Hp)(s2:If),Inv X pins σ H s->wg X.prog X.w X.stack H s (.ref C) a d H2 s2->E σ (.ref C) d H2->X.xe (.ref a) s2
def ay {P:Rh}{w:RF}{X:Cx}:eA (CX1 P w) X (fun _=>E0):=fun pins σ H s e s' I ⟨_,_,_,_,_,_,h⟩=>h.elim
section
variable {P:Rh}{w:RF}{K:cW}{mg:Str->Option tx}{base:Heap}{N:List Str}{qual:Str}{scope:Scope}{f:Addr}{cd:tx}{A:RC}{outer:List Env}{s:If}{H:Hp}{E:XK}
def wO:wx (fw (CX1 P w) P w K mg base N qual scope f cd A outer s H E) (fun _=>E):=by
 intro pins σ H1 s1 C a d H2 s2 I F hE
 have I2:Inv (fw (CX1 P w) P w K mg base N qual scope f cd A outer s H E) pins σ H2 s2:=I.call' (ch:=[]) F.os F.un F.hok F.bare fun b z=>absurd z (by simp)
 obtain⟨oe,vs,a0,he,hc,hdc,hd,h0,h1⟩:=F.tr
 refine HT.sQ I.ok.frames (jX (B':=fZ s2.heap (fw (CX1 P w) P w K mg base N qual scope f cd A outer s H E).stack a a) (pI F.un I.stack I.stkFree) fun b hb=>Tv _ (QN _ (QN _ hb))) rfl he hc hdc (fun b o e=>WJ _ e) (Tv _ (by simp)) hd h1 h0 fun h' n=>?_
 have F2:=F.moved I.stack I.stkFree I2.stkFree n.st n.up n.tr
 exact⟨a,C,d,H2,rfl,F2.up I rfl,hE⟩
def LL {X:Cx}{pins:List (Addr×Obj)}{σ:St}{H:Hp}{s:If}{C a:Addr}{h1:Heap}(I:Inv X pins σ H s)(hm:Heap.MadeExcOf s.heap h1 a (.ref C) []):wg X.prog X.w X.stack H s (.ref C) a none H {s with heap:=h1}:=by
 obtain⟨t,ht,_,_⟩:=hm.there
 refine⟨rfl,I.bare,Un.kept hm.keeps,I.hok.kept hm.keeps,hm.new,?_,⟨_,_,.ref t,ht,rfl,rfl,rfl,⟨rfl,rfl⟩,rfl⟩⟩
 cases q:H a with
 |none=>rfl
 |some o=>
  obtain⟨u,e'⟩:=jn (I.hok a o q)
  rw[hm.new]at e';cases e'
end
def aD (sp:Sp)(E:St->XK)(t:TA):TE:=fun σ H Q=>t σ H fun vs H1=>sp vs H1 Q (E σ)
section
variable {X:Cx}{CX:CXT}{k:Nat}{f:Addr}{fd:QD}{ps:List Str}{sp:Sp}{E:St->XK}{x:Str}{p pos:Pos}{e:Expr}{es:List Expr}{t:TA}
def gK {pins:List (Addr×Obj)}{σ:St}{H:Hp}{s:If}{Q:VK}{us:List tx}{vs:List V}(F:aG X.prog X.w X.K X.mg X.base CX k f fd ps sp)(hr:bB k X.A)(hb:aL X.K fd ps [])(hx:eA CX X E)
  (I:Inv X pins σ H s)(r:bc vs us)(h:sp vs H Q (E σ)):wpAny (model X.prog X.w) X.A (call (.ref f) us) (EP X pins σ Q) X.xe s:=by
 have hl:us.length=ps.length:=by rw[<-r.length];exact F.len _ _ _ _ h
 have hb':=hb s us I.kIn (by rw[RO];exact hl)
 rw[RO]at hb'
 refine WB (SV (F.run X.A X.stack s H ⟨us,[]⟩ us vs Q (E σ) hr I.env0 hb' r h) fun r s' hq=>?_)
 cases r with
 |error e=>exact hx pins σ H s e s' I hq
 |ok fl=>
  cases fl with
  |ret u=>exact I.after hq
  |next=>exact Rw hq
  |brk=>exact Rw hq
  |cont=>exact Rw hq
def DF (F:aG X.prog X.w X.K X.mg X.base CX k f fd ps sp)(hr:bB k X.A)(hm:X.mg x=some (.ref f))(hk:SG X.K (.ref f)=true)(hb:aL X.K fd ps [])(hx:eA CX X E)
  (ha:QA X (e::es) t)(hg:Gl X x:=by rfl)(hdb:(x==("__debug__":Str))=false:=by decide)(hs:bz (e::es)=true:=by rfl):QE X (.Call (.Name x p) (e::es) [] pos) (aD sp E t):=by
 refine⟨fun pins s σ H Q I h=>?_⟩
 have h':(cf e&&bz es)=true:=hs
 refine RP (gH I hg hm ?_ hdb)
 refine Uz (h₀:=X.base) I.ok.mod.kin hk (thn (ha.out pos pins s σ H _ I h) fun us s1 ⟨vs,H1,I1,r,q⟩=>⟨I1.kIn,?_⟩) (bj (Gt.mp h').1 es X.env) (cj (Gt.mp h').2)
 exact gK F hr hb hx I1 r q
def Bg (F:aG X.prog X.w X.K X.mg X.base CX k f fd ps sp)(hr:bB k X.A)(hm:X.mg x=some (.ref f))(hk:SG X.K (.ref f)=true)(hb:aL X.K fd ps [])(hx:eA CX X E)
  (hg:Gl X x:=by rfl)(hdb:(x==("__debug__":Str))=false:=by decide):QE X (.Call (.Name x p) [] [] pos) (aD sp E aj):=by
 refine⟨fun pins s σ H Q I h=>?_⟩
 refine RP (gH I hg hm ?_ hdb)
 exact Ws I.kIn hk (gK (us:=[]) F hr hb hx I .nil h)
def xq (C:Addr)(E:St->XK):TS:=fun _ σ H=>E σ (.ref C) none H
def DX {C:Addr}{np cpos:Pos}(hC:gl X.K C)(hm:X.mg x=some (.ref C))(hR:wx X E)(hc:X.calm=true:=by rfl)(hg:Gl X x:=by rfl)(hdb:(x==("__debug__":Str))=false:=by decide):
  QS X (.Raise (some (.Call (.Name x np) [] [] cpos)) none pos) (xq C E):=by
 refine⟨fun pins s σ H D I h=>?_⟩
 obtain⟨bm,N,nm,qn,bs,hdct,sn,sub,ab,col,dd,k0,k1,k2,k3,k5,mN,oC,hN,hni,T,_⟩:=oA I.kIn hC.ok
 refine wpAny_Raise_call_subU (C:=C) (nm:=nm) (q:=qn) (N:=N) (bs:=bs) (bm:=bm) (hdct:=hdct) (sn:=sn) (sub:=sub) (ab:=ab) (col:=col) (dd:=dd) (k0:=k0) (k1:=k1) (k2:=k2) (k3:=k3) (k5:=k5)
  UM (by decide+kernel) UM (mN:=mN) (T.hasType UM.hasBase) (I.ok.hd hc) rfl (hni hC) (gH I hg hm ⟨rfl,?_⟩ hdb)
 exact evalArgs_empty ⟨rfl,QK _,oC,hN,T,fun h' e hm'=>hR pins σ H s C e none H _ I (LL I hm') h⟩
end
def Fun.okX {P:Rh}{w:RF}{K:cW}{mg:Str->Option tx}{base:Heap}{x qual:Str}{st:Stmt}{f:Addr}{fd:QD}{N ps:List Str}{k:Nat}{sp:Sp}(F:Fun K x qual st f fd)(S:aw N ps (am st))(len:∀vs H Q E,sp vs H Q E->vs.length=ps.length)
  (hbody:∀(cdv:tx)(A:RC)(outer:List Env)(s:If)(H:Hp)(vs:List V)(Q:VK)(E:XK),bB k (A.deeper (envOfC qual (am st) s.heap.objs.size f cdv))->sp vs H Q E->
   ∃t,PSs (fw (CX1 P w) P w K mg base N qual (am st) f cdv A outer s H E) (bH st) t/\t {nx:=fun _ H'=>Q .non H',rt:=Q} (cO N vs) H):aG P w K mg base (CX1 P w) (k+1) f fd ps sp:=by
 obtain⟨oc,od,kV,doc,pm,an,cdv,ct,osl,rfl,lk,hcd⟩:=F.ex
 exact BR lk hcd S len fun A outer s H vs Q E hr hsp=>hbody cdv A outer s H vs Q E hr hsp
def cxH (X:Cx)(a:Addr):Cx:={X with A:=X.A.mark (some (.ref a)),calm:=false,xe:=fun _ _=>False}
section
variable {X:Cx}{pins:List (Addr×Obj)}{σ:St}{H:Hp}{s:If}{a:Addr}
def Cx.Ok.toH (ok:X.Ok):(cxH X a).Ok:=⟨ok.mod,ok.kind,ok.glob,ok.blt,ok.above,ok.inj,ok.has,ok.cab,fun h=>absurd (show false=true from h) Rg,ok.frames,ok.stk,ok.exf,ok.bs,ok.bsz,ok.noex,ok.exfs,ok.funs,ok.frf⟩
def Inv.toH (I:Inv X pins σ H s):Inv (cxH X a) pins σ H s:=⟨I.ok.toH,I.os,I.bare,I.base,I.loc,I.cell,I.free,I.freeC,I.pin,I.hok,I.len⟩
def Inv.ofH (ok:X.Ok)(I:Inv (cxH X a) pins σ H s):Inv X pins σ H s:=⟨ok,I.os,I.bare,I.base,I.loc,I.cell,I.free,I.freeC,I.pin,I.hok,I.len⟩
def SP.ofH {D:fV}{f:Flow}(ok:X.Ok)(h:SP (cxH X a) pins D f s):SP X pins D f s:=by
 cases f with
 |next=>obtain⟨σ',H',J,q⟩:=h;exact⟨σ',H',J.ofH ok,q⟩
 |brk=>obtain⟨σ',H',J,q⟩:=h;exact⟨σ',H',J.ofH ok,q⟩
 |cont=>obtain⟨σ',H',J,q⟩:=h;exact⟨σ',H',J.ofH ok,q⟩
 |ret u=>obtain⟨v,σ',H',J,r,q⟩:=h;exact⟨v,σ',H',J.ofH ok,r,q⟩
end
abbrev TH:=fV->St->Addr->Option Addr->Hp->Prop
def PH (X:Cx)(hs:List Ut)(t:TH):Prop:=∀(pins:List (Addr×Obj))(s0:If)(σ:St)(H1 H':Hp)(C a:Addr)(d:Option Addr)(s3:If)(D:fV),X.stack=X.env::X.outer->X.env.frame=some X.env.locals->X.ex=[]->
 Inv X pins σ H1 s0->Fly X.prog X.w X.stack H1 s0 (.ref C) .none a d H' s3->fF X.K C->t D σ C d H'->wpAny (model X.prog X.w) X.A (handleBy (.ref a) X.env hs) (SP X pins D) X.xe s3
structure QH (X:Cx)(hs:List Ut)(t:TH):Prop where
 out:PH X hs t
def CL:TH:=fun _ _ _ _ _=>False
def Fb (K:cW)(Dc:Addr)(ts:TS)(r:TH):TH:=fun D σ C d H=>∃b,jh K C Dc=some b/\Sel b (ts D σ H) (r D σ C d H)
section
variable {X:Cx}
def EA:QH X [] CL:=⟨fun _ _ _ _ _ _ _ _ _ _ _ _ _ _ _ _ h=>h.elim⟩
def xK {pins:List (Addr×Obj)}{σ:St}{H H':Hp}{s s':If}{cls:tx}{a:Addr}{d:Option Addr}{M:Model}{A:RC}{E:tx->If->Prop}{Q:Unit->If->Prop}(I:Inv X pins σ H s)(F:Fly X.prog X.w X.stack H s cls .none a d H' s')
  (hQ:∀s'',Fly X.prog X.w X.stack H s cls .none a d H' s''->Q () s''):wpAny M A (setFlight (.ref a) none) Q E s':=by
 obtain⟨T,a0,hT0,hT1,f1,f2,f3,f4⟩:=F.flying I
 refine HT.oi f1 f3 f4 fun h' n=>?_
 exact hQ _ (F.moved (oT:={cls:=.none,data:=.dict #[]}) I.stack I.stkFree (F.inv I).stkFree hT0 hT1 n.st n.up n.tr)
variable {x n:Str}{np hp:Pos}{Dc:Addr}{b0:Stmt}{suite:List Stmt}{cH:List Ut}{ts:TS}{r:TH}{i:Nat}
def yH {A:RC}{E:tx->If->Prop}{pins:List (Addr×Obj)}{s:If}{σ:St}{H:Hp}{u:tx}{pos:Pos}{Q:tx->If->Prop}(I:Inv X pins σ H s)(hg:Gl X x)(hm:X.mg x=some u)(h:Q u s)
  (hd:(x==("__debug__":Str))=false:=by decide):wpAny (model X.prog X.w) A (eval (.Name x pos) X.env) Q E s:=
 TF I.ok.kind hg (VJ (by rw[I.ok.glob];exact I.mod.glob.keeps I.bk) hm h) hd
def Gr (hD:fF X.K Dc)(hm:X.mg x=some (.ref Dc))(hs:∀a,QSs (cxH X a) (b0::suite) ts)(hr:QH X cH r)(hg:Gl X x:=by rfl)(hdb:(x==("__debug__":Str))=false:=by decide):
  QH X (.ExceptHandler (some (.Name x np)) none (b0::suite) hp::cH) (Fb X.K Dc ts r):=by
 refine⟨fun pins s0 σ H1 H' C a d s3 D e1 e2 hex I F hC h=>?_⟩
 obtain⟨b,hb,q⟩:=h
 have I3:=F.inv I
 obtain⟨oe,vs,_,_,_,_,he,hc,hdc,hd,_⟩:=F.tr
 refine wpAny_handleBy_cons (codeAny_handlers_test (yH I3 hg hm ?_ hdb)) (by intro q;cases q)
 refine oB I3.kIn hC hD he hc hb ?_
 have q:=fv q
 cases b with
 |false=>exact hr.out pins s0 σ H1 H' C a d s3 D e1 e2 hex I F hC q
 |true=>
  refine codeAny_handlers_suite (xK I F fun s4 F4=>?_)
  refine Rq ((hs a).out pins s4 σ H' D (F4.inv I).toH q) (fun f s5 h5=>?_) fun _ _ z=>z.elim
  exact SP.ofH I.ok h5
end
def FP (K:cW)(tb:(St->XK)->TS)(th:TH)(te:TS):TS:=fun D σ H=>
 tb (fun σ' cls d H'=>∃C,cls=.ref C/\fF K C/\th D σ' C d H') {D with nx:=te D} σ H
abbrev cxT (X:Cx)(pn:List (Addr×Obj))(E':tx->If->Prop):Cx:={X with pn:=pn,xe:=E'}
section
variable {X:Cx}{pins pn:List (Addr×Obj)}{σ:St}{H:Hp}{s:If}{E':tx->If->Prop}
def Cx.Ok.toT (ok:X.Ok):(cxT X pn E').Ok:=⟨ok.mod,ok.kind,ok.glob,ok.blt,ok.above,ok.inj,ok.has,ok.cab,ok.hd,ok.frames,ok.stk,ok.exf,ok.bs,ok.bsz,ok.noex,ok.exfs,ok.funs,ok.frf⟩
def Inv.toT (I:Inv X pins σ H s):Inv (cxT X (X.pn++pins) E') [] σ H s:=⟨I.ok.toT,I.os,I.bare,I.base,I.loc,I.cell,I.free,I.freeC,fun p hp=>I.pin p (by
 have hp:p∈(X.pn++pins)++[]:=hp
 rwa [RO]at hp),I.hok,I.len⟩
def Inv.ofT {pins':List (Addr×Obj)}(ok:X.Ok)(I:Inv (cxT X (X.pn++pins) E') pins' σ H s):Inv X pins σ H s:=⟨ok,I.os,I.bare,I.base,I.loc,I.cell,I.free,I.freeC,fun p hp=>I.pin p (Sy _ hp),I.hok,I.len⟩
def Nc {body orelse:List Stmt}{h0:Ut}{hs:List Ut}{pos:Pos}{tb:(St->XK)->TS}{te:TS}{th:TH}
  (hb:∀(pn':List (Addr×Obj))(E':tx->If->Prop)(EH:St->XK),eA (CX1 X.prog X.w) (cxT X pn' E') EH->QSs (cxT X pn' E') body (tb EH))(hh:QH X (h0::hs) th)(he:QSs X orelse te)
  (e1:X.stack=X.env::X.outer:=by rfl)(e2:X.env.frame=some X.env.locals:=by rfl)(hex:X.ex=[]:=by rfl):QS X (.Try body (h0::hs) orelse [] pos) (FP X.K tb th te):=by
 refine⟨fun pins s σ H D I h=>?_⟩
 let E':tx->If->Prop:=fun e s1=>∃σ1 H1 s0 C a d H',e=.ref a/\Inv X pins σ1 H1 s0/\Fly X.prog X.w X.stack H1 s0 (.ref C) .none a d H' s1/\fF X.K C/\th D σ1 C d H'
 have pass:eA (CX1 X.prog X.w) (cxT X (X.pn++pins) E') (fun σ' cls d H'=>∃C,cls=.ref C/\fF X.K C/\th D σ' C d H'):=by
  intro pins' σ1 H1 s0 e s1 I1 hx
  obtain⟨a,C,d,H',rfl,F,C',ec,hC,ht⟩:=hx
  cases ec
  exact⟨σ1,H1,s0,C,a,d,H',rfl,I1.ofT I.ok,F,hC,ht⟩
 refine wpAny_Try_except (Rq ((hb (X.pn++pins) E' _ pass).out [] s σ H _ I.toT h) (fun f s1 h1=>?_) fun e s1 h1=>?_)
 ·cases f with
  |next=>
   obtain⟨σ',H',J,q⟩:=h1
   exact he.out pins s1 σ' H' D (J.ofT I.ok) q
  |brk=>obtain⟨σ',H',J,q⟩:=h1;exact⟨σ',H',J.ofT I.ok,q⟩
  |cont=>obtain⟨σ',H',J,q⟩:=h1;exact⟨σ',H',J.ofT I.ok,q⟩
  |ret u=>obtain⟨v,σ',H',J,rv,q⟩:=h1;exact⟨v,σ',H',J.ofT I.ok,rv,q⟩
 ·obtain⟨σ1,H1,s0,C,a,d,H',rfl,I1,F,hC,ht⟩:=h1
  obtain⟨T,a0,hT0,hT1,f1,f2,f3,f4⟩:=F.flying I1
  have hfr:=I1.ok.frames
  rw[e1]at hfr
  have f3':=f3
  rw[e1]at f3'
  have f1':=f1
  have f2':=f2
  have f4':=f4
  rw[e1]at f1' f2' f4'
  refine HT.vq hfr f3' e2 f4' f1' f2' fun h' n1=>?_
  refine HT.oi (s:={s1 with heap:=h'}) n1.st n1.fr n1.tr fun h'' n2=>?_
  have st:(fZ s1.heap X.stack a T).StaysIn h'':=by rw[e1];exact n2.st
  have tr:HT.TrD h'' (fZ s1.heap X.stack a T) a (.ref C) a0 d .none:=by rw[e1];exact n2.tr
  have F3:=F.moved (oT:={cls:=.none,data:=.dict #[]}) I1.stack I1.stkFree (F.inv I1).stkFree hT0 hT1 st (n1.up.trans n2.up) tr
  exact hh.out pins s0 σ1 H1 H' C a d _ D e1 e2 hex I1 F3 hC ht
end
structure FX (K:cW)(C:Addr):Prop where
 ga:QF K (.ref C) "__getattribute__"=some (some (.builtin "BaseException.__getattribute__"))
 na:QF K (.ref C) "__getattr__"=some none
 cl:QF K (.ref C) "__class__"=some (some (.builtin "object.__class__"))
 mo:TL K C (.type "object")=some true
 mb:TL K C (.type "BaseException")=some true
section
variable {X:Cx}
def tE {x:Str}{D:Addr}{pos:Pos}(hm:X.mg x=some (.ref D))(hg:Gl X x:=by rfl)(hd:(x==("__debug__":Str))=false:=by decide):QE X (.Name x pos) (tC (.ref D)):=⟨oq hg hm rfl hd⟩
end
end L2
namespace HT
open PySem PyProof.Rows
section
variable {prog:Rh}{w:RF}{A:RC}{E:tx->If->Prop}{s:If}
def jT {t sl:Addr}{items:Array tx}{vl vu:tx}{lo hi:Option Int}{Q:tx->If->Prop}(ht:VL s.heap t items)(hs:s.heap.IsSliceOf sl vl vu .none)(pl:Vx vl lo)(pu:Vx vu hi)
  (hw:sIx items.size 0 lo=0/\sIx items.size items.size hi=items.size)(h:Q (.ref t) s):wpAny (model prog w) A (getItem (.ref t) (.ref sl)) Q E s:=by
 obtain⟨os,hos,hcs,hds⟩:=id hs
 have hTs:s.TypeIs (.ref sl) "slice":=⟨os,hos,hcs⟩
 unfold getItem
 try with_reducible refine SH ?_
 first|refine pv (QL ?_)|skip
 refine pv (XN ht.typeIs (by decide) ?_)
 refine pv (SI (name:=Tt "__getitem__") ht.typeIs RI
  (Sw RI ht.typeIs XA ?_ (XG _ _)))
 show wpAny _ _ (UF (.ref t)>>=_) _ _ s
 refine pv (tupleItemsOf_ ht ?_)
 refine pv (UK hTs ?_)
 rw[if_pos (by decide)]
 refine pv (gP hs pl pu ?_)
 have hyes:(((sIx items.size 0 lo:Nat):Int)==0&&(1:Int)==1&&(sIx items.size items.size hi- sIx items.size 0 lo)==items.size)=true:=by
  rw[hw.1,hw.2];simp
 show wpAny _ _ (if (((sIx items.size 0 lo:Nat):Int)==0&&(1:Int)==1&&(sIx items.size items.size hi- sIx items.size 0 lo)==items.size)=true then _ else _) _ _ s
 rw[if_pos hyes]
 have hte:s.TypeIs (.ref t) "tuple":=ht.typeIs
 unfold Ym
 repeat (first|exact⟨_,rfl,QL h⟩|(with_reducible refine UK hte ?_)|wp_step)
end
section
variable {prog:Rh}{w:RF}{A:RC}{E:tx->If->Prop}{s:If}
def Ax {t b:Addr}{ws:List tx}{Q:tx->If->Prop}(ht:VL s.heap t #[])(hb:VL s.heap b ws.toArray)(h1:Q (.ref b) s):wpAny (model prog w) A (binaryOp .Add (.ref t) (.ref b)) Q E s:=by
 obtain⟨⟨cls,dd,data,sl⟩,ho,hc,n,hd⟩:=id ht
 obtain⟨⟨cls2,dd2,data2,sl2⟩,ho2,hc2,n2,hd2⟩:=id hb
 simp only at hc hd hc2 hd2
 subst hc hd hc2 hd2
 exact WZ ⟨_,ho,rfl⟩ ⟨_,ho2,rfl⟩ VH WH Ud Ua (TQ _ _)
  (tuple_addW0 t b #[] ws.toArray n n2 dd dd2 sl sl2 (by simp)) ⟨ho,ho2,h1⟩
end
end HT
namespace L2
open PySem PySem.Spec PyProof.Rows
def au.rfl' {H:Hp}:au H H:=fun _ _ e=>e
def vB {xs:List V}{lo hi:Option Int}(h:HT.sIx xs.length 0 lo=0/\HT.sIx xs.length xs.length hi=xs.length):eT xs lo hi=xs:=by
 unfold eT
 rw[h.1,h.2,VD,Vd,Xi]
section
variable {X:Cx}
def BU:V->Option Int->Option Int->Hp->VK->Prop:=fun x lo hi H Q=>∃a xs,x=.ref a/\H a=some (.tup xs)/\∀p H',au H H'->H' p=some (.tup (eT xs lo hi))->Q (.ref p) H'
def DD:SlR X BU:=by
 intro pins s σ H x v vl vu lo hi sl Q I rx hs pl pu h
 obtain⟨a,xs,rfl,hx,q⟩:=h
 have hq:SqT X.K H a xs:=.inl (.inl hx)
 by_cases hw:HT.sIx xs.length 0 lo=0/\HT.sIx xs.length xs.length hi=xs.length
 ·cases rx
  obtain⟨its,r,ht,hz⟩:=I.tuple hq
  have hlen:its.toArray.size=xs.length:=by rw[QJ];exact r.length.symm
  refine⟨"tuple",_,RI.lookup,ht.typeIs,?_⟩
  refine HT.jT ht hs pl pu (by rw[hlen];exact hw) ?_
  exact⟨.ref a,H,I,rfl,q a H au.rfl' (by rw[vB hw];exact hx)⟩
 ·exact EN pins s σ H _ v vl vu lo hi sl Q I rx hs pl pu ⟨a,xs,rfl,hq,hw,fun p hp=>q p _ (au.upd hp) (ag ..)⟩
def CA:R2:=fun x y H Q=>∃a b xs ys,x=.ref a/\y=.ref b/\H a=some (.tup xs)/\H b=some (.tup ys)/\xs.length+ys.length<=sizeLine/\∀p H',au H H'->H' p=some (.tup (xs++ys))->Q (.ref p) H'
def En:OpR X (binaryOp .Add) CA:=by
 intro pins s σ H x y v u Q I rx ry h
 obtain⟨a,b,xs,ys,rfl,rfl,ha,hb,hz,q⟩:=h
 by_cases hx:xs=[]
 ·subst hx
  cases rx
  cases ry
  obtain⟨its,r1,p1,_⟩:=I.tuple (.inl (.inl ha))
  obtain⟨its2,r2,p2,_⟩:=I.tuple (.inl (.inl hb))
  cases r1
  exact HT.Ax p1 p2 ⟨.ref b,H,I,rfl,q b H au.rfl' hb⟩
 ·refine Ef pins s σ H _ _ v u Q I rx ry ⟨a,b,xs,ys,rfl,rfl,.inl (.inl ha),.inl (.inl hb),hx,hz,fun e=>?_,fun _ p hp=>q p _ (au.upd hp) (ag ..)⟩
  subst e
  exact q a H au.rfl' (by rw[RO];exact ha)
def cp (K:cW):R2:=fun x y H Q=>match x,y with
 |.int i,.int j=>Q (.int (i+j)) H
 |.str i,.str j=>i.length+j.length<=sizeLine/\Q (.str (i++j)) H
 |.ref a,.ref b=>Hg (.ref a) (.ref b) H Q\/CA (.ref a) (.ref b) H Q
 |_,_=>False
def cG:OpR X (binaryOp .Add) (cp X.K):=(Hu.or (uM.or (HS.or En))).imp fun x y H Q q=>by
 unfold cp at q
 split at q
 ·exact .inl ⟨_,_,rfl,rfl,q⟩
 ·exact .inr (.inl ⟨_,_,rfl,rfl,q.1,q.2⟩)
 ·exact .inr (.inr q)
 ·exact q.elim
def Ff (K:cW):V->Option Int->Option Int->Hp->VK->Prop:=fun x lo hi H Q=>GM K x lo hi H Q\/BU x lo hi H Q
def GI:SlR X (Ff X.K):=DQ.or DD
end
def yN {K:cW}{C D:Addr}{b:Bool}(h:TL K C (.ref D)=some b):jh K C D=some b:=by
 unfold TL W.clsIn at h
 unfold jh
 split at h
 ·rename_i cd sl e
  rw[e]
  dsimp only[Option.bind]at h⊢
  split at h
  ·cases h
  ·exact h
 ·cases h
def Fun.okN {P:Rh}{w:RF}{K:cW}{mg:Str->Option tx}{base:Heap}{CX:CXT}{x qual:Str}{st:Stmt}{f:Addr}{fd:QD}{N ps:List Str}{k:Nat}{sp:Sp}(F:Fun K x qual st f fd)(S:aw N ps (am st))(len:∀vs H Q E,sp vs H Q E->vs.length=ps.length)
  (hbody:∀(cdv:tx)(A:RC)(outer:List Env)(s:If)(H:Hp)(vs:List V)(Q:VK)(E:XK),bB k (A.deeper (envOfC qual (am st) s.heap.objs.size f cdv))->sp vs H Q E->
   ∃t,PSs (fw CX P w K mg base N qual (am st) f cdv A outer s H E).nox (bH st) t/\t {nx:=fun _ H'=>Q .non H',rt:=Q} (cO N vs) H):aG P w K mg base CX (k+1) f fd ps sp:=by
 obtain⟨oc,od,kV,doc,pm,an,cdv,ct,osl,rfl,lk,hcd⟩:=F.ex
 refine BR lk hcd S len fun A outer s H vs Q E hr hsp=>?_
 obtain⟨t,h,q⟩:=hbody cdv A outer s H vs Q E hr hsp
 exact⟨t,h.nox,q⟩
section
variable {X:Cx}
def Fg:V->Option Int->Option Int->Hp->VK->Prop:=fun x lo hi H Q=>∃z,x=.str z/\z.length<=sizeLine/\Q (.str (Txt.slice z lo hi)) H
def Gn:SlR X Fg:=by
 intro pins s σ H x v vl vu lo hi sl Q I rx hs pl pu h
 obtain⟨z,rfl,hz,q⟩:=h
 obtain⟨t,rfl⟩:=(show ∃t,v=Tz z t from rx)
 refine⟨"str",_,F.slot_str_getitem.lookup,XX _ _ _,?_⟩
 have fin:∀(l u:Option (Int×Tok)),l.map (·.1)=lo->u.map (·.1)=hi->s.heap.IsSlice sl l u none->wpAny (model X.prog X.w) X.A (getItem (.str z t) (.ref sl)) (EP X pins σ Q) X.xe s:=fun l u e1 e2 hs'=>by
  subst e1 e2
  refine wpAny_getItem_str_slice (l:=l) (u:=u) (st:=none) hs' rfl (post_val_or_str ⟨Rl (Txt.slice_le z _ _) hz,fun t' k=>⟨.str _,H,I.tok k,⟨_,rfl⟩,q⟩⟩)
 obtain⟨os,hos,hcs,hds⟩:=hs
 cases pl with
 |none=>cases pu with
  |none=>exact fin none none rfl rfl ⟨os,hos,hcs,hds⟩
  |int j tj=>exact fin none (some (j,tj)) rfl rfl ⟨os,hos,hcs,hds⟩
 |int i ti=>cases pu with
  |none=>exact fin (some (i,ti)) none rfl rfl ⟨os,hos,hcs,hds⟩
  |int j tj=>exact fin (some (i,ti)) (some (j,tj)) rfl rfl ⟨os,hos,hcs,hds⟩
def sr (K:cW):V->Option Int->Option Int->Hp->VK->Prop:=fun x lo hi H Q=>Ff K x lo hi H Q\/Fg x lo hi H Q
def nO:SlR X (sr X.K):=GI.or Gn
def mM:V->Bool
 |.int _=>true
 |.str _=>true
 |_=>false
def vw {A:RC}{s:If}{x y:V}{u v:tx}(rx:ba x u)(ry:ba y v)(hx:mM x=true)(hy:mM y=true):PySem.SeqAt.EqAt A s u v (decide (x=y)):=by
 cases x<;>first|cases hx|skip
 all_goals (cases y<;>first|cases hy|skip)
 ·obtain⟨t,rfl⟩:=rx;obtain⟨t',rfl⟩:=ry
  have e:=UA (A:=A) (s:=s) ‹Int› t ‹Int› t'
  rename_i i j
  have e2:decide (V.int i=V.int j)=(i==j):=by rw[kC (f:=V.int) fun _ _ e=>V.int.inj e];rfl
  rw[e2];exact UA i t j t'
 ·obtain⟨t,rfl⟩:=rx;obtain⟨t',rfl⟩:=ry
  exact UZ _ _ _ _
 ·obtain⟨t,rfl⟩:=rx;obtain⟨t',rfl⟩:=ry
  exact UY _ _ _ _
 ·obtain⟨t,rfl⟩:=rx;obtain⟨t',rfl⟩:=ry
  rename_i i j
  have e2:decide (V.str i=V.str j)=(i==j):=by
   rw[kC (f:=V.str) fun _ _ e=>V.str.inj e]
   by_cases h:i=j
   ·rw[h];simp
   ·rw[decide_eq_false h];exact(beq_eq_false_iff_ne.mpr h).symm
  rw[e2];exact Xq i t j t'
def wD {xs ys:List V}:decide (xs=ys)=((UW (min xs.length ys.length)).all (fun j=>decide (xs[j]?=ys[j]?))&&xs.length==ys.length):=by
 by_cases h:xs=ys
 ·subst h;simp
 ·rw[decide_eq_false h]
  by_cases hl:xs.length=ys.length
  ·rw[hl,Nat.min_self,beq_self_eq_true,XJ]
   symm
   rw[List.all_eq_false]
   apply RL
   intro hn
   apply h
   apply WX fun i=>?_
   by_cases hi:i<ys.length
   ·apply RL
    intro hne
    exact hn ⟨i,UD.mpr hi,by simpa using hne⟩
   ·rw[Ts (by omega),Ts (by omega)]
  ·have:(xs.length==ys.length)=false:=by simpa using hl
   rw[this,Bool.and_false]
def EE (K:cW):R2:=fun x y H Q=>∃a b xs ys,x=.ref a/\y=.ref b/\SqT K H a xs/\SqT K H b ys/\xs.all mM=true/\ys.all mM=true/\Q (.bl (decide (xs=ys))) H
def Fv (hu:X.A.units<cLine):OpR X (compareOp .Eq) (EE X.K):=by
 intro pins s σ H x y v u Q I rx ry h
 obtain⟨a,b,xs,ys,rfl,rfl,ha,hb,px,py,q⟩:=h
 cases rx
 cases ry
 obtain⟨its,r1,p1,_⟩:=I.tuple ha
 obtain⟨its2,r2,p2,_⟩:=I.tuple hb
 have l1:=r1.length
 have l2:=r2.length
 refine PySem.SeqAt.eq_tupleAt (e:=fun j=>decide (xs[j]?=ys[j]?)) p1 p2 hu (fun j h1 h2=>?_) ?_
 ·have h1:j<its.length:=by simpa using h1
  have h2:j<its2.length:=by simpa using h2
  have e1:xs[j]?=some xs[j]:=QQ (by omega)
  have e2:ys[j]?=some ys[j]:=QQ (by omega)
  obtain⟨u1,g1,ru1⟩:=r1.get e1
  obtain⟨u2,g2,ru2⟩:=r2.get e2
  have g1':its.toArray[j]=u1:=by
   rw[QQ h1]at g1;simpa using QZ g1
  have g2':its2.toArray[j]=u2:=by
   rw[QQ h2]at g2;simpa using QZ g2
  rw[g1',g2',e1,e2]
  have:decide (some xs[j]=some ys[j])=decide (xs[j]=ys[j]):=by simp
  rw[this]
  exact vw ru1 ru2 (So.mp px _ (Vf _)) (So.mp py _ (Vf _))
 ·have e:=wD (xs:=xs) (ys:=ys)
  rw[l1,l2]at e
  simp only[QJ]
  rw[<-e]
  exact⟨.bl _,H,I,rfl,q⟩
def Bv:R2:=fun x y H Q=>match x,y with
 |.str i,.str j=>Q (.bl (!(Vc j i 0 j.length 1).isEmpty)) H
 |_,_=>False
def Qt:OpR X (compareOp .In) Bv:=xC.imp fun x y H Q q=>by
 unfold Bv at q
 split at q
 ·exact⟨_,_,rfl,rfl,q⟩
 ·exact q.elim
def ye:List V->Hp->VK->Prop:=fun xs H Q=>match xs with
 |[.str z]=>∃n,PySem.intText? z=some n/\z.length<=640/\Q (.int n) H
 |[.bl b]=>Q (.int (if b then 1 else 0)) H
 |_=>False
def Of:bS X (.type "int") ye:=fun pins s σ H xs us Q I r h=>by
 unfold ye at h
 split at h
 ·obtain⟨n,h1,h2,q⟩:=h
  obtain⟨u,rfl,ru⟩:=fU r
  obtain⟨t,rfl⟩:=ru
  exact W.KIN.call_text h1 h2 ⟨.int n,H,I.tok _,⟨_,rfl⟩,q⟩
 ·obtain⟨u,rfl,ru⟩:=fU r
  cases ru
  exact call_int_bool ⟨.int _,H,I.tok _,⟨_,rfl⟩,h⟩
 ·exact h.elim
end
def Gw:bootBuiltins "int"=some (.type "int"):=by decide+kernel
inductive MtI (C:Addr)(m:Str)(x:V)(H1:Hp)(P:Prop):Prop|mk (a dx:Addr)(fs:List (Str×V))(_:x=.ref a)(_:H1 a=some (.ins C dx fs))(_:fs.lookup m=none)(_:P)
def aB (C:Addr)(m:Str)(sp:Sp)(E:St->XK)(ta:TE)(t:TA):TE:=fun σ H Q=>ta σ H fun x H1=>MtI C m x H1 (t σ H1 fun vs H2=>sp (x::vs) H2 Q (E σ))
def cE (C:Addr)(sp:Sp)(E:St->XK)(t:TA):TE:=fun σ H Q=>t σ H fun vs H1=>∀x dx,H1 x=none->H1 dx=none->dx≠x->
 sp (.ref x::vs) (upd (upd H1 dx (.own x)) x (.ins C dx [])) (fun v H2=>v=.non/\Q (.ref x) H2) (E σ)
section
variable {X:Cx}{CX:CXT}{k:Nat}{f C:Addr}{fd:QD}{ps:List Str}{sp:Sp}{E:St->XK}{x m fl:Str}{p pos apos pos':Pos}{e o value:Expr}{es:List Expr}{ta tv to:TE}{t:TA}
def aA (he:QE X e ta)(hb:attributeBase e fl X.env (eval e X.env)=eval e X.env:=by rfl):QE X (.Attribute e fl pos) (aH X.K ta fl):=⟨FD he.out hb⟩
def bC (ho:QE X o to)(hv:QE X value tv)(hs:swapsWith value (some (.Attribute o fl pos')) pos.line X.env=pure false:=by rfl):QS X (.Assign [.Attribute o fl pos'] value pos) (cY X.K to tv fl):=⟨Io ho.out hv.out hs⟩
def aI {pl:Sem Bool}(he:QE X o ta)(c:Cls X.K C)(hm:bE X.K C m f)(F:aG X.prog X.w X.K X.mg X.base CX k f fd ps sp)(hr:bB k X.A)(hb:aL X.K fd ps [])(hx:eA CX X E)(ha:QA X (e::es) t)
  (hs:bz (e::es)=true:=by rfl)
  (ht:eval (.Call (.Attribute o m apos) (e::es) [] pos) X.env=(do
   let ov<-eval o X.env
   standAt apos.atName
   let (f,first)<-holding [ov] (getMethod ov m pl)
   callWith pos f first (backTo pos (starEach (e::es) X.env)) (backToKw pos (keywordEach [] X.env))):=by rfl):
  QE X (.Call (.Attribute o m apos) (e::es) [] pos) (aB C m sp E ta t):=⟨fun pins s σ H Q I h=>by
 have h':(cf e&&bz es)=true:=hs
 refine TN (pl:=pl) (thn (he.out pins s σ H _ I h) fun u s1 ⟨x,H1,I1,rx,a,dx,fs,ex,ea,l,q⟩=>?_) ht
 subst ex
 obtain rfl:u=Re a:=rx
 refine jE I1 ea c hm l ?_
 refine Uz (first:=[.ref a]) (h₀:=X.base) I.ok.mod.kin hm.kp (thn (ha.out pos pins s1 σ H1 _ I1 q) fun us s2 ⟨vs,H2,I2,r,q2⟩=>⟨I2.kIn,?_⟩)
  (bj (Gt.mp h').1 es X.env) (cj (Gt.mp h').2)
 exact gK (us:=.ref a::us) (vs:=.ref a::vs) F hr hb hx I2 (.cons rfl r) q2⟩
def cz {pl:Sem Bool}(he:QE X o ta)(c:Cls X.K C)(hm:bE X.K C m f)(F:aG X.prog X.w X.K X.mg X.base CX k f fd ps sp)(hr:bB k X.A)(hb:aL X.K fd ps [])(hx:eA CX X E)
  (ht:eval (.Call (.Attribute o m apos) [] [] pos) X.env=(do
   let ov<-eval o X.env
   standAt apos.atName
   let (f,first)<-holding [ov] (getMethod ov m pl)
   callWith pos f first (backTo pos (starEach [] X.env)) (backToKw pos (keywordEach [] X.env))):=by rfl):
  QE X (.Call (.Attribute o m apos) [] [] pos) (aB C m sp E ta aj):=⟨fun pins s σ H Q I h=>by
 refine TN (pl:=pl) (thn (he.out pins s σ H _ I h) fun u s1 ⟨x,H1,I1,rx,a,dx,fs,ex,ea,l,q⟩=>?_) ht
 subst ex
 obtain rfl:u=Re a:=rx
 refine jE I1 ea c hm l ?_
 exact Ws (first:=[.ref a]) I1.kIn hm.kp (gK (us:=[.ref a]) (vs:=[.ref a]) F hr hb hx I1 (.cons rfl .nil) q)⟩
def pd {pins:List (Addr×Obj)}{σ:St}{H:Hp}{s:If}{Q:VK}{us:List tx}{vs:List V}(M:Mk X.K C f)(F:aG X.prog X.w X.K X.mg X.base CX k f fd ps sp)(hr:bB (k+1) X.A)(hb:aL X.K fd ps [])
  (hx:eA CX X E)(I:Inv X pins σ H s)(r:bc vs us)
  (h:∀x dx,H x=none->H dx=none->dx≠x->sp (.ref x::vs) (upd (upd H dx (.own x)) x (.ins C dx [])) (fun v H2=>v=.non/\Q (.ref x) H2) (E σ)):
  wpAny (model X.prog X.w) X.A (call (.ref C) us) (EP X pins σ Q) X.xe s:=by
 have hq:=h (s.heap.objs.size+1) s.heap.objs.size (I.hok.fresh (UN _)) (I.hok.fresh (gV _)) (Rf (Vl _))
 have I2:=Inv.made (C:=C) I
 have r2:bc (V.ref (s.heap.objs.size+1)::vs) (Re (s.heap.objs.size+1)::us):=.cons rfl r
 have hl:(Re (s.heap.objs.size+1)::us).length=ps.length:=by
  have e:=r2.length
  rw[F.len _ _ _ _ hq]at e
  exact e.symm
 have hb':=hb _ (Re (s.heap.objs.size+1)::us) I2.kIn (by rw[RO];exact hl)
 rw[RO]at hb'
 refine WB (Ag (f:=f) I.kIn M.makes M.init (beq_iff_eq.mp M.fn) (SV (F.run _ X.stack _ _ ⟨Re (s.heap.objs.size+1)::us,[]⟩ (Re (s.heap.objs.size+1)::us) _ _ (E σ) (hr.make C us [])
  (I2.env0.make C us []) hb' r2 hq) fun r s' hq'=>?_))
 cases r with
 |error e=>exact hx pins σ _ _ e s' I2 hq'
 |ok fl=>
  cases fl with
  |ret u=>
   obtain⟨v,H',I3,rv,ev,q3⟩:=I2.after hq'
   subst ev
   exact⟨rv,⟨V.ref (s.heap.objs.size+1),H',I3,rfl,q3⟩⟩
  |next=>exact Rw hq'
  |brk=>exact Rw hq'
  |cont=>exact Rw hq'
def cX (M:Mk X.K C f)(F:aG X.prog X.w X.K X.mg X.base CX k f fd ps sp)(hr:bB (k+1) X.A)(hm:X.mg x=some (.ref C))(hb:aL X.K fd ps [])(hx:eA CX X E)(ha:QA X (e::es) t)
  (hg:Gl X x:=by rfl)(hdb:(x==("__debug__":Str))=false:=by decide)(hs:bz (e::es)=true:=by rfl):QE X (.Call (.Name x p) (e::es) [] pos) (cE C sp E t):=⟨fun pins s σ H Q I h=>by
 have h':(cf e&&bz es)=true:=hs
 refine RP (gH I hg hm ?_ hdb)
 refine Uz (h₀:=X.base) I.ok.mod.kin M.kp (thn (ha.out pos pins s σ H _ I h) fun us s1 ⟨vs,H1,I1,r,q⟩=>⟨I1.kIn,?_⟩) (bj (Gt.mp h').1 es X.env) (cj (Gt.mp h').2)
 exact pd M F hr hb hx I1 r q⟩
def su (M:Mk X.K C f)(F:aG X.prog X.w X.K X.mg X.base CX k f fd ps sp)(hr:bB (k+1) X.A)(hm:X.mg x=some (.ref C))(hb:aL X.K fd ps [])(hx:eA CX X E)
  (hg:Gl X x:=by rfl)(hdb:(x==("__debug__":Str))=false:=by decide):QE X (.Call (.Name x p) [] [] pos) (cE C sp E aj):=⟨fun pins s σ H Q I h=>by
 refine RP (gH I hg hm ?_ hdb)
 exact Ws I.kIn M.kp (pd (us:=[]) M F hr hb hx I .nil h)⟩
end
mutual
inductive eF (K:cW)(H:Hp):V->Xc->Prop
 |non:eF K H .non .none
 |bl (b):eF K H (.bl b) (.bool b)
 |int (i):eF K H (.int i) (.int i)
 |str (z):eF K H (.str z) (.str z)
 |lst {a xs ds}:SqL K H a xs->DatVs K H xs ds->eF K H (.ref a) (.list ds)
 |tup {a xs ds}:SqT K H a xs->DatVs K H xs ds->eF K H (.ref a) (.tuple ds)
inductive DatVs (K:cW)(H:Hp):List V->List Xc->Prop
 |nil:DatVs K H [] []
 |cons {x xs d ds}:eF K H x d->DatVs K H xs ds->DatVs K H (x::xs) (d::ds)
end
section
variable {X:Cx}
mutual
theorem cN {pins:List (Addr×Obj)}{σ:St}{H:Hp}{s:If}(I:Inv X pins σ H s):∀{x:V}{d:Xc},eF X.K H x d->∀{v:tx},ba x v->∃as,Reads s.heap v d as
 |_,_,.non,_,r=>by cases r;exact⟨_,.none⟩
 |_,_,.bl b,_,r=>by cases r;exact⟨_,.bool b⟩
 |_,_,.int i,_,r=>by obtain⟨t,rfl⟩:=r;exact⟨_,.int i t⟩
 |_,_,.str z,_,r=>by obtain⟨t,rfl⟩:=r;exact⟨_,.str z t⟩
 |_,_,.lst h hs,_,r=>by
  cases r
  obtain⟨its,r1,⟨o,n,h1,h2,_,h3⟩,_⟩:=I.list h
  obtain⟨as,ra⟩:=datVs_reads I hs r1
  exact⟨_,.list h1 h2 h3 (by simpa using ra)⟩
 |_,_,.tup h hs,_,r=>by
  cases r
  obtain⟨its,r1,⟨o,h1,h2,n,h3⟩,_⟩:=I.tuple h
  obtain⟨as,ra⟩:=datVs_reads I hs r1
  exact⟨_,.tuple h1 h2 h3 (by simpa using ra)⟩
theorem datVs_reads {pins:List (Addr×Obj)}{σ:St}{H:Hp}{s:If}(I:Inv X pins σ H s):∀{xs:List V}{ds:List Xc},DatVs X.K H xs ds->∀{vs:List tx},bc xs vs->∃as,ReadsAll s.heap vs ds as
 |_,_,.nil,_,r=>by cases r;exact⟨_,.nil⟩
 |_,_,.cons h hs,_,r=>by
  cases r with
  |cons r1 r2=>
   obtain⟨as,a⟩:=cN I h r1
   obtain⟨bs,b⟩:=datVs_reads I hs r2
   exact⟨_,.cons a b⟩
end
def uV (K:cW):R2:=fun x y H Q=>∃d e,eF K H x d/\eF K H y e/\d.canLay0=true/\e.canLay0=true/\d.depth<=150/\Q (.bl (d.eqv e)) H
def zq (K:cW):R2:=fun x y H Q=>∃d e,eF K H x d/\eF K H y e/\d.canLay0=true/\e.canLay0=true/\d.depth<=150/\Q (.bl (!d.eqv e)) H
def EG (hu:X.A.units+150<cLine):OpR X (compareOp .Eq) (uV X.K):=by
 intro pins s σ H x y v u Q I rx ry h
 obtain⟨d,e,hd,he,cd,ce,dp,q⟩:=h
 obtain⟨as,ra⟩:=cN I hd rx
 obtain⟨bs,rb⟩:=cN I he ry
 exact PySem.SeqAt.compareEq_reads ra rb cd ce (by have:=XC d.depth e.depth;omega) ⟨.bl _,H,I,rfl,q⟩
def Fd (hu:X.A.units+150<cLine):OpR X (compareOp .NotEq) (zq X.K):=by
 intro pins s σ H x y v u Q I rx ry h
 obtain⟨d,e,hd,he,cd,ce,dp,q⟩:=h
 obtain⟨as,ra⟩:=cN I hd rx
 obtain⟨bs,rb⟩:=cN I he ry
 exact PySem.SeqAt.compareNe_reads ra rb cd ce (by have:=XC d.depth e.depth;omega) ⟨.bl _,H,I,rfl,q⟩
def bB.units150 {k:Nat}{A:RC}(r:bB k A):A.units+150<cLine:=by have:=r.un;omega
def ir (K:cW):R2:=fun x y H Q=>match x,y with
 |.ref a,y=>zq K (.ref a) y H Q
 |x,.ref b=>zq K x (.ref b) H Q
 |x,y=>mNe x y H Q
def oG (hu:X.A.units+150<cLine):OpR X (compareOp .NotEq) (ir X.K):=((Fd hu).or oNe).imp fun x y H Q q=>by
 unfold ir at q
 split at q
 ·exact .inl q
 ·exact .inl q
 ·exact .inr q
def qw:V->List V->Hp->VK->Prop:=fun x vs H Q=>match x,vs with|.int i,[]=>Q (.int (RG i)) H|_,_=>False
def ui:MtR X "int.bit_length" qw:=by
 intro pins s σ H x xs v us Q I rx rs q
 unfold qw at q
 split at q
 ·obtain⟨t,rfl⟩:=rx
  cases rs
  exact call_int_bit_length ⟨.int _,H,I.tok _,⟨_,rfl⟩,q⟩
 ·exact q.elim
def Bu:List V->Hp->VK->Prop:=fun xs H Q=>match xs with|[.int i,.int j]=>Q (.int (if j<i then j else i)) H|_=>False
def Ps (hc:X.calm=true):bS X (.builtin "min") Bu:=fun pins s σ H xs us Q I r q=>by
 unfold Bu at q
 split at q
 ·exact xj hc pins s σ H _ us Q I r ⟨_,_,rfl,q⟩
 ·exact q.elim
variable {o:Expr}{to:TE}{name:Str}{apos cpos:Pos}{T id:String}{rm:V->List V->Hp->VK->Prop}
def vH (pa:Vt T)(slot:Slot T name id)(hty:typeOf (.builtin id)=pure (.type "method_descriptor"))(hm:MtR X id rm)(ho:QE X o to)
 (hbase:attributeBase o name X.env (eval o X.env)=eval o X.env:=by rfl)(hline:(apos.endLine==cpos.line)=true:=by rfl):QE X (.Call (.Attribute o name apos) [] [] cpos) (sO X.K T rm to):=⟨Ip pa slot hty hm ho.out hbase hline⟩
end
def xm:(("":String):Str)=Sb:=by decide
theorem BP:∀xs:List Str,Str.join "" xs=xs.foldr (· ++ ·) Sb
 |[]=>rfl
 |[x]=>(Xp x).symm
 |x::y::r=>by
  show x++(("":String):Str)++Str.join "" (y::r)=x++(y::r).foldr (· ++ ·) Sb
  rw[BP (y::r),xm,Xp]
def tU (xs:List Str):Txt.join "" xs=xs.foldr (·++·) Sb:=(Xl (join_plain_closes "" xs)).trans (BP xs)
theorem sP:∀xs:List Str,(xs.foldr (· ++ ·) Sb).length=(xs.map (·.length)).sum
 |[]=>by decide
 |x::r=>by
  show(x++r.foldr (· ++ ·) Sb).length=_
  rw[strLen_append,sP r,RD,VR]
def aO {n:Nat}(h:n<=1000000):n<=sizeLine:=by rw[Sm];omega
def gy (k:Nat):((2^k:Nat):Int)=(2:Int)^k:=by simp
def Bl (k:Nat):(0:Int)<2^k:=by have:=Th k;rw[<-gy];omega
def kE {α:Type}{xs:List α}{i:Int}(h0:0<=i)(h1:i<xs.length):∃c,atI xs i=some c:=by
 unfold atI ixN
 rw[if_pos h0,if_pos h1]
 have:i.toNat<xs.length:=by omega
 exact⟨xs[i.toNat],by show xs[i.toNat]?=_;rw[QQ this]⟩
theorem lV:∀(xs:List Str),(∀x∈xs,x.length=1)->(xs.map (·.length)).sum=xs.length
 |[],_=>rfl
 |x::r,h=>by
  rw[RD,VR,RE,lV r fun y hy=>h y (QN _ hy),h x Rb];omega
def NF {p:Prop}[Decidable p]{a b:Prop}(h1:p->a)(h2:¬p->b):if decide p=true then a else b:=by
 by_cases h:p
 ·rw[if_pos (decide_eq_true h)];exact h1 h
 ·rw[if_neg (by rw[decide_eq_false h];decide)];exact h2 h
def AL (xs:List Str)(h:∀x∈xs,x.length=1):(Txt.join "" xs).length=xs.length:=by rw[tU,sP,lV xs h]
def xor_zero {x y:Nat}(h:x^^^y=0):x=y:=by
 have h2:x^^^y^^^y=0^^^y:=by rw[h]
 rwa [Nat.xor_assoc,Nat.xor_self,Nat.xor_zero,Nat.zero_xor]at h2
def vG (x y:Nat):x ||| y=(x &&& y)+(x^^^y):=by
 have h:∀n,∀x y:Nat,x<2^n->y<2^n->x ||| y=(x &&& y)+(x^^^y):=by
  intro n
  induction n with
  |zero=>intro x y hx hy;have:x=0:=by simpa using hx
         have:y=0:=by simpa using hy
         subst_vars;rfl
  |succ n ih=>
   intro x y hx hy
   have i:=ih (x/2) (y/2) (by omega) (by omega)
   rw[<-Vv (x ||| y) 2,<-Vv (x &&& y) 2,<-Vv (x^^^y) 2]
   rw[Nat.or_div_two,Nat.and_div_two,XB,i]
   have hm:(x ||| y)%2=(x &&& y)%2+(x^^^y)%2:=by
    have a:=@Nat.or_mod_two_pow x y 1
    have b:=@Nat.and_mod_two_pow x y 1
    have c:=@Nat.xor_mod_two_pow x y 1
    rw[Nat.pow_one]at a b c
    rw[a,b,c]
    rcases VB x with h|h<;>rcases VB y with h'|h'<;>rw[h,h']<;>rfl
   omega
 have h2:max x y<2^(max x y):=Nat.lt_two_pow_self
 exact h (max x y) x y (by omega) (by omega)
def iV (x y:Nat):SQ x y=((x^^^y:Nat):Int):=by
 unfold SQ Builtin.bitOr
 have e1:Sn x y=((x &&& y:Nat):Int):=by
  unfold Sn
  rw[decide_eq_true (by omega:(0:Int)<=x),decide_eq_true (by omega:(0:Int)<=y)];rfl
 have n (z:Nat):Rz z<0:=by unfold Rz;omega
 have nn (z:Nat):(Rz (Rz z)).toNat=z:=by unfold Rz;omega
 have e2:Sn (Rz x) (Rz y)=Rz ((x ||| y:Nat):Int):=by
  unfold Sn
  rw[decide_eq_false (by have:=n x;omega:¬0<=Rz x),decide_eq_false (by have:=n y;omega:¬0<=Rz y)]
  show Rz (((Rz (Rz x)).toNat ||| (Rz (Rz y)).toNat:Nat):Int)=_
  rw[nn,nn]
 rw[e1,e2,vG]
 unfold Rz
 omega
def vK (x:Nat):Sn x 1=((x%2:Nat):Int):=by
 unfold Sn
 rw[decide_eq_true (by omega:(0:Int)<=x),decide_eq_true (by decide:(0:Int)<=1)]
 show(((x:Int).toNat &&& (1:Int).toNat:Nat):Int)=_
 rw[Tq,show(1:Int).toNat=1 from rfl,Nat.and_one_is_mod]
section
variable {X:Cx}
def bB.units1 {k:Nat}{A:RC}(r:bB k A):A.units+1<cLine:=by have:=r.un;omega
def GJ:R2:=fun x y H Q=>∃a v,x=.ref a/\eE H a y (some v)/\Q v H
def Dp (hu:X.A.units+1<cLine):IxR X GJ:=by
 intro value slice pins s σ H x y v u Q I rx ry h hs
 obtain⟨a,w0,rfl,g,q⟩:=h
 obtain rfl:v=Re a:=rx
 have hT:=tK I g
 have h2:wpAny (model X.prog X.w) X.A (getItem (.ref a) u) (EP X pins σ Q) X.xe s:=wG hu I g ry fun w' s3 I3 rw'=>⟨w0,H,I3,rw',q⟩
 unfold subscriptTail
 refine pv ?_
 rw[getitemInPython_of_ne hT.not_modules]
 refine pv (Tp hT PySem.F.slot_dict_getitem.lookup ?_)
 have fin:wpAny (model X.prog X.w) X.A (subscripted slice false (.ref a) u) (fun r s₃=>wpAny (model X.prog X.w) X.A (letTemporaryGo value (.ref a) r>>=fun _=>pure r) (EP X pins σ Q) X.xe s₃) X.xe s:=by
  rw[hs]
  exact wpAny_operating (Rq h2 (fun r s₃ h₃=>pv (wpAny_letTemporaryGo (QL h₃))) fun _ _ x=>x)
 first
  |exact QL (pv fin)
  |exact pv (QL (pv fin))
  |exact pv fin
def bg (K:cW):R2:=fun x y H Q=>rIx K x y H Q\/GJ x y H Q
def aQ (hu:X.A.units+1<cLine):IxR X (bg X.K):=ER.or (Dp hu)
def CB:V->V->V->Hp->(Hp->Prop)->Prop:=fun o i v H Q=>∃a H',o=.ref a/\kh H a i v H'/\Q H'
def zf (hu:X.A.units+1<cLine):vJ X CB:=by
 intro pins s σ H o i v ov iv u Q I ro ri rv h
 obtain⟨a,H',rfl,g,q⟩:=h
 obtain rfl:ov=Re a:=ro
 exact wL hu I g ri rv fun s4 I4=>⟨H',I4,q⟩
def fB:V->V->V->Hp->(Hp->Prop)->Prop:=fun o i v H Q=>CH o i v H Q\/CB o i v H Q
def Es (hu:X.A.units+1<cLine):vJ X fB:=by
 intro pins s σ H o i v ov iv u Q I ro ri rv h
 rcases h with h|h
 ·exact zu pins s σ H o i v ov iv u Q I ro ri rv h
 ·exact zf hu pins s σ H o i v ov iv u Q I ro ri rv h
variable {o e:Expr}{to te:TE}{p pos:Pos}
def fG {ti:TE}{i:Expr}(hu:X.A.units+1<cLine)(ho:QE X o to)(hi:QE X i ti)(he:QE X e te)(hs:swapsWithSole [.Subscript o i p] e pos.line X.env=pure false:=by rfl)(hw:swappedStores [.Subscript o i p] e X.env=pure none:=by rfl)(ha:∀v,assign (.Subscript o i p) X.env v=(do let ov<-holding [v] (eval o X.env);let iv<-holding [v,ov] (eval i X.env);standAt p;holding [v,ov,iv] (setItem ov iv v);release [v,ov,iv] []):=by intro _;rfl):QS X (.Assign [.Subscript o i p] e pos) (aN te (gZ to ti fB)):=⟨wK he.out (HD ho.out hi.out (Es hu) ha) hs hw⟩
def Hc:R2:=fun y x H Q=>∃a o,x=.ref a/\eE H a y o/\Q (.bl o.isSome) H
def ET (hu:X.A.units+1<cLine):OpR X (compareOp .In) Hc:=by
 intro pins s σ H x y v u Q I rx ry h
 obtain⟨a,ov,rfl,g,q⟩:=h
 obtain rfl:u=Re a:=ry
 exact NY hu I g rx fun s3 I3=>⟨.bl ov.isSome,H,I3,rfl,q⟩
def tV:R2:=fun y x H Q=>∃a o,x=.ref a/\eE H a y o/\Q (.bl (!o.isSome)) H
def wu (hu:X.A.units+1<cLine):OpR X (compareOp .NotIn) tV:=by
 intro pins s σ H x y v u Q I rx ry h
 obtain⟨a,ov,rfl,g,q⟩:=h
 obtain rfl:u=Re a:=ry
 exact Dt hu I g rx fun s3 I3=>⟨.bl (!ov.isSome),H,I3,rfl,q⟩
def Hr (K:cW):R2:=fun y x H Q=>∃d ds,eF K H y d/\(eF K H x (.list ds)\/eF K H x (.tuple ds))/\TR ds=true/\d.canLay0=true/\d.depth<=140/\Q (.bl (ds.any fun e=>e.eqv d)) H
def uz (K:cW):R2:=fun y x H Q=>∃d ds,eF K H y d/\(eF K H x (.list ds)\/eF K H x (.tuple ds))/\TR ds=true/\d.canLay0=true/\d.depth<=140/\Q (.bl (!ds.any fun e=>e.eqv d)) H
def Gs (hu:X.A.units+150<cLine):OpR X (compareOp .In) (Hr X.K):=by
 intro pins s σ H x y v u Q I rx ry h
 obtain⟨d,ds,hd,hx,c1,c2,dp,q⟩:=h
 obtain⟨as,ra⟩:=cN I hd rx
 have hm:X.A.units+1+min (Ry ds) d.depth<cLine:=by have:=Vk (Ry ds) d.depth;omega
 rcases hx with hx|hx
 ·obtain⟨bs,rb⟩:=cN I hx ry
  exact PySem.SeqAt.in_list_reads rb ra c1 c2 hm ⟨.bl _,H,I,rfl,q⟩
 ·obtain⟨bs,rb⟩:=cN I hx ry
  exact PySem.SeqAt.in_tuple_reads rb ra c1 c2 hm ⟨.bl _,H,I,rfl,q⟩
def xp (hu:X.A.units+150<cLine):OpR X (compareOp .NotIn) (uz X.K):=by
 intro pins s σ H x y v u Q I rx ry h
 obtain⟨d,ds,hd,hx,c1,c2,dp,q⟩:=h
 obtain⟨as,ra⟩:=cN I hd rx
 have hm:X.A.units+1+min (Ry ds) d.depth<cLine:=by have:=Vk (Ry ds) d.depth;omega
 rcases hx with hx|hx
 ·obtain⟨bs,rb⟩:=cN I hx ry
  exact PySem.SeqAt.notIn_list_reads rb ra c1 c2 hm ⟨.bl _,H,I,rfl,q⟩
 ·obtain⟨bs,rb⟩:=cN I hx ry
  exact PySem.SeqAt.notIn_tuple_reads rb ra c1 c2 hm ⟨.bl _,H,I,rfl,q⟩
def uE (K:cW):R2:=fun y x H Q=>match y,x with
 |y,.ref a=>Hc y (.ref a) H Q\/Hr K y (.ref a) H Q
 |y,x=>Bv y x H Q
def NT (hu:X.A.units+150<cLine):OpR X (compareOp .In) (uE X.K):=((ET (by omega)).or ((Gs hu).or Qt)).imp fun x y H Q q=>by
 unfold uE at q
 split at q
 ·exact q.elim .inl fun z=>.inr (.inl z)
 ·exact .inr (.inr q)
def lq (K:cW):R2:=fun y x H Q=>tV y x H Q\/uz K y x H Q
def oa (hu:X.A.units+150<cLine):OpR X (compareOp .NotIn) (lq X.K):=(wu (by omega)).or (xp hu)
def kg:TE:=fun σ H Q=>wR σ H Q\/xh σ H Q
def lj:QE X (.Dict [] [] pos) kg:=⟨fun pins s σ H Q I h=>h.elim (By pins s σ H Q I) (Au pins s σ H Q I)⟩
def xn:bS X (.builtin "len") (fun xs H Q=>∃p kvs,xs=[.ref p]/\H p=some (.dT kvs)/\Q (.int kvs.length) H):=by
 intro pins s σ H xs us Q I r h
 obtain⟨a,kvs,rfl,e,q⟩:=h
 obtain⟨u,rfl,r1⟩:=fU r
 cases r1
 obtain⟨z,hd,ps,rel,dd⟩:=Ci I.hok e
 have hl:ps.length=kvs.length:=(Paired.length rel).symm
 have hT:s.TypeIs (.ref a) "dict":=dd.typeIs
 obtain⟨o,es,ep,ho,hc,hdat,he,his,hn⟩:=dd
 have hsz:es.size=kvs.length:=by rw[<-hl];have:=congrArg List.length he;simpa using this
 have M:MeetsIn X.prog X.w (Ub.«dict.__len__» ⟨[.ref a],[]⟩) (fun _ R s=>s.heap.get? a=some o/\R (.ok (.ret (.int kvs.length s.toks))) {s with toks:=s.toks+1}):=
  .of_wp fun A R s ⟨ho,h⟩=>by
   show wpAny _ _ (dictSize a>>=_) _ _ s
   unfold dictSize
   refine pv (pv (wpAny_dictEntries ho hdat (QL ?_)))
   show wpAny _ _ (Builtin.Dict.pendingCount a>>=_) _ _ s
   refine pv (wpAny_pendingCount_other hd ?_)
   refine wpAny_ret_mkInt ?_
   rw[Nat.add_zero,hsz];exact h
 refine Vu kind_len plain_len entry_len (args_len1 _) ?_
 unfold Ub.«len»
 refine pv (m:=oneArg "len" _) (QL ?_)
 refine pv (m:=callSpecial? (.ref a) (Tt "__len__")) (SI (name:=Tt "__len__") hT Yd
  (call_meetsIn Yd hT F.entry_dict_len (F.args_dict_len_1 _) M ⟨ho,?_⟩))
 show wpAny _ _ _ _ _ {s with toks:=s.toks+1}
 refine pv (SH (QL ?_))
 refine pv (wpAny_letGo ?_)
 have zz:kvs.length<=sizeLine:=z
 rw[Sm]at zz
 show wpAny _ _ (if ((kvs.length:Nat):Int)<0 then _ else _) _ _ _
 rw[if_neg (by omega)]
 show wpAny _ _ (if ((kvs.length:Nat):Int)>=2^63 then _ else _) _ _ _
 rw[if_neg (by omega)]
 exact pv (Xt (QL ⟨_,rfl,⟨.int kvs.length,H,I.tok _,⟨_,rfl⟩,q⟩⟩))
def dU (K:cW):List V->Hp->VK->Prop:=fun xs H Q=>HQ K xs H Q\/∃p kvs,xs=[.ref p]/\H p=some (.dT kvs)/\Q (.int kvs.length) H
def et:bS X (.builtin "len") (dU X.K):=NP.or xn
end
def zi {h:Heap}{a:Addr}{its:Array tx}(p:PlainL h a its):h.IsList a its:=let ⟨o,n,e,c,_,d⟩:=p;⟨o,e,c,n,d⟩
set_option genInjectivity false in
structure fg where
 qual:Str
 body:FuncBody
 scope:Scope
 ps:List Str
 ys:List Str
def pZ (t:fg)(cs:List Addr)(c:Addr)(fd:QD):Prop:=
 fd.qualname=t.qual/\fd.body=t.body/\fd.scope=t.scope/\fd.globals=mainGlobals/\fd.closure=t.ys.zip cs/\fd.code=.ref c/\fd.builtins=builtinsNs/\
  (∀us:List tx,us.length=t.ps.length->bindArgs fd ⟨us,[]⟩=pure (t.ps.zip us))/\cs.Nodup/\cs.length=t.ys.length
def gQ (f:Addr)(t:fg)(cs:List Addr)(c:Addr):HO:=.ext fun h=>∃od fd sl,h.get? f=some ⟨.type "function",od,.func fd,sl⟩/\pZ t cs c fd
def il (c:Addr)(qual:Str):HO:=.ext fun h=>∃o vs tk,h.get? c=some o/\o.data=.fields vs/\vs[1]?=some (.str qual tk)
def eX (c:Addr)(v:V):HO:=.ext fun h=>∃u o,ba v u/\h.get? c=some o/\o.data=.cell (some u)
abbrev cZ (H:Hp):List Addr->List V->Prop:=Paired fun c v=>H c=some (eX c v)
structure gh (H:Hp)(f:Addr)(t:fg)(cs:List Addr)(cvs:List V):Prop where
 ex:∃c,H f=some (gQ f t cs c)/\H c=some (il c t.qual)
 cells:cZ H cs cvs
def cZ.mem {H:Hp}{cs:List Addr}{cvs:List V}(h:cZ H cs cvs):∀c∈cs,∃v,H c=some (eX c v):=by
 induction h with
 |nil=>intro c hc;cases hc
 |cons r t ih=>
  intro c hc
  rcases QG.mp hc with rfl|hc
  ·exact⟨_,r⟩
  ·exact ih c hc
def cZ.get {H:Hp}{cs:List Addr}{cvs:List V}(h:cZ H cs cvs):∀{i:Nat}{v:V},cvs[i]? =some v->∃c,cs[i]? =some c/\H c=some (eX c v):=by
 induction h with
 |nil=>intro i v e;cases e
 | @cons c w cs ws r t ih=>
   intro i v e
   cases i with
   |zero=>cases e;exact⟨c,rfl,r⟩
   |succ i=>exact ih e
def dX (cs:List Addr)(H:Hp):Hp:=fun b=>if b∈cs then none else H b
def dF (cs:List Addr)(H H':Hp):Hp:=fun b=>if b∈cs then H b else H' b
def gY {cs:List Addr}{H:Hp}{b:Addr}(h:b∈cs):dX cs H b=none:=if_pos h
def dH {cs:List Addr}{H:Hp}{b:Addr}(h:b∉cs):dX cs H b=H b:=if_neg h
def jt {cs:List Addr}{H H':Hp}{b:Addr}(h:b∈cs):dF cs H H' b=H b:=if_pos h
def cT {cs:List Addr}{H H':Hp}{b:Addr}(h:b∉cs):dF cs H H' b=H' b:=if_neg h
def wn {cs:List Addr}{H H':Hp}{d:Addr}{o:HO}(h:d∉cs):dF cs H (upd H' d o)=upd (dF cs H H') d o:=by
 funext b
 by_cases hb:b∈cs
 ·have:b≠d:=fun e=>h (e▸hb)
  rw[jt hb,ap this,jt hb]
 ·rw[cT hb]
  by_cases e:b=d
  ·subst e;rw[ag,ag]
  ·rw[ap e,ap e,cT hb]
def cZ.notin {H:Hp}{cs:List Addr}{cvs:List V}(h:cZ H cs cvs){b:Addr}{o:HO}(e:H b=some o)(hn:∀φ,o≠.ext φ):b∉cs:=fun hb=>by
 obtain⟨v,ev⟩:=h.mem b hb
 rw[e]at ev
 exact hn _ (QZ ev)
def cZ.hide {H:Hp}{cs:List Addr}{cvs:List V}(h:cZ H cs cvs){b:Addr}{o:HO}(e:H b=some o)(hn:∀φ,o≠.ext φ):dX cs H b=some o:=by
 rw[dH (h.notin e hn)];exact e
def au.hide {H H':Hp}(cs:List Addr)(s:au (dX cs H) H'):au H (dF cs H H'):=fun b o e=>by
 by_cases hb:b∈cs
 ·rw[jt hb];exact e
 ·rw[cT hb];exact s _ _ (by rw[dH hb];exact e)
section
variable {P:Rh}{w:RF}{fs:List Addr}{H H':Hp}{h h':Heap}{cs:List Addr}{cvs:List V}
def Eb (hc:cZ H cs cvs)(ok:HOk P w H h):HOk P w (dX cs H) h:=fun b o e=>by
 by_cases hb:b∈cs
 ·rw[gY hb]at e;cases e
 ·rw[dH hb]at e
  exact(ok b o e).stay (fun c u _ q=>q) (fun c q=>hc.hide q fun φ z=>nomatch z) fun c xs q=>hc.hide q fun φ z=>nomatch z
def uu (hc:cZ H cs cvs)(hfs:∀b∈fs,H b=none)(ok:HOk P w H h)(u:Un fs [] (dX cs H) H' h h')(ok':HOk P w H' h'):Un fs [] H (dF cs H H') h h'/\HOk P w (dF cs H H') h':=by
 have obj:∀c∈cs,∃v o,H c=some (eX c v)/\h.get? c=some o/\h'.get? c=some o/\H' c=none:=fun c hm=>by
  obtain⟨v,ev⟩:=hc.mem c hm
  obtain⟨_,⟨o,eo⟩,_⟩:=(show bx P w H h c (eX c v)from ok c _ ev)
  refine⟨v,o,ev,eo,u.keep c o eo (gY hm) (fun z=>?_) (by simp),u.free c o eo (gY hm) (by simp)⟩
  rw[hfs c z]at ev;cases ev
 have nin:∀b,H b=none->b∉cs:=fun b e hb=>by
  obtain⟨v,ev⟩:=hc.mem b hb
  rw[e]at ev;cases ev
 have nin':∀b o,H' b=some o->b∉cs:=fun b o e hb=>by
  obtain⟨_,_,_,_,_,z⟩:=obj b hb
  rw[e]at z;cases z
 refine⟨⟨fun b o e n hb hx=>u.keep b o e (by rw[dH (nin b n)];exact n) hb hx,fun b o e n hb hx=>u.slot b o e (by rw[dH (nin b n)];exact n) hb hx,
  fun b o e n hx=>by rw[cT (nin b n)];exact u.free b o e (by rw[dH (nin b n)];exact n) hx,u.there,fun b xs e=>?_,fun b o v e=>?_,fun b ps e=>?_⟩,fun b o e=>?_⟩
 ·have hb:=hc.notin e fun φ z=>nomatch z
  rw[cT hb];exact u.tups b xs (by rw[dH hb];exact e)
 ·have hb:=hc.notin e fun φ z=>nomatch z
  rw[cT hb];exact u.frzs b o v (by rw[dH hb];exact e)
 ·have hb:=hc.notin e fun φ z=>nomatch z
  rw[cT hb];exact u.tbls b ps (by rw[dH hb];exact e)
 ·by_cases hb:b∈cs
  ·rw[jt hb]at e
   obtain⟨v,o',ev,e1,e2,_⟩:=obj b hb
   rw[e]at ev;cases ev
   obtain⟨φ1,_,φ3⟩:=(show bx P w H h b (eX b v)from ok b _ e)
   exact⟨φ3 h h' φ1 fun q hq=>by rw[e1]at hq;cases hq;exact e2,⟨o',e2⟩,φ3⟩
  ·rw[cT hb]at e
   exact(ok' b o e).stay (fun c u _ q=>q) (fun c q=>by rw[cT (nin' c _ q)];exact q) fun c xs q=>by rw[cT (nin' c _ q)];exact q
def CR.back {outer:List Env}{s s':If}{Q:VK}{E:XK}{r:Result}(hc:cZ H cs cvs)(hfs:∀b∈frs outer,H b=none)(ok:HOk P w H s.heap)
  (h:CR (CX1 P w) outer P w (dX cs H) s (fun v H'=>Q v (dF cs H H')) (fun c a H'=>E c a (dF cs H H')) r s'):CR (CX1 P w) outer P w H s Q E r s':=by
 cases r with
 |error e=>
  obtain⟨a,C,d,H',rfl,F,q⟩:=h
  obtain⟨u,k⟩:=uu hc hfs ok F.un F.hok
  have na:a∉cs:=fun hb=>by
   obtain⟨v,ev⟩:=hc.mem a hb
   obtain⟨_,⟨o,eo⟩,_⟩:=(show bx P w H s.heap a (eX a v)from ok a _ ev)
   rw[F.new]at eo;cases eo
  obtain⟨oe,vs,a0,T,oT,ts,t1,t2,td,t3,t4,t5,t6,t7,t8,t9,t10,t11⟩:=F.tr
  have nT:T∉cs:=fun hb=>by
   obtain⟨v,ev⟩:=hc.mem T hb
   obtain⟨_,⟨o,eo⟩,_⟩:=(show bx P w H s.heap T (eX T v)from ok T _ ev)
   rw[t10]at eo;cases eo
  exact⟨a,C,d,_,rfl,⟨F.os,F.bare,u,k,F.new,by rw[cT na];exact F.free,⟨oe,vs,a0,T,oT,ts,t1,t2,td,t3,t4,t5,t6,t7,t8,t9,t10,by rw[cT nT];exact t11⟩⟩,q⟩
 |ok fl=>
  cases fl with
  |ret u=>
   obtain⟨v,H',os,bare,un,hok,rv,q⟩:=h
   obtain⟨u',k⟩:=uu hc hfs ok un hok
   exact⟨v,_,os,bare,u',k,rv,q⟩
  |next=>exact Rw h
  |brk=>exact Rw h
  |cont=>exact Rw h
end
structure lH (P:Rh)(w:RF)(K:cW)(mg:Str->Option tx)(base:Heap)(k:Nat)(t:fg)(sp:Sp):Prop where
 run:∀(A:RC)(outer:List Env)(s:If)(H:Hp)(f:Addr)(cs:List Addr)(us:List tx)(vs cvs:List V)(Q:VK)(E:XK),bB k A->jc P w K mg base A outer s H->gh H f t cs cvs->bc vs us->vs.length=t.ps.length->
  sp (vs++cvs) (dX cs H) (fun v H'=>Q v (dF cs H H')) (fun c a H'=>E c a (dF cs H H'))->codeAny (model P w) A (.call (.ref f) ⟨us,[]⟩) (CR (CX1 P w) outer P w H s Q E) s
def iQ (N:List Str)(vs cvs:List V):St:=vs.map some++(VC (N.length- vs.length- cvs.length) none++cvs.map some)
def qR (P:Rh)(w:RF)(K:cW)(mg:Str->Option tx)(base:Heap)(N:List Str)(qual:Str)(scope:Scope)(f c:Addr)(cl:List (Str×Addr))(A:RC)(outer:List Env)(s:If)(H:Hp)(E:XK):Cx where
 prog:=P
 w:=w
 K:=K
 mg:=mg
 base:=base
 A:=A.deeper (Wh qual scope s.heap.objs.size f (.ref c) cl)
 N:=N
 s₀:=s
 H₀:=H
 env:=Wh qual scope s.heap.objs.size f (.ref c) cl
 outer:=outer
 stack:=Wh qual scope s.heap.objs.size f (.ref c) cl::outer
 ex:=[]
 calm:=true
 fn:=fun _=>false
 pn:=[]
 xe:=fun e s'=>wpAny (model P w) (A.deeper (Wh qual scope s.heap.objs.size f (.ref c) cl)) (leaving (Wh qual scope s.heap.objs.size f (.ref c) cl) e) (fun _ s''=>CX1 P w outer H s E e s'') (fun e' s''=>CX1 P w outer H s E e' s'') s'
structure mj (N ps ys:List Str)(sc:Scope):Prop where
 kind:sc.kind=.function
 co:sc.isCoroutine=false
 gen:sc.isGenerator=false
 nd:N.Nodup
 pre:N.take ps.length=ps
 suf:N.drop (N.length- ys.length)=ys
 le:ps.length+ys.length<=N.length
 par:∀x∈ps,sc.names.lookup x=some .local
 nocell:∀x∈sc.names,x.2≠.cell
 fr:∀x∈ys,sc.names.lookup x=some .free
 frs:∀y∈sc.names,y.2=.free->y.1∈ys
def nQ {ys:List Str}{cs:List Addr}(hl:cs.length=ys.length)(nd:ys.Nodup):∀{i:Nat}{y:Str}{c:Addr},ys[i]? =some y->cs[i]? =some c->(ys.zip cs).lookup y=some c:=by
 induction ys generalizing cs with
 |nil=>intro i y c e;cases e
 |cons a r ih=>
  intro i y c e1 e2
  cases cs with
  |nil=>cases e2
  |cons b cs=>
   cases i with
   |zero=>cases e1;cases e2;show(Sv _ ((_,_)::_))=_;rw[SD];simp
   |succ i=>
    have hne:y≠a:=fun e=>(RA.mp nd).1 (e▸Rp (show r[i]? =some y from e1))
    show(Sv y ((a,b)::r.zip cs))=_
    rw[SD,show(y==a)=false from by simpa using hne]
    exact ih (by simpa using hl) (RA.mp nd).2 (show r[i]? =some y from e1) (show cs[i]? =some c from e2)
def gs {ys:List Str}{cs:List Addr}:∀{y:Str}{c:Addr},(ys.zip cs).lookup y=some c->∃i:Nat,ys[i]? =some y/\cs[i]? =some c:=by
 induction ys generalizing cs with
 |nil=>intro y c e;cases e
 |cons a r ih=>
  intro y c e
  cases cs with
  |nil=>cases e
  |cons b cs=>
   have e:(Sv y ((a,b)::r.zip cs))=some c:=e
   rw[SD]at e
   by_cases hy:(y==a)=true
   ·rw[hy]at e;cases e;exact⟨0,by simpa using(Xl hy).symm,rfl⟩
   ·rw[show(y==a)=false from by simpa using hy]at e
    obtain⟨i,h1,h2⟩:=ih e
    exact⟨i+1,h1,h2⟩
def oo {ps:List Str}{us:List tx}(nd:ps.Nodup):∀{i:Nat}{x:Str}{u:tx},ps[i]? =some x->us[i]? =some u->(ps.zip us).reverse.lookup x=some u:=by
 induction ps generalizing us with
 |nil=>intro i x u e;cases e
 |cons a r ih=>
  intro i x u e1 e2
  cases us with
  |nil=>cases e2
  |cons b us=>
   show(Sv x ((a,b)::r.zip us).reverse)=_
   rw[Tn,List.lookup_append]
   cases i with
   |zero=>
    cases e1;cases e2
    have:(r.zip us).reverse.lookup a=none:=by
     rw[List.lookup_eq_none_iff]
     intro p hp
     have:=(Tg (Xj.mp hp)).1
     simp only[beq_eq_false_iff_ne,ne_eq,bne_iff_ne]
     intro e
     exact(RA.mp nd).1 (by rw[<-e]at this;exact this)
    rw[this];simp
   |succ i=>
    rw[ih (RA.mp nd).2 (show r[i]? =some x from e1) (show us[i]? =some u from e2)];rfl
section
variable {P:Rh}{w:RF}{K:cW}{mg:Str->Option tx}{base:Heap}{N ps ys:List Str}{qual:Str}{scope:Scope}{f c:Addr}{A:RC}{outer:List Env}{s:If}{H:Hp}{E:XK}{us:List tx}{vs cvs:List V}{cs:List Addr}{h1:Heap}{tk:Nat}
def El (S:mj N ps ys scope)(hd:A.handled=none)(e0:jc P w K mg base A outer s H)(ca:cZ H cs cvs)(hcs:cs.Nodup)(hcl:cs.length=ys.length)(hl:vs.length=ps.length)(r:bc vs us)
  (hns:h1.Ns s.heap.objs.size (fun x=>(ps.zip us).reverse.lookup x))(hk:∀b o,s.heap.get? b=some o->h1.get? b=some o):
  Inv (qR P w K mg base N qual scope f c (ys.zip cs) A outer s (dX cs H) E) [] (iQ N vs cvs) (dX cs H) {s with heap:=h1,toks:=tk}:=by
 have ndY:ys.Nodup:=by rw[<-S.suf];exact S.nd.sublist (List.drop_sublist _ _)
 have ndP:ps.Nodup:=by rw[<-S.pre];exact S.nd.sublist (WT _ _)
 have lcv:cvs.length=ys.length:=by rw[<-hcl];exact(Paired.length ca).symm
 have cellOf:∀c∈cs,∃v,h1.IsCell c v:=fun c hm=>by
  obtain⟨v,ev⟩:=ca.mem c hm
  obtain⟨⟨u,o,_,eo,hd⟩,_,_⟩:=(show bx P w H s.heap c (eX c v)from e0.hok c _ ev)
  exact⟨_,o,hk _ _ eo,hd⟩
 have memC:∀x c,(ys.zip cs).lookup x=some c->c∈cs:=fun x c e=>by
  obtain⟨i,_,e2⟩:=gs e
  exact Rp e2
 have noA:∀b:Addr,b∉(qR P w K mg base N qual scope f c (ys.zip cs) A outer s (dX cs H) E).ex:=fun b z=>absurd (show b∈([]:List Addr)from z) (by simp)
 have hid:∀b,H b=none->dX cs H b=none:=fun b e=>by
  by_cases hb:b∈cs
  ·exact gY hb
  ·rw[dH hb];exact e
 refine⟨⟨e0.mod,S.kind,rfl,rfl,gV _,fun y z c h1 h2=>?_,fun y hy=>?_,fun y c hf _=>?_,fun _=>hd,Wa e0.frames,.inr ⟨rfl,rfl⟩,fun b z=>absurd z (noA b),fun b o e=>⟨(e0.bs b o e).1,hid b (e0.bs b o e).2⟩,e0.bsz,fun b _ _=>noA b,fun b z=>absurd z (noA b),e0.funs,fun b hb=>hid b (e0.frf b hb)⟩,
  rfl,e0.bare,Un.kept hk,⟨_,hns,fun i y v q1 q2 q3=>?_⟩,fun y c h=>cellOf c (memC y c h),hid _ (e0.hok.fresh (gV _)),fun y c h=>gY (memC y c h),fun p hp=>absurd (show p∈([]:List (Addr×Obj))from hp) (by simp),(Eb ca e0.hok).kept hk,?_⟩
 ·obtain⟨i,e1,e2⟩:=gs (show(ys.zip cs).lookup y=some c from h1)
  obtain⟨j,e3,e4⟩:=gs (show(ys.zip cs).lookup z=some c from h2)
  have:i=j:=by
   obtain⟨a1,b1⟩:=QY.mp e2
   obtain⟨a2,b2⟩:=QY.mp e4
   exact(Xk hcs).mp (b1.trans b2.symm)
  subst this
  rw[e1]at e3;exact QZ e3
 ·have hy:scope.names.lookup y=some .cell\/scope.names.lookup y=some .free:=hy
  rcases hy with hy|hy
  ·exact absurd rfl (S.nocell _ (RU hy))
  ·obtain⟨i,hi,e⟩:=Wx.mp (S.frs _ (RU hy) rfl)
   have hi2:i<cs.length:=by omega
   exact⟨cs[i],nQ hcl ndY (QY.mpr ⟨hi,e⟩) (QQ hi2)⟩
 ·exact absurd (show false=true from hf) Rg
 ·unfold iQ at q2
  by_cases hi:i<vs.length
  ·rw[SX (by simpa using hi),Ro]at q2
   have ha:vs[i]?=some v:=by
    cases e:vs[i]? with
    |none=>rw[e]at q2;cases q2
    |some a=>rw[e]at q2;cases q2;rfl
   obtain⟨u,hu,rv⟩:=r.get ha
   have hp:ps[i]?=some y:=by
    rw[<-S.pre,VM (by omega)];exact q1
   exact⟨u,rv,.inl ⟨S.par y (Rp hp),oo ndP hp hu⟩⟩
  ·rw[SR (by simpa using hi),QC]at q2
   by_cases hj:i- vs.length<N.length- vs.length- cvs.length
   ·rw[SX (by simpa using hj),VU]at q2
    split at q2<;>cases q2
   ·rw[SR (by simpa using hj),Ur,Ro]at q2
    have ha:cvs[i- vs.length- (N.length- vs.length- cvs.length)]?=some v:=by
     cases e:cvs[i- vs.length- (N.length- vs.length- cvs.length)]? with
     |none=>rw[e]at q2;cases q2
     |some a=>rw[e]at q2;cases q2;rfl
    have hle:=S.le
    have hiN:i<N.length:=(QY.mp q1).1
    have hx:i- vs.length- (N.length- vs.length- cvs.length)=i- (N.length- ys.length):=by omega
    rw[hx]at ha
    have hy:ys[i- (N.length- ys.length)]?=some y:=by
     have e1:N.drop (N.length- ys.length)=ys:=S.suf
     have e2:(N.drop (N.length- ys.length))[i- (N.length- ys.length)]?=some y:=by
      rw[List.getElem?_drop]
      rw[show N.length- ys.length+(i- (N.length- ys.length))=i by omega];exact q1
     rw[e1]at e2;exact e2
    obtain⟨c,ec,hc⟩:=ca.get ha
    obtain⟨⟨u,o,ru,eo,hdo⟩,_,_⟩:=(show bx P w H s.heap c (eX c v)from e0.hok c _ hc)
    exact⟨u,ru,.inr ⟨.inr (S.fr y (Rp hy)),c,nQ hcl ndY hy ec,o,hk _ _ eo,hdo⟩⟩
 ·unfold iQ
  show _=N.length
  have:=S.le
  rw[QP,QP,QC,QC,Ur]
  omega
end
section
variable {P:Rh}{w:RF}{K:cW}{mg:Str->Option tx}{base:Heap}{k:Nat}{t:fg}{N:List Str}{sp:Sp}
def Du {body:Expr}(hb:t.body=.expr body)(S:mj N t.ps t.ys t.scope)
  (hbody:∀(f c:Addr)(cl:List (Str×Addr))(A:RC)(outer:List Env)(s:If)(H:Hp)(vs cvs:List V)(Q:VK)(E:XK),bB k (A.deeper (Wh t.qual t.scope s.heap.objs.size f (.ref c) cl))->vs.length=t.ps.length->cvs.length=t.ys.length->sp (vs++cvs) H Q E->
   ∃te,PE (qR P w K mg base N t.qual t.scope f c cl A outer s H E) body te/\te (iQ N vs cvs) H Q):lH P w K mg base (k+1) t sp:=by
 refine⟨fun A outer s H f cs us vs cvs Q E hr e0 ca r hl hsp=>?_⟩
 obtain⟨c,hf,hcc⟩:=ca.ex
 have KX:K.In s.heap:=e0.mod.kin.keeps fun b o e=>(e0.bs b o e).1
 have lim:s.heap.NoLimit:=e0.mod.nolimit.keeps fun b o e=>(e0.bs b o e).1
 obtain⟨⟨od,fd,sl,ho,h1,h2,h3,h4,h5,h6,h7,h8,h9,h10⟩,_,_⟩:=(show bx P w H s.heap f (gQ f t cs c)from e0.hok f _ hf)
 obtain⟨⟨o,vs',tk,hco,hdo,hv⟩,_,_⟩:=(show bx P w H s.heap c (il c t.qual)from e0.hok c _ hcc)
 have hcd:s.heap.CodeRec fd.code fd.qualname:=⟨c,o,vs',tk,h6,hco,hdo,by rw[h1];exact hv⟩
 refine SV (W.kla_callFunE (R:=CR (CX1 P w) outer P w (dX cs H) s (fun v H'=>Q v (dF cs H H')) (fun c a H'=>E c a (dF cs H H'))) hr.depth ho rfl (by rw[h3];exact S.co) (by rw[h3];exact S.gen) (h2.trans hb) hcd ?_) fun r s' h=>CR.back ca.cells e0.frf e0.hok h
 rw[h8 us (by rw[<-r.length];exact hl),h3,h4,h5,h1,h6,h7]
 refine QL (Xm S.nocell (fun y hy=>S.par y.1 (Tg hy).1) (fun h' hns hsb=>⟨lim.fresh _ hsb,?_⟩) S.kind)
 have hk:∀b o,s.heap.get? b=some o->h'.get? b=some o:=fun b o e=>hsb.extBut b o (Rf (QV e)) (Lt _ e)
 have lcv:cvs.length=t.ys.length:=by rw[<-h10];exact(Paired.length ca.cells).symm
 obtain⟨te,ht,hq⟩:=hbody f c (t.ys.zip cs) A outer s (dX cs H) vs cvs _ _ (hr.deeper _) hl lcv hsp
 have I:=El (tk:=s.toks+(t.ps.zip us).length) (qual:=t.qual) (f:=f) (c:=c) (E:=fun c a H'=>E c a (dF cs H H')) S hr.hd e0 ca.cells h9 h10 hl r hns hk
 show codeAny _ _ (.expr body (Wh t.qual t.scope s.heap.objs.size f (.ref c) (t.ys.zip cs))) _ _
 refine W.kla_codeExpr ?_
 refine Rq (ht [] _ (iQ N vs cvs) _ _ I hq) (fun v s' hs=>?_) fun e s' hs=>hs
 obtain⟨x,H',J,rv,q⟩:=hs
 exact⟨x,H',J.os,J.bare,J.base,J.hok,rv,q⟩
end
def BM (mg:Str->Option tx)(h:Heap):Prop:=∃bm ob,mg "__builtins__"=some (.ref bm)/\bm≠builtinsNs/\h.get? bm=some ob/\ob.cls=.type "module"/\ob.dict=some builtinsNs/\ob.data=.plain
section
variable {X:Cx}{pins:List (Addr×Obj)}{σ:St}{H:Hp}{s:If}{P c:Addr}{ps:Array tx}{t:fg}{cs:List Addr}{h':Heap}{tk:Nat}{fd:QD}
def yf {more:Array tx}(I:Inv X pins σ H s)(hP:H P=some (.tbl ps))(hx:WD P s.heap h')(hge:s.heap.objs.size<=c)(hlt:c<h'.objs.size)(hrec:h'.CodeRec (.ref c) t.qual)
  (htb:h'.get? P=some (Wp (ps++more)))(hfd:pZ t cs c fd):
  Inv X pins σ (upd (upd (upd H P (.tbl (ps++more))) c (il c t.qual)) h'.objs.size (gQ h'.objs.size t cs c)) {s with heap:=h'.push {cls:=.type "function",data:=.func fd},toks:=tk}:=by
 have hcn:H c=none:=I.hok.fresh hge
 have hfn:H h'.objs.size=none:=I.hok.fresh (TV (RX hge hlt))
 have ncP:c≠P:=(aq hP hcn).symm
 have nfP:h'.objs.size≠P:=(aq hP hfn).symm
 have ncf:c≠h'.objs.size:=Rf hlt
 have old:∀b o,s.heap.get? b=some o->b≠c/\b≠h'.objs.size:=fun b o e=>⟨Rf (Ra (QV e) hge),Rf (Ra (QV e) (TV (RX hge hlt)))⟩
 have keepP:∀b o,b≠P->s.heap.get? b=some o->(h'.push {cls:=.type "function",data:=.func fd}).get? b=some o:=fun b o hb e=>Lt _ (hx b o hb e)
 have neP:∀b,H b=none->b≠P:=fun b e z=>by rw[z,hP]at e;cases e
 have obj:∀b o,H b=some o->∃u,s.heap.get? b=some u:=fun b o e=>jn (I.hok b o e)
 have same:∀b o,H b=some o->b≠P->(upd (upd (upd H P (.tbl (ps++more))) c (il c t.qual)) h'.objs.size (gQ h'.objs.size t cs c)) b=some o:=fun b o e hb=>by
  rw[ap (aq e hfn),ap (aq e hcn),ap hb];exact e
 refine I.un ⟨fun b o e n hb hx'=>keepP b o (neP b n) e,fun b o e n hb hx'=>⟨o.slots,keepP b o (neP b n) e⟩,fun b o e n hx'=>?_,fun b o e hx'=>?_,fun b xs e=>same b _ e (bw e hP (fun z=>nomatch z)),fun b o u e=>same b _ e (bw e hP (fun z=>nomatch z)),fun b qs e=>?_⟩ fun b o e=>?_
 ·rw[ap (old b o e).2,ap (old b o e).1,ap (neP b n)];exact n
 ·by_cases hb:b=P
  ·subst hb;exact⟨_,Lt _ htb⟩
  ·exact⟨o,keepP b o hb e⟩
 ·by_cases hb:b=P
  ·subst hb
   rw[hP]at e;cases e
   exact⟨more,by rw[ap nfP.symm,ap ncP.symm,ag]⟩
  ·exact⟨#[],by rw[same b _ e hb];simp⟩
 ·by_cases hf:b=h'.objs.size
  ·subst hf
   rw[ag]at e;cases e
   refine⟨⟨_,fd,_,QX _ rfl,hfd⟩,⟨_,QX _ rfl⟩,?_⟩
   rintro h1 h2 ⟨od,fd',sl,e1,e2⟩ k
   exact⟨od,fd',sl,k _ e1,e2⟩
  ·rw[ap hf]at e
   by_cases hc:b=c
   ·subst hc
    rw[ag]at e;cases e
    obtain⟨c2,oc,vs,tq,e0,e1,e2,e3⟩:=hrec
    cases e0
    refine⟨⟨oc,vs,tq,Lt _ e1,e2,e3⟩,⟨_,Lt _ e1⟩,?_⟩
    rintro h1 h2 ⟨o,vs,tk,a1,a2,a3⟩ k
    exact⟨o,vs,tk,k _ a1,a2,a3⟩
   ·rw[ap hc]at e
    by_cases hp:b=P
    ·subst hp
     rw[ag]at e;cases e
     exact Lt _ htb
    ·rw[ap hp]at e
     refine(I.hok b o e).stay (fun a u ha q=>keepP a u ?_ q) (fun a q=>same a _ q (bw q hP (fun z=>nomatch z))) fun a xs q=>same a _ q (bw q hP (fun z=>nomatch z))
     rcases ha with rfl|ha
     ·exact hp
     ·exact bw ha hP (fun z=>nomatch z)
def AJ (I:Inv X pins σ H s)(hk:∀b o,s.heap.get? b=some o->h'.get? b=some o)(hsz:s.heap.objs.size<=h'.objs.size)(hfd:pZ t cs c fd):
  Inv X pins σ (upd H h'.objs.size (gQ h'.objs.size t cs c)) {s with heap:=h'.push {cls:=.type "function",data:=.func fd},toks:=tk}:=by
 refine I.laid (a:=h'.objs.size) (o:=gQ h'.objs.size t cs c) (fun b u e=>Lt _ (hk b u e)) hsz ⟨⟨_,fd,_,QX _ rfl,hfd⟩,⟨_,QX _ rfl⟩,?_⟩
 rintro h1 h2 ⟨od,fd',sl,e1,e2⟩ k
 exact⟨od,fd',sl,k _ e1,e2⟩
end
def Gq (P:Addr)(pos:Pos)(t:fg)(cs:List Addr):TE:=fun _ H Q=>∃ps,H P=some (.tbl ps)/\TriplesOk ps.toList/\
 ((codeAmong pos ps.toList=none/\∀c f,H c=none->H f=none->c≠f->Q (.ref f) (upd (upd (upd H P (.tbl (ps++#[rawInt pos.line,rawInt pos.col,.ref c]))) c (il c t.qual)) f (gQ f t cs c)))\/
  ∃c,codeAmong pos ps.toList=some (.ref c)/\∀f,H f=none->Q (.ref f) (upd H f (gQ f t cs c)))
section
variable {X:Cx}{c0 P:Addr}{params:Arguments}{scope:Scope}{pos:Pos}{t:fg}{cs:List Addr}
def DK {pins:List (Addr×Obj)}{σ:St}{H:Hp}{s:If}{ps:Array tx}(I:Inv X pins σ H s)(hP:H P=some (.tbl ps))(B:BM X.mg X.base):
  s.heap.get? P=some (Wp ps)/\s.heap.Ns mainGlobals X.mg/\mainGlobals≠P/\s.heap.BuiltinsAt X.mg P:=by
 have hPo:s.heap.get? P=some (Wp ps):=I.hok P _ hP
 have hg:s.heap.Ns mainGlobals X.mg:=I.mod.glob.keeps I.bk
 have hgP:mainGlobals≠P:=fun q=>by
  obtain⟨o,es,ep,e,hd,_⟩:=hg
  rw[q,hPo]at e;cases e;cases hd
 obtain⟨bm,ob,b1,b2,b3,b4,b5,b6⟩:=B
 have b3':=I.bk _ _ b3
 refine⟨hPo,hg,hgP,bm,ob,b1,b2,fun q=>?_,fun q=>?_,b3',b4,b5,b6⟩
 ·obtain⟨o,es,ep,e,hd,_⟩:=hg
  rw[q,e]at b3';cases b3';rw[hd]at b6;cases b6
 ·rw[q,hPo]at b3';cases b3';cases b4
def Jl {body:Expr}(B:BM X.mg X.base)(C:UE X.base c0 P)(hcode:X.env.code=.ref c0)(hcl:closureFor scope X.env=pure (t.ys.zip cs))(nd:cs.Nodup)(hl:cs.length=t.ys.length)
  (hq:X.env.qual++"<lambda>"=t.qual)(hb:t.body=.expr body)(hs:t.scope=scope)
  (hbind:∀(cl:List (Str×Addr))(pm cdv ct:tx)(us:List tx),us.length=t.ps.length->bindArgs (W.kla_fn "<lambda>" t.qual params body scope cl pm cdv ct) ⟨us,[]⟩=pure (t.ps.zip us))
  (hdef:defaultsOf params X.env=([],[]):=by rfl):QE X (.Lambda params body scope pos) (Gq P pos t cs):=⟨fun pins s σ H Q I h=>by
 obtain⟨ps,hP,ht,h⟩:=h
 obtain⟨hPo,hg,hgP,hB⟩:=DK I hP B
 have hfd:∀(pm ct:tx)(c:Addr),pZ t cs c (W.kla_fn "<lambda>" t.qual params body scope (t.ys.zip cs) pm (.ref c) ct):=fun pm ct c=>⟨rfl,hb.symm,hs.symm,rfl,rfl,rfl,rfl,hbind _ _ _ _,nd,hl⟩
 refine W.kla_eval hdef ?_
 rw[hq]
 rcases h with⟨hn,q⟩|⟨c,hf,q⟩
 ·refine W.kla_makeFunction hcl I.ok.glob hg hcode (C.keeps I.bk) hPo ht hn hgP hB fun c ctv h' tk hx hge hlt hrec htb=>?_
  exact⟨.ref h'.objs.size,_,yf I hP hx hge hlt hrec htb (hfd _ _ _),rfl,q c h'.objs.size (I.hok.fresh hge) (I.hok.fresh (TV (RX hge hlt))) (Rf hlt)⟩
 ·refine W.kla_makeFunctionHit hcl I.ok.glob hg hcode (C.keeps I.bk) hPo ht hf hB fun ctv h' tk hk hsz=>?_
  exact⟨.ref h'.objs.size,_,AJ I hk hsz (hfd _ _ _),rfl,q h'.objs.size (I.hok.fresh hsz)⟩⟩
end
section
variable {X:Cx}{k:Nat}{E:St->XK}{x:Str}{p pos:Pos}{e:Expr}{es:List Expr}{ta:TE}
abbrev iW:=List (fg×Sp)
def uX (ks:iW)(f:Addr)(vs:List V)(H:Hp)(Q:VK)(E:XK):Prop:=∃ts∈ks,∃cs cvs,gh H f ts.1 cs cvs/\vs.length=ts.1.ps.length/\ts.2 (vs++cvs) (dX cs H) (fun v H'=>Q v (dF cs H H')) (fun c a H'=>E c a (dF cs H H'))
def qd (ks:iW)(E:St->XK)(ta:TE)(t:TA):TE:=fun σ H Q=>ta σ H fun x H1=>∃f,x=.ref f/\(∃ts∈ks,∃cs cvs,gh H1 f ts.1 cs cvs)/\t σ H1 fun vs H2=>uX ks f vs H2 Q (E σ)
def mF {P:Rh}{w:RF}{H:Hp}{h:Heap}{f:Addr}{t:fg}{cs:List Addr}{cvs:List V}(ok:HOk P w H h)(c:gh H f t cs cvs):W.FnAt f h:=by
 obtain⟨c',hf,_⟩:=c.ex
 obtain⟨⟨od,fd,sl,ho,_⟩,_,_⟩:=(show bx P w H h f (gQ f t cs c')from ok f _ hf)
 exact⟨_,_,_,_,ho⟩
def nZ (P:Rh)(w:RF)(K:cW)(mg:Str->Option tx)(base:Heap)(k:Nat)(ks:iW):Prop:=∀ts∈ks,lH P w K mg base k ts.1 ts.2
def rB {ks:iW}{t:TA}(hk:nZ X.prog X.w X.K X.mg X.base k ks)(hr:bB k X.A)(hx:eA (CX1 X.prog X.w) X E)(hg:QE X (.Name x p) ta)(ha:QA X (e::es) t)(hs:bz (e::es)=true:=by rfl):
  QE X (.Call (.Name x p) (e::es) [] pos) (qd ks E ta t):=⟨fun pins s σ H Q I h=>by
 have h':(cf e&&bz es)=true:=hs
 refine RP (thn (hg.out pins s σ H _ I h) fun u s1 ⟨y,H1,I1,ry,f,ey,⟨ts,hts,cs,cvs,ca⟩,q⟩=>?_)
 subst ey
 obtain rfl:u=Re f:=ry
 refine W.callWith_F (mF I1.hok ca) (thn (ha.out pos pins s1 σ H1 _ I1 q) fun us s2 ⟨vs,H2,I2,rv,ts2,hm2,cs2,cvs2,ca2,hl,hsp⟩=>⟨mF I2.hok ca2,?_⟩)
  (bj (Gt.mp h').1 es X.env) (cj (Gt.mp h').2)
 refine WB (SV ((hk ts2 hm2).run X.A X.stack s2 H2 f cs2 us vs cvs2 Q (E σ) hr I2.env0 ca2 rv hl hsp) fun r s' hq=>?_)
 cases r with
 |error e=>exact hx pins σ H2 s2 e s' I2 hq
 |ok fl=>
  cases fl with
  |ret u=>exact I2.after hq
  |next=>exact Rw hq
  |brk=>exact Rw hq
  |cont=>exact Rw hq⟩
end
structure nG where
 nx:St->Hp->Prop
 rt:St->VK
abbrev TSM:=nG->St->Hp->Prop
def SPM (X:Cx)(pins:List (Addr×Obj))(D:nG)(f:Flow)(s':If):Prop:=
 match f with
 |.next=>∃σ' H',Inv X pins σ' H' s'/\D.nx σ' H'
 |.ret u=>∃v σ' H',Inv X pins σ' H' s'/\ba v u/\D.rt σ' v H'
 |_=>False
structure QM (X:Cx)(st:Stmt)(t:TSM):Prop where
 out:∀(pins:List (Addr×Obj))(s:If)(σ:St)(H:Hp)(D:nG),Inv X pins σ H s->t D σ H->wpAny (model X.prog X.w) X.A (exec st X.env) (SPM X pins D) X.xe s
structure QMs (X:Cx)(st:List Stmt)(t:TSM):Prop where
 out:∀(pins:List (Addr×Obj))(s:If)(σ:St)(H:Hp)(D:nG),Inv X pins σ H s->t D σ H->wpAny (model X.prog X.w) X.A (execs st X.env) (SPM X pins D) X.xe s
def HK (t u:TSM):TSM:=fun D σ H=>t {D with nx:=fun σ' H'=>u D σ' H'} σ H
def CK (t:TS):TSM:=fun D σ H=>t {nx:=D.nx,rt:=fun _ _=>False} σ H
def EM (te:TE):TSM:=fun D σ H=>te σ H (D.rt σ)
section
variable {X:Cx}{st:Stmt}{sts l m:List Stmt}{t u:TSM}{tS:TS}{e c:Expr}{te:TE}{tc:TT}{pos:Pos}
def FB (h:QS X st tS):QM X st (CK tS):=⟨fun pins s σ H D I hq=>thn (h.out pins s σ H _ I hq) fun f s1 q=>by
 cases f with
 |next=>exact q
 |ret v=>obtain⟨_,_,_,_,_,z⟩:=q;exact z.elim
 |brk=>obtain⟨_,_,_,z⟩:=q;exact z.elim
 |cont=>obtain⟨_,_,_,z⟩:=q;exact z.elim⟩
def JY (h:QE X e te):QM X (.Return (some e) pos) (EM te):=⟨fun pins s σ H D I hq=>
 XU (thn (h.out pins s σ H _ I hq) fun v s1 ⟨x,H1,I1,r1,q1⟩=>⟨x,σ,H1,I1,r1,q1⟩)⟩
def GC (h1:QM X st t)(h2:QMs X sts u):QMs X (st::sts) (HK t u):=⟨fun pins s σ H D I h=>by
 refine Uy (thn (h1.out pins s σ H _ I h) fun f s1 q=>?_)
 cases f with
 |next=>
  obtain⟨σ',H',I',q⟩:=q
  exact h2.out pins s1 σ' H' D I' q
 |ret v=>exact q
 |brk=>exact q
 |cont=>exact q⟩
def IH (h1:QM X st t):QMs X [st] t:=⟨fun pins s σ H D I h=>by
 refine Uy (thn (h1.out pins s σ H D I h) fun f s1 q=>?_)
 cases f with
 |next=>exact TZ q
 |ret v=>exact q
 |brk=>exact q
 |cont=>exact q⟩
end
def fA:List (Nat×Addr)->St->Hp->Hp
 |[],_,H=>H
 |(i,c)::r,σ,H=>match σ[i]? with
  |some (some v)=>fA r σ (upd H c (eX c v))
  |_=>fA r σ H
theorem lO {P:Rh}{w:RF}{fs:List Addr}{H:Hp}{h h':Heap}{σ:St}:∀(cs:List (Nat×Addr))(H':Hp),(cs.map (·.2)).Nodup->(∀p∈cs,H' p.2=none/\h.objs.size<=p.2/\∀v,σ[p.1]? =some (some v)->∃u o,ba v u/\h'.get? p.2=some o/\o.data=.cell (some u))->
  Un fs [] H H' h h'->HOk P w H' h'->Un fs [] H (fA cs σ H') h h'/\HOk P w (fA cs σ H') h'
 |[],H',_,_,u,ok=>⟨u,ok⟩
 |(i,c)::r,H',nd,hc,u,ok=>by
  unfold fA
  have ndr:=(RA.mp nd).2
  have hcr:∀p∈r,H' p.2=none/\h.objs.size<=p.2/\∀v,σ[p.1]? =some (some v)->∃u o,ba v u/\h'.get? p.2=some o/\o.data=.cell (some u):=fun p hp=>hc p (QN _ hp)
  split
  ·rename_i v hv
   obtain⟨hn,hge,hcell⟩:=hc (i,c) Rb
   have hn:H' c=none:=hn
   have hge:h.objs.size<=c:=hge
   obtain⟨uv,o,ru,eo,hd⟩:=hcell v hv
   have eo:h'.get? c=some o:=eo
   refine lO r (upd H' c (eX c v)) ndr (fun p hp=>⟨?_,(hcr p hp).2⟩) ⟨u.keep,u.slot,fun b ob e n hx=>?_,u.there,fun b xs e=>?_,fun b ob z e=>?_,fun b ps e=>?_⟩ fun b ob e=>?_
   ·have:p.2≠c:=fun z=>(RA.mp nd).1 (by rw[<-z];exact RJ.mpr ⟨p,hp,rfl⟩)
    rw[ap this];exact(hcr p hp).1
   ·rw[ap (Rf (Ra (QV e) hge))];exact u.free b ob e n hx
   ·have z:=u.tups b xs e;rw[ap (aq z hn)];exact z
   ·have z:=u.frzs b ob _ e;rw[ap (aq z hn)];exact z
   ·obtain⟨more,z⟩:=u.tbls b ps e;exact⟨more,by rw[ap (aq z hn)];exact z⟩
   ·by_cases hb:b=c
    ·subst hb
     rw[ag]at e;cases e
     refine⟨⟨uv,o,ru,eo,hd⟩,⟨o,eo⟩,?_⟩
     rintro h1 h2 ⟨u',o',r',e',d'⟩ k
     exact⟨u',o',r',k _ e',d'⟩
    ·rw[ap hb]at e
     exact(ok b ob e).stay (fun a q _ z=>z) (fun a q=>by rw[ap (aq q hn)];exact q) fun a xs q=>by rw[ap (aq q hn)];exact q
  ·exact lO r H' ndr hcr u ok
def Fun.okM {P:Rh}{w:RF}{K:cW}{mg:Str->Option tx}{base:Heap}{x qual:Str}{st:Stmt}{f c0:Addr}{fd:QD}{N ps:List Str}{k:Nat}{sp:Sp}{caps:Nat->List (Nat×Addr)}(F:Fun K x qual st f fd)(hcd:fd.code=.ref c0)(S:aw N ps (am st))(len:∀vs H Q E,sp vs H Q E->vs.length=ps.length)
  (hcaps:∀(L:Nat)(p:Nat×Addr),p∈caps L->∃y,N[p.1]? =some y/\(am st).names.lookup y=some .cell/\(cellsFrom (L+1) (am st).names []).lookup y=some p.2)(hnd:∀L,((caps L).map (·.2)).Nodup)
  (hbody:∀(A:RC)(outer:List Env)(s:If)(H:Hp)(vs:List V)(Q:VK)(E:XK),bB k (A.deeper (envOfC qual (am st) s.heap.objs.size f (.ref c0)))->sp vs H Q E->
   ∃t,QMs (fw (CX1 P w) P w K mg base N qual (am st) f (.ref c0) A outer s H E) (bH st) t/\t {nx:=fun σ H'=>(∀p∈caps s.heap.objs.size,H' p.2=none)->Q .non (fA (caps s.heap.objs.size) σ H'),rt:=fun σ v H'=>(∀p∈caps s.heap.objs.size,H' p.2=none)->Q v (fA (caps s.heap.objs.size) σ H')} (cO N vs) H):aG P w K mg base (CX1 P w) (k+1) f fd ps sp:=by
 obtain⟨oc,od,kV,doc,pm,an,cdv,ct,osl,rfl,lk,hcd'⟩:=F.ex
 obtain rfl:cdv=.ref c0:=hcd
 refine⟨len,fun A outer s H args us vs Q E hr e0 hb r hsp=>?_⟩
 have hl:=len _ _ _ _ hsp
 have KX:K.In s.heap:=e0.mod.kin.keeps fun b o e=>(e0.bs b o e).1
 have lim:s.heap.NoLimit:=e0.mod.nolimit.keeps fun b o e=>(e0.bs b o e).1
 have hkind:∀y∈ps.zip us,(am st).names.lookup y.1=some .local\/((am st).names.lookup y.1=some .cell/\((cellsFrom (s.heap.objs.size+1) (am st).names []).lookup y.1).isSome=true):=fun⟨n,v⟩ hy=>by
  rcases S.par n (Tg hy).1 with q|q
  ·exact .inl q
  ·exact .inr ⟨q,Vs _ _ _ (.inl q)⟩
 refine Xa hr.depth (KX _ _ lk) rfl S.co S.gen rfl (W.codeRec_of KX hcd') (hb _ _ _ _ ?_)
 refine Wf S.kind hkind fun env he s1 x=>?_
 subst he
 refine⟨lim.keeps x.toInCall.keep,codeAny_func ?_⟩
 obtain⟨t,ht,hq⟩:=hbody A outer s H vs Q E (hr.deeper _) hsp
 have I:Inv (fw (CX1 P w) P w K mg base N qual (am st) f (.ref c0) A outer s H E) [] (cO N vs) H s1:=pE S hr.hd e0 hl r x
 refine Rq (ht.out [] s1 (cO N vs) H _ I hq) (fun fl s' hs=>?_) fun e s' hs=>hs
 have fin:∀{σ':St}{H':Hp}{v:V}{u:tx},Inv (fw (CX1 P w) P w K mg base N qual (am st) f (.ref c0) A outer s H E) [] σ' H' s'->ba v u->((∀p∈caps s.heap.objs.size,H' p.2=none)->Q v (fA (caps s.heap.objs.size) σ' H'))->CE outer P w H s Q u s':=
  fun{σ' H' v u} J rv q=>by
   have free:∀p∈caps s.heap.objs.size,H' p.2=none:=fun p hp=>by
    obtain⟨y,_,_,hc⟩:=hcaps _ p hp
    exact J.freeC y p.2 hc
   have hcond:∀p∈caps s.heap.objs.size,H' p.2=none/\s.heap.objs.size<=p.2/\∀v,σ'[p.1]? =some (some v)->∃u o,ba v u/\s'.heap.get? p.2=some o/\o.data=.cell (some u):=fun p hp=>by
    obtain⟨y,hy,hk,hc⟩:=hcaps _ p hp
    refine⟨free p hp,J.ok.cab y p.2 rfl hc,fun v hv=>?_⟩
    obtain⟨m,_,hloc⟩:=J.loc
    obtain⟨u',r',lk'⟩:=hloc p.1 y v hy hv (.inr (.inl hk))
    rcases lk' with⟨z,_⟩|⟨_,c,ec,o,eo,hd⟩
    ·have z:(am st).names.lookup y=some .local:=z
     rw[hk]at z;cases z
    ·have ec:(cellsFrom (s.heap.objs.size+1) (am st).names []).lookup y=some c:=ec
     rw[hc]at ec;cases ec
     exact⟨u',o,r',eo,hd⟩
   obtain⟨un,ok⟩:=lO (P:=P) (w:=w) (σ:=σ') (caps s.heap.objs.size) H' (hnd _) hcond J.base J.hok
   exact⟨v,_,J.os,J.bare,un,ok,rv,q free⟩
 cases fl with
 |ret u=>
  obtain⟨v,σ',H',J,rv,q⟩:=hs
  exact fin J rv q
 |next=>
  obtain⟨σ',H',J,q⟩:=hs
  exact fin (v:=V.non) (u:=SN) J rfl q
 |brk=>exact Rw hs
 |cont=>exact Rw hs
def xu {P:Rh}{w:RF}{K:cW}{mg mb:Str->Option tx}{CX:CXT}{k:Nat}{fa a:Addr}{fd:QD}{x:Str}{sp:Sp}{s₁:If}{vs:List tx}{ns:List Int}{tabs:List (Addr×Addr)}
  (KX:K.In s₁.heap)(hns:s₁.heap.Ns mainGlobals mg)(hb:s₁.heap.Ns builtinsNs mb)(hbb:∀x:Str,x≠"__name__"->mb x=bootBuiltins x)(hlim:s₁.heap.NoLimit)(hg:s₁.gens=#[])(hB:BM mg s₁.heap)
  (hT:∀q∈tabs,UE s₁.heap q.1 q.2/\s₁.heap.get? q.2=some (Wp #[]))(hKT:Wr K=true)
  (ha:s₁.heap.get? a=some {cls:=.type "list",data:=.seq vs.toArray})(hi:Wc vs ns)(hl:ns.length<=sizeLine)(hr:bB k callerA)
  (F:∀base:Heap,K.In base->base.Ns mainGlobals mg->BM mg base->(∀q∈tabs,UE base q.1 q.2)->aG P w K mg base CX k fa fd [x] sp)(hbind:∀(s:If)(u:tx),WM s fd ⟨[u],[]⟩ [(x,u)])
  (hsp:∀H:Hp,(∀q∈tabs,H q.2=some (.tbl #[]))->SqL K H a (ns.map V.int)->sp [.ref a] H (fun v _=>v=.bl true) fun _ _ _=>False)
  (hCX:∀H e s',CX [] H s₁ (fun _ _ _=>False) e s'->False):
  codeAny (model P w) callerA (.call (.ref fa) ⟨[.ref a],[]⟩) (fun r s'=>r=.ok (.ret (.bool true))/\OldK s₁.heap s'.heap/\s'.os=s₁.os/\Uu s'.gens) s₁:=by
 have rv:=kH hi
 have lenV:=hi.length
 have tabK:∀q∈tabs,K.lookup q.2=none:=fun q hq=>by
  cases e:K.lookup q.2 with
  |none=>rfl
  |some o=>
   have e2:=KX _ _ e
   rw[(hT q hq).2]at e2;cases e2
   have:=So.mp hKT _ (W.mem_of_lookupK e)
   exact absurd (show false=true from this) Rg
 have tabA:∀q∈tabs,q.2≠a:=fun q hq e=>by
  have e2:=(hT q hq).2
  rw[e,ha]at e2;cases e2
 have core:∀H:Hp,(∀q∈tabs,H q.2=some (.tbl #[]))->SqL K H a (ns.map V.int)->HOk P w H s₁.heap->(∀b,H b≠none->(b=a/\∃o xs,H b=some (.frz o (.lst xs)))\/∃q∈tabs,q.2=b)->(∀b,H b≠none->K.lookup b=none)->
   codeAny (model P w) callerA (.call (.ref fa) ⟨[.ref a],[]⟩) (fun r s'=>r=.ok (.ret (.bool true))/\OldK s₁.heap s'.heap/\s'.os=s₁.os/\Uu s'.gens) s₁:=by
  intro H hO hS hok hA hK
  have base_of:∀{b:Addr}{o:Obj},s₁.heap.get? b=some o->H b=none->(gS s₁.heap H).get? b=some o:=fun e n=>zU e n
  have noA:∀{b:Addr}{o:Obj},s₁.heap.get? b=some o->o.cls≠.none->o.cls≠.type "list"->H b=none:=fun{b o} e c1 c2=>by
   cases q:H b with
   |none=>rfl
   |some u=>
    rcases hA b (by rw[q];simp)with⟨rfl,_⟩|⟨p,hp,rfl⟩
    ·rw[ha]at e;cases e;exact absurd rfl c2
    ·rw[(hT p hp).2]at e;cases e;exact absurd rfl c1
  have noD:∀{b:Addr}{o:Obj}{es:Array DictEntry}{ep:Nat},s₁.heap.get? b=some o->o.data=.dict es ep->H b=none:=fun{b o es ep} e d=>by
   cases q:H b with
   |none=>rfl
   |some u=>
    rcases hA b (by rw[q];simp)with⟨rfl,_⟩|⟨p,hp,rfl⟩
    ·rw[ha]at e;cases e;cases d
    ·rw[(hT p hp).2]at e;cases e;cases d
  have nsK:∀{b:Addr}{m:Str->Option tx},s₁.heap.Ns b m->(gS s₁.heap H).Ns b m:=fun{b m}⟨o,es,ep,e,d,r⟩=>⟨o,es,ep,base_of e (noD e d),d,r⟩
  have hKb:K.In (gS s₁.heap H):=fun b o e=>base_of (KX b o e) (by
   cases q:H b with
   |none=>rfl
   |some u=>rw[hK b (by rw[q];simp)]at e;cases e)
  have hBb:BM mg (gS s₁.heap H):=by
   obtain⟨bm,ob,b1,b2,b3,b4,b5,b6⟩:=hB
   exact⟨bm,ob,b1,b2,base_of b3 (noA b3 (by rw[b4];intro z;cases z) (by rw[b4];intro z;exact absurd (Wt z) (by decide))),b4,b5,b6⟩
  have hCb:∀q∈tabs,UE (gS s₁.heap H) q.1 q.2:=fun q hq=>by
   obtain⟨o,vs,file,tf,flags,tg,inF,text,tt,e1,e2,r⟩:=(hT q hq).1
   exact⟨o,vs,file,tf,flags,tg,inF,text,tt,base_of e1 (noA e1 (by rw[e2];intro z;cases z) (by rw[e2];intro z;exact absurd (Wt z) (by decide))),e2,r⟩
  have hM:Mod K mg (gS s₁.heap H):=⟨hKb,nsK hns,⟨mb,nsK hb,hbb⟩,let ⟨mc,h1,h2⟩:=hlim;⟨mc,nsK h1,h2⟩⟩
  have e0:jc P w K mg (gS s₁.heap H) callerA [] s₁ H:=⟨rfl,hM,fun b o e=>Dj e,Uw (wU _ _),trivial,fun b hb=>absurd (show b∈([]:List Addr)from hb) (by simp),hok,.of_eq hg⟩
  refine SV ((F _ hKb (nsK hns) hBb hCb).run callerA [] s₁ H ⟨[.ref a],[]⟩ [.ref a] [.ref a] _ _ hr e0 (hbind s₁ (.ref a)) (.cons rfl .nil) (hsp H hO hS)) fun r s' h=>?_
  cases r with
  |error e=>exact(hCX H e s' h).elim
  |ok fl=>
   cases fl with
   |next=>exact Rw h
   |brk=>exact Rw h
   |cont=>exact Rw h
   |ret u=>
    obtain⟨v,H',os,bare,un,hok',r',q⟩:=h
    have q':v=.bl true:=q
    subst q'
    obtain rfl:u=SO true:=r'
    have all:∀b o,s₁.heap.get? b=some o->s'.heap.get? b=some o\/∃q∈tabs,q.2=b/\∃more,s'.heap.get? b=some (Wp more):=fun b o e=>by
     cases q:H b with
     |none=>exact .inl (un.keep b o e q (by intro z;exact absurd (show b∈([]:List Addr)from z) (by simp)) (by simp))
     |some u=>
      rcases hA b (by rw[q];simp)with⟨rfl,ob,xs,z⟩|⟨p,hp,rfl⟩
      ·have z2:=un.frzs b ob _ z
       obtain⟨e1,_⟩:=hok b _ z
       obtain⟨e2,_⟩:=hok' b _ z2
       rw[e]at e1;cases e1
       exact .inl e2
      ·obtain⟨more,z2⟩:=un.tbls p.2 _ (hO p hp)
       exact .inr ⟨p,hp,rfl,_,hok' p.2 _ z2⟩
    refine⟨rfl,⟨fun b o e=>?_,fun b o e=>?_⟩,os,bare⟩
    ·rcases all b o e with z|⟨p,hp,rfl,more,z⟩
     ·exact .inl z
     ·have e2:=(hT p hp).2
      rw[e]at e2;cases e2
      exact .inr (.inl ⟨((hT p hp).1.tab (hT p hp).2).isCodeTable,rfl,#[],more,rfl,by rw[Array.empty_append];exact z⟩)
    ·rcases all b o e with z|⟨p,hp,rfl,more,z⟩
     ·exact⟨_,z⟩
     ·exact⟨_,z⟩
 cases hk:K.lookup a with
 |some o=>
  have e:=KX a o hk
  rw[ha]at e
  cases e
  refine core (fun b=>if b∈tabs.map (·.2)then some (.tbl #[])else none) (fun q hq=>if_pos (RJ.mpr ⟨q,hq,rfl⟩)) (.inr ⟨_,vs.toArray,_,hk,rfl,rfl,rfl,by rw[QJ,lenV];exact hl,by simpa using rv⟩) (fun b u z=>?_) (fun b z=>?_) fun b z=>?_
  ·by_cases hb:b∈tabs.map (·.2)
   ·have z':=(if_pos hb).symm.trans z
    cases z'
    obtain⟨q,hq,rfl⟩:=RJ.mp hb
    exact(hT q hq).2
   ·have z':=(if_neg hb).symm.trans z
    cases z'
  ·by_cases hb:b∈tabs.map (·.2)
   ·obtain⟨q,hq,e⟩:=RJ.mp hb
    exact .inr ⟨q,hq,e⟩
   ·exact absurd (if_neg hb) z
  ·by_cases hb:b∈tabs.map (·.2)
   ·obtain⟨q,hq,rfl⟩:=RJ.mp hb
    exact tabK q hq
   ·exact absurd (if_neg hb) z
 |none=>
  refine core (fun b=>if b=a then some (.frz {cls:=.type "list",data:=.seq vs.toArray} (.lst (ns.map V.int)))else if b∈tabs.map (·.2)then some (.tbl #[])else none)
   (fun q hq=>by show(if q.2=a then _ else _)=_;rw[if_neg (tabA q hq),if_pos (RJ.mpr ⟨q,hq,rfl⟩)]) (.inl (.inr ⟨{cls:=.type "list",data:=.seq vs.toArray},if_pos rfl⟩)) (fun b u z=>?_) (fun b z=>?_) fun b z=>?_
  ·by_cases hb:b=a
   ·have z':=(if_pos hb).symm.trans z
    cases z'
    subst hb
    exact⟨ha,by rw[QC];exact hl,vs,_,rv,ha⟩
   ·have z':(if b∈tabs.map (·.2)then some (HO.tbl #[])else none)=some u:=(if_neg hb).symm.trans z
    by_cases hb2:b∈tabs.map (·.2)
    ·rw[if_pos hb2]at z';cases z'
     obtain⟨q,hq,rfl⟩:=RJ.mp hb2
     exact(hT q hq).2
    ·rw[if_neg hb2]at z';cases z'
  ·by_cases hb:b=a
   ·exact .inl ⟨hb,_,_,if_pos hb⟩
   ·by_cases hb2:b∈tabs.map (·.2)
    ·obtain⟨q,hq,e⟩:=RJ.mp hb2
     exact .inr ⟨q,hq,e⟩
    ·exact absurd ((if_neg hb).trans (if_neg hb2)) z
  ·by_cases hb:b=a
   ·rw[hb];exact hk
   ·by_cases hb2:b∈tabs.map (·.2)
    ·obtain⟨q,hq,rfl⟩:=RJ.mp hb2
     exact tabK q hq
    ·exact absurd ((if_neg hb).trans (if_neg hb2)) z
def Bd {l:W.OpenLaw}{n k:Nat}{q:Rh}{loose:List Str}{XP:(Str->Option tx)->Heap->Prop}{YP:RF->Heap->Prop}{d:DefRec}{K:Params->cW}{CX:RF->CXT}{x:Str}{names:List Str}
  (hn:l.most=some n)(hn2:n<=sizeLine)(hdf:d.params.defaults=[])(hr:bB k callerA)
  (hY:∀(w:RF)(h:Heap),YP w h->(K w.params).In h)
  (hq:∀y∈names,((Vo q).find? fun e=>e.name==y).isSome=true)
  (F:∀(w:RF)(mg:Str->Option tx)(fa:Addr)(h:Heap),(K w.params).In h->h.Ns mainGlobals mg->mg d.name=some (.ref fa)->
   ∃(fd:QD)(tabs:List (Addr×Addr))(sp:Sp),(∀(s:If)(u:tx),WM s fd ⟨[u],[]⟩ [(x,u)])/\Wr (K w.params)=true/\(∀t∈tabs,∃y∈names,Wq (K w.params) y=some t)/\
    (∀base:Heap,(K w.params).In base->base.Ns mainGlobals mg->BM mg base->(∀t∈tabs,UE base t.1 t.2)->aG l.prog w (K w.params) mg base (CX w) k fa fd [x] sp)/\
    ∀(H:Hp)(a:Addr)(ns:List Int),ns.length<=n->(∀t∈tabs,H t.2=some (.tbl #[]))->SqL (K w.params) H a (ns.map V.int)->sp [.ref a] H (fun v _=>v=.bl true) fun _ _ _=>False)
  (hCX:∀(w:RF)(H:Hp)(s:If)(e:tx)(s':If),CX w [] H s (fun _ _ _=>False) e s'->False):
  W.WalkO q loose XP YP l.row.toRowW d [] (fun f vs=>WI f vs):=by
 refine Att.attach_call hn hdf fun w s₀ s₁ mg mb fa o pm cd doc a vs ns G Y ho hd hcd hmg hobj hints hlen hg=>?_
 have KX:=hY w _ Y
 obtain⟨fd,tabs,sp,hb,hKT,htabs,hF,hsp⟩:=F w mg fa _ KX G.T.g hmg
 refine xu (tabs:=tabs) KX G.T.g G.T.b G.T.builtins G.T.nolimit hg G.T.bmain (fun t ht=>?_) hKT hobj hints (Rl hlen hn2) hr hF hb (fun H hO hS=>hsp H a ns hlen hO hS) fun H e s'=>hCX w H s₁ e s'
 obtain⟨y,hy,e⟩:=htabs t ht
 obtain⟨dd,hdd⟩:=RH.mp (hq y hy)
 exact W.tab_of G.T KX hdd e
section
variable {X:Cx}
def SPM.unwish {E:tx->If->Prop}{pins:List (Addr×Obj)}{D:nG}{f:Flow}{s':If}(h:SPM (X.wish E) pins D f s'):SPM X pins D f s':=by
 cases f with
 |next=>obtain⟨σ',H',I,q⟩:=h;exact⟨σ',H',I.unwish,q⟩
 |brk=>exact h
 |cont=>exact h
 |ret u=>obtain⟨v,σ',H',I,r,q⟩:=h;exact⟨v,σ',H',I.unwish,r,q⟩
def QMs.nox {st:List Stmt}{t:TSM}(h:QMs X.nox st t):QMs X st t:=⟨fun pins s σ H D I hw=>
 Rq (h.out pins s σ H D (I.wish _) hw) (fun _ _ q=>SPM.unwish q) fun _ _ z=>Rw z⟩
def lH.mono {P:Rh}{w:RF}{K:cW}{mg:Str->Option tx}{base:Heap}{j k:Nat}{t:fg}{sp:Sp}(F:lH P w K mg base j t sp)(h:j<=k):lH P w K mg base k t sp:=
 ⟨fun A outer s H f cs us vs cvs Q E hr=>F.run A outer s H f cs us vs cvs Q E (hr.mono h)⟩
def Its (z:Str):It:=⟨fun i _=>i<z.length,fun i H x H'=>H'=H/\∃c,z.cps[i]?=some c/\x=.str ⟨#[c]⟩,fun i _=>z.length<=i⟩
def yc {P:Rh}{w:RF}{K:cW}{tg:Expr}(z:Str)(t:Tok)(it:Addr):oM P w K tg (Its z) [it] it (fun i h=>h.IsStrIter it "str_ascii_iterator" z t i)where
 mem:=by simp
 obj:=fun i h st b hb=>by
  have e:b=it:=by simpa using hb
  subst e
  obtain⟨o,e,c,d⟩:=st
  exact⟨o,e,fun v z=>by rw[d]at z;cases z⟩
 keep:=fun i h h' st k=>let ⟨o,ho,r⟩:=st;⟨o,k it (by simp) o ho,r⟩
 item:=by
  intro X hP hw hK hc i pins s σ H E I hf st hg
  subst hP hw hK
  obtain⟨f0,f1,f2,f3,f4,f5⟩:=hf it (by simp)
  have hi:i<z.cps.size:=hg
  refine wpAny_pyNext_ascii_item st (c:=z.cps[i]) (SW hi) fun h' st' sb=>?_
  have I1:Inv X pins σ H {s with heap:=h',toks:=s.toks+1}:=I.turned (t':=s.toks+1) (fun b o hb e=>(sb.2 b hb).trans e) f0 f1 f3 f4 f5
  obtain⟨o,e,c,d⟩:=id st'
  exact⟨_,rfl,qP (s:={s with heap:=h',toks:=s.toks+1}) e c d (by decide) ⟨.str ⟨#[z.cps[i]]⟩,H,I1,⟨_,rfl⟩,⟨rfl,_,SW hi,rfl⟩,st',fun b hb=>(hf b hb).1⟩⟩
 done:=by
  intro X hP hw hK hc i pins s σ H E I hf st hg
  subst hP hw hK
  obtain⟨f0,f1,f2,f3,f4,f5⟩:=hf it (by simp)
  exact wpAny_pyNext_ascii_end (I.ok.hd hc) st (VW (show z.cps.size<=i from hg)) fun h' eb=>⟨rfl,I.turned (t':=s.toks) (fun b o hb e=>eb b o hb e) f0 f1 f3 f4 f5⟩
 self:=fun A i s Q E st h=>by
  refine XQ st.typeIs Vn (Sw Vn st.typeIs F.entry_str_ascii_iterator_iter ?_ (F.args_str_ascii_iterator_iter_1 _))
  show wpAny _ _ (ret (.ref it)) _ _ s
  exact QL ⟨_,rfl,"str_ascii_iterator",_,st.typeIs,F.slot_str_ascii_iterator_next.lookup,h⟩
variable {a:Expr}{ta:TE}{tg:Expr}
def iY (K:cW)(tl:TE):TI:=fun σ H R=>tl σ H fun x H1=>match x with
 |.str z=>z.cps.all (·<128)=true/\R (Its z) H1
 |x=>∃a,x=.ref a/\(((∃xs,SqL K H1 a xs)/\R (Itl K a) H1)\/((∃xs,SqT K H1 a xs)/\R (Itt K a) H1))
def iO (h:QE X a ta):QI X tg a (iY X.K ta):=⟨fun pins s σ H R I hw=>by
 refine thn (h.out pins s σ H _ I hw) fun v s1 ⟨x,H1,I1,r1,q1⟩=>?_
 cases x with
 |str z=>
  obtain⟨t,rfl⟩:=r1
  refine wpAny_pyIter_ascii q1.1 ?_
  refine⟨s1.heap.objs.size,[s1.heap.objs.size],_,_,H1,rfl,I1.kept (t':=s1.toks) fun b o e=>Lt _ e,yc z t _,⟨_,QX _ rfl,rfl,rfl⟩,fun b hb=>?_,q1.2⟩
  have e:b=s1.heap.objs.size:=by simpa using hb
  subst e
  exact I1.fpOk (gV _) (I1.hok.fresh (gV _))
 |ref c=>
  obtain⟨a,e,q⟩:=q1
  cases e
  cases r1
  rcases q with⟨⟨xs,hq⟩,q⟩|⟨⟨xs,hq⟩,q⟩
  ·obtain⟨its,rv,p,hz⟩:=I1.list hq
   refine XR (zi p) ?_
   refine⟨s1.heap.objs.size,[s1.heap.objs.size],_,_,H1,rfl,I1.kept (t':=s1.toks) fun b o e=>Lt _ e,wQ _ _,⟨_,QX _ rfl,rfl,rfl⟩,fun b hb=>?_,q⟩
   have e:b=s1.heap.objs.size:=by simpa using hb
   subst e
   exact I1.fpOk (gV _) (I1.hok.fresh (gV _))
  ·obtain⟨its,rv,p,hz⟩:=I1.tuple hq
   refine wpAny_pyIter_tuple (show s1.heap.IsTuple c its.toArray from p) ?_
   refine⟨s1.heap.objs.size,[s1.heap.objs.size],_,_,H1,rfl,I1.kept (t':=s1.toks) fun b o e=>Lt _ e,uU _ _,⟨_,QX _ rfl,rfl,rfl⟩,fun b hb=>?_,q⟩
   have e:b=s1.heap.objs.size:=by simpa using hb
   subst e
   exact I1.fpOk (gV _) (I1.hok.fresh (gV _))
 |_=>obtain⟨_,e,_⟩:=q1;cases e⟩
end
def gM {α β:Type}{f:α->β}{l:List α}{i:Nat}{x:β}(h:(l.map f)[i]?=some x):∃a,l[i]?=some a/\x=f a:=by
 rw[Ro]at h
 cases e:l[i]? with
 |none=>rw[e]at h;cases h
 |some a=>rw[e]at h;cases h;exact⟨a,rfl,rfl⟩
def gh.keep {H H':Hp}{f:Addr}{t:fg}{cs:List Addr}{cvs:List V}(k:∀b φ,H b=some (.ext φ)->H' b=some (.ext φ))(c:gh H f t cs cvs):gh H' f t cs cvs:=by
 obtain⟨⟨a,h1,h2⟩,h3⟩:=c
 refine⟨⟨a,k _ _ h1,k _ _ h2⟩,?_⟩
 clear h1 h2
 induction h3 with
 |nil=>exact .nil
 |cons r t ih=>exact .cons (k _ _ r) ih
def pH (K:cW)(ns:List Str):Bool:=decide ((ns.map fun n=>(Wq K n).map (·.2)).Nodup)
def AK {l:List Addr}(h:(l.map some).Nodup):l.Nodup:=Yr some (fun a b h e=>h (congrArg some e)) h
section
variable {X:Cx}
def Ft:OpR X (compareOp .Is) (fun x y H Q=>∃b c,x=.bl b/\y=.bl c/\Q (.bl (decide (b=c))) H):=by
 intro pins s σ H x y v u Q I rx ry h
 obtain⟨b,c,rfl,rfl,q⟩:=h
 cases rx
 cases ry
 refine wpAny_is_plain (by rfl) (bF I q ?_)
 cases b<;>cases c<;>rfl
def lT:R2:=fun x y H Q=>match x,y with
 |.bl b,.bl c=>Q (.bl (decide (b=c))) H
 |x,y=>zT x y H Q
def sV:OpR X (compareOp .Is) lT:=(Ft.or oIs).imp fun x y H Q q=>by
 unfold lT at q
 split at q
 ·exact .inl ⟨_,_,rfl,rfl,q⟩
 ·exact .inr q
end
end L2
namespace HT
open PySem PyProof.Rows
def sub_tuple_dict:isSubtype (.type "tuple") (.type "dict")=pure false:=by rw[SK];kernel_rfl
def om:isSubtype (.type "dict") (.type "tuple")=pure false:=by rw[SK];kernel_rfl
def uQ (l b:Addr)(o:Obj)(hc:o.cls=.type "dict")(o2:Obj)(hc2:o2.cls=.type "tuple"):
  Meets (Ub.«dict.__eq__» ⟨[.ref l,.ref b],[]⟩) (fun _ R s=>s.heap.get? l=some o/\s.heap.get? b=some o2/\R (.ok (.ret .notImplemented)) s):=
 .of_wp fun prog w A R s h=>by
  obtain⟨hp,g,d,tk,os⟩:=s;obtain⟨hl,hb,h⟩:=h;obtain⟨cls,dd,data,sl⟩:=o;obtain⟨cls2,dd2,data2,sl2⟩:=o2
  simp only at hc hc2;subst hc hc2
  have f1:=sub_tuple_dict;wp_walk using UL hl,UL hb;exact⟨_,rfl,h⟩
def tI (l b:Addr)(o:Obj)(hc:o.cls=.type "tuple")(o2:Obj)(hc2:o2.cls=.type "dict"):
  Meets (Ub.«tuple.__eq__» ⟨[.ref l,.ref b],[]⟩) (fun _ R s=>s.heap.get? l=some o/\s.heap.get? b=some o2/\R (.ok (.ret .notImplemented)) s):=
 .of_wp fun prog w A R s h=>by
  obtain⟨hp,g,d,tk,os⟩:=s;obtain⟨hl,hb,h⟩:=h;obtain⟨cls,dd,data,sl⟩:=o;obtain⟨cls2,dd2,data2,sl2⟩:=o2
  simp only at hc hc2;subst hc hc2
  have f1:=om;wp_walk using UL hl,UL hb;exact⟨_,rfl,h⟩
end HT
namespace L2
open PySem PySem.Spec PyProof.Rows
section
variable {X:Cx}
def CD (K:cW):R2:=fun x y H Q=>∃a b ys,x=.ref a/\y=.ref b/\((∃kvs,H a=some (.dK kvs))\/∃kvs,H a=some (.dT kvs))/\SqT K H b ys/\Q (.bl false) H
def DY (hu:X.A.units<cLine):OpR X (compareOp .Eq) (CD X.K):=by
 intro pins s σ H x y v u Q I rx ry h
 obtain⟨a,b,ys,rfl,rfl,ha,hb,q⟩:=h
 cases rx
 cases ry
 obtain⟨its,_,p1,_⟩:=I.tuple hb
 obtain⟨o2,ho2,hc2,_⟩:=id p1
 obtain⟨o,ho,hc⟩:∃o,s.heap.get? a=some o/\o.cls=.type "dict":=by
  rcases ha with⟨kvs,e⟩|⟨kvs,e⟩
  ·obtain⟨_,_,_,_,o,_,_,h1,h2,_⟩:=(show bx X.prog X.w H s.heap a (.dK kvs)from I.hok a _ e)
   exact⟨o,h1,h2.1⟩
  ·obtain⟨_,_,_,_,o,_,_,h1,h2,_⟩:=(show bx X.prog X.w H s.heap a (.dT kvs)from I.hok a _ e)
   exact⟨o,h1,h2.1⟩
 have hne:a≠b:=fun e=>by
  subst e
  rw[ho]at ho2;cases ho2
  rw[hc]at hc2;exact absurd hc2 (by simp)
 show wpAny _ _ (richCompare .Eq (.ref a) (.ref b)) _ _ s
 exact SeqAt.rc_eq_decline_or (k:=false) ⟨_,ho,hc⟩ ⟨_,ho2,hc2⟩ (by decide) F.sub_tuple_dict F.slot_dict_eq WR
  (fun _ hq=>WC F.slot_dict_eq ⟨_,ho,hc⟩ F.entry_dict_eq (F.args_dict_eq_2 _ _) (HT.uQ a b o hc o2 hc2) ⟨ho,ho2,hq⟩)
  (fun _ hq=>WC WR ⟨_,ho2,hc2⟩ F.entry_tuple_eq (F.args_tuple_eq_2 _ _) (HT.tI b a o2 hc2 o hc) ⟨ho2,ho,hq⟩)
  (fun _ hq=>wpAny_isSame_ref_other hne ho ho2 (by rw[hc];simp) hq) (.inr hu) ⟨.bl false,H,I,rfl,q⟩
def bO (K:cW):R2:=fun x y H Q=>match x,y with
 |.ref a,.ref b=>EE K (.ref a) (.ref b) H Q\/uV K (.ref a) (.ref b) H Q\/CD K (.ref a) (.ref b) H Q
 |.ref a,y=>uV K (.ref a) y H Q
 |x,.ref b=>uV K x (.ref b) H Q
 |x,y=>mEq x y H Q
def bQ (hu:X.A.units+150<cLine):OpR X (compareOp .Eq) (bO X.K):=((Fv (by omega)).or ((EG hu).or ((DY (by omega)).or oEq))).imp fun x y H Q q=>by
 unfold bO at q
 split at q
 ·exact q.elim .inl fun z=>z.elim (fun z=>.inr (.inl z)) fun z=>.inr (.inr (.inl z))
 ·exact .inr (.inl q)
 ·exact .inr (.inl q)
 ·exact .inr (.inr (.inr q))
end
end L2
namespace HT
open PySem PyProof.Rows
def mi:typeLookup (.type "tuple") "__reversed__"=pure none:=by rw[SU,RZ];kernel_rfl
def ka:Manifest.owners.lookup (String.ofList ['d','e','s','r','e','v','e','r'].reverse)=some Manifest.sig_reversed:=by kernel_rfl
def eM:Slot "reversed" "__next__" "reversed.__next__":=
 .of (owner:="reversed") (n:="__next__") (by rw[SU,RZ];kernel_rfl) (by decide+kernel) (by decide+kernel) (by decide+kernel)
  (by first|exact .inl (by decide+kernel)|exact .inr (by decide+kernel)) (by rw[SK];kernel_rfl)
def iP:entryFor table "reversed.__next__"=some Ub.«reversed.__next__»:=entryFor_of_tree (by kernel_rfl)
def jP (a:tx):argsOk "reversed.__next__" ⟨[a],[]⟩:=by
 unfold argsOk;rw[WG (id:="reversed.__next__") (n:=['_','_','t','x','e','n','_','_']) (o:=['d','e','s','r','e','v','e','r']) (by kernel_rfl) ka];kernel_rfl
def jR:Slot "reversed" "__iter__" "reversed.__iter__":=
 .of (owner:="reversed") (n:="__iter__") (by rw[SU,RZ];kernel_rfl) (by decide+kernel) (by decide+kernel) (by decide+kernel)
  (by first|exact .inl (by decide+kernel)|exact .inr (by decide+kernel)) (by rw[SK];kernel_rfl)
def pK (a:tx):argsOk "reversed.__iter__" ⟨[a],[]⟩:=by
 unfold argsOk;rw[WG (id:="reversed.__iter__") (n:=['_','_','r','e','t','i','_','_']) (o:=['d','e','s','r','e','v','e','r']) (by kernel_rfl) ka];kernel_rfl
def oP:entryFor table "reversed.__iter__"=some Ub.«dict_keyiterator.__iter__»:=
 entryFor_alias (id':="dict_keyiterator.__iter__") (by kernel_rfl) (by first|rfl|decide+kernel|(unfold String.splitOn;simp+decide [String.splitOnAux])) (by decide+kernel) (by kernel_rfl)
def pP:Slot "reversed" "__init__" "object.__init__":=
 .of (owner:="object") (n:="__init__") (by rw[SU,RZ];kernel_rfl) (by decide+kernel) (by decide+kernel) (by decide+kernel)
  (by first|exact .inl (by decide+kernel)|exact .inr (by decide+kernel)) (by rw[SK];kernel_rfl)
def vI:TypeCalled "reversed" "reversed.__new__" "object.__init__":=
 ⟨by decide+kernel,PySem.F.create_reversed,⟨_,_,PySem.F.mro_reversed⟩,PySem.F.made_reversed,by decide+kernel,PySem.F.sub_reversed_self,pP⟩
def rE:isSubtype (.type "tuple") (.type "dict")=pure false:=by rw[SK];kernel_rfl
def rQ (t:Addr)(i:Int):Obj:={cls:=.type "reversed",data:=.fields #[.ref t,rawInt i]}
def pT (t:Addr)(items:Array tx):Meets (Ub.«reversed.__new__» ⟨[.type "reversed",.ref t],[]⟩) (fun _ R s=>VL s.heap t items/\(items.size:Int)<2^63/\
  R (.ok (.ret (.ref s.heap.objs.size))) {s with heap:=s.heap.push (rQ t ((items.size:Int)- 1)),toks:=s.toks+1+1}):=
 .of_wp fun prog w A R s h=>by
  obtain⟨ht,hz,h⟩:=h
  unfold Ub.«reversed.__new__»
  refine pv (SA (newClass_reversed _) ?_)
  try dsimp only
  refine pv (SA (a:=()) (by first|rfl|kernel_rfl) ?_)
  refine pv (SA (a:=()) (by first|rfl|kernel_rfl) ?_)
  try dsimp only
  refine pv (Tp ht.typeIs mi ?_)
  try dsimp only
  refine pv (pv (VG (T:="tuple") (b:=false) ht.typeIs rE ?_))
  rw[if_neg (by simp)]
  refine pv (Tp (r:=some (.builtin "tuple.__getitem__")) ht.typeIs slot_tuple_getitem.lookup ?_)
  show wpAny _ _ (if (["tuple.__getitem__","str.__getitem__","bytes.__getitem__","bytearray.__getitem__","memoryview.__getitem__","numpy.ndarray.__getitem__","sqlite3.Row.__getitem__"].contains "tuple.__getitem__")=true then _ else _) _ _ s
  rw[if_pos (by decide)]
  refine QL ?_
  rw[if_neg (by simp)]
  refine pv (len_tuple ht hz ?_)
  refine pv (SA (a:=some ((items.size:Nat):Int)) rfl ?_)
  show wpAny _ _ (newObj (.type "reversed") (.fields #[.ref t,rawInt ((items.size:Int)- 1)])>>=_) _ _ _
  exact pv (RM (QL ⟨_,rfl,h⟩))
section
variable {prog:Rh}{w:RF}{A:RC}{E:tx->If->Prop}{s:If}
def jV {t:Addr}{items:Array tx}{Q:tx->If->Prop}(ht:VL s.heap t items)(hz:(items.size:Int)<2^63)
  (h:Q (.ref s.heap.objs.size) {s with heap:=s.heap.push (rQ t ((items.size:Int)- 1)),toks:=s.toks+1+1}):wpAny (model prog w) A (call (.type "reversed") [.ref t]) Q E s:=
 callType_new vI (by decide) (PySem.F.typeCall_reversed_1 _) (PySem.F.newCall_reversed_1 _) (fun obj=>VN obj _) PySem.F.entry_reversed_new (pT t items) ⟨ht,hz,⟨_,QX _ rfl,rfl⟩,h⟩
def gG (h:Heap)(a t:Addr)(i:Int):Prop:=h.get? a=some (rQ t i)
def gG.typeIs {a t:Addr}{i:Int}(x:gG s.heap a t i):s.TypeIs (.ref a) "reversed":=⟨_,x,rfl⟩
def pO {it t:Addr}{i:Nat}{items:Array tx}{x:tx}{Q:Option tx->If->Prop}(hit:gG s.heap it t (i:Int))(ht:VL s.heap t items)(hz:(items.size:Int)<2^63)(hx:items[i]?=some x)
  (hQ:∀h',gG h' it t ((i:Int)- 1)->Tr it s.heap h'->Q (some x) {s with heap:=h',toks:=s.toks+1}):wpAny (model prog w) A (pyNext (.ref it)) Q E s:=by
 have hi:i<items.size:=by
  rcases Ww i items.size with h|h
  ·exact h
  ·rw[VW h]at hx;cases hx
 unfold pyNext
 refine pv (Vi (SI (name:=Tt "__next__") hit.typeIs eM
  (Sw eM hit.typeIs iP ?_ (jP _))))
 unfold Ub.«reversed.__next__»
 refine pv (SA (a:=(Re it,[])) rfl ?_)
 try dsimp only
 refine pv (Se hit rfl (x:=.ref t) rfl ?_)
 refine pv (Se hit rfl (x:=rawInt (i:Int)) rfl ?_)
 show wpAny _ _ (if (i:Int)<0 then _ else _) _ _ s
 rw[if_neg (by omega)]
 refine pv (Tp (r:=some (.builtin "tuple.__getitem__")) ht.typeIs slot_tuple_getitem.lookup ?_)
 rw[if_neg (by simp)]
 refine pv (Xt ?_)
 refine pv (Vi (getItem_tuple (j:=i) (x:=x) ht (by omega) (by omega) ?_ hx ?_))
 ·unfold seqIndex?
  simp
  omega
 ·refine pv (Se (s:={s with toks:=s.toks+1}) hit rfl (x:=rawInt (i:Int)) rfl ?_)
  refine pv (Vh hit (by simp) fun h' y sb=>?_)
  exact QL ⟨x,rfl,QL (hQ h' y sb)⟩
def rD {it t:Addr}{Q:Option tx->If->Prop}(hh:A.handled=none)(hit:gG s.heap it t (-1))
  (hQ:∀h',WD it s.heap h'->Q none {s with heap:=h'}):wpAny (model prog w) A (pyNext (.ref it)) Q E s:=by
 unfold pyNext
 refine pv (Vi (SI (name:=Tt "__next__") hit.typeIs eM
  (Sw eM hit.typeIs iP ?_ (jP _))))
 unfold Ub.«reversed.__next__»
 refine pv (SA (a:=(Re it,[])) rfl ?_)
 try dsimp only
 refine pv (Se hit rfl (x:=.ref t) rfl ?_)
 refine pv (Se hit rfl (x:=rawInt (-1)) rfl ?_)
 show wpAny _ _ (if (-1:Int)<0 then _ else _) _ _ s
 rw[if_pos (by decide)]
 refine pv (XO ?_)
 refine pv (pv (Vh hit (by simp) fun h1 y1 s1=>?_))
 refine Vh y1 (by simp) fun h2 y2 s2=>?_
 first
 |show wpAny _ _ (newExc (.type "StopIteration") []>>=_) _ _ _
 |(refine pv ?_;show wpAny _ _ (newExc (.type "StopIteration") []>>=_) _ _ _)
 refine pv ?_
 simp only[newExc,newTuple]
 refine pv (RM ?_ (by size_fits))
 refine pv (m:=firstArgMember _ _) (SA (a:=SN) (by first|rfl|(simp only[firstArgMember];rfl)) ?_)
 refine RM ?_ (by size_fits)
 simp only[raiseNew]
 refine pv (wpAny_handled ?_)
 first|rw[show A.in1.handled=none from hh]|rw[hh]
 refine pv (QL (wpAny_throw ?_))
 refine pv (VG (T:="StopIteration") (b:=true) ⟨_,QX _ rfl,rfl⟩ isSubtype_stop ?_)
 have eb:WD it s.heap h2:=fun c o hc e=>s2.extBut _ _ hc (s1.extBut _ _ hc e)
 exact QL (hQ _ ((eb.push _).push _))
def yo {it t:Addr}{i:Int}{Q:tx->If->Prop}(hit:gG s.heap it t i)(h:Q (.ref it) s):wpAny (model prog w) A (pyIter (.ref it)) Q E s:=by
 refine XQ hit.typeIs jR (Sw jR hit.typeIs oP ?_ (pK _))
 show wpAny _ _ (ret (.ref it)) _ _ s
 exact QL ⟨_,rfl,"reversed",_,hit.typeIs,eM.lookup,h⟩
end
end HT
namespace L2
open PySem PySem.Spec PyProof.Rows
def tG:bootBuiltins "reversed"=some (.type "reversed"):=by decide+kernel
section
variable {X:Cx}{a:Expr}{t:TA}{p pos:Pos}{tg:Expr}
def Bf:List V->Hp->VK->Prop:=fun xs H Q=>match xs with|[.int i,.int j]=>Q (.int (if j>i then j else i)) H|_=>False
def PZ (hc:X.calm=true):bS X (.builtin "max") Bf:=fun pins s σ H xs us Q I r q=>by
 unfold Bf at q
 split at q
 ·exact wJ hc pins s σ H _ us Q I r ⟨_,_,rfl,q⟩
 ·exact q.elim
def AO:OpR X (binaryOp .FloorDiv) (rI (fun _ j=>0<j/\j<1267650600228229401496703205376) fun i j=>.int (i/j)):=opI fun i j _ _ _ _ _ hc q=>by
 have h1:(0:Int)<j:=hc.1
 have h2:j<1267650600228229401496703205376:=hc.2
 have h3:j.natAbs.log2<100:=(Nat.log2_lt (by omega)).mpr (Nat.lt_of_lt_of_eq (m:=1267650600228229401496703205376) (by omega) (by decide))
 exact floordiv_int (by omega) (by rw[VE i (by omega)];exact q) (.inl (PyProof.noPylong_of_log2 (by omega)))
def bR:R2:=fun x y H Q=>match x,y with|.int i,.int j=>(0<j/\j<1267650600228229401496703205376)/\Q (.int (i/j)) H|_,_=>False
def cv:OpR X (binaryOp .FloorDiv) bR:=AO.imp fun x y H Q q=>by
 unfold bR at q
 split at q
 ·exact⟨_,_,rfl,rfl,q.1,q.2⟩
 ·exact q.elim
end
section
variable {α:Type}{l:List α}
def BF (h:l.length=0):l=[]:=List.length_eq_zero_iff.mp h
def nI (h:l.length=1):∃a0,l=[a0]:=by
 cases l with
 |nil=>simp at h
 |cons a l=>
  obtain rfl:=BF (l:=l) (by simpa using h)
  exact⟨a,rfl⟩
def vc (h:l.length=2):∃a0 a1,l=[a0,a1]:=by
 cases l with
 |nil=>simp at h
 |cons a l=>
  obtain⟨b0,rfl⟩:=nI (l:=l) (by simpa using h)
  exact⟨a,b0,rfl⟩
def qg (h:l.length=3):∃a0 a1 a2,l=[a0,a1,a2]:=by
 cases l with
 |nil=>simp at h
 |cons a l=>
  obtain⟨b0,b1,rfl⟩:=vc (l:=l) (by simpa using h)
  exact⟨a,b0,b1,rfl⟩
def pX (h:l.length=4):∃a0 a1 a2 a3,l=[a0,a1,a2,a3]:=by
 cases l with
 |nil=>simp at h
 |cons a l=>
  obtain⟨b0,b1,b2,rfl⟩:=qg (l:=l) (by simpa using h)
  exact⟨a,b0,b1,b2,rfl⟩
def Cm (h:l.length=5):∃a0 a1 a2 a3 a4,l=[a0,a1,a2,a3,a4]:=by
 cases l with
 |nil=>simp at h
 |cons a l=>
  obtain⟨b0,b1,b2,b3,rfl⟩:=pX (l:=l) (by simpa using h)
  exact⟨a,b0,b1,b2,b3,rfl⟩
def NB (h:l.length=6):∃a0 a1 a2 a3 a4 a5,l=[a0,a1,a2,a3,a4,a5]:=by
 cases l with
 |nil=>simp at h
 |cons a l=>
  obtain⟨b0,b1,b2,b3,b4,rfl⟩:=Cm (l:=l) (by simpa using h)
  exact⟨a,b0,b1,b2,b3,b4,rfl⟩
end
section
variable {X:Cx}
def lD:List tx->List Str->Bool
 |[],[]=>true
 |.str z _::r,w::ws=>decide (z=w)&&lD r ws
 |_,_=>false
def uo (K:cW)(a:Addr)(ss:List Str):Bool:=match K.lookup a with
 |some o=>(match o.cls with|.type n=>decide (n="tuple")|_=>false)&&(match o.data with|.seq its _=>decide (its.size<=1000)&&lD its.toList ss|_=>false)
 |none=>false
abbrev sY (K:cW)(a:Addr)(ss:List Str):Prop:=uo K a ss=true
theorem rF:∀{us:List tx}{ss:List Str},lD us ss=true->bc (ss.map V.str) us
 |[],[],_=>.nil
 |u::r,[],h=>by cases u<;>cases h
 |[],w::ws,h=>by cases h
 |u::r,w::ws,h=>by
  cases u with
  |str z t=>
   have h:(decide (z=w)&&lD r ws)=true:=h
   rw[Rt]at h
   have e:=of_decide_eq_true h.1
   subst e
   exact .cons ⟨t,rfl⟩ (rF h.2)
  |_=>cases h
def sY.sq {K:cW}{a:Addr}{ss:List Str}(H:Hp)(h:sY K a ss):SqT K H a (ss.map V.str):=by
 unfold sY uo at h
 cases ho:K.lookup a with
 |none=>rw[ho]at h;cases h
 |some o=>
  rw[ho]at h
  dsimp only at h
  rw[Rt]at h
  obtain⟨h1,h2⟩:=h
  have hc:o.cls=.type "tuple":=by
   split at h1
   ·rename_i n e;rw[e,of_decide_eq_true h1]
   ·cases h1
  split at h2
  ·rename_i its n e
   rw[Rt]at h2
   exact .inr ⟨o,its,n,ho,hc,e,Rl (of_decide_eq_true h2.1) (by rw[Sm];decide),rF h2.2⟩
  ·cases h2
end
def bB.le {A:RC}{m n:Nat}(h:bB m A)(d:n<=m:=by first|decide|omega):bB n A:=h.mono d
def scF {N P:List Str}{sc:Scope}(h1:sc.kind=.function:=by rfl)(h2:sc.isCoroutine=false:=by rfl)(h3:sc.isGenerator=false:=by rfl)(h4:N.Nodup:=by decide+kernel)(h5:N.take P.length=P:=by rfl)
 (h6:∀x∈P,sc.names.lookup x=some .local\/sc.names.lookup x=some .cell:=by decide+kernel)(h7:∀y∈sc.names,y.2≠.free:=by decide+kernel):aw N P sc:=⟨h1,h2,h3,h4,h5,h6,h7⟩
structure Fm (K:cW)(mg:Str->Option tx)(x qual:Str)(st:Stmt)(a:Addr)(d:QD)(ps:List Str):Prop where
 f:Fun K x qual st a d
 m:mg x=some (.ref a)
 b:aL K d ps []
structure Fa (K:cW)(x qual:Str)(st:Stmt)(a:Addr)(d:QD):Prop where
 m:Sq K mainGlobals x=some (some (.ref a))
 f:Fun K x qual st a d
section
variable {P:Rh}{w:RF}{K:cW}{mg:Str->Option tx}{base h:Heap}{x qual:Str}{st:Stmt}{a:Addr}{d:QD}{ps:List Str}
def bJ {oc:tx}{od an:Option Addr}{osl:Array (Option tx)}{kV doc pm cdv ct:tx}(m:Sq K mainGlobals x=some (some (.ref a)))(l:K.lookup a=some ⟨oc,od,.func (Tc x qual (bV st) (bH st) (am st) .none kV doc pm an cdv ct),osl⟩)
 (c:Xo K cdv qual=true)(k:SG K (.ref a)=true):Fa K x qual st a (Tc x qual (bV st) (bH st) (am st) .none kV doc pm an cdv ct):=⟨m,aT l c k⟩
def Fa.code (F:Fa K x qual st a d)(X:K.In h)(G:h.Ns mainGlobals mg){z t:Addr}(ht:Wq K x=some (z,t)):d.code=.ref z:=by
 obtain⟨oc,od,kV,doc,pm,an,cdv,ct,osl,e,lk,hcd⟩:=F.f.ex
 exact W.law_code X G ht (Sk X G F.m) (X _ _ lk) rfl
def Fun.bt {p:Str}(F:Fun K x qual st a d)(hb:∀(kV doc pm:tx)(an:Option Addr)(cdv ct v:tx),bindArgs (Tc x qual (bV st) (bH st) (am st) .none kV doc pm an cdv ct) ⟨[v],[]⟩=pure [(p,v)]:=by intros;rfl)(s:If)(v:tx):WM s d ⟨[v],[]⟩ [(p,v)]:=by
 obtain⟨oc,od,kV,doc,pm,an,cdv,ct,osl,rfl,lk,hcd⟩:=F.ex
 exact .of_eq (hb kV doc pm an cdv ct v)
def Fun.b0 (F:Fun K x qual st a d)(hb:∀(kV doc pm:tx)(an:Option Addr)(cdv ct:tx),bindArgs (Tc x qual (bV st) (bH st) (am st) .none kV doc pm an cdv ct) ⟨[],[]⟩=pure (SY [] []):=by intros;rfl):aL K d [] []:=F.binds fun kV doc pm an cdv ct us hl=>by
 obtain rfl:=L2.BF hl
 exact hb kV doc pm an cdv ct
def Fa.fm0 (F:Fa K x qual st a d)(X:K.In h)(G:h.Ns mainGlobals mg)(hb:∀(kV doc pm:tx)(an:Option Addr)(cdv ct:tx),bindArgs (Tc x qual (bV st) (bH st) (am st) .none kV doc pm an cdv ct) ⟨[],[]⟩=pure (SY [] []):=by intros;rfl):Fm K mg x qual st a d []:=⟨F.f,Sk X G F.m,F.f.b0 hb⟩
def Fun.b1 {p0:Str}(F:Fun K x qual st a d)(hb:∀(kV doc pm:tx)(an:Option Addr)(cdv ct u0:tx),bindArgs (Tc x qual (bV st) (bH st) (am st) .none kV doc pm an cdv ct) ⟨[u0],[]⟩=pure (SY [p0] [u0]):=by intros;rfl):aL K d [p0] []:=F.binds fun kV doc pm an cdv ct us hl=>by
 obtain⟨u0,rfl⟩:=L2.nI hl
 exact hb kV doc pm an cdv ct u0
def Fa.fm1 {p0:Str}(F:Fa K x qual st a d)(X:K.In h)(G:h.Ns mainGlobals mg)(hb:∀(kV doc pm:tx)(an:Option Addr)(cdv ct u0:tx),bindArgs (Tc x qual (bV st) (bH st) (am st) .none kV doc pm an cdv ct) ⟨[u0],[]⟩=pure (SY [p0] [u0]):=by intros;rfl):Fm K mg x qual st a d [p0]:=⟨F.f,Sk X G F.m,F.f.b1 hb⟩
def Fun.b2 {p0 p1:Str}(F:Fun K x qual st a d)(hb:∀(kV doc pm:tx)(an:Option Addr)(cdv ct u0 u1:tx),bindArgs (Tc x qual (bV st) (bH st) (am st) .none kV doc pm an cdv ct) ⟨[u0,u1],[]⟩=pure (SY [p0,p1] [u0,u1]):=by intros;rfl):aL K d [p0,p1] []:=F.binds fun kV doc pm an cdv ct us hl=>by
 obtain⟨u0,u1,rfl⟩:=L2.vc hl
 exact hb kV doc pm an cdv ct u0 u1
def Fa.fm2 {p0 p1:Str}(F:Fa K x qual st a d)(X:K.In h)(G:h.Ns mainGlobals mg)(hb:∀(kV doc pm:tx)(an:Option Addr)(cdv ct u0 u1:tx),bindArgs (Tc x qual (bV st) (bH st) (am st) .none kV doc pm an cdv ct) ⟨[u0,u1],[]⟩=pure (SY [p0,p1] [u0,u1]):=by intros;rfl):Fm K mg x qual st a d [p0,p1]:=⟨F.f,Sk X G F.m,F.f.b2 hb⟩
def Fun.b3 {p0 p1 p2:Str}(F:Fun K x qual st a d)(hb:∀(kV doc pm:tx)(an:Option Addr)(cdv ct u0 u1 u2:tx),bindArgs (Tc x qual (bV st) (bH st) (am st) .none kV doc pm an cdv ct) ⟨[u0,u1,u2],[]⟩=pure (SY [p0,p1,p2] [u0,u1,u2]):=by intros;rfl):aL K d [p0,p1,p2] []:=F.binds fun kV doc pm an cdv ct us hl=>by
 obtain⟨u0,u1,u2,rfl⟩:=L2.qg hl
 exact hb kV doc pm an cdv ct u0 u1 u2
def Fa.fm3 {p0 p1 p2:Str}(F:Fa K x qual st a d)(X:K.In h)(G:h.Ns mainGlobals mg)(hb:∀(kV doc pm:tx)(an:Option Addr)(cdv ct u0 u1 u2:tx),bindArgs (Tc x qual (bV st) (bH st) (am st) .none kV doc pm an cdv ct) ⟨[u0,u1,u2],[]⟩=pure (SY [p0,p1,p2] [u0,u1,u2]):=by intros;rfl):Fm K mg x qual st a d [p0,p1,p2]:=⟨F.f,Sk X G F.m,F.f.b3 hb⟩
def Fun.b4 {p0 p1 p2 p3:Str}(F:Fun K x qual st a d)(hb:∀(kV doc pm:tx)(an:Option Addr)(cdv ct u0 u1 u2 u3:tx),bindArgs (Tc x qual (bV st) (bH st) (am st) .none kV doc pm an cdv ct) ⟨[u0,u1,u2,u3],[]⟩=pure (SY [p0,p1,p2,p3] [u0,u1,u2,u3]):=by intros;rfl):aL K d [p0,p1,p2,p3] []:=F.binds fun kV doc pm an cdv ct us hl=>by
 obtain⟨u0,u1,u2,u3,rfl⟩:=L2.pX hl
 exact hb kV doc pm an cdv ct u0 u1 u2 u3
def Fa.fm4 {p0 p1 p2 p3:Str}(F:Fa K x qual st a d)(X:K.In h)(G:h.Ns mainGlobals mg)(hb:∀(kV doc pm:tx)(an:Option Addr)(cdv ct u0 u1 u2 u3:tx),bindArgs (Tc x qual (bV st) (bH st) (am st) .none kV doc pm an cdv ct) ⟨[u0,u1,u2,u3],[]⟩=pure (SY [p0,p1,p2,p3] [u0,u1,u2,u3]):=by intros;rfl):Fm K mg x qual st a d [p0,p1,p2,p3]:=⟨F.f,Sk X G F.m,F.f.b4 hb⟩
def Fun.b5 {p0 p1 p2 p3 p4:Str}(F:Fun K x qual st a d)(hb:∀(kV doc pm:tx)(an:Option Addr)(cdv ct u0 u1 u2 u3 u4:tx),bindArgs (Tc x qual (bV st) (bH st) (am st) .none kV doc pm an cdv ct) ⟨[u0,u1,u2,u3,u4],[]⟩=pure (SY [p0,p1,p2,p3,p4] [u0,u1,u2,u3,u4]):=by intros;rfl):aL K d [p0,p1,p2,p3,p4] []:=F.binds fun kV doc pm an cdv ct us hl=>by
 obtain⟨u0,u1,u2,u3,u4,rfl⟩:=L2.Cm hl
 exact hb kV doc pm an cdv ct u0 u1 u2 u3 u4
def Fa.fm5 {p0 p1 p2 p3 p4:Str}(F:Fa K x qual st a d)(X:K.In h)(G:h.Ns mainGlobals mg)(hb:∀(kV doc pm:tx)(an:Option Addr)(cdv ct u0 u1 u2 u3 u4:tx),bindArgs (Tc x qual (bV st) (bH st) (am st) .none kV doc pm an cdv ct) ⟨[u0,u1,u2,u3,u4],[]⟩=pure (SY [p0,p1,p2,p3,p4] [u0,u1,u2,u3,u4]):=by intros;rfl):Fm K mg x qual st a d [p0,p1,p2,p3,p4]:=⟨F.f,Sk X G F.m,F.f.b5 hb⟩
def Fun.b6 {p0 p1 p2 p3 p4 p5:Str}(F:Fun K x qual st a d)(hb:∀(kV doc pm:tx)(an:Option Addr)(cdv ct u0 u1 u2 u3 u4 u5:tx),bindArgs (Tc x qual (bV st) (bH st) (am st) .none kV doc pm an cdv ct) ⟨[u0,u1,u2,u3,u4,u5],[]⟩=pure (SY [p0,p1,p2,p3,p4,p5] [u0,u1,u2,u3,u4,u5]):=by intros;rfl):aL K d [p0,p1,p2,p3,p4,p5] []:=F.binds fun kV doc pm an cdv ct us hl=>by
 obtain⟨u0,u1,u2,u3,u4,u5,rfl⟩:=L2.NB hl
 exact hb kV doc pm an cdv ct u0 u1 u2 u3 u4 u5
def Fa.fm6 {p0 p1 p2 p3 p4 p5:Str}(F:Fa K x qual st a d)(X:K.In h)(G:h.Ns mainGlobals mg)(hb:∀(kV doc pm:tx)(an:Option Addr)(cdv ct u0 u1 u2 u3 u4 u5:tx),bindArgs (Tc x qual (bV st) (bH st) (am st) .none kV doc pm an cdv ct) ⟨[u0,u1,u2,u3,u4,u5],[]⟩=pure (SY [p0,p1,p2,p3,p4,p5] [u0,u1,u2,u3,u4,u5]):=by intros;rfl):Fm K mg x qual st a d [p0,p1,p2,p3,p4,p5]:=⟨F.f,Sk X G F.m,F.f.b6 hb⟩
def Fun.okS {CX:CXT}{N:List Str}{k:Nat}{sp:Sp}{t:TS}(F:Fun K x qual st a d)(S:aw N ps (am st))(len:∀vs H Q E,sp vs H Q E->vs.length=ps.length)
  (hrd:∀(vs:List V)(H:Hp)(Q:VK)(E:XK),sp vs H Q E->t {nx:=fun _ H'=>Q .non H',rt:=Q} (cO N vs) H)
  (hq:∀(cdv:tx)(A:RC)(outer:List Env)(s:If)(H:Hp)(E:XK),bB k (A.deeper (envOfC qual (am st) s.heap.objs.size a cdv))->QSs (fw CX P w K mg base N qual (am st) a cdv A outer s H E).nox (bH st) t):aG P w K mg base CX (k+1) a d ps sp:=
 F.okN S len fun cdv A outer s H vs Q E hr h=>⟨t,(hq cdv A outer s H E hr).out,hrd vs H Q E h⟩
end
section
variable {X:Cx}{x q:Str}{e:Expr}{es:List Expr}{t:TA}{p pos:Pos}{st:Stmt}{f:Addr}{fd:QD}{ps:List Str}{k:Nat}{sp:Sp}
def be {P:Rh}{w:RF}(F:aG X.prog X.w X.K X.mg X.base (CX1 P w) k f fd ps sp)(hr:bB k X.A)(M:Fm X.K X.mg x q st f fd ps)
 (ha:QA X (e::es) t)(hg:Gl X x:=by rfl)(hdb:(x==("__debug__":Str))=false:=by decide)(hs:bz (e::es)=true:=by rfl):QE X (.Call (.Name x p) (e::es) [] pos) (aD sp (fun _=>E0) t):=DF F hr M.m M.f.kp M.b ay ha hg hdb hs
end
def sf (ks:iW)(C:Addr)(m:Str)(E:St->XK)(ta:TE)(t:TA):TE:=fun σ H Q=>ta σ H fun x H1=>∃a dx fs f,x=.ref a/\H1 a=some (.ins C dx fs)/\fs.lookup m=some (.ref f)/\(∃ts∈ks,∃cs cvs,gh H1 f ts.1 cs cvs)/\t σ H1 fun vs H2=>uX ks f vs H2 Q (E σ)
section
variable {X:Cx}{pins:List (Addr×Obj)}{σ:St}{H:Hp}{s:If}{A:RC}{E:tx->If->Prop}{a C dx:Addr}{fs:List (Str×V)}{v:V}
def vv {m:Str}{pl:Sem Bool}{Q:tx×List tx->If->Prop}(I:Inv X pins σ H s)(e:H a=some (.ins C dx fs))(c:Cls X.K C)(n:bq X.K C m)(l:fs.lookup m=some v)
  (h:∀u s',Inv X pins σ H s'->ba v u->Q (u,[]) s'):wpAny (model X.prog X.w) A (getMethod (.ref a) m pl) Q E s:=by
 obtain⟨mA,O,r,_,_,_⟩:=gL I.hok e
 obtain⟨od,J,hl⟩:=O.look
 exact W.method_usual (r:=none) I.kIn J (Uk (c.get m)).1 (Uk (c.get m)).2 n rfl (nF I e c n l h)
end
section
variable {X:Cx}{k:Nat}{C:Addr}{E:St->XK}{m:Str}{pos apos:Pos}{e o:Expr}{es:List Expr}{ta:TE}{t:TA}
def ud {pl:Sem Bool}{ks:iW}(hk:nZ X.prog X.w X.K X.mg X.base k ks)(hr:bB k X.A)(hx:eA (CX1 X.prog X.w) X E)(he:QE X o ta)(c:Cls X.K C)(n:bq X.K C m)(ha:QA X (e::es) t)
  (hs:bz (e::es)=true:=by rfl)
  (ht:eval (.Call (.Attribute o m apos) (e::es) [] pos) X.env=(do
   let ov<-eval o X.env
   standAt apos.atName
   let (f,first)<-holding [ov] (getMethod ov m pl)
   callWith pos f first (backTo pos (starEach (e::es) X.env)) (backToKw pos (keywordEach [] X.env))):=by rfl):
  QE X (.Call (.Attribute o m apos) (e::es) [] pos) (sf ks C m E ta t):=⟨fun pins s σ H Q I h=>by
 have h':(cf e&&bz es)=true:=hs
 refine TN (pl:=pl) (thn (he.out pins s σ H _ I h) fun u s1 ⟨x,H1,I1,rx,a,dx,fs,f,ex,ea,l,⟨ts,hts,cs,cvs,ca⟩,q⟩=>?_) ht
 subst ex
 obtain rfl:u=Re a:=rx
 refine vv I1 ea c n l fun w s2 I2 rw2=>?_
 obtain rfl:w=Re f:=rw2
 refine W.callWith_F (mF I2.hok ca) (thn (ha.out pos pins s2 σ H1 _ I2 q) fun us s3 ⟨vs,H2,I3,rv,ts2,hm2,cs2,cvs2,ca2,hl,hsp⟩=>⟨mF I3.hok ca2,?_⟩)
  (bj (Gt.mp h').1 es X.env) (cj (Gt.mp h').2)
 refine WB (SV ((hk ts2 hm2).run X.A X.stack s3 H2 f cs2 us vs cvs2 Q (E σ) hr I3.env0 ca2 rv hl hsp) fun r s' hq=>?_)
 cases r with
 |error e=>exact hx pins σ H2 s3 e s' I3 hq
 |ok fl=>
  cases fl with
  |ret u=>exact I3.after hq
  |next=>exact Rw hq
  |brk=>exact Rw hq
  |cont=>exact Rw hq⟩
end
end L2
namespace HT
open PySem PySem.Spec PyProof.Rows
def xv:typeLookup (.type "reversed") "__len__"=pure none:=by rw[SU,RZ];kernel_rfl
def yD:typeLookup (.type "reversed") "__length_hint__"=pure (some (.builtin "reversed.__length_hint__")):=by rw[SU,RZ];kernel_rfl
def jQ:Slot "reversed" "__length_hint__" "reversed.__length_hint__":=
 .of (owner:="reversed") (n:="__length_hint__") (by rw[SU,RZ];kernel_rfl) (by decide+kernel) (by decide+kernel) (by decide+kernel)
  (by first|exact .inl (by decide+kernel)|exact .inr (by decide+kernel)) (by rw[SK];kernel_rfl)
def oR:entryFor table "reversed.__length_hint__"=some Ub.«reversed.__length_hint__»:=entryFor_of_tree (by kernel_rfl)
def pS (a:tx):argsOk "reversed.__length_hint__" ⟨[a],[]⟩:=by
 unfold argsOk;rw[WG (id:="reversed.__length_hint__") (n:="__length_hint__".toList.reverse) (o:=['d','e','s','r','e','v','e','r']) (by kernel_rfl) ka];kernel_rfl
def pU {prog:Rh}{w:RF}{A:RC}{E:tx->If->Prop}{s:If}{it t:Addr}{items:Array tx}{Q:tx->If->Prop}(hit:gG s.heap it t ((items.size:Int)- 1))(ht:VL s.heap t items)(hz:(items.size:Int)<2^63)
  (h:∀tk tk',s.toks<=tk->Q (.int items.size tk') {s with toks:=tk}):wpAny (model prog w) A (call (.builtin "reversed.__length_hint__") [.ref it]) Q E s:=by
 refine Sw jQ hit.typeIs oR ?_ (pS _)
 unfold Ub.«reversed.__length_hint__»
 refine pv (SA (a:=Re it) rfl ?_)
 refine pv (Se hit rfl (x:=.ref t) rfl ?_)
 rw[if_neg (by simp)]
 refine pv (len_tuple ht hz ?_)
 refine pv (SA (a:=some ((items.size:Nat):Int)) rfl ?_)
 try dsimp only
 refine pv (Se (s:={s with toks:=s.toks+1+1}) hit rfl (x:=rawInt ((items.size:Int)- 1)) rfl ?_)
 show wpAny _ _ (if (items.size:Int)<(items.size:Int)- 1+1 then _ else _) _ _ _
 rw[if_neg (by omega),show(items.size:Int)- 1+1=items.size from by omega]
 refine pv (Xt ?_)
 exact QL ⟨_,rfl,h _ _ (by show s.toks<=s.toks+1+1+1;omega)⟩
def rY {prog:Rh}{w:RF}{A:RC}(hh:A.handled=none)(I t:Addr)(hne:t≠I)(items:Array tx)(hz:(items.size:Int)<2^63):
  Walks prog w A I [I,t] [I] items.size (fun i v=>items[items.size- 1- i]?=some v) (fun i h=>i<=items.size/\gG h I t ((items.size:Int)- 1- (i:Int))/\VL h t items)where
 sub:=fun b hb=>by simp at hb;simp[hb]
 frame:=fun _ _ _ x hk=>⟨x.1,hk I (by simp) _ x.2.1,let ⟨o,ho,r⟩:=x.2.2;⟨o,hk t (by simp) _ ho,r⟩⟩
 item:=fun i s Q E hi x hQ=>by
  have e:(items.size:Int)- 1- (i:Int)=((items.size- 1- i:Nat):Int):=by omega
  have hit:=x.2.1
  rw[e]at hit
  have hx:items[items.size- 1- i]?=some (items[items.size- 1- i]'(by omega)):=SW (by omega)
  refine pO hit x.2.2 hz hx fun h' hit' hs'=>?_
  have e2:((items.size- 1- i:Nat):Int)- 1=(items.size:Int)- 1- ((i+1:Nat):Int):=by omega
  rw[e2]at hit'
  exact hQ _ h' _ hx ⟨hi,hit',x.2.2.extBut hs'.extBut hne⟩ fun b o hb eo=>hs'.extBut b o (fun h=>hb (by simp[h])) eo
 done:=fun s Q E x hQ=>by
  have e:(items.size:Int)- 1- (items.size:Int)= -1:=by omega
  have hit:=x.2.1
  rw[e]at hit
  exact rD hh hit fun h' he'=>hQ h' s.toks fun b o hb eo=>he' b o (fun h=>hb (by simp[h])) eo
 self:=fun _ _ _ _ x hQ=>yo x.2.1 hQ
section
variable {prog:Rh}{w:RF}{A:RC}{E:tx->If->Prop}{s:If}{I:Addr}{fp wr:List Addr}{G:Array XF->Array XF->Prop}{n:Nat}{P:Nat->tx->Prop}{St:Nat->If->Prop}
def tM {Q:List tx->If->Prop}(hH:∀(A':RC)(s:If)(Q:tx->If->Prop)(E:tx->If->Prop),St 0 s->(∀tk tk',s.toks<=tk->Q (.int n tk') {s with toks:=tk})->wpAny (model prog w) A' (call (.builtin "reversed.__length_hint__") [.ref I]) Q E s)(W:WalksS prog w A.in1 I fp wr G n P St)(hT:∀i s,St i s->s.TypeIs (.ref I) "reversed")(hst:St 0 s)(hfp:∀b∈fp,b<s.heap.objs.size)(hI:I∈fp)
  (hQ:∀s' acc,Moved wr G s s'->ItemsOf P acc n->Q acc.toList s')(hn:n<=sizeLine):wpAny (model prog w) A (collect (.ref I)) Q E s:=by
 have hSf:s.heap.objs.size∉fp:=fun hm=>Ss _ (hfp _ hm)
 have hSI:s.heap.objs.size≠I:=fun e=>hSf (e▸hI)
 unfold collect
 refine pv (wpAny_runValue (VX F.entry_proto_collect ?_))
 rw[Up F.plain_proto_collect _]
 show wpAny _ A.in1 (newList []>>=fun l=>again (.builtin "list.__iadd__" ⟨[l,.ref I],[]⟩)) _ _ s
 refine pv (RM ?_)
 refine QL ⟨Vj Xz _,VX F.entry_list_iadd ?_⟩
 rw[Up Xz _]
 have hst₁:=W.frame 0 s (s.heap.push {cls:=.type "list",data:=.seq ([]:List tx).toArray}) s.toks hst (gV _) fun b _ o e=>Lt _ e
 show wpAny _ A.in1 (UH (.ref s.heap.objs.size) (.ref I) (.ref s.heap.objs.size)) _ _ _
 unfold UH
 refine pv (UK (hT 0 _ hst₁) ?_)
 have h1:UU (.ref s.heap.objs.size) (.ref I)=false:=by simp[UU,hSI]
 rw[if_neg (by rw[h1];decide)]
 refine pv (W.self 0 _ _ _ hst₁ ?_)
 refine pv (SH ?_)
 unfold Builtin.List.listLengthHint
 refine pv (Tp (hT 0 _ hst₁) xv ?_)
 show wpAny _ A.in1 (specialOf (Re I) (Tt "__length_hint__")>>=_) _ _ _
 refine pv (Tp (hT 0 _ hst₁) yD ?_)
 generalize hid:("reversed.__length_hint__":String)=id0
 wp_delta
 rw[show splitId id0=some ("reversed","__length_hint__")from by subst hid;decide+kernel]
 subst hid
 refine pv (VG (b:=true) (hT 0 _ hst₁) (by rw[SK];kernel_rfl) ?_)
 rw[if_neg (by decide)]
 try dsimp only
 rw[if_neg (by decide+kernel)]
 refine pv (XO ?_)
 refine pv (SA (jQ.bind _) ?_)
 try dsimp only
 refine pv (Vi (hH _ _ _ _ hst₁ fun tk tk' htk=>?_))
 show wpAny _ _ (asInt? (TB (n:Int) tk')>>=_) _ _ _
 rw[show asInt? (TB (n:Int) tk')=pure (some (n:Int))from rfl]
 rw[We]
 try dsimp only
 rw[if_neg (by unfold Builtin.List.listFitsIndex;rw[Sm]at hn;simp;omega)]
 try dsimp only
 rw[if_neg (by omega)]
 try dsimp only
 rw[if_neg (by unfold Builtin.List.listTooLong;simp;omega)]
 refine QL ?_
 have hS₁:(s.heap.push {cls:=.type "list",data:=.seq ([]:List tx).toArray}).get? s.heap.objs.size=some {cls:=.type "list",data:=.seq ([]:List tx).toArray}:=QX _ rfl
 have key:∀(h:Heap)(c₁:Nat),(∀b o,b≠s.heap.objs.size->(s.heap.push {cls:=.type "list",data:=.seq ([]:List tx).toArray}).get? b=some o->h.get? b=some o)->h.get? s.heap.objs.size=some {cls:=.type "list",data:=.seq #[] c₁}->
   codeAny (model prog w) A (.builtin "list.extend.loop" ⟨[.ref s.heap.objs.size,.ref I,.ref s.heap.objs.size],[]⟩) (fun r s'=>r=.ok (.ret (.ref s.heap.objs.size))/\∃acc' c',Moved wr G s s'/\s'.heap.get? s.heap.objs.size=some {cls:=.type "list",dict:=none,data:=.seq acc' c',slots:=#[]}/\ItemsOf P acc' n) {s with heap:=h,toks:=tk}:=by
  intro h c₁ hk hS
  refine codeAny_extend_loopS W hn _ hSf _ n 0 _ _ _ rfl (QK _) (W.frame 0 ({s with heap:=s.heap.push {cls:=.type "list",data:=.seq ([]:List tx).toArray}}:If) h tk hst₁ htk fun b hb o e=>hk b o (fun z=>hSf (z▸hb)) e) hS (ItemsOf.nil P) fun s' acc' c' hm hS' hacc=>?_
  refine⟨rfl,acc',c',Moved.drop_new (o:={cls:=.type "list",data:=.seq ([]:List tx).toArray}) (tk:=s.toks) (Moved.trans W.gtrans ((Moved.refl W.grefl).then_heap htk fun b o hb e=>?_) hm) (gV _),hS',hacc⟩
  exact hk b o (fun z=>hb (by rw[z];exact Rb)) e
 refine wpAny_ite_split (fun _=>?_) (fun _=>QL ⟨Vj Xe _,SV (key _ _ (fun b o _ e=>e) hS₁) fun r s' hr=>?_⟩)
 ·refine pv (XO ?_)
  refine pv ?_
  show wpAny _ A.in1 (updateSeq s.heap.objs.size (·.push .none)>>=fun _=>updateSeq s.heap.objs.size (·.pop)) _ _ _
  refine pv (wpAny_updateSeq hS₁ rfl ?_)
  have hS₂:=SL (Uc (·.push SN)) hS₁ rfl
  refine wpAny_updateSeq hS₂ rfl ?_
  have hS₃:=SL (Uc (·.pop)) hS₂ rfl
  refine QL ⟨Vj Xe _,SV (key _ _ (fun b o hb e=>(RS _ _ (QU hb)).trans ((RS _ _ (QU hb)).trans e)) hS₃) fun r s' hr=>?_⟩
  obtain⟨rfl,acc',c',hm,hS',hacc⟩:=hr
  show wpAny _ A (load s.heap.objs.size>>=_) _ _ s'
  exact pv (XT hS' (QL (hQ s' acc' hm hacc)))
 ·obtain⟨rfl,acc',c',hm,hS',hacc⟩:=hr
  show wpAny _ A (load s.heap.objs.size>>=_) _ _ s'
  exact pv (XT hS' (QL (hQ s' acc' hm hacc)))
def ow {Q:tx->If->Prop}(hH:∀(A':RC)(s:If)(Q:tx->If->Prop)(E:tx->If->Prop),St 0 s->(∀tk tk',s.toks<=tk->Q (.int n tk') {s with toks:=tk})->wpAny (model prog w) A' (call (.builtin "reversed.__length_hint__") [.ref I]) Q E s)(W:WalksS prog w A.in1.in1.in1 I fp wr G n P St)(hT:∀i s,St i s->s.TypeIs (.ref I) "reversed")(hst:St 0 s)(hfp:∀b∈fp,b<s.heap.objs.size)(hI:I∈fp)
  (hQ:∀s' acc,Moved wr G s s'->ItemsOf P acc n->Q (.ref s'.heap.objs.size) {s' with heap:=s'.heap.push {cls:=.type "tuple",data:=.seq acc}})(hsz:n<=sizeLine):
  wpAny (model prog w) A (call (.type "tuple") [.ref I]) Q E s:=by
 refine callType_codes (Q₁:=fun obj s₁=>s₁.TypeIs obj "tuple"/\Q obj s₁) VZ (F.typeCall_tuple_1 _) F.entry_object_init ?_ fun obj s₁ h₁=>?_
 ·refine codeAny_of_tree ?_
  show wpAny _ A.in1.in1 (do checkBuiltinCall "tuple.__new__" ⟨[.type "tuple",.ref I],[]⟩;again (.builtin "tuple.__new__" ⟨[.type "tuple",.ref I],[]⟩)) _ _ s
  refine pv (SA (F.newCall_tuple_1 _) (QL ⟨Vj Xy _,VX F.entry_tuple_new ?_⟩))
  rw[Up Xy _]
  have hsub:=sub_tuple_self
  have hinit:=init_tuple_lookup
  have hmh:=madeHere_tuple
  have hTI:=hT 0 s hst
  wp_walk using UK hTI,tM (hn:=hsz) hH W hT hst hfp hI
  intro s' acc hm hacc
  show wpAny _ _ (RT acc.toList.toArray>>=fun v=>ret v) _ _ _
  unfold RT
  refine pv (RM ?_ (by show acc.toList.toArray.size<=sizeLine;simp only[Wo];rw[hacc.1];exact hsz))
  refine QL ?_
  have e:acc.toList.toArray=acc:=by simp
  rw[e]
  exact⟨⟨_,QX _ rfl,rfl⟩,hQ s' acc hm hacc⟩
 ·exact⟨h₁.1,VN obj _,object_init_meets VZ.init.lookup VZ.made (by decide) prog w A.in1 _ s₁ ⟨h₁.1,rfl,h₁.2⟩⟩
end
end HT
namespace L2
open PySem PySem.Spec PyProof.Rows
def tX (K:cW):List V->Hp->VK->Prop:=fun xs H Q=>∃c ys,xs=[.ref c]/\SqT K H c ys/\∀l,H l=none->Q (.ref l) (upd H l (.tup ys.reverse))
section
variable {X:Cx}{pins:List (Addr×Obj)}{σ:St}{H:Hp}{s:If}
def Dk {Q:VK}{c:Addr}{ys:List V}(hc:X.calm=true)(I:Inv X pins σ H s)(hq:SqT X.K H c ys)(q:∀l,H l=none->Q (.ref l) (upd H l (.tup ys.reverse))):
  wpAny (model X.prog X.w) X.A (call (.type "reversed") [.ref c]) (fun u s2=>wpAny (model X.prog X.w) X.A (call (.type "tuple") [u]) (EP X pins σ Q) X.xe s2) X.xe s:=by
 obtain⟨its,r',pl,hz⟩:=I.tuple hq
 have hlen:=r'.length
 have hz63:(its.toArray.size:Int)<2^63:=by rw[QJ];rw[Sm]at hz;omega
 refine HT.jV (show VL s.heap c its.toArray from pl) hz63 ?_
 have hcs:c<s.heap.objs.size:=pl.lt
 have hne:c≠s.heap.objs.size:=Rf hcs
 have W:=(HT.rY (prog:=X.prog) (w:=X.w) (A:=X.A.in1.in1.in1) (I.ok.hd hc) s.heap.objs.size c hne its.toArray hz63).toS
 have hz':its.toArray.size<=sizeLine:=by rw[QJ];omega
 have hsz:(s.heap.push (HT.rQ c ((its.toArray.size:Int)- 1))).objs.size=s.heap.objs.size+1:=UB _ _
 refine HT.ow (s:={s with heap:=s.heap.push (HT.rQ c ((its.toArray.size:Int)- 1)),toks:=s.toks+1+1}) (fun A' s3 Q' E' st h=>HT.pU (by have:=st.2.1;rwa [show(its.toArray.size:Int)- 1- ((0:Nat):Int)=(its.toArray.size:Int)- 1 from by omega]at this) st.2.2 hz63 h) W (fun i s3 st=>HT.gG.typeIs st.2.1) ⟨QK _,?_,pl.push _⟩ (fun b hb=>?_) (by simp) (fun s' acc' hm hacc=>?_) hz'
 ·show(s.heap.push _).get? _=_
  have e:(its.toArray.size:Int)- 1- ((0:Nat):Int)=(its.toArray.size:Int)- 1:=by omega
  rw[e]
  exact QX _ rfl
 ·show b<(s.heap.push _).objs.size
  rw[hsz]
  rcases QG.mp hb with z|z
  ·rw[z];exact Vl _
  ·rw[QR.mp z];exact Xh hcs
 ·have e1:acc'.toList=its.reverse:=by
   refine WX fun j=>?_
   by_cases hj:j<its.length
   ·have hj2:j<acc'.size:=by rw[hacc.1,QJ];exact hj
    have ea:acc'[j]?=some acc'[j]:=SW hj2
    have hp:its.toArray[its.toArray.size- 1- j]?=some acc'[j]:=hacc.2 j _ ea
    rw[Uo,ea,Wm hj,<-hp]
    simp
   ·rw[Ts (by rw[SZ,hacc.1,QJ];omega),Ts (by simp;omega)]
  have e2:acc'=its.reverse.toArray:=by rw[<-e1]
  have hw:∀b o,s.heap.get? b=some o->s'.heap.get? b=some o:=fun b o e=>by
   have hb:=QV e
   refine hm.heap b o (fun z=>?_) (Lt _ e)
   rw[QR.mp z]at hb
   exact Ss _ hb
  have es:s'={s with heap:=s'.heap,toks:=s'.toks}:=by
   have h1:=hm.gens
   have h2:=hm.drawn
   have h3:=hm.os
   cases s'
   cases h1;cases h2;cases h3
   rfl
  have I1:Inv X pins σ H s':=by rw[es];exact I.kept hw
  have new:bx X.prog X.w (upd H s'.heap.objs.size (.tup ys.reverse)) (s'.heap.push {cls:=.type "tuple",data:=.seq acc'}) s'.heap.objs.size (.tup ys.reverse):=⟨by rw[UJ];exact hz,its.reverse,r'.reverse,by rw[e2];exact Wb _ _⟩
  exact⟨.ref s'.heap.objs.size,upd H s'.heap.objs.size (.tup ys.reverse),I1.laid (t':=s'.toks) (fun b o e=>Lt _ e) (gV _) new,rfl,q _ (I1.hok.fresh (gV _))⟩
end
section
variable {X:Cx}{a:Expr}{t:TA}{p1 p2 pos1 pos2:Pos}
def xB:bootBuiltins "tuple"=some (.type "tuple"):=by decide+kernel
def yZ (hm1:X.mg "tuple"=none)(hm2:X.mg "reversed"=none)(hc:X.calm=true)(ha:QA X [a] t)(hg1:Gl X "tuple":=by rfl)(hg2:Gl X "reversed":=by rfl)(hs:bz [a]=true:=by rfl):
  QE X (.Call (.Name "tuple" p1) [.Call (.Name "reversed" p2) [a] [] pos2] [] pos1) (tCB (tX X.K) t):=⟨fun pins s σ H Q I h=>by
 have h':(cf a&&bz [])=true:=hs
 refine RP (gT I hg1 hm1 xB ?_ (by decide) (by decide))
 refine RW ?_ rfl rfl
 show wpAny _ _ (spliced ((false,eval (.Call (.Name "reversed" p2) [a] [] pos2) X.env)::backTo pos1 (starEach [] X.env))) _ _ s
 refine WE ?_
 refine RP (gT I hg2 hm2 tG ?_ (by decide) (by decide))
 refine RW (thn (ha.out pos2 pins s σ H _ I h) fun us s1 ⟨vs,H1,I1,r1,q1⟩=>?_)
  (bj (Gt.mp h').1 [] X.env) (cj (Gt.mp h').2)
 obtain⟨c,ys,rfl,hq,q⟩:=q1
 obtain⟨u,rfl,ru⟩:=fU r1
 cases ru
 refine Rq (Dk hc I1 hq q) (fun u s2 z=>?_) fun _ _ z=>z
 exact WL z⟩
end
def fj (L:List (Addr×Sp))(m:Str)(E:St->XK)(ta:TE)(t:TA):TE:=fun σ H Q=>ta σ H fun x H1=>∃a C dx fs sp,x=.ref a/\H1 a=some (.ins C dx fs)/\(C,sp)∈L/\fs.lookup m=none/\t σ H1 fun vs H2=>sp (x::vs) H2 Q (E σ)
def MD (X:Cx)(m:Str)(E:St->XK)(p:Addr×Sp):Prop:=∃CX k f fd ps,Cls X.K p.1/\bE X.K p.1 m f/\aG X.prog X.w X.K X.mg X.base CX k f fd ps p.2/\bB k X.A/\aL X.K fd ps []/\eA CX X E
structure CJ (K:cW)(C:Addr)(m:Str)(f:Addr):Prop where
 ga:US K (.ref C) "__getattribute__"=some (some (.builtin "type.__getattribute__"))
 rd:W.readsIn K C (.type "type")=true
 at_:W.findCls K (.ref C) (.type "type") m=some (.val (.ref f))
 ho:Wg (.ref f)=true
 kp:SG K (.ref f)=true
structure jy (K:cW)(C:Addr):Prop where
 cl:QF K (.ref C) "__class__"=some (some (.builtin "object.__class__"))
 gt:US K (.builtin "object.__class__") "__get__"=some (some (.builtin "getset_descriptor.__get__"))
 tk:XY K (.builtin "object.__class__")=some true
 mo:TL K C (.type "object")=some true
section
variable {X:Cx}{CX:CXT}{k:Nat}{f C:Addr}{fd:QD}{ps:List Str}{sp:Sp}{E:St->XK}{x m:Str}{p pos apos:Pos}{e:Expr}{es:List Expr}{t u:TE}{ta:TA}
def mdn {L:List (Addr×Sp)}(h:L=[]):∀p∈L,MD X m E p:=fun p hp=>by subst h;cases hp
def mdc {L:List (Addr×Sp)}(c:Cls X.K C)(hm:bE X.K C m f)(F:aG X.prog X.w X.K X.mg X.base CX k f fd ps sp)(hr:bB k X.A)(hb:aL X.K fd ps [])(hx:eA CX X E)(h:∀p∈L,MD X m E p):∀p∈(C,sp)::L,MD X m E p:=fun p hp=>by
 rcases QG.mp hp with rfl|hp
 ·exact⟨_,_,_,_,_,c,hm,F,hr,hb,hx⟩
 ·exact h p hp
def eP {L:List (Addr×Sp)}{o:Expr}{to:TE}{pl:Sem Bool}(he:QE X o to)(hL:∀p∈L,MD X m E p)(ha:QA X (e::es) ta)(hs:bz (e::es)=true:=by rfl)
  (ht:eval (.Call (.Attribute o m apos) (e::es) [] pos) X.env=(do
   let ov<-eval o X.env
   standAt apos.atName
   let (f,first)<-holding [ov] (getMethod ov m pl)
   callWith pos f first (backTo pos (starEach (e::es) X.env)) (backToKw pos (keywordEach [] X.env))):=by rfl):
  QE X (.Call (.Attribute o m apos) (e::es) [] pos) (fj L m E to ta):=⟨fun pins s σ H Q I h=>by
 have h':(cf e&&bz es)=true:=hs
 refine TN (pl:=pl) (thn (he.out pins s σ H _ I h) fun u s1 ⟨x,H1,I1,rx,a,C,dx,fs,sp,ex,ea,hC,l,q⟩=>?_) ht
 subst ex
 obtain rfl:u=Re a:=rx
 obtain⟨CX,k,f,fd,ps,c,hm,F,hr,hb,hx⟩:=hL _ hC
 refine jE I1 ea c hm l ?_
 refine Uz (first:=[.ref a]) (h₀:=X.base) I.ok.mod.kin hm.kp (thn (ha.out pos pins s1 σ H1 _ I1 q) fun us s2 ⟨vs,H2,I2,r,q2⟩=>⟨I2.kIn,?_⟩)
  (bj (Gt.mp h').1 es X.env) (cj (Gt.mp h').2)
 exact gK (us:=.ref a::us) (vs:=.ref a::vs) F hr hb hx I2 (.cons rfl r) q2⟩
def rJ {pl:Sem Bool}(hm:X.mg x=some (.ref C))(c:CJ X.K C m f)(F:aG X.prog X.w X.K X.mg X.base CX k f fd ps sp)(hr:bB k X.A)(hb:aL X.K fd ps [])(hx:eA CX X E)(ha:QA X (e::es) ta)
  (hg:Gl X x:=by rfl)(hd:(x==("__debug__":Str))=false:=by decide)(hs:bz (e::es)=true:=by rfl)
  (ht:eval (.Call (.Attribute (.Name x p) m apos) (e::es) [] pos) X.env=(do
   let ov<-eval (.Name x p) X.env
   standAt apos.atName
   let (f,first)<-holding [ov] (getMethod ov m pl)
   callWith pos f first (backTo pos (starEach (e::es) X.env)) (backToKw pos (keywordEach [] X.env))):=by rfl):
  QE X (.Call (.Attribute (.Name x p) m apos) (e::es) [] pos) (aD sp E ta):=⟨fun pins s σ H Q I h=>by
 have h':(cf e&&bz es)=true:=hs
 refine TN (pl:=pl) (thn ((oq (v:=.ref C) hg hm rfl hd) pins s σ H (fun v H1=>v=.ref C/\H1=H) I ⟨rfl,rfl⟩) fun u s1 ⟨v,H1,I1,rv,ev,eH⟩=>?_) ht
 subst ev eH
 obtain rfl:u=Re C:=rv
 refine W.method_cls I1.kIn c.ga (W.cls_value I1.kIn c.rd c.at_ c.ho ?_)
 refine Uz (first:=[]) (h₀:=X.base) I.ok.mod.kin c.kp (thn (ha.out pos pins _ σ H1 _ (I1.tok _) h) fun us s2 ⟨vs,H2,I2,r,q2⟩=>⟨I2.kIn,?_⟩)
  (bj (Gt.mp h').1 es X.env) (cj (Gt.mp h').2)
 exact gK F hr hb hx I2 r q2⟩
def nl (K:cW):List V->Hp->VK->Prop:=fun xs H Q=>∃a C dx fs D b,xs=[.ref a,.ref D]/\H a=some (.ins C dx fs)/\Cls K C/\jy K C/\Sl K (.ref C) (.ref D)=some b/\Q (.bl b) H
def qG:bS X (.builtin "isinstance") (nl X.K):=fun pins s σ H xs us Q I r h=>by
 obtain⟨a,C,dx,fs,D,b,rfl,ha,hC,G,hk,q⟩:=h
 obtain⟨u,w',rfl,r1,r2⟩:=rf r
 cases (show w'=Re D from r2)
 cases (show u=Re a from r1)
 obtain⟨mA,O,_,_,_,_⟩:=gL I.hok ha
 obtain⟨od,IA,_⟩:=O.look
 exact Tb (W.kitx_own (hC.get _) hC.hd G.cl G.gt G.tk G.mo) I.kIn IA hk (fun z=>nomatch z) fun tk=>⟨.bl _,H,I.tok tk,rfl,q⟩
end
end L2
namespace L2
open PySem PySem.Spec PyProof.Rows PySem.W
section
variable {key:Nat->Int}{n:Nat}
variable (inj:∀i j,i<n->j<n->key i=key j->i=j)
include inj
omit inj in
omit inj in
omit inj in
end
section
variable {X:Cx}{pins:List (Addr×Obj)}{σ:St}{H:Hp}{s:If}{h':Heap}{tk:Nat}
def bx.there {P:Rh}{w:RF}{h:Heap}{a:Addr}{o:HO}(x:bx P w H h a o):∃q,h.get? a=some q:=by
 cases o with
 |lst xs=>obtain⟨_,_,_,_,e⟩:=x;exact⟨_,e⟩
 |tup xs=>obtain⟨_,_,_,o,e,_⟩:=x;exact⟨_,e⟩
 |dK kvs=>obtain⟨_,_,_,_,o,_,_,e,_⟩:=x;exact⟨_,e⟩
 |dT kvs=>obtain⟨_,_,_,_,o,_,_,e,_⟩:=x;exact⟨_,e⟩
 |set S n=>obtain⟨o,_,_,_,e,_⟩:=x;exact⟨_,e⟩
 |ins C dx fs=>obtain⟨_,_,_,e,_⟩:=x;exact⟨_,e⟩
 |own y=>exact x
 |xd fs=>obtain⟨_,⟨_,_,_,e,_⟩,_⟩:=x;exact⟨_,e⟩
 |rng lo hi=>obtain⟨_,_,_,e⟩:=x;exact⟨_,e⟩
 |frz ob u=>exact⟨_,x.1⟩
 |tbl ps=>exact⟨_,x⟩
 |met f y=>exact⟨_,x⟩
 |ext φ=>exact x.2.1
def New (h:Heap)(a:Addr):Prop:=∀b u,h.get? b=some u->b≠a
def New.free {a:Addr}(n:New s.heap a)(I:Inv X pins σ H s):H a=none:=by
 cases e:H a with
 |none=>rfl
 |some o=>obtain⟨q,z⟩:=(I.hok a o e).there;exact absurd rfl (n a q z)
def Inv.track3 {a:Addr}{o:HO}{H1:Hp}{s0:If}(I0:Inv X pins σ H1 s0)(I:Inv X pins σ H s)(ne:New s0.heap a)(hn:H a=none)(ok:bx X.prog X.w (upd H a o) s.heap a o):Inv X pins σ (upd H a o) s:=by
 have nL:X.env.locals≠a:=let ⟨m,⟨o',_,_,e,_⟩,_⟩:=I0.loc;ne _ _ e
 refine⟨I.ok,I.os,I.bare,⟨I.base.keep,I.base.slot,fun b u e n hx=>?_,I.base.there,fun b xs e=>?_,fun b u v e=>?_,fun b ps e=>?_⟩,I.loc,I.cell,?_,fun x c e=>?_,fun p hp=>?_,fun b u e=>?_,I.len⟩
 ·obtain⟨o',e'⟩:=I0.base.there b u e hx
  rw[ap (ne b o' e')];exact I.base.free b u e n hx
 ·have:=I.base.tups b xs e
  rw[ap (aq this hn)];exact this
 ·have:=I.base.frzs b u v e
  rw[ap (aq this hn)];exact this
 ·obtain⟨more,this⟩:=I.base.tbls b ps e
  exact⟨more,by rw[ap (aq this hn)];exact this⟩
 ·rw[ap nL];exact I.free
 ·obtain⟨v,o',e',_⟩:=I0.cell x c e
  rw[ap (ne _ _ e')];exact I.freeC x c e
 ·obtain⟨h1,h2,h3⟩:=I.pin p hp
  exact⟨h1,by rw[ap (ne _ _ (I0.pin p hp).1)];exact h2,h3⟩
 ·by_cases hb:b=a
  ·subst hb
   rw[ag]at e;cases e
   exact ok
  ·rw[ap hb]at e
   have nt:∀c q,H c=some q->upd H a o c=some q:=fun c q z=>by rw[ap (aq z hn)];exact z
   exact(I.hok b u e).stay (fun c v _ q=>q) (fun c q=>nt _ _ q) fun c xs q=>nt _ _ q
def jB (rs:List (Int×V)):List (Key×V):=rs.map fun r=>(.inl r.1,r.2)
def Dr {P:Rh}{w:RF}{i:Int}{v:tx}(h:(cD P w).is (.inl i) v=true):∃t,v=TB i t:=by
 rcases cI (k:=.inl i) (v:=v) h with⟨j,t,e,rfl⟩|⟨x,t,e,_⟩
 ·cases e;exact⟨t,rfl⟩
 ·cases e
def MC {rs:List (Int×V)}{vs:List (Key×tx)}(r:KV (jB rs) vs){j:Nat}{k:Key}{x:tx}(e:vs[j]? =some (k,x)):∃q,rs[j]? =some q/\k=.inl q.1/\ba q.2 x:=by
 unfold KV jB at r
 induction rs generalizing vs j with
 |nil=>cases r;simp at e
 |cons q rs ih=>
  cases r with
  |cons h t=>
   cases j with
   |zero=>cases e;exact⟨q,rfl,h.1.symm,h.2⟩
   |succ j=>exact ih t (by simpa using e)
def HC {rs:List (Int×V)}{vs:List (Key×tx)}(r:KV (jB rs) vs):vs.length=rs.length:=by
 rw[<-r.length];unfold jB;rw[QC]
def qQ (K:cW):List V->Hp->VK->Prop:=fun xs H Q=>∃a kvs,xs=[.ref a]/\H a=some (.dK kvs)/\∀p,H p=none->Q (.ref p) (upd H p (.dK kvs))
def Dd:bS X (.type "dict") (qQ X.K):=fun pins s σ H xs us Q I r h=>by
 obtain⟨a,kvs,rfl,ha,q⟩:=h
 obtain⟨u,rfl,ru⟩:=fU r
 cases (show u=Re a from ru)
 exact Br I (.inl ha) fun p s' hp I'=>⟨.ref p,_,I',rfl,q p hp⟩
def rg:V->List V->Hp->VK->Prop:=fun x vs H Q=>∃a kvs k v,x=.ref a/\vs=[kV k]/\H a=some (.dK kvs)/\cg kvs k=some v/\Q v (upd H a (.dK (jM kvs k)))
def Dg:MtR X "dict.pop" rg:=by
 intro pins s σ H x vs v us Q I rx rv h
 obtain⟨a,kvs,k,v',rfl,rfl,ha,l,q⟩:=h
 obtain rfl:v=Re a:=rx
 obtain⟨uy,rfl,ry⟩:=rv.one
 exact Lh (more:=[]) I ha ry l (.inl rfl) fun w' s' I' r'=>⟨_,_,I',r',q⟩
end
end L2
namespace Rs
def oI (b x y c:Nat):Prop:=c<=b/\x/2^(b- c)=y/2^(b- c)/\(c=b\/x/2^(b- (c+1))≠y/2^(b- (c+1)))
abbrev st (B k d:Nat):Nat:=k/2^(B- d)
abbrev sd (B k d:Nat):Nat:=k/2^(B- 1- d)%2
inductive Kn (α:Type)where
 |bare
 |leaf (k:Nat) (t:α)
 |fork (d b:Nat) (l r:Kn α)
section
variable {α:Type}
def bv:Kn α->List (Nat×α)
 |.bare=>[]
 |.leaf k t=>[(k,t)]
 |.fork _ _ l r=>bv l++bv r
def aM (B key:Nat):Kn α->Option α
 |.bare=>none
 |.leaf k t=>if key=k then some t else none
 |.fork d _ l r=>if sd B key d=0 then aM B key l else aM B key r
def WF (B:Nat):Nat->Nat->Kn α->Prop
 |_,_,.bare=>False
 |d0,b0,.leaf k _=>k<2^B/\st B k d0=b0
 |d0,b0,.fork d b l r=>d0<=d/\d<B/\b/2^(d- d0)=b0/\WF B (d+1) (2*b) l/\WF B (d+1) (2*b+1) r
def cS {B k d:Nat}(h:d<B):st B k (d+1)=2*st B k d+sd B k d:=by
 have e:B- d=(B- (d+1))+1:=by omega
 have e2:B- 1- d=B- (d+1):=by omega
 unfold st sd
 rw[e,e2,Uv,<-Tl]
 omega
def fS {B k d:Nat}:sd B k d<2:=Nat.mod_lt _ (by decide)
def kX {B k d e:Nat}(h1:d<=e)(h2:e<=B):st B k d=st B k e/2^(e- d):=by
 unfold st
 rw[Tl,<-Ui]
 congr 2
 omega
theorem WF.mem {B:Nat}:∀{t:Kn α}{d0 b0:Nat},d0<=B->WF B d0 b0 t->∀p∈bv t,p.1<2^B/\st B p.1 d0=b0
 |.bare,_,_,_,h,_,_=>h.elim
 |.leaf k t,_,_,_,h,p,hp=>by rw[QR.mp hp];exact h
 |.fork d b l r,d0,b0,_,⟨h1,h2,h3,hl,hr⟩,p,hp=>by
  have key:p.1<2^B/\st B p.1 d=b:=by
   rcases Rv.mp hp with z|z
   ·obtain⟨a,c⟩:=hl.mem (by omega) p z
    rw[cS h2]at c
    have:=@fS B p.1 d
    exact⟨a,by omega⟩
   ·obtain⟨a,c⟩:=hr.mem (by omega) p z
    rw[cS h2]at c
    have:=@fS B p.1 d
    exact⟨a,by omega⟩
  exact⟨key.1,by rw[kX h1 (by omega),key.2];exact h3⟩
def WF.left {B d0 b0 d b:Nat}{l r:Kn α}(h:WF B d0 b0 (.fork d b l r)):∀p∈bv l,st B p.1 d=b/\sd B p.1 d=0:=fun p hp=>by
 obtain⟨h1,h2,h3,hl,hr⟩:=h
 have c:=(hl.mem (by omega) p hp).2
 rw[cS h2]at c
 have:=@fS B p.1 d
 omega
def WF.right {B d0 b0 d b:Nat}{l r:Kn α}(h:WF B d0 b0 (.fork d b l r)):∀p∈bv r,st B p.1 d=b/\sd B p.1 d=1:=fun p hp=>by
 obtain⟨h1,h2,h3,hl,hr⟩:=h
 have c:=(hr.mem (by omega) p hp).2
 rw[cS h2]at c
 have:=@fS B p.1 d
 omega
theorem WF.ne {B d0 b0:Nat}:∀{t:Kn α}{d0 b0:Nat},WF B d0 b0 t->∃p,p∈bv t
 |.bare,_,_,h=>h.elim
 |.leaf k t,_,_,_=>⟨(k,t),QR.mpr rfl⟩
 |.fork d b l r,_,_,⟨_,_,_,hl,_⟩=>by
  obtain⟨p,hp⟩:=WF.ne (d0:=d0) (b0:=b0) hl
  exact⟨p,Sy _ hp⟩
def iG (l:List (Nat×α)):Prop:=l.Pairwise fun p q=>p.1<q.1
theorem WF.up {B:Nat}:∀{t:Kn α}{d0 b0:Nat},WF B d0 b0 t->iG (bv t)
 |.bare,_,_,h=>h.elim
 |.leaf k t,_,_,_=>VS _ _
 |.fork d b l r,d0,b0,h=>by
  have hf:=h
  obtain⟨h1,h2,h3,hl,hr⟩:=h
  refine List.pairwise_append.mpr ⟨hl.up,hr.up,fun p hp q hq=>?_⟩
  have e1:=(hl.mem (by omega) p hp).2
  have e2:=(hr.mem (by omega) q hq).2
  unfold st at e1 e2
  apply RL
  intro hn
  have:=Nat.div_le_div_right (c:=2^(B- (d+1))) (show q.1<=p.1 by omega)
  omega
def look (key:Nat):List (Nat×α)->Option α
 |[]=>none
 |(k,t)::r=>if key=k then some t else look key r
def lK (key:Nat)(l m:List (Nat×α)):look key (l++m)=(look key l).or (look key m):=by
 induction l with
 |nil=>rfl
 |cons p r ih=>
  show(if key=p.1 then some p.2 else look key (r++m))=(if key=p.1 then some p.2 else look key r).or (look key m)
  split
  ·rfl
  ·exact ih
def dY {key:Nat}{l:List (Nat×α)}(h:∀p∈l,p.1≠key):look key l=none:=by
 induction l with
 |nil=>rfl
 |cons p r ih=>
  show(if key=p.1 then some p.2 else look key r)=none
  rw[if_neg fun e=>h p Rb e.symm]
  exact ih fun q hq=>h q (QN _ hq)
theorem de {B key:Nat}:∀{t:Kn α}{d0 b0:Nat},WF B d0 b0 t->aM B key t=look key (bv t)
 |.bare,_,_,h=>h.elim
 |.leaf k t,_,_,_=>rfl
 |.fork d b l r,d0,b0,h=>by
  have hf:=h
  obtain⟨h1,h2,h3,hl,hr⟩:=h
  show(if sd B key d=0 then aM B key l else aM B key r)=look key (bv l++bv r)
  rw[lK]
  by_cases e:sd B key d=0
  ·rw[if_pos e,de hl,dY (l:=bv r) fun p hp z=>by
    have:=(hf.right p hp).2
    rw[z]at this;omega]
   cases look key (bv l)<;>rfl
  ·rw[if_neg e,de hr,dY (l:=bv l) fun p hp z=>by
    have:=(hf.left p hp).2
    rw[z]at this;omega]
   rfl
def alN (B x y:Nat):Nat->Nat
 |0=>0
 |c+1=>if x/2^(B- (c+1))=y/2^(B- (c+1))then c+1 else alN B x y c
theorem xS {B x y:Nat}(hx:x<2^B)(hy:y<2^B):∀n,n<=B->alN B x y n<=n/\x/2^(B- alN B x y n)=y/2^(B- alN B x y n)/\(alN B x y n=n\/x/2^(B- (alN B x y n+1))≠y/2^(B- (alN B x y n+1)))
 |0,_=>⟨gV _,by show x/2^B=y/2^B;rw[Tw hx,Tw hy],.inl rfl⟩
 |c+1,hn=>by
  unfold alN
  split
  ·rename_i e;exact⟨gV _,e,.inl rfl⟩
  ·rename_i e
   obtain⟨a1,a2,a3⟩:=xS hx hy c (by omega)
   refine⟨by omega,a2,.inr ?_⟩
   rcases a3 with z|z
   ·rw[z];exact e
   ·exact z
def al (B x y:Nat):Nat:=alN B x y B
def kB {B x y:Nat}(hx:x<2^B)(hy:y<2^B):oI B x y (al B x y):=xS hx hy B (gV _)
def qh {B x y:Nat}(hx:x<2^B)(hy:y<2^B)(ne:x≠y):al B x y<B/\st B x (al B x y)=st B y (al B x y)/\sd B x (al B x y)≠sd B y (al B x y):=by
 obtain⟨a1,a2,a3⟩:=kB hx hy
 have lt:al B x y<B:=by
  rcases Ww (al B x y) B with h|h
  ·exact h
  ·exfalso
   have e:al B x y=B:=by omega
   rw[e,Nat.sub_self,Nat.pow_zero,Nat.div_one,Nat.div_one]at a2
   exact ne a2
 refine⟨lt,a2,fun z=>?_⟩
 rcases a3 with h|h
 ·omega
 ·apply h
  have e1:=@cS B x _ lt
  have e2:=@cS B y _ lt
  show st B x (al B x y+1)=st B y (al B x y+1)
  have a2':st B x (al B x y)=st B y (al B x y):=a2
  rw[e1,e2,a2',z]
def rW {B x y d e:Nat}(h1:d<=e)(h2:e<=B)(h:st B x e=st B y e):st B x d=st B y d:=by rw[kX h1 h2,kX h1 h2,h]
def fE (B d key:Nat)(x:α)(t:Kn α):Kn α:=if sd B key d=0 then .fork d (st B key d) (.leaf key x) t else .fork d (st B key d) t (.leaf key x)
def df (B key:Nat)(x:α):Kn α->Kn α
 |.bare=>.leaf key x
 |.leaf k t=>if key=k then .leaf key x else fE B (al B key k) key x (.leaf k t)
 |.fork d b l r=>if st B key d=b then(if sd B key d=0 then .fork d b (df B key x l) r else .fork d b l (df B key x r))
  else fE B (al d b (st B key d)) key x (.fork d b l r)
theorem WF.lift {B d0 b0 d b:Nat}:∀{t:Kn α},WF B d0 b0 t->(∀p∈bv t,st B p.1 d=b)->d<=B->d0<=B->(∀e b' l r,t=.fork e b' l r->d<=e)->WF B d b t
 |.bare,h,_,_,_,_=>h.elim
 |.leaf k t,h,hs,_,_,_=>⟨h.1,hs (k,t) (QR.mpr rfl)⟩
 |.fork e b' l r,h,hs,hd,_,he=>by
  have hf:=h
  obtain⟨h1,h2,h3,hl,hr⟩:=h
  have hde:=he e b' l r rfl
  refine⟨hde,h2,?_,hl,hr⟩
  obtain⟨p,hp⟩:=WF.ne (d0:=0) (b0:=0) hl
  have:=hs p (Sy _ hp)
  rw[kX hde (by omega),(hf.left p hp).1]at this
  exact this
def sy {B d0 b0 d key:Nat}{x:α}{t:Kn α}(h:WF B d0 b0 t)(hk:key<2^B)(hd:d<B)(h0:d0<=d)(hkb:st B key d0=b0)(hs:∀p∈bv t,st B p.1 d=st B key d/\sd B p.1 d≠sd B key d)
  (he:∀e b' l r,t=.fork e b' l r->d<e):WF B d0 b0 (fE B d key x t)/\∀k,aM B k (fE B d key x t)=if k=key then some x else aM B k t:=by
 have lt:=@fS B key d
 have up:∀p∈bv t,st B p.1 (d+1)=2*st B key d+(1- sd B key d):=fun p hp=>by
  obtain⟨a,c⟩:=hs p hp
  have:=@fS B p.1 d
  rw[cS hd,a]
  omega
 have wt:WF B (d+1) (2*st B key d+(1- sd B key d)) t:=h.lift up hd (by omega) fun e b' l r z=>he e b' l r z
 have wk:WF B (d+1) (2*st B key d+sd B key d) (Kn.leaf key x):=⟨hk,cS hd⟩
 have pre:st B key d/2^(d- d0)=b0:=by rw[<-kX h0 (by omega)];exact hkb
 unfold fE
 by_cases e:sd B key d=0
 ·rw[if_pos e]
  rw[e]at wt wk
  refine⟨⟨h0,hd,pre,wk,wt⟩,fun k=>?_⟩
  show(if sd B k d=0 then(if k=key then some x else none)else aM B k t)=_
  by_cases ek:k=key
  ·subst ek;rw[if_pos e,if_pos rfl,if_pos rfl]
  ·rw[if_neg ek,if_neg ek]
   by_cases e2:sd B k d=0
   ·rw[if_pos e2,de h,dY fun p hp z=>?_]
    have:=(hs p hp).2
    rw[z]at this;omega
   ·rw[if_neg e2]
 ·rw[if_neg e]
  have e1:sd B key d=1:=by omega
  rw[e1]at wt wk
  refine⟨⟨h0,hd,pre,wt,wk⟩,fun k=>?_⟩
  show(if sd B k d=0 then aM B k t else(if k=key then some x else none))=_
  by_cases ek:k=key
  ·subst ek;rw[if_neg e,if_pos rfl,if_pos rfl]
  ·rw[if_neg ek,if_neg ek]
   by_cases e2:sd B k d=0
   ·rw[if_pos e2]
   ·rw[if_neg e2,de h,dY fun p hp z=>?_]
    have w:=(hs p hp).2
    have:=@fS B k d
    rw[z]at w;omega
theorem lY {B key:Nat}{x:α}(hk:key<2^B):∀{t:Kn α}{d0 b0:Nat},d0<=B->WF B d0 b0 t->st B key d0=b0->WF B d0 b0 (df B key x t)/\∀k,aM B k (df B key x t)=if k=key then some x else aM B k t
 |.bare,_,_,_,h,_=>h.elim
 |.leaf k t,d0,b0,h0,h,hb=>by
  unfold df
  by_cases e:key=k
  ·subst e
   rw[if_pos rfl]
   refine⟨h,fun k'=>?_⟩
   show(if k'=key then some x else none)=if k'=key then some x else(if k'=key then some t else none)
   by_cases e:k'=key
   ·rw[if_pos e,if_pos e]
   ·rw[if_neg e,if_neg e,if_neg e]
  ·rw[if_neg e]
   obtain⟨a1,a2,a3⟩:=qh hk h.1 e
   refine sy h hk a1 ?_ hb (fun p hp=>?_) fun _ _ _ _ z=>nomatch z
   ·apply RL
    intro hn
    apply a3
    have q:st B key (al B key k+1)=st B k (al B key k+1):=rW (by omega) h0 (by rw[hb,h.2])
    rw[cS a1,cS a1]at q
    omega
   ·rw[QR.mp hp]
    exact⟨a2.symm,QU a3⟩
 |.fork d b l r,d0,b0,h0,h,hb=>by
  have hf:=h
  obtain⟨h1,h2,h3,hl,hr⟩:=h
  unfold df
  by_cases e:st B key d=b
  ·rw[if_pos e]
   by_cases e2:sd B key d=0
   ·rw[if_pos e2]
    obtain⟨w,f⟩:=lY (x:=x) hk (by omega) hl (by rw[cS h2,e,e2];rfl)
    refine⟨⟨h1,h2,h3,w,hr⟩,fun k=>?_⟩
    show(if sd B k d=0 then aM B k (df B key x l)else aM B k r)=if k=key then some x else(if sd B k d=0 then aM B k l else aM B k r)
    rw[f k]
    by_cases ek:k=key
    ·subst ek;rw[if_pos e2,if_pos rfl,if_pos rfl]
    ·rw[if_neg ek,if_neg ek]
   ·rw[if_neg e2]
    have lt:=@fS B key d
    obtain⟨w,f⟩:=lY (x:=x) hk (by omega) hr (by rw[cS h2,e];omega)
    refine⟨⟨h1,h2,h3,hl,w⟩,fun k=>?_⟩
    show(if sd B k d=0 then aM B k l else aM B k (df B key x r))=if k=key then some x else(if sd B k d=0 then aM B k l else aM B k r)
    rw[f k]
    by_cases ek:k=key
    ·subst ek;rw[if_neg e2,if_pos rfl,if_pos rfl]
    ·rw[if_neg ek,if_neg ek]
  ·rw[if_neg e]
   have all:∀p∈bv (Kn.fork d b l r),st B p.1 d=b/\p.1<2^B:=fun p hp=>⟨(Rv.mp hp).elim (fun z=>(hf.left p z).1) fun z=>(hf.right p z).1,(hf.mem h0 p hp).1⟩
   obtain⟨p0,hp0⟩:=WF.ne (d0:=0) (b0:=0) hf
   have stlt:∀k,k<2^B->st B k d<2^d:=fun k hk=>by
    unfold st
    rw[Ux (Th _),<-Ui,show d+(B- d)=B by omega]
    exact hk
   have hbl:b<2^d:=by rw[<-(all p0 hp0).1];exact stlt _ (all p0 hp0).2
   obtain⟨a1,a2,a3⟩:=qh hbl (stlt key hk) (QU e)
   generalize al d b (st B key d)=a at a1 a2 a3⊢
   have pp:∀k,st d (st B k d) a=st B k a:=fun k=>by
    unfold st
    rw[Tl,<-Ui,show B- d+(d- a)=B- a by omega]
   have ps:∀k,sd d (st B k d) a=sd B k a:=fun k=>by
    unfold sd st
    rw[Tl,<-Ui,show B- d+(d- 1- a)=B- 1- a by omega]
   have ea:∀p∈bv (Kn.fork d b l r),st B p.1 a=st B key a/\sd B p.1 a≠sd B key a:=fun p hp=>by
    have q:=(all p hp).1
    rw[<-pp p.1,<-pp key,<-ps p.1,<-ps key,q]
    exact⟨a2,a3⟩
   refine sy hf hk (by omega) ?_ hb ea fun e' _ _ _ z=>by cases z;exact a1
   apply RL
   intro hn
   apply(ea p0 hp0).2
   have q:st B p0.1 (a+1)=st B key (a+1):=rW (by omega) h0 (by rw[hb,(hf.mem h0 p0 hp0).2])
   rw[cS (by omega),cS (by omega),(ea p0 hp0).1]at q
   omega
def bn (B key:Nat):Kn α->Kn α
 |.bare=>.bare
 |.leaf k t=>if key=k then .bare else .leaf k t
 |.fork d b l r=>if sd B key d=0 then(match bn B key l with|.bare=>r|u=>.fork d b u r)else(match bn B key r with|.bare=>l|u=>.fork d b l u)
theorem iy {B key:Nat}:∀{t:Kn α}{d0 b0:Nat},d0<=B->WF B d0 b0 t->(bn B key t=.bare\/WF B d0 b0 (bn B key t))/\∀k,aM B k (bn B key t)=if k=key then none else aM B k t
 |.bare,_,_,_,h=>h.elim
 |.leaf k t,d0,b0,h0,h=>by
  unfold bn
  by_cases e:key=k
  ·subst e
   rw[if_pos rfl]
   refine⟨.inl rfl,fun k'=>?_⟩
   show none=if k'=key then none else(if k'=key then some t else none)
   by_cases e:k'=key
   ·rw[if_pos e]
   ·rw[if_neg e,if_neg e]
  ·rw[if_neg e]
   refine⟨.inr h,fun k'=>?_⟩
   show(if k'=k then some t else none)=if k'=key then none else(if k'=k then some t else none)
   by_cases e':k'=key
   ·rw[if_pos e',if_neg fun z=>e (e'.symm.trans z)]
   ·rw[if_neg e']
 |.fork d b l r,d0,b0,h0,h=>by
  have hf:=h
  obtain⟨h1,h2,h3,hl,hr⟩:=h
  have one:∀{u:Kn α},WF B (d+1) (2*b) u\/WF B (d+1) (2*b+1) u->WF B d0 b0 u:=fun{u} hu=>by
   have hm:∀p∈bv u,st B p.1 d=b:=fun p hp=>by
    rcases hu with hu|hu
    ·have c:=(hu.mem (by omega) p hp).2
     rw[cS h2]at c
     have:=@fS B p.1 d
     omega
    ·have c:=(hu.mem (by omega) p hp).2
     rw[cS h2]at c
     have:=@fS B p.1 d
     omega
   have hm0:∀p∈bv u,st B p.1 d0=b0:=fun p hp=>by rw[kX h1 (by omega),hm p hp];exact h3
   rcases hu with hu|hu
   ·exact hu.lift hm0 h0 (by omega) fun e b' l' r' z=>by subst z;have:=hu.1;omega
   ·exact hu.lift hm0 h0 (by omega) fun e b' l' r' z=>by subst z;have:=hu.1;omega
  unfold bn
  by_cases e:sd B key d=0
  ·rw[if_pos e]
   obtain⟨w,f⟩:=iy (key:=key) (by omega) hl
   cases q:bn B key l with
   |bare=>
    rw[q]at f
    refine⟨.inr (one (.inr hr)),fun k=>?_⟩
    show aM B k r=if k=key then none else(if sd B k d=0 then aM B k l else aM B k r)
    have fk:none=if k=key then none else aM B k l:=f k
    by_cases ek:k=key
    ·subst ek
     rw[if_pos rfl,de hr,dY fun p hp z=>?_]
     have:=(hf.right p hp).2
     rw[z]at this;omega
    ·rw[if_neg ek]at fk⊢
     by_cases e2:sd B k d=0
     ·rw[if_pos e2,<-fk,de hr,dY fun p hp z=>?_]
      have:=(hf.right p hp).2
      rw[z]at this;omega
     ·rw[if_neg e2]
   |leaf k' t'=>
    rw[q]at w f
    have w':=w.resolve_left (by intro z;cases z)
    refine⟨.inr ⟨h1,h2,h3,w',hr⟩,fun k=>?_⟩
    show(if sd B k d=0 then aM B k (.leaf k' t')else aM B k r)=_
    rw[f k]
    show _=if k=key then none else(if sd B k d=0 then aM B k l else aM B k r)
    by_cases ek:k=key
    ·subst ek;rw[if_pos e,if_pos rfl,if_pos rfl]
    ·rw[if_neg ek,if_neg ek]
   |fork d' b' l' r'=>
    rw[q]at w f
    have w':=w.resolve_left (by intro z;cases z)
    refine⟨.inr ⟨h1,h2,h3,w',hr⟩,fun k=>?_⟩
    show(if sd B k d=0 then aM B k (.fork d' b' l' r')else aM B k r)=_
    rw[f k]
    show _=if k=key then none else(if sd B k d=0 then aM B k l else aM B k r)
    by_cases ek:k=key
    ·subst ek;rw[if_pos e,if_pos rfl,if_pos rfl]
    ·rw[if_neg ek,if_neg ek]
  ·rw[if_neg e]
   have e1:sd B key d=1:=by have:=@fS B key d;omega
   obtain⟨w,f⟩:=iy (key:=key) (by omega) hr
   cases q:bn B key r with
   |bare=>
    rw[q]at f
    refine⟨.inr (one (.inl hl)),fun k=>?_⟩
    show aM B k l=if k=key then none else(if sd B k d=0 then aM B k l else aM B k r)
    have fk:none=if k=key then none else aM B k r:=f k
    by_cases ek:k=key
    ·subst ek
     rw[if_pos rfl,de hl,dY fun p hp z=>?_]
     have:=(hf.left p hp).2
     rw[z]at this;omega
    ·rw[if_neg ek]at fk⊢
     by_cases e2:sd B k d=0
     ·rw[if_pos e2]
     ·rw[if_neg e2,<-fk,de hl,dY fun p hp z=>?_]
      have:=(hf.left p hp).2
      rw[z]at this;omega
   |leaf k' t'=>
    rw[q]at w f
    have w':=w.resolve_left (by intro z;cases z)
    refine⟨.inr ⟨h1,h2,h3,hl,w'⟩,fun k=>?_⟩
    show(if sd B k d=0 then aM B k l else aM B k (.leaf k' t'))=_
    rw[f k]
    show _=if k=key then none else(if sd B k d=0 then aM B k l else aM B k r)
    by_cases ek:k=key
    ·subst ek;rw[if_neg e,if_pos rfl,if_pos rfl]
    ·rw[if_neg ek,if_neg ek]
   |fork d' b' l' r'=>
    rw[q]at w f
    have w':=w.resolve_left (by intro z;cases z)
    refine⟨.inr ⟨h1,h2,h3,hl,w'⟩,fun k=>?_⟩
    show(if sd B k d=0 then aM B k l else aM B k (.fork d' b' l' r'))=_
    rw[f k]
    show _=if k=key then none else(if sd B k d=0 then aM B k l else aM B k r)
    by_cases ek:k=key
    ·subst ek;rw[if_neg e,if_pos rfl,if_pos rfl]
    ·rw[if_neg ek,if_neg ek]
theorem wH:∀{l m:List (Nat×α)},iG l->iG m->(∀k,look k l=look k m)->l=m
 |[],[],_,_,_=>rfl
 |[],q::m,_,_,h=>by
  have:=h q.1
  have e:look q.1 (q::m)=some q.2:=if_pos rfl
  rw[e]at this;cases this
 |p::l,[],_,_,h=>by
  have:=h p.1
  have e:look p.1 (p::l)=some p.2:=if_pos rfl
  rw[e]at this;cases this
 |p::l,q::m,hl,hm,h=>by
  obtain⟨l1,l2⟩:=WP.mp hl
  obtain⟨m1,m2⟩:=WP.mp hm
  have no:∀{p:Nat×α}{l:List (Nat×α)},(∀q∈l,p.1<q.1)->∀k,k<=p.1->look k l=none:=fun hp k hk=>dY fun q hq z=>by have:=hp q hq;omega
  have ep:look p.1 (p::l)=some p.2:=if_pos rfl
  have eq:look q.1 (q::m)=some q.2:=if_pos rfl
  have e1:p.1=q.1:=by
   rcases Nat.lt_trichotomy p.1 q.1 with z|z|z
   ·have w:=h p.1
    rw[ep]at w
    have:look p.1 (q::m)=none:=by
     show(if p.1=q.1 then some q.2 else look p.1 m)=none
     rw[if_neg (by omega)]
     exact no m1 _ (by omega)
    rw[this]at w;cases w
   ·exact z
   ·have w:=h q.1
    rw[eq]at w
    have:look q.1 (p::l)=none:=by
     show(if q.1=p.1 then some p.2 else look q.1 l)=none
     rw[if_neg (by omega)]
     exact no l1 _ (by omega)
    rw[this]at w;cases w
  have e2:p=q:=by
   have w:=h p.1
   rw[ep,e1,eq]at w
   exact XH e1 (QZ w)
  subst e2
  have e3:l=m:=wH l2 m2 fun k=>by
   by_cases e:k=p.1
   ·subst e;rw[no l1 _ (gV _),no m1 _ (gV _)]
   ·have w:=h k
    have a:look k (p::l)=look k l:=if_neg e
    have b:look k (p::m)=look k m:=if_neg e
    rw[a,b]at w;exact w
  rw[e3]
end
end Rs
namespace L2
open PySem PySem.Spec PyProof.Rows PySem.W
section
variable {X:Cx}
def xg (K:cW):List V->Hp->VK->Prop:=fun xs H Q=>∃a rs,xs=[.ref a]/\H a=some (.dK (jB rs))/\rs.length<64/\∀(l:Addr)(ns:List Int),H l=none->ns.Perm (rs.map (·.1))->ns.Pairwise (·<=·)->Q (.ref l) (upd H l (.lst (ns.map V.int)))
def EK (hc:X.calm=true):bS X (.builtin "sorted") (xg X.K):=fun pins s σ H xs us Q I r h=>by
 obtain⟨a,rs,rfl,ha,h64,q⟩:=h
 obtain⟨u,rfl,ru⟩:=fU r
 cases (show u=Re a from ru)
 obtain⟨z,hd,vs,rel,dd⟩:=vT I.hok ha
 obtain⟨ep,dat⟩:=dd.dictAt
 have lv:=HC rel
 refine Vu kind_sorted plain_sorted entry_sorted (args_sorted1 _) ?_
 unfold Ub.«sorted»
 refine pv (m:=checkCount "sorted" 1 1 _) (QL ?_)
 refine pv (kdu_collect (A:=X.A.in1) (kdl_dict (knd:=cD X.prog X.w) (kvs:=vs) (ep:=ep) hd) (I.ok.hd hc) dat (by rw[lv,Sm];omega) fun h1 tk acc hk hacc=>?_)
 have la:acc.toList.length=rs.length:=by rw[SZ,<-lv];exact hacc.1
 refine pv (wpAny_newList ?_ (by rw[la,Sm];omega))
 have hB:(h1.push {cls:=.type "list",data:=.seq acc.toList.toArray}).get? h1.objs.size=some (seqObj "list" acc.toList.toArray 0):=QX _ rfl
 have hI:Wc acc.toList (rs.map (·.1)):=by
  have:∀(l:List tx)(ns:List Int),l.length=ns.length->(∀(j:Nat)(v:tx),l[j]? =some v->∃n t,ns[j]? =some n/\v=.int n t)->Wc l ns:=by
   intro l
   induction l with
   |nil=>intro ns hl _;cases ns with
    |nil=>exact .nil
    |cons=>simp at hl
   |cons v l ih=>
    intro ns hl hv
    cases ns with
    |nil=>simp at hl
    |cons n ns=>
     obtain⟨n',t,e,rfl⟩:=hv 0 v rfl
     cases e
     exact .cons n t (ih ns (by simpa using hl) fun j v hj=>by simpa using hv (j+1) v (by simpa using hj))
  refine this _ _ (by rw[la,QC]) fun j v hj=>?_
  obtain⟨k,x,e1,e2⟩:=hacc.2 j v (by rw[<-Uo];exact hj)
  obtain⟨r,er,rfl,_⟩:=MC rel e1
  obtain⟨t,rfl⟩:=Dr e2
  exact⟨r.1,t,by rw[Ro,er];rfl,rfl⟩
 refine pv (SH (Sw slot_list_sort ⟨_,hB,rfl⟩ entry_list_sort ?_ (args_list_sort _)))
 refine list_sort_tree hB hI (by rw[la];exact h64) fun out ns' hI' pm up=>?_
 refine⟨_,rfl,QL ⟨_,rfl,?_⟩⟩
 obtain⟨c,hBa⟩:=sortedHeap_at (out:=out) hB
 have lt1:∀b o,h1.get? b=some o->b<h1.objs.size:=fun b o e=>QV e
 have nw:New s.heap h1.objs.size:=fun b u e z=>by subst z;exact Ss _ (lt1 _ _ (hk _ u e))
 have I1:Inv X pins σ H {s with heap:=sortedHeap (h1.push {cls:=.type "list",data:=.seq acc.toList.toArray}) h1.objs.size acc.toList out,toks:=tk}:=I.kept fun b o e=>by
  rw[sortedHeap_old (Rf (lt1 _ _ (hk b o e))) (by rw[UB];exact Xh (lt1 _ _ (hk b o e)))]
  exact Lt _ (hk b o e)
 have lo:ns'.length=rs.length:=by rw[pm.length_eq,QC]
 have hl2:(ns'.map V.int).length<=sizeLine:=by rw[QC,lo,Sm];omega
 exact⟨.ref h1.objs.size,_,Inv.track3 I I1 nw (nw.free I) (o:=.lst (ns'.map V.int)) ⟨hl2,out.toList,c,kH hI',by rw[hBa,Wo]⟩,rfl,q _ ns' (nw.free I) pm up⟩
end
end L2
namespace L2
open PySem PySem.Spec PyProof.Rows
def uC (K:cW)(n:Nat)(t:TGs):TG:=fun v σ H Q=>∃a xs,v=.ref a/\SqL K H a xs/\xs.length=n/\t xs σ H Q
section
variable {X:Cx}{pos:Pos}
def DJ {es:List Expr}{k:Nat}{t:TGs}{n:Nat}(hc:X.calm=true)(h:PGs X es t)
  (hn:(assignEach es X.env).length=n:=by rfl)(hst:(assignEach es X.env).findIdx? (·.1)=none:=by rfl):PG X (.Tuple es k pos) (uC X.K n t):=by
 intro pins s σ H v u Q I r hw
 obtain⟨a,xs,e1,hq,hl,hw⟩:=hw
 subst e1
 cases r
 obtain⟨its,rv,⟨o,m,e,hcl,_,hd⟩,hz⟩:=I.list hq
 have hL:s.heap.IsList a its.toArray:=⟨o,e,hcl,m,hd⟩
 have hs:(assignEach es X.env).length=its.toArray.size:=by simp[hn,<-hl,rv.length]
 rw[assign_Tuple]
 refine pv (Us ?_)
 unfold unpack
 rw[hs,hst]
 refine pv (SH (W.kun_itemsOf (I.ok.hd hc) hL fun h' hx=>?_))
 have I1:Inv X pins σ H {s with heap:=h'}:=I.kept (t':=s.toks) fun b o e=>hx b o (Rf (QV e)) e
 exact h pins _ σ H xs _ Q I1 (by simpa using rv) hw
def DW {x y:Str}{px py ep pos:Pos}{ek:Nat}{e:Expr}{te:TE}(i j:Nat)(hN:X.N.Nodup)(hc:X.calm=true)(he:QE X e te)(hi:X.N[i]?=some x:=by rfl)(hj:X.N[j]?=some y:=by rfl)
  (hx:Loc X.env.scope x:=by first|exact .inl rfl|exact .inr rfl)(hy:Loc X.env.scope y:=by first|exact .inl rfl|exact .inr rfl)
  (fx:X.fn x=true\/X.env.scope.names.lookup x=some .local:=by first|exact .inl rfl|exact .inr rfl)(fy:X.fn y=true\/X.env.scope.names.lookup y=some .local:=by first|exact .inl rfl|exact .inr rfl)
  (hs:swapsWithSole [.Tuple [.Name x px,.Name y py] ek ep] e pos.line X.env=pure false:=by rfl)(hw:swappedStores [.Tuple [.Name x px,.Name y py] ek ep] e X.env=pure none:=by rfl):
  QS X (.Assign [.Tuple [.Name x px,.Name y py] ek ep] e pos) (aN te (uC X.K 2 (ng (aE i) (ng (aE j) zO)))):=
 ⟨wK he.out (DJ hc (rH (oh hN hi hx fx) (rH (oh hN hj hy fy) DV))) hs hw⟩
end
end L2
namespace Rs
open PySem PySem.Spec PyProof.Rows L2
abbrev gOp:=List Key->Option Key
def bf (s:Stmt)(j:Nat):Stmt:=match s with
 |.ClassDef _ _ _ b _ _ _ _ _ _ _=>b.getD j (.Pass ⟨0,0,0,0⟩)
 |_=>.Pass ⟨0,0,0,0⟩
def top (i:Nat):Stmt:=PySem.Challenge.pw_rootstamp_k71_ways_of_a_crook.main.body.getD i (.Pass ⟨0,0,0,0⟩)
abbrev zY:Stmt:=top 15
abbrev zF:Stmt:=top 16
abbrev yT:Stmt:=top 17
abbrev yh:Stmt:=bf (top 65) 1
abbrev yu:Stmt:=top 68
abbrev Bh:Stmt:=top 21
abbrev Aj:Stmt:=bf (top 41) 0
abbrev s_0:Stmt:=bf (top 42) 0
abbrev BC:Stmt:=bf (top 55) 0
abbrev yQ:Stmt:=bf (top 39) 0
abbrev yr:Stmt:=top 31
abbrev Bp:Stmt:=top 37
abbrev AC:Stmt:=top 38
abbrev zZ:Stmt:=bf (top 63) 1
abbrev AF:Stmt:=top 35
abbrev zw:Stmt:=top 36
abbrev AG:Stmt:=bf (top 58) 0
abbrev Be:Stmt:=bf (top 65) 0
abbrev lQ:Stmt:=top 66
abbrev AU:Stmt:=bf (top 63) 0
abbrev s_4:Stmt:=bf (top 61) 0
abbrev Bx:Stmt:=bf (top 39) 2
abbrev AZ:Stmt:=top 33
abbrev Av:Stmt:=bf (top 39) 4
abbrev Bq:Stmt:=top 29
abbrev zK:Stmt:=bf (top 39) 11
abbrev yz:Stmt:=bf (top 39) 10
abbrev zy:Stmt:=bf (top 39) 6
abbrev yd:Stmt:=bf (top 58) 5
abbrev yO:Stmt:=top 70
abbrev yS:Stmt:=bf (top 39) 1
abbrev zS:Stmt:=bf (top 55) 6
abbrev zc:Stmt:=bf (top 55) 7
abbrev yJ:Stmt:=bf (top 58) 3
abbrev Ay:Stmt:=top 69
abbrev zv:Stmt:=top 71
abbrev zB:Stmt:=top 22
abbrev s_1:Stmt:=bf (top 42) 1
abbrev An:Stmt:=bf (top 43) 1
abbrev Ak:Stmt:=top 24
abbrev zG:Stmt:=bf (top 44) 2
abbrev AR:Stmt:=bf (top 44) 4
abbrev AX:Stmt:=bf (top 55) 3
abbrev s_3:Stmt:=bf (top 42) 4
abbrev BA:Stmt:=bf (top 43) 4
abbrev Bo:Stmt:=bf (top 44) 3
abbrev yM:Stmt:=bf (top 44) 0
abbrev zD:Stmt:=bf (top 44) 8
abbrev yX:Stmt:=bf (top 44) 7
abbrev AN:Stmt:=bf (top 55) 2
abbrev zA:Stmt:=bf (top 58) 2
abbrev yp:Stmt:=top 72
abbrev zM:Stmt:=top 23
abbrev AM:Stmt:=bf (top 43) 0
abbrev s_2:Stmt:=bf (top 42) 3
abbrev Ae:Stmt:=top 25
abbrev zP:Stmt:=top 45
abbrev yL:Stmt:=top 26
abbrev yK:Stmt:=bf (top 43) 3
abbrev Ao:Stmt:=bf (top 44) 1
abbrev Ad:Stmt:=bf (top 44) 6
abbrev zt:Stmt:=bf (top 55) 1
abbrev zo:Stmt:=bf (top 58) 1
abbrev Af:Stmt:=top 73
abbrev zL:Stmt:=bf (top 61) 1
abbrev Al:Stmt:=top 75
abbrev zh:Stmt:=bf (top 39) 9
abbrev yk:Stmt:=bf (top 39) 8
abbrev Bs:Stmt:=bf (top 58) 6
abbrev s_9:Stmt:=bf (top 61) 6
abbrev s_6:Stmt:=bf (top 61) 8
abbrev s_5:Stmt:=bf (top 61) 7
abbrev s_8:Stmt:=bf (top 61) 2
abbrev AD:Stmt:=top 32
abbrev Aa:Stmt:=bf (top 39) 3
abbrev AB:Stmt:=top 30
abbrev zR:Stmt:=bf (top 39) 7
abbrev AQ:Stmt:=bf (top 58) 7
abbrev AI:Stmt:=bf (top 61) 3
abbrev BD:Stmt:=top 47
abbrev yW:Stmt:=bf (top 58) 8
abbrev s_7:Stmt:=bf (top 61) 4
abbrev Bt:Stmt:=top 50
abbrev zH:Stmt:=top 49
abbrev ze:Stmt:=top 27
abbrev Ap:Stmt:=top 51
abbrev Bj:Stmt:=top 53
abbrev Ac:Stmt:=top 52
abbrev yP:Stmt:=bf (top 58) 9
abbrev yq:Stmt:=bf (top 61) 5
abbrev Bz:Stmt:=top 74
abbrev Am:Stmt:=top 76
abbrev yC:Stmt:=top 77
abbrev Bc:Stmt:=top 78
abbrev yE:Stmt:=top 79
def sAt (i:Nat)(l:List Stmt):Stmt:=l.getD i (.Pass ⟨0,0,0,0⟩)
def NN:Stmt->Expr|.Return (some e) _=>e|.Assign _ e _=>e|.Expr e _=>e|_=>.Constant .none 0 ⟨0,0,0,0⟩
def uj:Expr->Expr|.Lambda _ b _ _=>b|e=>e
def yj:Expr->Scope|.Lambda _ _ sc _=>sc|_=>{kind:=.function,names:=[],isGenerator:=false,isCoroutine:=false}
abbrev As:Expr:=(NN (sAt 1 (bH lQ)))
def eW:fg:=⟨(("counting":Str)++".<locals>.")++"<lambda>",.expr (uj As),yj As,["term"],["numbers"]⟩
abbrev Rd (sp:Sp)(t:TS)(N:List Str):Prop:=∀(vs:List V)(H:Hp)(Q:VK)(E:XK),sp vs H Q E->t {nx:=fun _ H'=>Q .non H',rt:=Q} (L2.cO N vs) H
abbrev Ln (sp:Sp)(n:Nat):Prop:=∀vs H Q E,sp vs H Q E->vs.length=n
set_option genInjectivity false in
structure Adr where
 a_83:Addr
 d_83:QD
 a_79:Addr
 d_79:QD
 a_81:Addr
 d_81:QD
 a_36:Addr
 d_36:QD
 a_57:Addr
 d_57:QD
 a_73:Addr
 d_73:QD
 a_30:Addr
 d_30:QD
 a_0:Addr
 d_0:QD
 a_50:Addr
 d_50:QD
 a_37:Addr
 d_37:QD
 a_74:Addr
 d_74:QD
 a_76:Addr
 d_76:QD
 a_68:Addr
 d_68:QD
 a_49:Addr
 d_49:QD
 a_94:Addr
 d_94:QD
 a_87:Addr
 d_87:QD
 a_21:Addr
 d_21:QD
 a_35:Addr
 d_35:QD
 a_70:Addr
 d_70:QD
 a_48:Addr
 d_48:QD
 a_4:Addr
 d_4:QD
 a_45:Addr
 d_45:QD
 a_75:Addr
 d_75:QD
 a_41:Addr
 d_41:QD
 a_72:Addr
 d_72:QD
 a_47:Addr
 d_47:QD
 a_46:Addr
 d_46:QD
 a_43:Addr
 d_43:QD
 a_25:Addr
 d_25:QD
 a_63:Addr
 d_63:QD
 a_38:Addr
 d_38:QD
 a_52:Addr
 d_52:QD
 a_54:Addr
 d_54:QD
 a_24:Addr
 d_24:QD
 a_60:Addr
 d_60:QD
 a_61:Addr
 d_61:QD
 a_77:Addr
 d_77:QD
 a_1:Addr
 d_1:QD
 a_32:Addr
 d_32:QD
 a_89:Addr
 d_89:QD
 a_18:Addr
 d_18:QD
 a_16:Addr
 d_16:QD
 a_55:Addr
 d_55:QD
 a_3:Addr
 d_3:QD
 a_34:Addr
 d_34:QD
 a_14:Addr
 d_14:QD
 a_13:Addr
 d_13:QD
 a_15:Addr
 d_15:QD
 a_20:Addr
 d_20:QD
 a_53:Addr
 d_53:QD
 a_29:Addr
 d_29:QD
 a_66:Addr
 d_66:QD
 a_82:Addr
 d_82:QD
 a_31:Addr
 d_31:QD
 a_2:Addr
 d_2:QD
 a_92:Addr
 d_92:QD
 a_84:Addr
 d_84:QD
 a_67:Addr
 d_67:QD
 a_33:Addr
 d_33:QD
 a_17:Addr
 d_17:QD
 a_19:Addr
 d_19:QD
 a_51:Addr
 d_51:QD
 a_27:Addr
 d_27:QD
 a_59:Addr
 d_59:QD
 a_10:Addr
 d_10:QD
 a_65:Addr
 d_65:QD
 a_39:Addr
 d_39:QD
 a_40:Addr
 d_40:QD
 a_23:Addr
 d_23:QD
 a_9:Addr
 d_9:QD
 a_6:Addr
 d_6:QD
 a_5:Addr
 d_5:QD
 a_8:Addr
 d_8:QD
 a_78:Addr
 d_78:QD
 a_42:Addr
 d_42:QD
 a_95:Addr
 d_95:QD
 a_44:Addr
 d_44:QD
 a_26:Addr
 d_26:QD
 a_11:Addr
 d_11:QD
 a_90:Addr
 d_90:QD
 a_22:Addr
 d_22:QD
 a_7:Addr
 d_7:QD
 a_80:Addr
 d_80:QD
 a_69:Addr
 d_69:QD
 a_91:Addr
 d_91:QD
 a_86:Addr
 d_86:QD
 a_88:Addr
 d_88:QD
 a_93:Addr
 d_93:QD
 a_28:Addr
 d_28:QD
 a_12:Addr
 d_12:QD
 a_56:Addr
 d_56:QD
 a_62:Addr
 d_62:QD
 a_58:Addr
 d_58:QD
 a_64:Addr
 d_64:QD
 a_85:Addr
 d_85:QD
 k_70:Addr
 t_70:Addr
 c_NoWay:Addr
 g_WAYS:Addr
 c_Knot:Addr
 c_Bare:Addr
 c_Seals:Addr
 c_Row:Addr
 c_Table:Addr
 c_Numbers:Addr
 c_House:Addr
 c_Fork:Addr
 c_Leaf:Addr
 c_Crook:Addr
 c_Line:Addr
set_option genInjectivity false in
structure Txt (K:cW)(mg:Str->Option tx)(A:Adr):Prop where
 f_83:Fm K mg "is_whole" "is_whole" zY A.a_83 A.d_83 ["thing"]
 f_79:Fm K mg "is_stamp" "is_stamp" zF A.a_79 A.d_79 ["thing"]
 f_81:Fm K mg "is_term" "is_term" yT A.a_81 A.d_81 ["thing"]
 f_36:Fun K "number_of" "Numbers.number_of" yh A.a_36 A.d_36
 b_36:aL K A.d_36 ["self","term"] []
 f_57:Fm K mg "_law_cell_at" "_law_cell_at" yu A.a_57 A.d_57 ["_law_script","_law_k"]
 f_73:Fm K mg "is_bits" "is_bits" Bh A.a_73 A.d_73 ["thing"]
 f_30:Fun K "__init__" "Knot.__init__" Aj A.a_30 A.d_30
 b_30:aL K A.d_30 ["self","stamper","term"] []
 f_0:Fun K "__init__" "Bare.__init__" s_0 A.a_0 A.d_0
 b_0:aL K A.d_0 ["self","stamper"] []
 f_50:Fun K "__init__" "Table.__init__" BC A.a_50 A.d_50
 b_50:aL K A.d_50 ["self","stamper","bits"] []
 f_37:Fun K "__init__" "Row.__init__" yQ A.a_37 A.d_37
 b_37:aL K A.d_37 ["self","stamper"] []
 f_74:Fm K mg "is_count" "is_count" yr A.a_74 A.d_74 ["thing"]
 f_76:Fm K mg "is_head" "is_head" Bp A.a_76 A.d_76 ["thing"]
 f_68:Fm K mg "check_head" "check_head" AC A.a_68 A.d_68 ["thing"]
 f_49:Fun K "seal" "Seals.seal" zZ A.a_49 A.d_49
 b_49:aL K A.d_49 ["self","head"] []
 f_94:Fm K mg "void_terms" "void_terms" AF A.a_94 A.d_94 ["stamper"]
 f_87:Fm K mg "none_head" "none_head" zw A.a_87 A.d_87 ["stamper"]
 f_21:Fun K "__init__" "House.__init__" AG A.a_21 A.d_21
 b_21:aL K A.d_21 ["self","stamper","bits","seals"] []
 f_35:Fun K "__init__" "Numbers.__init__" Be A.a_35 A.d_35
 b_35:aL K A.d_35 ["self"] []
 f_70:Fm K mg "counting" "counting" lQ A.a_70 A.d_70 []
 f_48:Fun K "__init__" "Seals.__init__" AU A.a_48 A.d_48
 b_48:aL K A.d_48 ["self"] []
 f_4:Fun K "__init__" "Crook.__init__" s_4 A.a_4 A.d_4
 b_4:aL K A.d_4 ["self","house","way"] []
 f_45:Fun K "size" "Row.size" Bx A.a_45 A.d_45
 b_45:aL K A.d_45 ["self"] []
 f_75:Fm K mg "is_elder" "is_elder" AZ A.a_75 A.d_75 ["count","elder"]
 f_41:Fun K "has_elder" "Row.has_elder" Av A.a_41 A.d_41
 b_41:aL K A.d_41 ["self","count","elder"] []
 f_72:Fm K mg "half" "half" Bq A.a_72 A.d_72 ["many"]
 f_47:Fun K "top_term" "Row.top_term" zK A.a_47 A.d_47
 b_47:aL K A.d_47 ["self","first","many"] []
 f_46:Fun K "top_of" "Row.top_of" yz A.a_46 A.d_46
 b_46:aL K A.d_46 ["self","first","many"] []
 f_43:Fun K "mark_at" "Row.mark_at" zy A.a_43 A.d_43
 b_43:aL K A.d_43 ["self","count"] []
 f_25:Fun K "newest" "House.newest" yd A.a_25 A.d_25
 b_25:aL K A.d_25 ["self"] []
 f_63:Fm K mg "_law_mix" "_law_mix" yO A.a_63 A.d_63 ["_law_cell","_law_k"]
 f_38:Fun K "add" "Row.add" yS A.a_38 A.d_38
 b_38:aL K A.d_38 ["self","entry"] []
 f_52:Fun K "root" "Table.root" zS A.a_52 A.d_52
 b_52:aL K A.d_52 ["self"] []
 f_54:Fun K "twin" "Table.twin" zc A.a_54 A.d_54
 b_54:aL K A.d_54 ["self"] []
 f_24:Fun K "make" "House.make" yJ A.a_24 A.d_24
 b_24:aL K A.d_24 ["self"] []
 f_60:Fm K mg "_law_key" "_law_key" Ay A.a_60 A.d_60 ["_law_cell","_law_bits"]
 f_61:Fm K mg "_law_key_for" "_law_key_for" zv A.a_61 A.d_61 ["_law_known","_law_cell","_law_number","_law_bits"]
 f_77:Fm K mg "is_key" "is_key" zB A.a_77 A.d_77 ["bits","thing"]
 f_1:Fun K "found" "Bare.found" s_1 A.a_1 A.d_1
 b_1:aL K A.d_1 ["self","bits","key"] []
 f_32:Fun K "found" "Leaf.found" An A.a_32 A.d_32
 b_32:aL K A.d_32 ["self","bits","key"] []
 f_89:Fm K mg "side" "side" Ak A.a_89 A.d_89 ["bits","key","depth"]
 f_18:Fun K "toward" "Fork.toward" zG A.a_18 A.d_18
 b_18:aL K A.d_18 ["self","bits","key"] []
 f_16:Fun K "found" "Fork.found" AR A.a_16 A.d_16
 b_16:aL K A.d_16 ["self","bits","key"] []
 f_55:Fun K "value_of" "Table.value_of" AX A.a_55 A.d_55
 b_55:aL K A.d_55 ["self","key"] []
 f_3:Fun K "without" "Bare.without" s_3 A.a_3 A.d_3
 b_3:aL K A.d_3 ["self","stamper","bits","key"] []
 f_34:Fun K "without" "Leaf.without" BA A.a_34 A.d_34
 b_34:aL K A.d_34 ["self","stamper","bits","key"] []
 f_14:Fun K "aside" "Fork.aside" Bo A.a_14 A.d_14
 b_14:aL K A.d_14 ["self","bits","key"] []
 f_13:Fun K "__init__" "Fork.__init__" yM A.a_13 A.d_13
 b_13:aL K A.d_13 ["self","stamper","depth","begin","left","right"] []
 f_15:Fun K "changed" "Fork.changed" zD A.a_15 A.d_15
 b_15:aL K A.d_15 ["self","stamper","bits","key","knot"] []
 f_20:Fun K "without" "Fork.without" yX A.a_20 A.d_20
 b_20:aL K A.d_20 ["self","stamper","bits","key"] []
 f_53:Fun K "take" "Table.take" AN A.a_53 A.d_53
 b_53:aL K A.d_53 ["self","key"] []
 f_29:Fun K "take" "House.take" zA A.a_29 A.d_29
 b_29:aL K A.d_29 ["self","key"] []
 f_66:Fm K mg "_law_word" "_law_word" yp A.a_66 A.d_66 ["_law_number"]
 f_82:Fm K mg "is_value" "is_value" zM A.a_82 A.d_82 ["thing"]
 f_31:Fun K "__init__" "Leaf.__init__" AM A.a_31 A.d_31
 b_31:aL K A.d_31 ["self","stamper","key","value"] []
 f_2:Fun K "with_key" "Bare.with_key" s_2 A.a_2 A.d_2
 b_2:aL K A.d_2 ["self","stamper","bits","key","value"] []
 f_92:Fm K mg "start" "start" Ae A.a_92 A.d_92 ["bits","key","depth"]
 f_84:Fm K mg "joined" "joined" zP A.a_84 A.d_84 ["stamper","bits","depth","leaf","knot"]
 f_67:Fm K mg "alike" "alike" yL A.a_67 A.d_67 ["bits","one","other"]
 f_33:Fun K "with_key" "Leaf.with_key" yK A.a_33 A.d_33
 b_33:aL K A.d_33 ["self","stamper","bits","key","value"] []
 f_17:Fun K "leads" "Fork.leads" Ao A.a_17 A.d_17
 b_17:aL K A.d_17 ["self","bits","key"] []
 f_19:Fun K "with_key" "Fork.with_key" Ad A.a_19 A.d_19
 b_19:aL K A.d_19 ["self","stamper","bits","key","value"] []
 f_51:Fun K "put" "Table.put" zt A.a_51 A.d_51
 b_51:aL K A.d_51 ["self","key","value"] []
 f_27:Fun K "put" "House.put" zo A.a_27 A.d_27
 b_27:aL K A.d_27 ["self","key","value"] []
 f_59:Fm K mg "_law_kept" "_law_kept" Af A.a_59 A.d_59 ["_law_house","_law_cells","_law_bits","_law_most"]
 f_10:Fun K "newest" "Crook.newest" zL A.a_10 A.d_10
 b_10:aL K A.d_10 ["self"] []
 f_65:Fm K mg "_law_question" "_law_question" Al A.a_65 A.d_65 ["_law_number","_law_makes","_law_cell","_law_bits"]
 f_39:Fun K "growth_marks" "Row.growth_marks" zh A.a_39 A.d_39
 b_39:aL K A.d_39 ["self","first","many","elder"] []
 f_40:Fun K "growth_paper" "Row.growth_paper" yk A.a_40 A.d_40
 b_40:aL K A.d_40 ["self","count","elder"] []
 f_23:Fun K "growth" "House.growth" Bs A.a_23 A.d_23
 b_23:aL K A.d_23 ["self","count","elder"] []
 f_9:Fun K "hides" "Crook.hides" s_9 A.a_9 A.d_9
 b_9:aL K A.d_9 ["self","answer"] []
 f_6:Fun K "bent" "Crook.bent" s_6 A.a_6 A.d_6
 b_6:aL K A.d_6 ["self","marks"] []
 f_5:Fun K "before" "Crook.before" s_5 A.a_5 A.d_5
 b_5:aL K A.d_5 ["self","number"] []
 f_8:Fun K "growth" "Crook.growth" s_8 A.a_8 A.d_8
 b_8:aL K A.d_8 ["self","count","elder"] []
 f_78:Fm K mg "is_place" "is_place" AD A.a_78 A.d_78 ["count","place"]
 f_42:Fun K "has_place" "Row.has_place" Aa A.a_42 A.d_42
 b_42:aL K A.d_42 ["self","count","place"] []
 f_95:Fm K mg "ways" "ways" AB A.a_95 A.d_95 ["place","many"]
 f_44:Fun K "place_paper" "Row.place_paper" zR A.a_44 A.d_44
 b_44:aL K A.d_44 ["self","count","place"] []
 f_26:Fun K "placed" "House.placed" AQ A.a_26 A.d_26
 b_26:aL K A.d_26 ["self","count","place"] []
 f_11:Fun K "placed" "Crook.placed" AI A.a_11 A.d_11
 b_11:aL K A.d_11 ["self","count","place"] []
 f_90:Fm K mg "slip_of" "slip_of" BD A.a_90 A.d_90 ["table","key"]
 f_22:Fun K "full" "House.full" yW A.a_22 A.d_22
 b_22:aL K A.d_22 ["self","count","place","key"] []
 f_7:Fun K "full" "Crook.full" s_7 A.a_7 A.d_7
 b_7:aL K A.d_7 ["self","count","place","key"] []
 f_80:Fm K mg "is_stretch" "is_stretch" Bt A.a_80 A.d_80 ["bits","low","high"]
 f_69:Fm K mg "check_stretch" "check_stretch" zH A.a_69 A.d_69 ["bits","low","high"]
 f_91:Fm K mg "span" "span" ze A.a_91 A.d_91 ["bits","depth","begin"]
 f_86:Fm K mg "meets" "meets" Ap A.a_86 A.d_86 ["bits","low","high","depth","begin"]
 f_88:Fm K mg "part_of" "part_of" Bj A.a_88 A.d_88 ["bits","low","high","depth","begin","knot"]
 f_93:Fm K mg "stretch_of" "stretch_of" Ac A.a_93 A.d_93 ["table","low","high"]
 f_28:Fun K "stretch" "House.stretch" yP A.a_28 A.d_28
 b_28:aL K A.d_28 ["self","count","place","low","high"] []
 f_12:Fun K "stretch" "Crook.stretch" yq A.a_12 A.d_12
 b_12:aL K A.d_12 ["self","count","place","low","high"] []
 f_56:Fm K mg "_law_asked" "_law_asked" Bz A.a_56 A.d_56 ["_law_line","_law_question_here"]
 f_62:Fm K mg "_law_marks" "_law_marks" Am A.a_62 A.d_62 ["_law_way","_law_marks_here"]
 f_58:Fm K mg "_law_due" "_law_due" yC A.a_58 A.d_58 ["_law_house","_law_way","_law_question_here"]
 f_64:Fm K mg "_law_no_way" "_law_no_way" Bc A.a_64 A.d_64 ["_law_house","_law_way"]
 f_85:Fm K mg "law" "law" yE A.a_85 A.d_85 ["_law_script"]
 z_all:mg "all"=none
 z_bool:mg "bool"=none
 z_dict:mg "dict"=none
 z_int:mg "int"=none
 z_isinstance:mg "isinstance"=none
 z_len:mg "len"=none
 z_list:mg "list"=none
 z_max:mg "max"=none
 z_min:mg "min"=none
 z_range:mg "range"=none
 z_reversed:mg "reversed"=none
 z_sorted:mg "sorted"=none
 z_str:mg "str"=none
 z_tuple:mg "tuple"=none
 c_MOST_BITS:∃t,mg "MOST_BITS"=some (.int 60 t)
 c_MOST_PARTS:∃t,mg "MOST_PARTS"=some (.int 8 t)
 c_MOST_SIGNS:∃t,mg "MOST_SIGNS"=some (.int 60 t)
 kc_70:A.d_70.code=.ref A.k_70
 mo_WAYS:mg "WAYS"=some (.ref A.g_WAYS)
 ob_WAYS:sY K A.g_WAYS ["hush","cut","turn","twice","old","near"]
 mc_NoWay:mg "NoWay"=some (.ref A.c_NoWay)
 eo_NoWay:fF K A.c_NoWay
 er_NoWay:gl K A.c_NoWay
 eg_NoWay:FX K A.c_NoWay
 sb_NoWay_NoWay:jh K A.c_NoWay A.c_NoWay=some true
 mc_Knot:mg "Knot"=some (.ref A.c_Knot)
 cl_Knot:Cls K A.c_Knot
 na_Knot_term:bq K A.c_Knot "term"
 na_Knot_mark:bq K A.c_Knot "mark"
 mc_Bare:mg "Bare"=some (.ref A.c_Bare)
 cl_Bare:Cls K A.c_Bare
 na_Bare_term:bq K A.c_Bare "term"
 na_Bare_mark:bq K A.c_Bare "mark"
 mc_Seals:mg "Seals"=some (.ref A.c_Seals)
 cl_Seals:Cls K A.c_Seals
 na_Seals_sealed:bq K A.c_Seals "sealed"
 mc_Row:mg "Row"=some (.ref A.c_Row)
 cl_Row:Cls K A.c_Row
 na_Row_stamper:bq K A.c_Row "stamper"
 na_Row_entries:bq K A.c_Row "entries"
 na_Row_tops:bq K A.c_Row "tops"
 mc_Table:mg "Table"=some (.ref A.c_Table)
 cl_Table:Cls K A.c_Table
 na_Table_stamper:bq K A.c_Table "stamper"
 na_Table_bits:bq K A.c_Table "bits"
 na_Table_top:bq K A.c_Table "top"
 mc_Numbers:mg "Numbers"=some (.ref A.c_Numbers)
 cl_Numbers:Cls K A.c_Numbers
 na_Numbers_given:bq K A.c_Numbers "given"
 mc_House:mg "House"=some (.ref A.c_House)
 cl_House:Cls K A.c_House
 na_House_table:bq K A.c_House "table"
 na_House_row:bq K A.c_House "row"
 na_House_makes:bq K A.c_House "makes"
 na_House_seals:bq K A.c_House "seals"
 mc_Fork:mg "Fork"=some (.ref A.c_Fork)
 cl_Fork:Cls K A.c_Fork
 na_Fork_depth:bq K A.c_Fork "depth"
 na_Fork_begin:bq K A.c_Fork "begin"
 na_Fork_left:bq K A.c_Fork "left"
 na_Fork_right:bq K A.c_Fork "right"
 na_Fork_term:bq K A.c_Fork "term"
 na_Fork_mark:bq K A.c_Fork "mark"
 mc_Leaf:mg "Leaf"=some (.ref A.c_Leaf)
 cl_Leaf:Cls K A.c_Leaf
 na_Leaf_key:bq K A.c_Leaf "key"
 na_Leaf_text:bq K A.c_Leaf "text"
 na_Leaf_term:bq K A.c_Leaf "term"
 na_Leaf_mark:bq K A.c_Leaf "mark"
 mc_Crook:mg "Crook"=some (.ref A.c_Crook)
 cl_Crook:Cls K A.c_Crook
 na_Crook_house:bq K A.c_Crook "house"
 na_Crook_way:bq K A.c_Crook "way"
 mc_Line:mg "Line"=some (.ref A.c_Line)
 cl_Line:Cls K A.c_Line
 me_Seals_seal:bE K A.c_Seals "seal" A.a_49
 me_Row_size:bE K A.c_Row "size" A.a_45
 me_Row_top_of:bE K A.c_Row "top_of" A.a_46
 me_Row_top_term:bE K A.c_Row "top_term" A.a_47
 me_Row_has_elder:bE K A.c_Row "has_elder" A.a_41
 me_Row_mark_at:bE K A.c_Row "mark_at" A.a_43
 me_House_newest:bE K A.c_House "newest" A.a_25
 me_Table_twin:bE K A.c_Table "twin" A.a_54
 me_Row_add:bE K A.c_Row "add" A.a_38
 me_Table_root:bE K A.c_Table "root" A.a_52
 me_Fork_toward:bE K A.c_Fork "toward" A.a_18
 me_Bare_found:bE K A.c_Bare "found" A.a_1
 me_Leaf_found:bE K A.c_Leaf "found" A.a_32
 me_Fork_found:bE K A.c_Fork "found" A.a_16
 me_Fork_changed:bE K A.c_Fork "changed" A.a_15
 me_Fork_aside:bE K A.c_Fork "aside" A.a_14
 me_Bare_without:bE K A.c_Bare "without" A.a_3
 me_Leaf_without:bE K A.c_Leaf "without" A.a_34
 me_Fork_without:bE K A.c_Fork "without" A.a_20
 me_Table_value_of:bE K A.c_Table "value_of" A.a_55
 me_Table_take:bE K A.c_Table "take" A.a_53
 me_Bare_with_key:bE K A.c_Bare "with_key" A.a_2
 me_Leaf_with_key:bE K A.c_Leaf "with_key" A.a_33
 me_Fork_with_key:bE K A.c_Fork "with_key" A.a_19
 me_Fork_leads:bE K A.c_Fork "leads" A.a_17
 me_Table_put:bE K A.c_Table "put" A.a_51
 me_House_make:bE K A.c_House "make" A.a_24
 me_House_take:bE K A.c_House "take" A.a_29
 me_House_put:bE K A.c_House "put" A.a_27
 me_Row_growth_marks:bE K A.c_Row "growth_marks" A.a_39
 me_Row_growth_paper:bE K A.c_Row "growth_paper" A.a_40
 me_Crook_bent:bE K A.c_Crook "bent" A.a_6
 me_House_growth:bE K A.c_House "growth" A.a_23
 me_Crook_before:bE K A.c_Crook "before" A.a_5
 me_Crook_hides:bE K A.c_Crook "hides" A.a_9
 me_Row_has_place:bE K A.c_Row "has_place" A.a_42
 me_Row_place_paper:bE K A.c_Row "place_paper" A.a_44
 me_House_placed:bE K A.c_House "placed" A.a_26
 me_House_full:bE K A.c_House "full" A.a_22
 me_House_stretch:bE K A.c_House "stretch" A.a_28
 me_Crook_stretch:bE K A.c_Crook "stretch" A.a_12
 me_Crook_full:bE K A.c_Crook "full" A.a_7
 me_Crook_placed:bE K A.c_Crook "placed" A.a_11
 me_Crook_growth:bE K A.c_Crook "growth" A.a_8
 me_Crook_newest:bE K A.c_Crook "newest" A.a_10
 me_Numbers_number_of:bE K A.c_Numbers "number_of" A.a_36
 mk_Bare:Mk K A.c_Bare A.a_0
 mk_Row:Mk K A.c_Row A.a_37
 mk_Table:Mk K A.c_Table A.a_50
 mk_Numbers:Mk K A.c_Numbers A.a_35
 mk_Fork:Mk K A.c_Fork A.a_13
 mk_Leaf:Mk K A.c_Leaf A.a_31
 mk_Crook:Mk K A.c_Crook A.a_4
 mk_House:Mk K A.c_House A.a_21
 mk_Seals:Mk K A.c_Seals A.a_48
 cf_Knot:CJ K A.c_Knot "__init__" A.a_30
 oi_Bare:jy K A.c_Bare
 oi_Fork:jy K A.c_Fork
 oi_Leaf:jy K A.c_Leaf
 oi_Crook:jy K A.c_Crook
 ko_Bare_Bare:Sl K (.ref A.c_Bare) (.ref A.c_Bare)=some true
 ko_Bare_Fork:Sl K (.ref A.c_Bare) (.ref A.c_Fork)=some false
 ko_Fork_Bare:Sl K (.ref A.c_Fork) (.ref A.c_Bare)=some false
 ko_Fork_Fork:Sl K (.ref A.c_Fork) (.ref A.c_Fork)=some true
 ko_Leaf_Bare:Sl K (.ref A.c_Leaf) (.ref A.c_Bare)=some false
 ko_Leaf_Fork:Sl K (.ref A.c_Leaf) (.ref A.c_Fork)=some false
 ko_Crook_Line:Sl K (.ref A.c_Crook) (.ref A.c_Line)=some true
def LA (A:Adr)(H:Hp):Prop:=H A.t_70=some (.tbl #[])/\([A.t_70]:List Addr).Nodup
def II:mj ["term","numbers"] ["term"] ["numbers"] eW.scope:=⟨rfl,rfl,rfl,by decide+kernel,rfl,rfl,by decide+kernel,by decide+kernel,by decide+kernel,by decide+kernel,by decide+kernel⟩
def Kf:aw ["thing"] ["thing"] (am zY):=scF
def Mz:aw ["thing"] ["thing"] (am zF):=scF
def JQ:aw ["thing"] ["thing"] (am yT):=scF
def Nx:aw ["self","term"] ["self","term"] (am yh):=scF
def Jf:aw ["_law_script","_law_k"] ["_law_script","_law_k"] (am yu):=scF
def MF:aw ["thing"] ["thing"] (am Bh):=scF
def JT:aw ["self","stamper","term"] ["self","stamper","term"] (am Aj):=scF
def Qe:aw ["self","stamper"] ["self","stamper"] (am s_0):=scF
def JF:aw ["self","stamper","bits"] ["self","stamper","bits"] (am BC):=scF
def JO:aw ["self","stamper"] ["self","stamper"] (am yQ):=scF
def IG:aw ["thing"] ["thing"] (am yr):=scF
def MH:aw ["thing"] ["thing"] (am Bp):=scF
def IY:aw ["thing"] ["thing"] (am AC):=scF
def LE:aw ["self","head"] ["self","head"] (am zZ):=scF
def IS:aw ["stamper"] ["stamper"] (am AF):=scF
def LP:aw ["stamper"] ["stamper"] (am zw):=scF
def LU:aw ["self","stamper","bits","seals"] ["self","stamper","bits","seals"] (am AG):=scF
def MJ:aw ["self"] ["self"] (am Be):=scF
def CZ:aw ["numbers"] [] (am lQ):=scF
def Nf:aw ["self"] ["self"] (am AU):=scF
def OX:aw ["self","house","way"] ["self","house","way"] (am s_4):=scF
def MS:aw ["self"] ["self"] (am Bx):=scF
def Nr:aw ["count","elder"] ["count","elder"] (am AZ):=scF
def JW:aw ["self","count","elder"] ["self","count","elder"] (am Av):=scF
def KO:aw ["many"] ["many"] (am Bq):=scF
def BI:aw ["self","first","many","ahead"] ["self","first","many"] (am zK):=scF
def Cu:aw ["self","first","many","part"] ["self","first","many"] (am yz):=scF
def Nk:aw ["self","count"] ["self","count"] (am zy):=scF
def BN:aw ["self","count"] ["self"] (am yd):=scF
def Kr:aw ["_law_cell","_law_k"] ["_law_cell","_law_k"] (am yO):=scF
def Jc:aw ["self","entry"] ["self","entry"] (am yS):=scF
def NA:aw ["self"] ["self"] (am zS):=scF
def CP:aw ["self","other"] ["self"] (am zc):=scF
def Cw:aw ["self","head"] ["self"] (am yJ):=scF
def CS:aw ["_law_cell","_law_bits","_law_top"] ["_law_cell","_law_bits"] (am Ay):=scF
def qF:aw ["_law_known","_law_cell","_law_number","_law_bits","_law_keys","_law_way","_law_key_here"] ["_law_known","_law_cell","_law_number","_law_bits"] (am zv):=scF
def LW:aw ["bits","thing"] ["bits","thing"] (am zB):=scF
def Px:aw ["self","bits","key"] ["self","bits","key"] (am s_1):=scF
def Ku:aw ["self","bits","key"] ["self","bits","key"] (am An):=scF
def KS:aw ["bits","key","depth"] ["bits","key","depth"] (am Ak):=scF
def IZ:aw ["self","bits","key"] ["self","bits","key"] (am zG):=scF
def LC:aw ["self","bits","key"] ["self","bits","key"] (am AR):=scF
def Ml:aw ["self","key"] ["self","key"] (am AX):=scF
def Pa:aw ["self","stamper","bits","key"] ["self","stamper","bits","key"] (am s_3):=scF
def IN:aw ["self","stamper","bits","key"] ["self","stamper","bits","key"] (am BA):=scF
def Kh:aw ["self","bits","key"] ["self","bits","key"] (am Bo):=scF
def IF:aw ["self","stamper","depth","begin","left","right"] ["self","stamper","depth","begin","left","right"] (am yM):=scF
def Kp:aw ["self","stamper","bits","key","knot"] ["self","stamper","bits","key","knot"] (am zD):=scF
def BE:aw ["self","stamper","bits","key","rest"] ["self","stamper","bits","key"] (am yX):=scF
def Ce:aw ["self","key","before"] ["self","key"] (am AN):=scF
def Mo:aw ["self","key"] ["self","key"] (am zA):=scF
def vU:aw ["_law_number","_law_letters","_law_size"] ["_law_number"] (am yp):=scF
def JA:aw ["thing"] ["thing"] (am zM):=scF
def Mr:aw ["self","stamper","key","value"] ["self","stamper","key","value"] (am AM):=scF
def Qk:aw ["self","stamper","bits","key","value"] ["self","stamper","bits","key","value"] (am s_2):=scF
def KP:aw ["bits","key","depth"] ["bits","key","depth"] (am Ae):=scF
def Cq:aw ["stamper","bits","depth","leaf","knot","begin"] ["stamper","bits","depth","leaf","knot"] (am zP):=scF
def KG:aw ["bits","one","other"] ["bits","one","other"] (am yL):=scF
def Ct:aw ["self","stamper","bits","key","value","leaf"] ["self","stamper","bits","key","value"] (am yK):=scF
def MG:aw ["self","bits","key"] ["self","bits","key"] (am Ao):=scF
def Cy:aw ["self","stamper","bits","key","value","depth"] ["self","stamper","bits","key","value"] (am Ad):=scF
def Cv:aw ["self","key","value","before"] ["self","key","value"] (am zt):=scF
def Ly:aw ["self","key","value"] ["self","key","value"] (am zo):=scF
def jg:aw ["_law_house","_law_cells","_law_bits","_law_most","_law_known","_law_makes","_law_heads","_law_k","_law_number","_law_key_here"] ["_law_house","_law_cells","_law_bits","_law_most"] (am Af):=scF
def KA:aw ["self"] ["self"] (am zL):=scF
def ie:aw ["_law_number","_law_makes","_law_cell","_law_bits","_law_count","_law_place","_law_key_here","_law_other","_law_question_here","_law_at"] ["_law_number","_law_makes","_law_cell","_law_bits"] (am Al):=scF
def BK:aw ["self","first","many","elder","ahead"] ["self","first","many","elder"] (am zh):=scF
def Lf:aw ["self","count","elder"] ["self","count","elder"] (am yk):=scF
def Na:aw ["self","count","elder"] ["self","count","elder"] (am Bs):=scF
def NS:aw ["self","answer"] ["self","answer"] (am s_9):=scF
def PC:aw ["self","marks"] ["self","marks"] (am s_6):=scF
def Oz:aw ["self","number"] ["self","number"] (am s_5):=scF
def NI:aw ["self","count","elder"] ["self","count","elder"] (am s_8):=scF
def IV:aw ["count","place"] ["count","place"] (am AD):=scF
def Md:aw ["self","count","place"] ["self","count","place"] (am Aa):=scF
def hV:aw ["place","many","turns","first","rest","ahead"] ["place","many"] (am AB):=scF
def gB:aw ["self","count","place","marks","first","many","turn","ahead"] ["self","count","place"] (am zR):=scF
def Mt:aw ["self","count","place"] ["self","count","place"] (am AQ):=scF
def Cr:aw ["self","count","place","paper"] ["self","count","place"] (am AI):=scF
def qU:aw ["table","key","steps","knot"] ["table","key"] (am BD):=scF
def CV:aw ["self","count","place","key","paper"] ["self","count","place","key"] (am yW):=scF
def Fi:aw ["self","count","place","key","paper"] ["self","count","place","key"] (am s_7):=scF
def LZ:aw ["bits","low","high"] ["bits","low","high"] (am Bt):=scF
def MU:aw ["bits","low","high"] ["bits","low","high"] (am zH):=scF
def Cp:aw ["bits","depth","begin","rest"] ["bits","depth","begin"] (am ze):=scF
def CU:aw ["bits","low","high","depth","begin","ends"] ["bits","low","high","depth","begin"] (am Ap):=scF
def uJ:aw ["bits","low","high","depth","begin","knot","left","right"] ["bits","low","high","depth","begin","knot"] (am Bj):=scF
def LR:aw ["table","low","high"] ["table","low","high"] (am Ac):=scF
def Df:aw ["self","count","place","low","high","paper"] ["self","count","place","low","high"] (am yP):=scF
def BX:aw ["self","count","place","low","high","paper"] ["self","count","place","low","high"] (am yq):=scF
def Cj:aw ["_law_line","_law_question_here","_law_word_here"] ["_law_line","_law_question_here"] (am Bz):=scF
def vS:aw ["_law_way","_law_marks_here","_law_some"] ["_law_way","_law_marks_here"] (am Am):=scF
def qS:aw ["_law_house","_law_way","_law_question_here","_law_good","_law_other"] ["_law_house","_law_way","_law_question_here"] (am yC):=scF
def vx:aw ["_law_house","_law_way","_law_refused"] ["_law_house","_law_way"] (am Bc):=scF
def eD:aw ["_law_script","_law_bits","_law_cells","_law_cut","_law_house","_law_names","_law_crooks","_law_makes","_law_heads","_law_crook","_law_k","_law_number","_law_question_here","_law_found","_law_due_here","_law_way"] ["_law_script"] (am yE):=scF
inductive Dat where
 |non
 |bl (b:Bool)
 |int (i:Int)
 |str (z:Str)
 |lst (ds:List Dat)
 |tup (ds:List Dat)
 |dic
mutual
inductive aV (H:Hp):V->Dat->Prop
 |non:aV H .non .non
 |bl (b):aV H (.bl b) (.bl b)
 |int (i):aV H (.int i) (.int i)
 |str (z):aV H (.str z) (.str z)
 |lst {a xs ds}:H a=some (.lst xs)->DatWs H xs ds->aV H (.ref a) (.lst ds)
 |tup {a xs ds}:H a=some (.tup xs)->DatWs H xs ds->aV H (.ref a) (.tup ds)
 |dic {a}:(∃kvs,H a=some (.dK kvs))->aV H (.ref a) .dic
inductive DatWs (H:Hp):List V->List Dat->Prop
 |nil:DatWs H [] []
 |cons {x xs d ds}:aV H x d->DatWs H xs ds->DatWs H (x::xs) (d::ds)
end
mutual
def eS:Dat->Xc
 |.non=>.none
 |.bl b=>.bool b
 |.int i=>.int i
 |.str z=>.str z
 |.lst ds=>.list (toPys ds)
 |.tup ds=>.tuple (toPys ds)
 |.dic=>.none
def toPys:List Dat->List Xc
 |[]=>[]
 |d::r=>eS d::toPys r
end
def eG (z:Str):Bool:=z.cps.all (·<128)
mutual
def okD:Dat->Bool
 |.str z=>eG z&&decide (z.length<=100000)
 |.lst ds=>okDs ds
 |.tup ds=>okDs ds
 |.dic=>false
 |.non=>true
 |.bl _=>true
 |.int _=>true
def okDs:List Dat->Bool
 |[]=>true
 |d::r=>okD d&&okDs r
end
def my:Dat->Bool
 |.int _=>true
 |_=>false
def eI:Dat->Bool
 |.int i=>decide (0<=i/\i<10^60)
 |.str _=>true
 |_=>false
def cC (bits:Int):Dat->Bool
 |.int i=>decide (0<=i/\i<2^bits.toNat)
 |_=>false
def gc:Dat->Bool
 |.str z=>decide (z.length<=60)
 |_=>false
def mK (bits key depth:Int):Int:=key/2^(bits- depth).toNat
def gA (K:cW)(A:Adr):Sp:=fun vs H Q _=>∃v d,vs=[v]/\aV H v d/\Q (.bl (my d)) H
def lu (K:cW)(A:Adr):Sp:=fun vs H Q _=>∃v d,vs=[v]/\aV H v d/\Q (.bl (eI d)) H
def bA:Key->Dat
 |.inl i=>.int i
 |.inr z=>.str z
def szK:Key->Nat
 |.inl _=>62
 |.inr z=>z.length+62
def okP:Key->Bool
 |.inl i=>decide (0<=i/\i<10^60)
 |.inr z=>eG z&&decide (z.length<=100000)
def Lq:Key->Bool
 |.inr _=>true
 |.inl _=>false
def okT (k:List Key):Bool:=decide (1<=k.length/\k.length<=8)&&(k.head?.map Lq).getD false&&k.all okP
def szT (k:List Key):Nat:=(k.map szK).sum
def vn (k:List Key):Key->Prop
 |.inl i=>0<=i/\i<10^60
 |.inr z=>eG z=true/\z.length<=szT k
def bG (kvs:List (List Key×Key)):List (List Key×V):=kvs.map fun p=>(p.1,kV p.2)
def bI (kvs:List (List Key×Key))(k:List Key):Option Key:=(kvs.find? fun p=>decide (p.1=k)).map (·.2)
def gU:Key->Prop
 |.inl i=>0<=i/\i<10^60
 |.inr z=>eG z=true/\z.length<=62
def gN (kvs:List (List Key×Key)):Prop:=∀p∈kvs,gU p.2
structure gD (A:Adr)(H:Hp)(x d:Addr)(kvs:List (List Key×V)):Prop where
 ob:∃dx,H x=some (.ins A.c_Numbers dx [("given",.ref d)])
 di:H d=some (.dT kvs)
def bN (b:Addr)(H H':Hp):Prop:=∀x o,x≠b->H x=some o->H' x=some o
inductive Stp (A:Adr)(H:Hp)(f b:Addr)(g:gOp)(n:Nat):Prop
 |cnt (q x:Addr) (kvs:List (List Key×Key)) (hc:gh H f eW [q] [.ref x]) (num:gD A H x b (bG kvs)) (hl:kvs.length<=n) (hs:gN kvs) (hg:g=bI kvs)
def Sub (g g':gOp):Prop:=∀k v,g k=some v->g' k=some v
def Ext (g:gOp)(h:List Key->Key):Prop:=∀k v,g k=some v->h k=v
def rn (K:cW)(A:Adr):Sp:=fun vs H Q _=>∃(p:Addr)(k:List Key),vs=[.ref p]/\H p=some (.tup (k.map kV))/\okT k=true/\∀H',au H H'->Q (.bl true) H'
def oj (kvs:List (List Key×V))(kk:List Key)(d:V):V:=(cg kvs kk).getD d
def oQ (H:Hp)(b:Addr)(kvs:List (List Key×V))(kk:List Key)(d:V):Hp:=if (cg kvs kk).isSome=true then H else upd H b (.dT (cy kvs kk d))
def qt (K:cW)(A:Adr):Sp:=fun vs H Q _=>∃x dx,vs=[.ref x]/\H x=some (.ins A.c_Numbers dx [])/\∀d,H d=none->Q .non (upd (upd H d (.dT [])) x (.ins A.c_Numbers dx [("given",.ref d)]))
inductive qI (K:cW)(A:Adr)(vs:List V)(H:Hp)(Q:VK)(E:XK):Prop|mk (x d p:Addr)(kvs:List (List Key×V))(k:List Key)(_:vs=[.ref x,.ref p])(_:gD A H x d kvs)(_:kvs.length<=50000)(_:H p=some (.tup (k.map kV)))(_:okT k=true)(_:∀H',au H H'->Q (oj kvs k (.int kvs.length)) (oQ H' d kvs k (.int kvs.length)))
inductive uT (K:cW)(A:Adr)(vs:List V)(H:Hp)(Q:VK)(E:XK):Prop|mk (x d p:Addr)(kvs:List (List Key×V))(k:List Key)(_:vs=[.ref p,.ref x])(_:gD A H x d kvs)(_:kvs.length<=50000)(_:H p=some (.tup (k.map kV)))(_:okT k=true)(_:∀H',au H H'->Q (oj kvs k (.int kvs.length)) (oQ H' d kvs k (.int kvs.length)))
def eC (P:Addr)(H H':Hp):Prop:=∀b o,H b=some o->b≠P->H' b=some o
def AY (A:Adr)(H:Hp):Prop:=∃ps,H A.t_70=some (.tbl ps)/\(ps=#[]\/∃c,ps=#[]++#[rawInt ((480:Nat):Int),rawInt ((11:Nat):Int),.ref c]/\H c=some (il c eW.qual))
def qb (K:cW)(A:Adr):Sp:=fun vs H Q _=>vs=[]/\AY A H/\∀(f b:Addr)(g:gOp)(H':Hp),eC A.t_70 H H'->AY A H'->H b=none->Stp A H' f b g 0->Q (.ref f) H'
def qW (K:cW)(A:Adr):Sp:=fun vs H Q _=>∃(a:Addr)(ns:List Int)(k:Int),vs=[.ref a,.int k]/\SqL K H a (ns.map V.int)/\0<=k/\∀z:Int,Q (.int z) H
def lB (K:cW)(A:Adr):Sp:=fun vs H Q _=>∃(b k d:Int),vs=[.int b,.int k,.int d]/\d<=b/\Q (.int (mK b k d)) H
inductive gi (K:cW)(A:Adr)(vs:List V)(H:Hp)(Q:VK)(E:XK):Prop|mk (b:Int)(v:V)(d:Dat)(_:vs=[.int b,v])(_:0<=b)(_:b<=60)(_:aV H v d)(_:Q (.bl (cC b d)) H)
def qi (K:cW)(A:Adr):Sp:=fun vs H Q _=>∃(v:V)(d:Dat),vs=[v]/\aV H v d/\okD d=true/\Q (.bl (gc d)) H
def jO (K:cW)(A:Adr):Sp:=fun vs H Q _=>∃(b k d:Int),vs=[.int b,.int k,.int d]/\d<b/\0<=k/\Q (.int (k/2^(b- d- 1).toNat%2)) H
inductive nC (K:cW)(A:Adr)(vs:List V)(H:Hp)(Q:VK)(E:XK):Prop|mk (b x y c:Nat)(_:vs=[.int b,.int x,.int y])(_:x<2^b)(_:y<2^b)(_:oI b x y c)(_:Q (.int c) H)
def fI:Dat->Bool
 |.int i=>decide (1<=i/\i<=60)
 |_=>false
def rz (K:cW)(A:Adr):Sp:=fun vs H Q _=>∃(v:V)(d:Dat),vs=[v]/\aV H v d/\Q (.bl (fI d)) H
def aW (b D:Addr)(H H':Hp):Prop:=∀x o,x≠b->x≠D->H x=some o->H' x=some o
def brT:List Key:=[.inr "bare"]
def lfT (k:Nat)(z:Str):List Key:=[.inr "leaf",.inl (k:Int),.inr z]
def fkT (d b:Nat)(l r:Key):List Key:=[.inr "fork",.inl (d:Int),.inl (b:Int),l,r]
def szN:Kn Str->Nat
 |.bare=>200
 |.leaf _ _=>400
 |.fork _ _ l r=>300+szN l+szN r
def fQ (z:Str):Prop:=eG z=true/\z.length<=60
inductive KnA (A:Adr)(H:Hp)(g:gOp):Addr->Kn Str->Key->Prop
 |bare {x dx t:Addr} {m:Key} (o:H x=some (.ins A.c_Bare dx [("term",.ref t),("mark",kV m)])) (ht:H t=some (.tup (brT.map kV))) (hm:g brT=some m) (ok:okP m=true) (sz:szK m<=200):KnA A H g x .bare m
 |leaf {x dx t:Addr} {m:Key} {k:Nat} {z:Str} (o:H x=some (.ins A.c_Leaf dx [("term",.ref t),("mark",kV m),("key",.int (k:Int)),("text",.str z)])) (ht:H t=some (.tup ((lfT k z).map kV))) (hm:g (lfT k z)=some m) (ok:okP m=true) (sz:szK m<=400) (hz:fQ z):KnA A H g x (.leaf k z) m
 |fork {x dx t l r:Addr} {m ml mr:Key} {d b:Nat} {tl tr:Kn Str} (o:H x=some (.ins A.c_Fork dx [("term",.ref t),("mark",kV m),("depth",.int (d:Int)),("begin",.int (b:Int)),("left",.ref l),("right",.ref r)])) (hl:KnA A H g l tl ml) (hr:KnA A H g r tr mr)
  (ht:H t=some (.tup ((fkT d b ml mr).map kV))) (hm:g (fkT d b ml mr)=some m) (ok:okP m=true) (sz:szK m<=szN (.fork d b tl tr)):KnA A H g x (.fork d b tl tr) m
def clK (A:Adr):Kn Str->Addr
 |.bare=>A.c_Bare
 |.leaf _ _=>A.c_Leaf
 |.fork _ _ _ _=>A.c_Fork
def kdK:Kn Str->Nat
 |.bare=>0
 |.leaf _ _=>1
 |.fork _ _ _ _=>2
def hgt:Kn Str->Nat
 |.bare=>0
 |.leaf _ _=>0
 |.fork _ _ l r=>max (hgt l) (hgt r)+1
def gw (B:Nat):Kn Str->Prop
 |.bare=>True
 |.leaf _ _=>True
 |.fork d b l r=>d<B/\b<2^d/\gw B l/\gw B r
def ov:Option Str->V
 |none=>.non
 |some z=>.str z
def KnQ (A:Adr)(H:Hp)(f b:Addr)(g:gOp)(n c:Nat)(t:Kn Str)(Q:VK):Prop:=∀(y:Addr)(m:Key)(g':gOp)(H':Hp),bN b H H'->KnA A H' g' y t m->Stp A H' f b g' (n+c)->Sub g g'->Q (.ref y) H'
inductive lA (K:cW)(A:Adr)(vs:List V)(H:Hp)(Q:VK)(E:XK):Prop|mk (x dx C f b p:Addr)(g:gOp)(n:Nat)(k:List Key)(_:vs=[.ref x,.ref f,.ref p])(_:H x=some (.ins C dx []))(_:Cls K C)(_:bq K C "term")(_:bq K C "mark")(_:Stp A H f b g n)(_:n<=45000)(_:H p=some (.tup (k.map kV)))(_:okT k=true)(_:∀(m:Key)(g':gOp)(H':Hp),aW b x H H'->H' x=some (.ins C dx [("term",.ref p),("mark",kV m)])->Stp A H' f b g' (n+1)->Sub g g'->g' k=some m->vn k m->Q .non H')
def InQ (A:Adr)(H:Hp)(x f b:Addr)(g:gOp)(n:Nat)(t:Kn Str)(Q:VK):Prop:=∀(m:Key)(g':gOp)(H':Hp),aW b x H H'->KnA A H' g' x t m->Stp A H' f b g' (n+1)->Sub g g'->Q .non H'
inductive nU (K:cW)(A:Adr)(vs:List V)(H:Hp)(Q:VK)(E:XK):Prop|mk (x dx f b:Addr)(g:gOp)(n:Nat)(_:vs=[.ref x,.ref f])(_:H x=some (.ins A.c_Bare dx []))(_:Stp A H f b g n)(_:n<=45000)(_:InQ A H x f b g n .bare Q)
inductive jC (K:cW)(A:Adr)(vs:List V)(H:Hp)(Q:VK)(E:XK):Prop|mk (x dx f b:Addr)(g:gOp)(n k:Nat)(z:Str)(_:vs=[.ref x,.ref f,.int (k:Int),.str z])(_:H x=some (.ins A.c_Leaf dx []))(_:Stp A H f b g n)(_:n<=45000)(_:k<2^60)(_:fQ z)(_:InQ A H x f b g n (.leaf k z) Q)
inductive im (K:cW)(A:Adr)(vs:List V)(H:Hp)(Q:VK)(E:XK):Prop|mk (x dx f b l r:Addr)(g:gOp)(n d e:Nat)(tl tr:Kn Str)(ml mr:Key)(_:vs=[.ref x,.ref f,.int (d:Int),.int (e:Int),.ref l,.ref r])(_:H x=some (.ins A.c_Fork dx []))(_:Stp A H f b g n)(_:n<=45000)(_:d<60)(_:e<2^60)(_:KnA A H g l tl ml)(_:KnA A H g r tr mr)(_:szN tl+szN tr<=90000)(_:InQ A H x f b g n (.fork d e tl tr) Q)
def Kof (A:Adr)(H:Hp)(i:Nat)(g:gOp)(x:Addr)(t:Kn Str)(m:Key):Prop:=KnA A H g x t m/\kdK t=i
inductive oF (A:Adr)(i:Nat)(n:Nat)(vs:List V)(H:Hp)(Q:VK)(E:XK):Prop|mk (x:Addr)(g:gOp)(t:Kn Str)(m:Key)(B key:Nat)(_:vs=[.ref x,.int (B:Int),.int (key:Int)])(_:Kof A H i g x t m)(_:gw B t)(_:hgt t<n)(_:Q (ov (aM B key t)) H)
def oS (K:cW)(A:Adr):Sp:=oF A 0 70
def kO (K:cW)(A:Adr):Sp:=oF A 1 70
def jJ (K:cW)(A:Adr)(n:Nat):Sp:=oF A 2 n
def ip (A:Adr)(H:Hp)(x:Addr)(d b:Nat)(l r:Addr):Prop:=∃dx t m,H x=some (.ins A.c_Fork dx [("term",.ref t),("mark",kV m),("depth",.int (d:Int)),("begin",.int (b:Int)),("left",.ref l),("right",.ref r)])
inductive nP (K:cW)(A:Adr)(vs:List V)(H:Hp)(Q:VK)(E:XK):Prop|mk (x l r:Addr)(d b B key:Nat)(_:vs=[.ref x,.int (B:Int),.int (key:Int)])(_:ip A H x d b l r)(_:d<B)(_:Q (.bl (decide (st B key d=b))) H)
inductive ii (K:cW)(A:Adr)(vs:List V)(H:Hp)(Q:VK)(E:XK):Prop|mk (x l r:Addr)(d b B key:Nat)(_:vs=[.ref x,.int (B:Int),.int (key:Int)])(_:ip A H x d b l r)(_:d<B)(_:Q (.ref (if sd B key d=0 then l else r)) H)
inductive lG (K:cW)(A:Adr)(vs:List V)(H:Hp)(Q:VK)(E:XK):Prop|mk (x l r:Addr)(d b B key:Nat)(_:vs=[.ref x,.int (B:Int),.int (key:Int)])(_:ip A H x d b l r)(_:d<B)(_:Q (.ref (if sd B key d=0 then r else l)) H)
structure KnS (A:Adr)(H:Hp)(f b:Addr)(g:gOp)(n:Nat)(B:Nat)(x:Addr)(t:Kn Str)(m:Key):Prop where
 k:KnA A H g x t m
 s:Stp A H f b g n
 B60:B<=60
 dp:gw B t
 ln:(bv t).length<=100
 sz:szN t<=80000
inductive mO (K:cW)(A:Adr)(vs:List V)(H:Hp)(Q:VK)(E:XK):Prop|mk (f b x y:Addr)(g:gOp)(n B d key:Nat)(z:Str)(t:Kn Str)(m m':Key)(_:vs=[.ref f,.int (B:Int),.int (d:Int),.ref y,.ref x])(_:KnS A H f b g n B x t m)(_:n<=45000)(_:KnA A H g y (.leaf key z) m')(_:d<B)(_:key<2^B)(_:KnQ A H f b g n 1 (fE B d key z t) Q)
inductive nj (K:cW)(A:Adr)(vs:List V)(H:Hp)(Q:VK)(E:XK):Prop|mk (x f b l r y:Addr)(g:gOp)(n B d e key:Nat)(tl tr t:Kn Str)(m ml mr:Key)(_:vs=[.ref x,.ref f,.int (B:Int),.int (key:Int),.ref y])(_:ip A H x d e l r)(_:KnA A H g l tl ml)(_:KnA A H g r tr mr)(_:KnA A H g y t m)(_:Stp A H f b g n)(_:n<=45000)(_:d<B)(_:B<=60)(_:e<2^60)(_:szN (if sd B key d=0 then tr else tl)+szN t<=90000)(_:KnQ A H f b g n 1 (if sd B key d=0 then .fork d e t tr else .fork d e tl t) Q)
inductive rL (A:Adr)(i:Nat)(j:Nat)(vs:List V)(H:Hp)(Q:VK)(E:XK):Prop|mk (x f b:Addr)(g:gOp)(n B key:Nat)(z:Str)(t:Kn Str)(m:Key)(_:vs=[.ref x,.ref f,.int (B:Int),.int (key:Int),.str z])(_:KnS A H f b g n B x t m)(_:kdK t=i)(_:n+hgt t+10<=45000)(_:(∀p∈bv t,p.1<2^B))(_:key<2^B)(_:fQ z)(_:hgt t<j)(_:szN t<=70000)(_:KnQ A H f b g n (hgt t+2) (df B key z t) Q)
def nY (K:cW)(A:Adr):Sp:=rL A 0 70
def kW (K:cW)(A:Adr):Sp:=rL A 1 70
def jA (K:cW)(A:Adr)(n:Nat):Sp:=rL A 2 n
inductive kK (A:Adr)(i:Nat)(j:Nat)(vs:List V)(H:Hp)(Q:VK)(E:XK):Prop|mk (x f b:Addr)(g:gOp)(n B key:Nat)(t:Kn Str)(m:Key)(_:vs=[.ref x,.ref f,.int (B:Int),.int (key:Int)])(_:KnS A H f b g n B x t m)(_:kdK t=i)(_:n+hgt t+10<=45000)(_:hgt t<j)(_:KnQ A H f b g n (hgt t+1) (bn B key t) Q)
def og (K:cW)(A:Adr):Sp:=kK A 0 70
def kR (K:cW)(A:Adr):Sp:=kK A 1 70
def jK (K:cW)(A:Adr)(n:Nat):Sp:=kK A 2 n
def WFo (B:Nat)(t:Kn Str):Prop:=t=.bare\/WF B 0 0 t
structure TbA (A:Adr)(H:Hp)(g:gOp)(x f:Addr)(B:Nat)(t:Kn Str)(m:Key):Prop where
 ob:∃dx y,H x=some (.ins A.c_Table dx [("stamper",.ref f),("bits",.int (B:Int)),("top",.ref y)])/\KnA A H g y t m
 B1:1<=B
 B60:B<=60
 wf:WFo B t
structure TbS (A:Adr)(H:Hp)(x f b:Addr)(g:gOp)(n B:Nat)(t:Kn Str)(m:Key):Prop where
 ta:TbA A H g x f B t m
 s:Stp A H f b g n
 ln:(bv t).length<=90
def TbQ (A:Adr)(H:Hp)(x f b:Addr)(g:gOp)(n c B:Nat)(t:Kn Str)(R:Hp->Prop):Prop:=∀(m:Key)(g':gOp)(H':Hp),aW b x H H'->TbA A H' g' x f B t m->Stp A H' f b g' (n+c)->Sub g g'->R H'
inductive kY (K:cW)(A:Adr)(vs:List V)(H:Hp)(Q:VK)(E:XK):Prop|mk (x dx f b:Addr)(g:gOp)(n:Nat)(v:V)(d:Dat)(_:vs=[.ref x,.ref f,v])(_:H x=some (.ins A.c_Table dx []))(_:aV H v d)(_:Stp A H f b g n)(_:n<=45000)(_:(fI d=false->False))(_:∀B:Nat,d=.int (B:Int)->1<=B->B<=60->TbQ A H x f b g n 1 B .bare (Q .non))
inductive nA (K:cW)(A:Adr)(vs:List V)(H:Hp)(Q:VK)(E:XK):Prop|mk (x f:Addr)(g:gOp)(B:Nat)(t:Kn Str)(m:Key)(v:V)(d:Dat)(_:vs=[.ref x,v])(_:TbA A H g x f B t m)(_:aV H v d)(_:(cC B d=false->False))(_:∀key:Nat,d=.int (key:Int)->key<2^B->Q (ov (aM B key t)) H)
inductive mL (K:cW)(A:Adr)(vs:List V)(H:Hp)(Q:VK)(E:XK):Prop|mk (x f b:Addr)(g:gOp)(n B:Nat)(t:Kn Str)(m:Key)(v w:V)(d e:Dat)(_:vs=[.ref x,v,w])(_:TbS A H x f b g n B t m)(_:n+100<=45000)(_:aV H v d)(_:aV H w e)(_:okD e=true)(_:(cC B d=false->False))(_:∀key:Nat,d=.int (key:Int)->key<2^B->(gc e=false->False)/\∀z,e=.str z->fQ z->TbQ A H x f b g n 65 B (df B key z t) fun H'=>Q (ov (aM B key t)) H')
inductive mI (K:cW)(A:Adr)(vs:List V)(H:Hp)(Q:VK)(E:XK):Prop|mk (x f b:Addr)(g:gOp)(n B:Nat)(t:Kn Str)(m:Key)(v:V)(d:Dat)(_:vs=[.ref x,v])(_:TbS A H x f b g n B t m)(_:n+100<=45000)(_:aV H v d)(_:(cC B d=false->False))(_:∀key:Nat,d=.int (key:Int)->key<2^B->(aM B key t=none->False)/\∀z,aM B key t=some z->TbQ A H x f b g n 65 B (bn B key t) fun H'=>Q (.str z) H')
inductive qq (K:cW)(A:Adr)(vs:List V)(H:Hp)(Q:VK)(E:XK):Prop|mk (x f:Addr)(g:gOp)(B:Nat)(t:Kn Str)(m:Key)(_:vs=[.ref x])(_:TbA A H g x f B t m)(_:Q (kV m) H)
def mT (K:cW)(A:Adr):Sp:=fun vs H Q _=>∃(c:Int)(B:Nat),vs=[.int c,.int (B:Int)]/\1<=B/\B<=60/\∀k:Nat,k<2^B->Q (.int (k:Int)) H
def dOf (kn:List (Nat×Str)):List (Key×V):=kn.map fun p=>(.inl (p.1:Int),.str p.2)
structure Kno (B:Nat)(kn:List (Nat×Str))(t:Kn Str):Prop where
 nd:(kn.map (·.1)).Nodup
 ln:kn.length<=63
 eq:∀k,look k kn=aM B k t
inductive qB (K:cW)(A:Adr)(vs:List V)(H:Hp)(Q:VK)(E:XK):Prop|mk (x f b:Addr)(g:gOp)(n B:Nat)(t:Kn Str)(m:Key)(_:vs=[.ref x])(_:TbS A H x f b g n B t m)(_:n<=45000)(_:∀(y:Addr)(g':gOp)(H':Hp),bN b H H'->H y=none->TbS A H' x f b g' (n+1) B t m->TbA A H' g' y f B t m->Sub g g'->Q (.ref y) H')
def mY (K:cW)(A:Adr):Sp:=fun vs H Q _=>∃c k:Int,vs=[.int c,.int k]/\∀z:Int,0<=z->Q (.int z) H
def mX (B:Nat)(kn:List (Nat×Str)):Prop:=∀p∈kn,p.1<2^B
inductive jb (K:cW)(A:Adr)(vs:List V)(H:Hp)(Q:VK)(E:XK):Prop|mk (kd:Addr)(c nb:Int)(B:Nat)(kn:List (Nat×Str))(_:vs=[.ref kd,.int c,.int nb,.int (B:Int)])(_:H kd=some (.dK (dOf kn)))(_:kn.length<=63)(_:mX B kn)(_:1<=B)(_:B<=60)(_:∀(k:Nat)(H':Hp),au H H'->k<2^B->Q (.int (k:Int)) H')
def aK (n:Nat):Nat:=2^Vp (n- 1)
def jx (K:cW)(A:Adr):Sp:=fun vs H Q _=>∃m:Nat,vs=[.int (m:Int)]/\2<=m/\m<=2^60/\Q (.int ((aK m:Nat):Int)) H
def da:Dat->Bool
 |.int i=>decide (0<=i/\i<2^60)
 |_=>false
def dD (c e:Dat):Bool:=da c&&my e&&match c,e with
 |.int c,.int e=>decide (0<=e/\e<c)
 |_,_=>false
def kT:Dat->Bool
 |.tup [c,v]=>da c&&eI v
 |_=>false
def kP (K:cW)(A:Adr):Sp:=fun vs H Q _=>∃v d,vs=[v]/\aV H v d/\Q (.bl (da d)) H
def rq (K:cW)(A:Adr):Sp:=fun vs H Q _=>∃v d w e,vs=[v,w]/\aV H v d/\aV H w e/\Q (.bl (dD d e)) H
def qo (K:cW)(A:Adr):Sp:=fun vs H Q _=>∃v d,vs=[v]/\aV H v d/\Q (.bl (kT d)) H
def qy (K:cW)(A:Adr):Sp:=fun vs H Q _=>∃v d,vs=[v]/\aV H v d/\kT d=true/\Q .non H
def cM (c e:Dat):Bool:=da c&&my e&&match c,e with
 |.int c,.int e=>decide (0<=e/\e<=c)
 |_,_=>false
def rh (K:cW)(A:Adr):Sp:=fun vs H Q _=>∃v d w e,vs=[v,w]/\aV H v d/\aV H w e/\Q (.bl (cM d e)) H
def smE (e:Key):Prop:=okP e=true/\szK e<=130
structure dQ (A:Adr)(H:Hp)(x f L D:Addr)(es:List Key)(kvs:List (List Key×Key)):Prop where
 ob:∃dx,H x=some (.ins A.c_Row dx [("stamper",.ref f),("entries",.ref L),("tops",.ref D)])
 hl:H L=some (.lst (es.map kV))
 hd:H D=some (.dT (bG kvs))
 en:∀e∈es,smE e
 le:es.length<=60
 cs:∀k v,bI kvs k=some v->smE v
structure dC (A:Adr)(H:Hp)(x f L D b:Addr)(es:List Key)(kvs:List (List Key×Key))(g:gOp)(n:Nat):Prop where
 r:dQ A H x f L D es kvs
 s:Stp A H f b g n
 db:D≠b
 kl:kvs.length<=n
def rc (K:cW)(A:Adr):Sp:=fun vs H Q _=>∃x dx f,vs=[.ref x,.ref f]/\H x=some (.ins A.c_Row dx [])/\∀(L D:Addr)(H':Hp),(∀z o,z≠x->H z=some o->H' z=some o)->H L=none->H D=none->L≠D->H' x=some (.ins A.c_Row dx [("stamper",.ref f),("entries",.ref L),("tops",.ref D)])->H' L=some (.lst [])->H' D=some (.dT [])->Q .non H'
inductive qN (K:cW)(A:Adr)(vs:List V)(H:Hp)(Q:VK)(E:XK):Prop|mk (x f L D:Addr)(es:List Key)(kvs:List (List Key×Key))(e:Key)(_:vs=[.ref x,kV e])(_:dQ A H x f L D es kvs)(_:smE e)(_:es.length<60)(_:Q (.int (es.length:Int)) (upd H L (.lst ((es++[e]).map kV))))
inductive jz (K:cW)(A:Adr)(vs:List V)(H:Hp)(Q:VK)(E:XK):Prop|mk (x f L D:Addr)(es:List Key)(kvs:List (List Key×Key))(_:vs=[.ref x])(_:dQ A H x f L D es kvs)(_:Q (.int (es.length:Int)) H)
def leD (n:Int):Dat->Bool
 |.int c=>decide (c<=n)
 |_=>false
inductive li (K:cW)(A:Adr)(vs:List V)(H:Hp)(Q:VK)(E:XK):Prop|mk (x f L D:Addr)(es:List Key)(kvs:List (List Key×Key))(v w:V)(d e:Dat)(_:vs=[.ref x,v,w])(_:dQ A H x f L D es kvs)(_:aV H v d)(_:aV H w e)(_:Q (.bl (cM d e&&leD (es.length:Int) d)) H)
inductive mP (K:cW)(A:Adr)(vs:List V)(H:Hp)(Q:VK)(E:XK):Prop|mk (x f L D:Addr)(es:List Key)(kvs:List (List Key×Key))(v w:V)(d e:Dat)(_:vs=[.ref x,v,w])(_:dQ A H x f L D es kvs)(_:aV H v d)(_:aV H w e)(_:Q (.bl (dD d e&&leD (es.length:Int) d)) H)
def oO (k k':List (List Key×Key)):Prop:=∀s v,bI k s=some v->bI k' s=some v
structure eV (g:gOp)(k:List (List Key×Key))(g':gOp)(k':List (List Key×Key)):Prop where
 s:Sub g g'
 t:oO k k'
def iq (s:Nat×Nat):List Key:=[.inl (s.1:Int),.inl (s.2:Int)]
inductive eJ (K:cW)(A:Adr)(j:Nat)(vs:List V)(H:Hp)(Q:VK)(E:XK):Prop|mk (x f L D b:Addr)(es:List Key)(kvs:List (List Key×Key))(g:gOp)(n a m:Nat)(_:vs=[.ref x,.int (a:Int),.int (m:Int)])(_:dC A H x f L D b es kvs g n)(_:a+m<=es.length)(_:m<j)(_:n+2*m+1<=45000)(_:∀(v:Key)(kvs':List (List Key×Key))(g':gOp)(H':Hp),aW b D H H'->dC A H' x f L D b es kvs' g' (n+(2*(m- 1)+1))->eV g kvs g' kvs'->bI kvs' (iq (a,m))=some v->smE v->Q (kV v) H')
inductive qT (K:cW)(A:Adr)(j:Nat)(vs:List V)(H:Hp)(Q:VK)(E:XK):Prop|mk (x f L D b:Addr)(es:List Key)(kvs:List (List Key×Key))(g:gOp)(n a m:Nat)(_:vs=[.ref x,.int (a:Int),.int (m:Int)])(_:dC A H x f L D b es kvs g n)(_:a+m<=es.length)(_:m<=j)(_:n+2*m+1<=45000)(_:∀(p:Addr)(k:List Key)(kvs':List (List Key×Key))(g':gOp)(H':Hp),aW b D H H'->dC A H' x f L D b es kvs' g' (n+2*(m- 1))->eV g kvs g' kvs'->H' p=some (.tup (k.map kV))->okT k=true->Q (.ref p) H')
inductive rp (K:cW)(A:Adr)(vs:List V)(H:Hp)(Q:VK)(E:XK):Prop|mk (x f L D b:Addr)(es:List Key)(kvs:List (List Key×Key))(g:gOp)(n c:Nat)(_:vs=[.ref x,.int (c:Int)])(_:dC A H x f L D b es kvs g n)(_:c<=es.length)(_:n+200<=45000)(_:∀(v:Key)(kvs':List (List Key×Key))(g':gOp)(H':Hp),aW b D H H'->dC A H' x f L D b es kvs' g' (n+200)->eV g kvs g' kvs'->(∃y,bI kvs' (iq (0,c))=some y/\g' [.inr "row",.inl (c:Int),y]=some v)->smE v->Q (kV v) H')
inductive qO (K:cW)(A:Adr)(vs:List V)(H:Hp)(Q:VK)(E:XK):Prop|mk (f b:Addr)(g:gOp)(n:Nat)(_:vs=[.ref f])(_:Stp A H f b g n)(_:n<=44000)(_:∀(L p1 p2:Addr)(v:Key)(g':gOp)(H':Hp),bN b H H'->Stp A H' f b g' (n+1)->Sub g g'->H' L=some (.lst [.ref p1,.ref p2])->H' p2=some (.tup [.str "row",.int 0,kV v])->smE v->Q (.ref L) H')
inductive qD (K:cW)(A:Adr)(vs:List V)(H:Hp)(Q:VK)(E:XK):Prop|mk (f b:Addr)(g:gOp)(n:Nat)(_:vs=[.ref f])(_:Stp A H f b g n)(_:n<=44000)(_:∀(p:Addr)(v:Key)(g':gOp)(H':Hp),bN b H H'->Stp A H' f b g' (n+2)->Sub g g'->H' p=some (.tup [.int 0,kV v])->smE v->Q (.ref p) H')
structure SeA (A:Adr)(H:Hp)(x d:Addr)(n:Nat):Prop where
 ob:∃dx,H x=some (.ins A.c_Seals dx [("sealed",.ref d)])
 di:∃kvs,H d=some (.dT kvs)/\kvs.length<=n
def mZ (K:cW)(A:Adr):Sp:=fun vs H Q _=>∃x dx,vs=[.ref x]/\H x=some (.ins A.c_Seals dx [])/\∀d,H d=none->Q .non (upd (upd H d (.dT [])) x (.ins A.c_Seals dx [("sealed",.ref d)]))
inductive mG (K:cW)(A:Adr)(vs:List V)(H:Hp)(Q:VK)(E:XK):Prop|mk (x d p:Addr)(n c:Nat)(v:Key)(_:vs=[.ref x,.ref p])(_:SeA A H x d n)(_:n<=50000)(_:H p=some (.tup [.int (c:Int),kV v]))(_:c<2^60)(_:okP v=true)(_:∀kvs,kvs.length<=n+1->Q .non (upd H d (.dT kvs)))
def KM (S:List Addr)(H H':Hp):Prop:=∀z o,z∉S->H z=some o->H' z=some o
structure HA where
 tb:Addr
 ro:Addr
 L:Addr
 D:Addr
 ml:Addr
 sl:Addr
 sd:Addr
def HoA (A:Adr)(H:Hp)(x:Addr)(a:HA):Prop:=∃dx,H x=some (.ins A.c_House dx [("table",.ref a.tb),("row",.ref a.ro),("makes",.ref a.ml),("seals",.ref a.sl)])
abbrev TmA (A:Adr)(H:Hp)(g:gOp)(f:Addr)(B:Nat):List Addr->List (Kn Str)->Prop:=Paired fun(y:Addr)(t:Kn Str)=>∃m,TbA A H g y f B t m
structure HsA (A:Adr)(H:Hp)(g:gOp)(x f:Addr)(n B:Nat)(a:HA)(t:Kn Str)(ts:List (Kn Str))(ys:List Addr):Prop where
 ob:HoA A H x a
 ta:∃m,TbA A H g a.tb f B t m
 ro:∃es kvs,dQ A H a.ro f a.L a.D es kvs/\es.length=ts.length/\kvs.length<=n
 hm:H a.ml=some (.lst (ys.map V.ref))
 tm:TmA A H g f B ys ts
 se:SeA A H a.sl a.sd n
structure HaD (b:Addr)(a:HA)(ys:List Addr):Prop where
 nd:[b,a.tb,a.L,a.D,a.ml,a.sd].Nodup
 ny:a.tb∉ys
inductive mS (K:cW)(A:Adr)(vs:List V)(H:Hp)(Q:VK)(E:XK):Prop|mk (x dx f b sl sd:Addr)(g:gOp)(n:Nat)(v:V)(d:Dat)(_:vs=[.ref x,.ref f,v,.ref sl])(_:H x=some (.ins A.c_House dx []))(_:aV H v d)(_:Stp A H f b g n)(_:n<=40000)(_:SeA A H sl sd n)(_:sd≠b)(_:(fI d=false->False))(_:∀B:Nat,d=.int (B:Int)->1<=B->B<=60-> ∀(a:HA)(g':gOp)(H':Hp),KM [b,x,sd] H H'->HsA A H' g' x f (n+5) B a .bare [] []->a.sl=sl->a.sd=sd->(∀z∈[a.tb,a.ro,a.L,a.D,a.ml],H z=none)->[a.tb,a.ro,a.L,a.D,a.ml].Nodup->Stp A H' f b g' (n+5)->Sub g g'->Q .non H')
inductive lF (K:cW)(A:Adr)(vs:List V)(H:Hp)(Q:VK)(E:XK):Prop|mk (x:Addr)(a:HA)(v w:V)(_:vs=[.ref x,v,w])(_:HoA A H x a)(_:(∃f g B t m,TbA A H g a.tb f B t m))(_:mL K A [.ref a.tb,v,w] H Q E0)
def kU (K:cW)(A:Adr):Sp:=fun vs H Q E=>∃(x:Addr)(a:HA)(v:V),vs=[.ref x,v]/\HoA A H x a/\(∃f g B t m,TbA A H g a.tb f B t m)/\mI K A [.ref a.tb,v] H Q E0
def bi (D:Addr)(H H':Hp):Prop:=∀kvs,H D=some (.dT (bG kvs))->∃kvs',H' D=some (.dT (bG kvs'))/\oO kvs kvs'
def NwV (D:Addr)(H:Hp)(g:gOp)(n:Nat)(v:Key):Prop:=∃kvs y,H D=some (.dT (bG kvs))/\bI kvs (iq (0,n))=some y/\g [.inr "row",.inl (n:Int),y]=some v
inductive hZ (K:cW)(A:Adr)(vs:List V)(H:Hp)(Q:VK)(E:XK):Prop|mk (x f b:Addr)(g:gOp)(n B:Nat)(a:HA)(t:Kn Str)(ts:List (Kn Str))(ys:List Addr)(_:vs=[.ref x])(_:HsA A H g x f n B a t ts ys)(_:HaD b a ys)(_:Stp A H f b g n)(_:n+300<=45000)(_:∀(p:Addr)(v:Key)(g':gOp)(H':Hp),aW b a.D H H'->HsA A H' g' x f (n+200) B a t ts ys->Stp A H' f b g' (n+200)->Sub g g'->bi a.D H H'->NwV a.D H' g' ts.length v->H' p=some (.tup [.int (ts.length:Int),kV v])->smE v->Q (.ref p) H')
inductive jw (K:cW)(A:Adr)(vs:List V)(H:Hp)(Q:VK)(E:XK):Prop|mk (x f b:Addr)(g:gOp)(n B:Nat)(a:HA)(t:Kn Str)(ts:List (Kn Str))(ys:List Addr)(_:vs=[.ref x])(_:HsA A H g x f n B a t ts ys)(_:HaD b a ys)(_:Stp A H f b g n)(_:(bv t).length<=90)(_:ts.length<60)(_:n+400<=45000)(_:∀(p y:Addr)(v:Key)(g':gOp)(H':Hp),KM [b,a.L,a.D,a.ml,a.sd] H H'->H y=none->HsA A H' g' x f (n+210) B a t (ts++[t]) (ys++[y])->Stp A H' f b g' (n+210)->Sub g g'->bi a.D H H'->NwV a.D H' g' (ts.length+1) v->smE v->H' p=some (.tup [.int ((ts.length:Int)+1),kV v])->Q (.ref p) H')
def lz (K:cW)(A:Adr):Sp:=fun vs H Q _=>∃c:Int,vs=[.int c]/\∀(z:Str)(H':Hp),au H H'->fQ z->Q (.str z) H'
def dZ (B:Int)(d e:Dat):Bool:=cC B d&&cC B e&&match d,e with
 |.int a,.int b=>decide (a<=b)
 |_,_=>false
inductive re (K:cW)(A:Adr)(vs:List V)(H:Hp)(Q:VK)(E:XK):Prop|mk (b:Int)(v w:V)(d e:Dat)(_:vs=[.int b,v,w])(_:0<=b)(_:b<=60)(_:aV H v d)(_:aV H w e)(_:Q (.bl (dZ b d e)) H)
def dj (b lo hi d g:Int):Bool:=decide (g*2^(b- d).toNat<=hi)&&decide (lo<=(g+1)*2^(b- d).toNat- 1)
structure BY (b lo hi:Int):Prop where
 b1:1<=b
 b60:b<=60
 lo0:0<=lo
 le:lo<=hi
 hi1:hi<2^b.toNat
inductive pW (K:cW)(A:Adr)(vs:List V)(H:Hp)(Q:VK)(E:XK):Prop|mk (b d g:Int)(_:vs=[.int b,.int d,.int g])(_:0<=d)(_:d<=b)(_:b<=60)(_:0<=g)(_:g<2^d.toNat)(_:∀p,H p=none->Q (.ref p) (upd H p (.tup [.int (g*2^(b- d).toNat),.int ((g+1)*2^(b- d).toNat- 1)])))
inductive qk (K:cW)(A:Adr)(vs:List V)(H:Hp)(Q:VK)(E:XK):Prop|mk (b lo hi d g:Int)(_:vs=[.int b,.int lo,.int hi,.int d,.int g])(_:0<=d)(_:d<=b)(_:b<=60)(_:0<=g)(_:g<2^d.toNat)(_:∀H',au H H'->Q (.bl (dj b lo hi d g)) H')
def rA (K:cW)(A:Adr):Sp:=fun vs H Q _=>∃b lo hi:Int,vs=[.int b,.int lo,.int hi]/\BY b lo hi/\Q .non H
def bW (h:List Key->Key):Kn Str->List Key
 |.bare=>brT
 |.leaf k z=>lfT k z
 |.fork d b l r=>fkT d b (h (bW h l)) (h (bW h r))
def cV (h:List Key->Key)(B key:Nat):Kn Str->List (Int×Key)
 |.fork d b l r=>if st B key d=b then(if sd B key d=0 then((d:Int),h (bW h r))::cV h B key l else((d:Int),h (bW h l))::cV h B key r)else[]
 |_=>[]
def eU (h:List Key->Key)(B key:Nat):Kn Str->List Key
 |.fork d b l r=>if st B key d=b then(if sd B key d=0 then eU h B key l else eU h B key r)else bW h (.fork d b l r)
 |t=>bW h t
def cm (g:gOp):List Key->Key:=fun k=>(g k).getD (.inl 0)
inductive AS where
 |cut (m:Key)
 |bare
 |leaf (k:Int) (z:Str)
 |fork (d b:Int) (l r:AS)
def ig:AS->Dat
 |.cut m=>.tup [.str "cut",bA m]
 |.bare=>.tup [.str "bare"]
 |.leaf k z=>.tup [.str "leaf",.int k,.str z]
 |.fork d b l r=>.tup [.str "fork",.int d,.int b,ig l,ig r]
def dc (h:List Key->Key)(B lo hi:Int):Int->Int->Kn Str->AS
 |d,g,.bare=>if dj B lo hi d g=true then .bare else .cut (h (bW h .bare))
 |d,g,.leaf k z=>if dj B lo hi d g=true then .leaf k z else .cut (h (bW h (.leaf k z)))
 |d,g,.fork e b l r=>if dj B lo hi d g=true then .fork e b (dc h B lo hi ((e:Int)+1) (2*(b:Int)) l) (dc h B lo hi ((e:Int)+1) (2*(b:Int)+1) r)else .cut (h (bW h (.fork e b l r)))
def stD (s:Int×Key):Dat:=.tup [.int s.1,bA s.2]
def jF (h:List Key->Key)(B key:Nat)(t:Kn Str):Dat:=.tup [.tup ((cV h B key t).map stD),.tup ((eU h B key t).map bA)]
def sD (n:Nat)(d:Dat):Prop:=okD d=true/\(eS d).depth<=n
inductive jN (K:cW)(A:Adr)(n:Nat)(vs:List V)(H:Hp)(Q:VK)(E:XK):Prop|mk (B:Nat)(lo hi d gg:Int)(x:Addr)(g:gOp)(t:Kn Str)(m:Key)(_:vs=[.int (B:Int),.int lo,.int hi,.int d,.int gg,.ref x])(_:B<=60)(_:0<=d)(_:d<=B)(_:0<=gg)(_:gg<2^d.toNat)(_:KnA A H g x t m)(_:gw B t)(_:hgt t<n)(_:∀(p:Addr)(H':Hp),au H H'->aV H' (.ref p) (ig (dc (cm g) B lo hi d gg t))->sD (hgt t+1) (ig (dc (cm g) B lo hi d gg t))->Q (.ref p) H')
inductive qf (K:cW)(A:Adr)(vs:List V)(H:Hp)(Q:VK)(E:XK):Prop|mk (x f:Addr)(g:gOp)(B:Nat)(t:Kn Str)(m:Key)(lo hi:Int)(_:vs=[.ref x,.int lo,.int hi])(_:TbA A H g x f B t m)(_:BY B lo hi)(_:∀(p:Addr)(d:Dat)(H':Hp),au H H'->aV H' (.ref p) d->sD 62 d->(∀h,Ext g h->d=ig (dc h B lo hi 0 0 t))->Q (.ref p) H')
inductive qX (K:cW)(A:Adr)(vs:List V)(H:Hp)(Q:VK)(E:XK):Prop|mk (x f:Addr)(g:gOp)(B:Nat)(t:Kn Str)(m:Key)(key:Nat)(_:vs=[.ref x,.int (key:Int)])(_:TbA A H g x f B t m)(_:key<2^B)(_:∀(p:Addr)(d:Dat)(H':Hp),au H H'->aV H' (.ref p) d->sD 62 d->(∀h,Ext g h->d=jF h B key t)->Q (.ref p) H')
def Vls (kvs:List (List Key×Key))(l:List (Nat×Nat))(ks:List Key):Prop:=l.map (fun s=>bI kvs (iq s))=ks.map some
inductive GrK:Nat->Nat->Nat->List (Nat×Nat)->Prop
 |one {a m e:Nat} (h:e=0\/e=m):GrK a m e [(a,m)]
 |lo {a m e:Nat} {l:List (Nat×Nat)} (h:¬(e=0\/e=m)) (h2:e<=aK m) (r:GrK a (aK m) e l):GrK a m e (l++[(a+aK m,m- aK m)])
 |hi {a m e:Nat} {l:List (Nat×Nat)} (h:¬(e=0\/e=m)) (h2:¬e<=aK m) (r:GrK (a+aK m) (m- aK m) (e- aK m) l):GrK a m e ((a,aK m)::l)
def plK:List Int->Nat->Nat->List (Nat×Nat)
 |[],_,_=>[]
 |t::r,a,m=>if t=0 then(a+aK m,m- aK m)::plK r a (aK m)else(a,aK m)::plK r (a+aK m) (m- aK m)
def fq:Nat->Nat->Nat->List Int
 |0,_,_=>[]
 |f+1,p,m=>if m<=1 then[]else if p<aK m then 0::fq f p (aK m)else 1::fq f (p- aK m) (m- aK m)
abbrev fc (c p:Nat):List Int:=fq 60 p c
def qZ (K:cW)(A:Adr):Sp:=fun vs H Q _=>∃p m:Nat,vs=[.int (p:Int),.int (m:Int)]/\p<m/\m<=2^60/\∀D,H D=none->Q (.ref D) (upd H D (.lst ((fc m p).map V.int)))
inductive iZ (K:cW)(A:Adr)(j:Nat)(vs:List V)(H:Hp)(Q:VK)(E:XK):Prop|mk (x f L D b:Addr)(es:List Key)(kvs:List (List Key×Key))(g:gOp)(n a m e:Nat)(_:vs=[.ref x,.int (a:Int),.int (m:Int),.int (e:Int)])(_:dC A H x f L D b es kvs g n)(_:a+m<=es.length)(_:1<=m)(_:e<=m)(_:m<j)(_:n+2*m+1<=45000)(_:∀(p:Addr)(l:List (Nat×Nat))(ks:List Key)(kvs':List (List Key×Key))(g':gOp)(H':Hp),aW b D H H'->dC A H' x f L D b es kvs' g' (n+2*m)->eV g kvs g' kvs'->H' p=some (.tup (ks.map kV))->ks.length<=m->GrK a m e l->Vls kvs' l ks->(∀k∈ks,smE k)->Q (.ref p) H')
def GrV (kvs:List (List Key×Key))(c e:Nat)(ks:List Key):Prop:=(c=0/\ks=[])\/(1<=c/\∃l,GrK 0 c e l/\Vls kvs l ks)
inductive rk (K:cW)(A:Adr)(vs:List V)(H:Hp)(Q:VK)(E:XK):Prop|mk (x f L D b:Addr)(es:List Key)(kvs:List (List Key×Key))(g:gOp)(n:Nat)(v w:V)(d e:Dat)(_:vs=[.ref x,v,w])(_:dC A H x f L D b es kvs g n)(_:n+200<=45000)(_:aV H v d)(_:aV H w e)(_:(cM d e&&leD (es.length:Int) d)=true)(_:∀(p:Addr)(c el:Nat)(ks:List Key)(kvs':List (List Key×Key))(g':gOp)(H':Hp),aW b D H H'->dC A H' x f L D b es kvs' g' (n+200)->eV g kvs g' kvs'->H' p=some (.tup (ks.map kV))->d=.int (c:Int)->e=.int (el:Int)->GrV kvs' c el ks->ks.length<=60->(∀k∈ks,smE k)->Q (.ref p) H')
inductive qC (K:cW)(A:Adr)(vs:List V)(H:Hp)(Q:VK)(E:XK):Prop|mk (x f L D b:Addr)(es:List Key)(kvs:List (List Key×Key))(g:gOp)(n:Nat)(v w:V)(d e:Dat)(_:vs=[.ref x,v,w])(_:dC A H x f L D b es kvs g n)(_:n+200<=45000)(_:aV H v d)(_:aV H w e)(_:(dD d e&&leD (es.length:Int) d)=true)(_:∀(P T:Addr)(c p:Nat)(y:Key)(ks:List Key)(kvs':List (List Key×Key))(g':gOp)(H':Hp),aW b D H H'->dC A H' x f L D b es kvs' g' (n+200)->eV g kvs g' kvs'->H' P=some (.tup [kV y,.ref T])->H' T=some (.tup (ks.map kV))->d=.int (c:Int)->e=.int (p:Int)->es[p]?=some y->Vls kvs' (plK (fc c p) 0 c) ks->ks.length<=60->(∀k∈ks,smE k)->Q (.ref P) H')
structure HoS (A:Adr)(H:Hp)(x f b:Addr)(g:gOp)(n B:Nat)(a:HA)(t:Kn Str)(ts:List (Kn Str))(ys:List Addr):Prop where
 hs:HsA A H g x f n B a t ts ys
 hd:HaD b a ys
 s:Stp A H f b g n
def vi (A:Adr)(H:Hp)(x f b:Addr)(g:gOp)(n B:Nat)(a:HA)(t:Kn Str)(ts:List (Kn Str))(ys:List Addr)(R:(gOp)->V->Hp->Prop)(Q:VK):Prop:=
 ∀(u:V)(g':gOp)(H':Hp),aW b a.D H H'->HoS A H' x f b g' (n+200) B a t ts ys->Sub g g'->bi a.D H H'->R g' u H'->Q u H'
inductive AnV (B:Nat)(ts:List (Kn Str))(a:HA)(g:gOp)(H:Hp):Str->List Dat->Dat->Prop
 |gr {c e:Nat} {kvs:List (List Key×Key)} {ks:List Key} (hD:H a.D=some (.dT (bG kvs))) (v:GrV kvs c e ks) (kl:ks.length<=60):AnV B ts a g H "growth" [.int (c:Int),.int (e:Int)] (.tup (ks.map bA))
 |pl {c p:Nat} {kvs:List (List Key×Key)} {ks es:List Key} {y:Key} (hD:H a.D=some (.dT (bG kvs))) (hL:H a.L=some (.lst (es.map kV))) (hy:es[p]?=some y) (v:Vls kvs (plK (fc c p) 0 c) ks) (kl:ks.length<=60):AnV B ts a g H "placed" [.int (c:Int),.int (p:Int)] (.tup [bA y,.tup (ks.map bA)])
 |fu {c p k:Nat} {kvs:List (List Key×Key)} {ks:List Key} {t:Kn Str} {s:Dat} (hD:H a.D=some (.dT (bG kvs))) (v:Vls kvs (plK (fc c p) 0 c) ks) (kl:ks.length<=60) (ht:ts[p]?=some t) (hs:∀h,Ext g h->s=jF h B k t):AnV B ts a g H "full" [.int (c:Int),.int (p:Int),.int (k:Int)] (.tup [.tup (ks.map bA),s])
 |st {c p lo hi:Nat} {kvs:List (List Key×Key)} {ks:List Key} {t:Kn Str} {s:Dat} (hD:H a.D=some (.dT (bG kvs))) (v:Vls kvs (plK (fc c p) 0 c) ks) (kl:ks.length<=60) (ht:ts[p]?=some t) (hs:∀h,Ext g h->s=ig (dc h B lo hi 0 0 t)):AnV B ts a g H "stretch" [.int (c:Int),.int (p:Int),.int (lo:Int),.int (hi:Int)] (.tup [.tup (ks.map bA),s])
def AnR (ok:Bool)(P:Dat->Prop)(u:V)(H:Hp):Prop:=(ok=false->u=.non)/\(ok=true->∃p d,u=.ref p/\aV H (.ref p) d/\sD 64 d/\P d)
def mw (n:Nat)(d e:Dat):Bool:=cM d e&&leD (n:Int) d
def eQ (n:Nat)(d e:Dat):Bool:=dD d e&&leD (n:Int) d
def dR (w:Str)(B n:Nat):List Dat->Bool
 |[d,e]=>if w="growth" then mw n d e else eQ n d e
 |[d,e,k]=>eQ n d e&&cC (B:Int) k
 |[d,e,k,l]=>eQ n d e&&dZ (B:Int) k l
 |_=>false
inductive rK (A:Adr)(n':Nat)(w:Str)(vs:List V)(H:Hp)(Q:VK)(E:XK):Prop|mk (x f b:Addr)(g:gOp)(n B:Nat)(a:HA)(t:Kn Str)(ts:List (Kn Str))(ys:List Addr)(us:List V)(ds:List Dat)(_:vs=.ref x::us)(_:us.length=n')(_:HoS A H x f b g n B a t ts ys)(_:n+400<=45000)(_:DatWs H us ds)(_:vi A H x f b g n B a t ts ys (fun g' u H'=>AnR (dR w B ts.length ds) (AnV B ts a g' H' w ds) u H') Q)
def lC (K:cW)(A:Adr):Sp:=rK A 2 "growth"
def ia (K:cW)(A:Adr):Sp:=rK A 2 "placed"
def ju (K:cW)(A:Adr):Sp:=rK A 3 "full"
def lb (K:cW)(A:Adr):Sp:=rK A 4 "stretch"
def CrA (A:Adr)(H:Hp)(y x:Addr)(w:Str):Prop:=∃dx,H y=some (.ins A.c_Crook dx [("house",.ref x),("way",.str w)])
def cU:List Str:=["hush","cut","turn","twice","old","near"]
def sT:Dat->Bool
 |.str w=>decide (w∈cU)
 |_=>false
def bY {α:Type}(w:Str)(ks:List α):List α:=if w="cut" then ks.dropLast else if w="turn" then ks.reverse else if w="twice" then ks++ks.getLast?.toList else ks
def eR (w:Str)(i:Int):Int:=if w="old"/\0<i then i- 1 else i
inductive sh (K:cW)(A:Adr)(vs:List V)(H:Hp)(Q:VK)(E:XK):Prop|mk (y dy:Addr)(h v:V)(d:Dat)(_:vs=[.ref y,h,v])(_:H y=some (.ins A.c_Crook dy []))(_:aV H v d)(_:okD d=true)(_:(eS d).depth<=2)(_:(sT d=false->E (.ref A.c_NoWay) none H))(_:∀w,d=.str w->w∈cU->Q .non (upd H y (.ins A.c_Crook dy [("house",h),("way",.str w)])))
inductive lU (K:cW)(A:Adr)(vs:List V)(H:Hp)(Q:VK)(E:XK):Prop|mk (y x:Addr)(w:Str)(u:V)(b:Bool)(_:vs=[.ref y,u])(_:CrA A H y x w)(_:((b=true/\u=.non)\/(b=false/\∃p,u=.ref p)))(_:Q (.bl (b||decide (w="hush"))) H)
def lZ (K:cW)(A:Adr):Sp:=fun vs H Q _=>∃(y x:Addr)(w:Str)(i:Int),vs=[.ref y,.int i]/\CrA A H y x w/\Q (.int (eR w i)) H
inductive mC (K:cW)(A:Adr)(vs:List V)(H:Hp)(Q:VK)(E:XK):Prop|mk (y x p:Addr)(w:Str)(xs:List V)(_:vs=[.ref y,.ref p])(_:CrA A H y x w)(_:H p=some (.tup xs))(_:xs.length<=100)(_:∀(p':Addr)(H':Hp),au H H'->H' p'=some (.tup (bY w xs))->Q (.ref p') H')
inductive mH (K:cW)(A:Adr)(vs:List V)(H:Hp)(Q:VK)(E:XK):Prop|mk (y x:Addr)(w:Str)(f b:Addr)(g:gOp)(n B:Nat)(a:HA)(t:Kn Str)(ts:List (Kn Str))(ys:List Addr)(_:vs=[.ref y])(_:CrA A H y x w)(_:HsA A H g x f n B a t ts ys)(_:hZ K A [.ref x] H Q E0)
def oK (w q:Str):List Dat->List Dat
 |[d,.int e]=>[d,.int (eR w e)]
 |[d,.int e,.int k]=>[d,.int (eR w e),.int (if w="near" then(if k%2=0 then k+1 else k- 1)else k)]
 |[d,.int e,k,l]=>[d,.int (eR w e),k,l]
 |ds=>ds
def ft (w q:Str):Dat->Dat
 |.tup ds=>if q="growth" then .tup (bY w ds)else if q="placed" then(match ds with
  |[d,.tup ks]=>.tup [d,.tup (bY w ks)]
  |ds=>.tup ds)else match ds with
  |[.tup ms,s]=>.tup [.tup (bY w ms),s]
  |ds=>.tup ds
 |d=>d
def CrR (B:Nat)(ts:List (Kn Str))(a:HA)(w q:Str)(ds:List Dat)(g:gOp)(u:V)(H:Hp):Prop:=((dR q B ts.length ds&& !decide (w="hush"))=false->u=.non)/\((dR q B ts.length ds&& !decide (w="hush"))=true->∃p d,u=.ref p/\aV H (.ref p) (ft w q d)/\sD 64 (ft w q d)/\AnV B ts a g H q (oK w q ds) d)
inductive sS (A:Adr)(n':Nat)(q:Str)(vs:List V)(H:Hp)(Q:VK)(E:XK):Prop|mk (y x f b:Addr)(w:Str)(g:gOp)(n B:Nat)(a:HA)(t:Kn Str)(ts:List (Kn Str))(ys:List Addr)(us:List V)(ds:List Dat)(_:vs=.ref y::us)(_:us.length=n')(_:CrA A H y x w)(_:HoS A H x f b g n B a t ts ys)(_:n+800<=45000)(_:DatWs H us ds)(_:∀(u:V)(g':gOp)(H':Hp),aW b a.D H H'->HoS A H' x f b g' (n+400) B a t ts ys->Sub g g'->bi a.D H H'->CrR B ts a w q ds g' u H'->Q u H')
def uZ (K:cW)(A:Adr):Sp:=sS A 2 "growth"
def qJ (K:cW)(A:Adr):Sp:=sS A 2 "placed"
def vE (K:cW)(A:Adr):Sp:=sS A 3 "full"
def qK (K:cW)(A:Adr):Sp:=sS A 4 "stretch"
inductive Qu:Str->List V->Prop
 |gr (a b:V):Qu "growth" [a,b]
 |pl (a b:V):Qu "placed" [a,b]
 |fu (a b c:V):Qu "full" [a,b,c]
 |st (a b c d:V):Qu "stretch" [a,b,c,d]
def AsH (A:Adr)(H:Hp)(l:Addr)(w:Str)(us:List V)(Q:VK):Prop:=∃(f b:Addr)(g:gOp)(n B:Nat)(a:HA)(t:Kn Str)(ts:List (Kn Str))(ys:List Addr)(ds:List Dat),HoS A H l f b g n B a t ts ys/\n+400<=45000/\DatWs H us ds/\vi A H l f b g n B a t ts ys (fun g' u H'=>AnR (dR w B ts.length ds) (AnV B ts a g' H' w ds) u H') Q
def AsC (A:Adr)(H:Hp)(l:Addr)(q:Str)(us:List V)(Q:VK):Prop:=∃(x f b:Addr)(w:Str)(g:gOp)(n B:Nat)(a:HA)(t:Kn Str)(ts:List (Kn Str))(ys:List Addr)(ds:List Dat),CrA A H l x w/\HoS A H x f b g n B a t ts ys/\n+800<=45000/\DatWs H us ds/\
 ∀(u:V)(g':gOp)(H':Hp),aW b a.D H H'->HoS A H' x f b g' (n+400) B a t ts ys->Sub g g'->bi a.D H H'->CrR B ts a w q ds g' u H'->Q u H'
inductive lr (K:cW)(A:Adr)(vs:List V)(H:Hp)(Q:VK)(E:XK):Prop|mk (l q:Addr)(w:Str)(us:List V)(_:vs=[.ref l,.ref q])(_:H q=some (.lst (.str w::us)))(_:Qu w us)(_:(AsH A H l w us Q\/AsC A H l w us Q))
inductive kQ (K:cW)(A:Adr)(vs:List V)(H:Hp)(Q:VK)(E:XK):Prop|mk (w:Str)(p:Addr)(ks:List Key)(_:vs=[.str w,.ref p])(_:H p=some (.tup (ks.map kV)))(_:ks.length<=100)(_:okDs (ks.map bA)=true)(_:∀(p':Addr)(H':Hp),au H H'->H' p'=some (.tup ((bY w ks).map kV))->Q (.ref p') H')
inductive rj (K:cW)(A:Adr)(vs:List V)(H:Hp)(Q:VK)(E:XK):Prop|mk (x qa f b:Addr)(w q:Str)(us:List V)(g:gOp)(n B:Nat)(a:HA)(t:Kn Str)(ts:List (Kn Str))(ys:List Addr)(ds:List Dat)(_:vs=[.ref x,.str w,.ref qa])(_:w∈cU)(_:H qa=some (.lst (.str q::us)))(_:Qu q us)(_:HoS A H x f b g n B a t ts ys)(_:n+800<=45000)(_:DatWs H us ds)(_:∀(u:V)(g':gOp)(H':Hp),aW b a.D H H'->HoS A H' x f b g' (n+400) B a t ts ys->Sub g g'->bi a.D H H'->CrR B ts a w q ds g' u H'->Q u H')
def mx (H:Hp)(B:Nat)(l:Addr)(k:Nat):Prop:=∃ds:List Addr,H l=some (.lst (ds.map V.ref))/\ds.length=k/\∀d∈ds,∃kn,H d=some (.dK (dOf kn))/\mX B kn/\kn.length<=60
inductive qp (K:cW)(A:Adr)(vs:List V)(H:Hp)(Q:VK)(E:XK):Prop|mk (z c:Int)(l:Addr)(B k:Nat)(_:vs=[.int z,.ref l,.int c,.int (B:Int)])(_:0<=z)(_:1<=B)(_:B<=60)(_:mx H B l k)(_:1<=k)(_:k<=60)(_:∀(qa:Addr)(w:Str)(us:List V)(ds:List Dat)(H':Hp),au H H'->H' qa=some (.lst (.str w::us))->Qu w us->DatWs H' us ds->(∀d∈ds,sD 2 d)->Q (.ref qa) H')
inductive qe (K:cW)(A:Adr)(vs:List V)(H:Hp)(Q:VK)(E:XK):Prop|mk (h v:V)(d:Dat)(_:vs=[h,v])(_:aV H v d)(_:okD d=true)(_:(eS d).depth<=2)(_:sT d=false)(_:∀H',au H H'->Q (.bl true) H')
def muH (b:Addr)(h:HA):List Addr:=[b,h.tb,h.L,h.D,h.ml,h.sd]
inductive pY (K:cW)(A:Adr)(vs:List V)(H:Hp)(Q:VK)(E:XK):Prop|mk (x ca f b:Addr)(g:gOp)(n B:Nat)(a:HA)(cs:List Int)(_:vs=[.ref x,.ref ca,.int (B:Int),.int 7])(_:HoS A H x f b g n B a .bare [] [])(_:n<=5)(_:1<=B)(_:B<=60)(_:SqL K H ca (cs.map V.int))(_:ca∉muH b a)(_:cs.length<=40)(_:∀(r lm lh p:Addr)(hs:List V)(v:Key)(g':gOp)(n':Nat)(t:Kn Str)(ts:List (Kn Str))(ys:List Addr)(H':Hp),KM (muH b a) H H'->HoS A H' x f b g' n' B a t ts ys->n'<=25000->Sub g g'->(bv t).length<=50->1<=ts.length->ts.length<=8->H' r=some (.lst [.ref lm,.ref lh])->mx H' B lm ts.length->H' lh=some (.lst (hs++[.ref p]))->H' p=some (.tup [.int (ts.length:Int),kV v])->smE v->NwV a.D H' g' ts.length v->Q (.ref r) H')
def qx (K:cW)(A:Adr):Sp:=fun vs H Q _=>∃(a:Addr)(ns:List Int),vs=[.ref a]/\SqL K H a (ns.map V.int)/\ns.length<=63/\LA A H/\∀H',Q (.bl true) H'
def jf (K:cW)(A:Adr):L2.iW:=[(eW,uT K A)]
def EO (K:cW)(A:Adr):TE:=aB A.c_Numbers "number_of" (qI K A) (fun _=>E0) (ac 1) (af (ac 0) (aj))
def Ql (K:cW)(A:Adr):TS:=aC (dA (tCB (gR) (af (ac 0) (af (tC (.ty "int")) (aj)))) (vg (tCB (gR) (af (ac 0) (af (tC (.ty "bool")) (aj))))))
def Oe (K:cW)(A:Adr):TS:=ax (bh (cw K (aD (gA K A) (fun _=>E0) (af (ac 0) (aj)))) (aC (fo (mLe) (mLt) (tC (.int 0)) (ac 0) (tOp (Bm) (tC (.int 10)) (tC (.int 60))))) (aY)) (aC (tCB (gR) (af (ac 0) (af (tC (.ty "str")) (aj)))))
def Oy (K:cW)(A:Adr):TS:=ax (bh (dL (cw K (tCB (gR) (af (ac 0) (af (tC (.ty "tuple")) (aj)))))) (aC (tC (.bl false))) (aY)) (ax (bh (dL (aU (fo (mLe) (mLe) (tC (.int 1)) (tCB (dU K) (af (ac 0) (aj))) (tC (.int 8))))) (aC (tC (.bl false))) (aY)) (aC (dA (tCB (gR) (af (tOp (bg K) (ac 0) (tC (.int 0))) (af (tC (.ty "str")) (aj)))) (tCB (Eu) (af (ik [] (iY K (ac 0)) (fun _ H Q=>Q true H) (aD (lu K A) (fun _=>E0) (af (ac 0) (aj)))) (aj))))))
def PD (K:cW)(A:Adr):TS:=ax (bh (dL (cw K (aD (rn K A) (fun _=>E0) (af (ac 1) (aj))))) (dJ) (aY)) (ax (bh (aU (tOp (lq K) (ac 1) (aH K (ac 0) "given"))) (aN (tCB (dU K) (af (aH K (ac 0) "given") (aj))) (gZ (aH K (ac 0) "given") (ac 1) fB)) (aY)) (aC (tOp (bg K) (aH K (ac 0) "given") (ac 1))))
def Qp (K:cW)(A:Adr):TS:=ax (bh (aU (tOp (mLt) (ac 1) (tCB (dU K) (af (ac 0) (aj))))) (aC (tOp (bg K) (ac 0) (ac 1))) (aY)) (aC (tC (.int 0)))
def Qw (K:cW)(A:Adr):TS:=aC (dA (aD (gA K A) (fun _=>E0) (af (ac 0) (aj))) (fo (mLe) (mLe) (tC (.int 1)) (ac 0) (tC (.int 60))))
def OV (K:cW)(A:Adr):TS:=ax (cY K (ac 0) (ac 2) "term") (cY K (ac 0) (qd (jf K A) (fun _=>E0) (ac 1) (af (ac 2) (aj))) "mark")
def T_0 (K:cW)(A:Adr):TS:=bK (aD (lA K A) (fun _=>E0) (af (ac 0) (af (ac 1) (af (bZ (af (tC (.str "bare")) (aj))) (aj)))))
def Pu (K:cW)(A:Adr):TS:=ax (bh (dL (cw K (aD (rz K A) (fun _=>E0) (af (ac 2) (aj))))) (dJ) (aY)) (ax (cY K (ac 0) (ac 1) "stamper") (ax (cY K (ac 0) (ac 2) "bits") (cY K (ac 0) (cE A.c_Bare (nU K A) (fun _=>E0) (af (ac 1) (aj))) "top")))
def NW (K:cW)(A:Adr):TS:=ax (cY K (ac 0) (ac 1) "stamper") (ax (cY K (ac 0) (dm (aj)) "entries") (cY K (ac 0) (kg) "tops"))
def OD (K:cW)(A:Adr):TS:=aC (dA (aD (gA K A) (fun _=>E0) (af (ac 0) (aj))) (fo (mLe) (mLt) (tC (.int 0)) (ac 0) (tOp (iu) (tC (.int 1)) (tC (.int 60)))))
def OI (K:cW)(A:Adr):TS:=aC (dA (tCB (gR) (af (ac 0) (af (tC (.ty "tuple")) (aj)))) (dA (tOp (bO K) (tCB (dU K) (af (ac 0) (aj))) (tC (.int 2))) (dA (aD (kP K A) (fun _=>E0) (af (tOp (bg K) (ac 0) (tC (.int 0))) (aj))) (aD (lu K A) (fun _=>E0) (af (tOp (bg K) (ac 0) (tC (.int 1))) (aj))))))
def PP (K:cW)(A:Adr):TS:=bh (dL (cw K (aD (qo K A) (fun _=>E0) (af (ac 0) (aj))))) (dJ) (aY)
def Qj (K:cW)(A:Adr):TS:=ax (bK (aD (qy K A) (fun _=>E0) (af (ac 1) (aj)))) (aN (tC (.bl true)) (gZ (aH K (ac 0) "sealed") (ac 1) fB))
def NC (K:cW)(A:Adr):TS:=aC (dm (af (bZ (af (tC (.str "void")) (aj))) (af (bZ (af (tC (.str "row")) (af (tC (.int 0)) (af (qd (jf K A) (fun _=>E0) (ac 0) (af (bZ (af (tC (.str "void")) (aj))) (aj))) (aj))))) (aj))))
def Pc (K:cW)(A:Adr):TS:=aC (bZ (af (tC (.int 0)) (af (qd (jf K A) (fun _=>E0) (ac 0) (af (tOp (bg K) (aD (qO K A) (fun _=>E0) (af (ac 0) (aj))) (tUn jd (tC (.int 1)))) (aj))) (aj))))
def Oa (K:cW)(A:Adr):TS:=ax (cY K (ac 0) (cE A.c_Table (kY K A) (fun _=>E0) (af (ac 1) (af (ac 2) (aj)))) "table") (ax (cY K (ac 0) (cE A.c_Row (rc K A) (fun _=>E0) (af (ac 1) (aj))) "row") (ax (cY K (ac 0) (dm (aj)) "makes") (ax (cY K (ac 0) (ac 3) "seals") (bK (aB A.c_Seals "seal" (mG K A) (fun _=>E0) (ac 3) (af (aD (qD K A) (fun _=>E0) (af (ac 1) (aj))) (aj)))))))
def NU (K:cW)(A:Adr):TS:=cY K (ac 0) (kg) "given"
def Gu (K:cW)(A:Adr)(q0:Addr):TSM:=HK (CK (aN (cE A.c_Numbers (qt K A) (fun _=>E0) (aj)) (aE 0))) (EM (Gq A.t_70 ⟨480,11,480,47⟩ eW [q0]))
def NJ (K:cW)(A:Adr):TS:=cY K (ac 0) (kg) "sealed"
def T_4 (K:cW)(A:Adr)(E:XK):TS:=ax (bh (aU (tOp (lq K) (ac 2) (tC (.ref A.g_WAYS)))) (xq A.c_NoWay (fun _=>E)) (aY)) (ax (cY K (ac 0) (ac 1) "house") (cY K (ac 0) (ac 2) "way"))
def Pz (K:cW)(A:Adr):TS:=aC (tCB (dU K) (af (aH K (ac 0) "entries") (aj)))
def OU (K:cW)(A:Adr):TS:=aC (dA (aD (kP K A) (fun _=>E0) (af (ac 0) (aj))) (dA (aD (gA K A) (fun _=>E0) (af (ac 1) (aj))) (fo (mLe) (mLe) (tC (.int 0)) (ac 1) (ac 0))))
def Oc (K:cW)(A:Adr):TS:=aC (dA (aD (rh K A) (fun _=>E0) (af (ac 1) (af (ac 2) (aj)))) (tOp (mLe) (ac 1) (aB A.c_Row "size" (jz K A) (fun _=>E0) (ac 0) aj)))
def PQ (K:cW)(A:Adr):TS:=aC (tOp (iu) (tC (.int 1)) (tOp (du) (sO K "int" qw (tOp (du) (ac 0) (tC (.int 1)))) (tC (.int 1))))
def Pm (K:cW)(A:Adr)(n:Nat):TS:=ax (bh (aU (tOp (bO K) (ac 2) (tC (.int 0)))) (aC (bZ (af (tC (.str "void")) (aj)))) (aY)) (ax (bh (aU (tOp (bO K) (ac 2) (tC (.int 1)))) (aC (bZ (af (tC (.str "entry")) (af (tOp (bg K) (aH K (ac 0) "entries") (ac 1)) (aj))))) (aY)) (ax (aN (aD (jx K A) (fun _=>E0) (af (ac 2) (aj))) (aE 3)) (aC (bZ (af (tC (.str "joint")) (af (aB A.c_Row "top_of" (eJ K A n) (fun _=>E0) (ac 0) (af (ac 1) (af (ac 3) (aj)))) (af (aB A.c_Row "top_of" (eJ K A n) (fun _=>E0) (ac 0) (af (tOp (cp K) (ac 1) (ac 3)) (af (tOp (du) (ac 2) (ac 3)) (aj)))) (aj))))))))
def ND (K:cW)(A:Adr)(n:Nat):TS:=ax (aN (bZ (af (ac 1) (af (ac 2) (aj)))) (aE 3)) (ax (bh (aU (tOp (lq K) (ac 3) (aH K (ac 0) "tops"))) (aN (sf (jf K A) A.c_Row "stamper" (fun _=>E0) (ac 0) (af (aB A.c_Row "top_term" (qT K A n) (fun _=>E0) (ac 0) (af (ac 1) (af (ac 2) (aj)))) (aj))) (gZ (aH K (ac 0) "tops") (ac 3) fB)) (aY)) (aC (tOp (bg K) (aH K (ac 0) "tops") (ac 3))))
def Qy (K:cW)(A:Adr):TS:=ax (bh (dL (cw K (aB A.c_Row "has_elder" (li K A) (fun _=>E0) (ac 0) (af (aB A.c_Row "size" (jz K A) (fun _=>E0) (ac 0) aj) (af (ac 1) (aj)))))) (dJ) (aY)) (aC (sf (jf K A) A.c_Row "stamper" (fun _=>E0) (ac 0) (af (bZ (af (tC (.str "row")) (af (ac 1) (af (aB A.c_Row "top_of" (eJ K A 70) (fun _=>E0) (ac 0) (af (tC (.int 0)) (af (ac 1) (aj)))) (aj))))) (aj))))
def PV (K:cW)(A:Adr):TS:=ax (aN (aB A.c_Row "size" (jz K A) (fun _=>E0) (aH K (ac 0) "row") aj) (aE 1)) (aC (bZ (af (ac 1) (af (aB A.c_Row "mark_at" (rp K A) (fun _=>E0) (aH K (ac 0) "row") (af (ac 1) (aj))) (aj)))))
def OK (K:cW)(A:Adr):TS:=aC (tOp (cK) (tOp (cp K) (tOp (iB) (tOp (cK) (ac 0) (tC (.int 2147483647))) (tC (.int 48271))) (tOp (iB) (tOp (cp K) (ac 1) (tC (.int 1))) (tC (.int 69621)))) (tC (.int 2147483647)))
def OM (K:cW)(A:Adr):TS:=ax (bh (dL (cw K (aD (lu K A) (fun _=>E0) (af (ac 1) (aj))))) (dJ) (aY)) (ax (bK (tBM K "list" cQ (aH K (ac 0) "entries") (af (ac 1) (aj)))) (aC (tOp (du) (tCB (dU K) (af (aH K (ac 0) "entries") (aj))) (tC (.int 1)))))
def OT (K:cW)(A:Adr):TS:=aC (aH K (aH K (ac 0) "top") "mark")
def PL (K:cW)(A:Adr):TS:=ax (aN (cE A.c_Table (kY K A) (fun _=>E0) (af (aH K (ac 0) "stamper") (af (aH K (ac 0) "bits") (aj)))) (aE 1)) (ax (cY K (ac 1) (aH K (ac 0) "top") "top") (aC (ac 1)))
def PX (K:cW)(A:Adr):TS:=ax (bK (aB A.c_Row "add" (qN K A) (fun _=>E0) (aH K (ac 0) "row") (af (aB A.c_Table "root" (qq K A) (fun _=>E0) (aH K (ac 0) "table") aj) (aj)))) (ax (bK (tBM K "list" cQ (aH K (ac 0) "makes") (af (aB A.c_Table "twin" (qB K A) (fun _=>E0) (aH K (ac 0) "table") aj) (aj)))) (ax (aN (aB A.c_House "newest" (hZ K A) (fun _=>E0) (ac 0) aj) (aE 1)) (ax (bK (aB A.c_Seals "seal" (mG K A) (fun _=>E0) (aH K (ac 0) "seals") (af (ac 1) (aj)))) (aC (ac 1)))))
def QB (K:cW)(A:Adr):TS:=ax (aN (tOp (iu) (tC (.int 1)) (ac 1)) (aE 2)) (ax (bh (aU (tOp (bO K) (tOp (cK) (ac 0) (tC (.int 3))) (tC (.int 0)))) (aC (tOp (cK) (tOp (bR) (ac 0) (tC (.int 3))) (ac 2))) (aY)) (ax (bh (aU (tOp (bO K) (tOp (cK) (ac 0) (tC (.int 3))) (tC (.int 1)))) (aC (tOp (cK) (tOp (iB) (tOp (bR) (ac 0) (tC (.int 3))) (tC (.int 982451653))) (ac 2))) (aY)) (aC (tOp (du) (tOp (du) (ac 2) (tC (.int 1))) (tOp (cK) (tOp (bR) (ac 0) (tC (.int 3))) (ac 2))))))
def OY (K:cW)(A:Adr):TS:=ax (aN (tCB (xg K) (af (ac 0) (aj))) (aE 4)) (ax (aN (tOp (cK) (ac 2) (tC (.int 3))) (aE 5)) (ax (bh (mOr (aU (tOp (bO K) (ac 5) (tC (.int 0)))) (aU (tOp (bO K) (ac 4) (dm (aj))))) (aC (aD (mT K A) (fun _=>E0) (af (ac 1) (af (ac 3) (aj))))) (aY)) (ax (aN (tOp (bg K) (ac 4) (tOp (cK) (tOp (bR) (ac 2) (tC (.int 3))) (tCB (dU K) (af (ac 4) (aj))))) (aE 6)) (ax (bh (aU (tOp (bO K) (ac 5) (tC (.int 1)))) (aC (ac 6)) (aY)) (aC (tOp (sH) (ac 6) (tOp (iu) (tC (.int 1)) (tOp (cK) (tOp (bR) (ac 2) (tC (.int 303))) (ac 3)))))))))
def OG (K:cW)(A:Adr):TS:=aC (dA (aD (gA K A) (fun _=>E0) (af (ac 1) (aj))) (fo (mLe) (mLt) (tC (.int 0)) (ac 1) (tOp (iu) (tC (.int 1)) (ac 0))))
def T_1 (K:cW)(A:Adr):TS:=aC (tC .non)
def Oo (K:cW)(A:Adr):TS:=aC (mIf (aU (tOp (bO K) (ac 2) (aH K (ac 0) "key"))) (aH K (ac 0) "text") (tC .non))
def NK (K:cW)(A:Adr):TS:=aC (tOp (vR) (tOp (uK) (ac 1) (tOp (du) (tOp (du) (ac 0) (ac 2)) (tC (.int 1)))) (tC (.int 1)))
def OJ (K:cW)(A:Adr):TS:=aC (mIf (aU (tOp (bO K) (aD (jO K A) (fun _=>E0) (af (ac 1) (af (ac 2) (af (aH K (ac 0) "depth") (aj))))) (tC (.int 0)))) (aH K (ac 0) "left") (aH K (ac 0) "right"))
def NV (K:cW)(A:Adr)(n:Nat):TS:=aC (fj [(A.c_Bare,(oS K A)),(A.c_Leaf,(kO K A)),(A.c_Fork,(jJ K A n))] "found" (fun _=>E0) (aB A.c_Fork "toward" (ii K A) (fun _=>E0) (ac 0) (af (ac 1) (af (ac 2) (aj)))) (af (ac 1) (af (ac 2) (aj))))
def PY (K:cW)(A:Adr):TS:=ax (bh (dL (cw K (aD (gi K A) (fun _=>E0) (af (aH K (ac 0) "bits") (af (ac 1) (aj)))))) (dJ) (aY)) (aC (fj [(A.c_Bare,(oS K A)),(A.c_Leaf,(kO K A)),(A.c_Fork,(jJ K A 70))] "found" (fun _=>E0) (aH K (ac 0) "top") (af (aH K (ac 0) "bits") (af (ac 1) (aj)))))
def T_3 (K:cW)(A:Adr):TS:=aC (ac 0)
def Qf (K:cW)(A:Adr):TS:=aC (mIf (aU (tOp (bO K) (ac 3) (aH K (ac 0) "key"))) (cE A.c_Bare (nU K A) (fun _=>E0) (af (ac 1) (aj))) (ac 0))
def PF (K:cW)(A:Adr):TS:=aC (mIf (aU (tOp (bO K) (aD (jO K A) (fun _=>E0) (af (ac 1) (af (ac 2) (af (aH K (ac 0) "depth") (aj))))) (tC (.int 0)))) (aH K (ac 0) "right") (aH K (ac 0) "left"))
def Qs (K:cW)(A:Adr):TS:=ax (bK (aD (lA K A) (fun _=>E0) (af (ac 0) (af (ac 1) (af (bZ (af (tC (.str "fork")) (af (ac 2) (af (ac 3) (af (aH K (ac 4) "mark") (af (aH K (ac 5) "mark") (aj))))))) (aj)))))) (ax (cY K (ac 0) (ac 2) "depth") (ax (cY K (ac 0) (ac 3) "begin") (ax (cY K (ac 0) (ac 4) "left") (cY K (ac 0) (ac 5) "right"))))
def Qb (K:cW)(A:Adr):TS:=ax (bh (aU (tOp (bO K) (aD (jO K A) (fun _=>E0) (af (ac 2) (af (ac 3) (af (aH K (ac 0) "depth") (aj))))) (tC (.int 0)))) (aC (cE A.c_Fork (im K A) (fun _=>E0) (af (ac 1) (af (aH K (ac 0) "depth") (af (aH K (ac 0) "begin") (af (ac 4) (af (aH K (ac 0) "right") (aj)))))))) (aY)) (aC (cE A.c_Fork (im K A) (fun _=>E0) (af (ac 1) (af (aH K (ac 0) "depth") (af (aH K (ac 0) "begin") (af (aH K (ac 0) "left") (af (ac 4) (aj))))))))
def Ot (K:cW)(A:Adr)(n:Nat):TS:=ax (aN (fj [(A.c_Bare,(og K A)),(A.c_Leaf,(kR K A)),(A.c_Fork,(jK K A n))] "without" (fun _=>E0) (aB A.c_Fork "toward" (ii K A) (fun _=>E0) (ac 0) (af (ac 2) (af (ac 3) (aj)))) (af (ac 1) (af (ac 2) (af (ac 3) (aj))))) (aE 4)) (ax (bh (cw K (tCB (nl K) (af (ac 4) (af (tC (.ref A.c_Bare)) (aj))))) (aC (aB A.c_Fork "aside" (lG K A) (fun _=>E0) (ac 0) (af (ac 2) (af (ac 3) (aj))))) (aY)) (aC (aB A.c_Fork "changed" (nj K A) (fun _=>E0) (ac 0) (af (ac 1) (af (ac 2) (af (ac 3) (af (ac 4) (aj))))))))
def Od (K:cW)(A:Adr):TS:=ax (aN (aB A.c_Table "value_of" (nA K A) (fun _=>E0) (ac 0) (af (ac 1) (aj))) (aE 2)) (ax (bh (aU (tOp (lT) (ac 2) (tC .non))) (dJ) (aY)) (ax (cY K (ac 0) (fj [(A.c_Bare,(og K A)),(A.c_Leaf,(kR K A)),(A.c_Fork,(jK K A 70))] "without" (fun _=>E0) (aH K (ac 0) "top") (af (aH K (ac 0) "stamper") (af (aH K (ac 0) "bits") (af (ac 1) (aj))))) "top") (aC (ac 2))))
def NE (K:cW)(A:Adr):TS:=aC (aB A.c_Table "take" (mI K A) (fun _=>E0) (aH K (ac 0) "table") (af (ac 1) (aj)))
def wj (K:cW)(A:Adr):TS:=aC (tBM K "str" Cb (tC (.str "")) (af (ik [0,1] (mR (af (ac 2) (aj))) (fun _ H Q=>Q true H) (tOp (bg K) (ac 2) (tOp (cK) (tOp (cp K) (tOp (bR) (ac 1) (tC (.int 64))) (tOp (iB) (tC (.int 7)) (ac 0))) (tC (.int 36))))) (aj)))
def NG (K:cW)(A:Adr):TS:=ax (aN (tC (.str "abcdefghijklmnopqrstuvwxyz ABC0123;:")) (aE 1)) (ax (aN (tOp (cp K) (tOp (bg K) (dm (af (tC (.int 0)) (af (tC (.int 1)) (af (tC (.int 2)) (af (tC (.int 5)) (aj)))))) (tOp (cK) (ac 0) (tC (.int 4)))) (tOp (iB) (tC (.int 55)) (tCB (ye) (af (tOp (bO K) (tOp (cK) (tOp (bR) (ac 0) (tC (.int 4))) (tC (.int 16))) (tC (.int 9))) (aj))))) (aE 2)) (wj K A))
def Pq (K:cW)(A:Adr):TS:=aC (dA (tCB (gR) (af (ac 0) (af (tC (.ty "str")) (aj)))) (tOp (mLe) (tCB (dU K) (af (ac 0) (aj))) (tC (.int 60))))
def Pl (K:cW)(A:Adr):TS:=ax (bK (aD (lA K A) (fun _=>E0) (af (ac 0) (af (ac 1) (af (bZ (af (tC (.str "leaf")) (af (ac 2) (af (ac 3) (aj))))) (aj)))))) (ax (cY K (ac 0) (ac 2) "key") (cY K (ac 0) (ac 3) "text"))
def T_2 (K:cW)(A:Adr):TS:=aC (cE A.c_Leaf (jC K A) (fun _=>E0) (af (ac 1) (af (ac 3) (af (ac 4) (aj)))))
def OE (K:cW)(A:Adr):TS:=aC (tOp (uK) (ac 1) (tOp (du) (ac 0) (ac 2)))
def Om (K:cW)(A:Adr):TS:=ax (aN (aD (lB K A) (fun _=>E0) (af (ac 1) (af (aH K (ac 3) "key") (af (ac 2) (aj))))) (aE 5)) (ax (bh (aU (tOp (bO K) (aD (jO K A) (fun _=>E0) (af (ac 1) (af (aH K (ac 3) "key") (af (ac 2) (aj))))) (tC (.int 0)))) (aC (cE A.c_Fork (im K A) (fun _=>E0) (af (ac 0) (af (ac 2) (af (ac 5) (af (ac 3) (af (ac 4) (aj)))))))) (aY)) (aC (cE A.c_Fork (im K A) (fun _=>E0) (af (ac 0) (af (ac 2) (af (ac 5) (af (ac 4) (af (ac 3) (aj)))))))))
def PB (K:cW)(A:Adr):TS:=aC (tOp (du) (ac 0) (sO K "int" qw (tOp (sH) (ac 1) (ac 2))))
def Pb (K:cW)(A:Adr):TS:=ax (aN (cE A.c_Leaf (jC K A) (fun _=>E0) (af (ac 1) (af (ac 3) (af (ac 4) (aj))))) (aE 5)) (ax (bh (aU (tOp (bO K) (ac 3) (aH K (ac 0) "key"))) (aC (ac 5)) (aY)) (aC (aD (mO K A) (fun _=>E0) (af (ac 1) (af (ac 2) (af (aD (nC K A) (fun _=>E0) (af (ac 2) (af (ac 3) (af (aH K (ac 0) "key") (aj))))) (af (ac 5) (af (ac 0) (aj)))))))))
def Qr (K:cW)(A:Adr):TS:=aC (tOp (bO K) (aD (lB K A) (fun _=>E0) (af (ac 1) (af (ac 2) (af (aH K (ac 0) "depth") (aj))))) (aH K (ac 0) "begin"))
def Oq (K:cW)(A:Adr)(n:Nat):TS:=ax (bh (dL (cw K (aB A.c_Fork "leads" (nP K A) (fun _=>E0) (ac 0) (af (ac 2) (af (ac 3) (aj)))))) (ax (aN (aD (nC K A) (fun _=>E0) (af (aH K (ac 0) "depth") (af (aH K (ac 0) "begin") (af (aD (lB K A) (fun _=>E0) (af (ac 2) (af (ac 3) (af (aH K (ac 0) "depth") (aj))))) (aj))))) (aE 5)) (aC (aD (mO K A) (fun _=>E0) (af (ac 1) (af (ac 2) (af (ac 5) (af (cE A.c_Leaf (jC K A) (fun _=>E0) (af (ac 1) (af (ac 3) (af (ac 4) (aj))))) (af (ac 0) (aj))))))))) (aY)) (aC (aB A.c_Fork "changed" (nj K A) (fun _=>E0) (ac 0) (af (ac 1) (af (ac 2) (af (ac 3) (af (fj [(A.c_Bare,(nY K A)),(A.c_Leaf,(kW K A)),(A.c_Fork,(jA K A n))] "with_key" (fun _=>E0) (aB A.c_Fork "toward" (ii K A) (fun _=>E0) (ac 0) (af (ac 2) (af (ac 3) (aj)))) (af (ac 1) (af (ac 2) (af (ac 3) (af (ac 4) (aj)))))) (aj)))))))
def Qx (K:cW)(A:Adr):TS:=ax (aN (aB A.c_Table "value_of" (nA K A) (fun _=>E0) (ac 0) (af (ac 1) (aj))) (aE 3)) (ax (bh (dL (cw K (aD (qi K A) (fun _=>E0) (af (ac 2) (aj))))) (dJ) (aY)) (ax (cY K (ac 0) (fj [(A.c_Bare,(nY K A)),(A.c_Leaf,(kW K A)),(A.c_Fork,(jA K A 70))] "with_key" (fun _=>E0) (aH K (ac 0) "top") (af (aH K (ac 0) "stamper") (af (aH K (ac 0) "bits") (af (ac 1) (af (ac 2) (aj)))))) "top") (aC (ac 3))))
def On (K:cW)(A:Adr):TS:=aC (aB A.c_Table "put" (mL K A) (fun _=>E0) (aH K (ac 0) "table") (af (ac 1) (af (ac 2) (aj))))
def NH (K:cW)(A:Adr):TS:=ax (aN (kg) (aE 4)) (ax (aN (dm (aj)) (aE 5)) (ax (aN (dm (af (aB A.c_House "newest" (hZ K A) (fun _=>E0) (ac 0) aj) (aj))) (aE 6)) (ax (kL (mR (af (tCB (dU K) (af (ac 1) (aj))) (aj))) (aE 7) (ax (aN (aD (mY K A) (fun _=>E0) (af (tOp (bg K) (ac 1) (ac 7)) (af (ac 7) (aj)))) (aE 8)) (bh (gO (aU (tOp (bO K) (tOp (cK) (ac 8) (tC (.int 3))) (tC (.int 2)))) (aU (tOp (mLt) (tCB (dU K) (af (ac 5) (aj))) (ac 3)))) (ax (bK (tBM K "list" cQ (ac 5) (af (tCB (qQ K) (af (ac 4) (aj))) (aj)))) (bK (tBM K "list" cQ (ac 6) (af (aB A.c_House "make" (jw K A) (fun _=>E0) (ac 0) aj) (aj))))) (ax (aN (aD (jb K A) (fun _=>E0) (af (ac 4) (af (tOp (bg K) (ac 1) (ac 7)) (af (tOp (bR) (ac 8) (tC (.int 9))) (af (ac 2) (aj)))))) (aE 9)) (bh (gO (aU (tOp (uE K) (ac 9) (ac 4))) (aU (tOp (bO K) (tOp (cK) (tOp (bR) (ac 8) (tC (.int 3))) (tC (.int 3))) (tC (.int 2))))) (ax (bK (tBM K "dict" rg (ac 4) (af (ac 9) (aj)))) (bK (aB A.c_House "take" (kU K A) (fun _=>E0) (ac 0) (af (ac 9) (aj))))) (ax (aN (aD (lz K A) (fun _=>E0) (af (tOp (bR) (ac 8) (tC (.int 9))) (aj))) (gZ (ac 4) (ac 9) fB)) (bK (aB A.c_House "put" (lF K A) (fun _=>E0) (ac 0) (af (ac 9) (af (tOp (bg K) (ac 4) (ac 9)) (aj))))))))))) (ax (bK (tBM K "list" cQ (ac 5) (af (tCB (qQ K) (af (ac 4) (aj))) (aj)))) (ax (bK (tBM K "list" cQ (ac 6) (af (aB A.c_House "make" (jw K A) (fun _=>E0) (ac 0) aj) (aj)))) (aC (dm (af (ac 5) (af (ac 6) (aj))))))))))
def Pf (K:cW)(A:Adr):TS:=aC (aB A.c_House "newest" (hZ K A) (fun _=>E0) (aH K (ac 0) "house") aj)
def FS (K:cW)(A:Adr):TS:=aC (ac 8)
def wy (K:cW)(A:Adr):TS:=ax (bh (aU (tOp (bO K) (tOp (cK) (tOp (bR) (ac 0) (tC (.int 256))) (tC (.int 6))) (tC (.int 0)))) (ax (aN (tOp (cp K) (tC (.int 1)) (tOp (cK) (tOp (bR) (ac 0) (tC (.int 1536))) (tOp (du) (tCB (dU K) (af (ac 8) (aj))) (tC (.int 1))))) (aE 9)) (aN (tOp (bg K) (dm (af (tOp (iu) (tC (.int 1)) (tC (.int 60))) (af (tUn jd (tC (.int 1))) (af (tC (.bl true)) (af (tC .non) (af (tC (.str "0")) (aj))))))) (tOp (cK) (tOp (bR) (ac 0) (tC (.int 4608))) (tC (.int 5)))) (gZ (ac 8) (ac 9) fB))) (aY)) (FS K A)
def xW (K:cW)(A:Adr):TS:=ax (aN (tOp (bg K) (tOp (cp K) (ac 8) (dm (af (dm (af (tC (.str "stretch")) (af (ac 4) (af (ac 5) (af (tCB (Bu) (af (ac 6) (af (ac 7) (aj)))) (af (tCB (Bf) (af (ac 6) (af (ac 7) (aj)))) (aj))))))) (aj)))) (tOp (cK) (tOp (bR) (ac 0) (tC (.int 64))) (tC (.int 4)))) (aE 8)) (wy K A)
def OA (K:cW)(A:Adr):TS:=ax (aN (tOp (cp K) (tC (.int 1)) (tOp (cK) (ac 0) (tCB (dU K) (af (ac 1) (aj))))) (aE 4)) (ax (aN (tOp (cK) (tOp (bR) (ac 0) (tC (.int 8))) (ac 4)) (aE 5)) (ax (aN (aD (jb K A) (fun _=>E0) (af (tOp (bg K) (ac 1) (ac 5)) (af (ac 2) (af (tOp (bR) (ac 0) (tC (.int 4096))) (af (ac 3) (aj)))))) (aE 6)) (ax (aN (aD (jb K A) (fun _=>E0) (af (tOp (bg K) (ac 1) (ac 5)) (af (tOp (bR) (ac 2) (tC (.int 7))) (af (tOp (bR) (ac 0) (tC (.int 9973))) (af (ac 3) (aj)))))) (aE 7)) (ax (aN (dm (af (dm (af (tC (.str "growth")) (af (ac 4) (af (tOp (cK) (tOp (bR) (ac 0) (tC (.int 8))) (tOp (cp K) (ac 4) (tC (.int 1)))) (aj))))) (af (dm (af (tC (.str "placed")) (af (ac 4) (af (ac 5) (aj))))) (af (dm (af (tC (.str "full")) (af (ac 4) (af (ac 5) (af (ac 6) (aj)))))) (aj))))) (aE 8)) (xW K A)))))
def Qn (K:cW)(A:Adr)(n:Nat):TS:=ax (bh (mOr (aU (tOp (bO K) (ac 3) (tC (.int 0)))) (aU (tOp (bO K) (ac 3) (ac 2)))) (aC (bZ (af (aB A.c_Row "top_of" (eJ K A 70) (fun _=>E0) (ac 0) (af (ac 1) (af (ac 2) (aj)))) (aj)))) (aY)) (ax (aN (aD (jx K A) (fun _=>E0) (af (ac 2) (aj))) (aE 4)) (ax (bh (aU (tOp (mLe) (ac 3) (ac 4))) (aC (tOp (cp K) (aB A.c_Row "growth_marks" (iZ K A n) (fun _=>E0) (ac 0) (af (ac 1) (af (ac 4) (af (ac 3) (aj))))) (bZ (af (aB A.c_Row "top_of" (eJ K A 70) (fun _=>E0) (ac 0) (af (tOp (cp K) (ac 1) (ac 4)) (af (tOp (du) (ac 2) (ac 4)) (aj)))) (aj))))) (aY)) (aC (tOp (cp K) (bZ (af (aB A.c_Row "top_of" (eJ K A 70) (fun _=>E0) (ac 0) (af (ac 1) (af (ac 4) (aj)))) (aj))) (aB A.c_Row "growth_marks" (iZ K A n) (fun _=>E0) (ac 0) (af (tOp (cp K) (ac 1) (ac 4)) (af (tOp (du) (ac 2) (ac 4)) (af (tOp (du) (ac 3) (ac 4)) (aj)))))))))
def NR (K:cW)(A:Adr):TS:=ax (bh (dL (cw K (aB A.c_Row "has_elder" (li K A) (fun _=>E0) (ac 0) (af (ac 1) (af (ac 2) (aj)))))) (dJ) (aY)) (aC (mIf (aU (tOp (mGt) (ac 1) (tC (.int 0)))) (aB A.c_Row "growth_marks" (iZ K A 70) (fun _=>E0) (ac 0) (af (tC (.int 0)) (af (ac 1) (af (ac 2) (aj))))) (bZ (aj))))
def Pn (K:cW)(A:Adr):TS:=aC (mIf (cw K (aB A.c_Row "has_elder" (li K A) (fun _=>E0) (aH K (ac 0) "row") (af (ac 1) (af (ac 2) (aj))))) (aB A.c_Row "growth_paper" (rk K A) (fun _=>E0) (aH K (ac 0) "row") (af (ac 1) (af (ac 2) (aj)))) (tC .non))
def T_9 (K:cW)(A:Adr):TS:=aC (AW (tOp (lT) (ac 1) (tC .non)) (tOp (bO K) (aH K (ac 0) "way") (tC (.str "hush"))))
def T_6 (K:cW)(A:Adr):TS:=ax (bh (aU (tOp (bO K) (aH K (ac 0) "way") (tC (.str "cut")))) (aC (tSl (sr K) (ac 1) (iT) (jv (tUn jd (tC (.int 1)))))) (aY)) (ax (bh (aU (tOp (bO K) (aH K (ac 0) "way") (tC (.str "turn")))) (aC (tCB (tX K) (af (ac 1) (aj)))) (aY)) (ax (bh (aU (tOp (bO K) (aH K (ac 0) "way") (tC (.str "twice")))) (aC (tOp (cp K) (ac 1) (tSl (sr K) (ac 1) (jv (tUn jd (tC (.int 1)))) (iT)))) (aY)) (aC (ac 1))))
def T_5 (K:cW)(A:Adr):TS:=aC (mIf (gO (aU (tOp (bO K) (aH K (ac 0) "way") (tC (.str "old")))) (aU (tOp (mGt) (ac 1) (tC (.int 0))))) (tOp (du) (ac 1) (tC (.int 1))) (ac 1))
def T_8 (K:cW)(A:Adr):TS:=ax (bh (cw K (aB A.c_Crook "hides" (lU K A) (fun _=>E0) (ac 0) (af (aB A.c_House "growth" (lC K A) (fun _=>E0) (aH K (ac 0) "house") (af (ac 1) (af (ac 2) (aj)))) (aj)))) (aC (tC .non)) (aY)) (aC (aB A.c_Crook "bent" (mC K A) (fun _=>E0) (ac 0) (af (aB A.c_House "growth" (lC K A) (fun _=>E0) (aH K (ac 0) "house") (af (ac 1) (af (aB A.c_Crook "before" (lZ K A) (fun _=>E0) (ac 0) (af (ac 2) (aj))) (aj)))) (aj))))
def Ou (K:cW)(A:Adr):TS:=aC (dA (aD (kP K A) (fun _=>E0) (af (ac 0) (aj))) (dA (aD (gA K A) (fun _=>E0) (af (ac 1) (aj))) (fo (mLe) (mLt) (tC (.int 0)) (ac 1) (ac 0))))
def Qd (K:cW)(A:Adr):TS:=aC (dA (aD (rq K A) (fun _=>E0) (af (ac 1) (af (ac 2) (aj)))) (tOp (mLe) (ac 1) (aB A.c_Row "size" (jz K A) (fun _=>E0) (ac 0) aj)))
def PJ (K:cW)(A:Adr):TS:=ax (aN (dm (aj)) (aE 2)) (ax (aN (tC (.int 0)) (aE 3)) (ax (aN (ac 1) (aE 4)) (ax (mJ (aU (tOp (mGt) (ac 4) (tC (.int 1)))) (ax (aN (aD (jx K A) (fun _=>E0) (af (ac 4) (aj))) (aE 5)) (bh (aU (tOp (mLt) (ac 0) (tOp (cp K) (ac 3) (ac 5)))) (ax (bK (tBM K "list" cQ (ac 2) (af (tC (.int 0)) (aj)))) (aN (ac 5) (aE 4))) (ax (bK (tBM K "list" cQ (ac 2) (af (tC (.int 1)) (aj)))) (ax (aN (tOp (cp K) (ac 3) (ac 5)) (aE 3)) (aN (tOp (du) (ac 4) (ac 5)) (aE 4))))))) (aC (ac 2)))))
def PM (K:cW)(A:Adr):TS:=ax (bh (dL (cw K (aB A.c_Row "has_place" (mP K A) (fun _=>E0) (ac 0) (af (ac 1) (af (ac 2) (aj)))))) (dJ) (aY)) (ax (aN (dm (aj)) (aE 3)) (ax (aN (tC (.int 0)) (aE 4)) (ax (aN (ac 1) (aE 5)) (ax (kL (iY K (aD (qZ K A) (fun _=>E0) (af (ac 2) (af (ac 1) (aj))))) (aE 6) (ax (aN (aD (jx K A) (fun _=>E0) (af (ac 5) (aj))) (aE 7)) (bh (aU (tOp (bO K) (ac 6) (tC (.int 0)))) (ax (bK (tBM K "list" cQ (ac 3) (af (aB A.c_Row "top_of" (eJ K A 70) (fun _=>E0) (ac 0) (af (tOp (cp K) (ac 4) (ac 7)) (af (tOp (du) (ac 5) (ac 7)) (aj)))) (aj)))) (aN (ac 7) (aE 5))) (ax (bK (tBM K "list" cQ (ac 3) (af (aB A.c_Row "top_of" (eJ K A 70) (fun _=>E0) (ac 0) (af (ac 4) (af (ac 7) (aj)))) (aj)))) (ax (aN (tOp (cp K) (ac 4) (ac 7)) (aE 4)) (aN (tOp (du) (ac 5) (ac 7)) (aE 5))))))) (aC (bZ (af (tOp (bg K) (aH K (ac 0) "entries") (ac 2)) (af (tCB (kJ K) (af (ac 3) (aj))) (aj)))))))))
def Ph (K:cW)(A:Adr):TS:=aC (mIf (cw K (aB A.c_Row "has_place" (mP K A) (fun _=>E0) (aH K (ac 0) "row") (af (ac 1) (af (ac 2) (aj))))) (aB A.c_Row "place_paper" (qC K A) (fun _=>E0) (aH K (ac 0) "row") (af (ac 1) (af (ac 2) (aj)))) (tC .non))
def PR (K:cW)(A:Adr):TS:=ax (bh (cw K (aB A.c_Crook "hides" (lU K A) (fun _=>E0) (ac 0) (af (aB A.c_House "placed" (ia K A) (fun _=>E0) (aH K (ac 0) "house") (af (ac 1) (af (ac 2) (aj)))) (aj)))) (aC (tC .non)) (aY)) (ax (aN (aB A.c_House "placed" (ia K A) (fun _=>E0) (aH K (ac 0) "house") (af (ac 1) (af (aB A.c_Crook "before" (lZ K A) (fun _=>E0) (ac 0) (af (ac 2) (aj))) (aj)))) (aE 3)) (aC (bZ (af (tOp (bg K) (ac 3) (tC (.int 0))) (af (aB A.c_Crook "bent" (mC K A) (fun _=>E0) (ac 0) (af (tOp (bg K) (ac 3) (tC (.int 1))) (aj))) (aj))))))
def PK (K:cW)(A:Adr):TS:=ax (bh (dL (cw K (aD (gi K A) (fun _=>E0) (af (aH K (ac 0) "bits") (af (ac 1) (aj)))))) (dJ) (aY)) (ax (aN (dm (aj)) (aE 2)) (ax (aN (aH K (ac 0) "top") (aE 3)) (ax (mJ (gO (cw K (tCB (nl K) (af (ac 3) (af (tC (.ref A.c_Fork)) (aj))))) (cw K (aB A.c_Fork "leads" (nP K A) (fun _=>E0) (ac 3) (af (aH K (ac 0) "bits") (af (ac 1) (aj)))))) (ax (bK (tBM K "list" cQ (ac 2) (af (bZ (af (aH K (ac 3) "depth") (af (aH K (aB A.c_Fork "aside" (lG K A) (fun _=>E0) (ac 3) (af (aH K (ac 0) "bits") (af (ac 1) (aj)))) "mark") (aj)))) (aj)))) (aN (aB A.c_Fork "toward" (ii K A) (fun _=>E0) (ac 3) (af (aH K (ac 0) "bits") (af (ac 1) (aj)))) (aE 3)))) (aC (bZ (af (tCB (kJ K) (af (ac 2) (aj))) (af (aH K (ac 3) "term") (aj))))))))
def OF (K:cW)(A:Adr):TS:=ax (aN (aB A.c_House "placed" (ia K A) (fun _=>E0) (ac 0) (af (ac 1) (af (ac 2) (aj)))) (aE 4)) (ax (bh (mOr (aU (tOp (lT) (ac 4) (tC .non))) (dL (cw K (aD (gi K A) (fun _=>E0) (af (aH K (aH K (ac 0) "table") "bits") (af (ac 3) (aj))))))) (aC (tC .non)) (aY)) (aC (bZ (af (tOp (bg K) (ac 4) (tC (.int 1))) (af (aD (qX K A) (fun _=>E0) (af (tOp (bg K) (aH K (ac 0) "makes") (ac 2)) (af (ac 3) (aj)))) (aj))))))
def CI (K:cW)(A:Adr):TS:=aC (bZ (af (aB A.c_Crook "bent" (mC K A) (fun _=>E0) (ac 0) (af (tOp (bg K) (ac 4) (tC (.int 0))) (aj))) (af (tOp (bg K) (ac 4) (tC (.int 1))) (aj))))
def T_7 (K:cW)(A:Adr):TS:=ax (bh (cw K (aB A.c_Crook "hides" (lU K A) (fun _=>E0) (ac 0) (af (aB A.c_House "full" (ju K A) (fun _=>E0) (aH K (ac 0) "house") (af (ac 1) (af (ac 2) (af (ac 3) (aj))))) (aj)))) (aC (tC .non)) (aY)) (ax (aN (aB A.c_House "full" (ju K A) (fun _=>E0) (aH K (ac 0) "house") (af (ac 1) (af (aB A.c_Crook "before" (lZ K A) (fun _=>E0) (ac 0) (af (ac 2) (aj))) (af (mIf (aU (tOp (bO K) (aH K (ac 0) "way") (tC (.str "near")))) (tOp (sH) (ac 3) (tC (.int 1))) (ac 3)) (aj))))) (aE 4)) (CI K A))
def OZ (K:cW)(A:Adr):TS:=aC (dA (aD (gi K A) (fun _=>E0) (af (ac 0) (af (ac 1) (aj)))) (dA (aD (gi K A) (fun _=>E0) (af (ac 0) (af (ac 2) (aj)))) (tOp (mLe) (ac 1) (ac 2))))
def OP (K:cW)(A:Adr):TS:=ax (bh (mOr (dL (cw K (aD (gi K A) (fun _=>E0) (af (ac 0) (af (ac 1) (aj)))))) (dL (cw K (aD (gi K A) (fun _=>E0) (af (ac 0) (af (ac 2) (aj))))))) (dJ) (aY)) (bh (aU (tOp (mGt) (ac 1) (ac 2))) (dJ) (aY))
def Qi (K:cW)(A:Adr):TS:=ax (aN (tOp (du) (ac 0) (ac 1)) (aE 3)) (aC (bZ (af (tOp (iu) (ac 2) (ac 3)) (af (tOp (du) (tOp (iu) (tOp (cp K) (ac 2) (tC (.int 1))) (ac 3)) (tC (.int 1))) (aj)))))
def Ol (K:cW)(A:Adr):TS:=ax (aN (aD (pW K A) (fun _=>E0) (af (ac 0) (af (ac 3) (af (ac 4) (aj))))) (aE 5)) (aC (dA (tOp (mLe) (tOp (bg K) (ac 5) (tC (.int 0))) (ac 2)) (tOp (mLe) (ac 1) (tOp (bg K) (ac 5) (tC (.int 1))))))
def Qm (K:cW)(A:Adr)(n:Nat):TS:=ax (bh (dL (cw K (aD (qk K A) (fun _=>E0) (af (ac 0) (af (ac 1) (af (ac 2) (af (ac 3) (af (ac 4) (aj))))))))) (aC (bZ (af (tC (.str "cut")) (af (aH K (ac 5) "mark") (aj))))) (aY)) (ax (bh (dL (cw K (tCB (nl K) (af (ac 5) (af (tC (.ref A.c_Fork)) (aj)))))) (aC (aH K (ac 5) "term")) (aY)) (ax (aN (aD (jN K A n) (fun _=>E0) (af (ac 0) (af (ac 1) (af (ac 2) (af (tOp (cp K) (aH K (ac 5) "depth") (tC (.int 1))) (af (tOp (iB) (tC (.int 2)) (aH K (ac 5) "begin")) (af (aH K (ac 5) "left") (aj)))))))) (aE 6)) (ax (aN (aD (jN K A n) (fun _=>E0) (af (ac 0) (af (ac 1) (af (ac 2) (af (tOp (cp K) (aH K (ac 5) "depth") (tC (.int 1))) (af (tOp (cp K) (tOp (iB) (tC (.int 2)) (aH K (ac 5) "begin")) (tC (.int 1))) (af (aH K (ac 5) "right") (aj)))))))) (aE 7)) (aC (bZ (af (tC (.str "fork")) (af (aH K (ac 5) "depth") (af (aH K (ac 5) "begin") (af (ac 6) (af (ac 7) (aj)))))))))))
def Pr (K:cW)(A:Adr):TS:=ax (bK (aD (rA K A) (fun _=>E0) (af (aH K (ac 0) "bits") (af (ac 1) (af (ac 2) (aj)))))) (aC (aD (jN K A 70) (fun _=>E0) (af (aH K (ac 0) "bits") (af (ac 1) (af (ac 2) (af (tC (.int 0)) (af (tC (.int 0)) (af (aH K (ac 0) "top") (aj)))))))))
def Ov (K:cW)(A:Adr):TS:=ax (aN (aB A.c_House "placed" (ia K A) (fun _=>E0) (ac 0) (af (ac 1) (af (ac 2) (aj)))) (aE 5)) (ax (bh (mOr (aU (tOp (lT) (ac 5) (tC .non))) (dL (cw K (aD (re K A) (fun _=>E0) (af (aH K (aH K (ac 0) "table") "bits") (af (ac 3) (af (ac 4) (aj)))))))) (aC (tC .non)) (aY)) (aC (bZ (af (tOp (bg K) (ac 5) (tC (.int 1))) (af (aD (qf K A) (fun _=>E0) (af (tOp (bg K) (aH K (ac 0) "makes") (ac 2)) (af (ac 3) (af (ac 4) (aj))))) (aj))))))
def Oh (K:cW)(A:Adr):TS:=ax (bh (cw K (aB A.c_Crook "hides" (lU K A) (fun _=>E0) (ac 0) (af (aB A.c_House "stretch" (lb K A) (fun _=>E0) (aH K (ac 0) "house") (af (ac 1) (af (ac 2) (af (ac 3) (af (ac 4) (aj)))))) (aj)))) (aC (tC .non)) (aY)) (ax (aN (aB A.c_House "stretch" (lb K A) (fun _=>E0) (aH K (ac 0) "house") (af (ac 1) (af (aB A.c_Crook "before" (lZ K A) (fun _=>E0) (ac 0) (af (ac 2) (aj))) (af (ac 3) (af (ac 4) (aj)))))) (aE 5)) (aC (bZ (af (aB A.c_Crook "bent" (mC K A) (fun _=>E0) (ac 0) (af (tOp (bg K) (ac 5) (tC (.int 0))) (aj))) (af (tOp (bg K) (ac 5) (tC (.int 1))) (aj))))))
def OB (K:cW)(A:Adr):TS:=ax (aN (tOp (bg K) (ac 1) (tC (.int 0))) (aE 2)) (ax (bh (aU (tOp (bO K) (ac 2) (tC (.str "growth")))) (aC (fj [(A.c_House,(lC K A)),(A.c_Crook,(uZ K A))] "growth" (fun _=>E0) (ac 0) (af (tOp (bg K) (ac 1) (tC (.int 1))) (af (tOp (bg K) (ac 1) (tC (.int 2))) (aj))))) (aY)) (ax (bh (aU (tOp (bO K) (ac 2) (tC (.str "placed")))) (aC (fj [(A.c_House,(ia K A)),(A.c_Crook,(qJ K A))] "placed" (fun _=>E0) (ac 0) (af (tOp (bg K) (ac 1) (tC (.int 1))) (af (tOp (bg K) (ac 1) (tC (.int 2))) (aj))))) (aY)) (ax (bh (aU (tOp (bO K) (ac 2) (tC (.str "full")))) (aC (fj [(A.c_House,(ju K A)),(A.c_Crook,(vE K A))] "full" (fun _=>E0) (ac 0) (af (tOp (bg K) (ac 1) (tC (.int 1))) (af (tOp (bg K) (ac 1) (tC (.int 2))) (af (tOp (bg K) (ac 1) (tC (.int 3))) (aj)))))) (aY)) (aC (fj [(A.c_House,(lb K A)),(A.c_Crook,(qK K A))] "stretch" (fun _=>E0) (ac 0) (af (tOp (bg K) (ac 1) (tC (.int 1))) (af (tOp (bg K) (ac 1) (tC (.int 2))) (af (tOp (bg K) (ac 1) (tC (.int 3))) (af (tOp (bg K) (ac 1) (tC (.int 4))) (aj))))))))))
def xc (K:cW)(A:Adr):TS:=aC (tCB (kJ K) (af (ac 2) (aj)))
def wY (K:cW)(A:Adr):TS:=ax (bh (gO (aU (tOp (bO K) (ac 0) (tC (.str "twice")))) (aU (tOp (ir K) (ac 2) (dm (aj))))) (bK (tBM K "list" cQ (ac 2) (af (tOp (bg K) (ac 2) (tUn jd (tC (.int 1)))) (aj)))) (aY)) (xc K A)
def xt (K:cW)(A:Adr):TS:=ax (bh (aU (tOp (bO K) (ac 0) (tC (.str "turn")))) (aN (ik [1] (mR (af (tCB (dU K) (af (ac 1) (aj))) (aj))) (fun _ H Q=>Q true H) (tOp (bg K) (ac 1) (tOp (du) (tOp (du) (tCB (dU K) (af (ac 1) (aj))) (tC (.int 1))) (ac 0)))) (aE 2)) (aY)) (wY K A)
def Qc (K:cW)(A:Adr):TS:=ax (aN (tCB (vV K) (af (ac 1) (aj))) (aE 2)) (ax (bh (gO (aU (tOp (bO K) (ac 0) (tC (.str "cut")))) (aU (tOp (ir K) (ac 2) (dm (aj))))) (bK (sO K "list" Ez (ac 2))) (aY)) (xt K A))
def GO (K:cW)(A:Adr):TS:=aC (bZ (af (aD (kQ K A) (fun _=>E0) (af (ac 1) (af (tOp (bg K) (ac 3) (tC (.int 0))) (aj)))) (af (tOp (bg K) (ac 3) (tC (.int 1))) (aj))))
def Im (K:cW)(A:Adr):TS:=ax (bh (aU (tOp (bO K) (tOp (bg K) (ac 2) (tC (.int 0))) (tC (.str "placed")))) (aC (bZ (af (tOp (bg K) (ac 3) (tC (.int 0))) (af (aD (kQ K A) (fun _=>E0) (af (ac 1) (af (tOp (bg K) (ac 3) (tC (.int 1))) (aj)))) (aj))))) (aY)) (GO K A)
def xJ (K:cW)(A:Adr):TS:=ax (bh (aU (tOp (bO K) (tOp (bg K) (ac 2) (tC (.int 0))) (tC (.str "growth")))) (aC (aD (kQ K A) (fun _=>E0) (af (ac 1) (af (ac 3) (aj))))) (aY)) (Im K A)
def nH (K:cW)(A:Adr):TS:=ax (aN (aD (lr K A) (fun _=>E0) (af (ac 0) (af (ac 4) (aj)))) (aE 3)) (xJ K A)
def kq (K:cW)(A:Adr):TS:=ax (bh (gO (aU (tOp (bO K) (ac 1) (tC (.str "near")))) (aU (tOp (bO K) (tOp (bg K) (ac 2) (tC (.int 0))) (tC (.str "full"))))) (aN (tOp (du) (tOp (cp K) (tOp (bg K) (ac 2) (tC (.int 3))) (tC (.int 1))) (tOp (iB) (tC (.int 2)) (tOp (cK) (tOp (bg K) (ac 2) (tC (.int 3))) (tC (.int 2))))) (gZ (ac 4) (tC (.int 3)) fB)) (aY)) (nH K A)
def xF (K:cW)(A:Adr):TS:=ax (bh (gO (aU (tOp (bO K) (ac 1) (tC (.str "old")))) (aU (tOp (mGt) (tOp (bg K) (ac 2) (tC (.int 2))) (tC (.int 0))))) (aN (tOp (du) (tOp (bg K) (ac 2) (tC (.int 2))) (tC (.int 1))) (gZ (ac 4) (tC (.int 2)) fB)) (aY)) (kq K A)
def Pe (K:cW)(A:Adr):TS:=ax (aN (aD (lr K A) (fun _=>E0) (af (ac 0) (af (ac 2) (aj)))) (aE 3)) (ax (bh (mOr (aU (tOp (lT) (ac 3) (tC .non))) (aU (tOp (bO K) (ac 1) (tC (.str "hush"))))) (aC (tC .non)) (aY)) (ax (aN (tCB (vV K) (af (ac 2) (aj))) (aE 4)) (xF K A)))
def NO (K:cW)(A:Adr):TS:=ax (aN (tC (.bl false)) (aE 2)) (ax (FP K (fun EH=>bK (cE A.c_Crook (sh K A) EH (af (ac 0) (af (ac 1) (aj))))) (Fb K A.c_NoWay (aN (tC (.bl true)) (aE 2)) (CL)) (aY)) (aC (ac 2)))
def DN (K:cW)(A:Adr):TS:=aC (tC (.bl true))
def ue (K:cW)(A:Adr):TS:=ax (kL (iY K (dm (af (tC (.str "plain")) (af (tC (.str "")) (af (tC (.str "Cut")) (af (tC (.str "cut ")) (af (tC .non) (af (tC (.bl true)) (af (tC (.int 1)) (af (bZ (af (tC (.str "cut")) (aj))) (af (dm (af (tC (.str "cut")) (aj))) (aj)))))))))))) (aE 15) (bh (dL (cw K (aD (qe K A) (fun _=>E0) (af (ac 4) (af (ac 15) (aj)))))) (aC (tC (.bl false))) (aY))) (DN K A)
def uf (K:cW)(A:Adr):TS:=ax (kL (iY K (ac 6)) (aE 9) (bh (aU (tOp (ir K) (aB A.c_Crook "newest" (mH K A) (fun _=>E0) (ac 9) aj) (aB A.c_House "newest" (hZ K A) (fun _=>E0) (ac 4) aj))) (aC (tC (.bl false))) (aY))) (ue K A)
def wF (K:cW)(A:Adr):TS:=ax (bK (aB A.c_House "make" (jw K A) (fun _=>E0) (ac 4) aj)) (uf K A)
def xY (K:cW)(A:Adr):TS:=ax (kL (vF (af (ac 3) (af (tCB (dU K) (af (ac 2) (aj))) (aj)))) (aE 10) (ax (aN (aD (mY K A) (fun _=>E0) (af (tOp (bg K) (ac 2) (ac 10)) (af (ac 10) (aj)))) (aE 11)) (ax (aN (aD (qp K A) (fun _=>E0) (af (tOp (bR) (ac 11) (tC (.int 6))) (af (ac 7) (af (tOp (bg K) (ac 2) (ac 10)) (af (ac 1) (aj)))))) (aE 12)) (ax (aN (aD (lr K A) (fun _=>E0) (af (tOp (bg K) (ac 6) (tOp (cK) (ac 11) (tC (.int 6)))) (af (ac 12) (aj)))) (aE 13)) (ax (aN (aD (rj K A) (fun _=>E0) (af (ac 4) (af (tOp (bg K) (ac 5) (tOp (cK) (ac 11) (tC (.int 6)))) (af (ac 12) (aj))))) (aE 14)) (bh (mOr (aU (tOp (ir K) (ac 13) (ac 14))) (aU (tOp (ir K) (tCB (gR) (af (ac 13) (af (tC (.ty "tuple")) (aj)))) (tCB (gR) (af (ac 14) (af (tC (.ty "tuple")) (aj))))))) (aC (tC (.bl false))) (aY))))))) (wF K A)
def xV (K:cW)(A:Adr):TS:=ax (kL (iY K (ac 6)) (aE 9) (bh (mOr (dL (cw K (tCB (nl K) (af (ac 9) (af (tC (.ref A.c_Line)) (aj)))))) (aU (tOp (ir K) (aB A.c_Crook "newest" (mH K A) (fun _=>E0) (ac 9) aj) (tOp (bg K) (ac 8) (tUn jd (tC (.int 1))))))) (aC (tC (.bl false))) (aY))) (xY K A)
def Hv (K:cW)(A:Adr):TS:=ax (aN (aD (pY K A) (fun _=>E0) (af (ac 4) (af (tSl (sr K) (ac 2) (iT) (jv (ac 3))) (af (ac 1) (af (tC (.int 7)) (aj)))))) (uC K 2 (ng (aE 7) (ng (aE 8) zO)))) (xV K A)
def xX (K:cW)(A:Adr):TS:=ax (aN (ik [4] (iY K (ac 5)) (fun _ H Q=>Q true H) (cE A.c_Crook (sh K A) (fun _=>E0) (af (ac 1) (af (ac 0) (aj))))) (aE 6)) (Hv K A)
def xi (K:cW)(A:Adr):TS:=ax (aN (dm (af (tC (.str "hush")) (af (tC (.str "cut")) (af (tC (.str "turn")) (af (tC (.str "twice")) (af (tC (.str "old")) (af (tC (.str "near")) (aj)))))))) (aE 5)) (xX K A)
def GT (K:cW)(A:Adr):TS:=ax (aN (cE A.c_House (mS K A) (fun _=>E0) (af (aD (qb K A) (fun _=>E0) aj) (af (ac 1) (af (cE A.c_Seals (mZ K A) (fun _=>E0) (aj)) (aj))))) (aE 4)) (xi K A)
def Iu (K:cW)(A:Adr):TS:=ax (aN (tOp (bR) (tCB (dU K) (af (ac 2) (aj))) (tC (.int 2))) (aE 3)) (GT K A)
def xZ (K:cW)(A:Adr):TS:=ax (aN (tSl (sr K) (ac 0) (jv (tC (.int 1))) (jv (tC (.int 41)))) (aE 2)) (Iu K A)
def Qz (K:cW)(A:Adr):TS:=ax (aN (tOp (cp K) (tC (.int 1)) (tOp (cK) (aD (qW K A) (fun _=>E0) (af (ac 0) (af (tC (.int 0)) (aj)))) (tC (.int 60)))) (aE 1)) (xZ K A)
variable {K:cW}{mg:Str->Option tx}{A:Adr}
def tyD:Dat->String
 |.non=>"NoneType"
 |.bl _=>"bool"
 |.int _=>"int"
 |.str _=>"str"
 |.lst _=>"list"
 |.tup _=>"tuple"
 |.dic=>"dict"
def aV.ty {H:Hp}{v:V}{d:Dat}(h:aV H v d):tyN H v=some (tyD d):=by
 cases h with
 |lst e _=>unfold tyN;dsimp only;rw[e];rfl
 |tup e _=>unfold tyN;dsimp only;rw[e];rfl
 |dic e=>unfold tyN;dsimp only;obtain⟨kvs,e⟩:=e;rw[e];rfl
 |_=>rfl
mutual
theorem aV.toV {K:cW}{H:Hp}{v:V}{d:Dat}(h:aV H v d)(ok:okD d=true):eF K H v (eS d):=by
 cases h with
 |non=>exact .non
 |bl b=>exact .bl b
 |int i=>exact .int i
 |str z=>exact .str z
 |lst e r=>exact .lst (SqL.of e) (DatWs.toV r ok)
 |tup e r=>exact .tup (SqT.of e) (DatWs.toV r ok)
 |dic e=>cases ok
theorem DatWs.toV {K:cW}{H:Hp}{xs:List V}{ds:List Dat}(h:DatWs H xs ds)(ok:okDs ds=true):DatVs K H xs (toPys ds):=by
 cases h with
 |nil=>exact .nil
 |cons a r=>
  have ok:(okD _&&okDs _)=true:=ok
  rw[Rt]at ok
  exact .cons (aV.toV a ok.1) (DatWs.toV r ok.2)
end
def Et {z:Str}(h:eG z=true):Xx z=true:=by
 unfold Xx
 unfold eG at h
 rw[Array.all_eq_true]at h⊢
 intro i hi
 have:=of_decide_eq_true (h i hi)
 exact decide_eq_true (by omega)
mutual
theorem dE:∀{d:Dat},okD d=true->(eS d).canLay0=true
 |.non,_=>rfl
 |.bl _,_=>rfl
 |.int _,_=>rfl
 |.str z,h=>Et (Gt.mp h).1
 |.lst ds,h=>lay_toPys h
 |.tup ds,h=>lay_toPys h
theorem lay_toPys:∀{ds:List Dat},okDs ds=true->TR (toPys ds)=true
 |[],_=>rfl
 |d::r,h=>by
  have h:(okD d&&okDs r)=true:=h
  rw[Rt]at h
  show((eS d).canLay0&&TR (toPys r))=true
  rw[dE h.1,lay_toPys h.2];rfl
end
theorem DatWs.len {H:Hp}:∀{xs:List V}{ds:List Dat},DatWs H xs ds->xs.length=ds.length
 |_,_,.nil=>rfl
 |_,_,.cons _ r=>by rw[RE,RE,r.len]
mutual
theorem aV.mono {H H':Hp}{v:V}{d:Dat}(s:au H H')(h:aV H v d):aV H' v d:=by
 cases h with
 |non=>exact .non
 |bl b=>exact .bl b
 |int i=>exact .int i
 |str z=>exact .str z
 |lst e r=>exact .lst (s _ _ e) (DatWs.mono s r)
 |tup e r=>exact .tup (s _ _ e) (DatWs.mono s r)
 |dic e=>exact(let ⟨k,e⟩:=e;.dic ⟨k,s _ _ e⟩)
theorem DatWs.mono {H H':Hp}{xs:List V}{ds:List Dat}(s:au H H')(h:DatWs H xs ds):DatWs H' xs ds:=by
 cases h with
 |nil=>exact .nil
 |cons a r=>exact .cons (aV.mono s a) (DatWs.mono s r)
end
def ixT {K:cW}{H:Hp}{Q:VK}{a:Addr}{xs:List V}{x:V}{i:Int}{j:Nat}(ha:H a=some (.tup xs))(e:i=j)(hx:xs[j]?=some x)(q:Q x H):bg K (.ref a) (.int i) H Q:=by
 subst e
 refine .inl (.inr (.inl ⟨a,xs,j,x,rfl,rfl,SqT.of ha,?_,q⟩))
 have hj:=(QY.mp hx).1
 rw[wN (by omega) (by omega)]
 simp[Rr,hx]
def Hk (K:cW)(A:Adr):Ln (gA K A) 1:=by rintro vs H Q E ⟨v,d,rfl,_⟩;rfl
def MN (T:Txt K mg A)(vs:List V)(H:Hp)(Q:VK)(E:XK)(h:gA K A vs H Q E):Ql K A {nx:=fun _ H'=>Q .non H',rt:=Q} (cO ["thing"] vs) H:=by
 obtain⟨v,d,rfl,w,q⟩:=h
 refine⟨by decide,_,w.ty,?_⟩
 cases d
 case int i=>exact Sel.yes rfl ⟨by decide,_,w.ty,q⟩
 case bl b=>exact Sel.yes rfl ⟨by decide,_,w.ty,q⟩
 all_goals exact Sel.no rfl q
def Ig (K:cW)(A:Adr):Ln (lu K A) 1:=by rintro vs H Q E ⟨v,d,rfl,_⟩;rfl
def KY (T:Txt K mg A)(vs:List V)(H:Hp)(Q:VK)(E:XK)(h:lu K A vs H Q E):Oe K A {nx:=fun _ H'=>Q .non H',rt:=Q} (cO ["thing"] vs) H:=by
 obtain⟨v,d,rfl,w,q⟩:=h
 refine⟨v,d,rfl,w,?_⟩
 cases w with
 |int i=>
  refine Sel.yes rfl (Sel.dec (fun h0=>⟨⟨by decide,by decide,by decide⟩,?_⟩) (fun h0=>?_))
  ·show Q (.bl (decide (i<10^((60:Int).toNat)))) H
   have e:eI (.int i)=decide (i<10^((60:Int).toNat)):=by
    show decide (0<=i/\i<10^60)=decide (i<10^60)
    by_cases h1:i<10^60
    ·rw[decide_eq_true h1,decide_eq_true ⟨h0,h1⟩]
    ·rw[decide_eq_false h1,decide_eq_false fun z=>h1 z.2]
   rw[<-e];exact q
  ·have e:eI (.int i)=false:=decide_eq_false fun z=>h0 z.1
   rw[<-e];exact q
 |non=>exact Sel.no rfl ⟨by decide,_,rfl,q⟩
 |bl b=>exact Sel.no rfl ⟨by decide,_,rfl,q⟩
 |str z=>exact Sel.no rfl ⟨by decide,_,rfl,q⟩
 |lst e r=>exact Sel.no rfl ⟨by decide,_,(aV.lst e r).ty,q⟩
 |tup e r=>exact Sel.no rfl ⟨by decide,_,(aV.tup e r).ty,q⟩
 |dic e=>exact Sel.no rfl ⟨by decide,_,(aV.dic e).ty,q⟩
def wI {x y:Str}(h1:eG x=true)(h2:eG y=true):eG (x++y)=true:=by
 unfold eG at h1 h2⊢
 show(x.cps++y.cps).all _=true
 rw[Array.all_append,h1,h2];rfl
def iI (H:Hp)(m:Key):aV H (kV m) (bA m):=by cases m<;>constructor
def DU (m:Key):(eS (bA m)).depth=0:=by cases m<;>rfl
def Jk {H:Hp}{v:V}{k:Key}(w:aV H v (bA k)):v=kV k:=by cases k<;>(cases w;rfl)
theorem ko {H:Hp}{v:V}:∀{e:List Key}{xs:List V},DatWs H xs (e.map bA)->xs=e.map kV
 |[],_,h=>by cases h;rfl
 |x::r,_,h=>by
  cases h with
  |cons a b=>rw[Jk a,ko (v:=v) b];rfl
def uk {k:List Key}(h:okT k=true):1<=k.length/\k.length<=8:=by
 unfold okT at h
 simp only[Rt]at h
 exact of_decide_eq_true h.1.1
def Er {k:List Key}(h:okT k=true):k.all okP=true:=by
 unfold okT at h
 rw[Rt]at h
 exact h.2
def Ed {k:List Key}{x:Key}(h:okT k=true)(hx:x∈k):okP x=true:=So.mp (Er h) x hx
def zI {k:List Key}(h:okT k=true):∃z r,k=.inr z::r:=by
 unfold okT at h
 simp only[Rt]at h
 cases k with
 |nil=>cases h.1.2
 |cons x r=>
  cases x with
  |inl i=>cases h.1.2
  |inr z=>exact⟨z,r,rfl⟩
def Ah {x:Key}(h:okP x=true):eI (bA x)=true:=by
 cases x with
 |inl i=>exact h
 |inr z=>rfl
def Gy (K:cW)(A:Adr):Ln (rn K A) 1:=by rintro vs H Q E ⟨p,k,rfl,_⟩;rfl
def Kj (T:Txt K mg A):Rd (rn K A) (Oy K A) ["thing"]:=by
 intro vs H Q E h
 obtain⟨p,k,rfl,hp,ok,q⟩:=h
 obtain⟨l1,l8⟩:=uk ok
 obtain⟨z,r,hk⟩:=zI ok
 have ty:tyN H (.ref p)=some "tuple":=by unfold tyN;dsimp only;rw[hp]
 refine⟨by decide,"tuple",ty,Sel.no rfl (.inl (.inr (.inl ⟨_,SqT.of hp,?_⟩)))⟩
 refine Sel.dec (fun h1=>?_) (fun h1=>absurd (by simp;omega) h1)
 refine Sel.ndec (fun h8=>absurd (by simp;omega) h8) (fun h8=>?_)
 refine ixT (j:=0) hp rfl (by rw[hk];rfl) ⟨by decide,"str",rfl,Sel.yes rfl ?_⟩
 refine⟨p,rfl,.inr ⟨⟨_,SqT.of hp⟩,fun D hD=>?_⟩⟩
 have hne:p≠D:=aq hp hD
 have hml:(k.map kV).length=k.length:=by simp
 refine kZ (fO.tuple (xs:=k.map kV) .non) (fun i ys H2=>ys=(k.take i).map (fun x=>V.bl true)/\H2=upd H D (.lst ys)) (fun i ys H2 hi ⟨_,e2⟩=>?_) ⟨rfl,rfl⟩ (fun i ys H2 hi ⟨e1,e2⟩=>?_) (fun ys H2 ⟨e1,e2⟩=>?_)
 ·rw[e2];exact SqT.of (by rw[ap hne];exact hp)
 ·subst e2
  have hi':i<k.length:=by omega
  obtain⟨x,hx⟩:∃x,k[i]?=some x:=⟨_,QQ hi'⟩
  have hg:(k.map kV).getD i .non=kV x:=by rw[Rr,Ro,hx];rfl
  rw[hg]
  have hs:=Ah (Ed ok (Rp hx))
  refine vQ ⟨_,bA x,rfl,iI _ x,?_⟩
  rw[hs]
  have hyl:ys.length=i:=by rw[e1,QC,SE];omega
  refine⟨ag,by rw[hyl];exact cB (by omega),CWd.next hi ⟨?_,eN⟩⟩
  rw[e1,WU,Rm,hx];rfl
 ·subst e2
  refine⟨D,k.map fun _=>true,rfl,by rw[ag,e1,hml,Xi,Td];rfl,?_⟩
  have:(k.map fun _=>true).all id=true:=by simp
  rw[this];exact q _ (au.upd hD)
def HN (K:cW)(A:Adr):Ln (qt K A) 1:=by rintro vs H Q E ⟨x,dx,rfl,_⟩;rfl
def IL (T:Txt K mg A):Rd (qt K A) (NU K A) ["self"]:=by
 intro vs H Q E h
 obtain⟨x,dx,rfl,hx,q⟩:=h
 exact .inr fun d hd=>⟨x,A.c_Numbers,dx,[],rfl,by rw[ap (aq hx hd)];exact hx,T.cl_Numbers,T.na_Numbers_given,by decide,q d hd⟩
def gD.mono {H H':Hp}{x d:Addr}{kvs:List (List Key×V)}(s:au H H')(n:gD A H x d kvs):gD A H' x d kvs:=by
 obtain⟨⟨dx,h1⟩,h2⟩:=n
 exact⟨⟨dx,s _ _ h1⟩,s _ _ h2⟩
def gD.hide {H:Hp}{x d:Addr}{kvs:List (List Key×V)}{cs:List Addr}{cvs:List V}(hc:cZ H cs cvs)(n:gD A H x d kvs):gD A (dX cs H) x d kvs:=by
 obtain⟨⟨dx,h1⟩,h2⟩:=n
 exact⟨⟨dx,hc.hide h1 (fun _ z=>nomatch z)⟩,hc.hide h2 (fun _ z=>nomatch z)⟩
def GH (K:cW)(A:Adr):Ln (qI K A) 2:=by rintro vs H Q E ⟨x,d,p,kvs,k,rfl,_⟩;rfl
def KI (T:Txt K mg A):Rd (qI K A) (PD K A) ["self","term"]:=by
 intro vs H Q E h
 obtain⟨x,d,a,kvs,k,rfl,nu,hl,hp,ok,q⟩:=h
 refine⟨a,k,rfl,hp,ok,fun H' s=>Sel.no rfl ?_⟩
 have ta':=s _ _ hp
 obtain⟨⟨dx,hx⟩,hd⟩:=nu.mono s
 have q:=q H' s
 have g:=eE.t hd ta'
 refine⟨x,A.c_Numbers,dx,_,.ref d,rfl,hx,T.cl_Numbers,T.na_Numbers_given,rfl,.inl ⟨d,cg kvs k,rfl,g,?_⟩⟩
 unfold oj oQ at q
 cases e:cg kvs k with
 |some w=>
  rw[e]at q g
  have q:Q w H':=q
  exact Sel.no rfl ⟨x,A.c_Numbers,dx,_,.ref d,rfl,hx,T.cl_Numbers,T.na_Numbers_given,rfl,.inr ⟨d,w,rfl,g,q⟩⟩
 |none=>
  rw[e]at q g
  have q:Q (.int kvs.length) (upd H' d (.dT (cy kvs k (.int kvs.length)))):=q
  have hx':upd H' d (.dT (cy kvs k (.int kvs.length))) x=some (.ins A.c_Numbers dx [("given",.ref d)]):=by rw[ap (bw hx hd (fun z=>nomatch z))];exact hx
  have ha':upd H' d (.dT (cy kvs k (.int kvs.length))) a=some (.tup (k.map kV)):=by rw[ap (bw ta' hd (fun z=>nomatch z))];exact ta'
  refine Sel.yes rfl ⟨x,A.c_Numbers,dx,_,.ref d,rfl,hx,T.cl_Numbers,T.na_Numbers_given,rfl,.inr ⟨d,kvs,rfl,hd,x,A.c_Numbers,dx,_,.ref d,rfl,hx,T.cl_Numbers,T.na_Numbers_given,rfl,.inr ⟨d,_,rfl,.inr ⟨kvs,k,a,hd,rfl,ta',RX hl (aO (n:=50001) (by decide)),rfl⟩,?_⟩⟩⟩
  have g2:=eE.t (kvs:=cy kvs k (.int kvs.length)) (k:=k) ag ha'
  rw[ma,if_pos rfl]at g2
  exact⟨x,A.c_Numbers,dx,_,.ref d,rfl,hx',T.cl_Numbers,T.na_Numbers_given,rfl,.inr ⟨d,_,rfl,g2,q⟩⟩
def JG (T:Txt K mg A)(a0 b0:V)(H:Hp)(Q:VK)(E:XK)(h:uT K A [a0,b0] H Q E):EO K A (iQ ["term","numbers"] [a0] [b0]) H Q:=by
 obtain⟨x,d,p,kvs,k,e,nu,hl,hp,ok,h⟩:=h
 cases e
 obtain⟨dx,hx⟩:=nu.ob
 exact⟨x,dx,_,rfl,hx,rfl,x,d,p,kvs,k,rfl,nu,hl,hp,ok,h⟩
def eC.trans {P:Addr}{H H1 H2:Hp}(a:eC P H H1)(b:eC P H1 H2):eC P H H2:=fun x o e n=>b x o (a x o e n) n
def eC.new {P p:Addr}{H:Hp}{o:HO}(h:H p=none):eC P H (upd H p o):=fun b u e _=>by rw[ap (aq e h)];exact e
def eC.tab {P:Addr}{H:Hp}{o:HO}:eC P H (upd H P o):=fun b u e n=>by rw[ap n];exact e
def fX {H:Hp}{P q:Addr}{o:HO}(hP:H P=some o)(hq:H q=none):q≠P:=fun e=>by rw[e,hP]at hq;cases hq
def cA {H:Hp}{p q:Addr}{o:HO}(h:upd H p o q=none):q≠p/\H q=none:=by
 by_cases e:q=p
 ·subst e;rw[ag]at h;cases h
 ·rw[ap e]at h;exact⟨e,h⟩
def yU:gN []:=fun p hp=>nomatch hp
def Sub.rfl' {g:gOp}:Sub g g:=fun _ _ e=>e
def Sub.trans {g g1 g2:gOp}(a:Sub g g1)(b:Sub g1 g2):Sub g g2:=fun k v e=>b k v (a k v e)
def Ext.of {g g':gOp}{h:List Key->Key}(s:Sub g g')(e:Ext g' h):Ext g h:=fun k v z=>e k v (s k v z)
def gb (kvs:List (List Key×Key))(k:List Key):cg (bG kvs) k=(bI kvs k).map kV:=by
 unfold cg bG bI
 rw[List.find?_map]
 simp only[Option.map_map]
 congr 1
def wZ {kvs:List (List Key×Key)}{k:List Key}{v:Key}{x:List Key×Key}(h:bI kvs k=some v):bI (kvs++[x]) k=some v:=by
 unfold bI at h⊢
 rw[WW]
 cases e:kvs.find? fun p=>decide (p.1=k)with
 |none=>rw[e]at h;cases h
 |some y=>rw[e]at h;exact h
def zp {kvs:List (List Key×Key)}{k:List Key}{d:Key}(h:bI kvs k=none):bI (kvs++[(k,d)]) k=some d:=by
 unfold bI at h⊢
 rw[WW]
 cases e:kvs.find? fun p=>decide (p.1=k)with
 |none=>simp
 |some y=>rw[e]at h;cases h
def AE {kvs:List (List Key×Key)}{k:List Key}{v:Key}(h:bI kvs k=some v):cg (bG kvs) k=some (kV v):=by rw[gb,h];rfl
def rV {kvs:List (List Key×Key)}{k:List Key}{v:Key}(hs:gN kvs)(h:bI kvs k=some v):gU v:=by
 unfold bI at h
 cases e:kvs.find? fun p=>decide (p.1=k)with
 |none=>rw[e]at h;cases h
 |some y=>
  rw[e]at h
  cases h
  exact hs y (List.mem_of_find?_eq_some e)
def tH {kvs:List (List Key×Key)}{x:List Key×Key}(h:gN kvs)(hx:gU x.2):gN (kvs++[x]):=fun p hp=>by
 rcases Rv.mp hp with z|z
 ·exact h p z
 ·rw[QR.mp z];exact hx
def uY {k:List Key}{v:Key}(hk:1<=k.length)(h:gU v):vn k v:=by
 cases v with
 |inl i=>exact h
 |inr z=>
  refine⟨h.1,Rl h.2 ?_⟩
  cases k with
  |nil=>simp at hk
  |cons x r=>
   show 62<=((x::r).map szK).sum
   rw[RD,VR]
   have:62<=szK x:=by cases x with
    |inl i=>exact gV 62
    |inr z=>show 62<=z.length+62;omega
   omega
def AH {H:Hp}{b:Addr}{cs:List Addr}{cvs:List V}{kvs:List (List Key×Key)}(kk:List Key)(d:Key)(hs:gN kvs)(hd:gU d)(hb:H b=some (.dT (bG kvs)))(hc:cZ H cs cvs)(H1:Hp)(S:au (dX cs H) H1):
  ∃(kvs':List (List Key×Key))(v:Key)(H':Hp),oj (bG kvs) kk (kV d)=kV v/\dF cs H (oQ H1 b (bG kvs) kk (kV d))=H'/\H' b=some (.dT (bG kvs'))/\(∀x o,x≠b->H x=some o->H' x=some o)/\kvs'.length<=kvs.length+1/\gN kvs'/\bI kvs' kk=some v/\gU v/\∀k v,bI kvs k=some v->bI kvs' k=some v:=by
 have hbc:b∉cs:=hc.notin hb fun _ z=>nomatch z
 have S2:=au.hide cs S
 cases e:bI kvs kk with
 |some v=>
  have ev:=AE e
  refine⟨kvs,v,dF cs H H1,by unfold oj;rw[ev];rfl,?_,S2 _ _ hb,fun _ _ _ h=>S2 _ _ h,UN _,hs,e,rV hs e,fun _ _ h=>h⟩
  unfold oQ;rw[ev];rfl
 |none=>
  have ev:cg (bG kvs) kk=none:=by rw[gb,e];rfl
  refine⟨kvs++[(kk,d)],d,upd (dF cs H H1) b (.dT (bG (kvs++[(kk,d)]))),by unfold oj;rw[ev];rfl,?_,ag,fun x o n h=>by rw[ap n];exact S2 _ _ h,by simp,tH hs hd,zp e,hd,fun _ _ h=>wZ h⟩
  unfold oQ;rw[ev,if_neg (by decide),wn hbc,AA _ ev]
  unfold bG;rw[Rm];rfl
def m0 {x:fg×Sp}{l:List (fg×Sp)}:x∈x::l:=Rb
def bN.rfl' {b:Addr}{H:Hp}:bN b H H:=fun _ _ _ e=>e
def bN.trans {b:Addr}{H H1 H2:Hp}(a:bN b H H1)(c:bN b H1 H2):bN b H H2:=fun x o n e=>c x o n (a x o n e)
def bN.same {b:Addr}{H H':Hp}(S:au H H'):bN b H H':=fun x o _ e=>S x o e
def Ii (K:cW)(A:Adr):Ln (qb K A) 0:=by rintro vs H Q E ⟨rfl,_⟩;rfl
def MK (T:Txt K mg A)(q0:Addr)(hnd:([q0]:List Addr).Nodup)(vs:List V)(H:Hp)(Q:VK)(E:XK)(h:qb K A vs H Q E):Gu K A q0 {nx:=fun σ H'=>(∀p∈([(0,q0)]:List (Nat×Addr)),H' p.2=none)->Q .non (fA [(0,q0)] σ H'),rt:=fun σ v H'=>(∀p∈([(0,q0)]:List (Nat×Addr)),H' p.2=none)->Q v (fA [(0,q0)] σ H')} (L2.cO ["numbers"] vs) H:=by
 obtain⟨rfl,⟨ps,hP,tab⟩,q⟩:=h
 intro x dx hx hdx hne
 refine⟨x,dx,rfl,ag,fun d hd=>⟨rfl,?_⟩⟩
 obtain⟨dnx,hd1⟩:=cA hd
 obtain⟨dndx,hd0⟩:=cA hd1
 have xP:=fX hP hx
 have dxP:=fX hP hdx
 have dP:=fX hP hd0
 generalize e2:upd (upd (upd (upd H dx (.own x)) x (.ins A.c_Numbers dx [])) d (.dT [])) x (.ins A.c_Numbers dx [("given",.ref d)])=H2
 have S2:eC A.t_70 H H2:=by
  intro b o e n
  have b1:=aq e hx
  have b2:=aq e hdx
  have b3:=aq e hd0
  rw[<-e2,ap b1,ap b3,ap b1,ap b2];exact e
 have hP2:H2 A.t_70=some (.tbl ps):=by rw[<-e2,ap (QU xP),ap (QU dP),ap (QU xP),ap (QU dxP)];exact hP
 have hx2:H2 x=some (.ins A.c_Numbers dx [("given",.ref d)]):=by rw[<-e2,ag]
 have hd2:H2 d=some (.dT []):=by rw[<-e2,ap dnx,ag]
 have key:∀(c f:Addr)(H3:Hp),eC A.t_70 H2 H3->AY A H3->f≠A.t_70->c≠A.t_70->H3 f=some (gQ f eW [q0] c)->H3 c=some (il c eW.qual)->H3 q0=none->Q (.ref f) (upd H3 q0 (eX q0 (.ref x))):=by
  intro c f H3 S3 tb fP cP hf hc hq
  have S4:=au.upd (o:=eX q0 (.ref x)) hq
  obtain⟨ps3,t1,t2⟩:=tb
  exact q f d (bI []) _ ((S2.trans S3).trans (eC.new hq)) ⟨ps3,S4 _ _ t1,t2.imp id fun⟨c',z1,z2⟩=>⟨c',z1,S4 _ _ z2⟩⟩ hd0 (.cnt q0 x [] ⟨⟨c,S4 _ _ hf,S4 _ _ hc⟩,.cons ag .nil⟩ ⟨⟨dx,S4 _ _ (S3 _ _ hx2 xP)⟩,S4 _ _ (S3 _ _ hd2 dP)⟩ (QK _) yU rfl)
 rcases tab with rfl|⟨c,rfl,hc⟩
 ·refine⟨#[],hP2,trivial,.inl ⟨rfl,fun c f hc hf hne hq=>?_⟩⟩
  have cP:=fX hP2 hc
  have fP:=fX hP2 hf
  have c1:∀o,upd H2 A.t_70 o c=none:=fun o=>by rw[ap cP];exact hc
  have f1:∀o,upd (upd H2 A.t_70 o) c (il c eW.qual) f=none:=fun o=>by rw[ap (QU hne),ap fP];exact hf
  exact key c f _ (eC.tab.trans ((eC.new (c1 _)).trans (eC.new (f1 _)))) ⟨_,by rw[ap (QU fP),ap (QU cP),ag],.inr ⟨c,rfl,by rw[ap hne,ag]⟩⟩ fP cP ag (by rw[ap hne,ag]) (hq _ (QR.mpr rfl))
 ·have cP:c≠A.t_70:=bw hc hP (fun z=>nomatch z)
  have hc2:=S2 _ _ hc cP
  refine⟨_,hP2,trivial,.inr ⟨c,rfl,fun f hf hq=>?_⟩⟩
  have fP:=fX hP2 hf
  have S3:=au.upd (o:=gQ f eW [q0] c) hf
  exact key c f _ (eC.new hf) ⟨_,S3 _ _ hP2,.inr ⟨c,rfl,S3 _ _ hc2⟩⟩ fP cP ag (S3 _ _ hc2) (hq _ (QR.mpr rfl))
def Stp.clo {H:Hp}{f b:Addr}{g:gOp}{n:Nat}(s:Stp A H f b g n):∃ts∈jf K A,∃cs cvs,gh H f ts.1 cs cvs:=by
 cases s with
 |cnt _ _ _ hc=>exact⟨_,m0,_,_,hc⟩
def stO (b z:Addr)(o:HO):Prop:=(∃φ,o=.ext φ)\/(z=b/\∃kvs,o=.dT kvs)\/∃C dx v,o=HO.ins C dx [(("given":Str),v)]
def Stp.keep {H H':Hp}{f b:Addr}{g:List Key->Option Key}{n m:Nat}(s:Stp A H f b g n)(hn:n<=m)(k:∀z o,H z=some o->stO b z o->H' z=some o):Stp A H' f b g m:=by
 have kx:∀z φ,H z=some (.ext φ)->H' z=some (.ext φ):=fun z φ e=>k z _ e (.inl ⟨_,rfl⟩)
 have kd:∀xs,H b=some (.dT xs)->H' b=some (.dT xs):=fun φ e=>k b _ e (.inr (.inl ⟨rfl,_,rfl⟩))
 cases s with
 |cnt q x kvs hc num hl hs hg=>
  obtain⟨⟨dx,h1⟩,h2⟩:=num
  exact .cnt q x kvs (hc.keep kx) ⟨⟨dx,k _ _ h1 (.inr (.inr ⟨_,_,_,rfl⟩))⟩,kd _ h2⟩ (Rl hl hn) hs hg
def Stp.put {H:Hp}{f b x:Addr}{g:gOp}{n m:Nat}{C dx:Addr}{fs:List (Str×V)}{o:HO}(s:Stp A H f b g n)(hn:n<=m)(e:H x=some (.ins C dx fs))(h:∀v,fs≠[(("given":Str),v)]):Stp A (upd H x o) f b g m:=s.keep hn fun z u ez hz=>by
 rw[ap (bw ez e fun q=>?_)]
 ·exact ez
 ·subst q
  rcases hz with⟨_,q⟩|⟨_,_,q⟩|⟨_,_,v,q⟩
  ·cases q
  ·cases q
  ·injection q with _ _ q;exact h v q
def Stp.same {H H':Hp}{f b:Addr}{g:gOp}{n m:Nat}(s:Stp A H f b g n)(hn:n<=m)(S:au H H'):Stp A H' f b g m:=s.keep hn fun z o e _=>S z o e
def Stp.bd {H:Hp}{f b:Addr}{g:gOp}{n:Nat}(s:Stp A H f b g n):∃kvs,H b=some (.dT kvs):=by
 cases s with
 |cnt q x kvs hc num hl hs hg=>exact⟨_,num.di⟩
def Stp.nb {H:Hp}{f b z:Addr}{g:gOp}{n:Nat}{o:HO}(s:Stp A H f b g n)(e:H z=some o)(h:∀kvs,o≠.dT kvs):z≠b:=fun q=>by
 subst q
 obtain⟨kvs,w⟩:=s.bd
 rw[e]at w;exact h _ (QZ w)
def iS {H:Hp}{f b p:Addr}{g:List Key->Option Key}{n:Nat}{k:List Key}{R:VK}(s:Stp A H f b g n)(hn:n<=45000)(hp:H p=some (.tup (k.map kV)))(ok:okT k=true)
  (q:∀(v:Key)(H':Hp)(g':List Key->Option Key),bN b H H'->Stp A H' f b g' (n+1)->Sub g g'->g' k=some v->vn k v->R (kV v) H'):uX (jf K A) f [.ref p] H R E0:=by
 have s0:=s
 have hk:=(uk ok).1
 have ll:∀kvs:List (List Key×Key),(bG kvs).length=kvs.length:=fun kvs=>by simp[bG]
 have p60:(50000000:Int)<10^60:=by decide+kernel
 cases s with
 |cnt c x kvs hc num hl hs hg=>
  refine⟨_,m0,_,_,hc,rfl,x,b,p,bG kvs,k,rfl,num.hide hc.cells,by rw[ll];omega,hc.cells.hide hp (fun _ z=>nomatch z),ok,fun H' S=>?_⟩
  obtain⟨dx,hx⟩:=num.ob
  obtain⟨kvs',v,H2,ev,eH,hb',keep,hl',hs',gv,sv,sub⟩:=AH k (.inl ((bG kvs).length:Int)) hs (show 0<=_/\_<_ from⟨by omega,by rw[ll];omega⟩) num.di hc.cells H' S
  rw[show V.int ((bG kvs).length:Int)=kV (.inl ((bG kvs).length:Int))from rfl,ev,eH]
  refine q v H2 (bI kvs') (fun x o n e=>keep x o n e)
   (.cnt c x kvs' (hc.keep fun x φ e=>keep x _ (bw e num.di (fun z=>nomatch z)) e) ⟨⟨dx,keep _ _ (bw hx num.di (fun z=>nomatch z)) hx⟩,hb'⟩ (by omega) hs' rfl) ?_ gv (uY hk sv)
  rw[hg];exact sub
def HH (K:cW)(A:Adr):Ln (lB K A) 3:=by rintro vs H Q E ⟨b,k,d,rfl,_⟩;rfl
def Ny (T:Txt K mg A):Rd (lB K A) (OE K A) ["bits","key","depth"]:=by
 intro vs H Q E h
 obtain⟨b,k,d,rfl,hd,q⟩:=h
 exact⟨by omega,q⟩
def EW (K:cW)(A:Adr):Ln (gi K A) 2:=by rintro vs H Q E ⟨b,v,d,rfl,_⟩;rfl
def Ke (T:Txt K mg A):Rd (gi K A) (OG K A) ["bits","thing"]:=by
 intro vs H Q E h
 obtain⟨b,v,d,rfl,h0,h1,w,q⟩:=h
 refine⟨v,d,rfl,w,?_⟩
 cases w with
 |int i=>
  refine Sel.yes rfl (Sel.dec (fun h2=>⟨⟨h0,by omega,by decide⟩,?_⟩) (fun h2=>?_))
  ·show Q (.bl (decide (i<1*2^b.toNat))) H
   have e:cC b (.int i)=decide (i<1*2^b.toNat):=by
    show decide (0<=i/\i<2^b.toNat)=_
    rw[Vw]
    by_cases h1:i<2^b.toNat
    ·rw[decide_eq_true h1,decide_eq_true ⟨h2,h1⟩]
    ·rw[decide_eq_false h1,decide_eq_false fun z=>h1 z.2]
   rw[<-e];exact q
  ·have e:cC b (.int i)=false:=decide_eq_false fun z=>h2 z.1
   rw[<-e];exact q
 |_=>exact Sel.no rfl q
def Gf (K:cW)(A:Adr):Ln (qi K A) 1:=by rintro vs H Q E ⟨v,d,rfl,_⟩;rfl
def Ko (T:Txt K mg A):Rd (qi K A) (Pq K A) ["thing"]:=by
 intro vs H Q E h
 obtain⟨v,d,rfl,w,ok,q⟩:=h
 refine⟨by decide,_,w.ty,?_⟩
 cases w with
 |str z=>
  have hl:=of_decide_eq_true (Gt.mp ok).2
  refine Sel.yes rfl (.inl ⟨aO (by omega),?_⟩)
  have e:gc (.str z)=decide ((z.length:Int)<=60):=by
   show decide (z.length<=60)=_
   by_cases h1:z.length<=60
   ·rw[decide_eq_true h1,decide_eq_true (by omega)]
   ·rw[decide_eq_false h1,decide_eq_false (by omega)]
  show Q (.bl (decide ((z.length:Int)<=60))) H
  rw[<-e];exact q
 |_=>exact Sel.no rfl q
def Gk (K:cW)(A:Adr):Ln (jO K A) 3:=by rintro vs H Q E ⟨b,k,d,rfl,_⟩;rfl
def Jq (T:Txt K mg A):Rd (jO K A) (NK K A) ["bits","key","depth"]:=by
 intro vs H Q E h
 obtain⟨b,k,d,rfl,hd,k0,q⟩:=h
 refine⟨by omega,?_⟩
 show Q (.int (Sn (k/2^(b- d- 1).toNat) 1)) H
 have h0:0<=k/2^(b- d- 1).toNat:=Int.ediv_nonneg k0 (Int.le_of_lt (Bl _))
 obtain⟨y,hy⟩:=Sf h0
 rw[hy]at q⊢
 rw[vK]
 have:((y%2:Nat):Int)=(y:Int)%2:=by omega
 rw[this];exact q
def tN {b x y c:Nat}(hx:x<2^b)(hy:y<2^b)(h:oI b x y c):(b:Int)- (RG (((x^^^y:Nat)):Int):Int)=(c:Int):=by
 obtain⟨hc,he,hd⟩:=h
 have lt:x^^^y<2^(b- c):=by
  have h1:(x^^^y)/2^(b- c)=0:=by
   rw[<-RV,VA,RV,RV,he,Nat.xor_self]
  rcases(Nat.div_eq_zero_iff.mp h1)with h|h
  ·have:=Th (b- c);omega
  ·exact h
 unfold RG
 by_cases h0:x^^^y=0
 ·rw[h0]
  have hxy:x=y:=xor_zero h0
  rcases hd with rfl|hd
  ·simp
  ·exact(hd (by rw[hxy])).elim
 ·rw[if_neg (by simpa using h0)]
  rcases hd with rfl|hd
  ·simp at lt;omega
  ·by_cases hcb:c=b
   ·subst hcb;simp at lt;omega
   have ge:2^(b- (c+1))<=x^^^y:=by
    apply RL
    intro hn
    apply hd
    have h1:(x^^^y)/2^(b- (c+1))=0:=Tw (by omega)
    rw[<-RV,VA,RV,RV]at h1
    exact xor_zero h1
   have hl:(x^^^y).log2=b- (c+1):=by
    rw[Nat.log2_eq_iff h0]
    exact⟨ge,by rw[show b- (c+1)+1=b- c by omega];exact lt⟩
   rw[Int.natAbs_natCast,hl]
   omega
def Fw (K:cW)(A:Adr):Ln (nC K A) 3:=by rintro vs H Q E ⟨b,_,_,_,rfl,_⟩;rfl
def Li (T:Txt K mg A):Rd (nC K A) (PB K A) ["bits","one","other"]:=by
 intro vs H Q E h
 obtain⟨b,x,y,c,rfl,hx,hy,hc,q⟩:=h
 refine⟨rfl,?_⟩
 show Q (.int ((b:Int)- (RG (SQ x y):Int))) H
 rw[iV,tN hx hy hc]
 exact q
def EF (K:cW)(A:Adr):Ln (rz K A) 1:=by rintro vs H Q E ⟨v,d,rfl,_⟩;rfl
def LY (T:Txt K mg A):Rd (rz K A) (Qw K A) ["thing"]:=by
 intro vs H Q E h
 obtain⟨v,d,rfl,w,q⟩:=h
 refine⟨v,d,rfl,w,?_⟩
 cases w with
 |int i=>
  refine Sel.yes rfl (Sel.dec (fun h1=>?_) (fun h1=>?_))
  ·have e:fI (.int i)=decide (i<=60):=by
    show decide (1<=i/\i<=60)=_
    by_cases h2:i<=60
    ·rw[decide_eq_true h2,decide_eq_true ⟨h1,h2⟩]
    ·rw[decide_eq_false h2,decide_eq_false fun z=>h2 z.2]
   show Q (.bl (decide (i<=60))) H
   rw[<-e];exact q
  ·have e:fI (.int i)=false:=decide_eq_false fun z=>h1 z.1
   rw[<-e];exact q
 |_=>exact Sel.no rfl q
def rO (B k d:Nat):mK (B:Int) (k:Int) (d:Int)=((st B k d:Nat):Int):=by
 unfold mK st
 rw[show((B:Int)- (d:Int)).toNat=B- d by omega,<-gy,<-Int.natCast_ediv]
def nE {B k d:Nat}(h:d<B):(k:Int)/2^((B:Int)- (d:Int)- 1).toNat%2=((sd B k d:Nat):Int):=by
 unfold sd
 rw[show((B:Int)- (d:Int)- 1).toNat=B- 1- d by omega,<-gy]
 omega
def knO (o:HO):Prop:=(∃xs,o=.tup xs)\/∃C dx t m fs,o=HO.ins C dx ((("term":Str),t)::(("mark":Str),m)::fs)
def KnA.keep {H H':Hp}{g g':gOp}{x:Addr}{t:Kn Str}{m:Key}(h:KnA A H g x t m)(k:∀z o,H z=some o->knO o->H' z=some o)(s:Sub g g'):KnA A H' g' x t m:=by
 induction h with
 |bare o ht hm ok sz=>exact .bare (k _ _ o (.inr ⟨_,_,_,_,_,rfl⟩)) (k _ _ ht (.inl ⟨_,rfl⟩)) (s _ _ hm) ok sz
 |leaf o ht hm ok sz hz=>exact .leaf (k _ _ o (.inr ⟨_,_,_,_,_,rfl⟩)) (k _ _ ht (.inl ⟨_,rfl⟩)) (s _ _ hm) ok sz hz
 |fork o hl hr ht hm ok sz ih1 ih2=>exact .fork (k _ _ o (.inr ⟨_,_,_,_,_,rfl⟩)) ih1 ih2 (k _ _ ht (.inl ⟨_,rfl⟩)) (s _ _ hm) ok sz
def knO.dT {kvs:List (List Key×V)}(h:knO (.dT kvs)):False:=by rcases h with⟨_,h⟩|⟨_,_,_,_,_,h⟩<;>cases h
def knO.tab {C dx:Addr}{v:V}{fs:List (Str×V)}(h:knO (.ins C dx ((("stamper":Str),v)::fs))):False:=by
 rcases h with⟨_,h⟩|⟨_,_,_,_,_,h⟩
 ·cases h
 ·injection h with _ _ h;injection h with h;injection h with h;exact absurd h (by decide)
def knO.nil {C dx:Addr}(h:knO (.ins C dx [])):False:=by rcases h with⟨_,h⟩|⟨_,_,_,_,_,h⟩<;>cases h
def bN.kn {H H':Hp}{f b:Addr}{g:gOp}{n:Nat}(s:Stp A H f b g n)(k:bN b H H'):∀z o,H z=some o->knO o->H' z=some o:=fun z o e h=>k z o (s.nb e fun kvs q=>by subst q;exact h.dT) e
def aW.kn {H H':Hp}{f b x:Addr}{g:gOp}{n:Nat}{u:HO}(s:Stp A H f b g n)(k:aW b x H H')(hx:H x=some u)(hu:¬knO u):∀z o,H z=some o->knO o->H' z=some o:=fun z o e h=>k z o (s.nb e fun kvs q=>by subst q;exact h.dT) (fun q=>by subst q;rw[hx]at e;cases e;exact hu h) e
def KnA.kb {H H':Hp}{g g':gOp}{f b x:Addr}{t:Kn Str}{m:Key}{n:Nat}(h:KnA A H g x t m)(s:Stp A H f b g n)(k:bN b H H')(sub:Sub g g'):KnA A H' g' x t m:=h.keep (bN.kn s k) sub
def KnA.same {H H':Hp}{g:gOp}{x:Addr}{t:Kn Str}{m:Key}(h:KnA A H g x t m)(S:au H H'):KnA A H' g x t m:=h.keep (fun z o e _=>S z o e) Sub.rfl'
def KnA.ok {H:Hp}{g:gOp}{x:Addr}{t:Kn Str}{m:Key}(h:KnA A H g x t m):okP m=true/\szK m<=szN t:=by cases h<;>exact⟨‹_›,‹_›⟩
def KnA.ob {H:Hp}{g:gOp}{x:Addr}{t:Kn Str}{m:Key}(h:KnA A H g x t m):∃dx p fs,H x=some (.ins (clK A t) dx ((("term":Str),.ref p)::(("mark":Str),kV m)::fs))/\∀nm:Str,(nm="found"\/nm="rows"\/nm="with_key"\/nm="without")->((("term":Str),V.ref p)::(("mark":Str),kV m)::fs).lookup nm=none:=by
 cases h with
 |bare o _ _ _ _=>exact⟨_,_,_,o,fun nm hn=>by rcases hn with rfl|rfl|rfl|rfl<;>rfl⟩
 |leaf o _ _ _ _ _=>exact⟨_,_,_,o,fun nm hn=>by rcases hn with rfl|rfl|rfl|rfl<;>rfl⟩
 |fork o _ _ _ _ _ _=>exact⟨_,_,_,o,fun nm hn=>by rcases hn with rfl|rfl|rfl|rfl<;>rfl⟩
def cR (T:Txt K mg A)(t:Kn Str):Cls K (clK A t)/\bq K (clK A t) "mark"/\bq K (clK A t) "term":=by
 cases t
 ·exact⟨T.cl_Bare,T.na_Bare_mark,T.na_Bare_term⟩
 ·exact⟨T.cl_Leaf,T.na_Leaf_mark,T.na_Leaf_term⟩
 ·exact⟨T.cl_Fork,T.na_Fork_mark,T.na_Fork_term⟩
def za:okP (.inr "bare")=true/\okP (.inr "leaf")=true/\okP (.inr "fork")=true:=by refine⟨?_,?_,?_⟩<;>decide+kernel
def Ha:szK (.inr "bare")=66/\szK (.inr "leaf")=66/\szK (.inr "fork")=66:=by refine⟨?_,?_,?_⟩<;>decide+kernel
def okN {i:Int}(h0:0<=i)(h:i<2^60):okP (.inl i)=true:=by
 have p60:(2:Int)^60<10^60:=by decide+kernel
 exact decide_eq_true ⟨h0,by omega⟩
def okZ {z:Str}(h:fQ z):okP (.inr z)=true:=by
 show(eG z&&decide (z.length<=100000))=true
 rw[h.1,decide_eq_true (by have:=h.2;omega)];rfl
def hJ {w:Str}{k:List Key}(hw:okP (.inr w)=true)(hk:∀x∈k,okP x=true)(hl:k.length<=7):okT (.inr w::k)=true:=by
 unfold okT
 refine Gt.mpr ⟨Gt.mpr ⟨decide_eq_true ⟨by simp,by simp;omega⟩,rfl⟩,?_⟩
 rw[List.all_cons,hw]
 exact So.mpr hk
def JC:okT brT=true:=hJ za.1 (fun _ h=>nomatch h) (QK _)
def uL {k:Nat}(h:k<2^60):okP (.inl (k:Int))=true:=okN (by omega) (by omega)
def IW {k:Nat}{z:Str}(h:k<2^60)(hz:fQ z):okT (lfT k z)=true:=hJ za.2.1 (fun x hx=>by
 rcases QG.mp hx with rfl|hx
 ·exact uL h
 ·rw[QR.mp hx];exact okZ hz) (show 2<=7 by decide)
def Jn {d b:Nat}{l r:Key}(hd:d<60)(hb:b<2^60)(hl:okP l=true)(hr:okP r=true):okT (fkT d b l r)=true:=hJ za.2.2 (fun x hx=>by
 rcases QG.mp hx with rfl|hx
 ·exact uL (by omega)
 ·rcases QG.mp hx with rfl|hx
  ·exact uL hb
  ·rcases QG.mp hx with rfl|hx
   ·exact hl
   ·rw[QR.mp hx];exact hr) (show 4<=7 by decide)
def oH {k:List Key}{v:Key}{n:Nat}(h:vn k v)(hn:szT k<=n)(h2:n+62<=100000):okP v=true/\szK v<=n+62:=by
 cases v with
 |inl i=>exact⟨decide_eq_true h,by show 62<=_;omega⟩
 |inr z=>
  have:=h.2
  refine⟨?_,by show z.length+62<=_;omega⟩
  show(eG z&&decide (z.length<=100000))=true
  rw[h.1,decide_eq_true (by omega)];rfl
def IQ {k:Nat}{z:Str}(hz:fQ z):szT (lfT k z)<=250:=by
 have:=hz.2
 show szK (.inr "leaf")+(62+(z.length+62+0))<=_
 rw[Ha.2.1];omega
def JD {d b:Nat}{l r:Key}:szT (fkT d b l r)=190+szK l+szK r:=by
 show szK (.inr "fork")+(62+(62+(szK l+(szK r+0))))=_
 rw[Ha.2.2];omega
def Dq {i:Nat}{σ:L2.St}{H:Hp}{Q:List V->Hp->Prop}{v:V}(h:σ[i]?=some (some v))(q:Q [v] H):af (ac i) aj σ H Q:=by
 show(match σ[i]? with|some (some v)=>aj σ H fun xs H2=>Q (v::xs) H2|_=>False)
 rw[h];exact q
def HR (K:cW)(A:Adr):Ln (lA K A) 3:=by rintro vs H Q E ⟨x,dx,C,f,b,p,g,n,k,rfl,_⟩;rfl
def Jr (T:Txt K mg A):Rd (lA K A) (OV K A) ["self","stamper","term"]:=by
 intro vs H Q E h
 obtain⟨x,dx,C,f,b,p,g,n,k,rfl,hx,cl,n1,n2,s,hn,hp,ok,q⟩:=h
 refine⟨x,C,dx,[],rfl,hx,cl,n1,by decide,?_⟩
 have s1:Stp A (upd H x (.ins C dx (br "term" (.ref p) []))) f b g n:=s.put (gV _) hx fun v z=>nomatch z
 have px:p≠x:=bw hp hx (fun z=>nomatch z)
 refine⟨f,rfl,s1.clo,Dq (v:=.ref p) rfl ?_⟩
 refine iS s1 hn (by rw[ap px];exact hp) ok fun v H2 g2 kb s2 sub gv st=>?_
 have hx1:upd H x (.ins C dx (br "term" (.ref p) [])) x=some (.ins C dx [(("term":Str),.ref p)]):=ag
 have hx2:=kb _ _ (s1.nb hx1 fun _ z=>nomatch z) hx1
 refine⟨x,C,dx,[(("term":Str),.ref p)],rfl,hx2,cl,n2,by show 1<1000;decide,q v g2 _ (fun z o zb zx e=>?_) ag (s2.put (gV _) hx2 fun v z=>?_) sub gv st⟩
 ·rw[ap zx];exact kb _ _ zb (by rw[ap zx];exact e)
 ·injection z with z;injection z with z;exact absurd z (by decide)
def JR (K:cW)(A:Adr):Ln (nU K A) 2:=by rintro vs H Q E ⟨x,dx,f,b,g,n,rfl,_⟩;rfl
def Ow (T:Txt K mg A):Rd (nU K A) (T_0 K A) ["self","stamper"]:=by
 intro vs H Q E h
 obtain⟨x,dx,f,b,g,n,rfl,hx,s,hn,q⟩:=h
 refine⟨by show 1<=sizeLine;decide,fun p hp=>?_⟩
 have S:=au.upd (o:=.tup [.str "bare"]) hp
 refine⟨x,dx,A.c_Bare,f,b,p,g,n,brT,rfl,S _ _ hx,T.cl_Bare,T.na_Bare_term,T.na_Bare_mark,s.same (gV _) S,hn,ag,JC,fun m g' H' k o s' sub gm st=>?_⟩
 obtain⟨ok,sz⟩:=oH (n:=130) st (by decide+kernel) (by decide)
 have px:p≠x:=QU (aq hx hp)
 have s1:=s.same (gV n) S
 exact q m g' H' (fun z u zb zx e=>k z u zb zx (S _ _ e)) (.bare o (k _ _ (s1.nb (o:=.tup (brT.map kV)) ag fun _ z=>nomatch z) px ag) gm ok (by omega)) s' sub
def FF (K:cW)(A:Adr):Ln (jC K A) 4:=by rintro vs H Q E ⟨x,dx,f,b,g,n,k,z,rfl,_⟩;rfl
def Ju (T:Txt K mg A):Rd (jC K A) (Pl K A) ["self","stamper","key","value"]:=by
 intro vs H Q E h
 obtain⟨x,dx,f,b,g,n,kk,z,rfl,hx,s,hn,k60,hz,q⟩:=h
 refine⟨by show 3<=sizeLine;decide,fun p hp=>?_⟩
 have S:=au.upd (o:=.tup [.str "leaf",.int (kk:Int),.str z]) hp
 refine⟨x,dx,A.c_Leaf,f,b,p,g,n,lfT kk z,rfl,S _ _ hx,T.cl_Leaf,T.na_Leaf_term,T.na_Leaf_mark,s.same (gV _) S,hn,ag,IW k60 hz,fun m g' H' k o s' sub gm st=>?_⟩
 obtain⟨ok,sz⟩:=oH (n:=250) st (IQ hz) (by decide)
 have px:p≠x:=QU (aq hx hp)
 have s1:=s.same (gV n) S
 have hp':=k _ _ (s1.nb (o:=.tup ((lfT kk z).map kV)) ag fun _ z=>nomatch z) px ag
 refine⟨x,A.c_Leaf,dx,_,rfl,o,T.cl_Leaf,T.na_Leaf_key,by show 2<1000;decide,?_⟩
 refine⟨x,A.c_Leaf,dx,_,rfl,ag,T.cl_Leaf,T.na_Leaf_text,by show 3<1000;decide,?_⟩
 rw[eN]
 have e:br "text" (.str z) (br "key" (.int (kk:Int)) [("term",.ref p),("mark",kV m)])=([("term",.ref p),("mark",kV m),("key",.int (kk:Int)),("text",.str z)]:List (Str×V)):=rfl
 rw[e]
 refine q m g' _ (fun y u yb yx e=>by rw[ap yx];exact k y u yb yx (S _ _ e)) (.leaf ag (by rw[ap px];exact hp') gm ok (by omega) hz) (s'.put (gV _) o fun v z=>?_) sub
 injection z with z;injection z with z;exact absurd z (by decide)
def Fl (K:cW)(A:Adr):Ln (im K A) 6:=by rintro vs H Q E ⟨x,dx,f,b,l,r,g,n,d,e,tl,tr,ml,mr,rfl,_⟩;rfl
def JJ (T:Txt K mg A):Rd (im K A) (Qs K A) ["self","stamper","depth","begin","left","right"]:=by
 intro vs H Q E h
 obtain⟨x,dx,f,b,l,r,g,n,d,e,tl,tr,ml,mr,rfl,hx,s,hn,d60,e60,kl,kr,szs,q⟩:=h
 obtain⟨dl,pl,fl,ol,_⟩:=kl.ob
 obtain⟨dr,pr,fr,or',_⟩:=kr.ob
 refine⟨l,_,dl,_,_,rfl,ol,(cR T tl).1,(cR T tl).2.1,rfl,r,_,dr,_,_,rfl,or',(cR T tr).1,(cR T tr).2.1,rfl,by show 5<=sizeLine;decide,fun p hp=>?_⟩
 have S:=au.upd (o:=.tup [.str "fork",.int (d:Int),.int (e:Int),kV ml,kV mr]) hp
 refine⟨x,dx,A.c_Fork,f,b,p,g,n,fkT d e ml mr,rfl,S _ _ hx,T.cl_Fork,T.na_Fork_term,T.na_Fork_mark,s.same (gV _) S,hn,ag,Jn d60 e60 kl.ok.1 kr.ok.1,fun m g' H' k o s' sub gm st=>?_⟩
 have zl:=kl.ok.2
 have zr:=kr.ok.2
 obtain⟨ok,sz⟩:=oH (n:=190+szK ml+szK mr) st (Uw JD) (by omega)
 have px:p≠x:=QU (aq hx hp)
 have s1:=s.same (gV n) S
 have hp':=k _ _ (s1.nb (o:=.tup ((fkT d e ml mr).map kV)) ag fun _ z=>nomatch z) px ag
 have kn:=aW.kn s1 k (S _ _ hx) knO.nil
 refine⟨x,A.c_Fork,dx,_,rfl,o,T.cl_Fork,T.na_Fork_depth,by show 2<1000;decide,?_⟩
 refine⟨x,A.c_Fork,dx,_,rfl,ag,T.cl_Fork,T.na_Fork_begin,by show 3<1000;decide,?_⟩
 refine⟨x,A.c_Fork,dx,_,rfl,ag,T.cl_Fork,T.na_Fork_left,by show 4<1000;decide,?_⟩
 refine⟨x,A.c_Fork,dx,_,rfl,ag,T.cl_Fork,T.na_Fork_right,by show 5<1000;decide,?_⟩
 rw[eN,eN,eN]
 have ef:br "right" (.ref r) (br "left" (.ref l) (br "begin" (.int (e:Int)) (br "depth" (.int (d:Int)) [("term",.ref p),("mark",kV m)])))=([("term",.ref p),("mark",kV m),("depth",.int (d:Int)),("begin",.int (e:Int)),("left",.ref l),("right",.ref r)]:List (Str×V)):=rfl
 rw[ef]
 have up:∀z u,H z=some u->knO u->upd H' x (.ins A.c_Fork dx [("term",.ref p),("mark",kV m),("depth",.int (d:Int)),("begin",.int (e:Int)),("left",.ref l),("right",.ref r)]) z=some u:=fun z u ez hu=>by
  rw[ap (fun q=>by subst q;rw[hx]at ez;cases ez;exact knO.nil hu)]
  exact kn z u (S _ _ ez) hu
 refine q m g' _ (fun y u yb yx e=>by rw[ap yx];exact k y u yb yx (S _ _ e)) (.fork ag (kl.keep up sub) (kr.keep up sub) (by rw[ap px];exact hp') gm ok (by show _<=300+szN tl+szN tr;omega)) (s'.put (gV _) o fun v z=>?_) sub
 injection z with z;injection z with z;exact absurd z (by decide)
def sK {B d key:Nat}{z:Str}{t:Kn Str}:szN (fE B d key z t)=700+szN t:=by
 unfold fE;split
 ·show 300+400+szN t=_;omega
 ·show 300+szN t+400=_;omega
theorem jo {B key:Nat}{z:Str}:∀t:Kn Str,szN (df B key z t)<=szN t+700
 |.bare=>by show 400<=200+700;omega
 |.leaf k t=>by
  unfold df;split
  ·show 400<=400+700;omega
  ·rw[sK];omega
 |.fork d b l r=>by
  have h1:=jo (B:=B) (key:=key) (z:=z) l
  have h2:=jo (B:=B) (key:=key) (z:=z) r
  unfold df;split
  ·split<;>(show 300+_+_<=300+_+_+700;omega)
  ·rw[sK];omega
theorem gj {B key:Nat}:∀t:Kn Str,szN (bn B key t)<=szN t
 |.bare=>gV _
 |.leaf k t=>by
  unfold bn;split
  ·show 200<=400;omega
  ·exact gV _
 |.fork d b l r=>by
  have h1:=gj (B:=B) (key:=key) l
  have h2:=gj (B:=B) (key:=key) r
  have e:szN (.fork d b l r)=300+szN l+szN r:=rfl
  unfold bn;split
  ·cases q:bn B key l with
   |bare=>show szN r<=_;omega
   |leaf _ _=>rw[q]at h1;show 300+_+_<=_;omega
   |fork _ _ _ _=>rw[q]at h1;show 300+_+_<=_;omega
  ·cases q:bn B key r with
   |bare=>show szN l<=_;omega
   |leaf _ _=>rw[q]at h2;show 300+_+_<=_;omega
   |fork _ _ _ _=>rw[q]at h2;show 300+_+_<=_;omega
theorem WF.dp {B:Nat}:∀{t:Kn Str}{d0 b0:Nat},b0<2^d0->WF B d0 b0 t->gw B t/\hgt t<=B- d0
 |.bare,_,_,_,_=>⟨trivial,QK _⟩
 |.leaf _ _,_,_,_,_=>⟨trivial,QK _⟩
 |.fork d b l r,d0,b0,hb,h=>by
  obtain⟨h1,h2,h3,h4,h5⟩:=h
  have hbd:b<2^d:=by
   have e:2^d=2^d0*2^(d- d0):=by rw[<-Ui];congr 1;omega
   rw[e]
   exact(Ux (Th _)).mp (by rw[h3];exact hb)
  have e2:2^(d+1)=2*2^d:=by rw[Uv];omega
  obtain⟨a1,a2⟩:=WF.dp (t:=l) (by omega) h4
  obtain⟨b1,b2⟩:=WF.dp (t:=r) (by omega) h5
  exact⟨⟨h2,hbd,a1,b1⟩,by show max (hgt l) (hgt r)+1<=_;omega⟩
theorem WF.szN {B:Nat}:∀{t:Kn Str}{d0 b0:Nat},WF B d0 b0 t->szN t+300<=700*(bv t).length
 |.bare,_,_,h=>h.elim
 |.leaf _ _,_,_,_=>by show 400+300<=700*1;omega
 |.fork d b l r,_,_,h=>by
  have a:=WF.szN h.2.2.2.1
  have b':=WF.szN h.2.2.2.2
  have e:(bv (.fork d b l r)).length=(bv l).length+(bv r).length:=QP
  show 300+Rs.szN l+Rs.szN r+300<=_
  rw[e];omega
def WFo.dp {B:Nat}{t:Kn Str}(h:WFo B t):gw B t/\hgt t<=B:=by
 rcases h with rfl|h
 ·exact⟨trivial,QK _⟩
 ·exact h.dp (by decide)
def WFo.szN {B:Nat}{t:Kn Str}(h:WFo B t):szN t<=700*(bv t).length+200:=by
 rcases h with rfl|h
 ·exact gV _
 ·have:=h.szN;omega
def WFo.lt {B:Nat}{t:Kn Str}(h:WFo B t):∀p∈bv t,p.1<2^B:=by
 rcases h with rfl|h
 ·exact fun _ z=>nomatch z
 ·exact fun p hp=>(h.mem (QK _) p hp).1
def WFo.with {B key:Nat}{z:Str}{t:Kn Str}(h:WFo B t)(hk:key<2^B):WFo B (df B key z t)/\∀k,aM B k (df B key z t)=if k=key then some z else aM B k t:=by
 rcases h with rfl|h
 ·exact⟨.inr ⟨hk,Tw (by simpa using hk)⟩,fun k=>rfl⟩
 ·have e:st B key 0=0:=Tw (by simpa using hk)
  obtain⟨a,b⟩:=lY (x:=z) hk (QK _) h e
  exact⟨.inr a,b⟩
def WFo.without {B key:Nat}{t:Kn Str}(h:WFo B t):WFo B (bn B key t)/\∀k,aM B k (bn B key t)=if k=key then none else aM B k t:=by
 rcases h with rfl|h
 ·exact⟨.inl rfl,fun k=>by show none=_;split<;>rfl⟩
 ·exact iy (QK _) h
def WFo.up {B:Nat}{t:Kn Str}(h:WFo B t):iG (bv t)/\∀k,aM B k t=look k (bv t):=by
 rcases h with rfl|h
 ·exact⟨.nil,fun _=>rfl⟩
 ·exact⟨h.up,fun k=>de h⟩
def jZ {B key d b:Nat}{l r:Kn Str}:bn B key (.fork d b l r)=if sd B key d=0 then(if kdK (bn B key l)=0 then r else .fork d b (bn B key l) r)else(if kdK (bn B key r)=0 then l else .fork d b l (bn B key r)):=by
 rw[bn]
 split
 ·cases bn B key l<;>rfl
 ·cases bn B key r<;>rfl
def KnQ.le {H:Hp}{f b:Addr}{g:gOp}{n c c':Nat}{t:Kn Str}{Q:VK}(h:KnQ A H f b g n c' t Q)(hc:c<=c'):KnQ A H f b g n c t Q:=fun y m g' H' kb k s sub=>h y m g' H' kb k (s.same (by omega) au.rfl') sub
def ci {H:Hp}{x dx:Addr}{o u:HO}(hx:H x=none)(hdx:H dx=none)(ne:dx≠x):au H (upd (upd H dx o) x u):=(au.upd hdx).trans (au.upd (by rw[ap (QU ne)];exact hx))
def rP {H:Hp}{x dx f b C:Addr}{g:gOp}{n:Nat}{t:Kn Str}{Q:VK}(hx:H x=none)(hdx:H dx=none)(ne:dx≠x)(q:KnQ A H f b g n 1 t Q):InQ A (upd (upd H dx (.own x)) x (.ins C dx [])) x f b g n t (fun v H2=>v=.non/\Q (.ref x) H2):=
 fun m g' H' k kn s sub=>⟨rfl,q x m g' H' (fun z o zb e=>k z o zb (aq e hx) (ci hx hdx ne _ _ e)) kn s sub⟩
def Do {H:Hp}{x dx f b:Addr}{g:gOp}{n k:Nat}{z:Str}{Q:VK}{E:XK}(hx:H x=none)(hdx:H dx=none)(ne:dx≠x)(s:Stp A H f b g n)(hn:n<=45000)(hk:k<2^60)(hz:fQ z)(q:KnQ A H f b g n 1 (.leaf k z) Q):
  jC K A [.ref x,.ref f,.int (k:Int),.str z] (upd (upd H dx (.own x)) x (.ins A.c_Leaf dx [])) (fun v H2=>v=.non/\Q (.ref x) H2) E:=
 ⟨x,dx,f,b,g,n,k,z,rfl,ag,s.same (gV _) (ci hx hdx ne),hn,hk,hz,rP hx hdx ne q⟩
def Ej {H:Hp}{x dx f b:Addr}{g:gOp}{n:Nat}{Q:VK}{E:XK}(hx:H x=none)(hdx:H dx=none)(ne:dx≠x)(s:Stp A H f b g n)(hn:n<=45000)(q:KnQ A H f b g n 1 .bare Q):
  nU K A [.ref x,.ref f] (upd (upd H dx (.own x)) x (.ins A.c_Bare dx [])) (fun v H2=>v=.non/\Q (.ref x) H2) E:=
 ⟨x,dx,f,b,g,n,rfl,ag,s.same (gV _) (ci hx hdx ne),hn,rP hx hdx ne q⟩
def kS {H:Hp}{x dx f b l r:Addr}{g:gOp}{n d e:Nat}{tl tr:Kn Str}{ml mr:Key}{Q:VK}{E:XK}(hx:H x=none)(hdx:H dx=none)(ne:dx≠x)(s:Stp A H f b g n)(hn:n<=45000)(hd:d<60)(he:e<2^60)(kl:KnA A H g l tl ml)(kr:KnA A H g r tr mr)(sz:szN tl+szN tr<=90000)
  (q:KnQ A H f b g n 1 (.fork d e tl tr) Q):im K A [.ref x,.ref f,.int (d:Int),.int (e:Int),.ref l,.ref r] (upd (upd H dx (.own x)) x (.ins A.c_Fork dx [])) (fun v H2=>v=.non/\Q (.ref x) H2) E:=
 have S:=ci (o:=.own x) (u:=.ins A.c_Fork dx []) hx hdx ne
 ⟨x,dx,f,b,l,r,g,n,d,e,tl,tr,ml,mr,rfl,ag,s.same (gV _) S,hn,hd,he,kl.same S,kr.same S,sz,rP hx hdx ne q⟩
def KnA.fk {H:Hp}{g:gOp}{x:Addr}{d b:Nat}{tl tr:Kn Str}{m:Key}(h:KnA A H g x (.fork d b tl tr) m):∃l r ml mr,ip A H x d b l r/\KnA A H g l tl ml/\KnA A H g r tr mr:=by
 cases h with
 |fork o hl hr _ _ _ _=>exact⟨_,_,_,_,⟨_,_,_,o⟩,hl,hr⟩
def FO (K:cW)(A:Adr):Ln (nP K A) 3:=by rintro vs H Q E ⟨x,l,r,d,b,B,key,rfl,_⟩;rfl
def KW (T:Txt K mg A):Rd (nP K A) (Qr K A) ["self","bits","key"]:=by
 intro vs H Q E h
 obtain⟨x,l,r,d,b,B,key,rfl,⟨dx,t,m,o⟩,hd,q⟩:=h
 refine⟨x,_,dx,_,_,rfl,o,T.cl_Fork,T.na_Fork_depth,rfl,_,_,_,rfl,by omega,x,_,dx,_,_,rfl,o,T.cl_Fork,T.na_Fork_begin,rfl,?_⟩
 have e:decide (((st B key d:Nat):Int)=(b:Int))=decide (st B key d=b):=by
  by_cases h:st B key d=b
  ·rw[decide_eq_true h,decide_eq_true (by rw[h])]
  ·rw[decide_eq_false h,decide_eq_false (by omega)]
 show Q (.bl (decide (mK (B:Int) (key:Int) (d:Int)=(b:Int)))) H
 rw[rO,e];exact q
def ED (K:cW)(A:Adr):Ln (ii K A) 3:=by rintro vs H Q E ⟨x,l,r,d,b,B,key,rfl,_⟩;rfl
def Lz (T:Txt K mg A):Rd (ii K A) (OJ K A) ["self","bits","key"]:=by
 intro vs H Q E h
 obtain⟨x,l,r,d,b,B,key,rfl,⟨dx,t,m,o⟩,hd,q⟩:=h
 refine⟨x,_,dx,_,_,rfl,o,T.cl_Fork,T.na_Fork_depth,rfl,_,_,_,rfl,by omega,by omega,?_⟩
 rw[nE hd]
 refine Sel.dec (fun h=>?_) (fun h=>?_)
 ·have h:sd B key d=0:=by have h:((sd B key d:Nat):Int)=0:=h;omega
  rw[if_pos h]at q
  exact⟨x,_,dx,_,_,rfl,o,T.cl_Fork,T.na_Fork_left,rfl,q⟩
 ·have h:¬sd B key d=0:=by have h:¬((sd B key d:Nat):Int)=0:=h;omega
  rw[if_neg h]at q
  exact⟨x,_,dx,_,_,rfl,o,T.cl_Fork,T.na_Fork_right,rfl,q⟩
def Ih (K:cW)(A:Adr):Ln (lG K A) 3:=by rintro vs H Q E ⟨x,l,r,d,b,B,key,rfl,_⟩;rfl
def LO (T:Txt K mg A):Rd (lG K A) (PF K A) ["self","bits","key"]:=by
 intro vs H Q E h
 obtain⟨x,l,r,d,b,B,key,rfl,⟨dx,t,m,o⟩,hd,q⟩:=h
 refine⟨x,_,dx,_,_,rfl,o,T.cl_Fork,T.na_Fork_depth,rfl,_,_,_,rfl,by omega,by omega,?_⟩
 rw[nE hd]
 refine Sel.dec (fun h=>?_) (fun h=>?_)
 ·have h:sd B key d=0:=by have h:((sd B key d:Nat):Int)=0:=h;omega
  rw[if_pos h]at q
  exact⟨x,_,dx,_,_,rfl,o,T.cl_Fork,T.na_Fork_right,rfl,q⟩
 ·have h:¬sd B key d=0:=by have h:¬((sd B key d:Nat):Int)=0:=h;omega
  rw[if_neg h]at q
  exact⟨x,_,dx,_,_,rfl,o,T.cl_Fork,T.na_Fork_left,rfl,q⟩
def Nb (K:cW)(A:Adr):Ln (oS K A) 3:=by rintro vs H Q E ⟨x,g,t,m,B,key,rfl,_⟩;rfl
def GX (K:cW)(A:Adr):Ln (kO K A) 3:=by rintro vs H Q E ⟨x,g,t,m,B,key,rfl,_⟩;rfl
def FG (K:cW)(A:Adr)(n:Nat):Ln (jJ K A n) 3:=by rintro vs H Q E ⟨x,g,t,m,B,key,rfl,_⟩;rfl
def BQ (K:cW)(A:Adr):∀vs H Q E,jJ K A 0 vs H Q E->False:=by rintro vs H Q E ⟨x,g,t,m,B,key,rfl,_,_,h,_⟩;omega
def Kof.b {H:Hp}{g:gOp}{x:Addr}{t:Kn Str}{m:Key}(h:Kof A H 0 g x t m):t=.bare:=by
 obtain⟨k,e⟩:=h;cases t<;>first|rfl|cases e
def kd1 {t:Kn Str}(e:kdK t=1):∃k z,t=.leaf k z:=by cases t<;>first|exact⟨_,_,rfl⟩|cases e
def kd2 {t:Kn Str}(e:kdK t=2):∃d b l r,t=.fork d b l r:=by cases t<;>first|exact⟨_,_,_,_,rfl⟩|cases e
def yA {H:Hp}{g:gOp}{x:Addr}{t:Kn Str}{m:Key}{sB sL sF:Sp}(nm:Str)(hn:nm="found"\/nm="rows"\/nm="with_key"\/nm="without")(h:KnA A H g x t m)(R:Sp->Prop)(q0:kdK t=0->R sB)(q1:kdK t=1->R sL)(q2:kdK t=2->R sF):
  ∃a C dx fs sp,V.ref x=.ref a/\H a=some (.ins C dx fs)/\(C,sp)∈[(A.c_Bare,sB),(A.c_Leaf,sL),(A.c_Fork,sF)]/\fs.lookup nm=none/\R sp:=by
 obtain⟨dx,p,fs,o,l⟩:=h.ob
 cases t with
 |bare=>exact⟨x,_,_,_,sB,rfl,o,Rb,l nm hn,q0 rfl⟩
 |leaf _ _=>exact⟨x,_,_,_,sL,rfl,o,QN _ Rb,l nm hn,q1 rfl⟩
 |fork _ _ _ _=>exact⟨x,_,_,_,sF,rfl,o,QN _ (QN _ Rb),l nm hn,q2 rfl⟩
def kdh {t:Kn Str}{i:Nat}(e:kdK t=i)(hi:i<2):hgt t<70:=by
 cases t with
 |bare=>show 0<70;decide
 |leaf _ _=>show 0<70;decide
 |fork _ _ _ _=>have:2=i:=e;omega
def jW {n:Nat}{H:Hp}{Q:VK}{E:XK}{g:gOp}{x:Addr}{t:Kn Str}{m:Key}{B key:Nat}(k:KnA A H g x t m)(dp:gw B t)(hn:hgt t<n)(q:Q (ov (aM B key t)) H):
  ∃a C dx fs sp,V.ref x=.ref a/\H a=some (.ins C dx fs)/\(C,sp)∈[(A.c_Bare,oS K A),(A.c_Leaf,kO K A),(A.c_Fork,jJ K A n)]/\fs.lookup ("found":Str)=none/\sp [.ref x,.int (B:Int),.int (key:Int)] H Q E:=
 yA "found" (.inl rfl) k (fun sp=>sp [.ref x,.int (B:Int),.int (key:Int)] H Q E) (fun e=>⟨x,g,t,m,B,key,rfl,⟨k,e⟩,dp,kdh e (by decide),q⟩) (fun e=>⟨x,g,t,m,B,key,rfl,⟨k,e⟩,dp,kdh e (by decide),q⟩) (fun e=>⟨x,g,t,m,B,key,rfl,⟨k,e⟩,dp,hn,q⟩)
def OC (T:Txt K mg A):Rd (oS K A) (T_1 K A) ["self","bits","key"]:=by
 intro vs H Q E h
 obtain⟨x,g,t,m,B,key,rfl,k,_,_,q⟩:=h
 cases k.b
 exact q
def Me (T:Txt K mg A):Rd (kO K A) (Oo K A) ["self","bits","key"]:=by
 intro vs H Q E h
 obtain⟨x,g,t,m,B,key,rfl,⟨k,e⟩,_,_,q⟩:=h
 obtain⟨kk,z,rfl⟩:=kd1 e
 cases k with
 | @leaf _ dx _ _ _ _ o _ _ _ _ _=>
   refine⟨x,_,dx,_,_,rfl,o,T.cl_Leaf,T.na_Leaf_key,rfl,Sel.dec (fun h=>?_) (fun h=>?_)⟩
   ·have h:key=kk:=by have h:(key:Int)=(kk:Int):=h;omega
    have q:Q (ov (if key=kk then some z else none)) H:=q
    rw[if_pos h]at q
    exact⟨x,_,dx,_,_,rfl,o,T.cl_Leaf,T.na_Leaf_text,rfl,q⟩
   ·have h:¬key=kk:=by have h:¬(key:Int)=(kk:Int):=h;omega
    have q:Q (ov (if key=kk then some z else none)) H:=q
    rw[if_neg h]at q
    exact q
def JM (T:Txt K mg A)(n:Nat):Rd (jJ K A (n+1)) (NV K A n) ["self","bits","key"]:=by
 intro vs H Q E h
 obtain⟨x,g,t,m,B,key,rfl,⟨k,e⟩,dp,hn,q⟩:=h
 obtain⟨d,b,tl,tr,rfl⟩:=kd2 e
 obtain⟨l,r,ml,mr,fk,kl,kr⟩:=k.fk
 obtain⟨dx,p,mm,o⟩:=id fk
 have q:Q (ov (if sd B key d=0 then aM B key tl else aM B key tr)) H:=q
 have hh:max (hgt tl) (hgt tr)+1<n+1:=hn
 refine⟨x,dx,_,rfl,o,rfl,x,l,r,d,b,B,key,rfl,fk,dp.1,?_⟩
 by_cases hs:sd B key d=0
 ·rw[if_pos hs]at q⊢
  exact jW (n:=n) kl dp.2.2.1 (by omega) q
 ·rw[if_neg hs]at q⊢
  exact jW (n:=n) kr dp.2.2.2 (by omega) q
def vL {α β:Type}{F:α->β->Prop}{l₁ m₁:List α}{l₂ m₂:List β}(h:Paired F l₁ l₂)(h':Paired F m₁ m₂):Paired F (l₁++m₁) (l₂++m₂):=by
 induction h with
 |nil=>exact h'
 |cons r _ ih=>exact .cons r ih
def Hh (K:cW)(A:Adr):Ln (mO K A) 5:=by rintro vs H Q E ⟨f,b,x,y,g,n,B,d,key,z,t,m,m',rfl,_⟩;rfl
def Iv {B key d:Nat}(h:key<2^B)(hB:B<=60):st B key d<2^60:=by
 have:2^B<=2^60:=Sd (by decide) hB
 exact RX (Nat.div_le_self _ _) (Ra h this)
def IT (T:Txt K mg A):Rd (mO K A) (Om K A) ["stamper","bits","depth","leaf","knot","begin"]:=by
 intro vs H Q E h
 obtain⟨f,b,x,y,g,n,B,d,key,z,t,m,m',rfl,ks,hn,ky,hd,hk,q⟩:=h
 have B60:=ks.B60
 have sz:=ks.sz
 obtain⟨dy,p,oy⟩:∃dy p,H y=some (.ins A.c_Leaf dy [("term",.ref p),("mark",kV m'),("key",.int (key:Int)),("text",.str z)]):=by cases ky with|leaf o _ _ _ _ _=>exact⟨_,_,o⟩
 refine⟨y,_,dy,_,_,rfl,oy,T.cl_Leaf,T.na_Leaf_key,rfl,_,_,_,rfl,by omega,y,_,dy,_,_,rfl,oy,T.cl_Leaf,T.na_Leaf_key,rfl,_,_,_,rfl,by omega,by omega,?_⟩
 rw[nE hd,rO]
 unfold fE at q
 refine Sel.dec (fun h=>?_) (fun h=>?_)
 ·have h:sd B key d=0:=by have h:((sd B key d:Nat):Int)=0:=h;omega
  rw[if_pos h]at q
  intro x' dx' hx hdx ne
  exact kS hx hdx ne ks.s hn (by omega) (Iv hk B60) ky ks.k (by show 400+_<=_;omega) q
 ·have h:¬sd B key d=0:=by have h:¬((sd B key d:Nat):Int)=0:=h;omega
  rw[if_neg h]at q
  intro x' dx' hx hdx ne
  exact kS hx hdx ne ks.s hn (by omega) (Iv hk B60) ks.k ky (by show _+400<=_;omega) q
def HU (K:cW)(A:Adr):Ln (nj K A) 5:=by rintro vs H Q E ⟨x,f,b,l,r,y,g,n,B,d,e,key,tl,tr,t,m,ml,mr,rfl,_⟩;rfl
def Mw (T:Txt K mg A):Rd (nj K A) (Qb K A) ["self","stamper","bits","key","knot"]:=by
 intro vs H Q E h
 obtain⟨x,f,b,l,r,y,g,n,B,d,e,key,tl,tr,t,m,ml,mr,rfl,⟨dx,p,mm,o⟩,kl,kr,ky,s,hn,hd,B60,e60,sz,q⟩:=h
 refine⟨x,_,dx,_,_,rfl,o,T.cl_Fork,T.na_Fork_depth,rfl,_,_,_,rfl,by omega,by omega,?_⟩
 rw[nE hd]
 refine Sel.dec (fun h=>?_) (fun h=>?_)
 ·have h:sd B key d=0:=by have h:((sd B key d:Nat):Int)=0:=h;omega
  rw[if_pos h]at q sz
  refine⟨x,_,dx,_,_,rfl,o,T.cl_Fork,T.na_Fork_depth,rfl,x,_,dx,_,_,rfl,o,T.cl_Fork,T.na_Fork_begin,rfl,x,_,dx,_,_,rfl,o,T.cl_Fork,T.na_Fork_right,rfl,fun x' dx' hx hdx ne=>?_⟩
  exact kS hx hdx ne s hn (by omega) e60 ky kr (by omega) q
 ·have h:¬sd B key d=0:=by have h:¬((sd B key d:Nat):Int)=0:=h;omega
  rw[if_neg h]at q sz
  refine⟨x,_,dx,_,_,rfl,o,T.cl_Fork,T.na_Fork_depth,rfl,x,_,dx,_,_,rfl,o,T.cl_Fork,T.na_Fork_begin,rfl,x,_,dx,_,_,rfl,o,T.cl_Fork,T.na_Fork_left,rfl,fun x' dx' hx hdx ne=>?_⟩
  exact kS hx hdx ne s hn (by omega) e60 kl ky (by omega) q
def nS {H H':Hp}{x dx b:Addr}{o u:HO}(hx:H x=none)(hdx:H dx=none)(ne:dx≠x)(k:aW b x (upd (upd H dx o) x u) H'):bN b H H':=fun z o zb e=>k z o zb (aq e hx) (ci hx hdx ne _ _ e)
def JV (K:cW)(A:Adr):Ln (nY K A) 5:=by rintro vs H Q E ⟨x,f,b,g,n,B,key,z,t,m,rfl,_⟩;rfl
def EZ (K:cW)(A:Adr):Ln (kW K A) 5:=by rintro vs H Q E ⟨x,f,b,g,n,B,key,z,t,m,rfl,_⟩;rfl
def Ho (K:cW)(A:Adr)(j:Nat):∀vs H Q E,jA K A j vs H Q E->vs.length=5:=by rintro vs H Q E ⟨x,f,b,g,n,B,key,z,t,m,rfl,_⟩;rfl
def CF (K:cW)(A:Adr):∀vs H Q E,jA K A 0 vs H Q E->False:=by rintro vs H Q E ⟨x,f,b,g,n,B,key,z,t,m,rfl,_,_,_,_,_,_,h,_⟩;omega
def uH {B key:Nat}(h:key<2^B)(hB:B<=60):key<2^60:=Ra h (Sd (by decide) hB)
def Qa (T:Txt K mg A):Rd (nY K A) (T_2 K A) ["self","stamper","bits","key","value"]:=by
 intro vs H Q E h
 obtain⟨x,f,b,g,n,B,key,z,t,m,rfl,ks,e,hn,_,hk,hz,_,_,q⟩:=h
 cases (Kof.b (A:=A) ⟨ks.k,e⟩)
 intro x' dx' hx hdx ne
 exact Do hx hdx ne ks.s (by omega) (uH hk ks.B60) hz (q.le (by show 1<=0+2;decide))
def KnQ.after {H H1:Hp}{f b:Addr}{g g1:gOp}{n c c1:Nat}{t:Kn Str}{Q:VK}(q:KnQ A H f b g n (c1+c) t Q)(kb:bN b H H1)(sub:Sub g g1):KnQ A H1 f b g1 (n+c1) c t Q:=fun y m g' H' kb' k s sub'=>q y m g' H' (kb.trans kb') k (s.same (by omega) au.rfl') (sub.trans sub')
def Nl (T:Txt K mg A):Rd (kW K A) (Pb K A) ["self","stamper","bits","key","value","leaf"]:=by
 intro vs H Q E h
 obtain⟨x,f,b,g,n,B,key,z,t,m,rfl,ks,e,hn,hr,hk,hz,_,_,q⟩:=h
 obtain⟨kk,z',rfl⟩:=kd1 e
 have hkk:kk<2^B:=hr (kk,z') Rb
 intro y dx' hx hdx ne
 refine⟨y,dx',f,b,g,n,key,z,rfl,ag,ks.s.same (gV _) (ci hx hdx ne),by omega,uH hk ks.B60,hz,fun m' g1 H1 k2 ky s1 sub=>⟨rfl,?_⟩⟩
 have kb:=nS hx hdx ne k2
 have kx:=ks.k.kb ks.s kb sub
 obtain⟨dy,p,oy⟩:∃dy p,H1 x=some (.ins A.c_Leaf dy [("term",.ref p),("mark",kV m),("key",.int (kk:Int)),("text",.str z')]):=by cases kx with|leaf o _ _ _ _ _=>exact⟨_,_,o⟩
 refine⟨x,_,dy,_,_,rfl,oy,T.cl_Leaf,T.na_Leaf_key,rfl,Sel.dec (fun h=>?_) (fun h=>?_)⟩
 ·have h:key=kk:=by have h:(key:Int)=(kk:Int):=h;omega
  have q:KnQ A H f b g n (0+2) (if key=kk then .leaf key z else fE B (al B key kk) key z (.leaf kk z')) Q:=q
  rw[if_pos h]at q
  exact q y m' g1 H1 kb ky (s1.same (by omega) au.rfl') sub
 ·have h:¬key=kk:=by have h:¬(key:Int)=(kk:Int):=h;omega
  have q:KnQ A H f b g n (0+2) (if key=kk then .leaf key z else fE B (al B key kk) key z (.leaf kk z')) Q:=q
  rw[if_neg h]at q
  obtain⟨a1,_,_⟩:=qh hk hkk h
  refine⟨x,_,dy,_,_,rfl,oy,T.cl_Leaf,T.na_Leaf_key,rfl,B,key,kk,al B key kk,rfl,hk,hkk,kB hk hkk,f,b,x,y,g1,n+1,B,al B key kk,key,z,.leaf kk z',m,m',rfl,⟨kx,s1,ks.B60,trivial,by show 1<=100;decide,by show 400<=80000;decide⟩,by omega,ky,a1,hk,?_⟩
  exact KnQ.after (c1:=1) (c:=1) q kb sub
def lS {j:Nat}{H:Hp}{Q:VK}{E:XK}{f b x:Addr}{g:gOp}{n B key:Nat}{z:Str}{t:Kn Str}{m:Key}(ks:KnS A H f b g n B x t m)(hn:n+hgt t+10<=45000)(hr:∀p∈bv t,p.1<2^B)(hk:key<2^B)(hz:fQ z)(hj:hgt t<j)(sz:szN t<=70000)
  (q:KnQ A H f b g n (hgt t+2) (df B key z t) Q):
  ∃a C dx fs sp,V.ref x=.ref a/\H a=some (.ins C dx fs)/\(C,sp)∈[(A.c_Bare,nY K A),(A.c_Leaf,kW K A),(A.c_Fork,jA K A j)]/\fs.lookup ("with_key":Str)=none/\sp [.ref x,.ref f,.int (B:Int),.int (key:Int),.str z] H Q E:=
 yA "with_key" (.inr (.inr (.inl rfl))) ks.k (fun sp=>sp [.ref x,.ref f,.int (B:Int),.int (key:Int),.str z] H Q E) (fun e=>⟨x,f,b,g,n,B,key,z,t,m,rfl,ks,e,hn,hr,hk,hz,kdh e (by decide),sz,q⟩)
  (fun e=>⟨x,f,b,g,n,B,key,z,t,m,rfl,ks,e,hn,hr,hk,hz,kdh e (by decide),sz,q⟩) (fun e=>⟨x,f,b,g,n,B,key,z,t,m,rfl,ks,e,hn,hr,hk,hz,hj,sz,q⟩)
def KnS.side {H:Hp}{f b x y:Addr}{g:gOp}{n B d e:Nat}{tl tr t:Kn Str}{m m':Key}(h:KnS A H f b g n B x (.fork d e tl tr) m)(k:KnA A H g y t m')(ht:t=tl\/t=tr):KnS A H f b g n B y t m'/\szN t<=szN (.fork d e tl tr)/\hgt t+1<=hgt (.fork d e tl tr)/\∀p∈bv t,p∈bv (.fork d e tl tr):=by
 have e1:szN (.fork d e tl tr)=300+szN tl+szN tr:=rfl
 have e2:(bv (.fork d e tl tr)).length=(bv tl).length+(bv tr).length:=QP
 have e3:hgt (.fork d e tl tr)=max (hgt tl) (hgt tr)+1:=rfl
 have ln:=h.ln
 have sz:=h.sz
 rcases ht with rfl|rfl
 ·exact⟨⟨k,h.s,h.B60,h.dp.2.2.1,by omega,by omega⟩,by omega,by omega,fun p hp=>Sy _ hp⟩
 ·exact⟨⟨k,h.s,h.B60,h.dp.2.2.2,by omega,by omega⟩,by omega,by omega,fun p hp=>Ru _ hp⟩
def ip.keep {H H':Hp}{x:Addr}{d b:Nat}{l r:Addr}(h:ip A H x d b l r)(k:∀z o,H z=some o->knO o->H' z=some o):ip A H' x d b l r:=by
 obtain⟨dx,t,m,o⟩:=h
 exact⟨dx,t,m,k _ _ o (.inr ⟨_,_,_,_,_,rfl⟩)⟩
def Nq (T:Txt K mg A)(j:Nat)(vs:List V)(H:Hp)(Q:VK)(E:XK)(h:jA K A (j+1) vs H Q E):Oq K A j {nx:=fun _ H'=>Q .non H',rt:=Q} (L2.cO ["self","stamper","bits","key","value","depth"] vs) H:=by
 obtain⟨x,f,b,g,n,B,key,z,t,m,rfl,ks,e,hn,hr,hk,hz,hj,sz,q⟩:=h
 obtain⟨d,bb,tl,tr,rfl⟩:=kd2 e
 obtain⟨l,r,ml,mr,fk,kl,kr⟩:=ks.k.fk
 obtain⟨dx,p,mm,o⟩:=id fk
 have dp:=ks.dp
 have B60:=ks.B60
 have b60:bb<2^60:=Ra dp.2.1 (Sd (by decide) (by have:=dp.1;omega))
 have q:KnQ A H f b g n (hgt (.fork d bb tl tr)+2) (if st B key d=bb then(if sd B key d=0 then .fork d bb (df B key z tl) tr else .fork d bb tl (df B key z tr))else fE B (al d bb (st B key d)) key z (.fork d bb tl tr)) Q:=q
 refine⟨x,dx,_,rfl,o,rfl,x,l,r,d,bb,B,key,rfl,fk,dp.1,?_⟩
 by_cases hb:st B key d=bb
 ·rw[if_pos hb]at q
  rw[decide_eq_true hb]
  refine Sel.no rfl ⟨x,dx,_,rfl,o,rfl,x,dx,_,rfl,o,rfl,x,l,r,d,bb,B,key,rfl,fk,dp.1,?_⟩
  by_cases hs:sd B key d=0
  ·rw[if_pos hs]at q⊢
   obtain⟨k1,k2,k3,k4⟩:=ks.side kl (.inl rfl)
   refine lS (j:=j) k1 (by omega) (fun p hp=>hr p (k4 p hp)) hk hz (by omega) (by omega) fun y m1 g1 H1 kb ky s1 sub=>?_
   have kn:=bN.kn ks.s kb
   have s2:=jo (B:=B) (key:=key) (z:=z) tl
   have s3:szN (.fork d bb tl tr)=300+szN tl+szN tr:=rfl
   refine⟨x,f,b,l,r,y,g1,n+(hgt tl+2),B,d,bb,key,tl,tr,df B key z tl,m1,ml,mr,rfl,fk.keep kn,kl.keep kn sub,kr.keep kn sub,ky,s1,by omega,dp.1,B60,b60,by rw[if_pos hs];omega,?_⟩
   rw[if_pos hs]
   exact KnQ.after (c1:=hgt tl+2) (c:=1) (q.le (by omega)) kb sub
  ·rw[if_neg hs]at q⊢
   obtain⟨k1,k2,k3,k4⟩:=ks.side kr (.inr rfl)
   refine lS (j:=j) k1 (by omega) (fun p hp=>hr p (k4 p hp)) hk hz (by omega) (by omega) fun y m1 g1 H1 kb ky s1 sub=>?_
   have kn:=bN.kn ks.s kb
   have s2:=jo (B:=B) (key:=key) (z:=z) tr
   have s3:szN (.fork d bb tl tr)=300+szN tl+szN tr:=rfl
   refine⟨x,f,b,l,r,y,g1,n+(hgt tr+2),B,d,bb,key,tl,tr,df B key z tr,m1,ml,mr,rfl,fk.keep kn,kl.keep kn sub,kr.keep kn sub,ky,s1,by omega,dp.1,B60,b60,by rw[if_neg hs];omega,?_⟩
   rw[if_neg hs]
   exact KnQ.after (c1:=hgt tr+2) (c:=1) (q.le (by omega)) kb sub
 ·rw[if_neg hb]at q
  rw[decide_eq_false hb]
  refine Sel.yes rfl ⟨x,_,dx,_,_,rfl,o,T.cl_Fork,T.na_Fork_depth,rfl,x,_,dx,_,_,rfl,o,T.cl_Fork,T.na_Fork_begin,rfl,x,_,dx,_,_,rfl,o,T.cl_Fork,T.na_Fork_depth,rfl,_,_,_,rfl,by have:=dp.1;omega,?_⟩
  rw[rO]
  have hst:st B key d<2^d:=by
   have e:2^B=2^d*2^(B- d):=by rw[<-Ui];congr 1;have:=dp.1;omega
   exact(Ux (Th _)).mpr (by rw[<-e];exact hk)
  obtain⟨a1,_,_⟩:=qh dp.2.1 hst (QU hb)
  refine⟨d,bb,st B key d,al d bb (st B key d),rfl,dp.2.1,hst,kB dp.2.1 hst,fun y dy hy hdy ne=>?_⟩
  refine⟨y,dy,f,b,g,n,key,z,rfl,ag,ks.s.same (gV _) (ci hy hdy ne),by omega,uH hk B60,hz,fun m' g1 H1 k2 ky s1 sub=>⟨rfl,?_⟩⟩
  have kb:=nS hy hdy ne k2
  refine⟨f,b,x,y,g1,n+1,B,al d bb (st B key d),key,z,.fork d bb tl tr,m,m',rfl,⟨ks.k.kb ks.s kb sub,s1,B60,dp,ks.ln,ks.sz⟩,by omega,ky,by have:=dp.1;omega,hk,?_⟩
  exact KnQ.after (c1:=1) (c:=1) (q.le (by omega)) kb sub
def MI (K:cW)(A:Adr):Ln (og K A) 4:=by rintro vs H Q E ⟨x,f,b,g,n,B,key,t,m,rfl,_⟩;rfl
def HM (K:cW)(A:Adr):Ln (kR K A) 4:=by rintro vs H Q E ⟨x,f,b,g,n,B,key,t,m,rfl,_⟩;rfl
def GZ (K:cW)(A:Adr)(j:Nat):∀vs H Q E,jK K A j vs H Q E->vs.length=4:=by rintro vs H Q E ⟨x,f,b,g,n,B,key,t,m,rfl,_⟩;rfl
def CT (K:cW)(A:Adr):∀vs H Q E,jK K A 0 vs H Q E->False:=by rintro vs H Q E ⟨x,f,b,g,n,B,key,t,m,rfl,_,_,_,h,_⟩;omega
def Ox (T:Txt K mg A):Rd (og K A) (T_3 K A) ["self","stamper","bits","key"]:=by
 intro vs H Q E h
 obtain⟨x,f,b,g,n,B,key,t,m,rfl,ks,e,hn,hj,q⟩:=h
 cases (Kof.b (A:=A) ⟨ks.k,e⟩)
 exact q x m g H bN.rfl' ks.k (ks.s.same (by omega) au.rfl') Sub.rfl'
def JE (T:Txt K mg A):Rd (kR K A) (Qf K A) ["self","stamper","bits","key"]:=by
 intro vs H Q E h
 obtain⟨x,f,b,g,n,B,key,t,m,rfl,ks,e,hn,hj,q⟩:=h
 obtain⟨kk,z',rfl⟩:=kd1 e
 obtain⟨dy,p,oy⟩:∃dy p,H x=some (.ins A.c_Leaf dy [("term",.ref p),("mark",kV m),("key",.int (kk:Int)),("text",.str z')]):=by cases ks.k with|leaf o _ _ _ _ _=>exact⟨_,_,o⟩
 have q:KnQ A H f b g n (0+1) (if key=kk then .bare else .leaf kk z') Q:=q
 refine⟨x,_,dy,_,_,rfl,oy,T.cl_Leaf,T.na_Leaf_key,rfl,Sel.dec (fun h=>?_) (fun h=>?_)⟩
 ·have h:key=kk:=by have h:(key:Int)=(kk:Int):=h;omega
  rw[if_pos h]at q
  intro x' dx' hx hdx ne
  exact Ej hx hdx ne ks.s (by omega) q
 ·have h:¬key=kk:=by have h:¬(key:Int)=(kk:Int):=h;omega
  rw[if_neg h]at q
  exact q x m g H bN.rfl' ks.k (ks.s.same (by omega) au.rfl') Sub.rfl'
def ix {j:Nat}{H:Hp}{Q:VK}{E:XK}{f b x:Addr}{g:gOp}{n B key:Nat}{t:Kn Str}{m:Key}(ks:KnS A H f b g n B x t m)(hn:n+hgt t+10<=45000)(hj:hgt t<j)(q:KnQ A H f b g n (hgt t+1) (bn B key t) Q):
  ∃a C dx fs sp,V.ref x=.ref a/\H a=some (.ins C dx fs)/\(C,sp)∈[(A.c_Bare,og K A),(A.c_Leaf,kR K A),(A.c_Fork,jK K A j)]/\fs.lookup ("without":Str)=none/\sp [.ref x,.ref f,.int (B:Int),.int (key:Int)] H Q E:=
 yA "without" (.inr (.inr (.inr rfl))) ks.k (fun sp=>sp [.ref x,.ref f,.int (B:Int),.int (key:Int)] H Q E) (fun e=>⟨x,f,b,g,n,B,key,t,m,rfl,ks,e,hn,kdh e (by decide),q⟩)
  (fun e=>⟨x,f,b,g,n,B,key,t,m,rfl,ks,e,hn,kdh e (by decide),q⟩) (fun e=>⟨x,f,b,g,n,B,key,t,m,rfl,ks,e,hn,hj,q⟩)
def xQ {H:Hp}{g:gOp}{x:Addr}{t:Kn Str}{m:Key}(T:Txt K mg A)(k:KnA A H g x t m):∃C dx fs,H x=some (.ins C dx fs)/\Cls K C/\jy K C/\Sl K (.ref C) (.ref A.c_Bare)=some (decide (kdK t=0)):=by
 obtain⟨dx,p,fs,o,_⟩:=k.ob
 cases t with
 |bare=>exact⟨_,dx,_,o,T.cl_Bare,T.oi_Bare,T.ko_Bare_Bare⟩
 |leaf _ _=>exact⟨_,dx,_,o,T.cl_Leaf,T.oi_Leaf,T.ko_Leaf_Bare⟩
 |fork _ _ _ _=>exact⟨_,dx,_,o,T.cl_Fork,T.oi_Fork,T.ko_Fork_Bare⟩
def Mq (T:Txt K mg A)(j:Nat)(vs:List V)(H:Hp)(Q:VK)(E:XK)(h:jK K A (j+1) vs H Q E):Ot K A j {nx:=fun _ H'=>Q .non H',rt:=Q} (L2.cO ["self","stamper","bits","key","rest"] vs) H:=by
 obtain⟨x,f,b,g,n,B,key,t,m,rfl,ks,e,hn,hj,q⟩:=h
 obtain⟨d,bb,tl,tr,rfl⟩:=kd2 e
 obtain⟨l,r,ml,mr,fk,kl,kr⟩:=ks.k.fk
 obtain⟨dx,p,mm,o⟩:=id fk
 have dp:=ks.dp
 have B60:=ks.B60
 have sz:=ks.sz
 have b60:bb<2^60:=Ra dp.2.1 (Sd (by decide) (by have:=dp.1;omega))
 have s3:szN (.fork d bb tl tr)=300+szN tl+szN tr:=rfl
 refine⟨x,dx,_,rfl,o,rfl,x,l,r,d,bb,B,key,rfl,fk,dp.1,?_⟩
 by_cases hs:sd B key d=0
 ·rw[if_pos hs]
  obtain⟨k1,k2,k3,k4⟩:=ks.side kl (.inl rfl)
  refine ix (j:=j) k1 (by omega) (by omega) fun y m1 g1 H1 kb ky s1 sub=>?_
  have kn:=bN.kn ks.s kb
  have s2:=gj (B:=B) (key:=key) tl
  have fk1:=fk.keep kn
  obtain⟨dx1,p1,mm1,o1⟩:=id fk1
  obtain⟨C,dz,fz,oz,c1,c2,c3⟩:=xQ T ky
  refine⟨y,C,dz,fz,_,_,rfl,oz,c1,c2,c3,?_⟩
  rw[jZ]at q
  rw[if_pos hs]at q
  by_cases hbr:kdK (bn B key tl)=0
  ·rw[if_pos hbr]at q
   rw[decide_eq_true hbr]
   refine Sel.yes rfl ⟨x,dx1,_,rfl,o1,rfl,x,l,r,d,bb,B,key,rfl,fk1,dp.1,?_⟩
   rw[if_pos hs]
   exact q r mr g1 H1 kb (kr.keep kn sub) (s1.same (by omega) au.rfl') sub
  ·rw[if_neg hbr]at q
   rw[decide_eq_false hbr]
   refine Sel.no rfl ⟨x,dx1,_,rfl,o1,rfl,x,f,b,l,r,y,g1,n+(hgt tl+1),B,d,bb,key,tl,tr,bn B key tl,m1,ml,mr,rfl,fk1,kl.keep kn sub,kr.keep kn sub,ky,s1,by omega,dp.1,B60,b60,by rw[if_pos hs];omega,?_⟩
   rw[if_pos hs]
   exact KnQ.after (c1:=hgt tl+1) (c:=1) (q.le (by omega)) kb sub
 ·rw[if_neg hs]
  obtain⟨k1,k2,k3,k4⟩:=ks.side kr (.inr rfl)
  refine ix (j:=j) k1 (by omega) (by omega) fun y m1 g1 H1 kb ky s1 sub=>?_
  have kn:=bN.kn ks.s kb
  have s2:=gj (B:=B) (key:=key) tr
  have fk1:=fk.keep kn
  obtain⟨dx1,p1,mm1,o1⟩:=id fk1
  obtain⟨C,dz,fz,oz,c1,c2,c3⟩:=xQ T ky
  refine⟨y,C,dz,fz,_,_,rfl,oz,c1,c2,c3,?_⟩
  rw[jZ]at q
  rw[if_neg hs]at q
  by_cases hbr:kdK (bn B key tr)=0
  ·rw[if_pos hbr]at q
   rw[decide_eq_true hbr]
   refine Sel.yes rfl ⟨x,dx1,_,rfl,o1,rfl,x,l,r,d,bb,B,key,rfl,fk1,dp.1,?_⟩
   rw[if_neg hs]
   exact q l ml g1 H1 kb (kl.keep kn sub) (s1.same (by omega) au.rfl') sub
  ·rw[if_neg hbr]at q
   rw[decide_eq_false hbr]
   refine Sel.no rfl ⟨x,dx1,_,rfl,o1,rfl,x,f,b,l,r,y,g1,n+(hgt tr+1),B,d,bb,key,tl,tr,bn B key tr,m1,ml,mr,rfl,fk1,kl.keep kn sub,kr.keep kn sub,ky,s1,by omega,dp.1,B60,b60,by rw[if_neg hs];omega,?_⟩
   rw[if_neg hs]
   exact KnQ.after (c1:=hgt tr+1) (c:=1) (q.le (by omega)) kb sub
def kf {σ:L2.St}{H:Hp}{t:TA}{x:Addr}{nm:Str}{L:List (Addr×Sp)}{Q:VK}{E:XK}(vs:List V)(ht:∀R:List V->Hp->Prop,R vs H->t σ H R)(h:∃a C dx fs sp,V.ref x=.ref a/\H a=some (.ins C dx fs)/\(C,sp)∈L/\fs.lookup nm=none/\sp (.ref x::vs) H Q E):
  ∃a C dx fs sp,V.ref x=.ref a/\H a=some (.ins C dx fs)/\(C,sp)∈L/\fs.lookup nm=none/\t σ H fun ws H2=>sp (.ref x::ws) H2 Q E:=by
 obtain⟨a,C,dx,fs,sp,e,o,m,l,q⟩:=h
 exact⟨a,C,dx,fs,sp,e,o,m,l,ht _ q⟩
def Hw (K:cW)(A:Adr):Ln (kY K A) 3:=by rintro vs H Q E ⟨x,dx,f,b,g,n,v,d,rfl,_⟩;rfl
def Ba {d:Dat}(h:fI d=true):∃B:Nat,d=.int (B:Int)/\1<=B/\B<=60:=by
 cases d<;>first|cases h|skip
 rename_i i
 have h:1<=i/\i<=60:=of_decide_eq_true h
 obtain⟨y,hy⟩:=Sf (a:=i) (by omega)
 exact⟨y,by rw[hy],by omega,by omega⟩
def gJ {B:Nat}{d:Dat}(h:cC (B:Int) d=true):∃k:Nat,d=.int (k:Int)/\k<2^B:=by
 cases d<;>first|cases h|skip
 rename_i i
 have h:0<=i/\i<2^(B:Int).toNat:=of_decide_eq_true h
 obtain⟨y,hy⟩:=Sf (a:=i) h.1
 refine⟨y,by rw[hy],?_⟩
 have h2:=h.2
 rw[hy,show(B:Int).toNat=B by omega,<-gy]at h2
 omega
def Dl {d:Dat}(ok:okD d=true)(h:gc d=true):∃z,d=.str z/\fQ z:=by
 cases d<;>first|cases h|skip
 rename_i z
 exact⟨z,rfl,(Gt.mp ok).1,of_decide_eq_true h⟩
def aV.int_inv {H:Hp}{v:V}{i:Int}(h:aV H v (.int i)):v=.int i:=by cases h;rfl
def aV.str_inv {H:Hp}{v:V}{z:Str}(h:aV H v (.str z)):v=.str z:=by cases h;rfl
def Jz (T:Txt K mg A):Rd (kY K A) (Pu K A) ["self","stamper","bits"]:=by
 intro vs H Q E h
 obtain⟨x,dx,f,b,g,n,v,d,rfl,hx,hd,s,hn,qE,q⟩:=h
 refine⟨v,d,rfl,hd,?_⟩
 cases hb:fI d with
 |false=>exact Sel.yes rfl (qE hb)
 |true=>
  obtain⟨B,rfl,B1,B60⟩:=Ba hb
  cases hd.int_inv
  have q:=q B rfl B1 B60
  refine Sel.no rfl ⟨x,A.c_Table,dx,[],rfl,hx,T.cl_Table,T.na_Table_stamper,by decide,?_⟩
  refine⟨x,A.c_Table,dx,_,rfl,ag,T.cl_Table,T.na_Table_bits,by show 1<1000;decide,?_⟩
  rw[eN]
  have e2:br "bits" (.int (B:Int)) (br "stamper" (.ref f) [])=([("stamper",.ref f),("bits",.int (B:Int))]:List (Str×V)):=rfl
  rw[e2]
  have hx1:upd H x (.ins A.c_Table dx [("stamper",.ref f),("bits",.int (B:Int))]) x=some (.ins A.c_Table dx [("stamper",.ref f),("bits",.int (B:Int))]):=ag
  have s1:Stp A (upd H x (.ins A.c_Table dx [("stamper",.ref f),("bits",.int (B:Int))])) f b g n:=s.put (gV _) hx fun v z=>nomatch z
  intro y dy hy hdy ne
  refine⟨y,dy,f,b,g,n,rfl,ag,s1.same (gV _) (ci hy hdy ne),hn,fun m g1 H1 k2 ky s2 sub=>⟨rfl,?_⟩⟩
  have kb:=nS hy hdy ne k2
  have hx2:=kb _ _ (s1.nb hx1 fun _ z=>nomatch z) hx1
  refine⟨x,A.c_Table,dx,_,rfl,hx2,T.cl_Table,T.na_Table_top,by show 2<1000;decide,?_⟩
  have e3:br "top" (.ref y) ([("stamper",.ref f),("bits",.int (B:Int))]:List (Str×V))=([("stamper",.ref f),("bits",.int (B:Int)),("top",.ref y)]:List (Str×V)):=rfl
  rw[e3]
  have ky':∀z u,H1 z=some u->knO u->upd H1 x (.ins A.c_Table dx [("stamper",.ref f),("bits",.int (B:Int)),("top",.ref y)]) z=some u:=fun z u ez hu=>by
   rw[ap (fun q=>by subst q;rw[hx2]at ez;cases ez;exact hu.tab)];exact ez
  refine q m g1 _ (fun z o zb zx e=>by rw[ap zx];exact kb z o zb (by rw[ap zx];exact e)) ⟨⟨dx,y,ag,ky.keep ky' Sub.rfl'⟩,B1,B60,.inl rfl⟩ (s2.put (gV _) hx2 fun v z=>?_) sub
  injection z with z;injection z with z;exact absurd z (by decide)
def GL (K:cW)(A:Adr):Ln (nA K A) 2:=by rintro vs H Q E ⟨x,f,g,B,t,m,v,d,rfl,_⟩;rfl
def KL (T:Txt K mg A):Rd (nA K A) (PY K A) ["self","key"]:=by
 intro vs H Q E h
 obtain⟨x,f,g,B,t,m,v,d,rfl,ta,hd,qE,q⟩:=h
 obtain⟨dx,y,o,ky⟩:=ta.ob
 have B60:=ta.B60
 refine⟨x,_,dx,_,_,rfl,o,T.cl_Table,T.na_Table_bits,rfl,(B:Int),v,d,rfl,by omega,by omega,hd,?_⟩
 cases hb:cC (B:Int) d with
 |false=>exact Sel.yes rfl (qE hb)
 |true=>
  obtain⟨key,rfl,hk⟩:=gJ hb
  cases hd.int_inv
  refine Sel.no rfl ⟨x,_,dx,_,_,rfl,o,T.cl_Table,T.na_Table_top,rfl,?_⟩
  exact kf [.int (B:Int),.int (key:Int)] (fun R r=>⟨x,_,dx,_,_,rfl,o,T.cl_Table,T.na_Table_bits,rfl,r⟩) (jW ky ta.wf.dp.1 (by have:=ta.wf.dp.2;omega) (q key rfl hk))
def Fq (K:cW)(A:Adr):Ln (qq K A) 1:=by rintro vs H Q E ⟨x,f,g,B,t,m,rfl,_⟩;rfl
def Nm (T:Txt K mg A):Rd (qq K A) (OT K A) ["self"]:=by
 intro vs H Q E h
 obtain⟨x,f,g,B,t,m,rfl,ta,q⟩:=h
 obtain⟨dx,y,o,ky⟩:=ta.ob
 obtain⟨dy,p,fs,oy,_⟩:=ky.ob
 exact⟨x,_,dx,_,_,rfl,o,T.cl_Table,T.na_Table_top,rfl,y,_,dy,_,_,rfl,oy,(cR T t).1,(cR T t).2.1,rfl,q⟩
def Hn (K:cW)(A:Adr):Ln (mL K A) 3:=by rintro vs H Q E ⟨x,f,b,g,n,B,t,m,v,w,d,e,rfl,_⟩;rfl
def TbA.top {H H1:Hp}{g g1:gOp}{x f b y:Addr}{B n n1:Nat}{t':Kn Str}{m':Key}{dx:Addr}{y0:Addr}(o:H x=some (.ins A.c_Table dx [("stamper",.ref f),("bits",.int (B:Int)),("top",.ref y0)]))(s:Stp A H f b g n)(kb:bN b H H1)(ky:KnA A H1 g1 y t' m')(s1:Stp A H1 f b g1 n1)(B1:1<=B)(B60:B<=60)(wf:WFo B t'):
  H1 x=some (.ins A.c_Table dx [("stamper",.ref f),("bits",.int (B:Int)),("top",.ref y0)])/\aW b x H (upd H1 x (.ins A.c_Table dx [("stamper",.ref f),("bits",.int (B:Int)),("top",.ref y)]))/\TbA A (upd H1 x (.ins A.c_Table dx [("stamper",.ref f),("bits",.int (B:Int)),("top",.ref y)])) g1 x f B t' m'/\Stp A (upd H1 x (.ins A.c_Table dx [("stamper",.ref f),("bits",.int (B:Int)),("top",.ref y)])) f b g1 n1:=by
 have hx2:=kb _ _ (s.nb o fun _ z=>nomatch z) o
 have ky':∀z u,H1 z=some u->knO u->upd H1 x (.ins A.c_Table dx [("stamper",.ref f),("bits",.int (B:Int)),("top",.ref y)]) z=some u:=fun z u ez hu=>by
  rw[ap (fun q=>by subst q;rw[hx2]at ez;cases ez;exact hu.tab)];exact ez
 refine⟨hx2,fun z o zb zx e=>by rw[ap zx];exact kb z o zb e,⟨⟨dx,y,ag,ky.keep ky' Sub.rfl'⟩,B1,B60,wf⟩,s1.put (gV _) hx2 fun v z=>?_⟩
 injection z with z;injection z with z;exact absurd z (by decide)
def TbS.kn {H:Hp}{x f b:Addr}{g:gOp}{n B:Nat}{t:Kn Str}{m:Key}(h:TbS A H x f b g n B t m):∃dx y,H x=some (.ins A.c_Table dx [("stamper",.ref f),("bits",.int (B:Int)),("top",.ref y)])/\KnS A H f b g n B y t m/\szN t<=70000/\hgt t<=60:=by
 obtain⟨dx,y,o,ky⟩:=h.ta.ob
 have ln:=h.ln
 have sz:=h.ta.wf.szN
 have dp:=h.ta.wf.dp
 have B60:=h.ta.B60
 exact⟨dx,y,o,⟨ky,h.s,B60,dp.1,by omega,by omega⟩,by omega,by omega⟩
def Lp (T:Txt K mg A):Rd (mL K A) (Qx K A) ["self","key","value","before"]:=by
 intro vs H Q E h
 obtain⟨x,f,b,g,n,B,t,m,v,w,d,e,rfl,ts,hn,hd,he,ok,qE,q⟩:=h
 obtain⟨dx,y,o,ks,sz,hg⟩:=ts.kn
 refine⟨x,dx,_,rfl,o,rfl,x,f,g,B,t,m,v,d,rfl,ts.ta,hd,qE,fun key ed hk=>?_⟩
 obtain⟨qV,qz⟩:=q key ed hk
 refine⟨w,e,rfl,he,ok,?_⟩
 cases hv:gc e with
 |false=>exact Sel.yes rfl (qV hv)
 |true=>
  obtain⟨z,rfl,hz⟩:=Dl ok hv
  cases he.str_inv
  subst ed
  cases hd.int_inv
  refine Sel.no rfl ⟨x,_,dx,_,_,rfl,o,T.cl_Table,T.na_Table_top,rfl,?_⟩
  refine kf [.ref f,.int (B:Int),.int (key:Int),.str z] (fun R r=>⟨x,_,dx,_,_,rfl,o,T.cl_Table,T.na_Table_stamper,rfl,x,_,dx,_,_,rfl,o,T.cl_Table,T.na_Table_bits,rfl,r⟩)
   (lS ks (by omega) ts.ta.wf.lt hk hz (by omega) sz fun y' m' g1 H1 kb ky s1 sub=>?_)
  obtain⟨hx2,k2,ta2,s2⟩:=TbA.top o ts.s kb ky s1 ts.ta.B1 ts.ta.B60 (ts.ta.wf.with hk).1
  exact⟨x,A.c_Table,dx,_,rfl,hx2,T.cl_Table,T.na_Table_top,by show 3<1000;decide,qz z rfl hz m' g1 _ k2 ta2 (s2.same (by omega) au.rfl') sub⟩
def HX (K:cW)(A:Adr):Ln (mI K A) 2:=by rintro vs H Q E ⟨x,f,b,g,n,B,t,m,v,d,rfl,_⟩;rfl
def Jh (T:Txt K mg A):Rd (mI K A) (Od K A) ["self","key","before"]:=by
 intro vs H Q E h
 obtain⟨x,f,b,g,n,B,t,m,v,d,rfl,ts,hn,hd,qE,q⟩:=h
 obtain⟨dx,y,o,ks,sz,hg⟩:=ts.kn
 refine⟨x,dx,_,rfl,o,rfl,x,f,g,B,t,m,v,d,rfl,ts.ta,hd,qE,fun key ed hk=>?_⟩
 obtain⟨qM,qz⟩:=q key ed hk
 subst ed
 cases hd.int_inv
 cases hf:aM B key t with
 |none=>exact Sel.yes rfl (qM hf)
 |some z=>
  refine Sel.no rfl ⟨x,_,dx,_,_,rfl,o,T.cl_Table,T.na_Table_top,rfl,?_⟩
  refine kf [.ref f,.int (B:Int),.int (key:Int)] (fun R r=>⟨x,_,dx,_,_,rfl,o,T.cl_Table,T.na_Table_stamper,rfl,x,_,dx,_,_,rfl,o,T.cl_Table,T.na_Table_bits,rfl,r⟩)
   (ix ks (by omega) (by omega) fun y' m' g1 H1 kb ky s1 sub=>?_)
  obtain⟨hx2,k2,ta2,s2⟩:=TbA.top o ts.s kb ky s1 ts.ta.B1 ts.ta.B60 ts.ta.wf.without.1
  exact⟨x,A.c_Table,dx,_,rfl,hx2,T.cl_Table,T.na_Table_top,by show 3<1000;decide,qz z hf m' g1 _ k2 ta2 (s2.same (by omega) au.rfl') sub⟩
def wm {x:Int}(h:x.natAbs<2^64):RG x<=64:=by
 unfold RG
 split
 ·omega
 ·rename_i h0
  have:x.natAbs.log2<64:=(Nat.log2_lt (by simpa using h0)).mpr h
  omega
def sx {x y:Int}(h0:0<=y)(h:y<2^64):XD x y:=IntMulOk.of_right (wm (by omega))
def zC {zs:List Str}(h:∀z∈zs,eG z=true):eG (Txt.join "" zs)=true:=by
 rw[tU]
 induction zs with
 |nil=>decide+kernel
 |cons z r ih=>exact wI (h z Rb) (ih fun y hy=>h y (QN _ hy))
def GG (K:cW)(A:Adr):Ln (qW K A) 2:=by rintro vs H Q E ⟨a,ns,k,rfl,_⟩;rfl
def KQ (T:Txt K mg A):Rd (qW K A) (Qp K A) ["_law_script","_law_k"]:=by
 intro vs H Q E h
 obtain⟨a,ns,k,rfl,hs,h0,q⟩:=h
 refine .inl (.inl ⟨_,hs,Sel.dec (fun h=>?_) (fun h=>q 0)⟩)
 obtain⟨v,hv⟩:=kE h0 h
 obtain⟨j,_,hj,_⟩:=fH hv
 obtain⟨z,_,rfl⟩:=gM hj
 exact .inl (.inl ⟨a,_,k,_,rfl,rfl,hs,hv,q z⟩)
def EU (K:cW)(A:Adr):Ln (mT K A) 2:=by rintro vs H Q E ⟨b,_,rfl,_⟩;rfl
def ML (T:Txt K mg A):Rd (mT K A) (QB K A) ["_law_cell","_law_bits","_law_top"]:=by
 intro vs H Q E h
 obtain⟨c,B,rfl,B1,B60,q⟩:=h
 refine⟨⟨by omega,by omega,by decide⟩,?_⟩
 have e:(1:Int)*2^(B:Int).toNat=((2^B:Nat):Int):=by rw[show(B:Int).toNat=B by omega,Vw,gy]
 have hp:0<((2^B:Nat):Int):=by have:=Th B;omega
 rw[e]
 have fin:∀i:Int,0<=i->i<((2^B:Nat):Int)->Q (.int i) H:=fun i h0 h1=>by
  obtain⟨y,rfl⟩:=Sf h0
  exact q y (by omega)
 have md:∀i:Int,0<=i%((2^B:Nat):Int)/\i%((2^B:Nat):Int)<((2^B:Nat):Int):=fun i=>⟨Sh _ (by omega),RY _ hp⟩
 refine⟨by decide,Sel.dec (fun h=>?_) (fun h=>?_)⟩
 ·exact⟨⟨by decide,by decide⟩,hp,fin _ (md _).1 (md _).2⟩
 refine⟨by decide,Sel.dec (fun h=>?_) (fun h=>?_)⟩
 ·exact⟨⟨by decide,by decide⟩,sx (by decide) (by decide),hp,fin _ (md _).1 (md _).2⟩
 ·refine⟨⟨by decide,by decide⟩,hp,fin _ ?_ ?_⟩
  ·have:=(md (c/3)).2;omega
  ·have:=(md (c/3)).1;omega
def uG {H:Hp}{Q:VK}{a:Addr}{xs:List V}{i:Int}(ha:H a=some (.lst xs))(h0:0<=i)(h1:i<xs.length)(q:∀v∈xs,Q v H):bg K (.ref a) (.int i) H Q:=by
 obtain⟨v,hv⟩:=kE h0 h1
 obtain⟨j,_,hj,_⟩:=fH hv
 exact .inl (.inl ⟨a,xs,i,v,rfl,rfl,SqL.of ha,hv,q v (Rp hj)⟩)
def iD {B key:Nat}(h:key<2^B):cC (B:Int) (.int (key:Int))=true:=by
 refine decide_eq_true ⟨by omega,?_⟩
 rw[show(B:Int).toNat=B by omega,<-gy];omega
def DI {z:Str}(h:fQ z):gc (.str z)=true:=decide_eq_true h.2
def iw (o:HO):Prop:=(∃xs,o=.lst xs)\/(∃xs,o=.tup xs)\/∃kvs,o=.dK kvs
mutual
theorem aV.keep {H H':Hp}{v:V}{d:Dat}(k:∀z o,H z=some o->iw o->H' z=some o)(h:aV H v d):aV H' v d:=by
 cases h with
 |non=>exact .non
 |bl b=>exact .bl b
 |int i=>exact .int i
 |str z=>exact .str z
 |lst e r=>exact .lst (k _ _ e (.inl ⟨_,rfl⟩)) (DatWs.keep k r)
 |tup e r=>exact .tup (k _ _ e (.inr (.inl ⟨_,rfl⟩))) (DatWs.keep k r)
 |dic e=>obtain⟨kvs,e⟩:=e;exact .dic ⟨kvs,k _ _ e (.inr (.inr ⟨_,rfl⟩))⟩
theorem DatWs.keep {H H':Hp}{xs:List V}{ds:List Dat}(k:∀z o,H z=some o->iw o->H' z=some o)(h:DatWs H xs ds):DatWs H' xs ds:=by
 cases h with
 |nil=>exact .nil
 |cons h r=>exact .cons (aV.keep k h) (DatWs.keep k r)
end
def DP (kn:List (Nat×Str)):dOf kn=jB (kn.map fun p=>((p.1:Int),V.str p.2)):=by
 unfold dOf jB;rw[Td];rfl
theorem lR {k:Nat}{z:Str}:∀{l:List (Nat×Str)},(l.map (·.1)).Nodup->(look k l=some z↔(k,z)∈l)
 |[],_=>by constructor<;>intro h<;>cases h
 |(a,b)::l,nd=>by
  have nd':=RA.mp nd
  unfold look
  by_cases e:k=a
  ·rw[if_pos e]
   constructor
   ·intro h;cases h;rw[e];exact Rb
   ·intro h
    rcases QG.mp h with h|h
    ·cases h;rfl
    ·exact absurd (RJ.mpr ⟨_,h,rfl⟩) (by rw[e];exact nd'.1)
  ·rw[if_neg e,lR nd'.2]
   constructor
   ·intro h;exact QN _ h
   ·intro h
    rcases QG.mp h with h|h
    ·cases h;exact absurd rfl e
    ·exact h
def Kno.sorted {B:Nat}{kn rs:List (Nat×Str)}{t:Kn Str}(h:Kno B kn t)(wf:WFo B t)(pm:rs.Perm kn)(up:iG rs):rs=bv t:=by
 refine wH up wf.up.1 fun k=>?_
 rw[<-wf.up.2,<-h.eq]
 have nd:(rs.map (·.1)).Nodup:=(pm.map (·.1)).nodup_iff.mpr h.nd
 have key:∀z,look k rs=some z↔look k kn=some z:=fun z=>by rw[lR nd,lR h.nd,pm.mem_iff]
 cases e:look k kn with
 |none=>
  cases e2:look k rs with
  |none=>rfl
  |some z=>rw[(key z).mp e2]at e;cases e
 |some z=>exact(key z).mpr e
def fR (p:Nat×Str):Int×V:=((p.1:Int),V.str p.2)
def wc (a k:Nat):decide ((Ta (a:Int):Key)=Ta (k:Int))=decide (k=a):=by
 by_cases h:k=a
 ·rw[h,decide_eq_true rfl,decide_eq_true rfl]
 ·rw[decide_eq_false h,decide_eq_false fun z=>h (by have:=UX z;omega)]
def ou (kn:List (Nat×Str))(k:Nat):cg (dOf kn) (.inl (k:Int))=(look k kn).map V.str:=by
 unfold cg dOf
 induction kn with
 |nil=>rfl
 |cons p kn ih=>
  rw[RD,SM,wc]
  unfold look
  by_cases h:k=p.1
  ·rw[decide_eq_true h,if_pos h];rfl
  ·rw[decide_eq_false h,if_neg h];exact ih
def fY (kn:List (Nat×Str))(k:Nat)(z:Str):List (Nat×Str):=if (kn.any fun p=>decide (k=p.1))=true then kn.map (fun p=>if k=p.1 then(p.1,z)else p)else kn++[(k,z)]
def DO (kn:List (Nat×Str))(k:Nat)(z:Str):cy (dOf kn) (.inl (k:Int)) (.str z)=dOf (fY kn k z):=by
 unfold cy fY dOf
 have e1:((kn.map fun p=>((Ta (p.1:Int):Key),V.str p.2)).any fun kv=>decide (kv.1=Ta (k:Int)))=kn.any fun p=>decide (k=p.1):=by
  rw[List.any_map];congr 1;funext p;exact wc p.1 k
 rw[e1]
 by_cases h:(kn.any fun p=>decide (k=p.1))=true
 ·rw[if_pos h,if_pos h,Td,Td]
  refine UI fun p _=>?_
  have d:=wc p.1 k
  show(if (Ta (p.1:Int):Key)=Ta (k:Int)then _ else _)=_
  by_cases hk:k=p.1
  ·rw[if_pos (by rw[hk])];show _=((Ta ((if k=p.1 then(p.1,z)else p).1:Int):Key),V.str (if k=p.1 then(p.1,z)else p).2);rw[if_pos hk]
  ·rw[if_neg fun q=>hk (by have:=UX q;omega)];show _=((Ta ((if k=p.1 then(p.1,z)else p).1:Int):Key),V.str (if k=p.1 then(p.1,z)else p).2);rw[if_neg hk]
 ·rw[if_neg h,if_neg h,Rm];rfl
theorem rS {k:Nat}{z:Str}:∀(kn:List (Nat×Str))(k':Nat),look k' (kn.map fun p=>if k=p.1 then(p.1,z)else p)=if k'=k then(look k kn).map fun _=>z else look k' kn
 |[],k'=>by show none=_;split<;>rfl
 |p::kn,k'=>by
  have ih:=rS (k:=k) (z:=z) kn k'
  obtain⟨a,y⟩:=p
  rw[RD]
  by_cases h:k=a
  ·subst h
   rw[if_pos rfl]
   show(if k'=k then some z else look k' _)=_
   by_cases h2:k'=k
   ·rw[if_pos h2,if_pos h2];show _=Yq _ (if k=k then some y else _);rw[if_pos rfl];rfl
   ·rw[if_neg h2,if_neg h2,ih,if_neg h2];show _=if k'=k then some y else _;rw[if_neg h2]
  ·rw[if_neg h]
   show(if k'=a then some y else look k' _)=_
   by_cases h2:k'=a
   ·subst h2
    rw[if_pos rfl,if_neg (QU h)];show _=if k'=k' then some y else _;rw[if_pos rfl]
   ·rw[if_neg h2,ih]
    show _=if k'=k then Yq _ (if k=a then some y else look k kn)else if k'=a then some y else look k' kn
    rw[if_neg h,if_neg h2]
def wW {k:Nat}{kn:List (Nat×Str)}:(kn.any fun p=>decide (k=p.1))=(look k kn).isSome:=by
 induction kn with
 |nil=>rfl
 |cons p kn ih=>
  rw[UQ,ih]
  show _=(if k=p.1 then some p.2 else look k kn).isSome
  by_cases h:k=p.1
  ·rw[decide_eq_true h,if_pos h];rfl
  ·rw[decide_eq_false h,if_neg h,VV]
def sZ (kn:List (Nat×Str))(k:Nat)(z:Str)(k':Nat):look k' (fY kn k z)=if k'=k then some z else look k' kn:=by
 unfold fY
 rw[wW]
 by_cases h:(look k kn).isSome=true
 ·rw[if_pos h,rS]
  split
  ·obtain⟨y,hy⟩:=RH.mp h;rw[hy];rfl
  ·rfl
 ·rw[if_neg h,lK]
  by_cases h2:k'=k
  ·rw[if_pos h2,h2]
   have:look k kn=none:=by cases e:look k kn<;>first|rfl|(rw[e]at h;exact absurd rfl h)
   rw[this];show(if k=k then some z else none)=_;rw[if_pos rfl]
  ·rw[if_neg h2];show(look k' kn).or (if k'=k then some z else none)=_;rw[if_neg h2,Option.or_none]
def tY {kn:List (Nat×Str)}{k:Nat}{z:Str}(h:(kn.map (·.1)).Nodup):((fY kn k z).map (·.1)).Nodup/\(fY kn k z).length<=kn.length+1:=by
 unfold fY
 by_cases hk:(kn.any fun p=>decide (k=p.1))=true
 ·rw[if_pos hk,Td,QC]
  have e:(kn.map ((fun p:Nat×Str=>p.1)∘fun p=>if k=p.1 then(p.1,z)else p))=kn.map (·.1):=UI fun p _=>by show(if k=p.1 then(p.1,z)else p).1=p.1;split<;>rfl
  rw[e];exact⟨h,UN _⟩
 ·rw[if_neg hk,Rm,QP]
  refine⟨List.nodup_append.mpr ⟨h,VS _ _,fun a ha b hb e=>?_⟩,gV _⟩
  have e:a=k:=by rw[QR.mp hb]at e;exact e
  obtain⟨p,hp,e2⟩:=RJ.mp ha
  exact hk (List.any_eq_true.mpr ⟨p,hp,decide_eq_true (by rw[<-e];exact e2.symm)⟩)
def Kno.put {B:Nat}{kn:List (Nat×Str)}{t:Kn Str}{key:Nat}{z:Str}(h:Kno B kn t)(wf:WFo B t)(hk:key<2^B)(ln:kn.length<63):Kno B (fY kn key z) (df B key z t):=by
 obtain⟨a,b⟩:=tY (k:=key) (z:=z) h.nd
 exact⟨a,by omega,fun k=>by rw[sZ,(wf.with hk).2,h.eq]⟩
def BZ {z:Str}(h:fQ z):okD (.str z)=true:=by
 show(eG z&&decide (z.length<=100000))=true
 rw[h.1,decide_eq_true (by have:=h.2;omega)];rfl
def Kno.perm {B:Nat}{kn:List (Nat×Str)}{t:Kn Str}(h:Kno B kn t)(wf:WFo B t):(bv t).Perm kn:=by
 have pm:=List.mergeSort_perm kn (fun a b=>decide (a.1<=b.1))
 have so:=List.pairwise_mergeSort (le:=fun(a b:Nat×Str)=>decide (a.1<=b.1)) (fun a b c h1 h2=>by simp only[decide_eq_true_eq]at*;omega) (fun a b=>by simp only[Bool.or_eq_true,decide_eq_true_eq];omega) kn
 have nd:((kn.mergeSort (fun a b=>decide (a.1<=b.1))).map (·.1)).Nodup:=(pm.map (·.1)).nodup_iff.mpr h.nd
 have nd2:=List.pairwise_map.mp nd
 have up:iG (kn.mergeSort (fun a b=>decide (a.1<=b.1))):=(so.and nd2).imp fun{a b} z=>by
  have z1:=of_decide_eq_true z.1
  have z2:=z.2
  omega
 rw[<-h.sorted wf pm up];exact pm
def Kno.len {B:Nat}{kn:List (Nat×Str)}{t:Kn Str}(h:Kno B kn t)(wf:WFo B t):(bv t).length=kn.length:=(h.perm wf).length_eq
def Kno.keys {B:Nat}{kn:List (Nat×Str)}{t:Kn Str}(h:Kno B kn t)(wf:WFo B t):mX B kn:=fun p hp=>wf.lt p ((h.perm wf).mem_iff.mpr hp)
def Gc (K:cW)(A:Adr):Ln (mY K A) 2:=by rintro vs H Q E ⟨c,k,rfl,_⟩;rfl
def Jd (T:Txt K mg A):Rd (mY K A) (OK K A) ["_law_cell","_law_k"]:=by
 intro vs H Q E h
 obtain⟨c,k,rfl,q⟩:=h
 exact⟨by decide,sx (by decide) (by decide),sx (by decide) (by decide),by decide,q _ (Sh _ (by decide))⟩
def vZ (ns:List Int):Dat:=.lst (ns.map Dat.int)
def ja (ns:List Int):okD (vZ ns)=true:=by
 show okDs (ns.map Dat.int)=true
 induction ns with
 |nil=>rfl
 |cons n r ih=>show(true&&okDs (r.map Dat.int))=true;rw[ih];rfl
def rN {H:Hp}{l:Addr}{ns:List Int}(hl:H l=some (.lst (ns.map V.int))):aV H (.ref l) (vZ ns):=by
 refine .lst hl ?_
 clear hl
 induction ns with
 |nil=>exact .nil
 |cons n r ih=>exact .cons (.int n) ih
def yB (ns:List Int):(eS (vZ ns)).depth<=150:=by
 have e:Ry (toPys (ns.map Dat.int))<=0:=by
  induction ns with
  |nil=>exact QK _
  |cons r rs ih=>show max 0 (Ry (toPys (rs.map Dat.int)))<=0;omega
 show Ry (toPys (ns.map Dat.int))+1<=150
 omega
def Hd {H:Hp}{Q:VK}{l p:Addr}{ns:List Int}(hl:H l=some (.lst (ns.map V.int)))(hp:H p=some (.lst []))(q:Q (.bl (decide (ns=[]))) H):bO K (.ref l) (.ref p) H Q:=by
 refine .inr (.inl ⟨_,_,(rN hl).toV (ja ns),(rN (ns:=[]) hp).toV (ja []),dE (ja ns),dE (ja []),yB ns,?_⟩)
 cases ns with
 |nil=>exact q
 |cons n r=>exact q
def HF (K:cW)(A:Adr):Ln (jb K A) 4:=by rintro vs H Q E ⟨kd,c,nb,B,kn,rfl,_⟩;rfl
def KD (T:Txt K mg A):Rd (jb K A) (OY K A) ["_law_known","_law_cell","_law_number","_law_bits","_law_keys","_law_way","_law_key_here"]:=by
 intro vs H Q E h
 obtain⟨kd,c,nb,B,kn,rfl,hk,ln,kb,B1,B60,q⟩:=h
 refine⟨kd,kn.map fR,rfl,by rw[hk,DP];rfl,by rw[QC];omega,fun l ns hl pm _=>⟨by decide,?_⟩⟩
 have S1:=au.upd (o:=.lst (ns.map V.int)) hl
 have hl1:upd H l (.lst (ns.map V.int)) l=some (.lst (ns.map V.int)):=ag
 generalize upd H l (.lst (ns.map V.int))=H1 at S1 hl1
 have mem:∀i∈ns,∃k:Nat,i=(k:Int)/\k<2^B:=fun i hi=>by
  have:=pm.mem_iff.mp hi
  rw[Td]at this
  obtain⟨p,hp,rfl⟩:=RJ.mp this
  exact⟨p.1,rfl,kb p hp⟩
 have first:∀H2,au H1 H2->mT K A [.int c,.int (B:Int)] H2 Q E0:=fun H2 S2=>⟨c,B,rfl,B1,B60,fun k hk=>q k H2 (S1.trans S2) hk⟩
 refine Sel.dec (fun h=>?_) (fun h=>?_)
 ·exact Sel.yes rfl (first H1 (.refl _))
 refine⟨by show 0<=sizeLine;decide,fun p hp=>?_⟩
 have S2:=au.upd (o:=.lst []) hp
 refine Hd (S2 _ _ hl1) ag (Sel.dec (fun h2=>?_) (fun h2=>?_))
 ·exact first _ S2
 have hl2:=S2 _ _ hl1
 generalize upd H1 p (.lst [])=H2 at S2 hl2
 have l0:0<(ns.length:Int):=by
  cases ns with
  |nil=>exact absurd rfl h2
  |cons n r=>show 0<((r.length+1:Nat):Int);omega
 have ml:(ns.map V.int).length=ns.length:=QC _
 refine⟨⟨by decide,by decide⟩,.inl (.inl ⟨_,SqL.of hl2,?_⟩)⟩
 rw[ml]
 refine⟨l0,uG hl2 (Sh _ (by omega)) (by rw[ml];exact RY _ l0) fun v hv=>?_⟩
 obtain⟨i,hi,rfl⟩:=RJ.mp hv
 obtain⟨k,rfl,hkB⟩:=mem i hi
 refine Sel.dec (fun h3=>?_) (fun h3=>?_)
 ·exact q k H2 (S1.trans S2) hkB
 have j0:=Sh (nb/303) (b:=(B:Int)) (by omega)
 have j1:=RY (nb/303) (b:=(B:Int)) (by omega)
 refine⟨⟨by decide,by decide⟩,by omega,⟨j0,by omega,by decide⟩,?_⟩
 obtain⟨j,hj⟩:=Sf j0
 show Q (.int (SQ (k:Int) (1*2^(nb/303%(B:Int)).toNat))) H2
 rw[hj,show((j:Nat):Int).toNat=j by omega,Vw,<-gy,iV]
 exact q _ H2 (S1.trans S2) (Nat.xor_lt_two_pow hkB (Nat.pow_lt_pow_right (by decide) (by omega)))
def sN {B:Nat}(h1:1<=B)(h2:B<=60):fI (.int (B:Int))=true:=decide_eq_true ⟨by omega,by omega⟩
def ym {H:Hp}{x dx f b:Addr}{g:gOp}{n B:Nat}{Q:VK}{E:XK}(hx:H x=none)(hdx:H dx=none)(ne:dx≠x)(s:Stp A H f b g n)(hn:n<=45000)(B1:1<=B)(B60:B<=60)(q:∀(m:Key)(g':gOp)(H':Hp),bN b H H'->TbA A H' g' x f B .bare m->Stp A H' f b g' (n+1)->Sub g g'->Q .non H'):
  kY K A [.ref x,.ref f,.int (B:Int)] (upd (upd H dx (.own x)) x (.ins A.c_Table dx [])) Q E:=by
 have S1:=ci (o:=.own x) (u:=.ins A.c_Table dx []) hx hdx ne
 refine⟨x,dx,f,b,g,n,_,.int (B:Int),rfl,ag,.int _,s.same (gV _) S1,hn,fun h=>?_,fun B' eB _ _ m g2 H2 k2 ta2 s2 sub2=>?_⟩
 ·rw[sN B1 B60]at h;cases h
 ·have:B'=B:=by have:=Dat.int.inj eB;omega
  subst this
  exact q m g2 H2 (fun z o zb e=>k2 z o zb (aq e hx) (S1 _ _ e)) ta2 s2 sub2
def GY (K:cW)(A:Adr):Ln (qB K A) 1:=by rintro vs H Q E ⟨x,f,b,g,n,B,t,m,rfl,_⟩;rfl
def Ll (T:Txt K mg A):Rd (qB K A) (PL K A) ["self","other"]:=by
 intro vs H Q E h
 obtain⟨x,f,b,g,n,B,t,m,rfl,ts,hn,q⟩:=h
 obtain⟨dx,y0,o,k0⟩:=ts.ta.ob
 refine⟨x,_,dx,_,_,rfl,o,T.cl_Table,T.na_Table_stamper,rfl,x,_,dx,_,_,rfl,o,T.cl_Table,T.na_Table_bits,rfl,fun y dy hy hdy ne=>?_⟩
 refine ym hy hdy ne ts.s hn ts.ta.B1 ts.ta.B60 fun m2 g2 H2 kb ta2 s2 sub=>⟨rfl,?_⟩
 have hx2:=kb _ _ (ts.s.nb o fun _ z=>nomatch z) o
 have k2:KnA A H2 g2 y0 t m:=k0.kb ts.s kb sub
 obtain⟨dy2,y2,oy,_⟩:=ta2.ob
 obtain⟨_,k3,ta3,s3⟩:=TbA.top oy s2 bN.rfl' k2 s2 ts.ta.B1 ts.ta.B60 ts.ta.wf
 have xy:x≠y:=aq o hy
 refine⟨x,_,dx,_,_,rfl,hx2,T.cl_Table,T.na_Table_top,rfl,y,A.c_Table,dy2,_,rfl,oy,T.cl_Table,T.na_Table_top,by show 3<1000;decide,?_⟩
 have k3':KnA A _ g2 y0 t m:=k2.keep (fun z u e hu=>k3 z u (s2.nb e fun _ q=>(by subst q;exact hu.dT)) (fun q=>by subst q;rw[oy]at e;cases e;exact hu.tab) e) Sub.rfl'
 refine q y g2 _ (fun z u zb e=>k3 z u zb (aq e hy) (kb z u zb e)) hy ⟨⟨⟨dx,y0,k3 _ _ (s2.nb hx2 fun _ z=>nomatch z) xy hx2,k3'⟩,ts.ta.B1,ts.ta.B60,ts.ta.wf⟩,s3,ts.ln⟩ ta3 sub
def gf (kn:List (Nat×Str))(k:Nat):List (Nat×Str):=kn.filter fun p=>decide (k≠p.1)
def yR (kn:List (Nat×Str))(k:Nat):jM (dOf kn) (.inl (k:Int))=dOf (gf kn k):=by
 unfold jM gf dOf
 rw[List.filter_map]
 congr 1
 refine List.filter_congr fun p _=>?_
 show decide ((Ta (p.1:Int):Key)≠Ta (k:Int))=_
 exact decide_eq_decide.mpr ⟨fun z w=>z (by rw[w]),fun z w=>z (by have:=UX w;omega)⟩
def xw (kn:List (Nat×Str))(k k':Nat):look k' (gf kn k)=if k'=k then none else look k' kn:=by
 unfold gf
 induction kn with
 |nil=>show none=_;split<;>rfl
 |cons p kn ih=>
  obtain⟨a,z⟩:=p
  rw[Vg]
  by_cases h:k=a
  ·subst h
   rw[if_neg (by simp),ih]
   by_cases h2:k'=k
   ·rw[if_pos h2,if_pos h2]
   ·rw[if_neg h2,if_neg h2];show _=if k'=k then some z else _;rw[if_neg h2]
  ·rw[if_pos (decide_eq_true h)]
   show(if k'=a then some z else look k' _)=if k'=k then none else if k'=a then some z else look k' kn
   rw[ih]
   by_cases h2:k'=a
   ·rw[if_pos h2,if_pos h2,if_neg (fun q=>h (by rw[<-q,h2]))]
   ·rw[if_neg h2,if_neg h2]
def Kno.drop {B:Nat}{kn:List (Nat×Str)}{t:Kn Str}{key:Nat}(h:Kno B kn t)(wf:WFo B t):Kno B (gf kn key) (bn B key t)/\(gf kn key).length<=kn.length:=by
 have l:=Wl (fun p:Nat×Str=>decide (key≠p.1)) kn
 refine⟨⟨((List.filter_sublist (p:=fun p:Nat×Str=>decide (key≠p.1)) (l:=kn)).map Prod.fst).nodup h.nd,Rl l h.ln,fun k=>?_⟩,l⟩
 rw[xw,wf.without.2,h.eq]
def HJ {H:Hp}{kd:Addr}{kvs:List (Key×V)}(h:H kd=some (.dK kvs)):tyV K "dict" (.ref kd) H:=.inr (.inr (.inl ⟨rfl,.inl ⟨_,h⟩⟩))
def TbA.same {H H':Hp}{g:gOp}{x f:Addr}{B:Nat}{t:Kn Str}{m:Key}(h:TbA A H g x f B t m)(S:au H H'):TbA A H' g x f B t m:=by
 obtain⟨dx,y,o,ky⟩:=h.ob
 exact⟨⟨dx,y,S _ _ o,ky.same S⟩,h.B1,h.B60,h.wf⟩
def TbA.keep {H H':Hp}{g g':gOp}{x f:Addr}{B:Nat}{t:Kn Str}{m:Key}(h:TbA A H g x f B t m)(kx:∀o,H x=some o->H' x=some o)(k:∀z o,H z=some o->knO o->H' z=some o)(sub:Sub g g'):TbA A H' g' x f B t m:=by
 obtain⟨dx,y,o,ky⟩:=h.ob
 exact⟨⟨dx,y,kx _ o,ky.keep k sub⟩,h.B1,h.B60,h.wf⟩
def TbA.kb {H H':Hp}{g g' g0:gOp}{x f b:Addr}{B n:Nat}{t:Kn Str}{m:Key}(h:TbA A H g x f B t m)(s:Stp A H f b g0 n)(kb:bN b H H')(sub:Sub g g'):TbA A H' g' x f B t m:=by
 obtain⟨dx,y,o,ky⟩:=h.ob
 exact h.keep (fun u e=>kb _ _ (s.nb o fun _ z=>nomatch z) e) (fun z u e hu=>kb z u (s.nb e fun _ q=>(by subst q;exact hu.dT)) e) sub
def yg {m:Nat}(h:2<=m):aK m<m:=by
 have:=Uj (n:=m- 1) (by omega)
 unfold aK;omega
def sU {m:Nat}(h:2<=m):m<=2*aK m:=by
 have:=Nat.lt_log2_self (n:=m- 1)
 unfold aK;rw[Uv]at this;omega
def oW {m e:Nat}(h:2<=m)(he:m<=2^e):∃k,aK m=2^k/\k<e:=by
 refine⟨Vp (m- 1),rfl,?_⟩
 have h1:=Uj (n:=m- 1) (by omega)
 exact(VQ (by decide:1<2)).mp (by omega:2^Vp (m- 1)<2^e)
def HV (K:cW)(A:Adr):Ln (jx K A) 1:=by rintro vs H Q E ⟨m,rfl,_⟩;rfl
def KU (T:Txt K mg A)(vs:List V)(H:Hp)(Q:VK)(E:XK)(h:jx K A vs H Q E):PQ K A {nx:=fun _ H'=>Q .non H',rt:=Q} (cO ["many"] vs) H:=by
 obtain⟨m,rfl,h2,h60,q⟩:=h
 obtain⟨k,ek,hk⟩:=oW h2 h60
 have e:(RG ((m:Int)- 1):Int)- 1=((Vp (m- 1):Nat):Int):=by
  unfold RG
  rw[if_neg (by simp;omega)]
  have:((m:Int)- 1).natAbs=m- 1:=by omega
  rw[this];omega
 have hl:Vp (m- 1)<60:=by
  have h1:=Uj (n:=m- 1) (by omega)
  exact(VQ (by decide:1<2)).mp (by omega:2^Vp (m- 1)<2^60)
 refine⟨rfl,?_⟩
 show((0<=(RG ((m:Int)- 1):Int)- 1/\_/\_)/\Q (.int (1*2^((RG ((m:Int)- 1):Int)- 1).toNat)) H)
 rw[e]
 refine⟨⟨by omega,by omega,by decide⟩,?_⟩
 rw[Vw,Tq,<-gy]
 exact q
def sG {H:Hp}(x:Key):aV H (kV x) (bA x):=by
 cases x with
 |inl i=>exact .int i
 |inr z=>exact .str z
def ixL {K:cW}{H:Hp}{Q:VK}{a:Addr}{xs:List V}{x:V}{i:Int}{j:Nat}(ha:H a=some (.lst xs))(e:i=j)(hx:xs[j]?=some x)(q:Q x H):bg K (.ref a) (.int i) H Q:=by
 subst e
 refine .inl (.inl ⟨a,xs,j,x,rfl,rfl,SqL.of ha,?_,q⟩)
 have hj:=(QY.mp hx).1
 rw[wN (by omega) (by omega)]
 simp[Rr,hx]
def pj {e:Key}(h:okP e=true):eI (bA e)=true:=by
 cases e with
 |inl i=>exact h
 |inr z=>rfl
def nV {K:cW}{H:Hp}{Q:VK}{L:Addr}{qs:List V}{p:V}(hL:H L=some (.lst (qs++[p])))(q:Q p H):bg K (.ref L) (.int (-1)) H Q:=
 .inl (.inl ⟨L,_,-1,p,rfl,rfl,SqL.of hL,AT _ _,q⟩)
def oJ {n:Nat}(h:2<=n):1<=aK n/\aK n<n:=by
 unfold aK
 have h1:=Uj (n:=n- 1) (by omega)
 exact⟨Nat.one_le_two_pow,by omega⟩
def HG (K:cW)(A:Adr):Ln (kP K A) 1:=by rintro vs H Q E ⟨v,d,rfl,_⟩;rfl
def Jt (T:Txt K mg A):Rd (kP K A) (OD K A) ["thing"]:=by
 intro vs H Q E h
 obtain⟨v,d,rfl,w,q⟩:=h
 refine⟨_,d,rfl,w,?_⟩
 cases w with
 |int i=>
  refine Sel.yes rfl (Sel.dec (fun h0=>⟨by decide,?_⟩) (fun h0=>?_))
  ·show Q (.bl (decide (i<1*2^(60:Int).toNat))) H
   have e:da (.int i)=decide (i<1*2^(60:Int).toNat):=by
    show decide (0<=i/\i<2^60)=decide (i<1*2^60)
    by_cases h1:i<2^60
    ·rw[decide_eq_true ⟨h0,h1⟩,decide_eq_true (by omega)]
    ·rw[decide_eq_false fun z=>h1 z.2,decide_eq_false (by omega)]
   rw[<-e];exact q
  ·have e:da (.int i)=false:=decide_eq_false fun z=>h0 z.1
   rw[<-e];exact q
 |non=>exact Sel.no rfl q
 |bl b=>exact Sel.no rfl q
 |str z=>exact Sel.no rfl q
 |lst e r=>exact Sel.no rfl q
 |tup e r=>exact Sel.no rfl q
 |dic e=>exact Sel.no rfl q
def ib {d:Dat}(h:da d=true):∃c:Nat,d=.int (c:Int)/\c<2^60:=by
 cases d with
 |int i=>
  obtain⟨h0,h1⟩:0<=i/\i<2^60:=of_decide_eq_true h
  exact⟨i.toNat,by rw[UO h0],by omega⟩
 |non=>cases h
 |bl b=>cases h
 |str z=>cases h
 |lst e=>cases h
 |tup e=>cases h
 |dic=>cases h
def mq {i:Int}(h0:0<=i)(h1:i<2^60):da (.int i)=true:=decide_eq_true ⟨h0,h1⟩
def GK (K:cW)(A:Adr):Ln (qo K A) 1:=by rintro vs H Q E ⟨v,d,rfl,_⟩;rfl
def IX (T:Txt K mg A):Rd (qo K A) (OI K A) ["thing"]:=by
 intro vs H Q E h
 obtain⟨v,d,rfl,w,q⟩:=h
 cases w with
 | @tup a xs ds ea r=>
   have ty:tyN H (.ref a)=some "tuple":=by unfold tyN;dsimp only;rw[ea]
   refine⟨by decide,"tuple",ty,Sel.t (.inl (.inr (.inl ⟨_,SqT.of ea,?_⟩)))⟩
   have hl:=r.len
   by_cases h2:ds.length=2
   ·refine Sel.yes (decide_eq_true (by omega)) ?_
    cases r with
    |nil=>cases h2
    |cons r1 r=>
    cases r with
    |nil=>cases h2
    |cons r2 r=>
    cases r with
    |cons r3 r=>simp at h2
    |nil=>
    refine ixT (j:=0) ea rfl rfl ⟨_,_,rfl,r1,?_⟩
    refine Sel.mk (fun hc=>?_) (fun hc=>?_)
    ·refine ixT (j:=1) ea rfl rfl ⟨_,_,rfl,r2,?_⟩
     have q:Q (.bl (da _&&eI _)) H:=q
     rw[hc,XI]at q;exact q
    ·have q:Q (.bl (da _&&eI _)) H:=q
     rw[hc,VF]at q;exact q
   ·refine Sel.no (decide_eq_false (by omega)) ?_
    have e:kT (.tup ds)=false:=by
     match ds,h2 with
     |[],_=>rfl
     |[_],_=>rfl
     |[_,_],h=>exact absurd rfl h
     |_::_::_::_,_=>rfl
    rw[e]at q;exact q
 |int i=>exact⟨by decide,_,rfl,Sel.f q⟩
 |non=>exact⟨by decide,_,rfl,Sel.f q⟩
 |bl b=>exact⟨by decide,_,rfl,Sel.f q⟩
 |str z=>exact⟨by decide,_,rfl,Sel.f q⟩
 |lst e r=>exact⟨by decide,_,(aV.lst e r).ty,Sel.f q⟩
 |dic e=>exact⟨by decide,_,(aV.dic e).ty,Sel.f q⟩
def Fu (K:cW)(A:Adr):Ln (qy K A) 1:=by rintro vs H Q E ⟨v,d,rfl,_⟩;rfl
def Jj (T:Txt K mg A):Rd (qy K A) (PP K A) ["thing"]:=by
 intro vs H Q E h
 obtain⟨v,d,rfl,w,e,q⟩:=h
 refine⟨v,d,rfl,w,?_⟩
 rw[e];exact Sel.f q
def ID (K:cW)(A:Adr):Ln (rq K A) 2:=by rintro vs H Q E ⟨v,d,w,e,rfl,_⟩;rfl
def JH (T:Txt K mg A):Rd (rq K A) (Ou K A) ["count","place"]:=by
 intro vs H Q E h
 obtain⟨v,d,w,e,rfl,hd,he,q⟩:=h
 refine⟨v,d,rfl,hd,?_⟩
 unfold dD at q
 cases hc:da d with
 |false=>rw[hc]at q;exact Sel.f q
 |true=>
  rw[hc]at q
  obtain⟨c,rfl,c2⟩:=ib hc
  cases hd.int_inv
  refine Sel.t ⟨w,e,rfl,he,?_⟩
  cases he with
  |int i=>
   refine Sel.yes rfl (Sel.dec (fun h0=>?_) (fun h0=>?_))
   ·show Q (.bl (decide (i<(c:Int)))) H
    have ee:decide (0<=i/\i<(c:Int))=decide (i<(c:Int)):=by
     by_cases h1:i<(c:Int)
     ·rw[decide_eq_true ⟨h0,h1⟩,decide_eq_true h1]
     ·rw[decide_eq_false fun z=>h1 z.2,decide_eq_false h1]
    rw[<-ee];exact q
   ·have ee:decide (0<=i/\i<(c:Int))=false:=decide_eq_false fun z=>h0 z.1
    rw[<-ee];exact q
  |non=>exact Sel.no rfl q
  |bl b=>exact Sel.no rfl q
  |str z=>exact Sel.no rfl q
  |lst e r=>exact Sel.no rfl q
  |tup e r=>exact Sel.no rfl q
  |dic e=>exact Sel.no rfl q
def io {d e:Dat}(h:dD d e=true):∃c el:Nat,d=.int (c:Int)/\e=.int (el:Int)/\el<c/\c<2^60:=by
 unfold dD at h
 obtain⟨h1,h2⟩:=Gt.mp h
 obtain⟨h3,h4⟩:=Gt.mp h1
 obtain⟨c,rfl,c2⟩:=ib h3
 cases e with
 |int i=>
  obtain⟨a,b⟩:0<=i/\i<(c:Int):=of_decide_eq_true h2
  exact⟨c,i.toNat,rfl,by rw[UO a],by omega,c2⟩
 |non=>cases h4
 |bl b=>cases h4
 |str z=>cases h4
 |lst e=>cases h4
 |tup e=>cases h4
 |dic=>cases h4
def xr {c e:Int}(h0:0<=e)(h1:e<c)(h2:c<2^60):dD (.int c) (.int e)=true:=by
 unfold dD
 rw[mq (by omega) h2]
 show decide (0<=e/\e<c)=true
 exact decide_eq_true ⟨h0,h1⟩
def zj {c el:Nat}(h1:el<c)(h2:c<2^60):dD (.int (c:Int)) (.int (el:Int))=true:=xr (by omega) (by omega) (by omega)
def Fy (K:cW)(A:Adr):Ln (rh K A) 2:=by rintro vs H Q E ⟨v,d,w,e,rfl,_⟩;rfl
def JI (T:Txt K mg A):Rd (rh K A) (OU K A) ["count","elder"]:=by
 intro vs H Q E h
 obtain⟨v,d,w,e,rfl,hd,he,q⟩:=h
 refine⟨v,d,rfl,hd,?_⟩
 unfold cM at q
 cases hc:da d with
 |false=>rw[hc]at q;exact Sel.f q
 |true=>
  rw[hc]at q
  obtain⟨c,rfl,c2⟩:=ib hc
  cases hd.int_inv
  refine Sel.t ⟨w,e,rfl,he,?_⟩
  cases he with
  |int i=>
   refine Sel.yes rfl (Sel.dec (fun h0=>?_) (fun h0=>?_))
   ·show Q (.bl (decide (i<=(c:Int)))) H
    have ee:decide (0<=i/\i<=(c:Int))=decide (i<=(c:Int)):=by
     by_cases h1:i<=(c:Int)
     ·rw[decide_eq_true ⟨h0,h1⟩,decide_eq_true h1]
     ·rw[decide_eq_false fun z=>h1 z.2,decide_eq_false h1]
    rw[<-ee];exact q
   ·have ee:decide (0<=i/\i<=(c:Int))=false:=decide_eq_false fun z=>h0 z.1
    rw[<-ee];exact q
  |non=>exact Sel.no rfl q
  |bl b=>exact Sel.no rfl q
  |str z=>exact Sel.no rfl q
  |lst e r=>exact Sel.no rfl q
  |tup e r=>exact Sel.no rfl q
  |dic e=>exact Sel.no rfl q
def kM {d e:Dat}(h:cM d e=true):∃c el:Nat,d=.int (c:Int)/\e=.int (el:Int)/\el<=c/\c<2^60:=by
 unfold cM at h
 obtain⟨h1,h2⟩:=Gt.mp h
 obtain⟨h3,h4⟩:=Gt.mp h1
 obtain⟨c,rfl,c2⟩:=ib h3
 cases e with
 |int i=>
  obtain⟨a,b⟩:0<=i/\i<=(c:Int):=of_decide_eq_true h2
  exact⟨c,i.toNat,rfl,by rw[UO a],by omega,c2⟩
 |non=>cases h4
 |bl b=>cases h4
 |str z=>cases h4
 |lst e=>cases h4
 |tup e=>cases h4
 |dic=>cases h4
def wX {c e:Int}(h0:0<=e)(h1:e<=c)(h2:c<2^60):cM (.int c) (.int e)=true:=by
 unfold cM
 rw[mq (by omega) h2]
 show decide (0<=e/\e<=c)=true
 exact decide_eq_true ⟨h0,h1⟩
def sC {c el:Nat}(h1:el<=c)(h2:c<2^60):cM (.int (c:Int)) (.int (el:Int))=true:=wX (by omega) (by omega) (by omega)
def eV.rfl' {g:gOp}{k:List (List Key×Key)}:eV g k g k:=⟨Sub.rfl',fun _ _ e=>e⟩
def eV.trans {g g1 g2:gOp}{k k1 k2:List (List Key×Key)}(a:eV g k g1 k1)(b:eV g1 k1 g2 k2):eV g k g2 k2:=⟨a.s.trans b.s,fun s v e=>b.t s v (a.t s v e)⟩
def DT (kvs:List (List Key×Key))(k:List Key)(v:Key):∃kvs',bG kvs'=cy (bG kvs) k (kV v)/\kvs'.length<=kvs.length+1/\∀j,bI kvs' j=if j=k then some v else bI kvs j:=by
 have fin:∀kvs':List (List Key×Key),bG kvs'=cy (bG kvs) k (kV v)->∀j,bI kvs' j=if j=k then some v else bI kvs j:=by
  intro kvs' e j
  have h:=gb kvs' j
  rw[e,ma,gb]at h
  by_cases hj:j=k
  ·rw[if_pos hj]at h⊢
   cases g:bI kvs' j with
   |none=>rw[g]at h;cases h
   |some w=>rw[g]at h;rw[mQ (QZ h)]
  ·rw[if_neg hj]at h⊢
   cases g:bI kvs' j with
   |none=>
    rw[g]at h
    cases g2:bI kvs j with
    |none=>rfl
    |some w=>rw[g2]at h;cases h
   |some w=>
    rw[g]at h
    cases g2:bI kvs j with
    |none=>rw[g2]at h;cases h
    |some u=>rw[g2]at h;rw[mQ (QZ h)]
 by_cases c:((bG kvs).any fun kv=>decide (kv.1=k))=true
 ·have e:bG (kvs.map fun kv=>if kv.1=k then(kv.1,v)else kv)=cy (bG kvs) k (kV v):=by
   unfold cy
   rw[if_pos c]
   unfold bG
   rw[Td,Td]
   apply UI
   intro p _
   show((if p.1=k then(p.1,v)else p).1,kV (if p.1=k then(p.1,v)else p).2)=if p.1=k then(p.1,kV v)else(p.1,kV p.2)
   by_cases h:p.1=k
   ·rw[if_pos h,if_pos h]
   ·rw[if_neg h,if_neg h]
  exact⟨_,e,by rw[QC];omega,fin _ e⟩
 ·have e:bG (kvs++[(k,v)])=cy (bG kvs) k (kV v):=by
   unfold cy
   rw[if_neg c]
   unfold bG
   rw[Rm];rfl
  exact⟨_,e,by simp,fin _ e⟩
def okW:okP (.inr "void")=true/\okP (.inr "entry")=true/\okP (.inr "joint")=true/\okP (.inr "row")=true:=by decide+kernel
def wM {e:Key}(h:okP e=true):okT [.inr "entry",e]=true:=hJ okW.2.1 (fun x hx=>by rw[QR.mp hx];exact h) (show 1<=7 by decide)
def xN {x y:Key}(hx:okP x=true)(hy:okP y=true):okT [.inr "joint",x,y]=true:=hJ okW.2.2.1 (fun z hz=>by
 rcases QG.mp hz with h|h
 ·rw[h];exact hx
 ·rw[QR.mp h];exact hy) (show 2<=7 by decide)
def sA:okT [.inr "void"]=true:=hJ okW.1 (fun _ h=>nomatch h) (by decide)
def okC {c:Nat}(h:c<2^60):okP (.inl (c:Int))=true:=by
 have p60:(2:Int)^60<10^60:=by decide+kernel
 have k:∀i:Int,0<=i->i<10^60->okP (.inl i)=true:=fun i h0 h1=>decide_eq_true ⟨h0,h1⟩
 exact k _ (by omega) (by omega)
def ub {c:Nat}{v:Key}(h:c<2^60)(ok:okP v=true):okT [.inr "row",.inl (c:Int),v]=true:=hJ okW.2.2.2 (fun x hx=>by
 rcases QG.mp hx with rfl|hx
 ·exact okC h
 ·rw[QR.mp hx];exact ok) (by show 2<=7;decide)
def DH {v:Key}(h:gU v):smE v:=by
 cases v with
 |inl i=>exact⟨decide_eq_true h,by show 62<=130;decide⟩
 |inr z=>
  have h:eG z=true/\z.length<=62:=h
  exact⟨by show(eG z&&decide (z.length<=100000))=true;rw[h.1,decide_eq_true (by omega)];rfl,by show z.length+62<=130;omega⟩
def Stp.small {H:Hp}{f b:Addr}{g:gOp}{n:Nat}{k:List Key}{v:Key}(s:Stp A H f b g n)(h:g k=some v):smE v:=by
 cases s with
 |cnt q x kvs hc num hl hs hg=>subst hg;exact DH (rV hs h)
def Stp.setD {H:Hp}{f b D:Addr}{g:gOp}{n m:Nat}{xs:List (List Key×V)}{o:HO}(s:Stp A H f b g n)(hD:H D=some (.dT xs))(h1:D≠b)(hn:n<=m):Stp A (upd H D o) f b g m:=s.keep hn fun z u e hz=>by
 rw[ap fun q=>?_]
 ·exact e
 ·subst q
  rw[hD]at e;cases e
  rcases hz with⟨_,q⟩|⟨q,_⟩|⟨_,_,_,q⟩
  ·cases q
  ·exact h1 q
  ·cases q
def Stp.setL {H:Hp}{f b L:Addr}{g:gOp}{n:Nat}{xs:List V}{o:HO}(s:Stp A H f b g n)(hL:H L=some (.lst xs)):Stp A (upd H L o) f b g n:=s.keep (gV _) fun z u e hz=>by
 rw[ap fun q=>?_]
 ·exact e
 ·subst q
  rw[hL]at e;cases e
  rcases hz with⟨_,q⟩|⟨_,_,q⟩|⟨_,_,_,q⟩<;>cases q
def dQ.same {H H':Hp}{x f L D:Addr}{es:List Key}{kvs:List (List Key×Key)}(r:dQ A H x f L D es kvs)(S:au H H'):dQ A H' x f L D es kvs:=by
 obtain⟨dx,hx⟩:=r.ob
 exact⟨⟨dx,S _ _ hx⟩,S _ _ r.hl,S _ _ r.hd,r.en,r.le,r.cs⟩
section
variable {H H':Hp}{x f L D b:Addr}{es:List Key}{kvs:List (List Key×Key)}{g g':gOp}{n m:Nat}
def dC.same (r:dC A H x f L D b es kvs g n)(S:au H H')(hn:n<=m):dC A H' x f L D b es kvs g m:=⟨r.r.same S,r.s.same hn S,r.db,Rl r.kl hn⟩
def dC.call (r:dC A H x f L D b es kvs g n)(kb:bN b H H')(s:Stp A H' f b g' m)(hn:n<=m):dC A H' x f L D b es kvs g' m:=by
 obtain⟨dx,hx⟩:=r.r.ob
 exact⟨⟨⟨dx,kb _ _ (r.s.nb hx (fun _ z=>nomatch z)) hx⟩,kb _ _ (r.s.nb r.r.hl (fun _ z=>nomatch z)) r.r.hl,kb _ _ r.db r.r.hd,r.r.en,r.r.le,r.r.cs⟩,s,r.db,Rl r.kl hn⟩
def dC.n2 (r:dC A H x f L D b es kvs g n){z:Addr}{o:HO}(h:H z=some o)(h2:∀kvs,o≠.dT kvs):z≠b/\z≠D:=⟨r.s.nb h h2,bw h r.r.hd (h2 _)⟩
def aW.rfl':aW b D H H:=fun _ _ _ _ e=>e
def aW.trans {H1 H2:Hp}(a:aW b D H H1)(c:aW b D H1 H2):aW b D H H2:=fun x o n n' e=>c x o n n' (a x o n n' e)
def aW.same (S:au H H'):aW b D H H':=fun x o _ _ e=>S x o e
def aW.kb (k:bN b H H'):aW b D H H':=fun x o n _ e=>k x o n e
end
def Hj (K:cW)(A:Adr)(n:Nat):Ln (qT K A n) 3:=by rintro vs H Q E ⟨x,f,L,D,b,es,kvs,g,n,a,m,rfl,_⟩;rfl
def IR (T:Txt K mg A)(n:Nat)(vs:List V)(H:Hp)(Q:VK)(E:XK)(h:qT K A n vs H Q E):Pm K A n {nx:=fun _ H'=>Q .non H',rt:=Q} (L2.cO ["self","first","many","ahead"] vs) H:=by
 obtain⟨x,f,L,D,b,es,kvs,g,N,a,m,rfl,r,ham,hm,hN,q⟩:=h
 obtain⟨dx,hx⟩:=r.r.ob
 have l60:=r.r.le
 refine Sel.dec (fun h=>?_) (fun h=>?_)
 ·obtain rfl:m=0:=by omega
  exact⟨aO (show 1<=1000000 by decide),fun p hp=>q p [.inr "void"] kvs g _ (aW.same (au.upd hp)) (r.same (au.upd hp) (gV _)) eV.rfl' ag sA⟩
 refine Sel.dec (fun h=>?_) (fun h=>?_)
 ·obtain rfl:m=1:=by omega
  obtain⟨e,he⟩:∃e,es[a]?=some e:=⟨_,QQ (by omega)⟩
  have en:=r.r.en e (Rp he)
  exact⟨x,A.c_Row,dx,_,.ref L,rfl,hx,T.cl_Row,T.na_Row_entries,rfl,ixL r.r.hl rfl (by rw[Ro,he];rfl) ⟨aO (show 2<=1000000 by decide),fun p hp=>q p [.inr "entry",e] kvs g _ (aW.same (au.upd hp)) (r.same (au.upd hp) (gV _)) eV.rfl' ag (wM en.1)⟩⟩
 ·have h2:2<=m:=by omega
  obtain⟨g1,g2⟩:=oJ h2
  refine⟨m,rfl,h2,by omega,x,dx,_,rfl,hx,rfl,x,f,L,D,b,es,kvs,g,N,a,aK m,rfl,r,by omega,by omega,by omega,fun v1 kvs1 g1' H1 k1 r1 s1 _ ok1=>?_⟩
  obtain⟨dx1,hx1⟩:=r1.r.ob
  refine⟨x,dx1,_,rfl,hx1,rfl,x,f,L,D,b,es,kvs1,g1',_,a+aK m,m- aK m,?_,r1,by omega,by omega,by omega,fun v2 kvs2 g2' H2 k2 r2 s2 _ ok2=>?_⟩
  ·rw[TJ,TC (by omega)]
  ·exact⟨aO (show 3<=1000000 by decide),fun p hp=>q p [.inr "joint",v1,v2] kvs2 g2' _ ((k1.trans k2).trans (aW.same (au.upd hp))) (r2.same (au.upd hp) (by omega)) (s1.trans s2) ag (xN ok1.1 ok2.1)⟩
def FT (K:cW)(A:Adr)(n:Nat):Ln (eJ K A n) 3:=by rintro vs H Q E ⟨x,f,L,D,b,es,kvs,g,n,a,m,rfl,_⟩;rfl
def CQ (K:cW)(A:Adr):∀vs H Q E,eJ K A 0 vs H Q E->False:=by rintro vs H Q E ⟨x,f,L,D,b,es,kvs,g,n,a,m,_,_,_,h,_⟩;omega
def LH (T:Txt K mg A)(n:Nat):Rd (eJ K A (n+1)) (ND K A n) ["self","first","many","part"]:=by
 intro vs H Q E h
 obtain⟨x,f,L,D,b,es,kvs,g,N,a,m,rfl,r,ham,hm,hN,q⟩:=h
 have l60:=r.r.le
 refine⟨aO (show 2<=1000000 by decide),fun p hp=>?_⟩
 have S1:au H (upd H p (.tup [.int (a:Int),.int (m:Int)])):=au.upd hp
 have r1:=r.same S1 (gV _)
 have hp1:upd H p (.tup [.int (a:Int),.int (m:Int)]) p=some (.tup (([.inl (a:Int),.inl (m:Int)]:List Key).map kV)):=ag
 generalize upd H p (.tup [.int (a:Int),.int (m:Int)])=H1 at S1 r1 hp1
 obtain⟨dx,hx1⟩:=r1.r.ob
 have g1:=eE.t r1.r.hd hp1
 rw[gb]at g1
 refine⟨x,A.c_Row,dx,_,.ref D,rfl,hx1,T.cl_Row,T.na_Row_tops,rfl,.inl ⟨D,_,rfl,g1,?_⟩⟩
 cases e:bI kvs [.inl (a:Int),.inl (m:Int)]with
 |some v=>
  rw[e]at g1
  refine Sel.no rfl ⟨x,A.c_Row,dx,_,.ref D,rfl,hx1,T.cl_Row,T.na_Row_tops,rfl,.inr ⟨D,_,rfl,g1,?_⟩⟩
  exact q v kvs g H1 (aW.same S1) (r1.same au.rfl' (by omega)) eV.rfl' e (r.r.cs _ _ e)
 |none=>
  refine Sel.yes rfl ⟨x,dx,_,f,rfl,hx1,rfl,r1.s.clo,x,dx,_,rfl,hx1,rfl,x,f,L,D,b,es,kvs,g,N,a,m,rfl,r1,ham,by omega,hN,fun p2 k kvs2 g2 H2 k2 r2 s2 hp2 okk=>?_⟩
  dsimp only[aj]
  refine iS r2.s (by omega) hp2 okk fun v H3 g3 kb s3 sub3 gv st=>?_
  have r3:=r2.call kb s3 (UN _)
  obtain⟨np,np'⟩:=r1.n2 hp1 (fun _ z=>nomatch z)
  have hp3:=kb _ _ np (k2 _ _ np np' hp1)
  obtain⟨dx3,hx3⟩:=r3.r.ob
  obtain⟨kvs4,e4,l4,f4⟩:=DT kvs2 [.inl (a:Int),.inl (m:Int)] v
  have kl:=r2.kl
  have ll:(bG kvs2).length=kvs2.length:=by simp[bG]
  refine⟨x,A.c_Row,dx3,_,.ref D,rfl,hx3,T.cl_Row,T.na_Row_tops,rfl,.inr ⟨D,_,rfl,.inr ⟨_,[.inl (a:Int),.inl (m:Int)],p,r3.r.hd,rfl,hp3,RX (m:=50000) (by omega) (aO (n:=50001) (by decide)),rfl⟩,?_⟩⟩
  have xD:x≠D:=bw hx3 r3.r.hd (fun z=>nomatch z)
  have LD:L≠D:=bw r3.r.hl r3.r.hd (fun z=>nomatch z)
  have pD:p≠D:=np'
  have sv:smE v:=s3.small gv
  have gg:=eE.t (H:=upd H3 D (.dT (cy (bG kvs2) [.inl (a:Int),.inl (m:Int)] (kV v)))) (kvs:=cy (bG kvs2) [.inl (a:Int),.inl (m:Int)] (kV v)) (k:=[.inl (a:Int),.inl (m:Int)]) ag (by rw[ap pD];exact hp3)
  rw[ma,if_pos rfl]at gg
  refine⟨x,A.c_Row,dx3,_,.ref D,rfl,by rw[ap xD];exact hx3,T.cl_Row,T.na_Row_tops,rfl,.inr ⟨D,_,rfl,gg,?_⟩⟩
  have K4:aW b D H3 (upd H3 D (.dT (cy (bG kvs2) [.inl (a:Int),.inl (m:Int)] (kV v)))):=fun z o _ n e=>by rw[ap n];exact e
  refine q v kvs4 g3 _ ((((aW.same S1).trans k2).trans (aW.kb kb)).trans K4) ⟨⟨⟨dx3,by rw[ap xD];exact hx3⟩,by rw[ap LD];exact r3.r.hl,by rw[e4];exact ag,r3.r.en,r3.r.le,?_⟩,r3.s.setD r3.r.hd r3.db (by omega),r3.db,by omega⟩ ⟨s2.s.trans sub3,fun s v' e'=>?_⟩ (by rw[f4];exact if_pos rfl) sv
  rotate_left
  ·rw[f4]
   by_cases hk:s=[.inl (a:Int),.inl (m:Int)]
   ·rw[hk,e]at e';cases e'
   ·rw[if_neg hk];exact s2.t s v' e'
  intro k' v' e'
  rw[f4]at e'
  by_cases hk:k'=[.inl (a:Int),.inl (m:Int)]
  ·rw[if_pos hk]at e'
   obtain rfl:=QZ e'
   exact sv
  ·rw[if_neg hk]at e'
   exact r3.r.cs _ _ e'
def Ir (K:cW)(A:Adr):Ln (rc K A) 2:=by rintro vs H Q E ⟨x,dx,f,rfl,_⟩;rfl
def Mn (T:Txt K mg A):Rd (rc K A) (NW K A) ["self","stamper"]:=by
 intro vs H Q E h
 obtain⟨x,dx,f,rfl,hx,q⟩:=h
 refine⟨x,A.c_Row,dx,[],rfl,hx,T.cl_Row,T.na_Row_stamper,by decide,QK _,fun L hL=>?_⟩
 obtain⟨Lx,hL⟩:=cA hL
 refine⟨x,A.c_Row,dx,_,rfl,by rw[ap (QU Lx)];exact ag,T.cl_Row,T.na_Row_entries,by show 1<1000;decide,.inr fun D hD=>?_⟩
 obtain⟨Dx,hD⟩:=cA hD
 obtain⟨DL,hD⟩:=cA hD
 obtain⟨_,hD⟩:=cA hD
 refine⟨x,A.c_Row,dx,_,rfl,by rw[ap (QU Dx)];exact ag,T.cl_Row,T.na_Row_tops,by show 2<1000;decide,q L D _ (fun z o zx e=>?_) hL hD (QU DL) ag ?_ ?_⟩
 ·rw[ap zx,ap (aq e hD),ap zx,ap (aq e hL),ap zx];exact e
 ·rw[ap Lx,ap (QU DL),ap Lx];exact ag
 ·rw[ap Dx];exact ag
def Gv (K:cW)(A:Adr):Ln (jz K A) 1:=by rintro vs H Q E ⟨x,f,L,D,es,kvs,rfl,_⟩;rfl
def Lo (T:Txt K mg A):Rd (jz K A) (Pz K A) ["self"]:=by
 intro vs H Q E h
 obtain⟨x,f,L,D,es,kvs,rfl,r,q⟩:=h
 obtain⟨dx,hx⟩:=r.ob
 refine⟨x,A.c_Row,dx,_,.ref L,rfl,hx,T.cl_Row,T.na_Row_entries,rfl,.inl (.inl ⟨_,SqL.of r.hl,?_⟩)⟩
 rw[QC];exact q
def Iq (K:cW)(A:Adr):Ln (qN K A) 2:=by rintro vs H Q E ⟨x,f,L,D,es,kvs,e,rfl,_⟩;rfl
def Kw (T:Txt K mg A):Rd (qN K A) (OM K A) ["self","entry"]:=by
 intro vs H Q E h
 obtain⟨x,f,L,D,es,kvs,e,rfl,r,en,le,q⟩:=h
 obtain⟨dx,hx⟩:=r.ob
 have q:Q (.int (es.length:Int)) (upd H L (.lst (es.map kV++[kV e]))):=by
  rw[Rm]at q;exact q
 refine⟨_,_,rfl,sG e,Sel.no (by rw[pj en.1];rfl) ⟨x,A.c_Row,dx,_,.ref L,rfl,hx,T.cl_Row,T.na_Row_entries,rfl,.inl ⟨rfl,_,SqL.of r.hl⟩,L,_,_,rfl,rfl,r.hl,?_,?_⟩⟩
 ·rw[QC];exact Ra le (aO (by decide))
 ·have hL:x≠L:=bw hx r.hl (fun z=>nomatch z)
  refine⟨x,A.c_Row,dx,_,.ref L,rfl,by rw[ap hL];exact hx,T.cl_Row,T.na_Row_entries,rfl,.inl (.inl ⟨_,SqL.of ag,?_⟩)⟩
  have e:(((es.map kV++[kV e]).length:Nat):Int)- 1=(es.length:Int):=by simp
  show Q (.int ((((es.map kV++[kV _]).length:Nat):Int)- 1)) _
  rw[e];exact q
def FQ (K:cW)(A:Adr):Ln (qO K A) 1:=by rintro vs H Q E ⟨f,b,g,n,rfl,_⟩;rfl
def Nw (T:Txt K mg A):Rd (qO K A) (NC K A) ["stamper"]:=by
 intro vs H Q E h
 obtain⟨f,b,g,n,rfl,s,hn,q⟩:=h
 refine⟨aO (show 1<=1000000 by decide),fun p1 hp1=>?_⟩
 have S1:au H (upd H p1 (.tup [.str "void"])):=au.upd hp1
 have s1:=s.same (gV _) S1
 generalize upd H p1 (.tup [.str "void"])=H1 at S1 s1
 refine⟨f,rfl,s1.clo,aO (show 1<=1000000 by decide),fun p0 hp0=>?_⟩
 have S2:au H1 (upd H1 p0 (.tup [.str "void"])):=au.upd hp0
 have s2:=s1.same (gV _) S2
 have hk2:upd H1 p0 (.tup [.str "void"]) p0=some (.tup (([.inr "void"]:List Key).map kV)):=ag
 generalize upd H1 p0 (.tup [.str "void"])=H2 at S2 s2 hk2
 dsimp only[aj]
 refine iS s2 (by omega) hk2 sA fun w H3 g3 kb s3 sub3 gv st=>⟨aO (show 3<=1000000 by decide),fun p2 hp2=>⟨aO (show 2<=1000000 by decide),fun L hL=>?_⟩⟩
 have S4:au H3 (upd (upd H3 p2 (.tup [.str "row",.int 0,kV w])) L (.lst [.ref p1,.ref p2])):=(au.upd hp2).trans (au.upd hL)
 refine q L p1 p2 w g3 _ (((bN.same S1).trans (bN.same S2)).trans (kb.trans (bN.same S4))) (s3.same (gV _) S4) sub3 ag ?_ (s3.small gv)
 rw[ap (QU (cA hL).1)];exact ag
def Ic (K:cW)(A:Adr):Ln (qD K A) 1:=by rintro vs H Q E ⟨f,b,g,n,rfl,_⟩;rfl
def Mb (T:Txt K mg A):Rd (qD K A) (Pc K A) ["stamper"]:=by
 intro vs H Q E h
 obtain⟨f,b,g,n,rfl,s,hn,q⟩:=h
 refine⟨f,rfl,s.clo,f,b,g,n,rfl,s,hn,fun L p1 p2 v g1 H1 k1 s1 sub1 hL hp2 okv=>?_⟩
 refine nV (qs:=[.ref p1]) hL ?_
 dsimp only[aj]
 refine iS s1 (by omega) (k:=[.inr "row",.inl 0,v]) hp2 (ub (c:=0) (by decide) okv.1) fun w H3 g3 kb s3 sub3 gv st=>⟨aO (show 2<=1000000 by decide),fun p hp=>?_⟩
 exact q p w g3 _ (k1.trans (kb.trans (bN.same (au.upd hp)))) (s3.same (gV _) (au.upd hp)) (sub1.trans sub3) ag (s3.small gv)
def Ga (K:cW)(A:Adr):Ln (mZ K A) 1:=by rintro vs H Q E ⟨x,dx,rfl,_⟩;rfl
def Ki (T:Txt K mg A):Rd (mZ K A) (NJ K A) ["self"]:=by
 intro vs H Q E h
 obtain⟨x,dx,rfl,hx,q⟩:=h
 refine .inr fun d hd=>?_
 exact⟨x,A.c_Seals,dx,[],rfl,by rw[ap (aq hx hd)];exact hx,T.cl_Seals,T.na_Seals_sealed,by decide,q d hd⟩
def yi {c:Nat}{mk:Key}(h:c<2^60)(ok:okP mk=true):kT (.tup [.int (c:Int),bA mk])=true:=by
 show(da (.int (c:Int))&&eI (bA mk))=true
 rw[mq (by omega) (by omega),pj ok];rfl
def FE (K:cW)(A:Adr):Ln (mG K A) 2:=by rintro vs H Q E ⟨x,d,p,n,c,v,rfl,_⟩;rfl
def MX (T:Txt K mg A):Rd (mG K A) (Qj K A) ["self","head"]:=by
 intro vs H Q E h
 obtain⟨x,d,p,n,c,v,rfl,se,hn,hp,hc,ok,q⟩:=h
 obtain⟨dx,hx⟩:=se.ob
 obtain⟨kvs,hd,hl⟩:=se.di
 refine⟨_,_,rfl,.tup hp (.cons (.int _) (.cons (sG v) .nil)),yi hc ok,?_⟩
 refine⟨x,A.c_Seals,dx,_,.ref d,rfl,hx,T.cl_Seals,T.na_Seals_sealed,rfl,?_⟩
 exact .inr ⟨d,_,rfl,kh.t (k:=[.inl (c:Int),v]) hd hp (RX (m:=50000) (by omega) (aO (n:=50001) (by decide))),q _ (Rl (iA _ _ _) (by omega))⟩
def IB (K:cW)(A:Adr):Ln (mP K A) 3:=by rintro vs H Q E ⟨x,f,L,D,es,kvs,v,w,d,e,rfl,_⟩;rfl
def MZ (T:Txt K mg A):Rd (mP K A) (Qd K A) ["self","count","place"]:=by
 intro vs H Q E h
 obtain⟨x,f,L,D,es,kvs,v,w,d,e,rfl,r,hd,he,q⟩:=h
 obtain⟨dx,hx⟩:=r.ob
 refine⟨v,d,w,e,rfl,hd,he,?_⟩
 cases hE:dD d e with
 |false=>rw[hE]at q;exact Sel.f q
 |true=>
  rw[hE]at q
  obtain⟨c,el,rfl,rfl,_,_⟩:=io hE
  cases hd.int_inv
  exact Sel.t ⟨x,dx,_,rfl,hx,rfl,x,f,L,D,es,kvs,rfl,r,q⟩
def Hs (K:cW)(A:Adr):Ln (li K A) 3:=by rintro vs H Q E ⟨x,f,L,D,es,kvs,v,w,d,e,rfl,_⟩;rfl
def Lu (T:Txt K mg A):Rd (li K A) (Oc K A) ["self","count","elder"]:=by
 intro vs H Q E h
 obtain⟨x,f,L,D,es,kvs,v,w,d,e,rfl,r,hd,he,q⟩:=h
 obtain⟨dx,hx⟩:=r.ob
 refine⟨v,d,w,e,rfl,hd,he,?_⟩
 cases hE:cM d e with
 |false=>rw[hE]at q;exact Sel.f q
 |true=>
  rw[hE]at q
  obtain⟨c,el,rfl,rfl,_,_⟩:=kM hE
  cases hd.int_inv
  exact Sel.t ⟨x,dx,_,rfl,hx,rfl,x,f,L,D,es,kvs,rfl,r,q⟩
def Fs {es:List Key}{d:Dat}:(cM (.int (es.length:Int)) d&&leD (es.length:Int) (.int (es.length:Int)))=cM (.int (es.length:Int)) d:=by
 have e:leD (es.length:Int) (.int (es.length:Int))=true:=decide_eq_true (Int.le_refl _)
 rw[e,XJ]
def Fp (K:cW)(A:Adr):Ln (rp K A) 2:=by rintro vs H Q E ⟨x,f,L,D,b,es,kvs,g,n,c,rfl,_⟩;rfl
def LX (T:Txt K mg A):Rd (rp K A) (Qy K A) ["self","count"]:=by
 intro vs H Q E h
 obtain⟨x,f,L,D,b,es,kvs,g,n,c,rfl,r,hc,hn,q⟩:=h
 obtain⟨dx,hx⟩:=r.r.ob
 have l60:=r.r.le
 refine⟨x,dx,_,rfl,hx,rfl,x,dx,_,rfl,hx,rfl,x,f,L,D,es,kvs,rfl,r.r,x,f,L,D,es,kvs,_,_,_,_,rfl,r.r,.int _,.int _,?_⟩
 rw[Fs,sC hc (by omega)]
 refine Sel.f ?_
 refine⟨x,dx,_,f,rfl,hx,rfl,r.s.clo,x,dx,_,rfl,hx,rfl,x,f,L,D,b,es,kvs,g,n,0,c,rfl,r,by omega,by omega,by omega,fun v kvs1 g1 H1 k1 r1 s1 hv1 ok1=>⟨aO (show 3<=1000000 by decide),fun p hp=>?_⟩⟩
 have S2:au H1 (upd H1 p (.tup [.str "row",.int (c:Int),kV v])):=au.upd hp
 have hp2:upd H1 p (.tup [.str "row",.int (c:Int),kV v]) p=some (.tup (([.inr "row",.inl (c:Int),v]:List Key).map kV)):=ag
 have r2:=r1.same S2 (gV _)
 dsimp only[aj]
 refine iS r2.s (by omega) hp2 (ub (by omega) ok1.1) fun w H3 g3 kb s3 sub3 gv st=>?_
 exact q w kvs1 g3 H3 ((k1.trans (aW.same S2)).trans (aW.kb kb)) ((r2.call kb s3 (UN _)).same au.rfl' (by omega)) ⟨s1.s.trans sub3,s1.t⟩ ⟨v,hv1,gv⟩ (s3.small gv)
def Ei {k k':List (List Key×Key)}(h:bG k=bG k')(s:List Key):bI k s=bI k' s:=by
 have h1:=gb k s
 rw[h,gb]at h1
 cases e:bI k s with
 |none=>rw[e]at h1;cases e':bI k' s with
  |none=>rfl
  |some w=>rw[e']at h1;cases h1
 |some v=>rw[e]at h1;cases e':bI k' s with
  |none=>rw[e']at h1;cases h1
  |some w=>rw[e']at h1;rw[mQ (QZ h1)]
def mE {H:Hp}{D:Addr}{k k':List (List Key×Key)}(h:H D=some (.dT (bG k)))(h':H D=some (.dT (bG k')))(s:List Key):bI k s=bI k' s:=by
 rw[h]at h';exact Ei (HO.dT.inj (QZ h')) s
def bi.of {H H':Hp}{D:Addr}{k k':List (List Key×Key)}(h:H D=some (.dT (bG k)))(h':H' D=some (.dT (bG k')))(s:oO k k'):bi D H H':=fun k0 h0=>⟨k',h',fun z v e=>s z v (by rw[mE h h0];exact e)⟩
def bi.rfl' {H:Hp}{D:Addr}:bi D H H:=fun k h=>⟨k,h,fun _ _ e=>e⟩
def bi.trans {H H1 H2:Hp}{D:Addr}(a:bi D H H1)(c:bi D H1 H2):bi D H H2:=fun k h=>by
 obtain⟨k1,e1,s1⟩:=a k h
 obtain⟨k2,e2,s2⟩:=c k1 e1
 exact⟨k2,e2,fun z v e=>s2 z v (s1 z v e)⟩
def bi.same {H H':Hp}{D:Addr}(S:au H H'):bi D H H':=fun k h=>⟨k,S _ _ h,fun _ _ e=>e⟩
section
variable {H H' H'':Hp}{l l':List Addr}{b x z:Addr}{o:HO}
def KM.same (S:au H H'):KM l H H':=fun z o _ e=>S z o e
def KM.trans (a:KM l H H')(c:KM l H' H''):KM l H H'':=fun z o n e=>c z o n (a z o n e)
def KM.sub (a:KM l H H')(h:∀z∈l,z∈l'):KM l' H H':=fun z o n e=>a z o (fun m=>n (h z m)) e
def KM.kb (k:bN b H H')(h:b∈l):KM l H H':=fun z o n e=>k z o (fun q=>n (q▸h)) e
def KM.k2 (k:aW b x H H')(h:b∈l)(h2:x∈l):KM l H H':=fun z o n e=>k z o (fun q=>n (q▸h)) (fun q=>n (q▸h2)) e
def KM.upd (h:x∈l):KM l H (L2.upd H x o):=fun z u n e=>by
 have:z≠x:=fun q=>n (by rw[q];exact h)
 rw[ap this];exact e
def NkS (l:List Addr)(H:Hp):Prop:=∀z∈l,∀o,H z=some o->¬knO o
def knO.lst {xs:List V}(h:knO (.lst xs)):False:=by rcases h with⟨_,h⟩|⟨_,_,_,_,_,h⟩<;>cases h
def knO.house {C dx:Addr}{v:V}{fs:List (Str×V)}(h:knO (.ins C dx ((("table":Str),v)::fs))):False:=by
 rcases h with⟨_,h⟩|⟨_,_,_,_,_,h⟩
 ·cases h
 ·injection h with _ _ h;injection h with h;injection h with h;exact absurd h (by decide)
def NkS.nil:NkS [] H:=fun _ h=>nomatch h
def NkS.cons (e:H x=some o)(n:¬knO o)(h:NkS l H):NkS (x::l) H:=fun z hz u eu=>by
 rcases QG.mp hz with q|q
 ·subst q;rw[e]at eu;cases eu;exact n
 ·exact h z q u eu
def NkS.bd {f:Addr}{g:gOp}{n:Nat}(s:Stp A H f b g n)(h:NkS l H):NkS (b::l) H:=by
 obtain⟨kvs,e⟩:=s.bd
 exact .cons e (fun q=>q.dT) h
end
section
variable {H H':Hp}{g g':gOp}{x y f:Addr}{n n' B:Nat}{t:Kn Str}{m:Key}{l:List Addr}
def TbA.km (h:TbA A H g y f B t m)(k:KM l H H')(hs:NkS l H)(hy:y∉l)(sub:Sub g g'):TbA A H' g' y f B t m:=h.keep (fun u e=>k _ _ hy e) (fun z u e hu=>k _ _ (fun hz=>hs z hz u e hu) e) sub
theorem TmA.km:∀{ys:List Addr}{ts:List (Kn Str)},TmA A H g f B ys ts->KM l H H'->NkS l H->(∀y∈ys,y∉l)->Sub g g'->TmA A H' g' f B ys ts
 |_,_,.nil,_,_,_,_=>.nil
 |_,_,.cons ⟨m,r⟩ p,k,hs,hy,sub=>.cons ⟨m,r.km k hs (hy _ Rb) sub⟩ (TmA.km p k hs (fun y h=>hy y (QN _ h)) sub)
def dQ.km {L D:Addr}{es:List Key}{kvs:List (List Key×Key)}(r:dQ A H x f L D es kvs)(k:KM l H H')(h1:x∉l)(h2:L∉l)(h3:D∉l):dQ A H' x f L D es kvs:=by
 obtain⟨dx,hx⟩:=r.ob
 exact⟨⟨dx,k _ _ h1 hx⟩,k _ _ h2 r.hl,k _ _ h3 r.hd,r.en,r.le,r.cs⟩
def SeA.km {d:Addr}(r:SeA A H x d n)(k:KM l H H')(h1:x∉l)(h2:d∉l)(hn:n<=n'):SeA A H' x d n':=by
 obtain⟨dx,hx⟩:=r.ob
 obtain⟨kvs,hd,hl⟩:=r.di
 exact⟨⟨dx,k _ _ h1 hx⟩,⟨kvs,k _ _ h2 hd,Rl hl hn⟩⟩
def HoA.km {a:HA}(h:HoA A H x a)(k:KM l H H')(h1:x∉l):HoA A H' x a:=by
 obtain⟨dx,hx⟩:=h
 exact⟨dx,k _ _ h1 hx⟩
def HsA.km {a:HA}{ts:List (Kn Str)}{ys:List Addr}(h:HsA A H g x f n B a t ts ys)(k:KM l H H')(hs:NkS l H)(sub:Sub g g')(hn:n<=n')(h1:x∉l)(h2:a.tb∉l)(h3:a.ro∉l)(h4:a.L∉l)(h5:a.D∉l)(h6:a.ml∉l)(h7:∀y∈ys,y∉l)(h8:SeA A H' a.sl a.sd n'):HsA A H' g' x f n' B a t ts ys:=by
 obtain⟨m,ta⟩:=h.ta
 obtain⟨es,kvs,r,e1,e2⟩:=h.ro
 exact⟨h.ob.km k h1,⟨m,ta.km k hs h2 sub⟩,⟨es,kvs,r.km k h3 h4 h5,e1,Rl e2 hn⟩,k _ _ h6 h.hm,h.tm.km k hs h7 sub,h8⟩
def HsA.same {a:HA}{ts:List (Kn Str)}{ys:List Addr}(h:HsA A H g x f n B a t ts ys)(S:au H H')(hn:n<=n'):HsA A H' g x f n' B a t ts ys:=
 h.km (l:=[]) (KM.same S) NkS.nil Sub.rfl' hn (nofun) (nofun) (nofun) (nofun) (nofun) (nofun) (fun _ _=>nofun) (h.se.km (l:=[]) (KM.same S) (nofun) (nofun) hn)
def muO (o:HO):Prop:=(∃kvs,o=.dT kvs)\/(∃kvs,o=.dK kvs)\/(∃xs,o=.lst xs)\/∃C dx v w fs,o=HO.ins C dx ((("stamper":Str),v)::(("bits":Str),w)::fs)
def MuS (l:List Addr)(H:Hp):Prop:=∀z∈l,∃o,H z=some o/\muO o
def MuS.no {o:HO}(h:MuS l H)(e:H x=some o)(n:¬muO o):x∉l:=fun hx=>by
 obtain⟨u,e2,h2⟩:=h x hx
 rw[e]at e2;cases e2;exact n h2
def Fj {C dx:Addr}{w:Str}{v:V}{fs:List (Str×V)}(h:w≠"stamper"):¬muO (.ins C dx ((w,v)::fs)):=by
 rintro(⟨_,e⟩|⟨_,e⟩|⟨_,e⟩|⟨_,_,_,_,_,e⟩)
 ·cases e
 ·cases e
 ·cases e
 ·injection e with _ _ e;injection e with e;injection e with e;exact h e
def NM {C dx:Addr}{w:Str}{u v:V}{fs:List (Str×V)}(h:w≠"bits"):¬muO (.ins C dx ((("stamper":Str),u)::(w,v)::fs)):=by
 rintro(⟨_,e⟩|⟨_,e⟩|⟨_,e⟩|⟨_,_,_,_,_,e⟩)
 ·cases e
 ·cases e
 ·cases e
 ·injection e with _ _ e;injection e with _ e;injection e with e;injection e with e;exact h e
def HsA.noX {a:HA}{ts:List (Kn Str)}{ys:List Addr}(h:HsA A H g x f n B a t ts ys)(m:MuS l H):x∉l/\a.ro∉l/\a.sl∉l:=by
 obtain⟨dx,hx⟩:=h.ob
 obtain⟨es,kvs,r,_⟩:=h.ro
 obtain⟨dr,hr⟩:=r.ob
 obtain⟨ds,hs⟩:=h.se.ob
 exact⟨m.no hx (Fj (by decide)),m.no hr (NM (by decide)),m.no hs (Fj (by decide))⟩
end
def Il (K:cW)(A:Adr):Ln (lF K A) 3:=by rintro vs H Q E ⟨x,a,v,w,rfl,_⟩;rfl
def IM (T:Txt K mg A):Rd (lF K A) (On K A) ["self","key","value"]:=by
 intro vs H Q E h
 obtain⟨x,a,v,w,rfl,⟨dx,hx⟩,⟨f,g,B,t,m,ta⟩,q⟩:=h
 obtain⟨dt,y,o,_⟩:=ta.ob
 exact⟨x,_,dx,_,_,rfl,hx,T.cl_House,T.na_House_table,rfl,a.tb,dt,_,rfl,o,rfl,q⟩
def EQ (K:cW)(A:Adr):Ln (kU K A) 2:=by rintro vs H Q E ⟨x,a,v,rfl,_⟩;rfl
def Mf (T:Txt K mg A):Rd (kU K A) (NE K A) ["self","key"]:=by
 intro vs H Q E h
 obtain⟨x,a,v,rfl,⟨dx,hx⟩,⟨f,g,B,t,m,ta⟩,q⟩:=h
 obtain⟨dt,y,o,_⟩:=ta.ob
 exact⟨x,_,dx,_,_,rfl,hx,T.cl_House,T.na_House_table,rfl,a.tb,dt,_,rfl,o,rfl,q⟩
theorem TmA.get {H:Hp}{g:gOp}{f:Addr}{B:Nat}:∀{ys:List Addr}{ts:List (Kn Str)}{p:Nat}{t:Kn Str},TmA A H g f B ys ts->ts[p]?=some t->∃y m,ys[p]?=some y/\TbA A H g y f B t m
 |_,_,0,_,.cons ⟨m,r⟩ _,h=>by cases h;exact⟨_,m,rfl,r⟩
 |_,_,p+1,_,.cons _ r,h=>TmA.get r (p:=p) h
def Ex (K:cW)(A:Adr):Ln (hZ K A) 1:=by rintro vs H Q E ⟨x,f,b,g,n,B,a,t,ts,ys,rfl,_⟩;rfl
def Nh (T:Txt K mg A):Rd (hZ K A) (PV K A) ["self","count"]:=by
 intro vs H Q E h
 obtain⟨x,f,b,g,n,B,a,t,ts,ys,rfl,h,hd,s,hn,q⟩:=h
 obtain⟨dx,hx⟩:=h.ob
 obtain⟨es,kvs,r,le,lk⟩:=h.ro
 obtain⟨dr,hr⟩:=r.ob
 have nd:=hd.nd
 simp only[RA,QG,Rc,or_false,not_or]at nd
 obtain⟨⟨n1,n2,n3,n4,n5⟩,⟨n6,n7,n8,n9⟩,⟨n10,n11,n12⟩,⟨n13,n14⟩,⟨n15,_⟩⟩:=nd
 refine⟨x,_,dx,_,_,rfl,hx,T.cl_House,T.na_House_row,rfl,a.ro,dr,_,rfl,hr,rfl,a.ro,f,a.L,a.D,es,kvs,rfl,r,?_⟩
 refine⟨x,_,dx,_,_,rfl,hx,T.cl_House,T.na_House_row,rfl,a.ro,dr,_,rfl,hr,rfl,a.ro,f,a.L,a.D,b,es,kvs,g,n,es.length,rfl,⟨r,s,QU n3,lk⟩,gV _,by omega,fun v kvs' g' H' k2 r' subB nv sv=>⟨aO (show 2<=1000000 by decide),fun p hp=>?_⟩⟩
 have S1:=au.upd (o:=.tup [V.int (es.length:Int),kV v]) hp
 have hp1:upd H' p (.tup [V.int (es.length:Int),kV v]) p=some (.tup [V.int (es.length:Int),kV v]):=ag
 have sub:=subB.s
 have nw:NwV a.D H' g' es.length v:=let ⟨y,y1,y2⟩:=nv;⟨kvs',y,r'.r.hd,y1,y2⟩
 rw[le]at nw
 rw[le]at S1 hp1⊢
 generalize upd H' p (.tup [V.int (ts.length:Int),kV v])=H1 at*
 obtain⟨kb,eb⟩:=s.bd
 have nk:NkS [b,a.D] H:=.bd s (.cons r.hd (fun q=>q.dT) .nil)
 have mu:MuS [b,a.D] H:=fun z hz=>by
  simp only[QG,Rc,or_false]at hz
  rcases hz with rfl|rfl
  ·exact⟨_,eb,.inl ⟨_,rfl⟩⟩
  ·exact⟨_,r.hd,.inl ⟨_,rfl⟩⟩
 obtain⟨m1,m2,m3⟩:=h.noX mu
 have km:KM [b,a.D] H H':=KM.k2 k2 (by simp) (by simp)
 have two:∀{z:Addr},z≠b->z≠a.D->z∉[b,a.D]:=fun h1 h2 q=>by
  simp only[QG,Rc,or_false]at q
  exact q.elim h1 h2
 obtain⟨m,ta⟩:=h.ta
 have h2:HsA A H' g' x f (n+200) B a t ts ys:=⟨h.ob.km km m1,⟨m,ta.km km nk (two (QU n1) n7) sub⟩,⟨es,kvs',r'.r,le,r'.kl⟩,km _ _ (two (QU n4) (QU n13)) h.hm,h.tm.km km nk (fun y hy=>?_) sub,h.se.km km m3 (two (QU n5) (QU n14)) (by omega)⟩
 ·exact q p v g' H1 (fun z o z1 z2 e=>S1 _ _ (k2 z o z1 z2 e)) (h2.same S1 (gV _)) (r'.s.same (gV _) S1) sub ((bi.of r.hd r'.r.hd subB.t).trans (bi.same S1)) (let ⟨k,y,y0,y1,y2⟩:=nw;⟨k,y,S1 _ _ y0,y1,y2⟩) hp1 sv
 ·obtain⟨i,hi⟩:=Uq.mp hy
  have hlt:i<ts.length:=by rw[<-h.tm.length];exact(QY.mp hi).1
  obtain⟨y',m',hy',ty⟩:=h.tm.get (QQ hlt)
  rw[hi]at hy';cases hy'
  obtain⟨dy,y0,oy,_⟩:=ty.ob
  exact two (s.nb oy fun _ z=>nomatch z) (bw oy r.hd fun z=>nomatch z)
def eO {z b x:Addr}(h1:z≠b)(h2:z≠x):z∉[b,x]:=fun q=>by
 simp only[QG,Rc,or_false]at q
 exact q.elim h1 h2
def aJ {z b:Addr}(h1:z≠b):z∉[b]:=fun q=>h1 (QR.mp q)
def Fe (K:cW)(A:Adr):Ln (mS K A) 4:=by rintro vs H Q E ⟨x,dx,f,b,sl,sd,g,n,v,d,rfl,_⟩;rfl
def Ma (T:Txt K mg A):Rd (mS K A) (Oa K A) ["self","stamper","bits","seals"]:=by
 intro vs H Q E h
 obtain⟨x,dx,f,b,sl,sd,g,n,v,d,rfl,hx,wd,s,hn,se,sdb,qE,q⟩:=h
 obtain⟨dsl,hsl⟩:=se.ob
 obtain⟨kvs0,hsd,lsd⟩:=se.di
 obtain⟨kb0,eb⟩:=s.bd
 intro tb dtb htb hdtb ne1
 have S1:=ci (o:=.own tb) (u:=.ins A.c_Table dtb []) htb hdtb ne1
 refine⟨tb,dtb,f,b,g,n,v,d,rfl,ag,wd.mono S1,s.same (gV _) S1,by omega,qE,fun B ed B1 B60 m g1 H1 k1 ta s1 sub1=>⟨rfl,?_⟩⟩
 have q:=q B ed B1 B60
 clear qE
 have K1:KM [b,x] H H1:=fun z o zn e=>k1 z o (fun w=>zn (by simp[w])) (aq e htb) (S1 _ _ e)
 have xb:x≠b:=s.nb hx fun _ z=>nomatch z
 have hx1:H1 x=some (.ins A.c_House dx []):=k1 _ _ xb (aq hx htb) (S1 _ _ hx)
 have tbx:tb≠x:=QU (aq hx htb)
 clear k1 S1
 refine⟨x,A.c_House,dx,[],rfl,hx1,T.cl_House,T.na_House_table,by decide,?_⟩
 have ta2:TbA A (upd H1 x (.ins A.c_House dx (br "table" (.ref tb) []))) g1 tb f B .bare m:=ta.km (l:=[x]) (KM.upd (by simp)) (.cons hx1 (fun k=>k.nil) .nil) (aJ tbx) Sub.rfl'
 have s2:=s1.put (o:=.ins A.c_House dx (br "table" (.ref tb) [])) (gV _) hx1 (fun v z=>nomatch z)
 have K2:KM [b,x] H (upd H1 x (.ins A.c_House dx (br "table" (.ref tb) []))):=K1.trans (KM.upd (by simp))
 have hx2:upd H1 x (.ins A.c_House dx (br "table" (.ref tb) [])) x=some (.ins A.c_House dx [("table",.ref tb)]):=ag
 generalize upd H1 x (.ins A.c_House dx (br "table" (.ref tb) []))=H2 at*
 clear K1 hx1 ta s1
 intro ro dro hro hdro ne2
 have S2:=ci (o:=.own ro) (u:=.ins A.c_Row dro []) hro hdro ne2
 refine⟨ro,dro,f,rfl,ag,fun L D H3 k3 hL hD LD e1 e2 e3=>⟨rfl,?_⟩⟩
 have S3:au H2 H3:=fun z o e=>k3 z o (aq e hro) (S2 _ _ e)
 obtain⟨Lro,hL⟩:=cA hL
 obtain⟨_,hL⟩:=cA hL
 obtain⟨Dro,hD⟩:=cA hD
 obtain⟨_,hD⟩:=cA hD
 have hx3:=S3 _ _ hx2
 have ta3:=ta2.same S3
 have s3:=s2.same (gV _) S3
 have K3:KM [b,x] H H3:=K2.trans (KM.same S3)
 have tbro:tb≠ro:=by obtain⟨_,_,o,_⟩:=ta2.ob;exact aq o hro
 have tbL:tb≠L:=by obtain⟨_,_,o,_⟩:=ta2.ob;exact aq o hL
 have tbD:tb≠D:=by obtain⟨_,_,o,_⟩:=ta2.ob;exact aq o hD
 have xL:x≠L:=aq hx2 hL
 have xD:x≠D:=aq hx2 hD
 have xro:x≠ro:=aq hx2 hro
 have Db:D≠b:=by obtain⟨_,eb⟩:=s2.bd;exact QU (aq eb hD)
 have fr:∀{z:Addr},z≠x->H2 z=none->H z=none:=fun{z} zx hz=>by
  cases e:H z with
  |none=>rfl
  |some o=>
   by_cases zb:z=b
   ·subst zb;obtain⟨_,eb⟩:=s2.bd;rw[hz]at eb;cases eb
   ·rw[K2 z o (eO zb zx) e]at hz;cases hz
 have fro:=fr (QU xro) hro
 have fL:=fr (QU xL) hL
 have fD:=fr (QU xD) hD
 refine⟨x,A.c_House,dx,_,rfl,hx3,T.cl_House,T.na_House_row,by show 1<1000;decide,?_⟩
 have nk3:NkS [x] H3:=.cons hx3 (fun k=>k.house) .nil
 have K3x:∀{o:HO},KM [x] H3 (upd H3 x o):=KM.upd (by simp)
 have ta4:TbA A (upd H3 x (.ins A.c_House dx (br "row" (.ref ro) [("table",.ref tb)]))) g1 tb f B .bare m:=ta3.km K3x nk3 (aJ tbx) Sub.rfl'
 have s4:=s3.put (o:=.ins A.c_House dx (br "row" (.ref ro) [("table",.ref tb)])) (gV _) hx3 (fun v z=>by injection z with z;injection z with z;exact absurd z (by decide))
 have r3:dQ A H3 ro f L D [] []:=⟨⟨dro,e1⟩,e2,e3,fun _ h=>(nomatch h),QK _,fun k v h=>(nomatch h)⟩
 have r4:dQ A (upd H3 x (.ins A.c_House dx (br "row" (.ref ro) [("table",.ref tb)]))) ro f L D [] []:=r3.km K3x (aJ (QU xro)) (aJ (QU xL)) (aJ (QU xD))
 have K4:KM [b,x] H (upd H3 x (.ins A.c_House dx (br "row" (.ref ro) [("table",.ref tb)]))):=K3.trans (KM.upd (by simp))
 have hx4:upd H3 x (.ins A.c_House dx (br "row" (.ref ro) [("table",.ref tb)])) x=some (.ins A.c_House dx [("table",.ref tb),("row",.ref ro)]):=ag
 generalize upd H3 x (.ins A.c_House dx (br "row" (.ref ro) [("table",.ref tb)]))=H4 at*
 clear ta2 ta3 s2 s3 K2 K3 r3 nk3 k3 S2 S3 fr
 refine⟨QK _,fun ml hml=>?_⟩
 have S5:=au.upd (o:=.lst []) hml
 have e5:upd H4 ml (.lst []) ml=some (.lst (([]:List Addr).map V.ref)):=ag
 have tbml:tb≠ml:=by obtain⟨_,_,o,_⟩:=ta4.ob;exact aq o hml
 have xml:x≠ml:=aq hx4 hml
 have mlL:L≠ml:=aq r4.hl hml
 have mlD:D≠ml:=aq r4.hd hml
 have mlro:ro≠ml:=by obtain⟨_,o⟩:=r4.ob;exact aq o hml
 have fml:H ml=none:=by
  cases e:H ml with
  |none=>rfl
  |some o=>
   by_cases zb:ml=b
   ·subst zb;obtain⟨_,eb⟩:=s4.bd;rw[hml]at eb;cases eb
   ·rw[K4 _ o (eO zb (QU xml)) e]at hml;cases hml
 have ta5:=ta4.same S5
 have s5:=s4.same (gV _) S5
 have r5:=r4.same S5
 have hx5:=S5 _ _ hx4
 have K5:KM [b,x] H (upd H4 ml (.lst [])):=K4.trans (KM.same S5)
 generalize upd H4 ml (.lst [])=H5 at*
 clear ta4 s4 r4 hx4 K4 S5
 refine⟨x,A.c_House,dx,_,rfl,hx5,T.cl_House,T.na_House_makes,by show 2<1000;decide,?_⟩
 have two:∀{o u:HO},KM [x] H5 (upd (upd H5 x o) x u):=(KM.upd (by simp)).trans (KM.upd (by simp))
 refine⟨x,A.c_House,dx,_,rfl,ag,T.cl_House,T.na_House_seals,by show 3<1000;decide,?_⟩
 have nk5:NkS [x] H5:=.cons hx5 (fun k=>k.house) .nil
 have s6a:=s5.put (o:=.ins A.c_House dx (br "makes" (.ref ml) [("table",.ref tb),("row",.ref ro)])) (gV _) hx5 (fun v z=>by injection z with _ z;cases z)
 have s6:=s6a.put (o:=.ins A.c_House dx (br "seals" (.ref sl) (br "makes" (.ref ml) [("table",.ref tb),("row",.ref ro)]))) (gV _) ag (fun v z=>by injection z with _ z;cases z)
 have ta6:=ta5.km (two (o:=.ins A.c_House dx (br "makes" (.ref ml) [("table",.ref tb),("row",.ref ro)])) (u:=.ins A.c_House dx (br "seals" (.ref sl) (br "makes" (.ref ml) [("table",.ref tb),("row",.ref ro)])))) nk5 (aJ tbx) Sub.rfl'
 have r6:=r5.km (two (o:=.ins A.c_House dx (br "makes" (.ref ml) [("table",.ref tb),("row",.ref ro)])) (u:=.ins A.c_House dx (br "seals" (.ref sl) (br "makes" (.ref ml) [("table",.ref tb),("row",.ref ro)])))) (aJ (QU xro)) (aJ (QU xL)) (aJ (QU xD))
 have e6:=two (o:=.ins A.c_House dx (br "makes" (.ref ml) [("table",.ref tb),("row",.ref ro)])) (u:=.ins A.c_House dx (br "seals" (.ref sl) (br "makes" (.ref ml) [("table",.ref tb),("row",.ref ro)]))) _ _ (aJ (QU xml)) e5
 have K6:KM [b,x] H (upd (upd H5 x (.ins A.c_House dx (br "makes" (.ref ml) [("table",.ref tb),("row",.ref ro)]))) x (.ins A.c_House dx (br "seals" (.ref sl) (br "makes" (.ref ml) [("table",.ref tb),("row",.ref ro)])))):=K5.trans ((KM.upd (by simp)).trans (KM.upd (by simp)))
 have hx6:upd (upd H5 x (.ins A.c_House dx (br "makes" (.ref ml) [("table",.ref tb),("row",.ref ro)]))) x (.ins A.c_House dx (br "seals" (.ref sl) (br "makes" (.ref ml) [("table",.ref tb),("row",.ref ro)]))) x=some (.ins A.c_House dx [("table",.ref tb),("row",.ref ro),("makes",.ref ml),("seals",.ref sl)]):=ag
 generalize upd (upd H5 x (.ins A.c_House dx (br "makes" (.ref ml) [("table",.ref tb),("row",.ref ro)]))) x (.ins A.c_House dx (br "seals" (.ref sl) (br "makes" (.ref ml) [("table",.ref tb),("row",.ref ro)])))=H6 at*
 clear ta5 s5 s6a r5 hx5 K5 two nk5
 have slx:sl≠x:=fun z=>by subst z;rw[hx]at hsl;injection hsl with h;injection h with _ _ h;cases h
 have slsd:sl≠sd:=bw hsl hsd fun z=>nomatch z
 have slb:sl≠b:=s.nb hsl fun _ z=>nomatch z
 have hsl6:=K6 _ _ (eO slb slx) hsl
 have sdx:sd≠x:=fun z=>by subst z;rw[hx]at hsd;cases hsd
 have hsd6:=K6 _ _ (eO sdb sdx) hsd
 refine⟨sl,dsl,_,rfl,hsl6,rfl,f,b,g1,n+1,rfl,s6,by omega,fun p w g7 H7 k7 s7 sub7 hp sw=>?_⟩
 have nb7:∀{z:Addr}{o:HO},H6 z=some o->z≠b->H7 z=some o:=fun e h=>k7 _ _ h e
 have se7:SeA A H7 sl sd n:=⟨⟨dsl,nb7 hsl6 slb⟩,⟨kvs0,nb7 hsd6 sdb,lsd⟩⟩
 refine⟨sl,sd,p,n,0,w,rfl,se7,by omega,hp,by decide,sw.1,fun kvs hl=>?_⟩
 have hsd7:=nb7 hsd6 sdb
 have ta7:=ta6.kb s6 k7 sub7
 have nk7:NkS [sd] H7:=.cons hsd7 (fun k=>k.dT) .nil
 have K8:∀{o:HO},KM [sd] H7 (upd H7 sd o):=KM.upd (by simp)
 have nsd:∀{z:Addr}{o:HO},H z=none->z∉[sd]:=fun hz=>aJ (QU (aq hsd hz))
 have tbsd:tb≠sd:=by obtain⟨_,_,o,_⟩:=ta7.ob;exact bw o hsd7 fun z=>nomatch z
 have xsd:x≠sd:=QU sdx
 have hx7:=nb7 hx6 xb
 have rb:∀{z:Addr},H z=none->z≠b:=fun hz=>QU (aq eb hz)
 have r7:dQ A H7 ro f L D [] []:=r6.km (l:=[b]) (KM.kb k7 (by simp)) (aJ (rb fro)) (aJ (rb fL)) (aJ Db)
 refine q ⟨tb,ro,L,D,ml,sl,sd⟩ g7 _ (fun z o zn e=>?_) ⟨⟨dx,K8 _ _ (aJ xsd) hx7⟩,⟨m,ta7.km K8 nk7 (aJ tbsd) Sub.rfl'⟩,⟨[],[],r7.km K8 (nsd (o:=.lst []) fro) (nsd (o:=.lst []) fL) (nsd (o:=.lst []) fD),rfl,QK _⟩,K8 _ _ (nsd (o:=.lst []) fml) (nb7 e6 (rb fml)),.nil,⟨⟨dsl,K8 _ _ (aJ slsd) (nb7 hsl6 slb)⟩,⟨kvs,ag,by omega⟩⟩⟩ rfl rfl (fun z hz=>?_) ?_ ((s7.same (by omega) au.rfl').setD hsd7 sdb (gV _)) (sub1.trans sub7)
 ·simp only[QG,Rc,or_false,not_or]at zn
  exact K8 _ _ (aJ zn.2.2) (nb7 (K6 _ _ (eO zn.1 zn.2.1) e) zn.1)
 ·simp only[QG,Rc,or_false]at hz
  rcases hz with rfl|rfl|rfl|rfl|rfl
  ·exact htb
  ·exact fro
  ·exact fL
  ·exact fD
  ·exact fml
 ·simp only[RA,QG,Rc,or_false,not_or,not_false_eq_true,UC,and_true]
  exact⟨⟨tbro,tbL,tbD,tbml⟩,⟨QU Lro,QU Dro,mlro⟩,⟨LD,mlL⟩,mlD⟩
def KnA.sm {H:Hp}{g:gOp}{x f b:Addr}{n:Nat}{t:Kn Str}{m:Key}(k:KnA A H g x t m)(s:Stp A H f b g n):smE m:=by
 cases k with
 |bare o ht hm=>exact s.small hm
 |leaf o ht hm=>exact s.small hm
 |fork o hl hr ht hm=>exact s.small hm
def TmA.ne {H:Hp}{g:gOp}{f z:Addr}{B:Nat}{o:HO}{ys:List Addr}{ts:List (Kn Str)}(h:TmA A H g f B ys ts)(e:H z=some o)(n:∀C dx fs,o≠.ins C dx fs):∀y∈ys,y≠z:=fun y hy q=>by
 obtain⟨i,hi⟩:=Uq.mp hy
 have hlt:i<ts.length:=by rw[<-h.length];exact(QY.mp hi).1
 obtain⟨y',m',hy',ty⟩:=h.get (QQ hlt)
 rw[hi]at hy';cases hy'
 obtain⟨dy,y0,oy,_⟩:=ty.ob
 subst q;rw[e]at oy;cases oy;exact n _ _ _ rfl
theorem TmA.snoc {H:Hp}{g:gOp}{f y:Addr}{B:Nat}{t:Kn Str}{m:Key}:∀{ys:List Addr}{ts:List (Kn Str)},TmA A H g f B ys ts->TbA A H g y f B t m->TmA A H g f B (ys++[y]) (ts++[t])
 |_,_,.nil,h=>.cons ⟨m,h⟩ .nil
 |_,_,.cons r p,h=>.cons r (TmA.snoc p h)
def HaD.all {b:Addr}{a:HA}{ys:List Addr}(h:HaD b a ys):(b≠a.tb/\b≠a.L/\b≠a.D/\b≠a.ml/\b≠a.sd)/\(a.tb≠a.L/\a.tb≠a.D/\a.tb≠a.ml/\a.tb≠a.sd)/\(a.L≠a.D/\a.L≠a.ml/\a.L≠a.sd)/\(a.D≠a.ml/\a.D≠a.sd)/\a.ml≠a.sd:=by
 have nd:=h.nd
 simp only[RA,QG,Rc,or_false,not_or]at nd
 obtain⟨⟨n1,n2,n3,n4,n5⟩,⟨n6,n7,n8,n9⟩,⟨n10,n11,n12⟩,⟨n13,n14⟩,⟨n15,_⟩⟩:=nd
 exact⟨⟨n1,n2,n3,n4,n5⟩,⟨n6,n7,n8,n9⟩,⟨n10,n11,n12⟩,⟨n13,n14⟩,n15⟩
def HI (K:cW)(A:Adr):Ln (jw K A) 1:=by rintro vs H Q E ⟨x,f,b,g,n,B,a,t,ts,ys,rfl,_⟩;rfl
def Jb (T:Txt K mg A):Rd (jw K A) (PX K A) ["self","head"]:=by
 intro vs H Q E h
 obtain⟨x,f,b,g,n,B,a,t,ts,ys,rfl,h,hd,s,ln,lt,hn,q⟩:=h
 obtain⟨dx,hx⟩:=h.ob
 obtain⟨m,ta⟩:=h.ta
 obtain⟨es,kvs,r,le,lk⟩:=h.ro
 obtain⟨dr,hr⟩:=r.ob
 obtain⟨dt,yt,ot,kt⟩:=ta.ob
 obtain⟨dsl,hsl⟩:=h.se.ob
 obtain⟨kvd,hsd,lsd⟩:=h.se.di
 obtain⟨⟨bt,bL,bD,bm,bs⟩,⟨tL,tD,tm,tsd⟩,⟨LD,Lm,Ls⟩,⟨Dm,Ds⟩,ms⟩:=hd.all
 refine⟨x,_,dx,_,_,rfl,hx,T.cl_House,T.na_House_row,rfl,a.ro,dr,_,rfl,hr,rfl,x,_,dx,_,_,rfl,hx,T.cl_House,T.na_House_table,rfl,a.tb,dt,_,rfl,ot,rfl,a.tb,f,g,B,t,m,rfl,ta,a.ro,f,a.L,a.D,es,kvs,m,rfl,r,kt.sm s,by omega,?_⟩
 have K1:∀{o:HO},KM [a.L] H (upd H a.L o):=KM.upd (by simp)
 have nk1:NkS [a.L] H:=.cons r.hl (fun k=>k.lst) .nil
 have s1:Stp A (upd H a.L (.lst ((es++[m]).map kV))) f b g n:=s.setL r.hl
 have ta1:TbA A (upd H a.L (.lst ((es++[m]).map kV))) g a.tb f B t m:=ta.km K1 nk1 (aJ tL) Sub.rfl'
 have nx:x≠a.L:=bw hx r.hl fun z=>nomatch z
 have nr:a.ro≠a.L:=bw hr r.hl fun z=>nomatch z
 have r1:dQ A (upd H a.L (.lst ((es++[m]).map kV))) a.ro f a.L a.D (es++[m]) kvs:=⟨⟨dr,K1 _ _ (aJ nr) hr⟩,ag,K1 _ _ (aJ (QU LD)) r.hd,fun e he=>(Rv.mp he).elim (r.en e) (fun z=>by rw[QR.mp z];exact kt.sm s),by rw[QP];show es.length+1<=60;omega,r.cs⟩
 have hm1:=K1 (o:=.lst ((es++[m]).map kV)) _ _ (aJ (QU Lm)) h.hm
 have tm1:TmA A (upd H a.L (.lst ((es++[m]).map kV))) g f B ys ts:=h.tm.km K1 nk1 (fun y hy=>aJ (h.tm.ne r.hl (fun _ _ _ z=>nomatch z) y hy)) Sub.rfl'
 have se1:SeA A (upd H a.L (.lst ((es++[m]).map kV))) a.sl a.sd n:=h.se.km K1 (aJ (bw hsl r.hl fun z=>nomatch z)) (aJ (QU Ls)) (gV _)
 have hx1:=K1 (o:=.lst ((es++[m]).map kV)) _ _ (aJ nx) hx
 have ke:KM [b,a.L,a.D,a.ml,a.sd] H (upd H a.L (.lst ((es++[m]).map kV))):=KM.upd (by simp)
 have fr1:∀{z:Addr},upd H a.L (.lst ((es++[m]).map kV)) z=none->H z=none:=fun hz=>(cA hz).2
 generalize upd H a.L (.lst ((es++[m]).map kV))=H1 at*
 obtain⟨dt1,yt1,ot1,_⟩:=ta1.ob
 refine⟨x,_,dx,_,_,rfl,hx1,T.cl_House,T.na_House_makes,rfl,.inl ⟨rfl,_,SqL.of hm1⟩,x,_,dx,_,_,rfl,hx1,T.cl_House,T.na_House_table,rfl,a.tb,dt1,_,rfl,ot1,rfl,a.tb,f,b,g,n,B,t,m,rfl,⟨ta1,s1,ln⟩,by omega,fun y g2 H2 kb hy ts2 ta2 sub2=>?_⟩
 have nb:∀{z:Addr}{o:HO},H1 z=some o->b≠z->H2 z=some o:=fun e h=>kb _ _ (QU h) e
 have hm2:=nb hm1 bm
 have hx2:=nb hx1 (QU (s1.nb hx1 fun _ z=>nomatch z))
 have K2:KM [b] H1 H2:=KM.kb kb (by simp)
 have nk2:NkS [b] H1:=.bd s1 .nil
 have ll:ys.length<60:=by rw[h.tm.length];omega
 refine⟨a.ml,_,.ref y,rfl,rfl,hm2,by rw[QC];exact cB (by omega),?_⟩
 have ey:ys.map V.ref++[V.ref y]=(ys++[y]).map V.ref:=by rw[Rm];rfl
 rw[ey]
 have K3:∀{o:HO},KM [a.ml] H2 (upd H2 a.ml o):=KM.upd (by simp)
 have nk3:NkS [a.ml] H2:=.cons hm2 (fun k=>k.lst) .nil
 have tm2:TmA A H2 g2 f B ys ts:=tm1.km K2 nk2 (fun z hz=>aJ (fun e=>by obtain⟨kk,eb⟩:=s1.bd;exact tm1.ne eb (fun _ _ _ z=>nomatch z) z hz e)) sub2
 have tm2':=tm2.snoc ta2
 have r2:dQ A H2 a.ro f a.L a.D (es++[m]) kvs:=by
  obtain⟨_,hr1⟩:=r1.ob
  exact r1.km K2 (aJ (s1.nb hr1 fun _ z=>nomatch z)) (aJ (QU bL)) (aJ (QU bD))
 have se2:SeA A H2 a.sl a.sd n:=by
  obtain⟨_,e⟩:=se1.ob
  exact se1.km K2 (aJ (s1.nb e fun _ z=>nomatch z)) (aJ (QU bs)) (gV _)
 obtain⟨_,hr2⟩:=r2.ob
 obtain⟨_,hsl2⟩:=se2.ob
 have h3:HsA A (upd H2 a.ml (.lst ((ys++[y]).map V.ref))) g2 x f (n+1) B a t (ts++[t]) (ys++[y]):=
  ⟨⟨dx,K3 _ _ (aJ (bw hx2 hm2 fun z=>nomatch z)) hx2⟩,⟨m,ts2.ta.km K3 nk3 (aJ tm) Sub.rfl'⟩,⟨es++[m],kvs,r2.km K3 (aJ (bw hr2 hm2 fun z=>nomatch z)) (aJ Lm) (aJ Dm),by rw[QP,QP,le];rfl,by omega⟩,ag,tm2'.km K3 nk3 (fun z hz=>aJ (tm2'.ne hm2 (fun _ _ _ z=>nomatch z) z hz)) Sub.rfl',se2.km K3 (aJ (bw hsl2 hm2 fun z=>nomatch z)) (aJ (QU ms)) (by omega)⟩
 have s3:Stp A (upd H2 a.ml (.lst ((ys++[y]).map V.ref))) f b g2 (n+1):=ts2.s.setL hm2
 have hyf:H y=none:=fr1 hy
 have tby:a.tb≠y:=aq ot hyf
 have ke3:KM [b,a.L,a.D,a.ml,a.sd] H (upd H2 a.ml (.lst ((ys++[y]).map V.ref))):=ke.trans ((KM.kb kb (by simp)).trans (KM.upd (by simp)))
 have hx3:upd H2 a.ml (.lst ((ys++[y]).map V.ref)) x=some (.ins A.c_House dx [("table",.ref a.tb),("row",.ref a.ro),("makes",.ref a.ml),("seals",.ref a.sl)]):=K3 _ _ (aJ (bw hx2 hm2 fun z=>nomatch z)) hx2
 have hD3:upd H2 a.ml (.lst ((ys++[y]).map V.ref)) a.D=some (.dT (bG kvs)):=K3 _ _ (aJ Dm) r2.hd
 generalize upd H2 a.ml (.lst ((ys++[y]).map V.ref))=H3 at*
 have hd3:HaD b a (ys++[y]):=⟨hd.nd,fun z=>(Rv.mp z).elim hd.ny fun z=>tby (QR.mp z)⟩
 refine⟨x,dx,_,rfl,hx3,rfl,x,f,b,g2,n+1,B,a,t,ts++[t],ys++[y],rfl,h3,hd3,s3,by omega,fun p v g4 H4 k4 h4 s4 sub4 cu4 nw4 hp sv=>?_⟩
 obtain⟨dx4,hx4⟩:=h4.ob
 obtain⟨dsl4,hsl4⟩:=h4.se.ob
 obtain⟨kvd4,hsd4,lsd4⟩:=h4.se.di
 obtain⟨es4,kvs4,r4,le4,lk4⟩:=h4.ro
 obtain⟨dr4,hr4⟩:=r4.ob
 have tl:(ts++[t]).length=ts.length+1:=by rw[QP];rfl
 rw[tl]at hp nw4
 obtain⟨kvs6,y6,e6,t6,g6⟩:=nw4
 obtain⟨kvs7,e7,st7⟩:=cu4 kvs hD3
 refine⟨x,_,dx4,_,_,rfl,hx4,T.cl_House,T.na_House_seals,rfl,a.sl,dsl4,_,rfl,hsl4,rfl,a.sl,a.sd,p,n+1+200,ts.length+1,v,rfl,h4.se,by omega,hp,by omega,sv.1,fun kvs5 hl5=>?_⟩
 have K5:∀{o:HO},KM [a.sd] H4 (upd H4 a.sd o):=KM.upd (by simp)
 have nk5:NkS [a.sd] H4:=.cons hsd4 (fun k=>k.dT) .nil
 refine q p y v g4 _ ((ke3.trans (KM.k2 k4 (by simp) (by simp))).trans (KM.upd (by simp))) hyf (h4.km K5 nk5 Sub.rfl' (by omega) (aJ (bw hx4 hsd4 fun z=>nomatch z)) (aJ tsd) (aJ (bw hr4 hsd4 fun z=>nomatch z)) (aJ Ls) (aJ Ds) (aJ ms) (fun z hz=>aJ (h4.tm.ne hsd4 (fun _ _ _ z=>nomatch z) z hz)) ⟨⟨dsl4,K5 _ _ (aJ (bw hsl4 hsd4 fun z=>nomatch z)) hsl4⟩,⟨kvs5,ag,by omega⟩⟩) ((s4.same (by omega) au.rfl').setD hsd4 (QU bs) (gV _)) (sub2.trans sub4) (bi.of r.hd (K5 _ _ (aJ Ds) e7) st7) ⟨kvs6,y6,K5 _ _ (aJ Ds) e6,t6,g6⟩ sv (K5 _ _ (aJ (bw hp hsd4 fun z=>nomatch z)) (by rw[hp];rfl))
def Vls.one {k:List (List Key×Key)}{s:Nat×Nat}{v:Key}(h:bI k (iq s)=some v):Vls k [s] [v]:=by
 show[bI k (iq s)]=[some v]
 rw[h]
def Vls.app {k:List (List Key×Key)}{l1 l2:List (Nat×Nat)}{k1 k2:List Key}(a:Vls k l1 k1)(b:Vls k l2 k2):Vls k (l1++l2) (k1++k2):=by
 unfold Vls at a b⊢
 rw[Rm,Rm,a,b]
theorem Vls.up' {k k':List (List Key×Key)}(s:oO k k'):∀{l:List (Nat×Nat)}{ks:List Key},Vls k l ks->Vls k' l ks
 |[],[],_=>rfl
 |[],_::_,h=>by cases h
 |_::_,[],h=>by cases h
 |x::l,v::ks,h=>by
  have h1:bI k (iq x)=some v:=(Ri h).1
  have h2:Vls k' l ks:=Vls.up' s (show Vls k l ks from(Ri h).2)
  show bI k' (iq x)::l.map (fun s=>bI k' (iq s))=some v::ks.map some
  rw[s _ _ h1,show l.map (fun s=>bI k' (iq s))=ks.map some from h2]
def JL {r:List Int}{a m:Nat}:plK (0::r) a m=(a+aK m,m- aK m)::plK r a (aK m):=by rw[plK];exact if_pos rfl
def LF {r:List Int}{a m:Nat}:plK (1::r) a m=(a,aK m)::plK r (a+aK m) (m- aK m):=by rw[plK];exact if_neg (by decide)
def sm1 {v:Key}(h:smE v):∀k∈[v],smE k:=fun k hk=>by rw[QR.mp hk];exact h
def nJ {a b:List Key}(h1:∀k∈a,smE k)(h2:∀k∈b,smE k):∀k∈a++b,smE k:=fun k hk=>(Rv.mp hk).elim (h1 k) (h2 k)
def Vls.up {k k':List (List Key×Key)}{l:List (Nat×Nat)}{ks:List Key}(h:Vls k l ks)(s:oO k k'):Vls k' l ks:=Vls.up' s h
def rM {m e:Nat}(h:2<=m)(he:m<=2^(e+1)):aK m<=2^e:=by
 obtain⟨k,e1,hk⟩:=oW h he
 rw[e1];exact Sd (by decide) (by omega)
def sk {e p m:Nat}(h:m<=1):fq e p m=[]:=by
 cases e with
 |zero=>rfl
 |succ e=>unfold fq;rw[if_pos h]
def pb {e p m:Nat}(h:¬m<=1):fq (e+1) p m=if p<aK m then 0::fq e p (aK m)else 1::fq e (p- aK m) (m- aK m):=by
 show(if m<=1 then _ else _)=_
 rw[if_neg h]
def FL (K:cW)(A:Adr):Ln (qZ K A) 2:=by rintro vs H Q E ⟨p,m,rfl,_⟩;rfl
def Kb (T:Txt K mg A)(vs:List V)(H:Hp)(Q:VK)(E:XK)(h:qZ K A vs H Q E):PJ K A {nx:=fun _ H'=>Q .non H',rt:=Q} (cO ["place","many","turns","first","rest","ahead"] vs) H:=by
 obtain⟨p,m,rfl,hp,hm,q⟩:=h
 refine⟨by show 0<=sizeLine;decide,fun D hD=>?_⟩
 have q':=q D hD
 refine⟨fun e σ H2=>∃(f r:Nat)(ts:List Int)(ah:Option V),σ=[some (.int p),some (.int m),some (.ref D),some (.int f),some (.int r),ah]/\H2=upd H D (.lst (ts.map V.int))/\
  f<=p/\p<f+r/\r<=2^e/\e<=60/\ts.length+e=60/\ts++fq e (p- f) r=fq 60 p m,⟨60,0,m,[],none,rfl,rfl,by omega,by omega,hm,by omega,rfl,by rw[List.nil_append,Vd]⟩,?_⟩
 rintro e σ H2 ⟨f,r,ts,ah,rfl,rfl,hf,hr,he,h60,hl,hw⟩
 refine NF (fun h=>?_) (fun h=>?_)
 ·have h2:2<=r:=by omega
  cases e with
  |zero=>simp at he;omega
  |succ e=>
  have b1:=yg h2
  have b2:=sU h2
  have b3:=rM h2 he
  have hr60:r<=2^60:=Rl he (Sd (by decide) h60)
  rw[pb (by omega)]at hw
  refine⟨fun σ' H'=>∃(f r:Nat)(ts:List Int)(ah:Option V),σ'=[some (.int p),some (.int m),some (.ref D),some (.int f),some (.int r),ah]/\H'=upd H D (.lst (ts.map V.int))/\
   f<=p/\p<f+r/\r<=2^e/\e<=60/\ts.length+e=60/\ts++fq e (p- f) r=fq 60 p m,fun σ' H' w=>⟨e,by omega,w⟩,?_⟩
  refine⟨r,rfl,h2,hr60,?_⟩
  refine Sel.dec (fun hlt=>?_) (fun hlt=>?_)
  ·rw[if_pos (by omega)]at hw
   refine⟨.inl ⟨rfl,_,SqL.of ag⟩,D,_,_,rfl,rfl,ag,by rw[QC];exact cB (by omega),?_⟩
   refine⟨f,aK r,ts++[0],_,rfl,by rw[Rm];exact eN,hf,by omega,b3,by omega,by rw[QP];simp;omega,?_⟩
   rw[To];exact hw
  ·rw[if_neg (by omega)]at hw
   refine⟨.inl ⟨rfl,_,SqL.of ag⟩,D,_,_,rfl,rfl,ag,by rw[QC];exact cB (by omega),?_⟩
   refine⟨f+aK r,r- aK r,ts++[1],some (.int (aK r)),?_,by rw[Rm];exact eN,by omega,by omega,by omega,by omega,by rw[QP];simp;omega,?_⟩
   ·show[some (V.int p),some (V.int m),some (V.ref D),some (V.int ((f:Int)+(aK r:Int))),some (V.int ((r:Int)- (aK r:Int))),some (V.int (aK r))]=_
    rw[show((f:Int)+(aK r:Int))=((f+aK r:Nat):Int)by omega,show((r:Int)- (aK r:Int))=((r- aK r:Nat):Int)by omega]
   ·rw[To,show p- (f+aK r)=p- f- aK r by omega];exact hw
 ·rw[sk (by omega),RO]at hw
  show Q (.ref D) (upd H D (.lst (ts.map V.int)))
  rw[hw];exact q'
def FV (K:cW)(A:Adr)(n:Nat):Ln (iZ K A n) 4:=by rintro vs H Q E ⟨x,f,L,D,b,es,kvs,g,N,a,m,e,rfl,_⟩;rfl
def Cd (K:cW)(A:Adr):∀vs H Q E,iZ K A 0 vs H Q E->False:=by rintro vs H Q E ⟨x,f,L,D,b,es,kvs,g,N,a,m,e,rfl,_,_,_,_,h,_⟩;omega
def Mv (T:Txt K mg A)(n:Nat):Rd (iZ K A (n+1)) (Qn K A n) ["self","first","many","elder","ahead"]:=by
 intro vs H Q E h
 obtain⟨x,f,L,D,b,es,kvs,g,N,a,m,e,rfl,r,ham,m1,em,hm,hN,q⟩:=h
 have l60:=r.r.le
 obtain⟨dx,hx⟩:=r.r.ob
 have fin:(e=0\/e=m)->aC (bZ (af (aB A.c_Row "top_of" (eJ K A 70) (fun _=>E0) (ac 0) (af (ac 1) (af (ac 2) (aj)))) (aj))) {nx:=fun _ H'=>Q .non H',rt:=Q} [some (.ref x),some (.int (a:Int)),some (.int (m:Int)),some (.int (e:Int)),none] H:=fun he=>by
  refine⟨x,dx,_,rfl,hx,rfl,x,f,L,D,b,es,kvs,g,N,a,m,rfl,r,ham,by omega,by omega,fun v kvs' g' H' k1 r1 s1 hv ok1=>⟨aO (show 1<=1000000 by decide),fun p hp=>?_⟩⟩
  exact q p _ [v] kvs' g' _ (k1.trans (aW.same (au.upd hp))) (r1.same (au.upd hp) (by omega)) s1 ag m1 (.one he) (Vls.one hv) (sm1 ok1)
 refine Sel.dec (fun h=>Sel.t (fin (.inl (by have h:(e:Int)=0:=h;omega)))) (fun h0=>Sel.dec (fun h=>fin (.inr (by have h:(e:Int)=(m:Int):=h;omega))) (fun h1=>?_))
 have nh:¬(e=0\/e=m):=fun z=>z.elim (fun z=>h0 (by show(e:Int)=0;omega)) (fun z=>h1 (by show(e:Int)=(m:Int);omega))
 have m2:2<=m:=by omega
 obtain⟨g1,g2⟩:=oJ m2
 refine⟨m,rfl,m2,by omega,Sel.dec (fun h=>?_) (fun h=>?_)⟩
 ·have hle:e<=aK m:=by have:(e:Int)<=((aK m:Nat):Int):=h;omega
  refine⟨x,dx,_,rfl,hx,rfl,x,f,L,D,b,es,kvs,g,N,a,aK m,e,rfl,r,by omega,g1,hle,by omega,by omega,fun p l1 ks1 kvs1 g1' H1 k1 r1 s1 hp xl gk1 vl1 sm1'=>?_⟩
  obtain⟨dx1,hx1⟩:=r1.r.ob
  refine⟨x,dx1,_,rfl,hx1,rfl,x,f,L,D,b,es,kvs1,g1',_,a+aK m,m- aK m,?_,r1,by omega,by omega,by omega,fun v kvs2 g2' H2 k2 r2 s2 hv2 ok2=>⟨aO (show 1<=1000000 by decide),fun p2 hp2=>?_⟩⟩
  ·rw[TJ,TC (by omega)]
  ·obtain⟨n1,n2⟩:=r1.n2 hp (fun _ z=>nomatch z)
   have hp':=k2 _ _ n1 n2 hp
   refine .inr ⟨p,p2,ks1.map kV,[kV v],rfl,rfl,by rw[ap (aq hp' hp2)];exact hp',ag,aO (by rw[QC];show ks1.length+1<=_;omega),fun p3 H3 S3 hp3=>?_⟩
   exact q p3 _ (ks1++[v]) kvs2 g2' H3 ((k1.trans k2).trans ((aW.same (au.upd hp2)).trans (aW.same S3))) ((r2.same (au.upd hp2) (gV _)).same S3 (by omega)) (s1.trans s2) (by rw[hp3,Rm];rfl) (by rw[QP];show _+1<=_;omega) (.lo nh hle gk1) ((vl1.up s2.t).app (Vls.one hv2)) (nJ sm1' (sm1 ok2))
 ·have hgt:aK m<e:=by have:¬(e:Int)<=((aK m:Nat):Int):=h;omega
  refine⟨x,dx,_,rfl,hx,rfl,x,f,L,D,b,es,kvs,g,N,a,aK m,rfl,r,by omega,by omega,by omega,fun v kvs1 g1' H1 k1 r1 s1 hv1 ok1=>⟨aO (show 1<=1000000 by decide),fun p hp=>?_⟩⟩
  have r1':=r1.same (au.upd (o:=.tup [kV v]) hp) (gV _)
  obtain⟨dx1,hx1⟩:=r1'.r.ob
  refine⟨x,dx1,_,rfl,hx1,rfl,x,f,L,D,b,es,kvs1,g1',_,a+aK m,m- aK m,e- aK m,?_,r1',by omega,by omega,by omega,by omega,by omega,fun p2 l2 ks2 kvs2 g2' H2 k2 r2 s2 hp2 xl gk2 vl2 sm2'=>?_⟩
  ·rw[TJ,TC (by omega),TC (by omega)]
  ·obtain⟨n1,n2⟩:=r1'.n2 (o:=.tup [kV v]) ag (fun _ z=>nomatch z)
   refine .inr ⟨p,p2,[kV v],ks2.map kV,rfl,rfl,k2 _ _ n1 n2 ag,hp2,aO (by rw[QC];show 1+ks2.length<=_;omega),fun p3 H3 S3 hp3=>?_⟩
   exact q p3 _ (v::ks2) kvs2 g2' H3 (((k1.trans (aW.same (au.upd hp))).trans k2).trans (aW.same S3)) (r2.same S3 (by omega)) (s1.trans s2) hp3 (by rw[RE];omega) (.hi nh (by omega) gk2) (Vls.app (l1:=[(a,aK m)]) (k1:=[v]) (Vls.one (s2.t _ _ hv1)) vl2) (nJ (sm1 ok1) sm2')
def GU (K:cW)(A:Adr):Ln (rk K A) 3:=by rintro vs H Q E ⟨x,f,L,D,b,es,kvs,g,n,v,w,d,e,rfl,_⟩;rfl
def Nu (T:Txt K mg A):Rd (rk K A) (NR K A) ["self","count","elder"]:=by
 intro vs H Q E h
 obtain⟨x,f,L,D,b,es,kvs,g,n,v,w,d,e,rfl,r,hn,hd,he,hE,q2⟩:=h
 obtain⟨dx,hx⟩:=r.r.ob
 have l60:=r.r.le
 refine⟨x,dx,_,rfl,hx,rfl,x,f,L,D,es,kvs,v,w,d,e,rfl,r.r,hd,he,?_⟩
 rw[hE]
 refine Sel.f ?_
 obtain⟨h1,h2⟩:=Gt.mp hE
 obtain⟨c,el,rfl,rfl,ec,_⟩:=kM h1
 cases hd.int_inv
 cases he.int_inv
 have hc:(c:Int)<=(es.length:Int):=of_decide_eq_true h2
 refine Sel.dec (fun h=>?_) (fun h=>?_)
 ·have c1:1<=c:=by have h:(c:Int)>0:=h;omega
  exact⟨x,dx,_,rfl,hx,rfl,x,f,L,D,b,es,kvs,g,n,0,c,el,rfl,r,by omega,c1,ec,by omega,by omega,fun p l ks kvs' g' H' k1 r1 s1 hp xl gk vl sm=>q2 p c el ks kvs' g' H' k1 (r1.same au.rfl' (by omega)) s1 hp rfl rfl (.inr ⟨c1,l,gk,vl⟩) (by omega) sm⟩
 ·exact⟨aO (show 0<=1000000 by decide),fun p hp=>q2 p c el [] kvs g _ (aW.same (au.upd hp)) (r.same (au.upd hp) (by omega)) eV.rfl' ag rfl rfl (.inl ⟨by have h:¬(c:Int)>0:=h;omega,rfl⟩) (by decide) (fun _ h=>nomatch h)⟩
def dC.setM {H:Hp}{x f L D b M:Addr}{es:List Key}{kvs:List (List Key×Key)}{g:gOp}{n:Nat}{xs ys:List V}(r:dC A H x f L D b es kvs g n)(hM:H M=some (.lst xs))(ne:L≠M):dC A (upd H M (.lst ys)) x f L D b es kvs g n:=by
 obtain⟨dx,hx⟩:=r.r.ob
 exact⟨⟨⟨dx,by rw[ap (bw hx hM (fun z=>nomatch z))];exact hx⟩,by rw[ap ne];exact r.r.hl,by rw[ap (bw r.r.hd hM (fun z=>nomatch z))];exact r.r.hd,r.r.en,r.r.le,r.r.cs⟩,r.s.setL hM,r.db,r.kl⟩
structure Pp (A:Adr)(H H':Hp)(x f L D b M W:Addr)(es:List Key)(c p fi m i:Nat)(g g':gOp)(n:Nat)(k0:List (List Key×Key))(ks:List Key):Prop where
 fp:fi<=p
 pm:p- fi<m
 fm:fi+m<=c
 tr:∃e,(fc c p).drop i=fq e (p- fi) m/\m<=2^e
 hM:H' M=some (.lst (ks.map kV))
 hW:H' W=some (.lst ((fc c p).map V.int))
 k2:aW b D H H'
 r:∃kvs N,dC A H' x f L D b es kvs g' N/\N+2*m<=n+2*c/\eV g k0 g' kvs/\∃dn,Vls kvs dn ks/\plK (fc c p) 0 c=dn++plK ((fc c p).drop i) fi m
 sm:∀k∈ks,smE k
 kl:ks.length+m<=c
def Ik (K:cW)(A:Adr):Ln (qC K A) 3:=by rintro vs H Q E ⟨x,f,L,D,b,es,kvs,g,n,v,w,d,e,rfl,_⟩;rfl
def IK (T:Txt K mg A):Rd (qC K A) (PM K A) ["self","count","place","marks","first","many","turn","ahead"]:=by
 intro vs H Q E h
 obtain⟨x,f,L,D,b,es,kvs,g,n,v,w,d,e,rfl,r,hn,hd,he,hE,q2⟩:=h
 obtain⟨dx,hx⟩:=r.r.ob
 have l60:=r.r.le
 refine⟨x,dx,_,rfl,hx,rfl,x,f,L,D,es,kvs,v,w,d,e,rfl,r.r,hd,he,?_⟩
 rw[hE]
 obtain⟨h1,h2⟩:=Gt.mp hE
 obtain⟨c,p,rfl,rfl,hpc,_⟩:=io h1
 cases hd.int_inv
 cases he.int_inv
 have hc:c<=es.length:=by have:(c:Int)<=(es.length:Int):=of_decide_eq_true h2;omega
 refine Sel.f ⟨QK _,fun M hM=>?_⟩
 have LM:L≠M:=aq r.r.hl hM
 have S1:au H (upd H M (.lst [])):=au.upd hM
 have hM1:upd H M (.lst []) M=some (.lst []):=ag
 generalize upd H M (.lst [])=H1 at S1 hM1
 refine⟨p,c,rfl,hpc,by omega,fun W hWn=>⟨W,rfl,.inl ⟨⟨_,SqL.of ag⟩,?_⟩⟩⟩
 have S2:=au.upd (o:=.lst ((fc c p).map V.int)) hWn
 have hW:upd H1 W (.lst ((fc c p).map V.int)) W=some (.lst ((fc c p).map V.int)):=ag
 generalize upd H1 W (.lst ((fc c p).map V.int))=H2 at S2 hW
 have MW:W≠M:=QU (aq hM1 hWn)
 refine jG (xs:=(fc c p).map V.int) (fun i σ H'=>∃(fi m:Nat)(ks:List Key)(g':gOp)(x6 x7:Option V),σ=[some (.ref x),some (.int (c:Int)),some (.int (p:Int)),some (.ref M),some (.int (fi:Int)),some (.int (m:Int)),x6,x7]/\Pp A H H' x f L D b M W es c p fi m i g g' n kvs ks)
  ⟨0,c,[],g,none,none,rfl,QK _,hpc,by omega,⟨60,by rw[VD,Vd],by omega⟩,S2 _ _ hM1,hW,aW.same (S1.trans S2),⟨kvs,n,r.same (S1.trans S2) (gV _),gV _,eV.rfl',[],rfl,rfl⟩,(fun _ h=>nomatch h),by simp⟩
  (fun i σ H' _ h=>?_) (fun i v σ H' hx' h=>?_) (fun σ H' h=>?_)
 ·obtain⟨_,_,_,_,_,_,_,pp⟩:=h
  exact SqL.of pp.hW
 ·obtain⟨fi,m,ks,g',x6,x7,rfl,pp⟩:=h
  obtain⟨fp,pm,fm,⟨e,tr,me⟩,hM',hW',k2,⟨kv,N,r',hN,sub,dn,vl,pk⟩,sm,kl⟩:=pp
  obtain⟨t,ht,rfl⟩:=gM hx'
  have hi:=(QY.mp ht).1
  have ed:(fc c p).drop i=t::(fc c p).drop (i+1):=by rw[List.drop_eq_getElem_cons hi,(QY.mp ht).2]
  rw[ed]at tr pk
  have m2:2<=m:=by
   rcases Ww m 2 with h|h
   ·rw[sk (by omega)]at tr;cases tr
   ·exact h
  cases e with
  |zero=>simp at me;omega
  |succ e=>
  obtain⟨g1,g2⟩:=oJ m2
  have b2:=sU m2
  have b3:=rM m2 me
  rw[pb (by omega)]at tr
  obtain⟨dx',hxx⟩:=r'.r.ob
  have lt:(ks.map kV).length<sizeLine:=by rw[QC];exact cB (by omega)
  obtain⟨nM,nM2⟩:=r'.n2 hM' (fun _ z=>nomatch z)
  obtain⟨nW,nW2⟩:=r'.n2 hW' (fun _ z=>nomatch z)
  refine⟨m,rfl,m2,by omega,?_⟩
  by_cases hp:p- fi<aK m
  ·rw[if_pos hp]at tr
   have tr2:=(Ri tr).2
   obtain rfl:=(Ri tr).1
   refine Sel.dec (fun _=>?_) (fun h=>absurd rfl h)
   refine⟨.inl ⟨rfl,_,SqL.of hM'⟩,x,dx',_,rfl,hxx,rfl,x,f,L,D,b,es,kv,g',N,fi+aK m,m- aK m,?_,r',by omega,by omega,by omega,fun v kv2 g2' H3 k3 r3 sub3 hv okv=>?_⟩
   ·rw[TJ,TC (by omega)]
   have hM3:=k3 _ _ nM nM2 hM'
   refine⟨M,_,kV v,rfl,rfl,hM3,lt,?_⟩
   refine⟨fi,aK m,ks++[v],g2',_,_,rfl,fp,hp,by omega,⟨e,tr2,b3⟩,by rw[ag,Rm];rfl,by rw[ap MW];exact k3 _ _ nW nW2 hW',fun z o n1 n2 e=>?_,⟨kv2,_,r3.setM hM3 LM,by omega,sub.trans sub3,dn++[(fi+aK m,m- aK m)],(vl.up sub3.t).app (Vls.one hv),by rw[pk,To,JL];rfl⟩,nJ sm (sm1 okv),by rw[QP];show ks.length+1+_<=_;omega⟩
   rw[ap (aq e hM)];exact k3 _ _ n1 n2 (k2 _ _ n1 n2 e)
  ·rw[if_neg hp]at tr
   have tr2:=(Ri tr).2
   obtain rfl:=(Ri tr).1
   refine Sel.dec (fun h=>absurd h (by decide)) (fun _=>?_)
   refine⟨.inl ⟨rfl,_,SqL.of hM'⟩,x,dx',_,rfl,hxx,rfl,x,f,L,D,b,es,kv,g',N,fi,aK m,rfl,r',by omega,by omega,by omega,fun v kv2 g2' H3 k3 r3 sub3 hv okv=>?_⟩
   have hM3:=k3 _ _ nM nM2 hM'
   refine⟨M,_,kV v,rfl,rfl,hM3,lt,?_⟩
   refine⟨fi+aK m,m- aK m,ks++[v],g2',some (.int 1),some (.int ((aK m:Nat):Int)),?_,by omega,by omega,by omega,⟨e,by rw[show p- (fi+aK m)=p- fi- aK m by omega];exact tr2,by omega⟩,by rw[ag,Rm];rfl,by rw[ap MW];exact k3 _ _ nW nW2 hW',fun z o n1 n2 e=>?_,⟨kv2,_,r3.setM hM3 LM,by omega,sub.trans sub3,dn++[(fi,aK m)],(vl.up sub3.t).app (Vls.one hv),by rw[pk,To,LF];rfl⟩,nJ sm (sm1 okv),by rw[QP];show ks.length+1+_<=_;omega⟩
   ·rw[TC (by omega),TJ];rfl
   ·rw[ap (aq e hM)];exact k3 _ _ n1 n2 (k2 _ _ n1 n2 e)
 ·obtain⟨fi,m,ks,g',x6,x7,rfl,pp⟩:=h
  obtain⟨fp,pm,fm,_,hM',hW',k2,⟨kv,N,r',hN,sub,dn,vl,pk⟩,sm,kl⟩:=pp
  rw[QC,List.drop_length]at pk
  have pk:plK (fc c p) 0 c=dn:=by rw[pk];exact RO _
  obtain⟨dx',hxx⟩:=r'.r.ob
  obtain⟨e,he⟩:∃e,es[p]?=some e:=⟨_,QQ (by omega)⟩
  refine⟨x,A.c_Row,dx',_,.ref L,rfl,hxx,T.cl_Row,T.na_Row_entries,rfl,ixL r'.r.hl rfl (by rw[Ro,he];rfl) ?_⟩
  refine⟨M,_,rfl,.inl ⟨SqL.of hM',fun T hT=>⟨aO (show 2<=1000000 by decide),fun P hP=>?_⟩⟩⟩
  have S5:=(au.upd (o:=.tup (ks.map kV)) hT).trans (au.upd (o:=.tup [kV e,.ref T]) hP)
  exact q2 P T c p e ks kv g' _ (k2.trans (aW.same S5)) (r'.same S5 (by omega)) sub ag (by rw[ap (aq (ag:upd _ T (.tup (ks.map kV)) T=_) hP),ag]) rfl rfl he (by rw[pk];exact vl) (by omega) sm
def Jo {d:Int}(h:d<=60):(2:Int)^d.toNat<=2^60:=by
 have:(2:Nat)^d.toNat<=2^60:=Sd (by decide) (by omega)
 exact_mod_cast this
def Gx (K:cW)(A:Adr):Ln (pW K A) 3:=by rintro vs H Q E ⟨_,_,_,rfl,_⟩;rfl
def Jp (T:Txt K mg A):Rd (pW K A) (Qi K A) ["bits","depth","begin","rest"]:=by
 intro vs H Q E h
 obtain⟨b,d,g,rfl,d0,d1,b60,g0,g1,q⟩:=h
 have:=Jo (d:=d) (by omega)
 exact⟨⟨by omega,by omega,by omega⟩,⟨by omega,by omega,by omega⟩,by show 2<=sizeLine;decide,fun p hp=>q p hp⟩
def FN (K:cW)(A:Adr):Ln (qk K A) 5:=by rintro vs H Q E ⟨_,_,_,_,_,rfl,_⟩;rfl
def Jw (T:Txt K mg A):Rd (qk K A) (Ol K A) ["bits","low","high","depth","begin","ends"]:=by
 intro vs H Q E h
 obtain⟨b,lo,hi,d,g,rfl,d0,d1,b60,g0,g1,q⟩:=h
 refine⟨b,d,g,rfl,d0,d1,b60,g0,g1,fun p hp=>?_⟩
 refine ixT (j:=0) ag rfl rfl ?_
 have q:=q _ (au.upd (o:=.tup [.int (g*2^(b- d).toNat),.int ((g+1)*2^(b- d).toNat- 1)]) hp)
 unfold dj at q
 refine Sel.mk (fun e=>ixT (j:=1) ag rfl rfl ?_) (fun e=>?_)
 ·rw[e,XI]at q;exact q
 ·rw[e,VF]at q;exact q
def Hx (K:cW)(A:Adr):Ln (rA K A) 3:=by rintro vs H Q E ⟨_,_,_,rfl,_⟩;rfl
def KB (T:Txt K mg A):Rd (rA K A) (OP K A) ["bits","low","high"]:=by
 intro vs H Q E h
 obtain⟨b,lo,hi,rfl,e,q⟩:=h
 have k1:cC b (.int lo)=true:=decide_eq_true ⟨e.lo0,Int.lt_of_le_of_lt e.le e.hi1⟩
 have k2:cC b (.int hi)=true:=decide_eq_true ⟨Int.le_trans e.lo0 e.le,e.hi1⟩
 have b1:=e.b1
 have b60:=e.b60
 refine⟨b,.int lo,.int lo,rfl,by omega,b60,.int lo,Sel.no (by rw[k1];rfl) ⟨b,.int hi,.int hi,rfl,by omega,b60,.int hi,Sel.no (by rw[k2];rfl) ?_⟩⟩
 exact Sel.no (decide_eq_false (by have:=e.le;omega)) q
def xf {H:Hp}{g:gOp}{x:Addr}{t:Kn Str}{m:Key}(T:Txt K mg A)(k:KnA A H g x t m):∃C dx fs,H x=some (.ins C dx fs)/\Cls K C/\jy K C/\Sl K (.ref C) (.ref A.c_Fork)=some (decide (kdK t=2)):=by
 obtain⟨dx,p,fs,o,_⟩:=k.ob
 cases t with
 |bare=>exact⟨_,dx,_,o,T.cl_Bare,T.oi_Bare,T.ko_Bare_Fork⟩
 |leaf _ _=>exact⟨_,dx,_,o,T.cl_Leaf,T.oi_Leaf,T.ko_Leaf_Fork⟩
 |fork _ _ _ _=>exact⟨_,dx,_,o,T.cl_Fork,T.oi_Fork,T.ko_Fork_Fork⟩
def zd {x y:Int}(h0:0<=x)(h:x<2^64):XD x y:=IntMulOk.of_left (wm (by omega))
def Hy (K:cW)(A:Adr):Ln (re K A) 3:=by rintro vs H Q E ⟨_,_,_,_,_,rfl,_⟩;rfl
def KC (T:Txt K mg A):Rd (re K A) (OZ K A) ["bits","low","high"]:=by
 intro vs H Q E h
 obtain⟨b,v,w,d,e,rfl,b0,b60,hd,he,q⟩:=h
 refine⟨b,v,d,rfl,b0,b60,hd,?_⟩
 unfold dZ at q
 cases h1:cC b d with
 |false=>rw[h1]at q;exact Sel.f q
 |true=>
  refine Sel.t ⟨b,w,e,rfl,b0,b60,he,?_⟩
  rw[h1]at q
  cases h2:cC b e with
  |false=>rw[h2]at q;exact Sel.f q
  |true=>
   rw[h2]at q
   cases hd<;>first|cases h1|skip
   cases he<;>first|cases h2|skip
   exact Sel.t q
theorem sDs {n:Nat}:∀{ds:List Dat},(∀d∈ds,sD n d)->okDs ds=true/\Ry (toPys ds)<=n
 |[],_=>⟨rfl,QK _⟩
 |d::r,h=>by
  obtain⟨h1,h2⟩:=h d Rb
  obtain⟨r1,r2⟩:=sDs (ds:=r) fun x hx=>h x (QN _ hx)
  refine⟨?_,?_⟩
  ·show(okD d&&okDs r)=true
   rw[h1,r1];rfl
  ·show max (eS d).depth (Ry (toPys r))<=n
   omega
def cx {n:Nat}{ds:List Dat}(h:∀d∈ds,sD n d):sD (n+1) (.tup ds):=by
 obtain⟨h1,h2⟩:=sDs h
 exact⟨h1,show Ry (toPys ds)+1<=n+1 by omega⟩
def sD.up {n m:Nat}{d:Dat}(h:sD n d)(hn:n<=m):sD m d:=⟨h.1,Rl h.2 hn⟩
def dB (g:gOp):Ext g (cm g):=fun k v e=>by unfold cm;rw[e];rfl
theorem DatWs.append {H:Hp}:∀{xs ys:List V}{ds es:List Dat},DatWs H xs ds->DatWs H ys es->DatWs H (xs++ys) (ds++es)
 |_,_,_,_,.nil,h=>h
 |_,_,_,_,.cons a r,h=>.cons a (r.append h)
def KnA.ext {H:Hp}{g:gOp}{x:Addr}{t:Kn Str}{m:Key}(k:KnA A H g x t m){h:List Key->Key}(he:Ext g h):m=h (bW h t):=by
 induction k with
 |bare o ht hm ok sz=>exact(he _ _ hm).symm
 |leaf o ht hm ok sz hz=>exact(he _ _ hm).symm
 |fork o hl hr ht hm ok sz ih1 ih2=>show _=h (fkT _ _ (h (bW h _)) (h (bW h _)));rw[<-ih1,<-ih2];exact(he _ _ hm).symm
def KnA.term {H:Hp}{g:gOp}{x:Addr}{t:Kn Str}{m:Key}(k:KnA A H g x t m){h:List Key->Key}(he:Ext g h):∃dx p fs,H x=some (.ins (clK A t) dx ((("term":Str),.ref p)::fs))/\H p=some (.tup ((bW h t).map kV)):=by
 cases k with
 |bare o ht _ _ _=>exact⟨_,_,_,o,ht⟩
 |leaf o ht _ _ _ _=>exact⟨_,_,_,o,ht⟩
 |fork o hl hr ht _ _ _=>exact⟨_,_,_,o,by rw[hl.ext he,hr.ext he]at ht;exact ht⟩
def nR {H:Hp}{p:Addr}:∀{e:List Key},H p=some (.tup (e.map kV))->aV H (.ref p) (.tup (e.map bA)):=fun{e} hp=>by
 have:∀e:List Key,DatWs H (e.map kV) (e.map bA):=fun e=>by
  induction e with
  |nil=>exact .nil
  |cons x r ih=>exact .cons (iI _ x) ih
 exact .tup hp (this e)
def fJ {h:List Key->Key}{B lo hi d g:Int}{t:Kn Str}(hm:dj B lo hi d g=false):dc h B lo hi d g t=.cut (h (bW h t)):=by
 cases t<;>(unfold dc;rw[if_neg (by rw[hm];decide)])
def gC {h:List Key->Key}{B lo hi d g:Int}(hm:dj B lo hi d g=true):dc h B lo hi d g .bare=.bare:=by unfold dc;rw[if_pos hm]
def gF {h:List Key->Key}{B lo hi d g:Int}{k:Nat}{z:Str}(hm:dj B lo hi d g=true):dc h B lo hi d g (.leaf k z)=.leaf k z:=by unfold dc;rw[if_pos hm]
def gE {h:List Key->Key}{B lo hi d g:Int}{e b:Nat}{l r:Kn Str}(hm:dj B lo hi d g=true):dc h B lo hi d g (.fork e b l r)=.fork e b (dc h B lo hi ((e:Int)+1) (2*(b:Int)) l) (dc h B lo hi ((e:Int)+1) (2*(b:Int)+1) r):=by
 rw[dc,if_pos hm]
def KnA.samePart {H:Hp}{g:List Key->Option Key}{x:Addr}{t:Kn Str}{m:Key}(k:KnA A H g x t m){h h':List Key->Key}(he:Ext g h)(he':Ext g h')(B lo hi:Int):∀{d0 g0:Int},dc h B lo hi d0 g0 t=dc h' B lo hi d0 g0 t:=by
 have tm:∀{x:Addr}{t:Kn Str}{m:Key}{d0 g0:Int},KnA A H g x t m->dj B lo hi d0 g0=false->dc h B lo hi d0 g0 t=dc h' B lo hi d0 g0 t:=fun k hm=>by rw[fJ hm,fJ hm,<-k.ext he,<-k.ext he']
 induction k with
 |bare o ht hm ok sz=>
  intro d0 g0
  cases c:dj B lo hi d0 g0 with
  |false=>exact tm (.bare o ht hm ok sz) c
  |true=>rw[gC c,gC c]
 |leaf o ht hm ok sz hz=>
  intro d0 g0
  cases c:dj B lo hi d0 g0 with
  |false=>exact tm (.leaf o ht hm ok sz hz) c
  |true=>rw[gF c,gF c]
 |fork o hl hr ht hm ok sz ih1 ih2=>
  intro d0 g0
  cases c:dj B lo hi d0 g0 with
  |false=>exact tm (.fork o hl hr ht hm ok sz) c
  |true=>rw[gE c,gE c,ih1,ih2]
def KnA.same_ext {H:Hp}{g:List Key->Option Key}{x:Addr}{t:Kn Str}{m:Key}(k:KnA A H g x t m){h h':List Key->Key}(he:Ext g h)(he':Ext g h')(B key:Nat):bW h t=bW h' t/\cV h B key t=cV h' B key t/\eU h B key t=eU h' B key t:=by
 induction k with
 |bare o ht hm ok sz=>exact⟨rfl,rfl,rfl⟩
 |leaf o ht hm ok sz hz=>exact⟨rfl,rfl,rfl⟩
 | @fork x dx t l r m ml mr d b tl tr o hl hr ht hm ok sz ih1 ih2=>
   have l1:=hl.ext he
   have l2:=hl.ext he'
   have r1:=hr.ext he
   have r2:=hr.ext he'
   have tt:bW h (.fork d b tl tr)=bW h' (.fork d b tl tr):=by show fkT _ _ (h _) (h _)=fkT _ _ (h' _) (h' _);rw[<-l1,<-l2,<-r1,<-r2]
   refine⟨tt,?_,?_⟩
   ·show(if st B key d=b then(if sd B key d=0 then((d:Int),h (bW h tr))::cV h B key tl else((d:Int),h (bW h tl))::cV h B key tr)else[])=(if st B key d=b then(if sd B key d=0 then((d:Int),h' (bW h' tr))::cV h' B key tl else((d:Int),h' (bW h' tl))::cV h' B key tr)else[])
    rw[<-l1,<-l2,<-r1,<-r2,ih1.2.1,ih2.2.1]
   ·show(if st B key d=b then(if sd B key d=0 then eU h B key tl else eU h B key tr)else bW h (.fork d b tl tr))=(if st B key d=b then(if sd B key d=0 then eU h' B key tl else eU h' B key tr)else bW h' (.fork d b tl tr))
    rw[ih1.2.2,ih2.2.2,tt]
def iH {m:Key}(h:okP m=true):sD 0 (bA m):=by
 cases m with
 |inl i=>exact⟨rfl,gV 0⟩
 |inr z=>exact⟨h,gV 0⟩
def gW (i:Int):sD 0 (.int i):=⟨rfl,gV 0⟩
def xo {z:Str}(h:fQ z):sD 0 (.str z):=⟨BZ h,gV 0⟩
def mB:sD 0 (.str "cut")/\sD 0 (.str "bare")/\sD 0 (.str "leaf")/\sD 0 (.str "fork"):=
 ⟨⟨by decide+kernel,gV 0⟩,⟨by decide+kernel,gV 0⟩,⟨by decide+kernel,gV 0⟩,⟨by decide+kernel,gV 0⟩⟩
def cL {n:Nat}:∀d∈([]:List Dat),sD n d:=fun _ h=>nomatch h
def aZ {n:Nat}{d:Dat}{l:List Dat}(h:sD n d)(r:∀x∈l,sD n x):∀x∈d::l,sD n x:=fun x hx=>by
 rcases QG.mp hx with rfl|hx
 ·exact h
 ·exact r x hx
def KnA.okm {H:Hp}{g:gOp}{x:Addr}{t:Kn Str}{m:Key}(k:KnA A H g x t m):okP m=true:=by
 cases k with
 |bare _ _ _ ok=>exact ok
 |leaf _ _ _ ok=>exact ok
 |fork _ _ _ _ _ ok=>exact ok
def KnA.partS {H:Hp}{g:List Key->Option Key}{x:Addr}{t:Kn Str}{m:Key}{B lo hi:Int}(k:KnA A H g x t m):∀d gg:Int,sD (hgt t+1) (ig (dc (cm g) B lo hi d gg t)):=by
 have cutS:∀{m:Key}{n:Nat},okP m=true->sD (n+1) (ig (.cut m)):=fun h=>cx (aZ (mB.1.up (QK _)) (aZ ((iH h).up (QK _)) cL))
 induction k with
 |bare o ht hm ok sz=>
  intro d gg
  cases e:dj B lo hi d gg with
  |false=>rw[fJ e,<-(KnA.bare o ht hm ok sz).ext (dB g)];exact cutS ok
  |true=>rw[gC e];exact cx (aZ (mB.2.1.up (QK _)) cL)
 |leaf o ht hm ok sz hz=>
  intro d gg
  cases e:dj B lo hi d gg with
  |false=>rw[fJ e,<-(KnA.leaf o ht hm ok sz hz).ext (dB g)];exact cutS ok
  |true=>rw[gF e];exact cx (aZ (mB.2.2.1.up (QK _)) (aZ ((gW _).up (QK _)) (aZ ((xo hz).up (QK _)) cL)))
 |fork o hl hr ht hm ok sz ihl ihr=>
  intro d gg
  cases e:dj B lo hi d gg with
  |false=>rw[fJ e,<-(KnA.fork o hl hr ht hm ok sz).ext (dB g)];exact cutS ok
  |true=>
   rw[gE e]
   rename_i tl tr
   have h1:hgt tl+1<=max (hgt tl) (hgt tr)+1:=by omega
   have h2:hgt tr+1<=max (hgt tl) (hgt tr)+1:=by omega
   exact cx (aZ (mB.2.2.2.up (QK _)) (aZ ((gW _).up (QK _)) (aZ ((gW _).up (QK _)) (aZ ((ihl _ _).up h1) (aZ ((ihr _ _).up h2) cL)))))
def KnA.termS {H:Hp}{g:List Key->Option Key}{x:Addr}{t:Kn Str}{m:Key}(k:KnA A H g x t m):sD 1 (.tup ((bW (cm g) t).map bA)):=by
 cases k with
 |bare o ht hm ok sz=>exact cx (aZ mB.2.1 cL)
 |leaf o ht hm ok sz hz=>exact cx (aZ mB.2.2.1 (aZ (gW _) (aZ (xo hz) cL)))
 |fork o hl hr ht hm ok sz=>
  show sD 1 (.tup ((fkT _ _ (cm g (bW (cm g) _)) (cm g (bW (cm g) _))).map bA))
  rw[<-hl.ext (dB g),<-hr.ext (dB g)]
  exact cx (aZ mB.2.2.2 (aZ (gW _) (aZ (gW _) (aZ (iH hl.okm) (aZ (iH hr.okm) cL)))))
def Gi (K:cW)(A:Adr)(n:Nat):Ln (jN K A n) 6:=by rintro vs H Q E ⟨_,_,_,_,_,_,_,_,_,rfl,_⟩;rfl
def Ck (K:cW)(A:Adr):∀vs H Q E,¬jN K A 0 vs H Q E:=by
 rintro vs H Q E ⟨_,_,_,_,_,_,_,_,_,_,_,_,_,_,_,_,_,h,_⟩
 omega
def IE (T:Txt K mg A)(n:Nat):Rd (jN K A (n+1)) (Qm K A n) ["bits","low","high","depth","begin","knot","left","right"]:=by
 intro vs H Q E h
 obtain⟨B,lo,hi,d,gg,x,g,t,m,rfl,B60,d0,d1,g0,g1,k,dp,hh,q⟩:=h
 refine⟨(B:Int),lo,hi,d,gg,rfl,d0,d1,by omega,g0,g1,fun H1 S1=>?_⟩
 have k1:=k.same S1
 have sd:=k.partS (B:=(B:Int)) (lo:=lo) (hi:=hi) d gg
 cases hm:dj (B:Int) lo hi d gg with
 |false=>
  obtain⟨dx,p,fs,o,_⟩:=k1.ob
  refine Sel.yes rfl ⟨x,_,dx,_,_,rfl,o,(cR T t).1,(cR T t).2.1,rfl,aO (show 2<=1000000 by decide),fun r hr=>q _ _ (S1.trans (au.upd hr)) ?_ sd⟩
  rw[fJ hm,<-k.ext (dB g)]
  exact .tup ag (.cons (.str _) (.cons (iI _ m) .nil))
 |true=>
  refine Sel.no rfl ?_
  obtain⟨C,dz,fz,oz,c1,c2,c3⟩:=xf T k1
  refine⟨x,C,dz,fz,_,_,rfl,oz,c1,c2,c3,?_⟩
  obtain⟨dx,p,fs,o,hp⟩:=k1.term (dB g)
  cases t with
  |bare=>
   refine Sel.yes rfl ⟨x,_,dx,_,_,rfl,o,(cR T .bare).1,(cR T .bare).2.2,rfl,q _ _ S1 ?_ sd⟩
   rw[gC hm];exact nR (e:=brT) hp
  |leaf kk z=>
   refine Sel.yes rfl ⟨x,_,dx,_,_,rfl,o,(cR T (.leaf kk z)).1,(cR T (.leaf kk z)).2.2,rfl,q _ _ S1 ?_ sd⟩
   rw[gF hm];exact nR (e:=lfT kk z) hp
  |fork e b tl tr=>
   obtain⟨l,r,ml,mr,fk,kl,kr⟩:=k1.fk
   obtain⟨dy,tp,mm,oy⟩:=fk
   obtain⟨p1,p2,p3,p4⟩:=dp
   have hh':max (hgt tl) (hgt tr)+1<n+1:=hh
   have pw:2^(e+1)=2*2^e:=by rw[Uv,Nat.mul_comm]
   have z1:(2*(b:Int))<2^((e:Int)+1).toNat/\2*(b:Int)+1<2^((e:Int)+1).toNat:=by
    rw[show((e:Int)+1).toNat=e+1 by omega,<-gy];omega
   refine Sel.no rfl ⟨x,_,dy,_,_,rfl,oy,T.cl_Fork,T.na_Fork_depth,rfl,?_⟩
   refine⟨x,_,dy,_,_,rfl,oy,T.cl_Fork,T.na_Fork_begin,rfl,zd (by decide) (by decide),x,_,dy,_,_,rfl,oy,T.cl_Fork,T.na_Fork_left,rfl,?_⟩
   refine⟨B,lo,hi,(e:Int)+1,2*(b:Int),l,g,tl,ml,rfl,B60,by omega,by omega,by omega,z1.1,kl,p3,by omega,fun v1 H2 S2 w1 _=>?_⟩
   have oy2:=S2 _ _ oy
   refine⟨x,_,dy,_,_,rfl,oy2,T.cl_Fork,T.na_Fork_depth,rfl,?_⟩
   refine⟨x,_,dy,_,_,rfl,oy2,T.cl_Fork,T.na_Fork_begin,rfl,zd (by decide) (by decide),x,_,dy,_,_,rfl,oy2,T.cl_Fork,T.na_Fork_right,rfl,?_⟩
   refine⟨B,lo,hi,(e:Int)+1,2*(b:Int)+1,r,g,tr,mr,rfl,B60,by omega,by omega,by omega,z1.2,kr.same S2,p4,by omega,fun v2 H3 S3 w2 _=>?_⟩
   have oy3:=S3 _ _ oy2
   refine⟨x,_,dy,_,_,rfl,oy3,T.cl_Fork,T.na_Fork_depth,rfl,x,_,dy,_,_,rfl,oy3,T.cl_Fork,T.na_Fork_begin,rfl,aO (show 5<=1000000 by decide),fun u hu=>?_⟩
   have S4:=au.upd (o:=.tup [.str "fork",.int (e:Int),.int (b:Int),V.ref v1,V.ref v2]) hu
   refine q _ _ (S1.trans (S2.trans (S3.trans S4))) ?_ sd
   rw[gE hm]
   exact .tup ag (.cons (.str _) (.cons (.int _) (.cons (.int _) (.cons (w1.mono (S3.trans S4)) (.cons (w2.mono S4) .nil)))))
def GD (K:cW)(A:Adr):Ln (qf K A) 3:=by rintro vs H Q E ⟨_,_,_,_,_,_,_,_,rfl,_⟩;rfl
def Je (T:Txt K mg A):Rd (qf K A) (Pr K A) ["table","low","high"]:=by
 intro vs H Q E h
 obtain⟨x,f,g,B,t,m,lo,hi,rfl,ta,en,q⟩:=h
 obtain⟨dx,y,o,ky⟩:=ta.ob
 have B60:=ta.B60
 have hg:=(ta.wf.dp).2
 refine⟨x,_,dx,_,_,rfl,o,T.cl_Table,T.na_Table_bits,rfl,(B:Int),lo,hi,rfl,en,?_⟩
 refine⟨x,_,dx,_,_,rfl,o,T.cl_Table,T.na_Table_bits,rfl,x,_,dx,_,_,rfl,o,T.cl_Table,T.na_Table_top,rfl,?_⟩
 refine⟨B,lo,hi,0,0,y,g,t,m,rfl,B60,by decide,by omega,by decide,by decide,ky,(ta.wf.dp).1,by omega,fun v H1 S1 w sd=>q v _ H1 S1 w (sd.up (by omega)) fun h he=>by rw[ky.samePart (dB g) he]⟩
def StA (H:Hp):List V->List (Int×Key)->Prop:=Paired fun(v:V)(s:Int×Key)=>∃p,v=V.ref p/\H p=some (.tup [.int s.1,kV s.2])
def StA.dat {H:Hp}{xs:List V}{l:List (Int×Key)}(h:StA H xs l):DatWs H xs (l.map stD):=by
 induction h with
 |nil=>exact .nil
 |cons e _ ih=>
  obtain⟨p,rfl,hp⟩:=e
  exact .cons (.tup hp (.cons (.int _) (.cons (iI _ _) .nil))) ih
def StA.keep {H H':Hp}{xs:List V}{l:List (Int×Key)}(h:StA H xs l)(k:∀z us,H z=some (.tup us)->H' z=some (.tup us)):StA H' xs l:=Paired.mapP h fun _ _ ⟨p,e,hp⟩=>⟨p,e,k _ _ hp⟩
def HP (K:cW)(A:Adr):Ln (qX K A) 2:=by rintro vs H Q E ⟨x,f,g,B,t,m,k,rfl,_⟩;rfl
def Kc (T:Txt K mg A):Rd (qX K A) (PK K A) ["table","key","steps","knot"]:=by
 intro vs H Q E h
 obtain⟨x,f,g,B,t,m,key,rfl,ta,hk,q⟩:=h
 obtain⟨dx,y0,o,ky⟩:=ta.ob
 have B60:=ta.B60
 refine⟨x,_,dx,_,_,rfl,o,T.cl_Table,T.na_Table_bits,rfl,(B:Int),.int (key:Int),.int (key:Int),rfl,by omega,by omega,.int _,?_⟩
 rw[iD hk]
 refine Sel.no rfl ⟨aO (n:=0) (by decide),fun D hD=>?_⟩
 have S0:=au.upd (o:=.lst []) hD
 refine⟨x,_,dx,_,_,rfl,S0 _ _ o,T.cl_Table,T.na_Table_top,rfl,?_⟩
 have hg:=(ta.wf.dp).2
 refine⟨fun n σ H'=>∃(xs:List V)(pre:List (Int×Key))(u:Kn Str)(y:Addr)(mu:Key),n=hgt u/\σ=[some (.ref x),some (.int (key:Int)),some (.ref D),some (.ref y)]/\au H H'/\H' D=some (.lst xs)/\xs.length+hgt u<=60/\KnA A H g y u mu/\gw B u/\StA H' xs pre/\(∀s∈pre,okP s.2=true)/\cV (cm g) B key t=pre++cV (cm g) B key u/\eU (cm g) B key t=eU (cm g) B key u,
  ⟨_,[],[],t,y0,m,rfl,rfl,S0,ag,by show 0+_<=_;omega,ky,ta.wf.dp.1,.nil,(fun _ h=>nomatch h),rfl,rfl⟩,?_⟩
 rintro n σ H1 ⟨xs,pre,u,y,mu,rfl,rfl,S1,hD1,xl,ku,dp,sa,okp,es,ee⟩
 have o1:=S1 _ _ o
 have fin:cV (cm g) B key u=[]->eU (cm g) B key u=bW (cm g) u->aC (bZ (af (tCB (kJ K) (af (ac 2) (aj))) (af (aH K (ac 3) "term") (aj)))) {nx:=fun _ H'=>Q .non H',rt:=Q} [some (.ref x),some (.int (key:Int)),some (.ref D),some (.ref y)] H1:=fun e1 e2=>by
  rw[e1,RO]at es
  rw[e2]at ee
  refine⟨D,xs,rfl,.inl ⟨SqL.of hD1,fun p hp=>?_⟩⟩
  have S2:=au.upd (o:=.tup xs) hp
  obtain⟨dy,tp,fs,oy,htp⟩:=ku.term (dB g)
  refine⟨y,_,dy,_,_,rfl,S2 _ _ (S1 _ _ oy),(cR T u).1,(cR T u).2.2,rfl,aO (show 2<=1000000 by decide),fun r hr=>?_⟩
  have S3:=au.upd (o:=.tup [.ref p,.ref tp]) hr
  have sd:sD 62 (jF (cm g) B key t):=by
   unfold jF
   rw[es,ee]
   have s1:sD 2 (.tup (pre.map stD)):=cx (n:=1) fun d hd=>by
    obtain⟨s,hs,rfl⟩:=RJ.mp hd
    exact cx (aZ (gW _) (aZ (iH (okp s hs)) cL))
   exact(cx (n:=2) (aZ s1 (aZ (ku.termS.up (by decide)) cL))).up (by decide)
  refine q r (jF (cm g) B key t) _ (S1.trans (S2.trans S3)) ?_ sd fun h he=>?_
  ·unfold jF
   rw[es,ee]
   exact .tup ag (.cons (.tup (S3 _ _ ag) (sa.keep fun z us e=>S3 _ _ (S2 _ _ e)).dat) (.cons (nR (S3 _ _ (S2 _ _ (S1 _ _ htp)))) .nil))
  ·obtain⟨_,a,b⟩:=ky.same_ext he (dB g) B key
   unfold jF
   rw[a,b]
 obtain⟨C,dz,fz,oz,c1,c2,c3⟩:=xf T ku
 refine⟨y,C,dz,fz,_,_,rfl,S1 _ _ oz,c1,c2,c3,?_⟩
 cases u with
 |bare=>exact Sel.no rfl (fin rfl rfl)
 |leaf k z=>exact Sel.no rfl (fin rfl rfl)
 |fork d b tl tr=>
  refine Sel.yes rfl ?_
  obtain⟨l,r,ml,mr,fk,kl,kr⟩:=ku.fk
  have fk1:ip A H1 y d b l r:=let ⟨a,b,c,z⟩:=fk;⟨a,b,c,S1 _ _ z⟩
  obtain⟨dy,tp,mm,oy⟩:=id fk1
  refine⟨y,dy,_,rfl,oy,rfl,x,_,dx,_,_,rfl,o1,T.cl_Table,T.na_Table_bits,rfl,y,l,r,d,b,B,key,rfl,fk1,dp.1,?_⟩
  by_cases hb:st B key d=b
  ·rw[decide_eq_true hb]
   refine⟨fun σ' H'=>∃(xs:List V)(pre:List (Int×Key))(u:Kn Str)(y:Addr)(mu:Key),hgt u<hgt (Kn.fork d b tl tr)/\σ'=[some (.ref x),some (.int (key:Int)),some (.ref D),some (.ref y)]/\au H H'/\H' D=some (.lst xs)/\xs.length+hgt u<=60/\KnA A H g y u mu/\gw B u/\StA H' xs pre/\(∀s∈pre,okP s.2=true)/\cV (cm g) B key t=pre++cV (cm g) B key u/\eU (cm g) B key t=eU (cm g) B key u,fun σ' H' ⟨xs',pre',u',y',mu',hlt,cH⟩=>⟨hgt u',hlt,xs',pre',u',y',mu',rfl,cH⟩,?_⟩
   have hgl:hgt tl<hgt (Kn.fork d b tl tr):=by show _<max _ _+1;omega
   have hgr:hgt tr<hgt (Kn.fork d b tl tr):=by show _<max _ _+1;omega
   have step:∀(z v:Addr)(tz tv:Kn Str)(mz mv:Key),KnA A H g z tz mz->KnA A H g v tv mv->hgt tv<hgt (Kn.fork d b tl tr)->gw B tv->cV (cm g) B key (Kn.fork d b tl tr)=((d:Int),cm g (bW (cm g) tz))::cV (cm g) B key tv->eU (cm g) B key (Kn.fork d b tl tr)=eU (cm g) B key tv->(if sd B key d=0 then r else l)=z->(if sd B key d=0 then l else r)=v->
     ax (bK (tBM K "list" cQ (ac 2) (af (bZ (af (aH K (ac 3) "depth") (af (aH K (aB A.c_Fork "aside" (lG K A) (fun _=>E0) (ac 3) (af (aH K (ac 0) "bits") (af (ac 1) (aj)))) "mark") (aj)))) (aj)))) (aN (aB A.c_Fork "toward" (ii K A) (fun _=>E0) (ac 3) (af (aH K (ac 0) "bits") (af (ac 1) (aj)))) (aE 3)) {nx:=fun σ' H'=>∃(xs:List V)(pre:List (Int×Key))(u:Kn Str)(y:Addr)(mu:Key),hgt u<hgt (Kn.fork d b tl tr)/\σ'=[some (.ref x),some (.int (key:Int)),some (.ref D),some (.ref y)]/\au H H'/\H' D=some (.lst xs)/\xs.length+hgt u<=60/\KnA A H g y u mu/\gw B u/\StA H' xs pre/\(∀s∈pre,okP s.2=true)/\cV (cm g) B key t=pre++cV (cm g) B key u/\eU (cm g) B key t=eU (cm g) B key u,rt:=Q} [some (.ref x),some (.int (key:Int)),some (.ref D),some (.ref y)] H1:=by
    intro z v tz tv mz mv kz kv hv dv e1 e2 ez ev
    obtain⟨dz,pz,fz,oz,_⟩:=kz.ob
    refine⟨.inl ⟨rfl,_,SqL.of hD1⟩,y,_,dy,_,_,rfl,oy,T.cl_Fork,T.na_Fork_depth,rfl,y,dy,_,rfl,oy,rfl,x,_,dx,_,_,rfl,o1,T.cl_Table,T.na_Table_bits,rfl,y,l,r,d,b,B,key,rfl,fk1,dp.1,?_⟩
    rw[ez]
    refine⟨z,_,dz,_,_,rfl,S1 _ _ oz,(cR T tz).1,(cR T tz).2.1,rfl,aO (show 2<=1000000 by decide),fun p hp=>?_⟩
    have S2:=au.upd (o:=.tup [.int (d:Int),kV mz]) hp
    have hD2:=S2 _ _ hD1
    have hp2:upd H1 p (.tup [.int (d:Int),kV mz]) p=some (.tup [.int (d:Int),kV mz]):=ag
    refine⟨D,xs,.ref p,rfl,rfl,hD2,cB (by omega),?_⟩
    have S12:=S1.trans S2
    generalize upd H1 p (.tup [.int (d:Int),kV mz])=H2 at S2 hD2 S12 hp2
    have S3:au H (upd H2 D (.lst (xs++[.ref p]))):=fun a u ea=>by rw[ap (aq ea hD)];exact S12 _ _ ea
    have kt:∀a us,H2 a=some (.tup us)->upd H2 D (.lst (xs++[.ref p])) a=some (.tup us):=fun a us ea=>by rw[ap (bw ea hD2 fun q=>nomatch q)];exact ea
    have fk3:ip A (upd H2 D (.lst (xs++[.ref p]))) y d b l r:=let ⟨a,b,c,z⟩:=fk;⟨a,b,c,S3 _ _ z⟩
    obtain⟨dy3,tp3,mm3,oy3⟩:=id fk3
    refine⟨y,dy3,_,rfl,oy3,rfl,x,_,dx,_,_,rfl,S3 _ _ o,T.cl_Table,T.na_Table_bits,rfl,y,l,r,d,b,B,key,rfl,fk3,dp.1,?_⟩
    rw[ev]
    refine⟨xs++[.ref p],pre++[((d:Int),mz)],tv,v,mv,hv,rfl,S3,ag,by rw[QP];show _+1+_<=_;omega,kv,dv,vL (sa.keep fun a us ea=>kt a us (S2 _ _ ea)) (.cons ⟨p,rfl,kt _ _ hp2⟩ .nil),fun s hs=>?_,?_,by rw[ee,e2]⟩
    ·rcases Rv.mp hs with hs|hs
     ·exact okp s hs
     ·rw[QR.mp hs];exact kz.okm
    ·rw[es,e1,<-kz.ext (dB g),To];rfl
   by_cases e0:sd B key d=0
   ·exact step r l tr tl mr ml kr kl hgl dp.2.2.1 (by show(if st B key d=b then(if sd B key d=0 then _ else _)else _)=_;rw[if_pos hb,if_pos e0]) (by show(if st B key d=b then(if sd B key d=0 then _ else _)else _)=_;rw[if_pos hb,if_pos e0]) (if_pos e0) (if_pos e0)
   ·exact step l r tl tr ml mr kl kr hgr dp.2.2.2 (by show(if st B key d=b then(if sd B key d=0 then _ else _)else _)=_;rw[if_pos hb,if_neg e0]) (by show(if st B key d=b then(if sd B key d=0 then _ else _)else _)=_;rw[if_pos hb,if_neg e0]) (if_neg e0) (if_neg e0)
  ·rw[decide_eq_false hb]
   refine fin ?_ ?_
   ·show(if st B key d=b then _ else _)=_;rw[if_neg hb]
   ·show(if st B key d=b then _ else _)=_;rw[if_neg hb]
section
variable {H H':Hp}{x f b:Addr}{g g':gOp}{n m B:Nat}{a:HA}{t:Kn Str}{ts:List (Kn Str)}{ys:List Addr}
def HoS.same (h:HoS A H x f b g n B a t ts ys)(S:au H H')(hn:n<=m):HoS A H' x f b g m B a t ts ys:=⟨h.hs.same S hn,h.hd,h.s.same hn S⟩
def HoS.after {es:List Key}{kvs kvs':List (List Key×Key)}(h:HoS A H x f b g n B a t ts ys)(r:dQ A H a.ro f a.L a.D es kvs)(le:es.length=ts.length)(k2:aW b a.D H H')(r':dC A H' a.ro f a.L a.D b es kvs' g' (n+200))(sub:Sub g g'):HoS A H' x f b g' (n+200) B a t ts ys:=by
 obtain⟨h,hd,s⟩:=h
 obtain⟨⟨n1,n2,n3,n4,n5⟩,⟨n6,n7,n8,n9⟩,⟨n10,n11,n12⟩,⟨n13,n14⟩,n15⟩:=hd.all
 obtain⟨kb,eb⟩:=s.bd
 have nk:NkS [b,a.D] H:=.bd s (.cons r.hd (fun q=>q.dT) .nil)
 have mu:MuS [b,a.D] H:=fun z hz=>by
  simp only[QG,Rc,or_false]at hz
  rcases hz with rfl|rfl
  ·exact⟨_,eb,.inl ⟨_,rfl⟩⟩
  ·exact⟨_,r.hd,.inl ⟨_,rfl⟩⟩
 obtain⟨m1,m2,m3⟩:=h.noX mu
 have km:KM [b,a.D] H H':=KM.k2 k2 (by simp) (by simp)
 have two:∀{z:Addr},z≠b->z≠a.D->z∉[b,a.D]:=fun h1 h2 q=>by
  simp only[QG,Rc,or_false]at q
  exact q.elim h1 h2
 obtain⟨m,ta⟩:=h.ta
 refine⟨⟨h.ob.km km m1,⟨m,ta.km km nk (two (QU n1) n7) sub⟩,⟨es,kvs',r'.r,le,r'.kl⟩,km _ _ (two (QU n4) (QU n13)) h.hm,h.tm.km km nk (fun y hy=>?_) sub,h.se.km km m3 (two (QU n5) (QU n14)) (by omega)⟩,hd,r'.s⟩
 obtain⟨i,hi⟩:=Uq.mp hy
 have hlt:i<ts.length:=by rw[<-h.tm.length];exact(QY.mp hi).1
 obtain⟨y',m',hy',ty⟩:=h.tm.get (QQ hlt)
 rw[hi]at hy';cases hy'
 obtain⟨dy,y0,oy,_⟩:=ty.ob
 exact two (s.nb oy fun _ z=>nomatch z) (bw oy r.hd fun z=>nomatch z)
def HoS.dat (h:HoS A H x f b g n B a t ts ys)(k2:aW b a.D H H'):∀z o,H z=some o->iw o->H' z=some o:=fun z o e hd=>by
 obtain⟨es,kvs,r,_⟩:=h.hs.ro
 refine k2 z o (h.s.nb e fun kvs q=>?_) (bw e r.hd fun q=>?_) e
 ·subst q;rcases hd with⟨_,q⟩|⟨_,q⟩|⟨_,q⟩<;>cases q
 ·subst q;rcases hd with⟨_,q⟩|⟨_,q⟩|⟨_,q⟩<;>cases q
end
def okG {B n:Nat}{d e:Dat}:dR "growth" B n [d,e]=mw n d e:=by
 unfold dR
 exact if_pos rfl
def lW {B n:Nat}{d e:Dat}:dR "placed" B n [d,e]=eQ n d e:=by
 unfold dR
 exact if_neg (by decide)
def nK {us:List V}(h:us.length=2):∃v w,us=[v,w]:=L2.vc h
def AnR.no {P:Dat->Prop}{H:Hp}:AnR false P .non H:=⟨fun _=>rfl,nofun⟩
def AnR.yes {P:Dat->Prop}{H:Hp}{p:Addr}{d:Dat}(h:aV H (.ref p) d)(hs:sD 64 d)(hp:P d):AnR true P (.ref p) H:=⟨nofun,fun _=>⟨p,d,rfl,h,hs,hp⟩⟩
theorem fe (H:Hp):∀ks:List Key,DatWs H (ks.map kV) (ks.map bA)
 |[]=>.nil
 |k::r=>.cons (iI H k) (fe H r)
def iC {ks:List Key}(h:okDs (ks.map bA)=true):sD 1 (.tup (ks.map bA)):=by
 refine⟨h,?_⟩
 show Ry (toPys (ks.map bA))+1<=1
 clear h
 induction ks with
 |nil=>exact gV _
 |cons k r ih=>
  show max (eS (bA k)).depth (Ry (toPys (r.map bA)))+1<=1
  rw[DU];omega
def pG {ks:List Key}(h:∀k∈ks,smE k):okDs (ks.map bA)=true:=by
 induction ks with
 |nil=>rfl
 |cons k r ih=>
  show(okD (bA k)&&okDs (r.map bA))=true
  rw[(iH (h k Rb).1).1,ih fun x hx=>h x (QN _ hx)];rfl
def jl {n:Nat}{w:Str}:∀vs H Q E,rK A n w vs H Q E->vs.length=n+1:=by
 rintro vs H Q E ⟨x,f,b,g,N,B,a,t,ts,ys,us,ds,rfl,h,_⟩
 rw[RE,h]
def EV (K:cW)(A:Adr):∀vs H Q E,lC K A vs H Q E->vs.length=3:=jl
def Iz (K:cW)(A:Adr):∀vs H Q E,ia K A vs H Q E->vs.length=3:=jl
def FA (K:cW)(A:Adr):∀vs H Q E,ju K A vs H Q E->vs.length=4:=jl
def Gm (K:cW)(A:Adr):∀vs H Q E,lb K A vs H Q E->vs.length=5:=jl
def Mg (T:Txt K mg A):Rd (lC K A) (Pn K A) ["self","count","elder"]:=by
 intro vs H Q E h
 obtain⟨x,f,b,g,n,B,a,t,ts,ys,us,ds,rfl,hl,h,hn,dw,q⟩:=h
 obtain⟨v,w,rfl⟩:=nK hl
 cases dw with
 |cons hd dw=>
 cases dw with
 |cons he dw=>
 cases dw with
 |nil=>
 rename_i d e
 obtain⟨dx,hx⟩:=h.hs.ob
 obtain⟨es,kvs,r,le,lk⟩:=h.hs.ro
 obtain⟨dr,hr⟩:=r.ob
 have n3:=h.hd.all.1.2.2.1
 unfold vi at q
 rw[okG]at q
 refine⟨x,_,dx,_,_,rfl,hx,T.cl_House,T.na_House_row,rfl,a.ro,dr,_,rfl,hr,rfl,a.ro,f,a.L,a.D,es,kvs,v,w,d,e,rfl,r,hd,he,?_⟩
 unfold mw at q
 rw[le]
 cases hE:(cM d e&&leD (ts.length:Int) d)with
 |false=>
  rw[hE]at q
  exact Sel.f (q .non g H aW.rfl' (h.same au.rfl' (by omega)) Sub.rfl' bi.rfl' AnR.no)
 |true=>
  rw[hE]at q
  exact Sel.t ⟨x,_,dx,_,_,rfl,hx,T.cl_House,T.na_House_row,rfl,a.ro,dr,_,rfl,hr,rfl,a.ro,f,a.L,a.D,b,es,kvs,g,n,v,w,d,e,rfl,⟨r,h.s,QU n3,lk⟩,by omega,hd,he,by rw[le];exact hE,
   fun p c el ks kvs' g' H' k2 r' sb hp ed ee gv kl sm=>q (.ref p) g' H' k2 (h.after r le k2 r' sb.s) sb.s (bi.of r.hd r'.r.hd sb.t) (AnR.yes (.tup hp (fe H' ks)) ((iC (pG sm)).up (by decide)) (by rw[ed,ee];exact .gr r'.r.hd gv kl))⟩
def Nn (T:Txt K mg A):Rd (ia K A) (Ph K A) ["self","count","place"]:=by
 intro vs H Q E h
 obtain⟨x,f,b,g,n,B,a,t,ts,ys,us,ds,rfl,hl,h,hn,dw,q⟩:=h
 obtain⟨v,w,rfl⟩:=nK hl
 cases dw with
 |cons hd dw=>
 cases dw with
 |cons he dw=>
 cases dw with
 |nil=>
 rename_i d e
 obtain⟨dx,hx⟩:=h.hs.ob
 obtain⟨es,kvs,r,le,lk⟩:=h.hs.ro
 obtain⟨dr,hr⟩:=r.ob
 have n3:=h.hd.all.1.2.2.1
 unfold vi at q
 rw[lW]at q
 refine⟨x,_,dx,_,_,rfl,hx,T.cl_House,T.na_House_row,rfl,a.ro,dr,_,rfl,hr,rfl,a.ro,f,a.L,a.D,es,kvs,v,w,d,e,rfl,r,hd,he,?_⟩
 unfold eQ at q
 rw[le]
 cases hE:(dD d e&&leD (ts.length:Int) d)with
 |false=>
  rw[hE]at q
  exact Sel.f (q .non g H aW.rfl' (h.same au.rfl' (by omega)) Sub.rfl' bi.rfl' AnR.no)
 |true=>
  rw[hE]at q
  exact Sel.t ⟨x,_,dx,_,_,rfl,hx,T.cl_House,T.na_House_row,rfl,a.ro,dr,_,rfl,hr,rfl,a.ro,f,a.L,a.D,b,es,kvs,g,n,v,w,d,e,rfl,⟨r,h.s,QU n3,lk⟩,by omega,hd,he,by rw[le];exact hE,
   fun P T' c p y ks kvs' g' H' k2 r' sb hP hT ed ee hy vl kl sm=>q (.ref P) g' H' k2 (h.after r le k2 r' sb.s) sb.s (bi.of r.hd r'.r.hd sb.t) (AnR.yes (.tup hP (.cons (iI H' y) (.cons (.tup hT (fe H' ks)) .nil))) ((cx (n:=1) (aZ ((iH (r.en y (Rp hy)).1).up (by decide)) (aZ (iC (pG sm)) cL))).up (by decide)) (by rw[ed,ee];exact .pl r'.r.hd r'.r.hl hy vl kl))⟩
def HoS.make {H:Hp}{x f b:Addr}{g:gOp}{n B:Nat}{a:HA}{t:Kn Str}{ts:List (Kn Str)}{ys:List Addr}{w:V}{d e:Dat}(h:HoS A H x f b g n B a t ts ys)(ok:eQ ts.length d e=true)(he:aV H w e):
  ∃(p:Nat)(y:Addr)(t':Kn Str)(m:Key),w=.int (p:Int)/\e=.int (p:Int)/\ts[p]?=some t'/\ys[p]?=some y/\TbA A H g y f B t' m:=by
 obtain⟨h1,h2⟩:=Gt.mp ok
 obtain⟨c,p,rfl,rfl,pc,_⟩:=io h1
 have hc:(c:Int)<=(ts.length:Int):=of_decide_eq_true h2
 obtain⟨y,m,hy,ty⟩:=h.hs.tm.get (QQ (show p<ts.length by omega))
 exact⟨p,y,_,m,he.int_inv,rfl,QQ _,hy,ty⟩
def Kv (T:Txt K mg A):Rd (ju K A) (OF K A) ["self","count","place","key","paper"]:=by
 intro vs H Q E h
 obtain⟨x,f,b,g,n,B,a,t,ts,ys,us,ds,rfl,hl,h,hn,dw,q⟩:=h
 obtain⟨v,w,k,rfl⟩:=L2.qg hl
 cases dw with
 |cons hd dw=>
 cases dw with
 |cons he dw=>
 cases dw with
 |cons hk dw=>
 cases dw with
 |nil=>
 rename_i d e dk
 obtain⟨dx,hx⟩:=h.hs.ob
 refine⟨x,dx,_,rfl,hx,rfl,x,f,b,g,n,B,a,t,ts,ys,[v,w],[d,e],rfl,rfl,h,hn,.cons hd (.cons he .nil),fun u g1 H1 k1 h1 sub1 cu1 pl=>?_⟩
 dsimp only at pl
 rw[lW]at pl
 replace q:∀(u:V)(g':List Key->Option Key)(H':Hp),aW b a.D H H'->HoS A H' x f b g' (n+200) B a t ts ys->Sub g g'->bi a.D H H'->AnR (eQ ts.length d e&&cC (B:Int) dk) (AnV B ts a g' H' "full" [d,e,dk]) u H'->Q u H':=q
 have kd:=h.dat k1
 cases hP:eQ ts.length d e with
 |false=>
  rw[hP]at pl q
  cases pl.1 rfl
  exact Sel.t (Sel.t (q .non g1 H1 k1 h1 sub1 cu1 AnR.no))
 |true=>
  rw[hP]at pl q
  obtain⟨P,dd,rfl,dW,sdd,an⟩:=pl.2 rfl
  cases an with
  |pl hD hL hy vl kl=>
  cases dW with
  |tup hP1 dws=>
  cases dws with
  |cons w1 dws=>
  cases dws with
  |cons w2 dws=>
  cases dws with
  |nil=>
  cases w2 with
  |tup hT1 wks=>
  rename_i c pN kvs ks es yy x1 T' xs
  have okk:okDs (ks.map bA)=true:=by
   have z:(okD (bA yy)&&(okDs (ks.map bA)&&true))=true:=sdd.1
   exact(Gt.mp (Gt.mp z).2).1
  obtain⟨dx1,hx1⟩:=h1.hs.ob
  obtain⟨mt,ta⟩:=h1.hs.ta
  obtain⟨dt,yt,ot,_⟩:=ta.ob
  have b60:=ta.B60
  refine Sel.f ⟨x,_,dx1,_,_,rfl,hx1,T.cl_House,T.na_House_table,rfl,a.tb,_,dt,_,_,rfl,ot,T.cl_Table,T.na_Table_bits,rfl,(B:Int),k,dk,rfl,by omega,by omega,hk.keep kd,?_⟩
  cases hK:cC (B:Int) dk with
  |false=>
   rw[hK]at q
   exact Sel.t (q .non g1 H1 k1 h1 sub1 cu1 AnR.no)
  |true=>
   rw[hK]at q
   obtain⟨key,rfl,hk2⟩:=gJ hK
   cases hk.int_inv
   obtain⟨p,z,t',m,rfl,ep,ht',hys,ty⟩:=h1.make hP (he.keep kd)
   obtain rfl:p=pN:=by have:=Dat.int.inj ep;omega
   refine Sel.f (ixT (j:=1) hP1 rfl rfl ⟨x,_,dx1,_,_,rfl,hx1,T.cl_House,T.na_House_makes,rfl,ixL h1.hs.hm rfl (by rw[Ro,hys];rfl) ⟨z,f,g1,B,t',m,key,rfl,ty,hk2,fun r sd H2 S2 dr ss hs=>⟨aO (show 2<=1000000 by decide),fun p2 hp2=>?_⟩⟩⟩)
   have S3:=S2.trans (au.upd (o:=.tup [.ref T',.ref r]) hp2)
   exact q (.ref p2) g1 _ (k1.trans (aW.same S3)) (h1.same S3 (gV _)) sub1 (cu1.trans (bi.same S3)) (AnR.yes (.tup ag (.cons (.tup (S3 _ _ hT1) (wks.mono S3)) (.cons (dr.mono (au.upd hp2)) .nil))) ((cx (n:=62) (aZ ((iC okk).up (by decide)) (aZ ss cL))).up (by decide)) (.fu (S3 _ _ hD) vl kl ht' hs))
def JZ (T:Txt K mg A):Rd (lb K A) (Ov K A) ["self","count","place","low","high","paper"]:=by
 intro vs H Q E h
 obtain⟨x,f,b,g,n,B,a,t,ts,ys,us,ds,rfl,hl,h,hn,dw,q⟩:=h
 obtain⟨v,w,k,l,rfl⟩:=L2.pX hl
 cases dw with
 |cons hd dw=>
 cases dw with
 |cons he dw=>
 cases dw with
 |cons hk dw=>
 cases dw with
 |cons hk2 dw=>
 cases dw with
 |nil=>
 rename_i d e dk dl
 obtain⟨dx,hx⟩:=h.hs.ob
 refine⟨x,dx,_,rfl,hx,rfl,x,f,b,g,n,B,a,t,ts,ys,[v,w],[d,e],rfl,rfl,h,hn,.cons hd (.cons he .nil),fun u g1 H1 k1 h1 sub1 cu1 pl=>?_⟩
 dsimp only at pl
 rw[lW]at pl
 replace q:∀(u:V)(g':List Key->Option Key)(H':Hp),aW b a.D H H'->HoS A H' x f b g' (n+200) B a t ts ys->Sub g g'->bi a.D H H'->AnR (eQ ts.length d e&&dZ (B:Int) dk dl) (AnV B ts a g' H' "stretch" [d,e,dk,dl]) u H'->Q u H':=q
 have kd:=h.dat k1
 cases hP:eQ ts.length d e with
 |false=>
  rw[hP]at pl q
  cases pl.1 rfl
  exact Sel.t (Sel.t (q .non g1 H1 k1 h1 sub1 cu1 AnR.no))
 |true=>
  rw[hP]at pl q
  obtain⟨P,dd,rfl,dW,sdd,an⟩:=pl.2 rfl
  cases an with
  |pl hD hL hy vl kl=>
  cases dW with
  |tup hP1 dws=>
  cases dws with
  |cons w1 dws=>
  cases dws with
  |cons w2 dws=>
  cases dws with
  |nil=>
  cases w2 with
  |tup hT1 wks=>
  rename_i c pN kvs ks es yy x1 T' xs
  have okk:okDs (ks.map bA)=true:=by
   have z:(okD (bA yy)&&(okDs (ks.map bA)&&true))=true:=sdd.1
   exact(Gt.mp (Gt.mp z).2).1
  obtain⟨dx1,hx1⟩:=h1.hs.ob
  obtain⟨mt,ta⟩:=h1.hs.ta
  obtain⟨dt,yt,ot,_⟩:=ta.ob
  have b60:=ta.B60
  have b1:=ta.B1
  refine Sel.f ⟨x,_,dx1,_,_,rfl,hx1,T.cl_House,T.na_House_table,rfl,a.tb,_,dt,_,_,rfl,ot,T.cl_Table,T.na_Table_bits,rfl,(B:Int),k,l,dk,dl,rfl,by omega,by omega,hk.keep kd,hk2.keep kd,?_⟩
  cases hK:dZ (B:Int) dk dl with
  |false=>
   rw[hK]at q
   exact Sel.t (q .non g1 H1 k1 h1 sub1 cu1 AnR.no)
  |true=>
   rw[hK]at q
   unfold dZ at hK
   obtain⟨hK,hle⟩:=Gt.mp hK
   obtain⟨hK1,hK2⟩:=Gt.mp hK
   obtain⟨lo,rfl,lo2⟩:=gJ hK1
   obtain⟨hi,rfl,hi2⟩:=gJ hK2
   cases hk.int_inv
   cases hk2.int_inv
   have hle:(lo:Int)<=(hi:Int):=of_decide_eq_true hle
   have hi3:(hi:Int)<2^((B:Nat):Int).toNat:=(of_decide_eq_true hK2:0<=(hi:Int)/\(hi:Int)<2^((B:Nat):Int).toNat).2
   obtain⟨p,z,t',m,rfl,ep,ht',hys,ty⟩:=h1.make hP (he.keep kd)
   obtain rfl:p=pN:=by have:=Dat.int.inj ep;omega
   refine Sel.f (ixT (j:=1) hP1 rfl rfl ⟨x,_,dx1,_,_,rfl,hx1,T.cl_House,T.na_House_makes,rfl,ixL h1.hs.hm rfl (by rw[Ro,hys];rfl) ⟨z,f,g1,B,t',m,(lo:Int),(hi:Int),rfl,ty,⟨by omega,by omega,by omega,hle,hi3⟩,fun r sd H2 S2 dr ss hs=>⟨aO (show 2<=1000000 by decide),fun p2 hp2=>?_⟩⟩⟩)
   have S3:=S2.trans (au.upd (o:=.tup [.ref T',.ref r]) hp2)
   exact q (.ref p2) g1 _ (k1.trans (aW.same S3)) (h1.same S3 (gV _)) sub1 (cu1.trans (bi.same S3)) (AnR.yes (.tup ag (.cons (.tup (S3 _ _ hT1) (wks.mono S3)) (.cons (dr.mono (au.upd hp2)) .nil))) ((cx (n:=62) (aZ ((iC okk).up (by decide)) (aZ ss cL))).up (by decide)) (.st (S3 _ _ hD) vl kl ht' hs))
def Eh (a b:Str):(Sx a).eqv (.str b)=decide (a=b):=by
 have e:(Sx a).eqv (.str b)=(a==b):=by simp[PyData.eqv]
 rw[e]
 by_cases h:a=b
 ·rw[decide_eq_true h];exact beq_iff_eq.mpr h
 ·rw[decide_eq_false h];exact beq_eq_false_iff_ne.mpr h
theorem uw (w:Str):∀l:List Str,((l.map Sx).any fun e=>e.eqv (.str w))=decide (w∈l)
 |[]=>by rw[decide_eq_false (fun h=>nomatch h)];rfl
 |z::r=>by
  show((Sx z).eqv (.str w)||((r.map Sx).any fun e=>e.eqv (.str w)))=_
  rw[Eh,uw w r]
  by_cases h1:z=w
  ·subst h1;rw[decide_eq_true rfl,Yt,decide_eq_true Rb]
  ·rw[decide_eq_false h1,VV]
   by_cases h2:w∈r
   ·rw[decide_eq_true h2,decide_eq_true (QN _ h2)]
   ·rw[decide_eq_false h2,decide_eq_false fun h=>(QG.mp h).elim (fun e=>h1 e.symm) h2]
theorem gX {d:Xc}(h:∀z:Str,(Sx z).eqv d=false):∀l:List Str,((l.map Sx).any fun e=>e.eqv d)=false
 |[]=>rfl
 |z::r=>by
  show((Sx z).eqv d||((r.map Sx).any fun e=>e.eqv d))=false
  rw[h,gX h r];rfl
def zN (d:Dat):((cU.map Sx).any fun e=>e.eqv (eS d))=sT d:=by
 cases d with
 |str w=>exact uw w cU
 |non=>exact gX (fun _=>rfl) _
 |bl b=>exact gX (fun _=>rfl) _
 |int i=>exact gX (fun _=>rfl) _
 |lst ds=>exact gX (fun _=>rfl) _
 |tup ds=>exact gX (fun _=>rfl) _
 |dic=>exact gX (fun _=>rfl) _
theorem wC (H:Hp):∀l:List Str,DatVs K H (l.map V.str) (l.map Sx)
 |[]=>.nil
 |z::r=>.cons (.str z) (wC H r)
def Lj (K:cW)(A:Adr):Ln (sh K A) 3:=by rintro vs H Q E ⟨y,dy,h,v,d,rfl,_⟩;rfl
def Pj (T:Txt K mg A)(vs:List V)(H:Hp)(Q:VK)(E:XK)(h:sh K A vs H Q E):T_4 K A E {nx:=fun _ H'=>Q .non H',rt:=Q} (L2.cO ["self","house","way"] vs) H:=by
 obtain⟨y,dy,h,v,d,rfl,hy,dv,ok,dp,qE,q⟩:=h
 have wv:eF K H (.ref A.g_WAYS) (.tuple (cU.map Sx)):=.tup (T.ob_WAYS.sq H) (wC H cU)
 refine .inr ⟨eS d,cU.map Sx,dv.toV ok,.inr wv,by decide+kernel,dE ok,by omega,?_⟩
 rw[zN]
 cases hw:sT d with
 |false=>exact Sel.yes rfl (qE hw)
 |true=>
  cases d with
  |str w=>
   cases dv
   have hm:w∈cU:=of_decide_eq_true hw
   have q:=q w rfl hm
   refine Sel.no rfl ⟨y,_,dy,_,rfl,hy,T.cl_Crook,T.na_Crook_house,(show 0<1000 by decide),y,_,dy,_,rfl,ag,T.cl_Crook,T.na_Crook_way,(show 1<1000 by decide),?_⟩
   have e:upd (upd H y (.ins A.c_Crook dy [("house",h)])) y (.ins A.c_Crook dy [("house",h),("way",.str w)])=upd H y (.ins A.c_Crook dy [("house",h),("way",.str w)]):=by
    funext z
    by_cases c:z=y
    ·subst c;rw[ag,ag]
    ·rw[ap c,ap c,ap c]
   show Q .non (upd (upd H y (.ins A.c_Crook dy [("house",h)])) y (.ins A.c_Crook dy [("house",h),("way",.str w)]))
   rw[e];exact q
  |_=>cases hw
def Mj (K:cW)(A:Adr):Ln (lU K A) 2:=by rintro vs H Q E ⟨y,x,w,u,b,rfl,_⟩;rfl
def Oi (T:Txt K mg A):Rd (lU K A) (T_9 K A) ["self","answer"]:=by
 intro vs H Q E h
 obtain⟨y,x,w,u,b,rfl,⟨dx,hy⟩,hu,q⟩:=h
 rcases hu with⟨rfl,rfl⟩|⟨rfl,p,rfl⟩
 ·exact Sel.t q
 ·exact Sel.f ⟨y,_,dx,_,_,rfl,hy,T.cl_Crook,T.na_Crook_way,rfl,q⟩
def Np (K:cW)(A:Adr):Ln (lZ K A) 2:=by rintro vs H Q E ⟨y,x,w,i,rfl,_⟩;rfl
def Pt (T:Txt K mg A):Rd (lZ K A) (T_5 K A) ["self","number"]:=by
 intro vs H Q E h
 obtain⟨y,x,w,i,rfl,⟨dx,hy⟩,q⟩:=h
 unfold eR at q
 refine⟨y,_,dx,_,_,rfl,hy,T.cl_Crook,T.na_Crook_way,rfl,Sel.dec (fun h1=>Sel.dec (fun h2=>?_) (fun h2=>?_)) (fun h1=>Sel.f ?_)⟩
 ·rw[if_pos ⟨h1,by have h2:i>0:=h2;omega⟩]at q;exact q
 ·rw[if_neg fun z=>h2 (by show i>0;have:=z.2;omega)]at q;exact q
 ·rw[if_neg fun z=>h1 z.1]at q;exact q
def Bn (xs:List V):eT xs none (some (-1))=xs.dropLast:=by
 unfold eT
 rw[HT.rC,VD,Vd,Wn]
 congr 1
 unfold HT.sIx
 simp
 omega
def Em (xs:List V):eT xs (some (-1)) none=xs.getLast?.toList:=by
 cases h:xs.getLast? with
 |none=>rw[TY.mp h];rfl
 |some v=>
  obtain⟨ys,rfl⟩:=TX.mp h
  unfold eT
  rw[HT.rC,show HT.sIx (ys++[v]).length 0 (some (-1))=ys.length by unfold HT.sIx;simp;omega]
  simp
def Ka (K:cW)(A:Adr):Ln (mC K A) 2:=by rintro vs H Q E ⟨y,x,p,w,xs,rfl,_⟩;rfl
def Oj (T:Txt K mg A):Rd (mC K A) (T_6 K A) ["self","marks"]:=by
 intro vs H Q E h
 obtain⟨y,x,p,w,xs,rfl,⟨dx,hy⟩,hp,lx,q⟩:=h
 unfold bY at q
 refine⟨y,_,dx,_,_,rfl,hy,T.cl_Crook,T.na_Crook_way,rfl,Sel.dec (fun h1=>?_) (fun h1=>?_)⟩
 ·have h1:w="cut":=h1
  rw[if_pos h1,<-Bn]at q
  exact⟨-1,rfl,.inl (.inr ⟨p,xs,rfl,hp,fun r H' S hr=>q r H' S hr⟩)⟩
 rw[if_neg h1]at q
 refine⟨y,_,dx,_,_,rfl,hy,T.cl_Crook,T.na_Crook_way,rfl,Sel.dec (fun h2=>?_) (fun h2=>?_)⟩
 ·have h2:w="turn":=h2
  rw[if_pos h2]at q
  exact⟨p,xs,rfl,SqT.of hp,fun l hl=>q l _ (au.upd hl) ag⟩
 rw[if_neg h2]at q
 refine⟨y,_,dx,_,_,rfl,hy,T.cl_Crook,T.na_Crook_way,rfl,Sel.dec (fun h3=>?_) (fun h3=>?_)⟩
 ·have h3:w="twice":=h3
  rw[if_pos h3,<-Em]at q
  refine⟨-1,rfl,.inl (.inr ⟨p,xs,rfl,hp,fun r H' S hr=>.inr ⟨p,r,xs,_,rfl,rfl,S _ _ hp,hr,aO ?_,fun r2 H2 S2 hr2=>q r2 H2 (S.trans S2) hr2⟩⟩)⟩
  have:=iz xs (some (-1)) none
  omega
 rw[if_neg h3]at q
 exact q p H au.rfl' hp
def EJ (K:cW)(A:Adr):Ln (mH K A) 1:=by rintro vs H Q E ⟨y,x,w,f,b,g,n,B,a,t,ts,ys,rfl,_⟩;rfl
def JP (T:Txt K mg A):Rd (mH K A) (Pf K A) ["self"]:=by
 intro vs H Q E h
 obtain⟨y,x,w,f,b,g,n,B,a,t,ts,ys,rfl,⟨dx,hy⟩,hs,q⟩:=h
 obtain⟨dh,hx⟩:=hs.ob
 exact⟨y,_,dx,_,_,rfl,hy,T.cl_Crook,T.na_Crook_house,rfl,x,dh,_,rfl,hx,rfl,q⟩
theorem DatWs.rev {H:Hp}:∀{xs:List V}{ds:List Dat},DatWs H xs ds->DatWs H xs.reverse ds.reverse
 |_,_,.nil=>.nil
 |_,_,.cons h r=>by rw[Tn,Tn];exact(DatWs.rev r).append (.cons h .nil)
theorem DatWs.front {H:Hp}:∀{xs:List V}{ds:List Dat},DatWs H xs ds->DatWs H xs.dropLast ds.dropLast
 |_,_,.nil=>.nil
 |_,_,.cons h .nil=>.nil
 |_,_,.cons h (.cons h2 r)=>.cons h (DatWs.front (.cons h2 r))
theorem DatWs.last {H:Hp}:∀{xs:List V}{ds:List Dat},DatWs H xs ds->DatWs H xs.getLast?.toList ds.getLast?.toList
 |_,_,.nil=>.nil
 |_,_,.cons h .nil=>.cons h .nil
 |_,_,.cons h (.cons h2 r)=>by
  rw[VT,VT]
  exact DatWs.last (.cons h2 r)
def DatWs.bent {H:Hp}{w:Str}{xs:List V}{ds:List Dat}(h:DatWs H xs ds):DatWs H (bY w xs) (bY w ds):=by
 unfold bY
 by_cases h1:w="cut"
 ·rw[if_pos h1,if_pos h1];exact h.front
 rw[if_neg h1,if_neg h1]
 by_cases h2:w="turn"
 ·rw[if_pos h2,if_pos h2];exact h.rev
 rw[if_neg h2,if_neg h2]
 by_cases h3:w="twice"
 ·rw[if_pos h3,if_pos h3];exact h.append h.last
 rw[if_neg h3,if_neg h3];exact h
def zm {α:Type}{w:Str}{l:List α}{d:α}(h:d∈bY w l):d∈l:=by
 unfold bY at h
 by_cases h1:w="cut"
 ·rw[if_pos h1]at h;rw[Wn]at h;exact List.mem_of_mem_take h
 rw[if_neg h1]at h
 by_cases h2:w="turn"
 ·rw[if_pos h2]at h;exact Xj.mp h
 rw[if_neg h2]at h
 by_cases h3:w="twice"
 ·rw[if_pos h3]at h
  rcases Rv.mp h with h|h
  ·exact h
  ·cases e:l.getLast? with
   |none=>rw[e]at h;cases h
   |some v=>rw[e]at h;rw[QR.mp h];exact List.mem_of_getLast? e
 rw[if_neg h3]at h;exact h
theorem wB {n:Nat}:∀{ds:List Dat},okDs ds=true->Ry (toPys ds)<=n->∀d∈ds,sD n d
 |[],_,_,d,hd=>by cases hd
 |x::r,h,hd,d,hm=>by
  obtain⟨h1,h2⟩:=Gt.mp (show(okD x&&okDs r)=true from h)
  have hd:max (eS x).depth (Ry (toPys r))<=n:=hd
  rcases QG.mp hm with rfl|hm
  ·exact⟨h1,by omega⟩
  ·exact wB h2 (by omega) d hm
def hG {n:Nat}{ds:List Dat}(h:sD (n+1) (.tup ds)):∀d∈ds,sD n d:=wB h.1 (by have h2:Ry (toPys ds)+1<=n+1:=h.2;omega)
def fM {n:Nat}{w:Str}{ds:List Dat}(h:sD (n+1) (.tup ds)):sD (n+1) (.tup (bY w ds)):=cx fun d hd=>hG h d (zm hd)
def iK {w:Str}{ds:List Dat}:ft w "growth" (.tup ds)=.tup (bY w ds):=by unfold ft;exact if_pos rfl
def iJ {w:Str}{d:Dat}{ks:List Dat}:ft w "placed" (.tup [d,.tup ks])=.tup [d,.tup (bY w ks)]:=by
 unfold ft
 dsimp only
 rw[if_neg (by decide),if_pos rfl]
def iU {w:Str}{s:Dat}{ms:List Dat}:ft w "full" (.tup [.tup ms,s])=.tup [.tup (bY w ms),s]:=by
 unfold ft
 dsimp only
 rw[if_neg (by decide),if_neg (by decide)]
def iR {w:Str}{s:Dat}{ms:List Dat}:ft w "stretch" (.tup [.tup ms,s])=.tup [.tup (bY w ms),s]:=by
 unfold ft
 dsimp only
 rw[if_neg (by decide),if_neg (by decide)]
section
variable {H H':Hp}{x f b y:Addr}{g g':gOp}{n m B:Nat}{a:HA}{t:Kn Str}{ts:List (Kn Str)}{ys:List Addr}{w:Str}
def CrA.k2 (c:CrA A H y x w)(h:HoS A H x f b g n B a t ts ys)(k:aW b a.D H H'):CrA A H' y x w:=by
 obtain⟨dx,hy⟩:=c
 obtain⟨es,kvs,r,_⟩:=h.hs.ro
 exact⟨dx,k _ _ (h.s.nb hy fun _ z=>nomatch z) (bw hy r.hd fun z=>nomatch z) hy⟩
def AnV.same {q:Str}{ds:List Dat}{d:Dat}(h:AnV B ts a g H q ds d)(S:au H H'):AnV B ts a g H' q ds d:=by
 cases h with
 |gr hD v kl=>exact .gr (S _ _ hD) v kl
 |pl hD hL hy v kl=>exact .pl (S _ _ hD) (S _ _ hL) hy v kl
 |fu hD v kl ht hs=>exact .fu (S _ _ hD) v kl ht hs
 |st hD v kl ht hs=>exact .st (S _ _ hD) v kl ht hs
end
def gq {w:Str}{i:Nat}:∃j:Nat,eR w (i:Int)=(j:Int)/\j<=i:=by
 unfold eR
 by_cases h:w="old"/\0<(i:Int)
 ·rw[if_pos h];exact⟨i- 1,by omega,by omega⟩
 ·rw[if_neg h];exact⟨i,rfl,gV _⟩
def wz {n:Nat}{d e:Dat}(h:mw n d e=true):∃c i:Nat,d=.int (c:Int)/\e=.int (i:Int)/\i<=c/\c<=n/\c<2^60:=by
 obtain⟨h1,h2⟩:=Gt.mp h
 obtain⟨c,i,rfl,rfl,h3,h4⟩:=kM h1
 have h2:(c:Int)<=(n:Int):=of_decide_eq_true h2
 exact⟨c,i,rfl,rfl,h3,by omega,h4⟩
def iF {n:Nat}{d e:Dat}(h:eQ n d e=true):∃c i:Nat,d=.int (c:Int)/\e=.int (i:Int)/\i<c/\c<=n/\c<2^60:=by
 obtain⟨h1,h2⟩:=Gt.mp h
 obtain⟨c,i,rfl,rfl,h3,h4⟩:=io h1
 have h2:(c:Int)<=(n:Int):=of_decide_eq_true h2
 exact⟨c,i,rfl,rfl,h3,by omega,h4⟩
def BW {n c i:Nat}(h1:i<=c)(h2:c<=n)(h3:c<2^60):mw n (.int (c:Int)) (.int (i:Int))=true:=by
 unfold mw
 rw[sC h1 h3]
 exact decide_eq_true (show(c:Int)<=(n:Int)by omega)
def ly {n c i:Nat}(h1:i<c)(h2:c<=n)(h3:c<2^60):eQ n (.int (c:Int)) (.int (i:Int))=true:=by
 unfold eQ
 rw[zj h1 h3]
 exact decide_eq_true (show(c:Int)<=(n:Int)by omega)
def jq {n:Nat}{q:Str}:∀vs H Q E,sS A n q vs H Q E->vs.length=n+1:=by
 rintro vs H Q E ⟨y,x,f,b,w,g,N,B,a,t,ts,ys,us,ds,rfl,h,_⟩
 rw[RE,h]
def My (K:cW)(A:Adr):∀vs H Q E,uZ K A vs H Q E->vs.length=3:=jq
def Ht (K:cW)(A:Adr):∀vs H Q E,qJ K A vs H Q E->vs.length=3:=jq
def MB (K:cW)(A:Adr):∀vs H Q E,vE K A vs H Q E->vs.length=4:=jq
def FZ (K:cW)(A:Adr):∀vs H Q E,qK K A vs H Q E->vs.length=5:=jq
def Py (T:Txt K mg A):Rd (uZ K A) (T_8 K A) ["self","count","elder"]:=by
 intro vs H Q E h
 obtain⟨y,x,f,b,w,g,n,B,a,t,ts,ys,us,ds,rfl,hl,cr,h,hn,dws,q⟩:=h
 obtain⟨v1,v2,rfl⟩:=nK hl
 cases dws with
 |cons w1 dws=>
 cases dws with
 |cons w2 dws=>
 cases dws with
 |nil=>
 rename_i d e
 obtain⟨dx,hy⟩:=id cr
 obtain⟨dh,hx⟩:=h.hs.ob
 refine⟨y,dx,_,rfl,hy,rfl,y,_,dx,_,_,rfl,hy,T.cl_Crook,T.na_Crook_house,rfl,x,dh,_,rfl,hx,rfl,x,f,b,g,n,B,a,t,ts,ys,[v1,v2],[d,e],rfl,rfl,h,by omega,.cons w1 (.cons w2 .nil),fun u g1 H1 k1 h1 sub1 cu1 an=>?_⟩
 have cr1:=cr.k2 h k1
 unfold CrR at q
 rw[okG]at an q
 cases ok:mw ts.length d e with
 |false=>
  rw[ok]at an q
  cases an.1 rfl
  exact⟨y,x,w,_,true,rfl,cr1,.inl ⟨rfl,rfl⟩,Sel.yes rfl (q .non g1 H1 k1 (h1.same au.rfl' (by omega)) sub1 cu1 ⟨fun _=>rfl,nofun⟩)⟩
 |true=>
  rw[ok]at an q
  obtain⟨p,_,rfl,_⟩:=an.2 rfl
  refine⟨y,x,w,_,false,rfl,cr1,.inr ⟨rfl,p,rfl⟩,?_⟩
  by_cases hw:w="hush"
  ·rw[decide_eq_true hw]at q⊢
   exact Sel.yes rfl (q .non g1 H1 k1 (h1.same au.rfl' (by omega)) sub1 cu1 ⟨fun _=>rfl,nofun⟩)
  rw[decide_eq_false hw]at q⊢
  obtain⟨c,i,rfl,rfl,ic,cn,c60⟩:=wz ok
  cases w1.int_inv
  cases w2.int_inv
  obtain⟨j,ej,ji⟩:=gq (w:=w) (i:=i)
  obtain⟨dx1,hy1⟩:=id cr1
  obtain⟨dh1,hx1⟩:=h1.hs.ob
  refine Sel.no rfl ⟨y,dx1,_,rfl,hy1,rfl,y,_,dx1,_,_,rfl,hy1,T.cl_Crook,T.na_Crook_house,rfl,x,dh1,_,rfl,hx1,rfl,y,dx1,_,rfl,hy1,rfl,y,x,w,_,rfl,cr1,x,f,b,g1,n+200,B,a,t,ts,ys,_,[.int (c:Int),.int (j:Int)],rfl,rfl,h1,by omega,.cons (.int _) (.cons (by rw[ej];exact .int _) .nil),fun u g2 H2 k2 h2 sub2 cu2 an2=>?_⟩
  rw[okG]at an2
  obtain⟨p2,d2,rfl,dW,sd,av⟩:=an2.2 (BW (by omega) cn c60)
  have av':=av
  generalize ([Dat.int (c:Int),Dat.int (j:Int)]:List Dat)=qs at av'
  cases av' with
  |gr hD v kl=>
  cases dW with
  |tup hp2 dws2=>
   rename_i ks xs
   have lx:xs.length<=100:=by rw[dws2.len,QC];omega
   refine⟨y,x,p2,w,xs,rfl,cr1.k2 h1 k2,hp2,lx,fun p3 H3 S3 hp3=>?_⟩
   refine q (.ref p3) g2 H3 ((k1.trans k2).trans (aW.same S3)) (h2.same S3 (by omega)) (sub1.trans sub2) ((cu1.trans cu2).trans (bi.same S3)) ⟨nofun,fun _=>⟨p3,.tup (ks.map bA),rfl,?_,?_,?_⟩⟩
   ·rw[iK];exact .tup hp3 (dws2.bent.mono S3)
   ·rw[iK];exact fM sd
   ·show AnV B ts a g2 H3 "growth" [.int (c:Int),.int (eR w (i:Int))] _
    rw[ej];exact av.same S3
def KN (T:Txt K mg A):Rd (qJ K A) (PR K A) ["self","count","place","paper"]:=by
 intro vs H Q E h
 obtain⟨y,x,f,b,w,g,n,B,a,t,ts,ys,us,ds,rfl,hl,cr,h,hn,dws,q⟩:=h
 obtain⟨v1,v2,rfl⟩:=nK hl
 cases dws with
 |cons w1 dws=>
 cases dws with
 |cons w2 dws=>
 cases dws with
 |nil=>
 rename_i d e
 obtain⟨dx,hy⟩:=id cr
 obtain⟨dh,hx⟩:=h.hs.ob
 refine⟨y,dx,_,rfl,hy,rfl,y,_,dx,_,_,rfl,hy,T.cl_Crook,T.na_Crook_house,rfl,x,dh,_,rfl,hx,rfl,x,f,b,g,n,B,a,t,ts,ys,[v1,v2],[d,e],rfl,rfl,h,by omega,.cons w1 (.cons w2 .nil),fun u g1 H1 k1 h1 sub1 cu1 an=>?_⟩
 have cr1:=cr.k2 h k1
 unfold CrR at q
 rw[lW]at an q
 cases ok:eQ ts.length d e with
 |false=>
  rw[ok]at an q
  cases an.1 rfl
  exact⟨y,x,w,_,true,rfl,cr1,.inl ⟨rfl,rfl⟩,Sel.yes rfl (q .non g1 H1 k1 (h1.same au.rfl' (by omega)) sub1 cu1 ⟨fun _=>rfl,nofun⟩)⟩
 |true=>
  rw[ok]at an q
  obtain⟨p,_,rfl,_⟩:=an.2 rfl
  refine⟨y,x,w,_,false,rfl,cr1,.inr ⟨rfl,p,rfl⟩,?_⟩
  by_cases hw:w="hush"
  ·rw[decide_eq_true hw]at q⊢
   exact Sel.yes rfl (q .non g1 H1 k1 (h1.same au.rfl' (by omega)) sub1 cu1 ⟨fun _=>rfl,nofun⟩)
  rw[decide_eq_false hw]at q⊢
  obtain⟨c,i,rfl,rfl,ic,cn,c60⟩:=iF ok
  cases w1.int_inv
  cases w2.int_inv
  obtain⟨j,ej,ji⟩:=gq (w:=w) (i:=i)
  obtain⟨dx1,hy1⟩:=id cr1
  obtain⟨dh1,hx1⟩:=h1.hs.ob
  refine Sel.no rfl ⟨y,_,dx1,_,_,rfl,hy1,T.cl_Crook,T.na_Crook_house,rfl,x,dh1,_,rfl,hx1,rfl,y,dx1,_,rfl,hy1,rfl,y,x,w,_,rfl,cr1,x,f,b,g1,n+200,B,a,t,ts,ys,_,[.int (c:Int),.int (j:Int)],rfl,rfl,h1,by omega,.cons (.int _) (.cons (by rw[ej];exact .int _) .nil),fun u g2 H2 k2 h2 sub2 cu2 an2=>?_⟩
  rw[lW]at an2
  obtain⟨p2,d2,rfl,dW,sd,av⟩:=an2.2 (ly (by omega) cn c60)
  have av':=av
  generalize ([Dat.int (c:Int),Dat.int (j:Int)]:List Dat)=qs at av'
  cases av' with
  |pl hD hL hy2 v kl=>
  cases dW with
  |tup hp2 dws2=>
  cases dws2 with
  |cons z1 dws2=>
  cases dws2 with
  |cons z2 dws2=>
  cases dws2 with
  |nil=>
  cases z2 with
  |tup hT zks=>
   rename_i ks es yy x1 T' xs
   have lx:xs.length<=100:=by rw[zks.len,QC];omega
   refine ixT (j:=0) hp2 rfl rfl ?_
   obtain⟨dx2,hy3⟩:=cr1.k2 h1 k2
   refine⟨y,dx2,_,rfl,hy3,rfl,ixT (j:=1) hp2 rfl rfl ⟨y,x,T',w,xs,rfl,cr1.k2 h1 k2,hT,lx,fun p3 H3 S3 hp3=>⟨aO (show 2<=1000000 by decide),fun p4 hp4=>?_⟩⟩⟩
   have S4:=S3.trans (au.upd (o:=.tup [x1,.ref p3]) hp4)
   refine q (.ref p4) g2 _ ((k1.trans k2).trans (aW.same S4)) (h2.same S4 (by omega)) (sub1.trans sub2) ((cu1.trans cu2).trans (bi.same S4)) ⟨nofun,fun _=>⟨p4,.tup [bA yy,.tup (ks.map bA)],rfl,?_,?_,?_⟩⟩
   ·rw[iJ];exact .tup ag (.cons (z1.mono S4) (.cons (.tup (au.upd hp4 _ _ hp3) (zks.bent.mono S4)) .nil))
   ·rw[iJ]
    have m:=hG (n:=63) sd
    exact cx (n:=63) (aZ (m _ (by simp)) (aZ (fM (n:=62) (m _ (by simp))) cL))
   ·show AnV B ts a g2 _ "placed" [.int (c:Int),.int (eR w (i:Int))] _
    rw[ej];exact av.same S4
def okF {B n:Nat}{d e k:Dat}:dR "full" B n [d,e,k]=(eQ n d e&&cC (B:Int) k):=by unfold dR;exact rfl
def okS {B n:Nat}{d e k l:Dat}:dR "stretch" B n [d,e,k,l]=(eQ n d e&&dZ (B:Int) k l):=by unfold dR;exact rfl
def OO (k:Nat):k^^^1=if k%2=0 then k+1 else k- 1:=by
 have h1:(k^^^1)/2=k/2:=by rw[XB];exact Nat.xor_zero _
 have h2:(k^^^1)%2=1↔¬(k%2=1↔1%2=1):=Nat.xor_mod_two_eq_one
 have h3:(k^^^1)%2=1↔k%2=0:=by rw[h2];omega
 split<;>omega
def rX {w:Str}{k B:Nat}(B1:1<=B)(h:k<2^B):∃m:Nat,(if w="near" then(if (k:Int)%2=0 then(k:Int)+1 else(k:Int)- 1)else(k:Int))=(m:Int)/\m<2^B/\m=(if w="near" then k^^^1 else k):=by
 obtain⟨c,rfl⟩:∃c,B=c+1:=⟨B- 1,by omega⟩
 have p2:2^(c+1)=2*2^c:=by rw[Uv,Nat.mul_comm]
 by_cases hw:w="near"
 ·rw[if_pos hw,if_pos hw,OO]
  by_cases e:k%2=0
  ·rw[if_pos e,if_pos (by omega)];exact⟨k+1,by omega,by omega,rfl⟩
  ·rw[if_neg e,if_neg (by omega)];exact⟨k- 1,by omega,by omega,rfl⟩
 ·rw[if_neg hw,if_neg hw];exact⟨k,rfl,h,rfl⟩
def NL (T:Txt K mg A):Rd (vE K A) (T_7 K A) ["self","count","place","key","paper"]:=by
 intro vs H Q E h
 obtain⟨y,x,f,b,w,g,n,B,a,t,ts,ys,us,ds,rfl,hl,cr,h,hn,dws,q⟩:=h
 obtain⟨v1,v2,v3,rfl⟩:=L2.qg hl
 cases dws with
 |cons w1 dws=>
 cases dws with
 |cons w2 dws=>
 cases dws with
 |cons w3 dws=>
 cases dws with
 |nil=>
 rename_i d e dk
 obtain⟨dx,hy⟩:=id cr
 obtain⟨dh,hx⟩:=h.hs.ob
 refine⟨y,dx,_,rfl,hy,rfl,y,_,dx,_,_,rfl,hy,T.cl_Crook,T.na_Crook_house,rfl,x,dh,_,rfl,hx,rfl,x,f,b,g,n,B,a,t,ts,ys,[v1,v2,v3],[d,e,dk],rfl,rfl,h,by omega,.cons w1 (.cons w2 (.cons w3 .nil)),fun u g1 H1 k1 h1 sub1 cu1 an=>?_⟩
 have cr1:=cr.k2 h k1
 unfold CrR at q
 rw[okF]at an q
 cases ok:(eQ ts.length d e&&cC (B:Int) dk)with
 |false=>
  rw[ok]at an q
  cases an.1 rfl
  exact⟨y,x,w,_,true,rfl,cr1,.inl ⟨rfl,rfl⟩,Sel.yes rfl (q .non g1 H1 k1 (h1.same au.rfl' (by omega)) sub1 cu1 ⟨fun _=>rfl,nofun⟩)⟩
 |true=>
  rw[ok]at an q
  obtain⟨p,_,rfl,_⟩:=an.2 rfl
  refine⟨y,x,w,_,false,rfl,cr1,.inr ⟨rfl,p,rfl⟩,?_⟩
  by_cases hw:w="hush"
  ·rw[decide_eq_true hw]at q⊢
   exact Sel.yes rfl (q .non g1 H1 k1 (h1.same au.rfl' (by omega)) sub1 cu1 ⟨fun _=>rfl,nofun⟩)
  rw[decide_eq_false hw]at q⊢
  obtain⟨ok1,ok2⟩:=Gt.mp ok
  obtain⟨c,i,rfl,rfl,ic,cn,c60⟩:=iF ok1
  obtain⟨key,rfl,hk⟩:=gJ ok2
  cases w3.int_inv
  obtain⟨mt,ta⟩:=h1.hs.ta
  obtain⟨nk,enk,hnk,enk2⟩:=rX (w:=w) ta.B1 hk
  cases w1.int_inv
  cases w2.int_inv
  obtain⟨j,ej,ji⟩:=gq (w:=w) (i:=i)
  obtain⟨dx1,hy1⟩:=id cr1
  obtain⟨dh1,hx1⟩:=h1.hs.ob
  have goal:∀vk:V,vk=.int (nk:Int)->ju K A [.ref x,.int (c:Int),.int (eR w (i:Int)),vk] H1 (fun u H2=>CI K A {nx:=fun _ H'=>Q .non H',rt:=Q} [some (.ref y),some (.int (c:Int)),some (.int (i:Int)),some (.int (key:Int)),some u] H2) E0:=by
   intro vk evk
   subst evk
   refine⟨x,f,b,g1,n+200,B,a,t,ts,ys,_,[.int (c:Int),.int (j:Int),.int (nk:Int)],rfl,rfl,h1,by omega,.cons (.int _) (.cons (by rw[ej];exact .int _) (.cons (.int _) .nil)),fun u g2 H2 k2 h2 sub2 cu2 an2=>?_⟩
   rw[okF]at an2
   obtain⟨p2,d2,rfl,dW,sd,av⟩:=an2.2 (by rw[ly (by omega) cn c60,iD hnk];rfl)
   have av':=av
   generalize ([Dat.int (c:Int),Dat.int (j:Int),Dat.int (nk:Int)]:List Dat)=qs at av'
   cases av' with
   |fu hD v kl ht hs=>
   cases dW with
   |tup hp2 dws2=>
   cases dws2 with
   |cons z1 dws2=>
   cases dws2 with
   |cons z2 dws2=>
   cases dws2 with
   |nil=>
   cases z1 with
   |tup hT zks=>
    rename_i ks t' s x2 T' xs
    have lx:xs.length<=100:=by rw[zks.len,QC];omega
    obtain⟨dx2,hy3⟩:=cr1.k2 h1 k2
    refine⟨y,dx2,_,rfl,hy3,rfl,ixT (j:=0) hp2 rfl rfl ⟨y,x,T',w,xs,rfl,cr1.k2 h1 k2,hT,lx,fun p3 H3 S3 hp3=>ixT (j:=1) (S3 _ _ hp2) rfl rfl ⟨aO (show 2<=1000000 by decide),fun p4 hp4=>?_⟩⟩⟩
    have S4:=S3.trans (au.upd (o:=.tup [.ref p3,x2]) hp4)
    refine q (.ref p4) g2 _ ((k1.trans k2).trans (aW.same S4)) (h2.same S4 (by omega)) (sub1.trans sub2) ((cu1.trans cu2).trans (bi.same S4)) ⟨nofun,fun _=>⟨p4,.tup [.tup (ks.map bA),s],rfl,?_,?_,?_⟩⟩
    ·rw[iU];exact .tup ag (.cons (.tup (au.upd hp4 _ _ hp3) (zks.bent.mono S4)) (.cons (z2.mono S4) .nil))
    ·rw[iU]
     have m:=hG (n:=63) sd
     exact cx (n:=63) (aZ (fM (n:=62) (m _ (by simp))) (aZ (m _ (by simp)) cL))
    ·show AnV B ts a g2 _ "full" [.int (c:Int),.int (eR w (i:Int)),.int (if w="near" then(if (key:Int)%2=0 then(key:Int)+1 else(key:Int)- 1)else(key:Int))] _
     rw[ej,enk];exact av.same S4
  refine Sel.no rfl ⟨y,_,dx1,_,_,rfl,hy1,T.cl_Crook,T.na_Crook_house,rfl,x,dh1,_,rfl,hx1,rfl,y,dx1,_,rfl,hy1,rfl,y,x,w,_,rfl,cr1,y,_,dx1,_,_,rfl,hy1,T.cl_Crook,T.na_Crook_way,rfl,Sel.dec (fun hn=>?_) (fun hn=>?_)⟩
  ·have hn:w="near":=hn
   rw[if_pos hn]at enk2
   have e:SQ (key:Int) 1=(nk:Int):=by rw[show(1:Int)=((1:Nat):Int)from rfl,iV,enk2]
   exact goal _ (by rw[<-e])
  ·rw[if_neg hn]at enk2
   exact goal _ (by rw[enk2])
def zg {w q:Str}{d k l:Dat}{e:Int}:oK w q [d,.int e,k,l]=[d,.int (eR w e),k,l]:=by cases k<;>rfl
def LB (T:Txt K mg A):Rd (qK K A) (Oh K A) ["self","count","place","low","high","paper"]:=by
 intro vs H Q E h
 obtain⟨y,x,f,b,w,g,n,B,a,t,ts,ys,us,ds,rfl,hl,cr,h,hn,dws,q⟩:=h
 obtain⟨v1,v2,v3,v4,rfl⟩:=L2.pX hl
 cases dws with
 |cons w1 dws=>
 cases dws with
 |cons w2 dws=>
 cases dws with
 |cons w3 dws=>
 cases dws with
 |cons w4 dws=>
 cases dws with
 |nil=>
 rename_i d e dk dl
 obtain⟨dx,hy⟩:=id cr
 obtain⟨dh,hx⟩:=h.hs.ob
 refine⟨y,dx,_,rfl,hy,rfl,y,_,dx,_,_,rfl,hy,T.cl_Crook,T.na_Crook_house,rfl,x,dh,_,rfl,hx,rfl,x,f,b,g,n,B,a,t,ts,ys,[v1,v2,v3,v4],[d,e,dk,dl],rfl,rfl,h,by omega,.cons w1 (.cons w2 (.cons w3 (.cons w4 .nil))),fun u g1 H1 k1 h1 sub1 cu1 an=>?_⟩
 have cr1:=cr.k2 h k1
 unfold CrR at q
 rw[okS]at an q
 cases ok:(eQ ts.length d e&&dZ (B:Int) dk dl)with
 |false=>
  rw[ok]at an q
  cases an.1 rfl
  exact⟨y,x,w,_,true,rfl,cr1,.inl ⟨rfl,rfl⟩,Sel.yes rfl (q .non g1 H1 k1 (h1.same au.rfl' (by omega)) sub1 cu1 ⟨fun _=>rfl,nofun⟩)⟩
 |true=>
  rw[ok]at an q
  obtain⟨p,_,rfl,_⟩:=an.2 rfl
  refine⟨y,x,w,_,false,rfl,cr1,.inr ⟨rfl,p,rfl⟩,?_⟩
  by_cases hw:w="hush"
  ·rw[decide_eq_true hw]at q⊢
   exact Sel.yes rfl (q .non g1 H1 k1 (h1.same au.rfl' (by omega)) sub1 cu1 ⟨fun _=>rfl,nofun⟩)
  rw[decide_eq_false hw]at q⊢
  obtain⟨ok1,ok2⟩:=Gt.mp ok
  obtain⟨c,i,rfl,rfl,ic,cn,c60⟩:=iF ok1
  have kd:=h.dat k1
  cases w1.int_inv
  cases w2.int_inv
  obtain⟨j,ej,ji⟩:=gq (w:=w) (i:=i)
  obtain⟨dx1,hy1⟩:=id cr1
  obtain⟨dh1,hx1⟩:=h1.hs.ob
  refine Sel.no rfl ⟨y,_,dx1,_,_,rfl,hy1,T.cl_Crook,T.na_Crook_house,rfl,x,dh1,_,rfl,hx1,rfl,y,dx1,_,rfl,hy1,rfl,y,x,w,_,rfl,cr1,x,f,b,g1,n+200,B,a,t,ts,ys,_,[.int (c:Int),.int (j:Int),dk,dl],rfl,rfl,h1,by omega,.cons (.int _) (.cons (by rw[ej];exact .int _) (.cons (w3.keep kd) (.cons (w4.keep kd) .nil))),fun u g2 H2 k2 h2 sub2 cu2 an2=>?_⟩
  rw[okS]at an2
  obtain⟨p2,d2,rfl,dW,sd,av⟩:=an2.2 (by rw[ly (by omega) cn c60,ok2];rfl)
  have av':=av
  generalize ([Dat.int (c:Int),Dat.int (j:Int),dk,dl]:List Dat)=qs at av'
  cases av' with
  |st hD v kl ht hs=>
  cases dW with
  |tup hp2 dws2=>
  cases dws2 with
  |cons z1 dws2=>
  cases dws2 with
  |cons z2 dws2=>
  cases dws2 with
  |nil=>
  cases z1 with
  |tup hT zks=>
   rename_i ks t' s x2 T' xs
   have lx:xs.length<=100:=by rw[zks.len,QC];omega
   obtain⟨dx2,hy3⟩:=cr1.k2 h1 k2
   refine⟨y,dx2,_,rfl,hy3,rfl,ixT (j:=0) hp2 rfl rfl ⟨y,x,T',w,xs,rfl,cr1.k2 h1 k2,hT,lx,fun p3 H3 S3 hp3=>ixT (j:=1) (S3 _ _ hp2) rfl rfl ⟨aO (show 2<=1000000 by decide),fun p4 hp4=>?_⟩⟩⟩
   have S4:=S3.trans (au.upd (o:=.tup [.ref p3,x2]) hp4)
   refine q (.ref p4) g2 _ ((k1.trans k2).trans (aW.same S4)) (h2.same S4 (by omega)) (sub1.trans sub2) ((cu1.trans cu2).trans (bi.same S4)) ⟨nofun,fun _=>⟨p4,.tup [.tup (ks.map bA),s],rfl,?_,?_,?_⟩⟩
   ·rw[iR];exact .tup ag (.cons (.tup (au.upd hp4 _ _ hp3) (zks.bent.mono S4)) (.cons (z2.mono S4) .nil))
   ·rw[iR]
    have m:=hG (n:=63) sd
    exact cx (n:=63) (aZ (fM (n:=62) (m _ (by simp))) (aZ (m _ (by simp)) cL))
   ·rw[zg,ej];exact av.same S4
def HY (K:cW)(A:Adr):Ln (lr K A) 2:=by rintro vs H Q E ⟨l,q,w,us,rfl,_⟩;rfl
def Kx (T:Txt K mg A):Rd (lr K A) (OB K A) ["_law_line","_law_question_here","_law_word_here"]:=by
 intro vs H Q E h
 obtain⟨l,q,w,us,rfl,hq,qu,cs⟩:=h
 refine ixL (j:=0) hq rfl rfl ?_
 cases qu with
 |gr a b=>
  refine Sel.yes (by decide) ?_
  rcases cs with⟨f,b',g,n,B,ad,t,ts,ys,ds,h,hn,dw,an⟩|⟨x,f,b',ww,g,n,B,ad,t,ts,ys,ds,⟨dx,hc⟩,h,hn,dw,an⟩
  ·obtain⟨dx,hx⟩:=h.hs.ob
   exact⟨l,_,dx,_,_,rfl,hx,.head _,rfl,ixL (j:=1) hq rfl rfl (ixL (j:=2) hq rfl rfl ⟨l,f,b',g,n,B,ad,t,ts,ys,_,ds,rfl,rfl,h,hn,dw,an⟩)⟩
  ·exact⟨l,_,dx,_,_,rfl,hc,.tail _ (.head _),rfl,ixL (j:=1) hq rfl rfl (ixL (j:=2) hq rfl rfl ⟨l,x,f,b',ww,g,n,B,ad,t,ts,ys,_,ds,rfl,rfl,⟨dx,hc⟩,h,hn,dw,an⟩)⟩
 |pl a b=>
  refine Sel.no (by decide) (Sel.yes (by decide) ?_)
  rcases cs with⟨f,b',g,n,B,ad,t,ts,ys,ds,h,hn,dw,an⟩|⟨x,f,b',ww,g,n,B,ad,t,ts,ys,ds,⟨dx,hc⟩,h,hn,dw,an⟩
  ·obtain⟨dx,hx⟩:=h.hs.ob
   exact⟨l,_,dx,_,_,rfl,hx,.head _,rfl,ixL (j:=1) hq rfl rfl (ixL (j:=2) hq rfl rfl ⟨l,f,b',g,n,B,ad,t,ts,ys,_,ds,rfl,rfl,h,hn,dw,an⟩)⟩
  ·exact⟨l,_,dx,_,_,rfl,hc,.tail _ (.head _),rfl,ixL (j:=1) hq rfl rfl (ixL (j:=2) hq rfl rfl ⟨l,x,f,b',ww,g,n,B,ad,t,ts,ys,_,ds,rfl,rfl,⟨dx,hc⟩,h,hn,dw,an⟩)⟩
 |fu a b k=>
  refine Sel.no (by decide) (Sel.no (by decide) (Sel.yes (by decide) ?_))
  rcases cs with⟨f,b',g,n,B,ad,t,ts,ys,ds,h,hn,dw,an⟩|⟨x,f,b',ww,g,n,B,ad,t,ts,ys,ds,⟨dx,hc⟩,h,hn,dw,an⟩
  ·obtain⟨dx,hx⟩:=h.hs.ob
   exact⟨l,_,dx,_,_,rfl,hx,.head _,rfl,ixL (j:=1) hq rfl rfl (ixL (j:=2) hq rfl rfl (ixL (j:=3) hq rfl rfl ⟨l,f,b',g,n,B,ad,t,ts,ys,_,ds,rfl,rfl,h,hn,dw,an⟩))⟩
  ·exact⟨l,_,dx,_,_,rfl,hc,.tail _ (.head _),rfl,ixL (j:=1) hq rfl rfl (ixL (j:=2) hq rfl rfl (ixL (j:=3) hq rfl rfl ⟨l,x,f,b',ww,g,n,B,ad,t,ts,ys,_,ds,rfl,rfl,⟨dx,hc⟩,h,hn,dw,an⟩))⟩
 |st a b k k2=>
  refine Sel.no (by decide) (Sel.no (by decide) (Sel.no (by decide) ?_))
  rcases cs with⟨f,b',g,n,B,ad,t,ts,ys,ds,h,hn,dw,an⟩|⟨x,f,b',ww,g,n,B,ad,t,ts,ys,ds,⟨dx,hc⟩,h,hn,dw,an⟩
  ·obtain⟨dx,hx⟩:=h.hs.ob
   exact⟨l,_,dx,_,_,rfl,hx,.head _,rfl,ixL (j:=1) hq rfl rfl (ixL (j:=2) hq rfl rfl (ixL (j:=3) hq rfl rfl (ixL (j:=4) hq rfl rfl ⟨l,f,b',g,n,B,ad,t,ts,ys,_,ds,rfl,rfl,h,hn,dw,an⟩)))⟩
  ·exact⟨l,_,dx,_,_,rfl,hc,.tail _ (.head _),rfl,ixL (j:=1) hq rfl rfl (ixL (j:=2) hq rfl rfl (ixL (j:=3) hq rfl rfl (ixL (j:=4) hq rfl rfl ⟨l,x,f,b',ww,g,n,B,ad,t,ts,ys,_,ds,rfl,rfl,⟨dx,hc⟩,h,hn,dw,an⟩)))⟩
def sg:Str:="abcdefghijklmnopqrstuvwxyz ABC0123;:"
def Ep:sg.length=36/\sg.cps.toList.length=36/\sg.cps.toList.all (·<128)=true:=by decide+kernel
def EX (K:cW)(A:Adr):Ln (lz K A) 1:=by rintro vs H Q E ⟨c,rfl,_⟩;rfl
def Kk (T:Txt K mg A):Rd (lz K A) (NG K A) ["_law_number","_law_letters","_law_size"]:=by
 intro vs H Q E h
 obtain⟨c,rfl,q⟩:=h
 obtain⟨g1,g2,g3⟩:=Ep
 refine⟨aO (show 4<=1000000 by decide),fun p hp=>⟨by decide,uG ag (by omega) (by show c%4<((4:Nat):Int);omega) fun v hv=>?_⟩⟩
 have S1:=au.upd (o:=.lst [V.int 0,.int 1,.int 2,.int 5]) hp
 generalize upd H p (.lst [V.int 0,.int 1,.int 2,.int 5])=H1 at*
 obtain⟨i,rfl,i0,i5⟩:∃i:Int,v=.int i/\0<=i/\i<=5:=by
  simp only[QG,Rc,or_false]at hv
  rcases hv with rfl|rfl|rfl|rfl
  ·exact⟨_,rfl,by decide,by decide⟩
  ·exact⟨_,rfl,by decide,by decide⟩
  ·exact⟨_,rfl,by decide,by decide⟩
  ·exact⟨_,rfl,by decide,by decide⟩
 have wb:∀b:Bool,0<=(if b then(1:Int)else 0)/\(if b then(1:Int)else 0)<=1:=fun b=>by cases b<;>decide
 refine⟨⟨by decide,by decide⟩,by decide,?_⟩
 obtain⟨w0,w1⟩:=wb (decide (c/4%16=9))
 refine⟨sx w0 (by omega),?_⟩
 show wj K A _ [some (.int c),some (.str sg),some (.int (i+55*(if decide (c/4%16=9)=true then(1:Int)else 0)))] H1
 generalize (if decide (c/4%16=9)=true then(1:Int)else 0)=w at*
 obtain⟨n,hn⟩:∃n:Nat,i+55*w=(n:Int):=⟨(i+55*w).toNat,by omega⟩
 rw[hn]
 have n60:n<=60:=by omega
 refine⟨rfl,(n:Int),rfl,by omega,by omega,?_⟩
 rw[Tq]
 intro D hD
 refine kZ (fO.range (lo:=0) (n:=n)) (fun i ys H2=>∃zs:List Str,ys=zs.map V.str/\zs.length=i/\(∀z∈zs,z.length=1/\eG z=true)/\H2=upd H1 D (.lst ys)) (fun _ _ _ _ _=>trivial) ⟨[],rfl,rfl,(fun _ h=>nomatch h),rfl⟩ (fun i ys H2 hi ⟨zs,e1,e2,e3,e4⟩=>?_) ?_
 ·subst e4
  refine vQ ⟨⟨by decide,by decide⟩,sx (by omega) (by omega),by decide,?_⟩
  generalize (c/64+_:Int)=w
  obtain⟨cc,hcc⟩:=kE (xs:=sg.cps.toList) (i:=w%36) (by omega) (by rw[g2];omega)
  refine .inl (.inr (.inr ⟨_,_,cc,rfl,rfl,by rw[g1];exact aO (by decide),hcc,?_⟩))
  have hyl:ys.length=i:=by rw[e1,QC,e2]
  refine⟨ag,by rw[hyl];exact cB (by omega),CWd.next hi ⟨zs++[⟨#[cc]⟩],by rw[e1,Rm];rfl,by rw[QP,e2];rfl,fun z hz=>?_,eN⟩⟩
  rcases Rv.mp hz with h|h
  ·exact e3 z h
  ·rw[QR.mp h]
   refine⟨rfl,?_⟩
   obtain⟨j,_,hj,_⟩:=fH hcc
   have:=of_decide_eq_true (So.mp g3 cc (Rp hj))
   unfold eG
   simp
   omega
 ·rintro ys H2 ⟨zs,rfl,e2,e3,rfl⟩
  have hl:(Txt.join "" zs).length=zs.length:=AL zs fun z hz=>(e3 z hz).1
  refine⟨_,_,zs,rfl,rfl,ag,?_,q _ _ (S1.trans (au.upd hD)) ⟨zC fun z hz=>(e3 z hz).2,by rw[hl];omega⟩⟩
  have e0:(("":String):Str).length=0:=by decide
  rw[e0,lV zs fun z hz=>(e3 z hz).1]
  omega
def HL (K:cW)(A:Adr):Ln (qe K A) 2:=by rintro vs H Q E ⟨h,v,d,rfl,_⟩;rfl
def JN (T:Txt K mg A):Rd (qe K A) (NO K A) ["_law_house","_law_way","_law_refused"]:=by
 intro vs H Q E h
 obtain⟨h,v,d,rfl,dv,ok,dp,hw,q⟩:=h
 intro y dy hy hdy ne
 have S:=ci (o:=.own y) (u:=.ins A.c_Crook dy []) hy hdy ne
 refine⟨y,dy,h,v,d,rfl,ag,dv.mono S,ok,dp,fun _=>⟨_,rfl,T.eo_NoWay,true,T.sb_NoWay_NoWay,Sel.t (q _ S)⟩,fun w ew hm=>?_⟩
 subst ew
 have:decide (w∈cU)=false:=hw
 rw[decide_eq_true hm]at this;cases this
def jr {α β:Type}{w:Str}{f:α->β}{l:List α}:bY w (l.map f)=(bY w l).map f:=by
 unfold bY
 by_cases h1:w="cut"
 ·rw[if_pos h1,if_pos h1,WV]
 rw[if_neg h1,if_neg h1]
 by_cases h2:w="turn"
 ·rw[if_pos h2,if_pos h2,List.map_reverse]
 rw[if_neg h2,if_neg h2]
 by_cases h3:w="twice"
 ·rw[if_pos h3,if_pos h3,Rm,List.getLast?_map]
  cases l.getLast?<;>rfl
 rw[if_neg h3,if_neg h3]
def tZ {H:Hp}{Q:VK}{L e:Addr}{ks:List Key}(hL:H L=some (.lst (ks.map kV)))(he:H e=some (.lst []))(ok:okDs (ks.map bA)=true)(q:Q (.bl (!decide (ks=[]))) H):ir K (.ref L) (.ref e) H Q:=by
 have d1:aV H (.ref L) (.lst (ks.map bA)):=.lst hL (fe H ks)
 have d2:aV H (.ref e) (.lst []):=.lst he .nil
 have dp:(eS (.lst (ks.map bA))).depth<=150:=Rl (iC ok).2 (by decide)
 refine⟨_,_,d1.toV ok,d2.toV rfl,dE (d:=.lst (ks.map bA)) ok,dE (d:=.lst []) rfl,dp,?_⟩
 cases ks with
 |nil=>exact q
 |cons k r=>exact q
def HZ (K:cW)(A:Adr):Ln (kQ K A) 2:=by rintro vs H Q E ⟨w,p,ks,rfl,_⟩;rfl
def Kd (T:Txt K mg A):Rd (kQ K A) (Qc K A) ["_law_way","_law_marks_here","_law_some"]:=by
 intro vs H Q E h
 obtain⟨w,p,ks,rfl,hp,lk,ok,q⟩:=h
 refine⟨p,_,rfl,.inr (SqT.of hp),fun L hL=>?_⟩
 have S1:=au.upd (o:=.lst (ks.map kV)) hL
 have hL1:upd H L (.lst (ks.map kV)) L=some (.lst (ks.map kV)):=ag
 have pL:p≠L:=aq hp hL
 generalize upd H L (.lst (ks.map kV))=H1 at S1 hL1
 have hp1:=S1 _ _ hp
 have fin:∀(M:Addr)(H2:Hp)(ms:List Key),au H H2->H2 M=some (.lst (ms.map kV))->ms=bY w ks->xc K A {nx:=fun _ H'=>Q .non H',rt:=Q} [some (.str w),some (.ref p),some (.ref M)] H2:=fun M H2 ms S2 hM e=>by
  subst e
  exact⟨M,_,rfl,.inl ⟨SqL.of hM,fun r hr=>q r _ (S2.trans (au.upd hr)) ag⟩⟩
 have tw:∀(M:Addr)(H2:Hp)(ms:List Key),au H H2->H2 M=some (.lst (ms.map kV))->(w≠"twice"->ms=bY w ks)->(w="twice"->M=L/\ms=ks)->wY K A {nx:=fun _ H'=>Q .non H',rt:=Q} [some (.str w),some (.ref p),some (.ref M)] H2:=fun M H2 ms S2 hM e1 e2=>by
  refine Sel.dec (fun h=>?_) (fun h=>Sel.f (fin M H2 ms S2 hM (e1 h)))
  have h:w="twice":=h
  obtain⟨rfl,rfl⟩:=e2 h
  have eb:bY w ms=ms++ms.getLast?.toList:=by
   unfold bY
   rw[if_neg (by rw[h];decide),if_neg (by rw[h];decide),if_pos h]
  refine⟨QK _,fun e he=>?_⟩
  have S3:=au.upd (o:=.lst []) he
  have hM3:=S3 _ _ hM
  have he3:upd H2 e (.lst []) e=some (.lst []):=ag
  have pM:∀{H0:Hp},au H H0->H0 p=some (.tup (ms.map kV)):=fun S=>S _ _ hp
  generalize upd H2 e (.lst [])=H3 at S3 hM3 he3
  have T3:=S2.trans S3
  refine tZ hM3 he3 ok ?_
  cases hk:ms.getLast? with
  |none=>
   have e0:=TY.mp hk
   rw[decide_eq_true e0]
   exact Sel.f (fin M H3 ms T3 hM3 (by rw[eb,hk];exact(RO _).symm))
  |some v=>
   obtain⟨ys,ey⟩:=TX.mp hk
   rw[decide_eq_false (by rw[ey];simp)]
   refine Sel.t ⟨.inl ⟨rfl,_,SqL.of hM3⟩,nV (qs:=ys.map kV) (p:=kV v) (by rw[hM3,ey,Rm];rfl) ⟨M,_,_,rfl,rfl,hM3,by rw[QC];exact cB (by omega),?_⟩⟩
   refine fin M _ (ms++[v]) (fun z o ez=>?_) (by rw[ag,Rm];rfl) (by rw[eb,hk];rfl)
   rw[ap (aq ez hL)];exact T3 _ _ ez
 have tu:∀(H2:Hp)(ms:List Key),au H H2->H2 L=some (.lst (ms.map kV))->(w="cut"->ms=bY w ks)->(w≠"cut"->ms=ks)->xt K A {nx:=fun _ H'=>Q .non H',rt:=Q} [some (.str w),some (.ref p),some (.ref L)] H2:=fun H2 ms S2 hM e1 e2=>by
  refine Sel.dec (fun h=>?_) (fun h=>?_)
  ·have h:w="turn":=h
   have eb:bY w ks=ks.reverse:=by unfold bY;rw[if_neg (by rw[h];decide),if_pos h]
   have hp2:=S2 _ _ hp
   refine .inl (.inr (.inl ⟨_,SqT.of hp2,((ks.map kV).length:Int),rfl,by omega,by rw[QC];omega,?_⟩))
   rw[Tq,QC]
   intro D hD
   have pD:p≠D:=aq hp2 hD
   refine kZ (fO.range (lo:=0) (n:=ks.length)) (fun i ys H3=>ys=(ks.reverse.take i).map kV/\H3=upd H2 D (.lst ys)) (fun _ _ _ _ _=>trivial) ⟨rfl,rfl⟩ (fun i ys H3 hi ⟨e3,e4⟩=>?_) ?_
   ·subst e4
    have hp3:upd H2 D (.lst ys) p=some (.tup (ks.map kV)):=by rw[ap pD];exact hp2
    obtain⟨k,hk⟩:∃k,ks[ks.length- 1- i]? =some k:=⟨_,QQ (by omega)⟩
    refine vQ (.inl (.inr (.inl ⟨_,SqT.of hp3,ixT (j:=ks.length- 1- i) hp3 (by rw[QC];omega) (by rw[Ro,hk];rfl) ?_⟩)))
    have hyl:ys.length=i:=by rw[e3,QC,SE,UJ];omega
    refine⟨ag,by rw[hyl];exact cB (by omega),CWd.next hi ⟨?_,eN⟩⟩
    rw[e3,WU,Wm hi,hk,Rm];rfl
   ·rintro ys H3 ⟨rfl,rfl⟩
    refine tw D _ ks.reverse (fun z o ez=>?_) (by rw[ag,List.take_of_length_le (by rw[UJ];exact gV _)]) (fun _=>eb.symm) (fun c=>absurd (h.symm.trans c) (by decide))
    rw[ap (aq (S2 _ _ ez) hD)];exact S2 _ _ ez
  ·refine tw L H2 ms S2 hM (fun h3=>?_) (fun h3=>⟨rfl,e2 (by rw[h3];decide)⟩)
   by_cases hc:w="cut"
   ·exact e1 hc
   ·rw[e2 hc];unfold bY;rw[if_neg hc,if_neg h,if_neg h3]
 refine Sel.dec (fun h=>?_) (fun h=>Sel.f (tu H1 ks S1 hL1 (fun e=>absurd e h) (fun _=>rfl)))
 have h:w="cut":=h
 have eb:bY w ks=ks.dropLast:=by unfold bY;rw[if_pos h]
 refine⟨QK _,fun e he=>?_⟩
 have S3:=au.upd (o:=.lst []) he
 have hM3:=S3 _ _ hL1
 have he3:upd H1 e (.lst []) e=some (.lst []):=ag
 generalize upd H1 e (.lst [])=H3 at S3 hM3 he3
 have T3:=S1.trans S3
 refine tZ hM3 he3 ok ?_
 cases hk:ks.getLast? with
 |none=>
  have e0:=TY.mp hk
  rw[decide_eq_true e0]
  exact Sel.f (tu H3 ks T3 hM3 (fun _=>by rw[eb,e0];rfl) (fun c=>absurd h c))
 |some v=>
  obtain⟨ys,ey⟩:=TX.mp hk
  rw[decide_eq_false (by rw[ey];simp)]
  refine Sel.t ⟨.inl ⟨rfl,_,SqL.of hM3⟩,L,_,kV v,rfl,rfl,hM3,by rw[ey];simp,?_⟩
  refine tu _ ks.dropLast (fun z o ez=>?_) (by rw[ag,WV]) (fun _=>eb.symm) (fun c=>absurd h c)
  rw[ap (aq ez hL)];exact T3 _ _ ez
def GrK.uniq {a m e:Nat}{l:List (Nat×Nat)}(h:GrK a m e l):∀{l':List (Nat×Nat)},GrK a m e l'->l=l':=by
 induction h with
 |one h=>
  intro l' h'
  cases h' with
  |one _=>rfl
  |lo n _ _=>exact absurd h n
  |hi n _ _=>exact absurd h n
 |lo h h2 r ih=>
  intro l' h'
  cases h' with
  |one n=>exact absurd n h
  |lo _ _ r'=>rw[ih r']
  |hi _ n _=>exact absurd h2 n
 |hi h h2 r ih=>
  intro l' h'
  cases h' with
  |one n=>exact absurd n h
  |lo _ n _=>exact absurd n h2
  |hi _ _ r'=>rw[ih r']
theorem tB:∀{a b:List Key},a.map some=b.map some->a=b
 |[],[],_=>rfl
 |[],_::_,h=>by cases h
 |_::_,[],h=>by cases h
 |x::a,y::b,h=>by
  have h1:=QZ (Ri h).1
  rw[h1,tB (Ri h).2]
def Vls.uniq {k:List (List Key×Key)}{l:List (Nat×Nat)}{a b:List Key}(h1:Vls k l a)(h2:Vls k l b):a=b:=tB (h1.symm.trans h2)
def Vls.tab {k k':List (List Key×Key)}{l:List (Nat×Nat)}{a:List Key}(h:Vls k l a)(e:∀s,bI k s=bI k' s):Vls k' l a:=h.up fun s v q=>by rw[<-e];exact q
def GrV.uniq {k k':List (List Key×Key)}{c e:Nat}{a b:List Key}(h1:GrV k c e a)(h2:GrV k' c e b)(s:oO k k'):a=b:=by
 rcases h1 with⟨c0,rfl⟩|⟨c1,l,g1,v1⟩
 ·rcases h2 with⟨_,rfl⟩|⟨c1,_⟩
  ·rfl
  ·omega
 ·rcases h2 with⟨c0,_⟩|⟨_,l',g2,v2⟩
  ·omega
  ·rw[<-g1.uniq g2]at v2
   exact(v1.up s).uniq v2
def jD {a c:Nat}(h:Dat.int (a:Int)=.int (c:Int)):a=c:=by have:=Dat.int.inj h;omega
def Ia {es es2:List Key}{p:Nat}{y y2:Key}(e:es.map kV=es2.map kV)(h1:es[p]?=some y)(h2:es2[p]?=some y2):y=y2:=by
 have h3:(es.map kV)[p]?=(es2.map kV)[p]?:=by rw[e]
 rw[Ro,Ro,h1,h2]at h3
 exact mQ (QZ h3)
def AnV.uniq {B:Nat}{ts:List (Kn Str)}{a:HA}{g1 g2:List Key->Option Key}{H1 H2:Hp}{q:Str}{ds:List Dat}{d1 d2:Dat}(h1:AnV B ts a g1 H1 q ds d1)(h2:AnV B ts a g2 H2 q ds d2)(sub:Sub g1 g2)(cu:bi a.D H1 H2)(hl:∀o,H1 a.L=some o->H2 a.L=some o):d1=d2:=by
 have pl:∀{kvs kvs2:List (List Key×Key)}{l:List (Nat×Nat)}{ks ks2:List Key},H1 a.D=some (.dT (bG kvs))->H2 a.D=some (.dT (bG kvs2))->Vls kvs l ks->Vls kvs2 l ks2->ks=ks2:=fun hD hD2 v v2=>by
  obtain⟨k',e',s'⟩:=cu _ hD
  exact((v.up s').tab (mE e' hD2)).uniq v2
 have ex:=Ext.of sub (dB g2)
 generalize hq:ds=ds' at h2
 cases h1 with
 |gr hD v kl=>
  cases h2 with
  |gr hD2 v2 kl2=>
   obtain rfl:=jD (Ri hq).1
   obtain rfl:=jD (Ri (Ri hq).2).1
   obtain⟨k',e',s'⟩:=cu _ hD
   rw[v.uniq v2 fun s x e=>by rw[<-mE e' hD2];exact s' s x e]
 |pl hD hL hy v kl=>
  cases h2 with
  |pl hD2 hL2 hy2 v2 kl2=>
   obtain rfl:=jD (Ri hq).1
   obtain rfl:=jD (Ri (Ri hq).2).1
   rw[pl hD hD2 v v2]
   rw[hl _ hL]at hL2
   rw[Ia (HO.lst.inj (QZ hL2)) hy hy2]
 |fu hD v kl ht hs=>
  cases h2 with
  |fu hD2 v2 kl2 ht2 hs2=>
   obtain rfl:=jD (Ri hq).1
   obtain rfl:=jD (Ri (Ri hq).2).1
   obtain rfl:=jD (Ri (Ri (Ri hq).2).2).1
   rw[ht]at ht2;cases ht2
   rw[pl hD hD2 v v2,hs _ ex,hs2 _ (dB g2)]
 |st hD v kl ht hs=>
  cases h2 with
  |st hD2 v2 kl2 ht2 hs2=>
   obtain rfl:=jD (Ri hq).1
   obtain rfl:=jD (Ri (Ri hq).2).1
   have t3:=(Ri (Ri hq).2).2
   have e3:=Dat.int.inj (Ri t3).1
   have e4:=Dat.int.inj (Ri (Ri t3).2).1
   rw[ht]at ht2;cases ht2
   rw[pl hD hD2 v v2,hs _ ex,hs2 _ (dB g2),e3,e4]
def Ij (K:cW)(A:Adr):Ln (rj K A) 3:=by rintro vs H Q E ⟨x,qa,f,b,w,q,us,g,n,B,a,t,ts,ys,ds,rfl,_⟩;rfl
def ON {Q:VK}{H:Hp}{x qa L f b p:Addr}{w q:Str}{us:List V}{g:List Key->Option Key}{n B:Nat}{a:HA}{t:Kn Str}{ts:List (Kn Str)}{ys:List Addr}{qs:List Dat}{d:Dat}(hq:H qa=some (.lst (.str q::us)))(dW:aV H (.ref p) d)(sd:sD 64 d)(av:AnV B ts a g H q qs d)
  (k:∀(p':Addr)(H':Hp),au H H'->aV H' (.ref p') (ft w q d)->sD 64 (ft w q d)->Q (.ref p') H'):
  xJ K A {nx:=fun _ H'=>Q .non H',rt:=Q} [some (.ref x),some (.str w),some (.ref qa),some (.ref p),some (.ref L)] H:=by
 refine ixL (j:=0) hq rfl rfl ?_
 have okk:∀{m:Nat}{ks:List Key},sD m (.tup (ks.map bA))->okDs (ks.map bA)=true:=fun h=>h.1
 cases av with
 |gr hD v kl=>
  cases dW with
  |tup hp dws=>
   have e:=ko (v:=.non) dws
   subst e
   refine Sel.yes (by decide) ⟨w,p,_,rfl,hp,by omega,okk sd,fun p' H' S hp'=>k p' H' S ?_ ?_⟩
   ·rw[iK,jr];exact .tup hp' (fe H' _)
   ·rw[iK];exact fM sd
 |pl hD hL hy v kl=>
  cases dW with
  |tup hp dws=>
  cases dws with
  |cons z1 dws=>
  cases dws with
  |cons z2 dws=>
  cases dws with
  |nil=>
  cases z2 with
  |tup hT zks=>
   have e:=ko (v:=.non) zks
   subst e
   have m:=hG (n:=63) sd
   refine Sel.no (by decide) (ixL (j:=0) hq rfl rfl (Sel.yes (by decide) (ixT (j:=0) hp rfl rfl (ixT (j:=1) hp rfl rfl ⟨w,_,_,rfl,hT,by omega,okk (m _ (by simp)),fun p' H' S hp'=>⟨aO (show 2<=1000000 by decide),fun r hr=>?_⟩⟩))))
   have S2:∀{o:HO},au H (upd H' r o):=S.trans (au.upd hr)
   refine k r _ S2 ?_ ?_
   ·rw[iJ,jr];exact .tup ag (.cons (z1.mono S2) (.cons (.tup (au.upd hr _ _ hp') (fe _ _)) .nil))
   ·rw[iJ];exact cx (n:=63) (aZ (m _ (by simp)) (aZ (fM (n:=62) (m _ (by simp))) cL))
 |fu hD v kl ht hs=>
  cases dW with
  |tup hp dws=>
  cases dws with
  |cons z1 dws=>
  cases dws with
  |cons z2 dws=>
  cases dws with
  |nil=>
  cases z1 with
  |tup hT zks=>
   have e:=ko (v:=.non) zks
   subst e
   have m:=hG (n:=63) sd
   refine Sel.no (by decide) (ixL (j:=0) hq rfl rfl (Sel.no (by decide) (ixT (j:=0) hp rfl rfl ⟨w,_,_,rfl,hT,by omega,okk (m _ (by simp)),fun p' H' S hp'=>ixT (j:=1) (S _ _ hp) rfl rfl ⟨aO (show 2<=1000000 by decide),fun r hr=>?_⟩⟩)))
   have S2:∀{o:HO},au H (upd H' r o):=S.trans (au.upd hr)
   refine k r _ S2 ?_ ?_
   ·rw[iU,jr];exact .tup ag (.cons (.tup (au.upd hr _ _ hp') (fe _ _)) (.cons (z2.mono S2) .nil))
   ·rw[iU];exact cx (n:=63) (aZ (fM (n:=62) (m _ (by simp))) (aZ (m _ (by simp)) cL))
 |st hD v kl ht hs=>
  cases dW with
  |tup hp dws=>
  cases dws with
  |cons z1 dws=>
  cases dws with
  |cons z2 dws=>
  cases dws with
  |nil=>
  cases z1 with
  |tup hT zks=>
   have e:=ko (v:=.non) zks
   subst e
   have m:=hG (n:=63) sd
   refine Sel.no (by decide) (ixL (j:=0) hq rfl rfl (Sel.no (by decide) (ixT (j:=0) hp rfl rfl ⟨w,_,_,rfl,hT,by omega,okk (m _ (by simp)),fun p' H' S hp'=>ixT (j:=1) (S _ _ hp) rfl rfl ⟨aO (show 2<=1000000 by decide),fun r hr=>?_⟩⟩)))
   have S2:∀{o:HO},au H (upd H' r o):=S.trans (au.upd hr)
   refine k r _ S2 ?_ ?_
   ·rw[iR,jr];exact .tup ag (.cons (.tup (au.upd hr _ _ hp') (fe _ _)) (.cons (z2.mono S2) .nil))
   ·rw[iR];exact cx (n:=63) (aZ (fM (n:=62) (m _ (by simp))) (aZ (m _ (by simp)) cL))
def vY {Q:VK}{H:Hp}{x qa L:Addr}{w q:Str}{c i:Nat}{us:List V}{u:V}(qL:qa≠L)(hq:H qa=some (.lst (.str q::.int (c:Int)::.int (i:Int)::us)))(hL:H L=some (.lst (.str q::.int (c:Int)::.int (i:Int)::us)))
  (k:∀H':Hp,(∀z o,z≠L->H z=some o->H' z=some o)->H' L=some (.lst (.str q::.int (c:Int)::.int (eR w (i:Int))::us))->kq K A {nx:=fun _ H'=>Q .non H',rt:=Q} [some (.ref x),some (.str w),some (.ref qa),some u,some (.ref L)] H'):
  xF K A {nx:=fun _ H'=>Q .non H',rt:=Q} [some (.ref x),some (.str w),some (.ref qa),some u,some (.ref L)] H:=by
 have no:¬(w="old"/\0<(i:Int))->kq K A {nx:=fun _ H'=>Q .non H',rt:=Q} [some (.ref x),some (.str w),some (.ref qa),some u,some (.ref L)] H:=fun h=>k H (fun z o _ e=>e) (by rw[hL];unfold eR;rw[if_neg h])
 refine Sel.dec (fun h1=>ixL (j:=2) hq rfl rfl (Sel.dec (fun h2=>?_) (fun h2=>no fun z=>h2 (by show(i:Int)>0;exact z.2)))) (fun h1=>Sel.f (no fun z=>h1 z.1))
 refine ixL (j:=2) hq rfl rfl (.inl ⟨L,_,2,2,rfl,rfl,hL,?_,k _ (fun z o n e=>by rw[ap n];exact e) ?_⟩)
 ·unfold ixN
  rw[if_pos (by decide),if_pos (by simp;omega)];rfl
 ·rw[ag]
  unfold eR
  rw[if_pos ⟨h1,h2⟩];rfl
def pV {Q:VK}{H:Hp}{x qa L:Addr}{w q:Str}{us:List V}{u:V}(hq:H qa=some (.lst (.str q::us)))(hn:¬(w="near"/\q="full"))(k:nH K A {nx:=fun _ H'=>Q .non H',rt:=Q} [some (.ref x),some (.str w),some (.ref qa),some u,some (.ref L)] H):
  kq K A {nx:=fun _ H'=>Q .non H',rt:=Q} [some (.ref x),some (.str w),some (.ref qa),some u,some (.ref L)] H:=
 Sel.dec (fun h1=>ixL (j:=0) hq rfl rfl (Sel.dec (fun h2=>absurd ⟨h1,h2⟩ hn) (fun _=>k))) (fun _=>Sel.f k)
def LG {Q:VK}{H:Hp}{x qa L:Addr}{w:Str}{v1 v2 y1 y2:V}{key nk:Nat}{u:V}(qL:qa≠L)(hw:w="near")(hq:H qa=some (.lst [.str "full",v1,v2,.int (key:Int)]))(hL:H L=some (.lst [.str "full",y1,y2,.int (key:Int)]))(en:(if (key:Int)%2=0 then(key:Int)+1 else(key:Int)- 1)=(nk:Int))
  (k:∀H':Hp,(∀z o,z≠L->H z=some o->H' z=some o)->H' L=some (.lst [.str "full",y1,y2,.int (nk:Int)])->nH K A {nx:=fun _ H'=>Q .non H',rt:=Q} [some (.ref x),some (.str w),some (.ref qa),some u,some (.ref L)] H'):
  kq K A {nx:=fun _ H'=>Q .non H',rt:=Q} [some (.ref x),some (.str w),some (.ref qa),some u,some (.ref L)] H:=by
 refine Sel.yes (decide_eq_true hw) (ixL (j:=0) hq rfl rfl (Sel.yes (by decide) ?_))
 refine ixL (j:=3) hq rfl rfl (ixL (j:=3) hq rfl rfl ⟨by decide,zd (by decide) (by decide),.inl ⟨L,_,3,3,rfl,rfl,hL,rfl,k _ (fun z o n e=>by rw[ap n];exact e) ?_⟩⟩)
 rw[ag]
 have e:(key:Int)+1- 2*((key:Int)%2)=(nk:Int):=by
  rw[<-en]
  split<;>omega
 rw[e];rfl
def LJ (T:Txt K mg A):Rd (rj K A) (Pe K A) ["_law_house","_law_way","_law_question_here","_law_good","_law_other"]:=by
 intro vs H Q E h
 obtain⟨x,qa,f,b,w,q,us,g,n,B,a,t,ts,ys,ds,rfl,hw6,hqa,qu,h,hn,dws,k⟩:=h
 refine⟨x,qa,q,us,rfl,hqa,qu,.inl ⟨f,b,g,n,B,a,t,ts,ys,ds,h,by omega,dws,fun u g1 H1 k1 h1 sub1 cu1 an=>?_⟩⟩
 have kd:=h.dat k1
 have hqa1:=kd _ _ hqa (.inl ⟨_,rfl⟩)
 unfold CrR at k
 cases ok:dR q B ts.length ds with
 |false=>
  rw[ok]at an k
  cases an.1 rfl
  exact Sel.t (Sel.t (k .non g1 H1 k1 (h1.same au.rfl' (by omega)) sub1 cu1 ⟨fun _=>rfl,nofun⟩))
 |true=>
  rw[ok]at an k
  obtain⟨p,_,rfl,_⟩:=an.2 rfl
  refine Sel.f (Sel.dec (fun hw=>?_) (fun hw=>?_))
  ·have hw:w="hush":=hw
   rw[decide_eq_true hw]at k
   exact k .non g1 H1 k1 (h1.same au.rfl' (by omega)) sub1 cu1 ⟨fun _=>rfl,nofun⟩
  have hw:¬w="hush":=hw
  rw[decide_eq_false hw]at k
  refine⟨qa,_,rfl,.inl (SqL.of hqa1),fun L hL=>?_⟩
  have S2:=au.upd (o:=.lst (.str q::us)) hL
  have hL2:upd H1 L (.lst (.str q::us)) L=some (.lst (.str q::us)):=ag
  have hqa2:=S2 _ _ hqa1
  have qL:qa≠L:=aq hqa1 hL
  generalize upd H1 L (.lst (.str q::us))=H2 at S2 hL2 hqa2
  have fin:∀(H3:Hp)(us':List V),(∀z o,z≠L->H2 z=some o->H3 z=some o)->H3 L=some (.lst (.str q::us'))->Qu q us'->DatWs H3 us' (oK w q ds)->dR q B ts.length (oK w q ds)=true->nH K A {nx:=fun _ H'=>Q .non H',rt:=Q} [some (.ref x),some (.str w),some (.ref qa),some (.ref p),some (.ref L)] H3:=by
   intro H3 us' k3 hL3 qu' dw' ok'
   have S3:au H1 H3:=fun z o e=>k3 z o (aq e hL) (S2 _ _ e)
   have h3:=h1.same S3 (gV _)
   refine⟨x,L,q,us',rfl,hL3,qu',.inl ⟨f,b,g1,n+200,B,a,t,ts,ys,_,h3,by omega,dw',fun u g2 H4 k4 h4 sub4 cu4 an4=>?_⟩⟩
   obtain⟨p2,d2,rfl,dW,sd,av⟩:=an4.2 ok'
   have hqa4:=h3.dat k4 _ _ (k3 _ _ qL hqa2) (.inl ⟨_,rfl⟩)
   exact ON (f:=f) (b:=b) (n:=n) (t:=t) (ys:=ys) hqa4 dW sd av fun p' H' S' dw2 sd2=>k (.ref p') g2 H' (((k1.trans (aW.same S3)).trans k4).trans (aW.same S')) (h4.same S' (by omega)) (sub1.trans sub4) (((cu1.trans (bi.same S3)).trans cu4).trans (bi.same S')) ⟨nofun,fun _=>⟨p',d2,rfl,dw2,sd2,av.same S'⟩⟩
  cases qu with
  |gr a1 a2=>
   cases dws with
   |cons w1 dws=>
   cases dws with
   |cons w2 dws=>
   cases dws with
   |nil=>
   rw[okG]at ok
   obtain⟨c,i,rfl,rfl,ic,cn,c60⟩:=wz ok
   cases w1.int_inv
   cases w2.int_inv
   obtain⟨j,ej,ji⟩:=gq (w:=w) (i:=i)
   exact vY qL hqa2 hL2 fun H3 k3 hL3=>pV (k3 _ _ qL hqa2) (fun z=>absurd z.2 (by decide)) (fin H3 _ k3 hL3 (.gr _ _) (.cons (.int _) (.cons (.int _) .nil)) (by
    show dR "growth" B ts.length [.int (c:Int),.int (eR w (i:Int))]=true
    rw[okG,ej];exact BW (by omega) cn c60))
  |pl a1 a2=>
   cases dws with
   |cons w1 dws=>
   cases dws with
   |cons w2 dws=>
   cases dws with
   |nil=>
   rw[lW]at ok
   obtain⟨c,i,rfl,rfl,ic,cn,c60⟩:=iF ok
   cases w1.int_inv
   cases w2.int_inv
   obtain⟨j,ej,ji⟩:=gq (w:=w) (i:=i)
   exact vY qL hqa2 hL2 fun H3 k3 hL3=>pV (k3 _ _ qL hqa2) (fun z=>absurd z.2 (by decide)) (fin H3 _ k3 hL3 (.pl _ _) (.cons (.int _) (.cons (.int _) .nil)) (by
    show dR "placed" B ts.length [.int (c:Int),.int (eR w (i:Int))]=true
    rw[lW,ej];exact ly (by omega) cn c60))
  |fu a1 a2 a3=>
   cases dws with
   |cons w1 dws=>
   cases dws with
   |cons w2 dws=>
   cases dws with
   |cons w3 dws=>
   cases dws with
   |nil=>
   rw[okF]at ok
   obtain⟨ok1,ok2⟩:=Gt.mp ok
   obtain⟨c,i,rfl,rfl,ic,cn,c60⟩:=iF ok1
   obtain⟨key,rfl,hk⟩:=gJ ok2
   cases w1.int_inv
   cases w2.int_inv
   cases w3.int_inv
   obtain⟨j,ej,ji⟩:=gq (w:=w) (i:=i)
   obtain⟨mt,ta⟩:=h1.hs.ta
   obtain⟨nk,enk,hnk,_⟩:=rX (w:=w) ta.B1 hk
   have oth:oK w "full" [.int (c:Int),.int (i:Int),.int (key:Int)]=[.int (c:Int),.int (eR w (i:Int)),.int (nk:Int)]:=by rw[<-enk];rfl
   have ok':dR "full" B ts.length (oK w "full" [.int (c:Int),.int (i:Int),.int (key:Int)])=true:=by
    rw[oth,okF,ej,ly (by omega) cn c60,iD hnk];rfl
   refine vY qL hqa2 hL2 fun H3 k3 hL3=>?_
   by_cases hn2:w="near"
   ·rw[if_pos hn2]at enk
    refine LG qL hn2 (k3 _ _ qL hqa2) hL3 enk fun H4 k4 hL4=>fin H4 _ (fun z o zn e=>k4 z o zn (k3 z o zn e)) hL4 (.fu _ _ _) (by rw[oth];exact .cons (.int _) (.cons (.int _) (.cons (.int _) .nil))) ok'
   ·rw[if_neg hn2]at enk
    exact pV (k3 _ _ qL hqa2) (fun z=>hn2 z.1) (fin H3 _ k3 hL3 (.fu _ _ _) (by rw[oth,<-enk];exact .cons (.int _) (.cons (.int _) (.cons (.int _) .nil))) ok')
  |st a1 a2 a3 a4=>
   cases dws with
   |cons w1 dws=>
   cases dws with
   |cons w2 dws=>
   cases dws with
   |cons w3 dws=>
   cases dws with
   |cons w4 dws=>
   cases dws with
   |nil=>
   rw[okS]at ok
   obtain⟨ok1,ok2⟩:=Gt.mp ok
   obtain⟨c,i,rfl,rfl,ic,cn,c60⟩:=iF ok1
   cases w1.int_inv
   cases w2.int_inv
   obtain⟨j,ej,ji⟩:=gq (w:=w) (i:=i)
   have kk:∀H3:Hp,(∀z o,z≠L->H2 z=some o->H3 z=some o)->∀z o,H z=some o->iw o->H3 z=some o:=fun H3 k3 z o e hd=>k3 z o (aq (kd z o e hd) hL) (S2 _ _ (kd z o e hd))
   exact vY qL hqa2 hL2 fun H3 k3 hL3=>pV (k3 _ _ qL hqa2) (fun z=>absurd z.2 (by decide)) (fin H3 _ k3 hL3 (.st _ _ _ _) (by rw[zg];exact .cons (.int _) (.cons (.int _) (.cons (w3.keep (kk H3 k3)) (.cons (w4.keep (kk H3 k3)) .nil)))) (by
    rw[zg,okS,ej,ly (by omega) cn c60,ok2];rfl))
theorem lP (H:Hp):∀zs:List Int,DatWs H (zs.map V.int) (zs.map Dat.int)
 |[]=>.nil
 |z::r=>.cons (.int z) (lP H r)
theorem tR {H:Hp}{v:V}{d:Dat}(h:aV H v d):∀{xs:List V}{ds:List Dat}{j:Nat},DatWs H xs ds->DatWs H (xs.set j v) (ds.set j d)
 |_,_,_,.nil=>.nil
 |_,_,0,.cons _ r=>.cons h r
 |_,_,j+1,.cons a r=>.cons a (tR h r)
def Qu.set {w:Str}{us:List V}{j:Nat}{v:V}(h:Qu w us):Qu w (us.set j v):=by
 cases h with
 |gr a b=>
  match j with
  |0=>exact .gr _ _
  |1=>exact .gr _ _
  |j+2=>exact .gr _ _
 |pl a b=>
  match j with
  |0=>exact .pl _ _
  |1=>exact .pl _ _
  |j+2=>exact .pl _ _
 |fu a b c=>
  match j with
  |0=>exact .fu _ _ _
  |1=>exact .fu _ _ _
  |2=>exact .fu _ _ _
  |j+3=>exact .fu _ _ _
 |st a b c d=>
  match j with
  |0=>exact .st _ _ _ _
  |1=>exact .st _ _ _ _
  |2=>exact .st _ _ _ _
  |3=>exact .st _ _ _ _
  |j+4=>exact .st _ _ _ _
def Qu.len {w:Str}{us:List V}(h:Qu w us):2<=us.length/\us.length<=4:=by cases h<;>simp
def Hz {ds:List Dat}{d:Dat}{j:Nat}(h:∀x∈ds,sD 2 x)(hd:sD 2 d):∀x∈ds.set j d,sD 2 x:=fun x hx=>by
 rcases List.mem_or_eq_of_mem_set hx with h1|h1
 ·exact h x h1
 ·rw[h1];exact hd
def vd {Q:VK}{H0 H:Hp}{qa:Addr}{w:Str}{zs:List Int}{z:Int}{x1 x2 x3 x4 x5 x6 x7:Option V}(hf:H0 qa=none)(S:au H0 H)(hq:H qa=some (.lst (.str w::zs.map V.int)))(qu:Qu w (zs.map V.int))(z0:0<=z)
  (k:∀(us:List V)(ds:List Dat)(H':Hp),au H0 H'->H' qa=some (.lst (.str w::us))->Qu w us->DatWs H' us ds->(∀d∈ds,sD 2 d)->Q (.ref qa) H'):
  wy K A {nx:=fun _ H'=>Q .non H',rt:=Q} [some (.int z),x1,x2,x3,x4,x5,x6,x7,some (.ref qa),none] H:=by
 have si:∀d∈zs.map Dat.int,sD 2 d:=fun d hd=>by
  obtain⟨i,_,rfl⟩:=RJ.mp hd
  exact⟨rfl,QK 2⟩
 refine⟨⟨by decide,by decide⟩,by decide,Sel.dec (fun _=>?_) (fun _=>k _ _ H S hq qu (lP H zs) si)⟩
 have ql:=qu.len
 have l2:((.str w::zs.map V.int:List V).length:Int)- 1=((zs.map V.int).length:Int):=by rw[RE];omega
 refine⟨⟨by decide,by decide⟩,.inl (.inl ⟨_,SqL.of hq,by rw[l2];omega,?_⟩)⟩
 have m0:=Sh (z/1536) (show(((.str w::zs.map V.int:List V).length:Int)- 1)≠0 by rw[l2];omega)
 have m1:=RY (z/1536) (show 0<(((.str w::zs.map V.int:List V).length:Int)- 1)by rw[l2];omega)
 obtain⟨j,hj⟩:=Sf m0
 refine⟨⟨by decide,by decide,by decide⟩,aO (show 5<=1000000 by decide),fun p hp=>⟨⟨by decide,by decide⟩,by decide,?_⟩⟩
 have S1:=au.upd (o:=.lst [.int (1*2^(60:Int).toNat),.int (-1),.bl true,.non,.str "0"]) hp
 have fin:∀(v:V)(d:Dat),(∀H,aV H v d)->sD 2 d->fB (.ref qa) (.int (1+z/1536%(((.str w::zs.map V.int:List V).length:Int)- 1))) v (upd H p (.lst [.int (1*2^(60:Int).toNat),.int (-1),.bl true,.non,.str "0"])) (fun H'=>Q (.ref qa) H'):=fun v d dv sd=>by
  have hq1:=S1 _ _ hq
  refine .inl ⟨qa,_,_,j+1,rfl,rfl,hq1,?_,?_⟩
  ·unfold ixN
   rw[hj]
   rw[if_pos (by omega),if_pos (by omega)]
   congr 1
   omega
  ·refine k ((zs.map V.int).set j v) ((zs.map Dat.int).set j d) _ (fun y o e=>?_) ag qu.set (tR (dv _) (lP _ zs)) (Hz si sd)
   rw[ap (aq e hf)];exact S1 _ _ (S _ _ e)
 have k0:0<=z/4608%5:=Sh _ (by decide)
 have k5:z/4608%5<5:=RY _ (by decide)
 rcases(show z/4608%5=0\/z/4608%5=1\/z/4608%5=2\/z/4608%5=3\/z/4608%5=4 by omega)with e|e|e|e|e
 ·exact ixL (j:=0) ag e rfl (fin _ (.int _) (fun _=>.int _) ⟨rfl,QK 2⟩)
 ·exact ixL (j:=1) ag e rfl (fin _ (.int _) (fun _=>.int _) ⟨rfl,QK 2⟩)
 ·exact ixL (j:=2) ag e rfl (fin _ (.bl true) (fun _=>.bl _) ⟨rfl,QK 2⟩)
 ·exact ixL (j:=3) ag e rfl (fin _ .non (fun _=>.non) ⟨rfl,QK 2⟩)
 ·exact ixL (j:=4) ag e rfl (fin _ (.str "0") (fun _=>.str _) ⟨by decide+kernel,QK 2⟩)
def none_of {H H':Hp}{z:Addr}(S:au H H')(hz:H' z=none):H z=none:=by
 cases e:H z with
 |none=>rfl
 |some o=>rw[S z o e]at hz;cases hz
def Hb (K:cW)(A:Adr):Ln (qp K A) 4:=by rintro vs H Q E ⟨z,c,l,B,k,rfl,_⟩;rfl
def Lc (T:Txt K mg A):Rd (qp K A) (OA K A) ["_law_number","_law_makes","_law_cell","_law_bits","_law_count","_law_place","_law_key_here","_law_other","_law_question_here","_law_at"]:=by
 intro vs H Q E h
 obtain⟨z,c,l,B,k,rfl,z0,B1,B60,⟨bs,hl,bl,hbs⟩,k1,k60,q⟩:=h
 have kl:((bs.map V.ref).length:Int)=(k:Int):=by rw[QC,bl]
 have m0:=Sh z (b:=(k:Int)) (by omega)
 have m1:=RY z (b:=(k:Int)) (by omega)
 refine .inl (.inl ⟨_,SqL.of hl,by rw[kl];omega,?_⟩)
 rw[kl]
 generalize z%(k:Int)=c0 at*
 have p0:=Sh (z/8) (b:=1+c0) (by omega)
 have p1:=RY (z/8) (b:=1+c0) (by omega)
 refine⟨⟨by decide,by decide⟩,by omega,?_⟩
 generalize hpl:z/8%(1+c0)=pl at*
 refine uG hl p0 (by rw[kl];omega) fun v hv=>?_
 obtain⟨d,hd,rfl⟩:=RJ.mp hv
 obtain⟨kn,e,kb,ln⟩:=hbs d hd
 refine⟨⟨by decide,by decide⟩,d,c,z/4096,B,kn,rfl,e,by omega,kb,B1,B60,fun a1 H1 S1 ha1=>?_⟩
 refine uG (S1 _ _ hl) p0 (by rw[kl];omega) fun v hv=>?_
 obtain⟨d2,hd2,rfl⟩:=RJ.mp hv
 obtain⟨kn2,e2,kb2,ln2⟩:=hbs d2 hd2
 refine⟨⟨by decide,by decide⟩,⟨by decide,by decide⟩,d2,c/7,z/9973,B,kn2,rfl,S1 _ _ e2,by omega,kb2,B1,B60,fun a2 H2 S2 ha2=>?_⟩
 have S:=S1.trans S2
 refine⟨⟨by decide,by decide⟩,by omega,aO (show 3<=1000000 by decide),fun p1 hp1=>⟨aO (show 3<=1000000 by decide),fun p2 hp2=>⟨aO (show 4<=1000000 by decide),fun p3 hp3=>⟨aO (show 3<=1000000 by decide),fun pL hpL=>?_⟩⟩⟩⟩
 generalize z/8%(1+c0+1)=el at*
 have T1:=au.upd (o:=.lst [.str "growth",.int (1+c0),.int el]) hp1
 have T2:=au.upd (o:=.lst [.str "placed",.int (1+c0),.int pl]) hp2
 have T3:=au.upd (o:=.lst [.str "full",.int (1+c0),.int pl,.int (a1:Int)]) hp3
 have T4:=au.upd (o:=.lst [.ref p1,.ref p2,.ref p3]) hpL
 have U:=S.trans (T1.trans (T2.trans (T3.trans T4)))
 have f1:=none_of S hp1
 have f2:=none_of (S.trans T1) hp2
 have f3:=none_of (S.trans (T1.trans T2)) hp3
 have e1:=T4 _ _ (T3 _ _ (T2 _ _ (ag (H:=H2) (a:=p1) (o:=.lst [.str "growth",.int (1+c0),.int el]))))
 have e2:=T4 _ _ (T3 _ _ (ag (a:=p2) (o:=.lst [.str "placed",.int (1+c0),.int pl])))
 have e3:=T4 _ _ (ag (a:=p3) (o:=.lst [.str "full",.int (1+c0),.int pl,.int (a1:Int)]))
 have eL:upd (upd (upd (upd H2 p1 (.lst [.str "growth",.int (1+c0),.int el])) p2 (.lst [.str "placed",.int (1+c0),.int pl])) p3 (.lst [.str "full",.int (1+c0),.int pl,.int (a1:Int)])) pL (.lst [.ref p1,.ref p2,.ref p3]) pL=some (.lst [.ref p1,.ref p2,.ref p3]):=ag
 clear T1 T2 T3 T4
 generalize upd (upd (upd (upd H2 p1 (.lst [.str "growth",.int (1+c0),.int el])) p2 (.lst [.str "placed",.int (1+c0),.int pl])) p3 (.lst [.str "full",.int (1+c0),.int pl,.int (a1:Int)])) pL (.lst [.ref p1,.ref p2,.ref p3])=H3 at*
 obtain⟨lo,hlo⟩:∃lo:Int,lo=(if (a2:Int)<(a1:Int)then(a2:Int)else(a1:Int)):=⟨_,rfl⟩
 obtain⟨hi,hhi⟩:∃hi:Int,hi=(if (a2:Int)>(a1:Int)then(a2:Int)else(a1:Int)):=⟨_,rfl⟩
 show xW K A _ [some (.int z),some (.ref l),some (.int c),some (.int (B:Int)),some (.int (1+c0)),some (.int pl),some (.int (a1:Int)),some (.int (a2:Int)),some (.ref pL),none] H3
 refine⟨aO (show 5<=1000000 by decide),fun p4 hp4=>⟨aO (show 1<=1000000 by decide),fun p5 hp5=>.inl ⟨pL,p5,[.ref p1,.ref p2,.ref p3],_,rfl,rfl,au.upd hp5 _ _ (au.upd hp4 _ _ eL),ag,aO (show 4<=1000000 by decide),fun p6 hp6=>⟨⟨by decide,by decide⟩,by decide,?_⟩⟩⟩⟩
 rw[<-hlo,<-hhi]at hp5 hp6⊢
 have T4:=au.upd (o:=.lst [.str "stretch",.int (1+c0),.int pl,.int lo,.int hi]) hp4
 have T5:=au.upd (o:=.lst [.ref p4]) hp5
 have T6:=au.upd (o:=.lst ([.ref p1,.ref p2,.ref p3]++[.ref p4])) hp6
 have T:=T4.trans (T5.trans T6)
 have f4:=none_of U hp4
 have e4:=T6 _ _ (T5 _ _ (ag (H:=H3) (a:=p4) (o:=.lst [.str "stretch",.int (1+c0),.int pl,.int lo,.int hi])))
 have k0:0<=z/64%4:=Sh _ (by decide)
 have k5:z/64%4<4:=RY _ (by decide)
 rcases(show z/64%4=0\/z/64%4=1\/z/64%4=2\/z/64%4=3 by omega)with e|e|e|e
 ·exact ixL (j:=0) ag e rfl (vd (zs:=[1+c0,el]) f1 (U.trans T) (T _ _ e1) (.gr _ _) z0 (fun us ds H' S'=>q p1 _ us ds H' S'))
 ·exact ixL (j:=1) ag e rfl (vd (zs:=[1+c0,pl]) f2 (U.trans T) (T _ _ e2) (.pl _ _) z0 (fun us ds H' S'=>q p2 _ us ds H' S'))
 ·exact ixL (j:=2) ag e rfl (vd (zs:=[1+c0,pl,(a1:Int)]) f3 (U.trans T) (T _ _ e3) (.fu _ _ _) z0 (fun us ds H' S'=>q p3 _ us ds H' S'))
 ·exact ixL (j:=3) ag e rfl (vd (zs:=[1+c0,pl,lo,hi]) f4 (U.trans T) e4 (.st _ _ _ _) z0 (fun us ds H' S'=>q p4 _ us ds H' S'))
def KM.none {l:List Addr}{H H':Hp}{z:Addr}(k:KM l H H')(hz:H' z=none)(h:z∉l):H z=none:=by
 cases e:H z with
 |none=>rfl
 |some o=>rw[k z o h e]at hz;cases hz
def Di {z b x y:Addr}(h1:z≠b)(h2:z≠x)(h3:z≠y):z∉[b,x,y]:=fun q=>by
 simp only[QG,Rc,or_false]at q
 exact q.elim h1 (Or.elim · h2 h3)
section
variable {H H':Hp}{g g':gOp}{f b:Addr}{n n' B i:Nat}{t t':Kn Str}{ts:List (Kn Str)}{kn kn':List (Nat×Str)}{l:List Addr}
def HsA.tab {x:Addr}{a:HA}{ys:List Addr}{m:Key}(h:HsA A H g x f n B a t ts ys)(hd:HaD b a ys)(st:Stp A H f b g n)(k:aW b a.tb H H')(ta:TbA A H' g' a.tb f B t' m)(sub:Sub g g')(hn:n<=n'):HsA A H' g' x f n' B a t' ts ys/\KM [b,a.tb] H H':=by
 obtain⟨⟨bt,bL,bD,bm,bs⟩,⟨tL,tD,tm,tsd⟩,_⟩:=hd.all
 obtain⟨m0,ta0⟩:=h.ta
 obtain⟨dt,yt,ot,_⟩:=ta0.ob
 obtain⟨dx,hx⟩:=h.ob
 obtain⟨es,kvs,r,le,lk⟩:=h.ro
 obtain⟨dr,hr⟩:=r.ob
 obtain⟨dsl,hsl⟩:=h.se.ob
 obtain⟨kb,eb⟩:=st.bd
 have km:KM [b,a.tb] H H':=KM.k2 k (by simp) (by simp)
 have nk:NkS [b,a.tb] H:=.bd st (.cons ot (fun k=>k.tab) .nil)
 have mu:MuS [b,a.tb] H:=fun z hz=>by
  simp only[QG,Rc,or_false]at hz
  rcases hz with rfl|rfl
  ·exact⟨_,eb,.inl ⟨_,rfl⟩⟩
  ·exact⟨_,ot,.inr (.inr (.inr ⟨_,_,_,_,_,rfl⟩))⟩
 obtain⟨m1,m2,m3⟩:=h.noX mu
 have e7:∀y∈ys,y∉[b,a.tb]:=fun y hy=>eO (fun e=>h.tm.ne eb (fun _ _ _ z=>nomatch z) y hy e) (fun e=>hd.ny (e▸hy))
 exact⟨⟨h.ob.km km m1,⟨m,ta⟩,⟨es,kvs,r.km km m2 (eO (QU bL) (QU tL)) (eO (QU bD) (QU tD)),le,Rl lk hn⟩,km _ _ (eO (QU bm) (QU tm)) h.hm,h.tm.km km nk e7 sub,h.se.km km m3 (eO (QU bs) (QU tsd)) hn⟩,km⟩
end
def Bb {H:Hp}{a ca f b:Addr}{cut:Int}{g:gOp}{n B:Nat}{Q:VK}(s:Stp A H f b g n)(hn:n<=40000)(B1:1<=B)(B60:B<=60)
  (q:∀(x:Addr)(h:HA)(g':gOp)(H':Hp),KM [b] H H'->HsA A H' g' x f (n+5) B h .bare [] []->(∀z∈[x,h.tb,h.ro,h.L,h.D,h.ml,h.sl,h.sd],H z=none)->HaD b h []->Stp A H' f b g' (n+5)->Sub g g'->Q (.ref x) H'):
  (af (ac 1) (af (cE A.c_Seals (mZ K A) (fun _=>E0) (aj)) (aj))) [some (.ref a),some (.int (B:Int)),some (.ref ca),some (.int cut),none,none,none,none,none,none,none,none,none,none,none,none] H (fun vs H1=>∀x dx,H1 x=none->H1 dx=none->dx≠x->mS K A (.ref x::.ref f::vs) (upd (upd H1 dx (.own x)) x (.ins A.c_House dx [])) (fun v H2=>v=.non/\Q (.ref x) H2) E0):=by
 intro sl dsl hsl hdsl ne1
 have S1:=ci (o:=.own sl) (u:=.ins A.c_Seals dsl []) hsl hdsl ne1
 refine⟨sl,dsl,rfl,ag,fun sd hsd=>⟨rfl,?_⟩⟩
 have S2:au H (upd (upd (upd (upd H dsl (.own sl)) sl (.ins A.c_Seals dsl [])) sd (.dT [])) sl (.ins A.c_Seals dsl [("sealed",.ref sd)])):=fun z o e=>by
  rw[ap (aq e hsl),ap (aq (S1 _ _ e) hsd)];exact S1 _ _ e
 have sdsl:sd≠sl:=(cA hsd).1
 have sdH:H sd=none:=(cA (cA hsd).2).2
 have sdb:sd≠b:=by obtain⟨_,eb⟩:=s.bd;exact QU (aq (S1 _ _ eb) hsd)
 have se2:SeA A (upd (upd (upd (upd H dsl (.own sl)) sl (.ins A.c_Seals dsl [])) sd (.dT [])) sl (.ins A.c_Seals dsl [("sealed",.ref sd)])) sl sd n:=⟨⟨dsl,ag⟩,⟨[],by rw[ap sdsl];exact ag,QK _⟩⟩
 generalize upd (upd (upd (upd H dsl (.own sl)) sl (.ins A.c_Seals dsl [])) sd (.dT [])) sl (.ins A.c_Seals dsl [("sealed",.ref sd)])=H2 at*
 intro x dx hx hdx ne
 have S:=ci (o:=.own x) (u:=.ins A.c_House dx []) hx hdx ne
 have S3:=S2.trans S
 refine⟨x,dx,f,b,sl,sd,g,n,_,.int (B:Int),rfl,ag,.int _,s.same (gV _) S3,hn,se2.km (l:=[]) (KM.same S) (nofun) (nofun) (gV _),sdb,fun hb=>?_,fun B' eB _ _ h g1 H1 k1 hs1 esl esd fr nd s1 sub1=>⟨rfl,?_⟩⟩
 ·rw[sN B1 B60]at hb;cases hb
 have eB:B'=B:=by have:=Dat.int.inj eB;omega
 subst eB
 have fr2:∀{z:Addr},H2 z=none->H z=none:=fun hz=>(KM.same (l:=[]) S2).none hz (nofun)
 have fr3:∀{z:Addr},upd (upd H2 dx (.own x)) x (.ins A.c_House dx []) z=none->H z=none:=fun hz=>(KM.same (l:=[]) S3).none hz (nofun)
 obtain⟨kvs0,esd0,_⟩:=se2.di
 have sd3:=S _ _ esd0
 obtain⟨kb,eb⟩:=s.bd
 have b3:=S3 _ _ eb
 have f1:=fr h.tb (by simp)
 have f2:=fr h.ro (by simp)
 have f3:=fr h.L (by simp)
 have f4:=fr h.D (by simp)
 have f5:=fr h.ml (by simp)
 refine q x h g1 H1 (fun z o zb e=>k1 z o (Di (fun w=>zb (by simp[w])) (aq (S2 _ _ e) hx) (aq e sdH)) (S3 _ _ e)) hs1 (fun z hz=>?_) ⟨?_,nofun⟩ s1 sub1
 ·simp only[QG,Rc,or_false]at hz
  rcases hz with rfl|rfl|rfl|rfl|rfl|rfl|rfl|rfl
  ·exact fr2 hx
  ·exact fr3 f1
  ·exact fr3 f2
  ·exact fr3 f3
  ·exact fr3 f4
  ·exact fr3 f5
  ·rw[esl];exact hsl
  ·rw[esd];exact sdH
 ·rw[esd]
  simp only[RA,QG,Rc,or_false,not_or,not_false_eq_true,UC,and_true]at nd⊢
  obtain⟨⟨_,n1,n2,n3⟩,_,⟨n4,n5⟩,n6⟩:=nd
  have nb:∀{z:Addr},upd (upd H2 dx (.own x)) x (.ins A.c_House dx []) z=none->b≠z:=fun hz=>aq b3 hz
  have ns:∀{z:Addr},upd (upd H2 dx (.own x)) x (.ins A.c_House dx []) z=none->z≠sd:=fun hz=>QU (aq sd3 hz)
  exact⟨⟨nb f1,nb f3,nb f4,nb f5,QU sdb⟩,⟨n1,n2,n3,ns f1⟩,⟨n4,n5,ns f3⟩,⟨n6,ns f4⟩,ns f5⟩
section
variable {H H':Hp}{x f b z:Addr}{g g':gOp}{n m B:Nat}{a:HA}{t:Kn Str}{ts:List (Kn Str)}{ys:List Addr}
def HoS.at' (h:HoS A H x f b g n B a t ts ys):∀z∈muH b a,∃o,H z=some o:=fun z hz=>by
 obtain⟨es,kvs,r,_⟩:=h.hs.ro
 obtain⟨mm,ta⟩:=h.hs.ta
 obtain⟨dt,yt,ot,_⟩:=ta.ob
 obtain⟨kvs2,di,_⟩:=h.hs.se.di
 obtain⟨kb,eb⟩:=h.s.bd
 simp only[muH,QG,Rc,or_false]at hz
 rcases hz with rfl|rfl|rfl|rfl|rfl|rfl
 ·exact⟨_,eb⟩
 ·exact⟨_,ot⟩
 ·exact⟨_,r.hl⟩
 ·exact⟨_,r.hd⟩
 ·exact⟨_,h.hs.hm⟩
 ·exact⟨_,di⟩
def HoS.new (h:HoS A H x f b g n B a t ts ys)(hz:H z=none):z∉muH b a:=fun q=>by
 obtain⟨o,e⟩:=h.at' z q
 rw[e]at hz;cases hz
def KM.k2m (k:aW b a.D H H'):KM (muH b a) H H':=KM.k2 k (by simp[muH]) (by simp[muH])
def ldO (o:HO):Prop:=(∃xs,o=.lst xs)\/∃kvs,o=.dK kvs
def HoS.set {o o':HO}(h:HoS A H x f b g n B a t ts ys)(e:H z=some o)(ho:ldO o)(nz:z∉muH b a):HoS A (upd H z o') x f b g n B a t ts ys:=by
 obtain⟨es,kvs,r,le,lk⟩:=h.hs.ro
 obtain⟨dr,hr⟩:=r.ob
 obtain⟨mm,ta⟩:=h.hs.ta
 obtain⟨dt,yt,ot,_⟩:=ta.ob
 obtain⟨dx,hx⟩:=h.hs.ob
 obtain⟨kvs2,di,_⟩:=h.hs.se.di
 obtain⟨dsl,hsl⟩:=h.hs.se.ob
 have k:KM [z] H (upd H z o'):=KM.upd (by simp)
 have nk:NkS [z] H:=.cons e (fun q=>by rcases ho with⟨_,rfl⟩|⟨_,rfl⟩<;>rcases q with⟨_,q⟩|⟨_,_,_,_,_,q⟩<;>cases q) .nil
 have ne:∀{y:Addr}{C d:Addr}{fs:List (Str×V)},H y=some (.ins C d fs)->y∉[z]:=fun ey=>aJ (bw ey e fun q=>by rcases ho with⟨_,rfl⟩|⟨_,rfl⟩<;>cases q)
 have nm:∀{y:Addr},y∈muH b a->y∉[z]:=fun hy=>aJ (fun q=>nz (q▸hy))
 refine⟨h.hs.km k nk Sub.rfl' (gV _) (ne hx) (ne ot) (ne hr) (nm (by simp[muH])) (nm (by simp[muH])) (nm (by simp[muH])) (fun y hy=>aJ (h.hs.tm.ne e (fun _ _ _ q=>by rcases ho with⟨_,rfl⟩|⟨_,rfl⟩<;>cases q) y hy)) (h.hs.se.km k (ne hsl) (nm (by simp[muH])) (gV _)),h.hd,h.s.keep (gV _) fun y u ey hy=>k y u (aJ fun q=>?_) ey⟩
 subst q
 rw[e]at ey
 cases ey
 rcases ho with⟨_,rfl⟩|⟨_,rfl⟩<;>rcases hy with⟨_,q⟩|⟨_,_,q⟩|⟨_,_,_,q⟩<;>cases q
def HoS.nbk {kvs:List (Key×V)}(h:HoS A H x f b g n B a t ts ys)(e:H z=some (.dK kvs)):z∉muH b a:=fun q=>by
 obtain⟨es,kvs,r,_⟩:=h.hs.ro
 obtain⟨mm,ta⟩:=h.hs.ta
 obtain⟨dt,yt,ot,_⟩:=ta.ob
 obtain⟨kvs2,di,_⟩:=h.hs.se.di
 obtain⟨kb,eb⟩:=h.s.bd
 have hm:=h.hs.hm
 have hl:=r.hl
 have hd:=r.hd
 simp only[muH,QG,Rc,or_false]at q
 rcases q with rfl|rfl|rfl|rfl|rfl|rfl
 ·rw[e]at eb;cases eb
 ·rw[e]at ot;cases ot
 ·rw[e]at hl;cases hl
 ·rw[e]at hd;cases hd
 ·rw[e]at hm;cases hm
 ·rw[e]at di;cases di
def HoS.BB (h:HoS A H x f b g n B a t ts ys):1<=B/\B<=60:=by
 obtain⟨m,ta⟩:=h.hs.ta
 exact⟨ta.B1,ta.B60⟩
end
structure Fx (H0:Hp)(b:Addr)(a:HA)(kd lm lh:Addr):Prop where
 fk:H0 kd=none
 fm:H0 lm=none
 fh:H0 lh=none
 nm:lm∉muH b a
 nh:lh∉muH b a
 mh:lm≠lh
def Bk (H:Hp)(B:Nat)(d:Addr):Prop:=∃kn,H d=some (.dK (dOf kn))/\mX B kn/\kn.length<=60
structure LK (A:Adr)(H0 H:Hp)(g0:gOp)(x f b:Addr)(B:Nat)(a:HA)(kd lm lh:Addr)(g:gOp)(n:Nat)(t:Kn Str)(ts:List (Kn Str))(ys:List Addr)(kn:List (Nat×Str))(ds:List Addr)(hs:List V):Prop where
 w:HoS A H x f b g n B a t ts ys
 sub:Sub g0 g
 hk:H kd=some (.dK (dOf kn))
 kno:Kno B kn t
 hm:H lm=some (.lst (ds.map V.ref))
 dl:ds.length=ts.length
 kds:kd∉ds
 bks:∀d∈ds,Bk H B d
 hh:H lh=some (.lst hs)
 km:KM (muH b a) H0 H
section
variable {H0 H H':Hp}{g0 g g':gOp}{x f b:Addr}{B n n':Nat}{a:HA}{kd lm lh:Addr}{t t':Kn Str}{ts:List (Kn Str)}{ys:List Addr}{kn kn':List (Nat×Str)}{ds:List Addr}{hs:List V}
def LK.same (h:LK A H0 H g0 x f b B a kd lm lh g n t ts ys kn ds hs)(S:au H H')(hn:n<=n'):LK A H0 H' g0 x f b B a kd lm lh g n' t ts ys kn ds hs:=
 ⟨h.w.same S hn,h.sub,S _ _ h.hk,h.kno,S _ _ h.hm,h.dl,h.kds,fun d hd=>let ⟨k,e,r⟩:=h.bks d hd;⟨k,S _ _ e,r⟩,S _ _ h.hh,h.km.trans (KM.same S)⟩
def LK.rl (h:LK A H0 H g0 x f b B a kd lm lh g n t ts ys kn ds hs):(bv t).length=kn.length:=by
 obtain⟨m,ta⟩:=h.w.hs.ta
 exact h.kno.len ta.wf
def LK.kb (h:LK A H0 H g0 x f b B a kd lm lh g n t ts ys kn ds hs):mX B kn:=by
 obtain⟨m,ta⟩:=h.w.hs.ta
 exact h.kno.keys ta.wf
def LK.nkd (h:LK A H0 H g0 x f b B a kd lm lh g n t ts ys kn ds hs):kd≠lm/\kd≠lh:=⟨bw h.hk h.hm (fun z=>nomatch z),bw h.hk h.hh (fun z=>nomatch z)⟩
def LK.setK (h:LK A H0 H g0 x f b B a kd lm lh g n t ts ys kn ds hs)(fx:Fx H0 b a kd lm lh):HoS A (upd H kd (.dK (dOf kn'))) x f b g n B a t ts ys/\upd H kd (.dK (dOf kn')) lm=some (.lst (ds.map V.ref))/\(∀d∈ds,Bk (upd H kd (.dK (dOf kn'))) B d)/\upd H kd (.dK (dOf kn')) lh=some (.lst hs)/\KM (muH b a) H0 (upd H kd (.dK (dOf kn'))):=by
 obtain⟨n1,n2⟩:=h.nkd
 refine⟨h.w.set h.hk (.inr ⟨_,rfl⟩) (h.w.nbk h.hk),by rw[ap (QU n1)];exact h.hm,fun d hd=>?_,by rw[ap (QU n2)];exact h.hh,fun z o nz e=>?_⟩
 ·obtain⟨kk,e,r⟩:=h.bks d hd
  exact⟨kk,by rw[ap (show d≠kd from fun q=>h.kds (q▸hd))];exact e,r⟩
 ·rw[ap (aq e fx.fk)];exact h.km z o nz e
def LK.tab {m:Key}(fx:Fx H0 b a kd lm lh)(w:HoS A H x f b g n B a t ts ys)(sub:Sub g0 g)(hk:H kd=some (.dK (dOf kn')))(kno:Kno B kn' t')(hm:H lm=some (.lst (ds.map V.ref)))(dl:ds.length=ts.length)(kds:kd∉ds)(bks:∀d∈ds,Bk H B d)(hh:H lh=some (.lst hs))(km:KM (muH b a) H0 H)(k:aW b a.tb H H')(ta:TbA A H' g' a.tb f B t' m)(s:Stp A H' f b g' n')(sb:Sub g g')(hn:n<=n'):LK A H0 H' g0 x f b B a kd lm lh g' n' t' ts ys kn' ds hs:=by
 obtain⟨hs2,km2⟩:=w.hs.tab w.hd w.s k ta sb hn
 have km3:KM (muH b a) H H':=km2.sub fun z hz=>by simp only[QG,Rc,or_false]at hz;rcases hz with rfl|rfl<;>simp[muH]
 exact⟨⟨hs2,w.hd,s⟩,sub.trans sb,km3 _ _ (w.nbk hk) hk,kno,km3 _ _ fx.nm hm,dl,kds,fun d hd=>let ⟨kk,e,r⟩:=bks d hd;⟨kk,km3 _ _ (w.nbk e) e,r⟩,km3 _ _ fx.nh hh,km.trans km3⟩
def FJ:∀z∈[b,a.L,a.D,a.ml,a.sd],z∈muH b a:=fun z hz=>by
 simp only[QG,Rc,or_false]at hz
 rcases hz with rfl|rfl|rfl|rfl|rfl<;>simp[muH]
def pC (fx:Fx H0 b a kd lm lh)(h:LK A H0 H g0 x f b B a kd lm lh g n t ts ys kn ds hs)(hn:n+400<=45000)(lt:ts.length<50)(lk:kn.length<=60)(hl:hs.length<=50){y1 y2 y3 y7 y8 y9:Option V}{D:fV}
  (k:∀(d p y:Addr)(v:Key)(g':gOp)(H':Hp),LK A H0 H' g0 x f b B a kd lm lh g' (n+210) t (ts++[t]) (ys++[y]) kn (ds++[d]) (hs++[.ref p])->H' p=some (.tup [.int ((ts.length:Int)+1),kV v])->smE v->NwV a.D H' g' (ts.length+1) v->D.nx [some (.ref x),y1,y2,y3,some (.ref kd),some (.ref lm),some (.ref lh),y7,y8,y9] H'):
  ax (bK (tBM K "list" cQ (ac 5) (af (tCB (qQ K) (af (ac 4) (aj))) (aj)))) (bK (tBM K "list" cQ (ac 6) (af (aB A.c_House "make" (jw K A) (fun _=>E0) (ac 0) aj) (aj)))) D [some (.ref x),y1,y2,y3,some (.ref kd),some (.ref lm),some (.ref lh),y7,y8,y9] H:=by
 refine⟨.inl ⟨rfl,_,SqL.of h.hm⟩,kd,_,rfl,h.hk,fun d hd=>?_⟩
 have S1:=au.upd (o:=.dK (dOf kn)) hd
 have ed:upd H d (.dK (dOf kn)) d=some (.dK (dOf kn)):=ag
 have h1:=h.same S1 (gV _)
 have dne:∀{z:Addr}{o:HO},H z=some o->d≠z:=fun e=>QU (aq e hd)
 have d0:H0 d=none\/True:=.inr trivial
 generalize upd H d (.dK (dOf kn))=H1 at*
 refine⟨lm,_,.ref d,rfl,rfl,h1.hm,by rw[QC,h.dl];exact cB (by omega),?_⟩
 have ey:ds.map V.ref++[V.ref d]=(ds++[d]).map V.ref:=by rw[Rm];rfl
 rw[ey]
 have w2:HoS A (upd H1 lm (.lst ((ds++[d]).map V.ref))) x f b g n B a t ts ys:=h1.w.set h1.hm (.inl ⟨_,rfl⟩) fx.nm
 obtain⟨n1,n2⟩:=h1.nkd
 have hk2:upd H1 lm (.lst ((ds++[d]).map V.ref)) kd=some (.dK (dOf kn)):=by rw[ap n1];exact h1.hk
 have hm2:upd H1 lm (.lst ((ds++[d]).map V.ref)) lm=some (.lst ((ds++[d]).map V.ref)):=ag
 have hh2:upd H1 lm (.lst ((ds++[d]).map V.ref)) lh=some (.lst hs):=by rw[ap (QU fx.mh)];exact h1.hh
 have bk2:∀d'∈ds++[d],Bk (upd H1 lm (.lst ((ds++[d]).map V.ref))) B d':=fun d' hd'=>by
  have:Bk H1 B d':=by
   rcases Rv.mp hd' with q|q
   ·exact h1.bks d' q
   ·rw[QR.mp q];exact⟨kn,ed,h.kb,lk⟩
  obtain⟨kk,e,r⟩:=this
  exact⟨kk,by rw[ap (bw e h1.hm fun z=>nomatch z)];exact e,r⟩
 have km2:KM (muH b a) H0 (upd H1 lm (.lst ((ds++[d]).map V.ref))):=fun z o nz e=>by
  rw[ap (aq e fx.fm)];exact h1.km z o nz e
 have kd2:kd∉ds++[d]:=fun q=>by
  rcases Rv.mp q with q|q
  ·exact h.kds q
  ·exact dne h.hk (QR.mp q).symm
 generalize upd H1 lm (.lst ((ds++[d]).map V.ref))=H2 at*
 obtain⟨dx,hx⟩:=w2.hs.ob
 refine⟨.inl ⟨rfl,_,SqL.of hh2⟩,x,dx,_,rfl,hx,rfl,x,f,b,g,n,B,a,t,ts,ys,rfl,w2.hs,w2.hd,w2.s,by rw[h.rl];omega,by omega,hn,fun p y v g3 H3 k3 hy hs3 st3 sub3 cu nw sv hp=>?_⟩
 have k3:KM (muH b a) H2 H3:=k3.sub FJ
 have ny:a.tb∉ys++[y]:=fun q=>by
  rcases Rv.mp q with q|q
  ·exact w2.hd.ny q
  ·obtain⟨m,ta⟩:=w2.hs.ta
   obtain⟨dt,yt,ot,_⟩:=ta.ob
   rw[<-QR.mp q,ot]at hy;cases hy
 have w3:HoS A H3 x f b g3 (n+210) B a t (ts++[t]) (ys++[y]):=⟨hs3,⟨w2.hd.nd,ny⟩,st3⟩
 have hh3:=k3 _ _ fx.nh hh2
 refine⟨lh,_,.ref p,rfl,rfl,hh3,cB (by omega),?_⟩
 have hp4:upd H3 lh (.lst (hs++[.ref p])) p=some (.tup [.int ((ts.length:Int)+1),kV v]):=by rw[ap (bw hp hh3 fun z=>nomatch z)];exact hp
 have lk:∀{z:Addr}{kvs:List (Key×V)},H3 z=some (.dK kvs)->upd H3 lh (.lst (hs++[.ref p])) z=some (.dK kvs):=fun e=>by rw[ap (bw e hh3 fun z=>nomatch z)];exact e
 refine k d p y v g3 _ ⟨w3.set hh3 (.inl ⟨_,rfl⟩) fx.nh,h.sub.trans sub3,lk (k3 _ _ (w2.nbk hk2) hk2),h.kno,by rw[ap fx.mh];exact k3 _ _ fx.nm hm2,by rw[QP,QP,h.dl];rfl,kd2,fun d' hd'=>?_,ag,fun z o nz e=>?_⟩ hp4 sv ?_
 ·obtain⟨kk,e,r⟩:=bk2 d' hd'
  exact⟨kk,lk (k3 _ _ (w2.nbk e) e),r⟩
 ·rw[ap (aq e fx.fh)];exact k3 _ _ nz (km2 _ _ nz e)
 ·obtain⟨kvs,yy,hD,r⟩:=nw
  exact⟨kvs,yy,by rw[ap fun q=>fx.nh (by rw[<-q];simp[muH])];exact hD,r⟩
end
def CO {H H':Hp}{l:List Addr}{a:Addr}{xs:List V}(s:SqL K H a xs)(na:a∉l)(k:KM l H H'):SqL K H' a xs:=by
 rcases s with(e|⟨o,e⟩)|e
 ·exact .inl (.inl (k _ _ na e))
 ·exact .inl (.inr ⟨o,k _ _ na e⟩)
 ·exact .inr e
section
variable {H0 H H':Hp}{g0 g g':gOp}{x f b:Addr}{B n n':Nat}{a:HA}{kd lm lh:Addr}{t t':Kn Str}{ts:List (Kn Str)}{ys:List Addr}{kn kn':List (Nat×Str)}{ds:List Addr}{hs:List V}
def wl (fx:Fx H0 b a kd lm lh)(h:LK A H0 H g0 x f b B a kd lm lh g n t ts ys kn ds hs)(hn:n+400<=45000)(lk:kn.length<=60){key:Nat}(hkey:key<2^B){z:Str}(hz:aM B key t=some z){y1 y2 y3 y5 y6 y7 y8:Option V}{D:fV}
  (k:∀(g':gOp)(H':Hp)(t':Kn Str)(kn':List (Nat×Str)),LK A H0 H' g0 x f b B a kd lm lh g' (n+65) t' ts ys kn' ds hs->kn'.length<=kn.length->D.nx [some (.ref x),y1,y2,y3,some (.ref kd),y5,y6,y7,y8,some (.int (key:Int))] H'):
  ax (bK (tBM K "dict" rg (ac 4) (af (ac 9) (aj)))) (bK (aB A.c_House "take" (kU K A) (fun _=>E0) (ac 0) (af (ac 9) (aj)))) D [some (.ref x),y1,y2,y3,some (.ref kd),y5,y6,y7,y8,some (.int (key:Int))] H:=by
 refine⟨HJ h.hk,?_⟩
 refine⟨kd,_,.inl (key:Int),.str z,rfl,rfl,h.hk,by rw[ou,h.kno.eq,hz];rfl,?_⟩
 rw[yR]
 obtain⟨m0,ta0⟩:=h.w.hs.ta
 obtain⟨kno3,l3⟩:=h.kno.drop (key:=key) ta0.wf
 obtain⟨w1,hm1,bk1,hh1,km1⟩:=h.setK (kn':=gf kn key) fx
 have hk1:upd H kd (.dK (dOf (gf kn key))) kd=some (.dK (dOf (gf kn key))):=ag
 generalize upd H kd (.dK (dOf (gf kn key)))=H1 at*
 obtain⟨dx,hx⟩:=w1.hs.ob
 obtain⟨m,ta⟩:=w1.hs.ta
 refine⟨x,dx,_,rfl,hx,rfl,?_⟩
 refine⟨x,a,_,rfl,w1.hs.ob,⟨f,g,B,t,m,ta⟩,a.tb,f,b,g,n,B,t,m,_,.int (key:Int),rfl,⟨ta,w1.s,by rw[h.rl];omega⟩,by omega,.int _,fun h=>(by rw[iD hkey]at h;cases h),fun key' ek hk'=>?_⟩
 have:key'=key:=by have:=Dat.int.inj ek;omega
 subst this
 refine⟨fun hf=>(by rw[hz]at hf;cases hf),fun z2 hf m2 g2 H2 k2 ta2 s2 sub2=>?_⟩
 exact k g2 H2 _ _ (LK.tab fx w1 h.sub hk1 kno3 hm1 h.dl h.kds bk1 hh1 km1 k2 ta2 s2 sub2 (by omega)) l3
def rZ (fx:Fx H0 b a kd lm lh)(h:LK A H0 H g0 x f b B a kd lm lh g n t ts ys kn ds hs)(hn:n+400<=45000)(lk:kn.length<=60){key:Nat}{c:Int}(hkey:key<2^B){y1 y2 y3 y5 y6 y7:Option V}{D:fV}
  (k:∀(g':gOp)(H':Hp)(t':Kn Str)(kn':List (Nat×Str)),LK A H0 H' g0 x f b B a kd lm lh g' (n+65) t' ts ys kn' ds hs->kn'.length<=kn.length+1->D.nx [some (.ref x),y1,y2,y3,some (.ref kd),y5,y6,y7,some (.int c),some (.int (key:Int))] H'):
  ax (aN (aD (lz K A) (fun _=>E0) (af (tOp (bR) (ac 8) (tC (.int 9))) (aj))) (gZ (ac 4) (ac 9) fB)) (bK (aB A.c_House "put" (lF K A) (fun _=>E0) (ac 0) (af (ac 9) (af (tOp (bg K) (ac 4) (ac 9)) (aj))))) D [some (.ref x),y1,y2,y3,some (.ref kd),y5,y6,y7,some (.int c),some (.int (key:Int))] H:=by
 refine⟨⟨by decide,by decide⟩,_,rfl,fun z H2 S2 hz=>?_⟩
 have h2:=h.same S2 (gV _)
 refine .inr ⟨kd,_,rfl,kh.k (k:=.inl (key:Int)) h2.hk (cB (by unfold dOf;rw[QC];omega)),?_⟩
 rw[DO]
 obtain⟨w1,hm1,bk1,hh1,km1⟩:=h2.setK (kn':=fY kn key z) fx
 have hk1:upd H2 kd (.dK (dOf (fY kn key z))) kd=some (.dK (dOf (fY kn key z))):=ag
 generalize upd H2 kd (.dK (dOf (fY kn key z)))=H1 at*
 obtain⟨dx,hx⟩:=w1.hs.ob
 obtain⟨m,ta⟩:=w1.hs.ta
 have dg:eE H1 kd (.int (key:Int)) (some (.str z)):=by
  have e:(some z).map V.str=cg (dOf (fY kn key z)) (.inl (key:Int)):=by rw[ou,sZ,if_pos rfl]
  show eE H1 kd (.int (key:Int)) ((some z).map V.str)
  rw[e];exact eE.k (k:=.inl (key:Int)) hk1
 refine⟨x,dx,_,rfl,hx,rfl,?_⟩
 refine .inr ⟨kd,.str z,rfl,dg,x,a,_,_,rfl,w1.hs.ob,⟨f,g,B,t,m,ta⟩,a.tb,f,b,g,n,B,t,m,_,_,.int (key:Int),.str z,rfl,⟨ta,w1.s,by rw[h.rl];omega⟩,by omega,.int _,.str _,BZ hz,fun h=>(by rw[iD hkey]at h;cases h),fun key' ek hk'=>⟨fun h=>(by rw[DI hz]at h;cases h),fun z2 e2 _ m4 g4 H4 k4 ta4 s4 sub4=>?_⟩⟩
 cases e2
 have:key'=key:=by have:=Dat.int.inj ek;omega
 subst this
 exact k g4 H4 _ _ (LK.tab fx w1 h.sub hk1 (h.kno.put ta.wf hkey (by omega)) hm1 h.dl h.kds bk1 hh1 km1 k4 ta4 s4 sub4 (by omega)) (tY (k:=key') (z:=z) h.kno.nd).2
end
def OQ (K:cW)(A:Adr):TS:=(ax (aN (aD (jb K A) (fun _=>E0) (af (ac 4) (af (tOp (bg K) (ac 1) (ac 7)) (af (tOp (bR) (ac 8) (tC (.int 9))) (af (ac 2) (aj)))))) (aE 9)) (bh (gO (aU (tOp (uE K) (ac 9) (ac 4))) (aU (tOp (bO K) (tOp (cK) (tOp (bR) (ac 8) (tC (.int 3))) (tC (.int 3))) (tC (.int 2))))) (ax (bK (tBM K "dict" rg (ac 4) (af (ac 9) (aj)))) (bK (aB A.c_House "take" (kU K A) (fun _=>E0) (ac 0) (af (ac 9) (aj))))) (ax (aN (aD (lz K A) (fun _=>E0) (af (tOp (bR) (ac 8) (tC (.int 9))) (aj))) (gZ (ac 4) (ac 9) fB)) (bK (aB A.c_House "put" (lF K A) (fun _=>E0) (ac 0) (af (ac 9) (af (tOp (bg K) (ac 4) (ac 9)) (aj))))))))
def Ib (K:cW)(A:Adr):Ln (pY K A) 4:=by rintro vs H Q E ⟨x,ca,f,b,g,n,B,a,cs,rfl,_⟩;rfl
def Jg (T:Txt K mg A):Rd (pY K A) (NH K A) ["_law_house","_law_cells","_law_bits","_law_most","_law_known","_law_makes","_law_heads","_law_k","_law_number","_law_key_here"]:=by
 intro vs H Q E h
 obtain⟨x,ca,f,b,g,n,B,a,cs,rfl,w,hn,B1,B60,sq,nca,lc,q⟩:=h
 refine .inl fun kd hkd=>⟨by show 0<=sizeLine;decide,fun lm hlm=>?_⟩
 have S1:=au.upd (o:=.dK []) hkd
 have S2:=au.upd (o:=.lst []) hlm
 have ek:upd (upd H kd (.dK [])) lm (.lst []) kd=some (.dK []):=S2 _ _ ag
 have em:upd (upd H kd (.dK [])) lm (.lst []) lm=some (.lst []):=ag
 have S:=S1.trans S2
 have fm:=none_of S1 hlm
 generalize upd (upd H kd (.dK [])) lm (.lst [])=H1 at*
 have w1:=w.same S (gV _)
 obtain⟨dx,hx⟩:=w1.hs.ob
 refine⟨x,dx,_,rfl,hx,rfl,x,f,b,g,n,B,a,.bare,[],[],rfl,w1.hs,w1.hd,w1.s,by omega,fun p v g2 H2 k2 hs2 s2 sub2 cu2 nw2 hp sv=>?_⟩
 have w2:HoS A H2 x f b g2 (n+200) B a .bare [] []:=⟨hs2,w1.hd,s2⟩
 refine⟨aO (show 1<=1000000 by decide),fun lh hlh=>?_⟩
 have S3:=au.upd (o:=.lst [.ref p]) hlh
 have eh:upd H2 lh (.lst [.ref p]) lh=some (.lst [.ref p]):=ag
 have w3:=w2.same S3 (gV _)
 have km2:KM (muH b a) H1 H2:=KM.k2m k2
 have nm:=w.new fm
 have nk:=w.new hkd
 have fh:H lh=none:=by
  cases e:H lh with
  |none=>rfl
  |some o=>
   by_cases hl:lh∈muH b a
   ·obtain⟨o',e'⟩:=w2.at' lh hl
    rw[e']at hlh;cases hlh
   ·rw[km2 _ _ hl (S _ _ e)]at hlh;cases hlh
 have nh:=w.new fh
 have mh:lm≠lh:=aq (km2 _ _ nm em) hlh
 have fx:Fx H b a kd lm lh:=⟨hkd,fm,fh,nm,nh,mh⟩
 have lk:LK A H (upd H2 lh (.lst [.ref p])) g x f b B a kd lm lh g2 (n+200) .bare [] [] [] [] [.ref p]:=
  ⟨w3,sub2,S3 _ _ (km2 _ _ nk ek),⟨UC,QK _,fun _=>rfl⟩,S3 _ _ (km2 _ _ nm em),rfl,fun h=>(nomatch h),fun _ h=>(nomatch h),eh,((KM.same S).trans km2).trans (KM.same S3)⟩
 generalize upd H2 lh (.lst [.ref p])=H3 at*
 have sq0:=sq
 refine .inl (.inl ⟨_,CO sq nca lk.km,?_⟩)
 refine⟨_,rfl,by omega,?_,?_⟩
 ·rw[QC];omega
 rw[Tq]
 refine pF (lo:=0) (n:=(cs.map V.int).length) (fun i σ H'=>∃(x7 x8 x9:Option V)(g':List Key->Option Key)(n':Nat)(t:Kn Str)(ts:List (Kn Str))(ys:List Addr)(kn:List (Nat×Str))(ds:List Addr)(hs:List V),σ=[some (.ref x),some (.ref ca),some (.int (B:Int)),some (.int 7),some (.ref kd),some (.ref lm),some (.ref lh),x7,x8,x9]/\LK A H H' g x f b B a kd lm lh g' n' t ts ys kn ds hs/\n'<=205+210*i/\kn.length<=i/\ts.length<=7/\hs.length=ts.length+1)
  ⟨none,none,none,g2,n+200,.bare,[],[],[],[],[.ref p],rfl,lk,by omega,gV _,QK _,rfl⟩ ?_ ?_
 ·rintro i σ H4 hi ⟨x7,x8,x9,g4,n4,t,ts,ys,kn,ds,hs,rfl,l4,hn4,kl,tl,hl⟩
  rw[QC]at hi
  have sq4:=CO sq nca l4.km
  obtain⟨v,hv⟩:=kE (xs:=cs.map V.int) (i:=0+(i:Int)) (by omega) (by rw[QC];omega)
  obtain⟨j,_,hj,_⟩:=fH hv
  obtain⟨c,_,rfl⟩:=gM hj
  refine .inl (.inl ⟨ca,_,_,_,rfl,rfl,sq4,hv,c,_,rfl,fun z hz=>⟨by decide,?_⟩⟩)
  have els:∀D:fV,(∀(x9:Option V)(g':List Key->Option Key)(H':Hp)(t':Kn Str)(kn':List (Nat×Str)),LK A H H' g x f b B a kd lm lh g' (n4+65) t' ts ys kn' ds hs->kn'.length<=kn.length+1->D.nx [some (.ref x),some (.ref ca),some (.int (B:Int)),some (.int 7),some (.ref kd),some (.ref lm),some (.ref lh),some (.int (0+(i:Int))),some (.int z),x9] H')->OQ K A D [some (.ref x),some (.ref ca),some (.int (B:Int)),some (.int 7),some (.ref kd),some (.ref lm),some (.ref lh),some (.int (0+(i:Int))),some (.int z),x9] H4:=fun D kD=>by
   refine .inl (.inl ⟨ca,_,_,_,rfl,rfl,sq4,hv,⟨by decide,by decide⟩,kd,c,z/9,B,kn,rfl,l4.hk,by omega,l4.kb,B1,B60,fun key H5 S5 hkey=>?_⟩)
   have l5:=l4.same S5 (gV _)
   have dg:eE H5 kd (.int (key:Int)) ((aM B key t).map V.str):=by
    rw[<-l5.kno.eq,<-ou];exact eE.k (k:=.inl (key:Int)) l5.hk
   refine .inl ⟨kd,_,rfl,dg,?_⟩
   cases hf:aM B key t with
   |none=>exact Sel.f (Sel.f (rZ fx l5 (by omega) (by omega) hkey fun g' H' t' kn' l6 ln=>kD _ g' H' t' kn' l6 ln))
   |some zz=>exact Sel.t ⟨⟨by decide,by decide⟩,by decide,Sel.dec (fun _=>wl fx l5 (by omega) (by omega) hkey hf fun g' H' t' kn' l6 ln=>kD _ g' H' t' kn' l6 (by omega)) (fun _=>rZ fx l5 (by omega) (by omega) hkey fun g' H' t' kn' l6 ln=>kD _ g' H' t' kn' l6 ln)⟩
  have fin:∀(x9:Option V)(g':List Key->Option Key)(H':Hp)(t':Kn Str)(kn':List (Nat×Str)),LK A H H' g x f b B a kd lm lh g' (n4+65) t' ts ys kn' ds hs->kn'.length<=kn.length+1->∃(x7 x8 x9':Option V)(g'':List Key->Option Key)(n':Nat)(t:Kn Str)(ts':List (Kn Str))(ys:List Addr)(kn:List (Nat×Str))(ds:List Addr)(hs:List V),[some (.ref x),some (.ref ca),some (.int (B:Int)),some (.int 7),some (.ref kd),some (.ref lm),some (.ref lh),some (.int (0+(i:Int))),some (.int z),x9]=[some (.ref x),some (.ref ca),some (.int (B:Int)),some (.int 7),some (.ref kd),some (.ref lm),some (.ref lh),x7,x8,x9']/\LK A H H' g x f b B a kd lm lh g'' n' t ts' ys kn ds hs/\n'<=205+210*(i+1)/\kn.length<=i+1/\ts'.length<=7/\hs.length=ts'.length+1:=fun x9 g' H' t' kn' l ln=>⟨_,_,_,g',n4+65,t',ts,ys,kn',ds,hs,rfl,l,by omega,by omega,tl,hl⟩
  refine Sel.dec (fun h1=>.inl (.inl ⟨_,SqL.of l4.hm,Sel.dec (fun h2=>?_) (fun h2=>els _ fin)⟩)) (fun h1=>Sel.f (els _ fin))
  rw[QC,l4.dl]at h2
  have h2:(ts.length:Int)<7:=h2
  exact pC fx l4 (by omega) (by omega) (by omega) (by omega) fun d p y v g' H' l5 _ _ _=>⟨_,_,_,g',n4+210,t,ts++[t],ys++[y],kn,ds++[d],hs++[.ref p],rfl,l5,by omega,by omega,by rw[QP];show ts.length+1<=7;omega,by rw[QP,QP,hl];rfl⟩
 ·rintro σ H4 ⟨x7,x8,x9,g4,n4,t,ts,ys,kn,ds,hs,rfl,l4,hn4,kl,tl,hl⟩
  rw[QC]at hn4 kl
  refine pC (D:={nx:=fun σ' H'=>aC (dm (af (ac 5) (af (ac 6) (aj)))) {nx:=fun _ H'=>Q .non H',rt:=Q} σ' H',rt:=Q}) fx l4 (by omega) (by omega) (by omega) (by omega) fun d p y v g' H' l5 hp sv nw=>?_
  refine⟨aO (show 2<=1000000 by decide),fun r hr=>?_⟩
  have S6:=au.upd (o:=.lst [.ref lm,.ref lh]) hr
  have l6:=l5.same S6 (gV _)
  have el:(ts++[t]).length=ts.length+1:=by rw[QP];rfl
  refine q r lm lh p hs v g' (n4+210) t (ts++[t]) (ys++[y]) _ l6.km l6.w (by omega) l6.sub (by rw[l6.rl];omega) (by omega) (by omega) ag ⟨ds++[d],l6.hm,l6.dl,l6.bks⟩ l6.hh ?_ sv ?_
  ·rw[el];exact S6 _ _ hp
  ·rw[el]
   obtain⟨kvs,yy,hD,r⟩:=nw
   exact⟨kvs,yy,S6 _ _ hD,r⟩
def BH {H:Hp}{Q:VK}{p r:Addr}{d:Dat}(hp:aV H (.ref p) d)(hr:aV H (.ref r) d)(ok:okD d=true)(dp:(eS d).depth<=150)(q:Q (.bl false) H):ir K (.ref p) (.ref r) H Q:=
 ⟨_,_,hp.toV ok,hr.toV ok,dE ok,dE ok,dp,by rw[Vm _ (dE ok)];exact q⟩
def NwV.uniq {D:Addr}{H H':Hp}{g g':gOp}{n:Nat}{v v':Key}(h:NwV D H g n v)(h':NwV D H' g' n v')(sub:Sub g g')(cu:bi D H H'):v=v':=by
 obtain⟨k,y,hD,e1,e2⟩:=h
 obtain⟨k',y',hD',e1',e2'⟩:=h'
 obtain⟨k2,hD2,s⟩:=cu k hD
 have:=s _ _ e1
 rw[mE hD2 hD',e1']at this
 cases this
 have:=sub _ _ e2
 rw[e2']at this
 exact(QZ this).symm
structure CkA (A:Adr)(H:Hp)(b:Addr)(a:HA)(x cr nm:Addr)(zs:List Addr):Prop where
 hc:H cr=some (.lst (zs.map V.ref))
 hn:H nm=some (.lst (cU.map V.str))
 ln:zs.length=6
 ps:∀(i:Nat)(y:Addr),zs[i]?=some y->∃w,cU[i]?=some w/\CrA A H y x w
 nc:cr∉muH b a
 nn:nm∉muH b a
 nz:∀y∈zs,y∉muH b a
def CkA.km {H H':Hp}{b:Addr}{a:HA}{x cr nm:Addr}{zs:List Addr}(h:CkA A H b a x cr nm zs)(k:KM (muH b a) H H'):CkA A H' b a x cr nm zs:=
 ⟨k _ _ h.nc h.hc,k _ _ h.nn h.hn,h.ln,fun i y e=>let ⟨w,e2,dx,hy⟩:=h.ps i y e;⟨w,e2,dx,k _ _ (h.nz y (Rp e)) hy⟩,h.nc,h.nn,h.nz⟩
def Mi {H:Hp}{pt pl:Addr}(ht:H pt=some (.tup [.str "cut"]))(hl:H pl=some (.lst [.str "cut"])):∀z∈([.str "plain",.str "",.str "Cut",.str "cut ",.non,.bl true,.int 1,.ref pt,.ref pl]:List V),∃d,aV H z d/\okD d=true/\(eS d).depth<=2/\sT d=false:=fun z hz=>by
 simp only[QG,Rc,or_false]at hz
 rcases hz with rfl|rfl|rfl|rfl|rfl|rfl|rfl|rfl|rfl
 ·exact⟨_,.str _,by decide+kernel,QK 2,by decide+kernel⟩
 ·exact⟨_,.str _,by decide+kernel,QK 2,by decide+kernel⟩
 ·exact⟨_,.str _,by decide+kernel,QK 2,by decide+kernel⟩
 ·exact⟨_,.str _,by decide+kernel,QK 2,by decide+kernel⟩
 ·exact⟨_,.non,rfl,QK 2,rfl⟩
 ·exact⟨_,.bl _,rfl,QK 2,rfl⟩
 ·exact⟨_,.int _,rfl,QK 2,rfl⟩
 ·exact⟨_,.tup ht (.cons (.str _) .nil),by decide+kernel,by decide+kernel,rfl⟩
 ·exact⟨_,.lst hl (.cons (.str _) .nil),by decide+kernel,by decide+kernel,rfl⟩
def LT {Q:VK}{H:Hp}{x:Addr}{y0 y1 y2 y3 y5 y6 y7 y8 y9 y10 y11 y12 y13 y14 y15:Option V}(q:∀H',Q (.bl true) H'):
  ue K A {nx:=fun _ H'=>Q .non H',rt:=Q} [y0,y1,y2,y3,some (.ref x),y5,y6,y7,y8,y9,y10,y11,y12,y13,y14,y15] H:=by
 refine⟨aO (show 1<=1000000 by decide),fun pt hpt=>⟨aO (show 1<=1000000 by decide),fun pl hpl=>⟨aO (show 9<=1000000 by decide),fun pw hpw=>⟨pw,rfl,.inl ⟨⟨_,SqL.of ag⟩,?_⟩⟩⟩⟩⟩
 have S2:=au.upd (o:=.lst [.str "cut"]) hpl
 have S3:=au.upd (o:=.lst [.str "plain",.str "",.str "Cut",.str "cut ",.non,.bl true,.int 1,.ref pt,.ref pl]) hpw
 have ht:=S3 _ _ (S2 _ _ (ag (H:=H) (a:=pt) (o:=.tup [.str "cut"])))
 have hl:=S3 _ _ (ag (a:=pl) (o:=.lst [.str "cut"]))
 have hw:upd (upd (upd H pt (.tup [.str "cut"])) pl (.lst [.str "cut"])) pw (.lst [.str "plain",.str "",.str "Cut",.str "cut ",.non,.bl true,.int 1,.ref pt,.ref pl]) pw=some (.lst [.str "plain",.str "",.str "Cut",.str "cut ",.non,.bl true,.int 1,.ref pt,.ref pl]):=ag
 generalize upd (upd (upd H pt (.tup [.str "cut"])) pl (.lst [.str "cut"])) pw (.lst [.str "plain",.str "",.str "Cut",.str "cut ",.non,.bl true,.int 1,.ref pt,.ref pl])=H1 at*
 have jk:=Mi ht hl
 refine jG (xs:=[.str "plain",.str "",.str "Cut",.str "cut ",.non,.bl true,.int 1,.ref pt,.ref pl]) (fun i σ H'=>∃x15,σ=[y0,y1,y2,y3,some (.ref x),y5,y6,y7,y8,y9,y10,y11,y12,y13,y14,x15]/\au H1 H') ⟨y15,rfl,au.rfl'⟩ (fun i σ H' _ h=>?_) (fun i z σ H' hz h=>?_) (fun σ H' h=>q H')
 ·obtain⟨_,_,S⟩:=h
  exact SqL.of (S _ _ hw)
 ·obtain⟨x15,rfl,S⟩:=h
  obtain⟨d,dw,ok,dp,nw⟩:=jk z (Rp hz)
  exact⟨_,z,d,rfl,dw.mono S,ok,dp,nw,fun H2 S2=>Sel.f ⟨_,rfl,S.trans S2⟩⟩
section
variable {H:Hp}{x f b:Addr}{g:gOp}{n B:Nat}{a:HA}{t:Kn Str}{ts:List (Kn Str)}{ys:List Addr}{cr nm:Addr}{zs:List Addr}
def ua {c:Nat}{v:Key}(sv:smE v):okD (.tup [.int (c:Int),bA v])=true/\(eS (.tup [.int (c:Int),bA v])).depth<=150:=by
 have h1:sD 1 (.tup [.int (c:Int),bA v]):=by
  refine cx (n:=0) (aZ ⟨rfl,gV 0⟩ (aZ ?_ cL))
  have ok:=sv.1
  cases v with
  |inl i=>exact⟨rfl,gV 0⟩
  |inr z=>exact⟨ok,gV 0⟩
 exact⟨h1.1,Rl h1.2 (by decide)⟩
def lp {H:Hp}{p:Addr}{c:Nat}{v:Key}(h:H p=some (.tup [.int (c:Int),kV v])):aV H (.ref p) (.tup [.int (c:Int),bA v]):=.tup h (.cons (.int _) (.cons (sG v) .nil))
def MV {Q:VK}{y0 y1 y2 y3 y7 y8 y9 y10 y11 y12 y13 y14 y15:Option V}(w:HoS A H x f b g n B a t ts ys)(hn:n<=42500)(ck:CkA A H b a x cr nm zs)(q:∀H',Q (.bl true) H'):
  uf K A {nx:=fun _ H'=>Q .non H',rt:=Q} [y0,y1,y2,y3,some (.ref x),some (.ref nm),some (.ref cr),y7,y8,y9,y10,y11,y12,y13,y14,y15] H:=by
 have zl:(zs.map V.ref).length=6:=by rw[QC,ck.ln]
 refine⟨cr,rfl,.inl ⟨⟨_,SqL.of ck.hc⟩,jG (xs:=zs.map V.ref) (fun i σ H'=>∃x9 g',σ=[y0,y1,y2,y3,some (.ref x),some (.ref nm),some (.ref cr),y7,y8,x9,y10,y11,y12,y13,y14,y15]/\HoS A H' x f b g' (n+400*i) B a t ts ys/\CkA A H' b a x cr nm zs) ⟨y9,g,rfl,w,ck⟩ (fun i σ H' _ h=>?_) (fun i z σ H' hz h=>?_) (fun σ H' h=>?_)⟩⟩
 ·obtain⟨_,_,_,_,c⟩:=h
  exact SqL.of c.hc
 ·obtain⟨x9,g1,rfl,w1,c1⟩:=h
  obtain⟨y,hy,rfl⟩:=gM hz
  have hi:i<6:=by rw[<-ck.ln];exact(QY.mp hy).1
  obtain⟨way,_,dy,ey⟩:=c1.ps i y hy
  refine⟨y,dy,_,rfl,ey,rfl,y,x,way,f,b,g1,n+400*i,B,a,t,ts,ys,rfl,⟨dy,ey⟩,w1.hs,x,f,b,g1,n+400*i,B,a,t,ts,ys,rfl,w1.hs,w1.hd,w1.s,by omega,fun p v g2 H2 k2 hs2 s2 sub2 cu2 nw2 hp sv=>?_⟩
  have w2:HoS A H2 x f b g2 (n+400*i+200) B a t ts ys:=⟨hs2,w1.hd,s2⟩
  obtain⟨dx,hx⟩:=hs2.ob
  refine⟨x,dx,_,rfl,hx,rfl,x,f,b,g2,n+400*i+200,B,a,t,ts,ys,rfl,w2.hs,w2.hd,w2.s,by omega,fun p3 v3 g3 H3 k3 hs3 s3 sub3 cu3 nw3 hp3 sv3=>?_⟩
  cases nw2.uniq nw3 sub3 cu3
  have hp2:=w2.dat k3 _ _ hp (.inr (.inl ⟨_,rfl⟩))
  obtain⟨ok,dp⟩:=ua (c:=ts.length) sv
  exact BH (lp hp2) (lp hp3) ok dp (Sel.f ⟨_,g3,rfl,⟨hs3,w1.hd,s3.same (by omega) au.rfl'⟩,(c1.km (KM.k2m k2)).km (KM.k2m k3)⟩)
 ·obtain⟨x9,g1,rfl,w1,c1⟩:=h
  exact LT q
def NQ {Q:VK}{y0 y1 y2 y3 y7 y8 y9 y10 y11 y12 y13 y14 y15:Option V}(w:HoS A H x f b g n B a t ts ys)(hn:n<=42200)(rl:(bv t).length<=50)(tl:ts.length<=8)(ck:CkA A H b a x cr nm zs)(q:∀H',Q (.bl true) H'):
  wF K A {nx:=fun _ H'=>Q .non H',rt:=Q} [y0,y1,y2,y3,some (.ref x),some (.ref nm),some (.ref cr),y7,y8,y9,y10,y11,y12,y13,y14,y15] H:=by
 obtain⟨dx,hx⟩:=w.hs.ob
 refine⟨x,dx,_,rfl,hx,rfl,x,f,b,g,n,B,a,t,ts,ys,rfl,w.hs,w.hd,w.s,by omega,by omega,by omega,fun p y v g2 H2 k2 hy hs2 s2 sub2 cu2 nw2 sv hp=>?_⟩
 have ny:a.tb∉ys++[y]:=fun q=>by
  rcases Rv.mp q with q|q
  ·exact w.hd.ny q
  ·obtain⟨m,ta⟩:=w.hs.ta
   obtain⟨dt,yt,ot,_⟩:=ta.ob
   rw[<-QR.mp q,ot]at hy;cases hy
 have w2:HoS A H2 x f b g2 (n+210) B a t (ts++[t]) (ys++[y]):=⟨hs2,⟨w.hd.nd,ny⟩,s2⟩
 exact MV w2 (by omega) (ck.km (k2.sub FJ)) q
end
def mx.km {H H':Hp}{B l k:Nat}(h:mx H B l k)(kd:∀z o,H z=some o->iw o->H' z=some o):mx H' B l k:=by
 obtain⟨ds,e,l,h⟩:=h
 exact⟨ds,kd _ _ e (.inl ⟨_,rfl⟩),l,fun d hd=>let ⟨kn,e,r⟩:=h d hd;⟨kn,kd _ _ e (.inr (.inr ⟨_,rfl⟩)),r⟩⟩
section
variable {H:Hp}{x f b:Addr}{g:gOp}{n B:Nat}{a:HA}{t:Kn Str}{ts:List (Kn Str)}{ys:List Addr}{cr nm:Addr}{zs:List Addr}
def ug {H:Hp}{p:Addr}{ds:List Dat}(h:aV H (.ref p) (.tup ds)):tyN H (.ref p)=some "tuple":=by
 cases h with
 |tup e _=>unfold tyN;dsimp only;rw[e]
def Aw {B:Nat}{ts:List (Kn Str)}{a:HA}{g:gOp}{H:Hp}{w q:Str}{qs:List Dat}{d:Dat}(h:AnV B ts a g H q qs d):∃ds,ft w q d=.tup ds:=by
 cases h with
 |gr _ _ _=>exact⟨_,iK⟩
 |pl _ _ _ _ _=>exact⟨_,iJ⟩
 |fu _ _ _ _ _=>exact⟨_,iU⟩
 |st _ _ _ _ _=>exact⟨_,iR⟩
def Nd {Q:VK}{y0 y8 y9:Option V}{ca lm:Addr}{cs:List Int}{cut:Int}(w:HoS A H x f b g n B a t ts ys)(hn:n<=26200)(rl:(bv t).length<=50)(t1:1<=ts.length)(tl:ts.length<=8)(ck:CkA A H b a x cr nm zs)(hca:H ca=some (.lst (cs.map V.int)))(lc:cs.length<=40)(ec:cut=(cs.length:Int)/2)(bk:mx H B lm ts.length)(q:∀H',Q (.bl true) H'):
  xY K A {nx:=fun _ H'=>Q .non H',rt:=Q} [y0,some (.int (B:Int)),some (.ref ca),some (.int cut),some (.ref x),some (.ref nm),some (.ref cr),some (.ref lm),y8,y9,none,none,none,none,none,none] H:=by
 obtain⟨B1,B60⟩:=w.BB
 have nca:∀{H':Hp},(∀z o,H z=some o->iw o->H' z=some o)->H' ca=some (.lst (cs.map V.int)):=fun k=>k _ _ hca (.inl ⟨_,rfl⟩)
 refine .inl (.inl ⟨_,SqL.of hca,cut,_,rfl,⟨by omega,by omega,by omega,?_⟩,?_⟩)
 ·rw[QC];omega
 rw[QC]
 refine pF (lo:=cut) (n:=((cs.length:Int)- cut).toNat) (fun i σ H'=>∃(x10 x11 x12 x13 x14:Option V)(g':List Key->Option Key),σ=[y0,some (.int (B:Int)),some (.ref ca),some (.int cut),some (.ref x),some (.ref nm),some (.ref cr),some (.ref lm),y8,y9,x10,x11,x12,x13,x14,none]/\HoS A H' x f b g' (n+800*i) B a t ts ys/\CkA A H' b a x cr nm zs/\∀z o,H z=some o->iw o->H' z=some o)
  ⟨none,none,none,none,none,g,rfl,w,ck,fun z o e _=>e⟩ ?_ ?_
 ·rintro i σ H1 hi ⟨x10,x11,x12,x13,x14,g1,rfl,w1,c1,kd1⟩
  have hca1:=nca kd1
  obtain⟨v,hv⟩:=kE (xs:=cs.map V.int) (i:=cut+(i:Int)) (by omega) (by rw[QC];omega)
  obtain⟨j,_,hj,_⟩:=fH hv
  obtain⟨c,_,rfl⟩:=gM hj
  refine .inl (.inl ⟨ca,_,_,_,rfl,rfl,SqL.of hca1,hv,c,_,rfl,fun z hz=>⟨⟨by decide,by decide⟩,.inl (.inl ⟨ca,_,_,_,rfl,rfl,SqL.of hca1,hv,z/6,c,lm,B,ts.length,rfl,by omega,B1,B60,bk.km kd1,t1,by omega,fun qa wq us ds H2 S2 hqa qu dw sds=>⟨by decide,?_⟩⟩)⟩⟩)
  have w2:=w1.same S2 (gV _)
  have c2:=c1.km (KM.same S2)
  obtain⟨jj,hjj,j6⟩:∃jj:Nat,z%6=(jj:Int)/\jj<6:=⟨(z%6).toNat,by omega,by omega⟩
  have hy:zs[jj]? =some (zs[jj]'(by rw[ck.ln];exact j6)):=QQ _
  generalize zs[jj]'_=y at hy
  obtain⟨way,hway,cra⟩:=c2.ps jj y hy
  have hwm:way∈cU:=Rp hway
  refine ixL (j:=jj) c2.hc hjj (by rw[Ro,hy];rfl) ⟨y,qa,wq,us,rfl,hqa,qu,.inr ⟨x,f,b,way,g1,n+800*i,B,a,t,ts,ys,ds,cra,w2,by omega,dw,fun u g3 H3 k3 w3 sub3 cu3 cr3=>?_⟩⟩
  have c3:=c2.km (KM.k2m k3)
  have kd3:=w2.dat k3
  refine⟨by decide,ixL (j:=jj) c3.hn hjj (by rw[Ro,hway];rfl) ⟨x,qa,f,b,way,wq,us,g3,n+800*i+400,B,a,t,ts,ys,ds,rfl,hwm,kd3 _ _ hqa (.inl ⟨_,rfl⟩),qu,w3,by omega,dw.keep kd3,fun u' g4 H4 k4 w4 sub4 cu4 cr4=>?_⟩⟩
  have c4:=c3.km (KM.k2m k4)
  have kd4:=w3.dat k4
  have fin:∃(x10' x11' x12' x13' x14':Option V)(g':List Key->Option Key),([y0,some (.int (B:Int)),some (.ref ca),some (.int cut),some (.ref x),some (.ref nm),some (.ref cr),some (.ref lm),y8,y9,some (.int (cut+(i:Int))),some (.int z),some (.ref qa),some u,some u',none]:L2.St)=[y0,some (.int (B:Int)),some (.ref ca),some (.int cut),some (.ref x),some (.ref nm),some (.ref cr),some (.ref lm),y8,y9,x10',x11',x12',x13',x14',none]/\HoS A H4 x f b g' (n+800*(i+1)) B a t ts ys/\CkA A H4 b a x cr nm zs/\∀z o,H z=some o->iw o->H4 z=some o:=⟨_,_,_,_,_,g4,rfl,w4.same au.rfl' (by omega),c4,fun z o e h=>kd4 z o (kd3 z o (S2 z o (kd1 z o e h)) h) h⟩
  unfold CrR at cr3 cr4
  cases hb:(dR wq B ts.length ds&& !decide (way="hush"))with
  |false=>
   rw[hb]at cr3 cr4
   cases cr3.1 rfl
   cases cr4.1 rfl
   exact Sel.f ⟨by decide,"NoneType",rfl,by decide,"NoneType",rfl,Sel.no (by decide) fin⟩
  |true=>
   rw[hb]at cr3 cr4
   obtain⟨p3,d3,rfl,dw3,sd3,av3⟩:=cr3.2 rfl
   obtain⟨p4,d4,rfl,dw4,sd4,av4⟩:=cr4.2 rfl
   obtain⟨⟨_,bL,_⟩,_,⟨LD,_⟩,_⟩:=w.hd.all
   cases av3.uniq av4 sub4 cu4 fun o e=>k4 _ _ (QU bL) LD e
   have dw34:=dw3.keep kd4
   obtain⟨es,he⟩:=Aw (w:=way) av3
   rw[he]at dw34 dw4 sd4
   refine⟨_,_,dw34.toV sd4.1,dw4.toV sd4.1,dE sd4.1,dE sd4.1,Rl sd4.2 (by decide),?_⟩
   rw[Vm _ (dE sd4.1)]
   exact Sel.f ⟨by decide,"tuple",ug dw34,by decide,"tuple",ug dw4,Sel.no (by decide) fin⟩
 ·rintro σ H1 ⟨x10,x11,x12,x13,x14,g1,rfl,w1,c1,kd1⟩
  exact NQ w1 (by omega) rl tl c1 q
def LN (T:Txt K mg A){Q:VK}{y0:Option V}{ca lm lh p:Addr}{hs:List V}{v:Key}{cs:List Int}{cut:Int}(w:HoS A H x f b g n B a t ts ys)(hn:n<=25000)(rl:(bv t).length<=50)(t1:1<=ts.length)(tl:ts.length<=8)(ck:CkA A H b a x cr nm zs)(hca:H ca=some (.lst (cs.map V.int)))(lc:cs.length<=40)(ec:cut=(cs.length:Int)/2)(bk:mx H B lm ts.length)(hlh:H lh=some (.lst (hs++[.ref p])))(hp:H p=some (.tup [.int (ts.length:Int),kV v]))(sv:smE v)(nw:NwV a.D H g ts.length v)(q:∀H',Q (.bl true) H'):
  xV K A {nx:=fun _ H'=>Q .non H',rt:=Q} [y0,some (.int (B:Int)),some (.ref ca),some (.int cut),some (.ref x),some (.ref nm),some (.ref cr),some (.ref lm),some (.ref lh),none,none,none,none,none,none,none] H:=by
 refine⟨cr,rfl,.inl ⟨⟨_,SqL.of ck.hc⟩,jG (xs:=zs.map V.ref) (fun i σ H'=>∃x9 g',σ=[y0,some (.int (B:Int)),some (.ref ca),some (.int cut),some (.ref x),some (.ref nm),some (.ref cr),some (.ref lm),some (.ref lh),x9,none,none,none,none,none,none]/\HoS A H' x f b g' (n+200*i) B a t ts ys/\CkA A H' b a x cr nm zs/\Sub g g'/\bi a.D H H'/\∀z o,H z=some o->iw o->H' z=some o) ⟨none,g,rfl,w,ck,Sub.rfl',bi.rfl',fun z o e _=>e⟩ (fun i σ H' _ h=>?_) (fun i z σ H' hz h=>?_) (fun σ H' h=>?_)⟩⟩
 ·obtain⟨_,_,_,_,c,_⟩:=h
  exact SqL.of c.hc
 ·obtain⟨x9,g1,rfl,w1,c1,sub1,cu1,kd1⟩:=h
  obtain⟨y,hy,rfl⟩:=gM hz
  have hi:i<6:=by rw[<-ck.ln];exact(QY.mp hy).1
  obtain⟨way,_,dy,ey⟩:=c1.ps i y hy
  refine⟨y,_,dy,_,_,true,rfl,ey,T.cl_Crook,T.oi_Crook,T.ko_Crook_Line,Sel.f ?_⟩
  refine⟨y,dy,_,rfl,ey,rfl,y,x,way,f,b,g1,n+200*i,B,a,t,ts,ys,rfl,⟨dy,ey⟩,w1.hs,x,f,b,g1,n+200*i,B,a,t,ts,ys,rfl,w1.hs,w1.hd,w1.s,by omega,fun p2 v2 g2 H2 k2 hs2 s2 sub2 cu2 nw2 hp2 sv2=>?_⟩
  have w2:HoS A H2 x f b g2 (n+200*i+200) B a t ts ys:=⟨hs2,w1.hd,s2⟩
  cases nw.uniq nw2 (sub1.trans sub2) (cu1.trans cu2)
  have kd2:∀z o,H z=some o->iw o->H2 z=some o:=fun z o e h=>w1.dat k2 z o (kd1 z o e h) h
  refine nV (kd2 _ _ hlh (.inl ⟨_,rfl⟩)) ?_
  obtain⟨ok,dp⟩:=ua (c:=ts.length) sv
  refine BH (lp hp2) (lp (kd2 _ _ hp (.inr (.inl ⟨_,rfl⟩)))) ok dp ?_
  exact Sel.f ⟨_,g2,rfl,w2.same au.rfl' (by omega),c1.km (KM.k2m k2),sub1.trans sub2,cu1.trans cu2,kd2⟩
 ·obtain⟨x9,g1,rfl,w1,c1,sub1,cu1,kd1⟩:=h
  rw[QC,ck.ln]at w1
  exact Nd w1 (by omega) rl t1 tl c1 (kd1 _ _ hca (.inl ⟨_,rfl⟩)) lc ec (bk.km kd1) q
end
def tT (ns:List Int)(lo hi:Option Int):∃ms:List Int,eT (ns.map V.int) lo hi=ms.map V.int/\ms.length<=ns.length:=by
 unfold eT
 rw[<-List.map_drop,<-List.map_take]
 exact⟨_,rfl,by rw[SE,Ve];omega⟩
def Qv (T:Txt K mg A){Q:VK}{H:Hp}{x f b:Addr}{g:gOp}{B:Nat}{a:HA}{nm:Addr}{y0:Option V}{ca:Addr}{cs:List Int}{cut:Int}(w:HoS A H x f b g 5 B a .bare [] [])(B1:1<=B)(B60:B<=60)(hn:H nm=some (.lst (cU.map V.str)))(nn:nm∉muH b a)(hca:H ca=some (.lst (cs.map V.int)))(na:ca∉muH b a)(lc:cs.length<=40)(ec:cut=(cs.length:Int)/2)(q:∀H',Q (.bl true) H'):
  xX K A {nx:=fun _ H'=>Q .non H',rt:=Q} [y0,some (.int (B:Int)),some (.ref ca),some (.int cut),some (.ref x),some (.ref nm),none,none,none,none,none,none,none,none,none,none] H:=by
 refine⟨nm,rfl,.inl ⟨⟨_,SqL.of hn⟩,fun D hD=>?_⟩⟩
 refine kZ (fO.list (xs:=cU.map V.str) .non) (fun i ys H'=>∃zs:List Addr,ys=zs.map V.ref/\zs.length=i/\H' D=some (.lst ys)/\au H H'/\(∀(j:Nat)(y:Addr),zs[j]?=some y->∃w,cU[j]?=some w/\CrA A H' y x w)/\∀y∈zs,H y=none)
  (fun i ys H' _ hx=>?_) ⟨[],rfl,rfl,ag,au.upd hD,fun j y e=>(by simp at e),fun y h=>(by cases h)⟩ (fun i ys H2 hi hx=>?_) (fun ys H2 hx=>?_)
 ·obtain⟨_,_,_,_,S,_⟩:=hx
  exact SqL.of (S _ _ hn)
 ·obtain⟨zs,rfl,zl,hD2,S2,ps,fr⟩:=hx
  have hi6:i<6:=hi
  obtain⟨way,hway⟩:∃way,cU[i]?=some way:=⟨_,QQ (show i<cU.length from hi6)⟩
  have ew:(cU.map V.str).getD i .non=.str way:=by rw[Rr,Ro,hway];rfl
  rw[ew]
  refine vQ ?_
  intro y dy hy hdy ne
  have hwm:=Rp hway
  have okw:okD (.str way)=true:=(show ∀w∈cU,okD (.str w)=true by decide+kernel) way hwm
  have S:=ci (o:=.own y) (u:=.ins A.c_Crook dy []) hy hdy ne
  refine⟨y,dy,.ref x,.str way,.str way,rfl,ag,.str _,okw,QK 2,fun h=>?_,fun w' ew hm=>⟨rfl,?_⟩⟩
  ·have:decide (way∈cU)=false:=h
   rw[decide_eq_true hwm]at this;cases this
  cases ew
  have S3:au H2 (upd (upd (upd H2 dy (.own y)) y (.ins A.c_Crook dy [])) y (.ins A.c_Crook dy [("house",.ref x),("way",.str way)])):=fun z o e=>by rw[ap (aq e hy)];exact S _ _ e
  have hy3:upd (upd (upd H2 dy (.own y)) y (.ins A.c_Crook dy [])) y (.ins A.c_Crook dy [("house",.ref x),("way",.str way)]) y=some (.ins A.c_Crook dy [("house",.ref x),("way",.str way)]):=ag
  generalize upd (upd (upd H2 dy (.own y)) y (.ins A.c_Crook dy [])) y (.ins A.c_Crook dy [("house",.ref x),("way",.str way)])=H3 at S3 hy3⊢
  refine⟨S3 _ _ hD2,by rw[QC];exact cB (by omega),CWd.next hi ⟨zs++[y],by rw[Rm];rfl,by rw[QP,zl];rfl,ag,fun z o e=>?_,fun j z e=>?_,fun z hz=>?_⟩⟩
  ·rw[ap (aq e hD)];exact S3 _ _ (S2 _ _ e)
  ·have nD:∀{z:Addr}{C d:Addr}{fs:List (Str×V)},H3 z=some (.ins C d fs)->upd H3 D (.lst (zs.map V.ref++[.ref y])) z=some (.ins C d fs):=fun e=>by rw[ap (bw e (S3 _ _ hD2) fun z=>nomatch z)];exact e
   by_cases hj:j<zs.length
   ·rw[SX hj]at e
    obtain⟨w',e',dz,hz⟩:=ps j z e
    exact⟨w',e',dz,nD (S3 _ _ hz)⟩
   ·rw[SR (by omega)]at e
    have hj0:j- zs.length=0:=by
     have:=(QY.mp e).1
     simp at this;omega
    rw[hj0]at e
    cases QZ e
    have:j=i:=by omega
    subst this
    exact⟨way,hway,dy,nD hy3⟩
  ·rcases Rv.mp hz with h|h
   ·exact fr z h
   ·rw[QR.mp h];exact none_of S2 hy
 ·obtain⟨zs,rfl,zl,hD2,S2,ps,fr⟩:=hx
  have w2:=w.same S2 (gV _)
  have ck:CkA A H2 b a x D nm zs:=⟨hD2,S2 _ _ hn,zl,ps,w.new hD,nn,fun y hy=>w.new (fr y hy)⟩
  have hca2:=S2 _ _ hca
  refine⟨cut,rfl,.inl (.inl ⟨ca,_,rfl,SqL.of hca2,fun L hL=>?_⟩)⟩
  obtain⟨ms,em,lm'⟩:=tT cs none (some cut)
  rw[em]
  have S3:=au.upd (o:=.lst (ms.map V.int)) hL
  have hL3:upd H2 L (.lst (ms.map V.int)) L=some (.lst (ms.map V.int)):=ag
  have nL:=w2.new hL
  generalize upd H2 L (.lst (ms.map V.int))=H3 at*
  refine⟨x,L,f,b,g,5,B,a,ms,rfl,w2.same S3 (gV _),gV _,B1,B60,SqL.of hL3,nL,by omega,fun r lm lh p hs v g' n' t ts ys H' km w' hn' sub rl t1 t8 hr bk hlh hp sv nw=>?_⟩
  refine⟨r,_,rfl,SqL.of hr,rfl,_,_,rfl,_,_,rfl,rfl,?_⟩
  exact LN T w' hn' rl t1 t8 ((ck.km (KM.same S3)).km km) (km _ _ na (S3 _ _ hca2)) lc ec bk hlh hp sv nw q
def Hi (K:cW)(A:Adr):Ln (qx K A) 1:=by rintro vs H Q E ⟨a,ns,rfl,_⟩;rfl
def JU (T:Txt K mg A):Rd (qx K A) (Qz K A) ["_law_script","_law_bits","_law_cells","_law_cut","_law_house","_law_names","_law_crooks","_law_makes","_law_heads","_law_crook","_law_k","_law_number","_law_question_here","_law_found","_law_due_here","_law_way"]:=by
 intro vs H Q E h
 obtain⟨a,ns,rfl,hs,ln,⟨tc,tn⟩,q⟩:=h
 refine⟨a,ns,0,rfl,hs,by decide,fun z0=>⟨by decide,?_⟩⟩
 obtain⟨B,hB⟩:∃B:Nat,1+z0%60=(B:Int):=⟨(1+z0%60).toNat,by omega⟩
 have B1:1<=B:=by omega
 have B60:B<=60:=by omega
 show xZ K A {nx:=fun _ H'=>Q .non H',rt:=Q} [some (.ref a),some (.int (1+z0%60)),none,none,none,none,none,none,none,none,none,none,none,none,none,none] H
 rw[hB]
 refine⟨1,rfl,41,rfl,.inl (.inl ⟨a,_,rfl,hs,fun ca hca=>?_⟩)⟩
 obtain⟨cs,em,lm,lc⟩:∃ms:List Int,eT (ns.map V.int) (some 1) (some 41)=ms.map V.int/\ms.length<=ns.length/\ms.length<=40:=by
  obtain⟨ms,e,l⟩:=tT ns (some 1) (some 41)
  refine⟨ms,e,l,?_⟩
  have:ms.length=(eT (ns.map V.int) (some 1) (some 41)).length:=by rw[e,QC]
  rw[this]
  unfold eT
  rw[SE]
  have h1:∀n d:Nat,HT.sIx n d (some 41)=min 41 n:=fun n d=>rfl
  have h2:∀n d:Nat,HT.sIx n d (some 1)=min 1 n:=fun n d=>rfl
  rw[h1,h2,QC]
  simp
  omega
 rw[em]
 have S1:=au.upd (o:=.lst (cs.map V.int)) hca
 have hca1:upd H ca (.lst (cs.map V.int)) ca=some (.lst (cs.map V.int)):=ag
 generalize upd H ca (.lst (cs.map V.int))=H1 at*
 refine .inl (.inl ⟨_,SqL.of hca1,⟨by decide,by decide⟩,?_⟩)
 rw[QC]
 refine⟨rfl,⟨#[],S1 _ _ tc,.inl rfl⟩,fun f b g H2 k2 tc2 hb s2=>?_⟩
 refine Bb (Q:=fun v H'=>aE 4 v [some (.ref a),some (.int (B:Int)),some (.ref ca),some (.int ((cs.length:Int)/2)),none,none,none,none,none,none,none,none,none,none,none,none] H' (xi K A {nx:=fun _ H'=>Q .non H',rt:=Q})) s2 (by decide) B1 B60 fun x h g3 H3 k3 hs3 fr hd s3 sub3=>?_
 have w3:HoS A H3 x f b g3 5 B h .bare [] []:=⟨hs3,hd,s3⟩
 have hca2:=k2 _ _ hca1 (bw hca1 (S1 _ _ tc) fun z=>nomatch z)
 have cb:ca≠b:=s2.nb hca2 fun _ z=>nomatch z
 have hca3:=k3 _ _ (aJ cb) hca2
 have na:ca∉muH b h:=fun hz=>by
  simp only[muH,QG,Rc,or_false]at hz
  rcases hz with e2|e2|e2|e2|e2|e2
  ·exact cb e2
  ·exact aq hca2 (fr h.tb (by simp)) e2
  ·exact aq hca2 (fr h.L (by simp)) e2
  ·exact aq hca2 (fr h.D (by simp)) e2
  ·exact aq hca2 (fr h.ml (by simp)) e2
  ·exact aq hca2 (fr h.sd (by simp)) e2
 refine⟨aO (show 6<=1000000 by decide),fun nm hnm=>?_⟩
 have S4:=au.upd (o:=.lst (cU.map V.str)) hnm
 exact Qv T (w3.same S4 (gV _)) B1 B60 ag (w3.new hnm) (S4 _ _ hca3) na lc rfl q
section
structure TP (P:Rh)(w:RF)(K:cW)(mg:Str->Option tx)(base:Heap)(A:Adr):Prop extends Txt K mg A where
 B:BM mg base
 C_70:UE base A.k_70 A.t_70
variable {P:Rh}{w:RF}{K:cW}{mg:Str->Option tx}{base:Heap}{A:Adr}(T:TP P w K mg base A)
include T
def lg:aG P w K mg base (CX1 P w) 1 A.a_83 A.d_83 ["thing"] (gA K A):=
 T.f_83.f.okS Kf (Hk K A) (MN T.1) fun _ _ _ _ _ _ hr=>
 ao (az (dS (bu jp T.z_isinstance RK (ae (aa 0) (ae (jI T.z_int boot_int) (ai)))) (eY (Ja (bu jp T.z_isinstance RK (ae (aa 0) (ae (jI T.z_bool boot_bool) (ai))))))))
def we:aG P w K mg base (CX1 P w) 2 A.a_79 A.d_79 ["thing"] (lu K A):=
 T.f_79.f.okS Mz (Ig K A) (KY T.1) fun _ _ _ _ _ _ hr=>
 ak (aX (bM (be (lg T) hr.le T.f_83 (ae (aa 0) (ai)))) (ao (az (gI oLe oLt (ar) (aa 0) (aF OW (ar) (ar))))) (aP)) (ao (az (bu jp T.z_isinstance RK (ae (aa 0) (ae (jI T.z_str boot_str) (ai))))))
def Mp:aG P w K mg base (CX1 P w) 3 A.a_81 A.d_81 ["thing"] (rn K A):=
 T.f_81.f.okS JQ (Gy K A) (Kj T.1) fun _ _ _ _ _ _ hr=>
 ak (aX (cq (bM (bu jp T.z_isinstance RK (ae (aa 0) (ae (jI T.z_tuple Um) (ai)))))) (ao (az (gx))) (aP)) (ak (aX (cq (zJ oLe oLe (ar) (bu et T.z_len RB (ae (aa 0) (ai))) (yw T.c_MOST_PARTS))) (ao (az (gx))) (aP)) (ao (az (dS (bu jp T.z_isinstance RK (ae (bp (aQ hr.units1) (aa 0) (ar) (fun _ _=>rfl)) (ae (jI T.z_str boot_str) (ai)))) (eY (bu (Qo rfl) T.z_all L2.EL (ae (xG (ys:=[]) (by exact⟨rfl,by decide+kernel,by decide+kernel,rfl,by decide+kernel,by decide+kernel⟩) (by exact .nil) (iO (aa 0)) (fun C s H fp=>mU) (fun C s H fp=>(be (we T) hr.le T.f_79 (ae (aa 0) (ai))))) (ai))))))))
def KH:aG P w K mg base (CX1 P w) 4 A.a_36 A.d_36 ["self","term"] (qI K A):=
 T.f_36.okS Nx (GH K A) (KI T.1) fun _ _ _ _ _ _ hr=>
 ak (aX (cq (bM (be (Mp T) hr.le T.f_81 (ae (aa 1) (ai))))) (ao (dI)) (aP)) (ak (aX (aS (oa hr.units150) (aa 1) (aA (aa 0))) (ao (fG hr.units1 (aA (aa 0)) (aa 1) (bu et T.z_len RB (ae (aA (aa 0)) (ai))))) (aP)) (ao (az (bp (aQ hr.units1) (aA (aa 0)) (aa 1) (fun _ _=>rfl)))))
def Kl (f c:Addr)(cl:List (Str×Addr))(Ar:RC)(outer:List Env)(s:If)(H:Hp)(E:XK)
  (hr:bB 4 (Ar.deeper (Wh eW.qual eW.scope s.heap.objs.size f (.ref c) cl))):PE (qR P w K mg base ["term","numbers"] eW.qual eW.scope f c cl Ar outer s H E).nox (uj As) (EO K A):=QE.out (
 aI (aa 1) T.cl_Numbers T.me_Numbers_number_of (KH T) hr.le T.b_36 ay (ae (aa 0) (ai)))
def Ks:lH P w K mg base 5 eW (uT K A):=
 Du rfl II (fun f c cl Ar outer s H vs cvs Q E hr hl hc h=>by
  obtain⟨a0,rfl⟩:=L2.nI hl
  obtain⟨b0,rfl⟩:=L2.nI hc
  exact⟨_,(Kl T f c cl Ar outer s H E hr).nox,JG T.1 a0 b0 H Q E h⟩)
def Kg:aG P w K mg base (CX1 P w) 1 A.a_57 A.d_57 ["_law_script","_law_k"] (qW K A):=
 T.f_57.f.okS Jf (GG K A) (KQ T.1) fun _ _ _ _ _ _ hr=>
 ak (aX (aS oLt (aa 1) (bu et T.z_len RB (ae (aa 0) (ai)))) (ao (az (bp (aQ hr.units1) (aa 0) (aa 1) (fun _ _=>rfl)))) (aP)) (ao (az (ar)))
def Mc:aG P w K mg base (CX1 P w) 2 A.a_73 A.d_73 ["thing"] (rz K A):=
 T.f_73.f.okS MF (EF K A) (LY T.1) fun _ _ _ _ _ _ hr=>
 ao (az (dS (be (lg T) hr.le T.f_83 (ae (aa 0) (ai))) (eY (gI oLe oLe (ar) (aa 0) (yw T.c_MOST_BITS)))))
def jY:nZ P w K mg base 5 (jf K A):=fun ts hts=>by
 simp only[jf,QG,Rc,or_false]at hts
 rcases hts with rfl
 ·exact(Ks T).mono (by decide)
def uI:aG P w K mg base (CX1 P w) 6 A.a_30 A.d_30 ["self","stamper","term"] (lA K A):=
 T.f_30.okS JT (HR K A) (Jr T.1) fun _ _ _ _ _ _ hr=>
 ak (bC (aa 0) (aa 2)) (ao (bC (aa 0) (rB (jY T) hr.le ay (aa 1) (ae (aa 2) (ai)))))
def FY:aG P w K mg base (CX1 P w) 7 A.a_0 A.d_0 ["self","stamper"] (nU K A):=
 T.f_0.okS Qe (JR K A) (Ow T.1) fun _ _ _ _ _ _ hr=>
 ao (bT (rJ T.mc_Knot T.cf_Knot (uI T) hr.le T.b_30 ay (ae (aa 0) (ae (aa 1) (ae (bU (ae (bo) (ai))) (ai))))))
def CG:aG P w K mg base (CX1 P w) 9 A.a_50 A.d_50 ["self","stamper","bits"] (kY K A):=
 T.f_50.okS JF (Hw K A) (Jz T.1) fun _ _ _ _ _ _ hr=>
 ak (aX (cq (bM (be (Mc T) hr.le T.f_73 (ae (aa 2) (ai))))) (ao (dI)) (aP)) (ak (bC (aa 0) (aa 1)) (ak (bC (aa 0) (aa 2)) (ao (bC (aa 0) (cX T.mk_Bare (FY T) hr.le T.mc_Bare T.b_0 ay (ae (aa 1) (ai)))))))
def IU:aG P w K mg base (CX1 P w) 1 A.a_37 A.d_37 ["self","stamper"] (rc K A):=
 T.f_37.okS JO (Ir K A) (Mn T.1) fun _ _ _ _ _ _ hr=>
 ak (bC (aa 0) (aa 1)) (ak (bC (aa 0) (cJ (ai))) (ao (bC (aa 0) (lj))))
def va:aG P w K mg base (CX1 P w) 2 A.a_74 A.d_74 ["thing"] (kP K A):=
 T.f_74.f.okS IG (HG K A) (Jt T.1) fun _ _ _ _ _ _ hr=>
 ao (az (dS (be (lg T) hr.le T.f_83 (ae (aa 0) (ai))) (eY (gI oLe oLt (ar) (aa 0) (aF kF (ar) (ar))))))
def Js:aG P w K mg base (CX1 P w) 3 A.a_76 A.d_76 ["thing"] (qo K A):=
 T.f_76.f.okS MH (GK K A) (IX T.1) fun _ _ _ _ _ _ hr=>
 ao (az (dS (bu jp T.z_isinstance RK (ae (aa 0) (ae (jI T.z_tuple Um) (ai)))) (dS (fW (bQ hr.units150) (bu et T.z_len RB (ae (aa 0) (ai))) (ar)) (dS (be (va T) hr.le T.f_74 (ae (bp (aQ hr.units1) (aa 0) (ar) (fun _ _=>rfl)) (ai))) (eY (be (we T) hr.le T.f_79 (ae (bp (aQ hr.units1) (aa 0) (ar) (fun _ _=>rfl)) (ai))))))))
def Kt:aG P w K mg base (CX1 P w) 4 A.a_68 A.d_68 ["thing"] (qy K A):=
 T.f_68.f.okS IY (Fu K A) (Jj T.1) fun _ _ _ _ _ _ hr=>
 ao (aX (cq (bM (be (Js T) hr.le T.f_76 (ae (aa 0) (ai))))) (ao (dI)) (aP))
def CW:aG P w K mg base (CX1 P w) 5 A.a_49 A.d_49 ["self","head"] (mG K A):=
 T.f_49.okS LE (FE K A) (MX T.1) fun _ _ _ _ _ _ hr=>
 ak (bT (be (Kt T) hr.le T.f_68 (ae (aa 1) (ai)))) (ao (fG hr.units1 (aA (aa 0)) (aa 1) (gx)))
def MP:aG P w K mg base (CX1 P w) 6 A.a_94 A.d_94 ["stamper"] (qO K A):=
 T.f_94.f.okS IS (FQ K A) (Nw T.1) fun _ _ _ _ _ _ hr=>
 ao (az (cJ (ae (bU (ae (bo) (ai))) (ae (bU (ae (bo) (ae (ar) (ae (rB (jY T) hr.le ay (aa 0) (ae (bU (ae (bo) (ai))) (ai))) (ai))))) (ai)))))
def Nj:aG P w K mg base (CX1 P w) 7 A.a_87 A.d_87 ["stamper"] (qD K A):=
 T.f_87.f.okS LP (Ic K A) (Mb T.1) fun _ _ _ _ _ _ hr=>
 ao (az (bU (ae (ar) (ae (rB (jY T) hr.le ay (aa 0) (ae (bp (aQ hr.units1) (be (MP T) hr.le T.f_94 (ae (aa 0) (ai))) (lf (ar)) (fun _ _=>rfl)) (ai))) (ai)))))
def MQ:aG P w K mg base (CX1 P w) 11 A.a_21 A.d_21 ["self","stamper","bits","seals"] (mS K A):=
 T.f_21.okS LU (Fe K A) (Ma T.1) fun _ _ _ _ _ _ hr=>
 ak (bC (aa 0) (cX T.mk_Table (CG T) hr.le T.mc_Table T.b_50 ay (ae (aa 1) (ae (aa 2) (ai))))) (ak (bC (aa 0) (cX T.mk_Row (IU T) hr.le T.mc_Row T.b_37 ay (ae (aa 1) (ai)))) (ak (bC (aa 0) (cJ (ai))) (ak (bC (aa 0) (aa 3)) (ao (bT (aI (aa 3) T.cl_Seals T.me_Seals_seal (CW T) hr.le T.b_49 ay (ae (be (Nj T) hr.le T.f_87 (ae (aa 1) (ai))) (ai))))))))
def Ld:aG P w K mg base (CX1 P w) 1 A.a_35 A.d_35 ["self"] (qt K A):=
 T.f_35.okS MJ (HN K A) (IL T.1) fun _ _ _ _ _ _ hr=>
 ao (bC (aa 0) (lj))
def Mm (B:BM mg base)(C:UE base A.k_70 A.t_70)(Ar:RC)(outer:List Env)(s:If)(H:Hp)(E:XK)
  (hr:bB 2 (Ar.deeper (envOfC "counting" (am lQ) s.heap.objs.size A.a_70 (.ref A.k_70)))):QMs (fw (CX1 P w) P w K mg base ["numbers"] "counting" (am lQ) A.a_70 (.ref A.k_70) Ar outer s H E).nox (bH lQ) (Gu K A (s.heap.objs.size+1)):=(
 GC (FB (aR 0 CZ.nd (su T.mk_Numbers (Ld T) hr.le T.mc_Numbers T.b_35 ay))) (IH (JY (Jl B C rfl (by rfl) (by simp<;>omega) rfl rfl rfl rfl (fun _ _ _ _ us hl=>by obtain⟨_,rfl⟩:=L2.nI hl;rfl)))))
def Jx:aG P w K mg base (CX1 P w) 3 A.a_70 A.d_70 [] (qb K A):=
 T.f_70.f.okM (caps:=fun L=>[(0,L+1)]) T.kc_70 CZ (Ii K A) (fun L p hp=>by simp only[QG,Rc,or_false]at hp;rcases hp with rfl<;>exact⟨_,rfl,rfl,rfl⟩) (fun L=>by simp) (fun Ar outer s H vs Q E hr h=>⟨_,QMs.nox (Mm T T.B T.C_70 Ar outer s H E hr),MK T.1 (s.heap.objs.size+1) (by simp) vs H Q E h⟩)
def LQ:aG P w K mg base (CX1 P w) 1 A.a_48 A.d_48 ["self"] (mZ K A):=
 T.f_48.okS Nf (Ga K A) (Ki T.1) fun _ _ _ _ _ _ hr=>
 ao (bC (aa 0) (lj))
def Qq (cdv:tx)(Ar:RC)(outer:List Env)(s:If)(H:Hp)(E:XK)
  (hr:bB 0 (Ar.deeper (envOfC "Crook.__init__" (am s_4) s.heap.objs.size A.a_4 cdv))):PSs (fw (CX1 P w) P w K mg base ["self","house","way"] "Crook.__init__" (am s_4) A.a_4 cdv Ar outer s H E) (bH s_4) (T_4 K A E):=QSs.out (
 ak (aX (aS (oa hr.units150) (aa 2) (tE T.mo_WAYS)) (ao (DX T.er_NoWay T.mc_NoWay wO)) (aP)) (ak (bC (aa 0) (aa 1)) (ao (bC (aa 0) (aa 2)))))
def GS:aG P w K mg base (CX1 P w) 1 A.a_4 A.d_4 ["self","house","way"] (sh K A):=
 T.f_4.okX OX (Lj K A) (fun cdv Ar outer s H vs Q E hr h=>⟨_,Qq T cdv Ar outer s H E hr,Pj T.1 vs H Q E h⟩)
def qH:aG P w K mg base (CX1 P w) 1 A.a_45 A.d_45 ["self"] (jz K A):=
 T.f_45.okS MS (Gv K A) (Lo T.1) fun _ _ _ _ _ _ hr=>
 ao (az (bu et T.z_len RB (ae (aA (aa 0)) (ai))))
def MR:aG P w K mg base (CX1 P w) 3 A.a_75 A.d_75 ["count","elder"] (rh K A):=
 T.f_75.f.okS Nr (Fy K A) (JI T.1) fun _ _ _ _ _ _ hr=>
 ao (az (dS (be (va T) hr.le T.f_74 (ae (aa 0) (ai))) (dS (be (lg T) hr.le T.f_83 (ae (aa 1) (ai))) (eY (gI oLe oLe (ar) (aa 1) (aa 0))))))
def vP:aG P w K mg base (CX1 P w) 4 A.a_41 A.d_41 ["self","count","elder"] (li K A):=
 T.f_41.okS JW (Hs K A) (Lu T.1) fun _ _ _ _ _ _ hr=>
 ao (az (dS (be (MR T) hr.le T.f_75 (ae (aa 1) (ae (aa 2) (ai)))) (eY (fW oLe (aa 1) (cz (aa 0) T.cl_Row T.me_Row_size (qH T) hr.le T.b_45 ay)))))
def qY:aG P w K mg base (CX1 P w) 1 A.a_72 A.d_72 ["many"] (jx K A):=
 T.f_72.f.okS KO (HV K A) (KU T.1) fun _ _ _ _ _ _ hr=>
 ao (az (aF kF (ar) (aF dG (vH Vy Vb Va ui (aF dG (aa 0) (ar))) (ar))))
def IP (n:Nat)(G:aG P w K mg base (CX1 P w) (5+2*n) A.a_46 A.d_46 ["self","first","many"] (eJ K A n)):aG P w K mg base (CX1 P w) (5+2*n+1) A.a_47 A.d_47 ["self","first","many"] (qT K A n):=
 T.f_47.okS BI (Hj K A n) (IR T.1 n) fun _ _ _ _ _ _ (hr:bB (5+2*n) _)=>
 ak (aX (aS (bQ hr.units150) (aa 2) (ar)) (ao (az (bU (ae (bo) (ai))))) (aP)) (ak (aX (aS (bQ hr.units150) (aa 2) (ar)) (ao (az (bU (ae (bo) (ae (bp (aQ hr.units1) (aA (aa 0)) (aa 1) (fun _ _=>rfl)) (ai)))))) (aP)) (ak (aR 3 BI.nd (be (qY T) hr.le T.f_72 (ae (aa 2) (ai)))) (ao (az (bU (ae (bo) (ae (aI (aa 0) T.cl_Row T.me_Row_top_of G hr.le T.b_46 ay (ae (aa 1) (ae (aa 3) (ai)))) (ae (aI (aa 0) T.cl_Row T.me_Row_top_of G hr.le T.b_46 ay (ae (aF cG (aa 1) (aa 3)) (ae (aF dG (aa 2) (aa 3)) (ai)))) (ai)))))))))
theorem jH:∀n:Nat,aG P w K mg base (CX1 P w) (5+2*n) A.a_46 A.d_46 ["self","first","many"] (eJ K A n)
 |0=>⟨fun vs H Q E h=>(CQ K A vs H Q E h).elim,fun _ _ _ H _ _ vs Q E _ _ _ _ h=>(CQ K A vs H Q E h).elim⟩
 |n+1=>show aG P w K mg base (CX1 P w) (5+2*n+1+1) A.a_46 A.d_46 ["self","first","many"] (eJ K A (n+1))from T.f_46.okS Cu (FT K A (n+1)) (LH T.1 n) fun _ _ _ _ _ _ (hr:bB (5+2*n+1) _)=>
 ak (aR 3 Cu.nd (bU (ae (aa 1) (ae (aa 2) (ai))))) (ak (aX (aS (oa hr.units150) (aa 3) (aA (aa 0))) (ao (fG hr.units1 (aA (aa 0)) (aa 3) (ud (jY T) hr.le ay (aa 0) T.cl_Row T.na_Row_stamper (ae (aI (aa 0) T.cl_Row T.me_Row_top_term (IP T n (jH n)) hr.le T.b_47 ay (ae (aa 1) (ae (aa 2) (ai)))) (ai))))) (aP)) (ao (az (bp (aQ hr.units1) (aA (aa 0)) (aa 3) (fun _ _=>rfl)))))
def KR:aG P w K mg base (CX1 P w) 146 A.a_43 A.d_43 ["self","count"] (rp K A):=
 T.f_43.okS Nk (Fp K A) (LX T.1) fun _ _ _ _ _ _ hr=>
 ak (aX (cq (bM (aI (aa 0) T.cl_Row T.me_Row_has_elder (vP T) hr.le T.b_41 ay (ae (cz (aa 0) T.cl_Row T.me_Row_size (qH T) hr.le T.b_45 ay) (ae (aa 1) (ai)))))) (ao (dI)) (aP)) (ao (az (ud (jY T) hr.le ay (aa 0) T.cl_Row T.na_Row_stamper (ae (bU (ae (bo) (ae (aa 1) (ae (aI (aa 0) T.cl_Row T.me_Row_top_of (jH T 70) hr.le T.b_46 ay (ae (ar) (ae (aa 1) (ai)))) (ai))))) (ai)))))
def qr:aG P w K mg base (CX1 P w) 147 A.a_25 A.d_25 ["self"] (hZ K A):=
 T.f_25.okS BN (Ex K A) (Nh T.1) fun _ _ _ _ _ _ hr=>
 ak (aR 1 BN.nd (cz (aA (aa 0)) T.cl_Row T.me_Row_size (qH T) hr.le T.b_45 ay)) (ao (az (bU (ae (aa 1) (ae (aI (aA (aa 0)) T.cl_Row T.me_Row_mark_at (KR T) hr.le T.b_43 ay (ae (aa 1) (ai))) (ai))))))
def BS:aG P w K mg base (CX1 P w) 1 A.a_63 A.d_63 ["_law_cell","_law_k"] (mY K A):=
 T.f_63.f.okS Kr (Gc K A) (Jd T.1) fun _ _ _ _ _ _ hr=>
 ao (az (aF dq (aF cG (aF kj (aF dq (aa 0) (ar)) (ar)) (aF kj (aF cG (aa 1) (ar)) (ar))) (ar)))
def Lv:aG P w K mg base (CX1 P w) 3 A.a_38 A.d_38 ["self","entry"] (qN K A):=
 T.f_38.okS Jc (Iq K A) (Kw T.1) fun _ _ _ _ _ _ hr=>
 ak (aX (cq (bM (be (we T) hr.le T.f_79 (ae (aa 1) (ai))))) (ao (dI)) (aP)) (ak (bT (fT Rk Rj Rn cF (aA (aa 0)) (ae (aa 1) (ai)))) (ao (az (aF dG (bu et T.z_len RB (ae (aA (aa 0)) (ai))) (ar)))))
def Jy:aG P w K mg base (CX1 P w) 1 A.a_52 A.d_52 ["self"] (qq K A):=
 T.f_52.okS NA (Fq K A) (Nm T.1) fun _ _ _ _ _ _ hr=>
 ao (az (aA (aA (aa 0))))
def MA:aG P w K mg base (CX1 P w) 11 A.a_54 A.d_54 ["self"] (qB K A):=
 T.f_54.okS CP (GY K A) (Ll T.1) fun _ _ _ _ _ _ hr=>
 ak (aR 1 CP.nd (cX T.mk_Table (CG T) hr.le T.mc_Table T.b_50 ay (ae (aA (aa 0)) (ae (aA (aa 0)) (ai))))) (ak (bC (aa 1) (aA (aa 0))) (ao (az (aa 1))))
def vW:aG P w K mg base (CX1 P w) 148 A.a_24 A.d_24 ["self"] (jw K A):=
 T.f_24.okS Cw (HI K A) (Jb T.1) fun _ _ _ _ _ _ hr=>
 ak (bT (aI (aA (aa 0)) T.cl_Row T.me_Row_add (Lv T) hr.le T.b_38 ay (ae (cz (aA (aa 0)) T.cl_Table T.me_Table_root (Jy T) hr.le T.b_52 ay) (ai)))) (ak (bT (fT Rk Rj Rn cF (aA (aa 0)) (ae (cz (aA (aa 0)) T.cl_Table T.me_Table_twin (MA T) hr.le T.b_54 ay) (ai)))) (ak (aR 1 Cw.nd (cz (aa 0) T.cl_House T.me_House_newest (qr T) hr.le T.b_25 ay)) (ak (bT (aI (aA (aa 0)) T.cl_Seals T.me_Seals_seal (CW T) hr.le T.b_49 ay (ae (aa 1) (ai)))) (ao (az (aa 1))))))
def Nt:aG P w K mg base (CX1 P w) 1 A.a_60 A.d_60 ["_law_cell","_law_bits"] (mT K A):=
 T.f_60.f.okS CS (EU K A) (ML T.1) fun _ _ _ _ _ _ hr=>
 ak (aR 2 CS.nd (aF kF (ar) (aa 1))) (ak (aX (aS (bQ hr.units150) (aF dq (aa 0) (ar)) (ar)) (ao (az (aF dq (aF cv (aa 0) (ar)) (aa 2)))) (aP)) (ak (aX (aS (bQ hr.units150) (aF dq (aa 0) (ar)) (ar)) (ao (az (aF dq (aF kj (aF cv (aa 0) (ar)) (ar)) (aa 2)))) (aP)) (ao (az (aF dG (aF dG (aa 2) (ar)) (aF dq (aF cv (aa 0) (ar)) (aa 2)))))))
def uF:aG P w K mg base (CX1 P w) 2 A.a_61 A.d_61 ["_law_known","_law_cell","_law_number","_law_bits"] (jb K A):=
 T.f_61.f.okS qF (HF K A) (KD T.1) fun _ _ _ _ _ _ hr=>
 ak (aR 4 qF.nd (bu (EK rfl) T.z_sorted boot_sorted (ae (aa 0) (ai)))) (ak (aR 5 qF.nd (aF dq (aa 2) (ar))) (ak (aX (x_w (ij (aS (bQ hr.units150) (aa 5) (ar)) (gp (aS (bQ hr.units150) (aa 4) (cJ (ai)))))) (ao (az (be (Nt T) hr.le T.f_60 (ae (aa 1) (ae (aa 3) (ai)))))) (aP)) (ak (aR 6 qF.nd (bp (aQ hr.units1) (aa 4) (aF dq (aF cv (aa 2) (ar)) (bu et T.z_len RB (ae (aa 4) (ai)))) (fun _ _=>rfl))) (ak (aX (aS (bQ hr.units150) (aa 5) (ar)) (ao (az (aa 6))) (aP)) (ao (az (aF zX (aa 6) (aF kF (ar) (aF dq (aF cv (aa 2) (ar)) (aa 3))))))))))
def iX:aG P w K mg base (CX1 P w) 2 A.a_77 A.d_77 ["bits","thing"] (gi K A):=
 T.f_77.f.okS LW (EW K A) (Ke T.1) fun _ _ _ _ _ _ hr=>
 ao (az (dS (be (lg T) hr.le T.f_83 (ae (aa 1) (ai))) (eY (gI oLe oLt (ar) (aa 1) (aF kF (ar) (aa 0))))))
def Gb:aG P w K mg base (CX1 P w) 1 A.a_1 A.d_1 ["self","bits","key"] (oS K A):=
 T.f_1.okS Px (Nb K A) (OC T.1) fun _ _ _ _ _ _ hr=>
 ao (az (dO))
def Cf:aG P w K mg base (CX1 P w) 1 A.a_32 A.d_32 ["self","bits","key"] (kO K A):=
 T.f_32.okS Ku (GX K A) (Me T.1) fun _ _ _ _ _ _ hr=>
 ao (az (jL (aS (bQ hr.units150) (aa 2) (aA (aa 0))) (aA (aa 0)) (dO)))
def qj:aG P w K mg base (CX1 P w) 1 A.a_89 A.d_89 ["bits","key","depth"] (jO K A):=
 T.f_89.f.okS KS (Gk K A) (Jq T.1) fun _ _ _ _ _ _ hr=>
 ao (az (aF Ng (aF Hm (aa 1) (aF dG (aF dG (aa 0) (aa 2)) (ar))) (ar)))
def qA:aG P w K mg base (CX1 P w) 2 A.a_18 A.d_18 ["self","bits","key"] (ii K A):=
 T.f_18.okS IZ (ED K A) (Lz T.1) fun _ _ _ _ _ _ hr=>
 ao (az (jL (aS (bQ hr.units150) (be (qj T) hr.le T.f_89 (ae (aa 1) (ae (aa 2) (ae (aA (aa 0)) (ai))))) (ar)) (aA (aa 0)) (aA (aa 0))))
theorem BL:∀n:Nat,aG P w K mg base (CX1 P w) (2+n) A.a_16 A.d_16 ["self","bits","key"] (jJ K A n)
 |0=>⟨fun vs H Q E h=>(BQ K A vs H Q E h).elim,fun _ _ _ H _ _ vs Q E _ _ _ _ h=>(BQ K A vs H Q E h).elim⟩
 |n+1=>T.f_16.okS LC (FG K A (n+1)) (JM T.1 n) fun _ _ _ _ _ _ (hr:bB (2+n) _)=>
 ao (az (eP (aI (aa 0) T.cl_Fork T.me_Fork_toward (qA T) hr.le T.b_18 ay (ae (aa 1) (ae (aa 2) (ai)))) (mdc T.cl_Bare T.me_Bare_found (Gb T) hr.le T.b_1 ay (mdc T.cl_Leaf T.me_Leaf_found (Cf T) hr.le T.b_32 ay (mdc T.cl_Fork T.me_Fork_found (BL n) hr.le T.b_16 ay (mdn rfl)))) (ae (aa 1) (ae (aa 2) (ai)))))
def De:aG P w K mg base (CX1 P w) 73 A.a_55 A.d_55 ["self","key"] (nA K A):=
 T.f_55.okS Ml (GL K A) (KL T.1) fun _ _ _ _ _ _ hr=>
 ak (aX (cq (bM (be (iX T) hr.le T.f_77 (ae (aA (aa 0)) (ae (aa 1) (ai)))))) (ao (dI)) (aP)) (ao (az (eP (aA (aa 0)) (mdc T.cl_Bare T.me_Bare_found (Gb T) hr.le T.b_1 ay (mdc T.cl_Leaf T.me_Leaf_found (Cf T) hr.le T.b_32 ay (mdc T.cl_Fork T.me_Fork_found (BL T 70) hr.le T.b_16 ay (mdn rfl)))) (ae (aA (aa 0)) (ae (aa 1) (ai))))))
def Ey:aG P w K mg base (CX1 P w) 1 A.a_3 A.d_3 ["self","stamper","bits","key"] (og K A):=
 T.f_3.okS Pa (MI K A) (Ox T.1) fun _ _ _ _ _ _ hr=>
 ao (az (aa 0))
def BO:aG P w K mg base (CX1 P w) 9 A.a_34 A.d_34 ["self","stamper","bits","key"] (kR K A):=
 T.f_34.okS IN (HM K A) (JE T.1) fun _ _ _ _ _ _ hr=>
 ao (az (jL (aS (bQ hr.units150) (aa 3) (aA (aa 0))) (cX T.mk_Bare (FY T) hr.le T.mc_Bare T.b_0 ay (ae (aa 1) (ai))) (aa 0)))
def CY:aG P w K mg base (CX1 P w) 2 A.a_14 A.d_14 ["self","bits","key"] (lG K A):=
 T.f_14.okS Kh (Ih K A) (LO T.1) fun _ _ _ _ _ _ hr=>
 ao (az (jL (aS (bQ hr.units150) (be (qj T) hr.le T.f_89 (ae (aa 1) (ae (aa 2) (ae (aA (aa 0)) (ai))))) (ar)) (aA (aa 0)) (aA (aa 0))))
def qm:aG P w K mg base (CX1 P w) 7 A.a_13 A.d_13 ["self","stamper","depth","begin","left","right"] (im K A):=
 T.f_13.okS IF (Fl K A) (JJ T.1) fun _ _ _ _ _ _ hr=>
 ak (bT (rJ T.mc_Knot T.cf_Knot (uI T) hr.le T.b_30 ay (ae (aa 0) (ae (aa 1) (ae (bU (ae (bo) (ae (aa 2) (ae (aa 3) (ae (aA (aa 4)) (ae (aA (aa 5)) (ai))))))) (ai)))))) (ak (bC (aa 0) (aa 2)) (ak (bC (aa 0) (aa 3)) (ak (bC (aa 0) (aa 4)) (ao (bC (aa 0) (aa 5))))))
def BG:aG P w K mg base (CX1 P w) 9 A.a_15 A.d_15 ["self","stamper","bits","key","knot"] (nj K A):=
 T.f_15.okS Kp (HU K A) (Mw T.1) fun _ _ _ _ _ _ hr=>
 ak (aX (aS (bQ hr.units150) (be (qj T) hr.le T.f_89 (ae (aa 2) (ae (aa 3) (ae (aA (aa 0)) (ai))))) (ar)) (ao (az (cX T.mk_Fork (qm T) hr.le T.mc_Fork T.b_13 ay (ae (aa 1) (ae (aA (aa 0)) (ae (aA (aa 0)) (ae (aa 4) (ae (aA (aa 0)) (ai))))))))) (aP)) (ao (az (cX T.mk_Fork (qm T) hr.le T.mc_Fork T.b_13 ay (ae (aa 1) (ae (aA (aa 0)) (ae (aA (aa 0)) (ae (aA (aa 0)) (ae (aa 4) (ai)))))))))
theorem Co:∀n:Nat,aG P w K mg base (CX1 P w) (9+n) A.a_20 A.d_20 ["self","stamper","bits","key"] (jK K A n)
 |0=>⟨fun vs H Q E h=>(CT K A vs H Q E h).elim,fun _ _ _ H _ _ vs Q E _ _ _ _ h=>(CT K A vs H Q E h).elim⟩
 |n+1=>T.f_20.okS BE (GZ K A (n+1)) (Mq T.1 n) fun _ _ _ _ _ _ (hr:bB (9+n) _)=>
 ak (aR 4 BE.nd (eP (aI (aa 0) T.cl_Fork T.me_Fork_toward (qA T) hr.le T.b_18 ay (ae (aa 2) (ae (aa 3) (ai)))) (mdc T.cl_Bare T.me_Bare_without (Ey T) hr.le T.b_3 ay (mdc T.cl_Leaf T.me_Leaf_without (BO T) hr.le T.b_34 ay (mdc T.cl_Fork T.me_Fork_without (Co n) hr.le T.b_20 ay (mdn rfl)))) (ae (aa 1) (ae (aa 2) (ae (aa 3) (ai)))))) (ak (aX (bM (bu qG T.z_isinstance RK (ae (aa 4) (ae (tE T.mc_Bare) (ai))))) (ao (az (aI (aa 0) T.cl_Fork T.me_Fork_aside (CY T) hr.le T.b_14 ay (ae (aa 2) (ae (aa 3) (ai)))))) (aP)) (ao (az (aI (aa 0) T.cl_Fork T.me_Fork_changed (BG T) hr.le T.b_15 ay (ae (aa 1) (ae (aa 2) (ae (aa 3) (ae (aa 4) (ai)))))))))
def MT:aG P w K mg base (CX1 P w) 80 A.a_53 A.d_53 ["self","key"] (mI K A):=
 T.f_53.okS Ce (HX K A) (Jh T.1) fun _ _ _ _ _ _ hr=>
 ak (aR 2 Ce.nd (aI (aa 0) T.cl_Table T.me_Table_value_of (De T) hr.le T.b_55 ay (ae (aa 1) (ai)))) (ak (aX (aS sV (aa 2) (dO)) (ao (dI)) (aP)) (ak (bC (aa 0) (eP (aA (aa 0)) (mdc T.cl_Bare T.me_Bare_without (Ey T) hr.le T.b_3 ay (mdc T.cl_Leaf T.me_Leaf_without (BO T) hr.le T.b_34 ay (mdc T.cl_Fork T.me_Fork_without (Co T 70) hr.le T.b_20 ay (mdn rfl)))) (ae (aA (aa 0)) (ae (aA (aa 0)) (ae (aa 1) (ai)))))) (ao (az (aa 2)))))
def Kz:aG P w K mg base (CX1 P w) 81 A.a_29 A.d_29 ["self","key"] (kU K A):=
 T.f_29.okS Mo (EQ K A) (Mf T.1) fun _ _ _ _ _ _ hr=>
 ao (az (aI (aA (aa 0)) T.cl_Table T.me_Table_take (MT T) hr.le T.b_53 ay (ae (aa 1) (ai))))
def Lb:aG P w K mg base (CX1 P w) 1 A.a_66 A.d_66 ["_law_number"] (lz K A):=
 T.f_66.f.okS vU (EX K A) (Kk T.1) fun _ _ _ _ _ _ hr=>
 ak (aR 1 vU.nd (bo)) (ak (aR 2 vU.nd (aF cG (bp (aQ hr.units1) (cJ (ae (ar) (ae (ar) (ae (ar) (ae (ar) (ai)))))) (aF dq (aa 0) (ar)) (fun _ _=>rfl)) (aF kj (ar) (eZ Of T.z_int L2.Gw (ae (fW (bQ hr.units150) (aF dq (aF cv (aa 0) (ar)) (ar)) (ar)) (ai)))))) (ao (az (fT PySem.F.plainAttrs_str PySem.F.slot_str_join PySem.F.type_str_join DZ (bo) (ae (xG (ys:=["_law_number","_law_letters"]) (by exact⟨rfl,by decide+kernel,by decide+kernel,rfl,by decide+kernel,by decide+kernel⟩) (by exact .cons rfl (by first|exact .inl rfl|exact .inr rfl) rfl (.cons rfl (by first|exact .inl rfl|exact .inr rfl) rfl (.nil))) (mn T.z_range (ae (aa 2) (ai))) (fun C s H fp=>mU) (fun C s H fp=>(bp (aQ hr.units1) (aa 2) (aF dq (aF cG (aF cv (aa 1) (ar)) (aF kj (ar) (aa 0))) (ar)) (fun _ _=>rfl)))) (ai))))))
def Lw:aG P w K mg base (CX1 P w) 1 A.a_82 A.d_82 ["thing"] (qi K A):=
 T.f_82.f.okS JA (Gf K A) (Ko T.1) fun _ _ _ _ _ _ hr=>
 ao (az (dS (bu jp T.z_isinstance RK (ae (aa 0) (ae (jI T.z_str boot_str) (ai)))) (eY (fW oLe (bu et T.z_len RB (ae (aa 0) (ai))) (yw T.c_MOST_SIGNS)))))
def ve:aG P w K mg base (CX1 P w) 7 A.a_31 A.d_31 ["self","stamper","key","value"] (jC K A):=
 T.f_31.okS Mr (FF K A) (Ju T.1) fun _ _ _ _ _ _ hr=>
 ak (bT (rJ T.mc_Knot T.cf_Knot (uI T) hr.le T.b_30 ay (ae (aa 0) (ae (aa 1) (ae (bU (ae (bo) (ae (aa 2) (ae (aa 3) (ai))))) (ai)))))) (ak (bC (aa 0) (aa 2)) (ao (bC (aa 0) (aa 3))))
def GP:aG P w K mg base (CX1 P w) 9 A.a_2 A.d_2 ["self","stamper","bits","key","value"] (nY K A):=
 T.f_2.okS Qk (JV K A) (Qa T.1) fun _ _ _ _ _ _ hr=>
 ao (az (cX T.mk_Leaf (ve T) hr.le T.mc_Leaf T.b_31 ay (ae (aa 1) (ae (aa 3) (ae (aa 4) (ai))))))
def vb:aG P w K mg base (CX1 P w) 1 A.a_92 A.d_92 ["bits","key","depth"] (lB K A):=
 T.f_92.f.okS KP (HH K A) (Ny T.1) fun _ _ _ _ _ _ hr=>
 ao (az (aF Hm (aa 1) (aF dG (aa 0) (aa 2))))
def CN:aG P w K mg base (CX1 P w) 9 A.a_84 A.d_84 ["stamper","bits","depth","leaf","knot"] (mO K A):=
 T.f_84.f.okS Cq (Hh K A) (IT T.1) fun _ _ _ _ _ _ hr=>
 ak (aR 5 Cq.nd (be (vb T) hr.le T.f_92 (ae (aa 1) (ae (aA (aa 3)) (ae (aa 2) (ai)))))) (ak (aX (aS (bQ hr.units150) (be (qj T) hr.le T.f_89 (ae (aa 1) (ae (aA (aa 3)) (ae (aa 2) (ai))))) (ar)) (ao (az (cX T.mk_Fork (qm T) hr.le T.mc_Fork T.b_13 ay (ae (aa 0) (ae (aa 2) (ae (aa 5) (ae (aa 3) (ae (aa 4) (ai))))))))) (aP)) (ao (az (cX T.mk_Fork (qm T) hr.le T.mc_Fork T.b_13 ay (ae (aa 0) (ae (aa 2) (ae (aa 5) (ae (aa 4) (ae (aa 3) (ai))))))))))
def Cs:aG P w K mg base (CX1 P w) 1 A.a_67 A.d_67 ["bits","one","other"] (nC K A):=
 T.f_67.f.okS KG (Fw K A) (Li T.1) fun _ _ _ _ _ _ hr=>
 ao (az (aF dG (aa 0) (vH Vy Vb Va ui (aF zX (aa 1) (aa 2)))))
def Cc:aG P w K mg base (CX1 P w) 10 A.a_33 A.d_33 ["self","stamper","bits","key","value"] (kW K A):=
 T.f_33.okS Ct (EZ K A) (Nl T.1) fun _ _ _ _ _ _ hr=>
 ak (aR 5 Ct.nd (cX T.mk_Leaf (ve T) hr.le T.mc_Leaf T.b_31 ay (ae (aa 1) (ae (aa 3) (ae (aa 4) (ai)))))) (ak (aX (aS (bQ hr.units150) (aa 3) (aA (aa 0))) (ao (az (aa 5))) (aP)) (ao (az (be (CN T) hr.le T.f_84 (ae (aa 1) (ae (aa 2) (ae (be (Cs T) hr.le T.f_67 (ae (aa 2) (ae (aa 3) (ae (aA (aa 0)) (ai))))) (ae (aa 5) (ae (aa 0) (ai))))))))))
def BV:aG P w K mg base (CX1 P w) 2 A.a_17 A.d_17 ["self","bits","key"] (nP K A):=
 T.f_17.okS MG (FO K A) (KW T.1) fun _ _ _ _ _ _ hr=>
 ao (az (fW (bQ hr.units150) (be (vb T) hr.le T.f_92 (ae (aa 1) (ae (aa 2) (ae (aA (aa 0)) (ai))))) (aA (aa 0))))
theorem CC:∀n:Nat,aG P w K mg base (CX1 P w) (10+n) A.a_19 A.d_19 ["self","stamper","bits","key","value"] (jA K A n)
 |0=>⟨fun vs H Q E h=>(CF K A vs H Q E h).elim,fun _ _ _ H _ _ vs Q E _ _ _ _ h=>(CF K A vs H Q E h).elim⟩
 |n+1=>T.f_19.okS Cy (Ho K A (n+1)) (Nq T.1 n) fun _ _ _ _ _ _ (hr:bB (10+n) _)=>
 ak (aX (cq (bM (aI (aa 0) T.cl_Fork T.me_Fork_leads (BV T) hr.le T.b_17 ay (ae (aa 2) (ae (aa 3) (ai)))))) (ak (aR 5 Cy.nd (be (Cs T) hr.le T.f_67 (ae (aA (aa 0)) (ae (aA (aa 0)) (ae (be (vb T) hr.le T.f_92 (ae (aa 2) (ae (aa 3) (ae (aA (aa 0)) (ai))))) (ai)))))) (ao (az (be (CN T) hr.le T.f_84 (ae (aa 1) (ae (aa 2) (ae (aa 5) (ae (cX T.mk_Leaf (ve T) hr.le T.mc_Leaf T.b_31 ay (ae (aa 1) (ae (aa 3) (ae (aa 4) (ai))))) (ae (aa 0) (ai)))))))))) (aP)) (ao (az (aI (aa 0) T.cl_Fork T.me_Fork_changed (BG T) hr.le T.b_15 ay (ae (aa 1) (ae (aa 2) (ae (aa 3) (ae (eP (aI (aa 0) T.cl_Fork T.me_Fork_toward (qA T) hr.le T.b_18 ay (ae (aa 2) (ae (aa 3) (ai)))) (mdc T.cl_Bare T.me_Bare_with_key (GP T) hr.le T.b_2 ay (mdc T.cl_Leaf T.me_Leaf_with_key (Cc T) hr.le T.b_33 ay (mdc T.cl_Fork T.me_Fork_with_key (CC n) hr.le T.b_19 ay (mdn rfl)))) (ae (aa 1) (ae (aa 2) (ae (aa 3) (ae (aa 4) (ai)))))) (ai))))))))
def Ji:aG P w K mg base (CX1 P w) 81 A.a_51 A.d_51 ["self","key","value"] (mL K A):=
 T.f_51.okS Cv (Hn K A) (Lp T.1) fun _ _ _ _ _ _ hr=>
 ak (aR 3 Cv.nd (aI (aa 0) T.cl_Table T.me_Table_value_of (De T) hr.le T.b_55 ay (ae (aa 1) (ai)))) (ak (aX (cq (bM (be (Lw T) hr.le T.f_82 (ae (aa 2) (ai))))) (ao (dI)) (aP)) (ak (bC (aa 0) (eP (aA (aa 0)) (mdc T.cl_Bare T.me_Bare_with_key (GP T) hr.le T.b_2 ay (mdc T.cl_Leaf T.me_Leaf_with_key (Cc T) hr.le T.b_33 ay (mdc T.cl_Fork T.me_Fork_with_key (CC T 70) hr.le T.b_19 ay (mdn rfl)))) (ae (aA (aa 0)) (ae (aA (aa 0)) (ae (aa 1) (ae (aa 2) (ai))))))) (ao (az (aa 3)))))
def Km:aG P w K mg base (CX1 P w) 82 A.a_27 A.d_27 ["self","key","value"] (lF K A):=
 T.f_27.okS Ly (Il K A) (IM T.1) fun _ _ _ _ _ _ hr=>
 ao (az (aI (aA (aa 0)) T.cl_Table T.me_Table_put (Ji T) hr.le T.b_51 ay (ae (aa 1) (ae (aa 2) (ai)))))
def Nv:aG P w K mg base (CX1 P w) 149 A.a_59 A.d_59 ["_law_house","_law_cells","_law_bits","_law_most"] (pY K A):=
 T.f_59.f.okS jg (Ib K A) (Jg T.1) fun _ _ _ _ _ _ hr=>
 ak (aR 4 jg.nd (lj)) (ak (aR 5 jg.nd (cJ (ai))) (ak (aR 6 jg.nd (cJ (ae (cz (aa 0) T.cl_House T.me_House_newest (qr T) hr.le T.b_25 ay) (ai)))) (ak (lE 7 jg.nd (mn T.z_range (ae (bu et T.z_len RB (ae (aa 1) (ai))) (ai))) (ak (aR 8 jg.nd (be (BS T) hr.le T.f_63 (ae (bp (aQ hr.units1) (aa 1) (aa 7) (fun _ _=>rfl)) (ae (aa 7) (ai))))) (ao (aX (x_w (gn (aS (bQ hr.units150) (aF dq (aa 8) (ar)) (ar)) (fK (aS oLt (bu et T.z_len RB (ae (aa 5) (ai))) (aa 3))))) (ak (bT (fT Rk Rj Rn cF (aa 5) (ae (eZ Dd T.z_dict boot_dict (ae (aa 4) (ai))) (ai)))) (ao (bT (fT Rk Rj Rn cF (aa 6) (ae (cz (aa 0) T.cl_House T.me_House_make (vW T) hr.le T.b_24 ay) (ai)))))) (ak (aR 9 jg.nd (be (uF T) hr.le T.f_61 (ae (aa 4) (ae (bp (aQ hr.units1) (aa 1) (aa 7) (fun _ _=>rfl)) (ae (aF cv (aa 8) (ar)) (ae (aa 2) (ai))))))) (ao (aX (x_w (gn (aS (NT hr.units150) (aa 9) (aa 4)) (fK (aS (bQ hr.units150) (aF dq (aF cv (aa 8) (ar)) (ar)) (ar))))) (ak (bT (fT PySem.F.plainAttrs_dict VI PySem.F.type_dict_pop Dg (aa 4) (ae (aa 9) (ai)))) (ao (bT (aI (aa 0) T.cl_House T.me_House_take (Kz T) hr.le T.b_29 ay (ae (aa 9) (ai)))))) (ak (fG hr.units1 (aa 4) (aa 9) (be (Lb T) hr.le T.f_66 (ae (aF cv (aa 8) (ar)) (ai)))) (ao (bT (aI (aa 0) T.cl_House T.me_House_put (Km T) hr.le T.b_27 ay (ae (aa 9) (ae (bp (aQ hr.units1) (aa 4) (aa 9) (fun _ _=>rfl)) (ai))))))))))))) Sr) (ak (bT (fT Rk Rj Rn cF (aa 5) (ae (eZ Dd T.z_dict boot_dict (ae (aa 4) (ai))) (ai)))) (ak (bT (fT Rk Rj Rn cF (aa 6) (ae (cz (aa 0) T.cl_House T.me_House_make (vW T) hr.le T.b_24 ay) (ai)))) (ao (az (cJ (ae (aa 5) (ae (aa 6) (ai)))))))))))
def Cz:aG P w K mg base (CX1 P w) 148 A.a_10 A.d_10 ["self"] (mH K A):=
 T.f_10.okS KA (EJ K A) (JP T.1) fun _ _ _ _ _ _ hr=>
 ao (az (cz (aA (aa 0)) T.cl_House T.me_House_newest (qr T) hr.le T.b_25 ay))
def KJ:aG P w K mg base (CX1 P w) 3 A.a_65 A.d_65 ["_law_number","_law_makes","_law_cell","_law_bits"] (qp K A):=
 T.f_65.f.okS ie (Hb K A) (Lc T.1) fun _ _ _ _ _ _ hr=>
 ak (aR 4 ie.nd (aF cG (ar) (aF dq (aa 0) (bu et T.z_len RB (ae (aa 1) (ai)))))) (ak (aR 5 ie.nd (aF dq (aF cv (aa 0) (ar)) (aa 4))) (ak (aR 6 ie.nd (be (uF T) hr.le T.f_61 (ae (bp (aQ hr.units1) (aa 1) (aa 5) (fun _ _=>rfl)) (ae (aa 2) (ae (aF cv (aa 0) (ar)) (ae (aa 3) (ai))))))) (ak (aR 7 ie.nd (be (uF T) hr.le T.f_61 (ae (bp (aQ hr.units1) (aa 1) (aa 5) (fun _ _=>rfl)) (ae (aF cv (aa 2) (ar)) (ae (aF cv (aa 0) (ar)) (ae (aa 3) (ai))))))) (ak (aR 8 ie.nd (cJ (ae (cJ (ae (bo) (ae (aa 4) (ae (aF dq (aF cv (aa 0) (ar)) (aF cG (aa 4) (ar))) (ai))))) (ae (cJ (ae (bo) (ae (aa 4) (ae (aa 5) (ai))))) (ae (cJ (ae (bo) (ae (aa 4) (ae (aa 5) (ae (aa 6) (ai)))))) (ai)))))) (ak (aR 8 ie.nd (bp (aQ hr.units1) (aF cG (aa 8) (cJ (ae (cJ (ae (bo) (ae (aa 4) (ae (aa 5) (ae (bu (Ps rfl) T.z_min boot_min (ae (aa 6) (ae (aa 7) (ai)))) (ae (bu (PZ rfl) T.z_max boot_max (ae (aa 6) (ae (aa 7) (ai)))) (ai))))))) (ai)))) (aF dq (aF cv (aa 0) (ar)) (ar)) (fun _ _=>rfl))) (ak (aX (aS (bQ hr.units150) (aF dq (aF cv (aa 0) (ar)) (ar)) (ar)) (ak (aR 9 ie.nd (aF cG (ar) (aF dq (aF cv (aa 0) (ar)) (aF dG (bu et T.z_len RB (ae (aa 8) (ai))) (ar))))) (ao (fG hr.units1 (aa 8) (aa 9) (bp (aQ hr.units1) (cJ (ae (aF kF (ar) (ar)) (ae (lf (ar)) (ae (gx) (ae (dO) (ae (bo) (ai))))))) (aF dq (aF cv (aa 0) (ar)) (ar)) (fun _ _=>rfl))))) (aP)) (ao (az (aa 8)))))))))
theorem uR:∀n:Nat,aG P w K mg base (CX1 P w) (145+n) A.a_39 A.d_39 ["self","first","many","elder"] (iZ K A n)
 |0=>⟨fun vs H Q E h=>(Cd K A vs H Q E h).elim,fun _ _ _ H _ _ vs Q E _ _ _ _ h=>(Cd K A vs H Q E h).elim⟩
 |n+1=>T.f_39.okS BK (FV K A (n+1)) (Mv T.1 n) fun _ _ _ _ _ _ (hr:bB (145+n) _)=>
 ak (aX (x_w (ij (aS (bQ hr.units150) (aa 3) (ar)) (gp (aS (bQ hr.units150) (aa 3) (aa 2))))) (ao (az (bU (ae (aI (aa 0) T.cl_Row T.me_Row_top_of (jH T 70) hr.le T.b_46 ay (ae (aa 1) (ae (aa 2) (ai)))) (ai))))) (aP)) (ak (aR 4 BK.nd (be (qY T) hr.le T.f_72 (ae (aa 2) (ai)))) (ak (aX (aS oLe (aa 3) (aa 4)) (ao (az (aF cG (aI (aa 0) T.cl_Row T.me_Row_growth_marks (uR n) hr.le T.b_39 ay (ae (aa 1) (ae (aa 4) (ae (aa 3) (ai))))) (bU (ae (aI (aa 0) T.cl_Row T.me_Row_top_of (jH T 70) hr.le T.b_46 ay (ae (aF cG (aa 1) (aa 4)) (ae (aF dG (aa 2) (aa 4)) (ai)))) (ai)))))) (aP)) (ao (az (aF cG (bU (ae (aI (aa 0) T.cl_Row T.me_Row_top_of (jH T 70) hr.le T.b_46 ay (ae (aa 1) (ae (aa 4) (ai)))) (ai))) (aI (aa 0) T.cl_Row T.me_Row_growth_marks (uR n) hr.le T.b_39 ay (ae (aF cG (aa 1) (aa 4)) (ae (aF dG (aa 2) (aa 4)) (ae (aF dG (aa 3) (aa 4)) (ai))))))))))
def Mu:aG P w K mg base (CX1 P w) 216 A.a_40 A.d_40 ["self","count","elder"] (rk K A):=
 T.f_40.okS Lf (GU K A) (Nu T.1) fun _ _ _ _ _ _ hr=>
 ak (aX (cq (bM (aI (aa 0) T.cl_Row T.me_Row_has_elder (vP T) hr.le T.b_41 ay (ae (aa 1) (ae (aa 2) (ai)))))) (ao (dI)) (aP)) (ao (az (jL (aS oGt (aa 1) (ar)) (aI (aa 0) T.cl_Row T.me_Row_growth_marks (uR T 70) hr.le T.b_39 ay (ae (ar) (ae (aa 1) (ae (aa 2) (ai))))) (bU (ai)))))
def vm:aG P w K mg base (CX1 P w) 217 A.a_23 A.d_23 ["self","count","elder"] (lC K A):=
 T.f_23.okS Na (EV K A) (Mg T.1) fun _ _ _ _ _ _ hr=>
 ao (az (jL (bM (aI (aA (aa 0)) T.cl_Row T.me_Row_has_elder (vP T) hr.le T.b_41 ay (ae (aa 1) (ae (aa 2) (ai))))) (aI (aA (aa 0)) T.cl_Row T.me_Row_growth_paper (Mu T) hr.le T.b_40 ay (ae (aa 1) (ae (aa 2) (ai)))) (dO)))
def vD:aG P w K mg base (CX1 P w) 1 A.a_9 A.d_9 ["self","answer"] (lU K A):=
 T.f_9.okS NS (Mj K A) (Oi T.1) fun _ _ _ _ _ _ hr=>
 ao (az (OS (fW sV (aa 1) (dO)) (eY (fW (bQ hr.units150) (aA (aa 0)) (bo)))))
def vt:aG P w K mg base (CX1 P w) 1 A.a_6 A.d_6 ["self","marks"] (mC K A):=
 T.f_6.okS PC (Ka K A) (Oj T.1) fun _ _ _ _ _ _ hr=>
 ak (aX (aS (bQ hr.units150) (aA (aa 0)) (bo)) (ao (az (lw nO (aa 1) (oE) (iN (lf (ar)))))) (aP)) (ak (aX (aS (bQ hr.units150) (aA (aa 0)) (bo)) (ao (az (yZ T.z_tuple T.z_reversed rfl (ae (aa 1) (ai))))) (aP)) (ak (aX (aS (bQ hr.units150) (aA (aa 0)) (bo)) (ao (az (aF cG (aa 1) (lw nO (aa 1) (iN (lf (ar))) (oE))))) (aP)) (ao (az (aa 1)))))
def vO:aG P w K mg base (CX1 P w) 1 A.a_5 A.d_5 ["self","number"] (lZ K A):=
 T.f_5.okS Oz (Np K A) (Pt T.1) fun _ _ _ _ _ _ hr=>
 ao (az (jL (x_w (gn (aS (bQ hr.units150) (aA (aa 0)) (bo)) (fK (aS oGt (aa 1) (ar))))) (aF dG (aa 1) (ar)) (aa 1)))
def PN:aG P w K mg base (CX1 P w) 218 A.a_8 A.d_8 ["self","count","elder"] (uZ K A):=
 T.f_8.okS NI (My K A) (Py T.1) fun _ _ _ _ _ _ hr=>
 ak (aX (bM (aI (aa 0) T.cl_Crook T.me_Crook_hides (vD T) hr.le T.b_9 ay (ae (aI (aA (aa 0)) T.cl_House T.me_House_growth (vm T) hr.le T.b_23 ay (ae (aa 1) (ae (aa 2) (ai)))) (ai)))) (ao (az (dO))) (aP)) (ao (az (aI (aa 0) T.cl_Crook T.me_Crook_bent (vt T) hr.le T.b_6 ay (ae (aI (aA (aa 0)) T.cl_House T.me_House_growth (vm T) hr.le T.b_23 ay (ae (aa 1) (ae (aI (aa 0) T.cl_Crook T.me_Crook_before (vO T) hr.le T.b_5 ay (ae (aa 2) (ai))) (ai)))) (ai)))))
def Ni:aG P w K mg base (CX1 P w) 3 A.a_78 A.d_78 ["count","place"] (rq K A):=
 T.f_78.f.okS IV (ID K A) (JH T.1) fun _ _ _ _ _ _ hr=>
 ao (az (dS (be (va T) hr.le T.f_74 (ae (aa 0) (ai))) (dS (be (lg T) hr.le T.f_83 (ae (aa 1) (ai))) (eY (gI oLe oLt (ar) (aa 1) (aa 0))))))
def CM:aG P w K mg base (CX1 P w) 4 A.a_42 A.d_42 ["self","count","place"] (mP K A):=
 T.f_42.okS Md (IB K A) (MZ T.1) fun _ _ _ _ _ _ hr=>
 ao (az (dS (be (Ni T) hr.le T.f_78 (ae (aa 1) (ae (aa 2) (ai)))) (eY (fW oLe (aa 1) (cz (aa 0) T.cl_Row T.me_Row_size (qH T) hr.le T.b_45 ay)))))
def KZ:aG P w K mg base (CX1 P w) 2 A.a_95 A.d_95 ["place","many"] (qZ K A):=
 T.f_95.f.okS hV (FL K A) (Kb T.1) fun _ _ _ _ _ _ hr=>
 ak (aR 2 hV.nd (cJ (ai))) (ak (aR 3 hV.nd (ar)) (ak (aR 4 hV.nd (aa 1)) (ak (ux (aS oGt (aa 4) (ar)) (ak (aR 5 hV.nd (be (qY T) hr.le T.f_72 (ae (aa 4) (ai)))) (ao (aX (aS oLt (aa 0) (aF cG (aa 3) (aa 5))) (ak (bT (fT Rk Rj Rn cF (aa 2) (ae (ar) (ai)))) (ao (aR 4 hV.nd (aa 5)))) (ak (bT (fT Rk Rj Rn cF (aa 2) (ae (ar) (ai)))) (ak (aR 3 hV.nd (aF cG (aa 3) (aa 5))) (ao (aR 4 hV.nd (aF dG (aa 4) (aa 5))))))))) Sr) (ao (az (aa 2))))))
def Le:aG P w K mg base (CX1 P w) 146 A.a_44 A.d_44 ["self","count","place"] (qC K A):=
 T.f_44.okS gB (Ik K A) (IK T.1) fun _ _ _ _ _ _ hr=>
 ak (aX (cq (bM (aI (aa 0) T.cl_Row T.me_Row_has_place (CM T) hr.le T.b_42 ay (ae (aa 1) (ae (aa 2) (ai)))))) (ao (dI)) (aP)) (ak (aR 3 gB.nd (cJ (ai))) (ak (aR 4 gB.nd (ar)) (ak (aR 5 gB.nd (aa 1)) (ak (lE 6 gB.nd (iO (be (KZ T) hr.le T.f_95 (ae (aa 2) (ae (aa 1) (ai))))) (ak (aR 7 gB.nd (be (qY T) hr.le T.f_72 (ae (aa 5) (ai)))) (ao (aX (aS (bQ hr.units150) (aa 6) (ar)) (ak (bT (fT Rk Rj Rn cF (aa 3) (ae (aI (aa 0) T.cl_Row T.me_Row_top_of (jH T 70) hr.le T.b_46 ay (ae (aF cG (aa 4) (aa 7)) (ae (aF dG (aa 5) (aa 7)) (ai)))) (ai)))) (ao (aR 5 gB.nd (aa 7)))) (ak (bT (fT Rk Rj Rn cF (aa 3) (ae (aI (aa 0) T.cl_Row T.me_Row_top_of (jH T 70) hr.le T.b_46 ay (ae (aa 4) (ae (aa 7) (ai)))) (ai)))) (ak (aR 4 gB.nd (aF cG (aa 4) (aa 7))) (ao (aR 5 gB.nd (aF dG (aa 5) (aa 7))))))))) Sr) (ao (az (bU (ae (bp (aQ hr.units1) (aA (aa 0)) (aa 2) (fun _ _=>rfl)) (ae (eZ sj T.z_tuple Um (ae (aa 3) (ai))) (ai))))))))))
def nB:aG P w K mg base (CX1 P w) 147 A.a_26 A.d_26 ["self","count","place"] (ia K A):=
 T.f_26.okS Mt (Iz K A) (Nn T.1) fun _ _ _ _ _ _ hr=>
 ao (az (jL (bM (aI (aA (aa 0)) T.cl_Row T.me_Row_has_place (CM T) hr.le T.b_42 ay (ae (aa 1) (ae (aa 2) (ai))))) (aI (aA (aa 0)) T.cl_Row T.me_Row_place_paper (Le T) hr.le T.b_44 ay (ae (aa 1) (ae (aa 2) (ai)))) (dO)))
def Lr:aG P w K mg base (CX1 P w) 148 A.a_11 A.d_11 ["self","count","place"] (qJ K A):=
 T.f_11.okS Cr (Ht K A) (KN T.1) fun _ _ _ _ _ _ hr=>
 ak (aX (bM (aI (aa 0) T.cl_Crook T.me_Crook_hides (vD T) hr.le T.b_9 ay (ae (aI (aA (aa 0)) T.cl_House T.me_House_placed (nB T) hr.le T.b_26 ay (ae (aa 1) (ae (aa 2) (ai)))) (ai)))) (ao (az (dO))) (aP)) (ak (aR 3 Cr.nd (aI (aA (aa 0)) T.cl_House T.me_House_placed (nB T) hr.le T.b_26 ay (ae (aa 1) (ae (aI (aa 0) T.cl_Crook T.me_Crook_before (vO T) hr.le T.b_5 ay (ae (aa 2) (ai))) (ai))))) (ao (az (bU (ae (bp (aQ hr.units1) (aa 3) (ar) (fun _ _=>rfl)) (ae (aI (aa 0) T.cl_Crook T.me_Crook_bent (vt T) hr.le T.b_6 ay (ae (bp (aQ hr.units1) (aa 3) (ar) (fun _ _=>rfl)) (ai))) (ai)))))))
def JS:aG P w K mg base (CX1 P w) 3 A.a_90 A.d_90 ["table","key"] (qX K A):=
 T.f_90.f.okS qU (HP K A) (Kc T.1) fun _ _ _ _ _ _ hr=>
 ak (aX (cq (bM (be (iX T) hr.le T.f_77 (ae (aA (aa 0)) (ae (aa 1) (ai)))))) (ao (dI)) (aP)) (ak (aR 2 qU.nd (cJ (ai))) (ak (aR 3 qU.nd (aA (aa 0))) (ak (ux (x_w (gn (bM (bu qG T.z_isinstance RK (ae (aa 3) (ae (tE T.mc_Fork) (ai))))) (fK (bM (aI (aa 3) T.cl_Fork T.me_Fork_leads (BV T) hr.le T.b_17 ay (ae (aA (aa 0)) (ae (aa 1) (ai)))))))) (ak (bT (fT Rk Rj Rn cF (aa 2) (ae (bU (ae (aA (aa 3)) (ae (aA (aI (aa 3) T.cl_Fork T.me_Fork_aside (CY T) hr.le T.b_14 ay (ae (aA (aa 0)) (ae (aa 1) (ai))))) (ai)))) (ai)))) (ao (aR 3 qU.nd (aI (aa 3) T.cl_Fork T.me_Fork_toward (qA T) hr.le T.b_18 ay (ae (aA (aa 0)) (ae (aa 1) (ai))))))) Sr) (ao (az (bU (ae (eZ sj T.z_tuple Um (ae (aa 2) (ai))) (ae (aA (aa 3)) (ai)))))))))
def uN:aG P w K mg base (CX1 P w) 148 A.a_22 A.d_22 ["self","count","place","key"] (ju K A):=
 T.f_22.okS CV (FA K A) (Kv T.1) fun _ _ _ _ _ _ hr=>
 ak (aR 4 CV.nd (aI (aa 0) T.cl_House T.me_House_placed (nB T) hr.le T.b_26 ay (ae (aa 1) (ae (aa 2) (ai))))) (ak (aX (x_w (ij (aS sV (aa 4) (dO)) (gp (cq (bM (be (iX T) hr.le T.f_77 (ae (aA (aA (aa 0))) (ae (aa 3) (ai))))))))) (ao (az (dO))) (aP)) (ao (az (bU (ae (bp (aQ hr.units1) (aa 4) (ar) (fun _ _=>rfl)) (ae (be (JS T) hr.le T.f_90 (ae (bp (aQ hr.units1) (aA (aa 0)) (aa 2) (fun _ _=>rfl)) (ae (aa 3) (ai)))) (ai)))))))
def Og:aG P w K mg base (CX1 P w) 149 A.a_7 A.d_7 ["self","count","place","key"] (vE K A):=
 T.f_7.okS Fi (MB K A) (NL T.1) fun _ _ _ _ _ _ hr=>
 ak (aX (bM (aI (aa 0) T.cl_Crook T.me_Crook_hides (vD T) hr.le T.b_9 ay (ae (aI (aA (aa 0)) T.cl_House T.me_House_full (uN T) hr.le T.b_22 ay (ae (aa 1) (ae (aa 2) (ae (aa 3) (ai))))) (ai)))) (ao (az (dO))) (aP)) (ak (aR 4 Fi.nd (aI (aA (aa 0)) T.cl_House T.me_House_full (uN T) hr.le T.b_22 ay (ae (aa 1) (ae (aI (aa 0) T.cl_Crook T.me_Crook_before (vO T) hr.le T.b_5 ay (ae (aa 2) (ai))) (ae (jL (aS (bQ hr.units150) (aA (aa 0)) (bo)) (aF zX (aa 3) (ar)) (aa 3)) (ai)))))) (ao (az (bU (ae (aI (aa 0) T.cl_Crook T.me_Crook_bent (vt T) hr.le T.b_6 ay (ae (bp (aQ hr.units1) (aa 4) (ar) (fun _ _=>rfl)) (ai))) (ae (bp (aQ hr.units1) (aa 4) (ar) (fun _ _=>rfl)) (ai)))))))
def JB:aG P w K mg base (CX1 P w) 3 A.a_80 A.d_80 ["bits","low","high"] (re K A):=
 T.f_80.f.okS LZ (Hy K A) (KC T.1) fun _ _ _ _ _ _ hr=>
 ao (az (dS (be (iX T) hr.le T.f_77 (ae (aa 0) (ae (aa 1) (ai)))) (dS (be (iX T) hr.le T.f_77 (ae (aa 0) (ae (aa 2) (ai)))) (eY (fW oLe (aa 1) (aa 2))))))
def Lg:aG P w K mg base (CX1 P w) 3 A.a_69 A.d_69 ["bits","low","high"] (rA K A):=
 T.f_69.f.okS MU (Hx K A) (KB T.1) fun _ _ _ _ _ _ hr=>
 ak (aX (x_w (ij (cq (bM (be (iX T) hr.le T.f_77 (ae (aa 0) (ae (aa 1) (ai)))))) (gp (cq (bM (be (iX T) hr.le T.f_77 (ae (aa 0) (ae (aa 2) (ai))))))))) (ao (dI)) (aP)) (ao (aX (aS oGt (aa 1) (aa 2)) (ao (dI)) (aP)))
def MY:aG P w K mg base (CX1 P w) 1 A.a_91 A.d_91 ["bits","depth","begin"] (pW K A):=
 T.f_91.f.okS Cp (Gx K A) (Jp T.1) fun _ _ _ _ _ _ hr=>
 ak (aR 3 Cp.nd (aF dG (aa 0) (aa 1))) (ao (az (bU (ae (aF kF (aa 2) (aa 3)) (ae (aF dG (aF kF (aF cG (aa 2) (ar)) (aa 3)) (ar)) (ai))))))
def Lk:aG P w K mg base (CX1 P w) 2 A.a_86 A.d_86 ["bits","low","high","depth","begin"] (qk K A):=
 T.f_86.f.okS CU (FN K A) (Jw T.1) fun _ _ _ _ _ _ hr=>
 ak (aR 5 CU.nd (be (MY T) hr.le T.f_91 (ae (aa 0) (ae (aa 3) (ae (aa 4) (ai)))))) (ao (az (dS (fW oLe (bp (aQ hr.units1) (aa 5) (ar) (fun _ _=>rfl)) (aa 2)) (eY (fW oLe (aa 1) (bp (aQ hr.units1) (aa 5) (ar) (fun _ _=>rfl)))))))
theorem uW:∀n:Nat,aG P w K mg base (CX1 P w) (2+n) A.a_88 A.d_88 ["bits","low","high","depth","begin","knot"] (jN K A n)
 |0=>⟨fun vs H Q E h=>(Ck K A vs H Q E h).elim,fun _ _ _ H _ _ vs Q E _ _ _ _ h=>(Ck K A vs H Q E h).elim⟩
 |n+1=>T.f_88.f.okS uJ (Gi K A (n+1)) (IE T.1 n) fun _ _ _ _ _ _ (hr:bB (2+n) _)=>
 ak (aX (cq (bM (be (Lk T) hr.le T.f_86 (ae (aa 0) (ae (aa 1) (ae (aa 2) (ae (aa 3) (ae (aa 4) (ai))))))))) (ao (az (bU (ae (bo) (ae (aA (aa 5)) (ai)))))) (aP)) (ak (aX (cq (bM (bu qG T.z_isinstance RK (ae (aa 5) (ae (tE T.mc_Fork) (ai)))))) (ao (az (aA (aa 5)))) (aP)) (ak (aR 6 uJ.nd (be (uW n) hr.le T.f_88 (ae (aa 0) (ae (aa 1) (ae (aa 2) (ae (aF cG (aA (aa 5)) (ar)) (ae (aF kj (ar) (aA (aa 5))) (ae (aA (aa 5)) (ai))))))))) (ak (aR 7 uJ.nd (be (uW n) hr.le T.f_88 (ae (aa 0) (ae (aa 1) (ae (aa 2) (ae (aF cG (aA (aa 5)) (ar)) (ae (aF cG (aF kj (ar) (aA (aa 5))) (ar)) (ae (aA (aa 5)) (ai))))))))) (ao (az (bU (ae (bo) (ae (aA (aa 5)) (ae (aA (aa 5)) (ae (aa 6) (ae (aa 7) (ai))))))))))))
def LI:aG P w K mg base (CX1 P w) 73 A.a_93 A.d_93 ["table","low","high"] (qf K A):=
 T.f_93.f.okS LR (GD K A) (Je T.1) fun _ _ _ _ _ _ hr=>
 ak (bT (be (Lg T) hr.le T.f_69 (ae (aA (aa 0)) (ae (aa 1) (ae (aa 2) (ai)))))) (ao (az (be (uW T 70) hr.le T.f_88 (ae (aA (aa 0)) (ae (aa 1) (ae (aa 2) (ae (ar) (ae (ar) (ae (aA (aa 0)) (ai))))))))))
def uB:aG P w K mg base (CX1 P w) 148 A.a_28 A.d_28 ["self","count","place","low","high"] (lb K A):=
 T.f_28.okS Df (Gm K A) (JZ T.1) fun _ _ _ _ _ _ hr=>
 ak (aR 5 Df.nd (aI (aa 0) T.cl_House T.me_House_placed (nB T) hr.le T.b_26 ay (ae (aa 1) (ae (aa 2) (ai))))) (ak (aX (x_w (ij (aS sV (aa 5) (dO)) (gp (cq (bM (be (JB T) hr.le T.f_80 (ae (aA (aA (aa 0))) (ae (aa 3) (ae (aa 4) (ai)))))))))) (ao (az (dO))) (aP)) (ao (az (bU (ae (bp (aQ hr.units1) (aa 5) (ar) (fun _ _=>rfl)) (ae (be (LI T) hr.le T.f_93 (ae (bp (aQ hr.units1) (aA (aa 0)) (aa 2) (fun _ _=>rfl)) (ae (aa 3) (ae (aa 4) (ai))))) (ai)))))))
def Ms:aG P w K mg base (CX1 P w) 149 A.a_12 A.d_12 ["self","count","place","low","high"] (qK K A):=
 T.f_12.okS BX (FZ K A) (LB T.1) fun _ _ _ _ _ _ hr=>
 ak (aX (bM (aI (aa 0) T.cl_Crook T.me_Crook_hides (vD T) hr.le T.b_9 ay (ae (aI (aA (aa 0)) T.cl_House T.me_House_stretch (uB T) hr.le T.b_28 ay (ae (aa 1) (ae (aa 2) (ae (aa 3) (ae (aa 4) (ai)))))) (ai)))) (ao (az (dO))) (aP)) (ak (aR 5 BX.nd (aI (aA (aa 0)) T.cl_House T.me_House_stretch (uB T) hr.le T.b_28 ay (ae (aa 1) (ae (aI (aa 0) T.cl_Crook T.me_Crook_before (vO T) hr.le T.b_5 ay (ae (aa 2) (ai))) (ae (aa 3) (ae (aa 4) (ai))))))) (ao (az (bU (ae (aI (aa 0) T.cl_Crook T.me_Crook_bent (vt T) hr.le T.b_6 ay (ae (bp (aQ hr.units1) (aa 5) (ar) (fun _ _=>rfl)) (ai))) (ae (bp (aQ hr.units1) (aa 5) (ar) (fun _ _=>rfl)) (ai)))))))
def uD:aG P w K mg base (CX1 P w) 219 A.a_56 A.d_56 ["_law_line","_law_question_here"] (lr K A):=
 T.f_56.f.okS Cj (HY K A) (Kx T.1) fun _ _ _ _ _ _ hr=>
 ak (aR 2 Cj.nd (bp (aQ hr.units1) (aa 1) (ar) (fun _ _=>rfl))) (ak (aX (aS (bQ hr.units150) (aa 2) (bo)) (ao (az (eP (aa 0) (mdc T.cl_House T.me_House_growth (vm T) hr.le T.b_23 ay (mdc T.cl_Crook T.me_Crook_growth (PN T) hr.le T.b_8 ay (mdn rfl))) (ae (bp (aQ hr.units1) (aa 1) (ar) (fun _ _=>rfl)) (ae (bp (aQ hr.units1) (aa 1) (ar) (fun _ _=>rfl)) (ai)))))) (aP)) (ak (aX (aS (bQ hr.units150) (aa 2) (bo)) (ao (az (eP (aa 0) (mdc T.cl_House T.me_House_placed (nB T) hr.le T.b_26 ay (mdc T.cl_Crook T.me_Crook_placed (Lr T) hr.le T.b_11 ay (mdn rfl))) (ae (bp (aQ hr.units1) (aa 1) (ar) (fun _ _=>rfl)) (ae (bp (aQ hr.units1) (aa 1) (ar) (fun _ _=>rfl)) (ai)))))) (aP)) (ak (aX (aS (bQ hr.units150) (aa 2) (bo)) (ao (az (eP (aa 0) (mdc T.cl_House T.me_House_full (uN T) hr.le T.b_22 ay (mdc T.cl_Crook T.me_Crook_full (Og T) hr.le T.b_7 ay (mdn rfl))) (ae (bp (aQ hr.units1) (aa 1) (ar) (fun _ _=>rfl)) (ae (bp (aQ hr.units1) (aa 1) (ar) (fun _ _=>rfl)) (ae (bp (aQ hr.units1) (aa 1) (ar) (fun _ _=>rfl)) (ai))))))) (aP)) (ao (az (eP (aa 0) (mdc T.cl_House T.me_House_stretch (uB T) hr.le T.b_28 ay (mdc T.cl_Crook T.me_Crook_stretch (Ms T) hr.le T.b_12 ay (mdn rfl))) (ae (bp (aQ hr.units1) (aa 1) (ar) (fun _ _=>rfl)) (ae (bp (aQ hr.units1) (aa 1) (ar) (fun _ _=>rfl)) (ae (bp (aQ hr.units1) (aa 1) (ar) (fun _ _=>rfl)) (ae (bp (aQ hr.units1) (aa 1) (ar) (fun _ _=>rfl)) (ai)))))))))))
def vC:aG P w K mg base (CX1 P w) 1 A.a_62 A.d_62 ["_law_way","_law_marks_here"] (kQ K A):=
 T.f_62.f.okS vS (HZ K A) (Kd T.1) fun _ _ _ _ _ _ hr=>
 ak (aR 2 vS.nd (eZ Ca T.z_list boot_list (ae (aa 1) (ai)))) (ak (aX (x_w (gn (aS (bQ hr.units150) (aa 0) (bo)) (fK (aS (oG hr.units150) (aa 2) (cJ (ai)))))) (ao (bT (vH Rk WK PySem.F.type_list_pop Gh (aa 2)))) (aP)) (ak (aX (aS (bQ hr.units150) (aa 0) (bo)) (ao (oV (ys:=["_law_marks_here"]) 2 vS.nd (by exact⟨rfl,by decide+kernel,by decide+kernel,rfl,by decide+kernel,by decide+kernel⟩) (by exact .cons rfl (by first|exact .inl rfl|exact .inr rfl) rfl (.nil)) (mn T.z_range (ae (bu et T.z_len RB (ae (aa 1) (ai))) (ai))) (fun C s H fp=>mU) (fun C s H fp=>(bp (aQ hr.units1) (aa 1) (aF dG (aF dG (bu et T.z_len RB (ae (aa 1) (ai))) (ar)) (aa 0)) (fun _ _=>rfl))))) (aP)) (ak (aX (x_w (gn (aS (bQ hr.units150) (aa 0) (bo)) (fK (aS (oG hr.units150) (aa 2) (cJ (ai)))))) (ao (bT (fT Rk Rj Rn cF (aa 2) (ae (bp (aQ hr.units1) (aa 2) (lf (ar)) (fun _ _=>rfl)) (ai))))) (aP)) (ao (az (eZ sj T.z_tuple Um (ae (aa 2) (ai))))))))
def LV:aG P w K mg base (CX1 P w) 220 A.a_58 A.d_58 ["_law_house","_law_way","_law_question_here"] (rj K A):=
 T.f_58.f.okS qS (Ij K A) (LJ T.1) fun _ _ _ _ _ _ hr=>
 ak (aR 3 qS.nd (be (uD T) hr.le T.f_56 (ae (aa 0) (ae (aa 2) (ai))))) (ak (aX (x_w (ij (aS sV (aa 3) (dO)) (gp (aS (bQ hr.units150) (aa 1) (bo))))) (ao (az (dO))) (aP)) (ak (aR 4 qS.nd (eZ Ca T.z_list boot_list (ae (aa 2) (ai)))) (ak (aX (x_w (gn (aS (bQ hr.units150) (aa 1) (bo)) (fK (aS oGt (bp (aQ hr.units1) (aa 2) (ar) (fun _ _=>rfl)) (ar))))) (ao (fG hr.units1 (aa 4) (ar) (aF dG (bp (aQ hr.units1) (aa 2) (ar) (fun _ _=>rfl)) (ar)))) (aP)) (ak (aX (x_w (gn (aS (bQ hr.units150) (aa 1) (bo)) (fK (aS (bQ hr.units150) (bp (aQ hr.units1) (aa 2) (ar) (fun _ _=>rfl)) (bo))))) (ao (fG hr.units1 (aa 4) (ar) (aF dG (aF cG (bp (aQ hr.units1) (aa 2) (ar) (fun _ _=>rfl)) (ar)) (aF kj (ar) (aF dq (bp (aQ hr.units1) (aa 2) (ar) (fun _ _=>rfl)) (ar)))))) (aP)) (ak (aR 3 qS.nd (be (uD T) hr.le T.f_56 (ae (aa 0) (ae (aa 4) (ai))))) (ak (aX (aS (bQ hr.units150) (bp (aQ hr.units1) (aa 2) (ar) (fun _ _=>rfl)) (bo)) (ao (az (be (vC T) hr.le T.f_62 (ae (aa 1) (ae (aa 3) (ai)))))) (aP)) (ak (aX (aS (bQ hr.units150) (bp (aQ hr.units1) (aa 2) (ar) (fun _ _=>rfl)) (bo)) (ao (az (bU (ae (bp (aQ hr.units1) (aa 3) (ar) (fun _ _=>rfl)) (ae (be (vC T) hr.le T.f_62 (ae (aa 1) (ae (bp (aQ hr.units1) (aa 3) (ar) (fun _ _=>rfl)) (ai)))) (ai)))))) (aP)) (ao (az (bU (ae (be (vC T) hr.le T.f_62 (ae (aa 1) (ae (bp (aQ hr.units1) (aa 3) (ar) (fun _ _=>rfl)) (ai)))) (ae (bp (aQ hr.units1) (aa 3) (ar) (fun _ _=>rfl)) (ai)))))))))))))
def MM:aG P w K mg base (CX1 P w) 3 A.a_64 A.d_64 ["_law_house","_law_way"] (qe K A):=
 T.f_64.f.okS vx (HL K A) (JN T.1) fun _ _ _ _ _ E hr=>
 ak (aR 2 vx.nd (gx)) (ak (Nc (fun pn' E' EH hEH=>ao (bT (cX T.mk_Crook (GS T) hr.le T.mc_Crook T.b_4 hEH (ae (aa 0) (ae (aa 1) (ai)))))) (Gr T.eo_NoWay T.mc_NoWay (fun a=>ao (aR 2 vx.nd (gx))) (EA)) (aP)) (ao (az (aa 2))))
def MO:aG P w K mg base (CX1 P w) 221 A.a_85 A.d_85 ["_law_script"] (qx K A):=
 T.f_85.f.okS eD (Hi K A) (JU T.1) fun _ _ _ _ _ _ hr=>
 ak (aR 1 eD.nd (aF cG (ar) (aF dq (be (Kg T) hr.le T.f_57 (ae (aa 0) (ae (ar) (ai)))) (ar)))) (ak (aR 2 eD.nd (lw nO (aa 0) (iN (ar)) (iN (ar)))) (ak (aR 3 eD.nd (aF cv (bu et T.z_len RB (ae (aa 2) (ai))) (ar))) (ak (aR 4 eD.nd (cX T.mk_House (MQ T) hr.le T.mc_House T.b_21 ay (ae (Bg (Jx T) hr.le T.f_70.m T.f_70.f.kp T.f_70.b ay) (ae (aa 1) (ae (su T.mk_Seals (LQ T) hr.le T.mc_Seals T.b_48 ay) (ai)))))) (ak (aR 5 eD.nd (cJ (ae (bo) (ae (bo) (ae (bo) (ae (bo) (ae (bo) (ae (bo) (ai))))))))) (ak (oV (ys:=["_law_house"]) 6 eD.nd (by exact⟨rfl,by decide+kernel,by decide+kernel,rfl,by decide+kernel,by decide+kernel⟩) (by exact .cons rfl (by first|exact .inl rfl|exact .inr rfl) rfl (.nil)) (iO (aa 5)) (fun C s H fp=>mU) (fun C s H fp=>(cX T.mk_Crook (GS T) hr.le T.mc_Crook T.b_4 ay (ae (aa 1) (ae (aa 0) (ai)))))) (ak (DW 7 8 eD.nd rfl (be (Nv T) hr.le T.f_59 (ae (aa 4) (ae (lw nO (aa 2) (oE) (iN (aa 3))) (ae (aa 1) (ae (ar) (ai))))))) (ak (lE 9 eD.nd (iO (aa 6)) (ao (aX (x_w (ij (cq (bM (bu qG T.z_isinstance RK (ae (aa 9) (ae (tE T.mc_Line) (ai)))))) (gp (aS (oG hr.units150) (cz (aa 9) T.cl_Crook T.me_Crook_newest (Cz T) hr.le T.b_10 ay) (bp (aQ hr.units1) (aa 8) (lf (ar)) (fun _ _=>rfl)))))) (ao (az (gx))) (aP))) Sr) (ak (lE 10 eD.nd (yI T.z_range (ae (aa 3) (ae (bu et T.z_len RB (ae (aa 2) (ai))) (ai)))) (ak (aR 11 eD.nd (be (BS T) hr.le T.f_63 (ae (bp (aQ hr.units1) (aa 2) (aa 10) (fun _ _=>rfl)) (ae (aa 10) (ai))))) (ak (aR 12 eD.nd (be (KJ T) hr.le T.f_65 (ae (aF cv (aa 11) (ar)) (ae (aa 7) (ae (bp (aQ hr.units1) (aa 2) (aa 10) (fun _ _=>rfl)) (ae (aa 1) (ai))))))) (ak (aR 13 eD.nd (be (uD T) hr.le T.f_56 (ae (bp (aQ hr.units1) (aa 6) (aF dq (aa 11) (ar)) (fun _ _=>rfl)) (ae (aa 12) (ai))))) (ak (aR 14 eD.nd (be (LV T) hr.le T.f_58 (ae (aa 4) (ae (bp (aQ hr.units1) (aa 5) (aF dq (aa 11) (ar)) (fun _ _=>rfl)) (ae (aa 12) (ai)))))) (ao (aX (x_w (ij (aS (oG hr.units150) (aa 13) (aa 14)) (gp (aS (oG hr.units150) (bu jp T.z_isinstance RK (ae (aa 13) (ae (jI T.z_tuple Um) (ai)))) (bu jp T.z_isinstance RK (ae (aa 14) (ae (jI T.z_tuple Um) (ai)))))))) (ao (az (gx))) (aP))))))) Sr) (ak (bT (cz (aa 4) T.cl_House T.me_House_make (vW T) hr.le T.b_24 ay)) (ak (lE 9 eD.nd (iO (aa 6)) (ao (aX (aS (oG hr.units150) (cz (aa 9) T.cl_Crook T.me_Crook_newest (Cz T) hr.le T.b_10 ay) (cz (aa 4) T.cl_House T.me_House_newest (qr T) hr.le T.b_25 ay)) (ao (az (gx))) (aP))) Sr) (ak (lE 15 eD.nd (iO (cJ (ae (bo) (ae (bo) (ae (bo) (ae (bo) (ae (dO) (ae (gx) (ae (ar) (ae (bU (ae (bo) (ai))) (ae (cJ (ae (bo) (ai))) (ai)))))))))))) (ao (aX (cq (bM (be (MM T) hr.le T.f_64 (ae (aa 4) (ae (aa 15) (ai)))))) (ao (az (gx))) (aP))) Sr) (ao (az (gx))))))))))))))
omit T
def wa (P:Rh)(w:RF)(K:cW)(mg:Str->Option tx)(fa:Addr):Prop:=∃(fd:QD)(tabs:List (Addr×Addr))(sp:Sp),(∀(s:If)(v:tx),WM s fd ⟨[v],[]⟩ [("_law_script",v)])/\Wr K=true/\(∀t∈tabs,∃y∈(["counting"]:List Str),Wq K y=some t)/\(∀base:Heap,K.In base->base.Ns mainGlobals mg->BM mg base->(∀t∈tabs,UE base t.1 t.2)->aG P w K mg base (CX1 P w) 221 fa fd ["_law_script"] sp)/\∀(H:Hp)(a:Addr)(ns:List Int),ns.length<=63->(∀t∈tabs,H t.2=some (.tbl #[]))->SqL K H a (ns.map V.int)->sp [.ref a] H (fun v _=>v=.bl true) fun _ _ _=>False
def FC (T:Txt K mg A)(nt:Wr K=true)(tb_70:Wq K "counting"=some (A.k_70,A.t_70))(tdn:([A.t_70]:List Addr).Nodup):wa P w K mg A.a_85:=by
 refine⟨A.d_85,[(A.k_70,A.t_70)],qx K A,T.f_85.f.bt,nt,?_,fun base _ _ B C=>?_,fun H a ns hl hO hS=>⟨a,ns,rfl,hS,hl,⟨hO (A.k_70,A.t_70) (by simp),tdn⟩,fun _=>rfl⟩⟩
 ·intro t ht
  simp only[QG,Rc,or_false]at ht
  rcases ht with rfl
  ·exact⟨"counting",by simp,tb_70⟩
 ·exact MO ⟨T,B,C (A.k_70,A.t_70) (by simp)⟩
def GN {h:Heap}{fa:Addr}(X:K.In h)(G:h.Ns mainGlobals mg)(hfa:mg "law"=some (.ref fa)){x_83 x_79 x_81 x_36 x_57 x_73 x_30 x_0 x_50 x_37 x_74 x_76 x_68 x_49 x_94 x_87 x_21 x_35 x_70 x_48 x_4 x_45 x_75 x_41 x_72 x_47 x_46 x_43 x_25 x_63 x_38 x_52 x_54 x_24 x_60 x_61 x_77 x_1 x_32 x_89 x_18 x_16 x_55 x_3 x_34 x_14 x_13 x_15 x_20 x_53 x_29 x_66 x_82 x_31 x_2 x_92 x_84 x_67 x_33 x_17 x_19 x_51 x_27 x_59 x_10 x_65 x_39 x_40 x_23 x_9 x_6 x_5 x_8 x_78 x_42 x_95 x_44 x_26 x_11 x_90 x_22 x_7 x_80 x_69 x_91 x_86 x_88 x_93 x_28 x_12 x_56 x_62 x_58 x_64 x_85 y_NoWay y_Knot y_Bare y_Seals y_Row y_Table y_Numbers y_House y_Fork y_Leaf y_Crook y_Line u_WAYS:Addr}{d0 d1 d2 d3 d4 d5 d6 d7 d8 d9 d10 d11 d12 d13 d14 d15 d16 d17 d18 d19 d20 d21 d22 d23 d24 d25 d26 d27 d28 d29 d30 d31 d32 d33 d34 d35 d36 d37 d38 d39 d40 d41 d42 d43 d44 d45 d46 d47 d48 d49 d50 d51 d52 d53 d54 d55 d56 d57 d58 d59 d60 d61 d62 d63 d64 d65 d66 d67 d68 d69 d70 d71 d72 d73 d74 d75 d76 d77 d78 d79 d80 d81 d82 d83 d84 d85 d86 d87 d88 d89 d90 d91 d92 d93 d94:QD}{tc0 tc1 tc2:Tok}
  (bo_Knot:Sq K mainGlobals "Knot"=some (some (.ref y_Knot)))(bo_Bare:Sq K mainGlobals "Bare"=some (some (.ref y_Bare)))(bo_Seals:Sq K mainGlobals "Seals"=some (some (.ref y_Seals)))(bo_Row:Sq K mainGlobals "Row"=some (some (.ref y_Row)))(bo_Table:Sq K mainGlobals "Table"=some (some (.ref y_Table)))(bo_Numbers:Sq K mainGlobals "Numbers"=some (some (.ref y_Numbers)))(bo_House:Sq K mainGlobals "House"=some (some (.ref y_House)))(bo_Fork:Sq K mainGlobals "Fork"=some (some (.ref y_Fork)))(bo_Leaf:Sq K mainGlobals "Leaf"=some (some (.ref y_Leaf)))(bo_Crook:Sq K mainGlobals "Crook"=some (some (.ref y_Crook)))(bo_Line:Sq K mainGlobals "Line"=some (some (.ref y_Line)))(bc_NoWay:Sq K mainGlobals "NoWay"=some (some (.ref y_NoWay)))(h0:Fa K "is_whole" "is_whole" zY x_83 d0)(h1:Fa K "is_stamp" "is_stamp" zF x_79 d1)(h2:Fa K "is_term" "is_term" yT x_81 d2)(a3:QF K (.ref y_Numbers) "number_of"=some (some (.ref x_36)))(h3:Fun K "number_of" "Numbers.number_of" yh x_36 d3)(fn3:Rx K (.ref x_36)=true)(h4:Fa K "_law_cell_at" "_law_cell_at" yu x_57 d4)(h5:Fa K "is_bits" "is_bits" Bh x_73 d5)(a6:QF K (.ref y_Knot) "__init__"=some (some (.ref x_30)))(h6:Fun K "__init__" "Knot.__init__" Aj x_30 d6)(fn6:Rx K (.ref x_30)=true)(a7:QF K (.ref y_Bare) "__init__"=some (some (.ref x_0)))(h7:Fun K "__init__" "Bare.__init__" s_0 x_0 d7)(fn7:Rx K (.ref x_0)=true)(a8:QF K (.ref y_Table) "__init__"=some (some (.ref x_50)))(h8:Fun K "__init__" "Table.__init__" BC x_50 d8)(fn8:Rx K (.ref x_50)=true)(a9:QF K (.ref y_Row) "__init__"=some (some (.ref x_37)))(h9:Fun K "__init__" "Row.__init__" yQ x_37 d9)(fn9:Rx K (.ref x_37)=true)(h10:Fa K "is_count" "is_count" yr x_74 d10)(h11:Fa K "is_head" "is_head" Bp x_76 d11)(h12:Fa K "check_head" "check_head" AC x_68 d12)(a13:QF K (.ref y_Seals) "seal"=some (some (.ref x_49)))(h13:Fun K "seal" "Seals.seal" zZ x_49 d13)(fn13:Rx K (.ref x_49)=true)(h14:Fa K "void_terms" "void_terms" AF x_94 d14)(h15:Fa K "none_head" "none_head" zw x_87 d15)(a16:QF K (.ref y_House) "__init__"=some (some (.ref x_21)))(h16:Fun K "__init__" "House.__init__" AG x_21 d16)(fn16:Rx K (.ref x_21)=true)(a17:QF K (.ref y_Numbers) "__init__"=some (some (.ref x_35)))(h17:Fun K "__init__" "Numbers.__init__" Be x_35 d17)(fn17:Rx K (.ref x_35)=true)(h18:Fa K "counting" "counting" lQ x_70 d18)(tb_70:(Wq K "counting").isSome=true)(a19:QF K (.ref y_Seals) "__init__"=some (some (.ref x_48)))(h19:Fun K "__init__" "Seals.__init__" AU x_48 d19)(fn19:Rx K (.ref x_48)=true)(a20:QF K (.ref y_Crook) "__init__"=some (some (.ref x_4)))(h20:Fun K "__init__" "Crook.__init__" s_4 x_4 d20)(fn20:Rx K (.ref x_4)=true)(a21:QF K (.ref y_Row) "size"=some (some (.ref x_45)))(h21:Fun K "size" "Row.size" Bx x_45 d21)(fn21:Rx K (.ref x_45)=true)(h22:Fa K "is_elder" "is_elder" AZ x_75 d22)(a23:QF K (.ref y_Row) "has_elder"=some (some (.ref x_41)))(h23:Fun K "has_elder" "Row.has_elder" Av x_41 d23)(fn23:Rx K (.ref x_41)=true)(h24:Fa K "half" "half" Bq x_72 d24)(a25:QF K (.ref y_Row) "top_term"=some (some (.ref x_47)))(h25:Fun K "top_term" "Row.top_term" zK x_47 d25)(fn25:Rx K (.ref x_47)=true)(a26:QF K (.ref y_Row) "top_of"=some (some (.ref x_46)))(h26:Fun K "top_of" "Row.top_of" yz x_46 d26)(fn26:Rx K (.ref x_46)=true)(a27:QF K (.ref y_Row) "mark_at"=some (some (.ref x_43)))(h27:Fun K "mark_at" "Row.mark_at" zy x_43 d27)(fn27:Rx K (.ref x_43)=true)(a28:QF K (.ref y_House) "newest"=some (some (.ref x_25)))(h28:Fun K "newest" "House.newest" yd x_25 d28)(fn28:Rx K (.ref x_25)=true)(h29:Fa K "_law_mix" "_law_mix" yO x_63 d29)(a30:QF K (.ref y_Row) "add"=some (some (.ref x_38)))(h30:Fun K "add" "Row.add" yS x_38 d30)(fn30:Rx K (.ref x_38)=true)(a31:QF K (.ref y_Table) "root"=some (some (.ref x_52)))(h31:Fun K "root" "Table.root" zS x_52 d31)(fn31:Rx K (.ref x_52)=true)(a32:QF K (.ref y_Table) "twin"=some (some (.ref x_54)))(h32:Fun K "twin" "Table.twin" zc x_54 d32)(fn32:Rx K (.ref x_54)=true)(a33:QF K (.ref y_House) "make"=some (some (.ref x_24)))(h33:Fun K "make" "House.make" yJ x_24 d33)(fn33:Rx K (.ref x_24)=true)(h34:Fa K "_law_key" "_law_key" Ay x_60 d34)(h35:Fa K "_law_key_for" "_law_key_for" zv x_61 d35)(h36:Fa K "is_key" "is_key" zB x_77 d36)(a37:QF K (.ref y_Bare) "found"=some (some (.ref x_1)))(h37:Fun K "found" "Bare.found" s_1 x_1 d37)(fn37:Rx K (.ref x_1)=true)(a38:QF K (.ref y_Leaf) "found"=some (some (.ref x_32)))(h38:Fun K "found" "Leaf.found" An x_32 d38)(fn38:Rx K (.ref x_32)=true)(h39:Fa K "side" "side" Ak x_89 d39)(a40:QF K (.ref y_Fork) "toward"=some (some (.ref x_18)))(h40:Fun K "toward" "Fork.toward" zG x_18 d40)(fn40:Rx K (.ref x_18)=true)(a41:QF K (.ref y_Fork) "found"=some (some (.ref x_16)))(h41:Fun K "found" "Fork.found" AR x_16 d41)(fn41:Rx K (.ref x_16)=true)(a42:QF K (.ref y_Table) "value_of"=some (some (.ref x_55)))(h42:Fun K "value_of" "Table.value_of" AX x_55 d42)(fn42:Rx K (.ref x_55)=true)(a43:QF K (.ref y_Bare) "without"=some (some (.ref x_3)))(h43:Fun K "without" "Bare.without" s_3 x_3 d43)(fn43:Rx K (.ref x_3)=true)(a44:QF K (.ref y_Leaf) "without"=some (some (.ref x_34)))(h44:Fun K "without" "Leaf.without" BA x_34 d44)(fn44:Rx K (.ref x_34)=true)(a45:QF K (.ref y_Fork) "aside"=some (some (.ref x_14)))(h45:Fun K "aside" "Fork.aside" Bo x_14 d45)(fn45:Rx K (.ref x_14)=true)(a46:QF K (.ref y_Fork) "__init__"=some (some (.ref x_13)))(h46:Fun K "__init__" "Fork.__init__" yM x_13 d46)(fn46:Rx K (.ref x_13)=true)(a47:QF K (.ref y_Fork) "changed"=some (some (.ref x_15)))(h47:Fun K "changed" "Fork.changed" zD x_15 d47)(fn47:Rx K (.ref x_15)=true)(a48:QF K (.ref y_Fork) "without"=some (some (.ref x_20)))(h48:Fun K "without" "Fork.without" yX x_20 d48)(fn48:Rx K (.ref x_20)=true)(a49:QF K (.ref y_Table) "take"=some (some (.ref x_53)))(h49:Fun K "take" "Table.take" AN x_53 d49)(fn49:Rx K (.ref x_53)=true)(a50:QF K (.ref y_House) "take"=some (some (.ref x_29)))(h50:Fun K "take" "House.take" zA x_29 d50)(fn50:Rx K (.ref x_29)=true)(h51:Fa K "_law_word" "_law_word" yp x_66 d51)(h52:Fa K "is_value" "is_value" zM x_82 d52)(a53:QF K (.ref y_Leaf) "__init__"=some (some (.ref x_31)))(h53:Fun K "__init__" "Leaf.__init__" AM x_31 d53)(fn53:Rx K (.ref x_31)=true)(a54:QF K (.ref y_Bare) "with_key"=some (some (.ref x_2)))(h54:Fun K "with_key" "Bare.with_key" s_2 x_2 d54)(fn54:Rx K (.ref x_2)=true)(h55:Fa K "start" "start" Ae x_92 d55)(h56:Fa K "joined" "joined" zP x_84 d56)(h57:Fa K "alike" "alike" yL x_67 d57)(a58:QF K (.ref y_Leaf) "with_key"=some (some (.ref x_33)))(h58:Fun K "with_key" "Leaf.with_key" yK x_33 d58)(fn58:Rx K (.ref x_33)=true)(a59:QF K (.ref y_Fork) "leads"=some (some (.ref x_17)))(h59:Fun K "leads" "Fork.leads" Ao x_17 d59)(fn59:Rx K (.ref x_17)=true)(a60:QF K (.ref y_Fork) "with_key"=some (some (.ref x_19)))(h60:Fun K "with_key" "Fork.with_key" Ad x_19 d60)(fn60:Rx K (.ref x_19)=true)(a61:QF K (.ref y_Table) "put"=some (some (.ref x_51)))(h61:Fun K "put" "Table.put" zt x_51 d61)(fn61:Rx K (.ref x_51)=true)(a62:QF K (.ref y_House) "put"=some (some (.ref x_27)))(h62:Fun K "put" "House.put" zo x_27 d62)(fn62:Rx K (.ref x_27)=true)(h63:Fa K "_law_kept" "_law_kept" Af x_59 d63)(a64:QF K (.ref y_Crook) "newest"=some (some (.ref x_10)))(h64:Fun K "newest" "Crook.newest" zL x_10 d64)(fn64:Rx K (.ref x_10)=true)(h65:Fa K "_law_question" "_law_question" Al x_65 d65)(a66:QF K (.ref y_Row) "growth_marks"=some (some (.ref x_39)))(h66:Fun K "growth_marks" "Row.growth_marks" zh x_39 d66)(fn66:Rx K (.ref x_39)=true)(a67:QF K (.ref y_Row) "growth_paper"=some (some (.ref x_40)))(h67:Fun K "growth_paper" "Row.growth_paper" yk x_40 d67)(fn67:Rx K (.ref x_40)=true)(a68:QF K (.ref y_House) "growth"=some (some (.ref x_23)))(h68:Fun K "growth" "House.growth" Bs x_23 d68)(fn68:Rx K (.ref x_23)=true)(a69:QF K (.ref y_Crook) "hides"=some (some (.ref x_9)))(h69:Fun K "hides" "Crook.hides" s_9 x_9 d69)(fn69:Rx K (.ref x_9)=true)(a70:QF K (.ref y_Crook) "bent"=some (some (.ref x_6)))(h70:Fun K "bent" "Crook.bent" s_6 x_6 d70)(fn70:Rx K (.ref x_6)=true)(a71:QF K (.ref y_Crook) "before"=some (some (.ref x_5)))(h71:Fun K "before" "Crook.before" s_5 x_5 d71)(fn71:Rx K (.ref x_5)=true)(a72:QF K (.ref y_Crook) "growth"=some (some (.ref x_8)))(h72:Fun K "growth" "Crook.growth" s_8 x_8 d72)(fn72:Rx K (.ref x_8)=true)(h73:Fa K "is_place" "is_place" AD x_78 d73)(a74:QF K (.ref y_Row) "has_place"=some (some (.ref x_42)))(h74:Fun K "has_place" "Row.has_place" Aa x_42 d74)(fn74:Rx K (.ref x_42)=true)(h75:Fa K "ways" "ways" AB x_95 d75)(a76:QF K (.ref y_Row) "place_paper"=some (some (.ref x_44)))(h76:Fun K "place_paper" "Row.place_paper" zR x_44 d76)(fn76:Rx K (.ref x_44)=true)(a77:QF K (.ref y_House) "placed"=some (some (.ref x_26)))(h77:Fun K "placed" "House.placed" AQ x_26 d77)(fn77:Rx K (.ref x_26)=true)(a78:QF K (.ref y_Crook) "placed"=some (some (.ref x_11)))(h78:Fun K "placed" "Crook.placed" AI x_11 d78)(fn78:Rx K (.ref x_11)=true)(h79:Fa K "slip_of" "slip_of" BD x_90 d79)(a80:QF K (.ref y_House) "full"=some (some (.ref x_22)))(h80:Fun K "full" "House.full" yW x_22 d80)(fn80:Rx K (.ref x_22)=true)(a81:QF K (.ref y_Crook) "full"=some (some (.ref x_7)))(h81:Fun K "full" "Crook.full" s_7 x_7 d81)(fn81:Rx K (.ref x_7)=true)(h82:Fa K "is_stretch" "is_stretch" Bt x_80 d82)(h83:Fa K "check_stretch" "check_stretch" zH x_69 d83)(h84:Fa K "span" "span" ze x_91 d84)(h85:Fa K "meets" "meets" Ap x_86 d85)(h86:Fa K "part_of" "part_of" Bj x_88 d86)(h87:Fa K "stretch_of" "stretch_of" Ac x_93 d87)(a88:QF K (.ref y_House) "stretch"=some (some (.ref x_28)))(h88:Fun K "stretch" "House.stretch" yP x_28 d88)(fn88:Rx K (.ref x_28)=true)(a89:QF K (.ref y_Crook) "stretch"=some (some (.ref x_12)))(h89:Fun K "stretch" "Crook.stretch" yq x_12 d89)(fn89:Rx K (.ref x_12)=true)(h90:Fa K "_law_asked" "_law_asked" Bz x_56 d90)(h91:Fa K "_law_marks" "_law_marks" Am x_62 d91)(h92:Fa K "_law_due" "_law_due" yC x_58 d92)(h93:Fa K "_law_no_way" "_law_no_way" Bc x_64 d93)(h94:Fa K "law" "law" yE x_85 d94)(pg_Knot:Sg K y_Knot Sb=true)(hd_Knot:Sa K y_Knot=true)(po_Knot:Sj K y_Knot=true)(sa_Knot:QF K (.ref y_Knot) "__setattr__"=some (some (.builtin "object.__setattr__")))(na_Knot_term:QF K (.ref y_Knot) "term"=some none)(na_Knot_mark:QF K (.ref y_Knot) "mark"=some none)(pg_Bare:Sg K y_Bare Sb=true)(hd_Bare:Sa K y_Bare=true)(po_Bare:Sj K y_Bare=true)(sa_Bare:QF K (.ref y_Bare) "__setattr__"=some (some (.builtin "object.__setattr__")))(na_Bare_term:QF K (.ref y_Bare) "term"=some none)(na_Bare_mark:QF K (.ref y_Bare) "mark"=some none)(pg_Seals:Sg K y_Seals Sb=true)(hd_Seals:Sa K y_Seals=true)(po_Seals:Sj K y_Seals=true)(sa_Seals:QF K (.ref y_Seals) "__setattr__"=some (some (.builtin "object.__setattr__")))(na_Seals_sealed:QF K (.ref y_Seals) "sealed"=some none)(pg_Row:Sg K y_Row Sb=true)(hd_Row:Sa K y_Row=true)(po_Row:Sj K y_Row=true)(sa_Row:QF K (.ref y_Row) "__setattr__"=some (some (.builtin "object.__setattr__")))(na_Row_stamper:QF K (.ref y_Row) "stamper"=some none)(na_Row_entries:QF K (.ref y_Row) "entries"=some none)(na_Row_tops:QF K (.ref y_Row) "tops"=some none)(pg_Table:Sg K y_Table Sb=true)(hd_Table:Sa K y_Table=true)(po_Table:Sj K y_Table=true)(sa_Table:QF K (.ref y_Table) "__setattr__"=some (some (.builtin "object.__setattr__")))(na_Table_stamper:QF K (.ref y_Table) "stamper"=some none)(na_Table_bits:QF K (.ref y_Table) "bits"=some none)(na_Table_top:QF K (.ref y_Table) "top"=some none)(pg_Numbers:Sg K y_Numbers Sb=true)(hd_Numbers:Sa K y_Numbers=true)(po_Numbers:Sj K y_Numbers=true)(sa_Numbers:QF K (.ref y_Numbers) "__setattr__"=some (some (.builtin "object.__setattr__")))(na_Numbers_given:QF K (.ref y_Numbers) "given"=some none)(pg_House:Sg K y_House Sb=true)(hd_House:Sa K y_House=true)(po_House:Sj K y_House=true)(sa_House:QF K (.ref y_House) "__setattr__"=some (some (.builtin "object.__setattr__")))(na_House_table:QF K (.ref y_House) "table"=some none)(na_House_row:QF K (.ref y_House) "row"=some none)(na_House_makes:QF K (.ref y_House) "makes"=some none)(na_House_seals:QF K (.ref y_House) "seals"=some none)(pg_Fork:Sg K y_Fork Sb=true)(hd_Fork:Sa K y_Fork=true)(po_Fork:Sj K y_Fork=true)(sa_Fork:QF K (.ref y_Fork) "__setattr__"=some (some (.builtin "object.__setattr__")))(na_Fork_depth:QF K (.ref y_Fork) "depth"=some none)(na_Fork_begin:QF K (.ref y_Fork) "begin"=some none)(na_Fork_left:QF K (.ref y_Fork) "left"=some none)(na_Fork_right:QF K (.ref y_Fork) "right"=some none)(na_Fork_term:QF K (.ref y_Fork) "term"=some none)(na_Fork_mark:QF K (.ref y_Fork) "mark"=some none)(pg_Leaf:Sg K y_Leaf Sb=true)(hd_Leaf:Sa K y_Leaf=true)(po_Leaf:Sj K y_Leaf=true)(sa_Leaf:QF K (.ref y_Leaf) "__setattr__"=some (some (.builtin "object.__setattr__")))(na_Leaf_key:QF K (.ref y_Leaf) "key"=some none)(na_Leaf_text:QF K (.ref y_Leaf) "text"=some none)(na_Leaf_term:QF K (.ref y_Leaf) "term"=some none)(na_Leaf_mark:QF K (.ref y_Leaf) "mark"=some none)(pg_Crook:Sg K y_Crook Sb=true)(hd_Crook:Sa K y_Crook=true)(po_Crook:Sj K y_Crook=true)(sa_Crook:QF K (.ref y_Crook) "__setattr__"=some (some (.builtin "object.__setattr__")))(na_Crook_house:QF K (.ref y_Crook) "house"=some none)(na_Crook_way:QF K (.ref y_Crook) "way"=some none)(pg_Line:Sg K y_Line Sb=true)(hd_Line:Sa K y_Line=true)(po_Line:Sj K y_Line=true)(sa_Line:QF K (.ref y_Line) "__setattr__"=some (some (.builtin "object.__setattr__")))(cg_Knot:US K (.ref y_Knot) "__getattribute__"=some (some (.builtin "type.__getattribute__")))(cr_Knot:W.readsIn K y_Knot (.type "type")=true)(cv_Knot:W.findCls K (.ref y_Knot) (.type "type") "__init__"=some (.val (.ref x_30)))(cw_Knot:Wg (.ref x_30)=true)(oig:US K (.builtin "object.__class__") "__get__"=some (some (.builtin "getset_descriptor.__get__")))(oit:XY K (.builtin "object.__class__")=some true)(oic_Bare:QF K (.ref y_Bare) "__class__"=some (some (.builtin "object.__class__")))(oim_Bare:TL K y_Bare (.type "object")=some true)(oic_Fork:QF K (.ref y_Fork) "__class__"=some (some (.builtin "object.__class__")))(oim_Fork:TL K y_Fork (.type "object")=some true)(oic_Leaf:QF K (.ref y_Leaf) "__class__"=some (some (.builtin "object.__class__")))(oim_Leaf:TL K y_Leaf (.type "object")=some true)(oic_Crook:QF K (.ref y_Crook) "__class__"=some (some (.builtin "object.__class__")))(oim_Crook:TL K y_Crook (.type "object")=some true)(ko_Bare_Bare:Sl K (.ref y_Bare) (.ref y_Bare)=some true)(ko_Bare_Fork:Sl K (.ref y_Bare) (.ref y_Fork)=some false)(ko_Fork_Bare:Sl K (.ref y_Fork) (.ref y_Bare)=some false)(ko_Fork_Fork:Sl K (.ref y_Fork) (.ref y_Fork)=some true)(ko_Leaf_Bare:Sl K (.ref y_Leaf) (.ref y_Bare)=some false)(ko_Leaf_Fork:Sl K (.ref y_Leaf) (.ref y_Fork)=some false)(ko_Crook_Line:Sl K (.ref y_Crook) (.ref y_Line)=some true)(mk_Bare:Tj K y_Bare=true)(kc_Bare:SG K (.ref y_Bare)=true)(mk_Row:Tj K y_Row=true)(kc_Row:SG K (.ref y_Row)=true)(mk_Table:Tj K y_Table=true)(kc_Table:SG K (.ref y_Table)=true)(mk_Numbers:Tj K y_Numbers=true)(kc_Numbers:SG K (.ref y_Numbers)=true)(mk_Fork:Tj K y_Fork=true)(kc_Fork:SG K (.ref y_Fork)=true)(mk_Leaf:Tj K y_Leaf=true)(kc_Leaf:SG K (.ref y_Leaf)=true)(mk_Crook:Tj K y_Crook=true)(kc_Crook:SG K (.ref y_Crook)=true)(mk_House:Tj K y_House=true)(kc_House:SG K (.ref y_House)=true)(mk_Seals:Tj K y_Seals=true)(kc_Seals:SG K (.ref y_Seals)=true)(eo_NoWay:Ya K y_NoWay veM "ValueError.__new__"=true)(e0_NoWay:QF K (.ref y_NoWay) "__getattribute__"=some (some (.builtin "BaseException.__getattribute__")))(e1_NoWay:QF K (.ref y_NoWay) "__getattr__"=some none)(e2_NoWay:QF K (.ref y_NoWay) "__class__"=some (some (.builtin "object.__class__")))(em0_NoWay:TL K y_NoWay (.type "object")=some true)(em1_NoWay:TL K y_NoWay (.type "BaseException")=some true)(sb_NoWay_NoWay:TL K y_NoWay (.ref y_NoWay)=some true)(mo_WAYS:Sq K mainGlobals "WAYS"=some (some (.ref u_WAYS)))(ob_WAYS:sY K u_WAYS ["hush","cut","turn","twice","old","near"])(z_all:Sq K mainGlobals "all"=some none)(z_bool:Sq K mainGlobals "bool"=some none)(z_dict:Sq K mainGlobals "dict"=some none)(z_int:Sq K mainGlobals "int"=some none)(z_isinstance:Sq K mainGlobals "isinstance"=some none)(z_len:Sq K mainGlobals "len"=some none)(z_list:Sq K mainGlobals "list"=some none)(z_max:Sq K mainGlobals "max"=some none)(z_min:Sq K mainGlobals "min"=some none)(z_range:Sq K mainGlobals "range"=some none)(z_reversed:Sq K mainGlobals "reversed"=some none)(z_sorted:Sq K mainGlobals "sorted"=some none)(z_str:Sq K mainGlobals "str"=some none)(z_tuple:Sq K mainGlobals "tuple"=some none)(c_MOST_BITS:Sq K mainGlobals "MOST_BITS"=some (some (.int 60 tc0)))(c_MOST_PARTS:Sq K mainGlobals "MOST_PARTS"=some (some (.int 8 tc1)))(c_MOST_SIGNS:Sq K mainGlobals "MOST_SIGNS"=some (some (.int 60 tc2)))(nt:Wr K=true)(td:pH K ["counting"]=true):wa P w K mg fa:=by
 cases hfa.symm.trans (Sk X G h94.m)
 obtain⟨⟨z_70,t_70⟩,tb_70⟩:=RH.mp tb_70
 have tdn:([t_70]:List Addr).Nodup:=AK (by unfold pH at td;simp only[RD,Wj,tb_70,Tx]at td;exact of_decide_eq_true td)
 exact FC (A:=⟨x_83,d0,x_79,d1,x_81,d2,x_36,d3,x_57,d4,x_73,d5,x_30,d6,x_0,d7,x_50,d8,x_37,d9,x_74,d10,x_76,d11,x_68,d12,x_49,d13,x_94,d14,x_87,d15,x_21,d16,x_35,d17,x_70,d18,x_48,d19,x_4,d20,x_45,d21,x_75,d22,x_41,d23,x_72,d24,x_47,d25,x_46,d26,x_43,d27,x_25,d28,x_63,d29,x_38,d30,x_52,d31,x_54,d32,x_24,d33,x_60,d34,x_61,d35,x_77,d36,x_1,d37,x_32,d38,x_89,d39,x_18,d40,x_16,d41,x_55,d42,x_3,d43,x_34,d44,x_14,d45,x_13,d46,x_15,d47,x_20,d48,x_53,d49,x_29,d50,x_66,d51,x_82,d52,x_31,d53,x_2,d54,x_92,d55,x_84,d56,x_67,d57,x_33,d58,x_17,d59,x_19,d60,x_51,d61,x_27,d62,x_59,d63,x_10,d64,x_65,d65,x_39,d66,x_40,d67,x_23,d68,x_9,d69,x_6,d70,x_5,d71,x_8,d72,x_78,d73,x_42,d74,x_95,d75,x_44,d76,x_26,d77,x_11,d78,x_90,d79,x_22,d80,x_7,d81,x_80,d82,x_69,d83,x_91,d84,x_86,d85,x_88,d86,x_93,d87,x_28,d88,x_12,d89,x_56,d90,x_62,d91,x_58,d92,x_64,d93,fa,d94,z_70,t_70,y_NoWay,u_WAYS,y_Knot,y_Bare,y_Seals,y_Row,y_Table,y_Numbers,y_House,y_Fork,y_Leaf,y_Crook,y_Line⟩) ⟨h0.fm1 X G,h1.fm1 X G,h2.fm1 X G,h3,h3.b2,h4.fm2 X G,h5.fm1 X G,h6,h6.b3,h7,h7.b2,h8,h8.b3,h9,h9.b2,h10.fm1 X G,h11.fm1 X G,h12.fm1 X G,h13,h13.b2,h14.fm1 X G,h15.fm1 X G,h16,h16.b4,h17,h17.b1,h18.fm0 X G,h19,h19.b1,h20,h20.b3,h21,h21.b1,h22.fm2 X G,h23,h23.b3,h24.fm1 X G,h25,h25.b3,h26,h26.b3,h27,h27.b2,h28,h28.b1,h29.fm2 X G,h30,h30.b2,h31,h31.b1,h32,h32.b1,h33,h33.b1,h34.fm2 X G,h35.fm4 X G,h36.fm2 X G,h37,h37.b3,h38,h38.b3,h39.fm3 X G,h40,h40.b3,h41,h41.b3,h42,h42.b2,h43,h43.b4,h44,h44.b4,h45,h45.b3,h46,h46.b6,h47,h47.b5,h48,h48.b4,h49,h49.b2,h50,h50.b2,h51.fm1 X G,h52.fm1 X G,h53,h53.b4,h54,h54.b5,h55.fm3 X G,h56.fm5 X G,h57.fm3 X G,h58,h58.b5,h59,h59.b3,h60,h60.b5,h61,h61.b3,h62,h62.b3,h63.fm4 X G,h64,h64.b1,h65.fm4 X G,h66,h66.b4,h67,h67.b3,h68,h68.b3,h69,h69.b2,h70,h70.b2,h71,h71.b2,h72,h72.b3,h73.fm2 X G,h74,h74.b3,h75.fm2 X G,h76,h76.b3,h77,h77.b3,h78,h78.b3,h79.fm2 X G,h80,h80.b4,h81,h81.b4,h82.fm3 X G,h83.fm3 X G,h84.fm3 X G,h85.fm5 X G,h86.fm6 X G,h87.fm3 X G,h88,h88.b5,h89,h89.b5,h90.fm2 X G,h91.fm2 X G,h92.fm3 X G,h93.fm2 X G,h94.fm1 X G,RQ X G z_all,RQ X G z_bool,RQ X G z_dict,RQ X G z_int,RQ X G z_isinstance,RQ X G z_len,RQ X G z_list,RQ X G z_max,RQ X G z_min,RQ X G z_range,RQ X G z_reversed,RQ X G z_sorted,RQ X G z_str,RQ X G z_tuple,⟨_,Sk X G c_MOST_BITS⟩,⟨_,Sk X G c_MOST_PARTS⟩,⟨_,Sk X G c_MOST_SIGNS⟩,h18.code X G tb_70,Sk X G mo_WAYS,ob_WAYS,Sk X G bc_NoWay,gl.ok eo_NoWay,eo_NoWay,⟨e0_NoWay,e1_NoWay,e2_NoWay,em0_NoWay,em1_NoWay⟩,yN sb_NoWay_NoWay,Sk X G bo_Knot,⟨pg_Knot,hd_Knot,po_Knot,sa_Knot⟩,na_Knot_term,na_Knot_mark,Sk X G bo_Bare,⟨pg_Bare,hd_Bare,po_Bare,sa_Bare⟩,na_Bare_term,na_Bare_mark,Sk X G bo_Seals,⟨pg_Seals,hd_Seals,po_Seals,sa_Seals⟩,na_Seals_sealed,Sk X G bo_Row,⟨pg_Row,hd_Row,po_Row,sa_Row⟩,na_Row_stamper,na_Row_entries,na_Row_tops,Sk X G bo_Table,⟨pg_Table,hd_Table,po_Table,sa_Table⟩,na_Table_stamper,na_Table_bits,na_Table_top,Sk X G bo_Numbers,⟨pg_Numbers,hd_Numbers,po_Numbers,sa_Numbers⟩,na_Numbers_given,Sk X G bo_House,⟨pg_House,hd_House,po_House,sa_House⟩,na_House_table,na_House_row,na_House_makes,na_House_seals,Sk X G bo_Fork,⟨pg_Fork,hd_Fork,po_Fork,sa_Fork⟩,na_Fork_depth,na_Fork_begin,na_Fork_left,na_Fork_right,na_Fork_term,na_Fork_mark,Sk X G bo_Leaf,⟨pg_Leaf,hd_Leaf,po_Leaf,sa_Leaf⟩,na_Leaf_key,na_Leaf_text,na_Leaf_term,na_Leaf_mark,Sk X G bo_Crook,⟨pg_Crook,hd_Crook,po_Crook,sa_Crook⟩,na_Crook_house,na_Crook_way,Sk X G bo_Line,⟨pg_Line,hd_Line,po_Line,sa_Line⟩,⟨a13,fn13,h13.kp⟩,⟨a21,fn21,h21.kp⟩,⟨a26,fn26,h26.kp⟩,⟨a25,fn25,h25.kp⟩,⟨a23,fn23,h23.kp⟩,⟨a27,fn27,h27.kp⟩,⟨a28,fn28,h28.kp⟩,⟨a32,fn32,h32.kp⟩,⟨a30,fn30,h30.kp⟩,⟨a31,fn31,h31.kp⟩,⟨a40,fn40,h40.kp⟩,⟨a37,fn37,h37.kp⟩,⟨a38,fn38,h38.kp⟩,⟨a41,fn41,h41.kp⟩,⟨a47,fn47,h47.kp⟩,⟨a45,fn45,h45.kp⟩,⟨a43,fn43,h43.kp⟩,⟨a44,fn44,h44.kp⟩,⟨a48,fn48,h48.kp⟩,⟨a42,fn42,h42.kp⟩,⟨a49,fn49,h49.kp⟩,⟨a54,fn54,h54.kp⟩,⟨a58,fn58,h58.kp⟩,⟨a60,fn60,h60.kp⟩,⟨a59,fn59,h59.kp⟩,⟨a61,fn61,h61.kp⟩,⟨a33,fn33,h33.kp⟩,⟨a50,fn50,h50.kp⟩,⟨a62,fn62,h62.kp⟩,⟨a66,fn66,h66.kp⟩,⟨a67,fn67,h67.kp⟩,⟨a70,fn70,h70.kp⟩,⟨a68,fn68,h68.kp⟩,⟨a71,fn71,h71.kp⟩,⟨a69,fn69,h69.kp⟩,⟨a74,fn74,h74.kp⟩,⟨a76,fn76,h76.kp⟩,⟨a77,fn77,h77.kp⟩,⟨a80,fn80,h80.kp⟩,⟨a88,fn88,h88.kp⟩,⟨a89,fn89,h89.kp⟩,⟨a81,fn81,h81.kp⟩,⟨a78,fn78,h78.kp⟩,⟨a72,fn72,h72.kp⟩,⟨a64,fn64,h64.kp⟩,⟨a3,fn3,h3.kp⟩,⟨mk_Bare,a7,fn7,kc_Bare⟩,⟨mk_Row,a9,fn9,kc_Row⟩,⟨mk_Table,a8,fn8,kc_Table⟩,⟨mk_Numbers,a17,fn17,kc_Numbers⟩,⟨mk_Fork,a46,fn46,kc_Fork⟩,⟨mk_Leaf,a53,fn53,kc_Leaf⟩,⟨mk_Crook,a20,fn20,kc_Crook⟩,⟨mk_House,a16,fn16,kc_House⟩,⟨mk_Seals,a19,fn19,kc_Seals⟩,⟨cg_Knot,cr_Knot,cv_Knot,cw_Knot,h6.kp⟩,⟨oic_Bare,oig,oit,oim_Bare⟩,⟨oic_Fork,oig,oit,oim_Fork⟩,⟨oic_Leaf,oig,oit,oim_Leaf⟩,⟨oic_Crook,oig,oit,oim_Crook⟩,ko_Bare_Bare,ko_Bare_Fork,ko_Fork_Bare,ko_Fork_Fork,ko_Leaf_Bare,ko_Leaf_Fork,ko_Crook_Line⟩ nt tb_70 tdn
def OL {l:W.OpenLaw}{q:Rh}{loose:List Str}{XP:(Str->Option tx)->Heap->Prop}{YP:RF->Heap->Prop}{d:DefRec}{K:Params->cW}(hn:l.most=some 63)(hdf:d.params.defaults=[])
  (hY:∀(w:RF)(h:Heap),YP w h->(K w.params).In h)(hq:∀y∈(["counting"]:List Str),((Vo q).find? fun e=>e.name==y).isSome=true)
  (F:∀(w:RF)(mg:Str->Option tx)(fa:Addr)(h:Heap),(K w.params).In h->h.Ns mainGlobals mg->mg d.name=some (.ref fa)->wa l.prog w (K w.params) mg fa):
  W.WalkO q loose XP YP l.row.toRowW d [] (fun f vs=>WI f vs):=
 L2.Bd (n:=63) (k:=221) (x:="_law_script") (CX:=fun w=>CX1 l.prog w) hn (by decide) hdf ⟨rfl,by decide,by decide⟩ hY hq F fun _ _ _ _ _ ⟨_,_,_,_,_,_,z⟩=>z
end
end Rs
namespace PySem.W.Fast
def tw17875211598740317925:=()
def tw17100194999350912391:=()
def tw7116370851496713628:=()
def tw7528974769473304328:=()
def tw4231776706608476240:=()
def tw7406819802180821101:=()
def tw16362059628808738736:=()
def tw13260345455687547505:=()
def tw1620925779588627190:=()
def tw5410903350311083843:=()
def tw9142331404544488221:=()
def tw931728127636177155:=()
def tw12086547707048202261:=()
def tw7336278713726757126:=()
def tw15526676830804419624:=()
def tw8260565670486338522:=()
def tw10020355940071468266:=()
def tw2385402882676802635:=()
def tw3431067264186355964:=()
def tw10429242246654597053:=()
def tw17079589499464417800:=()
def tw230260128182080362:=()
def tw13418054239528267722:=()
def tw2135198832596828217:=()
def tw8375988313813291655:=()
def tw11437118921498249965:=()
def tw9172607206802288417:=()
def tw10793135571896195105:=()
def tw8067695054646702942:=()
def tw7094089679149908057:=()
def tw668956262606436760:=()
def tw5648557069744706499:=()
def tw1554562677825171694:=()
def tw10265805804462577322:=()
def tw11049408384756114305:=()
def tw11031283890750265700:=()
def tw11584132399613532587:=()
def tw13962834311871589436:=()
def tw17549877625384843278:=()
def tw8401323575061842386:=()
def tw129912693469827052:=()
def tw1580056816324733855:=()
def tw7779290633269060751:=()
def tw14730033426189863651:=()
def tw10643806463302296507:=()
def tw7465545007382314425:=()
def tw4200165027643207079:=()
def tw1401703547486074054:=()
def tw4961312282139629859:=()
def tw10277314556791962704:=()
def tw3351456998941831927:=()
def tw5846630449213907727:=()
def tw14146320687837663533:=()
def tw4131597691972405686:=()
def tw10411947231713585488:=()
def tw16713070319446831961:=()
def tw8718160002958226655:=()
def tw9438661487166738181:=()
def tw6209366124470988499:=()
def tw11915090819324906008:=()
def tw470498397100381609:=()
def tw5429648710095258407:=()
def tw12794939305853227407:=()
def tw9745683954108206479:=()
def tw2636298797005391056:=()
def tw8903532865494479472:=()
def tw2443149709097117059:=()
def tw465052425984721271:=()
def tw2825184680241681345:=()
def tw15980989289208353624:=()
def tw13252256469449362619:=()
def tw12364734014921785055:=()
def tw11390500888793188214:=()
def tw9012741585417933062:=()
def tw8399388467003134389:=()
def tw9674764482417968956:=()
def tw1220820235618217445:=()
def tw5157616192633730306:=()
def tw2507419176494687327:=()
def tw741145570773807375:=()
def tw7346604019932842778:=()
def tw16475582153567967824:=()
def tw7841977738992926410:=()
def tw16307838435510168317:=()
def tw1865385523077715271:=()
def tw18172670597348261902:=()
def tw12529669089813740436:=()
def tw9380897828356945274:=()
def tw5072431490251192657:=()
def tw2686331993947066478:=()
def tw17181803855492941147:=()
def tw13603166286694044520:=()
def tw3981886141031649055:=()
def tw13796154537304892698:=()
def tw1976405897846974568:=()
def tw9978578042066129753:=()
def tw14618986241158198727:=()
def tw11113408539704060415:=()
def tw13057336320869916116:=()
def tw13907554691655883684:=()
def tw5939005923030795942:=()
def tw12153366501847607643:=()
def tw17384203847383037624:=()
def tw2793716781374466324:=()
def tw9129845298061768957:=()
def tw14776382057606187401:=()
def tw8198642733504323633:=()
def tw17967918189909741375:=()
def tw8639834726213041693:=()
def tw4919975226597985628:=()
def tw16091367430312535104:=()
def tw8498976660099993788:=()
def tw2151408723773980383:=()
def tw2999404757812114166:=()
def tw14410889759660431160:=()
def tw10475828990372481011:=()
def tw17040493693662353272:=()
def tw14948420254233821982:=()
def tw17523317820129671788:=()
def tw7462414093652659724:=()
def tw12887505232359956733:=()
def tw15488994413085721004:=()
def tw5400774967165894401:=()
def tw10740434212044016543:=()
def tw12932503757209522126:=()
def tw13255973472481727694:=()
def tw17487839051914758881:=()
def tw16792938314816227679:=()
def tw4134174877463008376:=()
def tw5146021502470588799:=()
def tw12081366682208496222:=()
def tw15720491285953684601:=()
def tw11403779558678497368:=()
def tw10298501078448611207:=()
def tw4764005812954757368:=()
def tw9828282896878076803:=()
def tw2498141739672336990:=()
def tw16167540364071793584:=()
def tw755611387155571693:=()
def tw17465306797958692301:=()
def tw283464122756520618:=()
def tw6844887714828711589:=()
def tw2622864014881069680:=()
def tw16186708636880601999:=()
def tw3370627434623951434:=()
def tw1383895374454210736:=()
def tw7151420974085919296:=()
def tw4170550944742845320:=()
def tw4994317606751690309:=()
def tw7479467645716034751:=()
def tw16465348522495411870:=()
def tw393049971773461782:=()
def tw7149880977978362604:=()
def tw1791460717385507292:=()
def tw8196507242526704952:=()
def tw13756927538593708666:=()
def tw9636258032151616129:=()
def tw18102059214042454869:=()
def tw3550626153841552194:=()
def tw3307207898800724702:=()
def tw11794439617519534026:=()
def tw2054145113579290622:=()
def tw12890960735801141268:=()
def tw6217200310901846677:=()
def tw13745612668649913087:=()
def tw14219276577222516486:=()
def tw4800646769946492582:=()
def tw8811135865124318458:=()
def tw16794126644468393619:=()
def tw18248767743635654271:=()
def tw17627914960195299050:=()
def tw10499667196397363498:=()
def tw2960084562624714808:=()
def tw7609614940894973991:=()
def tw14530923765554493750:=()
def tw2741942724520295151:=()
def tw939754601685614985:=()
def tw5717037117276158130:=()
def tw107713696437722198:=()
def tw13245910765300128987:=()
def tw2205319998578579650:=()
def tw15801271990521627108:=()
def tw5345004944486692863:=()
def tw9613180013994446101:=()
def tw16966831459946251795:=()
def tw18249242786657963660:=()
def tw9192728050343215076:=()
def tw13505154474712488099:=()
def tw15448394854925975509:=()
def tw10696989857364885946:=()
def tw14520133449642442444:=()
def tw8811371769437718314:=()
def tw13022256848088018223:=()
def tw17828066219489509484:=()
def tw14289229316808723862:=()
def tw14404474170357498230:=()
def tw12994822551444205979:=()
def tw16096115696312380944:=()
def tw12311177438001215320:=()
def tw4356127280473626859:=()
def tw5363633652477738178:=()
def tw3206391065969151590:=()
def tw4642468578757654260:=()
def tw2775533008726649365:=()
def tw5810757311293190481:=()
def tw16361084957244186706:=()
def tw5259224207059907429:=()
def tw4031134612381468612:=()
def tw2169204554021238028:=()
def tw5548612716191850437:=()
def tw9747648556639543245:=()
def tw10512177809159715443:=()
def tw16735892698171376046:=()
def tw1598747518395918110:=()
def tw793541932335466265:=()
def tw4928800509842091159:=()
def tw4113405431742692316:=()
def tw16535286140048596154:=()
def tw1006149610896399570:=()
def tw6294076882032559367:=()
def tw17612414684441111509:=()
def tw6718300905794991815:=()
def tw5417221989678672926:=()
def tw4031952857375205329:=()
def tw11288658870097481129:=()
def tw18322723511098788785:=()
def tw8956409226203047426:=()
def tw17237622299804007048:=()
def tw12645259553633684283:=()
def tw5734859981296166654:=()
def tw8649938300031286975:=()
def tw4221478721901553426:=()
def tw15357781554352895328:=()
def tw2415512510113987350:=()
def tw15774559342710489846:=()
def tw15812583067639511920:=()
def tw16062274179096127928:=()
def tw8636886047447213406:=()
def tw4899149118678095275:=()
def tw5481331194131733424:=()
def tw3993404426155816505:=()
def tw9132204735629702013:=()
def tw8984537144614469380:=()
def tw16216917060685449298:=()
def tw7398005392305690325:=()
def tw932928256565464123:=()
def tw3822175190760227063:=()
def tw8405062245297995341:=()
def tw16820126450395029220:=()
def tw13890651724458838180:=()
def tw10359227008956026480:=()
def tw18095990978601165196:=()
def tw7367564209126042030:=()
def tw8145449497515511316:=()
def tw13933252259688871351:=()
def tw7940494371411284461:=()
def tw12202779897659464025:=()
def tw4209932560872735412:=()
def tw14377311671543982312:=()
def tw7573150367901308582:=()
def tw5208916928073662386:=()
def tw10826714816763146174:=()
def tw16603620792744664981:=()
def tw5979353361287315059:=()
def tw13725762285149724246:=()
def tw1539536298166642899:=()
def tw8148185155546859690:=()
def tw17285091908469189715:=()
def tw5316207588812170348:=()
def tw14290374756332595235:=()
def tw10134838450813842238:=()
def tw10343487406856762247:=()
def tw11501595364504291763:=()
def tw2154626713041000279:=()
def tw15756451038268456785:=()
def tw18093148121805192307:=()
def tw4421657238248780459:=()
def tw15289943091802291712:=()
def tw4124852076094362414:=()
def tw8190948773148095069:=()
def tw9309036165884600500:=()
def tw404427963223406312:=()
def tw14193386229940831004:=()
def tw2065089689225209537:=()
def tw11354967200748003291:=()
def tw563920623102048878:=()
def tw8067681138435036092:=()
def tw3016314270636010654:=()
def tw14414907166626985344:=()
def tw17224544944830630669:=()
def tw17305867243472080121:=()
def tw16544438613532740363:=()
def tw16674721425040267463:=()
def tw9081678002247511756:=()
def tw11298470599387258986:=()
def tw7545641041866833076:=()
def tw12133805065638595546:=()
def tw11984083923881982474:=()
def tw17130317995374866763:=()
def tw7908155784347517039:=()
def tw704909669540716581:=()
def tw7888243910821219252:=()
def tw8303522331715599662:=()
def tw9832055791418452361:=()
def tw2292697486213707388:=()
end PySem.W.Fast
open PySem PySem.W PyProof.Rows
set_option maxRecDepth 100000 in
set_option maxHeartbeats 0 in
theorem PySem.Challenge.cw_rootstamp_k71_ways_of_a_crook_holds : PySem.Challenge.rw_rootstamp_k71_ways_of_a_crook.Holds := by
 w_on; o_law; k_head; (case hw => w_witness2)
 k_fill
 refine Rs.OL (l := PySem.Challenge.rw_rootstamp_k71_ways_of_a_crook) rfl rfl (fun w h Y => by first | exact PySem.W.kIn_of Y | exact PySem.W.km_in_of Y) (by decide +kernel) ?F
 case F =>
  intro w mg fa h KX G hmg
  refine' Rs.GN KX G hmg ?bo_Knot ?bo_Bare ?bo_Seals ?bo_Row ?bo_Table ?bo_Numbers ?bo_House ?bo_Fork ?bo_Leaf ?bo_Crook ?bo_Line ?bc_NoWay (L2.bJ ?a0 ?l0 ?c0 ?k0) (L2.bJ ?a1 ?l1 ?c1 ?k1) (L2.bJ ?a2 ?l2 ?c2 ?k2) ?a3 (L2.aT ?l3 ?c3 ?k3) ?fn3 (L2.bJ ?a4 ?l4 ?c4 ?k4) (L2.bJ ?a5 ?l5 ?c5 ?k5) ?a6 (L2.aT ?l6 ?c6 ?k6) ?fn6 ?a7 (L2.aT ?l7 ?c7 ?k7) ?fn7 ?a8 (L2.aT ?l8 ?c8 ?k8) ?fn8 ?a9 (L2.aT ?l9 ?c9 ?k9) ?fn9 (L2.bJ ?a10 ?l10 ?c10 ?k10) (L2.bJ ?a11 ?l11 ?c11 ?k11) (L2.bJ ?a12 ?l12 ?c12 ?k12) ?a13 (L2.aT ?l13 ?c13 ?k13) ?fn13 (L2.bJ ?a14 ?l14 ?c14 ?k14) (L2.bJ ?a15 ?l15 ?c15 ?k15) ?a16 (L2.aT ?l16 ?c16 ?k16) ?fn16 ?a17 (L2.aT ?l17 ?c17 ?k17) ?fn17 (L2.bJ ?a18 ?l18 ?c18 ?k18) ?tb_70 ?a19 (L2.aT ?l19 ?c19 ?k19) ?fn19 ?a20 (L2.aT ?l20 ?c20 ?k20) ?fn20 ?a21 (L2.aT ?l21 ?c21 ?k21) ?fn21 (L2.bJ ?a22 ?l22 ?c22 ?k22) ?a23 (L2.aT ?l23 ?c23 ?k23) ?fn23 (L2.bJ ?a24 ?l24 ?c24 ?k24) ?a25 (L2.aT ?l25 ?c25 ?k25) ?fn25 ?a26 (L2.aT ?l26 ?c26 ?k26) ?fn26 ?a27 (L2.aT ?l27 ?c27 ?k27) ?fn27 ?a28 (L2.aT ?l28 ?c28 ?k28) ?fn28 (L2.bJ ?a29 ?l29 ?c29 ?k29) ?a30 (L2.aT ?l30 ?c30 ?k30) ?fn30 ?a31 (L2.aT ?l31 ?c31 ?k31) ?fn31 ?a32 (L2.aT ?l32 ?c32 ?k32) ?fn32 ?a33 (L2.aT ?l33 ?c33 ?k33) ?fn33 (L2.bJ ?a34 ?l34 ?c34 ?k34) (L2.bJ ?a35 ?l35 ?c35 ?k35) (L2.bJ ?a36 ?l36 ?c36 ?k36) ?a37 (L2.aT ?l37 ?c37 ?k37) ?fn37 ?a38 (L2.aT ?l38 ?c38 ?k38) ?fn38 (L2.bJ ?a39 ?l39 ?c39 ?k39) ?a40 (L2.aT ?l40 ?c40 ?k40) ?fn40 ?a41 (L2.aT ?l41 ?c41 ?k41) ?fn41 ?a42 (L2.aT ?l42 ?c42 ?k42) ?fn42 ?a43 (L2.aT ?l43 ?c43 ?k43) ?fn43 ?a44 (L2.aT ?l44 ?c44 ?k44) ?fn44 ?a45 (L2.aT ?l45 ?c45 ?k45) ?fn45 ?a46 (L2.aT ?l46 ?c46 ?k46) ?fn46 ?a47 (L2.aT ?l47 ?c47 ?k47) ?fn47 ?a48 (L2.aT ?l48 ?c48 ?k48) ?fn48 ?a49 (L2.aT ?l49 ?c49 ?k49) ?fn49 ?a50 (L2.aT ?l50 ?c50 ?k50) ?fn50 (L2.bJ ?a51 ?l51 ?c51 ?k51) (L2.bJ ?a52 ?l52 ?c52 ?k52) ?a53 (L2.aT ?l53 ?c53 ?k53) ?fn53 ?a54 (L2.aT ?l54 ?c54 ?k54) ?fn54 (L2.bJ ?a55 ?l55 ?c55 ?k55) (L2.bJ ?a56 ?l56 ?c56 ?k56) (L2.bJ ?a57 ?l57 ?c57 ?k57) ?a58 (L2.aT ?l58 ?c58 ?k58) ?fn58 ?a59 (L2.aT ?l59 ?c59 ?k59) ?fn59 ?a60 (L2.aT ?l60 ?c60 ?k60) ?fn60 ?a61 (L2.aT ?l61 ?c61 ?k61) ?fn61 ?a62 (L2.aT ?l62 ?c62 ?k62) ?fn62 (L2.bJ ?a63 ?l63 ?c63 ?k63) ?a64 (L2.aT ?l64 ?c64 ?k64) ?fn64 (L2.bJ ?a65 ?l65 ?c65 ?k65) ?a66 (L2.aT ?l66 ?c66 ?k66) ?fn66 ?a67 (L2.aT ?l67 ?c67 ?k67) ?fn67 ?a68 (L2.aT ?l68 ?c68 ?k68) ?fn68 ?a69 (L2.aT ?l69 ?c69 ?k69) ?fn69 ?a70 (L2.aT ?l70 ?c70 ?k70) ?fn70 ?a71 (L2.aT ?l71 ?c71 ?k71) ?fn71 ?a72 (L2.aT ?l72 ?c72 ?k72) ?fn72 (L2.bJ ?a73 ?l73 ?c73 ?k73) ?a74 (L2.aT ?l74 ?c74 ?k74) ?fn74 (L2.bJ ?a75 ?l75 ?c75 ?k75) ?a76 (L2.aT ?l76 ?c76 ?k76) ?fn76 ?a77 (L2.aT ?l77 ?c77 ?k77) ?fn77 ?a78 (L2.aT ?l78 ?c78 ?k78) ?fn78 (L2.bJ ?a79 ?l79 ?c79 ?k79) ?a80 (L2.aT ?l80 ?c80 ?k80) ?fn80 ?a81 (L2.aT ?l81 ?c81 ?k81) ?fn81 (L2.bJ ?a82 ?l82 ?c82 ?k82) (L2.bJ ?a83 ?l83 ?c83 ?k83) (L2.bJ ?a84 ?l84 ?c84 ?k84) (L2.bJ ?a85 ?l85 ?c85 ?k85) (L2.bJ ?a86 ?l86 ?c86 ?k86) (L2.bJ ?a87 ?l87 ?c87 ?k87) ?a88 (L2.aT ?l88 ?c88 ?k88) ?fn88 ?a89 (L2.aT ?l89 ?c89 ?k89) ?fn89 (L2.bJ ?a90 ?l90 ?c90 ?k90) (L2.bJ ?a91 ?l91 ?c91 ?k91) (L2.bJ ?a92 ?l92 ?c92 ?k92) (L2.bJ ?a93 ?l93 ?c93 ?k93) (L2.bJ ?a94 ?l94 ?c94 ?k94) ?pg_Knot ?hd_Knot ?po_Knot ?sa_Knot ?na_Knot_term ?na_Knot_mark ?pg_Bare ?hd_Bare ?po_Bare ?sa_Bare ?na_Bare_term ?na_Bare_mark ?pg_Seals ?hd_Seals ?po_Seals ?sa_Seals ?na_Seals_sealed ?pg_Row ?hd_Row ?po_Row ?sa_Row ?na_Row_stamper ?na_Row_entries ?na_Row_tops ?pg_Table ?hd_Table ?po_Table ?sa_Table ?na_Table_stamper ?na_Table_bits ?na_Table_top ?pg_Numbers ?hd_Numbers ?po_Numbers ?sa_Numbers ?na_Numbers_given ?pg_House ?hd_House ?po_House ?sa_House ?na_House_table ?na_House_row ?na_House_makes ?na_House_seals ?pg_Fork ?hd_Fork ?po_Fork ?sa_Fork ?na_Fork_depth ?na_Fork_begin ?na_Fork_left ?na_Fork_right ?na_Fork_term ?na_Fork_mark ?pg_Leaf ?hd_Leaf ?po_Leaf ?sa_Leaf ?na_Leaf_key ?na_Leaf_text ?na_Leaf_term ?na_Leaf_mark ?pg_Crook ?hd_Crook ?po_Crook ?sa_Crook ?na_Crook_house ?na_Crook_way ?pg_Line ?hd_Line ?po_Line ?sa_Line ?cg_Knot ?cr_Knot ?cv_Knot ?cw_Knot ?oig ?oit ?oic_Bare ?oim_Bare ?oic_Fork ?oim_Fork ?oic_Leaf ?oim_Leaf ?oic_Crook ?oim_Crook ?ko_Bare_Bare ?ko_Bare_Fork ?ko_Fork_Bare ?ko_Fork_Fork ?ko_Leaf_Bare ?ko_Leaf_Fork ?ko_Crook_Line ?mk_Bare ?kc_Bare ?mk_Row ?kc_Row ?mk_Table ?kc_Table ?mk_Numbers ?kc_Numbers ?mk_Fork ?kc_Fork ?mk_Leaf ?kc_Leaf ?mk_Crook ?kc_Crook ?mk_House ?kc_House ?mk_Seals ?kc_Seals ?eo_NoWay ?e0_NoWay ?e1_NoWay ?e2_NoWay ?em0_NoWay ?em1_NoWay ?sb_NoWay_NoWay ?mo_WAYS ?ob_WAYS ?z_all ?z_bool ?z_dict ?z_int ?z_isinstance ?z_len ?z_list ?z_max ?z_min ?z_range ?z_reversed ?z_sorted ?z_str ?z_tuple ?c_MOST_BITS ?c_MOST_PARTS ?c_MOST_SIGNS ?nt ?td
  case bo_Knot | bo_Bare | bo_Seals | bo_Row | bo_Table | bo_Numbers | bo_House | bo_Fork | bo_Leaf | bo_Crook | bo_Line | bc_NoWay | a0 | l0 | c0 | k0 | a1 | l1 | c1 | k1 | a2 | l2 | c2 | k2 | a3 | l3 | c3 | k3 | fn3 | a4 | l4 | c4 | k4 | a5 | l5 | c5 | k5 | a6 | l6 | c6 | k6 | fn6 | a7 | l7 | c7 | k7 | fn7 | a8 | l8 | c8 | k8 | fn8 | a9 | l9 | c9 | k9 | fn9 | a10 | l10 | c10 | k10 | a11 | l11 | c11 | k11 | a12 | l12 | c12 | k12 | a13 | l13 | c13 | k13 | fn13 | a14 | l14 | c14 | k14 | a15 | l15 | c15 | k15 | a16 | l16 | c16 | k16 | fn16 | a17 | l17 | c17 | k17 | fn17 | a18 | l18 | c18 | k18 => k_is
  case tb_70 => kernel_rfl
  case a19 | l19 | c19 | k19 | fn19 | a20 | l20 | c20 | k20 | fn20 | a21 | l21 | c21 | k21 | fn21 | a22 | l22 | c22 | k22 | a23 | l23 | c23 | k23 | fn23 | a24 | l24 | c24 | k24 | a25 | l25 | c25 | k25 | fn25 | a26 | l26 | c26 | k26 | fn26 | a27 | l27 | c27 | k27 | fn27 | a28 | l28 | c28 | k28 | fn28 | a29 | l29 | c29 | k29 | a30 | l30 | c30 | k30 | fn30 | a31 | l31 | c31 | k31 | fn31 | a32 | l32 | c32 | k32 | fn32 | a33 | l33 | c33 | k33 | fn33 | a34 | l34 | c34 | k34 | a35 | l35 | c35 | k35 | a36 | l36 | c36 | k36 | a37 | l37 | c37 | k37 | fn37 | a38 | l38 | c38 | k38 | fn38 | a39 | l39 | c39 | k39 | a40 | l40 | c40 | k40 | fn40 | a41 | l41 | c41 | k41 | fn41 | a42 | l42 | c42 | k42 | fn42 | a43 | l43 | c43 | k43 | fn43 | a44 | l44 | c44 | k44 | fn44 | a45 | l45 | c45 | k45 | fn45 | a46 | l46 | c46 | k46 | fn46 | a47 | l47 | c47 | k47 | fn47 | a48 | l48 | c48 | k48 | fn48 | a49 | l49 | c49 | k49 | fn49 | a50 | l50 | c50 | k50 | fn50 | a51 | l51 | c51 | k51 | a52 | l52 | c52 | k52 | a53 | l53 | c53 | k53 | fn53 | a54 | l54 | c54 | k54 | fn54 | a55 | l55 | c55 | k55 | a56 | l56 | c56 | k56 | a57 | l57 | c57 | k57 | a58 | l58 | c58 | k58 | fn58 | a59 | l59 | c59 | k59 | fn59 | a60 | l60 | c60 | k60 | fn60 | a61 | l61 | c61 | k61 | fn61 | a62 | l62 | c62 | k62 | fn62 | a63 | l63 | c63 | k63 | a64 | l64 | c64 | k64 | fn64 | a65 | l65 | c65 | k65 | a66 | l66 | c66 | k66 | fn66 | a67 | l67 | c67 | k67 | fn67 | a68 | l68 | c68 | k68 | fn68 | a69 | l69 | c69 | k69 | fn69 | a70 | l70 | c70 | k70 | fn70 | a71 | l71 | c71 | k71 | fn71 | a72 | l72 | c72 | k72 | fn72 | a73 | l73 | c73 | k73 | a74 | l74 | c74 | k74 | fn74 | a75 | l75 | c75 | k75 | a76 | l76 | c76 | k76 | fn76 | a77 | l77 | c77 | k77 | fn77 | a78 | l78 | c78 | k78 | fn78 | a79 | l79 | c79 | k79 | a80 | l80 | c80 | k80 | fn80 | a81 | l81 | c81 | k81 | fn81 | a82 | l82 | c82 | k82 | a83 | l83 | c83 | k83 | a84 | l84 | c84 | k84 | a85 | l85 | c85 | k85 | a86 | l86 | c86 | k86 | a87 | l87 | c87 | k87 | a88 | l88 | c88 | k88 | fn88 | a89 | l89 | c89 | k89 | fn89 | a90 | l90 | c90 | k90 | a91 | l91 | c91 | k91 | a92 | l92 | c92 | k92 | a93 | l93 | c93 | k93 | a94 | l94 | c94 | k94 | pg_Knot | hd_Knot | po_Knot | sa_Knot | na_Knot_term | na_Knot_mark | pg_Bare | hd_Bare | po_Bare | sa_Bare | na_Bare_term | na_Bare_mark | pg_Seals | hd_Seals | po_Seals | sa_Seals | na_Seals_sealed | pg_Row | hd_Row | po_Row | sa_Row | na_Row_stamper | na_Row_entries | na_Row_tops | pg_Table | hd_Table | po_Table | sa_Table | na_Table_stamper | na_Table_bits | na_Table_top | pg_Numbers | hd_Numbers | po_Numbers | sa_Numbers | na_Numbers_given | pg_House | hd_House | po_House | sa_House | na_House_table | na_House_row | na_House_makes | na_House_seals | pg_Fork | hd_Fork | po_Fork | sa_Fork | na_Fork_depth | na_Fork_begin | na_Fork_left | na_Fork_right | na_Fork_term | na_Fork_mark | pg_Leaf | hd_Leaf | po_Leaf | sa_Leaf | na_Leaf_key | na_Leaf_text | na_Leaf_term | na_Leaf_mark | pg_Crook | hd_Crook | po_Crook | sa_Crook | na_Crook_house | na_Crook_way | pg_Line | hd_Line | po_Line | sa_Line => k_is
  case cg_Knot | cr_Knot | cv_Knot | cw_Knot | oig | oit | oic_Bare | oim_Bare | oic_Fork | oim_Fork | oic_Leaf | oim_Leaf | oic_Crook | oim_Crook => first | k_is | kernel_rfl
  case ko_Bare_Bare | ko_Bare_Fork | ko_Fork_Bare | ko_Fork_Fork | ko_Leaf_Bare | ko_Leaf_Fork | ko_Crook_Line => kit_is
  case mk_Bare | kc_Bare | mk_Row | kc_Row | mk_Table | kc_Table | mk_Numbers | kc_Numbers | mk_Fork | kc_Fork | mk_Leaf | kc_Leaf | mk_Crook | kc_Crook | mk_House | kc_House | mk_Seals | kc_Seals => k_is
  case eo_NoWay => k_exc
  case e0_NoWay | e1_NoWay | e2_NoWay | em0_NoWay | em1_NoWay | sb_NoWay_NoWay | mo_WAYS => k_is
  case ob_WAYS => kernel_rfl
  case z_all | z_bool | z_dict | z_int | z_isinstance | z_len | z_list | z_max | z_min | z_range | z_reversed | z_sorted | z_str | z_tuple | c_MOST_BITS | c_MOST_PARTS | c_MOST_SIGNS => k_is
  case nt | td => kernel_rfl
