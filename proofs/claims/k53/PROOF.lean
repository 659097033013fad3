import PyProof.Rows.All
import Wide.All
import OpenK.AllK
import Wide.FinOn
import Lean
import PyProof.EqAt
import PyProof.EqKinds
import PyProof.TupleCall
import PyProof.P3In
import KE.KDictLaws
import KE.KTabLook
import KE.KRevIter
import KE.KItemsList
import PyProof.TupleOfGen
import KE.KSortTup
import KE.KDictSum
import KE.KEqDict
import PyProof.EnumMake
import PyProof.EnumFor
import PyProof.EnumStmt
import PyProof.AttrMissHeap
import KE.KDictOf
import PyProof.Rows.SortShell
import KE.KDictList
import PyProof.Rows.StrJoinRep
import PyProof.NeKinds
import KE.KUnpack
import PyProof.Rows.SetFrom
import PyProof.Rows.RegSetRoads
import PyProof.CollectIter
import PySem.Challenge.RW_rootstamp_k53_heads_of_a_house
set_option genSizeOf false
set_option compiler.extract_closed false
set_option Elab.async false
set_option linter.all false
set_option maxRecDepth 100000
set_option maxHeartbeats 4000000
noncomputable section
open Array renaming getElem?_eq_getElem->Wp,length_toList->Xg,getElem?_toList->Xm,all_eq_true->ZZ,getD_eq_getD_getElem?->aao,getElem?_eq_some_iff->aat,getElem?_eq_none->aaV,forIn_toList->abu,toList->acA
open Bool renaming and_eq_true_iff->Gn,false_ne_true->VF,and_eq_true->WC,false_eq_true->WG,eq_false_iff->XO,eq_iff_iff->Yc,or_false->acz
open Classical renaming byContradiction->VZ
open False renaming elim->Wg
open ForInStep renaming yield->abn
open Function renaming comp_def->abc,comp->abT
open Int renaming emod_lt_of_pos->XE,emod_nonneg->Ye,toNat_natCast->Yq,lt_trans->Ys,eq_ofNat_of_zero_le->Ze,fdiv_eq_ediv_of_nonneg->aaI
open LawfulMonad renaming pure_bind->ab7
open List renaming mem_cons_self->cW,mem_cons->tx,getElem?_eq_getElem->Dc,not_mem_nil->If,mem_cons_of_mem->Vu,size_toArray->Vv,length_map->Vy,getElem?_eq_some_iff->Vz,getD_eq_getElem?_getD->VA,getElem?_map->VG,mem_singleton->VH,map_cons->VI,mem_map->VL,length_take->VN,mem_of_getElem?->VP,length_cons->VS,length_append->VU,nodup_cons->VX,find?_cons->VY,getElem?_eq_none->Wa,append_nil->Wc,mem_append_right->Wl,length_drop->Wo,getElem?_append_left->Wq,append_assoc->Wr,map->Wt,mem_iff_getElem?->Wu,map_map->WA,all_eq_true->WB,mem_append->WE,range->WJ,lookup_cons->WK,getElem?_append_right->WR,reverse_cons->WV,pairwise_map->WW,take_of_length_le->Xi,lookup->Xo,mem_append_left->Xp,length->Xy,getElem?_take->XD,take_append_drop->XG,getElem_mem->XS,map_congr_left->XU,of_mem_zip->XZ,getElem?_replicate->Ya,forIn_cons->Yb,getElem?_set_self->Yh,find?_cons_of_neg->Yi,replicate->Yn,nodup_nil->Yo,mem_range->Yp,any_eq_true->Yu,getElem?_set_ne->Yx,any_cons->Yz,pairwise_iff_getElem->YM,forIn_nil->YN,drop_eq_getElem_cons->YO,sum_cons->YW,pairwise_singleton->YX,length_eq_zero_iff->YY,all_cons->YZ,filter_cons->Zd,find?_cons_of_pos->Zg,map_nil->Zj,map_append->Zk,length_replicate->Zl,mem_of_mem_take->Zq,getElem?_append->Zr,take_take->Zt,length_reverse->Zw,filterMap_cons->Zx,zip->ZQ,pairwise_cons->ZR,mem_filterMap->ZU,take_append_of_le_length->aah,getElem_inj->aai,mem_filter->aas,mem_of_find?_eq_some->aaH,getElem?_take_of_lt->aaN,getElem?_cons_succ->aaS,filter_cons_of_pos->aaT,filter_cons_of_neg->aaU,toArray->aa5,lookup_cons_self->aa6,length_singleton->aa7,length_filter_le->aa8,getElem?_reverse->aa9,eq_nil_or_concat->aba,concat_eq_append->abb,pairwise_append->abl,mem_iff_getElem->abm,zip_cons_cons->abF,getElem?_drop->abG,find?_eq_none->abH,filter_append->abI,take_sublist->abP,nodup_append->abQ,find?_append->abR,ext_getElem?->abS,zipIdx_cons->ab3,map_reverse->ab4,drop_length->ab5,append_cons->ab6,zipIdx_nil->aci,take_succ->acq,drop_take->acr,drop_drop->acs,all_map->acU
open List.Pairwise renaming of_map->aaj,nil->aaB
open List.cons renaming injEq->XT
open Nat renaming le_refl->sn,lt_of_lt_of_le->VB,ne_of_lt->VD,le_trans->VO,zero_le->VW,two_pow_pos->Wv,lt_succ_self->Wx,lt_irrefl->Wz,shiftRight_eq_div_pow->WY,lt_or_ge->Xf,pow_succ->Xv,ne_of_gt->Xx,zero_add->XJ,le_of_lt->XX,min_eq_left->Yd,div_div_eq_div_mul->Yk,lt_succ_of_lt->Ym,div_lt_iff_lt_mul->Yr,le_add_right->Yv,div_eq_of_lt->Yw,pow_le_pow_right->Yy,lt_of_le_of_lt->YK,le_of_eq->YL,pow_add->Zc,log2->Zp,one_le_two_pow->ZY,sub_self->aag,log2_lt->aay,le_succ->aaz,div_add_mod->aaA,shiftRight_xor_distrib->aaF,mod_two_eq_zero_or_one->aaG,lt_trans->abk,lt_or_eq_of_le->abO,lt_trichotomy->ab1,le_of_lt_succ->ab2,succ_le_succ->acg,log2_self_le->ach,not_lt_zero->acp
open Nat.succ renaming inj->ZM
open Ne renaming symm->ab
open Option renaming isSome_iff_exists->Ws,map_eq_some_iff->WM,isSome_map->Yf,map_eq_none_iff->YV,getD_some->abD,getD_none->abE
open Option.some renaming inj->VR
open Or renaming inr->aaE,inl->ab0
open Prod renaming ext->acy
open PyProof.Rows renaming callWith_type1->We,boot_isinstance->Wf,AllBare->Zn,boot_tuple->ZP,boot_str->aan,recsOf->aar,IntsAre->aa1,sortedHeap_old->abj,listUpdate_at->abC,subscriptTail_builtinR->abN,seqEpoch_at->acn,boot_sorted->aco
open PySem renaming wpAny_bind->pv,Value->pz,Shared->Bn,FuncData->Gt,wpAny_pure->Vt,sizeLine_eq->VE,boot_len->VJ,Program->VM,wpAny_mono->VT,Around->Wj,World->Wm,wpAny_Call_Name_kw->Wn,wpAny_holding->WN,wpAny_field->WO,mem_of_lookup->WU,wpAny_call_entry->Xd,wpAny_seqItems->Xj,NameKind->Xu,wpAny_truthy_bool->Xz,wpAny_callSpecial?_slot->XB,strLen_append->XC,wpAny_setField_rec->XM,tupleKind_room_in1->XN,wpAny_passesOwn->XQ,wpAny_execs_nil->Yl,codeAny_mono->YA,builtinLookup_eq_fast->YB,IsPair->YD,wpAny_updateSeq->YQ,wpAny_specialOf->YR,Builtin->Zb,atKey_none_of_get->Zh,PlainAttrs->Zi,ZipApart->Zm,wpAny_execs_cons->Zo,wpAny_loadPart'->ZC,typeLookup_type->ZD,call_meetsIn->ZH,wpAny_letGo->aab,plainId_quiet->aak,wpAny_rule->aau,wpAny_pyIter_list->aav,noFill_tuple_add->aaJ,GenState->aaO,ofString_length->aaW,Within->aaX,PassesOwn->aaY,wpAny_newFunctionEnv_cells->aa2,wpAny_newTuple->abd,isSubtype_type->abe,wpAny_call->abo,Result->abp,PyData->abq,wpAny_standAt->abv,wpAny_onRaise->abw,wpAny_newList->abx,wpAny_attempt->aby,seq_tuple_add->abz,call->abA,BindsTo->abB,wpAny_nextOf_list_item->abJ,wpAny_notOrdered_dict->abU,wpAny_nextOf_list_end->abV,concat_meets->abW,codeAny_call_function->abX,CmpOp->abZ,wpAny_updateSeq_pair->ab8,wpAny_pyIter_revIter->ab9,wpAny_newFunctionEnv->aca,intText?->acb,storedH_new->acj,kt_meets_setdefault->ack,wpAny_pyIter_tuple->acu,call_reversed_list->acv,wpAny_dictEntries->acB,wpAny_assign_Name->acC,wpAny_Return_some->acD,wpAny_Name->acE,typeIs_str->acF,call_meets->acG,IsZip->acJ
open PySem.Around renaming under->aaR,under_plainId->aaZ,frames_deeper->aa0
open PySem.Builtin renaming bitNot->Wh,bitAnd->Xl,bitXor->YE
open PySem.Builtin.Dict renaming keyAndDefault->ZL
open PySem.Builtin.Int renaming intBits->WI
open PySem.Builtin.List renaming listExtendWith->Wd,listSameRef->XI,listItems->XR,listLengthHint->Zv,listUpdate->aaa
open PySem.Builtin.Range renaming rangeSize->acT
open PySem.Builtin.SmallTypes renaming ownedTupleIsFree->VQ,nextOf->Wi,ownedTupleHandOut->YF
open PySem.Calls renaming call_function_entry->YH,spliced_cons->ZK,spliced_nil->ZX,Name_function_global->aaq,callWith_builtin->aaQ
open PySem.Code renaming isFrame->aa4
open PySem.Data renaming fields->abt
open PySem.EqMixed renaming ne_str_int->acL,ne_str_bool->acM,ne_int_str->acN,ne_bool_str->acO,eq_str_int->acP,eq_str_bool->acQ,eq_int_str->acR,eq_bool_str->acS
open PySem.F renaming slot_list_append->Vw,type_list_append->Vx,plainAttrs_list->VC,plain_extend_loop->Xa,slot_dict_setdefault->Xc,args_dict_setdefault_3->Xr,entry_dict_setdefault->Xt,plainAttrs_dict->XW,slot_zip_next->Yg,args_tuple_add_2->YG,slot_dict_items->YS,entry_tuple_add->YT,slot_tuple_add->YU,type_int_bit_length->aae,slot_int_bit_length->aaf,entry_extend_loop->aal,args_zip_next_1->aam,slot_str_ascii_iterator_iter->aap,type_dict_items->aaw,entry_zip_next->aax,plainAttrs_str->aaC,plainAttrs_int->aaD,type_str_join->aaK,slot_str_join->aaL,slot_dict_pop->aaM,slot_tuple_iterator_next->aaP,args_list_init_2->aa3,typeCall_list_1->abh,entry_list_init->abi,slot_tuple_eq_refl->abM,called_list->abY,slot_dict_len->acK
open PySem.Heap renaming get?_push_of_some->gV,lt_size->Vq,get?_push_size->Vr,size_push->WD,get?_update_other->WT,get?_update_self->WZ,SameBut->XF,size_update->Yt,get?_push_ne->abL
open PySem.Heap.IsSliceOf renaming new->acx
open PySem.Heap.SameBut renaming update->Yj
open PySem.IntMulOk renaming of_left->Xh,of_right->Xn
open PySem.NameKind renaming free->Xq,cell->YJ
open PySem.Obj renaming mapSeq->Wy,data_mapDictKeys->abr,data_mapFields->abK
open PySem.PassesOwn renaming never->Wb
open PySem.PyData renaming eqv->YI,depthAll->Zf,eqvAll->Zu,canLayAll0->ZN,strOk->acm
open PySem.SeqAt.EqAt renaming int_int->Zs,str_int->aac,int_str->aad,str_str->acf
open PySem.Shared renaming heap->acw
open PySem.Str renaming ofString->WL,empty->XA,empty_append->acd,append_empty->ace
open PySem.Txt renaming slice->ZV
open PySem.Value renaming ref->Lt,none->Xb,bool->Xe,type->XH,str->XY,int->YC,float->abg,isStrOf->acl,isInt->acH,bytes->acI
open PySem.Value.type renaming inj->abf
open Sum renaming inl->Za,inr->Zy
open True renaming intro->Xk
namespace L2
open PySem PySem.Spec PyProof.Rows
abbrev Key:=Sum Int Str
noncomputable def tm:Key->pz->Bool
 |.inl k,v=>acH k v
 |.inr x,v=>acl x v
def Ua (w:Wm):Key->Int
 |.inl k=>hashInt k
 |.inr x=>hashStr w x
theorem cF:∀{k:Key}{v:pz},tm k v=true->(∃i t,k=Za i/\v=YC i t)\/(∃x t,k=Zy x/\v=XY x t)
 |.inl i,v,h=>by
  obtain⟨t,e⟩:=Value.isInt_shape (k:=i) (v:=v) h
  exact .inl ⟨i,t,rfl,e⟩
 |.inr x,v,h=>by
  obtain⟨t,e⟩:=Value.isStrOf_shape (x:=x) (v:=v) h
  exact .inr ⟨x,t,rfl,e⟩
def Gw (i:Int)(t:Tok):tm (.inl i) (.int i t)=true:=by simp[tm,acH]
def Gj (x:Str)(t:Tok):tm (.inr x) (.str x t)=true:=by simp[tm,acl]
def Qs (a b:Int):decide ((Za a:Key)=Za b)=(a==b):=by
 by_cases e:a=b
 ·subst e;simp
 ·have h:¬(Za a:Key)=Za b:=fun q=>e (Sum.inl.inj q)
  rw[decide_eq_false h]
  exact(beq_eq_false_iff_ne.mpr e).symm
def NO (a b:Str):decide ((Zy a:Key)=Zy b)=decide (a=b):=by
 by_cases e:a=b
 ·subst e;simp
 ·have h:¬(Zy a:Key)=Zy b:=fun q=>e (Sum.inr.inj q)
  rw[decide_eq_false h,decide_eq_false e]
def Pv (a:Int)(b:Str):decide ((Za a:Key)=Zy b)=false:=decide_eq_false (fun q=>nomatch q)
def Ou (a:Str)(b:Int):decide ((Zy a:Key)=Za b)=false:=decide_eq_false (fun q=>nomatch q)
def bG (prog:VM)(w:Wm):PySem.KeyKind prog w Key where
 is:=tm
 hash:=Ua w
 inj:=fun v a b ha hb=>by
  rcases cF ha with⟨i,t,rfl,rfl⟩|⟨x,t,rfl,rfl⟩
  ·rcases cF hb with⟨j,u,rfl,e⟩|⟨y,u,rfl,e⟩
   ·injection e with e1 _;rw[e1]
   ·exact nomatch e
  ·rcases cF hb with⟨j,u,rfl,e⟩|⟨y,u,rfl,e⟩
   ·exact nomatch e
   ·injection e with e1 _;rw[e1]
 byValue:=fun k v h=>by
  rcases cF h with⟨i,t,rfl,rfl⟩|⟨x,t,rfl,rfl⟩<;>rfl
 pyHash:=fun hv h=>by
  rcases cF hv with⟨i,t,rfl,rfl⟩|⟨x,t,rfl,rfl⟩
  ·exact wpAny_pyHash_int h
  ·exact wpAny_pyHash_str h
 eqBool:=fun hu hv h=>by
  rcases cF hu with⟨i,t,rfl,rfl⟩|⟨x,t,rfl,rfl⟩
  ·rcases cF hv with⟨j,u,rfl,rfl⟩|⟨y,u,rfl,rfl⟩
   ·rw[Qs]at h;exact wpAny_eqBool_int h
   ·rw[Pv]at h;exact aad i t y u _ _ _ _ h
  ·rcases cF hv with⟨j,u,rfl,rfl⟩|⟨y,u,rfl,rfl⟩
   ·rw[Ou]at h;exact aac x t j u _ _ _ _ h
   ·rw[NO]at h;exact wpAny_eqBool_str h
 «strs»:=fun k x t v h=>by
  rcases cF h with⟨i,u,rfl,e⟩|⟨y,u,rfl,e⟩
  ·exact nomatch e
  ·injection e with e1 _
   subst e1
   cases v<;>rfl
def DG (prog:VM)(w:Wm)(i:Int)(t:Tok):(bG prog w).is (.inl i) (.int i t)=true:=Gw i t
def DI (prog:VM)(w:Wm)(x:Str)(t:Tok):(bG prog w).is (.inr x) (.str x t)=true:=Gj x t
inductive V where
 |non|bl (b:Bool)|int (i:Int)|str (x:Str)|byt (b:Array UInt8)|flt (b:UInt64)|ref (a:Addr)|ty (n:String)
 deriving DecidableEq
def aL:V->pz->Prop
 |.non,u=>u=Xb
 |.bl b,u=>u=Xe b
 |.int i,u=>∃t,u=YC i t
 |.str x,u=>∃t,u=XY x t
 |.byt b,u=>∃t,u=acI b t
 |.flt b,u=>∃t,u=abg b t
 |.ref a,u=>u=Lt a
 |.ty n,u=>u=XH n
abbrev aU:List V->List pz->Prop:=Paired aL
def aU.length {xs:List V}{us:List pz}(r:aU xs us):xs.length=us.length:=Paired.length r
theorem aU.get:∀{xs:List V}{us:List pz}{i:Nat}{x:V},aU xs us->xs[i]? =some x->∃u,us[i]? =some u/\aL x u
 |_,_,_,_,.nil,e=>by simp at e
 |_,_,0,_,.cons r _,e=>by simp at e;subst e;exact⟨_,rfl,r⟩
 |_,_,i+1,x,.cons _ t,e=>by
  obtain⟨u,h1,h2⟩:=aU.get (i:=i) (x:=x) t (by simpa using e)
  exact⟨u,by simpa using h1,h2⟩
theorem aU.append:∀{xs ys:List V}{us ws:List pz},aU xs us->aU ys ws->aU (xs++ys) (us++ws)
 |_,_,_,_,.nil,s=>s
 |_,_,_,_,.cons r t,s=>.cons r (aU.append t s)
theorem aU.take:∀{xs:List V}{us:List pz}(n:Nat),aU xs us->aU (xs.take n) (us.take n)
 |_,_,0,_=>.nil
 |_,_,_+1,.nil=>.nil
 |_,_,n+1,.cons r t=>.cons r (aU.take n t)
theorem aU.drop:∀{xs:List V}{us:List pz}(n:Nat),aU xs us->aU (xs.drop n) (us.drop n)
 |_,_,0,r=>r
 |_,_,_+1,.nil=>.nil
 |_,_,n+1,.cons _ t=>aU.drop n t
def bE:Option V->Option pz->Prop
 |some v,some u=>aL v u
 |none,none=>True
 |_,_=>False
def KV {κ:Type}:List (κ×V)->List (κ×pz)->Prop:=Paired fun(p:κ×V)(q:κ×pz)=>p.1=q.1/\aL p.2 q.2
def kV:Key->V
 |.inl i=>.int i
 |.inr x=>.str x
inductive HO where
 |lst (xs:List V)
 |tup (xs:List V)
 |dK (kvs:List (Key×V))|dT (kvs:List (List Key×V))
 |set (S:Int->Bool) (n:Nat)
 |ins (C dx:Addr) (fs:List (Str×V))
 |own (x:Addr)
 |xd (fs:List (Str×V))
 |met (f x:Addr)
 |rng (lo hi:Int)
 |frz (o:Obj) (u:HO)
 |tbl (ps:Array pz)
 |ext (φ:Heap->Prop)
abbrev Hp:=Addr->Option HO
noncomputable def upd (H:Hp)(a:Addr)(o:HO):Hp:=fun b=>if b=a then some o else H b
def aT {H:Hp}{a:Addr}{o:HO}:upd H a o a=some o:=by unfold upd;rw[if_pos rfl]
def ay {H:Hp}{a b:Addr}{o:HO}(h:b≠a):upd H a o b=H b:=by unfold upd;rw[if_neg h]
def lr {H:Hp}{a b:Addr}{o u:HO}(h:H a=some o)(h':H b=some u)(d:o≠u):a≠b:=by
 intro e;subst e;rw[h]at h';exact d (VR h')
def aO {H:Hp}{a b:Addr}{o:HO}(h:H a=some o)(h':H b=none):a≠b:=by
 intro e;subst e;rw[h]at h';injection h'
section
variable (P:VM)(w:Wm)
def ba (H:Hp)(h:Heap)(a:Addr):HO->Prop
 |.lst xs=>xs.length<=sizeLine/\∃(its:List pz)(n:Nat),aU xs its/\h.get? a=some {cls:=.type "list",data:=.seq its.toArray n}
 |.tup xs=>xs.length<=sizeLine/\∃its:List pz,aU xs its/\IsTup h a its.toArray
 |.dK kvs=>kvs.length<=sizeLine/\(a==sysModules)=false/\∃vs,KV kvs vs/\h.DictOf (bG P w) a vs
 |.dT kvs=>kvs.length<=sizeLine/\(a==sysModules)=false/\∃xs:List (List Key×Addr×pz),
  Paired (fun(p:List Key×V)(q:List Key×Addr×pz)=>p.1=q.1/\H q.2.1=some (.tup (p.1.map kV))/\aL p.2 q.2.2) kvs xs/\
  ∃o es ep,h.get? a=some o/\o.ExactDict/\o.data=.dict es ep/\es.toList=xs.map (entryOfKey (tupleKind (bG P w)))/\(xs.map (·.1)).Nodup
 |.set S n=>h.SetOf (intKind P w) a S n
 |.ins C dx fs=>H dx=some (.own a)/\fs.length<=1000/\dx≠a/\h.get? a=some (W.instObj C dx)/\
  ∃mA,h.Ns1 dx mA/\(∀f,bE (fs.lookup f) (mA f))/\aaX mA (fs.map (·.1))
 |.own _=>∃o,h.get? a=some o
 |.xd fs=>∃mA,h.Ns1 a mA/\∀f,bE (fs.lookup f) (mA f)
 |.rng lo hi=>∃t u v,h.get? a=some {cls:=.type "range",data:=.fields #[.int lo t,.int hi u,.int 1 v]}
 |.frz o u=>h.get? a=some o/\ba H h a u
 |.tbl ps=>h.get? a=some {cls:=.none,data:=.fields ps}
 |.met f x=>h.get? a=some (W.methodObj (.ref f) (.ref x))
 |.ext φ=>φ h/\(∃o,h.get? a=some o)/\∀h1 h2:Heap,φ h1->(∀o,h1.get? a=some o->h2.get? a=some o)->φ h2
def HOk (H:Hp)(h:Heap):Prop:=∀a o,H a=some o->ba P w H h a o
end
section
variable {P:VM}{w:Wm}{H H':Hp}{h h':Heap}{a:Addr}{o:HO}
def ba.lt (x:ba P w H h a o):a<h.objs.size:=by
 cases o with
 |lst xs=>obtain⟨b,b,b,b,e⟩:=x;exact Vq e
 |tup xs=>obtain⟨b,b,b,p⟩:=x;exact p.lt
 |dK kvs=>obtain⟨b,b,b,b,o,b,b,e,b⟩:=x;exact Vq e
 |dT kvs=>obtain⟨b,b,b,b,o,b,b,e,b⟩:=x;exact Vq e
 |set S n=>obtain⟨o,b,b,b,e,b⟩:=x;exact Vq e
 |ins C dx fs=>obtain⟨b,b,b,e,b⟩:=x;exact Vq e
 |own y=>obtain⟨b,e⟩:=x;exact Vq e
 |xd fs=>obtain⟨b,⟨b,b,b,e,b⟩,b⟩:=x;exact Vq e
 |rng lo hi=>obtain⟨b,b,b,e⟩:=x;exact Vq e
 |frz ob u=>obtain⟨e,b⟩:=x;exact Vq e
 |tbl ps=>exact Vq (show h.get? a=some _ from x)
 |met f y=>exact Vq (show h.get? a=some _ from x)
 |ext φ=>obtain⟨b,⟨b,e⟩,b⟩:=x;exact Vq e
theorem Paired.mapP {α β:Type}{F G:α->β->Prop}:∀{l₁:List α}{l₂:List β},Paired F l₁ l₂->(∀a b,F a b->G a b)->Paired G l₁ l₂
 |_,_,.nil,_=>.nil
 |_,_,.cons r t,f=>.cons (f _ _ r) (Paired.mapP t f)
def Paired.imp' {α β:Type}{F G:α->β->Prop}(f:∀a b,F a b->G a b){l₁:List α}{l₂:List β}(r:Paired F l₁ l₂):Paired G l₁ l₂:=Paired.mapP r f
def ba.stay (x:ba P w H h a o)(k:∀b u,(b=a\/H b=some (.own a))->h.get? b=some u->h'.get? b=some u)
  (ho:∀b,H b=some (.own a)->H' b=some (.own a))(ht:∀b xs,H b=some (.tup xs)->H' b=some (.tup xs)):ba P w H' h' a o:=by
 induction o with
 |lst xs=>obtain⟨z,its,n,r,e⟩:=x;exact⟨z,its,n,r,k _ _ (.inl rfl) e⟩
 |tup xs=>obtain⟨z,its,r,ob,e,c⟩:=x;exact⟨z,its,r,ob,k _ _ (.inl rfl) e,c⟩
 |dK kvs=>obtain⟨z,y,vs,r,ob,es,ep,e,c⟩:=x;exact⟨z,y,vs,r,ob,es,ep,k _ _ (.inl rfl) e,c⟩
 |dT kvs=>
  obtain⟨z,y,xs,r,ob,es,ep,e,c⟩:=x
  exact⟨z,y,xs,Paired.mapP r fun p q z=>⟨z.1,ht _ _ z.2.1,z.2.2⟩,ob,es,ep,k _ _ (.inl rfl) e,c⟩
 |set S n=>obtain⟨ob,es,ep,t,e,c⟩:=x;exact⟨ob,es,ep,t,k _ _ (.inl rfl) e,c⟩
 |ins C dx fs=>
  obtain⟨d,z,ne,e,mA,⟨od,es,ep,e2,c⟩,r⟩:=x
  exact⟨ho _ d,z,ne,k _ _ (.inl rfl) e,mA,⟨od,es,ep,k _ _ (.inr d) e2,c⟩,r⟩
 |own y=>obtain⟨ob,e⟩:=x;exact⟨ob,k _ _ (.inl rfl) e⟩
 |xd fs=>obtain⟨mA,⟨od,es,ep,e,c⟩,r⟩:=x;exact⟨mA,⟨od,es,ep,k _ _ (.inl rfl) e,c⟩,r⟩
 |rng lo hi=>obtain⟨t,u,v,e⟩:=x;exact⟨t,u,v,k _ _ (.inl rfl) e⟩
 |frz ob u ih=>obtain⟨e,q⟩:=x;exact⟨k _ _ (.inl rfl) e,ih q⟩
 |tbl ps=>
  have e:h.get? a=some {cls:=.none,data:=.fields ps}:=x
  show h'.get? a=some {cls:=.none,data:=.fields ps}
  exact k a _ (.inl rfl) e
 |met f y=>
  have e:h.get? a=some (W.methodObj (.ref f) (.ref y)):=x
  show h'.get? a=some (W.methodObj (.ref f) (.ref y))
  exact k a _ (.inl rfl) e
 |ext φ=>obtain⟨p,⟨o,e⟩,st⟩:=x;exact⟨st _ _ p fun o q=>k _ _ (.inl rfl) q,⟨o,k _ _ (.inl rfl) e⟩,st⟩
def HOk.lt (x:HOk P w H h)(e:H a=some o):a<h.objs.size:=(x a o e).lt
def HOk.fresh (x:HOk P w H h)(e:h.objs.size<=a):H a=none:=by
 cases q:H a with
 |none=>rfl
 |some u=>exact absurd (VB (x.lt q) e) (Wz _)
def HOk.kept (x:HOk P w H h)(k:∀b u,h.get? b=some u->h'.get? b=some u):HOk P w H h':=fun a o e=>
 (x a o e).stay (fun b u c q=>k b u q) (fun c q=>q) fun c c q=>q
def HOk.laid (x:HOk P w H h)(k:∀b u,h.get? b=some u->h'.get? b=some u)(hp:h.objs.size<=a)(new:ba P w (upd H a o) h' a o):HOk P w (upd H a o) h':=fun b u e=>by
 have hn:=x.fresh hp
 by_cases hb:b=a
 ·subst hb;rw[aT]at e;obtain rfl:=VR e;exact new
 ·rw[ay hb]at e
  exact(x b u e).stay (fun c v d q=>k c v q) (fun c q=>by rw[ay (aO q hn)];exact q) fun c xs q=>by rw[ay (aO q hn)];exact q
end
def Rd (H:Hp)(a:Addr)(u:HO):Prop:=H a=some u\/∃o,H a=some (.frz o u)
def Rd.ok {P:VM}{w:Wm}{H:Hp}{h:Heap}{a:Addr}{u:HO}(r:Rd H a u)(x:HOk P w H h):ba P w H h a u:=by
 rcases r with r|⟨o,r⟩
 ·exact x a u r
 ·obtain⟨b,q⟩:=x a _ r
  exact q
def Mut:Option HO->Prop
 |some (.lst _)=>True
 |some (.dK _)=>True
 |some (.dT _)=>True
 |some (.set _ _)=>True
 |some (.ins _ _ _)=>True
 |some (.ext _)=>True
 |_=>False
section
variable {P:VM}{w:Wm}{H:Hp}{h h':Heap}{x e:Addr}{o':HO}
def HOk.write (ok:HOk P w H h)(mu:Mut (H x))(he:e=x\/H e=some (.own x))(k:∀b u,b≠e->h.get? b=some u->h'.get? b=some u)(heo:∃u,h'.get? e=some u)
  (new:ba P w (upd H x o') h' x o'):HOk P w (upd H x o') h':=fun b u q=>by
 have nown:∀c y,H c=some (.own y)->c≠x:=fun c y r z=>by subst z;rw[r]at mu;exact mu
 have ntup:∀c xs,H c=some (.tup xs)->c≠x:=fun c xs r z=>by subst z;rw[r]at mu;exact mu
 by_cases hb:b=x
 ·subst hb;rw[aT]at q;obtain rfl:=VR q;exact new
 ·rw[ay hb]at q
  by_cases hbe:b=e
  ·have q':H b=some (.own x):=by
    rcases he with z|z
    ·exact absurd (hbe.trans z) hb
    ·rw[hbe];exact z
   rw[q]at q';obtain rfl:=VR q'
   obtain⟨v,hv⟩:=heo
   exact⟨v,by rw[hbe];exact hv⟩
  ·refine(ok b u q).stay (fun c v hc r=>k c v ?_ r) (fun c r=>by rw[ay (nown c b r)];exact r) fun c xs r=>by rw[ay (ntup c xs r)];exact r
   rcases hc with rfl|hc
   ·exact hbe
   ·rintro rfl
    rcases he with z|z
    ·exact nown c b hc z
    ·rw[hc]at z;cases z;exact hb rfl
end
structure Un (fs ex:List Addr)(H H':Hp)(h h':Heap):Prop where
 keep:∀b o,h.get? b=some o->H b=none->b∉fs->b∉ex->h'.get? b=some o
 slot:∀b o,h.get? b=some o->H b=none->b∈fs->b∉ex->∃sl,h'.get? b=some {o with slots:=sl}
 free:∀b o,h.get? b=some o->H b=none->b∉ex->H' b=none
 there:∀b o,h.get? b=some o->b∉ex->∃o',h'.get? b=some o'
 tups:∀b xs,H b=some (.tup xs)->H' b=some (.tup xs)
 frzs:∀b o u,H b=some (.frz o u)->H' b=some (.frz o u)
 tbls:∀b ps,H b=some (.tbl ps)->∃more,H' b=some (.tbl (ps++more))
section
variable {fs fs' ex ex':List Addr}{H H1 H2:Hp}{h h1 h2 h':Heap}{a x e:Addr}{o:HO}
def Un.any (u:Un fs ex H H1 h h1){b:Addr}{ob:Obj}(q:h.get? b=some ob)(n:H b=none)(hx:b∉ex):∃sl,h1.get? b=some {ob with slots:=sl}:=by
 by_cases hb:b∈fs
 ·exact u.slot b ob q n hb hx
 ·exact⟨ob.slots,u.keep b ob q n hb hx⟩
def Un.kept (k:∀b u,h.get? b=some u->h'.get? b=some u):Un fs ex H H h h':=
 ⟨fun b ob q a a a=>k b ob q,fun b ob q a a a=>⟨ob.slots,k b ob q⟩,fun a a a n a=>n,fun b ob q a=>⟨ob,k b ob q⟩,fun a a q=>q,fun a a a q=>q,fun a ps q=>⟨#[],by rw[q];simp⟩⟩
def Un.refl:Un fs ex H H h h:=Un.kept fun a a q=>q
def Un.laid (k:∀b u,h.get? b=some u->h'.get? b=some u)(hp:h.objs.size<=a)(hn:H a=none):Un fs ex H (upd H a o) h h' where
 keep:=fun b u q c c c=>k b u q
 slot:=fun b u q c c c=>⟨u.slots,k b u q⟩
 free:=fun b u q n c=>by rw[ay (VD (VB (Vq q) hp))];exact n
 there:=fun b u q c=>⟨u,k b u q⟩
 tups:=fun b xs q=>by rw[ay (aO q hn)];exact q
 frzs:=fun b u xs q=>by rw[ay (aO q hn)];exact q
 tbls:=fun b ps q=>⟨#[],by rw[ay (aO q hn),q];simp⟩
def Un.write (mu:Mut (H x))(he:e=x\/H e=some (.own x))(k:∀b u,b≠e->h.get? b=some u->h'.get? b=some u)(heo:∃u,h'.get? e=some u):Un fs ex H (upd H x o) h h':=by
 have hx:∀b,H b=none->b≠x:=fun b n z=>by subst z;rw[n]at mu;exact mu
 have hb:∀b,H b=none->b≠e:=fun b n z=>by
  subst z
  rcases he with r|r
  ·exact hx b n r
  ·rw[n]at r;injection r
 have hm:∀b u,H b=some u->¬Mut (some u)->b≠x:=fun b u q nm z=>by subst z;rw[q]at mu;exact nm mu
 refine⟨fun b u q n a a=>k b u (hb b n) q,fun b u q n a a=>⟨u.slots,k b u (hb b n) q⟩,fun b u q n a=>by rw[ay (hx b n)];exact n,fun b u q a=>?_,
  fun b xs q=>by rw[ay (hm b _ q fun z=>z)];exact q,fun b u xs q=>by rw[ay (hm b _ q fun z=>z)];exact q,fun b ps q=>⟨#[],by rw[ay (hm b _ q fun z=>z),q];simp⟩⟩
 by_cases hbe:b=e
 ·subst hbe;exact heo
 ·exact⟨u,k b u hbe q⟩
end
noncomputable def trk (h:Heap)(H:Hp):List Addr:=(WJ h.objs.size).filter fun a=>(H a).isSome
def ky (h:Heap)(H:Hp):Heap:=W.hideAll h (trk h H)
def Hu (h:Heap)(H:Hp):(ky h H).objs.size=h.objs.size:=W.hideAll_size _ _
def JG {h:Heap}{H:Hp}{b:Addr}{o:Obj}(e:h.get? b=some o)(n:H b=none):(ky h H).get? b=some o:=
 W.hideAll_get _ e fun hm=>by
  have q:(H b).isSome=true:=(aas.mp hm).2
  rw[n]at q;simp at q
def LB {h:Heap}{H:Hp}{b:Addr}{o:Obj}(e:(ky h H).get? b=some o):h.get? b=some o/\H b=none:=by
 have e':h.get? b=some o:=W.of_hideAll (trk h H) e
 refine⟨e',?_⟩
 cases q:H b with
 |none=>rfl
 |some x=>
  have hm:b∈trk h H:=aas.mpr ⟨Yp.mpr (Vq e'),by simp[q]⟩
  have z:(ky h H).get? b=none:=W.hideAll_none (trk h H) hm
  rw[z]at e;injection e
noncomputable def LO (g h:Heap)(L:Addr):List (Addr×Obj):=(WJ h.objs.size).filterMap fun a=>if a=L\/(g.get? a).isSome=true then none else(h.get? a).map fun o=>(a,o)
def bQ (g h:Heap)(L d:Addr):List (Addr×Obj):=(LO g h L).filter fun p=>decide (p.1≠d)
structure Mod (K:W.Frag)(mg:Str->Option pz)(base:Heap):Prop where
 kin:K.In base
 glob:base.Ns mainGlobals mg
 blt:∃mb,base.Ns builtinsNs mb/\∀x:Str,x≠"__name__"->mb x=bootBuiltins x
 nolimit:base.NoLimit
set_option genInjectivity false in
structure Cx where
 prog:VM
 w:Wm
 K:W.Frag
 mg:Str->Option pz
 base:Heap
 A:Wj
 N:List Str
 s₀:Bn
 H₀:Hp
 env:Env
 outer:List Env
 stack:List Env
 ex:List Addr
 fn:Str->Bool
 calm:Bool
 pn:List (Addr×Obj)
 xe:pz->Bn->Prop
noncomputable def frs (l:List Env):List Addr:=l.filterMap (·.frame)
abbrev Cx.fs (X:Cx):List Addr:=frs X.outer
def Vis (sc:Scope)(x:Str):Prop:=sc.names.lookup x=some .local\/sc.names.lookup x=some .cell\/sc.names.lookup x=some .free
def Loc (sc:Scope)(x:Str):Prop:=sc.names.lookup x=some .local\/sc.names.lookup x=some .cell
def NQ (env:Env)(h:Heap)(m:Str->Option pz)(x:Str)(u:pz):Prop:=
 (env.kindOf x=some .local/\m x=some u)\/((env.kindOf x=some .cell\/env.kindOf x=some .free)/\∃c,env.cells.lookup x=some c/\h.IsCell c (some u))
set_option genInjectivity false in
structure Cx.Ok (X:Cx):Prop where
 mod:Mod X.K X.mg X.base
 kind:X.env.scope.kind=.function
 glob:X.env.globals=mainGlobals
 blt:X.env.builtins=builtinsNs
 above:X.s₀.heap.objs.size<=X.env.locals
 inj:∀x y c,X.env.cells.lookup x=some c->X.env.cells.lookup y=some c->x=y
 has:∀x,(X.env.kindOf x=some .cell\/X.env.kindOf x=some .free)->∃c,X.env.cells.lookup x=some c
 cab:∀x c,X.fn x=true->X.env.cells.lookup x=some c->X.s₀.heap.objs.size<=c
 hd:X.calm=true->X.A.handled=none
 frames:X.A.frames=some X.stack
 stk:X.stack=X.outer\/(X.stack=X.env::X.outer/\X.env.frame=some X.env.locals)
 exf:∀b∈X.ex,b≠X.env.locals/\∀x c,X.env.cells.lookup x=some c->c≠b
 bs:∀b o,X.base.get? b=some o->X.s₀.heap.get? b=some o/\X.H₀ b=none
 bsz:X.base.objs.size<=X.s₀.heap.objs.size
 noex:∀b o,X.base.get? b=some o->b∉X.ex
 exfs:∀b∈X.ex,b∉X.fs
 funs:X.s₀.heap.FunFrames X.base X.outer
 frf:∀b∈X.fs,X.H₀ b=none
structure Inv (X:Cx)(pins:List (Addr×Obj))(σ:List (Option V))(H:Hp)(s:Bn):Prop where
 ok:X.Ok
 os:s.os=X.s₀.os
 bare:Zn s.gens
 base:Un X.fs X.ex X.H₀ H X.s₀.heap s.heap
 loc:∃m,s.heap.Ns X.env.locals m/\∀(i:Nat)(x:Str)(v:V),X.N[i]?=some x->σ[i]?=some (some v)->Vis X.env.scope x->∃u,aL v u/\NQ X.env s.heap m x u
 cell:∀x c,X.env.cells.lookup x=some c->∃v,s.heap.IsCell c v
 free:H X.env.locals=none
 freeC:∀x c,X.env.cells.lookup x=some c->H c=none
 pin:∀p∈X.pn++pins,s.heap.get? p.1=some p.2/\H p.1=none/\p.1≠X.env.locals/\p.1∉X.fs/\∀v,p.2.data≠.cell v
 hok:HOk X.prog X.w H s.heap
 len:σ.length=X.N.length
section
variable {X:Cx}{pins:List (Addr×Obj)}{σ:List (Option V)}{H H':Hp}{s:Bn}{h':Heap}
def Cx.Ok.nofr (ok:X.Ok){b:Addr}{o:Obj}(e:X.base.get? b=some o):b∉X.fs:=fun hb=>by
 have:=(ok.funs.mem hb).1
 rw[e]at this;injection this
def Inv.bs (I:Inv X pins σ H s):∀b o,X.base.get? b=some o->s.heap.get? b=some o/\H b=none:=fun b o e=>
 ⟨I.base.keep b o (I.ok.bs b o e).1 (I.ok.bs b o e).2 (I.ok.nofr e) (I.ok.noex b o e),I.base.free b o (I.ok.bs b o e).1 (I.ok.bs b o e).2 (I.ok.noex b o e)⟩
def Inv.bk (I:Inv X pins σ H s):∀b o,X.base.get? b=some o->s.heap.get? b=some o:=fun b o e=>(I.bs b o e).1
def Inv.mod (I:Inv X pins σ H s):Mod X.K X.mg X.base:=I.ok.mod
def Inv.kIn (I:Inv X pins σ H s):X.K.In s.heap:=I.ok.mod.kin.keeps I.bk
def Inv.lt (I:Inv X pins σ H s):X.env.locals<s.heap.objs.size:=let ⟨_,hn,_⟩:=I.loc;hn.lt
def Inv.sz (I:Inv X pins σ H s):X.s₀.heap.objs.size<=s.heap.objs.size:=VO I.ok.above (XX I.lt)
def Inv.nofs (I:Inv X pins σ H s){a:Addr}(h:s.heap.objs.size<=a):a∉X.fs:=fun hb=>by
 obtain⟨b,o,ho,b⟩:=I.ok.funs.mem hb
 exact absurd (VB (Vq ho) (VO I.sz h)) (Wz _)
def Inv.cne (I:Inv X pins σ H s):∀x c,X.env.cells.lookup x=some c->c≠X.env.locals:=fun x c e z=>by
 obtain⟨v,o,ho,hd⟩:=I.cell x c e
 obtain⟨m,⟨o',es,ep,ho',hd',a⟩,a⟩:=I.loc
 rw[z,ho']at ho;obtain rfl:=VR ho;rw[hd']at hd;injection hd
def Inv.funs (I:Inv X pins σ H s):s.heap.FunFrames X.base X.outer:=by
 have all:∀(l:List Env),(∀b∈frs l,b∈X.fs)->X.s₀.heap.FunFrames X.base l->s.heap.FunFrames X.base l:=by
  intro l
  induction l with
  |nil=>intro a a;trivial
  |cons env r ih=>
   intro hs hl
   obtain⟨hk,⟨L,o,hf,hn,ho,hd⟩,hr⟩:=hl
   have hL:L∈X.fs:=hs L (by unfold frs;rw[Zx,hf];exact cW)
   obtain⟨sl,e⟩:=I.base.slot L o ho (I.ok.frf L hL) hL fun z=>I.ok.exfs L z hL
   exact⟨hk,⟨L,_,hf,hn,e,hd⟩,ih (fun b hb=>hs b (by unfold frs;rw[Zx,hf];exact Vu _ hb)) hr⟩
 exact all X.outer (fun a hb=>hb) I.ok.funs
def Inv.stack (I:Inv X pins σ H s):s.heap.FunFrames X.base X.stack:=by
 rcases I.ok.stk with e|⟨e,hf⟩
 ·rw[e];exact I.funs
 ·rw[e]
  obtain⟨m,hn,a⟩:=I.loc
  refine .cons (by rw[I.ok.kind];decide) hf hn ?_ I.funs
  exact Heap.get?_none_of_le (VO I.ok.bsz I.ok.above)
def Inv.stkSub (I:Inv X pins σ H s):∀b∈frs X.stack,b∈X.env.locals::X.fs:=fun b hb=>by
 rcases I.ok.stk with e|⟨e,hf⟩
 ·rw[e]at hb;exact Vu _ hb
 ·rw[e]at hb
  unfold frs at hb
  rw[Zx,hf]at hb
  exact hb
def Inv.stkFree (I:Inv X pins σ H s):∀b∈frs X.stack,H b=none:=fun b hb=>by
 rcases tx.mp (I.stkSub b hb)with e|hb
 ·rw[e];exact I.free
 ·obtain⟨a,o,ho,a⟩:=I.ok.funs.mem hb
  exact I.base.free b o ho (I.ok.frf b hb) fun z=>I.ok.exfs b z hb
def Inv.step {g':Array aaO}{t':Nat}{d':Drawn}{ch:List Addr}(I:Inv X pins σ H s)
  (hch:∀b∈ch,(b∈X.ex\/X.s₀.heap.objs.size<=b)/\b≠X.env.locals/\(∀x c,X.env.cells.lookup x=some c->c≠b)/\∀p∈X.pn++pins,p.1≠b)
  (keep:∀b o,b≠X.env.locals->b∉X.fs->b∉ch->s.heap.get? b=some o->H b=none->h'.get? b=some o)
  (slot:∀b o,b≠X.env.locals->b∈X.fs->b∉ch->s.heap.get? b=some o->H b=none->∃sl,h'.get? b=some {o with slots:=sl})(free:∀b o,b∉ch->s.heap.get? b=some o->H b=none->H' b=none)
  (there:∀b o,b∉ch->s.heap.get? b=some o->∃o',h'.get? b=some o')
  (tups:∀b xs,H b=some (.tup xs)->H' b=some (.tup xs))(frzs:∀b o u,H b=some (.frz o u)->H' b=some (.frz o u))(tbls:∀b ps,H b=some (.tbl ps)->∃more,H' b=some (.tbl (ps++more)))
  (ns:∀m,s.heap.Ns X.env.locals m->h'.Ns X.env.locals m)(hok:HOk X.prog X.w H' h')(hg:Zn g'):
  Inv X pins σ H' {s with heap:=h',gens:=g',drawn:=d',toks:=t'}:=by
 have neL:∀b o,X.s₀.heap.get? b=some o->b≠X.env.locals:=fun b o e=>VD (VB (Vq e) I.ok.above)
 have neC:∀b o,X.s₀.heap.get? b=some o->b∉X.ex->b∉ch:=fun b o e hx hb=>by
  rcases(hch b hb).1 with z|z
  ·exact hx z
  ·exact absurd (VB (Vq e) z) (Wz _)
 have cellK:∀x c,X.env.cells.lookup x=some c->∀v,s.heap.IsCell c v->h'.IsCell c v:=fun x c e v ⟨o,ho,hd⟩=>by
  have nch:c∉ch:=fun z=>(hch c z).2.2.1 x c e rfl
  by_cases hc:c∈X.fs
  ·obtain⟨sl,q⟩:=slot c o (I.cne x c e) hc nch ho (I.freeC x c e)
   exact⟨_,q,hd⟩
  ·exact⟨o,keep c o (I.cne x c e) hc nch ho (I.freeC x c e),hd⟩
 refine⟨I.ok,I.os,hg,⟨fun b o e n hb hx=>?_,fun b o e n hb hx=>?_,fun b o e n hx=>?_,fun b o e hx=>?_,fun b xs e=>tups b xs (I.base.tups b xs e),fun b o xs e=>frzs b o xs (I.base.frzs b o xs e),fun b ps e=>?_⟩,?_,fun x c e=>?_,?_,fun x c e=>?_,fun p hp=>?_,hok,I.len⟩
 ·exact keep b o (neL b o e) hb (neC b o e hx) (I.base.keep b o e n hb hx) (I.base.free b o e n hx)
 ·obtain⟨sl,e1⟩:=I.base.slot b o e n hb hx
  obtain⟨sl',e2⟩:=slot b _ (neL b o e) hb (neC b o e hx) e1 (I.base.free b o e n hx)
  exact⟨sl',e2⟩
 ·obtain⟨o',e1⟩:=I.base.there b o e hx
  exact free b o' (neC b o e hx) e1 (I.base.free b o e n hx)
 ·obtain⟨o',e1⟩:=I.base.there b o e hx
  exact there b o' (neC b o e hx) e1
 ·obtain⟨m1,e1⟩:=I.base.tbls b ps e
  obtain⟨m2,e2⟩:=tbls b _ e1
  exact⟨m1++m2,by rw[e2,Array.append_assoc]⟩
 ·obtain⟨m,hn,hl⟩:=I.loc
  refine⟨m,ns m hn,fun i x v e1 e2 e3=>?_⟩
  obtain⟨u,r,l⟩:=hl i x v e1 e2 e3
  refine⟨u,r,?_⟩
  rcases l with l|⟨k,c,e,z⟩
  ·exact .inl l
  ·exact .inr ⟨k,c,e,cellK x c e _ z⟩
 ·obtain⟨v,z⟩:=I.cell x c e
  exact⟨v,cellK x c e v z⟩
 ·obtain⟨m,⟨o,a,a,ho,a⟩,a⟩:=I.loc
  exact free _ o (fun z=>(hch _ z).2.1 rfl) ho I.free
 ·obtain⟨v,o,ho,hd⟩:=I.cell x c e
  exact free c o (fun z=>(hch c z).2.2.1 x c e rfl) ho (I.freeC x c e)
 ·obtain⟨e,n,ne,nf,d⟩:=I.pin p hp
  have nch:p.1∉ch:=fun z=>(hch p.1 z).2.2.2 p hp rfl
  exact⟨keep p.1 p.2 ne nf nch e n,free p.1 p.2 nch e n,ne,nf,d⟩
def Inv.un {t':Nat}(I:Inv X pins σ H s)(u:Un X.fs [] H H' s.heap h')(hok:HOk X.prog X.w H' h'):Inv X pins σ H' {s with heap:=h',toks:=t'}:=by
 obtain⟨m,⟨o,es,ep,ho,r⟩,a⟩:=id I.loc
 obtain⟨sl,hL⟩:=u.any ho I.free (by simp)
 exact I.step (g':=s.gens) (d':=s.drawn) (ch:=[]) (fun a z=>nomatch z) (fun b o a hb a e n=>u.keep b o e n hb (by simp)) (fun b o a hb a e n=>u.slot b o e n hb (by simp)) (fun b o a e n=>u.free b o e n (by simp)) (fun b o a e=>u.there b o e (by simp)) u.tups u.frzs u.tbls (fun m' hm=>by
  obtain⟨o',es',ep',ho',r'⟩:=hm
  rw[ho]at ho';obtain rfl:=VR ho'
  exact⟨_,es',ep',hL,r'⟩) hok I.bare
def Inv.call {g':Array aaO}{t':Nat}{d':Drawn}{ch:List Addr}(I:Inv X pins σ H s)(u:Un (frs X.stack) ch H H' s.heap h')(hok:HOk X.prog X.w H' h')(hg:Zn g')
  (hch:∀b∈ch,(b∈X.ex\/X.s₀.heap.objs.size<=b)/\b≠X.env.locals/\(∀x c,X.env.cells.lookup x=some c->c≠b)/\∀p∈X.pn++pins,p.1≠b):
  Inv X pins σ H' {s with heap:=h',gens:=g',drawn:=d',toks:=t'}:=by
 obtain⟨m,⟨o,es,ep,ho,r⟩,a⟩:=id I.loc
 obtain⟨sl,hL⟩:=u.any ho I.free fun z=>(hch _ z).2.1 rfl
 exact I.step (ch:=ch) hch (fun b o hL hb hc e n=>u.keep b o e n (fun z=>(tx.mp (I.stkSub b z)).elim hL hb) hc) (fun b o a a hc e n=>u.any e n hc) (fun b o hc e n=>u.free b o e n hc) (fun b o hc e=>u.there b o e hc) u.tups u.frzs u.tbls (fun m' hm=>by
  obtain⟨o',es',ep',ho',r'⟩:=hm
  rw[ho]at ho';obtain rfl:=VR ho'
  exact⟨_,es',ep',hL,r'⟩) hok hg
def Inv.turned {t':Nat}{it:Addr}(I:Inv X pins σ H s)(k:∀b o,b≠it->s.heap.get? b=some o->h'.get? b=some o)(hn:H it=none)(hL:it≠X.env.locals)
  (h1:it∈X.ex\/X.s₀.heap.objs.size<=it)(h2:∀x c,X.env.cells.lookup x=some c->c≠it)(h3:∀p∈X.pn++pins,p.1≠it):Inv X pins σ H {s with heap:=h',toks:=t'}:=by
 have nit:∀b u,H b=some u->b≠it:=fun b u e z=>by rw[z,hn]at e;injection e
 refine I.step (g':=s.gens) (d':=s.drawn) (ch:=[it]) (fun b hb=>?_) (fun b o a a hc e a=>k b o (fun z=>hc (by simp[z])) e) (fun b o a a hc e a=>⟨o.slots,k b o (fun z=>hc (by simp[z])) e⟩) (fun a a a a n=>n)
  (fun b o hc e=>⟨o,k b o (fun z=>hc (by simp[z])) e⟩) (fun a a e=>e) (fun a a a e=>e) (fun b ps e=>⟨#[],by rw[e];simp⟩) (fun m hm=>?_) (fun b u e=>?_) I.bare
 ·have e:b=it:=by simpa using hb
  subst e
  exact⟨h1,hL,h2,h3⟩
 ·obtain⟨o,es,ep,ho,r⟩:=hm
  exact⟨o,es,ep,k _ o (ab hL) ho,r⟩
 ·refine(I.hok b u e).stay (fun c v hc q=>k c v ?_ q) (fun a q=>q) fun a a q=>q
  rcases hc with z|z
  ·rw[z];exact nit b u e
  ·exact nit c _ z
def Inv.tok (I:Inv X pins σ H s)(t:Nat):Inv X pins σ H {s with toks:=t}:=I.un (h':=s.heap) (t':=t) Un.refl I.hok
def Inv.kept {t':Nat}(I:Inv X pins σ H s)(k:∀b u,s.heap.get? b=some u->h'.get? b=some u):Inv X pins σ H {s with heap:=h',toks:=t'}:=I.un (Un.kept k) (I.hok.kept k)
def Inv.laid {a:Addr}{o:HO}{t':Nat}(I:Inv X pins σ H s)(k:∀b u,s.heap.get? b=some u->h'.get? b=some u)(hp:s.heap.objs.size<=a)(new:ba X.prog X.w (upd H a o) h' a o):
 Inv X pins σ (upd H a o) {s with heap:=h',toks:=t'}:=I.un (Un.laid k hp (I.hok.fresh hp)) (I.hok.laid k hp new)
def Inv.write {x e:Addr}{o:HO}{t':Nat}(I:Inv X pins σ H s)(mu:Mut (H x))(he:e=x\/H e=some (.own x))(k:∀b u,b≠e->s.heap.get? b=some u->h'.get? b=some u)(heo:∃u,h'.get? e=some u)
 (new:ba X.prog X.w (upd H x o) h' x o):Inv X pins σ (upd H x o) {s with heap:=h',toks:=t'}:=I.un (Un.write mu he k heo) (I.hok.write mu he k heo new)
def Inv.pins_of {pins':List (Addr×Obj)}(I:Inv X pins σ H s)(h:∀p∈pins',s.heap.get? p.1=some p.2/\H p.1=none/\p.1≠X.env.locals/\p.1∉X.fs/\∀v,p.2.data≠.cell v):Inv X pins' σ H s:=
 ⟨I.ok,I.os,I.bare,I.base,I.loc,I.cell,I.free,I.freeC,fun p hp=>(WE.mp hp).elim (fun z=>I.pin p (Xp _ z)) (h p),I.hok,I.len⟩
def BK {N:List Str}(hN:N.Nodup){i j:Nat}{x:Str}(a:N[i]?=some x)(b:N[j]?=some x):i=j:=by
 obtain⟨h1,e1⟩:=Vz.mp a
 obtain⟨h2,e2⟩:=Vz.mp b
 exact(aai hN).mp (e1.trans e2.symm)
def GL {M:Model}{A:Wj}{E:pz->Bn->Prop}{i:Nat}{x:Str}{v:V}{u:pz}{Q:Unit->Bn->Prop}(I:Inv X pins σ H s)(hN:X.N.Nodup)(hi:X.N[i]?=some x)(hx:Loc X.env.scope x)(r:aL v u)
  (h:∀s',Inv X pins (σ.set i (some v)) H s'->(∃a,XF a s.heap s'.heap/\(a=X.env.locals\/X.env.cells.lookup x=some a))->Q () s')(hf:X.fn x=true\/X.env.scope.names.lookup x=some .local:=by first|exact .inl rfl|exact .inr rfl|assumption):wpAny M A (storeName X.env x u) Q E s:=by
 obtain⟨m,hn,hl⟩:=id I.loc
 have hcls:(X.env.scope.kind==.class||(X.env.scope.kind==.module&&X.env.locals !=X.env.globals))=false:=by rw[I.ok.kind];rfl
 have hiσ:i<σ.length:=by rw[I.len];exact(Vz.mp hi).1
 have cne:=I.cne
 have tracked:∀{a:Addr}{h':Heap},(∃o,s.heap.get? a=some o/\H a=none)->XF a s.heap h'->HOk X.prog X.w H h':=fun{a h'} ha hs b ob e=>by
  obtain⟨f,f,hfree⟩:=ha
  refine(I.hok b ob e).stay (fun c w' hc q=>(hs.2 c ?_).trans q) (fun f q=>q) fun f f q=>q
  rintro rfl
  rcases hc with rfl|hc
  ·rw[hfree]at e;injection e
  ·rw[hfree]at hc;injection hc
 rcases hx with hk|hk
 ·refine wpAny_storeName_local hk hn (fun h' hn' hs=>?_) hcls
  obtain⟨oL,f,f,hoL,f⟩:=id hn
  refine h _ ⟨I.ok,I.os,I.bare,⟨fun b o e n hb hx=>?_,fun b o e n hb hx=>?_,I.base.free,fun b o e hx=>?_,I.base.tups,I.base.frzs,I.base.tbls⟩,⟨_,hn',fun j y v' e1 e2 e3=>?_⟩,fun y c e=>?_,I.free,I.freeC,fun p hp=>?_,tracked ⟨oL,hoL,I.free⟩ hs,by simpa using I.len⟩ ⟨_,hs,.inl rfl⟩
  ·exact(hs.2 b (VD (VB (Vq e) I.ok.above))).trans (I.base.keep b o e n hb hx)
  ·obtain⟨sl,e1⟩:=I.base.slot b o e n hb hx
   exact⟨sl,(hs.2 b (VD (VB (Vq e) I.ok.above))).trans e1⟩
  ·obtain⟨o',e1⟩:=I.base.there b o e hx
   exact⟨o',(hs.2 b (VD (VB (Vq e) I.ok.above))).trans e1⟩
  ·by_cases hj:j=i
   ·subst hj
    rw[hi]at e1;obtain rfl:=VR e1
    rw[Yh hiσ]at e2
    cases e2
    exact⟨u,r,.inl ⟨hk,by simp⟩⟩
   ·rw[Yx (ab hj)]at e2
    obtain⟨u',r',q⟩:=hl j y v' e1 e2 e3
    refine⟨u',r',?_⟩
    rcases q with⟨k,e⟩|⟨k,c,e,z⟩
    ·refine .inl ⟨k,?_⟩
     have:y≠x:=fun e=>hj (BK hN e1 (e▸hi))
     simp[this,e]
    ·exact .inr ⟨k,c,e,z.sameBut hs (cne y c e)⟩
  ·obtain⟨w',z⟩:=I.cell y c e
   exact⟨w',z.sameBut hs (cne y c e)⟩
  ·obtain⟨e,n,ne,nf,d⟩:=I.pin p hp
   exact⟨(hs.2 p.1 ne).trans e,n,ne,nf,d⟩
 ·have hfn:X.fn x=true:=by
   rcases hf with z|z
   ·exact z
   ·rw[z]at hk;cases hk
  obtain⟨c,hc⟩:=I.ok.has x (.inl hk)
  obtain⟨w',z⟩:=I.cell x c hc
  refine wpAny_storeName_cell I.ok.kind hk hc z (fun h' hc' hs=>?_)
  obtain⟨oc,hoc,hocd⟩:=id z
  refine h {s with heap:=h'} ⟨I.ok,I.os,I.bare,⟨fun b o e n hb hx=>?_,fun b o e n hb hx=>?_,I.base.free,fun b o e hx=>?_,I.base.tups,I.base.frzs,I.base.tbls⟩,⟨m,hn.sameBut hs (ab (cne x c hc)),fun j y v' e1 e2 e3=>?_⟩,fun y c' e=>?_,I.free,I.freeC,fun p hp=>?_,tracked ⟨oc,hoc,I.freeC x c hc⟩ hs,by simpa using I.len⟩ ⟨c,hs,.inr hc⟩
  ·exact(hs.2 b (VD (VB (Vq e) (I.ok.cab x c hfn hc)))).trans (I.base.keep b o e n hb hx)
  ·obtain⟨sl,e1⟩:=I.base.slot b o e n hb hx
   exact⟨sl,(hs.2 b (VD (VB (Vq e) (I.ok.cab x c hfn hc)))).trans e1⟩
  ·obtain⟨o',e1⟩:=I.base.there b o e hx
   exact⟨o',(hs.2 b (VD (VB (Vq e) (I.ok.cab x c hfn hc)))).trans e1⟩
  ·by_cases hj:j=i
   ·subst hj
    rw[hi]at e1;obtain rfl:=VR e1
    rw[Yh hiσ]at e2
    cases e2
    exact⟨u,r,.inr ⟨.inl hk,c,hc,hc'⟩⟩
   ·rw[Yx (ab hj)]at e2
    obtain⟨u',r',q⟩:=hl j y v' e1 e2 e3
    refine⟨u',r',?_⟩
    rcases q with q|⟨k,c',e,z'⟩
    ·exact .inl q
    ·refine .inr ⟨k,c',e,z'.sameBut hs ?_⟩
     rintro rfl
     exact hj (BK hN e1 (I.ok.inj _ _ _ e hc▸hi))
  ·by_cases hcc:c'=c
   ·subst hcc;exact⟨_,hc'⟩
   ·obtain⟨w2,z2⟩:=I.cell y c' e
    exact⟨w2,z2.sameBut hs hcc⟩
  ·obtain⟨e,n,ne,nf,d⟩:=I.pin p hp
   refine⟨(hs.2 p.1 ?_).trans e,n,ne,nf,d⟩
   intro q
   rw[q,hoc]at e
   have q':oc=p.2:=VR e
   exact d w' (by rw[<-q'];exact hocd)
def vX {M:Model}{A:Wj}{E:pz->Bn->Prop}{i:Nat}{x:Str}{v:V}{u:pz}{Q:Unit->Bn->Prop}(I:Inv X pins σ H s)(hN:X.N.Nodup)(hi:X.N[i]?=some x)(hx:Loc X.env.scope x)(r:aL v u)
  (h:∀s',Inv X pins (σ.set i (some v)) H s'->Q () s')(hf:X.fn x=true\/X.env.scope.names.lookup x=some .local:=by first|exact .inl rfl|exact .inr rfl|assumption):wpAny M A (storeName X.env x u) Q E s:=
 GL I hN hi hx r (fun s' I' a=>h s' I') hf
def Inv.call' {s':Bn}{ch:List Addr}(I:Inv X pins σ H s)(ho:s'.os=s.os)(u:Un (frs X.stack) ch H H' s.heap s'.heap)(hok:HOk X.prog X.w H' s'.heap)(hg:Zn s'.gens)
  (hch:∀b∈ch,(b∈X.ex\/X.s₀.heap.objs.size<=b)/\b≠X.env.locals/\(∀x c,X.env.cells.lookup x=some c->c≠b)/\∀p∈X.pn++pins,p.1≠b):Inv X pins σ H' s':=by
 obtain⟨h',g',d',t',o'⟩:=s'
 have e:o'=s.os:=ho
 subst e
 exact I.call (g':=g') (t':=t') (d':=d') u hok hg hch
end
abbrev XK:=pz->Option Addr->Hp->Prop
abbrev St:=List (Option V)
abbrev VK:=V->Hp->Prop
abbrev TE:=St->Hp->VK->Prop
abbrev TT:=St->Hp->(Bool->Hp->Prop)->Prop
abbrev TA:=St->Hp->(List V->Hp->Prop)->Prop
structure pB where
 nx:St->Hp->Prop
 rt:VK
 bk:St->Hp->Prop:=fun _ _=>False
 ct:St->Hp->Prop:=fun _ _=>False
abbrev TS:=pB->St->Hp->Prop
def EP (X:Cx)(pins:List (Addr×Obj))(σ:St)(Q:VK)(u:pz)(s':Bn):Prop:=∃v H',Inv X pins σ H' s'/\aL v u/\Q v H'
def TP (X:Cx)(pins:List (Addr×Obj))(σ:St)(Q:Bool->Hp->Prop)(b:Bool)(s':Bn):Prop:=∃H',Inv X pins σ H' s'/\Q b H'
def AP (X:Cx)(pins:List (Addr×Obj))(σ:St)(Q:List V->Hp->Prop)(us:List pz)(s':Bn):Prop:=∃vs H',Inv X pins σ H' s'/\aU vs us/\Q vs H'
def SP (X:Cx)(pins:List (Addr×Obj))(D:pB)(f:Flow)(s':Bn):Prop:=
 match f with
 |.next=>∃σ' H',Inv X pins σ' H' s'/\D.nx σ' H'
 |.brk=>∃σ' H',Inv X pins σ' H' s'/\D.bk σ' H'
 |.cont=>∃σ' H',Inv X pins σ' H' s'/\D.ct σ' H'
 |.ret u=>∃v σ' H',Inv X pins σ' H' s'/\aL v u/\D.rt v H'
def PE (X:Cx)(e:Expr)(t:TE):Prop:=
 ∀(pins:List (Addr×Obj))(s:Bn)(σ:St)(H:Hp)(Q:VK),Inv X pins σ H s->t σ H Q->wpAny (model X.prog X.w) X.A (eval e X.env) (EP X pins σ Q) X.xe s
def PT (X:Cx)(e:Expr)(t:TT):Prop:=
 ∀(pins:List (Addr×Obj))(s:Bn)(σ:St)(H:Hp)(Q:Bool->Hp->Prop),Inv X pins σ H s->t σ H Q->wpAny (model X.prog X.w) X.A (isTrue e X.env (eval e X.env)) (TP X pins σ Q) X.xe s
def PW (X:Cx)(e:Expr)(t:TT):Prop:=
 ∀(whole:Sem pz)(pins:List (Addr×Obj))(s:Bn)(σ:St)(H:Hp)(Q:Bool->Hp->Prop),Inv X pins σ H s->t σ H Q->wpAny (model X.prog X.w) X.A (isTrue e X.env whole) (TP X pins σ Q) X.xe s
def PW.pt {X:Cx}{e:Expr}{t:TT}(h:PW X e t):PT X e t:=h _
def PA (X:Cx)(es:List Expr)(t:TA):Prop:=
 ∀(pos:Pos)(pins:List (Addr×Obj))(s:Bn)(σ:St)(H:Hp)(Q:List V->Hp->Prop),Inv X pins σ H s->t σ H Q->wpAny (model X.prog X.w) X.A (spliced (backTo pos (starEach es X.env))) (AP X pins σ Q) X.xe s
def PS (X:Cx)(st:Stmt)(t:TS):Prop:=
 ∀(pins:List (Addr×Obj))(s:Bn)(σ:St)(H:Hp)(D:pB),Inv X pins σ H s->t D σ H->wpAny (model X.prog X.w) X.A (exec st X.env) (SP X pins D) X.xe s
def PSs (X:Cx)(st:List Stmt)(t:TS):Prop:=
 ∀(pins:List (Addr×Obj))(s:Bn)(σ:St)(H:Hp)(D:pB),Inv X pins σ H s->t D σ H->wpAny (model X.prog X.w) X.A (execs st X.env) (SP X pins D) X.xe s
def thn {α:Type}{t:Sem α}{Q Q':α->Bn->Prop}{M:Model}{A:Wj}{E:pz->Bn->Prop}{s:Bn}(h:wpAny M A t Q E s)(hQ:∀a s,Q a s->Q' a s):wpAny M A t Q' E s:=VT h hQ fun b b x=>x
section
variable {X:Cx}
def TV (i:Nat):TE:=fun σ H Q=>∃v,σ[i]?=some (some v)/\Q v H
def tC (v:V):TE:=fun a H Q=>Q v H
def Ol {i:Nat}{x:Str}{pos:Pos}(hN:X.N[i]?=some x)(hv:Vis X.env.scope x)(hd:(x==("__debug__":Str))=false:=by decide)(hcd:(x==("__classdict__":Str))=false:=by decide):PE X (.Name x pos) (TV i):=by
 intro pins s σ H Q I h
 obtain⟨v,e,h⟩:=h
 obtain⟨m,hn,hl⟩:=I.loc
 obtain⟨u,r,l⟩:=hl i x v hN e hv
 have fin:EP X pins σ Q u s:=⟨v,H,I,r,h⟩
 rcases l with⟨hk,hm⟩|⟨hk,c,hc,hcell⟩
 ·exact acE (wpAny_loadName_local I.ok.kind hk hn hm fin) hd
 ·rcases hk with hk|hk
  ·exact acE (wpAny_loadName_cell I.ok.kind hk hc hcell fin) hd
  ·exact acE (wpAny_loadName_free I.ok.kind hk hc hcell fin hcd) hd
def Og {i j pos}:PE X (.Constant (.int i) j pos) (tC (.int i)):=fun a a a H a I h=>wpAny_Constant_int ⟨.int i,H,I.tok _,⟨_,rfl⟩,h⟩
def QZ {b j pos}:PE X (.Constant (.bool b) j pos) (tC (.bl b)):=fun a a a H a I h=>Constant_bool ⟨.bl b,H,I,rfl,h⟩
def Qc {j pos}:PE X (.Constant .none j pos) (tC .non):=fun a a a H a I h=>Constant_none ⟨.non,H,I,rfl,h⟩
def NC {x j pos}:PE X (.Constant (.str x) j pos) (tC (.str x)):=fun a a a H a I h=>Calls.Constant_str ⟨.str x,H,I.tok _,⟨_,rfl⟩,h⟩
def Gl (X:Cx)(x:Str):Prop:=X.env.kindOf x=some .globalImplicit
def oA {E:pz->Bn->Prop}{pins:List (Addr×Obj)}{s:Bn}{σ:St}{H:Hp}{x:Str}{u:pz}{pos:Pos}{Q:pz->Bn->Prop}(I:Inv X pins σ H s)(hg:Gl X x)(hm:X.mg x=some u)(h:Q u s)
  (hd:(x==("__debug__":Str))=false:=by decide):wpAny (model X.prog X.w) X.A (eval (.Name x pos) X.env) Q E s:=
 aaq I.ok.kind hg (Calls.loadGlobal_global (by rw[I.ok.glob];exact I.mod.glob.keeps I.bk) hm h) hd
def fF {E:pz->Bn->Prop}{pins:List (Addr×Obj)}{s:Bn}{σ:St}{H:Hp}{x:Str}{u:pz}{pos:Pos}{Q:pz->Bn->Prop}(I:Inv X pins σ H s)(hg:Gl X x)(hm:X.mg x=none)(hv:bootBuiltins x=some u)(h:Q u s)
  (hn:x≠"__name__":=by decide)(hd:(x==("__debug__":Str))=false:=by decide):wpAny (model X.prog X.w) X.A (eval (.Name x pos) X.env) Q E s:=by
 obtain⟨mb,h1,h2⟩:=I.mod.blt
 exact aaq I.ok.kind hg (Calls.loadGlobal_builtin (by rw[I.ok.glob];exact I.mod.glob.keeps I.bk) hm (by rw[I.ok.blt];exact h1.keeps I.bk) ((h2 x hn).trans hv) h) hd
def zk {x:Str}{v:V}{u:pz}{pos:Pos}(hg:Gl X x)(hm:X.mg x=some u)(r:aL v u)(hd:(x==("__debug__":Str))=false:=by decide):PE X (.Name x pos) (tC v):=
 fun a a a H a I h=>oA I hg hm ⟨v,H,I,r,h⟩ hd
def Mc {x:Str}{v:V}{u:pz}{pos:Pos}(hg:Gl X x)(hm:X.mg x=none)(hv:bootBuiltins x=some u)(r:aL v u)(hn:x≠"__name__":=by decide)(hd:(x==("__debug__":Str))=false:=by decide):PE X (.Name x pos) (tC v):=
 fun a a a H a I h=>fF I hg hm hv ⟨v,H,I,r,h⟩ hn hd
variable {a b:Expr}{ta tb:TE}{pos:Pos}
def tB (t:TE):TT:=fun σ H Q=>t σ H fun x H1=>∃c,x=.bl c/\Q c H1
variable {tA tB':TT}{bQ:List Expr}
def Pn (t:TT):TT:=fun σ H Q=>t σ H fun c H1=>Q (!c) H1
def Mu (ha:PT X a tA):PW X (.BoolOp .And [a] pos) tA:=by
 intro wh pins s σ H Q I h
 refine isTrue_and (thn (ha pins s σ H Q I h) fun c s1 e=>?_)
 cases c with
 |true=>exact isTrue_and_nil e
 |false=>exact e
def Qp (ha:PT X a tA):PW X (.BoolOp .Or [a] pos) tA:=by
 intro wh pins s σ H Q I h
 refine isTrue_or (thn (ha pins s σ H Q I h) fun c s1 e=>?_)
 cases c with
 |false=>exact isTrue_or_nil e
 |true=>exact e
def Qu (ha:PT X a tA):PT X (.UnaryOp .Not a pos) (Pn tA):=by
 intro pins s σ H Q I h
 exact isTrue_not (ha pins s σ H (fun c H1=>Q (!c) H1) I h)
def NN {op}{t:TE}(h:PE X a t):PE X (.BoolOp op [a] pos) t:=fun pins s σ H Q I hw=>BoolOp_one (h pins s σ H Q I hw)
end
def SqL (K:W.Frag)(H:Hp)(a:Addr)(xs:List V):Prop:=
 Rd H a (.lst xs)\/
  ∃(o:Obj)(its:Array pz)(n:Nat),K.lookup a=some o/\o.cls=.type "list"/\o.dict=none/\o.data=.seq its n/\its.size<=sizeLine/\aU xs its.toList
def SqT (K:W.Frag)(H:Hp)(a:Addr)(xs:List V):Prop:=
 Rd H a (.tup xs)\/
  ∃(o:Obj)(its:Array pz)(n:Nat),K.lookup a=some o/\o.cls=.type "tuple"/\o.data=.seq its n/\its.size<=sizeLine/\aU xs its.toList
noncomputable def TZ:pz->Option V
 |.none=>some .non
 |.bool b=>some (.bl b)
 |.int i _=>some (.int i)
 |.str x _=>some (.str x)
 |.bytes b _=>some (.byt b)
 |.float b _=>some (.flt b)
 |.ref a=>some (.ref a)
 |.type n=>some (.ty n)
 |_=>none
def aL.abs {x:V}{u:pz}(r:aL x u):TZ u=some x:=by
 cases x with
 |non=>subst r;rfl
 |bl _=>subst r;rfl
 |int _=>obtain⟨t,rfl⟩:=r;rfl
 |str _=>obtain⟨t,rfl⟩:=r;rfl
 |byt _=>obtain⟨t,rfl⟩:=r;rfl
 |flt _=>obtain⟨t,rfl⟩:=r;rfl
 |ref _=>subst r;rfl
 |ty _=>subst r;rfl
def aL.inj {x y:V}{u:pz}(r:aL x u)(q:aL y u):x=y:=VR (r.abs.symm.trans q.abs)
theorem aU.inj:∀{xs ys:List V}{us:List pz},aU xs us->aU ys us->xs=ys
 |_,_,_,.nil,.nil=>rfl
 |_,_,_,.cons r t,.cons r' t'=>by rw[r.inj r',aU.inj t t']
section
variable {X:Cx}{pins:List (Addr×Obj)}{σ:St}{H:Hp}{s:Bn}{a:Addr}{xs ys:List V}
def SqL.of {K:W.Frag}(h:H a=some (.lst xs)):SqL K H a xs:=.inl (.inl h)
def SqT.of {K:W.Frag}(h:H a=some (.tup xs)):SqT K H a xs:=.inl (.inl h)
def Inv.list (I:Inv X pins σ H s)(h:SqL X.K H a xs):∃its:List pz,aU xs its/\PlainL s.heap a its.toArray/\xs.length<=sizeLine:=by
 rcases h with h|⟨o,its,n,hk,hc,hd,hs,hz,r⟩
 ·obtain⟨z,its,n,r,e⟩:=h.ok I.hok
  exact⟨its,r,⟨_,n,e,rfl,rfl,rfl⟩,z⟩
 ·refine⟨its.toList,r,⟨o,n,I.kIn a o hk,hc,hd,by simpa using hs⟩,?_⟩
  have e:=r.length
  simp only[Xg]at e
  lia
def Inv.tuple (I:Inv X pins σ H s)(h:SqT X.K H a xs):∃its:List pz,aU xs its/\IsTup s.heap a its.toArray/\xs.length<=sizeLine:=by
 rcases h with h|⟨o,its,n,hk,hc,hs,hz,r⟩
 ·obtain⟨z,its,r,p⟩:=h.ok I.hok
  exact⟨its,r,p,z⟩
 ·refine⟨its.toList,r,⟨o,I.kIn a o hk,hc,n,by simpa using hs⟩,?_⟩
  have e:=r.length
  simp only[Xg]at e
  lia
def Inv.list_inj (I:Inv X pins σ H s)(h:SqL X.K H a xs)(h':SqL X.K H a ys):xs=ys:=by
 obtain⟨its,r,⟨o,n,e,b,b,d⟩,b⟩:=I.list h
 obtain⟨its',r',⟨o',n',e',b,b,d'⟩,b⟩:=I.list h'
 rw[e]at e';obtain rfl:=VR e'
 rw[d]at d'
 injection d' with d1 _
 have:its=its':=by simpa using congrArg acA d1
 subst this
 exact r.inj r'
def Inv.tuple_inj (I:Inv X pins σ H s)(h:SqT X.K H a xs)(h':SqT X.K H a ys):xs=ys:=by
 obtain⟨its,r,⟨o,e,b,n,d⟩,b⟩:=I.tuple h
 obtain⟨its',r',⟨o',e',b,n',d'⟩,b⟩:=I.tuple h'
 rw[e]at e';obtain rfl:=VR e'
 rw[d]at d'
 injection d' with d1 _
 have:its=its':=by simpa using congrArg acA d1
 subst this
 exact r.inj r'
end
noncomputable abbrev Cx.wish (X:Cx)(E:pz->Bn->Prop):Cx:={X with xe:=E}
abbrev Cx.nox (X:Cx):Cx:=X.wish fun a a=>False
def Cx.Ok.wish {X:Cx}(ok:X.Ok)(E:pz->Bn->Prop):(X.wish E).Ok:=
 ⟨ok.mod,ok.kind,ok.glob,ok.blt,ok.above,ok.inj,ok.has,ok.cab,ok.hd,ok.frames,ok.stk,ok.exf,ok.bs,ok.bsz,ok.noex,ok.exfs,ok.funs,ok.frf⟩
def Cx.Ok.unwish {X:Cx}{E:pz->Bn->Prop}(ok:(X.wish E).Ok):X.Ok:=
 ⟨ok.mod,ok.kind,ok.glob,ok.blt,ok.above,ok.inj,ok.has,ok.cab,ok.hd,ok.frames,ok.stk,ok.exf,ok.bs,ok.bsz,ok.noex,ok.exfs,ok.funs,ok.frf⟩
section
variable {X:Cx}{pins:List (Addr×Obj)}{σ:St}{H:Hp}{s:Bn}{E:pz->Bn->Prop}
def Inv.wish (I:Inv X pins σ H s)(E:pz->Bn->Prop):Inv (X.wish E) pins σ H s:=⟨I.ok.wish E,I.os,I.bare,I.base,I.loc,I.cell,I.free,I.freeC,I.pin,I.hok,I.len⟩
def Inv.unwish (I:Inv (X.wish E) pins σ H s):Inv X pins σ H s:=⟨I.ok.unwish,I.os,I.bare,I.base,I.loc,I.cell,I.free,I.freeC,I.pin,I.hok,I.len⟩
def SP.unwish {D:pB}{f:Flow}{s':Bn}(h:SP (X.wish E) pins D f s'):SP X pins D f s':=by
 cases f with
 |next=>obtain⟨σ',H',I,q⟩:=h;exact⟨σ',H',I.unwish,q⟩
 |brk=>obtain⟨σ',H',I,q⟩:=h;exact⟨σ',H',I.unwish,q⟩
 |cont=>obtain⟨σ',H',I,q⟩:=h;exact⟨σ',H',I.unwish,q⟩
 |ret u=>obtain⟨v,σ',H',I,r,q⟩:=h;exact⟨v,σ',H',I.unwish,r,q⟩
def PSs.nox {st:List Stmt}{t:TS}(h:PSs X.nox st t):PSs X st t:=fun pins s σ H D I hw=>
 VT (h pins s σ H D (I.wish _) hw) (fun a a q=>q.unwish) fun a a z=>Wg z
end
section
variable {X:Cx}{st:Stmt}{bQ:List Stmt}{t u:TS}{e:Expr}{te:TE}{pos:Pos}
def KI:TS:=fun D σ H=>D.nx σ H
def NT (t u:TS):TS:=fun D σ H=>t {D with nx:=u D} σ H
def MJ:PSs X [] KI:=fun _ _ σ H _ I h=>Yl ⟨σ,H,I,h⟩
def Js (h1:PS X st t)(h2:PSs X bQ u):PSs X (st::bQ) (NT t u):=by
 intro pins s σ H D I h
 refine Zo (thn (h1 pins s σ H {D with nx:=u D} I h) fun f s1 q=>?_)
 cases f with
 |next=>
  obtain⟨σ',H',I',q⟩:=q
  exact h2 pins s1 σ' H' D I' q
 |ret v=>exact q
 |brk=>exact q
 |cont=>exact q
def Lq (h1:PS X st t):PSs X [st] t:=by
 intro pins s σ H D I h
 refine Zo (thn (h1 pins s σ H D I h) fun f s1 q=>?_)
 cases f with
 |next=>exact Yl q
 |ret v=>exact q
 |brk=>exact q
 |cont=>exact q
def Inv.quiet {pins:List (Addr×Obj)}{σ:St}{H:Hp}{s:Bn}(I:Inv X pins σ H s):interactive X.env=false:=by simp[interactive,I.ok.kind]
def Kk (te:TE):TS:=fun D σ H=>te σ H fun a H1=>D.nx σ H1
def LV (he:PE X e te)(hs:swapsWith e none pos.line X.env=pure false:=by rfl):PS X (.Expr e pos) (Kk te):=by
 intro pins s σ H D I h
 exact wpAny_Expr_any (thn (he pins s σ H _ I h) fun v s1 ⟨x,H1,I1,r1,q1⟩=>⟨σ,H1,I1,q1⟩) I.quiet hs
def QN (te:TE):TS:=fun D σ H=>te σ H D.rt
def NG (he:PE X e te):PS X (.Return (some e) pos) (QN te):=by
 intro pins s σ H D I h
 exact acD (thn (he pins s σ H _ I h) fun v s1 ⟨x,H1,I1,r1,q1⟩=>⟨x,σ,H1,I1,r1,q1⟩)
end
abbrev TG:=V->St->Hp->(St->Hp->Prop)->Prop
abbrev TGs:=List V->St->Hp->(St->Hp->Prop)->Prop
def PG (X:Cx)(target:Expr)(t:TG):Prop:=
 ∀(pins:List (Addr×Obj))(s:Bn)(σ:St)(H:Hp)(v:V)(u:pz)(Q:St->Hp->Prop),Inv X pins σ H s->aL v u->t v σ H Q->
  wpAny (model X.prog X.w) X.A (assign target X.env u) (fun a s'=>∃σ' H',Inv X pins σ' H' s'/\Q σ' H') X.xe s
def PGs (X:Cx)(ts:List Expr)(t:TGs):Prop:=
 ∀(pins:List (Addr×Obj))(s:Bn)(σ:St)(H:Hp)(vs:List V)(us:List pz)(Q:St->Hp->Prop),Inv X pins σ H s->aU vs us->t vs σ H Q->
  wpAny (model X.prog X.w) X.A (assignInOrder ((assignEach ts X.env).map (·.2)) us) (fun a s'=>∃σ' H',Inv X pins σ' H' s'/\Q σ' H') X.xe s
abbrev JI:=V->V->V->Hp->(Hp->Prop)->Prop
def Pz (X:Cx)(t:JI):Prop:=
 ∀(pins:List (Addr×Obj))(s:Bn)(σ:St)(H:Hp)(o i v:V)(ov iv u:pz)(Q:Hp->Prop),Inv X pins σ H s->aL o ov->aL i iv->aL v u->t o i v H Q->
  wpAny (model X.prog X.w) X.A (setItem ov iv u) (fun a s'=>∃H',Inv X pins σ H' s'/\Q H') X.xe s
section
variable {X:Cx}{pos:Pos}
def tG (i:Nat):TG:=fun v σ H Q=>Q (σ.set i (some v)) H
def EB {i:Nat}{x:Str}(hN:X.N.Nodup)(hi:X.N[i]?=some x)(hx:Loc X.env.scope x)(hf:X.fn x=true\/X.env.scope.names.lookup x=some .local:=by first|exact .inl rfl|exact .inr rfl|assumption):PG X (.Name x pos) (tG i):=by
 intro pins s σ H v u Q I r h
 exact acC (vX I hN hi hx r (fun s' I'=>⟨_,H,I',h⟩) hf)
def TQ:TGs:=fun vs σ H Q=>vs=[]/\Q σ H
def QX (t:TG)(u:TGs):TGs:=fun vs σ H Q=>∃v r,vs=v::r/\t v σ H fun σ' H'=>u r σ' H' Q
def MA:PGs X [] TQ:=by
 intro pins s σ H vs us Q I r h
 obtain⟨e,h⟩:=h
 subst e
 cases r
 exact assignInOrder_nil ⟨σ,H,I,h⟩
def IW {e:Expr}{es:List Expr}{t:TG}{u:TGs}(h1:PG X e t)(h2:PGs X es u)
  (hs:(assignEach (e::es) X.env).map (·.2)=assign e X.env::(assignEach es X.env).map (·.2):=by rfl):PGs X (e::es) (QX t u):=by
 intro pins s σ H vs us Q I r h
 obtain⟨v,vr,e1,h⟩:=h
 subst e1
 cases r with
 |cons r rr=>
  rw[hs]
  refine assignInOrder_cons (thn (h1 pins s σ H _ _ _ I r h) fun _ s1 ⟨σ1,H1,I1,q1⟩=>?_)
  exact h2 pins s1 σ1 H1 _ _ Q I1 rr q1
def Va (K:W.Frag)(n:Nat)(t:TGs):TG:=fun v σ H Q=>∃a xs,v=.ref a/\SqT K H a xs/\xs.length=n/\t xs σ H Q
def Qk {es:List Expr}{k:Nat}{t:TGs}{n:Nat}(hc:X.calm=true)(h:PGs X es t)
  (hn:(assignEach es X.env).length=n:=by rfl)(hst:(assignEach es X.env).findIdx? (·.1)=none:=by rfl):PG X (.Tuple es k pos) (Va X.K n t):=by
 intro pins s σ H v u Q I r hw
 obtain⟨a,xs,e1,hq,hl,hw⟩:=hw
 subst e1
 subst r
 obtain⟨its,rv,ht,hz⟩:=I.tuple hq
 refine assign_Tuple_tuple (I.ok.hd hc) ht (by simp[hn,<-hl,rv.length]) hst fun h' hx=>?_
 have I1:Inv X pins σ H {s with heap:=h'}:=I.kept (t':=s.toks) fun b o e=>hx b o (VD (Vq e)) e
 exact h pins _ σ H xs _ Q I1 (by simpa using rv) hw
def Ug (to ti:TE)(t:JI):TG:=fun v σ H Q=>to σ H fun o H1=>ti σ H1 fun i H2=>t o i v H2 fun H3=>Q σ H3
def PP {o i:Expr}{to ti:TE}{t:JI}(ho:PE X o to)(hi:PE X i ti)(hs:Pz X t)
  (ha:∀v,assign (.Subscript o i pos) X.env v=(do
   let ov<-holding [v] (eval o X.env)
   let iv<-holding [v,ov] (eval i X.env)
   standAt pos
   holding [v,ov,iv] (setItem ov iv v)
   release [v,ov,iv] []):=by intro a;rfl):PG X (.Subscript o i pos) (Ug to ti t):=by
 intro pins s σ H v u Q I r h
 rw[ha]
 refine pv (WN (thn (ho pins s σ H _ I h) fun ov s1 ⟨x,H1,I1,r1,q1⟩=>?_))
 refine pv (WN (thn (hi pins s1 σ H1 _ I1 q1) fun iv s2 ⟨y,H2,I2,r2,q2⟩=>?_))
 refine pv (abv (pv (WN (thn (hs pins s2 σ H2 x y v ov iv u _ I2 r1 r2 r q2) fun _ s3 ⟨H3,I3,q3⟩=>?_))))
 exact wpAny_release ⟨σ,H3,I3,q3⟩
def yp (te:TE)(g:TG):TS:=fun D σ H=>te σ H fun x H1=>g x σ H1 D.nx
def Ov {tg e:Expr}{te:TE}{g:TG}(he:PE X e te)(hg:PG X tg g)(hs:swapsWithSole [tg] e pos.line X.env=pure false:=by rfl)(hw:swappedStores [tg] e X.env=pure none:=by rfl)
  (h1:(assignEach [tg] X.env).map (·.2)=[assign tg X.env]:=by rfl):PS X (.Assign [tg] e pos) (yp te g):=by
 intro pins s σ H D I h
 refine wpAny_Assign_stores (thn (he pins s σ H _ I h) fun v s1 ⟨x,H1,I1,r1,q1⟩=>?_) hs hw
 rw[h1]
 exact thn (hg pins s1 σ H1 x v _ I1 r1 q1) fun a s2 q=>q
def NV {i:Nat}{x:Str}{e:Expr}{te:TE}{pos':Pos}(hN:X.N.Nodup)(hi:X.N[i]?=some x)(hx:Loc X.env.scope x)(he:PE X e te)(hs:swapsWith e (some (.Name x pos')) pos.line X.env=pure false:=by rfl)(hf:X.fn x=true\/X.env.scope.names.lookup x=some .local:=by first|exact .inl rfl|exact .inr rfl|assumption):
  PS X (.Assign [.Name x pos'] e pos) (yp te (tG i)):=by
 intro pins s σ H D I h
 refine wpAny_Assign_Name (thn (he pins s σ H _ I h) fun v s1 ⟨y,H1,I1,r1,q1⟩=>?_) hs
 exact vX I1 hN hi hx r1 (fun s2 I2=>⟨_,H1,I2,q1⟩) hf
end
section
variable {X:Cx}{pos:Pos}
def Hy (c:TT)(tb:TS):TS:=fun D σ H=>∃W:Nat->St->Hp->Prop,(∃m,W m σ H)/\∀m σ H,W m σ H->
 c σ H fun b H1=>if b=true then ∃N:St->Hp->Prop,(∀σ' H',N σ' H'->∃m',m'<m/\W m' σ' H')/\tb {D with nx:=N,ct:=N,bk:=D.nx} σ H1 else D.nx σ H1
def JD {c:Expr}{body:List Stmt}{tc:TT}{tb:TS}(hp:aaY (model X.prog X.w) X.A X.env X.xe)(hc:PT X c tc)(hb:PSs X body tb):PS X (.While c body [] pos) (Hy tc tb):=by
 intro pins s σ H D I h
 obtain⟨W,⟨m0,w0⟩,turn⟩:=h
 refine wpAny_While (codeAny_whileLoop (fun n s'=>∃σ' H',Inv X pins σ' H' s'/\W n σ' H') ?_ m0 ⟨σ,H,I,w0⟩)
 rintro n s1 ⟨σ1,H1,I1,w1⟩
 refine XQ hp (thn (hc pins s1 σ1 H1 _ I1 (turn n σ1 H1 w1)) fun b s2 ⟨H2,I2,q2⟩=>?_)
 cases b with
 |true=>
  obtain⟨N,hN,q2⟩:=q2
  rw[if_pos rfl]
  refine XQ hp (thn (hb pins s2 σ1 H2 _ I2 q2) fun f s3 q3=>?_)
  cases f with
  |next=>
   obtain⟨σ3,H3,I3,n3⟩:=q3
   obtain⟨m',hm,w3⟩:=hN σ3 H3 n3
   exact⟨m',hm,σ3,H3,I3,w3⟩
  |cont=>
   obtain⟨σ3,H3,I3,n3⟩:=q3
   obtain⟨m',hm,w3⟩:=hN σ3 H3 n3
   exact⟨m',hm,σ3,H3,I3,w3⟩
  |brk=>exact q3
  |ret v=>exact q3
 |false=>
  rw[if_neg VF]
  exact Yl ⟨σ1,H2,I2,q2⟩
end
structure It where
 go:Nat->Hp->Prop
 yld:Nat->Hp->V->Hp->Prop
 stop:Nat->Hp->Prop
def re (X:Cx)(pins:List (Addr×Obj))(H:Hp)(b:Addr):Prop:=
 H b=none/\b≠X.env.locals/\b∉X.fs/\(b∈X.ex\/X.s₀.heap.objs.size<=b)/\(∀x c,X.env.cells.lookup x=some c->c≠b)/\∀p∈X.pn++pins,p.1≠b
def Inv.fpOk {X:Cx}{pins:List (Addr×Obj)}{σ:St}{H H':Hp}{s:Bn}{b:Addr}(I:Inv X pins σ H s)(hb:s.heap.objs.size<=b)(hn:H' b=none):re X pins H' b:=by
 refine⟨hn,Xx (VB I.lt hb),I.nofs hb,.inr (VO I.sz hb),fun x c e z=>?_,fun p hp z=>?_⟩
 ·obtain⟨v,q⟩:=I.cell x c e
  exact absurd (VB q.lt (by rw[z];exact hb)) (Wz _)
 ·exact absurd (VB (Vq (I.pin p hp).1) (by rw[z];exact hb)) (Wz _)
structure vD (P:VM)(w:Wm)(K:W.Frag)(tg:Expr)(J:It)(fp:List Addr)(it:Addr)(tn:Nat->Heap->Prop):Prop where
 mem:it∈fp
 obj:∀i h,tn i h->∀b∈fp,∃o,h.get? b=some o/\∀v,o.data≠.cell v
 keep:∀i h h',tn i h->(∀b∈fp,∀o,h.get? b=some o->h'.get? b=some o)->tn i h'
 item:∀(X:Cx),X.prog=P->X.w=w->X.K=K->X.calm=true->∀(i:Nat)(pins:List (Addr×Obj))(s:Bn)(σ:St)(H:Hp)(E:pz->Bn->Prop),Inv X pins σ H s->(∀b∈fp,re X pins H b)->tn i s.heap->J.go i H->
  wpAny (model P w) X.A (pyNext (.ref it)) (fun r s1=>∃u,r=some u/\
   wpAny (model P w) X.A (letOwnedTupleGo tg (.ref it) u) (fun _ s2=>∃x H',Inv X pins σ H' s2/\aL x u/\J.yld i H x H'/\tn (i+1) s2.heap/\∀b∈fp,H' b=none) E s1) E s
 done:∀(X:Cx),X.prog=P->X.w=w->X.K=K->X.calm=true->∀(i:Nat)(pins:List (Addr×Obj))(s:Bn)(σ:St)(H:Hp)(E:pz->Bn->Prop),Inv X pins σ H s->(∀b∈fp,re X pins H b)->tn i s.heap->J.stop i H->
  wpAny (model P w) X.A (pyNext (.ref it)) (fun r s1=>r=none/\Inv X pins σ H s1) E s
 self:∀(A:Wj)(i:Nat)(s:Bn)(Q:pz->Bn->Prop)(E:pz->Bn->Prop),tn i s.heap->Q (.ref it) s->wpAny (model P w) A (pyIter (.ref it)) Q E s
abbrev TI:=St->Hp->(It->Hp->Prop)->Prop
def PIE (X:Cx)(pins:List (Addr×Obj))(σ:St)(tg:Expr)(R:It->Hp->Prop)(itv:pz)(s2:Bn):Prop:=
 ∃(it:Addr)(fp:List Addr)(tn:Nat->Heap->Prop)(J:It)(H':Hp),itv=.ref it/\Inv X pins σ H' s2/\vD X.prog X.w X.K tg J fp it tn/\tn 0 s2.heap/\(∀b∈fp,re X pins H' b)/\R J H'
def PI (X:Cx)(tg iter:Expr)(wi:TI):Prop:=
 ∀(pins:List (Addr×Obj))(s:Bn)(σ:St)(H:Hp)(R:It->Hp->Prop),Inv X pins σ H s->wi σ H R->
  wpAny (model X.prog X.w) X.A (eval iter X.env) (fun v s1=>wpAny (model X.prog X.w) X.A (pyIter v) (PIE X pins σ tg R) X.xe s1) X.xe s
def wy {M:Model}{A:Wj}{E:pz->Bn->Prop}{s:Bn}{tg:Expr}{it:Addr}{u:pz}{o:Obj}{n:String}{vs:Array pz}{Q:Unit->Bn->Prop}(ho:s.heap.get? it=some o)(hc:o.cls=.type n)(hd:o.data=.fields vs)
  (hn:["enumerate","zip","dict_itemiterator","dict_reverseitemiterator","odict_iterator","itertools.zip_longest","itertools.pairwise"].contains n=false)(hQ:Q () s):wpAny M A (letOwnedTupleGo tg (.ref it) u) Q E s:=by
 unfold letOwnedTupleGo
 cases tg<;>first
  |exact Vt hQ
  |(cases u<;>first
   |exact Vt hQ
   |(refine pv (wpAny_load ho ?_)
     rw[hc,hd]
     show wpAny M A (if (["enumerate","zip","dict_itemiterator","dict_reverseitemiterator","odict_iterator","itertools.zip_longest","itertools.pairwise"].contains n&&vs[0]? ==some (rawInt _))=true then _ else _) Q E s
     rw[if_neg (by intro h;rw[hn,Bool.false_and]at h;injection h)]
     exact Vt hQ))
def Itl (K:W.Frag)(a:Addr):It:=
 ⟨fun i H=>∃xs x,SqL K H a xs/\xs[i]?=some x,fun i H x H'=>H'=H/\∀xs,SqL K H a xs->xs[i]?=some x,fun i H=>∃xs,SqL K H a xs/\xs.length<=i⟩
def Itt (K:W.Frag)(a:Addr):It:=
 ⟨fun i H=>∃xs x,SqT K H a xs/\xs[i]?=some x,fun i H x H'=>H'=H/\∀xs,SqT K H a xs->xs[i]?=some x,fun i H=>∃xs,SqT K H a xs/\xs.length<=i⟩
def Itr (lo:Int)(n:Nat):It:=⟨fun i a=>i<n,fun i H x H'=>H'=H/\x=.int (lo+i),fun i a=>n<=i⟩
def Gi {P:VM}{w:Wm}{K:W.Frag}{tg:Expr}(a it:Addr):vD P w K tg (Itl K a) [it] it (fun i h=>h.IsListIter it a i)where
 mem:=by simp
 obj:=fun i h st b hb=>by
  have e:b=it:=by simpa using hb
  subst e
  obtain⟨o,e,c,d⟩:=st
  exact⟨o,e,fun v z=>by rw[d]at z;injection z⟩
 keep:=fun i h h' st k=>st.at fun o e=>k it (by simp) o e
 item:=by
  intro X hP hw hK hc i pins s σ H E I hf st hg
  subst hP hw hK
  obtain⟨xs,x,hq,hx⟩:=hg
  obtain⟨its,rv,p,hz⟩:=I.list hq
  obtain⟨u,hu,ru⟩:=rv.get hx
  obtain⟨f0,f1,f2,f3,f4,f5⟩:=hf it (by simp)
  refine wpAny_pyNext_list_item st p.isList (x:=u) (by simpa using hu) fun h' st' sb=>?_
  have I1:Inv X pins σ H {s with heap:=h'}:=I.turned (t':=s.toks) (fun b o hb e=>(sb.2 b hb).trans e) f0 f1 f3 f4 f5
  obtain⟨o,e,c,d⟩:=id st'
  exact⟨u,rfl,wy (s:={s with heap:=h'}) e c d (by decide) ⟨x,H,I1,ru,⟨rfl,fun ys hy=>by rw[I.list_inj hy hq];exact hx⟩,st',fun b hb=>(hf b hb).1⟩⟩
 done:=by
  intro X hP hw hK hc i pins s σ H E I hf st hg
  subst hP hw hK
  obtain⟨xs,hq,hx⟩:=hg
  obtain⟨its,rv,p,hz⟩:=I.list hq
  obtain⟨f0,f1,f2,f3,f4,f5⟩:=hf it (by simp)
  have hl:=rv.length
  exact wpAny_pyNext_list_end (I.ok.hd hc) st p.isList (by simp;lia) fun h' eb=>⟨rfl,I.turned (t':=s.toks) (fun b o hb e=>eb b o hb e) f0 f1 f3 f4 f5⟩
 self:=fun f f f f f st h=>wpAny_pyIter_listiter st h
def Gb {P:VM}{w:Wm}{K:W.Frag}{tg:Expr}(a it:Addr):vD P w K tg (Itt K a) [it] it (fun i h=>h.IsTupleIter it a i)where
 mem:=by simp
 obj:=fun i h st b hb=>by
  have e:b=it:=by simpa using hb
  subst e
  obtain⟨o,e,c,d⟩:=st
  exact⟨o,e,fun v z=>by rw[d]at z;injection z⟩
 keep:=fun i h h' st k=>st.at fun o e=>k it (by simp) o e
 item:=by
  intro X hP hw hK hc i pins s σ H E I hf st hg
  subst hP hw hK
  obtain⟨xs,x,hq,hx⟩:=hg
  obtain⟨its,rv,p,hz⟩:=I.tuple hq
  obtain⟨u,hu,ru⟩:=rv.get hx
  obtain⟨f0,f1,f2,f3,f4,f5⟩:=hf it (by simp)
  refine wpAny_pyNext_tuple_item st (show s.heap.IsTuple a its.toArray from p) (x:=u) (by simpa using hu) fun h' st' sb=>?_
  have I1:Inv X pins σ H {s with heap:=h'}:=I.turned (t':=s.toks) (fun b o hb e=>(sb.2 b hb).trans e) f0 f1 f3 f4 f5
  obtain⟨o,e,c,d⟩:=id st'
  exact⟨u,rfl,wy (s:={s with heap:=h'}) e c d (by decide) ⟨x,H,I1,ru,⟨rfl,fun ys hy=>by rw[I.tuple_inj hy hq];exact hx⟩,st',fun b hb=>(hf b hb).1⟩⟩
 done:=by
  intro X hP hw hK hc i pins s σ H E I hf st hg
  subst hP hw hK
  obtain⟨xs,hq,hx⟩:=hg
  obtain⟨its,rv,p,hz⟩:=I.tuple hq
  obtain⟨f0,f1,f2,f3,f4,f5⟩:=hf it (by simp)
  have hl:=rv.length
  exact wpAny_pyNext_tuple_end (I.ok.hd hc) st (show s.heap.IsTuple a its.toArray from p) (by simp;lia) fun h' eb=>⟨rfl,I.turned (t':=s.toks) (fun b o hb e=>eb b o hb e) f0 f1 f3 f4 f5⟩
 self:=fun f f f f f st h=>wpAny_pyIter_tupleiter st h
def Fg {P:VM}{w:Wm}{K:W.Frag}{tg:Expr}(it:Addr)(lo:Int)(n:Nat):vD P w K tg (Itr lo n) [it] it (fun i h=>IsRangeIter h it (lo+(i:Nat)*1) ((n:Int)- (i:Nat)) 1)where
 mem:=by simp
 obj:=fun i h st b hb=>by
  have e:b=it:=by simpa using hb
  subst e
  exact⟨_,st,fun v z=>by
   have z':abt _=Data.cell v:=z
   injection z'⟩
 keep:=fun i h h' st k=>k it (by simp) _ st
 item:=by
  intro X hP hw hK hc i pins s σ H E I hf st hg
  subst hP hw hK
  obtain⟨f0,f1,f2,f3,f4,f5⟩:=hf it (by simp)
  have W:=Walks.range (prog:=X.prog) (w:=X.w) (I.ok.hd hc) it lo 1 n
  refine W.item i s _ _ hg st fun v h' tk hv st' kk=>?_
  obtain⟨t,rfl⟩:=hv
  have I1:Inv X pins σ H {s with heap:=h',toks:=tk}:=I.turned (fun b o hb e=>kk b o (by simpa using hb) e) f0 f1 f3 f4 f5
  refine⟨_,rfl,wy (s:={s with heap:=h',toks:=tk}) (n:="range_iterator") st' rfl rfl (by decide) ⟨.int (lo+i),H,I1,⟨t,?_⟩,⟨rfl,rfl⟩,st',fun b hb=>(hf b hb).1⟩⟩
  rw[Int.mul_one]
 done:=by
  intro X hP hw hK hc i pins s σ H E I hf st hg
  subst hP hw hK
  obtain⟨f0,f1,f2,f3,f4,f5⟩:=hf it (by simp)
  exact wpAny_pyNext_range_end (I.ok.hd hc) st (by have:n<=i:=hg;lia) fun h' eb=>⟨rfl,I.turned (t':=s.toks) (fun b o hb e=>eb b o hb e) f0 f1 f3 f4 f5⟩
 self:=fun a a a a a st h=>wpAny_pyIter_rangeiter st h
section
variable {X:Cx}{tg:Expr}
def Cp {pins:List (Addr×Obj)}{σ:St}{H:Hp}{s:Bn}{R:It->Hp->Prop}{E:pz->Bn->Prop}{lo hi:Int}{t u v:Tok}{tk:Nat}(I:Inv X pins σ H s)(h1: -(2^62)<=lo)(h2:lo<2^62)(h3: -(2^62)<=hi)(h4:hi<2^62)
  (q:R (Itr lo (hi- lo).toNat) H):wpAny (model X.prog X.w) X.A (pyIter (.ref s.heap.objs.size)) (PIE X pins σ tg R) E {s with heap:=s.heap.push {cls:=.type "range",data:=.fields #[.int lo t,.int hi u,.int 1 v]},toks:=tk}:=by
 refine wpAny_pyIter_range (IsRange.new ..) (small_one h1 h2 h3 h4) ?_
 have I1:Inv X pins σ H {s with heap:=s.heap.push {cls:=.type "range",data:=.fields #[.int lo t,.int hi u,.int 1 v]},toks:=tk}:=I.kept fun b o e=>gV _ e
 refine⟨(s.heap.push {cls:=.type "range",data:=.fields #[.int lo t,.int hi u,.int 1 v]}).objs.size,[(s.heap.push {cls:=.type "range",data:=.fields #[.int lo t,.int hi u,.int 1 v]}).objs.size],_,_,H,rfl,
  I1.kept (t':=tk) fun b o e=>gV _ e,Fg _ lo (hi- lo).toNat,?_,fun b hb=>?_,q⟩
 ·have e1:lo+((0:Nat):Int)*1=lo:=by simp
  have e2:(((hi- lo).toNat:Nat):Int)- ((0:Nat):Int)=acT lo hi 1:=by rw[rangeSize_one];split<;>lia
  show IsRangeIter _ _ (lo+((0:Nat):Int)*1) ((((hi- lo).toNat:Nat):Int)- ((0:Nat):Int)) 1
  rw[e1,e2]
  exact Vr _ rfl
 ·have e:b=(s.heap.push {cls:=.type "range",data:=.fields #[.int lo t,.int hi u,.int 1 v]}).objs.size:=by simpa using hb
  subst e
  exact I1.fpOk (sn _) (I1.hok.fresh (sn _))
def Kr (ta:TA):TI:=fun σ H R=>ta σ H fun vs H1=>∃j:Int,vs=[.int j]/\ -(2^62)<=j/\j<2^62/\R (Itr 0 j.toNat) H1
def KN (ta:TA):TI:=fun σ H R=>ta σ H fun vs H1=>∃i j:Int,vs=[.int i,.int j]/\(-(2^62)<=i/\i<2^62/\ -(2^62)<=j/\j<2^62)/\R (Itr i (j- i).toNat) H1
def HZ {a:Expr}{ta:TA}{p pos:Pos}(hg:Gl X "range")(hm:X.mg "range"=none)(ha:PA X [a] ta)(hs:starEach [a] X.env=[(false,eval a X.env)]:=by rfl):PI X tg (.Call (.Name "range" p) [a] [] pos) (Kr ta):=by
 intro pins s σ H R I h
 refine Call_ (fF I hg hm boot_range (We (thn (ha pos pins s σ H _ I h) fun us s1 ⟨vs,H1,I1,r1,q1⟩=>?_) hs rfl))
 obtain⟨j,e,q1,q2,q⟩:=q1
 subst e
 cases r1 with
 |cons r rr=>
  cases rr
  obtain⟨t,rfl⟩:=r
  exact call_range_1 (Cp I1 (by lia) (by lia) q1 q2 (by simpa using q))
def Hq {a b:Expr}{ta:TA}{p pos:Pos}(hg:Gl X "range")(hm:X.mg "range"=none)(ha:PA X [a,b] ta)(hs:starEach [a,b] X.env=[(false,eval a X.env),(false,eval b X.env)]:=by rfl)(hs2:starEach [b] X.env=[(false,eval b X.env)]:=by rfl):
  PI X tg (.Call (.Name "range" p) [a,b] [] pos) (KN ta):=by
 intro pins s σ H R I h
 refine Call_ (fF I hg hm boot_range (We (thn (ha pos pins s σ H _ I h) fun us s1 ⟨vs,H1,I1,r1,q1⟩=>?_) (by rw[hs,hs2]) (by rw[hs2];rfl)))
 obtain⟨i,j,e,⟨q1,q2,q3,q4⟩,q⟩:=q1
 subst e
 cases r1 with
 |cons r rr=>
  cases rr with
  |cons r' rr=>
   cases rr
   obtain⟨t,rfl⟩:=r
   obtain⟨t',rfl⟩:=r'
   exact call_range_2 (Cp I1 q1 q2 q3 q4 q)
def UE (wi:TI)(g:TG)(tb:TS):TS:=fun D σ H=>wi σ H fun J H1=>∃W:Nat->Nat->St->Hp->Prop,(∃m,W 0 m σ H1)/\∀i m σ H,W i m σ H->
 (J.stop i H/\D.nx σ H)\/(J.go i H/\∃N:St->Hp->Prop,(∀σ' H',N σ' H'->∃m',m'<m/\W (i+1) m' σ' H')/\∀x H',J.yld i H x H'->g x σ H' fun σ2 H2=>tb {D with nx:=N,ct:=N,bk:=D.nx} σ2 H2)
def rX (fp:List Addr)(h:Heap):List (Addr×Obj):=fp.filterMap fun b=>(h.get? b).map fun o=>(b,o)
def ji {fp:List Addr}{h:Heap}{b:Addr}{o:Obj}(hb:b∈fp)(e:h.get? b=some o):(b,o)∈rX fp h:=ZU.mpr ⟨b,hb,by rw[e];rfl⟩
def GV {fp:List Addr}{h:Heap}{p:Addr×Obj}(hp:p∈rX fp h):p.1∈fp/\h.get? p.1=some p.2:=by
 obtain⟨b,hb,e⟩:=ZU.mp hp
 cases q:h.get? b with
 |none=>rw[q]at e;injection e
 |some o=>
  rw[q]at e
  have e':(b,o)=p:=VR e
  subst e'
  exact⟨hb,q⟩
def Inv.pinned {pins:List (Addr×Obj)}{σ:St}{H:Hp}{s:Bn}{fp:List Addr}(I:Inv X pins σ H s)(hf:∀b∈fp,re X pins H b)(ho:∀b∈fp,∃o,s.heap.get? b=some o/\∀v,o.data≠.cell v):Inv X (pins++rX fp s.heap) σ H s:=
 I.pins_of fun p hp=>(WE.mp hp).elim (fun z=>I.pin p (Wl _ z)) fun z=>by
  obtain⟨hb,e⟩:=GV z
  obtain⟨f0,f1,f2,a⟩:=hf p.1 hb
  obtain⟨o,e',d⟩:=ho p.1 hb
  rw[e]at e';obtain rfl:=VR e'
  exact⟨e,f0,f1,f2,d⟩
def Inv.unpinned {pins pl:List (Addr×Obj)}{σ:St}{H:Hp}{s:Bn}(I:Inv X (pins++pl) σ H s):Inv X pins σ H s:=I.pins_of fun p hp=>I.pin p (Wl _ (Xp _ hp))
def PU {iter:Expr}{body:List Stmt}{wi:TI}{g:TG}{tb:TS}{pos:Pos}(hp:aaY (model X.prog X.w) X.A X.env X.xe)(hc:X.calm=true)(hi:PI X tg iter wi)(hg:PG X tg g)(hb:PSs X body tb)
  (hs:∀x,foldedSetIterable iter X.env x=pure x:=by intro _;rfl):PS X (.For tg iter body [] pos) (UE wi g tb):=by
 intro pins s σ H D I h
 refine wpAny_For (thn (hi pins s σ H _ I h) fun v s1 h1=>thn h1 fun itv s2 h2=>?_) hs
 obtain⟨it,fp,tn,J,H2,e,I2,T,st2,f2,W,⟨m0,w0⟩,turn⟩:=h2
 subst e
 have stat:∀{H':Hp},(∀b∈fp,H' b=none)->∀b∈fp,re X pins H' b:=fun hn b hb=>⟨hn b hb,(f2 b hb).2⟩
 refine codeAny_forLoop_any (fun n s'=>∃i σ' H',Inv X pins σ' H' s'/\tn i s'.heap/\(∀b∈fp,H' b=none)/\W i n σ' H') ?_ m0 ⟨0,σ,H2,I2,st2,fun b hb=>(f2 b hb).1,w0⟩
 rintro n s3 ⟨i,σ3,H3,I3,st3,fr3,w3⟩
 rcases turn i n σ3 H3 w3 with⟨stop,qn⟩|⟨go,N,hN,step⟩
 ·refine XQ hp (thn (T.done X rfl rfl rfl hc i pins s3 σ3 H3 X.xe I3 (stat fr3) st3 stop) fun r s4 ⟨hr,I4⟩=>?_)
  subst hr
  exact Yl ⟨σ3,H3,I4,qn⟩
 ·refine XQ hp (thn (T.item X rfl rfl rfl hc i pins s3 σ3 H3 X.xe I3 (stat fr3) st3 go) fun r s4 ⟨u,hr,h4⟩=>?_)
  subst hr
  refine XQ hp (thn h4 fun _ s5 ⟨x,H5,I5,r5,y5,st5,fr5⟩=>?_)
  have I5':=I5.pinned (stat fr5) (T.obj _ _ st5)
  refine XQ hp (thn (hg _ s5 σ3 H5 x u _ I5' r5 (step x H5 y5)) fun _ s6 ⟨σ6,H6,I6,q6⟩=>?_)
  refine XQ hp (thn (hb _ s6 σ6 H6 _ I6 q6) fun f s7 q7=>?_)
  have again:∀{σ7:St}{H7:Hp},Inv X (pins++rX fp s5.heap) σ7 H7 s7->N σ7 H7->∃m,m<n/\∃i σ' H',Inv X pins σ' H' s7/\tn i s7.heap/\(∀b∈fp,H' b=none)/\W i m σ' H':=fun{σ7 H7} I7 n7=>by
   obtain⟨m',hm,w7⟩:=hN σ7 H7 n7
   refine⟨m',hm,i+1,σ7,H7,I7.unpinned,T.keep _ _ _ st5 fun b hb o e=>(I7.pin (b,o) (Wl _ (Wl _ (ji hb e)))).1,fun b hb=>?_,w7⟩
   obtain⟨o,e,d⟩:=T.obj _ _ st5 b hb
   exact(I7.pin (b,o) (Wl _ (Wl _ (ji hb e)))).2.1
  cases f with
  |next=>obtain⟨σ7,H7,I7,n7⟩:=q7;exact again I7 n7
  |cont=>obtain⟨σ7,H7,I7,n7⟩:=q7;exact again I7 n7
  |brk=>obtain⟨σ7,H7,I7,q7⟩:=q7;exact⟨σ7,H7,I7.unpinned,q7⟩
  |ret v=>obtain⟨x7,σ7,H7,I7,r7,q7⟩:=q7;exact⟨x7,σ7,H7,I7.unpinned,r7,q7⟩
end
abbrev R2:=V->V->Hp->VK->Prop
def OpR (X:Cx)(f:pz->pz->Sem pz)(r:R2):Prop:=
 ∀(pins:List (Addr×Obj))(s:Bn)(σ:St)(H:Hp)(x y:V)(v u:pz)(Q:VK),Inv X pins σ H s->aL x v->aL y u->r x y H Q->
  wpAny (model X.prog X.w) X.A (f v u) (EP X pins σ Q) X.xe s
def UnR (X:Cx)(f:pz->Sem pz)(r:V->Hp->VK->Prop):Prop:=
 ∀(pins:List (Addr×Obj))(s:Bn)(σ:St)(H:Hp)(x:V)(v:pz)(Q:VK),Inv X pins σ H s->aL x v->r x H Q->
  wpAny (model X.prog X.w) X.A (f v) (EP X pins σ Q) X.xe s
def bq (X:Cx)(f:pz)(r:List V->Hp->VK->Prop):Prop:=
 ∀(pins:List (Addr×Obj))(s:Bn)(σ:St)(H:Hp)(xs:List V)(us:List pz)(Q:VK),Inv X pins σ H s->aU xs us->r xs H Q->
  wpAny (model X.prog X.w) X.A (call f us) (EP X pins σ Q) X.xe s
def Uz (X:Cx)(r:V->Hp->(Bool->Hp->Prop)->Prop):Prop:=
 ∀(pins:List (Addr×Obj))(s:Bn)(σ:St)(H:Hp)(x:V)(v:pz)(Q:Bool->Hp->Prop),Inv X pins σ H s->aL x v->r x H Q->
  wpAny (model X.prog X.w) X.A (truthy v) (TP X pins σ Q) X.xe s
def tOp (r:R2)(ta tb:TE):TE:=fun σ H Q=>ta σ H fun x H1=>tb σ H1 fun y H2=>r x y H2 Q
def tUn (r:V->Hp->VK->Prop)(ta:TE):TE:=fun σ H Q=>ta σ H fun x H1=>r x H1 Q
def rI (C:Int->Int->Prop)(g:Int->Int->V):R2:=fun x y H Q=>∃i j,x=.int i/\y=.int j/\C i j/\Q (g i j) H
def rI0 (g:Int->Int->V):R2:=fun x y H Q=>∃i j,x=.int i/\y=.int j/\Q (g i j) H
def rU (g:Int->V):V->Hp->VK->Prop:=fun x H Q=>∃i,x=.int i/\Q (g i) H
section
variable {X:Cx}{a b c:Expr}{ta tb tc:TE}{pos:Pos}
def Jy (ha:PE X a ta)(hb:PE X b tb){pins:List (Addr×Obj)}{s:Bn}{σ:St}{H:Hp}{R:V->V->Hp->Prop}(I:Inv X pins σ H s)
  (h:ta σ H fun x H1=>tb σ H1 fun y H2=>R x y H2){Q:pz->Bn->Prop}{f:pz->pz->Sem pz}
  (hf:∀v u s2 x y H2,Inv X pins σ H2 s2->aL x v->aL y u->R x y H2->wpAny (model X.prog X.w) X.A (f v u) Q X.xe s2):
  wpAny (model X.prog X.w) X.A (eval a X.env) (fun v s₁=>wpAny (model X.prog X.w) X.A (eval b X.env) (fun u s₂=>wpAny (model X.prog X.w) X.A (f v u) Q X.xe s₂) X.xe s₁) X.xe s:=by
 refine thn (ha pins s σ H _ I h) fun v s1 ⟨x,H1,I1,r1,q1⟩=>?_
 refine thn (hb pins s1 σ H1 _ I1 q1) fun u s2 ⟨y,H2,I2,r2,q2⟩=>?_
 exact hf v u s2 x y H2 I2 r1 r2 q2
def RF {op:Operator}{r:R2}(ho:OpR X (binaryOp op) r)(ha:PE X a ta)(hb:PE X b tb):PE X (.BinOp a op b pos) (tOp r ta tb):=by
 intro pins s σ H Q I h
 exact wpAny_BinOp (Jy ha hb I h fun v u s2 x y H2 I2 rx ry q=>ho pins s2 σ H2 x y v u Q I2 rx ry q)
def Tq {op:UnaryOp}{r:V->Hp->VK->Prop}(ho:UnR X (unaryOp op) r)(ha:PE X a ta):PE X (.UnaryOp op a pos) (tUn r ta):=by
 intro pins s σ H Q I h
 exact UnaryOp_ (thn (ha pins s σ H _ I h) fun v s1 ⟨x,H1,I1,r1,q1⟩=>ho pins s1 σ H1 x v Q I1 r1 q1)
def opI {f:pz->pz->Sem pz}{C:Int->Int->Prop}{g:Int->Int->Int}
  (rule:∀(i j:Int)(t u:Tok)(s:Bn)(Q:pz->Bn->Prop)(E:pz->Bn->Prop),C i j->Q (.int (g i j) s.toks) {s with toks:=s.toks+1}->wpAny (model X.prog X.w) X.A (f (.int i t) (.int j u)) Q E s):
  OpR X f (rI C fun i j=>.int (g i j)):=by
 intro pins s σ H x y v u Q I rx ry h
 obtain⟨i,j,rfl,rfl,hc,q⟩:=h
 obtain⟨t,rfl⟩:=rx
 obtain⟨t',rfl⟩:=ry
 exact rule i j t t' s _ _ hc ⟨.int (g i j),H,I.tok _,⟨_,rfl⟩,q⟩
def FW {f:pz->pz->Sem pz}{g:Int->Int->Int}
  (rule:∀(i j:Int)(t u:Tok)(s:Bn)(Q:pz->Bn->Prop)(E:pz->Bn->Prop),Q (.int (g i j) s.toks) {s with toks:=s.toks+1}->wpAny (model X.prog X.w) X.A (f (.int i t) (.int j u)) Q E s):
  OpR X f (rI0 fun i j=>.int (g i j)):=by
 intro pins s σ H x y v u Q I rx ry h
 obtain⟨i,j,rfl,rfl,q⟩:=h
 obtain⟨t,rfl⟩:=rx
 obtain⟨t',rfl⟩:=ry
 exact rule i j t t' s _ _ ⟨.int (g i j),H,I.tok _,⟨_,rfl⟩,q⟩
def EZ {f:pz->pz->Sem pz}{g:Int->Int->Bool}
  (rule:∀(i j:Int)(t u:Tok)(s:Bn)(Q:pz->Bn->Prop)(E:pz->Bn->Prop),Q (.bool (g i j)) s->wpAny (model X.prog X.w) X.A (f (.int i t) (.int j u)) Q E s):
  OpR X f (rI0 fun i j=>.bl (g i j)):=by
 intro pins s σ H x y v u Q I rx ry h
 obtain⟨i,j,rfl,rfl,q⟩:=h
 obtain⟨t,rfl⟩:=rx
 obtain⟨t',rfl⟩:=ry
 exact rule i j t t' s _ _ ⟨.bl (g i j),H,I,rfl,q⟩
def QQ (i j:Int):Prop:=0<=j/\j<=1000000/\i.natAbs<2^64
def FE (k:Nat):(0:Int)<=2^k:=by
 rw[two_pow_cast]
 exact Int.natCast_nonneg _
def OS:OpR X (binaryOp .Add) (rI0 fun i j=>.int (i+j)):=FW fun a a a a a a a q=>add_int q
def PF:OpR X (binaryOp .Sub) (rI0 fun i j=>.int (i- j)):=FW fun a a a a a a a q=>sub_int q
def Om:OpR X (binaryOp .Mod) (rI (fun a j=>0<j) fun i j=>.int (i%j)):=opI fun i j a a a a a hc q=>by
 have h1:(0:Int)<j:=hc
 exact mod_int' (by lia) (by rw[Int.fmod_eq_emod_of_nonneg i (by lia)];exact q)
def Qe:OpR X (binaryOp .Pow) (rI QQ fun i j=>.int (i^j.toNat)):=opI fun a a a a a a a hc q=>pow_int_small hc.1 hc.2.1 hc.2.2 q
def NI:OpR X (binaryOp .LShift) (rI QQ fun i j=>.int (i*2^j.toNat)):=opI fun a a a a a a a hc q=>lshift_int_small hc.1 hc.2.1 hc.2.2 q
def NH:OpR X (binaryOp .RShift) (rI (fun a j=>0<=j) fun i j=>.int (i/2^j.toNat)):=opI fun i j a a a a a hc q=>
 rshift_int hc (by rw[aaI i (FE _)];exact q)
def NW:OpR X (binaryOp .BitAnd) (rI0 fun i j=>.int (Xl i j)):=FW fun a a a a a a a q=>and_int q
def Qb:OpR X (binaryOp .BitXor) (rI0 fun i j=>.int (YE i j)):=FW fun a a a a a a a q=>xor_int q
def unI {f:pz->Sem pz}{g:Int->Int}
  (rule:∀(i:Int)(t:Tok)(s:Bn)(Q:pz->Bn->Prop)(E:pz->Bn->Prop),Q (.int (g i) s.toks) {s with toks:=s.toks+1}->wpAny (model X.prog X.w) X.A (f (.int i t)) Q E s):
  UnR X f (rU fun i=>.int (g i)):=by
 intro pins s σ H x v Q I rx h
 obtain⟨i,rfl,q⟩:=h
 obtain⟨t,rfl⟩:=rx
 exact rule i t s _ _ ⟨.int (g i),H,I.tok _,⟨_,rfl⟩,q⟩
def Pf:UnR X (unaryOp .USub) (rU fun i=>.int (-i)):=unI fun a a a a a q=>neg_int q
end
noncomputable def NR:V->V->Bool
 |.non,.non=>true|.non,.int _=>true|.int _,.non=>true|.non,.bl _=>true|.bl _,.non=>true|.non,.str _=>true|.str _,.non=>true
 |.int _,.int _=>true|.bl _,.bl _=>true|.str _,.str _=>true|.byt _,.byt _=>true
 |.int _,.str _=>true|.str _,.int _=>true|.bl _,.str _=>true|.str _,.bl _=>true
 |_,_=>false
def rEq:R2:=fun x y H Q=>NR x y=true/\Q (.bl (decide (x=y))) H
def rNe:R2:=fun x y H Q=>NR x y=true/\Q (.bl (!decide (x=y))) H
def EA {i j:Int}:decide (V.int i=V.int j)=(i==j):=by
 rw[Yc]
 simp
def GH {i j:Bool}:decide (V.bl i=V.bl j)=(i==j):=by
 rw[Yc]
 simp
def EJ {i j:Str}:decide (V.str i=V.str j)=(i==j):=by
 rw[Yc]
 simp
def EC {i j:Array UInt8}:decide (V.byt i=V.byt j)=(i.toList==j.toList):=by
 rw[Yc]
 cases i
 cases j
 simp
section
variable {X:Cx}{a b c:Expr}{ta tb tc:TE}{pos:Pos}
def bh {pins:List (Addr×Obj)}{σ:St}{H:Hp}{s:Bn}{Q:VK}{k k':Bool}(I:Inv X pins σ H s)(q:Q (.bl k) H)(e:k=k'):EP X pins σ Q (.bool k') s:=by
 subst e
 exact⟨.bl k,H,I,rfl,q⟩
def SG:OpR X (compareOp .Eq) rEq:=by
 intro pins s σ H x y v u Q I rx ry h
 obtain⟨hs,q⟩:=h
 cases x with
 |non=>
  subst rx
  cases y with
  |non=>subst ry;exact PySem.EqNone.eq_none_none (bh I q (by simp))
  |bl j=>subst ry;exact PySem.EqNone.eq_none_bool (bh I q (by simp))
  |int j=>obtain⟨t',rfl⟩:=ry;exact PySem.EqNone.eq_none_int (bh I q (by simp))
  |str j=>obtain⟨t',rfl⟩:=ry;exact PySem.EqNone.eq_none_str (bh I q (by simp))
  |_=>exact absurd (show false=true from hs) VF
 |bl i=>
  subst rx
  cases y with
  |non=>subst ry;exact PySem.EqNone.eq_bool_none (bh I q (by simp))
  |bl j=>subst ry;exact eq_bool (bh I q GH)
  |str j=>obtain⟨t',rfl⟩:=ry;exact acS (bh I q (by simp))
  |_=>exact absurd (show false=true from hs) VF
 |int i=>
  obtain⟨t,rfl⟩:=rx
  cases y with
  |non=>subst ry;exact PySem.EqNone.eq_int_none (bh I q (by simp))
  |int j=>obtain⟨t',rfl⟩:=ry;exact eq_int (bh I q EA)
  |str j=>obtain⟨t',rfl⟩:=ry;exact acR (bh I q (by simp))
  |_=>exact absurd (show false=true from hs) VF
 |str i=>
  obtain⟨t,rfl⟩:=rx
  cases y with
  |non=>subst ry;exact PySem.EqNone.eq_str_none (bh I q (by simp))
  |bl j=>subst ry;exact acQ (bh I q (by simp))
  |int j=>obtain⟨t',rfl⟩:=ry;exact acP (bh I q (by simp))
  |str j=>obtain⟨t',rfl⟩:=ry;exact eq_str (bh I q EJ)
  |_=>exact absurd (show false=true from hs) VF
 |byt i=>
  obtain⟨t,rfl⟩:=rx
  cases y with
  |byt j=>obtain⟨t',rfl⟩:=ry;exact W.eq_bytes (bh I q EC)
  |_=>exact absurd (show false=true from hs) VF
 |_=>cases y<;>exact absurd (show false=true from hs) VF
def Rv:OpR X (compareOp .NotEq) rNe:=by
 intro pins s σ H x y v u Q I rx ry h
 obtain⟨hs,q⟩:=h
 cases x with
 |non=>
  subst rx
  cases y with
  |non=>subst ry;exact PySem.EqNone.ne_none_none (bh I q (by simp))
  |bl j=>subst ry;exact PySem.EqNone.ne_none_bool (bh I q (by simp))
  |int j=>obtain⟨t',rfl⟩:=ry;exact PySem.EqNone.ne_none_int (bh I q (by simp))
  |str j=>obtain⟨t',rfl⟩:=ry;exact PySem.EqNone.ne_none_str (bh I q (by simp))
  |_=>exact absurd (show false=true from hs) VF
 |bl i=>
  subst rx
  cases y with
  |non=>subst ry;exact PySem.EqNone.ne_bool_none (bh I q (by simp))
  |bl j=>subst ry;exact ne_bool (bh I q (congrArg not GH))
  |str j=>obtain⟨t',rfl⟩:=ry;exact acO (bh I q (by simp))
  |_=>exact absurd (show false=true from hs) VF
 |int i=>
  obtain⟨t,rfl⟩:=rx
  cases y with
  |non=>subst ry;exact PySem.EqNone.ne_int_none (bh I q (by simp))
  |int j=>obtain⟨t',rfl⟩:=ry;exact ne_int (bh I q (congrArg not EA))
  |str j=>obtain⟨t',rfl⟩:=ry;exact acN (bh I q (by simp))
  |_=>exact absurd (show false=true from hs) VF
 |str i=>
  obtain⟨t,rfl⟩:=rx
  cases y with
  |non=>subst ry;exact PySem.EqNone.ne_str_none (bh I q (by simp))
  |bl j=>subst ry;exact acM (bh I q (by simp))
  |int j=>obtain⟨t',rfl⟩:=ry;exact acL (bh I q (by simp))
  |str j=>obtain⟨t',rfl⟩:=ry;exact ne_str (bh I q (congrArg not EJ))
  |_=>exact absurd (show false=true from hs) VF
 |byt i=>
  obtain⟨t,rfl⟩:=rx
  cases y with
  |byt j=>obtain⟨t',rfl⟩:=ry;exact W.ne_bytes (bh I q (congrArg not EC))
  |_=>exact absurd (show false=true from hs) VF
 |_=>cases y<;>exact absurd (show false=true from hs) VF
def RI:OpR X (compareOp .Lt) (rI0 fun i j=>.bl (decide (i<j))):=EZ fun a a a a a a a q=>lt_int q
def Sj:OpR X (compareOp .LtE) (rI0 fun i j=>.bl (decide (i<=j))):=EZ fun a a a a a a a q=>le_int q
def RW:OpR X (compareOp .Gt) (rI0 fun i j=>.bl (decide (j<i))):=EZ fun a a a a a a a q=>gt_int q
def Rg:OpR X (compareOp .GtE) (rI0 fun i j=>.bl (decide (j<=i))):=EZ fun a a a a a a a q=>ge_int q
def OQ:OpR X (compareOp .Is) (fun x y H Q=>y=.non/\Q (.bl (decide (x=.non))) H):=by
 intro pins s σ H x y v u Q I rx ry h
 obtain⟨rfl,q⟩:=h
 subst ry
 refine is_none_gen (bh I q ?_)
 cases x<;>first
  |(cases rx;rfl)
  |(obtain⟨t,rfl⟩:=rx;rfl)
def OpR.or {f:pz->pz->Sem pz}{r r':R2}(h:OpR X f r)(h':OpR X f r'):OpR X f (fun x y H Q=>r x y H Q\/r' x y H Q):=by
 intro pins s σ H x y v u Q I rx ry q
 rcases q with q|q
 ·exact h pins s σ H x y v u Q I rx ry q
 ·exact h' pins s σ H x y v u Q I rx ry q
def mF (b:Expr){op:abZ}(h:op≠.In:=by decide)(h2:op≠.NotIn:=by decide):behindInMarks op b=false:=by
 have e1:(op==CmpOp.In)=false:=by cases op<;>first|rfl|exact absurd rfl h
 have e2:(op==CmpOp.NotIn)=false:=by cases op<;>first|rfl|exact absurd rfl h2
 cases b<;>simp[behindInMarks,e1,e2]
def LY {op:abZ}{r:R2}(ho:OpR X (compareOp op) r)(ha:PE X a ta)(hb:PE X b tb)(hm:behindInMarks op b=false):PE X (.Compare a [op] [b] pos) (tOp r ta tb):=by
 intro pins s σ H Q I h
 exact wpAny_Compare1 (Jy ha hb I h fun v u s2 x y H2 I2 rx ry q=>ho pins s2 σ H2 x y v u Q I2 rx ry q) hm
def Pu (K:W.Frag)(x:V)(H:Hp)(k:Bool):Prop:=
 match x with
 |.non=>k=false
 |.bl b=>k=b
 |.int i=>k=(i !=0)
 |.str y=>y.length<=sizeLine/\k=((y.length:Int) !=0)
 |.byt y=>y.size<=sizeLine/\k=((y.size:Int) !=0)
 |.ref p=>(∃xs,SqL K H p xs/\k= !xs.isEmpty)\/(∃xs,SqT K H p xs/\k= !xs.isEmpty)\/∃kvs,H p=some (.dK kvs)/\k= !kvs.isEmpty
 |_=>False
def Fx {κ:Type}{kvs:List (κ×V)}{vs:List (κ×pz)}(r:KV kvs vs):(!vs.isEmpty)= !kvs.isEmpty:=by
 cases r<;>rfl
def xR {xs:List V}{its:List pz}(r:aU xs its):(!its.toArray.isEmpty)= !xs.isEmpty:=by
 cases r<;>simp
def rO:(sizeLine:Nat)<2^63:=by rw[VE];decide
def Qo:Uz X (fun x H Q=>∃k,Pu X.K x H k/\Q k H):=by
 intro pins s σ H x v Q I rx h
 obtain⟨k,e,q⟩:=h
 have hl:=rO
 have hs:sizeLine=16777216:=VE
 cases x with
 |non=>
  subst rx
  have e':k=false:=e
  subst e'
  exact truthy_none ⟨H,I,q⟩
 |bl b=>
  subst rx
  have e':k=b:=e
  subst e'
  exact Xz ⟨H,I,q⟩
 |int i=>
  obtain⟨t,rfl⟩:=rx
  have e':k=(i !=0):=e
  subst e'
  exact PySem.P.truthy_int ⟨H,I,q⟩
 |str y=>
  obtain⟨t,rfl⟩:=rx
  obtain⟨hy,e'⟩:y.length<=sizeLine/\k=((y.length:Int) !=0):=e
  subst e'
  exact PySem.P.truthy_str (by lia) ⟨H,I.tok _,q⟩
 |byt y=>
  obtain⟨t,rfl⟩:=rx
  obtain⟨hy,e'⟩:y.size<=sizeLine/\k=((y.size:Int) !=0):=e
  subst e'
  exact W.truthy_bytes (by lia) ⟨H,I.tok _,q⟩
 |ref p=>
  subst rx
  have e':(∃xs,SqL X.K H p xs/\k= !xs.isEmpty)\/(∃xs,SqT X.K H p xs/\k= !xs.isEmpty)\/∃kvs,H p=some (.dK kvs)/\k= !kvs.isEmpty:=e
  rcases e' with⟨xs,hx,e'⟩|⟨xs,hx,e'⟩|⟨kvs,hx,e'⟩
  ·subst e'
   obtain⟨its,r,pl,hz⟩:=I.list hx
   have hlen:=r.length
   exact wpAny_truthy_list pl.isList (by simp only[Vv];lia) ⟨H,I.tok _,by rw[xR r];exact q⟩
  ·subst e'
   obtain⟨its,r,pl,hz⟩:=I.tuple hx
   have hlen:=r.length
   exact truthy_tuple pl (by simp only[Vv];lia) ⟨H,I.tok _,by rw[xR r];exact q⟩
  ·subst e'
   obtain⟨hz,hS,vs,r,m⟩:kvs.length<=sizeLine/\(p==sysModules)=false/\∃vs,KV kvs vs/\s.heap.DictOf (bG X.prog X.w) p vs:=I.hok p _ hx
   have hlen:kvs.length=vs.length:=Paired.length r
   exact wpAny_truthy_dict hS m (by lia) ⟨H,I.tok _,by rw[Fx r];exact q⟩
 |_=>exact(show False from e).elim
def ES:OpR X (binaryOp .Add) (fun x y H Q=>∃i j,x=.str i/\y=.str j/\i.length+j.length<=sizeLine/\Q (.str (i++j)) H):=by
 intro pins s σ H x y v u Q I rx ry h
 obtain⟨i,j,rfl,rfl,hz,q⟩:=h
 obtain⟨t,rfl⟩:=rx
 obtain⟨t',rfl⟩:=ry
 exact add_str (fun t' tk=>⟨.str (i++j),H,I.tok _,⟨_,rfl⟩,q⟩) hz
def eC {x:V}{us:List pz}(r:aU [x] us):∃u,us=[u]/\aL x u:=by
 cases r with
 |cons r1 r2=>cases r2;exact⟨_,rfl,r1⟩
def wN {x y:V}{us:List pz}(r:aU [x,y] us):∃u w',us=[u,w']/\aL x u/\aL y w':=by
 cases r with
 |cons r1 r2=>
  cases r2 with
  |cons r3 r4=>cases r4;exact⟨_,_,rfl,r1,r3⟩
def HB (hc:X.calm=true):bq X (.builtin "min") (fun xs H Q=>∃i j,xs=[.int i,.int j]/\Q (.int (if j<i then j else i)) H):=by
 intro pins s σ H xs us Q I r h
 obtain⟨i,j,rfl,q⟩:=h
 obtain⟨u,w',rfl,⟨t,rfl⟩,⟨t',rfl⟩⟩:=wN r
 refine min_two_ints (I.ok.hd hc) fun h' tk k=>⟨_,H,I.kept k,?_,q⟩
 by_cases hj:j<i
 ·rw[if_pos hj,if_pos hj];exact⟨_,rfl⟩
 ·rw[if_neg hj,if_neg hj];exact⟨_,rfl⟩
def CI:bq X (.type "str") (fun xs H Q=>∃i,xs=[.int i]/\i.natAbs.log2<1920/\Q (.str (toString i)) H):=by
 intro pins s σ H xs us Q I r h
 obtain⟨i,rfl,hz,q⟩:=h
 obtain⟨u,rfl,t,rfl⟩:=eC r
 exact PySem.P.str_of_int hz ⟨.str _,H,I.tok _,⟨_,rfl⟩,q⟩
def IJ:bq X (.builtin "ord") (fun xs H Q=>∃x,xs=[.str x]/\x.length=1/\Q (.int (x.cps.getD 0 0:Nat)) H):=by
 intro pins s σ H xs us Q I r h
 obtain⟨x,rfl,hz,q⟩:=h
 obtain⟨u,rfl,t,rfl⟩:=eC r
 exact ord_of_one hz ⟨.int _,H,I.tok _,⟨_,rfl⟩,q⟩
def Vk (K:W.Frag)(x:V)(H:Hp)(n:Nat):Prop:=
 match x with
 |.str y=>y.length<=sizeLine/\n=y.length
 |.byt y=>y.size<=sizeLine/\n=y.size
 |.ref p=>(∃xs,SqL K H p xs/\n=xs.length)\/∃xs,SqT K H p xs/\n=xs.length
 |_=>False
def vy:bq X (.builtin "len") (fun xs H Q=>∃x n,xs=[x]/\Vk X.K x H n/\Q (.int n) H):=by
 intro pins s σ H xs us Q I r h
 obtain⟨x,n,rfl,e,q⟩:=h
 obtain⟨u,rfl,rx⟩:=eC r
 have hl:=rO
 have hs:sizeLine=16777216:=VE
 cases x with
 |str y=>
  obtain⟨t,rfl⟩:=rx
  obtain⟨hy,e'⟩:y.length<=sizeLine/\n=y.length:=e
  subst e'
  exact len_str (by lia) ⟨.int _,H,I.tok _,⟨_,rfl⟩,q⟩
 |byt y=>
  obtain⟨t,rfl⟩:=rx
  obtain⟨hy,e'⟩:y.size<=sizeLine/\n=y.size:=e
  subst e'
  exact W.len_bytes (by lia) ⟨.int _,H,I.tok _,⟨_,rfl⟩,q⟩
 |ref p=>
  subst rx
  have e':(∃xs,SqL X.K H p xs/\n=xs.length)\/∃xs,SqT X.K H p xs/\n=xs.length:=e
  rcases e' with⟨xs,hx,e'⟩|⟨xs,hx,e'⟩
  ·subst e'
   obtain⟨its,r',pl,hz⟩:=I.list hx
   have hlen:=r'.length
   exact Calls.call_len_list pl.isList (by simp only[Vv];lia) ⟨.int xs.length,H,I.tok _,⟨_,by simp only[Vv];rw[hlen]⟩,q⟩
  ·subst e'
   obtain⟨its,r',pl,hz⟩:=I.tuple hx
   have hlen:=r'.length
   exact len_tuple pl (by simp only[Vv];lia) ⟨.int xs.length,H,I.tok _,⟨_,by simp only[Vv];rw[hlen]⟩,q⟩
 |_=>exact(show False from e).elim
end
structure vO (h:Heap)(x dx C:Addr)(mA:Str->Option pz):Prop where
 obj:h.get? x=some (W.instObj C dx)
 ns:h.Ns1 dx mA
 ne:dx≠x
def HC {h:Heap}{dx:Addr}{mA:Str->Option pz}(n:h.Ns1 dx mA):∃od,h.get? dx=some od/\∀name,W.lookIn name od=some (mA name):=by
 obtain⟨o,es,ep,ho,hd,hk,_,hm⟩:=n
 refine⟨o,ho,fun name=>?_⟩
 have e:=hm name
 unfold nsFind findBy at e
 rw[<-Array.find?_toList]at e
 unfold W.lookIn
 rw[hd]
 dsimp only
 split
 ·rename_i y q
  rw[q]at e
  exact congrArg some e
 ·rename_i q
  rw[q]at e
  have a:es.toList.any (·.refKey)=false:=by
   rw[List.any_eq_false]
   intro y hy
   obtain⟨z,t,hkey⟩:=hk y (Array.mem_toList_iff.mp hy)
   simp[DictEntry.refKey,hkey]
  have a':¬es.toList.any (·.refKey)=true:=by rw[a];exact VF
  rw[if_neg a']
  exact congrArg some e
def vO.look {h:Heap}{x dx C:Addr}{mA:Str->Option pz}(I:vO h x dx C mA):∃od,W.InstAt h x (W.instObj C dx) C (some od)/\∀name,W.lookIn name od=some (mA name):=
 let ⟨od,ho,hl⟩:=HC I.ns
 ⟨od,⟨I.obj,rfl,rfl,ho⟩,hl⟩
section
variable {prog:VM}{w:Wm}{A:Wj}{E:pz->Bn->Prop}{s:Bn}{K:W.Frag}{x dx C f:Addr}{mA:Str->Option pz}{name:Str}{v:pz}
def Lz {expr:Bool}{Q:pz->Bn->Prop}(X:K.In s.heap)(I:vO s.heap x dx C mA)(hg:W.plainGet K C name=true)(hh:W.hasDictIn K C=true)
  (ha:W.findIn K (.ref C) name=some none)(hv:mA name=some v)(hv':W.handedIn v=true)(h:Q v {s with toks:=s.toks+1}):
  wpAny (model prog w) A (getAttr (.ref x) name expr) Q E s:=by
 obtain⟨od,J,hl⟩:=I.look
 exact W.get_value X J (W.plainGet_of hg).1 (W.findObj_own hh ha rfl (by rw[hl,hv])) hv' h
def JQ {pl:Sem Bool}{Q:pz×List pz->Bn->Prop}(X:K.In s.heap)(I:vO s.heap x dx C mA)(hg:W.plainGet K C name=true)
  (hf:W.findIn K (.ref C) name=some (some (.ref f)))(ht:W.isFn K (.ref f)=true)(hv:mA name=none)(h:Q (.ref f,[.ref x]) s):
  wpAny (model prog w) A (getMethod (.ref x) name pl) Q E s:=by
 obtain⟨od,J,hl⟩:=I.look
 exact W.method_fn X J (W.plainGet_of hg).1 (W.plainGet_of hg).2 hf (beq_iff_eq.mp ht) (by show(W.lookIn name od).map (·.isSome)=some false;rw[hl,hv];rfl) h
def LN {ns:List Str}{Q:Unit->Bn->Prop}(X:K.In s.heap)(I:vO s.heap x dx C mA)
  (hs:W.findIn K (.ref C) "__setattr__"=some (some (.builtin "object.__setattr__")))(hp:W.plainOver K C=true)(ht:W.takerIn K C name=some none)(hh:W.hasDictIn K C=true)
  (hw:aaX mA ns)(hsz:ns.length<=sizeLine)
  (h:∀h',vO h' x dx C (fun y=>if y=name then some v else mA y)->XF dx s.heap h'->Q () {s with heap:=h',toks:=s.toks+2}):
  wpAny (model prog w) A (setAttr (.ref x) name v) Q E s:=by
 obtain⟨od,J,hl⟩:=I.look
 refine W.set_plain X J hs (W.osa_open (s:={s with toks:=s.toks+1}) (r:=none) X J hp ht fun b=>?_)
 obtain⟨cd,hc,hd'⟩:=W.any_some hh
 have hx:s.heap.get? x=some ⟨.ref C,some dx,.plain,#[]⟩:=I.obj
 refine pv (Vt (pv (pv (wpAny_loadPart hx (pv (W.Looks.here (s:={s with toks:=s.toks+1}) (W.looks_clsIn X hc) ?_))))))
 rw[hd']
 refine Vt (a:=some dx) (pv (Vt (pv ?_)))
 refine wpAny_nsSet1 (s:={s with toks:=s.toks+1}) I.ns fun h' hn2 hs2=>?_
 obtain⟨oD,esD,epD,hoD,hdD,hcD⟩:=hn2.count (PySem.Within.cons name v hw)
 refine pv (wpAny_lookBehind hoD (by rw[hdD];exact pastItsLine_dict (VO hcD (by rw[VS];lia))) ?_)
 exact Vt (h _ ⟨(hs2.2 _ (ab I.ne)).trans I.obj,hn2,I.ne⟩ hs2)
def Jz {R:abp->Bn->Prop}{vs:List pz}{kw:List (Str×pz)}(X:K.In s.heap)(hm:W.makesIn K C=true)
  (hi:W.findIn K (.ref C) "__init__"=some (some (.ref f)))(hf:W.typeIn K (.ref f)=some (.type "function"))
  (h:codeAny (model prog w) (A.under (.builtin "type.__call__" ⟨.ref C::vs,kw⟩)) (.call (.ref f) ⟨.ref (s.heap.objs.size+1)::vs,kw⟩) (W.InitBack (s.heap.objs.size+1) R)
   {s with heap:=(s.heap.push W.emptyDict).push (W.instObj C s.heap.objs.size)}):
  codeAny (model prog w) A (.call (.ref C) ⟨vs,kw⟩) R s:=by
 obtain⟨hh,g,d,t,os⟩:=s
 exact W.make_core (W.makes_of X hm) (W.looks_findIn X hi) (fun self=>W.bind_fn X self hf) (.inl rfl) h
end
noncomputable def putF (f:Str)(v:V):List (Str×V)->List (Str×V)
 |[]=>[(f,v)]
 |(g,x)::r=>if g=f then(g,v)::r else(g,x)::putF f v r
theorem uT (f g:Str)(v:V):∀fs:List (Str×V),(putF f v fs).lookup g=if g=f then some v else fs.lookup g
 |[]=>by
  show Xo g [(f,v)]=_
  by_cases h:g=f
  ·have hb:(g==f)=true:=beq_iff_eq.mpr h
   simp only[Xo,hb,if_pos h]
  ·have hb:(g==f)=false:=beq_eq_false_iff_ne.mpr h
   simp only[Xo,hb,if_neg h]
 |(k,x)::r=>by
  have ih:=uT f g v r
  rw[show putF f v ((k,x)::r)=(if k=f then(k,v)::r else(k,x)::putF f v r)from rfl]
  by_cases hk:k=f
  ·rw[if_pos hk]
   by_cases h:g=k
   ·have hb:(g==k)=true:=beq_iff_eq.mpr h
    simp only[Xo,hb,if_pos (h.trans hk)]
   ·have hb:(g==k)=false:=beq_eq_false_iff_ne.mpr h
    simp only[Xo,hb,if_neg (fun e:g=f=>h (e.trans hk.symm))]
  ·rw[if_neg hk]
   by_cases h:g=k
   ·have hb:(g==k)=true:=beq_iff_eq.mpr h
    simp only[Xo,hb,if_neg (fun e:g=f=>hk (h.symm.trans e))]
   ·have hb:(g==k)=false:=beq_eq_false_iff_ne.mpr h
    simp only[Xo,hb]
    exact ih
theorem rL (f:Str)(v:V):∀fs:List (Str×V),f∈(putF f v fs).map (·.1)/\∀g,g∈fs.map (·.1)->g∈(putF f v fs).map (·.1)
 |[]=>⟨by simp[putF],fun g h=>by simp at h⟩
 |(k,x)::r=>by
  obtain⟨i1,i2⟩:=rL f v r
  rw[show putF f v ((k,x)::r)=(if k=f then(k,v)::r else(k,x)::putF f v r)from rfl]
  by_cases hk:k=f
  ·rw[if_pos hk]
   subst hk
   exact⟨by simp,fun g h=>by simpa using h⟩
  ·rw[if_neg hk]
   refine⟨?_,fun g h=>?_⟩
   ·rw[VI]
    exact Vu _ i1
   ·rw[VI]at h⊢
    rcases tx.mp h with e|e
    ·exact tx.mpr (.inl e)
    ·exact Vu _ (i2 g e)
theorem uC (f:Str)(v:V):∀fs:List (Str×V),(putF f v fs).length<=fs.length+1
 |[]=>by simp[putF]
 |(k,x)::r=>by
  have ih:=uC f v r
  rw[show putF f v ((k,x)::r)=(if k=f then(k,v)::r else(k,x)::putF f v r)from rfl]
  by_cases hk:k=f
  ·rw[if_pos hk,VS,VS];lia
  ·rw[if_neg hk,VS,VS];lia
def bE.some_of {v:V}{o:Option pz}(r:bE (some v) o):∃u,o=some u/\aL v u:=by
 cases o with
 |none=>exact(show False from r).elim
 |some u=>exact⟨u,rfl,r⟩
def bE.none_of {o:Option pz}(r:bE none o):o=none:=by
 cases o with
 |none=>rfl
 |some u=>exact(show False from r).elim
def Hv {v:V}{u:pz}(r:aL v u):W.handedIn u=true:=by
 cases v with
 |non=>obtain rfl:u=Xb:=r;rfl
 |bl b=>obtain rfl:u=Xe b:=r;rfl
 |int i=>obtain⟨t,e⟩:=(show ∃t,u=YC i t from r);subst e;rfl
 |str x=>obtain⟨t,e⟩:=(show ∃t,u=XY x t from r);subst e;rfl
 |byt b=>obtain⟨t,e⟩:=(show ∃t,u=acI b t from r);subst e;rfl
 |flt b=>obtain⟨t,e⟩:=(show ∃t,u=abg b t from r);subst e;rfl
 |ref a=>obtain rfl:u=Lt a:=r;rfl
 |ty n=>obtain rfl:u=XH n:=r;rfl
section
variable {P:VM}{w:Wm}{H H':Hp}{h h':Heap}{a C dx:Addr}{fs fs':List (Str×V)}
def jw (hok:HOk P w H h)(e:H a=some (.ins C dx fs)):∃mA,vO h a dx C mA/\(∀f,bE (fs.lookup f) (mA f))/\aaX mA (fs.map (·.1))/\fs.length<=1000/\H dx=some (.own a):=by
 obtain⟨d,z,ne,ob,mA,n,r,q⟩:=(show ba P w H h a (.ins C dx fs)from hok a _ e)
 exact⟨mA,⟨ob,n,ne⟩,r,q,z,d⟩
end
structure Cls (K:W.Frag)(C:Addr):Prop where
 pg:W.plainGet K C XA=true
 hd:W.hasDictIn K C=true
 po:W.plainOver K C=true
 sa:W.findIn K (.ref C) "__setattr__"=some (some (.builtin "object.__setattr__"))
def Cls.get {K:W.Frag}{C:Addr}(c:Cls K C)(f:Str):W.plainGet K C f=true:=c.pg
def aH (K:W.Frag)(C:Addr)(f:Str):Prop:=W.findIn K (.ref C) f=some none
def aH.taker {K:W.Frag}{C:Addr}{f:Str}(n:aH K C f):W.takerIn K C f=some none:=by
 unfold W.takerIn
 rw[show W.findIn K (.ref C) f=some none from n]
 rfl
structure bu (K:W.Frag)(C:Addr)(m:Str)(f:Addr):Prop where
 at_:W.findIn K (.ref C) m=some (some (.ref f))
 fn:W.isFn K (.ref f)=true
 kp:W.keepIn K (.ref f)=true
section
variable {X:Cx}{pins:List (Addr×Obj)}{σ:St}{H:Hp}{s:Bn}{a C dx:Addr}{fs:List (Str×V)}{f:Str}{v:V}{A:Wj}{E:pz->Bn->Prop}
def xl {b:Bool}{Q:pz->Bn->Prop}(I:Inv X pins σ H s)(e:H a=some (.ins C dx fs))(c:Cls X.K C)(n:aH X.K C f)(l:fs.lookup f=some v)
  (h:∀u s',Inv X pins σ H s'->aL v u->Q u s'):wpAny (model X.prog X.w) A (getAttr (.ref a) f b) Q E s:=by
 obtain⟨mA,O,r,d,d,d⟩:=jw I.hok e
 obtain⟨u,hu,ru⟩:=bE.some_of (v:=v) (o:=mA f) (by rw[<-l];exact r f)
 exact Lz I.kIn O (c.get f) c.hd n hu (Hv ru) (h u _ (I.tok _) ru)
def ye {m:Str}{g:Addr}{pl:Sem Bool}{Q:pz×List pz->Bn->Prop}(I:Inv X pins σ H s)(e:H a=some (.ins C dx fs))(c:Cls X.K C)(k:bu X.K C m g)(l:fs.lookup m=none)
  (h:Q (.ref g,[.ref a]) s):wpAny (model X.prog X.w) A (getMethod (.ref a) m pl) Q E s:=by
 obtain⟨mA,O,r,b,b,b⟩:=jw I.hok e
 have hn:mA m=none:=bE.none_of (by rw[<-l];exact r m)
 exact JQ I.kIn O (c.get m) k.at_ k.fn hn h
def FX {y:V}{u:pz}{Q:Unit->Bn->Prop}(I:Inv X pins σ H s)(e:H a=some (.ins C dx fs))(c:Cls X.K C)(n:aH X.K C f)(hl:fs.length<1000)(ry:aL y u)
  (h:∀s',Inv X pins σ (upd H a (.ins C dx (putF f y fs))) s'->Q () s'):wpAny (model X.prog X.w) A (setAttr (.ref a) f u) Q E s:=by
 obtain⟨mA,O,r,wi,d,ho⟩:=jw I.hok e
 have hz:(fs.map (·.1)).length<=sizeLine:=by rw[Vy,VE];lia
 refine LN I.kIn O c.sa c.po n.taker c.hd wi hz fun h' O' sb=>h _ ?_
 have hd:∃o,h'.get? dx=some o:=let ⟨o,_,_,e',_⟩:=O'.ns;⟨o,e'⟩
 refine I.write (x:=a) (e:=dx) (by rw[e];exact Xk) (.inr ho) (fun b q hb z=>(sb.2 b hb).trans z) hd ?_
 refine⟨by rw[ay O.ne];exact ho,?_,O.ne,O'.obj,_,O'.ns,fun g=>?_,fun g hg=>?_⟩
 ·have:=uC f y fs;lia
 ·show bE ((putF f y fs).lookup g) (if g=f then some u else mA g)
  rw[uT]
  by_cases q:g=f
  ·rw[if_pos q,if_pos q];exact ry
  ·rw[if_neg q,if_neg q];exact r g
 ·by_cases q:g=f
  ·rw[q];exact(rL f y fs).1
  ·refine(rL f y fs).2 g (wi g fun z=>hg ?_)
   show(if g=f then some u else mA g)=none
   rw[if_neg q];exact z
def Inv.made (I:Inv X pins σ H s):Inv X pins σ (upd (upd H s.heap.objs.size (.own (s.heap.objs.size+1))) (s.heap.objs.size+1) (.ins C s.heap.objs.size []))
  {s with heap:=(s.heap.push W.emptyDict).push (W.instObj C s.heap.objs.size)}:=by
 have e1:(s.heap.push W.emptyDict).get? s.heap.objs.size=some W.emptyDict:=Vr s.heap rfl
 have e2:((s.heap.push W.emptyDict).push (W.instObj C s.heap.objs.size)).get? (s.heap.objs.size+1)=some (W.instObj C s.heap.objs.size):=by
  have:=Vr (s.heap.push W.emptyDict) (o:=W.instObj C s.heap.objs.size) rfl
  rwa [WD]at this
 have e3:(s.heap.push W.emptyDict).Ns s.heap.objs.size (fun c=>none):=⟨W.emptyDict,#[],_,e1,rfl,(fun e he=>absurd he (by simp)),fun c=>rfl⟩
 have I1:=I.laid (a:=s.heap.objs.size) (o:=.own (s.heap.objs.size+1)) (h':=s.heap.push W.emptyDict) (t':=s.toks) (fun b u q=>gV _ q) (sn _) ⟨_,e1⟩
 refine I1.laid (a:=s.heap.objs.size+1) (o:=.ins C s.heap.objs.size []) (t':=s.toks) (fun b u q=>gV _ q) (YL (WD _ _)) ?_
 have ne:s.heap.objs.size≠s.heap.objs.size+1:=VD (Wx _)
 refine⟨by rw[ay ne,aT],VW _,ne,e2,fun c=>none,(Heap.Ns1.of_empty e3).at fun o q=>gV _ q,fun c=>Xk,fun y hy=>absurd rfl hy⟩
def MZ {prog:VM}{w:Wm}{env:Env}{e:Expr}{f:Str}{pos:Pos}{s:Bn}{Q:pz->Bn->Prop}(hb:attributeBase e f env (eval e env)=eval e env)
  (h:wpAny (model prog w) A (eval e env) (fun o s₁=>wpAny (model prog w) A (getAttr o f true) Q E s₁) E s):wpAny (model prog w) A (eval (.Attribute e f pos) env) Q E s:=
 Attribute_any_ h (by rw[arm_eval_Attribute,hb])
end
def PX (K:W.Frag)(ta:TE)(f:Str):TE:=fun σ H Q=>ta σ H fun x H1=>∃a C dx fs v,x=.ref a/\H1 a=some (.ins C dx fs)/\Cls K C/\aH K C f/\fs.lookup f=some v/\Q v H1
def Je (K:W.Frag)(ta tv:TE)(f:Str):TS:=fun D σ H=>tv σ H fun y H1=>ta σ H1 fun x H2=>∃a C dx fs,x=.ref a/\H2 a=some (.ins C dx fs)/\Cls K C/\aH K C f/\fs.length<1000/\
 D.nx σ (upd H2 a (.ins C dx (putF f y fs)))
section
variable {X:Cx}{o e value:Expr}{f:Str}{pos pos' tpos:Pos}{ta tv:TE}
def OD (he:PE X e ta)(hb:attributeBase e f X.env (eval e X.env)=eval e X.env):PE X (.Attribute e f pos) (PX X.K ta f):=by
 intro pins s σ H Q I h
 refine MZ hb (thn (he pins s σ H _ I h) fun u s1 ⟨x,H1,I1,rx,a,C,dx,fs,v,ex,ea,c,n,l,q⟩=>?_)
 subst ex
 obtain rfl:u=Lt a:=rx
 exact xl I1 ea c n l fun u' s2 I2 ru=>⟨v,H1,I2,ru,q⟩
def On (ha:PE X o ta)(hv:PE X value tv)(hs:swapsWith value (some (.Attribute o f pos')) pos.line X.env=pure false):PS X (.Assign [.Attribute o f pos'] value pos) (Je X.K ta tv f):=by
 intro pins s σ H D I h
 refine plainObj_wpAny_Assign_Attribute (thn (hv pins s σ H _ I h) fun u s1 ⟨y,H1,I1,ry,q⟩=>thn (ha pins s1 σ H1 _ I1 q) fun ov s2 ⟨x,H2,I2,rx,a,C,dx,fs,ex,ea,c,n,l,q2⟩=>?_) hs
 subst ex
 obtain rfl:ov=Lt a:=rx
 exact FX I2 ea c n l ry fun s3 I3=>⟨σ,_,I3,q2⟩
end
section
variable {X:Cx}{pins:List (Addr×Obj)}{σ:St}{H:Hp}{s:Bn}{A:Wj}{E:pz->Bn->Prop}{Q:pz->Bn->Prop}{c:pz}{b:Bool}
inductive gI (K:W.Frag)(H:Hp):V->pz->Prop where
 |non:gI K H .non (.type "NoneType")
 |bl (x:Bool):gI K H (.bl x) (.type "bool")
 |int (i:Int):gI K H (.int i) (.type "int")
 |str (x:Str):gI K H (.str x) (.type "str")
 |flt (x:UInt64):gI K H (.flt x) (.type "float")
 |lst {a:Addr} {xs:List V} (e:H a=some (.lst xs)):gI K H (.ref a) (.type "list")
 |frz {a:Addr} {o:Obj} {xs:List V} (e:H a=some (.frz o (.lst xs))):gI K H (.ref a) (.type "list")
 |tup {a:Addr} {xs:List V} (e:H a=some (.tup xs)):gI K H (.ref a) (.type "tuple")
 |dK {a:Addr} {kvs:List (Key×V)} (e:H a=some (.dK kvs)):gI K H (.ref a) (.type "dict")
 |dT {a:Addr} {kvs:List (List Key×V)} (e:H a=some (.dT kvs)):gI K H (.ref a) (.type "dict")
 |ins {a C dx:Addr} {fs:List (Str×V)} (e:H a=some (.ins C dx fs)) (cl:Cls K C) (ha:W.findIn K (.ref C) "__class__"=some (some (.builtin "object.__class__")))
  (hn:W.specialIn K (.builtin "object.__class__") "__get__"=some (some (.builtin "getset_descriptor.__get__"))) (htk:W.takesIn K (.builtin "object.__class__")=some true)
  (hm:W.mroIn K C (.type "object")=some true):gI K H (.ref a) (.ref C)
def Iu {x:V}{u t:pz}(I:Inv X pins σ H s)(rx:aL x u)(ty:gI X.K H x t)(e:W.kitOne X.K t c=some b)(h:∀tk,Q (.bool b) {s with toks:=tk}):
  wpAny (model X.prog X.w) A (call (.builtin "isinstance") [u,c]) Q E s:=by
 cases ty with
 |non=>obtain rfl:u=Xb:=rx;exact W.kia_one W.kitx_none I.kIn Xk e (fun z=>nomatch z) h
 |bl y=>obtain rfl:u=Xe y:=rx;exact W.kia_one W.kitx_bool I.kIn Xk e (fun z=>nomatch z) h
 |int i=>obtain⟨t,q⟩:=(show ∃t,u=YC i t from rx);subst q;exact W.kia_one W.kitx_int I.kIn Xk e (fun z=>nomatch z) h
 |str y=>obtain⟨t,q⟩:=(show ∃t,u=XY y t from rx);subst q;exact W.kia_one W.kitx_str I.kIn Xk e (fun z=>nomatch z) h
 |flt y=>obtain⟨t,q⟩:=(show ∃t,u=abg y t from rx);subst q;exact W.kia_one W.kitx_float I.kIn Xk e (fun z=>nomatch z) h
 | @lst a xs ea=>
   obtain rfl:u=Lt a:=rx
   obtain⟨d,d,n,d,h1⟩:=(show ba X.prog X.w H s.heap a (.lst xs)from I.hok a _ ea)
   exact W.kia_one W.kitx_list I.kIn ⟨_,h1,rfl⟩ e (fun z=>nomatch z) h
 | @frz a ob xs ea=>
   obtain rfl:u=Lt a:=rx
   obtain⟨d,d,d,n,d,h1⟩:=(show ba X.prog X.w H s.heap a (.frz ob (.lst xs))from I.hok a _ ea)
   exact W.kia_one W.kitx_list I.kIn ⟨_,h1,rfl⟩ e (fun z=>nomatch z) h
 | @tup a xs ea=>
   obtain rfl:u=Lt a:=rx
   obtain⟨d,d,d,p⟩:=(show ba X.prog X.w H s.heap a (.tup xs)from I.hok a _ ea)
   obtain⟨o,h1,h2,d⟩:=p
   exact W.kia_one W.kitx_tuple I.kIn ⟨o,h1,h2⟩ e (fun z=>nomatch z) h
 | @dK a kvs ea=>
   obtain rfl:u=Lt a:=rx
   obtain⟨d,d,vs,d,p⟩:=(show ba X.prog X.w H s.heap a (.dK kvs)from I.hok a _ ea)
   obtain⟨o,es,ep,h1,h2,d⟩:=p
   exact W.kia_one W.kitx_dict I.kIn ⟨o,h1,h2.1⟩ e (fun z=>nomatch z) h
 | @dT a kvs ea=>
   obtain rfl:u=Lt a:=rx
   obtain⟨d,d,xs,d,o,es,ep,h1,h2,d⟩:=(show ba X.prog X.w H s.heap a (.dT kvs)from I.hok a _ ea)
   exact W.kia_one W.kitx_dict I.kIn ⟨o,h1,h2.1⟩ e (fun z=>nomatch z) h
 | @ins a C dx fs ea cl ha hn htk hm=>
   obtain rfl:u=Lt a:=rx
   obtain⟨mA,O,d⟩:=jw I.hok ea
   obtain⟨od,J,d⟩:=O.look
   exact W.kia_one (W.kitx_own (cl.get _) cl.hd ha hn htk hm) I.kIn J e (fun z=>nomatch z) h
end
structure aZ (k:Nat)(A:Wj):Prop where
 hd:A.handled=none
 dp:A.depth+3*k+5<recursionLimit
 un:A.units+16*k+200<cLine
def aZ.mono {j k:Nat}{A:Wj}(r:aZ k A)(h:j<=k):aZ j A:=⟨r.hd,by have:=r.dp;lia,by have:=r.un;lia⟩
def aZ.deeper {k:Nat}{A:Wj}(r:aZ (k+1) A)(env:Env):aZ k (A.deeper env):=
 ⟨r.hd,by have:=r.dp;show A.depth+1+3*k+5<_;lia,by have:=r.un;show A.units+3+16*k+200<_;lia⟩
def FT {A:Wj}{C:Addr}{us:List pz}{kw:List (Str×pz)}:(A.under (.builtin "type.__call__" ⟨.ref C::us,kw⟩)).depth=A.depth+1:=by
 first|rfl|simp[aaR,Code.weight,Code.isCreation,Code.isGuard,Code.isCaller,Code.frames,aa4,guardIds]
def FM {A:Wj}{C:Addr}{us:List pz}{kw:List (Str×pz)}:(A.under (.builtin "type.__call__" ⟨.ref C::us,kw⟩)).units=A.units+1:=by
 first|rfl|simp[aaR,Code.cUnits,Code.frames,aa4]
def aZ.make {k:Nat}{A:Wj}(r:aZ (k+1) A)(C:Addr)(us:List pz)(kw:List (Str×pz)):aZ k (A.under (.builtin "type.__call__" ⟨.ref C::us,kw⟩)):=
 ⟨r.hd,by have:=r.dp;rw[FT];lia,by have:=r.un;rw[FM];lia⟩
def aZ.depth {k:Nat}{A:Wj}(r:aZ k A):A.depth<recursionLimit:=by have:=r.dp;lia
def ph:TA:=fun a H Q=>Q [] H
def FD (ta:TE)(tr:TA):TA:=fun σ H Q=>ta σ H fun x H1=>tr σ H1 fun xs H2=>Q (x::xs) H2
section
variable {X:Cx}{e:Expr}{es:List Expr}{te:TE}{t:TA}{pos:Pos}
def NA:PA X [] ph:=fun a a a a H Q I h=>ZX ⟨[],H,I,.nil,h⟩
def Ls (ha:PE X e te)(hr:PA X es t)(hs:starEach (e::es) X.env=(false,eval e X.env)::starEach es X.env:=by rfl):PA X (e::es) (FD te t):=by
 intro pos pins s σ H Q I h
 rw[hs]
 show wpAny _ _ (spliced ((false,eval e X.env)::backTo pos (starEach es X.env))) _ _ s
 refine ZK (thn (ha pins s σ H _ I h) fun u s1 ⟨x,H1,I1,r1,q1⟩=>?_)
 exact thn (hr pos pins s1 σ H1 _ I1 q1) fun us s2 ⟨xs,H2,I2,r2,q2⟩=>⟨x::xs,H2,I2,.cons r1 r2,q2⟩
def PK (t:TA):TE:=fun σ H Q=>t σ H fun xs H1=>xs.length<=sizeLine/\∀p,H1 p=none->Q (.ref p) (upd H1 p (.tup xs))
def PD (t:TA):TE:=fun σ H Q=>t σ H fun xs H1=>xs.length<=sizeLine/\∀p,H1 p=none->Q (.ref p) (upd H1 p (.lst xs))
def Oi {x1}(h:PA X es t):PE X (.Tuple es x1 pos) (PK t):=by
 intro pins s σ H Q I hq
 refine wpAny_Tuple_spliced (thn (h pos pins s σ H _ I hq) fun us s1 ⟨xs,H1,I1,r,z,q⟩=>⟨by rw[<-r.length];exact z,?_⟩)
 have hf:H1 s1.heap.objs.size=none:=I1.hok.fresh (sn _)
 refine⟨.ref s1.heap.objs.size,upd H1 s1.heap.objs.size (.tup xs),I1.laid (t':=s1.toks) (fun b u e=>gV _ e) (sn _) ?_,rfl,q _ hf⟩
 exact⟨z,us,r,⟨_,Vr _ rfl,rfl,_,rfl⟩⟩
def QD (h:PA X es t):PE X (.List es pos) (PD t):=by
 intro pins s σ H Q I hq
 refine wpAny_List_spliced (thn (h pos pins s σ H _ I hq) fun us s1 ⟨xs,H1,I1,r,z,q⟩=>⟨by rw[<-r.length];exact z,?_⟩)
 have hf:H1 s1.heap.objs.size=none:=I1.hok.fresh (sn _)
 refine⟨.ref s1.heap.objs.size,upd H1 s1.heap.objs.size (.lst xs),I1.laid (t':=s1.toks) (fun b u e=>gV _ e) (sn _) ?_,rfl,q _ hf⟩
 exact⟨z,us,0,r,Vr _ rfl⟩
end
abbrev Sp:=List V->Hp->VK->XK->Prop
abbrev CXT:=List Env->Hp->Bn->XK->pz->Bn->Prop
structure oQ (P:VM)(w:Wm)(K:W.Frag)(mg:Str->Option pz)(base:Heap)(A:Wj)(outer:List Env)(s:Bn)(H:Hp):Prop where
 frames:A.frames=some outer
 mod:Mod K mg base
 bs:∀b o,base.get? b=some o->s.heap.get? b=some o/\H b=none
 bsz:base.objs.size<=s.heap.objs.size
 funs:s.heap.FunFrames base outer
 frf:∀b∈frs outer,H b=none
 hok:HOk P w H s.heap
 bare:Zn s.gens
def CE (outer:List Env)(P:VM)(w:Wm)(H:Hp)(s:Bn)(Q:VK)(u:pz)(s':Bn):Prop:=
 ∃v H',s'.os=s.os/\Zn s'.gens/\Un (frs outer) [] H H' s.heap s'.heap/\HOk P w H' s'.heap/\aL v u/\Q v H'
def CR (CX:CXT)(outer:List Env)(P:VM)(w:Wm)(H:Hp)(s:Bn)(Q:VK)(E:XK)(r:abp)(s':Bn):Prop:=
 match r with
 |.ok (.ret u)=>CE outer P w H s Q u s'
 |.ok _=>False
 |.error e=>CX outer H s E e s'
structure cy (P:VM)(w:Wm)(K:W.Frag)(mg:Str->Option pz)(base:Heap)(CX:CXT)(k:Nat)(f:Addr)(fd:Gt)(ps:List Str)(sp:Sp):Prop where
 len:∀vs H Q E,sp vs H Q E->vs.length=ps.length
 run:∀(A:Wj)(outer:List Env)(s:Bn)(H:Hp)(args:Args)(us:List pz)(vs:List V)(Q:VK)(E:XK),aZ k A->oQ P w K mg base A outer s H->abB s fd args (ps.zip us)->aU vs us->sp vs H Q E->
  codeAny (model P w) A (.call (.ref f) args) (CR CX outer P w H s Q E) s
def oQ.make {P:VM}{w:Wm}{K:W.Frag}{mg:Str->Option pz}{base:Heap}{A:Wj}{outer:List Env}{s:Bn}{H:Hp}(e:oQ P w K mg base A outer s H)(C:Addr)(us:List pz)(kw:List (Str×pz)):
 oQ P w K mg base (A.under (.builtin "type.__call__" ⟨.ref C::us,kw⟩)) outer s H:=⟨by first|exact e.frames|(simpa[aaR,Code.envs,aa4,pushEnvs]using e.frames),e.mod,e.bs,e.bsz,e.funs,e.frf,e.hok,e.bare⟩
section
variable {X:Cx}{pins:List (Addr×Obj)}{σ:St}{H:Hp}{s s':Bn}
def Inv.env0 (I:Inv X pins σ H s):oQ X.prog X.w X.K X.mg X.base X.A X.stack s H:=
 ⟨I.ok.frames,I.ok.mod,I.bs,VO I.ok.bsz I.sz,I.stack,I.stkFree,I.hok,I.bare⟩
def Inv.after {Q:VK}{u:pz}(I:Inv X pins σ H s)(h:CE X.stack X.prog X.w H s Q u s'):EP X pins σ Q u s':=by
 obtain⟨v,H',os,bare,un,hok,r,q⟩:=h
 obtain⟨hh,g,d,t,os'⟩:=s'
 obtain rfl:os'=s.os:=os
 exact⟨v,H',I.call (h':=hh) (g':=g) (d':=d) (t':=t) (ch:=[]) un hok bare (fun b z=>absurd z (by simp)),r,q⟩
end
def bX (K:W.Frag)(fd:Gt)(ps:List Str)(ds:List pz):Prop:=
 ∀(s:Bn)(us:List pz),K.In s.heap->(us++ds).length=ps.length->abB s fd ⟨us,[]⟩ (ps.zip (us++ds))
def bX.all {K:W.Frag}{fd:Gt}{ps:List Str}(h:∀us:List pz,us.length=ps.length->bindArgs fd ⟨us,[]⟩=pure (ps.zip us)):bX K fd ps []:=fun s us a hl=>by
 rw[Wc]at hl⊢
 exact .of_eq (h us hl)
section
variable {X:Cx}{CX:CXT}{k:Nat}{f C:Addr}{fd:Gt}{ps:List Str}{sp:Sp}{dvs:List V}{ds:List pz}{E:XK}{x m:Str}{p pos apos:Pos}{e o:Expr}{es:List Expr}{ta:TE}{t:TA}
structure Mk (K:W.Frag)(C f:Addr):Prop where
 makes:W.makesIn K C=true
 init:W.findIn K (.ref C) "__init__"=some (some (.ref f))
 fn:W.isFn K (.ref f)=true
 kp:W.keepIn K (.ref C)=true
end
structure aq (N P:List Str)(sc:Scope):Prop where
 kind:sc.kind=.function
 co:sc.isCoroutine=false
 gen:sc.isGenerator=false
 nd:N.Nodup
 pre:N.take P.length=P
 par:∀x∈P,sc.names.lookup x=some .local\/sc.names.lookup x=some .cell
 nofree:∀y∈sc.names,y.2≠.free
theorem zG {kindOf:Str->Option Xu}{x:Str}:∀{binds:List (Str×pz)}{m:Str->Option pz},(∀v,(x,v)∉binds)->bindL kindOf binds m x=m x
 |[],_,_=>rfl
 |(n,v)::r,m,h=>by
  unfold bindL
  rw[zG fun w hw=>h w (Vu _ hw)]
  split
  ·have:x≠n:=by rintro rfl;exact h v cW
   simp[this]
  ·rfl
theorem zM {kindOf:Str->Option Xu}{x:Str}:∀{binds:List (Str×pz)}{m:Str->Option pz},(∀v,(x,v)∉binds)->bindC kindOf binds m x=m x
 |[],_,_=>rfl
 |(n,v)::r,m,h=>by
  unfold bindC
  rw[zM fun w hw=>h w (Vu _ hw)]
  split
  ·rfl
  ·have:x≠n:=by rintro rfl;exact h v cW
   simp[this]
theorem zY {kindOf:Str->Option Xu}{x:Str}{v:pz}:∀{P:List Str}{vs:List pz}{i:Nat}{m:Str->Option pz},P.Nodup->P[i]? =some x->vs[i]? =some v->kindOf x=some .local->
  bindL kindOf (P.zip vs) m x=some v
 |[],_,_,_,_,h,_,_=>by simp at h
 |_::_,[],_,_,_,_,h,_=>by simp at h
 |p::P,w::vs,0,m,nd,h1,h2,hk=>by
  simp at h1 h2;subst h1;subst h2
  show bindL kindOf ((p,w)::P.zip vs) m p=_
  unfold bindL
  rw[zG fun v hv=>(VX.mp nd).1 (XZ hv).1,if_pos hk]
  simp
 |p::P,w::vs,i+1,m,nd,h1,h2,hk=>by
  show bindL kindOf ((p,w)::P.zip vs) m x=_
  unfold bindL
  exact zY (i:=i) (VX.mp nd).2 (by simpa using h1) (by simpa using h2) hk
theorem zy {kindOf:Str->Option Xu}{x:Str}{v:pz}:∀{P:List Str}{vs:List pz}{i:Nat}{m:Str->Option pz},P.Nodup->P[i]? =some x->vs[i]? =some v->kindOf x≠some .local->
  bindC kindOf (P.zip vs) m x=some v
 |[],_,_,_,_,h,_,_=>by simp at h
 |_::_,[],_,_,_,_,h,_=>by simp at h
 |p::P,w::vs,0,m,nd,h1,h2,hk=>by
  simp at h1 h2;subst h1;subst h2
  show bindC kindOf ((p,w)::P.zip vs) m p=_
  unfold bindC
  rw[zM fun v hv=>(VX.mp nd).1 (XZ hv).1,if_neg hk]
  simp
 |p::P,w::vs,i+1,m,nd,h1,h2,hk=>by
  show bindC kindOf ((p,w)::P.zip vs) m x=_
  unfold bindC
  exact zy (i:=i) (VX.mp nd).2 (by simpa using h1) (by simpa using h2) hk
noncomputable def du (N:List Str)(vs:List V):St:=vs.map some++Yn (N.length- vs.length) none
noncomputable def gb (CX:CXT)(P:VM)(w:Wm)(K:W.Frag)(mg:Str->Option pz)(base:Heap)(N:List Str)(qual:Str)(scope:Scope)(f:Addr)(cd:pz)(A:Wj)(outer:List Env)(s:Bn)(H:Hp)(E:XK):Cx where
 prog:=P
 w:=w
 K:=K
 mg:=mg
 base:=base
 A:=A.deeper (envOfC qual scope s.heap.objs.size f cd)
 N:=N
 s₀:=s
 H₀:=H
 env:=envOfC qual scope s.heap.objs.size f cd
 outer:=outer
 stack:=envOfC qual scope s.heap.objs.size f cd::outer
 ex:=[]
 calm:=true
 fn:=fun a=>true
 pn:=[]
 xe:=fun e s'=>wpAny (model P w) (A.deeper (envOfC qual scope s.heap.objs.size f cd)) (leaving (envOfC qual scope s.heap.objs.size f cd) e) (fun a s''=>CX outer H s E e s'') (fun e' s''=>CX outer H s E e' s'') s'
def BE {sc:Scope}{n:Nat}{x:Str}(h:sc.names.lookup x=some .cell):∃c,(cellsFrom n sc.names []).lookup x=some c:=by
 have q:=W.cellsFrom_some sc.names n [] (.inl h)
 exact Ws.mp q
def zJ {CX:CXT}{P:VM}{w:Wm}{K:W.Frag}{mg:Str->Option pz}{base:Heap}{N ps:List Str}{qual:Str}{scope:Scope}{f:Addr}{cd:pz}{A:Wj}{outer:List Env}{s s1:Bn}{H:Hp}{E:XK}{us:List pz}{vs:List V}
  (S:aq N ps scope)(hd:A.handled=none)(e0:oQ P w K mg base A outer s H)(hl:vs.length=ps.length)(r:aU vs us)
  (x:InCallC s s.heap.objs.size (bindL (envOfC qual scope s.heap.objs.size f cd).kindOf (ps.zip us) fun d=>none) (cellsFrom (s.heap.objs.size+1) scope.names []) (bindC (envOfC qual scope s.heap.objs.size f cd).kindOf (ps.zip us) fun d=>none) s1):
  Inv (gb CX P w K mg base N qual scope f cd A outer s H E) [] (du N vs) H s1:=by
 have hpl:ps.length<=N.length:=by have:=congrArg Xy S.pre;rw[VN]at this;lia
 obtain⟨h1,tk,rfl,hk⟩:=x.done
 have noA:∀b:Addr,b∉(gb CX P w K mg base N qual scope f cd A outer s H E).ex:=fun b z=>absurd (show b∈([]:List Addr)from z) (by simp)
 refine⟨⟨e0.mod,S.kind,rfl,rfl,sn _,fun y z c h1 h2=>?_,fun y hy=>?_,fun y c d h=>?_,fun d=>hd,aa0 e0.frames,.inr ⟨rfl,rfl⟩,fun b z=>absurd z (noA b),e0.bs,e0.bsz,fun b d d=>noA b,fun b z=>absurd z (noA b),e0.funs,e0.frf⟩,
  rfl,e0.bare,Un.kept hk,⟨_,x.toInCall.ns,fun i y v h1 h2 h3=>?_⟩,fun y c h=>⟨_,x.cell y c h⟩,e0.hok.fresh (sn _),fun y c h=>?_,fun p hp=>absurd (show p∈([]:List (Addr×Obj))from hp) (by simp),e0.hok.kept hk,?_⟩
 ·exact name_of_addr x.apart (WU h1) (WU h2)
 ·have hy:scope.names.lookup y=some .cell\/scope.names.lookup y=some .free:=hy
  rcases hy with hy|hy
  ·exact BE hy
  ·exact absurd rfl (S.nofree _ (WU hy))
 ·exact XX (x.above y c (WU h))
 ·have hi:i<vs.length:=by
   unfold du at h2
   by_cases hi:i<vs.length
   ·exact hi
   ·rw[WR (by simpa using hi)]at h2
    rw[Ya]at h2
    split at h2<;>cases h2
  have ha:vs[i]?=some v:=by
   unfold du at h2
   rw[Wq (by simpa using hi),VG]at h2
   cases e:vs[i]? with
   |none=>rw[e]at h2;injection h2
   |some a=>rw[e]at h2;cases h2;rfl
  obtain⟨u,hu,rv⟩:=r.get ha
  have hp:ps[i]?=some y:=by
   rw[<-S.pre,aaN (by lia)];exact h1
  have ndP:ps.Nodup:=by rw[<-S.pre];exact S.nd.sublist (abP _ _)
  refine⟨u,rv,?_⟩
  rcases S.par y (VP hp)with k|k
  ·exact .inl ⟨k,zY ndP hp hu k⟩
  ·obtain⟨c,e⟩:=BE (n:=s.heap.objs.size+1) k
   refine .inr ⟨.inl k,c,e,?_⟩
   have q:=x.cell y c e
   rw[zy ndP hp hu (by show scope.names.lookup y≠_;rw[k];decide)]at q
   exact q
 ·exact e0.hok.fresh (XX (x.above y c (WU h)))
 ·unfold du
  show _=N.length
  rw[VU,Vy,Zl]
  lia
def Sk {CX:CXT}{P:VM}{w:Wm}{K:W.Frag}{mg:Str->Option pz}{base:Heap}{k:Nat}{f:Addr}{name qual:Str}{params:Arguments}{body:List Stmt}{scope:Scope}{dV kV doc pm cdv ct oc:pz}{an od:Option Addr}
  {osl:Array (Option pz)}{N ps:List Str}{sp:Sp}(lk:K.lookup f=some ⟨oc,od,.func (W.fnOf name qual params body scope dV kV doc pm an cdv ct),osl⟩)(hcd:W.codeIn K cdv qual=true)(S:aq N ps scope)
  (len:∀vs H Q E,sp vs H Q E->vs.length=ps.length)
  (hbody:∀(A:Wj)(outer:List Env)(s:Bn)(H:Hp)(vs:List V)(Q:VK)(E:XK),aZ k (A.deeper (envOfC qual scope s.heap.objs.size f cdv))->sp vs H Q E->
   ∃t,PSs (gb CX P w K mg base N qual scope f cdv A outer s H E) body t/\t {nx:=fun _ H'=>Q .non H',rt:=Q} (du N vs) H):
  cy P w K mg base CX (k+1) f (W.fnOf name qual params body scope dV kV doc pm an cdv ct) ps sp:=by
 refine⟨len,fun A outer s H args us vs Q E hr e0 hb r hsp=>?_⟩
 have hl:=len _ _ _ _ hsp
 have KX:K.In s.heap:=e0.mod.kin.keeps fun b o e=>(e0.bs b o e).1
 have lim:s.heap.NoLimit:=e0.mod.nolimit.keeps fun b o e=>(e0.bs b o e).1
 have hkind:∀y∈ps.zip us,scope.names.lookup y.1=some .local\/(scope.names.lookup y.1=some .cell/\((cellsFrom (s.heap.objs.size+1) scope.names []).lookup y.1).isSome=true):=fun⟨n,v⟩ hy=>by
  rcases S.par n (XZ hy).1 with q|q
  ·exact .inl q
  ·exact .inr ⟨q,W.cellsFrom_some _ _ _ (.inl q)⟩
 refine abX hr.depth (KX _ _ lk) rfl S.co S.gen rfl (W.codeRec_of KX hcd) (hb _ _ _ _ ?_)
 refine aa2 S.kind hkind fun env he s1 x=>?_
 subst he
 refine⟨lim.keeps x.toInCall.keep,codeAny_func ?_⟩
 obtain⟨t,ht,hq⟩:=hbody A outer s H vs Q E (hr.deeper _) hsp
 have I:Inv (gb CX P w K mg base N qual scope f cdv A outer s H E) [] (du N vs) H s1:=zJ S hr.hd e0 hl r x
 refine VT (ht [] s1 (du N vs) H _ I hq) (fun fl s' hs=>?_) fun e s' hs=>hs
 have fin:∀{σ':St}{H':Hp}{v:V}{u:pz},Inv (gb CX P w K mg base N qual scope f cdv A outer s H E) [] σ' H' s'->aL v u->Q v H'->CE outer P w H s Q u s':=
  fun{σ' H' v u} J rv q=>⟨v,H',J.os,J.bare,J.base,J.hok,rv,q⟩
 cases fl with
 |ret u=>
  obtain⟨v,σ',H',J,rv,q⟩:=hs
  exact fin J rv q
 |next=>
  obtain⟨σ',H',J,q⟩:=hs
  exact fin (v:=V.non) (u:=Xb) J rfl q
 |brk=>
  obtain⟨_,_,_,q⟩:=hs
  exact Wg q
 |cont=>
  obtain⟨_,_,_,q⟩:=hs
  exact Wg q
section
variable {X:Cx}{x:Str}{p pos:Pos}{e:Expr}{es:List Expr}{t:TA}{id T:String}{r:List V->Hp->VK->Prop}
def tCB (r:List V->Hp->VK->Prop)(t:TA):TE:=fun σ H Q=>t σ H fun vs H1=>r vs H1 Q
def IQ (hc:bq X (.builtin id) r)(hg:Gl X x)(hm:X.mg x=none)(hv:bootBuiltins x=some (.builtin id))(ha:PA X (e::es) t)(hn:x≠"__name__":=by decide)(hdb:(x==("__debug__":Str))=false:=by decide)
  (he:starEach (e::es) X.env=(false,eval e X.env)::starEach es X.env:=by rfl)(hpl:(backTo pos (starEach es X.env)).any (·.1)=false:=by rfl):PE X (.Call (.Name x p) (e::es) [] pos) (tCB r t):=by
 intro pins s σ H Q I h
 refine Wn (fF I hg hm hv ?_ hn hdb)
 exact PyProof.Rows.callWith_builtin1 (thn (ha pos pins s σ H _ I h) fun us s1 ⟨vs,H1,I1,r1,q1⟩=>hc pins s1 σ H1 vs us Q I1 r1 q1) he hpl
def Gh (hc:bq X (.type T) r)(hg:Gl X x)(hm:X.mg x=none)(hv:bootBuiltins x=some (.type T))(ha:PA X (e::es) t)(hn:x≠"__name__":=by decide)(hdb:(x==("__debug__":Str))=false:=by decide)
  (he:starEach (e::es) X.env=(false,eval e X.env)::starEach es X.env:=by rfl)(hpl:(backTo pos (starEach es X.env)).any (·.1)=false:=by rfl):PE X (.Call (.Name x p) (e::es) [] pos) (tCB r t):=by
 intro pins s σ H Q I h
 refine Wn (fF I hg hm hv ?_ hn hdb)
 exact We (thn (ha pos pins s σ H _ I h) fun us s1 ⟨vs,H1,I1,r1,q1⟩=>hc pins s1 σ H1 vs us Q I1 r1 q1) he hpl
end
end L2
namespace HT
open PySem PyProof.Rows
section
open PySem.SeqAt
open PySem.AutoSeq1 (wpAny_loadPart')
open PySem.MeetsSeq PySem.MeetsSeq2 PySem.MeetsSeq3
end
section
variable {prog:VM}{w:Wm}{A:Wj}{E:pz->Bn->Prop}{s:Bn}
def Mf {t b:Addr}{vs ws:List pz}{Q:pz->Bn->Prop}(ht:IsTup s.heap t vs.toArray)(hb:IsTup s.heap b ws.toArray)(hv:vs≠[])
  (h1:ws=[]->Q (.ref t) s)(h2:ws≠[]->Q (.ref s.heap.objs.size) {s with heap:=s.heap.push {cls:=.type "tuple",data:=.seq (vs++ws).toArray}})
  (hsz:vs.length+ws.length<=sizeLine):wpAny (model prog w) A (binaryOp .Add (.ref t) (.ref b)) Q E s:=by
 obtain⟨⟨cls,dd,data,sl⟩,ho,hc,n,hd⟩:=id ht
 obtain⟨⟨cls2,dd2,data2,sl2⟩,ho2,hc2,n2,hd2⟩:=id hb
 simp only at hc hd hc2 hd2
 subst hc hd hc2 hd2
 have e:vs.toArray++ws.toArray=(vs++ws).toArray:=by simp
 by_cases hw:ws=[]
 ·exact abW ⟨_,ho,rfl⟩ ⟨_,ho2,rfl⟩ aaJ abz YU YT (YG _ _)
   (tuple_addW1 t b vs.toArray ws.toArray n n2 dd dd2 sl sl2 (by simpa using hv) (by simp[hw])) ⟨ho,ho2,h1 hw⟩
 ·refine abW ⟨_,ho,rfl⟩ ⟨_,ho2,rfl⟩ aaJ abz YU YT (YG _ _)
   (tuple_addW2 t b vs.toArray ws.toArray n n2 dd dd2 sl sl2 (by simpa using hv) (by simpa using hw) (by rw[Vv,Vv];exact hsz)) ⟨ho,ho2,?_⟩
  rw[e]
  exact h2 hw
noncomputable def sIx (n d:Nat):Option Int->Nat
 |none=>d
 |some v=>if v<0 then(v+(n:Int)).toNat else min v.toNat n
def BQ (n d:Nat):sIx n d none=d:=rfl
def Ep (n d k:Nat):sIx n d (some (k:Int))=min k n:=by
 show(if (k:Int)<0 then((k:Int)+(n:Int)).toNat else min (k:Int).toNat n)=min k n
 rw[if_neg (by lia),Yq]
end
end HT
namespace L2
open PySem PySem.Spec PyProof.Rows
abbrev TO:=St->Hp->(Option Int->Hp->Prop)->Prop
def PO (X:Cx)(e:Option Expr)(t:TO):Prop:=
 ∀(pins:List (Addr×Obj))(s:Bn)(σ:St)(H:Hp)(Q:Option Int->Hp->Prop),Inv X pins σ H s->t σ H Q->
  wpAny (model X.prog X.w) X.A (evalPart e X.env) (fun u s'=>∃o H',Inv X pins σ H' s'/\IsPart u o/\Q o H') X.xe s
def EL:TO:=fun a H Q=>Q none H
def Le (t:TE):TO:=fun σ H Q=>t σ H fun x H1=>∃i,x=.int i/\Q (some i) H1
section
variable {X:Cx}{e:Expr}{te:TE}{lo hi:Option Expr}{tl th:TO}{pos p2:Pos}
def Ml:PO X none EL:=by
 intro pins s σ H Q I h
 rw[evalPart_none]
 exact Vt ⟨none,H,I,.none,h⟩
def Nf (h:PE X e te):PO X (some e) (Le te):=by
 intro pins s σ H Q I hw
 rw[evalPart_some]
 refine thn (h pins s σ H _ I hw) fun u s1 ⟨x,H1,I1,r1,q1⟩=>?_
 obtain⟨i,rfl,q⟩:=q1
 obtain⟨t,rfl⟩:=r1
 exact⟨some i,H1,I1,.int i t,q⟩
def SlR (X:Cx)(r:V->Option Int->Option Int->Hp->VK->Prop):Prop:=
 ∀(pins:List (Addr×Obj))(s:Bn)(σ:St)(H:Hp)(x:V)(v vl vu:pz)(lo hi:Option Int)(sl:Addr)(Q:VK),Inv X pins σ H s->aL x v->s.heap.IsSliceOf sl vl vu .none->IsPart vl lo->IsPart vu hi->r x lo hi H Q->
  ∃T id,typeLookup (.type T) "__getitem__"=pure (some (.builtin id))/\s.TypeIs v T/\wpAny (model X.prog X.w) X.A (getItem v (.ref sl)) (EP X pins σ Q) X.xe s
def SlR.or {r r':V->Option Int->Option Int->Hp->VK->Prop}(h:SlR X r)(h':SlR X r'):SlR X (fun x lo hi H Q=>r x lo hi H Q\/r' x lo hi H Q):=by
 intro pins s σ H x v vl vu lo hi sl Q I rx hs pl pu q
 rcases q with q|q
 ·exact h pins s σ H x v vl vu lo hi sl Q I rx hs pl pu q
 ·exact h' pins s σ H x v vl vu lo hi sl Q I rx hs pl pu q
def tSl (r:V->Option Int->Option Int->Hp->VK->Prop)(te:TE)(tl th:TO):TE:=fun σ H Q=>te σ H fun x H1=>tl σ H1 fun l H2=>th σ H2 fun u H3=>r x l u H3 Q
def IV {r:V->Option Int->Option Int->Hp->VK->Prop}(hr:SlR X r)(he:PE X e te)(hl:PO X lo tl)(hu:PO X hi th):PE X (.Subscript e (.Slice lo hi none p2) pos) (tSl r te tl th):=by
 intro pins s σ H Q I h
 refine Subscript_ (thn (he pins s σ H _ I h) fun v s1 ⟨x,H1,I1,r1,q1⟩=>?_)
 refine wpAny_Slice (thn (hl pins s1 σ H1 _ I1 q1) fun vl s2 ⟨l,H2,I2,pl,q2⟩=>thn (hu pins s2 σ H2 _ I2 q2) fun vu s3 ⟨u,H3,I3,pu,q3⟩=>?_)
 rw[evalPart_none]
 refine Vt ?_
 have I4:Inv X pins σ H3 {s3 with heap:=s3.heap.push {cls:=.type "slice",data:=.fields #[vl,vu,.none]}}:=I3.kept (t':=s3.toks) fun b ob q=>gV _ q
 obtain⟨T,id,hT,ht,hg⟩:=hr pins {s3 with heap:=s3.heap.push {cls:=.type "slice",data:=.fields #[vl,vu,.none]}} σ H3 x v vl vu l u s3.heap.objs.size Q I4 r1 (acx ..) pl pu q3
 show wpAny (model X.prog X.w) X.A (subscriptTail e (.Slice lo hi none p2) v (.ref s3.heap.objs.size)) (EP X pins σ Q) X.xe {s3 with heap:=s3.heap.push {cls:=.type "slice",data:=.fields #[vl,vu,.none]}}
 exact tail_any (ops:=[.ref s3.heap.objs.size,v]) ht hT hg (by with_unfolding_all rfl)
def zx (xs:List V)(lo hi:Option Int):List V:=(xs.drop (HT.sIx xs.length 0 lo)).take (HT.sIx xs.length xs.length hi- HT.sIx xs.length 0 lo)
def DJ (xs:List V)(lo hi:Option Int):(zx xs lo hi).length<=xs.length:=by
 unfold zx
 rw[VN,Wo]
 lia
def RC (K:W.Frag):R2:=fun x y H Q=>∃a b xs ys,x=.ref a/\y=.ref b/\SqT K H a xs/\SqT K H b ys/\xs≠[]/\xs.length+ys.length<=sizeLine/\
 (ys=[]->Q (.ref a) H)/\(ys≠[]->∀p,H p=none->Q (.ref p) (upd H p (.tup (xs++ys))))
def aU.nil_iff {xs:List V}{us:List pz}(r:aU xs us):us=[]↔xs=[]:=by
 cases r with
 |nil=>simp
 |cons _ _=>simp
def Ma:OpR X (binaryOp .Add) (RC X.K):=by
 intro pins s σ H x y v u Q I rx ry h
 obtain⟨a,b,xs,ys,rfl,rfl,ha,hb,hx,hz,q1,q2⟩:=h
 subst rx
 subst ry
 obtain⟨its,r1,p1,c⟩:=I.tuple ha
 obtain⟨its2,r2,p2,c⟩:=I.tuple hb
 refine HT.Mf p1 p2 (fun z=>hx (r1.nil_iff.mp z)) (fun z=>⟨.ref a,H,I,rfl,q1 (r2.nil_iff.mp z)⟩) (fun z=>?_) (by rw[<-r1.length,<-r2.length];exact hz)
 refine⟨.ref s.heap.objs.size,_,I.laid (t':=s.toks) (o:=.tup (xs++ys)) (fun b ob q=>gV _ q) (sn _) ?_,rfl,q2 (fun w=>z (r2.nil_iff.mpr w)) _ (I.hok.fresh (sn _))⟩
 exact⟨by rw[VU];exact hz,_,r1.append r2,IsTup.new _ _⟩
end
noncomputable def ixN (n:Nat)(i:Int):Option Nat:=if 0<=i then(if i<n then some i.toNat else none)else if-(n:Int)<=i then some (i+n).toNat else none
def atI {α:Type}(xs:List α)(i:Int):Option α:=(ixN xs.length i).bind fun j=>xs[j]?
def Mv {n:Nat}{i:Int}{j:Nat}(h:ixN n i=some j):seqIndex? i n=some j/\j<n/\ -(n:Int)<=i/\i<n:=by
 unfold ixN at h
 by_cases h0:0<=i
 ·rw[if_pos h0]at h
  by_cases h1:i<n
  ·rw[if_pos h1]at h
   have e:i.toNat=j:=VR h
   exact⟨by rw[seqIndex_of h0 h1,e],by lia,by lia,h1⟩
  ·rw[if_neg h1]at h;injection h
 ·rw[if_neg h0]at h
  by_cases h1: -(n:Int)<=i
  ·rw[if_pos h1]at h
   have e:(i+n).toNat=j:=VR h
   exact⟨by rw[seqIndex_neg (by lia) h1,e],by lia,h1,by lia⟩
  ·rw[if_neg h1]at h;injection h
def zw {α:Type}{xs:List α}{i:Int}{v:α}(h:atI xs i=some v):∃j,seqIndex? i xs.length=some j/\xs[j]? =some v/\j<xs.length/\ -(xs.length:Int)<=i/\i<xs.length:=by
 unfold atI at h
 cases e:ixN xs.length i with
 |none=>rw[e]at h;injection h
 |some j=>
  rw[e]at h
  obtain⟨h1,h2,h3,h4⟩:=Mv e
  exact⟨j,h1,h,h2,h3,h4⟩
def bA {α:Type}{xs:List α}{j:Nat}{v:α}(h:xs[j]?=some v):atI xs (j:Int)=some v:=by
 have hj:j<xs.length:=(Vz.mp h).1
 have e:ixN xs.length (j:Int)=some j:=by
  unfold ixN
  rw[if_pos (by lia),if_pos (by lia)];simp
 unfold atI;rw[e];exact h
def yt (b:Expr):Prop:=∀o i,subscripted b false o i=operate [o,i] (getItem o i)
def IxR (X:Cx)(r:R2):Prop:=
 ∀(value slice:Expr)(pins:List (Addr×Obj))(s:Bn)(σ:St)(H:Hp)(x y:V)(v u:pz)(Q:VK),Inv X pins σ H s->aL x v->aL y u->r x y H Q->
  subscripted slice false v u=operate [v,u] (getItem v u)->wpAny (model X.prog X.w) X.A (subscriptTail value slice v u) (EP X pins σ Q) X.xe s
def MtR (X:Cx)(id:String)(r:V->List V->Hp->VK->Prop):Prop:=
 ∀(pins:List (Addr×Obj))(s:Bn)(σ:St)(H:Hp)(x:V)(xs:List V)(v:pz)(us:List pz)(Q:VK),Inv X pins σ H s->aL x v->aU xs us->r x xs H Q->
  wpAny (model X.prog X.w) X.A (call (.builtin id) (v::us)) (EP X pins σ Q) X.xe s
section
variable {X:Cx}{a b:Expr}{ta tb:TE}{pos:Pos}
def IxR.or {r r':R2}(h:IxR X r)(h':IxR X r'):IxR X (fun x y H Q=>r x y H Q\/r' x y H Q):=by
 intro value slice pins s σ H x y v u Q I rx ry q hs
 rcases q with q|q
 ·exact h value slice pins s σ H x y v u Q I rx ry q hs
 ·exact h' value slice pins s σ H x y v u Q I rx ry q hs
def Re {r:R2}(hr:IxR X r)(ha:PE X a ta)(hb:PE X b tb)(hs:yt b):PE X (.Subscript a b pos) (tOp r ta tb):=by
 intro pins s σ H Q I h
 exact Subscript_ (Jy ha hb I h fun v u s2 x y H2 I2 rx ry q=>hr a b pins s2 σ H2 x y v u Q I2 rx ry q (hs _ _))
def OB (K:W.Frag):R2:=fun x y H Q=>∃p xs i v,x=.ref p/\y=.int i/\SqL K H p xs/\atI xs i=some v/\Q v H
def NF (K:W.Frag):R2:=fun x y H Q=>∃p xs i v,x=.ref p/\y=.int i/\SqT K H p xs/\atI xs i=some v/\Q v H
def ND:R2:=fun x y H Q=>∃z i c,x=.str z/\y=.int i/\z.length<=sizeLine/\atI z.cps.toList i=some c/\Q (.str ⟨#[c]⟩) H
def Lr:IxR X (OB X.K):=by
 intro value slice pins s σ H x y v u Q I rx ry h hs
 obtain⟨p,xs,i,z,rfl,rfl,hq,he,q⟩:=h
 subst rx
 obtain⟨t,rfl⟩:=ry
 obtain⟨its,r,pl,hz⟩:=I.list hq
 obtain⟨j,h1,h2,h3,h4,h5⟩:=zw he
 obtain⟨w,ew,rw'⟩:=r.get h2
 have hl:=r.length
 have hn:=rO
 have fin:EP X pins σ Q w s:=⟨z,H,I,rw',q⟩
 by_cases h0:0<=i
 ·have hj:i.toNat=j:=by
   rw[seqIndex_of h0 h5]at h1
   exact VR h1
  exact item_listR pl.isList h0 (by lia) (by rw[hj];simpa using ew) fin hs
 ·have hj:(i+(its.toArray.size:Int)).toNat=j:=by
   rw[seqIndex_neg (by lia) h4]at h1
   rw[Vv,<-hl]
   exact VR h1
  exact abN (x:=w) pl.isList.typeIs slot_list_getitem.lookup
   (wpAny_getItem_list_neg (Q:=fun r s'=>r=w/\EP X pins σ Q r s') pl.isList (by lia) (by rw[Vv]<;>lia) (by lia) (by rw[hj];simpa using ew) ⟨rfl,fin⟩) hs
def Pp:IxR X (NF X.K):=by
 intro value slice pins s σ H x y v u Q I rx ry h hs
 obtain⟨p,xs,i,z,rfl,rfl,hq,he,q⟩:=h
 subst rx
 obtain⟨t,rfl⟩:=ry
 obtain⟨its,r,pl,hz⟩:=I.tuple hq
 obtain⟨j,h1,h2,h3,h4,h5⟩:=zw he
 obtain⟨w,ew,rw'⟩:=r.get h2
 have hl:=r.length
 have hn:=rO
 have fin:EP X pins σ Q w s:=⟨z,H,I,rw',q⟩
 exact abN (x:=w) pl.typeIs slot_tuple_getitem.lookup
  (getItem_tuple (j:=j) (Q:=fun r s'=>r=w/\EP X pins σ Q r s') pl (by lia) (by lia) (by rw[Vv,<-hl];exact h1) (by simpa using ew) ⟨rfl,fin⟩) hs
def OV:IxR X ND:=by
 intro value slice pins s σ H x y v u Q I rx ry h hs
 obtain⟨z,i,c,rfl,rfl,hz,he,q⟩:=h
 obtain⟨t,rfl⟩:=rx
 obtain⟨t',rfl⟩:=ry
 obtain⟨j,h1,h2,h3,h4,h5⟩:=zw he
 have hl:z.cps.toList.length=z.length:=by simp[Str.length]
 rw[hl]at h1 h4 h5
 have hn:=rO
 exact tail_any (acF s z t) slot_str_getitem.lookup (getItem_str (c:=c) (by
  have e1:decide (i< -(2^63:Int))=false:=decide_eq_false (by lia)
  have e2:decide (i>=2^63)=false:=decide_eq_false (by lia)
  rw[e1,e2,acz]) (by rw[h1];simpa using h2) ⟨.str ⟨#[c]⟩,H,I.tok _,⟨_,rfl⟩,q⟩) hs
def rIx (K:W.Frag):R2:=fun x y H Q=>OB K x y H Q\/NF K x y H Q\/ND x y H Q
def OC:IxR X (rIx X.K):=Lr.or (Pp.or OV)
def BG (lo hi:Option Int)(n:Nat):(sliceBounds lo hi none n).1=((HT.sIx n 0 lo:Nat):Int)/\(sliceBounds lo hi none n).2.1=((HT.sIx n n hi:Nat):Int)/\(sliceBounds lo hi none n).2.2=1:=by
 refine⟨?_,?_,rfl⟩
 ·cases lo with
  |none=>simp[sliceBounds,HT.sIx]
  |some i=>
   simp only[sliceBounds,HT.sIx,abE,show(1:Int)>0 by decide,if_true]
   by_cases h:i<0
   ·simp only[h,if_true]<;>lia
   ·simp only[h,if_false]<;>lia
 ·cases hi with
  |none=>simp[sliceBounds,HT.sIx]
  |some i=>
   simp only[sliceBounds,HT.sIx,abE,show(1:Int)>0 by decide,if_true]
   by_cases h:i<0
   ·simp only[h,if_true]<;>lia
   ·simp only[h,if_false]<;>lia
def Az (its:List pz)(lo hi:Option Int):slicePick its.toArray lo hi none=((its.drop (HT.sIx its.length 0 lo)).take (HT.sIx its.length its.length hi- HT.sIx its.length 0 lo)).toArray:=by
 obtain⟨h1,h2,h3⟩:=BG lo hi its.toArray.size
 unfold slicePick
 rw[h1,h2,h3]
 simp only[sliceRange_one,pick_run,Vv]<;>rfl
def Ox (K:W.Frag):V->Option Int->Option Int->Hp->VK->Prop:=fun x lo hi H Q=>∃a xs,x=.ref a/\SqL K H a xs/\∀p,H p=none->Q (.ref p) (upd H p (.lst (zx xs lo hi)))
def Mr:SlR X (Ox X.K):=by
 intro pins s σ H x v vl vu lo hi sl Q I rx hs pl pu h
 obtain⟨a,xs,rfl,hx,q⟩:=h
 subst rx
 obtain⟨its,r,ht,hz⟩:=I.list hx
 have hlen:=r.length
 refine⟨"list",_,slot_list_getitem.lookup,ht.isList.typeIs,?_⟩
 refine wpAny_getItem_list_slice ht.isList hs pl pu .none (by simp) ?_ (by rw[Vv]<;>lia)
 rw[Az,<-hlen]
 refine⟨.ref s.heap.objs.size,_,I.laid (t':=s.toks) (o:=.lst (zx xs lo hi)) (fun b ob q=>gV _ q) (sn _) ?_,rfl,q _ (I.hok.fresh (sn _))⟩
 exact⟨VO (DJ xs lo hi) hz,_,0,(r.drop (HT.sIx xs.length 0 lo)).take (HT.sIx xs.length xs.length hi- HT.sIx xs.length 0 lo),Vr _ rfl⟩
def bq.or {f:pz}{r r':List V->Hp->VK->Prop}(h:bq X f r)(h':bq X f r'):bq X f (fun xs H Q=>r xs H Q\/r' xs H Q):=by
 intro pins s σ H xs us Q I rs q
 rcases q with q|q
 ·exact h pins s σ H xs us Q I rs q
 ·exact h' pins s σ H xs us Q I rs q
def Bs:bq X (.type "list") (fun xs H Q=>∃p ys,xs=[.ref p]/\(SqL X.K H p ys\/SqT X.K H p ys)/\∀l,H l=none->Q (.ref l) (upd H l (.lst ys))):=by
 intro pins s σ H xs us Q I r h
 obtain⟨p,ys,rfl,hq,q⟩:=h
 obtain⟨u,rfl,rx⟩:=eC r
 subst rx
 have fin:∀(its:List pz),aU ys its->ys.length<=sizeLine->∀(h':Heap)(c':Nat),(∀b o',s.heap.get? b=some o'->h'.get? b=some o')->
   h'.get? s.heap.objs.size=some {cls:=.type "list",dict:=none,data:=.seq its.toArray c',slots:=#[]}->EP X pins σ Q (.ref s.heap.objs.size) {s with heap:=h'}:=fun its r' hz h' c' kp e=>
  ⟨.ref s.heap.objs.size,_,I.laid (t':=s.toks) kp (sn _) (show ba X.prog X.w _ h' _ (.lst ys)from⟨hz,its,c',r',e⟩),rfl,q _ (I.hok.fresh (sn _))⟩
 rcases hq with hq|hq
 ·obtain⟨its,r',pl,hz⟩:=I.list hq
  have hlen:=r'.length
  obtain⟨o,ho,hc,n,hd⟩:=pl.isList
  exact call_list_seq p (.inl rfl) ho hc hd (fun h' c' kp e=>fin its r' hz h' c' kp e) (by simp only[Vv]<;>lia)
 ·obtain⟨its,r',pl,hz⟩:=I.tuple hq
  have hlen:=r'.length
  obtain⟨o,ho,hc,n,hd⟩:=pl
  exact call_list_seq p (.inr rfl) ho hc hd (fun h' c' kp e=>fin its r' hz h' c' kp e) (by simp only[Vv]<;>lia)
def Aw:bq X (.type "tuple") (fun xs H Q=>∃p ys,xs=[.ref p]/\((SqL X.K H p ys/\∀l,H l=none->Q (.ref l) (upd H l (.tup ys)))\/(SqT X.K H p ys/\Q (.ref p) H))):=by
 intro pins s σ H xs us Q I r h
 obtain⟨p,ys,rfl,h⟩:=h
 obtain⟨u,rfl,rx⟩:=eC r
 subst rx
 rcases h with⟨hq,q⟩|⟨hq,q⟩
 ·obtain⟨its,r',pl,hz⟩:=I.list hq
  have hlen:=r'.length
  refine call_tuple_list pl.isList (fun h' kp=>?_) (by simp only[Vv]<;>lia)
  have I1:Inv X pins σ H {s with heap:=h'}:=I.kept (t':=s.toks) kp
  have I2:Inv X pins σ (upd H h'.objs.size (.tup ys)) {s with heap:=h'.push {cls:=.type "tuple",data:=.seq its.toArray}}:=
   I1.laid (t':=s.toks) (fun b o e=>gV _ e) (sn _) (show ba X.prog X.w _ _ _ (.tup ys)from⟨hz,its,r',IsTup.new _ _⟩)
  exact⟨.ref h'.objs.size,_,I2,rfl,q _ (I1.hok.fresh (sn _))⟩
 ·obtain⟨its,r',pl,hz⟩:=I.tuple hq
  exact call_tuple_same pl ⟨.ref p,H,I,rfl,q⟩
def tyV (K:W.Frag)(T:String)(x:V)(H:Hp):Prop:=match x with
 |.str _=>T="str"
 |.int _=>T="int"
 |.ref p=>(T="list"/\∃xs,SqL K H p xs)\/(T="tuple"/\∃o,K.lookup p=some o/\o.cls=.type "tuple"/\o.dict=none)\/
  (T="dict"/\((∃kvs,H p=some (.dK kvs))\/∃kvs,H p=some (.dT kvs)))\/(T="set"/\∃S n,H p=some (.set S n))
 |_=>False
def Hm {pins:List (Addr×Obj)}{σ:St}{H:Hp}{s:Bn}{T:String}{x:V}{v:pz}(I:Inv X pins σ H s)(r:aL x v)(ty:tyV X.K T x H):
  s.TypeIs v T/\∀a,v=.ref a->∃ob,s.heap.get? a=some ob/\ob.dict=none:=by
 cases x with
 |str z=>
  obtain⟨t,rfl⟩:=r
  obtain rfl:T="str":=ty
  exact⟨acF s z t,fun b e=>nomatch e⟩
 |int i=>
  obtain⟨t,rfl⟩:=r
  obtain rfl:T="int":=ty
  exact⟨typeIs_int s i t,fun b e=>nomatch e⟩
 |ref p=>
  subst r
  rcases ty with⟨rfl,xs,hq⟩|⟨rfl,o,hk,hc,hd⟩|⟨rfl,hk⟩|⟨rfl,S,n,hk⟩
  ·obtain⟨its,b,pl,b⟩:=I.list hq
   refine⟨pl.isList.typeIs,fun a e=>?_⟩
   injection e with e;subst e
   obtain⟨o,n,e,c,hd,b⟩:=pl
   exact⟨o,e,hd⟩
  ·refine⟨⟨o,I.kIn p o hk,hc⟩,fun a e=>?_⟩
   injection e with e;subst e
   exact⟨o,I.kIn _ o hk,hd⟩
  ·have z:∃o,s.heap.get? p=some o/\o.ExactDict:=by
    rcases hk with⟨kvs,hk⟩|⟨kvs,hk⟩
    ·obtain⟨b,b,b,b,o,b,b,e,ex,b⟩:=I.hok p _ hk
     exact⟨o,e,ex⟩
    ·obtain⟨b,b,b,b,o,b,b,e,ex,b⟩:=I.hok p _ hk
     exact⟨o,e,ex⟩
   obtain⟨o,e,ex⟩:=z
   refine⟨⟨o,e,ex.1⟩,fun a e2=>?_⟩
   injection e2 with e2;subst e2
   exact⟨o,e,ex.2.1⟩
  ·obtain⟨o,b,b,b,e,ex,b⟩:=I.hok p _ hk
   refine⟨⟨o,e,ex.1⟩,fun a e2=>?_⟩
   injection e2 with e2;subst e2
   exact⟨o,e,ex.2.1⟩
 |_=>exact Wg ty
def OJ (K:W.Frag)(T:String)(r:V->List V->Hp->VK->Prop)(to:TE):TE:=fun σ H Q=>to σ H fun x H1=>tyV K T x H1/\r x [] H1 Q
def tBM (K:W.Frag)(T:String)(r:V->List V->Hp->VK->Prop)(to:TE)(t:TA):TE:=fun σ H Q=>to σ H fun x H1=>tyV K T x H1/\t σ H1 fun xs H2=>r x xs H2 Q
variable {o e:Expr}{es:List Expr}{to:TE}{t:TA}{name:Str}{apos cpos:Pos}{T id:String}{r:V->List V->Hp->VK->Prop}
def Pd (pa:Zi T)(slot:Slot T name id)(hty:typeOf (.builtin id)=pure (.type "method_descriptor"))(hm:MtR X id r)(ho:PE X o to)
  (hbase:attributeBase o name X.env (eval o X.env)=eval o X.env:=by rfl)(hline:(apos.endLine==cpos.line)=true:=by rfl):PE X (.Call (.Attribute o name apos) [] [] cpos) (OJ X.K T r to):=by
 intro pins s σ H Q I h
 refine wpAny_Call_method0_late hbase hline (thn (ho pins s σ H _ I h) fun v s1 ⟨x,H1,I1,r1,ty,q1⟩=>?_)
 obtain⟨h1,h2⟩:=Hm I1 r1 ty
 exact⟨T,id,pa,slot,hty,h1,h2,aaQ rfl (PySem.evalArgs_none (hm pins s1 σ H1 x [] v [] Q I1 r1 .nil q1))⟩
def SY (pa:Zi T)(slot:Slot T name id)(hty:typeOf (.builtin id)=pure (.type "method_descriptor"))(hm:MtR X id r)(ho:PE X o to)(ha:PA X (e::es) t)
  (hbase:attributeBase o name X.env (eval o X.env)=eval o X.env:=by rfl)
  (hfew:((backTo cpos (starEach (e::es) X.env)).all (fun x=> !x.1)&&(backToKw cpos (keywordEach [] X.env)).all (fun x=>x.1.isSome)
   &&decide ((e::es).length+([]:List Keyword).length+(if ([]:List Keyword).isEmpty then 0 else 1)<30))=true:=by rfl)
  (hline:(apos.endLine==cpos.line)=true:=by rfl)(hs:starEach (e::es) X.env=(false,eval e X.env)::starEach es X.env:=by rfl)(hplain:(backTo cpos (starEach es X.env)).any (·.1)=false:=by rfl):
  PE X (.Call (.Attribute o name apos) (e::es) [] cpos) (tBM X.K T r to t):=by
 intro pins s σ H Q I h
 refine wpAny_Call_method_late hbase hfew hline rfl (thn (ho pins s σ H _ I h) fun v s1 ⟨x,H1,I1,r1,ty,q1⟩=>?_)
 obtain⟨h1,h2⟩:=Hm I1 r1 ty
 refine⟨T,id,pa,slot,hty,h1,h2,?_⟩
 have hA:=ha cpos pins s1 σ H1 _ I1 q1
 rw[hs]at hA⊢
 refine aaQ (by show(false||(backTo cpos (starEach es X.env)).any (·.1))=false;rw[hplain]<;>rfl) (Calls.evalArgs_plain ?_)
 exact thn hA fun us s2 ⟨vs,H2,I2,r2,q2⟩=>hm pins s2 σ H2 x vs v us Q I2 r1 r2 q2
end
def MtM (X:Cx)(id:String)(r:V->List V->Hp->VK->Prop):Prop:=
 ∀(pins:List (Addr×Obj))(s:Bn)(σ:St)(H:Hp)(x:V)(xs:List V)(v:pz)(us:List pz)(Q:VK),Inv X pins σ H s->aL x v->aU xs us->r x xs H Q->
  wpAny (model X.prog X.w) X.A (call (.builtin id) (v::us)) (EP X pins σ Q) X.xe s
theorem aU.one:∀{x:V}{us:List pz},aU [x] us->∃u,us=[u]/\aL x u
 |_,_,.cons r .nil=>⟨_,rfl,r⟩
theorem aU.zero:∀{us:List pz},aU [] us->us=[]
 |_,.nil=>rfl
def aU.reverse {xs:List V}{us:List pz}(h:aU xs us):aU xs.reverse us.reverse:=by
 induction h with
 |nil=>exact .nil
 |cons r t ih=>rw[WV,WV];exact aU.append ih (.cons r .nil)
section
variable {X:Cx}{pins:List (Addr×Obj)}{σ:St}{H:Hp}{s:Bn}{l b:Addr}{xs ys zs:List V}
def Inv.lset {its its':List pz}{n:Nat}{f:Array pz->Array pz}{t':Nat}(I:Inv X pins σ H s)(hH:H l=some (.lst xs))
  (e:s.heap.get? l=some {cls:=.type "list",data:=.seq its.toArray n})(hf:f its.toArray=its'.toArray)(hv:aU ys its')(hz:ys.length<=sizeLine):
  Inv X pins σ (upd H l (.lst ys)) {s with heap:=s.heap.update l (Wy f),toks:=t'}:=by
 have q:=PySem.IsL.update e f
 rw[hf]at q
 refine I.write (x:=l) (e:=l) (by rw[hH];exact trivial) (.inl rfl) (fun b' u hb hu=>(WT s.heap (Wy f) (ab hb)).trans hu) ⟨_,q⟩ ?_
 exact⟨hz,its',_,hv,q⟩
def Inv.lnew {its:List pz}{t':Nat}(I:Inv X pins σ H s)(hv:aU ys its)(hz:ys.length<=sizeLine):
  Inv X pins σ (upd H s.heap.objs.size (.lst ys)) {s with heap:=s.heap.push {cls:=.type "list",data:=.seq its.toArray},toks:=t'}:=
 I.laid (fun a a q=>gV _ q) (sn _) ⟨hz,its,0,hv,Vr _ rfl⟩
def Inv.fresh (I:Inv X pins σ H s):H s.heap.objs.size=none:=I.hok.fresh (sn _)
def Inv.lstM (I:Inv X pins σ H s)(hH:H l=some (.lst xs)):xs.length<=sizeLine/\∃(its:List pz)(n:Nat),aU xs its/\xs.length=its.length/\s.heap.get? l=some {cls:=.type "list",data:=.seq its.toArray n}:=by
 obtain⟨z,its,n,r,e⟩:=I.hok l _ hH
 exact⟨z,its,n,r,r.length,e⟩
end
section
variable {X:Cx}
def LZ:V->List V->Hp->VK->Prop:=fun x vs H Q=>∃l xs y,x=.ref l/\vs=[y]/\H l=some (.lst xs)/\xs.length<sizeLine/\Q .non (upd H l (.lst (xs++[y])))
def zL:MtM X "list.append" LZ:=by
 intro pins s σ H x vs v us Q I rx rv h
 obtain⟨l,xs,y,rfl,rfl,hH,hz,q⟩:=h
 subst rx
 obtain⟨u,rfl,ru⟩:=rv.one
 obtain⟨z,its,n,r,hl,e⟩:=I.lstM hH
 refine acG Vw ⟨_,e,rfl⟩ F.entry_list_append (F.args_list_append_2 _ _) (PySem.list_append l its.toArray n u (by rw[Vv];lia)) ⟨e,?_⟩
 refine⟨.non,_,I.lset (its':=its++[u]) hH e (by simp) (r.append (.cons ru .nil)) ?_,rfl,q⟩
 rw[VU,aa7]
 lia
def Pc:R2:=fun x y H Q=>∃l b xs zs,x=.ref l/\y=.ref b/\H l=some (.lst xs)/\H b=some (.lst zs)/\xs.length+zs.length<=sizeLine/\∀p,H p=none->Q (.ref p) (upd H p (.lst (xs++zs)))
def Nz:OpR X (binaryOp .Add) Pc:=by
 intro pins s σ H x y v u Q I rx ry h
 obtain⟨l,b,xs,zs,rfl,rfl,hH,hB,hz,q⟩:=h
 subst rx
 subst ry
 obtain⟨z,its,n,r,hl,e⟩:=I.lstM hH
 obtain⟨z2,its2,n2,r2,hl2,e2⟩:=I.lstM hB
 refine PySem.P.add_list e e2 ?_ (by rw[Vv,Vv];lia)
 have ea:its.toArray++its2.toArray=(its++its2).toArray:=by simp
 rw[ea]
 exact⟨.ref _,_,I.lnew (t':=s.toks) (r.append r2) (by rw[VU];lia),rfl,q _ I.fresh⟩
end
section
variable {prog:VM}{w:Wm}{A:Wj}{E:pz->Bn->Prop}{s:Bn}
set_option maxRecDepth 100000 in
end
section
variable {κ:Type}[DecidableEq κ]
noncomputable def eQ (kvs:List (κ×V))(k:κ):Option V:=(kvs.find? fun kv=>decide (kv.1=k)).map (·.2)
noncomputable def fh (kvs:List (κ×V))(k:κ)(v:V):List (κ×V):=
 if (kvs.any fun kv=>decide (kv.1=k))=true then kvs.map (fun kv=>if kv.1=k then(kv.1,v)else kv)else kvs++[(k,v)]
noncomputable def kR (kvs:List (κ×V))(k:κ):List (κ×V):=kvs.filter fun kv=>decide (kv.1≠k)
def vU {p:κ×V}{r:List (κ×V)}{k:κ}(e:p.1=k):eQ (p::r) k=some p.2:=by simp[eQ,VY,e]
def wd {p:κ×V}{r:List (κ×V)}{k:κ}(e:¬p.1=k):eQ (p::r) k=eQ r k:=by simp[eQ,VY,e]
theorem Bv (k:κ):∀kvs:List (κ×V),(kvs.any fun kv=>decide (kv.1=k))=(eQ kvs k).isSome
 |[]=>rfl
 |p::r=>by
  rw[Yz]
  by_cases e:p.1=k
  ·simp only[vU e,decide_eq_true e,Bool.true_or,Option.isSome_some]
  ·rw[wd e,decide_eq_false e,Bool.false_or];exact Bv k r
def gY (kvs:List (κ×V))(k:κ)(v:V):(fh kvs k v).length<=kvs.length+1:=by
 unfold fh
 split
 ·rw[Vy];lia
 ·rw[VU,VS,List.length_nil];lia
def bE.isSome_eq {o:Option V}{u:Option pz}(r:bE o u):o.isSome=u.isSome:=by
 cases o with
 |none=>cases u with
  |none=>rfl
  |some _=>exact(show False from r).elim
 |some _=>cases u with
  |none=>exact(show False from r).elim
  |some _=>rfl
def KV.val {kvs:List (κ×V)}{vs:List (κ×pz)}(r:KV kvs vs)(k:κ):bE (eQ kvs k) (valueAt vs k):=by
 unfold KV at r
 induction r with
 |nil=>exact Xk
 | @cons p q ps qs h t ih=>
   obtain⟨h1,h2⟩:=h
   by_cases e:p.1=k
   ·have e':q.1=k:=h1.symm.trans e
    have b:valueAt (q::qs) k=some q.2:=by simp[valueAt,VY,e']
    rw[vU e,b];exact h2
   ·have e':¬q.1=k:=fun z=>e (h1.trans z)
    have b:valueAt (q::qs) k=valueAt qs k:=by simp[valueAt,VY,e']
    rw[wd e,b];exact ih
def KV.any {kvs:List (κ×V)}{vs:List (κ×pz)}(r:KV kvs vs)(k:κ):(kvs.any fun kv=>decide (kv.1=k))=vs.any fun kv=>decide (kv.1=k):=by
 unfold KV at r
 induction r with
 |nil=>rfl
 |cons h t ih=>rw[Yz,Yz,ih,h.1]
def KV.repl {kvs:List (κ×V)}{vs:List (κ×pz)}(r:KV kvs vs)(k:κ){y:V}{u:pz}(ry:aL y u):
  KV (kvs.map fun kv=>if kv.1=k then(kv.1,y)else kv) (vs.map fun kv=>if kv.1=k then(kv.1,u)else kv):=by
 unfold KV at r⊢
 induction r with
 |nil=>exact .nil
 | @cons p q ps qs h t ih=>
   rw[VI,VI]
   refine .cons ?_ ih
   obtain⟨h1,h2⟩:=h
   by_cases e:p.1=k
   ·rw[if_pos e,if_pos (h1.symm.trans e)];exact⟨h1,ry⟩
   ·rw[if_neg e,if_neg (fun z=>e (h1.trans z))];exact⟨h1,h2⟩
def KV.put {kvs:List (κ×V)}{vs:List (κ×pz)}(r:KV kvs vs)(k:κ){y:V}{u:pz}(ry:aL y u):KV (fh kvs k y) (stored vs k u):=by
 unfold fh stored
 rw[r.any k]
 by_cases e:(vs.any fun kv=>decide (kv.1=k))=true
 ·rw[if_pos e,if_pos e];exact r.repl k ry
 ·rw[if_neg e,if_neg e];exact Paired.snoc r ⟨rfl,ry⟩
def KV.drop {kvs:List (κ×V)}{vs:List (κ×pz)}(r:KV kvs vs)(k:κ):KV (kR kvs k) (without vs k):=by
 unfold KV at r⊢
 unfold kR without
 induction r with
 |nil=>exact .nil
 | @cons p q ps qs h t ih=>
   obtain⟨h1,h2⟩:=h
   rw[Zd,Zd]
   by_cases e:p.1=k
   ·have a:¬decide (p.1≠k)=true:=by simp[e]
    have b:¬decide (q.1≠k)=true:=by simp[h1.symm.trans e]
    rw[if_neg a,if_neg b];exact ih
   ·have e':¬q.1=k:=fun z=>e (h1.trans z)
    have a:decide (p.1≠k)=true:=by simp[e]
    have b:decide (q.1≠k)=true:=by simp[e']
    rw[if_pos a,if_pos b];exact .cons ⟨h1,h2⟩ ih
def KV.length {kvs:List (κ×V)}{vs:List (κ×pz)}(r:KV kvs vs):kvs.length=vs.length:=Paired.length r
def JE (kvs:List (κ×V))(k:κ):(kR kvs k).length<=kvs.length:=aa8 _ _
end
def lj {P:VM}{w:Wm}{k:Key}{u:pz}(r:aL (kV k) u):(bG P w).is k u=true:=by
 cases k with
 |inl i=>obtain⟨t,e⟩:=(show ∃t,u=YC i t from r);subst e;exact DG P w i t
 |inr x=>obtain⟨t,e⟩:=(show ∃t,u=XY x t from r);subst e;exact DI P w x t
def OP {a b:Key}(e:kV a=kV b):a=b:=by
 cases a with
 |inl i=>cases b with
  |inl j=>have e':V.int i=V.int j:=e;injection e' with e';rw[e']
  |inr y=>exact nomatch (show V.int i=V.str y from e)
 |inr x=>cases b with
  |inl j=>exact nomatch (show V.str x=V.int j from e)
  |inr y=>have e':V.str x=V.str y:=e;injection e' with e';rw[e']
theorem DZ:∀{a b:List Key},a.map kV=b.map kV->a=b
 |[],[],_=>rfl
 |[],_::_,e=>by simp at e
 |_::_,[],e=>by simp at e
 |x::xs,y::ys,e=>by
  rw[VI,VI]at e
  injection e with e1 e2
  rw[OP e1,DZ e2]
theorem Ab {P:VM}{w:Wm}:∀{ks:List Key}{us:List pz},aU (ks.map kV) us->ItemsAre (bG P w) ks us
 |[],_,r=>by rw[Zj]at r;cases r;exact .nil
 |k::ks,_,r=>by
  rw[VI]at r
  cases r with
  |cons h t=>exact .cons (lj h) (Ab t)
abbrev KT (H:Hp):List (List Key×V)->List (List Key×Addr×pz)->Prop:=Paired fun p q=>p.1=q.1/\H q.2.1=some (.tup (p.1.map kV))/\aL p.2 q.2.2
def KT.val {H:Hp}{kvs:List (List Key×V)}{xs:List (List Key×Addr×pz)}(r:KT H kvs xs)(k:List Key):bE (eQ kvs k) ((atKey xs k).map (·.2)):=by
 induction r with
 |nil=>exact Xk
 | @cons p q ps qs h t ih=>
   obtain⟨h1,a,h2⟩:=h
   by_cases e:p.1=k
   ·have e':q.1=k:=h1.symm.trans e
    have b:atKey (q::qs) k=some q.2:=by simp[atKey,VY,e']
    rw[vU e,b];exact h2
   ·have e':¬q.1=k:=fun z=>e (h1.trans z)
    have b:atKey (q::qs) k=atKey qs k:=by simp[atKey,VY,e']
    rw[wd e,b];exact ih
def KT.repl {H:Hp}{kvs:List (List Key×V)}{xs:List (List Key×Addr×pz)}(r:KT H kvs xs)(k:List Key){y:V}{u:pz}(ry:aL y u):
  KT H (kvs.map fun kv=>if kv.1=k then(kv.1,y)else kv) (xs.map (putAt k u)):=by
 induction r with
 |nil=>exact .nil
 | @cons p q ps qs h t ih=>
   rw[VI,VI]
   refine .cons ?_ ih
   obtain⟨h1,h2,h3⟩:=h
   unfold putAt
   by_cases e:p.1=k
   ·rw[if_pos e,if_pos (h1.symm.trans e)];exact⟨h1,h2,ry⟩
   ·rw[if_neg e,if_neg (fun z=>e (h1.trans z))];exact⟨h1,h2,h3⟩
def KT.put {H:Hp}{kvs:List (List Key×V)}{xs:List (List Key×Addr×pz)}(r:KT H kvs xs)(k:List Key){b:Addr}{y:V}{u:pz}(hb:H b=some (.tup (k.map kV)))(ry:aL y u):
  KT H (fh kvs k y) (storedH xs k b u):=by
 have e:(kvs.any fun kv=>decide (kv.1=k))=(atKey xs k).isSome:=by
  rw[Bv,(r.val k).isSome_eq,Yf]
 unfold fh storedH
 rw[e]
 by_cases q:(atKey xs k).isSome=true
 ·rw[if_pos q,if_pos q];exact r.repl k ry
 ·rw[if_neg q,if_neg q];exact Paired.snoc r ⟨rfl,hb,ry⟩
def KT.keeps {H H':Hp}{kvs:List (List Key×V)}{xs:List (List Key×Addr×pz)}(r:KT H kvs xs)(ht:∀b ys,H b=some (.tup ys)->H' b=some (.tup ys)):KT H' kvs xs:=
 Paired.mapP r fun a a z=>⟨z.1,ht _ _ z.2.1,z.2.2⟩
section
variable {P:VM}{w:Wm}{H:Hp}{h:Heap}{a:Addr}
def Kz {u:HO}(ok:HOk P w H h)(e:Rd H a u):ba P w H h a u:=e.ok ok
def kM {kvs:List (Key×V)}(ok:HOk P w H h)(e:Rd H a (.dK kvs)):kvs.length<=sizeLine/\(a==sysModules)=false/\∃vs,KV kvs vs/\h.DictOf (bG P w) a vs:=
 show ba P w H h a (.dK kvs)from Kz ok e
def tF {kvs:List (Key×V)}(ok:HOk P w H h)(e:H a=some (.dK kvs)):kvs.length<=sizeLine/\(a==sysModules)=false/\∃vs,KV kvs vs/\h.DictOf (bG P w) a vs:=kM ok (.inl e)
def jB {ks:List Key}(ok:HOk P w H h)(e:H a=some (.tup (ks.map kV))):(tupleKind (bG P w)).is h ks a:=by
 obtain⟨b,its,r,o,h1,h2,n,h3⟩:=(show ba P w H h a (.tup (ks.map kV))from ok a _ e)
 exact⟨o,its.toArray,n,h1,h2,h3,by simpa using Ab r⟩
def tQ {kvs:List (List Key×V)}(ok:HOk P w H h)(e:Rd H a (.dT kvs)):kvs.length<=sizeLine/\(a==sysModules)=false/\
  ∃xs,KT H kvs xs/\h.DictOfH (tupleKind (bG P w)) a xs:=by
 obtain⟨z,y,xs,r,o,es,ep,h1,h2,h3,h4,h5⟩:=(show ba P w H h a (.dT kvs)from Kz ok e)
 refine⟨z,y,xs,r,o,es,ep,h1,h2,h3,h4,fun x hx=>?_,h5⟩
 have all:∀{l:List (List Key×V)}{m:List (List Key×Addr×pz)},KT H l m->∀x∈m,(tupleKind (bG P w)).is h x.1 x.2.1:=by
  intro l m q
  induction q with
  |nil=>intro x hx;exact nomatch hx
  | @cons p q ps qs hq t ih=>
    intro x hx
    rcases tx.mp hx with e|hx
    ·subst e
     exact jB ok (by rw[<-hq.1];exact hq.2.1)
    ·exact ih x hx
 exact all r x hx
def EU {kvs:List (List Key×V)}(ok:HOk P w H h)(e:H a=some (.dT kvs)):kvs.length<=sizeLine/\(a==sysModules)=false/\
 ∃xs,KT H kvs xs/\h.DictOfH (tupleKind (bG P w)) a xs:=tQ ok (.inl e)
end
def fc (H:Hp)(a:Addr)(y:V)(r:Option V):Prop:=
 (∃kvs k,Rd H a (.dK kvs)/\y=kV k/\r=eQ kvs k)\/∃kvs k b,Rd H a (.dT kvs)/\y=.ref b/\H b=some (.tup (k.map kV))/\r=eQ kvs k
def ma (H:Hp)(a:Addr)(y v:V)(H':Hp):Prop:=
 (∃kvs k,H a=some (.dK kvs)/\y=kV k/\kvs.length<sizeLine/\H'=upd H a (.dK (fh kvs k v)))\/
 ∃kvs k b,H a=some (.dT kvs)/\y=.ref b/\H b=some (.tup (k.map kV))/\kvs.length<sizeLine/\H'=upd H a (.dT (fh kvs k v))
def fc.k {H:Hp}{a:Addr}{kvs:List (Key×V)}{k:Key}(e:H a=some (.dK kvs)):fc H a (kV k) (eQ kvs k):=.inl ⟨kvs,k,.inl e,rfl,rfl⟩
def fc.t {H:Hp}{a b:Addr}{kvs:List (List Key×V)}{k:List Key}(e:H a=some (.dT kvs))(eb:H b=some (.tup (k.map kV))):fc H a (.ref b) (eQ kvs k):=.inr ⟨kvs,k,b,.inl e,rfl,eb,rfl⟩
def ma.k {H:Hp}{a:Addr}{kvs:List (Key×V)}{k:Key}{v:V}(e:H a=some (.dK kvs))(hl:kvs.length<sizeLine):ma H a (kV k) v (upd H a (.dK (fh kvs k v))):=.inl ⟨kvs,k,e,rfl,hl,rfl⟩
def ma.t {H:Hp}{a b:Addr}{kvs:List (List Key×V)}{k:List Key}{v:V}(e:H a=some (.dT kvs))(eb:H b=some (.tup (k.map kV)))(hl:kvs.length<sizeLine):
 ma H a (.ref b) v (upd H a (.dT (fh kvs k v))):=.inr ⟨kvs,k,b,e,rfl,eb,hl,rfl⟩
section
variable {X:Cx}{pins:List (Addr×Obj)}{σ:St}{H:Hp}{s:Bn}{a:Addr}{y v:V}{u r:pz}{o:Option V}{A:Wj}{E:pz->Bn->Prop}
def Inv.big (I:Inv X pins σ H s):sysModules<s.heap.objs.size:=by
 have h:mainGlobals<s.heap.objs.size:=(I.mod.glob.keeps I.bk).lt
 exact abk (by decide) h
def Gu {Q:pz->Bn->Prop}(hu:A.units+1<cLine)(I:Inv X pins σ H s)(g:fc H a y (some v))(ry:aL y u)(h:∀w' s',Inv X pins σ H s'->aL v w'->Q w' s'):
  wpAny (model X.prog X.w) A (getItem (.ref a) u) Q E s:=by
 rcases g with⟨kvs,k,e,ey,l⟩|⟨kvs,k,b,e,ey,eb,l⟩
 ·subst ey
  obtain⟨z,hd,vs,rel,dd⟩:=kM I.hok e
  obtain⟨w',hw,rw'⟩:=bE.some_of (v:=v) (o:=valueAt vs k) (by rw[l];exact rel.val k)
  exact wpAny_getItem_of (lj ry) dd.mapOf hw (h w' _ (I.tok _) rw')
 ·subst ey
  obtain rfl:u=Lt b:=ry
  obtain⟨z,hd,xs,rel,dd⟩:=tQ I.hok e
  obtain⟨w',hw,rw'⟩:=bE.some_of (v:=v) (o:=(atKey xs k).map (·.2)) (by rw[l];exact rel.val k)
  obtain⟨p,hp,hp2⟩:=WM.mp hw
  refine wpAny_getItem_heap (XN hu) (jB I.hok eb) dd hp ?_
  rw[hp2]
  exact h w' _ (I.tok _) rw'
def Vo {Q:pz->Bn->Prop}(hu:A.units+1<cLine)(I:Inv X pins σ H s)(g:fc H a y o)(ry:aL y u)(h:∀s',Inv X pins σ H s'->Q (.bool o.isSome) s'):
  wpAny (model X.prog X.w) A (compareOp .In u (.ref a)) Q E s:=by
 rcases g with⟨kvs,k,e,ey,l⟩|⟨kvs,k,b,e,ey,eb,l⟩
 ·subst ey
  obtain⟨z,hd,vs,rel,dd⟩:=kM I.hok e
  refine wpAny_in_of (lj ry) hd dd.mapOf ?_
  rw[<-(rel.val k).isSome_eq,<-l]
  exact h _ (I.tok _)
 ·subst ey
  obtain rfl:u=Lt b:=ry
  obtain⟨z,hd,xs,rel,dd⟩:=tQ I.hok e
  refine wpAny_in_heap (XN hu) (jB I.hok eb) hd dd ?_
  have q:=(rel.val k).isSome_eq
  rw[Yf]at q
  rw[<-q,<-l]
  exact h _ (I.tok _)
def Mx {Q:pz->Bn->Prop}(hu:A.units+1<cLine)(I:Inv X pins σ H s)(g:fc H a y o)(ry:aL y u)(h:∀s',Inv X pins σ H s'->Q (.bool (!o.isSome)) s'):
  wpAny (model X.prog X.w) A (compareOp .NotIn u (.ref a)) Q E s:=by
 rcases g with⟨kvs,k,e,ey,l⟩|⟨kvs,k,b,e,ey,eb,l⟩
 ·subst ey
  obtain⟨z,hd,vs,rel,dd⟩:=kM I.hok e
  refine wpAny_notIn_of (lj ry) hd dd.mapOf ?_
  rw[<-(rel.val k).isSome_eq,<-l]
  exact h _ (I.tok _)
 ·subst ey
  obtain rfl:u=Lt b:=ry
  obtain⟨z,hd,xs,rel,dd⟩:=tQ I.hok e
  refine wpAny_notIn_heap (XN hu) (jB I.hok eb) hd dd ?_
  have q:=(rel.val k).isSome_eq
  rw[Yf]at q
  rw[<-q,<-l]
  exact h _ (I.tok _)
def mW {h':Heap}{t':Nat}{ob:HO}(I:Inv X pins σ H s)(mu:Mut (H a))(hs:XF a s.heap h')(he:∃q,h'.get? a=some q)(new:ba X.prog X.w (upd H a ob) h' a ob):
  Inv X pins σ (upd H a ob) {s with heap:=h',toks:=t'}:=
 I.write (x:=a) (e:=a) mu (.inl rfl) (fun b q hb z=>(hs.2 b hb).trans z) he new
def xU {P:VM}{w:Wm}{H':Hp}{h':Heap}{kvs:List (Key×V)}{vs:List (Key×pz)}(z:kvs.length<=sizeLine)(hd:(a==sysModules)=false)(rel:KV kvs vs)(dd:h'.DictOf (bG P w) a vs):
 ba P w H' h' a (.dK kvs):=⟨z,hd,vs,rel,dd⟩
def Ia {H':Hp}{Q:Unit->Bn->Prop}(hu:A.units+1<cLine)(I:Inv X pins σ H s)(g:ma H a y v H')(ry:aL y u)(rv:aL v r)(h:∀s',Inv X pins σ H' s'->Q () s'):
  wpAny (model X.prog X.w) A (setItem (.ref a) u r) Q E s:=by
 rcases g with⟨kvs,k,e,ey,l,eH⟩|⟨kvs,k,b,e,ey,eb,l,eH⟩
 ·subst ey eH
  obtain⟨z,hd,vs,rel,dd⟩:=tF I.hok e
  have hz:vs.length<=sizeLine:=by rw[<-rel.length];exact z
  have hl:(fh kvs k v).length<=sizeLine:=by have:=gY kvs k v;lia
  refine wpAny_setItem_pairs (hsz:=hz) (lj ry) dd fun h' dd' hs=>h _ ?_
  have he:∃q,h'.get? a=some q:=let ⟨q,_,_,hq,_⟩:=dd';⟨q,hq⟩
  exact mW I (by rw[e];exact Xk) hs he (xU hl hd (rel.put k rv) dd')
 ·subst ey eH
  obtain rfl:u=Lt b:=ry
  obtain⟨z,hd,xs,rel,dd⟩:=EU I.hok e
  have hz:xs.length<=sizeLine:=by rw[<-Paired.length rel];exact z
  have hl:(fh kvs k v).length<=sizeLine:=by have:=gY kvs k v;lia
  refine wpAny_setItem_heap (hsz:=hz) (XN hu) (jB I.hok eb) dd fun h' dd' hs=>h _ ?_
  obtain⟨q,es,ep,hq,h2,h3,h4,d,h5⟩:=dd'
  refine mW I (by rw[e];exact Xk) hs ⟨q,hq⟩ ⟨hl,hd,_,(rel.put k eb rv).keeps fun c ys ec=>?_,q,es,ep,hq,h2,h3,h4,h5⟩
  rw[ay (lr ec e (fun z=>nomatch z))]
  exact ec
end
section
variable {X:Cx}{pins:List (Addr×Obj)}{σ:St}{H:Hp}{s:Bn}{a:Addr}{kvs:List (Key×V)}{k:Key}{u:pz}{A:Wj}{E:pz->Bn->Prop}
def Rf {v:V}{more:List pz}{Q:pz->Bn->Prop}(I:Inv X pins σ H s)(e:H a=some (.dK kvs))(ry:aL (kV k) u)(l:eQ kvs k=some v)(hm:more=[]\/∃x,more=[x])
  (h:∀w' s',Inv X pins σ (upd H a (.dK (kR kvs k))) s'->aL v w'->Q w' s'):wpAny (model X.prog X.w) A (call (.builtin "dict.pop") (.ref a::u::more)) Q E s:=by
 obtain⟨z,hd,vs,rel,dd⟩:=tF I.hok e
 obtain⟨w',hw,rw'⟩:=bE.some_of (v:=v) (o:=valueAt vs k) (by rw[<-l];exact rel.val k)
 have hp:(keyPart u).isSome=true:=by
  cases k with
  |inl i=>obtain⟨t,q⟩:=(show ∃t,u=YC i t from ry);subst q;rfl
  |inr x=>obtain⟨t,q⟩:=(show ∃t,u=XY x t from ry);subst q;rfl
 have ha:argsOk "dict.pop" ⟨.ref a::u::more,[]⟩:=by
  rcases hm with q|⟨x,q⟩
  ·subst q;exact PySem.F.args_dict_pop_2 _ _
  ·subst q;exact PySem.F.args_dict_pop_3 _ _ _
 refine ZH aaM dd.typeIs PySem.F.entry_dict_pop ha (meets_dict_pop_there (bG X.prog X.w) a (lj ry) more hm hp)
  ⟨vs,w',dd,by rw[<-rel.length];exact z,hw,fun h' dd' hs=>h w' _ ?_ rw'⟩
 have he:∃q,h'.get? a=some q:=let ⟨q,_,_,hq,_⟩:=dd';⟨q,hq⟩
 exact mW I (by rw[e];exact Xk) hs he (xU (VO (JE kvs k) z) hd (rel.drop k) dd')
def Rm {Q:pz->Bn->Prop}(I:Inv X pins σ H s)(e:Rd H a (.dK kvs))(h:∀t s',Inv X pins σ H s'->Q (.int kvs.length t) s'):wpAny (model X.prog X.w) A (call (.builtin "len") [.ref a]) Q E s:=by
 obtain⟨z,hd,vs,rel,dd⟩:=kM I.hok e
 refine call_len_dict hd dd (by rw[<-rel.length];rw[VE]at z;lia) ?_
 rw[<-rel.length]
 exact h _ _ (I.tok _)
end
def Dy {X:Cx}{pins:List (Addr×Obj)}{σ:St}{H:Hp}{s:Bn}{a:Addr}{y:V}{o:Option V}(I:Inv X pins σ H s)(g:fc H a y o):s.TypeIs (.ref a) "dict":=by
 rcases g with⟨kvs,k,e,c,c⟩|⟨kvs,k,b,e,c,c,c⟩
 ·obtain⟨c,c,vs,c,dd⟩:=kM I.hok e
  exact dd.typeIs
 ·obtain⟨c,c,xs,c,dd⟩:=tQ I.hok e
  exact dd.typeIs
def IT {P:VM}{w:Wm}{H:Hp}(h:Heap)(hb:sysModules<h.objs.size):ba P w H (h.push {cls:=.type "dict",data:=.dict #[]}) h.objs.size (.dK []):=
 ⟨VW _,beq_eq_false_iff_ne.mpr (ab (VD hb)),[],.nil,Heap.DictOf.new h⟩
def Ju {P:VM}{w:Wm}{H:Hp}(h:Heap)(hb:sysModules<h.objs.size):ba P w H (h.push {cls:=.type "dict",data:=.dict #[]}) h.objs.size (.dT []):=
 ⟨VW _,beq_eq_false_iff_ne.mpr (ab (VD hb)),[],.nil,_,#[],0,Vr _ rfl,⟨rfl,rfl,rfl⟩,rfl,rfl,Yo⟩
def Iq:TE:=fun a H Q=>∀p,H p=none->Q (.ref p) (upd H p (.dK []))
def Ha:TE:=fun a H Q=>∀p,H p=none->Q (.ref p) (upd H p (.dT []))
section
variable {X:Cx}{pos:Pos}
def JB:PE X (.Dict [] [] pos) Iq:=fun pins s σ H Q I h=>
 wpAny_Dict_empty ⟨.ref s.heap.objs.size,_,I.laid (a:=s.heap.objs.size) (o:=.dK []) (t':=s.toks) (fun b b q=>gV _ q) (sn _) (IT s.heap I.big),rfl,h _ (I.hok.fresh (sn _))⟩
def IK:PE X (.Dict [] [] pos) Ha:=fun pins s σ H Q I h=>
 wpAny_Dict_empty ⟨.ref s.heap.objs.size,_,I.laid (a:=s.heap.objs.size) (o:=.dT []) (t':=s.toks) (fun b b q=>gV _ q) (sn _) (Ju s.heap I.big),rfl,h _ (I.hok.fresh (sn _))⟩
end
def GS:List (TE×TE)->St->Hp->(List (V×V)->Hp->Prop)->Prop
 |[],_,H,Q=>Q [] H
 |(tk,tv)::r,σ,H,Q=>tk σ H fun x H1=>tv σ H1 fun y H2=>GS r σ H2 fun ps H3=>Q ((x,y)::ps) H3
abbrev VV:List (V×V)->List (pz×pz)->Prop:=Paired fun p q=>aL p.1 q.1/\aL p.2 q.2
def PPs (X:Cx)(pos:Pos)(keys:List (Option Expr))(values:List Expr)(trs:List (TE×TE)):Prop:=
 ∀(pins:List (Addr×Obj))(s:Bn)(σ:St)(H:Hp)(Q:List (V×V)->Hp->Prop),Inv X pins σ H s->GS trs σ H Q->
  wpAny (model X.prog X.w) X.A (evalPairs (pairTrees keys values X.env pos)) (fun vs s'=>∃ps H',Inv X pins σ H' s'/\VV ps vs/\Q ps H') X.xe s
structure M2 (X:Cx)(o:Expr)(m:Str)(apos:Pos)(e f:Expr)(cpos:Pos):Prop where
 base:attributeBase o m X.env (eval o X.env)=eval o X.env
 few:((backTo cpos (starEach [e,f] X.env)).all (fun x=> !x.1)&&(backToKw cpos (keywordEach [] X.env)).all (fun x=>x.1.isSome)
  &&decide (([e,f]:List Expr).length+([]:List Keyword).length+(if ([]:List Keyword).isEmpty then 0 else 1)<30))=true
 line:(apos.endLine==cpos.line)=true
 trees:backTo cpos (starEach [e,f] X.env)=[(false,eval e X.env),(false,eval f X.env)]
section
variable {X:Cx}{pins:List (Addr×Obj)}{σ:St}{H:Hp}{s:Bn}{a:Addr}{kvs:List (Key×V)}{A:Wj}{E:pz->Bn->Prop}
def Iz {Q:pz->Bn->Prop}(I:Inv X pins σ H s)(e:Rd H a (.dK kvs))(h:∀p s',H p=none->Inv X pins σ (upd H p (.dK kvs)) s'->Q (.ref p) s'):wpAny (model X.prog X.w) A (call (.type "dict") [.ref a]) Q E s:=by
 obtain⟨z,hd,vs,rel,dd⟩:=kM I.hok e
 refine kt_call_dict hd dd (by rw[<-rel.length];exact z) fun h' dd' hs=>?_
 refine h _ _ (I.hok.fresh (sn _)) (I.laid (a:=s.heap.objs.size) (o:=.dK kvs) (t':=s.toks) (fun b q hq=>?_) (sn _) (xU z (beq_eq_false_iff_ne.mpr (ab (VD I.big))) rel dd'))
 exact(hs.2 b (VD (Vq hq))).trans (gV _ hq)
end
end L2
namespace Att
open PySem PySem.W PySem.Calls PyProof.Rows
def ints_of_wellAll {P:Params}{h:Heap}:∀(ns:List Int)(vs:List pz),WellAll P h vs (ns.map WData.int)->aa1 vs ns:=by
 intro ns
 induction ns with
 |nil=>
  intro vs w
  rw[Zj]at w
  cases w
  exact .nil
 |cons n ns ih=>
  intro vs w
  rw[VI]at w
  cases w with
  |cons a b=>
   cases a
   exact .cons _ _ (ih _ b)
def script_of {l:OpenLaw}{n:Nat}(hn:l.most=some n){P:Params}{h:Heap}{args:List WData}{vals:List pz}
  (hpre:l.row.toRowW.claim.pre args=true)(hwl:WellAll P h vals args):
  ∃a vs ns,vals=[Lt a]/\args=[WData.list (ns.map WData.int)]/\h.get? a=some {cls:=.type "list",data:=.seq vs.toArray}/\aa1 vs ns/\ns.length<=n:=by
 have hsh:WShape.hasAll [] args [.list .int]=true:=(pre_splitW hpre).1
 have hc:l.pre.holds [] {args:=args}=true:=(pre_splitW hpre).2
 obtain⟨d,r,rfl,h1,h2⟩:=hasAllW_cons hsh
 obtain rfl:=hasAllW_nil h2
 obtain⟨xs,rfl,h3⟩:=hasW_list h1
 obtain⟨ns,rfl⟩:=items_int h3
 have hlen:ns.length<=n:=by
  unfold OpenLaw.pre at hc
  have h4:(WTm.not (.lt (.lit (.int (n:Int))) (.len (.arg 0)))).holds [] {args:=[.list (ns.map .int)]}=true:=by
   have h4:=(holds_andW hc).1
   rw[hn]at h4
   exact h4
  have h5:=condW_of h4 (w_not (w_lt w_lit (w_len_list (w_arg rfl))))
  rw[Vy]at h5
  refine Nat.le_of_not_lt fun q=>?_
  have q':(n:Int)<((ns.length:Nat):Int):=by lia
  first
   |(rw[decide_eq_true q']at h5;exact absurd h5 (by decide))
   |(simp at h5;lia)
 cases hwl with
 |cons w1 w2=>
  cases w2
  cases w1 with
  |list ho hall=>exact⟨_,_,ns,rfl,rfl,ho,ints_of_wellAll ns _ hall,hlen⟩
def post_true (l:OpenLaw)(args:List WData):l.row.toRowW.claim.post args (.bool true) args=true:=
 postW_of (r:=l.row.toRowW) (X:=(true==true))
  (show WShape.has [] (.bool true) .bool=true by first|rfl|decide|simp[WShape.has,WShape.arms,WShape.armsAll])
  (show(WTm.eq .res (.lit (.bool true))).value [] {args:=args,res:=some (.bool true),after:=args}=some (.bool (true==true))from w_eq_bool (w_res rfl) w_lit) rfl
def attach_call {l:OpenLaw}{n:Nat}{q:VM}{loose:List Str}{XP:(Str->Option pz)->Heap->Prop}{YP:Wm->Heap->Prop}{d:DefRec}
  (hn:l.most=some n)(hdf:d.params.defaults=[])
  (call:∀(w:Wm)(s₀ s₁:Bn)(mg mb:Str->Option pz)(fa:Addr)(o:Obj)(pm cd doc:pz)(a:Addr)(vs:List pz)(ns:List Int),
   Ground q loose [] XP w s₀ mg mb s₁.heap->YP w s₁.heap->
   s₁.heap.get? fa=some o->o.data=.func (docDef d.name d.params d.body d.scope pm cd doc)->s₁.heap.CodeRec cd d.name->mg d.name=some (.ref fa)->
   s₁.heap.get? a=some {cls:=.type "list",data:=.seq vs.toArray}->aa1 vs ns->ns.length<=n->s₁.gens=#[]->
   codeAny (model l.prog w) callerA (.call (.ref fa) ⟨[.ref a],[]⟩) (fun r s'=>r=.ok (.ret (.bool true))/\OldK s₁.heap s'.heap/\s'.os=s₁.os/\Zn s'.gens) s₁):
  WalkO q loose XP YP l.row.toRowW d [] (fun f vs=>abA f vs):=by
 intro w s₀ s₁ mg mb G Y fa o pm cd doc dV kV ho hd hcd hD hmg hg args vals as hpre hlay hrd hwl hlo
 obtain rfl:dV=.none:=Dflts.none hD hdf
 obtain rfl:kV=.none:=Dflts.noKw hD
 obtain⟨a,vs,ns,rfl,rfl,hobj,hints,hlen⟩:=script_of hn hpre hwl
 refine enter_call (YA (call w s₀ s₁ mg mb fa o pm cd doc a vs ns G Y ho (fd_plain hd) hcd hmg hobj hints hlen hg) fun r s' hq=>?_)
 obtain⟨rfl,h2,h3,h4⟩:=hq
 exact⟨.inl ⟨.bool true,.bool true,[],rfl,fun b=>rfl,.bool true,post_true l _,fun b=>⟨aaB,fun b hm=>(nomatch hm)⟩⟩,h2,h3,h4⟩
end Att
namespace L2
open PySem PySem.Spec PyProof.Rows
theorem si:∀{vs:List pz}{ns:List Int},aa1 vs ns->aU (ns.map V.int) vs
 |_,_,.nil=>.nil
 |_,_,.cons n t h=>.cons ⟨t,rfl⟩ (si h)
def dR (s:Stmt):Arguments:=match s with
 |.FunctionDef _ a _ _ _ _ _ _ _ _=>a
 |_=>{posonlyargs:=[],args:=[],vararg:=none,kwonlyargs:=[],kw_defaults:=[],kwarg:=none,defaults:=[]}
def bv (s:Stmt):List Stmt:=match s with
 |.FunctionDef _ _ b _ _ _ _ _ _ _=>b
 |_=>[]
noncomputable def ai (s:Stmt):Scope:=match s with
 |.FunctionDef _ _ _ _ _ _ sc _ _ _=>sc
 |_=>{kind:=.function,names:=[],isGenerator:=false,isCoroutine:=false}
abbrev E0:XK:=fun a a a=>False
structure Fun (K:W.Frag)(x qual:Str)(st:Stmt)(f:Addr)(fd:Gt):Prop where
 ex:∃(oc:pz)(od:Option Addr)(kV doc pm:pz)(an:Option Addr)(cdv ct:pz)(osl:Array (Option pz)),
  fd=W.fnOf x qual (dR st) (bv st) (ai st) .none kV doc pm an cdv ct/\K.lookup f=some ⟨oc,od,.func fd,osl⟩/\W.codeIn K cdv qual=true
 kp:W.keepIn K (.ref f)=true
section
variable {P:VM}{w:Wm}{K:W.Frag}{mg:Str->Option pz}{base:Heap}
def Fun.binds {x qual:Str}{st:Stmt}{f:Addr}{fd:Gt}{ps:List Str}(F:Fun K x qual st f fd)
  (h:∀(kV doc pm:pz)(an:Option Addr)(cdv ct:pz)(us:List pz),us.length=ps.length->bindArgs (W.fnOf x qual (dR st) (bv st) (ai st) .none kV doc pm an cdv ct) ⟨us,[]⟩=pure (ps.zip us)):bX K fd ps []:=by
 obtain⟨oc,od,kV,doc,pm,an,cdv,ct,osl,rfl,lk,hcd⟩:=F.ex
 exact .all (h kV doc pm an cdv ct)
def au {x qual:Str}{st:Stmt}{f:Addr}{oc:pz}{od an:Option Addr}{osl:Array (Option pz)}{kV doc pm cdv ct:pz}(l:K.lookup f=some ⟨oc,od,.func (W.fnOf x qual (dR st) (bv st) (ai st) .none kV doc pm an cdv ct),osl⟩)
 (c:W.codeIn K cdv qual=true)(k:W.keepIn K (.ref f)=true):Fun K x qual st f (W.fnOf x qual (dR st) (bv st) (ai st) .none kV doc pm an cdv ct):=⟨⟨oc,od,kV,doc,pm,an,cdv,ct,osl,rfl,l,c⟩,k⟩
end
section
variable {X:Cx}
def Hf:bq X (.builtin "len") (fun xs H Q=>∃a kvs,xs=[V.ref a]/\H a=some (.dK kvs)/\Q (.int kvs.length) H):=by
 intro pins s σ H xs us Q I r h
 obtain⟨a,kvs,rfl,ha,q⟩:=h
 obtain⟨u,rfl,ru⟩:=eC r
 subst ru
 exact Rm I (.inl ha) fun t s' I'=>⟨.int kvs.length,H,I',⟨t,rfl⟩,q⟩
end
def bc (H H':Hp):Prop:=∀b o,H b=some o->H' b=some o
def bc.refl (H:Hp):bc H H:=fun a a h=>h
def bc.trans {H H1 H2:Hp}(a:bc H H1)(b:bc H1 H2):bc H H2:=fun c o h=>b c o (a c o h)
noncomputable def eP:List (Str×Xu)->List (Str×Addr)->List (Str×Addr)->List (Str×Addr)
 |[],_,cs=>cs
 |(n,k)::r,cells,cs=>eP r cells (if k==.free then(match cells.lookup n with|some a=>(n,a)::cs|none=>cs)else cs)
def BW {scope:Scope}{env:Env}(h:∀y∈scope.names,y.2=.free->(env.cells.lookup y.1).isSome=true):closureFor scope env=pure (eP scope.names env.cells []):=by
 have key:∀(l:List (Str×Xu))(cs:List (Str×Addr)),(∀y∈l,y.2=.free->(env.cells.lookup y.1).isSome=true)->
   (forIn l cs (fun(x:Str×Xu)(cs:List (Str×Addr))=>(if (x.2==Xq)=true then(do let a<-cellOf env x.1;pure (abn ((x.1,a)::cs)))else(pure (abn cs):Sem _))):Sem (List (Str×Addr)))=pure (eP l env.cells cs):=by
  intro l
  induction l with
  |nil=>intro cs b;rfl
  |cons y r ih=>
   intro cs hy
   obtain⟨n,k⟩:=y
   rw[Yb]
   by_cases hk:k=.free
   ·subst hk
    have hs:=hy (n,.free) cW rfl
    cases e:env.cells.lookup n with
    |none=>rw[e]at hs;injection hs
    |some a=>
     have:=ih ((n,a)::cs) (fun z hz=>hy z (Vu _ hz))
     simp only[eP,beq_self_eq_true,if_true,e,cellOf,ab7]
     exact this
   ·have hb:(k==Xq)=false:=by simpa using hk
    have:=ih cs (fun z hz=>hy z (Vu _ hz))
    simp only[eP,hb,WG,if_false,ab7]
    exact this
 have:=key scope.names [] h
 unfold closureFor
 simpa using this
theorem zE:∀{l:List (Str×Xu)}{cells cs:List (Str×Addr)}{x:Str}{c:Addr},(∀x c,cs.lookup x=some c->cells.lookup x=some c)->(eP l cells cs).lookup x=some c->cells.lookup x=some c
 |[],_,_,_,_,h,e=>h _ _ e
 |(n,k)::r,cells,cs,x,c,h,e=>by
  refine zE (l:=r) (fun y d hy=>?_) e
  split at hy
  ·split at hy
   ·rename_i a ha
    by_cases hyn:y=n
    ·subst hyn
     rw[aa6]at hy
     rw[<-hy];exact ha
    ·rw[WK]at hy
     have:(y==n)=false:=by simpa using hyn
     rw[this]at hy
     exact h _ _ hy
   ·exact h _ _ hy
  ·exact h _ _ hy
theorem xi:∀{l:List (Str×Xu)}{cells cs:List (Str×Addr)}{x:Str},(cs.lookup x).isSome=true->((eP l cells cs).lookup x).isSome=true
 |[],_,_,_,h=>h
 |(n,k)::r,cells,cs,x,h=>by
  refine xi (l:=r) ?_
  split
  ·split
   ·rw[WK]
    split
    ·rfl
    ·exact h
   ·exact h
  ·exact h
theorem rC:∀{l:List (Str×Xu)}{cells cs:List (Str×Addr)}{x:Str},(x,Xq)∈l->(cells.lookup x).isSome=true->((eP l cells cs).lookup x).isSome=true
 |[],_,_,_,h,_=>by cases h
 |(n,k)::r,cells,cs,x,h,hs=>by
  rcases tx.mp h with e|h
  ·cases e
   refine xi (l:=r) ?_
   simp only[beq_self_eq_true,if_true]
   cases e:cells.lookup n with
   |none=>rw[e]at hs;cases hs
   |some a=>simp only[aa6];rfl
  ·exact rC (l:=r) h hs
def xY {x:Str}{k:Xu}:∀{l:List (Str×Xu)},l.lookup x=some k->(x,k)∈l:=fun h=>WU h
inductive kD (X:Cx)(scope:Scope):List Str->List Nat->Prop where
 |nil:kD X scope [] []
 |cons {y:Str} {i:Nat} {ys:List Str} {is:List Nat} (h1:X.N[i]?=some y) (h2:X.env.kindOf y=some .cell\/X.env.kindOf y=some .free) (h3:scope.names.lookup y=some .free) (h:kD X scope ys is):kD X scope (y::ys) (i::is)
structure iB (scope:Scope)(x:Str)(ys:List Str):Prop where
 kind:scope.kind=.function
 nocell:∀y∈scope.names,y.2≠.cell
 names:∀y∈scope.names,y.2=.local->scope.names.lookup y.1=some .local
 own:scope.names.lookup x=some .local
 all:∀y∈scope.names,y.2=.free->y.1∈ys
 nd:(x::ys).Nodup
def bw (X:Cx)(scope:Scope)(C:Addr)(N:List Str)(s:Bn)(H:Hp)(fp:List Addr):Cx:=
 {X with N:=N,s₀:=s,H₀:=H,env:=compEnvC scope (eP scope.names X.env.cells []) C X.env,outer:=X.stack,ex:=fp,fn:=fun a=>false,pn:=[],xe:=fun a a=>False}
noncomputable def bC (σ:St)(is:List Nat):St:=is.map fun i=>(σ[i]?).getD none
theorem nU {f:Str×Xu->Str×Xu}(hf:∀p,(f p).1=p.1){x:Str}:∀(l:List (Str×Xu)),(l.map f).lookup x=(l.lookup x).map fun k=>(f (x,k)).2
 |[]=>rfl
 |(n,k)::r=>by
  have ih:=nU hf (x:=x) r
  have e:f (n,k)=(n,(f (n,k)).2):=acy (hf (n,k)) rfl
  rw[VI,e,WK,WK]
  cases hx:x==n with
  |true=>
   have e':x=n:=by simpa using hx
   subst e';rfl
  |false=>exact ih
def oO (scope:Scope)(env:Env)(x:Str):(relabel scope env).names.lookup x=(scope.names.lookup x).map fun k=>if (k==Xq&&env.scope.kind==.function&&env.kindOf x==some .cell)then YJ else k:=by
 have hf:∀p:Str×Xu,((fun(n,k)=>if (k==Xq&&env.scope.kind==.function&&env.kindOf n==some .cell)then(n,YJ)else(n,k)) p:Str×Xu).1=p.1:=by
  intro p
  obtain⟨n,k⟩:=p
  show(if _ then(n,YJ)else(n,k)).1=n
  split<;>rfl
 have:=nU hf (x:=x) scope.names
 show Xo x (Wt _ scope.names)=_
 rw[this]
 congr 1
 funext k
 show(if _ then(x,YJ)else(x,k)).2=_
 split<;>rfl
def mZ {scope:Scope}{env:Env}{x:Str}{k:Xu}(nc:∀y∈scope.names,y.2≠.cell)(h:(relabel scope env).names.lookup x=some k)(hk:k=.cell\/k=.free):(x,Xq)∈scope.names:=by
 rw[oO]at h
 cases q:scope.names.lookup x with
 |none=>rw[q]at h;injection h
 |some k'=>
  have hm:=xY q
  rw[q]at h
  have h:(if (k'==Xq&&env.scope.kind== .function&&env.kindOf x==some .cell)then YJ else k')=k:=VR h
  by_cases hc:k'=.free
  ·subst hc;exact hm
  ·have hb:(k'==Xq)=false:=by simpa using hc
   rw[hb]at h
   have h:k'=k:=h
   subst h
   rcases hk with z|z
   ·exact absurd z (nc _ hm)
   ·exact absurd z hc
def Ct {scope:Scope}{env:Env}{x:Str}(h:scope.names.lookup x=some .free):(relabel scope env).names.lookup x=some .cell\/(relabel scope env).names.lookup x=some .free:=by
 rw[oO,h]
 show some (if _ then _ else _)=_\/some (if _ then _ else _)=_
 split
 ·exact .inl rfl
 ·exact .inr rfl
def Af {scope:Scope}{env:Env}{x:Str}(h:scope.names.lookup x=some .local):(relabel scope env).names.lookup x=some .local:=by
 rw[oO,h];rfl
def GG {X:Cx}{scope:Scope}{ys:List Str}{is:List Nat}{m:Str->Option pz}{h:Heap}{σ:St}(hc:kD X scope ys is)
  (hl:∀(i:Nat)(x:Str)(v:V),X.N[i]? =some x->σ[i]? =some (some v)->Vis X.env.scope x->∃u,aL v u/\NQ X.env h m x u)(nd:True):
  ∀(j:Nat)(y:Str)(v:V),ys[j]? =some y->(bC σ is)[j]? =some (some v)->∃u,aL v u/\scope.names.lookup y=some .free/\∃c,X.env.cells.lookup y=some c/\h.IsCell c (some u):=by
 induction hc with
 |nil=>intro j y v e;simp at e
 | @cons z i zs js h1 h2 h3 hr ih=>
   intro j y v e1 e2
   cases j with
   |zero=>
    simp at e1;subst e1
    have e2:(σ[i]?).getD none=some v:=by simpa[bC]using e2
    have e3:σ[i]? =some (some v):=by
     cases q:σ[i]? with
     |none=>rw[q]at e2;simp at e2
     |some o=>rw[q]at e2;simp at e2;rw[e2]
    have hv:Vis X.env.scope z:=by
     rcases h2 with q|q
     ·exact .inr (.inl q)
     ·exact .inr (.inr q)
    obtain⟨u,r,l⟩:=hl i z v h1 e3 hv
    refine⟨u,r,h3,?_⟩
    rcases l with⟨k,a⟩|⟨a,c,e,ic⟩
    ·rcases h2 with q|q
     ·rw[q]at k;cases k
     ·rw[q]at k;cases k
    ·exact⟨c,e,ic⟩
   |succ j=>
    exact ih j y v (by simpa using e1) (by simpa[bC]using e2)
def Ks (is:List Nat)(tc:TT)(te:TE)(σ:St)(D:Addr)(J:It)(H1:Hp)(Q:VK):Prop:=∃W:Nat->Nat->List V->Hp->Prop,(∃m,W 0 m [] (upd H1 D (.lst [])))/\
 ∀i m ys H2,W i m ys H2->(J.stop i H2/\Q (.ref D) H2)\/(J.go i H2/\∀x H3,J.yld i H2 x H3->tc (some x::bC σ is) H3 fun b H4=>if b=true then
  te (some x::bC σ is) H4 fun y H5=>H5 D=some (.lst ys)/\ys.length<sizeLine/\∃m',m'<m/\W (i+1) m' (ys++[y]) (upd H5 D (.lst (ys++[y])))
  else ∃m',m'<m/\W (i+1) m' ys H4)
def FR (is:List Nat)(wi:TI)(tc:TT)(te:TE):TE:=fun σ H Q=>wi σ H fun J H1=>∀D,H1 D=none->Ks is tc te σ D J H1 Q
def Dn (elt target iter c:Expr)(scope:Scope)(pos:Pos)(it acc:pz)(env:Env):
  compTurn (.ListComp elt [⟨target,iter,[c],0⟩] scope pos) 0 it acc env=(standAt iter.pos >>= fun _=>pyNext it >>= fun r=>match r with
   |none=>pure (.done .next)
   |some v=>letOwnedTupleGo target it v >>= fun _=>assign target env v >>= fun _=>isTrue c env (eval c env) >>= fun ok=>
    (if ok=true then(eval elt env >>= fun x=>call (.builtin "list.append") [acc,x] >>= fun _=>pure ())else pure ()) >>= fun _=>
     again (.compLoop (.ListComp elt [⟨target,iter,[c],0⟩] scope pos) 0 it acc env)):=by
 unfold compTurn
 simp only[Yb,YN,List.getElem?_cons_zero,aaS,List.getElem?_nil,bind_assoc,ab7,bne_self_eq_false,WG,if_false,if_true]
 congr 1
 funext _
 congr 1
 funext r
 cases r with
 |none=>rfl
 |some v=>
  simp only[bind_assoc,ab7,if_true]
  congr 1;funext _
  congr 1;funext _
  congr 1;funext b
  cases b<;>simp
section
variable {prog:VM}{w:Wm}{A:Wj}{R:abp->Bn->Prop}{s:Bn}
def qR {elt target iter c:Expr}{scope:Scope}{pos:Pos}{it acc:pz}{env:Env}(I:Nat->Bn->Prop)
  (turn:∀n s,I n s->wpAny (model prog w) A (pyNext it) (fun r s₁=>match r with
   |none=>R (.ok .next) s₁
   |some v=>wpAny (model prog w) A (letOwnedTupleGo target it v) (fun _ s₁=>wpAny (model prog w) A (assign target env v) (fun _ s₂=>wpAny (model prog w) A (isTrue c env (eval c env)) (fun ok s₂=>if ok=true then wpAny (model prog w) A (eval elt env) (fun x s₃=>
    wpAny (model prog w) A (call (.builtin "list.append") [acc,x]) (fun _ s₄=>∃m,m<n/\I m s₄) (notedBy (model prog w) A env fun e s'=>R (.error e) s') s₃)
    (notedBy (model prog w) A env fun e s'=>R (.error e) s') s₂ else ∃m,m<n/\I m s₂) (notedBy (model prog w) A env fun e s'=>R (.error e) s') s₂) (notedBy (model prog w) A env fun e s'=>R (.error e) s') s₁) (notedBy (model prog w) A env fun e s'=>R (.error e) s') s₁) (notedBy (model prog w) A env fun e s'=>R (.error e) s') s)
  (n:Nat)(h:I n s):
  codeAny (model prog w) A (.compLoop (.ListComp elt [⟨target,iter,[c],0⟩] scope pos) 0 it acc env) R s:=by
 refine codeAny_loop rfl I (fun n s hI=>?_) n h
 show wpAny _ _ ((compTurn (.ListComp elt [⟨target,iter,[c],0⟩] scope pos) 0 it acc env).onRaise (fun x=>do noteFrame x env;theTreesLotGoes x)) _ _ s
 refine wpAny_noted ?_
 rw[Dn]
 refine pv (abv (pv (VT (turn n s hI) (fun r s₁ h₁=>?_) fun _ _ h'=>h')))
 cases r with
 |none=>exact Vt h₁
 |some v=>
  refine pv (VT h₁ (fun _ s₁ h₁=>pv (VT h₁ (fun _ s₂ h₂=>pv (VT h₂ (fun ok s₃ h₃=>?_) fun _ _ h'=>h')) fun _ _ h'=>h')) fun _ _ h'=>h')
  cases ok with
  |true=>
   rw[if_pos rfl]at h₃
   simp only[if_true]
   exact pv (pv (VT h₃ (fun x s₃ h₃=>pv (VT h₃ (fun _ s₄ h₄=>Vt (Vt ⟨rfl,h₄⟩)) fun _ _ h'=>h')) fun _ _ h'=>h'))
  |false=>
   rw[if_neg VF]at h₃
   simp only[WG,if_false]
   exact pv (Vt (Vt ⟨rfl,h₃⟩))
def qD {elt target iter:Expr}{scope:Scope}{pos:Pos}{it acc:pz}{env:Env}(I:Nat->Bn->Prop)
  (turn:∀n s,I n s->wpAny (model prog w) A (pyNext it) (fun r s₁=>match r with
   |none=>R (.ok .next) s₁
   |some v=>wpAny (model prog w) A (letOwnedTupleGo target it v) (fun _ s₁=>wpAny (model prog w) A (assign target env v) (fun _ s₂=>wpAny (model prog w) A (eval elt env) (fun x s₃=>
    wpAny (model prog w) A (call (.builtin "list.append") [acc,x]) (fun _ s₄=>∃m,m<n/\I m s₄) (notedBy (model prog w) A env fun e s'=>R (.error e) s') s₃)
    (notedBy (model prog w) A env fun e s'=>R (.error e) s') s₂) (notedBy (model prog w) A env fun e s'=>R (.error e) s') s₁) (notedBy (model prog w) A env fun e s'=>R (.error e) s') s₁) (notedBy (model prog w) A env fun e s'=>R (.error e) s') s)
  (n:Nat)(h:I n s):
  codeAny (model prog w) A (.compLoop (.ListComp elt [⟨target,iter,[],0⟩] scope pos) 0 it acc env) R s:=by
 refine codeAny_loop rfl I (fun n s hI=>?_) n h
 show wpAny _ _ ((compTurn (.ListComp elt [⟨target,iter,[],0⟩] scope pos) 0 it acc env).onRaise (fun x=>do noteFrame x env;theTreesLotGoes x)) _ _ s
 refine wpAny_noted ?_
 rw[compTurn_list1]
 refine pv (abv (pv (VT (turn n s hI) (fun r s₁ h₁=>?_) fun _ _ h'=>h')))
 cases r with
 |none=>exact Vt h₁
 |some v=>
  exact pv (VT h₁ (fun _ s₁ h₁=>pv (VT h₁ (fun _ s₂ h₂=>pv (pv (VT h₂ (fun x s₃ h₃=>pv (VT h₃
   (fun _ s₄ h₄=>Vt (Vt ⟨rfl,h₄⟩)) fun _ _ h'=>h')) fun _ _ h'=>h'))) fun _ _ h'=>h')) fun _ _ h'=>h')
end
def JY (X:Cx)(ifs:List Expr)(tc:TT):Prop:=match ifs with
 |[]=>tc=fun a H Q=>Q true H
 |[c]=>PT X c tc
 |_=>False
section
variable {X:Cx}
def Jv {scope:Scope}{ys:List Str}{is:List Nat}(h:kD X scope ys is):is.length=ys.length:=by
 induction h with
 |nil=>rfl
 |cons _ _ _ _ ih=>simp[ih]
def zH {scope:Scope}{ys:List Str}{is:List Nat}(h:kD X scope ys is){y:Str}(hy:y∈ys):X.env.kindOf y=some .cell\/X.env.kindOf y=some .free:=by
 induction h with
 |nil=>cases hy
 |cons _ h2 _ _ ih=>
  rcases tx.mp hy with e|e
  ·rw[e];exact h2
  ·exact ih e
def Hi {elt iter:Expr}{ifs:List Expr}{x:Str}{px pos:Pos}{scope:Scope}{ys:List Str}{is:List Nat}{tc:TT}{te:TE}{pins:List (Addr×Obj)}{σ:St}{H2:Hp}{s2:Bn}{it:Addr}{fp:List Addr}{tn:Nat->Heap->Prop}{J:It}{E:pz->Bn->Prop}{Q:VK}{RR:pz->Addr->abp->Bn->Prop}
  (hc:X.calm=true)(S:iB scope x ys)(hcap:kD X scope ys is)
  (hif:∀C s H fp,JY (bw X scope C (x::ys) s H fp) ifs tc)(he:∀C s H fp,PE (bw X scope C (x::ys) s H fp) elt te)
  (I2:Inv X pins σ H2 s2)(T:vD X.prog X.w X.K (.Name x px) J fp it tn)(st2:tn 0 s2.heap)(f2:∀b∈fp,re X pins H2 b)
  (hW:∀D,H2 D=none->∃W:Nat->Nat->List V->Hp->Prop,(∃m,W 0 m [] (upd H2 D (.lst [])))/\
   ∀i m ys H2,W i m ys H2->(J.stop i H2/\Q (.ref D) H2)\/(J.go i H2/\∀x H3,J.yld i H2 x H3->tc (some x::bC σ is) H3 fun b H4=>if b=true then
    te (some x::bC σ is) H4 fun y H5=>H5 D=some (.lst ys)/\ys.length<sizeLine/\∃m',m'<m/\W (i+1) m' (ys++[y]) (upd H5 D (.lst (ys++[y])))
    else ∃m',m'<m/\W (i+1) m' ys H4))
  (hRR:∀D C H' s',(X.s₀.heap.objs.size<=C/\∀p∈X.pn++pins,p.1≠C)->(∃m,s'.heap.Ns C m)->C≠X.env.locals->H' C=none->Inv X pins σ H' s'->(∀h',XF C s'.heap h'->Inv X pins σ H' {s' with heap:=h'})->Q (.ref D) H'->RR (.ref D) C (.ok .next) s'):
  wpAny (model X.prog X.w) X.A (newList []) (fun acc s₃=>wpAny (model X.prog X.w) X.A (newFunctionEnv scope X.env.globals (eP scope.names X.env.cells []) [] X.env.qual none .none (some X.env)) (fun cenv s₄=>
   codeAny (model X.prog X.w) X.A (.compStart (.ListComp elt [⟨.Name x px,iter,ifs,0⟩] scope pos) 0 (.ref it) acc {cenv with scope:=relabel scope X.env}) (RR acc cenv.locals) s₄) E s₃) E s2:=by
 have hf2:H2 s2.heap.objs.size=none:=I2.fresh
 refine wpAny_newObj_type (aca S.nocell (by intro y hy;simp at hy) (fun h₁ hns₁ hsb₁=>?_) S.kind)
 dsimp only at hns₁ hsb₁⊢
 have I3:Inv X pins σ (upd H2 s2.heap.objs.size (.lst [])) {s2 with heap:=s2.heap.push {cls:=.type "list",data:=.seq ([]:List pz).toArray}}:=I2.lnew (t':=s2.toks) (ys:=[]) .nil (VW _)
 obtain⟨W,⟨m0,w0⟩,turn⟩:=hW _ hf2
 generalize hD:s2.heap.objs.size=D at I3 w0 turn hf2⊢
 generalize hs3:({s2 with heap:=s2.heap.push {cls:=.type "list",data:=.seq ([]:List pz).toArray}}:Bn)=s3 at I3
 have hp3:s2.heap.push {cls:=.type "list",dict:=none,data:=.seq ([]:List pz).toArray}=s3.heap:=by rw[<-hs3]
 rw[hp3]at hns₁ hsb₁⊢
 have tk3:s2.toks=s3.toks:=by rw[<-hs3]
 generalize hH3:upd H2 D (.lst [])=H3 at I3 w0
 generalize hC:s3.heap.objs.size=C at hns₁ hsb₁⊢
 have keep2:∀b o,s2.heap.get? b=some o->s3.heap.get? b=some o:=fun b o e=>by rw[<-hp3];exact gV _ e
 have keep3:∀b o,s3.heap.get? b=some o->h₁.get? b=some o:=fun b o e=>hsb₁.extBut b o (by rw[<-hC];exact VD (Vq e)) (gV _ e)
 have st3:tn 0 s3.heap:=T.keep _ _ _ st2 fun b _ o e=>keep2 b o e
 have st4:tn 0 h₁:=T.keep _ _ _ st3 fun b _ o e=>keep3 b o e
 have fp3:∀b∈fp,H3 b=none/\b<C:=fun b hb=>by
  obtain⟨o,e,_⟩:=T.obj _ _ st2 b hb
  refine⟨?_,by rw[<-hC];exact Vq (keep2 b o e)⟩
  rw[<-hH3,ay (by rw[<-hD];exact VD (Vq e))]
  exact(f2 b hb).1
 have hcells:∀{z:Str}{c:Addr},(eP scope.names X.env.cells []).lookup z=some c->X.env.cells.lookup z=some c:=fun h=>zE (fun _ _ q=>by injection q) h
 have hX:(bw X scope C (x::ys) s3 H3 fp).Ok:=by
  refine⟨I3.ok.mod,S.kind,I3.ok.glob,I3.ok.blt,YL hC,fun y z c h1 h2=>I3.ok.inj y z c (hcells h1) (hcells h2),fun y hy=>?_,fun y c h _=>absurd (show false=true from h) VF,I3.ok.hd,I3.ok.frames,.inl rfl,fun b hb=>⟨VD (fp3 b hb).2,fun y c h=>(f2 b hb).2.2.2.2.1 y c (hcells h)⟩,fun b o e=>I3.bs b o e,VO I3.ok.bsz I3.sz,fun b o e hb=>?_,fun b hb z=>?_,I3.stack,I3.stkFree⟩
  ·have hy:(relabel scope X.env).names.lookup y=some .cell\/(relabel scope X.env).names.lookup y=some .free:=hy
   have hm:(y,Xq)∈scope.names:=by
    rcases hy with q|q
    ·exact mZ S.nocell q (.inl rfl)
    ·exact mZ S.nocell q (.inr rfl)
   have hs:∃c,X.env.cells.lookup y=some c:=by
    by_cases hk:X.env.kindOf y=some .cell\/X.env.kindOf y=some .free
    ·exact I3.ok.has y hk
    ·exact absurd (zH hcap (S.all _ hm rfl)) hk
   exact Ws.mp (rC hm (Ws.mpr hs))
  ·rcases(f2 b hb).2.2.2.1 with z|z
   ·exact I3.ok.noex b o e z
   ·exact absurd (VB (Vq e) (VO I3.ok.bsz z)) (Wz _)
  ·rcases tx.mp (I3.stkSub b z)with q|q
   ·exact(f2 b hb).2.1 q
   ·exact(f2 b hb).2.2.1 q
 have I4:Inv (bw X scope C (x::ys) s3 H3 fp) [] (none::bC σ is) H3 {s2 with heap:=h₁,toks:=s2.toks+([]:List (Str×pz)).length}:=by
  obtain⟨m3,hm3,hl3⟩:=id I3.loc
  refine⟨hX,?_,?_,Un.kept keep3,⟨_,hns₁,fun i y v e1 e2 e3=>?_⟩,fun y c e=>?_,?_,fun y c e=>I3.freeC y c (hcells e),fun p hp=>absurd (show p∈([]:List (Addr×Obj))from hp) (by simp),I3.hok.kept keep3,?_⟩
  ·show s2.os=s3.os
   rw[<-hs3]
  ·have:=I2.bare;exact this
  ·cases i with
   |zero=>simp at e2
   |succ j=>
    obtain⟨u,r,hfr,c,ec,ic⟩:=GG hcap hl3 trivial j y v (by have e1':(x::ys)[j+1]? =some y:=e1;simpa using e1') (by simpa using e2)
    have hk:=Ct (env:=X.env) hfr
    obtain⟨c',ec'⟩:=Ws.mp (rC (cs:=[]) (xY hfr) (by rw[ec];rfl) (cells:=X.env.cells))
    have:c'=c:=by have:=hcells ec';rw[ec]at this;exact(VR this).symm
    subst this
    obtain⟨o,ho,hd⟩:=ic
    exact⟨u,r,.inr ⟨hk,c',ec',o,keep3 _ _ ho,hd⟩⟩
  ·obtain⟨v,o,ho,hd⟩:=I3.cell y c (hcells e)
   exact⟨v,o,keep3 _ _ ho,hd⟩
  ·have:=I3.hok.fresh (a:=C) (YL hC)
   exact this
  ·have:=Jv hcap
   show(none::bC σ is).length=(x::ys).length
   simp[bC,this]
 have lenσ:∀v:Option V,(v::bC σ is).set 0=fun w=>w::bC σ is:=fun v=>rfl
 have hown:(relabel scope X.env).names.lookup x=some .local:=Af S.own
 have loop:codeAny (model X.prog X.w) X.A (.compLoop (.ListComp elt [⟨.Name x px,iter,ifs,0⟩] scope pos) 0 (.ref it) (.ref D) (compEnvC scope (eP scope.names X.env.cells []) C X.env)) (RR (.ref D) C)
   {s2 with heap:=h₁,toks:=s2.toks+([]:List (Str×pz)).length}:=by
  have fin:∀{H':Hp}{v:Option V}{s':Bn},Inv (bw X scope C (x::ys) s3 H3 fp) [] (v::bC σ is) H' s'->Q (.ref D) H'->RR (.ref D) C (.ok .next) s':=fun{H' v s'} J q=>by
   obtain⟨m',hm',_⟩:=J.loc
   have hCL:C≠X.env.locals:=ab (by rw[<-hC];exact VD I3.lt)
   have back:∀h',XF C s'.heap h'->Inv X pins σ H' {s' with heap:=h'}:=fun h' hs'=>by
    have os':s'.os=s3.os:=J.os
    refine I3.call' (s':={s' with heap:=h'}) (ch:=fp) os' ⟨fun b o e n hb hx=>?_,fun b o e n hb hx=>?_,fun b o e n hx=>J.base.free b o e n hx,fun b o e hx=>?_,J.base.tups,J.base.frzs,J.base.tbls⟩ (fun b o e=>?_) J.bare fun b hb=>?_
    ·exact hs'.extBut b o (by rw[<-hC];exact VD (Vq e)) (J.base.keep b o e n hb hx)
    ·obtain⟨sl,e1⟩:=J.base.slot b o e n hb hx
     exact⟨sl,hs'.extBut b _ (by rw[<-hC];exact VD (Vq e)) e1⟩
    ·obtain⟨o',e1⟩:=J.base.there b o e hx
     exact⟨o',hs'.extBut b _ (by rw[<-hC];exact VD (Vq e)) e1⟩
    ·refine(J.hok b o e).stay (fun c w' hc q=>(hs'.2 c ?_).trans q) (fun _ q=>q) fun _ _ q=>q
     have fC:H' C=none:=J.free
     rintro rfl
     rcases hc with rfl|hc
     ·rw[fC]at e;injection e
     ·rw[fC]at hc;injection hc
    ·obtain⟨_,a1,_,a2,a3,a4⟩:=f2 b hb
     exact⟨a2,a1,a3,a4⟩
   refine hRR D C H' s' ⟨by rw[<-hC];exact I3.sz,fun p hp=>by rw[<-hC];exact VD (Vq (I3.pin p hp).1)⟩ ⟨m',hm'⟩ hCL J.free ?_ back q
   have:=back s'.heap (.refl ..)
   exact this
  have stat:∀{H':Hp},(∀b∈fp,H' b=none)->∀b∈fp,re (bw X scope C (x::ys) s3 H3 fp) [] H' b:=fun hn b hb=>by
   obtain⟨_,a1,a5,a2,a3,a4⟩:=f2 b hb
   refine⟨hn b hb,VD (fp3 b hb).2,fun z=>?_,.inl hb,fun y c e=>a3 y c (hcells e),fun p hp=>absurd (show p∈([]:List (Addr×Obj))from hp) (by simp)⟩
   rcases tx.mp (I3.stkSub b z)with q|q
   ·exact a1 q
   ·exact a5 q
  have turnAt:∀n s,(∃i v ys' H',Inv (bw X scope C (x::ys) s3 H3 fp) [] (v::bC σ is) H' s/\tn i s.heap/\(∀b∈fp,H' b=none)/\W i n ys' H')->
    wpAny (model X.prog X.w) X.A (pyNext (.ref it)) (fun r s₁=>match r with
     |none=>RR (.ref D) C (.ok .next) s₁
     |some u=>wpAny (model X.prog X.w) X.A (letOwnedTupleGo (.Name x px) (.ref it) u) (fun _ s₁=>wpAny (model X.prog X.w) X.A (assign (.Name x px) (compEnvC scope (eP scope.names X.env.cells []) C X.env) u) (fun _ s₂=>
      ∃(xx:V)(i:Nat)(ys':List V)(H3' H6:Hp)(pl:List (Addr×Obj)),Inv (bw X scope C (x::ys) s3 H3 fp) ([]++pl) (some xx::bC σ is) H6 s₂/\
       (∀s7 v7 H7,Inv (bw X scope C (x::ys) s3 H3 fp) ([]++pl) (v7::bC σ is) H7 s7->Inv (bw X scope C (x::ys) s3 H3 fp) [] (v7::bC σ is) H7 s7/\tn (i+1) s7.heap/\∀b∈fp,H7 b=none)/\
       (tc (some xx::bC σ is) H6 fun b H4=>if b=true then te (some xx::bC σ is) H4 fun y H5=>H5 D=some (.lst ys')/\ys'.length<sizeLine/\∃m',m'<n/\W (i+1) m' (ys'++[y]) (upd H5 D (.lst (ys'++[y])))
        else ∃m',m'<n/\W (i+1) m' ys' H4)) (fun _ _=>False) s₁) (fun _ _=>False) s₁) (fun _ _=>False) s:=by
   rintro n s ⟨i,v,ys',H',J,st,fr,w'⟩
   rcases turn i n ys' H' w' with⟨stop,qn⟩|⟨go,step⟩
   ·refine thn (T.done (bw X scope C (x::ys) s3 H3 fp) rfl rfl rfl hc i [] s _ H' (fun _ _=>False) J (stat fr) st stop) fun r s4 ⟨hr,J4⟩=>?_
    subst hr
    exact fin J4 qn
   ·refine thn (T.item (bw X scope C (x::ys) s3 H3 fp) rfl rfl rfl hc i [] s _ H' (fun _ _=>False) J (stat fr) st go) fun r s4 ⟨u,hr,h4⟩=>?_
    subst hr
    refine thn h4 fun _ s5 ⟨xx,H5,J5,r5,y5,st5,fr5⟩=>?_
    have J5':=J5.pinned (stat fr5) (T.obj _ _ st5)
    refine acC (vX (i:=0) J5' S.nd rfl (.inl hown) r5 (fun s6 J6=>?_) (.inr hown))
    refine⟨xx,i,ys',H5,H5,rX fp s5.heap,J6,fun s7 v7 H7 J7=>⟨J7.unpinned,T.keep _ _ _ st5 fun b hb o e=>(J7.pin (b,o) (Wl _ (Wl _ (ji hb e)))).1,fun b hb=>?_⟩,step xx H5 y5⟩
    obtain⟨o,e,d⟩:=T.obj _ _ st5 b hb
    exact(J7.pin (b,o) (Wl _ (Wl _ (ji hb e)))).2.1
  have start0:∃i v ys' H',Inv (bw X scope C (x::ys) s3 H3 fp) [] (v::bC σ is) H' {s2 with heap:=h₁,toks:=s2.toks+([]:List (Str×pz)).length}/\tn i h₁/\(∀b∈fp,H' b=none)/\W i m0 ys' H':=
   ⟨0,none,[],H3,I4,st4,fun b hb=>(fp3 b hb).1,w0⟩
  have emit:∀(n:Nat)(xx:V)(i:Nat)(ys':List V)(H4:Hp)(pl:List (Addr×Obj))(s₂:Bn),Inv (bw X scope C (x::ys) s3 H3 fp) ([]++pl) (some xx::bC σ is) H4 s₂->
    (∀s7 v7 H7,Inv (bw X scope C (x::ys) s3 H3 fp) ([]++pl) (v7::bC σ is) H7 s7->Inv (bw X scope C (x::ys) s3 H3 fp) [] (v7::bC σ is) H7 s7/\tn (i+1) s7.heap/\∀b∈fp,H7 b=none)->
    (te (some xx::bC σ is) H4 fun y H5=>H5 D=some (.lst ys')/\ys'.length<sizeLine/\∃m',m'<n/\W (i+1) m' (ys'++[y]) (upd H5 D (.lst (ys'++[y]))))->
    wpAny (model X.prog X.w) X.A (eval elt (compEnvC scope (eP scope.names X.env.cells []) C X.env)) (fun y s₃=>wpAny (model X.prog X.w) X.A (call (.builtin "list.append") [.ref D,y]) (fun _ s₄=>
     ∃m,m<n/\∃i v ys' H',Inv (bw X scope C (x::ys) s3 H3 fp) [] (v::bC σ is) H' s₄/\tn i s₄.heap/\(∀b∈fp,H' b=none)/\W i m ys' H') (fun _ _=>False) s₃) (fun _ _=>False) s₂:=by
   intro n xx i ys' H4 pl s₂ J2 back q
   refine thn (he C s3 H3 fp ([]++pl) s₂ _ H4 _ J2 q) fun y s₃ ⟨yv,H5,J3,r3,q1,q2,q3⟩=>?_
   refine thn (zL (X:=bw X scope C (x::ys) s3 H3 fp) ([]++pl) s₃ _ H5 (.ref D) [yv] (.ref D) [y] (fun v H7=>v=.non/\H7=upd H5 D (.lst (ys'++[yv]))) J3 rfl (.cons r3 .nil) ⟨D,ys',yv,rfl,rfl,q1,q2,rfl,rfl⟩) fun _ s₄ ⟨_,H7,J4,_,_,e7⟩=>?_
   subst e7
   obtain⟨m',hm',w'⟩:=q3
   obtain⟨b1,b2,b3⟩:=back s₄ _ _ J4
   exact⟨m',hm',i+1,some xx,ys'++[yv],_,b1,b2,b3,w'⟩
  have ex0:∀{α:Type}{t:Sem α}{Q':α->Bn->Prop}{E':pz->Bn->Prop}{s:Bn},wpAny (model X.prog X.w) X.A t Q' (fun _ _=>False) s->wpAny (model X.prog X.w) X.A t Q' E' s:=fun h=>VT h (fun _ _ q=>q) fun _ _ q=>q.elim
  cases ifs with
  |nil=>
   have htc:tc=fun _ H Q=>Q true H:=hif C s3 H3 fp
   subst htc
   refine qD (fun n s=>∃i v ys' H',Inv (bw X scope C (x::ys) s3 H3 fp) [] (v::bC σ is) H' s/\tn i s.heap/\(∀b∈fp,H' b=none)/\W i n ys' H') (fun n s hI=>?_) m0 start0
   refine VT (turnAt n s hI) (fun r s₁ h₁=>?_) fun _ _ q=>q.elim
   cases r with
   |none=>exact h₁
   |some u=>
    refine VT h₁ (fun _ s₁ h₁=>VT h₁ (fun _ s₂ h₂=>?_) fun _ _ q=>q.elim) fun _ _ q=>q.elim
    obtain⟨xx,i,ys',_,H6,pl,J2,back,q⟩:=h₂
    dsimp only at q
    rw[if_pos rfl]at q
    exact VT (emit n xx i ys' H6 pl s₂ J2 back q) (fun y s₃ h₃=>ex0 h₃) fun _ _ q=>q.elim
  |cons c r0=>
   cases r0 with
   |cons _ _=>exact(hif C s3 H3 fp).elim
   |nil=>
    have hpt:PT (bw X scope C (x::ys) s3 H3 fp) c tc:=hif C s3 H3 fp
    refine qR (fun n s=>∃i v ys' H',Inv (bw X scope C (x::ys) s3 H3 fp) [] (v::bC σ is) H' s/\tn i s.heap/\(∀b∈fp,H' b=none)/\W i n ys' H') (fun n s hI=>?_) m0 start0
    refine VT (turnAt n s hI) (fun r s₁ h₁=>?_) fun _ _ q=>q.elim
    cases r with
    |none=>exact h₁
    |some u=>
     refine VT h₁ (fun _ s₁ h₁=>VT h₁ (fun _ s₂ h₂=>?_) fun _ _ q=>q.elim) fun _ _ q=>q.elim
     obtain⟨xx,i,ys',_,H6,pl,J2,back,q⟩:=h₂
     refine VT (hpt ([]++pl) s₂ _ H6 _ J2 q) (fun b s₃ h₃=>?_) fun _ _ q=>q.elim
     obtain⟨H4,J4,q4⟩:=h₃
     cases b with
     |true=>
      rw[if_pos rfl]at q4⊢
      exact VT (emit n xx i ys' H4 pl s₃ J4 back q4) (fun y s₃ h₃=>ex0 h₃) fun _ _ q=>q.elim
     |false=>
      rw[if_neg VF]at q4⊢
      obtain⟨m',hm',w'⟩:=q4
      obtain⟨b1,b2,b3⟩:=back s₃ _ _ J4
      exact⟨m',hm',i+1,some xx,ys',_,b1,b2,b3,w'⟩
 exact codeAny_compStart_list loop (T.self X.A 0 _ _ _ st4 loop)
end
section
variable {X:Cx}
def Lj {scope:Scope}{x:Str}{ys:List Str}{is:List Nat}(ok:X.Ok)(S:iB scope x ys)(hcap:kD X scope ys is):closureFor scope X.env=pure (eP scope.names X.env.cells []):=
 BW fun y hy hk=>by
  obtain⟨c,e⟩:=ok.has y.1 (zH hcap (S.all y hy hk))
  rw[e];rfl
def Lu {elt iter:Expr}{ifs:List Expr}{x:Str}{px pos:Pos}{scope:Scope}{ys:List Str}{is:List Nat}{wi:TI}{tc:TT}{te:TE}
  (hc:X.calm=true)(S:iB scope x ys)(hcap:kD X scope ys is)(hi:PI X (.Name x px) iter wi)
  (hif:∀C s H fp,JY (bw X scope C (x::ys) s H fp) ifs tc)(he:∀C s H fp,PE (bw X scope C (x::ys) s H fp) elt te)
  (hs:∀x,foldedSetIterable iter X.env x=pure x:=by intro a;rfl):PE X (.ListComp elt [⟨.Name x px,iter,ifs,0⟩] scope pos) (FR is wi tc te):=by
 intro pins s σ H Q I h
 rw[eval_ListComp]
 refine wpAny_comprehension_free (use:=none) rfl hs (Lj I.ok S hcap) S.kind S.names (thn (hi pins s σ H _ I h) fun v s1 h1=>thn h1 fun itv s2 h2=>?_)
 obtain⟨it,fp,tn,J,H2,rfl,I2,T,st2,f2,hW⟩:=h2
 refine Hi (RR:=fun acc C=>compPost (model X.prog X.w) X.A X.xe none (EP X pins σ Q) acc C) hc S hcap hif he I2 T st2 f2 hW ?_
 intro D C H' s' hlt hns hne hfr I' back q
 obtain⟨m,hm⟩:=hns
 exact⟨m,hm,fun h' hs'=>⟨.ref D,H',back h' hs',rfl,q⟩⟩
end
noncomputable def tyN (H:Hp):V->Option String
 |.non=>some "NoneType"
 |.bl _=>some "bool"
 |.int _=>some "int"
 |.str _=>some "str"
 |.ref a=>match H a with
  |some (.lst _)=>some "list"
  |some (.frz _ (.lst _))=>some "list"
  |some (.tup _)=>some "tuple"
  |some (.dK _)=>some "dict"
  |some (.dT _)=>some "dict"
  |_=>none
 |_=>none
def Pw {K:W.Frag}{H:Hp}{x:V}{t:String}(h:tyN H x=some t):gI K H x (.type t):=by
 cases x with
 |non=>obtain rfl:=VR h;exact .non
 |bl b=>obtain rfl:=VR h;exact .bl b
 |int i=>obtain rfl:=VR h;exact .int i
 |str x=>obtain rfl:=VR h;exact .str x
 |byt _=>injection h
 |flt _=>injection h
 |ty _=>injection h
 |ref a=>
  unfold tyN at h
  dsimp only at h
  split at h
  ·rename_i e;obtain rfl:=VR h;exact .lst e
  ·rename_i e;obtain rfl:=VR h;exact .frz e
  ·rename_i e;obtain rfl:=VR h;exact .tup e
  ·rename_i e;obtain rfl:=VR h;exact .dK e
  ·rename_i e;obtain rfl:=VR h;exact .dT e
  ·injection h
def tyL:List String:=["NoneType","bool","int","str","list","tuple","dict"]
def Nx {H:Hp}{x:V}{t:String}(h:tyN H x=some t):t∈tyL:=by
 cases x with
 |non=>obtain rfl:=VR h;decide
 |bl b=>obtain rfl:=VR h;decide
 |int i=>obtain rfl:=VR h;decide
 |str x=>obtain rfl:=VR h;decide
 |byt _=>injection h
 |flt _=>injection h
 |ty _=>injection h
 |ref a=>
  unfold tyN at h
  dsimp only at h
  split at h<;>first|(cases h;decide)|injection h
def isI (t T:String):Bool:=t==T||(T=="int"&&t=="bool")
def Oq (K:W.Frag):∀t∈tyL,∀T∈["int","bool","str","tuple","list","dict"],W.kitOne K (.type t) (.type T)=some (isI t T):=by
 intro t ht T hT
 simp only[tyL,tx,If,or_false]at ht hT
 rcases ht with rfl|rfl|rfl|rfl|rfl|rfl|rfl<;>rcases hT with rfl|rfl|rfl|rfl|rfl|rfl<;>(unfold W.kitOne;first|rfl|decide+kernel|(simp only[W.kitCls];rfl))
section
variable {X:Cx}
def IC:bq X (.builtin "isinstance") (fun xs H Q=>∃x T t,xs=[x,.ty T]/\T∈["int","bool","str","tuple","list","dict"]/\tyN H x=some t/\Q (.bl (isI t T)) H):=by
 intro pins s σ H xs us Q I r h
 obtain⟨x,T,t,rfl,hT,ht,q⟩:=h
 obtain⟨u,w',rfl,r1,r2⟩:=wN r
 subst r2
 exact Iu I r1 (Pw ht) (Oq X.K t (Nx ht) T hT) fun tk=>⟨.bl _,H,I.tok tk,rfl,q⟩
end
section
variable {X:Cx}
theorem Ee:∀{bs:List Bool}{us:List pz},aU (bs.map V.bl) us->us=bs.map Xe
 |[],_,.nil=>rfl
 |b::bs,_,.cons r t=>by
  have e:_=Xe b:=r
  rw[Ee t,VI,e]
def Ig (bs:List Bool):(WJ bs.length).all (fun i=>bs.getD i false)=bs.all id:=by
 rw[Yc,WB,WB]
 constructor
 ·intro h b hb
  obtain⟨i,hi,e⟩:=abm.mp hb
  have:=h i (Yp.mpr hi)
  simp only[VA,Dc hi,abD]at this
  rw[<-e];exact this
 ·intro h i hi
  have hi:=Yp.mp hi
  simp only[VA,Dc hi,abD]
  exact h _ (XS hi)
def DC {prog:VM}{w:Wm}{A:Wj}{bs:List Bool}:TruthOf prog w A (fun i v=>(bs.map Xe).toArray[i]? =some v) (fun i=>bs.getD i false):=by
 intro i v s Q E hP hQ
 have hP:(bs.map Xe)[i]? =some v:=by simpa using hP
 rw[VG]at hP
 cases e:bs[i]? with
 |none=>rw[e]at hP;injection hP
 |some b=>
  rw[e]at hP
  obtain rfl:=VR hP
  have hQ':Q b s:=by
   have e2:bs.getD i false=b:=by rw[VA,e];rfl
   have hQ2:Q (bs.getD i false) s:=hQ
   rw[e2]at hQ2;exact hQ2
  exact wpAny_of_eq (a:=b) rfl hQ'
def JM (hc:X.calm=true):bq X (.builtin "all") (fun xs H Q=>∃(a:Addr)(bs:List Bool),xs=[.ref a]/\H a=some (.lst (bs.map V.bl))/\Q (.bl (bs.all id)) H):=by
 intro pins s σ H xs us Q I r h
 obtain⟨a,bs,rfl,hH,q⟩:=h
 obtain⟨u,rfl,ru⟩:=eC r
 subst ru
 obtain⟨z,its,n,rv,e⟩:=I.hok a _ hH
 have ei:=Ee rv
 subst ei
 have hl:s.heap.IsList a (bs.map Xe).toArray:=⟨_,e,rfl,_,rfl⟩
 refine call_all_walk (aav hl ?_)
 have hne:a≠s.heap.objs.size:=VD (Vq e)
 refine⟨s.heap.objs.size,_,_,_,_,_,_,rfl,Walks.list (by show X.A.handled=none;exact I.ok.hd hc) _ a hne (bs.map Xe).toArray,⟨⟨_,Vr _ rfl,rfl,rfl⟩,⟨_,gV _ e,rfl,_,rfl⟩⟩,DC,fun h' tk hk=>?_⟩
 have e2:((bs.map Xe).toArray).size=bs.length:=by simp
 rw[e2,Ig]
 refine⟨.bl _,H,I.kept (t':=tk) fun b o hb=>hk b o ?_ (gV _ hb),rfl,q⟩
 intro z
 have:b=s.heap.objs.size:=by simpa using z
 rw[this]at hb
 exact absurd (Vq hb) (Wz _)
theorem Ec:∀{xs:List Str}{us:List pz},aU (xs.map V.str) us->StrsAre us xs
 |[],_,.nil=>.nil
 |x::xs,_,.cons r t=>by
  obtain⟨tk,e⟩:=(show ∃t,_=XY x t from r)
  rw[e]
  exact .cons _ _ (Ec t)
def Sg:V->List V->Hp->VK->Prop:=fun x vs H Q=>∃(z:Str)(a:Addr)(xs:List Str),x=.str z/\vs=[.ref a]/\H a=some (.lst (xs.map V.str))/\(xs.map (·.length)).sum+xs.length*z.length<=16777216/\Q (.str (Txt.join z xs)) H
def Lx:MtM X "str.join" Sg:=by
 intro pins s σ H x vs v us Q I rx rv h
 obtain⟨z,a,xs,rfl,rfl,hH,hz,q⟩:=h
 obtain⟨t,rfl⟩:=(show ∃t,v=XY z t from rx)
 obtain⟨u,rfl,ru⟩:=rv.one
 subst ru
 obtain⟨b,its,n,rv,e⟩:=I.hok a _ hH
 refine join_list (items:=its.toArray) ⟨_,e,rfl,_,rfl⟩ (by simpa using Ec rv) hz fun t' k=>⟨.str _,H,I.tok k,⟨_,rfl⟩,q⟩
end
@[irreducible] def Sel (b:Bool)(A B:Prop):Prop:=if b=true then A else B
def Sel.mk {b:Bool}{A B:Prop}(h1:b=true->A)(h2:b=false->B):Sel b A B:=by
 unfold Sel
 cases b with
 |true=>exact h1 rfl
 |false=>exact h2 rfl
def Sel.t {A B:Prop}(h:A):Sel true A B:=.mk (fun a=>h) fun e=>by injection e
def Sel.f {A B:Prop}(h:B):Sel false A B:=.mk (fun e=>by injection e) fun a=>h
def Sel.dec {p A B:Prop}[Decidable p](h1:p->A)(h2:¬p->B):Sel (decide p) A B:=.mk (fun e=>h1 (of_decide_eq_true e)) fun e=>h2 (of_decide_eq_false e)
def Sel.yes {b:Bool}{A B:Prop}(e:b=true)(h:A):Sel b A B:=by rw[e];exact .t h
def Sel.no {b:Bool}{A B:Prop}(e:b=false)(h:B):Sel b A B:=by rw[e];exact .f h
def dS {b:Bool}{A B:Prop}(h:Sel b A B):if b=true then A else B:=by unfold Sel at h;exact h
def mh (i:Nat):TE:=fun σ H Q=>match σ[i]? with|some (some v)=>Q v H|_=>False
section
variable {X:Cx}
def PE.imp {e:Expr}{t t':TE}(h:PE X e t)(i:∀σ H Q,t' σ H Q->t σ H Q):PE X e t':=fun pins s σ H Q I q=>h pins s σ H Q I (i _ _ _ q)
def OpR.imp {f:pz->pz->Sem pz}{r r':R2}(h:OpR X f r)(i:∀x y H Q,r' x y H Q->r x y H Q):OpR X f r':=fun pins s σ H x y v u Q I rx ry q=>h pins s σ H x y v u Q I rx ry (i _ _ _ _ q)
def qv (i:Nat){x:Str}{pos:Pos}(hN:X.N[i]?=some x:=by rfl)(hv:Vis X.env.scope x:=by first|exact ab0 rfl|exact aaE (ab0 rfl)|exact aaE (aaE rfl))(hd:(x==("__debug__":Str))=false:=by decide)
  (hcd:(x==("__classdict__":Str))=false:=by decide):PE X (.Name x pos) (mh i):=(Ol hN hv hd hcd).imp fun σ H Q q=>by
 unfold mh at q
 split at q
 ·rename_i v e;exact⟨v,e,q⟩
 ·exact q.elim
def qgi {x:Str}{i:Int}{pos:Pos}(hm:∃t,X.mg x=some (.int i t))(hg:Gl X x:=by rfl)(hd:(x==("__debug__":Str))=false:=by decide):PE X (.Name x pos) (tC (.int i)):=by
 obtain⟨t,e⟩:=hm
 exact zk hg e ⟨t,rfl⟩ hd
def Oo:R2:=fun x y H Q=>match x,y with|.int i,.int j=>Q (.int (i- j)) H|_,_=>False
def UT:OpR X (binaryOp .Sub) Oo:=PF.imp fun x y H Q q=>by
 unfold Oo at q
 split at q
 ·exact⟨_,_,rfl,rfl,q⟩
 ·exact q.elim
def Ni:OpR X (binaryOp .Mult) (rI IntMulOk fun i j=>.int (i*j)):=opI fun a a a a a a a hc q=>mul_int q hc
def OY:R2:=fun x y H Q=>match x,y with
 |.int i,.int j=>IntMulOk i j/\Q (.int (i*j)) H
 |_,_=>False
def Vl:OpR X (binaryOp .Mult) OY:=Ni.imp fun x y H Q q=>by
 unfold OY at q
 split at q
 ·exact⟨_,_,rfl,rfl,q.1,q.2⟩
 ·exact q.elim
def vV:R2:=fun x y H Q=>match x,y with|.int i,.int j=>0<j/\Q (.int (i%j)) H|_,_=>False
def zq:OpR X (binaryOp .Mod) vV:=Om.imp fun x y H Q q=>by
 unfold vV at q
 split at q
 ·exact⟨_,_,rfl,rfl,q.1,q.2⟩
 ·exact q.elim
def Pb:R2:=fun x y H Q=>match x,y with|.int i,.int j=>(0<=j/\j<=1000000/\i.natAbs<2^64)/\Q (.int (i^j.toNat)) H|_,_=>False
def Ux:OpR X (binaryOp .Pow) Pb:=Qe.imp fun x y H Q q=>by
 unfold Pb at q
 split at q
 ·exact⟨_,_,rfl,rfl,q.1,q.2⟩
 ·exact q.elim
def Oe:R2:=fun x y H Q=>match x,y with|.int i,.int j=>(0<=j/\j<=1000000/\i.natAbs<2^64)/\Q (.int (i*2^j.toNat)) H|_,_=>False
def UA:OpR X (binaryOp .LShift) Oe:=NI.imp fun x y H Q q=>by
 unfold Oe at q
 split at q
 ·exact⟨_,_,rfl,rfl,q.1,q.2⟩
 ·exact q.elim
def Py:R2:=fun x y H Q=>match x,y with|.int i,.int j=>0<=j/\Q (.int (i/2^j.toNat)) H|_,_=>False
def UN:OpR X (binaryOp .RShift) Py:=NH.imp fun x y H Q q=>by
 unfold Py at q
 split at q
 ·exact⟨_,_,rfl,rfl,q.1,q.2⟩
 ·exact q.elim
def Qt:R2:=fun x y H Q=>match x,y with|.int i,.int j=>Q (.int (YE i j)) H|_,_=>False
def Uv:OpR X (binaryOp .BitXor) Qt:=Qb.imp fun x y H Q q=>by
 unfold Qt at q
 split at q
 ·exact⟨_,_,rfl,rfl,q⟩
 ·exact q.elim
def KZ:R2:=fun x y H Q=>match x,y with|.int i,.int j=>Q (.int (Xl i j)) H|_,_=>False
def Sf:OpR X (binaryOp .BitAnd) KZ:=NW.imp fun x y H Q q=>by
 unfold KZ at q
 split at q
 ·exact⟨_,_,rfl,rfl,q⟩
 ·exact q.elim
def mLt:R2:=fun x y H Q=>match x,y with|.int i,.int j=>Q (.bl (decide (i<j))) H|_,_=>False
def oLt:OpR X (compareOp .Lt) mLt:=RI.imp fun x y H Q q=>by
 unfold mLt at q
 split at q
 ·exact⟨_,_,rfl,rfl,q⟩
 ·exact q.elim
def mLe:R2:=fun x y H Q=>match x,y with|.int i,.int j=>Q (.bl (decide (i<=j))) H|_,_=>False
def oLe:OpR X (compareOp .LtE) mLe:=Sj.imp fun x y H Q q=>by
 unfold mLe at q
 split at q
 ·exact⟨_,_,rfl,rfl,q⟩
 ·exact q.elim
def mGt:R2:=fun x y H Q=>match x,y with|.int i,.int j=>Q (.bl (decide (j<i))) H|_,_=>False
def oGt:OpR X (compareOp .Gt) mGt:=RW.imp fun x y H Q q=>by
 unfold mGt at q
 split at q
 ·exact⟨_,_,rfl,rfl,q⟩
 ·exact q.elim
def mGe:R2:=fun x y H Q=>match x,y with|.int i,.int j=>Q (.bl (decide (j<=i))) H|_,_=>False
def oGe:OpR X (compareOp .GtE) mGe:=Rg.imp fun x y H Q q=>by
 unfold mGe at q
 split at q
 ·exact⟨_,_,rfl,rfl,q⟩
 ·exact q.elim
def mEq:R2:=fun x y H Q=>match x,y with
 |.int i,.int j=>Q (.bl (decide (i=j))) H
 |.str i,.str j=>Q (.bl (decide (i=j))) H
 |.bl i,.bl j=>Q (.bl (decide (i=j))) H
 |.non,.non=>Q (.bl true) H
 |.non,.int _=>Q (.bl false) H|.int _,.non=>Q (.bl false) H|.non,.bl _=>Q (.bl false) H|.bl _,.non=>Q (.bl false) H|.non,.str _=>Q (.bl false) H|.str _,.non=>Q (.bl false) H
 |.int _,.str _=>Q (.bl false) H|.str _,.int _=>Q (.bl false) H|.bl _,.str _=>Q (.bl false) H|.str _,.bl _=>Q (.bl false) H
 |_,_=>False
def sy {α:Type}[DecidableEq α]{f:α->V}(hf:∀a b,f a=f b->a=b)(a b:α):decide (f a=f b)=decide (a=b):=by
 by_cases h:a=b
 ·subst h;simp
 ·rw[decide_eq_false h,decide_eq_false fun e=>h (hf a b e)]
def oEq:OpR X (compareOp .Eq) mEq:=SG.imp fun x y H Q q=>by
 unfold mEq at q
 split at q
 ·exact⟨rfl,by rw[sy (f:=V.int) fun a a e=>V.int.inj e];exact q⟩
 ·exact⟨rfl,by rw[sy (f:=V.str) fun a a e=>V.str.inj e];exact q⟩
 ·exact⟨rfl,by rw[sy (f:=V.bl) fun a a e=>V.bl.inj e];exact q⟩
 ·exact⟨rfl,by simpa using q⟩
 all_goals first|exact q.elim|exact⟨rfl,q⟩
def mNe:R2:=fun x y H Q=>match x,y with
 |.int i,.int j=>Q (.bl (!decide (i=j))) H
 |.str i,.str j=>Q (.bl (!decide (i=j))) H
 |.bl i,.bl j=>Q (.bl (!decide (i=j))) H
 |.non,.non=>Q (.bl false) H
 |.non,.int _=>Q (.bl true) H|.int _,.non=>Q (.bl true) H|.non,.bl _=>Q (.bl true) H|.bl _,.non=>Q (.bl true) H|.non,.str _=>Q (.bl true) H|.str _,.non=>Q (.bl true) H
 |.int _,.str _=>Q (.bl true) H|.str _,.int _=>Q (.bl true) H|.bl _,.str _=>Q (.bl true) H|.str _,.bl _=>Q (.bl true) H
 |_,_=>False
def oNe:OpR X (compareOp .NotEq) mNe:=Rv.imp fun x y H Q q=>by
 unfold mNe at q
 split at q
 ·exact⟨rfl,by rw[sy (f:=V.int) fun a a e=>V.int.inj e];exact q⟩
 ·exact⟨rfl,by rw[sy (f:=V.str) fun a a e=>V.str.inj e];exact q⟩
 ·exact⟨rfl,by rw[sy (f:=V.bl) fun a a e=>V.bl.inj e];exact q⟩
 ·exact⟨rfl,by simpa using q⟩
 all_goals first|exact q.elim|exact⟨rfl,q⟩
def NX:R2:=fun x y H Q=>match y with|.non=>Q (.bl (match x with|.non=>true|_=>false)) H|_=>False
def oIs:OpR X (compareOp .Is) NX:=OQ.imp fun x y H Q q=>by
 unfold NX at q
 split at q
 ·refine⟨rfl,?_⟩
  cases x<;>simpa using q
 ·exact q.elim
def jr (t:TE):TT:=fun σ H Q=>t σ H fun x H'=>match x with|.bl k=>Q k H'|_=>False
def qtc {op:abZ}{r:R2}{a b:Expr}{ta tb:TE}{pos:Pos}(ho:OpR X (compareOp op) r)(ha:PE X a ta)(hb:PE X b tb)(hm:behindInMarks op b=false:=by first|exact mF _|rfl):PT X (.Compare a [op] [b] pos) (jr (tOp r ta tb)):=by
 intro pins s σ H Q I h
 refine wpAny_isTrue_Compare1 (thn (ha pins s σ H _ I h) fun v s1 ⟨x,H1,I1,r1,q1⟩=>thn (hb pins s1 σ H1 _ I1 q1) fun u s2 ⟨y,H2,I2,r2,q2⟩=>
  thn (ho pins s2 σ H2 x y v u _ I2 r1 r2 q2) fun c s3 ⟨z,H3,I3,r3,q3⟩=>?_) hm
 cases z<;>first|exact q3.elim|(subst r3;exact Xz ⟨H3,I3,q3⟩)
def qc {op:abZ}{r:R2}{a b:Expr}{ta tb:TE}{pos:Pos}(ho:OpR X (compareOp op) r)(ha:PE X a ta)(hb:PE X b tb)(hm:behindInMarks op b=false:=by first|exact mF _|rfl):PE X (.Compare a [op] [b] pos) (tOp r ta tb):=LY ho ha hb hm
def rz (r r':R2)(ta tb tc:TE):TE:=fun σ H Q=>ta σ H fun x H1=>tb σ H1 fun y H2=>r x y H2 fun z H3=>match z with
 |.bl k=>Sel k (tc σ H3 fun w' H4=>r' y w' H4 Q) (Q (.bl false) H3)
 |_=>False
def qch {op op':abZ}{r r':R2}{a b c:Expr}{ta tb tc:TE}{pos:Pos}(ho:OpR X (compareOp op) r)(ho':OpR X (compareOp op') r')(ha:PE X a ta)(hb:PE X b tb)(hc:PE X c tc)
  (hm:lastMarks [op,op'] [b,c]=false:=by with_unfolding_all rfl):PE X (.Compare a [op,op'] [b,c] pos) (rz r r' ta tb tc):=by
 intro pins s σ H Q I h
 refine Compare_chain (thn (ha pins s σ H _ I h) fun v s1 ⟨x,H1,I1,r1,q1⟩=>chain_link (thn (hb pins s1 σ H1 _ I1 q1) fun u s2 ⟨y,H2,I2,r2,q2⟩=>
  thn (ho pins s2 σ H2 x y v u _ I2 r1 r2 q2) fun d s3 ⟨z,H3,I3,r3,q3⟩=>?_)) hm
 cases z<;>first|exact q3.elim|skip
 rename_i k
 subst r3
 refine Xz ?_
 have q3:=dS q3
 cases k with
 |false=>exact ite_ff ⟨.bl false,H3,I3,rfl,q3⟩
 |true=>exact ite_tt (chain_last (thn (hc pins s3 σ H3 _ I3 q3) fun w' s4 ⟨z',H4,I4,r4,q4⟩=>ho' pins s4 σ H4 y z' u w' Q I4 r2 r4 q4))
def Ut {op op':abZ}{r r':R2}{a b c:Expr}{ta tb tc:TE}{pos:Pos}(ho:OpR X (compareOp op) r)(ho':OpR X (compareOp op') r')(ha:PE X a ta)(hb:PE X b tb)(hc:PE X c tc)
  (hm:lastMarks [op,op'] [b,c]=false:=by with_unfolding_all rfl):PT X (.Compare a [op,op'] [b,c] pos) (jr (rz r r' ta tb tc)):=by
 intro pins s σ H Q I h
 refine isTrue_chain (thn (ha pins s σ H _ I h) fun v s1 ⟨x,H1,I1,r1,q1⟩=>test_link (thn (hb pins s1 σ H1 _ I1 q1) fun u s2 ⟨y,H2,I2,r2,q2⟩=>
  thn (ho pins s2 σ H2 x y v u _ I2 r1 r2 q2) fun d s3 ⟨z,H3,I3,r3,q3⟩=>?_)) hm
 cases z<;>first|exact q3.elim|skip
 rename_i k
 subst r3
 refine Xz ?_
 have q3:=dS q3
 cases k with
 |false=>exact ite_ff ⟨H3,I3,q3⟩
 |true=>
  refine ite_tt (test_last (thn (hc pins s3 σ H3 _ I3 q3) fun w' s4 ⟨z',H4,I4,r4,q4⟩=>thn (ho' pins s4 σ H4 y z' u w' _ I4 r2 r4 q4) fun d' s5 ⟨z2,H5,I5,r5,q5⟩=>?_))
  cases z2<;>first|exact q5.elim|(subst r5;exact Xz ⟨H5,I5,q5⟩)
def PY (K:W.Frag)(t:TE):TT:=fun σ H Q=>t σ H fun x H'=>match x with
 |.bl k=>Q k H'
 |.non=>Q false H'
 |.int i=>Q (i !=0) H'
 |x=>∃k,Pu K x H' k/\Q k H'
def qtb {e:Expr}{t:TE}(h:PE X e t)(he:∀whole,isTrue e X.env whole=(do let v<-whole;standAt e.pos;holding [v] (truthy v)):=by intro a;rfl):PT X e (PY X.K t):=by
 intro pins s σ H Q I q
 refine isTrue_plain (thn (h pins s σ H _ I q) fun v s1 ⟨x,H1,I1,r1,q1⟩=>Qo pins s1 σ H1 x v Q I1 r1 ?_) (he _)
 cases x<;>first|exact⟨_,rfl,q1⟩|exact q1
def OO (t u:TT):TT:=fun σ H Q=>t σ H fun c H1=>Sel c (u σ H1 Q) (Q false H1)
def mOr (t u:TT):TT:=fun σ H Q=>t σ H fun c H1=>Sel c (Q true H1) (u σ H1 Q)
def PW.imp {e:Expr}{t t':TT}(h:PW X e t)(i:∀σ H Q,t' σ H Q->t σ H Q):PW X e t':=fun whole pins s σ H Q I q=>h whole pins s σ H Q I (i _ _ _ q)
variable {a b c:Expr}{ta tb:TE}{tA tB':TT}{bQ:List Expr}{pos:Pos}
def MF (ha:PT X a tA):PW X (.BoolOp .And [a] pos) tA:=Mu ha
def OG (ha:PT X a tA):PW X (.BoolOp .Or [a] pos) tA:=Qp ha
def PZ (ha:PT X a tA)(hb:PW X (.BoolOp .And (b::bQ) pos) tB'):PW X (.BoolOp .And (a::b::bQ) pos) (OO tA tB'):=by
 intro wh pins s σ H Q I h
 refine isTrue_and (thn (ha pins s σ H _ I h) fun c s1 ⟨H1,I1,q1⟩=>?_)
 have q1:=dS q1
 cases c with
 |true=>exact hb wh pins s1 σ H1 Q I1 q1
 |false=>exact⟨H1,I1,q1⟩
def Sn (ha:PT X a tA)(hb:PW X (.BoolOp .Or (b::bQ) pos) tB'):PW X (.BoolOp .Or (a::b::bQ) pos) (mOr tA tB'):=by
 intro wh pins s σ H Q I h
 refine isTrue_or (thn (ha pins s σ H _ I h) fun c s1 ⟨H1,I1,q1⟩=>?_)
 have q1:=dS q1
 cases c with
 |true=>exact⟨H1,I1,q1⟩
 |false=>exact hb wh pins s1 σ H1 Q I1 q1
def Ke (ta tb:TE):TE:=fun σ H Q=>ta σ H fun x H1=>match x with|.bl c=>Sel c (tb σ H1 Q) (Q (.bl false) H1)|_=>False
def Ko (ta:TE):TE:=fun σ H Q=>ta σ H fun x H1=>match x with|.bl c=>Q (.bl (!c)) H1|_=>False
def Tu (ha:PE X a ta)(hb:PE X (.BoolOp .And (b::bQ) pos) tb):PE X (.BoolOp .And (a::b::bQ) pos) (Ke ta tb):=by
 intro pins s σ H Q I h
 refine BoolOp_and (thn (ha pins s σ H _ I h) fun v s1 ⟨x,H1,I1,r1,q1⟩=>?_)
 cases x<;>first|exact q1.elim|skip
 rename_i c
 subst r1
 refine Xz ?_
 have q1:=dS q1
 cases c with
 |true=>exact hb pins s1 σ H1 Q I1 q1
 |false=>exact⟨.bl false,H1,I1,rfl,q1⟩
def RN (ha:PE X a ta):PE X (.UnaryOp .Not a pos) (Ko ta):=by
 intro pins s σ H Q I h
 refine UnaryOp_ (thn (ha pins s σ H _ I h) fun v s1 ⟨x,H1,I1,r1,q1⟩=>?_)
 cases x<;>first|exact q1.elim|skip
 rename_i c
 subst r1
 exact not_of (Xz ⟨.bl (!c),H1,I1,rfl,q1⟩)
def mIf (t:TT)(ta tb:TE):TE:=fun σ H Q=>t σ H fun c H1=>Sel c (ta σ H1 Q) (tb σ H1 Q)
def TX {c:Expr}(hc:PT X c tA)(ha:PE X a ta)(hb:PE X b tb):PE X (.IfExp c a b pos) (mIf tA ta tb):=by
 intro pins s σ H Q I h
 refine wpAny_IfExp (thn (hc pins s σ H _ I h) fun d s1 ⟨H1,I1,q1⟩=>?_)
 have q1:=dS q1
 cases d with
 |true=>exact ha pins s1 σ H1 Q I1 q1
 |false=>exact hb pins s1 σ H1 Q I1 q1
def PC (c:TT)(t u:TS):TS:=fun D σ H=>c σ H fun b H1=>Sel b (t D σ H1) (u D σ H1)
def qif {c:Expr}{l m:List Stmt}{tc:TT}{t u:TS}(hc:PT X c tc)(ha:PSs X l t)(hb:PSs X m u):PS X (.If c l m pos) (PC tc t u):=by
 intro pins s σ H D I h
 refine wpAny_If (thn (hc pins s σ H _ I h) fun d s1 ⟨H1,I1,q1⟩=>?_)
 have q1:=dS q1
 cases d with
 |true=>exact ha pins s1 σ H1 D I1 q1
 |false=>exact hb pins s1 σ H1 D I1 q1
theorem UQ:bq X (.builtin "len") (fun xs H Q=>match xs with
  |[.str y]=>y.length<=sizeLine/\Q (.int y.length) H
  |[.ref p]=>(∃xs,SqL X.K H p xs/\Q (.int xs.length) H)\/(∃xs,SqT X.K H p xs/\Q (.int xs.length) H)\/∃kvs,H p=some (.dK kvs)/\Q (.int kvs.length) H
  |_=>False):=by
 intro pins s σ H xs us Q I r h
 split at h
 ·rename_i y
  exact vy pins s σ H _ us Q I r ⟨_,_,rfl,⟨h.1,rfl⟩,h.2⟩
 ·rename_i p
  rcases h with⟨ys,h1,h2⟩|⟨ys,h1,h2⟩|⟨kvs,h1,h2⟩
  ·exact vy pins s σ H _ us Q I r ⟨_,_,rfl,.inl ⟨ys,h1,rfl⟩,h2⟩
  ·exact vy pins s σ H _ us Q I r ⟨_,_,rfl,.inr ⟨ys,h1,rfl⟩,h2⟩
  ·exact Hf pins s σ H _ us Q I r ⟨p,kvs,rfl,h1,h2⟩
 ·exact h.elim
end
section
variable {X:Cx}{tg:Expr}
def JS:V->Hp->VK->Prop:=fun x H Q=>match x with|.int i=>Q (.int (-i)) H|_=>False
def UC:UnR X (unaryOp .USub) JS:=fun pins s σ H x v Q I rx q=>Pf pins s σ H x v Q I rx (by
 unfold JS at q
 split at q
 ·exact⟨_,rfl,q⟩
 ·exact q.elim)
def OT (K:W.Frag):List V->Hp->VK->Prop:=fun xs H Q=>match xs with
 |[.str y]=>y.length<=sizeLine/\Q (.int y.length) H
 |[.ref p]=>(∃xs,SqL K H p xs/\Q (.int xs.length) H)\/(∃xs,SqT K H p xs/\Q (.int xs.length) H)\/∃kvs,H p=some (.dK kvs)/\Q (.int kvs.length) H
 |_=>False
def Uj:bq X (.builtin "len") (OT X.K):=UQ
def Ql:List V->Hp->VK->Prop:=fun xs H Q=>match xs with
 |[x,.ty T]=>T∈["int","bool","str","tuple","list","dict"]/\∃t,tyN H x=some t/\Q (.bl (isI t T)) H
 |_=>False
def Uk:bq X (.builtin "isinstance") Ql:=fun pins s σ H xs us Q I r h=>by
 unfold Ql at h
 split at h
 ·obtain⟨h1,t,h2,h3⟩:=h
  exact IC pins s σ H _ us Q I r ⟨_,_,t,rfl,h1,h2,h3⟩
 ·exact h.elim
def UL:List V->Hp->VK->Prop:=fun xs H Q=>∃(a:Addr)(bs:List Bool),xs=[.ref a]/\H a=some (.lst (bs.map V.bl))/\Q (.bl (bs.all id)) H
def TF (hc:X.calm=true):bq X (.builtin "all") UL:=JM hc
def Sr (K:W.Frag):List V->Hp->VK->Prop:=fun xs H Q=>∃p ys,xs=[.ref p]/\(SqL K H p ys\/SqT K H p ys)/\∀l,H l=none->Q (.ref l) (upd H l (.lst ys))
def Sh:bq X (.type "list") (Sr X.K):=Bs
def OR (K:W.Frag):List V->Hp->VK->Prop:=fun xs H Q=>∃p ys,xs=[.ref p]/\((SqL K H p ys/\∀l,H l=none->Q (.ref l) (upd H l (.tup ys)))\/(SqT K H p ys/\Q (.ref p) H))
def Qq:bq X (.type "tuple") (OR X.K):=Aw
def OA:List V->Hp->VK->Prop:=fun xs H Q=>match xs with
 |[.str x]=>x.length=1/\Q (.int (x.cps.getD 0 0:Nat)) H
 |_=>False
def Vp:bq X (.builtin "ord") OA:=fun pins s σ H xs us Q I r h=>by
 unfold OA at h
 split at h
 ·exact IJ pins s σ H _ us Q I r ⟨_,rfl,h.1,h.2⟩
 ·exact h.elim
end
def Hs:bootBuiltins "all"=some (.builtin "all"):=by decide+kernel
def bc.upd {H:Hp}{p:Addr}{o:HO}(h:H p=none):bc H (upd H p o):=fun b u e=>by rw[ay (aO e h)];exact e
noncomputable def bo:Expr->Bool
 |.Starred _ _=>false
 |_=>true
def aQ {e:Expr}(h:bo e=true)(bQ:List Expr)(env:Env):starEach (e::bQ) env=(false,eval e env)::starEach bQ env:=by
 cases e<;>first|rfl|injection h
def aM:List Expr->Bool
 |[]=>true
 |e::r=>bo e&&aM r
theorem bI:∀{es:List Expr}{env:Env}{pos:Pos},aM es=true->(backTo pos (starEach es env)).any (·.1)=false
 |[],_,_,_=>rfl
 |e::r,env,pos,h=>by
  have h:(bo e&&aM r)=true:=h
  rw[WC]at h
  rw[aQ h.1]
  show(false||(backTo pos (starEach r env)).any (·.1))=false
  rw[bI h.2];rfl
section
variable {X:Cx}{e:Expr}{es:List Expr}{te:TE}{t:TA}{pos:Pos}
def Nj (ha:PE X e te)(hr:PA X es t)(hs:bo e=true:=by rfl):PA X (e::es) (FD te t):=Ls ha hr (aQ hs es X.env)
variable {x:Str}{p apos cpos:Pos}{id T:String}{r:List V->Hp->VK->Prop}
def Mz (hc:bq X (.builtin id) r)(hg:Gl X x)(hm:X.mg x=none)(hv:bootBuiltins x=some (.builtin id))(ha:PA X (e::es) t)(hn:x≠"__name__":=by decide)(hdb:(x==("__debug__":Str))=false:=by decide)
  (hs:aM (e::es)=true:=by rfl):PE X (.Call (.Name x p) (e::es) [] pos) (tCB r t):=
 have h:(bo e&&aM es)=true:=hs
 IQ hc hg hm hv ha hn hdb (aQ (Gn.mp h).1 es X.env) (bI (Gn.mp h).2)
def Kb (hc:bq X (.type T) r)(hg:Gl X x)(hm:X.mg x=none)(hv:bootBuiltins x=some (.type T))(ha:PA X (e::es) t)(hn:x≠"__name__":=by decide)(hdb:(x==("__debug__":Str))=false:=by decide)
  (hs:aM (e::es)=true:=by rfl):PE X (.Call (.Name x p) (e::es) [] pos) (tCB r t):=
 have h:(bo e&&aM es)=true:=hs
 Gh hc hg hm hv ha hn hdb (aQ (Gn.mp h).1 es X.env) (bI (Gn.mp h).2)
variable {CX:CXT}{k:Nat}{f C:Addr}{fd:Gt}{ps:List Str}{sp:Sp}{dvs:List V}{ds:List pz}{E:XK}{m:Str}{o:Expr}{ta:TE}
theorem uV:∀{es:List Expr}{env:Env}{pos:Pos},aM es=true->(backTo pos (starEach es env)).all (fun x=> !x.1)=true
 |[],_,_,_=>rfl
 |e::r,env,pos,h=>by
  have h:(bo e&&aM r)=true:=h
  rw[WC]at h
  rw[aQ h.1]
  show(true&&(backTo pos (starEach r env)).all (fun x=> !x.1))=true
  rw[uV h.2];rfl
variable {to:TE}{name:Str}{rm:V->List V->Hp->VK->Prop}
def Tx (pa:Zi T)(slot:Slot T name id)(hty:typeOf (.builtin id)=pure (.type "method_descriptor"))(hm:MtR X id rm)(ho:PE X o to)(ha:PA X (e::es) t)
  (hbase:attributeBase o name X.env (eval o X.env)=eval o X.env:=by rfl)(hfew:decide ((e::es).length<30)=true:=by rfl)
  (hline:(apos.endLine==cpos.line)=true:=by rfl)(hs:aM (e::es)=true:=by rfl):PE X (.Call (.Attribute o name apos) (e::es) [] cpos) (tBM X.K T rm to t):=
 have h:(bo e&&aM es)=true:=hs
 SY pa slot hty hm ho ha hbase (by rw[uV hs];exact hfew) hline (aQ (Gn.mp h).1 es X.env) (bI (Gn.mp h).2)
end
structure QE (X:Cx)(e:Expr)(t:TE):Prop where
 out:PE X e t
structure QT (X:Cx)(e:Expr)(t:TT):Prop where
 out:PT X e t
structure QW (X:Cx)(e:Expr)(t:TT):Prop where
 out:PW X e t
structure QA (X:Cx)(e:List Expr)(t:TA):Prop where
 out:PA X e t
structure QS (X:Cx)(e:Stmt)(t:TS):Prop where
 out:PS X e t
structure QSs (X:Cx)(e:List Stmt)(t:TS):Prop where
 out:PSs X e t
structure QI (X:Cx)(tg iter:Expr)(t:TI):Prop where
 out:PI X tg iter t
structure QO (X:Cx)(e:Option Expr)(t:TO):Prop where
 out:PO X e t
structure Fk (X:Cx)(e:List Expr)(t:TT):Prop where
 out:JY X e t
section
variable {X:Cx}{a b c e o:Expr}{es bQ:List Expr}{ta tb tc te to tv:TE}{tA tB':TT}{t:TA}{pos apos cpos p:Pos}{x y:Str}
def oV (i:Nat)(hN:X.N[i]?=some x:=by rfl)(hv:Vis X.env.scope x:=by first|exact ab0 rfl|exact aaE (ab0 rfl)|exact aaE (aaE rfl))(hd:(x==("__debug__":Str))=false:=by decide)
 (hcd:(x==("__classdict__":Str))=false:=by decide):QE X (.Name x pos) (mh i):=⟨qv i hN hv hd hcd⟩
def Vc {i:Int}(hm:∃t,X.mg x=some (.int i t))(hg:Gl X x:=by rfl)(hd:(x==("__debug__":Str))=false:=by decide):QE X (.Name x pos) (tC (.int i)):=⟨qgi hm hg hd⟩
def Um {T:String}(hm:X.mg x=none)(hv:bootBuiltins x=some (.type T))(hg:Gl X x:=by rfl)(hn:x≠"__name__":=by decide)(hd:(x==("__debug__":Str))=false:=by decide):QE X (.Name x pos) (tC (.ty T)):=⟨Mc hg hm hv rfl hn hd⟩
def fG {i:Int}{j}:QE X (.Constant (.int i) j pos) (tC (.int i)):=⟨Og⟩
def Vi {b:Bool}{j}:QE X (.Constant (.bool b) j pos) (tC (.bl b)):=⟨QZ⟩
def Rn {j}:QE X (.Constant .none j pos) (tC .non):=⟨Qc⟩
def Ru {z:Str}{j}:QE X (.Constant (.str z) j pos) (tC (.str z)):=⟨NC⟩
def Sa (ha:QE X a ta):QE X (.UnaryOp .USub a pos) (tUn JS ta):=⟨Tq UC ha.out⟩
def RO (ha:QE X a ta):QE X (.UnaryOp .Not a pos) (Ko ta):=⟨RN ha.out⟩
def qU {op:Operator}{r:R2}(ho:OpR X (binaryOp op) r)(ha:QE X a ta)(hb:QE X b tb):QE X (.BinOp a op b pos) (tOp r ta tb):=⟨RF ho ha.out hb.out⟩
def Se {op:abZ}{r:R2}(ho:OpR X (compareOp op) r)(ha:QE X a ta)(hb:QE X b tb)(hm:behindInMarks op b=false:=by first|exact mF _|rfl):QE X (.Compare a [op] [b] pos) (tOp r ta tb):=⟨qc ho ha.out hb.out hm⟩
def Mq {op op':abZ}{r r':R2}(ho:OpR X (compareOp op) r)(ho':OpR X (compareOp op') r')(ha:QE X a ta)(hb:QE X b tb)(hc:QE X c tc)(hm:lastMarks [op,op'] [b,c]=false:=by with_unfolding_all rfl):
 QE X (.Compare a [op,op'] [b,c] pos) (rz r r' ta tb tc):=⟨qch ho ho' ha.out hb.out hc.out hm⟩
def SE {op}(h:QE X a ta):QE X (.BoolOp op [a] pos) ta:=⟨NN h.out⟩
def To (ha:QE X a ta)(hb:QE X (.BoolOp .And (b::bQ) pos) tb):QE X (.BoolOp .And (a::b::bQ) pos) (Ke ta tb):=⟨Tu ha.out hb.out⟩
def Ui (hc:QT X c tA)(ha:QE X a ta)(hb:QE X b tb):QE X (.IfExp c a b pos) (mIf tA ta tb):=⟨TX hc.out ha.out hb.out⟩
def SM:QA X [] ph:=⟨NA⟩
def OE (ha:QE X e te)(hr:QA X es t)(hs:bo e=true:=by rfl):QA X (e::es) (FD te t):=⟨Nj ha.out hr.out hs⟩
def QY (h:QA X es t):QE X (.List es pos) (PD t):=⟨QD h.out⟩
def Rc {x1}(h:QA X es t):QE X (.Tuple es x1 pos) (PK t):=⟨Oi h.out⟩
def UI {r:R2}(hr:IxR X r)(ha:QE X a ta)(hb:QE X b tb)(hs:yt b):QE X (.Subscript a b pos) (tOp r ta tb):=⟨Re hr ha.out hb.out hs⟩
def MI:QO X none EL:=⟨Ml⟩
def MN (h:QE X e te):QO X (some e) (Le te):=⟨Nf h.out⟩
def Lm {r:V->Option Int->Option Int->Hp->VK->Prop}{lo hi:Option Expr}{tl th:TO}{p2:Pos}(hr:SlR X r)(he:QE X e te)(hl:QO X lo tl)(hu:QO X hi th):QE X (.Subscript e (.Slice lo hi none p2) pos) (tSl r te tl th):=⟨IV hr he.out hl.out hu.out⟩
variable {id T:String}{r:List V->Hp->VK->Prop}
def Lo (hc:bq X (.builtin id) r)(hm:X.mg x=none)(hv:bootBuiltins x=some (.builtin id))(ha:QA X (e::es) t)(hg:Gl X x:=by rfl)(hn:x≠"__name__":=by decide)(hdb:(x==("__debug__":Str))=false:=by decide)
 (hs:aM (e::es)=true:=by rfl):QE X (.Call (.Name x p) (e::es) [] pos) (tCB r t):=⟨Mz hc hg hm hv ha.out hn hdb hs⟩
def JW (hc:bq X (.type T) r)(hm:X.mg x=none)(hv:bootBuiltins x=some (.type T))(ha:QA X (e::es) t)(hg:Gl X x:=by rfl)(hn:x≠"__name__":=by decide)(hdb:(x==("__debug__":Str))=false:=by decide)
 (hs:aM (e::es)=true:=by rfl):QE X (.Call (.Name x p) (e::es) [] pos) (tCB r t):=⟨Kb hc hg hm hv ha.out hn hdb hs⟩
variable {CX:CXT}{k:Nat}{f C:Addr}{fd:Gt}{ps:List Str}{sp:Sp}{dvs:List V}{ds:List pz}{E:XK}{m:Str}
variable {name:Str}{rm:V->List V->Hp->VK->Prop}
def UD (pa:Zi T)(slot:Slot T name id)(hty:typeOf (.builtin id)=pure (.type "method_descriptor"))(hm:MtR X id rm)(ho:QE X o to)(ha:QA X (e::es) t)
 (hbase:attributeBase o name X.env (eval o X.env)=eval o X.env:=by rfl)(hfew:decide ((e::es).length<30)=true:=by rfl)
 (hline:(apos.endLine==cpos.line)=true:=by rfl)(hs:aM (e::es)=true:=by rfl):QE X (.Call (.Attribute o name apos) (e::es) [] cpos) (tBM X.K T rm to t):=⟨Tx pa slot hty hm ho.out ha.out hbase hfew hline hs⟩
def rQ {op:abZ}{r:R2}(ho:OpR X (compareOp op) r)(ha:QE X a ta)(hb:QE X b tb)(hm:behindInMarks op b=false:=by first|exact mF _|rfl):QT X (.Compare a [op] [b] pos) (jr (tOp r ta tb)):=⟨qtc ho ha.out hb.out hm⟩
def Jd {op op':abZ}{r r':R2}(ho:OpR X (compareOp op) r)(ho':OpR X (compareOp op') r')(ha:QE X a ta)(hb:QE X b tb)(hc:QE X c tc)(hm:lastMarks [op,op'] [b,c]=false:=by with_unfolding_all rfl):
 QT X (.Compare a [op,op'] [b,c] pos) (jr (rz r r' ta tb tc)):=⟨Ut ho ho' ha.out hb.out hc.out hm⟩
def Qr (h:QE X e te)(he:∀whole,isTrue e X.env whole=(do let v<-whole;standAt e.pos;holding [v] (truthy v)):=by intro a;rfl):QT X e (PY X.K te):=⟨qtb h.out he⟩
def OX (ha:QT X a tA):QT X (.UnaryOp .Not a pos) (Pn tA):=⟨Qu ha.out⟩
def x_w (h:QW X e tA):QT X e tA:=⟨h.out.pt⟩
def Nq (ha:QT X a tA):QW X (.BoolOp .And [a] pos) tA:=⟨MF ha.out⟩
def OZ (ha:QT X a tA):QW X (.BoolOp .Or [a] pos) tA:=⟨OG ha.out⟩
def Pa (ha:QT X a tA)(hb:QW X (.BoolOp .And (b::bQ) pos) tB'):QW X (.BoolOp .And (a::b::bQ) pos) (OO tA tB'):=⟨PZ ha.out hb.out⟩
def Tg (ha:QT X a tA)(hb:QW X (.BoolOp .Or (b::bQ) pos) tB'):QW X (.BoolOp .Or (a::b::bQ) pos) (mOr tA tB'):=⟨Sn ha.out hb.out⟩
variable {tg iter elt:Expr}{wi:TI}{ifs:List Expr}{scope:Scope}{ys:List Str}{is:List Nat}{px py spos:Pos}
def Jn (hm:X.mg "range"=none)(ha:QA X [a] t)(hg:Gl X "range":=by rfl)(hs:bo a=true:=by rfl):QI X tg (.Call (.Name "range" p) [a] [] pos) (Kr t):=⟨HZ hg hm ha.out (aQ hs [] X.env)⟩
def Jl (hm:X.mg "range"=none)(ha:QA X [a,b] t)(hg:Gl X "range":=by rfl)(hs:bo a=true:=by rfl)(hs2:bo b=true:=by rfl):QI X tg (.Call (.Name "range" p) [a,b] [] pos) (KN t):=
 ⟨Hq hg hm ha.out (by rw[aQ hs,aQ hs2];rfl) (aQ hs2 [] X.env)⟩
def QF:Fk X [] (fun a H Q=>Q true H):=⟨rfl⟩
def MB (h:QT X c tA):Fk X [c] tA:=⟨h.out⟩
def NS {tcn:TT}(S:iB scope x ys)(hcap:kD X scope ys is)(hi:QI X (.Name x px) iter wi)
 (hif:∀C s H fp,Fk (bw X scope C (x::ys) s H fp) ifs tcn)(he:∀C s H fp,QE (bw X scope C (x::ys) s H fp) elt te)(hc:X.calm=true:=by rfl)
 (hs:∀x,foldedSetIterable iter X.env x=pure x:=by intro a;rfl):QE X (.ListComp elt [⟨.Name x px,iter,ifs,0⟩] scope pos) (FR is wi tcn te):=⟨Lu hc S hcap hi.out (fun C s H fp=>(hif C s H fp).out) (fun C s H fp=>(he C s H fp).out) hs⟩
variable {st:Stmt}{sts:List Stmt}{tS uS:TS}{i j:Nat}
def Oc:QSs X [] KI:=⟨MJ⟩
def Io (h:QS X st tS):QSs X [st] tS:=⟨Lq h.out⟩
def Mw (h1:QS X st tS)(h2:QSs X sts uS):QSs X (st::sts) (NT tS uS):=⟨Js h1.out h2.out⟩
def RE (h:QE X e te):QS X (.Return (some e) pos) (QN te):=⟨NG h.out⟩
def Tf {l m:List Stmt}(hc:QT X c tA)(ha:QSs X l tS)(hb:QSs X m uS):QS X (.If c l m pos) (PC tA tS uS):=⟨qif hc.out ha.out hb.out⟩
def Bb (i:Nat)(hN:X.N.Nodup)(he:QE X e te)(hi:X.N[i]?=some x:=by rfl)(hx:Loc X.env.scope x:=by first|exact .inl rfl|exact .inr rfl)
 (hs:swapsWith e (some (.Name x p)) pos.line X.env=pure false:=by rfl)(hf:X.fn x=true\/X.env.scope.names.lookup x=some .local:=by first|exact .inl rfl|exact .inr rfl):QS X (.Assign [.Name x p] e pos) (yp te (tG i)):=⟨NV hN hi hx he.out hs hf⟩
def Oa (h:QE X e te)(hs:swapsWith e none pos.line X.env=pure false:=by rfl):QS X (.Expr e pos) (Kk te):=⟨LV h.out hs⟩
def LU {body:List Stmt}(hc:QT X c tA)(hb:QSs X body tS)(hp:aaY (model X.prog X.w) X.A X.env X.xe):QS X (.While c body [] pos) (Hy tA tS):=⟨JD hp hc.out hb.out⟩
end
end L2
namespace HT
open PySem PyProof.Rows
structure Hd0 (vs:Array pz)(a0:pz×pz):Prop where
 a:vs[0]?=some a0.1
 b:vs[2]?=some a0.2
end HT
namespace L2
open PySem PySem.Spec PyProof.Rows
noncomputable abbrev veM:List pz:=[.type "ValueError",.type "Exception",.type "BaseException",.type "object"]
def Pe (K:W.Frag)(C:Addr):Bool:=match K.lookup C with
 |some ⟨.type "type",_,.cls cd,sl⟩=>(match cd.mro,sl.toList with
  |.ref C'::bm,[_,_,_,_,some (.builtin n),_]=>C'==C&&n=="ValueError.__new__"&& !cd.hasDel&&W.tailIn K veM bm&&W.nsOkIn K cd.ns
  |_,_=>false)
 |_=>false
def SN (K:W.Frag)(C:Addr):Prop:=Pe K C=true
def DrA (a0:pz×pz)(d':Option Addr)(a:Addr)(d:Option Addr):Prop:=(a0.2=.none/\d'=d)\/d=some a
structure Fly (P:VM)(w:Wm)(l:List Env)(H:Hp)(s:Bn)(cls fl:pz)(a:Addr)(d:Option Addr)(H':Hp)(s':Bn):Prop where
 os:s'.os=s.os
 bare:Zn s'.gens
 un:Un (frs l) [] H H' s.heap s'.heap
 hok:HOk P w H' s'.heap
 new:s.heap.get? a=none
 free:H' a=none
 tr:∃oe vs a0 T oT ts,s'.heap.get? a=some oe/\oe.cls=cls/\DrA a0 oe.dict a d/\oe.data=.fields vs/\HT.Hd0 vs a0/\vs[1]?=some (.ref T)/\T≠a/\s'.heap.get? T=some oT/\oT.data=.fields ts/\ts[3]?=some fl/\s.heap.get? T=none/\H' T=none
def CX1 (P:VM)(w:Wm):CXT:=fun outer H s E e s'=>∃a C d H',e=.ref a/\Fly P w outer H s (.ref C) .none a d H' s'/\E (.ref C) d H'
def Jw {P:VM}{w:Wm}{H:Hp}{h:Heap}{a:Addr}{o:HO}(x:ba P w H h a o):∃u,h.get? a=some u:=by
 cases o with
 |lst xs=>obtain⟨b,b,b,b,e⟩:=x;exact⟨_,e⟩
 |tup xs=>obtain⟨b,b,b,p⟩:=x;obtain⟨o,e,b⟩:=p;exact⟨_,e⟩
 |dK kvs=>obtain⟨b,b,b,b,o,b,b,e,b⟩:=x;exact⟨_,e⟩
 |dT kvs=>obtain⟨b,b,b,b,o,b,b,e,b⟩:=x;exact⟨_,e⟩
 |set S n=>obtain⟨o,b,b,b,e,b⟩:=x;exact⟨_,e⟩
 |ins C dx fs=>obtain⟨b,b,b,e,b⟩:=x;exact⟨_,e⟩
 |own y=>exact x
 |xd fs=>obtain⟨b,⟨b,b,b,e,b⟩,b⟩:=x;exact⟨_,e⟩
 |rng lo hi=>obtain⟨b,b,b,e⟩:=x;exact⟨_,e⟩
 |frz ob u=>obtain⟨e,b⟩:=x;exact⟨_,e⟩
 |tbl ps=>exact⟨_,(show h.get? a=some _ from x)⟩
 |met f y=>exact⟨_,(show h.get? a=some _ from x)⟩
 |ext φ=>obtain⟨b,e,b⟩:=x;exact e
structure Ur (P:VM)(w:Wm)(l:List Env)(H:Hp)(s:Bn)(cls:pz)(a:Addr)(d:Option Addr)(H':Hp)(s':Bn):Prop where
 os:s'.os=s.os
 bare:Zn s'.gens
 un:Un (frs l) [] H H' s.heap s'.heap
 hok:HOk P w H' s'.heap
 new:s.heap.get? a=none
 free:H' a=none
 tr:∃oe vs a0,s'.heap.get? a=some oe/\oe.cls=cls/\DrA a0 oe.dict a d/\oe.data=.fields vs/\HT.Hd0 vs a0/\vs[1]?=some .none
def di (CX:CXT)(X:Cx)(E:St->XK):Prop:=∀(pins:List (Addr×Obj))(σ:St)(H:Hp)(s:Bn)(e:pz)(s':Bn),Inv X pins σ H s->CX X.stack H s (E σ) e s'->X.xe e s'
def OF (X:Cx)(E:St->XK):Prop:=∀(pins:List (Addr×Obj))(σ:St)(H:Hp)(s:Bn)(C a:Addr)(d:Option Addr)(H2:Hp)(s2:Bn),Inv X pins σ H s->Ur X.prog X.w X.stack H s (.ref C) a d H2 s2->E σ (.ref C) d H2->X.xe (.ref a) s2
def oM {P:VM}{w:Wm}{X:Cx}:di (CX1 P w) X (fun a=>E0):=fun pins σ H s e s' I ⟨_,_,_,_,_,_,h⟩=>h.elim
def nM (sp:Sp)(E:St->XK)(t:TA):TE:=fun σ H Q=>t σ H fun vs H1=>sp vs H1 Q (E σ)
section
variable {X:Cx}{CX:CXT}{k:Nat}{f:Addr}{fd:Gt}{ps:List Str}{sp:Sp}{E:St->XK}{x:Str}{p pos:Pos}{e:Expr}{es:List Expr}{t:TA}
def nF {pins:List (Addr×Obj)}{σ:St}{H:Hp}{s:Bn}{Q:VK}{us:List pz}{vs:List V}(F:cy X.prog X.w X.K X.mg X.base CX k f fd ps sp)(hr:aZ k X.A)(hb:bX X.K fd ps [])(hx:di CX X E)
  (I:Inv X pins σ H s)(r:aU vs us)(h:sp vs H Q (E σ)):wpAny (model X.prog X.w) X.A (call (.ref f) us) (EP X pins σ Q) X.xe s:=by
 have hl:us.length=ps.length:=by rw[<-r.length];exact F.len _ _ _ _ h
 have hb':=hb s us I.kIn (by rw[Wc];exact hl)
 rw[Wc]at hb'
 refine abo (YA (F.run X.A X.stack s H ⟨us,[]⟩ us vs Q (E σ) hr I.env0 hb' r h) fun r s' hq=>?_)
 cases r with
 |error e=>exact hx pins σ H s e s' I hq
 |ok fl=>
  cases fl with
  |ret u=>exact I.after hq
  |next=>exact Wg hq
  |brk=>exact Wg hq
  |cont=>exact Wg hq
def Md (F:cy X.prog X.w X.K X.mg X.base CX k f fd ps sp)(hr:aZ k X.A)(hm:X.mg x=some (.ref f))(hk:W.keepIn X.K (.ref f)=true)(hb:bX X.K fd ps [])(hx:di CX X E)
  (ha:QA X (e::es) t)(hg:Gl X x:=by rfl)(hdb:(x==("__debug__":Str))=false:=by decide)(hs:aM (e::es)=true:=by rfl):QE X (.Call (.Name x p) (e::es) [] pos) (nM sp E t):=by
 refine⟨fun pins s σ H Q I h=>?_⟩
 have h':(bo e&&aM es)=true:=hs
 refine Wn (oA I hg hm ?_ hdb)
 refine W.callWith_K (h₀:=X.base) I.ok.mod.kin hk (thn (ha.out pos pins s σ H _ I h) fun us s1 ⟨vs,H1,I1,r,q⟩=>⟨I1.kIn,?_⟩) (aQ (Gn.mp h').1 es X.env) (bI (Gn.mp h').2)
 exact nF F hr hb hx I1 r q
def BA (F:cy X.prog X.w X.K X.mg X.base CX k f fd ps sp)(hr:aZ k X.A)(hm:X.mg x=some (.ref f))(hk:W.keepIn X.K (.ref f)=true)(hb:bX X.K fd ps [])(hx:di CX X E)
  (hg:Gl X x:=by rfl)(hdb:(x==("__debug__":Str))=false:=by decide):QE X (.Call (.Name x p) [] [] pos) (nM sp E ph):=by
 refine⟨fun pins s σ H Q I h=>?_⟩
 refine Wn (oA I hg hm ?_ hdb)
 exact W.callWith_K0 I.kIn hk (nF (us:=[]) F hr hb hx I .nil h)
end
def NK (C:Addr)(d:Option Addr)(a:Addr):HO:=.ext fun h=>∃o vs,h.get? a=some o/\o.cls=.ref C/\(o.dict=d\/d=some a)/\o.data=.fields vs/\(vs[2]?=some .none\/d=some a)
abbrev TH:=pB->St->Addr->Option Addr->Hp->Prop
section
variable {X:Cx}
def TJ {x:Str}{D:Addr}{pos:Pos}(hm:X.mg x=some (.ref D))(hg:Gl X x:=by rfl)(hd:(x==("__debug__":Str))=false:=by decide):QE X (.Name x pos) (tC (.ref D)):=⟨zk hg hm rfl hd⟩
end
end L2
namespace HT
open PySem PyProof.Rows
section
variable {prog:VM}{w:Wm}{A:Wj}{E:pz->Bn->Prop}{s:Bn}
def JT {t b:Addr}{ws:List pz}{Q:pz->Bn->Prop}(ht:IsTup s.heap t #[])(hb:IsTup s.heap b ws.toArray)(h1:Q (.ref b) s):wpAny (model prog w) A (binaryOp .Add (.ref t) (.ref b)) Q E s:=by
 obtain⟨⟨cls,dd,data,sl⟩,ho,hc,n,hd⟩:=id ht
 obtain⟨⟨cls2,dd2,data2,sl2⟩,ho2,hc2,n2,hd2⟩:=id hb
 simp only at hc hd hc2 hd2
 subst hc hd hc2 hd2
 exact abW ⟨_,ho,rfl⟩ ⟨_,ho2,rfl⟩ aaJ abz YU YT (YG _ _)
  (tuple_addW0 t b #[] ws.toArray n n2 dd dd2 sl sl2 (by simp)) ⟨ho,ho2,h1⟩
end
end HT
namespace L2
open PySem PySem.Spec PyProof.Rows
def bc.rfl' {H:Hp}:bc H H:=fun a a e=>e
section
variable {X:Cx}
def KA:R2:=fun x y H Q=>∃a b xs ys,x=.ref a/\y=.ref b/\H a=some (.tup xs)/\H b=some (.tup ys)/\xs.length+ys.length<=sizeLine/\∀p H',bc H H'->H' p=some (.tup (xs++ys))->Q (.ref p) H'
def Nr:OpR X (binaryOp .Add) KA:=by
 intro pins s σ H x y v u Q I rx ry h
 obtain⟨a,b,xs,ys,rfl,rfl,ha,hb,hz,q⟩:=h
 by_cases hx:xs=[]
 ·subst hx
  subst rx
  subst ry
  obtain⟨its,r1,p1,c⟩:=I.tuple (.inl (.inl ha))
  obtain⟨its2,r2,p2,c⟩:=I.tuple (.inl (.inl hb))
  cases r1
  exact HT.JT p1 p2 ⟨.ref b,H,I,rfl,q b H bc.rfl' hb⟩
 ·refine Ma pins s σ H _ _ v u Q I rx ry ⟨a,b,xs,ys,rfl,rfl,.inl (.inl ha),.inl (.inl hb),hx,hz,fun e=>?_,fun c p hp=>q p _ (bc.upd hp) (aT ..)⟩
  subst e
  exact q a H bc.rfl' (by rw[Wc];exact ha)
def Ga (K:W.Frag):R2:=fun x y H Q=>match x,y with
 |.int i,.int j=>Q (.int (i+j)) H
 |.str i,.str j=>i.length+j.length<=sizeLine/\Q (.str (i++j)) H
 |.ref a,.ref b=>Pc (.ref a) (.ref b) H Q\/KA (.ref a) (.ref b) H Q
 |_,_=>False
def KD:OpR X (binaryOp .Add) (Ga X.K):=(OS.or (ES.or (Nz.or Nr))).imp fun x y H Q q=>by
 unfold Ga at q
 split at q
 ·exact .inl ⟨_,_,rfl,rfl,q⟩
 ·exact .inr (.inl ⟨_,_,rfl,rfl,q.1,q.2⟩)
 ·exact .inr (.inr q)
 ·exact q.elim
def Uy (t:TE):TE:=fun σ H Q=>t σ H fun x H'=>match x with
 |.int i=>i.natAbs.log2<1920/\Q (.str (toString i)) H'
 |.str z=>z.length<=sizeLine/\Q (.str z) H'
 |_=>False
def Ri {e:Expr}{te:TE}{pos:Pos}(h:QE X e te):QE X (.FormattedValue e (-1) none pos) (Uy te):=⟨fun pins s σ H Q I q=>by
 refine FormattedValue_plain (thn (h.out pins s σ H _ I q) fun v s1 ⟨x,H1,I1,r1,q1⟩=>?_)
 cases x<;>first|exact q1.elim|skip
 ·rename_i i
  obtain⟨t,rfl⟩:=(show ∃t,v=YC i t from r1)
  exact formatField_int_small q1.1 ⟨.str _,H1,I1.tok _,⟨_,rfl⟩,q1.2⟩
 ·rename_i z
  obtain⟨t,rfl⟩:=(show ∃t,v=XY z t from r1)
  exact formatField_str (fun t' tk=>⟨.str _,H1,I1.tok _,⟨_,rfl⟩,q1.2⟩) q1.1⟩
def mJ:List TE->Str->TE
 |[],acc=>fun σ H Q=>acc.length<=sizeLine/\Q (.str acc) H
 |t::r,acc=>fun σ H Q=>t σ H fun x H'=>match x with
  |.str y=>(acc++y).length<=sizeLine/\mJ r (acc++y) σ H' Q
  |_=>False
inductive QJ (X:Cx):List Expr->List TE->Prop where
 |nil:QJ X [] []
 |cons {e:Expr} {t:TE} {es:List Expr} {ts:List TE}:QE X e t->QJ X es ts->QJ X (e::es) (t::ts)
def SZ {es:List Expr}{ts:List TE}(j:QJ X es ts):∀{pins:List (Addr×Obj)}{s:Bn}{σ:St}{H:Hp}{Q:VK}{acc:Str},Inv X pins σ H s->mJ ts acc σ H Q->wpAny (model X.prog X.w) X.A (joinParts acc (evalEach es X.env)) (EP X pins σ Q) X.xe s:=by
 induction j with
 |nil=>intro pins s σ H Q acc I q;exact joinParts_nil ⟨.str _,H,I.tok _,⟨_,rfl⟩,q.2⟩ q.1
 |cons h _ ih=>
  intro pins s σ H Q acc I q
  refine joinParts_cons (thn (h.out pins s σ H _ I q) fun v s1 ⟨x,H1,I1,r1,q1⟩=>?_)
  cases x<;>first|exact q1.elim|skip
  rename_i z
  obtain⟨t,rfl⟩:=(show ∃t,v=XY z t from r1)
  exact⟨q1.1,ih I1 q1.2⟩
def OW {v1 v2:Expr}{bQ:List Expr}{ts:List TE}{pos:Pos}(j:QJ X (v1::v2::bQ) ts):QE X (.JoinedStr (v1::v2::bQ) pos) (mJ ts XA):=⟨fun pins s σ H Q I q=>JoinedStr_many (SZ j I q)⟩
end
def Fun.okN {P:VM}{w:Wm}{K:W.Frag}{mg:Str->Option pz}{base:Heap}{CX:CXT}{x qual:Str}{st:Stmt}{f:Addr}{fd:Gt}{N ps:List Str}{k:Nat}{sp:Sp}(F:Fun K x qual st f fd)(S:aq N ps (ai st))(len:∀vs H Q E,sp vs H Q E->vs.length=ps.length)
  (hbody:∀(cdv:pz)(A:Wj)(outer:List Env)(s:Bn)(H:Hp)(vs:List V)(Q:VK)(E:XK),aZ k (A.deeper (envOfC qual (ai st) s.heap.objs.size f cdv))->sp vs H Q E->
   ∃t,PSs (gb CX P w K mg base N qual (ai st) f cdv A outer s H E).nox (bv st) t/\t {nx:=fun a H'=>Q .non H',rt:=Q} (du N vs) H):cy P w K mg base CX (k+1) f fd ps sp:=by
 obtain⟨oc,od,kV,doc,pm,an,cdv,ct,osl,rfl,lk,hcd⟩:=F.ex
 refine Sk lk hcd S len fun A outer s H vs Q E hr hsp=>?_
 obtain⟨t,h,q⟩:=hbody cdv A outer s H vs Q E hr hsp
 exact⟨t,h.nox,q⟩
section
variable {X:Cx}
def OU:V->Option Int->Option Int->Hp->VK->Prop:=fun x lo hi H Q=>∃z,x=.str z/\z.length<=sizeLine/\Q (.str (Txt.slice z lo hi)) H
def Od:SlR X OU:=by
 intro pins s σ H x v vl vu lo hi sl Q I rx hs pl pu h
 obtain⟨z,rfl,hz,q⟩:=h
 obtain⟨t,rfl⟩:=(show ∃t,v=XY z t from rx)
 refine⟨"str",_,F.slot_str_getitem.lookup,acF _ _ _,?_⟩
 have fin:∀(l u:Option (Int×Tok)),l.map (·.1)=lo->u.map (·.1)=hi->s.heap.IsSlice sl l u none->wpAny (model X.prog X.w) X.A (getItem (.str z t) (.ref sl)) (EP X pins σ Q) X.xe s:=fun l u e1 e2 hs'=>by
  subst e1 e2
  refine wpAny_getItem_str_slice (l:=l) (u:=u) (st:=none) hs' rfl (post_val_or_str ⟨VO (Txt.slice_le z _ _) hz,fun t' k=>⟨.str _,H,I.tok k,⟨_,rfl⟩,q⟩⟩)
 obtain⟨os,hos,hcs,hds⟩:=hs
 cases pl with
 |none=>cases pu with
  |none=>exact fin none none rfl rfl ⟨os,hos,hcs,hds⟩
  |int j tj=>exact fin none (some (j,tj)) rfl rfl ⟨os,hos,hcs,hds⟩
 |int i ti=>cases pu with
  |none=>exact fin (some (i,ti)) none rfl rfl ⟨os,hos,hcs,hds⟩
  |int j tj=>exact fin (some (i,ti)) (some (j,tj)) rfl rfl ⟨os,hos,hcs,hds⟩
def yd:V->Bool
 |.int _=>true
 |.str _=>true
 |_=>false
def FH {A:Wj}{s:Bn}{x y:V}{u v:pz}(rx:aL x u)(ry:aL y v)(hx:yd x=true)(hy:yd y=true):PySem.SeqAt.EqAt A s u v (decide (x=y)):=by
 cases x<;>first|cases hx|skip
 all_goals (cases y<;>first|cases hy|skip)
 ·obtain⟨t,rfl⟩:=rx;obtain⟨t',rfl⟩:=ry
  have e:=Zs (A:=A) (s:=s) ‹Int› t ‹Int› t'
  rename_i i j
  have e2:decide (V.int i=V.int j)=(i==j):=by rw[sy (f:=V.int) fun _ _ e=>V.int.inj e];rfl
  rw[e2];exact Zs i t j t'
 ·obtain⟨t,rfl⟩:=rx;obtain⟨t',rfl⟩:=ry
  exact aad _ _ _ _
 ·obtain⟨t,rfl⟩:=rx;obtain⟨t',rfl⟩:=ry
  exact aac _ _ _ _
 ·obtain⟨t,rfl⟩:=rx;obtain⟨t',rfl⟩:=ry
  rename_i i j
  have e2:decide (V.str i=V.str j)=(i==j):=by
   rw[sy (f:=V.str) fun _ _ e=>V.str.inj e]
   by_cases h:i=j
   ·rw[h];simp
   ·rw[decide_eq_false h];exact(beq_eq_false_iff_ne.mpr h).symm
  rw[e2];exact acf i t j t'
def Hz {xs ys:List V}:decide (xs=ys)=((WJ (min xs.length ys.length)).all (fun j=>decide (xs[j]?=ys[j]?))&&xs.length==ys.length):=by
 by_cases h:xs=ys
 ·subst h;simp
 ·rw[decide_eq_false h]
  by_cases hl:xs.length=ys.length
  ·rw[hl,Nat.min_self,beq_self_eq_true,Bool.and_true]
   symm
   rw[List.all_eq_false]
   apply VZ
   intro hn
   apply h
   apply abS fun i=>?_
   by_cases hi:i<ys.length
   ·apply VZ
    intro hne
    exact hn ⟨i,Yp.mpr hi,by simpa using hne⟩
   ·rw[Wa (by lia),Wa (by lia)]
  ·have:(xs.length==ys.length)=false:=by simpa using hl
   rw[this,Bool.and_false]
def Ow (K:W.Frag):R2:=fun x y H Q=>∃a b xs ys,x=.ref a/\y=.ref b/\SqT K H a xs/\SqT K H b ys/\xs.all yd=true/\ys.all yd=true/\Q (.bl (decide (xs=ys))) H
def Qx (hu:X.A.units<cLine):OpR X (compareOp .Eq) (Ow X.K):=by
 intro pins s σ H x y v u Q I rx ry h
 obtain⟨a,b,xs,ys,rfl,rfl,ha,hb,px,py,q⟩:=h
 subst rx
 subst ry
 obtain⟨its,r1,p1,c⟩:=I.tuple ha
 obtain⟨its2,r2,p2,c⟩:=I.tuple hb
 have l1:=r1.length
 have l2:=r2.length
 refine PySem.SeqAt.eq_tupleAt (e:=fun j=>decide (xs[j]?=ys[j]?)) p1 p2 hu (fun j h1 h2=>?_) ?_
 ·have h1:j<its.length:=by simpa using h1
  have h2:j<its2.length:=by simpa using h2
  have e1:xs[j]?=some xs[j]:=Dc (by lia)
  have e2:ys[j]?=some ys[j]:=Dc (by lia)
  obtain⟨u1,g1,ru1⟩:=r1.get e1
  obtain⟨u2,g2,ru2⟩:=r2.get e2
  have g1':its.toArray[j]=u1:=by
   rw[Dc h1]at g1;simpa using VR g1
  have g2':its2.toArray[j]=u2:=by
   rw[Dc h2]at g2;simpa using VR g2
  rw[g1',g2',e1,e2]
  have:decide (some xs[j]=some ys[j])=decide (xs[j]=ys[j]):=by simp
  rw[this]
  exact FH ru1 ru2 (WB.mp px _ (XS _)) (WB.mp py _ (XS _))
 ·have e:=Hz (xs:=xs) (ys:=ys)
  rw[l1,l2]at e
  simp only[Vv]
  rw[<-e]
  exact⟨.bl _,H,I,rfl,q⟩
def PJ:List V->Hp->VK->Prop:=fun xs H Q=>match xs with
 |[.str z]=>∃n,acb z=some n/\z.length<=640/\Q (.int n) H
 |[.bl b]=>Q (.int (if b then 1 else 0)) H
 |_=>False
def Uw:bq X (.type "int") PJ:=fun pins s σ H xs us Q I r h=>by
 unfold PJ at h
 split at h
 ·obtain⟨n,h1,h2,q⟩:=h
  obtain⟨u,rfl,ru⟩:=eC r
  obtain⟨t,rfl⟩:=ru
  exact W.KIN.call_text h1 h2 ⟨.int n,H,I.tok _,⟨_,rfl⟩,q⟩
 ·obtain⟨u,rfl,ru⟩:=eC r
  subst ru
  exact call_int_bool ⟨.int _,H,I.tok _,⟨_,rfl⟩,h⟩
 ·exact h.elim
end
end L2
namespace HT
open PySem PyProof.Rows
section
variable {prog:VM}{w:Wm}{A:Wj}{E:pz->Bn->Prop}{s:Bn}
def Bg {it t:Addr}{i:Nat}{items:Array pz}{x:pz}{Q:pz->Bn->Prop}(hit:s.heap.IsTupleIter it t i)(ht:s.heap.IsTuple t items)(hx:items[i]?=some x)
  (hQ:∀h',h'.IsTupleIter it t (i+1)->XF it s.heap h'->Q x {s with heap:=h'}):wpAny (model prog w) A (Wi (.ref it)) Q E s:=by
 obtain⟨o,ho,hc,hd⟩:=id hit
 obtain⟨ol,hol,a,nl,hdl⟩:=ht
 unfold Wi
 refine pv (XB (name:=WL "__next__") hit.typeIs aaP
  (Xd aaP hit.typeIs F.entry_tuple_iterator_next ?_ (F.args_tuple_iterator_next_1 _)))
 show wpAny _ _ (field (.ref it) 0>>=_) _ _ s
 refine pv (WO ho hd (x:=.ref t) rfl ?_)
 show wpAny _ _ (if (Lt t==Xb)=true then _ else _) _ _ s
 rw[if_neg (show ¬((Lt t==Xb)=true)from VF)]
 show wpAny _ _ (field (.ref it) 1>>=_) _ _ s
 refine pv (WO ho hd (x:=.int i 0) rfl ?_)
 show wpAny _ _ (seqItems? (.ref t)>>=_) _ _ s
 refine pv (Xj hol hdl ?_)
 simp only[Yq,hx]
 refine pv (wpAny_setField ho hd (by simp) (Vt ⟨x,rfl,Vt (hQ _ ?_ (Yj ..))⟩))
 exact⟨_,WZ _ ho (Obj.isFreed_of_fields (abK hd _)),(Obj.cls_mapFields ..).trans hc,by rw[abK hd];simp[rawInt]⟩
abbrev ZA:=Zm
end
abbrev itO (t:Addr):Obj:={cls:=.type "tuple_iterator",data:=.fields #[.ref t,.int 0 0]}
end HT
namespace L2
open PySem PySem.Spec PyProof.Rows
section
variable {X:Cx}{pins:List (Addr×Obj)}{σ:St}{H H1:Hp}{s s0:Bn}{a:Addr}{o:HO}
def Inv.track2 (I0:Inv X pins σ H1 s0)(I:Inv X pins σ H s)(new:s0.heap.objs.size<=a)(hn:H a=none)(ok:ba X.prog X.w (upd H a o) s.heap a o):Inv X pins σ (upd H a o) s:=by
 have ne:∀b u,s0.heap.get? b=some u->b≠a:=fun b u e=>VD (VB (Vq e) new)
 have ne0:∀b u,X.s₀.heap.get? b=some u->b≠a:=fun b u e=>VD (VB (Vq e) (VO I0.sz new))
 have nL:X.env.locals≠a:=by
  obtain⟨m,⟨o',d,d,e,d⟩,d⟩:=I0.loc
  exact ne _ _ e
 refine⟨I.ok,I.os,I.bare,⟨I.base.keep,I.base.slot,fun b u e n hx=>?_,I.base.there,fun b xs e=>?_,fun b u v e=>?_,fun b ps e=>?_⟩,I.loc,I.cell,?_,fun x c e=>?_,fun p hp=>?_,fun b u e=>?_,I.len⟩
 ·rw[ay (ne0 b u e)];exact I.base.free b u e n hx
 ·have:=I.base.tups b xs e
  rw[ay (aO this hn)];exact this
 ·have:=I.base.frzs b u v e
  rw[ay (aO this hn)];exact this
 ·obtain⟨more,this⟩:=I.base.tbls b ps e
  exact⟨more,by rw[ay (aO this hn)];exact this⟩
 ·rw[ay nL];exact I.free
 ·obtain⟨v,o',e',d⟩:=I0.cell x c e
  rw[ay (ne _ _ e')];exact I.freeC x c e
 ·obtain⟨h1,h2,h3⟩:=I.pin p hp
  exact⟨h1,by rw[ay (ne _ _ (I0.pin p hp).1)];exact h2,h3⟩
 ·by_cases hb:b=a
  ·subst hb
   rw[aT]at e;obtain rfl:=VR e
   exact ok
  ·rw[ay hb]at e
   exact(I.hok b u e).stay (fun c v d q=>q) (fun c q=>by
    have:c≠a:=aO q hn
    rw[ay this];exact q) fun c xs q=>by
    have:c≠a:=aO q hn
    rw[ay this];exact q
end
section
variable {X:Cx}{a b:Expr}{t:TA}{p pos ep:Pos}{elts:List Expr}{ek:Nat}
def NY:bootBuiltins "zip"=some (.type "zip"):=by decide+kernel
end
def HA:bootBuiltins "int"=some (.type "int"):=by decide+kernel
def xV (C:Addr)(sp:Sp)(E:St->XK)(t:TA):TE:=fun σ H Q=>t σ H fun vs H1=>∀x dx,H1 x=none->H1 dx=none->dx≠x->
 sp (.ref x::vs) (upd (upd H1 dx (.own x)) x (.ins C dx [])) (fun v H2=>v=.non/\Q (.ref x) H2) (E σ)
section
variable {X:Cx}{CX:CXT}{k:Nat}{f C:Addr}{fd:Gt}{ps:List Str}{sp:Sp}{E:St->XK}{x m fl:Str}{p pos apos pos':Pos}{e o value:Expr}{es:List Expr}{ta tv to:TE}{t:TA}
def Rh (he:QE X e ta)(hb:attributeBase e fl X.env (eval e X.env)=eval e X.env:=by rfl):QE X (.Attribute e fl pos) (PX X.K ta fl):=⟨OD he.out hb⟩
def BP (ho:QE X o to)(hv:QE X value tv)(hs:swapsWith value (some (.Attribute o fl pos')) pos.line X.env=pure false:=by rfl):QS X (.Assign [.Attribute o fl pos'] value pos) (Je X.K to tv fl):=⟨On ho.out hv.out hs⟩
def zK {pins:List (Addr×Obj)}{σ:St}{H:Hp}{s:Bn}{Q:VK}{us:List pz}{vs:List V}(M:Mk X.K C f)(F:cy X.prog X.w X.K X.mg X.base CX k f fd ps sp)(hr:aZ (k+1) X.A)(hb:bX X.K fd ps [])
  (hx:di CX X E)(I:Inv X pins σ H s)(r:aU vs us)
  (h:∀x dx,H x=none->H dx=none->dx≠x->sp (.ref x::vs) (upd (upd H dx (.own x)) x (.ins C dx [])) (fun v H2=>v=.non/\Q (.ref x) H2) (E σ)):
  wpAny (model X.prog X.w) X.A (call (.ref C) us) (EP X pins σ Q) X.xe s:=by
 have hq:=h (s.heap.objs.size+1) s.heap.objs.size (I.hok.fresh (aaz _)) (I.hok.fresh (sn _)) (VD (Wx _))
 have I2:=Inv.made (C:=C) I
 have r2:aU (V.ref (s.heap.objs.size+1)::vs) (Lt (s.heap.objs.size+1)::us):=.cons rfl r
 have hl:(Lt (s.heap.objs.size+1)::us).length=ps.length:=by
  have e:=r2.length
  rw[F.len _ _ _ _ hq]at e
  exact e.symm
 have hb':=hb _ (Lt (s.heap.objs.size+1)::us) I2.kIn (by rw[Wc];exact hl)
 rw[Wc]at hb'
 refine abo (Jz (f:=f) I.kIn M.makes M.init (beq_iff_eq.mp M.fn) (YA (F.run _ X.stack _ _ ⟨Lt (s.heap.objs.size+1)::us,[]⟩ (Lt (s.heap.objs.size+1)::us) _ _ (E σ) (hr.make C us [])
  (I2.env0.make C us []) hb' r2 hq) fun r s' hq'=>?_))
 cases r with
 |error e=>exact hx pins σ _ _ e s' I2 hq'
 |ok fl=>
  cases fl with
  |ret u=>
   obtain⟨v,H',I3,rv,ev,q3⟩:=I2.after hq'
   subst ev
   exact⟨rv,⟨V.ref (s.heap.objs.size+1),H',I3,rfl,q3⟩⟩
  |next=>exact Wg hq'
  |brk=>exact Wg hq'
  |cont=>exact Wg hq'
def Ll (M:Mk X.K C f)(F:cy X.prog X.w X.K X.mg X.base CX k f fd ps sp)(hr:aZ (k+1) X.A)(hm:X.mg x=some (.ref C))(hb:bX X.K fd ps [])(hx:di CX X E)(ha:QA X (e::es) t)
  (hg:Gl X x:=by rfl)(hdb:(x==("__debug__":Str))=false:=by decide)(hs:aM (e::es)=true:=by rfl):QE X (.Call (.Name x p) (e::es) [] pos) (xV C sp E t):=⟨fun pins s σ H Q I h=>by
 have h':(bo e&&aM es)=true:=hs
 refine Wn (oA I hg hm ?_ hdb)
 refine W.callWith_K (h₀:=X.base) I.ok.mod.kin M.kp (thn (ha.out pos pins s σ H _ I h) fun us s1 ⟨vs,H1,I1,r,q⟩=>⟨I1.kIn,?_⟩) (aQ (Gn.mp h').1 es X.env) (bI (Gn.mp h').2)
 exact zK M F hr hb hx I1 r q⟩
def BF (M:Mk X.K C f)(F:cy X.prog X.w X.K X.mg X.base CX k f fd ps sp)(hr:aZ (k+1) X.A)(hm:X.mg x=some (.ref C))(hb:bX X.K fd ps [])(hx:di CX X E)
  (hg:Gl X x:=by rfl)(hdb:(x==("__debug__":Str))=false:=by decide):QE X (.Call (.Name x p) [] [] pos) (xV C sp E ph):=⟨fun pins s σ H Q I h=>by
 refine Wn (oA I hg hm ?_ hdb)
 exact W.callWith_K0 I.kIn M.kp (zK (us:=[]) M F hr hb hx I .nil h)⟩
end
mutual
inductive fQ (K:W.Frag)(H:Hp):V->abq->Prop
 |non:fQ K H .non .none
 |bl (b):fQ K H (.bl b) (.bool b)
 |int (i):fQ K H (.int i) (.int i)
 |str (z):fQ K H (.str z) (.str z)
 |lst {a xs ds}:SqL K H a xs->DatVs K H xs ds->fQ K H (.ref a) (.list ds)
 |tup {a xs ds}:SqT K H a xs->DatVs K H xs ds->fQ K H (.ref a) (.tuple ds)
inductive DatVs (K:W.Frag)(H:Hp):List V->List abq->Prop
 |nil:DatVs K H [] []
 |cons {x xs d ds}:fQ K H x d->DatVs K H xs ds->DatVs K H (x::xs) (d::ds)
end
section
variable {X:Cx}
mutual
theorem fo {pins:List (Addr×Obj)}{σ:St}{H:Hp}{s:Bn}(I:Inv X pins σ H s):∀{x:V}{d:abq},fQ X.K H x d->∀{v:pz},aL x v->∃as,Reads s.heap v d as
 |_,_,.non,_,r=>by subst r;exact⟨_,.none⟩
 |_,_,.bl b,_,r=>by subst r;exact⟨_,.bool b⟩
 |_,_,.int i,_,r=>by obtain⟨t,rfl⟩:=r;exact⟨_,.int i t⟩
 |_,_,.str z,_,r=>by obtain⟨t,rfl⟩:=r;exact⟨_,.str z t⟩
 |_,_,.lst h hs,_,r=>by
  subst r
  obtain⟨its,r1,⟨o,n,h1,h2,a,h3⟩,a⟩:=I.list h
  obtain⟨as,ra⟩:=datVs_reads I hs r1
  exact⟨_,.list h1 h2 h3 (by simpa using ra)⟩
 |_,_,.tup h hs,_,r=>by
  subst r
  obtain⟨its,r1,⟨o,h1,h2,n,h3⟩,a⟩:=I.tuple h
  obtain⟨as,ra⟩:=datVs_reads I hs r1
  exact⟨_,.tuple h1 h2 h3 (by simpa using ra)⟩
theorem datVs_reads {pins:List (Addr×Obj)}{σ:St}{H:Hp}{s:Bn}(I:Inv X pins σ H s):∀{xs:List V}{ds:List abq},DatVs X.K H xs ds->∀{vs:List pz},aU xs vs->∃as,ReadsAll s.heap vs ds as
 |_,_,.nil,_,r=>by cases r;exact⟨_,.nil⟩
 |_,_,.cons h hs,_,r=>by
  cases r with
  |cons r1 r2=>
   obtain⟨as,a⟩:=fo I h r1
   obtain⟨bs,b⟩:=datVs_reads I hs r2
   exact⟨_,.cons a b⟩
end
def Cg (K:W.Frag):R2:=fun x y H Q=>∃d e,fQ K H x d/\fQ K H y e/\d.canLay0=true/\e.canLay0=true/\d.depth<=150/\Q (.bl (d.eqv e)) H
def GZ (hu:X.A.units+150<cLine):OpR X (compareOp .Eq) (Cg X.K):=by
 intro pins s σ H x y v u Q I rx ry h
 obtain⟨d,e,hd,he,cd,ce,dp,q⟩:=h
 obtain⟨as,ra⟩:=fo I hd rx
 obtain⟨bs,rb⟩:=fo I he ry
 exact PySem.SeqAt.compareEq_reads ra rb cd ce (by have:=Nat.min_le_left d.depth e.depth;lia) ⟨.bl _,H,I,rfl,q⟩
def aZ.units150 {k:Nat}{A:Wj}(r:aZ k A):A.units+150<cLine:=by have:=r.un;lia
def KB:V->List V->Hp->VK->Prop:=fun x vs H Q=>match x,vs with|.int i,[]=>Q (.int (WI i)) H|_,_=>False
def MM:MtR X "int.bit_length" KB:=by
 intro pins s σ H x xs v us Q I rx rs q
 unfold KB at q
 split at q
 ·obtain⟨t,rfl⟩:=rx
  cases rs
  exact call_int_bit_length ⟨.int _,H,I.tok _,⟨_,rfl⟩,q⟩
 ·exact q.elim
def QR:List V->Hp->VK->Prop:=fun xs H Q=>match xs with|[.int i,.int j]=>Q (.int (if j<i then j else i)) H|_=>False
def Uh (hc:X.calm=true):bq X (.builtin "min") QR:=fun pins s σ H xs us Q I r q=>by
 unfold QR at q
 split at q
 ·exact HB hc pins s σ H _ us Q I r ⟨_,_,rfl,q⟩
 ·exact q.elim
variable {o:Expr}{to:TE}{name:Str}{apos cpos:Pos}{T id:String}{rm:V->List V->Hp->VK->Prop}
def ST (pa:Zi T)(slot:Slot T name id)(hty:typeOf (.builtin id)=pure (.type "method_descriptor"))(hm:MtR X id rm)(ho:QE X o to)
 (hbase:attributeBase o name X.env (eval o X.env)=eval o X.env:=by rfl)(hline:(apos.endLine==cpos.line)=true:=by rfl):QE X (.Call (.Attribute o name apos) [] [] cpos) (OJ X.K T rm to):=⟨Pd pa slot hty hm ho.out hbase hline⟩
end
def FI (k:Nat):((2^k:Nat):Int)=(2:Int)^k:=by simp
def xor_zero {x y:Nat}(h:x^^^y=0):x=y:=by
 have h2:x^^^y^^^y=0^^^y:=by rw[h]
 rwa [Nat.xor_assoc,Nat.xor_self,Nat.xor_zero,Nat.zero_xor]at h2
def FN (x y:Nat):x ||| y=(x &&& y)+(x^^^y):=by
 have h:∀n,∀x y:Nat,x<2^n->y<2^n->x ||| y=(x &&& y)+(x^^^y):=by
  intro n
  induction n with
  |zero=>intro x y hx hy;have:x=0:=by simpa using hx
         have:y=0:=by simpa using hy
         subst_vars;rfl
  |succ n ih=>
   intro x y hx hy
   have i:=ih (x/2) (y/2) (by lia) (by lia)
   rw[<-aaA (x ||| y) 2,<-aaA (x &&& y) 2,<-aaA (x^^^y) 2]
   rw[Nat.or_div_two,Nat.and_div_two,Nat.xor_div_two,i]
   have hm:(x ||| y)%2=(x &&& y)%2+(x^^^y)%2:=by
    have a:=@Nat.or_mod_two_pow x y 1
    have b:=@Nat.and_mod_two_pow x y 1
    have c:=@Nat.xor_mod_two_pow x y 1
    rw[Nat.pow_one]at a b c
    rw[a,b,c]
    rcases aaG x with h|h<;>rcases aaG y with h'|h'<;>rw[h,h']<;>rfl
   lia
 have h2:max x y<2^(max x y):=Nat.lt_two_pow_self
 exact h (max x y) x y (by lia) (by lia)
def wu (x y:Nat):YE x y=((x^^^y:Nat):Int):=by
 unfold YE Builtin.bitOr
 have e1:Xl x y=((x &&& y:Nat):Int):=by
  unfold Xl
  rw[decide_eq_true (by lia:(0:Int)<=x),decide_eq_true (by lia:(0:Int)<=y)];rfl
 have n (z:Nat):Wh z<0:=by unfold Wh;lia
 have nn (z:Nat):(Wh (Wh z)).toNat=z:=by unfold Wh;lia
 have e2:Xl (Wh x) (Wh y)=Wh ((x ||| y:Nat):Int):=by
  unfold Xl
  rw[decide_eq_false (by have:=n x;lia:¬0<=Wh x),decide_eq_false (by have:=n y;lia:¬0<=Wh y)]
  show Wh (((Wh (Wh x)).toNat ||| (Wh (Wh y)).toNat:Nat):Int)=_
  rw[nn,nn]
 rw[e1,e2,FN]
 unfold Wh
 lia
def FG (x:Nat):Xl x 1=((x%2:Nat):Int):=by
 unfold Xl
 rw[decide_eq_true (by lia:(0:Int)<=x),decide_eq_true (by decide:(0:Int)<=1)]
 show(((x:Int).toNat &&& (1:Int).toNat:Nat):Int)=_
 rw[Yq,show(1:Int).toNat=1 from rfl,Nat.and_one_is_mod]
section
variable {X:Cx}
def aZ.units1 {k:Nat}{A:Wj}(r:aZ k A):A.units+1<cLine:=by have:=r.un;lia
def Nu:R2:=fun x y H Q=>∃a v,x=.ref a/\fc H a y (some v)/\Q v H
def MU (hu:X.A.units+1<cLine):IxR X Nu:=by
 intro value slice pins s σ H x y v u Q I rx ry h hs
 obtain⟨a,w0,rfl,g,q⟩:=h
 obtain rfl:v=Lt a:=rx
 have hT:=Dy I g
 have h2:wpAny (model X.prog X.w) X.A (getItem (.ref a) u) (EP X pins σ Q) X.xe s:=Gu hu I g ry fun w' s3 I3 rw'=>⟨w0,H,I3,rw',q⟩
 unfold subscriptTail
 refine pv ?_
 rw[getitemInPython_of_ne hT.not_modules]
 refine pv (YR hT PySem.F.slot_dict_getitem.lookup ?_)
 have fin:wpAny (model X.prog X.w) X.A (subscripted slice false (.ref a) u) (fun r s₃=>wpAny (model X.prog X.w) X.A (letTemporaryGo value (.ref a) r>>=fun b=>pure r) (EP X pins σ Q) X.xe s₃) X.xe s:=by
  rw[hs]
  exact wpAny_operating (VT h2 (fun r s₃ h₃=>pv (wpAny_letTemporaryGo (Vt h₃))) fun b b x=>x)
 first
  |exact Vt (pv fin)
  |exact pv (Vt (pv fin))
  |exact pv fin
def Pt (K:W.Frag):R2:=fun x y H Q=>rIx K x y H Q\/Nu x y H Q
def QG (hu:X.A.units+1<cLine):IxR X (Pt X.K):=OC.or (MU hu)
def Sv:V->V->V->Hp->(Hp->Prop)->Prop:=fun o i v H Q=>∃a H',o=.ref a/\ma H a i v H'/\Q H'
def IR (hu:X.A.units+1<cLine):Pz X Sv:=by
 intro pins s σ H o i v ov iv u Q I ro ri rv h
 obtain⟨a,H',rfl,g,q⟩:=h
 obtain rfl:ov=Lt a:=ro
 exact Ia hu I g ri rv fun s4 I4=>⟨H',I4,q⟩
variable {o e:Expr}{to te:TE}{p pos:Pos}
def Vh:R2:=fun y x H Q=>∃a o,x=.ref a/\fc H a y o/\Q (.bl o.isSome) H
def ON (hu:X.A.units+1<cLine):OpR X (compareOp .In) Vh:=by
 intro pins s σ H x y v u Q I rx ry h
 obtain⟨a,ov,rfl,g,q⟩:=h
 obtain rfl:u=Lt a:=ry
 exact Vo hu I g rx fun s3 I3=>⟨.bl ov.isSome,H,I3,rfl,q⟩
def Mt:R2:=fun y x H Q=>∃a o,x=.ref a/\fc H a y o/\Q (.bl (!o.isSome)) H
def Gg (hu:X.A.units+1<cLine):OpR X (compareOp .NotIn) Mt:=by
 intro pins s σ H x y v u Q I rx ry h
 obtain⟨a,ov,rfl,g,q⟩:=h
 obtain rfl:u=Lt a:=ry
 exact Mx hu I g rx fun s3 I3=>⟨.bl (!ov.isSome),H,I3,rfl,q⟩
def Ub (K:W.Frag):R2:=fun y x H Q=>∃d ds,fQ K H y d/\(fQ K H x (.list ds)\/fQ K H x (.tuple ds))/\ZN ds=true/\d.canLay0=true/\d.depth<=140/\Q (.bl (ds.any fun e=>e.eqv d)) H
def Qa (hu:X.A.units+150<cLine):OpR X (compareOp .In) (Ub X.K):=by
 intro pins s σ H x y v u Q I rx ry h
 obtain⟨d,ds,hd,hx,c1,c2,dp,q⟩:=h
 obtain⟨as,ra⟩:=fo I hd rx
 have hm:X.A.units+1+min (Zf ds) d.depth<cLine:=by have:=Nat.min_le_right (Zf ds) d.depth;lia
 rcases hx with hx|hx
 ·obtain⟨bs,rb⟩:=fo I hx ry
  exact PySem.SeqAt.in_list_reads rb ra c1 c2 hm ⟨.bl _,H,I,rfl,q⟩
 ·obtain⟨bs,rb⟩:=fo I hx ry
  exact PySem.SeqAt.in_tuple_reads rb ra c1 c2 hm ⟨.bl _,H,I,rfl,q⟩
def Bi:TE:=fun σ H Q=>Iq σ H Q\/Ha σ H Q
def yU:QE X (.Dict [] [] pos) Bi:=⟨fun pins s σ H Q I h=>h.elim (JB pins s σ H Q I) (IK pins s σ H Q I)⟩
def Ic:bq X (.builtin "len") (fun xs H Q=>∃p kvs,xs=[.ref p]/\H p=some (.dT kvs)/\Q (.int kvs.length) H):=by
 intro pins s σ H xs us Q I r h
 obtain⟨a,kvs,rfl,e,q⟩:=h
 obtain⟨u,rfl,r1⟩:=eC r
 subst r1
 obtain⟨z,hd,ps,rel,dd⟩:=EU I.hok e
 have hl:ps.length=kvs.length:=(Paired.length rel).symm
 have hT:s.TypeIs (.ref a) "dict":=dd.typeIs
 obtain⟨o,es,ep,ho,hc,hdat,he,his,hn⟩:=dd
 have hsz:es.size=kvs.length:=by rw[<-hl];have:=congrArg Xy he;simpa using this
 have M:MeetsIn X.prog X.w (Zb.«dict.__len__» ⟨[.ref a],[]⟩) (fun b R s=>s.heap.get? a=some o/\R (.ok (.ret (.int kvs.length s.toks))) {s with toks:=s.toks+1}):=
  .of_wp fun A R s ⟨ho,h⟩=>by
   show wpAny _ _ (dictSize a>>=_) _ _ s
   unfold dictSize
   refine pv (pv (acB ho hdat (Vt ?_)))
   show wpAny _ _ (Builtin.Dict.pendingCount a>>=_) _ _ s
   refine pv (wpAny_pendingCount_other hd ?_)
   refine wpAny_ret_mkInt ?_
   rw[Nat.add_zero,hsz];exact h
 refine YH kind_len plain_len entry_len (args_len1 _) ?_
 unfold Zb.«len»
 refine pv (m:=oneArg "len" _) (Vt ?_)
 refine pv (m:=callSpecial? (.ref a) (WL "__len__")) (XB (name:=WL "__len__") hT acK
  (ZH acK hT F.entry_dict_len (F.args_dict_len_1 _) M ⟨ho,?_⟩))
 show wpAny _ _ _ _ _ {s with toks:=s.toks+1}
 refine pv (WN (Vt ?_))
 refine pv (aab ?_)
 have zz:kvs.length<=sizeLine:=z
 rw[VE]at zz
 show wpAny _ _ (if ((kvs.length:Nat):Int)<0 then _ else _) _ _ _
 rw[if_neg (by lia)]
 show wpAny _ _ (if ((kvs.length:Nat):Int)>=2^63 then _ else _) _ _ _
 rw[if_neg (by lia)]
 exact pv (wpAny_mkInt (Vt ⟨_,rfl,⟨.int kvs.length,H,I.tok _,⟨_,rfl⟩,q⟩⟩))
def Rl (K:W.Frag):List V->Hp->VK->Prop:=fun xs H Q=>OT K xs H Q\/∃p kvs,xs=[.ref p]/\H p=some (.dT kvs)/\Q (.int kvs.length) H
def Rt:bq X (.builtin "len") (Rl X.K):=Uj.or Ic
def Vf (H:Hp)(a:Addr)(y d:V)(r:V)(H':Hp):Prop:=(fc H a y (some r)/\H'=H)\/(fc H a y none/\ma H a y d H'/\r=d)
def gz {A:Wj}{E:pz->Bn->Prop}{s:Bn}{P:VM}{w:Wm}{K:Type}[DecidableEq K]{knd:HeapKind P w K}{d a:Addr}{xs:List (K×Addr×pz)}{k:K}{v:pz}{Q:pz->Bn->Prop}(hu:knd.room A)(hkey:knd.is s.heap k a)(hm:s.heap.DictOfH knd d xs)
  (hthere:∀p,atKey xs k=some p->Q p.2 {s with toks:=s.toks+knd.draws k})
  (hQ:atKey xs k=none->∀h',h'.DictOfH knd d (storedH xs k a v)->XF d s.heap h'->Q v {s with heap:=h',toks:=s.toks+knd.draws k})
  (hsz:xs.length<=sizeLine):
  wpAny (model P w) A (dictSetDefault d (.ref a) v) Q E s:=by
 obtain⟨o,es,ep,ho,hc,hd,he,his,hn⟩:=hm
 unfold dictSetDefault
 try with_reducible refine WN ?_
 refine pv (knd.pyHash hu hkey ?_)
 refine pv (wpAny_dictFind_heap (s:={s with toks:=s.toks+knd.draws k}) hu hkey ho hd he his hn ?_ ?_)
 ·intro hno
  have hnot:k∉xs.map (·.1):=not_mem_keys_of_get hno
  refine pv (aau (pv (wpAny_updateDictKeys (hz:=by have e:=size_of_entries he;lia) (s:={s with toks:=s.toks+knd.draws k}) ho hd (Vt (hQ (Zh hno) _ ⟨_,_,ep+1,WZ _ ho (Obj.isFreed_of_dict (abr hd _)),
   hc.mapDictKeys _,abr hd _,?_,?_,?_⟩ (Yj ..))))))
  ·rw[acj (Zh hno)]
   simp[he,entryOfKey]
  ·rw[acj (Zh hno)]
   intro x hx
   rcases WE.mp hx with hx|hx
   ·exact knd.keeps (his x hx) ho hd (Yj ..)
   ·simp only[VH]at hx
    subst hx
    exact knd.keeps hkey ho hd (Yj ..)
  ·rw[acj (Zh hno)]
   rw[Zk,abQ]
   refine⟨hn,by simp,?_⟩
   intro x hx y hy
   simp only[VI,Zj,VH]at hy
   subst hy
   exact fun e=>hnot (e▸hx)
 ·intro j p hj
  refine pv (acB (s:={s with toks:=s.toks+knd.draws k}) ho hd ?_)
  rw[entry_at he j,hj]
  exact pv (aau (Vt (hthere p (atKey_of_get hn hj))))
end
def IH {h:Heap}{a:Addr}{its:Array pz}(p:PlainL h a its):h.IsList a its:=let ⟨o,n,e,c,_,d⟩:=p;⟨o,e,c,n,d⟩
set_option genInjectivity false in
structure dO where
 qual:Str
 body:FuncBody
 scope:Scope
 ps:List Str
 ys:List Str
def AK (t:dO)(cs:List Addr)(c:Addr)(fd:Gt):Prop:=
 fd.qualname=t.qual/\fd.body=t.body/\fd.scope=t.scope/\fd.globals=mainGlobals/\fd.closure=t.ys.zip cs/\fd.code=.ref c/\fd.builtins=builtinsNs/\
  (∀us:List pz,us.length=t.ps.length->bindArgs fd ⟨us,[]⟩=pure (t.ps.zip us))/\cs.Nodup/\cs.length=t.ys.length
def gO (f:Addr)(t:dO)(cs:List Addr)(c:Addr):HO:=.ext fun h=>∃od fd sl,h.get? f=some ⟨.type "function",od,.func fd,sl⟩/\AK t cs c fd
def jh (c:Addr)(qual:Str):HO:=.ext fun h=>∃o vs tk,h.get? c=some o/\o.data=.fields vs/\vs[1]?=some (.str qual tk)
def cR (c:Addr)(v:V):HO:=.ext fun h=>∃u o,aL v u/\h.get? c=some o/\o.data=.cell (some u)
abbrev cE (H:Hp):List Addr->List V->Prop:=Paired fun c v=>H c=some (cR c v)
structure fj (H:Hp)(f:Addr)(t:dO)(cs:List Addr)(cvs:List V):Prop where
 ex:∃c,H f=some (gO f t cs c)/\H c=some (jh c t.qual)
 cells:cE H cs cvs
def cE.mem {H:Hp}{cs:List Addr}{cvs:List V}(h:cE H cs cvs):∀c∈cs,∃v,H c=some (cR c v):=by
 induction h with
 |nil=>intro c hc;cases hc
 |cons r t ih=>
  intro c hc
  rcases tx.mp hc with rfl|hc
  ·exact⟨_,r⟩
  ·exact ih c hc
def cE.get {H:Hp}{cs:List Addr}{cvs:List V}(h:cE H cs cvs):∀{i:Nat}{v:V},cvs[i]? =some v->∃c,cs[i]? =some c/\H c=some (cR c v):=by
 induction h with
 |nil=>intro i v e;injection e
 | @cons c w cs ws r t ih=>
   intro i v e
   cases i with
   |zero=>obtain rfl:=VR e;exact⟨c,rfl,r⟩
   |succ i=>exact ih e
def cQ (cs:List Addr)(H:Hp):Hp:=fun b=>if b∈cs then none else H b
def eI (cs:List Addr)(H H':Hp):Hp:=fun b=>if b∈cs then H b else H' b
def fV {cs:List Addr}{H:Hp}{b:Addr}(h:b∈cs):cQ cs H b=none:=if_pos h
def cj {cs:List Addr}{H:Hp}{b:Addr}(h:b∉cs):cQ cs H b=H b:=if_neg h
def By {cs:List Addr}{H H':Hp}{b:Addr}(h:b∈cs):eI cs H H' b=H b:=if_pos h
def cN {cs:List Addr}{H H':Hp}{b:Addr}(h:b∉cs):eI cs H H' b=H' b:=if_neg h
def cE.notin {H:Hp}{cs:List Addr}{cvs:List V}(h:cE H cs cvs){b:Addr}{o:HO}(e:H b=some o)(hn:∀φ,o≠.ext φ):b∉cs:=fun hb=>by
 obtain⟨v,ev⟩:=h.mem b hb
 rw[e]at ev
 exact hn _ (VR ev)
def cE.hide {H:Hp}{cs:List Addr}{cvs:List V}(h:cE H cs cvs){b:Addr}{o:HO}(e:H b=some o)(hn:∀φ,o≠.ext φ):cQ cs H b=some o:=by
 rw[cj (h.notin e hn)];exact e
section
variable {P:VM}{w:Wm}{fs:List Addr}{H H':Hp}{h h':Heap}{cs:List Addr}{cvs:List V}
def Li (hc:cE H cs cvs)(ok:HOk P w H h):HOk P w (cQ cs H) h:=fun b o e=>by
 by_cases hb:b∈cs
 ·rw[fV hb]at e;injection e
 ·rw[cj hb]at e
  exact(ok b o e).stay (fun c u a q=>q) (fun c q=>hc.hide q fun φ z=>nomatch z) fun c xs q=>hc.hide q fun φ z=>nomatch z
def Ey (hc:cE H cs cvs)(hfs:∀b∈fs,H b=none)(ok:HOk P w H h)(u:Un fs [] (cQ cs H) H' h h')(ok':HOk P w H' h'):Un fs [] H (eI cs H H') h h'/\HOk P w (eI cs H H') h':=by
 have obj:∀c∈cs,∃v o,H c=some (cR c v)/\h.get? c=some o/\h'.get? c=some o/\H' c=none:=fun c hm=>by
  obtain⟨v,ev⟩:=hc.mem c hm
  obtain⟨a,⟨o,eo⟩,a⟩:=(show ba P w H h c (cR c v)from ok c _ ev)
  refine⟨v,o,ev,eo,u.keep c o eo (fV hm) (fun z=>?_) (by simp),u.free c o eo (fV hm) (by simp)⟩
  rw[hfs c z]at ev;injection ev
 have nin:∀b,H b=none->b∉cs:=fun b e hb=>by
  obtain⟨v,ev⟩:=hc.mem b hb
  rw[e]at ev;injection ev
 have nin':∀b o,H' b=some o->b∉cs:=fun b o e hb=>by
  obtain⟨a,a,a,a,a,z⟩:=obj b hb
  rw[e]at z;injection z
 refine⟨⟨fun b o e n hb hx=>u.keep b o e (by rw[cj (nin b n)];exact n) hb hx,fun b o e n hb hx=>u.slot b o e (by rw[cj (nin b n)];exact n) hb hx,
  fun b o e n hx=>by rw[cN (nin b n)];exact u.free b o e (by rw[cj (nin b n)];exact n) hx,u.there,fun b xs e=>?_,fun b o v e=>?_,fun b ps e=>?_⟩,fun b o e=>?_⟩
 ·have hb:=hc.notin e fun φ z=>nomatch z
  rw[cN hb];exact u.tups b xs (by rw[cj hb];exact e)
 ·have hb:=hc.notin e fun φ z=>nomatch z
  rw[cN hb];exact u.frzs b o v (by rw[cj hb];exact e)
 ·have hb:=hc.notin e fun φ z=>nomatch z
  rw[cN hb];exact u.tbls b ps (by rw[cj hb];exact e)
 ·by_cases hb:b∈cs
  ·rw[By hb]at e
   obtain⟨v,o',ev,e1,e2,a⟩:=obj b hb
   rw[e]at ev;obtain rfl:=VR ev
   obtain⟨φ1,a,φ3⟩:=(show ba P w H h b (cR b v)from ok b _ e)
   exact⟨φ3 h h' φ1 fun q hq=>by rw[e1]at hq;obtain rfl:=VR hq;exact e2,⟨o',e2⟩,φ3⟩
  ·rw[cN hb]at e
   exact(ok' b o e).stay (fun c u a q=>q) (fun c q=>by rw[cN (nin' c _ q)];exact q) fun c xs q=>by rw[cN (nin' c _ q)];exact q
def CR.back {outer:List Env}{s s':Bn}{Q:VK}{E:XK}{r:abp}(hc:cE H cs cvs)(hfs:∀b∈frs outer,H b=none)(ok:HOk P w H s.heap)
  (h:CR (CX1 P w) outer P w (cQ cs H) s (fun v H'=>Q v (eI cs H H')) (fun c a H'=>E c a (eI cs H H')) r s'):CR (CX1 P w) outer P w H s Q E r s':=by
 cases r with
 |error e=>
  obtain⟨a,C,d,H',rfl,F,q⟩:=h
  obtain⟨u,k⟩:=Ey hc hfs ok F.un F.hok
  have na:a∉cs:=fun hb=>by
   obtain⟨v,ev⟩:=hc.mem a hb
   obtain⟨_,⟨o,eo⟩,_⟩:=(show ba P w H s.heap a (cR a v)from ok a _ ev)
   rw[F.new]at eo;injection eo
  obtain⟨oe,vs,a0,T,oT,ts,t1,t2,td,t3,t4,t5,t6,t7,t8,t9,t10,t11⟩:=F.tr
  have nT:T∉cs:=fun hb=>by
   obtain⟨v,ev⟩:=hc.mem T hb
   obtain⟨_,⟨o,eo⟩,_⟩:=(show ba P w H s.heap T (cR T v)from ok T _ ev)
   rw[t10]at eo;injection eo
  exact⟨a,C,d,_,rfl,⟨F.os,F.bare,u,k,F.new,by rw[cN na];exact F.free,⟨oe,vs,a0,T,oT,ts,t1,t2,td,t3,t4,t5,t6,t7,t8,t9,t10,by rw[cN nT];exact t11⟩⟩,q⟩
 |ok fl=>
  cases fl with
  |ret u=>
   obtain⟨v,H',os,bare,un,hok,rv,q⟩:=h
   obtain⟨u',k⟩:=Ey hc hfs ok un hok
   exact⟨v,_,os,bare,u',k,rv,q⟩
  |next=>exact Wg h
  |brk=>exact Wg h
  |cont=>exact Wg h
end
structure fu (P:VM)(w:Wm)(K:W.Frag)(mg:Str->Option pz)(base:Heap)(k:Nat)(t:dO)(sp:Sp):Prop where
 run:∀(A:Wj)(outer:List Env)(s:Bn)(H:Hp)(f:Addr)(cs:List Addr)(us:List pz)(vs cvs:List V)(Q:VK)(E:XK),aZ k A->oQ P w K mg base A outer s H->fj H f t cs cvs->aU vs us->vs.length=t.ps.length->
  sp (vs++cvs) (cQ cs H) (fun v H'=>Q v (eI cs H H')) (fun c a H'=>E c a (eI cs H H'))->codeAny (model P w) A (.call (.ref f) ⟨us,[]⟩) (CR (CX1 P w) outer P w H s Q E) s
def ki (N:List Str)(vs cvs:List V):St:=vs.map some++(Yn (N.length- vs.length- cvs.length) none++cvs.map some)
noncomputable def Bc (P:VM)(w:Wm)(K:W.Frag)(mg:Str->Option pz)(base:Heap)(N:List Str)(qual:Str)(scope:Scope)(f c:Addr)(cl:List (Str×Addr))(A:Wj)(outer:List Env)(s:Bn)(H:Hp)(E:XK):Cx where
 prog:=P
 w:=w
 K:=K
 mg:=mg
 base:=base
 A:=A.deeper (W.envX qual scope s.heap.objs.size f (.ref c) cl)
 N:=N
 s₀:=s
 H₀:=H
 env:=W.envX qual scope s.heap.objs.size f (.ref c) cl
 outer:=outer
 stack:=W.envX qual scope s.heap.objs.size f (.ref c) cl::outer
 ex:=[]
 calm:=true
 fn:=fun a=>false
 pn:=[]
 xe:=fun e s'=>wpAny (model P w) (A.deeper (W.envX qual scope s.heap.objs.size f (.ref c) cl)) (leaving (W.envX qual scope s.heap.objs.size f (.ref c) cl) e) (fun a s''=>CX1 P w outer H s E e s'') (fun e' s''=>CX1 P w outer H s E e' s'') s'
structure fg (N ps ys:List Str)(sc:Scope):Prop where
 kind:sc.kind=.function
 co:sc.isCoroutine=false
 gen:sc.isGenerator=false
 nd:N.Nodup
 pre:N.take ps.length=ps
 suf:N.drop (N.length- ys.length)=ys
 le:ps.length+ys.length<=N.length
 par:∀x∈ps,sc.names.lookup x=some .local
 nocell:∀x∈sc.names,x.2≠.cell
 fr:∀x∈ys,sc.names.lookup x=some .free
 frs:∀y∈sc.names,y.2=.free->y.1∈ys
def wH {ys:List Str}{cs:List Addr}(hl:cs.length=ys.length)(nd:ys.Nodup):∀{i:Nat}{y:Str}{c:Addr},ys[i]? =some y->cs[i]? =some c->(ys.zip cs).lookup y=some c:=by
 induction ys generalizing cs with
 |nil=>intro i y c e;injection e
 |cons a r ih=>
  intro i y c e1 e2
  cases cs with
  |nil=>injection e2
  |cons b cs=>
   cases i with
   |zero=>obtain rfl:=VR e1;obtain rfl:=VR e2;show(Xo _ ((_,_)::_))=_;rw[WK];simp
   |succ i=>
    have hne:y≠a:=fun e=>(VX.mp nd).1 (e▸VP (show r[i]? =some y from e1))
    show(Xo y ((a,b)::r.zip cs))=_
    rw[WK,show(y==a)=false from by simpa using hne]
    exact ih (by simpa using hl) (VX.mp nd).2 (show r[i]? =some y from e1) (show cs[i]? =some c from e2)
def iE {ys:List Str}{cs:List Addr}:∀{y:Str}{c:Addr},(ys.zip cs).lookup y=some c->∃i:Nat,ys[i]? =some y/\cs[i]? =some c:=by
 induction ys generalizing cs with
 |nil=>intro y c e;injection e
 |cons a r ih=>
  intro y c e
  cases cs with
  |nil=>injection e
  |cons b cs=>
   have e:(Xo y ((a,b)::r.zip cs))=some c:=e
   rw[WK]at e
   by_cases hy:(y==a)=true
   ·rw[hy]at e;obtain rfl:=VR e;exact⟨0,by simpa using(eq_of_beq hy).symm,rfl⟩
   ·rw[show(y==a)=false from by simpa using hy]at e
    obtain⟨i,h1,h2⟩:=ih e
    exact⟨i+1,h1,h2⟩
def ze {ps:List Str}{us:List pz}(nd:ps.Nodup):∀{i:Nat}{x:Str}{u:pz},ps[i]? =some x->us[i]? =some u->(ps.zip us).reverse.lookup x=some u:=by
 induction ps generalizing us with
 |nil=>intro i x u e;injection e
 |cons a r ih=>
  intro i x u e1 e2
  cases us with
  |nil=>injection e2
  |cons b us=>
   show(Xo x ((a,b)::r.zip us).reverse)=_
   rw[WV,List.lookup_append]
   cases i with
   |zero=>
    obtain rfl:=VR e1;obtain rfl:=VR e2
    have:(r.zip us).reverse.lookup a=none:=by
     rw[List.lookup_eq_none_iff]
     intro p hp
     have:=(XZ (List.mem_reverse.mp hp)).1
     simp only[beq_eq_false_iff_ne,ne_eq,bne_iff_ne]
     intro e
     exact(VX.mp nd).1 (by rw[<-e]at this;exact this)
    rw[this];simp
   |succ i=>
    rw[ih (VX.mp nd).2 (show r[i]? =some x from e1) (show us[i]? =some u from e2)];rfl
section
variable {P:VM}{w:Wm}{K:W.Frag}{mg:Str->Option pz}{base:Heap}{N ps ys:List Str}{qual:Str}{scope:Scope}{f c:Addr}{A:Wj}{outer:List Env}{s:Bn}{H:Hp}{E:XK}{us:List pz}{vs cvs:List V}{cs:List Addr}{h1:Heap}{tk:Nat}
def Mi (S:fg N ps ys scope)(hd:A.handled=none)(e0:oQ P w K mg base A outer s H)(ca:cE H cs cvs)(hcs:cs.Nodup)(hcl:cs.length=ys.length)(hl:vs.length=ps.length)(r:aU vs us)
  (hns:h1.Ns s.heap.objs.size (fun x=>(ps.zip us).reverse.lookup x))(hk:∀b o,s.heap.get? b=some o->h1.get? b=some o):
  Inv (Bc P w K mg base N qual scope f c (ys.zip cs) A outer s (cQ cs H) E) [] (ki N vs cvs) (cQ cs H) {s with heap:=h1,toks:=tk}:=by
 have ndY:ys.Nodup:=by rw[<-S.suf];exact S.nd.sublist (List.drop_sublist _ _)
 have ndP:ps.Nodup:=by rw[<-S.pre];exact S.nd.sublist (abP _ _)
 have lcv:cvs.length=ys.length:=by rw[<-hcl];exact(Paired.length ca).symm
 have cellOf:∀c∈cs,∃v,h1.IsCell c v:=fun c hm=>by
  obtain⟨v,ev⟩:=ca.mem c hm
  obtain⟨⟨u,o,d,eo,hd⟩,d,d⟩:=(show ba P w H s.heap c (cR c v)from e0.hok c _ ev)
  exact⟨_,o,hk _ _ eo,hd⟩
 have memC:∀x c,(ys.zip cs).lookup x=some c->c∈cs:=fun x c e=>by
  obtain⟨i,d,e2⟩:=iE e
  exact VP e2
 have noA:∀b:Addr,b∉(Bc P w K mg base N qual scope f c (ys.zip cs) A outer s (cQ cs H) E).ex:=fun b z=>absurd (show b∈([]:List Addr)from z) (by simp)
 have hid:∀b,H b=none->cQ cs H b=none:=fun b e=>by
  by_cases hb:b∈cs
  ·exact fV hb
  ·rw[cj hb];exact e
 refine⟨⟨e0.mod,S.kind,rfl,rfl,sn _,fun y z c h1 h2=>?_,fun y hy=>?_,fun y c hf d=>?_,fun d=>hd,aa0 e0.frames,.inr ⟨rfl,rfl⟩,fun b z=>absurd z (noA b),fun b o e=>⟨(e0.bs b o e).1,hid b (e0.bs b o e).2⟩,e0.bsz,fun b d d=>noA b,fun b z=>absurd z (noA b),e0.funs,fun b hb=>hid b (e0.frf b hb)⟩,
  rfl,e0.bare,Un.kept hk,⟨_,hns,fun i y v q1 q2 q3=>?_⟩,fun y c h=>cellOf c (memC y c h),hid _ (e0.hok.fresh (sn _)),fun y c h=>fV (memC y c h),fun p hp=>absurd (show p∈([]:List (Addr×Obj))from hp) (by simp),(Li ca e0.hok).kept hk,?_⟩
 ·obtain⟨i,e1,e2⟩:=iE (show(ys.zip cs).lookup y=some c from h1)
  obtain⟨j,e3,e4⟩:=iE (show(ys.zip cs).lookup z=some c from h2)
  have:i=j:=by
   obtain⟨a1,b1⟩:=Vz.mp e2
   obtain⟨a2,b2⟩:=Vz.mp e4
   exact(aai hcs).mp (b1.trans b2.symm)
  subst this
  rw[e1]at e3;exact VR e3
 ·have hy:scope.names.lookup y=some .cell\/scope.names.lookup y=some .free:=hy
  rcases hy with hy|hy
  ·exact absurd rfl (S.nocell _ (WU hy))
  ·obtain⟨i,hi,e⟩:=abm.mp (S.frs _ (WU hy) rfl)
   have hi2:i<cs.length:=by lia
   exact⟨cs[i],wH hcl ndY (Vz.mpr ⟨hi,e⟩) (Dc hi2)⟩
 ·exact absurd (show false=true from hf) VF
 ·unfold ki at q2
  by_cases hi:i<vs.length
  ·rw[Wq (by simpa using hi),VG]at q2
   have ha:vs[i]?=some v:=by
    cases e:vs[i]? with
    |none=>rw[e]at q2;injection q2
    |some a=>rw[e]at q2;cases q2;rfl
   obtain⟨u,hu,rv⟩:=r.get ha
   have hp:ps[i]?=some y:=by
    rw[<-S.pre,aaN (by lia)];exact q1
   exact⟨u,rv,.inl ⟨S.par y (VP hp),ze ndP hp hu⟩⟩
  ·rw[WR (by simpa using hi),Vy]at q2
   by_cases hj:i- vs.length<N.length- vs.length- cvs.length
   ·rw[Wq (by simpa using hj),Ya]at q2
    split at q2<;>cases q2
   ·rw[WR (by simpa using hj),Zl,VG]at q2
    have ha:cvs[i- vs.length- (N.length- vs.length- cvs.length)]?=some v:=by
     cases e:cvs[i- vs.length- (N.length- vs.length- cvs.length)]? with
     |none=>rw[e]at q2;injection q2
     |some a=>rw[e]at q2;cases q2;rfl
    have hle:=S.le
    have hiN:i<N.length:=(Vz.mp q1).1
    have hx:i- vs.length- (N.length- vs.length- cvs.length)=i- (N.length- ys.length):=by lia
    rw[hx]at ha
    have hy:ys[i- (N.length- ys.length)]?=some y:=by
     have e1:N.drop (N.length- ys.length)=ys:=S.suf
     have e2:(N.drop (N.length- ys.length))[i- (N.length- ys.length)]?=some y:=by
      rw[abG]
      rw[show N.length- ys.length+(i- (N.length- ys.length))=i by lia];exact q1
     rw[e1]at e2;exact e2
    obtain⟨c,ec,hc⟩:=ca.get ha
    obtain⟨⟨u,o,ru,eo,hdo⟩,d,d⟩:=(show ba P w H s.heap c (cR c v)from e0.hok c _ hc)
    exact⟨u,ru,.inr ⟨.inr (S.fr y (VP hy)),c,wH hcl ndY hy ec,o,hk _ _ eo,hdo⟩⟩
 ·unfold ki
  show _=N.length
  have:=S.le
  rw[VU,VU,Vy,Vy,Zl]
  lia
end
section
variable {P:VM}{w:Wm}{K:W.Frag}{mg:Str->Option pz}{base:Heap}{k:Nat}{t:dO}{N:List Str}{sp:Sp}
def Ms {body:Expr}(hb:t.body=.expr body)(S:fg N t.ps t.ys t.scope)
  (hbody:∀(f c:Addr)(cl:List (Str×Addr))(A:Wj)(outer:List Env)(s:Bn)(H:Hp)(vs cvs:List V)(Q:VK)(E:XK),aZ k (A.deeper (W.envX t.qual t.scope s.heap.objs.size f (.ref c) cl))->vs.length=t.ps.length->cvs.length=t.ys.length->sp (vs++cvs) H Q E->
   ∃te,PE (Bc P w K mg base N t.qual t.scope f c cl A outer s H E) body te/\te (ki N vs cvs) H Q):fu P w K mg base (k+1) t sp:=by
 refine⟨fun A outer s H f cs us vs cvs Q E hr e0 ca r hl hsp=>?_⟩
 obtain⟨c,hf,hcc⟩:=ca.ex
 have KX:K.In s.heap:=e0.mod.kin.keeps fun b o e=>(e0.bs b o e).1
 have lim:s.heap.NoLimit:=e0.mod.nolimit.keeps fun b o e=>(e0.bs b o e).1
 obtain⟨⟨od,fd,sl,ho,h1,h2,h3,h4,h5,h6,h7,h8,h9,h10⟩,d,d⟩:=(show ba P w H s.heap f (gO f t cs c)from e0.hok f _ hf)
 obtain⟨⟨o,vs',tk,hco,hdo,hv⟩,d,d⟩:=(show ba P w H s.heap c (jh c t.qual)from e0.hok c _ hcc)
 have hcd:s.heap.CodeRec fd.code fd.qualname:=⟨c,o,vs',tk,h6,hco,hdo,by rw[h1];exact hv⟩
 refine YA (W.kla_callFunE (R:=CR (CX1 P w) outer P w (cQ cs H) s (fun v H'=>Q v (eI cs H H')) (fun c a H'=>E c a (eI cs H H'))) hr.depth ho rfl (by rw[h3];exact S.co) (by rw[h3];exact S.gen) (h2.trans hb) hcd ?_) fun r s' h=>CR.back ca.cells e0.frf e0.hok h
 rw[h8 us (by rw[<-r.length];exact hl),h3,h4,h5,h1,h6,h7]
 refine Vt (aca S.nocell (fun y hy=>S.par y.1 (XZ hy).1) (fun h' hns hsb=>⟨lim.fresh _ hsb,?_⟩) S.kind)
 have hk:∀b o,s.heap.get? b=some o->h'.get? b=some o:=fun b o e=>hsb.extBut b o (VD (Vq e)) (gV _ e)
 have lcv:cvs.length=t.ys.length:=by rw[<-h10];exact(Paired.length ca.cells).symm
 obtain⟨te,ht,hq⟩:=hbody f c (t.ys.zip cs) A outer s (cQ cs H) vs cvs _ _ (hr.deeper _) hl lcv hsp
 have I:=Mi (tk:=s.toks+(t.ps.zip us).length) (qual:=t.qual) (f:=f) (c:=c) (E:=fun c a H'=>E c a (eI cs H H')) S hr.hd e0 ca.cells h9 h10 hl r hns hk
 show codeAny _ _ (.expr body (W.envX t.qual t.scope s.heap.objs.size f (.ref c) (t.ys.zip cs))) _ _
 refine W.kla_codeExpr ?_
 refine VT (ht [] _ (ki N vs cvs) _ _ I hq) (fun v s' hs=>?_) fun e s' hs=>hs
 obtain⟨x,H',J,rv,q⟩:=hs
 exact⟨x,H',J.os,J.bare,J.base,J.hok,rv,q⟩
end
def BM (mg:Str->Option pz)(h:Heap):Prop:=∃bm ob,mg "__builtins__"=some (.ref bm)/\bm≠builtinsNs/\h.get? bm=some ob/\ob.cls=.type "module"/\ob.dict=some builtinsNs/\ob.data=.plain
section
variable {X:Cx}{pins:List (Addr×Obj)}{σ:St}{H:Hp}{s:Bn}{P c:Addr}{ps:Array pz}{t:dO}{cs:List Addr}{h':Heap}{tk:Nat}{fd:Gt}
def IS {more:Array pz}(I:Inv X pins σ H s)(hP:H P=some (.tbl ps))(hx:Heap.ExtBut P s.heap h')(hge:s.heap.objs.size<=c)(hlt:c<h'.objs.size)(hrec:h'.CodeRec (.ref c) t.qual)
  (htb:h'.get? P=some (W.tabObj (ps++more)))(hfd:AK t cs c fd):
  Inv X pins σ (upd (upd (upd H P (.tbl (ps++more))) c (jh c t.qual)) h'.objs.size (gO h'.objs.size t cs c)) {s with heap:=h'.push {cls:=.type "function",data:=.func fd},toks:=tk}:=by
 have hcn:H c=none:=I.hok.fresh hge
 have hfn:H h'.objs.size=none:=I.hok.fresh (XX (YK hge hlt))
 have ncP:c≠P:=(aO hP hcn).symm
 have nfP:h'.objs.size≠P:=(aO hP hfn).symm
 have ncf:c≠h'.objs.size:=VD hlt
 have old:∀b o,s.heap.get? b=some o->b≠c/\b≠h'.objs.size:=fun b o e=>⟨VD (VB (Vq e) hge),VD (VB (Vq e) (XX (YK hge hlt)))⟩
 have keepP:∀b o,b≠P->s.heap.get? b=some o->(h'.push {cls:=.type "function",data:=.func fd}).get? b=some o:=fun b o hb e=>gV _ (hx b o hb e)
 have neP:∀b,H b=none->b≠P:=fun b e z=>by rw[z,hP]at e;injection e
 have obj:∀b o,H b=some o->∃u,s.heap.get? b=some u:=fun b o e=>Jw (I.hok b o e)
 have same:∀b o,H b=some o->b≠P->(upd (upd (upd H P (.tbl (ps++more))) c (jh c t.qual)) h'.objs.size (gO h'.objs.size t cs c)) b=some o:=fun b o e hb=>by
  rw[ay (aO e hfn),ay (aO e hcn),ay hb];exact e
 refine I.un ⟨fun b o e n hb hx'=>keepP b o (neP b n) e,fun b o e n hb hx'=>⟨o.slots,keepP b o (neP b n) e⟩,fun b o e n hx'=>?_,fun b o e hx'=>?_,fun b xs e=>same b _ e (lr e hP (fun z=>nomatch z)),fun b o u e=>same b _ e (lr e hP (fun z=>nomatch z)),fun b qs e=>?_⟩ fun b o e=>?_
 ·rw[ay (old b o e).2,ay (old b o e).1,ay (neP b n)];exact n
 ·by_cases hb:b=P
  ·subst hb;exact⟨_,gV _ htb⟩
  ·exact⟨o,keepP b o hb e⟩
 ·by_cases hb:b=P
  ·subst hb
   rw[hP]at e;cases e
   exact⟨more,by rw[ay nfP.symm,ay ncP.symm,aT]⟩
  ·exact⟨#[],by rw[same b _ e hb];simp⟩
 ·by_cases hf:b=h'.objs.size
  ·subst hf
   rw[aT]at e;obtain rfl:=VR e
   refine⟨⟨_,fd,_,Vr _ rfl,hfd⟩,⟨_,Vr _ rfl⟩,?_⟩
   rintro h1 h2 ⟨od,fd',sl,e1,e2⟩ k
   exact⟨od,fd',sl,k _ e1,e2⟩
  ·rw[ay hf]at e
   by_cases hc:b=c
   ·subst hc
    rw[aT]at e;obtain rfl:=VR e
    obtain⟨c2,oc,vs,tq,e0,e1,e2,e3⟩:=hrec
    injection e0 with e0;subst e0
    refine⟨⟨oc,vs,tq,gV _ e1,e2,e3⟩,⟨_,gV _ e1⟩,?_⟩
    rintro h1 h2 ⟨o,vs,tk,a1,a2,a3⟩ k
    exact⟨o,vs,tk,k _ a1,a2,a3⟩
   ·rw[ay hc]at e
    by_cases hp:b=P
    ·subst hp
     rw[aT]at e;obtain rfl:=VR e
     exact gV _ htb
    ·rw[ay hp]at e
     refine(I.hok b o e).stay (fun a u ha q=>keepP a u ?_ q) (fun a q=>same a _ q (lr q hP (fun z=>nomatch z))) fun a xs q=>same a _ q (lr q hP (fun z=>nomatch z))
     rcases ha with rfl|ha
     ·exact hp
     ·exact lr ha hP (fun z=>nomatch z)
def IN (I:Inv X pins σ H s)(hk:∀b o,s.heap.get? b=some o->h'.get? b=some o)(hsz:s.heap.objs.size<=h'.objs.size)(hfd:AK t cs c fd):
  Inv X pins σ (upd H h'.objs.size (gO h'.objs.size t cs c)) {s with heap:=h'.push {cls:=.type "function",data:=.func fd},toks:=tk}:=by
 refine I.laid (a:=h'.objs.size) (o:=gO h'.objs.size t cs c) (fun b u e=>gV _ (hk b u e)) hsz ⟨⟨_,fd,_,Vr _ rfl,hfd⟩,⟨_,Vr _ rfl⟩,?_⟩
 rintro h1 h2 ⟨od,fd',sl,e1,e2⟩ k
 exact⟨od,fd',sl,k _ e1,e2⟩
end
def zd (P:Addr)(pos:Pos)(t:dO)(cs:List Addr):TE:=fun a H Q=>∃ps,H P=some (.tbl ps)/\TriplesOk ps.toList/\
 ((codeAmong pos ps.toList=none/\∀c f,H c=none->H f=none->c≠f->Q (.ref f) (upd (upd (upd H P (.tbl (ps++#[rawInt pos.line,rawInt pos.col,.ref c]))) c (jh c t.qual)) f (gO f t cs c)))\/
  ∃c,codeAmong pos ps.toList=some (.ref c)/\∀f,H f=none->Q (.ref f) (upd H f (gO f t cs c)))
section
variable {X:Cx}{c0 P:Addr}{params:Arguments}{scope:Scope}{pos:Pos}{t:dO}{cs:List Addr}
def LQ {pins:List (Addr×Obj)}{σ:St}{H:Hp}{s:Bn}{ps:Array pz}(I:Inv X pins σ H s)(hP:H P=some (.tbl ps))(B:BM X.mg X.base):
  s.heap.get? P=some (W.tabObj ps)/\s.heap.Ns mainGlobals X.mg/\mainGlobals≠P/\s.heap.BuiltinsAt X.mg P:=by
 have hPo:s.heap.get? P=some (W.tabObj ps):=I.hok P _ hP
 have hg:s.heap.Ns mainGlobals X.mg:=I.mod.glob.keeps I.bk
 have hgP:mainGlobals≠P:=fun q=>by
  obtain⟨o,es,ep,e,hd,a⟩:=hg
  rw[q,hPo]at e;obtain rfl:=VR e;injection hd
 obtain⟨bm,ob,b1,b2,b3,b4,b5,b6⟩:=B
 have b3':=I.bk _ _ b3
 refine⟨hPo,hg,hgP,bm,ob,b1,b2,fun q=>?_,fun q=>?_,b3',b4,b5,b6⟩
 ·obtain⟨o,es,ep,e,hd,a⟩:=hg
  rw[q,e]at b3';obtain rfl:=VR b3';rw[hd]at b6;injection b6
 ·rw[q,hPo]at b3';obtain rfl:=VR b3';injection b4
def xJ {body:Expr}(B:BM X.mg X.base)(C:W.CodeHd X.base c0 P)(hcode:X.env.code=.ref c0)(hcl:closureFor scope X.env=pure (t.ys.zip cs))(nd:cs.Nodup)(hl:cs.length=t.ys.length)
  (hq:X.env.qual++"<lambda>"=t.qual)(hb:t.body=.expr body)(hs:t.scope=scope)
  (hbind:∀(cl:List (Str×Addr))(pm cdv ct:pz)(us:List pz),us.length=t.ps.length->bindArgs (W.kla_fn "<lambda>" t.qual params body scope cl pm cdv ct) ⟨us,[]⟩=pure (t.ps.zip us))
  (hdef:defaultsOf params X.env=([],[]):=by rfl):QE X (.Lambda params body scope pos) (zd P pos t cs):=⟨fun pins s σ H Q I h=>by
 obtain⟨ps,hP,ht,h⟩:=h
 obtain⟨hPo,hg,hgP,hB⟩:=LQ I hP B
 have hfd:∀(pm ct:pz)(c:Addr),AK t cs c (W.kla_fn "<lambda>" t.qual params body scope (t.ys.zip cs) pm (.ref c) ct):=fun pm ct c=>⟨rfl,hb.symm,hs.symm,rfl,rfl,rfl,rfl,hbind _ _ _ _,nd,hl⟩
 refine W.kla_eval hdef ?_
 rw[hq]
 rcases h with⟨hn,q⟩|⟨c,hf,q⟩
 ·refine W.kla_makeFunction hcl I.ok.glob hg hcode (C.keeps I.bk) hPo ht hn hgP hB fun c ctv h' tk hx hge hlt hrec htb=>?_
  exact⟨.ref h'.objs.size,_,IS I hP hx hge hlt hrec htb (hfd _ _ _),rfl,q c h'.objs.size (I.hok.fresh hge) (I.hok.fresh (XX (YK hge hlt))) (VD hlt)⟩
 ·refine W.kla_makeFunctionHit hcl I.ok.glob hg hcode (C.keeps I.bk) hPo ht hf hB fun ctv h' tk hk hsz=>?_
  exact⟨.ref h'.objs.size,_,IN I hk hsz (hfd _ _ _),rfl,q h'.objs.size (I.hok.fresh hsz)⟩⟩
end
section
variable {X:Cx}{k:Nat}{E:St->XK}{x:Str}{p pos:Pos}{e:Expr}{es:List Expr}{ta:TE}
abbrev tR:=List (dO×Sp)
def ER (ks:tR)(f:Addr)(vs:List V)(H:Hp)(Q:VK)(E:XK):Prop:=∃ts∈ks,∃cs cvs,fj H f ts.1 cs cvs/\vs.length=ts.1.ps.length/\ts.2 (vs++cvs) (cQ cs H) (fun v H'=>Q v (eI cs H H')) (fun c a H'=>E c a (eI cs H H'))
def Td (ks:tR)(E:St->XK)(ta:TE)(t:TA):TE:=fun σ H Q=>ta σ H fun x H1=>∃f,x=.ref f/\(∃ts∈ks,∃cs cvs,fj H1 f ts.1 cs cvs)/\t σ H1 fun vs H2=>ER ks f vs H2 Q (E σ)
def xH {P:VM}{w:Wm}{H:Hp}{h:Heap}{f:Addr}{t:dO}{cs:List Addr}{cvs:List V}(ok:HOk P w H h)(c:fj H f t cs cvs):W.FnAt f h:=by
 obtain⟨c',hf,a⟩:=c.ex
 obtain⟨⟨od,fd,sl,ho,a⟩,a,a⟩:=(show ba P w H h f (gO f t cs c')from ok f _ hf)
 exact⟨_,_,_,_,ho⟩
def zf (P:VM)(w:Wm)(K:W.Frag)(mg:Str->Option pz)(base:Heap)(k:Nat)(ks:tR):Prop:=∀ts∈ks,fu P w K mg base k ts.1 ts.2
def QC {ks:tR}{t:TA}(hk:zf X.prog X.w X.K X.mg X.base k ks)(hr:aZ k X.A)(hx:di (CX1 X.prog X.w) X E)(hg:QE X (.Name x p) ta)(ha:QA X (e::es) t)(hs:aM (e::es)=true:=by rfl):
  QE X (.Call (.Name x p) (e::es) [] pos) (Td ks E ta t):=⟨fun pins s σ H Q I h=>by
 have h':(bo e&&aM es)=true:=hs
 refine Wn (thn (hg.out pins s σ H _ I h) fun u s1 ⟨y,H1,I1,ry,f,ey,⟨ts,hts,cs,cvs,ca⟩,q⟩=>?_)
 subst ey
 obtain rfl:u=Lt f:=ry
 refine W.callWith_F (xH I1.hok ca) (thn (ha.out pos pins s1 σ H1 _ I1 q) fun us s2 ⟨vs,H2,I2,rv,ts2,hm2,cs2,cvs2,ca2,hl,hsp⟩=>⟨xH I2.hok ca2,?_⟩)
  (aQ (Gn.mp h').1 es X.env) (bI (Gn.mp h').2)
 refine abo (YA ((hk ts2 hm2).run X.A X.stack s2 H2 f cs2 us vs cvs2 Q (E σ) hr I2.env0 ca2 rv hl hsp) fun r s' hq=>?_)
 cases r with
 |error e=>exact hx pins σ H2 s2 e s' I2 hq
 |ok fl=>
  cases fl with
  |ret u=>exact I2.after hq
  |next=>exact Wg hq
  |brk=>exact Wg hq
  |cont=>exact Wg hq⟩
end
structure wq where
 nx:St->Hp->Prop
 rt:St->VK
abbrev TSM:=wq->St->Hp->Prop
def SPM (X:Cx)(pins:List (Addr×Obj))(D:wq)(f:Flow)(s':Bn):Prop:=
 match f with
 |.next=>∃σ' H',Inv X pins σ' H' s'/\D.nx σ' H'
 |.ret u=>∃v σ' H',Inv X pins σ' H' s'/\aL v u/\D.rt σ' v H'
 |_=>False
structure QM (X:Cx)(st:Stmt)(t:TSM):Prop where
 out:∀(pins:List (Addr×Obj))(s:Bn)(σ:St)(H:Hp)(D:wq),Inv X pins σ H s->t D σ H->wpAny (model X.prog X.w) X.A (exec st X.env) (SPM X pins D) X.xe s
structure QMs (X:Cx)(st:List Stmt)(t:TSM):Prop where
 out:∀(pins:List (Addr×Obj))(s:Bn)(σ:St)(H:Hp)(D:wq),Inv X pins σ H s->t D σ H->wpAny (model X.prog X.w) X.A (execs st X.env) (SPM X pins D) X.xe s
def xv:TSM:=fun D σ H=>D.nx σ H
def rY (t u:TSM):TSM:=fun D σ H=>t {D with nx:=fun σ' H'=>u D σ' H'} σ H
def AI (t:TS):TSM:=fun D σ H=>t {nx:=D.nx,rt:=fun a a=>False} σ H
def rW (te:TE):TSM:=fun D σ H=>te σ H (D.rt σ)
def CO (c:TT)(t u:TSM):TSM:=fun D σ H=>c σ H fun b H1=>Sel b (t D σ H1) (u D σ H1)
section
variable {X:Cx}{st:Stmt}{sts l m:List Stmt}{t u:TSM}{tS:TS}{e c:Expr}{te:TE}{tc:TT}{pos:Pos}
def CH (h:QS X st tS):QM X st (AI tS):=⟨fun pins s σ H D I hq=>thn (h.out pins s σ H _ I hq) fun f s1 q=>by
 cases f with
 |next=>exact q
 |ret v=>obtain⟨_,_,_,_,_,z⟩:=q;exact z.elim
 |brk=>obtain⟨_,_,_,z⟩:=q;exact z.elim
 |cont=>obtain⟨_,_,_,z⟩:=q;exact z.elim⟩
def pq (h:QE X e te):QM X (.Return (some e) pos) (rW te):=⟨fun pins s σ H D I hq=>
 acD (thn (h.out pins s σ H _ I hq) fun v s1 ⟨x,H1,I1,r1,q1⟩=>⟨x,σ,H1,I1,r1,q1⟩)⟩
def Fh (hc:QT X c tc)(ha:QMs X l t)(hb:QMs X m u):QM X (.If c l m pos) (CO tc t u):=⟨fun pins s σ H D I h=>by
 refine wpAny_If (thn (hc.out pins s σ H _ I h) fun d s1 ⟨H1,I1,q1⟩=>?_)
 have q1:=dS q1
 cases d with
 |true=>exact ha.out pins s1 σ H1 D I1 q1
 |false=>exact hb.out pins s1 σ H1 D I1 q1⟩
def AZ:QMs X [] xv:=⟨fun _ _ σ H _ I h=>Yl ⟨σ,H,I,h⟩⟩
def jW (h1:QM X st t)(h2:QMs X sts u):QMs X (st::sts) (rY t u):=⟨fun pins s σ H D I h=>by
 refine Zo (thn (h1.out pins s σ H _ I h) fun f s1 q=>?_)
 cases f with
 |next=>
  obtain⟨σ',H',I',q⟩:=q
  exact h2.out pins s1 σ' H' D I' q
 |ret v=>exact q
 |brk=>exact q
 |cont=>exact q⟩
def oH (h1:QM X st t):QMs X [st] t:=⟨fun pins s σ H D I h=>by
 refine Zo (thn (h1.out pins s σ H D I h) fun f s1 q=>?_)
 cases f with
 |next=>exact Yl q
 |ret v=>exact q
 |brk=>exact q
 |cont=>exact q⟩
end
def dW:List (Nat×Addr)->St->Hp->Hp
 |[],_,H=>H
 |(i,c)::r,σ,H=>match σ[i]? with
  |some (some v)=>dW r σ (upd H c (cR c v))
  |_=>dW r σ H
theorem vG {P:VM}{w:Wm}{fs:List Addr}{H:Hp}{h h':Heap}{σ:St}:∀(cs:List (Nat×Addr))(H':Hp),(cs.map (·.2)).Nodup->(∀p∈cs,H' p.2=none/\h.objs.size<=p.2/\∀v,σ[p.1]? =some (some v)->∃u o,aL v u/\h'.get? p.2=some o/\o.data=.cell (some u))->
  Un fs [] H H' h h'->HOk P w H' h'->Un fs [] H (dW cs σ H') h h'/\HOk P w (dW cs σ H') h'
 |[],H',_,_,u,ok=>⟨u,ok⟩
 |(i,c)::r,H',nd,hc,u,ok=>by
  unfold dW
  have ndr:=(VX.mp nd).2
  have hcr:∀p∈r,H' p.2=none/\h.objs.size<=p.2/\∀v,σ[p.1]? =some (some v)->∃u o,aL v u/\h'.get? p.2=some o/\o.data=.cell (some u):=fun p hp=>hc p (Vu _ hp)
  split
  ·rename_i v hv
   obtain⟨hn,hge,hcell⟩:=hc (i,c) cW
   have hn:H' c=none:=hn
   have hge:h.objs.size<=c:=hge
   obtain⟨uv,o,ru,eo,hd⟩:=hcell v hv
   have eo:h'.get? c=some o:=eo
   refine vG r (upd H' c (cR c v)) ndr (fun p hp=>⟨?_,(hcr p hp).2⟩) ⟨u.keep,u.slot,fun b ob e n hx=>?_,u.there,fun b xs e=>?_,fun b ob z e=>?_,fun b ps e=>?_⟩ fun b ob e=>?_
   ·have:p.2≠c:=fun z=>(VX.mp nd).1 (by rw[<-z];exact VL.mpr ⟨p,hp,rfl⟩)
    rw[ay this];exact(hcr p hp).1
   ·rw[ay (VD (VB (Vq e) hge))];exact u.free b ob e n hx
   ·have z:=u.tups b xs e;rw[ay (aO z hn)];exact z
   ·have z:=u.frzs b ob _ e;rw[ay (aO z hn)];exact z
   ·obtain⟨more,z⟩:=u.tbls b ps e;exact⟨more,by rw[ay (aO z hn)];exact z⟩
   ·by_cases hb:b=c
    ·subst hb
     rw[aT]at e;obtain rfl:=VR e
     refine⟨⟨uv,o,ru,eo,hd⟩,⟨o,eo⟩,?_⟩
     rintro h1 h2 ⟨u',o',r',e',d'⟩ k
     exact⟨u',o',r',k _ e',d'⟩
    ·rw[ay hb]at e
     exact(ok b ob e).stay (fun a q _ z=>z) (fun a q=>by rw[ay (aO q hn)];exact q) fun a xs q=>by rw[ay (aO q hn)];exact q
  ·exact vG r H' ndr hcr u ok
def Fun.okM {P:VM}{w:Wm}{K:W.Frag}{mg:Str->Option pz}{base:Heap}{x qual:Str}{st:Stmt}{f c0:Addr}{fd:Gt}{N ps:List Str}{k:Nat}{sp:Sp}{caps:Nat->List (Nat×Addr)}(F:Fun K x qual st f fd)(hcd:fd.code=.ref c0)(S:aq N ps (ai st))(len:∀vs H Q E,sp vs H Q E->vs.length=ps.length)
  (hcaps:∀(L:Nat)(p:Nat×Addr),p∈caps L->∃y,N[p.1]? =some y/\(ai st).names.lookup y=some .cell/\(cellsFrom (L+1) (ai st).names []).lookup y=some p.2)(hnd:∀L,((caps L).map (·.2)).Nodup)
  (hbody:∀(A:Wj)(outer:List Env)(s:Bn)(H:Hp)(vs:List V)(Q:VK)(E:XK),aZ k (A.deeper (envOfC qual (ai st) s.heap.objs.size f (.ref c0)))->sp vs H Q E->
   ∃t,QMs (gb (CX1 P w) P w K mg base N qual (ai st) f (.ref c0) A outer s H E) (bv st) t/\t {nx:=fun σ H'=>(∀p∈caps s.heap.objs.size,H' p.2=none)->Q .non (dW (caps s.heap.objs.size) σ H'),rt:=fun σ v H'=>(∀p∈caps s.heap.objs.size,H' p.2=none)->Q v (dW (caps s.heap.objs.size) σ H')} (du N vs) H):cy P w K mg base (CX1 P w) (k+1) f fd ps sp:=by
 obtain⟨oc,od,kV,doc,pm,an,cdv,ct,osl,rfl,lk,hcd'⟩:=F.ex
 obtain rfl:cdv=.ref c0:=hcd
 refine⟨len,fun A outer s H args us vs Q E hr e0 hb r hsp=>?_⟩
 have hl:=len _ _ _ _ hsp
 have KX:K.In s.heap:=e0.mod.kin.keeps fun b o e=>(e0.bs b o e).1
 have lim:s.heap.NoLimit:=e0.mod.nolimit.keeps fun b o e=>(e0.bs b o e).1
 have hkind:∀y∈ps.zip us,(ai st).names.lookup y.1=some .local\/((ai st).names.lookup y.1=some .cell/\((cellsFrom (s.heap.objs.size+1) (ai st).names []).lookup y.1).isSome=true):=fun⟨n,v⟩ hy=>by
  rcases S.par n (XZ hy).1 with q|q
  ·exact .inl q
  ·exact .inr ⟨q,W.cellsFrom_some _ _ _ (.inl q)⟩
 refine abX hr.depth (KX _ _ lk) rfl S.co S.gen rfl (W.codeRec_of KX hcd') (hb _ _ _ _ ?_)
 refine aa2 S.kind hkind fun env he s1 x=>?_
 subst he
 refine⟨lim.keeps x.toInCall.keep,codeAny_func ?_⟩
 obtain⟨t,ht,hq⟩:=hbody A outer s H vs Q E (hr.deeper _) hsp
 have I:Inv (gb (CX1 P w) P w K mg base N qual (ai st) f (.ref c0) A outer s H E) [] (du N vs) H s1:=zJ S hr.hd e0 hl r x
 refine VT (ht.out [] s1 (du N vs) H _ I hq) (fun fl s' hs=>?_) fun e s' hs=>hs
 have fin:∀{σ':St}{H':Hp}{v:V}{u:pz},Inv (gb (CX1 P w) P w K mg base N qual (ai st) f (.ref c0) A outer s H E) [] σ' H' s'->aL v u->((∀p∈caps s.heap.objs.size,H' p.2=none)->Q v (dW (caps s.heap.objs.size) σ' H'))->CE outer P w H s Q u s':=
  fun{σ' H' v u} J rv q=>by
   have free:∀p∈caps s.heap.objs.size,H' p.2=none:=fun p hp=>by
    obtain⟨y,_,_,hc⟩:=hcaps _ p hp
    exact J.freeC y p.2 hc
   have hcond:∀p∈caps s.heap.objs.size,H' p.2=none/\s.heap.objs.size<=p.2/\∀v,σ'[p.1]? =some (some v)->∃u o,aL v u/\s'.heap.get? p.2=some o/\o.data=.cell (some u):=fun p hp=>by
    obtain⟨y,hy,hk,hc⟩:=hcaps _ p hp
    refine⟨free p hp,J.ok.cab y p.2 rfl hc,fun v hv=>?_⟩
    obtain⟨m,_,hloc⟩:=J.loc
    obtain⟨u',r',lk'⟩:=hloc p.1 y v hy hv (.inr (.inl hk))
    rcases lk' with⟨z,_⟩|⟨_,c,ec,o,eo,hd⟩
    ·have z:(ai st).names.lookup y=some .local:=z
     rw[hk]at z;cases z
    ·have ec:(cellsFrom (s.heap.objs.size+1) (ai st).names []).lookup y=some c:=ec
     rw[hc]at ec;obtain rfl:=VR ec
     exact⟨u',o,r',eo,hd⟩
   obtain⟨un,ok⟩:=vG (P:=P) (w:=w) (σ:=σ') (caps s.heap.objs.size) H' (hnd _) hcond J.base J.hok
   exact⟨v,_,J.os,J.bare,un,ok,rv,q free⟩
 cases fl with
 |ret u=>
  obtain⟨v,σ',H',J,rv,q⟩:=hs
  exact fin J rv q
 |next=>
  obtain⟨σ',H',J,q⟩:=hs
  exact fin (v:=V.non) (u:=Xb) J rfl q
 |brk=>exact Wg hs
 |cont=>exact Wg hs
def GK {P:VM}{w:Wm}{K:W.Frag}{mg mb:Str->Option pz}{CX:CXT}{k:Nat}{fa a:Addr}{fd:Gt}{x:Str}{sp:Sp}{s₁:Bn}{vs:List pz}{ns:List Int}{tabs:List (Addr×Addr)}
  (KX:K.In s₁.heap)(hns:s₁.heap.Ns mainGlobals mg)(hb:s₁.heap.Ns builtinsNs mb)(hbb:∀x:Str,x≠"__name__"->mb x=bootBuiltins x)(hlim:s₁.heap.NoLimit)(hg:s₁.gens=#[])(hB:BM mg s₁.heap)
  (hT:∀q∈tabs,W.CodeHd s₁.heap q.1 q.2/\s₁.heap.get? q.2=some (W.tabObj #[]))(hKT:W.noTabs K=true)
  (ha:s₁.heap.get? a=some {cls:=.type "list",data:=.seq vs.toArray})(hi:aa1 vs ns)(hl:ns.length<=sizeLine)(hr:aZ k callerA)
  (F:∀base:Heap,K.In base->base.Ns mainGlobals mg->BM mg base->(∀q∈tabs,W.CodeHd base q.1 q.2)->cy P w K mg base CX k fa fd [x] sp)(hbind:∀(s:Bn)(u:pz),abB s fd ⟨[u],[]⟩ [(x,u)])
  (hsp:∀H:Hp,(∀q∈tabs,H q.2=some (.tbl #[]))->SqL K H a (ns.map V.int)->sp [.ref a] H (fun v _=>v=.bl true) fun _ _ _=>False)
  (hCX:∀H e s',CX [] H s₁ (fun _ _ _=>False) e s'->False):
  codeAny (model P w) callerA (.call (.ref fa) ⟨[.ref a],[]⟩) (fun r s'=>r=.ok (.ret (.bool true))/\OldK s₁.heap s'.heap/\s'.os=s₁.os/\Zn s'.gens) s₁:=by
 have rv:=si hi
 have lenV:=hi.length
 have tabK:∀q∈tabs,K.lookup q.2=none:=fun q hq=>by
  cases e:K.lookup q.2 with
  |none=>rfl
  |some o=>
   have e2:=KX _ _ e
   rw[(hT q hq).2]at e2;obtain rfl:=VR e2
   have:=WB.mp hKT _ (W.mem_of_lookupK e)
   exact absurd (show false=true from this) VF
 have tabA:∀q∈tabs,q.2≠a:=fun q hq e=>by
  have e2:=(hT q hq).2
  rw[e,ha]at e2;cases e2
 have core:∀H:Hp,(∀q∈tabs,H q.2=some (.tbl #[]))->SqL K H a (ns.map V.int)->HOk P w H s₁.heap->(∀b,H b≠none->(b=a/\∃o xs,H b=some (.frz o (.lst xs)))\/∃q∈tabs,q.2=b)->(∀b,H b≠none->K.lookup b=none)->
   codeAny (model P w) callerA (.call (.ref fa) ⟨[.ref a],[]⟩) (fun r s'=>r=.ok (.ret (.bool true))/\OldK s₁.heap s'.heap/\s'.os=s₁.os/\Zn s'.gens) s₁:=by
  intro H hO hS hok hA hK
  have base_of:∀{b:Addr}{o:Obj},s₁.heap.get? b=some o->H b=none->(ky s₁.heap H).get? b=some o:=fun e n=>JG e n
  have noA:∀{b:Addr}{o:Obj},s₁.heap.get? b=some o->o.cls≠.none->o.cls≠.type "list"->H b=none:=fun{b o} e c1 c2=>by
   cases q:H b with
   |none=>rfl
   |some u=>
    rcases hA b (by rw[q];simp)with⟨rfl,_⟩|⟨p,hp,rfl⟩
    ·rw[ha]at e;obtain rfl:=VR e;exact absurd rfl c2
    ·rw[(hT p hp).2]at e;obtain rfl:=VR e;exact absurd rfl c1
  have noD:∀{b:Addr}{o:Obj}{es:Array DictEntry}{ep:Nat},s₁.heap.get? b=some o->o.data=.dict es ep->H b=none:=fun{b o es ep} e d=>by
   cases q:H b with
   |none=>rfl
   |some u=>
    rcases hA b (by rw[q];simp)with⟨rfl,_⟩|⟨p,hp,rfl⟩
    ·rw[ha]at e;obtain rfl:=VR e;injection d
    ·rw[(hT p hp).2]at e;obtain rfl:=VR e;injection d
  have nsK:∀{b:Addr}{m:Str->Option pz},s₁.heap.Ns b m->(ky s₁.heap H).Ns b m:=fun{b m}⟨o,es,ep,e,d,r⟩=>⟨o,es,ep,base_of e (noD e d),d,r⟩
  have hKb:K.In (ky s₁.heap H):=fun b o e=>base_of (KX b o e) (by
   cases q:H b with
   |none=>rfl
   |some u=>rw[hK b (by rw[q];simp)]at e;injection e)
  have hBb:BM mg (ky s₁.heap H):=by
   obtain⟨bm,ob,b1,b2,b3,b4,b5,b6⟩:=hB
   exact⟨bm,ob,b1,b2,base_of b3 (noA b3 (by rw[b4];intro z;injection z) (by rw[b4];intro z;exact absurd (abf z) (by decide))),b4,b5,b6⟩
  have hCb:∀q∈tabs,W.CodeHd (ky s₁.heap H) q.1 q.2:=fun q hq=>by
   obtain⟨o,vs,file,tf,flags,tg,inF,text,tt,e1,e2,r⟩:=(hT q hq).1
   exact⟨o,vs,file,tf,flags,tg,inF,text,tt,base_of e1 (noA e1 (by rw[e2];intro z;injection z) (by rw[e2];intro z;exact absurd (abf z) (by decide))),e2,r⟩
  have hM:Mod K mg (ky s₁.heap H):=⟨hKb,nsK hns,⟨mb,nsK hb,hbb⟩,let ⟨mc,h1,h2⟩:=hlim;⟨mc,nsK h1,h2⟩⟩
  have e0:oQ P w K mg (ky s₁.heap H) callerA [] s₁ H:=⟨rfl,hM,fun b o e=>LB e,YL (Hu _ _),trivial,fun b hb=>absurd (show b∈([]:List Addr)from hb) (by simp),hok,.of_eq hg⟩
  refine YA ((F _ hKb (nsK hns) hBb hCb).run callerA [] s₁ H ⟨[.ref a],[]⟩ [.ref a] [.ref a] _ _ hr e0 (hbind s₁ (.ref a)) (.cons rfl .nil) (hsp H hO hS)) fun r s' h=>?_
  cases r with
  |error e=>exact(hCX H e s' h).elim
  |ok fl=>
   cases fl with
   |next=>exact Wg h
   |brk=>exact Wg h
   |cont=>exact Wg h
   |ret u=>
    obtain⟨v,H',os,bare,un,hok',r',q⟩:=h
    have q':v=.bl true:=q
    subst q'
    obtain rfl:u=Xe true:=r'
    have all:∀b o,s₁.heap.get? b=some o->s'.heap.get? b=some o\/∃q∈tabs,q.2=b/\∃more,s'.heap.get? b=some (W.tabObj more):=fun b o e=>by
     cases q:H b with
     |none=>exact .inl (un.keep b o e q (by intro z;exact absurd (show b∈([]:List Addr)from z) (by simp)) (by simp))
     |some u=>
      rcases hA b (by rw[q];simp)with⟨rfl,ob,xs,z⟩|⟨p,hp,rfl⟩
      ·have z2:=un.frzs b ob _ z
       obtain⟨e1,_⟩:=hok b _ z
       obtain⟨e2,_⟩:=hok' b _ z2
       rw[e]at e1;obtain rfl:=VR e1
       exact .inl e2
      ·obtain⟨more,z2⟩:=un.tbls p.2 _ (hO p hp)
       exact .inr ⟨p,hp,rfl,_,hok' p.2 _ z2⟩
    refine⟨rfl,⟨fun b o e=>?_,fun b o e=>?_⟩,os,bare⟩
    ·rcases all b o e with z|⟨p,hp,rfl,more,z⟩
     ·exact .inl z
     ·have e2:=(hT p hp).2
      rw[e]at e2;obtain rfl:=VR e2
      exact .inr (.inl ⟨((hT p hp).1.tab (hT p hp).2).isCodeTable,rfl,#[],more,rfl,by rw[Array.empty_append];exact z⟩)
    ·rcases all b o e with z|⟨p,hp,rfl,more,z⟩
     ·exact⟨_,z⟩
     ·exact⟨_,z⟩
 cases hk:K.lookup a with
 |some o=>
  have e:=KX a o hk
  rw[ha]at e
  obtain rfl:=VR e
  refine core (fun b=>if b∈tabs.map (·.2)then some (.tbl #[])else none) (fun q hq=>if_pos (VL.mpr ⟨q,hq,rfl⟩)) (.inr ⟨_,vs.toArray,_,hk,rfl,rfl,rfl,by rw[Vv,lenV];exact hl,by simpa using rv⟩) (fun b u z=>?_) (fun b z=>?_) fun b z=>?_
  ·by_cases hb:b∈tabs.map (·.2)
   ·have z':=(if_pos hb).symm.trans z
    obtain rfl:=VR z'
    obtain⟨q,hq,rfl⟩:=VL.mp hb
    exact(hT q hq).2
   ·have z':=(if_neg hb).symm.trans z
    injection z'
  ·by_cases hb:b∈tabs.map (·.2)
   ·obtain⟨q,hq,e⟩:=VL.mp hb
    exact .inr ⟨q,hq,e⟩
   ·exact absurd (if_neg hb) z
  ·by_cases hb:b∈tabs.map (·.2)
   ·obtain⟨q,hq,rfl⟩:=VL.mp hb
    exact tabK q hq
   ·exact absurd (if_neg hb) z
 |none=>
  refine core (fun b=>if b=a then some (.frz {cls:=.type "list",data:=.seq vs.toArray} (.lst (ns.map V.int)))else if b∈tabs.map (·.2)then some (.tbl #[])else none)
   (fun q hq=>by show(if q.2=a then _ else _)=_;rw[if_neg (tabA q hq),if_pos (VL.mpr ⟨q,hq,rfl⟩)]) (.inl (.inr ⟨{cls:=.type "list",data:=.seq vs.toArray},if_pos rfl⟩)) (fun b u z=>?_) (fun b z=>?_) fun b z=>?_
  ·by_cases hb:b=a
   ·have z':=(if_pos hb).symm.trans z
    obtain rfl:=VR z'
    subst hb
    exact⟨ha,by rw[Vy];exact hl,vs,_,rv,ha⟩
   ·have z':(if b∈tabs.map (·.2)then some (HO.tbl #[])else none)=some u:=(if_neg hb).symm.trans z
    by_cases hb2:b∈tabs.map (·.2)
    ·rw[if_pos hb2]at z';obtain rfl:=VR z'
     obtain⟨q,hq,rfl⟩:=VL.mp hb2
     exact(hT q hq).2
    ·rw[if_neg hb2]at z';injection z'
  ·by_cases hb:b=a
   ·exact .inl ⟨hb,_,_,if_pos hb⟩
   ·by_cases hb2:b∈tabs.map (·.2)
    ·obtain⟨q,hq,e⟩:=VL.mp hb2
     exact .inr ⟨q,hq,e⟩
    ·exact absurd ((if_neg hb).trans (if_neg hb2)) z
  ·by_cases hb:b=a
   ·rw[hb];exact hk
   ·by_cases hb2:b∈tabs.map (·.2)
    ·obtain⟨q,hq,rfl⟩:=VL.mp hb2
     exact tabK q hq
    ·exact absurd ((if_neg hb).trans (if_neg hb2)) z
def IY {l:W.OpenLaw}{n k:Nat}{q:VM}{loose:List Str}{XP:(Str->Option pz)->Heap->Prop}{YP:Wm->Heap->Prop}{d:DefRec}{K:Params->W.Frag}{CX:Wm->CXT}{x:Str}{names:List Str}
  (hn:l.most=some n)(hn2:n<=sizeLine)(hdf:d.params.defaults=[])(hr:aZ k callerA)
  (hY:∀(w:Wm)(h:Heap),YP w h->(K w.params).In h)
  (hq:∀y∈names,((aar q).find? fun e=>e.name==y).isSome=true)
  (F:∀(w:Wm)(mg:Str->Option pz)(fa:Addr)(h:Heap),(K w.params).In h->h.Ns mainGlobals mg->mg d.name=some (.ref fa)->
   ∃(fd:Gt)(tabs:List (Addr×Addr))(sp:Sp),(∀(s:Bn)(u:pz),abB s fd ⟨[u],[]⟩ [(x,u)])/\W.noTabs (K w.params)=true/\(∀t∈tabs,∃y∈names,W.tabIn (K w.params) y=some t)/\
    (∀base:Heap,(K w.params).In base->base.Ns mainGlobals mg->BM mg base->(∀t∈tabs,W.CodeHd base t.1 t.2)->cy l.prog w (K w.params) mg base (CX w) k fa fd [x] sp)/\
    ∀(H:Hp)(a:Addr)(ns:List Int),ns.length<=n->(∀t∈tabs,H t.2=some (.tbl #[]))->SqL (K w.params) H a (ns.map V.int)->sp [.ref a] H (fun v c=>v=.bl true) fun c c c=>False)
  (hCX:∀(w:Wm)(H:Hp)(s:Bn)(e:pz)(s':Bn),CX w [] H s (fun c c c=>False) e s'->False):
  W.WalkO q loose XP YP l.row.toRowW d [] (fun f vs=>abA f vs):=by
 refine Att.attach_call hn hdf fun w s₀ s₁ mg mb fa o pm cd doc a vs ns G Y ho hd hcd hmg hobj hints hlen hg=>?_
 have KX:=hY w _ Y
 obtain⟨fd,tabs,sp,hb,hKT,htabs,hF,hsp⟩:=F w mg fa _ KX G.T.g hmg
 refine GK (tabs:=tabs) KX G.T.g G.T.b G.T.builtins G.T.nolimit hg G.T.bmain (fun t ht=>?_) hKT hobj hints (VO hlen hn2) hr hF hb (fun H hO hS=>hsp H a ns hlen hO hS) fun H e s'=>hCX w H s₁ e s'
 obtain⟨y,hy,e⟩:=htabs t ht
 obtain⟨dd,hdd⟩:=Ws.mp (hq y hy)
 exact W.tab_of G.T KX hdd e
section
variable {X:Cx}
def SPM.unwish {E:pz->Bn->Prop}{pins:List (Addr×Obj)}{D:wq}{f:Flow}{s':Bn}(h:SPM (X.wish E) pins D f s'):SPM X pins D f s':=by
 cases f with
 |next=>obtain⟨σ',H',I,q⟩:=h;exact⟨σ',H',I.unwish,q⟩
 |brk=>exact h
 |cont=>exact h
 |ret u=>obtain⟨v,σ',H',I,r,q⟩:=h;exact⟨v,σ',H',I.unwish,r,q⟩
def QMs.nox {st:List Stmt}{t:TSM}(h:QMs X.nox st t):QMs X st t:=⟨fun pins s σ H D I hw=>
 VT (h.out pins s σ H D (I.wish _) hw) (fun a a q=>SPM.unwish q) fun a a z=>Wg z⟩
def fu.mono {P:VM}{w:Wm}{K:W.Frag}{mg:Str->Option pz}{base:Heap}{j k:Nat}{t:dO}{sp:Sp}(F:fu P w K mg base j t sp)(h:j<=k):fu P w K mg base k t sp:=
 ⟨fun A outer s H f cs us vs cvs Q E hr=>F.run A outer s H f cs us vs cvs Q E (hr.mono h)⟩
def MO:V->List V->Hp->VK->Prop:=fun x vs H Q=>∃a y d r H',x=.ref a/\vs=[y,d]/\Vf H a y d r H'/\Q r H'
def Iv (hu:X.A.units+1<cLine):MtR X "dict.setdefault" MO:=by
 intro pins s σ H x xs v us Q I rx rs h
 obtain⟨a,y,d,r,H',rfl,rfl,g,q⟩:=h
 obtain rfl:v=Lt a:=rx
 obtain⟨uy,ud,rfl,ry,rd⟩:=wN rs
 rcases g with⟨g,rfl⟩|⟨g,p,rfl⟩
 ·rcases g with⟨kvs,k,e,rfl,l⟩|⟨kvs,k,b,e,rfl,eb,l⟩
  ·obtain⟨z,hd,vs,rel,dd⟩:=kM I.hok e
   obtain⟨w',hw,rw'⟩:=bE.some_of (v:=r) (o:=valueAt vs k) (by rw[l];exact rel.val k)
   exact ZH Xc dd.typeIs Xt (Xr _ _ _) (ack (bG X.prog X.w) a (lj ry) hd ud)
    ⟨vs,dd,by rw[<-rel.length];exact z,(fun v' hv'=>by rw[hw]at hv';obtain rfl:=VR hv';exact⟨r,H',I.tok _,rw',q⟩),(fun hn=>by rw[hw]at hn;injection hn)⟩
  ·obtain rfl:uy=Lt b:=ry
   obtain⟨z,hd,xs,rel,dd⟩:=tQ I.hok e
   obtain⟨w',hw,rw'⟩:=bE.some_of (v:=r) (o:=(atKey xs k).map (·.2)) (by rw[l];exact rel.val k)
   obtain⟨pp,hp,hp2⟩:=WM.mp hw
   refine Xd Xc dd.typeIs Xt ?_ (Xr _ _ _)
   unfold Zb.«dict.setdefault»
   refine pv ?_
   unfold ZL
   refine pv (abU dd.typeIs ?_)
   show wpAny _ _ (pure (a,Lt b,some ud)) _ _ s
   refine Vt ?_
   show wpAny _ _ (if (a==sysModules)=true then _ else(dictSetDefault a (.ref b) ud>>=_)) _ _ s
   rw[if_neg (by rw[hd];exact VF)]
   refine pv (gz (XN hu) (jB I.hok eb) dd (fun p' hp'=>?_) (fun hn=>?_) (by rw[<-Paired.length rel];exact z))
   ·rw[hp]at hp';obtain rfl:=VR hp'
    exact Vt ⟨_,rfl,⟨r,H',I.tok _,by rw[hp2];exact rw',q⟩⟩
   ·rw[hp]at hn;injection hn
 ·rcases g with⟨kvs,k,e,rfl,l⟩|⟨kvs,k,b,e,rfl,eb,l⟩
  ·rcases p with⟨kvs',k',e',ey,lz,rfl⟩|⟨kvs',k',b',e',ey,f⟩
   ·have ek:k=k':=by cases k<;>cases k'<;>first|(cases ey;rfl)|injection ey
    subst ek
    obtain⟨z,hd,vs,rel,dd⟩:=tF I.hok e'
    have ee:kvs=kvs':=by
     rcases e with e|⟨o,e⟩
     ·rw[e']at e;cases e;rfl
     ·rw[e']at e;cases e
    subst ee
    have hn:valueAt vs k=none:=bE.none_of (by rw[l];exact rel.val k)
    refine ZH Xc dd.typeIs Xt (Xr _ _ _) (ack (bG X.prog X.w) a (lj ry) hd ud)
     ⟨vs,dd,by rw[<-rel.length];exact z,(fun v' hv'=>by rw[hn]at hv';injection hv'),fun f h' dd' hs=>?_⟩
    have he:∃q,h'.get? a=some q:=let ⟨q,_,_,hq,_⟩:=dd';⟨q,hq⟩
    have hl:(fh kvs k r).length<=sizeLine:=by have:=gY kvs k r;lia
    exact⟨r,_,mW I (by rw[e'];exact Xk) hs he (xU hl hd (rel.put k rd) dd'),rd,q⟩
   ·cases k<;>injection ey
  ·rcases p with⟨kvs',k',e',ey,f⟩|⟨kvs',k',b',e',ey,eb',lz,rfl⟩
   ·cases k'<;>injection ey
   ·injection ey with ey;subst ey
    have ek:k=k':=DZ (HO.tup.inj (VR (eb.symm.trans eb')))
    subst ek
    obtain rfl:uy=Lt b:=ry
    obtain⟨z,hd,xs,rel,dd⟩:=EU I.hok e'
    have ee:kvs=kvs':=by
     rcases e with e|⟨o,e⟩
     ·rw[e']at e;cases e;rfl
     ·rw[e']at e;cases e
    subst ee
    have hn:atKey xs k=none:=by
     have:=bE.none_of (o:=(atKey xs k).map (·.2)) (by rw[l];exact rel.val k)
     exact YV.mp this
    refine Xd Xc dd.typeIs Xt ?_ (Xr _ _ _)
    unfold Zb.«dict.setdefault»
    refine pv ?_
    unfold ZL
    refine pv (abU dd.typeIs ?_)
    show wpAny _ _ (pure (a,Lt b,some ud)) _ _ s
    refine Vt ?_
    show wpAny _ _ (if (a==sysModules)=true then _ else(dictSetDefault a (.ref b) ud>>=_)) _ _ s
    rw[if_neg (by rw[hd];exact VF)]
    refine pv (gz (XN hu) (jB I.hok eb) dd (fun p' hp'=>?_) (fun f h' dd' hs=>?_) (by rw[<-Paired.length rel];exact z))
    ·rw[hn]at hp';injection hp'
    ·obtain⟨q',es,ep,hq,h2,h3,h4,f,h5⟩:=dd'
     have hl:(fh kvs k r).length<=sizeLine:=by have:=gY kvs k r;lia
     refine Vt ⟨_,rfl,⟨r,_,mW (ob:=.dT (fh kvs k r)) I (by rw[e'];exact Xk) hs ⟨q',hq⟩ ⟨hl,hd,_,(rel.put k eb rd).keeps fun c ys ec=>?_,q',es,ep,hq,h2,h3,h4,h5⟩,rd,q⟩⟩
     rw[ay (lr ec e' (fun z=>nomatch z))]
     exact ec
def Its (z:Str):It:=⟨fun i a=>i<z.length,fun i H x H'=>H'=H/\∃c,z.cps[i]?=some c/\x=.str ⟨#[c]⟩,fun i a=>z.length<=i⟩
def Jq {P:VM}{w:Wm}{K:W.Frag}{tg:Expr}(z:Str)(t:Tok)(it:Addr):vD P w K tg (Its z) [it] it (fun i h=>h.IsStrIter it "str_ascii_iterator" z t i)where
 mem:=by simp
 obj:=fun i h st b hb=>by
  have e:b=it:=by simpa using hb
  subst e
  obtain⟨o,e,c,d⟩:=st
  exact⟨o,e,fun v z=>by rw[d]at z;injection z⟩
 keep:=fun i h h' st k=>let ⟨o,ho,r⟩:=st;⟨o,k it (by simp) o ho,r⟩
 item:=by
  intro X hP hw hK hc i pins s σ H E I hf st hg
  subst hP hw hK
  obtain⟨f0,f1,f2,f3,f4,f5⟩:=hf it (by simp)
  have hi:i<z.cps.size:=hg
  refine wpAny_pyNext_ascii_item st (c:=z.cps[i]) (Wp hi) fun h' st' sb=>?_
  have I1:Inv X pins σ H {s with heap:=h',toks:=s.toks+1}:=I.turned (t':=s.toks+1) (fun b o hb e=>(sb.2 b hb).trans e) f0 f1 f3 f4 f5
  obtain⟨o,e,c,d⟩:=id st'
  exact⟨_,rfl,wy (s:={s with heap:=h',toks:=s.toks+1}) e c d (by decide) ⟨.str ⟨#[z.cps[i]]⟩,H,I1,⟨_,rfl⟩,⟨rfl,_,Wp hi,rfl⟩,st',fun b hb=>(hf b hb).1⟩⟩
 done:=by
  intro X hP hw hK hc i pins s σ H E I hf st hg
  subst hP hw hK
  obtain⟨f0,f1,f2,f3,f4,f5⟩:=hf it (by simp)
  exact wpAny_pyNext_ascii_end (I.ok.hd hc) st (aaV (show z.cps.size<=i from hg)) fun h' eb=>⟨rfl,I.turned (t':=s.toks) (fun b o hb e=>eb b o hb e) f0 f1 f3 f4 f5⟩
 self:=fun A i s Q E st h=>by
  refine wpAny_pyIter_slot st.typeIs aap (Xd aap st.typeIs F.entry_str_ascii_iterator_iter ?_ (F.args_str_ascii_iterator_iter_1 _))
  show wpAny _ _ (ret (.ref it)) _ _ s
  exact Vt ⟨_,rfl,"str_ascii_iterator",_,st.typeIs,F.slot_str_ascii_iterator_next.lookup,h⟩
variable {a:Expr}{ta:TE}{tg:Expr}
def Sq (K:W.Frag)(tl:TE):TI:=fun σ H R=>tl σ H fun x H1=>match x with
 |.str z=>z.cps.all (·<128)=true/\R (Its z) H1
 |x=>∃a,x=.ref a/\(((∃xs,SqL K H1 a xs)/\R (Itl K a) H1)\/((∃xs,SqT K H1 a xs)/\R (Itt K a) H1))
def QH (h:QE X a ta):QI X tg a (Sq X.K ta):=⟨fun pins s σ H R I hw=>by
 refine thn (h.out pins s σ H _ I hw) fun v s1 ⟨x,H1,I1,r1,q1⟩=>?_
 cases x with
 |str z=>
  obtain⟨t,rfl⟩:=r1
  refine wpAny_pyIter_ascii q1.1 ?_
  refine⟨s1.heap.objs.size,[s1.heap.objs.size],_,_,H1,rfl,I1.kept (t':=s1.toks) fun b o e=>gV _ e,Jq z t _,⟨_,Vr _ rfl,rfl,rfl⟩,fun b hb=>?_,q1.2⟩
  have e:b=s1.heap.objs.size:=by simpa using hb
  subst e
  exact I1.fpOk (sn _) (I1.hok.fresh (sn _))
 |ref c=>
  obtain⟨a,e,q⟩:=q1
  injection e with e;subst e
  subst r1
  rcases q with⟨⟨xs,hq⟩,q⟩|⟨⟨xs,hq⟩,q⟩
  ·obtain⟨its,rv,p,hz⟩:=I1.list hq
   refine aav (IH p) ?_
   refine⟨s1.heap.objs.size,[s1.heap.objs.size],_,_,H1,rfl,I1.kept (t':=s1.toks) fun b o e=>gV _ e,Gi _ _,⟨_,Vr _ rfl,rfl,rfl⟩,fun b hb=>?_,q⟩
   have e:b=s1.heap.objs.size:=by simpa using hb
   subst e
   exact I1.fpOk (sn _) (I1.hok.fresh (sn _))
  ·obtain⟨its,rv,p,hz⟩:=I1.tuple hq
   refine acu (show s1.heap.IsTuple c its.toArray from p) ?_
   refine⟨s1.heap.objs.size,[s1.heap.objs.size],_,_,H1,rfl,I1.kept (t':=s1.toks) fun b o e=>gV _ e,Gb _ _,⟨_,Vr _ rfl,rfl,rfl⟩,fun b hb=>?_,q⟩
   have e:b=s1.heap.objs.size:=by simpa using hb
   subst e
   exact I1.fpOk (sn _) (I1.hok.fresh (sn _))
 |_=>obtain⟨d,e,d⟩:=q1;injection e⟩
end
noncomputable def Il (K:W.Frag)(ns:List Str):Bool:=decide ((ns.map fun n=>(W.tabIn K n).map (·.2)).Nodup)
def IP {l:List Addr}(h:(l.map some).Nodup):l.Nodup:=aaj some (fun a b h e=>h (congrArg some e)) h
end L2
namespace HT
open PySem PyProof.Rows
def sub_tuple_dict:isSubtype (.type "tuple") (.type "dict")=pure false:=by rw[abe];kernel_rfl
def yI:isSubtype (.type "dict") (.type "tuple")=pure false:=by rw[abe];kernel_rfl
def Fp (l b:Addr)(o:Obj)(hc:o.cls=.type "dict")(o2:Obj)(hc2:o2.cls=.type "tuple"):
  Meets (Zb.«dict.__eq__» ⟨[.ref l,.ref b],[]⟩) (fun a R s=>s.heap.get? l=some o/\s.heap.get? b=some o2/\R (.ok (.ret .notImplemented)) s):=
 .of_wp fun prog w A R s h=>by
  obtain⟨hp,g,d,tk,os⟩:=s;obtain⟨hl,hb,h⟩:=h;obtain⟨cls,dd,data,sl⟩:=o;obtain⟨cls2,dd2,data2,sl2⟩:=o2
  simp only at hc hc2;subst hc hc2
  have f1:=sub_tuple_dict;wp_walk using ZC hl,ZC hb;exact⟨_,rfl,h⟩
def DB (l b:Addr)(o:Obj)(hc:o.cls=.type "tuple")(o2:Obj)(hc2:o2.cls=.type "dict"):
  Meets (Zb.«tuple.__eq__» ⟨[.ref l,.ref b],[]⟩) (fun a R s=>s.heap.get? l=some o/\s.heap.get? b=some o2/\R (.ok (.ret .notImplemented)) s):=
 .of_wp fun prog w A R s h=>by
  obtain⟨hp,g,d,tk,os⟩:=s;obtain⟨hl,hb,h⟩:=h;obtain⟨cls,dd,data,sl⟩:=o;obtain⟨cls2,dd2,data2,sl2⟩:=o2
  simp only at hc hc2;subst hc hc2
  have f1:=yI;wp_walk using ZC hl,ZC hb;exact⟨_,rfl,h⟩
end HT
namespace L2
open PySem PySem.Spec PyProof.Rows
section
variable {X:Cx}
def Lh (K:W.Frag):R2:=fun x y H Q=>∃a b ys,x=.ref a/\y=.ref b/\((∃kvs,H a=some (.dK kvs))\/∃kvs,H a=some (.dT kvs))/\SqT K H b ys/\Q (.bl false) H
def LX (hu:X.A.units<cLine):OpR X (compareOp .Eq) (Lh X.K):=by
 intro pins s σ H x y v u Q I rx ry h
 obtain⟨a,b,ys,rfl,rfl,ha,hb,q⟩:=h
 subst rx
 subst ry
 obtain⟨its,c,p1,c⟩:=I.tuple hb
 obtain⟨o2,ho2,hc2,c⟩:=id p1
 obtain⟨o,ho,hc⟩:∃o,s.heap.get? a=some o/\o.cls=.type "dict":=by
  rcases ha with⟨kvs,e⟩|⟨kvs,e⟩
  ·obtain⟨c,c,c,c,o,c,c,h1,h2,c⟩:=(show ba X.prog X.w H s.heap a (.dK kvs)from I.hok a _ e)
   exact⟨o,h1,h2.1⟩
  ·obtain⟨c,c,c,c,o,c,c,h1,h2,c⟩:=(show ba X.prog X.w H s.heap a (.dT kvs)from I.hok a _ e)
   exact⟨o,h1,h2.1⟩
 have hne:a≠b:=fun e=>by
  subst e
  rw[ho]at ho2;obtain rfl:=VR ho2
  rw[hc]at hc2;exact absurd hc2 (by simp)
 show wpAny _ _ (richCompare .Eq (.ref a) (.ref b)) _ _ s
 exact SeqAt.rc_eq_decline_or (k:=false) ⟨_,ho,hc⟩ ⟨_,ho2,hc2⟩ (by decide) F.sub_tuple_dict F.slot_dict_eq abM
  (fun c hq=>acG F.slot_dict_eq ⟨_,ho,hc⟩ F.entry_dict_eq (F.args_dict_eq_2 _ _) (HT.Fp a b o hc o2 hc2) ⟨ho,ho2,hq⟩)
  (fun c hq=>acG abM ⟨_,ho2,hc2⟩ F.entry_tuple_eq (F.args_tuple_eq_2 _ _) (HT.DB b a o2 hc2 o hc) ⟨ho2,ho,hq⟩)
  (fun c hq=>wpAny_isSame_ref_other hne ho ho2 (by rw[hc];simp) hq) (.inr hu) ⟨.bl false,H,I,rfl,q⟩
def yG (K:W.Frag):R2:=fun x y H Q=>match x,y with
 |.ref a,.ref b=>Ow K (.ref a) (.ref b) H Q\/Cg K (.ref a) (.ref b) H Q\/Lh K (.ref a) (.ref b) H Q
 |.ref a,y=>Cg K (.ref a) y H Q
 |x,.ref b=>Cg K x (.ref b) H Q
 |x,y=>mEq x y H Q
def Gf (hu:X.A.units+150<cLine):OpR X (compareOp .Eq) (yG X.K):=((Qx (by lia)).or ((GZ hu).or ((LX (by lia)).or oEq))).imp fun x y H Q q=>by
 unfold yG at q
 split at q
 ·exact q.elim .inl fun z=>z.elim (fun z=>.inr (.inl z)) fun z=>.inr (.inr (.inl z))
 ·exact .inr (.inl q)
 ·exact .inr (.inl q)
 ·exact .inr (.inr (.inr q))
end
def uK:bootBuiltins "reversed"=some (.type "reversed"):=by decide+kernel
section
variable {X:Cx}{a:Expr}{t:TA}{p pos:Pos}{tg:Expr}
def Jp:OpR X (binaryOp .FloorDiv) (rI (fun a j=>0<j/\j<1267650600228229401496703205376) fun i j=>.int (i/j)):=opI fun i j a a a a a hc q=>by
 have h1:(0:Int)<j:=hc.1
 have h2:j<1267650600228229401496703205376:=hc.2
 have h3:j.natAbs.log2<100:=(aay (by lia)).mpr (Nat.lt_of_lt_of_eq (m:=1267650600228229401496703205376) (by lia) (by decide))
 exact floordiv_int (by lia) (by rw[aaI i (by lia)];exact q) (.inl (PyProof.noPylong_of_log2 (by lia)))
def CY:R2:=fun x y H Q=>match x,y with|.int i,.int j=>(0<j/\j<1267650600228229401496703205376)/\Q (.int (i/j)) H|_,_=>False
def Ie:OpR X (binaryOp .FloorDiv) CY:=Jp.imp fun x y H Q q=>by
 unfold CY at q
 split at q
 ·exact⟨_,_,rfl,rfl,q.1,q.2⟩
 ·exact q.elim
end
section
variable {α:Type}{l:List α}
def Kg (h:l.length=0):l=[]:=YY.mp h
def oP (h:l.length=1):∃a0,l=[a0]:=by
 cases l with
 |nil=>simp at h
 |cons a l=>
  obtain rfl:=Kg (l:=l) (by simpa using h)
  exact⟨a,rfl⟩
def KF (h:l.length=2):∃a0 a1,l=[a0,a1]:=by
 cases l with
 |nil=>simp at h
 |cons a l=>
  obtain⟨b0,rfl⟩:=oP (l:=l) (by simpa using h)
  exact⟨a,b0,rfl⟩
def KS (h:l.length=3):∃a0 a1 a2,l=[a0,a1,a2]:=by
 cases l with
 |nil=>simp at h
 |cons a l=>
  obtain⟨b0,b1,rfl⟩:=KF (l:=l) (by simpa using h)
  exact⟨a,b0,b1,rfl⟩
def KP (h:l.length=4):∃a0 a1 a2 a3,l=[a0,a1,a2,a3]:=by
 cases l with
 |nil=>simp at h
 |cons a l=>
  obtain⟨b0,b1,b2,rfl⟩:=KS (l:=l) (by simpa using h)
  exact⟨a,b0,b1,b2,rfl⟩
def Lf (h:l.length=5):∃a0 a1 a2 a3 a4,l=[a0,a1,a2,a3,a4]:=by
 cases l with
 |nil=>simp at h
 |cons a l=>
  obtain⟨b0,b1,b2,b3,rfl⟩:=KP (l:=l) (by simpa using h)
  exact⟨a,b0,b1,b2,b3,rfl⟩
def Rx (h:l.length=6):∃a0 a1 a2 a3 a4 a5,l=[a0,a1,a2,a3,a4,a5]:=by
 cases l with
 |nil=>simp at h
 |cons a l=>
  obtain⟨b0,b1,b2,b3,b4,rfl⟩:=Lf (l:=l) (by simpa using h)
  exact⟨a,b0,b1,b2,b3,b4,rfl⟩
end
def aZ.le {A:Wj}{m n:Nat}(h:aZ m A)(d:n<=m:=by first|decide|lia):aZ n A:=h.mono d
def scF {N P:List Str}{sc:Scope}(h1:sc.kind=.function:=by rfl)(h2:sc.isCoroutine=false:=by rfl)(h3:sc.isGenerator=false:=by rfl)(h4:N.Nodup:=by decide+kernel)(h5:N.take P.length=P:=by rfl)
 (h6:∀x∈P,sc.names.lookup x=some .local\/sc.names.lookup x=some .cell:=by decide+kernel)(h7:∀y∈sc.names,y.2≠.free:=by decide+kernel):aq N P sc:=⟨h1,h2,h3,h4,h5,h6,h7⟩
structure Fm (K:W.Frag)(mg:Str->Option pz)(x qual:Str)(st:Stmt)(a:Addr)(d:Gt)(ps:List Str):Prop where
 f:Fun K x qual st a d
 m:mg x=some (.ref a)
 b:bX K d ps []
section
variable {P:VM}{w:Wm}{K:W.Frag}{mg:Str->Option pz}{base h:Heap}{x qual:Str}{st:Stmt}{a:Addr}{d:Gt}{ps:List Str}
def Fun.bt {p:Str}(F:Fun K x qual st a d)(hb:∀(kV doc pm:pz)(an:Option Addr)(cdv ct v:pz),bindArgs (W.fnOf x qual (dR st) (bv st) (ai st) .none kV doc pm an cdv ct) ⟨[v],[]⟩=pure [(p,v)]:=by intros;rfl)(s:Bn)(v:pz):abB s d ⟨[v],[]⟩ [(p,v)]:=by
 obtain⟨oc,od,kV,doc,pm,an,cdv,ct,osl,rfl,lk,hcd⟩:=F.ex
 exact .of_eq (hb kV doc pm an cdv ct v)
def Fun.b0 (F:Fun K x qual st a d)(hb:∀(kV doc pm:pz)(an:Option Addr)(cdv ct:pz),bindArgs (W.fnOf x qual (dR st) (bv st) (ai st) .none kV doc pm an cdv ct) ⟨[],[]⟩=pure (ZQ [] []):=by intros;rfl):bX K d [] []:=F.binds fun kV doc pm an cdv ct us hl=>by
 obtain rfl:=L2.Kg hl
 exact hb kV doc pm an cdv ct
def Fun.b1 {p0:Str}(F:Fun K x qual st a d)(hb:∀(kV doc pm:pz)(an:Option Addr)(cdv ct u0:pz),bindArgs (W.fnOf x qual (dR st) (bv st) (ai st) .none kV doc pm an cdv ct) ⟨[u0],[]⟩=pure (ZQ [p0] [u0]):=by intros;rfl):bX K d [p0] []:=F.binds fun kV doc pm an cdv ct us hl=>by
 obtain⟨u0,rfl⟩:=L2.oP hl
 exact hb kV doc pm an cdv ct u0
def Fun.b2 {p0 p1:Str}(F:Fun K x qual st a d)(hb:∀(kV doc pm:pz)(an:Option Addr)(cdv ct u0 u1:pz),bindArgs (W.fnOf x qual (dR st) (bv st) (ai st) .none kV doc pm an cdv ct) ⟨[u0,u1],[]⟩=pure (ZQ [p0,p1] [u0,u1]):=by intros;rfl):bX K d [p0,p1] []:=F.binds fun kV doc pm an cdv ct us hl=>by
 obtain⟨u0,u1,rfl⟩:=L2.KF hl
 exact hb kV doc pm an cdv ct u0 u1
def Fun.b3 {p0 p1 p2:Str}(F:Fun K x qual st a d)(hb:∀(kV doc pm:pz)(an:Option Addr)(cdv ct u0 u1 u2:pz),bindArgs (W.fnOf x qual (dR st) (bv st) (ai st) .none kV doc pm an cdv ct) ⟨[u0,u1,u2],[]⟩=pure (ZQ [p0,p1,p2] [u0,u1,u2]):=by intros;rfl):bX K d [p0,p1,p2] []:=F.binds fun kV doc pm an cdv ct us hl=>by
 obtain⟨u0,u1,u2,rfl⟩:=L2.KS hl
 exact hb kV doc pm an cdv ct u0 u1 u2
def Fun.b4 {p0 p1 p2 p3:Str}(F:Fun K x qual st a d)(hb:∀(kV doc pm:pz)(an:Option Addr)(cdv ct u0 u1 u2 u3:pz),bindArgs (W.fnOf x qual (dR st) (bv st) (ai st) .none kV doc pm an cdv ct) ⟨[u0,u1,u2,u3],[]⟩=pure (ZQ [p0,p1,p2,p3] [u0,u1,u2,u3]):=by intros;rfl):bX K d [p0,p1,p2,p3] []:=F.binds fun kV doc pm an cdv ct us hl=>by
 obtain⟨u0,u1,u2,u3,rfl⟩:=L2.KP hl
 exact hb kV doc pm an cdv ct u0 u1 u2 u3
def Fun.b5 {p0 p1 p2 p3 p4:Str}(F:Fun K x qual st a d)(hb:∀(kV doc pm:pz)(an:Option Addr)(cdv ct u0 u1 u2 u3 u4:pz),bindArgs (W.fnOf x qual (dR st) (bv st) (ai st) .none kV doc pm an cdv ct) ⟨[u0,u1,u2,u3,u4],[]⟩=pure (ZQ [p0,p1,p2,p3,p4] [u0,u1,u2,u3,u4]):=by intros;rfl):bX K d [p0,p1,p2,p3,p4] []:=F.binds fun kV doc pm an cdv ct us hl=>by
 obtain⟨u0,u1,u2,u3,u4,rfl⟩:=L2.Lf hl
 exact hb kV doc pm an cdv ct u0 u1 u2 u3 u4
def Fun.b6 {p0 p1 p2 p3 p4 p5:Str}(F:Fun K x qual st a d)(hb:∀(kV doc pm:pz)(an:Option Addr)(cdv ct u0 u1 u2 u3 u4 u5:pz),bindArgs (W.fnOf x qual (dR st) (bv st) (ai st) .none kV doc pm an cdv ct) ⟨[u0,u1,u2,u3,u4,u5],[]⟩=pure (ZQ [p0,p1,p2,p3,p4,p5] [u0,u1,u2,u3,u4,u5]):=by intros;rfl):bX K d [p0,p1,p2,p3,p4,p5] []:=F.binds fun kV doc pm an cdv ct us hl=>by
 obtain⟨u0,u1,u2,u3,u4,u5,rfl⟩:=L2.Rx hl
 exact hb kV doc pm an cdv ct u0 u1 u2 u3 u4 u5
def Fun.okS {CX:CXT}{N:List Str}{k:Nat}{sp:Sp}{t:TS}(F:Fun K x qual st a d)(S:aq N ps (ai st))(len:∀vs H Q E,sp vs H Q E->vs.length=ps.length)
  (hrd:∀(vs:List V)(H:Hp)(Q:VK)(E:XK),sp vs H Q E->t {nx:=fun b H'=>Q .non H',rt:=Q} (du N vs) H)
  (hq:∀(cdv:pz)(A:Wj)(outer:List Env)(s:Bn)(H:Hp)(E:XK),aZ k (A.deeper (envOfC qual (ai st) s.heap.objs.size a cdv))->QSs (gb CX P w K mg base N qual (ai st) a cdv A outer s H E).nox (bv st) t):cy P w K mg base CX (k+1) a d ps sp:=
 F.okN S len fun cdv A outer s H vs Q E hr h=>⟨t,(hq cdv A outer s H E hr).out,hrd vs H Q E h⟩
end
def Oj (ks:tR)(C:Addr)(m:Str)(E:St->XK)(ta:TE)(t:TA):TE:=fun σ H Q=>ta σ H fun x H1=>∃a dx fs f,x=.ref a/\H1 a=some (.ins C dx fs)/\fs.lookup m=some (.ref f)/\(∃ts∈ks,∃cs cvs,fj H1 f ts.1 cs cvs)/\t σ H1 fun vs H2=>ER ks f vs H2 Q (E σ)
section
variable {X:Cx}{pins:List (Addr×Obj)}{σ:St}{H:Hp}{s:Bn}{A:Wj}{E:pz->Bn->Prop}{a C dx:Addr}{fs:List (Str×V)}{v:V}
def FK {m:Str}{pl:Sem Bool}{Q:pz×List pz->Bn->Prop}(I:Inv X pins σ H s)(e:H a=some (.ins C dx fs))(c:Cls X.K C)(n:aH X.K C m)(l:fs.lookup m=some v)
  (h:∀u s',Inv X pins σ H s'->aL v u->Q (u,[]) s'):wpAny (model X.prog X.w) A (getMethod (.ref a) m pl) Q E s:=by
 obtain⟨mA,O,r,b,b,b⟩:=jw I.hok e
 obtain⟨od,J,hl⟩:=O.look
 exact W.method_usual (r:=none) I.kIn J (W.plainGet_of (c.get m)).1 (W.plainGet_of (c.get m)).2 n rfl (xl I e c n l h)
end
section
variable {X:Cx}{k:Nat}{C:Addr}{E:St->XK}{m:Str}{pos apos:Pos}{e o:Expr}{es:List Expr}{ta:TE}{t:TA}
def Nn {pl:Sem Bool}{ks:tR}(hk:zf X.prog X.w X.K X.mg X.base k ks)(hr:aZ k X.A)(hx:di (CX1 X.prog X.w) X E)(he:QE X o ta)(c:Cls X.K C)(n:aH X.K C m)(ha:QA X (e::es) t)
  (hs:aM (e::es)=true:=by rfl)
  (ht:eval (.Call (.Attribute o m apos) (e::es) [] pos) X.env=(do
   let ov<-eval o X.env
   standAt apos.atName
   let (f,first)<-holding [ov] (getMethod ov m pl)
   callWith pos f first (backTo pos (starEach (e::es) X.env)) (backToKw pos (keywordEach [] X.env))):=by rfl):
  QE X (.Call (.Attribute o m apos) (e::es) [] pos) (Oj ks C m E ta t):=⟨fun pins s σ H Q I h=>by
 have h':(bo e&&aM es)=true:=hs
 refine W.methodCall_KW (pl:=pl) (thn (he.out pins s σ H _ I h) fun u s1 ⟨x,H1,I1,rx,a,dx,fs,f,ex,ea,l,⟨ts,hts,cs,cvs,ca⟩,q⟩=>?_) ht
 subst ex
 obtain rfl:u=Lt a:=rx
 refine FK I1 ea c n l fun w s2 I2 rw2=>?_
 obtain rfl:w=Lt f:=rw2
 refine W.callWith_F (xH I2.hok ca) (thn (ha.out pos pins s2 σ H1 _ I2 q) fun us s3 ⟨vs,H2,I3,rv,ts2,hm2,cs2,cvs2,ca2,hl,hsp⟩=>⟨xH I3.hok ca2,?_⟩)
  (aQ (Gn.mp h').1 es X.env) (bI (Gn.mp h').2)
 refine abo (YA ((hk ts2 hm2).run X.A X.stack s3 H2 f cs2 us vs cvs2 Q (E σ) hr I3.env0 ca2 rv hl hsp) fun r s' hq=>?_)
 cases r with
 |error e=>exact hx pins σ H2 s3 e s' I3 hq
 |ok fl=>
  cases fl with
  |ret u=>exact I3.after hq
  |next=>exact Wg hq
  |brk=>exact Wg hq
  |cont=>exact Wg hq⟩
end
end L2
namespace HT
open PySem PyProof.Rows
def Gp:typeLookup (.type "list_reverseiterator") "__len__"=pure none:=by rw[ZD,YB];kernel_rfl
def IB:typeLookup (.type "list_reverseiterator") "__length_hint__"=pure (some (.builtin "list_reverseiterator.__length_hint__")):=by rw[ZD,YB];kernel_rfl
section
variable {prog:VM}{w:Wm}{A:Wj}{s:Bn}{R:abp->Bn->Prop}
variable {I:Addr}{fp wr:List Addr}{G:Array aaO->Array aaO->Prop}{n:Nat}{P:Nat->pz->Prop}{St:Nat->Bn->Prop}
def Fw (W:WalksS prog w A.in1 I fp wr G n P St)(hT:∀i s,St i s->s.TypeIs (.ref I) "list_reverseiterator")(S:Addr)(res:pz)(c₀:Nat)(hst:St 0 s)(hSf:S∉fp)(hI:I∈fp)
  (hS:s.heap.get? S=some {cls:=.type "list",data:=.seq #[] c₀})
  (hR:∀s' acc' c',Moved (S::wr) G s s'->s'.heap.get? S=some {cls:=.type "list",dict:=none,data:=.seq acc' c',slots:=#[]}->ItemsOf P acc' n->R (.ok (.ret res)) s')(hn:n<=sizeLine):
  wpAny (model prog w) A.in1 (Wd (.ref S) (.ref I) res)
   (fun fin s'=>match fin with|.done f=>R (.ok f) s'|.again c'=>c'.quiet=true/\codeAny (model prog w) A c' R s') (fun e s'=>R (.error e) s') s:=by
 have hSI:S≠I:=fun e=>hSf (e▸hI)
 have h1:XI (.ref S) (.ref I)=false:=by simp[XI,hSI]
 unfold Wd
 refine pv (wpAny_typeOf (hT 0 _ hst) ?_)
 rw[if_neg (by rw[h1];decide)]
 refine pv (W.self 0 _ _ _ hst ?_)
 refine pv (WN ?_)
 unfold Zv
 refine pv (YR (hT 0 _ hst) Gp ?_)
 show wpAny _ A.in1 (specialOf (Lt I) (WL "__length_hint__")>>=_) _ _ _
 refine pv (YR (hT 0 _ hst) IB ?_)
 generalize hid:("list_reverseiterator.__length_hint__":String)=id0
 wp_delta
 rw[show splitId id0=some ("list_reverseiterator","__length_hint__")from by subst hid;decide+kernel]
 subst hid
 refine pv (wpAny_isInstance (b:=true) (hT 0 _ hst) (by rw[abe];kernel_rfl) ?_)
 refine Vt ?_
 rw[if_neg (by decide)]
 exact Vt ⟨aak Xa _,codeAny_extend_loopS W hn _ hSf _ n 0 _ _ _ rfl (VW _) hst hS (ItemsOf.nil P) fun s' acc' c' hm hS' hacc=>hR s' acc' c' hm hS' hacc⟩
def Au (W:WalksS prog w A.in1 I fp wr G n P St)(hT:∀i s,St i s->s.TypeIs (.ref I) "list_reverseiterator")(S:Addr)(hst:St 0 s)(hSf:S∉fp)(hI:I∈fp)
  (hS:s.heap.get? S=some {cls:=.type "list",data:=.seq #[]})
  (hR:∀s' acc' c',Moved (S::wr) G s s'->s'.heap.get? S=some {cls:=.type "list",dict:=none,data:=.seq acc' c',slots:=#[]}->ItemsOf P acc' n->R (.ok (.ret .none)) s')(hn:n<=sizeLine):
  wpAny (model prog w) A.in1 (Zb.«list.__init__» ⟨[.ref S,.ref I],[]⟩)
   (fun fin s'=>match fin with|.done f=>R (.ok f) s'|.again c'=>c'.quiet=true/\codeAny (model prog w) A c' R s') (fun e s'=>R (.error e) s') s:=by
 show wpAny _ A.in1 (do let old<-XR (.ref S);aaa (.ref S) (fun a=>#[]);letGo old.toList.reverse;Wd (.ref S) (.ref I) .none) _ _ s
 refine pv ?_
 unfold XR
 refine pv (Xj hS rfl (Vt ?_))
 show wpAny _ A.in1 (updateSeq S (fun a=>#[])>>=fun a=>letGo (#[]:Array pz).toList.reverse>>=fun a=>Wd (.ref S) (.ref I) .none) _ _ s
 refine pv (YQ hS rfl ?_)
 have hS₂:=WZ (Wy (fun a=>(#[]:Array pz))) hS rfl
 have oth:∀b o,b≠S->s.heap.get? b=some o->(s.heap.update S (Wy (fun a=>(#[]:Array pz)))).get? b=some o:=
  fun b o hb e=>(WT _ _ (ab hb)).trans e
 refine pv (aab ?_)
 refine Fw (hn:=hn) W hT S .none _ (W.frame 0 s _ s.toks hst (sn _) fun b hb o e=>oth b o (fun h=>hSf (h▸hb)) e) hSf hI hS₂ fun s' acc' c' hm hS' hacc=>?_
 exact hR s' acc' c' (Moved.trans W.gtrans ((Moved.refl W.grefl).then_heap (sn _) fun b o hb e=>oth b o (fun h=>hb (h▸cW)) e) hm) hS' hacc
end
section
variable {prog:VM}{w:Wm}{A:Wj}{E:pz->Bn->Prop}{s:Bn}
variable {I:Addr}{fp wr:List Addr}{G:Array aaO->Array aaO->Prop}{n:Nat}{P:Nat->pz->Prop}{St:Nat->Bn->Prop}
def Ax {Q:pz->Bn->Prop}(W:WalksS prog w A.in1.in1 I fp wr G n P St)(hT:∀i s,St i s->s.TypeIs (.ref I) "list_reverseiterator")(hst:St 0 s)(hfp:∀b∈fp,b<s.heap.objs.size)(hI:I∈fp)
  (hQ:∀s' acc' c',Moved (s.heap.objs.size::wr) G {s with heap:=s.heap.push {cls:=.type "list",data:=.seq #[]}} s'->
   s'.heap.get? s.heap.objs.size=some {cls:=.type "list",dict:=none,data:=.seq acc' c',slots:=#[]}->ItemsOf P acc' n->Q (.ref s.heap.objs.size) s')(hn:n<=sizeLine):
  wpAny (model prog w) A (call (.type "list") [.ref I]) Q E s:=by
 have hSf:s.heap.objs.size∉fp:=fun hm=>Wz _ (hfp _ hm)
 refine callType_codes (Q₁:=fun obj s₁=>obj=.ref s.heap.objs.size/\s₁={s with heap:=s.heap.push {cls:=.type "list",data:=.seq #[]}}) abY (abh _) abi
  (code_list_new _ ⟨rfl,rfl⟩) fun obj s₁ h₁=>?_
 obtain⟨rfl,rfl⟩:=h₁
 have hS:(s.heap.push {cls:=.type "list",data:=.seq #[]}).get? s.heap.objs.size=some {cls:=.type "list",data:=.seq #[]}:=Vr _ rfl
 refine⟨⟨_,hS,rfl⟩,aa3 _ _,Au (hn:=hn) W hT _ (W.frame 0 s _ s.toks hst (sn _) fun b a o e=>gV _ e) hSf hI hS fun s' acc' c' hm hS' hacc=>?_⟩
 exact⟨rfl,hQ s' acc' c' hm hS' hacc⟩
end
end HT
namespace L2
open PySem PySem.Spec PyProof.Rows
def JR (K:W.Frag):List V->Hp->VK->Prop:=fun xs H Q=>∃c ys,xs=[.ref c]/\SqL K H c ys/\∀l,H l=none->Q (.ref l) (upd H l (.lst ys.reverse))
section
variable {X:Cx}{pins:List (Addr×Obj)}{σ:St}{H:Hp}{s:Bn}
def Jm {Q:VK}{c:Addr}{ys:List V}(hc:X.calm=true)(I:Inv X pins σ H s)(hq:SqL X.K H c ys)(q:∀l,H l=none->Q (.ref l) (upd H l (.lst ys.reverse))):
  wpAny (model X.prog X.w) X.A (call (.type "reversed") [.ref c]) (fun u s2=>wpAny (model X.prog X.w) X.A (call (.type "list") [u]) (EP X pins σ Q) X.xe s2) X.xe s:=by
 obtain⟨its,r',pl,hz⟩:=I.list hq
 have hlen:=r'.length
 have hl:=pl.isList
 refine acv hl ?_
 have hcs:c<s.heap.objs.size:=by obtain⟨o,ho,a⟩:=hl;exact Vq ho
 have hne:c≠s.heap.objs.size:=VD hcs
 have W:=(Walks.listRev (prog:=X.prog) (w:=X.w) (A:=X.A.in1.in1) (I.ok.hd hc) s.heap.objs.size c hne its.toArray).toS
 have hl2:(s.heap.push (revObj c ((its.toArray.size:Int)- 1))).IsList c its.toArray:=hl.at fun o e=>gV _ e
 have hz':its.toArray.size<=sizeLine:=by rw[Vv];lia
 have hsz:(s.heap.push (revObj c ((its.toArray.size:Int)- 1))).objs.size=s.heap.objs.size+1:=WD _ _
 refine HT.Ax (s:={s with heap:=s.heap.push (revObj c ((its.toArray.size:Int)- 1))}) W (fun i s3 st=>st.2.1.typeIs) ⟨VW _,⟨_,Vr _ rfl,rfl,by show abt _=abt _;simp⟩,hl2⟩ (fun b hb=>?_) (by simp) (fun s' acc' c' hm hS' hacc=>?_) hz'
 ·show b<(s.heap.push _).objs.size
  rw[hsz]
  rcases tx.mp hb with z|z
  ·rw[z];exact Wx _
  ·rw[VH.mp z];exact Ym hcs
 ·have e1:acc'.toList=its.reverse:=by
   refine abS fun j=>?_
   by_cases hj:j<its.length
   ·have hj2:j<acc'.size:=by rw[hacc.1,Vv];exact hj
    have ea:acc'[j]?=some acc'[j]:=Wp hj2
    have hp:its.toArray[its.toArray.size- 1- j]?=some acc'[j]:=hacc.2 j _ ea
    rw[Xm,ea,aa9 hj,<-hp]
    simp
   ·rw[Wa (by rw[Xg,hacc.1,Vv];lia),Wa (by simp;lia)]
  have hw:∀b o,s.heap.get? b=some o->s'.heap.get? b=some o:=fun b o e=>by
   have hb:=Vq e
   refine hm.heap b o (fun z=>?_) (gV _ (gV _ e))
   rcases tx.mp z with z|z
   ·have z:b=(s.heap.push (revObj c ((its.toArray.size:Int)- 1))).objs.size:=z
    rw[hsz]at z
    rw[z]at hb
    exact Wz _ (abk (Wx _) hb)
   ·rw[VH.mp z]at hb
    exact Wz _ hb
  have es:s'={s with heap:=s'.heap,toks:=s'.toks}:=by
   have h1:=hm.gens
   have h2:=hm.drawn
   have h3:=hm.os
   cases s'
   subst h1;subst h2;subst h3
   rfl
  have hS2:s'.heap.get? (s.heap.objs.size+1)=some {cls:=.type "list",dict:=none,data:=.seq its.reverse.toArray c',slots:=#[]}:=by
   rw[<-hsz,hS',<-e1]
  have new:ba X.prog X.w (upd H (s.heap.objs.size+1) (.lst ys.reverse)) s'.heap (s.heap.objs.size+1) (.lst ys.reverse):=⟨by rw[Zw];exact hz,its.reverse,c',r'.reverse,hS2⟩
  refine⟨.ref (s.heap.objs.size+1),upd H (s.heap.objs.size+1) (.lst ys.reverse),?_,?_,q _ (I.hok.fresh (aaz _))⟩
  ·rw[es];exact I.laid hw (aaz _) new
  ·show Lt _=Lt _
   rw[hsz]
end
section
variable {X:Cx}{a:Expr}{t:TA}{p1 p2 pos1 pos2:Pos}
def Eb:bootBuiltins "list"=some (.type "list"):=by decide+kernel
def Hg (hm1:X.mg "list"=none)(hm2:X.mg "reversed"=none)(hc:X.calm=true)(ha:QA X [a] t)(hg1:Gl X "list":=by rfl)(hg2:Gl X "reversed":=by rfl)(hs:aM [a]=true:=by rfl):
  QE X (.Call (.Name "list" p1) [.Call (.Name "reversed" p2) [a] [] pos2] [] pos1) (tCB (JR X.K) t):=⟨fun pins s σ H Q I h=>by
 have h':(bo a&&aM [])=true:=hs
 refine Wn (fF I hg1 hm1 Eb ?_ (by decide) (by decide))
 refine We ?_ rfl rfl
 show wpAny _ _ (spliced ((false,eval (.Call (.Name "reversed" p2) [a] [] pos2) X.env)::backTo pos1 (starEach [] X.env))) _ _ s
 refine ZK ?_
 refine Wn (fF I hg2 hm2 uK ?_ (by decide) (by decide))
 refine We (thn (ha.out pos2 pins s σ H _ I h) fun us s1 ⟨vs,H1,I1,r1,q1⟩=>?_)
  (aQ (Gn.mp h').1 [] X.env) (bI (Gn.mp h').2)
 obtain⟨c,ys,rfl,hq,q⟩:=q1
 obtain⟨u,rfl,ru⟩:=eC r1
 subst ru
 refine VT (Jm hc I1 hq q) (fun u s2 z=>?_) fun b b z=>z
 exact ZX z⟩
end
end L2
namespace HT
open PySem PyProof.Rows
noncomputable abbrev oN (f0 f1:pz)(TI TO:Addr):Obj:={cls:=.type "zip",dict:=none,data:=.fields #[f0,f1,.bool false,.ref TI,.ref TO],slots:=#[]}
structure gG (h:Heap)(z TI TO i1 i2 l t S:Addr)(k:Nat):Prop where
 z:(k=0/\h.get? z=some (oN .none (.bool false) TI TO))\/∃T f oT,h.get? z=some (oN (rawInt (T:Addr)) (.bool f) TI TO)/\h.get? T=some oT/\T≠z/\T≠TO/\T≠i1/\T≠i2/\T≠S
 ti:YD h TI (.ref i1) (.ref i2)
 to:∃a b,YD h TO a b
 j1:h.IsListIter i1 l k
 j2:h.IsTupleIter i2 t k
section
variable {prog:VM}{w:Wm}{A:Wj}{E:pz->Bn->Prop}{s:Bn}
def Eu {z TI TO T:Addr}{f:Bool}{oT:Obj}(hz:s.heap.get? z=some (oN (rawInt T) (.bool f) TI TO))(hTt:s.heap.get? T=some oT):
  wpAny (model prog w) A (VQ (.ref z)) (fun b s1=>b=false/\∃h₁,s1={s with heap:=h₁}/\h₁.get? z=some (oN (rawInt T) (.bool true) TI TO)/\XF z s.heap h₁) (fun a a=>False) s:=by
 unfold VQ
 refine pv (WO hz rfl (x:=rawInt T) rfl ?_)
 show wpAny _ _ (loadIfAlive ((T:Int).toNat) >>= _) _ _ _
 rw[Yq]
 refine pv (W.kdx_alive hTt ?_)
 simp only[Option.isNone_some,WG,if_false]
 refine pv (WO hz rfl (x:=.bool f) rfl ?_)
 cases f with
 |true=>
  rw[if_neg (show ¬((Xe true !=Xe true)=true)from VF)]
  exact Vt ⟨rfl,s.heap,rfl,hz,Heap.SameBut.refl _ _⟩
 |false=>
  rw[if_pos (show(Xe false !=Xe true)=true from rfl)]
  exact pv (XM hz (by simp) fun h₃ he₃ hs₃=>Vt ⟨rfl,h₃,rfl,he₃,hs₃⟩)
def Fj {z TI TO i1 i2 l t S:Addr}{k:Nat}{xs ys:Array pz}{x y a b:pz}{Q:Option pz->Bn->Prop}(D:Zm z TI TO i1 i2 l t)(hz:acJ s.heap z TI TO .none)(hTI:YD s.heap TI (.ref i1) (.ref i2))(hTO:YD s.heap TO a b)
  (h1:s.heap.IsListIter i1 l k)(h2:s.heap.IsTupleIter i2 t k)(ht1:s.heap.IsList l xs)(ht2:s.heap.IsTuple t ys)(hx:xs[k]? =some x)(hy:ys[k]? =some y)(hS:S<s.heap.objs.size)
  (hQ:∀h',gG h' z TI TO i1 i2 l t S (k+1)->YD h' s.heap.objs.size x y->
   (∀c o,c≠z->c≠TO->c≠i1->c≠i2->s.heap.get? c=some o->h'.get? c=some o)->Q (some (.ref s.heap.objs.size)) {s with heap:=h'}):
  wpAny (model prog w) A (pyNext (.ref z)) Q E s:=by
 have hT:s.TypeIs (.ref z) "zip":=⟨_,hz,rfl⟩
 unfold pyNext
 refine pv (aby (XB (name:=WL "__next__") hT Yg (Xd Yg hT aax ?_ (aam _))))
 show wpAny _ _ (field (.ref z) 2 >>= _) _ _ _
 refine pv (WO hz rfl (x:=.bool false) rfl ?_)
 show wpAny _ _ (field (.ref z) 3 >>= _) _ _ _
 refine pv (WO hz rfl (x:=.ref TI) rfl (pv (Xj hTI rfl ?_)))
 show wpAny _ _ (VQ (.ref z) >>= _) _ _ _
 refine pv ?_
 unfold VQ
 refine pv (WO hz rfl (x:=.none) rfl (Vt ?_))
 simp only[if_true]
 refine pv (aau (pv (WO hz rfl (x:=.ref TO) rfl (pv (XM hz (by simp) fun ha hza hsa=>pv ?_)))))
 replace hza:acJ ha z TI TO .ellipsis:=hza
 simp only[ab3,aci,Yb,YN]
 refine pv (pv (abw ?_))
 show wpAny _ _ (Wi (.ref i1) >>= _) _ _ _
 refine pv (abJ (h1.at fun o e=>hsa.extBut _ _ D.i1z e) (ht1.at fun o e=>hsa.extBut _ _ D.l1z e) hx fun hb h1b hsb=>Vt ?_)
 have hTOb:YD hb TO a b:=hsb.extBut _ _ D.TOi1 (hsa.extBut _ _ D.TOz hTO)
 refine pv (Xj hTOb rfl (pv (ab8 hTOb fun hc hTOc hsc=>?_)))
 replace hTOc:YD hc TO x b:=hTOc
 refine pv (aab (Vt ?_))
 refine pv (pv (abw ?_))
 show wpAny _ _ (Wi (.ref i2) >>= _) _ _ _
 refine pv (Bg (h2.at fun o e=>hsc.extBut _ _ D.TOi2.symm (hsb.extBut _ _ D.i12.symm (hsa.extBut _ _ D.i2z e)))
  (ht2.at fun o e=>hsc.extBut _ _ D.l2TO (hsb.extBut _ _ D.l2i1 (hsa.extBut _ _ D.l2z e))) hy fun hd h2d hsd=>Vt ?_)
 have hTOd:YD hd TO x b:=hsd.extBut _ _ D.TOi2 hTOc
 refine pv (Xj hTOd rfl (pv (ab8 hTOd fun he hTOe hse=>?_)))
 replace hTOe:YD he TO x y:=hTOe
 refine pv (aab (Vt (Vt ?_)))
 refine pv (Xj hTOe rfl (pv (abd ?_)))
 have hsz:he.objs.size=s.heap.objs.size:=by rw[hse.1,hsd.1,hsc.1,hsb.1,hsa.1]
 have hze:acJ he z TI TO .ellipsis:=hse.extBut _ _ D.TOz.symm (hsd.extBut _ _ D.i2z.symm (hsc.extBut _ _ D.TOz.symm (hsb.extBut _ _ D.i1z.symm hza)))
 have hke:∀c o,c≠z->c≠TO->c≠i1->c≠i2->s.heap.get? c=some o->he.get? c=some o:=fun c o c1 c2 c3 c4 e=>
  hse.extBut _ _ c2 (hsd.extBut _ _ c4 (hsc.extBut _ _ c2 (hsb.extBut _ _ c3 (hsa.extBut _ _ c1 e))))
 have h1e:he.IsListIter i1 l (k+1):=h1b.at fun o e=>hse.extBut _ _ D.TOi1.symm (hsd.extBut _ _ D.i12 (hsc.extBut _ _ D.TOi1.symm e))
 have h2e:he.IsTupleIter i2 t (k+1):=h2d.at fun o e=>hse.extBut _ _ D.TOi2.symm e
 show wpAny _ _ (YF (.ref z) (.ref he.objs.size) >>= _) _ _ _
 refine pv ?_
 unfold YF
 have hzf:acJ (he.push {cls:=.type "tuple",data:=.seq #[x,y]}) z TI TO .ellipsis:=gV _ hze
 refine pv (XM hzf (by simp) fun hg hzg hsg=>?_)
 replace hzg:acJ hg z TI TO (rawInt he.objs.size):=hzg
 refine XM hzg (by simp) fun hh hzh hsh=>?_
 replace hzh:acJ hh z TI TO (rawInt he.objs.size):=hzh
 have up:∀c o,c≠z->he.get? c=some o->hh.get? c=some o:=fun c o c1 e=>hsh.extBut _ _ c1 (hsg.extBut _ _ c1 (gV _ e))
 have hTh:YD hh he.objs.size x y:=hsh.extBut _ _ (Xx (Vq hze)) (hsg.extBut _ _ (Xx (Vq hze)) (Vr _ rfl))
 have n1:he.objs.size≠z:=Xx (Vq hze)
 have n2:he.objs.size≠TO:=Xx (Vq hTOe)
 have n3:he.objs.size≠i1:=by obtain⟨o,eo,d⟩:=h1e;exact Xx (Vq eo)
 have n4:he.objs.size≠i2:=by obtain⟨o,eo,d⟩:=h2e;exact Xx (Vq eo)
 have n5:he.objs.size≠S:=by rw[hsz];exact Xx hS
 rw[hsz]at hzh hTh n1 n2 n3 n4 n5
 have fin:=hQ hh ⟨.inr ⟨s.heap.objs.size,false,_,hzh,hTh,n1,n2,n3,n4,n5⟩,up _ _ D.TIz (hke _ _ D.TIz D.TITO D.TIi1 D.TIi2 hTI),⟨x,y,up _ _ D.TOz hTOe⟩,h1e.at fun o e=>up _ o D.i1z e,h2e.at fun o e=>up _ o D.i2z e⟩ hTh fun c o c1 c2 c3 c4 e=>up c o c1 (hke c o c1 c2 c3 c4 e)
 rw[<-hsz]at fin
 exact Vt ⟨_,rfl,Vt fin⟩
def GX {z TI TO i1 i2 l t S T:Addr}{f:Bool}{oT:Obj}{k:Nat}{xs ys:Array pz}{x y:pz}{Q:Option pz->Bn->Prop}(D:Zm z TI TO i1 i2 l t)(hz:s.heap.get? z=some (oN (rawInt T) (.bool f) TI TO))(hTt:s.heap.get? T=some oT)
  (nT:T≠z/\T≠TO/\T≠i1/\T≠i2/\T≠S)(hTI:YD s.heap TI (.ref i1) (.ref i2))(hTO:∃a b,YD s.heap TO a b)
  (h1:s.heap.IsListIter i1 l k)(h2:s.heap.IsTupleIter i2 t k)(ht1:s.heap.IsList l xs)(ht2:s.heap.IsTuple t ys)(hx:xs[k]? =some x)(hy:ys[k]? =some y)
  (hQ:∀h',gG h' z TI TO i1 i2 l t S (k+1)->YD h' s.heap.objs.size x y->
   (∀c o,c≠z->c≠TO->c≠i1->c≠i2->s.heap.get? c=some o->h'.get? c=some o)->Q (some (.ref s.heap.objs.size)) {s with heap:=h'}):
  wpAny (model prog w) A (pyNext (.ref z)) Q E s:=by
 have hT:s.TypeIs (.ref z) "zip":=⟨_,hz,rfl⟩
 unfold pyNext
 refine pv (aby (XB (name:=WL "__next__") hT Yg (Xd Yg hT aax ?_ (aam _))))
 show wpAny _ _ (field (.ref z) 2 >>= _) _ _ _
 refine pv (WO hz rfl (x:=.bool false) rfl ?_)
 show wpAny _ _ (field (.ref z) 3 >>= _) _ _ _
 refine pv (WO hz rfl (x:=.ref TI) rfl (pv (Xj hTI rfl ?_)))
 show wpAny _ _ (VQ (.ref z) >>= _) _ _ _
 refine pv (VT (Eu hz hTt) (fun b s1 hb=>?_) fun d d e=>e.elim)
 obtain⟨rfl,ha,rfl,hza,hsa⟩:=hb
 simp only[WG,if_false]
 refine pv ?_
 rw[<-abu]
 simp only[Yb,YN]
 refine pv (pv (WN ?_))
 show wpAny _ _ (Wi (.ref i1) >>= _) _ _ _
 refine pv (abJ (h1.at fun o e=>hsa.extBut _ _ D.i1z e) (ht1.at fun o e=>hsa.extBut _ _ D.l1z e) hx fun hb h1b hsb=>Vt (Vt ?_))
 refine pv (pv (WN ?_))
 show wpAny _ _ (Wi (.ref i2) >>= _) _ _ _
 refine pv (Bg (h2.at fun o e=>hsb.extBut _ _ D.i12.symm (hsa.extBut _ _ D.i2z e)) (ht2.at fun o e=>hsb.extBut _ _ D.l2i1 (hsa.extBut _ _ D.l2z e)) hy fun hd h2d hsd=>Vt (Vt (Vt ?_)))
 refine pv (abd (hsz:=by show 2<=sizeLine;decide) ?_)
 have hsz:hd.objs.size=s.heap.objs.size:=by rw[hsd.1,hsb.1,hsa.1]
 have hk:∀c o,c≠z->c≠TO->c≠i1->c≠i2->s.heap.get? c=some o->(hd.push {cls:=.type "tuple",data:=.seq #[x,y]}).get? c=some o:=fun c o c1 c2 c3 c4 e=>
  gV _ (hsd.extBut _ _ c4 (hsb.extBut _ _ c3 (hsa.extBut _ _ c1 e)))
 obtain⟨a,b,hTO⟩:=hTO
 have fin:=hQ (hd.push {cls:=.type "tuple",data:=.seq #[x,y]}) ⟨.inr ⟨T,true,oT,gV _ (hsd.extBut _ _ D.i2z.symm (hsb.extBut _ _ D.i1z.symm hza)),hk T oT nT.1 nT.2.1 nT.2.2.1 nT.2.2.2.1 hTt,nT⟩,
  hk _ _ D.TIz D.TITO D.TIi1 D.TIi2 hTI,⟨a,b,gV _ (hsd.extBut _ _ D.TOi2 (hsb.extBut _ _ D.TOi1 (hsa.extBut _ _ D.TOz hTO)))⟩,
  h1b.at fun o e=>gV _ (hsd.extBut _ _ D.i12 e),h2d.at fun o e=>gV _ e⟩ (by rw[<-hsz];exact Vr _ rfl) hk
 rw[<-hsz]at fin
 exact Vt ⟨_,rfl,Vt fin⟩
def JX {z TI TO i1 i2 l t S:Addr}{k:Nat}{xs:Array pz}{Q:Option pz->Bn->Prop}(hh:A.handled=none)(D:Zm z TI TO i1 i2 l t)(Z:gG s.heap z TI TO i1 i2 l t S k)
  (ht1:s.heap.IsList l xs)(hend:xs[k]?=none)
  (hQ:∀h',(∀c o,c≠z->c≠TO->c≠i1->c≠i2->s.heap.get? c=some o->h'.get? c=some o)->Q none {s with heap:=h'}):wpAny (model prog w) A (pyNext (.ref z)) Q E s:=by
 obtain⟨Zz,hTI,⟨a,b,hTO⟩,h1,h2⟩:=Z
 have hT:s.TypeIs (.ref z) "zip":=by rcases Zz with⟨d,e⟩|⟨d,d,d,e,d⟩<;>exact⟨_,e,rfl⟩
 have fin:∀h' e,(∀c o,c≠z->c≠TO->c≠i1->c≠i2->s.heap.get? c=some o->h'.get? c=some o)->(∃o,h'.get? e=some o/\o.cls=.type "StopIteration")->
   wpAny (model prog w) A (do if<-isInstance (.ref e) (.type "StopIteration")then pure none else throw (.ref e)) Q E {s with heap:=h'}:=fun h' e hk ⟨o,ho,hc⟩=>
  pv (wpAny_isInstance (T:="StopIteration") (b:=true) ⟨o,ho,hc⟩ isSubtype_stop (Vt (hQ _ hk)))
 unfold pyNext
 refine pv (aby (XB (name:=WL "__next__") hT Yg (Xd Yg hT aax ?_ (aam _))))
 show wpAny _ _ (field (.ref z) 2>>=_) _ _ _
 rcases Zz with⟨d,hz⟩|⟨T,f,oT,hz,hTt,nT⟩
 ·refine pv (WO hz rfl (x:=.bool false) rfl ?_)
  show wpAny _ _ (field (.ref z) 3>>=_) _ _ _
  refine pv (WO hz rfl (x:=.ref TI) rfl (pv (Xj hTI rfl ?_)))
  show wpAny _ _ (VQ (.ref z)>>=_) _ _ _
  refine pv ?_
  unfold VQ
  refine pv (WO hz rfl (x:=.none) rfl (Vt ?_))
  simp only[if_true]
  refine pv (aau (pv (WO hz rfl (x:=.ref TO) rfl (pv (XM hz (by simp) fun ha hza hsa=>pv ?_)))))
  replace hza:acJ ha z TI TO .ellipsis:=hza
  simp only[ab3,aci,Yb,YN]
  refine pv (pv (abw ?_))
  show wpAny _ _ (Wi (.ref i1)>>=_) _ _ _
  refine pv (abV hh (h1.at fun o e=>hsa.extBut _ _ D.i1z e) (ht1.at fun o e=>hsa.extBut _ _ D.l1z e) hend fun hb e hsb he=>?_)
  obtain⟨oe,hoe,hce⟩:=he
  have hzb:acJ hb z TI TO .ellipsis:=hsb _ _ D.i1z.symm hza
  have hez:e≠z:=fun x=>by subst x;rw[hzb]at hoe;obtain rfl:=VR hoe;simp at hce
  exact XM hzb (by simp) fun hc d hsc=>fin hc e (fun c o c1 d c3 d x=>hsc.extBut _ _ c1 (hsb _ _ c3 (hsa.extBut _ _ c1 x))) ⟨oe,hsc.extBut _ _ hez hoe,hce⟩
 ·refine pv (WO hz rfl (x:=.bool false) rfl ?_)
  show wpAny _ _ (field (.ref z) 3>>=_) _ _ _
  refine pv (WO hz rfl (x:=.ref TI) rfl (pv (Xj hTI rfl ?_)))
  show wpAny _ _ (VQ (.ref z)>>=_) _ _ _
  refine pv (VT (Eu hz hTt) (fun b s1 hb=>?_) fun d d e=>e.elim)
  obtain⟨rfl,ha,rfl,hza,hsa⟩:=hb
  simp only[WG,if_false]
  refine pv ?_
  rw[<-abu]
  simp only[Yb,YN]
  refine pv (pv (WN ?_))
  show wpAny _ _ (Wi (.ref i1)>>=_) _ _ _
  refine pv (abV hh (h1.at fun o e=>hsa.extBut _ _ D.i1z e) (ht1.at fun o e=>hsa.extBut _ _ D.l1z e) hend fun hb e hsb he=>?_)
  exact fin hb e (fun c o c1 d c3 d x=>hsb _ _ c3 (hsa.extBut _ _ c1 x)) he
structure sC (xs ys:Array pz)(lo:Addr)(h:Heap)(as:List Addr):Prop where
 rise:as.Pairwise (·<·)
 above:∀a∈as,lo<=a
 pairs:∀(j:Nat)(a:Addr),as[j]?=some a->∃x y,xs[j]?=some x/\ys[j]?=some y/\YD h a x y
def sC.there {xs ys:Array pz}{lo:Addr}{h:Heap}{as:List Addr}(g:sC xs ys lo h as){a:Addr}(ha:a∈as):a<h.objs.size:=by
 obtain⟨j,hj⟩:=Wu.mp ha
 obtain⟨b,b,b,b,e⟩:=g.pairs j a hj
 exact Vq e
def gG.keepS {h h':Heap}{z TI TO i1 i2 l t S:Addr}{k:Nat}(Z:gG h z TI TO i1 i2 l t S k)(nS:S≠z/\S≠TI/\S≠TO/\S≠i1/\S≠i2)(hk:∀b o,b≠S->h.get? b=some o->h'.get? b=some o):gG h' z TI TO i1 i2 l t S k:=by
 obtain⟨Zz,hTI,⟨a,b,hTO⟩,h1,h2⟩:=Z
 refine⟨?_,hk _ _ nS.2.1.symm hTI,⟨a,b,hk _ _ nS.2.2.1.symm hTO⟩,h1.at fun o e=>hk _ o nS.2.2.2.1.symm e,h2.at fun o e=>hk _ o nS.2.2.2.2.symm e⟩
 rcases Zz with⟨e,hz⟩|⟨T,f,oT,hz,hTt,nT⟩
 ·exact .inl ⟨e,hk _ _ nS.1.symm hz⟩
 ·exact .inr ⟨T,f,oT,hk _ _ nS.1.symm hz,hk _ _ nT.2.2.2.2 hTt,nT⟩
def gG.item {z TI TO i1 i2 l t S:Addr}{k:Nat}{xs ys:Array pz}{x y:pz}{Q:Option pz->Bn->Prop}(Z:gG s.heap z TI TO i1 i2 l t S k)(D:Zm z TI TO i1 i2 l t)
  (ht1:s.heap.IsList l xs)(ht2:s.heap.IsTuple t ys)(hx:xs[k]? =some x)(hy:ys[k]? =some y)(hS:S<s.heap.objs.size)
  (hQ:∀h',gG h' z TI TO i1 i2 l t S (k+1)->YD h' s.heap.objs.size x y->
   (∀c o,c≠z->c≠TO->c≠i1->c≠i2->s.heap.get? c=some o->h'.get? c=some o)->Q (some (.ref s.heap.objs.size)) {s with heap:=h'}):
  wpAny (model prog w) A (pyNext (.ref z)) Q E s:=by
 obtain⟨Zz,hTI,⟨a,b,hTO⟩,h1,h2⟩:=Z
 rcases Zz with⟨d,hz⟩|⟨T,f,oT,hz,hTt,nT⟩
 ·exact Fj D hz hTI hTO h1 h2 ht1 ht2 hx hy hS hQ
 ·exact GX D hz hTt nT hTI ⟨a,b,hTO⟩ h1 h2 ht1 ht2 hx hy hQ
end
section
variable {prog:VM}{w:Wm}{A:Wj}{s:Bn}{R:abp->Bn->Prop}{xs ys:Array pz}
def HH {z TI TO i1 i2 l t S lo:Addr}(hh:A.handled=none)(D:Zm z TI TO i1 i2 l t)(nS:S≠z/\S≠TI/\S≠TO/\S≠i1/\S≠i2)(nl:l≠S)(nt:t≠S)(below:∀b∈[z,TI,TO,i1,i2,S],b<lo)(hn:xs.size<=sizeLine)(hlen:xs.size=ys.size)(res:pz){h₁:Heap}
  (hR:∀h' tk acc c as,(∀b o,b∉[z,TI,TO,i1,i2,S]->h₁.get? b=some o->h'.get? b=some o)->h'.get? S=some {cls:=.type "list",dict:=none,data:=.seq acc c,slots:=#[]}->as.length=xs.size->sC xs ys lo h' as->
   acc.toList=as.map Lt->R (.ok (.ret res)) {s with heap:=h',toks:=tk}):
  ∀(k i:Nat)(h:Heap)(tk c:Nat)(acc:Array pz)(as:List Addr),xs.size- i=k->i<=xs.size->gG h z TI TO i1 i2 l t S i->h.IsList l xs->h.IsTuple t ys->(∀b o,b∉[z,TI,TO,i1,i2,S]->h₁.get? b=some o->h.get? b=some o)->
   h.get? S=some {cls:=.type "list",dict:=none,data:=.seq acc c,slots:=#[]}->acc.toList=as.map Lt->as.length=i->sC xs ys lo h as->lo<=h.objs.size->
   codeAny (model prog w) A (.builtin "list.extend.loop" ⟨[.ref S,.ref z,res],[]⟩) R {s with heap:=h,toks:=tk}:=by
 have inb:∀b,b∉[z,TI,TO,i1,i2,S]->b≠z/\b≠TO/\b≠i1/\b≠i2/\b≠S:=fun b hb=>by
  simp only[tx,If,or_false,not_or]at hb
  exact⟨hb.1,hb.2.2.1,hb.2.2.2.1,hb.2.2.2.2.1,hb.2.2.2.2.2⟩
 have above:∀b,lo<=b->b≠z/\b≠TO/\b≠i1/\b≠i2/\b≠S:=fun b hb=>by
  have f:∀c∈[z,TI,TO,i1,i2,S],b≠c:=fun c hc=>Xx (VB (below c hc) hb)
  exact⟨f z (by simp),f TO (by simp),f i1 (by simp),f i2 (by simp),f S (by simp)⟩
 intro k
 induction k with
 |zero=>
  intro i h tk c acc as hk hi hst hl ht hkeep hS hacc hal hG hIs
  have hin:i=xs.size:=by lia
  refine codeAny_builtin aal ?_
  rw[aaZ Xa _]
  show wpAny _ A.in1 (pyNext (.ref z) >>= _) _ _ _
  refine pv (JX (s:={s with heap:=h,toks:=tk}) (A:=A.in1) hh D hst hl (aaV (by lia)) fun h' he=>?_)
  refine Vt (hR h' tk acc c as (fun b o h1 e=>?_) (he S _ nS.1 nS.2.2.1 nS.2.2.2.1 nS.2.2.2.2 hS) (by lia) ⟨hG.rise,hG.above,fun j a hj=>?_⟩ hacc)
  ·obtain⟨n1,n2,n3,n4,n5⟩:=inb b h1
   exact he b o n1 n2 n3 n4 (hkeep b o h1 e)
  ·obtain⟨x,y,e1,e2,e3⟩:=hG.pairs j a hj
   obtain⟨n1,n2,n3,n4,n5⟩:=above a (hG.above a (VP hj))
   exact⟨x,y,e1,e2,he a _ n1 n2 n3 n4 e3⟩
 |succ k ih=>
  intro i h tk c acc as hk hi hst hl ht hkeep hS hacc hal hG hIs
  have hlt:i<xs.size:=by lia
  obtain⟨x,hx⟩:∃p,xs[i]? =some p:=⟨xs[i],Wp hlt⟩
  obtain⟨y,hy⟩:∃p,ys[i]? =some p:=⟨ys[i],Wp (by lia)⟩
  have hsz:acc.size=i:=by rw[<-Xg,hacc,Vy,hal]
  refine codeAny_builtin aal ?_
  rw[aaZ Xa _]
  show wpAny _ A.in1 (pyNext (.ref z) >>= _) _ _ _
  refine pv (gG.item (s:={s with heap:=h,toks:=tk}) (S:=S) hst D hl ht hx hy (Vq hS) fun h' hst' hT hkp=>?_)
  dsimp only at hT hkp⊢
  have hS':=hkp S _ nS.1 nS.2.2.1 nS.2.2.2.1 nS.2.2.2.2 hS
  have up:∀b o,b≠S->h'.get? b=some o->(h'.update S (Wy (·.push (Lt h.objs.size)))).get? b=some o:=fun b o hb e=>(WT _ _ (ab hb)).trans e
  obtain⟨m1,m2,m3,m4,m5⟩:=above h.objs.size hIs
  have kl:∀o,h.get? l=some o->(h'.update S (Wy (·.push (Lt h.objs.size)))).get? l=some o:=fun o e=>up l o nl (hkp l o D.l1z D.l1TO D.l1i1 D.l1i2 e)
  have kt:∀o,h.get? t=some o->(h'.update S (Wy (·.push (Lt h.objs.size)))).get? t=some o:=fun o e=>up t o nt (hkp t o D.l2z D.l2TO D.l2i1 D.l2i2 e)
  show wpAny _ A.in1 (updateSeq S (·.push (Lt h.objs.size)) >>= _) _ _ _
  refine pv ?_
  refine YQ hS' rfl (Vt ⟨aak Xa _,ih (i+1) _ tk _ (acc.push (Lt h.objs.size)) (as++[h.objs.size]) (by lia) hlt (hst'.keepS nS up) (hl.at kl) (ht.at kt)
   (fun b o h1 e=>?_) (WZ _ hS' rfl) (by rw[Array.toList_push,hacc,Zk];rfl) (by rw[VU,hal];rfl) ⟨?_,?_,?_⟩ ?_⟩) (by rw[hsz];lia) (by show(acc.push (Lt h.objs.size)).size<=sizeLine+1;rw[Array.size_push,hsz];lia)
  ·obtain⟨n1,n2,n3,n4,n5⟩:=inb b h1
   exact up b o n5 (hkp b o n1 n2 n3 n4 (hkeep b o h1 e))
  ·refine abl.mpr ⟨hG.rise,YX _ _,fun a ha b hb=>?_⟩
   rw[VH.mp hb]
   exact hG.there ha
  ·intro a ha
   rcases WE.mp ha with ha|ha
   ·exact hG.above a ha
   ·rw[VH.mp ha];exact hIs
  ·intro j b hj
   rcases ab1 j as.length with h1|h1|h1
   ·rw[Wq h1]at hj
    obtain⟨x',y',e1,e2,e3⟩:=hG.pairs j b hj
    obtain⟨n1,n2,n3,n4,n5⟩:=above b (hG.above b (VP hj))
    exact⟨x',y',e1,e2,up b _ n5 (hkp b _ n1 n2 n3 n4 e3)⟩
   ·subst h1
    have hb:h.objs.size=b:=by simpa using hj
    subst hb
    exact⟨x,y,by rw[hal];exact hx,by rw[hal];exact hy,up _ _ m5 hT⟩
   ·have hnone:(as++[h.objs.size])[j]? =none:=Wa (by rw[VU,aa7];lia)
    rw[hnone]at hj;injection hj
  ·have e:(h'.update S (Wy (·.push (Lt h.objs.size)))).get? h.objs.size=_:=up _ _ m5 hT
   exact XX (YK hIs (Vq e))
end
def HI:typeLookup (.type "zip") "__len__"=pure none:=by rw[ZD,YB];kernel_rfl
def FZ:typeLookup (.type "zip") "__length_hint__"=pure none:=by rw[ZD,YB];kernel_rfl
section
variable {prog:VM}{w:Wm}{A:Wj}{s:Bn}{R:abp->Bn->Prop}{xs ys:Array pz}{z TI TO i1 i2 l t S:Addr}
def Dz (hh:A.handled=none)(D:Zm z TI TO i1 i2 l t)(nS:S≠z/\S≠TI/\S≠TO/\S≠i1/\S≠i2)(nl:l≠S)(nt:t≠S)(hn:xs.size<=sizeLine)(hlen:xs.size=ys.size)(res:pz)(c₀:Nat)
  (Z:gG s.heap z TI TO i1 i2 l t S 0)(hz0:s.heap.get? z=some (oN .none (.bool false) TI TO))(hl:s.heap.IsList l xs)(ht:s.heap.IsTuple t ys)(hS:s.heap.get? S=some {cls:=.type "list",data:=.seq #[] c₀})
  (hR:∀h' tk acc c as,(∀b o,b∉[z,TI,TO,i1,i2,S]->s.heap.get? b=some o->h'.get? b=some o)->h'.get? S=some {cls:=.type "list",dict:=none,data:=.seq acc c,slots:=#[]}->as.length=xs.size->sC xs ys s.heap.objs.size h' as->
   acc.toList=as.map Lt->R (.ok (.ret res)) {s with heap:=h',toks:=tk}):
  wpAny (model prog w) A.in1 (Wd (.ref S) (.ref z) res)
   (fun fin s'=>match fin with|.done f=>R (.ok f) s'|.again c'=>c'.quiet=true/\codeAny (model prog w) A c' R s') (fun e s'=>R (.error e) s') s:=by
 have hT:s.TypeIs (.ref z) "zip":=⟨_,hz0,rfl⟩
 have below:∀b∈[z,TI,TO,i1,i2,S],b<s.heap.objs.size:=fun b hb=>by
  obtain⟨d,hTI,⟨x,y,hTO⟩,⟨o1,e1,d⟩,⟨o2,e2,d⟩⟩:=Z
  simp only[tx,If,or_false]at hb
  rcases hb with rfl|rfl|rfl|rfl|rfl|rfl
  ·exact Vq hz0
  ·exact Vq hTI
  ·exact Vq hTO
  ·exact Vq e1
  ·exact Vq e2
  ·exact Vq hS
 have key:∀(h:Heap)(c₁ tk:Nat),h.objs.size=s.heap.objs.size->(∀b o,b≠S->s.heap.get? b=some o->h.get? b=some o)->
   h.get? S=some {cls:=.type "list",data:=.seq #[] c₁}->codeAny (model prog w) A (.builtin "list.extend.loop" ⟨[.ref S,.ref z,res],[]⟩) R {s with heap:=h,toks:=tk}:=by
  intro h c₁ tk hz hk hS₁
  refine HH (s:=s) (h₁:=s.heap) hh D nS nl nt below hn hlen res (fun h' tk' acc c as hk' hS' hl hG hacc=>hR h' tk' acc c as hk' hS' hl hG hacc)
   xs.size 0 h tk c₁ #[] [] (Nat.sub_zero _) (VW _) (Z.keepS nS hk) (hl.at fun o e=>hk l o nl e) (ht.at fun o e=>hk t o nt e) (fun b o hb e=>hk b o (fun q=>hb (by rw[q];simp)) e) hS₁ rfl rfl
   ⟨aaB,(fun d ha=>nomatch ha),(fun j a hj=>by simp at hj)⟩ (YL hz.symm)
 unfold Wd
 refine pv (wpAny_typeOf (T:="zip") hT ?_)
 have h1:XI (.ref S) (.ref z)=false:=by simp[XI,nS.1]
 have h2:(XH "zip"==XH "list")=false:=by decide
 have h3:(XH "zip"==XH "tuple")=false:=by decide
 simp only[h1,h2,h3,acz,WG,if_false]
 refine pv (wpAny_pyIter_zip hz0 ?_)
 refine pv (WN ?_)
 unfold Zv
 refine pv (YR hT HI ?_)
 show wpAny _ A.in1 (specialOf (Lt z) (WL "__length_hint__")>>=_) _ _ _
 refine pv (YR hT FZ ?_)
 refine Vt ?_
 refine wpAny_ite_split (fun d=>?_) (fun d=>Vt ⟨aak Xa _,key _ c₀ _ rfl (fun b o d e=>e) hS⟩)
 refine pv (aau ?_)
 refine pv ?_
 show wpAny _ _ (updateSeq S (·.push .none)>>=fun d=>updateSeq S (·.pop)) _ _ _
 refine pv (YQ hS rfl ?_)
 have hS₂:=WZ (Wy (·.push Xb)) hS rfl
 refine YQ (hz:=by seq_fits) hS₂ rfl ?_
 have hS₃:=WZ (Wy (·.pop)) hS₂ rfl
 refine Vt ⟨aak Xa _,key _ _ _ ?_ (fun b o hb e=>?_) hS₃⟩
 ·rw[Yt,Yt]
 ·exact(WT _ _ (ab hb)).trans ((WT _ _ (ab hb)).trans e)
def Hl (hh:A.handled=none)(D:Zm z TI TO i1 i2 l t)(nS:S≠z/\S≠TI/\S≠TO/\S≠i1/\S≠i2)(nl:l≠S)(nt:t≠S)(hn:xs.size<=sizeLine)(hlen:xs.size=ys.size)
  (Z:gG s.heap z TI TO i1 i2 l t S 0)(hz0:s.heap.get? z=some (oN .none (.bool false) TI TO))(hl:s.heap.IsList l xs)(ht:s.heap.IsTuple t ys)(hS:s.heap.get? S=some {cls:=.type "list",data:=.seq #[]})
  (hR:∀h' tk acc c as,(∀b o,b∉[z,TI,TO,i1,i2,S]->s.heap.get? b=some o->h'.get? b=some o)->h'.get? S=some {cls:=.type "list",dict:=none,data:=.seq acc c,slots:=#[]}->as.length=xs.size->sC xs ys s.heap.objs.size h' as->
   acc.toList=as.map Lt->R (.ok (.ret .none)) {s with heap:=h',toks:=tk}):
  wpAny (model prog w) A.in1 (Zb.«list.__init__» ⟨[.ref S,.ref z],[]⟩)
   (fun fin s'=>match fin with|.done f=>R (.ok f) s'|.again c'=>c'.quiet=true/\codeAny (model prog w) A c' R s') (fun e s'=>R (.error e) s') s:=by
 show wpAny _ _ (do let old<-XR (.ref S);aaa (.ref S) (fun a=>#[]);letGo old.toList.reverse;Wd (.ref S) (.ref z) .none) _ _ s
 refine pv ?_
 unfold XR
 refine pv (Xj hS rfl (Vt ?_))
 show wpAny _ _ (updateSeq S (fun a=>#[]) >>= fun a=>letGo (#[]:Array pz).toList.reverse >>= fun a=>Wd (.ref S) (.ref z) .none) _ _ s
 refine pv (YQ hS rfl ?_)
 have hS₂:=WZ (Wy (fun a=>(#[]:Array pz))) hS rfl
 have oth:∀b o,b≠S->s.heap.get? b=some o->(s.heap.update S (Wy (fun a=>(#[]:Array pz)))).get? b=some o:=
  fun b o hb e=>(WT _ _ (ab hb)).trans e
 refine pv (aab ?_)
 refine Dz (s:={s with heap:=s.heap.update S (Wy (fun a=>(#[]:Array pz)))}) hh D nS nl nt hn hlen .none _ (Z.keepS nS oth) (oth _ _ nS.1.symm hz0) (hl.at fun o e=>oth l o nl e) (ht.at fun o e=>oth t o nt e) hS₂ (fun h' tk acc c as hk hS' hl hG hacc=>?_)
 refine hR h' tk acc c as (fun b o hb e=>hk b o hb (oth b o (fun q=>hb (by rw[q];simp)) e)) hS' hl ?_ hacc
 have:(s.heap.update S (Wy (fun a=>(#[]:Array pz)))).objs.size=s.heap.objs.size:=Yt ..
 rw[<-this];exact hG
end
section
variable {prog:VM}{w:Wm}{A:Wj}{E:pz->Bn->Prop}{s:Bn}{xs ys:Array pz}{z TI TO i1 i2 l t:Addr}
def Ht {Q:pz->Bn->Prop}(hh:A.handled=none)(D:Zm z TI TO i1 i2 l t)(hn:xs.size<=sizeLine)(hlen:xs.size=ys.size)
  (hz0:s.heap.get? z=some (oN .none (.bool false) TI TO))(hTI:YD s.heap TI (.ref i1) (.ref i2))(hTO:∃a b,YD s.heap TO a b)(j1:s.heap.IsListIter i1 l 0)(j2:s.heap.IsTupleIter i2 t 0)(hl:s.heap.IsList l xs)(ht:s.heap.IsTuple t ys)
  (hQ:∀h' tk acc c as,(∀b o,b∉[z,TI,TO,i1,i2]->s.heap.get? b=some o->h'.get? b=some o)->h'.get? s.heap.objs.size=some {cls:=.type "list",dict:=none,data:=.seq acc c,slots:=#[]}->as.length=xs.size->sC xs ys (s.heap.objs.size+1) h' as->
   acc.toList=as.map Lt->Q (.ref s.heap.objs.size) {s with heap:=h',toks:=tk}):
  wpAny (model prog w) A (call (.type "list") [.ref z]) Q E s:=by
 refine callType_codes (Q₁:=fun obj s₁=>obj=.ref s.heap.objs.size/\s₁={s with heap:=s.heap.push {cls:=.type "list",data:=.seq #[]}}) abY (abh _) abi
  (code_list_new _ ⟨rfl,rfl⟩) fun obj s₁ h₁=>?_
 obtain⟨rfl,rfl⟩:=h₁
 have hS:(s.heap.push {cls:=.type "list",data:=.seq #[]}).get? s.heap.objs.size=some {cls:=.type "list",data:=.seq #[]}:=Vr _ rfl
 have up:∀b o,s.heap.get? b=some o->(s.heap.push {cls:=.type "list",data:=.seq #[]}).get? b=some o:=fun b o e=>gV _ e
 obtain⟨a,b,hTO⟩:=hTO
 have nn:∀b o,s.heap.get? b=some o->s.heap.objs.size≠b:=fun b o e=>Xx (Vq e)
 have nS:s.heap.objs.size≠z/\s.heap.objs.size≠TI/\s.heap.objs.size≠TO/\s.heap.objs.size≠i1/\s.heap.objs.size≠i2:=by
  obtain⟨o1,e1,d⟩:=j1
  obtain⟨o2,e2,d⟩:=j2
  exact⟨nn _ _ hz0,nn _ _ hTI,nn _ _ hTO,nn _ _ e1,nn _ _ e2⟩
 have nl:l≠s.heap.objs.size:=by obtain⟨o,e,d⟩:=hl;exact(nn _ _ e).symm
 have nt:t≠s.heap.objs.size:=by obtain⟨o,e,d⟩:=ht;exact(nn _ _ e).symm
 refine⟨⟨_,hS,rfl⟩,aa3 _ _,Hl (s:={s with heap:=s.heap.push {cls:=.type "list",data:=.seq #[]}}) (A:=A.in1) hh D nS nl nt hn hlen
  ⟨.inl ⟨rfl,up _ _ hz0⟩,up _ _ hTI,⟨a,b,up _ _ hTO⟩,j1.at fun o e=>up _ o e,j2.at fun o e=>up _ o e⟩ (up _ _ hz0) (hl.at fun o e=>up _ o e) (ht.at fun o e=>up _ o e) hS (fun h' tk acc c as hk hS' hl hG hacc=>?_)⟩
 refine⟨rfl,hQ h' tk acc c as (fun b o hb e=>hk b o (fun q=>?_) (up b o e)) hS' hl ?_ hacc⟩
 ·simp only[tx,If,or_false]at q hb
  rcases q with q|q|q|q|q|q
  ·exact hb (.inl q)
  ·exact hb (.inr (.inl q))
  ·exact hb (.inr (.inr (.inl q)))
  ·exact hb (.inr (.inr (.inr (.inl q))))
  ·exact hb (.inr (.inr (.inr (.inr q))))
  ·exact nn b o e q.symm
 ·have:(s.heap.push {cls:=.type "list",data:=.seq #[]}).objs.size=s.heap.objs.size+1:=WD ..
  rw[<-this];exact hG
noncomputable abbrev NM (l:Addr):Obj:={cls:=.type "list_iterator",data:=.fields #[.ref l,.int 0 0]}
abbrev zm1 (h:Heap)(t1:Addr):Heap:=h.push (NM t1)
abbrev zm2 (h:Heap)(t1 t2:Addr):Heap:=(zm1 h t1).push (itO t2)
abbrev zm3 (h:Heap)(t1 t2:Addr):Heap:=(zm2 h t1 t2).push {cls:=.type "tuple",data:=.seq #[.ref h.objs.size,.ref (zm1 h t1).objs.size]}
abbrev zm4 (h:Heap)(t1 t2:Addr):Heap:=(zm3 h t1 t2).push {cls:=.type "tuple",data:=.seq #[.none,.none]}
abbrev zm5 (h:Heap)(t1 t2:Addr):Heap:=(zm4 h t1 t2).push {cls:=.type "zip",data:=.fields #[.none,.bool false,.bool false,.ref (zm2 h t1 t2).objs.size,.ref (zm3 h t1 t2).objs.size]}
def JC (t1 t2:Addr)(xs ys:Array pz):
  Meets (Zb.«zip.__new__» ⟨[.type "zip",.ref t1,.ref t2],[]⟩) (fun a R s=>s.heap.IsList t1 xs/\s.heap.IsTuple t2 ys/\R (.ok (.ret (.ref (zm4 s.heap t1 t2).objs.size))) {s with heap:=zm5 s.heap t1 t2}):=
 .of_wp fun prog w A R s h=>by
  obtain⟨hp,g,d,tk,os⟩:=s;obtain⟨hl1,hl2,h⟩:=h
  have hsub:=sub_zip
  have hL1:Heap.IsList (acw ⟨hp,g,d,tk,os⟩) t1 xs:=hl1
  have hL2:Heap.IsTuple (acw ⟨hp.push (NM t1),g,d,tk,os⟩) t2 ys:=hl2.at fun o e=>gV _ e
  wp_walk using aav hL1,acu hL2
  exact⟨_,rfl,h⟩
def HU {t1 t2:Addr}{Q:pz->Bn->Prop}(hl1:s.heap.IsList t1 xs)(hl2:s.heap.IsTuple t2 ys)
  (h:∀h',h'.get? (s.heap.objs.size+4)=some (oN .none (.bool false) (s.heap.objs.size+2) (s.heap.objs.size+3))->YD h' (s.heap.objs.size+2) (.ref s.heap.objs.size) (.ref (s.heap.objs.size+1))->(∃a b,YD h' (s.heap.objs.size+3) a b)->
   h'.IsListIter s.heap.objs.size t1 0->h'.IsTupleIter (s.heap.objs.size+1) t2 0->h'.objs.size=s.heap.objs.size+5->(∀c o,s.heap.get? c=some o->h'.get? c=some o)->Q (.ref (s.heap.objs.size+4)) {s with heap:=h'}):
  wpAny (model prog w) A (call (.type "zip") [.ref t1,.ref t2]) Q E s:=by
 refine callType_new F.called_zip (by decide) (F.typeCall_zip_2 _ _) (F.newCall_zip_2 _ _) (fun obj=>F.args_object_init_3 obj _ _) F.entry_zip_new (JC t1 t2 xs ys) ⟨hl1,hl2,?_⟩
 have z1:(zm1 s.heap t1).objs.size=s.heap.objs.size+1:=WD ..
 have z2:(zm2 s.heap t1 t2).objs.size=s.heap.objs.size+2:=by rw[WD,z1]
 have z3:(zm3 s.heap t1 t2).objs.size=s.heap.objs.size+3:=by rw[WD,z2]
 have z4:(zm4 s.heap t1 t2).objs.size=s.heap.objs.size+4:=by rw[WD,z3]
 have z5:(zm5 s.heap t1 t2).objs.size=s.heap.objs.size+5:=by rw[WD,z4]
 have g5:(zm5 s.heap t1 t2).get? (zm4 s.heap t1 t2).objs.size=some _:=Vr _ rfl
 have g4:(zm5 s.heap t1 t2).get? (zm3 s.heap t1 t2).objs.size=some _:=gV _ (Vr _ rfl)
 have g3:(zm5 s.heap t1 t2).get? (zm2 s.heap t1 t2).objs.size=some _:=gV _ (gV _ (Vr _ rfl))
 have g2:(zm5 s.heap t1 t2).get? (zm1 s.heap t1).objs.size=some _:=gV _ (gV _ (gV _ (Vr _ rfl)))
 have g1:(zm5 s.heap t1 t2).get? s.heap.objs.size=some _:=gV _ (gV _ (gV _ (gV _ (Vr _ rfl))))
 show _/\_
 rw[z2,z3,z4]at g5
 rw[z1,z2]at g3
 rw[z3]at g4
 rw[z1]at g2
 rw[z4]
 exact⟨⟨_,g5,rfl⟩,h _ g5 g3 ⟨_,_,g4⟩ ⟨_,g1,rfl,rfl⟩ ⟨_,g2,rfl,rfl⟩ z5 fun c o x=>gV _ (gV _ (gV _ (gV _ (gV _ x))))⟩
end
end HT
namespace L2
open PySem PySem.Spec PyProof.Rows
section
variable {X:Cx}{pins:List (Addr×Obj)}{σ:St}{H:Hp}{s:Bn}{h':Heap}
def Dh {tk:Nat}{us vs:List V}{xs ys:List pz}{lo:Addr}{as:List Addr}(I:Inv X pins σ H s)(k:∀b o,s.heap.get? b=some o->h'.get? b=some o)(hlo:s.heap.objs.size<=lo)(r1:aU us xs)(r2:aU vs ys)(G:HT.sC xs.toArray ys.toArray lo h' as):
  ∀n,n<=as.length->∃H',bc H H'/\(∀j a x y,j<n->as[j]? =some a->us[j]? =some x->vs[j]? =some y->H' a=some (.tup [x,y]))/\(∀b,H b=none->b∉as.take n->H' b=none)/\Inv X pins σ H' {s with heap:=h',toks:=tk}:=by
 intro n
 induction n with
 |zero=>intro c;exact⟨H,bc.rfl',fun j a x y h=>absurd h (by lia),fun b e c=>e,I.kept (t':=tk) k⟩
 |succ n ih=>
  intro hn
  obtain⟨H1,S1,t1,f1,I1⟩:=ih (by lia)
  have hlt:n<as.length:=hn
  have ea:as[n]? =some as[n]:=Dc hlt
  obtain⟨x,y,e1,e2,e3⟩:=G.pairs n _ ea
  have hxl:n<xs.length:=by have:=(aat.mp e1).1;simpa using this
  have hyl:n<ys.length:=by have:=(aat.mp e2).1;simpa using this
  obtain⟨u,hu⟩:∃u,us[n]? =some u:=⟨_,Dc (by rw[r1.length];exact hxl)⟩
  obtain⟨v,hv⟩:∃v,vs[n]? =some v:=⟨_,Dc (by rw[r2.length];exact hyl)⟩
  obtain⟨x',gx,rx⟩:=r1.get hu
  obtain⟨y',gy,ry⟩:=r2.get hv
  have ex:x'=x:=by have:xs[n]? =some x:=by simpa using e1
                   exact VR (gx.symm.trans this)
  have ey:y'=y:=by have:ys[n]? =some y:=by simpa using e2
                   exact VR (gy.symm.trans this)
  subst ex ey
  have ge:s.heap.objs.size<=as[n]:=VO hlo (G.above _ (VP ea))
  have nin:as[n]∉as.take n:=fun hm=>by
   obtain⟨j,hj⟩:=Wu.mp hm
   have hjn:j<n:=by have:=(Vz.mp hj).1;rw[VN]at this;lia
   rw[XD,if_pos hjn]at hj
   have:=YM.mp G.rise j n (by lia) hlt hjn
   rw[(Vz.mp hj).2]at this
   exact Wz _ this
  have hfree:H1 as[n]=none:=f1 _ (I.hok.fresh ge) nin
  have I2:Inv X pins σ (upd H1 as[n] (.tup [u,v])) {s with heap:=h',toks:=tk}:=Inv.track2 I I1 ge hfree ⟨by show 2<=sizeLine;decide,[x',y'],.cons rx (.cons ry .nil),⟨_,e3,rfl,_,rfl⟩⟩
  refine⟨_,S1.trans (bc.upd hfree),fun j a x y hj ha hx hy=>?_,fun b e hb=>?_,I2⟩
  ·rcases abO (ab2 hj)with h|h
   ·exact bc.upd hfree _ _ (t1 j a x y h ha hx hy)
   ·subst h
    rw[ea]at ha;obtain rfl:=VR ha
    rw[hu]at hx;obtain rfl:=VR hx
    rw[hv]at hy;obtain rfl:=VR hy
    exact aT
  ·have nb:b≠as[n]:=fun q=>hb (by rw[q];exact Wu.mpr ⟨n,by rw[XD,if_pos (Wx _)];exact ea⟩)
   rw[ay nb]
   exact f1 b e fun q=>hb (by rw[acq];exact Xp _ q)
def Jr (K:W.Frag):List V->Hp->VK->Prop:=fun xs H Q=>∃c d us vs,xs=[.ref c,.ref d]/\SqL K H c us/\SqT K H d vs/\us.length=vs.length/\
 ∀(l:Addr)(ps:List Addr)(H':Hp),H l=none->bc H H'->ps.length=us.length->(∀(j:Nat)(p:Addr)(x y:V),ps[j]?=some p->us[j]?=some x->vs[j]?=some y->H' p=some (.tup [x,y]))->H' l=some (.lst (ps.map V.ref))->Q (.ref l) H'
def JN {Q:VK}{c d:Addr}{us vs:List V}(hc:X.calm=true)(I:Inv X pins σ H s)(hx:SqL X.K H c us)(hy:SqT X.K H d vs)(hl:us.length=vs.length)
  (q:∀(l:Addr)(ps:List Addr)(H':Hp),H l=none->bc H H'->ps.length=us.length->(∀(j:Nat)(p:Addr)(x y:V),ps[j]?=some p->us[j]?=some x->vs[j]?=some y->H' p=some (.tup [x,y]))->H' l=some (.lst (ps.map V.ref))->Q (.ref l) H'):
  wpAny (model X.prog X.w) X.A (call (.type "zip") [.ref c,.ref d]) (fun u s2=>wpAny (model X.prog X.w) X.A (call (.type "list") [u]) (EP X pins σ Q) X.xe s2) X.xe s:=by
 obtain⟨its,r1,p1,hz1⟩:=I.list hx
 obtain⟨its2,r2,p2,f⟩:=I.tuple hy
 have l1:=r1.length
 have l2:=r2.length
 have hL:s.heap.IsList c its.toArray:=p1.isList
 have hT:s.heap.IsTuple d its2.toArray:=p2
 have lt1:c<s.heap.objs.size:=by obtain⟨o,e,f⟩:=hL;exact Vq e
 have lt2:d<s.heap.objs.size:=by obtain⟨o,e,f⟩:=hT;exact Vq e
 refine HT.HU hL hT fun h1 y1 y2 y3 y4 y5 hsz hk=>?_
 refine HT.Ht (s:={s with heap:=h1}) (I.ok.hd hc) (zipApart_new lt1 lt2) (by rw[Vv];lia) (by rw[Vv,Vv];lia) y1 y2 y3 y4 y5 (hL.at fun o e=>hk _ o e) (hT.at fun o e=>hk _ o e) fun h2 tk acc cc as hk2 hS hla hG hacc=>?_
 have hsz1:({s with heap:=h1}:Bn).heap.objs.size=s.heap.objs.size+5:=hsz
 rw[hsz1]at hS hG⊢
 have kk:∀b o,s.heap.get? b=some o->h2.get? b=some o:=fun b o e=>hk2 b o (fun z=>by
  have hb:=Vq e
  simp only[tx,If,or_false]at z
  rcases z with rfl|rfl|rfl|rfl|rfl<;>exact absurd hb (Nat.not_lt.mpr (by first|exact sn _|exact Yv _ _))) (hk b o e)
 obtain⟨H',S',tr,fr,I'⟩:=Dh (tk:=tk) I kk (VO (Yv _ 5) (aaz _)) r1 r2 hG as.length (sn _)
 have hSfree:H' (s.heap.objs.size+5)=none:=fr _ (I.hok.fresh (Yv _ _)) fun hm=>by
  have:=hG.above _ (Zq hm)
  exact absurd this (Nat.not_le.mpr (Wx _))
 have rr:aU (as.map V.ref) (as.map Lt):=by
  clear q tr fr hla hG hacc
  induction as with
  |nil=>exact .nil
  |cons a r ih=>exact .cons rfl ih
 have hla':as.length=us.length:=by rw[hla,Vv];lia
 have I2:Inv X pins σ (upd H' (s.heap.objs.size+5) (.lst (as.map V.ref))) {s with heap:=h2,toks:=tk}:=Inv.track2 I I' (Yv _ _) hSfree ⟨by rw[Vy,hla'];exact hz1,as.map Lt,cc,rr,by rw[hS,<-hacc]⟩
 exact⟨.ref (s.heap.objs.size+5),_,I2,rfl,q _ as _ (I.hok.fresh (Yv _ _)) (S'.trans (bc.upd hSfree)) hla' (fun j p x y hj hx hy=>bc.upd hSfree _ _ (tr j p x y (Vz.mp hj).1 hj hx hy)) aT⟩
end
section
variable {X:Cx}{a b:Expr}{t:TA}{p1 p2 pos1 pos2:Pos}
def Ib (hm1:X.mg "list"=none)(hm2:X.mg "zip"=none)(hc:X.calm=true)(ha:QA X [a,b] t)(hg1:Gl X "list":=by rfl)(hg2:Gl X "zip":=by rfl)(hs:aM [a,b]=true:=by rfl):
  QE X (.Call (.Name "list" p1) [.Call (.Name "zip" p2) [a,b] [] pos2] [] pos1) (tCB (Jr X.K) t):=⟨fun pins s σ H Q I h=>by
 have h':(bo a&&aM [b])=true:=hs
 refine Wn (fF I hg1 hm1 Eb ?_ (by decide) (by decide))
 refine We ?_ rfl rfl
 show wpAny _ _ (spliced ((false,eval (.Call (.Name "zip" p2) [a,b] [] pos2) X.env)::backTo pos1 (starEach [] X.env))) _ _ s
 refine ZK ?_
 refine Wn (fF I hg2 hm2 NY ?_ (by decide) (by decide))
 refine We (thn (ha.out pos2 pins s σ H _ I h) fun us s1 ⟨vs,H1,I1,r1,q1⟩=>?_)
  (aQ (Gn.mp h').1 [b] X.env) (bI (Gn.mp h').2)
 obtain⟨c,d,xs,ys,rfl,hx,hy,hl,q⟩:=q1
 obtain⟨u,w',rfl,ru,rw'⟩:=wN r1
 subst ru
 subst rw'
 refine VT (JN hc I1 hx hy hl q) (fun u s2 z=>?_) fun e e z=>z
 exact ZX z⟩
end
def Pg (K:W.Frag)(a:Addr)(n:Nat):It where
 go:=fun i H=>i<n/\∃xs,SqL K H a xs/\xs.length=n
 yld:=fun i H x H'=>H'=H/\∀xs,SqL K H a xs->xs[n- 1- i]?=some x
 stop:=fun i b=>n<=i
def Hc {P:VM}{w:Wm}{K:W.Frag}{tg:Expr}(a it:Addr)(n:Nat):vD P w K tg (Pg K a n) [it] it (fun i h=>i<=n/\h.IsRevIter it a ((n:Int)- 1- i))where
 mem:=by simp
 obj:=fun i h st b hb=>by
  have e:b=it:=by simpa using hb
  subst e
  obtain⟨f,o,e,c,d⟩:=st
  exact⟨o,e,fun v z=>by rw[d]at z;injection z⟩
 keep:=fun i h h' st k=>⟨st.1,st.2.at fun o e=>k it (by simp) o e⟩
 item:=by
  intro X hP hw hK hc i pins s σ H E I hf st hg
  subst hP hw hK
  obtain⟨hi,xs,hq,hl⟩:=hg
  obtain⟨its,rv,p,hz⟩:=I.list hq
  obtain⟨x,hx⟩:∃x,xs[n- 1- i]?=some x:=⟨_,Dc (by lia)⟩
  obtain⟨u,hu,ru⟩:=rv.get hx
  obtain⟨f0,f1,f2,f3,f4,f5⟩:=hf it (by simp)
  have st2:=st.2
  rw[show(n:Int)- 1- i=((n- 1- i:Nat):Int)by lia]at st2
  refine wpAny_pyNext_rev_item st2 p.isList (x:=u) (by simpa using hu) fun h' st' sb=>?_
  have I1:Inv X pins σ H {s with heap:=h'}:=I.turned (t':=s.toks) (fun b o hb e=>(sb.2 b hb).trans e) f0 f1 f3 f4 f5
  obtain⟨o,e1,c,d⟩:=id st'
  refine⟨u,rfl,wy (s:={s with heap:=h'}) e1 c d (by decide) ⟨x,H,I1,ru,⟨rfl,fun ys hy=>by rw[I.list_inj hy hq];exact hx⟩,⟨hi,?_⟩,fun b hb=>(hf b hb).1⟩⟩
  rw[show(n:Int)- 1- ((i+1:Nat):Int)=((n- 1- i:Nat):Int)- 1 by lia];exact st'
 done:=by
  intro X hP hw hK hc i pins s σ H E I hf st hg
  subst hP hw hK
  obtain⟨f0,f1,f2,f3,f4,f5⟩:=hf it (by simp)
  have hg:n<=i:=hg
  have hi:=st.1
  have st2:=st.2
  rw[show(n:Int)- 1- i= -1 by lia]at st2
  exact wpAny_pyNext_rev_end (I.ok.hd hc) st2 fun h' eb=>⟨rfl,I.turned (t':=s.toks) (fun b o hb e=>eb b o hb e) f0 f1 f3 f4 f5⟩
 self:=fun f f f f f st h=>ab9 st.2 h
def NP (fs:List (Str×V))(dx:Addr):HO:=.ext fun h=>∃mA,h.Ns1 dx mA/\∀f,bE (fs.lookup f) (mA f)
def Cz (L:List (Addr×Sp))(m:Str)(E:St->XK)(ta:TE)(t:TA):TE:=fun σ H Q=>ta σ H fun x H1=>∃a C dx fs sp,x=.ref a/\H1 a=some (.ins C dx fs)/\(C,sp)∈L/\fs.lookup m=none/\t σ H1 fun vs H2=>sp (x::vs) H2 Q (E σ)
def MD (X:Cx)(m:Str)(E:St->XK)(p:Addr×Sp):Prop:=∃CX k f fd ps,Cls X.K p.1/\bu X.K p.1 m f/\cy X.prog X.w X.K X.mg X.base CX k f fd ps p.2/\aZ k X.A/\bX X.K fd ps []/\di CX X E
structure FJ (K:W.Frag)(C:Addr)(m:Str)(f:Addr):Prop where
 ga:W.specialIn K (.ref C) "__getattribute__"=some (some (.builtin "type.__getattribute__"))
 rd:W.readsIn K C (.type "type")=true
 at_:W.findCls K (.ref C) (.type "type") m=some (.val (.ref f))
 ho:W.handedIn (.ref f)=true
 kp:W.keepIn K (.ref f)=true
structure AR (K:W.Frag)(C:Addr):Prop where
 cl:W.findIn K (.ref C) "__class__"=some (some (.builtin "object.__class__"))
 gt:W.specialIn K (.builtin "object.__class__") "__get__"=some (some (.builtin "getset_descriptor.__get__"))
 tk:W.takesIn K (.builtin "object.__class__")=some true
 mo:W.mroIn K C (.type "object")=some true
section
variable {X:Cx}{CX:CXT}{k:Nat}{f C:Addr}{fd:Gt}{ps:List Str}{sp:Sp}{E:St->XK}{x m:Str}{p pos apos:Pos}{e:Expr}{es:List Expr}{t u:TE}{ta:TA}
def Np {L:List (Addr×Sp)}{o:Expr}{to:TE}{pl:Sem Bool}(he:QE X o to)(hL:∀p∈L,MD X m E p)(ha:QA X (e::es) ta)(hs:aM (e::es)=true:=by rfl)
  (ht:eval (.Call (.Attribute o m apos) (e::es) [] pos) X.env=(do
   let ov<-eval o X.env
   standAt apos.atName
   let (f,first)<-holding [ov] (getMethod ov m pl)
   callWith pos f first (backTo pos (starEach (e::es) X.env)) (backToKw pos (keywordEach [] X.env))):=by rfl):
  QE X (.Call (.Attribute o m apos) (e::es) [] pos) (Cz L m E to ta):=⟨fun pins s σ H Q I h=>by
 have h':(bo e&&aM es)=true:=hs
 refine W.methodCall_KW (pl:=pl) (thn (he.out pins s σ H _ I h) fun u s1 ⟨x,H1,I1,rx,a,C,dx,fs,sp,ex,ea,hC,l,q⟩=>?_) ht
 subst ex
 obtain rfl:u=Lt a:=rx
 obtain⟨CX,k,f,fd,ps,c,hm,F,hr,hb,hx⟩:=hL _ hC
 refine ye I1 ea c hm l ?_
 refine W.callWith_K (first:=[.ref a]) (h₀:=X.base) I.ok.mod.kin hm.kp (thn (ha.out pos pins s1 σ H1 _ I1 q) fun us s2 ⟨vs,H2,I2,r,q2⟩=>⟨I2.kIn,?_⟩)
  (aQ (Gn.mp h').1 es X.env) (bI (Gn.mp h').2)
 exact nF (us:=.ref a::us) (vs:=.ref a::vs) F hr hb hx I2 (.cons rfl r) q2⟩
def JL {L:List (Addr×Sp)}{o:Expr}{to:TE}{pl:Sem Bool}(he:QE X o to)(hL:∀p∈L,MD X m E p)
  (ht:eval (.Call (.Attribute o m apos) [] [] pos) X.env=(do
   let ov<-eval o X.env
   standAt apos.atName
   let (f,first)<-holding [ov] (getMethod ov m pl)
   callWith pos f first (backTo pos (starEach [] X.env)) (backToKw pos (keywordEach [] X.env))):=by rfl):
  QE X (.Call (.Attribute o m apos) [] [] pos) (Cz L m E to ph):=⟨fun pins s σ H Q I h=>by
 refine W.methodCall_KW (pl:=pl) (thn (he.out pins s σ H _ I h) fun u s1 ⟨x,H1,I1,rx,a,C,dx,fs,sp,ex,ea,hC,l,q⟩=>?_) ht
 subst ex
 obtain rfl:u=Lt a:=rx
 obtain⟨CX,k,f,fd,ps,c,hm,F,hr,hb,hx⟩:=hL _ hC
 refine ye I1 ea c hm l ?_
 exact W.callWith_K0 (first:=[.ref a]) I1.kIn hm.kp (nF (us:=[.ref a]) (vs:=[.ref a]) F hr hb hx I1 (.cons rfl .nil) q)⟩
def Ps {pl:Sem Bool}(hm:X.mg x=some (.ref C))(c:FJ X.K C m f)(F:cy X.prog X.w X.K X.mg X.base CX k f fd ps sp)(hr:aZ k X.A)(hb:bX X.K fd ps [])(hx:di CX X E)(ha:QA X (e::es) ta)
  (hg:Gl X x:=by rfl)(hd:(x==("__debug__":Str))=false:=by decide)(hs:aM (e::es)=true:=by rfl)
  (ht:eval (.Call (.Attribute (.Name x p) m apos) (e::es) [] pos) X.env=(do
   let ov<-eval (.Name x p) X.env
   standAt apos.atName
   let (f,first)<-holding [ov] (getMethod ov m pl)
   callWith pos f first (backTo pos (starEach (e::es) X.env)) (backToKw pos (keywordEach [] X.env))):=by rfl):
  QE X (.Call (.Attribute (.Name x p) m apos) (e::es) [] pos) (nM sp E ta):=⟨fun pins s σ H Q I h=>by
 have h':(bo e&&aM es)=true:=hs
 refine W.methodCall_KW (pl:=pl) (thn ((zk (v:=.ref C) hg hm rfl hd) pins s σ H (fun v H1=>v=.ref C/\H1=H) I ⟨rfl,rfl⟩) fun u s1 ⟨v,H1,I1,rv,ev,eH⟩=>?_) ht
 subst ev eH
 obtain rfl:u=Lt C:=rv
 refine W.method_cls I1.kIn c.ga (W.cls_value I1.kIn c.rd c.at_ c.ho ?_)
 refine W.callWith_K (first:=[]) (h₀:=X.base) I.ok.mod.kin c.kp (thn (ha.out pos pins _ σ H1 _ (I1.tok _) h) fun us s2 ⟨vs,H2,I2,r,q2⟩=>⟨I2.kIn,?_⟩)
  (aQ (Gn.mp h').1 es X.env) (bI (Gn.mp h').2)
 exact nF F hr hb hx I2 r q2⟩
def RQ (K:W.Frag):List V->Hp->VK->Prop:=fun xs H Q=>∃a C dx fs D b,xs=[.ref a,.ref D]/\H a=some (.ins C dx fs)/\Cls K C/\AR K C/\W.kitOne K (.ref C) (.ref D)=some b/\Q (.bl b) H
def RX:bq X (.builtin "isinstance") (RQ X.K):=fun pins s σ H xs us Q I r h=>by
 obtain⟨a,C,dx,fs,D,b,rfl,ha,hC,G,hk,q⟩:=h
 obtain⟨u,w',rfl,r1,r2⟩:=wN r
 obtain rfl:w'=Lt D:=r2
 obtain rfl:u=Lt a:=r1
 obtain⟨mA,O,c,c,c,c⟩:=jw I.hok ha
 obtain⟨od,IA,c⟩:=O.look
 exact W.kia_one (W.kitx_own (hC.get _) hC.hd G.cl G.gt G.tk G.mo) I.kIn IA hk (fun z=>nomatch z) fun tk=>⟨.bl _,H,I.tok tk,rfl,q⟩
end
end L2
namespace L2
open PySem PySem.Spec PyProof.Rows PySem.W
def br {α:Type}(c:Nat->Nat->Bool)(n:Nat):KasT α->(α->Prop)->Prop
 |.ret a,Q=>Q a
 |.ask i j k,Q=>i<n/\j<n/\i≠j/\br c n (k (c i j)) Q
theorem br.bind {α β:Type}{c:Nat->Nat->Bool}{n:Nat}{f:α->KasT β}{Q:β->Prop}:∀{t:KasT α},br c n t (fun a=>br c n (f a) Q)->br c n (t.bind f) Q
 |.ret _,h=>h
 |.ask _ _ _,h=>⟨h.1,h.2.1,h.2.2.1,br.bind h.2.2.2⟩
theorem br.mono {α:Type}{c:Nat->Nat->Bool}{n:Nat}{Q Q':α->Prop}(q:∀a,Q a->Q' a):∀{t:KasT α},br c n t Q->br c n t Q'
 |.ret _,h=>q _ h
 |.ask _ _ _,h=>⟨h.1,h.2.1,h.2.2.1,br.mono q h.2.2.2⟩
section
variable {key:Nat->Int}{n:Nat}
structure Pm (n:Nat)(p:Array Nat):Prop where
 sz:p.size=n
 pm:p.toList.Perm (WJ n)
def at' (p:Array Nat)(i:Nat):Nat:=p.getD i 0
def iA {p:Array Nat}{i:Nat}(h:i<p.size):p[i]?=some (at' p i):=by
 unfold at';rw[aao,Wp h];rfl
def AU {p:Array Nat}{i x:Nat}(h:p[i]?=some x):at' p i=x:=by
 unfold at';rw[aao,h];rfl
def Pm.lt {p:Array Nat}(h:Pm n p){i:Nat}(hi:i<n):at' p i<n:=by
 have e:=iA (p:=p) (i:=i) (by rw[h.sz];exact hi)
 have m:at' p i∈p.toList:=VP (by rw[Xm];exact e)
 exact Yp.mp (h.pm.mem_iff.mp m)
def Pm.ne {p:Array Nat}(h:Pm n p){i j:Nat}(hi:i<n)(hj:j<n)(d:i≠j):at' p i≠at' p j:=fun e=>by
 have nd:p.toList.Nodup:=h.pm.nodup_iff.mpr List.nodup_range
 have e1:=iA (p:=p) (i:=i) (by rw[h.sz];exact hi)
 have e2:=iA (p:=p) (i:=j) (by rw[h.sz];exact hj)
 rw[e,<-e2,<-Xm,<-Xm]at e1
 exact d ((List.getElem?_inj (by rw[Xg,h.sz];exact hi) nd).mp e1)
def Pm.of {p q:Array Nat}(h:Pm n p)(e:q.Perm p):Pm n q:=⟨by rw[e.size_eq];exact h.sz,(Array.perm_iff_toList_perm.mp e).trans h.pm⟩
def Up (key:Nat->Int)(p:Array Nat)(m:Nat):Prop:=∀i j,i<j->j<m->key (at' p i)<key (at' p j)
abbrev cK (key:Nat->Int):Nat->Nat->Bool:=fun i j=>decide (key i<key j)
def br.ask {α:Type}{i j:Nat}{k:Bool->KasT α}{Q:α->Prop}(hi:i<n)(hj:j<n)(hd:i≠j)(h1:key i<key j->br (cK key) n (k true) Q)(h2:¬key i<key j->br (cK key) n (k false) Q):br (cK key) n (.ask i j k) Q:=by
 refine⟨hi,hj,hd,?_⟩
 show br (cK key) n (k (decide (key i<key j))) Q
 by_cases c:key i<key j
 ·rw[decide_eq_true c];exact h1 c
 ·rw[decide_eq_false c];exact h2 c
def kT {α:Type}{a b:KasT α}{Q:α->Prop}(h:br (cK key) n a Q):br (cK key) n (if true=true then a else b) Q:=h
def kF {α:Type}{a b:KasT α}{Q:α->Prop}(h:br (cK key) n b Q):br (cK key) n (if false=true then a else b) Q:=h
variable (inj:∀i j,i<n->j<n->key i=key j->i=j)
include inj
def Fi {p:Array Nat}(h:Pm n p){i j:Nat}(hi:i<n)(hj:j<n)(d:i≠j)(c:¬key (at' p i)<key (at' p j)):key (at' p j)<key (at' p i):=by
 have:key (at' p i)≠key (at' p j):=fun z=>h.ne hi hj d (inj _ _ (h.lt hi) (h.lt hj) z)
 lia
theorem sh {p:Array Nat}(h:Pm n p):∀f m,1<=m->m+f=n->Up key p m->br (cK key) n (kas_asc p f m) (fun r=>m<=r/\r<=n/\Up key p r/\(r=n\/key (at' p r)<key (at' p (r- 1))))
 |0,m,_,e,u=>⟨sn _,by lia,u,.inl (by lia)⟩
 |f+1,m,m1,e,u=>br.ask (h.lt (by lia)) (h.lt (by lia)) (h.ne (by lia) (by lia) (by lia)) (fun c=>kT ⟨sn _,by lia,u,.inr c⟩) fun c=>by
  have lt:=Fi inj h (i:=m) (j:=m- 1) (by lia) (by lia) (by lia) c
  refine kF (br.mono (fun r x=>⟨by lia,x.2⟩) (sh h f (m+1) (by lia) (by lia) fun i j hij hj=>?_))
  rcases Xf j m with q|q
  ·exact u i j hij q
  ·have:j=m:=by lia
   subst this
   rcases Xf i (j- 1)with z|z
   ·exact Ys (u i (j- 1) z (by lia)) lt
   ·have:i=j- 1:=by lia
    rw[this];exact lt
def JK (key:Nat->Int)(p:Array Nat)(m:Nat):Prop:=∀i j,i<j->j<m->key (at' p j)<key (at' p i)
theorem DV {p:Array Nat}(h:Pm n p):∀f m,1<=m->m+f=n->JK key p m->br (cK key) n (kas_desc f p m 0) (fun r=>r.1=p/\r.2.2=0/\m<=r.2.1/\r.2.1<=n/\JK key p r.2.1)
 |0,m,_,e,u=>⟨rfl,rfl,sn _,(show m<=n by lia),u⟩
 |f+1,m,m1,e,u=>br.ask (h.lt (by lia)) (h.lt (by lia)) (h.ne (by lia) (by lia) (by lia)) (fun c=>kT (by
  rw[if_neg (by decide)]
  refine br.mono (fun r x=>⟨x.1,x.2.1,by lia,x.2.2.2⟩) (DV h f (m+1) (by lia) (by lia) fun i j hij hj=>?_)
  rcases Xf j m with q|q
  ·exact u i j hij q
  ·have:j=m:=by lia
   subst this
   rcases Xf i (j- 1)with z|z
   ·exact Ys c (u i (j- 1) z (by lia))
   ·have:i=j- 1:=by lia
    rw[this];exact c)) fun c=>kF (br.ask (h.lt (by lia)) (h.lt (by lia)) (h.ne (by lia) (by lia) (by lia)) (fun a=>kT ⟨rfl,rfl,sn _,(show m<=n by lia),u⟩) fun c'=>absurd (Fi inj h (i:=m) (j:=m- 1) (by lia) (by lia) (by lia) c) c')
omit inj in
def Iw {p:Array Nat}{m i:Nat}(hm:m<=p.size)(hi:i<p.size):at' (kas_rev p 0 m) i=if i<m then at' p (m- 1- i)else at' p i:=by
 have e:=getElem?_mirror_all (xs:=p) (i:=0) (j:=m) hm i
 refine AU ?_
 unfold kas_rev
 rw[Nat.sub_zero]at e⊢
 rw[e]
 by_cases q:i<m
 ·rw[if_pos ⟨VW _,q⟩,if_pos q,iA (by lia)]
  congr 2;lia
 ·rw[if_neg (fun z=>q z.2),if_neg q,iA hi]
theorem vB {p:Array Nat}{k:Nat}(h:Pm n p)(hk:k<n)(u:Up key p k):∀f l r,l<=r->r<=k->r- l<=f->(∀i,i<l->key (at' p i)<key (at' p k))->(∀i,r<=i->i<k->key (at' p k)<key (at' p i))->
  br (cK key) n (kas_place p k f l r) (fun x=>x<=k/\(∀i,i<x->key (at' p i)<key (at' p k))/\∀i,x<=i->i<k->key (at' p k)<key (at' p i))
 |0,l,r,hl,hr,hf,a,b=>⟨by lia,a,fun i h1 h2=>b i (by lia) h2⟩
 |f+1,l,r,hl,hr,hf,a,b=>by
  unfold kas_place
  by_cases q:l>=r
  ·rw[if_pos q];exact⟨by lia,a,fun i h1 h2=>b i (by lia) h2⟩
  rw[if_neg q]
  have g1:(l+r)/2<r:=by lia
  have g2:l<=(l+r)/2:=by lia
  refine br.ask (h.lt hk) (h.lt (by lia)) (h.ne hk (by lia) (by lia)) (fun c=>kT ?_) (fun c=>kF ?_)
  ·refine vB h hk u f l ((l+r)/2) g2 (by lia) (by lia) a fun i h1 h2=>?_
   rcases Xf ((l+r)/2) i with z|z
   ·exact Ys c (u _ _ z h2)
   ·have:i=(l+r)/2:=by lia
    rw[this];exact c
  ·have lt:=Fi inj h (i:=k) (j:=(l+r)/2) hk (by lia) (by lia) c
   refine vB h hk u f ((l+r)/2+1) r (by lia) hr (by lia) (fun i h1=>?_) b
   rcases Xf i ((l+r)/2)with z|z
   ·exact Ys (u _ _ z (by lia)) lt
   ·have:i=(l+r)/2:=by lia
    rw[this];exact lt
omit inj in
def GN {p:Array Nat}{k d i:Nat}(hk:k<p.size)(hd:d<=k)(hi:i<p.size):at' (bubble p k d) i=if i=k- d then at' p k else if k- d<i/\i<=k then at' p (i- 1)else at' p i:=by
 refine AU ?_
 rw[getElem?_bubble hk d hd i]
 by_cases q:i=k- d
 ·rw[if_pos q,if_pos q];exact iA hk
 ·rw[if_neg q,if_neg q]
  by_cases z:k- d<i/\i<=k
  ·rw[if_pos z,if_pos z];exact iA (by lia)
  ·rw[if_neg z,if_neg z];exact iA hi
theorem HG:∀f (p:Array Nat) k,Pm n p->k+f=n->Up key p k->br (cK key) n (kas_bin f p k) (fun q=>Pm n q/\Up key q n)
 |0,p,k,h,e,u=>⟨h,by rw[<-e];exact u⟩
 |f+1,p,k,h,e,u=>by
  have hk:k<n:=by lia
  refine br.bind (br.mono (fun x ⟨xk,a,b⟩=>?_) (vB inj h hk u k 0 k (VW _) (sn _) (sn _) (fun i hi=>absurd hi (acp _)) fun i h1 h2=>by lia))
  refine HG f _ (k+1) (h.of (bubble_perm _ _ _)) (by lia) fun i j hij hj=>?_
  have hs:=h.sz
  rw[GN (by lia) (Nat.sub_le _ _) (by lia),GN (by lia) (Nat.sub_le _ _) (by lia),show k- (k- x)=x by lia]
  by_cases i1:i=x
  ·rw[if_pos i1,if_neg (by lia),if_pos ⟨by lia,by lia⟩]
   exact b _ (by lia) (by lia)
  ·rw[if_neg i1]
   by_cases i2:x<i/\i<=k
   ·rw[if_pos i2,if_neg (by lia),if_pos ⟨by lia,by lia⟩]
    exact u _ _ (by lia) (by lia)
   ·rw[if_neg i2]
    by_cases j1:j=x
    ·rw[if_pos j1];exact a _ (by lia)
    ·rw[if_neg j1]
     by_cases j2:x<j/\j<=k
     ·rw[if_pos j2]
      exact u _ _ (by lia) (by lia)
     ·rw[if_neg j2]
      exact u _ _ hij (by lia)
omit inj in
def JP:Pm n (aa5 (WJ n)):=⟨by simp,by simp⟩
def Dd {p:Array Nat}(h:Pm n p)(n2:2<=n)(d:key (at' p 1)<key (at' p 0)):br (cK key) n (kas_descPart 1 n p) (fun r=>Pm n r.2/\1<=r.1/\r.1<=n/\Up key r.2 r.1):=by
 unfold kas_descPart
 have dn0:JK key p 2:=fun i j hij hj=>by
  have hi:i=0:=by lia
  have hj:j=1:=by lia
  rw[hi,hj];exact d
 refine br.bind (br.mono (fun r ⟨e1,e2,m1,m2,dn⟩=>?_) (DV inj h (n- (1+1)) 2 (by lia) (by lia) dn0))
 rw[e2,if_neg (by decide),e1]
 unfold kas_tail3
 have h':Pm n (kas_rev p 0 r.2.1):=h.of (mirror_perm _ _ _ _)
 have hs:=h.sz
 have up0:Up key (kas_rev p 0 r.2.1) r.2.1:=fun i j hij hj=>by
  rw[Iw (by lia) (by lia),Iw (by lia) (by lia),if_pos (by lia),if_pos hj]
  exact dn _ _ (by lia) (by lia)
 exact br.bind (br.mono (fun m ⟨g1,g2,g3,_⟩=>⟨h',(show 1<=m by lia),g2,g3⟩) (sh inj h' (n- r.2.1) r.2.1 (by lia) (by lia) up0))
def Jx (n2:2<=n):br (cK key) n (kas_count n (aa5 (WJ n))) (fun r=>Pm n r.2/\1<=r.1/\r.1<=n/\Up key r.2 r.1):=by
 have h:=JP (n:=n)
 unfold kas_count
 refine br.bind (br.mono (fun m ⟨m1,m2,u,st⟩=>?_) (sh inj h (n- 1) 1 (sn _) (by lia) fun i j hij hj=>absurd hj (by lia)))
 by_cases q:m=n
 ·rw[if_pos (by rw[q];exact beq_self_eq_true n)]
  exact⟨h,m1,m2,u⟩
 ·rw[if_neg (fun z=>q (beq_iff_eq.mp z))]
  by_cases q1:m>1
  ·rw[if_pos q1]
   exact br.ask (h.lt (by lia)) (h.lt (by lia)) (h.ne (by lia) (by lia) (by lia)) (fun a=>kT ⟨h,m1,m2,u⟩) fun c=>absurd (u 0 (m- 1) (by lia) (by lia)) c
  ·rw[if_neg q1]
   have:m=1:=by lia
   subst this
   exact Dd inj h n2 (st.resolve_left q)
def MX (n2:2<=n):br (cK key) n (kas_sort n) (fun p=>Pm n p/\Up key p n):=by
 unfold kas_sort
 refine br.bind (br.mono (fun r ⟨g1,g2,g3,g4⟩=>?_) (Jx inj n2))
 by_cases q:r.1<n
 ·rw[if_pos q,show max r.1 1=r.1 by lia]
  exact HG inj _ _ _ g1 (by lia) g4
 ·rw[if_neg q]
  have:r.1=n:=by lia
  exact⟨g1,by rw[<-this];exact g4⟩
end
end L2
namespace HT
open PySem PySem.Calls PySem.W PyProof.Rows L2
section
variable {prog:VM}{w:Wm}{A:Wj}{E:pz->Bn->Prop}{s:Bn}
def vv (h:Heap)(as:List Addr)(ks:List Int):Prop:=as.length=ks.length/\∀(j:Nat)(a:Addr),as[j]?=some a->∃k t v,ks[j]?=some k/\h.get? a=some ({cls:=.type "tuple",data:=.seq #[.int k t,v]}:Obj)
def vv.cons {h:Heap}{a:Addr}{as:List Addr}{k:Int}{ks:List Int}(T:vv h (a::as) (k::ks)):(∃t v,h.get? a=some ({cls:=.type "tuple",data:=.seq #[.int k t,v]}:Obj))/\vv h as ks:=by
 obtain⟨l,T⟩:=T
 refine⟨?_,by simpa using l,fun j b hb=>by simpa using T (j+1) b (by simpa using hb)⟩
 obtain⟨k',t,v,e,x⟩:=T 0 a rfl
 obtain rfl:=VR e
 exact⟨t,v,x⟩
theorem vv.kat {h:Heap}:∀{as:List Addr}{ks:List Int},vv h as ks->∃fs,KatTups h (as.map Lt) fs/\fs.length=as.length/\∀v∈fs,∃k t,v=YC k t
 |[],_,_=>⟨[],.nil,rfl,fun b z=>nomatch z⟩
 |a::as,[],T=>by have:=T.1;simp at this
 |a::as,k::ks,T=>by
  obtain⟨⟨t,v,e⟩,T'⟩:=T.cons
  obtain⟨fs,h1,h2,h3⟩:=T'.kat
  refine⟨.int k t::fs,KatTups.cons e rfl rfl rfl h1,by simp[h2],fun x hx=>?_⟩
  rcases tx.mp hx with rfl|hx
  ·exact⟨k,t,rfl⟩
  ·exact h3 x hx
theorem DY {κ:SortKind}{vs:List pz}{c:Nat->Nat->Bool}{n:Nat}{Q:Array Nat->Prop}{G:Array Nat->Bn->Prop}(hc:∀i j (C:Bool->Bn->Prop),i<n->j<n->i≠j->C (c i j) s->kas_ask prog w A κ vs i j C s)(hQ:∀p,Q p->G p s):
  ∀{t:KasT (Array Nat)},br c n t Q->t.kasWp (kas_ask prog w A κ vs) G s
 |.ret p,h=>hQ p h
 |.ask i j k,h=>hc i j _ h.1 h.2.1 h.2.2.1 (DY hc hQ h.2.2.2)
def vR {as:List Addr}{i:Nat}(h:i<as.length):∃a,as[i]?=some a/\(as.map Lt).getD i Xb=.ref a:=by
 refine⟨as[i],Dc h,?_⟩
 rw[VA,VG,Dc h];rfl
def HP (vs:List pz):(pairsOf vs).map (·.2)=vs.toArray:=by
 apply Array.toList_inj.mp
 rw[Array.toList_map,pairsOf_toList,<-List.unzip_snd,List.unzip_zip rfl]
def wZ {α:Type}(l:List α)(d:α):(WJ l.length).map (fun i=>l.getD i d)=l:=by
 refine List.ext_getElem (by simp) fun i h1 h2=>?_
 rw[List.getElem_map,List.getElem_range,VA,Dc h2];rfl
def FS {a:Addr}{as:List Addr}{ks:List Int}{n:Nat}{P:Fin->Bn->Prop}(ho:s.heap.get? a=some (seqObj "list" (as.map Lt).toArray n))(T:vv s.heap as ks)(nd:ks.Nodup)(h64:as.length<64)
  (h:∀q:List Nat,q.Perm (WJ as.length)->(q.map fun i=>ks.getD i 0).Pairwise (·<·)->P (.done (.ret .none)) {s with heap:=sortedHeap s.heap a (as.map Lt) (q.map fun i=>(as.map Lt).getD i Xb).toArray}):
  wpAny (model prog w) A (Zb.«list.sort» ⟨[.ref a],[]⟩) P E s:=by
 rw[list_sort_plain]
 have ha:a<s.heap.objs.size:=Vq ho
 have hls:(as.map Lt).length=as.length:=Vy ..
 refine pv (listItems_at ho rfl ?_)
 refine pv (abC ho rfl ?_ (by rw[Vv,hls,VE];lia) (VW _))
 obtain⟨e1,ho1⟩:∃e1,(s.heap.update a (Wy fun b=>#[])).get? a=some (seqObj "list" #[] e1):=⟨_,get?_update_seq ho (fun b=>#[])⟩
 refine pv (acn ho1 rfl ?_)
 refine pv (abd ?_ (by show(as.map Lt).length<=_;rw[hls,VE];lia))
 refine pv (abx ?_ (VW _))
 refine WN ?_
 have ho6:(((s.heap.update a (Wy fun b=>#[])).push (seqObj "tuple" (as.map Lt).toArray 0)).push (seqObj "list" #[] 0)).get? a=some (seqObj "list" #[] e1):=by
  rw[abL _ _ _ (by rw[size_push',Yt];exact VD (Ym ha)),abL _ _ _ (by rw[Yt];exact VD ha)]
  exact ho1
 show wpAny (model prog w) A _ P E {s with heap:=((s.heap.update a (Wy fun b=>#[])).push (seqObj "tuple" (as.map Lt).toArray 0)).push (seqObj "list" #[] 0)}
 dsimp only
 have hsz:(as.map Lt).toArray.size=as.length:=by simp
 have T6:vv (((s.heap.update a (Wy fun b=>#[])).push (seqObj "tuple" (as.map Lt).toArray 0)).push (seqObj "list" #[] 0)) as ks:=⟨T.1,fun j x hx=>by
  obtain⟨k,t,v,e1,e2⟩:=T.2 j x hx
  have ne:x≠a:=fun z=>by
   subst z;rw[ho]at e2
   have z2:XH "list"=XH "tuple":=congrArg Obj.cls (VR e2)
   exact absurd z2 (by decide)
  exact⟨k,t,v,e1,gV _ (gV _ ((WT _ _ ne.symm).trans e2))⟩⟩
 by_cases h2:as.length<2
 ·rw[if_pos (by rw[hsz];exact h2),if_pos (by rw[hsz];exact h2)]
  refine pv (Vt ?_)
  rw[StateT.run_pure]
  refine pv (Vt ?_)
  dsimp only
  refine pv (acn ho6 rfl ?_)
  refine pv (abC ho6 rfl ?_ (VW _) (by rw[Array.size_map];show(pairsOf (as.map Lt)).size<=_;rw[pairsOf_size,hls,VE];lia))
  simp only[bne_self_eq_false,WG,if_false]
  refine Vt ?_
  have e:(arrOf (SortSt.mk' general' ((as.map Lt).toArray.zip (as.map Lt).toArray) #[] 7 none)).map (·.2)=((WJ as.length).map fun i=>(as.map Lt).getD i Xb).toArray:=by
   show(pairsOf (as.map Lt)).map (·.2)=_
   have r:=wZ (as.map Lt) Xb
   rw[Vy]at r
   rw[HP,r]
  have f:=h (WJ as.length) (.refl _) (by
   match as,h2 with
   |[],_=>exact .nil
   |[_],_=>exact YX _ _)
  rw[<-e]at f
  exact f
 ·rw[if_neg (by rw[hsz];exact h2),if_neg (by rw[hsz];exact h2)]
  obtain⟨fs,kt,lf,iv⟩:=T6.kat
  refine pv (kat_kind (T:=XH "int") kt (by lia) (fun v hv=>by obtain⟨k,t,rfl⟩:=iv v hv;exact Looks.of_pure rfl) (by decide) ?_)
  have inj:∀i j,i<as.length->j<as.length->ks.getD i 0=ks.getD j 0->i=j:=fun i j hi hj e=>by
   have l:=T.1
   rw[VA,VA,Dc (by lia),Dc (by lia)]at e
   exact(aai nd).mp e
  refine pv (VT (kat_run (prog:=prog) (w:=w) (E:=E) (κ:=tuples' (XH "int" !=XH "tuple")) (ks:=as.map Lt) (vs:=as.map Lt) (G:=fun p s'=>s'={s with heap:=((s.heap.update a (Wy fun b=>#[])).push (seqObj "tuple" (as.map Lt).toArray 0)).push (seqObj "list" #[] 0)}/\Pm as.length p/\Up (fun i=>ks.getD i 0) p as.length)
   (Q:=fun st' s'=>∃p:Array Nat,arrOf st'=p.map (kas_item ((as.map Lt).toArray.zip (as.map Lt).toArray))/\failedOf st'=none/\s'={s with heap:=((s.heap.update a (Wy fun b=>#[])).push (seqObj "tuple" (as.map Lt).toArray 0)).push (seqObj "list" #[] 0)}/\Pm as.length p/\Up (fun i=>ks.getD i 0) p as.length)
   rfl (by rw[hls];lia) (by rw[hls];exact h64) (fun p st' s' a1 a2 a3 a4=>⟨p,a2,a3,a4⟩) ?_) ?_ fun b b e=>e)
  ·rw[hls]
   refine DY (c:=cK fun i=>ks.getD i 0) (n:=as.length) (Q:=fun p=>Pm as.length p/\Up (fun i=>ks.getD i 0) p as.length) (fun i j C hi hj hij hC=>?_) (fun p hp=>⟨rfl,hp⟩) (MX inj (by lia))
   obtain⟨x,ex,ex'⟩:=vR hi
   obtain⟨y,ey,ey'⟩:=vR hj
   obtain⟨k1,t1,v1,g1,o1⟩:=T6.2 i x ex
   obtain⟨k2,t2,v2,g2,o2⟩:=T6.2 j y ey
   have f1:ks.getD i 0=k1:=by rw[VA,g1];rfl
   have f2:ks.getD j 0=k2:=by rw[VA,g2];rfl
   have hC':C (decide (k1<k2)) {s with heap:=((s.heap.update a (Wy fun b=>#[])).push (seqObj "tuple" (as.map Lt).toArray 0)).push (seqObj "list" #[] 0)}:=by rw[<-f1,<-f2];exact hC
   unfold kas_ask
   rw[ex',ey']
   refine kat_lt o1 rfl o2 rfl (kat_cons (wpAny_eqBool_int ?_))
   have q:k1≠k2:=fun q=>hij (inj i j hi hj (by rw[f1,f2,q]))
   rw[show(k1==k2)=false from beq_eq_false_iff_ne.mpr q]
   exact kat_no (oneLt_int hC')
  ·rintro⟨⟨⟩,st'⟩ s' ⟨p,har,hf,rfl,pm,up⟩
   dsimp only
   have hout:=kat_snds (ks:=as.map Lt) (vs:=as.map Lt) rfl har
   have hsz2:(aa5 (p.toList.map fun i=>(as.map Lt).getD i Xb)).size=as.length:=by rw[Vv,Vy,Xg,pm.sz]
   rw[hout]
   refine pv (acn ho6 rfl ?_)
   refine pv (abC ho6 rfl ?_ (VW _) (VO (YL hsz2) (by rw[VE];lia)))
   rw[hf]
   simp only[bne_self_eq_false,WG,if_false]
   refine Vt (h p.toList pm.pm ?_)
   refine WW.mpr (YM.mpr fun i j hi hj hij=>?_)
   have hi':i<p.size:=by simpa using hi
   have hj':j<p.size:=by simpa using hj
   have u:=up i j hij (by rw[<-pm.sz];exact hj')
   rw[AU (show p[i]?=some p[i]from Wp hi'),AU (show p[j]?=some p[j]from Wp hj')]at u
   simpa using u
end
end HT
namespace L2
open PySem PySem.Spec PyProof.Rows PySem.W
section
variable {X:Cx}{pins:List (Addr×Obj)}{σ:St}{H:Hp}{s:Bn}{h':Heap}{tk:Nat}
def ba.there {P:VM}{w:Wm}{h:Heap}{a:Addr}{o:HO}(x:ba P w H h a o):∃q,h.get? a=some q:=by
 cases o with
 |lst xs=>obtain⟨b,b,b,b,e⟩:=x;exact⟨_,e⟩
 |tup xs=>obtain⟨b,b,b,o,e,b⟩:=x;exact⟨_,e⟩
 |dK kvs=>obtain⟨b,b,b,b,o,b,b,e,b⟩:=x;exact⟨_,e⟩
 |dT kvs=>obtain⟨b,b,b,b,o,b,b,e,b⟩:=x;exact⟨_,e⟩
 |set S n=>obtain⟨o,b,b,b,e,b⟩:=x;exact⟨_,e⟩
 |ins C dx fs=>obtain⟨b,b,b,e,b⟩:=x;exact⟨_,e⟩
 |own y=>exact x
 |xd fs=>obtain⟨b,⟨b,b,b,e,b⟩,b⟩:=x;exact⟨_,e⟩
 |rng lo hi=>obtain⟨b,b,b,e⟩:=x;exact⟨_,e⟩
 |frz ob u=>exact⟨_,x.1⟩
 |tbl ps=>exact⟨_,x⟩
 |met f y=>exact⟨_,x⟩
 |ext φ=>exact x.2.1
def New (h:Heap)(a:Addr):Prop:=∀b u,h.get? b=some u->b≠a
def New.free {a:Addr}(n:New s.heap a)(I:Inv X pins σ H s):H a=none:=by
 cases e:H a with
 |none=>rfl
 |some o=>obtain⟨q,z⟩:=(I.hok a o e).there;exact absurd rfl (n a q z)
def Inv.track3 {a:Addr}{o:HO}{H1:Hp}{s0:Bn}(I0:Inv X pins σ H1 s0)(I:Inv X pins σ H s)(ne:New s0.heap a)(hn:H a=none)(ok:ba X.prog X.w (upd H a o) s.heap a o):Inv X pins σ (upd H a o) s:=by
 have nL:X.env.locals≠a:=let ⟨m,⟨o',_,_,e,_⟩,_⟩:=I0.loc;ne _ _ e
 refine⟨I.ok,I.os,I.bare,⟨I.base.keep,I.base.slot,fun b u e n hx=>?_,I.base.there,fun b xs e=>?_,fun b u v e=>?_,fun b ps e=>?_⟩,I.loc,I.cell,?_,fun x c e=>?_,fun p hp=>?_,fun b u e=>?_,I.len⟩
 ·obtain⟨o',e'⟩:=I0.base.there b u e hx
  rw[ay (ne b o' e')];exact I.base.free b u e n hx
 ·have:=I.base.tups b xs e
  rw[ay (aO this hn)];exact this
 ·have:=I.base.frzs b u v e
  rw[ay (aO this hn)];exact this
 ·obtain⟨more,this⟩:=I.base.tbls b ps e
  exact⟨more,by rw[ay (aO this hn)];exact this⟩
 ·rw[ay nL];exact I.free
 ·obtain⟨v,o',e',d⟩:=I0.cell x c e
  rw[ay (ne _ _ e')];exact I.freeC x c e
 ·obtain⟨h1,h2,h3⟩:=I.pin p hp
  exact⟨h1,by rw[ay (ne _ _ (I0.pin p hp).1)];exact h2,h3⟩
 ·by_cases hb:b=a
  ·subst hb
   rw[aT]at e;obtain rfl:=VR e
   exact ok
  ·rw[ay hb]at e
   have nt:∀c q,H c=some q->upd H a o c=some q:=fun c q z=>by rw[ay (aO z hn)];exact z
   exact(I.hok b u e).stay (fun c v d q=>q) (fun c q=>nt _ _ q) fun c xs q=>nt _ _ q
def vwO (p a:Addr):HO:=.ext fun h=>h.get? p=some {cls:=.type "dict_items",data:=.fields #[.ref a]}
def NJ:V->List V->Hp->VK->Prop:=fun x vs H Q=>∃a kvs,x=.ref a/\vs=[]/\H a=some (.dK kvs)/\∀p,H p=none->Q (.ref p) (upd H p (vwO p a))
def Ka:MtR X "dict.items" NJ:=by
 intro pins s σ H x vs v us Q I rx rv h
 obtain⟨a,kvs,rfl,rfl,ha,q⟩:=h
 obtain rfl:v=Lt a:=rx
 have hus:=rv.zero
 subst hus
 obtain⟨z,hd,ws,rel,dd⟩:=tF I.hok ha
 refine ZH YS dd.typeIs PySem.F.entry_dict_items (PySem.F.args_dict_items_1 _) (meets_dict_items (bG X.prog X.w) a hd) ⟨⟨ws,dd⟩,?_⟩
 exact⟨.ref _,_,I.laid (o:=vwO s.heap.objs.size a) (t':=s.toks) (fun b o e=>gV _ e) (sn _) ⟨Vr _ rfl,⟨_,Vr _ rfl⟩,fun h1 h2 e k=>k _ e⟩,rfl,q _ (I.hok.fresh (sn _))⟩
theorem wU {as:List Addr}{rs:List (V×V)}{lo:Addr}(I:Inv X pins σ H s)(kk:∀b o,s.heap.get? b=some o->h'.get? b=some o)(hlo:s.heap.objs.size<=lo)(rise:as.Pairwise (· < ·))(above:∀a∈as,lo<=a)
  (pr:∀(j:Nat)(a:Addr),as[j]? =some a->∃r x y,rs[j]? =some r/\aL r.1 x/\aL r.2 y/\h'.get? a=some ({cls:=.type "tuple",data:=.seq #[x,y]}:Obj)):
  ∀n,n<=as.length->∃H',bc H H'/\(∀(j:Nat)(a:Addr)(r:V×V),j<n->as[j]? =some a->rs[j]? =some r->H' a=some (.tup [r.1,r.2]))/\(∀b,H b=none->b∉as.take n->H' b=none)/\Inv X pins σ H' {s with heap:=h',toks:=tk}
 |0,_=>⟨H,.refl H,(fun c c c hj=>absurd hj (acp _)),(fun b e c=>e),I.kept kk⟩
 |n+1,hn=>by
  obtain⟨H1,S1,t1,f1,I1⟩:=wU I kk hlo rise above pr n (by lia)
  have hlt:n<as.length:=by lia
  have ea:as[n]? =some as[n]:=Dc hlt
  obtain⟨r,x,y,er,rx,ry,e3⟩:=pr n _ ea
  have ge:s.heap.objs.size<=as[n]:=VO hlo (above _ (VP ea))
  have nin:as[n]∉as.take n:=fun hm=>by
   obtain⟨j,hj⟩:=Wu.mp hm
   have hjn:j<n:=by have:=(Vz.mp hj).1;rw[VN]at this;lia
   rw[XD,if_pos hjn]at hj
   have:=YM.mp rise j n (by lia) hlt hjn
   rw[(Vz.mp hj).2]at this
   exact Wz _ this
  have hfree:H1 as[n]=none:=f1 _ (I.hok.fresh ge) nin
  have I2:Inv X pins σ (upd H1 as[n] (.tup [r.1,r.2])) {s with heap:=h',toks:=tk}:=Inv.track2 I I1 ge hfree ⟨by show 2<=sizeLine;decide,[x,y],.cons rx (.cons ry .nil),⟨_,e3,rfl,_,rfl⟩⟩
  refine⟨_,S1.trans (bc.upd hfree),fun j a r' hj ha hr=>?_,fun b e hb=>?_,I2⟩
  ·rcases abO (ab2 hj)with h|h
   ·exact bc.upd hfree _ _ (t1 j a r' h ha hr)
   ·subst h
    rw[ea]at ha;obtain rfl:=VR ha
    rw[er]at hr;obtain rfl:=VR hr
    exact aT
  ·have nb:b≠as[n]:=fun q=>hb (by rw[q];exact Wu.mpr ⟨n,by rw[XD,if_pos (Wx _)];exact ea⟩)
   rw[ay nb]
   exact f1 b e fun q=>hb (by rw[acq];exact Xp _ q)
noncomputable def oS (rs:List (Int×V)):List (Key×V):=rs.map fun r=>(.inl r.1,r.2)
def Ih (rs:List (Int×V))(H:Hp)(Q:VK):Prop:=
 ∀(l:Addr)(ps:List Addr)(H':Hp),H l=none->bc H H'->ps.length=rs.length->(∀(j:Nat)(p:Addr)(r:Int×V),ps[j]?=some p->rs[j]?=some r->H p=none/\H' p=some (.tup [.int r.1,r.2]))->H' l=some (.lst (ps.map V.ref))->Q (.ref l) H'
def LF (K:W.Frag):List V->Hp->VK->Prop:=fun xs H Q=>
 (∃p a rs,xs=[.ref p]/\H p=some (vwO p a)/\H a=some (.dK (oS rs))/\rs.length<64/\(rs.map (·.1)).Nodup/\∀rs',rs'.Perm rs->rs'.Pairwise (fun x y=>x.1<y.1)->Ih rs' H Q)\/
 (∃a rs,xs=[.ref a]/\H a=some (.dK (oS rs))/\rs.length<64/\∀(l:Addr)(ns:List Int),H l=none->ns.Perm (rs.map (·.1))->ns.Pairwise (·<=·)->Q (.ref l) (upd H l (.lst (ns.map V.int))))
def EQ {P:VM}{w:Wm}{i:Int}{v:pz}(h:(bG P w).is (.inl i) v=true):∃t,v=YC i t:=by
 rcases cF (k:=.inl i) (v:=v) h with⟨j,t,e,rfl⟩|⟨x,t,e,a⟩
 ·injection e with e;subst e;exact⟨t,rfl⟩
 ·injection e
def KQ {rs:List (Int×V)}{vs:List (Key×pz)}(r:KV (oS rs) vs){j:Nat}{k:Key}{x:pz}(e:vs[j]? =some (k,x)):∃q,rs[j]? =some q/\k=.inl q.1/\aL q.2 x:=by
 unfold KV oS at r
 induction rs generalizing vs j with
 |nil=>cases r;simp at e
 |cons q rs ih=>
  cases r with
  |cons h t=>
   cases j with
   |zero=>obtain rfl:=VR e;exact⟨q,rfl,h.1.symm,h.2⟩
   |succ j=>exact ih t (by simpa using e)
def GI {rs:List (Int×V)}{vs:List (Key×pz)}(r:KV (oS rs) vs):vs.length=rs.length:=by
 rw[<-r.length];unfold oS;rw[Vy]
def GU (as:List Addr):aU (as.map V.ref) (as.map Lt):=by
 induction as with
 |nil=>exact .nil
 |cons a r ih=>exact .cons rfl ih
def HF {Q:VK}{rs rs':List (Int×V)}{as as':List Addr}{B lo:Addr}{c:Nat}(I:Inv X pins σ H s)(kk:∀b o,s.heap.get? b=some o->h'.get? b=some o)(hlo:s.heap.objs.size<=lo)(rise:as.Pairwise (·<·))(above:∀a∈as,lo<=a)
  (pr:∀(j:Nat)(a:Addr),as[j]?=some a->∃r t y,rs[j]?=some r/\aL r.2 y/\h'.get? a=some ({cls:=.type "tuple",data:=.seq #[.int r.1 t,y]}:Obj))
  (hB:New s.heap B)(nB:B∉as)(oB:h'.get? B=some {cls:=.type "list",data:=.seq (as'.map Lt).toArray c})(lB:as'.length<=sizeLine)(l':as'.length=rs'.length)
  (ix:∀(j:Nat)(p:Addr)(r:Int×V),as'[j]?=some p->rs'[j]?=some r->∃i:Nat,as[i]?=some p/\rs[i]?=some r)(q:Ih rs' H Q):EP X pins σ Q (.ref B) {s with heap:=h',toks:=tk}:=by
 obtain⟨H',S',tr,fr,I'⟩:=wU (tk:=tk) (rs:=rs.map fun r=>(V.int r.1,r.2)) I kk hlo rise above (fun j a ha=>by
  obtain⟨r,t,y,e1,e2,e3⟩:=pr j a ha
  exact⟨(.int r.1,r.2),.int r.1 t,y,by rw[VG,e1];rfl,⟨t,rfl⟩,e2,e3⟩) as.length (sn _)
 have hBn:H' B=none:=fr _ (hB.free I) fun hm=>nB (Zq hm)
 have I2:Inv X pins σ (upd H' B (.lst (as'.map V.ref))) {s with heap:=h',toks:=tk}:=Inv.track3 I I' hB hBn ⟨by rw[Vy];exact lB,as'.map Lt,c,GU as',oB⟩
 refine⟨.ref B,_,I2,rfl,q B as' _ (hB.free I) (S'.trans (bc.upd hBn)) l' (fun j p r hj hr=>?_) aT⟩
 obtain⟨i,e1,e2⟩:=ix j p r hj hr
 refine⟨I.hok.fresh (VO hlo (above _ (VP e1))),bc.upd hBn _ _ (tr i p (.int r.1,r.2) (Vz.mp e1).1 e1 (by rw[VG,e2];rfl))⟩
def Mm (hc:X.calm=true):bq X (.builtin "sorted") (LF X.K):=fun pins s σ H xs us Q I r h=>by
 rcases h with⟨p,a,rs,rfl,hp,ha,h64,nd,q⟩|⟨a,rs,rfl,ha,h64,q⟩
 ·obtain⟨u,rfl,ru⟩:=eC r
  obtain rfl:u=Lt p:=ru
  obtain⟨op,d,d⟩:=(show ba X.prog X.w H s.heap p (vwO p a)from I.hok p _ hp)
  obtain⟨z,hd,vs,rel,dd⟩:=tF I.hok ha
  obtain⟨ep,dat⟩:=dd.dictAt
  have lv:=GI rel
  refine YH kind_sorted plain_sorted entry_sorted (args_sorted1 _) ?_
  unfold Zb.«sorted»
  refine pv (m:=checkCount "sorted" 1 1 _) (Vt ?_)
  refine pv (kdx_collect (A:=X.A.in1) (knd:=bG X.prog X.w) (kvs:=vs) (ep:=ep) (I.ok.hd hc) ⟨_,op,rfl,rfl⟩ dat (by rw[lv,VE];lia) fun h1 tk as hk hl hG=>?_)
  refine pv (abx ?_ (by rw[Vy,hl,lv,VE];lia))
  have hB:(h1.push {cls:=.type "list",data:=.seq (as.map Lt).toArray}).get? h1.objs.size=some (seqObj "list" (as.map Lt).toArray 0):=Vr _ rfl
  have tup:∀(j:Nat)(b:Addr),as[j]? =some b->∃r t y,rs[j]? =some r/\aL r.2 y/\(h1.push {cls:=.type "list",data:=.seq (as.map Lt).toArray}).get? b=some ({cls:=.type "tuple",data:=.seq #[.int r.1 t,y]}:Obj):=fun j b hb=>by
   obtain⟨key,k,x,e1,e2,e3⟩:=hG.pairs j b hb
   obtain⟨r,er,rfl,rv⟩:=KQ rel e1
   obtain⟨t,rfl⟩:=EQ e2
   exact⟨r,t,x,er,rv,gV _ e3⟩
  refine pv (WN (Xd slot_list_sort ⟨_,hB,rfl⟩ entry_list_sort ?_ (args_list_sort _)))
  refine HT.FS (as:=as) (ks:=rs.map (·.1)) hB ⟨by rw[hl,lv,Vy],fun j b hb=>?_⟩ nd (by rw[hl,lv];exact h64) fun qs pm up=>?_
  ·obtain⟨r,t,y,e1,d,e3⟩:=tup j b hb
   exact⟨r.1,t,y,by rw[VG,e1];rfl,e3⟩
  ·refine⟨_,rfl,Vt ⟨_,rfl,?_⟩⟩
   have pl:∀i∈qs,i<rs.length:=fun i hi=>by have:=Yp.mp (pm.mem_iff.mp hi);lia
   have er:(qs.map fun i=>rs.getD i (0,.non)).Perm rs:=by
    have:=pm.map fun i=>rs.getD i (0,V.non)
    rw[hl,lv,HT.wZ]at this
    exact this
   have ek:∀i,(rs.map (·.1)).getD i 0=(rs.getD i (0,V.non)).1:=fun i=>by
    rw[VA,VA,VG];cases rs[i]? <;>rfl
   have ea:(qs.map fun i=>(as.map Lt).getD i Xb)=(qs.map fun i=>as.getD i 0).map Lt:=by
    rw[WA]
    refine XU fun i hi=>?_
    obtain⟨b,e1,e2⟩:=HT.vR (as:=as) (i:=i) (by have:=pl i hi;lia)
    rw[e2];show _=Lt (as.getD i 0);rw[VA,e1];rfl
   have hBa:=sortedHeap_at (out:=(qs.map fun i=>(as.map Lt).getD i Xb).toArray) hB
   obtain⟨c,hBa⟩:=hBa
   have old:∀b,b≠h1.objs.size->b<h1.objs.size->∀o,h1.get? b=some o->(sortedHeap (h1.push {cls:=.type "list",data:=.seq (as.map Lt).toArray}) h1.objs.size (as.map Lt) (qs.map fun i=>(as.map Lt).getD i Xb).toArray).get? b=some o:=fun b n l o e=>by
    rw[abj n (by rw[WD];exact Ym l)];exact gV _ e
   have lt1:∀b o,h1.get? b=some o->b<h1.objs.size:=fun b o e=>Vq e
   refine HF (s:=s) (rs:=rs) (rs':=qs.map fun i=>rs.getD i (0,.non)) (as:=as) (as':=qs.map fun i=>as.getD i 0) (lo:=s.heap.objs.size) (c:=c) I (fun b o e=>old b (VD (lt1 _ _ (hk b o e))) (lt1 _ _ (hk b o e)) o (hk b o e)) (sn _) hG.rise (fun a ha=>XX (hG.above a ha)) (fun j b hb=>?_)
    (fun b u e z=>by subst z;exact Wz _ (lt1 _ _ (hk _ u e))) (fun z=>Wz _ (hG.there z)) (by rw[hBa,ea]) (by rw[Vy,pm.length_eq,List.length_range,hl,lv,VE];lia) (by rw[Vy,Vy]) (fun j b r hj hr=>?_) (q _ er ?_)
   ·obtain⟨r,t,y,e1,e2,e3⟩:=tup j b hb
    have lb:=hG.there (VP hb)
    refine⟨r,t,y,e1,e2,?_⟩
    rw[abj (VD lb) (by rw[WD];exact Ym lb)]
    exact e3
   ·rw[VG]at hj hr
    obtain⟨i,e1,e2⟩:=WM.mp hj
    rw[e1]at hr
    have hi:=pl i (VP e1)
    refine⟨i,?_,?_⟩
    ·rw[<-e2,VA,Dc (by lia)];rfl
    ·obtain rfl:=VR hr;show _=some (rs.getD i (0,V.non));rw[VA,Dc hi];rfl
   ·refine WW.mpr ((WW.mp up).imp fun{i j} z=>?_)
    rw[ek,ek]at z;exact z
 ·obtain⟨u,rfl,ru⟩:=eC r
  obtain rfl:u=Lt a:=ru
  obtain⟨z,hd,vs,rel,dd⟩:=tF I.hok ha
  obtain⟨ep,dat⟩:=dd.dictAt
  have lv:=GI rel
  refine YH kind_sorted plain_sorted entry_sorted (args_sorted1 _) ?_
  unfold Zb.«sorted»
  refine pv (m:=checkCount "sorted" 1 1 _) (Vt ?_)
  refine pv (kdu_collect (A:=X.A.in1) (kdl_dict (knd:=bG X.prog X.w) (kvs:=vs) (ep:=ep) hd) (I.ok.hd hc) dat (by rw[lv,VE];lia) fun h1 tk acc hk hacc=>?_)
  have la:acc.toList.length=rs.length:=by rw[Xg,<-lv];exact hacc.1
  refine pv (abx ?_ (by rw[la,VE];lia))
  have hB:(h1.push {cls:=.type "list",data:=.seq acc.toList.toArray}).get? h1.objs.size=some (seqObj "list" acc.toList.toArray 0):=Vr _ rfl
  have hI:aa1 acc.toList (rs.map (·.1)):=by
   have:∀(l:List pz)(ns:List Int),l.length=ns.length->(∀(j:Nat)(v:pz),l[j]? =some v->∃n t,ns[j]? =some n/\v=.int n t)->aa1 l ns:=by
    intro l
    induction l with
    |nil=>intro ns hl d;cases ns with
     |nil=>exact .nil
     |cons=>simp at hl
    |cons v l ih=>
     intro ns hl hv
     cases ns with
     |nil=>simp at hl
     |cons n ns=>
      obtain⟨n',t,e,rfl⟩:=hv 0 v rfl
      obtain rfl:=VR e
      exact .cons n t (ih ns (by simpa using hl) fun j v hj=>by simpa using hv (j+1) v (by simpa using hj))
   refine this _ _ (by rw[la,Vy]) fun j v hj=>?_
   obtain⟨k,x,e1,e2⟩:=hacc.2 j v (by rw[<-Xm];exact hj)
   obtain⟨r,er,rfl,d⟩:=KQ rel e1
   obtain⟨t,rfl⟩:=EQ e2
   exact⟨r.1,t,by rw[VG,er];rfl,rfl⟩
  refine pv (WN (Xd slot_list_sort ⟨_,hB,rfl⟩ entry_list_sort ?_ (args_list_sort _)))
  refine list_sort_tree hB hI (by rw[la];exact h64) fun out ns' hI' pm up=>?_
  refine⟨_,rfl,Vt ⟨_,rfl,?_⟩⟩
  obtain⟨c,hBa⟩:=sortedHeap_at (out:=out) hB
  have lt1:∀b o,h1.get? b=some o->b<h1.objs.size:=fun b o e=>Vq e
  have nw:New s.heap h1.objs.size:=fun b u e z=>by subst z;exact Wz _ (lt1 _ _ (hk _ u e))
  have I1:Inv X pins σ H {s with heap:=sortedHeap (h1.push {cls:=.type "list",data:=.seq acc.toList.toArray}) h1.objs.size acc.toList out,toks:=tk}:=I.kept fun b o e=>by
   rw[abj (VD (lt1 _ _ (hk b o e))) (by rw[WD];exact Ym (lt1 _ _ (hk b o e)))]
   exact gV _ (hk b o e)
  have lo:ns'.length=rs.length:=by rw[pm.length_eq,Vy]
  have hl2:(ns'.map V.int).length<=sizeLine:=by rw[Vy,lo,VE];lia
  exact⟨.ref h1.objs.size,_,Inv.track3 I I1 nw (nw.free I) (o:=.lst (ns'.map V.int)) ⟨hl2,out.toList,c,si hI',by rw[hBa,Array.toArray_toList]⟩,rfl,q _ ns' (nw.free I) pm up⟩
def So (K:W.Frag):List V->Hp->VK->Prop:=fun xs H Q=>∃a kvs,xs=[.ref a]/\H a=some (.dK kvs)/\∀p,H p=none->Q (.ref p) (upd H p (.dK kvs))
def SX:bq X (.type "dict") (So X.K):=fun pins s σ H xs us Q I r h=>by
 obtain⟨a,kvs,rfl,ha,q⟩:=h
 obtain⟨u,rfl,ru⟩:=eC r
 obtain rfl:u=Lt a:=ru
 exact Iz I (.inl ha) fun p s' hp I'=>⟨.ref p,_,I',rfl,q p hp⟩
def Sw:V->List V->Hp->VK->Prop:=fun x vs H Q=>∃a kvs k v,x=.ref a/\vs=[kV k]/\H a=some (.dK kvs)/\eQ kvs k=some v/\Q v (upd H a (.dK (kR kvs k)))
def LE:MtR X "dict.pop" Sw:=by
 intro pins s σ H x vs v us Q I rx rv h
 obtain⟨a,kvs,k,v',rfl,rfl,ha,l,q⟩:=h
 obtain rfl:v=Lt a:=rx
 obtain⟨uy,rfl,ry⟩:=rv.one
 exact Rf (more:=[]) I ha ry l (.inl rfl) fun w' s' I' r'=>⟨_,_,I',r',q⟩
end
end L2
namespace Rs
def EF (b x y c:Nat):Prop:=c<=b/\x/2^(b- c)=y/2^(b- c)/\(c=b\/x/2^(b- (c+1))≠y/2^(b- (c+1)))
abbrev st (B k d:Nat):Nat:=k/2^(B- d)
noncomputable abbrev sd (B k d:Nat):Nat:=k/2^(B- 1- d)%2
inductive Kn (α:Type)where
 |bare
 |leaf (k:Nat) (t:α)
 |fork (d b:Nat) (l r:Kn α)
section
variable {α:Type}
noncomputable def aW:Kn α->List (Nat×α)
 |.bare=>[]
 |.leaf k t=>[(k,t)]
 |.fork _ _ l r=>aW l++aW r
def aD (B key:Nat):Kn α->Option α
 |.bare=>none
 |.leaf k t=>if key=k then some t else none
 |.fork d _ l r=>if sd B key d=0 then aD B key l else aD B key r
def WF (B:Nat):Nat->Nat->Kn α->Prop
 |_,_,.bare=>False
 |d0,b0,.leaf k _=>k<2^B/\st B k d0=b0
 |d0,b0,.fork d b l r=>d0<=d/\d<B/\b/2^(d- d0)=b0/\WF B (d+1) (2*b) l/\WF B (d+1) (2*b+1) r
def cD {B k d:Nat}(h:d<B):st B k (d+1)=2*st B k d+sd B k d:=by
 have e:B- d=(B- (d+1))+1:=by lia
 have e2:B- 1- d=B- (d+1):=by lia
 unfold st sd
 rw[e,e2,Xv,<-Yk]
 lia
def fL {B k d:Nat}:sd B k d<2:=Nat.mod_lt _ (by decide)
def tP {B k d e:Nat}(h1:d<=e)(h2:e<=B):st B k d=st B k e/2^(e- d):=by
 unfold st
 rw[Yk,<-Zc]
 congr 2
 lia
theorem WF.mem {B:Nat}:∀{t:Kn α}{d0 b0:Nat},d0<=B->WF B d0 b0 t->∀p∈aW t,p.1<2^B/\st B p.1 d0=b0
 |.bare,_,_,_,h,_,_=>h.elim
 |.leaf k t,_,_,_,h,p,hp=>by rw[VH.mp hp];exact h
 |.fork d b l r,d0,b0,_,⟨h1,h2,h3,hl,hr⟩,p,hp=>by
  have key:p.1<2^B/\st B p.1 d=b:=by
   rcases WE.mp hp with z|z
   ·obtain⟨a,c⟩:=hl.mem (by lia) p z
    rw[cD h2]at c
    have:=@fL B p.1 d
    exact⟨a,by lia⟩
   ·obtain⟨a,c⟩:=hr.mem (by lia) p z
    rw[cD h2]at c
    have:=@fL B p.1 d
    exact⟨a,by lia⟩
  exact⟨key.1,by rw[tP h1 (by lia),key.2];exact h3⟩
def WF.left {B d0 b0 d b:Nat}{l r:Kn α}(h:WF B d0 b0 (.fork d b l r)):∀p∈aW l,st B p.1 d=b/\sd B p.1 d=0:=fun p hp=>by
 obtain⟨h1,h2,h3,hl,hr⟩:=h
 have c:=(hl.mem (by lia) p hp).2
 rw[cD h2]at c
 have:=@fL B p.1 d
 lia
def WF.right {B d0 b0 d b:Nat}{l r:Kn α}(h:WF B d0 b0 (.fork d b l r)):∀p∈aW r,st B p.1 d=b/\sd B p.1 d=1:=fun p hp=>by
 obtain⟨h1,h2,h3,hl,hr⟩:=h
 have c:=(hr.mem (by lia) p hp).2
 rw[cD h2]at c
 have:=@fL B p.1 d
 lia
theorem WF.ne {B d0 b0:Nat}:∀{t:Kn α}{d0 b0:Nat},WF B d0 b0 t->∃p,p∈aW t
 |.bare,_,_,h=>h.elim
 |.leaf k t,_,_,_=>⟨(k,t),VH.mpr rfl⟩
 |.fork d b l r,_,_,⟨_,_,_,hl,_⟩=>by
  obtain⟨p,hp⟩:=WF.ne (d0:=d0) (b0:=b0) hl
  exact⟨p,Xp _ hp⟩
def mX (l:List (Nat×α)):Prop:=l.Pairwise fun p q=>p.1<q.1
theorem WF.up {B:Nat}:∀{t:Kn α}{d0 b0:Nat},WF B d0 b0 t->mX (aW t)
 |.bare,_,_,h=>h.elim
 |.leaf k t,_,_,_=>YX _ _
 |.fork d b l r,d0,b0,h=>by
  have hf:=h
  obtain⟨h1,h2,h3,hl,hr⟩:=h
  refine abl.mpr ⟨hl.up,hr.up,fun p hp q hq=>?_⟩
  have e1:=(hl.mem (by lia) p hp).2
  have e2:=(hr.mem (by lia) q hq).2
  unfold st at e1 e2
  apply VZ
  intro hn
  have:=Nat.div_le_div_right (c:=2^(B- (d+1))) (show q.1<=p.1 by lia)
  lia
noncomputable def look (key:Nat):List (Nat×α)->Option α
 |[]=>none
 |(k,t)::r=>if key=k then some t else look key r
def Di (key:Nat)(l m:List (Nat×α)):look key (l++m)=(look key l).or (look key m):=by
 induction l with
 |nil=>rfl
 |cons p r ih=>
  show(if key=p.1 then some p.2 else look key (r++m))=(if key=p.1 then some p.2 else look key r).or (look key m)
  split
  ·rfl
  ·exact ih
def dZ {key:Nat}{l:List (Nat×α)}(h:∀p∈l,p.1≠key):look key l=none:=by
 induction l with
 |nil=>rfl
 |cons p r ih=>
  show(if key=p.1 then some p.2 else look key r)=none
  rw[if_neg fun e=>h p cW e.symm]
  exact ih fun q hq=>h q (Vu _ hq)
theorem dg {B key:Nat}:∀{t:Kn α}{d0 b0:Nat},WF B d0 b0 t->aD B key t=look key (aW t)
 |.bare,_,_,h=>h.elim
 |.leaf k t,_,_,_=>rfl
 |.fork d b l r,d0,b0,h=>by
  have hf:=h
  obtain⟨h1,h2,h3,hl,hr⟩:=h
  show(if sd B key d=0 then aD B key l else aD B key r)=look key (aW l++aW r)
  rw[Di]
  by_cases e:sd B key d=0
  ·rw[if_pos e,dg hl,dZ (l:=aW r) fun p hp z=>by
    have:=(hf.right p hp).2
    rw[z]at this;lia]
   cases look key (aW l)<;>rfl
  ·rw[if_neg e,dg hr,dZ (l:=aW l) fun p hp z=>by
    have:=(hf.left p hp).2
    rw[z]at this;lia]
   rfl
noncomputable def alN (B x y:Nat):Nat->Nat
 |0=>0
 |c+1=>if x/2^(B- (c+1))=y/2^(B- (c+1))then c+1 else alN B x y c
theorem Hn {B x y:Nat}(hx:x<2^B)(hy:y<2^B):∀n,n<=B->alN B x y n<=n/\x/2^(B- alN B x y n)=y/2^(B- alN B x y n)/\(alN B x y n=n\/x/2^(B- (alN B x y n+1))≠y/2^(B- (alN B x y n+1)))
 |0,_=>⟨sn _,by show x/2^B=y/2^B;rw[Yw hx,Yw hy],.inl rfl⟩
 |c+1,hn=>by
  unfold alN
  split
  ·rename_i e;exact⟨sn _,e,.inl rfl⟩
  ·rename_i e
   obtain⟨a1,a2,a3⟩:=Hn hx hy c (by lia)
   refine⟨by lia,a2,.inr ?_⟩
   rcases a3 with z|z
   ·rw[z];exact e
   ·exact z
def al (B x y:Nat):Nat:=alN B x y B
def zB {B x y:Nat}(hx:x<2^B)(hy:y<2^B):EF B x y (al B x y):=Hn hx hy B (sn _)
def AY {B x y:Nat}(hx:x<2^B)(hy:y<2^B)(ne:x≠y):al B x y<B/\st B x (al B x y)=st B y (al B x y)/\sd B x (al B x y)≠sd B y (al B x y):=by
 obtain⟨a1,a2,a3⟩:=zB hx hy
 have lt:al B x y<B:=by
  rcases Xf (al B x y) B with h|h
  ·exact h
  ·exfalso
   have e:al B x y=B:=by lia
   rw[e,aag,Nat.pow_zero,Nat.div_one,Nat.div_one]at a2
   exact ne a2
 refine⟨lt,a2,fun z=>?_⟩
 rcases a3 with h|h
 ·lia
 ·apply h
  have e1:=@cD B x _ lt
  have e2:=@cD B y _ lt
  show st B x (al B x y+1)=st B y (al B x y+1)
  have a2':st B x (al B x y)=st B y (al B x y):=a2
  rw[e1,e2,a2',z]
def vK {B x y d e:Nat}(h1:d<=e)(h2:e<=B)(h:st B x e=st B y e):st B x d=st B y d:=by rw[tP h1 h2,tP h1 h2,h]
def gR (B d key:Nat)(x:α)(t:Kn α):Kn α:=if sd B key d=0 then .fork d (st B key d) (.leaf key x) t else .fork d (st B key d) t (.leaf key x)
def bW (B key:Nat)(x:α):Kn α->Kn α
 |.bare=>.leaf key x
 |.leaf k t=>if key=k then .leaf key x else gR B (al B key k) key x (.leaf k t)
 |.fork d b l r=>if st B key d=b then(if sd B key d=0 then .fork d b (bW B key x l) r else .fork d b l (bW B key x r))
  else gR B (al d b (st B key d)) key x (.fork d b l r)
theorem WF.lift {B d0 b0 d b:Nat}:∀{t:Kn α},WF B d0 b0 t->(∀p∈aW t,st B p.1 d=b)->d<=B->d0<=B->(∀e b' l r,t=.fork e b' l r->d<=e)->WF B d b t
 |.bare,h,_,_,_,_=>h.elim
 |.leaf k t,h,hs,_,_,_=>⟨h.1,hs (k,t) (VH.mpr rfl)⟩
 |.fork e b' l r,h,hs,hd,_,he=>by
  have hf:=h
  obtain⟨h1,h2,h3,hl,hr⟩:=h
  have hde:=he e b' l r rfl
  refine⟨hde,h2,?_,hl,hr⟩
  obtain⟨p,hp⟩:=WF.ne (d0:=0) (b0:=0) hl
  have:=hs p (Xp _ hp)
  rw[tP hde (by lia),(hf.left p hp).1]at this
  exact this
def BY {B d0 b0 d key:Nat}{x:α}{t:Kn α}(h:WF B d0 b0 t)(hk:key<2^B)(hd:d<B)(h0:d0<=d)(hkb:st B key d0=b0)(hs:∀p∈aW t,st B p.1 d=st B key d/\sd B p.1 d≠sd B key d)
  (he:∀e b' l r,t=.fork e b' l r->d<e):WF B d0 b0 (gR B d key x t)/\∀k,aD B k (gR B d key x t)=if k=key then some x else aD B k t:=by
 have lt:=@fL B key d
 have up:∀p∈aW t,st B p.1 (d+1)=2*st B key d+(1- sd B key d):=fun p hp=>by
  obtain⟨a,c⟩:=hs p hp
  have:=@fL B p.1 d
  rw[cD hd,a]
  lia
 have wt:WF B (d+1) (2*st B key d+(1- sd B key d)) t:=h.lift up hd (by lia) fun e b' l r z=>he e b' l r z
 have wk:WF B (d+1) (2*st B key d+sd B key d) (Kn.leaf key x):=⟨hk,cD hd⟩
 have pre:st B key d/2^(d- d0)=b0:=by rw[<-tP h0 (by lia)];exact hkb
 unfold gR
 by_cases e:sd B key d=0
 ·rw[if_pos e]
  rw[e]at wt wk
  refine⟨⟨h0,hd,pre,wk,wt⟩,fun k=>?_⟩
  show(if sd B k d=0 then(if k=key then some x else none)else aD B k t)=_
  by_cases ek:k=key
  ·subst ek;rw[if_pos e,if_pos rfl,if_pos rfl]
  ·rw[if_neg ek,if_neg ek]
   by_cases e2:sd B k d=0
   ·rw[if_pos e2,dg h,dZ fun p hp z=>?_]
    have:=(hs p hp).2
    rw[z]at this;lia
   ·rw[if_neg e2]
 ·rw[if_neg e]
  have e1:sd B key d=1:=by lia
  rw[e1]at wt wk
  refine⟨⟨h0,hd,pre,wt,wk⟩,fun k=>?_⟩
  show(if sd B k d=0 then aD B k t else(if k=key then some x else none))=_
  by_cases ek:k=key
  ·subst ek;rw[if_neg e,if_pos rfl,if_pos rfl]
  ·rw[if_neg ek,if_neg ek]
   by_cases e2:sd B k d=0
   ·rw[if_pos e2]
   ·rw[if_neg e2,dg h,dZ fun p hp z=>?_]
    have w:=(hs p hp).2
    have:=@fL B k d
    rw[z]at w;lia
theorem vJ {B key:Nat}{x:α}(hk:key<2^B):∀{t:Kn α}{d0 b0:Nat},d0<=B->WF B d0 b0 t->st B key d0=b0->WF B d0 b0 (bW B key x t)/\∀k,aD B k (bW B key x t)=if k=key then some x else aD B k t
 |.bare,_,_,_,h,_=>h.elim
 |.leaf k t,d0,b0,h0,h,hb=>by
  unfold bW
  by_cases e:key=k
  ·subst e
   rw[if_pos rfl]
   refine⟨h,fun k'=>?_⟩
   show(if k'=key then some x else none)=if k'=key then some x else(if k'=key then some t else none)
   by_cases e:k'=key
   ·rw[if_pos e,if_pos e]
   ·rw[if_neg e,if_neg e,if_neg e]
  ·rw[if_neg e]
   obtain⟨a1,a2,a3⟩:=AY hk h.1 e
   refine BY h hk a1 ?_ hb (fun p hp=>?_) fun c c c c z=>nomatch z
   ·apply VZ
    intro hn
    apply a3
    have q:st B key (al B key k+1)=st B k (al B key k+1):=vK (by lia) h0 (by rw[hb,h.2])
    rw[cD a1,cD a1]at q
    lia
   ·rw[VH.mp hp]
    exact⟨a2.symm,ab a3⟩
 |.fork d b l r,d0,b0,h0,h,hb=>by
  have hf:=h
  obtain⟨h1,h2,h3,hl,hr⟩:=h
  unfold bW
  by_cases e:st B key d=b
  ·rw[if_pos e]
   by_cases e2:sd B key d=0
   ·rw[if_pos e2]
    obtain⟨w,f⟩:=vJ (x:=x) hk (by lia) hl (by rw[cD h2,e,e2];rfl)
    refine⟨⟨h1,h2,h3,w,hr⟩,fun k=>?_⟩
    show(if sd B k d=0 then aD B k (bW B key x l)else aD B k r)=if k=key then some x else(if sd B k d=0 then aD B k l else aD B k r)
    rw[f k]
    by_cases ek:k=key
    ·subst ek;rw[if_pos e2,if_pos rfl,if_pos rfl]
    ·rw[if_neg ek,if_neg ek]
   ·rw[if_neg e2]
    have lt:=@fL B key d
    obtain⟨w,f⟩:=vJ (x:=x) hk (by lia) hr (by rw[cD h2,e];lia)
    refine⟨⟨h1,h2,h3,hl,w⟩,fun k=>?_⟩
    show(if sd B k d=0 then aD B k l else aD B k (bW B key x r))=if k=key then some x else(if sd B k d=0 then aD B k l else aD B k r)
    rw[f k]
    by_cases ek:k=key
    ·subst ek;rw[if_neg e2,if_pos rfl,if_pos rfl]
    ·rw[if_neg ek,if_neg ek]
  ·rw[if_neg e]
   have all:∀p∈aW (Kn.fork d b l r),st B p.1 d=b/\p.1<2^B:=fun p hp=>⟨(WE.mp hp).elim (fun z=>(hf.left p z).1) fun z=>(hf.right p z).1,(hf.mem h0 p hp).1⟩
   obtain⟨p0,hp0⟩:=WF.ne (d0:=0) (b0:=0) hf
   have stlt:∀k,k<2^B->st B k d<2^d:=fun k hk=>by
    unfold st
    rw[Yr (Wv _),<-Zc,show d+(B- d)=B by lia]
    exact hk
   have hbl:b<2^d:=by rw[<-(all p0 hp0).1];exact stlt _ (all p0 hp0).2
   obtain⟨a1,a2,a3⟩:=AY hbl (stlt key hk) (ab e)
   generalize al d b (st B key d)=a at a1 a2 a3⊢
   have pp:∀k,st d (st B k d) a=st B k a:=fun k=>by
    unfold st
    rw[Yk,<-Zc,show B- d+(d- a)=B- a by lia]
   have ps:∀k,sd d (st B k d) a=sd B k a:=fun k=>by
    unfold sd st
    rw[Yk,<-Zc,show B- d+(d- 1- a)=B- 1- a by lia]
   have ea:∀p∈aW (Kn.fork d b l r),st B p.1 a=st B key a/\sd B p.1 a≠sd B key a:=fun p hp=>by
    have q:=(all p hp).1
    rw[<-pp p.1,<-pp key,<-ps p.1,<-ps key,q]
    exact⟨a2,a3⟩
   refine BY hf hk (by lia) ?_ hb ea fun e' c c c z=>by injection z with z;subst z;exact a1
   apply VZ
   intro hn
   apply(ea p0 hp0).2
   have q:st B p0.1 (a+1)=st B key (a+1):=vK (by lia) h0 (by rw[hb,(hf.mem h0 p0 hp0).2])
   rw[cD (by lia),cD (by lia),(ea p0 hp0).1]at q
   lia
def aX (B key:Nat):Kn α->Kn α
 |.bare=>.bare
 |.leaf k t=>if key=k then .bare else .leaf k t
 |.fork d b l r=>if sd B key d=0 then(match aX B key l with|.bare=>r|u=>.fork d b u r)else(match aX B key r with|.bare=>l|u=>.fork d b l u)
theorem mw {B key:Nat}:∀{t:Kn α}{d0 b0:Nat},d0<=B->WF B d0 b0 t->(aX B key t=.bare\/WF B d0 b0 (aX B key t))/\∀k,aD B k (aX B key t)=if k=key then none else aD B k t
 |.bare,_,_,_,h=>h.elim
 |.leaf k t,d0,b0,h0,h=>by
  unfold aX
  by_cases e:key=k
  ·subst e
   rw[if_pos rfl]
   refine⟨.inl rfl,fun k'=>?_⟩
   show none=if k'=key then none else(if k'=key then some t else none)
   by_cases e:k'=key
   ·rw[if_pos e]
   ·rw[if_neg e,if_neg e]
  ·rw[if_neg e]
   refine⟨.inr h,fun k'=>?_⟩
   show(if k'=k then some t else none)=if k'=key then none else(if k'=k then some t else none)
   by_cases e':k'=key
   ·rw[if_pos e',if_neg fun z=>e (e'.symm.trans z)]
   ·rw[if_neg e']
 |.fork d b l r,d0,b0,h0,h=>by
  have hf:=h
  obtain⟨h1,h2,h3,hl,hr⟩:=h
  have one:∀{u:Kn α},WF B (d+1) (2*b) u\/WF B (d+1) (2*b+1) u->WF B d0 b0 u:=fun{u} hu=>by
   have hm:∀p∈aW u,st B p.1 d=b:=fun p hp=>by
    rcases hu with hu|hu
    ·have c:=(hu.mem (by lia) p hp).2
     rw[cD h2]at c
     have:=@fL B p.1 d
     lia
    ·have c:=(hu.mem (by lia) p hp).2
     rw[cD h2]at c
     have:=@fL B p.1 d
     lia
   have hm0:∀p∈aW u,st B p.1 d0=b0:=fun p hp=>by rw[tP h1 (by lia),hm p hp];exact h3
   rcases hu with hu|hu
   ·exact hu.lift hm0 h0 (by lia) fun e b' l' r' z=>by subst z;have:=hu.1;lia
   ·exact hu.lift hm0 h0 (by lia) fun e b' l' r' z=>by subst z;have:=hu.1;lia
  unfold aX
  by_cases e:sd B key d=0
  ·rw[if_pos e]
   obtain⟨w,f⟩:=mw (key:=key) (by lia) hl
   cases q:aX B key l with
   |bare=>
    rw[q]at f
    refine⟨.inr (one (.inr hr)),fun k=>?_⟩
    show aD B k r=if k=key then none else(if sd B k d=0 then aD B k l else aD B k r)
    have fk:none=if k=key then none else aD B k l:=f k
    by_cases ek:k=key
    ·subst ek
     rw[if_pos rfl,dg hr,dZ fun p hp z=>?_]
     have:=(hf.right p hp).2
     rw[z]at this;lia
    ·rw[if_neg ek]at fk⊢
     by_cases e2:sd B k d=0
     ·rw[if_pos e2,<-fk,dg hr,dZ fun p hp z=>?_]
      have:=(hf.right p hp).2
      rw[z]at this;lia
     ·rw[if_neg e2]
   |leaf k' t'=>
    rw[q]at w f
    have w':=w.resolve_left (by intro z;injection z)
    refine⟨.inr ⟨h1,h2,h3,w',hr⟩,fun k=>?_⟩
    show(if sd B k d=0 then aD B k (.leaf k' t')else aD B k r)=_
    rw[f k]
    show _=if k=key then none else(if sd B k d=0 then aD B k l else aD B k r)
    by_cases ek:k=key
    ·subst ek;rw[if_pos e,if_pos rfl,if_pos rfl]
    ·rw[if_neg ek,if_neg ek]
   |fork d' b' l' r'=>
    rw[q]at w f
    have w':=w.resolve_left (by intro z;injection z)
    refine⟨.inr ⟨h1,h2,h3,w',hr⟩,fun k=>?_⟩
    show(if sd B k d=0 then aD B k (.fork d' b' l' r')else aD B k r)=_
    rw[f k]
    show _=if k=key then none else(if sd B k d=0 then aD B k l else aD B k r)
    by_cases ek:k=key
    ·subst ek;rw[if_pos e,if_pos rfl,if_pos rfl]
    ·rw[if_neg ek,if_neg ek]
  ·rw[if_neg e]
   have e1:sd B key d=1:=by have:=@fL B key d;lia
   obtain⟨w,f⟩:=mw (key:=key) (by lia) hr
   cases q:aX B key r with
   |bare=>
    rw[q]at f
    refine⟨.inr (one (.inl hl)),fun k=>?_⟩
    show aD B k l=if k=key then none else(if sd B k d=0 then aD B k l else aD B k r)
    have fk:none=if k=key then none else aD B k r:=f k
    by_cases ek:k=key
    ·subst ek
     rw[if_pos rfl,dg hl,dZ fun p hp z=>?_]
     have:=(hf.left p hp).2
     rw[z]at this;lia
    ·rw[if_neg ek]at fk⊢
     by_cases e2:sd B k d=0
     ·rw[if_pos e2]
     ·rw[if_neg e2,<-fk,dg hl,dZ fun p hp z=>?_]
      have:=(hf.left p hp).2
      rw[z]at this;lia
   |leaf k' t'=>
    rw[q]at w f
    have w':=w.resolve_left (by intro z;injection z)
    refine⟨.inr ⟨h1,h2,h3,hl,w'⟩,fun k=>?_⟩
    show(if sd B k d=0 then aD B k l else aD B k (.leaf k' t'))=_
    rw[f k]
    show _=if k=key then none else(if sd B k d=0 then aD B k l else aD B k r)
    by_cases ek:k=key
    ·subst ek;rw[if_neg e,if_pos rfl,if_pos rfl]
    ·rw[if_neg ek,if_neg ek]
   |fork d' b' l' r'=>
    rw[q]at w f
    have w':=w.resolve_left (by intro z;injection z)
    refine⟨.inr ⟨h1,h2,h3,hl,w'⟩,fun k=>?_⟩
    show(if sd B k d=0 then aD B k l else aD B k (.fork d' b' l' r'))=_
    rw[f k]
    show _=if k=key then none else(if sd B k d=0 then aD B k l else aD B k r)
    by_cases ek:k=key
    ·subst ek;rw[if_neg e,if_pos rfl,if_pos rfl]
    ·rw[if_neg ek,if_neg ek]
theorem Hh:∀{l m:List (Nat×α)},mX l->mX m->(∀k,look k l=look k m)->l=m
 |[],[],_,_,_=>rfl
 |[],q::m,_,_,h=>by
  have:=h q.1
  have e:look q.1 (q::m)=some q.2:=if_pos rfl
  rw[e]at this;injection this
 |p::l,[],_,_,h=>by
  have:=h p.1
  have e:look p.1 (p::l)=some p.2:=if_pos rfl
  rw[e]at this;injection this
 |p::l,q::m,hl,hm,h=>by
  obtain⟨l1,l2⟩:=ZR.mp hl
  obtain⟨m1,m2⟩:=ZR.mp hm
  have no:∀{p:Nat×α}{l:List (Nat×α)},(∀q∈l,p.1<q.1)->∀k,k<=p.1->look k l=none:=fun hp k hk=>dZ fun q hq z=>by have:=hp q hq;lia
  have ep:look p.1 (p::l)=some p.2:=if_pos rfl
  have eq:look q.1 (q::m)=some q.2:=if_pos rfl
  have e1:p.1=q.1:=by
   rcases ab1 p.1 q.1 with z|z|z
   ·have w:=h p.1
    rw[ep]at w
    have:look p.1 (q::m)=none:=by
     show(if p.1=q.1 then some q.2 else look p.1 m)=none
     rw[if_neg (by lia)]
     exact no m1 _ (by lia)
    rw[this]at w;injection w
   ·exact z
   ·have w:=h q.1
    rw[eq]at w
    have:look q.1 (p::l)=none:=by
     show(if q.1=p.1 then some p.2 else look q.1 l)=none
     rw[if_neg (by lia)]
     exact no l1 _ (by lia)
    rw[this]at w;injection w
  have e2:p=q:=by
   have w:=h p.1
   rw[ep,e1,eq]at w
   exact acy e1 (VR w)
  subst e2
  have e3:l=m:=Hh l2 m2 fun k=>by
   by_cases e:k=p.1
   ·subst e;rw[no l1 _ (sn _),no m1 _ (sn _)]
   ·have w:=h k
    have a:look k (p::l)=look k l:=if_neg e
    have b:look k (p::m)=look k m:=if_neg e
    rw[a,b]at w;exact w
  rw[e3]
def yk {l:List (Nat×α)}{P:Nat×α->Bool}(h:∀p∈l,P p=true):l.filter P=l:=List.filter_eq_self.mpr h
def zT {l:List (Nat×α)}{P:Nat×α->Bool}(h:∀p∈l,P p=false):l.filter P=[]:=List.filter_eq_nil_iff.mpr fun p hp z=>by rw[h p hp]at z;injection z
end
end Rs
namespace L2
open PySem PySem.Spec PyProof.Rows
section
variable {X:Cx}
inductive EV:List V->Hp->VK->Prop
 |int {i:Int} {H:Hp} {Q:VK} (h:i.natAbs.log2<1920) (q:Q (.str (toString i)) H):EV [.int i] H Q
 |str {z:Str} {H:Hp} {Q:VK} (q:Q (.str z) H):EV [.str z] H Q
def RA:bq X (.type "str") EV:=fun pins s σ H xs us Q I r h=>by
 cases h with
 |int h q=>exact CI pins s σ H _ us Q I r ⟨_,rfl,h,q⟩
 |str q=>
  obtain⟨u,rfl,t,rfl⟩:=eC r
  exact PySem.P.str_of_str ⟨.str _,H,I,⟨_,rfl⟩,q⟩
end
end L2
namespace L2
open PySem PySem.Spec PyProof.Rows PySem.W
section
variable {X:Cx}
def UR (K:W.Frag):V->Option Int->Option Int->Hp->VK->Prop:=fun x lo hi H Q=>(Ox K x lo hi H Q\/False)\/OU x lo hi H Q
def LL:SlR X (fun a a a a a=>False):=fun a a a a a a a a a a a a a a a a a h=>h.elim
def ME:SlR X (UR X.K):=(Mr.or LL).or Od
end
end L2
namespace HS
open PySem PyProof.Rows
section
variable {prog:VM}{w:Wm}{A:Wj}{E:pz->Bn->Prop}{s:Bn}
set_option maxHeartbeats 3200000 in
end
end HS
namespace L2
open PySem PySem.Spec PyProof.Rows
def Ta (X:Cx)(E:St->XK):Prop:=∀(pins:List (Addr×Obj))(σ:St)(H:Hp)(s:Bn)(C a:Addr)(d:Option Addr)(H2:Hp)(s2:Bn),Inv X pins σ H s->Fly X.prog X.w X.stack H s (.ref C) (rawInt X.env.locals) a d H2 s2->E σ (.ref C) d H2->X.xe (.ref a) s2
structure Fb (K:W.Frag)(x qual:Str)(st:Stmt)(a:Addr)(d:Gt)(ps:List Str):Prop where
 f:Fun K x qual st a d
 b:bX K d ps []
section
variable {K:W.Frag}{mg:Str->Option pz}{h:Heap}{x qual:Str}{st:Stmt}{a c:Addr}{d:Gt}{ps:List Str}
def fmk (X:K.In h)(G:h.Ns mainGlobals mg)(m:W.nsIn K mainGlobals x=some (some (.ref a)))(F:Fun K x qual st a d)(b:Fun K x qual st a d->bX K d ps []):Fm K mg x qual st a d ps:=⟨F,W.mg_of X G m,b F⟩
def fbk (F:Fun K x qual st a d)(b:Fun K x qual st a d->bX K d ps []):Fb K x qual st a d ps:=⟨F,b F⟩
def Fm.code (F:Fm K mg x qual st a d ps)(X:K.In h)(G:h.Ns mainGlobals mg){z t:Addr}(ht:W.tabIn K x=some (z,t)):d.code=.ref z:=by
 obtain⟨oc,od,kV,doc,pm,an,cdv,ct,osl,e,lk,hcd⟩:=F.f.ex
 exact W.law_code X G ht F.m (X _ _ lk) rfl
def EX {f:Tok->pz}(X:K.In h)(G:h.Ns mainGlobals mg){t:Tok}(e:W.nsIn K mainGlobals x=some (some (f t))):∃t,mg x=some (f t):=⟨t,W.mg_of X G e⟩
def ci (h:W.findIn K (.ref c) x=some none):aH K c x:=h
noncomputable def tk (K:W.Frag)(x:Str):Addr×Addr:=(W.tabIn K x).getD (0,0)
abbrev tkX {K:W.Frag}{h:Heap}(_:K.In h)(x:Str):Addr×Addr:=tk K x
noncomputable def EM (K:W.Frag)(l:List Str):Bool:=l.all fun x=>(W.tabIn K x).isSome
def AO {l:List Str}(h:EM K l=true)(x:Str)(hx:x∈l:=by simp):W.tabIn K x=some ((tk K x).1,(tk K x).2):=by
 obtain⟨v,e⟩:=Ws.mp (WB.mp h x hx)
 unfold tk
 rw[e]
 rfl
def QK {l:List Str}(h:EM K l=true)(td:Il K l=true):(l.map fun x=>(tk K x).2).Nodup:=by
 refine IP ?_
 have e:(l.map fun x=>(tk K x).2).map some=l.map fun n=>(W.tabIn K n).map (·.2):=by
  rw[WA]
  refine XU fun x hx=>?_
  rw[AO h x hx]
  rfl
 rw[e]
 exact of_decide_eq_true td
end
end L2
namespace Ww
open PySem PySem.Spec PyProof.Rows L2
inductive W where
 |non|bl (b:Bool)|int (i:Int)|str (z:Str)|ty (n:String)|ref (a:Addr)|cls (c:Nat)
 |tup (ws:List W)|kt (ws:List W)|fl (ws:List W)|sl (ws:List W)|obj (c:Nat) (fs:List (Str×W))|clo (i:Nat) (ws:List W)|exc (c:Nat) (fs:Option (List (Str×W)))|vw (a:Addr)|any
inductive O where
 |lst (ws:List W)|dK (kvs:List (Key×W))|dT (kvs:List (List Key×W))|ins (c:Nat) (fs:List (Str×W))|opq (u:List V)|tbl (u:Array pz)
abbrev WH:=Addr->Option O
abbrev WS:=List (Option W)
structure Er where
 c:Nat
 fs:Option (List (Str×W)):=none
 dr:Bool:=false
abbrev WQ:=W->WH->Prop
abbrev WX:=Er->WH->Prop
abbrev TWE:=WS->WH->WQ->WX->Prop
abbrev TWT:=WS->WH->(Bool->WH->Prop)->WX->Prop
abbrev TWA:=WS->WH->(List W->WH->Prop)->WX->Prop
structure zt where
 nx:WS->WH->Prop
 rt:WQ
 er:Er->WS->WH->Prop
 bk:WS->WH->Prop:=fun _ _=>False
 ct:WS->WH->Prop:=fun _ _=>False
abbrev TWS:=zt->WS->WH->Prop
abbrev WP:=List W->WH->WQ->WX->Prop
noncomputable def kW:Key->W
 |.inl i=>.int i
 |.inr z=>.str z
def up (h:WH)(a:Addr)(o:O):WH:=fun b=>if b=a then some o else h b
def ao:up h a o a=some o:=if_pos rfl
def ag {h:WH}(n:b≠a):up h a o b=h b:=if_neg n
def dU:up (up h a o) a u=up h a u:=by funext b;unfold up;split<;>rfl
def Sub (h h':WH):Prop:=∀a o,h a=some o->h' a=some o
def Sub.rfl':Sub h h:=fun a a e=>e
mutual
inductive Frz (h h2:WH):W->W->Prop
 |same (w):Frz h h2 w w
 |ins {a c fs}:h a=some (.ins c fs)->h2 a=none->Frz h h2 (.ref a) (.obj c fs)
 |lst {a ws}:h a=some (.lst ws)->h2 a=none->Frz h h2 (.ref a) (.fl ws)
 |tup {ws us}:Frzs h h2 ws us->Frz h h2 (.tup ws) (.tup us)
inductive Frzs (h h2:WH):List W->List W->Prop
 |nil:Frzs h h2 [] []
 |cons {w u ws us}:Frz h h2 w u->Frzs h h2 ws us->Frzs h h2 (w::ws) (u::us)
end
def Fz (Q:WQ):WQ:=fun w h=>∃w2 h2,Sub h2 h/\Frz h h2 w w2/\Q w2 h2
def Fz.id {Q:WQ}(q:Q w h):Fz Q w h:=⟨w,h,Sub.rfl',.same w,q⟩
def Fz.sub {Q:WQ}(s:Sub h2 h)(q:Q w h2):Fz Q w h:=⟨w,h2,s,.same w,q⟩
def Xs (X:WX):WX:=fun e h=>∃h2,Sub h2 h/\X e h2
section
structure Gm where
 cA:Nat->Addr
 cT:Nat->dO
def Jc (K:W.Frag)(G:Gm)(c:Nat)(fs:List (Str×W)):Prop:=Cls K (G.cA c)/\∀p∈fs,aH K (G.cA c) p.1
mutual
inductive aI (K:W.Frag)(G:Gm)(Z:Hp):W->V->Prop
 |non:aI K G Z .non .non
 |bl (b):aI K G Z (.bl b) (.bl b)
 |int (i):aI K G Z (.int i) (.int i)
 |str (z):aI K G Z (.str z) (.str z)
 |ty (n):aI K G Z (.ty n) (.ty n)
 |ref (a):aI K G Z (.ref a) (.ref a)
 |cls (c):aI K G Z (.cls c) (.ref (G.cA c))
 |tup {ws vs a}:Z a=some (.tup vs)->RelWs K G Z ws vs->aI K G Z (.tup ws) (.ref a)
 |kt {ws vs a}:SqT K Z a vs->RelWs K G Z ws vs->aI K G Z (.kt ws) (.ref a)
 |fl {ws vs a}:Z a=some (.lst vs)->RelWs K G Z ws vs->aI K G Z (.fl ws) (.ref a)
 |sl {ws vs a}:SqL K Z a vs->RelWs K G Z ws vs->aI K G Z (.sl ws) (.ref a)
 |obj {c fs a dx vs}:Z a=some (.ins (G.cA c) dx vs)->RelKs K G Z fs vs->Jc K G c fs->aI K G Z (.obj c fs) (.ref a)
 |clo {i ws f cs vs}:fj Z f (G.cT i) cs vs->RelWs K G Z ws vs->aI K G Z (.clo i ws) (.ref f)
 |exc {c a d}:Z a=some (NK (G.cA c) d a)->aI K G Z (.exc c none) (.ref a)
 |excF {c fs a dx vs}:Z a=some (NK (G.cA c) (some dx) a)->Z dx=some (NP vs dx)->RelKs K G Z fs vs->aI K G Z (.exc c (some fs)) (.ref a)
 |vw {a p}:Z p=some (vwO p a)->aI K G Z (.vw a) (.ref p)
 |any (v):aI K G Z .any v
inductive RelWs (K:W.Frag)(G:Gm)(Z:Hp):List W->List V->Prop
 |nil:RelWs K G Z [] []
 |cons {w v ws vs}:aI K G Z w v->RelWs K G Z ws vs->RelWs K G Z (w::ws) (v::vs)
inductive RelKs (K:W.Frag)(G:Gm)(Z:Hp):{κ:Type}->List (κ×W)->List (κ×V)->Prop
 |nil {κ}:RelKs K G Z (κ:=κ) [] []
 |cons {κ} {k:κ} {w v ws vs}:aI K G Z w v->RelKs K G Z ws vs->RelKs K G Z ((k,w)::ws) ((k,v)::vs)
end
inductive bE (K:W.Frag)(G:Gm)(Z:Hp):O->HO->Prop
 |lst {ws vs}:RelWs K G Z ws vs->bE K G Z (.lst ws) (.lst vs)
 |dK {ws vs}:RelKs K G Z ws vs->bE K G Z (.dK ws) (.dK vs)
 |dT {ws vs}:RelKs K G Z ws vs->bE K G Z (.dT ws) (.dT vs)
 |ins {c fs dx vs}:RelKs K G Z fs vs->Jc K G c fs->bE K G Z (.ins c fs) (.ins (G.cA c) dx vs)
 |opq (u):bE K G Z (.opq u) (.lst u)
 |tbl (u):bE K G Z (.tbl u) (.tbl u)
def fz (h:WH)(H:Hp):Hp:=fun a=>match h a with|none=>H a|some _=>none
variable {K:W.Frag}{G:Gm}{Z Z':Hp}
def tJ (s:bc Z Z')(r:L2.Rd Z a u):L2.Rd Z' a u:=r.elim (fun e=>.inl (s _ _ e)) fun⟨o,e⟩=>.inr ⟨o,s _ _ e⟩
def FQ (s:bc Z Z')(h:cE Z cs vs):cE Z' cs vs:=Paired.imp' (fun a a e=>s _ _ e) h
def gE (s:bc Z Z')(h:fj Z f t cs vs):fj Z' f t cs vs:=
 ⟨let ⟨c,a,b⟩:=h.ex;⟨c,s _ _ a,s _ _ b⟩,FQ s h.cells⟩
def RIv (K:W.Frag)(G:Gm)(Z:Hp)(w:W)(v:V):Prop:=match w with
 |.non=>v=.non
 |.bl b=>v=.bl b
 |.int i=>v=.int i
 |.str z=>v=.str z
 |.ref a=>v=.ref a
 |.tup ws=>∃vs a,v=.ref a/\Z a=some (.tup vs)/\RelWs K G Z ws vs
 |.fl ws=>∃vs a,v=.ref a/\Z a=some (.lst vs)/\RelWs K G Z ws vs
 |_=>True
def wiv {w:W}{v:V}(r:aI K G Z w v):RIv K G Z w v:=r.casesOn rfl (fun c=>rfl) (fun c=>rfl) (fun c=>rfl) (fun c=>trivial) (fun c=>rfl) (fun c=>trivial) (fun a b=>⟨_,_,rfl,a,b⟩) (fun c c=>trivial) (fun a b=>⟨_,_,rfl,a,b⟩) (fun c c=>trivial) (fun c c c=>trivial) (fun c c=>trivial) (fun c=>trivial) (fun c c c=>trivial) (fun c=>trivial) fun c=>trivial
def WIv (K:W.Frag)(G:Gm)(Z:Hp)(l:List W)(v:List V):Prop:=match l with
 |[]=>v=[]
 |w::l=>∃x y,v=x::y/\aI K G Z w x/\RelWs K G Z l y
def wic {l:List W}{v:List V}(r:RelWs K G Z l v):WIv K G Z l v:=r.casesOn rfl fun a b=>⟨_,_,rfl,a,b⟩
def OIv (K:W.Frag)(G:Gm)(Z:Hp)(o:O)(u:HO):Prop:=match o with
 |.lst l=>∃v,u=.lst v/\RelWs K G Z l v
 |.dK l=>∃v,u=.dK v/\RelKs K G Z l v
 |.dT l=>∃v,u=.dT v/\RelKs K G Z l v
 |_=>True
def oiv {o:O}{u:HO}(r:bE K G Z o u):OIv K G Z o u:=r.casesOn (fun a=>⟨_,rfl,a⟩) (fun a=>⟨_,rfl,a⟩) (fun a=>⟨_,rfl,a⟩) (fun b b=>trivial) (fun b=>trivial) fun b=>trivial
def RelWs.ind {M:List W->List V->Prop}(n:M [] [])(c:∀{w l u v},aI K G Z w u->RelWs K G Z l v->M l v->M (w::l) (u::v)):∀{l v},RelWs K G Z l v->M l v:=by
 intro l
 induction l with
 |nil=>intro v r;obtain rfl:=wic r;exact n
 |cons w l ih=>intro v r;obtain⟨d,d,rfl,a,b⟩:=wic r;exact c a b (ih b)
def RelKs.ind {κ:Type}{M:List (κ×W)->List (κ×V)->Prop}(n:M [] [])(c:∀{k w l u v},aI K G Z w u->RelKs K G Z l v->M l v->M ((k,w)::l) ((k,u)::v)):∀{l v},RelKs K G Z l v->M l v:=by
 intro l
 induction l with
 |nil=>intro v r;cases r;exact n
 |cons w l ih=>intro v r;cases r with|cons a b=>exact c a b (ih b)
def aI.mono (s:bc Z Z'){w:W}{v:V}(r:aI K G Z w v):aI K G Z' w v:=
 r.rec (motive_1:=fun w v d=>aI K G Z' w v) (motive_2:=fun w v d=>RelWs K G Z' w v) (motive_3:=fun w v d=>RelKs K G Z' w v)
  .non .bl .int .str .ty .ref .cls (fun e d r=>.tup (s _ _ e) r) (fun e d r=>.kt (e.elim (fun q=>.inl (tJ s q)) .inr) r) (fun e d r=>.fl (s _ _ e) r) (fun e d r=>.sl (e.elim (fun q=>.inl (tJ s q)) .inr) r) (fun e d c r=>.obj (s _ _ e) r c) (fun e d r=>.clo (gE s e) r) (fun e=>.exc (s _ _ e)) (fun e f d r=>.excF (s _ _ e) (s _ _ f) r) (fun e=>.vw (s _ _ e)) .any .nil (fun d d a b=>.cons a b) .nil (fun d d a b=>.cons a b)
def RelWs.mono (s:bc Z Z'):∀{w:List W}{v:List V},RelWs K G Z w v->RelWs K G Z' w v:=RelWs.ind .nil fun a b c=>.cons (a.mono s) c
def RelKs.mono (s:bc Z Z'){κ:Type}:∀{w:List (κ×W)}{v:List (κ×V)},RelKs K G Z w v->RelKs K G Z' w v:=RelKs.ind .nil fun a b c=>.cons (a.mono s) c
def bE.mono (s:bc Z Z')(h:bE K G Z o u):bE K G Z' o u:=by
 cases h with
 |lst r=>exact .lst (r.mono s)
 |dK r=>exact .dK (r.mono s)
 |dT r=>exact .dT (r.mono s)
 |ins r c=>exact .ins (r.mono s) c
 |opq u=>exact .opq u
 |tbl u=>exact .tbl u
def Rep (K:W.Frag)(G:Gm)(h:WH)(H:Hp):Prop:=∀a o,h a=some o->∃u,H a=some u/\bE K G (fz h H) o u
structure ax (K:W.Frag)(G:Gm)(h:WH)(H:Hp)(h':WH)(H':Hp):Prop where
 rep:Rep K G h' H'
 sm:bc (fz h H) (fz h' H')
variable {h h' h2:WH}{H H' H2:Hp}{a p:Addr}{o:O}{u:HO}
def ax.rfl' (r:Rep K G h H):ax K G h H h H:=⟨r,fun a a e=>e⟩
def ax.trans (x:ax K G h H h' H')(y:ax K G h' H' h2 H2):ax K G h H h2 H2:=⟨y.rep,fun a a e=>y.sm _ _ (x.sm _ _ e)⟩
def bB (e:h a=none):fz h H a=H a:=by unfold fz;rw[e]
def tM (e:h a=some o):fz h H a=none:=by unfold fz;rw[e]
def kS (e:fz h H a=some x):H a=some x/\h a=none:=by
 unfold fz at e;split at e
 ·exact⟨e,‹_›⟩
 ·injection e
def aV:bc (fz h H) H:=fun a a e=>(kS e).1
def Rep.new (r:Rep K G h H)(e:H p=none):h p=none:=by
 cases q:h p with
 |none=>rfl
 |some o=>obtain⟨u,e2,a⟩:=r p o q;rw[e]at e2;injection e2
def Ph (r:Rep K G h H)(e:H p=none):fz h (upd H p u)=upd (fz h H) p u:=by
 funext b
 by_cases q:b=p
 ·subst q;rw[bB (r.new e),aT,aT]
 ·rw[ay q];unfold fz;split
  ·rw[ay q]
  ·rfl
def ax.lay (r:Rep K G h H)(e:H p=none):ax K G h H h (upd H p u):=by
 have q:=Ph (u:=u) r e
 have s:bc (fz h H) (upd (fz h H) p u):=bc.upd (by rw[bB (r.new e)];exact e)
 refine⟨fun a o ea=>?_,by rw[q];exact s⟩
 obtain⟨x,e1,e2⟩:=r a o ea
 exact⟨x,by rw[ay (fun z=>by subst z;rw[e]at e1;injection e1)];exact e1,by rw[q];exact e2.mono s⟩
def RJ (hz:fz h H p=none):fz (up h p o) (upd H p u)=fz h H:=by
 funext b
 by_cases q:b=p
 ·subst q;rw[tM ao,hz]
 ·unfold fz;rw[ag q,ay q]
def ax.put (r:Rep K G h H)(hz:fz h H p=none)(n:bE K G (fz h H) o u):ax K G h H (up h p o) (upd H p u):=by
 have q:=RJ (o:=o) (u:=u) hz
 refine⟨fun a x ea=>?_,by rw[q];exact fun b b e=>e⟩
 rw[q]
 by_cases z:a=p
 ·subst z;rw[ao]at ea;obtain rfl:=VR ea;exact⟨u,aT,n⟩
 ·rw[ag z]at ea
  obtain⟨y,e1,e2⟩:=r a x ea
  exact⟨y,by rw[ay z];exact e1,e2⟩
def ax.new (r:Rep K G h H)(e:H p=none)(n:bE K G (fz h H) o u):ax K G h H (up h p o) (upd H p u):=ax.put r (by rw[bB (r.new e)];exact e) n
def ax.set (r:Rep K G h H)(e:h p=some o')(n:bE K G (fz h H) o u):ax K G h H (up h p o) (upd H p u):=ax.put r (tM e) n
def ax.cut (r:Rep K G h H)(s:Sub h2 h):ax K G h H h2 H:=by
 have sm:bc (fz h H) (fz h2 H):=fun b x e=>by
  obtain⟨e1,e2⟩:=kS e
  rw[bB];exact e1
  cases q:h2 b with
  |none=>rfl
  |some y=>rw[s _ _ q]at e2;injection e2
 exact⟨fun a x ea=>let ⟨y,e1,e2⟩:=r a x (s _ _ ea);⟨y,e1,e2.mono sm⟩,sm⟩
def Frz.rel (r:Rep K G h H)(s:Sub h2 h){w w2:W}(f:Frz h h2 w w2):∀{v:V},aI K G (fz h H) w v->aI K G (fz h2 H) w2 v:=@fun v q=>by
 have sm:=(ax.cut r s).sm
 refine f.rec (motive_1:=fun w w2 d=>∀v,aI K G (fz h H) w v->aI K G (fz h2 H) w2 v) (motive_2:=fun w w2 d=>∀v,RelWs K G (fz h H) w v->RelWs K G (fz h2 H) w2 v) (fun w d q=>q.mono sm) (fun e n d q=>?_) (fun e n d q=>?_) (fun d i d q=>?_) (fun d q=>?_) (fun d d a b d q=>?_) v q
 ·obtain rfl:=wiv q
  obtain⟨u,e1,e2⟩:=r _ _ e
  cases e2 with
  |ins r1 c=>exact .obj (by rw[bB n];exact e1) (r1.mono sm) c
 ·obtain rfl:=wiv q
  obtain⟨u,e1,e2⟩:=r _ _ e
  obtain⟨d,rfl,r1⟩:=oiv e2;exact .fl (by rw[bB n];exact e1) (r1.mono sm)
 ·obtain⟨d,d,rfl,e,rs⟩:=wiv q;exact .tup (sm _ _ e) (i _ rs)
 ·obtain rfl:=wic q;exact .nil
 ·obtain⟨d,d,rfl,q1,q2⟩:=wic q;exact .cons (a _ q1) (b _ q2)
structure bY (K:W.Frag)(G:Gm)(Z:Hp)(ws:WS)(σ:L2.St):Prop where
 len:ws.length=σ.length
 at_:∀(i:Nat)(w:W),ws[i]?=some (some w)->∃v,σ[i]?=some (some v)/\aI K G Z w v
def bY.mono (s:bc Z Z')(r:bY K G Z ws σ):bY K G Z' ws σ:=⟨r.len,fun i w e=>let ⟨v,a,b⟩:=r.at_ i w e;⟨v,a,b.mono s⟩⟩
def bY.set {ws:WS}{σ:L2.St}(r:bY K G Z ws σ)(i:Nat)(q:aI K G Z w v):bY K G Z (ws.set i (some w)) (σ.set i (some v)):=by
 refine⟨by simp[r.len],fun j x e=>?_⟩
 by_cases hj:i=j
 ·subst hj
  have hl:i<ws.length:=by
   rcases Xf i ws.length with z|z
   ·exact z
   ·rw[Wa (by simpa using z)]at e;injection e
  rw[Yh hl]at e
  cases e
  exact⟨v,Yh (r.len▸hl),q⟩
 ·rw[Yx hj]at e
  obtain⟨y,a,b⟩:=r.at_ j x e
  exact⟨y,by rw[Yx hj];exact a,b⟩
def Cu (K:W.Frag)(G:Gm)(Z:Hp)(e:Er)(cls:pz)(d:Option Addr):Prop:=cls=.ref (G.cA e.c)/\SN K (G.cA e.c)/\(e.dr=false->match e.fs with
 |none=>d=none
 |some fs=>∃dx vs,d=some dx/\Z dx=some (NP vs dx)/\RelKs K G Z fs vs)
def Cu.bare {e:Er}(n:e.fs=none)(r:Cu K G Z e cls d):Cu K G Z' e cls d:=⟨r.1,r.2.1,fun q=>by have:=r.2.2 q;rw[n]at this⊢;exact this⟩
def uQ (K:W.Frag)(G:Gm)(h:WH)(H:Hp)(Q:VK):WQ:=fun w h'=>∀v H',ax K G h H h' H'->aI K G (fz h' H') w v->Q v H'
def uX (K:W.Frag)(G:Gm)(h:WH)(H:Hp)(E:XK):WX:=fun e h'=>∀cls d H',ax K G h H h' H'->Cu K G (fz h' H') e cls d->E cls d H'
def uN (K:W.Frag)(G:Gm)(h:WH)(H:Hp)(N:L2.St->Hp->Prop):WS->WH->Prop:=fun ws h'=>∀σ H',ax K G h H h' H'->bY K G (fz h' H') ws σ->N σ H'
def uQ.mono (s:ax K G h H h' H')(q:uQ K G h H Q w h2):uQ K G h' H' Q w h2:=fun v H2 s2 r=>q v H2 (s.trans s2) r
def uX.mono (s:ax K G h H h' H')(q:uX K G h H E e h2):uX K G h' H' E e h2:=fun c d H2 s2 r=>q c d H2 (s.trans s2) r
def uN.mono {N:L2.St->Hp->Prop}(s:ax K G h H h' H')(q:uN K G h H N w h2):uN K G h' H' N w h2:=fun v H2 s2 r=>q v H2 (s.trans s2) r
end
section
variable (K:W.Frag)(G:Gm)
def uG {α β:Type}(R:Hp->α->β->Prop)(h:WH)(H:Hp)(Q:β->Hp->Prop):α->WH->Prop:=fun x h'=>∀y H',ax K G h H h' H'->R (fz h' H') x y->Q y H'
inductive LG {α β:Type}(R:Hp->α->β->Prop)(t:WS->WH->(α->WH->Prop)->WX->Prop)(E:L2.St->XK)(σ:L2.St)(H:Hp)(Q:β->Hp->Prop):Prop
 |mk (ws:WS) (h:WH) (Qw:α->WH->Prop) (Xw:WX):Rep K G h H->bY K G (fz h H) ws σ->t ws h Qw Xw->(∀x h',Qw x h'->uG K G R h H Q x h')->(∀e h',Xw e h'->uX K G h H (E σ) e h')->LG R t E σ H Q
def lG {α β:Type}(R:Hp->α->β->Prop)(t:WS->WH->(α->WH->Prop)->WX->Prop)(E:L2.St->XK):L2.St->Hp->(β->Hp->Prop)->Prop:=fun σ H Q=>LG K G R t E σ H Q
abbrev lE (t:TWE)(E:L2.St->XK):TE:=lG K G (aI K G) t E
abbrev lT (t:TWT)(E:L2.St->XK):TT:=lG K G (fun a=>Eq) t E
abbrev lA (t:TWA)(E:L2.St->XK):TA:=lG K G (RelWs K G) t E
end
structure ZE (X:Cx)(G:Gm)(e:Expr)(t:TWE):Prop where
 out:∀E,di (CX1 X.prog X.w) X E->QE X e (lE X.K G t E)
structure ZT (X:Cx)(G:Gm)(e:Expr)(t:TWT):Prop where
 out:∀E,di (CX1 X.prog X.w) X E->QT X e (lT X.K G t E)
structure ZW (X:Cx)(G:Gm)(e:Expr)(t:TWT):Prop where
 out:∀E,di (CX1 X.prog X.w) X E->QW X e (lT X.K G t E)
structure ZA (X:Cx)(G:Gm)(e:List Expr)(t:TWA):Prop where
 out:∀E,di (CX1 X.prog X.w) X E->QA X e (lA X.K G t E)
def QE.imp (h:QE X e t)(i:∀σ H Q,t' σ H Q->t σ H Q):QE X e t':=⟨fun pins s σ H Q I q=>h.out pins s σ H Q I (i σ H Q q)⟩
def QT.imp (h:QT X e t)(i:∀σ H Q,t' σ H Q->t σ H Q):QT X e t':=⟨fun pins s σ H Q I q=>h.out pins s σ H Q I (i σ H Q q)⟩
def QW.imp (h:QW X e t)(i:∀σ H Q,t' σ H Q->t σ H Q):QW X e t':=⟨h.out.imp i⟩
def QA.imp (h:QA X e t)(i:∀σ H Q,t' σ H Q->t σ H Q):QA X e t':=⟨fun pos pins s σ H Q I q=>h.out pos pins s σ H Q I (i σ H Q q)⟩
section
variable {K:W.Frag}{G:Gm}{h h1 h2:WH}{H H1 H2:Hp}{ws:WS}{σ:L2.St}{Xw:WX}{E:L2.St->XK}{α β:Type}{R:Hp->α->β->Prop}
def bnd {t:WS->WH->(α->WH->Prop)->WX->Prop}{P:α->WH->Prop}{Q:β->Hp->Prop}(A:Rep K G h H)(S:bY K G (fz h H) ws σ)(ht:t ws h P Xw)(hX:∀e h',Xw e h'->uX K G h H (E σ) e h')
 (hk:∀x h1 y H1,P x h1->ax K G h H h1 H1->R (fz h1 H1) x y->Q y H1):lG K G R t E σ H Q:=⟨ws,h,P,Xw,A,S,ht,fun x h1 p y H1 s r=>hk x h1 y H1 p s r,hX⟩
def uG.mono {Q:β->Hp->Prop}(s:ax K G h H h1 H1)(q:uG K G R h H Q x h2):uG K G R h1 H1 Q x h2:=fun v H2 s2 r=>q v H2 (s.trans s2) r
def hX1 (s:ax K G h H h1 H1)(hX:∀e h',Xw e h'->uX K G h H (E σ) e h'):∀e h',Xw e h'->uX K G h1 H1 (E σ) e h':=fun e h' q=>uX.mono s (hX e h' q)
def hQ1 {Qw:α->WH->Prop}{Q:β->Hp->Prop}(s:ax K G h H h1 H1)(hQ:∀x h',Qw x h'->uG K G R h H Q x h'):∀x h',Qw x h'->uG K G R h1 H1 Q x h':=fun e h' q=>uG.mono s (hQ e h' q)
end
def wC (w:W):TWE:=fun a h Q a=>Q w h
def bJ (i:Nat):TWE:=fun ws h Q a=>match ws[i]? with|some (some w)=>Q w h|_=>False
abbrev RW1:=W->WH->WQ->Prop
abbrev RW2:=W->W->WH->WQ->Prop
abbrev RWN:=List W->WH->WQ->Prop
abbrev RWM:=W->List W->WH->WQ->Prop
def wUn (r:RW1)(a:TWE):TWE:=fun ws h Q X=>a ws h (fun x h1=>r x h1 Q) X
def wOp (r:RW2)(a b:TWE):TWE:=fun ws h Q X=>a ws h (fun x h1=>b ws h1 (fun y h2=>r x y h2 Q) X) X
def wCh (r r':RW2)(a b c:TWE):TWE:=fun ws h Q X=>a ws h (fun x h1=>b ws h1 (fun y h2=>r x y h2 fun z h3=>match z with
 |.bl k=>Sel k (c ws h3 (fun u h4=>r' y u h4 Q) X) (Q (.bl false) h3)
 |_=>False) X) X
def UV (a b:TWE):TWE:=fun ws h Q X=>a ws h (fun x h1=>match x with|.bl k=>Sel k (b ws h1 Q X) (Q (.bl false) h1)|_=>False) X
def QB:RW1:=fun x h Q=>match x with|.bl k=>Q (.bl (!k)) h|_=>False
def wIf (c:TWT)(a b:TWE):TWE:=fun ws h Q X=>c ws h (fun k h1=>Sel k (a ws h1 Q X) (b ws h1 Q X)) X
def Cj (a:TWE):TWT:=fun ws h Q X=>a ws h (fun x h1=>match x with|.bl k=>Q k h1|_=>False) X
def UM (a:TWE):TWT:=fun ws h Q X=>a ws h (fun x h1=>match x with
 |.bl k=>Q k h1|.non=>Q false h1|.int i=>Q (i !=0) h1
 |.str y=>y.length<=sizeLine/\Q ((y.length:Int) !=0) h1
 |.tup l=>Q (!l.isEmpty) h1|.fl l=>Q (!l.isEmpty) h1|.sl l=>Q (!l.isEmpty) h1
 |.ref a=>(∃l,h1 a=some (.lst l)/\Q (!l.isEmpty) h1)\/∃l,h1 a=some (.dK l)/\Q (!l.isEmpty) h1
 |_=>False) X
def Ss (c:TWT):TWT:=fun ws h Q X=>c ws h (fun k h1=>Q (!k) h1) X
def Lg (c d:TWT):TWT:=fun ws h Q X=>c ws h (fun k h1=>Sel k (d ws h1 Q X) (Q false h1)) X
def Qg (c d:TWT):TWT:=fun ws h Q X=>c ws h (fun k h1=>Sel k (Q true h1) (d ws h1 Q X)) X
def eS:TWA:=fun a h Q a=>Q [] h
def dc (a:TWE)(r:TWA):TWA:=fun ws h Q X=>a ws h (fun x h1=>r ws h1 (fun xs h2=>Q (x::xs) h2) X) X
def nwL (l:List W)(h:WH)(Q:WQ):Prop:=Q (.fl l) h\/∀p,h p=none->Q (.ref p) (up h p (.lst l))
def yw (t:TWA):TWE:=fun ws h Q X=>t ws h (fun l h1=>l.length<=sizeLine/\Q (.tup l) h1) X
def Ud (t:TWA):TWE:=fun ws h Q X=>t ws h (fun l h1=>l.length<=sizeLine/\nwL l h1 Q) X
def Vb:TWE:=fun a h Q a=>(∀p,h p=none->Q (.ref p) (up h p (.dK [])))\/∀p,h p=none->Q (.ref p) (up h p (.dT []))
def wCB (r:RWN)(t:TWA):TWE:=fun ws h Q X=>t ws h (fun l h1=>r l h1 Q) X
def gS (sp:WP)(t:TWA):TWE:=fun ws h Q X=>t ws h (fun l h1=>sp l h1 Q X) X
inductive NZ (f:Str)(fs:List (Str×W))(h:WH)(Q:WQ):Prop
 |mk (v):fs.lookup f=some v->Q v h->NZ f fs h Q
inductive PL (f:Str)(a:Addr)(h:WH)(Q:WQ):Prop
 |mk (c fs v):h a=some (.ins c fs)->fs.lookup f=some v->Q v h->PL f a h Q
def UW (f:Str):RW1:=fun x h Q=>match x with
 |.obj _ fs=>NZ f fs h Q
 |.ref a=>PL f a h Q
 |_=>False
def iD (x:W)(h:WH)(c:Nat)(fs:List (Str×W)):Prop:=x=.obj c fs\/∃a,x=.ref a/\h a=some (.ins c fs)
inductive xZ (L:List (Nat×WP))(m:Str)(x:W)(h:WH)(k:WP->Prop):Prop
 |mk (c fs sp):iD x h c fs->(c,sp)∈L->fs.lookup m=none->k sp->xZ L m x h k
def wM (L:List (Nat×WP))(m:Str)(o:TWE)(t:TWA):TWE:=fun ws h Q X=>o ws h (fun x h1=>xZ L m x h1 fun sp=>t ws h1 (fun l h2=>sp (x::l) h2 Q X) X) X
def Ft (c:Nat)(sp:WP)(t:TWA):TWE:=fun ws h Q X=>t ws h (fun l h1=>∀p,h1 p=none->sp (.ref p::l) (up h1 p (.ins c [])) (fun w h2=>w=.non/\Fz Q (.ref p) h2) X) X
def Sel.imp {A B A' B':Prop}(q:Sel b A B)(f:A->A')(g:B->B'):Sel b A' B':=.mk (fun e=>f (by have:=dS q;rwa [if_pos e]at this)) fun e=>g (by have:=dS q;rwa [if_neg (by rw[e];decide)]at this)
inductive LP (K:W.Frag)(G:Gm)(sp:WP)(vs:List V)(H:Hp)(Q:VK)(E:XK):Prop
 |mk (l:List W) (h:WH) (Qw:WQ) (Xw:WX):Rep K G h H->RelWs K G (fz h H) l vs->sp l h Qw Xw->(∀x h',Qw x h'->uQ K G h H Q x h')->(∀e h',Xw e h'->uX K G h H E e h')->LP K G sp vs H Q E
def lP (K:W.Frag)(G:Gm)(sp:WP):Sp:=fun vs H Q E=>LP K G sp vs H Q E
section
variable {X:Cx}{G:Gm}{a b c e o:Expr}{es bQ:List Expr}{ta tb tc te to tv:TWE}{tA tB:TWT}{t:TWA}{pos apos cpos p:Pos}{x y:Str}
def Vs.get {K:W.Frag}{Z:Hp}{σ:L2.St}{ws:WS}(S:bY K G Z ws σ){i:Nat}{Q:WQ}{h:WH}(q:bJ i ws h Q (fun a a=>False)):∃w v,ws[i]?=some (some w)/\σ[i]?=some (some v)/\aI K G Z w v/\Q w h:=by
 unfold bJ at q
 split at q
 ·obtain⟨v,e,r⟩:=S.at_ i _ ‹_›
  exact⟨_,v,‹_›,e,r,q⟩
 ·exact q.elim
def aa (i:Nat)(hN:X.N[i]?=some x:=by rfl)(hv:Vis X.env.scope x:=by first|exact ab0 rfl|exact aaE (ab0 rfl)|exact aaE (aaE rfl))(hd:(x==("__debug__":Str))=false:=by decide)(hcd:(x==("__classdict__":Str))=false:=by decide):ZE X G (.Name x p) (bJ i):=
 ⟨fun E hE=>QE.imp (oV i hN hv hd hcd) fun σ H Q ⟨ws,h,Qw,Xw,A,S,ht,hQ,hX⟩=>by
  obtain⟨w,v,e1,e2,r,q⟩:=Vs.get S (Q:=Qw) ht
  unfold mh;rw[e2]
  exact hQ _ _ q _ _ (ax.rfl' A) r⟩
def z_c (hq:QE X e (tC v))(hr:∀Z,aI X.K G Z w v):ZE X G e (wC w):=
 ⟨fun E hE=>QE.imp hq fun σ H Q ⟨ws,h,Qw,Xw,A,S,ht,hQ,hX⟩=>hQ _ _ ht _ _ (ax.rfl' A) (hr _)⟩
def b7 {j}:ZE X G (.Constant (.int i) j pos) (wC (.int i)):=z_c fG fun a=>.int i
def c6 {j}:ZE X G (.Constant (.str i) j pos) (wC (.str i)):=z_c Ru fun a=>.str i
def eK {j}:ZE X G (.Constant (.bool i) j pos) (wC (.bl i)):=z_c Vi fun a=>.bl i
def wW {j}:ZE X G (.Constant .none j pos) (wC .non):=z_c Rn fun a=>.non
def IG (hm:∃t,X.mg x=some (.int i t))(hg:Gl X x:=by rfl)(hd:(x==("__debug__":Str))=false:=by decide):ZE X G (.Name x pos) (wC (.int i)):=z_c (Vc hm hg hd) fun a=>.int i
def fN (hm:X.mg x=none)(hv:bootBuiltins x=some (.type T))(hg:Gl X x:=by rfl)(hn:x≠"__name__":=by decide)(hd:(x==("__debug__":Str))=false:=by decide):ZE X G (.Name x pos) (wC (.ty T)):=z_c (Um hm hv hg hn hd) fun a=>.ty T
def UU (c:Nat)(hm:X.mg x=some (.ref (G.cA c)))(hg:Gl X x:=by rfl)(hd:(x==("__debug__":Str))=false:=by decide):ZE X G (.Name x pos) (wC (.cls c)):=z_c (TJ hm hg hd) fun a=>.cls c
def C1 (K:W.Frag)(G:Gm)(r:V->Hp->VK->Prop)(q:RW1):Prop:=∀{h:WH}{H:Hp}{x:W}{v:V}{Qw:WQ}{Q:VK},Rep K G h H->aI K G (fz h H) x v->q x h Qw->(∀w h',Qw w h'->uQ K G h H Q w h')->r v H Q
def C2 (K:W.Frag)(G:Gm)(r:R2)(q:RW2):Prop:=∀{h:WH}{H:Hp}{x y:W}{v u:V}{Qw:WQ}{Q:VK},Rep K G h H->aI K G (fz h H) x v->aI K G (fz h H) y u->q x y h Qw->(∀w h',Qw w h'->uQ K G h H Q w h')->r v u H Q
def CN (K:W.Frag)(G:Gm)(r:List V->Hp->VK->Prop)(q:RWN):Prop:=∀{h:WH}{H:Hp}{x:List W}{v:List V}{Qw:WQ}{Q:VK},Rep K G h H->RelWs K G (fz h H) x v->q x h Qw->(∀w h',Qw w h'->uQ K G h H Q w h')->r v H Q
def CM (K:W.Frag)(G:Gm)(r:V->List V->Hp->VK->Prop)(q:RWM):Prop:=∀{h:WH}{H:Hp}{y:W}{u:V}{x:List W}{v:List V}{Qw:WQ}{Q:VK},Rep K G h H->aI K G (fz h H) y u->RelWs K G (fz h H) x v->q y x h Qw->(∀w h',Qw w h'->uQ K G h H Q w h')->r u v H Q
structure OpW (X:Cx)(G:Gm)(f:pz->pz->Sem pz)(q:RW2):Prop where
 ex:∃r,OpR X f r/\C2 X.K G r q
def lOp {K:W.Frag}{r:R2}{q:RW2}(C:C2 K G r q){E:L2.St->XK}{σ:L2.St}{H:Hp}{Q:VK}(z:lE K G (wOp q ta tb) E σ H Q):tOp r (lE K G ta E) (lE K G tb E) σ H Q:=by
 obtain⟨ws,h,Qw,Xw,A,S,ht,hQ,hX⟩:=z
 exact bnd A S ht hX fun x h1 y H1 p s r=>bnd s.rep (S.mono s.sm) p (hX1 s hX) fun x2 h2 y2 H2 p2 s2 r2=>C s2.rep (r.mono s2.sm) r2 p2 (hQ1 (s.trans s2) hQ)
def aA (ho:OpW X G (binaryOp op) q)(ha:ZE X G a ta)(hb:ZE X G b tb):ZE X G (.BinOp a op b pos) (wOp q ta tb):=
 let ⟨_,h1,h2⟩:=ho.ex;⟨fun E hE=>QE.imp (qU h1 (ha.out E hE) (hb.out E hE)) fun c c c=>lOp h2⟩
def fH (ho:OpW X G (compareOp op) q)(ha:ZE X G a ta)(hb:ZE X G b tb)(hm:behindInMarks op b=false:=by first|exact mF _|rfl):ZE X G (.Compare a [op] [b] pos) (wOp q ta tb):=
 let ⟨_,h1,h2⟩:=ho.ex;⟨fun E hE=>QE.imp (Se h1 (ha.out E hE) (hb.out E hE) hm) fun c c c=>lOp h2⟩
def PN {r:V->Hp->VK->Prop}{te':TE->TE}(hq:∀t,QE X a t->QE X e (te' t))(ht:∀t σ H Q,(t σ H fun x H1=>r x H1 Q)->te' t σ H Q)(C:C1 X.K G r q)(ha:ZE X G a ta):ZE X G e (wUn q ta):=
 ⟨fun E hE=>QE.imp (hq _ (ha.out E hE)) fun σ H Q ⟨ws,h,Qw,Xw,A,S,hw,hQ,hX⟩=>ht _ _ _ _ (bnd A S hw hX fun x h1 y H1 p s r=>C s.rep r p (hQ1 s hQ))⟩
def SA {K:W.Frag}:C1 K G (fun x H Q=>match x with|.bl c=>Q (.bl (!c)) H|_=>False) QB:=@fun a a x a a a A r q hQ=>by
 cases x<;>first|exact q.elim|obtain rfl:=wiv r;exact hQ _ _ q _ _ (ax.rfl' A) (.bl _)
def Kj (ha:ZE X G a ta):ZE X G (.UnaryOp .Not a pos) (wUn QB ta):=PN (fun t h=>RO h) (fun t σ H Q h=>h) SA ha
def UY:RW1:=fun x h Q=>match x with|.int i=>Q (.int (-i)) h|_=>False
def fM (ha:ZE X G a ta):ZE X G (.UnaryOp .USub a pos) (wUn UY ta):=PN (fun t h=>Sa h) (fun t σ H Q h=>h) (@fun b b x b b b A r q hQ=>by
 cases x<;>first|exact q.elim|obtain rfl:=wiv r;exact hQ _ _ q _ _ (ax.rfl' A) (.int _)) ha
def lCh {K:W.Frag}{r r':R2}{q q':RW2}(C:C2 K G r q)(C':C2 K G r' q'){E:L2.St->XK}{σ:L2.St}{H:Hp}{Q:VK}(z:lE K G (wCh q q' ta tb tc) E σ H Q):rz r r' (lE K G ta E) (lE K G tb E) (lE K G tc E) σ H Q:=by
 obtain⟨ws,h,Qw,Xw,A,S,ht,hQ,hX⟩:=z
 refine bnd A S ht hX fun x h1 y H1 p s r=>bnd s.rep (S.mono s.sm) p (hX1 s hX) fun x2 h2 y2 H2 p2 s2 r2=>C s2.rep (r.mono s2.sm) r2 p2 fun w h3 q3 v H3 s3 r3=>?_
 have s03:=(s.trans s2).trans s3
 cases w<;>first|exact q3.elim|obtain rfl:=wiv r3
 exact Sel.imp q3 (fun q3=>bnd s3.rep (S.mono s03.sm) q3 (hX1 s03 hX) fun x4 h4 y4 H4 p4 s4 r4=>C' s4.rep (r2.mono (s3.trans s4).sm) r4 p4 (hQ1 (s03.trans s4) hQ)) fun q3=>hQ _ _ q3 _ _ s03 (.bl _)
def jt (ho:OpW X G (compareOp op) q)(ho':OpW X G (compareOp op') q')(ha:ZE X G a ta)(hb:ZE X G b tb)(hc:ZE X G c tc)(hm:lastMarks [op,op'] [b,c]=false:=by with_unfolding_all rfl):ZE X G (.Compare a [op,op'] [b,c] pos) (wCh q q' ta tb tc):=
 let ⟨_,h1,h2⟩:=ho.ex;let ⟨_,h3,h4⟩:=ho'.ex;⟨fun E hE=>QE.imp (Mq h1 h3 (ha.out E hE) (hb.out E hE) (hc.out E hE) hm) fun d d d=>lCh h2 h4⟩
def Qm {K:W.Frag}{E:L2.St->XK}{σ:L2.St}{H:Hp}{Q:Bool->Hp->Prop}(z:lT K G (Cj ta) E σ H Q){tt:TE}(i:∀σ H Q,lE K G ta E σ H Q->tt σ H Q):jr tt σ H Q:=by
 obtain⟨ws,h,Qw,Xw,A,S,ht,hQ,hX⟩:=z
 refine i _ _ _ (bnd A S ht hX fun x h1 y H1 p s r=>?_)
 cases x<;>first|exact p.elim|obtain rfl:=wiv r;exact hQ _ _ p _ _ s rfl
def aJ (ho:OpW X G (compareOp op) q)(ha:ZE X G a ta)(hb:ZE X G b tb)(hm:behindInMarks op b=false:=by first|exact mF _|rfl):ZT X G (.Compare a [op] [b] pos) (Cj (wOp q ta tb)):=
 let ⟨_,h1,h2⟩:=ho.ex;⟨fun E hE=>QT.imp (rQ h1 (ha.out E hE) (hb.out E hE) hm) fun c c c z=>Qm z fun c c c=>lOp h2⟩
def BB (ho:OpW X G (compareOp op) q)(ho':OpW X G (compareOp op') q')(ha:ZE X G a ta)(hb:ZE X G b tb)(hc:ZE X G c tc)(hm:lastMarks [op,op'] [b,c]=false:=by with_unfolding_all rfl):ZT X G (.Compare a [op,op'] [b,c] pos) (Cj (wCh q q' ta tb tc)):=
 let ⟨_,h1,h2⟩:=ho.ex;let ⟨_,h3,h4⟩:=ho'.ex;⟨fun E hE=>QT.imp (Jd h1 h3 (ha.out E hE) (hb.out E hE) (hc.out E hE) hm) fun d d d z=>Qm z fun d d d=>lCh h2 h4⟩
def SqL.up {K:W.Frag}{Z:Hp}{H:Hp}(s:bc Z H){a:Addr}{l:List V}(q:SqL K Z a l):SqL K H a l:=q.elim (fun q=>.inl (tJ s q)) .inr
def SqT.up {K:W.Frag}{Z:Hp}{H:Hp}(s:bc Z H){a:Addr}{l:List V}(q:SqT K Z a l):SqT K H a l:=q.elim (fun q=>.inl (tJ s q)) .inr
def RelWs.len {K:W.Frag}{Z:Hp}:∀{l:List W}{v:List V},RelWs K G Z l v->l.length=v.length:=RelWs.ind (M:=fun l v=>l.length=v.length) rfl fun a a b=>by rw[VS,VS,b]
def RelKs.len {K:W.Frag}{Z:Hp}{κ:Type}:∀{l:List (κ×W)}{v:List (κ×V)},RelKs K G Z l v->l.length=v.length:=RelKs.ind (M:=fun l v=>l.length=v.length) rfl fun a a b=>by rw[VS,VS,b]
def RelWs.emp {K:W.Frag}{Z:Hp}{l:List W}{v:List V}(r:RelWs K G Z l v):l.isEmpty=v.isEmpty:=by cases r<;>rfl
def RelKs.emp {K:W.Frag}{Z:Hp}{κ:Type}{l:List (κ×W)}{v:List (κ×V)}(r:RelKs K G Z l v):l.isEmpty=v.isEmpty:=by cases r<;>rfl
def bd (ha:ZE X G e te)(he:∀whole,isTrue e X.env whole=(do let v<-whole;standAt e.pos;holding [v] (truthy v)):=by intro b;rfl):ZT X G e (UM te):=
 ⟨fun E hE=>QT.imp (Qr (ha.out E hE) he) fun σ H Q ⟨ws,h,Qw,Xw,A,S,ht,hQ,hX⟩=>by
  refine bnd A S ht hX fun x h1 y H1 p s r=>?_
  cases r with
  |non=>exact hQ _ _ p _ _ s rfl
  |bl=>exact hQ _ _ p _ _ s rfl
  |int=>exact hQ _ _ p _ _ s rfl
  |str=>exact⟨_,⟨p.1,rfl⟩,hQ _ _ p.2 _ _ s rfl⟩
  |tup e r=>exact⟨_,.inr (.inl ⟨_,SqT.of (aV _ _ e),rfl⟩),hQ _ _ p _ _ s (by rw[r.emp])⟩
  |fl e r=>exact⟨_,.inl ⟨_,SqL.of (aV _ _ e),rfl⟩,hQ _ _ p _ _ s (by rw[r.emp])⟩
  |sl e r=>exact⟨_,.inl ⟨_,SqL.up aV e,rfl⟩,hQ _ _ p _ _ s (by rw[r.emp])⟩
  |ref a=>
   rcases p with⟨l,e,p⟩|⟨l,e,p⟩
   ·obtain⟨u,e1,r1⟩:=s.rep _ _ e
    replace r1:=oiv r1;obtain⟨b,rfl,r1⟩:=r1;exact⟨_,.inl ⟨_,SqL.of e1,rfl⟩,hQ _ _ p _ _ s (by rw[r1.emp])⟩
   ·obtain⟨u,e1,r1⟩:=s.rep _ _ e
    replace r1:=oiv r1;obtain⟨b,rfl,r1⟩:=r1;exact⟨_,.inr (.inr ⟨_,e1,rfl⟩),hQ _ _ p _ _ s (by rw[r1.emp])⟩
  |_=>exact p.elim⟩
def bp (ha:ZT X G a tA):ZT X G (.UnaryOp .Not a pos) (Ss tA):=
 ⟨fun E hE=>QT.imp (OX (ha.out E hE)) fun σ H Q ⟨ws,h,Qw,Xw,A,S,ht,hQ,hX⟩=>bnd A S ht hX fun x h1 y H1 p s r=>by subst r;exact hQ _ _ p _ _ s rfl⟩
def z_w (h:ZW X G e tA):ZT X G e tA:=⟨fun E hE=>x_w (h.out E hE)⟩
def Nl (ha:ZT X G a tA):ZW X G (.BoolOp .And [a] pos) tA:=⟨fun E hE=>Nq (ha.out E hE)⟩
def jX (ha:ZT X G a tA):ZW X G (.BoolOp .Or [a] pos) tA:=⟨fun E hE=>OZ (ha.out E hE)⟩
def Qy (ha:ZT X G a tA)(hb:ZW X G (.BoolOp .And (b::bQ) pos) tB):ZW X G (.BoolOp .And (a::b::bQ) pos) (Lg tA tB):=
 ⟨fun E hE=>QW.imp (Pa (ha.out E hE) (hb.out E hE)) fun σ H Q ⟨ws,h,Qw,Xw,A,S,ht,hQ,hX⟩=>bnd A S ht hX fun x h1 y H1 p s r=>by
  subst r;exact Sel.imp p (fun p=>⟨ws,h1,Qw,Xw,s.rep,S.mono s.sm,p,hQ1 s hQ,hX1 s hX⟩) fun p=>hQ _ _ p _ _ s rfl⟩
def jn (ha:ZT X G a tA)(hb:ZW X G (.BoolOp .Or (b::bQ) pos) tB):ZW X G (.BoolOp .Or (a::b::bQ) pos) (Qg tA tB):=
 ⟨fun E hE=>QW.imp (Tg (ha.out E hE) (hb.out E hE)) fun σ H Q ⟨ws,h,Qw,Xw,A,S,ht,hQ,hX⟩=>bnd A S ht hX fun x h1 y H1 p s r=>by
  subst r;exact Sel.imp p (fun p=>hQ _ _ p _ _ s rfl) fun p=>⟨ws,h1,Qw,Xw,s.rep,S.mono s.sm,p,hQ1 s hQ,hX1 s hX⟩⟩
def eu {op}(h:ZE X G a ta):ZE X G (.BoolOp op [a] pos) ta:=⟨fun E hE=>SE (h.out E hE)⟩
def df (ha:ZE X G a ta)(hb:ZE X G (.BoolOp .And (b::bQ) pos) tb):ZE X G (.BoolOp .And (a::b::bQ) pos) (UV ta tb):=
 ⟨fun E hE=>QE.imp (To (ha.out E hE) (hb.out E hE)) fun σ H Q ⟨ws,h,Qw,Xw,A,S,ht,hQ,hX⟩=>bnd A S ht hX fun x h1 y H1 p s r=>by
  cases x<;>first|exact p.elim|obtain rfl:=wiv r;exact Sel.imp p (fun p=>⟨ws,h1,Qw,Xw,s.rep,S.mono s.sm,p,hQ1 s hQ,hX1 s hX⟩) fun p=>hQ _ _ p _ _ s (.bl _)⟩
def mq (hc:ZT X G c tA)(ha:ZE X G a ta)(hb:ZE X G b tb):ZE X G (.IfExp c a b pos) (wIf tA ta tb):=
 ⟨fun E hE=>QE.imp (Ui (hc.out E hE) (ha.out E hE) (hb.out E hE)) fun σ H Q ⟨ws,h,Qw,Xw,A,S,ht,hQ,hX⟩=>bnd A S ht hX fun x h1 y H1 p s r=>by
  subst r;exact Sel.imp p (fun p=>⟨ws,h1,Qw,Xw,s.rep,S.mono s.sm,p,hQ1 s hQ,hX1 s hX⟩) fun p=>⟨ws,h1,Qw,Xw,s.rep,S.mono s.sm,p,hQ1 s hQ,hX1 s hX⟩⟩
def ae:ZA X G [] eS:=⟨fun E hE=>QA.imp SM fun σ H Q ⟨ws,h,Qw,Xw,A,S,ht,hQ,hX⟩=>hQ _ _ ht _ _ (ax.rfl' A) .nil⟩
def ac (ha:ZE X G e te)(hr:ZA X G es t)(hs:bo e=true:=by rfl):ZA X G (e::es) (dc te t):=
 ⟨fun E hE=>QA.imp (OE (ha.out E hE) (hr.out E hE) hs) fun σ H Q ⟨ws,h,Qw,Xw,A,S,ht,hQ,hX⟩=>bnd A S ht hX fun x h1 y H1 p s r=>
  bnd s.rep (S.mono s.sm) p (hX1 s hX) fun x2 h2 y2 H2 p2 s2 r2=>hQ _ _ p2 _ _ (s.trans s2) (.cons (r.mono s2.sm) r2)⟩
def bf {k}(ha:ZA X G es t):ZE X G (.Tuple es k pos) (yw t):=
 ⟨fun E hE=>QE.imp (Rc (ha.out E hE)) fun σ H Q ⟨ws,h,Qw,Xw,A,S,ht,hQ,hX⟩=>bnd A S ht hX fun x h1 y H1 p s r=>⟨by rw[<-r.len];exact p.1,fun q hq=>by
  have s2:=ax.lay (u:=.tup y) s.rep hq
  exact hQ _ _ p.2 _ _ (s.trans s2) (.tup (by rw[bB (s.rep.new hq),aT]) (r.mono s2.sm))⟩⟩
def nwL.ok {K:W.Frag}{h:WH}{H:Hp}{l:List W}{v:List V}{Qw:WQ}{Q:VK}{p:Addr}(A:Rep K G h H)(r:RelWs K G (fz h H) l v)(n:nwL l h Qw)(hQ:∀w h',Qw w h'->uQ K G h H Q w h')(hp:H p=none):Q (.ref p) (upd H p (.lst v)):=by
 rcases n with n|n
 ·have s:=ax.lay (u:=.lst v) A hp
  exact hQ _ _ n _ _ s (.fl (by rw[bB (A.new hp),aT]) (r.mono s.sm))
 ·exact hQ _ _ (n p (A.new hp)) _ _ (ax.new A hp (.lst r)) (.ref p)
def dz (ha:ZA X G es t):ZE X G (.List es pos) (Ud t):=
 ⟨fun E hE=>QE.imp (QY (ha.out E hE)) fun σ H Q ⟨ws,h,Qw,Xw,A,S,ht,hQ,hX⟩=>bnd A S ht hX fun x h1 y H1 p s r=>⟨by rw[<-r.len];exact p.1,fun q hq=>nwL.ok s.rep r p.2 (hQ1 s hQ) hq⟩⟩
def FF:ZE X G (.Dict [] [] pos) Vb:=
 ⟨fun E hE=>QE.imp yU fun σ H Q ⟨ws,h,Qw,Xw,A,S,ht,hQ,hX⟩=>ht.imp (fun ht p hp=>hQ _ _ (ht p (A.new hp)) _ _ (ax.new A hp (.dK .nil)) (.ref p)) fun ht p hp=>hQ _ _ (ht p (A.new hp)) _ _ (ax.new A hp (.dT .nil)) (.ref p)⟩
structure IxW (X:Cx)(G:Gm)(q:RW2):Prop where
 ex:∃r,IxR X r/\C2 X.K G r q
def aP (hr:IxW X G q)(ha:ZE X G a ta)(hb:ZE X G b tb)(hs:yt b:=by exact fun c c=>rfl):ZE X G (.Subscript a b pos) (wOp q ta tb):=
 let ⟨_,h1,h2⟩:=hr.ex;⟨fun E hE=>QE.imp (UI h1 (ha.out E hE) (hb.out E hE) hs) fun c c c=>lOp h2⟩
structure CaW (X:Cx)(G:Gm)(f:pz)(q:RWN):Prop where
 ex:∃r,bq X f r/\CN X.K G r q
def lCB {K:W.Frag}{r:List V->Hp->VK->Prop}{q:RWN}(C:CN K G r q){E:L2.St->XK}{σ:L2.St}{H:Hp}{Q:VK}(z:lE K G (wCB q t) E σ H Q):tCB r (lA K G t E) σ H Q:=by
 obtain⟨ws,h,Qw,Xw,A,S,ht,hQ,hX⟩:=z
 exact bnd A S ht hX fun x h1 y H1 p s r=>C s.rep r p (hQ1 s hQ)
def aF {id:String}{q:RWN}(hc:CaW X G (.builtin id) q)(hm:X.mg x=none)(hv:bootBuiltins x=some (.builtin id))(ha:ZA X G (e::es) t)(hg:Gl X x:=by rfl)(hn:x≠"__name__":=by decide)(hdb:(x==("__debug__":Str))=false:=by decide)
 (hs:aM (e::es)=true:=by rfl):ZE X G (.Call (.Name x p) (e::es) [] pos) (wCB q t):=let ⟨_,h1,h2⟩:=hc.ex;⟨fun E hE=>QE.imp (Lo h1 hm hv (ha.out E hE) hg hn hdb hs) fun a a a=>lCB h2⟩
def fO (hc:CaW X G (.type T) q)(hm:X.mg x=none)(hv:bootBuiltins x=some (.type T))(ha:ZA X G (e::es) t)(hg:Gl X x:=by rfl)(hn:x≠"__name__":=by decide)(hdb:(x==("__debug__":Str))=false:=by decide)
 (hs:aM (e::es)=true:=by rfl):ZE X G (.Call (.Name x p) (e::es) [] pos) (wCB q t):=let ⟨_,h1,h2⟩:=hc.ex;⟨fun E hE=>QE.imp (JW h1 hm hv (ha.out E hE) hg hn hdb hs) fun a a a=>lCB h2⟩
variable {k:Nat}{f C:Addr}{fd:Gt}{ps:List Str}{sp:WP}{m fl:Str}
def KU {K:W.Frag}{E:L2.St->XK}{σ:L2.St}{H:Hp}{Q:VK}(z:lE K G (gS sp t) E σ H Q):nM (lP K G sp) E (lA K G t E) σ H Q:=by
 obtain⟨ws,h,Qw,Xw,A,S,ht,hQ,hX⟩:=z
 exact bnd A S ht hX fun x h1 y H1 p s r=>⟨x,h1,Qw,Xw,s.rep,r,p,hQ1 s hQ,hX1 s hX⟩
def UH {K:W.Frag}{E:L2.St->XK}{σ:L2.St}{H:Hp}{Q:List V->Hp->Prop}(z:lA K G eS E σ H Q):ph σ H Q:=by
 obtain⟨ws,h,Qw,Xw,A,S,ht,hQ,hX⟩:=z
 exact hQ _ _ ht _ _ (ax.rfl' A) .nil
variable {q st:Str}{sd:Stmt}
def aB (F:cy X.prog X.w X.K X.mg X.base (CX1 X.prog X.w) k f fd ps (lP X.K G sp))(hr:aZ k X.A)(M:Fm X.K X.mg x q sd f fd ps)(ha:ZA X G (e::es) t)
  (hg:Gl X x:=by rfl)(hdb:(x==("__debug__":Str))=false:=by decide)(hs:aM (e::es)=true:=by rfl):ZE X G (.Call (.Name x p) (e::es) [] pos) (gS sp t):=
 ⟨fun E hE=>QE.imp (Md F hr M.m M.f.kp M.b hE (ha.out E hE) hg hdb hs) fun a a a=>KU⟩
theorem RelKs.look {K:W.Frag}{Z:Hp}:∀{fs:List (Str×W)}{vs:List (Str×V)}{f:Str},RelKs K G Z fs vs->(∀w,fs.lookup f=some w->∃v,vs.lookup f=some v/\aI K G Z w v)/\(fs.lookup f=none->vs.lookup f=none)
 |_,_,f,.nil=>⟨fun w e=>(by injection e),fun c=>rfl⟩
 |_,_,f,.cons (k:=k) a b=>by
  obtain⟨i1,i2⟩:=RelKs.look (f:=f) b
  rw[WK,WK]
  split
  ·exact⟨fun w e=>by obtain rfl:=VR e;exact⟨_,rfl,a⟩,fun e=>by injection e⟩
  ·exact⟨i1,i2⟩
def jz {fs:List (Str×W)}{f:Str}{w:W}:fs.lookup f=some w->∃p∈fs,p.1=f:=by
 induction fs with
 |nil=>intro e;injection e
 |cons p r ih=>
  intro e
  obtain⟨k,v⟩:=p
  rw[WK]at e
  by_cases hk:(f==k)=true
  ·exact⟨_,cW,(beq_iff_eq.mp hk).symm⟩
  ·rw[Bool.not_eq_true]at hk
   rw[hk]at e
   obtain⟨p,a,b⟩:=ih e
   exact⟨p,Vu _ a,b⟩
def iD.rel {K:W.Frag}{h:WH}{H:Hp}{x:W}{v:V}{c:Nat}{fs:List (Str×W)}(A:Rep K G h H)(r:aI K G (fz h H) x v)(i:iD x h c fs):
  ∃a dx vs,v=.ref a/\H a=some (.ins (G.cA c) dx vs)/\RelKs K G (fz h H) fs vs/\Jc K G c fs:=by
 rcases i with rfl|⟨a,rfl,e⟩
 ·cases r with|obj e r c=>exact⟨_,_,_,rfl,aV _ _ e,r,c⟩
 ·obtain rfl:=wiv r
  obtain⟨u,e1,e2⟩:=A _ _ e
  cases e2 with|ins r c=>exact⟨_,_,_,rfl,e1,r,c⟩
def aC (he:ZE X G e te)(hb:attributeBase e fl X.env (eval e X.env)=eval e X.env:=by rfl):ZE X G (.Attribute e fl pos) (wUn (UW fl) te):=
 ⟨fun E hE=>QE.imp (Rh (he.out E hE) hb) fun σ H Q ⟨ws,h,Qw,Xw,A,S,ht,hQ,hX⟩=>bnd A S ht hX fun x h1 y H1 p s r=>by
  have key:∃c fs v,iD x h1 c fs/\fs.lookup fl=some v/\Qw v h1:=by
   cases x<;>first|exact p.elim|skip
   ·obtain⟨c,fs,v,e1,e2,p⟩:=p;exact⟨c,fs,v,.inr ⟨_,rfl,e1⟩,e2,p⟩
   ·obtain⟨v,e2,p⟩:=p;exact⟨_,_,v,.inl rfl,e2,p⟩
  obtain⟨c,fs,w,i,e2,p⟩:=key
  obtain⟨a,dx,vs,rfl,e1,r1,c1⟩:=i.rel s.rep r
  obtain⟨v,e3,r3⟩:=(RelKs.look r1).1 w e2
  obtain⟨z,hz,hz2⟩:=jz e2
  exact⟨a,_,dx,vs,v,rfl,e1,c1.1,hz2▸c1.2 z hz,e3,hQ _ _ p _ _ s r3⟩⟩
structure MW (X:Cx)(G:Gm)(m:Str)(p:Nat×WP):Prop where
 ex:∃k f fd ps,Cls X.K (G.cA p.1)/\bu X.K (G.cA p.1) m f/\cy X.prog X.w X.K X.mg X.base (CX1 X.prog X.w) k f fd ps (lP X.K G p.2)/\aZ k X.A/\bX X.K fd ps []
def MW.md {L:List (Nat×WP)}(hL:∀p∈L,MW X G m p){E:L2.St->XK}(hE:di (CX1 X.prog X.w) X E):∀p∈L.map (fun p=>(G.cA p.1,lP X.K G p.2)),MD X m E p:=fun p hp=>by
 obtain⟨q,hq,rfl⟩:=VL.mp hp
 obtain⟨k,f,fd,ps,a,b,c,d,e⟩:=(hL q hq).ex
 exact⟨_,k,f,fd,ps,a,b,c,d,e,hE⟩
def Si {K:W.Frag}{L:List (Nat×WP)}{m:Str}{E:L2.St->XK}{σ:L2.St}{H:Hp}{Q:VK}(z:lE K G (wM L m to t) E σ H Q):Cz (L.map (fun p=>(G.cA p.1,lP K G p.2))) m E (lE K G to E) (lA K G t E) σ H Q:=by
 obtain⟨ws,h,Qw,Xw,A,S,ht,hQ,hX⟩:=z
 refine bnd A S ht hX fun x h1 y H1 p s r=>?_
 obtain⟨c,fs,sp,i,hm,hl,p⟩:=p
 obtain⟨a,dx,vs,rfl,e1,r1,c1⟩:=i.rel s.rep r
 exact⟨a,_,dx,vs,_,rfl,e1,VL.mpr ⟨_,hm,rfl⟩,(RelKs.look r1).2 hl,bnd s.rep (S.mono s.sm) p (hX1 s hX) fun x2 h2 y2 H2 p2 s2 r2=>
  ⟨_,h2,Qw,Xw,s2.rep,.cons (r.mono s2.sm) r2,p2,hQ1 (s.trans s2) hQ,hX1 (s.trans s2) hX⟩⟩
def mwn:∀p∈([]:List (Nat×WP)),MW X G m p:=fun p hp=>nomatch hp
def mwc {L:List (Nat×WP)}{m:Str}{c:Nat}(hc:Cls X.K (G.cA c))(hm:bu X.K (G.cA c) m f)(F:cy X.prog X.w X.K X.mg X.base (CX1 X.prog X.w) k f fd ps (lP X.K G sp))(hr:aZ k X.A)(hb:bX X.K fd ps [])(h:∀p∈L,MW X G m p):∀p∈(c,sp)::L,MW X G m p:=fun p hp=>by
 rcases tx.mp hp with rfl|hp
 ·exact⟨k,f,fd,ps,hc,hm,F,hr,hb⟩
 ·exact h p hp
def aN {pl:Sem Bool}(he:ZE X G o to)(hL:∀p∈L,MW X G m p)(ha:ZA X G (e::es) t)(hs:aM (e::es)=true:=by rfl)
  (ht:eval (.Call (.Attribute o m apos) (e::es) [] pos) X.env=(do
   let ov<-eval o X.env
   standAt apos.atName
   let (f,first)<-holding [ov] (getMethod ov m pl)
   callWith pos f first (backTo pos (starEach (e::es) X.env)) (backToKw pos (keywordEach [] X.env))):=by rfl):ZE X G (.Call (.Attribute o m apos) (e::es) [] pos) (wM L m to t):=
 ⟨fun E hE=>QE.imp (Np (he.out E hE) (MW.md hL hE) (ha.out E hE) hs ht) fun a a a=>Si⟩
def da {L:List (Nat×WP)}{pl:Sem Bool}(he:ZE X G o to)(hL:∀p∈L,MW X G m p)
  (ht:eval (.Call (.Attribute o m apos) [] [] pos) X.env=(do
   let ov<-eval o X.env
   standAt apos.atName
   let (f,first)<-holding [ov] (getMethod ov m pl)
   callWith pos f first (backTo pos (starEach [] X.env)) (backToKw pos (keywordEach [] X.env))):=by rfl):ZE X G (.Call (.Attribute o m apos) [] [] pos) (wM L m to eS):=
 ⟨fun E hE=>QE.imp (JL (he.out E hE) (MW.md hL hE) ht) fun σ H Q z=>by
  obtain⟨ws,h,Qw,Xw,A,S,ht,hQ,hX⟩:=z
  refine bnd A S ht hX fun x h1 y H1 p s r=>?_
  obtain⟨c,fs,sp,i,hm,hl,p⟩:=p
  obtain⟨a,dx,vs,rfl,e1,r1,c1⟩:=i.rel s.rep r
  exact⟨a,_,dx,vs,_,rfl,e1,VL.mpr ⟨_,hm,rfl⟩,(RelKs.look r1).2 hl,⟨_,h1,Qw,Xw,s.rep,.cons r .nil,p,hQ1 s hQ,hX1 s hX⟩⟩⟩
end
section
variable {X:Cx}{G:Gm}{K:W.Frag}{h:WH}{H H':Hp}
def ax.same (A:Rep K G h H)(s:bc H H'):ax K G h H h H':=by
 have sm:bc (fz h H) (fz h H'):=fun a o e=>by
  obtain⟨e1,e2⟩:=kS e
  rw[bB e2];exact s _ _ e1
 exact⟨fun a o e=>let ⟨u,e1,e2⟩:=A a o e;⟨u,s _ _ e1,e2.mono sm⟩,sm⟩
def sw (A:Rep K G h H)(s:bc H H')(e:H' p=some (.tup l)):fz h H' p=some (.tup l):=by
 rw[bB];exact e
 cases q:h p with
 |none=>rfl
 |some o=>
  obtain⟨u,e1,e2⟩:=A _ _ q
  rw[s _ _ e1]at e;obtain rfl:=VR e;cases e2
def RelWs.app {l':List W}{v':List V}:∀{l:List W}{v:List V},RelWs K G Z l v->RelWs K G Z l' v'->RelWs K G Z (l++l') (v++v'):=fun r q=>RelWs.ind (M:=fun l v=>RelWs K G Z (l++l') (v++v')) q (fun a b c=>.cons a c) r
def RelWs.get:∀{l:List W}{v:List V},RelWs K G Z l v->∀{i:Nat}{w:W},l[i]?=some w->∃u,v[i]?=some u/\aI K G Z w u:=fun{l v} r {i w} e=>by
 refine RelWs.ind (M:=fun l v=>∀i w,l[i]?=some w->∃u,v[i]?=some u/\aI K G Z w u) nofun (fun a b c i w e=>?_) r i w e
 cases i with
 |zero=>obtain rfl:=VR e;exact⟨_,rfl,a⟩
 |succ i=>exact c i w e
theorem RelWs.take:∀{l:List W}{v:List V}(n:Nat),RelWs K G Z l v->RelWs K G Z (l.take n) (v.take n)
 |_,_,0,_=>.nil
 |_,_,n+1,.nil=>.nil
 |_,_,n+1,.cons a b=>.cons a (b.take n)
theorem RelWs.drop:∀{l:List W}{v:List V}(n:Nat),RelWs K G Z l v->RelWs K G Z (l.drop n) (v.drop n)
 |_,_,0,q=>q
 |_,_,n+1,.nil=>.nil
 |_,_,n+1,.cons a b=>b.drop n
def RelWs.rev:∀{l:List W}{v:List V},RelWs K G Z l v->RelWs K G Z l.reverse v.reverse:=RelWs.ind (M:=fun l v=>RelWs K G Z l.reverse v.reverse) .nil fun a b c=>by rw[WV,WV];exact c.app (.cons a .nil)
def lsW (x:W)(h:WH)(l:List W):Prop:=x=.fl l\/∃a,x=.ref a/\h a=some (.lst l)
def lsW.rel (A:Rep K G h H)(r:aI K G (fz h H) x v)(i:lsW x h l):∃a vs,v=.ref a/\H a=some (.lst vs)/\RelWs K G (fz h H) l vs:=by
 rcases i with rfl|⟨a,rfl,e⟩
 ·replace r:=wiv r;obtain⟨b,b,rfl,e,r⟩:=r;exact⟨_,_,rfl,aV _ _ e,r⟩
 ·obtain rfl:=wiv r
  obtain⟨u,e1,e2⟩:=A _ _ e
  obtain⟨b,rfl,r⟩:=oiv e2;exact⟨_,_,rfl,e1,r⟩
def lqW (x:W)(h:WH)(l:List W):Prop:=lsW x h l\/x=.sl l
def lqW.rel (A:Rep K G h H)(r:aI K G (fz h H) x v)(i:lqW x h l):∃a vs,v=.ref a/\SqL K H a vs/\RelWs K G (fz h H) l vs:=by
 rcases i with i|rfl
 ·obtain⟨a,vs,e,e1,r⟩:=i.rel A r
  exact⟨a,vs,e,SqL.of e1,r⟩
 ·cases r with|sl e r=>exact⟨_,_,rfl,SqL.up aV e,r⟩
def tqW (x:W)(l:List W):Prop:=x=.tup l\/x=.kt l
def tqW.rel (r:aI K G (fz h H) x v)(i:tqW x l):∃a vs,v=.ref a/\SqT K H a vs/\RelWs K G (fz h H) l vs:=by
 rcases i with rfl|rfl
 ·replace r:=wiv r;obtain⟨b,b,rfl,e,r⟩:=r;exact⟨_,_,rfl,SqT.of (aV _ _ e),r⟩
 ·cases r with|kt e r=>exact⟨_,_,rfl,SqT.up aV e,r⟩
def qI (C:Int->Int->Prop)(g:Int->Int->Int):RW2:=fun x y h Q=>match x,y with|.int i,.int j=>C i j/\Q (.int (g i j)) h|_,_=>False
def cI {C:Int->Int->Prop}{g:Int->Int->Int}{r:R2}(hr:∀i j H Q,C i j->Q (.int (g i j)) H->r (.int i) (.int j) H Q):C2 K G r (qI C g):=@fun a a x y a a a a A r1 r2 q hQ=>by
 cases x<;>first|exact q.elim|obtain rfl:=wiv r1
 cases y<;>first|exact q.elim|obtain rfl:=wiv r2
 exact hr _ _ _ _ q.1 (hQ _ _ q.2 _ _ (ax.rfl' A) (.int _))
def qB (g:Int->Int->Bool):RW2:=fun x y h Q=>match x,y with|.int i,.int j=>Q (.bl (g i j)) h|_,_=>False
def cB {g:Int->Int->Bool}{r:R2}(hr:∀i j H Q,Q (.bl (g i j)) H->r (.int i) (.int j) H Q):C2 K G r (qB g):=@fun a a x y a a a a A r1 r2 q hQ=>by
 cases x<;>first|exact q.elim|obtain rfl:=wiv r1
 cases y<;>first|exact q.elim|obtain rfl:=wiv r2
 exact hr _ _ _ _ (hQ _ _ q _ _ (ax.rfl' A) (.bl _))
abbrev Uu:RW2:=qI (fun a a=>True) fun i j=>i- j
abbrev SC:RW2:=qI (fun a j=>0<j/\j<1267650600228229401496703205376) fun i j=>i/j
abbrev IZ:RW2:=qI (fun a j=>0<j) fun i j=>i%j
abbrev Uc:RW2:=qI (fun i j=>0<=j/\j<=1000000/\i.natAbs<2^64) fun i j=>i^j.toNat
abbrev UG:RW2:=qI (fun i j=>0<=j/\j<=1000000/\i.natAbs<2^64) fun i j=>i*2^j.toNat
abbrev US:RW2:=qI (fun a j=>0<=j) fun i j=>i/2^j.toNat
abbrev TC:RW2:=qI (fun a a=>True) YE
abbrev Sl:RW2:=qI (fun a a=>True) Xl
abbrev qLt:RW2:=qB fun i j=>decide (i<j)
abbrev qLe:RW2:=qB fun i j=>decide (i<=j)
abbrev qGt:RW2:=qB fun i j=>decide (j<i)
abbrev qGe:RW2:=qB fun i j=>decide (j<=i)
def dq:OpW X G (binaryOp .Sub) Uu:=⟨_,UT,cI fun a a a a a q=>q⟩
def dI:OpW X G (binaryOp .FloorDiv) SC:=⟨_,Ie,cI fun a a a a c q=>⟨c,q⟩⟩
def de:OpW X G (binaryOp .Mod) IZ:=⟨_,zq,cI fun a a a a c q=>⟨c,q⟩⟩
def RV:OpW X G (binaryOp .Pow) Uc:=⟨_,Ux,cI fun a a a a c q=>⟨c,q⟩⟩
def tL:OpW X G (binaryOp .LShift) UG:=⟨_,UA,cI fun a a a a c q=>⟨c,q⟩⟩
def KM:OpW X G (binaryOp .RShift) US:=⟨_,UN,cI fun a a a a c q=>⟨c,q⟩⟩
def Kt:OpW X G (binaryOp .BitXor) TC:=⟨_,Uv,cI fun a a a a a q=>q⟩
def OI:OpW X G (binaryOp .BitAnd) Sl:=⟨_,Sf,cI fun a a a a a q=>q⟩
def mj:OpW X G (compareOp .Lt) qLt:=⟨_,oLt,cB fun a a a a q=>q⟩
def fT:OpW X G (compareOp .LtE) qLe:=⟨_,oLe,cB fun a a a a q=>q⟩
def Oy:OpW X G (compareOp .Gt) qGt:=⟨_,oGt,cB fun a a a a q=>q⟩
def UB:OpW X G (compareOp .GtE) qGe:=⟨_,oGe,cB fun a a a a q=>q⟩
def PV:RW2:=fun x y h Q=>match x,y with
 |.int i,.int j=>IntMulOk i j/\Q (.int (i*j)) h
 |_,_=>False
def eF:OpW X G (binaryOp .Mult) PV:=⟨_,Vl,@fun a a x y a a a a A r1 r2 q hQ=>by
 cases x<;>first|exact q.elim|obtain rfl:=wiv r1
 cases y<;>first|exact q.elim|obtain rfl:=wiv r2
 exact⟨q.1,hQ _ _ q.2 _ _ (ax.rfl' A) (.int _)⟩⟩
def yL:RW2:=fun x y h Q=>match x,y with
 |.int i,.int j=>Q (.int (i+j)) h
 |.str i,.str j=>i.length+j.length<=sizeLine/\Q (.str (i++j)) h
 |.tup a,.tup b=>a.length+b.length<=sizeLine/\Q (.tup (a++b)) h
 |x,y=>∃a b,lsW x h a/\lsW y h b/\a.length+b.length<=sizeLine/\nwL (a++b) h Q
def bO:OpW X G (binaryOp .Add) yL:=⟨_,KD,fun{h H x y v u Qw Q} A r1 r2 q hQ=>by
 unfold yL at q
 split at q
 ·obtain rfl:=wiv r1;obtain rfl:=wiv r2;exact hQ _ _ q _ _ (ax.rfl' A) (.int _)
 ·obtain rfl:=wiv r1;obtain rfl:=wiv r2;exact⟨q.1,hQ _ _ q.2 _ _ (ax.rfl' A) (.str _)⟩
 ·cases r1 with
  |tup e1 r1=>cases r2 with
   |tup e2 r2=>
    refine .inr ⟨_,_,_,_,rfl,rfl,aV _ _ e1,aV _ _ e2,by rw[<-r1.len,<-r2.len];exact q.1,fun p H' s e=>?_⟩
    have st:=ax.same A s
    exact hQ _ _ q.2 _ _ st (.tup (sw A s e) ((r1.app r2).mono st.sm))
 ·obtain⟨a,b,la,lb,hl,q⟩:=q
  obtain⟨pa,va,rfl,e1,r1⟩:=la.rel A r1
  obtain⟨pb,vb,rfl,e2,r2⟩:=lb.rel A r2
  exact .inl ⟨_,_,_,_,rfl,rfl,e1,e2,by rw[<-r1.len,<-r2.len];exact hl,fun p hp=>nwL.ok A (r1.app r2) q hQ hp⟩⟩
noncomputable def tgW:W->Nat
 |.non=>1
 |.bl _=>2
 |.int _=>3
 |.str _=>5
 |_=>0
def scE (x y:W):Bool:=tgW x !=0&&(tgW y !=0&&tgW x*tgW y !=6)
mutual
inductive Pl:Nat->W->Prop
 |non {n}:Pl n .non
 |int {n i}:Pl n (.int i)
 |str {n z}:acm z=true->Pl n (.str z)
 |tup {n l}:Pls n l->Pl (n+1) (.tup l)
 |fl {n l}:Pls n l->Pl (n+1) (.fl l)
inductive Pls:Nat->List W->Prop
 |nil {n}:Pls n []
 |cons {n w l}:Pl n w->Pls n l->Pls n (w::l)
end
mutual
inductive Dt:W->abq->Prop
 |non:Dt .non .none
 |int {i}:Dt (.int i) (.int i)
 |str {z}:Dt (.str z) (.str z)
 |tup {l d}:Dts l d->Dt (.tup l) (.tuple d)
 |fl {l d}:Dts l d->Dt (.fl l) (.list d)
inductive Dts:List W->List abq->Prop
 |nil:Dts [] []
 |cons {w d l ds}:Dt w d->Dts l ds->Dts (w::l) (d::ds)
end
def Pl.dat (s:bc (fz h H) H'){n:Nat}{w:W}(p:Pl n w){v:V}(r:aI K G (fz h H) w v):∃d,Dt w d/\fQ K H' v d/\d.canLay0=true/\d.depth<=n:=by
 refine p.rec (motive_1:=fun n w f=>∀v,aI K G (fz h H) w v->∃d,Dt w d/\fQ K H' v d/\d.canLay0=true/\d.depth<=n) (motive_2:=fun n l f=>∀v,RelWs K G (fz h H) l v->∃d,Dts l d/\DatVs K H' v d/\ZN d=true/\Zf d<=n) (fun f r=>?_) (fun f r=>?_) (fun o f r=>?_) (fun f i f r=>?_) (fun f i f r=>?_) (fun f r=>?_) (fun f f i j f r=>?_) v r
 ·obtain rfl:=wiv r;exact⟨_,.non,.non,rfl,VW _⟩
 ·obtain rfl:=wiv r;exact⟨_,.int,.int _,rfl,VW _⟩
 ·obtain rfl:=wiv r;exact⟨_,.str,.str _,o,VW _⟩
 ·replace r:=wiv r;obtain⟨f,f,rfl,e,r⟩:=r
  obtain⟨d,a,b,c,q⟩:=i _ r
  exact⟨_,.tup a,.tup (SqT.of (s _ _ e)) b,c,acg q⟩
 ·replace r:=wiv r;obtain⟨f,f,rfl,e,r⟩:=r
  obtain⟨d,a,b,c,q⟩:=i _ r
  exact⟨_,.fl a,.lst (SqL.of (s _ _ e)) b,c,acg q⟩
 ·obtain rfl:=wic r;exact⟨_,.nil,.nil,rfl,VW _⟩
 ·obtain⟨f,f,rfl,r1,r2⟩:=wic r
  obtain⟨d,a,b,c,e⟩:=i _ r1
  obtain⟨ds,a2,b2,c2,e2⟩:=j _ r2
  exact⟨_,.cons a a2,.cons b b2,by show(d.canLay0&&_)=true;rw[c,c2];rfl,Nat.max_le.mpr ⟨e,e2⟩⟩
def Pls.dat (s:bc (fz h H) H'){n:Nat}:∀{l:List W},Pls n l->∀{v:List V},RelWs K G (fz h H) l v->∃d,Dts l d/\DatVs K H' v d/\ZN d=true/\Zf d<=n:=by
 intro l
 induction l with
 |nil=>intro f v r;obtain rfl:=wic r;exact⟨_,.nil,.nil,rfl,VW _⟩
 |cons w l ih=>
  intro p v r
  cases p with
  |cons p q=>cases r with
   |cons r1 r2=>
    obtain⟨d,a,b,c,e⟩:=p.dat s r1
    obtain⟨ds,a2,b2,c2,e2⟩:=ih q r2
    exact⟨_,.cons a a2,.cons b b2,by show(d.canLay0&&_)=true;rw[c,c2];rfl,Nat.max_le.mpr ⟨e,e2⟩⟩
def Dt.eqv {w u:W}{d e:abq}(a:Dt w d)(b:Dt u e):(d.eqv e=true↔w=u):=by
 refine a.rec (motive_1:=fun w d c=>∀u e,Dt u e->(d.eqv e=true↔w=u)) (motive_2:=fun w d c=>∀u e,Dts u e->(Zu d e=true↔w=u)) (fun c c b=>?_) (fun c c b=>?_) (fun c c b=>?_) (fun c i c c b=>?_) (fun c i c c b=>?_) (fun c c b=>?_) (fun c c i j c c b=>?_) u e b
 ·cases b<;>simp[YI]
 ·cases b<;>simp[YI]
 ·cases b<;>simp[YI]
 ·cases b with
  |tup b=>simp only[YI,i _ _ b,W.tup.injEq]
  |_=>simp[YI]
 ·cases b with
  |fl b=>simp only[YI,i _ _ b,W.fl.injEq]
  |_=>simp[YI]
 ·cases b<;>simp[Zu]
 ·cases b with
  |nil=>simp[Zu]
  |cons b r=>simp only[Zu,WC,i _ _ b,j _ _ r,XT]
inductive Fq:W->W->Prop
 |sc {x y}:scE x y=true->Fq x y
 |deep {x y}:Pl 150 x->Pl 150 y->Fq x y
def tg4 {x:W}{v:V}(r:aI K G (fz h H) x v)(e:tgW x≠0):(x=.non/\v=.non)\/(∃b,x=.bl b/\v=.bl b)\/(∃i,x=.int i/\v=.int i)\/∃z,x=.str z/\v=.str z:=by
 cases x<;>first|exact absurd rfl e|obtain rfl:=wiv r;first|exact .inl ⟨rfl,rfl⟩|exact .inr (.inl ⟨_,rfl,rfl⟩)|exact .inr (.inr (.inl ⟨_,rfl,rfl⟩))|exact .inr (.inr (.inr ⟨_,rfl,rfl⟩))
def Km {x y:W}{v u:V}(r1:aI K G (fz h H) x v)(r2:aI K G (fz h H) y u)(e:scE x y=true):∃b:Bool,(b=true↔x=y)/\(∀Q:VK,Q (.bl b) H->mEq v u H Q)/\∀Q:VK,Q (.bl (!b)) H->mNe v u H Q:=by
 unfold scE at e
 simp only[WC,bne_iff_ne]at e
 obtain⟨e1,e2,e3⟩:=e
 rcases tg4 r1 e1 with⟨rfl,rfl⟩|⟨a,rfl,rfl⟩|⟨a,rfl,rfl⟩|⟨a,rfl,rfl⟩<;>rcases tg4 r2 e2 with⟨rfl,rfl⟩|⟨a,rfl,rfl⟩|⟨a,rfl,rfl⟩|⟨a,rfl,rfl⟩<;>
  first
   |exact absurd rfl e3
   |exact⟨false,by simp,fun Q q=>q,fun Q q=>q⟩
   |exact⟨true,by simp,fun Q q=>q,fun Q q=>q⟩
   |exact⟨decide _,by simp,fun Q q=>q,fun Q q=>q⟩
def MQ {x y:W}{v u:V}(r1:aI K G (fz h H) x v)(r2:aI K G (fz h H) y u)(q:Fq x y):∃b:Bool,(b=true↔x=y)/\∀Q:VK,Q (.bl b) H->Cg K v u H Q\/mEq v u H Q:=by
 cases q with
 |sc e=>obtain⟨b,i,f,a⟩:=Km r1 r2 e;exact⟨b,i,fun Q q=>.inr (f Q q)⟩
 |deep p1 p2=>
  obtain⟨d,a1,b1,c1,q1⟩:=p1.dat (H':=H) aV r1
  obtain⟨e,a2,b2,c2,q2⟩:=p2.dat (H':=H) aV r2
  exact⟨d.eqv e,a1.eqv a2,fun Q q=>.inl ⟨d,e,b1,b2,c1,c2,q1,q⟩⟩
inductive Fd:W->W->Prop
 |sc {x y}:scE x y=true->Fd x y
def Mo {x y:W}{v u:V}(r1:aI K G (fz h H) x v)(r2:aI K G (fz h H) y u)(q:Fd x y):∃b:Bool,(b=true↔x=y)/\∀Q:VK,Q (.bl (!b)) H->mNe v u H Q:=by
 cases q with
 |sc e=>obtain⟨b,i,a,f⟩:=Km r1 r2 e;exact⟨b,i,f⟩
def qEq:RW2:=fun x y h Q=>Fq x y/\∀b:Bool,(b=true↔x=y)->Q (.bl b) h
def qNe:RW2:=fun x y h Q=>Fd x y/\∀b:Bool,(b=true↔x=y)->Q (.bl (!b)) h
def bF (hu:X.A.units+150<cLine):OpW X G (compareOp .Eq) qEq:=⟨_,(GZ hu).or oEq,fun A r1 r2 q hQ=>by
 obtain⟨b,i,e⟩:=MQ r1 r2 q.1
 exact e _ (hQ _ _ (q.2 b i) _ _ (ax.rfl' A) (.bl _))⟩
def oG (hu:X.A.units+150<cLine):OpW X G (compareOp .NotEq) qNe:=⟨_,oNe,fun A r1 r2 q hQ=>by
 obtain⟨b,i,e⟩:=Mo r1 r2 q.1
 exact e _ (hQ _ _ (q.2 b i) _ _ (ax.rfl' A) (.bl _))⟩
def qIs:RW2:=fun x y h Q=>match x,y with
 |.non,.non=>Q (.bl true) h
 |.str _,.non=>Q (.bl false) h
 |_,_=>False
def UO:OpW X G (compareOp .Is) qIs:=⟨_,oIs,fun A r1 r2 q hQ=>by
 unfold qIs at q
 split at q
 ·obtain rfl:=wiv r1;obtain rfl:=wiv r2;exact hQ _ _ q _ _ (ax.rfl' A) (.bl _)
 ·obtain rfl:=wiv r1;obtain rfl:=wiv r2;exact hQ _ _ q _ _ (ax.rfl' A) (.bl _)
 ·exact q.elim⟩
noncomputable def gK {κ:Type}[DecidableEq κ](l:List (κ×W))(k:κ):Option W:=(l.find? fun p=>decide (p.1=k)).map (·.2)
noncomputable def pK {κ:Type}[DecidableEq κ](l:List (κ×W))(k:κ)(w:W):List (κ×W):=if (l.any fun p=>decide (p.1=k))=true then l.map (fun p=>if p.1=k then(p.1,w)else p)else l++[(k,w)]
noncomputable def dK' {κ:Type}[DecidableEq κ](l:List (κ×W))(k:κ):List (κ×W):=l.filter fun p=>decide (p.1≠k)
def xc (r:aI K G Z (kW k) v):v=kV k:=by cases k<;>obtain rfl:=wiv r<;>rfl
theorem yE:∀{k:List Key}{v:List V},RelWs K G Z (k.map kW) v->v=k.map kV
 |[],_,r=>by obtain rfl:=wic r;rfl
 |a::k,_,r=>by obtain⟨c,c,rfl,a,b⟩:=wic r;rw[xc a,yE b];rfl
def RelKs.val {κ:Type}[DecidableEq κ]:∀{l:List (κ×W)}{v:List (κ×V)},RelKs K G Z l v->∀(k:κ),(∀w,gK l k=some w->∃u,eQ v k=some u/\aI K G Z w u)/\(gK l k=none->eQ v k=none):=fun r k=>by
 refine RelKs.ind (M:=fun l v=>(∀w,gK l k=some w->∃u,eQ v k=some u/\aI K G Z w u)/\(gK l k=none->eQ v k=none)) ⟨nofun,fun b=>rfl⟩ (fun{k0 _ _ _ _} a _ i=>?_) r
 unfold gK eQ at*
 rw[VY,VY]
 by_cases e:k0=k
 ·simp only[e,decide_true]
  exact⟨fun w q=>by obtain rfl:=VR q;exact⟨_,rfl,a⟩,fun q=>by injection q⟩
 ·simp only[e,decide_false]
  exact i
def RelKs.any {κ:Type}:∀{l:List (κ×W)}{v:List (κ×V)},RelKs K G Z l v->∀f:κ->Bool,(l.any fun p=>f p.1)=v.any fun p=>f p.1:=fun r f=>RelKs.ind (M:=fun l v=>(l.any fun p=>f p.1)=v.any fun p=>f p.1) rfl (fun a a b=>by rw[Yz,Yz,b]) r
def RelKs.app {κ:Type}{l':List (κ×W)}{v':List (κ×V)}:∀{l:List (κ×W)}{v:List (κ×V)},RelKs K G Z l v->RelKs K G Z l' v'->RelKs K G Z (l++l') (v++v'):=fun r q=>RelKs.ind (M:=fun l v=>RelKs K G Z (l++l') (v++v')) q (fun a b c=>.cons a c) r
def RelKs.put {κ:Type}[DecidableEq κ]{l:List (κ×W)}{v:List (κ×V)}(r:RelKs K G Z l v)(k:κ)(q:aI K G Z w u):RelKs K G Z (pK l k w) (fh v k u):=by
 unfold pK fh
 rw[r.any fun x=>decide (x=k)]
 split
 ·refine RelKs.ind (M:=fun l v=>RelKs K G Z (l.map fun p=>if p.1=k then(p.1,w)else p) (v.map fun p=>if p.1=k then(p.1,u)else p)) .nil (fun a b c=>?_) r
  rw[VI,VI]
  dsimp only
  split
  ·exact .cons q c
  ·exact .cons a c
 ·exact r.app (.cons q .nil)
def RelKs.del {κ:Type}[DecidableEq κ](k:κ):∀{l:List (κ×W)}{v:List (κ×V)},RelKs K G Z l v->RelKs K G Z (dK' l k) (kR v k):=RelKs.ind (M:=fun l v=>RelKs K G Z (dK' l k) (kR v k)) .nil fun a b c=>by
 unfold dK' kR at*
 rw[Zd,Zd]
 dsimp only
 split
 ·exact .cons a c
 ·exact c
end
section
variable {X:Cx}{G:Gm}{K:W.Frag}{h:WH}{H H':Hp}
inductive DW (h:WH)(a:Addr):W->Option W->Prop
 |k {l k}:h a=some (.dK l)->DW h a (kW k) (gK l k)
 |t {l k}:h a=some (.dT l)->DW h a (.tup (k.map kW)) (gK l k)
def DW.get (A:Rep K G h H)(d:DW h a y o)(r:aI K G (fz h H) y u):∃o',fc H a u o'/\(∀w,o=some w->∃v,o'=some v/\aI K G (fz h H) w v)/\(o=none->o'=none):=by
 cases d with
 | @k l k e=>
   obtain⟨x,e1,e2⟩:=A _ _ e
   obtain⟨b,rfl,r2⟩:=oiv e2;obtain rfl:=xc r;exact⟨_,fc.k e1,(r2.val k).1,(r2.val k).2⟩
 | @t l k e=>
   obtain⟨x,e1,e2⟩:=A _ _ e
   cases e2 with
   |dT r2=>obtain⟨b,b,rfl,e3,r3⟩:=wiv r;obtain rfl:=yE r3;exact⟨_,fc.t e1 (aV _ _ e3),(r2.val k).1,(r2.val k).2⟩
inductive DP (h:WH)(a:Addr)(w:W):W->WH->Prop
 |k {l k}:h a=some (.dK l)->l.length<sizeLine->DP h a w (kW k) (up h a (.dK (pK l k w)))
 |t {l k}:h a=some (.dT l)->l.length<sizeLine->DP h a w (.tup (k.map kW)) (up h a (.dT (pK l k w)))
def DP.put (A:Rep K G h H)(d:DP h a w y h')(r:aI K G (fz h H) y u)(q:aI K G (fz h H) w v):∃H',ma H a u v H'/\ax K G h H h' H':=by
 cases d with
 | @k l k e hl=>
   obtain⟨x,e1,e2⟩:=A _ _ e
   obtain⟨b,rfl,r2⟩:=oiv e2;obtain rfl:=xc r;exact⟨_,ma.k e1 (by rw[<-r2.len];exact hl),ax.set A e (.dK (r2.put k q))⟩
 | @t l k e hl=>
   obtain⟨x,e1,e2⟩:=A _ _ e
   cases e2 with
   |dT r2=>obtain⟨b,b,rfl,e3,r3⟩:=wiv r;obtain rfl:=yE r3;exact⟨_,ma.t e1 (aV _ _ e3) (by rw[<-r2.len];exact hl),ax.set A e (.dT (r2.put k q))⟩
def Me (r:RelWs K G Z l v)(e:atI l i=some w):∃u,atI v i=some u/\aI K G Z w u:=by
 unfold atI at*
 rw[<-r.len]
 cases q:ixN l.length i with
 |none=>rw[q]at e;injection e
 |some j=>rw[q]at e;exact r.get e
inductive IxP (l:List W)(i:Int)(h:WH)(Q:WQ):Prop
 |mk (w):atI l i=some w->Q w h->IxP l i h Q
inductive IxL (a:Addr)(y:W)(h:WH)(Q:WQ):Prop
 |mk (l i w):y=.int i->h a=some (.lst l)->atI l i=some w->Q w h->IxL a y h Q
def qIx:RW2:=fun x y h Q=>match x,y with
 |.tup l,.int i=>IxP l i h Q
 |.kt l,.int i=>IxP l i h Q
 |.fl l,.int i=>IxP l i h Q
 |.sl l,.int i=>IxP l i h Q
 |.str z,.int i=>∃c,z.length<=sizeLine/\atI z.cps.toList i=some c/\Q (.str ⟨#[c]⟩) h
 |.ref a,y=>IxL a y h Q\/∃w,DW h a y (some w)/\Q w h
 |_,_=>False
def yg {Qw:WQ}(A:Rep K G h H)(z:∃a vs,v=V.ref a/\(SqL K H a vs\/SqT K H a vs)/\RelWs K G (fz h H) l vs)(q:IxP l i h Qw)(hQ:∀w h',Qw w h'->uQ K G h H Q w h'):Pt K v (.int i) H Q:=by
 obtain⟨a,vs,rfl,hs,r⟩:=z
 obtain⟨w,e1,q⟩:=q
 obtain⟨u,e2,r2⟩:=Me r e1
 have:=hQ _ _ q _ _ (ax.rfl' A) r2
 exact hs.elim (fun hs=>.inl (.inl ⟨_,_,_,_,rfl,rfl,hs,e2,this⟩)) fun hs=>.inl (.inr (.inl ⟨_,_,_,_,rfl,rfl,hs,e2,this⟩))
def ixW (hu:X.A.units+1<cLine):IxW X G qIx:=⟨_,QG hu,fun A r1 r2 q hQ=>by
 unfold qIx at q
 split at q
 ·obtain rfl:=wiv r2;obtain⟨a,vs,e,e1,r⟩:=tqW.rel r1 (.inl rfl);exact yg A ⟨a,vs,e,.inr e1,r⟩ q hQ
 ·obtain rfl:=wiv r2;obtain⟨a,vs,e,e1,r⟩:=tqW.rel r1 (.inr rfl);exact yg A ⟨a,vs,e,.inr e1,r⟩ q hQ
 ·obtain rfl:=wiv r2;obtain⟨a,vs,e,e1,r⟩:=lqW.rel A r1 (.inl (.inl rfl));exact yg A ⟨a,vs,e,.inl e1,r⟩ q hQ
 ·obtain rfl:=wiv r2;obtain⟨a,vs,e,e1,r⟩:=lqW.rel A r1 (.inr rfl);exact yg A ⟨a,vs,e,.inl e1,r⟩ q hQ
 ·obtain rfl:=wiv r1;obtain rfl:=wiv r2;obtain⟨c,e1,e2,q⟩:=q;exact .inl (.inr (.inr ⟨_,_,_,rfl,rfl,e1,e2,hQ _ _ q _ _ (ax.rfl' A) (.str _)⟩))
 ·rcases q with⟨l,i,w,rfl,e1,e2,q⟩|⟨w,d,q⟩
  ·obtain rfl:=wiv r2;obtain⟨a,vs,e,e1,r⟩:=lqW.rel A r1 (.inl (.inr ⟨_,rfl,e1⟩));exact yg A ⟨a,vs,e,.inl e1,r⟩ ⟨w,e2,q⟩ hQ
  ·obtain rfl:=wiv r1
   obtain⟨o,g,g1,b⟩:=d.get A r2
   obtain⟨v,rfl,r3⟩:=g1 w rfl
   exact .inr ⟨_,v,rfl,g,hQ _ _ q _ _ (ax.rfl' A) r3⟩
 ·exact q.elim⟩
def mx (l:List W)(lo hi:Option Int):List W:=(l.drop (HT.sIx l.length 0 lo)).take (HT.sIx l.length l.length hi- HT.sIx l.length 0 lo)
def Nc (r:RelWs K G Z l v)(lo hi:Option Int):RelWs K G Z (mx l lo hi) (zx v lo hi):=by
 unfold mx zx;rw[<-r.len];exact(r.drop _).take _
def qSl (x:W)(lo hi:Option Int)(h:WH)(Q:WQ):Prop:=match x with
 |.str z=>z.length<=sizeLine/\Q (.str (Txt.slice z lo hi)) h
 |x=>∃l,lqW x h l/\nwL (mx l lo hi) h Q
abbrev TWO:=WS->WH->(Option Int->WH->Prop)->WX->Prop
structure ZO (X:Cx)(G:Gm)(e:Option Expr)(t:TWO):Prop where
 out:∀E,di (CX1 X.prog X.w) X E->QO X e (lG X.K G (fun _=>Eq) t E)
def wO0:TWO:=fun a h Q a=>Q none h
def wO1 (a:TWE):TWO:=fun ws h Q X=>a ws h (fun x h1=>match x with|.int i=>Q (some i) h1|_=>False) X
def wSl (a:TWE)(lo hi:TWO):TWE:=fun ws h Q X=>a ws h (fun x h1=>lo ws h1 (fun l h2=>hi ws h2 (fun u h3=>qSl x l u h3 Q) X) X) X
def QO.imp (h:QO X e t)(i:∀σ H Q,t' σ H Q->t σ H Q):QO X e t':=⟨fun pins s σ H Q I q=>h.out pins s σ H Q I (i σ H Q q)⟩
def IU:ZO X G none wO0:=⟨fun E hE=>QO.imp MI fun σ H Q ⟨ws,h,Qw,Xw,A,S,ht,hQ,hX⟩=>hQ _ _ ht _ _ (ax.rfl' A) rfl⟩
def IF (he:ZE X G e te):ZO X G (some e) (wO1 te):=⟨fun E hE=>QO.imp (MN (he.out E hE)) fun σ H Q ⟨ws,h,Qw,Xw,A,S,ht,hQ,hX⟩=>bnd A S ht hX fun x h1 y H1 p s r=>by
 cases x<;>first|exact p.elim|obtain rfl:=wiv r;exact⟨_,rfl,hQ _ _ p _ _ s rfl⟩⟩
def za {e:Expr}{te:TWE}{lo hi:Option Expr}{tl th:TWO}{pos p2:Pos}(he:ZE X G e te)(hl:ZO X G lo tl)(hh:ZO X G hi th):ZE X G (.Subscript e (.Slice lo hi none p2) pos) (wSl te tl th):=
 ⟨fun E hE=>QE.imp (Lm ME (he.out E hE) (hl.out E hE) (hh.out E hE)) fun σ H Q ⟨ws,h,Qw,Xw,A,S,ht,hQ,hX⟩=>bnd A S ht hX fun x h1 y H1 p s r=>
  bnd s.rep (S.mono s.sm) p (hX1 s hX) fun l h2 l' H2 p2 s2 e2=>bnd s2.rep (S.mono (s.trans s2).sm) p2 (hX1 (s.trans s2) hX) fun u h3 u' H3 p3 s3 e3=>by
   subst e2;subst e3
   have s23:=s2.trans s3
   have st:=s.trans s23
   replace r:=r.mono s23.sm
   have A3:=s3.rep
   have hQ:=hQ1 st hQ
   unfold qSl at p3
   split at p3
   ·obtain rfl:=wiv r;exact .inr ⟨_,rfl,p3.1,hQ _ _ p3.2 _ _ (ax.rfl' A3) (.str _)⟩
   ·obtain⟨m,i,p3⟩:=p3
    obtain⟨a,vs,rfl,e1,r⟩:=i.rel A3 r
    exact .inl (.inl ⟨_,_,rfl,e1,fun p hp=>nwL.ok A3 (Nc r l u) p3 hQ hp⟩)⟩
def yV:RWN:=fun l h Q=>match l with
 |[.str y]=>y.length<=sizeLine/\Q (.int y.length) h
 |[.tup m]=>Q (.int m.length) h
 |[.kt m]=>Q (.int m.length) h
 |[.fl m]=>Q (.int m.length) h
 |[.sl m]=>Q (.int m.length) h
 |[.ref a]=>(∃m,h a=some (.lst m)/\Q (.int m.length) h)\/(∃m,h a=some (.dK m)/\Q (.int m.length) h)\/∃m,h a=some (.dT m)/\Q (.int m.length) h
 |_=>False
def bV:CaW X G (.builtin "len") yV:=⟨_,Rt,fun A r q hQ=>by
 unfold yV at q
 split at q
 ·obtain⟨b,b,rfl,r1,r2⟩:=wic r;obtain rfl:=wic r2;obtain rfl:=wiv r1;exact .inl ⟨q.1,hQ _ _ q.2 _ _ (ax.rfl' A) (.int _)⟩
 ·obtain⟨b,b,rfl,r1,r2⟩:=wic r;obtain rfl:=wic r2;obtain⟨a,vs,rfl,e1,r⟩:=tqW.rel r1 (.inl rfl);exact .inl (.inr (.inl ⟨_,e1,by rw[<-r.len];exact hQ _ _ q _ _ (ax.rfl' A) (.int _)⟩))
 ·obtain⟨b,b,rfl,r1,r2⟩:=wic r;obtain rfl:=wic r2;obtain⟨a,vs,rfl,e1,r⟩:=tqW.rel r1 (.inr rfl);exact .inl (.inr (.inl ⟨_,e1,by rw[<-r.len];exact hQ _ _ q _ _ (ax.rfl' A) (.int _)⟩))
 ·obtain⟨b,b,rfl,r1,r2⟩:=wic r;obtain rfl:=wic r2;obtain⟨a,vs,rfl,e1,r⟩:=lqW.rel A r1 (.inl (.inl rfl));exact .inl (.inl ⟨_,e1,by rw[<-r.len];exact hQ _ _ q _ _ (ax.rfl' A) (.int _)⟩)
 ·obtain⟨b,b,rfl,r1,r2⟩:=wic r;obtain rfl:=wic r2;obtain⟨a,vs,rfl,e1,r⟩:=lqW.rel A r1 (.inr rfl);exact .inl (.inl ⟨_,e1,by rw[<-r.len];exact hQ _ _ q _ _ (ax.rfl' A) (.int _)⟩)
 ·obtain⟨b,b,rfl,r1,r2⟩:=wic r
  obtain rfl:=wic r2;obtain rfl:=wiv r1
  rcases q with⟨m,e,q⟩|⟨m,e,q⟩|⟨m,e,q⟩
  ·obtain⟨u,e1,e2⟩:=A _ _ e
   obtain⟨b,rfl,r⟩:=oiv e2;exact .inl (.inl ⟨_,SqL.of e1,by rw[<-r.len];exact hQ _ _ q _ _ (ax.rfl' A) (.int _)⟩)
  ·obtain⟨u,e1,e2⟩:=A _ _ e
   obtain⟨b,rfl,r⟩:=oiv e2;exact .inl (.inr (.inr ⟨_,e1,by rw[<-r.len];exact hQ _ _ q _ _ (ax.rfl' A) (.int _)⟩))
  ·obtain⟨u,e1,e2⟩:=A _ _ e
   obtain⟨b,rfl,r⟩:=oiv e2;exact .inr ⟨_,_,rfl,e1,by rw[<-r.len];exact hQ _ _ q _ _ (ax.rfl' A) (.int _)⟩
 ·exact q.elim⟩
noncomputable def tyW (h:WH):W->Option String
 |.non=>some "NoneType"
 |.bl _=>some "bool"
 |.int _=>some "int"
 |.str _=>some "str"
 |.tup _=>some "tuple"
 |.fl _=>some "list"
 |.ref a=>match h a with
  |some (.lst _)=>some "list"
  |some (.dK _)=>some "dict"
  |some (.dT _)=>some "dict"
  |_=>none
 |_=>none
def Qv:RWN:=fun l h Q=>match l with
 |[x,.ty T]=>T∈["int","bool","str","tuple","list","dict"]/\∃t,tyW h x=some t/\Q (.bl (isI t T)) h
 |_=>False
def Nm (A:Rep K G h H)(r:aI K G (fz h H) x v)(e:tyW h x=some t):tyN H v=some t:=by
 cases r with
 |non=>exact e
 |bl=>exact e
 |int=>exact e
 |str=>exact e
 |tup e1 _=>show(match H _ with|some (.lst _)=>some "list"|some (.frz _ (.lst _))=>some "list"|some (.tup _)=>some "tuple"|some (.dK _)=>some "dict"|some (.dT _)=>some "dict"|_=>none)=_;rw[aV _ _ e1];exact e
 |fl e1 _=>show(match H _ with|some (.lst _)=>some "list"|some (.frz _ (.lst _))=>some "list"|some (.tup _)=>some "tuple"|some (.dK _)=>some "dict"|some (.dT _)=>some "dict"|_=>none)=_;rw[aV _ _ e1];exact e
 |ref a=>
  replace e:(match h a with|some (.lst _)=>some "list"|some (.dK _)=>some "dict"|some (.dT _)=>some "dict"|_=>none)=some t:=e
  show(match H a with|some (.lst _)=>some "list"|some (.frz _ (.lst _))=>some "list"|some (.tup _)=>some "tuple"|some (.dK _)=>some "dict"|some (.dT _)=>some "dict"|_=>none)=_
  cases q:h a with
  |none=>rw[q]at e;injection e
  |some o=>
   rw[q]at e
   obtain⟨u,e1,e2⟩:=A _ _ q
   rw[e1]
   cases e2<;>first|exact e|(injection e;done)
 |_=>injection e
def eG:CaW X G (.builtin "isinstance") Qv:=⟨_,Uk,fun A r q hQ=>by
 unfold Qv at q
 split at q
 ·obtain⟨q1,t,q2,q⟩:=q
  obtain⟨a,a,rfl,r1,r2⟩:=wic r;replace r2:=wic r2;obtain⟨a,a,rfl,r2,r3⟩:=r2;obtain rfl:=wic r3;cases r2;exact⟨q1,t,Nm A r1 q2,hQ _ _ q _ _ (ax.rfl' A) (.bl _)⟩
 ·exact q.elim⟩
def TN (T:List (Nat×Nat×Bool)):RWN:=fun l h Q=>∃x c d fs b,l=[x,.cls d]/\iD x h c fs/\(c,d,b)∈T/\Q (.bl b) h
def UK (hT:∀p∈T,AR X.K (G.cA p.1)/\W.kitOne X.K (.ref (G.cA p.1)) (.ref (G.cA p.2.1))=some p.2.2):CaW X G (.builtin "isinstance") (TN T):=⟨_,RX,fun A r q hQ=>by
 obtain⟨x,c,d,fs,b,rfl,i,hm,q⟩:=q
 obtain⟨e,e,rfl,r1,r2⟩:=wic r;cases r2 with|cons r2 r3=>
  obtain rfl:=wic r3;cases r2
  obtain⟨a,dx,vs,rfl,e1,r,c1⟩:=i.rel A r1
  exact⟨_,_,_,_,_,b,rfl,e1,c1.1,(hT _ hm).1,(hT _ hm).2,hQ _ _ q _ _ (ax.rfl' A) (.bl _)⟩⟩
theorem DQ:∀{l:List Bool}{v:List V},RelWs K G Z (l.map .bl) v->v=l.map V.bl
 |[],_,r=>by obtain rfl:=wic r;rfl
 |a::l,_,r=>by obtain⟨c,c,rfl,a,b⟩:=wic r;obtain rfl:=wiv a;rw[DQ b];rfl
theorem CW:∀{l:List Str}{v:List V},RelWs K G Z (l.map .str) v->v=l.map V.str
 |[],_,r=>by obtain rfl:=wic r;rfl
 |a::l,_,r=>by obtain⟨c,c,rfl,a,b⟩:=wic r;obtain rfl:=wiv a;rw[CW b];rfl
theorem CB:∀{l:List Int},RelWs K G Z (l.map .int) (l.map V.int)
 |[]=>.nil
 |a::l=>.cons (.int _) CB
def Us:RWN:=fun l h Q=>∃(x:W)(bs:List Bool),l=[x]/\lsW x h (bs.map .bl)/\Q (.bl (bs.all id)) h
def Ky (hc:X.calm=true):CaW X G (.builtin "all") Us:=⟨_,TF hc,fun A r q hQ=>by
 obtain⟨x,bs,rfl,i,q⟩:=q
 obtain⟨b,b,rfl,r1,r2⟩:=wic r
 obtain rfl:=wic r2
 obtain⟨a,vs,rfl,e1,r⟩:=i.rel A r1
 obtain rfl:=DQ r
 exact⟨_,bs,rfl,e1,hQ _ _ q _ _ (ax.rfl' A) (.bl _)⟩⟩
def qMM (f:Int->Int->Int):RWN:=fun l h Q=>match l with|[.int i,.int j]=>Q (.int (f i j)) h|_=>False
def cMM {f:Int->Int->Int}{r:List V->Hp->VK->Prop}(hr:∀i j H Q,Q (.int (f i j)) H->r [.int i,.int j] H Q):CN K G r (qMM f):=fun A r q hQ=>by
 unfold qMM at q
 split at q
 ·obtain⟨a,a,rfl,r1,r2⟩:=wic r;replace r2:=wic r2;obtain⟨a,a,rfl,r2,r3⟩:=r2;obtain rfl:=wic r3;obtain rfl:=wiv r2;obtain rfl:=wiv r1;exact hr _ _ _ _ (hQ _ _ q _ _ (ax.rfl' A) (.int _))
 ·exact q.elim
abbrev QP:RWN:=qMM fun i j=>if j<i then j else i
def Ry (hc:X.calm=true):CaW X G (.builtin "min") QP:=⟨_,Uh hc,cMM fun a a a a q=>q⟩
def PH:RWN:=fun l h Q=>match l with|[.str x]=>x.length=1/\Q (.int (x.cps.getD 0 0:Nat)) h|_=>False
def Sm:CaW X G (.builtin "ord") PH:=⟨_,Vp,fun A r q hQ=>by
 unfold PH at q
 split at q
 ·obtain⟨a,a,rfl,r1,r2⟩:=wic r;obtain rfl:=wic r2;obtain rfl:=wiv r1;exact⟨q.1,hQ _ _ q.2 _ _ (ax.rfl' A) (.int _)⟩
 ·exact q.elim⟩
def ID:RWN:=fun l h Q=>match l with|[.int i]=>i.natAbs.log2<1920/\Q (.str (toString i)) h|[.str z]=>Q (.str z) h|_=>False
def SU:CaW X G (.type "str") ID:=⟨_,RA,fun A r q hQ=>by
 unfold ID at q
 split at q
 ·obtain⟨a,a,rfl,r1,r2⟩:=wic r;obtain rfl:=wic r2;obtain rfl:=wiv r1;exact .int q.1 (hQ _ _ q.2 _ _ (ax.rfl' A) (.str _))
 ·obtain⟨a,a,rfl,r1,r2⟩:=wic r;obtain rfl:=wic r2;obtain rfl:=wiv r1;exact .str (hQ _ _ q _ _ (ax.rfl' A) (.str _))
 ·exact q.elim⟩
def Ob:RWN:=fun l h Q=>match l with
 |[.str z]=>∃n,acb z=some n/\z.length<=640/\Q (.int n) h
 |[.bl b]=>Q (.int (if b then 1 else 0)) h
 |_=>False
def Ld:CaW X G (.type "int") Ob:=⟨_,Uw,fun A r q hQ=>by
 unfold Ob at q
 split at q
 ·obtain⟨n,e1,e2,q⟩:=q
  obtain⟨a,a,rfl,r1,r2⟩:=wic r;obtain rfl:=wic r2;obtain rfl:=wiv r1;exact⟨n,e1,e2,hQ _ _ q _ _ (ax.rfl' A) (.int _)⟩
 ·obtain⟨a,a,rfl,r1,r2⟩:=wic r;obtain rfl:=wic r2;obtain rfl:=wiv r1;exact hQ _ _ q _ _ (ax.rfl' A) (.int _)
 ·exact q.elim⟩
def Tj:RWN:=fun l h Q=>∃x m,l=[x]/\(lqW x h m\/tqW x m)/\nwL m h Q
def Qz (A:Rep K G h H)(r:aI K G (fz h H) x v)(i:lqW x h m\/tqW x m):∃a vs,v=.ref a/\(SqL K H a vs\/SqT K H a vs)/\RelWs K G (fz h H) m vs:=by
 rcases i with i|i
 ·obtain⟨a,vs,e,e1,r⟩:=i.rel A r;exact⟨a,vs,e,.inl e1,r⟩
 ·obtain⟨a,vs,e,e1,r⟩:=i.rel r;exact⟨a,vs,e,.inr e1,r⟩
def GP:CaW X G (.type "list") Tj:=⟨_,Sh,fun A r q hQ=>by
 obtain⟨x,m,rfl,i,q⟩:=q
 obtain⟨b,b,rfl,r1,r2⟩:=wic r
 obtain rfl:=wic r2
 obtain⟨a,vs,rfl,e1,r⟩:=Qz A r1 i
 exact⟨_,vs,rfl,e1,fun p hp=>nwL.ok A r q hQ hp⟩⟩
def Qd:RWN:=fun l h Q=>∃x m,l=[x]/\lqW x h m/\Q (.tup m) h
def Nb:CaW X G (.type "tuple") Qd:=⟨_,Qq,fun A r q hQ=>by
 obtain⟨x,m,rfl,i,q⟩:=q
 obtain⟨b,b,rfl,r1,r2⟩:=wic r
 obtain rfl:=wic r2
 obtain⟨a,vs,rfl,e1,r⟩:=i.rel A r1
 refine⟨_,vs,rfl,.inl ⟨e1,fun p hp=>?_⟩⟩
 have s:=ax.lay (u:=.tup vs) A hp
 exact hQ _ _ q _ _ s (.tup (by rw[bB (A.new hp),aT]) (r.mono s.sm))⟩
def qIn (neg:Bool):RW2:=fun x c h Q=>match c with
 |.ref a=>(∃o,DW h a x o/\Q (.bl (cond neg (!o.isSome) o.isSome)) h)\/∃l,neg=false/\h a=some (.lst l)/\Pl 140 x/\Pls 140 l/\∀b:Bool,(b=true↔x∈l)->Q (.bl b) h
 |_=>False
theorem Dts.any (a:Dt w d):∀{l:List W}{ds:List abq},Dts l ds->((ds.any fun e=>e.eqv d)=true↔w∈l)
 |_,_,.nil=>by simp
 |_,_,.cons b c=>by rw[Yz,Bool.or_eq_true,b.eqv a,c.any a,tx];exact or_congr ⟨Eq.symm,Eq.symm⟩ Iff.rfl
def DW.som {o:Option W}(A:Rep K G h H)(d:DW h a y o)(r:aI K G (fz h H) y u):∃o',fc H a u o'/\o'.isSome=o.isSome:=by
 obtain⟨o',g,g1,g2⟩:=d.get A r
 refine⟨o',g,?_⟩
 cases o with
 |none=>rw[g2 rfl];rfl
 |some w=>obtain⟨v,rfl,b⟩:=g1 w rfl;rfl
def IM (hu:X.A.units+150<cLine):OpW X G (compareOp .In) (qIn false):=⟨_,(ON (by lia)).or (Qa hu),fun A r1 r2 q hQ=>by
 unfold qIn at q
 split at q
 ·rcases q with⟨o,d,q⟩|⟨l,b,e,p1,p2,q⟩
  ·obtain rfl:=wiv r2
   obtain⟨o',g,e⟩:=d.som A r1
   exact .inl ⟨_,o',rfl,g,by rw[e];exact hQ _ _ q _ _ (ax.rfl' A) (.bl _)⟩
  ·obtain⟨a,vs,rfl,e1,r⟩:=lsW.rel A r2 (.inr ⟨_,rfl,e⟩)
   obtain⟨d,a1,b1,c1,e2⟩:=p1.dat aV r1
   obtain⟨ds,a2,b2,c2,b⟩:=p2.dat aV r
   exact .inr ⟨d,ds,b1,.inl (.lst (SqL.of e1) b2),c2,c1,e2,hQ _ _ (q _ (a2.any a1)) _ _ (ax.rfl' A) (.bl _)⟩
 ·exact q.elim⟩
def Eg (hu:X.A.units+150<cLine):OpW X G (compareOp .NotIn) (qIn true):=⟨_,Gg (by lia),fun A r1 r2 q hQ=>by
 unfold qIn at q
 split at q
 ·rcases q with⟨o,d,q⟩|⟨l,z,a⟩
  ·obtain rfl:=wiv r2
   obtain⟨o',g,e⟩:=d.som A r1
   exact⟨_,o',rfl,g,by rw[e];exact hQ _ _ q _ _ (ax.rfl' A) (.bl _)⟩
  ·injection z
 ·exact q.elim⟩
end
section
variable {X:Cx}{G:Gm}{K:W.Frag}{h:WH}{H H':Hp}
section
variable {a b e o:Expr}{es:List Expr}{ta te to:TWE}{t:TWA}{pos apos cpos p:Pos}{x m:Str}{k:Nat}{f C:Addr}{fd:Gt}{ps:List Str}{sp:WP}
def Fz.rel {Q:WQ}(A:Rep K G h H)(r:aI K G (fz h H) w v)(q:Fz Q w h):∃w2 h2,Q w2 h2/\ax K G h H h2 H/\aI K G (fz h2 H) w2 v:=by
 obtain⟨w2,h2,s,f,q⟩:=q
 exact⟨w2,h2,q,ax.cut A s,f.rel A s r⟩
def Lc (hc:Cls K (G.cA c)){E:L2.St->XK}(z:lE K G (Ft c sp t) E σ H Q):xV (G.cA c) (lP K G sp) E (lA K G t E) σ H Q:=by
 obtain⟨ws,h,Qw,Xw,A,S,ht,hQ,hX⟩:=z
 refine bnd A S ht hX fun l h1 vs H1 q s r=>fun x dx hx hd hn=>?_
 have s1:=ax.lay (u:=.own x) s.rep hd
 have s2:=ax.new (o:=.ins c []) (u:=.ins (G.cA c) dx []) s1.rep (by rw[ay (ab hn)];exact hx) (.ins .nil ⟨hc,fun p hp=>nomatch hp⟩)
 have st:=s1.trans s2
 refine⟨_,_,_,Xw,s2.rep,.cons (.ref x) (r.mono st.sm),q x (s.rep.new hx),fun w h2 q2 v H2 s3 r3=>?_,hX1 (s.trans st) hX⟩
 obtain⟨rfl,q2⟩:=q2
 obtain rfl:=wiv r3
 obtain⟨w2,h3,q3,s4,r4⟩:=q2.rel s3.rep (.ref x)
 exact⟨rfl,hQ _ _ q3 _ _ ((s.trans st).trans (s3.trans s4)) r4⟩
def dH (c:Nat)(M:Mk X.K (G.cA c) f)(hc:Cls X.K (G.cA c))(F:cy X.prog X.w X.K X.mg X.base (CX1 X.prog X.w) k f fd ps (lP X.K G sp))(hr:aZ (k+1) X.A)(hm:X.mg x=some (.ref (G.cA c)))(hb:bX X.K fd ps [])(ha:ZA X G (e::es) t)
  (hg:Gl X x:=by rfl)(hdb:(x==("__debug__":Str))=false:=by decide)(hs:aM (e::es)=true:=by rfl):ZE X G (.Call (.Name x p) (e::es) [] pos) (Ft c sp t):=
 ⟨fun E hE=>QE.imp (Ll M F hr hm hb hE (ha.out E hE) hg hdb hs) fun a a a=>Lc hc⟩
def MC (c:Nat)(M:Mk X.K (G.cA c) f)(hc:Cls X.K (G.cA c))(F:cy X.prog X.w X.K X.mg X.base (CX1 X.prog X.w) k f fd ps (lP X.K G sp))(hr:aZ (k+1) X.A)(hm:X.mg x=some (.ref (G.cA c)))(hb:bX X.K fd ps [])
  (hg:Gl X x:=by rfl)(hdb:(x==("__debug__":Str))=false:=by decide):ZE X G (.Call (.Name x p) [] [] pos) (Ft c sp eS):=
 ⟨fun E hE=>QE.imp (BF M F hr hm hb hE hg hdb) fun a a a z=>UH (Lc hc z)⟩
def EW {pl:Sem Bool}(hm:X.mg x=some (.ref (G.cA c)))(cf:FJ X.K (G.cA c) m f)(F:cy X.prog X.w X.K X.mg X.base (CX1 X.prog X.w) k f fd ps (lP X.K G sp))(hr:aZ k X.A)(hb:bX X.K fd ps [])(ha:ZA X G (e::es) t)
  (hg:Gl X x:=by rfl)(hd:(x==("__debug__":Str))=false:=by decide)(hs:aM (e::es)=true:=by rfl)
  (ht:eval (.Call (.Attribute (.Name x p) m apos) (e::es) [] pos) X.env=(do
   let ov<-eval (.Name x p) X.env
   standAt apos.atName
   let (f,first)<-holding [ov] (getMethod ov m pl)
   callWith pos f first (backTo pos (starEach (e::es) X.env)) (backToKw pos (keywordEach [] X.env))):=by rfl):ZE X G (.Call (.Attribute (.Name x p) m apos) (e::es) [] pos) (gS sp t):=
 ⟨fun E hE=>QE.imp (Ps hm cf F hr hb hE (ha.out E hE) hg hd hs ht) fun a a a=>KU⟩
end
mutual
def nc:W->Bool
 |.tup l=>ncs l
 |.fl l=>ncs l
 |.obj _ fs=>ncf fs
 |.kt _=>false
 |.sl _=>false
 |.clo _ _=>false
 |.exc _ _=>false
 |.vw _=>false
 |_=>true
def ncs:List W->Bool
 |[]=>true
 |w::l=>nc w&&ncs l
def ncf:List (Str×W)->Bool
 |[]=>true
 |p::l=>nc p.2&&ncf l
end
noncomputable def sc:W->Bool
 |.non=>true
 |.bl _=>true
 |.int _=>true
 |.str _=>true
 |_=>false
def scO:O->Prop
 |.lst l=>∀w∈l,sc w=true
 |.dK l=>∀p∈l,sc p.2=true
 |.dT l=>∀p∈l,sc p.2=true
 |.ins _ _=>False
 |.opq _=>True
 |.tbl _=>False
def BX (r:aI K G Z w v)(e:sc w=true):aI K G Z' w v:=by
 cases r<;>first|(cases e;done)|constructor
def Eo (r:bE K G Z o u)(e:scO o):bE K G Z' o u:=by
 have ks:∀{κ:Type}{l:List (κ×W)}{v:List (κ×V)},RelKs K G Z l v->(∀p∈l,sc p.2=true)->RelKs K G Z' l v:=by
  intro κ l
  induction l with
  |nil=>intro v r c;cases r;exact .nil
  |cons p l ih=>
   intro v r hs
   cases r with
   |cons a b=>exact .cons (BX a (hs _ cW)) (ih b fun p hp=>hs p (Vu _ hp))
 cases r with
 | @lst l v r=>
   refine .lst ?_
   replace e:∀w∈l,sc w=true:=e
   clear ks
   induction l generalizing v with
   |nil=>obtain rfl:=wic r;exact .nil
   |cons p l ih=>
    obtain⟨c,c,rfl,a,b⟩:=wic r;exact .cons (BX a (e _ cW)) (ih b fun p hp=>e p (Vu _ hp))
 |dK r=>exact .dK (ks r e)
 |dT r=>exact .dT (ks r e)
 |ins=>exact e.elim
 |opq u=>exact .opq u
 |tbl u=>exact e.elim
section
variable {Z:Hp}{cs:List Addr}(hx:∀c∈cs,∃φ,Z c=some (.ext φ))
include hx
def hid (e:Z a=some u)(n:∀φ,u≠.ext φ):cQ cs Z a=some u:=by
 rw[cj fun m=>?_];exact e
 obtain⟨φ,q⟩:=hx a m
 rw[e]at q;obtain rfl:=VR q;exact n _ rfl
mutual
theorem Ir:∀{w:W}{v:V},aI K G Z w v->nc w=true->aI K G (cQ cs Z) w v
 |_,_,.non,_=>.non
 |_,_,.bl b,_=>.bl b
 |_,_,.int b,_=>.int b
 |_,_,.str b,_=>.str b
 |_,_,.ty b,_=>.ty b
 |_,_,.ref b,_=>.ref b
 |_,_,.cls b,_=>.cls b
 |_,_,.tup e r,n=>.tup (hid hx e nofun) (ncs_rel r n)
 |_,_,.fl e r,n=>.fl (hid hx e nofun) (ncs_rel r n)
 |_,_,.obj e r c,n=>.obj (hid hx e nofun) (ncf_rel r n) c
 |_,_,.any v,_=>.any v
 |_,_,.kt ..,n=>(by injection n)
 |_,_,.sl ..,n=>(by injection n)
 |_,_,.clo ..,n=>(by injection n)
 |_,_,.exc ..,n=>(by injection n)
 |_,_,.excF ..,n=>(by injection n)
 |_,_,.vw ..,n=>(by injection n)
theorem ncs_rel:∀{w:List W}{v:List V},RelWs K G Z w v->ncs w=true->RelWs K G (cQ cs Z) w v
 |_,_,.nil,_=>.nil
 |_,_,.cons a b,n=>.cons (Ir a (Gn.mp n).1) (ncs_rel b (Gn.mp n).2)
theorem ncf_rel:∀{w:List (Str×W)}{v:List (Str×V)},RelKs K G Z w v->ncf w=true->RelKs K G (cQ cs Z) w v
 |_,_,.nil,_=>.nil
 |_,_,.cons a b,n=>.cons (Ir a (Gn.mp n).1) (ncf_rel b (Gn.mp n).2)
end
end
mutual
inductive Wk:W->W->Prop
 |same (w):Wk w w
 |any (w):Wk w .any
 |obj {c fs gs}:Wkf fs gs->Wk (.obj c fs) (.obj c gs)
inductive Wkf:List (Str×W)->List (Str×W)->Prop
 |nil:Wkf [] []
 |cons {k w u fs gs}:Wk w u->Wkf fs gs->Wkf ((k,w)::fs) ((k,u)::gs)
end
end
section
variable {X:Cx}{G:Gm}{K:W.Frag}{h:WH}{H H':Hp}
mutual
theorem Wk.rel:∀{w u:W},Wk w u->∀{v:V},aI K G Z w v->aI K G Z u v
 |_,_,.same w,_,r=>r
 |_,_,.any w,_,r=>.any _
 |_,_,.obj k,_,r=>by
  cases r with
  |obj e r c=>exact .obj e (k.rel r).1 ⟨c.1,(k.rel r).2 c.2⟩
theorem Wkf.rel:∀{w u:List (Str×W)},Wkf w u->∀{v:List (Str×V)},RelKs K G Z w v->RelKs K G Z u v/\∀{P:Str->Prop},(∀p∈w,P p.1)->∀p∈u,P p.1
 |_,_,.nil,_,r=>⟨r,fun c c h=>nomatch h⟩
 |_,_,.cons (k:=kk) (w:=ww) k q,_,r=>by
  cases r with
  |cons a b=>exact⟨.cons (k.rel a) (q.rel b).1,fun{P} hp p hm=>by
   rcases tx.mp hm with e|hm
   ·rw[e];show P kk;exact hp (kk,ww) cW
   ·exact(q.rel b).2 (fun p hp'=>hp p (Vu _ hp')) p hm⟩
end
inductive Wks:List W->List W->Prop
 |nil:Wks [] []
 |cons {w u l m}:Wk w u->Wks l m->Wks (w::l) (u::m)
theorem Wks.rfl':∀{l:List W},Wks l l
 |[]=>.nil
 |w::l=>.cons (.same w) Wks.rfl'
theorem Wks.rel:∀{w u:List W},Wks w u->∀{v:List V},RelWs K G Z w v->RelWs K G Z u v
 |_,_,.nil,_,r=>r
 |_,_,.cons k q,_,r=>by obtain⟨c,c,rfl,a,b⟩:=wic r;exact .cons (k.rel a) (q.rel b)
def mrg (g g' h:WH):WH:=fun a=>match g a with|some _=>g' a|none=>h a
def vE {g g' h:WH}(e:g a=some o):mrg g g' h a=g' a:=by unfold mrg;rw[e]
def pe {g g' h:WH}(e:g a=none):mrg g g' h a=h a:=by unfold mrg;rw[e]
def inA (g g':WH):Prop:=∀a o,g' a=some o->(∃u,g a=some u)/\scO o
structure oZ (n:Nat)(ks:List (Nat×WP))(i:Nat)(caps l:List W)(h:WH)(Q:WQ)(X:WX):Prop where
 out:∃sp g c',(i,sp)∈ks/\l.length=n/\Sub g h/\(∀a o,g a=some o->scO o)/\Wks caps c'/\ncs l=true/\ncs c'=true/\
 sp (l++c') g (fun w g'=>sc w=true/\inA g g'/\Q w (mrg g g' h)) (fun e g'=>e.fs=none/\inA g g'/\X e (mrg g g' h))
def HE (c:cE H cs vs):∀a∈cs,∃φ,H a=some (.ext φ):=fun a m=>let ⟨v,e⟩:=c.mem a m;⟨_,e⟩
def Ae (A:Rep K G h H)(c:cE (fz h H) cs vs)(sg:Sub g h)(s:ax K G g (cQ cs H) g' H')(i:inA g g'):ax K G h H (mrg g g' h) (eI cs H H'):=by
 have gn:∀a,h a=none->g a=none:=fun a e=>by
  cases q:g a with
  |none=>rfl
  |some o=>rw[sg _ _ q]at e;injection e
 have hc:∀a∈cs,h a=none:=fun a m=>by obtain⟨v,e⟩:=c.mem a m;exact(kS e).2
 have keep:∀a u,H a=some u->g a=none->a∉cs->H' a=some u:=fun a u e n m=>(kS (s.sm a u (by rw[bB n,cj m];exact e))).1
 have sm:bc (fz h H) (fz (mrg g g' h) (eI cs H H')):=fun a u e=>by
  obtain⟨e1,e2⟩:=kS e
  rw[bB (by rw[pe (gn a e2)];exact e2)]
  by_cases m:a∈cs
  ·rw[By m];exact e1
  ·rw[cN m];exact keep a u e1 (gn a e2) m
 refine⟨fun a o e=>?_,sm⟩
 cases q:g a with
 |some o0=>
  rw[vE q]at e
  have m:a∉cs:=fun m=>by have:=hc a m;rw[sg _ _ q]at this;injection this
  obtain⟨u,e1,e2⟩:=s.rep a o e
  exact⟨u,by rw[cN m];exact e1,Eo e2 (i a o e).2⟩
 |none=>
  rw[pe q]at e
  obtain⟨u,e1,e2⟩:=A a o e
  have m:a∉cs:=fun m=>by have:=hc a m;rw[e]at this;injection this
  exact⟨u,by rw[cN m];exact keep a u e1 q m,e2.mono sm⟩
def zZ {Qw:WQ}{Xw:WX}{Q:VK}{E:XK}(hn:∀p∈ks,(G.cT p.1).ps.length=n)(A:Rep K G h H)(rf:aI K G (fz h H) (.clo i caps) (.ref f))(rl:RelWs K G (fz h H) l vs)
  (q:oZ n ks i caps l h Qw Xw)(hQ:∀w h',Qw w h'->uQ K G h H Q w h')(hX:∀e h',Xw e h'->uX K G h H E e h'):ER (ks.map fun p=>(G.cT p.1,lP K G p.2)) f vs H Q E:=by
 obtain⟨sp,g,c',hm,hl,sg,so,wk,n1,n2,q⟩:=q.out
 cases rf with
 | @clo _ _ _ cs cvs ca rc=>
   have caH:fj H f (G.cT i) cs cvs:=gE aV ca
   have gn:∀a∈cs,g a=none:=fun a m=>by
    obtain⟨v,e⟩:=ca.cells.mem a m
    have:=(kS e).2
    cases q:g a with
    |none=>rfl
    |some o=>rw[sg _ _ q]at this;injection this
   have fe:fz g (cQ cs H)=cQ cs (fz g H):=by
    funext a
    by_cases m:a∈cs
    ·rw[bB (gn a m),fV m,fV m]
    ·unfold fz;rw[cj m,cj m]
   have sc0:=ax.cut A sg
   have hx:∀a∈cs,∃φ,fz g H a=some (.ext φ):=fun a m=>let ⟨φ,e⟩:=HE ca.cells a m;⟨φ,sc0.sm _ _ e⟩
   have Ag:Rep K G g (cQ cs H):=fun a o e=>by
    obtain⟨u,e1,e2⟩:=A a o (sg _ _ e)
    refine⟨u,?_,Eo e2 (so a o e)⟩
    rw[cj fun m=>by rw[gn a m]at e;injection e];exact e1
   refine⟨_,VL.mpr ⟨_,hm,rfl⟩,cs,cvs,caH,by rw[<-rl.len,hl];exact(hn _ hm).symm,_,g,_,_,Ag,?_,q,fun w g' q2 v H2 s2 r2=>?_,fun e g' q2 cl d H2 s2 r2=>?_⟩
   ·rw[fe]
    exact(ncs_rel hx (rl.mono sc0.sm) n1).app (ncs_rel hx ((wk.rel rc).mono sc0.sm) n2)
   ·exact hQ _ _ q2.2.2 _ _ (Ae A ca.cells sg s2 q2.2.1) (BX r2 q2.1)
   ·exact hX _ _ q2.2.2 _ _ _ (Ae A ca.cells sg s2 q2.2.1) (r2.bare q2.1)
section
variable {a b e o:Expr}{es:List Expr}{ta te to:TWE}{t:TWA}{pos apos cpos p:Pos}{x m:Str}{k:Nat}
inductive Ki (ks:List (Nat×WP))(x:W)(k:Nat->List W->Prop):Prop
 |mk (i caps):x=.clo i caps->(∃sp,(i,sp)∈ks)->k i caps->Ki ks x k
inductive KC (ks:List (Nat×WP))(c:Nat)(m:Str)(x:W)(h:WH)(k:Nat->List W->Prop):Prop
 |mk (fs i caps):iD x h c fs->fs.lookup m=some (.clo i caps)->(∃sp,(i,sp)∈ks)->k i caps->KC ks c m x h k
def Ra (n:Nat)(ks:List (Nat×WP))(o:TWE)(t:TWA):TWE:=fun ws h Q X=>o ws h (fun x h1=>Ki ks x fun i caps=>t ws h1 (fun l h2=>oZ n ks i caps l h2 Q X) X) X
def FY (X:Cx)(G:Gm)(k n:Nat)(ks:List (Nat×WP)):Prop:=∀p∈ks,(G.cT p.1).ps.length=n/\fu X.prog X.w X.K X.mg X.base k (G.cT p.1) (lP X.K G p.2)
def FY.out {ks:List (Nat×WP)}(hk:FY X G k n ks):zf X.prog X.w X.K X.mg X.base k (ks.map fun p=>(G.cT p.1,lP X.K G p.2)):=fun ts hts=>by
 obtain⟨p,hp,rfl⟩:=VL.mp hts
 exact(hk p hp).2
def dj (hk:FY X G k n ks)(hr:aZ k X.A)(hg:ZE X G (.Name x p) ta)(ha:ZA X G (e::es) t)(hs:aM (e::es)=true:=by rfl):ZE X G (.Call (.Name x p) (e::es) [] pos) (Ra n ks ta t):=
 ⟨fun E hE=>QE.imp (QC hk.out hr hE (hg.out E hE) (ha.out E hE) hs) fun σ H Q ⟨ws,h,Qw,Xw,A,S,ht,hQ,hX⟩=>bnd A S ht hX fun x h1 y H1 q s r=>by
  obtain⟨i,caps,rfl,⟨sp,hm⟩,q⟩:=q
  have r0:=r
  cases r with
  |clo ca rc=>
   exact⟨_,rfl,⟨_,VL.mpr ⟨_,hm,rfl⟩,_,_,gE aV ca⟩,bnd s.rep (S.mono s.sm) q (hX1 s hX) fun l h2 vs H2 q2 s2 r2=>
    zZ (fun p hp=>(hk p hp).1) s2.rep (r0.mono s2.sm) r2 q2 (hQ1 (s.trans s2) hQ) (hX1 (s.trans s2) hX)⟩⟩
def QL (n:Nat)(ks:List (Nat×WP))(c:Nat)(m:Str)(o:TWE)(t:TWA):TWE:=fun ws h Q X=>o ws h (fun x h1=>KC ks c m x h1 fun i caps=>t ws h1 (fun l h2=>oZ n ks i caps l h2 Q X) X) X
def DU {pl:Sem Bool}(hk:FY X G k n ks)(hr:aZ k X.A)(he:ZE X G o to)(hc:Cls X.K (G.cA c))(na:aH X.K (G.cA c) m)(ha:ZA X G (e::es) t)(hs:aM (e::es)=true:=by rfl)
  (ht:eval (.Call (.Attribute o m apos) (e::es) [] pos) X.env=(do
   let ov<-eval o X.env
   standAt apos.atName
   let (f,first)<-holding [ov] (getMethod ov m pl)
   callWith pos f first (backTo pos (starEach (e::es) X.env)) (backToKw pos (keywordEach [] X.env))):=by rfl):ZE X G (.Call (.Attribute o m apos) (e::es) [] pos) (QL n ks c m to t):=
 ⟨fun E hE=>QE.imp (Nn hk.out hr hE (he.out E hE) hc na (ha.out E hE) hs ht) fun σ H Q ⟨ws,h,Qw,Xw,A,S,ht,hQ,hX⟩=>bnd A S ht hX fun x h1 y H1 q s r=>by
  obtain⟨fs,i,caps,iw,hl,⟨sp,hm⟩,q⟩:=q
  obtain⟨a,dx,vs,rfl,e1,r1,c1⟩:=iw.rel s.rep r
  obtain⟨v,e3,r3⟩:=(RelKs.look r1).1 _ hl
  have r0:=r3
  cases r3 with
  |clo ca rc=>
   exact⟨_,_,_,_,rfl,e1,e3,⟨_,VL.mpr ⟨_,hm,rfl⟩,_,_,gE aV ca⟩,bnd s.rep (S.mono s.sm) q (hX1 s hX) fun l h2 vs H2 q2 s2 r2=>
    zZ (fun p hp=>(hk p hp).1) s2.rep (r0.mono s2.sm) r2 q2 (hQ1 (s.trans s2) hQ) (hX1 (s.trans s2) hX)⟩⟩
def tvW (T:String)(x:W)(h:WH):Prop:=match x with
 |.str _=>T="str"
 |.int _=>T="int"
 |.fl _=>T="list"
 |.sl _=>T="list"
 |.ref a=>(T="list"/\∃l,h a=some (.lst l))\/(T="dict"/\((∃l,h a=some (.dK l))\/∃l,h a=some (.dT l)))
 |_=>False
def tvW.rel {T:String}{x:W}{v:V}(A:Rep K G h H)(r:aI K G (fz h H) x v)(i:tvW T x h):tyV K T v H:=by
 cases r<;>first|exact i.elim|exact i|skip
 ·rcases i with⟨e,l,i⟩|⟨e,⟨l,i⟩|⟨l,i⟩⟩
  ·obtain⟨u,e1,e2⟩:=A _ _ i
   cases e2;exact .inl ⟨e,_,SqL.of e1⟩
  ·obtain⟨u,e1,e2⟩:=A _ _ i
   cases e2;exact .inr (.inr (.inl ⟨e,.inl ⟨_,e1⟩⟩))
  ·obtain⟨u,e1,e2⟩:=A _ _ i
   cases e2;exact .inr (.inr (.inl ⟨e,.inr ⟨_,e1⟩⟩))
 ·rename_i e _;exact .inl ⟨i,_,SqL.of (aV _ _ e)⟩
 ·rename_i e _;exact .inl ⟨i,_,SqL.up aV e⟩
def wBM (T:String)(r:RWM)(o:TWE)(t:TWA):TWE:=fun ws h Q X=>o ws h (fun x h1=>tvW T x h1/\t ws h1 (fun l h2=>r x l h2 Q) X) X
structure MtW (X:Cx)(G:Gm)(id:String)(q:RWM):Prop where
 ex:∃r,MtR X id r/\CM X.K G r q
variable {T id:String}{name:Str}{q:RWM}
def dQ (pa:Zi T)(slot:Slot T name id)(hty:typeOf (.builtin id)=pure (.type "method_descriptor"))(hm:MtW X G id q)(ho:ZE X G o to)(ha:ZA X G (e::es) t)
  (hbase:attributeBase o name X.env (eval o X.env)=eval o X.env:=by rfl)(hfew:decide ((e::es).length<30)=true:=by rfl)
  (hline:(apos.endLine==cpos.line)=true:=by rfl)(hs:aM (e::es)=true:=by rfl):ZE X G (.Call (.Attribute o name apos) (e::es) [] cpos) (wBM T q to t):=
 let ⟨_,h1,h2⟩:=hm.ex;⟨fun E hE=>QE.imp (UD pa slot hty h1 (ho.out E hE) (ha.out E hE) hbase hfew hline hs) fun σ H Q ⟨ws,h,Qw,Xw,A,S,ht,hQ,hX⟩=>bnd A S ht hX fun x h1 y H1 q s r=>
  ⟨q.1.rel s.rep r,bnd s.rep (S.mono s.sm) q.2 (hX1 s hX) fun l hh vs H2 q2 s2 r2=>h2 s2.rep (r.mono s2.sm) r2 q2 (hQ1 (s.trans s2) hQ)⟩⟩
def AM (pa:Zi T)(slot:Slot T name id)(hty:typeOf (.builtin id)=pure (.type "method_descriptor"))(hm:MtW X G id q)(ho:ZE X G o to)
  (hbase:attributeBase o name X.env (eval o X.env)=eval o X.env:=by rfl)(hline:(apos.endLine==cpos.line)=true:=by rfl):ZE X G (.Call (.Attribute o name apos) [] [] cpos) (wBM T q to eS):=
 let ⟨_,h1,h2⟩:=hm.ex;⟨fun E hE=>QE.imp (ST pa slot hty h1 (ho.out E hE) hbase hline) fun σ H Q ⟨ws,h,Qw,Xw,A,S,ht,hQ,hX⟩=>bnd A S ht hX fun x h1 y H1 q s r=>
  ⟨q.1.rel s.rep r,h2 s.rep r .nil q.2 (hQ1 s hQ)⟩⟩
end
def Vm:RWM:=fun x l h Q=>∃a m y,x=.ref a/\l=[y]/\h a=some (.lst m)/\m.length<sizeLine/\Q .non (up h a (.lst (m++[y])))
def eV:MtW X G "list.append" Vm:=⟨_,zL,fun A ry rx q hQ=>by
 obtain⟨a,m,y,rfl,rfl,e,hl,q⟩:=q
 obtain rfl:=wiv ry
 obtain⟨b,b,rfl,r1,r2⟩:=wic rx
 obtain rfl:=wic r2
 obtain⟨u,e1,e2⟩:=A _ _ e
 obtain⟨b,rfl,r⟩:=oiv e2;exact⟨_,_,_,rfl,rfl,e1,by rw[<-r.len];exact hl,hQ _ _ q _ _ (ax.set A e (.lst (r.app (.cons r1 .nil)))) .non⟩⟩
def Kh:RWM:=fun x l h Q=>match x,l with|.int i,[]=>Q (.int (WI i)) h|_,_=>False
def Kl:MtW X G "int.bit_length" Kh:=⟨_,MM,fun A ry rx q hQ=>by
 unfold Kh at q
 split at q
 ·obtain rfl:=wiv ry;obtain rfl:=wic rx;exact hQ _ _ q _ _ (ax.rfl' A) (.int _)
 ·exact q.elim⟩
def RD:RWM:=fun x l h Q=>∃(z:Str)(y:W)(m:List Str),x=.str z/\l=[y]/\lsW y h (m.map .str)/\(m.map (·.length)).sum+m.length*z.length<=16777216/\Q (.str (Txt.join z m)) h
def KG:MtW X G "str.join" RD:=⟨_,Lx,fun A ry rx q hQ=>by
 obtain⟨z,y,m,rfl,rfl,i,hl,q⟩:=q
 obtain rfl:=wiv ry
 obtain⟨b,b,rfl,r1,r2⟩:=wic rx
 obtain rfl:=wic r2
 obtain⟨a,vs,rfl,e1,r⟩:=i.rel A r1
 cases CW r
 exact⟨_,_,_,rfl,rfl,e1,hl,hQ _ _ q _ _ (ax.rfl' A) (.str _)⟩⟩
def Rk:RWM:=fun x l h Q=>∃a m k w,x=.ref a/\l=[kW k]/\h a=some (.dK m)/\gK m k=some w/\Q w (up h a (.dK (dK' m k)))
def RZ:MtW X G "dict.pop" Rk:=⟨_,LE,fun A ry rx q hQ=>by
 obtain⟨a,m,k,w,rfl,rfl,e,hl,q⟩:=q
 obtain rfl:=wiv ry
 obtain⟨b,b,rfl,r1,r2⟩:=wic rx
 obtain rfl:=wic r2
 obtain⟨u,e1,e2⟩:=A _ _ e
 obtain⟨b,rfl,r⟩:=oiv e2
 obtain⟨v,e3,r3⟩:=(r.val k).1 w hl
 cases xc r1
 have s:=ax.set A e (.dK (r.del k))
 exact⟨_,_,k,v,rfl,rfl,e1,e3,hQ _ _ q _ _ s (r3.mono s.sm)⟩⟩
def Kq:RWM:=fun x l h Q=>∃a y d,x=.ref a/\l=[y,d]/\((∃w,DW h a y (some w)/\Q w h)\/∃h',DW h a y none/\DP h a d y h'/\Q d h')
def Rw (hu:X.A.units+1<cLine):MtW X G "dict.setdefault" Kq:=⟨_,Iv hu,fun A ry rx q hQ=>by
 obtain⟨a,y,d,rfl,rfl,q⟩:=q
 obtain rfl:=wiv ry
 obtain⟨b,b,rfl,r1,r2⟩:=wic rx;cases r2 with|cons r2 r3=>
  obtain rfl:=wic r3
  rcases q with⟨w,g,q⟩|⟨h',g,pt,q⟩
  ·obtain⟨o',g,g1,g2⟩:=g.get A r1
   obtain⟨v,rfl,r⟩:=g1 w rfl
   exact⟨_,_,_,v,_,rfl,rfl,.inl ⟨g,rfl⟩,hQ _ _ q _ _ (ax.rfl' A) r⟩
  ·obtain⟨o',g,g1,g2⟩:=g.get A r1
   cases g2 rfl
   obtain⟨H',p,s⟩:=pt.put A r1 r2
   exact⟨_,_,_,_,H',rfl,rfl,.inr ⟨g,p,rfl⟩,hQ _ _ q _ _ s (r2.mono s.sm)⟩⟩
end
structure uD (K:W.Frag)(G:Gm)(h:WH)(H:Hp)(D:pB)(E:L2.St->XK)(Dw:zt):Prop where
 nx:∀ws h',Dw.nx ws h'->uN K G h H D.nx ws h'
 rt:∀w h',Dw.rt w h'->uQ K G h H D.rt w h'
 er:∀e ws h',Dw.er e ws h'->∀σ cls d H',ax K G h H h' H'->bY K G (fz h' H') ws σ->Cu K G (fz h' H') e cls d->E σ cls d H'
 bk:∀ws h',Dw.bk ws h'->uN K G h H D.bk ws h'
 ct:∀ws h',Dw.ct ws h'->uN K G h H D.ct ws h'
inductive LS (K:W.Frag)(G:Gm)(t:TWS)(E:L2.St->XK)(D:pB)(σ:L2.St)(H:Hp):Prop
 |mk (ws:WS) (h:WH) (Dw:zt):Rep K G h H->bY K G (fz h H) ws σ->t Dw ws h->uD K G h H D E Dw->LS K G t E D σ H
def lS (K:W.Frag)(G:Gm)(t:TWS)(E:L2.St->XK):TS:=fun D σ H=>LS K G t E D σ H
def RP (X:Cx)(E:L2.St->XK):Prop:=OF X E/\Ta X E
structure ZS (b:Bool)(X:Cx)(G:Gm)(s:Stmt)(t:TWS):Prop where
 out:∀E,di (CX1 X.prog X.w) X E->(b=true->RP X E)->QS X s (lS X.K G t E)
structure ZSs (b:Bool)(X:Cx)(G:Gm)(s:List Stmt)(t:TWS):Prop where
 out:∀E,di (CX1 X.prog X.w) X E->(b=true->RP X E)->QSs X s (lS X.K G t E)
def QS.imp {t t':TS}(h:QS X e t)(i:∀D σ H,t' D σ H->t D σ H):QS X e t':=⟨fun pins s σ H D I q=>h.out pins s σ H D I (i D σ H q)⟩
def QSs.imp {t t':TS}(h:QSs X e t)(i:∀D σ H,t' D σ H->t D σ H):QSs X e t':=⟨fun pins s σ H D I q=>h.out pins s σ H D I (i D σ H q)⟩
section
variable {K:W.Frag}{G:Gm}{h h1:WH}{H H1:Hp}{ws:WS}{σ:L2.St}{E:L2.St->XK}{D:pB}{Dw:zt}
def uD.mono (u:uD K G h H D E Dw)(s:ax K G h H h1 H1):uD K G h1 H1 D E Dw:=
 ⟨fun ws h' q=>uN.mono s (u.nx ws h' q),fun w h' q=>uQ.mono s (u.rt w h' q),fun e ws h' q σ c d H' s2=>u.er e ws h' q σ c d H' (s.trans s2),fun ws h' q=>uN.mono s (u.bk ws h' q),fun ws h' q=>uN.mono s (u.ct ws h' q)⟩
def uD.ex (u:uD K G h H D E Dw)(S:bY K G (fz h H) ws σ):∀e h',Dw.er e ws h'->uX K G h H (E σ) e h':=fun e h' q cls d H' s r=>u.er e ws h' q σ cls d H' s (S.mono s.sm) r
end
def JV (i:Nat)(a:TWE):TWS:=fun D ws h=>a ws h (fun x h1=>D.nx (ws.set i (some x)) h1) fun e h1=>D.er e ws h1
def Gd (a:TWE):TWS:=fun D ws h=>a ws h D.rt fun e h1=>D.er e ws h1
def RY (a:TWE):TWS:=fun D ws h=>a ws h (fun b h1=>D.nx ws h1) fun e h1=>D.er e ws h1
def Fe (c:TWT)(t u:TWS):TWS:=fun D ws h=>c ws h (fun b h1=>Sel b (t D ws h1) (u D ws h1)) fun e h1=>D.er e ws h1
def wNx:TWS:=fun D ws h=>D.nx ws h
def Cq (t u:TWS):TWS:=fun D ws h=>t {D with nx:=u D} ws h
noncomputable def pF (f:Str)(v:W):List (Str×W)->List (Str×W)
 |[]=>[(f,v)]
 |(g,x)::r=>if g=f then(g,v)::r else(g,x)::pF f v r
inductive KJ (L:List Nat)(x:W)(h:WH)(k:Addr->Nat->List (Str×W)->Prop):Prop
 |mk (a c fs):x=.ref a->h a=some (.ins c fs)->c∈L->fs.length<1000->k a c fs->KJ L x h k
def SS (L:List Nat)(f:Str)(o v:TWE):TWS:=fun D ws h=>v ws h (fun y h1=>o ws h1 (fun x h2=>KJ L x h2 fun a c fs=>D.nx ws (up h2 a (.ins c (pF f y fs)))) fun e h2=>D.er e ws h2) fun e h1=>D.er e ws h1
inductive SI (h:WH)(w:W):W->W->WH->Prop
 |d {a y h'}:DP h a w y h'->SI h w (.ref a) y h'
def SW (o i v:TWE):TWS:=fun D ws h=>v ws h (fun y h1=>o ws h1 (fun x h2=>i ws h2 (fun z h3=>∃h4,SI h3 y x z h4/\D.nx ws h4) fun e h3=>D.er e ws h3) fun e h2=>D.er e ws h2) fun e h1=>D.er e ws h1
def Ji:WS->List Nat->List W->WS
 |ws,i::is,w::l=>Ji (ws.set i (some w)) is l
 |ws,_,_=>ws
abbrev TWG:=W->WS->(WS->Prop)->Prop
def gN (i:Nat):TWG:=fun x ws k=>k (ws.set i (some x))
def gT (is:List Nat):TWG:=fun x ws k=>∃l,tqW x l/\l.length=is.length/\k (Ji ws is l)
section
variable {b:Bool}{X:Cx}{G:Gm}{e o v c i':Expr}{es:List Expr}{te to tv ti:TWE}{tA:TWT}{t:TWA}{s:Stmt}{ss l m:List Stmt}{tS uS:TWS}{pos p:Pos}{x y f:Str}
def aG:ZSs b X G [] wNx:=⟨fun E a a=>QSs.imp Oc fun D σ H ⟨ws,h,Dw,A,S,ht,u⟩=>u.nx _ _ ht _ _ (ax.rfl' A) S⟩
def aj (hs:ZS b X G s tS):ZSs b X G [s] tS:=⟨fun E hE hR=>Io (hs.out E hE hR)⟩
def af (hs:ZS b X G s tS)(hr:ZSs b X G ss uS):ZSs b X G (s::ss) (Cq tS uS):=⟨fun E hE hR=>QSs.imp (Mw (hs.out E hE hR) (hr.out E hE hR)) fun D σ H ⟨ws,h,Dw,A,S,ht,u⟩=>
 ⟨ws,h,_,A,S,ht,⟨fun ws' h' q σ' H' s S'=>⟨ws',h',Dw,s.rep,S',q,u.mono s⟩,u.rt,u.er,u.bk,u.ct⟩⟩⟩
def ar (he:ZE X G e te):ZS b X G (.Return (some e) pos) (Gd te):=⟨fun E hE a=>QS.imp (RE (he.out E hE)) fun D σ H ⟨ws,h,Dw,A,S,ht,u⟩=>
 bnd A S ht (u.ex S) fun x h1 y H1 q s r=>u.rt _ _ q _ _ s r⟩
def bi (he:ZE X G e te)(hs:swapsWith e none pos.line X.env=pure false:=by rfl):ZS b X G (.Expr e pos) (RY te):=⟨fun E hE a=>QS.imp (Oa (he.out E hE) hs) fun D σ H ⟨ws,h,Dw,A,S,ht,u⟩=>
 bnd A S ht (u.ex S) fun x h1 y H1 q s r=>u.nx _ _ q _ _ s (S.mono s.sm)⟩
def az (i:Nat)(hN:X.N.Nodup)(he:ZE X G e te)(hi:X.N[i]?=some x:=by rfl)(hx:Loc X.env.scope x:=by first|exact .inl rfl|exact .inr rfl)
  (hs:swapsWith e (some (.Name x p)) pos.line X.env=pure false:=by rfl)(hf:X.fn x=true\/X.env.scope.names.lookup x=some .local:=by first|exact .inl rfl|exact .inr rfl):ZS b X G (.Assign [.Name x p] e pos) (JV i te):=
 ⟨fun E hE a=>QS.imp (Bb i hN (he.out E hE) hi hx hs hf) fun D σ H ⟨ws,h,Dw,A,S,ht,u⟩=>bnd A S ht (u.ex S) fun x h1 y H1 q s r=>u.nx _ _ q _ _ s ((S.mono s.sm).set i r)⟩
def aK (hc:ZT X G c tA)(ha:ZSs b X G l tS)(hb:ZSs b X G m uS):ZS b X G (.If c l m pos) (Fe tA tS uS):=⟨fun E hE hR=>QS.imp (Tf (hc.out E hE) (ha.out E hE hR) (hb.out E hE hR)) fun D σ H ⟨ws,h,Dw,A,S,ht,u⟩=>
 bnd A S ht (u.ex S) fun x h1 y H1 q s r=>by
  subst r
  exact Sel.imp q (fun q=>⟨ws,h1,Dw,s.rep,S.mono s.sm,q,u.mono s⟩) fun q=>⟨ws,h1,Dw,s.rep,S.mono s.sm,q,u.mono s⟩⟩
theorem RelKs.putF {K:W.Frag}{Z:Hp}{w:W}{u:V}(r:aI K G Z w u)(f:Str):∀{fs:List (Str×W)}{vs:List (Str×V)},RelKs K G Z fs vs->RelKs K G Z (pF f w fs) (L2.putF f u vs)
 |_,_,.nil=>.cons r .nil
 |_,_,.cons (k:=k) a q=>by
  unfold pF L2.putF
  split
  ·exact .cons r q
  ·exact .cons a (q.putF r f)
theorem GB:∀{fs:List (Str×W)},∀p∈pF f w fs,p.1=f\/∃q∈fs,q.1=p.1
 |[],p,hp=>by rcases tx.mp hp with rfl|hp;exact .inl rfl;cases hp
 |(g,y)::r,p,hp=>by
  unfold pF at hp
  split at hp
  ·rcases tx.mp hp with rfl|hp
   ·exact .inr ⟨_,cW,rfl⟩
   ·exact .inr ⟨p,Vu _ hp,rfl⟩
  ·rcases tx.mp hp with rfl|hp
   ·exact .inr ⟨_,cW,rfl⟩
   ·rcases GB p hp with e|⟨q,hq,e⟩
    ·exact .inl e
    ·exact .inr ⟨q,Vu _ hq,e⟩
def bx {L:List Nat}(ho:ZE X G o to)(hv:ZE X G v tv)(hn:∀c∈L,aH X.K (G.cA c) f){pos':Pos}(hs:swapsWith v (some (.Attribute o f pos')) pos.line X.env=pure false:=by rfl):ZS b X G (.Assign [.Attribute o f pos'] v pos) (SS L f to tv):=
 ⟨fun E hE d=>QS.imp (BP (ho.out E hE) (hv.out E hE) hs) fun D σ H ⟨ws,h,Dw,A,S,ht,u⟩=>bnd A S ht (u.ex S) fun y h1 y' H1 q s r=>
  bnd s.rep (S.mono s.sm) q ((u.mono s).ex (S.mono s.sm)) fun x h2 x' H2 q2 s2 r2=>by
   obtain⟨a,c,fs,rfl,e,hc,hl,q2⟩:=q2
   obtain rfl:=wiv r2
   obtain⟨w,e1,e2⟩:=s2.rep _ _ e
   cases e2 with
   | @ins _ _ dx _ rk ck=>
     have st:=ax.set s2.rep e (.ins (dx:=dx) (rk.putF (r.mono s2.sm) f) ⟨ck.1,fun p hp=>(GB p hp).elim (fun e=>e▸hn c hc) fun⟨q,hq,e⟩=>e▸ck.2 q hq⟩)
     exact⟨a,_,_,_,rfl,e1,ck.1,hn c hc,by rw[<-rk.len];exact hl,u.nx _ _ q2 _ _ ((s.trans s2).trans st) (S.mono ((s.trans s2).trans st).sm)⟩⟩
def rp (hu:X.A.units+1<cLine)(ho:ZE X G o to)(hi:ZE X G i' ti)(he:ZE X G e te)(hs:swapsWithSole [.Subscript o i' p] e pos.line X.env=pure false:=by rfl)(hw:swappedStores [.Subscript o i' p] e X.env=pure none:=by rfl)(ha:∀v,assign (.Subscript o i' p) X.env v=(do let ov<-holding [v] (eval o X.env);let iv<-holding [v,ov] (eval i' X.env);standAt p;holding [v,ov,iv] (setItem ov iv v);release [v,ov,iv] []):=by intro a;rfl):ZS b X G (.Assign [.Subscript o i' p] e pos) (SW to ti te):=
 ⟨fun E hE a=>QS.imp ⟨Ov (he.out E hE).out (PP (ho.out E hE).out (hi.out E hE).out (IR hu) ha) hs hw⟩ fun D σ H ⟨ws,h,Dw,A,S,ht,u⟩=>bnd A S ht (u.ex S) fun y h1 y' H1 q s r=>
  bnd s.rep (S.mono s.sm) q ((u.mono s).ex (S.mono s.sm)) fun x h2 x' H2 q2 s2 r2=>bnd s2.rep (S.mono (s.trans s2).sm) q2 ((u.mono (s.trans s2)).ex (S.mono (s.trans s2).sm)) fun z h3 z' H3 q3 s3 r3=>by
   obtain⟨h4,⟨dp⟩,q4⟩:=q3
   have st:=(s.trans s2).trans s3
   obtain rfl:=wiv r2
   obtain⟨H',p,s4⟩:=dp.put s3.rep r3 (r.mono (s2.trans s3).sm)
   exact⟨_,H',rfl,p,u.nx _ _ q4 _ _ (st.trans s4) (S.mono (st.trans s4).sm)⟩⟩
structure ZG (X:Cx)(G:Gm)(tg:Expr)(g:TWG):Prop where
 ex:∃g',PG X tg g'/\∀{h:WH}{H:Hp}{ws:WS}{σ:L2.St}{w:W}{v:V}{kw:WS->Prop}{k:L2.St->Hp->Prop},bY X.K G (fz h H) ws σ->aI X.K G (fz h H) w v->g w ws kw->(∀ws' σ',kw ws'->bY X.K G (fz h H) ws' σ'->k σ' H)->g' v σ H k
def fb (i:Nat)(hN:X.N.Nodup)(hi:X.N[i]?=some x:=by rfl)(hx:Loc X.env.scope x:=by first|exact .inl rfl|exact .inr rfl)(hf:X.fn x=true\/X.env.scope.names.lookup x=some .local:=by first|exact .inl rfl|exact .inr rfl):ZG X G (.Name x p) (gN i):=
 ⟨_,EB hN hi hx hf,fun S r q k=>k _ _ q (S.set i r)⟩
structure ZGs (X:Cx)(ts:List Expr)(is:List Nat):Prop where
 ex:∃g:TGs,PGs X ts g/\∀{G:Gm}{h:WH}{H:Hp}{ws:WS}{σ:L2.St}{l:List W}{v:List V}{k:L2.St->Hp->Prop},bY X.K G (fz h H) ws σ->RelWs X.K G (fz h H) l v->l.length=is.length->(∀σ',bY X.K G (fz h H) (Ji ws is l) σ'->k σ' H)->g v σ H k
def Sz:ZGs X [] []:=⟨_,MA,fun S r hl k=>by cases r;exact⟨rfl,k _ S⟩;injection hl⟩
def Hj (i:Nat)(hN:X.N.Nodup)(hr:ZGs X ts is)(hi:X.N[i]?=some x:=by rfl)(hx:Loc X.env.scope x:=by first|exact .inl rfl|exact .inr rfl)(hf:X.fn x=true\/X.env.scope.names.lookup x=some .local:=by first|exact .inl rfl|exact .inr rfl)
  (hs:(assignEach (.Name x p::ts) X.env).map (·.2)=assign (.Name x p) X.env::(assignEach ts X.env).map (·.2):=by rfl):ZGs X (.Name x p::ts) (i::is):=by
 obtain⟨g,pg,hg⟩:=hr.ex
 refine⟨_,IW (EB hN hi hx hf) pg hs,fun S r hl k=>?_⟩
 cases r with
 |nil=>injection hl
 |cons a r=>exact⟨_,_,rfl,hg (S.set i a) r (ZM hl) k⟩
def SL {is:List Nat}(hc:X.calm=true)(hr:ZGs X ts is)(hn:(assignEach ts X.env).length=is.length:=by rfl)(hst:(assignEach ts X.env).findIdx? (·.1)=none:=by rfl):ZG X G (.Tuple ts k pos) (gT is):=by
 obtain⟨g,pg,hg⟩:=hr.ex
 refine⟨_,Qk hc pg hn hst,fun S r q k=>?_⟩
 obtain⟨l,i,hl,q⟩:=q
 obtain⟨a,vs,rfl,e1,r⟩:=i.rel r
 exact⟨a,vs,rfl,e1,by rw[<-r.len,hl],hg S r hl fun σ' S'=>k _ _ q S'⟩
def whW (c:TWT)(t:TWS):Nat->TWS
 |0=>fun a a a=>False
 |n+1=>fun D ws h=>c ws h (fun b h1=>Sel b (t {D with nx:=whW c t n D,ct:=whW c t n D,bk:=D.nx} ws h1) (D.nx ws h1)) fun e h1=>D.er e ws h1
def wWh (c:TWT)(t:TWS):TWS:=fun D ws h=>∃n,whW c t n D ws h
def tu (hc:ZT X G c tA)(hb:ZSs b X G l tS)(hp:aaY (model X.prog X.w) X.A X.env X.xe):ZS b X G (.While c l [] pos) (wWh tA tS):=
 ⟨fun E hE hR=>QS.imp (LU (hc.out E hE) (hb.out E hE hR) hp) fun D σ H ⟨ws,h,Dw,A,S,⟨n,ht⟩,u⟩=>by
  refine⟨fun m σ' H'=>∃ws' h',ax X.K G h H h' H'/\bY X.K G (fz h' H') ws' σ'/\whW tA tS m Dw ws' h',⟨n,ws,h,ax.rfl' A,S,ht⟩,fun m σ1 H1 ⟨ws1,h1,s1,S1,q⟩=>?_⟩
  cases m with
  |zero=>exact q.elim
  |succ m=>
   refine bnd s1.rep S1 q ((u.mono s1).ex S1) fun x h2 y H2 q2 s2 r=>?_
   subst r
   have st:=s1.trans s2
   have q2:=dS q2
   cases x with
   |false=>exact u.nx _ _ q2 _ _ st (S1.mono s2.sm)
   |true=>
    refine⟨fun σ' H'=>∃ws' h',ax X.K G h H h' H'/\bY X.K G (fz h' H') ws' σ'/\whW tA tS m Dw ws' h',fun σ' H' z=>⟨m,Wx _,z⟩,ws1,h2,_,s2.rep,S1.mono s2.sm,q2,⟨?_,(u.mono st).rt,(u.mono st).er,(u.mono st).nx,?_⟩⟩
    ·exact fun ws' h' q σ' H' s S'=>⟨ws',h',st.trans s,S',q⟩
    ·exact fun ws' h' q σ' H' s S'=>⟨ws',h',st.trans s,S',q⟩⟩
end
structure ItW where
 its:List W
 gd:WH->Prop
abbrev TWI:=WS->WH->(ItW->WH->Prop)->WX->Prop
structure sN (K:W.Frag)(G:Gm)(h0:WH)(H0:Hp)(iw:ItW)(J:It):Prop where
 go:∀h H i,ax K G h0 H0 h H->iw.gd h->i<iw.its.length->J.go i H
 yl:∀h H i w x H',ax K G h0 H0 h H->iw.gd h->iw.its[i]?=some w->J.yld i H x H'->ax K G h H h H'/\aI K G (fz h H') w x
 st:∀h H,ax K G h0 H0 h H->iw.gd h->J.stop iw.its.length H
inductive LI0 (K:W.Frag)(G:Gm)(t:TWI)(E:L2.St->XK)(σ:L2.St)(H:Hp)(R:It->Hp->Prop):Prop
 |mk (ws:WS) (h:WH) (Qw:ItW->WH->Prop) (Xw:WX):Rep K G h H->bY K G (fz h H) ws σ->t ws h Qw Xw->(∀iw h',Qw iw h'->∀J H',ax K G h H h' H'->sN K G h' H' iw J->R J H')->(∀e h',Xw e h'->uX K G h H (E σ) e h')->LI0 K G t E σ H R
def lI (K:W.Frag)(G:Gm)(t:TWI)(E:L2.St->XK):TI:=fun σ H R=>LI0 K G t E σ H R
structure ZI (X:Cx)(G:Gm)(tg iter:Expr)(t:TWI):Prop where
 out:∀E,di (CX1 X.prog X.w) X E->QI X tg iter (lI X.K G t E)
def QI.imp (h:QI X tg e t)(i:∀σ H Q,t' σ H Q->t σ H Q):QI X tg e t':=⟨fun pins s σ H Q I q=>h.out pins s σ H Q I (i σ H Q q)⟩
def Rj (a:TWE):TWI:=fun ws h Q X=>a ws h (fun x h1=>match x with
 |.str z=>z.cps.all (·<128)=true/\Q ⟨z.cps.toList.map fun c=>.str ⟨#[c]⟩,fun b=>True⟩ h1
 |.tup l=>Q ⟨l,fun b=>True⟩ h1
 |.kt l=>Q ⟨l,fun b=>True⟩ h1
 |.fl l=>Q ⟨l,fun b=>True⟩ h1
 |.sl l=>Q ⟨l,fun b=>True⟩ h1
 |.ref a=>∃l,h1 a=some (.lst l)/\Q ⟨l,fun h=>h a=some (.lst l)⟩ h1
 |_=>False) X
def Sy (t:TWA):TWI:=fun ws h Q X=>t ws h (fun l h1=>∃j:Int,l=[.int j]/\ -(2^62)<=j/\j<2^62/\Q ⟨(WJ j.toNat).map fun(k:Nat)=>.int k,fun a=>True⟩ h1) X
def Th (t:TWA):TWI:=fun ws h Q X=>t ws h (fun l h1=>∃i j:Int,l=[.int i,.int j]/\(-(2^62)<=i/\i<2^62/\ -(2^62)<=j/\j<2^62)/\Q ⟨(WJ (j- i).toNat).map fun(k:Nat)=>.int (i+k),fun a=>True⟩ h1) X
def Tw (t:TWA):TWI:=fun ws h Q X=>t ws h (fun l h1=>∃m,l=[.fl m]/\Q ⟨m.reverse,fun a=>True⟩ h1) X
def Cc:List W->List W->List W
 |a::l,b::m=>.tup [a,b]::Cc l m
 |_,_=>[]
section
variable {K:W.Frag}{G:Gm}{h:WH}{H:Hp}
def Ip (e:SqT K (fz h H) a vs)(r:RelWs K G (fz h H) l vs):sN K G h H ⟨l,fun b=>True⟩ (Itt K a)where
 go:=fun h2 H2 i s b hi=>⟨vs,vs[i]'(by rw[<-r.len];exact hi),SqT.up aV (SqT.up s.sm e),Dc _⟩
 yl:=fun h2 H2 i w x H' s b e1 y=>by
  obtain⟨rfl,y⟩:=y
  have:=y vs (SqT.up aV (SqT.up s.sm e))
  obtain⟨u,e2,r2⟩:=r.get e1
  rw[this]at e2;obtain rfl:=VR e2
  exact⟨ax.rfl' s.rep,r2.mono s.sm⟩
 st:=fun h2 H2 s b=>⟨vs,SqT.up aV (SqT.up s.sm e),by rw[<-r.len];exact sn _⟩
def HY (e:SqL K (fz h H) a vs)(r:RelWs K G (fz h H) l vs):sN K G h H ⟨l,fun b=>True⟩ (Itl K a)where
 go:=fun h2 H2 i s b hi=>⟨vs,vs[i]'(by rw[<-r.len];exact hi),SqL.up aV (SqL.up s.sm e),Dc _⟩
 yl:=fun h2 H2 i w x H' s b e1 y=>by
  obtain⟨rfl,y⟩:=y
  have:=y vs (SqL.up aV (SqL.up s.sm e))
  obtain⟨u,e2,r2⟩:=r.get e1
  rw[this]at e2;obtain rfl:=VR e2
  exact⟨ax.rfl' s.rep,r2.mono s.sm⟩
 st:=fun h2 H2 s b=>⟨vs,SqL.up aV (SqL.up s.sm e),by rw[<-r.len];exact sn _⟩
def MV:sN K G h H ⟨l,fun h=>h a=some (.lst l)⟩ (Itl K a)where
 go:=fun h2 H2 i s g hi=>by
  obtain⟨u,e1,e2⟩:=s.rep _ _ g
  cases e2 with| @lst _ vs r=>exact⟨vs,vs[i]'(by rw[<-r.len];exact hi),SqL.of e1,Dc _⟩
 yl:=fun h2 H2 i w x H' s g e1 y=>by
  obtain⟨rfl,y⟩:=y
  obtain⟨u,q1,q2⟩:=s.rep _ _ g
  cases q2 with
  | @lst _ vs r=>
    obtain⟨u,e2,r2⟩:=r.get e1
    rw[y vs (SqL.of q1)]at e2;obtain rfl:=VR e2
    exact⟨ax.rfl' s.rep,r2⟩
 st:=fun h2 H2 s g=>by
  obtain⟨u,e1,e2⟩:=s.rep _ _ g
  cases e2 with| @lst _ vs r=>exact⟨vs,SqL.of e1,by rw[<-r.len];exact sn _⟩
def Ho {lo:Int}{n:Nat}:sN K G h H ⟨(WJ n).map fun(k:Nat)=>.int (lo+k),fun a=>True⟩ (Itr lo n)where
 go:=fun h2 H2 i s a hi=>by show i<n;simpa using hi
 yl:=fun h2 H2 i w x H' s a e1 y=>by
  obtain⟨rfl,rfl⟩:=y
  rw[VG]at e1
  have hi:i<n:=by
   rcases Xf i n with z|z
   ·exact z
   ·rw[Wa (by simpa using z)]at e1;injection e1
  rw[List.getElem?_range hi]at e1
  obtain rfl:=VR e1
  exact⟨ax.rfl' s.rep,.int _⟩
 st:=fun h2 H2 s a=>by show n<=_;simp
end
section
variable {X:Cx}{G:Gm}{tg e:Expr}{te:TWE}{t:TWA}{pos p:Pos}{a c:Expr}
def lI.mk {K:W.Frag}{h h1:WH}{H H1:Hp}{Qw:ItW->WH->Prop}{R:It->Hp->Prop}{iw:ItW}{J:It}(hQ:∀iw h',Qw iw h'->∀J H',ax K G h H h' H'->sN K G h' H' iw J->R J H')(s:ax K G h H h1 H1)(q:Qw iw h1)(i:sN K G h1 H1 iw J):R J H1:=hQ _ _ q _ _ s i
def fJ (he:ZE X G e te):ZI X G tg e (Rj te):=⟨fun E hE=>QI.imp (QH (he.out E hE)) fun σ H R ⟨ws,h,Qw,Xw,A,S,ht,hQ,hX⟩=>bnd A S ht hX fun x h1 y H1 q s r=>by
 cases r with
 |str z=>
  refine⟨q.1,lI.mk hQ s q.2 ⟨fun h2 H2 i s b hi=>?_,fun h2 H2 i w x H' s b e1 y=>?_,fun h2 H2 s b=>?_⟩⟩
  ·show i<z.cps.size;simpa using hi
  ·obtain⟨rfl,c,e2,rfl⟩:=y
   rw[VG]at e1
   rw[show z.cps.toList[i]? =z.cps[i]? from by simp,e2]at e1
   obtain rfl:=VR e1
   exact⟨ax.rfl' s.rep,.str _⟩
  ·show z.cps.size<=_;simp
 |tup e r=>exact⟨_,rfl,.inr ⟨⟨_,SqT.of (aV _ _ e)⟩,lI.mk hQ s q (Ip (SqT.of e) r)⟩⟩
 |kt e r=>exact⟨_,rfl,.inr ⟨⟨_,SqT.up aV e⟩,lI.mk hQ s q (Ip e r)⟩⟩
 |fl e r=>exact⟨_,rfl,.inl ⟨⟨_,SqL.of (aV _ _ e)⟩,lI.mk hQ s q (HY (SqL.of e) r)⟩⟩
 |sl e r=>exact⟨_,rfl,.inl ⟨⟨_,SqL.up aV e⟩,lI.mk hQ s q (HY e r)⟩⟩
 |ref a=>
  obtain⟨l,e,q⟩:=q
  obtain⟨u,e1,e2⟩:=s.rep _ _ e
  obtain⟨b,rfl,r⟩:=oiv e2;exact⟨_,rfl,.inl ⟨⟨_,SqL.of e1⟩,lI.mk hQ s q MV⟩⟩
 |_=>exact q.elim⟩
def xu (hm:X.mg "range"=none)(ha:ZA X G [a] t)(hg:Gl X "range":=by rfl)(hs:bo a=true:=by rfl):ZI X G tg (.Call (.Name "range" p) [a] [] pos) (Sy t):=⟨fun E hE=>QI.imp (Jn hm (ha.out E hE) hg hs) fun σ H R ⟨ws,h,Qw,Xw,A,S,ht,hQ,hX⟩=>bnd A S ht hX fun x h1 y H1 q s r=>by
 obtain⟨j,rfl,b1,b2,q⟩:=q
 obtain⟨b,b,rfl,r1,r2⟩:=wic r
 obtain rfl:=wiv r1;obtain rfl:=wic r2
 have i:=Ho (K:=X.K) (G:=G) (h:=h1) (H:=H1) (lo:=0) (n:=j.toNat)
 simp only[Int.zero_add]at i
 exact⟨j,rfl,b1,b2,lI.mk hQ s q i⟩⟩
def NU (hm:X.mg "range"=none)(ha:ZA X G [a,c] t)(hg:Gl X "range":=by rfl)(hs:bo a=true:=by rfl)(hs2:bo c=true:=by rfl):ZI X G tg (.Call (.Name "range" p) [a,c] [] pos) (Th t):=⟨fun E hE=>QI.imp (Jl hm (ha.out E hE) hg hs hs2) fun σ H R ⟨ws,h,Qw,Xw,A,S,ht,hQ,hX⟩=>bnd A S ht hX fun x h1 y H1 q s r=>by
 obtain⟨i,j,rfl,b,q⟩:=q
 obtain⟨d,d,rfl,r1,r2⟩:=wic r;cases r2 with|cons r2 r3=>
  obtain rfl:=wiv r1;obtain rfl:=wiv r2;obtain rfl:=wic r3
  exact⟨i,j,rfl,b,lI.mk hQ s q Ho⟩⟩
def Tc (K:W.Frag)(t:TA):TI:=fun σ H R=>t σ H fun vs H1=>∃c xs,vs=[.ref c]/\SqL K H1 c xs/\R (Pg K c xs.length) H1
def OL {t:TA}(hm:X.mg "reversed"=none)(ha:QA X [a] t)(hg:Gl X "reversed")(hs:aM [a]=true):QI X tg (.Call (.Name "reversed" p) [a] [] pos) (Tc X.K t):=⟨fun pins s σ H R I h=>by
 have h':(bo a&&aM [])=true:=hs
 refine Wn (fF I hg hm uK ?_ (by decide) (by decide))
 refine We (thn (ha.out pos pins s σ H _ I h) fun us s1 ⟨vs,H1,I1,r1,q1⟩=>?_)
  (aQ (Gn.mp h').1 [] X.env) (bI (Gn.mp h').2)
 obtain⟨c,xs,rfl,hq,q⟩:=q1
 obtain⟨u,rfl,ru⟩:=eC r1
 subst ru
 obtain⟨its,rv,p,hz⟩:=I1.list hq
 have hl:=rv.length
 refine acv p.isList ?_
 have st:(s1.heap.push (revObj c ((its.toArray.size:Int)- 1))).IsRevIter s1.heap.objs.size c ((xs.length:Int)- 1- ((0:Nat):Int)):=by
  refine⟨_,Vr _ rfl,rfl,?_⟩
  have e:(xs.length:Int)- 1- ((0:Nat):Int)=(its.toArray.size:Int)- 1:=by rw[Vv];lia
  rw[e];rfl
 refine ab9 (s:={s1 with heap:=s1.heap.push (revObj c ((its.toArray.size:Int)- 1))}) st ?_
 refine⟨s1.heap.objs.size,[s1.heap.objs.size],_,_,H1,rfl,I1.kept (t':=s1.toks) fun b o e=>gV _ e,Hc c _ xs.length,⟨VW _,st⟩,fun b hb=>?_,q⟩
 have e:b=s1.heap.objs.size:=by simpa using hb
 subst e
 exact I1.fpOk (sn _) (I1.hok.fresh (sn _))⟩
def SO (hm:X.mg "reversed"=none)(ha:ZA X G [a] t)(hg:Gl X "reversed":=by rfl)(hs:aM [a]=true:=by rfl):ZI X G tg (.Call (.Name "reversed" p) [a] [] pos) (Tw t):=⟨fun E hE=>QI.imp (OL hm (ha.out E hE) hg hs) fun σ H R ⟨ws,h,Qw,Xw,A,S,ht,hQ,hX⟩=>bnd A S ht hX fun x h1 y H1 q s r=>by
 obtain⟨m,rfl,q⟩:=q
 replace r:=wic r
 obtain⟨b,b,rfl,r1,r2⟩:=r
 obtain rfl:=wic r2
 cases r1 with
 | @fl _ vs a e r=>
   refine⟨_,vs,rfl,SqL.of (aV _ _ e),lI.mk hQ s q ⟨fun h2 H2 i s b hi=>⟨by rw[<-r.len];simpa using hi,vs,SqL.of (aV _ _ (s.sm _ _ e)),rfl⟩,fun h2 H2 i w x H' s b e1 y=>?_,fun h2 H2 s b=>?_⟩⟩
   ·obtain⟨rfl,y⟩:=y
    have y:=y vs (SqL.of (aV _ _ (s.sm _ _ e)))
    obtain⟨u,e2,r2⟩:=r.rev.get e1
    have hi:i<vs.length:=by
     rcases Xf i vs.length with z|z
     ·exact z
     ·rw[Wa (by simpa[r.len]using z)]at e1;injection e1
    rw[aa9 hi,y]at e2;obtain rfl:=VR e2
    exact⟨ax.rfl' s.rep,r2.mono s.sm⟩
   ·show vs.length<=_;rw[<-r.len];simp⟩
end
def sJ (g:TWG)(t:TWS)(gd:WH->Prop):List W->TWS
 |[]=>fun D ws h=>D.nx ws h
 |x::r=>fun D ws h=>g x ws fun ws'=>t {D with nx:=fun ws h=>gd h/\sJ g t gd r D ws h,ct:=fun ws h=>gd h/\sJ g t gd r D ws h,bk:=D.nx} ws' h
def Uo (wi:TWI)(g:TWG)(t:TWS):TWS:=fun D ws h=>wi ws h (fun iw h1=>iw.gd h1/\sJ g t iw.gd iw.its D ws h1) fun e h1=>D.er e ws h1
section
variable {b:Bool}{X:Cx}{G:Gm}{tg iter:Expr}{wi:TWI}{g:TWG}{tS:TWS}{body:List Stmt}{pos:Pos}
def fI (hg:ZG X G tg g)(hi:ZI X G tg iter wi)(hb:ZSs b X G body tS)(hp:aaY (model X.prog X.w) X.A X.env X.xe)(hc:X.calm=true:=by rfl)(hs:∀x,foldedSetIterable iter X.env x=pure x:=by intro a;rfl):ZS b X G (.For tg iter body [] pos) (Uo wi g tS):=by
 obtain⟨g',pg,hg⟩:=hg.ex
 refine⟨fun E hE hR=>QS.imp ⟨PU hp hc (hi.out E hE).out pg (hb.out E hE hR).out hs⟩ fun D σ H ⟨ws,h,Dw,A,S,ht,u⟩=>⟨ws,h,_,_,A,S,ht,fun iw h1 q J H1 s io=>?_,u.ex S⟩⟩
 refine⟨fun i m σ' H'=>∃ws' h',ax X.K G h1 H1 h' H'/\bY X.K G (fz h' H') ws' σ'/\iw.gd h'/\i+m=iw.its.length/\sJ g tS iw.gd (iw.its.drop i) Dw ws' h',⟨_,ws,h1,ax.rfl' s.rep,S.mono s.sm,q.1,XJ _,q.2⟩,fun i m σ1 H2 ⟨ws1,h2,s2,S1,gd,hm,f⟩=>?_⟩
 have st:=s.trans s2
 cases m with
 |zero=>
  obtain rfl:i=iw.its.length:=hm
  rw[ab5]at f
  exact .inl ⟨io.st _ _ s2 gd,u.nx _ _ f _ _ st S1⟩
 |succ m=>
  have hi':i<iw.its.length:=by lia
  rw[YO hi']at f
  refine .inr ⟨io.go _ _ i s2 gd hi',fun σ' H'=>∃ws' h',ax X.K G h1 H1 h' H'/\bY X.K G (fz h' H') ws' σ'/\iw.gd h'/\i+1+m=iw.its.length/\sJ g tS iw.gd (iw.its.drop (i+1)) Dw ws' h',fun σ' H' z=>⟨m,Wx _,z⟩,fun x H3 y=>?_⟩
  obtain⟨s3,r3⟩:=io.yl _ _ i _ x H3 s2 gd (Dc hi') y
  refine hg (S1.mono s3.sm) r3 f fun ws' σ' q S'=>?_
  have st3:=st.trans s3
  exact⟨ws',h2,_,s3.rep,S',q,fun ws4 h4 q σ4 H4 s4 S4=>⟨ws4,h4,(s2.trans s3).trans s4,S4,q.1,by lia,q.2⟩,(u.mono st3).rt,(u.mono st3).er,(u.mono st3).nx,fun ws4 h4 q σ4 H4 s4 S4=>⟨ws4,h4,(s2.trans s3).trans s4,S4,q.1,by lia,q.2⟩⟩
end
noncomputable def pd (ws:WS)(is:List Nat):WS:=is.map fun i=>(ws[i]?).getD none
def X0:WX:=fun a a=>False
def vI (tc:TWT)(te:TWE)(cp:WS)(gd:WH->Prop)(p:Addr)(Q:WQ):List W->List W->List V->WH->Prop
 |[],acc,_,h=>Q (.ref p) (up h p (.lst acc))\/∃h',Sub h' h/\h' p=none/\Q (.fl acc) h'
 |x::r,acc,u,h=>tc (some x::cp) h (fun b h1=>Sel b (te (some x::cp) h1 (fun w h2=>h2 p=some (.opq u)/\acc.length<sizeLine/\∀u',gd (up h2 p (.opq u'))/\vI tc te cp gd p Q r (acc++[w]) u' (up h2 p (.opq u'))) X0) (gd h1/\h1 p=some (.opq u)/\vI tc te cp gd p Q r acc u h1)) X0
def Ba (is:List Nat)(wi:TWI)(tc:TWT)(te:TWE):TWE:=fun ws h Q X=>wi ws h (fun iw h1=>∀p u,h1 p=none->iw.gd (up h1 p (.opq u))/\vI tc te (pd ws is) iw.gd p Q iw.its [] u (up h1 p (.opq u))) X
def wTt:TWT:=fun a h Q a=>Q true h
section
variable {K:W.Frag}{G:Gm}{h h1:WH}{H H1:Hp}{ws:WS}{σ:L2.St}
def bY.cap (S:bY K G Z ws σ)(is:List Nat)(r:aI K G Z w v):bY K G Z (some w::pd ws is) (some v::bC σ is):=by
 refine⟨by simp[pd,bC],fun i x e=>?_⟩
 cases i with
 |zero=>cases e;exact⟨v,rfl,r⟩
 |succ i=>
  have e:(pd ws is)[i]? =some (some x):=by simpa using e
  unfold pd at e
  rw[VG]at e
  cases q:is[i]? with
  |none=>rw[q]at e;injection e
  |some j=>
   rw[q]at e
   have e:(ws[j]?).getD none=some x:=VR e
   cases q2:ws[j]? with
   |none=>rw[q2]at e;injection e
   |some y=>
    rw[q2]at e
    have e:y=some x:=e
    subst e
    obtain⟨u,e1,r1⟩:=S.at_ j x q2
    exact⟨u,by show(bC σ is)[i]? =_;unfold bC;rw[VG,q];show some ((σ[j]?).getD none)=_;rw[e1];rfl,r1⟩
def KO:∀e h',X0 e h'->uX K G h H E e h':=fun a a q=>q.elim
def Nk {is:List Nat}(hc:∀σ H Q,lT K G tc (fun c=>E0) σ H Q->tc' σ H Q)(he:∀σ H Q,lE K G te (fun c=>E0) σ H Q->te' σ H Q){iw:ItW}{J:It}{Qw:WQ}{Q:VK}(A:Rep K G h1 H1)(S:bY K G (fz h1 H1) ws σ)
  (q:∀p u,h1 p=none->iw.gd (up h1 p (.opq u))/\vI tc te (pd ws is) iw.gd p Qw iw.its [] u (up h1 p (.opq u)))(hQ:∀w h',Qw w h'->uQ K G h1 H1 Q w h')(io:sN K G h1 H1 iw J){D:Addr}(hD:H1 D=none):Ks is tc' te' σ D J H1 Q:=by
 obtain⟨gd0,q⟩:=q D [] (A.new hD)
 refine⟨fun i m ys H2=>∃h2 acc,ax K G h1 H1 h2 H2/\iw.gd h2/\h2 D=some (.opq ys)/\RelWs K G (fz h2 H2) acc ys/\i+m=iw.its.length/\vI tc te (pd ws is) iw.gd D Qw (iw.its.drop i) acc ys h2,⟨_,_,[],ax.new A hD (.opq _),gd0,ao,.nil,XJ _,q⟩,fun i m ys H2 ⟨h2,acc,s2,gd,eD,rl,hm,f⟩=>?_⟩
 have at_:∀{h:WH}{H:Hp}{u:List V},Rep K G h H->h D=some (.opq u)->H D=some (.lst u):=fun A e=>by
  obtain⟨u,e1,e2⟩:=A _ _ e
  cases e2;exact e1
 cases m with
 |zero=>
  obtain rfl:i=iw.its.length:=hm
  rw[ab5]at f
  refine .inl ⟨io.st _ _ s2 gd,?_⟩
  rcases f with f|⟨h',sb,n,f⟩
  ·have s3:ax K G h2 H2 (up h2 D (.lst acc)) H2:=by
    have fe:fz (up h2 D (.lst acc)) H2=fz h2 H2:=by
     funext b
     by_cases z:b=D
     ·subst z;rw[tM ao,tM eD]
     ·unfold fz;rw[ag z]
    refine⟨fun a o e=>?_,by rw[fe];exact fun c c e=>e⟩
    rw[fe]
    by_cases z:a=D
    ·subst z;rw[ao]at e;obtain rfl:=VR e;exact⟨_,at_ s2.rep eD,.lst rl⟩
    ·rw[ag z]at e;exact s2.rep a o e
   exact hQ _ _ f _ _ (s2.trans s3) (.ref D)
  ·have s3:=ax.cut s2.rep sb
   exact hQ _ _ f _ _ (s2.trans s3) (.fl (by rw[bB n];exact at_ s2.rep eD) (rl.mono s3.sm))
 |succ m=>
  have hi:i<iw.its.length:=by lia
  rw[YO hi]at f
  refine .inr ⟨io.go _ _ i s2 gd hi,fun x H3 y=>?_⟩
  obtain⟨s3,r3⟩:=io.yl _ _ i _ x H3 s2 gd (Dc hi) y
  have st:=s2.trans s3
  have S3:=(S.mono st.sm).cap is r3
  refine hc _ _ _ (bnd s3.rep S3 f KO fun b h4 b' H4 q4 s4 eb=>?_)
  subst eb
  have q4:=dS q4
  cases b with
  |false=>
   obtain⟨g4,e4,q4⟩:=q4
   exact⟨m,Wx _,h4,acc,st.trans s4,g4,e4,rl.mono (s3.trans s4).sm,by lia,q4⟩
  |true=>
   refine he _ _ _ (bnd s4.rep (S3.mono s4.sm) q4 KO fun w h5 y H5 q5 s5 r5=>?_)
   obtain⟨e5,hl,q5⟩:=q5
   have st5:=(s3.trans s4).trans s5
   have s6:=ax.set (o:=.opq (ys++[y])) (u:=.lst (ys++[y])) s5.rep e5 (.opq _)
   exact⟨at_ s5.rep e5,by rw[<-rl.len];exact hl,m,Wx _,_,acc++[w],(s2.trans st5).trans s6,(q5 (ys++[y])).1,ao,(((rl.mono st5.sm).app (.cons r5 .nil)).mono s6.sm),by lia,(q5 (ys++[y])).2⟩
end
structure ZF (X:Cx)(G:Gm)(scope:Scope)(N:List Str)(ifs:List Expr)(t:TWT):Prop where
 ex:∃tc',(∀C s H fp,Fk (bw X scope C N s H fp) ifs tc')/\∀σ H Q,lT X.K G t (fun _=>E0) σ H Q->tc' σ H Q
section
variable {b:Bool}{X:Cx}{G:Gm}{e c elt iter:Expr}{te:TWE}{tA tcn:TWT}{wi:TWI}{ifs:List Expr}{scope:Scope}{x y:Str}{N ys:List Str}{is:List Nat}{px py pos spos:Pos}
def Fl:ZF X G scope N [] wTt:=⟨_,fun C s H fp=>QF,fun σ H Q ⟨ws,h,Qw,Xw,A,S,ht,hQ,hX⟩=>hQ _ _ ht _ _ (ax.rfl' A) rfl⟩
def Ku (hc:∀C s H fp,ZT (bw X scope C N s H fp) G c tA):ZF X G scope N [c] tA:=⟨_,fun C s H fp=>MB ((hc C s H fp).out _ oM),fun σ H Q q=>q⟩
def RB {K:W.Frag}{tc':TT}(hc:∀σ H Q,lT K G tcn (fun a=>E0) σ H Q->tc' σ H Q){E:L2.St->XK}{σ:L2.St}{H:Hp}{Q:VK}(z:lE K G (Ba is wi tcn te) E σ H Q):FR is (lI K G wi E) tc' (lE K G te fun a=>E0) σ H Q:=by
 obtain⟨ws,h,Qw,Xw,A,S,ht,hQ,hX⟩:=z
 exact⟨ws,h,_,Xw,A,S,ht,fun iw h1 q J H1 s io D hD=>Nk hc (fun a a a q=>q) s.rep (S.mono s.sm) q (hQ1 s hQ) io hD,hX⟩
def nJ (CS:iB scope x ys)(hcap:kD X scope ys is)(hi:ZI X G (.Name x px) iter wi)(hif:ZF X G scope (x::ys) ifs tcn)(he:∀C s H fp,ZE (bw X scope C (x::ys) s H fp) G elt te)(hc:X.calm=true:=by rfl)
  (hs:∀x,foldedSetIterable iter X.env x=pure x:=by intro a;rfl):ZE X G (.ListComp elt [⟨.Name x px,iter,ifs,0⟩] scope pos) (Ba is wi tcn te):=by
 obtain⟨tc',h1,h2⟩:=hif.ex
 exact⟨fun E hE=>QE.imp (NS (te:=lE X.K G te fun a=>E0) CS hcap (hi.out E hE) h1 (fun C s H fp=>(he C s H fp).out _ oM) hc hs) fun a a a=>RB h2⟩
end
abbrev TWH:=zt->WS->Er->WH->Prop
abbrev JJ:=List (Nat×Nat×Bool)
def Er.val (e:Er):W:=.exc e.c (if e.dr=true then none else e.fs)
noncomputable def qZ (n:Nat)(l:List W):WS:=l.map some++Yn (n- l.length) none
def GQ {K:W.Frag}{G:Gm}{Z:Hp}{N:List Str}{l:List W}{v:List V}(r:RelWs K G Z l v):bY K G Z (qZ N.length l) (L2.du N v):=by
 refine⟨by simp[qZ,L2.du,r.len],fun i w e=>?_⟩
 unfold qZ at e
 rcases Xf i l.length with hi|hi
 ·rw[Wq (by simpa using hi),VG]at e
  cases q:l[i]? with
  |none=>rw[q]at e;injection e
  |some w'=>
   rw[q]at e;cases e
   obtain⟨u,e1,e2⟩:=r.get q
   exact⟨u,by unfold L2.du;rw[Wq (by rw[Vy,<-r.len];exact hi),VG,e1];rfl,e2⟩
 ·rw[WR (by simpa using hi)]at e
  rw[Ya]at e
  split at e<;>cases e
def xE (Q:WQ)(X:WX):zt:={nx:=fun a h=>Fz Q .non h,rt:=Fz Q,er:=fun e a h=>Xs X e h}
def dA {α:Type}(P:α->Prop):List α->Prop
 |[]=>True
 |x::l=>P x/\dA P l
theorem dA.m {α:Type}{P:α->Prop}:∀{l:List α},dA P l->∀p∈l,P p
 |_::_,h,p,hp=>by
  rcases tx.mp hp with rfl|hp
  ·exact h.1
  ·exact dA.m h.2 p hp
def lV {P:VM}{w:Wm}{K:W.Frag}{mg:Str->Option pz}{base:Heap}{CX:CXT}{k:Nat}{f:Addr}{fd:Gt}{ps:List Str}{G:Gm}{sp:WP}(h:∀l h Q X,¬sp l h Q X):cy P w K mg base CX k f fd ps (lP K G sp):=
 ⟨fun vs H Q E ⟨_,_,_,_,_,_,q,_,_⟩=>(h _ _ _ _ q).elim,fun _ _ _ H _ _ vs Q E _ _ _ _ ⟨_,_,_,_,_,_,q,_,_⟩=>(h _ _ _ _ q).elim⟩
def tb3 (x y z:Addr):WH:=fun a=>if a=x\/a=y\/a=z then some (.tbl #[])else none
def JH {K:W.Frag}{G:Gm}{sp:WP}{H:Hp}{a x y z:Addr}{ns:List Int}(hl:ns.length<=63)(hS:SqL K H a (ns.map V.int))(hx:H x=some (.tbl #[]))(hy:H y=some (.tbl #[]))(hz:H z=some (.tbl #[])){P:Prop}(_:P)
  (q:sp [.sl (ns.map .int)] (tb3 x y z) (fun w _=>w=.bl true) (fun _ _=>False):=by exact⟨ns,rfl,hl,rfl,fun _=>rfl⟩):lP K G sp [.ref a] H (fun v _=>v=.bl true) fun _ _ _=>False:=by
 have tb:∀b o,tb3 x y z b=some o->H b=some (.tbl #[])/\o=.tbl #[]:=fun b o e=>by
  unfold tb3 at e;split at e
  ·rename_i h;obtain rfl:=VR e;rcases h with rfl|rfl|rfl
   ·exact⟨hx,rfl⟩
   ·exact⟨hy,rfl⟩
   ·exact⟨hz,rfl⟩
  ·injection e
 have no:∀b u,H b=some u->(∀t,u≠.tbl t)->fz (tb3 x y z) H b=some u:=fun b u e n=>by
  rw[bB];exact e
  cases q:tb3 x y z b with
  |none=>rfl
  |some o=>rw[(tb b o q).1]at e;obtain rfl:=VR e;exact absurd rfl (n _)
 refine⟨[.sl (ns.map .int)],tb3 x y z,_,_,fun b o e=>?_,.cons (.sl ?_ CB) .nil,q,(fun w h' e v H' s r=>by subst e;obtain rfl:=wiv r;rfl),fun _ _ z=>z.elim⟩
 ·obtain⟨e1,rfl⟩:=tb b o e
  exact⟨_,e1,.tbl _⟩
 ·rcases hS with(r|⟨o,r⟩)|r
  ·exact .inl (.inl (no _ _ r nofun))
  ·exact .inl (.inr ⟨o,no _ _ r nofun⟩)
  ·exact .inr r
def fX (n:Nat)(l c:List W):WS:=l.map some++(Yn (n- l.length- c.length) none++c.map some)
section
variable {X:Cx}{G:Gm}{K:W.Frag}{h:WH}{H H':Hp}
def Tz (a:TWE):TWE:=fun ws h Q X=>a ws h (fun x h1=>match x with
 |.int i=>i.natAbs.log2<1920/\Q (.str (toString i)) h1
 |.str z=>z.length<=sizeLine/\Q (.str z) h1
 |_=>False) X
def ET (he:ZE X G e te):ZE X G (.FormattedValue e (-1) none pos) (Tz te):=⟨fun E hE=>QE.imp (Ri (he.out E hE)) fun σ H Q ⟨ws,h,Qw,Xw,A,S,ht,hQ,hX⟩=>bnd A S ht hX fun x h1 y H1 q s r=>by
 cases r<;>first|exact q.elim|exact⟨q.1,hQ _ _ q.2 _ _ s (.str _)⟩⟩
def wJ:List TWE->Str->TWE
 |[],acc=>fun a h Q a=>acc.length<=sizeLine/\Q (.str acc) h
 |t::r,acc=>fun ws h Q X=>t ws h (fun x h1=>match x with
  |.str y=>(acc++y).length<=sizeLine/\wJ r (acc++y) ws h1 Q X
  |_=>False) X
inductive ZJ (X:Cx)(G:Gm):List Expr->List TWE->Prop where
 |nil:ZJ X G [] []
 |cons {e:Expr} {t:TWE} {es:List Expr} {ts:List TWE}:ZE X G e t->ZJ X G es ts->ZJ X G (e::es) (t::ts)
def ZJ.out {ts:List TWE}(j:ZJ X G es ts)(E:L2.St->XK)(hE:di (CX1 X.prog X.w) X E):QJ X es (ts.map fun t=>lE X.K G t E):=by
 induction j with
 |nil=>exact .nil
 |cons a b ih=>exact .cons (a.out E hE) ih
theorem lJ {E:L2.St->XK}:∀{ts:List TWE}{acc:Str}{σ:L2.St}{H:Hp}{Q:VK},lE K G (wJ ts acc) E σ H Q->mJ (ts.map fun t=>lE K G t E) acc σ H Q
 |[],acc,σ,H,Q,⟨ws,h,Qw,Xw,A,S,ht,hQ,hX⟩=>⟨ht.1,hQ _ _ ht.2 _ _ (ax.rfl' A) (.str _)⟩
 |t::r,acc,σ,H,Q,⟨ws,h,Qw,Xw,A,S,ht,hQ,hX⟩=>bnd A S ht hX fun x h1 y H1 q s rr=>by
  cases rr<;>first|exact q.elim|exact⟨q.1,lJ ⟨ws,h1,Qw,Xw,s.rep,S.mono s.sm,q.2,hQ1 s hQ,hX1 s hX⟩⟩
def GD {v1 v2:Expr}{bQ:List Expr}{ts:List TWE}{pos:Pos}(j:ZJ X G (v1::v2::bQ) ts):ZE X G (.JoinedStr (v1::v2::bQ) pos) (wJ ts XA):=⟨fun E hE=>QE.imp (OW (j.out E hE)) fun a a a=>lJ⟩
def Gc {N:List Str}(r:RelWs K G Z l v)(q:RelWs K G Z c u):bY K G Z (fX N.length l c) (ki N v u):=by
 have ap:∀{a b:WS}{a' b':L2.St},bY K G Z a a'->bY K G Z b b'->bY K G Z (a++b) (a'++b'):=fun{a b a' b'} x y=>by
  refine⟨by simp[x.len,y.len],fun i w e=>?_⟩
  rcases Xf i a.length with hi|hi
  ·rw[Wq hi]at e
   obtain⟨z,e1,e2⟩:=x.at_ i w e
   exact⟨z,by rw[Wq (x.len▸hi)];exact e1,e2⟩
  ·rw[WR hi]at e
   obtain⟨z,e1,e2⟩:=y.at_ _ w e
   exact⟨z,by rw[WR (x.len▸hi),<-x.len];exact e1,e2⟩
 have sm:∀{a:List W}{b:List V},RelWs K G Z a b->bY K G Z (a.map some) (b.map some):=fun{a b} x=>by
  refine⟨by simp[x.len],fun i w e=>?_⟩
  rw[VG]at e
  cases z:a[i]? with
  |none=>rw[z]at e;injection e
  |some y=>
   rw[z]at e;cases e
   obtain⟨u,e1,e2⟩:=x.get z
   exact⟨u,by rw[VG,e1];rfl,e2⟩
 have no:∀n,bY K G Z (Yn n none) (Yn n none):=fun n=>⟨by simp,fun i w e=>by rw[Ya]at e;split at e<;>cases e⟩
 unfold fX ki
 rw[r.len,q.len]
 exact ap (sm r) (ap (no _) (sm q))
theorem RelWs.split:∀{l:List W}{v u:List V},RelWs K G Z l (v++u)->∃a b,l=a++b/\RelWs K G Z a v/\RelWs K G Z b u
 |l,[],u,r=>⟨[],l,rfl,.nil,r⟩
 |_,x::v,u,r=>by
  cases r with
  |cons p q=>
   obtain⟨a,b,e,h1,h2⟩:=RelWs.split q
   exact⟨_::a,b,by rw[e];rfl,.cons p h1,h2⟩
section
variable {a c:Expr}{t:TWA}{p1 p2 pos1 pos2:Pos}
def RU:RWN:=fun l h Q=>∃x m,l=[x]/\lqW x h m/\nwL m.reverse h Q
def PB (hm1:X.mg "list"=none)(hm2:X.mg "reversed"=none)(hc:X.calm=true)(ha:ZA X G [a] t)(hg1:Gl X "list":=by rfl)(hg2:Gl X "reversed":=by rfl)(hs:aM [a]=true:=by rfl):ZE X G (.Call (.Name "list" p1) [.Call (.Name "reversed" p2) [a] [] pos2] [] pos1) (wCB RU t):=
 ⟨fun E hE=>QE.imp (Hg hm1 hm2 hc (ha.out E hE) hg1 hg2 hs) fun c c c=>lCB fun A r q hQ=>by
  obtain⟨x,m,rfl,i,q⟩:=q
  obtain⟨c,c,rfl,r1,r2⟩:=wic r
  obtain rfl:=wic r2
  obtain⟨b,vs,rfl,e1,r⟩:=i.rel A r1
  exact⟨_,vs,rfl,e1,fun p hp=>nwL.ok A r.rev q hQ hp⟩⟩
def SV:RWN:=fun l h Q=>∃x y m n,l=[x,y]/\lqW x h m/\tqW y n/\m.length=n.length/\Q (.fl (Cc m n)) h
theorem BI {Z:Hp}:∀{m n:List W}{u v:List V}{ps:List Addr},RelWs K G Z m u->RelWs K G Z n v->ps.length=m.length->m.length=n.length->(∀(j:Nat)(p:Addr)(x y:V),ps[j]? =some p->u[j]? =some x->v[j]? =some y->Z p=some (.tup [x,y]))->RelWs K G Z (Cc m n) (ps.map V.ref)
 |_,_,_,_,ps,.nil,_,hp,_,_=>by cases ps with|nil=>exact .nil|cons=>injection hp
 |_,_,_,_,ps,.cons a b,.nil,_,hl,_=>by injection hl
 |_,_,_,_,ps,.cons a b,.cons c d,hp,hl,h=>by
  cases ps with
  |nil=>injection hp
  |cons p ps=>exact .cons (.tup (h 0 p _ _ rfl rfl rfl) (.cons a (.cons c .nil))) (BI b d (ZM hp) (ZM hl) fun j q x y e1 e2 e3=>h (j+1) q x y (by simpa using e1) (by simpa using e2) (by simpa using e3))
def Ny (hm1:X.mg "list"=none)(hm2:X.mg "zip"=none)(hc:X.calm=true)(ha:ZA X G [a,c] t)(hg1:Gl X "list":=by rfl)(hg2:Gl X "zip":=by rfl)(hs:aM [a,c]=true:=by rfl):ZE X G (.Call (.Name "list" p1) [.Call (.Name "zip" p2) [a,c] [] pos2] [] pos1) (wCB SV t):=
 ⟨fun E hE=>QE.imp (Ib hm1 hm2 hc (ha.out E hE) hg1 hg2 hs) fun b b b=>lCB fun{h H x v Qw Q} A r q hQ=>by
  obtain⟨x,y,m,n,rfl,i,j,hl,q⟩:=q
  obtain⟨b,b,rfl,r1,r2⟩:=wic r;cases r2 with|cons r2 r3=>
   obtain rfl:=wic r3
   obtain⟨b1,us,rfl,e1,r1⟩:=i.rel A r1
   obtain⟨b2,vs,rfl,e2,r2⟩:=j.rel r2
   refine⟨_,_,us,vs,rfl,e1,e2,by rw[<-r1.len,<-r2.len];exact hl,fun l ps H' hn sm hp ht el=>?_⟩
   have s:=ax.same A sm
   refine hQ _ _ q _ _ s (.fl (by rw[bB (A.new hn)];exact el) (BI (r1.mono s.sm) (r2.mono s.sm) (by rw[r1.len];exact hp) hl fun j p x y e1 e2 e3=>sw A sm (ht j p x y e1 e2 e3)))⟩
end
end
section
variable {X:Cx}{G:Gm}{K:W.Frag}{h:WH}{H H':Hp}
noncomputable def iG (rs:List (Int×W)):List (Key×W):=rs.map fun r=>(.inl r.1,r.2)
theorem RelKs.ints:∀{rs:List (Int×W)}{kvs:List (Key×V)},RelKs K G Z (iG rs) kvs->∃vs:List (Int×V),kvs=oS vs/\RelKs K G Z rs vs
 |[],_,r=>by
  cases r
  exact⟨[],rfl,.nil⟩
 |(k,w)::rs,_,r=>by
  cases (show RelKs K G Z ((Za k,w)::iG rs) _ from r)with
  | @cons _ _ _ v _ vs a b=>
    obtain⟨vs',rfl,c⟩:=RelKs.ints (rs:=rs) b
    exact⟨(k,v)::vs',rfl,.cons a c⟩
def RelKs.keys {κ:Type}:∀{rs:List (κ×W)}{vs:List (κ×V)},RelKs K G Z rs vs->rs.map (·.1)=vs.map (·.1):=RelKs.ind (M:=fun l v=>l.map (·.1)=v.map (·.1)) rfl fun a a b=>by rw[VI,VI,b]
def RelKs.perm {κ:Type}{vs vs':List (κ×V)}(p:vs'.Perm vs):∀{rs:List (κ×W)},RelKs K G Z rs vs->∃rs':List (κ×W),rs'.Perm rs/\RelKs K G Z rs' vs':=by
 induction p with
 |nil=>intro rs r;cases r;exact⟨[],.nil,.nil⟩
 |cons x p ih=>
  intro rs r
  cases r with
  |cons a b=>
   obtain⟨rs',p',r'⟩:=ih b
   exact⟨_,.cons _ p',.cons a r'⟩
 |swap x y l=>
  intro rs r
  cases r with
  |cons a b=>cases b with
   |cons c d=>exact⟨_,.swap _ _ _,.cons c (.cons a d)⟩
 |trans p q ip iq=>
  intro rs r
  obtain⟨r1,p1,q1⟩:=iq r
  obtain⟨r2,p2,q2⟩:=ip q1
  exact⟨r2,p2.trans p1,q2⟩
def prW (r:Int×W):W:=.tup [.int r.1,r.2]
theorem Bh {Z:Hp}:∀{rs:List (Int×W)}{vs:List (Int×V)}{ps:List Addr},RelKs K G Z rs vs->ps.length=vs.length->(∀(j:Nat)(p:Addr)(r:Int×V),ps[j]? =some p->vs[j]? =some r->Z p=some (.tup [.int r.1,r.2]))->RelWs K G Z (rs.map prW) (ps.map V.ref)
 |_,_,ps,.nil,hp,_=>by cases ps with|nil=>exact .nil|cons=>injection hp
 |_,_,ps,.cons a b,hp,h=>by
  cases ps with
  |nil=>injection hp
  |cons p ps=>exact .cons (.tup (h 0 p _ rfl rfl) (.cons (.int _) (.cons a .nil))) (Bh b (ZM hp) fun j q x e1 e2=>h (j+1) q x (by simpa using e1) (by simpa using e2))
def Oh:RWM:=fun x l h Q=>∃a m,x=.ref a/\l=[]/\h a=some (.dK m)/\Q (.vw a) h
def Gy:MtW X G "dict.items" Oh:=⟨_,Ka,fun A ry rx q hQ=>by
 obtain⟨a,m,rfl,rfl,e,q⟩:=q
 obtain rfl:=wiv ry
 obtain rfl:=wic rx
 obtain⟨u,e1,e2⟩:=A _ _ e
 obtain⟨b,rfl,r2⟩:=oiv e2
 refine⟨a,_,rfl,rfl,e1,fun p hp=>?_⟩
 have s:=ax.lay (u:=vwO p a) A hp
 exact hQ _ _ q _ _ s (.vw (by rw[bB (A.new hp),aT]))⟩
def La:RWN:=fun l h Q=>
 (∃(a:Addr)(rs:List (Int×W)),l=[.vw a]/\h a=some (.dK (iG rs))/\rs.length<64/\(rs.map (·.1)).Nodup/\∀rs':List (Int×W),rs'.Perm rs->rs'.Pairwise (fun x y=>x.1<y.1)->Q (.fl (rs'.map prW)) h)\/
 (∃(a:Addr)(rs:List (Int×W)),l=[.ref a]/\h a=some (.dK (iG rs))/\rs.length<64/\∀ns:List Int,ns.Perm (rs.map (·.1))->ns.Pairwise (·<=·)->Q (.fl (ns.map .int)) h)
def RelKs.length {κ:Type}{rs:List (κ×W)}{vs:List (κ×V)}(r:RelKs K G Z rs vs):rs.length=vs.length:=by
 have:=congrArg Xy r.keys
 simpa using this
theorem DO:∀ns:List Int,RelWs K G Z (ns.map W.int) (ns.map V.int)
 |[]=>.nil
 |n::r=>.cons (.int n) (DO r)
def Mg {α β:Type}{R:Int->Int->Prop}:∀{l:List (Int×α)}{m:List (Int×β)},l.map (·.1)=m.map (·.1)->m.Pairwise (fun x y=>R x.1 y.1)->l.Pairwise (fun x y=>R x.1 y.1):=fun{l m} e p=>by
 have:(m.map (·.1)).Pairwise R:=WW.mpr p
 rw[<-e]at this
 exact WW.mp this
def Cv (hc:X.calm=true):CaW X G (.builtin "sorted") La:=⟨_,Mm hc,fun{h H x v Qw Q} A r q hQ=>by
 rcases q with⟨a,rs,rfl,e,hl,hn,q⟩|⟨a,rs,rfl,e,hl,q⟩
 ·obtain⟨b,b,rfl,r1,r2⟩:=wic r
  obtain rfl:=wic r2
  cases r1 with
  | @vw _ p ev=>
    obtain⟨u,e1,e2⟩:=A _ _ e
    obtain⟨b,rfl,r2⟩:=oiv e2
    obtain⟨vs,rfl,rr⟩:=r2.ints
    refine .inl ⟨p,a,vs,rfl,aV _ _ ev,e1,by rw[<-rr.length];exact hl,by rw[<-rr.keys];exact hn,fun vs' pm pw l ps H' hn sm hp ht el=>?_⟩
    obtain⟨rs',pm',rr'⟩:=rr.perm pm
    have s:=ax.same A sm
    exact hQ _ _ (q rs' pm' (Mg rr'.keys pw)) _ _ s (.fl (by rw[bB (A.new hn)];exact el) (Bh (rr'.mono s.sm) hp fun j p r e1 e2=>sw A sm (ht j p r e1 e2).2))
 ·obtain⟨b,b,rfl,r1,r2⟩:=wic r
  obtain rfl:=wic r2
  obtain rfl:=wiv r1
  obtain⟨u,e1,e2⟩:=A _ _ e
  obtain⟨b,rfl,r2⟩:=oiv e2
  obtain⟨vs,rfl,rr⟩:=r2.ints
  refine .inr ⟨a,vs,rfl,e1,by rw[<-rr.length];exact hl,fun l ns hl pm pw=>?_⟩
  have s:=ax.lay (u:=.lst (ns.map V.int)) A hl
  exact hQ _ _ (q ns (by rw[rr.keys];exact pm) pw) _ _ s (.fl (by rw[bB (A.new hl),aT]) (DO ns))⟩
def Rz:RWN:=fun l h Q=>∃a m,l=[.ref a]/\h a=some (.dK m)/\∀p,h p=none->Q (.ref p) (up h p (.dK m))
def Nw:CaW X G (.type "dict") Rz:=⟨_,SX,fun A r q hQ=>by
 obtain⟨a,m,rfl,e,q⟩:=q
 obtain⟨b,b,rfl,r1,r2⟩:=wic r
 obtain rfl:=wic r2
 obtain rfl:=wiv r1
 obtain⟨u,e1,e2⟩:=A _ _ e
 obtain⟨b,rfl,r2⟩:=oiv e2;exact⟨a,_,rfl,e1,fun p hp=>hQ _ _ (q p (A.new hp)) _ _ (ax.new A hp (.dK r2)) (.ref p)⟩⟩
end
abbrev LnW (sp:WP)(n:Nat):Prop:=∀l h Q X,sp l h Q X->l.length=n
abbrev RdW (sp:WP)(t:TWS)(n:Nat):Prop:=∀l h Q X,sp l h Q X->t (xE Q X) (qZ n l) h
def Qn:TWS:=fun a a a=>False
def cz:ZS b X G s Qn:=⟨fun E a a=>⟨fun _ _ _ _ _ _ ⟨_,_,_,_,_,q,_⟩=>q.elim⟩⟩
section
variable {K:W.Frag}{G:Gm}{h:WH}{H:Hp}
def okN {P:VM}{w:Wm}{mg:Str->Option pz}{base:Heap}{x qual:Str}{st:Stmt}{f:Addr}{fd:Gt}{N ps:List Str}{k:Nat}{sp:WP}{t:TWS}(F:Fun K x qual st f fd)(S:aq N ps (ai st))(len:LnW sp ps.length)
  (hq:∀{cdv:pz}{A:Wj}{outer:List Env}{s:Bn}{H:Hp}{E:XK},aZ k (A.deeper (envOfC qual (ai st) s.heap.objs.size f cdv))->ZSs false (gb (CX1 P w) P w K mg base N qual (ai st) f cdv A outer s H E).nox G (bv st) t)
  (rd:RdW sp t N.length)(hx:∀l h Q X,sp l h Q X->sp l h Q X0:=by exact fun a a a a q=>q):cy P w K mg base (CX1 P w) (k+1) f fd ps (lP K G sp):=
 F.okS (t:=lS K G t fun a=>E0) S (fun vs H Q E ⟨l,h,Qw,Xw,A,r,q,_,_⟩=>by rw[<-r.len];exact len _ _ _ _ q) (fun vs H Q E ⟨l,h,Qw,Xw,A,r,q,hQ,_⟩=>
  ⟨_,h,_,A,GQ r,rd _ _ _ _ (hx _ _ _ _ q),fun ws h' q σ H' s' S'=>by
   obtain⟨w2,h2,q2,s2,r2⟩:=Fz.rel s'.rep .non q
   exact hQ _ _ q2 _ _ (s'.trans s2) r2,fun w h' q v H' s' rv=>by
   obtain⟨w2,h2,q2,s2,r2⟩:=Fz.rel s'.rep rv q
   exact hQ _ _ q2 _ _ (s'.trans s2) r2,fun e ws h' ⟨_,_,q⟩=>q.elim,fun ws h' q=>q.elim,fun ws h' q=>q.elim⟩)
  fun cdv A outer s H E hr=>(hq hr).out (fun a=>E0) oM nofun
def BS {P:VM}{w:Wm}{mg:Str->Option pz}{base:Heap}{k:Nat}{t:dO}{sp:WP}{te:TWE}(hb:t.body=.expr body)(S:fg N t.ps t.ys t.scope)
  (rd:∀l c h Q X,l.length=t.ps.length->c.length=t.ys.length->sp (l++c) h Q X->te (fX N.length l c) h (Fz Q) (Xs X))
  (hq:∀{f c:Addr}{cl:List (Str×Addr)}{A:Wj}{outer:List Env}{s:Bn}{H:Hp}{E:XK},aZ k (A.deeper (W.envX t.qual t.scope s.heap.objs.size f (.ref c) cl))->ZE (Bc P w K mg base N t.qual t.scope f c cl A outer s H E) G body te)
  (hx:∀l h Q X,sp l h Q X->sp l h Q X0:=by exact fun d d d d q=>q):fu P w K mg base (k+1) t (lP K G sp):=
 Ms hb S fun f c cl A outer s H vs cvs Q E hr hl hc ⟨l,h,Qw,Xw,A',r,q,hQ,hX⟩=>by
  obtain⟨a,b,rfl,r1,r2⟩:=r.split
  exact⟨_,((hq hr).out (fun d=>E0) oM).out,_,h,_,_,A',Gc r1 r2,rd a b h Qw X0 (by rw[r1.len];exact hl) (by rw[r2.len];exact hc) (hx _ _ _ _ q),fun w h' q v H' s' rv=>by
   obtain⟨w2,h2,q2,s2,r2⟩:=Fz.rel s'.rep rv q
   exact hQ _ _ q2 _ _ (s'.trans s2) r2,fun e h' ⟨_,_,q⟩=>q.elim⟩
end
end Ww
namespace Rs
open Ww
abbrev tS:JJ:=[]
noncomputable abbrev tI:JJ:=[(26,21,false),(27,21,false),(20,21,false),(21,21,true),(22,21,false),(23,21,false),(24,21,false),(25,21,false),(30,21,false)]
end Rs
namespace Rs
open PySem PySem.Spec PyProof.Rows L2 Ww
section
noncomputable def aY (s:Stmt)(j:Nat):Stmt:=match s with
 |.ClassDef _ _ _ b _ _ _ _ _ _ _=>b.getD j (.Pass ⟨0,0,0,0⟩)
 |_=>.Pass ⟨0,0,0,0⟩
noncomputable def top (i:Nat):Stmt:=PySem.Challenge.pw_rootstamp_k53_heads_of_a_house.main.body.getD i (.Pass ⟨0,0,0,0⟩)
abbrev xy:Stmt:=top 15
abbrev yj:Stmt:=top 16
abbrev Aa:Stmt:=top 17
abbrev uY:Stmt:=top 19
abbrev zU:Stmt:=top 18
abbrev gq:Stmt:=aY (top 68) 1
abbrev wV:Stmt:=top 74
abbrev oi:Stmt:=top 72
abbrev s_3:Stmt:=top 69
abbrev gD:Stmt:=aY (top 68) 0
abbrev s_1:Stmt:=top 70
abbrev s_0:Stmt:=top 75
abbrev jb:Stmt:=aY (top 66) 0
abbrev zI:Stmt:=top 23
abbrev jG:Stmt:=aY (top 43) 0
abbrev jU:Stmt:=aY (top 44) 0
abbrev iQ:Stmt:=aY (top 49) 0
abbrev kN:Stmt:=aY (top 41) 0
abbrev wQ:Stmt:=top 32
abbrev zP:Stmt:=top 39
abbrev sH:Stmt:=top 40
abbrev pV:Stmt:=aY (top 66) 1
abbrev rR:Stmt:=top 37
abbrev uB:Stmt:=top 38
abbrev je:Stmt:=aY (top 52) 0
abbrev xK:Stmt:=top 81
abbrev uE:Stmt:=top 82
abbrev xG:Stmt:=top 77
abbrev xA:Stmt:=top 76
abbrev mP:Stmt:=top 78
abbrev sZ:Stmt:=top 73
abbrev uR:Stmt:=top 83
abbrev uZ:Stmt:=aY (top 41) 2
abbrev wY:Stmt:=top 34
abbrev kB:Stmt:=aY (top 41) 4
abbrev Gx:Stmt:=top 30
abbrev lH:Stmt:=aY (top 41) 11
abbrev qp:Stmt:=aY (top 41) 10
abbrev nu:Stmt:=aY (top 41) 6
abbrev kX:Stmt:=aY (top 52) 5
abbrev xS:Stmt:=top 80
abbrev xt:Stmt:=aY (top 41) 1
abbrev qb:Stmt:=aY (top 49) 6
abbrev pG:Stmt:=aY (top 49) 7
abbrev qg:Stmt:=aY (top 52) 3
abbrev Bw:Stmt:=top 24
abbrev qx:Stmt:=aY (top 44) 1
abbrev pI:Stmt:=aY (top 45) 1
abbrev Ij:Stmt:=top 26
abbrev nQ:Stmt:=aY (top 46) 2
abbrev qh:Stmt:=aY (top 46) 4
abbrev iV:Stmt:=aY (top 49) 3
abbrev kQ:Stmt:=aY (top 44) 4
abbrev lq:Stmt:=aY (top 45) 4
abbrev qA:Stmt:=aY (top 46) 3
abbrev kj:Stmt:=aY (top 46) 0
abbrev kL:Stmt:=aY (top 46) 8
abbrev kZ:Stmt:=aY (top 46) 7
abbrev qj:Stmt:=aY (top 49) 2
abbrev qm:Stmt:=aY (top 52) 2
abbrev vd:Stmt:=top 79
abbrev wI:Stmt:=top 25
abbrev kc:Stmt:=aY (top 45) 0
abbrev jT:Stmt:=aY (top 44) 3
abbrev Ew:Stmt:=top 27
abbrev BV:Stmt:=top 47
abbrev Em:Stmt:=top 28
abbrev kA:Stmt:=aY (top 45) 3
abbrev qC:Stmt:=aY (top 46) 1
abbrev jC:Stmt:=aY (top 46) 6
abbrev sE:Stmt:=aY (top 49) 1
abbrev sB:Stmt:=aY (top 52) 1
abbrev ox:Stmt:=aY (top 66) 2
abbrev rh:Stmt:=top 84
abbrev ou:Stmt:=top 60
abbrev uF:Stmt:=top 35
abbrev Ek:Stmt:=top 54
abbrev pJ:Stmt:=top 63
abbrev sS:Stmt:=top 62
abbrev mO:Stmt:=top 61
abbrev lu:Stmt:=top 64
abbrev gA:Stmt:=aY (top 41) 9
abbrev gC:Stmt:=aY (top 41) 8
abbrev lN:Stmt:=aY (top 52) 6
abbrev xD:Stmt:=top 33
abbrev HN:Stmt:=top 31
abbrev jS:Stmt:=top 55
abbrev pX:Stmt:=top 56
abbrev sO:Stmt:=top 57
abbrev nP:Stmt:=top 58
abbrev jE:Stmt:=aY (top 41) 3
abbrev hZ:Stmt:=aY (top 41) 7
abbrev kP:Stmt:=aY (top 52) 7
abbrev qu:Stmt:=top 85
abbrev uW:Stmt:=aY (top 41) 12
abbrev qe:Stmt:=aY (top 52) 10
abbrev rH:Stmt:=top 86
abbrev KW:Stmt:=top 87
def sAt (i:Nat)(l:List Stmt):Stmt:=l.getD i (.Pass ⟨0,0,0,0⟩)
def sIf:Stmt->List Stmt|.If _ a _ _=>a|_=>[]
def CV:Stmt->Expr|.Return (some e) _=>e|.Assign _ e _=>e|.Expr e _=>e|_=>.Constant .none 0 ⟨0,0,0,0⟩
def nG:Expr->Expr|.Lambda _ b _ _=>b|e=>e
def kC:Expr->Scope|.Lambda _ _ sc _=>sc|_=>{kind:=.function,names:=[],isGenerator:=false,isCoroutine:=false}
abbrev qf:Expr:=(CV (sAt 0 (bv s_3)))
def dF:dO:=⟨(("writing":Str)++".<locals>.")++"<lambda>",.expr (nG qf),kC qf,["term"],[]⟩
abbrev ot:Expr:=(CV (sAt 1 (bv s_1)))
def dm:dO:=⟨(("counting":Str)++".<locals>.")++"<lambda>",.expr (nG ot),kC ot,["term"],["numbers"]⟩
abbrev ig:Expr:=(CV (sAt 0 (sIf (sAt 4 (bv s_0)))))
def cV:dO:=⟨(("_law_stamper":Str)++".<locals>.")++"<lambda>",.expr (nG ig),kC ig,["_law_term"],["_law_book"]⟩
abbrev ir:Expr:=(CV (sAt 0 (sIf (sAt 5 (bv s_0)))))
def cU:dO:=⟨(("_law_stamper":Str)++".<locals>.")++"<lambda>",.expr (nG ir),kC ir,["_law_one"],["_law_many"]⟩
abbrev ij:Expr:=(CV (sAt 6 (bv s_0)))
def cS:dO:=⟨(("_law_stamper":Str)++".<locals>.")++"<lambda>",.expr (nG ij),kC ij,["_law_other"],["_law_many"]⟩
set_option genInjectivity false
set_option genSizeOf false
set_option genInjectivity false in
abbrev Rd (sp:Sp)(t:TS)(N:List Str):Prop:=∀(vs:List V)(H:Hp)(Q:VK)(E:XK),sp vs H Q E->t {nx:=fun a H'=>Q .non H',rt:=Q} (L2.du N vs) H
abbrev Ln (sp:Sp)(n:Nat):Prop:=∀vs H Q E,sp vs H Q E->vs.length=n
structure Adr where
 Y5:Addr
 Y6:Gt
 Y7:Addr
 Y8:Gt
 ad4:Addr
 ad5:Gt
 V2:Addr
 V3:Gt
 ad6:Addr
 ad7:Gt
 d9:Addr
 j9:Gt
 Y9:Addr
 Z0:Gt
 K7:Addr
 K8:Gt
 a_3:Addr
 d_3:Gt
 c9:Addr
 f6:Gt
 a_1:Addr
 d_1:Gt
 a_0:Addr
 d_0:Gt
 i9:Addr
 B3:Gt
 ad8:Addr
 ad9:Gt
 l7:Addr
 C8:Gt
 l9:Addr
 C9:Gt
 j0:Addr
 B4:Gt
 r8:Addr
 G6:Gt
 Z1:Addr
 Z2:Gt
 ada:Addr
 adb:Gt
 R1:Addr
 R3:Gt
 E6:Addr
 O0:Gt
 R4:Addr
 R5:Gt
 V4:Addr
 V5:Gt
 j3:Addr
 B5:Gt
 Z3:Addr
 Z4:Gt
 V6:Addr
 V7:Gt
 Z5:Addr
 Z6:Gt
 Z7:Addr
 Z8:Gt
 K9:Addr
 L0:Gt
 R6:Addr
 R7:Gt
 V8:Addr
 V9:Gt
 N3:Addr
 W0:Gt
 Z9:Addr
 ac0:Gt
 m6:Addr
 D0:Gt
 aei:Addr
 aej:Gt
 i8:Addr
 r9:Gt
 q9:Addr
 E7:Gt
 B6:Addr
 L3:Gt
 s8:Addr
 G7:Gt
 ac1:Addr
 ac2:Gt
 R8:Addr
 ac3:Gt
 E8:Addr
 O1:Gt
 E9:Addr
 O2:Gt
 F0:Addr
 O3:Gt
 adm:Addr
 adn:Gt
 F1:Addr
 O4:Gt
 F2:Addr
 O5:Gt
 aek:Addr
 ael:Gt
 B7:Addr
 L4:Gt
 F3:Addr
 O6:Gt
 j4:Addr
 B8:Gt
 u8:Addr
 G8:Gt
 v4:Addr
 G9:Gt
 F4:Addr
 O7:Gt
 m7:Addr
 D3:Gt
 v5:Addr
 H8:Gt
 v6:Addr
 H9:Gt
 F5:Addr
 O8:Gt
 F6:Addr
 O9:Gt
 W1:Addr
 W2:Gt
 ac4:Addr
 ac5:Gt
 m8:Addr
 D4:Gt
 m9:Addr
 D5:Gt
 adI:Addr
 adJ:Gt
 ado:Addr
 adp:Gt
 adK:Addr
 adL:Gt
 o3:Addr
 D6:Gt
 F7:Addr
 P0:Gt
 o4:Addr
 D7:Gt
 K0:Addr
 R9:Gt
 K1:Addr
 S0:Gt
 B9:Addr
 L5:Gt
 S5:Addr
 S6:Gt
 L6:Addr
 L7:Gt
 W3:Addr
 W4:Gt
 adM:Addr
 adN:Gt
 P1:Addr
 P2:Gt
 S7:Addr
 S8:Gt
 L8:Addr
 L9:Gt
 I8:Addr
 J0:Gt
 f7:Addr
 p7:Gt
 f8:Addr
 p8:Gt
 v8:Addr
 J1:Gt
 ac6:Addr
 ac7:Gt
 aem:Addr
 aen:Gt
 D8:Addr
 D9:Gt
 P3:Addr
 P4:Gt
 S9:Addr
 T0:Gt
 M0:Addr
 M3:Gt
 o5:Addr
 E1:Gt
 i4:Addr
 y8:Gt
 v9:Addr
 J8:Gt
 P5:Addr
 P6:Gt
 N4:Addr
 W5:Gt
 F8:Addr
 P7:Gt
 T3:Addr
 T4:Gt
 aeu:Addr
 aer:Gt
 k_3:Addr
 t_3:Addr
 k_1:Addr
 t_1:Addr
 k_0:Addr
 t_0:Addr
 c7:Addr
 K4:Addr
 W6:Addr
 M4:Addr
 E2:Addr
 i6:Addr
 j5:Addr
 A0:Addr
 e6:Addr
def gm (A:Adr):Gm:=⟨fun c=>match c with|26=>A.c7|27=>A.K4|20=>A.W6|21=>A.M4|22=>A.E2|23=>A.i6|24=>A.j5|25=>A.A0|30=>A.e6|_=>0,fun i=>match i with|0=>dF|1=>dm|2=>cV|3=>cU|4=>cS|_=>⟨"",.stmts [],{kind:=.function,names:=[],isGenerator:=false,isCoroutine:=false},[],[]⟩⟩
set_option genInjectivity false in
structure Txt (K:W.Frag)(mg:Str->Option pz)(A:Adr):Prop where
 i7:Fm K mg "is_whole" "is_whole" xy A.Y5 A.Y6 ["thing"]
 y9:Fm K mg "is_stamp" "is_stamp" yj A.Y7 A.Y8 ["thing"]
 X5:Fm K mg "is_term" "is_term" Aa A.ad4 A.ad5 ["thing"]
 W7:Fm K mg "part_form" "part_form" uY A.V2 A.V3 ["part"]
 adc:Fm K mg "written" "written" zU A.ad6 A.ad7 ["term"]
 l4:Fb K "number_of" "Numbers.number_of" gq A.d9 A.j9 ["self","term"]
 T5:Fm K mg "_law_sum" "_law_sum" wV A.Y9 A.Z0 ["_law_term"]
 d7:Fm K mg "_law_cell_at" "_law_cell_at" oi A.K7 A.K8 ["_law_script","_law_k"]
 f_3:Fm K mg "writing" "writing" s_3 A.a_3 A.d_3 []
 J9:Fb K "__init__" "Numbers.__init__" gD A.c9 A.f6 ["self"]
 f_1:Fm K mg "counting" "counting" s_1 A.a_1 A.d_1 []
 f_0:Fm K mg "_law_stamper" "_law_stamper" s_0 A.a_0 A.d_0 ["_law_cell"]
 C0:Fb K "__init__" "Seals.__init__" jb A.i9 A.B3 ["self"]
 ade:Fm K mg "is_bits" "is_bits" zI A.ad8 A.ad9 ["thing"]
 f9:Fb K "__init__" "Knot.__init__" jG A.l7 A.C8 ["self","stamper","term"]
 o6:Fb K "__init__" "Bare.__init__" jU A.l9 A.C9 ["self","stamper"]
 j6:Fb K "__init__" "Table.__init__" iQ A.j0 A.B4 ["self","stamper","bits"]
 w4:Fb K "__init__" "Row.__init__" kN A.r8 A.G6 ["self","stamper"]
 M5:Fm K mg "is_count" "is_count" wQ A.Z1 A.Z2 ["thing"]
 X6:Fm K mg "is_head" "is_head" zP A.ada A.adb ["thing"]
 C3:Fm K mg "check_head" "check_head" sH A.R1 A.R3 ["thing"]
 F9:Fb K "seal" "Seals.seal" pV A.E6 A.O0 ["self","head"]
 C4:Fm K mg "void_terms" "void_terms" rR A.R4 A.R5 ["stamper"]
 W8:Fm K mg "none_head" "none_head" uB A.V4 A.V5 ["stamper"]
 j7:Fb K "__init__" "House.__init__" je A.j3 A.B5 ["self","stamper","bits","seals"]
 M6:Fm K mg "_law_top" "_law_top" xK A.Z3 A.Z4 ["_law_stamper_here","_law_marks"]
 A2:Fm K mg "_law_head" "_law_head" uE A.V6 A.V7 ["_law_stamper_here","_law_roots"]
 ac8:Fm K mg "_law_mix" "_law_mix" xG A.Z5 A.Z6 ["_law_cell","_law_k"]
 ac9:Fm K mg "_law_key" "_law_key" xA A.Z7 A.Z8 ["_law_cell","_law_bits"]
 M7:Fm K mg "_law_key_for" "_law_key_for" mP A.K9 A.L0 ["_law_known_here","_law_cell","_law_number","_law_bits"]
 T7:Fm K mg "_law_whole" "_law_whole" sZ A.R6 A.R7 ["_law_found"]
 l5:Fm K mg "_law_same" "_law_same" uR A.V8 A.V9 ["_law_found","_law_due_here"]
 B0:Fb K "size" "Row.size" uZ A.N3 A.W0 ["self"]
 T8:Fm K mg "is_elder" "is_elder" wY A.Z9 A.ac0 ["count","elder"]
 g0:Fb K "has_elder" "Row.has_elder" kB A.m6 A.D0 ["self","count","elder"]
 act:Fm K mg "half" "half" Gx A.aei A.aej ["many"]
 U5:Fb K "top_term" "Row.top_term" lH A.i8 A.r9 ["self","first","many"]
 c8:Fb K "top_of" "Row.top_of" qp A.q9 A.E7 ["self","first","many"]
 M8:Fb K "mark_at" "Row.mark_at" nu A.B6 A.L3 ["self","count"]
 d8:Fb K "newest" "House.newest" kX A.s8 A.G7 ["self"]
 E3:Fm K mg "_law_due" "_law_due" xS A.ac1 A.ac2 ["_law_stamper_here","_law_bits","_law_rows"]
 acV:Fb K "add" "Row.add" xt A.R8 A.ac3 ["self","entry"]
 P8:Fb K "root" "Table.root" qb A.E8 A.O1 ["self"]
 G0:Fb K "twin" "Table.twin" pG A.E9 A.O2 ["self"]
 G1:Fb K "make" "House.make" qg A.F0 A.O3 ["self"]
 adq:Fm K mg "is_key" "is_key" Bw A.adm A.adn ["bits","thing"]
 G2:Fb K "found" "Bare.found" qx A.F1 A.O4 ["self","bits","key"]
 G3:Fb K "found" "Leaf.found" pI A.F2 A.O5 ["self","bits","key"]
 adf:Fm K mg "side" "side" Ij A.aek A.ael ["bits","key","depth"]
 l6:Fb K "toward" "Fork.toward" nQ A.B7 A.L4 ["self","bits","key"]
 G4:Fb K "found" "Fork.found" qh A.F3 A.O6 ["self","bits","key"]
 j8:Fb K "value_of" "Table.value_of" iV A.j4 A.B8 ["self","key"]
 w5:Fb K "without" "Bare.without" kQ A.u8 A.G8 ["self","stamper","bits","key"]
 w6:Fb K "without" "Leaf.without" lq A.v4 A.G9 ["self","stamper","bits","key"]
 P9:Fb K "aside" "Fork.aside" qA A.F4 A.O7 ["self","bits","key"]
 d6:Fb K "__init__" "Fork.__init__" kj A.m7 A.D3 ["self","stamper","depth","begin","left","right"]
 w8:Fb K "changed" "Fork.changed" kL A.v5 A.H8 ["self","stamper","bits","key","knot"]
 w9:Fb K "without" "Fork.without" kZ A.v6 A.H9 ["self","stamper","bits","key"]
 Q0:Fb K "take" "Table.take" qj A.F5 A.O8 ["self","key"]
 Q1:Fb K "take" "House.take" qm A.F6 A.O9 ["self","key"]
 W9:Fm K mg "_law_word" "_law_word" vd A.W1 A.W2 ["_law_number"]
 acW:Fm K mg "is_value" "is_value" wI A.ac4 A.ac5 ["thing"]
 i3:Fb K "__init__" "Leaf.__init__" kc A.m8 A.D4 ["self","stamper","key","value"]
 o7:Fb K "with_key" "Bare.with_key" jT A.m9 A.D5 ["self","stamper","bits","key","value"]
 acZ:Fm K mg "start" "start" Ew A.adI A.adJ ["bits","key","depth"]
 ad0:Fm K mg "joined" "joined" BV A.ado A.adp ["stamper","bits","depth","leaf","knot"]
 adj:Fm K mg "alike" "alike" Em A.adK A.adL ["bits","one","other"]
 o8:Fb K "with_key" "Leaf.with_key" kA A.o3 A.D6 ["self","stamper","bits","key","value"]
 Q2:Fb K "leads" "Fork.leads" qC A.F7 A.P0 ["self","bits","key"]
 o9:Fb K "with_key" "Fork.with_key" jC A.o4 A.D7 ["self","stamper","bits","key","value"]
 T9:Fb K "put" "Table.put" sE A.K0 A.R9 ["self","key","value"]
 K5:Fb K "put" "House.put" sB A.K1 A.S0 ["self","key","value"]
 C5:Fb K "knows" "Seals.knows" ox A.B9 A.L5 ["self","thing"]
 U0:Fm K mg "_law_known" "_law_known" rh A.S5 A.S6 ["_law_ledger","_law_heads"]
 M9:Fm K mg "growth_turns" "growth_turns" ou A.L6 A.L7 ["count","elder"]
 N5:Fm K mg "are_marks" "are_marks" uF A.W3 A.W4 ["many","thing"]
 ad1:Fm K mg "joint" "joint" Ek A.adM A.adN ["turn","own","aside"]
 Q3:Fm K mg "grown_terms" "grown_terms" pJ A.P1 A.P2 ["stamper","count","elder","steps"]
 U1:Fm K mg "step_marks" "step_marks" sS A.S7 A.S8 ["turns","marks"]
 N0:Fm K mg "growth_terms" "growth_terms" mO A.L8 A.L9 ["stamper","count","elder","marks"]
 x0:Fm K mg "growth_answer" "growth_answer" lu A.I8 A.J0 ["stamper","head","elder","marks"]
 d3:Fb K "growth_marks" "Row.growth_marks" gA A.f7 A.p7 ["self","first","many","elder"]
 p9:Fb K "growth_paper" "Row.growth_paper" gC A.f8 A.p8 ["self","count","elder"]
 y0:Fb K "growth" "House.growth" lN A.v8 A.J1 ["self","count","elder"]
 U2:Fm K mg "is_place" "is_place" xD A.ac6 A.ac7 ["count","place"]
 adO:Fm K mg "ways" "ways" HN A.aem A.aen ["place","many"]
 E4:Fm K mg "is_place_paper" "is_place_paper" jS A.D8 A.D9 ["turns","thing"]
 Q4:Fm K mg "place_terms" "place_terms" pX A.P3 A.P4 ["stamper","count","place","paper"]
 U3:Fm K mg "place_mark" "place_mark" sO A.S9 A.T0 ["stamper","count","place","paper"]
 C6:Fm K mg "place_answer" "place_answer" nP A.M0 A.M3 ["stamper","head","place","paper"]
 p6:Fb K "has_place" "Row.has_place" jE A.o5 A.E1 ["self","count","place"]
 z7:Fb K "place_paper" "Row.place_paper" hZ A.i4 A.y8 ["self","count","place"]
 y6:Fb K "placed" "House.placed" kP A.v9 A.J8 ["self","count","place"]
 G5:Fm K mg "_law_papers" "_law_papers" qu A.P5 A.P6 ["_law_house","_law_stamper_here","_law_heads","_law_roots","_law_count"]
 X1:Fb K "twin" "Row.twin" uW A.N4 A.W5 ["self"]
 Q5:Fb K "twin" "House.twin" qe A.F8 A.P7 ["self"]
 U4:Fm K mg "_law_twins" "_law_twins" rH A.T3 A.T4 ["_law_house","_law_ledger","_law_stamper_here","_law_bits","_law_known_here","_law_roots"]
 aes:Fm K mg "law" "law" KW A.aeu A.aer ["_law_script"]
 aeA:mg "all"=none
 aev:mg "bool"=none
 aeB:mg "dict"=none
 b7:mg "int"=none
 b8:mg "isinstance"=none
 e9:mg "len"=none
 adP:mg "list"=none
 aeC:mg "min"=none
 aeD:mg "ord"=none
 ad2:mg "range"=none
 adr:mg "reversed"=none
 ads:mg "sorted"=none
 c6:mg "str"=none
 X7:mg "tuple"=none
 aeE:mg "zip"=none
 aea:∃t,mg "MOST_BITS"=some (.int 60 t)
 adQ:∃t,mg "MOST_PARTS"=some (.int 8 t)
 adR:∃t,mg "MOST_SIGNS"=some (.int 60 t)
 aeo:mg "Numbers"=some (.ref A.c7)
 aew:mg "Seals"=some (.ref A.K4)
 adS:mg "Knot"=some (.ref A.W6)
 adT:mg "Bare"=some (.ref A.M4)
 adU:mg "Leaf"=some (.ref A.E2)
 adk:mg "Fork"=some (.ref A.i6)
 aeb:mg "Table"=some (.ref A.j5)
 aex:mg "Row"=some (.ref A.A0)
 aec:mg "House"=some (.ref A.e6)
 acX:Cls K A.c7
 Q6:aH K A.c7 "given"
 X2:Cls K A.K4
 adh:aH K A.K4 "sealed"
 aeF:Cls K A.W6
 adV:aH K A.W6 "term"
 adW:aH K A.W6 "mark"
 N6:Cls K A.M4
 adX:aH K A.M4 "term"
 adY:aH K A.M4 "mark"
 K6:Cls K A.E2
 aed:aH K A.E2 "key"
 adZ:aH K A.E2 "text"
 ae0:aH K A.E2 "term"
 ae1:aH K A.E2 "mark"
 e8:Cls K A.i6
 ady:aH K A.i6 "depth"
 adz:aH K A.i6 "begin"
 ae2:aH K A.i6 "left"
 adA:aH K A.i6 "right"
 ae3:aH K A.i6 "term"
 ae4:aH K A.i6 "mark"
 C7:Cls K A.j5
 adg:aH K A.j5 "stamper"
 adB:aH K A.j5 "bits"
 ae5:aH K A.j5 "top"
 b9:Cls K A.A0
 N1:aH K A.A0 "stamper"
 adt:aH K A.A0 "entries"
 aee:aH K A.A0 "tops"
 d4:Cls K A.e6
 adu:aH K A.e6 "table"
 ae6:aH K A.e6 "row"
 adv:aH K A.e6 "makes"
 adw:aH K A.e6 "seals"
 X9:bu K A.K4 "seal" A.E6
 N7:bu K A.A0 "size" A.N3
 d5:bu K A.A0 "top_of" A.q9
 adi:bu K A.A0 "top_term" A.i8
 E5:bu K A.A0 "has_elder" A.m6
 adx:bu K A.A0 "mark_at" A.B6
 y7:bu K A.e6 "newest" A.s8
 Y0:bu K A.j5 "twin" A.E9
 adC:bu K A.j5 "root" A.E8
 aep:bu K A.A0 "add" A.R8
 N2:bu K A.i6 "toward" A.B7
 Y1:bu K A.i6 "found" A.F3
 Y2:bu K A.E2 "found" A.F2
 Y3:bu K A.M4 "found" A.F1
 U6:bu K A.i6 "changed" A.v5
 adD:bu K A.i6 "aside" A.F4
 U7:bu K A.i6 "without" A.v6
 U8:bu K A.E2 "without" A.v4
 U9:bu K A.M4 "without" A.u8
 N8:bu K A.j5 "value_of" A.j4
 adE:bu K A.j5 "take" A.F5
 Q7:bu K A.i6 "with_key" A.o4
 Q8:bu K A.E2 "with_key" A.o3
 Q9:bu K A.M4 "with_key" A.m9
 adF:bu K A.i6 "leads" A.F7
 ae7:bu K A.j5 "put" A.K0
 X3:bu K A.K4 "knows" A.B9
 q8:bu K A.A0 "growth_marks" A.f7
 X8:bu K A.A0 "growth_paper" A.f8
 R0:bu K A.A0 "has_place" A.o5
 acY:bu K A.A0 "place_paper" A.i4
 V0:bu K A.e6 "placed" A.v9
 V1:bu K A.e6 "growth" A.v8
 aef:bu K A.A0 "twin" A.N4
 Y4:bu K A.e6 "make" A.F0
 ad3:bu K A.e6 "put" A.K1
 adG:bu K A.e6 "twin" A.F8
 adH:bu K A.e6 "take" A.F6
 X4:bu K A.c7 "number_of" A.d9
 aeq:Mk K A.c7 A.c9
 aet:Mk K A.M4 A.l9
 aey:Mk K A.A0 A.r8
 aeg:Mk K A.j5 A.j0
 adl:Mk K A.i6 A.m7
 ae8:Mk K A.E2 A.m8
 aeh:Mk K A.e6 A.j3
 aez:Mk K A.K4 A.i9
 ae9:FJ K A.W6 "__init__" A.l7
 tI0:dA (fun p=>AR K ((gm A).cA p.1)/\W.kitOne K (.ref ((gm A).cA p.1)) (.ref ((gm A).cA p.2.1))=some p.2.2) tI
variable {K:W.Frag}{mg:Str->Option pz}{A:Adr}(T:Txt K mg A)
include T
def Txt.tI:∀p∈tI,AR K ((gm A).cA p.1)/\W.kitOne K (.ref ((gm A).cA p.1)) (.ref ((gm A).cA p.2.1))=some p.2.2:=T.tI0.m
def Txt.nl_sealed:∀c∈[27],aH K ((gm A).cA c) "sealed":=dA.m ⟨T.adh,trivial⟩
def Txt.nl_term:∀c∈[20,21,22,23],aH K ((gm A).cA c) "term":=dA.m ⟨T.adV,T.adX,T.ae0,T.ae3,trivial⟩
def Txt.nl_mark:∀c∈[20,21,22,23],aH K ((gm A).cA c) "mark":=dA.m ⟨T.adW,T.adY,T.ae1,T.ae4,trivial⟩
def Txt.nl_key:∀c∈[22],aH K ((gm A).cA c) "key":=dA.m ⟨T.aed,trivial⟩
def Txt.nl_text:∀c∈[22],aH K ((gm A).cA c) "text":=dA.m ⟨T.adZ,trivial⟩
def Txt.nl_depth:∀c∈[23],aH K ((gm A).cA c) "depth":=dA.m ⟨T.ady,trivial⟩
def Txt.nl_begin:∀c∈[23],aH K ((gm A).cA c) "begin":=dA.m ⟨T.adz,trivial⟩
def Txt.nl_left:∀c∈[23],aH K ((gm A).cA c) "left":=dA.m ⟨T.ae2,trivial⟩
def Txt.nl_right:∀c∈[23],aH K ((gm A).cA c) "right":=dA.m ⟨T.adA,trivial⟩
def Txt.nl_stamper:∀c∈[25,24],aH K ((gm A).cA c) "stamper":=dA.m ⟨T.N1,T.adg,trivial⟩
def Txt.nl_bits:∀c∈[24],aH K ((gm A).cA c) "bits":=dA.m ⟨T.adB,trivial⟩
def Txt.nl_top:∀c∈[24],aH K ((gm A).cA c) "top":=dA.m ⟨T.ae5,trivial⟩
def Txt.nl_entries:∀c∈[25],aH K ((gm A).cA c) "entries":=dA.m ⟨T.adt,trivial⟩
def Txt.nl_tops:∀c∈[25],aH K ((gm A).cA c) "tops":=dA.m ⟨T.aee,trivial⟩
def Txt.nl_table:∀c∈[30],aH K ((gm A).cA c) "table":=dA.m ⟨T.adu,trivial⟩
def Txt.nl_row:∀c∈[30],aH K ((gm A).cA c) "row":=dA.m ⟨T.ae6,trivial⟩
def Txt.nl_makes:∀c∈[30],aH K ((gm A).cA c) "makes":=dA.m ⟨T.adv,trivial⟩
def Txt.nl_seals:∀c∈[30],aH K ((gm A).cA c) "seals":=dA.m ⟨T.adw,trivial⟩
omit T
def yC:fg ["term"] ["term"] [] dF.scope:=⟨rfl,rfl,rfl,by decide+kernel,rfl,rfl,by decide+kernel,by decide+kernel,by decide+kernel,by decide+kernel,by decide+kernel⟩
def xN:fg ["term","numbers"] ["term"] ["numbers"] dm.scope:=⟨rfl,rfl,rfl,by decide+kernel,rfl,rfl,by decide+kernel,by decide+kernel,by decide+kernel,by decide+kernel,by decide+kernel⟩
def qM:fg ["_law_term","_law_book"] ["_law_term"] ["_law_book"] cV.scope:=⟨rfl,rfl,rfl,by decide+kernel,rfl,rfl,by decide+kernel,by decide+kernel,by decide+kernel,by decide+kernel,by decide+kernel⟩
def qE:fg ["_law_one","_law_many"] ["_law_one"] ["_law_many"] cU.scope:=⟨rfl,rfl,rfl,by decide+kernel,rfl,rfl,by decide+kernel,by decide+kernel,by decide+kernel,by decide+kernel,by decide+kernel⟩
def qO:fg ["_law_other","_law_many"] ["_law_other"] ["_law_many"] cS.scope:=⟨rfl,rfl,rfl,by decide+kernel,rfl,rfl,by decide+kernel,by decide+kernel,by decide+kernel,by decide+kernel,by decide+kernel⟩
def Df:aq ["thing"] ["thing"] (ai xy):=scF
def De:aq ["thing"] ["thing"] (ai yj):=scF
def Fo:aq ["thing"] ["thing"] (ai Aa):=scF
def sX:aq ["part","signs"] ["part"] (ai uY):=scF
def FV:aq ["term"] ["term"] (ai zU):=scF
def mK:aq ["self","term"] ["self","term"] (ai gq):=scF
def dC:aq ["_law_term","_law_total","_law_part","_law_sign"] ["_law_term"] (ai wV):=scF
def xB:aq ["_law_script","_law_k"] ["_law_script","_law_k"] (ai oi):=scF
def Ue:aq [] [] (ai s_3):=scF
def pE:aq ["self"] ["self"] (ai gD):=scF
def Qh:aq ["numbers"] [] (ai s_1):=scF
def JO:aq ["_law_cell","_law_book","_law_many"] ["_law_cell"] (ai s_0):=scF
def sP:aq ["self"] ["self"] (ai jb):=scF
def EY:aq ["thing"] ["thing"] (ai zI):=scF
def tZ:aq ["self","stamper","term"] ["self","stamper","term"] (ai jG):=scF
def ux:aq ["self","stamper"] ["self","stamper"] (ai jU):=scF
def rT:aq ["self","stamper","bits"] ["self","stamper","bits"] (ai iQ):=scF
def vF:aq ["self","stamper"] ["self","stamper"] (ai kN):=scF
def Dg:aq ["thing"] ["thing"] (ai wQ):=scF
def FO:aq ["thing"] ["thing"] (ai zP):=scF
def Ak:aq ["thing"] ["thing"] (ai sH):=scF
def yz:aq ["self","head"] ["self","head"] (ai pV):=scF
def Ay:aq ["stamper"] ["stamper"] (ai rR):=scF
def CA:aq ["stamper"] ["stamper"] (ai uB):=scF
def rP:aq ["self","stamper","bits","seals"] ["self","stamper","bits","seals"] (ai je):=scF
def lZ:aq ["_law_stamper_here","_law_marks","_law_cut"] ["_law_stamper_here","_law_marks"] (ai xK):=scF
def Cw:aq ["_law_stamper_here","_law_roots"] ["_law_stamper_here","_law_roots"] (ai uE):=scF
def DL:aq ["_law_cell","_law_k"] ["_law_cell","_law_k"] (ai xG):=scF
def vm:aq ["_law_cell","_law_bits","_law_top_here"] ["_law_cell","_law_bits"] (ai xA):=scF
def eY:aq ["_law_known_here","_law_cell","_law_number","_law_bits","_law_keys","_law_way","_law_key_here"] ["_law_known_here","_law_cell","_law_number","_law_bits"] (ai mP):=scF
def AD:aq ["_law_found"] ["_law_found"] (ai sZ):=scF
def BN:aq ["_law_found","_law_due_here"] ["_law_found","_law_due_here"] (ai uR):=scF
def Ci:aq ["self"] ["self"] (ai uZ):=scF
def Dq:aq ["count","elder"] ["count","elder"] (ai wY):=scF
def ui:aq ["self","count","elder"] ["self","count","elder"] (ai kB):=scF
def Nh:aq ["many"] ["many"] (ai Gx):=scF
def jV:aq ["self","first","many","ahead"] ["self","first","many"] (ai lH):=scF
def mN:aq ["self","first","many","part"] ["self","first","many"] (ai qp):=scF
def xq:aq ["self","count"] ["self","count"] (ai nu):=scF
def jQ:aq ["self","count"] ["self"] (ai kX):=scF
def dh:aq ["_law_stamper_here","_law_bits","_law_rows","_law_room","_law_depth","_law_begin","_law_middle","_law_left","_law_right"] ["_law_stamper_here","_law_bits","_law_rows"] (ai xS):=scF
def DA:aq ["self","entry"] ["self","entry"] (ai xt):=scF
def zj:aq ["self"] ["self"] (ai qb):=scF
def nE:aq ["self","other"] ["self"] (ai pG):=scF
def mQ:aq ["self","head"] ["self"] (ai qg):=scF
def Iy:aq ["bits","thing"] ["bits","thing"] (ai Bw):=scF
def yF:aq ["self","bits","key"] ["self","bits","key"] (ai qx):=scF
def yN:aq ["self","bits","key"] ["self","bits","key"] (ai pI):=scF
def Nt:aq ["bits","key","depth"] ["bits","key","depth"] (ai Ij):=scF
def yf:aq ["self","bits","key"] ["self","bits","key"] (ai nQ):=scF
def yA:aq ["self","bits","key"] ["self","bits","key"] (ai qh):=scF
def rB:aq ["self","key"] ["self","key"] (ai iV):=scF
def vT:aq ["self","stamper","bits","key"] ["self","stamper","bits","key"] (ai kQ):=scF
def vx:aq ["self","stamper","bits","key"] ["self","stamper","bits","key"] (ai lq):=scF
def yH:aq ["self","bits","key"] ["self","bits","key"] (ai qA):=scF
def uf:aq ["self","stamper","depth","begin","left","right"] ["self","stamper","depth","begin","left","right"] (ai kj):=scF
def wn:aq ["self","stamper","bits","key","knot"] ["self","stamper","bits","key","knot"] (ai kL):=scF
def kh:aq ["self","stamper","bits","key","rest"] ["self","stamper","bits","key"] (ai kZ):=scF
def oj:aq ["self","key","before"] ["self","key"] (ai qj):=scF
def yS:aq ["self","key"] ["self","key"] (ai qm):=scF
def jF:aq ["_law_number","_law_letters","_law_size"] ["_law_number"] (ai vd):=scF
def Dk:aq ["thing"] ["thing"] (ai wI):=scF
def tY:aq ["self","stamper","key","value"] ["self","stamper","key","value"] (ai kc):=scF
def tV:aq ["self","stamper","bits","key","value"] ["self","stamper","bits","key","value"] (ai jT):=scF
def Jb:aq ["bits","key","depth"] ["bits","key","depth"] (ai Ew):=scF
def zN:aq ["stamper","bits","depth","leaf","knot","begin"] ["stamper","bits","depth","leaf","knot"] (ai BV):=scF
def Jf:aq ["bits","one","other"] ["bits","one","other"] (ai Em):=scF
def iM:aq ["self","stamper","bits","key","value","leaf"] ["self","stamper","bits","key","value"] (ai kA):=scF
def yJ:aq ["self","bits","key"] ["self","bits","key"] (ai qC):=scF
def iY:aq ["self","stamper","bits","key","value","depth"] ["self","stamper","bits","key","value"] (ai jC):=scF
def qq:aq ["self","key","value","before"] ["self","key","value"] (ai sE):=scF
def AB:aq ["self","key","value"] ["self","key","value"] (ai sB):=scF
def xo:aq ["self","thing"] ["self","thing"] (ai ox):=scF
def fK:aq ["_law_ledger","_law_heads","_law_head_here","_law_more","_law_thing"] ["_law_ledger","_law_heads"] (ai rh):=scF
def cb:aq ["count","elder","turns","early","rest","ahead"] ["count","elder"] (ai ou):=scF
def Bm:aq ["many","thing"] ["many","thing"] (ai uF):=scF
def JU:aq ["turn","own","aside"] ["turn","own","aside"] (ai Ek):=scF
def cC:aq ["stamper","count","elder","steps","younger","older","top","older_top","step"] ["stamper","count","elder","steps"] (ai pJ):=scF
def dv:aq ["turns","marks","steps","first","last","turn"] ["turns","marks"] (ai sS):=scF
def gu:aq ["stamper","count","elder","marks","turns","younger"] ["stamper","count","elder","marks"] (ai mO):=scF
def fW:aq ["stamper","head","elder","marks","terms","came"] ["stamper","head","elder","marks"] (ai lu):=scF
def fZ:aq ["self","first","many","elder","ahead"] ["self","first","many","elder"] (ai gA):=scF
def oX:aq ["self","count","elder"] ["self","count","elder"] (ai gC):=scF
def wj:aq ["self","count","elder"] ["self","count","elder"] (ai lN):=scF
def Dv:aq ["count","place"] ["count","place"] (ai xD):=scF
def fY:aq ["place","many","turns","first","rest","ahead"] ["place","many"] (ai HN):=scF
def ug:aq ["turns","thing"] ["turns","thing"] (ai jS):=scF
def fv:aq ["stamper","count","place","paper","turns","terms","step"] ["stamper","count","place","paper"] (ai pX):=scF
def Al:aq ["stamper","count","place","paper"] ["stamper","count","place","paper"] (ai sO):=scF
def lO:aq ["stamper","head","place","paper","came"] ["stamper","head","place","paper"] (ai nP):=scF
def um:aq ["self","count","place"] ["self","count","place"] (ai jE):=scF
def bj:aq ["self","count","place","marks","first","many","turn","ahead"] ["self","count","place"] (ai hZ):=scF
def wm:aq ["self","count","place"] ["self","count","place"] (ai kP):=scF
def gP:aq ["_law_house","_law_stamper_here","_law_heads","_law_roots","_law_count","_law_elder","_law_place"] ["_law_house","_law_stamper_here","_law_heads","_law_roots","_law_count"] (ai qu):=scF
def sI:aq ["self","other"] ["self"] (ai uW):=scF
def nW:aq ["self","other"] ["self"] (ai qe):=scF
def cq:aq ["_law_house","_law_ledger","_law_stamper_here","_law_bits","_law_known_here","_law_roots","_law_many","_law_twin","_law_line","_law_text","_law_then","_law_root","_law_due_here","_law_paper"] ["_law_house","_law_ledger","_law_stamper_here","_law_bits","_law_known_here","_law_roots"] (ai rH):=scF
def dY:aq ["_law_script","_law_cell","_law_stamper_here","_law_bits","_law_ledger","_law_house","_law_known_here","_law_roots","_law_heads","_law_last","_law_k","_law_number","_law_key_here","_law_count"] ["_law_script"] (ai KW):=scF
end
end Rs
namespace Rs
open PySem PySem.Spec PyProof.Rows L2
abbrev gOp:=List Key->Option Key
noncomputable def cO (z:Str):Bool:=z.cps.all (·<128)
def okP:Key->Bool
 |.inl i=>decide (0<=i/\i<10^60)
 |.inr z=>cO z&&decide (z.length<=100000)
def QV:Key->Bool
 |.inr _=>true
 |.inl _=>false
def okT (k:List Key):Bool:=decide (1<=k.length/\k.length<=8)&&(k.head?.map QV).getD false&&k.all okP
noncomputable def fm:Key->Str
 |.inl i=>toString i++";"
 |.inr z=>toString (z.length:Int)++":"++z
def hJ:List Key->Str
 |[]=>XA
 |x::r=>fm x++hJ r
noncomputable def szK:Key->Nat
 |.inl _=>62
 |.inr z=>z.length+62
def szT (k:List Key):Nat:=(k.map szK).sum
noncomputable def AX (t:Int)(c:Nat):Int:=t*3+(c:Int)
def FU (t:Int):Key->Int
 |.inl i=>(t*5+i)%1000000007
 |.inr z=>((ZV z none (some 6)).cps.toList.foldl AX (t*7+3*(z.length:Int)))%1000000007
def gF (k:List Key):Int:=k.foldl FU 0
def AT (m:Int)(k:List Key):Key:=.inr (("s":Str)++((toString (gF k%m):String):Str))
def mM {k:List Key}(h:okT k=true):k.all okP=true:=by
 unfold okT at h
 rw[WC]at h
 exact h.2
def yQ {k:List Key}{x:Key}(h:okT k=true)(hx:x∈k):okP x=true:=WB.mp (mM h) x hx
def Jt {k:List Key}(h:okT k=true):∃z r,k=.inr z::r:=by
 unfold okT at h
 simp only[WC]at h
 cases k with
 |nil=>cases h.1.2
 |cons x r=>
  cases x with
  |inl i=>cases h.1.2
  |inr z=>exact⟨z,r,rfl⟩
def rZ {i:Int}(h0:0<=i)(h1:i<10^60):i.natAbs.log2<1920:=by
 by_cases e:i.natAbs=0
 ·rw[e];decide
 ·refine(aay e).mpr ?_
  have:i.natAbs<10^60:=by lia
  exact VB this (by decide+kernel)
def jo {i:Int}(h0:0<=i)(h1:i<10^60):((toString i:String):Str).length<=61:=by
 have:i.natAbs<10^60:=by lia
 have:=int_text_length_le10 (k:=60) (by decide) this
 show(WL _).length<=_
 rw[aaW];exact this
def ju (s:String)(h:s.length=1:=by rfl):(s:Str).length=1:=by
 show(WL s).length=1
 rw[aaW];exact h
def zF {x:Key}(h:okP x=true):(fm x).length<=szK x:=by
 cases x with
 |inl i=>
  have h:=of_decide_eq_true h
  have:=jo h.1 h.2
  show(((toString i:String):Str)++((";":String):Str)).length<=62
  rw[XC,ju ";"];lia
 |inr z=>
  have h:=of_decide_eq_true (Gn.mp h).2
  have:=jo (i:=(z.length:Int)) (by lia) (by lia)
  show(((toString (z.length:Int):String):Str)++((":":String):Str)++z).length<=z.length+62
  rw[XC,XC,ju ":"];lia
def Of {x:Key}(h:okP x=true):szK x<=100062:=by
 cases x with
 |inl i=>show 62<=100062;decide
 |inr z=>
  have h:=of_decide_eq_true (Gn.mp h).2
  show z.length+62<=100062;lia
theorem CQ:∀xs:List Key,hJ xs=(xs.map fm).foldr (·++·) XA
 |[]=>rfl
 |x::r=>by show fm x++hJ r=fm x++_;rw[CQ r]
theorem zD:∀{k:List Key},k.all okP=true->(hJ k).length<=szT k
 |[],_=>by show XA.length<=0;decide
 |x::r,h=>by
  rw[YZ,WC]at h
  have h1:=zF h.1
  have h2:=zD h.2
  show(fm x++hJ r).length<=((x::r).map szK).sum
  rw[XC,VI,YW]
  unfold szT at h2
  lia
def GT {x y:Str}(h1:cO x=true)(h2:cO y=true):cO (x++y)=true:=by
 unfold cO at h1 h2⊢
 show(x.cps++y.cps).all _=true
 rw[Array.all_append,h1,h2];rfl
def jx {x y:Str}(h1:cO x=true)(h2:cO y=true):cO (x++y)=true:=GT h1 h2
def we {z:Str}(h:∀c∈z.cps.toList,c<128):cO z=true:=by
 unfold cO
 rw[ZZ]
 intro i hi
 exact decide_eq_true (h _ (by simp))
def Bo {z:Str}(h:cO z=true):∀c∈z.cps.toList,c<128:=by
 intro c hc
 unfold cO at h
 rw[ZZ]at h
 obtain⟨i,hi,e⟩:=List.getElem_of_mem hc
 have:=of_decide_eq_true (h i (by simpa using hi))
 rw[<-e]
 simpa using this
def LC (n:Nat):cO ((toString (n:Int):String):Str)=true:=by
 refine we fun c hc=>?_
 rw[W.KIN.signs_num n]at hc
 obtain⟨ch,hch,e⟩:=VL.mp hc
 have:=digit_range (Nat.isDigit_of_mem_toDigits (by decide) (by decide) hch)
 rw[<-e];lia
def EG {i:Int}(h:0<=i):cO ((toString i:String):Str)=true:=by
 obtain⟨n,rfl⟩:=Ze h
 exact LC n
def Gz {x:Key}(h:okP x=true):cO (fm x)=true:=by
 cases x with
 |inl i=>
  have h:=of_decide_eq_true h
  exact jx (EG h.1) (by decide+kernel)
 |inr z=>
  have h:=(Gn.mp h).1
  exact jx (jx (EG (by lia)) (by decide+kernel)) h
theorem zR:∀{k:List Key},k.all okP=true->cO (hJ k)=true
 |[],_=>by decide+kernel
 |x::r,h=>by
  rw[YZ,WC]at h
  exact jx (Gz h.1) (zR h.2)
theorem Ej:∀{k:List Key},k.all okP=true->szT k<=k.length*100062
 |[],_=>by decide
 |x::r,h=>by
  rw[YZ,WC]at h
  have h1:=Of h.1
  have h2:=Ej h.2
  show((x::r).map szK).sum<=_
  rw[VI,YW,VS,Nat.succ_mul]
  unfold szT at h2
  lia
theorem Bq:∀{k:List Key},k.all okP=true->((k.map fm).map (·.length)).sum<=szT k
 |[],_=>by decide
 |x::r,h=>by
  rw[YZ,WC]at h
  have h1:=zF h.1
  have h2:=Bq h.2
  show(((x::r).map fm).map (·.length)).sum<=((x::r).map szK).sum
  rw[VI,VI,YW,VI,YW]
  unfold szT at h2
  lia
def GJ {z:Str}(h:cO z=true)(l u:Option Int):cO (ZV z l u)=true:=by
 refine we fun c hc=>?_
 unfold ZV at hc
 split at hc
 ·exact Bo h c hc
 ·simp only[List.toList_toArray,ZU]at hc
  obtain⟨i,a,e⟩:=hc
  exact Bo h c (by rw[<-Xm]at e;exact VP e)
def Jh {m x:Int}(h1:1<=m)(h2:m<=9):0<=x%m/\x%m<9:=⟨Ye _ (by lia),Int.lt_of_lt_of_le (XE _ (by lia)) h2⟩
def Ve:∀n:Fin 9,(((toString (((n:Nat):Int)):String):Str)).length=1/\cO ((toString (((n:Nat):Int)):String):Str)=true:=by decide+kernel
def BZ {m:Int}{k:List Key}(h1:1<=m)(h2:m<=9):∃z,AT m k=.inr z/\cO z=true/\z.length<=2/\((toString (gF k%m):String):Str).length=1:=by
 have b:=Jh (x:=gF k) h1 h2
 obtain⟨j,hj⟩:=Ze b.1
 have s:=Ve ⟨j,by lia⟩
 have s:((toString ((j:Nat):Int):String):Str).length=1/\cO ((toString ((j:Nat):Int):String):Str)=true:=s
 rw[<-hj]at s
 refine⟨_,rfl,jx (by decide+kernel) s.2,?_,s.1⟩
 show(WL "s"++WL (toString (gF k%m))).cps.size<=2;have:=s.1;unfold Str.length at this;show((WL "s").cps++(WL (toString (gF k%m))).cps).size<=2;rw[Array.size_append,this];decide
def sL {w:Str}{k:List Key}(hw:okP (.inr w)=true)(hk:∀x∈k,okP x=true)(hl:k.length<=7):okT (.inr w::k)=true:=by
 unfold okT
 refine Gn.mpr ⟨Gn.mpr ⟨decide_eq_true ⟨by simp,by simp;lia⟩,rfl⟩,?_⟩
 rw[YZ,hw]
 exact WB.mpr hk
def Dx {b x y c:Nat}(hx:x<2^b)(hy:y<2^b)(h:EF b x y c):(b:Int)- (WI (((x^^^y:Nat)):Int):Int)=(c:Int):=by
 obtain⟨hc,he,hd⟩:=h
 have lt:x^^^y<2^(b- c):=by
  have h1:(x^^^y)/2^(b- c)=0:=by
   rw[<-WY,aaF,WY,WY,he,Nat.xor_self]
  rcases(Nat.div_eq_zero_iff.mp h1)with h|h
  ·have:=Wv (b- c);lia
  ·exact h
 unfold WI
 by_cases h0:x^^^y=0
 ·rw[h0]
  have hxy:x=y:=xor_zero h0
  rcases hd with rfl|hd
  ·simp
  ·exact(hd (by rw[hxy])).elim
 ·rw[if_neg (by simpa using h0)]
  rcases hd with rfl|hd
  ·simp at lt;lia
  ·by_cases hcb:c=b
   ·subst hcb;simp at lt;lia
   have ge:2^(b- (c+1))<=x^^^y:=by
    apply VZ
    intro hn
    apply hd
    have h1:(x^^^y)/2^(b- (c+1))=0:=Yw (by lia)
    rw[<-WY,aaF,WY,WY]at h1
    exact xor_zero h1
   have hl:(x^^^y).log2=b- (c+1):=by
    rw[Nat.log2_eq_iff h0]
    exact⟨ge,by rw[show b- (c+1)+1=b- c by lia];exact lt⟩
   rw[Int.natAbs_natCast,hl]
   lia
noncomputable def ak (n:Nat):Nat:=2^Zp (n- 1)
def kz (h:List Key->Key):Nat->List Key->List Key
 |0,_=>[.inr "void"]
 |n+1,es=>match es with
  |[]=>[.inr "void"]
  |[e]=>[.inr "entry",e]
  |es=>[.inr "joint",h (kz h n (es.take (ak es.length))),h (kz h n (es.drop (ak es.length)))]
def gf (h:List Key->Key)(es:List Key):List Key:=kz h es.length es
def cJ {n:Nat}(h:2<=n):1<=ak n/\ak n<n:=by
 unfold ak
 have h1:=ach (n:=n- 1) (by lia)
 exact⟨ZY,by lia⟩
def Ac (h:List Key->Key):∀(n m:Nat)(es:List Key),es.length<=n->es.length<=m->kz h n es=kz h m es:=by
 intro n
 induction n with
 |zero=>
  intro m es h1 h2
  cases es with
  |nil=>cases m<;>rfl
  |cons a r=>simp at h1
 |succ n ih=>
  intro m es h1 h2
  cases m with
  |zero=>
   cases es with
   |nil=>rfl
   |cons a r=>simp at h2
  |succ m=>
   match es,h1,h2 with
   |[],_,_=>rfl
   |[e],_,_=>rfl
   |a::b::r,h1,h2=>
    have hl:2<=(a::b::r).length:=by simp
    obtain⟨g1,g2⟩:=cJ hl
    show[_,h (kz h n ((a::b::r).take _)),h (kz h n ((a::b::r).drop _))]=[_,h (kz h m _),h (kz h m _)]
    rw[ih m _ (by rw[VN];lia) (by rw[VN];lia),ih m _ (by rw[Wo];lia) (by rw[Wo];lia)]
def zA (h:List Key->Key){es:List Key}(hl:2<=es.length):gf h es=[.inr "joint",h (gf h (es.take (ak es.length))),h (gf h (es.drop (ak es.length)))]:=by
 obtain⟨g1,g2⟩:=cJ hl
 unfold gf
 match es,hl with
 |a::b::r,hl=>
  show[_,h (kz h ((b::r).length) ((a::b::r).take _)),h (kz h ((b::r).length) ((a::b::r).drop _))]=_
  have e:(a::b::r).length=(b::r).length+1:=rfl
  rw[Ac h ((b::r).length) ((a::b::r).take (ak (a::b::r).length)).length _ (by rw[VN];lia) (sn _),Ac h ((b::r).length) ((a::b::r).drop (ak (a::b::r).length)).length _ (by rw[Wo];lia) (sn _)]
def CK {a c:Nat}(h1:1<=c)(h2:c<=2^a):ak (2^a+c)=2^a:=by
 unfold ak
 congr 1
 have hp:0<2^a:=Wv a
 have e1:2^(a+1)=2^a+2^a:=by rw[Xv];lia
 have n0:2^a+c- 1≠0:=by lia
 have lo:a<=Zp (2^a+c- 1):=(Nat.le_log2 n0).mpr (by lia)
 have hi:Zp (2^a+c- 1)<a+1:=(aay n0).mpr (by lia)
 lia
def GE {m:Nat}(h2:2<=m):(WI ((m:Int)- 1):Int)- 1=((Zp (m- 1):Nat):Int):=by
 unfold WI
 rw[if_neg (by simp;lia)]
 have:((m:Int)- 1).natAbs=m- 1:=by lia
 rw[this];lia
def LW {m:Nat}(h:2<=m):m<=2*ak m:=by
 unfold ak
 have:=Nat.lt_log2_self (n:=m- 1)
 rw[Xv]at this;lia
def trF:Nat->Nat->Nat->List Int
 |0,_,_=>[]
 |n+1,m,e=>if e=0\/m<=e then[]else if e<=ak m then 0::trF n (ak m) e else 1::trF n (m- ak m) (e- ak m)
noncomputable def jtT (t:Int)(o a:Key):List Key:=if t=0 then[.inr "joint",o,a]else[.inr "joint",a,o]
def fS:Nat->Nat->Nat->List Int
 |0,_,_=>[]
 |n+1,r,p=>if r<=1 then[]else if p<ak r then 0::fS n (ak r) p else 1::fS n (r- ak r) (p- ak r)
end Rs
namespace Rs
open PySem PySem.Spec PyProof.Rows L2 Ww
def Nv:W->Bool
 |.int _=>true
 |_=>false
noncomputable def stW:W->Bool
 |.int i=>decide (0<=i/\i<10^60)
 |.str _=>true
 |_=>false
def sh (h:cO z=true):acm z=true:=by
 unfold cO at h
 show z.cps.all _=true
 rw[ZZ]at h⊢
 exact fun i hi=>by have:=h i hi;simp only[decide_eq_true_eq]at this⊢;lia
def stK (h:okP k=true):stW (kW k)=true:=by cases k;exact h;rfl
def Ei {k:List Key}(h:okT k=true):k.length<=8:=by
 unfold okT at h
 simp only[WC,decide_eq_true_eq]at h
 exact h.1.1.2
def tyK (k:Key):∃t,tyW h (kW k)=some t:=by cases k;exact⟨_,rfl⟩;exact⟨_,rfl⟩
theorem CT:∀{a b:Key},kW a=kW b->a=b
 |.inl _,.inl _,e=>by injection e with e;subst e;rfl
 |.inr _,.inr _,e=>by injection e with e;subst e;rfl
 |.inl _,.inr _,e=>by injection e
 |.inr _,.inl _,e=>by injection e
def ncK (k:Key):nc (kW k)=true:=by cases k<;>rfl
theorem Pr:∀k:List Key,ncs (k.map kW)=true
 |[]=>rfl
 |a::l=>by show(nc (kW a)&&ncs (l.map kW))=true;rw[ncK,Pr l];rfl
def scK (k:Key):sc (kW k)=true:=by cases k<;>rfl
inductive vo (l:List W)(h:WH)(Q:WQ):Prop
 |mk (x t):l=[x]->tyW h x=some t->Q (.bl (Nv x)) h->vo l h Q
def vk:WP:=fun l h Q a=>vo l h Q
def CF:LnW vk 1:=by rintro l h Q X ⟨x,t,rfl,a⟩;rfl
def Bz (e:tyW h x=some t):(isI t "int"=true/\isI t "bool"=false/\(∃i,x=.int i))\/(isI t "int"=true/\isI t "bool"=true/\∃b,x=.bl b)\/(isI t "int"=false/\Nv x=false/\(isI t "str"=true↔∃z,x=.str z)/\(isI t "tuple"=true↔∃l,x=.tup l)/\∀i,x≠.int i):=by
 cases x<;>first|(cases e;done)|skip
 ·obtain rfl:=VR e;exact .inr (.inr ⟨by decide,rfl,by simp;decide,by simp;decide,nofun⟩)
 ·obtain rfl:=VR e;exact .inr (.inl ⟨by decide,by decide,_,rfl⟩)
 ·obtain rfl:=VR e;exact .inl ⟨by decide,by decide,_,rfl⟩
 ·obtain rfl:=VR e;exact .inr (.inr ⟨by decide,rfl,by simp;decide,by simp;decide,nofun⟩)
 ·rename_i a
  have e:(match h a with|some (.lst _)=>some "list"|some (.dK _)=>some "dict"|some (.dT _)=>some "dict"|_=>none)=some t:=e
  split at e<;>first|(cases e;done)|skip
  all_goals (obtain rfl:=VR e;exact .inr (.inr ⟨by decide,rfl,by simp;decide,by simp;decide,nofun⟩))
 ·obtain rfl:=VR e;exact .inr (.inr ⟨by decide,rfl,by simp;decide,by simp;decide,nofun⟩)
 ·obtain rfl:=VR e;exact .inr (.inr ⟨by decide,rfl,by simp;decide,by simp;decide,nofun⟩)
inductive uL (l:List W)(h:WH)(Q:WQ):Prop
 |mk (x t):l=[x]->tyW h x=some t->Q (.bl (stW x)) h->uL l h Q
def uM:WP:=fun l h Q a=>uL l h Q
def Co:LnW uM 1:=by rintro l h Q X ⟨x,t,rfl,a⟩;rfl
inductive wX (l:List W)(h:WH)(Q:WQ):Prop
 |mk (k):l=[.tup (k.map kW)]->okT k=true->Q (.bl true) h->wX l h Q
def xF:WP:=fun l h Q a=>wX l h Q
def Dr:LnW xF 1:=by rintro l h Q X ⟨k,rfl,a⟩;rfl
def at0 {α:Type}{x:α}{l:List α}:atI (x::l) 0=some x:=bA (j:=0) rfl
theorem zC {te:TWE}{gd:WH->Prop}{Q:WQ}{f:W->W}(hg:∀h,gd h):∀{its acc:List W}{u:List V}{h:WH},acc.length+its.length<=sizeLine->(∀x∈its,∀h Q,Q (f x) h->te (some x::cp) h Q X0)->h p=some (.opq u)->(∀h',(∀a,a≠p->h' a=h a)->h' p=none->Q (.fl (acc++its.map f)) h')->vI wTt te cp gd p Q its acc u h
 |[],acc,u,h,_,_,e,q=>.inr ⟨fun a=>if a=p then none else h a,(fun a o z=>by
  dsimp only at z
  split at z
  ·injection z
  ·exact z),if_pos rfl,by
  have:=q (fun a=>if a=p then none else h a) (fun a n=>if_neg n) (if_pos rfl)
  rwa [Zj,Wc]at this⟩
 |x::its,acc,u,h,hl,ht,e,q=>Sel.t (ht x cW h _ ⟨e,by simp at hl;lia,fun u'=>⟨hg _,zC hg (by simp at hl⊢;lia) (fun y hy=>ht y (Vu _ hy)) ao fun h' k n=>by
  have:=q h' (fun a na=>by rw[k a na,ag na]) n
  rw[VI,ab6]at this;exact this⟩⟩)
def jq {wi:TWI}{te:TWE}{Q:WQ}{its:List W}{f:W->W}(hi:∀Qi:ItW->WH->Prop,Qi ⟨its,fun a=>True⟩ h->wi ws h Qi X)(hl:its.length<=sizeLine)(ht:∀x∈its,∀h Q,Q (f x) h->te (some x::pd ws is) h Q X0)(q:Q (.fl (its.map f)) h):Ba is wi wTt te ws h Q X:=
 hi _ fun p u hp=>⟨trivial,zC (f:=f) (fun a=>trivial) (by simpa using hl) ht ao fun h' k n=>by
  have:h'=h:=funext fun b=>by
   by_cases z:b=p
   ·subst z;rw[n,hp]
   ·rw[k b z,ag z]
  rw[this];exact q⟩
theorem gl {g:TWG}{gd:WH->Prop}(P:List W->WS->WH->Prop)(turn:∀x r ws h (N:WS->WH->Prop)(R:WQ)(F:Er->WS->WH->Prop)(B C:WS->WH->Prop),P (x::r) ws h->(∀ws' h',P r ws' h'->N ws' h')->g x ws fun ws'=>t ⟨fun ws h=>gd h/\N ws h,R,F,B,C⟩ ws' h)
  (done:∀ws h,P [] ws h->D.nx ws h):∀{its:List W}{ws:WS}{h:WH},P its ws h->sJ g t gd its D ws h
 |[],ws,h,p=>done ws h p
 |x::r,ws,h,p=>turn x r ws h _ _ _ _ _ p fun ws' h' q=>gl P turn done q
def AQ {c:TWT}(P:Nat->WS->WH->Prop)(turn:∀m ws h (K:WS->WH->Prop)(R:WQ)(F:Er->WS->WH->Prop)(B:WS->WH->Prop),P m ws h->(∀m' ws' h',m'<m->P m' ws' h'->K ws' h')->c ws h (fun b h1=>Sel b (t ⟨K,R,F,B,K⟩ ws h1) (D.nx ws h1)) fun e h1=>D.er e ws h1)(p:P m ws h):wWh c t D ws h:=by
 have:∀n m ws h,m<n->P m ws h->whW c t n D ws h:=fun n=>by
  induction n with
  |zero=>intro m ws h hm;lia
  |succ n ih=>exact fun m ws h hm p=>turn m ws h _ _ _ _ p fun m' ws' h' hl p'=>ih m' ws' h' (by lia) p'
 exact⟨m+1,this _ m ws h (Wx m) p⟩
abbrev bU:=gOp
def Ex (g g':bU):Prop:=∀k m,g k=some m->g' k=some m
def Ex.rfl':Ex g g:=fun a a e=>e
def Ex.trans (a:Ex g g')(b:Ex g' g2):Ex g g2:=fun c c e=>b _ _ (a _ _ e)
def tb (l:List (List Key×Key)):List (List Key×W):=l.map fun p=>(p.1,kW p.2)
noncomputable def lk (l:List (List Key×Key)):bU:=fun k=>(l.find? fun p=>decide (p.1=k)).map (·.2)
def lc (l:List (List Key×Key))(k:List Key):gK (tb l) k=(lk l k).map kW:=by
 induction l with
 |nil=>rfl
 |cons p l ih=>
  unfold gK tb lk at*
  rw[VI,VY,VY]
  by_cases e:p.1=k
  ·simp[e]
  ·simp only[e,decide_false];exact ih
def sW {k:List Key}(h:lk l k=none)(j:List Key):lk (l++[(k,m)]) j=if j=k then some m else lk l j:=by
 unfold lk at*
 rw[abR]
 by_cases e:j=k
 ·subst e
  rw[if_pos rfl,YV.mp h]
  simp
 ·rw[if_neg e]
  cases l.find? fun p=>decide (p.1=j)with
  |some x=>rfl
  |none=>simp[VY,ab e]
def AN (m:Key)(h:lk l k=none):pK (tb l) k (kW m)=tb (l++[(k,m)]):=by
 unfold pK
 rw[if_neg,show tb (l++[(k,m)])=tb l++[(k,kW m)]from by simp[tb]]
 intro z
 obtain⟨p,hp,e⟩:=Yu.mp z
 obtain⟨q,hq,rfl⟩:=VL.mp hp
 unfold lk at h
 have:=YV.mp h
 rw[abH]at this
 exact this q hq e
def one (h:WH)(d:Addr):WH:=fun a=>if a=d then h a else none
def gM {h:WH}:one h d d=h d:=if_pos rfl
def CC (n:a≠d):one h d a=none:=if_neg n
def tT:Sub (one h d) h:=fun a o e=>by
 unfold one at e;split at e
 ·exact e
 ·injection e
def El {h:WH}(e:h d=some o):mrg (one h d) (up (one h d) d o') h=up h d o':=by
 funext a
 by_cases z:a=d
 ·subst z;rw[vE (o:=o) (gM.trans e),ao,ao]
 ·rw[pe (CC z),ag z]
def Cr (s:Sub g h):mrg g g h=h:=by
 funext a
 cases e:g a with
 |none=>rw[pe e]
 |some o=>rw[vE e,e,s _ _ e]
def AW (l:List (List Key×Key)):scO (.dT (tb l)):=fun p hp=>by obtain⟨q,a,rfl⟩:=VL.mp hp;exact scK _
def dt:WP:=fun l h Q a=>∃d kv k,l=[.obj 26 [("given",.ref d)],.tup (k.map kW)]/\okT k=true/\h d=some (.dT (tb kv))/\kv.length<10000000/\(∀m,lk kv k=some m->Q (kW m) h)/\(lk kv k=none->Q (.int kv.length) (up h d (.dT (tb (kv++[(k,.inl kv.length)])))))
def lY:LnW dt 2:=by rintro l h Q X ⟨d,kv,k,rfl,a⟩;rfl
def eW:WP:=fun l h Q X=>∃d kv k,l=[.tup (k.map kW),.obj 26 [("given",.ref d)]]/\dt [.obj 26 [("given",.ref d)],.tup (k.map kW)] h Q X/\okT k=true/\h d=some (.dT (tb kv))
def yD:TWE:=wM [(26,dt)] "number_of" (bJ 1) (dc (bJ 0) (eS))
def ly {α:Type}{l c:List α}{a b:α}(hl:l.length=1)(e:l++c=[a,b]):l=[a]/\c=[b]:=by
 cases l with
 |nil=>injection hl
 |cons x l=>cases l with
  |nil=>cases e;exact⟨rfl,rfl⟩
  |cons y l=>cases hl
def xI:∀l c h Q X,l.length=1->c.length=1->eW (l++c) h Q X->yD (fX 2 l c) h (Fz Q) (Xs X):=by
 rintro l c h Q X hl hc ⟨d,kv,k,e,q,ok,ed⟩
 obtain⟨rfl,rfl⟩:=ly hl e
 refine⟨26,_,_,.inl rfl,cW,rfl,?_⟩
 obtain⟨d',kv',k',e1,r⟩:=q
 exact⟨d',kv',k',e1,r.1,r.2.1,r.2.2.1,fun m e=>.id (r.2.2.2.1 m e),fun e=>.id (r.2.2.2.2 e)⟩
def dM:WP:=fun l h Q a=>∃d kv k,l=[.tup (k.map kW),.ref d]/\h d=some (.dT (tb kv))/\kv.length<10000000/\(∀m,lk kv k=some m->Q (kW m) h)/\(lk kv k=none->Q (.int (3*kv.length+5)) (up h d (.dT (tb (kv++[(k,.inl (3*kv.length+5))])))))
def rq:TWE:=wBM "dict" Kq (bJ 1) (dc (bJ 0) (dc (wOp yL (wOp PV (wC (.int 3)) (wCB yV (dc (bJ 1) (eS)))) (wC (.int 5))) (eS)))
def qS:∀l c h Q X,l.length=1->c.length=1->dM (l++c) h Q X->rq (fX 2 l c) h (Fz Q) (Xs X):=by
 rintro l c h Q X hl hc ⟨d,kv,k,e,ed,hk,q1,q2⟩
 obtain⟨rfl,rfl⟩:=ly hl e
 have tl:(tb kv).length=kv.length:=by simp[tb]
 refine⟨.inr ⟨rfl,.inr ⟨_,ed⟩⟩,.inr (.inr ⟨_,ed,?_⟩)⟩
 rw[tl]
 refine⟨Xh (by decide),d,_,_,rfl,rfl,?_⟩
 cases hk':lk kv k with
 |some m=>exact .inl ⟨kW m,by have:=DW.t (k:=k) ed;rw[lc,hk']at this;exact this,.id (q1 m hk')⟩
 |none=>
  refine .inr ⟨_,by have:=DW.t (k:=k) ed;rw[lc,hk']at this;exact this,.t ed (by rw[VE,tl];lia),.id ?_⟩
  have:=AN (.inl (3*kv.length+5)) hk'
  show Q _ (up h d (.dT (pK (tb kv) k (kW (.inl (3*(kv.length:Int)+5))))))
  rw[this];exact q2 hk'
def av (h:n<=1000000):n<=sizeLine:=by rw[VE];lia
def GC:(("":String):Str)=XA:=by decide
theorem Kf:∀xs:List Str,Str.join "" xs=xs.foldr (· ++ ·) XA
 |[]=>rfl
 |[x]=>(ace x).symm
 |x::y::r=>by
  show x++(("":String):Str)++Str.join "" (y::r)=x++(y::r).foldr (· ++ ·) XA
  rw[Kf (y::r),GC,ace]
def EE (xs:List Str):Txt.join "" xs=xs.foldr (·++·) XA:=(eq_of_beq (join_plain_closes "" xs)).trans (Kf xs)
inductive vp (l:List W)(h:WH)(Q:WQ):Prop
 |mk (k):l=[.tup (k.map kW)]->okT k=true->Q (.int (gF k)) h->vp l h Q
def gX:WP:=fun l h Q a=>vp l h Q
def Be:LnW gX 1:=by rintro l h Q X ⟨k,rfl,a⟩;rfl
def dJ:WP:=fun l h Q a=>∃k m,l=[.tup (k.map kW),.int m]/\okT k=true/\(1<=m/\m<=9)/\Q (.int (gF k%m)) h
def sY:TWE:=wOp IZ (gS gX (dc (bJ 0) (eS))) (bJ 1)
def qQ:∀l c h Q X,l.length=1->c.length=1->dJ (l++c) h Q X->sY (fX 2 l c) h (Fz Q) (Xs X):=by
 rintro l c h Q X hl hc ⟨k,m,e,ok,hm,q⟩
 obtain⟨rfl,rfl⟩:=ly hl e
 exact⟨k,rfl,ok,by lia,.id q⟩
def dN:WP:=fun l h Q a=>∃k m,l=[.tup (k.map kW),.int m]/\okT k=true/\(1<=m/\m<=9)/\Q (kW (AT m k)) h
def sF:TWE:=wOp yL (wC (.str "s")) (wCB ID (dc (wOp IZ (gS gX (dc (bJ 0) (eS))) (bJ 1)) (eS)))
def qJ:∀l c h Q X,l.length=1->c.length=1->dN (l++c) h Q X->sF (fX 2 l c) h (Fz Q) (Xs X):=by
 rintro l c h Q X hl hc ⟨k,m,e,ok,hm,q⟩
 obtain⟨rfl,rfl⟩:=ly hl e
 have b:=Jh (x:=gF k) hm.1 hm.2
 obtain⟨a,a,a,a,s1⟩:=BZ (k:=k) hm.1 hm.2
 refine⟨k,rfl,ok,by lia,rZ b.1 (show gF k%m<10^60 by have:=b.2;lia),?_,.id q⟩
 rw[s1,ju "s"];exact av (by decide)
inductive rD (l:List W)(h:WH)(Q:WQ):Prop
 |mk (x):l=[kW x]->okP x=true->Q (.str (fm x)) h->rD l h Q
def qW:WP:=fun l h Q a=>rD l h Q
def AF:LnW qW 1:=by rintro l h Q X ⟨x,rfl,a⟩;rfl
inductive yc (l:List W)(h:WH)(Q:WQ):Prop
 |mk (k):l=[.tup (k.map kW)]->okT k=true->Q (.str (hJ k)) h->yc l h Q
def jm:WP:=fun l h Q a=>yc l h Q
def DN:LnW jm 1:=by rintro l h Q X ⟨x,rfl,a⟩;rfl
def ft:WP:=jm
def AH:TWE:=gS jm (dc (bJ 0) (eS))
def zv:∀l c h Q X,l.length=1->c.length=0->ft (l++c) h Q X->AH (fX 1 l c) h (Fz Q) (Xs X):=by
 rintro l c h Q X hl hc ⟨k,e,ok,q⟩
 cases c with
 |cons=>injection hc
 |nil=>
  rw[Wc]at e;subst e
  exact⟨k,rfl,ok,.id q⟩
def ks1:List (Nat×WP):=[(0,ft),(1,eW),(2,dM),(3,dJ),(4,dN)]
def Kp (b:Addr)(h h':WH):Prop:=∀a,a≠b->h' a=h a
def Kp.rfl':Kp b h h:=fun a a=>rfl
def Kp.trans (x:Kp b h h')(y:Kp b h' h2):Kp b h h2:=fun a n=>(y a n).trans (x a n)
def Lin (c d:Int)(kv:List (List Key×Key)):Prop:=∀(i:Nat)(p:List Key×Key),kv[i]?=some p->p.2=.inl (c*(i:Int)+d)
inductive aw (h:WH)(b:Addr)(w:Bool)(g:bU)(n:Nat):Nat->List W->Prop
 |wri:w=true->(∃o,h b=some o)->g=(fun k=>some (.inr (hJ k)))->aw h b w g n 0 []
 |cnt (kv):w=false->h b=some (.dT (tb kv))->kv.length<=n->Lin 1 0 kv->g=lk kv->aw h b w g n 1 [.obj 26 [("given",.ref b)]]
 |sur (kv):w=false->h b=some (.dT (tb kv))->kv.length<=n->Lin 3 5 kv->g=lk kv->aw h b w g n 2 [.ref b]
 |wea (m):w=false->(∃o,h b=some o)->1<=m/\m<=9->g=(fun k=>some (.inl (gF k%m)))->aw h b w g n 3 [.int m]
 |weS (m):w=false->(∃o,h b=some o)->1<=m/\m<=9->g=(fun k=>some (AT m k))->aw h b w g n 4 [.int m]
def aw.le (s:aw h b w g n i c)(l:n<=m):aw h b w g m i c:=by
 cases s with
 |wri a o e=>exact .wri a o e
 |cnt kv a e e1 e2 e3=>exact .cnt kv a e (by lia) e2 e3
 |sur kv a e e1 e2 e3=>exact .sur kv a e (by lia) e2 e3
 |wea m a o e1 e2=>exact .wea m a o e1 e2
 |weS m a o e1 e2=>exact .weS m a o e1 e2
def aw.am {h h':WH}(s:aw h b w g n i c)(e:h' b=h b):aw h' b w g n i c:=by
 cases s with
 |wri a o e1=>exact .wri a (by rw[e];exact o) e1
 |cnt kv a e0 e1 e2 e3=>exact .cnt kv a (e.trans e0) e1 e2 e3
 |sur kv a e0 e1 e2 e3=>exact .sur kv a (e.trans e0) e1 e2 e3
 |wea m a o e1 e2=>exact .wea m a (by rw[e];exact o) e1 e2
 |weS m a o e1 e2=>exact .weS m a (by rw[e];exact o) e1 e2
def aw.bk {h:WH}(s:aw h b w g n i c):∃o,h b=some o:=by
 cases s with
 |wri a o e1=>exact o
 |cnt kv a e0 e1 e2 e3=>exact⟨_,e0⟩
 |sur kv a e0 e1 e2 e3=>exact⟨_,e0⟩
 |wea m a o e1 e2=>exact o
 |weS m a o e1 e2=>exact o
def aw.ne {h:WH}(s:aw h b w g n i c)(e:h p=none):p≠b:=fun z=>by
 obtain⟨o,q⟩:=s.bk;rw[<-z,e]at q;injection q
def Lin.app {kv:List (List Key×Key)}(l:Lin c d kv):Lin c d (kv++[(k,.inl (c*(kv.length:Int)+d))]):=fun i p e=>by
 rw[Zr]at e
 split at e
 ·exact l i p e
 ·rename_i h
  have:i=kv.length:=by
   apply VZ;intro z
   rw[Wa (by simp;lia)]at e;injection e
  subst this
  rw[aag]at e;obtain rfl:=VR e;rfl
def Lin.val {kv:List (List Key×Key)}(l:Lin c d kv)(e:lk kv k=some v):∃i:Nat,i<kv.length/\v=.inl (c*(i:Int)+d):=by
 unfold lk at e
 obtain⟨p,hp,rfl⟩:=WM.mp e
 obtain⟨i,hi⟩:=Wu.mp (aaH hp)
 exact⟨i,(Vz.mp hi).1,l i p hi⟩
def Gk (h:lk kv k=none):Ex (lk kv) (lk (kv++[(k,m)])):=fun j v e=>by
 rw[sW h]
 by_cases z:j=k
 ·subst z;rw[h]at e;injection e
 ·rw[if_neg z];exact e
def big:Nat:=9000000
def yX {h:WH}(so:scO o)(e:h b=some o):∀a u,one h b a=some u->scO u:=fun a u z=>by
 by_cases q:a=b
 ·subst q;rw[gM,e]at z;obtain rfl:=VR z;exact so
 ·rw[CC q]at z;injection z
def EN {h:WH}(e:h b=some o)(so:scO o'):inA (one h b) (up (one h b) b o'):=fun a u z=>by
 by_cases q:a=b
 ·subst q;rw[ao]at z;obtain rfl:=VR z;exact⟨⟨o,gM.trans e⟩,so⟩
 ·rw[ag q,CC q]at z;injection z
def CL {h:WH}(e:h b=some o)(so:scO o):inA (one h b) (one h b):=fun a u z=>⟨⟨u,z⟩,yX so e a u z⟩
def xW (h0:0<=i)(h:i<100000000):okP (.inl i)=true:=decide_eq_true ⟨h0,Ys h (by decide)⟩
def aw.call {Q:WQ}{X:WX}(s:aw h b w g n i c)(ok:okT k=true)(hn:n<=big)(hw:w=true->szT k<=99000)
  (q:∀v g' h',Kp b h h'->aw h' b w g' (n+1) i c->Ex g g'->g' k=some v->okP v=true->(w=true->szK v<=szT k+62)->Q (kW v) h'):oZ 1 ks1 i c [.tup (k.map kW)] h Q X:=by
 unfold big at hn
 have hnc:ncs [W.tup (k.map kW)]=true:=by show(ncs (k.map kW)&&true)=true;rw[Pr];rfl
 have pure:∀{v:Key}{c':List W}{i:Nat}{sp:WP},(i,sp)∈ks1->aw h b w g n i c->ncs c=true->g k=some v->okP v=true->(w=true->szK v<=szT k+62)->(∀v g' h',Kp b h h'->aw h' b w g' (n+1) i c->Ex g g'->g' k=some v->okP v=true->(w=true->szK v<=szT k+62)->Q (kW v) h')->(∀Q' X',Q' (kW v) (fun d=>none)->sp ([.tup (k.map kW)]++c) (fun d=>none) Q' X')->oZ 1 ks1 i c [.tup (k.map kW)] h Q X:=fun m s n0 e1 e2 e3 q r=>
  .mk ⟨_,fun d=>none,c,m,rfl,nofun,nofun,Wks.rfl',hnc,n0,r _ _ ⟨scK _,nofun,by
   have:mrg (fun d=>none) (fun d=>none) h=h:=rfl
   rw[this];exact q _ g h Kp.rfl' (s.le (by lia)) Ex.rfl' e1 e2 e3⟩⟩
 cases s with
 |wri a ob e=>
  have l1:=zD (mM ok)
  refine pure (c':=[]) (v:=.inr (hJ k)) (sp:=ft) (by simp[ks1]) (.wri a ob e) rfl (by rw[e]) ?_ (fun d=>?_) q fun Q' X' q'=>⟨k,rfl,ok,q'⟩
  ·exact Gn.mpr ⟨zR (mM ok),decide_eq_true (by have:=hw a;lia)⟩
  ·show(hJ k).length+62<=_;lia
 |wea m a ob hm e=>
  have:=Jh (x:=gF k) hm.1 hm.2
  exact pure (c':=[]) (v:=.inl (gF k%m)) (sp:=dJ) (by simp[ks1]) (.wea m a ob hm e) rfl (by rw[e]) (decide_eq_true ⟨this.1,by lia⟩) (fun z=>by rw[a]at z;injection z) q fun Q' X' q'=>⟨k,m,rfl,ok,hm,q'⟩
 |weS m a ob hm e=>
  obtain⟨z,e1,e2,e3,d⟩:=BZ (k:=k) hm.1 hm.2
  exact pure (c':=[]) (v:=AT m k) (sp:=dN) (by simp[ks1]) (.weS m a ob hm e) rfl (by rw[e]) (by rw[e1];exact Gn.mpr ⟨e2,decide_eq_true (by lia)⟩) (fun z=>by rw[a]at z;injection z) q fun Q' X' q'=>⟨k,m,rfl,ok,hm,q'⟩
 |cnt kv a e el li eg=>
  have so:=AW kv
  refine .mk ⟨eW,one h b,_,by simp[ks1],rfl,tT,yX so e,Wks.rfl',hnc,rfl,b,kv,k,rfl,⟨b,kv,k,rfl,ok,gM.trans e,by lia,fun m hm=>⟨scK m,CL e so,?_⟩,fun hm=>⟨rfl,EN e (AW _),?_⟩⟩,ok,gM.trans e⟩
  ·rw[Cr tT]
   obtain⟨j,hj,rfl⟩:=li.val hm
   refine q (.inl (1*(j:Int)+0)) g h Kp.rfl' (.cnt kv a e (by lia) li eg) Ex.rfl' (by rw[eg];exact hm) (xW (by lia) (by lia)) (fun z=>by rw[a]at z;injection z)
  ·rw[El e]
   have l2:Lin 1 0 (kv++[(k,.inl (kv.length:Int))]):=by have:=li.app (k:=k);rw[Int.one_mul,Int.add_zero]at this;exact this
   exact q (.inl (kv.length:Int)) (lk (kv++[(k,.inl (kv.length:Int))])) _ (fun x n=>ag n) (.cnt _ a ao (by simp;lia) l2 rfl) (by rw[eg];exact Gk hm) (by rw[sW hm,if_pos rfl]) (xW (by lia) (by lia)) (fun z=>by rw[a]at z;injection z)
 |sur kv a e el li eg=>
  have so:=AW kv
  refine .mk ⟨dM,one h b,_,by simp[ks1],rfl,tT,yX so e,Wks.rfl',hnc,rfl,b,kv,k,rfl,gM.trans e,by lia,fun m hm=>⟨scK m,CL e so,?_⟩,fun hm=>⟨rfl,EN e (AW _),?_⟩⟩
  ·rw[Cr tT]
   obtain⟨j,hj,rfl⟩:=li.val hm
   refine q (.inl (3*(j:Int)+5)) g h Kp.rfl' (.sur kv a e (by lia) li eg) Ex.rfl' (by rw[eg];exact hm) (xW (by lia) (by lia)) (fun z=>by rw[a]at z;injection z)
  ·rw[El e]
   exact q (.inl (3*(kv.length:Int)+5)) (lk (kv++[(k,.inl (3*(kv.length:Int)+5))])) _ (fun x n=>ag n) (.sur _ a ao (by simp;lia) li.app rfl) (by rw[eg];exact Gk hm) (by rw[sW hm,if_pos rfl]) (xW (by lia) (by lia)) (fun z=>by rw[a]at z;injection z)
def Ext (g:bU)(h:List Key->Key):Prop:=∀k v,g k=some v->h k=v
def Ext.of {h:List Key->Key}(e:Ext g' h)(x:Ex g g'):Ext g h:=fun k v z=>e k v (x k v z)
def aw.kind (s:aw h b w g n i c):∃sp,(i,sp)∈ks1:=by
 cases s<;>simp[ks1]
def _root_.Ww.Fz.b {Q:WQ}{h:WH}{b:Bool}(e:b=true)(q:Q (.bl true) h):Fz Q (.bl b) h:=by rw[e];exact .id q
def _root_.Ww.Fz.i {Q:WQ}{h:WH}{i j:Int}(e:i=j)(q:Q (.int j) h):Fz Q (.int i) h:=by rw[e];exact .id q
inductive yb (l:List W)(h:WH)(Q:WQ):Prop
 |mk (i:Nat):l=[.int i]->1<=i->i<=60->Q (.bl true) h->yb l h Q
def wx:WP:=fun l h Q a=>yb l h Q
def DD:LnW wx 1:=by rintro l h Q X ⟨x,rfl,a⟩;rfl
def xh (n:Nat):(1:Int)*2^(n:Int).toNat=((2^n:Nat):Int):=by rw[Int.one_mul,Yq,FI]
inductive vg (l:List W)(h:WH)(Q:WQ):Prop
 |mk (i:Nat):l=[.int i]->i<1000000->Q (.bl true) h->vg l h Q
def uO:WP:=fun l h Q a=>vg l h Q
def BU:LnW uO 1:=by rintro l h Q X ⟨x,rfl,a⟩;rfl
def hdW (c:Nat)(m:Key):W:=.tup [.int c,kW m]
inductive wv (l:List W)(h:WH)(Q:WQ):Prop
 |mk (c:Nat) (m:Key):l=[hdW c m]->c<1000000->okP m=true->Q (.bl true) h->wv l h Q
def xj:WP:=fun l h Q a=>wv l h Q
def DE:LnW xj 1:=by rintro l h Q X ⟨x,m,rfl,a⟩;rfl
inductive qt (l:List W)(h:WH)(Q:WQ):Prop
 |mk (c:Nat) (m:Key):l=[hdW c m]->c<1000000->okP m=true->Q .non h->qt l h Q
def qd:WP:=fun l h Q a=>qt l h Q
def yR:LnW qd 1:=by rintro l h Q X ⟨x,m,rfl,a⟩;rfl
inductive zO (l:List W)(h:WH)(Q:WQ):Prop
 |mk (b k:Nat):l=[.int b,.int k]->b<=60->k<2^b->Q (.bl true) h->zO l h Q
def zX:WP:=fun l h Q a=>zO l h Q
def Ge:LnW zX 2:=by rintro l h Q X ⟨x,m,rfl,a⟩;rfl
inductive uH (l:List W)(h:WH)(Q:WQ):Prop
 |mk (z:Str):l=[.str z]->z.length<=60->Q (.bl true) h->uH l h Q
def uU:WP:=fun l h Q a=>uH l h Q
def CZ:LnW uU 1:=by rintro l h Q X ⟨x,rfl,a⟩;rfl
inductive DX (l:List W)(h:WH)(Q:WQ):Prop
 |mk (b k d:Nat):l=[.int b,.int k,.int d]->d<b->Q (.int (sd b k d:Nat)) h->DX l h Q
def EO:WP:=fun l h Q a=>DX l h Q
def JF:LnW EO 3:=by rintro l h Q X ⟨x,y,z,rfl,a⟩;rfl
inductive Ck (l:List W)(h:WH)(Q:WQ):Prop
 |mk (b k d:Nat):l=[.int b,.int k,.int d]->d<=b->Q (.int (st b k d:Nat)) h->Ck l h Q
def BD:WP:=fun l h Q a=>Ck l h Q
def Im:LnW BD 3:=by rintro l h Q X ⟨x,y,z,rfl,a⟩;rfl
inductive BR (l:List W)(h:WH)(Q:WQ):Prop
 |mk (b x y:Nat):l=[.int b,.int x,.int y]->x<2^b->y<2^b->Q (.int (al b x y:Nat)) h->BR l h Q
def Bl:WP:=fun l h Q a=>BR l h Q
def Hr:LnW Bl 3:=by rintro l h Q X ⟨x,y,z,rfl,a⟩;rfl
inductive ED (l:List W)(h:WH)(Q:WQ):Prop
 |mk (m:Nat):l=[.int m]->2<=m->m<=1000->Q (.int (ak m:Nat)) h->ED l h Q
def Ed:WP:=fun l h Q a=>ED l h Q
def II:LnW Ed 1:=by rintro l h Q X ⟨x,rfl,a⟩;rfl
inductive uI (l:List W)(h:WH)(Q:WQ):Prop
 |mk (c e:Nat):l=[.int c,.int e]->c<1000000->e<=c->Q (.bl true) h->uI l h Q
def vc:WP:=fun l h Q a=>uI l h Q
def Bt:LnW vc 2:=by rintro l h Q X ⟨x,y,rfl,a⟩;rfl
inductive vn (l:List W)(h:WH)(Q:WQ):Prop
 |mk (c e:Nat):l=[.int c,.int e]->c<1000000->e<c->Q (.bl true) h->vn l h Q
def uA:WP:=fun l h Q a=>vn l h Q
def BH:LnW uA 2:=by rintro l h Q X ⟨x,y,rfl,a⟩;rfl
inductive sU (l:List W)(h:WH)(Q:WQ):Prop
 |mk (n:Nat) (ms:List Key):l=[.int n,.tup (ms.map kW)]->ms.length=n->n<=1000->(∀m∈ms,okP m=true)->Q (.bl true) h->sU l h Q
def rK:WP:=fun l h Q a=>sU l h Q
def Av:LnW rK 2:=by rintro l h Q X ⟨x,y,rfl,a⟩;rfl
def gU:List Key:=[.inr "bare"]
def jj (k:Nat)(t:Str):List Key:=[.inr "leaf",.inl (k:Int),.inr t]
noncomputable def gZ (d b:Nat)(l r:Key):List Key:=[.inr "fork",.inl (d:Int),.inl (b:Int),l,r]
abbrev tmW (k:List Key):W:=.tup (k.map kW)
def Sml (w:Bool)(B:Nat)(v:Key):Prop:=okP v=true/\(w=true->szK v<=B)
def Sml.le (s:Sml w B v)(l:B<=C):Sml w C v:=⟨s.1,fun e=>VO (s.2 e) l⟩
def szN:Kn Str->Nat
 |.bare=>128
 |.leaf _ _=>312
 |.fork _ _ l r=>252+szN l+szN r
def txO (t:Str):Prop:=cO t=true/\t.length<=60
inductive KnV (w:Bool)(g:bU):W->Kn Str->Key->Prop
 |bare {m}:g gU=some m->Sml w 128 m->KnV w g (.obj 21 [("term",tmW gU),("mark",kW m)]) .bare m
 |leaf {k t m}:g (jj k t)=some m->k<2^60->txO t->Sml w 312 m->KnV w g (.obj 22 [("term",tmW (jj k t)),("mark",kW m),("key",.int (k:Int)),("text",.str t)]) (.leaf k t) m
 |fork {d b wl wr l r ml mr m}:KnV w g wl l ml->KnV w g wr r mr->g (gZ d b ml mr)=some m->d<60->b<2^60->Sml w (szN (.fork d b l r)) m->KnV w g (.obj 23 [("term",tmW (gZ d b ml mr)),("mark",kW m),("depth",.int (d:Int)),("begin",.int (b:Int)),("left",wl),("right",wr)]) (.fork d b l r) m
def KnV.ex (x:Ex g g'):∀{u:W}{t:Kn Str}{m:Key},KnV w g u t m->KnV w g' u t m:=fun z=>by
 induction z with
 |bare e b=>exact .bare (x _ _ e) b
 |leaf e b c d=>exact .leaf (x _ _ e) b c d
 |fork _ _ e c d f a b=>exact .fork a b (x _ _ e) c d f
def KnV.sml (k:KnV w g u t m):Sml w (szN t) m:=by
 cases k with
 |bare _ b=>exact b
 |leaf _ _ _ b=>exact b
 |fork _ _ _ _ _ b=>exact b
def yh (h:List Key->Key):Kn Str->Key
 |.bare=>h gU
 |.leaf k t=>h (jj k t)
 |.fork d b l r=>h (gZ d b (yh h l) (yh h r))
def KnV.mark {h:List Key->Key}(x:Ext g h):∀{u:W}{t:Kn Str}{m:Key},KnV w g u t m->m=yh h t:=fun z=>by
 induction z with
 |bare e _=>exact(x _ _ e).symm
 |leaf e _ _ _=>exact(x _ _ e).symm
 |fork _ _ e _ _ _ a b=>
  have:=x _ _ e
  rw[a,b]at this;exact this.symm
def TY (h0:0<=i)(h1:i<1152921504606846976):okP (.inl i)=true:=decide_eq_true ⟨h0,Ys h1 (by decide)⟩
def Fv {k:Nat}(h:k<2^60):okP (.inl (k:Int))=true:=TY (by lia) (by lia)
def UX (h:txO t):okP (.inr t)=true:=Gn.mpr ⟨h.1,decide_eq_true (by have:=h.2;lia)⟩
def Kc:okT gU=true:=by decide+kernel
def RG:okP (.inr ("leaf":Str))=true:=by decide+kernel
def Tl:okP (.inr ("fork":Str))=true:=by decide+kernel
def Kw {k:Nat}{t:Str}(hk:k<2^60)(ht:txO t):okT (jj k t)=true:=sL RG (by
 intro x hx;simp only[tx,If,or_false]at hx
 rcases hx with rfl|rfl;exact Fv hk;exact UX ht) (by simp)
def KY {d b:Nat}{l r:Key}(hd:d<60)(hb:b<2^60)(hl:okP l=true)(hr:okP r=true):okT (gZ d b l r)=true:=sL Tl (by
 intro x hx;simp only[tx,If,or_false]at hx
 rcases hx with rfl|rfl|rfl|rfl;exact Fv (by lia);exact Fv hb;exact hl;exact hr) (by simp)
def sz4 (h:(s:Str).length=4):szK (.inr (s:Str))=66:=by show(s:Str).length+62=66;rw[h]
def Fs:szT gU=66:=by decide+kernel
def FP {t:Str}:szT (jj k t)=190+t.length:=by
 show szK (.inr ("leaf":Str))+(62+(t.length+62+0))=_
 rw[sz4 (by decide+kernel)];lia
def FL:szT (gZ d b l r)=190+szK l+szK r:=by
 show szK (.inr ("fork":Str))+(62+(62+(szK l+(szK r+0))))=_
 rw[sz4 (by decide+kernel)];lia
def knF (t:List Key)(m:Key):List (Str×W):=[("term",tmW t),("mark",kW m)]
inductive ja (l:List W)(h:WH)(Q:WQ):Prop
 |mk (p cl b w g n i c t):l=[.ref p,.clo i c,tmW t]->(cl=21\/cl=22\/cl=23)->h p=some (.ins cl [])->p≠b->aw h b w g n i c->n<=big->okT t=true->(w=true->szT t<=99000)->(∀m g' h',Kp b h h'->aw h' b w g' (n+1) i c->Ex g g'->g' t=some m->Sml w (szT t+62) m->Q .non (up h' p (.ins cl (knF t m))))->ja l h Q
def jg:WP:=fun l h Q a=>ja l h Q
def sx:LnW jg 3:=by rintro l h Q X ⟨a,a,a,a,a,a,a,a,a,rfl,a⟩;rfl
def cut (h:WH)(p:Addr):WH:=fun a=>if a=p then none else h a
def cx:cut h p p=none:=if_pos rfl
def bz {h:WH}(n:a≠p):cut h p a=h a:=if_neg n
def Fu {Q:WQ}(q:Q (.obj c fs) (cut h p)):Fz Q (.ref p) (up h p (.ins c fs)):=
 ⟨_,cut h p,fun a o e=>by
  by_cases z:a=p
  ·subst z;rw[cx]at e;injection e
  ·rw[bz z]at e;rw[ag z];exact e,.ins ao cx,q⟩
def made {h h':WH}{Q:WQ}(hp:h p=none)(pb:p≠b)(k:Kp b (up h p o) h')(q:∀hh,Kp b h hh->hh b=h' b->Q (.obj c fs) hh):Fz Q (.ref p) (up h' p (.ins c fs)):=
 Fu (q _ (fun a n=>by
  by_cases z:a=p
  ·subst z;rw[cx,hp]
  ·rw[bz z,k a n,ag z]) (bz (ab pb)))
theorem eX:∀{fs:List (Str×W)}{n:Nat},fs.length<n->(pF f v fs).length<n+1
 |[],_,h=>by show 1<_;simp at h;lia
 |(g,x)::r,n,h=>by
  unfold pF
  split
  ·simp at h⊢;lia
  ·simp at h⊢
   exact VB (eX (n:=n- 1) (by lia)) (by lia)
inductive iR (l:List W)(h:WH)(Q:WQ):Prop
 |mk (p b w g n i c):l=[.ref p,.clo i c]->h p=some (.ins 21 [])->p≠b->aw h b w g n i c->n<=big->(∀m g' h',Kp b h h'->aw h' b w g' (n+1) i c->Ex g g'->g' gU=some m->Sml w 128 m->Q .non (up h' p (.ins 21 (knF gU m))))->iR l h Q
def fw:WP:=fun l h Q a=>iR l h Q
def qV:LnW fw 2:=by rintro l h Q X ⟨a,a,a,a,a,a,a,rfl,a⟩;rfl
def Eh {Q:WQ}{X:WX}(s:aw h b w g n i c)(hn:n<=big)(q:∀v m g' h',Kp b h h'->aw h' b w g' (n+1) i c->Ex g g'->KnV w g' v .bare m->Q v h'):
  ∀p,h p=none->fw [.ref p,.clo i c] (up h p (.ins 21 [])) (fun w h2=>w=.non/\Fz Q (.ref p) h2) X:=fun p hp=>
 have pb:=s.ne hp
 ⟨p,b,w,g,n,i,c,rfl,ao,pb,s.am (ag (ab pb)),hn,fun m g' h' k s' x e o=>⟨rfl,made hp pb k fun hh k2 e2=>q _ m g' hh k2 (s'.am e2) x (.bare e o)⟩⟩
def lfF (k:Nat)(t:Str)(m:Key):List (Str×W):=[("term",tmW (jj k t)),("mark",kW m),("key",.int (k:Int)),("text",.str t)]
inductive iL (l:List W)(h:WH)(Q:WQ):Prop
 |mk (p b w g n i c k t):l=[.ref p,.clo i c,.int (k:Nat),.str t]->h p=some (.ins 22 [])->p≠b->aw h b w g n i c->n<=big->k<2^60->txO t->(∀m g' h',Kp b h h'->aw h' b w g' (n+1) i c->Ex g g'->g' (jj k t)=some m->Sml w 312 m->Q .non (up h' p (.ins 22 (lfF k t m))))->iL l h Q
def fA:WP:=fun l h Q a=>iL l h Q
def sV:LnW fA 4:=by rintro l h Q X ⟨a,a,a,a,a,a,a,a,a,rfl,a⟩;rfl
def zg {Q:WQ}{X:WX}(s:aw h b w g n i c)(hn:n<=big)(hk:k<2^60)(ht:txO t)(q:∀v m g' h',Kp b h h'->aw h' b w g' (n+1) i c->Ex g g'->KnV w g' v (.leaf k t) m->Q v h'):
  ∀p,h p=none->fA [.ref p,.clo i c,.int (k:Nat),.str t] (up h p (.ins 22 [])) (fun w h2=>w=.non/\Fz Q (.ref p) h2) X:=fun p hp=>
 have pb:=s.ne hp
 ⟨p,b,w,g,n,i,c,k,t,rfl,ao,pb,s.am (ag (ab pb)),hn,hk,ht,fun m g' h' kk s' x e o=>⟨rfl,made hp pb kk fun hh k2 e2=>q _ m g' hh k2 (s'.am e2) x (.leaf e hk ht o)⟩⟩
def fkF (d b:Nat)(wl wr:W)(ml mr m:Key):List (Str×W):=[("term",tmW (gZ d b ml mr)),("mark",kW m),("depth",.int (d:Int)),("begin",.int (b:Int)),("left",wl),("right",wr)]
def KnV.fmark (k:KnV w g u t m):∃cl fs,u=.obj cl fs/\fs.lookup ("mark":Str)=some (kW m):=by
 cases k<;>exact⟨_,_,rfl,rfl⟩
inductive iN (l:List W)(h:WH)(Q:WQ):Prop
 |mk (p b w g n i c d be wl wr tl tr ml mr):l=[.ref p,.clo i c,.int (d:Nat),.int (be:Nat),wl,wr]->h p=some (.ins 23 [])->p≠b->aw h b w g n i c->n<=big->d<60->be<2^60->KnV w g wl tl ml->KnV w g wr tr mr->szN tl+szN tr<=98000->(∀m g' h',Kp b h h'->aw h' b w g' (n+1) i c->Ex g g'->g' (gZ d be ml mr)=some m->Sml w (252+szN tl+szN tr) m->Q .non (up h' p (.ins 23 (fkF d be wl wr ml mr m))))->iN l h Q
def fx:WP:=fun l h Q a=>iN l h Q
def sK:LnW fx 6:=by rintro l h Q X ⟨a,a,a,a,a,a,a,a,a,a,a,a,a,a,a,rfl,a⟩;rfl
def tN {Q:WQ}{X:WX}(s:aw h b w g n i c)(hn:n<=big)(hd:d<60)(hb:be<2^60)(kl:KnV w g wl tl ml)(kr:KnV w g wr tr mr)(hz:szN tl+szN tr<=98000)
  (q:∀v m g' h',Kp b h h'->aw h' b w g' (n+1) i c->Ex g g'->KnV w g' v (.fork d be tl tr) m->Q v h'):
  ∀p,h p=none->fx [.ref p,.clo i c,.int (d:Nat),.int (be:Nat),wl,wr] (up h p (.ins 23 [])) (fun w h2=>w=.non/\Fz Q (.ref p) h2) X:=fun p hp=>
 have pb:=s.ne hp
 ⟨p,b,w,g,n,i,c,d,be,wl,wr,tl,tr,ml,mr,rfl,ao,pb,s.am (ag (ab pb)),hn,hd,hb,kl,kr,hz,fun m g' h' kk s' x e o=>⟨rfl,made hp pb kk fun hh k2 e2=>q _ m g' hh k2 (s'.am e2) x (.fork (kl.ex x) (kr.ex x) e hd hb o)⟩⟩
def NL {b:Bool}{P A B:Prop}(hb:b=true↔P)(ha:P->A)(hn:¬P->B):Sel b A B:=by
 cases b
 ·exact .f (hn fun p=>by have:=hb.mpr p;injection this)
 ·exact .t (ha (hb.mp rfl))
def eh {b:Bool}{x y:Int}{A B:Prop}(hb:b=true↔W.int x=W.int y)(ha:x=y->A)(hn:x≠y->B):Sel b A B:=
 NL hb (fun e=>ha (by cases e;rfl)) fun e=>hn fun z=>e (by rw[z])
def BC {a b:Nat}(h:(a:Int)≠b):a≠b:=fun e=>h (by rw[e])
def xg {a b:Nat}(h:(a:Int)=b):a=b:=by lia
inductive mH (l:List W)(h:WH)(Q:WQ):Prop
 |mk (v x y):l=[v,x,y]->Q .non h->mH l h Q
def dD:WP:=fun l h Q a=>mH l h Q
def ya:LnW dD 3:=by rintro l h Q X ⟨a,a,a,rfl,a⟩;rfl
def fdW:Option Str->W
 |none=>.non
 |some z=>.str z
inductive ny (l:List W)(h:WH)(Q:WQ):Prop
 |mk (x:W) (key k:Nat) (t:Str) (m:Key):l=[.obj 22 (lfF k t m),x,.int key]->Q (fdW (if key=k then some t else none)) h->ny l h Q
def dE:WP:=fun l h Q a=>ny l h Q
def xp:LnW dE 3:=by rintro l h Q X ⟨a,a,a,a,a,rfl,a⟩;rfl
inductive lD (l:List W)(h:WH)(Q:WQ):Prop
 |mk (d be B key:Nat) (wl wr:W) (ml mr m:Key):l=[.obj 23 (fkF d be wl wr ml mr m),.int B,.int key]->d<B->Q (if sd B key d=0 then wl else wr) h->lD l h Q
def lp:WP:=fun l h Q a=>lD l h Q
def vz:LnW lp 3:=by rintro l h Q X ⟨a,a,a,a,a,a,a,a,a,rfl,a⟩;rfl
inductive mI (l:List W)(h:WH)(Q:WQ):Prop
 |mk (d be B key:Nat) (wl wr:W) (ml mr m:Key):l=[.obj 23 (fkF d be wl wr ml mr m),.int B,.int key]->d<B->Q (if sd B key d=0 then wr else wl) h->mI l h Q
def nh:WP:=fun l h Q a=>mI l h Q
def xC:LnW nh 3:=by rintro l h Q X ⟨a,a,a,a,a,a,a,a,a,rfl,a⟩;rfl
inductive mT (l:List W)(h:WH)(Q:WQ):Prop
 |mk (d be B key:Nat) (wl wr:W) (ml mr m:Key):l=[.obj 23 (fkF d be wl wr ml mr m),.int B,.int key]->d<=B->Q (.bl (decide (st B key d=be))) h->mT l h Q
def oE:WP:=fun l h Q a=>mT l h Q
def wL:LnW oE 3:=by rintro l h Q X ⟨a,a,a,a,a,a,a,a,a,rfl,a⟩;rfl
structure KnT (w:Bool)(g:bU)(B d0 b0:Nat)(v:W)(t:Kn Str)(m:Key):Prop where
 kv:KnV w g v t m
 wf:WF B d0 b0 t
 dB:d0<=B
def KnT.sub {w:Bool}{g:bU}{B d0 b0 d be:Nat}{wl wr:W}{l r:Kn Str}{ml mr m:Key}(k:KnT w g B d0 b0 (.obj 23 (fkF d be wl wr ml mr m)) (.fork d be l r) m):KnT w g B (d+1) (2*be) wl l ml/\KnT w g B (d+1) (2*be+1) wr r mr/\d0<=d/\d<B:=by
 obtain⟨kv,⟨h1,h2,c,hl,hr⟩,dB⟩:=k
 generalize e:W.obj 23 (fkF d be wl wr ml mr m)=u at kv
 cases kv with
 | @fork _ _ wl' wr' _ _ ml' mr' _ a b _ _ _ _=>
   unfold fkF at e
   simp only[W.obj.injEq,XT,Prod.mk.injEq,and_true,true_and]at e
   obtain⟨e1,e2,e3⟩:=e
   subst e2;subst e3
   unfold tmW gZ at e1
   simp only[VI,W.tup.injEq,XT,true_and,and_true]at e1
   obtain⟨x1,x2⟩:=e1
   cases CT x1;cases CT x2
   exact⟨⟨a,hl,by lia⟩,⟨b,hr,by lia⟩,h1,h2⟩
def KnV.forkE {w:Bool}{g:bU}{v:W}{d be:Nat}{l r:Kn Str}{m:Key}(k:KnV w g v (.fork d be l r) m):∃wl wr ml mr,v=.obj 23 (fkF d be wl wr ml mr m):=by
 cases k;exact⟨_,_,_,_,rfl⟩
def KnV.leafE {w:Bool}{g:bU}{v:W}{k:Nat}{t:Str}{m:Key}(q:KnV w g v (.leaf k t) m):v=.obj 22 (lfF k t m):=by
 cases q;rfl
def KnV.bareE {w:Bool}{g:bU}{v:W}{m:Key}(q:KnV w g v .bare m):v=.obj 21 (knF gU m):=by
 cases q;rfl
def cZ:Nat->WP
 |0=>fun a a a a=>False
 |n+1=>fun l h Q a=>∃w g B d0 b0 v d be tl tr m key,l=[v,.int (B:Nat),.int (key:Nat)]/\KnT w g B d0 b0 v (.fork d be tl tr) m/\B<d0+(n+1)/\Q (fdW (aD B key (.fork d be tl tr))) h
def yr:∀l h Q X,¬cZ 0 l h Q X:=fun a a a a h=>h
theorem xr:∀n l h Q X,cZ n l h Q X->l.length=3
 |0,_,_,_,_,h=>h.elim
 |n+1,_,_,_,_,h=>by obtain⟨a,a,a,a,a,a,a,a,a,a,a,a,rfl,a⟩:=h;rfl
def CG {w:Bool}{g:bU}{n B d0 b0 key:Nat}{v:W}{t:Kn Str}{m:Key}{h:WH}(k:KnT w g B d0 b0 v t m)(hn:B<d0+n):
  ∃c fs sp,iD v h c fs/\(c,sp)∈[(21,dD),(22,dE),(23,cZ n)]/\fs.lookup ("found":Str)=none/\∀Q X,Q (fdW (aD B key t)) h->sp [v,.int (B:Nat),.int (key:Nat)] h Q X:=by
 cases t with
 |bare=>exact k.wf.elim
 |leaf kk t=>cases k.kv.leafE;exact⟨22,_,dE,.inl rfl,by simp,rfl,fun Q X q=>⟨_,key,kk,t,m,rfl,q⟩⟩
 |fork d be l r=>
  obtain⟨wl,wr,ml,mr,rfl⟩:=k.kv.forkE
  cases n with
  |zero=>exact absurd k.dB (by lia)
  |succ n=>exact⟨23,_,cZ (n+1),.inl rfl,by simp,rfl,fun Q X q=>⟨w,g,B,d0,b0,_,d,be,l,r,m,key,rfl,k,hn,q⟩⟩
def zV {w:Bool}{g:bU}{n B d0 b0 key:Nat}{v:W}{t:Kn Str}{m:Key}{h:WH}{Q:WQ}{X:WX}(k:KnT w g B d0 b0 v t m)(hn:B<d0+n)(q:Q (fdW (aD B key t)) h):
  xZ [(21,dD),(22,dE),(23,cZ n)] "found" v h fun sp=>sp [v,.int (B:Nat),.int (key:Nat)] h Q X:=
 let ⟨c,fs,sp,a1,a2,a3,a4⟩:=CG (key:=key) k hn;⟨c,fs,sp,a1,a2,a3,a4 _ _ q⟩
def KnQ (b:Addr)(w:Bool)(i:Nat)(c:List W)(g:bU)(n:Nat)(h:WH)(t:Kn Str)(Q:WQ):Prop:=∀v m g' h',Kp b h h'->aw h' b w g' n i c->Ex g g'->KnV w g' v t m->Q v h'
inductive jO (l:List W)(h:WH)(Q:WQ):Prop
 |mk (b w g n i c d be B key wl wr v tl tr t ml mr m mv):l=[.obj 23 (fkF d be wl wr ml mr m),.clo i c,.int (B:Nat),.int (key:Nat),v]->aw h b w g n i c->n<=big->d<B->B<=60->be<2^60->KnV w g wl tl ml->KnV w g wr tr mr->KnV w g v t mv->(sd B key d=0->szN t+szN tr<=98000)->(sd B key d≠0->szN tl+szN t<=98000)->KnQ b w i c g (n+1) h (if sd B key d=0 then .fork d be t tr else .fork d be tl t) Q->jO l h Q
def jJ:WP:=fun l h Q a=>jO l h Q
def ue:LnW jJ 5:=by rintro l h Q X ⟨a,a,a,a,a,a,a,a,a,a,a,a,a,a,a,a,a,a,a,a,rfl,a⟩;rfl
def KL (h:k<2^B)(hB:B<=60):st B k d<2^60:=by
 have:2^B<=2^60:=Yy (by decide) hB
 have:=Nat.div_le_self k (2^(B- d))
 unfold st;lia
inductive Ad (l:List W)(h:WH)(Q:WQ):Prop
 |mk (b w g n i c B d key v x t m m'):l=[.clo i c,.int (B:Nat),.int (d:Nat),.obj 22 (lfF key x m),v]->aw h b w g n i c->n<=big->d<B->B<=60->key<2^B->KnV w g (.obj 22 (lfF key x m)) (.leaf key x) m->KnV w g v t m'->szN t<=97000->KnQ b w i c g (n+1) h (gR B d key x t) Q->Ad l h Q
def zS:WP:=fun l h Q a=>Ad l h Q
def Fy:LnW zS 5:=by rintro l h Q X ⟨a,a,a,a,a,a,a,a,a,a,a,a,a,a,rfl,a⟩;rfl
def tK (t:Kn Str):128<=szN t:=by cases t<;>(unfold szN;lia)
def Ce:szN (gR B d key z t)=564+szN t:=by
 unfold gR;split
 ·show 252+312+szN t=_;lia
 ·show 252+szN t+312=_;lia
theorem fU:∀t:Kn Str,szN (bW B key z t)<=szN t+564
 |.bare=>by show 312<=128+564;lia
 |.leaf k t=>by
  unfold bW;split
  ·show 312<=312+564;lia
  ·rw[Ce];lia
 |.fork d b l r=>by
  unfold bW;split
  ·split
   ·show 252+szN (bW B key z l)+szN r<=252+szN l+szN r+564;have:=fU (B:=B) (key:=key) (z:=z) l;lia
   ·show 252+szN l+szN (bW B key z r)<=252+szN l+szN r+564;have:=fU (B:=B) (key:=key) (z:=z) r;lia
  ·rw[Ce];lia
theorem eU:∀t:Kn Str,szN (aX B key t)<=szN t
 |.bare=>sn _
 |.leaf k t=>by
  unfold aX;split
  ·show 128<=312;lia
  ·exact sn _
 |.fork d b l r=>by
  have e:szN (.fork d b l r)=252+szN l+szN r:=rfl
  have hl:=eU (B:=B) (key:=key) l
  have hr:=eU (B:=B) (key:=key) r
  unfold aX;split
  ·generalize aX B key l=u at hl
   cases u with
   |bare=>show szN r<=_;lia
   |leaf k t=>show 252+szN (.leaf k t)+szN r<=_;lia
   |fork a b c d=>show 252+szN (.fork a b c d)+szN r<=_;lia
  ·generalize aX B key r=u at hr
   cases u with
   |bare=>show szN l<=_;lia
   |leaf k t=>show 252+szN l+szN (.leaf k t)<=_;lia
   |fork a b c d=>show 252+szN l+szN (.fork a b c d)<=_;lia
inductive iT (l:List W)(h:WH)(Q:WQ):Prop
 |mk (b w g n i c v B key x):l=[v,.clo i c,.int (B:Nat),.int (key:Nat),.str x]->aw h b w g n i c->n<=big->key<2^60->txO x->KnQ b w i c g (n+1) h (.leaf key x) Q->iT l h Q
def cM:WP:=fun l h Q a=>iT l h Q
def rM:LnW cM 5:=by rintro l h Q X ⟨a,a,a,a,a,a,a,a,a,a,rfl,a⟩;rfl
def pC (hB:B<=60)(h:k<2^B):k<2^60:=VB h (Yy (by decide) hB)
def KnQ.next (q:KnQ b w i c g n' h t Q)(k:Kp b h h')(x:Ex g g')(hn:n<=n'):KnQ b w i c g' n h' t Q:=fun v m g2 h2 k2 s2 x2 kn=>q v m g2 h2 (k.trans k2) (s2.le hn) (x.trans x2) kn
def KnQ.fz (q:KnQ b w i c g n h t Q):KnQ b w i c g n h t (Fz Q):=fun v m g2 h2 k2 s2 x2 kn=>.id (q v m g2 h2 k2 s2 x2 kn)
inductive jf (l:List W)(h:WH)(Q:WQ):Prop
 |mk (b w g n i c B key x kk t m):l=[.obj 22 (lfF kk t m),.clo i c,.int (B:Nat),.int (key:Nat),.str x]->aw h b w g n i c->n+1<=big->B<=60->key<2^B->kk<2^B->txO x->KnV w g (.obj 22 (lfF kk t m)) (.leaf kk t) m->KnQ b w i c g (n+2) h (bW B key x (.leaf kk t)) Q->jf l h Q
def cL:WP:=fun l h Q a=>jf l h Q
def rn:LnW cL 5:=by rintro l h Q X ⟨a,a,a,a,a,a,a,a,a,a,a,a,rfl,a⟩;rfl
def bZ:Nat->WP
 |0=>fun a a a a=>False
 |f+1=>fun l h Q a=>∃b w g n i c B d0 b0 v d be tl tr m key x,l=[v,.clo i c,.int (B:Nat),.int (key:Nat),.str x]/\KnT w g B d0 b0 v (.fork d be tl tr) m/\st B key d0=b0/\B<d0+(f+1)/\aw h b w g n i c/\n+(f+1+2)<=big/\B<=60/\key<2^B/\txO x/\szN (.fork d be tl tr)<=97000/\KnQ b w i c g (n+(f+1+2)) h (bW B key x (.fork d be tl tr)) Q
def uw:∀l h Q X,¬bZ 0 l h Q X:=fun a a a a h=>h
theorem sM:∀n l h Q X,bZ n l h Q X->l.length=5
 |0,_,_,_,_,h=>h.elim
 |n+1,_,_,_,_,h=>by obtain⟨a,a,a,a,a,a,a,a,a,a,a,a,a,a,a,a,a,rfl,a⟩:=h;rfl
def EH (k:KnT w g B d0 b0 v t m)(hb:st B key d0=b0)(hf:B<d0+f)(s:aw h b w g n i c)(hn:n+(f+2)<=big)(hB:B<=60)(hk:key<2^B)(hx:txO x)(hz:szN t<=97000):
  ∃cc fs sp,iD v h cc fs/\(cc,sp)∈[(21,cM),(22,cL),(23,bZ f)]/\fs.lookup ("with_key":Str)=none/\∀Q X,KnQ b w i c g (n+(f+2)) h (bW B key x t) Q->sp [v,.clo i c,.int (B:Nat),.int (key:Nat),.str x] h Q X:=by
 cases t with
 |bare=>exact k.wf.elim
 |leaf kk t=>
  have hkk:=k.wf.1
  have kv:=k.kv
  cases kv.leafE
  exact⟨22,_,cL,.inl rfl,by simp,rfl,fun Q X q=>⟨b,w,g,n,i,c,B,key,x,kk,t,m,rfl,s,by lia,hB,hk,hkk,hx,kv,q.next Kp.rfl' Ex.rfl' (by lia)⟩⟩
 |fork d be l r=>
  have kv:=k.kv
  obtain⟨wl,wr,ml,mr,rfl⟩:=kv.forkE
  cases f with
  |zero=>exact absurd k.dB (by lia)
  |succ f=>exact⟨23,_,bZ (f+1),.inl rfl,by simp,rfl,fun Q X q=>⟨b,w,g,n,i,c,B,d0,b0,_,d,be,l,r,m,key,x,rfl,k,hb,hf,s,hn,hB,hk,hx,hz,q⟩⟩
def Bf {X:WX}(k:KnT w g B d0 b0 v t m)(hb:st B key d0=b0)(hf:B<d0+f)(s:aw h b w g n i c)(hn:n+(f+2)<=big)(hB:B<=60)(hk:key<2^B)(hx:txO x)(hz:szN t<=97000)(q:KnQ b w i c g (n+(f+2)) h (bW B key x t) Q):
  xZ [(21,cM),(22,cL),(23,bZ f)] "with_key" v h fun sp=>sp [v,.clo i c,.int (B:Nat),.int (key:Nat),.str x] h Q X:=
 let ⟨c,fs,sp,a1,a2,a3,a4⟩:=EH k hb hf s hn hB hk hx hz;⟨c,fs,sp,a1,a2,a3,a4 _ _ q⟩
def En (h:WF B d0 b0 (.fork d be l r)):be<2^d/\be<2^B:=by
 obtain⟨h1,h2,h3,hl,hr⟩:=h
 obtain⟨p,hp⟩:=WF.ne (B:=B) (d0:=0) (b0:=0) hl
 obtain⟨a,c⟩:=hl.mem (by lia) p hp
 have e:st B p.1 (d+1)<2^(d+1):=by
  unfold st
  rw[Yr (Wv _),<-Zc]
  rw[show d+1+(B- (d+1))=B by lia];exact a
 rw[c,Xv]at e
 have:2^d<=2^B:=Yy (by decide) (by lia)
 lia
def HJ (hk:k<2^B)(hd:d<=B):st B k d<2^d:=by
 unfold st
 rw[Yr (Wv _),<-Zc,show d+(B- d)=B by lia];exact hk
def JA (hd:d<B)(e:st B key d=be):(sd B key d=0->st B key (d+1)=2*be)/\(sd B key d≠0->st B key (d+1)=2*be+1):=by
 have:=@fL B key d
 rw[cD hd,e]
 exact⟨fun z=>by lia,fun z=>by lia⟩
inductive kE (l:List W)(h:WH)(Q:WQ):Prop
 |mk (v x y z):l=[v,x,y,z]->Q v h->kE l h Q
def db:WP:=fun l h Q a=>kE l h Q
def ur:LnW db 4:=by rintro l h Q X ⟨a,a,a,a,rfl,a⟩;rfl
inductive jZ (l:List W)(h:WH)(Q:WQ):Prop
 |mk (b w g n i c B key kk t m):l=[.obj 22 (lfF kk t m),.clo i c,.int (B:Nat),.int (key:Nat)]->aw h b w g n i c->n<=big->KnV w g (.obj 22 (lfF kk t m)) (.leaf kk t) m->KnQ b w i c g (n+1) h (aX B key (.leaf kk t)) Q->jZ l h Q
def cX:WP:=fun l h Q a=>jZ l h Q
def uq:LnW cX 4:=by rintro l h Q X ⟨a,a,a,a,a,a,a,a,a,a,a,rfl,a⟩;rfl
def cw:Nat->WP
 |0=>fun a a a a=>False
 |f+1=>fun l h Q a=>∃b w g n i c B d0 b0 v d be tl tr m key,l=[v,.clo i c,.int (B:Nat),.int (key:Nat)]/\KnT w g B d0 b0 v (.fork d be tl tr) m/\B<d0+(f+1)/\aw h b w g n i c/\n+(f+1+2)<=big/\B<=60/\szN (.fork d be tl tr)<=97000/\KnQ b w i c g (n+(f+1+2)) h (aX B key (.fork d be tl tr)) Q
def vS:∀l h Q X,¬cw 0 l h Q X:=fun a a a a h=>h
theorem tW:∀n l h Q X,cw n l h Q X->l.length=4
 |0,_,_,_,_,h=>h.elim
 |n+1,_,_,_,_,h=>by obtain⟨a,a,a,a,a,a,a,a,a,a,a,a,a,a,a,a,rfl,a⟩:=h;rfl
def xw {f n i B d0 b0 key:Nat}(k:KnT w g B d0 b0 v t m)(hf:B<d0+f)(s:aw h b w g n i c)(hn:n+(f+2)<=big)(hB:B<=60)(hz:szN t<=97000):
  ∃cc fs sp,iD v h cc fs/\(cc,sp)∈[(21,db),(22,cX),(23,cw f)]/\fs.lookup ("without":Str)=none/\∀Q X,KnQ b w i c g (n+(f+2)) h (aX B key t) Q->sp [v,.clo i c,.int (B:Nat),.int (key:Nat)] h Q X:=by
 cases t with
 |bare=>exact k.wf.elim
 |leaf kk t=>
  have kv:=k.kv
  cases kv.leafE
  exact⟨22,_,cX,.inl rfl,by simp,rfl,fun Q X q=>⟨b,w,g,n,i,c,B,key,kk,t,m,rfl,s,by lia,kv,q.next Kp.rfl' Ex.rfl' (by lia)⟩⟩
 |fork d be l r=>
  have kv:=k.kv
  obtain⟨wl,wr,ml,mr,rfl⟩:=kv.forkE
  cases f with
  |zero=>exact absurd k.dB (by lia)
  |succ f=>exact⟨23,_,cw (f+1),.inl rfl,by simp,rfl,fun Q X q=>⟨b,w,g,n,i,c,B,d0,b0,_,d,be,l,r,m,key,rfl,k,hf,s,hn,hB,hz,q⟩⟩
def uJ {X:WX}(k:KnT w g B d0 b0 v t m)(hf:B<d0+f)(s:aw h b w g n i c)(hn:n+(f+2)<=big)(hB:B<=60)(hz:szN t<=97000)(q:KnQ b w i c g (n+(f+2)) h (aX B key t) Q):
  xZ [(21,db),(22,cX),(23,cw f)] "without" v h fun sp=>sp [v,.clo i c,.int (B:Nat),.int (key:Nat)] h Q X:=
 let ⟨c,fs,sp,a1,a2,a3,a4⟩:=xw (key:=key) k hf s hn hB hz;⟨c,fs,sp,a1,a2,a3,a4 _ _ q⟩
def isB (k:KnV w g v t m):(∃fs,v=.obj 21 fs/\t=.bare)\/∃c fs,v=.obj c fs/\(c,21,false)∈tI/\t≠.bare:=by
 cases k
 ·exact .inl ⟨_,rfl,rfl⟩
 ·exact .inr ⟨_,_,rfl,by simp[tI],nofun⟩
 ·exact .inr ⟨_,_,rfl,by simp[tI],nofun⟩
def Tr (B:Nat)(t:Kn Str):Prop:=t=.bare\/WF B 0 0 t
def Tr.with {B key:Nat}(h:Tr B t)(hk:key<2^B):Tr B (bW B key x t)/\∀k,aD B k (bW B key x t)=if k=key then some x else aD B k t:=by
 have s0:st B key 0=0:=Yw hk
 rcases h with rfl|h
 ·exact⟨.inr ⟨hk,s0⟩,fun k=>rfl⟩
 ·obtain⟨a,b⟩:=vJ (x:=x) hk (VW _) h s0
  exact⟨.inr a,b⟩
def Tr.without {B key:Nat}(h:Tr B t):Tr B (aX B key t)/\∀k,aD B k (aX B key t)=if k=key then none else aD B k t:=by
 rcases h with rfl|h
 ·exact⟨.inl rfl,fun k=>by show none=if k=key then none else none;split<;>rfl⟩
 ·exact mw (VW _) h
def tbF (i:Nat)(c:List W)(B:Nat)(v:W):List (Str×W):=[("stamper",.clo i c),("bits",.int (B:Nat)),("top",v)]
inductive iz (l:List W)(h:WH)(Q:WQ):Prop
 |mk (p b w g n i c B):l=[.ref p,.clo i c,.int (B:Nat)]->h p=some (.ins 24 [])->p≠b->aw h b w g n i c->n<=big->1<=B->B<=60->(∀v m g' h',Kp b h h'->aw h' b w g' (n+1) i c->Ex g g'->KnV w g' v .bare m->Q .non (up h' p (.ins 24 (tbF i c B v))))->iz l h Q
def iy:WP:=fun l h Q a=>iz l h Q
def qL:LnW iy 3:=by rintro l h Q X ⟨a,a,a,a,a,a,a,a,rfl,a⟩;rfl
def LJ {b p:Addr}(pb:p≠b)(k:Kp b (up h p o) h'):Kp b h (fun a=>if a=p then h p else h' a):=fun a na=>by
 by_cases e:a=p
 ·subst e;exact if_pos rfl
 ·show(if a=p then h p else h' a)=h a
  rw[if_neg e,k a na,ag e]
def Lw {p:Addr}{h h':WH}{o:O}:up h' p o=up (fun a=>if a=p then h p else h' a) p o:=by
 funext a
 by_cases e:a=p
 ·subst e;rw[ao,ao]
 ·rw[ag e,ag e,if_neg e]
def Hk {B key:Nat}{h:WH}(k:KnV w g v t m)(tr:Tr B t)(hB:B<=60):
  ∃c fs sp,iD v h c fs/\(c,sp)∈[(21,dD),(22,dE),(23,cZ 70)]/\fs.lookup ("found":Str)=none/\∀Q X,Q (fdW (aD B key t)) h->sp [v,.int (B:Nat),.int (key:Nat)] h Q X:=by
 rcases tr with rfl|wf
 ·cases k.bareE;exact⟨21,_,dD,.inl rfl,by simp,rfl,fun Q X q=>⟨_,_,_,rfl,q⟩⟩
 ·exact CG ⟨k,wf,VW _⟩ (by lia)
def Jj (k:KnV w g v t m)(tr:Tr B t)(s:aw h b w g n i c)(hn:n+72<=big)(hB:B<=60)(hk:key<2^B)(hx:txO x)(hz:szN t<=97000):
  ∃cc fs sp,iD v h cc fs/\(cc,sp)∈[(21,cM),(22,cL),(23,bZ 70)]/\fs.lookup ("with_key":Str)=none/\∀Q X,KnQ b w i c g (n+72) h (bW B key x t) Q->sp [v,.clo i c,.int (B:Nat),.int (key:Nat),.str x] h Q X:=by
 rcases tr with rfl|wf
 ·cases k.bareE
  exact⟨21,_,cM,.inl rfl,by simp,rfl,fun Q X q=>⟨b,w,g,n,i,c,_,B,key,x,rfl,s,by lia,pC hB hk,hx,q.next Kp.rfl' Ex.rfl' (by lia)⟩⟩
 ·exact EH ⟨k,wf,VW _⟩ (Yw hk) (by lia) s (by lia) hB hk hx hz
def Dj {n i B key:Nat}(k:KnV w g v t m)(tr:Tr B t)(s:aw h b w g n i c)(hn:n+72<=big)(hB:B<=60)(hz:szN t<=97000):
  ∃cc fs sp,iD v h cc fs/\(cc,sp)∈[(21,db),(22,cX),(23,cw 70)]/\fs.lookup ("without":Str)=none/\∀Q X,KnQ b w i c g (n+72) h (aX B key t) Q->sp [v,.clo i c,.int (B:Nat),.int (key:Nat)] h Q X:=by
 rcases tr with rfl|wf
 ·have k':=k
  cases k.bareE
  exact⟨21,_,db,.inl rfl,by simp,rfl,fun Q X q=>⟨_,_,_,_,rfl,q _ m g h Kp.rfl' (s.le (by lia)) Ex.rfl' k'⟩⟩
 ·exact xw ⟨k,wf,VW _⟩ (by lia) s (by lia) hB hz
inductive iu (l:List W)(h:WH)(Q:WQ):Prop
 |mk (T w g i c B v t m key):l=[.ref T,.int (key:Nat)]->h T=some (.ins 24 (tbF i c B v))->KnV w g v t m->Tr B t->B<=60->key<2^B->Q (fdW (aD B key t)) h->iu l h Q
def ii:WP:=fun l h Q a=>iu l h Q
def qN:LnW ii 2:=by rintro l h Q X ⟨a,a,a,a,a,a,a,a,a,a,rfl,a⟩;rfl
inductive qo (l:List W)(h:WH)(Q:WQ):Prop
 |mk (T b w g n i c B v t m key x):l=[.ref T,.int (key:Nat),.str x]->h T=some (.ins 24 (tbF i c B v))->T≠b->aw h b w g n i c->n+72<=big->KnV w g v t m->Tr B t->B<=60->key<2^B->txO x->szN t<=97000->(KnQ b w i c g (n+72) h (bW B key x t) fun v' h'=>Q (fdW (aD B key t)) (up h' T (.ins 24 (tbF i c B v'))))->qo l h Q
def qw:WP:=fun l h Q a=>qo l h Q
def yx:LnW qw 3:=by rintro l h Q X ⟨a,a,a,a,a,a,a,a,a,a,a,a,a,rfl,a⟩;rfl
inductive nZ (l:List W)(h:WH)(Q:WQ):Prop
 |mk (T b w g n i c B v t m key z):l=[.ref T,.int (key:Nat)]->h T=some (.ins 24 (tbF i c B v))->T≠b->aw h b w g n i c->n+72<=big->KnV w g v t m->Tr B t->B<=60->key<2^B->szN t<=97000->aD B key t=some z->(KnQ b w i c g (n+72) h (aX B key t) fun v' h'=>Q (.str z) (up h' T (.ins 24 (tbF i c B v'))))->nZ l h Q
def nX:WP:=fun l h Q a=>nZ l h Q
def yn:LnW nX 2:=by rintro l h Q X ⟨a,a,a,a,a,a,a,a,a,a,a,a,a,rfl,a⟩;rfl
inductive nY (l:List W)(h:WH)(Q:WQ):Prop
 |mk (T w g i c B v t m):l=[.ref T]->h T=some (.ins 24 (tbF i c B v))->KnV w g v t m->Q (kW m) h->nY l h Q
def mL:WP:=fun l h Q a=>nY l h Q
def xO:LnW mL 1:=by rintro l h Q X ⟨a,a,a,a,a,a,a,a,a,rfl,a⟩;rfl
inductive og (l:List W)(h:WH)(Q:WQ):Prop
 |mk (T b w g n i c B v):l=[.ref T]->h T=some (.ins 24 (tbF i c B v))->T≠b->aw h b w g n i c->n<=big->1<=B->B<=60->(∀g' h',Kp b h h'->aw h' b w g' (n+1) i c->Ex g g'->Q (.obj 24 (tbF i c B v)) h'\/∀p,h' p=none->Q (.ref p) (up h' p (.ins 24 (tbF i c B v))))->og l h Q
def mG:WP:=fun l h Q a=>og l h Q
def wK:LnW mG 1:=by rintro l h Q X ⟨a,a,a,a,a,a,a,a,a,rfl,a⟩;rfl
def Oz {h h':WH}(hp:h p=none)(k:Kp b (up h p o) h'):Kp b h (cut h' p):=fun a n=>by
 by_cases z:a=p
 ·subst z;rw[cx,hp]
 ·rw[bz z,k a n,ag z]
def HV:up (cut h p) p o=up h p o:=by
 funext a
 by_cases z:a=p
 ·subst z;rw[ao,ao]
 ·rw[ag z,ag z,bz z]
def Kx (as:List Addr)(h h':WH):Prop:=∀a,a∉as->h' a=h a
def Kx.rfl':Kx as h h:=fun a a=>rfl
def Kx.trans (x:Kx as h h')(y:Kx as h' h2):Kx as h h2:=fun a n=>(y a n).trans (x a n)
def Kp.x (k:Kp b h h')(m:b∈as):Kx as h h':=fun a n=>k a fun e=>n (e▸m)
def Kx.up (m:a∈as):Kx as h (up h a o):=fun x n=>ag fun e=>n (e▸m)
def Kx.le (k:Kx as h h')(s:∀a∈as,a∈bs):Kx bs h h':=fun a n=>k a fun m=>n (s a m)
def Sd (g:bU)(v:Key)(es:List Key):Prop:=∀h,Ext g h->v=h (gf h es)
def Sd.ex (s:Sd g v es)(x:Ex g g'):Sd g' v es:=fun h e=>s h (e.of x)
def szR (m:Nat):Nat:=if m=0 then 128 else 6758*m- 129
def tC (m:Nat):Nat:=if m=0 then 1 else 2*m- 1
def tC1 {m:Nat}(h:1<=m):tC m+1=2*m:=by unfold tC;rw[if_neg (by lia)];lia
def Jo {m:Nat}(h:1<=m):szR m+129=6758*m:=by unfold szR;rw[if_neg (by lia)];lia
def tD (w:Bool)(g:bU)(es:List Key)(kv:List (List Key×Key)):Prop:=∀k v,lk kv k=some v->∃a m:Nat,k=[.inl (a:Int),.inl (m:Int)]/\a+m<=es.length/\Sml w (szR m) v/\Sd g v ((es.drop a).take m)
structure dy (w:Bool)(g:bU)(n:Nat)(h:WH)(L D:Addr)(es:List Key)(kv:List (List Key×Key)):Prop where
 hl:h L=some (.lst (es.map kW))
 hd:h D=some (.dT (tb kv))
 ca:tD w g es kv
 en:∀e∈es,Sml w 6500 e
 le:es.length<=34
 lw:w=true->es.length<=12
 kl:kv.length<=n
 ne:L≠D
def tD.ex (c:tD w g es kv)(x:Ex g g'):tD w g' es kv:=fun k v e=>by
 obtain⟨a,m,h1,h2,h3,h4⟩:=c k v e
 exact⟨a,m,h1,h2,h3,h4.ex x⟩
def dy.mv {h h':WH}(r:dy w g n h L D es kv)(x:Ex g g')(hn:n<=n')(el:h' L=h L)(ed:h' D=h D):dy w g' n' h' L D es kv:=
 ⟨el.trans r.hl,ed.trans r.hd,r.ca.ex x,r.en,r.le,r.lw,VO r.kl hn,r.ne⟩
noncomputable def rwF (i:Nat)(c:List W)(L D:Addr):List (Str×W):=[("stamper",.clo i c),("entries",.ref L),("tops",.ref D)]
abbrev ff (i:Nat)(c:List W)(L D:Addr):W:=.obj 25 (rwF i c L D)
inductive mR (f:Nat)(l:List W)(h:WH)(Q:WQ):Prop
 |mk (b w g n i c L D es kv a m):l=[ff i c L D,.int (a:Nat),.int (m:Nat)]->dy w g n h L D es kv->L≠b->D≠b->aw h b w g n i c->n+tC m<=big->a+m<=es.length->2*m+2<=f->(∀v kv' g' h',Kx [b,D] h h'->dy w g' (n+tC m) h' L D es kv'->aw h' b w g' (n+tC m) i c->Ex g g'->Sml w (szR m) v->Sd g' v ((es.drop a).take m)->Q (kW v) h')->mR f l h Q
def fi (f:Nat):WP:=fun l h Q a=>mR f l h Q
inductive kq (f:Nat)(l:List W)(h:WH)(Q:WQ):Prop
 |mk (b w g n i c L D es kv a m):l=[ff i c L D,.int (a:Nat),.int (m:Nat)]->dy w g n h L D es kv->L≠b->D≠b->aw h b w g n i c->n+(tC m- 1)<=big->a+m<=es.length->2*m+1<=f->(∀k kv' g' h',Kx [b,D] h h'->dy w g' (n+(tC m- 1)) h' L D es kv'->aw h' b w g' (n+(tC m- 1)) i c->Ex g g'->okT k=true->(w=true->szT k+62<=szR m)->(∀hh,Ext g' hh->k=gf hh ((es.drop a).take m))->Q (tmW k) h')->kq f l h Q
def fR (f:Nat):WP:=fun l h Q a=>kq f l h Q
def wG:∀n l h Q X,fi n l h Q X->l.length=3:=by rintro n l h Q X ⟨a,a,a,a,a,a,a,a,a,a,a,a,rfl,a⟩;rfl
def uo:∀n l h Q X,fR n l h Q X->l.length=3:=by rintro n l h Q X ⟨a,a,a,a,a,a,a,a,a,a,a,a,rfl,a⟩;rfl
def yP:∀l h Q X,¬fi 0 l h Q X:=by rintro l h Q X ⟨a,a,a,a,a,a,a,a,a,a,a,m,a,a,a,a,a,a,a,z,a⟩;lia
def vZ:∀l h Q X,¬fR 0 l h Q X:=by rintro l h Q X ⟨a,a,a,a,a,a,a,a,a,a,a,m,a,a,a,a,a,a,a,z,a⟩;lia
def Fa:okT [.inr ("void":Str)]=true:=by decide+kernel
def Qf:okP (.inr ("entry":Str))=true:=by decide+kernel
def OH:okP (.inr ("joint":Str))=true:=by decide+kernel
def Vd:okP (.inr ("row":Str))=true:=by decide+kernel
def szS (h:(s:Str).length=n):szK (.inr (s:Str))=n+62:=by show(s:Str).length+62=_;rw[h]
def AS:szT [.inr ("void":Str)]=66:=by decide+kernel
def Ii:szT [.inr ("entry":Str),e]=67+szK e:=by
 show szK (.inr ("entry":Str))+(szK e+0)=_
 rw[szS (n:=5) (by decide+kernel)];lia
def Hd:szT [.inr ("joint":Str),a,b]=67+szK a+szK b:=by
 show szK (.inr ("joint":Str))+(szK a+(szK b+0))=_
 rw[szS (n:=5) (by decide+kernel)];lia
def IL:szT [.inr ("row":Str),.inl i,b]=127+szK b:=by
 show szK (.inr ("row":Str))+(62+(szK b+0))=_
 rw[szS (n:=3) (by decide+kernel)];lia
def Gv (ha:okP a=true)(hb:okP b=true):okT [.inr ("joint":Str),a,b]=true:=sL OH (by
 intro x hx;simp only[tx,If,or_false]at hx
 rcases hx with rfl|rfl;exact ha;exact hb) (by simp)
def OK {n:Nat}{b:Key}(hn:n<1000000)(hb:okP b=true):okT [.inr ("row":Str),.inl (n:Int),b]=true:=sL Vd (by
 intro x hx;simp only[tx,If,or_false]at hx
 rcases hx with rfl|rfl;exact Fv (by lia);exact hb) (by simp)
def GR (he:okP e=true):okT [.inr ("entry":Str),e]=true:=sL Qf (by
 intro x hx;simp only[tx,If,or_false]at hx
 rcases hx with rfl;exact he) (by simp)
def Mj {es:List Key}(h2:2<=m)(hm:a+m<=es.length)(h:List Key->Key):gf h ((es.drop a).take m)=[.inr "joint",h (gf h ((es.drop a).take (ak m))),h (gf h ((es.drop (a+ak m)).take (m- ak m)))]:=by
 obtain⟨g1,g2⟩:=cJ h2
 have hl:((es.drop a).take m).length=m:=by rw[VN,Wo];lia
 rw[zA h (by lia),hl,Zt,acr,acs,Yd (by lia)]
def Lv {es:List Key}(h:es[a]?=some e):(es.drop a).take 1=[e]:=by
 obtain⟨hl,rfl⟩:=Vz.mp h
 rw[YO hl];rfl
def atN {l:List W}{j:Nat}{w:W}(e:l[j]?=some w):atI l (j:Int)=some w:=bA (j:=j) e
def pA {a b:Nat}:(a:Int)+(b:Int)=((a+b:Nat):Int):=by lia
def pf {a b:Nat}(h:b<=a):(a:Int)- (b:Int)=((a- b:Nat):Int):=by lia
abbrev pt (a m:Nat):List Key:=[.inl (a:Int),.inl (m:Int)]
def QU (e:pt a m=pt b n):a=b/\m=n:=by
 simp only[XT,Sum.inl.injEq,and_true]at e;lia
theorem GO {k:List Key}(j:List Key):∀kv:List (List Key×Key),lk (kv.map fun p=>if p.1=k then(p.1,v)else p) j=if j=k then(lk kv k).map fun a=>v else lk kv j
 |[]=>by simp[lk]
 |p::r=>by
  have ih:=GO (v:=v) (k:=k) j r
  unfold lk at ih⊢
  rw[VI,VY,VY,VY]
  by_cases pk:p.1=k
  ·simp only[pk,if_true,decide_true]
   by_cases jk:j=k
   ·subst jk;simp
   ·have:decide (k=j)=false:=decide_eq_false (ab jk)
    simp only[this,if_neg jk]at ih⊢;exact ih
  ·simp only[if_neg pk,decide_eq_false pk]
   by_cases pj:p.1=j
   ·have jk:j≠k:=fun e=>pk (pj.trans e)
    simp[pj,jk]
   ·simp only[decide_eq_false pj];exact ih
def Qj (kv:List (List Key×Key))(k:List Key)(v:Key):∃kv2,pK (tb kv) k (kW v)=tb kv2/\kv2.length<=kv.length+1/\∀j,lk kv2 j=if j=k then some v else lk kv j:=by
 cases e:lk kv k with
 |none=>exact⟨_,AN v e,by simp,sW e⟩
 |some u=>
  refine⟨kv.map fun p=>if p.1=k then(p.1,v)else p,?_,by simp,fun j=>by rw[GO,e];rfl⟩
  unfold pK
  rw[if_pos]
  ·unfold tb
   rw[WA,WA]
   refine XU fun p a=>?_
   show(if p.1=k then(p.1,kW v)else(p.1,kW p.2))=((if p.1=k then(p.1,v)else p).1,kW (if p.1=k then(p.1,v)else p).2)
   split<;>rfl
  ·unfold lk at e
   obtain⟨p,hp,a⟩:=WM.mp e
   exact Yu.mpr ⟨(p.1,kW p.2),VL.mpr ⟨p,aaH hp,rfl⟩,by have:=List.find?_some hp;exact this⟩
def SQ {h:WH}(hd:h D=some (.dT (tb kv)))(e:lk kv k=some v):DW h D (tmW k) (some (kW v)):=by
 have:=DW.t (k:=k) hd;rw[lc,e]at this;exact this
abbrev ksO (es:List Key):O:=.lst (es.map kW)
inductive sj (l:List W)(h:WH)(Q:WQ):Prop
 |mk (i c L D es):l=[ff i c L D]->h L=some (ksO es)->Q (.int (es.length:Nat)) h->sj l h Q
def rg:WP:=fun l h Q a=>sj l h Q
def AE:LnW rg 1:=by rintro l h Q X ⟨a,a,a,a,a,rfl,a⟩;rfl
inductive iU (l:List W)(h:WH)(Q:WQ):Prop
 |mk (i c L D es cn el):l=[ff i c L D,.int (cn:Nat),.int (el:Nat)]->h L=some (ksO es)->cn<=es.length->el<=cn->cn<=1000->Q (.bl true) h->iU l h Q
def iZ:WP:=fun l h Q a=>iU l h Q
def rN:LnW iZ 3:=by rintro l h Q X ⟨a,a,a,a,a,a,a,rfl,a⟩;rfl
inductive iX (l:List W)(h:WH)(Q:WQ):Prop
 |mk (i c L D es cn el):l=[ff i c L D,.int (cn:Nat),.int (el:Nat)]->h L=some (ksO es)->cn<=es.length->el<cn->cn<=1000->Q (.bl true) h->iX l h Q
def iW:WP:=fun l h Q a=>iX l h Q
def rG:LnW iW 3:=by rintro l h Q X ⟨a,a,a,a,a,a,a,rfl,a⟩;rfl
abbrev rwK (c:Nat)(v:Key):List Key:=[.inr "row",.inl (c:Int),v]
def Mk (g:bU)(v:Key)(es:List Key):Prop:=∀hh,Ext g hh->v=hh (rwK es.length (hh (gf hh es)))
def Mk.ex (s:Mk g v es)(x:Ex g g'):Mk g' v es:=fun h e=>s h (e.of x)
def CJ (h:m<=k)(hk:1<=k):szR m<=6758*k:=by unfold szR;split<;>lia
inductive kH (l:List W)(h:WH)(Q:WQ):Prop
 |mk (b w g n i c L D es kv m):l=[ff i c L D,.int (m:Nat)]->dy w g n h L D es kv->L≠b->D≠b->aw h b w g n i c->n+70<=big->m<=es.length->(∀v kv' g' h',Kx [b,D] h h'->dy w g' (n+70) h' L D es kv'->aw h' b w g' (n+70) i c->Ex g g'->Sml w 82000 v->Mk g' v (es.take m)->Q (kW v) h')->kH l h Q
def lC:WP:=fun l h Q a=>kH l h Q
def wg:LnW lC 2:=by rintro l h Q X ⟨a,a,a,a,a,a,a,a,a,a,a,rfl,a⟩;rfl
inductive vq (l:List W)(h:WH)(Q:WQ):Prop
 |mk (i c L D es e):l=[ff i c L D,kW e]->okP e=true->h L=some (ksO es)->es.length<=1000->Q (.int (es.length:Nat)) (up h L (ksO (es++[e])))->vq l h Q
def vj:WP:=fun l h Q a=>vq l h Q
def Br:LnW vj 2:=by rintro l h Q X ⟨a,a,a,a,a,a,rfl,a⟩;rfl
inductive jH (l:List W)(h:WH)(Q:WQ):Prop
 |mk (p i c):l=[.ref p,.clo i c]->h p=some (.ins 25 [])->(∀L D,h L=none->h D=none->L≠D->Q .non (up (up (up h L (.lst [])) D (.dT [])) p (.ins 25 (rwF i c L D))))->jH l h Q
def ke:WP:=fun l h Q a=>jH l h Q
def uz:LnW ke 2:=by rintro l h Q X ⟨a,a,a,rfl,a⟩;rfl
def Na (n:a≠b):up (up h a o) b u=up (up h b u) a o:=by
 funext x
 by_cases xa:x=a
 ·subst xa;rw[ag n,ao,ao]
 ·by_cases xb:x=b
  ·subst xb;rw[ao,ag xa,ao]
  ·rw[ag xb,ag xa,ag xa,ag xb]
def MP:up (up (up (up h p A) L l) D d) p B=up (up (up h L l) D d) p B:=by
 funext x
 by_cases e:x=p
 ·subst e;rw[ao,ao]
 ·rw[ag e,ag e];unfold up;simp[e]
def aS {h:WH}(e:up h a o p=none):p≠a/\h p=none:=by
 by_cases z:p=a
 ·subst z;rw[ao]at e;injection e
 ·rw[ag z]at e;exact⟨z,e⟩
def aE {h:WH}(e:h a=some o)(n:h p=none):p≠a:=fun z=>by rw[z,e]at n;injection n
inductive sk (l:List W)(h:WH)(Q:WQ):Prop
 |mk (i c L D es):l=[ff i c L D]->h L=some (ksO es)->(∀L2 D2,h L2=none->h D2=none->L2≠D2->Q (ff i c L2 D2) (up (up h L2 (ksO es)) D2 (.dT [])))->sk l h Q
def su:WP:=fun l h Q a=>sk l h Q
def Ap:LnW su 1:=by rintro l h Q X ⟨a,a,a,a,a,rfl,a⟩;rfl
def Bx {Q:WQ}{h:WH}(hp:h p=none)(q:Q (.fl l) h):Fz Q (.ref p) (up h p (.lst l)):=
 ⟨_,h,fun a o e=>by rw[ag (fun z=>by rw[z,hp]at e;injection e)];exact e,.lst ao hp,q⟩
noncomputable def cg (l:List Int):List W:=l.map W.int
inductive Es (l:List W)(h:WH)(Q:WQ):Prop
 |mk (p m:Nat):l=[.int p,.int m]->p<m->m<=1000->Q (.fl (cg (fS m m p))) h->Es l h Q
def Ef:WP:=fun l h Q a=>Es l h Q
def Jk:LnW Ef 2:=by rintro l h Q X ⟨a,a,rfl,a⟩;rfl
theorem oR:∀n r p,(fS n r p).length<=n
 |0,_,_=>sn _
 |n+1,r,p=>by
  unfold fS;split
  ·simp
  ·split
   ·have:=oR n (ak r) p;simp;lia
   ·have:=oR n (r- ak r) (p- ak r);simp;lia
def oa:fS (n+1) r p=if r<=1 then[]else if p<ak r then 0::fS n (ak r) p else 1::fS n (r- ak r) (p- ak r):=rfl
inductive lM (l:List W)(h:WH)(Q:WQ):Prop
 |mk (m e:Nat):l=[.int m,.int e]->e<=m->m<=1000->Q (.fl (cg (trF m m e))) h->lM l h Q
def kY:WP:=fun l h Q a=>lM l h Q
def vQ:LnW kY 2:=by rintro l h Q X ⟨a,a,rfl,a⟩;rfl
theorem jv:∀n r p,(trF n r p).length<=n
 |0,_,_=>sn _
 |n+1,r,p=>by
  unfold trF;split
  ·simp
  ·split
   ·have:=jv n (ak r) p;simp;lia
   ·have:=jv n (r- ak r) (p- ak r);simp;lia
def AJ:trF (n+1) m e=if e=0\/m<=e then[]else if e<=ak m then 0::trF n (ak m) e else 1::trF n (m- ak m) (e- ak m):=rfl
def Cur (w:Bool)(g:bU)(s:List Key)(v:Key):Prop:=Sml w (szR s.length) v/\Sd g v s
def Cur.ex (c:Cur w g s v)(x:Ex g g'):Cur w g' s v:=⟨c.1,c.2.ex x⟩
inductive GM (w:Bool)(g:bU):List Key->Nat->List Key->List Int->Prop
 |fin {s d k}:(d=0\/s.length<=d)->Cur w g s k->GM w g s d [k] []
 |lo {s d k ks ts}:0<d->d<=ak s.length->d<s.length->GM w g (s.take (ak s.length)) d ks ts->Cur w g (s.drop (ak s.length)) k->GM w g s d (ks++[k]) (0::ts)
 |hi {s d k ks ts}:ak s.length<d->d<s.length->GM w g (s.drop (ak s.length)) (d- ak s.length) ks ts->Cur w g (s.take (ak s.length)) k->GM w g s d (k::ks) (1::ts)
def GM.ex (x:Ex g g'):∀{s:List Key}{d:Nat}{ks:List Key}{ts:List Int},GM w g s d ks ts->GM w g' s d ks ts:=fun z=>by
 induction z with
 |fin a b=>exact .fin a (b.ex x)
 |lo a b c _ e d=>exact .lo a b c d (e.ex x)
 |hi a b _ e d=>exact .hi a b d (e.ex x)
def GM.len:∀{s:List Key}{d:Nat}{ks:List Key}{ts:List Int},GM w g s d ks ts->ks.length=ts.length+1:=fun z=>by
 induction z with
 |fin a b=>rfl
 |lo a b c _ e d=>rw[VU,d];rfl
 |hi a b _ e d=>rw[VS,d];rfl
def GM.ok:∀{s:List Key}{d:Nat}{ks:List Key}{ts:List Int},GM w g s d ks ts->∀k∈ks,okP k=true:=fun z k hk=>by
 induction z with
 |fin a b=>rw[VH.mp hk];exact b.1.1
 |lo a b c _ e d=>
  rcases WE.mp hk with z|z
  ·exact d z
  ·rw[VH.mp z];exact e.1.1
 |hi a b _ e d=>
  rcases tx.mp hk with z|z
  ·rw[z];exact e.1.1
  ·exact d z
def GM.turns:∀{s:List Key}{d:Nat}{ks:List Key}{ts:List Int},GM w g s d ks ts->∀n,s.length<=n->ts=trF n s.length d:=fun z=>by
 induction z with
 |fin a b=>
  intro n hn
  cases n with
  |zero=>rfl
  |succ n=>rw[AJ,if_pos a]
 | @lo s d _ _ _ a b c _ f e=>
   intro n hn
   obtain⟨g1,g2⟩:=cJ (n:=s.length) (by lia)
   have tl:(s.take (ak s.length)).length=ak s.length:=by rw[VN];lia
   cases n with
   |zero=>lia
   |succ n=>
    have:=e n (by lia)
    rw[AJ,if_neg (by lia),if_pos b,this,tl]
 | @hi s d _ _ _ a b _ f e=>
   intro n hn
   have h1:1<=ak s.length:=ZY
   have tl:(s.drop (ak s.length)).length=s.length- ak s.length:=Wo
   cases n with
   |zero=>lia
   |succ n=>
    have:=e n (by lia)
    rw[AJ,if_neg (by lia),if_neg (by lia),this,tl]
def Cf (n:Nat):1<=ak n:=ZY
inductive gc (f:Nat)(l:List W)(h:WH)(Q:WQ):Prop
 |mk (b w g n i c L D es kv a m e):l=[ff i c L D,.int (a:Nat),.int (m:Nat),.int (e:Nat)]->dy w g n h L D es kv->L≠b->D≠b->aw h b w g n i c->n+4*m<=big->a+m<=es.length->1<=m->e<=m->m+1<=f->(∀ks ts kv' g' h',Kx [b,D] h h'->dy w g' (n+4*m) h' L D es kv'->aw h' b w g' (n+4*m) i c->Ex g g'->GM w g' ((es.drop a).take m) e ks ts->Q (.tup (ks.map kW)) h')->gc f l h Q
def eO (f:Nat):WP:=fun l h Q a=>gc f l h Q
def ow:∀n l h Q X,eO n l h Q X->l.length=4:=by rintro n l h Q X ⟨a,a,a,a,a,a,a,a,a,a,a,a,a,rfl,a⟩;rfl
def oJ:∀l h Q X,¬eO 0 l h Q X:=by rintro l h Q X ⟨a,a,a,a,a,a,a,a,a,a,a,m,a,a,a,a,a,a,a,a,a,a,z,a⟩;lia
def fq {es:List Key}(h:a+m<=es.length):((es.drop a).take m).length=m:=by rw[VN,Wo];lia
def oK {es:List Key}(h:k<=m):((es.drop a).take m).take k=(es.drop a).take k:=by rw[Zt,Yd h]
def oU {es:List Key}:((es.drop a).take m).drop k=(es.drop (a+k)).take (m- k):=by rw[acr,acs]
inductive gg (l:List W)(h:WH)(Q:WQ):Prop
 |mk (b w g n i c L D es kv m e):l=[ff i c L D,.int (m:Nat),.int (e:Nat)]->dy w g n h L D es kv->L≠b->D≠b->aw h b w g n i c->n+140<=big->m<=es.length->e<=m->(m=0->Q (.tup []) h)->(1<=m->∀ks ts kv' g' h',Kx [b,D] h h'->dy w g' (n+140) h' L D es kv'->aw h' b w g' (n+140) i c->Ex g g'->GM w g' (es.take m) e ks ts->Q (.tup (ks.map kW)) h')->gg l h Q
def gh:WP:=fun l h Q a=>gg l h Q
def nC:LnW gh 3:=by rintro l h Q X ⟨a,a,a,a,a,a,a,a,a,a,a,a,rfl,a⟩;rfl
inductive PM (w:Bool)(g:bU):List Key->Nat->List Key->List Int->Prop
 |fin {s p}:s.length<=1->PM w g s p [] []
 |lo {s p k ks ts}:2<=s.length->p<ak s.length->PM w g (s.take (ak s.length)) p ks ts->Cur w g (s.drop (ak s.length)) k->PM w g s p (k::ks) (0::ts)
 |hi {s p k ks ts}:2<=s.length->¬p<ak s.length->PM w g (s.drop (ak s.length)) (p- ak s.length) ks ts->Cur w g (s.take (ak s.length)) k->PM w g s p (k::ks) (1::ts)
def PM.len:∀{s:List Key}{p:Nat}{ks:List Key}{ts:List Int},PM w g s p ks ts->ks.length=ts.length:=fun z=>by
 induction z with
 |fin a=>rfl
 |lo a b _ e d=>rw[VS,d];rfl
 |hi a b _ e d=>rw[VS,d];rfl
def PM.ok:∀{s:List Key}{p:Nat}{ks:List Key}{ts:List Int},PM w g s p ks ts->∀k∈ks,okP k=true:=fun z k hk=>by
 induction z with
 |fin a=>cases hk
 |lo a b _ e d=>
  rcases tx.mp hk with z|z
  ·rw[z];exact e.1.1
  ·exact d z
 |hi a b _ e d=>
  rcases tx.mp hk with z|z
  ·rw[z];exact e.1.1
  ·exact d z
def PM.turns:∀{s:List Key}{p:Nat}{ks:List Key}{ts:List Int},PM w g s p ks ts->∀n,s.length<=n->ts=fS n s.length p:=fun z=>by
 induction z with
 |fin a=>
  intro n hn
  cases n with
  |zero=>rfl
  |succ n=>rw[oa,if_pos a]
 | @lo s p _ _ _ a b _ f e=>
   intro n hn
   obtain⟨g1,g2⟩:=cJ a
   have tl:(s.take (ak s.length)).length=ak s.length:=by rw[VN];lia
   cases n with
   |zero=>lia
   |succ n=>
    have:=e n (by lia)
    rw[oa,if_neg (by lia),if_pos b,this,tl]
 | @hi s p _ _ _ a b _ f e=>
   intro n hn
   obtain⟨g1,g2⟩:=cJ a
   have tl:(s.drop (ak s.length)).length=s.length- ak s.length:=Wo
   cases n with
   |zero=>lia
   |succ n=>
    have:=e n (by lia)
    rw[oa,if_neg (by lia),if_neg b,this,tl]
structure PPs (w:Bool)(g:bU)(s:List Key)(p:Nat)(dk:List Key)(s':List Key)(p':Nat):Prop where
 go:∀{g2 ks ts},Ex g g2->PM w g2 s' p' ks ts->∃ts2,PM w g2 s p (dk++ks) ts2
def PPs.ex (h:PPs w g s p dk s' p')(x:Ex g g'):PPs w g' s p dk s' p':=⟨fun y=>h.go (x.trans y)⟩
def PPs.lo {s s':List Key}(h:PPs w g s p dk s' p')(h2:2<=s'.length)(hp:p'<ak s'.length)(c:Cur w g (s'.drop (ak s'.length)) k):PPs w g s p (dk++[k]) (s'.take (ak s'.length)) p':=
 ⟨fun x m=>by rw[Wr];exact h.go x (.lo h2 hp m (c.ex x))⟩
def PPs.hi {s s':List Key}(h:PPs w g s p dk s' p')(h2:2<=s'.length)(hp:¬p'<ak s'.length)(c:Cur w g (s'.take (ak s'.length)) k):PPs w g s p (dk++[k]) (s'.drop (ak s'.length)) (p'- ak s'.length):=
 ⟨fun x m=>by rw[Wr];exact h.go x (.hi h2 hp m (c.ex x))⟩
abbrev vH (e:Key)(ks:List Key):W:=.tup [kW e,.tup (ks.map kW)]
inductive gw (l:List W)(h:WH)(Q:WQ):Prop
 |mk (b w g n i c L D es kv m p):l=[ff i c L D,.int (m:Nat),.int (p:Nat)]->dy w g n h L D es kv->L≠b->D≠b->aw h b w g n i c->n+70<=big->m<=es.length->p<m->(∀e ks ts kv' g' h',Kx [b,D] h h'->dy w g' (n+70) h' L D es kv'->aw h' b w g' (n+70) i c->Ex g g'->es[p]?=some e->PM w g' (es.take m) p ks ts->Q (vH e ks) h')->gw l h Q
def gB:WP:=fun l h Q a=>gw l h Q
def oW:LnW gB 3:=by rintro l h Q X ⟨a,a,a,a,a,a,a,a,a,a,a,a,rfl,a⟩;rfl
def Hx {h h':WH}(hT:h T=none)(k:Kx (T::as) (up h T o) h'):Kx as h (cut h' T):=fun a n=>by
 by_cases z:a=T
 ·subst z;rw[cx,hT]
 ·rw[bz z,k a (by simp[z,n]),ag z]
def tU:Sub (cut h p) h:=fun a o e=>by
 by_cases z:a=p
 ·subst z;rw[cx]at e;injection e
 ·rw[bz z]at e;exact e
def dy.cut (r:dy w g n h L D es kv)(tl:T≠L)(td:T≠D):dy w g n (cut h T) L D es kv:=r.mv Ex.rfl' (sn _) (bz (ab tl)) (bz (ab td))
def lx:List Key:=[.inr "void"]
inductive qa (l:List W)(h:WH)(Q:WQ):Prop
 |mk (b w g n i c):l=[.clo i c]->aw h b w g n i c->n<=big->(∀v g' h',Kp b h h'->aw h' b w g' (n+1) i c->Ex g g'->Cur w g' [] v->Q (.fl [tmW lx,tmW (rwK 0 v)]) h')->qa l h Q
def pY:WP:=fun l h Q a=>qa l h Q
def zn:LnW pY 1:=by rintro l h Q X ⟨a,a,a,a,a,a,rfl,a⟩;rfl
def Ea {s:List Key}(c:Cur w g s v)(hl:w=true->s.length<=12):w=true->szT (rwK m v)<=82000:=fun z=>by
 rw[IL];have:=c.1.2 z;have:=hl z;have:=CJ (m:=s.length) (k:=12) (by lia) (by lia);lia
def aw.row {s:List Key}{Q:WQ}{X:WX}(st:aw h b w g n i c)(cu:Cur w g s v)(hl:s.length<=40)(hw:w=true->s.length<=12)(hn:n<=big)
  (q:∀u g' h',Kp b h h'->aw h' b w g' (n+1) i c->Ex g g'->Sml w 82062 u->Mk g' u s->Q (kW u) h'):oZ 1 ks1 i c [tmW (rwK s.length v)] h Q X:=
 st.call (k:=rwK s.length v) (OK (by lia) cu.1.1) hn (fun z=>by have:=Ea (m:=s.length) cu hw z;lia) fun u g' h' k s' x e o z=>q u g' h' k s' x ⟨o,fun y=>by have:=z y;have:=Ea (m:=s.length) cu hw y;lia⟩ fun hh ex=>by
  rw[<-cu.2 hh (ex.of x)];exact(ex _ _ e).symm
inductive sG (l:List W)(h:WH)(Q:WQ):Prop
 |mk (b w g n i c):l=[.clo i c]->aw h b w g n i c->n+2<=big->(∀u g' h',Kp b h h'->aw h' b w g' (n+2) i c->Ex g g'->Sml w 82062 u->Mk g' u []->Q (hdW 0 u) h')->sG l h Q
def rj:WP:=fun l h Q a=>sG l h Q
def As:LnW rj 1:=by rintro l h Q X ⟨a,a,a,a,a,a,rfl,a⟩;rfl
def dG:atI (l++[w]) (-1)=some w:=by
 unfold atI
 have:ixN (l++[w]).length (-1)=some l.length:=by unfold ixN;simp;lia
 rw[this];simp
inductive Cd (l:List W)(h:WH)(Q:WQ):Prop
 |mk (t:Int) (o a:Key):l=[.int t,kW o,kW a]->Q (tmW (jtT t o a)) h->Cd l h Q
def Bk:WP:=fun l h Q a=>Cd l h Q
def GA:LnW Bk 3:=by rintro l h Q X ⟨a,a,a,rfl,a⟩;rfl
inductive jd (l:List W)(h:WH)(Q:WQ):Prop
 |mk (ts:List Int) (e:Key) (ks:List Key):l=[.fl (cg ts),vH e ks]->okP e=true->(∀k∈ks,okP k=true)->ks.length=ts.length->ks.length<=1000->Q (.bl true) h->jd l h Q
def iP:WP:=fun l h Q a=>jd l h Q
def rJ:LnW iP 2:=by rintro l h Q X ⟨a,a,a,rfl,a⟩;rfl
inductive Up (w:Bool)(g:bU):List (Int×Key)->List Key->List Key->Prop
 |nil {s}:Up w g [] s s
 |lo {st s x k es}:ak (s++x).length=s.length->2<=(s++x).length->Cur w g x k->Up w g st (s++x) es->Up w g ((0,k)::st) s es
 |hi {st s x k es}:ak (x++s).length=x.length->2<=(x++s).length->Cur w g x k->Up w g st (x++s) es->Up w g ((1,k)::st) s es
def Up.ex (x:Ex g g'):∀{st:List (Int×Key)}{s es:List Key},Up w g st s es->Up w g' st s es:=fun z=>by
 induction z with
 |nil=>exact .nil
 |lo a b c _ d=>exact .lo a b (c.ex x) d
 |hi a b c _ d=>exact .hi a b (c.ex x) d
def Up.le:∀{st:List (Int×Key)}{s es:List Key},Up w g st s es->s.length<=es.length:=fun z=>by
 induction z with
 |nil=>exact sn _
 |lo a b c _ d=>simp at d;lia
 |hi a b c _ d=>simp at d;lia
def PM.up:∀{s:List Key}{p:Nat}{ks:List Key}{ts:List Int},PM w g s p ks ts->∀{st},p<s.length->Up w g st s es->∃e,s[p]? =some e/\Up w g ((ts.zip ks).reverse++st) [e] es:=fun z=>by
 induction z with
 | @fin s p a=>
   intro st hp u
   obtain⟨e,rfl⟩:∃e,s=[e]:=by
    cases s with
    |nil=>simp at hp
    |cons e r=>cases r with
     |nil=>exact⟨e,rfl⟩
     |cons=>simp at a
   have:p=0:=by simp at hp;lia
   subst this
   exact⟨e,rfl,u⟩
 | @lo s p k _ _ a b _ cu m=>
   intro st hp u
   obtain⟨g1,g2⟩:=cJ a
   have tl:(s.take (ak s.length)).length=ak s.length:=by rw[VN];lia
   have td:=XG (ak s.length) s
   obtain⟨e,h1,h2⟩:=@m ((0,k)::st) (by lia) (.lo (x:=s.drop (ak s.length)) (by rw[td,tl]) (by rw[td];exact a) cu (by rw[td];exact u))
   refine⟨e,(by
    rw[XD]at h1
    split at h1<;>first|exact h1|(cases h1;done)),?_⟩
   rw[abF,WV,Wr];exact h2
 | @hi s p k _ _ a b _ cu m=>
   intro st hp u
   obtain⟨g1,g2⟩:=cJ a
   have tl:(s.take (ak s.length)).length=ak s.length:=by rw[VN];lia
   have td:=XG (ak s.length) s
   obtain⟨e,h1,h2⟩:=@m ((1,k)::st) (by rw[Wo];lia) (.hi (x:=s.take (ak s.length)) (by rw[td,tl]) (by rw[td];exact a) cu (by rw[td];exact u))
   refine⟨e,(by rw[abG,show ak s.length+(p- ak s.length)=p by lia]at h1;exact h1),?_⟩
   rw[abF,WV,Wr];exact h2
structure Trm (w:Bool)(g:bU)(s k:List Key):Prop where
 ok:okT k=true
 sz:w=true->szT k+62<=szR s.length
 eq:∀hh,Ext g hh->k=gf hh s
def Trm.joint {s x:List Key}(hh:ak (s++x).length=s.length)(h2:2<=(s++x).length)(a:Cur w g s u)(b:Cur w g x v):Trm w g (s++x) [.inr "joint",u,v]:=by
 obtain⟨g1,g2⟩:=cJ h2
 have l:(s++x).length=s.length+x.length:=VU
 refine⟨Gv a.1.1 b.1.1,fun z=>?_,fun f e=>?_⟩
 ·have z1:=a.1.2 z
  have z2:=b.1.2 z
  have r0:szR (s++x).length=6758*(s++x).length- 129:=if_neg (by lia)
  have r1:szR s.length=6758*s.length- 129:=if_neg (by lia)
  have r2:szR x.length=6758*x.length- 129:=if_neg (by lia)
  rw[Hd];lia
 ·rw[zA f h2,hh,List.take_left,List.drop_left,<-a.2 f e,<-b.2 f e]
def Trm.entry (m:Sml w 6500 e):Trm w g [e] [.inr "entry",e]:=⟨GR m.1,fun z=>by rw[Ii];have:=m.2 z;show _<=6758*1- 129;lia,fun a a=>rfl⟩
def NB {s:List Key}(hw:w=true->s.length<=12):w=true->szR s.length<=81096:=fun z=>by have:=hw z;exact VO (CJ (k:=12) this (by lia)) (by lia)
def aw.trm {s k:List Key}{Q:WQ}{X:WX}(st:aw h b w g n i c)(t:Trm w g s k)(hw:w=true->s.length<=12)(hn:n<=big)
  (q:∀u g' h',Kp b h h'->aw h' b w g' (n+1) i c->Ex g g'->Cur w g' s u->Q (kW u) h'):oZ 1 ks1 i c [tmW k] h Q X:=
 st.call (k:=k) t.ok hn (fun z=>by have:=t.sz z;have:=NB hw z;lia) fun u g' h' kp s' x e o z=>q u g' h' kp s' x ⟨⟨o,fun y=>by have:=z y;have:=t.sz y;lia⟩,fun hh ex=>by rw[<-t.eq hh (ex.of x)];exact(ex _ _ e).symm⟩
abbrev wa (x:Int×Key):W:=.tup [.int x.1,kW x.2]
theorem HW:∀(ts:List Int)(ks:List Key),Cc (cg ts) (ks.map kW)=(ts.zip ks).map wa
 |[],_=>rfl
 |_::_,[]=>rfl
 |t::ts,k::ks=>by
  show W.tup [.int t,kW k]::Cc (cg ts) (ks.map kW)=_
  rw[HW ts ks];rfl
inductive nA (l:List W)(h:WH)(Q:WQ):Prop
 |mk (b w g n i c es p e ks ts):l=[.clo i c,.int (Xy es:Nat),.int (p:Nat),vH e ks]->aw h b w g n i c->n+40<=big->es.length<=34->(w=true->es.length<=12)->p<es.length->es[p]?=some e->Sml w 6500 e->PM w g es p ks ts->(∀dn u g' h',Kp b h h'->aw h' b w g' (n+40) i c->Ex g g'->Cur w g' es u->Q (.fl (dn++[tmW (rwK es.length u)])) h')->nA l h Q
def mE:WP:=fun l h Q a=>nA l h Q
def wR:LnW mE 4:=by rintro l h Q X ⟨a,a,a,a,a,a,a,a,a,a,a,rfl,a⟩;rfl
def NE {h h':WH}(hT:h T=none)(k:Kx [T,b] (up h T o) h'):Kp b h (cut h' T):=fun a n=>Hx hT k a (by simp[n])
inductive pZ (l:List W)(h:WH)(Q:WQ):Prop
 |mk (b w g n i c es p e ks ts):l=[.clo i c,.int (Xy es:Nat),.int (p:Nat),vH e ks]->aw h b w g n i c->n+41<=big->es.length<=34->(w=true->es.length<=12)->p<es.length->es[p]?=some e->Sml w 6500 e->PM w g es p ks ts->(∀u g' h',Kp b h h'->aw h' b w g' (n+41) i c->Ex g g'->Mk g' u es->Q (kW u) h')->pZ l h Q
def qk:WP:=fun l h Q a=>pZ l h Q
def yu:LnW qk 4:=by rintro l h Q X ⟨a,a,a,a,a,a,a,a,a,a,a,rfl,a⟩;rfl
def Mk.one (a:Mk g u es)(b:Mk g v es):u=v:=by
 let hh:List Key->Key:=fun k=>(g k).getD (.inl 0)
 have ex:Ext g hh:=fun k v e=>by show(g k).getD _=v;rw[e];rfl
 rw[a hh ex,b hh ex]
inductive kK (l:List W)(h:WH)(Q:WQ):Prop
 |mk (b w g n i c es p e ks ts mk):l=[.clo i c,hdW (Xy es) mk,.int (p:Nat),vH e ks]->aw h b w g n i c->n+41<=big->es.length<=34->(w=true->es.length<=12)->p<es.length->es[p]?=some e->Sml w 6500 e->PM w g es p ks ts->Mk g mk es->okP mk=true->(∀g' h',Kp b h h'->aw h' b w g' (n+41) i c->Ex g g'->Q (kW e) h')->kK l h Q
def kG:WP:=fun l h Q a=>kK l h Q
def vN:LnW kG 4:=by rintro l h Q X ⟨a,a,a,a,a,a,a,a,a,a,a,a,rfl,a⟩;rfl
def zh (a b:Key):Fd (kW a) (kW b):=by cases a<;>cases b<;>exact .sc rfl
inductive Gr (w:Bool)(g:bU):List (Int×Key)->List Key->List Key->List Key->List Key->Prop
 |nil {s o}:Gr w g [] s o s o
 |lo {st s o x k S O}:ak (s++x).length=s.length->2<=(s++x).length->Cur w g x k->Gr w g st (s++x) o S O->Gr w g ((0,k)::st) s o S O
 |hi {st s o x k S O}:ak (x++s).length=x.length->2<=(x++s).length->ak (x++o).length=x.length->2<=(x++o).length->Cur w g x k->Gr w g st (x++s) (x++o) S O->Gr w g ((1,k)::st) s o S O
def Gr.ex (x:Ex g g'):∀{st:List (Int×Key)}{s o S O:List Key},Gr w g st s o S O->Gr w g' st s o S O:=fun z=>by
 induction z with
 |nil=>exact .nil
 |lo a b c _ d=>exact .lo a b (c.ex x) d
 |hi a b c d e _ f=>exact .hi a b c d (e.ex x) f
def Gr.le:∀{st:List (Int×Key)}{s o S O:List Key},Gr w g st s o S O->s.length<=S.length/\o.length<=O.length:=fun z=>by
 induction z with
 |nil=>exact⟨sn _,sn _⟩
 |lo a b c _ d=>simp at d;lia
 |hi a b c d e _ f=>simp at f;lia
inductive Dl:List Int->List Key->Key->List (Int×Key)->Prop
 |nil {k}:Dl [] [k] k []
 |lo {ts ks m st k}:Dl ts ks m st->Dl (0::ts) (ks++[k]) m ((0,k)::st)
 |hi {ts ks m st k}:Dl ts ks m st->Dl (1::ts) (k::ks) m ((1,k)::st)
def Dl.len:∀{ts:List Int}{ks:List Key}{m:Key}{st:List (Int×Key)},Dl ts ks m st->ks.length=ts.length+1/\st.length=ts.length:=fun z=>by
 induction z with
 |nil=>exact⟨rfl,rfl⟩
 |lo _ d=>simp;lia
 |hi _ d=>simp;lia
def Ly (h1:ak n<d)(h2:d<=n):ak d=ak n:=by
 have h3:=LW (m:=n) (by have:=Cf n;lia)
 have:=CK (a:=Zp (n- 1)) (c:=d- ak n) (by lia) (by show d- ak n<=ak n;lia)
 rw[show 2^Zp (n- 1)+(d- ak n)=d by show ak n+(d- ak n)=d;lia]at this
 exact this
def GM.gr {w:Bool}{g:bU}{S O:List Key}:∀{s:List Key}{d:Nat}{ks:List Key}{ts:List Int},GM w g s d ks ts->1<=d->d<=s.length->∃m st,Dl ts ks m st/\∀{up},Gr w g up s (s.take d) S O->∃s0,Cur w g s0 m/\Gr w g (st.reverse++up) s0 s0 S O:=fun z=>by
 induction z with
 | @fin s d k a c=>
   intro h1 h2
   exact⟨k,[],.nil,fun u=>⟨s,c,by rw[Xi (by lia)]at u;exact u⟩⟩
 | @lo s d k _ _ a b c _ cu e=>
   intro h1 h2
   obtain⟨g1,g2⟩:=cJ (n:=s.length) (by lia)
   have tl:(s.take (ak s.length)).length=ak s.length:=by rw[VN];lia
   have td:=XG (ak s.length) s
   obtain⟨m,st,dl,f⟩:=e h1 (by lia)
   refine⟨m,(0,k)::st,.lo dl,fun{up} u=>?_⟩
   obtain⟨s0,c0,r⟩:=f (up:=(0,k)::up) (.lo (x:=s.drop (ak s.length)) (by rw[td,tl]) (by rw[td];lia) cu (by rw[td,Zt,Yd b];exact u))
   exact⟨s0,c0,by rw[WV,Wr];exact r⟩
 | @hi s d k _ _ a b _ cu e=>
   intro h1 h2
   obtain⟨g1,g2⟩:=cJ (n:=s.length) (by have:=Cf s.length;lia)
   have tl:(s.take (ak s.length)).length=ak s.length:=by rw[VN];lia
   have td:=XG (ak s.length) s
   have dl':(s.drop (ak s.length)).length=s.length- ak s.length:=Wo
   obtain⟨m,st,dl,f⟩:=e (by lia) (by lia)
   refine⟨m,(1,k)::st,.hi dl,fun{up} u=>?_⟩
   have eo:s.take (ak s.length)++(s.drop (ak s.length)).take (d- ak s.length)=s.take d:=by
    rw[<-List.take_add,show ak s.length+(d- ak s.length)=d by lia]
   have lo:(s.take d).length=d:=by rw[VN];lia
   obtain⟨s0,c0,r⟩:=f (up:=(1,k)::up) (.hi (x:=s.take (ak s.length)) (by rw[td,tl]) (by rw[td];lia) (by rw[eo,lo,tl];exact Ly a h2) (by rw[eo,lo];lia) cu (by rw[td,eo];exact u))
   exact⟨s0,c0,by rw[WV,Wr];exact r⟩
inductive qr (l:List W)(h:WH)(Q:WQ):Prop
 |mk (ts ks m st):l=[.fl (cg ts),.tup (Wt kW ks)]->Dl ts ks m st->ts.length<=1000->Q (.tup [kW m,.fl (st.reverse.map wa)]) h->qr l h Q
def qz:WP:=fun l h Q a=>qr l h Q
def yZ:LnW qz 2:=by rintro l h Q X ⟨a,a,a,a,rfl,a⟩;rfl
def CP {a c:List Key}:atI ((a++k::c).map kW) (a.length:Nat)=some (kW k):=atN (by simp)
inductive mS (l:List W)(h:WH)(Q:WQ):Prop
 |mk (b w g n i c st m s0 S O):l=[.clo i c,.int (Xy S:Nat),.int (Xy O:Nat),.tup [kW m,.fl (Wt wa st)]]->aw h b w g n i c->n+80<=big->S.length<=34->O.length<=34->(w=true->S.length<=12)->(w=true->O.length<=12)->st.length<=40->Cur w g s0 m->Gr w g st s0 s0 S O->(∀d1 d2 u v g' h',Kp b h h'->aw h' b w g' (n+80) i c->Ex g g'->Cur w g' S u->Cur w g' O v->Q (.tup [.fl (d1++[tmW (rwK S.length u)]),.fl (d2++[tmW (rwK O.length v)])]) h')->mS l h Q
def oo:WP:=fun l h Q a=>mS l h Q
def wo:LnW oo 4:=by rintro l h Q X ⟨a,a,a,a,a,a,a,a,a,a,a,rfl,a⟩;rfl
def Lk {h h':WH}(hT:h T=none)(hU:h U=none)(k:Kx (T::U::as) (up (up h T o) U o') h'):Kx as h (cut (cut h' T) U):=fun a n=>by
 by_cases z:a=U
 ·subst z;rw[cx,hU]
 ·rw[bz z]
  by_cases y:a=T
  ·subst y;rw[cx,hT]
  ·rw[bz y,k a (by simp[z,y,n]),ag z,ag y]
def Po {Q:WQ}{h:WH}(hT:h T=some (.lst l))(hU:h U=some (.lst m))(q:Q (.tup [.fl l,.fl m]) (cut (cut h T) U)):Fz Q (.tup [.ref T,.ref U]) h:=
 ⟨_,cut (cut h T) U,fun a o e=>tU a o (tU a o e),.tup (.cons (.lst hT (by unfold cut;split<;>simp)) (.cons (.lst hU cx) .nil)),q⟩
def Pap (w:Bool)(g:bU)(es:List Key)(d:Nat)(ks:List Key):Prop:=(es=[]/\ks=[])\/(1<=es.length/\∃ts,GM w g es d ks ts)
inductive kU (l:List W)(h:WH)(Q:WQ):Prop
 |mk (b w g n i c es d ks):l=[.clo i c,.int (Xy es:Nat),.int (d:Nat),.tup (Wt kW ks)]->aw h b w g n i c->n+82<=big->es.length<=34->(w=true->es.length<=12)->d<=es.length->Pap w g es d ks->(∀d1 d2 u v g' h',Kp b h h'->aw h' b w g' (n+82) i c->Ex g g'->Cur w g' es u->Cur w g' (es.take d) v->Q (.tup [.fl (d1++[tmW (rwK es.length u)]),.fl (d2++[tmW (rwK d v)])]) h')->kU l h Q
def lX:WP:=fun l h Q a=>kU l h Q
def vW:LnW lX 4:=by rintro l h Q X ⟨a,a,a,a,a,a,a,a,a,rfl,a⟩;rfl
inductive jY (l:List W)(h:WH)(Q:WQ):Prop
 |mk (b w g n i c es d ks mk):l=[.clo i c,hdW (Xy es) mk,.int (d:Nat),.tup (Wt kW ks)]->aw h b w g n i c->n+84<=big->es.length<=34->(w=true->es.length<=12)->d<=es.length->Pap w g es d ks->Mk g mk es->okP mk=true->(∀u g' h',Kp b h h'->aw h' b w g' (n+84) i c->Ex g g'->Sml w 82062 u->Mk g' u (es.take d)->Q (kW u) h')->jY l h Q
def jA:WP:=fun l h Q a=>jY l h Q
def uh:LnW jA 4:=by rintro l h Q X ⟨a,a,a,a,a,a,a,a,a,a,rfl,a⟩;rfl
def hdK (c:Nat)(m:Key):List Key:=[.inl (c:Int),m]
abbrev slV (D:Addr):W:=.obj 27 [("sealed",.ref D)]
inductive ik (l:List W)(h:WH)(Q:WQ):Prop
 |mk (p):l=[.ref p]->h p=some (.ins 27 [])->(∀D,h D=none->Q .non (up (up h D (.dT [])) p (.ins 27 [("sealed",.ref D)])))->ik l h Q
def ie:WP:=fun l h Q a=>ik l h Q
def qG:LnW ie 1:=by rintro l h Q X ⟨a,rfl,a⟩;rfl
inductive nV (l:List W)(h:WH)(Q:WQ):Prop
 |mk (D c m kv):l=[slV D,hdW c m]->c<1000000->okP m=true->h D=some (.dT kv)->kv.length<1000000->Q .non (up h D (.dT (pK kv (hdK c m) (.bl true))))->nV l h Q
def mC:WP:=fun l h Q a=>nV l h Q
def xM:LnW mC 2:=by rintro l h Q X ⟨a,a,a,a,rfl,a⟩;rfl
inductive lg (l:List W)(h:WH)(Q:WQ):Prop
 |mk (D c m kv):l=[slV D,hdW c m]->c<1000000->okP m=true->h D=some (.dT kv)->Q (.bl (gK kv (hdK c m)).isSome) h->lg l h Q
def kJ:WP:=fun l h Q a=>lg l h Q
def vY:LnW kJ 2:=by rintro l h Q X ⟨a,a,a,a,rfl,a⟩;rfl
theorem GY {κ:Type}[DecidableEq κ]{k:κ}(j:κ):∀l:List (κ×W),gK (l.map fun p=>if p.1=k then(p.1,w)else p) j=if j=k then(gK l k).map fun a=>w else gK l j
 |[]=>by simp[gK]
 |p::r=>by
  have ih:=GY (w:=w) (k:=k) j r
  unfold gK at ih⊢
  rw[VI,VY,VY,VY]
  by_cases pk:p.1=k
  ·simp only[pk,if_true,decide_true]
   by_cases jk:j=k
   ·subst jk;simp
   ·have:decide (k=j)=false:=decide_eq_false (ab jk)
    simp only[this,if_neg jk]at ih⊢;exact ih
  ·simp only[if_neg pk,decide_eq_false pk]
   by_cases pj:p.1=j
   ·have jk:j≠k:=fun e=>pk (pj.trans e)
    simp[pj,jk]
   ·simp only[decide_eq_false pj];exact ih
def AL {κ:Type}[DecidableEq κ](l:List (κ×W))(k:κ)(w:W)(j:κ):gK (pK l k w) j=if j=k then some w else gK l j:=by
 unfold pK
 split
 ·rename_i h
  rw[GY]
  obtain⟨p,hp,e⟩:=Yu.mp h
  have:(gK l k).isSome=true:=by
   unfold gK
   rw[Yf,List.find?_isSome]
   exact⟨p,hp,e⟩
  obtain⟨v,hv⟩:=Ws.mp this
  rw[hv];rfl
 ·rename_i h
  have hn:l.find? (fun p=>decide (p.1=k))=none:=abH.mpr fun p hp z=>h (Yu.mpr ⟨p,hp,z⟩)
  unfold gK
  rw[abR]
  by_cases e:j=k
  ·subst e;rw[hn];simp
  ·rw[if_neg e]
   cases l.find? fun p=>decide (p.1=j)with
   |some x=>rfl
   |none=>simp[VY,ab e]
def nj {κ:Type}[DecidableEq κ](l:List (κ×W))(k:κ)(w:W):(pK l k w).length<=l.length+1:=by
 unfold pK;split<;>simp
def hsF (i:Nat)(c:List W)(T L D M SD:Addr):List (Str×W):=[("table",.ref T),("row",ff i c L D),("makes",.ref M),("seals",slV SD)]
abbrev hsV (i:Nat)(c:List W)(T L D M SD:Addr):W:=.obj 30 (hsF i c T L D M SD)
structure bn (w:Bool)(g:bU)(n:Nat)(h:WH)(b:Addr)(i:Nat)(c:List W)(B:Nat)(T L D M:Addr)(t:Kn Str)(es:List Key):Prop where
 tb:∃v m,h T=some (.ins 24 (tbF i c B v))/\KnV w g v t m
 tr:Tr B t
 b1:1<=B
 b2:B<=60
 sz:szN t<=97000
 rw:∃kv,dy w g n h L D es kv
 ml:∃ms,h M=some (.lst ms)/\ms.length<=es.length
 st:aw h b w g n i c
 nd:[b,T,L,D,M].Nodup
def bn.ne (a:bn w g n h b i c B T L D M t es):T≠b/\L≠b/\D≠b/\M≠b/\L≠T/\D≠T/\M≠T/\D≠L/\M≠L/\M≠D:=by
 have:=a.nd
 simp only[VX,tx,If,or_false,not_or]at this
 obtain⟨⟨a1,a2,a3,a4⟩,⟨a5,a6,a7⟩,⟨a8,a9⟩,a10,d⟩:=this
 exact⟨ab a1,ab a2,ab a3,ab a4,ab a5,ab a6,ab a7,ab a8,ab a9,ab a10⟩
def bn.op (a:bn w g n h b i c B T L D M t es)(k:Kx [b,D] h h')(r:dy w g' n' h' L D es kv)(s:aw h' b w g' n' i c)(x:Ex g g'):bn w g' n' h' b i c B T L D M t es:=by
 obtain⟨n1,n2,n3,n4,n5,n6,n7,n8,n9,n10⟩:=a.ne
 obtain⟨v,m,e,kn⟩:=a.tb
 obtain⟨ms,e2,l2⟩:=a.ml
 exact⟨⟨v,m,(k T (by simp[n1,ab n6])).trans e,kn.ex x⟩,a.tr,a.b1,a.b2,a.sz,⟨kv,r⟩,⟨ms,(k M (by simp[n4,n10])).trans e2,l2⟩,s,a.nd⟩
inductive jy (l:List W)(h:WH)(Q:WQ):Prop
 |mk (w g n b i c B T L D M SD t es):l=[hsV i c T L D M SD]->bn w g n h b i c B T L D M t es->n+70<=big->(∀u g' h',Kx [b,D] h h'->bn w g' (n+70) h' b i c B T L D M t es->Ex g g'->Sml w 82000 u->Mk g' u es->Q (hdW (Xy es) u) h')->jy l h Q
def jP:WP:=fun l h Q a=>jy l h Q
def uu:LnW jP 1:=by rintro l h Q X ⟨a,a,a,a,a,a,a,a,a,a,a,a,a,a,rfl,a⟩;rfl
inductive pP (l:List W)(h:WH)(Q:WQ):Prop
 |mk (w g n b i c B T L D M SD t es key x):l=[hsV i c T L D M SD,.int (key:Nat),.str x]->bn w g n h b i c B T L D M t es->n+72<=big->key<2^B->txO x->szN t+564<=97000->(∀o g' h',Kx [b,T] h h'->bn w g' (n+72) h' b i c B T L D M (bW B key x t) es->Ex g g'->Q o h')->pP l h Q
def pQ:WP:=fun l h Q a=>pP l h Q
def yW:LnW pQ 3:=by rintro l h Q X ⟨a,a,a,a,a,a,a,a,a,a,a,a,a,a,a,a,rfl,a⟩;rfl
def bn.tab (a:bn w g n h b i c B T L D M t es)(k:Kp b h h')(s:aw h' b w g' n' i c)(x:Ex g g')(hn:n<=n')(kn:KnV w g' v t' m)(tr:Tr B t')(sz:szN t'<=97000):bn w g' n' (up h' T (.ins 24 (tbF i c B v))) b i c B T L D M t' es:=by
 obtain⟨n1,n2,n3,n4,n5,n6,n7,n8,n9,n10⟩:=a.ne
 obtain⟨kv,r⟩:=a.rw
 obtain⟨ms,e2,l2⟩:=a.ml
 exact⟨⟨v,m,ao,kn⟩,tr,a.b1,a.b2,sz,⟨kv,r.mv x hn ((ag n5).trans (k L n2)) ((ag n6).trans (k D n3))⟩,⟨ms,(ag n7).trans ((k M n4).trans e2),l2⟩,s.am (ag (ab n1)),a.nd⟩
inductive nD (l:List W)(h:WH)(Q:WQ):Prop
 |mk (w g n b i c B T L D M SD t es key z):l=[hsV i c T L D M SD,.int (key:Nat)]->bn w g n h b i c B T L D M t es->n+72<=big->key<2^B->aD B key t=some z->(∀o g' h',Kx [b,T] h h'->bn w g' (n+72) h' b i c B T L D M (aX B key t) es->Ex g g'->Q o h')->nD l h Q
def mU:WP:=fun l h Q a=>nD l h Q
def xL:LnW mU 2:=by rintro l h Q X ⟨a,a,a,a,a,a,a,a,a,a,a,a,a,a,a,a,rfl,a⟩;rfl
inductive kd (l:List W)(h:WH)(Q:WQ):Prop
 |mk (w g n b i c B T L D M SD t es m d):l=[hsV i c T L D M SD,.int (m:Nat),.int (d:Nat)]->bn w g n h b i c B T L D M t es->n+140<=big->m<=es.length->d<=m->(∀ks g' h',Kx [b,D] h h'->bn w g' (n+140) h' b i c B T L D M t es->Ex g g'->Pap w g' (es.take m) d ks->Q (.tup (Wt kW ks)) h')->kd l h Q
def kg:WP:=fun l h Q a=>kd l h Q
def ua:LnW kg 3:=by rintro l h Q X ⟨a,a,a,a,a,a,a,a,a,a,a,a,a,a,a,a,rfl,a⟩;rfl
inductive jK (l:List W)(h:WH)(Q:WQ):Prop
 |mk (w g n b i c B T L D M SD t es m p):l=[hsV i c T L D M SD,.int (m:Nat),.int (p:Nat)]->bn w g n h b i c B T L D M t es->n+70<=big->m<=es.length->p<m->(∀e ks ts g' h',Kx [b,D] h h'->bn w g' (n+70) h' b i c B T L D M t es->Ex g g'->es[p]?=some e->PM w g' (es.take m) p ks ts->Q (vH e ks) h')->jK l h Q
def jD:WP:=fun l h Q a=>jK l h Q
def tX:LnW jD 3:=by rintro l h Q X ⟨a,a,a,a,a,a,a,a,a,a,a,a,a,a,a,a,rfl,a⟩;rfl
def My {es:List Key}(h:a+m<=es.length):((es++[r]).drop a).take m=(es.drop a).take m:=by
 rw[List.drop_append_of_le_length (by lia),aah (by rw[Wo];lia)]
def dy.add {es:List Key}(a:dy w g n h L D es kv)(m:Sml w 6500 r)(l1:es.length+1<=34)(l2:w=true->es.length+1<=12):dy w g n (up h L (ksO (es++[r]))) L D (es++[r]) kv:=
 ⟨ao,(ag (ab a.ne)).trans a.hd,fun k v e=>by
  obtain⟨x,y,h1,h2,h3,h4⟩:=a.ca k v e
  exact⟨x,y,h1,by simp;lia,h3,by rw[My h2];exact h4⟩,fun e he=>by
  rcases WE.mp he with z|z
  ·exact a.en e z
  ·rw[VH.mp z];exact m,by simpa using l1,fun z=>by simpa using l2 z,a.kl,a.ne⟩
inductive nr (l:List W)(h:WH)(Q:WQ):Prop
 |mk (w g n b i c B T L D M SD t es sv):l=[hsV i c T L D M SD]->bn w g n h b i c B T L D M t es->n+71<=big->es.length+1<=34->(w=true->es.length+1<=12)->(w=true->szN t<=6500)->SD∉[b,T,L,D,M]->h SD=some (.dT sv)->sv.length<1000000->(∀r u g' h',Kx [b,L,D,M,SD] h h'->bn w g' (n+71) h' b i c B T L D M t (es++[r])->Ex g g'->(∀hh,Ext g' hh->r=yh hh t)->Sml w 82000 u->Mk g' u (es++[r])->h' SD=some (.dT (pK sv (hdK (es.length+1) u) (.bl true)))->Q (hdW (es.length+1) u) h')->nr l h Q
def nN:WP:=fun l h Q a=>nr l h Q
def xf:LnW nN 1:=by rintro l h Q X ⟨a,a,a,a,a,a,a,a,a,a,a,a,a,a,a,rfl,a⟩;rfl
inductive hV (l:List W)(h:WH)(Q:WQ):Prop
 |mk (p w g n b i c B SD sv):l=[.ref p,.clo i c,.int (B:Nat),slV SD]->h p=some (.ins 30 [])->p≠b->SD≠b->p≠SD->aw h b w g n i c->n+3<=big->1<=B->B<=60->h SD=some (.dT sv)->sv.length<1000000->(∀T L D M u g' h',[T,L,D,M].Nodup->(∀a∈[T,L,D,M],h a=none)->Kx [b,T,L,D,M,SD,p] h h'->h' p=some (.ins 30 (hsF i c T L D M SD))->bn w g' (n+3) h' b i c B T L D M .bare []->Ex g g'->Sml w 82062 u->Mk g' u []->h' SD=some (.dT (pK sv (hdK 0 u) (.bl true)))->Q .non h')->hV l h Q
def im:WP:=fun l h Q a=>hV l h Q
def qF:LnW im 4:=by rintro l h Q X ⟨a,a,a,a,a,a,a,a,a,a,rfl,a⟩;rfl
def Jg {h:WH}(e:cut h p a=none):a=p\/(a≠p/\h a=none):=by
 by_cases z:a=p
 ·exact .inl z
 ·exact .inr ⟨z,by rw[bz z]at e;exact e⟩
inductive nI (l:List W)(h:WH)(Q:WQ):Prop
 |mk (w g n b i c B T L D M SD t es sv):l=[hsV i c T L D M SD]->bn w g n h b i c B T L D M t es->n+4<=big->SD∉[b,T,L,D,M]->h SD=some (.dT sv)->sv.length<1000000->(∀T2 L2 D2 M2 u g' h',[T2,L2,D2,M2].Nodup->(∀a∈[T2,L2,D2,M2],h a=none)->Kx [b,T2,L2,D2,M2,SD] h h'->bn w g' (n+4) h' b i c B T2 L2 D2 M2 t es->Ex g g'->Sml w 82062 u->Mk g' u []->h' SD=some (.dT (pK sv (hdK 0 u) (.bl true)))->Q (hsV i c T2 L2 D2 M2 SD) h')->nI l h Q
def oy:WP:=fun l h Q a=>nI l h Q
def wD:LnW oy 1:=by rintro l h Q X ⟨a,a,a,a,a,a,a,a,a,a,a,a,a,a,a,rfl,a⟩;rfl
def drp (h:WH)(as:List Addr):WH:=fun a=>if a∈as then none else h a
def GF (m:a∈as):drp h as a=none:=if_pos m
def gH {h:WH}(m:a∉as):drp h as a=h a:=if_neg m
def Nd:Sub (drp h as) h:=fun a o e=>by
 unfold drp at e;split at e
 ·injection e
 ·exact e
inductive lF (l:List W)(h:WH)(Q:WQ):Prop
 |mk (ns:List Int) (k:Nat):l=[.sl (ns.map .int),.int k]->(∀z:Int,Q (.int z) h)->lF l h Q
def kO:WP:=fun l h Q a=>lF l h Q
def vL:LnW kO 2:=by rintro l h Q X ⟨a,a,rfl,a⟩;rfl
inductive pN (l:List W)(h:WH)(Q:WQ):Prop
 |mk (i:Int):l=[.int i]->Q (.bl true) h->pN l h Q
def qi:WP:=fun l h Q a=>pN l h Q
def zc:LnW qi 1:=by rintro l h Q X ⟨a,rfl,a⟩;rfl
def qX {i:Int}(h:0<=i):∃n:Nat,i=n:=Ze h
inductive ve (l:List W)(h:WH)(Q:WQ):Prop
 |mk (a:Int) (k:Nat):l=[.int a,.int k]->k<=1000->(∀r:Nat,r<2147483647->Q (.int r) h)->ve l h Q
def vi:WP:=fun l h Q a=>ve l h Q
def CD:LnW vi 2:=by rintro l h Q X ⟨a,a,rfl,a⟩;rfl
def IX (n:Nat):(0:Int)<((2^n:Nat):Int):=by have:=Wv n;lia
inductive vf (l:List W)(h:WH)(Q:WQ):Prop
 |mk (a:Int) (B:Nat):l=[.int a,.int B]->1<=B->B<=60->(∀k:Nat,k<2^B->Q (.int k) h)->vf l h Q
def mn:WP:=fun l h Q a=>vf l h Q
def Cm:LnW mn 2:=by rintro l h Q X ⟨a,a,rfl,a⟩;rfl
noncomputable def knR (kn:List (Nat×Str)):List (Int×W):=kn.map fun p=>((p.1:Int),W.str p.2)
inductive lh (l:List W)(h:WH)(Q:WQ):Prop
 |mk (Kn:Addr) (a:Int) (num B:Nat) (kn:List (Nat×Str)):l=[.ref Kn,.int a,.int num,.int B]->h Kn=some (.dK (iG (knR kn)))->kn.length<64->(∀p∈kn,p.1<2^B)->1<=B->B<=60->(∀k:Nat,k<2^B->Q (.int k) h)->lh l h Q
def lU:WP:=fun l h Q a=>lh l h Q
def vP:LnW lU 4:=by rintro l h Q X ⟨a,a,a,a,a,rfl,a⟩;rfl
theorem EK:∀ns:List Int,Pls 149 (ns.map W.int)
 |[]=>.nil
 |_::r=>.cons .int (EK r)
def LsB (b:Addr)(x:W)(h:WH)(l:List W):Prop:=x=.fl l\/∃a,x=.ref a/\a≠b/\h a=some (.lst l)
def LsB.kp (s:LsB b x h l)(k:Kp b h h'):LsB b x h' l:=s.imp_right fun⟨a,e,n,q⟩=>⟨a,e,n,(k a n).trans q⟩
def LsB.len {l:List W}{Q:WQ}(s:LsB b x h l)(q:Q (.int (l.length:Nat)) h):yV [x] h Q:=by
 rcases s with rfl|⟨a,rfl,c,e⟩
 ·exact q
 ·exact .inl ⟨l,e,q⟩
def LsB.ix {Q:WQ}(s:LsB b x h l)(e:atI l i=some w)(q:Q w h):qIx x (.int i) h Q:=by
 rcases s with rfl|⟨a,rfl,c,e2⟩
 ·exact⟨w,e,q⟩
 ·exact .inl ⟨l,i,w,rfl,e2,e,q⟩
def LsB.sl {b:Addr}{x:W}{h:WH}{l:List W}{lo hi:Option Int}{Q:WQ}(s:LsB b x h l)(q:Q (.fl (mx l lo hi)) h):qSl x lo hi h Q:=by
 rcases s with rfl|⟨a,rfl,c,e2⟩
 ·exact⟨l,.inl (.inl rfl),.inl q⟩
 ·exact⟨l,.inl (.inr ⟨a,rfl,e2⟩),.inl q⟩
def Ot {l:List W}(h:k<=l.length):mx l none (some (k:Int))=l.take k:=by
 unfold mx;rw[HT.BQ,HT.Ep,Yd h];simp
def Ja {l:List W}(h:k<=l.length):mx l (some (k:Int)) none=l.drop k:=by
 unfold mx;rw[HT.BQ,HT.Ep,Yd h,Xi (by rw[Wo];lia)]
inductive sq (l:List W)(h:WH)(Q:WQ):Prop
 |mk (c:Nat) (m:Key):l=[hdW c m,hdW c m]->okP m=true->Q (.bl true) h->sq l h Q
def sR:WP:=fun l h Q a=>sq l h Q
def Ao:LnW sR 2:=by rintro l h Q X ⟨a,a,rfl,a⟩;rfl
def plK (h:okP m=true):Pl n (kW m):=by
 cases m with
 |inl i=>exact .int
 |inr z=>exact .str (sh (Gn.mp h).1)
def plH (h:okP m=true):Pl (n+1) (hdW c m):=.tup (.cons .int (.cons (plK h) .nil))
def LsB.lenV {l:List W}{Q:WQ}(s:LsB b x h l)(e:ws[i]?=some (some x))(q:Q (.int (l.length:Nat)) h):wCB yV (dc (bJ i) eS) ws h Q X:=by
 show bJ i ws h (fun y h1=>yV [y] h1 Q) X
 unfold bJ;rw[e];exact s.len q
def LsB.slTo {Q:WQ}(s:LsB b x h l)(e:ws[i]?=some (some x))(e2:ws[j]?=some (some (.int k)))(q:Q (.fl (mx l none (some k))) h):wSl (bJ i) wO0 (wO1 (bJ j)) ws h Q X:=by
 show bJ i ws h (fun y h1=>bJ j ws h1 (fun z h2=>match z with|.int t=>qSl y none (some t) h2 Q|_=>False) X) X
 unfold bJ;rw[e];dsimp only;rw[e2];exact s.sl q
def LsB.slFr {Q:WQ}(s:LsB b x h l)(e:ws[i]?=some (some x))(e2:ws[j]?=some (some (.int k)))(q:Q (.fl (mx l (some k) none)) h):wSl (bJ i) (wO1 (bJ j)) wO0 ws h Q X:=by
 show bJ i ws h (fun y h1=>bJ j ws h1 (fun z h2=>match z with|.int t=>qSl y (some t) none h2 Q|_=>False) X) X
 unfold bJ;rw[e];dsimp only;rw[e2];exact s.sl q
def yM {Q:WQ}(e:ws[i]?=some (some x))(q:Q x h):bJ i ws h Q X:=by unfold bJ;rw[e];exact q
def LsB.ixV {Q:WQ}(s:LsB b x h l)(e:ws[i]?=some (some x))(e2:atI l k=some y)(q:Q y h):bJ i ws h (fun z h1=>qIx z (.int k) h1 Q) X:=by
 unfold bJ;rw[e];exact s.ix e2 q
def mf:Nat->WP
 |0=>fun a a a a=>False
 |f+1=>fun l h Q a=>∃b w g n i c x es,l=[.clo i c,x]/\LsB b x h (Wt kW es)/\aw h b w g n i c/\n+tC es.length<=big/\es.length<=34/\(w=true->es.length<=12)/\(∀e∈es,Sml w 6500 e)/\es.length<=f/\
  ∀u g' h',Kp b h h'->aw h' b w g' (n+tC es.length) i c->Ex g g'->Cur w g' es u->Q (kW u) h'
def DF:∀l h Q X,¬mf 0 l h Q X:=fun a a a a h=>h
theorem Cb:∀n l h Q X,mf n l h Q X->l.length=2
 |0,_,_,_,_,h=>h.elim
 |n+1,_,_,_,_,h=>by obtain⟨a,a,a,a,a,a,a,a,rfl,a⟩:=h;rfl
inductive sT (l:List W)(h:WH)(Q:WQ):Prop
 |mk (b w g n i c x es):l=[.clo i c,x]->LsB b x h (Wt kW es)->aw h b w g n i c->n+70<=big->es.length<=34->(w=true->es.length<=12)->(∀e∈es,Sml w 6500 e)->(∀u g' h',Kp b h h'->aw h' b w g' (n+70) i c->Ex g g'->Sml w 82062 u->Mk g' u es->Q (hdW es.length u) h')->sT l h Q
def rF:WP:=fun l h Q a=>sT l h Q
def Aj:LnW rF 2:=by rintro l h Q X ⟨a,a,a,a,a,a,a,a,rfl,a⟩;rfl
noncomputable def sA:Str:="abcdefghijklmnopqrstuvwxyz ABC0123;:"
def Gs:sA.length=36/\sA.cps.toList.length=36/\sA.cps.toList.all (·<128)=true:=by decide+kernel
def chS (y k:Nat):Str:=⟨#[sA.cps.toList.getD ((y+7*k)%36) 0]⟩
def chW (y:Nat):W->W
 |.int k=>.str (chS y k.toNat)
 |_=>.non
def SF (y k:Nat):(chS y k).length=1/\cO (chS y k)=true:=by
 obtain⟨a,g2,g3⟩:=Gs
 refine⟨rfl,we fun c hc=>?_⟩
 have hc:c∈[sA.cps.toList.getD ((y+7*k)%36) 0]:=hc
 rw[VH.mp hc]
 have hl:(y+7*k)%36<sA.cps.toList.length:=by rw[g2];lia
 rw[VA,Dc hl]
 exact of_decide_eq_true (WB.mp g3 _ (XS hl))
theorem EI:∀{m:List Str},(∀z∈m,z.length=1/\cO z=true)->cO (m.foldr (· ++ ·) XA)=true/\(m.foldr (· ++ ·) XA).length=m.length
 |[],_=>by decide+kernel
 |z::r,h=>by
  obtain⟨a,b⟩:=EI (m:=r) fun y hy=>h y (Vu _ hy)
  obtain⟨c,d⟩:=h z cW
  exact⟨jx d a,by show(z++_).length=_;rw[XC,c,b,VS];lia⟩
inductive sf (l:List W)(h:WH)(Q:WQ):Prop
 |mk (n:Nat):l=[.int n]->(∀z,txO z->Q (.str z) h)->sf l h Q
def rE:WP:=fun l h Q a=>sf l h Q
def AA:LnW rE 1:=by rintro l h Q X ⟨a,rfl,a⟩;rfl
def UP (n:Nat):∃i:Nat,atI [W.int 0,.int 1,.int 2,.int 5] ((n:Int)%4)=some (.int i)/\i<=5:=by
 rw[show(n:Int)%4=((n%4:Nat):Int)by lia]
 have h:n%4<4:=Nat.mod_lt _ (by decide)
 generalize n%4=r at h
 match r,h with
 |0,_=>exact⟨0,atN rfl,by decide⟩
 |1,_=>exact⟨1,atN rfl,by decide⟩
 |2,_=>exact⟨2,atN rfl,by decide⟩
 |3,_=>exact⟨5,atN rfl,by decide⟩
theorem CU:∀{m:List Str},(∀z∈m,z.length=1)->(m.map (·.length)).sum=m.length
 |[],_=>rfl
 |z::r,h=>by rw[VI,YW,CU fun y hy=>h y (Vu _ hy),h z cW,VS];lia
def tz {P:Prop}(h:b=true↔P)(n:¬P):b=false:=XO.mpr fun e=>n (h.mp e)
def Tn (h:c+1<B):((2^(B- (c+1)):Nat):Int)/2=((2^(B- (c+1+1)):Nat):Int):=by
 rw[show B- (c+1)=B- (c+1+1)+1 by lia,Xv];lia
def MG (h:B<=60):0<((2^(B- (c+1)):Nat):Int)/\((2^(B- (c+1)):Nat):Int)<=1152921504606846976:=by
 have:2^(B- (c+1))<=2^60:=Yy (by decide) (by lia)
 have:=Wv (B- (c+1))
 lia
def Pj (h:WF B (d+1) (2*e) l)(hd:d<B):∀p∈aW l,p.1<(2*e+1)*2^(B- (d+1)):=fun p hp=>by
 have:p.1/2^(B- (d+1))=2*e:=(h.mem hd p hp).2
 exact(Yr (Wv _)).mp (by rw[this];lia)
def PQ (h:WF B (d+1) (2*e+1) r)(hd:d<B):∀p∈aW r,(2*e+1)*2^(B- (d+1))<=p.1:=fun p hp=>by
 have:p.1/2^(B- (d+1))=2*e+1:=(h.mem hd p hp).2
 exact(Nat.le_div_iff_mul_le (Wv _)).mp (by rw[this];exact sn _)
def vM (k:Nat)(r:Nat):(k:Int)/((r:Nat):Int)=((k/r:Nat):Int):=(Int.natCast_ediv k r).symm
theorem rV {tc:TWT}{gd:WH->Prop}{Q:WQ}{P:W->Bool}(hg:∀h,gd h):∀{its acc:List W}{u:List V}{h:WH},acc.length+its.length<=sizeLine->(∀x∈its,∀h (Q:Bool->WH->Prop),Q (P x) h->tc (some x::cp) h Q X0)->h p=some (.opq u)->(∀h',(∀a,a≠p->h' a=h a)->h' p=none->Q (.fl (acc++its.filter P)) h')->vI tc (bJ 0) cp gd p Q its acc u h
 |[],acc,u,h,_,_,e,q=>.inr ⟨fun a=>if a=p then none else h a,(fun a o z=>by
  dsimp only at z
  split at z
  ·injection z
  ·exact z),if_pos rfl,by
  have:=q (fun a=>if a=p then none else h a) (fun a n=>if_neg n) (if_pos rfl)
  rwa [List.filter_nil,Wc]at this⟩
 |x::its,acc,u,h,hl,ht,e,q=>ht x cW h _ (Sel.mk (fun z=>⟨e,by simp at hl;lia,fun u'=>⟨hg _,rV hg (by simp at hl⊢;lia) (fun y hy=>ht y (Vu _ hy)) ao fun h' k n=>by
  have:=q h' (fun a na=>by rw[k a na,ag na]) n
  rw[aaT z,ab6]at this;exact this⟩⟩) fun z=>⟨hg _,e,rV hg (by simp at hl⊢;lia) (fun y hy=>ht y (Vu _ hy)) e fun h' k n=>by
  have:=q h' k n
  rw[aaU (by rw[z];decide)]at this;exact this⟩)
def xX {wi:TWI}{tc:TWT}{Q:WQ}{its:List W}{P:W->Bool}(hi:∀Qi:ItW->WH->Prop,Qi ⟨its,fun a=>True⟩ h->wi ws h Qi X)(hl:its.length<=sizeLine)(ht:∀x∈its,∀h (Q:Bool->WH->Prop),Q (P x) h->tc (some x::pd ws is) h Q X0)(q:Q (.fl (its.filter P)) h):Ba is wi tc (bJ 0) ws h Q X:=
 hi _ fun p u hp=>⟨trivial,rV (P:=P) (fun a=>trivial) (by simpa using hl) ht ao fun h' k n=>by
  have:h'=h:=funext fun b=>by
   by_cases z:b=p
   ·subst z;rw[n,hp]
   ·rw[k b z,ag z]
  rw[this];exact q⟩
def Pq {x:Int}(h:x.natAbs<2^64):WI x<=64:=by
 unfold WI
 split
 ·lia
 ·rename_i h0
  have:x.natAbs.log2<64:=(aay (by simpa using h0)).mpr h
  lia
def rwW (p:Nat×Str):W:=.tup [.int (p.1:Int),.str p.2]
def ltW (M:Int):W->Bool
 |.tup (.int a::_)=>decide (a<M)
 |_=>false
def geW (M:Int):W->Bool
 |.tup (.int a::_)=>decide (M<=a)
 |_=>false
def iF:Kn Str->Nat
 |.bare=>1
 |.leaf _ _=>1
 |.fork _ _ l r=>iF l+iF r+1
theorem gL:∀t:Kn Str,(aW t).length<=szN t/\iF t<=szN t
 |.bare=>by decide
 |.leaf _ _=>by show 1<=312/\1<=312;decide
 |.fork _ _ l r=>by
  have h1:=gL l
  have h2:=gL r
  show(aW l++aW r).length<=252+szN l+szN r/\iF l+iF r+1<=252+szN l+szN r
  rw[VU];lia
def zQ {P:W->Bool}{l:List (Nat×Str)}:(l.map rwW).filter P=(l.filter fun r=>P (rwW r)).map rwW:=List.filter_map
def mm:Nat->WP
 |0=>fun a a a a=>False
 |f+1=>fun l h Q a=>∃b w g n i c B t v m,l=[.clo i c,.int (B:Nat),.fl (Wt rwW (aW t))]/\aw h b w g n i c/\n+iF t<=big/\1<=B/\B<=60/\KnV w g v t m/\szN t<=97000/\(t=.bare\/∃d0 b0,d0<=B/\WF B d0 b0 t/\B<d0+(f+1))/\
  ∀g' h',Kp b h h'->aw h' b w g' (n+iF t) i c->Ex g g'->Q (kW m) h'
def Du:∀l h Q X,¬mm 0 l h Q X:=fun a a a a h=>h
theorem BO:∀n l h Q X,mm n l h Q X->l.length=3
 |0,_,_,_,_,h=>h.elim
 |n+1,_,_,_,_,h=>by obtain⟨a,a,a,a,a,a,a,a,a,a,rfl,a⟩:=h;rfl
def JZ {g g':bU}(e:g k=some m)(x:Ex g g')(e2:g' k=some v):v=m:=by
 rw[x _ _ e]at e2;obtain rfl:=VR e2;rfl
def bn.kp {h h':WH}(a:bn w g n h b i c B T L D M t es)(k:∀z∈[T,L,D,M],h' z=h z)(s:aw h' b w g' n' i c)(x:Ex g g')(hn:n<=n'):bn w g' n' h' b i c B T L D M t es:=by
 obtain⟨v,m,e,kn⟩:=a.tb
 obtain⟨kv,r⟩:=a.rw
 obtain⟨ms,e2,l2⟩:=a.ml
 exact⟨⟨v,m,(k T (by simp)).trans e,kn.ex x⟩,a.tr,a.b1,a.b2,a.sz,⟨kv,r.mv x hn (k L (by simp)) (k D (by simp))⟩,⟨ms,(k M (by simp)).trans e2,l2⟩,s,a.nd⟩
def bn.kb (a:bn w g n h b i c B T L D M t es)(k:Kp b h h')(s:aw h' b w g' n' i c)(x:Ex g g')(hn:n<=n'):bn w g' n' h' b i c B T L D M t es:=by
 obtain⟨n1,n2,n3,n4,d⟩:=a.ne
 refine a.kp (fun z hz=>?_) s x hn
 simp only[tx,If,or_false]at hz
 rcases hz with rfl|rfl|rfl|rfl
 ·exact k _ n1
 ·exact k _ n2
 ·exact k _ n3
 ·exact k _ n4
def tH {g:TWG}{f:Nat->W}(P:Nat->WS->WH->Prop)(turn:∀k ws h (K:WS->WH->Prop)(R:WQ)(F:Er->WS->WH->Prop)(B C:WS->WH->Prop),k<m->P k ws h->(∀ws' h',P (k+1) ws' h'->K ws' h')->g (f k) ws fun ws'=>t ⟨fun ws h=>True/\K ws h,R,F,B,C⟩ ws' h)(done:∀ws h,P m ws h->D.nx ws h)(p:P 0 ws h):sJ g t (fun a=>True) ((WJ m).map f) D ws h:=by
 have:∀j e ws h,e+j=m->P e ws h->sJ g t (fun a=>True) ((List.range' e j).map f) D ws h:=fun j=>by
  induction j with
  |zero=>intro e ws h hm p;exact done ws h (by rw[<-hm];exact p)
  |succ j ih=>exact fun e ws h hm p=>turn e ws h _ _ _ _ _ (by lia) p fun ws' h' p'=>ih (e+1) ws' h' (by lia) p'
 rw[List.range_eq_range']
 exact this m 0 ws h (by lia) p
def cY:Nat->List Key->List W
 |_,[]=>[]
 |j,u::r=>hdW j u::cY (j+1) r
theorem oq:∀(hs:List Key)(j k:Nat),(cY j hs)[k]? =hs[k]?.map (hdW (j+k))
 |[],j,k=>by simp[cY]
 |u::r,j,0=>by simp[cY]
 |u::r,j,k+1=>by
  have:=oq r (j+1) k
  simp only[cY,aaS]
  rw[this,show j+1+k=j+(k+1)by lia]
theorem tE (u:Key):∀(hs:List Key)(j:Nat),cY j (hs++[u])=cY j hs++[hdW (j+hs.length) u]
 |[],j=>by simp[cY]
 |v::r,j=>by
  simp only[List.cons_append,cY,tE u r (j+1),VS]
  rw[show j+1+r.length=j+(r.length+1)by lia]
theorem oF:∀(hs:List Key)(j:Nat),(cY j hs).length=hs.length
 |[],_=>rfl
 |_::r,j=>by simp[cY,oF r (j+1)]
def LA (e:hdW c m=hdW d u):c=d/\m=u:=by
 unfold hdW at e
 injection e with e
 injection e with e1 e2
 injection e1 with e1
 injection e2 with e2 _
 exact⟨by lia,CT e2⟩
def Ng:hdW c m∈cY 0 hs↔hs[c]?=some m:=by
 rw[Wu]
 constructor
 ·rintro⟨k,e⟩
  rw[oq]at e
  obtain⟨u,e1,e2⟩:=WM.mp e
  obtain⟨rfl,rfl⟩:=LA e2
  rw[XJ];exact e1
 ·intro e
  exact⟨c,by rw[oq,e,XJ];rfl⟩
def PR (h:x∈cY 0 hs):∃(c:Nat)(m:Key),x=hdW c m/\hs[c]?=some m:=by
 obtain⟨k,e⟩:=Wu.mp h
 rw[oq]at e
 obtain⟨u,e1,e2⟩:=WM.mp e
 exact⟨k,u,by rw[<-e2,XJ],e1⟩
structure Hds (w:Bool)(g:bU)(es hs:List Key):Prop where
 len:hs.length=es.length+1
 at_:∀(j:Nat)(u:Key),hs[j]?=some u->Mk g u (es.take j)/\Sml w 82062 u
def Hds.ex (a:Hds w g es hs)(x:Ex g g'):Hds w g' es hs:=⟨a.len,fun j u e=>⟨(a.at_ j u e).1.ex x,(a.at_ j u e).2⟩⟩
def Hds.get {es hs:List Key}(a:Hds w g es hs)(h:j<=es.length):∃u,hs[j]?=some u/\atI (cY 0 hs) (j:Int)=some (hdW j u):=by
 have hl:j<hs.length:=by rw[a.len];lia
 have e:=Dc hl
 exact⟨_,e,atN (by rw[oq,e,XJ];rfl)⟩
theorem Ez:∀{hs:List Key}{j:Nat},(∀u∈hs,okP u=true)->Pls (n+1) (cY j hs)
 |[],_,_=>.nil
 |u::r,j,h=>.cons (plH (h u cW)) (Ez fun v hv=>h v (Vu _ hv))
inductive qy (l:List W)(h:WH)(Q:WQ):Prop
 |mk (SD He sv hs):l=[slV SD,.ref He]->h He=some (.lst (cY 0 hs))->h SD=some (.dT sv)->(∀(c:Nat) m,(gK sv (hdK c m)).isSome=true↔hs[c]?=some m)->hs.length<=1000->(∀u∈hs,okP u=true)->Q (.bl true) h->qy l h Q
def pU:WP:=fun l h Q a=>qy l h Q
def yO:LnW pU 2:=by rintro l h Q X ⟨a,a,a,a,rfl,a⟩;rfl
inductive ng (l:List W)(h:WH)(Q:WQ):Prop
 |mk (w g n b i c B T L D M SD He Ro t es hs cn):l=[hsV i c T L D M SD,.clo i c,.ref He,.ref Ro,.int (cn:Nat)]->bn w g n h b i c B T L D M t es->Hds w g es hs->h He=some (.lst (cY 0 hs))->h Ro=some (.lst (Wt kW es))->He∉[b,D]->Ro∉[b,D]->cn<=es.length->n+13000<=big->(∀g' h',Kx [b,D] h h'->bn w g' (n+13000) h' b i c B T L D M t es->Ex g g'->Q (.bl true) h')->ng l h Q
def ni:WP:=fun l h Q a=>ng l h Q
def ym:LnW ni 5:=by rintro l h Q X ⟨a,a,a,a,a,a,a,a,a,a,a,a,a,a,a,a,a,a,rfl,a⟩;rfl
structure Kno (B:Nat)(kv:List (Key×W))(t:Kn Str):Prop where
 nd:(kv.map (·.1)).Nodup
 ok:∀p∈kv,∃(k:Nat)(z:Str),p=(.inl (k:Int),.str z)/\k<2^B/\txO z
 fd:∀k:Nat,gK kv (.inl (k:Int))=(aD B k t).map W.str
def RL {l:List (Key×W)}(h:(l.map (·.1)).Nodup):((pK l k w).map (·.1)).Nodup:=by
 unfold pK;split
 ·have:(l.map fun p=>if p.1=k then(p.1,w)else p).map (·.1)=l.map (·.1):=by
   rw[WA];apply XU;intro p _;simp only[abT];split<;>rfl
  rw[this];exact h
 ·rename_i z
  rw[Zk]
  refine abQ.mpr ⟨h,by simp,fun a ha b hb e=>?_⟩
  obtain⟨p,hp,rfl⟩:=VL.mp ha
  simp only[VI,Zj,VH]at hb
  exact z (Yu.mpr ⟨p,hp,decide_eq_true (e.trans hb)⟩)
def OM {l:List (Key×W)}{k:Key}{w:W}{p:Key×W}(h:p∈pK l k w):p=(k,w)\/p∈l:=by
 unfold pK at h;split at h
 ·obtain⟨q,hq,rfl⟩:=VL.mp h
  split
  ·rename_i e;rw[e];exact .inl rfl
  ·exact .inr hq
 ·rcases WE.mp h with h|h
  ·exact .inr h
  ·exact .inl (VH.mp h)
def wB {j k:Nat}:(Za (j:Int):Key)=.inl (k:Int)↔j=k:=⟨fun e=>by injection e with e;lia,fun e=>by rw[e]⟩
def Kno.put {B key:Nat}{kv:List (Key×W)}{t:Kn Str}{z:Str}(a:Kno B kv t)(tr:Tr B t)(hk:key<2^B)(hz:txO z):Kno B (pK kv (.inl (key:Int)) (.str z)) (bW B key z t):=by
 refine⟨RL a.nd,fun p hp=>?_,fun j=>?_⟩
 ·rcases OM hp with rfl|hp
  ·exact⟨key,z,rfl,hk,hz⟩
  ·exact a.ok p hp
 ·rw[AL,(tr.with hk).2]
  by_cases e:j=key
  ·rw[if_pos (wB.mpr e),if_pos e];rfl
  ·rw[if_neg fun q=>e (wB.mp q),if_neg e];exact a.fd j
theorem Gq {k j:Key}:∀l:List (Key×W),gK (dK' l k) j=if j=k then none else gK l j
 |[]=>by simp[gK,dK']
 |p::r=>by
  have ih:=Gq (k:=k) (j:=j) r
  unfold gK dK' at ih⊢
  by_cases pk:p.1=k
  ·rw[aaU (by simp[pk]),ih]
   by_cases jk:j=k
   ·rw[if_pos jk,if_pos jk]
   ·rw[if_neg jk,if_neg jk,Yi (by rw[pk];exact fun z=>jk (of_decide_eq_true z).symm)]
  ·rw[aaT (by simp[pk])]
   by_cases pj:p.1=j
   ·rw[Zg (by simp[pj]),if_neg (fun e=>pk (pj.trans e)),Zg (by simp[pj])]
   ·rw[Yi (by simp[pj]),Yi (by simp[pj])];exact ih
def Kno.del {B key:Nat}{kv:List (Key×W)}{t:Kn Str}(a:Kno B kv t)(tr:Tr B t):Kno B (dK' kv (.inl (key:Int))) (aX B key t):=by
 refine⟨List.Nodup.sublist (List.filter_sublist.map _) a.nd,fun p hp=>a.ok p (aas.mp hp).1,fun j=>?_⟩
 rw[Gq,tr.without.2]
 by_cases e:j=key
 ·rw[if_pos (wB.mpr e),if_pos e];rfl
 ·rw[if_neg fun q=>e (wB.mp q),if_neg e];exact a.fd j
theorem Fc:∀{kv:List (Key×W)},(∀p∈kv,∃(k:Nat)(z:Str),p=(.inl (k:Int),.str z)/\k<2^B/\txO z)->∃kn:List (Nat×Str),kv=iG (knR kn)/\∀p∈kn,p.1<2^B
 |[],_=>⟨[],rfl,nofun⟩
 |p::r,h=>by
  obtain⟨kn,rfl,h2⟩:=Fc fun q hq=>h q (Vu _ hq)
  obtain⟨k,z,rfl,hk,a⟩:=h p cW
  refine⟨(k,z)::kn,rfl,fun q hq=>?_⟩
  rcases tx.mp hq with rfl|hq
  ·exact hk
  ·exact h2 q hq
theorem HX (k:Nat):∀kn:List (Nat×Str),gK (iG (knR kn)) (.inl (k:Int))=(look k kn).map W.str
 |[]=>rfl
 |(j,z)::r=>by
  have ih:=HX k r
  unfold gK at ih⊢
  show((((Za (j:Int):Key),W.str z)::iG (knR r)).find? _).map _=(if k=j then some z else look k r).map _
  by_cases e:j=k
  ·rw[Zg (by simp[e]),if_pos e.symm];rfl
  ·rw[Yi (by simpa using fun q:(j:Int)=k=>e (by lia)),if_neg (ab e)];exact ih
theorem jz:∀{l:List (Nat×Str)},(l.map (·.1)).Nodup->(look k l=some z↔(k,z)∈l)
 |[],_=>⟨nofun,nofun⟩
 |(j,y)::r,h=>by
  rw[VI,VX]at h
  have ih:=jz (k:=k) (z:=z) h.2
  show(if k=j then some y else look k r)=some z↔_
  by_cases e:k=j
  ·subst e
   rw[if_pos rfl]
   constructor
   ·intro q;obtain rfl:=VR q;exact cW
   ·intro q
    rcases tx.mp q with q|q
    ·cases q;rfl
    ·exact absurd (VL.mpr ⟨_,q,rfl⟩) h.1
  ·rw[if_neg e,ih]
   exact⟨fun q=>Vu _ q,fun q=>(tx.mp q).resolve_left fun q=>e (by cases q;rfl)⟩
theorem HQ:∀{rs:List (Int×W)},(∀x∈rs,x∈knR kn)->∃kn',rs=knR kn'/\∀p∈kn',p∈kn
 |[],_=>⟨[],rfl,nofun⟩
 |x::r,h=>by
  obtain⟨kn',rfl,h2⟩:=HQ fun y hy=>h y (Vu _ hy)
  obtain⟨p,hp,rfl⟩:=VL.mp (h x cW)
  refine⟨p::kn',rfl,fun q hq=>?_⟩
  rcases tx.mp hq with rfl|hq
  ·exact hp
  ·exact h2 q hq
def Mn (tr:Tr B t):aD B k t=look k (aW t):=by
 rcases tr with rfl|h
 ·rfl
 ·exact dg h
def RM (tr:Tr B t):mX (aW t):=by
 rcases tr with rfl|h
 ·exact .nil
 ·exact h.up
def Te:∀{l:List (Nat×Str)},mX l->(l.map (·.1)).Nodup:=fun h=>WW.mpr (h.imp fun e=>by lia)
def Kno.sorted {kv:List (Key×W)}{h:WH}{Q:WQ}(k:Kno B kv t)(tr:Tr B t)(hK:h a=some (.dK kv))(hl:kv.length<64)(q:Q (.fl ((aW t).map rwW)) h):La [.vw a] h Q:=by
 obtain⟨kn,rfl,hb⟩:=Fc k.ok
 have nd:(kn.map (·.1)).Nodup:=by
  have:=k.nd
  have e:(iG (knR kn)).map (·.1)=(kn.map (·.1)).map fun j:Nat=>(Za (j:Int):Key):=by unfold iG knR;rw[WA,WA,WA];rfl
  rw[e]at this
  exact aaj _ (fun a b n e=>n (by rw[e])) this
 refine .inl ⟨a,knR kn,rfl,hK,by simpa[iG]using hl,?_,fun rs pm pw=>?_⟩
 ·unfold knR;rw[WA]
  exact WW.mpr ((WW.mp nd).imp fun n e=>n (by simp only[abT]at e;lia))
 obtain⟨kn',rfl,h2⟩:=HQ fun x hx=>pm.mem_iff.mp hx
 have up:mX kn':=(WW.mp pw).imp fun e=>by dsimp only at e;lia
 have er:kn'=aW t:=Hh up (RM tr) fun j=>by
  rw[<-Mn tr]
  have e1:look j kn=aD B j t:=by
   have:=(HX j kn).symm.trans (k.fd j)
   cases e2:look j kn<;>cases e3:aD B j t<;>rw[e2,e3]at this<;>first|rfl|cases this
   rfl
  rw[<-e1]
  refine Option.ext fun z=>?_
  rw[jz (Te up),jz nd]
  refine⟨h2 _,fun hz=>?_⟩
  obtain⟨p,hp,e⟩:=VL.mp (pm.mem_iff.mpr (VL.mpr ⟨_,hz,rfl⟩))
  injection e with e1 e2
  injection e2 with e2
  have:p=(j,z):=acy (by dsimp only at e1;lia) e2
  rw[<-this];exact hp
 subst er
 have:(knR (aW t)).map prW=(aW t).map rwW:=by unfold knR;rw[WA];rfl
 rw[this];exact q
structure LnH where
 T:Addr
 L:Addr
 D:Addr
 M:Addr
 z:Str
def LnH.as (q:LnH):List Addr:=[q.T,q.L,q.D,q.M]
def lnW (i:Nat)(c:List W)(SD:Addr)(q:LnH):W:=.tup [hsV i c q.T q.L q.D q.M SD,.str q.z]
def Bd (hr:∀hh,Ext g hh->r=yh hh t)(kn:KnV w g v t m):r=m:=by
 let hh:List Key->Key:=fun k=>(g k).getD (.inl 0)
 have ex:Ext g hh:=fun k v e=>by show(g k).getD _=v;rw[e];rfl
 rw[hr hh ex,kn.mark ex]
inductive pH (l:List W)(h:WH)(Q:WQ):Prop
 |mk (w g n b i c B T L D M SD Kd Ro t es sv kv):l=[hsV i c T L D M SD,slV SD,.clo i c,.int (B:Nat),.ref Kd,.ref Ro]->bn w g n h b i c B T L D M t es->h SD=some (.dT sv)->sv.length<=1000->h Kd=some (.dK kv)->Kno B kv t->kv.length<60->h Ro=some (.lst (Wt kW es))->[b,T,L,D,M,SD,Kd,Ro].Nodup->es.length+1<=34->(w=true->es.length+1<=12)->szN t+564<=97000->(w=true->szN t+564<=6500)->n+200004<=big->(∀h',Q (.bl true) h')->pH l h Q
def pW:WP:=fun l h Q a=>pH l h Q
def zi:LnW pW 6:=by rintro l h Q X ⟨a,a,a,a,a,a,a,a,a,a,a,a,a,a,a,a,a,a,rfl,a⟩;rfl
structure TwI (w:Bool)(g:bU)(n:Nat)(h:WH)(b:Addr)(i:Nat)(c:List W)(B:Nat)(SD Kd Ro:Addr)(t:Kn Str)(es:List Key)(kv:List (Key×W))(k:Nat)(qs:List LnH):Prop where
 st:aw h b w g n i c
 hs:∀q∈qs,bn w g n h b i c B q.T q.L q.D q.M t es/\txO q.z/\SD∉q.as/\Kd∉q.as/\Ro∉q.as
 pw:qs.Pairwise fun p q=>∀a∈p.as,a∉q.as
 sd:∃sv,h SD=some (.dT sv)/\sv.length<=k
 kn:h Kd=some (.dK kv)
 ro:h Ro=some (.lst (Wt kW es))
def Mh {c d:TWT}{Q:Bool->WH->Prop}(hc:∀R:Bool->WH->Prop,(∀b,R b h)->c ws h R X)(hd:∀R:Bool->WH->Prop,(∀b,R b h)->d ws h R X)(q:∀b,Q b h):Qg c d ws h Q X:=hc _ fun a=>Sel.mk (fun a=>q true) fun a=>hd _ q
def IE {c d:TWT}{Q:Bool->WH->Prop}(hc:∀R:Bool->WH->Prop,R bb h->c ws h R X)(hd:∀R:Bool->WH->Prop,(∀b,R b h)->d ws h R X)(q1:bb=true->Q true h)(q0:Q false h):Lg c d ws h Q X:=hc _ (Sel.mk (fun e=>hd _ fun b=>by cases b;exact q0;exact q1 e) fun a=>q0)
def Ts {Q:WQ}{h:WH}(e:h p=some (.ins c fs))(q:Q (.obj c fs) (cut h p)):Fz Q (.ref p) h:=⟨_,cut h p,tU,.ins e cx,q⟩
def Hds.last {es hs:List Key}(a:Hds w g es hs):∃u,atI (cY 0 hs) (-1)=some (hdW es.length u)/\Mk g u es/\Sml w 82062 u:=by
 rcases aba hs with e|⟨hs',u,e⟩
 ·have:=a.len;rw[e]at this;simp at this
 ·rw[abb]at e
  subst e
  have l:=a.len
  rw[VU]at l
  have l:hs'.length=es.length:=by simpa using l
  have m:=a.at_ es.length u (by rw[<-l];simp)
  rw[Xi (sn _)]at m
  refine⟨u,?_,m.1,m.2⟩
  rw[tE,XJ,l];exact dG
def Hds.add (a:Hds w g es hs)(mk:Mk g u (es++[m]))(sm:Sml w 82062 u):Hds w g (es++[m]) (hs++[u]):=by
 have l:=a.len
 refine⟨by simp[l],fun j v e=>?_⟩
 rw[Zr]at e
 split at e
 ·rename_i hj
  rw[aah (by lia)]
  exact a.at_ j v e
 ·rename_i hj
  have:j=hs.length:=by
   apply VZ;intro z
   rw[Wa (by simp;lia)]at e;injection e
  subst this
  rw[aag]at e;obtain rfl:=VR e
  rw[Xi (by simp;lia)]
  exact⟨mk,sm⟩
def Cs {hs:List Key}(l:hs.length=n)(se:∀(c:Nat) m,(gK sv (hdK c m)).isSome=true↔hs[c]?=some m):∀(c:Nat) m,(gK (pK sv (hdK n u) (.bl true)) (hdK c m)).isSome=true↔(hs++[u])[c]?=some m:=fun c m=>by
 rw[AL]
 by_cases e:hdK c m=hdK n u
 ·rw[if_pos e]
  unfold hdK at e
  injection e with e1 e2
  injection e1 with e1
  injection e2 with e2 _
  have:c=hs.length:=by lia
  subst this e2
  simp
 ·rw[if_neg e,se c m,Zr]
  split
  ·rfl
  ·rename_i hc
   constructor
   ·intro z;rw[Wa (by lia)]at z;injection z
   ·intro z
    have:c=hs.length:=by
     apply VZ;intro y
     rw[Wa (by simp;lia)]at z;injection z
    subst this
    rw[aag]at z;obtain rfl:=VR z
    exact absurd (by rw[l]) e
structure LI (w:Bool)(g:bU)(N:Nat)(h:WH)(b:Addr)(i:Nat)(c:List W)(B:Nat)(T L D M SD Kd Ro He:Addr)(t:Kn Str)(kv:List (Key×W))(es hs:List Key)(sv:List (List Key×W))(k:Nat):Prop where
 ho:bn w g N h b i c B T L D M t es
 el:es.length<=k
 hd:Hds w g es hs
 hh:h He=some (.lst (cY 0 hs))
 hr:h Ro=some (.lst (Wt kW es))
 hk:h Kd=some (.dK kv)
 kn:Kno B kv t
 kl:kv.length<=k
 sz:szN t<=128+564*k
 hS:h SD=some (.dT sv)
 sl:sv.length<=k+1
 se:∀(c:Nat) m,(gK sv (hdK c m)).isSome=true↔hs[c]?=some m
structure N9 (b T L D M SD Kd Ro He:Addr):Prop where
 nd:[b,T,L,D,M,SD,Kd,Ro,He].Nodup
def LI.op (I:LI w g N h b i c B T L D M SD Kd Ro He t kv es hs sv k)(n9:N9 b T L D M SD Kd Ro He)(kx:Kx [b,D] h h')(A:bn w g' N' h' b i c B T L D M t es)(x:Ex g g'):LI w g' N' h' b i c B T L D M SD Kd Ro He t kv es hs sv k:=by
 have nd:=n9.nd
 simp only[VX,tx,If,or_false,not_or,Yo,and_true,not_false_eq_true]at nd
 obtain⟨⟨bT,bL,bD,bM,bS,bK,bR,bH⟩,a,a,⟨DM,DS,DK,DR,DH⟩,a⟩:=nd
 exact⟨A,I.el,I.hd.ex x,(kx He (by simp[ab bH,ab DH])).trans I.hh,(kx Ro (by simp[ab bR,ab DR])).trans I.hr,(kx Kd (by simp[ab bK,ab DK])).trans I.hk,I.kn,I.kl,I.sz,(kx SD (by simp[ab bS,ab DS])).trans I.hS,I.sl,I.se⟩
inductive lW (x y z:Addr)(l:List W)(h:WH)(Q:WQ):Prop
 |mk (cell:Int):l=[.int cell]->h=tb3 x y z->(∀b w g i c h',(w=true->cell%5=0)->(∀a,a≠b->h' a=none)->aw h' b w g 0 i c->Q (.clo i c) h')->lW x y z l h Q
def Vn (x y z:Addr):WP:=fun l h Q a=>lW x y z l h Q
inductive Hw (x y z:Addr)(l:List W)(h:WH)(Q:WQ):Prop
 |mk (ns:List Int):l=[.sl (ns.map .int)]->ns.length<=63->h=tb3 x y z->(∀h',Q (.bl true) h')->Hw x y z l h Q
def GW (x y z:Addr):WP:=fun l h Q a=>Hw x y z l h Q
def MY (x y z:Addr):∀l h Q X,GW x y z l h Q X->l.length=1:=by rintro l h Q X ⟨a,rfl,a⟩;rfl
variable {K:W.Frag}{mg:Str->Option pz}{A:Adr}
def gJ {H:Hp}(hP:H P=some o)(hq:H q=none):q≠P:=fun e=>by rw[e,hP]at hq;injection hq
def Ca {H:Hp}(h:upd H p o q=none):q≠p/\H q=none:=by
 by_cases e:q=p
 ·rw[e,aT]at h;injection h
 ·rw[ay e]at h;exact⟨e,h⟩
def eA (P:Addr)(H H':Hp):Prop:=∀b o,H b=some o->b≠P->H' b=some o
def eA.trans (a:eA P H H1)(b:eA P H1 H2):eA P H H2:=fun x o e n=>b x o (a x o e n) n
def eA.new {H:Hp}(h:H p=none):eA P H (upd H p o):=fun b u e a=>by rw[ay (aO e h)];exact e
def eA.tab:eA P H (upd H P o):=fun b u e n=>by rw[ay n];exact e
def wc {H:Hp}{o2:HO}{t:dO}{cs:List Addr}(hP:H P=some o)(hc:H c=none)(hf:H f=none)(ne:c≠f):
  eA P H (upd (upd (upd H P o2) c (jh c t.qual)) f (gO f t cs c))/\upd (upd (upd H P o2) c (jh c t.qual)) f (gO f t cs c) f=some (gO f t cs c)/\upd (upd (upd H P o2) c (jh c t.qual)) f (gO f t cs c) c=some (jh c t.qual):=by
 have cP:=gJ hP hc
 have fP:=gJ hP hf
 refine⟨eA.tab.trans ((eA.new (by rw[ay cP];exact hc)).trans (eA.new (by rw[ay (ab ne),ay fP];exact hf))),aT,(ay ne).trans aT⟩
def pc (A:Adr):Sp:=fun vs H Q a=>∃x dx,vs=[.ref x]/\H x=some (.ins A.c7 dx [])/\∀d,H d=none->Q .non (upd (upd H d (.dT [])) x (.ins A.c7 dx [("given",.ref d)]))
def T_2 (K:W.Frag):TS:=Je K (mh 0) (Bi) "given"
def SJ (A:Adr):∀vs H Q E,pc A vs H Q E->vs.length=1:=by rintro vs H Q E ⟨x,dx,rfl,a⟩;rfl
def Vg (T:Txt K mg A)(vs:List V)(H:Hp)(Q:VK)(E:XK)(h:pc A vs H Q E):T_2 K {nx:=fun a H'=>Q .non H',rt:=Q} (L2.du ["self"] vs) H:=by
 obtain⟨x,dx,rfl,hx,q⟩:=h
 exact .inr fun d hd=>⟨x,A.c7,dx,[],rfl,by rw[ay (aO hx hd)];exact hx,T.acX,T.Q6,by decide,q d hd⟩
def gW (A:Adr):Sp:=fun vs H Q a=>vs=[]/\H A.t_3=some (.tbl #[])/\∀(f:Addr)(H':Hp),eA A.t_3 H H'->fj H' f dF [] []->Q (.ref f) H'
def T_3 (A:Adr):TSM:=rW (zd A.t_3 ⟨486,11,486,37⟩ dF [])
def Sx (A:Adr):∀vs H Q E,gW A vs H Q E->vs.length=0:=by rintro vs H Q E ⟨rfl,a⟩;rfl
def Uq (vs:List V)(H:Hp)(Q:VK)(E:XK)(h:gW A vs H Q E):T_3 A {nx:=fun σ H'=>(∀p∈([]:List (Nat×Addr)),H' p.2=none)->Q .non (dW [] σ H'),rt:=fun σ v H'=>(∀p∈([]:List (Nat×Addr)),H' p.2=none)->Q v (dW [] σ H')} (L2.du [] vs) H:=by
 obtain⟨rfl,hP,q⟩:=h
 refine⟨#[],hP,trivial,.inl ⟨rfl,fun c f hc hf hne a=>?_⟩⟩
 obtain⟨k,e1,e2⟩:=wc (t:=dF) (cs:=[]) hP hc hf hne
 exact q f _ k ⟨⟨c,e1,e2⟩,.nil⟩
def gp (A:Adr):Sp:=fun vs H Q a=>vs=[]/\H A.t_1=some (.tbl #[])/\∀(f q0 x dx d:Addr)(H':Hp),eA A.t_1 H H'->H d=none->H' x=some (.ins A.c7 dx [("given",.ref d)])->H' d=some (.dT [])->fj H' f dm [q0] [.ref x]->Q (.ref f) H'
def T_1 (A:Adr)(q0:Addr):TSM:=rY (AI (yp (xV A.c7 (pc A) (fun a=>E0) (ph)) (tG 0))) (rW (zd A.t_1 ⟨489,11,489,47⟩ dm [q0]))
def Rq (A:Adr):∀vs H Q E,gp A vs H Q E->vs.length=0:=by rintro vs H Q E ⟨rfl,a⟩;rfl
def UZ (q0:Addr)(vs:List V)(H:Hp)(Q:VK)(E:XK)(h:gp A vs H Q E):T_1 A q0 {nx:=fun σ H'=>(∀p∈([(0,q0)]:List (Nat×Addr)),H' p.2=none)->Q .non (dW [(0,q0)] σ H'),rt:=fun σ v H'=>(∀p∈([(0,q0)]:List (Nat×Addr)),H' p.2=none)->Q v (dW [(0,q0)] σ H')} (L2.du ["numbers"] vs) H:=by
 obtain⟨rfl,hP,q⟩:=h
 intro x dx hx hdx hne
 refine⟨x,dx,rfl,aT,fun d hd=>⟨rfl,?_⟩⟩
 obtain⟨dnx,hd1⟩:=Ca hd
 obtain⟨dndx,hd0⟩:=Ca hd1
 have xP:=gJ hP hx
 have dxP:=gJ hP hdx
 have dP:=gJ hP hd0
 generalize e2:upd (upd (upd (upd H dx (.own x)) x (.ins A.c7 dx [])) d (.dT [])) x (.ins A.c7 dx [("given",.ref d)])=H2
 have S2:eA A.t_1 H H2:=by
  intro b o e n
  have b1:=aO e hx
  rw[<-e2,ay b1,ay (aO e hd0),ay b1,ay (aO e hdx)];exact e
 have hP2:H2 A.t_1=some (.tbl #[]):=by rw[<-e2,ay (ab xP),ay (ab dP),ay (ab xP),ay (ab dxP)];exact hP
 have hx2:H2 x=some (.ins A.c7 dx [("given",.ref d)]):=by rw[<-e2,aT]
 have hd2:H2 d=some (.dT []):=by rw[<-e2,ay dnx,aT]
 refine⟨#[],hP2,trivial,.inl ⟨rfl,fun c f hc hf hne hq=>?_⟩⟩
 obtain⟨k,e3,e4⟩:=wc (o2:=.tbl (#[]++#[rawInt ((489:Nat):Int),rawInt ((11:Nat):Int),.ref c])) (t:=dm) (cs:=[q0]) hP2 hc hf hne
 have S4:=bc.upd (o:=cR q0 (.ref x)) (hq _ (VH.mpr rfl))
 exact q f q0 x dx d _ ((S2.trans k).trans (eA.new (hq _ (VH.mpr rfl)))) hd0 (S4 _ _ (k _ _ hx2 xP)) (S4 _ _ (k _ _ hd2 dP)) ⟨⟨c,S4 _ _ e3,S4 _ _ e4⟩,.cons aT .nil⟩
def T_0 (K:W.Frag)(A:Adr)(q0 q1:Addr):TSM:=rY (AI (yp (Bi) (tG 1))) (rY (AI (yp (tOp (Ga K) (L2.tC (.int 1)) (tOp (vV) (tOp (CY) (mh 0) (L2.tC (.int 5))) (L2.tC (.int 9)))) (tG 2))) (rY (CO (jr (tOp (yG K) (tOp (vV) (mh 0) (L2.tC (.int 5))) (L2.tC (.int 0)))) (rW (nM (gW A) (fun a=>E0) ph)) (xv)) (rY (CO (jr (tOp (yG K) (tOp (vV) (mh 0) (L2.tC (.int 5))) (L2.tC (.int 1)))) (rW (nM (gp A) (fun a=>E0) ph)) (xv)) (rY (CO (jr (tOp (yG K) (tOp (vV) (mh 0) (L2.tC (.int 5))) (L2.tC (.int 2)))) (rW (zd A.t_0 ⟨516,15,516,88⟩ cV [q0])) (xv)) (rY (CO (jr (tOp (yG K) (tOp (vV) (mh 0) (L2.tC (.int 5))) (L2.tC (.int 3)))) (rW (zd A.t_0 ⟨518,15,518,62⟩ cU [q1])) (xv)) (rW (zd A.t_0 ⟨519,11,519,73⟩ cS [q1])))))))
abbrev mB (A:Adr):WP:=Vn A.t_3 A.t_1 A.t_0
def Rr (K:W.Frag)(A:Adr):∀vs H Q E,lP K (gm A) (mB A) vs H Q E->vs.length=1:=by
 rintro vs H Q E ⟨l,h,Qw,Xw,d,r,⟨c,rfl,d⟩,d,d⟩
 obtain⟨d,d,rfl,a,b⟩:=wic r;obtain rfl:=wic b;rfl
def bk1 (b:Addr):WH:=fun a=>if a=b then some (.dT [])else none
def AV {H:Hp}(hb:H b=some (.dT []))(e:H z=some o)(n:o≠.dT []):fz (bk1 b) H z=some o:=by
 rw[bB (if_neg (lr e hb n))];exact e
def sD {H:Hp}(hb:H b=some (.dT []))(c:fj H f t cs vs):fj (fz (bk1 b) H) f t cs vs:=
 ⟨let ⟨x,e1,e2⟩:=c.ex;⟨x,AV hb e1 nofun,AV hb e2 nofun⟩,Paired.imp' (fun a v e=>AV (o:=cR a v) hb e nofun) c.cells⟩
def Tt (T:Txt K mg A)(q0 q1:Addr)(n01:q0≠q1)(vs:List V)(H:Hp)(Q:VK)(E:XK)(h:lP K (gm A) (mB A) vs H Q E):T_0 K A q0 q1 {nx:=fun σ H'=>(∀p∈([(1,q0),(2,q1)]:List (Nat×Addr)),H' p.2=none)->Q .non (dW [(1,q0),(2,q1)] σ H'),rt:=fun σ v H'=>(∀p∈([(1,q0),(2,q1)]:List (Nat×Addr)),H' p.2=none)->Q v (dW [(1,q0),(2,q1)] σ H')} (L2.du ["_law_cell","_law_book","_law_many"] vs) H:=by
 obtain⟨l,h0,Qw,Xw,rep,rl,⟨c,rfl,rfl,q⟩,hQ,_⟩:=h
 obtain⟨_,_,rfl,r1,r2⟩:=wic rl
 obtain rfl:=wic r2
 obtain rfl:=wiv r1
 have tb:∀P,P=A.t_3\/P=A.t_1\/P=A.t_0->H P=some (.tbl #[]):=fun P hP=>by
  obtain⟨u,e,r⟩:=rep P (.tbl #[]) (if_pos hP)
  cases r;exact e
 have tw:=tb _ (.inl rfl)
 have t0:=tb _ (.inr (.inl rfl))
 have t1:=tb _ (.inr (.inr rfl))
 refine .inr fun b hb=>⟨⟨by decide,by decide⟩,by decide,?_⟩
 have m1:1<=1+c/5%9:=by lia
 have m2:1+c/5%9<=9:=by lia
 have S1:=bc.upd (o:=.dT []) hb
 have hb1:upd H b (.dT []) b=some (.dT []):=aT
 have bP:∀P,P=A.t_3\/P=A.t_1\/P=A.t_0->b≠P:=fun P hP=>gJ (tb P hP) hb
 generalize upd H b (.dT [])=H1 at S1 hb1
 /- what is handed on:all but the tables is kept,the book d is new,the function stands -/
 have fin:∀{f d:Addr}{H4:Hp}(w:Bool)(g:bU)(i:Nat)(cs:List W),H d=none->(∀z o,H z=some o->z≠A.t_3->z≠A.t_1->z≠A.t_0->H4 z=some o)->H4 d=some (.dT [])->aI K (gm A) (fz (bk1 d) H4) (.clo i cs) (.ref f)->(w=true->c%5=0)->aw (bk1 d) d w g 0 i cs->Q (.ref f) H4:=by
  intro f d H4 w g i cs hd kp hd4 rf hw st
  refine hQ _ _ (q d w g i cs (bk1 d) hw (fun a na=>if_neg na) st) _ _ ⟨fun a o e=>?_,fun a o e=>?_⟩ rf
  ·unfold bk1 at e;split at e
   ·rename_i z;obtain rfl:=VR e;subst z;exact⟨_,hd4,.dT .nil⟩
   ·injection e
  ·obtain⟨e1,e2⟩:=kS e
   have ad:a≠d:=fun z=>by rw[z,hd]at e1;injection e1
   rw[bB (if_neg ad)]
   have nt:¬(a=A.t_3\/a=A.t_1\/a=A.t_0):=fun z=>by
    have:tb3 A.t_3 A.t_1 A.t_0 a=some (.tbl #[]):=if_pos z
    rw[this]at e2;injection e2
   exact kp a o e1 (fun z=>nt (.inl z)) (fun z=>nt (.inr (.inl z))) fun z=>nt (.inr (.inr z))
 have cel:∀(H4:Hp),(∀p∈([(1,q0),(2,q1)]:List (Nat×Addr)),H4 p.2=none)->bc H4 (upd (upd H4 q0 (cR q0 (.ref b))) q1 (cR q1 (.int (1+c/5%9))))/\upd (upd H4 q0 (cR q0 (.ref b))) q1 (cR q1 (.int (1+c/5%9))) q0=some (cR q0 (.ref b))/\upd (upd H4 q0 (cR q0 (.ref b))) q1 (cR q1 (.int (1+c/5%9))) q1=some (cR q1 (.int (1+c/5%9))):=fun H4 hq=>by
  have a0:H4 q0=none:=hq (1,q0) (by simp)
  have a1:H4 q1=none:=hq (2,q1) (by simp)
  exact⟨(bc.upd a0).trans (bc.upd (by rw[ay (ab n01)];exact a1)),by rw[ay n01,aT],aT⟩
 refine⟨by decide,Sel.dec (fun h=>?_) (fun h=>?_)⟩
 ·refine⟨rfl,S1 _ _ tw,fun f H2 k2 ca hq=>?_⟩
  obtain⟨S,_,_⟩:=cel H2 hq
  have hb4:=S _ _ (k2 _ _ hb1 (bP _ (.inl rfl)))
  exact fin true _ 0 [] hb (fun z o e n _ _=>S _ _ (k2 z o (S1 z o e) n)) hb4 (.clo (sD hb4 (gE S ca)) .nil) (fun _=>h) (.wri rfl ⟨_,if_pos rfl⟩ rfl)
 refine⟨by decide,Sel.dec (fun h=>?_) (fun h=>?_)⟩
 ·refine⟨rfl,S1 _ _ t0,fun f q2 x dx d H2 k2 hd hx hd2 ca hq=>?_⟩
  obtain⟨S,_,_⟩:=cel H2 hq
  have hd0:H d=none:=by
   cases e:H d with
   |none=>rfl
   |some o=>rw[S1 _ _ e]at hd;injection hd
  have hd4:=S _ _ hd2
  refine fin false _ 1 [.obj 26 [("given",.ref d)]] hd0 (fun z o e _ n _=>S _ _ (k2 z o (S1 z o e) n)) hd4 (.clo (sD hd4 (gE S ca)) (.cons (.obj (AV hd4 (S _ _ hx) nofun) (.cons (.ref d) .nil) ⟨T.acX,fun p hp=>?_⟩) .nil)) nofun (.cnt [] rfl (if_pos rfl) (sn _) (fun i p e=>by simp at e) rfl)
  rw[VH.mp hp];exact T.Q6
 have mk:∀(t:dO)(cs:List Addr)(o2:HO)(cc f:Addr),H1 cc=none->H1 f=none->cc≠f->_:=fun t cs o2 cc f hc hf hne=>wc (o2:=o2) (t:=t) (cs:=cs) (S1 _ _ t1) hc hf hne
 refine⟨by decide,Sel.dec (fun h=>?_) (fun h=>?_)⟩
 ·refine⟨#[],S1 _ _ t1,trivial,.inl ⟨rfl,fun cc f hc hf hne hq=>?_⟩⟩
  obtain⟨k,e1,e2⟩:=mk cV [q0] _ cc f hc hf hne
  obtain⟨S,c0,c1⟩:=cel _ hq
  have hb4:=S _ _ (k _ _ hb1 (bP _ (.inr (.inr rfl))))
  exact fin false _ 2 [.ref b] hb (fun z o e _ _ n=>S _ _ (k z o (S1 z o e) n)) hb4 (.clo (sD hb4 ⟨⟨cc,S _ _ e1,S _ _ e2⟩,.cons c0 .nil⟩) (.cons (.ref b) .nil)) nofun (.sur [] rfl (if_pos rfl) (sn _) (fun i p e=>by simp at e) rfl)
 refine⟨by decide,Sel.dec (fun h=>?_) (fun h=>?_)⟩
 ·refine⟨#[],S1 _ _ t1,trivial,.inl ⟨rfl,fun cc f hc hf hne hq=>?_⟩⟩
  obtain⟨k,e1,e2⟩:=mk cU [q1] _ cc f hc hf hne
  obtain⟨S,c0,c1⟩:=cel _ hq
  have hb4:=S _ _ (k _ _ hb1 (bP _ (.inr (.inr rfl))))
  exact fin false _ 3 [.int (1+c/5%9)] hb (fun z o e _ _ n=>S _ _ (k z o (S1 z o e) n)) hb4 (.clo (sD hb4 ⟨⟨cc,S _ _ e1,S _ _ e2⟩,.cons c1 .nil⟩) (.cons (.int _) .nil)) nofun (.wea _ rfl ⟨_,if_pos rfl⟩ ⟨m1,m2⟩ rfl)
 ·refine⟨#[],S1 _ _ t1,trivial,.inl ⟨rfl,fun cc f hc hf hne hq=>?_⟩⟩
  obtain⟨k,e1,e2⟩:=mk cS [q1] _ cc f hc hf hne
  obtain⟨S,c0,c1⟩:=cel _ hq
  have hb4:=S _ _ (k _ _ hb1 (bP _ (.inr (.inr rfl))))
  exact fin false _ 4 [.int (1+c/5%9)] hb (fun z o e _ _ n=>S _ _ (k z o (S1 z o e) n)) hb4 (.clo (sD hb4 ⟨⟨cc,S _ _ e1,S _ _ e2⟩,.cons c1 .nil⟩) (.cons (.int _) .nil)) nofun (.weS _ rfl ⟨_,if_pos rfl⟩ ⟨m1,m2⟩ rfl)
section
structure TP (P:VM)(w:Wm)(K:W.Frag)(mg:Str->Option pz)(base:Heap)(A:Adr):Prop extends Txt K mg A where
 B:BM mg base
 aeG:A.d_3.code=.ref A.k_3
 C_3:W.CodeHd base A.k_3 A.t_3
 aeH:A.d_1.code=.ref A.k_1
 C_1:W.CodeHd base A.k_1 A.t_1
 aeI:A.d_0.code=.ref A.k_0
 C_0:W.CodeHd base A.k_0 A.t_0
variable {P:VM}{w:Wm}{K:W.Frag}{mg:Str->Option pz}{base:Heap}{A:Adr}(T:TP P w K mg base A)
include T
omit T in
abbrev FA (_:TP P w K mg base A){x q:Str}{st:Stmt}{a:Addr}{d:Gt}{ps:List Str}(_:Fm K mg x q st a d ps)(k:Nat)(sp:WP):Prop:=cy P w K mg base (CX1 P w) k a d ps (lP K (gm A) sp)
omit T in
abbrev FB (_:TP P w K mg base A){x q:Str}{st:Stmt}{a:Addr}{d:Gt}{ps:List Str}(_:Fb K x q st a d ps)(k:Nat)(sp:WP):Prop:=cy P w K mg base (CX1 P w) k a d ps (lP K (gm A) sp)
def ef:FA T T.i7 1 vk:=okN T.i7.f Df (CF) (fun hr=>
 aj (ar (df (aF eG T.b8 Wf (ac (aa 0) (ac (fN T.b7 boot_int) (ae)))) (eu (Kj (aF eG T.b8 Wf (ac (aa 0) (ac (fN T.aev boot_bool) (ae))))))))) (by
 rintro l h Q X ⟨x,t,rfl,ht,q⟩
 refine⟨by decide,t,ht,?_⟩
 rcases Bz ht with⟨e1,e2,i,rfl⟩|⟨e1,e2,b,rfl⟩|⟨e1,e2,a⟩
 ·exact Sel.yes e1 ⟨by decide,t,ht,by rw[e2];exact .id q⟩
 ·exact Sel.yes e1 ⟨by decide,t,ht,by rw[e2];exact .id q⟩
 ·exact Sel.no e1 (.id (by rw[e2]at q;exact q)))
def fE:FA T T.y9 2 uM:=okN T.y9.f De (Co) (fun hr=>
 af (aK (bd (aB (ef T) hr.le T.i7 (ac (aa 0) (ae)))) (aj (ar (jt fT mj (b7) (aa 0) (aA RV (b7) (b7))))) (aG)) (aj (ar (aF eG T.b8 Wf (ac (aa 0) (ac (fN T.c6 aan) (ae))))))) (by
 rintro l h Q X ⟨x,t,rfl,ht,q⟩
 refine⟨x,t,rfl,ht,?_⟩
 rcases Bz ht with⟨e1,e2,i,rfl⟩|⟨e1,e2,b,rfl⟩|⟨e1,e2,e3,a,e4⟩
 ·refine Sel.yes rfl (Sel.dec (fun h0=>⟨by decide,?_⟩) fun h0=>?_)
  ·have:stW (.int i)=decide (i<10^(60:Int).toNat):=decide_eq_decide.mpr ⟨fun z=>z.2,fun z=>⟨h0,z⟩⟩
   rw[this]at q;exact .id q
  ·have:stW (.int i)=false:=decide_eq_false fun z=>h0 z.1
   rw[this]at q;exact .id q
 ·exact Sel.no rfl ⟨by decide,t,ht,by obtain rfl:=VR ht;exact .id q⟩
 ·refine Sel.no e2 ⟨by decide,t,ht,?_⟩
  have:isI t "str"=stW x:=by
   cases x<;>first|exact absurd rfl (e4 _)|skip
   all_goals first|exact e3.mpr ⟨_,rfl⟩|exact XO.mpr fun z=>by obtain⟨a,z⟩:=e3.mp z;injection z
  rw[this];exact .id q)
def xQ:FA T T.X5 3 xF:=okN T.X5.f Fo (Dr) (fun hr=>
 af (aK (bp (bd (aF eG T.b8 Wf (ac (aa 0) (ac (fN T.X7 ZP) (ae)))))) (aj (ar (eK))) (aG)) (af (aK (bp (BB fT fT (b7) (aF bV T.e9 VJ (ac (aa 0) (ae))) (IG T.adQ))) (aj (ar (eK))) (aG)) (aj (ar (df (aF eG T.b8 Wf (ac (aP (ixW hr.units1) (aa 0) (b7)) (ac (fN T.c6 aan) (ae)))) (eu (aF (Ky rfl) T.aeA L2.Hs (ac (nJ (ys:=[]) (by exact⟨rfl,by decide+kernel,by decide+kernel,rfl,by decide+kernel,by decide+kernel⟩) (by exact .nil) (fJ (aa 0)) Fl (fun C s H fp=>aB (fE T) hr.le T.y9 (ac (aa 0) (ae)))) (ae))))))))) (by
 rintro l h Q X ⟨k,rfl,ok,q⟩
 obtain⟨w,r,rfl⟩:=Jt ok
 have hl:=Ei ok
 refine⟨by decide,"tuple",rfl,Sel.no rfl (Sel.yes (decide_eq_true (by simp;lia)) ?_)⟩
 refine Sel.no (by show(!decide _)=false;rw[decide_eq_true (by simp at hl⊢;lia)];rfl) ⟨.str w,at0,by decide,"str",rfl,Sel.yes rfl ?_⟩
 refine jq (f:=fun x=>.bl (stW x)) (fun Qi q=>q) (by rw[VE];simp at hl⊢;lia) (fun x hx h Q q=>?_) ?_
 ·obtain⟨k,hk,rfl⟩:=VL.mp hx
  obtain⟨t,ht⟩:=tyK (h:=h) k
  exact⟨_,t,rfl,ht,q⟩
 ·refine⟨_,(Zy w::r).map fun x=>stW (kW x),rfl,.inl (by simp[WA,abc]),?_⟩
  have:((Zy w::r).map fun x=>stW (kW x)).all id=true:=by
   rw[acU,WB]
   exact fun x hx=>stK (yQ ok hx)
  rw[this];exact .id q)
def BL:FA T T.W7 2 qW:=okN T.W7.f sX (AF) (fun hr=>
 af (aK (bd (aB (ef T) hr.le T.i7 (ac (aa 0) (ae)))) (aj (ar (GD (.cons (ET (aa 0)) (.cons (c6) (.nil)))))) (aG)) (af (az 1 sX.nd (aF bV T.e9 VJ (ac (aa 0) (ae)))) (aj (ar (GD (.cons (ET (aa 1)) (.cons (c6) (.cons (ET (aa 0)) (.nil))))))))) (by
 rintro l h Q X ⟨x,rfl,hp,q⟩
 cases x with
 |inl i=>
  have h:=of_decide_eq_true hp
  have l:=jo h.1 h.2
  refine⟨_,"int",rfl,rfl,Sel.t ?_⟩
  have e1:XA++((toString i:String):Str)=((toString i:String):Str):=acd _
  have l2:(((toString i:String):Str)++((";":String):Str)).length<=sizeLine:=by rw[XC,ju ";"];exact av (by lia)
  refine⟨rZ h.1 h.2,by rw[e1];exact av (by lia),?_,?_,?_⟩<;>rw[e1]
  ·exact l2
  ·exact l2
  ·exact .id q
 |inr z=>
  have h:=of_decide_eq_true (Gn.mp hp).2
  have l:=jo (i:=(z.length:Int)) (by lia) (by lia)
  refine⟨_,"str",rfl,rfl,Sel.f ?_⟩
  have e1:XA++((toString (z.length:Int):String):Str)=((toString (z.length:Int):String):Str):=acd _
  have l2:(((toString (z.length:Int):String):Str)++((":":String):Str)).length<=sizeLine:=by rw[XC,ju ":"];exact av (by lia)
  have l3:(((toString (z.length:Int):String):Str)++((":":String):Str)++z).length<=sizeLine:=by rw[XC,XC,ju ":"];exact av (by lia)
  refine⟨av (by lia),rZ (by lia) (by lia),by rw[e1];exact av (by lia),?_,av (by lia),?_,?_,?_⟩<;>rw[e1]
  ·exact l2
  ·exact l3
  ·exact l3
  ·exact .id q)
def Ff:FA T T.adc 4 jm:=okN T.adc.f FV (DN) (fun hr=>
 af (aK (bp (bd (aB (xQ T) hr.le T.X5 (ac (aa 0) (ae))))) (aj (cz)) (aG)) (aj (ar (dQ aaC aaL aaK KG (c6) (ac (nJ (ys:=[]) (by exact⟨rfl,by decide+kernel,by decide+kernel,rfl,by decide+kernel,by decide+kernel⟩) (by exact .nil) (fJ (aa 0)) Fl (fun C s H fp=>aB (BL T) hr.le T.W7 (ac (aa 0) (ae)))) (ae)))))) (by
 rintro l h Q X ⟨k,rfl,ok,q⟩
 have l8:=Ei ok
 refine⟨k,rfl,ok,Sel.no rfl ⟨rfl,jq (f:=fun x=>match x with|.int i=>.str (fm (.inl i))|.str z=>.str (fm (.inr z))|w=>w) (fun Qi q=>q) (by rw[VE];simp;lia) (fun x hx h Q q=>?_) ?_⟩⟩
 ·obtain⟨k,hk,rfl⟩:=VL.mp hx
  exact⟨k,rfl,yQ ok hk,by cases k<;>exact q⟩
 ·refine⟨_,_,k.map fm,rfl,rfl,.inl ?_,?_,?_⟩
  ·rw[WA,WA]
   congr 1
   exact XU fun x a=>by cases x<;>rfl
  ·have h1:=Bq (mM ok)
   have h2:=Ej (mM ok)
   have e0:(("":String):Str).length=0:=by decide
   rw[e0]
   have:k.length*100062<=8*100062:=Nat.mul_le_mul_right _ l8
   lia
  ·rw[EE,<-CQ];exact .id q)
def zm:fu P w K mg base 5 dF (lP K (gm A) ft):=BS rfl yC zv fun hr=>
 aB (Ff T) hr.le T.adc (ac (aa 0) (ae))
def mY:FB T T.l4 4 dt:=okN T.l4.f mK (lY) (fun hr=>
 af (aK (bp (bd (aB (xQ T) hr.le T.X5 (ac (aa 1) (ae))))) (aj (cz)) (aG)) (af (aK (aJ (Eg hr.units150) (aa 1) (aC (aa 0))) (aj (rp hr.units1 (aC (aa 0)) (aa 1) (aF bV T.e9 VJ (ac (aC (aa 0)) (ae))))) (aG)) (aj (ar (aP (ixW hr.units1) (aC (aa 0)) (aa 1)))))) (by
 rintro l h Q X ⟨d,kv,k,rfl,ok,e,hl,q1,q2⟩
 refine⟨k,rfl,ok,Sel.no rfl ⟨_,rfl,.inl ⟨_,.t e,?_⟩⟩⟩
 rw[lc]
 cases hk:lk kv k with
 |some m=>exact Sel.no rfl ⟨_,rfl,.inr ⟨kW m,by have:=DW.t (k:=k) e;rw[lc,hk]at this;exact this,.id (q1 m hk)⟩⟩
 |none=>
  refine Sel.yes rfl ⟨_,rfl,.inr (.inr ⟨_,e,_,rfl,_,.d (.t e (by rw[VE];simp[tb];lia)),_,rfl,.inr ⟨.int kv.length,?_,.id ?_⟩⟩)⟩
  ·have e2:pK (tb kv) k (W.int (tb kv).length)=tb (kv++[(k,.inl kv.length)]):=by
    have:=AN (.inl kv.length) hk
    rw[show(tb kv).length=kv.length from by simp[tb]];exact this
   have:=DW.t (k:=k) (h:=up h d (.dT (pK (tb kv) k (W.int (tb kv).length)))) (a:=d) (l:=pK (tb kv) k (W.int (tb kv).length)) ao
   rw[e2,lc,sW hk,if_pos rfl]at this
   rw[e2];exact this
  ·have:=AN (.inl kv.length) hk
   rw[show(tb kv).length=kv.length from by simp[tb]]
   show Q _ (up h d (.dT (pK (tb kv) k (kW (.inl kv.length)))))
   rw[this];exact q2 hk)
def xT:fu P w K mg base 5 dm (lP K (gm A) eW):=BS rfl xN xI fun hr=>
 aN (aa 1) (mwc (c:=26) T.acX T.X4 (mY T) hr.le T.l4.b (mwn)) (ac (aa 0) (ae))
def qH:fu P w K mg base 1 cV (lP K (gm A) dM):=BS rfl qM qS fun hr=>
 dQ XW Xc PySem.F.type_dict_setdefault (Rw hr.units1) (aa 1) (ac (aa 0) (ac (aA bO (aA eF (b7) (aF bV T.e9 VJ (ac (aa 1) (ae)))) (b7)) (ae)))
def vh:FA T T.T5 1 gX:=okN T.T5.f dC (Be) (fun hr=>
 af (az 1 dC.nd (b7)) (af (fI (fb 2 dC.nd) (fJ (aa 0)) (af (aK (bd (aF eG T.b8 Wf (ac (aa 2) (ac (fN T.c6 aan) (ae))))) (af (az 1 dC.nd (aA bO (aA eF (aa 1) (b7)) (aA eF (b7) (aF bV T.e9 VJ (ac (aa 2) (ae)))))) (aj (fI (fb 3 dC.nd) (fJ (za (aa 2) (IU) (IF (b7)))) (aj (az 1 dC.nd (aA bO (aA eF (aa 1) (b7)) (aF Sm T.aeD boot_ord (ac (aa 3) (ae)))))) Wb))) (aj (az 1 dC.nd (aA bO (aA eF (aa 1) (b7)) (aa 2))))) (aj (az 1 dC.nd (aA de (aa 1) (b7))))) Wb) (aj (ar (aa 1))))) (by
 rintro l h Q X ⟨k,rfl,ok,q⟩
 refine⟨trivial,gl (fun its ws h'=>h'=h/\∃kk t p s,its=kk.map kW/\(∀x∈kk,okP x=true)/\ws=[some (.tup (k.map kW)),some (.int t),p,s]/\kk.foldl FU t=gF k) ?_ ?_ ⟨rfl,k,0,none,none,rfl,fun x hx=>yQ ok hx,rfl,rfl⟩⟩
 ·rintro x r ws h' a a a a a ⟨rfl,kk,t,p,s,e,hk,rfl,es⟩ K
  cases kk with
  |nil=>injection e
  |cons y kk=>
   rw[VI,XT]at e
   obtain⟨rfl,rfl⟩:=e
   have hy:=hk y cW
   have K2:∀t' p' s',t'=FU t y->_:=fun t' p' s' e=>K [some (.tup (k.map kW)),some (.int t'),p',s'] h' ⟨rfl,kk,t',p',s',rfl,fun x hx=>hk x (Vu _ hx),rfl,by rw[e];exact es⟩
   cases y with
   |inl i=>exact⟨by decide,"int",rfl,Sel.no (by decide) ⟨Xn (by decide),show(0:Int)<1000000007 by decide,trivial,K2 _ _ _ rfl⟩⟩
   |inr z=>
    obtain⟨hz,hl⟩:=Gn.mp hy
    have hl:=of_decide_eq_true hl
    refine⟨by decide,"str",rfl,Sel.yes (by decide) ⟨Xn (by decide),av (by lia),Xh (by decide),av (by lia),GJ hz _ _,trivial,?_⟩⟩
    generalize ew:Txt.slice z none (some 6)=w
    refine gl (fun its ws h''=>h''=h'/\∃cs t2 s2,its=cs.map (fun(c:Nat)=>W.str ⟨#[c]⟩)/\ws=[some (.tup (k.map kW)),some (.int t2),some (.str z),s2]/\cs.foldl AX t2=w.cps.toList.foldl AX (t*7+3*(z.length:Int))) ?_ ?_ ⟨rfl,w.cps.toList,_,s,rfl,rfl,rfl⟩
    ·rintro x r ws h'' a a a a a ⟨rfl,cs,t2,s2,e,rfl,es2⟩ K3
     cases cs with
     |nil=>injection e
     |cons c cs=>
      rw[VI,XT]at e
      obtain⟨rfl,rfl⟩:=e
      exact⟨Xn (by decide),rfl,trivial,K3 _ _ ⟨rfl,cs,_,_,rfl,rfl,es2⟩⟩
    ·rintro ws h'' ⟨rfl,cs,t2,s2,e,rfl,es2⟩
     cases cs with
     |cons=>injection e
     |nil=>
      refine⟨show(0:Int)<1000000007 by decide,trivial,K2 _ _ _ ?_⟩
      show t2%1000000007=(List.foldl AX _ (Txt.slice z none (some 6)).cps.toList)%1000000007
      rw[ew,<-es2];rfl
 ·rintro ws h' ⟨rfl,kk,t,p,s,e,hk,rfl,es⟩
  cases kk with
  |cons=>injection e
  |nil=>subst es;exact .id q)
def qP:fu P w K mg base 2 cU (lP K (gm A) dJ):=BS rfl qE qQ fun hr=>
 aA de (aB (vh T) hr.le T.T5 (ac (aa 0) (ae))) (aa 1)
def qK:fu P w K mg base 2 cS (lP K (gm A) dN):=BS rfl qO qJ fun hr=>
 aA bO (c6) (fO SU T.c6 aan (ac (aA de (aB (vh T) hr.le T.T5 (ac (aa 0) (ae))) (aa 1)) (ae)))
def dX:FA T T.d7 1 kO:=okN T.d7.f xB (vL) (fun hr=>
 af (aK (aJ mj (aa 1) (aF bV T.e9 VJ (ac (aa 0) (ae)))) (aj (ar (aP (ixW hr.units1) (aa 0) (aa 1)))) (aG)) (aj (ar (b7)))) (by
 rintro l h Q X ⟨ns,k,rfl,q⟩
 refine Sel.dec (fun z=>?_) fun z=>.id (q 0)
 have hk:k<ns.length:=by simp at z;lia
 exact⟨.int ns[k],atN (by rw[VG,Dc hk];rfl),.id (q _)⟩)
theorem TB (B:BM mg base)(C:W.CodeHd base A.k_3 A.t_3)(Ar:Wj)(outer:List Env)(s:Bn)(H:Hp)(E:XK)
  (hr:aZ 0 (Ar.deeper (envOfC "writing" (ai s_3) s.heap.objs.size A.a_3 (.ref A.k_3)))):QMs (gb (CX1 P w) P w K mg base [] "writing" (ai s_3) A.a_3 (.ref A.k_3) Ar outer s H E).nox (bv s_3) (T_3 A):=(
 oH (pq (xJ B C rfl (by rfl) (by simp<;>lia) rfl rfl rfl rfl (fun a a a a us hl=>by obtain⟨a,rfl⟩:=L2.oP hl;rfl))))
def Tv:cy P w K mg base (CX1 P w) 1 A.a_3 A.d_3 [] (gW A):=
 T.f_3.f.okM (caps:=fun L=>[]) T.aeG Ue (Sx A) (fun L p hp=>nomatch hp) (fun L=>by simp) (fun Ar outer s H vs Q E hr h=>⟨_,QMs.nox (TB T T.B T.C_3 Ar outer s H E hr),Uq vs H Q E h⟩)
def oI:cy P w K mg base (CX1 P w) 1 A.c9 A.f6 ["self"] (pc A):=
 T.J9.f.okS pE (SJ A) (Vg T.1) fun a a a a a a hr=>
 Io (BP (oV 0) (yU))
theorem Ul (B:BM mg base)(C:W.CodeHd base A.k_1 A.t_1)(Ar:Wj)(outer:List Env)(s:Bn)(H:Hp)(E:XK)
  (hr:aZ 2 (Ar.deeper (envOfC "counting" (ai s_1) s.heap.objs.size A.a_1 (.ref A.k_1)))):QMs (gb (CX1 P w) P w K mg base ["numbers"] "counting" (ai s_1) A.a_1 (.ref A.k_1) Ar outer s H E).nox (bv s_1) (T_1 A (s.heap.objs.size+1)):=(
 jW (CH (Bb 0 Qh.nd (BF T.aeq (oI T) hr.le T.aeo T.J9.b oM))) (oH (pq (xJ B C rfl (by rfl) (by simp<;>lia) rfl rfl rfl rfl (fun a a a a us hl=>by obtain⟨a,rfl⟩:=L2.oP hl;rfl)))))
def TU:cy P w K mg base (CX1 P w) 3 A.a_1 A.d_1 [] (gp A):=
 T.f_1.f.okM (caps:=fun L=>[(0,L+1)]) T.aeH Qh (Rq A) (fun L p hp=>by simp only[tx,If,or_false]at hp;rcases hp with rfl<;>exact⟨_,rfl,rfl,rfl⟩) (fun L=>by simp) (fun Ar outer s H vs Q E hr h=>⟨_,QMs.nox (Ul T T.B T.C_1 Ar outer s H E hr),UZ (s.heap.objs.size+1) vs H Q E h⟩)
theorem UJ (B:BM mg base)(C:W.CodeHd base A.k_0 A.t_0)(Ar:Wj)(outer:List Env)(s:Bn)(H:Hp)(E:XK)
  (hr:aZ 3 (Ar.deeper (envOfC "_law_stamper" (ai s_0) s.heap.objs.size A.a_0 (.ref A.k_0)))):QMs (gb (CX1 P w) P w K mg base ["_law_cell","_law_book","_law_many"] "_law_stamper" (ai s_0) A.a_0 (.ref A.k_0) Ar outer s H E).nox (bv s_0) (T_0 K A (s.heap.objs.size+1) (s.heap.objs.size+1+1)):=(
 jW (CH (Bb 1 JO.nd (yU))) (jW (CH (Bb 2 JO.nd (qU KD (fG) (qU zq (qU Ie (oV 0) (fG)) (fG))))) (jW (Fh (rQ (Gf hr.units150) (qU zq (oV 0) (fG)) (fG)) (oH (pq (BA (Tv T) hr.le T.f_3.m T.f_3.f.kp T.f_3.b oM))) (AZ)) (jW (Fh (rQ (Gf hr.units150) (qU zq (oV 0) (fG)) (fG)) (oH (pq (BA (TU T) hr.le T.f_1.m T.f_1.f.kp T.f_1.b oM))) (AZ)) (jW (Fh (rQ (Gf hr.units150) (qU zq (oV 0) (fG)) (fG)) (oH (pq (xJ B C rfl (by rfl) (by simp<;>lia) rfl rfl rfl rfl (fun a a a a us hl=>by obtain⟨a,rfl⟩:=L2.oP hl;rfl)))) (AZ)) (jW (Fh (rQ (Gf hr.units150) (qU zq (oV 0) (fG)) (fG)) (oH (pq (xJ B C rfl (by rfl) (by simp<;>lia) rfl rfl rfl rfl (fun a a a a us hl=>by obtain⟨a,rfl⟩:=L2.oP hl;rfl)))) (AZ)) (oH (pq (xJ B C rfl (by rfl) (by simp<;>lia) rfl rfl rfl rfl (fun a a a a us hl=>by obtain⟨a,rfl⟩:=L2.oP hl;rfl))))))))))
def UF:cy P w K mg base (CX1 P w) 4 A.a_0 A.d_0 ["_law_cell"] (lP K (gm A) (mB A)):=
 T.f_0.f.okM (caps:=fun L=>[(1,L+1),(2,L+1+1)]) T.aeI JO (Rr K A) (fun L p hp=>by simp only[tx,If,or_false]at hp;rcases hp with rfl|rfl<;>exact⟨_,rfl,rfl,rfl⟩) (fun L=>by simp) (fun Ar outer s H vs Q E hr h=>⟨_,QMs.nox (UJ T T.B T.C_0 Ar outer s H E hr),Tt T.1 (s.heap.objs.size+1) (s.heap.objs.size+1+1) (by simp) vs H Q E h⟩)
def sQ:FB T T.C0 1 ie:=okN T.C0.f sP (qG) (fun hr=>
 aj (bx (aa 0) (FF) T.nl_sealed)) (by
 rintro l h Q X ⟨p,rfl,hp,q⟩
 exact .inr fun D hD=>⟨p,27,_,rfl,(ag (ab (aE hp hD))).trans hp,by simp,by simp,.id (q D hD)⟩)
def FC:FA T T.ade 2 wx:=okN T.ade.f EY (DD) (fun hr=>
 aj (ar (df (aB (ef T) hr.le T.i7 (ac (aa 0) (ae))) (eu (jt fT fT (b7) (aa 0) (IG T.aea)))))) (by
 rintro l h Q X ⟨i,rfl,h1,h2,q⟩
 exact⟨_,"int",rfl,rfl,Sel.yes rfl (Sel.yes (decide_eq_true (by lia)) (.b (decide_eq_true (by lia)) q))⟩)
def cH:∀p∈ks1,((gm A).cT p.1).ps.length=1/\fu P w K mg base 5 ((gm A).cT p.1) (lP K (gm A) p.2):=dA.m ⟨⟨rfl,(zm T).mono (by decide)⟩,⟨rfl,(xT T).mono (by decide)⟩,⟨rfl,(qH T).mono (by decide)⟩,⟨rfl,(qP T).mono (by decide)⟩,⟨rfl,(qK T).mono (by decide)⟩,trivial⟩
def fy:FB T T.f9 6 jg:=okN T.f9.f tZ (sx) (fun hr=>
 af (bx (aa 0) (aa 2) T.nl_term) (aj (bx (aa 0) (dj (cH T) hr.le (aa 1) (ac (aa 2) (ae))) T.nl_mark))) (by
 rintro l h Q X ⟨p,cl,b,w,g,n,i,c,t,rfl,hc,hp,pb,s,hn,ok,hw,q⟩
 have m4:cl∈[20,21,22,23]:=by rcases hc with rfl|rfl|rfl<;>simp
 refine⟨p,cl,_,rfl,hp,m4,by simp,i,c,rfl,s.kind,?_⟩
 refine aw.call (k:=t) (s.am (ag (ab pb))) ok hn hw fun v g' h' k s' x e o z=>⟨p,cl,_,rfl,(k p pb).trans ao,m4,by simp[pF],.id ?_⟩
 have k2:Kp b h (fun a=>if a=p then h p else h' a):=fun a na=>by
  by_cases e:a=p
  ·subst e;exact if_pos rfl
  ·show(if a=p then h p else h' a)=h a
   rw[if_neg e,k a na,ag e]
 have e2:up h' p (.ins cl (pF "mark" (kW v) (pF "term" (tmW t) [])))=up (fun a=>if a=p then h p else h' a) p (.ins cl (knF t v)):=by
  funext a
  by_cases e:a=p
  ·subst e;rw[ao,ao];rfl
  ·rw[ag e,ag e,if_neg e]
 show Q _ (up h' p (.ins cl (pF "mark" (kW v) (pF "term" (tmW t) []))))
 rw[e2]
 exact q v g' _ k2 (s'.am (if_neg (ab pb))) x e ⟨o,z⟩)
def iS:FB T T.o6 7 fw:=okN T.o6.f ux (qV) (fun hr=>
 aj (bi (EW (c:=20) T.adS T.ae9 (fy T) hr.le T.f9.b (ac (aa 0) (ac (aa 1) (ac (bf (ac (c6) (ae))) (ae))))))) (by
 rintro l h Q X ⟨p,b,w,g,n,i,c,rfl,hp,pb,s,hn,q⟩
 refine⟨by decide,p,21,b,w,g,n,i,c,gU,rfl,.inl rfl,hp,pb,s,hn,Kc,fun a=>by rw[Fs];decide,fun m g' h' k s' x e o=>.id (q m g' h' k s' x e (o.le (by rw[Fs];decide)))⟩)
def ia:FB T T.j6 9 iy:=okN T.j6.f rT (qL) (fun hr=>
 af (aK (bp (bd (aB (FC T) hr.le T.ade (ac (aa 2) (ae))))) (aj (cz)) (aG)) (af (bx (aa 0) (aa 1) T.nl_stamper) (af (bx (aa 0) (aa 2) T.nl_bits) (aj (bx (aa 0) (dH 21 T.aet T.N6 (iS T) hr.le T.adT T.o6.b (ac (aa 1) (ae))) T.nl_top))))) (by
 rintro l h Q X ⟨p,b,w,g,n,i,c,B,rfl,hp,pb,s,hn,hB,hB2,q⟩
 refine⟨B,rfl,hB,hB2,Sel.no rfl ⟨p,24,_,rfl,hp,by simp,by simp,p,24,_,rfl,ao,by simp,eX (by simp),?_⟩⟩
 rw[dU]
 refine Eh (s.am (ag (ab pb))) hn fun v m g' h' k s' x kn=>⟨p,24,_,rfl,(k p pb).trans ao,by simp,eX (eX (by simp)),.id ?_⟩
 rw[Lw (h:=h)]
 exact q v m g' _ (LJ pb k) (s'.am (if_neg (ab pb))) x kn)
def jN:FB T T.w4 1 ke:=okN T.w4.f vF (uz) (fun hr=>
 af (bx (aa 0) (aa 1) T.nl_stamper) (af (bx (aa 0) (dz (ae)) T.nl_entries) (aj (bx (aa 0) (FF) T.nl_tops)))) (by
 rintro l h Q X ⟨p,i,c,rfl,hp,q⟩
 refine⟨p,25,_,rfl,hp,by simp,by simp,av (by simp),.inr fun L hL=>?_⟩
 obtain⟨n1,hL⟩:=aS hL
 refine⟨p,25,_,rfl,(ag (ab n1)).trans ao,by simp,eX (by simp),.inr fun D hD=>?_⟩
 obtain⟨n2,hD⟩:=aS hD
 obtain⟨n3,hD⟩:=aS hD
 obtain⟨a,hD⟩:=aS hD
 refine⟨p,25,_,rfl,(ag (ab n2)).trans ao,by simp,eX (eX (by simp)),.id ?_⟩
 have:=q L D hL hD (ab n3)
 rw[Na n2.symm,dU,MP]
 exact this)
def mi:FA T T.M5 2 uO:=okN T.M5.f Dg (BU) (fun hr=>
 aj (ar (df (aB (ef T) hr.le T.i7 (ac (aa 0) (ae))) (eu (jt fT mj (b7) (aa 0) (aA tL (b7) (b7))))))) (by
 rintro l h Q X ⟨i,rfl,h1,q⟩
 exact⟨_,"int",rfl,rfl,Sel.yes rfl (Sel.yes (decide_eq_true (by lia)) ⟨⟨by decide,by decide,by decide⟩,.b (decide_eq_true (Ys (show(i:Int)<1000000 by lia) (by decide))) q⟩)⟩)
def xn:FA T T.X6 3 xj:=okN T.X6.f FO (DE) (fun hr=>
 aj (ar (df (aF eG T.b8 Wf (ac (aa 0) (ac (fN T.X7 ZP) (ae)))) (df (fH (bF hr.units150) (aF bV T.e9 VJ (ac (aa 0) (ae))) (b7)) (df (aB (mi T) hr.le T.M5 (ac (aP (ixW hr.units1) (aa 0) (b7)) (ae))) (eu (aB (fE T) hr.le T.y9 (ac (aP (ixW hr.units1) (aa 0) (b7)) (ae))))))))) (by
 rintro l h Q X ⟨c,m,rfl,h1,hm,q⟩
 obtain⟨t,ht⟩:=tyK (h:=h) m
 exact⟨by decide,"tuple",rfl,Sel.yes rfl ⟨.sc rfl,fun b hb=>Sel.yes (hb.mpr rfl) ⟨_,at0,c,rfl,h1,Sel.yes rfl ⟨_,bA (j:=1) rfl,_,t,rfl,ht,.b (stK hm) q⟩⟩⟩⟩)
def iH:FA T T.C3 4 qd:=okN T.C3.f Ak (yR) (fun hr=>
 aj (aK (bp (bd (aB (xn T) hr.le T.X6 (ac (aa 0) (ae))))) (aj (cz)) (aG))) (by
 rintro l h Q X ⟨c,m,rfl,h1,hm,q⟩
 exact⟨c,m,rfl,h1,hm,Sel.no rfl (.id q)⟩)
def mV:FB T T.F9 5 mC:=okN T.F9.f yz (xM) (fun hr=>
 af (bi (aB (iH T) hr.le T.C3 (ac (aa 1) (ae)))) (aj (rp hr.units1 (aC (aa 0)) (aa 1) (eK)))) (by
 rintro l h Q X ⟨D,c,m,kv,rfl,hc,hm,hD,hl,q⟩
 exact⟨c,m,rfl,hc,hm,_,rfl,_,.d (.t (k:=hdK c m) hD (by rw[VE];lia)),.id q⟩)
def iI:FA T T.C4 6 pY:=okN T.C4.f Ay (zn) (fun hr=>
 aj (ar (dz (ac (bf (ac (c6) (ae))) (ac (bf (ac (c6) (ac (b7) (ac (dj (cH T) hr.le (aa 0) (ac (bf (ac (c6) (ae))) (ae))) (ae))))) (ae)))))) (by
 rintro l h Q X ⟨b,w,g,n,i,c,rfl,s,hn,q⟩
 refine⟨av (by simp),i,c,rfl,s.kind,av (by simp),?_⟩
 refine aw.call (k:=lx) s Fa hn (fun a=>by show szT [.inr ("void":Str)]<=_;rw[AS];decide) fun v g' h' k s' x e o z=>⟨av (by simp),av (by simp),.inl (.id (q v g' h' k s' x ⟨⟨o,fun y=>?_⟩,fun hh ex=>(ex _ _ e).symm⟩))⟩
 have:=z y
 rw[show szT lx=66 from AS]at this;exact this)
def Cy:FA T T.W8 7 rj:=okN T.W8.f CA (As) (fun hr=>
 aj (ar (bf (ac (b7) (ac (dj (cH T) hr.le (aa 0) (ac (aP (ixW hr.units1) (aB (iI T) hr.le T.C4 (ac (aa 0) (ae))) (fM (b7))) (ae))) (ae)))))) (by
 rintro l h Q X ⟨b,w,g,n,i,c,rfl,s,hn,q⟩
 refine⟨i,c,rfl,s.kind,b,w,g,n,i,c,rfl,s,by lia,fun v g' h' k s' x cu=>⟨_,dG (l:=[tmW lx]),?_⟩⟩
 exact aw.row s' cu (by simp) (by simp) (by lia) fun u g2 h2 k2 s2 x2 sm mk=>⟨av (by simp),.id (q u g2 h2 (k.trans k2) s2 (x.trans x2) sm mk)⟩)
def ib:FB T T.j7 11 im:=okN T.j7.f rP (qF) (fun hr=>
 af (bx (aa 0) (dH 24 T.aeg T.C7 (ia T) hr.le T.aeb T.j6.b (ac (aa 1) (ac (aa 2) (ae)))) T.nl_table) (af (bx (aa 0) (dH 25 T.aey T.b9 (jN T) hr.le T.aex T.w4.b (ac (aa 1) (ae))) T.nl_row) (af (bx (aa 0) (dz (ae)) T.nl_makes) (af (bx (aa 0) (aa 3) T.nl_seals) (aj (bi (aN (aa 3) (mwc (c:=27) T.X2 T.X9 (mV T) hr.le T.F9.b (mwn)) (ac (aB (Cy T) hr.le T.W8 (ac (aa 1) (ae))) (ae))))))))) (by
 rintro l h Q X ⟨p,w,g,n,b,i,c,B,SD,sv,rfl,hp,pb,Sb,pS,s,hn,hB,hB2,hS,sl,q⟩
 refine fun T hT=>⟨T,b,w,g,n,i,c,B,rfl,ao,s.ne hT,s.am (ag (ab (s.ne hT))),by lia,hB,hB2,fun v m g1 h1 k1 s1 x1 kn=>⟨rfl,.id ?_⟩⟩
 have Tb:=s.ne hT
 have Tp:=aE hp hT
 have TS:=aE hS hT
 have hp1:h1 p=some (.ins 30 []):=(k1 p pb).trans ((ag (ab Tp)).trans hp)
 have hS1:h1 SD=some (.dT sv):=(k1 SD Sb).trans ((ag (ab TS)).trans hS)
 refine⟨p,30,_,rfl,(ag (ab Tp)).trans hp1,by simp,by simp,?_⟩
 refine fun R hR=>⟨R,i,c,rfl,ao,fun L D hL hD LD=>⟨rfl,Fu ?_⟩⟩
 obtain⟨Rp,hR⟩:=aS hR
 obtain⟨RT,hR⟩:=aS hR
 obtain⟨LR,hL⟩:=aS hL
 obtain⟨Lp,hL⟩:=aS hL
 obtain⟨LT,hL⟩:=aS hL
 obtain⟨DR,hD⟩:=aS hD
 obtain⟨Dp,hD⟩:=aS hD
 obtain⟨DT,hD⟩:=aS hD
 have Rb:=s1.ne hR
 have Lb:=s1.ne hL
 have Db:=s1.ne hD
 have LS:=aE hS1 hL
 have DS:=aE hS1 hD
 have RS:=aE hS1 hR
 have hh:∀a,a≠b->a≠T->h1 a=h a:=fun a z1 z2=>(k1 a z1).trans (ag z2)
 refine⟨p,30,[("table",.ref T)],rfl,?_,by simp,by simp,av (by simp),.inr fun M hM=>?_⟩
 ·rw[bz (ab Rp),ag (ab Dp),ag (ab Lp),ag (ab Rp),ao];rfl
 have hM0:M≠p/\(M=R\/(M≠R/\M≠D/\M≠L/\M≠T/\h1 M=none)):=by
  obtain⟨z1,hM⟩:=aS hM
  refine⟨z1,?_⟩
  rcases Jg hM with z|⟨z2,hM⟩
  ·exact .inl z
  ·obtain⟨z3,hM⟩:=aS hM
   obtain⟨z4,hM⟩:=aS hM
   obtain⟨j,hM⟩:=aS hM
   obtain⟨j,hM⟩:=aS hM
   obtain⟨z5,hM⟩:=aS hM
   exact .inr ⟨z2,z3,z4,z5,hM⟩
 obtain⟨Mp,hM0⟩:=hM0
 have hM1:M≠D/\M≠L/\M≠T/\h1 M=none:=by
  rcases hM0 with z|⟨j,a,b,c,d⟩
  ·rw[z];exact⟨ab DR,ab LR,RT,hR⟩
  ·exact⟨a,b,c,d⟩
 obtain⟨MD,ML,MT,hM1⟩:=hM1
 have Mb:=s1.ne hM1
 have MS:=aE hS1 hM1
 refine⟨p,30,[("table",.ref T),("row",ff i c L D)],rfl,(ag (ab Mp)).trans ao,by simp,by simp,?_⟩
 refine⟨p,30,[("table",.ref T),("row",ff i c L D),("makes",.ref M)],rfl,ao,by simp,by simp,?_⟩
 rw[dU]
 generalize eH:up (up (up (cut (up (up (up (up (up h1 T _) p _) R _) L _) D _) R) p _) M _) p _=H
 have Hp:H p=some (.ins 30 (hsF i c T L D M SD)):=by rw[<-eH,ao];rfl
 have HM:H M=some (.lst []):=by rw[<-eH,ag Mp,ao]
 have HL:H L=some (.lst []):=by rw[<-eH,ag Lp,ag (ab ML),ag Lp,bz LR,ag LD,ao]
 have HD:H D=some (.dT []):=by rw[<-eH,ag Dp,ag (ab MD),ag Dp,bz DR,ao]
 have HT:H T=some (.ins 24 (tbF i c B v)):=by rw[<-eH,ag Tp,ag (ab MT),ag Tp,bz (ab RT),ag (ab DT),ag (ab LT),ag (ab RT),ag Tp,ao]
 have HO:∀a,a≠p->a≠M->a≠L->a≠D->a≠T->a≠R->H a=h1 a:=fun a z1 z2 z3 z4 z5 z6=>by rw[<-eH,ag z1,ag z2,ag z1,bz z6,ag z4,ag z3,ag z6,ag z1,ag z5]
 have HR:M≠R->H R=none:=fun z=>by rw[<-eH,ag Rp,ag (ab z),ag Rp,cx]
 refine⟨27,_,_,.inl rfl,cW,rfl,b,w,g1,n+1,i,c,rfl,s1.am (HO b (ab pb) (ab Mb) (ab Lb) (ab Db) (ab Tb) (ab Rb)),by lia,fun u g2 h2 k2 s2 x2 sm mk=>?_⟩
 have hS2:h2 SD=some (.dT sv):=(k2 SD Sb).trans ((HO SD (ab pS) (ab MS) (ab LS) (ab DS) (ab TS) (ab RS)).trans hS1)
 refine⟨SD,0,u,sv,rfl,by lia,sm.1,hS2,sl,.id ?_⟩
 have nz:∀{a},h1 a=none->a≠b->a≠T->h a=none:=fun e z1 z2=>(hh _ z1 z2).symm.trans e
 refine q T L D M u g2 _ ?_ ?_ ?_ ((ag pS).trans ((k2 p pb).trans Hp)) ?_ (x1.trans x2) sm mk ao
 ·simp[LT,ab LT,DT,ab DT,MT,ab MT,LD,ab ML,ab MD]
 ·simp only[tx,If,or_false]
  rintro a (rfl|rfl|rfl|rfl)
  ·exact hT
  ·exact nz hL Lb LT
  ·exact nz hD Db DT
  ·exact nz hM1 Mb MT
 ·intro a na
  simp only[tx,If,or_false,not_or]at na
  obtain⟨a1,a2,a3,a4,a5,a6,a7⟩:=na
  rw[ag a6,k2 a a1]
  by_cases aR:a=R
  ·subst aR
   by_cases z:M=a
   ·exact absurd z.symm a5
   ·rw[HR z];exact(nz hR Rb RT).symm
  ·rw[HO a a7 a5 a3 a4 a2 aR,hh a a1 a2]
 ·refine⟨⟨v,m,(ag TS).trans ((k2 T Tb).trans HT),kn.ex x2⟩,.inl rfl,hB,hB2,by decide,⟨[],?_⟩,⟨[],(ag MS).trans ((k2 M Mb).trans HM),by simp⟩,s2.am (ag (ab Sb)),?_⟩
  ·exact⟨(ag LS).trans ((k2 L Lb).trans HL),(ag DS).trans ((k2 D Db).trans HD),fun k v e=>by simp[lk]at e,nofun,by simp,by simp,by simp,LD⟩
  ·simp[ab Tb,ab Lb,ab Db,ab Mb,ab LT,ab DT,ab MT,LD,ab ML,ab MD])
theorem mz:∀n:Nat,FA T T.M6 (5+n) (mf n)
 |0=>lV DF
 |f+1=>okN T.M6.f lZ (Cb (f+1)) (fun(hr:aZ (5+f) _)=>
 af (aK (aJ (bF hr.units150) (aF bV T.e9 VJ (ac (aa 1) (ae))) (b7)) (aj (ar (dj (cH T) hr.le (aa 0) (ac (bf (ac (c6) (ae))) (ae))))) (aG)) (af (aK (aJ (bF hr.units150) (aF bV T.e9 VJ (ac (aa 1) (ae))) (b7)) (aj (ar (dj (cH T) hr.le (aa 0) (ac (bf (ac (c6) (ac (aP (ixW hr.units1) (aa 1) (b7)) (ae)))) (ae))))) (aG)) (af (az 2 lZ.nd (b7)) (af (tu (aJ mj (aA eF (b7) (aa 2)) (aF bV T.e9 VJ (ac (aa 1) (ae)))) (aj (az 2 lZ.nd (aA eF (b7) (aa 2)))) Wb) (aj (ar (dj (cH T) hr.le (aa 0) (ac (bf (ac (c6) (ac (aB (mz f) hr.le T.M6 (ac (aa 0) (ac (za (aa 1) (IU) (IF (aa 2))) (ae)))) (ac (aB (mz f) hr.le T.M6 (ac (aa 0) (ac (za (aa 1) (IF (aa 2)) (IU)) (ae)))) (ae))))) (ae))))))))) (by
 rintro l h Q X ⟨b,w,g,n,i,c,x,es,rfl,ls,s,hn,hl,hw,en,hf,q⟩
 have ll:(Wt kW es).length=es.length:=Vy ..
 dsimp only[Cq,Fe,Cj,wOp]
 refine ls.lenV rfl ⟨.sc rfl,fun b1 hb1=>?_⟩
 rw[ll]at hb1
 refine eh hb1 (fun e1=>?_) fun e1=>?_
 ·have e1:es=[]:=YY.mp (by lia)
  subst e1
  exact⟨i,c,rfl,s.kind,av (by simp),aw.trm (s:=[]) (k:=lx) s ⟨Fa,fun d=>by show szT [.inr ("void":Str)]+62<=128;rw[AS];decide,fun d d=>rfl⟩ hw (by lia) fun u g' h' k s' x cu=>.id (q u g' h' k s' x cu)⟩
 dsimp only[wNx,Cq,Fe,Cj,wOp]
 refine ls.lenV rfl ⟨.sc rfl,fun b2 hb2=>?_⟩
 rw[ll]at hb2
 refine eh hb2 (fun e2=>?_) fun e2=>?_
 ·obtain⟨e,rfl⟩:∃e,es=[e]:=by
   match es,e2 with
   |[e],_=>exact⟨e,rfl⟩
   |[],e2=>exact absurd e2 (by simp)
   |_::_::_,e2=>simp at e2;lia
  refine⟨i,c,rfl,s.kind,?_⟩
  dsimp only[yw,dc,wC,wOp]
  exact ls.ixV (y:=kW e) rfl at0 ⟨av (by simp),aw.trm (k:=[.inr "entry",e]) s (.entry (en e (by simp))) hw (by simp[tC]at hn;lia) fun u g' h' k s' x cu=>.id (q u g' h' k s' x cu)⟩
 have h2:2<=es.length:=by lia
 refine AQ (fun r ws h'=>∃j:Nat,ws=[some (.clo i c),some x,some (.int ((2^j:Nat):Int))]/\h'=h/\2^j<es.length/\r=es.length- 2^j) ?_ ⟨0,rfl,rfl,by lia,rfl⟩
 rintro r ws h' K d d d ⟨j,rfl,rfl,hj,rfl⟩ kk
 have jp:=Wv j
 refine⟨Xh (by decide),ls.lenV rfl ?_⟩
 dsimp only
 rw[ll]
 refine Sel.dec (fun z=>⟨Xh (by decide),?_⟩) fun z=>?_
 ·refine kk _ _ _ ?_ ⟨j+1,?_,rfl,?_,rfl⟩
  ·rw[Xv];lia
  ·show[_,_,some (W.int (2*((2^j:Nat):Int)))]=_
   rw[show 2*((2^j:Nat):Int)=((2^(j+1):Nat):Int)by rw[Xv];lia]
  ·rw[Xv];lia
 have hh:ak es.length=2^j:=by
  have:=CK (a:=j) (c:=es.length- 2^j) (by lia) (by lia)
  rw[show 2^j+(es.length- 2^j)=es.length by lia]at this;exact this
 have tl:(es.take (2^j)).length=2^j:=by rw[VN];lia
 have dl:(es.drop (2^j)).length=es.length- 2^j:=Wo
 have td:=XG (2^j) es
 have c0:=tC1 (m:=es.length) (by lia)
 have c1:tC (es.take (2^j)).length+1=2*2^j:=by rw[tl];exact tC1 (by lia)
 have c2:tC (es.drop (2^j)).length+1+2*2^j=2*es.length:=by rw[dl];have:=tC1 (m:=es.length- 2^j) (by lia);lia
 cases f with
 |zero=>lia
 |succ f=>
  refine⟨i,c,rfl,s.kind,?_⟩
  dsimp only[yw,dc,wC,gS]
  refine yM rfl (ls.slTo rfl rfl ?_)
  rw[Ot (by rw[ll];lia),<-List.map_take]
  refine⟨b,w,g,n,i,c,_,es.take (2^j),rfl,.inl rfl,s,by lia,by lia,fun z=>by have:=hw z;lia,fun e he=>en e (Zq he),by lia,fun u1 g1 h1 k1 s1 x1 cu1=>yM rfl ((ls.kp k1).slFr rfl rfl ?_)⟩
  rw[Ja (by rw[ll];lia),<-List.map_drop]
  refine⟨b,w,g1,_,i,c,_,es.drop (2^j),rfl,.inl rfl,s1,by lia,by lia,fun z=>by have:=hw z;lia,fun e he=>en e (List.mem_of_mem_drop he),by lia,fun u2 g2 h2' k2 s2 x2 cu2=>⟨av (by simp),?_⟩⟩
  have tr:Trm w g2 es [.inr "joint",u1,u2]:=by
   have:=Trm.joint (s:=es.take (2^j)) (x:=es.drop (2^j)) (by rw[td,tl,hh]) (by rw[td];exact h2) (cu1.ex x2) cu2
   rw[td]at this;exact this
  exact aw.trm s2 tr hw (by lia) fun u g' h' k s' x cu=>.id (q u g' h' ((k1.trans k2).trans k) (s'.le (by lia)) ((x1.trans x2).trans x) cu))
def gj:FA T T.A2 76 rF:=okN T.A2.f Cw (Aj) (fun hr=>
 aj (ar (bf (ac (aF bV T.e9 VJ (ac (aa 1) (ae))) (ac (dj (cH T) hr.le (aa 0) (ac (bf (ac (c6) (ac (aF bV T.e9 VJ (ac (aa 1) (ae))) (ac (aB (mz T 70) hr.le T.M6 (ac (aa 0) (ac (aa 1) (ae)))) (ae))))) (ae))) (ae)))))) (by
 rintro l h Q X ⟨b,w,g,n,i,c,x,es,rfl,ls,s,hn,hl,hw,en,q⟩
 have ll:(Wt kW es).length=es.length:=Vy ..
 have tc:tC es.length<=67:=by unfold tC;split<;>lia
 dsimp only[Gd,yw,dc]
 refine ls.lenV rfl ⟨i,c,rfl,s.kind,?_⟩
 dsimp only[yw,dc,wC]
 refine ls.lenV rfl ?_
 rw[ll]
 refine⟨b,w,g,n,i,c,x,es,rfl,ls,s,by lia,hl,hw,en,VO hl (by decide),fun u g1 h1 k1 s1 x1 cu=>⟨av (by simp),?_⟩⟩
 exact aw.row s1 cu (by lia) hw (by lia) fun v g2 h2 k2 s2 x2 sm mk=>⟨av (by simp),.id (q v g2 h2 (k1.trans k2) (s2.le (by lia)) (x1.trans x2) sm mk)⟩)
def Dm:FA T T.ac8 1 vi:=okN T.ac8.f DL (CD) (fun hr=>
 aj (ar (aA de (aA bO (aA eF (aA de (aa 0) (b7)) (b7)) (aA eF (aA bO (aa 1) (b7)) (b7))) (b7)))) (by
 rintro l h Q X ⟨a,k,rfl,hk,q⟩
 refine⟨show(0:Int)<2147483647 by decide,Xn (by decide),Xn (by decide),show(0:Int)<2147483647 by decide,?_⟩
 generalize ((a%2147483647*48271+((k:Int)+1)*69621))=y
 obtain⟨r,e⟩:=qX (Ye y (show(2147483647:Int)≠0 by decide))
 have:=XE y (show(0:Int)<2147483647 by decide)
 exact .i e (q r (by lia)))
def Da:FA T T.ac9 1 mn:=okN T.ac9.f vm (Cm) (fun hr=>
 af (az 2 vm.nd (aA tL (b7) (aa 1))) (af (aK (aJ (bF hr.units150) (aA de (aa 0) (b7)) (b7)) (aj (ar (aA de (aA dI (aa 0) (b7)) (aa 2)))) (aG)) (af (aK (aJ (bF hr.units150) (aA de (aa 0) (b7)) (b7)) (aj (ar (aA de (aA eF (aA dI (aa 0) (b7)) (b7)) (aa 2)))) (aG)) (aj (ar (aA dq (aA dq (aa 2) (b7)) (aA de (aA dI (aa 0) (b7)) (aa 2)))))))) (by
 rintro l h Q X ⟨a,B,rfl,h1,h2,q⟩
 have pp:=IX B
 have md:∀y:Int,∃r:Nat,y%((2^B:Nat):Int)=r/\r<2^B:=fun y=>by
  obtain⟨r,e⟩:=qX (Ye y (show((2^B:Nat):Int)≠0 by lia))
  have:=XE y pp
  exact⟨r,e,by lia⟩
 refine⟨⟨by lia,by lia,by decide⟩,⟨show(0:Int)<3 by decide,.sc rfl,fun b hb=>?_⟩⟩
 dsimp only
 rw[xh]
 refine eh hb (fun e=>?_) fun e=>⟨show(0:Int)<3 by decide,.sc rfl,fun b2 hb2=>eh hb2 (fun e2=>?_) fun e2=>?_⟩
 ·obtain⟨r,e,hr⟩:=md (a/3)
  exact⟨⟨by decide,by decide⟩,pp,.i e (q r hr)⟩
 ·obtain⟨r,e,hr⟩:=md (a/3*982451653)
  exact⟨⟨by decide,by decide⟩,Xn (by decide),pp,.i e (q r hr)⟩
 ·obtain⟨r,e,hr⟩:=md (a/3)
  refine⟨trivial,⟨by decide,by decide⟩,pp,trivial,.i ?_ (q (2^B- 1- r) (by lia))⟩
  dsimp only
  rw[e];lia)
def xm:FA T T.M7 2 lU:=okN T.M7.f eY (vP) (fun hr=>
 af (az 4 eY.nd (aF (Cv rfl) T.ads aco (ac (aa 0) (ae)))) (af (az 5 eY.nd (aA de (aa 2) (b7))) (af (aK (z_w (jn (aJ (bF hr.units150) (aa 5) (b7)) (jX (aJ (bF hr.units150) (aa 4) (dz (ae)))))) (aj (ar (aB (Da T) hr.le T.ac9 (ac (aa 1) (ac (aa 3) (ae)))))) (aG)) (af (az 6 eY.nd (aP (ixW hr.units1) (aa 4) (aA de (aA dI (aa 2) (b7)) (aF bV T.e9 VJ (ac (aa 4) (ae)))))) (af (aK (aJ (bF hr.units150) (aa 5) (b7)) (aj (ar (aa 6))) (aG)) (aj (ar (aA Kt (aa 6) (aA tL (b7) (aA de (aA dI (aa 2) (b7)) (aa 3))))))))))) (by
 rintro l h Q X ⟨Kn,a,num,B,kn,rfl,hK,hl,hk,h1,h2,q⟩
 refine .inr ⟨Kn,knR kn,rfl,hK,by simpa[knR]using hl,fun ns pm pw=>?_⟩
 have mem:∀x∈ns,∃k:Nat,x=k/\k<2^B:=fun x hx=>by
  have:=(pm.mem_iff).mp hx
  obtain⟨p,hp,rfl⟩:=VL.mp this
  obtain⟨p0,hp0,rfl⟩:=VL.mp hp
  exact⟨p0.1,rfl,hk p0 hp0⟩
 have lay:Gd (gS mn (dc (bJ 1) (dc (bJ 3) (eS)))) (xE Q X) [some (.ref Kn),some (.int a),some (.int num),some (.int B),some (.fl (ns.map .int)),some (.int (num%3)),none] h:=⟨a,B,rfl,h1,h2,fun k hk=>.id (q k hk)⟩
 refine⟨show(0:Int)<3 by decide,.sc rfl,fun b hb=>eh hb (fun e=>Sel.t lay) fun e=>⟨av (by simp),.inl ⟨.deep ?_ (.fl .nil),fun b2 hb2=>?_⟩⟩⟩
 ·exact .fl (EK ns)
 ·refine NL hb2 (fun e=>lay) fun e=>?_
  have nl:0<ns.length:=by
   cases ns with
   |nil=>exact absurd rfl e
   |cons=>simp
  have il:0<((ns.map W.int).length:Int):=by simp;lia
  have i0:=Ye ((num:Int)/3) (show((ns.map W.int).length:Int)≠0 by lia)
  have i1:=XE ((num:Int)/3) il
  obtain⟨j,ej⟩:=qX i0
  have jl:j<ns.length:=by rw[ej]at i1;simp at i1;lia
  obtain⟨k,ek,hkk⟩:=mem ns[j] (XS _)
  refine⟨⟨show(0:Int)<3 by decide,by decide⟩,il,.int k,?_,.sc rfl,fun b3 hb3=>eh hb3 (fun e3=>.id (q k hkk)) fun e3=>?_⟩
  ·show atI (ns.map W.int) ((num:Int)/3%((ns.map W.int).length:Int))=_
   rw[ej];exact atN (by rw[VG,Dc jl,ek];rfl)
  ·have Bp:(0:Int)<(B:Int):=by lia
   obtain⟨y,ey⟩:=qX (Ye ((num:Int)/303) (show(B:Int)≠0 by lia))
   have yB:y<B:=by have:=XE ((num:Int)/303) Bp;lia
   refine⟨⟨show(0:Int)<303 by decide,by decide⟩,Bp,⟨by dsimp only;lia,by dsimp only;lia,by decide⟩,trivial,.i ?_ (q (k^^^2^y) ?_)⟩
   ·dsimp only
    rw[ey,xh,wu]
   ·exact Nat.xor_lt_two_pow hkk (Nat.pow_lt_pow_right (by decide) yB))
def Ah:FA T T.T7 1 qi:=okN T.T7.f AD (zc) (fun hr=>
 aj (ar (df (aF eG T.b8 Wf (ac (aa 0) (ac (fN T.b7 boot_int) (ae)))) (eu (Kj (aF eG T.b8 Wf (ac (aa 0) (ac (fN T.aev boot_bool) (ae))))))))) (by
 rintro l h Q X ⟨i,rfl,q⟩
 exact⟨by decide,"int",rfl,Sel.yes rfl ⟨by decide,"int",rfl,.id q⟩⟩)
def eZ:FA T T.l5 2 sR:=okN T.l5.f BN (Ao) (fun hr=>
 af (aK (z_w (jn (bp (bd (aF eG T.b8 Wf (ac (aa 0) (ac (fN T.X7 ZP) (ae)))))) (jn (aJ (oG hr.units150) (aF bV T.e9 VJ (ac (aa 0) (ae))) (b7)) (jX (bp (bd (aB (Ah T) hr.le T.T7 (ac (aP (ixW hr.units1) (aa 0) (b7)) (ae))))))))) (aj (ar (eK))) (aG)) (aj (ar (df (fH (bF hr.units150) (aF eG T.b8 Wf (ac (aP (ixW hr.units1) (aa 0) (b7)) (ac (fN T.c6 aan) (ae)))) (aF eG T.b8 Wf (ac (aP (ixW hr.units1) (aa 1) (b7)) (ac (fN T.c6 aan) (ae))))) (eu (fH (bF hr.units150) (aa 0) (aa 1))))))) (by
 rintro l h Q X ⟨c,m,rfl,ok,q⟩
 obtain⟨t,ht⟩:=tyK (h:=h) m
 refine⟨by decide,"tuple",rfl,Sel.no rfl ⟨.sc rfl,fun b hb=>Sel.no (by rw[hb.mpr rfl];rfl) ⟨_,at0,c,rfl,Sel.no rfl ?_⟩⟩⟩
 refine⟨_,bA (j:=1) rfl,by decide,t,ht,_,bA (j:=1) rfl,by decide,t,ht,.sc rfl,fun b hb=>Sel.yes (hb.mpr rfl) ⟨.deep (plH ok) (plH ok),fun b2 hb2=>.b (hb2.mpr rfl) q⟩⟩)
def gi:FB T T.B0 1 rg:=okN T.B0.f Ci (AE) (fun hr=>
 aj (ar (aF bV T.e9 VJ (ac (aC (aa 0)) (ae))))) (by
 rintro l h Q X ⟨i,c,L,D,es,rfl,hl,q⟩
 exact⟨_,rfl,.inl ⟨_,hl,.i (by simp) q⟩⟩)
def vt:FA T T.T8 3 vc:=okN T.T8.f Dq (Bt) (fun hr=>
 aj (ar (df (aB (mi T) hr.le T.M5 (ac (aa 0) (ae))) (df (aB (ef T) hr.le T.i7 (ac (aa 1) (ae))) (eu (jt fT fT (b7) (aa 1) (aa 0))))))) (by
 rintro l h Q X ⟨c,e,rfl,h1,h2,q⟩
 exact⟨c,rfl,h1,Sel.yes rfl ⟨_,"int",rfl,rfl,Sel.yes rfl (Sel.yes (decide_eq_true (by lia)) (.b (decide_eq_true (by lia)) q))⟩⟩)
def fB:FB T T.g0 4 iZ:=okN T.g0.f ui (rN) (fun hr=>
 aj (ar (df (aB (vt T) hr.le T.T8 (ac (aa 1) (ac (aa 2) (ae)))) (eu (fH fT (aa 1) (da (aa 0) (mwc (c:=25) T.b9 T.N7 (gi T) hr.le T.B0.b (mwn)))))))) (by
 rintro l h Q X ⟨i,c,L,D,es,cn,el,rfl,hl,h1,h2,h3,q⟩
 exact⟨cn,el,rfl,by lia,h2,Sel.yes rfl ⟨25,_,_,.inl rfl,cW,rfl,i,c,L,D,es,rfl,hl,.b (decide_eq_true (by lia)) q⟩⟩)
def oz:FA T T.act 1 Ed:=okN T.act.f Nh (II) (fun hr=>
 aj (ar (aA tL (b7) (aA dq (AM aaD aaf aae Kl (aA dq (aa 0) (b7))) (b7))))) (by
 rintro l h Q X ⟨m,rfl,h1,h2,q⟩
 have hl:Zp (m- 1)<60:=by
  have h1:=ach (n:=m- 1) (by lia)
  exact(Nat.pow_lt_pow_iff_right (by decide:1<2)).mp (by lia:2^Zp (m- 1)<2^60)
 have e:=GE h1
 refine⟨trivial,rfl,trivial,⟨by dsimp only;rw[e];lia,by dsimp only;rw[e];lia,by decide⟩,.i (by dsimp only;rw[e,xh];rfl) q⟩)
theorem cG:∀n:Nat,cy P w K mg base (CX1 P w) (5+n) A.q9 A.E7 ["self","first","many"] (lP K (gm A) (fi n))/\cy P w K mg base (CX1 P w) (5+n) A.i8 A.r9 ["self","first","many"] (lP K (gm A) (fR n))
 |0=>⟨lV yP,lV vZ⟩
 |f+1=>⟨okN T.c8.f mN (wG (f+1)) (fun(hr:aZ (5+f) _)=>
 af (az 3 mN.nd (bf (ac (aa 1) (ac (aa 2) (ae))))) (af (aK (aJ (Eg hr.units150) (aa 3) (aC (aa 0))) (aj (rp hr.units1 (aC (aa 0)) (aa 3) (DU (c:=25) (cH T) hr.le (aa 0) T.b9 T.N1 (ac (aN (aa 0) (mwc (c:=25) T.b9 T.adi (cG f).2 hr.le T.U5.b (mwn)) (ac (aa 1) (ac (aa 2) (ae)))) (ae))))) (aG)) (aj (ar (aP (ixW hr.units1) (aC (aa 0)) (aa 3)))))) (by
 rintro l h Q X ⟨b,w,g,n,i,c,L,D,es,kv,a,m,rfl,r,Lb,Db,s,hn,hm,hf,q⟩
 have tc:1<=tC m:=by unfold tC;split<;>lia
 refine⟨av (by simp),_,rfl,.inl ⟨_,.t (k:=pt a m) r.hd,?_⟩⟩
 rw[lc]
 cases e:lk kv (pt a m)with
 |some v=>
  refine Sel.no rfl ⟨_,rfl,.inr ⟨kW v,by have:=DW.t (k:=pt a m) r.hd;rw[lc,e]at this;exact this,?_⟩⟩
  obtain⟨a',m',e1,e2,e3,e4⟩:=r.ca _ _ e
  obtain⟨rfl,rfl⟩:=QU e1
  exact .id (q v kv g h Kx.rfl' (r.mv Ex.rfl' (by lia) rfl rfl) (s.le (by lia)) Ex.rfl' e3 e4)
 |none=>
  refine Sel.yes rfl ⟨_,i,c,.inl rfl,rfl,s.kind,25,_,_,.inl rfl,cW,rfl,b,w,g,n,i,c,L,D,es,kv,a,m,rfl,r,Lb,Db,s,by lia,hm,by lia,fun k kv' g' h' k1 r1 s1 x1 ok hz hk=>?_⟩
  have hm34:=r.le
  have lw:=r.lw
  refine aw.call (k:=k) s1 ok (by lia) (fun z=>by have z1:=hz z;have z2:=lw z;unfold szR at z1;split at z1<;>lia) fun v g2 h2 kp s2 x2 e2 o z=>?_
  have r2:dy w g2 (n+tC m) h2 L D es kv':=r1.mv x2 (by lia) (kp L Lb) (kp D Db)
  have e0:n+(tC m- 1)+1=n+tC m:=by lia
  rw[e0]at s2
  have sd:Sd g2 v ((es.drop a).take m):=fun hh ex=>by rw[<-hk hh (ex.of x2)];exact(ex _ _ e2).symm
  have sm:Sml w (szR m) v:=⟨o,fun y=>by have:=z y;have:=hz y;lia⟩
  have kn:kv'.length+1<=n+tC m:=by have:=r1.kl;lia
  have ll:(tb kv').length<sizeLine:=by rw[VE,show(tb kv').length=kv'.length by simp[tb]];unfold big at hn;lia
  obtain⟨kv2,p1,p2,p3⟩:=Qj kv' (pt a m) v
  refine⟨_,rfl,_,.d (.t (k:=pt a m) r2.hd ll),_,rfl,.inr ⟨kW v,?_,.id ?_⟩⟩
  ·rw[p1];exact SQ ao (by rw[p3,if_pos rfl])
  ·rw[p1]
   refine q v kv2 g2 _ ((k1.trans (kp.x (by simp))).trans (Kx.up (by simp))) ⟨(ag r.ne).trans r2.hl,ao,fun j u ej=>?_,r2.en,r2.le,r2.lw,by lia,r2.ne⟩ (s2.am (ag (ab Db))) (x1.trans x2) sm sd
   rw[p3]at ej
   split at ej
   ·rename_i ej2;obtain rfl:=VR ej;exact⟨a,m,ej2,hm,sm,sd⟩
   ·exact r2.ca _ _ ej),
okN T.U5.f jV (uo (f+1)) (fun(hr:aZ (5+f) _)=>
 af (aK (aJ (bF hr.units150) (aa 2) (b7)) (aj (ar (bf (ac (c6) (ae))))) (aG)) (af (aK (aJ (bF hr.units150) (aa 2) (b7)) (aj (ar (bf (ac (c6) (ac (aP (ixW hr.units1) (aC (aa 0)) (aa 1)) (ae)))))) (aG)) (af (az 3 jV.nd (aB (oz T) hr.le T.act (ac (aa 2) (ae)))) (aj (ar (bf (ac (c6) (ac (aN (aa 0) (mwc (c:=25) T.b9 T.d5 (cG f).1 hr.le T.c8.b (mwn)) (ac (aa 1) (ac (aa 3) (ae)))) (ac (aN (aa 0) (mwc (c:=25) T.b9 T.d5 (cG f).1 hr.le T.c8.b (mwn)) (ac (aA bO (aa 1) (aa 3)) (ac (aA dq (aa 2) (aa 3)) (ae)))) (ae)))))))))) (by
 rintro l h Q X ⟨b,w,g,n,i,c,L,D,es,kv,a,m,rfl,r,Lb,Db,s,hn,hm,hf,q⟩
 refine⟨.sc rfl,fun bb hb=>eh hb (fun e=>?_) fun e=>?_⟩
 ·have e:m=0:=by lia
  subst e
  exact⟨av (by simp),.id (q [.inr "void"] kv g h Kx.rfl' (r.mv Ex.rfl' (by lia) rfl rfl) (s.le (by lia)) Ex.rfl' Fa (fun _=>by rw[AS];decide) fun hh _=>by rw[List.take_zero];rfl)⟩
 refine⟨.sc rfl,fun bb hb=>eh hb (fun e1=>?_) fun e1=>?_⟩
 ·have e:m=1:=by lia
  subst e
  have he:es[a]?=some es[a]:=Dc (by lia)
  have em:=r.en es[a] (XS _)
  refine⟨_,rfl,.inl ⟨_,_,kW es[a],rfl,r.hl,atN (by rw[VG,he];rfl),av (by simp),.id (q [.inr "entry",es[a]] kv g h Kx.rfl' (r.mv Ex.rfl' (by lia) rfl rfl) (s.le (by lia)) Ex.rfl' (GR em.1) (fun z=>by rw[Ii];have:=em.2 z;show _<=6758*1- 129;lia) fun hh _=>by rw[Lv he];rfl)⟩⟩
 have h2:2<=m:=by lia
 have hm34:=r.le
 obtain⟨g1,g2⟩:=cJ h2
 have c0:=tC1 (m:=m) (by lia)
 have c1:=tC1 (m:=ak m) (by lia)
 have c2:tC (m- ak m)+1+2*ak m=2*m:=by have:=tC1 (m:=m- ak m) (by lia);lia
 have z0:=Jo (m:=m) (by lia)
 have z1:=Jo (m:=ak m) (by lia)
 have z2:szR (m- ak m)+129+6758*ak m=6758*m:=by have:=Jo (m:=m- ak m) (by lia);lia
 refine⟨m,rfl,h2,by lia,25,_,_,.inl rfl,cW,rfl,b,w,g,n,i,c,L,D,es,kv,a,ak m,rfl,r,Lb,Db,s,by lia,by lia,by lia,fun v1 kv1 g1' h1 k1 r1 s1 x1 m1 d1=>?_⟩
 refine⟨25,_,_,.inl rfl,cW,rfl,trivial,b,w,g1',_,i,c,L,D,es,kv1,a+ak m,m- ak m,by dsimp only;rw[pA,pf (by lia)],r1,Lb,Db,s1,by lia,by lia,by lia,fun v2 kv2 g2' h2' k2 r2 s2 x2 m2 d2=>?_⟩
 refine⟨av (by simp),.id (q [.inr "joint",v1,v2] kv2 g2' h2' (k1.trans k2) (r2.mv Ex.rfl' (by lia) rfl rfl) (s2.le (by lia)) (x1.trans x2) (Gv m1.1 m2.1) (fun z=>?_) fun hh ex=>?_)⟩
 ·rw[Hd];have:=m1.2 z;have:=m2.2 z;lia
 ·rw[Mj h2 hm,<-d1 hh (ex.of x2),<-d2 hh ex])⟩
def wF:FB T T.M8 146 lC:=okN T.M8.f xq (wg) (fun hr=>
 af (aK (bp (bd (aN (aa 0) (mwc (c:=25) T.b9 T.E5 (fB T) hr.le T.g0.b (mwn)) (ac (da (aa 0) (mwc (c:=25) T.b9 T.N7 (gi T) hr.le T.B0.b (mwn))) (ac (aa 1) (ae)))))) (aj (cz)) (aG)) (aj (ar (DU (c:=25) (cH T) hr.le (aa 0) T.b9 T.N1 (ac (bf (ac (c6) (ac (aa 1) (ac (aN (aa 0) (mwc (c:=25) T.b9 T.d5 (cG T 70).1 hr.le T.c8.b (mwn)) (ac (b7) (ac (aa 1) (ae)))) (ae))))) (ae)))))) (by
 rintro l h Q X ⟨b,w,g,n,i,c,L,D,es,kv,m,rfl,r,Lb,Db,s,hn,hm,q⟩
 have le:=r.le
 have lw:=r.lw
 have tc:tC m<=67:=by unfold tC;split<;>lia
 refine⟨25,_,_,.inl rfl,cW,rfl,25,_,_,.inl rfl,cW,rfl,i,c,L,D,es,rfl,r.hl,i,c,L,D,es,es.length,m,rfl,r.hl,sn _,hm,by lia,Sel.no rfl ?_⟩
 refine⟨_,i,c,.inl rfl,rfl,s.kind,25,_,_,.inl rfl,cW,rfl,b,w,g,n,i,c,L,D,es,kv,0,m,rfl,r,Lb,Db,s,by lia,by lia,by lia,fun v kv' g' h' k1 r1 s1 x1 sm sd=>⟨av (by simp),?_⟩⟩
 have zz:w=true->szR m<=81096:=fun z=>by have:=lw z;exact VO (CJ (k:=12) (by lia) (by lia)) (by lia)
 refine aw.call (k:=rwK m v) s1 (OK (by lia) sm.1) (by lia) (fun z=>by rw[IL];have:=sm.2 z;have:=zz z;lia) fun v2 g2 h2 kp s2 x2 e2 o z=>?_
 refine .id (q v2 kv' g2 h2 (k1.trans (kp.x (by simp))) (r1.mv x2 (by lia) (kp L Lb) (kp D Db)) (s2.le (by lia)) (x1.trans x2) ⟨o,fun y=>by have:=z y;rw[IL]at this;have:=sm.2 y;have:=zz y;lia⟩ fun hh ex=>?_)
 have l1:(es.take m).length=m:=by rw[VN];lia
 have:=sd hh (ex.of x2)
 rw[List.drop_zero]at this
 rw[l1,<-this];exact(ex _ _ e2).symm)
def eR:FB T T.d8 147 jP:=okN T.d8.f jQ (uu) (fun hr=>
 af (az 1 jQ.nd (da (aC (aa 0)) (mwc (c:=25) T.b9 T.N7 (gi T) hr.le T.B0.b (mwn)))) (aj (ar (bf (ac (aa 1) (ac (aN (aC (aa 0)) (mwc (c:=25) T.b9 T.adx (wF T) hr.le T.M8.b (mwn)) (ac (aa 1) (ae))) (ae))))))) (by
 rintro l h Q X ⟨w,g,n,b,i,c,B,T,L,D,M,SD,t,es,rfl,a,hn,q⟩
 obtain⟨n1,n2,n3,n4,n5,n6,n7,n8,n9,n10⟩:=a.ne
 obtain⟨kv,r⟩:=a.rw
 refine⟨_,rfl,25,_,_,.inl rfl,cW,rfl,i,c,L,D,es,rfl,r.hl,_,rfl,25,_,_,.inl rfl,cW,rfl,b,w,g,n,i,c,L,D,es,kv,es.length,rfl,r,n2,n3,a.st,hn,sn _,fun u kv' g' h' k r' s' x sm mk=>⟨av (by simp),.id ?_⟩⟩
 rw[Xi (sn _)]at mk
 exact q u g' h' k (a.op k r' s' x) x sm mk)
theorem gQ:∀n:Nat,FA T T.E3 (5+n) (mm n)
 |0=>lV Du
 |f+1=>okN T.E3.f dh (BO (f+1)) (fun(hr:aZ (5+f) _)=>
 af (aK (aJ (bF hr.units150) (aF bV T.e9 VJ (ac (aa 2) (ae))) (b7)) (aj (ar (dj (cH T) hr.le (aa 0) (ac (bf (ac (c6) (ae))) (ae))))) (aG)) (af (aK (aJ (bF hr.units150) (aF bV T.e9 VJ (ac (aa 2) (ae))) (b7)) (aj (ar (dj (cH T) hr.le (aa 0) (ac (bf (ac (c6) (ac (aP (ixW hr.units1) (aP (ixW hr.units1) (aa 2) (b7)) (b7)) (ac (aP (ixW hr.units1) (aP (ixW hr.units1) (aa 2) (b7)) (b7)) (ae))))) (ae))))) (aG)) (af (az 3 dh.nd (aA dI (aA tL (b7) (aa 1)) (b7))) (af (az 4 dh.nd (b7)) (af (tu (aJ (bF hr.units150) (aA dI (aP (ixW hr.units1) (aP (ixW hr.units1) (aa 2) (b7)) (b7)) (aa 3)) (aA dI (aP (ixW hr.units1) (aP (ixW hr.units1) (aa 2) (fM (b7))) (b7)) (aa 3))) (af (az 3 dh.nd (aA dI (aa 3) (b7))) (aj (az 4 dh.nd (aA bO (aa 4) (b7))))) Wb) (af (az 5 dh.nd (aA dI (aP (ixW hr.units1) (aP (ixW hr.units1) (aa 2) (b7)) (b7)) (aA eF (b7) (aa 3)))) (af (az 6 dh.nd (aA eF (aA bO (aA eF (b7) (aa 5)) (b7)) (aa 3))) (af (az 7 dh.nd (aB (gQ f) hr.le T.E3 (ac (aa 0) (ac (aa 1) (ac (nJ (ys:=["_law_middle"]) (is:=[6]) (by exact⟨rfl,by decide+kernel,by decide+kernel,rfl,by decide+kernel,by decide+kernel⟩) (by exact .cons rfl (by first|exact .inl rfl|exact .inr rfl) rfl (.nil)) (fJ (aa 2)) (Ku fun C s H fp=>aJ mj (aP (ixW hr.units1) (aa 0) (b7)) (aa 1)) (fun C s H fp=>aa 0)) (ae)))))) (af (az 8 dh.nd (aB (gQ f) hr.le T.E3 (ac (aa 0) (ac (aa 1) (ac (nJ (ys:=["_law_middle"]) (is:=[6]) (by exact⟨rfl,by decide+kernel,by decide+kernel,rfl,by decide+kernel,by decide+kernel⟩) (by exact .cons rfl (by first|exact .inl rfl|exact .inr rfl) rfl (.nil)) (fJ (aa 2)) (Ku fun C s H fp=>aJ UB (aP (ixW hr.units1) (aa 0) (b7)) (aa 1)) (fun C s H fp=>aa 0)) (ae)))))) (aj (ar (dj (cH T) hr.le (aa 0) (ac (bf (ac (c6) (ac (aa 4) (ac (aa 5) (ac (aa 7) (ac (aa 8) (ae))))))) (ae)))))))))))))) (by
 rintro l h Q X ⟨b,w,g,n,i,c,B,t,v,m,rfl,s,hn,B1,B60,kn,hz,wf,q⟩
 cases kn with
 |bare e sm=>
  refine⟨.sc rfl,fun b1 hb1=>Sel.yes (hb1.mpr rfl) ⟨i,c,rfl,s.kind,av (by simp),?_⟩⟩
  exact aw.call (k:=gU) s Kc (by have:iF .bare=1:=rfl;lia) (fun a=>by rw[Fs];decide) fun v g' h' k s' x gv a a=>.id (JZ e x gv▸q g' h' k s' x)
 | @leaf kk z _ e hk ht sm=>
   refine⟨.sc rfl,fun b1 hb1=>Sel.no (tz hb1 (by simp[aW])) ⟨.sc rfl,fun b2 hb2=>Sel.yes (hb2.mpr rfl) ⟨i,c,rfl,s.kind,_,at0,_,at0,_,at0,_,bA (j:=1) rfl,av (by simp),?_⟩⟩⟩
   exact aw.call (k:=jj kk z) s (Kw hk ht) (by have:iF (.leaf kk z)=1:=rfl;lia) (fun a=>by rw[FP];have:=ht.2;lia) fun v g' h' k s' x gv a a=>.id (JZ e x gv▸q g' h' k s' x)
 | @fork d e wl wr tl tr ml mr _ kl kr em hd60 he60 sm=>
   obtain⟨d0,b0,hd0,wf,hf⟩:=wf.resolve_left nofun
   obtain⟨hd1,hd,a,wfl,wfr⟩:=id wf
   have e0:szN (.fork d e tl tr)=252+szN tl+szN tr:=rfl
   have c0:iF (.fork d e tl tr)=iF tl+iF tr+1:=rfl
   have er:aW (.fork d e tl tr)=aW tl++aW tr:=rfl
   obtain⟨r0,rl,hrl⟩:∃r0 rl,aW tl=r0::rl:=by
    obtain⟨p,hp⟩:=WF.ne (B:=B) (b0:=0) (d0:=0) wfl
    cases er:aW tl with
    |nil=>rw[er]at hp;cases hp
    |cons r0 rl=>exact⟨r0,rl,rfl⟩
   obtain⟨rr,r1,hrr⟩:∃rr r1,aW tr=rr++[r1]:=by
    obtain⟨p,hp⟩:=WF.ne (B:=B) (b0:=0) (d0:=0) wfr
    rcases aba (aW tr)with er|⟨rr,r1,er⟩
    ·rw[er]at hp;cases hp
    ·exact⟨rr,r1,by rw[er,abb]⟩
   have m0:r0.1/2^(B- (d+1))=2*e:=(wfl.mem hd r0 (by rw[hrl];exact cW)).2
   have m1:r1.1/2^(B- (d+1))=2*e+1:=(wfr.mem hd r1 (by rw[hrr];simp)).2
   have s0:st B r0.1 d=e:=(WF.left wf r0 (by rw[hrl];exact cW)).1
   have s1:st B r1.1 d=e:=(WF.right wf r1 (by rw[hrr];simp)).1
   have al:(Wt rwW (aW (.fork d e tl tr))).length=(aW tl).length+(aW tr).length:=by rw[er];simp
   have l1:1<=(aW tl).length:=by rw[hrl];simp
   have l2:1<=(aW tr).length:=by rw[hrr];simp
   have a0:atI (Wt rwW (aW (.fork d e tl tr))) 0=some (rwW r0):=by rw[er,hrl];exact at0
   have a1:atI (Wt rwW (aW (.fork d e tl tr))) (-1)=some (rwW r1):=by rw[er,hrr,<-Wr,Zk];exact dG
   have lp2:(aW tl).length+(aW tr).length<=97000:=by have:=gL tl;have:=gL tr;lia
   generalize eL:Wt rwW (aW (.fork d e tl tr))=rs at a0 a1 al⊢
   refine⟨.sc rfl,fun b1 hb1=>Sel.no (tz hb1 (by intro z;injection z with z;lia)) ⟨.sc rfl,fun b2 hb2=>Sel.no (tz hb2 (by intro z;injection z with z;lia)) ⟨⟨by lia,by lia,by decide⟩,⟨show(0:Int)<2 by decide,by decide⟩,?_⟩⟩⟩
   have e2:(1:Int)*2^(B:Int).toNat/2=((2^(B- (0+1)):Nat):Int):=by
    have h2:2^B=2^(B- (0+1))*2:=by rw[<-Xv];congr 1;lia
    rw[xh,h2];lia
   refine AQ (fun r ws h'=>∃j:Nat,j<=d/\r=d- j/\h'=h/\ws=[some (.clo i c),some (.int (B:Nat)),some (.fl rs),some (.int ((2^(B- (j+1)):Nat):Int)),some (.int (j:Int)),none,none,none,none]) ?_ ⟨0,VW _,rfl,rfl,by rw[<-e2];rfl⟩
   rintro r ws h' K a a a ⟨j,hj,rfl,rfl,rfl⟩ kk
   have rb:=MG (c:=j) B60
   refine⟨_,a0,_,at0,⟨rb.1,by lia⟩,_,a1,_,at0,⟨rb.1,by lia⟩,.sc rfl,fun b3 hb3=>?_⟩
   dsimp only at hb3
   rw[vM,vM]at hb3
   by_cases hjd:j<d
   ·have es:r0.1/2^(B- (j+1))=r1.1/2^(B- (j+1)):=vK (show j+1<=d by lia) (by lia) (by rw[s0,s1])
    refine Sel.yes (hb3.mpr (by rw[es])) ⟨⟨show(0:Int)<2 by decide,by decide⟩,kk (d- (j+1)) _ _ (by lia) ⟨j+1,hjd,rfl,rfl,?_⟩⟩
    rw[<-Tn (by lia)];rfl
   ·have ejd:j=d:=by lia
    subst ejd
    refine Sel.no (tz hb3 (by rw[m0,m1];intro z;injection z with z;lia)) ?_
    have hd2:(2:Int)*((2^(B- (j+1)):Nat):Int)=((2^(B- j):Nat):Int):=by
     have h2:2^(B- j)=2^(B- (j+1))*2:=by rw[<-Xv];congr 1;lia
     rw[h2];lia
    refine⟨_,a0,_,at0,Xh (by decide),⟨by lia,by lia⟩,?_⟩
    dsimp only
    rw[hd2,vM,show r0.1/2^(B- j)=e from s0]
    have em2:(2*(e:Int)+1)*((2^(B- (j+1)):Nat):Int)=(((2*e+1)*2^(B- (j+1)):Nat):Int):=by rw[Int.natCast_mul];rfl
    refine⟨Xh (by decide),Xn (Pq (by lia)),?_⟩
    dsimp only
    rw[em2]
    have sl:=Pj wfl hd
    have sr:=PQ wfr hd
    generalize (2*e+1)*2^(B- (j+1))=M at sl sr
    have fl:rs.filter (ltW (M:Int))=Wt rwW (aW tl):=by
     rw[<-eL,er,zQ,abI,yk fun p hp=>show ltW (M:Int) (rwW p)=true from decide_eq_true (by have:=sl p hp;lia),zT fun p hp=>show ltW (M:Int) (rwW p)=false from decide_eq_false (by have:=sr p hp;lia),Wc]
    have fr:rs.filter (geW (M:Int))=Wt rwW (aW tr):=by
     rw[<-eL,er,zQ,abI,zT fun p hp=>show geW (M:Int) (rwW p)=false from decide_eq_false (by have:=sl p hp;lia),yk fun p hp=>show geW (M:Int) (rwW p)=true from decide_eq_true (by have:=sr p hp;lia),List.nil_append]
    have me:∀x∈rs,∃r,x=rwW r:=fun x hx=>by rw[<-eL]at hx;obtain⟨r,a,rfl⟩:=VL.mp hx;exact⟨r,rfl⟩
    have rl:rs.length<=sizeLine:=av (by lia)
    cases f with
    |zero=>lia
    |succ f=>
     dsimp only[Cq,JV,gS,dc]
     refine yM rfl (yM rfl (xX (P:=ltW (M:Int)) (fun Qi q=>q) rl (fun x hx h Q q=>by obtain⟨r,rfl⟩:=me x hx;exact⟨_,at0,q⟩) ?_))
     rw[fl]
     refine⟨b,w,g,n,i,c,B,tl,wl,ml,rfl,s,by lia,B1,B60,kl,by lia,.inr ⟨j+1,2*e,hd,wfl,by lia⟩,fun g1 h1 k1 st1 x1=>?_⟩
     dsimp only[Cq,JV,gS,dc]
     refine yM rfl (yM rfl (xX (P:=geW (M:Int)) (fun Qi q=>q) rl (fun x hx h Q q=>by obtain⟨r,rfl⟩:=me x hx;exact⟨_,at0,q⟩) ?_))
     rw[fr]
     refine⟨b,w,g1,_,i,c,B,tr,wr,mr,rfl,st1,by lia,B1,B60,kr.ex x1,by lia,.inr ⟨j+1,2*e+1,hd,wfr,by lia⟩,fun g2 h2 k2 st2 x2=>⟨i,c,rfl,st2.kind,av (by simp),?_⟩⟩
     exact aw.call (k:=gZ j e ml mr) st2 (KY hd60 he60 kl.sml.1 kr.sml.1) (by lia) (fun z=>by rw[FL];have:=kl.sml.2 z;have:=kr.sml.2 z;lia) fun v g' h' k s' x gv a a=>.id (JZ em ((x1.trans x2).trans x) gv▸q g' h' ((k1.trans k2).trans k) (s'.le (by lia)) ((x1.trans x2).trans x)))
def Ds:FB T T.acV 3 vj:=okN T.acV.f DA (Br) (fun hr=>
 af (aK (bp (bd (aB (fE T) hr.le T.y9 (ac (aa 1) (ae))))) (aj (cz)) (aG)) (af (bi (dQ VC Vw Vx eV (aC (aa 0)) (ac (aa 1) (ae)))) (aj (ar (aA dq (aF bV T.e9 VJ (ac (aC (aa 0)) (ae))) (b7)))))) (by
 rintro l h Q X ⟨i,c,L,D,es,e,rfl,ok,hl,h1,q⟩
 obtain⟨t,ht⟩:=tyK (h:=h) e
 refine⟨_,t,rfl,ht,Sel.no (by rw[stK ok];rfl) ⟨_,rfl,?_,L,_,_,rfl,rfl,hl,by rw[VE];simp;lia,_,rfl,.inl ⟨_,ao,trivial,?_⟩⟩⟩
 ·exact .inl ⟨rfl,_,hl⟩
 ·have e:(ksO (es++[e]))=.lst (es.map kW++[kW e]):=by simp[ksO]
  rw[e]at q
  exact .i (by simp) q)
def zu:FB T T.P8 1 mL:=okN T.P8.f zj (xO) (fun hr=>
 aj (ar (aC (aC (aa 0))))) (by
 rintro l h Q X ⟨T,w,g,i,c,B,v,t,m,rfl,hT,kv,q⟩
 obtain⟨cl,fs,rfl,e⟩:=kv.fmark
 exact⟨24,_,_,hT,rfl,_,e,.id q⟩)
def nO:FB T T.G0 11 mG:=okN T.G0.f nE (wK) (fun hr=>
 af (az 1 nE.nd (dH 24 T.aeg T.C7 (ia T) hr.le T.aeb T.j6.b (ac (aC (aa 0)) (ac (aC (aa 0)) (ae))))) (af (bx (aa 1) (aC (aa 0)) T.nl_top) (aj (ar (aa 1))))) (by
 rintro l h Q X ⟨T,b,w,g,n,i,c,B,v,rfl,hT,tb,s,hn,hB,hB2,q⟩
 refine⟨24,_,_,hT,rfl,24,_,_,hT,rfl,fun p hp=>?_⟩
 have pb:=s.ne hp
 have pT:T≠p:=fun e=>by rw[<-e,hT]at hp;injection hp
 refine⟨p,b,w,g,n,i,c,B,rfl,ao,pb,s.am (ag (ab pb)),hn,hB,hB2,fun v0 m0 g' h' k s' x kn=>⟨rfl,.id ?_⟩⟩
 refine⟨24,_,_,(ag pT).trans ((k T tb).trans ((ag pT).trans hT)),rfl,p,24,_,rfl,ao,by simp,by simp[tbF],?_⟩
 show Fz Q (.ref p) (up (up h' p _) p (.ins 24 (tbF i c B v)))
 rw[dU]
 rcases q g' (cut h' p) (Oz hp k) (s'.am (bz (ab pb))) x with q|q
 ·exact Fu q
 ·rw[<-HV];exact .id (q p cx))
def nk:FB T T.G1 148 nN:=okN T.G1.f mQ (xf) (fun hr=>
 af (bi (aN (aC (aa 0)) (mwc (c:=25) T.b9 T.aep (Ds T) hr.le T.acV.b (mwn)) (ac (da (aC (aa 0)) (mwc (c:=24) T.C7 T.adC (zu T) hr.le T.P8.b (mwn))) (ae)))) (af (bi (dQ VC Vw Vx eV (aC (aa 0)) (ac (da (aC (aa 0)) (mwc (c:=24) T.C7 T.Y0 (nO T) hr.le T.G0.b (mwn))) (ae)))) (af (az 1 mQ.nd (da (aa 0) (mwc (c:=30) T.d4 T.y7 (eR T) hr.le T.d8.b (mwn)))) (af (bi (aN (aC (aa 0)) (mwc (c:=27) T.X2 T.X9 (mV T) hr.le T.F9.b (mwn)) (ac (aa 1) (ae)))) (aj (ar (aa 1))))))) (by
 rintro l h Q X ⟨w,g,n,b,i,c,B,T,L,D,M,SD,t,es,sv,rfl,a,hn,l1,l2,wz,nS,hS,sl,q⟩
 obtain⟨n1,n2,n3,n4,n5,n6,n7,n8,n9,n10⟩:=a.ne
 simp only[tx,If,or_false,not_or]at nS
 obtain⟨s1,s2,s3,s4,s5⟩:=nS
 obtain⟨v,m,e,kn⟩:=a.tb
 obtain⟨kv,r⟩:=a.rw
 obtain⟨ms,hM,lm⟩:=a.ml
 have km:=kn.sml
 have rS:Sml w 6500 m:=⟨km.1,fun z=>VO (km.2 z) (wz z)⟩
 have eT:up h L (ksO (es++[m])) T=some (.ins 24 (tbF i c B v)):=(ag (ab n5)).trans e
 refine⟨_,rfl,25,_,_,.inl rfl,cW,rfl,_,rfl,24,_,_,.inr ⟨T,rfl,e⟩,cW,rfl,T,w,g,i,c,B,v,t,m,rfl,e,kn,i,c,L,D,es,m,rfl,km.1,r.hl,by lia,?_⟩
 have hM1:up h L (ksO (es++[m])) M=some (.lst ms):=(ag n9).trans hM
 refine⟨_,rfl,.inl ⟨rfl,_,hM1⟩,_,rfl,24,_,_,.inr ⟨T,rfl,eT⟩,cW,rfl,T,b,w,g,n,i,c,B,v,rfl,eT,n1,a.st.am (ag (ab n2)),by lia,a.b1,a.b2,fun g' h' k s' x=>.inl ?_⟩
 have hM2:h' M=some (.lst ms):=(k M n4).trans hM1
 refine⟨M,_,_,rfl,rfl,hM2,by rw[VE];have:=r.le;lia,?_⟩
 have a1:bn w g' (n+1) (up h' M (.lst (ms++[.obj 24 (tbF i c B v)]))) b i c B T L D M t (es++[m]):=by
  refine⟨⟨v,m,(ag (ab n7)).trans ((k T n1).trans eT),kn.ex x⟩,a.tr,a.b1,a.b2,a.sz,⟨kv,?_⟩,⟨_,ao,by simp;exact lm⟩,s'.am (ag (ab n4)),a.nd⟩
  exact(r.add rS l1 l2).mv x (by lia) ((ag (ab n9)).trans (k L n2)) ((ag (ab n10)).trans (k D n3))
 refine⟨30,_,_,.inl rfl,cW,rfl,w,g',n+1,b,i,c,B,T,L,D,M,SD,t,es++[m],rfl,a1,by lia,fun u g2 h2 k2 a2 x2 sm mk=>?_⟩
 have el:(es++[m]).length=es.length+1:=by simp
 rw[el]
 have hS2:h2 SD=some (.dT sv):=(k2 SD (by simp[s1,s4])).trans ((ag s5).trans ((k SD s1).trans ((ag s3).trans hS)))
 refine⟨_,rfl,27,_,_,.inl rfl,cW,rfl,SD,es.length+1,u,sv,rfl,by lia,sm.1,hS2,sl,.id ?_⟩
 refine q m u g2 _ ?_ ?_ (x.trans x2) (fun hh ex=>kn.mark (ex.of (x.trans x2))) sm mk ao
 ·refine((((Kx.up (a:=L) (by simp)).trans (k.x (by simp))).trans (Kx.up (a:=M) (by simp))).trans (k2.le (by simp))).trans (Kx.up (by simp))
 ·obtain⟨v2,m2,e2,kn2⟩:=a2.tb
  obtain⟨kv2,r2⟩:=a2.rw
  obtain⟨ms2,hM3,lm3⟩:=a2.ml
  exact⟨⟨v2,m2,(ag (ab s2)).trans e2,kn2⟩,a2.tr,a2.b1,a2.b2,a2.sz,⟨kv2,r2.mv Ex.rfl' (by lia) (ag (ab s3)) (ag (ab s4))⟩,⟨ms2,(ag (ab s5)).trans hM3,lm3⟩,(a2.st.le (by lia)).am (ag (ab s1)),a2.nd⟩)
def Ik:FA T T.adq 2 zX:=okN T.adq.f Iy (Ge) (fun hr=>
 aj (ar (df (aB (ef T) hr.le T.i7 (ac (aa 1) (ae))) (eu (jt fT mj (b7) (aa 1) (aA tL (b7) (aa 0))))))) (by
 rintro l h Q X ⟨b,k,rfl,h1,hk,q⟩
 exact⟨_,"int",rfl,rfl,Sel.yes rfl (Sel.yes (decide_eq_true (by lia)) ⟨⟨by lia,by lia,by decide⟩,.b (decide_eq_true (by dsimp only;rw[xh];lia)) q⟩)⟩)
def oC:FB T T.G2 1 dD:=okN T.G2.f yF (ya) (fun hr=>
 aj (ar (wW))) (by
 rintro l h Q X ⟨v,x,y,rfl,q⟩;exact .id q)
def mD:FB T T.G3 1 dE:=okN T.G3.f yN (xp) (fun hr=>
 aj (ar (mq (aJ (bF hr.units150) (aa 2) (aC (aa 0))) (aC (aa 0)) (wW)))) (by
 rintro l h Q X ⟨x,key,k,t,m,rfl,q⟩
 refine⟨_,rfl,.sc rfl,fun b hb=>eh hb (fun e=>⟨_,rfl,?_⟩) fun e=>?_⟩
 ·rw[if_pos (xg e)]at q;exact .id q
 ·rw[if_neg (BC e)]at q;exact .id q)
def tO:FA T T.adf 1 EO:=okN T.adf.f Nt (JF) (fun hr=>
 aj (ar (aA OI (aA KM (aa 1) (aA dq (aA dq (aa 0) (aa 2)) (b7))) (b7)))) (by
 rintro l h Q X ⟨b,k,d,rfl,h1,q⟩
 refine⟨trivial,trivial,by dsimp only;lia,trivial,.i ?_ q⟩
 dsimp only
 have e:((b:Int)- d- 1).toNat=b- 1- d:=by lia
 rw[e,<-FI]
 have:((k:Int)/((2^(b- 1- d):Nat):Int))=((k/2^(b- 1- d):Nat):Int):=by lia
 rw[this,FG])
def gk:FB T T.l6 2 lp:=okN T.l6.f yf (vz) (fun hr=>
 aj (ar (mq (aJ (bF hr.units150) (aB (tO T) hr.le T.adf (ac (aa 1) (ac (aa 2) (ac (aC (aa 0)) (ae))))) (b7)) (aC (aa 0)) (aC (aa 0))))) (by
 rintro l h Q X ⟨d,be,B,key,wl,wr,ml,mr,m,rfl,hd,q⟩
 refine⟨_,rfl,B,key,d,rfl,hd,.sc rfl,fun b hb=>eh hb (fun e=>⟨_,rfl,?_⟩) fun e=>⟨_,rfl,?_⟩⟩
 ·rw[if_pos (by lia)]at q;exact .id q
 ·rw[if_neg (by lia)]at q;exact .id q)
theorem oh:∀n:Nat,FB T T.G4 (2+n) (cZ n)
 |0=>lV yr
 |f+1=>okN T.G4.f yA (xr (f+1)) (fun(hr:aZ (2+f) _)=>
 aj (ar (aN (aN (aa 0) (mwc (c:=23) T.e8 T.N2 (gk T) hr.le T.l6.b (mwn)) (ac (aa 1) (ac (aa 2) (ae)))) (mwc (c:=21) T.N6 T.Y3 (oC T) hr.le T.G2.b (mwc (c:=22) T.K6 T.Y2 (mD T) hr.le T.G3.b (mwc (c:=23) T.e8 T.Y1 (oh f) hr.le T.G4.b (mwn)))) (ac (aa 1) (ac (aa 2) (ae)))))) (by
 rintro l h Q X ⟨w,g,B,d0,b0,v,d,be,tl,tr,m,key,rfl,k,hn,q⟩
 obtain⟨wl,wr,ml,mr,rfl⟩:=k.kv.forkE
 obtain⟨kl,kr,h1,h2⟩:=k.sub
 refine⟨23,_,_,.inl rfl,cW,rfl,d,be,B,key,wl,wr,ml,mr,m,rfl,h2,?_⟩
 by_cases e:sd B key d=0
 ·rw[if_pos e];exact zV kl (by lia) (.id (by unfold aD at q;rw[if_pos e]at q;exact q))
 ·rw[if_neg e];exact zV kr (by lia) (.id (by unfold aD at q;rw[if_neg e]at q;exact q)))
def iC:FB T T.j8 73 ii:=okN T.j8.f rB (qN) (fun hr=>
 af (aK (bp (bd (aB (Ik T) hr.le T.adq (ac (aC (aa 0)) (ac (aa 1) (ae)))))) (aj (cz)) (aG)) (aj (ar (aN (aC (aa 0)) (mwc (c:=21) T.N6 T.Y3 (oC T) hr.le T.G2.b (mwc (c:=22) T.K6 T.Y2 (mD T) hr.le T.G3.b (mwc (c:=23) T.e8 T.Y1 (oh T 70) hr.le T.G4.b (mwn)))) (ac (aC (aa 0)) (ac (aa 1) (ae))))))) (by
 rintro l h Q X ⟨T,w,g,i,c,B,v,t,m,key,rfl,hT,kv,tr,hB,hk,q⟩
 refine⟨24,_,_,hT,rfl,B,key,rfl,hB,hk,Sel.no rfl ⟨24,_,_,hT,rfl,?_⟩⟩
 obtain⟨cc,fs,sp,a1,a2,a3,a4⟩:=Hk (key:=key) (h:=h) kv tr hB
 exact⟨cc,fs,sp,a1,a2,a3,24,_,_,hT,rfl,a4 _ _ (.id q)⟩)
def ku:FB T T.w5 1 db:=okN T.w5.f vT (ur) (fun hr=>
 aj (ar (aa 0))) (by
 rintro l h Q X ⟨v,x,y,z,rfl,q⟩;exact .id q)
def ko:FB T T.w6 9 cX:=okN T.w6.f vx (uq) (fun hr=>
 aj (ar (mq (aJ (bF hr.units150) (aa 3) (aC (aa 0))) (dH 21 T.aet T.N6 (iS T) hr.le T.adT T.o6.b (ac (aa 1) (ae))) (aa 0)))) (by
 rintro l h Q X ⟨b,w,g,n,i,c,B,key,kk,t,m,rfl,s,hn,kv,q⟩
 refine⟨_,rfl,.sc rfl,fun bb hb=>eh hb (fun e=>?_) fun e=>?_⟩
 ·unfold aX at q;rw[if_pos (xg e)]at q
  exact Eh s hn q.fz
 ·unfold aX at q;rw[if_neg (BC e)]at q
  exact .id (q _ m g h Kp.rfl' (s.le (by lia)) Ex.rfl' kv))
def yo:FB T T.P9 2 nh:=okN T.P9.f yH (xC) (fun hr=>
 aj (ar (mq (aJ (bF hr.units150) (aB (tO T) hr.le T.adf (ac (aa 1) (ac (aa 2) (ac (aC (aa 0)) (ae))))) (b7)) (aC (aa 0)) (aC (aa 0))))) (by
 rintro l h Q X ⟨d,be,B,key,wl,wr,ml,mr,m,rfl,hd,q⟩
 refine⟨_,rfl,B,key,d,rfl,hd,.sc rfl,fun b hb=>eh hb (fun e=>⟨_,rfl,?_⟩) fun e=>⟨_,rfl,?_⟩⟩
 ·rw[if_pos (by lia)]at q;exact .id q
 ·rw[if_neg (by lia)]at q;exact .id q)
def eE:FB T T.d6 7 fx:=okN T.d6.f uf (sK) (fun hr=>
 af (bi (EW (c:=20) T.adS T.ae9 (fy T) hr.le T.f9.b (ac (aa 0) (ac (aa 1) (ac (bf (ac (c6) (ac (aa 2) (ac (aa 3) (ac (aC (aa 4)) (ac (aC (aa 5)) (ae))))))) (ae)))))) (af (bx (aa 0) (aa 2) T.nl_depth) (af (bx (aa 0) (aa 3) T.nl_begin) (af (bx (aa 0) (aa 4) T.nl_left) (aj (bx (aa 0) (aa 5) T.nl_right)))))) (by
 rintro l h Q X ⟨p,b,w,g,n,i,c,d,be,wl,wr,tl,tr,ml,mr,rfl,hp,pb,s,hn,hd,hb,kl,kr,hz,q⟩
 obtain⟨cl,fl,rfl,el⟩:=kl.fmark
 obtain⟨cr,fr,rfl,er⟩:=kr.fmark
 have zl:=kl.sml
 have zr:=kr.sml
 refine⟨_,el,_,er,av (by simp),p,23,b,w,g,n,i,c,gZ d be ml mr,rfl,.inr (.inr rfl),hp,pb,s,hn,KY hd hb zl.1 zr.1,fun e=>by rw[FL];have:=zl.2 e;have:=zr.2 e;lia,fun m g' h' kk s' x e o=>?_⟩
 refine⟨p,23,_,rfl,ao,by simp,by simp[knF],p,23,_,rfl,ao,by simp,eX (by simp[knF]),p,23,_,rfl,ao,by simp,eX (eX (by simp[knF])),p,23,_,rfl,ao,by simp,eX (eX (eX (by simp[knF]))),.id ?_⟩
 have:=q m g' h' kk s' x e ⟨o.1,fun e=>by have:=o.2 e;rw[FL]at this;have:=zl.2 e;have:=zr.2 e;lia⟩
 rw[dU,dU,dU,dU];exact this)
def jL:FB T T.w8 9 jJ:=okN T.w8.f wn (ue) (fun hr=>
 af (aK (aJ (bF hr.units150) (aB (tO T) hr.le T.adf (ac (aa 2) (ac (aa 3) (ac (aC (aa 0)) (ae))))) (b7)) (aj (ar (dH 23 T.adl T.e8 (eE T) hr.le T.adk T.d6.b (ac (aa 1) (ac (aC (aa 0)) (ac (aC (aa 0)) (ac (aa 4) (ac (aC (aa 0)) (ae))))))))) (aG)) (aj (ar (dH 23 T.adl T.e8 (eE T) hr.le T.adk T.d6.b (ac (aa 1) (ac (aC (aa 0)) (ac (aC (aa 0)) (ac (aC (aa 0)) (ac (aa 4) (ae)))))))))) (by
 rintro l h Q X ⟨b,w,g,n,i,c,d,be,B,key,wl,wr,v,tl,tr,t,ml,mr,m,mv,rfl,s,hn,hd,hB,hb,kl,kr,kv,z1,z2,q⟩
 refine⟨_,rfl,B,key,d,rfl,hd,.sc rfl,fun bb hb'=>eh hb' (fun e=>⟨_,rfl,_,rfl,_,rfl,?_⟩) fun e=>⟨_,rfl,_,rfl,_,rfl,?_⟩⟩
 ·have e:sd B key d=0:=by lia
  rw[if_pos e]at q
  exact tN s hn (by lia) hb kv kr (z1 e) fun v m g' h' k s' x kn=>.id (q v m g' h' k s' x kn)
 ·have e:sd B key d≠0:=by lia
  rw[if_neg e]at q
  exact tN s hn (by lia) hb kl kv (z2 e) fun v m g' h' k s' x kn=>.id (q v m g' h' k s' x kn))
theorem jI:∀n:Nat,FB T T.w9 (9+n) (cw n)
 |0=>lV vS
 |f+1=>okN T.w9.f kh (tW (f+1)) (fun(hr:aZ (9+f) _)=>
 af (az 4 kh.nd (aN (aN (aa 0) (mwc (c:=23) T.e8 T.N2 (gk T) hr.le T.l6.b (mwn)) (ac (aa 2) (ac (aa 3) (ae)))) (mwc (c:=21) T.N6 T.U9 (ku T) hr.le T.w5.b (mwc (c:=22) T.K6 T.U8 (ko T) hr.le T.w6.b (mwc (c:=23) T.e8 T.U7 (jI f) hr.le T.w9.b (mwn)))) (ac (aa 1) (ac (aa 2) (ac (aa 3) (ae)))))) (af (aK (bd (aF (UK T.tI) T.b8 Wf (ac (aa 4) (ac (UU 21 T.adT) (ae))))) (aj (ar (aN (aa 0) (mwc (c:=23) T.e8 T.adD (yo T) hr.le T.P9.b (mwn)) (ac (aa 2) (ac (aa 3) (ae)))))) (aG)) (aj (ar (aN (aa 0) (mwc (c:=23) T.e8 T.U6 (jL T) hr.le T.w8.b (mwn)) (ac (aa 1) (ac (aa 2) (ac (aa 3) (ac (aa 4) (ae)))))))))) (by
 rintro l h Q X ⟨b,w,g,n,i,c,B,d0,b0,v,d,be,tl,tr,m,key,rfl,k,hf,s,hn,hB,hz,q⟩
 obtain⟨wl,wr,ml,mr,rfl⟩:=k.kv.forkE
 obtain⟨kl,kr,h1,h2⟩:=k.sub
 obtain⟨b1,b2⟩:=En k.wf
 have e0:szN (.fork d be tl tr)=252+szN tl+szN tr:=rfl
 refine⟨23,_,_,.inl rfl,cW,rfl,d,be,B,key,wl,wr,ml,mr,m,rfl,h2,?_⟩
 by_cases e:sd B key d=0
 ·rw[if_pos e]
  unfold aX at q;rw[if_pos e]at q
  refine uJ kl (by lia) s (by lia) hB (by lia) fun v m' g' h' kk s' xx kn=>?_
  rcases isB kn with⟨fs,rfl,et⟩|⟨cc,fs,rfl,hm,eb⟩
  ·refine⟨_,21,21,_,true,rfl,.inl rfl,by simp[tI],Sel.t ?_⟩
   rw[et]at q
   refine⟨23,_,_,.inl rfl,cW,rfl,d,be,B,key,wl,wr,ml,mr,m,rfl,h2,?_⟩
   rw[if_pos e]
   exact .id (q _ mr g' h' kk (s'.le (by lia)) xx (kr.kv.ex xx))
  ·refine⟨_,cc,21,_,false,rfl,.inl rfl,hm,Sel.f ?_⟩
   have z:=eU (B:=B) (key:=key) tl
   have:=tK tr
   refine⟨23,_,_,.inl rfl,cW,rfl,b,w,g',_,i,c,d,be,B,key,wl,wr,_,tl,tr,_,ml,mr,m,m',rfl,s',by lia,h2,hB,pC hB b2,kl.kv.ex xx,kr.kv.ex xx,kn,fun _=>by lia,fun z=>absurd e z,?_⟩
   rw[if_pos e]
   refine(KnQ.next (n':=n+(f+1+2)) ?_ kk xx (by lia)).fz
   revert q eb;cases aX B key tl<;>first|(intro q z;exact absurd rfl z)|exact fun q _=>q
 ·rw[if_neg e]
  unfold aX at q;rw[if_neg e]at q
  refine uJ kr (by lia) s (by lia) hB (by lia) fun v m' g' h' kk s' xx kn=>?_
  rcases isB kn with⟨fs,rfl,et⟩|⟨cc,fs,rfl,hm,eb⟩
  ·refine⟨_,21,21,_,true,rfl,.inl rfl,by simp[tI],Sel.t ?_⟩
   rw[et]at q
   refine⟨23,_,_,.inl rfl,cW,rfl,d,be,B,key,wl,wr,ml,mr,m,rfl,h2,?_⟩
   rw[if_neg e]
   exact .id (q _ ml g' h' kk (s'.le (by lia)) xx (kl.kv.ex xx))
  ·refine⟨_,cc,21,_,false,rfl,.inl rfl,hm,Sel.f ?_⟩
   have z:=eU (B:=B) (key:=key) tr
   have:=tK tl
   refine⟨23,_,_,.inl rfl,cW,rfl,b,w,g',_,i,c,d,be,B,key,wl,wr,_,tl,tr,_,ml,mr,m,m',rfl,s',by lia,h2,hB,pC hB b2,kl.kv.ex xx,kr.kv.ex xx,kn,fun z=>absurd z e,fun _=>by lia,?_⟩
   rw[if_neg e]
   refine(KnQ.next (n':=n+(f+1+2)) ?_ kk xx (by lia)).fz
   revert q eb;cases aX B key tr<;>first|(intro q z;exact absurd rfl z)|exact fun q _=>q)
def yq:FB T T.Q0 80 nX:=okN T.Q0.f oj (yn) (fun hr=>
 af (az 2 oj.nd (aN (aa 0) (mwc (c:=24) T.C7 T.N8 (iC T) hr.le T.j8.b (mwn)) (ac (aa 1) (ae)))) (af (aK (aJ UO (aa 2) (wW)) (aj (cz)) (aG)) (af (bx (aa 0) (aN (aC (aa 0)) (mwc (c:=21) T.N6 T.U9 (ku T) hr.le T.w5.b (mwc (c:=22) T.K6 T.U8 (ko T) hr.le T.w6.b (mwc (c:=23) T.e8 T.U7 (jI T 70) hr.le T.w9.b (mwn)))) (ac (aC (aa 0)) (ac (aC (aa 0)) (ac (aa 1) (ae))))) T.nl_top) (aj (ar (aa 2)))))) (by
 rintro l h Q X ⟨T,b,w,g,n,i,c,B,v,t,m,key,z,rfl,hT,tb,s,hn,kv,tr,hB,hk,hz,hf,q⟩
 refine⟨24,_,_,.inr ⟨T,rfl,hT⟩,cW,rfl,T,w,g,i,c,B,v,t,m,key,rfl,hT,kv,tr,hB,hk,?_⟩
 rw[hf]
 refine Sel.no rfl ⟨24,_,_,hT,rfl,?_⟩
 obtain⟨cc,fs,sp,a1,a2,a3,a4⟩:=Dj (key:=key) (h:=h) kv tr s hn hB hz
 exact⟨cc,fs,sp,a1,a2,a3,24,_,_,hT,rfl,24,_,_,hT,rfl,a4 _ _ fun v' m' g' h' k s' xx kn=>⟨T,24,_,rfl,(k T tb).trans hT,by simp,by simp[tbF],.id (q v' m' g' h' k s' xx kn)⟩⟩)
def yy:FB T T.Q1 81 mU:=okN T.Q1.f yS (xL) (fun hr=>
 aj (ar (aN (aC (aa 0)) (mwc (c:=24) T.C7 T.adE (yq T) hr.le T.Q0.b (mwn)) (ac (aa 1) (ae))))) (by
 rintro l h Q X ⟨w,g,n,b,i,c,B,T,L,D,M,SD,t,es,key,z,rfl,a,hn,hk,hf,q⟩
 have n1:=a.ne.1
 obtain⟨v,m,e,kn⟩:=a.tb
 have zz:=eU (B:=B) (key:=key) t
 have sz:=a.sz
 exact⟨_,rfl,24,_,_,.inr ⟨T,rfl,e⟩,cW,rfl,T,b,w,g,n,i,c,B,v,t,m,key,z,rfl,e,n1,a.st,hn,kn,a.tr,a.b2,hk,sz,hf,fun v' m' g' h' k s' xx kn'=>.id (q _ g' _ ((k.x (by simp)).trans (Kx.up (by simp))) (a.tab k s' xx (by lia) kn' a.tr.without.1 (by lia)) xx)⟩)
def BJ:FA T T.W9 1 rE:=okN T.W9.f jF (AA) (fun hr=>
 af (az 1 jF.nd (c6)) (af (az 2 jF.nd (aA bO (aP (ixW hr.units1) (dz (ac (b7) (ac (b7) (ac (b7) (ac (b7) (ae)))))) (aA de (aa 0) (b7))) (aA eF (b7) (fO Ld T.b7 L2.HA (ac (fH (bF hr.units150) (aA de (aA dI (aa 0) (b7)) (b7)) (b7)) (ae)))))) (aj (ar (dQ aaC aaL aaK KG (c6) (ac (nJ (ys:=["_law_number","_law_letters"]) (is:=[0,1]) (by exact⟨rfl,by decide+kernel,by decide+kernel,rfl,by decide+kernel,by decide+kernel⟩) (by exact .cons rfl (by first|exact .inl rfl|exact .inr rfl) rfl (.cons rfl (by first|exact .inl rfl|exact .inr rfl) rfl (.nil))) (xu T.ad2 (ac (aa 2) (ae))) Fl (fun C s H fp=>aP (ixW hr.units1) (aa 2) (aA de (aA bO (aA dI (aa 1) (b7)) (aA eF (b7) (aa 0))) (b7)))) (ae))))))) (by
 rintro l h Q X ⟨n,rfl,q⟩
 obtain⟨g1,g2,g3⟩:=Gs
 obtain⟨i,e1,i5⟩:=UP n
 refine⟨av (by simp),.inl ⟨show(0:Int)<4 by decide,.int i,e1,⟨show(0:Int)<4 by decide,by decide⟩,show(0:Int)<16 by decide,.sc rfl,fun b hb=>⟨Xh (by decide),?_⟩⟩⟩
 obtain⟨m,em,hm⟩:∃m:Nat,(i:Int)+55*(if b=true then 1 else 0)=m/\m<=60:=by
  cases b
  ·exact⟨i,by simp,by lia⟩
  ·exact⟨i+55,by simp,by lia⟩
 unfold yL
 dsimp only
 rw[em]
 refine⟨rfl,jq (f:=chW (n/64)) (its:=(WJ m).map fun(k:Nat)=>.int k) (fun Qi q=>⟨m,rfl,by lia,by lia,q⟩) (av (by simp;lia)) (fun x hx h Q q=>?_) ?_⟩
 ·obtain⟨k,hk,rfl⟩:=VL.mp hx
  refine⟨⟨show(0:Int)<64 by decide,by decide⟩,Xh (by decide),show(0:Int)<36 by decide,sA.cps.toList.getD ((n/64+7*k)%36) 0,by rw[show((("abcdefghijklmnopqrstuvwxyz ABC0123;:":String):Str)).length=36 from g1];exact av (by decide),?_,q⟩
  have hl:(n/64+7*k)%36<sA.cps.toList.length:=by rw[g2];lia
  dsimp only
  rw[show((n:Int)/64+7*(k:Int))%36=(((n/64+7*k)%36:Nat):Int)by lia,VA,Dc hl]
  exact bA (Dc hl)
 ·have hz:∀z∈(WJ m).map (chS (n/64)),z.length=1/\cO z=true:=fun z hz=>by
   obtain⟨k,c,rfl⟩:=VL.mp hz
   exact SF _ _
  obtain⟨a,b⟩:=EI hz
  refine⟨"",_,(WJ m).map (chS (n/64)),rfl,rfl,.inl ?_,?_,.id (q _ ?_)⟩
  ·rw[WA,WA];rfl
  ·rw[CU fun z h=>(hz z h).1,show(("":String):Str).length=0 by decide];simp;lia
  ·rw[EE];exact⟨a,by rw[b];simpa using hm⟩)
def Do:FA T T.acW 1 uU:=okN T.acW.f Dk (CZ) (fun hr=>
 aj (ar (df (aF eG T.b8 Wf (ac (aa 0) (ac (fN T.c6 aan) (ae)))) (eu (fH fT (aF bV T.e9 VJ (ac (aa 0) (ae))) (IG T.adR)))))) (by
 rintro l h Q X ⟨z,rfl,h1,q⟩
 exact⟨by decide,"str",rfl,Sel.yes rfl ⟨av (by lia),.b (decide_eq_true (by lia)) q⟩⟩)
def fD:FB T T.i3 7 fA:=okN T.i3.f tY (sV) (fun hr=>
 af (bi (EW (c:=20) T.adS T.ae9 (fy T) hr.le T.f9.b (ac (aa 0) (ac (aa 1) (ac (bf (ac (c6) (ac (aa 2) (ac (aa 3) (ae))))) (ae)))))) (af (bx (aa 0) (aa 2) T.nl_key) (aj (bx (aa 0) (aa 3) T.nl_text)))) (by
 rintro l h Q X ⟨p,b,w,g,n,i,c,k,t,rfl,hp,pb,s,hn,hk,ht,q⟩
 refine⟨av (by simp),p,22,b,w,g,n,i,c,jj k t,rfl,.inr (.inl rfl),hp,pb,s,hn,Kw hk ht,fun a=>by rw[FP];have:=ht.2;lia,fun m g' h' kk s' x e o=>?_⟩
 refine⟨p,22,_,rfl,ao,by simp,by simp[knF],p,22,_,rfl,ao,by simp,eX (by simp[knF]),.id ?_⟩
 have:=q m g' h' kk s' x e (o.le (by rw[FP];have:=ht.2;lia))
 rw[dU,dU];exact this)
def iO:FB T T.o7 9 cM:=okN T.o7.f tV (rM) (fun hr=>
 aj (ar (dH 22 T.ae8 T.K6 (fD T) hr.le T.adU T.i3.b (ac (aa 1) (ac (aa 3) (ac (aa 4) (ae))))))) (by
 rintro l h Q X ⟨b,w,g,n,i,c,v,B,key,x,rfl,s,hn,hk,hx,q⟩
 exact zg s hn hk hx fun v m g' h' k s' x kn=>.id (q v m g' h' k s' x kn))
def vC:FA T T.acZ 1 BD:=okN T.acZ.f Jb (Im) (fun hr=>
 aj (ar (aA KM (aa 1) (aA dq (aa 0) (aa 2))))) (by
 rintro l h Q X ⟨b,k,d,rfl,h1,q⟩
 refine⟨trivial,by dsimp only;lia,.i ?_ q⟩
 dsimp only
 have e:((b:Int)- d).toNat=b- d:=by lia
 rw[e,<-FI];unfold st;lia)
def zW:FA T T.ad0 9 zS:=okN T.ad0.f zN (Fy) (fun hr=>
 af (az 5 zN.nd (aB (vC T) hr.le T.acZ (ac (aa 1) (ac (aC (aa 3)) (ac (aa 2) (ae)))))) (af (aK (aJ (bF hr.units150) (aB (tO T) hr.le T.adf (ac (aa 1) (ac (aC (aa 3)) (ac (aa 2) (ae))))) (b7)) (aj (ar (dH 23 T.adl T.e8 (eE T) hr.le T.adk T.d6.b (ac (aa 0) (ac (aa 2) (ac (aa 5) (ac (aa 3) (ac (aa 4) (ae))))))))) (aG)) (aj (ar (dH 23 T.adl T.e8 (eE T) hr.le T.adk T.d6.b (ac (aa 0) (ac (aa 2) (ac (aa 5) (ac (aa 4) (ac (aa 3) (ae))))))))))) (by
 rintro l h Q X ⟨b,w,g,n,i,c,B,d,key,v,x,t,m,m',rfl,s,hn,hd,hB,hk,kl,kv,z,q⟩
 have e0:szN (.leaf key x)=312:=rfl
 refine⟨_,rfl,B,key,d,rfl,by lia,_,rfl,B,key,d,rfl,hd,.sc rfl,fun bb hb'=>eh hb' (fun e=>?_) fun e=>?_⟩
 ·have e:sd B key d=0:=by lia
  unfold gR at q;rw[if_pos e]at q
  exact tN s hn (by lia) (KL hk hB) kl kv (by lia) fun v m g' h' k s' x kn=>.id (q v m g' h' k s' x kn)
 ·have e:sd B key d≠0:=by lia
  unfold gR at q;rw[if_neg e]at q
  exact tN s hn (by lia) (KL hk hB) kv kl (by lia) fun v m g' h' k s' x kn=>.id (q v m g' h' k s' x kn))
def Bj:FA T T.adj 1 Bl:=okN T.adj.f Jf (Hr) (fun hr=>
 aj (ar (aA dq (aa 0) (AM aaD aaf aae Kl (aA Kt (aa 1) (aa 2)))))) (by
 rintro l h Q X ⟨b,x,y,rfl,hx,hy,q⟩
 exact⟨trivial,rfl,trivial,.i (by rw[wu];exact Dx hx hy (zB hx hy)) q⟩)
def iJ:FB T T.o8 10 cL:=okN T.o8.f iM (rn) (fun hr=>
 af (az 5 iM.nd (dH 22 T.ae8 T.K6 (fD T) hr.le T.adU T.i3.b (ac (aa 1) (ac (aa 3) (ac (aa 4) (ae)))))) (af (aK (aJ (bF hr.units150) (aa 3) (aC (aa 0))) (aj (ar (aa 5))) (aG)) (aj (ar (aB (zW T) hr.le T.ad0 (ac (aa 1) (ac (aa 2) (ac (aB (Bj T) hr.le T.adj (ac (aa 2) (ac (aa 3) (ac (aC (aa 0)) (ae))))) (ac (aa 5) (ac (aa 0) (ae))))))))))) (by
 rintro l h Q X ⟨b,w,g,n,i,c,B,key,x,kk,t,m,rfl,s,hn,hB,hk,hkk,hx,kv,q⟩
 refine zg s (by lia) (pC hB hk) hx fun v m' g' h' k s' xx kn=>?_
 cases kn.leafE
 refine⟨_,rfl,.sc rfl,fun bb hb=>eh hb (fun e=>?_) fun e=>?_⟩
 ·unfold bW at q;rw[if_pos (xg e)]at q
  exact .id (q _ m' g' h' k (s'.le (by lia)) xx kn)
 ·have ne:=BC e
  unfold bW at q;rw[if_neg ne]at q
  obtain⟨a1,_,_⟩:=AY hk hkk ne
  exact⟨_,rfl,B,key,kk,rfl,hk,hkk,b,w,g',n+1,i,c,B,al B key kk,key,_,x,.leaf kk t,m',m,rfl,s',hn,a1,hB,hk,kn,kv.ex xx,by show 312<=_;lia,(q.next k xx (by lia)).fz⟩)
def yK:FB T T.Q2 2 oE:=okN T.Q2.f yJ (wL) (fun hr=>
 aj (ar (fH (bF hr.units150) (aB (vC T) hr.le T.acZ (ac (aa 1) (ac (aa 2) (ac (aC (aa 0)) (ae))))) (aC (aa 0))))) (by
 rintro l h Q X ⟨d,be,B,key,wl,wr,ml,mr,m,rfl,hd,q⟩
 refine⟨_,rfl,B,key,d,rfl,hd,_,rfl,.sc rfl,fun b hb=>?_⟩
 have:b=decide (st B key d=be):=by
  by_cases e:st B key d=be
  ·rw[decide_eq_true e];exact hb.mpr (by rw[e])
  ·rw[decide_eq_false e]
   exact XO.mpr fun z=>e (xg (by have:=hb.mp z;cases this;lia))
 rw[this];exact .id q)
theorem iK:∀n:Nat,FB T T.o9 (10+n) (bZ n)
 |0=>lV uw
 |f+1=>okN T.o9.f iY (sM (f+1)) (fun(hr:aZ (10+f) _)=>
 af (aK (bp (bd (aN (aa 0) (mwc (c:=23) T.e8 T.adF (yK T) hr.le T.Q2.b (mwn)) (ac (aa 2) (ac (aa 3) (ae)))))) (af (az 5 iY.nd (aB (Bj T) hr.le T.adj (ac (aC (aa 0)) (ac (aC (aa 0)) (ac (aB (vC T) hr.le T.acZ (ac (aa 2) (ac (aa 3) (ac (aC (aa 0)) (ae))))) (ae)))))) (aj (ar (aB (zW T) hr.le T.ad0 (ac (aa 1) (ac (aa 2) (ac (aa 5) (ac (dH 22 T.ae8 T.K6 (fD T) hr.le T.adU T.i3.b (ac (aa 1) (ac (aa 3) (ac (aa 4) (ae))))) (ac (aa 0) (ae)))))))))) (aG)) (aj (ar (aN (aa 0) (mwc (c:=23) T.e8 T.U6 (jL T) hr.le T.w8.b (mwn)) (ac (aa 1) (ac (aa 2) (ac (aa 3) (ac (aN (aN (aa 0) (mwc (c:=23) T.e8 T.N2 (gk T) hr.le T.l6.b (mwn)) (ac (aa 2) (ac (aa 3) (ae)))) (mwc (c:=21) T.N6 T.Q9 (iO T) hr.le T.o7.b (mwc (c:=22) T.K6 T.Q8 (iJ T) hr.le T.o8.b (mwc (c:=23) T.e8 T.Q7 (iK f) hr.le T.o9.b (mwn)))) (ac (aa 1) (ac (aa 2) (ac (aa 3) (ac (aa 4) (ae)))))) (ae))))))))) (by
 rintro l h Q X ⟨b,w,g,n,i,c,B,d0,b0,v,d,be,tl,tr,m,key,x,rfl,k,hb,hf,s,hn,hB,hk,hx,hz,q⟩
 obtain⟨wl,wr,ml,mr,rfl⟩:=k.kv.forkE
 obtain⟨kl,kr,h1,h2⟩:=k.sub
 obtain⟨b1,b2⟩:=En k.wf
 have e0:szN (.fork d be tl tr)=252+szN tl+szN tr:=rfl
 refine⟨23,_,_,.inl rfl,cW,rfl,d,be,B,key,wl,wr,ml,mr,m,rfl,by lia,?_⟩
 refine Sel.mk (fun e=>?_) fun e=>?_
 ·have ne:st B key d≠be:=of_decide_eq_false (by simpa using e)
  have a1:=(AY b1 (HJ hk (by lia)) (ab ne)).1
  unfold bW at q;rw[if_neg ne]at q
  refine⟨_,rfl,_,rfl,_,rfl,B,key,d,rfl,by lia,d,be,st B key d,rfl,b1,HJ hk (by lia),?_⟩
  refine zg s (by lia) (pC hB hk) hx fun v m' g' h' kk s' xx kn=>?_
  cases kn.leafE
  exact⟨b,w,g',n+1,i,c,B,al d be (st B key d),key,_,x,.fork d be tl tr,m',m,rfl,s',by lia,by lia,hB,hk,kn,k.kv.ex xx,hz,(q.next kk xx (by lia)).fz⟩
 ·have ee:st B key d=be:=of_decide_eq_true (by simpa using e)
  unfold bW at q;rw[if_pos ee]at q
  obtain⟨c1,c2⟩:=JA h2 ee
  refine⟨23,_,_,.inl rfl,cW,rfl,23,_,_,.inl rfl,cW,rfl,d,be,B,key,wl,wr,ml,mr,m,rfl,h2,?_⟩
  by_cases e:sd B key d=0
  ·rw[if_pos e]at q⊢
   refine Bf kl (c1 e) (by lia) s (by lia) hB hk hx (by lia) fun v m' g' h' kk s' xx kn=>?_
   have z:=fU (B:=B) (key:=key) (z:=x) tl
   have:=tK tr
   exact⟨b,w,g',_,i,c,d,be,B,key,wl,wr,v,tl,tr,_,ml,mr,m,m',rfl,s',by lia,h2,hB,pC hB b2,kl.kv.ex xx,kr.kv.ex xx,kn,fun _=>by lia,fun z=>absurd e z,by rw[if_pos e];exact(q.next kk xx (by lia)).fz⟩
  ·rw[if_neg e]at q⊢
   refine Bf kr (c2 e) (by lia) s (by lia) hB hk hx (by lia) fun v m' g' h' kk s' xx kn=>?_
   have z:=fU (B:=B) (key:=key) (z:=x) tr
   have:=tK tl
   exact⟨b,w,g',_,i,c,d,be,B,key,wl,wr,v,tl,tr,_,ml,mr,m,m',rfl,s',by lia,h2,hB,pC hB b2,kl.kv.ex xx,kr.kv.ex xx,kn,fun z=>absurd z e,fun _=>by lia,by rw[if_neg e];exact(q.next kk xx (by lia)).fz⟩)
def Ai:FB T T.T9 81 qw:=okN T.T9.f qq (yx) (fun hr=>
 af (az 3 qq.nd (aN (aa 0) (mwc (c:=24) T.C7 T.N8 (iC T) hr.le T.j8.b (mwn)) (ac (aa 1) (ae)))) (af (aK (bp (bd (aB (Do T) hr.le T.acW (ac (aa 2) (ae))))) (aj (cz)) (aG)) (af (bx (aa 0) (aN (aC (aa 0)) (mwc (c:=21) T.N6 T.Q9 (iO T) hr.le T.o7.b (mwc (c:=22) T.K6 T.Q8 (iJ T) hr.le T.o8.b (mwc (c:=23) T.e8 T.Q7 (iK T 70) hr.le T.o9.b (mwn)))) (ac (aC (aa 0)) (ac (aC (aa 0)) (ac (aa 1) (ac (aa 2) (ae)))))) T.nl_top) (aj (ar (aa 3)))))) (by
 rintro l h Q X ⟨T,b,w,g,n,i,c,B,v,t,m,key,x,rfl,hT,tb,s,hn,kv,tr,hB,hk,hx,hz,q⟩
 refine⟨24,_,_,.inr ⟨T,rfl,hT⟩,cW,rfl,T,w,g,i,c,B,v,t,m,key,rfl,hT,kv,tr,hB,hk,x,rfl,hx.2,Sel.no rfl ⟨24,_,_,hT,rfl,?_⟩⟩
 obtain⟨cc,fs,sp,a1,a2,a3,a4⟩:=Jj (x:=x) (h:=h) kv tr s hn hB hk hx hz
 exact⟨cc,fs,sp,a1,a2,a3,24,_,_,hT,rfl,24,_,_,hT,rfl,a4 _ _ fun v' m' g' h' k s' xx kn=>⟨T,24,_,rfl,(k T tb).trans hT,by simp,by simp[tbF],.id (q v' m' g' h' k s' xx kn)⟩⟩)
def pO:FB T T.K5 82 pQ:=okN T.K5.f AB (yW) (fun hr=>
 aj (ar (aN (aC (aa 0)) (mwc (c:=24) T.C7 T.ae7 (Ai T) hr.le T.T9.b (mwn)) (ac (aa 1) (ac (aa 2) (ae)))))) (by
 rintro l h Q X ⟨w,g,n,b,i,c,B,T,L,D,M,SD,t,es,key,x,rfl,a,hn,hk,hx,hz,q⟩
 have n1:=a.ne.1
 obtain⟨v,m,e,kn⟩:=a.tb
 have z:=fU (B:=B) (key:=key) (z:=x) t
 exact⟨_,rfl,24,_,_,.inr ⟨T,rfl,e⟩,cW,rfl,T,b,w,g,n,i,c,B,v,t,m,key,x,rfl,e,n1,a.st,hn,kn,a.tr,a.b2,hk,hx,by lia,fun v' m' g' h' k s' xx kn'=>.id (q _ g' _ ((k.x (by simp)).trans (Kx.up (by simp))) (a.tab k s' xx (by lia) kn' (a.tr.with hk).1 (by lia)) xx)⟩)
def kI:FB T T.C5 4 kJ:=okN T.C5.f xo (vY) (fun hr=>
 aj (ar (df (aB (xn T) hr.le T.X6 (ac (aa 1) (ae))) (eu (fH (IM hr.units150) (aa 1) (aC (aa 0))))))) (by
 rintro l h Q X ⟨D,c,m,kv,rfl,hc,hm,hD,q⟩
 exact⟨c,m,rfl,hc,hm,Sel.yes rfl ⟨_,rfl,.inl ⟨_,.t (k:=hdK c m) hD,.id q⟩⟩⟩)
def AG:FA T T.U0 5 pU:=okN T.U0.f fK (yO) (fun hr=>
 af (fI (fb 2 fK.nd) (fJ (aa 1)) (aj (fI (fb 3 fK.nd) (xu T.ad2 (ac (b7) (ae))) (af (az 4 fK.nd (bf (ac (aA bO (aP (ixW hr.units1) (aa 2) (b7)) (aa 3)) (ac (aP (ixW hr.units1) (aa 2) (b7)) (ae))))) (aj (aK (aJ (oG hr.units150) (aN (aa 0) (mwc (c:=27) T.X2 T.X3 (kI T) hr.le T.C5.b (mwn)) (ac (aa 4) (ae))) (fH (IM hr.units150) (aa 4) (aa 1))) (aj (ar (eK))) (aG)))) Wb)) Wb) (aj (ar (eK)))) (by
 rintro l h Q X ⟨SD,He,sv,hs,rfl,hH,hS,sl,hl,ok,q⟩
 refine⟨_,hH,hH,gl (fun r ws h'=>h'=h/\(∀x∈r,x∈cY 0 hs)/\∃z2 z3 z4,ws=[some (slV SD),some (.ref He),z2,z3,z4]) ?_ ?_ ⟨rfl,fun x hx=>hx,_,_,_,rfl⟩⟩
 ·rintro x r ws h' a a a a a ⟨rfl,hr,z2,z3,z4,rfl⟩ K
  obtain⟨c,m,rfl,hc⟩:=PR (hr x cW)
  have cl:c<hs.length:=(Vz.mp hc).1
  have om:=ok m (VP hc)
  refine⟨2,rfl,by lia,by lia,trivial,tH (fun k ws h2=>h2=h'/\∃z3 z4,ws=[some (slV SD),some (.ref He),some (hdW c m),z3,z4]) ?_ ?_ ⟨rfl,_,_,rfl⟩⟩
  ·rintro k ws h2 K2 a a a a hk ⟨rfl,z3,z4,rfl⟩ kk
   have hk:k<2:=hk
   refine⟨_,at0,_,bA (j:=1) rfl,av (by simp),27,_,_,.inl rfl,cW,rfl,SD,c+k,m,sv,?_,by lia,om,hS,?_⟩
   ·show[slV SD,W.tup [.int ((c:Int)+(k:Int)),kW m]]=_
    rw[pA];rfl
   refine .inr ⟨_,rfl,hH,?_,Ez (n:=139) ok,fun bb hb=>?_⟩
   ·show Pl 140 (W.tup [.int ((c:Int)+(k:Int)),kW m])
    rw[pA];exact plH om
   have hb:bb=true↔hs[c+k]?=some m:=by
    rw[hb]
    show W.tup [.int ((c:Int)+(k:Int)),kW m]∈_↔_
    rw[pA];exact Ng
   have e:(gK sv (hdK (c+k) m)).isSome=bb:=Yc.mpr ((sl _ _).trans hb.symm)
   rw[e]
   exact⟨.sc rfl,fun b2 hb2=>Sel.no (by rw[hb2.mpr rfl];rfl) ⟨trivial,kk _ _ ⟨rfl,_,_,rfl⟩⟩⟩
  ·rintro ws h2 ⟨rfl,z3,z4,rfl⟩
   exact⟨hH,K _ _ ⟨rfl,fun x hx=>hr x (Vu _ hx),_,_,_,rfl⟩⟩
 ·rintro ws h' ⟨rfl,a,z2,z3,z4,rfl⟩
  exact .id q)
def yi:FA T T.M9 2 kY:=okN T.M9.f cb (vQ) (fun hr=>
 af (az 2 cb.nd (dz (ae))) (af (az 3 cb.nd (aa 1)) (af (az 4 cb.nd (aa 0)) (af (tu (BB mj mj (b7) (aa 3) (aa 4)) (af (az 5 cb.nd (aB (oz T) hr.le T.act (ac (aa 4) (ae)))) (aj (aK (aJ fT (aa 3) (aa 5)) (af (bi (dQ VC Vw Vx eV (aa 2) (ac (b7) (ae)))) (aj (az 4 cb.nd (aa 5)))) (af (bi (dQ VC Vw Vx eV (aa 2) (ac (b7) (ae)))) (af (az 3 cb.nd (aA dq (aa 3) (aa 5))) (aj (az 4 cb.nd (aA dq (aa 4) (aa 5))))))))) Wb) (aj (ar (aa 2))))))) (by
 rintro l h Q X ⟨m,e0,rfl,hp,hm,q⟩
 refine⟨av (by simp),.inr fun T hT=>?_⟩
 refine AQ (fun r ws h'=>∃(n ey:Nat)(dn:List Int)(a:Option W),ws=[some (.int m),some (.int e0),some (.ref T),some (.int (ey:Nat)),some (.int (r:Nat)),a]/\h'=up h T (.lst (cg dn))/\ey<=r/\r<=n/\r<=1000/\dn++trF n r ey=trF m m e0) ?_ ⟨m,e0,[],none,rfl,rfl,by lia,by lia,hm,rfl⟩
 rintro r ws h' K b b b ⟨n,ey,dn,a,rfl,rfl,h1,h3,h4,e⟩ kk
 have dl:dn.length<=1000:=by have:=jv m m e0;rw[<-e]at this;simp at this;lia
 have stop:ey=0\/r<=ey->Fz Q (.ref T) (up h T (.lst (cg dn))):=fun z=>by
  have e2:trF n r ey=[]:=by cases n;rfl;unfold trF;rw[if_pos z]
  rw[e2,Wc]at e
  subst e
  exact Bx hT q
 refine Sel.dec (fun z=>Sel.dec (fun z2=>?_) fun z2=>stop (by lia)) fun z=>?_
 ·have r2:2<=r:=by lia
  obtain⟨g1,g2⟩:=cJ r2
  cases n with
  |zero=>lia
  |succ n=>
   rw[AJ,if_neg (by lia)]at e
   refine⟨r,rfl,r2,h4,Sel.dec (fun y=>?_) fun y=>?_⟩
   ·rw[if_pos (by lia)]at e
    refine⟨.inl ⟨rfl,_,ao⟩,T,_,_,rfl,rfl,ao,by rw[VE];simp[cg];lia,?_⟩
    exact kk (ak r) _ _ g2 ⟨n,ey,dn++[0],_,rfl,by rw[dU];simp[cg],by lia,by lia,by lia,by rw[Wr];exact e⟩
   ·rw[if_neg (by lia)]at e
    refine⟨.inl ⟨rfl,_,ao⟩,T,_,_,rfl,rfl,ao,by rw[VE];simp[cg];lia,trivial,trivial,?_⟩
    exact kk (r- ak r) _ _ (by lia) ⟨n,ey- ak r,dn++[1],_,by show[_,_,_,some (W.int ((ey:Int)- ((ak r:Nat):Int))),some (W.int ((r:Int)- ((ak r:Nat):Int))),_]=_;rw[pf (by lia),pf (by lia)],by rw[dU];simp[cg],by lia,by lia,by lia,by rw[Wr];exact e⟩
 ·exact Sel.f (stop (by lia)))
def qY:FA T T.N5 3 rK:=okN T.N5.f Bm (Av) (fun hr=>
 aj (ar (df (aF eG T.b8 Wf (ac (aa 1) (ac (fN T.X7 ZP) (ae)))) (df (fH (bF hr.units150) (aF bV T.e9 VJ (ac (aa 1) (ae))) (aa 0)) (eu (aF (Ky rfl) T.aeA L2.Hs (ac (nJ (ys:=[]) (by exact⟨rfl,by decide+kernel,by decide+kernel,rfl,by decide+kernel,by decide+kernel⟩) (by exact .nil) (fJ (aa 1)) Fl (fun C s H fp=>aB (fE T) hr.le T.y9 (ac (aa 0) (ae)))) (ae)))))))) (by
 rintro l h Q X ⟨n,ms,rfl,h1,h2,hm,q⟩
 refine⟨by decide,"tuple",rfl,Sel.yes rfl ⟨.sc rfl,fun b hb=>Sel.yes (hb.mpr (by simp[h1])) ?_⟩⟩
 refine jq (f:=fun x=>.bl (stW x)) (fun Qi q=>q) (av (by simp;lia)) (fun x hx h Q q=>?_) ?_
 ·obtain⟨k,hk,rfl⟩:=VL.mp hx
  obtain⟨t,ht⟩:=tyK (h:=h) k
  exact⟨_,t,rfl,ht,q⟩
 ·refine⟨_,ms.map fun x=>stW (kW x),rfl,.inl (by simp[WA,abc]),.b ?_ q⟩
  rw[acU,WB]
  exact fun x hx=>stK (hm x hx))
def wb:FA T T.ad1 1 Bk:=okN T.ad1.f JU (GA) (fun hr=>
 aj (ar (mq (aJ (bF hr.units150) (aa 0) (b7)) (bf (ac (c6) (ac (aa 1) (ac (aa 2) (ae))))) (bf (ac (c6) (ac (aa 2) (ac (aa 1) (ae)))))))) (by
 rintro l h Q X ⟨t,o,a,rfl,q⟩
 refine⟨.sc rfl,fun bb hb=>eh hb (fun e=>⟨av (by simp),.id ?_⟩) fun e=>⟨av (by simp),.id ?_⟩⟩
 ·unfold jtT at q;rw[if_pos e]at q;exact q
 ·unfold jtT at q;rw[if_neg e]at q;exact q)
def yY:FA T T.Q3 6 oo:=okN T.Q3.f cC (wo) (fun hr=>
 af (az 4 cC.nd (dz (ae))) (af (az 5 cC.nd (dz (ae))) (af (az 6 cC.nd (aP (ixW hr.units1) (aa 3) (b7))) (af (az 7 cC.nd (aP (ixW hr.units1) (aa 3) (b7))) (af (fI (fb 8 cC.nd) (fJ (aP (ixW hr.units1) (aa 3) (b7))) (af (bi (dQ VC Vw Vx eV (aa 4) (ac (aB (wb T) hr.le T.ad1 (ac (aP (ixW hr.units1) (aa 8) (b7)) (ac (aa 6) (ac (aP (ixW hr.units1) (aa 8) (b7)) (ae))))) (ae)))) (af (az 6 cC.nd (dj (cH T) hr.le (aa 0) (ac (aP (ixW hr.units1) (aa 4) (fM (b7))) (ae)))) (aj (aK (aJ (bF hr.units150) (aP (ixW hr.units1) (aa 8) (b7)) (b7)) (af (bi (dQ VC Vw Vx eV (aa 5) (ac (aB (wb T) hr.le T.ad1 (ac (aP (ixW hr.units1) (aa 8) (b7)) (ac (aa 7) (ac (aP (ixW hr.units1) (aa 8) (b7)) (ae))))) (ae)))) (aj (az 7 cC.nd (dj (cH T) hr.le (aa 0) (ac (aP (ixW hr.units1) (aa 5) (fM (b7))) (ae)))))) (aG))))) Wb) (af (bi (dQ VC Vw Vx eV (aa 4) (ac (bf (ac (c6) (ac (aa 1) (ac (aa 6) (ae))))) (ae)))) (af (bi (dQ VC Vw Vx eV (aa 5) (ac (bf (ac (c6) (ac (aa 2) (ac (aa 7) (ae))))) (ae)))) (aj (ar (bf (ac (aa 4) (ac (aa 5) (ae))))))))))))) (by
 rintro l h Q X ⟨b,w,g,n,i,c,st,m,s0,S,O,rfl,s,hn,hS,hO,wS,wO,sl,cm,gr,q⟩
 refine⟨av (by simp),.inr fun T hT=>⟨av (by simp),.inr fun U hU=>?_⟩⟩
 have tb:=s.ne hT
 obtain⟨ut,hU⟩:=aS hU
 have ub:=s.ne hU
 refine⟨_,at0,_,at0,_,bA (j:=1) rfl,trivial,?_⟩
 refine gl (fun its ws h'=>∃(st':List (Int×Key))(s1 o1:List Key)(tp op:Key)(d1 d2:List W)(n':Nat)(g':bU)(y:Option W),its=st'.map wa/\ws=[some (.clo i c),some (.int (S.length:Nat)),some (.int (O.length:Nat)),some (.tup [kW m,.fl (st.map wa)]),some (.ref T),some (.ref U),some (kW tp),some (kW op),y]/\Kx [T,U,b] (up (up h T (.lst [])) U (.lst [])) h'/\h' T=some (.lst d1)/\h' U=some (.lst d2)/\Cur w g' s1 tp/\Cur w g' o1 op/\Gr w g' st' s1 o1 S O/\aw h' b w g' n' i c/\Ex g g'/\n'+2*st'.length<=n+2*st.length/\d1.length+st'.length<=40/\d2.length+st'.length<=40) ?_ ?_ ⟨st,s0,s0,m,m,[],[],n,g,none,rfl,rfl,Kx.rfl',by rw[ag (ab ut),ao],ao,cm,cm,gr,s.am (by rw[ag (ab ub),ag (ab tb)]),Ex.rfl',sn _,by simpa using sl,by simpa using sl⟩
 ·rintro x its ws h' d d d d d ⟨st',s1,o1,tp,op,d1,d2,n',g',y,e,rfl,kx,hT',hU',ct,co,r,s',x1,hn',hd1,hd2⟩ K
  have le:=r.le
  cases r with
  |nil=>injection e
  | @lo st2 _ _ x2 k _ _ hh h2 cu r=>
    cases e
    have le2:=r.le
    refine⟨.inl ⟨rfl,_,hT'⟩,_,at0,_,bA (j:=1) rfl,0,tp,k,rfl,T,_,_,rfl,rfl,hT',by rw[VE];simp at hd1;lia,i,c,rfl,s'.kind,.inl ⟨_,_,_,rfl,ao,dG,?_⟩⟩
    refine aw.trm (s'.am (ag (ab tb))) (Trm.joint hh h2 ct cu) (fun z=>by have:=wS z;lia) (by simp at hn';lia) fun v g2 h2' kp s2 x2' cv=>⟨_,at0,.sc rfl,fun bb hb=>Sel.no (XO.mpr fun z=>by have:=hb.mp z;cases this) ⟨trivial,?_⟩⟩
    exact K _ _ ⟨st2,_,o1,v,op,d1++[tmW (jtT 0 tp k)],d2,n'+1,g2,_,rfl,rfl,(kx.trans (Kx.up (by simp))).trans (kp.x (by simp)),(kp T tb).trans ao,(kp U ub).trans ((ag ut).trans hU'),cv,co.ex x2',r.ex x2',s2,x1.trans x2',by simp at hn';lia,by simp at hd1⊢;lia,by simp at hd2;lia⟩
  | @hi st2 _ _ x2 k _ _ hh h2 ho h2o cu r=>
    cases e
    have le2:=r.le
    refine⟨.inl ⟨rfl,_,hT'⟩,_,at0,_,bA (j:=1) rfl,1,tp,k,rfl,T,_,_,rfl,rfl,hT',by rw[VE];simp at hd1;lia,i,c,rfl,s'.kind,.inl ⟨_,_,_,rfl,ao,dG,?_⟩⟩
    refine aw.trm (s'.am (ag (ab tb))) (Trm.joint hh h2 cu ct) (fun z=>by have:=wS z;lia) (by simp at hn';lia) fun v g2 h2' kp s2 x2' cv=>⟨_,at0,.sc rfl,fun bb hb=>Sel.yes (hb.mpr rfl) ?_⟩
    have hU2:h2' U=some (.lst d2):=(kp U ub).trans ((ag ut).trans hU')
    refine⟨.inl ⟨rfl,_,hU2⟩,_,at0,_,bA (j:=1) rfl,1,op,k,rfl,U,_,_,rfl,rfl,hU2,by rw[VE];simp at hd2;lia,i,c,rfl,s2.kind,.inl ⟨_,_,_,rfl,ao,dG,?_⟩⟩
    refine aw.trm (s2.am (ag (ab ub))) (Trm.joint ho h2o (cu.ex x2') (co.ex x2')) (fun z=>by have:=wO z;lia) (by simp at hn';lia) fun v2 g3 h3 kp3 s3 x3 cv3=>⟨trivial,?_⟩
    exact K _ _ ⟨st2,_,_,v,v2,d1++[tmW (jtT 1 tp k)],d2++[tmW (jtT 1 op k)],n'+1+1,g3,_,rfl,rfl,(((kx.trans (Kx.up (by simp))).trans (kp.x (by simp))).trans (Kx.up (by simp))).trans (kp3.x (by simp)),(kp3 T tb).trans ((ag (ab ut)).trans ((kp T tb).trans ao)),(kp3 U ub).trans ao,cv.ex x3,cv3,r.ex (x2'.trans x3),s3,(x1.trans x2').trans x3,by simp at hn';lia,by simp at hd1⊢;lia,by simp at hd2⊢;lia⟩
 ·rintro ws h' ⟨st',s1,o1,tp,op,d1,d2,n',g',y,e,rfl,kx,hT',hU',ct,co,r,s',x1,hn',hd1,hd2⟩
  cases r with
  |lo=>injection e
  |hi=>injection e
  |nil=>
   have hU2:(up h' T (.lst (d1++[tmW (rwK S.length tp)]))) U=some (.lst d2):=(ag ut).trans hU'
   refine⟨.inl ⟨rfl,_,hT'⟩,av (by simp),T,_,_,rfl,rfl,hT',by rw[VE];simp at hd1;lia,.inl ⟨rfl,_,hU2⟩,av (by simp),U,_,_,rfl,rfl,hU2,by rw[VE];simp at hd2;lia,av (by simp),?_⟩
   refine Po (l:=d1++[tmW (rwK S.length tp)]) (m:=d2++[tmW (rwK O.length op)]) (by rw[ag (ab ut),ao];rfl) (by rw[ao];rfl) ?_
   refine q d1 d2 tp op g' _ ?_ ((s'.le (by simp at hn' sl;lia)).am ?_) x1 ct co
   ·have:=Lk (as:=[b]) hT hU ((kx.trans (Kx.up (a:=T) (o:=.lst (d1++[tmW (rwK S.length tp)])) (by simp))).trans (Kx.up (a:=U) (o:=.lst (d2++[tmW (rwK O.length op)])) (by simp)))
    exact fun a na=>this a (by simp[na])
   ·rw[bz (ab ub),bz (ab tb),ag (ab ub),ag (ab tb)])
def Am:FA T T.U1 1 qz:=okN T.U1.f dv (yZ) (fun hr=>
 af (az 2 dv.nd (dz (ae))) (af (az 3 dv.nd (b7)) (af (az 4 dv.nd (aA dq (aF bV T.e9 VJ (ac (aa 1) (ae))) (b7))) (af (fI (fb 5 dv.nd) (fJ (aa 0)) (aj (aK (aJ (bF hr.units150) (aa 5) (b7)) (af (bi (dQ VC Vw Vx eV (aa 2) (ac (bf (ac (aa 5) (ac (aP (ixW hr.units1) (aa 1) (aa 4)) (ae)))) (ae)))) (aj (az 4 dv.nd (aA dq (aa 4) (b7))))) (af (bi (dQ VC Vw Vx eV (aa 2) (ac (bf (ac (aa 5) (ac (aP (ixW hr.units1) (aa 1) (aa 3)) (ae)))) (ae)))) (aj (az 3 dv.nd (aA bO (aa 3) (b7))))))) Wb) (aj (ar (bf (ac (aP (ixW hr.units1) (aa 1) (aa 3)) (ac (PB T.adP T.adr rfl (ac (aa 2) (ae))) (ae)))))))))) (by
 rintro l h Q X ⟨ts,ks,m,st,rfl,dl,hl,q⟩
 have l0:=dl.len
 refine⟨av (by simp),.inr fun T hT=>⟨trivial,trivial,?_⟩⟩
 refine gl (fun its ws h'=>∃(ts':List Int)(ks' pre post:List Key)(st' dn:List (Int×Key))(y:Option W),its=cg ts'/\ws=[some (.fl (cg ts)),some (.tup (Wt kW ks)),some (.ref T),some (.int (pre.length:Nat)),some (.int ((pre.length+ts'.length:Nat):Int)),y]/\h'=up h T (.lst (dn.map wa))/\ks=pre++ks'++post/\Dl ts' ks' m st'/\dn++st'=st) ?_ ?_ ⟨ts,ks,[],[],st,[],none,rfl,?_,rfl,by simp,dl,rfl⟩
 ·rintro x its ws h' b b b b b ⟨ts',ks',pre,post,st',dn,y,e,rfl,rfl,ek,d,es⟩ K
  have dn1:dn.length<=1000:=by rw[<-es]at l0;simp at l0;lia
  cases d with
  |nil=>injection e
  | @lo ts2 ks2 _ st2 k d=>
    cases e
    have l2:=d.len
    have ek2:ks=(pre++ks2)++k::post:=by rw[ek];simp
    refine⟨.sc rfl,fun bb hb=>Sel.yes (hb.mpr rfl) ⟨.inl ⟨rfl,_,ao⟩,kW k,?_,av (by simp),T,_,_,rfl,rfl,ao,by rw[VE];simp;lia,trivial,trivial,?_⟩⟩
    ·rw[ek2,show((pre.length+(0::ts2:List Int).length:Nat):Int)=((pre++ks2).length:Nat)by simp;lia];exact CP
    ·refine K _ _ ⟨ts2,ks2,pre,k::post,st2,dn++[(0,k)],some (.int 0),rfl,?_,by rw[dU];simp,by rw[ek];simp,d,by rw[<-es];simp⟩
     show[_,_,_,_,some (W.int (((pre.length+(ts2.length+1):Nat):Int)- 1)),_]=_
     rw[show(((pre.length+(ts2.length+1):Nat):Int)- 1)=((pre.length+ts2.length:Nat):Int)by lia]
  | @hi ts2 ks2 _ st2 k d=>
    cases e
    have l2:=d.len
    have ek2:ks=pre++k::(ks2++post):=by rw[ek];simp
    refine⟨.sc rfl,fun bb hb=>Sel.no (XO.mpr fun z=>by have:=hb.mp z;cases this) ⟨.inl ⟨rfl,_,ao⟩,kW k,?_,av (by simp),T,_,_,rfl,rfl,ao,by rw[VE];simp;lia,trivial,?_⟩⟩
    ·rw[ek2];exact CP
    ·refine K _ _ ⟨ts2,ks2,pre++[k],post,st2,dn++[(1,k)],some (.int 1),rfl,?_,by rw[dU];simp,by rw[ek];simp,d,by rw[<-es];simp⟩
     show[_,_,_,some (W.int ((pre.length:Int)+1)),some (W.int ((pre.length+(ts2.length+1):Nat):Int)),_]=_
     rw[show((pre.length:Int)+1)=((pre++[k]).length:Nat)by simp,show((pre.length+(ts2.length+1):Nat):Int)=(((pre++[k]).length+ts2.length:Nat):Int)by simp;lia]
 ·rintro ws h' ⟨ts',ks',pre,post,st',dn,y,e,rfl,rfl,ek,d,es⟩
  cases d with
  |lo=>injection e
  |hi=>injection e
  |nil=>
   rw[Wc]at es;subst es
   refine⟨kW m,?_,_,_,rfl,.inl (.inr ⟨T,rfl,ao⟩),.inl ⟨av (by simp),.sub (h2:=h) (fun a o e=>?_) ?_⟩⟩
   ·rw[ek,Wr];exact CP
   ·rw[ag (fun z=>by rw[z,hT]at e;injection e)];exact e
   ·rw[<-ab4];exact q
 ·show[_,_,_,_,some (W.int ((((Wt kW ks).length:Nat):Int)- 1)),_]=[_,_,_,_,some (W.int ((0+ts.length:Nat):Int)),_]
  rw[Vy,show((ks.length:Nat):Int)- 1=((0+ts.length:Nat):Int)by lia]
  rfl)
def wA:FA T T.N0 7 lX:=okN T.N0.f gu (vW) (fun hr=>
 af (aK (bp (bd (aB (vt T) hr.le T.T8 (ac (aa 1) (ac (aa 2) (ae)))))) (aj (cz)) (aG)) (af (az 4 gu.nd (aB (yi T) hr.le T.M9 (ac (aa 1) (ac (aa 2) (ae))))) (af (aK (bp (bd (aB (qY T) hr.le T.N5 (ac (mq (aJ (bF hr.units150) (aa 1) (b7)) (b7) (aA bO (aF bV T.e9 VJ (ac (aa 4) (ae))) (b7))) (ac (aa 3) (ae)))))) (aj (cz)) (aG)) (af (aK (aJ (bF hr.units150) (aa 2) (b7)) (af (az 5 gu.nd (mq (aJ (bF hr.units150) (aa 1) (b7)) (aB (iI T) hr.le T.C4 (ac (aa 0) (ae))) (dz (ac (bf (ac (c6) (ac (aa 1) (ac (aP (ixW hr.units1) (aa 3) (b7)) (ae))))) (ae))))) (aj (ar (bf (ac (aa 5) (ac (aB (iI T) hr.le T.C4 (ac (aa 0) (ae))) (ae))))))) (aG)) (aj (ar (aB (yY T) hr.le T.Q3 (ac (aa 0) (ac (aa 1) (ac (aa 2) (ac (aB (Am T) hr.le T.U1 (ac (aa 4) (ac (aa 3) (ae)))) (ae)))))))))))) (by
 rintro l h Q X ⟨b,w,g,n,i,c,es,d,ks,rfl,s,hn,hl,hw,hd,pp,q⟩
 have tl:=jv es.length es.length d
 refine⟨es.length,d,rfl,by lia,hd,Sel.no rfl ⟨es.length,d,rfl,hd,by lia,.sc rfl,fun b0 hb0=>eh hb0 (fun e0=>?_) fun e0=>?_⟩⟩
 ·have e0:es=[]:=YY.mp (by lia)
  subst e0
  have d0:d=0:=by simpa using hd
  subst d0
  obtain rfl:ks=[]:=by rcases pp with⟨j,e⟩|⟨e,j⟩;exact e;simp at e
  refine⟨0,[],rfl,rfl,by lia,nofun,Sel.no rfl ⟨.sc rfl,fun b1 hb1=>Sel.yes (hb1.mpr rfl) ⟨.sc rfl,fun b2 hb2=>Sel.yes (hb2.mpr rfl) ⟨b,w,g,n,i,c,rfl,s,by lia,fun u g' h' k s' x cu=>?_⟩⟩⟩⟩
  exact⟨b,w,g',n+1,i,c,rfl,s',by lia,fun v g2 h2 k2 s2 x2 cv=>⟨av (by simp),.id (q [tmW lx] [tmW lx] u v g2 h2 (k.trans k2) (s2.le (by lia)) (x.trans x2) (cu.ex x2) cv)⟩⟩
 ·rcases pp with⟨e,j⟩|⟨h1,ts,gm⟩
  ·subst e;exact absurd rfl e0
  have ets:=gm.turns es.length (sn _)
  have kl:=gm.len
  have tl2:ts.length<=34:=by rw[ets];lia
  refine⟨ks.length,ks,?_,rfl,by lia,gm.ok,Sel.no rfl ⟨.sc rfl,fun b1 hb1=>eh hb1 (fun e1=>?_) fun e1=>?_⟩⟩
  ·rw[<-ets,show((cg ts).length:Int)+1=((ks.length:Nat):Int)by simp[cg];lia]
  ·have d0:d=0:=by lia
   subst d0
   cases gm with
   |lo a=>lia
   |hi a=>lia
   | @fin _ _ k _ cu=>
     refine⟨.sc rfl,fun b2 hb2=>eh hb2 (fun e2=>absurd e2 e0) fun e2=>⟨_,at0,av (by simp),av (by simp),.inl ⟨b,w,g,n,i,c,rfl,s,by lia,fun v g2 h2 k2 s2 x2 cv=>⟨av (by simp),.id (q [] [tmW lx] k v g2 h2 k2 (s2.le (by lia)) x2 (cu.ex x2) cv)⟩⟩⟩⟩
  ·obtain⟨m,st,dl,up⟩:=gm.gr (S:=es) (O:=es.take d) (by lia) hd
   obtain⟨s0,c0,gr⟩:=up .nil
   rw[Wc]at gr
   have ol:(es.take d).length=d:=by rw[VN];lia
   refine⟨ts,ks,m,st,by rw[<-ets],dl,by lia,b,w,g,n,i,c,st.reverse,m,s0,es,es.take d,by rw[ol],s,by lia,hl,by lia,hw,fun z=>by have:=hw z;lia,by rw[Zw,dl.len.2];lia,c0,gr,fun d1 d2 u v g' h' k s' x cu cv=>.id ?_⟩
   rw[ol];exact q d1 d2 u v g' h' k (s'.le (by lia)) x cu cv)
def jR:FA T T.x0 8 jA:=okN T.x0.f fW (uh) (fun hr=>
 af (bi (aB (iH T) hr.le T.C3 (ac (aa 1) (ae)))) (af (az 4 fW.nd (aB (wA T) hr.le T.N0 (ac (aa 0) (ac (aP (ixW hr.units1) (aa 1) (b7)) (ac (aa 2) (ac (aa 3) (ae))))))) (af (az 5 fW.nd (dj (cH T) hr.le (aa 0) (ac (aP (ixW hr.units1) (aP (ixW hr.units1) (aa 4) (b7)) (fM (b7))) (ae)))) (af (aK (aJ (oG hr.units150) (aa 5) (aP (ixW hr.units1) (aa 1) (b7))) (aj (cz)) (aG)) (aj (ar (dj (cH T) hr.le (aa 0) (ac (aP (ixW hr.units1) (aP (ixW hr.units1) (aa 4) (b7)) (fM (b7))) (ae))))))))) (by
 rintro l h Q X ⟨b,w,g,n,i,c,es,d,ks,mk,rfl,s,hn,hl,hw,hd,pp,hm,ok,q⟩
 have ol:(es.take d).length=d:=by rw[VN];lia
 refine⟨es.length,mk,rfl,by lia,ok,_,at0,b,w,g,n,i,c,es,d,ks,rfl,s,by lia,hl,hw,hd,pp,fun d1 d2 u v g' h' k s' x cu cv=>⟨i,c,rfl,s'.kind,_,at0,_,dG,?_⟩⟩
 refine aw.row s' cu (by lia) hw (by lia) fun a g2 h2 k2 s2 x2 sm mk2=>⟨_,bA (j:=1) rfl,zh _ _,fun bb hb=>Sel.no (by rw[hb.mpr (by rw[mk2.one (hm.ex (x.trans x2))])];rfl) ⟨i,c,rfl,s2.kind,_,bA (j:=1) rfl,_,dG,?_⟩⟩
 have:=aw.row (Q:=(xE Q X).rt) (X:=fun e h1=>(xE Q X).er e [] h1) s2 (cv.ex x2) (by lia) (fun z=>by have:=hw z;lia) (by lia) fun a2 g3 h3 k3 s3 x3 sm3 mk3=>.id (q a2 g3 h3 ((k.trans k2).trans k3) s3 ((x.trans x2).trans x3) sm3 mk3)
 rw[ol]at this;exact this)
theorem eJ:∀n:Nat,FB T T.d3 (145+n) (eO n)
 |0=>lV oJ
 |f+1=>okN T.d3.f fZ (ow (f+1)) (fun(hr:aZ (145+f) _)=>
 af (aK (z_w (jn (aJ (bF hr.units150) (aa 3) (b7)) (jX (aJ (bF hr.units150) (aa 3) (aa 2))))) (aj (ar (bf (ac (aN (aa 0) (mwc (c:=25) T.b9 T.d5 (cG T 70).1 hr.le T.c8.b (mwn)) (ac (aa 1) (ac (aa 2) (ae)))) (ae))))) (aG)) (af (az 4 fZ.nd (aB (oz T) hr.le T.act (ac (aa 2) (ae)))) (af (aK (aJ fT (aa 3) (aa 4)) (aj (ar (aA bO (aN (aa 0) (mwc (c:=25) T.b9 T.q8 (eJ f) hr.le T.d3.b (mwn)) (ac (aa 1) (ac (aa 4) (ac (aa 3) (ae))))) (bf (ac (aN (aa 0) (mwc (c:=25) T.b9 T.d5 (cG T 70).1 hr.le T.c8.b (mwn)) (ac (aA bO (aa 1) (aa 4)) (ac (aA dq (aa 2) (aa 4)) (ae)))) (ae)))))) (aG)) (aj (ar (aA bO (bf (ac (aN (aa 0) (mwc (c:=25) T.b9 T.d5 (cG T 70).1 hr.le T.c8.b (mwn)) (ac (aa 1) (ac (aa 4) (ae)))) (ae))) (aN (aa 0) (mwc (c:=25) T.b9 T.q8 (eJ f) hr.le T.d3.b (mwn)) (ac (aA bO (aa 1) (aa 4)) (ac (aA dq (aa 2) (aa 4)) (ac (aA dq (aa 3) (aa 4)) (ae))))))))))) (by
 rintro l h Q X ⟨b,w,g,n,i,c,L,D,es,kv,a,m,e,rfl,r,Lb,Db,s,hn,hm,h1,he,hf,q⟩
 have le:=r.le
 have sl:=fq hm
 have tc:∀k,1<=k->tC k+1=2*k:=fun k hk=>tC1 hk
 have stop:(e=0\/m<=e)->Gd (yw (dc (wM [(25,(fi 70))] "top_of" (bJ 0) (dc (bJ 1) (dc (bJ 2) (eS)))) (eS))) (xE Q X) (qZ 5 [ff i c L D,.int (a:Nat),.int (m:Nat),.int (e:Nat)]) h:=fun z=>
  ⟨25,_,_,.inl rfl,cW,rfl,b,w,g,n,i,c,L,D,es,kv,a,m,rfl,r,Lb,Db,s,by have:=tc m h1;lia,hm,by lia,fun v kv' g' h' k1 r1 s1 x1 sm sd=>⟨av (by simp),.id (q [v] [] kv' g' h' k1 (r1.mv Ex.rfl' (by have:=tc m h1;lia) rfl rfl) (s1.le (by have:=tc m h1;lia)) x1 (.fin (by rw[sl];exact z) ⟨by rw[sl];exact sm,sd⟩))⟩⟩
 refine⟨.sc rfl,fun b1 hb1=>eh hb1 (fun e1=>Sel.t (stop (by lia))) fun e1=>⟨.sc rfl,fun b2 hb2=>eh hb2 (fun e2=>stop (by lia)) fun e2=>?_⟩⟩
 have h2:2<=m:=by lia
 obtain⟨g1,g2⟩:=cJ h2
 refine⟨m,rfl,h2,by lia,Sel.dec (fun z=>?_) fun z=>?_⟩
 ·refine⟨25,_,_,.inl rfl,cW,rfl,b,w,g,n,i,c,L,D,es,kv,a,ak m,e,rfl,r,Lb,Db,s,by lia,by lia,g1,by lia,by lia,fun ks ts kv1 g1' h1' k1 r1 s1 x1 gm=>?_⟩
  refine⟨25,_,_,.inl rfl,cW,rfl,trivial,b,w,g1',_,i,c,L,D,es,kv1,a+ak m,m- ak m,by dsimp only;rw[pA,pf (by lia)],r1,Lb,Db,s1,by have:=tc (m- ak m) (by lia);lia,by lia,by lia,fun v kv2 g2' h2' k2 r2 s2 x2 sm sd=>⟨av (by simp),?_⟩⟩
  have:=tc (m- ak m) (by lia)
  refine⟨av ?_,.id ?_⟩
  ·have l1:=gm.len;have l2:=gm.turns m (by rw[fq (by lia)];lia);have l3:=jv m ((es.drop a).take (ak m)).length e;rw[<-l2]at l3;simp;lia
  have e3:(ks.map kW)++[kW v]=(ks++[v]).map kW:=by simp
  rw[e3]
  refine q (ks++[v]) (0::ts) kv2 g2' h2' (k1.trans k2) (r2.mv Ex.rfl' (by lia) rfl rfl) (s2.le (by lia)) (x1.trans x2) (.lo (by lia) (by rw[sl];lia) (by rw[sl];lia) ?_ ?_)
  ·rw[sl,oK (by lia)];exact gm.ex x2
  ·rw[sl,oU];exact⟨by rw[fq (by lia)];exact sm,sd⟩
 ·refine⟨25,_,_,.inl rfl,cW,rfl,b,w,g,n,i,c,L,D,es,kv,a,ak m,rfl,r,Lb,Db,s,by have:=tc (ak m) (by lia);lia,by lia,by lia,fun v kv1 g1' h1' k1 r1 s1 x1 sm sd=>⟨av (by simp),?_⟩⟩
  have:=tc (ak m) (by lia)
  refine⟨25,_,_,.inl rfl,cW,rfl,trivial,trivial,b,w,g1',_,i,c,L,D,es,kv1,a+ak m,m- ak m,e- ak m,by dsimp only;rw[pA,pf (by lia),pf (by lia)],r1,Lb,Db,s1,by lia,by lia,by lia,by lia,by lia,fun ks ts kv2 g2' h2' k2 r2 s2 x2 gm=>?_⟩
  refine⟨av ?_,.id ?_⟩
  ·have l1:=gm.len;have l2:=gm.turns m (by rw[fq (by lia)];lia);have l3:=jv m ((es.drop (a+ak m)).take (m- ak m)).length (e- ak m);rw[<-l2]at l3;simp;lia
  have e3:[kW v]++(ks.map kW)=(v::ks).map kW:=by simp
  rw[e3]
  refine q (v::ks) (1::ts) kv2 g2' h2' (k1.trans k2) (r2.mv Ex.rfl' (by lia) rfl rfl) (s2.le (by lia)) (x1.trans x2) (.hi (by rw[sl];lia) (by rw[sl];lia) ?_ ?_)
  ·rw[sl,oU];exact gm
  ·rw[sl,oK (by lia)];exact⟨by rw[fq (by lia)];exact sm,sd.ex x2⟩)
def oY:FB T T.p9 216 gh:=okN T.p9.f oX (nC) (fun hr=>
 af (aK (bp (bd (aN (aa 0) (mwc (c:=25) T.b9 T.E5 (fB T) hr.le T.g0.b (mwn)) (ac (aa 1) (ac (aa 2) (ae)))))) (aj (cz)) (aG)) (aj (ar (mq (aJ Oy (aa 1) (b7)) (aN (aa 0) (mwc (c:=25) T.b9 T.q8 (eJ T 70) hr.le T.d3.b (mwn)) (ac (b7) (ac (aa 1) (ac (aa 2) (ae))))) (bf (ae)))))) (by
 rintro l h Q X ⟨b,w,g,n,i,c,L,D,es,kv,m,e,rfl,r,Lb,Db,s,hn,hm,he,q0,q⟩
 have le:=r.le
 refine⟨25,_,_,.inl rfl,cW,rfl,i,c,L,D,es,m,e,rfl,r.hl,hm,he,by lia,Sel.no rfl (Sel.dec (fun z=>?_) fun z=>⟨av (by simp),.id (q0 (by lia))⟩)⟩
 exact⟨25,_,_,.inl rfl,cW,rfl,b,w,g,n,i,c,L,D,es,kv,0,m,e,rfl,r,Lb,Db,s,by lia,by lia,by lia,he,by lia,fun ks ts kv1 g1 h1 k1 r1 s1 x1 gm=>.id (q (by lia) ks ts kv1 g1 h1 k1 (r1.mv Ex.rfl' (by lia) rfl rfl) (s1.le (by lia)) x1 gm)⟩)
def jM:FB T T.y0 217 kg:=okN T.y0.f wj (ua) (fun hr=>
 aj (ar (mq (bd (aN (aC (aa 0)) (mwc (c:=25) T.b9 T.E5 (fB T) hr.le T.g0.b (mwn)) (ac (aa 1) (ac (aa 2) (ae))))) (aN (aC (aa 0)) (mwc (c:=25) T.b9 T.X8 (oY T) hr.le T.p9.b (mwn)) (ac (aa 1) (ac (aa 2) (ae)))) (wW)))) (by
 rintro l h Q X ⟨w,g,n,b,i,c,B,T,L,D,M,SD,t,es,m,d,rfl,a,hn,hm,hd,q⟩
 obtain⟨n1,n2,n3,n4,n5,n6,n7,n8,n9,n10⟩:=a.ne
 obtain⟨kv,r⟩:=a.rw
 have le:=r.le
 refine⟨_,rfl,25,_,_,.inl rfl,cW,rfl,i,c,L,D,es,m,d,rfl,r.hl,hm,hd,by lia,Sel.t ⟨_,rfl,25,_,_,.inl rfl,cW,rfl,b,w,g,n,i,c,L,D,es,kv,m,d,rfl,r,n2,n3,a.st,hn,hm,hd,fun z=>.id ?_,fun z ks ts kv' g' h' k r' s' x gm=>.id ?_⟩⟩
 ·exact q [] g h Kx.rfl' (a.op Kx.rfl' (r.mv Ex.rfl' (by lia) rfl rfl) (a.st.le (by lia)) Ex.rfl') Ex.rfl' (.inl ⟨by rw[z];rfl,rfl⟩)
 ·exact q ks g' h' k (a.op k r' s' x) x (.inr ⟨by rw[VN];lia,ts,gm⟩))
def uP:FA T T.U2 3 uA:=okN T.U2.f Dv (BH) (fun hr=>
 aj (ar (df (aB (mi T) hr.le T.M5 (ac (aa 0) (ae))) (df (aB (ef T) hr.le T.i7 (ac (aa 1) (ae))) (eu (jt fT mj (b7) (aa 1) (aa 0))))))) (by
 rintro l h Q X ⟨c,e,rfl,h1,h2,q⟩
 exact⟨c,rfl,h1,Sel.yes rfl ⟨_,"int",rfl,rfl,Sel.yes rfl (Sel.yes (decide_eq_true (by lia)) (.b (decide_eq_true (by lia)) q))⟩⟩)
def Et:FA T T.adO 2 Ef:=okN T.adO.f fY (Jk) (fun hr=>
 af (az 2 fY.nd (dz (ae))) (af (az 3 fY.nd (b7)) (af (az 4 fY.nd (aa 1)) (af (tu (aJ Oy (aa 4) (b7)) (af (az 5 fY.nd (aB (oz T) hr.le T.act (ac (aa 4) (ae)))) (aj (aK (aJ mj (aa 0) (aA bO (aa 3) (aa 5))) (af (bi (dQ VC Vw Vx eV (aa 2) (ac (b7) (ae)))) (aj (az 4 fY.nd (aa 5)))) (af (bi (dQ VC Vw Vx eV (aa 2) (ac (b7) (ae)))) (af (az 3 fY.nd (aA bO (aa 3) (aa 5))) (aj (az 4 fY.nd (aA dq (aa 4) (aa 5))))))))) Wb) (aj (ar (aa 2))))))) (by
 rintro l h Q X ⟨p,m,rfl,hp,hm,q⟩
 refine⟨av (by simp),.inr fun T hT=>?_⟩
 refine AQ (fun r ws h'=>∃(n f:Nat)(dn:List Int)(a:Option W),ws=[some (.int p),some (.int m),some (.ref T),some (.int (f:Nat)),some (.int (r:Nat)),a]/\h'=up h T (.lst (cg dn))/\f<=p/\p<f+r/\r<=n/\r<=1000/\dn++fS n r (p- f)=fS m m p) ?_ ⟨m,0,[],none,rfl,rfl,by lia,by lia,by lia,hm,rfl⟩
 rintro r ws h' K b b b ⟨n,f,dn,a,rfl,rfl,h1,h2,h3,h4,e⟩ kk
 have dl:dn.length<=1000:=by have:=oR m m p;rw[<-e]at this;simp at this;lia
 refine Sel.dec (fun z=>?_) fun z=>?_
 ·have r2:2<=r:=by lia
  obtain⟨g1,g2⟩:=cJ r2
  cases n with
  |zero=>lia
  |succ n=>
   rw[oa,if_neg (by lia)]at e
   refine⟨r,rfl,r2,h4,Sel.dec (fun y=>?_) fun y=>?_⟩
   ·have y:p<f+ak r:=by lia
    rw[if_pos (by lia)]at e
    refine⟨.inl ⟨rfl,_,ao⟩,T,_,_,rfl,rfl,ao,by rw[VE];simp[cg];lia,?_⟩
    exact kk (ak r) _ _ g2 ⟨n,f,dn++[0],_,rfl,by rw[dU];simp[cg],h1,y,by lia,by lia,by rw[Wr];exact e⟩
   ·have y:¬p<f+ak r:=by lia
    rw[if_neg (by lia)]at e
    refine⟨.inl ⟨rfl,_,ao⟩,T,_,_,rfl,rfl,ao,by rw[VE];simp[cg];lia,trivial,?_⟩
    exact kk (r- ak r) _ _ (by lia) ⟨n,f+ak r,dn++[1],_,by show[_,_,_,some (W.int ((f:Int)+((ak r:Nat):Int))),some (W.int ((r:Int)- ((ak r:Nat):Int))),_]=_;rw[pA,pf (by lia)],by rw[dU];simp[cg],by lia,by lia,by lia,by lia,by rw[Wr,show p- (f+ak r)=p- f- ak r by lia];exact e⟩
 ·have e2:fS n r (p- f)=[]:=by cases n;rfl;unfold fS;rw[if_pos (by lia)]
  rw[e2,Wc]at e
  subst e
  exact Bx hT q)
def uj:FA T T.E4 4 iP:=okN T.E4.f ug (rJ) (fun hr=>
 af (aK (z_w (jn (bp (bd (aF eG T.b8 Wf (ac (aa 1) (ac (fN T.X7 ZP) (ae)))))) (jX (aJ (oG hr.units150) (aF bV T.e9 VJ (ac (aa 1) (ae))) (b7))))) (aj (ar (eK))) (aG)) (aj (ar (df (aB (fE T) hr.le T.y9 (ac (aP (ixW hr.units1) (aa 1) (b7)) (ae))) (eu (aB (qY T) hr.le T.N5 (ac (aF bV T.e9 VJ (ac (aa 0) (ae))) (ac (aP (ixW hr.units1) (aa 1) (b7)) (ae))))))))) (by
 rintro l h Q X ⟨ts,e,ks,rfl,oe,ok,hl,h1,q⟩
 obtain⟨t,ht⟩:=tyK (h:=h) e
 refine⟨by decide,"tuple",rfl,Sel.no rfl ⟨.sc rfl,fun bb hb=>Sel.no (by rw[hb.mpr rfl];rfl) ⟨_,at0,_,t,rfl,ht,Sel.yes (stK oe) ⟨_,bA (j:=1) rfl,ks.length,ks,?_,rfl,h1,ok,.id q⟩⟩⟩⟩
 rw[show(cg ts).length=ks.length by simp[cg,hl]])
def zo:FA T T.Q4 6 mE:=okN T.Q4.f fv (wR) (fun hr=>
 af (aK (bp (bd (aB (uP T) hr.le T.U2 (ac (aa 1) (ac (aa 2) (ae)))))) (aj (cz)) (aG)) (af (az 4 fv.nd (aB (Et T) hr.le T.adO (ac (aa 2) (ac (aa 1) (ae))))) (af (aK (bp (bd (aB (uj T) hr.le T.E4 (ac (aa 4) (ac (aa 3) (ae)))))) (aj (cz)) (aG)) (af (az 5 fv.nd (dz (ac (bf (ac (c6) (ac (aP (ixW hr.units1) (aa 3) (b7)) (ae)))) (ae)))) (af (fI (fb 6 fv.nd) (SO T.adr (ac (Ny T.adP T.aeE rfl (ac (aa 4) (ac (aP (ixW hr.units1) (aa 3) (b7)) (ae)))) (ae))) (aj (bi (dQ VC Vw Vx eV (aa 5) (ac (aB (wb T) hr.le T.ad1 (ac (aP (ixW hr.units1) (aa 6) (b7)) (ac (dj (cH T) hr.le (aa 0) (ac (aP (ixW hr.units1) (aa 5) (fM (b7))) (ae))) (ac (aP (ixW hr.units1) (aa 6) (b7)) (ae))))) (ae))))) Wb) (af (bi (dQ VC Vw Vx eV (aa 5) (ac (bf (ac (c6) (ac (aa 1) (ac (dj (cH T) hr.le (aa 0) (ac (aP (ixW hr.units1) (aa 5) (fM (b7))) (ae))) (ae))))) (ae)))) (aj (ar (aa 5))))))))) (by
 rintro l h Q X ⟨b,w,g,n,i,c,es,p,e,ks,ts,rfl,s,hn,hl,hw,hp,he,em,pm,q⟩
 have ets:=pm.turns es.length (sn _)
 have kl:=pm.len
 have tl:ts.length<=34:=by have:=oR es.length es.length p;rw[<-ets]at this;lia
 obtain⟨e',he',up0⟩:=pm.up hp .nil
 rw[he]at he';cases he'
 rw[Wc]at up0
 refine⟨es.length,p,rfl,by lia,hp,Sel.no rfl ⟨p,es.length,rfl,hp,by lia,?_⟩⟩
 rw[<-ets]
 refine⟨ts,e,ks,rfl,em.1,pm.ok,kl,by lia,Sel.no rfl ⟨_,at0,av (by simp),av (by simp),.inr fun T hT=>?_⟩⟩
 have tb:=s.ne hT
 refine⟨_,bA (j:=1) rfl,_,_,_,_,rfl,.inl (.inl rfl),.inl rfl,by simp[cg,kl],_,rfl,trivial,?_⟩
 rw[HW,<-ab4]
 have sl:((ts.zip ks).reverse).length<=34:=by rw[Zw,List.length_zip];lia
 refine gl (fun its ws h'=>∃(st:List (Int×Key))(s' k:List Key)(dn:List W)(n':Nat)(g':bU)(y:Option W),its=st.map wa/\ws=[some (.clo i c),some (.int (es.length:Nat)),some (.int (p:Nat)),some (vH e ks),some (.fl (cg ts)),some (.ref T),y]/\Kx [T,b] (up h T (.lst [tmW [.inr "entry",e]])) h'/\h' T=some (.lst (dn++[tmW k]))/\Trm w g' s' k/\Up w g' st s' es/\aw h' b w g' n' i c/\Ex g g'/\n'+st.length<=n+34/\dn.length+st.length<=34) ?_ ?_ ⟨(ts.zip ks).reverse,[e],_,[],n,g,none,rfl,rfl,Kx.rfl',ao,.entry em,up0,s.am (ag (ab tb)),Ex.rfl',by lia,by simp at sl⊢;lia⟩
 ·rintro x its ws h' a a a a a ⟨st,s',k,dn,n',g',y,e1,rfl,kx,hT',tr,u,s1,x1,hn',hd⟩ K
  cases u with
  |nil=>injection e1
  | @lo st _ x1' k1 _ hh h2 cu u=>
    cases e1
    have l1:=u.le
    have l2:(s'++x1').length=s'.length+x1'.length:=VU
    refine⟨.inl ⟨rfl,_,hT'⟩,_,at0,i,c,rfl,s1.kind,.inl ⟨_,_,_,rfl,hT',dG,?_⟩⟩
    refine aw.trm s1 tr (fun z=>by have:=hw z;lia) (by simp at hn';lia) fun v g2 h2' kp s2 x2 cv=>⟨_,bA (j:=1) rfl,0,v,k1,rfl,T,_,_,rfl,rfl,(kp T tb).trans hT',by rw[VE];simp;lia,trivial,?_⟩
    exact K _ _ ⟨st,s'++x1',_,dn++[tmW k],n'+1,g2,_,rfl,rfl,(kx.trans (kp.x (by simp))).trans (Kx.up (by simp)),ao,.joint hh h2 cv (cu.ex x2),u.ex x2,s2.am (ag (ab tb)),x1.trans x2,by simp at hn';lia,by simp at hd⊢;lia⟩
  | @hi st _ x1' k1 _ hh h2 cu u=>
    cases e1
    have l1:=u.le
    have l2:(x1'++s').length=x1'.length+s'.length:=VU
    refine⟨.inl ⟨rfl,_,hT'⟩,_,at0,i,c,rfl,s1.kind,.inl ⟨_,_,_,rfl,hT',dG,?_⟩⟩
    refine aw.trm s1 tr (fun z=>by have:=hw z;lia) (by simp at hn';lia) fun v g2 h2' kp s2 x2 cv=>⟨_,bA (j:=1) rfl,1,v,k1,rfl,T,_,_,rfl,rfl,(kp T tb).trans hT',by rw[VE];simp;lia,trivial,?_⟩
    exact K _ _ ⟨st,x1'++s',_,dn++[tmW k],n'+1,g2,_,rfl,rfl,(kx.trans (kp.x (by simp))).trans (Kx.up (by simp)),ao,.joint hh h2 (cu.ex x2) cv,u.ex x2,s2.am (ag (ab tb)),x1.trans x2,by simp at hn';lia,by simp at hd⊢;lia⟩
 ·rintro ws h' ⟨st,s',k,dn,n',g',y,e1,rfl,kx,hT',tr,u,s1,x1,hn',hd⟩
  cases u with
  |lo=>injection e1
  |hi=>injection e1
  |nil=>
   refine⟨.inl ⟨rfl,_,hT'⟩,i,c,rfl,s1.kind,.inl ⟨_,_,_,rfl,hT',dG,?_⟩⟩
   refine aw.trm s1 tr hw (by simp at hn';lia) fun v g2 h2' kp s2 x2 cv=>⟨av (by simp),T,_,_,rfl,rfl,(kp T tb).trans hT',by rw[VE];simp at hd⊢;lia,?_⟩
   have kk:Kx [T,b] (up h T (.lst [tmW [.inr "entry",e]])) h2':=kx.trans (kp.x (by simp))
   have:=Bx (Q:=Q) (l:=dn++[tmW k]++[tmW (rwK es.length v)]) (h:=cut h2' T) (p:=T) cx (q _ v g2 _ (NE hT kk) ((s2.le (by simp at hn';lia)).am (bz (ab tb))) (x1.trans x2) cv)
   rw[HV]at this;exact this)
def An:FA T T.U3 7 qk:=okN T.U3.f Al (yu) (fun hr=>
 aj (ar (dj (cH T) hr.le (aa 0) (ac (aP (ixW hr.units1) (aB (zo T) hr.le T.Q4 (ac (aa 0) (ac (aa 1) (ac (aa 2) (ac (aa 3) (ae)))))) (fM (b7))) (ae))))) (by
 rintro l h Q X ⟨b,w,g,n,i,c,es,p,e,ks,ts,rfl,s,hn,hl,hw,hp,he,em,pm,q⟩
 refine⟨i,c,rfl,s.kind,b,w,g,n,i,c,es,p,e,ks,ts,rfl,s,by lia,hl,hw,hp,he,em,pm,fun dn u g' h' k s' x cu=>⟨_,dG,?_⟩⟩
 exact aw.row s' cu (by lia) hw (by lia) fun v g2 h2 k2 s2 x2 sm mk=>.id (q v g2 h2 (k.trans k2) s2 (x.trans x2) mk))
def lQ:FA T T.C6 8 kG:=okN T.C6.f lO (vN) (fun hr=>
 af (bi (aB (iH T) hr.le T.C3 (ac (aa 1) (ae)))) (af (az 4 lO.nd (aB (An T) hr.le T.U3 (ac (aa 0) (ac (aP (ixW hr.units1) (aa 1) (b7)) (ac (aa 2) (ac (aa 3) (ae))))))) (af (aK (aJ (oG hr.units150) (aa 4) (aP (ixW hr.units1) (aa 1) (b7))) (aj (cz)) (aG)) (aj (ar (aP (ixW hr.units1) (aa 3) (b7))))))) (by
 rintro l h Q X ⟨b,w,g,n,i,c,es,p,e,ks,ts,mk,rfl,s,hn,hl,hw,hp,he,em,pm,hm,ok,q⟩
 refine⟨es.length,mk,rfl,by lia,ok,_,at0,b,w,g,n,i,c,es,p,e,ks,ts,rfl,s,hn,hl,hw,hp,he,em,pm,fun u g' h' k s' x mu=>⟨_,bA (j:=1) rfl,zh _ _,fun bb hb=>Sel.no ?_ ⟨_,at0,.id (q g' h' k s' x)⟩⟩⟩
 rw[hb.mpr (by rw[mu.one (hm.ex x)])];rfl)
def jc:FB T T.p6 4 iW:=okN T.p6.f um (rG) (fun hr=>
 aj (ar (df (aB (uP T) hr.le T.U2 (ac (aa 1) (ac (aa 2) (ae)))) (eu (fH fT (aa 1) (da (aa 0) (mwc (c:=25) T.b9 T.N7 (gi T) hr.le T.B0.b (mwn)))))))) (by
 rintro l h Q X ⟨i,c,L,D,es,cn,el,rfl,hl,h1,h2,h3,q⟩
 exact⟨cn,el,rfl,by lia,h2,Sel.yes rfl ⟨25,_,_,.inl rfl,cW,rfl,i,c,L,D,es,rfl,hl,.b (decide_eq_true (by lia)) q⟩⟩)
def qT:FB T T.z7 146 gB:=okN T.z7.f bj (oW) (fun hr=>
 af (aK (bp (bd (aN (aa 0) (mwc (c:=25) T.b9 T.R0 (jc T) hr.le T.p6.b (mwn)) (ac (aa 1) (ac (aa 2) (ae)))))) (aj (cz)) (aG)) (af (az 3 bj.nd (dz (ae))) (af (az 4 bj.nd (b7)) (af (az 5 bj.nd (aa 1)) (af (fI (fb 6 bj.nd) (fJ (aB (Et T) hr.le T.adO (ac (aa 2) (ac (aa 1) (ae))))) (af (az 7 bj.nd (aB (oz T) hr.le T.act (ac (aa 5) (ae)))) (aj (aK (aJ (bF hr.units150) (aa 6) (b7)) (af (bi (dQ VC Vw Vx eV (aa 3) (ac (aN (aa 0) (mwc (c:=25) T.b9 T.d5 (cG T 70).1 hr.le T.c8.b (mwn)) (ac (aA bO (aa 4) (aa 7)) (ac (aA dq (aa 5) (aa 7)) (ae)))) (ae)))) (aj (az 5 bj.nd (aa 7)))) (af (bi (dQ VC Vw Vx eV (aa 3) (ac (aN (aa 0) (mwc (c:=25) T.b9 T.d5 (cG T 70).1 hr.le T.c8.b (mwn)) (ac (aa 4) (ac (aa 7) (ae)))) (ae)))) (af (az 4 bj.nd (aA bO (aa 4) (aa 7))) (aj (az 5 bj.nd (aA dq (aa 5) (aa 7))))))))) Wb) (aj (ar (bf (ac (aP (ixW hr.units1) (aC (aa 0)) (aa 2)) (ac (fO Nb T.X7 ZP (ac (aa 3) (ae))) (ae))))))))))) (by
 rintro l h Q X ⟨b,w,g,n,i,c,L,D,es,kv,m,p,rfl,r,Lb,Db,s,hn,hm,hp,q⟩
 have le:=r.le
 have tc:∀k,1<=k->tC k+1=2*k:=fun k hk=>tC1 hk
 refine⟨25,_,_,.inl rfl,cW,rfl,i,c,L,D,es,m,p,rfl,r.hl,hm,hp,by lia,Sel.no rfl ⟨av (by simp),.inr fun T hT=>?_⟩⟩
 have tb:=s.ne hT
 have tl:=aE r.hl hT
 have td:=aE r.hd hT
 refine⟨p,m,rfl,hp,by lia,trivial,?_⟩
 have em:(es.take m).length=m:=by rw[VN];lia
 refine gl (fun its ws h'=>∃(ts:List Int)(f x k n':Nat)(g':bU)(kv':List (List Key×Key))(dk:List Key)(tn ah:Option W),its=cg ts/\ws=[some (ff i c L D),some (.int m),some (.int p),some (.ref T),some (.int (f:Nat)),some (.int (x:Nat)),tn,ah]/\Kx [T,b,D] (up h T (.lst [])) h'/\h' T=some (ksO dk)/\dk.length+x<=m/\dy w g' n' h' L D es kv'/\aw h' b w g' n' i c/\Ex g g'/\n'+2*x<=n+2*m/\1<=x/\f<=p/\p<f+x/\f+x<=m/\x<=k/\ts=fS k x (p- f)/\PPs w g' (es.take m) p dk ((es.drop f).take x) (p- f)) ?_ ?_ ⟨fS m m p,0,m,m,n,g,kv,[],none,none,rfl,rfl,Kx.rfl',ao,by simp,r.mv Ex.rfl' (sn _) (ag (ab tl)) (ag (ab td)),s.am (ag (ab tb)),Ex.rfl',sn _,by lia,by lia,by lia,by lia,sn _,rfl,⟨fun _ pm=>⟨_,pm⟩⟩⟩
 ·rintro y its ws h' _ _ _ _ _ ⟨ts,f,x,k,n',g',kv',dk,tn,ah,e,rfl,kx,hT',dl,r1,s1,x1,hn',hx1,hf,hf2,hfx,hxk,ets,pp⟩ K
  cases k with
  |zero=>lia
  |succ k=>
   have sl:((es.drop f).take x).length=x:=fq (by lia)
   rw[oa]at ets
   split at ets
   ·subst ets;injection e
   rename_i x2
   have x2:2<=x:=by lia
   obtain⟨g1,g2⟩:=cJ x2
   split at ets
   ·rename_i lt
    subst ets
    cases e
    refine⟨x,rfl,x2,by lia,.sc rfl,fun bb hb=>Sel.yes (hb.mpr rfl) ⟨.inl ⟨rfl,_,hT'⟩,25,_,_,.inl rfl,cW,rfl,trivial,b,w,g',n',i,c,L,D,es,kv',f+ak x,x- ak x,by dsimp only;rw[pA,pf (by lia)],r1,Lb,Db,s1,by have:=tc (x- ak x) (by lia);lia,by lia,by lia,fun v kv2 g2' h2 k2 r2 s2 xx2 sm sd=>?_⟩⟩
    have c1:=tc (x- ak x) (by lia)
    have hT2:h2 T=some (ksO dk):=(k2 T (by simp[tb,td])).trans hT'
    refine⟨T,_,_,rfl,rfl,hT2,by rw[VE];simp;lia,?_⟩
    have cu:Cur w g2' (((es.drop f).take x).drop (ak ((es.drop f).take x).length)) v:=by rw[sl,oU];exact⟨by rw[fq (by lia)];exact sm,sd⟩
    have pp2:=(pp.ex xx2).lo (by rw[sl];exact x2) (by rw[sl];exact lt) cu
    rw[sl,oK (by lia)]at pp2
    refine⟨trivial,K _ _ ⟨_,f,ak x,k,n'+tC (x- ak x),g2',kv2,dk++[v],_,_,rfl,rfl,(kx.trans (k2.le (by simp))).trans (Kx.up (by simp)),by rw[ao];simp[ksO],by simp;lia,r2.mv Ex.rfl' (sn _) (ag (ab tl)) (ag (ab td)),s2.am (ag (ab tb)),x1.trans xx2,by lia,g1,hf,by lia,by lia,by lia,rfl,pp2⟩⟩
   ·rename_i lt
    subst ets
    cases e
    refine⟨x,rfl,x2,by lia,.sc rfl,fun bb hb=>Sel.no (XO.mpr fun z=>by have:=hb.mp z;cases this) ⟨.inl ⟨rfl,_,hT'⟩,25,_,_,.inl rfl,cW,rfl,b,w,g',n',i,c,L,D,es,kv',f,ak x,rfl,r1,Lb,Db,s1,by have:=tc (ak x) (by lia);lia,by lia,by lia,fun v kv2 g2' h2 k2 r2 s2 xx2 sm sd=>?_⟩⟩
    have c1:=tc (ak x) (by lia)
    have hT2:h2 T=some (ksO dk):=(k2 T (by simp[tb,td])).trans hT'
    refine⟨T,_,_,rfl,rfl,hT2,by rw[VE];simp;lia,trivial,?_⟩
    have cu:Cur w g2' (((es.drop f).take x).take (ak ((es.drop f).take x).length)) v:=by rw[sl,oK (by lia)];exact⟨by rw[fq (by lia)];exact sm,sd⟩
    have pp2:=(pp.ex xx2).hi (by rw[sl];exact x2) (by rw[sl];exact lt) cu
    rw[sl,oU]at pp2
    refine⟨trivial,K _ _ ⟨_,f+ak x,x- ak x,k,n'+tC (ak x),g2',kv2,dk++[v],some (.int 1),some (.int (ak x:Nat)),rfl,?_,(kx.trans (k2.le (by simp))).trans (Kx.up (by simp)),by rw[ao];simp[ksO],by simp;lia,r2.mv Ex.rfl' (sn _) (ag (ab tl)) (ag (ab td)),s2.am (ag (ab tb)),x1.trans xx2,by lia,by lia,by lia,by lia,by lia,by lia,by rw[show p- (f+ak x)=p- f- ak x by lia],by rw[show p- (f+ak x)=p- f- ak x by lia];exact pp2⟩⟩
    show[_,_,_,_,some (W.int ((f:Int)+((ak x:Nat):Int))),some (W.int ((x:Int)- ((ak x:Nat):Int))),_,_]=_
    rw[pA,pf (by lia)]
 ·rintro ws h' ⟨ts,f,x,k,n',g',kv',dk,tn,ah,e,rfl,kx,hT',dl,r1,s1,x1,hn',hx1,hf,hf2,hfx,hxk,ets,pp⟩
  cases ts with
  |cons=>injection e
  |nil=>
   have sl:((es.drop f).take x).length=x:=fq (by lia)
   have x1':x<=1:=by
    cases k with
    |zero=>lia
    |succ k=>
     rw[oa]at ets
     apply VZ;intro z
     rw[if_neg z]at ets
     split at ets<;>injection ets
   obtain⟨ts2,pm⟩:=pp.go Ex.rfl' (.fin (by rw[sl];exact x1'))
   rw[Wc]at pm
   have he:es[p]? =some es[p]:=Dc (by lia)
   refine⟨_,rfl,.inl ⟨_,_,kW es[p],rfl,r1.hl,atN (by rw[VG,he];rfl),_,_,rfl,.inl (.inr ⟨T,rfl,hT'⟩),av (by simp),?_⟩⟩
   exact .sub tU (q es[p] dk ts2 kv' g' _ (Hx hT kx) ((r1.mv Ex.rfl' (by lia) rfl rfl).cut tl td) ((s1.le (by lia)).am (bz (ab tb))) x1 he pm))
def kf:FB T T.y6 147 jD:=okN T.y6.f wm (tX) (fun hr=>
 aj (ar (mq (bd (aN (aC (aa 0)) (mwc (c:=25) T.b9 T.R0 (jc T) hr.le T.p6.b (mwn)) (ac (aa 1) (ac (aa 2) (ae))))) (aN (aC (aa 0)) (mwc (c:=25) T.b9 T.acY (qT T) hr.le T.z7.b (mwn)) (ac (aa 1) (ac (aa 2) (ae)))) (wW)))) (by
 rintro l h Q X ⟨w,g,n,b,i,c,B,T,L,D,M,SD,t,es,m,p,rfl,a,hn,hm,hp,q⟩
 obtain⟨n1,n2,n3,n4,n5,n6,n7,n8,n9,n10⟩:=a.ne
 obtain⟨kv,r⟩:=a.rw
 have le:=r.le
 exact⟨_,rfl,25,_,_,.inl rfl,cW,rfl,i,c,L,D,es,m,p,rfl,r.hl,hm,hp,by lia,Sel.t ⟨_,rfl,25,_,_,.inl rfl,cW,rfl,b,w,g,n,i,c,L,D,es,kv,m,p,rfl,r,n2,n3,a.st,hn,hm,hp,fun e ks ts kv' g' h' k r' s' x he pm=>.id (q e ks ts g' h' k (a.op k r' s' x) x he pm)⟩⟩)
def nv:FA T T.G5 218 ni:=okN T.G5.f gP (ym) (fun hr=>
 af (fI (fb 5 gP.nd) (xu T.ad2 (ac (aA bO (aa 4) (b7)) (ae))) (aj (aK (aJ (oG hr.units150) (aB (jR T) hr.le T.x0 (ac (aa 1) (ac (aP (ixW hr.units1) (aa 2) (aa 4)) (ac (aa 5) (ac (aN (aa 0) (mwc (c:=30) T.d4 T.V1 (jM T) hr.le T.y0.b (mwn)) (ac (aa 4) (ac (aa 5) (ae)))) (ae)))))) (aP (ixW hr.units1) (aP (ixW hr.units1) (aa 2) (aa 5)) (b7))) (aj (ar (eK))) (aG))) Wb) (af (fI (fb 6 gP.nd) (xu T.ad2 (ac (aa 4) (ae))) (aj (aK (aJ (oG hr.units150) (aB (lQ T) hr.le T.C6 (ac (aa 1) (ac (aP (ixW hr.units1) (aa 2) (aa 4)) (ac (aa 6) (ac (aN (aa 0) (mwc (c:=30) T.d4 T.V0 (kf T) hr.le T.y6.b (mwn)) (ac (aa 4) (ac (aa 6) (ae)))) (ae)))))) (aP (ixW hr.units1) (aa 3) (aa 6))) (aj (ar (eK))) (aG))) Wb) (aj (ar (eK))))) (by
 rintro l h Q X ⟨w,g,n,b,i,c,B,T,L,D,M,SD,He,Ro,t,es,hs,cn,rfl,a,hd,hH,hR,nH,nR,hc,hn,q⟩
 obtain⟨d,r0⟩:=a.rw
 have le:=r0.le
 have lw:=r0.lw
 have en:=r0.en
 clear r0
 obtain⟨uc,e1,e2⟩:=hd.get hc
 obtain⟨mkc,smc⟩:=hd.at_ cn uc e1
 have tl:(es.take cn).length=cn:=by rw[VN];lia
 refine⟨(cn:Int)+1,rfl,by lia,by lia,trivial,tH (fun k ws h'=>∃g' z5,ws=[some (hsV i c T L D M SD),some (.clo i c),some (.ref He),some (.ref Ro),some (.int (cn:Nat)),z5,none]/\Kx [b,D] h h'/\bn w g' (n+224*k) h' b i c B T L D M t es/\Ex g g') ?_ ?_ ⟨g,_,rfl,Kx.rfl',a,Ex.rfl'⟩⟩
 ·rintro k ws h' K d d d d hk ⟨g',z5,rfl,kx,a',x'⟩ kk
  have hk:k<=cn:=by lia
  obtain⟨uk,f1,f2⟩:=hd.get (VO hk hc)
  obtain⟨mkk,smk⟩:=hd.at_ k uk f1
  refine .inl ⟨_,_,_,rfl,(kx He nH).trans hH,e2,30,_,_,.inl rfl,cW,rfl,w,g',_,b,i,c,B,T,L,D,M,SD,t,es,cn,k,rfl,a',by lia,hc,hk,fun ks g2 h2 k2 a2 x2 pp=>?_⟩
  refine⟨b,w,g2,_,i,c,es.take cn,k,ks,uc,by rw[tl],a2.st,by lia,by lia,fun z=>by have:=lw z;lia,by lia,pp,(mkc.ex x').ex x2,smc.1,fun u g3 h3 k3 s3 x3 sm mk=>?_⟩
  have k3':Kx [b,D] h h3:=(kx.trans k2).trans (k3.x (by simp))
  refine .inl ⟨_,_,_,rfl,(k3' He nH).trans hH,f2,_,bA (j:=1) rfl,zh _ _,fun bb hb=>Sel.no ?_ ⟨trivial,kk _ _ ⟨g3,_,rfl,k3',(a2.kb k3 s3 x3 (by lia)).kb Kp.rfl' (s3.le (by lia)) Ex.rfl' (by lia),(x'.trans x2).trans x3⟩⟩⟩
  rw[Zt,Yd hk]at mk
  rw[hb.mpr (by rw[mk.one (((mkk.ex x').ex x2).ex x3)])];rfl
 ·rintro ws h1 ⟨g1,z5,rfl,kx1,a1,x1⟩
  have a1:bn w g1 (n+8000) h1 b i c B T L D M t es:=a1.kb Kp.rfl' (a1.st.le (by lia)) Ex.rfl' (by lia)
  refine⟨(cn:Int),rfl,by lia,by lia,trivial,tH (fun k ws h'=>∃g' z6,ws=[some (hsV i c T L D M SD),some (.clo i c),some (.ref He),some (.ref Ro),some (.int (cn:Nat)),z5,z6]/\Kx [b,D] h h'/\bn w g' (n+8000+111*k) h' b i c B T L D M t es/\Ex g g') ?_ ?_ ⟨g1,_,rfl,kx1,a1,x1⟩⟩
  ·rintro k ws h' K d d d d hk ⟨g',z6,rfl,kx,a',x'⟩ kk
   have hk:k<cn:=by lia
   refine .inl ⟨_,_,_,rfl,(kx He nH).trans hH,e2,30,_,_,.inl rfl,cW,rfl,w,g',_,b,i,c,B,T,L,D,M,SD,t,es,cn,k,rfl,a',by lia,hc,hk,fun e ks ts g2 h2 k2 a2 x2 he pm=>?_⟩
   have he2:(es.take cn)[k]?=some e:=by rw[XD,if_pos hk];exact he
   refine⟨b,w,g2,_,i,c,es.take cn,k,e,ks,ts,uc,by rw[tl],a2.st,by lia,by lia,fun z=>by have:=lw z;lia,by lia,he2,en e (VP he),pm,(mkc.ex x').ex x2,smc.1,fun g3 h3 k3 s3 x3=>?_⟩
   have k3':Kx [b,D] h h3:=(kx.trans k2).trans (k3.x (by simp))
   refine .inl ⟨_,_,_,rfl,(k3' Ro nR).trans hR,atN (by rw[VG,he];rfl),zh _ _,fun bb hb=>Sel.no (by rw[hb.mpr rfl];rfl) ⟨trivial,kk _ _ ⟨g3,_,rfl,k3',(a2.kb k3 s3 x3 (by lia)).kb Kp.rfl' (s3.le (by lia)) Ex.rfl' (by lia),(x'.trans x2).trans x3⟩⟩⟩
  ·rintro ws h2 ⟨g2,z6,rfl,kx2,a2,x2⟩
   exact .id (q g2 h2 kx2 (a2.kb Kp.rfl' (a2.st.le (by lia)) Ex.rfl' (by lia)) x2))
def Bu:FB T T.X1 3 su:=okN T.X1.f sI (Ap) (fun hr=>
 af (az 1 sI.nd (dH 25 T.aey T.b9 (jN T) hr.le T.aex T.w4.b (ac (aC (aa 0)) (ae)))) (af (bx (aa 1) (fO GP T.adP boot_list (ac (aC (aa 0)) (ae))) T.nl_entries) (aj (ar (aa 1))))) (by
 rintro l h Q X ⟨i,c,L,D,es,rfl,hl,q⟩
 refine⟨_,rfl,fun p hp=>⟨p,i,c,rfl,ao,fun L1 D1 hL1 hD1 ne=>⟨rfl,.id ?_⟩⟩⟩
 obtain⟨n1,hL1⟩:=aS hL1
 obtain⟨n2,hD1⟩:=aS hD1
 have pL:=aE hl hp
 have lL:=aE hl hL1
 have dL:=aE hl hD1
 have eL:up (up (up (up h p (.ins 25 [])) L1 (.lst [])) D1 (.dT [])) p (.ins 25 (rwF i c L1 D1)) L=some (ksO es):=by
  rw[ag (ab pL),ag (ab dL),ag (ab lL),ag (ab pL)];exact hl
 refine⟨_,rfl,_,_,rfl,.inl (.inl (.inr ⟨L,rfl,eL⟩)),.inr fun L2 hL2=>?_⟩
 obtain⟨m1,hL2⟩:=aS hL2
 obtain⟨m2,hL2⟩:=aS hL2
 obtain⟨m3,hL2⟩:=aS hL2
 obtain⟨d,hL2⟩:=aS hL2
 refine⟨p,25,_,rfl,(ag (ab m1)).trans ao,by simp,by simp[rwF],?_⟩
 refine⟨_,up (up h L2 (ksO es)) D1 (.dT []),fun a o e=>?_,.ins ao ?_,q L2 D1 hL2 hD1 m2⟩
 ·by_cases z1:a=D1
  ·subst z1
   rw[ao]at e;obtain rfl:=VR e
   rw[ag n2,ag (ab m2),ag n2,ao]
  ·rw[ag z1]at e
   by_cases z2:a=L2
   ·subst z2
    rw[ao]at e;obtain rfl:=VR e
    rw[ag m1,ao]
   ·rw[ag z2]at e
    have np:a≠p:=fun z=>by rw[z,hp]at e;injection e
    have nl:a≠L1:=fun z=>by rw[z,hL1]at e;injection e
    rw[ag np,ag z2,ag np,ag z1,ag nl,ag np];exact e
 ·rw[ag (ab n2),ag (ab m1)];exact hp)
def yT:FB T T.Q5 13 oy:=okN T.Q5.f nW (wD) (fun hr=>
 af (az 1 nW.nd (dH 30 T.aeh T.d4 (ib T) hr.le T.aec T.j7.b (ac (aC (aC (aa 0))) (ac (aC (aC (aa 0))) (ac (aC (aa 0)) (ae)))))) (af (bx (aa 1) (da (aC (aa 0)) (mwc (c:=24) T.C7 T.Y0 (nO T) hr.le T.G0.b (mwn))) T.nl_table) (af (bx (aa 1) (da (aC (aa 0)) (mwc (c:=25) T.b9 T.aef (Bu T) hr.le T.X1.b (mwn))) T.nl_row) (af (bx (aa 1) (fO GP T.adP boot_list (ac (aC (aa 0)) (ae))) T.nl_makes) (aj (ar (aa 1))))))) (by
 rintro l h Q X ⟨w,g,n,b,i,c,B,T,L,D,M,SD,t,es,sv,rfl,a,hn,nS,hS,sl,q⟩
 obtain⟨n1,n2,n3,n4,n5,n6,n7,n8,n9,n10⟩:=a.ne
 simp only[tx,If,or_false,not_or]at nS
 obtain⟨s1,s2,s3,s4,s5⟩:=nS
 obtain⟨v,m,e,kn⟩:=a.tb
 obtain⟨kv,r⟩:=a.rw
 obtain⟨ms,hM,lm⟩:=a.ml
 have st:=a.st
 refine⟨_,rfl,24,_,_,e,rfl,_,rfl,24,_,_,e,rfl,_,rfl,fun p hp=>?_⟩
 have pb:=st.ne hp
 have pT:=aE e hp
 have pL:=aE r.hl hp
 have pD:=aE r.hd hp
 have pM:=aE hM hp
 have pS:=aE hS hp
 refine⟨p,w,g,n,b,i,c,B,SD,sv,rfl,ao,pb,s1,pS,st.am (ag (ab pb)),by lia,a.b1,a.b2,(ag (ab pS)).trans hS,sl,fun T1 L1 D1 M1 u g1 h1 nd1 no1 k1 hp1 a1 x1 sm mk hS1=>⟨rfl,.id ?_⟩⟩
 have no:∀z∈[T1,L1,D1,M1],z≠p/\h z=none:=fun z hz=>aS (no1 z hz)
 have old:∀z o,h z=some o->z≠b->z≠SD->h1 z=some o:=fun z o hz zb zs=>by
  have zp:=aE hz hp
  rw[k1 z,ag (ab zp)]
  ·exact hz
  ·simp only[tx,If,or_false,not_or]
   refine⟨zb,?_,?_,?_,?_,zs,ab zp⟩<;>(intro y;subst y;have:=(no z (by simp)).2;rw[hz]at this;injection this)
 have eT:=old T _ e n1 (ab s2)
 refine⟨_,rfl,24,_,_,.inr ⟨T,rfl,eT⟩,cW,rfl,T,b,w,g1,n+3,i,c,B,v,rfl,eT,n1,a1.st,by lia,a.b1,a.b2,fun g2 h2 k2 st2 x2=>.inr fun T2 hT2=>?_⟩
 have hp2:h2 p=some (.ins 30 (hsF i c T1 L1 D1 M1 SD)):=(k2 p pb).trans hp1
 have T2p:=aE hp2 hT2
 have T2b:=st2.ne hT2
 have old2:∀z o,h1 z=some o->z≠b->h2 z=some o:=fun z o hz zb=>(k2 z zb).trans hz
 have L2':=old2 L _ (old L _ r.hl n2 (ab s3)) n2
 have M2':=old2 M _ (old M _ hM n4 (ab s5)) n4
 have S2':=old2 SD _ hS1 s1
 have T2L:=aE L2' hT2
 have T2M:=aE M2' hT2
 have T2S:=aE S2' hT2
 refine⟨p,30,hsF i c T1 L1 D1 M1 SD,rfl,(ag (ab T2p)).trans hp2,by simp,by simp[hsF],?_⟩
 refine⟨_,rfl,25,_,_,.inl rfl,cW,rfl,i,c,L,D,es,rfl,(ag (ab pL)).trans ((ag (ab T2L)).trans L2'),fun L2 D2 hL2 hD2 LD2=>?_⟩
 obtain⟨L2p,hL2⟩:=aS hL2
 obtain⟨L2T,hL2⟩:=aS hL2
 obtain⟨D2p,hD2⟩:=aS hD2
 obtain⟨D2T,hD2⟩:=aS hD2
 refine⟨p,30,hsF i c T2 L1 D1 M1 SD,rfl,(ag (ab D2p)).trans ((ag (ab L2p)).trans ao),by simp,by simp[hsF],?_⟩
 have ML2:=aE M2' hL2
 have MD2:=aE M2' hD2
 refine⟨_,rfl,_,ms,rfl,.inl (.inl (.inr ⟨M,rfl,(ag (ab pM)).trans ((ag (ab MD2)).trans ((ag (ab ML2)).trans ((ag (ab pM)).trans ((ag (ab T2M)).trans M2'))))⟩)),.inr fun M2 hM2=>?_⟩
 obtain⟨M2p,hM2⟩:=aS hM2
 obtain⟨M2D,hM2⟩:=aS hM2
 obtain⟨M2L,hM2⟩:=aS hM2
 obtain⟨d,hM2⟩:=aS hM2
 obtain⟨M2T,hM2⟩:=aS hM2
 refine⟨p,30,hsF i c T2 (L2) D2 M1 SD,rfl,(ag (ab M2p)).trans ao,by simp,by simp[hsF],?_⟩
 have live:∀z∈[p,T1,L1,D1,M1],z≠b/\∃o,h2 z=some o:=by
  obtain⟨m1,m2,m3,m4,d⟩:=a1.ne
  obtain⟨d,d,e1,d⟩:=a1.tb
  obtain⟨d,r1⟩:=a1.rw
  obtain⟨d,e4,d⟩:=a1.ml
  simp only[tx,If,or_false]
  rintro z (rfl|rfl|rfl|rfl|rfl)
  ·exact⟨pb,_,hp2⟩
  ·exact⟨m1,_,old2 _ _ e1 m1⟩
  ·exact⟨m2,_,old2 _ _ r1.hl m2⟩
  ·exact⟨m3,_,old2 _ _ r1.hd m3⟩
  ·exact⟨m4,_,old2 _ _ e4 m4⟩
 have off:∀{z},h2 z=none->z∉[p,T1,L1,D1,M1]:=fun e m=>by obtain⟨d,o,e2⟩:=live _ m;rw[e]at e2;injection e2
 generalize eH:up (up (up (up (up (up (up h2 T2 _) p _) L2 _) D2 _) p _) M2 _) p _=H
 have Hp:H p=some (.ins 30 (hsF i c T2 L2 D2 M2 SD)):=by rw[<-eH,ao];rfl
 have HM:H M2=some (.lst ms):=by rw[<-eH,ag M2p,ao]
 have HD:H D2=some (.dT []):=by rw[<-eH,ag D2p,ag (ab M2D),ag D2p,ao]
 have HL:H L2=some (ksO es):=by rw[<-eH,ag L2p,ag (ab M2L),ag L2p,ag LD2,ao]
 have HT:H T2=some (.ins 24 (tbF i c B v)):=by rw[<-eH,ag T2p,ag (ab M2T),ag T2p,ag (ab D2T),ag (ab L2T),ag T2p,ao]
 have HO:∀z,z≠p->z≠M2->z≠D2->z≠L2->z≠T2->H z=h2 z:=fun z z1 z2 z3 z4 z5=>by rw[<-eH,ag z1,ag z2,ag z1,ag z3,ag z4,ag z1,ag z5]
 have L2b:=st2.ne hL2
 have D2b:=st2.ne hD2
 have M2b:=st2.ne hM2
 have L2S:=aE S2' hL2
 have D2S:=aE S2' hD2
 have M2S:=aE S2' hM2
 have offT:=off hT2
 have offL:=off hL2
 have offD:=off hD2
 have offM:=off hM2
 have offb:b∉[p,T1,L1,D1,M1]:=fun m=>(live b m).1 rfl
 have offS:SD∉[p,T1,L1,D1,M1]:=by
  simp only[tx,If,or_false,not_or]
  refine⟨ab pS,?_,?_,?_,?_⟩<;>(intro y;have:=(no SD (by simp[y])).2;rw[hS]at this;injection this)
 have was:∀z,h2 z=none->z≠b->z≠SD->h z=none:=fun z e zb zs=>by
  cases ez:h z with
  |none=>rfl
  |some o=>rw[old2 z o (old z o ez zb zs) zb]at e;injection e
 refine⟨_,drp H [p,T1,L1,D1,M1],Nd,.ins Hp (GF (by simp)),q T2 L2 D2 M2 u g2 _ ?_ ?_ ?_ ?_ (x1.trans x2) sm (mk.ex x2) ?_⟩
 ·simp[ab L2T,ab D2T,ab M2T,LD2,ab M2L,ab M2D]
 ·simp only[tx,If,or_false]
  rintro z (rfl|rfl|rfl|rfl)
  ·exact was _ hT2 T2b T2S
  ·exact was _ hL2 L2b L2S
  ·exact was _ hD2 D2b D2S
  ·exact was _ hM2 M2b M2S
 ·intro z nz
  simp only[tx,If,or_false,not_or]at nz
  obtain⟨z1,z2,z3,z4,z5,z6⟩:=nz
  by_cases m:z∈[p,T1,L1,D1,M1]
  ·rw[GF m]
   simp only[tx,If,or_false]at m
   rcases m with rfl|m
   ·exact hp.symm
   ·exact(no z (by simpa using m)).2.symm
  ·rw[gH m]
   simp only[tx,If,or_false,not_or]at m
   rw[HO z m.1 z5 z4 z3 z2,k2 z z1,k1 z (by simp[z1,m,z6]),ag m.1]
 ·have Hb:drp H [p,T1,L1,D1,M1] b=h2 b:=(gH offb).trans (HO b (ab pb) (ab M2b) (ab D2b) (ab L2b) (ab T2b))
  refine⟨⟨v,m,(gH offT).trans HT,kn.ex (x1.trans x2)⟩,a.tr,a.b1,a.b2,a.sz,⟨[],(gH offL).trans HL,(gH offD).trans HD,fun k v e=>by simp[lk]at e,fun e he=>r.en e he,r.le,r.lw,by simp,LD2⟩,⟨ms,(gH offM).trans HM,lm⟩,st2.am Hb,?_⟩
  simp[ab T2b,ab L2b,ab D2b,ab M2b,ab L2T,ab D2T,ab M2T,LD2,ab M2L,ab M2D]
 ·exact(gH offS).trans ((HO SD (ab pS) (ab M2S) (ab D2S) (ab L2S) (ab T2S)).trans S2'))
def AC:FA T T.U4 218 pW:=okN T.U4.f cq (zi) (fun hr=>
 af (az 6 cq.nd (aF bV T.e9 VJ (ac (aa 5) (ae)))) (af (az 7 cq.nd (da (aa 0) (mwc (c:=30) T.d4 T.adG (yT T) hr.le T.Q5.b (mwn)))) (af (fI (SL rfl (Hj 8 cq.nd (Hj 9 cq.nd (Sz)))) (fJ (dz (ac (bf (ac (aa 0) (ac (c6) (ae)))) (ac (bf (ac (aa 7) (ac (c6) (ae)))) (ae))))) (af (az 10 cq.nd (fO Nw T.aeB boot_dict (ac (aa 4) (ae)))) (af (rp hr.units1 (aa 10) (b7) (aa 9)) (af (bi (aN (aa 8) (mwc (c:=30) T.d4 T.ad3 (pO T) hr.le T.K5.b (mwn)) (ac (b7) (ac (aa 9) (ae))))) (af (az 11 cq.nd (aB (gQ T 70) hr.le T.E3 (ac (aa 2) (ac (aa 3) (ac (aF (Cv rfl) T.ads aco (ac (AM XW YS aaw Gy (aa 10)) (ae))) (ae)))))) (af (az 12 cq.nd (aB (gj T) hr.le T.A2 (ac (aa 2) (ac (aA bO (aa 5) (dz (ac (aa 11) (ae)))) (ae))))) (af (aK (z_w (jn (bp (bd (aB (eZ T) hr.le T.l5 (ac (da (aa 8) (mwc (c:=30) T.d4 T.Y4 (nk T) hr.le T.G1.b (mwn))) (ac (aa 12) (ae)))))) (jn (bp (bd (aB (eZ T) hr.le T.l5 (ac (da (aa 8) (mwc (c:=30) T.d4 T.y7 (eR T) hr.le T.d8.b (mwn))) (ac (aa 12) (ae)))))) (jX (bp (bd (aN (aa 1) (mwc (c:=27) T.X2 T.X3 (kI T) hr.le T.C5.b (mwn)) (ac (aa 12) (ae))))))))) (aj (ar (eK))) (aG)) (af (az 13 cq.nd (aN (aa 8) (mwc (c:=30) T.d4 T.V1 (jM T) hr.le T.y0.b (mwn)) (ac (aA bO (aa 6) (b7)) (ac (aa 6) (ae))))) (af (aK (aJ (oG hr.units150) (aB (jR T) hr.le T.x0 (ac (aa 2) (ac (aa 12) (ac (aa 6) (ac (aa 13) (ae)))))) (aP (ixW hr.units1) (aB (gj T) hr.le T.A2 (ac (aa 2) (ac (aa 5) (ae)))) (b7))) (aj (ar (eK))) (aG)) (aj (aK (aJ (oG hr.units150) (aB (lQ T) hr.le T.C6 (ac (aa 2) (ac (aa 12) (ac (aa 6) (ac (aN (aa 8) (mwc (c:=30) T.d4 T.V0 (kf T) hr.le T.y6.b (mwn)) (ac (aA bO (aa 6) (b7)) (ac (aa 6) (ae)))) (ae)))))) (aa 11)) (aj (ar (eK))) (aG))))))))))) Wb) (aj (ar (eK)))))) (by
 rintro l h Q X ⟨w,g,n,b,i,c,B,T,L,D,M,SD,Kd,Ro,t,es,sv,kv,rfl,a,hS,hsl,hK,kno,kl,hR,nd,l1,l2,sz,wz,hn,q⟩
 simp only[VX,tx,If,or_false,not_or,Yo,and_true,not_false_eq_true]at nd
 obtain⟨⟨bT,bL,bD,bM,bS,bK,bR⟩,⟨TL,TD,TM,TS,TK,TR⟩,⟨LD,LM,LS,LK,LR⟩,⟨DM,DS,DK,DR⟩,⟨MS,MK,MR⟩,⟨SK,SR⟩,KR⟩:=nd
 refine .inl ⟨_,hR,?_⟩
 refine⟨30,_,_,.inl rfl,cW,rfl,w,g,n,b,i,c,B,T,L,D,M,SD,t,es,sv,rfl,a,by lia,by simp[ab bS,ab TS,ab LS,ab DS,ab MS],hS,by lia,fun T2 L2 D2 M2 u g1 h1 nd2 no2 k1 a1 x1 sm mk hS1=>?_⟩
 have old:∀z o,h z=some o->z≠b->z≠SD->h1 z=some o:=fun z o hz zb zs=>by
  rw[k1 z]
  ·exact hz
  ·simp only[tx,If,or_false,not_or]
   refine⟨zb,?_,?_,?_,?_,zs⟩<;>(intro y;subst y;have:=no2 z (by simp);rw[hz]at this;injection this)
 have off:∀z o,h z=some o->z∉[T2,L2,D2,M2]:=fun z o hz m=>by have:=no2 z m;rw[hz]at this;injection this
 obtain⟨v0,m0,eT,kn0⟩:=a.tb
 obtain⟨kv0,r0⟩:=a.rw
 obtain⟨ms0,eM,s⟩:=a.ml
 have le:=r0.le
 have en:=r0.en
 have a0:bn w g1 (n+4) h1 b i c B T L D M t es:=a.kp (fun z hz=>by
  simp only[tx,If,or_false]at hz
  rcases hz with rfl|rfl|rfl|rfl
  ·exact(old _ _ eT (ab bT) TS).trans eT.symm
  ·exact(old _ _ r0.hl (ab bL) LS).trans r0.hl.symm
  ·exact(old _ _ r0.hd (ab bD) DS).trans r0.hd.symm
  ·exact(old _ _ eM (ab bM) MS).trans eM.symm) a1.st x1 (by lia)
 have o1:∀z∈[T,L,D,M],z∉[T2,L2,D2,M2]:=fun z hz=>by
  simp only[tx,If,or_false]at hz
  rcases hz with rfl|rfl|rfl|rfl
  ·exact off _ _ eT
  ·exact off _ _ r0.hl
  ·exact off _ _ r0.hd
  ·exact off _ _ eM
 have one:txO "one":=⟨by decide+kernel,by decide+kernel⟩
 have two:txO "two":=⟨by decide+kernel,by decide+kernel⟩
 have bg:=hn
 refine⟨av (by simp),av (by simp),av (by simp),.inl ⟨trivial,gl (fun r ws h'=>∃g' qs z8 z9 z10 z11 z12 z13,r=qs.map (lnW i c SD)/\qs.length<=2/\TwI w g' (n+4+100000*(2- qs.length)) h' b i c B SD Kd Ro t es kv (1003- qs.length) qs/\ws=[some (hsV i c T L D M SD),some (slV SD),some (.clo i c),some (.int (B:Nat)),some (.ref Kd),some (.ref Ro),some (.int ((Wt kW es).length:Nat)),some (hsV i c T2 L2 D2 M2 SD),z8,z9,z10,z11,z12,z13]) ?_ ?_ ⟨g1,[⟨T,L,D,M,"one"⟩,⟨T2,L2,D2,M2,"two"⟩],none,none,none,none,none,none,rfl,sn _,?_,rfl⟩⟩⟩
 ·rintro x r ws h2 s s s s s ⟨g2,qs,z8,z9,z10,z11,z12,z13,er,ql,I,rfl⟩ K
  cases qs with
  |nil=>injection er
  |cons q0 qs=>
  cases er
  obtain⟨T,L,D,M,z⟩:=q0
  simp only[VS]at ql I
  obtain⟨⟨A,hz,nS,nK,nR⟩,hq⟩:=List.forall_mem_cons.mp I.hs
  obtain⟨pw0,pw1⟩:=ZR.mp I.pw
  obtain⟨sv,hS,svl⟩:=I.sd
  have hK:=I.kn
  have hR:=I.ro
  clear old off o1 eT eM r0 a0 a1 k1 no2 nd2
  dsimp only[LnH.as]at A hz nS nK nR pw0
  generalize en0:n+4+100000*(2- (qs.length+1))=N at I A
  have bN:N+100000<=big:=by lia
  refine⟨_,.inl rfl,rfl,Kd,kv,rfl,hK,fun p hp=>⟨_,.d (.k (k:=.inl 0) ao (abk kl (av (n:=61) (by decide)))),?_⟩⟩
  rw[dU]
  have kno1:=kno.put (key:=0) A.tr (Wv B) hz
  have kvl:=nj kv (.inl (0:Int)) (.str z)
  change Kno B (pK kv (.inl (0:Int)) (.str z)) _ at kno1
  generalize pK kv (.inl (0:Int)) (.str z)=kv1 at kno1 kvl
  have tr1:=(A.tr.with (x:=z) (Wv B)).1
  have sz1:=fU (B:=B) (key:=0) (z:=z) t
  obtain⟨n1,n2,n3,n4,s⟩:=A.ne
  obtain⟨vA,mA,eT,s⟩:=A.tb
  obtain⟨kvA,rA⟩:=A.rw
  obtain⟨msA,eM,s⟩:=A.ml
  have pb:=A.st.ne hp
  have pT:=aE eT hp
  have pL:=aE rA.hl hp
  have pD:=aE rA.hd hp
  have pM:=aE eM hp
  have pS:=aE hS hp
  have pK':=aE hK hp
  have pR:=aE hR hp
  simp only[tx,If,or_false,not_or]at nS nK nR
  have A1:bn w g2 N (up h2 p (.dK kv1)) b i c B T L D M t es:=A.kp (fun y hy=>by
   simp only[tx,If,or_false]at hy
   rcases hy with rfl|rfl|rfl|rfl
   ·exact ag (ab pT)
   ·exact ag (ab pL)
   ·exact ag (ab pD)
   ·exact ag (ab pM)) (A.st.am (ag (ab pb))) Ex.rfl' (sn _)
  have ka:Kx [b,T,L,D,M,SD,p] h2 (up h2 p (.dK kv1)):=Kx.up (by simp)
  refine⟨30,_,_,.inl rfl,cW,rfl,w,g2,N,b,i,c,B,T,L,D,M,SD,t,es,0,z,rfl,A1,by lia,Wv B,hz,sz,fun o g3 h3 k3 A3 x3=>?_⟩
  have ka3:=ka.trans (k3.le (bs:=[b,T,L,D,M,SD,p]) (by simp))
  have hp3:h3 p=some (.dK kv1):=(k3 p (by simp[pb,pT])).trans ao
  obtain⟨v3,m3,e3,kn3⟩:=A3.tb
  have cn:=(gL (bW B 0 z t)).2
  refine⟨.inr ⟨rfl,.inl ⟨_,hp3⟩⟩,p,_,rfl,rfl,hp3,?_⟩
  dsimp only[eS]
  refine kno1.sorted tr1 hp3 (by lia) ?_
  refine⟨b,w,g3,_,i,c,B,_,v3,m3,rfl,A3.st,by lia,A3.b1,A3.b2,kn3,by lia,tr1.imp_right fun wf=>⟨0,0,VW _,wf,by have:=A3.b2;show B<0+(69+1);lia⟩,fun g4 h4 k4 s4 x4=>?_⟩
  have ka4:=ka3.trans (k4.x (as:=[b,T,L,D,M,SD,p]) (by simp))
  have A4:=A3.kb k4 (s4.le (m:=N+97100) (by lia)) x4 (by lia)
  have nR':Ro∉[b,T,L,D,M,SD,p]:=by simp[ab bR,nR,ab SR,ab pR]
  have nS':SD∉[b,T,L,D,M]:=by simp[ab bS,nS]
  have sm3:Sml w 6500 m3:=⟨kn3.sml.1,fun e=>VO (kn3.sml.2 e) (by have:=wz e;lia)⟩
  have es1:∀e∈es++[m3],Sml w 6500 e:=fun e he=>by
   rcases WE.mp he with he|he
   ·exact en e he
   ·rw[VH.mp he];exact sm3
  have el:(es++[m3]).length=es.length+1:=by simp
  refine⟨av (by simp),.inl ⟨_,_,.inr ⟨Ro,rfl,(ka4 Ro nR').trans hR⟩,.inl rfl,av (by simp;lia),.inl ?_⟩⟩
  rw[show Wt kW es++[kW m3]=Wt kW (es++[m3])by simp]
  refine⟨b,w,g4,_,i,c,_,es++[m3],rfl,.inl rfl,A4.st,by lia,by lia,fun e=>by have:=l2 e;lia,es1,fun u5 g5 h5 k5 s5 x5 sm5 mk5=>?_⟩
  rw[el]
  have ka5:=ka4.trans (k5.x (as:=[b,T,L,D,M,SD,p]) (by simp))
  have A5:=A4.kb k5 s5 x5 (by lia)
  have hS5:h5 SD=some (.dT sv):=by
   rw[k5 SD (ab bS),k4 SD (ab bS),k3 SD (by simp[ab bS,nS]),ag (ab pS)];exact hS
  refine⟨30,_,_,.inl rfl,cW,rfl,w,g5,_,b,i,c,B,T,L,D,M,SD,_,es,sv,rfl,A5,by lia,l1,l2,fun e=>by have:=wz e;lia,nS',hS5,by lia,fun r6 u6 g6 h6 k6 A6 x6 hr sm6 mk6 hS6=>?_⟩
  obtain rfl:r6=m3:=Bd hr (((kn3.ex x4).ex x5).ex x6)
  obtain rfl:u6=u5:=mk6.one (mk5.ex x6)
  have ka6:=ka5.trans (k6.le (bs:=[b,T,L,D,M,SD,p]) (by simp))
  refine⟨es.length+1,u6,rfl,sm6.1,Sel.no rfl ⟨30,_,_,.inl rfl,cW,rfl,w,g6,_,b,i,c,B,T,L,D,M,SD,_,es++[r6],rfl,A6,by lia,fun u7 g7 h7 k7 A7 x7 sm7 mk7=>?_⟩⟩
  obtain rfl:u7=u6:=mk7.one (mk6.ex x7)
  have ka7:=ka6.trans (k7.le (bs:=[b,T,L,D,M,SD,p]) (by simp))
  have hS7:=(k7 SD (by simp[ab bS,nS])).trans hS6
  refine⟨es.length+1,u7,by rw[el],sm6.1,Sel.no rfl ⟨27,_,_,.inl rfl,cW,rfl,SD,es.length+1,u7,_,rfl,by lia,sm6.1,hS7,Sel.no ?_ ?_⟩⟩
  ·rw[AL,if_pos rfl];rfl
  have tk:(es++[r6]).take (es.length+1)=es++[r6]:=Xi (by simp)
  have tk0:(es++[r6]).take es.length=es:=by simp
  refine⟨30,_,_,.inl rfl,cW,rfl,w,g7,_,b,i,c,B,T,L,D,M,SD,_,es++[r6],es.length+1,es.length,by simp[Vy],A7,by lia,by simp,by lia,fun ks g8 h8 k8 A8 x8 pp=>?_⟩
  rw[tk]at pp
  have ka8:=ka7.trans (k8.le (bs:=[b,T,L,D,M,SD,p]) (by simp))
  refine⟨b,w,g8,_,i,c,es++[r6],es.length,ks,u7,by simp[Vy],A8.st,by lia,by lia,fun e=>by have:=l2 e;lia,by simp,pp,mk7.ex x8,sm6.1,fun u9 g9 h9 k9 s9 x9 sm9 mk9=>?_⟩
  rw[tk0]at mk9
  have ka9:=ka8.trans (k9.x (as:=[b,T,L,D,M,SD,p]) (by simp))
  have A9:=A8.kb k9 s9 x9 (by lia)
  refine⟨b,w,g9,_,i,c,_,es,rfl,.inr ⟨Ro,rfl,ab bR,(ka9 Ro nR').trans hR⟩,A9.st,by lia,by lia,fun e=>by have:=l2 e;lia,en,fun u10 g10 h10 k10 s10 x10 sm10 mk10=>?_⟩
  obtain rfl:u10=u9:=mk10.one (mk9.ex x10)
  have ka10:=ka9.trans (k10.x (as:=[b,T,L,D,M,SD,p]) (by simp))
  have A10:=A9.kb k10 s10 x10 (by lia)
  refine⟨_,bA (j:=1) rfl,zh _ _,fun b2 hb2=>Sel.no (by rw[hb2.mpr rfl];rfl) ?_⟩
  refine⟨30,_,_,.inl rfl,cW,rfl,w,g10,_,b,i,c,B,T,L,D,M,SD,_,es++[r6],es.length+1,es.length,by simp[Vy],A10,by lia,by simp,by lia,fun e ks2 ts g11 h11 k11 A11 x11 he pm=>?_⟩
  obtain rfl:r6=e:=by simpa using he
  rw[tk]at pm
  have ka11:=ka10.trans (k11.le (bs:=[b,T,L,D,M,SD,p]) (by simp))
  refine⟨b,w,g11,_,i,c,es++[r6],es.length,r6,ks2,ts,u7,by simp[Vy],A11.st,by lia,by lia,fun e=>by have:=l2 e;lia,by simp,he,sm3,pm,((((mk7.ex x8).ex x9).ex x10).ex x11),sm6.1,fun g12 h12 k12 s12 x12=>?_⟩
  have ka12:=ka11.trans (k12.x (as:=[b,T,L,D,M,SD,p]) (by simp))
  refine⟨zh _ _,fun b3 hb3=>Sel.no (by rw[hb3.mpr rfl];rfl) ⟨trivial,K _ _ ⟨g12,qs,_,_,_,_,_,_,rfl,by lia,?_,rfl⟩⟩⟩
  have xx:Ex g2 g12:=((((((((x3.trans x4).trans x5).trans x6).trans x7).trans x8).trans x9).trans x10).trans x11).trans x12
  have nK':Kd∉[b,T,L,D,M,SD,p]:=by simp[ab bK,nK,ab SK,ab pK']
  have hS12:h12 SD=h7 SD:=by rw[k12 SD (ab bS),k11 SD (by simp[ab bS,nS]),k10 SD (ab bS),k9 SD (ab bS),k8 SD (by simp[ab bS,nS])]
  refine⟨s12.le (by lia),fun q hqq=>?_,pw1,⟨_,hS12.trans hS7,VO (nj _ _ _) (by lia)⟩,(ka12 Kd nK').trans hK,(ka12 Ro nR').trans hR⟩
  ·obtain⟨Aq,z1,z2,z3,z4⟩:=hq q hqq
   refine⟨Aq.kp (fun y hy=>ka12 y fun my=>?_) (s12.le (by lia)) xx (by lia),z1,z2,z3,z4⟩
   simp only[tx,If,or_false]at my
   have hyq:∀y2∈[T,L,D,M],y2∉q.as:=pw0 q hqq
   rcases my with rfl|my|my|my|my|rfl|rfl
   ·have nq:=Aq.nd
    exact(VX.mp nq).1 hy
   ·exact hyq y (by simp[my]) hy
   ·exact hyq y (by simp[my]) hy
   ·exact hyq y (by simp[my]) hy
   ·exact hyq y (by simp[my]) hy
   ·exact z2 hy
   ·obtain⟨s,s,f1,s⟩:=Aq.tb
    obtain⟨s,f2⟩:=Aq.rw
    obtain⟨s,f3,s⟩:=Aq.ml
    simp only[tx,If,or_false]at hy
    rcases hy with e|e|e|e
    ·exact aE f1 hp e
    ·exact aE f2.hl hp e
    ·exact aE f2.hd hp e
    ·exact aE f3 hp e
 ·rintro ws h2 ⟨g2,qs,z8,z9,z10,z11,z12,z13,er,ql,I,rfl⟩
  exact .id (q h2)
 ·refine⟨a1.st,?_,?_,⟨_,hS1,VO (nj _ _ _) (by simp;lia)⟩,old _ _ hK (ab bK) (ab SK),old _ _ hR (ab bR) (ab SR)⟩
  ·simp only[tx,If,or_false]
   rintro q (rfl|rfl)
   ·exact⟨a0,one,by simp[LnH.as,ab TS,ab LS,ab DS,ab MS],by simp[LnH.as,ab TK,ab LK,ab DK,ab MK],by simp[LnH.as,ab TR,ab LR,ab DR,ab MR]⟩
   ·exact⟨a1,two,off _ _ hS,off _ _ hK,off _ _ hR⟩
  ·refine .cons (fun q hq=>?_) (.cons nofun .nil)
   rw[VH.mp hq];exact o1)
def Pk:FA T T.aes 219 (GW A.t_3 A.t_1 A.t_0):=okN T.aes.f dY (MY _ _ _) (fun hr=>
 af (az 1 dY.nd (aB (dX T) hr.le T.d7 (ac (aa 0) (ac (b7) (ae))))) (af (az 2 dY.nd (aB (UF T) hr.le T.f_0 (ac (aa 1) (ae)))) (af (az 3 dY.nd (aA bO (b7) (aA de (aB (dX T) hr.le T.d7 (ac (aa 0) (ac (b7) (ae)))) (b7)))) (af (az 4 dY.nd (MC 27 T.aez T.X2 (sQ T) hr.le T.aew T.C0.b)) (af (az 5 dY.nd (dH 30 T.aeh T.d4 (ib T) hr.le T.aec T.j7.b (ac (aa 2) (ac (aa 3) (ac (aa 4) (ae)))))) (af (az 6 dY.nd (FF)) (af (az 7 dY.nd (dz (ae))) (af (az 8 dY.nd (dz (ac (aB (gj T) hr.le T.A2 (ac (aa 2) (ac (dz (ae)) (ae)))) (ae)))) (af (az 9 dY.nd (aF (Ry rfl) T.aeC boot_min (ac (aF bV T.e9 VJ (ac (aa 0) (ae))) (ac (aP (ixW hr.units1) (dz (ac (b7) (ac (b7) (ae)))) (fO Ld T.b7 L2.HA (ac (fH (bF hr.units150) (aA de (aa 1) (b7)) (b7)) (ae)))) (ae))))) (af (fI (fb 10 dY.nd) (NU T.ad2 (ac (b7) (ac (aA bO (aa 9) (b7)) (ae)))) (af (az 11 dY.nd (aB (Dm T) hr.le T.ac8 (ac (aB (dX T) hr.le T.d7 (ac (aa 0) (ac (aa 10) (ae)))) (ac (aa 10) (ae))))) (af (az 12 dY.nd (aB (xm T) hr.le T.M7 (ac (aa 6) (ac (aB (dX T) hr.le T.d7 (ac (aa 0) (ac (aa 10) (ae)))) (ac (aA dI (aa 11) (b7)) (ac (aa 3) (ae))))))) (af (aK (bp (bd (aB (eZ T) hr.le T.l5 (ac (da (aa 5) (mwc (c:=30) T.d4 T.y7 (eR T) hr.le T.d8.b (mwn))) (ac (aP (ixW hr.units1) (aa 8) (fM (b7))) (ae)))))) (aj (ar (eK))) (aG)) (aj (aK (z_w (jn (aJ (bF hr.units150) (aa 10) (aa 9)) (jX (aJ (bF hr.units150) (aA de (aa 11) (b7)) (b7))))) (af (bi (dQ VC Vw Vx eV (aa 7) (ac (aB (gQ T 70) hr.le T.E3 (ac (aa 2) (ac (aa 3) (ac (aF (Cv rfl) T.ads aco (ac (AM XW YS aaw Gy (aa 6)) (ae))) (ae))))) (ae)))) (af (bi (dQ VC Vw Vx eV (aa 8) (ac (aB (gj T) hr.le T.A2 (ac (aa 2) (ac (aa 7) (ae)))) (ae)))) (aj (aK (bp (bd (aB (eZ T) hr.le T.l5 (ac (da (aa 5) (mwc (c:=30) T.d4 T.Y4 (nk T) hr.le T.G1.b (mwn))) (ac (aP (ixW hr.units1) (aa 8) (fM (b7))) (ae)))))) (aj (ar (eK))) (aG))))) (aj (aK (z_w (Qy (aJ (IM hr.units150) (aa 12) (aa 6)) (Nl (aJ (bF hr.units150) (aA de (aA dI (aa 11) (b7)) (b7)) (b7))))) (af (bi (dQ XW aaM PySem.F.type_dict_pop RZ (aa 6) (ac (aa 12) (ae)))) (aj (bi (aN (aa 5) (mwc (c:=30) T.d4 T.adH (yy T) hr.le T.Q1.b (mwn)) (ac (aa 12) (ae)))))) (af (rp hr.units1 (aa 6) (aa 12) (aB (BJ T) hr.le T.W9 (ac (aA dI (aa 11) (b7)) (ae)))) (aj (bi (aN (aa 5) (mwc (c:=30) T.d4 T.ad3 (pO T) hr.le T.K5.b (mwn)) (ac (aa 12) (ac (aP (ixW hr.units1) (aa 6) (aa 12)) (ae)))))))))))))) Wb) (af (aK (z_w (jn (bp (bd (aB (eZ T) hr.le T.l5 (ac (da (aa 5) (mwc (c:=30) T.d4 T.y7 (eR T) hr.le T.d8.b (mwn))) (ac (aP (ixW hr.units1) (aa 8) (fM (b7))) (ae)))))) (jX (bp (bd (aB (AG T) hr.le T.U0 (ac (aa 4) (ac (aa 8) (ae))))))))) (aj (ar (eK))) (aG)) (af (az 13 dY.nd (aA de (aB (dX T) hr.le T.d7 (ac (aa 0) (ac (b7) (ae)))) (aF bV T.e9 VJ (ac (aa 8) (ae))))) (af (aK (bp (bd (aB (nv T) hr.le T.G5 (ac (aa 5) (ac (aa 2) (ac (aa 8) (ac (aa 7) (ac (aF bV T.e9 VJ (ac (aa 7) (ae))) (ae))))))))) (aj (ar (eK))) (aG)) (af (aK (bp (bd (aB (nv T) hr.le T.G5 (ac (aa 5) (ac (aa 2) (ac (aa 8) (ac (aa 7) (ac (aa 13) (ae))))))))) (aj (ar (eK))) (aG)) (aj (ar (aB (AC T) hr.le T.U4 (ac (aa 5) (ac (aa 4) (ac (aa 2) (ac (aa 3) (ac (aa 6) (ac (aa 7) (ae)))))))))))))))))))))))) (by
 rintro l h Q X ⟨ns,rfl,hl,rfl,q⟩
 refine⟨ns,0,rfl,fun cell=>⟨cell,rfl,rfl,fun b w g i c h1 hw hn st=>⟨ns,1,rfl,fun z1=>⟨show(0:Int)<60 by decide,?_⟩⟩⟩⟩
 obtain⟨B,eB,B1,B2⟩:∃B:Nat,1+z1%60=(B:Int)/\1<=B/\B<=60:=⟨(1+z1%60).toNat,by lia,by lia,by lia⟩
 unfold yL
 dsimp only
 rw[eB]
 refine fun p hp=>⟨p,rfl,ao,fun SD hSD=>⟨rfl,Fu ?_⟩⟩
 obtain⟨Sp,hSD⟩:=aS hSD
 have pb:=st.ne hp
 have Sb:=st.ne hSD
 generalize eH:cut (up (up h1 p _) SD _) p=h2
 have h2S:h2 SD=some (.dT []):=by rw[<-eH,bz Sp,ao]
 have h2b:h2 b=h1 b:=by rw[<-eH,bz (ab pb),ag (ab Sb),ag (ab pb)]
 have h2n:∀a,a≠b->a≠SD->h2 a=none:=fun a n1 n2=>by
  rw[<-eH]
  by_cases e:a=p
  ·subst e;exact cx
  ·rw[bz e,ag n2,ag e];exact hn a n1
 have st2:=st.am h2b
 refine fun r hr=>⟨r,w,g,0,b,i,c,B,SD,[],rfl,ao,st2.ne hr,Sb,aE h2S hr,st2.am (ag (ab (st2.ne hr))),by decide,B1,B2,(ag (ab (aE h2S hr))).trans h2S,by simp,fun T L D M u0 g3 h3 nd no k3 hr3 a3 x3 sm0 mk0 hS3=>⟨rfl,Ts hr3 ?_⟩⟩
 have no':∀a∈[T,L,D,M],a≠r/\h2 a=none:=fun a ha=>aS (no a ha)
 have a3':=a3
 obtain⟨v3,m3,eT,_⟩:=a3.tb
 obtain⟨kv3,r3⟩:=a3.rw
 obtain⟨ms3,eM,_⟩:=a3.ml
 obtain⟨bT,bL,bD,bM,TL,TD,TM,LD,LM,DM⟩:=a3.ne
 have nS:∀a∈[T,L,D,M],a≠SD:=fun a ha e=>by have:=(no' a ha).2;rw[e,h2S]at this;injection this
 generalize eH3:cut h3 r=h4
 have c4:∀a,a≠r->h4 a=h3 a:=fun a n=>by rw[<-eH3];exact bz n
 have rb:=st2.ne hr
 have rS:=aE h2S hr
 have a4:bn w g3 3 h4 b i c B T L D M .bare []:=a3.kp (fun a ha=>c4 a (no' a ha).1) (a3.st.am (c4 b (ab rb))) Ex.rfl' (sn _)
 have hS4:h4 SD=some (.dT (pK [] (hdK 0 u0) (.bl true))):=(c4 SD (ab rS)).trans hS3
 have n4:∀a,a∉[b,T,L,D,M,SD]->h4 a=none:=fun a na=>by
  simp only[tx,If,or_false,not_or]at na
  by_cases e:a=r
  ·subst e;rw[<-eH3];exact cx
  ·rw[c4 a e,k3 a (by simp[na,e]),ag e];exact h2n a na.1 na.2.2.2.2.2
 refine .inl fun Kd hKd=>⟨av (by simp),.inr fun Ro hRo=>⟨av (by simp),.inl ?_⟩⟩
 obtain⟨RK,hRo⟩:=aS hRo
 have live:∀a,h4 a=none->a∉[b,T,L,D,M,SD]:=fun a ha=>by
  obtain⟨_,_,f1,_⟩:=a4.tb
  obtain⟨_,f2⟩:=a4.rw
  obtain⟨_,f3,_⟩:=a4.ml
  simp only[tx,If,or_false,not_or]
  exact⟨a4.st.ne ha,aE f1 ha,aE f2.hl ha,aE f2.hd ha,aE f3 ha,aE hS4 ha⟩
 have lK:=live Kd hKd
 have lR:=live Ro hRo
 generalize eH5:up (up h4 Kd _) Ro _=h5
 have c5:∀a,a≠Kd->a≠Ro->h5 a=h4 a:=fun a n1 n2=>by rw[<-eH5,ag n2,ag n1]
 have bK:b≠Kd:=fun e=>lK (by simp[e])
 have bR:b≠Ro:=fun e=>lR (by simp[e])
 refine⟨b,w,g3,3,i,c,_,[],rfl,.inl rfl,a4.st.am (c5 b bK bR),by decide,by simp,by simp,nofun,fun u g6 h6 k6 s6 x6 sm6 mk6=>⟨av (by simp),.inr fun He hHe=>?_⟩⟩
 obtain rfl:u=u0:=mk6.one (mk0.ex x6)
 have h5K:h5 Kd=some (.dK []):=by rw[<-eH5,ag (ab RK),ao]
 have h5R:h5 Ro=some (.lst []):=by rw[<-eH5,ao]
 have HK:h6 Kd=some (.dK []):=(k6 Kd (ab bK)).trans h5K
 have HR:h6 Ro=some (.lst []):=(k6 Ro (ab bR)).trans h5R
 have bS:=ab Sb
 have SK:SD≠Kd:=fun e=>lK (by simp[e])
 have SR:SD≠Ro:=fun e=>lR (by simp[e])
 have HS:h6 SD=some (.dT (pK [] (hdK 0 u) (.bl true))):=(k6 SD Sb).trans ((c5 SD SK SR).trans hS4)
 have a6:bn w g6 100 h6 b i c B T L D M .bare []:=a4.kp (fun a ha=>by
  have nb:a≠b:=by
   simp only[tx,If,or_false]at ha
   rcases ha with rfl|rfl|rfl|rfl
   ·exact bT
   ·exact bL
   ·exact bD
   ·exact bM
  exact(k6 a nb).trans (c5 a (fun e=>lK (by rw[<-e];simp only[tx,If,or_false]at ha⊢;exact .inr (by rcases ha with e|e|e|e<;>simp[e]))) (fun e=>lR (by rw[<-e];simp only[tx,If,or_false]at ha⊢;exact .inr (by rcases ha with e|e|e|e<;>simp[e]))))) (s6.le (by decide)) x6 (by decide)
 obtain⟨_,_,f1,_⟩:=a6.tb
 obtain⟨_,f2⟩:=a6.rw
 obtain⟨_,f3,_⟩:=a6.ml
 have hb:=a6.st.ne hHe
 have hT:=aE f1 hHe
 have hL:=aE f2.hl hHe
 have hD:=aE f2.hd hHe
 have hM:=aE f3 hHe
 have hS:=aE HS hHe
 have hK:=aE HK hHe
 have hR:=aE HR hHe
 simp only[tx,If,or_false,not_or]at lK lR
 have n9:N9 b T L D M SD Kd Ro He:=⟨by
  simp only[VX,tx,If,or_false,not_or,Yo,and_true,not_false_eq_true]
  exact⟨⟨ab bT,ab bL,ab bD,ab bM,bS,bK,bR,ab hb⟩,⟨ab TL,ab TD,ab TM,nS T (by simp),ab lK.2.1,ab lR.2.1,ab hT⟩,⟨ab LD,ab LM,nS L (by simp),ab lK.2.2.1,ab lR.2.2.1,ab hL⟩,⟨ab DM,nS D (by simp),ab lK.2.2.2.1,ab lR.2.2.2.1,ab hD⟩,⟨nS M (by simp),ab lK.2.2.2.2.1,ab lR.2.2.2.2.1,ab hM⟩,⟨SK,SR,ab hS⟩,⟨ab RK,ab hK⟩,ab hR⟩⟩
 have I0:LI w g6 100 (up h6 He (.lst [hdW 0 u])) b i c B T L D M SD Kd Ro He .bare [] [] [u] (pK [] (hdK 0 u) (.bl true)) 0:=by
  refine⟨a6.kp (fun a ha=>ag ?_) (a6.st.am (ag (ab hb))) Ex.rfl' (sn _),sn _,⟨rfl,fun j v e=>?_⟩,ao,(ag (ab hR)).trans HR,(ag (ab hK)).trans HK,⟨.nil,nofun,fun _=>rfl⟩,sn _,sn _,(ag (ab hS)).trans HS,nj _ _ _,Cs (hs:=[]) rfl fun c m=>⟨nofun,nofun⟩⟩
  ·simp only[tx,If,or_false]at ha
   rcases ha with rfl|rfl|rfl|rfl
   ·exact ab hT
   ·exact ab hL
   ·exact ab hD
   ·exact ab hM
  ·cases j with
   |zero=>obtain rfl:=VR e;exact⟨mk6,sm6⟩
   |succ j=>injection e
 clear a3 a3' a4 a6 c4 c5 live n4 nS no no' k3 hS3 hr3 eT eM r3 f1 f2 f3 h5K h5R HK HR HS k6 hHe hRo hKd mk0 sm0
 generalize up h6 He (.lst [hdW 0 u])=h7 at I0
 refine⟨av (by simp),.inl ⟨show(0:Int)<5 by decide,.sc rfl,fun b1 hb1=>?_⟩⟩
 obtain⟨v,ev,v1,v2⟩:∃v:Nat,atI [W.int 33,.int 12] (if b1=true then 1 else 0)=some (.int v)/\v<=33/\(w=true->v<=12):=by
  cases b1
  ·exact⟨33,at0,by decide,fun e=>by have:=hb1.mpr (show W.int (cell%5)=W.int 0 by rw[hw e]);injection this⟩
  ·exact⟨12,bA (j:=1) rfl,by decide,fun _=>by decide⟩
 refine⟨_,ev,?_⟩
 obtain⟨ls,els,l33,l12⟩:∃ls:Nat,(if (v:Int)<((ns.map W.int).length:Nat)then(v:Int)else((ns.map W.int).length:Nat))=(ls:Int)/\ls<=33/\(w=true->ls<=12):=by
  split
  ·exact⟨v,rfl,v1,v2⟩
  ·rename_i h
   exact⟨_,rfl,by lia,fun e=>by have:=v2 e;lia⟩
 dsimp only[eS,QP,qMM]
 rw[els]
 refine⟨3,(ls:Int)+1,rfl,⟨by lia,by lia,by lia,by lia⟩,trivial,tH (fun k ws h'=>∃g' t kv es hs sv z10 z11 z12,ws=[some (.sl (ns.map .int)),some (.int cell),some (.clo i c),some (.int (B:Nat)),some (slV SD),some (hsV i c T L D M SD),some (.ref Kd),some (.ref Ro),some (.ref He),some (.int (ls:Nat)),z10,z11,z12,none]/\LI w g' (100+100000*k) h' b i c B T L D M SD Kd Ro He t kv es hs sv k) ?_ ?_ ⟨g6,_,_,_,_,_,none,none,none,rfl,I0⟩⟩
 ·rintro k ws h8 K _ _ _ _ hk ⟨g8,t,kv,es,hs,sv,z10,z11,z12,rfl,I⟩ kk
  have hk:k<ls+1- 3:=by lia
  have k31:k<=30:=by lia
  have k10:w=true->k<=9:=fun e=>by have:=l12 e;lia
  have bg:big=9000000:=rfl
  obtain⟨kn,ekv,kb⟩:=Fc I.kn.ok
  have el:=I.el
  have sz:=I.sz
  have ckt:=(gL t).2
  refine⟨ns,3+k,rfl,fun z2=>⟨z2,3+k,rfl,by lia,fun num hnum=>?_⟩⟩
  refine⟨ns,3+k,rfl,fun z3=>⟨⟨show(0:Int)<9 by decide,by decide⟩,Kd,z3,num/9,B,kn,rfl,by rw[<-ekv];exact I.hk,by have:=I.kl;rw[ekv]at this;simp[iG,knR]at this;lia,kb,B1,B2,fun key hkey=>?_⟩⟩
  obtain⟨ul,al,mkl,sml⟩:=I.hd.last
  refine⟨30,_,_,.inl rfl,cW,rfl,w,g8,_,b,i,c,B,T,L,D,M,SD,t,es,rfl,I.ho,by lia,fun u9 g9 h9 k9 A9 x9 sm9 mk9=>?_⟩
  obtain rfl:u9=ul:=mk9.one (mkl.ex x9)
  have I9:=I.op n9 k9 A9 x9
  have nd:=n9.nd
  simp only[VX,tx,If,or_false,not_or,Yo,and_true,not_false_eq_true]at nd
  obtain⟨⟨bT,bL,bD,bM,bS,bK,bR,bH⟩,⟨TL,TD,TM,TS,TK,TR,TH⟩,⟨LD,LM,LS,LK,LR,LH⟩,⟨DM,DS,DK,DR,DH⟩,⟨MS,MK,MR,MH⟩,⟨SK,SR,SH⟩,⟨KR,KH⟩,RH⟩:=nd
  refine .inl ⟨_,_,_,rfl,I9.hh,al,es.length,u9,rfl,sm9.1,Sel.no rfl ?_⟩
  dsimp only[wNx,Fe]
  have slv:=I.sl
  have kvl:=I.kl
  refine Mh (fun R r=>⟨.sc rfl,fun b2 _=>r b2⟩) (fun R r=>⟨show(0:Int)<3 by decide,.sc rfl,fun b2 _=>r b2⟩) fun bb=>Sel.mk (fun _=>?_) fun _=>?_
  ·obtain⟨v1',m1,e1,kn1⟩:=A9.tb
   refine⟨.inl ⟨rfl,_,I9.hr⟩,.inr ⟨rfl,.inl ⟨_,I9.hk⟩⟩,Kd,_,rfl,rfl,I9.hk,?_⟩
   dsimp only[eS]
   refine I9.kn.sorted A9.tr I9.hk (by lia) ?_
   refine⟨b,w,g9,_,i,c,B,t,v1',m1,rfl,A9.st,by lia,B1,B2,kn1,by lia,A9.tr.imp_right fun wf=>⟨0,0,VW _,wf,by show B<0+(69+1);lia⟩,fun g10 h10 k10' s10 x10=>?_⟩
   refine⟨Ro,_,_,rfl,rfl,(k10' Ro (ab bR)).trans I9.hr,by rw[VE];simp;lia,?_⟩
   rw[show Wt kW es++[kW m1]=Wt kW (es++[m1])by simp]
   have h11H:up h10 Ro (.lst (Wt kW (es++[m1]))) He=some (.lst (cY 0 hs)):=(ag (ab RH)).trans ((k10' He (ab bH)).trans I9.hh)
   have sm1:Sml w 6500 m1:=⟨kn1.sml.1,fun e=>VO (kn1.sml.2 e) (by have:=k10 e;lia)⟩
   obtain⟨_,rw9⟩:=A9.rw
   have es1:∀e∈es++[m1],Sml w 6500 e:=fun e he=>by
    rcases WE.mp he with he|he
    ·exact rw9.en e he
    ·rw[VH.mp he];exact sm1
   have el1:(es++[m1]).length=es.length+1:=by simp
   have hl1:=I.hd.len
   refine⟨.inl ⟨rfl,_,h11H⟩,b,w,g10,100+100000*k+20000,i,c,_,es++[m1],rfl,.inr ⟨Ro,rfl,ab bR,ao⟩,(s10.le (by lia)).am (ag bR),by lia,by lia,fun e=>by have:=k10 e;lia,es1,fun u12 g12 h12 k12 s12 x12 sm12 mk12=>?_⟩
   refine⟨He,_,_,rfl,rfl,(k12 He (ab bH)).trans h11H,by rw[VE,oF];lia,?_⟩
   rw[show cY 0 hs++[hdW (es++[m1]).length u12]=cY 0 (hs++[u12])by rw[tE,XJ,el1,hl1]]
   generalize eH13:up h12 He (.lst (cY 0 (hs++[u12])))=h13
   have h13H:h13 He=some (.lst (cY 0 (hs++[u12]))):=by rw[<-eH13];exact ao
   have h13R:h13 Ro=some (.lst (Wt kW (es++[m1]))):=by rw[<-eH13,ag RH,k12 Ro (ab bR)];exact ao
   have keep:∀a,a≠b->a≠Ro->a≠He->h13 a=h9 a:=fun a n1 n2 n3=>by rw[<-eH13,ag n3,k12 a n1,ag n2,k10' a n1]
   have A13:bn w g12 (100+100000*k+20070) h13 b i c B T L D M t es:=A9.kp (fun a ha=>by
    simp only[tx,If,or_false]at ha
    rcases ha with rfl|rfl|rfl|rfl
    ·exact keep _ (ab bT) TR TH
    ·exact keep _ (ab bL) LR LH
    ·exact keep _ (ab bD) DR DH
    ·exact keep _ (ab bM) MR MH) (s12.am (by rw[<-eH13];exact ag bH)) (x10.trans x12) (by lia)
   have nS':SD∉[b,T,L,D,M]:=by simp[ab bS,ab TS,ab LS,ab DS,ab MS]
   refine⟨30,_,_,.inl rfl,cW,rfl,w,g12,_,b,i,c,B,T,L,D,M,SD,t,es,sv,rfl,A13,by lia,by lia,fun e=>by have:=k10 e;lia,fun e=>by have:=k10 e;lia,nS',(keep SD (ab bS) SR SH).trans I9.hS,by lia,fun r14 u14 g14 h14 k14 A14 x14 hr sm14 mk14 hS14=>?_⟩
   obtain rfl:r14=m1:=Bd hr (((kn1.ex x10).ex x12).ex x14)
   obtain rfl:u14=u12:=mk14.one (mk12.ex x14)
   have h14H:=(k14 He (by simp[ab bH,ab LH,ab DH,ab MH,ab SH])).trans h13H
   have h14R:=(k14 Ro (by simp[ab bR,ab LR,ab DR,ab MR,ab SR])).trans h13R
   have h14K:=(k14 Kd (by simp[ab bK,ab LK,ab DK,ab MK,ab SK])).trans ((keep Kd (ab bK) KR KH).trans I9.hk)
   refine .inl ⟨_,_,hdW (es.length+1) u14,rfl,h14H,by rw[tE,XJ,hl1];exact dG,es.length+1,u14,rfl,sm14.1,Sel.no rfl ⟨trivial,kk _ _ ⟨g14,t,kv,es++[r14],hs++[u14],pK sv (hdK (es.length+1) u14) (.bl true),_,_,_,rfl,?_⟩⟩⟩
   exact⟨A14.kp (fun _ _=>rfl) (A14.st.le (by lia)) Ex.rfl' (by lia),by lia,(((I9.hd.ex x10).ex x12).ex x14).add mk14 (sm14.le (by lia)),h14H,h14R,h14K,I9.kn,by lia,by lia,hS14,VO (nj _ _ _) (by lia),Cs hl1 I9.se⟩
  ·have mv:∀{g11:bU}{h11:WH}{t':Kn Str}{kv':List (Key×W)}{o:O},Kx [b,T] (up h9 Kd (.dK kv')) h11->bn w g11 (100+100000*k+70+72) h11 b i c B T L D M t' es->Ex g9 g11->Kno B kv' t'->kv'.length<=k+1->szN t'<=128+564*(k+1)->LI w g11 (100+100000*(k+1)) h11 b i c B T L D M SD Kd Ro He t' kv' es hs sv (k+1):=fun{g11 h11 t' kv' o} kx A x kno kl' sz'=>by
    have at':∀a,a≠b->a≠T->a≠Kd->h11 a=h9 a:=fun a n1 n2 n3=>(kx a (by simp[n1,n2])).trans (ag n3)
    exact⟨A.kp (fun _ _=>rfl) (A.st.le (by lia)) Ex.rfl' (by lia),by lia,I9.hd.ex x,(at' He (ab bH) (ab TH) (ab KH)).trans I9.hh,(at' Ro (ab bR) (ab TR) (ab KR)).trans I9.hr,(kx Kd (by simp[ab bK,ab TK])).trans ao,kno,kl',sz',(at' SD (ab bS) (ab TS) SK).trans I9.hS,by lia,I9.se⟩
   have A10:∀o,bn w g9 (100+100000*k+70) (up h9 Kd o) b i c B T L D M t es:=fun o=>A9.kp (fun a ha=>by
    simp only[tx,If,or_false]at ha
    rcases ha with rfl|rfl|rfl|rfl
    ·exact ag TK
    ·exact ag LK
    ·exact ag DK
    ·exact ag MK) (A9.st.am (ag bK)) Ex.rfl' (sn _)
   refine IE (bb:=(gK kv (.inl (key:Int))).isSome) (fun R r=>.inl ⟨_,.k (k:=.inl (key:Int)) I9.hk,r⟩) (fun R r=>⟨⟨show(0:Int)<3 by decide,by decide⟩,show(0:Int)<3 by decide,.sc rfl,fun b2 _=>r b2⟩) (fun e=>Sel.t ?_) (Sel.f ?_)
   ·obtain⟨zz,hzz⟩:∃zz,aD B key t=some zz:=by
     rw[I9.kn.fd key,Yf]at e
     exact Ws.mp e
    refine⟨.inr ⟨rfl,.inl ⟨_,I9.hk⟩⟩,Kd,kv,.inl (key:Int),.str zz,rfl,rfl,I9.hk,by rw[I9.kn.fd,hzz];rfl,?_⟩
    have zl:=eU (B:=B) (key:=key) t
    exact⟨30,_,_,.inl rfl,cW,rfl,w,g9,_,b,i,c,B,T,L,D,M,SD,t,es,key,zz,rfl,A10 _,by lia,hkey,hzz,fun o g11 h11 k11 A11 x11=>⟨trivial,kk _ _ ⟨g11,_,_,es,hs,sv,_,_,_,rfl,mv (o:=.dK []) k11 A11 x11 (I9.kn.del A9.tr) (VO (aa8 _ _) (by lia)) (by lia)⟩⟩⟩
   ·refine⟨⟨show(0:Int)<9 by decide,by decide⟩,num/9,rfl,fun zz hzz=>⟨_,.d (.k (k:=.inl (key:Int)) I9.hk (by rw[VE];lia)),?_⟩⟩
    have dw:DW (up h9 Kd (.dK (pK kv (.inl (key:Int)) (.str zz)))) Kd (.int (key:Int)) (some (.str zz)):=by
     have:=DW.k (h:=up h9 Kd (.dK (pK kv (.inl (key:Int)) (.str zz)))) (a:=Kd) (k:=.inl (key:Int)) ao
     rw[AL,if_pos rfl]at this;exact this
    have zl:=fU (B:=B) (key:=key) (z:=zz) t
    exact⟨30,_,_,.inl rfl,cW,rfl,.inr ⟨.str zz,dw,w,g9,_,b,i,c,B,T,L,D,M,SD,t,es,key,zz,rfl,A10 _,by lia,hkey,hzz,by lia,fun o g11 h11 k11 A11 x11=>⟨trivial,kk _ _ ⟨g11,_,_,es,hs,sv,_,_,_,rfl,mv (o:=.dK []) k11 A11 x11 (I9.kn.put A9.tr hkey hzz) (VO (nj _ _ _) (by lia)) (by lia)⟩⟩⟩⟩
 ·rintro ws h8 ⟨g8,t,kv,es,hs,sv,z10,z11,z12,rfl,I⟩
  have bg:big=9000000:=rfl
  generalize eN:((ls:Int)+1- 3).toNat=m at I
  have m31:m<=31:=by lia
  have m10:w=true->m<=10:=fun e=>by have:=l12 e;lia
  have el:=I.el
  have sz:=I.sz
  have slv:=I.sl
  have kvl:=I.kl
  have hl1:=I.hd.len
  obtain⟨ul,al,mkl,sml⟩:=I.hd.last
  refine⟨30,_,_,.inl rfl,cW,rfl,w,g8,_,b,i,c,B,T,L,D,M,SD,t,es,rfl,I.ho,by lia,fun u9 g9 h9 k9 A9 x9 sm9 mk9=>?_⟩
  obtain rfl:u9=ul:=mk9.one (mkl.ex x9)
  have I9:=I.op n9 k9 A9 x9
  have nd:=n9.nd
  have nd8:[b,T,L,D,M,SD,Kd,Ro].Nodup:=nd.sublist (by simp)
  simp only[VX,tx,If,or_false,not_or,Yo,and_true,not_false_eq_true]at nd
  obtain⟨⟨bT,bL,bD,bM,bS,bK,bR,bH⟩,⟨TL,TD,TM,TS,TK,TR,TH⟩,⟨LD,LM,LS,LK,LR,LH⟩,⟨DM,DS,DK,DR,DH⟩,⟨MS,MK,MR,MH⟩,⟨SK,SR,SH⟩,⟨KR,KH⟩,RH⟩:=nd
  have ok:∀u∈hs,okP u=true:=fun u hu=>by
   obtain⟨j,hj⟩:=Wu.mp hu
   exact(I.hd.at_ j u hj).2.1
  refine .inl ⟨_,_,_,rfl,I9.hh,al,es.length,u9,rfl,sm9.1,Sel.no rfl ⟨SD,He,sv,hs,rfl,I9.hh,I9.hS,I9.se,by lia,ok,Sel.no rfl ⟨ns,2,rfl,fun z3=>.inl ⟨_,I9.hh,?_⟩⟩⟩⟩
  have hp:0<((cY 0 hs).length:Int):=by rw[oF,hl1];lia
  refine⟨hp,?_⟩
  obtain⟨cn,ecn⟩:=qX (Ye z3 (show((cY 0 hs).length:Int)≠0 by lia))
  have cl:cn<=es.length:=by have:=XE z3 hp;rw[oF,hl1]at this;rw[oF,hl1]at ecn;lia
  dsimp only
  rw[ecn]
  have nH:He∉[b,D]:=by simp[ab bH,ab DH]
  have nR:Ro∉[b,D]:=by simp[ab bR,ab DR]
  refine .inl ⟨_,I9.hr,w,g9,_,b,i,c,B,T,L,D,M,SD,He,Ro,t,es,hs,es.length,by simp,A9,I9.hd,I9.hh,I9.hr,nH,nR,sn _,by lia,fun g10 h10 k10 A10 x10=>Sel.no rfl ?_⟩
  have I10:=I9.op n9 k10 A10 x10
  refine⟨w,g10,_,b,i,c,B,T,L,D,M,SD,He,Ro,t,es,hs,cn,rfl,A10,I10.hd,I10.hh,I10.hr,nH,nR,cl,by lia,fun g11 h11 k11 A11 x11=>Sel.no rfl ?_⟩
  have I11:=I10.op n9 k11 A11 x11
  exact⟨w,g11,_,b,i,c,B,T,L,D,M,SD,Kd,Ro,t,es,sv,kv,rfl,A11,I11.hS,by lia,I11.hk,I11.kn,by lia,I11.hr,nd8,by lia,fun e=>by have:=m10 e;lia,by lia,fun e=>by have:=m10 e;lia,by lia,fun h'=>.id (q h')⟩)
omit T
def Kv (P:VM)(w:Wm)(K:W.Frag)(mg:Str->Option pz)(fa:Addr):Prop:=∃(fd:Gt)(tabs:List (Addr×Addr))(sp:Sp),(∀(s:Bn)(v:pz),abB s fd ⟨[v],[]⟩ [("_law_script",v)])/\W.noTabs K=true/\(∀t∈tabs,∃y∈(["writing","counting","_law_stamper"]:List Str),W.tabIn K y=some t)/\(∀base:Heap,K.In base->base.Ns mainGlobals mg->BM mg base->(∀t∈tabs,W.CodeHd base t.1 t.2)->cy P w K mg base (CX1 P w) 219 fa fd ["_law_script"] sp)/\∀(H:Hp)(a:Addr)(ns:List Int),ns.length<=63->(∀t∈tabs,H t.2=some (.tbl #[]))->SqL K H a (ns.map V.int)->sp [.ref a] H (fun v b=>v=.bl true) fun b b b=>False
def Px {fa:Addr}(hfa:mg "law"=some (.ref fa))(T:Txt K mg A)(nt:W.noTabs K=true)(tb_3:W.tabIn K "writing"=some (A.k_3,A.t_3))(tb_1:W.tabIn K "counting"=some (A.k_1,A.t_1))(tb_0:W.tabIn K "_law_stamper"=some (A.k_0,A.t_0))(tdn:([A.t_3,A.t_1,A.t_0]:List Addr).Nodup):Kv P w K mg fa:=by
 cases hfa.symm.trans T.aes.m
 refine⟨A.aer,[(A.k_3,A.t_3),(A.k_1,A.t_1),(A.k_0,A.t_0)],_,T.aes.f.bt,nt,?_,fun base KX G B C=>Pk ⟨T,B,T.f_3.code KX G tb_3,C (A.k_3,A.t_3) (by simp),T.f_1.code KX G tb_1,C (A.k_1,A.t_1) (by simp),T.f_0.code KX G tb_0,C (A.k_0,A.t_0) (by simp)⟩,fun H a ns hl hO hS=>JH hl hS (hO (A.k_3,A.t_3) (by simp)) (hO (A.k_1,A.t_1) (by simp)) (hO (A.k_0,A.t_0) (by simp)) tdn⟩
 intro t ht
 simp only[tx,If,or_false]at ht
 rcases ht with rfl|rfl|rfl
 ·exact⟨"writing",by simp,tb_3⟩
 ·exact⟨"counting",by simp,tb_1⟩
 ·exact⟨"_law_stamper",by simp,tb_0⟩
abbrev mkA {K:W.Frag}{h:Heap}(X:K.In h){Y5 Y7 ad4 V2 ad6 d9 Y9 K7 a_3 c9 a_1 a_0 i9 ad8 l7 l9 j0 r8 Z1 ada R1 E6 R4 V4 j3 Z3 V6 Z5 Z7 K9 R6 V8 N3 Z9 m6 aei i8 q9 B6 s8 ac1 R8 E8 E9 F0 adm F1 F2 aek B7 F3 j4 u8 v4 F4 m7 v5 v6 F5 F6 W1 ac4 m8 m9 adI ado adK o3 F7 o4 K0 K1 B9 S5 L6 W3 adM P1 S7 L8 I8 f7 f8 v8 ac6 aem D8 P3 S9 M0 o5 i4 v9 P5 N4 F8 T3 aeu c7 K4 W6 M4 E2 i6 j5 A0 e6:Addr}{Y6 Y8 ad5 V3 ad7 j9 Z0 K8 d_3 f6 d_1 d_0 B3 ad9 C8 C9 B4 G6 Z2 adb R3 O0 R5 V5 B5 Z4 V7 Z6 Z8 L0 R7 V9 W0 ac0 D0 aej r9 E7 L3 G7 ac2 ac3 O1 O2 O3 adn O4 O5 ael L4 O6 B8 G8 G9 O7 D3 H8 H9 O8 O9 W2 ac5 D4 D5 adJ adp adL D6 P0 D7 R9 S0 L5 S6 L7 W4 adN P2 S8 L9 J0 p7 p8 J1 ac7 aen D9 P4 T0 M3 E1 y8 J8 P6 W5 P7 T4 aer:Gt}:Adr:=⟨Y5,Y6,Y7,Y8,ad4,ad5,V2,V3,ad6,ad7,d9,j9,Y9,Z0,K7,K8,a_3,d_3,c9,f6,a_1,d_1,a_0,d_0,i9,B3,ad8,ad9,l7,C8,l9,C9,j0,B4,r8,G6,Z1,Z2,ada,adb,R1,R3,E6,O0,R4,R5,V4,V5,j3,B5,Z3,Z4,V6,V7,Z5,Z6,Z7,Z8,K9,L0,R6,R7,V8,V9,N3,W0,Z9,ac0,m6,D0,aei,aej,i8,r9,q9,E7,B6,L3,s8,G7,ac1,ac2,R8,ac3,E8,O1,E9,O2,F0,O3,adm,adn,F1,O4,F2,O5,aek,ael,B7,L4,F3,O6,j4,B8,u8,G8,v4,G9,F4,O7,m7,D3,v5,H8,v6,H9,F5,O8,F6,O9,W1,W2,ac4,ac5,m8,D4,m9,D5,adI,adJ,ado,adp,adK,adL,o3,D6,F7,P0,o4,D7,K0,R9,K1,S0,B9,L5,S5,S6,L6,L7,W3,W4,adM,adN,P1,P2,S7,S8,L8,L9,I8,J0,f7,p7,f8,p8,v8,J1,ac6,ac7,aem,aen,D8,D9,P3,P4,S9,T0,M0,M3,o5,E1,i4,y8,v9,J8,P5,P6,N4,W5,F8,P7,T3,T4,aeu,aer,(L2.tkX X "writing").1,(L2.tkX X "writing").2,(L2.tkX X "counting").1,(L2.tkX X "counting").2,(L2.tkX X "_law_stamper").1,(L2.tkX X "_law_stamper").2,c7,K4,W6,M4,E2,i6,j5,A0,e6⟩
def Vj {l:W.OpenLaw}{q:VM}{loose:List Str}{XP:(Str->Option pz)->Heap->Prop}{YP:Wm->Heap->Prop}{d:DefRec}{K:Params->W.Frag}(hn:l.most=some 63)(hdf:d.params.defaults=[])
  (hY:∀(w:Wm)(h:Heap),YP w h->(K w.params).In h)(hq:∀y∈(["writing","counting","_law_stamper"]:List Str),((aar q).find? fun e=>e.name==y).isSome=true)
  (F:∀(w:Wm)(mg:Str->Option pz)(fa:Addr)(h:Heap),(K w.params).In h->h.Ns mainGlobals mg->mg d.name=some (.ref fa)->Kv l.prog w (K w.params) mg fa):
  W.WalkO q loose XP YP l.row.toRowW d [] (fun f vs=>abA f vs):=
 L2.IY (n:=63) (k:=219) (x:="_law_script") (CX:=fun w=>CX1 l.prog w) hn (by decide) hdf ⟨rfl,by decide,by decide⟩ hY hq F fun _ _ _ _ _ ⟨_,_,_,_,_,_,z⟩=>z
end
end Rs
def PySem.W.Fast:=0 where
 tw110945743528252830:=Nat
 tw689336218799506711:=Nat
 tw18064385158501827063:=Nat
 tw17568134182266039223:=Nat
 tw8848581179793110377:=Nat
 tw2750598641946622177:=Nat
 tw14050569581670608763:=Nat
 tw340558015848630918:=Nat
 tw4019312355274119015:=Nat
 tw6736152692869387868:=Nat
 tw14979009630090549984:=Nat
 tw1308851488252132706:=Nat
 tw2106199204612725268:=Nat
 tw8162305048760572377:=Nat
 tw13166120672852817119:=Nat
 tw15026417280315212421:=Nat
 tw7392786959561295530:=Nat
 tw10298228591006408140:=Nat
 tw14870299671543199296:=Nat
 tw16129942404606077802:=Nat
 tw17895448907058256283:=Nat
 tw13716791326736854412:=Nat
 tw6687725964826640469:=Nat
 tw9266999445368495010:=Nat
 tw1753251255917449237:=Nat
 tw4659553795751580511:=Nat
 tw14484786331073074316:=Nat
 tw11380145295100146844:=Nat
 tw13080392252036509707:=Nat
 tw12847973700198412205:=Nat
 tw1321324701319861698:=Nat
 tw1391117849003205330:=Nat
 tw5758811357139896472:=Nat
 tw3360238221540755845:=Nat
 tw3985376285738500150:=Nat
 tw568144339037096828:=Nat
 tw17018740586611002459:=Nat
 tw15427181208851584983:=Nat
 tw6222161367200818654:=Nat
 tw10402232941102463823:=Nat
 tw8786354896429394542:=Nat
 tw14502906267998152339:=Nat
 tw5245193580497841538:=Nat
 tw6187597773048384163:=Nat
 tw1162786911554668389:=Nat
 tw16537759571176317516:=Nat
 tw2539258799945017437:=Nat
 tw18104766385801179034:=Nat
 tw9168900334162911207:=Nat
 tw11283741752277810967:=Nat
 tw1972615477238662739:=Nat
 tw8764331321228397179:=Nat
 tw16338509901569398125:=Nat
 tw14227782083450852597:=Nat
 tw11655844678991898288:=Nat
 tw17929599185762439352:=Nat
 tw8279513510191745334:=Nat
 tw18296237047756317723:=Nat
 tw17559637584255582409:=Nat
 tw15982888325520668595:=Nat
 tw8159884598623799538:=Nat
 tw15534873267102927696:=Nat
 tw2994607887711730138:=Nat
 tw611588759680106159:=Nat
 tw1693232212269952843:=Nat
 tw13932505359052856338:=Nat
 tw14316093057763738789:=Nat
 tw7544910743653443924:=Nat
 tw12959631225239505334:=Nat
 tw12706463163490028908:=Nat
 tw9558766332344168070:=Nat
 tw12405470855011064755:=Nat
 tw1661244025271399873:=Nat
 tw937622580969921099:=Nat
 tw9865891490391219463:=Nat
 tw8704873901268080661:=Nat
 tw3920207790476346208:=Nat
 tw928748967219984663:=Nat
 tw1173029669456851146:=Nat
 tw16722960047637990513:=Nat
 tw7308255841390810458:=Nat
 tw6959355517421928743:=Nat
 tw3313454909567596900:=Nat
 tw17685850791611644415:=Nat
 tw3011458751622036763:=Nat
 tw215804790696266593:=Nat
 tw6222533788231119175:=Nat
 tw4180352572204264443:=Nat
 tw11223739575832285235:=Nat
 tw7296613191646138883:=Nat
 tw10620775818327199286:=Nat
 tw6889324965042006452:=Nat
 tw16775272106785409370:=Nat
 tw3372397247828029707:=Nat
 tw1914264112901605679:=Nat
 tw8357994375130435810:=Nat
 tw16436939604022409969:=Nat
 tw8367174995481475321:=Nat
 tw9765327163731062041:=Nat
 tw865408598879105419:=Nat
 tw17425474222939435404:=Nat
 tw12680797549078553275:=Nat
 tw11380092848308573308:=Nat
 tw3049542831794575638:=Nat
 tw17768110136512789510:=Nat
 tw10267637238309856439:=Nat
 tw6356978151669593325:=Nat
 tw14345978858090948570:=Nat
 tw5577201607323193825:=Nat
 tw16742648030593403276:=Nat
 tw9433708004691740471:=Nat
 tw2731098421740559603:=Nat
 tw14374499586433877452:=Nat
 tw2830578582100820788:=Nat
 tw5157584042602258912:=Nat
 tw16684518994122317227:=Nat
 tw646659159800859806:=Nat
 tw11514796261085967916:=Nat
 tw12444815771720916604:=Nat
 tw1427678214027923715:=Nat
 tw7718716392063914269:=Nat
 tw3508317207833462167:=Nat
 tw10868104705421844593:=Nat
 tw14970572813849425884:=Nat
 tw8982726943440586237:=Nat
 tw721019149132974770:=Nat
 tw12400193040199494819:=Nat
 tw6188193240953406273:=Nat
 tw11174920211581214432:=Nat
 tw1191568228589379998:=Nat
 tw9008431329880926672:=Nat
 tw601335310316922696:=Nat
 tw5540575088005140103:=Nat
 tw12953377495653140866:=Nat
 tw6502445945614295810:=Nat
 tw10586984839417967149:=Nat
 tw16148117290387422558:=Nat
 tw1505138186112108446:=Nat
 tw2618726754963579813:=Nat
 tw12995121634541018215:=Nat
 tw15155889254729587759:=Nat
 tw13744635100505912194:=Nat
 tw8378906831602313449:=Nat
 tw4495196371413085327:=Nat
 tw8175481389940188068:=Nat
 tw7904560408229879481:=Nat
 tw17154085238655070078:=Nat
 tw14201997425660621996:=Nat
 tw7383012073072594576:=Nat
 tw12328576082441795790:=Nat
 tw15974927659047811142:=Nat
 tw7536469489303506527:=Nat
 tw6308293689296181890:=Nat
 tw17477195685722762967:=Nat
 tw5144916011363190:=Nat
 tw3993814906027876501:=Nat
 tw11969061758965300835:=Nat
 tw15754139757756201584:=Nat
 tw15687648424826378288:=Nat
 tw7850113376670324105:=Nat
 tw2036270701559529335:=Nat
 tw10772518107470789136:=Nat
 tw12416103705116530517:=Nat
 tw7272534622841162353:=Nat
 tw13796733525044723129:=Nat
 tw12621200198455807868:=Nat
 tw17539665092704862645:=Nat
 tw12756809697992807943:=Nat
 tw11107088328081689085:=Nat
 tw2443435653134332245:=Nat
 tw4729550467514475937:=Nat
 tw6970156661789731653:=Nat
 tw3196437937265658914:=Nat
 tw16056023357843734026:=Nat
 tw1685226798029888294:=Nat
 tw14738044412281677886:=Nat
 tw10789074577761515447:=Nat
 tw8734204856923308774:=Nat
 tw15386555461494370178:=Nat
 tw7553775388565282977:=Nat
 tw9015309723858288027:=Nat
 tw11774772294429416932:=Nat
 tw6391252213787434856:=Nat
 tw10581725726533017025:=Nat
 tw18217205240997655206:=Nat
 tw5892792536847173945:=Nat
 tw2302939974541447147:=Nat
 tw11723830184680587554:=Nat
 tw11081364661618671778:=Nat
 tw8022542048152196977:=Nat
 tw16556649997527477228:=Nat
 tw15196957371708172389:=Nat
 tw2007415409935411238:=Nat
 tw2458391597142035834:=Nat
 tw5422130306616013436:=Nat
 tw9408572088724425394:=Nat
 tw13336919104024427146:=Nat
 tw16546598321641706994:=Nat
 tw18066463455547553234:=Nat
 tw6097908739245294745:=Nat
 tw17303874801512347431:=Nat
 tw12693584904377518557:=Nat
 tw9666265235530138403:=Nat
 tw9270625550140090048:=Nat
 tw6769039036480469797:=Nat
 tw14951503702725336160:=Nat
 tw2143100241251210311:=Nat
 tw18426385633229477047:=Nat
 tw8079781173369201683:=Nat
 tw17098987454404871603:=Nat
 tw361504425076496215:=Nat
 tw4199797073388519742:=Nat
 tw9663376803656548699:=Nat
 tw16256225919226157406:=Nat
 tw14940181119381478066:=Nat
 tw18065009410799763300:=Nat
 tw16325822954028955872:=Nat
 tw11045446471484822386:=Nat
 tw9350649795598781688:=Nat
 tw11987078003272021869:=Nat
 tw10215971291484874161:=Nat
 tw17281120700395764923:=Nat
 tw521515710492069257:=Nat
 tw2238252509969946693:=Nat
 tw11588193938805207826:=Nat
 tw15251275396977762239:=Nat
 tw9821133023442056216:=Nat
 tw9800309104292072634:=Nat
 tw6046797905492664587:=Nat
 tw10991907880752305028:=Nat
 tw5768896571691807739:=Nat
 tw12892748154303039353:=Nat
 tw7845162810972837406:=Nat
 tw2368644910730585973:=Nat
 tw10805223285959881431:=Nat
 tw7179974082176944376:=Nat
 tw10838043797573107557:=Nat
 tw6505747651995011786:=Nat
 tw8985441935284569162:=Nat
 tw8288067888473852888:=Nat
 tw5768029347478380708:=Nat
 tw13570862411985730720:=Nat
 tw1016047017027734155:=Nat
 tw4769275372567827997:=Nat
 tw4038886677217160297:=Nat
 tw2501089212895575742:=Nat
 tw4298360106010078244:=Nat
 tw2035283789378224077:=Nat
 tw12321261522290098140:=Nat
 tw4443012707488952131:=Nat
 tw599752406799282036:=Nat
 tw10654842804390725299:=Nat
 tw14741083635664178808:=Nat
 tw11392933335859986461:=Nat
 tw6931647970227635516:=Nat
 tw10420760255393790365:=Nat
 tw9141169454532363128:=Nat
 tw3990252392873602308:=Nat
 tw11268366249494792276:=Nat
 tw4447227265337367048:=Nat
 tw5063122095810585666:=Nat
 tw8187866915125387522:=Nat
 tw3422333823740821745:=Nat
 tw6748197329174842362:=Nat
 tw8567638251216965383:=Nat
 tw2013730365034113257:=Nat
 tw871390158893534640:=Nat
 tw7739458382921874492:=Nat
 tw7396749293649766831:=Nat
 tw17718887463428231305:=Nat
 tw4566046151123958809:=Nat
 tw4355341761742484982:=Nat
 tw1575986617425597090:=Nat
 tw16993071525094053917:=Nat
 tw16788680590689937966:=Nat
 tw4928081702376799130:=Nat
 tw13720223342806430050:=Nat
 tw11597613316615294442:=Nat
 tw3769024565686929447:=Nat
 tw17320264465348652997:=Nat
 tw3708617352945915469:=Nat
 tw15914798244754668436:=Nat
 tw9293656053120481456:=Nat
 tw12618487717912773242:=Nat
 tw14008450099990115962:=Nat
 tw15618716216932246549:=Nat
 tw801267435275205134:=Nat
 tw7092276676948656258:=Nat
 tw17533304959936115607:=Nat
 tw2446345597055105744:=Nat
 tw11857097650503189838:=Nat
 tw17858978116487564180:=Nat
 tw5472263449397547222:=Nat
 tw7580433063473376008:=Nat
 tw13572735063679294765:=Nat
 tw11716614143745768923:=Nat
 tw14162033723949664482:=Nat
 tw13522784558735604821:=Nat
 tw4719254678805535398:=Nat
 tw11282795113243864964:=Nat
 tw4885877589582690293:=Nat
 tw2760081019863116439:=Nat
 tw7424138928398331924:=Nat
 tw15829376235719257055:=Nat
 tw15905049094580248875:=Nat
 tw6061305689120093170:=Nat
 tw4526340922109150882:=Nat
 tw10238126972469446594:=Nat
 tw6610540169119130391:=Nat
 tw402827588178812455:=Nat
 tw2832537311203566786:=Nat
 tw8148179664695964754:=Nat
 tw17153804292257385207:=Nat
 tw9927918433434190016:=Nat
 tw15361357713722491238:=Nat
 tw976952295507637624:=Nat
 tw2573638108245422417:=Nat
 tw14809362953998456845:=Nat
 tw4565088746670738210:=Nat
 tw18030949655298257600:=Nat
 tw7538026901476215341:=Nat
 tw15274426254936802691:=Nat
 tw13071037122122229157:=Nat
 tw7809293492735006435:=Nat
 tw15624877696034749736:=Nat
 tw7870253989790260944:=Nat
 tw18397400696912590607:=Nat
 tw17168921264190514765:=Nat
 tw4357738615788606495:=Nat
 tw11674617485027304280:=Nat
 tw12378917667407095547:=Nat
 tw2145084812959323382:=Nat
 tw4260238918924169440:=Nat
 tw36550536562264335:=Nat
 tw7059231800801928503:=Nat
 tw15340989700225856989:=Nat
 tw8562506689488959474:=Nat
 tw15019066159031060180:=Nat
 tw2362011248433994447:=Nat
 tw4583830349671188212:=Nat
 tw15294827338937236951:=Nat
 tw5567748553785811345:=Nat
 tw1011837248136016815:=Nat
 tw3147368887968761925:=Nat
 tw1630892049889138733:=Nat
 tw14544573224333384866:=Nat
 tw3112211805618455688:=Nat
 tw6196720668816752051:=Nat
 tw16406791554745307875:=Nat
 tw1971001530575013228:=Nat
 tw5446605305439221268:=Nat
 tw53341793389738114:=Nat
 tw6045903802370681201:=Nat
 tw18158067748164039787:=Nat
 tw1946144274789845097:=Nat
 tw11040288883547090840:=Nat
 tw14250982385842652808:=Nat
 tw13802562176933003147:=Nat
 tw5033823407035560557:=Nat
 tw2376323478582497934:=Nat
 tw4172654001320845305:=Nat
 tw11248894797696510284:=Nat
 tw4602197752197717383:=Nat
 tw15930728612610727453:=Nat
 tw15565955669937097138:=Nat
 tw572165727433794816:=Nat
 tw13208635835732987032:=Nat
 tw15406350910640431566:=Nat
 tw4815997510174618098:=Nat
 tw17068589969080790412:=Nat
 tw14898970307019209123:=Nat
 tw11019780032208263103:=Nat
 tw12671497337829459076:=Nat
 tw11038169348127451371:=Nat
 tw10016282521651466089:=Nat
 tw11833634404424045631:=Nat
 tw3262733036411167190:=Nat
 tw12943185264209390695:=Nat
 tw7361477132138150310:=Nat
 tw5196033505716725314:=Nat
 tw18123436215127393644:=Nat
 tw7118724598261124922:=Nat
 tw7640365491060517018:=Nat
 tw16408382663716460651:=Nat
 tw6996706893139973388:=Nat
 tw16057879784273753271:=Nat
 tw10032603406189133175:=Nat
 tw8823545566388026123:=Nat
 tw5398581201924244438:=Nat
 tw249656027526496347:=Nat
 tw16540845856774867798:=Nat
 tw13873885023038842299:=Nat
 tw9191244927866813738:=Nat
 tw3295850096710356561:=Nat
 tw7356607144569995725:=Nat
 tw4444131406788845168:=Nat
 tw3960318065482514155:=Nat
 tw14241292453880682298:=Nat
 tw14438911772600390819:=Nat
 tw17725725725370774279:=Nat
 tw17584106951864964054:=Nat
 tw7336795061031332586:=Nat
 tw17916175830075335924:=Nat
 tw13293333853715217811:=Nat
 tw5771397986205094100:=Nat
 tw17231800752409273529:=Nat
 tw7690510139458593870:=Nat
 tw6826227079446988396:=Nat
 tw57186315114641457:=Nat
 tw14112694684591469028:=Nat
 tw509879002019036209:=Nat
 tw9934175123898764091:=Nat
 tw594074904516300395:=Nat
 tw9079698272165222773:=Nat
 tw4579758014774614874:=Nat
 tw3696126547885474538:=Nat
 tw1355027614789543311:=Nat
 tw3869745302614336216:=Nat
 tw17691493949067812322:=Nat
 tw173069496510255972:=Nat
 tw17242297612447132069:=Nat
 tw15482033735690099844:=Nat
 tw15440441321387483115:=Nat
 tw11203598392653737681:=Nat
 tw5623666855714155571:=Nat
 tw429496777240793875:=Nat
 tw428751466733279307:=Nat
 tw13540897549062322641:=Nat
 tw12751210699575286615:=Nat
 tw12105629788395928630:=Nat
 tw11577027318596809868:=Nat
 tw15955989084596795032:=Nat
 tw9142776182280703222:=Nat
 tw6900276421805654288:=Nat
 tw3753498706758352569:=Nat
 tw4754396336624916903:=Nat
 tw12704669889657325883:=Nat
 tw9754671944089621334:=Nat
 tw17163199294615521645:=Nat
 tw6464100469163968648:=Nat
 tw5431247480010215421:=Nat
 tw14496350493251126071:=Nat
 tw4931201680892533688:=Nat
 tw4707964670533609681:=Nat
 tw8602536975304353048:=Nat
 tw12031522807172064426:=Nat
 tw12008554543187418006:=Nat
 tw11219935714457725369:=Nat
 tw2492516324631056986:=Nat
 tw2200781139102122461:=Nat
 tw954670813794978492:=Nat
 tw18388149270071031058:=Nat
 tw6061349482424315065:=Nat
 tw5261314599218368965:=Nat
 tw5456853398985689037:=Nat
 tw4539123380294131453:=Nat
 tw14555906011131412630:=Nat
 tw14225743974656615604:=Nat
 tw2440357259427310749:=Nat
 tw12843067970898036642:=Nat
 tw9089999615146946778:=Nat
 tw1494495455537629205:=Nat
 tw18301729101419248957:=Nat
 tw16639385123235898188:=Nat
 tw4411899025542055154:=Nat
 tw5700757922529752896:=Nat
 tw17397626955073404309:=Nat
 tw6686308414950742462:=Nat
 tw15100047421923903263:=Nat
 tw14974242780921912758:=Nat
 tw8848728813635569921:=Nat
 tw1164759728619499562:=Nat
 tw7891882785443479159:=Nat
 tw1894465958491446901:=Nat
 tw982701662395339090:=Nat
 tw16307622468843937672:=Nat
 tw4164600928126343295:=Nat
 tw9390858980505151636:=Nat
 tw11134618056054047681:=Nat
 tw2750551140866992108:=Nat
 tw10784831785390899069:=Nat
 tw15838789263004566459:=Nat
 tw13658431302200689556:=Nat
 tw11383901924045065417:=Nat
 tw6152687143705328243:=Nat
 tw11158173096032587305:=Nat
 tw9349555447087153406:=Nat
 tw7814523962588919795:=Nat
 tw6746559697885834550:=Nat
 tw487168080174422942:=Nat
 tw287789216503374680:=Nat
 tw4420179565992380316:=Nat
 tw5740172612982187788:=Nat
 tw16890017111178668647:=Nat
 tw3293160199838951203:=Nat
 tw16908735033017022994:=Nat
 tw16865672888061762116:=Nat
 tw9964828698564090160:=Nat
 tw6110203493315885957:=Nat
 tw17123592733356754688:=Nat
 tw14622566719742408613:=Nat
 tw13729820770866085718:=Nat
 tw10222729083733778183:=Nat
 tw16300706687019391547:=Nat
 tw8188245399861402512:=Nat
 tw5811308458685286121:=Nat
 tw15757957863060337154:=Nat
 tw3651013830996971409:=Nat
 tw2594456849683208856:=Nat
 tw15314283513088264881:=Nat
 tw6545412479948515233:=Nat
 tw5163957958646753898:=Nat
 tw12703255843127509278:=Nat
 tw8963635751508047742:=Nat
 tw5209252058926283452:=Nat
 tw4675471112261719254:=Nat
 tw2059754754701187849:=Nat
 tw6772032603619451564:=Nat
 tw12802412100450726202:=Nat
 tw15671628574186237365:=Nat
 tw4647581960990267935:=Nat
 tw2698291488190468659:=Nat
 tw1502651818762639988:=Nat
 tw11897285214060862428:=Nat
 tw5556514784358536029:=Nat
 tw14086346279134794679:=Nat
 tw12227441594102137139:=Nat
 tw7407203256161925630:=Nat
 tw6360402454526311245:=Nat
 tw3065097771186432756:=Nat
 tw2455215060793372627:=Nat
 tw13776660417018363254:=Nat
 tw8099240061912717178:=Nat
 tw8272735274747840098:=Nat
 tw7603650239262302272:=Nat
 tw5512099430374864393:=Nat
 tw1442559283086809995:=Nat
 tw18390125399618173265:=Nat
 tw1081802010086639776:=Nat
 tw7092997938747416524:=Nat
 tw9818475123325959358:=Nat
 tw11604864799147040466:=Nat
 tw4221418520110340410:=Nat
 tw11459653410078382104:=Nat
 tw16159846268405312471:=Nat
 tw7502738724822935184:=Nat
 tw7449761709093072325:=Nat
 tw6287699814413253677:=Nat
 tw4839411116075764612:=Nat
 tw3748038143835680761:=Nat
 tw2019714653682199566:=Nat
 tw17777298223404631336:=Nat
 tw1216268653258697665:=Nat
 tw5127808253017978899:=Nat
 tw11163769555449739005:=Nat
 tw1709911438193252890:=Nat
 tw16357164620841106530:=Nat
 tw12874051859115071047:=Nat
 tw5638583868041712995:=Nat
 tw15752204591057389892:=Nat
 tw9989282528219686152:=Nat
 tw859465231595399030:=Nat
 tw17861005391578678144:=Nat
 tw13225568400201434148:=Nat
 tw4446046134506353330:=Nat
 tw6654655336637042635:=Nat
 tw5687328075521092272:=Nat
 tw5531649405309587955:=Nat
 tw4989112876354049207:=Nat
 tw2728675543230722590:=Nat
 tw14116654402005449112:=Nat
 tw11857477429765949628:=Nat
 tw8905528648826013570:=Nat
 tw7647642918204523529:=Nat
 tw15806108228441214112:=Nat
 tw2235164693154991440:=Nat
 tw17114450041424564093:=Nat
 tw5284976898997508984:=Nat
 tw17752835329569520251:=Nat
 tw5008978823053964393:=Nat
 tw3821873858263269124:=Nat
 tw3231331667594827178:=Nat
 tw16468004948724474880:=Nat
 tw15395318622725825692:=Nat
 tw7779945426606059976:=Nat
 tw7994984403924620612:=Nat
 tw14398308774418088643:=Nat
 tw8961538757907467496:=Nat
 tw17714702708857884227:=Nat
 tw14279805390712368247:=Nat
 tw13860720091542947055:=Nat
 tw827156794296729413:=Nat
 tw14957147864450652527:=Nat
 tw1460291518720367525:=Nat
 tw13685005732413501453:=Nat
 tw10933261486519176874:=Nat
 tw9835842118399221294:=Nat
 tw6787001260482462817:=Nat
 tw2712257307464151980:=Nat
 tw2689656190517987682:=Nat
 tw15618432689698277703:=Nat
 tw12331652607487245823:=Nat
 tw10717405728664098745:=Nat
 tw1437830840408784:=Nat
 tw4599537124102492478:=Nat
 tw3949547805050512749:=Nat
 tw972602556986494644:=Nat
 tw15517519888991450844:=Nat
 tw14554985815230920460:=Nat
 tw5648626609909451824:=Nat
 tw317800921539575295:=Nat
 tw1750336149886033255:=Nat
 tw16335757833882888722:=Nat
 tw16104899051902082151:=Nat
 tw17618928187032470759:=Nat
 tw8432756151822415232:=Nat
 tw9234648334748191140:=Nat
 tw8835331074480258255:=Nat
 tw3553429671137915985:=Nat
 tw9349512873562051433:=Nat
 tw3456298677765537715:=Nat
 tw10433410785784734702:=Nat
 tw10200600293939654091:=Nat
 tw10745818015105991671:=Nat
 tw7204443928359312497:=Nat
 tw17957970939111692553:=Nat
 tw16892739334333872619:=Nat
 tw1883095089698219615:=Nat
 tw18350097335470823948:=Nat
 tw4015341932489375387:=Nat
 tw1962829023765765630:=Nat
 tw2345111253487171189:=Nat
 tw18064672655735655830:=Nat
 tw9428381081414177981:=Nat
 tw3854693999968402514:=Nat
 tw9697713515043914523:=Nat
 tw10643455018124522296:=Nat
 tw5528162836399390253:=Nat
 tw496264071873412807:=Nat
 tw8030403077487226681:=Nat
 tw6564070239833557282:=Nat
 tw2547767401625678763:=Nat
 tw17996310062268558117:=Nat
 tw17939753642694608454:=Nat
 tw17845425193057176712:=Nat
 tw17438326773405181143:=Nat
 tw15252726888861559683:=Nat
 tw10768641885752978275:=Nat
 tw10560799346330532197:=Nat
 tw10161177582441640554:=Nat
 tw6287056047450082137:=Nat
 tw246367179710614786:=Nat
 tw18406551350941912610:=Nat
 tw15483272854938917706:=Nat
 tw10814749120031541916:=Nat
 tw7549512705464783692:=Nat
 tw14976456747210946871:=Nat
 tw8013786533516132864:=Nat
 tw4642733089877395331:=Nat
 tw2110599711667701282:=Nat
 tw1759444902351303116:=Nat
 tw14039849684367561918:=Nat
 tw16622007129324027849:=Nat
 tw15060849771705736016:=Nat
 tw12661700640141332219:=Nat
 tw14558610978766656918:=Nat
 tw9212685342998213301:=Nat
 tw14717073037933414223:=Nat
 tw9050560634319614259:=Nat
 tw15019055625586153995:=Nat
 tw9749898071588362181:=Nat
 tw15599340878405274771:=Nat
 tw8677363615553630257:=Nat
 tw11705413824251766865:=Nat
 tw9387311129463182997:=Nat
 tw15569047691518942715:=Nat
 tw8661761099526138786:=Nat
 tw638507763900530215:=Nat
 tw6206216243811313902:=Nat
 tw5260832365268939412:=Nat
 tw16682295432067995857:=Nat
 tw12926712720919078877:=Nat
 tw12421915005023764434:=Nat
 tw11540453641662086636:=Nat
 tw9208368825288377550:=Nat
 tw9901281973561558442:=Nat
 tw961236855592435950:=Nat
 tw8467130487083558054:=Nat
 tw7411836401400600877:=Nat
 tw6946114547615229888:=Nat
 tw6001018517631853378:=Nat
 tw572732324155730982:=Nat
 tw3966973588443371958:=Nat
 tw18151663953847778099:=Nat
 tw16858166034215521799:=Nat
 tw16095511638939446992:=Nat
 tw11301995297093272769:=Nat
 tw11160421790760549733:=Nat
 tw4522700814061875731:=Nat
 tw8218605007677007573:=Nat
 tw17456685509038906458:=Nat
 tw15910794819037972348:=Nat
 tw14267599396387503059:=Nat
 tw1421765069535942707:=Nat
 tw14195170062305759763:=Nat
 tw12912825349660335702:=Nat
 tw1277564256660856415:=Nat
 tw10493955199820767036:=Nat
 tw7892965738691164679:=Nat
 tw4469903713763194295:=Nat
 tw2336368754409221864:=Nat
 tw16779124188984099137:=Nat
 tw1488390629290998950:=Nat
 tw9527224898624438358:=Nat
 tw6843470088280086745:=Nat
 tw6757721020587465233:=Nat
 tw4287872367995370671:=Nat
 tw4112053443448019313:=Nat
 tw4074617701780980344:=Nat
 tw2573140052182065713:=Nat
 tw24462729715143393:=Nat
 tw1998650116848765447:=Nat
 tw1793398965154455674:=Nat
 tw16023199122218288898:=Nat
 tw14092058728987335828:=Nat
 tw13550783507182311388:=Nat
 tw10332841669509611625:=Nat
 tw10280436533036720803:=Nat
 tw10200791218852193216:=Nat
 tw16711249258348636548:=Nat
 tw16062916686956682465:=Nat
 tw12197650106603349667:=Nat
 tw10533544199952919480:=Nat
 tw14686973292477008151:=Nat
 tw18424470524111414097:=Nat
 tw320750142620669978:=Nat
 tw14851835727838101318:=Nat
 tw15293490397243974892:=Nat
 tw8846626022606986472:=Nat
 tw4511086672384879754:=Nat
open PySem PySem.W PyProof.Rows
set_option maxRecDepth 100000 in
set_option maxHeartbeats 0 in
theorem PySem.Challenge.cw_rootstamp_k53_heads_of_a_house_holds : PySem.Challenge.rw_rootstamp_k53_heads_of_a_house.Holds := by
 w_on;o_law;k_head;(case hw=>w_witness2)
 k_fill
 refine Rs.Vj (l:=PySem.Challenge.rw_rootstamp_k53_heads_of_a_house) rfl rfl (fun w h Y=>by first | exact PySem.W.kIn_of Y | exact PySem.W.km_in_of Y) (by decide +kernel) ?F
 case F=>
  intro w mg fa h KX G hmg
  refine' Rs.Px (A:=Rs.mkA KX) hmg ⟨L2.fmk KX G _ (L2.au _ _ _) fun F=>F.b1,L2.fmk KX G _ (L2.au _ _ _) fun F=>F.b1,L2.fmk KX G _ (L2.au _ _ _) fun F=>F.b1,L2.fmk KX G _ (L2.au _ _ _) fun F=>F.b1,L2.fmk KX G _ (L2.au _ _ _) fun F=>F.b1,L2.fbk (L2.au _ _ _) fun F=>F.b2,L2.fmk KX G _ (L2.au _ _ _) fun F=>F.b1,L2.fmk KX G _ (L2.au _ _ _) fun F=>F.b2,L2.fmk KX G _ (L2.au _ _ _) fun F=>F.b0,L2.fbk (L2.au _ _ _) fun F=>F.b1,L2.fmk KX G _ (L2.au _ _ _) fun F=>F.b0,L2.fmk KX G _ (L2.au _ _ _) fun F=>F.b1,L2.fbk (L2.au _ _ _) fun F=>F.b1,L2.fmk KX G _ (L2.au _ _ _) fun F=>F.b1,L2.fbk (L2.au _ _ _) fun F=>F.b3,L2.fbk (L2.au _ _ _) fun F=>F.b2,L2.fbk (L2.au _ _ _) fun F=>F.b3,L2.fbk (L2.au _ _ _) fun F=>F.b2,L2.fmk KX G _ (L2.au _ _ _) fun F=>F.b1,L2.fmk KX G _ (L2.au _ _ _) fun F=>F.b1,L2.fmk KX G _ (L2.au _ _ _) fun F=>F.b1,L2.fbk (L2.au _ _ _) fun F=>F.b2,L2.fmk KX G _ (L2.au _ _ _) fun F=>F.b1,L2.fmk KX G _ (L2.au _ _ _) fun F=>F.b1,L2.fbk (L2.au _ _ _) fun F=>F.b4,L2.fmk KX G _ (L2.au _ _ _) fun F=>F.b2,L2.fmk KX G _ (L2.au _ _ _) fun F=>F.b2,L2.fmk KX G _ (L2.au _ _ _) fun F=>F.b2,L2.fmk KX G _ (L2.au _ _ _) fun F=>F.b2,L2.fmk KX G _ (L2.au _ _ _) fun F=>F.b4,L2.fmk KX G _ (L2.au _ _ _) fun F=>F.b1,L2.fmk KX G _ (L2.au _ _ _) fun F=>F.b2,L2.fbk (L2.au _ _ _) fun F=>F.b1,L2.fmk KX G _ (L2.au _ _ _) fun F=>F.b2,L2.fbk (L2.au _ _ _) fun F=>F.b3,L2.fmk KX G _ (L2.au _ _ _) fun F=>F.b1,L2.fbk (L2.au _ _ _) fun F=>F.b3,L2.fbk (L2.au _ _ _) fun F=>F.b3,L2.fbk (L2.au _ _ _) fun F=>F.b2,L2.fbk (L2.au _ _ _) fun F=>F.b1,L2.fmk KX G _ (L2.au _ _ _) fun F=>F.b3,L2.fbk (L2.au _ _ _) fun F=>F.b2,L2.fbk (L2.au _ _ _) fun F=>F.b1,L2.fbk (L2.au _ _ _) fun F=>F.b1,L2.fbk (L2.au _ _ _) fun F=>F.b1,L2.fmk KX G _ (L2.au _ _ _) fun F=>F.b2,L2.fbk (L2.au _ _ _) fun F=>F.b3,L2.fbk (L2.au _ _ _) fun F=>F.b3,L2.fmk KX G _ (L2.au _ _ _) fun F=>F.b3,L2.fbk (L2.au _ _ _) fun F=>F.b3,L2.fbk (L2.au _ _ _) fun F=>F.b3,L2.fbk (L2.au _ _ _) fun F=>F.b2,L2.fbk (L2.au _ _ _) fun F=>F.b4,L2.fbk (L2.au _ _ _) fun F=>F.b4,L2.fbk (L2.au _ _ _) fun F=>F.b3,L2.fbk (L2.au _ _ _) fun F=>F.b6,L2.fbk (L2.au _ _ _) fun F=>F.b5,L2.fbk (L2.au _ _ _) fun F=>F.b4,L2.fbk (L2.au _ _ _) fun F=>F.b2,L2.fbk (L2.au _ _ _) fun F=>F.b2,L2.fmk KX G _ (L2.au _ _ _) fun F=>F.b1,L2.fmk KX G _ (L2.au _ _ _) fun F=>F.b1,L2.fbk (L2.au _ _ _) fun F=>F.b4,L2.fbk (L2.au _ _ _) fun F=>F.b5,L2.fmk KX G _ (L2.au _ _ _) fun F=>F.b3,L2.fmk KX G _ (L2.au _ _ _) fun F=>F.b5,L2.fmk KX G _ (L2.au _ _ _) fun F=>F.b3,L2.fbk (L2.au _ _ _) fun F=>F.b5,L2.fbk (L2.au _ _ _) fun F=>F.b3,L2.fbk (L2.au _ _ _) fun F=>F.b5,L2.fbk (L2.au _ _ _) fun F=>F.b3,L2.fbk (L2.au _ _ _) fun F=>F.b3,L2.fbk (L2.au _ _ _) fun F=>F.b2,L2.fmk KX G _ (L2.au _ _ _) fun F=>F.b2,L2.fmk KX G _ (L2.au _ _ _) fun F=>F.b2,L2.fmk KX G _ (L2.au _ _ _) fun F=>F.b2,L2.fmk KX G _ (L2.au _ _ _) fun F=>F.b3,L2.fmk KX G _ (L2.au _ _ _) fun F=>F.b4,L2.fmk KX G _ (L2.au _ _ _) fun F=>F.b2,L2.fmk KX G _ (L2.au _ _ _) fun F=>F.b4,L2.fmk KX G _ (L2.au _ _ _) fun F=>F.b4,L2.fbk (L2.au _ _ _) fun F=>F.b4,L2.fbk (L2.au _ _ _) fun F=>F.b3,L2.fbk (L2.au _ _ _) fun F=>F.b3,L2.fmk KX G _ (L2.au _ _ _) fun F=>F.b2,L2.fmk KX G _ (L2.au _ _ _) fun F=>F.b2,L2.fmk KX G _ (L2.au _ _ _) fun F=>F.b2,L2.fmk KX G _ (L2.au _ _ _) fun F=>F.b4,L2.fmk KX G _ (L2.au _ _ _) fun F=>F.b4,L2.fmk KX G _ (L2.au _ _ _) fun F=>F.b4,L2.fbk (L2.au _ _ _) fun F=>F.b3,L2.fbk (L2.au _ _ _) fun F=>F.b3,L2.fbk (L2.au _ _ _) fun F=>F.b3,L2.fmk KX G _ (L2.au _ _ _) fun F=>F.b5,L2.fbk (L2.au _ _ _) fun F=>F.b1,L2.fbk (L2.au _ _ _) fun F=>F.b1,L2.fmk KX G _ (L2.au _ _ _) fun F=>F.b6,L2.fmk KX G _ (L2.au _ _ _) fun F=>F.b1,PySem.W.mg_none_of KX G _,PySem.W.mg_none_of KX G _,PySem.W.mg_none_of KX G _,PySem.W.mg_none_of KX G _,PySem.W.mg_none_of KX G _,PySem.W.mg_none_of KX G _,PySem.W.mg_none_of KX G _,PySem.W.mg_none_of KX G _,PySem.W.mg_none_of KX G _,PySem.W.mg_none_of KX G _,PySem.W.mg_none_of KX G _,PySem.W.mg_none_of KX G _,PySem.W.mg_none_of KX G _,PySem.W.mg_none_of KX G _,PySem.W.mg_none_of KX G _,L2.EX KX G _,L2.EX KX G _,L2.EX KX G _,PySem.W.mg_of KX G _,PySem.W.mg_of KX G _,PySem.W.mg_of KX G _,PySem.W.mg_of KX G _,PySem.W.mg_of KX G _,PySem.W.mg_of KX G _,PySem.W.mg_of KX G _,PySem.W.mg_of KX G _,PySem.W.mg_of KX G _,⟨_,_,_,_⟩,L2.ci _,⟨_,_,_,_⟩,L2.ci _,⟨_,_,_,_⟩,L2.ci _,L2.ci _,⟨_,_,_,_⟩,L2.ci _,L2.ci _,⟨_,_,_,_⟩,L2.ci _,L2.ci _,L2.ci _,L2.ci _,⟨_,_,_,_⟩,L2.ci _,L2.ci _,L2.ci _,L2.ci _,L2.ci _,L2.ci _,⟨_,_,_,_⟩,L2.ci _,L2.ci _,L2.ci _,⟨_,_,_,_⟩,L2.ci _,L2.ci _,L2.ci _,⟨_,_,_,_⟩,L2.ci _,L2.ci _,L2.ci _,L2.ci _,⟨_,_,_⟩,⟨_,_,_⟩,⟨_,_,_⟩,⟨_,_,_⟩,⟨_,_,_⟩,⟨_,_,_⟩,⟨_,_,_⟩,⟨_,_,_⟩,⟨_,_,_⟩,⟨_,_,_⟩,⟨_,_,_⟩,⟨_,_,_⟩,⟨_,_,_⟩,⟨_,_,_⟩,⟨_,_,_⟩,⟨_,_,_⟩,⟨_,_,_⟩,⟨_,_,_⟩,⟨_,_,_⟩,⟨_,_,_⟩,⟨_,_,_⟩,⟨_,_,_⟩,⟨_,_,_⟩,⟨_,_,_⟩,⟨_,_,_⟩,⟨_,_,_⟩,⟨_,_,_⟩,⟨_,_,_⟩,⟨_,_,_⟩,⟨_,_,_⟩,⟨_,_,_⟩,⟨_,_,_⟩,⟨_,_,_⟩,⟨_,_,_⟩,⟨_,_,_⟩,⟨_,_,_⟩,⟨_,_,_⟩,⟨_,_,_⟩,⟨_,_,_⟩,⟨_,_,_,_⟩,⟨_,_,_,_⟩,⟨_,_,_,_⟩,⟨_,_,_,_⟩,⟨_,_,_,_⟩,⟨_,_,_,_⟩,⟨_,_,_,_⟩,⟨_,_,_,_⟩,⟨_,_,_,_,_⟩,⟨⟨⟨_,_,_,_⟩,_⟩,⟨⟨_,_,_,_⟩,_⟩,⟨⟨_,_,_,_⟩,_⟩,⟨⟨_,_,_,_⟩,_⟩,⟨⟨_,_,_,_⟩,_⟩,⟨⟨_,_,_,_⟩,_⟩,⟨⟨_,_,_,_⟩,_⟩,⟨⟨_,_,_,_⟩,_⟩,⟨⟨_,_,_,_⟩,_⟩,trivial⟩⟩ ?nt (L2.AO (l:=["writing", "counting", "_law_stamper"]) ?ta "writing") (L2.AO (l:=["writing", "counting", "_law_stamper"]) ?ta "counting") (L2.AO (l:=["writing", "counting", "_law_stamper"]) ?ta "_law_stamper") (L2.QK (l:=["writing", "counting", "_law_stamper"]) ?ta ?td)
  case nt | ta | td=>kernel_rfl
  iterate 3 all_goals try ((try dsimp only [Rs.mkA,Rs.gm]);k_is)
  all_goals (try dsimp only [Rs.mkA,Rs.gm]);first | kit_is | k_exc | kernel_rfl
