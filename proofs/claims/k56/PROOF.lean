import PyProof.Rows.All
import Wide.All
import OpenK.AllK
import Wide.FinOn
import Lean
import PyProof.EqAt
import PyProof.EqKinds
import PyProof.TupleCall
import PyProof.P3In
import KE.KDictLaws
import KE.KTabLook
import KE.KRevIter
import KE.KItemsList
import PyProof.TupleOfGen
import KE.KSortTup
import KE.KDictSum
import KE.KEqDict
import PyProof.EnumMake
import PyProof.EnumFor
import PyProof.EnumStmt
import PyProof.AttrMissHeap
import KE.KDictOf
import PyProof.Rows.SortShell
import KE.KDictList
import PyProof.Rows.StrJoinRep
import PyProof.NeKinds
import PySem.Challenge.RW_rootstamp_k56_no_answers
set_option Elab.async false
set_option linter.all false
set_option maxRecDepth 100000
set_option maxHeartbeats 4000000
open Array renaming length_toList->NH,getElem?_eq_getElem->OB,append_assoc->Po,toList->Qx
open Bool renaming and_eq_true_iff->tx,false_ne_true->Lc,and_eq_true->LS,false_and->LW,and_false->MG,eq_iff_iff->Nb,false_eq_true->NS,true_and->Qv,and_true->Qw
open Classical renaming byContradiction->Ma
open False renaming elim->Lh
open ForInStep renaming yield->Pm
open Int renaming eq_ofNat_of_zero_le->LN,emod_nonneg->MA,emod_lt_of_pos->MO,ofNat_sub->Na,natCast_add->Nd,toNat_of_nonneg->NP,toNat_natCast->Od,one_mul->OA,fdiv_eq_ediv_of_nonneg->OI
open LawfulMonad renaming pure_bind->PY
open List renaming mem_cons->If,not_mem_nil->KO,size_toArray->KR,getElem?_eq_getElem->KU,length_append->KW,getElem?_eq_some_iff->KY,mem_singleton->KZ,mem_cons_of_mem->Lb,mem_cons_self->Lj,mem_append_right->Lp,length_map->Lq,getD_eq_getElem?_getD->Lu,nodup_cons->Lv,getElem?_map->LF,map_cons->LJ,mem_of_getElem?->LL,length_cons->LO,append_nil->LX,mem_map->Mc,lookup->Me,mem_append->Ml,lookup_cons->Mp,all_eq_true->Mq,of_mem_zip->Mx,map_append->My,mem_append_left->MC,zip->MJ,find?_cons->MM,length_take->MU,getElem?_append_right->Nf,getElem?_append_left->Nk,mem_iff_getElem?->Nw,length_replicate->Nx,mem_range->NG,filterMap_cons->NL,range->NW,length_drop->Og,getElem_mem->Oh,nodup_nil->OH,getElem?_take_of_lt->OM,getElem?_replicate->OQ,any_cons->OR,getElem?_set_self->OV,map_nil->OZ,map_map->Pa,lookup_cons_self->Pb,getElem?_eq_none->Pc,mem_iff_getElem->Pj,getElem?_set_ne->Pl,mem_filterMap->Py,take_sublist->PC,find?_append->PD,append_assoc->PF,take_length->PV,getElem_inj->PX,mem_filter->Qd,forIn_cons->Qe,replicate->Qn,drop_zero->Qo
open List.Pairwise renaming of_map->Rg,nil->Rh
open List.cons renaming inj->NC
open Nat renaming le_refl->gV,lt_of_lt_of_le->KS,ne_of_lt->Ld,zero_le->Li,le_trans->Ll,lt_of_le_of_lt->LK,shiftRight_eq_div_pow->LR,pow_le_pow_right->Mj,lt_irrefl->Mo,two_pow_pos->MN,div_div_eq_div_mul->MQ,le_of_lt->MT,div_eq_of_lt->MX,pow_add->Nr,log2_self_le->Nt,le_of_eq->NA,div_lt_iff_lt_mul->NB,le_succ->NO,pow_succ->Of,lt_succ_self->Om,log2->Ou,div_add_mod->Oz,shiftRight_xor_distrib->OF,mod_two_eq_zero_or_one->OG,pow_lt_pow_iff_right->OP,sub_zero->Ph,min_le_right->Qc,min_le_left->Qm
open Ne renaming symm->KP
open Option renaming isSome_iff_exists->Ly,map_some->MZ,isSome_map->Pn,getD_some->Pw,getD_none->Px
open Option.some renaming inj->KN
open Or renaming inr->PU
open PyProof.Rows renaming slot_tuple_getitem->Lz,boot_isinstance->LH,AllBare->Nz,callWith_type1->NK,boot_tuple->NR,recsOf->Ot,subscriptTail_builtinR->PB,entry_tuple_getitem->Qk,IntsAre->Ql,args_tuple_getitem->Qt,IsTup->Rf
open PyProof.Rows.IsTup renaming new->PR
open PySem renaming Value->pv,Shared->Dc,FuncData->Gt,wpAny_bind->KJ,wpAny_pure->La,Program->Lf,wpAny_mono->Lk,World->LA,Around->LC,wpAny_Call_Name_kw->LP,mem_of_lookup->LQ,boot_len->Md,NameKind->Mm,wpAny_truthy_bool->Mn,codeAny_mono->Mr,wpAny_passesOwn->ME,wpAny_execs_nil->MR,wpAny_newObj_type->MV,wpAny_holding->Ng,sizeLine_eq->Nl,wpAny_call->Nu,wpAny_callSpecial?_slot->Ny,wpAny_execs_cons->ND,wpAny_loadPart'->NM,wpAny_newFunctionEnv->NT,tupleKind_room_in1->Oi,PlainAttrs->Oy,IsPart->OC,wpAny_call_entry->OJ,noFill_tuple_add->OK,Within->OS,wpAny_newFunctionEnv_cells->OW,wpAny_standAt->Pq,seq_tuple_add->Pr,call->Ps,BindsTo->Pu,wpAny_typeOf->PH,seqIndex_neg->PJ,concat_meets->PK,codeAny_call_function->PL,Result->PN,PassesOwn->PP,CmpOp->PQ,wpAny_field->Qf,seqIndex_of->Qg,PyData->Qp,IntMulOk->Qr,wpAny_sequenceKey->Qy,wpAny_pyIter_list->Qz,wpAny_assign_Name->QB,wpAny_Return_some->QC,wpAny_Name->QD,typeIs_str->QF,call_meets->QG
open PySem.Around renaming under->OO,frames_deeper->OU
open PySem.Builtin renaming bitNot->Lr,bitAnd->Mb,bitXor->Nc
open PySem.Builtin.Int renaming intBits->Lw
open PySem.Builtin.Range renaming rangeSize->Re
open PySem.Builtin.Slice renaming slicePlaces->Mv,sliceAdjust->MS,sliceApplied->NJ,slicePartIndex->Rb,sliceFields->Rc
open PySem.Builtin.Tuple renaming tupleExact->Mw,tupleItemsOf->NI,tupleIsExact->Ra
open PySem.Calls renaming Name_function_global->Oq,callWith_builtin->ON
open PySem.Code renaming isFrame->OY
open PySem.EqMixed renaming ne_str_int->QP,ne_str_bool->QQ,ne_int_str->QR,ne_bool_str->QU,eq_str_int->QV,eq_str_bool->QX,eq_int_str->QY,eq_bool_str->QZ
open PySem.F renaming slot_list_append->LB,type_list_append->LG,plainAttrs_list->LI,args_tuple_add_2->Ni,entry_tuple_add->Nm,slot_tuple_add->Nq,type_int_bit_length->Ob,slot_int_bit_length->Oc,slot_str_ascii_iterator_iter->Oo,plainAttrs_int->OE,slot_tuple_eq_refl->Pz,slot_dict_len->QN
open PySem.Heap renaming get?_push_of_some->wr,lt_size->KQ,get?_push_size->Lg,SameBut->Nh,size_push->OD,get?_update_other->OT
open PySem.Heap.IsSliceOf renaming new->Qs
open PySem.NameKind renaming free->Mi,cell->Nj
open PySem.Obj renaming mapSeq->Oa
open PySem.PassesOwn renaming never->MI
open PySem.PyData renaming depthAll->MY,canLayAll0->NQ,strOk->Qj
open PySem.SeqAt renaming eqv_refl->On
open PySem.SeqAt.EqAt renaming int_int->NF,str_int->NY,int_str->NZ,str_str->Qb
open PySem.Str renaming empty->MH,ofString->Oe
open PySem.Value renaming ref->Lo,bool->Mz,str->NN,none->NV,int->Ol,float->Pg,isStrOf->Qi,isInt->QK,bytes->QL
open PySem.Value.type renaming inj->Pf
open PySem.W renaming Frag->cW,findIn->KI,isFn->Lt,hasDictIn->LU,emptyDict->LV,plainGet->LY,plainOver->LZ,mg_none_of->Mf,keepIn->Mg,mg_of->Mh,nsIn->Ms,makesIn->Mt,instObj->Mu,kitOne->MF,kia_one->MK,fnOf->ML,methodCall_KW->MP,callWith_K->Nn,CodeHd->Np,plainGet_of->Nv,envX->NE,specialIn->NU,callWith_K0->NX,tabIn->Oj,cellsFrom_some->Ox,mroIn->OL,handedIn->OX,tabObj->Pd,noTabs->Pe,callWith_F->Pt,methodObj->PM,lookIn->PZ,codeIn->Qa,makes_of->Qh,takesIn->QH,takerIn->QJ
open Sum renaming inr->Ov,inl->Ow
open True renaming intro->MB
namespace L2
open PySem PySem.Spec PyProof.Rows
abbrev Key:=Sum Int Str
def iK:Key->pv->Bool
 |.inl k,v=>QK k v
 |.inr x,v=>Qi x v
def IS (w:LA):Key->Int
 |.inl k=>hashInt k
 |.inr x=>hashStr w x
theorem cB:∀{k:Key}{v:pv},iK k v=true->(∃i t,k=Ow i/\v=Ol i t)\/(∃x t,k=Ov x/\v=NN x t)
 |.inl i,v,h=>by
  obtain⟨t,e⟩:=Value.isInt_shape (k:=i) (v:=v) h
  exact .inl ⟨i,t,rfl,e⟩
 |.inr x,v,h=>by
  obtain⟨t,e⟩:=Value.isStrOf_shape (x:=x) (v:=v) h
  exact .inr ⟨x,t,rfl,e⟩
theorem rR (i:Int)(t:Tok):iK (.inl i) (.int i t)=true:=by simp[iK,QK]
theorem rj (x:Str)(t:Tok):iK (.inr x) (.str x t)=true:=by simp[iK,Qi]
theorem BN (a b:Int):decide ((Ow a:Key)=Ow b)=(a==b):=by
 by_cases e:a=b
 ·subst e;simp
 ·have h:¬(Ow a:Key)=Ow b:=fun q=>e (Sum.inl.inj q)
  rw[decide_eq_false h]
  exact(beq_eq_false_iff_ne.mpr e).symm
theorem zR (a b:Str):decide ((Ov a:Key)=Ov b)=decide (a=b):=by
 by_cases e:a=b
 ·subst e;simp
 ·have h:¬(Ov a:Key)=Ov b:=fun q=>e (Sum.inr.inj q)
  rw[decide_eq_false h,decide_eq_false e]
theorem By (a:Int)(b:Str):decide ((Ow a:Key)=Ov b)=false:=decide_eq_false (fun q=>nomatch q)
theorem AL (a:Str)(b:Int):decide ((Ov a:Key)=Ow b)=false:=decide_eq_false (fun q=>nomatch q)
def cG (prog:Lf)(w:LA):PySem.KeyKind prog w Key where
 is:=iK
 hash:=IS w
 inj:=fun v a b ha hb=>by
  rcases cB ha with⟨i,t,rfl,rfl⟩|⟨x,t,rfl,rfl⟩
  ·rcases cB hb with⟨j,u,rfl,e⟩|⟨y,u,rfl,e⟩
   ·injection e with e1 _;rw[e1]
   ·exact nomatch e
  ·rcases cB hb with⟨j,u,rfl,e⟩|⟨y,u,rfl,e⟩
   ·exact nomatch e
   ·injection e with e1 _;rw[e1]
 byValue:=fun k v h=>by
  rcases cB h with⟨i,t,rfl,rfl⟩|⟨x,t,rfl,rfl⟩<;>rfl
 pyHash:=fun hv h=>by
  rcases cB hv with⟨i,t,rfl,rfl⟩|⟨x,t,rfl,rfl⟩
  ·exact wpAny_pyHash_int h
  ·exact wpAny_pyHash_str h
 eqBool:=fun hu hv h=>by
  rcases cB hu with⟨i,t,rfl,rfl⟩|⟨x,t,rfl,rfl⟩
  ·rcases cB hv with⟨j,u,rfl,rfl⟩|⟨y,u,rfl,rfl⟩
   ·rw[BN]at h;exact wpAny_eqBool_int h
   ·rw[By]at h;exact NZ i t y u _ _ _ _ h
  ·rcases cB hv with⟨j,u,rfl,rfl⟩|⟨y,u,rfl,rfl⟩
   ·rw[AL]at h;exact NY x t j u _ _ _ _ h
   ·rw[zR]at h;exact wpAny_eqBool_str h
 «strs»:=fun k x t v h=>by
  rcases cB h with⟨i,u,rfl,e⟩|⟨y,u,rfl,e⟩
  ·exact nomatch e
  ·injection e with e1 _
   subst e1
   cases v<;>rfl
theorem oN (prog:Lf)(w:LA)(i:Int)(t:Tok):(cG prog w).is (.inl i) (.int i t)=true:=rR i t
theorem oO (prog:Lf)(w:LA)(x:Str)(t:Tok):(cG prog w).is (.inr x) (.str x t)=true:=rj x t
inductive V where
 |non|bl (b:Bool)|int (i:Int)|str (x:Str)|byt (b:Array UInt8)|flt (b:UInt64)|ref (a:Addr)|ty (n:String)
 deriving DecidableEq
def aM:V->pv->Prop
 |.non,u=>u=NV
 |.bl b,u=>u=Mz b
 |.int i,u=>∃t,u=Ol i t
 |.str x,u=>∃t,u=NN x t
 |.byt b,u=>∃t,u=QL b t
 |.flt b,u=>∃t,u=Pg b t
 |.ref a,u=>u=Lo a
 |.ty n,u=>u=Value.type n
abbrev aU:List V->List pv->Prop:=Paired aM
theorem aU.length {xs:List V}{us:List pv}(r:aU xs us):xs.length=us.length:=Paired.length r
theorem aU.get:∀{xs:List V}{us:List pv}{i:Nat}{x:V},aU xs us->xs[i]? =some x->∃u,us[i]? =some u/\aM x u
 |_,_,_,_,.nil,e=>by simp at e
 |_,_,0,_,.cons r _,e=>by simp at e;subst e;exact⟨_,rfl,r⟩
 |_,_,i+1,x,.cons _ t,e=>by
  obtain⟨u,h1,h2⟩:=aU.get (i:=i) (x:=x) t (by simpa using e)
  exact⟨u,by simpa using h1,h2⟩
theorem aU.set {x:V}{u:pv}(r:aM x u):∀{xs:List V}{us:List pv}(i:Nat),aU xs us->aU (xs.set i x) (us.set i u)
 |_,_,_,.nil=>.nil
 |_,_,0,.cons _ t=>.cons r t
 |_,_,i+1,.cons q t=>.cons q (aU.set r i t)
theorem aU.append:∀{xs ys:List V}{us ws:List pv},aU xs us->aU ys ws->aU (xs++ys) (us++ws)
 |_,_,_,_,.nil,s=>s
 |_,_,_,_,.cons r t,s=>.cons r (aU.append t s)
theorem aU.take:∀{xs:List V}{us:List pv}(n:Nat),aU xs us->aU (xs.take n) (us.take n)
 |_,_,0,_=>.nil
 |_,_,_+1,.nil=>.nil
 |_,_,n+1,.cons r t=>.cons r (aU.take n t)
theorem aU.drop:∀{xs:List V}{us:List pv}(n:Nat),aU xs us->aU (xs.drop n) (us.drop n)
 |_,_,0,r=>r
 |_,_,_+1,.nil=>.nil
 |_,_,n+1,.cons _ t=>aU.drop n t
def er:Option V->Option pv->Prop
 |some v,some u=>aM v u
 |none,none=>True
 |_,_=>False
def KV {κ:Type}:List (κ×V)->List (κ×pv)->Prop:=Paired fun(p:κ×V)(q:κ×pv)=>p.1=q.1/\aM p.2 q.2
def kV:Key->V
 |.inl i=>.int i
 |.inr x=>.str x
inductive HO where
 |lst (xs:List V)
 |tup (xs:List V)
 |dK (kvs:List (Key×V))|dT (kvs:List (List Key×V))
 |set (S:Int->Bool) (n:Nat)
 |ins (C dx:Addr) (fs:List (Str×V))
 |own (x:Addr)
 |xd (fs:List (Str×V))
 |met (f x:Addr)
 |rng (lo hi:Int)
 |frz (o:Obj) (u:HO)
 |tbl (ps:Array pv)
 |ext (φ:Heap->Prop)
abbrev Hp:=Addr->Option HO
def upd (H:Hp)(a:Addr)(o:HO):Hp:=fun b=>if b=a then some o else H b
theorem af {H:Hp}{a:Addr}{o:HO}:upd H a o a=some o:=by unfold upd;rw[if_pos rfl]
theorem am {H:Hp}{a b:Addr}{o:HO}(h:b≠a):upd H a o b=H b:=by unfold upd;rw[if_neg h]
theorem eL {H:Hp}{a:Addr}{o u:HO}:upd (upd H a o) a u=upd H a u:=by
 funext b;unfold upd;split<;>rfl
theorem bu {H:Hp}{a b:Addr}{o u:HO}(h:H a=some o)(h':H b=some u)(d:o≠u):a≠b:=by
 intro e;subst e;rw[h]at h';exact d (KN h')
theorem ap {H:Hp}{a b:Addr}{o:HO}(h:H a=some o)(h':H b=none):a≠b:=by
 intro e;subst e;rw[h]at h';cases h'
section
variable (P:Lf)(w:LA)
def bh (H:Hp)(h:Heap)(a:Addr):HO->Prop
 |.lst xs=>xs.length<=sizeLine/\∃(its:List pv)(n:Nat),aU xs its/\h.get? a=some {cls:=.type "list",data:=.seq its.toArray n}
 |.tup xs=>xs.length<=sizeLine/\∃its:List pv,aU xs its/\Rf h a its.toArray
 |.dK kvs=>kvs.length<=sizeLine/\(a==sysModules)=false/\∃vs,KV kvs vs/\h.DictOf (cG P w) a vs
 |.dT kvs=>kvs.length<=sizeLine/\(a==sysModules)=false/\∃xs:List (List Key×Addr×pv),
  Paired (fun(p:List Key×V)(q:List Key×Addr×pv)=>p.1=q.1/\H q.2.1=some (.tup (p.1.map kV))/\aM p.2 q.2.2) kvs xs/\
  ∃o es ep,h.get? a=some o/\o.ExactDict/\o.data=.dict es ep/\es.toList=xs.map (entryOfKey (tupleKind (cG P w)))/\(xs.map (·.1)).Nodup
 |.set S n=>h.SetOf (intKind P w) a S n
 |.ins C dx fs=>H dx=some (.own a)/\fs.length<=1000/\dx≠a/\h.get? a=some (Mu C dx)/\
  ∃mA,h.Ns1 dx mA/\(∀f,er (fs.lookup f) (mA f))/\OS mA (fs.map (·.1))
 |.own _=>∃o,h.get? a=some o
 |.xd fs=>∃mA,h.Ns1 a mA/\∀f,er (fs.lookup f) (mA f)
 |.rng lo hi=>∃t u v,h.get? a=some {cls:=.type "range",data:=.fields #[.int lo t,.int hi u,.int 1 v]}
 |.frz o u=>h.get? a=some o/\bh H h a u
 |.tbl ps=>h.get? a=some {cls:=.none,data:=.fields ps}
 |.met f x=>h.get? a=some (PM (.ref f) (.ref x))
 |.ext φ=>φ h/\(∃o,h.get? a=some o)/\∀h1 h2:Heap,φ h1->(∀o,h1.get? a=some o->h2.get? a=some o)->φ h2
def HOk (H:Hp)(h:Heap):Prop:=∀a o,H a=some o->bh P w H h a o
end
section
variable {P:Lf}{w:LA}{H H':Hp}{h h':Heap}{a:Addr}{o:HO}
theorem bh.lt (x:bh P w H h a o):a<h.objs.size:=by
 cases o with
 |lst xs=>obtain⟨_,_,_,_,e⟩:=x;exact KQ e
 |tup xs=>obtain⟨_,_,_,p⟩:=x;exact p.lt
 |dK kvs=>obtain⟨_,_,_,_,o,_,_,e,_⟩:=x;exact KQ e
 |dT kvs=>obtain⟨_,_,_,_,o,_,_,e,_⟩:=x;exact KQ e
 |set S n=>obtain⟨o,_,_,_,e,_⟩:=x;exact KQ e
 |ins C dx fs=>obtain⟨_,_,_,e,_⟩:=x;exact KQ e
 |own y=>obtain⟨_,e⟩:=x;exact KQ e
 |xd fs=>obtain⟨_,⟨_,_,_,e,_⟩,_⟩:=x;exact KQ e
 |rng lo hi=>obtain⟨_,_,_,e⟩:=x;exact KQ e
 |frz ob u=>obtain⟨e,_⟩:=x;exact KQ e
 |tbl ps=>exact KQ (show h.get? a=some _ from x)
 |met f y=>exact KQ (show h.get? a=some _ from x)
 |ext φ=>obtain⟨_,⟨_,e⟩,_⟩:=x;exact KQ e
theorem Paired.mapP {α β:Type}{F G:α->β->Prop}:∀{l₁:List α}{l₂:List β},Paired F l₁ l₂->(∀a b,F a b->G a b)->Paired G l₁ l₂
 |_,_,.nil,_=>.nil
 |_,_,.cons r t,f=>.cons (f _ _ r) (Paired.mapP t f)
theorem bh.stay (x:bh P w H h a o)(k:∀b u,(b=a\/H b=some (.own a))->h.get? b=some u->h'.get? b=some u)
  (ho:∀b,H b=some (.own a)->H' b=some (.own a))(ht:∀b xs,H b=some (.tup xs)->H' b=some (.tup xs)):bh P w H' h' a o:=by
 induction o with
 |lst xs=>obtain⟨z,its,n,r,e⟩:=x;exact⟨z,its,n,r,k _ _ (.inl rfl) e⟩
 |tup xs=>obtain⟨z,its,r,ob,e,c⟩:=x;exact⟨z,its,r,ob,k _ _ (.inl rfl) e,c⟩
 |dK kvs=>obtain⟨z,y,vs,r,ob,es,ep,e,c⟩:=x;exact⟨z,y,vs,r,ob,es,ep,k _ _ (.inl rfl) e,c⟩
 |dT kvs=>
  obtain⟨z,y,xs,r,ob,es,ep,e,c⟩:=x
  exact⟨z,y,xs,Paired.mapP r fun p q z=>⟨z.1,ht _ _ z.2.1,z.2.2⟩,ob,es,ep,k _ _ (.inl rfl) e,c⟩
 |set S n=>obtain⟨ob,es,ep,t,e,c⟩:=x;exact⟨ob,es,ep,t,k _ _ (.inl rfl) e,c⟩
 |ins C dx fs=>
  obtain⟨d,z,ne,e,mA,⟨od,es,ep,e2,c⟩,r⟩:=x
  exact⟨ho _ d,z,ne,k _ _ (.inl rfl) e,mA,⟨od,es,ep,k _ _ (.inr d) e2,c⟩,r⟩
 |own y=>obtain⟨ob,e⟩:=x;exact⟨ob,k _ _ (.inl rfl) e⟩
 |xd fs=>obtain⟨mA,⟨od,es,ep,e,c⟩,r⟩:=x;exact⟨mA,⟨od,es,ep,k _ _ (.inl rfl) e,c⟩,r⟩
 |rng lo hi=>obtain⟨t,u,v,e⟩:=x;exact⟨t,u,v,k _ _ (.inl rfl) e⟩
 |frz ob u ih=>obtain⟨e,q⟩:=x;exact⟨k _ _ (.inl rfl) e,ih q⟩
 |tbl ps=>
  have e:h.get? a=some {cls:=.none,data:=.fields ps}:=x
  show h'.get? a=some {cls:=.none,data:=.fields ps}
  exact k a _ (.inl rfl) e
 |met f y=>
  have e:h.get? a=some (PM (.ref f) (.ref y)):=x
  show h'.get? a=some (PM (.ref f) (.ref y))
  exact k a _ (.inl rfl) e
 |ext φ=>obtain⟨p,⟨o,e⟩,st⟩:=x;exact⟨st _ _ p fun o q=>k _ _ (.inl rfl) q,⟨o,k _ _ (.inl rfl) e⟩,st⟩
theorem HOk.lt (x:HOk P w H h)(e:H a=some o):a<h.objs.size:=(x a o e).lt
theorem HOk.fresh (x:HOk P w H h)(e:h.objs.size<=a):H a=none:=by
 cases q:H a with
 |none=>rfl
 |some u=>exact absurd (KS (x.lt q) e) (Mo _)
theorem HOk.kept (x:HOk P w H h)(k:∀b u,h.get? b=some u->h'.get? b=some u):HOk P w H h':=fun a o e=>
 (x a o e).stay (fun b u _ q=>k b u q) (fun _ q=>q) fun _ _ q=>q
theorem HOk.laid (x:HOk P w H h)(k:∀b u,h.get? b=some u->h'.get? b=some u)(hp:h.objs.size<=a)(new:bh P w (upd H a o) h' a o):HOk P w (upd H a o) h':=fun b u e=>by
 have hn:=x.fresh hp
 by_cases hb:b=a
 ·subst hb;rw[af]at e;cases e;exact new
 ·rw[am hb]at e
  exact(x b u e).stay (fun c v _ q=>k c v q) (fun c q=>by rw[am (ap q hn)];exact q) fun c xs q=>by rw[am (ap q hn)];exact q
end
def Rd (H:Hp)(a:Addr)(u:HO):Prop:=H a=some u\/∃o,H a=some (.frz o u)
theorem Rd.ok {P:Lf}{w:LA}{H:Hp}{h:Heap}{a:Addr}{u:HO}(r:Rd H a u)(x:HOk P w H h):bh P w H h a u:=by
 rcases r with r|⟨o,r⟩
 ·exact x a u r
 ·obtain⟨_,q⟩:=x a _ r
  exact q
def Mut:Option HO->Prop
 |some (.lst _)=>True
 |some (.dK _)=>True
 |some (.dT _)=>True
 |some (.set _ _)=>True
 |some (.ins _ _ _)=>True
 |some (.ext _)=>True
 |_=>False
section
variable {P:Lf}{w:LA}{H:Hp}{h h':Heap}{x e:Addr}{o':HO}
theorem HOk.write (ok:HOk P w H h)(mu:Mut (H x))(he:e=x\/H e=some (.own x))(k:∀b u,b≠e->h.get? b=some u->h'.get? b=some u)(heo:∃u,h'.get? e=some u)
  (new:bh P w (upd H x o') h' x o'):HOk P w (upd H x o') h':=fun b u q=>by
 have nown:∀c y,H c=some (.own y)->c≠x:=fun c y r z=>by subst z;rw[r]at mu;exact mu
 have ntup:∀c xs,H c=some (.tup xs)->c≠x:=fun c xs r z=>by subst z;rw[r]at mu;exact mu
 by_cases hb:b=x
 ·subst hb;rw[af]at q;cases q;exact new
 ·rw[am hb]at q
  by_cases hbe:b=e
  ·have q':H b=some (.own x):=by
    rcases he with z|z
    ·exact absurd (hbe.trans z) hb
    ·rw[hbe];exact z
   rw[q]at q';cases q'
   obtain⟨v,hv⟩:=heo
   exact⟨v,by rw[hbe];exact hv⟩
  ·refine(ok b u q).stay (fun c v hc r=>k c v ?_ r) (fun c r=>by rw[am (nown c b r)];exact r) fun c xs r=>by rw[am (ntup c xs r)];exact r
   rcases hc with rfl|hc
   ·exact hbe
   ·rintro rfl
    rcases he with z|z
    ·exact nown c b hc z
    ·rw[hc]at z;cases z;exact hb rfl
end
structure Un (fs ex:List Addr)(H H':Hp)(h h':Heap):Prop where
 keep:∀b o,h.get? b=some o->H b=none->b∉fs->b∉ex->h'.get? b=some o
 slot:∀b o,h.get? b=some o->H b=none->b∈fs->b∉ex->∃sl,h'.get? b=some {o with slots:=sl}
 free:∀b o,h.get? b=some o->H b=none->b∉ex->H' b=none
 there:∀b o,h.get? b=some o->b∉ex->∃o',h'.get? b=some o'
 tups:∀b xs,H b=some (.tup xs)->H' b=some (.tup xs)
 frzs:∀b o u,H b=some (.frz o u)->H' b=some (.frz o u)
 tbls:∀b ps,H b=some (.tbl ps)->∃more,H' b=some (.tbl (ps++more))
section
variable {fs fs' ex ex':List Addr}{H H1 H2:Hp}{h h1 h2 h':Heap}{a x e:Addr}{o:HO}
theorem Un.any (u:Un fs ex H H1 h h1){b:Addr}{ob:Obj}(q:h.get? b=some ob)(n:H b=none)(hx:b∉ex):∃sl,h1.get? b=some {ob with slots:=sl}:=by
 by_cases hb:b∈fs
 ·exact u.slot b ob q n hb hx
 ·exact⟨ob.slots,u.keep b ob q n hb hx⟩
theorem Un.kept (k:∀b u,h.get? b=some u->h'.get? b=some u):Un fs ex H H h h':=
 ⟨fun b ob q _ _ _=>k b ob q,fun b ob q _ _ _=>⟨ob.slots,k b ob q⟩,fun _ _ _ n _=>n,fun b ob q _=>⟨ob,k b ob q⟩,fun _ _ q=>q,fun _ _ _ q=>q,fun _ ps q=>⟨#[],by rw[q];simp⟩⟩
theorem Un.refl:Un fs ex H H h h:=Un.kept fun _ _ q=>q
theorem Un.laid (k:∀b u,h.get? b=some u->h'.get? b=some u)(hp:h.objs.size<=a)(hn:H a=none):Un fs ex H (upd H a o) h h' where
 keep:=fun b u q _ _ _=>k b u q
 slot:=fun b u q _ _ _=>⟨u.slots,k b u q⟩
 free:=fun b u q n _=>by rw[am (Ld (KS (KQ q) hp))];exact n
 there:=fun b u q _=>⟨u,k b u q⟩
 tups:=fun b xs q=>by rw[am (ap q hn)];exact q
 frzs:=fun b u xs q=>by rw[am (ap q hn)];exact q
 tbls:=fun b ps q=>⟨#[],by rw[am (ap q hn),q];simp⟩
theorem Un.write (mu:Mut (H x))(he:e=x\/H e=some (.own x))(k:∀b u,b≠e->h.get? b=some u->h'.get? b=some u)(heo:∃u,h'.get? e=some u):Un fs ex H (upd H x o) h h':=by
 have hx:∀b,H b=none->b≠x:=fun b n z=>by subst z;rw[n]at mu;exact mu
 have hb:∀b,H b=none->b≠e:=fun b n z=>by
  subst z
  rcases he with r|r
  ·exact hx b n r
  ·rw[n]at r;cases r
 have hm:∀b u,H b=some u->¬Mut (some u)->b≠x:=fun b u q nm z=>by subst z;rw[q]at mu;exact nm mu
 refine⟨fun b u q n _ _=>k b u (hb b n) q,fun b u q n _ _=>⟨u.slots,k b u (hb b n) q⟩,fun b u q n _=>by rw[am (hx b n)];exact n,fun b u q _=>?_,
  fun b xs q=>by rw[am (hm b _ q fun z=>z)];exact q,fun b u xs q=>by rw[am (hm b _ q fun z=>z)];exact q,fun b ps q=>⟨#[],by rw[am (hm b _ q fun z=>z),q];simp⟩⟩
 by_cases hbe:b=e
 ·subst hbe;exact heo
 ·exact⟨u,k b u hbe q⟩
end
def trk (h:Heap)(H:Hp):List Addr:=(NW h.objs.size).filter fun a=>(H a).isSome
def fV (h:Heap)(H:Hp):Heap:=W.hideAll h (trk h H)
theorem sC (h:Heap)(H:Hp):(fV h H).objs.size=h.objs.size:=W.hideAll_size _ _
theorem um {h:Heap}{H:Hp}{b:Addr}{o:Obj}(e:h.get? b=some o)(n:H b=none):(fV h H).get? b=some o:=
 W.hideAll_get _ e fun hm=>by
  have q:(H b).isSome=true:=(Qd.mp hm).2
  rw[n]at q;simp at q
theorem xX {h:Heap}{H:Hp}{b:Addr}{o:Obj}(e:(fV h H).get? b=some o):h.get? b=some o/\H b=none:=by
 have e':h.get? b=some o:=W.of_hideAll (trk h H) e
 refine⟨e',?_⟩
 cases q:H b with
 |none=>rfl
 |some x=>
  have hm:b∈trk h H:=Qd.mpr ⟨NG.mpr (KQ e'),by simp[q]⟩
  have z:(fV h H).get? b=none:=W.hideAll_none (trk h H) hm
  rw[z]at e;cases e
def yE (g h:Heap)(L:Addr):List (Addr×Obj):=(NW h.objs.size).filterMap fun a=>if a=L\/(g.get? a).isSome=true then none else(h.get? a).map fun o=>(a,o)
def cQ (g h:Heap)(L d:Addr):List (Addr×Obj):=(yE g h L).filter fun p=>decide (p.1≠d)
structure Mod (K:cW)(mg:Str->Option pv)(base:Heap):Prop where
 kin:K.In base
 glob:base.Ns mainGlobals mg
 blt:∃mb,base.Ns builtinsNs mb/\∀x:Str,x≠"__name__"->mb x=bootBuiltins x
 nolimit:base.NoLimit
set_option genInjectivity false in
set_option genSizeOf false in
structure Cx where
 prog:Lf
 w:LA
 K:cW
 mg:Str->Option pv
 base:Heap
 A:LC
 N:List Str
 s₀:Dc
 H₀:Hp
 env:Env
 outer:List Env
 stack:List Env
 ex:List Addr
 fn:Str->Bool
 calm:Bool
 pn:List (Addr×Obj)
 xe:pv->Dc->Prop
def frs (l:List Env):List Addr:=l.filterMap (·.frame)
abbrev Cx.fs (X:Cx):List Addr:=frs X.outer
def Vis (sc:Scope)(x:Str):Prop:=sc.names.lookup x=some .local\/sc.names.lookup x=some .cell\/sc.names.lookup x=some .free
def Loc (sc:Scope)(x:Str):Prop:=sc.names.lookup x=some .local\/sc.names.lookup x=some .cell
def zI (env:Env)(h:Heap)(m:Str->Option pv)(x:Str)(u:pv):Prop:=
 (env.kindOf x=some .local/\m x=some u)\/((env.kindOf x=some .cell\/env.kindOf x=some .free)/\∃c,env.cells.lookup x=some c/\h.IsCell c (some u))
set_option genInjectivity false in
set_option genSizeOf false in
structure Cx.Ok (X:Cx):Prop where
 mod:Mod X.K X.mg X.base
 kind:X.env.scope.kind=.function
 glob:X.env.globals=mainGlobals
 blt:X.env.builtins=builtinsNs
 above:X.s₀.heap.objs.size<=X.env.locals
 inj:∀x y c,X.env.cells.lookup x=some c->X.env.cells.lookup y=some c->x=y
 has:∀x,(X.env.kindOf x=some .cell\/X.env.kindOf x=some .free)->∃c,X.env.cells.lookup x=some c
 cab:∀x c,X.fn x=true->X.env.cells.lookup x=some c->X.s₀.heap.objs.size<=c
 hd:X.calm=true->X.A.handled=none
 frames:X.A.frames=some X.stack
 stk:X.stack=X.outer\/(X.stack=X.env::X.outer/\X.env.frame=some X.env.locals)
 exf:∀b∈X.ex,b≠X.env.locals/\∀x c,X.env.cells.lookup x=some c->c≠b
 bs:∀b o,X.base.get? b=some o->X.s₀.heap.get? b=some o/\X.H₀ b=none
 bsz:X.base.objs.size<=X.s₀.heap.objs.size
 noex:∀b o,X.base.get? b=some o->b∉X.ex
 exfs:∀b∈X.ex,b∉X.fs
 funs:X.s₀.heap.FunFrames X.base X.outer
 frf:∀b∈X.fs,X.H₀ b=none
structure Inv (X:Cx)(pins:List (Addr×Obj))(σ:List (Option V))(H:Hp)(s:Dc):Prop where
 ok:X.Ok
 os:s.os=X.s₀.os
 bare:Nz s.gens
 base:Un X.fs X.ex X.H₀ H X.s₀.heap s.heap
 loc:∃m,s.heap.Ns X.env.locals m/\∀(i:Nat)(x:Str)(v:V),X.N[i]?=some x->σ[i]?=some (some v)->Vis X.env.scope x->∃u,aM v u/\zI X.env s.heap m x u
 cell:∀x c,X.env.cells.lookup x=some c->∃v,s.heap.IsCell c v
 free:H X.env.locals=none
 freeC:∀x c,X.env.cells.lookup x=some c->H c=none
 pin:∀p∈X.pn++pins,s.heap.get? p.1=some p.2/\H p.1=none/\p.1≠X.env.locals/\p.1∉X.fs/\∀v,p.2.data≠.cell v
 hok:HOk X.prog X.w H s.heap
 len:σ.length=X.N.length
section
variable {X:Cx}{pins:List (Addr×Obj)}{σ:List (Option V)}{H H':Hp}{s:Dc}{h':Heap}
theorem Cx.Ok.nofr (ok:X.Ok){b:Addr}{o:Obj}(e:X.base.get? b=some o):b∉X.fs:=fun hb=>by
 have:=(ok.funs.mem hb).1
 rw[e]at this;cases this
theorem Inv.bs (I:Inv X pins σ H s):∀b o,X.base.get? b=some o->s.heap.get? b=some o/\H b=none:=fun b o e=>
 ⟨I.base.keep b o (I.ok.bs b o e).1 (I.ok.bs b o e).2 (I.ok.nofr e) (I.ok.noex b o e),I.base.free b o (I.ok.bs b o e).1 (I.ok.bs b o e).2 (I.ok.noex b o e)⟩
theorem Inv.bk (I:Inv X pins σ H s):∀b o,X.base.get? b=some o->s.heap.get? b=some o:=fun b o e=>(I.bs b o e).1
theorem Inv.mod (I:Inv X pins σ H s):Mod X.K X.mg X.base:=I.ok.mod
theorem Inv.kIn (I:Inv X pins σ H s):X.K.In s.heap:=I.ok.mod.kin.keeps I.bk
theorem Inv.lt (I:Inv X pins σ H s):X.env.locals<s.heap.objs.size:=let ⟨_,hn,_⟩:=I.loc;hn.lt
theorem Inv.sz (I:Inv X pins σ H s):X.s₀.heap.objs.size<=s.heap.objs.size:=Ll I.ok.above (MT I.lt)
theorem Inv.nofs (I:Inv X pins σ H s){a:Addr}(h:s.heap.objs.size<=a):a∉X.fs:=fun hb=>by
 obtain⟨_,o,ho,_⟩:=I.ok.funs.mem hb
 exact absurd (KS (KQ ho) (Ll I.sz h)) (Mo _)
theorem Inv.cne (I:Inv X pins σ H s):∀x c,X.env.cells.lookup x=some c->c≠X.env.locals:=fun x c e z=>by
 obtain⟨v,o,ho,hd⟩:=I.cell x c e
 obtain⟨m,⟨o',es,ep,ho',hd',_⟩,_⟩:=I.loc
 rw[z,ho']at ho;cases ho;rw[hd']at hd;cases hd
theorem Inv.funs (I:Inv X pins σ H s):s.heap.FunFrames X.base X.outer:=by
 have all:∀(l:List Env),(∀b∈frs l,b∈X.fs)->X.s₀.heap.FunFrames X.base l->s.heap.FunFrames X.base l:=by
  intro l
  induction l with
  |nil=>intro _ _;trivial
  |cons env r ih=>
   intro hs hl
   obtain⟨hk,⟨L,o,hf,hn,ho,hd⟩,hr⟩:=hl
   have hL:L∈X.fs:=hs L (by unfold frs;rw[NL,hf];exact Lj)
   obtain⟨sl,e⟩:=I.base.slot L o ho (I.ok.frf L hL) hL fun z=>I.ok.exfs L z hL
   exact⟨hk,⟨L,_,hf,hn,e,hd⟩,ih (fun b hb=>hs b (by unfold frs;rw[NL,hf];exact Lb _ hb)) hr⟩
 exact all X.outer (fun _ hb=>hb) I.ok.funs
theorem Inv.stack (I:Inv X pins σ H s):s.heap.FunFrames X.base X.stack:=by
 rcases I.ok.stk with e|⟨e,hf⟩
 ·rw[e];exact I.funs
 ·rw[e]
  obtain⟨m,hn,_⟩:=I.loc
  refine .cons (by rw[I.ok.kind];decide) hf hn ?_ I.funs
  exact Heap.get?_none_of_le (Ll I.ok.bsz I.ok.above)
theorem Inv.stkSub (I:Inv X pins σ H s):∀b∈frs X.stack,b∈X.env.locals::X.fs:=fun b hb=>by
 rcases I.ok.stk with e|⟨e,hf⟩
 ·rw[e]at hb;exact Lb _ hb
 ·rw[e]at hb
  unfold frs at hb
  rw[NL,hf]at hb
  exact hb
theorem Inv.stkFree (I:Inv X pins σ H s):∀b∈frs X.stack,H b=none:=fun b hb=>by
 rcases If.mp (I.stkSub b hb)with e|hb
 ·rw[e];exact I.free
 ·obtain⟨_,o,ho,_⟩:=I.ok.funs.mem hb
  exact I.base.free b o ho (I.ok.frf b hb) fun z=>I.ok.exfs b z hb
theorem Inv.step {g':Array GenState}{t':Nat}{d':Drawn}{ch:List Addr}(I:Inv X pins σ H s)
  (hch:∀b∈ch,(b∈X.ex\/X.s₀.heap.objs.size<=b)/\b≠X.env.locals/\(∀x c,X.env.cells.lookup x=some c->c≠b)/\∀p∈X.pn++pins,p.1≠b)
  (keep:∀b o,b≠X.env.locals->b∉X.fs->b∉ch->s.heap.get? b=some o->H b=none->h'.get? b=some o)
  (slot:∀b o,b≠X.env.locals->b∈X.fs->b∉ch->s.heap.get? b=some o->H b=none->∃sl,h'.get? b=some {o with slots:=sl})(free:∀b o,b∉ch->s.heap.get? b=some o->H b=none->H' b=none)
  (there:∀b o,b∉ch->s.heap.get? b=some o->∃o',h'.get? b=some o')
  (tups:∀b xs,H b=some (.tup xs)->H' b=some (.tup xs))(frzs:∀b o u,H b=some (.frz o u)->H' b=some (.frz o u))(tbls:∀b ps,H b=some (.tbl ps)->∃more,H' b=some (.tbl (ps++more)))
  (ns:∀m,s.heap.Ns X.env.locals m->h'.Ns X.env.locals m)(hok:HOk X.prog X.w H' h')(hg:Nz g'):
  Inv X pins σ H' {s with heap:=h',gens:=g',drawn:=d',toks:=t'}:=by
 have neL:∀b o,X.s₀.heap.get? b=some o->b≠X.env.locals:=fun b o e=>Ld (KS (KQ e) I.ok.above)
 have neC:∀b o,X.s₀.heap.get? b=some o->b∉X.ex->b∉ch:=fun b o e hx hb=>by
  rcases(hch b hb).1 with z|z
  ·exact hx z
  ·exact absurd (KS (KQ e) z) (Mo _)
 have cellK:∀x c,X.env.cells.lookup x=some c->∀v,s.heap.IsCell c v->h'.IsCell c v:=fun x c e v ⟨o,ho,hd⟩=>by
  have nch:c∉ch:=fun z=>(hch c z).2.2.1 x c e rfl
  by_cases hc:c∈X.fs
  ·obtain⟨sl,q⟩:=slot c o (I.cne x c e) hc nch ho (I.freeC x c e)
   exact⟨_,q,hd⟩
  ·exact⟨o,keep c o (I.cne x c e) hc nch ho (I.freeC x c e),hd⟩
 refine⟨I.ok,I.os,hg,⟨fun b o e n hb hx=>?_,fun b o e n hb hx=>?_,fun b o e n hx=>?_,fun b o e hx=>?_,fun b xs e=>tups b xs (I.base.tups b xs e),fun b o xs e=>frzs b o xs (I.base.frzs b o xs e),fun b ps e=>?_⟩,?_,fun x c e=>?_,?_,fun x c e=>?_,fun p hp=>?_,hok,I.len⟩
 ·exact keep b o (neL b o e) hb (neC b o e hx) (I.base.keep b o e n hb hx) (I.base.free b o e n hx)
 ·obtain⟨sl,e1⟩:=I.base.slot b o e n hb hx
  obtain⟨sl',e2⟩:=slot b _ (neL b o e) hb (neC b o e hx) e1 (I.base.free b o e n hx)
  exact⟨sl',e2⟩
 ·obtain⟨o',e1⟩:=I.base.there b o e hx
  exact free b o' (neC b o e hx) e1 (I.base.free b o e n hx)
 ·obtain⟨o',e1⟩:=I.base.there b o e hx
  exact there b o' (neC b o e hx) e1
 ·obtain⟨m1,e1⟩:=I.base.tbls b ps e
  obtain⟨m2,e2⟩:=tbls b _ e1
  exact⟨m1++m2,by rw[e2,Po]⟩
 ·obtain⟨m,hn,hl⟩:=I.loc
  refine⟨m,ns m hn,fun i x v e1 e2 e3=>?_⟩
  obtain⟨u,r,l⟩:=hl i x v e1 e2 e3
  refine⟨u,r,?_⟩
  rcases l with l|⟨k,c,e,z⟩
  ·exact .inl l
  ·exact .inr ⟨k,c,e,cellK x c e _ z⟩
 ·obtain⟨v,z⟩:=I.cell x c e
  exact⟨v,cellK x c e v z⟩
 ·obtain⟨m,⟨o,_,_,ho,_⟩,_⟩:=I.loc
  exact free _ o (fun z=>(hch _ z).2.1 rfl) ho I.free
 ·obtain⟨v,o,ho,hd⟩:=I.cell x c e
  exact free c o (fun z=>(hch c z).2.2.1 x c e rfl) ho (I.freeC x c e)
 ·obtain⟨e,n,ne,nf,d⟩:=I.pin p hp
  have nch:p.1∉ch:=fun z=>(hch p.1 z).2.2.2 p hp rfl
  exact⟨keep p.1 p.2 ne nf nch e n,free p.1 p.2 nch e n,ne,nf,d⟩
theorem Inv.un {t':Nat}(I:Inv X pins σ H s)(u:Un X.fs [] H H' s.heap h')(hok:HOk X.prog X.w H' h'):Inv X pins σ H' {s with heap:=h',toks:=t'}:=by
 obtain⟨m,⟨o,es,ep,ho,r⟩,_⟩:=id I.loc
 obtain⟨sl,hL⟩:=u.any ho I.free (by simp)
 exact I.step (g':=s.gens) (d':=s.drawn) (ch:=[]) (fun _ z=>nomatch z) (fun b o _ hb _ e n=>u.keep b o e n hb (by simp)) (fun b o _ hb _ e n=>u.slot b o e n hb (by simp)) (fun b o _ e n=>u.free b o e n (by simp)) (fun b o _ e=>u.there b o e (by simp)) u.tups u.frzs u.tbls (fun m' hm=>by
  obtain⟨o',es',ep',ho',r'⟩:=hm
  rw[ho]at ho';cases ho'
  exact⟨_,es',ep',hL,r'⟩) hok I.bare
theorem Inv.call {g':Array GenState}{t':Nat}{d':Drawn}{ch:List Addr}(I:Inv X pins σ H s)(u:Un (frs X.stack) ch H H' s.heap h')(hok:HOk X.prog X.w H' h')(hg:Nz g')
  (hch:∀b∈ch,(b∈X.ex\/X.s₀.heap.objs.size<=b)/\b≠X.env.locals/\(∀x c,X.env.cells.lookup x=some c->c≠b)/\∀p∈X.pn++pins,p.1≠b):
  Inv X pins σ H' {s with heap:=h',gens:=g',drawn:=d',toks:=t'}:=by
 obtain⟨m,⟨o,es,ep,ho,r⟩,_⟩:=id I.loc
 obtain⟨sl,hL⟩:=u.any ho I.free fun z=>(hch _ z).2.1 rfl
 exact I.step (ch:=ch) hch (fun b o hL hb hc e n=>u.keep b o e n (fun z=>(If.mp (I.stkSub b z)).elim hL hb) hc) (fun b o _ _ hc e n=>u.any e n hc) (fun b o hc e n=>u.free b o e n hc) (fun b o hc e=>u.there b o e hc) u.tups u.frzs u.tbls (fun m' hm=>by
  obtain⟨o',es',ep',ho',r'⟩:=hm
  rw[ho]at ho';cases ho'
  exact⟨_,es',ep',hL,r'⟩) hok hg
theorem Inv.turned {t':Nat}{it:Addr}(I:Inv X pins σ H s)(k:∀b o,b≠it->s.heap.get? b=some o->h'.get? b=some o)(hn:H it=none)(hL:it≠X.env.locals)
  (h1:it∈X.ex\/X.s₀.heap.objs.size<=it)(h2:∀x c,X.env.cells.lookup x=some c->c≠it)(h3:∀p∈X.pn++pins,p.1≠it):Inv X pins σ H {s with heap:=h',toks:=t'}:=by
 have nit:∀b u,H b=some u->b≠it:=fun b u e z=>by rw[z,hn]at e;cases e
 refine I.step (g':=s.gens) (d':=s.drawn) (ch:=[it]) (fun b hb=>?_) (fun b o _ _ hc e _=>k b o (fun z=>hc (by simp[z])) e) (fun b o _ _ hc e _=>⟨o.slots,k b o (fun z=>hc (by simp[z])) e⟩) (fun _ _ _ _ n=>n)
  (fun b o hc e=>⟨o,k b o (fun z=>hc (by simp[z])) e⟩) (fun _ _ e=>e) (fun _ _ _ e=>e) (fun b ps e=>⟨#[],by rw[e];simp⟩) (fun m hm=>?_) (fun b u e=>?_) I.bare
 ·have e:b=it:=by simpa using hb
  subst e
  exact⟨h1,hL,h2,h3⟩
 ·obtain⟨o,es,ep,ho,r⟩:=hm
  exact⟨o,es,ep,k _ o (KP hL) ho,r⟩
 ·refine(I.hok b u e).stay (fun c v hc q=>k c v ?_ q) (fun _ q=>q) fun _ _ q=>q
  rcases hc with z|z
  ·rw[z];exact nit b u e
  ·exact nit c _ z
theorem Inv.tok (I:Inv X pins σ H s)(t:Nat):Inv X pins σ H {s with toks:=t}:=I.un (h':=s.heap) (t':=t) Un.refl I.hok
theorem Inv.kept {t':Nat}(I:Inv X pins σ H s)(k:∀b u,s.heap.get? b=some u->h'.get? b=some u):Inv X pins σ H {s with heap:=h',toks:=t'}:=I.un (Un.kept k) (I.hok.kept k)
theorem Inv.laid {a:Addr}{o:HO}{t':Nat}(I:Inv X pins σ H s)(k:∀b u,s.heap.get? b=some u->h'.get? b=some u)(hp:s.heap.objs.size<=a)(new:bh X.prog X.w (upd H a o) h' a o):
 Inv X pins σ (upd H a o) {s with heap:=h',toks:=t'}:=I.un (Un.laid k hp (I.hok.fresh hp)) (I.hok.laid k hp new)
theorem Inv.write {x e:Addr}{o:HO}{t':Nat}(I:Inv X pins σ H s)(mu:Mut (H x))(he:e=x\/H e=some (.own x))(k:∀b u,b≠e->s.heap.get? b=some u->h'.get? b=some u)(heo:∃u,h'.get? e=some u)
 (new:bh X.prog X.w (upd H x o) h' x o):Inv X pins σ (upd H x o) {s with heap:=h',toks:=t'}:=I.un (Un.write mu he k heo) (I.hok.write mu he k heo new)
theorem Inv.pins_of {pins':List (Addr×Obj)}(I:Inv X pins σ H s)(h:∀p∈pins',s.heap.get? p.1=some p.2/\H p.1=none/\p.1≠X.env.locals/\p.1∉X.fs/\∀v,p.2.data≠.cell v):Inv X pins' σ H s:=
 ⟨I.ok,I.os,I.bare,I.base,I.loc,I.cell,I.free,I.freeC,fun p hp=>(Ml.mp hp).elim (fun z=>I.pin p (MC _ z)) (h p),I.hok,I.len⟩
theorem jc {N:List Str}(hN:N.Nodup){i j:Nat}{x:Str}(a:N[i]?=some x)(b:N[j]?=some x):i=j:=by
 obtain⟨h1,e1⟩:=KY.mp a
 obtain⟨h2,e2⟩:=KY.mp b
 exact(PX hN).mp (e1.trans e2.symm)
theorem rX {M:Model}{A:LC}{E:pv->Dc->Prop}{i:Nat}{x:Str}{v:V}{u:pv}{Q:Unit->Dc->Prop}(I:Inv X pins σ H s)(hN:X.N.Nodup)(hi:X.N[i]?=some x)(hx:Loc X.env.scope x)(r:aM v u)
  (h:∀s',Inv X pins (σ.set i (some v)) H s'->(∃a,Nh a s.heap s'.heap/\(a=X.env.locals\/X.env.cells.lookup x=some a))->Q () s')(hf:X.fn x=true\/X.env.scope.names.lookup x=some .local:=by first|exact .inl rfl|exact .inr rfl|assumption):wpAny M A (storeName X.env x u) Q E s:=by
 obtain⟨m,hn,hl⟩:=id I.loc
 have hcls:(X.env.scope.kind==.class||(X.env.scope.kind==.module&&X.env.locals !=X.env.globals))=false:=by rw[I.ok.kind];rfl
 have hiσ:i<σ.length:=by rw[I.len];exact(KY.mp hi).1
 have cne:=I.cne
 have tracked:∀{a:Addr}{h':Heap},(∃o,s.heap.get? a=some o/\H a=none)->Nh a s.heap h'->HOk X.prog X.w H h':=fun{a h'} ha hs b ob e=>by
  obtain⟨_,_,hfree⟩:=ha
  refine(I.hok b ob e).stay (fun c w' hc q=>(hs.2 c ?_).trans q) (fun _ q=>q) fun _ _ q=>q
  rintro rfl
  rcases hc with rfl|hc
  ·rw[hfree]at e;cases e
  ·rw[hfree]at hc;cases hc
 rcases hx with hk|hk
 ·refine wpAny_storeName_local hk hn (fun h' hn' hs=>?_) hcls
  obtain⟨oL,_,_,hoL,_⟩:=id hn
  refine h _ ⟨I.ok,I.os,I.bare,⟨fun b o e n hb hx=>?_,fun b o e n hb hx=>?_,I.base.free,fun b o e hx=>?_,I.base.tups,I.base.frzs,I.base.tbls⟩,⟨_,hn',fun j y v' e1 e2 e3=>?_⟩,fun y c e=>?_,I.free,I.freeC,fun p hp=>?_,tracked ⟨oL,hoL,I.free⟩ hs,by simpa using I.len⟩ ⟨_,hs,.inl rfl⟩
  ·exact(hs.2 b (Ld (KS (KQ e) I.ok.above))).trans (I.base.keep b o e n hb hx)
  ·obtain⟨sl,e1⟩:=I.base.slot b o e n hb hx
   exact⟨sl,(hs.2 b (Ld (KS (KQ e) I.ok.above))).trans e1⟩
  ·obtain⟨o',e1⟩:=I.base.there b o e hx
   exact⟨o',(hs.2 b (Ld (KS (KQ e) I.ok.above))).trans e1⟩
  ·by_cases hj:j=i
   ·subst hj
    rw[hi]at e1;cases e1
    rw[OV hiσ]at e2
    cases e2
    exact⟨u,r,.inl ⟨hk,by simp⟩⟩
   ·rw[Pl (KP hj)]at e2
    obtain⟨u',r',q⟩:=hl j y v' e1 e2 e3
    refine⟨u',r',?_⟩
    rcases q with⟨k,e⟩|⟨k,c,e,z⟩
    ·refine .inl ⟨k,?_⟩
     have:y≠x:=fun e=>hj (jc hN e1 (e▸hi))
     simp[this,e]
    ·exact .inr ⟨k,c,e,z.sameBut hs (cne y c e)⟩
  ·obtain⟨w',z⟩:=I.cell y c e
   exact⟨w',z.sameBut hs (cne y c e)⟩
  ·obtain⟨e,n,ne,nf,d⟩:=I.pin p hp
   exact⟨(hs.2 p.1 ne).trans e,n,ne,nf,d⟩
 ·have hfn:X.fn x=true:=by
   rcases hf with z|z
   ·exact z
   ·rw[z]at hk;cases hk
  obtain⟨c,hc⟩:=I.ok.has x (.inl hk)
  obtain⟨w',z⟩:=I.cell x c hc
  refine wpAny_storeName_cell I.ok.kind hk hc z (fun h' hc' hs=>?_)
  obtain⟨oc,hoc,hocd⟩:=id z
  refine h {s with heap:=h'} ⟨I.ok,I.os,I.bare,⟨fun b o e n hb hx=>?_,fun b o e n hb hx=>?_,I.base.free,fun b o e hx=>?_,I.base.tups,I.base.frzs,I.base.tbls⟩,⟨m,hn.sameBut hs (KP (cne x c hc)),fun j y v' e1 e2 e3=>?_⟩,fun y c' e=>?_,I.free,I.freeC,fun p hp=>?_,tracked ⟨oc,hoc,I.freeC x c hc⟩ hs,by simpa using I.len⟩ ⟨c,hs,.inr hc⟩
  ·exact(hs.2 b (Ld (KS (KQ e) (I.ok.cab x c hfn hc)))).trans (I.base.keep b o e n hb hx)
  ·obtain⟨sl,e1⟩:=I.base.slot b o e n hb hx
   exact⟨sl,(hs.2 b (Ld (KS (KQ e) (I.ok.cab x c hfn hc)))).trans e1⟩
  ·obtain⟨o',e1⟩:=I.base.there b o e hx
   exact⟨o',(hs.2 b (Ld (KS (KQ e) (I.ok.cab x c hfn hc)))).trans e1⟩
  ·by_cases hj:j=i
   ·subst hj
    rw[hi]at e1;cases e1
    rw[OV hiσ]at e2
    cases e2
    exact⟨u,r,.inr ⟨.inl hk,c,hc,hc'⟩⟩
   ·rw[Pl (KP hj)]at e2
    obtain⟨u',r',q⟩:=hl j y v' e1 e2 e3
    refine⟨u',r',?_⟩
    rcases q with q|⟨k,c',e,z'⟩
    ·exact .inl q
    ·refine .inr ⟨k,c',e,z'.sameBut hs ?_⟩
     rintro rfl
     exact hj (jc hN e1 (I.ok.inj _ _ _ e hc▸hi))
  ·by_cases hcc:c'=c
   ·subst hcc;exact⟨_,hc'⟩
   ·obtain⟨w2,z2⟩:=I.cell y c' e
    exact⟨w2,z2.sameBut hs hcc⟩
  ·obtain⟨e,n,ne,nf,d⟩:=I.pin p hp
   refine⟨(hs.2 p.1 ?_).trans e,n,ne,nf,d⟩
   intro q
   rw[q,hoc]at e
   have q':oc=p.2:=KN e
   exact d w' (by rw[<-q'];exact hocd)
theorem jk {M:Model}{A:LC}{E:pv->Dc->Prop}{i:Nat}{x:Str}{v:V}{u:pv}{Q:Unit->Dc->Prop}(I:Inv X pins σ H s)(hN:X.N.Nodup)(hi:X.N[i]?=some x)(hx:Loc X.env.scope x)(r:aM v u)
  (h:∀s',Inv X pins (σ.set i (some v)) H s'->Q () s')(hf:X.fn x=true\/X.env.scope.names.lookup x=some .local:=by first|exact .inl rfl|exact .inr rfl|assumption):wpAny M A (storeName X.env x u) Q E s:=
 rX I hN hi hx r (fun s' I' _=>h s' I') hf
theorem Inv.call' {s':Dc}{ch:List Addr}(I:Inv X pins σ H s)(ho:s'.os=s.os)(u:Un (frs X.stack) ch H H' s.heap s'.heap)(hok:HOk X.prog X.w H' s'.heap)(hg:Nz s'.gens)
  (hch:∀b∈ch,(b∈X.ex\/X.s₀.heap.objs.size<=b)/\b≠X.env.locals/\(∀x c,X.env.cells.lookup x=some c->c≠b)/\∀p∈X.pn++pins,p.1≠b):Inv X pins σ H' s':=by
 obtain⟨h',g',d',t',o'⟩:=s'
 have e:o'=s.os:=ho
 subst e
 exact I.call (g':=g') (t':=t') (d':=d') u hok hg hch
end
abbrev XK:=pv->Option Addr->Hp->Prop
abbrev St:=List (Option V)
abbrev VK:=V->Hp->Prop
abbrev TE:=St->Hp->VK->Prop
abbrev TT:=St->Hp->(Bool->Hp->Prop)->Prop
abbrev TA:=St->Hp->(List V->Hp->Prop)->Prop
structure ig where
 nx:St->Hp->Prop
 rt:VK
 bk:St->Hp->Prop:=fun _ _=>False
 ct:St->Hp->Prop:=fun _ _=>False
abbrev TS:=ig->St->Hp->Prop
def EP (X:Cx)(pins:List (Addr×Obj))(σ:St)(Q:VK)(u:pv)(s':Dc):Prop:=∃v H',Inv X pins σ H' s'/\aM v u/\Q v H'
def TP (X:Cx)(pins:List (Addr×Obj))(σ:St)(Q:Bool->Hp->Prop)(b:Bool)(s':Dc):Prop:=∃H',Inv X pins σ H' s'/\Q b H'
def AP (X:Cx)(pins:List (Addr×Obj))(σ:St)(Q:List V->Hp->Prop)(us:List pv)(s':Dc):Prop:=∃vs H',Inv X pins σ H' s'/\aU vs us/\Q vs H'
def SP (X:Cx)(pins:List (Addr×Obj))(D:ig)(f:Flow)(s':Dc):Prop:=
 match f with
 |.next=>∃σ' H',Inv X pins σ' H' s'/\D.nx σ' H'
 |.brk=>∃σ' H',Inv X pins σ' H' s'/\D.bk σ' H'
 |.cont=>∃σ' H',Inv X pins σ' H' s'/\D.ct σ' H'
 |.ret u=>∃v σ' H',Inv X pins σ' H' s'/\aM v u/\D.rt v H'
def PE (X:Cx)(e:Expr)(t:TE):Prop:=
 ∀(pins:List (Addr×Obj))(s:Dc)(σ:St)(H:Hp)(Q:VK),Inv X pins σ H s->t σ H Q->wpAny (model X.prog X.w) X.A (eval e X.env) (EP X pins σ Q) X.xe s
def PT (X:Cx)(e:Expr)(t:TT):Prop:=
 ∀(pins:List (Addr×Obj))(s:Dc)(σ:St)(H:Hp)(Q:Bool->Hp->Prop),Inv X pins σ H s->t σ H Q->wpAny (model X.prog X.w) X.A (isTrue e X.env (eval e X.env)) (TP X pins σ Q) X.xe s
def PW (X:Cx)(e:Expr)(t:TT):Prop:=
 ∀(whole:Sem pv)(pins:List (Addr×Obj))(s:Dc)(σ:St)(H:Hp)(Q:Bool->Hp->Prop),Inv X pins σ H s->t σ H Q->wpAny (model X.prog X.w) X.A (isTrue e X.env whole) (TP X pins σ Q) X.xe s
theorem PW.pt {X:Cx}{e:Expr}{t:TT}(h:PW X e t):PT X e t:=h _
def PA (X:Cx)(es:List Expr)(t:TA):Prop:=
 ∀(pos:Pos)(pins:List (Addr×Obj))(s:Dc)(σ:St)(H:Hp)(Q:List V->Hp->Prop),Inv X pins σ H s->t σ H Q->wpAny (model X.prog X.w) X.A (spliced (backTo pos (starEach es X.env))) (AP X pins σ Q) X.xe s
def PS (X:Cx)(st:Stmt)(t:TS):Prop:=
 ∀(pins:List (Addr×Obj))(s:Dc)(σ:St)(H:Hp)(D:ig),Inv X pins σ H s->t D σ H->wpAny (model X.prog X.w) X.A (exec st X.env) (SP X pins D) X.xe s
def PSs (X:Cx)(st:List Stmt)(t:TS):Prop:=
 ∀(pins:List (Addr×Obj))(s:Dc)(σ:St)(H:Hp)(D:ig),Inv X pins σ H s->t D σ H->wpAny (model X.prog X.w) X.A (execs st X.env) (SP X pins D) X.xe s
theorem thn {α:Type}{t:Sem α}{Q Q':α->Dc->Prop}{M:Model}{A:LC}{E:pv->Dc->Prop}{s:Dc}(h:wpAny M A t Q E s)(hQ:∀a s,Q a s->Q' a s):wpAny M A t Q' E s:=Lk h hQ fun _ _ x=>x
section
variable {X:Cx}
def Jg (i:Nat):TE:=fun σ H Q=>∃v,σ[i]?=some (some v)/\Q v H
def tC (v:V):TE:=fun _ H Q=>Q v H
theorem yZ {i:Nat}{x:Str}{pos:Pos}(hN:X.N[i]?=some x)(hv:Vis X.env.scope x)(hd:(x==("__debug__":Str))=false:=by decide)(hcd:(x==("__classdict__":Str))=false:=by decide):PE X (.Name x pos) (Jg i):=by
 intro pins s σ H Q I h
 obtain⟨v,e,h⟩:=h
 obtain⟨m,hn,hl⟩:=I.loc
 obtain⟨u,r,l⟩:=hl i x v hN e hv
 have fin:EP X pins σ Q u s:=⟨v,H,I,r,h⟩
 rcases l with⟨hk,hm⟩|⟨hk,c,hc,hcell⟩
 ·exact QD (wpAny_loadName_local I.ok.kind hk hn hm fin) hd
 ·rcases hk with hk|hk
  ·exact QD (wpAny_loadName_cell I.ok.kind hk hc hcell fin) hd
  ·exact QD (wpAny_loadName_free I.ok.kind hk hc hcell fin hcd) hd
theorem Bq {i j pos}:PE X (.Constant (.int i) j pos) (tC (.int i)):=fun _ _ _ H _ I h=>wpAny_Constant_int ⟨.int i,H,I.tok _,⟨_,rfl⟩,h⟩
theorem HI {b j pos}:PE X (.Constant (.bool b) j pos) (tC (.bl b)):=fun _ _ _ H _ I h=>Constant_bool ⟨.bl b,H,I,rfl,h⟩
theorem CV {j pos}:PE X (.Constant .none j pos) (tC .non):=fun _ _ _ H _ I h=>Constant_none ⟨.non,H,I,rfl,h⟩
theorem zG {x j pos}:PE X (.Constant (.str x) j pos) (tC (.str x)):=fun _ _ _ H _ I h=>Calls.Constant_str ⟨.str x,H,I.tok _,⟨_,rfl⟩,h⟩
def Gl (X:Cx)(x:Str):Prop:=X.env.kindOf x=some .globalImplicit
theorem eV {E:pv->Dc->Prop}{pins:List (Addr×Obj)}{s:Dc}{σ:St}{H:Hp}{x:Str}{u:pv}{pos:Pos}{Q:pv->Dc->Prop}(I:Inv X pins σ H s)(hg:Gl X x)(hm:X.mg x=some u)(h:Q u s)
  (hd:(x==("__debug__":Str))=false:=by decide):wpAny (model X.prog X.w) X.A (eval (.Name x pos) X.env) Q E s:=
 Oq I.ok.kind hg (Calls.loadGlobal_global (by rw[I.ok.glob];exact I.mod.glob.keeps I.bk) hm h) hd
theorem jF {E:pv->Dc->Prop}{pins:List (Addr×Obj)}{s:Dc}{σ:St}{H:Hp}{x:Str}{u:pv}{pos:Pos}{Q:pv->Dc->Prop}(I:Inv X pins σ H s)(hg:Gl X x)(hm:X.mg x=none)(hv:bootBuiltins x=some u)(h:Q u s)
  (hn:x≠"__name__":=by decide)(hd:(x==("__debug__":Str))=false:=by decide):wpAny (model X.prog X.w) X.A (eval (.Name x pos) X.env) Q E s:=by
 obtain⟨mb,h1,h2⟩:=I.mod.blt
 exact Oq I.ok.kind hg (Calls.loadGlobal_builtin (by rw[I.ok.glob];exact I.mod.glob.keeps I.bk) hm (by rw[I.ok.blt];exact h1.keeps I.bk) ((h2 x hn).trans hv) h) hd
theorem kj {x:Str}{v:V}{u:pv}{pos:Pos}(hg:Gl X x)(hm:X.mg x=some u)(r:aM v u)(hd:(x==("__debug__":Str))=false:=by decide):PE X (.Name x pos) (tC v):=
 fun _ _ _ H _ I h=>eV I hg hm ⟨v,H,I,r,h⟩ hd
theorem yL {x:Str}{v:V}{u:pv}{pos:Pos}(hg:Gl X x)(hm:X.mg x=none)(hv:bootBuiltins x=some u)(r:aM v u)(hn:x≠"__name__":=by decide)(hd:(x==("__debug__":Str))=false:=by decide):PE X (.Name x pos) (tC v):=
 fun _ _ _ H _ I h=>jF I hg hm hv ⟨v,H,I,r,h⟩ hn hd
variable {a b:Expr}{ta tb:TE}{pos:Pos}
variable {tA tB':TT}{cQ:List Expr}
def cO (t:TT):TT:=fun σ H Q=>t σ H fun c H1=>Q (!c) H1
theorem xY (ha:PT X a tA):PW X (.BoolOp .And [a] pos) tA:=by
 intro wh pins s σ H Q I h
 refine isTrue_and (thn (ha pins s σ H Q I h) fun c s1 e=>?_)
 cases c with
 |true=>exact isTrue_and_nil e
 |false=>exact e
theorem BK (ha:PT X a tA):PW X (.BoolOp .Or [a] pos) tA:=by
 intro wh pins s σ H Q I h
 refine isTrue_or (thn (ha pins s σ H Q I h) fun c s1 e=>?_)
 cases c with
 |false=>exact isTrue_or_nil e
 |true=>exact e
theorem BR (ha:PT X a tA):PT X (.UnaryOp .Not a pos) (cO tA):=by
 intro pins s σ H Q I h
 exact isTrue_not (ha pins s σ H (fun c H1=>Q (!c) H1) I h)
theorem CZ {op}{t:TE}(h:PE X a t):PE X (.BoolOp op [a] pos) t:=fun pins s σ H Q I hw=>BoolOp_one (h pins s σ H Q I hw)
end
def SqL (K:cW)(H:Hp)(a:Addr)(xs:List V):Prop:=
 Rd H a (.lst xs)\/
  ∃(o:Obj)(its:Array pv)(n:Nat),K.lookup a=some o/\o.cls=.type "list"/\o.dict=none/\o.data=.seq its n/\its.size<=sizeLine/\aU xs its.toList
def SqT (K:cW)(H:Hp)(a:Addr)(xs:List V):Prop:=
 Rd H a (.tup xs)\/
  ∃(o:Obj)(its:Array pv)(n:Nat),K.lookup a=some o/\o.cls=.type "tuple"/\o.data=.seq its n/\its.size<=sizeLine/\aU xs its.toList
def JW:pv->Option V
 |.none=>some .non
 |.bool b=>some (.bl b)
 |.int i _=>some (.int i)
 |.str x _=>some (.str x)
 |.bytes b _=>some (.byt b)
 |.float b _=>some (.flt b)
 |.ref a=>some (.ref a)
 |.type n=>some (.ty n)
 |_=>none
theorem aM.abs {x:V}{u:pv}(r:aM x u):JW u=some x:=by
 cases x with
 |non=>cases r;rfl
 |bl _=>cases r;rfl
 |int _=>obtain⟨t,rfl⟩:=r;rfl
 |str _=>obtain⟨t,rfl⟩:=r;rfl
 |byt _=>obtain⟨t,rfl⟩:=r;rfl
 |flt _=>obtain⟨t,rfl⟩:=r;rfl
 |ref _=>cases r;rfl
 |ty _=>cases r;rfl
theorem aM.inj {x y:V}{u:pv}(r:aM x u)(q:aM y u):x=y:=KN (r.abs.symm.trans q.abs)
theorem aU.inj:∀{xs ys:List V}{us:List pv},aU xs us->aU ys us->xs=ys
 |_,_,_,.nil,.nil=>rfl
 |_,_,_,.cons r t,.cons r' t'=>by rw[r.inj r',aU.inj t t']
section
variable {X:Cx}{pins:List (Addr×Obj)}{σ:St}{H:Hp}{s:Dc}{a:Addr}{xs ys:List V}
theorem SqL.of {K:cW}(h:H a=some (.lst xs)):SqL K H a xs:=.inl (.inl h)
theorem SqT.of {K:cW}(h:H a=some (.tup xs)):SqT K H a xs:=.inl (.inl h)
theorem Inv.list (I:Inv X pins σ H s)(h:SqL X.K H a xs):∃its:List pv,aU xs its/\PlainL s.heap a its.toArray/\xs.length<=sizeLine:=by
 rcases h with h|⟨o,its,n,hk,hc,hd,hs,hz,r⟩
 ·obtain⟨z,its,n,r,e⟩:=h.ok I.hok
  exact⟨its,r,⟨_,n,e,rfl,rfl,rfl⟩,z⟩
 ·refine⟨its.toList,r,⟨o,n,I.kIn a o hk,hc,hd,by simpa using hs⟩,?_⟩
  have e:=r.length
  simp only[NH]at e
  omega
theorem Inv.tuple (I:Inv X pins σ H s)(h:SqT X.K H a xs):∃its:List pv,aU xs its/\Rf s.heap a its.toArray/\xs.length<=sizeLine:=by
 rcases h with h|⟨o,its,n,hk,hc,hs,hz,r⟩
 ·obtain⟨z,its,r,p⟩:=h.ok I.hok
  exact⟨its,r,p,z⟩
 ·refine⟨its.toList,r,⟨o,I.kIn a o hk,hc,n,by simpa using hs⟩,?_⟩
  have e:=r.length
  simp only[NH]at e
  omega
theorem Inv.list_inj (I:Inv X pins σ H s)(h:SqL X.K H a xs)(h':SqL X.K H a ys):xs=ys:=by
 obtain⟨its,r,⟨o,n,e,_,_,d⟩,_⟩:=I.list h
 obtain⟨its',r',⟨o',n',e',_,_,d'⟩,_⟩:=I.list h'
 rw[e]at e';cases e'
 rw[d]at d'
 injection d' with d1 _
 have:its=its':=by simpa using congrArg Qx d1
 subst this
 exact r.inj r'
theorem Inv.tuple_inj (I:Inv X pins σ H s)(h:SqT X.K H a xs)(h':SqT X.K H a ys):xs=ys:=by
 obtain⟨its,r,⟨o,e,_,n,d⟩,_⟩:=I.tuple h
 obtain⟨its',r',⟨o',e',_,n',d'⟩,_⟩:=I.tuple h'
 rw[e]at e';cases e'
 rw[d]at d'
 injection d' with d1 _
 have:its=its':=by simpa using congrArg Qx d1
 subst this
 exact r.inj r'
end
abbrev Cx.wish (X:Cx)(E:pv->Dc->Prop):Cx:={X with xe:=E}
abbrev Cx.nox (X:Cx):Cx:=X.wish fun _ _=>False
theorem Cx.Ok.wish {X:Cx}(ok:X.Ok)(E:pv->Dc->Prop):(X.wish E).Ok:=
 ⟨ok.mod,ok.kind,ok.glob,ok.blt,ok.above,ok.inj,ok.has,ok.cab,ok.hd,ok.frames,ok.stk,ok.exf,ok.bs,ok.bsz,ok.noex,ok.exfs,ok.funs,ok.frf⟩
theorem Cx.Ok.unwish {X:Cx}{E:pv->Dc->Prop}(ok:(X.wish E).Ok):X.Ok:=
 ⟨ok.mod,ok.kind,ok.glob,ok.blt,ok.above,ok.inj,ok.has,ok.cab,ok.hd,ok.frames,ok.stk,ok.exf,ok.bs,ok.bsz,ok.noex,ok.exfs,ok.funs,ok.frf⟩
section
variable {X:Cx}{pins:List (Addr×Obj)}{σ:St}{H:Hp}{s:Dc}{E:pv->Dc->Prop}
theorem Inv.wish (I:Inv X pins σ H s)(E:pv->Dc->Prop):Inv (X.wish E) pins σ H s:=⟨I.ok.wish E,I.os,I.bare,I.base,I.loc,I.cell,I.free,I.freeC,I.pin,I.hok,I.len⟩
theorem Inv.unwish (I:Inv (X.wish E) pins σ H s):Inv X pins σ H s:=⟨I.ok.unwish,I.os,I.bare,I.base,I.loc,I.cell,I.free,I.freeC,I.pin,I.hok,I.len⟩
theorem SP.unwish {D:ig}{f:Flow}{s':Dc}(h:SP (X.wish E) pins D f s'):SP X pins D f s':=by
 cases f with
 |next=>obtain⟨σ',H',I,q⟩:=h;exact⟨σ',H',I.unwish,q⟩
 |brk=>obtain⟨σ',H',I,q⟩:=h;exact⟨σ',H',I.unwish,q⟩
 |cont=>obtain⟨σ',H',I,q⟩:=h;exact⟨σ',H',I.unwish,q⟩
 |ret u=>obtain⟨v,σ',H',I,r,q⟩:=h;exact⟨v,σ',H',I.unwish,r,q⟩
theorem PE.nox {e:Expr}{t:TE}(h:PE X.nox e t):PE X e t:=fun pins s σ H Q I hw=>
 Lk (h pins s σ H Q (I.wish _) hw) (fun _ _ ⟨v,H',I',r,q⟩=>⟨v,H',I'.unwish,r,q⟩) fun _ _ z=>Lh z
theorem PSs.nox {st:List Stmt}{t:TS}(h:PSs X.nox st t):PSs X st t:=fun pins s σ H D I hw=>
 Lk (h pins s σ H D (I.wish _) hw) (fun _ _ q=>q.unwish) fun _ _ z=>Lh z
end
section
variable {X:Cx}{st:Stmt}{cQ:List Stmt}{t u:TS}{e:Expr}{te:TE}{pos:Pos}
def aY:TS:=fun D σ H=>D.nx σ H
def ay (t u:TS):TS:=fun D σ H=>t {D with nx:=u D} σ H
theorem yC:PSs X [] aY:=fun _ _ σ H _ I h=>MR ⟨σ,H,I,h⟩
theorem vq (h1:PS X st t)(h2:PSs X cQ u):PSs X (st::cQ) (ay t u):=by
 intro pins s σ H D I h
 refine ND (thn (h1 pins s σ H {D with nx:=u D} I h) fun f s1 q=>?_)
 cases f with
 |next=>
  obtain⟨σ',H',I',q⟩:=q
  exact h2 pins s1 σ' H' D I' q
 |ret v=>exact q
 |brk=>exact q
 |cont=>exact q
theorem yD (h1:PS X st t):PSs X [st] t:=by
 intro pins s σ H D I h
 refine ND (thn (h1 pins s σ H D I h) fun f s1 q=>?_)
 cases f with
 |next=>exact MR q
 |ret v=>exact q
 |brk=>exact q
 |cont=>exact q
theorem Inv.quiet {pins:List (Addr×Obj)}{σ:St}{H:Hp}{s:Dc}(I:Inv X pins σ H s):interactive X.env=false:=by simp[interactive,I.ok.kind]
def cI (te:TE):TS:=fun D σ H=>te σ H fun _ H1=>D.nx σ H1
theorem ym (he:PE X e te)(hs:swapsWith e none pos.line X.env=pure false:=by rfl):PS X (.Expr e pos) (cI te):=by
 intro pins s σ H D I h
 exact wpAny_Expr_any (thn (he pins s σ H _ I h) fun v s1 ⟨x,H1,I1,r1,q1⟩=>⟨σ,H1,I1,q1⟩) I.quiet hs
def aC (te:TE):TS:=fun D σ H=>te σ H D.rt
theorem Cu (he:PE X e te):PS X (.Return (some e) pos) (aC te):=by
 intro pins s σ H D I h
 exact QC (thn (he pins s σ H _ I h) fun v s1 ⟨x,H1,I1,r1,q1⟩=>⟨x,σ,H1,I1,r1,q1⟩)
def da:TS:=fun _ _ _=>False
theorem uc:PS X st da:=fun _ _ _ _ _ _ h=>h.elim
end
abbrev TG:=V->St->Hp->(St->Hp->Prop)->Prop
def PG (X:Cx)(target:Expr)(t:TG):Prop:=
 ∀(pins:List (Addr×Obj))(s:Dc)(σ:St)(H:Hp)(v:V)(u:pv)(Q:St->Hp->Prop),Inv X pins σ H s->aM v u->t v σ H Q->
  wpAny (model X.prog X.w) X.A (assign target X.env u) (fun _ s'=>∃σ' H',Inv X pins σ' H' s'/\Q σ' H') X.xe s
abbrev ue:=V->V->V->Hp->(Hp->Prop)->Prop
def pJ (X:Cx)(t:ue):Prop:=
 ∀(pins:List (Addr×Obj))(s:Dc)(σ:St)(H:Hp)(o i v:V)(ov iv u:pv)(Q:Hp->Prop),Inv X pins σ H s->aM o ov->aM i iv->aM v u->t o i v H Q->
  wpAny (model X.prog X.w) X.A (setItem ov iv u) (fun _ s'=>∃H',Inv X pins σ H' s'/\Q H') X.xe s
section
variable {X:Cx}{pos:Pos}
def aI (i:Nat):TG:=fun v σ H Q=>Q (σ.set i (some v)) H
theorem xZ {i:Nat}{x:Str}(hN:X.N.Nodup)(hi:X.N[i]?=some x)(hx:Loc X.env.scope x)(hf:X.fn x=true\/X.env.scope.names.lookup x=some .local:=by first|exact .inl rfl|exact .inr rfl|assumption):PG X (.Name x pos) (aI i):=by
 intro pins s σ H v u Q I r h
 exact QB (jk I hN hi hx r (fun s' I'=>⟨_,H,I',h⟩) hf)
def jh (to ti:TE)(t:ue):TG:=fun v σ H Q=>to σ H fun o H1=>ti σ H1 fun i H2=>t o i v H2 fun H3=>Q σ H3
theorem zk {o i:Expr}{to ti:TE}{t:ue}(ho:PE X o to)(hi:PE X i ti)(hs:pJ X t)
  (ha:∀v,assign (.Subscript o i pos) X.env v=(do
   let ov<-holding [v] (eval o X.env)
   let iv<-holding [v,ov] (eval i X.env)
   standAt pos
   holding [v,ov,iv] (setItem ov iv v)
   release [v,ov,iv] []):=by intro _;rfl):PG X (.Subscript o i pos) (jh to ti t):=by
 intro pins s σ H v u Q I r h
 rw[ha]
 refine KJ (Ng (thn (ho pins s σ H _ I h) fun ov s1 ⟨x,H1,I1,r1,q1⟩=>?_))
 refine KJ (Ng (thn (hi pins s1 σ H1 _ I1 q1) fun iv s2 ⟨y,H2,I2,r2,q2⟩=>?_))
 refine KJ (Pq (KJ (Ng (thn (hs pins s2 σ H2 x y v ov iv u _ I2 r1 r2 r q2) fun _ s3 ⟨H3,I3,q3⟩=>?_))))
 exact wpAny_release ⟨σ,H3,I3,q3⟩
def aS (te:TE)(g:TG):TS:=fun D σ H=>te σ H fun x H1=>g x σ H1 D.nx
theorem CS {tg e:Expr}{te:TE}{g:TG}(he:PE X e te)(hg:PG X tg g)(hs:swapsWithSole [tg] e pos.line X.env=pure false:=by rfl)(hw:swappedStores [tg] e X.env=pure none:=by rfl)
  (h1:(assignEach [tg] X.env).map (·.2)=[assign tg X.env]:=by rfl):PS X (.Assign [tg] e pos) (aS te g):=by
 intro pins s σ H D I h
 refine wpAny_Assign_stores (thn (he pins s σ H _ I h) fun v s1 ⟨x,H1,I1,r1,q1⟩=>?_) hs hw
 rw[h1]
 exact thn (hg pins s1 σ H1 x v _ I1 r1 q1) fun _ s2 q=>q
theorem Ad {i:Nat}{x:Str}{e:Expr}{te:TE}{pos':Pos}(hN:X.N.Nodup)(hi:X.N[i]?=some x)(hx:Loc X.env.scope x)(he:PE X e te)(hs:swapsWith e (some (.Name x pos')) pos.line X.env=pure false:=by rfl)(hf:X.fn x=true\/X.env.scope.names.lookup x=some .local:=by first|exact .inl rfl|exact .inr rfl|assumption):
  PS X (.Assign [.Name x pos'] e pos) (aS te (aI i)):=by
 intro pins s σ H D I h
 refine wpAny_Assign_Name (thn (he pins s σ H _ I h) fun v s1 ⟨y,H1,I1,r1,q1⟩=>?_) hs
 exact jk I1 hN hi hx r1 (fun s2 I2=>⟨_,H1,I2,q1⟩) hf
end
section
variable {X:Cx}{pos:Pos}
def jU (c:TT)(tb:TS):TS:=fun D σ H=>∃W:Nat->St->Hp->Prop,(∃m,W m σ H)/\∀m σ H,W m σ H->
 c σ H fun b H1=>if b=true then ∃N:St->Hp->Prop,(∀σ' H',N σ' H'->∃m',m'<m/\W m' σ' H')/\tb {D with nx:=N,ct:=N,bk:=D.nx} σ H1 else D.nx σ H1
theorem tI {c:Expr}{body:List Stmt}{tc:TT}{tb:TS}(hp:PP (model X.prog X.w) X.A X.env X.xe)(hc:PT X c tc)(hb:PSs X body tb):PS X (.While c body [] pos) (jU tc tb):=by
 intro pins s σ H D I h
 obtain⟨W,⟨m0,w0⟩,turn⟩:=h
 refine wpAny_While (codeAny_whileLoop (fun n s'=>∃σ' H',Inv X pins σ' H' s'/\W n σ' H') ?_ m0 ⟨σ,H,I,w0⟩)
 rintro n s1 ⟨σ1,H1,I1,w1⟩
 refine ME hp (thn (hc pins s1 σ1 H1 _ I1 (turn n σ1 H1 w1)) fun b s2 ⟨H2,I2,q2⟩=>?_)
 cases b with
 |true=>
  obtain⟨N,hN,q2⟩:=q2
  rw[if_pos rfl]
  refine ME hp (thn (hb pins s2 σ1 H2 _ I2 q2) fun f s3 q3=>?_)
  cases f with
  |next=>
   obtain⟨σ3,H3,I3,n3⟩:=q3
   obtain⟨m',hm,w3⟩:=hN σ3 H3 n3
   exact⟨m',hm,σ3,H3,I3,w3⟩
  |cont=>
   obtain⟨σ3,H3,I3,n3⟩:=q3
   obtain⟨m',hm,w3⟩:=hN σ3 H3 n3
   exact⟨m',hm,σ3,H3,I3,w3⟩
  |brk=>exact q3
  |ret v=>exact q3
 |false=>
  rw[if_neg Lc]
  exact MR ⟨σ1,H2,I2,q2⟩
end
structure It where
 go:Nat->Hp->Prop
 yld:Nat->Hp->V->Hp->Prop
 stop:Nat->Hp->Prop
def ir (X:Cx)(pins:List (Addr×Obj))(H:Hp)(b:Addr):Prop:=
 H b=none/\b≠X.env.locals/\b∉X.fs/\(b∈X.ex\/X.s₀.heap.objs.size<=b)/\(∀x c,X.env.cells.lookup x=some c->c≠b)/\∀p∈X.pn++pins,p.1≠b
theorem Inv.fpOk {X:Cx}{pins:List (Addr×Obj)}{σ:St}{H H':Hp}{s:Dc}{b:Addr}(I:Inv X pins σ H s)(hb:s.heap.objs.size<=b)(hn:H' b=none):ir X pins H' b:=by
 refine⟨hn,Nat.ne_of_gt (KS I.lt hb),I.nofs hb,.inr (Ll I.sz hb),fun x c e z=>?_,fun p hp z=>?_⟩
 ·obtain⟨v,q⟩:=I.cell x c e
  exact absurd (KS q.lt (by rw[z];exact hb)) (Mo _)
 ·exact absurd (KS (KQ (I.pin p hp).1) (by rw[z];exact hb)) (Mo _)
structure kF (P:Lf)(w:LA)(K:cW)(tg:Expr)(J:It)(fp:List Addr)(it:Addr)(tn:Nat->Heap->Prop):Prop where
 mem:it∈fp
 obj:∀i h,tn i h->∀b∈fp,∃o,h.get? b=some o/\∀v,o.data≠.cell v
 keep:∀i h h',tn i h->(∀b∈fp,∀o,h.get? b=some o->h'.get? b=some o)->tn i h'
 item:∀(X:Cx),X.prog=P->X.w=w->X.K=K->X.calm=true->∀(i:Nat)(pins:List (Addr×Obj))(s:Dc)(σ:St)(H:Hp)(E:pv->Dc->Prop),Inv X pins σ H s->(∀b∈fp,ir X pins H b)->tn i s.heap->J.go i H->
  wpAny (model P w) X.A (pyNext (.ref it)) (fun r s1=>∃u,r=some u/\
   wpAny (model P w) X.A (letOwnedTupleGo tg (.ref it) u) (fun _ s2=>∃x H',Inv X pins σ H' s2/\aM x u/\J.yld i H x H'/\tn (i+1) s2.heap/\∀b∈fp,H' b=none) E s1) E s
 done:∀(X:Cx),X.prog=P->X.w=w->X.K=K->X.calm=true->∀(i:Nat)(pins:List (Addr×Obj))(s:Dc)(σ:St)(H:Hp)(E:pv->Dc->Prop),Inv X pins σ H s->(∀b∈fp,ir X pins H b)->tn i s.heap->J.stop i H->
  wpAny (model P w) X.A (pyNext (.ref it)) (fun r s1=>r=none/\Inv X pins σ H s1) E s
 self:∀(A:LC)(i:Nat)(s:Dc)(Q:pv->Dc->Prop)(E:pv->Dc->Prop),tn i s.heap->Q (.ref it) s->wpAny (model P w) A (pyIter (.ref it)) Q E s
abbrev TI:=St->Hp->(It->Hp->Prop)->Prop
def PIE (X:Cx)(pins:List (Addr×Obj))(σ:St)(tg:Expr)(R:It->Hp->Prop)(itv:pv)(s2:Dc):Prop:=
 ∃(it:Addr)(fp:List Addr)(tn:Nat->Heap->Prop)(J:It)(H':Hp),itv=.ref it/\Inv X pins σ H' s2/\kF X.prog X.w X.K tg J fp it tn/\tn 0 s2.heap/\(∀b∈fp,ir X pins H' b)/\R J H'
def PI (X:Cx)(tg iter:Expr)(wi:TI):Prop:=
 ∀(pins:List (Addr×Obj))(s:Dc)(σ:St)(H:Hp)(R:It->Hp->Prop),Inv X pins σ H s->wi σ H R->
  wpAny (model X.prog X.w) X.A (eval iter X.env) (fun v s1=>wpAny (model X.prog X.w) X.A (pyIter v) (PIE X pins σ tg R) X.xe s1) X.xe s
theorem mH {M:Model}{A:LC}{E:pv->Dc->Prop}{s:Dc}{tg:Expr}{it:Addr}{u:pv}{o:Obj}{n:String}{vs:Array pv}{Q:Unit->Dc->Prop}(ho:s.heap.get? it=some o)(hc:o.cls=.type n)(hd:o.data=.fields vs)
  (hn:["enumerate","zip","dict_itemiterator","dict_reverseitemiterator","odict_iterator","itertools.zip_longest","itertools.pairwise"].contains n=false)(hQ:Q () s):wpAny M A (letOwnedTupleGo tg (.ref it) u) Q E s:=by
 unfold letOwnedTupleGo
 cases tg<;>first
  |exact La hQ
  |(cases u<;>first
   |exact La hQ
   |(refine KJ (wpAny_load ho ?_)
     rw[hc,hd]
     show wpAny M A (if (["enumerate","zip","dict_itemiterator","dict_reverseitemiterator","odict_iterator","itertools.zip_longest","itertools.pairwise"].contains n&&vs[0]? ==some (rawInt _))=true then _ else _) Q E s
     rw[if_neg (by intro h;rw[hn,LW]at h;cases h)]
     exact La hQ))
def Itl (K:cW)(a:Addr):It:=
 ⟨fun i H=>∃xs x,SqL K H a xs/\xs[i]?=some x,fun i H x H'=>H'=H/\∀xs,SqL K H a xs->xs[i]?=some x,fun i H=>∃xs,SqL K H a xs/\xs.length<=i⟩
def Itt (K:cW)(a:Addr):It:=
 ⟨fun i H=>∃xs x,SqT K H a xs/\xs[i]?=some x,fun i H x H'=>H'=H/\∀xs,SqT K H a xs->xs[i]?=some x,fun i H=>∃xs,SqT K H a xs/\xs.length<=i⟩
def Itr (lo:Int)(n:Nat):It:=⟨fun i _=>i<n,fun i H x H'=>H'=H/\x=.int (lo+i),fun i _=>n<=i⟩
theorem sN {P:Lf}{w:LA}{K:cW}{tg:Expr}(a it:Addr):kF P w K tg (Itl K a) [it] it (fun i h=>h.IsListIter it a i)where
 mem:=by simp
 obj:=fun i h st b hb=>by
  have e:b=it:=by simpa using hb
  subst e
  obtain⟨o,e,c,d⟩:=st
  exact⟨o,e,fun v z=>by rw[d]at z;cases z⟩
 keep:=fun i h h' st k=>st.at fun o e=>k it (by simp) o e
 item:=by
  intro X hP hw hK hc i pins s σ H E I hf st hg
  subst hP hw hK
  obtain⟨xs,x,hq,hx⟩:=hg
  obtain⟨its,rv,p,hz⟩:=I.list hq
  obtain⟨u,hu,ru⟩:=rv.get hx
  obtain⟨f0,f1,f2,f3,f4,f5⟩:=hf it (by simp)
  refine wpAny_pyNext_list_item st p.isList (x:=u) (by simpa using hu) fun h' st' sb=>?_
  have I1:Inv X pins σ H {s with heap:=h'}:=I.turned (t':=s.toks) (fun b o hb e=>(sb.2 b hb).trans e) f0 f1 f3 f4 f5
  obtain⟨o,e,c,d⟩:=id st'
  exact⟨u,rfl,mH (s:={s with heap:=h'}) e c d (by decide) ⟨x,H,I1,ru,⟨rfl,fun ys hy=>by rw[I.list_inj hy hq];exact hx⟩,st',fun b hb=>(hf b hb).1⟩⟩
 done:=by
  intro X hP hw hK hc i pins s σ H E I hf st hg
  subst hP hw hK
  obtain⟨xs,hq,hx⟩:=hg
  obtain⟨its,rv,p,hz⟩:=I.list hq
  obtain⟨f0,f1,f2,f3,f4,f5⟩:=hf it (by simp)
  have hl:=rv.length
  exact wpAny_pyNext_list_end (I.ok.hd hc) st p.isList (by simp;omega) fun h' eb=>⟨rfl,I.turned (t':=s.toks) (fun b o hb e=>eb b o hb e) f0 f1 f3 f4 f5⟩
 self:=fun _ _ _ _ _ st h=>wpAny_pyIter_listiter st h
theorem qW {P:Lf}{w:LA}{K:cW}{tg:Expr}(a it:Addr):kF P w K tg (Itt K a) [it] it (fun i h=>h.IsTupleIter it a i)where
 mem:=by simp
 obj:=fun i h st b hb=>by
  have e:b=it:=by simpa using hb
  subst e
  obtain⟨o,e,c,d⟩:=st
  exact⟨o,e,fun v z=>by rw[d]at z;cases z⟩
 keep:=fun i h h' st k=>st.at fun o e=>k it (by simp) o e
 item:=by
  intro X hP hw hK hc i pins s σ H E I hf st hg
  subst hP hw hK
  obtain⟨xs,x,hq,hx⟩:=hg
  obtain⟨its,rv,p,hz⟩:=I.tuple hq
  obtain⟨u,hu,ru⟩:=rv.get hx
  obtain⟨f0,f1,f2,f3,f4,f5⟩:=hf it (by simp)
  refine wpAny_pyNext_tuple_item st (show s.heap.IsTuple a its.toArray from p) (x:=u) (by simpa using hu) fun h' st' sb=>?_
  have I1:Inv X pins σ H {s with heap:=h'}:=I.turned (t':=s.toks) (fun b o hb e=>(sb.2 b hb).trans e) f0 f1 f3 f4 f5
  obtain⟨o,e,c,d⟩:=id st'
  exact⟨u,rfl,mH (s:={s with heap:=h'}) e c d (by decide) ⟨x,H,I1,ru,⟨rfl,fun ys hy=>by rw[I.tuple_inj hy hq];exact hx⟩,st',fun b hb=>(hf b hb).1⟩⟩
 done:=by
  intro X hP hw hK hc i pins s σ H E I hf st hg
  subst hP hw hK
  obtain⟨xs,hq,hx⟩:=hg
  obtain⟨its,rv,p,hz⟩:=I.tuple hq
  obtain⟨f0,f1,f2,f3,f4,f5⟩:=hf it (by simp)
  have hl:=rv.length
  exact wpAny_pyNext_tuple_end (I.ok.hd hc) st (show s.heap.IsTuple a its.toArray from p) (by simp;omega) fun h' eb=>⟨rfl,I.turned (t':=s.toks) (fun b o hb e=>eb b o hb e) f0 f1 f3 f4 f5⟩
 self:=fun _ _ _ _ _ st h=>wpAny_pyIter_tupleiter st h
theorem qd {P:Lf}{w:LA}{K:cW}{tg:Expr}(it:Addr)(lo:Int)(n:Nat):kF P w K tg (Itr lo n) [it] it (fun i h=>IsRangeIter h it (lo+(i:Nat)*1) ((n:Int)- (i:Nat)) 1)where
 mem:=by simp
 obj:=fun i h st b hb=>by
  have e:b=it:=by simpa using hb
  subst e
  exact⟨_,st,fun v z=>by
   have z':Data.fields _=Data.cell v:=z
   cases z'⟩
 keep:=fun i h h' st k=>k it (by simp) _ st
 item:=by
  intro X hP hw hK hc i pins s σ H E I hf st hg
  subst hP hw hK
  obtain⟨f0,f1,f2,f3,f4,f5⟩:=hf it (by simp)
  have W:=Walks.range (prog:=X.prog) (w:=X.w) (I.ok.hd hc) it lo 1 n
  refine W.item i s _ _ hg st fun v h' tk hv st' kk=>?_
  obtain⟨t,rfl⟩:=hv
  have I1:Inv X pins σ H {s with heap:=h',toks:=tk}:=I.turned (fun b o hb e=>kk b o (by simpa using hb) e) f0 f1 f3 f4 f5
  refine⟨_,rfl,mH (s:={s with heap:=h',toks:=tk}) (n:="range_iterator") st' rfl rfl (by decide) ⟨.int (lo+i),H,I1,⟨t,?_⟩,⟨rfl,rfl⟩,st',fun b hb=>(hf b hb).1⟩⟩
  rw[Int.mul_one]
 done:=by
  intro X hP hw hK hc i pins s σ H E I hf st hg
  subst hP hw hK
  obtain⟨f0,f1,f2,f3,f4,f5⟩:=hf it (by simp)
  exact wpAny_pyNext_range_end (I.ok.hd hc) st (by have:n<=i:=hg;omega) fun h' eb=>⟨rfl,I.turned (t':=s.toks) (fun b o hb e=>eb b o hb e) f0 f1 f3 f4 f5⟩
 self:=fun _ _ _ _ _ st h=>wpAny_pyIter_rangeiter st h
section
variable {X:Cx}{tg:Expr}
theorem wg {pins:List (Addr×Obj)}{σ:St}{H:Hp}{s:Dc}{R:It->Hp->Prop}{E:pv->Dc->Prop}{lo hi:Int}{t u v:Tok}{tk:Nat}(I:Inv X pins σ H s)(h1: -(2^62)<=lo)(h2:lo<2^62)(h3: -(2^62)<=hi)(h4:hi<2^62)
  (q:R (Itr lo (hi- lo).toNat) H):wpAny (model X.prog X.w) X.A (pyIter (.ref s.heap.objs.size)) (PIE X pins σ tg R) E {s with heap:=s.heap.push {cls:=.type "range",data:=.fields #[.int lo t,.int hi u,.int 1 v]},toks:=tk}:=by
 refine wpAny_pyIter_range (IsRange.new ..) (small_one h1 h2 h3 h4) ?_
 have I1:Inv X pins σ H {s with heap:=s.heap.push {cls:=.type "range",data:=.fields #[.int lo t,.int hi u,.int 1 v]},toks:=tk}:=I.kept fun b o e=>wr _ e
 refine⟨(s.heap.push {cls:=.type "range",data:=.fields #[.int lo t,.int hi u,.int 1 v]}).objs.size,[(s.heap.push {cls:=.type "range",data:=.fields #[.int lo t,.int hi u,.int 1 v]}).objs.size],_,_,H,rfl,
  I1.kept (t':=tk) fun b o e=>wr _ e,qd _ lo (hi- lo).toNat,?_,fun b hb=>?_,q⟩
 ·have e1:lo+((0:Nat):Int)*1=lo:=by simp
  have e2:(((hi- lo).toNat:Nat):Int)- ((0:Nat):Int)=Re lo hi 1:=by rw[rangeSize_one];split<;>omega
  show IsRangeIter _ _ (lo+((0:Nat):Int)*1) ((((hi- lo).toNat:Nat):Int)- ((0:Nat):Int)) 1
  rw[e1,e2]
  exact Lg _ rfl
 ·have e:b=(s.heap.push {cls:=.type "range",data:=.fields #[.int lo t,.int hi u,.int 1 v]}).objs.size:=by simpa using hb
  subst e
  exact I1.fpOk (gV _) (I1.hok.fresh (gV _))
def qk (ta:TA):TI:=fun σ H R=>ta σ H fun vs H1=>∃j:Int,vs=[.int j]/\ -(2^62)<=j/\j<2^62/\R (Itr 0 j.toNat) H1
theorem rD {a:Expr}{ta:TA}{p pos:Pos}(hg:Gl X "range")(hm:X.mg "range"=none)(ha:PA X [a] ta)(hs:starEach [a] X.env=[(false,eval a X.env)]:=by rfl):PI X tg (.Call (.Name "range" p) [a] [] pos) (qk ta):=by
 intro pins s σ H R I h
 refine Call_ (jF I hg hm boot_range (NK (thn (ha pos pins s σ H _ I h) fun us s1 ⟨vs,H1,I1,r1,q1⟩=>?_) hs rfl))
 obtain⟨j,e,q1,q2,q⟩:=q1
 subst e
 cases r1 with
 |cons r rr=>
  cases rr
  obtain⟨t,rfl⟩:=r
  exact call_range_1 (wg I1 (by omega) (by omega) q1 q2 (by simpa using q))
def kc (wi:TI)(g:TG)(tb:TS):TS:=fun D σ H=>wi σ H fun J H1=>∃W:Nat->Nat->St->Hp->Prop,(∃m,W 0 m σ H1)/\∀i m σ H,W i m σ H->
 (J.stop i H/\D.nx σ H)\/(J.go i H/\∃N:St->Hp->Prop,(∀σ' H',N σ' H'->∃m',m'<m/\W (i+1) m' σ' H')/\∀x H',J.yld i H x H'->g x σ H' fun σ2 H2=>tb {D with nx:=N,ct:=N,bk:=D.nx} σ2 H2)
def io (fp:List Addr)(h:Heap):List (Addr×Obj):=fp.filterMap fun b=>(h.get? b).map fun o=>(b,o)
theorem fq {fp:List Addr}{h:Heap}{b:Addr}{o:Obj}(hb:b∈fp)(e:h.get? b=some o):(b,o)∈io fp h:=Py.mpr ⟨b,hb,by rw[e];rfl⟩
theorem rz {fp:List Addr}{h:Heap}{p:Addr×Obj}(hp:p∈io fp h):p.1∈fp/\h.get? p.1=some p.2:=by
 obtain⟨b,hb,e⟩:=Py.mp hp
 cases q:h.get? b with
 |none=>rw[q]at e;cases e
 |some o=>
  rw[q]at e
  have e':(b,o)=p:=KN e
  subst e'
  exact⟨hb,q⟩
theorem Inv.pinned {pins:List (Addr×Obj)}{σ:St}{H:Hp}{s:Dc}{fp:List Addr}(I:Inv X pins σ H s)(hf:∀b∈fp,ir X pins H b)(ho:∀b∈fp,∃o,s.heap.get? b=some o/\∀v,o.data≠.cell v):Inv X (pins++io fp s.heap) σ H s:=
 I.pins_of fun p hp=>(Ml.mp hp).elim (fun z=>I.pin p (Lp _ z)) fun z=>by
  obtain⟨hb,e⟩:=rz z
  obtain⟨f0,f1,f2,_⟩:=hf p.1 hb
  obtain⟨o,e',d⟩:=ho p.1 hb
  rw[e]at e';cases e'
  exact⟨e,f0,f1,f2,d⟩
theorem Inv.unpinned {pins pl:List (Addr×Obj)}{σ:St}{H:Hp}{s:Dc}(I:Inv X (pins++pl) σ H s):Inv X pins σ H s:=I.pins_of fun p hp=>I.pin p (Lp _ (MC _ hp))
theorem Bn {iter:Expr}{body:List Stmt}{wi:TI}{g:TG}{tb:TS}{pos:Pos}(hp:PP (model X.prog X.w) X.A X.env X.xe)(hc:X.calm=true)(hi:PI X tg iter wi)(hg:PG X tg g)(hb:PSs X body tb)
  (hs:∀x,foldedSetIterable iter X.env x=pure x:=by intro _;rfl):PS X (.For tg iter body [] pos) (kc wi g tb):=by
 intro pins s σ H D I h
 refine wpAny_For (thn (hi pins s σ H _ I h) fun v s1 h1=>thn h1 fun itv s2 h2=>?_) hs
 obtain⟨it,fp,tn,J,H2,e,I2,T,st2,f2,W,⟨m0,w0⟩,turn⟩:=h2
 subst e
 have stat:∀{H':Hp},(∀b∈fp,H' b=none)->∀b∈fp,ir X pins H' b:=fun hn b hb=>⟨hn b hb,(f2 b hb).2⟩
 refine codeAny_forLoop_any (fun n s'=>∃i σ' H',Inv X pins σ' H' s'/\tn i s'.heap/\(∀b∈fp,H' b=none)/\W i n σ' H') ?_ m0 ⟨0,σ,H2,I2,st2,fun b hb=>(f2 b hb).1,w0⟩
 rintro n s3 ⟨i,σ3,H3,I3,st3,fr3,w3⟩
 rcases turn i n σ3 H3 w3 with⟨stop,qn⟩|⟨go,N,hN,step⟩
 ·refine ME hp (thn (T.done X rfl rfl rfl hc i pins s3 σ3 H3 X.xe I3 (stat fr3) st3 stop) fun r s4 ⟨hr,I4⟩=>?_)
  subst hr
  exact MR ⟨σ3,H3,I4,qn⟩
 ·refine ME hp (thn (T.item X rfl rfl rfl hc i pins s3 σ3 H3 X.xe I3 (stat fr3) st3 go) fun r s4 ⟨u,hr,h4⟩=>?_)
  subst hr
  refine ME hp (thn h4 fun _ s5 ⟨x,H5,I5,r5,y5,st5,fr5⟩=>?_)
  have I5':=I5.pinned (stat fr5) (T.obj _ _ st5)
  refine ME hp (thn (hg _ s5 σ3 H5 x u _ I5' r5 (step x H5 y5)) fun _ s6 ⟨σ6,H6,I6,q6⟩=>?_)
  refine ME hp (thn (hb _ s6 σ6 H6 _ I6 q6) fun f s7 q7=>?_)
  have again:∀{σ7:St}{H7:Hp},Inv X (pins++io fp s5.heap) σ7 H7 s7->N σ7 H7->∃m,m<n/\∃i σ' H',Inv X pins σ' H' s7/\tn i s7.heap/\(∀b∈fp,H' b=none)/\W i m σ' H':=fun{σ7 H7} I7 n7=>by
   obtain⟨m',hm,w7⟩:=hN σ7 H7 n7
   refine⟨m',hm,i+1,σ7,H7,I7.unpinned,T.keep _ _ _ st5 fun b hb o e=>(I7.pin (b,o) (Lp _ (Lp _ (fq hb e)))).1,fun b hb=>?_,w7⟩
   obtain⟨o,e,d⟩:=T.obj _ _ st5 b hb
   exact(I7.pin (b,o) (Lp _ (Lp _ (fq hb e)))).2.1
  cases f with
  |next=>obtain⟨σ7,H7,I7,n7⟩:=q7;exact again I7 n7
  |cont=>obtain⟨σ7,H7,I7,n7⟩:=q7;exact again I7 n7
  |brk=>obtain⟨σ7,H7,I7,q7⟩:=q7;exact⟨σ7,H7,I7.unpinned,q7⟩
  |ret v=>obtain⟨x7,σ7,H7,I7,r7,q7⟩:=q7;exact⟨x7,σ7,H7,I7.unpinned,r7,q7⟩
end
theorem jf {K:cW}{a:Addr}{xs:List V}{g:TG}{tb:TS}{D:ig}{σ:St}{H:Hp}(Pv:Nat->St->Hp->Prop)(h0:Pv 0 σ H)(hl:∀i σ H,i<=xs.length->Pv i σ H->SqL K H a xs)
  (hs:∀i x σ H,xs[i]?=some x->Pv i σ H->g x σ H fun σ2 H2=>tb {D with nx:=Pv (i+1),ct:=Pv (i+1),bk:=D.nx} σ2 H2)(hd:∀σ H,Pv xs.length σ H->D.nx σ H):
  ∃W:Nat->Nat->St->Hp->Prop,(∃m,W 0 m σ H)/\∀i m σ H,W i m σ H->
   ((Itl K a).stop i H/\D.nx σ H)\/((Itl K a).go i H/\∃N:St->Hp->Prop,(∀σ' H',N σ' H'->∃m',m'<m/\W (i+1) m' σ' H')/\∀x H',(Itl K a).yld i H x H'->g x σ H' fun σ2 H2=>tb {D with nx:=N,ct:=N,bk:=D.nx} σ2 H2):=by
 refine⟨fun i m σ H=>m=xs.length- i/\i<=xs.length/\Pv i σ H,⟨xs.length,by simp,Li _,h0⟩,?_⟩
 rintro i m σ H ⟨rfl,hi,p⟩
 have q:=hl i σ H hi p
 by_cases hlt:i<xs.length
 ·refine .inr ⟨⟨xs,xs[i],q,by simp[hlt]⟩,Pv (i+1),fun σ' H' p'=>⟨xs.length- (i+1),by omega,rfl,hlt,p'⟩,fun x H' y=>?_⟩
  obtain⟨e,y⟩:=y
  subst e
  exact hs i x σ _ (y xs q) p
 ·have e:i=xs.length:=by omega
  subst e
  exact .inl ⟨⟨xs,q,gV _⟩,hd σ H p⟩
theorem rZ {lo:Int}{n:Nat}{g:TG}{tb:TS}{D:ig}{σ:St}{H:Hp}(Pv:Nat->St->Hp->Prop)(h0:Pv 0 σ H)
  (hs:∀i σ H,i<n->Pv i σ H->g (.int (lo+i)) σ H fun σ2 H2=>tb {D with nx:=Pv (i+1),ct:=Pv (i+1),bk:=D.nx} σ2 H2)(hd:∀σ H,Pv n σ H->D.nx σ H):
  ∃W:Nat->Nat->St->Hp->Prop,(∃m,W 0 m σ H)/\∀i m σ H,W i m σ H->
   ((Itr lo n).stop i H/\D.nx σ H)\/((Itr lo n).go i H/\∃N:St->Hp->Prop,(∀σ' H',N σ' H'->∃m',m'<m/\W (i+1) m' σ' H')/\∀x H',(Itr lo n).yld i H x H'->g x σ H' fun σ2 H2=>tb {D with nx:=N,ct:=N,bk:=D.nx} σ2 H2):=by
 refine⟨fun i m σ H=>m=n- i/\i<=n/\Pv i σ H,⟨n,by simp,Li _,h0⟩,?_⟩
 rintro i m σ H ⟨rfl,hi,p⟩
 by_cases hlt:i<n
 ·refine .inr ⟨hlt,Pv (i+1),fun σ' H' p'=>⟨n- (i+1),by omega,rfl,hlt,p'⟩,fun x H' y=>?_⟩
  obtain⟨e,y⟩:=y
  subst e y
  exact hs i σ _ hlt p
 ·have e:i=n:=by omega
  subst e
  exact .inl ⟨gV _,hd σ H p⟩
abbrev R2:=V->V->Hp->VK->Prop
def OpR (X:Cx)(f:pv->pv->Sem pv)(r:R2):Prop:=
 ∀(pins:List (Addr×Obj))(s:Dc)(σ:St)(H:Hp)(x y:V)(v u:pv)(Q:VK),Inv X pins σ H s->aM x v->aM y u->r x y H Q->
  wpAny (model X.prog X.w) X.A (f v u) (EP X pins σ Q) X.xe s
def UnR (X:Cx)(f:pv->Sem pv)(r:V->Hp->VK->Prop):Prop:=
 ∀(pins:List (Addr×Obj))(s:Dc)(σ:St)(H:Hp)(x:V)(v:pv)(Q:VK),Inv X pins σ H s->aM x v->r x H Q->
  wpAny (model X.prog X.w) X.A (f v) (EP X pins σ Q) X.xe s
def bP (X:Cx)(f:pv)(r:List V->Hp->VK->Prop):Prop:=
 ∀(pins:List (Addr×Obj))(s:Dc)(σ:St)(H:Hp)(xs:List V)(us:List pv)(Q:VK),Inv X pins σ H s->aU xs us->r xs H Q->
  wpAny (model X.prog X.w) X.A (call f us) (EP X pins σ Q) X.xe s
def KD (X:Cx)(r:V->Hp->(Bool->Hp->Prop)->Prop):Prop:=
 ∀(pins:List (Addr×Obj))(s:Dc)(σ:St)(H:Hp)(x:V)(v:pv)(Q:Bool->Hp->Prop),Inv X pins σ H s->aM x v->r x H Q->
  wpAny (model X.prog X.w) X.A (truthy v) (TP X pins σ Q) X.xe s
def tOp (r:R2)(ta tb:TE):TE:=fun σ H Q=>ta σ H fun x H1=>tb σ H1 fun y H2=>r x y H2 Q
def tUn (r:V->Hp->VK->Prop)(ta:TE):TE:=fun σ H Q=>ta σ H fun x H1=>r x H1 Q
def rI (C:Int->Int->Prop)(g:Int->Int->V):R2:=fun x y H Q=>∃i j,x=.int i/\y=.int j/\C i j/\Q (g i j) H
def rI0 (g:Int->Int->V):R2:=fun x y H Q=>∃i j,x=.int i/\y=.int j/\Q (g i j) H
def rU (g:Int->V):V->Hp->VK->Prop:=fun x H Q=>∃i,x=.int i/\Q (g i) H
section
variable {X:Cx}{a b c:Expr}{ta tb tc:TE}{pos:Pos}
theorem wa (ha:PE X a ta)(hb:PE X b tb){pins:List (Addr×Obj)}{s:Dc}{σ:St}{H:Hp}{R:V->V->Hp->Prop}(I:Inv X pins σ H s)
  (h:ta σ H fun x H1=>tb σ H1 fun y H2=>R x y H2){Q:pv->Dc->Prop}{f:pv->pv->Sem pv}
  (hf:∀v u s2 x y H2,Inv X pins σ H2 s2->aM x v->aM y u->R x y H2->wpAny (model X.prog X.w) X.A (f v u) Q X.xe s2):
  wpAny (model X.prog X.w) X.A (eval a X.env) (fun v s₁=>wpAny (model X.prog X.w) X.A (eval b X.env) (fun u s₂=>wpAny (model X.prog X.w) X.A (f v u) Q X.xe s₂) X.xe s₁) X.xe s:=by
 refine thn (ha pins s σ H _ I h) fun v s1 ⟨x,H1,I1,r1,q1⟩=>?_
 refine thn (hb pins s1 σ H1 _ I1 q1) fun u s2 ⟨y,H2,I2,r2,q2⟩=>?_
 exact hf v u s2 x y H2 I2 r1 r2 q2
theorem Dh {op:Operator}{r:R2}(ho:OpR X (binaryOp op) r)(ha:PE X a ta)(hb:PE X b tb):PE X (.BinOp a op b pos) (tOp r ta tb):=by
 intro pins s σ H Q I h
 exact wpAny_BinOp (wa ha hb I h fun v u s2 x y H2 I2 rx ry q=>ho pins s2 σ H2 x y v u Q I2 rx ry q)
theorem DJ {op:UnaryOp}{r:V->Hp->VK->Prop}(ho:UnR X (unaryOp op) r)(ha:PE X a ta):PE X (.UnaryOp op a pos) (tUn r ta):=by
 intro pins s σ H Q I h
 exact UnaryOp_ (thn (ha pins s σ H _ I h) fun v s1 ⟨x,H1,I1,r1,q1⟩=>ho pins s1 σ H1 x v Q I1 r1 q1)
theorem opI {f:pv->pv->Sem pv}{C:Int->Int->Prop}{g:Int->Int->Int}
  (rule:∀(i j:Int)(t u:Tok)(s:Dc)(Q:pv->Dc->Prop)(E:pv->Dc->Prop),C i j->Q (.int (g i j) s.toks) {s with toks:=s.toks+1}->wpAny (model X.prog X.w) X.A (f (.int i t) (.int j u)) Q E s):
  OpR X f (rI C fun i j=>.int (g i j)):=by
 intro pins s σ H x y v u Q I rx ry h
 obtain⟨i,j,rfl,rfl,hc,q⟩:=h
 obtain⟨t,rfl⟩:=rx
 obtain⟨t',rfl⟩:=ry
 exact rule i j t t' s _ _ hc ⟨.int (g i j),H,I.tok _,⟨_,rfl⟩,q⟩
theorem qt {f:pv->pv->Sem pv}{g:Int->Int->Int}
  (rule:∀(i j:Int)(t u:Tok)(s:Dc)(Q:pv->Dc->Prop)(E:pv->Dc->Prop),Q (.int (g i j) s.toks) {s with toks:=s.toks+1}->wpAny (model X.prog X.w) X.A (f (.int i t) (.int j u)) Q E s):
  OpR X f (rI0 fun i j=>.int (g i j)):=by
 intro pins s σ H x y v u Q I rx ry h
 obtain⟨i,j,rfl,rfl,q⟩:=h
 obtain⟨t,rfl⟩:=rx
 obtain⟨t',rfl⟩:=ry
 exact rule i j t t' s _ _ ⟨.int (g i j),H,I.tok _,⟨_,rfl⟩,q⟩
theorem uC {f:pv->pv->Sem pv}{g:Int->Int->Bool}
  (rule:∀(i j:Int)(t u:Tok)(s:Dc)(Q:pv->Dc->Prop)(E:pv->Dc->Prop),Q (.bool (g i j)) s->wpAny (model X.prog X.w) X.A (f (.int i t) (.int j u)) Q E s):
  OpR X f (rI0 fun i j=>.bl (g i j)):=by
 intro pins s σ H x y v u Q I rx ry h
 obtain⟨i,j,rfl,rfl,q⟩:=h
 obtain⟨t,rfl⟩:=rx
 obtain⟨t',rfl⟩:=ry
 exact rule i j t t' s _ _ ⟨.bl (g i j),H,I,rfl,q⟩
def Cy (i j:Int):Prop:=0<=j/\j<=1000000/\i.natAbs<2^64
theorem qw (k:Nat):(0:Int)<=2^k:=by
 rw[two_pow_cast]
 exact Int.natCast_nonneg _
theorem Ae:OpR X (binaryOp .Add) (rI0 fun i j=>.int (i+j)):=qt fun _ _ _ _ _ _ _ q=>add_int q
theorem BO:OpR X (binaryOp .Sub) (rI0 fun i j=>.int (i- j)):=qt fun _ _ _ _ _ _ _ q=>sub_int q
theorem Cb:OpR X (binaryOp .Mod) (rI (fun _ j=>0<j) fun i j=>.int (i%j)):=opI fun i j _ _ _ _ _ hc q=>by
 have h1:(0:Int)<j:=hc
 exact mod_int' (by omega) (by rw[Int.fmod_eq_emod_of_nonneg i (by omega)];exact q)
theorem Aw:OpR X (binaryOp .Pow) (rI Cy fun i j=>.int (i^j.toNat)):=opI fun _ _ _ _ _ _ _ hc q=>pow_int_small hc.1 hc.2.1 hc.2.2 q
theorem CY:OpR X (binaryOp .LShift) (rI Cy fun i j=>.int (i*2^j.toNat)):=opI fun _ _ _ _ _ _ _ hc q=>lshift_int_small hc.1 hc.2.1 hc.2.2 q
theorem Cw:OpR X (binaryOp .RShift) (rI (fun _ j=>0<=j) fun i j=>.int (i/2^j.toNat)):=opI fun i j _ _ _ _ _ hc q=>
 rshift_int hc (by rw[OI i (qw _)];exact q)
theorem zH:OpR X (binaryOp .BitAnd) (rI0 fun i j=>.int (Mb i j)):=qt fun _ _ _ _ _ _ _ q=>and_int q
theorem Cv:OpR X (binaryOp .BitXor) (rI0 fun i j=>.int (Nc i j)):=qt fun _ _ _ _ _ _ _ q=>xor_int q
theorem unI {f:pv->Sem pv}{g:Int->Int}
  (rule:∀(i:Int)(t:Tok)(s:Dc)(Q:pv->Dc->Prop)(E:pv->Dc->Prop),Q (.int (g i) s.toks) {s with toks:=s.toks+1}->wpAny (model X.prog X.w) X.A (f (.int i t)) Q E s):
  UnR X f (rU fun i=>.int (g i)):=by
 intro pins s σ H x v Q I rx h
 obtain⟨i,rfl,q⟩:=h
 obtain⟨t,rfl⟩:=rx
 exact rule i t s _ _ ⟨.int (g i),H,I.tok _,⟨_,rfl⟩,q⟩
theorem Al:UnR X (unaryOp .USub) (rU fun i=>.int (-i)):=unI fun _ _ _ _ _ q=>neg_int q
end
def Bm:V->V->Bool
 |.non,.non=>true|.non,.int _=>true|.int _,.non=>true|.non,.bl _=>true|.bl _,.non=>true|.non,.str _=>true|.str _,.non=>true
 |.int _,.int _=>true|.bl _,.bl _=>true|.str _,.str _=>true|.byt _,.byt _=>true
 |.int _,.str _=>true|.str _,.int _=>true|.bl _,.str _=>true|.str _,.bl _=>true
 |_,_=>false
def rEq:R2:=fun x y H Q=>Bm x y=true/\Q (.bl (decide (x=y))) H
def rNe:R2:=fun x y H Q=>Bm x y=true/\Q (.bl (!decide (x=y))) H
theorem oQ {i j:Int}:decide (V.int i=V.int j)=(i==j):=by
 rw[Nb]
 simp
theorem sR {i j:Bool}:decide (V.bl i=V.bl j)=(i==j):=by
 rw[Nb]
 simp
theorem oR {i j:Str}:decide (V.str i=V.str j)=(i==j):=by
 rw[Nb]
 simp
theorem oV {i j:Array UInt8}:decide (V.byt i=V.byt j)=(i.toList==j.toList):=by
 rw[Nb]
 cases i
 cases j
 simp
section
variable {X:Cx}{a b c:Expr}{ta tb tc:TE}{pos:Pos}
theorem bj {pins:List (Addr×Obj)}{σ:St}{H:Hp}{s:Dc}{Q:VK}{k k':Bool}(I:Inv X pins σ H s)(q:Q (.bl k) H)(e:k=k'):EP X pins σ Q (.bool k') s:=by
 subst e
 exact⟨.bl k,H,I,rfl,q⟩
theorem DH:OpR X (compareOp .Eq) rEq:=by
 intro pins s σ H x y v u Q I rx ry h
 obtain⟨hs,q⟩:=h
 cases x with
 |non=>
  cases rx
  cases y with
  |non=>cases ry;exact PySem.EqNone.eq_none_none (bj I q (by simp))
  |bl j=>cases ry;exact PySem.EqNone.eq_none_bool (bj I q (by simp))
  |int j=>obtain⟨t',rfl⟩:=ry;exact PySem.EqNone.eq_none_int (bj I q (by simp))
  |str j=>obtain⟨t',rfl⟩:=ry;exact PySem.EqNone.eq_none_str (bj I q (by simp))
  |_=>exact absurd (show false=true from hs) Lc
 |bl i=>
  cases rx
  cases y with
  |non=>cases ry;exact PySem.EqNone.eq_bool_none (bj I q (by simp))
  |bl j=>cases ry;exact eq_bool (bj I q sR)
  |str j=>obtain⟨t',rfl⟩:=ry;exact QZ (bj I q (by simp))
  |_=>exact absurd (show false=true from hs) Lc
 |int i=>
  obtain⟨t,rfl⟩:=rx
  cases y with
  |non=>cases ry;exact PySem.EqNone.eq_int_none (bj I q (by simp))
  |int j=>obtain⟨t',rfl⟩:=ry;exact eq_int (bj I q oQ)
  |str j=>obtain⟨t',rfl⟩:=ry;exact QY (bj I q (by simp))
  |_=>exact absurd (show false=true from hs) Lc
 |str i=>
  obtain⟨t,rfl⟩:=rx
  cases y with
  |non=>cases ry;exact PySem.EqNone.eq_str_none (bj I q (by simp))
  |bl j=>cases ry;exact QX (bj I q (by simp))
  |int j=>obtain⟨t',rfl⟩:=ry;exact QV (bj I q (by simp))
  |str j=>obtain⟨t',rfl⟩:=ry;exact eq_str (bj I q oR)
  |_=>exact absurd (show false=true from hs) Lc
 |byt i=>
  obtain⟨t,rfl⟩:=rx
  cases y with
  |byt j=>obtain⟨t',rfl⟩:=ry;exact W.eq_bytes (bj I q oV)
  |_=>exact absurd (show false=true from hs) Lc
 |_=>cases y<;>exact absurd (show false=true from hs) Lc
theorem EE:OpR X (compareOp .NotEq) rNe:=by
 intro pins s σ H x y v u Q I rx ry h
 obtain⟨hs,q⟩:=h
 cases x with
 |non=>
  cases rx
  cases y with
  |non=>cases ry;exact PySem.EqNone.ne_none_none (bj I q (by simp))
  |bl j=>cases ry;exact PySem.EqNone.ne_none_bool (bj I q (by simp))
  |int j=>obtain⟨t',rfl⟩:=ry;exact PySem.EqNone.ne_none_int (bj I q (by simp))
  |str j=>obtain⟨t',rfl⟩:=ry;exact PySem.EqNone.ne_none_str (bj I q (by simp))
  |_=>exact absurd (show false=true from hs) Lc
 |bl i=>
  cases rx
  cases y with
  |non=>cases ry;exact PySem.EqNone.ne_bool_none (bj I q (by simp))
  |bl j=>cases ry;exact ne_bool (bj I q (congrArg not sR))
  |str j=>obtain⟨t',rfl⟩:=ry;exact QU (bj I q (by simp))
  |_=>exact absurd (show false=true from hs) Lc
 |int i=>
  obtain⟨t,rfl⟩:=rx
  cases y with
  |non=>cases ry;exact PySem.EqNone.ne_int_none (bj I q (by simp))
  |int j=>obtain⟨t',rfl⟩:=ry;exact ne_int (bj I q (congrArg not oQ))
  |str j=>obtain⟨t',rfl⟩:=ry;exact QR (bj I q (by simp))
  |_=>exact absurd (show false=true from hs) Lc
 |str i=>
  obtain⟨t,rfl⟩:=rx
  cases y with
  |non=>cases ry;exact PySem.EqNone.ne_str_none (bj I q (by simp))
  |bl j=>cases ry;exact QQ (bj I q (by simp))
  |int j=>obtain⟨t',rfl⟩:=ry;exact QP (bj I q (by simp))
  |str j=>obtain⟨t',rfl⟩:=ry;exact ne_str (bj I q (congrArg not oR))
  |_=>exact absurd (show false=true from hs) Lc
 |byt i=>
  obtain⟨t,rfl⟩:=rx
  cases y with
  |byt j=>obtain⟨t',rfl⟩:=ry;exact W.ne_bytes (bj I q (congrArg not oV))
  |_=>exact absurd (show false=true from hs) Lc
 |_=>cases y<;>exact absurd (show false=true from hs) Lc
theorem GW:OpR X (compareOp .Lt) (rI0 fun i j=>.bl (decide (i<j))):=uC fun _ _ _ _ _ _ _ q=>lt_int q
theorem DX:OpR X (compareOp .LtE) (rI0 fun i j=>.bl (decide (i<=j))):=uC fun _ _ _ _ _ _ _ q=>le_int q
theorem FC:OpR X (compareOp .Gt) (rI0 fun i j=>.bl (decide (j<i))):=uC fun _ _ _ _ _ _ _ q=>gt_int q
theorem zU:OpR X (compareOp .Is) (fun x y H Q=>y=.non/\Q (.bl (decide (x=.non))) H):=by
 intro pins s σ H x y v u Q I rx ry h
 obtain⟨rfl,q⟩:=h
 cases ry
 refine is_none_gen (bj I q ?_)
 cases x<;>first
  |(cases rx;rfl)
  |(obtain⟨t,rfl⟩:=rx;rfl)
theorem yi:OpR X (compareOp .IsNot) (fun x y H Q=>y=.non/\Q (.bl (!decide (x=.non))) H):=by
 intro pins s σ H x y v u Q I rx ry h
 obtain⟨rfl,q⟩:=h
 cases ry
 refine isnot_none_gen (bj I q ?_)
 cases x<;>first
  |(cases rx;rfl)
  |(obtain⟨t,rfl⟩:=rx;rfl)
theorem OpR.or {f:pv->pv->Sem pv}{r r':R2}(h:OpR X f r)(h':OpR X f r'):OpR X f (fun x y H Q=>r x y H Q\/r' x y H Q):=by
 intro pins s σ H x y v u Q I rx ry q
 rcases q with q|q
 ·exact h pins s σ H x y v u Q I rx ry q
 ·exact h' pins s σ H x y v u Q I rx ry q
theorem jX (b:Expr){op:PQ}(h:op≠.In:=by decide)(h2:op≠.NotIn:=by decide):behindInMarks op b=false:=by
 have e1:(op==CmpOp.In)=false:=by cases op<;>first|rfl|exact absurd rfl h
 have e2:(op==CmpOp.NotIn)=false:=by cases op<;>first|rfl|exact absurd rfl h2
 cases b<;>simp[behindInMarks,e1,e2]
theorem yG {op:PQ}{r:R2}(ho:OpR X (compareOp op) r)(ha:PE X a ta)(hb:PE X b tb)(hm:behindInMarks op b=false):PE X (.Compare a [op] [b] pos) (tOp r ta tb):=by
 intro pins s σ H Q I h
 exact wpAny_Compare1 (wa ha hb I h fun v u s2 x y H2 I2 rx ry q=>ho pins s2 σ H2 x y v u Q I2 rx ry q) hm
def Af (K:cW)(x:V)(H:Hp)(k:Bool):Prop:=
 match x with
 |.non=>k=false
 |.bl b=>k=b
 |.int i=>k=(i !=0)
 |.str y=>y.length<=sizeLine/\k=((y.length:Int) !=0)
 |.byt y=>y.size<=sizeLine/\k=((y.size:Int) !=0)
 |.ref p=>(∃xs,SqL K H p xs/\k= !xs.isEmpty)\/(∃xs,SqT K H p xs/\k= !xs.isEmpty)\/∃kvs,H p=some (.dK kvs)/\k= !kvs.isEmpty
 |_=>False
theorem pY {κ:Type}{kvs:List (κ×V)}{vs:List (κ×pv)}(r:KV kvs vs):(!vs.isEmpty)= !kvs.isEmpty:=by
 cases r<;>rfl
theorem jN {xs:List V}{its:List pv}(r:aU xs its):(!its.toArray.isEmpty)= !xs.isEmpty:=by
 cases r<;>simp
theorem gD:(sizeLine:Nat)<2^63:=by rw[Nl];decide
theorem CF:KD X (fun x H Q=>∃k,Af X.K x H k/\Q k H):=by
 intro pins s σ H x v Q I rx h
 obtain⟨k,e,q⟩:=h
 have hl:=gD
 have hs:sizeLine=16777216:=Nl
 cases x with
 |non=>
  cases rx
  have e':k=false:=e
  subst e'
  exact truthy_none ⟨H,I,q⟩
 |bl b=>
  cases rx
  have e':k=b:=e
  subst e'
  exact Mn ⟨H,I,q⟩
 |int i=>
  obtain⟨t,rfl⟩:=rx
  have e':k=(i !=0):=e
  subst e'
  exact PySem.P.truthy_int ⟨H,I,q⟩
 |str y=>
  obtain⟨t,rfl⟩:=rx
  obtain⟨hy,e'⟩:y.length<=sizeLine/\k=((y.length:Int) !=0):=e
  subst e'
  exact PySem.P.truthy_str (by omega) ⟨H,I.tok _,q⟩
 |byt y=>
  obtain⟨t,rfl⟩:=rx
  obtain⟨hy,e'⟩:y.size<=sizeLine/\k=((y.size:Int) !=0):=e
  subst e'
  exact W.truthy_bytes (by omega) ⟨H,I.tok _,q⟩
 |ref p=>
  cases rx
  have e':(∃xs,SqL X.K H p xs/\k= !xs.isEmpty)\/(∃xs,SqT X.K H p xs/\k= !xs.isEmpty)\/∃kvs,H p=some (.dK kvs)/\k= !kvs.isEmpty:=e
  rcases e' with⟨xs,hx,e'⟩|⟨xs,hx,e'⟩|⟨kvs,hx,e'⟩
  ·subst e'
   obtain⟨its,r,pl,hz⟩:=I.list hx
   have hlen:=r.length
   exact wpAny_truthy_list pl.isList (by simp only[KR];omega) ⟨H,I.tok _,by rw[jN r];exact q⟩
  ·subst e'
   obtain⟨its,r,pl,hz⟩:=I.tuple hx
   have hlen:=r.length
   exact truthy_tuple pl (by simp only[KR];omega) ⟨H,I.tok _,by rw[jN r];exact q⟩
  ·subst e'
   obtain⟨hz,hS,vs,r,m⟩:kvs.length<=sizeLine/\(p==sysModules)=false/\∃vs,KV kvs vs/\s.heap.DictOf (cG X.prog X.w) p vs:=I.hok p _ hx
   have hlen:kvs.length=vs.length:=Paired.length r
   exact wpAny_truthy_dict hS m (by omega) ⟨H,I.tok _,by rw[pY r];exact q⟩
 |_=>exact(show False from e).elim
theorem qj:OpR X (binaryOp .Add) (fun x y H Q=>∃i j,x=.str i/\y=.str j/\i.length+j.length<=sizeLine/\Q (.str (i++j)) H):=by
 intro pins s σ H x y v u Q I rx ry h
 obtain⟨i,j,rfl,rfl,hz,q⟩:=h
 obtain⟨t,rfl⟩:=rx
 obtain⟨t',rfl⟩:=ry
 exact add_str (fun t' tk=>⟨.str (i++j),H,I.tok _,⟨_,rfl⟩,q⟩) hz
theorem iG {x:V}{us:List pv}(r:aU [x] us):∃u,us=[u]/\aM x u:=by
 cases r with
 |cons r1 r2=>cases r2;exact⟨_,rfl,r1⟩
theorem ma {x y:V}{us:List pv}(r:aU [x,y] us):∃u w',us=[u,w']/\aM x u/\aM y w':=by
 cases r with
 |cons r1 r2=>
  cases r2 with
  |cons r3 r4=>cases r4;exact⟨_,_,rfl,r1,r3⟩
theorem rK (hc:X.calm=true):bP X (.builtin "max") (fun xs H Q=>∃i j,xs=[.int i,.int j]/\Q (.int (if j>i then j else i)) H):=by
 intro pins s σ H xs us Q I r h
 obtain⟨i,j,rfl,q⟩:=h
 obtain⟨u,w',rfl,⟨t,rfl⟩,⟨t',rfl⟩⟩:=ma r
 refine max_two_ints (I.ok.hd hc) fun h' tk k=>⟨_,H,I.kept k,?_,q⟩
 by_cases hj:j>i
 ·rw[if_pos hj,if_pos hj];exact⟨_,rfl⟩
 ·rw[if_neg hj,if_neg hj];exact⟨_,rfl⟩
theorem rT (hc:X.calm=true):bP X (.builtin "min") (fun xs H Q=>∃i j,xs=[.int i,.int j]/\Q (.int (if j<i then j else i)) H):=by
 intro pins s σ H xs us Q I r h
 obtain⟨i,j,rfl,q⟩:=h
 obtain⟨u,w',rfl,⟨t,rfl⟩,⟨t',rfl⟩⟩:=ma r
 refine min_two_ints (I.ok.hd hc) fun h' tk k=>⟨_,H,I.kept k,?_,q⟩
 by_cases hj:j<i
 ·rw[if_pos hj,if_pos hj];exact⟨_,rfl⟩
 ·rw[if_neg hj,if_neg hj];exact⟨_,rfl⟩
def Jo (K:cW)(x:V)(H:Hp)(n:Nat):Prop:=
 match x with
 |.str y=>y.length<=sizeLine/\n=y.length
 |.byt y=>y.size<=sizeLine/\n=y.size
 |.ref p=>(∃xs,SqL K H p xs/\n=xs.length)\/∃xs,SqT K H p xs/\n=xs.length
 |_=>False
theorem je:bP X (.builtin "len") (fun xs H Q=>∃x n,xs=[x]/\Jo X.K x H n/\Q (.int n) H):=by
 intro pins s σ H xs us Q I r h
 obtain⟨x,n,rfl,e,q⟩:=h
 obtain⟨u,rfl,rx⟩:=iG r
 have hl:=gD
 have hs:sizeLine=16777216:=Nl
 cases x with
 |str y=>
  obtain⟨t,rfl⟩:=rx
  obtain⟨hy,e'⟩:y.length<=sizeLine/\n=y.length:=e
  subst e'
  exact len_str (by omega) ⟨.int _,H,I.tok _,⟨_,rfl⟩,q⟩
 |byt y=>
  obtain⟨t,rfl⟩:=rx
  obtain⟨hy,e'⟩:y.size<=sizeLine/\n=y.size:=e
  subst e'
  exact W.len_bytes (by omega) ⟨.int _,H,I.tok _,⟨_,rfl⟩,q⟩
 |ref p=>
  cases rx
  have e':(∃xs,SqL X.K H p xs/\n=xs.length)\/∃xs,SqT X.K H p xs/\n=xs.length:=e
  rcases e' with⟨xs,hx,e'⟩|⟨xs,hx,e'⟩
  ·subst e'
   obtain⟨its,r',pl,hz⟩:=I.list hx
   have hlen:=r'.length
   exact Calls.call_len_list pl.isList (by simp only[KR];omega) ⟨.int xs.length,H,I.tok _,⟨_,by simp only[KR];rw[hlen]⟩,q⟩
  ·subst e'
   obtain⟨its,r',pl,hz⟩:=I.tuple hx
   have hlen:=r'.length
   exact len_tuple pl (by simp only[KR];omega) ⟨.int xs.length,H,I.tok _,⟨_,by simp only[KR];rw[hlen]⟩,q⟩
 |_=>exact(show False from e).elim
end
structure jn (h:Heap)(x dx C:Addr)(mA:Str->Option pv):Prop where
 obj:h.get? x=some (Mu C dx)
 ns:h.Ns1 dx mA
 ne:dx≠x
theorem sT {h:Heap}{dx:Addr}{mA:Str->Option pv}(n:h.Ns1 dx mA):∃od,h.get? dx=some od/\∀name,PZ name od=some (mA name):=by
 obtain⟨o,es,ep,ho,hd,hk,_,hm⟩:=n
 refine⟨o,ho,fun name=>?_⟩
 have e:=hm name
 unfold nsFind findBy at e
 rw[<-Array.find?_toList]at e
 unfold PZ
 rw[hd]
 dsimp only
 split
 ·rename_i y q
  rw[q]at e
  exact congrArg some e
 ·rename_i q
  rw[q]at e
  have a:es.toList.any (·.refKey)=false:=by
   rw[List.any_eq_false]
   intro y hy
   obtain⟨z,t,hkey⟩:=hk y (Array.mem_toList_iff.mp hy)
   simp[DictEntry.refKey,hkey]
  have a':¬es.toList.any (·.refKey)=true:=by rw[a];exact Lc
  rw[if_neg a']
  exact congrArg some e
theorem jn.look {h:Heap}{x dx C:Addr}{mA:Str->Option pv}(I:jn h x dx C mA):∃od,W.InstAt h x (Mu C dx) C (some od)/\∀name,PZ name od=some (mA name):=
 let ⟨od,ho,hl⟩:=sT I.ns
 ⟨od,⟨I.obj,rfl,rfl,ho⟩,hl⟩
section
variable {prog:Lf}{w:LA}{A:LC}{E:pv->Dc->Prop}{s:Dc}{K:cW}{x dx C f:Addr}{mA:Str->Option pv}{name:Str}{v:pv}
theorem yX {expr:Bool}{Q:pv->Dc->Prop}(X:K.In s.heap)(I:jn s.heap x dx C mA)(hg:LY K C name=true)(hh:LU K C=true)
  (ha:KI K (.ref C) name=some none)(hv:mA name=some v)(hv':OX v=true)(h:Q v {s with toks:=s.toks+1}):
  wpAny (model prog w) A (getAttr (.ref x) name expr) Q E s:=by
 obtain⟨od,J,hl⟩:=I.look
 exact W.get_value X J (Nv hg).1 (W.findObj_own hh ha rfl (by rw[hl,hv])) hv' h
theorem vA {pl:Sem Bool}{Q:pv×List pv->Dc->Prop}(X:K.In s.heap)(I:jn s.heap x dx C mA)(hg:LY K C name=true)
  (hf:KI K (.ref C) name=some (some (.ref f)))(ht:Lt K (.ref f)=true)(hv:mA name=none)(h:Q (.ref f,[.ref x]) s):
  wpAny (model prog w) A (getMethod (.ref x) name pl) Q E s:=by
 obtain⟨od,J,hl⟩:=I.look
 exact W.method_fn X J (Nv hg).1 (Nv hg).2 hf (beq_iff_eq.mp ht) (by show(PZ name od).map (·.isSome)=some false;rw[hl,hv];rfl) h
theorem yW {ns:List Str}{Q:Unit->Dc->Prop}(X:K.In s.heap)(I:jn s.heap x dx C mA)
  (hs:KI K (.ref C) "__setattr__"=some (some (.builtin "object.__setattr__")))(hp:LZ K C=true)(ht:QJ K C name=some none)(hh:LU K C=true)
  (hw:OS mA ns)(hsz:ns.length<=sizeLine)
  (h:∀h',jn h' x dx C (fun y=>if y=name then some v else mA y)->Nh dx s.heap h'->Q () {s with heap:=h',toks:=s.toks+2}):
  wpAny (model prog w) A (setAttr (.ref x) name v) Q E s:=by
 obtain⟨od,J,hl⟩:=I.look
 refine W.set_plain X J hs (W.osa_open (s:={s with toks:=s.toks+1}) (r:=none) X J hp ht fun b=>?_)
 obtain⟨cd,hc,hd'⟩:=W.any_some hh
 have hx:s.heap.get? x=some ⟨.ref C,some dx,.plain,#[]⟩:=I.obj
 refine KJ (La (KJ (KJ (wpAny_loadPart hx (KJ (W.Looks.here (s:={s with toks:=s.toks+1}) (W.looks_clsIn X hc) ?_))))))
 rw[hd']
 refine La (a:=some dx) (KJ (La (KJ ?_)))
 refine wpAny_nsSet1 (s:={s with toks:=s.toks+1}) I.ns fun h' hn2 hs2=>?_
 obtain⟨oD,esD,epD,hoD,hdD,hcD⟩:=hn2.count (PySem.Within.cons name v hw)
 refine KJ (wpAny_lookBehind hoD (by rw[hdD];exact pastItsLine_dict (Ll hcD (by rw[LO];omega))) ?_)
 exact La (h _ ⟨(hs2.2 _ (KP I.ne)).trans I.obj,hn2,I.ne⟩ hs2)
theorem tH {R:PN->Dc->Prop}{vs:List pv}{kw:List (Str×pv)}(X:K.In s.heap)(hm:Mt K C=true)
  (hi:KI K (.ref C) "__init__"=some (some (.ref f)))(hf:W.typeIn K (.ref f)=some (.type "function"))
  (h:codeAny (model prog w) (A.under (.builtin "type.__call__" ⟨.ref C::vs,kw⟩)) (.call (.ref f) ⟨.ref (s.heap.objs.size+1)::vs,kw⟩) (W.InitBack (s.heap.objs.size+1) R)
   {s with heap:=(s.heap.push LV).push (Mu C s.heap.objs.size)}):
  codeAny (model prog w) A (.call (.ref C) ⟨vs,kw⟩) R s:=by
 obtain⟨hh,g,d,t,os⟩:=s
 exact W.make_core (Qh X hm) (W.looks_findIn X hi) (fun self=>W.bind_fn X self hf) (.inl rfl) h
theorem rM {R:PN->Dc->Prop}(X:K.In s.heap)(hm:Mt K C=true)
  (hi:KI K (.ref C) "__init__"=some (some (.builtin "object.__init__")))
  (hb:∀self,W.Looks (model prog w) s.heap (bindSpecial (.builtin "object.__init__") self) (.builtin "object.__init__",[self]))
  (h:codeAny (model prog w) (A.under (.builtin "type.__call__" ⟨[.ref C],[]⟩)) (.call (.builtin "object.__init__") ⟨[.ref (s.heap.objs.size+1)],[]⟩) (W.InitBack (s.heap.objs.size+1) R)
   {s with heap:=(s.heap.push LV).push (Mu C s.heap.objs.size)}):
  codeAny (model prog w) A (.call (.ref C) ⟨[],[]⟩) R s:=by
 obtain⟨hh,g,d,t,os⟩:=s
 exact W.make_core (Qh X hm) (W.looks_findIn X hi) hb (.inr ⟨rfl,rfl⟩) h
end
def aX (f:Str)(v:V):List (Str×V)->List (Str×V)
 |[]=>[(f,v)]
 |(g,x)::r=>if g=f then(g,v)::r else(g,x)::aX f v r
theorem iS (f g:Str)(v:V):∀fs:List (Str×V),(aX f v fs).lookup g=if g=f then some v else fs.lookup g
 |[]=>by
  show Me g [(f,v)]=_
  by_cases h:g=f
  ·have hb:(g==f)=true:=beq_iff_eq.mpr h
   simp only[Me,hb,if_pos h]
  ·have hb:(g==f)=false:=beq_eq_false_iff_ne.mpr h
   simp only[Me,hb,if_neg h]
 |(k,x)::r=>by
  have ih:=iS f g v r
  rw[show aX f v ((k,x)::r)=(if k=f then(k,v)::r else(k,x)::aX f v r)from rfl]
  by_cases hk:k=f
  ·rw[if_pos hk]
   by_cases h:g=k
   ·have hb:(g==k)=true:=beq_iff_eq.mpr h
    simp only[Me,hb,if_pos (h.trans hk)]
   ·have hb:(g==k)=false:=beq_eq_false_iff_ne.mpr h
    simp only[Me,hb,if_neg (fun e:g=f=>h (e.trans hk.symm))]
  ·rw[if_neg hk]
   by_cases h:g=k
   ·have hb:(g==k)=true:=beq_iff_eq.mpr h
    simp only[Me,hb,if_neg (fun e:g=f=>hk (h.symm.trans e))]
   ·have hb:(g==k)=false:=beq_eq_false_iff_ne.mpr h
    simp only[Me,hb]
    exact ih
theorem ik (f:Str)(v:V):∀fs:List (Str×V),f∈(aX f v fs).map (·.1)/\∀g,g∈fs.map (·.1)->g∈(aX f v fs).map (·.1)
 |[]=>⟨by simp[aX],fun g h=>by simp at h⟩
 |(k,x)::r=>by
  obtain⟨i1,i2⟩:=ik f v r
  rw[show aX f v ((k,x)::r)=(if k=f then(k,v)::r else(k,x)::aX f v r)from rfl]
  by_cases hk:k=f
  ·rw[if_pos hk]
   subst hk
   exact⟨by simp,fun g h=>by simpa using h⟩
  ·rw[if_neg hk]
   refine⟨?_,fun g h=>?_⟩
   ·rw[LJ]
    exact Lb _ i1
   ·rw[LJ]at h⊢
    rcases If.mp h with e|e
    ·exact If.mpr (.inl e)
    ·exact Lb _ (i2 g e)
theorem iU (f:Str)(v:V):∀fs:List (Str×V),(aX f v fs).length<=fs.length+1
 |[]=>by simp[aX]
 |(k,x)::r=>by
  have ih:=iU f v r
  rw[show aX f v ((k,x)::r)=(if k=f then(k,v)::r else(k,x)::aX f v r)from rfl]
  by_cases hk:k=f
  ·rw[if_pos hk,LO,LO];omega
  ·rw[if_neg hk,LO,LO];omega
theorem er.some_of {v:V}{o:Option pv}(r:er (some v) o):∃u,o=some u/\aM v u:=by
 cases o with
 |none=>exact(show False from r).elim
 |some u=>exact⟨u,rfl,r⟩
theorem er.none_of {o:Option pv}(r:er none o):o=none:=by
 cases o with
 |none=>rfl
 |some u=>exact(show False from r).elim
theorem rq {v:V}{u:pv}(r:aM v u):OX u=true:=by
 cases v with
 |non=>cases (show u=NV from r);rfl
 |bl b=>cases (show u=Mz b from r);rfl
 |int i=>obtain⟨t,e⟩:=(show ∃t,u=Ol i t from r);cases e;rfl
 |str x=>obtain⟨t,e⟩:=(show ∃t,u=NN x t from r);cases e;rfl
 |byt b=>obtain⟨t,e⟩:=(show ∃t,u=QL b t from r);cases e;rfl
 |flt b=>obtain⟨t,e⟩:=(show ∃t,u=Pg b t from r);cases e;rfl
 |ref a=>cases (show u=Lo a from r);rfl
 |ty n=>cases (show u=Value.type n from r);rfl
section
variable {P:Lf}{w:LA}{H H':Hp}{h h':Heap}{a C dx:Addr}{fs fs':List (Str×V)}
theorem fx (hok:HOk P w H h)(e:H a=some (.ins C dx fs)):∃mA,jn h a dx C mA/\(∀f,er (fs.lookup f) (mA f))/\OS mA (fs.map (·.1))/\fs.length<=1000/\H dx=some (.own a):=by
 obtain⟨d,z,ne,ob,mA,n,r,q⟩:=(show bh P w H h a (.ins C dx fs)from hok a _ e)
 exact⟨mA,⟨ob,n,ne⟩,r,q,z,d⟩
end
structure Cls (K:cW)(C:Addr):Prop where
 pg:LY K C MH=true
 hd:LU K C=true
 po:LZ K C=true
 sa:KI K (.ref C) "__setattr__"=some (some (.builtin "object.__setattr__"))
theorem Cls.get {K:cW}{C:Addr}(c:Cls K C)(f:Str):LY K C f=true:=c.pg
def aV (K:cW)(C:Addr)(f:Str):Prop:=KI K (.ref C) f=some none
theorem aV.taker {K:cW}{C:Addr}{f:Str}(n:aV K C f):QJ K C f=some none:=by
 unfold QJ
 rw[show KI K (.ref C) f=some none from n]
 rfl
structure bq (K:cW)(C:Addr)(m:Str)(f:Addr):Prop where
 at_:KI K (.ref C) m=some (some (.ref f))
 fn:Lt K (.ref f)=true
 kp:Mg K (.ref f)=true
section
variable {X:Cx}{pins:List (Addr×Obj)}{σ:St}{H:Hp}{s:Dc}{a C dx:Addr}{fs:List (Str×V)}{f:Str}{v:V}{A:LC}{E:pv->Dc->Prop}
theorem jH {b:Bool}{Q:pv->Dc->Prop}(I:Inv X pins σ H s)(e:H a=some (.ins C dx fs))(c:Cls X.K C)(n:aV X.K C f)(l:fs.lookup f=some v)
  (h:∀u s',Inv X pins σ H s'->aM v u->Q u s'):wpAny (model X.prog X.w) A (getAttr (.ref a) f b) Q E s:=by
 obtain⟨mA,O,r,_,_,_⟩:=fx I.hok e
 obtain⟨u,hu,ru⟩:=er.some_of (v:=v) (o:=mA f) (by rw[<-l];exact r f)
 exact yX I.kIn O (c.get f) c.hd n hu (rq ru) (h u _ (I.tok _) ru)
theorem gL {m:Str}{g:Addr}{pl:Sem Bool}{Q:pv×List pv->Dc->Prop}(I:Inv X pins σ H s)(e:H a=some (.ins C dx fs))(c:Cls X.K C)(k:bq X.K C m g)(l:fs.lookup m=none)
  (h:Q (.ref g,[.ref a]) s):wpAny (model X.prog X.w) A (getMethod (.ref a) m pl) Q E s:=by
 obtain⟨mA,O,r,_,_,_⟩:=fx I.hok e
 have hn:mA m=none:=er.none_of (by rw[<-l];exact r m)
 exact vA I.kIn O (c.get m) k.at_ k.fn hn h
theorem qT {y:V}{u:pv}{Q:Unit->Dc->Prop}(I:Inv X pins σ H s)(e:H a=some (.ins C dx fs))(c:Cls X.K C)(n:aV X.K C f)(hl:fs.length<1000)(ry:aM y u)
  (h:∀s',Inv X pins σ (upd H a (.ins C dx (aX f y fs))) s'->Q () s'):wpAny (model X.prog X.w) A (setAttr (.ref a) f u) Q E s:=by
 obtain⟨mA,O,r,wi,_,ho⟩:=fx I.hok e
 have hz:(fs.map (·.1)).length<=sizeLine:=by rw[Lq,Nl];omega
 refine yW I.kIn O c.sa c.po n.taker c.hd wi hz fun h' O' sb=>h _ ?_
 have hd:∃o,h'.get? dx=some o:=let ⟨o,_,_,e',_⟩:=O'.ns;⟨o,e'⟩
 refine I.write (x:=a) (e:=dx) (by rw[e];exact MB) (.inr ho) (fun b q hb z=>(sb.2 b hb).trans z) hd ?_
 refine⟨by rw[am O.ne];exact ho,?_,O.ne,O'.obj,_,O'.ns,fun g=>?_,fun g hg=>?_⟩
 ·have:=iU f y fs;omega
 ·show er ((aX f y fs).lookup g) (if g=f then some u else mA g)
  rw[iS]
  by_cases q:g=f
  ·rw[if_pos q,if_pos q];exact ry
  ·rw[if_neg q,if_neg q];exact r g
 ·by_cases q:g=f
  ·rw[q];exact(ik f y fs).1
  ·refine(ik f y fs).2 g (wi g fun z=>hg ?_)
   show(if g=f then some u else mA g)=none
   rw[if_neg q];exact z
theorem Inv.made (I:Inv X pins σ H s):Inv X pins σ (upd (upd H s.heap.objs.size (.own (s.heap.objs.size+1))) (s.heap.objs.size+1) (.ins C s.heap.objs.size []))
  {s with heap:=(s.heap.push LV).push (Mu C s.heap.objs.size)}:=by
 have e1:(s.heap.push LV).get? s.heap.objs.size=some LV:=Lg s.heap rfl
 have e2:((s.heap.push LV).push (Mu C s.heap.objs.size)).get? (s.heap.objs.size+1)=some (Mu C s.heap.objs.size):=by
  have:=Lg (s.heap.push LV) (o:=Mu C s.heap.objs.size) rfl
  rwa [OD]at this
 have e3:(s.heap.push LV).Ns s.heap.objs.size (fun _=>none):=⟨LV,#[],_,e1,rfl,(fun e he=>absurd he (by simp)),fun _=>rfl⟩
 have I1:=I.laid (a:=s.heap.objs.size) (o:=.own (s.heap.objs.size+1)) (h':=s.heap.push LV) (t':=s.toks) (fun b u q=>wr _ q) (gV _) ⟨_,e1⟩
 refine I1.laid (a:=s.heap.objs.size+1) (o:=.ins C s.heap.objs.size []) (t':=s.toks) (fun b u q=>wr _ q) (NA (OD _ _)) ?_
 have ne:s.heap.objs.size≠s.heap.objs.size+1:=Ld (Om _)
 refine⟨by rw[am ne,af],Li _,ne,e2,fun _=>none,(Heap.Ns1.of_empty e3).at fun o q=>wr _ q,fun _=>MB,fun y hy=>absurd rfl hy⟩
theorem yg {prog:Lf}{w:LA}{env:Env}{e:Expr}{f:Str}{pos:Pos}{s:Dc}{Q:pv->Dc->Prop}(hb:attributeBase e f env (eval e env)=eval e env)
  (h:wpAny (model prog w) A (eval e env) (fun o s₁=>wpAny (model prog w) A (getAttr o f true) Q E s₁) E s):wpAny (model prog w) A (eval (.Attribute e f pos) env) Q E s:=
 Attribute_any_ h (by rw[arm_eval_Attribute,hb])
end
def aE (K:cW)(ta:TE)(f:Str):TE:=fun σ H Q=>ta σ H fun x H1=>∃a C dx fs v,x=.ref a/\H1 a=some (.ins C dx fs)/\Cls K C/\aV K C f/\fs.lookup f=some v/\Q v H1
def cL (K:cW)(ta tv:TE)(f:Str):TS:=fun D σ H=>tv σ H fun y H1=>ta σ H1 fun x H2=>∃a C dx fs,x=.ref a/\H2 a=some (.ins C dx fs)/\Cls K C/\aV K C f/\fs.length<1000/\
 D.nx σ (upd H2 a (.ins C dx (aX f y fs)))
section
variable {X:Cx}{o e value:Expr}{f:Str}{pos pos' tpos:Pos}{ta tv:TE}
theorem BC (he:PE X e ta)(hb:attributeBase e f X.env (eval e X.env)=eval e X.env):PE X (.Attribute e f pos) (aE X.K ta f):=by
 intro pins s σ H Q I h
 refine yg hb (thn (he pins s σ H _ I h) fun u s1 ⟨x,H1,I1,rx,a,C,dx,fs,v,ex,ea,c,n,l,q⟩=>?_)
 subst ex
 obtain rfl:u=Lo a:=rx
 exact jH I1 ea c n l fun u' s2 I2 ru=>⟨v,H1,I2,ru,q⟩
theorem Ci (ha:PE X o ta)(hv:PE X value tv)(hs:swapsWith value (some (.Attribute o f pos')) pos.line X.env=pure false):PS X (.Assign [.Attribute o f pos'] value pos) (cL X.K ta tv f):=by
 intro pins s σ H D I h
 refine plainObj_wpAny_Assign_Attribute (thn (hv pins s σ H _ I h) fun u s1 ⟨y,H1,I1,ry,q⟩=>thn (ha pins s1 σ H1 _ I1 q) fun ov s2 ⟨x,H2,I2,rx,a,C,dx,fs,ex,ea,c,n,l,q2⟩=>?_) hs
 subst ex
 obtain rfl:ov=Lo a:=rx
 exact qT I2 ea c n l ry fun s3 I3=>⟨σ,_,I3,q2⟩
end
section
variable {X:Cx}{pins:List (Addr×Obj)}{σ:St}{H:Hp}{s:Dc}{A:LC}{E:pv->Dc->Prop}{Q:pv->Dc->Prop}{c:pv}{b:Bool}
inductive eU (K:cW)(H:Hp):V->pv->Prop where
 |non:eU K H .non (.type "NoneType")
 |bl (x:Bool):eU K H (.bl x) (.type "bool")
 |int (i:Int):eU K H (.int i) (.type "int")
 |str (x:Str):eU K H (.str x) (.type "str")
 |flt (x:UInt64):eU K H (.flt x) (.type "float")
 |lst {a:Addr} {xs:List V} (e:H a=some (.lst xs)):eU K H (.ref a) (.type "list")
 |frz {a:Addr} {o:Obj} {xs:List V} (e:H a=some (.frz o (.lst xs))):eU K H (.ref a) (.type "list")
 |tup {a:Addr} {xs:List V} (e:H a=some (.tup xs)):eU K H (.ref a) (.type "tuple")
 |dK {a:Addr} {kvs:List (Key×V)} (e:H a=some (.dK kvs)):eU K H (.ref a) (.type "dict")
 |dT {a:Addr} {kvs:List (List Key×V)} (e:H a=some (.dT kvs)):eU K H (.ref a) (.type "dict")
 |ins {a C dx:Addr} {fs:List (Str×V)} (e:H a=some (.ins C dx fs)) (cl:Cls K C) (ha:KI K (.ref C) "__class__"=some (some (.builtin "object.__class__")))
  (hn:NU K (.builtin "object.__class__") "__get__"=some (some (.builtin "getset_descriptor.__get__"))) (htk:QH K (.builtin "object.__class__")=some true)
  (hm:OL K C (.type "object")=some true):eU K H (.ref a) (.ref C)
theorem sh {x:V}{u t:pv}(I:Inv X pins σ H s)(rx:aM x u)(ty:eU X.K H x t)(e:MF X.K t c=some b)(h:∀tk,Q (.bool b) {s with toks:=tk}):
  wpAny (model X.prog X.w) A (call (.builtin "isinstance") [u,c]) Q E s:=by
 cases ty with
 |non=>cases (show u=NV from rx);exact MK W.kitx_none I.kIn MB e (fun z=>nomatch z) h
 |bl y=>cases (show u=Mz y from rx);exact MK W.kitx_bool I.kIn MB e (fun z=>nomatch z) h
 |int i=>obtain⟨t,q⟩:=(show ∃t,u=Ol i t from rx);cases q;exact MK W.kitx_int I.kIn MB e (fun z=>nomatch z) h
 |str y=>obtain⟨t,q⟩:=(show ∃t,u=NN y t from rx);cases q;exact MK W.kitx_str I.kIn MB e (fun z=>nomatch z) h
 |flt y=>obtain⟨t,q⟩:=(show ∃t,u=Pg y t from rx);cases q;exact MK W.kitx_float I.kIn MB e (fun z=>nomatch z) h
 | @lst a xs ea=>
   cases (show u=Lo a from rx)
   obtain⟨_,_,n,_,h1⟩:=(show bh X.prog X.w H s.heap a (.lst xs)from I.hok a _ ea)
   exact MK W.kitx_list I.kIn ⟨_,h1,rfl⟩ e (fun z=>nomatch z) h
 | @frz a ob xs ea=>
   cases (show u=Lo a from rx)
   obtain⟨_,_,_,n,_,h1⟩:=(show bh X.prog X.w H s.heap a (.frz ob (.lst xs))from I.hok a _ ea)
   exact MK W.kitx_list I.kIn ⟨_,h1,rfl⟩ e (fun z=>nomatch z) h
 | @tup a xs ea=>
   cases (show u=Lo a from rx)
   obtain⟨_,_,_,p⟩:=(show bh X.prog X.w H s.heap a (.tup xs)from I.hok a _ ea)
   obtain⟨o,h1,h2,_⟩:=p
   exact MK W.kitx_tuple I.kIn ⟨o,h1,h2⟩ e (fun z=>nomatch z) h
 | @dK a kvs ea=>
   cases (show u=Lo a from rx)
   obtain⟨_,_,vs,_,p⟩:=(show bh X.prog X.w H s.heap a (.dK kvs)from I.hok a _ ea)
   obtain⟨o,es,ep,h1,h2,_⟩:=p
   exact MK W.kitx_dict I.kIn ⟨o,h1,h2.1⟩ e (fun z=>nomatch z) h
 | @dT a kvs ea=>
   cases (show u=Lo a from rx)
   obtain⟨_,_,xs,_,o,es,ep,h1,h2,_⟩:=(show bh X.prog X.w H s.heap a (.dT kvs)from I.hok a _ ea)
   exact MK W.kitx_dict I.kIn ⟨o,h1,h2.1⟩ e (fun z=>nomatch z) h
 | @ins a C dx fs ea cl ha hn htk hm=>
   cases (show u=Lo a from rx)
   obtain⟨mA,O,_⟩:=fx I.hok ea
   obtain⟨od,J,_⟩:=O.look
   exact MK (W.kitx_own (cl.get _) cl.hd ha hn htk hm) I.kIn J e (fun z=>nomatch z) h
end
structure be (k:Nat)(A:LC):Prop where
 hd:A.handled=none
 dp:A.depth+3*k+5<recursionLimit
 un:A.units+16*k+200<cLine
theorem be.mono {j k:Nat}{A:LC}(r:be k A)(h:j<=k):be j A:=⟨r.hd,by have:=r.dp;omega,by have:=r.un;omega⟩
theorem be.deeper {k:Nat}{A:LC}(r:be (k+1) A)(env:Env):be k (A.deeper env):=
 ⟨r.hd,by have:=r.dp;show A.depth+1+3*k+5<_;omega,by have:=r.un;show A.units+3+16*k+200<_;omega⟩
theorem qr {A:LC}{C:Addr}{us:List pv}{kw:List (Str×pv)}:(A.under (.builtin "type.__call__" ⟨.ref C::us,kw⟩)).depth=A.depth+1:=by
 first|rfl|simp[OO,Code.weight,Code.isCreation,Code.isGuard,Code.isCaller,Code.frames,OY,guardIds]
theorem qP {A:LC}{C:Addr}{us:List pv}{kw:List (Str×pv)}:(A.under (.builtin "type.__call__" ⟨.ref C::us,kw⟩)).units=A.units+1:=by
 first|rfl|simp[OO,Code.cUnits,Code.frames,OY]
theorem be.make {k:Nat}{A:LC}(r:be (k+1) A)(C:Addr)(us:List pv)(kw:List (Str×pv)):be k (A.under (.builtin "type.__call__" ⟨.ref C::us,kw⟩)):=
 ⟨r.hd,by have:=r.dp;rw[qr];omega,by have:=r.un;rw[qP];omega⟩
theorem be.depth {k:Nat}{A:LC}(r:be k A):A.depth<recursionLimit:=by have:=r.dp;omega
def ai:TA:=fun _ H Q=>Q [] H
def ac (ta:TE)(tr:TA):TA:=fun σ H Q=>ta σ H fun x H1=>tr σ H1 fun xs H2=>Q (x::xs) H2
section
variable {X:Cx}{e:Expr}{es:List Expr}{te:TE}{t:TA}{pos:Pos}
theorem BZ:PA X [] ai:=fun _ _ _ _ H Q I h=>Calls.spliced_nil ⟨[],H,I,.nil,h⟩
theorem yy (ha:PE X e te)(hr:PA X es t)(hs:starEach (e::es) X.env=(false,eval e X.env)::starEach es X.env:=by rfl):PA X (e::es) (ac te t):=by
 intro pos pins s σ H Q I h
 rw[hs]
 show wpAny _ _ (spliced ((false,eval e X.env)::backTo pos (starEach es X.env))) _ _ s
 refine Calls.spliced_cons (thn (ha pins s σ H _ I h) fun u s1 ⟨x,H1,I1,r1,q1⟩=>?_)
 exact thn (hr pos pins s1 σ H1 _ I1 q1) fun us s2 ⟨xs,H2,I2,r2,q2⟩=>⟨x::xs,H2,I2,.cons r1 r2,q2⟩
def bv (t:TA):TE:=fun σ H Q=>t σ H fun xs H1=>xs.length<=sizeLine/\∀p,H1 p=none->Q (.ref p) (upd H1 p (.tup xs))
def cC (t:TA):TE:=fun σ H Q=>t σ H fun xs H1=>xs.length<=sizeLine/\∀p,H1 p=none->Q (.ref p) (upd H1 p (.lst xs))
theorem Bv {x1}(h:PA X es t):PE X (.Tuple es x1 pos) (bv t):=by
 intro pins s σ H Q I hq
 refine wpAny_Tuple_spliced (thn (h pos pins s σ H _ I hq) fun us s1 ⟨xs,H1,I1,r,z,q⟩=>⟨by rw[<-r.length];exact z,?_⟩)
 have hf:H1 s1.heap.objs.size=none:=I1.hok.fresh (gV _)
 refine⟨.ref s1.heap.objs.size,upd H1 s1.heap.objs.size (.tup xs),I1.laid (t':=s1.toks) (fun b u e=>wr _ e) (gV _) ?_,rfl,q _ hf⟩
 exact⟨z,us,r,⟨_,Lg _ rfl,rfl,_,rfl⟩⟩
theorem CJ (h:PA X es t):PE X (.List es pos) (cC t):=by
 intro pins s σ H Q I hq
 refine wpAny_List_spliced (thn (h pos pins s σ H _ I hq) fun us s1 ⟨xs,H1,I1,r,z,q⟩=>⟨by rw[<-r.length];exact z,?_⟩)
 have hf:H1 s1.heap.objs.size=none:=I1.hok.fresh (gV _)
 refine⟨.ref s1.heap.objs.size,upd H1 s1.heap.objs.size (.lst xs),I1.laid (t':=s1.toks) (fun b u e=>wr _ e) (gV _) ?_,rfl,q _ hf⟩
 exact⟨z,us,0,r,Lg _ rfl⟩
end
abbrev Sp:=List V->Hp->VK->XK->Prop
abbrev CXT:=List Env->Hp->Dc->XK->pv->Dc->Prop
structure fU (P:Lf)(w:LA)(K:cW)(mg:Str->Option pv)(base:Heap)(A:LC)(outer:List Env)(s:Dc)(H:Hp):Prop where
 frames:A.frames=some outer
 mod:Mod K mg base
 bs:∀b o,base.get? b=some o->s.heap.get? b=some o/\H b=none
 bsz:base.objs.size<=s.heap.objs.size
 funs:s.heap.FunFrames base outer
 frf:∀b∈frs outer,H b=none
 hok:HOk P w H s.heap
 bare:Nz s.gens
def CE (outer:List Env)(P:Lf)(w:LA)(H:Hp)(s:Dc)(Q:VK)(u:pv)(s':Dc):Prop:=
 ∃v H',s'.os=s.os/\Nz s'.gens/\Un (frs outer) [] H H' s.heap s'.heap/\HOk P w H' s'.heap/\aM v u/\Q v H'
def CR (CX:CXT)(outer:List Env)(P:Lf)(w:LA)(H:Hp)(s:Dc)(Q:VK)(E:XK)(r:PN)(s':Dc):Prop:=
 match r with
 |.ok (.ret u)=>CE outer P w H s Q u s'
 |.ok _=>False
 |.error e=>CX outer H s E e s'
structure aA (P:Lf)(w:LA)(K:cW)(mg:Str->Option pv)(base:Heap)(CX:CXT)(k:Nat)(f:Addr)(fd:Gt)(ps:List Str)(sp:Sp):Prop where
 len:∀vs H Q E,sp vs H Q E->vs.length=ps.length
 run:∀(A:LC)(outer:List Env)(s:Dc)(H:Hp)(args:Args)(us:List pv)(vs:List V)(Q:VK)(E:XK),be k A->fU P w K mg base A outer s H->Pu s fd args (ps.zip us)->aU vs us->sp vs H Q E->
  codeAny (model P w) A (.call (.ref f) args) (CR CX outer P w H s Q E) s
theorem fU.make {P:Lf}{w:LA}{K:cW}{mg:Str->Option pv}{base:Heap}{A:LC}{outer:List Env}{s:Dc}{H:Hp}(e:fU P w K mg base A outer s H)(C:Addr)(us:List pv)(kw:List (Str×pv)):
 fU P w K mg base (A.under (.builtin "type.__call__" ⟨.ref C::us,kw⟩)) outer s H:=⟨by first|exact e.frames|(simpa[OO,Code.envs,OY,pushEnvs]using e.frames),e.mod,e.bs,e.bsz,e.funs,e.frf,e.hok,e.bare⟩
section
variable {X:Cx}{pins:List (Addr×Obj)}{σ:St}{H:Hp}{s s':Dc}
theorem Inv.env0 (I:Inv X pins σ H s):fU X.prog X.w X.K X.mg X.base X.A X.stack s H:=
 ⟨I.ok.frames,I.ok.mod,I.bs,Ll I.ok.bsz I.sz,I.stack,I.stkFree,I.hok,I.bare⟩
theorem Inv.after {Q:VK}{u:pv}(I:Inv X pins σ H s)(h:CE X.stack X.prog X.w H s Q u s'):EP X pins σ Q u s':=by
 obtain⟨v,H',os,bare,un,hok,r,q⟩:=h
 obtain⟨hh,g,d,t,os'⟩:=s'
 obtain rfl:os'=s.os:=os
 exact⟨v,H',I.call (h':=hh) (g':=g) (d':=d) (t':=t) (ch:=[]) un hok bare (fun b z=>absurd z (by simp)),r,q⟩
end
def aF (K:cW)(fd:Gt)(ps:List Str)(ds:List pv):Prop:=
 ∀(s:Dc)(us:List pv),K.In s.heap->(us++ds).length=ps.length->Pu s fd ⟨us,[]⟩ (ps.zip (us++ds))
theorem aF.all {K:cW}{fd:Gt}{ps:List Str}(h:∀us:List pv,us.length=ps.length->bindArgs fd ⟨us,[]⟩=pure (ps.zip us)):aF K fd ps []:=fun s us _ hl=>by
 rw[LX]at hl⊢
 exact .of_eq (h us hl)
section
variable {X:Cx}{CX:CXT}{k:Nat}{f C:Addr}{fd:Gt}{ps:List Str}{sp:Sp}{dvs:List V}{ds:List pv}{E:XK}{x m:Str}{p pos apos:Pos}{e o:Expr}{es:List Expr}{ta:TE}{t:TA}
structure Mk (K:cW)(C f:Addr):Prop where
 makes:Mt K C=true
 init:KI K (.ref C) "__init__"=some (some (.ref f))
 fn:Lt K (.ref f)=true
 kp:Mg K (.ref C)=true
end
structure au (N P:List Str)(sc:Scope):Prop where
 kind:sc.kind=.function
 co:sc.isCoroutine=false
 gen:sc.isGenerator=false
 nd:N.Nodup
 pre:N.take P.length=P
 par:∀x∈P,sc.names.lookup x=some .local\/sc.names.lookup x=some .cell
 nofree:∀y∈sc.names,y.2≠.free
theorem la {kindOf:Str->Option Mm}{x:Str}:∀{binds:List (Str×pv)}{m:Str->Option pv},(∀v,(x,v)∉binds)->bindL kindOf binds m x=m x
 |[],_,_=>rfl
 |(n,v)::r,m,h=>by
  unfold bindL
  rw[la fun w hw=>h w (Lb _ hw)]
  split
  ·have:x≠n:=by rintro rfl;exact h v Lj
   simp[this]
  ·rfl
theorem lb {kindOf:Str->Option Mm}{x:Str}:∀{binds:List (Str×pv)}{m:Str->Option pv},(∀v,(x,v)∉binds)->bindC kindOf binds m x=m x
 |[],_,_=>rfl
 |(n,v)::r,m,h=>by
  unfold bindC
  rw[lb fun w hw=>h w (Lb _ hw)]
  split
  ·rfl
  ·have:x≠n:=by rintro rfl;exact h v Lj
   simp[this]
theorem lp {kindOf:Str->Option Mm}{x:Str}{v:pv}:∀{P:List Str}{vs:List pv}{i:Nat}{m:Str->Option pv},P.Nodup->P[i]? =some x->vs[i]? =some v->kindOf x=some .local->
  bindL kindOf (P.zip vs) m x=some v
 |[],_,_,_,_,h,_,_=>by simp at h
 |_::_,[],_,_,_,_,h,_=>by simp at h
 |p::P,w::vs,0,m,nd,h1,h2,hk=>by
  simp at h1 h2;subst h1;subst h2
  show bindL kindOf ((p,w)::P.zip vs) m p=_
  unfold bindL
  rw[la fun v hv=>(Lv.mp nd).1 (Mx hv).1,if_pos hk]
  simp
 |p::P,w::vs,i+1,m,nd,h1,h2,hk=>by
  show bindL kindOf ((p,w)::P.zip vs) m x=_
  unfold bindL
  exact lp (i:=i) (Lv.mp nd).2 (by simpa using h1) (by simpa using h2) hk
theorem lf {kindOf:Str->Option Mm}{x:Str}{v:pv}:∀{P:List Str}{vs:List pv}{i:Nat}{m:Str->Option pv},P.Nodup->P[i]? =some x->vs[i]? =some v->kindOf x≠some .local->
  bindC kindOf (P.zip vs) m x=some v
 |[],_,_,_,_,h,_,_=>by simp at h
 |_::_,[],_,_,_,_,h,_=>by simp at h
 |p::P,w::vs,0,m,nd,h1,h2,hk=>by
  simp at h1 h2;subst h1;subst h2
  show bindC kindOf ((p,w)::P.zip vs) m p=_
  unfold bindC
  rw[lb fun v hv=>(Lv.mp nd).1 (Mx hv).1,if_neg hk]
  simp
 |p::P,w::vs,i+1,m,nd,h1,h2,hk=>by
  show bindC kindOf ((p,w)::P.zip vs) m x=_
  unfold bindC
  exact lf (i:=i) (Lv.mp nd).2 (by simpa using h1) (by simpa using h2) hk
def bV (N:List Str)(vs:List V):St:=vs.map some++Qn (N.length- vs.length) none
def fh (CX:CXT)(P:Lf)(w:LA)(K:cW)(mg:Str->Option pv)(base:Heap)(N:List Str)(qual:Str)(scope:Scope)(f:Addr)(cd:pv)(A:LC)(outer:List Env)(s:Dc)(H:Hp)(E:XK):Cx where
 prog:=P
 w:=w
 K:=K
 mg:=mg
 base:=base
 A:=A.deeper (envOfC qual scope s.heap.objs.size f cd)
 N:=N
 s₀:=s
 H₀:=H
 env:=envOfC qual scope s.heap.objs.size f cd
 outer:=outer
 stack:=envOfC qual scope s.heap.objs.size f cd::outer
 ex:=[]
 calm:=true
 fn:=fun _=>true
 pn:=[]
 xe:=fun e s'=>wpAny (model P w) (A.deeper (envOfC qual scope s.heap.objs.size f cd)) (leaving (envOfC qual scope s.heap.objs.size f cd) e) (fun _ s''=>CX outer H s E e s'') (fun e' s''=>CX outer H s E e' s'') s'
theorem nG {sc:Scope}{n:Nat}{x:Str}(h:sc.names.lookup x=some .cell):∃c,(cellsFrom n sc.names []).lookup x=some c:=by
 have q:=Ox sc.names n [] (.inl h)
 exact Ly.mp q
theorem lq {CX:CXT}{P:Lf}{w:LA}{K:cW}{mg:Str->Option pv}{base:Heap}{N ps:List Str}{qual:Str}{scope:Scope}{f:Addr}{cd:pv}{A:LC}{outer:List Env}{s s1:Dc}{H:Hp}{E:XK}{us:List pv}{vs:List V}
  (S:au N ps scope)(hd:A.handled=none)(e0:fU P w K mg base A outer s H)(hl:vs.length=ps.length)(r:aU vs us)
  (x:InCallC s s.heap.objs.size (bindL (envOfC qual scope s.heap.objs.size f cd).kindOf (ps.zip us) fun _=>none) (cellsFrom (s.heap.objs.size+1) scope.names []) (bindC (envOfC qual scope s.heap.objs.size f cd).kindOf (ps.zip us) fun _=>none) s1):
  Inv (fh CX P w K mg base N qual scope f cd A outer s H E) [] (bV N vs) H s1:=by
 have hpl:ps.length<=N.length:=by have:=congrArg List.length S.pre;rw[MU]at this;omega
 obtain⟨h1,tk,rfl,hk⟩:=x.done
 have noA:∀b:Addr,b∉(fh CX P w K mg base N qual scope f cd A outer s H E).ex:=fun b z=>absurd (show b∈([]:List Addr)from z) (by simp)
 refine⟨⟨e0.mod,S.kind,rfl,rfl,gV _,fun y z c h1 h2=>?_,fun y hy=>?_,fun y c _ h=>?_,fun _=>hd,OU e0.frames,.inr ⟨rfl,rfl⟩,fun b z=>absurd z (noA b),e0.bs,e0.bsz,fun b _ _=>noA b,fun b z=>absurd z (noA b),e0.funs,e0.frf⟩,
  rfl,e0.bare,Un.kept hk,⟨_,x.toInCall.ns,fun i y v h1 h2 h3=>?_⟩,fun y c h=>⟨_,x.cell y c h⟩,e0.hok.fresh (gV _),fun y c h=>?_,fun p hp=>absurd (show p∈([]:List (Addr×Obj))from hp) (by simp),e0.hok.kept hk,?_⟩
 ·exact name_of_addr x.apart (LQ h1) (LQ h2)
 ·have hy:scope.names.lookup y=some .cell\/scope.names.lookup y=some .free:=hy
  rcases hy with hy|hy
  ·exact nG hy
  ·exact absurd rfl (S.nofree _ (LQ hy))
 ·exact MT (x.above y c (LQ h))
 ·have hi:i<vs.length:=by
   unfold bV at h2
   by_cases hi:i<vs.length
   ·exact hi
   ·rw[Nf (by simpa using hi)]at h2
    rw[OQ]at h2
    split at h2<;>cases h2
  have ha:vs[i]?=some v:=by
   unfold bV at h2
   rw[Nk (by simpa using hi),LF]at h2
   cases e:vs[i]? with
   |none=>rw[e]at h2;cases h2
   |some a=>rw[e]at h2;cases h2;rfl
  obtain⟨u,hu,rv⟩:=r.get ha
  have hp:ps[i]?=some y:=by
   rw[<-S.pre,OM (by omega)];exact h1
  have ndP:ps.Nodup:=by rw[<-S.pre];exact S.nd.sublist (PC _ _)
  refine⟨u,rv,?_⟩
  rcases S.par y (LL hp)with k|k
  ·exact .inl ⟨k,lp ndP hp hu k⟩
  ·obtain⟨c,e⟩:=nG (n:=s.heap.objs.size+1) k
   refine .inr ⟨.inl k,c,e,?_⟩
   have q:=x.cell y c e
   rw[lf ndP hp hu (by show scope.names.lookup y≠_;rw[k];decide)]at q
   exact q
 ·exact e0.hok.fresh (MT (x.above y c (LQ h)))
 ·unfold bV
  show _=N.length
  rw[KW,Lq,Nx]
  omega
theorem Fl {CX:CXT}{P:Lf}{w:LA}{K:cW}{mg:Str->Option pv}{base:Heap}{k:Nat}{f:Addr}{name qual:Str}{params:Arguments}{body:List Stmt}{scope:Scope}{dV kV doc pm cdv ct oc:pv}{an od:Option Addr}
  {osl:Array (Option pv)}{N ps:List Str}{sp:Sp}(lk:K.lookup f=some ⟨oc,od,.func (ML name qual params body scope dV kV doc pm an cdv ct),osl⟩)(hcd:Qa K cdv qual=true)(S:au N ps scope)
  (len:∀vs H Q E,sp vs H Q E->vs.length=ps.length)
  (hbody:∀(A:LC)(outer:List Env)(s:Dc)(H:Hp)(vs:List V)(Q:VK)(E:XK),be k (A.deeper (envOfC qual scope s.heap.objs.size f cdv))->sp vs H Q E->
   ∃t,PSs (fh CX P w K mg base N qual scope f cdv A outer s H E) body t/\t {nx:=fun _ H'=>Q .non H',rt:=Q} (bV N vs) H):
  aA P w K mg base CX (k+1) f (ML name qual params body scope dV kV doc pm an cdv ct) ps sp:=by
 refine⟨len,fun A outer s H args us vs Q E hr e0 hb r hsp=>?_⟩
 have hl:=len _ _ _ _ hsp
 have KX:K.In s.heap:=e0.mod.kin.keeps fun b o e=>(e0.bs b o e).1
 have lim:s.heap.NoLimit:=e0.mod.nolimit.keeps fun b o e=>(e0.bs b o e).1
 have hkind:∀y∈ps.zip us,scope.names.lookup y.1=some .local\/(scope.names.lookup y.1=some .cell/\((cellsFrom (s.heap.objs.size+1) scope.names []).lookup y.1).isSome=true):=fun⟨n,v⟩ hy=>by
  rcases S.par n (Mx hy).1 with q|q
  ·exact .inl q
  ·exact .inr ⟨q,Ox _ _ _ (.inl q)⟩
 refine PL hr.depth (KX _ _ lk) rfl S.co S.gen rfl (W.codeRec_of KX hcd) (hb _ _ _ _ ?_)
 refine OW S.kind hkind fun env he s1 x=>?_
 subst he
 refine⟨lim.keeps x.toInCall.keep,codeAny_func ?_⟩
 obtain⟨t,ht,hq⟩:=hbody A outer s H vs Q E (hr.deeper _) hsp
 have I:Inv (fh CX P w K mg base N qual scope f cdv A outer s H E) [] (bV N vs) H s1:=lq S hr.hd e0 hl r x
 refine Lk (ht [] s1 (bV N vs) H _ I hq) (fun fl s' hs=>?_) fun e s' hs=>hs
 have fin:∀{σ':St}{H':Hp}{v:V}{u:pv},Inv (fh CX P w K mg base N qual scope f cdv A outer s H E) [] σ' H' s'->aM v u->Q v H'->CE outer P w H s Q u s':=
  fun{σ' H' v u} J rv q=>⟨v,H',J.os,J.bare,J.base,J.hok,rv,q⟩
 cases fl with
 |ret u=>
  obtain⟨v,σ',H',J,rv,q⟩:=hs
  exact fin J rv q
 |next=>
  obtain⟨σ',H',J,q⟩:=hs
  exact fin (v:=V.non) (u:=NV) J rfl q
 |brk=>
  obtain⟨_,_,_,q⟩:=hs
  exact Lh q
 |cont=>
  obtain⟨_,_,_,q⟩:=hs
  exact Lh q
section
variable {X:Cx}{x:Str}{p pos:Pos}{e:Expr}{es:List Expr}{t:TA}{id T:String}{r:List V->Hp->VK->Prop}
def tCB (r:List V->Hp->VK->Prop)(t:TA):TE:=fun σ H Q=>t σ H fun vs H1=>r vs H1 Q
theorem sV (hc:bP X (.builtin id) r)(hg:Gl X x)(hm:X.mg x=none)(hv:bootBuiltins x=some (.builtin id))(ha:PA X (e::es) t)(hn:x≠"__name__":=by decide)(hdb:(x==("__debug__":Str))=false:=by decide)
  (he:starEach (e::es) X.env=(false,eval e X.env)::starEach es X.env:=by rfl)(hpl:(backTo pos (starEach es X.env)).any (·.1)=false:=by rfl):PE X (.Call (.Name x p) (e::es) [] pos) (tCB r t):=by
 intro pins s σ H Q I h
 refine LP (jF I hg hm hv ?_ hn hdb)
 exact PyProof.Rows.callWith_builtin1 (thn (ha pos pins s σ H _ I h) fun us s1 ⟨vs,H1,I1,r1,q1⟩=>hc pins s1 σ H1 vs us Q I1 r1 q1) he hpl
theorem rE (hc:bP X (.type T) r)(hg:Gl X x)(hm:X.mg x=none)(hv:bootBuiltins x=some (.type T))(ha:PA X (e::es) t)(hn:x≠"__name__":=by decide)(hdb:(x==("__debug__":Str))=false:=by decide)
  (he:starEach (e::es) X.env=(false,eval e X.env)::starEach es X.env:=by rfl)(hpl:(backTo pos (starEach es X.env)).any (·.1)=false:=by rfl):PE X (.Call (.Name x p) (e::es) [] pos) (tCB r t):=by
 intro pins s σ H Q I h
 refine LP (jF I hg hm hv ?_ hn hdb)
 exact NK (thn (ha pos pins s σ H _ I h) fun us s1 ⟨vs,H1,I1,r1,q1⟩=>hc pins s1 σ H1 vs us Q I1 r1 q1) he hpl
end
end L2
namespace HT
open PySem PyProof.Rows
section
open PySem.SeqAt
open PySem.AutoSeq1 (wpAny_loadPart')
open PySem.MeetsSeq PySem.MeetsSeq2 PySem.MeetsSeq3
end
section
variable {prog:Lf}{w:LA}{A:LC}{E:pv->Dc->Prop}{s:Dc}
theorem yc {t b:Addr}{vs ws:List pv}{Q:pv->Dc->Prop}(ht:Rf s.heap t vs.toArray)(hb:Rf s.heap b ws.toArray)(hv:vs≠[])
  (h1:ws=[]->Q (.ref t) s)(h2:ws≠[]->Q (.ref s.heap.objs.size) {s with heap:=s.heap.push {cls:=.type "tuple",data:=.seq (vs++ws).toArray}})
  (hsz:vs.length+ws.length<=sizeLine):wpAny (model prog w) A (binaryOp .Add (.ref t) (.ref b)) Q E s:=by
 obtain⟨⟨cls,dd,data,sl⟩,ho,hc,n,hd⟩:=id ht
 obtain⟨⟨cls2,dd2,data2,sl2⟩,ho2,hc2,n2,hd2⟩:=id hb
 simp only at hc hd hc2 hd2
 subst hc hd hc2 hd2
 have e:vs.toArray++ws.toArray=(vs++ws).toArray:=by simp
 by_cases hw:ws=[]
 ·exact PK ⟨_,ho,rfl⟩ ⟨_,ho2,rfl⟩ OK Pr Nq Nm (Ni _ _)
   (tuple_addW1 t b vs.toArray ws.toArray n n2 dd dd2 sl sl2 (by simpa using hv) (by simp[hw])) ⟨ho,ho2,h1 hw⟩
 ·refine PK ⟨_,ho,rfl⟩ ⟨_,ho2,rfl⟩ OK Pr Nq Nm (Ni _ _)
   (tuple_addW2 t b vs.toArray ws.toArray n n2 dd dd2 sl sl2 (by simpa using hv) (by simpa using hw) (by rw[KR,KR];exact hsz)) ⟨ho,ho2,?_⟩
  rw[e]
  exact h2 hw
def sIx (n d:Nat):Option Int->Nat
 |none=>d
 |some v=>if v<0 then(v+(n:Int)).toNat else min v.toNat n
theorem Cq (n d:Nat)(hd:d<=n)(o:Option Int):sIx n d o<=n:=by
 cases o with
 |none=>exact hd
 |some v=>
  show(if v<0 then(v+(n:Int)).toNat else min v.toNat n)<=n
  by_cases hv:v<0
  ·rw[if_pos hv];omega
  ·rw[if_neg hv];exact Qc _ _
theorem oZ (v:Int)(n d:Nat):(if v<0 then max (v+(n:Int)) 0 else min v (n:Int))=((sIx n d (some v):Nat):Int):=by
 show(if v<0 then max (v+(n:Int)) 0 else min v (n:Int))=(((if v<0 then(v+(n:Int)).toNat else min v.toNat n):Nat):Int)
 by_cases hv:v<0
 ·simp only[if_pos hv];omega
 ·simp only[if_neg hv];omega
theorem qY (lo hi:Option Int)(n:Nat):MS lo hi 1 (n:Int)=(((sIx n 0 lo:Nat):Int),((sIx n n hi:Nat):Int)):=by
 have h1:¬((1:Int)<0):=by omega
 unfold MS
 simp only[h1,if_false]
 refine Prod.ext ?_ ?_
 ·cases lo with
  |none=>rfl
  |some v=>exact oZ v n 0
 ·cases hi with
  |none=>rfl
  |some v=>exact oZ v n n
theorem qZ (i j:Nat):Mv (i:Int) (j:Int) 1=j- i:=by
 unfold Mv
 have h1:(1:Int)>0:=by omega
 simp only[h1,if_true,Int.ediv_one]
 split<;>omega
theorem jI {v:pv}{o:Option Int}{Q:Option Int->Dc->Prop}(p:OC v o)(h:Q o s):wpAny (model prog w) A (Rb v) Q E s:=by
 cases p with
 |none=>exact slicePart_none h
 |int i t=>exact slicePart_int h
theorem fO {sl:Addr}{vl vu:pv}{lo hi:Option Int}{n:Nat}{Q:Int×Int×Nat->Dc->Prop}(hs:s.heap.IsSliceOf sl vl vu .none)(pl:OC vl lo)(pu:OC vu hi)
  (h:Q (((sIx n 0 lo:Nat):Int),1,sIx n n hi- sIx n 0 lo) s):wpAny (model prog w) A (NJ (.ref sl) (pure (n:Int))) Q E s:=by
 obtain⟨os,hos,hcs,hds⟩:=id hs
 unfold NJ Rc
 refine KJ (KJ (Qf hos hds (x:=vl) rfl (KJ (Qf hos hds (x:=vu) rfl (KJ (Qf hos hds (x:=.none) rfl (La ?_)))))))
 refine KJ (slicePart_none ?_)
 show wpAny _ _ (if ((1:Int)==0)=true then _ else _) _ _ s
 rw[if_neg (by decide)]
 refine KJ (jI pl (KJ (jI pu (KJ (La ?_)))))
 show wpAny _ _ (match MS lo hi 1 (n:Int)with|(lo,hi)=>pure (lo,(1:Int),Mv lo hi 1)) _ _ s
 rw[qY lo hi n]
 show wpAny _ _ (pure (((sIx n 0 lo:Nat):Int),(1:Int),Mv ((sIx n 0 lo:Nat):Int) ((sIx n n hi:Nat):Int) 1)) _ _ s
 rw[qZ]
 exact La h
theorem vT (xs:Array pv)(i k:Nat):((NW k).filterMap fun(m:Nat)=>xs[((i:Int)+(m:Int)*1).toNat]?).toArray=((xs.toList.drop i).take k).toArray:=by
 have e:(fun(m:Nat)=>xs[((i:Int)+(m:Int)*1).toNat]?)=fun m=>xs[i+m]?:=by
  funext m
  have:((i:Int)+(m:Int)*1).toNat=i+m:=by omega
  rw[this]
 rw[e]
 have:=pick_run xs i k
 rw[List.filterMap_map]at this
 have e2:((fun x=>xs[x]?)∘fun x=>i+x)=fun m=>xs[i+m]?:=rfl
 rw[e2]at this
 rw[this]
theorem iQ {t sl:Addr}{items:Array pv}{vl vu:pv}{lo hi:Option Int}{Q:pv->Dc->Prop}(ht:Rf s.heap t items)(hs:s.heap.IsSliceOf sl vl vu .none)(pl:OC vl lo)(pu:OC vu hi)
  (hw:¬(sIx items.size 0 lo=0/\sIx items.size items.size hi=items.size))
  (h:Q (.ref s.heap.objs.size) {s with heap:=s.heap.push {cls:=.type "tuple",data:=.seq ((items.toList.drop (sIx items.size 0 lo)).take (sIx items.size items.size hi- sIx items.size 0 lo)).toArray}})
  (hsz:items.size<=sizeLine):wpAny (model prog w) A (getItem (.ref t) (.ref sl)) Q E s:=by
 have htake:sizeOk (.seq ((items.toList.drop (sIx items.size 0 lo)).take (sIx items.size items.size hi- sIx items.size 0 lo)).toArray):=by
  show((items.toList.drop (sIx items.size 0 lo)).take (sIx items.size items.size hi- sIx items.size 0 lo)).toArray.size<=sizeLine
  rw[KR,MU,Og,NH]
  omega
 have hj:sIx items.size items.size hi<=items.size:=Cq _ _ (gV _) hi
 obtain⟨os,hos,hcs,hds⟩:=id hs
 have hTs:s.TypeIs (.ref sl) "slice":=⟨os,hos,hcs⟩
 unfold getItem
 try with_reducible refine Ng ?_
 first|refine KJ (La ?_)|skip
 refine KJ (Qy ht.typeIs (by decide) ?_)
 refine KJ (Ny (name:=Oe "__getitem__") ht.typeIs Lz
  (OJ Lz ht.typeIs Qk ?_ (Qt _ _)))
 show wpAny _ _ (NI (.ref t)>>=_) _ _ s
 refine KJ (tupleItemsOf_ ht ?_)
 refine KJ (PH hTs ?_)
 rw[if_pos (by decide)]
 refine KJ (fO hs pl pu ?_)
 have hno:¬((((sIx items.size 0 lo:Nat):Int)==0&&(1:Int)==1&&(sIx items.size items.size hi- sIx items.size 0 lo)==items.size)=true):=by
  intro q
  rw[LS,LS]at q
  have q1:((sIx items.size 0 lo:Nat):Int)=0:=eq_of_beq q.1.1
  have q2:sIx items.size items.size hi- sIx items.size 0 lo=items.size:=eq_of_beq q.2
  exact hw ⟨by omega,by omega⟩
 show wpAny _ _ (if (((sIx items.size 0 lo:Nat):Int)==0&&(1:Int)==1&&(sIx items.size items.size hi- sIx items.size 0 lo)==items.size)=true then _ else _) _ _ s
 rw[if_neg hno,vT]
 first
  |exact KJ (m:=Mw _) (MV (La ⟨_,rfl,La h⟩) htake)
  |exact KJ (m:=Mw _) (MV (KJ (La (La ⟨_,rfl,La h⟩))) htake)
  |exact KJ (KJ (m:=Mw _) (MV (La (La ⟨_,rfl,La h⟩)) htake))
  |exact KJ (KJ (m:=Mw _) (MV (La ⟨_,rfl,La h⟩) htake))
end
end HT
namespace L2
open PySem PySem.Spec PyProof.Rows
abbrev TO:=St->Hp->(Option Int->Hp->Prop)->Prop
def PO (X:Cx)(e:Option Expr)(t:TO):Prop:=
 ∀(pins:List (Addr×Obj))(s:Dc)(σ:St)(H:Hp)(Q:Option Int->Hp->Prop),Inv X pins σ H s->t σ H Q->
  wpAny (model X.prog X.w) X.A (evalPart e X.env) (fun u s'=>∃o H',Inv X pins σ H' s'/\OC u o/\Q o H') X.xe s
def kR:TO:=fun _ H Q=>Q none H
def ju (t:TE):TO:=fun σ H Q=>t σ H fun x H1=>∃i,x=.int i/\Q (some i) H1
section
variable {X:Cx}{e:Expr}{te:TE}{lo hi:Option Expr}{tl th:TO}{pos p2:Pos}
theorem yB:PO X none kR:=by
 intro pins s σ H Q I h
 rw[evalPart_none]
 exact La ⟨none,H,I,.none,h⟩
theorem yM (h:PE X e te):PO X (some e) (ju te):=by
 intro pins s σ H Q I hw
 rw[evalPart_some]
 refine thn (h pins s σ H _ I hw) fun u s1 ⟨x,H1,I1,r1,q1⟩=>?_
 obtain⟨i,rfl,q⟩:=q1
 obtain⟨t,rfl⟩:=r1
 exact⟨some i,H1,I1,.int i t,q⟩
def SlR (X:Cx)(r:V->Option Int->Option Int->Hp->VK->Prop):Prop:=
 ∀(pins:List (Addr×Obj))(s:Dc)(σ:St)(H:Hp)(x:V)(v vl vu:pv)(lo hi:Option Int)(sl:Addr)(Q:VK),Inv X pins σ H s->aM x v->s.heap.IsSliceOf sl vl vu .none->OC vl lo->OC vu hi->r x lo hi H Q->
  ∃T id,typeLookup (.type T) "__getitem__"=pure (some (.builtin id))/\s.TypeIs v T/\wpAny (model X.prog X.w) X.A (getItem v (.ref sl)) (EP X pins σ Q) X.xe s
theorem SlR.or {r r':V->Option Int->Option Int->Hp->VK->Prop}(h:SlR X r)(h':SlR X r'):SlR X (fun x lo hi H Q=>r x lo hi H Q\/r' x lo hi H Q):=by
 intro pins s σ H x v vl vu lo hi sl Q I rx hs pl pu q
 rcases q with q|q
 ·exact h pins s σ H x v vl vu lo hi sl Q I rx hs pl pu q
 ·exact h' pins s σ H x v vl vu lo hi sl Q I rx hs pl pu q
def tSl (r:V->Option Int->Option Int->Hp->VK->Prop)(te:TE)(tl th:TO):TE:=fun σ H Q=>te σ H fun x H1=>tl σ H1 fun l H2=>th σ H2 fun u H3=>r x l u H3 Q
theorem vV {r:V->Option Int->Option Int->Hp->VK->Prop}(hr:SlR X r)(he:PE X e te)(hl:PO X lo tl)(hu:PO X hi th):PE X (.Subscript e (.Slice lo hi none p2) pos) (tSl r te tl th):=by
 intro pins s σ H Q I h
 refine Subscript_ (thn (he pins s σ H _ I h) fun v s1 ⟨x,H1,I1,r1,q1⟩=>?_)
 refine wpAny_Slice (thn (hl pins s1 σ H1 _ I1 q1) fun vl s2 ⟨l,H2,I2,pl,q2⟩=>thn (hu pins s2 σ H2 _ I2 q2) fun vu s3 ⟨u,H3,I3,pu,q3⟩=>?_)
 rw[evalPart_none]
 refine La ?_
 have I4:Inv X pins σ H3 {s3 with heap:=s3.heap.push {cls:=.type "slice",data:=.fields #[vl,vu,.none]}}:=I3.kept (t':=s3.toks) fun b ob q=>wr _ q
 obtain⟨T,id,hT,ht,hg⟩:=hr pins {s3 with heap:=s3.heap.push {cls:=.type "slice",data:=.fields #[vl,vu,.none]}} σ H3 x v vl vu l u s3.heap.objs.size Q I4 r1 (Qs ..) pl pu q3
 show wpAny (model X.prog X.w) X.A (subscriptTail e (.Slice lo hi none p2) v (.ref s3.heap.objs.size)) (EP X pins σ Q) X.xe {s3 with heap:=s3.heap.push {cls:=.type "slice",data:=.fields #[vl,vu,.none]}}
 exact tail_any (ops:=[.ref s3.heap.objs.size,v]) ht hT hg (by with_unfolding_all rfl)
def fI (xs:List V)(lo hi:Option Int):List V:=(xs.drop (HT.sIx xs.length 0 lo)).take (HT.sIx xs.length xs.length hi- HT.sIx xs.length 0 lo)
theorem iT (xs:List V)(lo hi:Option Int):(fI xs lo hi).length<=xs.length:=by
 unfold fI
 rw[MU,Og]
 omega
def Kd (K:cW):V->Option Int->Option Int->Hp->VK->Prop:=fun x lo hi H Q=>∃a xs,x=.ref a/\SqT K H a xs/\
 ¬(HT.sIx xs.length 0 lo=0/\HT.sIx xs.length xs.length hi=xs.length)/\∀p,H p=none->Q (.ref p) (upd H p (.tup (fI xs lo hi)))
theorem Ck:SlR X (Kd X.K):=by
 intro pins s σ H x v vl vu lo hi sl Q I rx hs pl pu h
 obtain⟨a,xs,rfl,hx,hw,q⟩:=h
 cases rx
 obtain⟨its,r,ht,hz⟩:=I.tuple hx
 have hlen:its.toArray.size=xs.length:=by rw[KR];exact r.length.symm
 refine⟨"tuple",_,Lz.lookup,ht.typeIs,?_⟩
 refine HT.iQ ht hs pl pu (by rw[hlen];exact hw) ?_ (by rw[hlen];exact hz)
 rw[hlen]
 refine⟨.ref s.heap.objs.size,_,I.laid (t':=s.toks) (o:=.tup (fI xs lo hi)) (fun b ob q=>wr _ q) (gV _) ?_,rfl,q _ (I.hok.fresh (gV _))⟩
 exact⟨Ll (iT xs lo hi) hz,_,(r.drop (HT.sIx xs.length 0 lo)).take (HT.sIx xs.length xs.length hi- HT.sIx xs.length 0 lo),PR _ _⟩
def HK (K:cW):R2:=fun x y H Q=>∃a b xs ys,x=.ref a/\y=.ref b/\SqT K H a xs/\SqT K H b ys/\xs≠[]/\xs.length+ys.length<=sizeLine/\
 (ys=[]->Q (.ref a) H)/\(ys≠[]->∀p,H p=none->Q (.ref p) (upd H p (.tup (xs++ys))))
theorem aU.nil_iff {xs:List V}{us:List pv}(r:aU xs us):us=[]↔xs=[]:=by
 cases r with
 |nil=>simp
 |cons _ _=>simp
theorem yT:OpR X (binaryOp .Add) (HK X.K):=by
 intro pins s σ H x y v u Q I rx ry h
 obtain⟨a,b,xs,ys,rfl,rfl,ha,hb,hx,hz,q1,q2⟩:=h
 cases rx
 cases ry
 obtain⟨its,r1,p1,_⟩:=I.tuple ha
 obtain⟨its2,r2,p2,_⟩:=I.tuple hb
 refine HT.yc p1 p2 (fun z=>hx (r1.nil_iff.mp z)) (fun z=>⟨.ref a,H,I,rfl,q1 (r2.nil_iff.mp z)⟩) (fun z=>?_) (by rw[<-r1.length,<-r2.length];exact hz)
 refine⟨.ref s.heap.objs.size,_,I.laid (t':=s.toks) (o:=.tup (xs++ys)) (fun b ob q=>wr _ q) (gV _) ?_,rfl,q2 (fun w=>z (r2.nil_iff.mpr w)) _ (I.hok.fresh (gV _))⟩
 exact⟨by rw[KW];exact hz,_,r1.append r2,PR _ _⟩
end
def ixN (n:Nat)(i:Int):Option Nat:=if 0<=i then(if i<n then some i.toNat else none)else if-(n:Int)<=i then some (i+n).toNat else none
def atI {α:Type}(xs:List α)(i:Int):Option α:=(ixN xs.length i).bind fun j=>xs[j]?
theorem pB {n:Nat}{i:Int}{j:Nat}(h:ixN n i=some j):seqIndex? i n=some j/\j<n/\ -(n:Int)<=i/\i<n:=by
 unfold ixN at h
 by_cases h0:0<=i
 ·rw[if_pos h0]at h
  by_cases h1:i<n
  ·rw[if_pos h1]at h
   have e:i.toNat=j:=KN h
   exact⟨by rw[Qg h0 h1,e],by omega,by omega,h1⟩
  ·rw[if_neg h1]at h;cases h
 ·rw[if_neg h0]at h
  by_cases h1: -(n:Int)<=i
  ·rw[if_pos h1]at h
   have e:(i+n).toNat=j:=KN h
   exact⟨by rw[PJ (by omega) h1,e],by omega,h1,by omega⟩
  ·rw[if_neg h1]at h;cases h
theorem iy {α:Type}{xs:List α}{i:Int}{v:α}(h:atI xs i=some v):∃j,seqIndex? i xs.length=some j/\xs[j]? =some v/\j<xs.length/\ -(xs.length:Int)<=i/\i<xs.length:=by
 unfold atI at h
 cases e:ixN xs.length i with
 |none=>rw[e]at h;cases h
 |some j=>
  rw[e]at h
  obtain⟨h1,h2,h3,h4⟩:=pB e
  exact⟨j,h1,h,h2,h3,h4⟩
theorem tF {α:Type}(xs:List α)(v:α):atI (xs++[v]) (-1)=some v:=by
 have hl:(xs++[v]).length=xs.length+1:=by simp
 have e:ixN (xs++[v]).length (-1)=some xs.length:=by
  unfold ixN
  rw[hl,if_neg (by decide),if_pos (by omega)]
  congr 1
  omega
 unfold atI
 rw[e]
 show(xs++[v])[xs.length]?=some v
 simp
def pd (b:Expr):Prop:=∀o i,subscripted b false o i=operate [o,i] (getItem o i)
def IxR (X:Cx)(r:R2):Prop:=
 ∀(value slice:Expr)(pins:List (Addr×Obj))(s:Dc)(σ:St)(H:Hp)(x y:V)(v u:pv)(Q:VK),Inv X pins σ H s->aM x v->aM y u->r x y H Q->
  subscripted slice false v u=operate [v,u] (getItem v u)->wpAny (model X.prog X.w) X.A (subscriptTail value slice v u) (EP X pins σ Q) X.xe s
def MtR (X:Cx)(id:String)(r:V->List V->Hp->VK->Prop):Prop:=
 ∀(pins:List (Addr×Obj))(s:Dc)(σ:St)(H:Hp)(x:V)(xs:List V)(v:pv)(us:List pv)(Q:VK),Inv X pins σ H s->aM x v->aU xs us->r x xs H Q->
  wpAny (model X.prog X.w) X.A (call (.builtin id) (v::us)) (EP X pins σ Q) X.xe s
section
variable {X:Cx}{a b:Expr}{ta tb:TE}{pos:Pos}
theorem IxR.or {r r':R2}(h:IxR X r)(h':IxR X r'):IxR X (fun x y H Q=>r x y H Q\/r' x y H Q):=by
 intro value slice pins s σ H x y v u Q I rx ry q hs
 rcases q with q|q
 ·exact h value slice pins s σ H x y v u Q I rx ry q hs
 ·exact h' value slice pins s σ H x y v u Q I rx ry q hs
theorem DB {r:R2}(hr:IxR X r)(ha:PE X a ta)(hb:PE X b tb)(hs:pd b):PE X (.Subscript a b pos) (tOp r ta tb):=by
 intro pins s σ H Q I h
 exact Subscript_ (wa ha hb I h fun v u s2 x y H2 I2 rx ry q=>hr a b pins s2 σ H2 x y v u Q I2 rx ry q (hs _ _))
def zF (K:cW):R2:=fun x y H Q=>∃p xs i v,x=.ref p/\y=.int i/\SqL K H p xs/\atI xs i=some v/\Q v H
def zZ (K:cW):R2:=fun x y H Q=>∃p xs i v,x=.ref p/\y=.int i/\SqT K H p xs/\atI xs i=some v/\Q v H
def AT:R2:=fun x y H Q=>∃z i c,x=.str z/\y=.int i/\z.length<=sizeLine/\atI z.cps.toList i=some c/\Q (.str ⟨#[c]⟩) H
theorem yP:IxR X (zF X.K):=by
 intro value slice pins s σ H x y v u Q I rx ry h hs
 obtain⟨p,xs,i,z,rfl,rfl,hq,he,q⟩:=h
 cases rx
 obtain⟨t,rfl⟩:=ry
 obtain⟨its,r,pl,hz⟩:=I.list hq
 obtain⟨j,h1,h2,h3,h4,h5⟩:=iy he
 obtain⟨w,ew,rw'⟩:=r.get h2
 have hl:=r.length
 have hn:=gD
 have fin:EP X pins σ Q w s:=⟨z,H,I,rw',q⟩
 by_cases h0:0<=i
 ·have hj:i.toNat=j:=by
   rw[Qg h0 h5]at h1
   exact KN h1
  exact item_listR pl.isList h0 (by omega) (by rw[hj];simpa using ew) fin hs
 ·have hj:(i+(its.toArray.size:Int)).toNat=j:=by
   rw[PJ (by omega) h4]at h1
   rw[KR,<-hl]
   exact KN h1
  exact PB (x:=w) pl.isList.typeIs slot_list_getitem.lookup
   (wpAny_getItem_list_neg (Q:=fun r s'=>r=w/\EP X pins σ Q r s') pl.isList (by omega) (by rw[KR]<;>omega) (by omega) (by rw[hj];simpa using ew) ⟨rfl,fin⟩) hs
theorem zD:IxR X (zZ X.K):=by
 intro value slice pins s σ H x y v u Q I rx ry h hs
 obtain⟨p,xs,i,z,rfl,rfl,hq,he,q⟩:=h
 cases rx
 obtain⟨t,rfl⟩:=ry
 obtain⟨its,r,pl,hz⟩:=I.tuple hq
 obtain⟨j,h1,h2,h3,h4,h5⟩:=iy he
 obtain⟨w,ew,rw'⟩:=r.get h2
 have hl:=r.length
 have hn:=gD
 have fin:EP X pins σ Q w s:=⟨z,H,I,rw',q⟩
 exact PB (x:=w) pl.typeIs slot_tuple_getitem.lookup
  (getItem_tuple (j:=j) (Q:=fun r s'=>r=w/\EP X pins σ Q r s') pl (by omega) (by omega) (by rw[KR,<-hl];exact h1) (by simpa using ew) ⟨rfl,fin⟩) hs
theorem Bp:IxR X AT:=by
 intro value slice pins s σ H x y v u Q I rx ry h hs
 obtain⟨z,i,c,rfl,rfl,hz,he,q⟩:=h
 obtain⟨t,rfl⟩:=rx
 obtain⟨t',rfl⟩:=ry
 obtain⟨j,h1,h2,h3,h4,h5⟩:=iy he
 have hl:z.cps.toList.length=z.length:=by simp[Str.length]
 rw[hl]at h1 h4 h5
 have hn:=gD
 exact tail_any (QF s z t) slot_str_getitem.lookup (getItem_str (c:=c) (by
  have e1:decide (i< -(2^63:Int))=false:=decide_eq_false (by omega)
  have e2:decide (i>=2^63)=false:=decide_eq_false (by omega)
  rw[e1,e2,Bool.or_false]) (by rw[h1];simpa using h2) ⟨.str ⟨#[c]⟩,H,I.tok _,⟨_,rfl⟩,q⟩) hs
def rIx (K:cW):R2:=fun x y H Q=>zF K x y H Q\/zZ K x y H Q\/AT x y H Q
theorem Ak:IxR X (rIx X.K):=yP.or (zD.or Bp)
theorem qJ (its:List pv)(n j:Nat)(u:pv):Oa (·.setIfInBounds j u) {cls:=.type "list",data:=.seq its.toArray n}={cls:=.type "list",data:=.seq (its.set j u).toArray n}:=by
 simp[Oa]
theorem Inv.lst {pins:List (Addr×Obj)}{σ:St}{H:Hp}{s:Dc}{p:Addr}{xs:List V}(I:Inv X pins σ H s)(h:H p=some (.lst xs)):
  ∃(its:List pv)(n:Nat),aU xs its/\s.heap.get? p=some {cls:=.type "list",data:=.seq its.toArray n}/\xs.length<=sizeLine:=by
 obtain⟨z,its,n,r,e⟩:=I.hok p _ h
 exact⟨its,n,r,e,z⟩
theorem Inv.lstUpd {pins:List (Addr×Obj)}{σ:St}{H:Hp}{s:Dc}{p:Addr}{xs ys:List V}{its its':List pv}{n n':Nat}{f:Obj->Obj}(I:Inv X pins σ H s)(h:H p=some (.lst xs))
  (ho:s.heap.get? p=some {cls:=.type "list",data:=.seq its.toArray n})(hf:f {cls:=.type "list",data:=.seq its.toArray n}={cls:=.type "list",data:=.seq its'.toArray n'})(r:aU ys its')(hz:ys.length<=sizeLine)(t:Nat):
  Inv X pins σ (upd H p (.lst ys)) {s with heap:=s.heap.update p f,toks:=t}:=by
 have e:(s.heap.update p f).get? p=some {cls:=.type "list",data:=.seq its'.toArray n'}:=by
  rw[Heap.get?_update_self f ho (by rw[hf]<;>rfl),hf]
 refine I.write (x:=p) (e:=p) (by rw[h];trivial) (.inl rfl) (fun b u hb q=>(OT _ _ (KP hb)).trans q) ⟨_,e⟩ ?_
 exact⟨hz,its',n',r,e⟩
def wY:V->V->V->Hp->(Hp->Prop)->Prop:=fun o i v H Q=>∃p xs k j,o=.ref p/\i=.int k/\H p=some (.lst xs)/\ixN xs.length k=some j/\Q (upd H p (.lst (xs.set j v)))
theorem ud:pJ X wY:=by
 intro pins s σ H o i v ov iv u Q I ro ri rv h
 obtain⟨p,xs,k,j,rfl,rfl,hp,hj,q⟩:=h
 cases ro
 obtain⟨t,rfl⟩:=ri
 obtain⟨its,n,r,ho,hz⟩:=I.lst hp
 obtain⟨h1,h2,h3,h4⟩:=pB hj
 have hl:=r.length
 have hn:=gD
 have I':Inv X pins σ (upd H p (.lst (xs.set j v))) {s with heap:=s.heap.update p (Oa (·.setIfInBounds j u))}:=
  I.lstUpd hp ho (qJ its n j u) (r.set rv j) (by rw[List.length_set];exact hz) s.toks
 by_cases h0:0<=k
 ·have hk:k.toNat=j:=by
   rw[Qg h0 h4]at h1
   exact KN h1
  exact W.ki_setAt ho h0 (by omega) (by rw[KR,<-hl];exact h4) (by rw[hk];exact⟨_,I',q⟩)
 ·have hk:(k+(its.toArray.size:Int)).toNat=j:=by
   rw[PJ (by omega) h3]at h1
   rw[KR,<-hl]
   exact KN h1
  exact W.ki_setBack ho (by omega) (by rw[KR,<-hl];exact h3) (by omega) (by rw[hk];exact⟨_,I',q⟩)
theorem oq (lo hi:Option Int)(n:Nat):(sliceBounds lo hi none n).1=((HT.sIx n 0 lo:Nat):Int)/\(sliceBounds lo hi none n).2.1=((HT.sIx n n hi:Nat):Int)/\(sliceBounds lo hi none n).2.2=1:=by
 refine⟨?_,?_,rfl⟩
 ·cases lo with
  |none=>simp[sliceBounds,HT.sIx]
  |some i=>
   simp only[sliceBounds,HT.sIx,Px,show(1:Int)>0 by decide,if_true]
   by_cases h:i<0
   ·simp only[h,if_true]<;>omega
   ·simp only[h,if_false]<;>omega
 ·cases hi with
  |none=>simp[sliceBounds,HT.sIx]
  |some i=>
   simp only[sliceBounds,HT.sIx,Px,show(1:Int)>0 by decide,if_true]
   by_cases h:i<0
   ·simp only[h,if_true]<;>omega
   ·simp only[h,if_false]<;>omega
theorem lv (its:List pv)(lo hi:Option Int):slicePick its.toArray lo hi none=((its.drop (HT.sIx its.length 0 lo)).take (HT.sIx its.length its.length hi- HT.sIx its.length 0 lo)).toArray:=by
 obtain⟨h1,h2,h3⟩:=oq lo hi its.toArray.size
 unfold slicePick
 rw[h1,h2,h3]
 simp only[sliceRange_one,pick_run,KR]<;>rfl
def Ai (K:cW):V->Option Int->Option Int->Hp->VK->Prop:=fun x lo hi H Q=>∃a xs,x=.ref a/\SqL K H a xs/\∀p,H p=none->Q (.ref p) (upd H p (.lst (fI xs lo hi)))
theorem xT:SlR X (Ai X.K):=by
 intro pins s σ H x v vl vu lo hi sl Q I rx hs pl pu h
 obtain⟨a,xs,rfl,hx,q⟩:=h
 cases rx
 obtain⟨its,r,ht,hz⟩:=I.list hx
 have hlen:=r.length
 refine⟨"list",_,slot_list_getitem.lookup,ht.isList.typeIs,?_⟩
 refine wpAny_getItem_list_slice ht.isList hs pl pu .none (by simp) ?_ (by rw[KR]<;>omega)
 rw[lv,<-hlen]
 refine⟨.ref s.heap.objs.size,_,I.laid (t':=s.toks) (o:=.lst (fI xs lo hi)) (fun b ob q=>wr _ q) (gV _) ?_,rfl,q _ (I.hok.fresh (gV _))⟩
 exact⟨Ll (iT xs lo hi) hz,_,0,(r.drop (HT.sIx xs.length 0 lo)).take (HT.sIx xs.length xs.length hi- HT.sIx xs.length 0 lo),Lg _ rfl⟩
theorem bP.or {f:pv}{r r':List V->Hp->VK->Prop}(h:bP X f r)(h':bP X f r'):bP X f (fun xs H Q=>r xs H Q\/r' xs H Q):=by
 intro pins s σ H xs us Q I rs q
 rcases q with q|q
 ·exact h pins s σ H xs us Q I rs q
 ·exact h' pins s σ H xs us Q I rs q
theorem oF:bP X (.type "list") (fun xs H Q=>∃p ys,xs=[.ref p]/\(SqL X.K H p ys\/SqT X.K H p ys)/\∀l,H l=none->Q (.ref l) (upd H l (.lst ys))):=by
 intro pins s σ H xs us Q I r h
 obtain⟨p,ys,rfl,hq,q⟩:=h
 obtain⟨u,rfl,rx⟩:=iG r
 cases rx
 have fin:∀(its:List pv),aU ys its->ys.length<=sizeLine->∀(h':Heap)(c':Nat),(∀b o',s.heap.get? b=some o'->h'.get? b=some o')->
   h'.get? s.heap.objs.size=some {cls:=.type "list",dict:=none,data:=.seq its.toArray c',slots:=#[]}->EP X pins σ Q (.ref s.heap.objs.size) {s with heap:=h'}:=fun its r' hz h' c' kp e=>
  ⟨.ref s.heap.objs.size,_,I.laid (t':=s.toks) kp (gV _) (show bh X.prog X.w _ h' _ (.lst ys)from⟨hz,its,c',r',e⟩),rfl,q _ (I.hok.fresh (gV _))⟩
 rcases hq with hq|hq
 ·obtain⟨its,r',pl,hz⟩:=I.list hq
  have hlen:=r'.length
  obtain⟨o,ho,hc,n,hd⟩:=pl.isList
  exact call_list_seq p (.inl rfl) ho hc hd (fun h' c' kp e=>fin its r' hz h' c' kp e) (by simp only[KR]<;>omega)
 ·obtain⟨its,r',pl,hz⟩:=I.tuple hq
  have hlen:=r'.length
  obtain⟨o,ho,hc,n,hd⟩:=pl
  exact call_list_seq p (.inr rfl) ho hc hd (fun h' c' kp e=>fin its r' hz h' c' kp e) (by simp only[KR]<;>omega)
theorem lu:bP X (.type "tuple") (fun xs H Q=>∃p ys,xs=[.ref p]/\((SqL X.K H p ys/\∀l,H l=none->Q (.ref l) (upd H l (.tup ys)))\/(SqT X.K H p ys/\Q (.ref p) H))):=by
 intro pins s σ H xs us Q I r h
 obtain⟨p,ys,rfl,h⟩:=h
 obtain⟨u,rfl,rx⟩:=iG r
 cases rx
 rcases h with⟨hq,q⟩|⟨hq,q⟩
 ·obtain⟨its,r',pl,hz⟩:=I.list hq
  have hlen:=r'.length
  refine call_tuple_list pl.isList (fun h' kp=>?_) (by simp only[KR]<;>omega)
  have I1:Inv X pins σ H {s with heap:=h'}:=I.kept (t':=s.toks) kp
  have I2:Inv X pins σ (upd H h'.objs.size (.tup ys)) {s with heap:=h'.push {cls:=.type "tuple",data:=.seq its.toArray}}:=
   I1.laid (t':=s.toks) (fun b o e=>wr _ e) (gV _) (show bh X.prog X.w _ _ _ (.tup ys)from⟨hz,its,r',PR _ _⟩)
  exact⟨.ref h'.objs.size,_,I2,rfl,q _ (I1.hok.fresh (gV _))⟩
 ·obtain⟨its,r',pl,hz⟩:=I.tuple hq
  exact call_tuple_same pl ⟨.ref p,H,I,rfl,q⟩
def tyV (K:cW)(T:String)(x:V)(H:Hp):Prop:=match x with
 |.str _=>T="str"
 |.int _=>T="int"
 |.ref p=>(T="list"/\∃xs,SqL K H p xs)\/(T="tuple"/\∃o,K.lookup p=some o/\o.cls=.type "tuple"/\o.dict=none)\/
  (T="dict"/\((∃kvs,H p=some (.dK kvs))\/∃kvs,H p=some (.dT kvs)))\/(T="set"/\∃S n,H p=some (.set S n))
 |_=>False
theorem rJ {pins:List (Addr×Obj)}{σ:St}{H:Hp}{s:Dc}{T:String}{x:V}{v:pv}(I:Inv X pins σ H s)(r:aM x v)(ty:tyV X.K T x H):
  s.TypeIs v T/\∀a,v=.ref a->∃ob,s.heap.get? a=some ob/\ob.dict=none:=by
 cases x with
 |str z=>
  obtain⟨t,rfl⟩:=r
  cases (show T="str" from ty)
  exact⟨QF s z t,fun _ e=>nomatch e⟩
 |int i=>
  obtain⟨t,rfl⟩:=r
  cases (show T="int" from ty)
  exact⟨typeIs_int s i t,fun _ e=>nomatch e⟩
 |ref p=>
  cases r
  rcases ty with⟨rfl,xs,hq⟩|⟨rfl,o,hk,hc,hd⟩|⟨rfl,hk⟩|⟨rfl,S,n,hk⟩
  ·obtain⟨its,_,pl,_⟩:=I.list hq
   refine⟨pl.isList.typeIs,fun a e=>?_⟩
   cases e
   obtain⟨o,n,e,c,hd,_⟩:=pl
   exact⟨o,e,hd⟩
  ·refine⟨⟨o,I.kIn p o hk,hc⟩,fun a e=>?_⟩
   cases e
   exact⟨o,I.kIn _ o hk,hd⟩
  ·have z:∃o,s.heap.get? p=some o/\o.ExactDict:=by
    rcases hk with⟨kvs,hk⟩|⟨kvs,hk⟩
    ·obtain⟨_,_,_,_,o,_,_,e,ex,_⟩:=I.hok p _ hk
     exact⟨o,e,ex⟩
    ·obtain⟨_,_,_,_,o,_,_,e,ex,_⟩:=I.hok p _ hk
     exact⟨o,e,ex⟩
   obtain⟨o,e,ex⟩:=z
   refine⟨⟨o,e,ex.1⟩,fun a e2=>?_⟩
   cases e2
   exact⟨o,e,ex.2.1⟩
  ·obtain⟨o,_,_,_,e,ex,_⟩:=I.hok p _ hk
   refine⟨⟨o,e,ex.1⟩,fun a e2=>?_⟩
   cases e2
   exact⟨o,e,ex.2.1⟩
 |_=>exact Lh ty
def qp (K:cW)(T:String)(r:V->List V->Hp->VK->Prop)(to:TE):TE:=fun σ H Q=>to σ H fun x H1=>tyV K T x H1/\r x [] H1 Q
def tBM (K:cW)(T:String)(r:V->List V->Hp->VK->Prop)(to:TE)(t:TA):TE:=fun σ H Q=>to σ H fun x H1=>tyV K T x H1/\t σ H1 fun xs H2=>r x xs H2 Q
variable {o e:Expr}{es:List Expr}{to:TE}{t:TA}{name:Str}{apos cpos:Pos}{T id:String}{r:V->List V->Hp->VK->Prop}
theorem Ac (pa:Oy T)(slot:Slot T name id)(hty:typeOf (.builtin id)=pure (.type "method_descriptor"))(hm:MtR X id r)(ho:PE X o to)
  (hbase:attributeBase o name X.env (eval o X.env)=eval o X.env:=by rfl)(hline:(apos.endLine==cpos.line)=true:=by rfl):PE X (.Call (.Attribute o name apos) [] [] cpos) (qp X.K T r to):=by
 intro pins s σ H Q I h
 refine wpAny_Call_method0_late hbase hline (thn (ho pins s σ H _ I h) fun v s1 ⟨x,H1,I1,r1,ty,q1⟩=>?_)
 obtain⟨h1,h2⟩:=rJ I1 r1 ty
 exact⟨T,id,pa,slot,hty,h1,h2,ON rfl (PySem.evalArgs_none (hm pins s1 σ H1 x [] v [] Q I1 r1 .nil q1))⟩
theorem DZ (pa:Oy T)(slot:Slot T name id)(hty:typeOf (.builtin id)=pure (.type "method_descriptor"))(hm:MtR X id r)(ho:PE X o to)(ha:PA X (e::es) t)
  (hbase:attributeBase o name X.env (eval o X.env)=eval o X.env:=by rfl)
  (hfew:((backTo cpos (starEach (e::es) X.env)).all (fun x=> !x.1)&&(backToKw cpos (keywordEach [] X.env)).all (fun x=>x.1.isSome)
   &&decide ((e::es).length+([]:List Keyword).length+(if ([]:List Keyword).isEmpty then 0 else 1)<30))=true:=by rfl)
  (hline:(apos.endLine==cpos.line)=true:=by rfl)(hs:starEach (e::es) X.env=(false,eval e X.env)::starEach es X.env:=by rfl)(hplain:(backTo cpos (starEach es X.env)).any (·.1)=false:=by rfl):
  PE X (.Call (.Attribute o name apos) (e::es) [] cpos) (tBM X.K T r to t):=by
 intro pins s σ H Q I h
 refine wpAny_Call_method_late hbase hfew hline rfl (thn (ho pins s σ H _ I h) fun v s1 ⟨x,H1,I1,r1,ty,q1⟩=>?_)
 obtain⟨h1,h2⟩:=rJ I1 r1 ty
 refine⟨T,id,pa,slot,hty,h1,h2,?_⟩
 have hA:=ha cpos pins s1 σ H1 _ I1 q1
 rw[hs]at hA⊢
 refine ON (by show(false||(backTo cpos (starEach es X.env)).any (·.1))=false;rw[hplain]<;>rfl) (Calls.evalArgs_plain ?_)
 exact thn hA fun us s2 ⟨vs,H2,I2,r2,q2⟩=>hm pins s2 σ H2 x vs v us Q I2 r1 r2 q2
end
def MtM (X:Cx)(id:String)(r:V->List V->Hp->VK->Prop):Prop:=
 ∀(pins:List (Addr×Obj))(s:Dc)(σ:St)(H:Hp)(x:V)(xs:List V)(v:pv)(us:List pv)(Q:VK),Inv X pins σ H s->aM x v->aU xs us->r x xs H Q->
  wpAny (model X.prog X.w) X.A (call (.builtin id) (v::us)) (EP X pins σ Q) X.xe s
theorem aU.one:∀{x:V}{us:List pv},aU [x] us->∃u,us=[u]/\aM x u
 |_,_,.cons r .nil=>⟨_,rfl,r⟩
section
variable {X:Cx}{pins:List (Addr×Obj)}{σ:St}{H:Hp}{s:Dc}{l b:Addr}{xs ys zs:List V}
theorem Inv.lset {its its':List pv}{n:Nat}{f:Array pv->Array pv}{t':Nat}(I:Inv X pins σ H s)(hH:H l=some (.lst xs))
  (e:s.heap.get? l=some {cls:=.type "list",data:=.seq its.toArray n})(hf:f its.toArray=its'.toArray)(hv:aU ys its')(hz:ys.length<=sizeLine):
  Inv X pins σ (upd H l (.lst ys)) {s with heap:=s.heap.update l (Oa f),toks:=t'}:=by
 have q:=PySem.IsL.update e f
 rw[hf]at q
 refine I.write (x:=l) (e:=l) (by rw[hH];exact trivial) (.inl rfl) (fun b' u hb hu=>(OT s.heap (Oa f) (KP hb)).trans hu) ⟨_,q⟩ ?_
 exact⟨hz,its',_,hv,q⟩
theorem Inv.lnew {its:List pv}{t':Nat}(I:Inv X pins σ H s)(hv:aU ys its)(hz:ys.length<=sizeLine):
  Inv X pins σ (upd H s.heap.objs.size (.lst ys)) {s with heap:=s.heap.push {cls:=.type "list",data:=.seq its.toArray},toks:=t'}:=
 I.laid (fun _ _ q=>wr _ q) (gV _) ⟨hz,its,0,hv,Lg _ rfl⟩
theorem Inv.fresh (I:Inv X pins σ H s):H s.heap.objs.size=none:=I.hok.fresh (gV _)
theorem Inv.lstM (I:Inv X pins σ H s)(hH:H l=some (.lst xs)):xs.length<=sizeLine/\∃(its:List pv)(n:Nat),aU xs its/\xs.length=its.length/\s.heap.get? l=some {cls:=.type "list",data:=.seq its.toArray n}:=by
 obtain⟨z,its,n,r,e⟩:=I.hok l _ hH
 exact⟨z,its,n,r,r.length,e⟩
end
section
variable {X:Cx}
def dZ:V->List V->Hp->VK->Prop:=fun x vs H Q=>∃l xs y,x=.ref l/\vs=[y]/\H l=some (.lst xs)/\xs.length<sizeLine/\Q .non (upd H l (.lst (xs++[y])))
theorem dA:MtM X "list.append" dZ:=by
 intro pins s σ H x vs v us Q I rx rv h
 obtain⟨l,xs,y,rfl,rfl,hH,hz,q⟩:=h
 cases rx
 obtain⟨u,rfl,ru⟩:=rv.one
 obtain⟨z,its,n,r,hl,e⟩:=I.lstM hH
 refine QG LB ⟨_,e,rfl⟩ F.entry_list_append (F.args_list_append_2 _ _) (PySem.list_append l its.toArray n u (by rw[KR];omega)) ⟨e,?_⟩
 refine⟨.non,_,I.lset (its':=its++[u]) hH e (by simp) (r.append (.cons ru .nil)) ?_,rfl,q⟩
 rw[KW,List.length_singleton]
 omega
def Cs:R2:=fun x y H Q=>∃l b xs zs,x=.ref l/\y=.ref b/\H l=some (.lst xs)/\H b=some (.lst zs)/\xs.length+zs.length<=sizeLine/\∀p,H p=none->Q (.ref p) (upd H p (.lst (xs++zs)))
theorem zo:OpR X (binaryOp .Add) Cs:=by
 intro pins s σ H x y v u Q I rx ry h
 obtain⟨l,b,xs,zs,rfl,rfl,hH,hB,hz,q⟩:=h
 cases rx
 cases ry
 obtain⟨z,its,n,r,hl,e⟩:=I.lstM hH
 obtain⟨z2,its2,n2,r2,hl2,e2⟩:=I.lstM hB
 refine PySem.P.add_list e e2 ?_ (by rw[KR,KR];omega)
 have ea:its.toArray++its2.toArray=(its++its2).toArray:=by simp
 rw[ea]
 exact⟨.ref _,_,I.lnew (t':=s.toks) (r.append r2) (by rw[KW];omega),rfl,q _ I.fresh⟩
end
section
variable {prog:Lf}{w:LA}{A:LC}{E:pv->Dc->Prop}{s:Dc}
set_option maxRecDepth 100000 in
end
section
variable {κ:Type}[DecidableEq κ]
def cp (kvs:List (κ×V))(k:κ):Option V:=(kvs.find? fun kv=>decide (kv.1=k)).map (·.2)
def ci (kvs:List (κ×V))(k:κ)(v:V):List (κ×V):=
 if (kvs.any fun kv=>decide (kv.1=k))=true then kvs.map (fun kv=>if kv.1=k then(kv.1,v)else kv)else kvs++[(k,v)]
theorem cS {p:κ×V}{r:List (κ×V)}{k:κ}(e:p.1=k):cp (p::r) k=some p.2:=by simp[cp,MM,e]
theorem cT {p:κ×V}{r:List (κ×V)}{k:κ}(e:¬p.1=k):cp (p::r) k=cp r k:=by simp[cp,MM,e]
theorem fH (k:κ):∀kvs:List (κ×V),(kvs.any fun kv=>decide (kv.1=k))=(cp kvs k).isSome
 |[]=>rfl
 |p::r=>by
  rw[OR]
  by_cases e:p.1=k
  ·simp only[cS e,decide_eq_true e,Bool.true_or,Option.isSome_some]
  ·rw[cT e,decide_eq_false e,Bool.false_or];exact fH k r
theorem nS (k j:κ)(y:V):∀kvs:List (κ×V),cp (kvs.map fun kv=>if kv.1=k then(kv.1,y)else kv) j=(cp kvs j).map fun x=>if j=k then y else x
 |[]=>rfl
 |p::r=>by
  have ih:=nS k j y r
  rw[LJ]
  by_cases h:p.1=k
  ·rw[if_pos h]
   by_cases e:p.1=j
   ·rw[cS (p:=(p.1,y)) e,cS e,MZ,if_pos (e.symm.trans h)]
   ·rw[cT (p:=(p.1,y)) e,cT e,ih]
  ·rw[if_neg h]
   by_cases e:p.1=j
   ·rw[cS (p:=p) e,cS e,MZ,if_neg (fun z=>h (e.trans z))]
   ·rw[cT (p:=p) e,cT e,ih]
theorem li (k j:κ)(y:V):∀kvs:List (κ×V),cp kvs k=none->cp (kvs++[(k,y)]) j=if j=k then some y else cp kvs j
 |[],_=>by
  by_cases e:k=j
  ·rw[if_pos e.symm];exact cS (p:=(k,y)) e
  ·rw[if_neg (fun z=>e z.symm)];exact cT (p:=(k,y)) e
 |p::r,hn=>by
  rw[List.cons_append]
  have hk:¬p.1=k:=fun z=>by rw[cS z]at hn;cases hn
  rw[cT hk]at hn
  have ih:=li k j y r hn
  by_cases e:p.1=j
  ·rw[cS e,cS e,if_neg (fun z=>hk (e.trans z))]
  ·rw[cT e,cT e,ih]
theorem jg (kvs:List (κ×V))(k j:κ)(y:V):cp (ci kvs k y) j=if j=k then some y else cp kvs j:=by
 unfold ci
 by_cases a:(kvs.any fun kv=>decide (kv.1=k))=true
 ·rw[if_pos a,nS]
  rw[fH]at a
  by_cases e:j=k
  ·obtain⟨x,hx⟩:=Ly.mp a
   rw[if_pos e,e,hx,MZ,if_pos rfl]
  ·rw[if_neg e]
   cases cp kvs j with
   |none=>rfl
   |some x=>rw[MZ,if_neg e]
 ·rw[if_neg a]
  refine li k j y kvs ?_
  rw[fH]at a
  cases q:cp kvs k with
  |none=>rfl
  |some x=>rw[q]at a;exact(a rfl).elim
theorem gl (kvs:List (κ×V))(k:κ)(v:V):(ci kvs k v).length<=kvs.length+1:=by
 unfold ci
 split
 ·rw[Lq];omega
 ·rw[KW,LO,List.length_nil];omega
theorem wA {kvs:List (κ×V)}{k:κ}(v:V)(h:cp kvs k=none):ci kvs k v=kvs++[(k,v)]:=by
 unfold ci
 rw[fH,h]
 exact if_neg (by decide)
theorem er.isSome_eq {o:Option V}{u:Option pv}(r:er o u):o.isSome=u.isSome:=by
 cases o with
 |none=>cases u with
  |none=>rfl
  |some _=>exact(show False from r).elim
 |some _=>cases u with
  |none=>exact(show False from r).elim
  |some _=>rfl
theorem KV.val {kvs:List (κ×V)}{vs:List (κ×pv)}(r:KV kvs vs)(k:κ):er (cp kvs k) (valueAt vs k):=by
 unfold KV at r
 induction r with
 |nil=>exact MB
 | @cons p q ps qs h t ih=>
   obtain⟨h1,h2⟩:=h
   by_cases e:p.1=k
   ·have e':q.1=k:=h1.symm.trans e
    have b:valueAt (q::qs) k=some q.2:=by simp[valueAt,MM,e']
    rw[cS e,b];exact h2
   ·have e':¬q.1=k:=fun z=>e (h1.trans z)
    have b:valueAt (q::qs) k=valueAt qs k:=by simp[valueAt,MM,e']
    rw[cT e,b];exact ih
theorem KV.any {kvs:List (κ×V)}{vs:List (κ×pv)}(r:KV kvs vs)(k:κ):(kvs.any fun kv=>decide (kv.1=k))=vs.any fun kv=>decide (kv.1=k):=by
 unfold KV at r
 induction r with
 |nil=>rfl
 |cons h t ih=>rw[OR,OR,ih,h.1]
theorem KV.repl {kvs:List (κ×V)}{vs:List (κ×pv)}(r:KV kvs vs)(k:κ){y:V}{u:pv}(ry:aM y u):
  KV (kvs.map fun kv=>if kv.1=k then(kv.1,y)else kv) (vs.map fun kv=>if kv.1=k then(kv.1,u)else kv):=by
 unfold KV at r⊢
 induction r with
 |nil=>exact .nil
 | @cons p q ps qs h t ih=>
   rw[LJ,LJ]
   refine .cons ?_ ih
   obtain⟨h1,h2⟩:=h
   by_cases e:p.1=k
   ·rw[if_pos e,if_pos (h1.symm.trans e)];exact⟨h1,ry⟩
   ·rw[if_neg e,if_neg (fun z=>e (h1.trans z))];exact⟨h1,h2⟩
theorem KV.put {kvs:List (κ×V)}{vs:List (κ×pv)}(r:KV kvs vs)(k:κ){y:V}{u:pv}(ry:aM y u):KV (ci kvs k y) (stored vs k u):=by
 unfold ci stored
 rw[r.any k]
 by_cases e:(vs.any fun kv=>decide (kv.1=k))=true
 ·rw[if_pos e,if_pos e];exact r.repl k ry
 ·rw[if_neg e,if_neg e];exact Paired.snoc r ⟨rfl,ry⟩
theorem KV.length {kvs:List (κ×V)}{vs:List (κ×pv)}(r:KV kvs vs):kvs.length=vs.length:=Paired.length r
end
theorem mQ {P:Lf}{w:LA}{k:Key}{u:pv}(r:aM (kV k) u):(cG P w).is k u=true:=by
 cases k with
 |inl i=>obtain⟨t,e⟩:=(show ∃t,u=Ol i t from r);subst e;exact oN P w i t
 |inr x=>obtain⟨t,e⟩:=(show ∃t,u=NN x t from r);subst e;exact oO P w x t
theorem rQ {a b:Key}(e:kV a=kV b):a=b:=by
 cases a with
 |inl i=>cases b with
  |inl j=>have e':V.int i=V.int j:=e;injection e' with e';rw[e']
  |inr y=>exact nomatch (show V.int i=V.str y from e)
 |inr x=>cases b with
  |inl j=>exact nomatch (show V.str x=V.int j from e)
  |inr y=>have e':V.str x=V.str y:=e;injection e' with e';rw[e']
theorem lr {P:Lf}{w:LA}:∀{ks:List Key}{us:List pv},aU (ks.map kV) us->ItemsAre (cG P w) ks us
 |[],_,r=>by rw[OZ]at r;cases r;exact .nil
 |k::ks,_,r=>by
  rw[LJ]at r
  cases r with
  |cons h t=>exact .cons (mQ h) (lr t)
abbrev KT (H:Hp):List (List Key×V)->List (List Key×Addr×pv)->Prop:=Paired fun p q=>p.1=q.1/\H q.2.1=some (.tup (p.1.map kV))/\aM p.2 q.2.2
theorem KT.val {H:Hp}{kvs:List (List Key×V)}{xs:List (List Key×Addr×pv)}(r:KT H kvs xs)(k:List Key):er (cp kvs k) ((atKey xs k).map (·.2)):=by
 induction r with
 |nil=>exact MB
 | @cons p q ps qs h t ih=>
   obtain⟨h1,_,h2⟩:=h
   by_cases e:p.1=k
   ·have e':q.1=k:=h1.symm.trans e
    have b:atKey (q::qs) k=some q.2:=by simp[atKey,MM,e']
    rw[cS e,b];exact h2
   ·have e':¬q.1=k:=fun z=>e (h1.trans z)
    have b:atKey (q::qs) k=atKey qs k:=by simp[atKey,MM,e']
    rw[cT e,b];exact ih
theorem KT.repl {H:Hp}{kvs:List (List Key×V)}{xs:List (List Key×Addr×pv)}(r:KT H kvs xs)(k:List Key){y:V}{u:pv}(ry:aM y u):
  KT H (kvs.map fun kv=>if kv.1=k then(kv.1,y)else kv) (xs.map (putAt k u)):=by
 induction r with
 |nil=>exact .nil
 | @cons p q ps qs h t ih=>
   rw[LJ,LJ]
   refine .cons ?_ ih
   obtain⟨h1,h2,h3⟩:=h
   unfold putAt
   by_cases e:p.1=k
   ·rw[if_pos e,if_pos (h1.symm.trans e)];exact⟨h1,h2,ry⟩
   ·rw[if_neg e,if_neg (fun z=>e (h1.trans z))];exact⟨h1,h2,h3⟩
theorem KT.put {H:Hp}{kvs:List (List Key×V)}{xs:List (List Key×Addr×pv)}(r:KT H kvs xs)(k:List Key){b:Addr}{y:V}{u:pv}(hb:H b=some (.tup (k.map kV)))(ry:aM y u):
  KT H (ci kvs k y) (storedH xs k b u):=by
 have e:(kvs.any fun kv=>decide (kv.1=k))=(atKey xs k).isSome:=by
  rw[fH,(r.val k).isSome_eq,Pn]
 unfold ci storedH
 rw[e]
 by_cases q:(atKey xs k).isSome=true
 ·rw[if_pos q,if_pos q];exact r.repl k ry
 ·rw[if_neg q,if_neg q];exact Paired.snoc r ⟨rfl,hb,ry⟩
theorem KT.keeps {H H':Hp}{kvs:List (List Key×V)}{xs:List (List Key×Addr×pv)}(r:KT H kvs xs)(ht:∀b ys,H b=some (.tup ys)->H' b=some (.tup ys)):KT H' kvs xs:=
 Paired.mapP r fun _ _ z=>⟨z.1,ht _ _ z.2.1,z.2.2⟩
section
variable {P:Lf}{w:LA}{H:Hp}{h:Heap}{a:Addr}
theorem xo {u:HO}(ok:HOk P w H h)(e:Rd H a u):bh P w H h a u:=e.ok ok
theorem jB {kvs:List (Key×V)}(ok:HOk P w H h)(e:Rd H a (.dK kvs)):kvs.length<=sizeLine/\(a==sysModules)=false/\∃vs,KV kvs vs/\h.DictOf (cG P w) a vs:=
 show bh P w H h a (.dK kvs)from xo ok e
theorem Hv {kvs:List (Key×V)}(ok:HOk P w H h)(e:H a=some (.dK kvs)):kvs.length<=sizeLine/\(a==sysModules)=false/\∃vs,KV kvs vs/\h.DictOf (cG P w) a vs:=jB ok (.inl e)
theorem jP {ks:List Key}(ok:HOk P w H h)(e:H a=some (.tup (ks.map kV))):(tupleKind (cG P w)).is h ks a:=by
 obtain⟨_,its,r,o,h1,h2,n,h3⟩:=(show bh P w H h a (.tup (ks.map kV))from ok a _ e)
 exact⟨o,its.toArray,n,h1,h2,h3,by simpa using lr r⟩
theorem lT {kvs:List (List Key×V)}(ok:HOk P w H h)(e:Rd H a (.dT kvs)):kvs.length<=sizeLine/\(a==sysModules)=false/\
  ∃xs,KT H kvs xs/\h.DictOfH (tupleKind (cG P w)) a xs:=by
 obtain⟨z,y,xs,r,o,es,ep,h1,h2,h3,h4,h5⟩:=(show bh P w H h a (.dT kvs)from xo ok e)
 refine⟨z,y,xs,r,o,es,ep,h1,h2,h3,h4,fun x hx=>?_,h5⟩
 have all:∀{l:List (List Key×V)}{m:List (List Key×Addr×pv)},KT H l m->∀x∈m,(tupleKind (cG P w)).is h x.1 x.2.1:=by
  intro l m q
  induction q with
  |nil=>intro x hx;exact nomatch hx
  | @cons p q ps qs hq t ih=>
    intro x hx
    rcases If.mp hx with e|hx
    ·subst e
     exact jP ok (by rw[<-hq.1];exact hq.2.1)
    ·exact ih x hx
 exact all r x hx
theorem wR {kvs:List (List Key×V)}(ok:HOk P w H h)(e:H a=some (.dT kvs)):kvs.length<=sizeLine/\(a==sysModules)=false/\
 ∃xs,KT H kvs xs/\h.DictOfH (tupleKind (cG P w)) a xs:=lT ok (.inl e)
end
def fG (H:Hp)(a:Addr)(y:V)(r:Option V):Prop:=
 (∃kvs k,Rd H a (.dK kvs)/\y=kV k/\r=cp kvs k)\/∃kvs k b,Rd H a (.dT kvs)/\y=.ref b/\H b=some (.tup (k.map kV))/\r=cp kvs k
def nJ (H:Hp)(a:Addr)(y v:V)(H':Hp):Prop:=
 (∃kvs k,H a=some (.dK kvs)/\y=kV k/\kvs.length<sizeLine/\H'=upd H a (.dK (ci kvs k v)))\/
 ∃kvs k b,H a=some (.dT kvs)/\y=.ref b/\H b=some (.tup (k.map kV))/\kvs.length<sizeLine/\H'=upd H a (.dT (ci kvs k v))
theorem fG.t {H:Hp}{a b:Addr}{kvs:List (List Key×V)}{k:List Key}(e:H a=some (.dT kvs))(eb:H b=some (.tup (k.map kV))):fG H a (.ref b) (cp kvs k):=.inr ⟨kvs,k,b,.inl e,rfl,eb,rfl⟩
theorem nJ.t {H:Hp}{a b:Addr}{kvs:List (List Key×V)}{k:List Key}{v:V}(e:H a=some (.dT kvs))(eb:H b=some (.tup (k.map kV)))(hl:kvs.length<sizeLine):
 nJ H a (.ref b) v (upd H a (.dT (ci kvs k v))):=.inr ⟨kvs,k,b,e,rfl,eb,hl,rfl⟩
section
variable {X:Cx}{pins:List (Addr×Obj)}{σ:St}{H:Hp}{s:Dc}{a:Addr}{y v:V}{u r:pv}{o:Option V}{A:LC}{E:pv->Dc->Prop}
theorem Inv.big (I:Inv X pins σ H s):sysModules<s.heap.objs.size:=by
 have h:mainGlobals<s.heap.objs.size:=(I.mod.glob.keeps I.bk).lt
 exact Nat.lt_trans (by decide) h
theorem rl {Q:pv->Dc->Prop}(hu:A.units+1<cLine)(I:Inv X pins σ H s)(g:fG H a y (some v))(ry:aM y u)(h:∀w' s',Inv X pins σ H s'->aM v w'->Q w' s'):
  wpAny (model X.prog X.w) A (getItem (.ref a) u) Q E s:=by
 rcases g with⟨kvs,k,e,ey,l⟩|⟨kvs,k,b,e,ey,eb,l⟩
 ·subst ey
  obtain⟨z,hd,vs,rel,dd⟩:=jB I.hok e
  obtain⟨w',hw,rw'⟩:=er.some_of (v:=v) (o:=valueAt vs k) (by rw[l];exact rel.val k)
  exact wpAny_getItem_of (mQ ry) dd.mapOf hw (h w' _ (I.tok _) rw')
 ·subst ey
  cases (show u=Lo b from ry)
  obtain⟨z,hd,xs,rel,dd⟩:=lT I.hok e
  obtain⟨w',hw,rw'⟩:=er.some_of (v:=v) (o:=(atKey xs k).map (·.2)) (by rw[l];exact rel.val k)
  obtain⟨p,hp,hp2⟩:=Option.map_eq_some_iff.mp hw
  refine wpAny_getItem_heap (Oi hu) (jP I.hok eb) dd hp ?_
  rw[hp2]
  exact h w' _ (I.tok _) rw'
theorem yo {Q:pv->Dc->Prop}(hu:A.units+1<cLine)(I:Inv X pins σ H s)(g:fG H a y o)(ry:aM y u)(h:∀s',Inv X pins σ H s'->Q (.bool (!o.isSome)) s'):
  wpAny (model X.prog X.w) A (compareOp .NotIn u (.ref a)) Q E s:=by
 rcases g with⟨kvs,k,e,ey,l⟩|⟨kvs,k,b,e,ey,eb,l⟩
 ·subst ey
  obtain⟨z,hd,vs,rel,dd⟩:=jB I.hok e
  refine wpAny_notIn_of (mQ ry) hd dd.mapOf ?_
  rw[<-(rel.val k).isSome_eq,<-l]
  exact h _ (I.tok _)
 ·subst ey
  cases (show u=Lo b from ry)
  obtain⟨z,hd,xs,rel,dd⟩:=lT I.hok e
  refine wpAny_notIn_heap (Oi hu) (jP I.hok eb) hd dd ?_
  have q:=(rel.val k).isSome_eq
  rw[Pn]at q
  rw[<-q,<-l]
  exact h _ (I.tok _)
theorem pk {h':Heap}{t':Nat}{ob:HO}(I:Inv X pins σ H s)(mu:Mut (H a))(hs:Nh a s.heap h')(he:∃q,h'.get? a=some q)(new:bh X.prog X.w (upd H a ob) h' a ob):
  Inv X pins σ (upd H a ob) {s with heap:=h',toks:=t'}:=
 I.write (x:=a) (e:=a) mu (.inl rfl) (fun b q hb z=>(hs.2 b hb).trans z) he new
theorem AZ {P:Lf}{w:LA}{H':Hp}{h':Heap}{kvs:List (Key×V)}{vs:List (Key×pv)}(z:kvs.length<=sizeLine)(hd:(a==sysModules)=false)(rel:KV kvs vs)(dd:h'.DictOf (cG P w) a vs):
 bh P w H' h' a (.dK kvs):=⟨z,hd,vs,rel,dd⟩
theorem rS {H':Hp}{Q:Unit->Dc->Prop}(hu:A.units+1<cLine)(I:Inv X pins σ H s)(g:nJ H a y v H')(ry:aM y u)(rv:aM v r)(h:∀s',Inv X pins σ H' s'->Q () s'):
  wpAny (model X.prog X.w) A (setItem (.ref a) u r) Q E s:=by
 rcases g with⟨kvs,k,e,ey,l,eH⟩|⟨kvs,k,b,e,ey,eb,l,eH⟩
 ·subst ey eH
  obtain⟨z,hd,vs,rel,dd⟩:=Hv I.hok e
  have hz:vs.length<=sizeLine:=by rw[<-rel.length];exact z
  have hl:(ci kvs k v).length<=sizeLine:=by have:=gl kvs k v;omega
  refine wpAny_setItem_pairs (hsz:=hz) (mQ ry) dd fun h' dd' hs=>h _ ?_
  have he:∃q,h'.get? a=some q:=let ⟨q,_,_,hq,_⟩:=dd';⟨q,hq⟩
  exact pk I (by rw[e];exact MB) hs he (AZ hl hd (rel.put k rv) dd')
 ·subst ey eH
  cases (show u=Lo b from ry)
  obtain⟨z,hd,xs,rel,dd⟩:=wR I.hok e
  have hz:xs.length<=sizeLine:=by rw[<-Paired.length rel];exact z
  have hl:(ci kvs k v).length<=sizeLine:=by have:=gl kvs k v;omega
  refine wpAny_setItem_heap (hsz:=hz) (Oi hu) (jP I.hok eb) dd fun h' dd' hs=>h _ ?_
  obtain⟨q,es,ep,hq,h2,h3,h4,_,h5⟩:=dd'
  refine pk I (by rw[e];exact MB) hs ⟨q,hq⟩ ⟨hl,hd,_,(rel.put k eb rv).keeps fun c ys ec=>?_,q,es,ep,hq,h2,h3,h4,h5⟩
  rw[am (bu ec e (fun z=>nomatch z))]
  exact ec
end
section
variable {X:Cx}{pins:List (Addr×Obj)}{σ:St}{H:Hp}{s:Dc}{a:Addr}{kvs:List (Key×V)}{k:Key}{u:pv}{A:LC}{E:pv->Dc->Prop}
theorem Ep {Q:pv->Dc->Prop}(I:Inv X pins σ H s)(e:Rd H a (.dK kvs))(h:∀t s',Inv X pins σ H s'->Q (.int kvs.length t) s'):wpAny (model X.prog X.w) A (call (.builtin "len") [.ref a]) Q E s:=by
 obtain⟨z,hd,vs,rel,dd⟩:=jB I.hok e
 refine call_len_dict hd dd (by rw[<-rel.length];rw[Nl]at z;omega) ?_
 rw[<-rel.length]
 exact h _ _ (I.tok _)
end
theorem oJ {X:Cx}{pins:List (Addr×Obj)}{σ:St}{H:Hp}{s:Dc}{a:Addr}{y:V}{o:Option V}(I:Inv X pins σ H s)(g:fG H a y o):s.TypeIs (.ref a) "dict":=by
 rcases g with⟨kvs,k,e,_,_⟩|⟨kvs,k,b,e,_,_,_⟩
 ·obtain⟨_,_,vs,_,dd⟩:=jB I.hok e
  exact dd.typeIs
 ·obtain⟨_,_,xs,_,dd⟩:=lT I.hok e
  exact dd.typeIs
theorem vx {P:Lf}{w:LA}{H:Hp}(h:Heap)(hb:sysModules<h.objs.size):bh P w H (h.push {cls:=.type "dict",data:=.dict #[]}) h.objs.size (.dK []):=
 ⟨Li _,beq_eq_false_iff_ne.mpr (KP (Ld hb)),[],.nil,Heap.DictOf.new h⟩
theorem vB {P:Lf}{w:LA}{H:Hp}(h:Heap)(hb:sysModules<h.objs.size):bh P w H (h.push {cls:=.type "dict",data:=.dict #[]}) h.objs.size (.dT []):=
 ⟨Li _,beq_eq_false_iff_ne.mpr (KP (Ld hb)),[],.nil,_,#[],0,Lg _ rfl,⟨rfl,rfl,rfl⟩,rfl,rfl,OH⟩
def ss:TE:=fun _ H Q=>∀p,H p=none->Q (.ref p) (upd H p (.dK []))
def rW:TE:=fun _ H Q=>∀p,H p=none->Q (.ref p) (upd H p (.dT []))
section
variable {X:Cx}{pos:Pos}
theorem wz:PE X (.Dict [] [] pos) ss:=fun pins s σ H Q I h=>
 wpAny_Dict_empty ⟨.ref s.heap.objs.size,_,I.laid (a:=s.heap.objs.size) (o:=.dK []) (t':=s.toks) (fun _ _ q=>wr _ q) (gV _) (vx s.heap I.big),rfl,h _ (I.hok.fresh (gV _))⟩
theorem uy:PE X (.Dict [] [] pos) rW:=fun pins s σ H Q I h=>
 wpAny_Dict_empty ⟨.ref s.heap.objs.size,_,I.laid (a:=s.heap.objs.size) (o:=.dT []) (t':=s.toks) (fun _ _ q=>wr _ q) (gV _) (vB s.heap I.big),rfl,h _ (I.hok.fresh (gV _))⟩
end
end L2
namespace Att
open PySem PySem.W PySem.Calls PyProof.Rows
theorem ints_of_wellAll {P:Params}{h:Heap}:∀(ns:List Int)(vs:List pv),WellAll P h vs (ns.map WData.int)->Ql vs ns:=by
 intro ns
 induction ns with
 |nil=>
  intro vs w
  rw[OZ]at w
  cases w
  exact .nil
 |cons n ns ih=>
  intro vs w
  rw[LJ]at w
  cases w with
  |cons a b=>
   cases a
   exact .cons _ _ (ih _ b)
theorem script_of {l:OpenLaw}{n:Nat}(hn:l.most=some n){P:Params}{h:Heap}{args:List WData}{vals:List pv}
  (hpre:l.row.toRowW.claim.pre args=true)(hwl:WellAll P h vals args):
  ∃a vs ns,vals=[Lo a]/\args=[WData.list (ns.map WData.int)]/\h.get? a=some {cls:=.type "list",data:=.seq vs.toArray}/\Ql vs ns/\ns.length<=n:=by
 have hsh:WShape.hasAll [] args [.list .int]=true:=(pre_splitW hpre).1
 have hc:l.pre.holds [] {args:=args}=true:=(pre_splitW hpre).2
 obtain⟨d,r,rfl,h1,h2⟩:=hasAllW_cons hsh
 obtain rfl:=hasAllW_nil h2
 obtain⟨xs,rfl,h3⟩:=hasW_list h1
 obtain⟨ns,rfl⟩:=items_int h3
 have hlen:ns.length<=n:=by
  unfold OpenLaw.pre at hc
  have h4:(WTm.not (.lt (.lit (.int (n:Int))) (.len (.arg 0)))).holds [] {args:=[.list (ns.map .int)]}=true:=by
   have h4:=(holds_andW hc).1
   rw[hn]at h4
   exact h4
  have h5:=condW_of h4 (w_not (w_lt w_lit (w_len_list (w_arg rfl))))
  rw[Lq]at h5
  refine Nat.le_of_not_lt fun q=>?_
  have q':(n:Int)<((ns.length:Nat):Int):=by omega
  first
   |(rw[decide_eq_true q']at h5;exact absurd h5 (by decide))
   |(simp at h5;omega)
 cases hwl with
 |cons w1 w2=>
  cases w2
  cases w1 with
  |list ho hall=>exact⟨_,_,ns,rfl,rfl,ho,ints_of_wellAll ns _ hall,hlen⟩
theorem post_true (l:OpenLaw)(args:List WData):l.row.toRowW.claim.post args (.bool true) args=true:=
 postW_of (r:=l.row.toRowW) (X:=(true==true))
  (show WShape.has [] (.bool true) .bool=true by first|rfl|decide|simp[WShape.has,WShape.arms,WShape.armsAll])
  (show(WTm.eq .res (.lit (.bool true))).value [] {args:=args,res:=some (.bool true),after:=args}=some (.bool (true==true))from w_eq_bool (w_res rfl) w_lit) rfl
theorem attach_call {l:OpenLaw}{n:Nat}{q:Lf}{loose:List Str}{XP:(Str->Option pv)->Heap->Prop}{YP:LA->Heap->Prop}{d:DefRec}
  (hn:l.most=some n)(hdf:d.params.defaults=[])
  (call:∀(w:LA)(s₀ s₁:Dc)(mg mb:Str->Option pv)(fa:Addr)(o:Obj)(pm cd doc:pv)(a:Addr)(vs:List pv)(ns:List Int),
   Ground q loose [] XP w s₀ mg mb s₁.heap->YP w s₁.heap->
   s₁.heap.get? fa=some o->o.data=.func (docDef d.name d.params d.body d.scope pm cd doc)->s₁.heap.CodeRec cd d.name->mg d.name=some (.ref fa)->
   s₁.heap.get? a=some {cls:=.type "list",data:=.seq vs.toArray}->Ql vs ns->ns.length<=n->s₁.gens=#[]->
   codeAny (model l.prog w) callerA (.call (.ref fa) ⟨[.ref a],[]⟩) (fun r s'=>r=.ok (.ret (.bool true))/\OldK s₁.heap s'.heap/\s'.os=s₁.os/\Nz s'.gens) s₁):
  WalkO q loose XP YP l.row.toRowW d [] (fun f vs=>Ps f vs):=by
 intro w s₀ s₁ mg mb G Y fa o pm cd doc dV kV ho hd hcd hD hmg hg args vals as hpre hlay hrd hwl hlo
 obtain rfl:dV=.none:=Dflts.none hD hdf
 obtain rfl:kV=.none:=Dflts.noKw hD
 obtain⟨a,vs,ns,rfl,rfl,hobj,hints,hlen⟩:=script_of hn hpre hwl
 refine enter_call (Mr (call w s₀ s₁ mg mb fa o pm cd doc a vs ns G Y ho (fd_plain hd) hcd hmg hobj hints hlen hg) fun r s' hq=>?_)
 obtain⟨rfl,h2,h3,h4⟩:=hq
 exact⟨.inl ⟨.bool true,.bool true,[],rfl,fun _=>rfl,.bool true,post_true l _,fun _=>⟨Rh,fun _ hm=>(nomatch hm)⟩⟩,h2,h3,h4⟩
end Att
namespace L2
open PySem PySem.Spec PyProof.Rows
theorem kZ:∀{vs:List pv}{ns:List Int},Ql vs ns->aU (ns.map V.int) vs
 |_,_,.nil=>.nil
 |_,_,.cons n t h=>.cons ⟨t,rfl⟩ (kZ h)
def bN (s:Stmt):Arguments:=match s with
 |.FunctionDef _ a _ _ _ _ _ _ _ _=>a
 |_=>{posonlyargs:=[],args:=[],vararg:=none,kwonlyargs:=[],kw_defaults:=[],kwarg:=none,defaults:=[]}
def bi (s:Stmt):List Stmt:=match s with
 |.FunctionDef _ _ b _ _ _ _ _ _ _=>b
 |_=>[]
def aj (s:Stmt):Scope:=match s with
 |.FunctionDef _ _ _ _ _ _ sc _ _ _=>sc
 |_=>{kind:=.function,names:=[],isGenerator:=false,isCoroutine:=false}
abbrev E0:XK:=fun _ _ _=>False
structure Fun (K:cW)(x qual:Str)(st:Stmt)(f:Addr)(fd:Gt):Prop where
 ex:∃(oc:pv)(od:Option Addr)(kV doc pm:pv)(an:Option Addr)(cdv ct:pv)(osl:Array (Option pv)),
  fd=ML x qual (bN st) (bi st) (aj st) .none kV doc pm an cdv ct/\K.lookup f=some ⟨oc,od,.func fd,osl⟩/\Qa K cdv qual=true
 kp:Mg K (.ref f)=true
section
variable {P:Lf}{w:LA}{K:cW}{mg:Str->Option pv}{base:Heap}
theorem Fun.binds {x qual:Str}{st:Stmt}{f:Addr}{fd:Gt}{ps:List Str}(F:Fun K x qual st f fd)
  (h:∀(kV doc pm:pv)(an:Option Addr)(cdv ct:pv)(us:List pv),us.length=ps.length->bindArgs (ML x qual (bN st) (bi st) (aj st) .none kV doc pm an cdv ct) ⟨us,[]⟩=pure (ps.zip us)):aF K fd ps []:=by
 obtain⟨oc,od,kV,doc,pm,an,cdv,ct,osl,rfl,lk,hcd⟩:=F.ex
 exact .all (h kV doc pm an cdv ct)
theorem aH {x qual:Str}{st:Stmt}{f:Addr}{oc:pv}{od an:Option Addr}{osl:Array (Option pv)}{kV doc pm cdv ct:pv}(l:K.lookup f=some ⟨oc,od,.func (ML x qual (bN st) (bi st) (aj st) .none kV doc pm an cdv ct),osl⟩)
 (c:Qa K cdv qual=true)(k:Mg K (.ref f)=true):Fun K x qual st f (ML x qual (bN st) (bi st) (aj st) .none kV doc pm an cdv ct):=⟨⟨oc,od,kV,doc,pm,an,cdv,ct,osl,rfl,l,c⟩,k⟩
end
theorem eI {n:Nat}(h:n<=1000):n<sizeLine:=LK h (by decide)
section
variable {X:Cx}
theorem sr:bP X (.builtin "len") (fun xs H Q=>∃a kvs,xs=[V.ref a]/\H a=some (.dK kvs)/\Q (.int kvs.length) H):=by
 intro pins s σ H xs us Q I r h
 obtain⟨a,kvs,rfl,ha,q⟩:=h
 obtain⟨u,rfl,ru⟩:=iG r
 cases ru
 exact Ep I (.inl ha) fun t s' I'=>⟨.int kvs.length,H,I',⟨t,rfl⟩,q⟩
end
theorem Kh {A B:Prop}(h:A):if true=true then A else B:=by
 rw[if_pos rfl]
 exact h
def ar (H H':Hp):Prop:=∀b o,H b=some o->H' b=some o
theorem ar.trans {H H1 H2:Hp}(a:ar H H1)(b:ar H1 H2):ar H H2:=fun c o h=>b c o (a c o h)
def dC:List (Str×Mm)->List (Str×Addr)->List (Str×Addr)->List (Str×Addr)
 |[],_,cs=>cs
 |(n,k)::r,cells,cs=>dC r cells (if k==.free then(match cells.lookup n with|some a=>(n,a)::cs|none=>cs)else cs)
theorem oh {scope:Scope}{env:Env}(h:∀y∈scope.names,y.2=.free->(env.cells.lookup y.1).isSome=true):closureFor scope env=pure (dC scope.names env.cells []):=by
 have key:∀(l:List (Str×Mm))(cs:List (Str×Addr)),(∀y∈l,y.2=.free->(env.cells.lookup y.1).isSome=true)->
   (forIn l cs (fun(x:Str×Mm)(cs:List (Str×Addr))=>(if (x.2==Mi)=true then(do let a<-cellOf env x.1;pure (Pm ((x.1,a)::cs)))else(pure (Pm cs):Sem _))):Sem (List (Str×Addr)))=pure (dC l env.cells cs):=by
  intro l
  induction l with
  |nil=>intro cs _;rfl
  |cons y r ih=>
   intro cs hy
   obtain⟨n,k⟩:=y
   rw[Qe]
   by_cases hk:k=.free
   ·subst hk
    have hs:=hy (n,.free) Lj rfl
    cases e:env.cells.lookup n with
    |none=>rw[e]at hs;cases hs
    |some a=>
     have:=ih ((n,a)::cs) (fun z hz=>hy z (Lb _ hz))
     simp only[dC,beq_self_eq_true,if_true,e,cellOf,PY]
     exact this
   ·have hb:(k==Mi)=false:=by simpa using hk
    have:=ih cs (fun z hz=>hy z (Lb _ hz))
    simp only[dC,hb,NS,if_false,PY]
    exact this
 have:=key scope.names [] h
 unfold closureFor
 simpa using this
theorem lh:∀{l:List (Str×Mm)}{cells cs:List (Str×Addr)}{x:Str}{c:Addr},(∀x c,cs.lookup x=some c->cells.lookup x=some c)->(dC l cells cs).lookup x=some c->cells.lookup x=some c
 |[],_,_,_,_,h,e=>h _ _ e
 |(n,k)::r,cells,cs,x,c,h,e=>by
  refine lh (l:=r) (fun y d hy=>?_) e
  split at hy
  ·split at hy
   ·rename_i a ha
    by_cases hyn:y=n
    ·subst hyn
     rw[Pb]at hy
     rw[<-hy];exact ha
    ·rw[Mp]at hy
     have:(y==n)=false:=by simpa using hyn
     rw[this]at hy
     exact h _ _ hy
   ·exact h _ _ hy
  ·exact h _ _ hy
theorem jC:∀{l:List (Str×Mm)}{cells cs:List (Str×Addr)}{x:Str},(cs.lookup x).isSome=true->((dC l cells cs).lookup x).isSome=true
 |[],_,_,_,h=>h
 |(n,k)::r,cells,cs,x,h=>by
  refine jC (l:=r) ?_
  split
  ·split
   ·rw[Mp]
    split
    ·rfl
    ·exact h
   ·exact h
  ·exact h
theorem ij:∀{l:List (Str×Mm)}{cells cs:List (Str×Addr)}{x:Str},(x,Mi)∈l->(cells.lookup x).isSome=true->((dC l cells cs).lookup x).isSome=true
 |[],_,_,_,h,_=>by cases h
 |(n,k)::r,cells,cs,x,h,hs=>by
  rcases If.mp h with e|h
  ·cases e
   refine jC (l:=r) ?_
   simp only[beq_self_eq_true,if_true]
   cases e:cells.lookup n with
   |none=>rw[e]at hs;cases hs
   |some a=>simp only[Pb];rfl
  ·exact ij (l:=r) h hs
theorem jK {x:Str}{k:Mm}:∀{l:List (Str×Mm)},l.lookup x=some k->(x,k)∈l:=fun h=>LQ h
inductive gn (X:Cx)(scope:Scope):List Str->List Nat->Prop where
 |nil:gn X scope [] []
 |cons {y:Str} {i:Nat} {ys:List Str} {is:List Nat} (h1:X.N[i]?=some y) (h2:X.env.kindOf y=some .cell\/X.env.kindOf y=some .free) (h3:scope.names.lookup y=some .free) (h:gn X scope ys is):gn X scope (y::ys) (i::is)
structure gh (scope:Scope)(x:Str)(ys:List Str):Prop where
 kind:scope.kind=.function
 nocell:∀y∈scope.names,y.2≠.cell
 names:∀y∈scope.names,y.2=.local->scope.names.lookup y.1=some .local
 own:scope.names.lookup x=some .local
 all:∀y∈scope.names,y.2=.free->y.1∈ys
 nd:(x::ys).Nodup
def bK (X:Cx)(scope:Scope)(C:Addr)(N:List Str)(s:Dc)(H:Hp)(fp:List Addr):Cx:=
 {X with N:=N,s₀:=s,H₀:=H,env:=compEnvC scope (dC scope.names X.env.cells []) C X.env,outer:=X.stack,ex:=fp,fn:=fun _=>false,pn:=[],xe:=fun _ _=>False}
def bQ (σ:St)(is:List Nat):St:=is.map fun i=>(σ[i]?).getD none
theorem gC {f:Str×Mm->Str×Mm}(hf:∀p,(f p).1=p.1){x:Str}:∀(l:List (Str×Mm)),(l.map f).lookup x=(l.lookup x).map fun k=>(f (x,k)).2
 |[]=>rfl
 |(n,k)::r=>by
  have ih:=gC hf (x:=x) r
  have e:f (n,k)=(n,(f (n,k)).2):=Prod.ext (hf (n,k)) rfl
  rw[LJ,e,Mp,Mp]
  cases hx:x==n with
  |true=>
   have e':x=n:=by simpa using hx
   subst e';rfl
  |false=>exact ih
theorem gQ (scope:Scope)(env:Env)(x:Str):(relabel scope env).names.lookup x=(scope.names.lookup x).map fun k=>if (k==Mi&&env.scope.kind==.function&&env.kindOf x==some .cell)then Nj else k:=by
 have hf:∀p:Str×Mm,((fun(n,k)=>if (k==Mi&&env.scope.kind==.function&&env.kindOf n==some .cell)then(n,Nj)else(n,k)) p:Str×Mm).1=p.1:=by
  intro p
  obtain⟨n,k⟩:=p
  show(if _ then(n,Nj)else(n,k)).1=n
  split<;>rfl
 have:=gC hf (x:=x) scope.names
 show Me x (List.map _ scope.names)=_
 rw[this]
 congr 1
 funext k
 show(if _ then(x,Nj)else(x,k)).2=_
 split<;>rfl
theorem gA {scope:Scope}{env:Env}{x:Str}{k:Mm}(nc:∀y∈scope.names,y.2≠.cell)(h:(relabel scope env).names.lookup x=some k)(hk:k=.cell\/k=.free):(x,Mi)∈scope.names:=by
 rw[gQ]at h
 cases q:scope.names.lookup x with
 |none=>rw[q]at h;cases h
 |some k'=>
  have hm:=jK q
  rw[q]at h
  have h:(if (k'==Mi&&env.scope.kind== .function&&env.kindOf x==some .cell)then Nj else k')=k:=KN h
  by_cases hc:k'=.free
  ·subst hc;exact hm
  ·have hb:(k'==Mi)=false:=by simpa using hc
   rw[hb]at h
   have h:k'=k:=h
   subst h
   rcases hk with z|z
   ·exact absurd z (nc _ hm)
   ·exact absurd z hc
theorem nv {scope:Scope}{env:Env}{x:Str}(h:scope.names.lookup x=some .free):(relabel scope env).names.lookup x=some .cell\/(relabel scope env).names.lookup x=some .free:=by
 rw[gQ,h]
 show some (if _ then _ else _)=_\/some (if _ then _ else _)=_
 split
 ·exact .inl rfl
 ·exact .inr rfl
theorem ls {scope:Scope}{env:Env}{x:Str}(h:scope.names.lookup x=some .local):(relabel scope env).names.lookup x=some .local:=by
 rw[gQ,h];rfl
theorem rO {X:Cx}{scope:Scope}{ys:List Str}{is:List Nat}{m:Str->Option pv}{h:Heap}{σ:St}(hc:gn X scope ys is)
  (hl:∀(i:Nat)(x:Str)(v:V),X.N[i]? =some x->σ[i]? =some (some v)->Vis X.env.scope x->∃u,aM v u/\zI X.env h m x u)(nd:True):
  ∀(j:Nat)(y:Str)(v:V),ys[j]? =some y->(bQ σ is)[j]? =some (some v)->∃u,aM v u/\scope.names.lookup y=some .free/\∃c,X.env.cells.lookup y=some c/\h.IsCell c (some u):=by
 induction hc with
 |nil=>intro j y v e;simp at e
 | @cons z i zs js h1 h2 h3 hr ih=>
   intro j y v e1 e2
   cases j with
   |zero=>
    simp at e1;subst e1
    have e2:(σ[i]?).getD none=some v:=by simpa[bQ]using e2
    have e3:σ[i]? =some (some v):=by
     cases q:σ[i]? with
     |none=>rw[q]at e2;simp at e2
     |some o=>rw[q]at e2;simp at e2;rw[e2]
    have hv:Vis X.env.scope z:=by
     rcases h2 with q|q
     ·exact .inr (.inl q)
     ·exact .inr (.inr q)
    obtain⟨u,r,l⟩:=hl i z v h1 e3 hv
    refine⟨u,r,h3,?_⟩
    rcases l with⟨k,_⟩|⟨_,c,e,ic⟩
    ·rcases h2 with q|q
     ·rw[q]at k;cases k
     ·rw[q]at k;cases k
    ·exact⟨c,e,ic⟩
   |succ j=>
    exact ih j y v (by simpa using e1) (by simpa[bQ]using e2)
def xG (is:List Nat)(tc:TT)(te:TE)(σ:St)(D:Addr)(J:It)(H1:Hp)(Q:VK):Prop:=∃W:Nat->Nat->List V->Hp->Prop,(∃m,W 0 m [] (upd H1 D (.lst [])))/\
 ∀i m ys H2,W i m ys H2->(J.stop i H2/\Q (.ref D) H2)\/(J.go i H2/\∀x H3,J.yld i H2 x H3->tc (some x::bQ σ is) H3 fun b H4=>if b=true then
  te (some x::bQ σ is) H4 fun y H5=>H5 D=some (.lst ys)/\ys.length<sizeLine/\∃m',m'<m/\W (i+1) m' (ys++[y]) (upd H5 D (.lst (ys++[y])))
  else ∃m',m'<m/\W (i+1) m' ys H4)
def pK (is:List Nat)(wi:TI)(tc:TT)(te:TE):TE:=fun σ H Q=>wi σ H fun J H1=>∀D,H1 D=none->xG is tc te σ D J H1 Q
theorem oP (elt target iter c:Expr)(scope:Scope)(pos:Pos)(it acc:pv)(env:Env):
  compTurn (.ListComp elt [⟨target,iter,[c],0⟩] scope pos) 0 it acc env=(standAt iter.pos >>= fun _=>pyNext it >>= fun r=>match r with
   |none=>pure (.done .next)
   |some v=>letOwnedTupleGo target it v >>= fun _=>assign target env v >>= fun _=>isTrue c env (eval c env) >>= fun ok=>
    (if ok=true then(eval elt env >>= fun x=>call (.builtin "list.append") [acc,x] >>= fun _=>pure ())else pure ()) >>= fun _=>
     again (.compLoop (.ListComp elt [⟨target,iter,[c],0⟩] scope pos) 0 it acc env)):=by
 unfold compTurn
 simp only[Qe,List.forIn_nil,List.getElem?_cons_zero,List.getElem?_cons_succ,List.getElem?_nil,bind_assoc,PY,bne_self_eq_false,NS,if_false,if_true]
 congr 1
 funext _
 congr 1
 funext r
 cases r with
 |none=>rfl
 |some v=>
  simp only[bind_assoc,PY,if_true]
  congr 1;funext _
  congr 1;funext _
  congr 1;funext b
  cases b<;>simp
section
variable {prog:Lf}{w:LA}{A:LC}{R:PN->Dc->Prop}{s:Dc}
theorem hR {elt target iter c:Expr}{scope:Scope}{pos:Pos}{it acc:pv}{env:Env}(I:Nat->Dc->Prop)
  (turn:∀n s,I n s->wpAny (model prog w) A (pyNext it) (fun r s₁=>match r with
   |none=>R (.ok .next) s₁
   |some v=>wpAny (model prog w) A (letOwnedTupleGo target it v) (fun _ s₁=>wpAny (model prog w) A (assign target env v) (fun _ s₂=>wpAny (model prog w) A (isTrue c env (eval c env)) (fun ok s₂=>if ok=true then wpAny (model prog w) A (eval elt env) (fun x s₃=>
    wpAny (model prog w) A (call (.builtin "list.append") [acc,x]) (fun _ s₄=>∃m,m<n/\I m s₄) (notedBy (model prog w) A env fun e s'=>R (.error e) s') s₃)
    (notedBy (model prog w) A env fun e s'=>R (.error e) s') s₂ else ∃m,m<n/\I m s₂) (notedBy (model prog w) A env fun e s'=>R (.error e) s') s₂) (notedBy (model prog w) A env fun e s'=>R (.error e) s') s₁) (notedBy (model prog w) A env fun e s'=>R (.error e) s') s₁) (notedBy (model prog w) A env fun e s'=>R (.error e) s') s)
  (n:Nat)(h:I n s):
  codeAny (model prog w) A (.compLoop (.ListComp elt [⟨target,iter,[c],0⟩] scope pos) 0 it acc env) R s:=by
 refine codeAny_loop rfl I (fun n s hI=>?_) n h
 show wpAny _ _ ((compTurn (.ListComp elt [⟨target,iter,[c],0⟩] scope pos) 0 it acc env).onRaise (fun x=>do noteFrame x env;theTreesLotGoes x)) _ _ s
 refine wpAny_noted ?_
 rw[oP]
 refine KJ (Pq (KJ (Lk (turn n s hI) (fun r s₁ h₁=>?_) fun _ _ h'=>h')))
 cases r with
 |none=>exact La h₁
 |some v=>
  refine KJ (Lk h₁ (fun _ s₁ h₁=>KJ (Lk h₁ (fun _ s₂ h₂=>KJ (Lk h₂ (fun ok s₃ h₃=>?_) fun _ _ h'=>h')) fun _ _ h'=>h')) fun _ _ h'=>h')
  cases ok with
  |true=>
   rw[if_pos rfl]at h₃
   simp only[if_true]
   exact KJ (KJ (Lk h₃ (fun x s₃ h₃=>KJ (Lk h₃ (fun _ s₄ h₄=>La (La ⟨rfl,h₄⟩)) fun _ _ h'=>h')) fun _ _ h'=>h'))
  |false=>
   rw[if_neg Lc]at h₃
   simp only[NS,if_false]
   exact KJ (La (La ⟨rfl,h₃⟩))
theorem hV {elt target iter:Expr}{scope:Scope}{pos:Pos}{it acc:pv}{env:Env}(I:Nat->Dc->Prop)
  (turn:∀n s,I n s->wpAny (model prog w) A (pyNext it) (fun r s₁=>match r with
   |none=>R (.ok .next) s₁
   |some v=>wpAny (model prog w) A (letOwnedTupleGo target it v) (fun _ s₁=>wpAny (model prog w) A (assign target env v) (fun _ s₂=>wpAny (model prog w) A (eval elt env) (fun x s₃=>
    wpAny (model prog w) A (call (.builtin "list.append") [acc,x]) (fun _ s₄=>∃m,m<n/\I m s₄) (notedBy (model prog w) A env fun e s'=>R (.error e) s') s₃)
    (notedBy (model prog w) A env fun e s'=>R (.error e) s') s₂) (notedBy (model prog w) A env fun e s'=>R (.error e) s') s₁) (notedBy (model prog w) A env fun e s'=>R (.error e) s') s₁) (notedBy (model prog w) A env fun e s'=>R (.error e) s') s)
  (n:Nat)(h:I n s):
  codeAny (model prog w) A (.compLoop (.ListComp elt [⟨target,iter,[],0⟩] scope pos) 0 it acc env) R s:=by
 refine codeAny_loop rfl I (fun n s hI=>?_) n h
 show wpAny _ _ ((compTurn (.ListComp elt [⟨target,iter,[],0⟩] scope pos) 0 it acc env).onRaise (fun x=>do noteFrame x env;theTreesLotGoes x)) _ _ s
 refine wpAny_noted ?_
 rw[compTurn_list1]
 refine KJ (Pq (KJ (Lk (turn n s hI) (fun r s₁ h₁=>?_) fun _ _ h'=>h')))
 cases r with
 |none=>exact La h₁
 |some v=>
  exact KJ (Lk h₁ (fun _ s₁ h₁=>KJ (Lk h₁ (fun _ s₂ h₂=>KJ (KJ (Lk h₂ (fun x s₃ h₃=>KJ (Lk h₃
   (fun _ s₄ h₄=>La (La ⟨rfl,h₄⟩)) fun _ _ h'=>h')) fun _ _ h'=>h'))) fun _ _ h'=>h')) fun _ _ h'=>h')
end
def tJ (X:Cx)(ifs:List Expr)(tc:TT):Prop:=match ifs with
 |[]=>tc=fun _ H Q=>Q true H
 |[c]=>PT X c tc
 |_=>False
section
variable {X:Cx}
theorem vU {scope:Scope}{ys:List Str}{is:List Nat}(h:gn X scope ys is):is.length=ys.length:=by
 induction h with
 |nil=>rfl
 |cons _ _ _ _ ih=>simp[ih]
theorem kW {scope:Scope}{ys:List Str}{is:List Nat}(h:gn X scope ys is){y:Str}(hy:y∈ys):X.env.kindOf y=some .cell\/X.env.kindOf y=some .free:=by
 induction h with
 |nil=>cases hy
 |cons _ h2 _ _ ih=>
  rcases If.mp hy with e|e
  ·rw[e];exact h2
  ·exact ih e
theorem sQ {elt iter:Expr}{ifs:List Expr}{x:Str}{px pos:Pos}{scope:Scope}{ys:List Str}{is:List Nat}{tc:TT}{te:TE}{pins:List (Addr×Obj)}{σ:St}{H2:Hp}{s2:Dc}{it:Addr}{fp:List Addr}{tn:Nat->Heap->Prop}{J:It}{E:pv->Dc->Prop}{Q:VK}{RR:pv->Addr->PN->Dc->Prop}
  (hc:X.calm=true)(S:gh scope x ys)(hcap:gn X scope ys is)
  (hif:∀C s H fp,tJ (bK X scope C (x::ys) s H fp) ifs tc)(he:∀C s H fp,PE (bK X scope C (x::ys) s H fp) elt te)
  (I2:Inv X pins σ H2 s2)(T:kF X.prog X.w X.K (.Name x px) J fp it tn)(st2:tn 0 s2.heap)(f2:∀b∈fp,ir X pins H2 b)
  (hW:∀D,H2 D=none->∃W:Nat->Nat->List V->Hp->Prop,(∃m,W 0 m [] (upd H2 D (.lst [])))/\
   ∀i m ys H2,W i m ys H2->(J.stop i H2/\Q (.ref D) H2)\/(J.go i H2/\∀x H3,J.yld i H2 x H3->tc (some x::bQ σ is) H3 fun b H4=>if b=true then
    te (some x::bQ σ is) H4 fun y H5=>H5 D=some (.lst ys)/\ys.length<sizeLine/\∃m',m'<m/\W (i+1) m' (ys++[y]) (upd H5 D (.lst (ys++[y])))
    else ∃m',m'<m/\W (i+1) m' ys H4))
  (hRR:∀D C H' s',(X.s₀.heap.objs.size<=C/\∀p∈X.pn++pins,p.1≠C)->(∃m,s'.heap.Ns C m)->C≠X.env.locals->H' C=none->Inv X pins σ H' s'->(∀h',Nh C s'.heap h'->Inv X pins σ H' {s' with heap:=h'})->Q (.ref D) H'->RR (.ref D) C (.ok .next) s'):
  wpAny (model X.prog X.w) X.A (newList []) (fun acc s₃=>wpAny (model X.prog X.w) X.A (newFunctionEnv scope X.env.globals (dC scope.names X.env.cells []) [] X.env.qual none .none (some X.env)) (fun cenv s₄=>
   codeAny (model X.prog X.w) X.A (.compStart (.ListComp elt [⟨.Name x px,iter,ifs,0⟩] scope pos) 0 (.ref it) acc {cenv with scope:=relabel scope X.env}) (RR acc cenv.locals) s₄) E s₃) E s2:=by
 have hf2:H2 s2.heap.objs.size=none:=I2.fresh
 refine MV (NT S.nocell (by intro y hy;simp at hy) (fun h₁ hns₁ hsb₁=>?_) S.kind)
 dsimp only at hns₁ hsb₁⊢
 have I3:Inv X pins σ (upd H2 s2.heap.objs.size (.lst [])) {s2 with heap:=s2.heap.push {cls:=.type "list",data:=.seq ([]:List pv).toArray}}:=I2.lnew (t':=s2.toks) (ys:=[]) .nil (Li _)
 obtain⟨W,⟨m0,w0⟩,turn⟩:=hW _ hf2
 generalize hD:s2.heap.objs.size=D at I3 w0 turn hf2⊢
 generalize hs3:({s2 with heap:=s2.heap.push {cls:=.type "list",data:=.seq ([]:List pv).toArray}}:Dc)=s3 at I3
 have hp3:s2.heap.push {cls:=.type "list",dict:=none,data:=.seq ([]:List pv).toArray}=s3.heap:=by rw[<-hs3]
 rw[hp3]at hns₁ hsb₁⊢
 have tk3:s2.toks=s3.toks:=by rw[<-hs3]
 generalize hH3:upd H2 D (.lst [])=H3 at I3 w0
 generalize hC:s3.heap.objs.size=C at hns₁ hsb₁⊢
 have keep2:∀b o,s2.heap.get? b=some o->s3.heap.get? b=some o:=fun b o e=>by rw[<-hp3];exact wr _ e
 have keep3:∀b o,s3.heap.get? b=some o->h₁.get? b=some o:=fun b o e=>hsb₁.extBut b o (by rw[<-hC];exact Ld (KQ e)) (wr _ e)
 have st3:tn 0 s3.heap:=T.keep _ _ _ st2 fun b _ o e=>keep2 b o e
 have st4:tn 0 h₁:=T.keep _ _ _ st3 fun b _ o e=>keep3 b o e
 have fp3:∀b∈fp,H3 b=none/\b<C:=fun b hb=>by
  obtain⟨o,e,_⟩:=T.obj _ _ st2 b hb
  refine⟨?_,by rw[<-hC];exact KQ (keep2 b o e)⟩
  rw[<-hH3,am (by rw[<-hD];exact Ld (KQ e))]
  exact(f2 b hb).1
 have hcells:∀{z:Str}{c:Addr},(dC scope.names X.env.cells []).lookup z=some c->X.env.cells.lookup z=some c:=fun h=>lh (fun _ _ q=>by cases q) h
 have hX:(bK X scope C (x::ys) s3 H3 fp).Ok:=by
  refine⟨I3.ok.mod,S.kind,I3.ok.glob,I3.ok.blt,NA hC,fun y z c h1 h2=>I3.ok.inj y z c (hcells h1) (hcells h2),fun y hy=>?_,fun y c h _=>absurd (show false=true from h) Lc,I3.ok.hd,I3.ok.frames,.inl rfl,fun b hb=>⟨Ld (fp3 b hb).2,fun y c h=>(f2 b hb).2.2.2.2.1 y c (hcells h)⟩,fun b o e=>I3.bs b o e,Ll I3.ok.bsz I3.sz,fun b o e hb=>?_,fun b hb z=>?_,I3.stack,I3.stkFree⟩
  ·have hy:(relabel scope X.env).names.lookup y=some .cell\/(relabel scope X.env).names.lookup y=some .free:=hy
   have hm:(y,Mi)∈scope.names:=by
    rcases hy with q|q
    ·exact gA S.nocell q (.inl rfl)
    ·exact gA S.nocell q (.inr rfl)
   have hs:∃c,X.env.cells.lookup y=some c:=by
    by_cases hk:X.env.kindOf y=some .cell\/X.env.kindOf y=some .free
    ·exact I3.ok.has y hk
    ·exact absurd (kW hcap (S.all _ hm rfl)) hk
   exact Ly.mp (ij hm (Ly.mpr hs))
  ·rcases(f2 b hb).2.2.2.1 with z|z
   ·exact I3.ok.noex b o e z
   ·exact absurd (KS (KQ e) (Ll I3.ok.bsz z)) (Mo _)
  ·rcases If.mp (I3.stkSub b z)with q|q
   ·exact(f2 b hb).2.1 q
   ·exact(f2 b hb).2.2.1 q
 have I4:Inv (bK X scope C (x::ys) s3 H3 fp) [] (none::bQ σ is) H3 {s2 with heap:=h₁,toks:=s2.toks+([]:List (Str×pv)).length}:=by
  obtain⟨m3,hm3,hl3⟩:=id I3.loc
  refine⟨hX,?_,?_,Un.kept keep3,⟨_,hns₁,fun i y v e1 e2 e3=>?_⟩,fun y c e=>?_,?_,fun y c e=>I3.freeC y c (hcells e),fun p hp=>absurd (show p∈([]:List (Addr×Obj))from hp) (by simp),I3.hok.kept keep3,?_⟩
  ·show s2.os=s3.os
   rw[<-hs3]
  ·have:=I2.bare;exact this
  ·cases i with
   |zero=>simp at e2
   |succ j=>
    obtain⟨u,r,hfr,c,ec,ic⟩:=rO hcap hl3 trivial j y v (by have e1':(x::ys)[j+1]? =some y:=e1;simpa using e1') (by simpa using e2)
    have hk:=nv (env:=X.env) hfr
    obtain⟨c',ec'⟩:=Ly.mp (ij (cs:=[]) (jK hfr) (by rw[ec];rfl) (cells:=X.env.cells))
    have:c'=c:=by have:=hcells ec';rw[ec]at this;exact(KN this).symm
    subst this
    obtain⟨o,ho,hd⟩:=ic
    exact⟨u,r,.inr ⟨hk,c',ec',o,keep3 _ _ ho,hd⟩⟩
  ·obtain⟨v,o,ho,hd⟩:=I3.cell y c (hcells e)
   exact⟨v,o,keep3 _ _ ho,hd⟩
  ·have:=I3.hok.fresh (a:=C) (NA hC)
   exact this
  ·have:=vU hcap
   show(none::bQ σ is).length=(x::ys).length
   simp[bQ,this]
 have lenσ:∀v:Option V,(v::bQ σ is).set 0=fun w=>w::bQ σ is:=fun v=>rfl
 have hown:(relabel scope X.env).names.lookup x=some .local:=ls S.own
 have loop:codeAny (model X.prog X.w) X.A (.compLoop (.ListComp elt [⟨.Name x px,iter,ifs,0⟩] scope pos) 0 (.ref it) (.ref D) (compEnvC scope (dC scope.names X.env.cells []) C X.env)) (RR (.ref D) C)
   {s2 with heap:=h₁,toks:=s2.toks+([]:List (Str×pv)).length}:=by
  have fin:∀{H':Hp}{v:Option V}{s':Dc},Inv (bK X scope C (x::ys) s3 H3 fp) [] (v::bQ σ is) H' s'->Q (.ref D) H'->RR (.ref D) C (.ok .next) s':=fun{H' v s'} J q=>by
   obtain⟨m',hm',_⟩:=J.loc
   have hCL:C≠X.env.locals:=KP (by rw[<-hC];exact Ld I3.lt)
   have back:∀h',Nh C s'.heap h'->Inv X pins σ H' {s' with heap:=h'}:=fun h' hs'=>by
    have os':s'.os=s3.os:=J.os
    refine I3.call' (s':={s' with heap:=h'}) (ch:=fp) os' ⟨fun b o e n hb hx=>?_,fun b o e n hb hx=>?_,fun b o e n hx=>J.base.free b o e n hx,fun b o e hx=>?_,J.base.tups,J.base.frzs,J.base.tbls⟩ (fun b o e=>?_) J.bare fun b hb=>?_
    ·exact hs'.extBut b o (by rw[<-hC];exact Ld (KQ e)) (J.base.keep b o e n hb hx)
    ·obtain⟨sl,e1⟩:=J.base.slot b o e n hb hx
     exact⟨sl,hs'.extBut b _ (by rw[<-hC];exact Ld (KQ e)) e1⟩
    ·obtain⟨o',e1⟩:=J.base.there b o e hx
     exact⟨o',hs'.extBut b _ (by rw[<-hC];exact Ld (KQ e)) e1⟩
    ·refine(J.hok b o e).stay (fun c w' hc q=>(hs'.2 c ?_).trans q) (fun _ q=>q) fun _ _ q=>q
     have fC:H' C=none:=J.free
     rintro rfl
     rcases hc with rfl|hc
     ·rw[fC]at e;cases e
     ·rw[fC]at hc;cases hc
    ·obtain⟨_,a1,_,a2,a3,a4⟩:=f2 b hb
     exact⟨a2,a1,a3,a4⟩
   refine hRR D C H' s' ⟨by rw[<-hC];exact I3.sz,fun p hp=>by rw[<-hC];exact Ld (KQ (I3.pin p hp).1)⟩ ⟨m',hm'⟩ hCL J.free ?_ back q
   have:=back s'.heap (.refl ..)
   exact this
  have stat:∀{H':Hp},(∀b∈fp,H' b=none)->∀b∈fp,ir (bK X scope C (x::ys) s3 H3 fp) [] H' b:=fun hn b hb=>by
   obtain⟨_,a1,a5,a2,a3,a4⟩:=f2 b hb
   refine⟨hn b hb,Ld (fp3 b hb).2,fun z=>?_,.inl hb,fun y c e=>a3 y c (hcells e),fun p hp=>absurd (show p∈([]:List (Addr×Obj))from hp) (by simp)⟩
   rcases If.mp (I3.stkSub b z)with q|q
   ·exact a1 q
   ·exact a5 q
  have turnAt:∀n s,(∃i v ys' H',Inv (bK X scope C (x::ys) s3 H3 fp) [] (v::bQ σ is) H' s/\tn i s.heap/\(∀b∈fp,H' b=none)/\W i n ys' H')->
    wpAny (model X.prog X.w) X.A (pyNext (.ref it)) (fun r s₁=>match r with
     |none=>RR (.ref D) C (.ok .next) s₁
     |some u=>wpAny (model X.prog X.w) X.A (letOwnedTupleGo (.Name x px) (.ref it) u) (fun _ s₁=>wpAny (model X.prog X.w) X.A (assign (.Name x px) (compEnvC scope (dC scope.names X.env.cells []) C X.env) u) (fun _ s₂=>
      ∃(xx:V)(i:Nat)(ys':List V)(H3' H6:Hp)(pl:List (Addr×Obj)),Inv (bK X scope C (x::ys) s3 H3 fp) ([]++pl) (some xx::bQ σ is) H6 s₂/\
       (∀s7 v7 H7,Inv (bK X scope C (x::ys) s3 H3 fp) ([]++pl) (v7::bQ σ is) H7 s7->Inv (bK X scope C (x::ys) s3 H3 fp) [] (v7::bQ σ is) H7 s7/\tn (i+1) s7.heap/\∀b∈fp,H7 b=none)/\
       (tc (some xx::bQ σ is) H6 fun b H4=>if b=true then te (some xx::bQ σ is) H4 fun y H5=>H5 D=some (.lst ys')/\ys'.length<sizeLine/\∃m',m'<n/\W (i+1) m' (ys'++[y]) (upd H5 D (.lst (ys'++[y])))
        else ∃m',m'<n/\W (i+1) m' ys' H4)) (fun _ _=>False) s₁) (fun _ _=>False) s₁) (fun _ _=>False) s:=by
   rintro n s ⟨i,v,ys',H',J,st,fr,w'⟩
   rcases turn i n ys' H' w' with⟨stop,qn⟩|⟨go,step⟩
   ·refine thn (T.done (bK X scope C (x::ys) s3 H3 fp) rfl rfl rfl hc i [] s _ H' (fun _ _=>False) J (stat fr) st stop) fun r s4 ⟨hr,J4⟩=>?_
    subst hr
    exact fin J4 qn
   ·refine thn (T.item (bK X scope C (x::ys) s3 H3 fp) rfl rfl rfl hc i [] s _ H' (fun _ _=>False) J (stat fr) st go) fun r s4 ⟨u,hr,h4⟩=>?_
    subst hr
    refine thn h4 fun _ s5 ⟨xx,H5,J5,r5,y5,st5,fr5⟩=>?_
    have J5':=J5.pinned (stat fr5) (T.obj _ _ st5)
    refine QB (jk (i:=0) J5' S.nd rfl (.inl hown) r5 (fun s6 J6=>?_) (.inr hown))
    refine⟨xx,i,ys',H5,H5,io fp s5.heap,J6,fun s7 v7 H7 J7=>⟨J7.unpinned,T.keep _ _ _ st5 fun b hb o e=>(J7.pin (b,o) (Lp _ (Lp _ (fq hb e)))).1,fun b hb=>?_⟩,step xx H5 y5⟩
    obtain⟨o,e,d⟩:=T.obj _ _ st5 b hb
    exact(J7.pin (b,o) (Lp _ (Lp _ (fq hb e)))).2.1
  have start0:∃i v ys' H',Inv (bK X scope C (x::ys) s3 H3 fp) [] (v::bQ σ is) H' {s2 with heap:=h₁,toks:=s2.toks+([]:List (Str×pv)).length}/\tn i h₁/\(∀b∈fp,H' b=none)/\W i m0 ys' H':=
   ⟨0,none,[],H3,I4,st4,fun b hb=>(fp3 b hb).1,w0⟩
  have emit:∀(n:Nat)(xx:V)(i:Nat)(ys':List V)(H4:Hp)(pl:List (Addr×Obj))(s₂:Dc),Inv (bK X scope C (x::ys) s3 H3 fp) ([]++pl) (some xx::bQ σ is) H4 s₂->
    (∀s7 v7 H7,Inv (bK X scope C (x::ys) s3 H3 fp) ([]++pl) (v7::bQ σ is) H7 s7->Inv (bK X scope C (x::ys) s3 H3 fp) [] (v7::bQ σ is) H7 s7/\tn (i+1) s7.heap/\∀b∈fp,H7 b=none)->
    (te (some xx::bQ σ is) H4 fun y H5=>H5 D=some (.lst ys')/\ys'.length<sizeLine/\∃m',m'<n/\W (i+1) m' (ys'++[y]) (upd H5 D (.lst (ys'++[y]))))->
    wpAny (model X.prog X.w) X.A (eval elt (compEnvC scope (dC scope.names X.env.cells []) C X.env)) (fun y s₃=>wpAny (model X.prog X.w) X.A (call (.builtin "list.append") [.ref D,y]) (fun _ s₄=>
     ∃m,m<n/\∃i v ys' H',Inv (bK X scope C (x::ys) s3 H3 fp) [] (v::bQ σ is) H' s₄/\tn i s₄.heap/\(∀b∈fp,H' b=none)/\W i m ys' H') (fun _ _=>False) s₃) (fun _ _=>False) s₂:=by
   intro n xx i ys' H4 pl s₂ J2 back q
   refine thn (he C s3 H3 fp ([]++pl) s₂ _ H4 _ J2 q) fun y s₃ ⟨yv,H5,J3,r3,q1,q2,q3⟩=>?_
   refine thn (dA (X:=bK X scope C (x::ys) s3 H3 fp) ([]++pl) s₃ _ H5 (.ref D) [yv] (.ref D) [y] (fun v H7=>v=.non/\H7=upd H5 D (.lst (ys'++[yv]))) J3 rfl (.cons r3 .nil) ⟨D,ys',yv,rfl,rfl,q1,q2,rfl,rfl⟩) fun _ s₄ ⟨_,H7,J4,_,_,e7⟩=>?_
   subst e7
   obtain⟨m',hm',w'⟩:=q3
   obtain⟨b1,b2,b3⟩:=back s₄ _ _ J4
   exact⟨m',hm',i+1,some xx,ys'++[yv],_,b1,b2,b3,w'⟩
  have ex0:∀{α:Type}{t:Sem α}{Q':α->Dc->Prop}{E':pv->Dc->Prop}{s:Dc},wpAny (model X.prog X.w) X.A t Q' (fun _ _=>False) s->wpAny (model X.prog X.w) X.A t Q' E' s:=fun h=>Lk h (fun _ _ q=>q) fun _ _ q=>q.elim
  cases ifs with
  |nil=>
   have htc:tc=fun _ H Q=>Q true H:=hif C s3 H3 fp
   subst htc
   refine hV (fun n s=>∃i v ys' H',Inv (bK X scope C (x::ys) s3 H3 fp) [] (v::bQ σ is) H' s/\tn i s.heap/\(∀b∈fp,H' b=none)/\W i n ys' H') (fun n s hI=>?_) m0 start0
   refine Lk (turnAt n s hI) (fun r s₁ h₁=>?_) fun _ _ q=>q.elim
   cases r with
   |none=>exact h₁
   |some u=>
    refine Lk h₁ (fun _ s₁ h₁=>Lk h₁ (fun _ s₂ h₂=>?_) fun _ _ q=>q.elim) fun _ _ q=>q.elim
    obtain⟨xx,i,ys',_,H6,pl,J2,back,q⟩:=h₂
    dsimp only at q
    rw[if_pos rfl]at q
    exact Lk (emit n xx i ys' H6 pl s₂ J2 back q) (fun y s₃ h₃=>ex0 h₃) fun _ _ q=>q.elim
  |cons c r0=>
   cases r0 with
   |cons _ _=>exact(hif C s3 H3 fp).elim
   |nil=>
    have hpt:PT (bK X scope C (x::ys) s3 H3 fp) c tc:=hif C s3 H3 fp
    refine hR (fun n s=>∃i v ys' H',Inv (bK X scope C (x::ys) s3 H3 fp) [] (v::bQ σ is) H' s/\tn i s.heap/\(∀b∈fp,H' b=none)/\W i n ys' H') (fun n s hI=>?_) m0 start0
    refine Lk (turnAt n s hI) (fun r s₁ h₁=>?_) fun _ _ q=>q.elim
    cases r with
    |none=>exact h₁
    |some u=>
     refine Lk h₁ (fun _ s₁ h₁=>Lk h₁ (fun _ s₂ h₂=>?_) fun _ _ q=>q.elim) fun _ _ q=>q.elim
     obtain⟨xx,i,ys',_,H6,pl,J2,back,q⟩:=h₂
     refine Lk (hpt ([]++pl) s₂ _ H6 _ J2 q) (fun b s₃ h₃=>?_) fun _ _ q=>q.elim
     obtain⟨H4,J4,q4⟩:=h₃
     cases b with
     |true=>
      rw[if_pos rfl]at q4⊢
      exact Lk (emit n xx i ys' H4 pl s₃ J4 back q4) (fun y s₃ h₃=>ex0 h₃) fun _ _ q=>q.elim
     |false=>
      rw[if_neg Lc]at q4⊢
      obtain⟨m',hm',w'⟩:=q4
      obtain⟨b1,b2,b3⟩:=back s₃ _ _ J4
      exact⟨m',hm',i+1,some xx,ys',_,b1,b2,b3,w'⟩
 exact codeAny_compStart_list loop (T.self X.A 0 _ _ _ st4 loop)
end
section
variable {X:Cx}
theorem yw {scope:Scope}{x:Str}{ys:List Str}{is:List Nat}(ok:X.Ok)(S:gh scope x ys)(hcap:gn X scope ys is):closureFor scope X.env=pure (dC scope.names X.env.cells []):=
 oh fun y hy hk=>by
  obtain⟨c,e⟩:=ok.has y.1 (kW hcap (S.all y hy hk))
  rw[e];rfl
theorem yl {elt iter:Expr}{ifs:List Expr}{x:Str}{px pos:Pos}{scope:Scope}{ys:List Str}{is:List Nat}{wi:TI}{tc:TT}{te:TE}
  (hc:X.calm=true)(S:gh scope x ys)(hcap:gn X scope ys is)(hi:PI X (.Name x px) iter wi)
  (hif:∀C s H fp,tJ (bK X scope C (x::ys) s H fp) ifs tc)(he:∀C s H fp,PE (bK X scope C (x::ys) s H fp) elt te)
  (hs:∀x,foldedSetIterable iter X.env x=pure x:=by intro _;rfl):PE X (.ListComp elt [⟨.Name x px,iter,ifs,0⟩] scope pos) (pK is wi tc te):=by
 intro pins s σ H Q I h
 rw[eval_ListComp]
 refine wpAny_comprehension_free (use:=none) rfl hs (yw I.ok S hcap) S.kind S.names (thn (hi pins s σ H _ I h) fun v s1 h1=>thn h1 fun itv s2 h2=>?_)
 obtain⟨it,fp,tn,J,H2,rfl,I2,T,st2,f2,hW⟩:=h2
 refine sQ (RR:=fun acc C=>compPost (model X.prog X.w) X.A X.xe none (EP X pins σ Q) acc C) hc S hcap hif he I2 T st2 f2 hW ?_
 intro D C H' s' hlt hns hne hfr I' back q
 obtain⟨m,hm⟩:=hns
 exact⟨m,hm,fun h' hs'=>⟨.ref D,H',back h' hs',rfl,q⟩⟩
end
def tyN (H:Hp):V->Option String
 |.non=>some "NoneType"
 |.bl _=>some "bool"
 |.int _=>some "int"
 |.str _=>some "str"
 |.ref a=>match H a with
  |some (.lst _)=>some "list"
  |some (.frz _ (.lst _))=>some "list"
  |some (.tup _)=>some "tuple"
  |some (.dK _)=>some "dict"
  |some (.dT _)=>some "dict"
  |_=>none
 |_=>none
theorem Bi {K:cW}{H:Hp}{x:V}{t:String}(h:tyN H x=some t):eU K H x (.type t):=by
 cases x with
 |non=>cases h;exact .non
 |bl b=>cases h;exact .bl b
 |int i=>cases h;exact .int i
 |str x=>cases h;exact .str x
 |byt _=>cases h
 |flt _=>cases h
 |ty _=>cases h
 |ref a=>
  unfold tyN at h
  dsimp only at h
  split at h
  ·rename_i e;cases h;exact .lst e
  ·rename_i e;cases h;exact .frz e
  ·rename_i e;cases h;exact .tup e
  ·rename_i e;cases h;exact .dK e
  ·rename_i e;cases h;exact .dT e
  ·cases h
def tyL:List String:=["NoneType","bool","int","str","list","tuple","dict"]
theorem zT {H:Hp}{x:V}{t:String}(h:tyN H x=some t):t∈tyL:=by
 cases x with
 |non=>cases h;decide
 |bl b=>cases h;decide
 |int i=>cases h;decide
 |str x=>cases h;decide
 |byt _=>cases h
 |flt _=>cases h
 |ty _=>cases h
 |ref a=>
  unfold tyN at h
  dsimp only at h
  split at h<;>first|(cases h;decide)|cases h
def isI (t T:String):Bool:=t==T||(T=="int"&&t=="bool")
theorem CC (K:cW):∀t∈tyL,∀T∈["int","bool","str","tuple","list","dict"],MF K (.type t) (.type T)=some (isI t T):=by
 intro t ht T hT
 simp only[tyL,If,KO,or_false]at ht hT
 rcases ht with rfl|rfl|rfl|rfl|rfl|rfl|rfl<;>rcases hT with rfl|rfl|rfl|rfl|rfl|rfl<;>(unfold MF;first|rfl|decide+kernel|(simp only[W.kitCls];rfl))
section
variable {X:Cx}
theorem uH:bP X (.builtin "isinstance") (fun xs H Q=>∃x T t,xs=[x,.ty T]/\T∈["int","bool","str","tuple","list","dict"]/\tyN H x=some t/\Q (.bl (isI t T)) H):=by
 intro pins s σ H xs us Q I r h
 obtain⟨x,T,t,rfl,hT,ht,q⟩:=h
 obtain⟨u,w',rfl,r1,r2⟩:=ma r
 cases r2
 exact sh I r1 (Bi ht) (CC X.K t (zT ht) T hT) fun tk=>⟨.bl _,H,I.tok tk,rfl,q⟩
end
section
variable {X:Cx}
theorem oS:∀{bs:List Bool}{us:List pv},aU (bs.map V.bl) us->us=bs.map Mz
 |[],_,.nil=>rfl
 |b::bs,_,.cons r t=>by
  have e:_=Mz b:=r
  rw[oS t,LJ,e]
theorem rp (bs:List Bool):(NW bs.length).all (fun i=>bs.getD i false)=bs.all id:=by
 rw[Nb,Mq,Mq]
 constructor
 ·intro h b hb
  obtain⟨i,hi,e⟩:=Pj.mp hb
  have:=h i (NG.mpr hi)
  simp only[Lu,KU hi,Pw]at this
  rw[<-e];exact this
 ·intro h i hi
  have hi:=NG.mp hi
  simp only[Lu,KU hi,Pw]
  exact h _ (Oh hi)
theorem oK {prog:Lf}{w:LA}{A:LC}{bs:List Bool}:TruthOf prog w A (fun i v=>(bs.map Mz).toArray[i]? =some v) (fun i=>bs.getD i false):=by
 intro i v s Q E hP hQ
 have hP:(bs.map Mz)[i]? =some v:=by simpa using hP
 rw[LF]at hP
 cases e:bs[i]? with
 |none=>rw[e]at hP;cases hP
 |some b=>
  rw[e]at hP
  cases hP
  have hQ':Q b s:=by
   have e2:bs.getD i false=b:=by rw[Lu,e];rfl
   have hQ2:Q (bs.getD i false) s:=hQ
   rw[e2]at hQ2;exact hQ2
  exact wpAny_of_eq (a:=b) rfl hQ'
theorem uP (hc:X.calm=true):bP X (.builtin "all") (fun xs H Q=>∃(a:Addr)(bs:List Bool),xs=[.ref a]/\H a=some (.lst (bs.map V.bl))/\Q (.bl (bs.all id)) H):=by
 intro pins s σ H xs us Q I r h
 obtain⟨a,bs,rfl,hH,q⟩:=h
 obtain⟨u,rfl,ru⟩:=iG r
 cases ru
 obtain⟨z,its,n,rv,e⟩:=I.hok a _ hH
 have ei:=oS rv
 subst ei
 have hl:s.heap.IsList a (bs.map Mz).toArray:=⟨_,e,rfl,_,rfl⟩
 refine call_all_walk (Qz hl ?_)
 have hne:a≠s.heap.objs.size:=Ld (KQ e)
 refine⟨s.heap.objs.size,_,_,_,_,_,_,rfl,Walks.list (by show X.A.handled=none;exact I.ok.hd hc) _ a hne (bs.map Mz).toArray,⟨⟨_,Lg _ rfl,rfl,rfl⟩,⟨_,wr _ e,rfl,_,rfl⟩⟩,oK,fun h' tk hk=>?_⟩
 have e2:((bs.map Mz).toArray).size=bs.length:=by simp
 rw[e2,rp]
 refine⟨.bl _,H,I.kept (t':=tk) fun b o hb=>hk b o ?_ (wr _ hb),rfl,q⟩
 intro z
 have:b=s.heap.objs.size:=by simpa using z
 rw[this]at hb
 exact absurd (KQ hb) (Mo _)
end
@[irreducible] def Sel (b:Bool)(A B:Prop):Prop:=if b=true then A else B
theorem Sel.mk {b:Bool}{A B:Prop}(h1:b=true->A)(h2:b=false->B):Sel b A B:=by
 unfold Sel
 cases b with
 |true=>exact h1 rfl
 |false=>exact h2 rfl
theorem Sel.t {A B:Prop}(h:A):Sel true A B:=.mk (fun _=>h) fun e=>by cases e
theorem Sel.f {A B:Prop}(h:B):Sel false A B:=.mk (fun e=>by cases e) fun _=>h
theorem Sel.dec {p A B:Prop}[Decidable p](h1:p->A)(h2:¬p->B):Sel (decide p) A B:=.mk (fun e=>h1 (of_decide_eq_true e)) fun e=>h2 (of_decide_eq_false e)
theorem Sel.ndec {p A B:Prop}[Decidable p](h1:¬p->A)(h2:p->B):Sel (!decide p) A B:=.mk (fun e=>h1 (by simpa using e)) fun e=>h2 (by simpa using e)
theorem Sel.yes {b:Bool}{A B:Prop}(e:b=true)(h:A):Sel b A B:=by rw[e];exact .t h
theorem Sel.no {b:Bool}{A B:Prop}(e:b=false)(h:B):Sel b A B:=by rw[e];exact .f h
theorem eJ {b:Bool}{A B:Prop}(h:Sel b A B):if b=true then A else B:=by unfold Sel at h;exact h
def ae (i:Nat):TE:=fun σ H Q=>match σ[i]? with|some (some v)=>Q v H|_=>False
section
variable {X:Cx}
theorem PE.imp {e:Expr}{t t':TE}(h:PE X e t)(i:∀σ H Q,t' σ H Q->t σ H Q):PE X e t':=fun pins s σ H Q I q=>h pins s σ H Q I (i _ _ _ q)
theorem OpR.imp {f:pv->pv->Sem pv}{r r':R2}(h:OpR X f r)(i:∀x y H Q,r' x y H Q->r x y H Q):OpR X f r':=fun pins s σ H x y v u Q I rx ry q=>h pins s σ H x y v u Q I rx ry (i _ _ _ _ q)
theorem qv (i:Nat){x:Str}{pos:Pos}(hN:X.N[i]?=some x:=by rfl)(hv:Vis X.env.scope x:=by first|exact Or.inl rfl|exact PU (Or.inl rfl)|exact PU (PU rfl))(hd:(x==("__debug__":Str))=false:=by decide)
  (hcd:(x==("__classdict__":Str))=false:=by decide):PE X (.Name x pos) (ae i):=(yZ hN hv hd hcd).imp fun σ H Q q=>by
 unfold ae at q
 split at q
 ·rename_i v e;exact⟨v,e,q⟩
 ·exact q.elim
theorem qgi {x:Str}{i:Int}{pos:Pos}(hm:∃t,X.mg x=some (.int i t))(hg:Gl X x:=by rfl)(hd:(x==("__debug__":Str))=false:=by decide):PE X (.Name x pos) (tC (.int i)):=by
 obtain⟨t,e⟩:=hm
 exact kj hg e ⟨t,rfl⟩ hd
def cJ:R2:=fun x y H Q=>match x,y with|.int i,.int j=>Q (.int (i- j)) H|_,_=>False
theorem cV:OpR X (binaryOp .Sub) cJ:=BO.imp fun x y H Q q=>by
 unfold cJ at q
 split at q
 ·exact⟨_,_,rfl,rfl,q⟩
 ·exact q.elim
theorem yK:OpR X (binaryOp .Mult) (rI Qr fun i j=>.int (i*j)):=opI fun _ _ _ _ _ _ _ hc q=>mul_int q hc
def nZ:R2:=fun x y H Q=>match x,y with
 |.int i,.int j=>Qr i j/\Q (.int (i*j)) H
 |_,_=>False
theorem wl:OpR X (binaryOp .Mult) nZ:=yK.imp fun x y H Q q=>by
 unfold nZ at q
 split at q
 ·exact⟨_,_,rfl,rfl,q.1,q.2⟩
 ·exact q.elim
def dE:R2:=fun x y H Q=>match x,y with|.int i,.int j=>0<j/\Q (.int (i%j)) H|_,_=>False
theorem dU:OpR X (binaryOp .Mod) dE:=Cb.imp fun x y H Q q=>by
 unfold dE at q
 split at q
 ·exact⟨_,_,rfl,rfl,q.1,q.2⟩
 ·exact q.elim
def pR:R2:=fun x y H Q=>match x,y with|.int i,.int j=>(0<=j/\j<=1000000/\i.natAbs<2^64)/\Q (.int (i^j.toNat)) H|_,_=>False
theorem Bj:OpR X (binaryOp .Pow) pR:=Aw.imp fun x y H Q q=>by
 unfold pR at q
 split at q
 ·exact⟨_,_,rfl,rfl,q.1,q.2⟩
 ·exact q.elim
def gk:R2:=fun x y H Q=>match x,y with|.int i,.int j=>(0<=j/\j<=1000000/\i.natAbs<2^64)/\Q (.int (i*2^j.toNat)) H|_,_=>False
theorem ie:OpR X (binaryOp .LShift) gk:=CY.imp fun x y H Q q=>by
 unfold gk at q
 split at q
 ·exact⟨_,_,rfl,rfl,q.1,q.2⟩
 ·exact q.elim
def qi:R2:=fun x y H Q=>match x,y with|.int i,.int j=>0<=j/\Q (.int (i/2^j.toNat)) H|_,_=>False
theorem Aa:OpR X (binaryOp .RShift) qi:=Cw.imp fun x y H Q q=>by
 unfold qi at q
 split at q
 ·exact⟨_,_,rfl,rfl,q.1,q.2⟩
 ·exact q.elim
def ur:R2:=fun x y H Q=>match x,y with|.int i,.int j=>Q (.int (Nc i j)) H|_,_=>False
theorem JN:OpR X (binaryOp .BitXor) ur:=Cv.imp fun x y H Q q=>by
 unfold ur at q
 split at q
 ·exact⟨_,_,rfl,rfl,q⟩
 ·exact q.elim
def qq:R2:=fun x y H Q=>match x,y with|.int i,.int j=>Q (.int (Mb i j)) H|_,_=>False
theorem Gg:OpR X (binaryOp .BitAnd) qq:=zH.imp fun x y H Q q=>by
 unfold qq at q
 split at q
 ·exact⟨_,_,rfl,rfl,q⟩
 ·exact q.elim
def mLt:R2:=fun x y H Q=>match x,y with|.int i,.int j=>Q (.bl (decide (i<j))) H|_,_=>False
theorem oLt:OpR X (compareOp .Lt) mLt:=GW.imp fun x y H Q q=>by
 unfold mLt at q
 split at q
 ·exact⟨_,_,rfl,rfl,q⟩
 ·exact q.elim
def mLe:R2:=fun x y H Q=>match x,y with|.int i,.int j=>Q (.bl (decide (i<=j))) H|_,_=>False
theorem oLe:OpR X (compareOp .LtE) mLe:=DX.imp fun x y H Q q=>by
 unfold mLe at q
 split at q
 ·exact⟨_,_,rfl,rfl,q⟩
 ·exact q.elim
def mGt:R2:=fun x y H Q=>match x,y with|.int i,.int j=>Q (.bl (decide (j<i))) H|_,_=>False
theorem oGt:OpR X (compareOp .Gt) mGt:=FC.imp fun x y H Q q=>by
 unfold mGt at q
 split at q
 ·exact⟨_,_,rfl,rfl,q⟩
 ·exact q.elim
def mEq:R2:=fun x y H Q=>match x,y with
 |.int i,.int j=>Q (.bl (decide (i=j))) H
 |.str i,.str j=>Q (.bl (decide (i=j))) H
 |.bl i,.bl j=>Q (.bl (decide (i=j))) H
 |.non,.non=>Q (.bl true) H
 |.non,.int _=>Q (.bl false) H|.int _,.non=>Q (.bl false) H|.non,.bl _=>Q (.bl false) H|.bl _,.non=>Q (.bl false) H|.non,.str _=>Q (.bl false) H|.str _,.non=>Q (.bl false) H
 |.int _,.str _=>Q (.bl false) H|.str _,.int _=>Q (.bl false) H|.bl _,.str _=>Q (.bl false) H|.str _,.bl _=>Q (.bl false) H
 |_,_=>False
theorem iq {α:Type}[DecidableEq α]{f:α->V}(hf:∀a b,f a=f b->a=b)(a b:α):decide (f a=f b)=decide (a=b):=by
 by_cases h:a=b
 ·subst h;simp
 ·rw[decide_eq_false h,decide_eq_false fun e=>h (hf a b e)]
theorem oEq:OpR X (compareOp .Eq) mEq:=DH.imp fun x y H Q q=>by
 unfold mEq at q
 split at q
 ·exact⟨rfl,by rw[iq (f:=V.int) fun _ _ e=>V.int.inj e];exact q⟩
 ·exact⟨rfl,by rw[iq (f:=V.str) fun _ _ e=>V.str.inj e];exact q⟩
 ·exact⟨rfl,by rw[iq (f:=V.bl) fun _ _ e=>V.bl.inj e];exact q⟩
 ·exact⟨rfl,by simpa using q⟩
 all_goals first|exact q.elim|exact⟨rfl,q⟩
def mNe:R2:=fun x y H Q=>match x,y with
 |.int i,.int j=>Q (.bl (!decide (i=j))) H
 |.str i,.str j=>Q (.bl (!decide (i=j))) H
 |.bl i,.bl j=>Q (.bl (!decide (i=j))) H
 |.non,.non=>Q (.bl false) H
 |.non,.int _=>Q (.bl true) H|.int _,.non=>Q (.bl true) H|.non,.bl _=>Q (.bl true) H|.bl _,.non=>Q (.bl true) H|.non,.str _=>Q (.bl true) H|.str _,.non=>Q (.bl true) H
 |.int _,.str _=>Q (.bl true) H|.str _,.int _=>Q (.bl true) H|.bl _,.str _=>Q (.bl true) H|.str _,.bl _=>Q (.bl true) H
 |_,_=>False
theorem oNe:OpR X (compareOp .NotEq) mNe:=EE.imp fun x y H Q q=>by
 unfold mNe at q
 split at q
 ·exact⟨rfl,by rw[iq (f:=V.int) fun _ _ e=>V.int.inj e];exact q⟩
 ·exact⟨rfl,by rw[iq (f:=V.str) fun _ _ e=>V.str.inj e];exact q⟩
 ·exact⟨rfl,by rw[iq (f:=V.bl) fun _ _ e=>V.bl.inj e];exact q⟩
 ·exact⟨rfl,by simpa using q⟩
 all_goals first|exact q.elim|exact⟨rfl,q⟩
def uB:R2:=fun x y H Q=>match y with|.non=>Q (.bl (match x with|.non=>true|_=>false)) H|_=>False
theorem oIs:OpR X (compareOp .Is) uB:=zU.imp fun x y H Q q=>by
 unfold uB at q
 split at q
 ·refine⟨rfl,?_⟩
  cases x<;>simpa using q
 ·exact q.elim
def rf:R2:=fun x y H Q=>match y with|.non=>Q (.bl (match x with|.non=>false|_=>true)) H|_=>False
theorem CP:OpR X (compareOp .IsNot) rf:=yi.imp fun x y H Q q=>by
 unfold rf at q
 split at q
 ·refine⟨rfl,?_⟩
  cases x<;>simpa using q
 ·exact q.elim
def bg (t:TE):TT:=fun σ H Q=>t σ H fun x H'=>match x with|.bl k=>Q k H'|_=>False
theorem qtc {op:PQ}{r:R2}{a b:Expr}{ta tb:TE}{pos:Pos}(ho:OpR X (compareOp op) r)(ha:PE X a ta)(hb:PE X b tb)(hm:behindInMarks op b=false:=by first|exact jX _|rfl):PT X (.Compare a [op] [b] pos) (bg (tOp r ta tb)):=by
 intro pins s σ H Q I h
 refine wpAny_isTrue_Compare1 (thn (ha pins s σ H _ I h) fun v s1 ⟨x,H1,I1,r1,q1⟩=>thn (hb pins s1 σ H1 _ I1 q1) fun u s2 ⟨y,H2,I2,r2,q2⟩=>
  thn (ho pins s2 σ H2 x y v u _ I2 r1 r2 q2) fun c s3 ⟨z,H3,I3,r3,q3⟩=>?_) hm
 cases z<;>first|exact q3.elim|(cases r3;exact Mn ⟨H3,I3,q3⟩)
theorem qc {op:PQ}{r:R2}{a b:Expr}{ta tb:TE}{pos:Pos}(ho:OpR X (compareOp op) r)(ha:PE X a ta)(hb:PE X b tb)(hm:behindInMarks op b=false:=by first|exact jX _|rfl):PE X (.Compare a [op] [b] pos) (tOp r ta tb):=yG ho ha hb hm
def dW (r r':R2)(ta tb tc:TE):TE:=fun σ H Q=>ta σ H fun x H1=>tb σ H1 fun y H2=>r x y H2 fun z H3=>match z with
 |.bl k=>Sel k (tc σ H3 fun w' H4=>r' y w' H4 Q) (Q (.bl false) H3)
 |_=>False
theorem qch {op op':PQ}{r r':R2}{a b c:Expr}{ta tb tc:TE}{pos:Pos}(ho:OpR X (compareOp op) r)(ho':OpR X (compareOp op') r')(ha:PE X a ta)(hb:PE X b tb)(hc:PE X c tc)
  (hm:lastMarks [op,op'] [b,c]=false:=by with_unfolding_all rfl):PE X (.Compare a [op,op'] [b,c] pos) (dW r r' ta tb tc):=by
 intro pins s σ H Q I h
 refine Compare_chain (thn (ha pins s σ H _ I h) fun v s1 ⟨x,H1,I1,r1,q1⟩=>chain_link (thn (hb pins s1 σ H1 _ I1 q1) fun u s2 ⟨y,H2,I2,r2,q2⟩=>
  thn (ho pins s2 σ H2 x y v u _ I2 r1 r2 q2) fun d s3 ⟨z,H3,I3,r3,q3⟩=>?_)) hm
 cases z<;>first|exact q3.elim|skip
 rename_i k
 cases r3
 refine Mn ?_
 have q3:=eJ q3
 cases k with
 |false=>exact ite_ff ⟨.bl false,H3,I3,rfl,q3⟩
 |true=>exact ite_tt (chain_last (thn (hc pins s3 σ H3 _ I3 q3) fun w' s4 ⟨z',H4,I4,r4,q4⟩=>ho' pins s4 σ H4 y z' u w' Q I4 r2 r4 q4))
theorem IC {op op':PQ}{r r':R2}{a b c:Expr}{ta tb tc:TE}{pos:Pos}(ho:OpR X (compareOp op) r)(ho':OpR X (compareOp op') r')(ha:PE X a ta)(hb:PE X b tb)(hc:PE X c tc)
  (hm:lastMarks [op,op'] [b,c]=false:=by with_unfolding_all rfl):PT X (.Compare a [op,op'] [b,c] pos) (bg (dW r r' ta tb tc)):=by
 intro pins s σ H Q I h
 refine isTrue_chain (thn (ha pins s σ H _ I h) fun v s1 ⟨x,H1,I1,r1,q1⟩=>test_link (thn (hb pins s1 σ H1 _ I1 q1) fun u s2 ⟨y,H2,I2,r2,q2⟩=>
  thn (ho pins s2 σ H2 x y v u _ I2 r1 r2 q2) fun d s3 ⟨z,H3,I3,r3,q3⟩=>?_)) hm
 cases z<;>first|exact q3.elim|skip
 rename_i k
 cases r3
 refine Mn ?_
 have q3:=eJ q3
 cases k with
 |false=>exact ite_ff ⟨H3,I3,q3⟩
 |true=>
  refine ite_tt (test_last (thn (hc pins s3 σ H3 _ I3 q3) fun w' s4 ⟨z',H4,I4,r4,q4⟩=>thn (ho' pins s4 σ H4 y z' u w' _ I4 r2 r4 q4) fun d' s5 ⟨z2,H5,I5,r5,q5⟩=>?_))
  cases z2<;>first|exact q5.elim|(cases r5;exact Mn ⟨H5,I5,q5⟩)
def cr (K:cW)(t:TE):TT:=fun σ H Q=>t σ H fun x H'=>match x with
 |.bl k=>Q k H'
 |.non=>Q false H'
 |.int i=>Q (i !=0) H'
 |x=>∃k,Af K x H' k/\Q k H'
theorem qtb {e:Expr}{t:TE}(h:PE X e t)(he:∀whole,isTrue e X.env whole=(do let v<-whole;standAt e.pos;holding [v] (truthy v)):=by intro _;rfl):PT X e (cr X.K t):=by
 intro pins s σ H Q I q
 refine isTrue_plain (thn (h pins s σ H _ I q) fun v s1 ⟨x,H1,I1,r1,q1⟩=>CF pins s1 σ H1 x v Q I1 r1 ?_) (he _)
 cases x<;>first|exact⟨_,rfl,q1⟩|exact q1
def ox (t u:TT):TT:=fun σ H Q=>t σ H fun c H1=>Sel c (u σ H1 Q) (Q false H1)
def mOr (t u:TT):TT:=fun σ H Q=>t σ H fun c H1=>Sel c (Q true H1) (u σ H1 Q)
variable {a b c:Expr}{ta tb:TE}{tA tB':TT}{cQ:List Expr}{pos:Pos}
theorem xV (ha:PT X a tA):PW X (.BoolOp .And [a] pos) tA:=xY ha
theorem AJ (ha:PT X a tA):PW X (.BoolOp .Or [a] pos) tA:=BK ha
theorem CH (ha:PT X a tA)(hb:PW X (.BoolOp .And (b::cQ) pos) tB'):PW X (.BoolOp .And (a::b::cQ) pos) (ox tA tB'):=by
 intro wh pins s σ H Q I h
 refine isTrue_and (thn (ha pins s σ H _ I h) fun c s1 ⟨H1,I1,q1⟩=>?_)
 have q1:=eJ q1
 cases c with
 |true=>exact hb wh pins s1 σ H1 Q I1 q1
 |false=>exact⟨H1,I1,q1⟩
theorem DQ (ha:PT X a tA)(hb:PW X (.BoolOp .Or (b::cQ) pos) tB'):PW X (.BoolOp .Or (a::b::cQ) pos) (mOr tA tB'):=by
 intro wh pins s σ H Q I h
 refine isTrue_or (thn (ha pins s σ H _ I h) fun c s1 ⟨H1,I1,q1⟩=>?_)
 have q1:=eJ q1
 cases c with
 |true=>exact⟨H1,I1,q1⟩
 |false=>exact hb wh pins s1 σ H1 Q I1 q1
def cx (ta tb:TE):TE:=fun σ H Q=>ta σ H fun x H1=>match x with|.bl c=>Sel c (tb σ H1 Q) (Q (.bl false) H1)|_=>False
def qB (ta:TE):TE:=fun σ H Q=>ta σ H fun x H1=>match x with|.bl c=>Q (.bl (!c)) H1|_=>False
theorem Jz (ha:PE X a ta)(hb:PE X (.BoolOp .And (b::cQ) pos) tb):PE X (.BoolOp .And (a::b::cQ) pos) (cx ta tb):=by
 intro pins s σ H Q I h
 refine BoolOp_and (thn (ha pins s σ H _ I h) fun v s1 ⟨x,H1,I1,r1,q1⟩=>?_)
 cases x<;>first|exact q1.elim|skip
 rename_i c
 cases r1
 refine Mn ?_
 have q1:=eJ q1
 cases c with
 |true=>exact hb pins s1 σ H1 Q I1 q1
 |false=>exact⟨.bl false,H1,I1,rfl,q1⟩
theorem Eh (ha:PE X a ta):PE X (.UnaryOp .Not a pos) (qB ta):=by
 intro pins s σ H Q I h
 refine UnaryOp_ (thn (ha pins s σ H _ I h) fun v s1 ⟨x,H1,I1,r1,q1⟩=>?_)
 cases x<;>first|exact q1.elim|skip
 rename_i c
 cases r1
 exact not_of (Mn ⟨.bl (!c),H1,I1,rfl,q1⟩)
def mIf (t:TT)(ta tb:TE):TE:=fun σ H Q=>t σ H fun c H1=>Sel c (ta σ H1 Q) (tb σ H1 Q)
theorem JZ {c:Expr}(hc:PT X c tA)(ha:PE X a ta)(hb:PE X b tb):PE X (.IfExp c a b pos) (mIf tA ta tb):=by
 intro pins s σ H Q I h
 refine wpAny_IfExp (thn (hc pins s σ H _ I h) fun d s1 ⟨H1,I1,q1⟩=>?_)
 have q1:=eJ q1
 cases d with
 |true=>exact ha pins s1 σ H1 Q I1 q1
 |false=>exact hb pins s1 σ H1 Q I1 q1
def bp (c:TT)(t u:TS):TS:=fun D σ H=>c σ H fun b H1=>Sel b (t D σ H1) (u D σ H1)
theorem qif {c:Expr}{l m:List Stmt}{tc:TT}{t u:TS}(hc:PT X c tc)(ha:PSs X l t)(hb:PSs X m u):PS X (.If c l m pos) (bp tc t u):=by
 intro pins s σ H D I h
 refine wpAny_If (thn (hc pins s σ H _ I h) fun d s1 ⟨H1,I1,q1⟩=>?_)
 have q1:=eJ q1
 cases d with
 |true=>exact ha pins s1 σ H1 D I1 q1
 |false=>exact hb pins s1 σ H1 D I1 q1
theorem Iu:bP X (.builtin "len") (fun xs H Q=>match xs with
  |[.str y]=>y.length<=sizeLine/\Q (.int y.length) H
  |[.ref p]=>(∃xs,SqL X.K H p xs/\Q (.int xs.length) H)\/(∃xs,SqT X.K H p xs/\Q (.int xs.length) H)\/∃kvs,H p=some (.dK kvs)/\Q (.int kvs.length) H
  |_=>False):=by
 intro pins s σ H xs us Q I r h
 split at h
 ·rename_i y
  exact je pins s σ H _ us Q I r ⟨_,_,rfl,⟨h.1,rfl⟩,h.2⟩
 ·rename_i p
  rcases h with⟨ys,h1,h2⟩|⟨ys,h1,h2⟩|⟨kvs,h1,h2⟩
  ·exact je pins s σ H _ us Q I r ⟨_,_,rfl,.inl ⟨ys,h1,rfl⟩,h2⟩
  ·exact je pins s σ H _ us Q I r ⟨_,_,rfl,.inr ⟨ys,h1,rfl⟩,h2⟩
  ·exact sr pins s σ H _ us Q I r ⟨p,kvs,rfl,h1,h2⟩
 ·exact h.elim
end
section
variable {X:Cx}{tg:Expr}
def nY:V->Hp->VK->Prop:=fun x H Q=>match x with|.int i=>Q (.int (-i)) H|_=>False
theorem Je:UnR X (unaryOp .USub) nY:=fun pins s σ H x v Q I rx q=>Al pins s σ H x v Q I rx (by
 unfold nY at q
 split at q
 ·exact⟨_,rfl,q⟩
 ·exact q.elim)
def Cm (K:cW):List V->Hp->VK->Prop:=fun xs H Q=>match xs with
 |[.str y]=>y.length<=sizeLine/\Q (.int y.length) H
 |[.ref p]=>(∃xs,SqL K H p xs/\Q (.int xs.length) H)\/(∃xs,SqT K H p xs/\Q (.int xs.length) H)\/∃kvs,H p=some (.dK kvs)/\Q (.int kvs.length) H
 |_=>False
theorem Jx:bP X (.builtin "len") (Cm X.K):=Iu
def gw:List V->Hp->VK->Prop:=fun xs H Q=>match xs with
 |[x,.ty T]=>T∈["int","bool","str","tuple","list","dict"]/\∃t,tyN H x=some t/\Q (.bl (isI t T)) H
 |_=>False
theorem ip:bP X (.builtin "isinstance") gw:=fun pins s σ H xs us Q I r h=>by
 unfold gw at h
 split at h
 ·obtain⟨h1,t,h2,h3⟩:=h
  exact uH pins s σ H _ us Q I r ⟨_,_,t,rfl,h1,h2,h3⟩
 ·exact h.elim
def CU:List V->Hp->VK->Prop:=fun xs H Q=>∃(a:Addr)(bs:List Bool),xs=[.ref a]/\H a=some (.lst (bs.map V.bl))/\Q (.bl (bs.all id)) H
theorem IV (hc:X.calm=true):bP X (.builtin "all") CU:=uP hc
def xI (K:cW):List V->Hp->VK->Prop:=fun xs H Q=>∃p ys,xs=[.ref p]/\(SqL K H p ys\/SqT K H p ys)/\∀l,H l=none->Q (.ref l) (upd H l (.lst ys))
theorem Ft:bP X (.type "list") (xI X.K):=oF
def im (K:cW):List V->Hp->VK->Prop:=fun xs H Q=>∃p ys,xs=[.ref p]/\((SqL K H p ys/\∀l,H l=none->Q (.ref l) (upd H l (.tup ys)))\/(SqT K H p ys/\Q (.ref p) H))
theorem nP:bP X (.type "tuple") (im X.K):=lu
end
theorem zS:bootBuiltins "all"=some (.builtin "all"):=by decide+kernel
structure mJ (J:It)(n:Nat)(it:Nat->V)(Pv:Hp->Prop):Prop where
 go:∀i H,i<n->Pv H->J.go i H
 yld:∀i H x H',i<n->Pv H->J.yld i H x H'->H'=H/\x=it i
 stop:∀H,Pv H->J.stop n H
theorem mJ.tuple {K:cW}{a:Addr}{xs:List V}(d:V):mJ (Itt K a) xs.length (fun i=>xs.getD i d) (fun H=>SqT K H a xs)where
 go:=fun i H hi h=>⟨xs,xs[i],h,by simp[hi]⟩
 yld:=fun i H x H' hi h y=>⟨y.1,by have:=y.2 xs h;rw[Lu,this];rfl⟩
 stop:=fun H h=>⟨xs,h,gV _⟩
def CWd (n:Nat)(Pv:Nat->List V->Hp->Prop):Nat->Nat->List V->Hp->Prop:=fun i m ys H=>i<=n/\m=n- i/\Pv i ys H
theorem CWd.next {n i:Nat}{Pv:Nat->List V->Hp->Prop}{ys:List V}{H:Hp}(hi:i<n)(h:Pv (i+1) ys H):∃m',m'<n- i/\CWd n Pv (i+1) m' ys H:=⟨n- (i+1),by omega,hi,rfl,h⟩
theorem yS {J:It}{n:Nat}{it:Nat->V}{Pk:Hp->Prop}{σ:St}{is:List Nat}{tc:TT}{te:TE}{Q:VK}{H1:Hp}{D:Addr}(T:mJ J n it Pk)(Pv:Nat->List V->Hp->Prop)
  (hk:∀i ys H,i<=n->Pv i ys H->Pk H)(h0:Pv 0 [] (upd H1 D (.lst [])))
  (hs:∀i ys H2,i<n->Pv i ys H2->tc (some (it i)::bQ σ is) H2 fun b H4=>if b=true then
   te (some (it i)::bQ σ is) H4 fun y H5=>H5 D=some (.lst ys)/\ys.length<sizeLine/\∃m',m'<n- i/\CWd n Pv (i+1) m' (ys++[y]) (upd H5 D (.lst (ys++[y])))
   else ∃m',m'<n- i/\CWd n Pv (i+1) m' ys H4)
  (hd:∀ys H,Pv n ys H->Q (.ref D) H):xG is tc te σ D J H1 Q:=by
 refine⟨CWd n Pv,⟨n,Li _,rfl,h0⟩,?_⟩
 rintro i m ys H2 ⟨hi,rfl,p⟩
 by_cases hlt:i<n
 ·refine .inr ⟨T.go i H2 hlt (hk i ys H2 hi p),fun x H3 y=>?_⟩
  obtain⟨rfl,rfl⟩:=T.yld i H2 x H3 hlt (hk i ys H2 hi p) y
  exact hs i ys _ hlt p
 ·have e:i=n:=by omega
  subst e
  exact .inl ⟨T.stop H2 (hk _ ys H2 hi p),hd ys H2 p⟩
theorem ar.upd {H:Hp}{p:Addr}{o:HO}(h:H p=none):ar H (upd H p o):=fun b u e=>by rw[am (ap e h)];exact e
theorem si {xs:List V}{i:Int}(h0:0<=i)(h1:i<xs.length):atI xs i=some (xs.getD i.toNat .non):=by
 unfold atI ixN
 rw[if_pos h0,if_pos h1]
 show xs[i.toNat]?=_
 rw[Lu]
 have:i.toNat<xs.length:=by omega
 rw[KU this];rfl
def bT:Expr->Bool
 |.Starred _ _=>false
 |_=>true
theorem ba {e:Expr}(h:bT e=true)(cQ:List Expr)(env:Env):starEach (e::cQ) env=(false,eval e env)::starEach cQ env:=by
 cases e<;>first|rfl|cases h
def bc:List Expr->Bool
 |[]=>true
 |e::r=>bT e&&bc r
theorem bO:∀{es:List Expr}{env:Env}{pos:Pos},bc es=true->(backTo pos (starEach es env)).any (·.1)=false
 |[],_,_,_=>rfl
 |e::r,env,pos,h=>by
  have h:(bT e&&bc r)=true:=h
  rw[LS]at h
  rw[ba h.1]
  show(false||(backTo pos (starEach r env)).any (·.1))=false
  rw[bO h.2];rfl
section
variable {X:Cx}{e:Expr}{es:List Expr}{te:TE}{t:TA}{pos:Pos}
theorem yR (ha:PE X e te)(hr:PA X es t)(hs:bT e=true:=by rfl):PA X (e::es) (ac te t):=yy ha hr (ba hs es X.env)
variable {x:Str}{p apos cpos:Pos}{id T:String}{r:List V->Hp->VK->Prop}
theorem yV (hc:bP X (.builtin id) r)(hg:Gl X x)(hm:X.mg x=none)(hv:bootBuiltins x=some (.builtin id))(ha:PA X (e::es) t)(hn:x≠"__name__":=by decide)(hdb:(x==("__debug__":Str))=false:=by decide)
  (hs:bc (e::es)=true:=by rfl):PE X (.Call (.Name x p) (e::es) [] pos) (tCB r t):=
 have h:(bT e&&bc es)=true:=hs
 sV hc hg hm hv ha hn hdb (ba (tx.mp h).1 es X.env) (bO (tx.mp h).2)
theorem wF (hc:bP X (.type T) r)(hg:Gl X x)(hm:X.mg x=none)(hv:bootBuiltins x=some (.type T))(ha:PA X (e::es) t)(hn:x≠"__name__":=by decide)(hdb:(x==("__debug__":Str))=false:=by decide)
  (hs:bc (e::es)=true:=by rfl):PE X (.Call (.Name x p) (e::es) [] pos) (tCB r t):=
 have h:(bT e&&bc es)=true:=hs
 rE hc hg hm hv ha hn hdb (ba (tx.mp h).1 es X.env) (bO (tx.mp h).2)
variable {CX:CXT}{k:Nat}{f C:Addr}{fd:Gt}{ps:List Str}{sp:Sp}{dvs:List V}{ds:List pv}{E:XK}{m:Str}{o:Expr}{ta:TE}
theorem iR:∀{es:List Expr}{env:Env}{pos:Pos},bc es=true->(backTo pos (starEach es env)).all (fun x=> !x.1)=true
 |[],_,_,_=>rfl
 |e::r,env,pos,h=>by
  have h:(bT e&&bc r)=true:=h
  rw[LS]at h
  rw[ba h.1]
  show(true&&(backTo pos (starEach r env)).all (fun x=> !x.1))=true
  rw[iR h.2];rfl
variable {to:TE}{name:Str}{rm:V->List V->Hp->VK->Prop}
theorem IF (pa:Oy T)(slot:Slot T name id)(hty:typeOf (.builtin id)=pure (.type "method_descriptor"))(hm:MtR X id rm)(ho:PE X o to)(ha:PA X (e::es) t)
  (hbase:attributeBase o name X.env (eval o X.env)=eval o X.env:=by rfl)(hfew:decide ((e::es).length<30)=true:=by rfl)
  (hline:(apos.endLine==cpos.line)=true:=by rfl)(hs:bc (e::es)=true:=by rfl):PE X (.Call (.Attribute o name apos) (e::es) [] cpos) (tBM X.K T rm to t):=
 have h:(bT e&&bc es)=true:=hs
 DZ pa slot hty hm ho ha hbase (by rw[iR hs];exact hfew) hline (ba (tx.mp h).1 es X.env) (bO (tx.mp h).2)
end
structure QE (X:Cx)(e:Expr)(t:TE):Prop where
 out:PE X e t
structure QT (X:Cx)(e:Expr)(t:TT):Prop where
 out:PT X e t
structure QW (X:Cx)(e:Expr)(t:TT):Prop where
 out:PW X e t
structure QA (X:Cx)(e:List Expr)(t:TA):Prop where
 out:PA X e t
structure QS (X:Cx)(e:Stmt)(t:TS):Prop where
 out:PS X e t
structure QSs (X:Cx)(e:List Stmt)(t:TS):Prop where
 out:PSs X e t
structure QI (X:Cx)(tg iter:Expr)(t:TI):Prop where
 out:PI X tg iter t
structure QO (X:Cx)(e:Option Expr)(t:TO):Prop where
 out:PO X e t
structure AD (X:Cx)(e:List Expr)(t:TT):Prop where
 out:tJ X e t
section
variable {X:Cx}{a b c e o:Expr}{es cQ:List Expr}{ta tb tc te to tv:TE}{tA tB':TT}{t:TA}{pos apos cpos p:Pos}{x y:Str}
theorem aa (i:Nat)(hN:X.N[i]?=some x:=by rfl)(hv:Vis X.env.scope x:=by first|exact Or.inl rfl|exact PU (Or.inl rfl)|exact PU (PU rfl))(hd:(x==("__debug__":Str))=false:=by decide)
 (hcd:(x==("__classdict__":Str))=false:=by decide):QE X (.Name x pos) (ae i):=⟨qv i hN hv hd hcd⟩
theorem wq {i:Int}(hm:∃t,X.mg x=some (.int i t))(hg:Gl X x:=by rfl)(hd:(x==("__debug__":Str))=false:=by decide):QE X (.Name x pos) (tC (.int i)):=⟨qgi hm hg hd⟩
theorem il {T:String}(hm:X.mg x=none)(hv:bootBuiltins x=some (.type T))(hg:Gl X x:=by rfl)(hn:x≠"__name__":=by decide)(hd:(x==("__debug__":Str))=false:=by decide):QE X (.Name x pos) (tC (.ty T)):=⟨yL hg hm hv rfl hn hd⟩
theorem aq {i:Int}{j}:QE X (.Constant (.int i) j pos) (tC (.int i)):=⟨Bq⟩
theorem hJ {b:Bool}{j}:QE X (.Constant (.bool b) j pos) (tC (.bl b)):=⟨HI⟩
theorem cY {j}:QE X (.Constant .none j pos) (tC .non):=⟨CV⟩
theorem bx {z:Str}{j}:QE X (.Constant (.str z) j pos) (tC (.str z)):=⟨zG⟩
theorem xm (ha:QE X a ta):QE X (.UnaryOp .USub a pos) (tUn nY ta):=⟨DJ Je ha.out⟩
theorem HY (ha:QE X a ta):QE X (.UnaryOp .Not a pos) (qB ta):=⟨Eh ha.out⟩
theorem aG {op:Operator}{r:R2}(ho:OpR X (binaryOp op) r)(ha:QE X a ta)(hb:QE X b tb):QE X (.BinOp a op b pos) (tOp r ta tb):=⟨Dh ho ha.out hb.out⟩
theorem eC {op:PQ}{r:R2}(ho:OpR X (compareOp op) r)(ha:QE X a ta)(hb:QE X b tb)(hm:behindInMarks op b=false:=by first|exact jX _|rfl):QE X (.Compare a [op] [b] pos) (tOp r ta tb):=⟨qc ho ha.out hb.out hm⟩
theorem fB {op op':PQ}{r r':R2}(ho:OpR X (compareOp op) r)(ho':OpR X (compareOp op') r')(ha:QE X a ta)(hb:QE X b tb)(hc:QE X c tc)(hm:lastMarks [op,op'] [b,c]=false:=by with_unfolding_all rfl):
 QE X (.Compare a [op,op'] [b,c] pos) (dW r r' ta tb tc):=⟨qch ho ho' ha.out hb.out hc.out hm⟩
theorem dB {op}(h:QE X a ta):QE X (.BoolOp op [a] pos) ta:=⟨CZ h.out⟩
theorem cH (ha:QE X a ta)(hb:QE X (.BoolOp .And (b::cQ) pos) tb):QE X (.BoolOp .And (a::b::cQ) pos) (cx ta tb):=⟨Jz ha.out hb.out⟩
theorem kO (hc:QT X c tA)(ha:QE X a ta)(hb:QE X b tb):QE X (.IfExp c a b pos) (mIf tA ta tb):=⟨JZ hc.out ha.out hb.out⟩
theorem ag:QA X [] ai:=⟨BZ⟩
theorem ab (ha:QE X e te)(hr:QA X es t)(hs:bT e=true:=by rfl):QA X (e::es) (ac te t):=⟨yR ha.out hr.out hs⟩
theorem cj (h:QA X es t):QE X (.List es pos) (cC t):=⟨CJ h.out⟩
theorem bn {x1}(h:QA X es t):QE X (.Tuple es x1 pos) (bv t):=⟨Bv h.out⟩
theorem bJ {r:R2}(hr:IxR X r)(ha:QE X a ta)(hb:QE X b tb)(hs:pd b):QE X (.Subscript a b pos) (tOp r ta tb):=⟨DB hr ha.out hb.out hs⟩
theorem yU:QO X none kR:=⟨yB⟩
theorem kE (h:QE X e te):QO X (some e) (ju te):=⟨yM h.out⟩
theorem pq {r:V->Option Int->Option Int->Hp->VK->Prop}{lo hi:Option Expr}{tl th:TO}{p2:Pos}(hr:SlR X r)(he:QE X e te)(hl:QO X lo tl)(hu:QO X hi th):QE X (.Subscript e (.Slice lo hi none p2) pos) (tSl r te tl th):=⟨vV hr he.out hl.out hu.out⟩
variable {id T:String}{r:List V->Hp->VK->Prop}
theorem bB (hc:bP X (.builtin id) r)(hm:X.mg x=none)(hv:bootBuiltins x=some (.builtin id))(ha:QA X (e::es) t)(hg:Gl X x:=by rfl)(hn:x≠"__name__":=by decide)(hdb:(x==("__debug__":Str))=false:=by decide)
 (hs:bc (e::es)=true:=by rfl):QE X (.Call (.Name x p) (e::es) [] pos) (tCB r t):=⟨yV hc hg hm hv ha.out hn hdb hs⟩
theorem gF (hc:bP X (.type T) r)(hm:X.mg x=none)(hv:bootBuiltins x=some (.type T))(ha:QA X (e::es) t)(hg:Gl X x:=by rfl)(hn:x≠"__name__":=by decide)(hdb:(x==("__debug__":Str))=false:=by decide)
 (hs:bc (e::es)=true:=by rfl):QE X (.Call (.Name x p) (e::es) [] pos) (tCB r t):=⟨wF hc hg hm hv ha.out hn hdb hs⟩
variable {CX:CXT}{k:Nat}{f C:Addr}{fd:Gt}{ps:List Str}{sp:Sp}{dvs:List V}{ds:List pv}{E:XK}{m:Str}
variable {name:Str}{rm:V->List V->Hp->VK->Prop}
theorem jo (pa:Oy T)(slot:Slot T name id)(hty:typeOf (.builtin id)=pure (.type "method_descriptor"))(hm:MtR X id rm)(ho:QE X o to)(ha:QA X (e::es) t)
 (hbase:attributeBase o name X.env (eval o X.env)=eval o X.env:=by rfl)(hfew:decide ((e::es).length<30)=true:=by rfl)
 (hline:(apos.endLine==cpos.line)=true:=by rfl)(hs:bc (e::es)=true:=by rfl):QE X (.Call (.Attribute o name apos) (e::es) [] cpos) (tBM X.K T rm to t):=⟨IF pa slot hty hm ho.out ha.out hbase hfew hline hs⟩
theorem aW {op:PQ}{r:R2}(ho:OpR X (compareOp op) r)(ha:QE X a ta)(hb:QE X b tb)(hm:behindInMarks op b=false:=by first|exact jX _|rfl):QT X (.Compare a [op] [b] pos) (bg (tOp r ta tb)):=⟨qtc ho ha.out hb.out hm⟩
theorem uE {op op':PQ}{r r':R2}(ho:OpR X (compareOp op) r)(ho':OpR X (compareOp op') r')(ha:QE X a ta)(hb:QE X b tb)(hc:QE X c tc)(hm:lastMarks [op,op'] [b,c]=false:=by with_unfolding_all rfl):
 QT X (.Compare a [op,op'] [b,c] pos) (bg (dW r r' ta tb tc)):=⟨IC ho ho' ha.out hb.out hc.out hm⟩
theorem bE (h:QE X e te)(he:∀whole,isTrue e X.env whole=(do let v<-whole;standAt e.pos;holding [v] (truthy v)):=by intro _;rfl):QT X e (cr X.K te):=⟨qtb h.out he⟩
theorem bR (ha:QT X a tA):QT X (.UnaryOp .Not a pos) (cO tA):=⟨BR ha.out⟩
theorem x_w (h:QW X e tA):QT X e tA:=⟨h.out.pt⟩
theorem ph (ha:QT X a tA):QW X (.BoolOp .And [a] pos) tA:=⟨xV ha.out⟩
theorem fe (ha:QT X a tA):QW X (.BoolOp .Or [a] pos) tA:=⟨AJ ha.out⟩
theorem nI (ha:QT X a tA)(hb:QW X (.BoolOp .And (b::cQ) pos) tB'):QW X (.BoolOp .And (a::b::cQ) pos) (ox tA tB'):=⟨CH ha.out hb.out⟩
theorem fZ (ha:QT X a tA)(hb:QW X (.BoolOp .Or (b::cQ) pos) tB'):QW X (.BoolOp .Or (a::b::cQ) pos) (mOr tA tB'):=⟨DQ ha.out hb.out⟩
variable {tg iter elt:Expr}{wi:TI}{ifs:List Expr}{scope:Scope}{ys:List Str}{is:List Nat}{px py spos:Pos}
theorem uG (hm:X.mg "range"=none)(ha:QA X [a] t)(hg:Gl X "range":=by rfl)(hs:bT a=true:=by rfl):QI X tg (.Call (.Name "range" p) [a] [] pos) (qk t):=⟨rD hg hm ha.out (ba hs [] X.env)⟩
theorem Be:AD X [] (fun _ H Q=>Q true H):=⟨rfl⟩
theorem BP {tcn:TT}(S:gh scope x ys)(hcap:gn X scope ys is)(hi:QI X (.Name x px) iter wi)
 (hif:∀C s H fp,AD (bK X scope C (x::ys) s H fp) ifs tcn)(he:∀C s H fp,QE (bK X scope C (x::ys) s H fp) elt te)(hc:X.calm=true:=by rfl)
 (hs:∀x,foldedSetIterable iter X.env x=pure x:=by intro _;rfl):QE X (.ListComp elt [⟨.Name x px,iter,ifs,0⟩] scope pos) (pK is wi tcn te):=⟨yl hc S hcap hi.out (fun C s H fp=>(hif C s H fp).out) (fun C s H fp=>(he C s H fp).out) hs⟩
variable {st:Stmt}{sts:List Stmt}{tS uS:TS}{i j:Nat}
theorem aQ:QSs X [] aY:=⟨yC⟩
theorem ak (h:QS X st tS):QSs X [st] tS:=⟨yD h.out⟩
theorem ao (h1:QS X st tS)(h2:QSs X sts uS):QSs X (st::sts) (ay tS uS):=⟨vq h1.out h2.out⟩
theorem aw (h:QE X e te):QS X (.Return (some e) pos) (aC te):=⟨Cu h.out⟩
theorem aZ {l m:List Stmt}(hc:QT X c tA)(ha:QSs X l tS)(hb:QSs X m uS):QS X (.If c l m pos) (bp tA tS uS):=⟨qif hc.out ha.out hb.out⟩
theorem aO (i:Nat)(hN:X.N.Nodup)(he:QE X e te)(hi:X.N[i]?=some x:=by rfl)(hx:Loc X.env.scope x:=by first|exact .inl rfl|exact .inr rfl)
 (hs:swapsWith e (some (.Name x p)) pos.line X.env=pure false:=by rfl)(hf:X.fn x=true\/X.env.scope.names.lookup x=some .local:=by first|exact .inl rfl|exact .inr rfl):QS X (.Assign [.Name x p] e pos) (aS te (aI i)):=⟨Ad hN hi hx he.out hs hf⟩
theorem cE (h:QE X e te)(hs:swapsWith e none pos.line X.env=pure false:=by rfl):QS X (.Expr e pos) (cI te):=⟨ym h.out hs⟩
theorem mN (i:Nat)(hN:X.N.Nodup){body:List Stmt}(hi:QI X (.Name x px) iter wi)(hb:QSs X body tS)(hp:PP (model X.prog X.w) X.A X.env X.xe)(hc:X.calm=true:=by rfl)
 (hj:X.N[i]?=some x:=by rfl)(hx:Loc X.env.scope x:=by first|exact .inl rfl|exact .inr rfl)(hf:X.fn x=true\/X.env.scope.names.lookup x=some .local:=by first|exact .inl rfl|exact .inr rfl)
 (hs:∀x,foldedSetIterable iter X.env x=pure x:=by intro _;rfl):QS X (.For (.Name x px) iter body [] pos) (kc wi (aI i) tS):=⟨Bn hp hc hi.out (xZ hN hj hx hf) hb.out hs⟩
theorem oW {body:List Stmt}(hc:QT X c tA)(hb:QSs X body tS)(hp:PP (model X.prog X.w) X.A X.env X.xe):QS X (.While c body [] pos) (jU tA tS):=⟨tI hp hc.out hb.out⟩
theorem cZ:QS X st da:=⟨uc⟩
end
end L2
namespace HT
open PySem PyProof.Rows
structure Hd0 (vs:Array pv)(a0:pv):Prop where
 a:vs[0]?=some a0
 b:vs[2]?=some .none
end HT
namespace L2
open PySem PySem.Spec PyProof.Rows
structure Fly (P:Lf)(w:LA)(l:List Env)(H:Hp)(s:Dc)(cls fl:pv)(a:Addr)(d:Option Addr)(H':Hp)(s':Dc):Prop where
 os:s'.os=s.os
 bare:Nz s'.gens
 un:Un (frs l) [] H H' s.heap s'.heap
 hok:HOk P w H' s'.heap
 new:s.heap.get? a=none
 free:H' a=none
 tr:∃oe vs a0 T oT ts,s'.heap.get? a=some oe/\oe.cls=cls/\oe.dict=d/\oe.data=.fields vs/\HT.Hd0 vs a0/\vs[1]?=some (.ref T)/\T≠a/\s'.heap.get? T=some oT/\oT.data=.fields ts/\ts[3]?=some fl/\s.heap.get? T=none/\H' T=none
def CX1 (P:Lf)(w:LA):CXT:=fun outer H s E e s'=>∃a C d H',e=.ref a/\Fly P w outer H s (.ref C) .none a d H' s'/\E (.ref C) d H'
theorem vc {P:Lf}{w:LA}{H:Hp}{h:Heap}{a:Addr}{o:HO}(x:bh P w H h a o):∃u,h.get? a=some u:=by
 cases o with
 |lst xs=>obtain⟨_,_,_,_,e⟩:=x;exact⟨_,e⟩
 |tup xs=>obtain⟨_,_,_,p⟩:=x;obtain⟨o,e,_⟩:=p;exact⟨_,e⟩
 |dK kvs=>obtain⟨_,_,_,_,o,_,_,e,_⟩:=x;exact⟨_,e⟩
 |dT kvs=>obtain⟨_,_,_,_,o,_,_,e,_⟩:=x;exact⟨_,e⟩
 |set S n=>obtain⟨o,_,_,_,e,_⟩:=x;exact⟨_,e⟩
 |ins C dx fs=>obtain⟨_,_,_,e,_⟩:=x;exact⟨_,e⟩
 |own y=>exact x
 |xd fs=>obtain⟨_,⟨_,_,_,e,_⟩,_⟩:=x;exact⟨_,e⟩
 |rng lo hi=>obtain⟨_,_,_,e⟩:=x;exact⟨_,e⟩
 |frz ob u=>obtain⟨e,_⟩:=x;exact⟨_,e⟩
 |tbl ps=>exact⟨_,(show h.get? a=some _ from x)⟩
 |met f y=>exact⟨_,(show h.get? a=some _ from x)⟩
 |ext φ=>obtain⟨_,e,_⟩:=x;exact e
def dH (CX:CXT)(X:Cx)(E:St->XK):Prop:=∀(pins:List (Addr×Obj))(σ:St)(H:Hp)(s:Dc)(e:pv)(s':Dc),Inv X pins σ H s->CX X.stack H s (E σ) e s'->X.xe e s'
theorem av {P:Lf}{w:LA}{X:Cx}:dH (CX1 P w) X (fun _=>E0):=fun pins σ H s e s' I ⟨_,_,_,_,_,_,h⟩=>h.elim
def ax (sp:Sp)(E:St->XK)(t:TA):TE:=fun σ H Q=>t σ H fun vs H1=>sp vs H1 Q (E σ)
section
variable {X:Cx}{CX:CXT}{k:Nat}{f:Addr}{fd:Gt}{ps:List Str}{sp:Sp}{E:St->XK}{x:Str}{p pos:Pos}{e:Expr}{es:List Expr}{t:TA}
theorem fy {pins:List (Addr×Obj)}{σ:St}{H:Hp}{s:Dc}{Q:VK}{us:List pv}{vs:List V}(F:aA X.prog X.w X.K X.mg X.base CX k f fd ps sp)(hr:be k X.A)(hb:aF X.K fd ps [])(hx:dH CX X E)
  (I:Inv X pins σ H s)(r:aU vs us)(h:sp vs H Q (E σ)):wpAny (model X.prog X.w) X.A (call (.ref f) us) (EP X pins σ Q) X.xe s:=by
 have hl:us.length=ps.length:=by rw[<-r.length];exact F.len _ _ _ _ h
 have hb':=hb s us I.kIn (by rw[LX];exact hl)
 rw[LX]at hb'
 refine Nu (Mr (F.run X.A X.stack s H ⟨us,[]⟩ us vs Q (E σ) hr I.env0 hb' r h) fun r s' hq=>?_)
 cases r with
 |error e=>exact hx pins σ H s e s' I hq
 |ok fl=>
  cases fl with
  |ret u=>exact I.after hq
  |next=>exact Lh hq
  |brk=>exact Lh hq
  |cont=>exact Lh hq
theorem yY (F:aA X.prog X.w X.K X.mg X.base CX k f fd ps sp)(hr:be k X.A)(hm:X.mg x=some (.ref f))(hk:Mg X.K (.ref f)=true)(hb:aF X.K fd ps [])(hx:dH CX X E)
  (ha:QA X (e::es) t)(hg:Gl X x:=by rfl)(hdb:(x==("__debug__":Str))=false:=by decide)(hs:bc (e::es)=true:=by rfl):QE X (.Call (.Name x p) (e::es) [] pos) (ax sp E t):=by
 refine⟨fun pins s σ H Q I h=>?_⟩
 have h':(bT e&&bc es)=true:=hs
 refine LP (eV I hg hm ?_ hdb)
 refine Nn (h₀:=X.base) I.ok.mod.kin hk (thn (ha.out pos pins s σ H _ I h) fun us s1 ⟨vs,H1,I1,r,q⟩=>⟨I1.kIn,?_⟩) (ba (tx.mp h').1 es X.env) (bO (tx.mp h').2)
 exact fy F hr hb hx I1 r q
theorem wH (F:aA X.prog X.w X.K X.mg X.base CX k f fd ps sp)(hr:be k X.A)(hm:X.mg x=some (.ref f))(hk:Mg X.K (.ref f)=true)(hb:aF X.K fd ps [])(hx:dH CX X E)
  (hg:Gl X x:=by rfl)(hdb:(x==("__debug__":Str))=false:=by decide):QE X (.Call (.Name x p) [] [] pos) (ax sp E ai):=by
 refine⟨fun pins s σ H Q I h=>?_⟩
 refine LP (eV I hg hm ?_ hdb)
 exact NX I.kIn hk (fy (us:=[]) F hr hb hx I .nil h)
end
abbrev TH:=ig->St->Addr->Option Addr->Hp->Prop
section
variable {X:Cx}
theorem qM {x:Str}{D:Addr}{pos:Pos}(hm:X.mg x=some (.ref D))(hg:Gl X x:=by rfl)(hd:(x==("__debug__":Str))=false:=by decide):QE X (.Name x pos) (tC (.ref D)):=⟨kj hg hm rfl hd⟩
end
end L2
namespace HT
open PySem PyProof.Rows
section
variable {prog:Lf}{w:LA}{A:LC}{E:pv->Dc->Prop}{s:Dc}
theorem hU {t sl:Addr}{items:Array pv}{vl vu:pv}{lo hi:Option Int}{Q:pv->Dc->Prop}(ht:Rf s.heap t items)(hs:s.heap.IsSliceOf sl vl vu .none)(pl:OC vl lo)(pu:OC vu hi)
  (hw:sIx items.size 0 lo=0/\sIx items.size items.size hi=items.size)(h:Q (.ref t) s):wpAny (model prog w) A (getItem (.ref t) (.ref sl)) Q E s:=by
 obtain⟨os,hos,hcs,hds⟩:=id hs
 have hTs:s.TypeIs (.ref sl) "slice":=⟨os,hos,hcs⟩
 unfold getItem
 try with_reducible refine Ng ?_
 first|refine KJ (La ?_)|skip
 refine KJ (Qy ht.typeIs (by decide) ?_)
 refine KJ (Ny (name:=Oe "__getitem__") ht.typeIs Lz
  (OJ Lz ht.typeIs Qk ?_ (Qt _ _)))
 show wpAny _ _ (NI (.ref t)>>=_) _ _ s
 refine KJ (tupleItemsOf_ ht ?_)
 refine KJ (PH hTs ?_)
 rw[if_pos (by decide)]
 refine KJ (fO hs pl pu ?_)
 have hyes:(((sIx items.size 0 lo:Nat):Int)==0&&(1:Int)==1&&(sIx items.size items.size hi- sIx items.size 0 lo)==items.size)=true:=by
  rw[hw.1,hw.2];simp
 show wpAny _ _ (if (((sIx items.size 0 lo:Nat):Int)==0&&(1:Int)==1&&(sIx items.size items.size hi- sIx items.size 0 lo)==items.size)=true then _ else _) _ _ s
 rw[if_pos hyes]
 have hte:s.TypeIs (.ref t) "tuple":=ht.typeIs
 unfold Ra
 repeat (first|exact⟨_,rfl,La h⟩|(with_reducible refine PH hte ?_)|wp_step)
end
section
variable {prog:Lf}{w:LA}{A:LC}{E:pv->Dc->Prop}{s:Dc}
theorem wB {t b:Addr}{ws:List pv}{Q:pv->Dc->Prop}(ht:Rf s.heap t #[])(hb:Rf s.heap b ws.toArray)(h1:Q (.ref b) s):wpAny (model prog w) A (binaryOp .Add (.ref t) (.ref b)) Q E s:=by
 obtain⟨⟨cls,dd,data,sl⟩,ho,hc,n,hd⟩:=id ht
 obtain⟨⟨cls2,dd2,data2,sl2⟩,ho2,hc2,n2,hd2⟩:=id hb
 simp only at hc hd hc2 hd2
 subst hc hd hc2 hd2
 exact PK ⟨_,ho,rfl⟩ ⟨_,ho2,rfl⟩ OK Pr Nq Nm (Ni _ _)
  (tuple_addW0 t b #[] ws.toArray n n2 dd dd2 sl sl2 (by simp)) ⟨ho,ho2,h1⟩
end
end HT
namespace L2
open PySem PySem.Spec PyProof.Rows
theorem ar.rfl' {H:Hp}:ar H H:=fun _ _ e=>e
theorem qf {xs:List V}{lo hi:Option Int}(h:HT.sIx xs.length 0 lo=0/\HT.sIx xs.length xs.length hi=xs.length):fI xs lo hi=xs:=by
 unfold fI
 rw[h.1,h.2,Qo,Ph,PV]
section
variable {X:Cx}
def xh:V->Option Int->Option Int->Hp->VK->Prop:=fun x lo hi H Q=>∃a xs,x=.ref a/\H a=some (.tup xs)/\∀p H',ar H H'->H' p=some (.tup (fI xs lo hi))->Q (.ref p) H'
theorem yp:SlR X xh:=by
 intro pins s σ H x v vl vu lo hi sl Q I rx hs pl pu h
 obtain⟨a,xs,rfl,hx,q⟩:=h
 have hq:SqT X.K H a xs:=.inl (.inl hx)
 by_cases hw:HT.sIx xs.length 0 lo=0/\HT.sIx xs.length xs.length hi=xs.length
 ·cases rx
  obtain⟨its,r,ht,hz⟩:=I.tuple hq
  have hlen:its.toArray.size=xs.length:=by rw[KR];exact r.length.symm
  refine⟨"tuple",_,Lz.lookup,ht.typeIs,?_⟩
  refine HT.hU ht hs pl pu (by rw[hlen];exact hw) ?_
  exact⟨.ref a,H,I,rfl,q a H ar.rfl' (by rw[qf hw];exact hx)⟩
 ·exact Ck pins s σ H _ v vl vu lo hi sl Q I rx hs pl pu ⟨a,xs,rfl,hq,hw,fun p hp=>q p _ (ar.upd hp) (af ..)⟩
def xA:R2:=fun x y H Q=>∃a b xs ys,x=.ref a/\y=.ref b/\H a=some (.tup xs)/\H b=some (.tup ys)/\xs.length+ys.length<=sizeLine/\∀p H',ar H H'->H' p=some (.tup (xs++ys))->Q (.ref p) H'
theorem ya:OpR X (binaryOp .Add) xA:=by
 intro pins s σ H x y v u Q I rx ry h
 obtain⟨a,b,xs,ys,rfl,rfl,ha,hb,hz,q⟩:=h
 by_cases hx:xs=[]
 ·subst hx
  cases rx
  cases ry
  obtain⟨its,r1,p1,_⟩:=I.tuple (.inl (.inl ha))
  obtain⟨its2,r2,p2,_⟩:=I.tuple (.inl (.inl hb))
  cases r1
  exact HT.wB p1 p2 ⟨.ref b,H,I,rfl,q b H ar.rfl' hb⟩
 ·refine yT pins s σ H _ _ v u Q I rx ry ⟨a,b,xs,ys,rfl,rfl,.inl (.inl ha),.inl (.inl hb),hx,hz,fun e=>?_,fun _ p hp=>q p _ (ar.upd hp) (af ..)⟩
  subst e
  exact q a H ar.rfl' (by rw[LX];exact ha)
def bX (K:cW):R2:=fun x y H Q=>match x,y with
 |.int i,.int j=>Q (.int (i+j)) H
 |.str i,.str j=>i.length+j.length<=sizeLine/\Q (.str (i++j)) H
 |.ref a,.ref b=>Cs (.ref a) (.ref b) H Q\/xA (.ref a) (.ref b) H Q
 |_,_=>False
theorem cw:OpR X (binaryOp .Add) (bX X.K):=(Ae.or (qj.or (zo.or ya))).imp fun x y H Q q=>by
 unfold bX at q
 split at q
 ·exact .inl ⟨_,_,rfl,rfl,q⟩
 ·exact .inr (.inl ⟨_,_,rfl,rfl,q.1,q.2⟩)
 ·exact .inr (.inr q)
 ·exact q.elim
def Cc (K:cW):V->Option Int->Option Int->Hp->VK->Prop:=fun x lo hi H Q=>Ai K x lo hi H Q\/xh x lo hi H Q
theorem AB:SlR X (Cc X.K):=xT.or yp
end
theorem Fun.okN {P:Lf}{w:LA}{K:cW}{mg:Str->Option pv}{base:Heap}{CX:CXT}{x qual:Str}{st:Stmt}{f:Addr}{fd:Gt}{N ps:List Str}{k:Nat}{sp:Sp}(F:Fun K x qual st f fd)(S:au N ps (aj st))(len:∀vs H Q E,sp vs H Q E->vs.length=ps.length)
  (hbody:∀(cdv:pv)(A:LC)(outer:List Env)(s:Dc)(H:Hp)(vs:List V)(Q:VK)(E:XK),be k (A.deeper (envOfC qual (aj st) s.heap.objs.size f cdv))->sp vs H Q E->
   ∃t,PSs (fh CX P w K mg base N qual (aj st) f cdv A outer s H E).nox (bi st) t/\t {nx:=fun _ H'=>Q .non H',rt:=Q} (bV N vs) H):aA P w K mg base CX (k+1) f fd ps sp:=by
 obtain⟨oc,od,kV,doc,pm,an,cdv,ct,osl,rfl,lk,hcd⟩:=F.ex
 refine Fl lk hcd S len fun A outer s H vs Q E hr hsp=>?_
 obtain⟨t,h,q⟩:=hbody cdv A outer s H vs Q E hr hsp
 exact⟨t,h.nox,q⟩
section
variable {X:Cx}
def zh:V->Option Int->Option Int->Hp->VK->Prop:=fun x lo hi H Q=>∃z,x=.str z/\z.length<=sizeLine/\Q (.str (Txt.slice z lo hi)) H
theorem zp:SlR X zh:=by
 intro pins s σ H x v vl vu lo hi sl Q I rx hs pl pu h
 obtain⟨z,rfl,hz,q⟩:=h
 obtain⟨t,rfl⟩:=(show ∃t,v=NN z t from rx)
 refine⟨"str",_,F.slot_str_getitem.lookup,QF _ _ _,?_⟩
 have fin:∀(l u:Option (Int×Tok)),l.map (·.1)=lo->u.map (·.1)=hi->s.heap.IsSlice sl l u none->wpAny (model X.prog X.w) X.A (getItem (.str z t) (.ref sl)) (EP X pins σ Q) X.xe s:=fun l u e1 e2 hs'=>by
  subst e1 e2
  refine wpAny_getItem_str_slice (l:=l) (u:=u) (st:=none) hs' rfl (post_val_or_str ⟨Ll (Txt.slice_le z _ _) hz,fun t' k=>⟨.str _,H,I.tok k,⟨_,rfl⟩,q⟩⟩)
 obtain⟨os,hos,hcs,hds⟩:=hs
 cases pl with
 |none=>cases pu with
  |none=>exact fin none none rfl rfl ⟨os,hos,hcs,hds⟩
  |int j tj=>exact fin none (some (j,tj)) rfl rfl ⟨os,hos,hcs,hds⟩
 |int i ti=>cases pu with
  |none=>exact fin (some (i,ti)) none rfl rfl ⟨os,hos,hcs,hds⟩
  |int j tj=>exact fin (some (i,ti)) (some (j,tj)) rfl rfl ⟨os,hos,hcs,hds⟩
def sW (K:cW):V->Option Int->Option Int->Hp->VK->Prop:=fun x lo hi H Q=>Cc K x lo hi H Q\/zh x lo hi H Q
theorem sS:SlR X (sW X.K):=AB.or zp
def jQ:V->Bool
 |.int _=>true
 |.str _=>true
 |_=>false
theorem qK {A:LC}{s:Dc}{x y:V}{u v:pv}(rx:aM x u)(ry:aM y v)(hx:jQ x=true)(hy:jQ y=true):PySem.SeqAt.EqAt A s u v (decide (x=y)):=by
 cases x<;>first|cases hx|skip
 all_goals (cases y<;>first|cases hy|skip)
 ·obtain⟨t,rfl⟩:=rx;obtain⟨t',rfl⟩:=ry
  have e:=NF (A:=A) (s:=s) ‹Int› t ‹Int› t'
  rename_i i j
  have e2:decide (V.int i=V.int j)=(i==j):=by rw[iq (f:=V.int) fun _ _ e=>V.int.inj e];rfl
  rw[e2];exact NF i t j t'
 ·obtain⟨t,rfl⟩:=rx;obtain⟨t',rfl⟩:=ry
  exact NZ _ _ _ _
 ·obtain⟨t,rfl⟩:=rx;obtain⟨t',rfl⟩:=ry
  exact NY _ _ _ _
 ·obtain⟨t,rfl⟩:=rx;obtain⟨t',rfl⟩:=ry
  rename_i i j
  have e2:decide (V.str i=V.str j)=(i==j):=by
   rw[iq (f:=V.str) fun _ _ e=>V.str.inj e]
   by_cases h:i=j
   ·rw[h];simp
   ·rw[decide_eq_false h];exact(beq_eq_false_iff_ne.mpr h).symm
  rw[e2];exact Qb i t j t'
theorem rn {xs ys:List V}:decide (xs=ys)=((NW (min xs.length ys.length)).all (fun j=>decide (xs[j]?=ys[j]?))&&xs.length==ys.length):=by
 by_cases h:xs=ys
 ·subst h;simp
 ·rw[decide_eq_false h]
  by_cases hl:xs.length=ys.length
  ·rw[hl,Nat.min_self,beq_self_eq_true,Qw]
   symm
   rw[List.all_eq_false]
   apply Ma
   intro hn
   apply h
   apply List.ext_getElem? fun i=>?_
   by_cases hi:i<ys.length
   ·apply Ma
    intro hne
    exact hn ⟨i,NG.mpr hi,by simpa using hne⟩
   ·rw[Pc (by omega),Pc (by omega)]
  ·have:(xs.length==ys.length)=false:=by simpa using hl
   rw[this,MG]
def Bt (K:cW):R2:=fun x y H Q=>∃a b xs ys,x=.ref a/\y=.ref b/\SqT K H a xs/\SqT K H b ys/\xs.all jQ=true/\ys.all jQ=true/\Q (.bl (decide (xs=ys))) H
theorem Br (hu:X.A.units<cLine):OpR X (compareOp .Eq) (Bt X.K):=by
 intro pins s σ H x y v u Q I rx ry h
 obtain⟨a,b,xs,ys,rfl,rfl,ha,hb,px,py,q⟩:=h
 cases rx
 cases ry
 obtain⟨its,r1,p1,_⟩:=I.tuple ha
 obtain⟨its2,r2,p2,_⟩:=I.tuple hb
 have l1:=r1.length
 have l2:=r2.length
 refine PySem.SeqAt.eq_tupleAt (e:=fun j=>decide (xs[j]?=ys[j]?)) p1 p2 hu (fun j h1 h2=>?_) ?_
 ·have h1:j<its.length:=by simpa using h1
  have h2:j<its2.length:=by simpa using h2
  have e1:xs[j]?=some xs[j]:=KU (by omega)
  have e2:ys[j]?=some ys[j]:=KU (by omega)
  obtain⟨u1,g1,ru1⟩:=r1.get e1
  obtain⟨u2,g2,ru2⟩:=r2.get e2
  have g1':its.toArray[j]=u1:=by
   rw[KU h1]at g1;simpa using KN g1
  have g2':its2.toArray[j]=u2:=by
   rw[KU h2]at g2;simpa using KN g2
  rw[g1',g2',e1,e2]
  have:decide (some xs[j]=some ys[j])=decide (xs[j]=ys[j]):=by simp
  rw[this]
  exact qK ru1 ru2 (Mq.mp px _ (Oh _)) (Mq.mp py _ (Oh _))
 ·have e:=rn (xs:=xs) (ys:=ys)
  rw[l1,l2]at e
  simp only[KR]
  rw[<-e]
  exact⟨.bl _,H,I,rfl,q⟩
end
def aK (C:Addr)(m:Str)(sp:Sp)(E:St->XK)(ta:TE)(t:TA):TE:=fun σ H Q=>ta σ H fun x H1=>∃a dx fs,x=.ref a/\H1 a=some (.ins C dx fs)/\fs.lookup m=none/\t σ H1 fun vs H2=>sp (x::vs) H2 Q (E σ)
def bY (C:Addr)(sp:Sp)(E:St->XK)(t:TA):TE:=fun σ H Q=>t σ H fun vs H1=>∀x dx,H1 x=none->H1 dx=none->dx≠x->
 sp (.ref x::vs) (upd (upd H1 dx (.own x)) x (.ins C dx [])) (fun v H2=>v=.non/\Q (.ref x) H2) (E σ)
section
variable {X:Cx}{CX:CXT}{k:Nat}{f C:Addr}{fd:Gt}{ps:List Str}{sp:Sp}{E:St->XK}{x m fl:Str}{p pos apos pos':Pos}{e o value:Expr}{es:List Expr}{ta tv to:TE}{t:TA}
theorem az (he:QE X e ta)(hb:attributeBase e fl X.env (eval e X.env)=eval e X.env:=by rfl):QE X (.Attribute e fl pos) (aE X.K ta fl):=⟨BC he.out hb⟩
theorem br (ho:QE X o to)(hv:QE X value tv)(hs:swapsWith value (some (.Attribute o fl pos')) pos.line X.env=pure false:=by rfl):QS X (.Assign [.Attribute o fl pos'] value pos) (cL X.K to tv fl):=⟨Ci ho.out hv.out hs⟩
theorem aT {pl:Sem Bool}(he:QE X o ta)(c:Cls X.K C)(hm:bq X.K C m f)(F:aA X.prog X.w X.K X.mg X.base CX k f fd ps sp)(hr:be k X.A)(hb:aF X.K fd ps [])(hx:dH CX X E)(ha:QA X (e::es) t)
  (hs:bc (e::es)=true:=by rfl)
  (ht:eval (.Call (.Attribute o m apos) (e::es) [] pos) X.env=(do
   let ov<-eval o X.env
   standAt apos.atName
   let (f,first)<-holding [ov] (getMethod ov m pl)
   callWith pos f first (backTo pos (starEach (e::es) X.env)) (backToKw pos (keywordEach [] X.env))):=by rfl):
  QE X (.Call (.Attribute o m apos) (e::es) [] pos) (aK C m sp E ta t):=⟨fun pins s σ H Q I h=>by
 have h':(bT e&&bc es)=true:=hs
 refine MP (pl:=pl) (thn (he.out pins s σ H _ I h) fun u s1 ⟨x,H1,I1,rx,a,dx,fs,ex,ea,l,q⟩=>?_) ht
 subst ex
 obtain rfl:u=Lo a:=rx
 refine gL I1 ea c hm l ?_
 refine Nn (first:=[.ref a]) (h₀:=X.base) I.ok.mod.kin hm.kp (thn (ha.out pos pins s1 σ H1 _ I1 q) fun us s2 ⟨vs,H2,I2,r,q2⟩=>⟨I2.kIn,?_⟩)
  (ba (tx.mp h').1 es X.env) (bO (tx.mp h').2)
 exact fy (us:=.ref a::us) (vs:=.ref a::vs) F hr hb hx I2 (.cons rfl r) q2⟩
theorem cR {pl:Sem Bool}(he:QE X o ta)(c:Cls X.K C)(hm:bq X.K C m f)(F:aA X.prog X.w X.K X.mg X.base CX k f fd ps sp)(hr:be k X.A)(hb:aF X.K fd ps [])(hx:dH CX X E)
  (ht:eval (.Call (.Attribute o m apos) [] [] pos) X.env=(do
   let ov<-eval o X.env
   standAt apos.atName
   let (f,first)<-holding [ov] (getMethod ov m pl)
   callWith pos f first (backTo pos (starEach [] X.env)) (backToKw pos (keywordEach [] X.env))):=by rfl):
  QE X (.Call (.Attribute o m apos) [] [] pos) (aK C m sp E ta ai):=⟨fun pins s σ H Q I h=>by
 refine MP (pl:=pl) (thn (he.out pins s σ H _ I h) fun u s1 ⟨x,H1,I1,rx,a,dx,fs,ex,ea,l,q⟩=>?_) ht
 subst ex
 obtain rfl:u=Lo a:=rx
 refine gL I1 ea c hm l ?_
 exact NX (first:=[.ref a]) I1.kIn hm.kp (fy (us:=[.ref a]) (vs:=[.ref a]) F hr hb hx I1 (.cons rfl .nil) q)⟩
theorem lc {pins:List (Addr×Obj)}{σ:St}{H:Hp}{s:Dc}{Q:VK}{us:List pv}{vs:List V}(M:Mk X.K C f)(F:aA X.prog X.w X.K X.mg X.base CX k f fd ps sp)(hr:be (k+1) X.A)(hb:aF X.K fd ps [])
  (hx:dH CX X E)(I:Inv X pins σ H s)(r:aU vs us)
  (h:∀x dx,H x=none->H dx=none->dx≠x->sp (.ref x::vs) (upd (upd H dx (.own x)) x (.ins C dx [])) (fun v H2=>v=.non/\Q (.ref x) H2) (E σ)):
  wpAny (model X.prog X.w) X.A (call (.ref C) us) (EP X pins σ Q) X.xe s:=by
 have hq:=h (s.heap.objs.size+1) s.heap.objs.size (I.hok.fresh (NO _)) (I.hok.fresh (gV _)) (Ld (Om _))
 have I2:=Inv.made (C:=C) I
 have r2:aU (V.ref (s.heap.objs.size+1)::vs) (Lo (s.heap.objs.size+1)::us):=.cons rfl r
 have hl:(Lo (s.heap.objs.size+1)::us).length=ps.length:=by
  have e:=r2.length
  rw[F.len _ _ _ _ hq]at e
  exact e.symm
 have hb':=hb _ (Lo (s.heap.objs.size+1)::us) I2.kIn (by rw[LX];exact hl)
 rw[LX]at hb'
 refine Nu (tH (f:=f) I.kIn M.makes M.init (beq_iff_eq.mp M.fn) (Mr (F.run _ X.stack _ _ ⟨Lo (s.heap.objs.size+1)::us,[]⟩ (Lo (s.heap.objs.size+1)::us) _ _ (E σ) (hr.make C us [])
  (I2.env0.make C us []) hb' r2 hq) fun r s' hq'=>?_))
 cases r with
 |error e=>exact hx pins σ _ _ e s' I2 hq'
 |ok fl=>
  cases fl with
  |ret u=>
   obtain⟨v,H',I3,rv,ev,q3⟩:=I2.after hq'
   subst ev
   exact⟨rv,⟨V.ref (s.heap.objs.size+1),H',I3,rfl,q3⟩⟩
  |next=>exact Lh hq'
  |brk=>exact Lh hq'
  |cont=>exact Lh hq'
theorem cz (M:Mk X.K C f)(F:aA X.prog X.w X.K X.mg X.base CX k f fd ps sp)(hr:be (k+1) X.A)(hm:X.mg x=some (.ref C))(hb:aF X.K fd ps [])(hx:dH CX X E)(ha:QA X (e::es) t)
  (hg:Gl X x:=by rfl)(hdb:(x==("__debug__":Str))=false:=by decide)(hs:bc (e::es)=true:=by rfl):QE X (.Call (.Name x p) (e::es) [] pos) (bY C sp E t):=⟨fun pins s σ H Q I h=>by
 have h':(bT e&&bc es)=true:=hs
 refine LP (eV I hg hm ?_ hdb)
 refine Nn (h₀:=X.base) I.ok.mod.kin M.kp (thn (ha.out pos pins s σ H _ I h) fun us s1 ⟨vs,H1,I1,r,q⟩=>⟨I1.kIn,?_⟩) (ba (tx.mp h').1 es X.env) (bO (tx.mp h').2)
 exact lc M F hr hb hx I1 r q⟩
theorem nX (M:Mk X.K C f)(F:aA X.prog X.w X.K X.mg X.base CX k f fd ps sp)(hr:be (k+1) X.A)(hm:X.mg x=some (.ref C))(hb:aF X.K fd ps [])(hx:dH CX X E)
  (hg:Gl X x:=by rfl)(hdb:(x==("__debug__":Str))=false:=by decide):QE X (.Call (.Name x p) [] [] pos) (bY C sp E ai):=⟨fun pins s σ H Q I h=>by
 refine LP (eV I hg hm ?_ hdb)
 exact NX I.kIn M.kp (lc (us:=[]) M F hr hb hx I .nil h)⟩
end
mutual
inductive ej (K:cW)(H:Hp):V->Qp->Prop
 |non:ej K H .non .none
 |bl (b):ej K H (.bl b) (.bool b)
 |int (i):ej K H (.int i) (.int i)
 |str (z):ej K H (.str z) (.str z)
 |lst {a xs ds}:SqL K H a xs->DatVs K H xs ds->ej K H (.ref a) (.list ds)
 |tup {a xs ds}:SqT K H a xs->DatVs K H xs ds->ej K H (.ref a) (.tuple ds)
inductive DatVs (K:cW)(H:Hp):List V->List Qp->Prop
 |nil:DatVs K H [] []
 |cons {x xs d ds}:ej K H x d->DatVs K H xs ds->DatVs K H (x::xs) (d::ds)
end
section
variable {X:Cx}
mutual
theorem dg {pins:List (Addr×Obj)}{σ:St}{H:Hp}{s:Dc}(I:Inv X pins σ H s):∀{x:V}{d:Qp},ej X.K H x d->∀{v:pv},aM x v->∃as,Reads s.heap v d as
 |_,_,.non,_,r=>by cases r;exact⟨_,.none⟩
 |_,_,.bl b,_,r=>by cases r;exact⟨_,.bool b⟩
 |_,_,.int i,_,r=>by obtain⟨t,rfl⟩:=r;exact⟨_,.int i t⟩
 |_,_,.str z,_,r=>by obtain⟨t,rfl⟩:=r;exact⟨_,.str z t⟩
 |_,_,.lst h hs,_,r=>by
  cases r
  obtain⟨its,r1,⟨o,n,h1,h2,_,h3⟩,_⟩:=I.list h
  obtain⟨as,ra⟩:=datVs_reads I hs r1
  exact⟨_,.list h1 h2 h3 (by simpa using ra)⟩
 |_,_,.tup h hs,_,r=>by
  cases r
  obtain⟨its,r1,⟨o,h1,h2,n,h3⟩,_⟩:=I.tuple h
  obtain⟨as,ra⟩:=datVs_reads I hs r1
  exact⟨_,.tuple h1 h2 h3 (by simpa using ra)⟩
theorem datVs_reads {pins:List (Addr×Obj)}{σ:St}{H:Hp}{s:Dc}(I:Inv X pins σ H s):∀{xs:List V}{ds:List Qp},DatVs X.K H xs ds->∀{vs:List pv},aU xs vs->∃as,ReadsAll s.heap vs ds as
 |_,_,.nil,_,r=>by cases r;exact⟨_,.nil⟩
 |_,_,.cons h hs,_,r=>by
  cases r with
  |cons r1 r2=>
   obtain⟨as,a⟩:=dg I h r1
   obtain⟨bs,b⟩:=datVs_reads I hs r2
   exact⟨_,.cons a b⟩
end
def qD (K:cW):R2:=fun x y H Q=>∃d e,ej K H x d/\ej K H y e/\d.canLay0=true/\e.canLay0=true/\d.depth<=150/\Q (.bl (d.eqv e)) H
def wI (K:cW):R2:=fun x y H Q=>∃d e,ej K H x d/\ej K H y e/\d.canLay0=true/\e.canLay0=true/\d.depth<=150/\Q (.bl (!d.eqv e)) H
theorem Bl (hu:X.A.units+150<cLine):OpR X (compareOp .Eq) (qD X.K):=by
 intro pins s σ H x y v u Q I rx ry h
 obtain⟨d,e,hd,he,cd,ce,dp,q⟩:=h
 obtain⟨as,ra⟩:=dg I hd rx
 obtain⟨bs,rb⟩:=dg I he ry
 exact PySem.SeqAt.compareEq_reads ra rb cd ce (by have:=Qm d.depth e.depth;omega) ⟨.bl _,H,I,rfl,q⟩
theorem zV (hu:X.A.units+150<cLine):OpR X (compareOp .NotEq) (wI X.K):=by
 intro pins s σ H x y v u Q I rx ry h
 obtain⟨d,e,hd,he,cd,ce,dp,q⟩:=h
 obtain⟨as,ra⟩:=dg I hd rx
 obtain⟨bs,rb⟩:=dg I he ry
 exact PySem.SeqAt.compareNe_reads ra rb cd ce (by have:=Qm d.depth e.depth;omega) ⟨.bl _,H,I,rfl,q⟩
theorem be.units150 {k:Nat}{A:LC}(r:be k A):A.units+150<cLine:=by have:=r.un;omega
def og (K:cW):R2:=fun x y H Q=>match x,y with
 |.ref a,y=>wI K (.ref a) y H Q
 |x,.ref b=>wI K x (.ref b) H Q
 |x,y=>mNe x y H Q
theorem BD (hu:X.A.units+150<cLine):OpR X (compareOp .NotEq) (og X.K):=((zV hu).or oNe).imp fun x y H Q q=>by
 unfold og at q
 split at q
 ·exact .inl q
 ·exact .inl q
 ·exact .inr q
def nh:V->List V->Hp->VK->Prop:=fun x vs H Q=>match x,vs with|.int i,[]=>Q (.int (Lw i)) H|_,_=>False
theorem oX:MtR X "int.bit_length" nh:=by
 intro pins s σ H x xs v us Q I rx rs q
 unfold nh at q
 split at q
 ·obtain⟨t,rfl⟩:=rx
  cases rs
  exact call_int_bit_length ⟨.int _,H,I.tok _,⟨_,rfl⟩,q⟩
 ·exact q.elim
def tM:List V->Hp->VK->Prop:=fun xs H Q=>match xs with|[.int i,.int j]=>Q (.int (if j<i then j else i)) H|_=>False
theorem Im (hc:X.calm=true):bP X (.builtin "min") tM:=fun pins s σ H xs us Q I r q=>by
 unfold tM at q
 split at q
 ·exact rT hc pins s σ H _ us Q I r ⟨_,_,rfl,q⟩
 ·exact q.elim
variable {o:Expr}{to:TE}{name:Str}{apos cpos:Pos}{T id:String}{rm:V->List V->Hp->VK->Prop}
theorem wW (pa:Oy T)(slot:Slot T name id)(hty:typeOf (.builtin id)=pure (.type "method_descriptor"))(hm:MtR X id rm)(ho:QE X o to)
 (hbase:attributeBase o name X.env (eval o X.env)=eval o X.env:=by rfl)(hline:(apos.endLine==cpos.line)=true:=by rfl):QE X (.Call (.Attribute o name apos) [] [] cpos) (qp X.K T rm to):=⟨Ac pa slot hty hm ho.out hbase hline⟩
end
theorem aB {n:Nat}(h:n<=1000000):n<=sizeLine:=by rw[Nl];omega
theorem gi (k:Nat):((2^k:Nat):Int)=(2:Int)^k:=by simp
theorem uf (k:Nat):(0:Int)<2^k:=by have:=MN k;rw[<-gi];omega
theorem AI {α:Type}{xs:List α}{i:Int}(h0:0<=i)(h1:i<xs.length):∃c,atI xs i=some c:=by
 unfold atI ixN
 rw[if_pos h0,if_pos h1]
 have:i.toNat<xs.length:=by omega
 exact⟨xs[i.toNat],by show xs[i.toNat]?=_;rw[KU this]⟩
theorem IW {p:Prop}[Decidable p]{a b:Prop}(h1:p->a)(h2:¬p->b):if decide p=true then a else b:=by
 by_cases h:p
 ·rw[if_pos (decide_eq_true h)];exact h1 h
 ·rw[if_neg (by rw[decide_eq_false h];decide)];exact h2 h
theorem xor_zero {x y:Nat}(h:x^^^y=0):x=y:=by
 have h2:x^^^y^^^y=0^^^y:=by rw[h]
 rwa [Nat.xor_assoc,Nat.xor_self,Nat.xor_zero,Nat.zero_xor]at h2
theorem pX (x y:Nat):x ||| y=(x &&& y)+(x^^^y):=by
 have h:∀n,∀x y:Nat,x<2^n->y<2^n->x ||| y=(x &&& y)+(x^^^y):=by
  intro n
  induction n with
  |zero=>intro x y hx hy;have:x=0:=by simpa using hx
         have:y=0:=by simpa using hy
         subst_vars;rfl
  |succ n ih=>
   intro x y hx hy
   have i:=ih (x/2) (y/2) (by omega) (by omega)
   rw[<-Oz (x ||| y) 2,<-Oz (x &&& y) 2,<-Oz (x^^^y) 2]
   rw[Nat.or_div_two,Nat.and_div_two,Nat.xor_div_two,i]
   have hm:(x ||| y)%2=(x &&& y)%2+(x^^^y)%2:=by
    have a:=@Nat.or_mod_two_pow x y 1
    have b:=@Nat.and_mod_two_pow x y 1
    have c:=@Nat.xor_mod_two_pow x y 1
    rw[Nat.pow_one]at a b c
    rw[a,b,c]
    rcases OG x with h|h<;>rcases OG y with h'|h'<;>rw[h,h']<;>rfl
   omega
 have h2:max x y<2^(max x y):=Nat.lt_two_pow_self
 exact h (max x y) x y (by omega) (by omega)
theorem qx (x y:Nat):Nc x y=((x^^^y:Nat):Int):=by
 unfold Nc Builtin.bitOr
 have e1:Mb x y=((x &&& y:Nat):Int):=by
  unfold Mb
  rw[decide_eq_true (by omega:(0:Int)<=x),decide_eq_true (by omega:(0:Int)<=y)];rfl
 have n (z:Nat):Lr z<0:=by unfold Lr;omega
 have nn (z:Nat):(Lr (Lr z)).toNat=z:=by unfold Lr;omega
 have e2:Mb (Lr x) (Lr y)=Lr ((x ||| y:Nat):Int):=by
  unfold Mb
  rw[decide_eq_false (by have:=n x;omega:¬0<=Lr x),decide_eq_false (by have:=n y;omega:¬0<=Lr y)]
  show Lr (((Lr (Lr x)).toNat ||| (Lr (Lr y)).toNat:Nat):Int)=_
  rw[nn,nn]
 rw[e1,e2,pX]
 unfold Lr
 omega
theorem qm (x:Nat):Mb x 1=((x%2:Nat):Int):=by
 unfold Mb
 rw[decide_eq_true (by omega:(0:Int)<=x),decide_eq_true (by decide:(0:Int)<=1)]
 show(((x:Int).toNat &&& (1:Int).toNat:Nat):Int)=_
 rw[Od,show(1:Int).toNat=1 from rfl,Nat.and_one_is_mod]
section
variable {X:Cx}
theorem be.units1 {k:Nat}{A:LC}(r:be k A):A.units+1<cLine:=by have:=r.un;omega
def zc:R2:=fun x y H Q=>∃a v,x=.ref a/\fG H a y (some v)/\Q v H
theorem yH (hu:X.A.units+1<cLine):IxR X zc:=by
 intro value slice pins s σ H x y v u Q I rx ry h hs
 obtain⟨a,w0,rfl,g,q⟩:=h
 obtain rfl:v=Lo a:=rx
 have hT:=oJ I g
 have h2:wpAny (model X.prog X.w) X.A (getItem (.ref a) u) (EP X pins σ Q) X.xe s:=rl hu I g ry fun w' s3 I3 rw'=>⟨w0,H,I3,rw',q⟩
 unfold subscriptTail
 refine KJ ?_
 rw[getitemInPython_of_ne hT.not_modules]
 refine KJ (wpAny_specialOf hT PySem.F.slot_dict_getitem.lookup ?_)
 have fin:wpAny (model X.prog X.w) X.A (subscripted slice false (.ref a) u) (fun r s₃=>wpAny (model X.prog X.w) X.A (letTemporaryGo value (.ref a) r>>=fun _=>pure r) (EP X pins σ Q) X.xe s₃) X.xe s:=by
  rw[hs]
  exact wpAny_operating (Lk h2 (fun r s₃ h₃=>KJ (wpAny_letTemporaryGo (La h₃))) fun _ _ x=>x)
 first
  |exact La (KJ fin)
  |exact KJ (La (KJ fin))
  |exact KJ fin
def bw (K:cW):R2:=fun x y H Q=>rIx K x y H Q\/zc x y H Q
theorem bf (hu:X.A.units+1<cLine):IxR X (bw X.K):=Ak.or (yH hu)
def xH:V->V->V->Hp->(Hp->Prop)->Prop:=fun o i v H Q=>∃a H',o=.ref a/\nJ H a i v H'/\Q H'
theorem tZ (hu:X.A.units+1<cLine):pJ X xH:=by
 intro pins s σ H o i v ov iv u Q I ro ri rv h
 obtain⟨a,H',rfl,g,q⟩:=h
 obtain rfl:ov=Lo a:=ro
 exact rS hu I g ri rv fun s4 I4=>⟨H',I4,q⟩
def gI:V->V->V->Hp->(Hp->Prop)->Prop:=fun o i v H Q=>wY o i v H Q\/xH o i v H Q
theorem yj (hu:X.A.units+1<cLine):pJ X gI:=by
 intro pins s σ H o i v ov iv u Q I ro ri rv h
 rcases h with h|h
 ·exact ud pins s σ H o i v ov iv u Q I ro ri rv h
 ·exact tZ hu pins s σ H o i v ov iv u Q I ro ri rv h
variable {o e:Expr}{to te:TE}{p pos:Pos}
theorem fK {ti:TE}{i:Expr}(hu:X.A.units+1<cLine)(ho:QE X o to)(hi:QE X i ti)(he:QE X e te)(hs:swapsWithSole [.Subscript o i p] e pos.line X.env=pure false:=by rfl)(hw:swappedStores [.Subscript o i p] e X.env=pure none:=by rfl)(ha:∀v,assign (.Subscript o i p) X.env v=(do let ov<-holding [v] (eval o X.env);let iv<-holding [v,ov] (eval i X.env);standAt p;holding [v,ov,iv] (setItem ov iv v);release [v,ov,iv] []):=by intro _;rfl):QS X (.Assign [.Subscript o i p] e pos) (aS te (jh to ti gI)):=⟨CS he.out (zk ho.out hi.out (yj hu) ha) hs hw⟩
def pE:R2:=fun y x H Q=>∃a o,x=.ref a/\fG H a y o/\Q (.bl (!o.isSome)) H
theorem sO (hu:X.A.units+1<cLine):OpR X (compareOp .NotIn) pE:=by
 intro pins s σ H x y v u Q I rx ry h
 obtain⟨a,ov,rfl,g,q⟩:=h
 obtain rfl:u=Lo a:=ry
 exact yo hu I g rx fun s3 I3=>⟨.bl (!ov.isSome),H,I3,rfl,q⟩
def pG (K:cW):R2:=fun y x H Q=>∃d ds,ej K H y d/\(ej K H x (.list ds)\/ej K H x (.tuple ds))/\NQ ds=true/\d.canLay0=true/\d.depth<=140/\Q (.bl (!ds.any fun e=>e.eqv d)) H
theorem sf (hu:X.A.units+150<cLine):OpR X (compareOp .NotIn) (pG X.K):=by
 intro pins s σ H x y v u Q I rx ry h
 obtain⟨d,ds,hd,hx,c1,c2,dp,q⟩:=h
 obtain⟨as,ra⟩:=dg I hd rx
 have hm:X.A.units+1+min (MY ds) d.depth<cLine:=by have:=Qc (MY ds) d.depth;omega
 rcases hx with hx|hx
 ·obtain⟨bs,rb⟩:=dg I hx ry
  exact PySem.SeqAt.notIn_list_reads rb ra c1 c2 hm ⟨.bl _,H,I,rfl,q⟩
 ·obtain⟨bs,rb⟩:=dg I hx ry
  exact PySem.SeqAt.notIn_tuple_reads rb ra c1 c2 hm ⟨.bl _,H,I,rfl,q⟩
def ka (K:cW):R2:=fun y x H Q=>pE y x H Q\/pG K y x H Q
theorem oY (hu:X.A.units+150<cLine):OpR X (compareOp .NotIn) (ka X.K):=(sO (by omega)).or (sf hu)
def jY:TE:=fun σ H Q=>ss σ H Q\/rW σ H Q
theorem kQ:QE X (.Dict [] [] pos) jY:=⟨fun pins s σ H Q I h=>h.elim (wz pins s σ H Q I) (uy pins s σ H Q I)⟩
theorem sj:bP X (.builtin "len") (fun xs H Q=>∃p kvs,xs=[.ref p]/\H p=some (.dT kvs)/\Q (.int kvs.length) H):=by
 intro pins s σ H xs us Q I r h
 obtain⟨a,kvs,rfl,e,q⟩:=h
 obtain⟨u,rfl,r1⟩:=iG r
 cases r1
 obtain⟨z,hd,ps,rel,dd⟩:=wR I.hok e
 have hl:ps.length=kvs.length:=(Paired.length rel).symm
 have hT:s.TypeIs (.ref a) "dict":=dd.typeIs
 obtain⟨o,es,ep,ho,hc,hdat,he,his,hn⟩:=dd
 have hsz:es.size=kvs.length:=by rw[<-hl];have:=congrArg List.length he;simpa using this
 have M:MeetsIn X.prog X.w (Builtin.«dict.__len__» ⟨[.ref a],[]⟩) (fun _ R s=>s.heap.get? a=some o/\R (.ok (.ret (.int kvs.length s.toks))) {s with toks:=s.toks+1}):=
  .of_wp fun A R s ⟨ho,h⟩=>by
   show wpAny _ _ (dictSize a>>=_) _ _ s
   unfold dictSize
   refine KJ (KJ (wpAny_dictEntries ho hdat (La ?_)))
   show wpAny _ _ (Builtin.Dict.pendingCount a>>=_) _ _ s
   refine KJ (wpAny_pendingCount_other hd ?_)
   refine wpAny_ret_mkInt ?_
   rw[Nat.add_zero,hsz];exact h
 refine Calls.call_function_entry kind_len plain_len entry_len (args_len1 _) ?_
 unfold Builtin.«len»
 refine KJ (m:=oneArg "len" _) (La ?_)
 refine KJ (m:=callSpecial? (.ref a) (Oe "__len__")) (Ny (name:=Oe "__len__") hT QN
  (call_meetsIn QN hT F.entry_dict_len (F.args_dict_len_1 _) M ⟨ho,?_⟩))
 show wpAny _ _ _ _ _ {s with toks:=s.toks+1}
 refine KJ (Ng (La ?_))
 refine KJ (wpAny_letGo ?_)
 have zz:kvs.length<=sizeLine:=z
 rw[Nl]at zz
 show wpAny _ _ (if ((kvs.length:Nat):Int)<0 then _ else _) _ _ _
 rw[if_neg (by omega)]
 show wpAny _ _ (if ((kvs.length:Nat):Int)>=2^63 then _ else _) _ _ _
 rw[if_neg (by omega)]
 exact KJ (wpAny_mkInt (La ⟨_,rfl,⟨.int kvs.length,H,I.tok _,⟨_,rfl⟩,q⟩⟩))
def eW (K:cW):List V->Hp->VK->Prop:=fun xs H Q=>Cm K xs H Q\/∃p kvs,xs=[.ref p]/\H p=some (.dT kvs)/\Q (.int kvs.length) H
theorem fv:bP X (.builtin "len") (eW X.K):=Jx.or sj
end
theorem uz {h:Heap}{a:Addr}{its:Array pv}(p:PlainL h a its):h.IsList a its:=let ⟨o,n,e,c,_,d⟩:=p;⟨o,e,c,n,d⟩
set_option genInjectivity false in
set_option genSizeOf false in
structure cD where
 qual:Str
 body:FuncBody
 scope:Scope
 ps:List Str
 ys:List Str
def lw (t:cD)(cs:List Addr)(c:Addr)(fd:Gt):Prop:=
 fd.qualname=t.qual/\fd.body=t.body/\fd.scope=t.scope/\fd.globals=mainGlobals/\fd.closure=t.ys.zip cs/\fd.code=.ref c/\fd.builtins=builtinsNs/\
  (∀us:List pv,us.length=t.ps.length->bindArgs fd ⟨us,[]⟩=pure (t.ps.zip us))/\cs.Nodup/\cs.length=t.ys.length
def dG (f:Addr)(t:cD)(cs:List Addr)(c:Addr):HO:=.ext fun h=>∃od fd sl,h.get? f=some ⟨.type "function",od,.func fd,sl⟩/\lw t cs c fd
def dm (c:Addr)(qual:Str):HO:=.ext fun h=>∃o vs tk,h.get? c=some o/\o.data=.fields vs/\vs[1]?=some (.str qual tk)
def bH (c:Addr)(v:V):HO:=.ext fun h=>∃u o,aM v u/\h.get? c=some o/\o.data=.cell (some u)
abbrev cf (H:Hp):List Addr->List V->Prop:=Paired fun c v=>H c=some (bH c v)
structure dj (H:Hp)(f:Addr)(t:cD)(cs:List Addr)(cvs:List V):Prop where
 ex:∃c,H f=some (dG f t cs c)/\H c=some (dm c t.qual)
 cells:cf H cs cvs
theorem cf.mem {H:Hp}{cs:List Addr}{cvs:List V}(h:cf H cs cvs):∀c∈cs,∃v,H c=some (bH c v):=by
 induction h with
 |nil=>intro c hc;cases hc
 |cons r t ih=>
  intro c hc
  rcases If.mp hc with rfl|hc
  ·exact⟨_,r⟩
  ·exact ih c hc
theorem cf.get {H:Hp}{cs:List Addr}{cvs:List V}(h:cf H cs cvs):∀{i:Nat}{v:V},cvs[i]? =some v->∃c,cs[i]? =some c/\H c=some (bH c v):=by
 induction h with
 |nil=>intro i v e;cases e
 | @cons c w cs ws r t ih=>
   intro i v e
   cases i with
   |zero=>cases e;exact⟨c,rfl,r⟩
   |succ i=>exact ih e
def bM (cs:List Addr)(H:Hp):Hp:=fun b=>if b∈cs then none else H b
def bG (cs:List Addr)(H H':Hp):Hp:=fun b=>if b∈cs then H b else H' b
theorem eG {cs:List Addr}{H:Hp}{b:Addr}(h:b∈cs):bM cs H b=none:=if_pos h
theorem bS {cs:List Addr}{H:Hp}{b:Addr}(h:b∉cs):bM cs H b=H b:=if_neg h
theorem gX {cs:List Addr}{H H':Hp}{b:Addr}(h:b∈cs):bG cs H H' b=H b:=if_pos h
theorem cb {cs:List Addr}{H H':Hp}{b:Addr}(h:b∉cs):bG cs H H' b=H' b:=if_neg h
theorem rC {cs:List Addr}{H H':Hp}{d:Addr}{o:HO}(h:d∉cs):bG cs H (upd H' d o)=upd (bG cs H H') d o:=by
 funext b
 by_cases hb:b∈cs
 ·have:b≠d:=fun e=>h (e▸hb)
  rw[gX hb,am this,gX hb]
 ·rw[cb hb]
  by_cases e:b=d
  ·subst e;rw[af,af]
  ·rw[am e,am e,cb hb]
theorem cf.notin {H:Hp}{cs:List Addr}{cvs:List V}(h:cf H cs cvs){b:Addr}{o:HO}(e:H b=some o)(hn:∀φ,o≠.ext φ):b∉cs:=fun hb=>by
 obtain⟨v,ev⟩:=h.mem b hb
 rw[e]at ev
 exact hn _ (KN ev)
theorem cf.hide {H:Hp}{cs:List Addr}{cvs:List V}(h:cf H cs cvs){b:Addr}{o:HO}(e:H b=some o)(hn:∀φ,o≠.ext φ):bM cs H b=some o:=by
 rw[bS (h.notin e hn)];exact e
theorem ar.hide {H H':Hp}(cs:List Addr)(s:ar (bM cs H) H'):ar H (bG cs H H'):=fun b o e=>by
 by_cases hb:b∈cs
 ·rw[gX hb];exact e
 ·rw[cb hb];exact s _ _ (by rw[bS hb];exact e)
section
variable {P:Lf}{w:LA}{fs:List Addr}{H H':Hp}{h h':Heap}{cs:List Addr}{cvs:List V}
theorem pj (hc:cf H cs cvs)(ok:HOk P w H h):HOk P w (bM cs H) h:=fun b o e=>by
 by_cases hb:b∈cs
 ·rw[eG hb]at e;cases e
 ·rw[bS hb]at e
  exact(ok b o e).stay (fun c u _ q=>q) (fun c q=>hc.hide q fun φ z=>nomatch z) fun c xs q=>hc.hide q fun φ z=>nomatch z
theorem kH (hc:cf H cs cvs)(hfs:∀b∈fs,H b=none)(ok:HOk P w H h)(u:Un fs [] (bM cs H) H' h h')(ok':HOk P w H' h'):Un fs [] H (bG cs H H') h h'/\HOk P w (bG cs H H') h':=by
 have obj:∀c∈cs,∃v o,H c=some (bH c v)/\h.get? c=some o/\h'.get? c=some o/\H' c=none:=fun c hm=>by
  obtain⟨v,ev⟩:=hc.mem c hm
  obtain⟨_,⟨o,eo⟩,_⟩:=(show bh P w H h c (bH c v)from ok c _ ev)
  refine⟨v,o,ev,eo,u.keep c o eo (eG hm) (fun z=>?_) (by simp),u.free c o eo (eG hm) (by simp)⟩
  rw[hfs c z]at ev;cases ev
 have nin:∀b,H b=none->b∉cs:=fun b e hb=>by
  obtain⟨v,ev⟩:=hc.mem b hb
  rw[e]at ev;cases ev
 have nin':∀b o,H' b=some o->b∉cs:=fun b o e hb=>by
  obtain⟨_,_,_,_,_,z⟩:=obj b hb
  rw[e]at z;cases z
 refine⟨⟨fun b o e n hb hx=>u.keep b o e (by rw[bS (nin b n)];exact n) hb hx,fun b o e n hb hx=>u.slot b o e (by rw[bS (nin b n)];exact n) hb hx,
  fun b o e n hx=>by rw[cb (nin b n)];exact u.free b o e (by rw[bS (nin b n)];exact n) hx,u.there,fun b xs e=>?_,fun b o v e=>?_,fun b ps e=>?_⟩,fun b o e=>?_⟩
 ·have hb:=hc.notin e fun φ z=>nomatch z
  rw[cb hb];exact u.tups b xs (by rw[bS hb];exact e)
 ·have hb:=hc.notin e fun φ z=>nomatch z
  rw[cb hb];exact u.frzs b o v (by rw[bS hb];exact e)
 ·have hb:=hc.notin e fun φ z=>nomatch z
  rw[cb hb];exact u.tbls b ps (by rw[bS hb];exact e)
 ·by_cases hb:b∈cs
  ·rw[gX hb]at e
   obtain⟨v,o',ev,e1,e2,_⟩:=obj b hb
   rw[e]at ev;cases ev
   obtain⟨φ1,_,φ3⟩:=(show bh P w H h b (bH b v)from ok b _ e)
   exact⟨φ3 h h' φ1 fun q hq=>by rw[e1]at hq;cases hq;exact e2,⟨o',e2⟩,φ3⟩
  ·rw[cb hb]at e
   exact(ok' b o e).stay (fun c u _ q=>q) (fun c q=>by rw[cb (nin' c _ q)];exact q) fun c xs q=>by rw[cb (nin' c _ q)];exact q
theorem CR.back {outer:List Env}{s s':Dc}{Q:VK}{E:XK}{r:PN}(hc:cf H cs cvs)(hfs:∀b∈frs outer,H b=none)(ok:HOk P w H s.heap)
  (h:CR (CX1 P w) outer P w (bM cs H) s (fun v H'=>Q v (bG cs H H')) (fun c a H'=>E c a (bG cs H H')) r s'):CR (CX1 P w) outer P w H s Q E r s':=by
 cases r with
 |error e=>
  obtain⟨a,C,d,H',rfl,F,q⟩:=h
  obtain⟨u,k⟩:=kH hc hfs ok F.un F.hok
  have na:a∉cs:=fun hb=>by
   obtain⟨v,ev⟩:=hc.mem a hb
   obtain⟨_,⟨o,eo⟩,_⟩:=(show bh P w H s.heap a (bH a v)from ok a _ ev)
   rw[F.new]at eo;cases eo
  obtain⟨oe,vs,a0,T,oT,ts,t1,t2,td,t3,t4,t5,t6,t7,t8,t9,t10,t11⟩:=F.tr
  have nT:T∉cs:=fun hb=>by
   obtain⟨v,ev⟩:=hc.mem T hb
   obtain⟨_,⟨o,eo⟩,_⟩:=(show bh P w H s.heap T (bH T v)from ok T _ ev)
   rw[t10]at eo;cases eo
  exact⟨a,C,d,_,rfl,⟨F.os,F.bare,u,k,F.new,by rw[cb na];exact F.free,⟨oe,vs,a0,T,oT,ts,t1,t2,td,t3,t4,t5,t6,t7,t8,t9,t10,by rw[cb nT];exact t11⟩⟩,q⟩
 |ok fl=>
  cases fl with
  |ret u=>
   obtain⟨v,H',os,bare,un,hok,rv,q⟩:=h
   obtain⟨u',k⟩:=kH hc hfs ok un hok
   exact⟨v,_,os,bare,u',k,rv,q⟩
  |next=>exact Lh h
  |brk=>exact Lh h
  |cont=>exact Lh h
end
structure iM (P:Lf)(w:LA)(K:cW)(mg:Str->Option pv)(base:Heap)(k:Nat)(t:cD)(sp:Sp):Prop where
 run:∀(A:LC)(outer:List Env)(s:Dc)(H:Hp)(f:Addr)(cs:List Addr)(us:List pv)(vs cvs:List V)(Q:VK)(E:XK),be k A->fU P w K mg base A outer s H->dj H f t cs cvs->aU vs us->vs.length=t.ps.length->
  sp (vs++cvs) (bM cs H) (fun v H'=>Q v (bG cs H H')) (fun c a H'=>E c a (bG cs H H'))->codeAny (model P w) A (.call (.ref f) ⟨us,[]⟩) (CR (CX1 P w) outer P w H s Q E) s
def dO (N:List Str)(vs cvs:List V):St:=vs.map some++(Qn (N.length- vs.length- cvs.length) none++cvs.map some)
def fY (P:Lf)(w:LA)(K:cW)(mg:Str->Option pv)(base:Heap)(N:List Str)(qual:Str)(scope:Scope)(f c:Addr)(cl:List (Str×Addr))(A:LC)(outer:List Env)(s:Dc)(H:Hp)(E:XK):Cx where
 prog:=P
 w:=w
 K:=K
 mg:=mg
 base:=base
 A:=A.deeper (NE qual scope s.heap.objs.size f (.ref c) cl)
 N:=N
 s₀:=s
 H₀:=H
 env:=NE qual scope s.heap.objs.size f (.ref c) cl
 outer:=outer
 stack:=NE qual scope s.heap.objs.size f (.ref c) cl::outer
 ex:=[]
 calm:=true
 fn:=fun _=>false
 pn:=[]
 xe:=fun e s'=>wpAny (model P w) (A.deeper (NE qual scope s.heap.objs.size f (.ref c) cl)) (leaving (NE qual scope s.heap.objs.size f (.ref c) cl) e) (fun _ s''=>CX1 P w outer H s E e s'') (fun e' s''=>CX1 P w outer H s E e' s'') s'
structure eE (N ps ys:List Str)(sc:Scope):Prop where
 kind:sc.kind=.function
 co:sc.isCoroutine=false
 gen:sc.isGenerator=false
 nd:N.Nodup
 pre:N.take ps.length=ps
 suf:N.drop (N.length- ys.length)=ys
 le:ps.length+ys.length<=N.length
 par:∀x∈ps,sc.names.lookup x=some .local
 nocell:∀x∈sc.names,x.2≠.cell
 fr:∀x∈ys,sc.names.lookup x=some .free
 frs:∀y∈sc.names,y.2=.free->y.1∈ys
theorem jR {ys:List Str}{cs:List Addr}(hl:cs.length=ys.length)(nd:ys.Nodup):∀{i:Nat}{y:Str}{c:Addr},ys[i]? =some y->cs[i]? =some c->(ys.zip cs).lookup y=some c:=by
 induction ys generalizing cs with
 |nil=>intro i y c e;cases e
 |cons a r ih=>
  intro i y c e1 e2
  cases cs with
  |nil=>cases e2
  |cons b cs=>
   cases i with
   |zero=>cases e1;cases e2;show(Me _ ((_,_)::_))=_;rw[Mp];simp
   |succ i=>
    have hne:y≠a:=fun e=>(Lv.mp nd).1 (e▸LL (show r[i]? =some y from e1))
    show(Me y ((a,b)::r.zip cs))=_
    rw[Mp,show(y==a)=false from by simpa using hne]
    exact ih (by simpa using hl) (Lv.mp nd).2 (show r[i]? =some y from e1) (show cs[i]? =some c from e2)
theorem fg {ys:List Str}{cs:List Addr}:∀{y:Str}{c:Addr},(ys.zip cs).lookup y=some c->∃i:Nat,ys[i]? =some y/\cs[i]? =some c:=by
 induction ys generalizing cs with
 |nil=>intro y c e;cases e
 |cons a r ih=>
  intro y c e
  cases cs with
  |nil=>cases e
  |cons b cs=>
   have e:(Me y ((a,b)::r.zip cs))=some c:=e
   rw[Mp]at e
   by_cases hy:(y==a)=true
   ·rw[hy]at e;cases e;exact⟨0,by simpa using(eq_of_beq hy).symm,rfl⟩
   ·rw[show(y==a)=false from by simpa using hy]at e
    obtain⟨i,h1,h2⟩:=ih e
    exact⟨i+1,h1,h2⟩
theorem kM {ps:List Str}{us:List pv}(nd:ps.Nodup):∀{i:Nat}{x:Str}{u:pv},ps[i]? =some x->us[i]? =some u->(ps.zip us).reverse.lookup x=some u:=by
 induction ps generalizing us with
 |nil=>intro i x u e;cases e
 |cons a r ih=>
  intro i x u e1 e2
  cases us with
  |nil=>cases e2
  |cons b us=>
   show(Me x ((a,b)::r.zip us).reverse)=_
   rw[List.reverse_cons,List.lookup_append]
   cases i with
   |zero=>
    cases e1;cases e2
    have:(r.zip us).reverse.lookup a=none:=by
     rw[List.lookup_eq_none_iff]
     intro p hp
     have:=(Mx (List.mem_reverse.mp hp)).1
     simp only[beq_eq_false_iff_ne,ne_eq,bne_iff_ne]
     intro e
     exact(Lv.mp nd).1 (by rw[<-e]at this;exact this)
    rw[this];simp
   |succ i=>
    rw[ih (Lv.mp nd).2 (show r[i]? =some x from e1) (show us[i]? =some u from e2)];rfl
section
variable {P:Lf}{w:LA}{K:cW}{mg:Str->Option pv}{base:Heap}{N ps ys:List Str}{qual:Str}{scope:Scope}{f c:Addr}{A:LC}{outer:List Env}{s:Dc}{H:Hp}{E:XK}{us:List pv}{vs cvs:List V}{cs:List Addr}{h1:Heap}{tk:Nat}
theorem pe (S:eE N ps ys scope)(hd:A.handled=none)(e0:fU P w K mg base A outer s H)(ca:cf H cs cvs)(hcs:cs.Nodup)(hcl:cs.length=ys.length)(hl:vs.length=ps.length)(r:aU vs us)
  (hns:h1.Ns s.heap.objs.size (fun x=>(ps.zip us).reverse.lookup x))(hk:∀b o,s.heap.get? b=some o->h1.get? b=some o):
  Inv (fY P w K mg base N qual scope f c (ys.zip cs) A outer s (bM cs H) E) [] (dO N vs cvs) (bM cs H) {s with heap:=h1,toks:=tk}:=by
 have ndY:ys.Nodup:=by rw[<-S.suf];exact S.nd.sublist (List.drop_sublist _ _)
 have ndP:ps.Nodup:=by rw[<-S.pre];exact S.nd.sublist (PC _ _)
 have lcv:cvs.length=ys.length:=by rw[<-hcl];exact(Paired.length ca).symm
 have cellOf:∀c∈cs,∃v,h1.IsCell c v:=fun c hm=>by
  obtain⟨v,ev⟩:=ca.mem c hm
  obtain⟨⟨u,o,_,eo,hd⟩,_,_⟩:=(show bh P w H s.heap c (bH c v)from e0.hok c _ ev)
  exact⟨_,o,hk _ _ eo,hd⟩
 have memC:∀x c,(ys.zip cs).lookup x=some c->c∈cs:=fun x c e=>by
  obtain⟨i,_,e2⟩:=fg e
  exact LL e2
 have noA:∀b:Addr,b∉(fY P w K mg base N qual scope f c (ys.zip cs) A outer s (bM cs H) E).ex:=fun b z=>absurd (show b∈([]:List Addr)from z) (by simp)
 have hid:∀b,H b=none->bM cs H b=none:=fun b e=>by
  by_cases hb:b∈cs
  ·exact eG hb
  ·rw[bS hb];exact e
 refine⟨⟨e0.mod,S.kind,rfl,rfl,gV _,fun y z c h1 h2=>?_,fun y hy=>?_,fun y c hf _=>?_,fun _=>hd,OU e0.frames,.inr ⟨rfl,rfl⟩,fun b z=>absurd z (noA b),fun b o e=>⟨(e0.bs b o e).1,hid b (e0.bs b o e).2⟩,e0.bsz,fun b _ _=>noA b,fun b z=>absurd z (noA b),e0.funs,fun b hb=>hid b (e0.frf b hb)⟩,
  rfl,e0.bare,Un.kept hk,⟨_,hns,fun i y v q1 q2 q3=>?_⟩,fun y c h=>cellOf c (memC y c h),hid _ (e0.hok.fresh (gV _)),fun y c h=>eG (memC y c h),fun p hp=>absurd (show p∈([]:List (Addr×Obj))from hp) (by simp),(pj ca e0.hok).kept hk,?_⟩
 ·obtain⟨i,e1,e2⟩:=fg (show(ys.zip cs).lookup y=some c from h1)
  obtain⟨j,e3,e4⟩:=fg (show(ys.zip cs).lookup z=some c from h2)
  have:i=j:=by
   obtain⟨a1,b1⟩:=KY.mp e2
   obtain⟨a2,b2⟩:=KY.mp e4
   exact(PX hcs).mp (b1.trans b2.symm)
  subst this
  rw[e1]at e3;exact KN e3
 ·have hy:scope.names.lookup y=some .cell\/scope.names.lookup y=some .free:=hy
  rcases hy with hy|hy
  ·exact absurd rfl (S.nocell _ (LQ hy))
  ·obtain⟨i,hi,e⟩:=Pj.mp (S.frs _ (LQ hy) rfl)
   have hi2:i<cs.length:=by omega
   exact⟨cs[i],jR hcl ndY (KY.mpr ⟨hi,e⟩) (KU hi2)⟩
 ·exact absurd (show false=true from hf) Lc
 ·unfold dO at q2
  by_cases hi:i<vs.length
  ·rw[Nk (by simpa using hi),LF]at q2
   have ha:vs[i]?=some v:=by
    cases e:vs[i]? with
    |none=>rw[e]at q2;cases q2
    |some a=>rw[e]at q2;cases q2;rfl
   obtain⟨u,hu,rv⟩:=r.get ha
   have hp:ps[i]?=some y:=by
    rw[<-S.pre,OM (by omega)];exact q1
   exact⟨u,rv,.inl ⟨S.par y (LL hp),kM ndP hp hu⟩⟩
  ·rw[Nf (by simpa using hi),Lq]at q2
   by_cases hj:i- vs.length<N.length- vs.length- cvs.length
   ·rw[Nk (by simpa using hj),OQ]at q2
    split at q2<;>cases q2
   ·rw[Nf (by simpa using hj),Nx,LF]at q2
    have ha:cvs[i- vs.length- (N.length- vs.length- cvs.length)]?=some v:=by
     cases e:cvs[i- vs.length- (N.length- vs.length- cvs.length)]? with
     |none=>rw[e]at q2;cases q2
     |some a=>rw[e]at q2;cases q2;rfl
    have hle:=S.le
    have hiN:i<N.length:=(KY.mp q1).1
    have hx:i- vs.length- (N.length- vs.length- cvs.length)=i- (N.length- ys.length):=by omega
    rw[hx]at ha
    have hy:ys[i- (N.length- ys.length)]?=some y:=by
     have e1:N.drop (N.length- ys.length)=ys:=S.suf
     have e2:(N.drop (N.length- ys.length))[i- (N.length- ys.length)]?=some y:=by
      rw[List.getElem?_drop]
      rw[show N.length- ys.length+(i- (N.length- ys.length))=i by omega];exact q1
     rw[e1]at e2;exact e2
    obtain⟨c,ec,hc⟩:=ca.get ha
    obtain⟨⟨u,o,ru,eo,hdo⟩,_,_⟩:=(show bh P w H s.heap c (bH c v)from e0.hok c _ hc)
    exact⟨u,ru,.inr ⟨.inr (S.fr y (LL hy)),c,jR hcl ndY hy ec,o,hk _ _ eo,hdo⟩⟩
 ·unfold dO
  show _=N.length
  have:=S.le
  rw[KW,KW,Lq,Lq,Nx]
  omega
end
section
variable {P:Lf}{w:LA}{K:cW}{mg:Str->Option pv}{base:Heap}{k:Nat}{t:cD}{N:List Str}{sp:Sp}
theorem xU {body:Expr}(hb:t.body=.expr body)(S:eE N t.ps t.ys t.scope)
  (hbody:∀(f c:Addr)(cl:List (Str×Addr))(A:LC)(outer:List Env)(s:Dc)(H:Hp)(vs cvs:List V)(Q:VK)(E:XK),be k (A.deeper (NE t.qual t.scope s.heap.objs.size f (.ref c) cl))->vs.length=t.ps.length->cvs.length=t.ys.length->sp (vs++cvs) H Q E->
   ∃te,PE (fY P w K mg base N t.qual t.scope f c cl A outer s H E) body te/\te (dO N vs cvs) H Q):iM P w K mg base (k+1) t sp:=by
 refine⟨fun A outer s H f cs us vs cvs Q E hr e0 ca r hl hsp=>?_⟩
 obtain⟨c,hf,hcc⟩:=ca.ex
 have KX:K.In s.heap:=e0.mod.kin.keeps fun b o e=>(e0.bs b o e).1
 have lim:s.heap.NoLimit:=e0.mod.nolimit.keeps fun b o e=>(e0.bs b o e).1
 obtain⟨⟨od,fd,sl,ho,h1,h2,h3,h4,h5,h6,h7,h8,h9,h10⟩,_,_⟩:=(show bh P w H s.heap f (dG f t cs c)from e0.hok f _ hf)
 obtain⟨⟨o,vs',tk,hco,hdo,hv⟩,_,_⟩:=(show bh P w H s.heap c (dm c t.qual)from e0.hok c _ hcc)
 have hcd:s.heap.CodeRec fd.code fd.qualname:=⟨c,o,vs',tk,h6,hco,hdo,by rw[h1];exact hv⟩
 refine Mr (W.kla_callFunE (R:=CR (CX1 P w) outer P w (bM cs H) s (fun v H'=>Q v (bG cs H H')) (fun c a H'=>E c a (bG cs H H'))) hr.depth ho rfl (by rw[h3];exact S.co) (by rw[h3];exact S.gen) (h2.trans hb) hcd ?_) fun r s' h=>CR.back ca.cells e0.frf e0.hok h
 rw[h8 us (by rw[<-r.length];exact hl),h3,h4,h5,h1,h6,h7]
 refine La (NT S.nocell (fun y hy=>S.par y.1 (Mx hy).1) (fun h' hns hsb=>⟨lim.fresh _ hsb,?_⟩) S.kind)
 have hk:∀b o,s.heap.get? b=some o->h'.get? b=some o:=fun b o e=>hsb.extBut b o (Ld (KQ e)) (wr _ e)
 have lcv:cvs.length=t.ys.length:=by rw[<-h10];exact(Paired.length ca.cells).symm
 obtain⟨te,ht,hq⟩:=hbody f c (t.ys.zip cs) A outer s (bM cs H) vs cvs _ _ (hr.deeper _) hl lcv hsp
 have I:=pe (tk:=s.toks+(t.ps.zip us).length) (qual:=t.qual) (f:=f) (c:=c) (E:=fun c a H'=>E c a (bG cs H H')) S hr.hd e0 ca.cells h9 h10 hl r hns hk
 show codeAny _ _ (.expr body (NE t.qual t.scope s.heap.objs.size f (.ref c) (t.ys.zip cs))) _ _
 refine W.kla_codeExpr ?_
 refine Lk (ht [] _ (dO N vs cvs) _ _ I hq) (fun v s' hs=>?_) fun e s' hs=>hs
 obtain⟨x,H',J,rv,q⟩:=hs
 exact⟨x,H',J.os,J.bare,J.base,J.hok,rv,q⟩
end
def BM (mg:Str->Option pv)(h:Heap):Prop:=∃bm ob,mg "__builtins__"=some (.ref bm)/\bm≠builtinsNs/\h.get? bm=some ob/\ob.cls=.type "module"/\ob.dict=some builtinsNs/\ob.data=.plain
section
variable {X:Cx}{pins:List (Addr×Obj)}{σ:St}{H:Hp}{s:Dc}{P c:Addr}{ps:Array pv}{t:cD}{cs:List Addr}{h':Heap}{tk:Nat}{fd:Gt}
theorem wc {more:Array pv}(I:Inv X pins σ H s)(hP:H P=some (.tbl ps))(hx:Heap.ExtBut P s.heap h')(hge:s.heap.objs.size<=c)(hlt:c<h'.objs.size)(hrec:h'.CodeRec (.ref c) t.qual)
  (htb:h'.get? P=some (Pd (ps++more)))(hfd:lw t cs c fd):
  Inv X pins σ (upd (upd (upd H P (.tbl (ps++more))) c (dm c t.qual)) h'.objs.size (dG h'.objs.size t cs c)) {s with heap:=h'.push {cls:=.type "function",data:=.func fd},toks:=tk}:=by
 have hcn:H c=none:=I.hok.fresh hge
 have hfn:H h'.objs.size=none:=I.hok.fresh (MT (LK hge hlt))
 have ncP:c≠P:=(ap hP hcn).symm
 have nfP:h'.objs.size≠P:=(ap hP hfn).symm
 have ncf:c≠h'.objs.size:=Ld hlt
 have old:∀b o,s.heap.get? b=some o->b≠c/\b≠h'.objs.size:=fun b o e=>⟨Ld (KS (KQ e) hge),Ld (KS (KQ e) (MT (LK hge hlt)))⟩
 have keepP:∀b o,b≠P->s.heap.get? b=some o->(h'.push {cls:=.type "function",data:=.func fd}).get? b=some o:=fun b o hb e=>wr _ (hx b o hb e)
 have neP:∀b,H b=none->b≠P:=fun b e z=>by rw[z,hP]at e;cases e
 have obj:∀b o,H b=some o->∃u,s.heap.get? b=some u:=fun b o e=>vc (I.hok b o e)
 have same:∀b o,H b=some o->b≠P->(upd (upd (upd H P (.tbl (ps++more))) c (dm c t.qual)) h'.objs.size (dG h'.objs.size t cs c)) b=some o:=fun b o e hb=>by
  rw[am (ap e hfn),am (ap e hcn),am hb];exact e
 refine I.un ⟨fun b o e n hb hx'=>keepP b o (neP b n) e,fun b o e n hb hx'=>⟨o.slots,keepP b o (neP b n) e⟩,fun b o e n hx'=>?_,fun b o e hx'=>?_,fun b xs e=>same b _ e (bu e hP (fun z=>nomatch z)),fun b o u e=>same b _ e (bu e hP (fun z=>nomatch z)),fun b qs e=>?_⟩ fun b o e=>?_
 ·rw[am (old b o e).2,am (old b o e).1,am (neP b n)];exact n
 ·by_cases hb:b=P
  ·subst hb;exact⟨_,wr _ htb⟩
  ·exact⟨o,keepP b o hb e⟩
 ·by_cases hb:b=P
  ·subst hb
   rw[hP]at e;cases e
   exact⟨more,by rw[am nfP.symm,am ncP.symm,af]⟩
  ·exact⟨#[],by rw[same b _ e hb];simp⟩
 ·by_cases hf:b=h'.objs.size
  ·subst hf
   rw[af]at e;cases e
   refine⟨⟨_,fd,_,Lg _ rfl,hfd⟩,⟨_,Lg _ rfl⟩,?_⟩
   rintro h1 h2 ⟨od,fd',sl,e1,e2⟩ k
   exact⟨od,fd',sl,k _ e1,e2⟩
  ·rw[am hf]at e
   by_cases hc:b=c
   ·subst hc
    rw[af]at e;cases e
    obtain⟨c2,oc,vs,tq,e0,e1,e2,e3⟩:=hrec
    cases e0
    refine⟨⟨oc,vs,tq,wr _ e1,e2,e3⟩,⟨_,wr _ e1⟩,?_⟩
    rintro h1 h2 ⟨o,vs,tk,a1,a2,a3⟩ k
    exact⟨o,vs,tk,k _ a1,a2,a3⟩
   ·rw[am hc]at e
    by_cases hp:b=P
    ·subst hp
     rw[af]at e;cases e
     exact wr _ htb
    ·rw[am hp]at e
     refine(I.hok b o e).stay (fun a u ha q=>keepP a u ?_ q) (fun a q=>same a _ q (bu q hP (fun z=>nomatch z))) fun a xs q=>same a _ q (bu q hP (fun z=>nomatch z))
     rcases ha with rfl|ha
     ·exact hp
     ·exact bu ha hP (fun z=>nomatch z)
theorem vo (I:Inv X pins σ H s)(hk:∀b o,s.heap.get? b=some o->h'.get? b=some o)(hsz:s.heap.objs.size<=h'.objs.size)(hfd:lw t cs c fd):
  Inv X pins σ (upd H h'.objs.size (dG h'.objs.size t cs c)) {s with heap:=h'.push {cls:=.type "function",data:=.func fd},toks:=tk}:=by
 refine I.laid (a:=h'.objs.size) (o:=dG h'.objs.size t cs c) (fun b u e=>wr _ (hk b u e)) hsz ⟨⟨_,fd,_,Lg _ rfl,hfd⟩,⟨_,Lg _ rfl⟩,?_⟩
 rintro h1 h2 ⟨od,fd',sl,e1,e2⟩ k
 exact⟨od,fd',sl,k _ e1,e2⟩
end
def nQ (P:Addr)(pos:Pos)(t:cD)(cs:List Addr):TE:=fun _ H Q=>∃ps,H P=some (.tbl ps)/\TriplesOk ps.toList/\
 ((codeAmong pos ps.toList=none/\∀c f,H c=none->H f=none->c≠f->Q (.ref f) (upd (upd (upd H P (.tbl (ps++#[rawInt pos.line,rawInt pos.col,.ref c]))) c (dm c t.qual)) f (dG f t cs c)))\/
  ∃c,codeAmong pos ps.toList=some (.ref c)/\∀f,H f=none->Q (.ref f) (upd H f (dG f t cs c)))
section
variable {X:Cx}{c0 P:Addr}{params:Arguments}{scope:Scope}{pos:Pos}{t:cD}{cs:List Addr}
theorem yu {pins:List (Addr×Obj)}{σ:St}{H:Hp}{s:Dc}{ps:Array pv}(I:Inv X pins σ H s)(hP:H P=some (.tbl ps))(B:BM X.mg X.base):
  s.heap.get? P=some (Pd ps)/\s.heap.Ns mainGlobals X.mg/\mainGlobals≠P/\s.heap.BuiltinsAt X.mg P:=by
 have hPo:s.heap.get? P=some (Pd ps):=I.hok P _ hP
 have hg:s.heap.Ns mainGlobals X.mg:=I.mod.glob.keeps I.bk
 have hgP:mainGlobals≠P:=fun q=>by
  obtain⟨o,es,ep,e,hd,_⟩:=hg
  rw[q,hPo]at e;cases e;cases hd
 obtain⟨bm,ob,b1,b2,b3,b4,b5,b6⟩:=B
 have b3':=I.bk _ _ b3
 refine⟨hPo,hg,hgP,bm,ob,b1,b2,fun q=>?_,fun q=>?_,b3',b4,b5,b6⟩
 ·obtain⟨o,es,ep,e,hd,_⟩:=hg
  rw[q,e]at b3';cases b3';rw[hd]at b6;cases b6
 ·rw[q,hPo]at b3';cases b3';cases b4
theorem mw {body:Expr}(B:BM X.mg X.base)(C:Np X.base c0 P)(hcode:X.env.code=.ref c0)(hcl:closureFor scope X.env=pure (t.ys.zip cs))(nd:cs.Nodup)(hl:cs.length=t.ys.length)
  (hq:X.env.qual++"<lambda>"=t.qual)(hb:t.body=.expr body)(hs:t.scope=scope)
  (hbind:∀(cl:List (Str×Addr))(pm cdv ct:pv)(us:List pv),us.length=t.ps.length->bindArgs (W.kla_fn "<lambda>" t.qual params body scope cl pm cdv ct) ⟨us,[]⟩=pure (t.ps.zip us))
  (hdef:defaultsOf params X.env=([],[]):=by rfl):QE X (.Lambda params body scope pos) (nQ P pos t cs):=⟨fun pins s σ H Q I h=>by
 obtain⟨ps,hP,ht,h⟩:=h
 obtain⟨hPo,hg,hgP,hB⟩:=yu I hP B
 have hfd:∀(pm ct:pv)(c:Addr),lw t cs c (W.kla_fn "<lambda>" t.qual params body scope (t.ys.zip cs) pm (.ref c) ct):=fun pm ct c=>⟨rfl,hb.symm,hs.symm,rfl,rfl,rfl,rfl,hbind _ _ _ _,nd,hl⟩
 refine W.kla_eval hdef ?_
 rw[hq]
 rcases h with⟨hn,q⟩|⟨c,hf,q⟩
 ·refine W.kla_makeFunction hcl I.ok.glob hg hcode (C.keeps I.bk) hPo ht hn hgP hB fun c ctv h' tk hx hge hlt hrec htb=>?_
  exact⟨.ref h'.objs.size,_,wc I hP hx hge hlt hrec htb (hfd _ _ _),rfl,q c h'.objs.size (I.hok.fresh hge) (I.hok.fresh (MT (LK hge hlt))) (Ld hlt)⟩
 ·refine W.kla_makeFunctionHit hcl I.ok.glob hg hcode (C.keeps I.bk) hPo ht hf hB fun ctv h' tk hk hsz=>?_
  exact⟨.ref h'.objs.size,_,vo I hk hsz (hfd _ _ _),rfl,q h'.objs.size (I.hok.fresh hsz)⟩⟩
end
section
variable {X:Cx}{k:Nat}{E:St->XK}{x:Str}{p pos:Pos}{e:Expr}{es:List Expr}{ta:TE}
abbrev et:=List (cD×Sp)
def qy (ks:et)(f:Addr)(vs:List V)(H:Hp)(Q:VK)(E:XK):Prop:=∃ts∈ks,∃cs cvs,dj H f ts.1 cs cvs/\vs.length=ts.1.ps.length/\ts.2 (vs++cvs) (bM cs H) (fun v H'=>Q v (bG cs H H')) (fun c a H'=>E c a (bG cs H H'))
def ng (ks:et)(E:St->XK)(ta:TE)(t:TA):TE:=fun σ H Q=>ta σ H fun x H1=>∃f,x=.ref f/\(∃ts∈ks,∃cs cvs,dj H1 f ts.1 cs cvs)/\t σ H1 fun vs H2=>qy ks f vs H2 Q (E σ)
theorem gx {P:Lf}{w:LA}{H:Hp}{h:Heap}{f:Addr}{t:cD}{cs:List Addr}{cvs:List V}(ok:HOk P w H h)(c:dj H f t cs cvs):W.FnAt f h:=by
 obtain⟨c',hf,_⟩:=c.ex
 obtain⟨⟨od,fd,sl,ho,_⟩,_,_⟩:=(show bh P w H h f (dG f t cs c')from ok f _ hf)
 exact⟨_,_,_,_,ho⟩
def kA (P:Lf)(w:LA)(K:cW)(mg:Str->Option pv)(base:Heap)(k:Nat)(ks:et):Prop:=∀ts∈ks,iM P w K mg base k ts.1 ts.2
theorem nz {ks:et}{t:TA}(hk:kA X.prog X.w X.K X.mg X.base k ks)(hr:be k X.A)(hx:dH (CX1 X.prog X.w) X E)(hg:QE X (.Name x p) ta)(ha:QA X (e::es) t)(hs:bc (e::es)=true:=by rfl):
  QE X (.Call (.Name x p) (e::es) [] pos) (ng ks E ta t):=⟨fun pins s σ H Q I h=>by
 have h':(bT e&&bc es)=true:=hs
 refine LP (thn (hg.out pins s σ H _ I h) fun u s1 ⟨y,H1,I1,ry,f,ey,⟨ts,hts,cs,cvs,ca⟩,q⟩=>?_)
 subst ey
 obtain rfl:u=Lo f:=ry
 refine Pt (gx I1.hok ca) (thn (ha.out pos pins s1 σ H1 _ I1 q) fun us s2 ⟨vs,H2,I2,rv,ts2,hm2,cs2,cvs2,ca2,hl,hsp⟩=>⟨gx I2.hok ca2,?_⟩)
  (ba (tx.mp h').1 es X.env) (bO (tx.mp h').2)
 refine Nu (Mr ((hk ts2 hm2).run X.A X.stack s2 H2 f cs2 us vs cvs2 Q (E σ) hr I2.env0 ca2 rv hl hsp) fun r s' hq=>?_)
 cases r with
 |error e=>exact hx pins σ H2 s2 e s' I2 hq
 |ok fl=>
  cases fl with
  |ret u=>exact I2.after hq
  |next=>exact Lh hq
  |brk=>exact Lh hq
  |cont=>exact Lh hq⟩
end
structure eS where
 nx:St->Hp->Prop
 rt:St->VK
abbrev TSM:=eS->St->Hp->Prop
def SPM (X:Cx)(pins:List (Addr×Obj))(D:eS)(f:Flow)(s':Dc):Prop:=
 match f with
 |.next=>∃σ' H',Inv X pins σ' H' s'/\D.nx σ' H'
 |.ret u=>∃v σ' H',Inv X pins σ' H' s'/\aM v u/\D.rt σ' v H'
 |_=>False
structure QM (X:Cx)(st:Stmt)(t:TSM):Prop where
 out:∀(pins:List (Addr×Obj))(s:Dc)(σ:St)(H:Hp)(D:eS),Inv X pins σ H s->t D σ H->wpAny (model X.prog X.w) X.A (exec st X.env) (SPM X pins D) X.xe s
structure QMs (X:Cx)(st:List Stmt)(t:TSM):Prop where
 out:∀(pins:List (Addr×Obj))(s:Dc)(σ:St)(H:Hp)(D:eS),Inv X pins σ H s->t D σ H->wpAny (model X.prog X.w) X.A (execs st X.env) (SPM X pins D) X.xe s
def qH:TSM:=fun D σ H=>D.nx σ H
def eR (t u:TSM):TSM:=fun D σ H=>t {D with nx:=fun σ' H'=>u D σ' H'} σ H
def eA (t:TS):TSM:=fun D σ H=>t {nx:=D.nx,rt:=fun _ _=>False} σ H
def nK (te:TE):TSM:=fun D σ H=>te σ H (D.rt σ)
def wG (c:TT)(t u:TSM):TSM:=fun D σ H=>c σ H fun b H1=>Sel b (t D σ H1) (u D σ H1)
section
variable {X:Cx}{st:Stmt}{sts l m:List Stmt}{t u:TSM}{tS:TS}{e c:Expr}{te:TE}{tc:TT}{pos:Pos}
theorem dX (h:QS X st tS):QM X st (eA tS):=⟨fun pins s σ H D I hq=>thn (h.out pins s σ H _ I hq) fun f s1 q=>by
 cases f with
 |next=>exact q
 |ret v=>obtain⟨_,_,_,_,_,z⟩:=q;exact z.elim
 |brk=>obtain⟨_,_,_,z⟩:=q;exact z.elim
 |cont=>obtain⟨_,_,_,z⟩:=q;exact z.elim⟩
theorem lR (h:QE X e te):QM X (.Return (some e) pos) (nK te):=⟨fun pins s σ H D I hq=>
 QC (thn (h.out pins s σ H _ I hq) fun v s1 ⟨x,H1,I1,r1,q1⟩=>⟨x,σ,H1,I1,r1,q1⟩)⟩
theorem Bf (hc:QT X c tc)(ha:QMs X l t)(hb:QMs X m u):QM X (.If c l m pos) (wG tc t u):=⟨fun pins s σ H D I h=>by
 refine wpAny_If (thn (hc.out pins s σ H _ I h) fun d s1 ⟨H1,I1,q1⟩=>?_)
 have q1:=eJ q1
 cases d with
 |true=>exact ha.out pins s1 σ H1 D I1 q1
 |false=>exact hb.out pins s1 σ H1 D I1 q1⟩
theorem xO:QMs X [] qH:=⟨fun _ _ σ H _ I h=>MR ⟨σ,H,I,h⟩⟩
theorem du (h1:QM X st t)(h2:QMs X sts u):QMs X (st::sts) (eR t u):=⟨fun pins s σ H D I h=>by
 refine ND (thn (h1.out pins s σ H _ I h) fun f s1 q=>?_)
 cases f with
 |next=>
  obtain⟨σ',H',I',q⟩:=q
  exact h2.out pins s1 σ' H' D I' q
 |ret v=>exact q
 |brk=>exact q
 |cont=>exact q⟩
theorem mq (h1:QM X st t):QMs X [st] t:=⟨fun pins s σ H D I h=>by
 refine ND (thn (h1.out pins s σ H D I h) fun f s1 q=>?_)
 cases f with
 |next=>exact MR q
 |ret v=>exact q
 |brk=>exact q
 |cont=>exact q⟩
end
def bW:List (Nat×Addr)->St->Hp->Hp
 |[],_,H=>H
 |(i,c)::r,σ,H=>match σ[i]? with
  |some (some v)=>bW r σ (upd H c (bH c v))
  |_=>bW r σ H
theorem gH {P:Lf}{w:LA}{fs:List Addr}{H:Hp}{h h':Heap}{σ:St}:∀(cs:List (Nat×Addr))(H':Hp),(cs.map (·.2)).Nodup->(∀p∈cs,H' p.2=none/\h.objs.size<=p.2/\∀v,σ[p.1]? =some (some v)->∃u o,aM v u/\h'.get? p.2=some o/\o.data=.cell (some u))->
  Un fs [] H H' h h'->HOk P w H' h'->Un fs [] H (bW cs σ H') h h'/\HOk P w (bW cs σ H') h'
 |[],H',_,_,u,ok=>⟨u,ok⟩
 |(i,c)::r,H',nd,hc,u,ok=>by
  unfold bW
  have ndr:=(Lv.mp nd).2
  have hcr:∀p∈r,H' p.2=none/\h.objs.size<=p.2/\∀v,σ[p.1]? =some (some v)->∃u o,aM v u/\h'.get? p.2=some o/\o.data=.cell (some u):=fun p hp=>hc p (Lb _ hp)
  split
  ·rename_i v hv
   obtain⟨hn,hge,hcell⟩:=hc (i,c) Lj
   have hn:H' c=none:=hn
   have hge:h.objs.size<=c:=hge
   obtain⟨uv,o,ru,eo,hd⟩:=hcell v hv
   have eo:h'.get? c=some o:=eo
   refine gH r (upd H' c (bH c v)) ndr (fun p hp=>⟨?_,(hcr p hp).2⟩) ⟨u.keep,u.slot,fun b ob e n hx=>?_,u.there,fun b xs e=>?_,fun b ob z e=>?_,fun b ps e=>?_⟩ fun b ob e=>?_
   ·have:p.2≠c:=fun z=>(Lv.mp nd).1 (by rw[<-z];exact Mc.mpr ⟨p,hp,rfl⟩)
    rw[am this];exact(hcr p hp).1
   ·rw[am (Ld (KS (KQ e) hge))];exact u.free b ob e n hx
   ·have z:=u.tups b xs e;rw[am (ap z hn)];exact z
   ·have z:=u.frzs b ob _ e;rw[am (ap z hn)];exact z
   ·obtain⟨more,z⟩:=u.tbls b ps e;exact⟨more,by rw[am (ap z hn)];exact z⟩
   ·by_cases hb:b=c
    ·subst hb
     rw[af]at e;cases e
     refine⟨⟨uv,o,ru,eo,hd⟩,⟨o,eo⟩,?_⟩
     rintro h1 h2 ⟨u',o',r',e',d'⟩ k
     exact⟨u',o',r',k _ e',d'⟩
    ·rw[am hb]at e
     exact(ok b ob e).stay (fun a q _ z=>z) (fun a q=>by rw[am (ap q hn)];exact q) fun a xs q=>by rw[am (ap q hn)];exact q
  ·exact gH r H' ndr hcr u ok
theorem Fun.okM {P:Lf}{w:LA}{K:cW}{mg:Str->Option pv}{base:Heap}{x qual:Str}{st:Stmt}{f c0:Addr}{fd:Gt}{N ps:List Str}{k:Nat}{sp:Sp}{caps:Nat->List (Nat×Addr)}(F:Fun K x qual st f fd)(hcd:fd.code=.ref c0)(S:au N ps (aj st))(len:∀vs H Q E,sp vs H Q E->vs.length=ps.length)
  (hcaps:∀(L:Nat)(p:Nat×Addr),p∈caps L->∃y,N[p.1]? =some y/\(aj st).names.lookup y=some .cell/\(cellsFrom (L+1) (aj st).names []).lookup y=some p.2)(hnd:∀L,((caps L).map (·.2)).Nodup)
  (hbody:∀(A:LC)(outer:List Env)(s:Dc)(H:Hp)(vs:List V)(Q:VK)(E:XK),be k (A.deeper (envOfC qual (aj st) s.heap.objs.size f (.ref c0)))->sp vs H Q E->
   ∃t,QMs (fh (CX1 P w) P w K mg base N qual (aj st) f (.ref c0) A outer s H E) (bi st) t/\t {nx:=fun σ H'=>(∀p∈caps s.heap.objs.size,H' p.2=none)->Q .non (bW (caps s.heap.objs.size) σ H'),rt:=fun σ v H'=>(∀p∈caps s.heap.objs.size,H' p.2=none)->Q v (bW (caps s.heap.objs.size) σ H')} (bV N vs) H):aA P w K mg base (CX1 P w) (k+1) f fd ps sp:=by
 obtain⟨oc,od,kV,doc,pm,an,cdv,ct,osl,rfl,lk,hcd'⟩:=F.ex
 obtain rfl:cdv=.ref c0:=hcd
 refine⟨len,fun A outer s H args us vs Q E hr e0 hb r hsp=>?_⟩
 have hl:=len _ _ _ _ hsp
 have KX:K.In s.heap:=e0.mod.kin.keeps fun b o e=>(e0.bs b o e).1
 have lim:s.heap.NoLimit:=e0.mod.nolimit.keeps fun b o e=>(e0.bs b o e).1
 have hkind:∀y∈ps.zip us,(aj st).names.lookup y.1=some .local\/((aj st).names.lookup y.1=some .cell/\((cellsFrom (s.heap.objs.size+1) (aj st).names []).lookup y.1).isSome=true):=fun⟨n,v⟩ hy=>by
  rcases S.par n (Mx hy).1 with q|q
  ·exact .inl q
  ·exact .inr ⟨q,Ox _ _ _ (.inl q)⟩
 refine PL hr.depth (KX _ _ lk) rfl S.co S.gen rfl (W.codeRec_of KX hcd') (hb _ _ _ _ ?_)
 refine OW S.kind hkind fun env he s1 x=>?_
 subst he
 refine⟨lim.keeps x.toInCall.keep,codeAny_func ?_⟩
 obtain⟨t,ht,hq⟩:=hbody A outer s H vs Q E (hr.deeper _) hsp
 have I:Inv (fh (CX1 P w) P w K mg base N qual (aj st) f (.ref c0) A outer s H E) [] (bV N vs) H s1:=lq S hr.hd e0 hl r x
 refine Lk (ht.out [] s1 (bV N vs) H _ I hq) (fun fl s' hs=>?_) fun e s' hs=>hs
 have fin:∀{σ':St}{H':Hp}{v:V}{u:pv},Inv (fh (CX1 P w) P w K mg base N qual (aj st) f (.ref c0) A outer s H E) [] σ' H' s'->aM v u->((∀p∈caps s.heap.objs.size,H' p.2=none)->Q v (bW (caps s.heap.objs.size) σ' H'))->CE outer P w H s Q u s':=
  fun{σ' H' v u} J rv q=>by
   have free:∀p∈caps s.heap.objs.size,H' p.2=none:=fun p hp=>by
    obtain⟨y,_,_,hc⟩:=hcaps _ p hp
    exact J.freeC y p.2 hc
   have hcond:∀p∈caps s.heap.objs.size,H' p.2=none/\s.heap.objs.size<=p.2/\∀v,σ'[p.1]? =some (some v)->∃u o,aM v u/\s'.heap.get? p.2=some o/\o.data=.cell (some u):=fun p hp=>by
    obtain⟨y,hy,hk,hc⟩:=hcaps _ p hp
    refine⟨free p hp,J.ok.cab y p.2 rfl hc,fun v hv=>?_⟩
    obtain⟨m,_,hloc⟩:=J.loc
    obtain⟨u',r',lk'⟩:=hloc p.1 y v hy hv (.inr (.inl hk))
    rcases lk' with⟨z,_⟩|⟨_,c,ec,o,eo,hd⟩
    ·have z:(aj st).names.lookup y=some .local:=z
     rw[hk]at z;cases z
    ·have ec:(cellsFrom (s.heap.objs.size+1) (aj st).names []).lookup y=some c:=ec
     rw[hc]at ec;cases ec
     exact⟨u',o,r',eo,hd⟩
   obtain⟨un,ok⟩:=gH (P:=P) (w:=w) (σ:=σ') (caps s.heap.objs.size) H' (hnd _) hcond J.base J.hok
   exact⟨v,_,J.os,J.bare,un,ok,rv,q free⟩
 cases fl with
 |ret u=>
  obtain⟨v,σ',H',J,rv,q⟩:=hs
  exact fin J rv q
 |next=>
  obtain⟨σ',H',J,q⟩:=hs
  exact fin (v:=V.non) (u:=NV) J rfl q
 |brk=>exact Lh hs
 |cont=>exact Lh hs
theorem rF {P:Lf}{w:LA}{K:cW}{mg mb:Str->Option pv}{CX:CXT}{k:Nat}{fa a:Addr}{fd:Gt}{x:Str}{sp:Sp}{s₁:Dc}{vs:List pv}{ns:List Int}{tabs:List (Addr×Addr)}
  (KX:K.In s₁.heap)(hns:s₁.heap.Ns mainGlobals mg)(hb:s₁.heap.Ns builtinsNs mb)(hbb:∀x:Str,x≠"__name__"->mb x=bootBuiltins x)(hlim:s₁.heap.NoLimit)(hg:s₁.gens=#[])(hB:BM mg s₁.heap)
  (hT:∀q∈tabs,Np s₁.heap q.1 q.2/\s₁.heap.get? q.2=some (Pd #[]))(hKT:Pe K=true)
  (ha:s₁.heap.get? a=some {cls:=.type "list",data:=.seq vs.toArray})(hi:Ql vs ns)(hl:ns.length<=sizeLine)(hr:be k callerA)
  (F:∀base:Heap,K.In base->base.Ns mainGlobals mg->BM mg base->(∀q∈tabs,Np base q.1 q.2)->aA P w K mg base CX k fa fd [x] sp)(hbind:∀(s:Dc)(u:pv),Pu s fd ⟨[u],[]⟩ [(x,u)])
  (hsp:∀H:Hp,(∀q∈tabs,H q.2=some (.tbl #[]))->SqL K H a (ns.map V.int)->sp [.ref a] H (fun v _=>v=.bl true) fun _ _ _=>False)
  (hCX:∀H e s',CX [] H s₁ (fun _ _ _=>False) e s'->False):
  codeAny (model P w) callerA (.call (.ref fa) ⟨[.ref a],[]⟩) (fun r s'=>r=.ok (.ret (.bool true))/\OldK s₁.heap s'.heap/\s'.os=s₁.os/\Nz s'.gens) s₁:=by
 have rv:=kZ hi
 have lenV:=hi.length
 have tabK:∀q∈tabs,K.lookup q.2=none:=fun q hq=>by
  cases e:K.lookup q.2 with
  |none=>rfl
  |some o=>
   have e2:=KX _ _ e
   rw[(hT q hq).2]at e2;cases e2
   have:=Mq.mp hKT _ (W.mem_of_lookupK e)
   exact absurd (show false=true from this) Lc
 have tabA:∀q∈tabs,q.2≠a:=fun q hq e=>by
  have e2:=(hT q hq).2
  rw[e,ha]at e2;cases e2
 have core:∀H:Hp,(∀q∈tabs,H q.2=some (.tbl #[]))->SqL K H a (ns.map V.int)->HOk P w H s₁.heap->(∀b,H b≠none->(b=a/\∃o xs,H b=some (.frz o (.lst xs)))\/∃q∈tabs,q.2=b)->(∀b,H b≠none->K.lookup b=none)->
   codeAny (model P w) callerA (.call (.ref fa) ⟨[.ref a],[]⟩) (fun r s'=>r=.ok (.ret (.bool true))/\OldK s₁.heap s'.heap/\s'.os=s₁.os/\Nz s'.gens) s₁:=by
  intro H hO hS hok hA hK
  have base_of:∀{b:Addr}{o:Obj},s₁.heap.get? b=some o->H b=none->(fV s₁.heap H).get? b=some o:=fun e n=>um e n
  have noA:∀{b:Addr}{o:Obj},s₁.heap.get? b=some o->o.cls≠.none->o.cls≠.type "list"->H b=none:=fun{b o} e c1 c2=>by
   cases q:H b with
   |none=>rfl
   |some u=>
    rcases hA b (by rw[q];simp)with⟨rfl,_⟩|⟨p,hp,rfl⟩
    ·rw[ha]at e;cases e;exact absurd rfl c2
    ·rw[(hT p hp).2]at e;cases e;exact absurd rfl c1
  have noD:∀{b:Addr}{o:Obj}{es:Array DictEntry}{ep:Nat},s₁.heap.get? b=some o->o.data=.dict es ep->H b=none:=fun{b o es ep} e d=>by
   cases q:H b with
   |none=>rfl
   |some u=>
    rcases hA b (by rw[q];simp)with⟨rfl,_⟩|⟨p,hp,rfl⟩
    ·rw[ha]at e;cases e;cases d
    ·rw[(hT p hp).2]at e;cases e;cases d
  have nsK:∀{b:Addr}{m:Str->Option pv},s₁.heap.Ns b m->(fV s₁.heap H).Ns b m:=fun{b m}⟨o,es,ep,e,d,r⟩=>⟨o,es,ep,base_of e (noD e d),d,r⟩
  have hKb:K.In (fV s₁.heap H):=fun b o e=>base_of (KX b o e) (by
   cases q:H b with
   |none=>rfl
   |some u=>rw[hK b (by rw[q];simp)]at e;cases e)
  have hBb:BM mg (fV s₁.heap H):=by
   obtain⟨bm,ob,b1,b2,b3,b4,b5,b6⟩:=hB
   exact⟨bm,ob,b1,b2,base_of b3 (noA b3 (by rw[b4];intro z;cases z) (by rw[b4];intro z;exact absurd (Pf z) (by decide))),b4,b5,b6⟩
  have hCb:∀q∈tabs,Np (fV s₁.heap H) q.1 q.2:=fun q hq=>by
   obtain⟨o,vs,file,tf,flags,tg,inF,text,tt,e1,e2,r⟩:=(hT q hq).1
   exact⟨o,vs,file,tf,flags,tg,inF,text,tt,base_of e1 (noA e1 (by rw[e2];intro z;cases z) (by rw[e2];intro z;exact absurd (Pf z) (by decide))),e2,r⟩
  have hM:Mod K mg (fV s₁.heap H):=⟨hKb,nsK hns,⟨mb,nsK hb,hbb⟩,let ⟨mc,h1,h2⟩:=hlim;⟨mc,nsK h1,h2⟩⟩
  have e0:fU P w K mg (fV s₁.heap H) callerA [] s₁ H:=⟨rfl,hM,fun b o e=>xX e,NA (sC _ _),trivial,fun b hb=>absurd (show b∈([]:List Addr)from hb) (by simp),hok,.of_eq hg⟩
  refine Mr ((F _ hKb (nsK hns) hBb hCb).run callerA [] s₁ H ⟨[.ref a],[]⟩ [.ref a] [.ref a] _ _ hr e0 (hbind s₁ (.ref a)) (.cons rfl .nil) (hsp H hO hS)) fun r s' h=>?_
  cases r with
  |error e=>exact(hCX H e s' h).elim
  |ok fl=>
   cases fl with
   |next=>exact Lh h
   |brk=>exact Lh h
   |cont=>exact Lh h
   |ret u=>
    obtain⟨v,H',os,bare,un,hok',r',q⟩:=h
    have q':v=.bl true:=q
    subst q'
    obtain rfl:u=Mz true:=r'
    have all:∀b o,s₁.heap.get? b=some o->s'.heap.get? b=some o\/∃q∈tabs,q.2=b/\∃more,s'.heap.get? b=some (Pd more):=fun b o e=>by
     cases q:H b with
     |none=>exact .inl (un.keep b o e q (by intro z;exact absurd (show b∈([]:List Addr)from z) (by simp)) (by simp))
     |some u=>
      rcases hA b (by rw[q];simp)with⟨rfl,ob,xs,z⟩|⟨p,hp,rfl⟩
      ·have z2:=un.frzs b ob _ z
       obtain⟨e1,_⟩:=hok b _ z
       obtain⟨e2,_⟩:=hok' b _ z2
       rw[e]at e1;cases e1
       exact .inl e2
      ·obtain⟨more,z2⟩:=un.tbls p.2 _ (hO p hp)
       exact .inr ⟨p,hp,rfl,_,hok' p.2 _ z2⟩
    refine⟨rfl,⟨fun b o e=>?_,fun b o e=>?_⟩,os,bare⟩
    ·rcases all b o e with z|⟨p,hp,rfl,more,z⟩
     ·exact .inl z
     ·have e2:=(hT p hp).2
      rw[e]at e2;cases e2
      exact .inr (.inl ⟨((hT p hp).1.tab (hT p hp).2).isCodeTable,rfl,#[],more,rfl,by rw[Array.empty_append];exact z⟩)
    ·rcases all b o e with z|⟨p,hp,rfl,more,z⟩
     ·exact⟨_,z⟩
     ·exact⟨_,z⟩
 cases hk:K.lookup a with
 |some o=>
  have e:=KX a o hk
  rw[ha]at e
  cases e
  refine core (fun b=>if b∈tabs.map (·.2)then some (.tbl #[])else none) (fun q hq=>if_pos (Mc.mpr ⟨q,hq,rfl⟩)) (.inr ⟨_,vs.toArray,_,hk,rfl,rfl,rfl,by rw[KR,lenV];exact hl,by simpa using rv⟩) (fun b u z=>?_) (fun b z=>?_) fun b z=>?_
  ·by_cases hb:b∈tabs.map (·.2)
   ·have z':=(if_pos hb).symm.trans z
    cases z'
    obtain⟨q,hq,rfl⟩:=Mc.mp hb
    exact(hT q hq).2
   ·have z':=(if_neg hb).symm.trans z
    cases z'
  ·by_cases hb:b∈tabs.map (·.2)
   ·obtain⟨q,hq,e⟩:=Mc.mp hb
    exact .inr ⟨q,hq,e⟩
   ·exact absurd (if_neg hb) z
  ·by_cases hb:b∈tabs.map (·.2)
   ·obtain⟨q,hq,rfl⟩:=Mc.mp hb
    exact tabK q hq
   ·exact absurd (if_neg hb) z
 |none=>
  refine core (fun b=>if b=a then some (.frz {cls:=.type "list",data:=.seq vs.toArray} (.lst (ns.map V.int)))else if b∈tabs.map (·.2)then some (.tbl #[])else none)
   (fun q hq=>by show(if q.2=a then _ else _)=_;rw[if_neg (tabA q hq),if_pos (Mc.mpr ⟨q,hq,rfl⟩)]) (.inl (.inr ⟨{cls:=.type "list",data:=.seq vs.toArray},if_pos rfl⟩)) (fun b u z=>?_) (fun b z=>?_) fun b z=>?_
  ·by_cases hb:b=a
   ·have z':=(if_pos hb).symm.trans z
    cases z'
    subst hb
    exact⟨ha,by rw[Lq];exact hl,vs,_,rv,ha⟩
   ·have z':(if b∈tabs.map (·.2)then some (HO.tbl #[])else none)=some u:=(if_neg hb).symm.trans z
    by_cases hb2:b∈tabs.map (·.2)
    ·rw[if_pos hb2]at z';cases z'
     obtain⟨q,hq,rfl⟩:=Mc.mp hb2
     exact(hT q hq).2
    ·rw[if_neg hb2]at z';cases z'
  ·by_cases hb:b=a
   ·exact .inl ⟨hb,_,_,if_pos hb⟩
   ·by_cases hb2:b∈tabs.map (·.2)
    ·obtain⟨q,hq,e⟩:=Mc.mp hb2
     exact .inr ⟨q,hq,e⟩
    ·exact absurd ((if_neg hb).trans (if_neg hb2)) z
  ·by_cases hb:b=a
   ·rw[hb];exact hk
   ·by_cases hb2:b∈tabs.map (·.2)
    ·obtain⟨q,hq,rfl⟩:=Mc.mp hb2
     exact tabK q hq
    ·exact absurd ((if_neg hb).trans (if_neg hb2)) z
theorem vm {l:W.OpenLaw}{n k:Nat}{q:Lf}{loose:List Str}{XP:(Str->Option pv)->Heap->Prop}{YP:LA->Heap->Prop}{d:DefRec}{K:Params->cW}{CX:LA->CXT}{x:Str}{names:List Str}
  (hn:l.most=some n)(hn2:n<=sizeLine)(hdf:d.params.defaults=[])(hr:be k callerA)
  (hY:∀(w:LA)(h:Heap),YP w h->(K w.params).In h)
  (hq:∀y∈names,((Ot q).find? fun e=>e.name==y).isSome=true)
  (F:∀(w:LA)(mg:Str->Option pv)(fa:Addr)(h:Heap),(K w.params).In h->h.Ns mainGlobals mg->mg d.name=some (.ref fa)->
   ∃(fd:Gt)(tabs:List (Addr×Addr))(sp:Sp),(∀(s:Dc)(u:pv),Pu s fd ⟨[u],[]⟩ [(x,u)])/\Pe (K w.params)=true/\(∀t∈tabs,∃y∈names,Oj (K w.params) y=some t)/\
    (∀base:Heap,(K w.params).In base->base.Ns mainGlobals mg->BM mg base->(∀t∈tabs,Np base t.1 t.2)->aA l.prog w (K w.params) mg base (CX w) k fa fd [x] sp)/\
    ∀(H:Hp)(a:Addr)(ns:List Int),ns.length<=n->(∀t∈tabs,H t.2=some (.tbl #[]))->SqL (K w.params) H a (ns.map V.int)->sp [.ref a] H (fun v _=>v=.bl true) fun _ _ _=>False)
  (hCX:∀(w:LA)(H:Hp)(s:Dc)(e:pv)(s':Dc),CX w [] H s (fun _ _ _=>False) e s'->False):
  W.WalkO q loose XP YP l.row.toRowW d [] (fun f vs=>Ps f vs):=by
 refine Att.attach_call hn hdf fun w s₀ s₁ mg mb fa o pm cd doc a vs ns G Y ho hd hcd hmg hobj hints hlen hg=>?_
 have KX:=hY w _ Y
 obtain⟨fd,tabs,sp,hb,hKT,htabs,hF,hsp⟩:=F w mg fa _ KX G.T.g hmg
 refine rF (tabs:=tabs) KX G.T.g G.T.b G.T.builtins G.T.nolimit hg G.T.bmain (fun t ht=>?_) hKT hobj hints (Ll hlen hn2) hr hF hb (fun H hO hS=>hsp H a ns hlen hO hS) fun H e s'=>hCX w H s₁ e s'
 obtain⟨y,hy,e⟩:=htabs t ht
 obtain⟨dd,hdd⟩:=Ly.mp (hq y hy)
 exact W.tab_of G.T KX hdd e
section
variable {X:Cx}
theorem SPM.unwish {E:pv->Dc->Prop}{pins:List (Addr×Obj)}{D:eS}{f:Flow}{s':Dc}(h:SPM (X.wish E) pins D f s'):SPM X pins D f s':=by
 cases f with
 |next=>obtain⟨σ',H',I,q⟩:=h;exact⟨σ',H',I.unwish,q⟩
 |brk=>exact h
 |cont=>exact h
 |ret u=>obtain⟨v,σ',H',I,r,q⟩:=h;exact⟨v,σ',H',I.unwish,r,q⟩
theorem QMs.nox {st:List Stmt}{t:TSM}(h:QMs X.nox st t):QMs X st t:=⟨fun pins s σ H D I hw=>
 Lk (h.out pins s σ H D (I.wish _) hw) (fun _ _ q=>SPM.unwish q) fun _ _ z=>Lh z⟩
theorem iM.mono {P:Lf}{w:LA}{K:cW}{mg:Str->Option pv}{base:Heap}{j k:Nat}{t:cD}{sp:Sp}(F:iM P w K mg base j t sp)(h:j<=k):iM P w K mg base k t sp:=
 ⟨fun A outer s H f cs us vs cvs Q E hr=>F.run A outer s H f cs us vs cvs Q E (hr.mono h)⟩
def Its (z:Str):It:=⟨fun i _=>i<z.length,fun i H x H'=>H'=H/\∃c,z.cps[i]?=some c/\x=.str ⟨#[c]⟩,fun i _=>z.length<=i⟩
theorem uA {P:Lf}{w:LA}{K:cW}{tg:Expr}(z:Str)(t:Tok)(it:Addr):kF P w K tg (Its z) [it] it (fun i h=>h.IsStrIter it "str_ascii_iterator" z t i)where
 mem:=by simp
 obj:=fun i h st b hb=>by
  have e:b=it:=by simpa using hb
  subst e
  obtain⟨o,e,c,d⟩:=st
  exact⟨o,e,fun v z=>by rw[d]at z;cases z⟩
 keep:=fun i h h' st k=>let ⟨o,ho,r⟩:=st;⟨o,k it (by simp) o ho,r⟩
 item:=by
  intro X hP hw hK hc i pins s σ H E I hf st hg
  subst hP hw hK
  obtain⟨f0,f1,f2,f3,f4,f5⟩:=hf it (by simp)
  have hi:i<z.cps.size:=hg
  refine wpAny_pyNext_ascii_item st (c:=z.cps[i]) (OB hi) fun h' st' sb=>?_
  have I1:Inv X pins σ H {s with heap:=h',toks:=s.toks+1}:=I.turned (t':=s.toks+1) (fun b o hb e=>(sb.2 b hb).trans e) f0 f1 f3 f4 f5
  obtain⟨o,e,c,d⟩:=id st'
  exact⟨_,rfl,mH (s:={s with heap:=h',toks:=s.toks+1}) e c d (by decide) ⟨.str ⟨#[z.cps[i]]⟩,H,I1,⟨_,rfl⟩,⟨rfl,_,OB hi,rfl⟩,st',fun b hb=>(hf b hb).1⟩⟩
 done:=by
  intro X hP hw hK hc i pins s σ H E I hf st hg
  subst hP hw hK
  obtain⟨f0,f1,f2,f3,f4,f5⟩:=hf it (by simp)
  exact wpAny_pyNext_ascii_end (I.ok.hd hc) st (Array.getElem?_eq_none (show z.cps.size<=i from hg)) fun h' eb=>⟨rfl,I.turned (t':=s.toks) (fun b o hb e=>eb b o hb e) f0 f1 f3 f4 f5⟩
 self:=fun A i s Q E st h=>by
  refine wpAny_pyIter_slot st.typeIs Oo (OJ Oo st.typeIs F.entry_str_ascii_iterator_iter ?_ (F.args_str_ascii_iterator_iter_1 _))
  show wpAny _ _ (ret (.ref it)) _ _ s
  exact La ⟨_,rfl,"str_ascii_iterator",_,st.typeIs,F.slot_str_ascii_iterator_next.lookup,h⟩
variable {a:Expr}{ta:TE}{tg:Expr}
def jG (K:cW)(tl:TE):TI:=fun σ H R=>tl σ H fun x H1=>match x with
 |.str z=>z.cps.all (·<128)=true/\R (Its z) H1
 |x=>∃a,x=.ref a/\(((∃xs,SqL K H1 a xs)/\R (Itl K a) H1)\/((∃xs,SqT K H1 a xs)/\R (Itt K a) H1))
theorem jS (h:QE X a ta):QI X tg a (jG X.K ta):=⟨fun pins s σ H R I hw=>by
 refine thn (h.out pins s σ H _ I hw) fun v s1 ⟨x,H1,I1,r1,q1⟩=>?_
 cases x with
 |str z=>
  obtain⟨t,rfl⟩:=r1
  refine wpAny_pyIter_ascii q1.1 ?_
  refine⟨s1.heap.objs.size,[s1.heap.objs.size],_,_,H1,rfl,I1.kept (t':=s1.toks) fun b o e=>wr _ e,uA z t _,⟨_,Lg _ rfl,rfl,rfl⟩,fun b hb=>?_,q1.2⟩
  have e:b=s1.heap.objs.size:=by simpa using hb
  subst e
  exact I1.fpOk (gV _) (I1.hok.fresh (gV _))
 |ref c=>
  obtain⟨a,e,q⟩:=q1
  cases e
  cases r1
  rcases q with⟨⟨xs,hq⟩,q⟩|⟨⟨xs,hq⟩,q⟩
  ·obtain⟨its,rv,p,hz⟩:=I1.list hq
   refine Qz (uz p) ?_
   refine⟨s1.heap.objs.size,[s1.heap.objs.size],_,_,H1,rfl,I1.kept (t':=s1.toks) fun b o e=>wr _ e,sN _ _,⟨_,Lg _ rfl,rfl,rfl⟩,fun b hb=>?_,q⟩
   have e:b=s1.heap.objs.size:=by simpa using hb
   subst e
   exact I1.fpOk (gV _) (I1.hok.fresh (gV _))
  ·obtain⟨its,rv,p,hz⟩:=I1.tuple hq
   refine wpAny_pyIter_tuple (show s1.heap.IsTuple c its.toArray from p) ?_
   refine⟨s1.heap.objs.size,[s1.heap.objs.size],_,_,H1,rfl,I1.kept (t':=s1.toks) fun b o e=>wr _ e,qW _ _,⟨_,Lg _ rfl,rfl,rfl⟩,fun b hb=>?_,q⟩
   have e:b=s1.heap.objs.size:=by simpa using hb
   subst e
   exact I1.fpOk (gV _) (I1.hok.fresh (gV _))
 |_=>obtain⟨_,e,_⟩:=q1;cases e⟩
end
theorem kP {α β:Type}{f:α->β}{l:List α}{i:Nat}{x:β}(h:(l.map f)[i]?=some x):∃a,l[i]?=some a/\x=f a:=by
 rw[LF]at h
 cases e:l[i]? with
 |none=>rw[e]at h;cases h
 |some a=>rw[e]at h;cases h;exact⟨a,rfl,rfl⟩
theorem dj.keep {H H':Hp}{f:Addr}{t:cD}{cs:List Addr}{cvs:List V}(k:∀b φ,H b=some (.ext φ)->H' b=some (.ext φ))(c:dj H f t cs cvs):dj H' f t cs cvs:=by
 obtain⟨⟨a,h1,h2⟩,h3⟩:=c
 refine⟨⟨a,k _ _ h1,k _ _ h2⟩,?_⟩
 clear h1 h2
 induction h3 with
 |nil=>exact .nil
 |cons r t ih=>exact .cons (k _ _ r) ih
def lg (K:cW)(ns:List Str):Bool:=decide ((ns.map fun n=>(Oj K n).map (·.2)).Nodup)
theorem uY {l:List Addr}(h:(l.map some).Nodup):l.Nodup:=Rg some (fun a b h e=>h (congrArg some e)) h
section
variable {X:Cx}
theorem Ab:OpR X (compareOp .Is) (fun x y H Q=>∃b c,x=.bl b/\y=.bl c/\Q (.bl (decide (b=c))) H):=by
 intro pins s σ H x y v u Q I rx ry h
 obtain⟨b,c,rfl,rfl,q⟩:=h
 cases rx
 cases ry
 refine wpAny_is_plain (by rfl) (bj I q ?_)
 cases b<;>cases c<;>rfl
theorem rV:OpR X (compareOp .IsNot) (fun x y H Q=>∃b c,x=.bl b/\y=.bl c/\Q (.bl (!decide (b=c))) H):=by
 intro pins s σ H x y v u Q I rx ry h
 obtain⟨b,c,rfl,rfl,q⟩:=h
 cases rx
 cases ry
 refine wpAny_isNot_plain (by rfl) (bj I q ?_)
 cases b<;>cases c<;>rfl
def ou:R2:=fun x y H Q=>match x,y with
 |.bl b,.bl c=>Q (.bl (decide (b=c))) H
 |x,y=>uB x y H Q
theorem ui:OpR X (compareOp .Is) ou:=(Ab.or oIs).imp fun x y H Q q=>by
 unfold ou at q
 split at q
 ·exact .inl ⟨_,_,rfl,rfl,q⟩
 ·exact .inr q
def jz:R2:=fun x y H Q=>match x,y with
 |.bl b,.bl c=>Q (.bl (!decide (b=c))) H
 |x,y=>rf x y H Q
theorem kS:OpR X (compareOp .IsNot) jz:=(rV.or CP).imp fun x y H Q q=>by
 unfold jz at q
 split at q
 ·exact .inl ⟨_,_,rfl,rfl,q⟩
 ·exact .inr q
end
end L2
namespace HT
open PySem PyProof.Rows
theorem sub_tuple_dict:isSubtype (.type "tuple") (.type "dict")=pure false:=by rw[isSubtype_type];kernel_rfl
theorem kC:isSubtype (.type "dict") (.type "tuple")=pure false:=by rw[isSubtype_type];kernel_rfl
theorem qg (l b:Addr)(o:Obj)(hc:o.cls=.type "dict")(o2:Obj)(hc2:o2.cls=.type "tuple"):
  Meets (Builtin.«dict.__eq__» ⟨[.ref l,.ref b],[]⟩) (fun _ R s=>s.heap.get? l=some o/\s.heap.get? b=some o2/\R (.ok (.ret .notImplemented)) s):=
 .of_wp fun prog w A R s h=>by
  obtain⟨hp,g,d,tk,os⟩:=s;obtain⟨hl,hb,h⟩:=h;obtain⟨cls,dd,data,sl⟩:=o;obtain⟨cls2,dd2,data2,sl2⟩:=o2
  simp only at hc hc2;subst hc hc2
  have f1:=sub_tuple_dict;wp_walk using NM hl,NM hb;exact⟨_,rfl,h⟩
theorem oH (l b:Addr)(o:Obj)(hc:o.cls=.type "tuple")(o2:Obj)(hc2:o2.cls=.type "dict"):
  Meets (Builtin.«tuple.__eq__» ⟨[.ref l,.ref b],[]⟩) (fun _ R s=>s.heap.get? l=some o/\s.heap.get? b=some o2/\R (.ok (.ret .notImplemented)) s):=
 .of_wp fun prog w A R s h=>by
  obtain⟨hp,g,d,tk,os⟩:=s;obtain⟨hl,hb,h⟩:=h;obtain⟨cls,dd,data,sl⟩:=o;obtain⟨cls2,dd2,data2,sl2⟩:=o2
  simp only at hc hc2;subst hc hc2
  have f1:=kC;wp_walk using NM hl,NM hb;exact⟨_,rfl,h⟩
end HT
namespace L2
open PySem PySem.Spec PyProof.Rows
section
variable {X:Cx}
def wQ (K:cW):R2:=fun x y H Q=>∃a b ys,x=.ref a/\y=.ref b/\((∃kvs,H a=some (.dK kvs))\/∃kvs,H a=some (.dT kvs))/\SqT K H b ys/\Q (.bl false) H
theorem yJ (hu:X.A.units<cLine):OpR X (compareOp .Eq) (wQ X.K):=by
 intro pins s σ H x y v u Q I rx ry h
 obtain⟨a,b,ys,rfl,rfl,ha,hb,q⟩:=h
 cases rx
 cases ry
 obtain⟨its,_,p1,_⟩:=I.tuple hb
 obtain⟨o2,ho2,hc2,_⟩:=id p1
 obtain⟨o,ho,hc⟩:∃o,s.heap.get? a=some o/\o.cls=.type "dict":=by
  rcases ha with⟨kvs,e⟩|⟨kvs,e⟩
  ·obtain⟨_,_,_,_,o,_,_,h1,h2,_⟩:=(show bh X.prog X.w H s.heap a (.dK kvs)from I.hok a _ e)
   exact⟨o,h1,h2.1⟩
  ·obtain⟨_,_,_,_,o,_,_,h1,h2,_⟩:=(show bh X.prog X.w H s.heap a (.dT kvs)from I.hok a _ e)
   exact⟨o,h1,h2.1⟩
 have hne:a≠b:=fun e=>by
  subst e
  rw[ho]at ho2;cases ho2
  rw[hc]at hc2;exact absurd hc2 (by simp)
 show wpAny _ _ (richCompare .Eq (.ref a) (.ref b)) _ _ s
 exact SeqAt.rc_eq_decline_or (k:=false) ⟨_,ho,hc⟩ ⟨_,ho2,hc2⟩ (by decide) F.sub_tuple_dict F.slot_dict_eq Pz
  (fun _ hq=>QG F.slot_dict_eq ⟨_,ho,hc⟩ F.entry_dict_eq (F.args_dict_eq_2 _ _) (HT.qg a b o hc o2 hc2) ⟨ho,ho2,hq⟩)
  (fun _ hq=>QG Pz ⟨_,ho2,hc2⟩ F.entry_tuple_eq (F.args_tuple_eq_2 _ _) (HT.oH b a o2 hc2 o hc) ⟨ho2,ho,hq⟩)
  (fun _ hq=>wpAny_isSame_ref_other hne ho ho2 (by rw[hc];simp) hq) (.inr hu) ⟨.bl false,H,I,rfl,q⟩
def cg (K:cW):R2:=fun x y H Q=>match x,y with
 |.ref a,.ref b=>Bt K (.ref a) (.ref b) H Q\/qD K (.ref a) (.ref b) H Q\/wQ K (.ref a) (.ref b) H Q
 |.ref a,y=>qD K (.ref a) y H Q
 |x,.ref b=>qD K x (.ref b) H Q
 |x,y=>mEq x y H Q
theorem cy (hu:X.A.units+150<cLine):OpR X (compareOp .Eq) (cg X.K):=((Br (by omega)).or ((Bl hu).or ((yJ (by omega)).or oEq))).imp fun x y H Q q=>by
 unfold cg at q
 split at q
 ·exact q.elim .inl fun z=>z.elim (fun z=>.inr (.inl z)) fun z=>.inr (.inr (.inl z))
 ·exact .inr (.inl q)
 ·exact .inr (.inl q)
 ·exact .inr (.inr (.inr q))
end
section
variable {X:Cx}{a:Expr}{t:TA}{p pos:Pos}{tg:Expr}
def ug:List V->Hp->VK->Prop:=fun xs H Q=>match xs with|[.int i,.int j]=>Q (.int (if j>i then j else i)) H|_=>False
theorem Kz (hc:X.calm=true):bP X (.builtin "max") ug:=fun pins s σ H xs us Q I r q=>by
 unfold ug at q
 split at q
 ·exact rK hc pins s σ H _ us Q I r ⟨_,_,rfl,q⟩
 ·exact q.elim
theorem wo:OpR X (binaryOp .FloorDiv) (rI (fun _ j=>0<j/\j<1267650600228229401496703205376) fun i j=>.int (i/j)):=opI fun i j _ _ _ _ _ hc q=>by
 have h1:(0:Int)<j:=hc.1
 have h2:j<1267650600228229401496703205376:=hc.2
 have h3:j.natAbs.log2<100:=(Nat.log2_lt (by omega)).mpr (Nat.lt_of_lt_of_eq (m:=1267650600228229401496703205376) (by omega) (by decide))
 exact floordiv_int (by omega) (by rw[OI i (by omega)];exact q) (.inl (PyProof.noPylong_of_log2 (by omega)))
def dS:R2:=fun x y H Q=>match x,y with|.int i,.int j=>(0<j/\j<1267650600228229401496703205376)/\Q (.int (i/j)) H|_,_=>False
theorem eP:OpR X (binaryOp .FloorDiv) dS:=wo.imp fun x y H Q q=>by
 unfold dS at q
 split at q
 ·exact⟨_,_,rfl,rfl,q.1,q.2⟩
 ·exact q.elim
end
section
variable {α:Type}{l:List α}
theorem lE (h:l.length=0):l=[]:=List.length_eq_zero_iff.mp h
theorem eh (h:l.length=1):∃a0,l=[a0]:=by
 cases l with
 |nil=>simp at h
 |cons a l=>
  obtain rfl:=lE (l:=l) (by simpa using h)
  exact⟨a,rfl⟩
theorem jE (h:l.length=2):∃a0 a1,l=[a0,a1]:=by
 cases l with
 |nil=>simp at h
 |cons a l=>
  obtain⟨b0,rfl⟩:=eh (l:=l) (by simpa using h)
  exact⟨a,b0,rfl⟩
theorem lD (h:l.length=3):∃a0 a1 a2,l=[a0,a1,a2]:=by
 cases l with
 |nil=>simp at h
 |cons a l=>
  obtain⟨b0,b1,rfl⟩:=jE (l:=l) (by simpa using h)
  exact⟨a,b0,b1,rfl⟩
theorem mE (h:l.length=4):∃a0 a1 a2 a3,l=[a0,a1,a2,a3]:=by
 cases l with
 |nil=>simp at h
 |cons a l=>
  obtain⟨b0,b1,b2,rfl⟩:=lD (l:=l) (by simpa using h)
  exact⟨a,b0,b1,b2,rfl⟩
theorem wN (h:l.length=5):∃a0 a1 a2 a3 a4,l=[a0,a1,a2,a3,a4]:=by
 cases l with
 |nil=>simp at h
 |cons a l=>
  obtain⟨b0,b1,b2,b3,rfl⟩:=mE (l:=l) (by simpa using h)
  exact⟨a,b0,b1,b2,b3,rfl⟩
theorem FI (h:l.length=6):∃a0 a1 a2 a3 a4 a5,l=[a0,a1,a2,a3,a4,a5]:=by
 cases l with
 |nil=>simp at h
 |cons a l=>
  obtain⟨b0,b1,b2,b3,b4,rfl⟩:=wN (l:=l) (by simpa using h)
  exact⟨a,b0,b1,b2,b3,b4,rfl⟩
end
theorem be.le {A:LC}{m n:Nat}(h:be m A)(d:n<=m:=by first|decide|omega):be n A:=h.mono d
theorem scF {N P:List Str}{sc:Scope}(h1:sc.kind=.function:=by rfl)(h2:sc.isCoroutine=false:=by rfl)(h3:sc.isGenerator=false:=by rfl)(h4:N.Nodup:=by decide+kernel)(h5:N.take P.length=P:=by rfl)
 (h6:∀x∈P,sc.names.lookup x=some .local\/sc.names.lookup x=some .cell:=by decide+kernel)(h7:∀y∈sc.names,y.2≠.free:=by decide+kernel):au N P sc:=⟨h1,h2,h3,h4,h5,h6,h7⟩
structure Fm (K:cW)(mg:Str->Option pv)(x qual:Str)(st:Stmt)(a:Addr)(d:Gt)(ps:List Str):Prop where
 f:Fun K x qual st a d
 m:mg x=some (.ref a)
 b:aF K d ps []
structure Fa (K:cW)(x qual:Str)(st:Stmt)(a:Addr)(d:Gt):Prop where
 m:Ms K mainGlobals x=some (some (.ref a))
 f:Fun K x qual st a d
section
variable {P:Lf}{w:LA}{K:cW}{mg:Str->Option pv}{base h:Heap}{x qual:Str}{st:Stmt}{a:Addr}{d:Gt}{ps:List Str}
theorem bz {oc:pv}{od an:Option Addr}{osl:Array (Option pv)}{kV doc pm cdv ct:pv}(m:Ms K mainGlobals x=some (some (.ref a)))(l:K.lookup a=some ⟨oc,od,.func (ML x qual (bN st) (bi st) (aj st) .none kV doc pm an cdv ct),osl⟩)
 (c:Qa K cdv qual=true)(k:Mg K (.ref a)=true):Fa K x qual st a (ML x qual (bN st) (bi st) (aj st) .none kV doc pm an cdv ct):=⟨m,aH l c k⟩
theorem Fa.code (F:Fa K x qual st a d)(X:K.In h)(G:h.Ns mainGlobals mg){z t:Addr}(ht:Oj K x=some (z,t)):d.code=.ref z:=by
 obtain⟨oc,od,kV,doc,pm,an,cdv,ct,osl,e,lk,hcd⟩:=F.f.ex
 exact W.law_code X G ht (Mh X G F.m) (X _ _ lk) rfl
theorem Fun.bt {p:Str}(F:Fun K x qual st a d)(hb:∀(kV doc pm:pv)(an:Option Addr)(cdv ct v:pv),bindArgs (ML x qual (bN st) (bi st) (aj st) .none kV doc pm an cdv ct) ⟨[v],[]⟩=pure [(p,v)]:=by intros;rfl)(s:Dc)(v:pv):Pu s d ⟨[v],[]⟩ [(p,v)]:=by
 obtain⟨oc,od,kV,doc,pm,an,cdv,ct,osl,rfl,lk,hcd⟩:=F.ex
 exact .of_eq (hb kV doc pm an cdv ct v)
theorem Fun.b0 (F:Fun K x qual st a d)(hb:∀(kV doc pm:pv)(an:Option Addr)(cdv ct:pv),bindArgs (ML x qual (bN st) (bi st) (aj st) .none kV doc pm an cdv ct) ⟨[],[]⟩=pure (MJ [] []):=by intros;rfl):aF K d [] []:=F.binds fun kV doc pm an cdv ct us hl=>by
 obtain rfl:=L2.lE hl
 exact hb kV doc pm an cdv ct
theorem Fa.fm0 (F:Fa K x qual st a d)(X:K.In h)(G:h.Ns mainGlobals mg)(hb:∀(kV doc pm:pv)(an:Option Addr)(cdv ct:pv),bindArgs (ML x qual (bN st) (bi st) (aj st) .none kV doc pm an cdv ct) ⟨[],[]⟩=pure (MJ [] []):=by intros;rfl):Fm K mg x qual st a d []:=⟨F.f,Mh X G F.m,F.f.b0 hb⟩
theorem Fun.b1 {p0:Str}(F:Fun K x qual st a d)(hb:∀(kV doc pm:pv)(an:Option Addr)(cdv ct u0:pv),bindArgs (ML x qual (bN st) (bi st) (aj st) .none kV doc pm an cdv ct) ⟨[u0],[]⟩=pure (MJ [p0] [u0]):=by intros;rfl):aF K d [p0] []:=F.binds fun kV doc pm an cdv ct us hl=>by
 obtain⟨u0,rfl⟩:=L2.eh hl
 exact hb kV doc pm an cdv ct u0
theorem Fa.fm1 {p0:Str}(F:Fa K x qual st a d)(X:K.In h)(G:h.Ns mainGlobals mg)(hb:∀(kV doc pm:pv)(an:Option Addr)(cdv ct u0:pv),bindArgs (ML x qual (bN st) (bi st) (aj st) .none kV doc pm an cdv ct) ⟨[u0],[]⟩=pure (MJ [p0] [u0]):=by intros;rfl):Fm K mg x qual st a d [p0]:=⟨F.f,Mh X G F.m,F.f.b1 hb⟩
theorem Fun.b2 {p0 p1:Str}(F:Fun K x qual st a d)(hb:∀(kV doc pm:pv)(an:Option Addr)(cdv ct u0 u1:pv),bindArgs (ML x qual (bN st) (bi st) (aj st) .none kV doc pm an cdv ct) ⟨[u0,u1],[]⟩=pure (MJ [p0,p1] [u0,u1]):=by intros;rfl):aF K d [p0,p1] []:=F.binds fun kV doc pm an cdv ct us hl=>by
 obtain⟨u0,u1,rfl⟩:=L2.jE hl
 exact hb kV doc pm an cdv ct u0 u1
theorem Fa.fm2 {p0 p1:Str}(F:Fa K x qual st a d)(X:K.In h)(G:h.Ns mainGlobals mg)(hb:∀(kV doc pm:pv)(an:Option Addr)(cdv ct u0 u1:pv),bindArgs (ML x qual (bN st) (bi st) (aj st) .none kV doc pm an cdv ct) ⟨[u0,u1],[]⟩=pure (MJ [p0,p1] [u0,u1]):=by intros;rfl):Fm K mg x qual st a d [p0,p1]:=⟨F.f,Mh X G F.m,F.f.b2 hb⟩
theorem Fun.b3 {p0 p1 p2:Str}(F:Fun K x qual st a d)(hb:∀(kV doc pm:pv)(an:Option Addr)(cdv ct u0 u1 u2:pv),bindArgs (ML x qual (bN st) (bi st) (aj st) .none kV doc pm an cdv ct) ⟨[u0,u1,u2],[]⟩=pure (MJ [p0,p1,p2] [u0,u1,u2]):=by intros;rfl):aF K d [p0,p1,p2] []:=F.binds fun kV doc pm an cdv ct us hl=>by
 obtain⟨u0,u1,u2,rfl⟩:=L2.lD hl
 exact hb kV doc pm an cdv ct u0 u1 u2
theorem Fa.fm3 {p0 p1 p2:Str}(F:Fa K x qual st a d)(X:K.In h)(G:h.Ns mainGlobals mg)(hb:∀(kV doc pm:pv)(an:Option Addr)(cdv ct u0 u1 u2:pv),bindArgs (ML x qual (bN st) (bi st) (aj st) .none kV doc pm an cdv ct) ⟨[u0,u1,u2],[]⟩=pure (MJ [p0,p1,p2] [u0,u1,u2]):=by intros;rfl):Fm K mg x qual st a d [p0,p1,p2]:=⟨F.f,Mh X G F.m,F.f.b3 hb⟩
theorem Fun.b4 {p0 p1 p2 p3:Str}(F:Fun K x qual st a d)(hb:∀(kV doc pm:pv)(an:Option Addr)(cdv ct u0 u1 u2 u3:pv),bindArgs (ML x qual (bN st) (bi st) (aj st) .none kV doc pm an cdv ct) ⟨[u0,u1,u2,u3],[]⟩=pure (MJ [p0,p1,p2,p3] [u0,u1,u2,u3]):=by intros;rfl):aF K d [p0,p1,p2,p3] []:=F.binds fun kV doc pm an cdv ct us hl=>by
 obtain⟨u0,u1,u2,u3,rfl⟩:=L2.mE hl
 exact hb kV doc pm an cdv ct u0 u1 u2 u3
theorem Fa.fm4 {p0 p1 p2 p3:Str}(F:Fa K x qual st a d)(X:K.In h)(G:h.Ns mainGlobals mg)(hb:∀(kV doc pm:pv)(an:Option Addr)(cdv ct u0 u1 u2 u3:pv),bindArgs (ML x qual (bN st) (bi st) (aj st) .none kV doc pm an cdv ct) ⟨[u0,u1,u2,u3],[]⟩=pure (MJ [p0,p1,p2,p3] [u0,u1,u2,u3]):=by intros;rfl):Fm K mg x qual st a d [p0,p1,p2,p3]:=⟨F.f,Mh X G F.m,F.f.b4 hb⟩
theorem Fun.b5 {p0 p1 p2 p3 p4:Str}(F:Fun K x qual st a d)(hb:∀(kV doc pm:pv)(an:Option Addr)(cdv ct u0 u1 u2 u3 u4:pv),bindArgs (ML x qual (bN st) (bi st) (aj st) .none kV doc pm an cdv ct) ⟨[u0,u1,u2,u3,u4],[]⟩=pure (MJ [p0,p1,p2,p3,p4] [u0,u1,u2,u3,u4]):=by intros;rfl):aF K d [p0,p1,p2,p3,p4] []:=F.binds fun kV doc pm an cdv ct us hl=>by
 obtain⟨u0,u1,u2,u3,u4,rfl⟩:=L2.wN hl
 exact hb kV doc pm an cdv ct u0 u1 u2 u3 u4
theorem Fa.fm5 {p0 p1 p2 p3 p4:Str}(F:Fa K x qual st a d)(X:K.In h)(G:h.Ns mainGlobals mg)(hb:∀(kV doc pm:pv)(an:Option Addr)(cdv ct u0 u1 u2 u3 u4:pv),bindArgs (ML x qual (bN st) (bi st) (aj st) .none kV doc pm an cdv ct) ⟨[u0,u1,u2,u3,u4],[]⟩=pure (MJ [p0,p1,p2,p3,p4] [u0,u1,u2,u3,u4]):=by intros;rfl):Fm K mg x qual st a d [p0,p1,p2,p3,p4]:=⟨F.f,Mh X G F.m,F.f.b5 hb⟩
theorem Fun.b6 {p0 p1 p2 p3 p4 p5:Str}(F:Fun K x qual st a d)(hb:∀(kV doc pm:pv)(an:Option Addr)(cdv ct u0 u1 u2 u3 u4 u5:pv),bindArgs (ML x qual (bN st) (bi st) (aj st) .none kV doc pm an cdv ct) ⟨[u0,u1,u2,u3,u4,u5],[]⟩=pure (MJ [p0,p1,p2,p3,p4,p5] [u0,u1,u2,u3,u4,u5]):=by intros;rfl):aF K d [p0,p1,p2,p3,p4,p5] []:=F.binds fun kV doc pm an cdv ct us hl=>by
 obtain⟨u0,u1,u2,u3,u4,u5,rfl⟩:=L2.FI hl
 exact hb kV doc pm an cdv ct u0 u1 u2 u3 u4 u5
theorem Fa.fm6 {p0 p1 p2 p3 p4 p5:Str}(F:Fa K x qual st a d)(X:K.In h)(G:h.Ns mainGlobals mg)(hb:∀(kV doc pm:pv)(an:Option Addr)(cdv ct u0 u1 u2 u3 u4 u5:pv),bindArgs (ML x qual (bN st) (bi st) (aj st) .none kV doc pm an cdv ct) ⟨[u0,u1,u2,u3,u4,u5],[]⟩=pure (MJ [p0,p1,p2,p3,p4,p5] [u0,u1,u2,u3,u4,u5]):=by intros;rfl):Fm K mg x qual st a d [p0,p1,p2,p3,p4,p5]:=⟨F.f,Mh X G F.m,F.f.b6 hb⟩
theorem Fun.okS {CX:CXT}{N:List Str}{k:Nat}{sp:Sp}{t:TS}(F:Fun K x qual st a d)(S:au N ps (aj st))(len:∀vs H Q E,sp vs H Q E->vs.length=ps.length)
  (hrd:∀(vs:List V)(H:Hp)(Q:VK)(E:XK),sp vs H Q E->t {nx:=fun _ H'=>Q .non H',rt:=Q} (bV N vs) H)
  (hq:∀(cdv:pv)(A:LC)(outer:List Env)(s:Dc)(H:Hp)(E:XK),be k (A.deeper (envOfC qual (aj st) s.heap.objs.size a cdv))->QSs (fh CX P w K mg base N qual (aj st) a cdv A outer s H E).nox (bi st) t):aA P w K mg base CX (k+1) a d ps sp:=
 F.okN S len fun cdv A outer s H vs Q E hr h=>⟨t,(hq cdv A outer s H E hr).out,hrd vs H Q E h⟩
end
section
variable {X:Cx}{x q:Str}{e:Expr}{es:List Expr}{t:TA}{p pos:Pos}{st:Stmt}{f:Addr}{fd:Gt}{ps:List Str}{k:Nat}{sp:Sp}
theorem aL {P:Lf}{w:LA}(F:aA X.prog X.w X.K X.mg X.base (CX1 P w) k f fd ps sp)(hr:be k X.A)(M:Fm X.K X.mg x q st f fd ps)
 (ha:QA X (e::es) t)(hg:Gl X x:=by rfl)(hdb:(x==("__debug__":Str))=false:=by decide)(hs:bc (e::es)=true:=by rfl):QE X (.Call (.Name x p) (e::es) [] pos) (ax sp (fun _=>E0) t):=yY F hr M.m M.f.kp M.b av ha hg hdb hs
end
def oa (ks:et)(C:Addr)(m:Str)(E:St->XK)(ta:TE)(t:TA):TE:=fun σ H Q=>ta σ H fun x H1=>∃a dx fs f,x=.ref a/\H1 a=some (.ins C dx fs)/\fs.lookup m=some (.ref f)/\(∃ts∈ks,∃cs cvs,dj H1 f ts.1 cs cvs)/\t σ H1 fun vs H2=>qy ks f vs H2 Q (E σ)
section
variable {X:Cx}{pins:List (Addr×Obj)}{σ:St}{H:Hp}{s:Dc}{A:LC}{E:pv->Dc->Prop}{a C dx:Addr}{fs:List (Str×V)}{v:V}
theorem jO {m:Str}{pl:Sem Bool}{Q:pv×List pv->Dc->Prop}(I:Inv X pins σ H s)(e:H a=some (.ins C dx fs))(c:Cls X.K C)(n:aV X.K C m)(l:fs.lookup m=some v)
  (h:∀u s',Inv X pins σ H s'->aM v u->Q (u,[]) s'):wpAny (model X.prog X.w) A (getMethod (.ref a) m pl) Q E s:=by
 obtain⟨mA,O,r,_,_,_⟩:=fx I.hok e
 obtain⟨od,J,hl⟩:=O.look
 exact W.method_usual (r:=none) I.kIn J (Nv (c.get m)).1 (Nv (c.get m)).2 n rfl (jH I e c n l h)
end
section
variable {X:Cx}{k:Nat}{C:Addr}{E:St->XK}{m:Str}{pos apos:Pos}{e o:Expr}{es:List Expr}{ta:TE}{t:TA}
theorem pb {pl:Sem Bool}{ks:et}(hk:kA X.prog X.w X.K X.mg X.base k ks)(hr:be k X.A)(hx:dH (CX1 X.prog X.w) X E)(he:QE X o ta)(c:Cls X.K C)(n:aV X.K C m)(ha:QA X (e::es) t)
  (hs:bc (e::es)=true:=by rfl)
  (ht:eval (.Call (.Attribute o m apos) (e::es) [] pos) X.env=(do
   let ov<-eval o X.env
   standAt apos.atName
   let (f,first)<-holding [ov] (getMethod ov m pl)
   callWith pos f first (backTo pos (starEach (e::es) X.env)) (backToKw pos (keywordEach [] X.env))):=by rfl):
  QE X (.Call (.Attribute o m apos) (e::es) [] pos) (oa ks C m E ta t):=⟨fun pins s σ H Q I h=>by
 have h':(bT e&&bc es)=true:=hs
 refine MP (pl:=pl) (thn (he.out pins s σ H _ I h) fun u s1 ⟨x,H1,I1,rx,a,dx,fs,f,ex,ea,l,⟨ts,hts,cs,cvs,ca⟩,q⟩=>?_) ht
 subst ex
 obtain rfl:u=Lo a:=rx
 refine jO I1 ea c n l fun w s2 I2 rw2=>?_
 obtain rfl:w=Lo f:=rw2
 refine Pt (gx I2.hok ca) (thn (ha.out pos pins s2 σ H1 _ I2 q) fun us s3 ⟨vs,H2,I3,rv,ts2,hm2,cs2,cvs2,ca2,hl,hsp⟩=>⟨gx I3.hok ca2,?_⟩)
  (ba (tx.mp h').1 es X.env) (bO (tx.mp h').2)
 refine Nu (Mr ((hk ts2 hm2).run X.A X.stack s3 H2 f cs2 us vs cvs2 Q (E σ) hr I3.env0 ca2 rv hl hsp) fun r s' hq=>?_)
 cases r with
 |error e=>exact hx pins σ H2 s3 e s' I3 hq
 |ok fl=>
  cases fl with
  |ret u=>exact I3.after hq
  |next=>exact Lh hq
  |brk=>exact Lh hq
  |cont=>exact Lh hq⟩
end
def eT (L:List (Addr×Sp))(m:Str)(E:St->XK)(ta:TE)(t:TA):TE:=fun σ H Q=>ta σ H fun x H1=>∃a C dx fs sp,x=.ref a/\H1 a=some (.ins C dx fs)/\(C,sp)∈L/\fs.lookup m=none/\t σ H1 fun vs H2=>sp (x::vs) H2 Q (E σ)
def MD (X:Cx)(m:Str)(E:St->XK)(p:Addr×Sp):Prop:=∃CX k f fd ps,Cls X.K p.1/\bq X.K p.1 m f/\aA X.prog X.w X.K X.mg X.base CX k f fd ps p.2/\be k X.A/\aF X.K fd ps []/\dH CX X E
structure xQ (K:cW)(C:Addr)(m:Str)(f:Addr):Prop where
 ga:NU K (.ref C) "__getattribute__"=some (some (.builtin "type.__getattribute__"))
 rd:W.readsIn K C (.type "type")=true
 at_:W.findCls K (.ref C) (.type "type") m=some (.val (.ref f))
 ho:OX (.ref f)=true
 kp:Mg K (.ref f)=true
structure gN (K:cW)(C:Addr):Prop where
 cl:KI K (.ref C) "__class__"=some (some (.builtin "object.__class__"))
 gt:NU K (.builtin "object.__class__") "__get__"=some (some (.builtin "getset_descriptor.__get__"))
 tk:QH K (.builtin "object.__class__")=some true
 mo:OL K C (.type "object")=some true
section
variable {X:Cx}{CX:CXT}{k:Nat}{f C:Addr}{fd:Gt}{ps:List Str}{sp:Sp}{E:St->XK}{x m:Str}{p pos apos:Pos}{e:Expr}{es:List Expr}{t u:TE}{ta:TA}
theorem mdn {L:List (Addr×Sp)}(h:L=[]):∀p∈L,MD X m E p:=fun p hp=>by subst h;cases hp
theorem mdc {L:List (Addr×Sp)}(c:Cls X.K C)(hm:bq X.K C m f)(F:aA X.prog X.w X.K X.mg X.base CX k f fd ps sp)(hr:be k X.A)(hb:aF X.K fd ps [])(hx:dH CX X E)(h:∀p∈L,MD X m E p):∀p∈(C,sp)::L,MD X m E p:=fun p hp=>by
 rcases If.mp hp with rfl|hp
 ·exact⟨_,_,_,_,_,c,hm,F,hr,hb,hx⟩
 ·exact h p hp
theorem eN {L:List (Addr×Sp)}{o:Expr}{to:TE}{pl:Sem Bool}(he:QE X o to)(hL:∀p∈L,MD X m E p)(ha:QA X (e::es) ta)(hs:bc (e::es)=true:=by rfl)
  (ht:eval (.Call (.Attribute o m apos) (e::es) [] pos) X.env=(do
   let ov<-eval o X.env
   standAt apos.atName
   let (f,first)<-holding [ov] (getMethod ov m pl)
   callWith pos f first (backTo pos (starEach (e::es) X.env)) (backToKw pos (keywordEach [] X.env))):=by rfl):
  QE X (.Call (.Attribute o m apos) (e::es) [] pos) (eT L m E to ta):=⟨fun pins s σ H Q I h=>by
 have h':(bT e&&bc es)=true:=hs
 refine MP (pl:=pl) (thn (he.out pins s σ H _ I h) fun u s1 ⟨x,H1,I1,rx,a,C,dx,fs,sp,ex,ea,hC,l,q⟩=>?_) ht
 subst ex
 obtain rfl:u=Lo a:=rx
 obtain⟨CX,k,f,fd,ps,c,hm,F,hr,hb,hx⟩:=hL _ hC
 refine gL I1 ea c hm l ?_
 refine Nn (first:=[.ref a]) (h₀:=X.base) I.ok.mod.kin hm.kp (thn (ha.out pos pins s1 σ H1 _ I1 q) fun us s2 ⟨vs,H2,I2,r,q2⟩=>⟨I2.kIn,?_⟩)
  (ba (tx.mp h').1 es X.env) (bO (tx.mp h').2)
 exact fy (us:=.ref a::us) (vs:=.ref a::vs) F hr hb hx I2 (.cons rfl r) q2⟩
theorem oj {pl:Sem Bool}(hm:X.mg x=some (.ref C))(c:xQ X.K C m f)(F:aA X.prog X.w X.K X.mg X.base CX k f fd ps sp)(hr:be k X.A)(hb:aF X.K fd ps [])(hx:dH CX X E)(ha:QA X (e::es) ta)
  (hg:Gl X x:=by rfl)(hd:(x==("__debug__":Str))=false:=by decide)(hs:bc (e::es)=true:=by rfl)
  (ht:eval (.Call (.Attribute (.Name x p) m apos) (e::es) [] pos) X.env=(do
   let ov<-eval (.Name x p) X.env
   standAt apos.atName
   let (f,first)<-holding [ov] (getMethod ov m pl)
   callWith pos f first (backTo pos (starEach (e::es) X.env)) (backToKw pos (keywordEach [] X.env))):=by rfl):
  QE X (.Call (.Attribute (.Name x p) m apos) (e::es) [] pos) (ax sp E ta):=⟨fun pins s σ H Q I h=>by
 have h':(bT e&&bc es)=true:=hs
 refine MP (pl:=pl) (thn ((kj (v:=.ref C) hg hm rfl hd) pins s σ H (fun v H1=>v=.ref C/\H1=H) I ⟨rfl,rfl⟩) fun u s1 ⟨v,H1,I1,rv,ev,eH⟩=>?_) ht
 subst ev eH
 obtain rfl:u=Lo C:=rv
 refine W.method_cls I1.kIn c.ga (W.cls_value I1.kIn c.rd c.at_ c.ho ?_)
 refine Nn (first:=[]) (h₀:=X.base) I.ok.mod.kin c.kp (thn (ha.out pos pins _ σ H1 _ (I1.tok _) h) fun us s2 ⟨vs,H2,I2,r,q2⟩=>⟨I2.kIn,?_⟩)
  (ba (tx.mp h').1 es X.env) (bO (tx.mp h').2)
 exact fy F hr hb hx I2 r q2⟩
def jw (K:cW):List V->Hp->VK->Prop:=fun xs H Q=>∃a C dx fs D b,xs=[.ref a,.ref D]/\H a=some (.ins C dx fs)/\Cls K C/\gN K C/\MF K (.ref C) (.ref D)=some b/\Q (.bl b) H
theorem lL:bP X (.builtin "isinstance") (jw X.K):=fun pins s σ H xs us Q I r h=>by
 obtain⟨a,C,dx,fs,D,b,rfl,ha,hC,G,hk,q⟩:=h
 obtain⟨u,w',rfl,r1,r2⟩:=ma r
 cases (show w'=Lo D from r2)
 cases (show u=Lo a from r1)
 obtain⟨mA,O,_,_,_,_⟩:=fx I.hok ha
 obtain⟨od,IA,_⟩:=O.look
 exact MK (W.kitx_own (hC.get _) hC.hd G.cl G.gt G.tk G.mo) I.kIn IA hk (fun z=>nomatch z) fun tk=>⟨.bl _,H,I.tok tk,rfl,q⟩
end
end L2
namespace L2
open PySem PySem.Spec PyProof.Rows PySem.W
section
variable {key:Nat->Int}{n:Nat}
def at' (p:Array Nat)(i:Nat):Nat:=p.getD i 0
variable (inj:∀i j,i<n->j<n->key i=key j->i=j)
include inj
omit inj in
omit inj in
omit inj in
end
end L2
namespace Rs
def kI (b x y c:Nat):Prop:=c<=b/\x/2^(b- c)=y/2^(b- c)/\(c=b\/x/2^(b- (c+1))≠y/2^(b- (c+1)))
abbrev st (B k d:Nat):Nat:=k/2^(B- d)
abbrev sd (B k d:Nat):Nat:=k/2^(B- 1- d)%2
inductive Kn (α:Type)where
 |bare
 |leaf (k:Nat) (t:α)
 |fork (d b:Nat) (l r:Kn α)
section
variable {α:Type}
def bo:Kn α->List (Nat×α)
 |.bare=>[]
 |.leaf k t=>[(k,t)]
 |.fork _ _ l r=>bo l++bo r
def bC (B key:Nat):Kn α->Option α
 |.bare=>none
 |.leaf k t=>if key=k then some t else none
 |.fork d _ l r=>if sd B key d=0 then bC B key l else bC B key r
def WF (B:Nat):Nat->Nat->Kn α->Prop
 |_,_,.bare=>False
 |d0,b0,.leaf k _=>k<2^B/\st B k d0=b0
 |d0,b0,.fork d b l r=>d0<=d/\d<B/\b/2^(d- d0)=b0/\WF B (d+1) (2*b) l/\WF B (d+1) (2*b+1) r
theorem cF {B k d:Nat}(h:d<B):st B k (d+1)=2*st B k d+sd B k d:=by
 have e:B- d=(B- (d+1))+1:=by omega
 have e2:B- 1- d=B- (d+1):=by omega
 unfold st sd
 rw[e,e2,Of,<-MQ]
 omega
theorem gb {B k d:Nat}:sd B k d<2:=Nat.mod_lt _ (by decide)
theorem jD {B k d e:Nat}(h1:d<=e)(h2:e<=B):st B k d=st B k e/2^(e- d):=by
 unfold st
 rw[MQ,<-Nr]
 congr 2
 omega
theorem WF.mem {B:Nat}:∀{t:Kn α}{d0 b0:Nat},d0<=B->WF B d0 b0 t->∀p∈bo t,p.1<2^B/\st B p.1 d0=b0
 |.bare,_,_,_,h,_,_=>h.elim
 |.leaf k t,_,_,_,h,p,hp=>by rw[KZ.mp hp];exact h
 |.fork d b l r,d0,b0,_,⟨h1,h2,h3,hl,hr⟩,p,hp=>by
  have key:p.1<2^B/\st B p.1 d=b:=by
   rcases Ml.mp hp with z|z
   ·obtain⟨a,c⟩:=hl.mem (by omega) p z
    rw[cF h2]at c
    have:=@gb B p.1 d
    exact⟨a,by omega⟩
   ·obtain⟨a,c⟩:=hr.mem (by omega) p z
    rw[cF h2]at c
    have:=@gb B p.1 d
    exact⟨a,by omega⟩
  exact⟨key.1,by rw[jD h1 (by omega),key.2];exact h3⟩
theorem WF.left {B d0 b0 d b:Nat}{l r:Kn α}(h:WF B d0 b0 (.fork d b l r)):∀p∈bo l,st B p.1 d=b/\sd B p.1 d=0:=fun p hp=>by
 obtain⟨h1,h2,h3,hl,hr⟩:=h
 have c:=(hl.mem (by omega) p hp).2
 rw[cF h2]at c
 have:=@gb B p.1 d
 omega
theorem WF.right {B d0 b0 d b:Nat}{l r:Kn α}(h:WF B d0 b0 (.fork d b l r)):∀p∈bo r,st B p.1 d=b/\sd B p.1 d=1:=fun p hp=>by
 obtain⟨h1,h2,h3,hl,hr⟩:=h
 have c:=(hr.mem (by omega) p hp).2
 rw[cF h2]at c
 have:=@gb B p.1 d
 omega
theorem WF.ne {B d0 b0:Nat}:∀{t:Kn α}{d0 b0:Nat},WF B d0 b0 t->∃p,p∈bo t
 |.bare,_,_,h=>h.elim
 |.leaf k t,_,_,_=>⟨(k,t),KZ.mpr rfl⟩
 |.fork d b l r,_,_,⟨_,_,_,hl,_⟩=>by
  obtain⟨p,hp⟩:=WF.ne (d0:=d0) (b0:=b0) hl
  exact⟨p,MC _ hp⟩
def look (key:Nat):List (Nat×α)->Option α
 |[]=>none
 |(k,t)::r=>if key=k then some t else look key r
theorem oI (key:Nat)(l m:List (Nat×α)):look key (l++m)=(look key l).or (look key m):=by
 induction l with
 |nil=>rfl
 |cons p r ih=>
  show(if key=p.1 then some p.2 else look key (r++m))=(if key=p.1 then some p.2 else look key r).or (look key m)
  split
  ·rfl
  ·exact ih
theorem gf {key:Nat}{l:List (Nat×α)}(h:∀p∈l,p.1≠key):look key l=none:=by
 induction l with
 |nil=>rfl
 |cons p r ih=>
  show(if key=p.1 then some p.2 else look key r)=none
  rw[if_neg fun e=>h p Lj e.symm]
  exact ih fun q hq=>h q (Lb _ hq)
theorem eX {B key:Nat}:∀{t:Kn α}{d0 b0:Nat},WF B d0 b0 t->bC B key t=look key (bo t)
 |.bare,_,_,h=>h.elim
 |.leaf k t,_,_,_=>rfl
 |.fork d b l r,d0,b0,h=>by
  have hf:=h
  obtain⟨h1,h2,h3,hl,hr⟩:=h
  show(if sd B key d=0 then bC B key l else bC B key r)=look key (bo l++bo r)
  rw[oI]
  by_cases e:sd B key d=0
  ·rw[if_pos e,eX hl,gf (l:=bo r) fun p hp z=>by
    have:=(hf.right p hp).2
    rw[z]at this;omega]
   cases look key (bo l)<;>rfl
  ·rw[if_neg e,eX hr,gf (l:=bo l) fun p hp z=>by
    have:=(hf.left p hp).2
    rw[z]at this;omega]
   rfl
def alN (B x y:Nat):Nat->Nat
 |0=>0
 |c+1=>if x/2^(B- (c+1))=y/2^(B- (c+1))then c+1 else alN B x y c
theorem rY {B x y:Nat}(hx:x<2^B)(hy:y<2^B):∀n,n<=B->alN B x y n<=n/\x/2^(B- alN B x y n)=y/2^(B- alN B x y n)/\(alN B x y n=n\/x/2^(B- (alN B x y n+1))≠y/2^(B- (alN B x y n+1)))
 |0,_=>⟨gV _,by show x/2^B=y/2^B;rw[MX hx,MX hy],.inl rfl⟩
 |c+1,hn=>by
  unfold alN
  split
  ·rename_i e;exact⟨gV _,e,.inl rfl⟩
  ·rename_i e
   obtain⟨a1,a2,a3⟩:=rY hx hy c (by omega)
   refine⟨by omega,a2,.inr ?_⟩
   rcases a3 with z|z
   ·rw[z];exact e
   ·exact z
def al (B x y:Nat):Nat:=alN B x y B
theorem ii {B x y:Nat}(hx:x<2^B)(hy:y<2^B):kI B x y (al B x y):=rY hx hy B (gV _)
theorem mW {B x y:Nat}(hx:x<2^B)(hy:y<2^B)(ne:x≠y):al B x y<B/\st B x (al B x y)=st B y (al B x y)/\sd B x (al B x y)≠sd B y (al B x y):=by
 obtain⟨a1,a2,a3⟩:=ii hx hy
 have lt:al B x y<B:=by
  rcases Nat.lt_or_ge (al B x y) B with h|h
  ·exact h
  ·exfalso
   have e:al B x y=B:=by omega
   rw[e,Nat.sub_self,Nat.pow_zero,Nat.div_one,Nat.div_one]at a2
   exact ne a2
 refine⟨lt,a2,fun z=>?_⟩
 rcases a3 with h|h
 ·omega
 ·apply h
  have e1:=@cF B x _ lt
  have e2:=@cF B y _ lt
  show st B x (al B x y+1)=st B y (al B x y+1)
  have a2':st B x (al B x y)=st B y (al B x y):=a2
  rw[e1,e2,a2',z]
theorem nC {B x y d e:Nat}(h1:d<=e)(h2:e<=B)(h:st B x e=st B y e):st B x d=st B y d:=by rw[jD h1 h2,jD h1 h2,h]
def dM (B d key:Nat)(x:α)(t:Kn α):Kn α:=if sd B key d=0 then .fork d (st B key d) (.leaf key x) t else .fork d (st B key d) t (.leaf key x)
def cm (B key:Nat)(x:α):Kn α->Kn α
 |.bare=>.leaf key x
 |.leaf k t=>if key=k then .leaf key x else dM B (al B key k) key x (.leaf k t)
 |.fork d b l r=>if st B key d=b then(if sd B key d=0 then .fork d b (cm B key x l) r else .fork d b l (cm B key x r))
  else dM B (al d b (st B key d)) key x (.fork d b l r)
theorem WF.lift {B d0 b0 d b:Nat}:∀{t:Kn α},WF B d0 b0 t->(∀p∈bo t,st B p.1 d=b)->d<=B->d0<=B->(∀e b' l r,t=.fork e b' l r->d<=e)->WF B d b t
 |.bare,h,_,_,_,_=>h.elim
 |.leaf k t,h,hs,_,_,_=>⟨h.1,hs (k,t) (KZ.mpr rfl)⟩
 |.fork e b' l r,h,hs,hd,_,he=>by
  have hf:=h
  obtain⟨h1,h2,h3,hl,hr⟩:=h
  have hde:=he e b' l r rfl
  refine⟨hde,h2,?_,hl,hr⟩
  obtain⟨p,hp⟩:=WF.ne (d0:=0) (b0:=0) hl
  have:=hs p (MC _ hp)
  rw[jD hde (by omega),(hf.left p hp).1]at this
  exact this
theorem oC {B d0 b0 d key:Nat}{x:α}{t:Kn α}(h:WF B d0 b0 t)(hk:key<2^B)(hd:d<B)(h0:d0<=d)(hkb:st B key d0=b0)(hs:∀p∈bo t,st B p.1 d=st B key d/\sd B p.1 d≠sd B key d)
  (he:∀e b' l r,t=.fork e b' l r->d<e):WF B d0 b0 (dM B d key x t)/\∀k,bC B k (dM B d key x t)=if k=key then some x else bC B k t:=by
 have lt:=@gb B key d
 have up:∀p∈bo t,st B p.1 (d+1)=2*st B key d+(1- sd B key d):=fun p hp=>by
  obtain⟨a,c⟩:=hs p hp
  have:=@gb B p.1 d
  rw[cF hd,a]
  omega
 have wt:WF B (d+1) (2*st B key d+(1- sd B key d)) t:=h.lift up hd (by omega) fun e b' l r z=>he e b' l r z
 have wk:WF B (d+1) (2*st B key d+sd B key d) (Kn.leaf key x):=⟨hk,cF hd⟩
 have pre:st B key d/2^(d- d0)=b0:=by rw[<-jD h0 (by omega)];exact hkb
 unfold dM
 by_cases e:sd B key d=0
 ·rw[if_pos e]
  rw[e]at wt wk
  refine⟨⟨h0,hd,pre,wk,wt⟩,fun k=>?_⟩
  show(if sd B k d=0 then(if k=key then some x else none)else bC B k t)=_
  by_cases ek:k=key
  ·subst ek;rw[if_pos e,if_pos rfl,if_pos rfl]
  ·rw[if_neg ek,if_neg ek]
   by_cases e2:sd B k d=0
   ·rw[if_pos e2,eX h,gf fun p hp z=>?_]
    have:=(hs p hp).2
    rw[z]at this;omega
   ·rw[if_neg e2]
 ·rw[if_neg e]
  have e1:sd B key d=1:=by omega
  rw[e1]at wt wk
  refine⟨⟨h0,hd,pre,wt,wk⟩,fun k=>?_⟩
  show(if sd B k d=0 then bC B k t else(if k=key then some x else none))=_
  by_cases ek:k=key
  ·subst ek;rw[if_neg e,if_pos rfl,if_pos rfl]
  ·rw[if_neg ek,if_neg ek]
   by_cases e2:sd B k d=0
   ·rw[if_pos e2]
   ·rw[if_neg e2,eX h,gf fun p hp z=>?_]
    have w:=(hs p hp).2
    have:=@gb B k d
    rw[z]at w;omega
theorem jq {B key:Nat}{x:α}(hk:key<2^B):∀{t:Kn α}{d0 b0:Nat},d0<=B->WF B d0 b0 t->st B key d0=b0->WF B d0 b0 (cm B key x t)/\∀k,bC B k (cm B key x t)=if k=key then some x else bC B k t
 |.bare,_,_,_,h,_=>h.elim
 |.leaf k t,d0,b0,h0,h,hb=>by
  unfold cm
  by_cases e:key=k
  ·subst e
   rw[if_pos rfl]
   refine⟨h,fun k'=>?_⟩
   show(if k'=key then some x else none)=if k'=key then some x else(if k'=key then some t else none)
   by_cases e:k'=key
   ·rw[if_pos e,if_pos e]
   ·rw[if_neg e,if_neg e,if_neg e]
  ·rw[if_neg e]
   obtain⟨a1,a2,a3⟩:=mW hk h.1 e
   refine oC h hk a1 ?_ hb (fun p hp=>?_) fun _ _ _ _ z=>nomatch z
   ·apply Ma
    intro hn
    apply a3
    have q:st B key (al B key k+1)=st B k (al B key k+1):=nC (by omega) h0 (by rw[hb,h.2])
    rw[cF a1,cF a1]at q
    omega
   ·rw[KZ.mp hp]
    exact⟨a2.symm,KP a3⟩
 |.fork d b l r,d0,b0,h0,h,hb=>by
  have hf:=h
  obtain⟨h1,h2,h3,hl,hr⟩:=h
  unfold cm
  by_cases e:st B key d=b
  ·rw[if_pos e]
   by_cases e2:sd B key d=0
   ·rw[if_pos e2]
    obtain⟨w,f⟩:=jq (x:=x) hk (by omega) hl (by rw[cF h2,e,e2];rfl)
    refine⟨⟨h1,h2,h3,w,hr⟩,fun k=>?_⟩
    show(if sd B k d=0 then bC B k (cm B key x l)else bC B k r)=if k=key then some x else(if sd B k d=0 then bC B k l else bC B k r)
    rw[f k]
    by_cases ek:k=key
    ·subst ek;rw[if_pos e2,if_pos rfl,if_pos rfl]
    ·rw[if_neg ek,if_neg ek]
   ·rw[if_neg e2]
    have lt:=@gb B key d
    obtain⟨w,f⟩:=jq (x:=x) hk (by omega) hr (by rw[cF h2,e];omega)
    refine⟨⟨h1,h2,h3,hl,w⟩,fun k=>?_⟩
    show(if sd B k d=0 then bC B k l else bC B k (cm B key x r))=if k=key then some x else(if sd B k d=0 then bC B k l else bC B k r)
    rw[f k]
    by_cases ek:k=key
    ·subst ek;rw[if_neg e2,if_pos rfl,if_pos rfl]
    ·rw[if_neg ek,if_neg ek]
  ·rw[if_neg e]
   have all:∀p∈bo (Kn.fork d b l r),st B p.1 d=b/\p.1<2^B:=fun p hp=>⟨(Ml.mp hp).elim (fun z=>(hf.left p z).1) fun z=>(hf.right p z).1,(hf.mem h0 p hp).1⟩
   obtain⟨p0,hp0⟩:=WF.ne (d0:=0) (b0:=0) hf
   have stlt:∀k,k<2^B->st B k d<2^d:=fun k hk=>by
    unfold st
    rw[NB (MN _),<-Nr,show d+(B- d)=B by omega]
    exact hk
   have hbl:b<2^d:=by rw[<-(all p0 hp0).1];exact stlt _ (all p0 hp0).2
   obtain⟨a1,a2,a3⟩:=mW hbl (stlt key hk) (KP e)
   generalize al d b (st B key d)=a at a1 a2 a3⊢
   have pp:∀k,st d (st B k d) a=st B k a:=fun k=>by
    unfold st
    rw[MQ,<-Nr,show B- d+(d- a)=B- a by omega]
   have ps:∀k,sd d (st B k d) a=sd B k a:=fun k=>by
    unfold sd st
    rw[MQ,<-Nr,show B- d+(d- 1- a)=B- 1- a by omega]
   have ea:∀p∈bo (Kn.fork d b l r),st B p.1 a=st B key a/\sd B p.1 a≠sd B key a:=fun p hp=>by
    have q:=(all p hp).1
    rw[<-pp p.1,<-pp key,<-ps p.1,<-ps key,q]
    exact⟨a2,a3⟩
   refine oC hf hk (by omega) ?_ hb ea fun e' _ _ _ z=>by cases z;exact a1
   apply Ma
   intro hn
   apply(ea p0 hp0).2
   have q:st B p0.1 (a+1)=st B key (a+1):=nC (by omega) h0 (by rw[hb,(hf.mem h0 p0 hp0).2])
   rw[cF (by omega),cF (by omega),(ea p0 hp0).1]at q
   omega
end
end Rs
namespace L2
open PySem PySem.Spec PyProof.Rows
theorem cU {σ:St}{b:Addr}:∀(cs:List (Nat×Addr))(H:Hp),(∀p∈cs,p.2≠b)->bW cs σ H b=H b
 |[],H,_=>rfl
 |(i,c)::r,H,h=>by
  have hr:∀p∈r,p.2≠b:=fun p hp=>h p (Lb _ hp)
  have hc:c≠b:=h (i,c) Lj
  unfold bW
  rcases hσ:σ[i]? with _|_|v
  ·exact cU r _ hr
  ·exact cU r _ hr
  ·show bW r σ (upd H c (bH c v)) b=H b
   rw[cU r _ hr,am (KP hc)]
section
variable {P:Lf}{w:LA}{H:Hp}{cs:List Addr}{cvs:List V}
theorem CR.back2 {outer:List Env}{s s':Dc}{Q:VK}{E:XK}{r:PN}(hc:cf H cs cvs)(hfs:∀b∈frs outer,H b=none)(ok:HOk P w H s.heap)
  (h:CR (CX1 P w) outer P w (bM cs H) s (fun v H'=>(∀c∈cs,H' c=none)->Q v (bG cs H H')) (fun c a H'=>E c a (bG cs H H')) r s'):CR (CX1 P w) outer P w H s Q E r s':=by
 cases r with
 |error e=>
  have h2:CR (CX1 P w) outer P w (bM cs H) s (fun v H'=>Q v (bG cs H H')) (fun c a H'=>E c a (bG cs H H')) (.error e) s':=h
  exact CR.back hc hfs ok h2
 |ok fl=>
  cases fl with
  |ret u=>
   obtain⟨v,H',os,bare,un,hok,rv,q⟩:=h
   obtain⟨u',k⟩:=kH hc hfs ok un hok
   refine⟨v,_,os,bare,u',k,rv,q fun c hm=>?_⟩
   obtain⟨v,ev⟩:=hc.mem c hm
   obtain⟨_,⟨o,eo⟩,_⟩:=(show bh P w H s.heap c (bH c v)from ok c _ ev)
   exact un.free c o eo (eG hm) (by simp)
  |next=>exact Lh h
  |brk=>exact Lh h
  |cont=>exact Lh h
end
structure fc (P:Lf)(w:LA)(K:cW)(mg:Str->Option pv)(base:Heap)(k:Nat)(t:cD)(sp:Sp):Prop where
 run:∀(A:LC)(outer:List Env)(s:Dc)(H:Hp)(f:Addr)(cs:List Addr)(us:List pv)(vs cvs:List V)(Q:VK)(E:XK),be k A->fU P w K mg base A outer s H->dj H f t cs cvs->aU vs us->vs.length=t.ps.length->
  sp (vs++cvs) (bM cs H) (fun v H'=>(∀c∈cs,H' c=none)->Q v (bG cs H H')) (fun c a H'=>E c a (bG cs H H'))->codeAny (model P w) A (.call (.ref f) ⟨us,[]⟩) (CR (CX1 P w) outer P w H s Q E) s
section
variable {P:Lf}{w:LA}{K:cW}{mg:Str->Option pv}{base:Heap}{k m:Nat}{t:cD}{N:List Str}{sp:Sp}
theorem fc.mono (h:fc P w K mg base k t sp)(hk:k<=m):fc P w K mg base m t sp:=⟨fun A outer s H f cs us vs cvs Q E hr=>h.run A outer s H f cs us vs cvs Q E (hr.mono hk)⟩
end
def sE (ks:et)(f:Addr)(vs:List V)(H:Hp)(Q:VK)(E:XK):Prop:=∃ts∈ks,∃cs cvs,dj H f ts.1 cs cvs/\vs.length=ts.1.ps.length/\ts.2 (vs++cvs) (bM cs H) (fun v H'=>(∀c∈cs,H' c=none)->Q v (bG cs H H')) (fun c a H'=>E c a (bG cs H H'))
def fA (ks:et)(C:Addr)(m:Str)(E:St->XK)(ta:TE)(t:TA):TE:=fun σ H Q=>ta σ H fun x H1=>∃a dx fs f,x=.ref a/\H1 a=some (.ins C dx fs)/\fs.lookup m=some (.ref f)/\(∃ts∈ks,∃cs cvs,dj H1 f ts.1 cs cvs)/\t σ H1 fun vs H2=>sE ks f vs H2 Q (E σ)
def nU (P:Lf)(w:LA)(K:cW)(mg:Str->Option pv)(base:Heap)(k:Nat)(ks:et):Prop:=∀ts∈ks,fc P w K mg base k ts.1 ts.2
section
variable {X:Cx}{k:Nat}{C:Addr}{E:St->XK}{m:Str}{pos apos:Pos}{e o:Expr}{es:List Expr}{ta:TE}{t:TA}
theorem fQ {pl:Sem Bool}{ks:et}(hk:nU X.prog X.w X.K X.mg X.base k ks)(hr:be k X.A)(hx:dH (CX1 X.prog X.w) X E)(he:QE X o ta)(c:Cls X.K C)(n:aV X.K C m)(ha:QA X (e::es) t)
  (hs:bc (e::es)=true:=by rfl)
  (ht:eval (.Call (.Attribute o m apos) (e::es) [] pos) X.env=(do
   let ov<-eval o X.env
   standAt apos.atName
   let (f,first)<-holding [ov] (getMethod ov m pl)
   callWith pos f first (backTo pos (starEach (e::es) X.env)) (backToKw pos (keywordEach [] X.env))):=by rfl):
  QE X (.Call (.Attribute o m apos) (e::es) [] pos) (fA ks C m E ta t):=⟨fun pins s σ H Q I h=>by
 have h':(bT e&&bc es)=true:=hs
 refine MP (pl:=pl) (thn (he.out pins s σ H _ I h) fun u s1 ⟨x,H1,I1,rx,a,dx,fs,f,ex,ea,l,⟨ts,hts,cs,cvs,ca⟩,q⟩=>?_) ht
 subst ex
 obtain rfl:u=Lo a:=rx
 refine jO I1 ea c n l fun w s2 I2 rw2=>?_
 obtain rfl:w=Lo f:=rw2
 refine Pt (gx I2.hok ca) (thn (ha.out pos pins s2 σ H1 _ I2 q) fun us s3 ⟨vs,H2,I3,rv,ts2,hm2,cs2,cvs2,ca2,hl,hsp⟩=>⟨gx I3.hok ca2,?_⟩)
  (ba (tx.mp h').1 es X.env) (bO (tx.mp h').2)
 refine Nu (Mr ((hk ts2 hm2).run X.A X.stack s3 H2 f cs2 us vs cvs2 Q (E σ) hr I3.env0 ca2 rv hl hsp) fun r s' hq=>?_)
 cases r with
 |error e=>exact hx pins σ H2 s3 e s' I3 hq
 |ok fl=>
  cases fl with
  |ret u=>exact I3.after hq
  |next=>exact Lh hq
  |brk=>exact Lh hq
  |cont=>exact Lh hq⟩
end
section
variable {X:Cx}{pins:List (Addr×Obj)}{σ:St}{H H':Hp}{s s':Dc}{cs:List (Nat×Addr)}
structure Lcs (X:Cx)(cs:List (Nat×Addr)):Prop where
 ex:X.ex=[]
 nd:(cs.map (·.2)).Nodup
 at':∀p∈cs,∃y,X.N[p.1]?=some y/\X.fn y=true/\X.env.scope.names.lookup y=some .cell/\X.env.cells.lookup y=some p.2
theorem yQ (I:Inv X pins σ H s)(C:Lcs X cs):Un X.fs [] X.H₀ (bW cs σ H) X.s₀.heap s.heap/\HOk X.prog X.w (bW cs σ H) s.heap:=by
 have b:=I.base
 rw[C.ex]at b
 refine gH (σ:=σ) cs H C.nd (fun p hp=>?_) b I.hok
 obtain⟨y,hy,hf,hk,hc⟩:=C.at' p hp
 refine⟨I.freeC y p.2 hc,I.ok.cab y p.2 hf hc,fun v hv=>?_⟩
 obtain⟨m,_,hloc⟩:=I.loc
 obtain⟨u',r',lk'⟩:=hloc p.1 y v hy hv (.inr (.inl hk))
 rcases lk' with⟨z,_⟩|⟨_,c,ec,o,eo,hd⟩
 ·have z:X.env.scope.names.lookup y=some .local:=z
  rw[hk]at z;cases z
 ·rw[hc]at ec;cases ec
  exact⟨u',o,r',eo,hd⟩
theorem Lcs.notin (C:Lcs X cs)(I:Inv X pins σ H s){b:Addr}{o:Obj}(e:s.heap.get? b=some o)(hd:∀v,o.data≠.cell v):∀p∈cs,p.2≠b:=fun p hp z=>by
 obtain⟨y,_,_,_,hc⟩:=C.at' p hp
 obtain⟨v,o',e',d'⟩:=I.cell y p.2 hc
 rw[z,e]at e';cases e'
 exact hd v d'
theorem tw (I:Inv X pins σ H s)(C:Lcs X cs):fU X.prog X.w X.K X.mg X.base X.A X.stack s (bW cs σ H):=by
 obtain⟨un,ok⟩:=yQ I C
 have ev:=I.env0
 have old:∀b o,X.s₀.heap.get? b=some o->∀p∈cs,p.2≠b:=fun b o e p hp z=>by
  obtain⟨y,_,hf,_,hc⟩:=C.at' p hp
  have:=I.ok.cab y p.2 hf hc
  rw[z]at this
  exact absurd (KS (KQ e) this) (Mo _)
 refine⟨ev.frames,ev.mod,fun b o eb=>⟨(ev.bs b o eb).1,?_⟩,ev.bsz,ev.funs,fun b hb=>?_,ok,ev.bare⟩
 ·rw[cU _ _ (old b o (I.ok.bs b o eb).1)];exact(ev.bs b o eb).2
 ·rcases If.mp (I.stkSub b hb)with z|z
  ·obtain⟨m,⟨o,es,ep,ho,r⟩,_⟩:=I.loc
   rw[z,cU _ _ (C.notin I ho fun v z=>by rw[r.1]at z;cases z)];exact I.free
  ·obtain⟨_,o,ho,_⟩:=I.ok.funs.mem z
   rw[cU _ _ (old b o ho)];exact ev.frf b hb
theorem Inv.live (I:Inv X pins σ H s)(C:Lcs X cs)(hN:X.N.Nodup)(os:s'.os=s.os)(bare:Nz s'.gens)(u:Un (frs X.stack) [] (bW cs σ H) H' s.heap s'.heap)(hok:HOk X.prog X.w H' s'.heap)(st:∀p∈cs,∃v,σ[p.1]? =some (some v)/\H' p.2=some (bH p.2 v)):Inv X pins σ (bM (cs.map (·.2)) H') s':=by
 have out:∀{b:Addr},(∀p∈cs,p.2≠b)->b∉cs.map (·.2):=fun h z=>by
  obtain⟨p,hp,e⟩:=Mc.mp z
  exact h p hp e
 have tk:∀{b:Addr},(∀p∈cs,p.2≠b)->bW cs σ H b=H b:=fun h=>cU _ _ h
 have fr:∀b o,s.heap.get? b=some o->H b=none->bM (cs.map (·.2)) H' b=none:=fun b o e n=>by
  by_cases hb:b∈cs.map (·.2)
  ·exact eG hb
  ·rw[bS hb]
   exact u.free b o e (by rw[tk fun p hp z=>hb (Mc.mpr ⟨p,hp,z⟩)];exact n) (by simp)
 have ks:∀b o,(∀p∈cs,p.2≠b)->b≠X.env.locals->b∉X.fs->s.heap.get? b=some o->H b=none->s'.heap.get? b=some o:=fun b o h hL hb e n=>u.keep b o e (by rw[tk h];exact n) (fun z=>(If.mp (I.stkSub b z)).elim hL hb) (by simp)
 have sl:∀b o,(∀p∈cs,p.2≠b)->s.heap.get? b=some o->H b=none->∃q,s'.heap.get? b=some {o with slots:=q}:=fun b o h e n=>u.any e (by rw[tk h];exact n) (by simp)
 have some':∀b o,H b=some o->∀p∈cs,p.2≠b:=fun b o e p hp z=>by
  obtain⟨y,_,_,_,hc⟩:=C.at' p hp
  have:=I.freeC y p.2 hc
  rw[z,e]at this;cases this
 have neL:∀b o,X.s₀.heap.get? b=some o->b≠X.env.locals:=fun b o e=>Ld (KS (KQ e) I.ok.above)
 have old:∀b o,X.s₀.heap.get? b=some o->∀p∈cs,p.2≠b:=fun b o e p hp z=>by
  obtain⟨y,_,hf,_,hc⟩:=C.at' p hp
  have:=I.ok.cab y p.2 hf hc
  rw[z]at this
  exact absurd (KS (KQ e) this) (Mo _)
 obtain⟨m,⟨oL,es,ep,hoL,rL⟩,hl⟩:=id I.loc
 have nL:=C.notin I hoL fun v z=>by rw[rL.1]at z;cases z
 obtain⟨qL,hL'⟩:=sl _ oL nL hoL I.free
 have cellK:∀x c,X.env.cells.lookup x=some c->(∀p∈cs,p.2≠c)->∀v,s.heap.IsCell c v->s'.heap.IsCell c v:=fun x c e h v ⟨o,ho,hd⟩=>by
  obtain⟨q,e'⟩:=sl c o h ho (I.freeC x c e)
  exact⟨_,e',hd⟩
 have cellS:∀p∈cs,∃v w,σ[p.1]? =some (some v)/\aM v w/\s'.heap.IsCell p.2 (some w):=fun p hp=>by
  obtain⟨v,hv,e⟩:=st p hp
  obtain⟨w,o,r,eo,hd⟩:=(hok p.2 _ e).1
  exact⟨v,w,hv,r,o,eo,hd⟩
 refine⟨I.ok,os.trans I.os,bare,⟨fun b o e n hb hx=>?_,fun b o e n hb hx=>?_,fun b o e n hx=>?_,fun b o e hx=>?_,fun b xs e=>?_,fun b o xs e=>?_,fun b ps e=>?_⟩,⟨m,⟨_,es,ep,hL',rL⟩,fun i x v e1 e2 e3=>?_⟩,fun x c e=>?_,fr _ oL hoL I.free,fun x c e=>?_,fun p hp=>?_,?_,I.len⟩
 ·exact ks b o (old b o e) (neL b o e) hb (I.base.keep b o e n hb hx) (I.base.free b o e n hx)
 ·obtain⟨q1,e1⟩:=I.base.slot b o e n hb hx
  obtain⟨q2,e2⟩:=sl b _ (old b o e) e1 (I.base.free b o e n hx)
  exact⟨q2,e2⟩
 ·obtain⟨o',e1⟩:=I.base.there b o e hx
  exact fr b o' e1 (I.base.free b o e n hx)
 ·obtain⟨o',e1⟩:=I.base.there b o e hx
  exact u.there b o' e1 (by simp)
 ·have e1:=I.base.tups b xs e
  have h:=some' b _ e1
  rw[bS (out h)];exact u.tups b xs (by rw[tk h];exact e1)
 ·have e1:=I.base.frzs b o xs e
  have h:=some' b _ e1
  rw[bS (out h)];exact u.frzs b o xs (by rw[tk h];exact e1)
 ·obtain⟨m1,e1⟩:=I.base.tbls b ps e
  have h:=some' b _ e1
  obtain⟨m2,e2⟩:=u.tbls b _ (by rw[tk h];exact e1)
  exact⟨m1++m2,by rw[bS (out h),e2,Po]⟩
 ·obtain⟨w,r,lk⟩:=hl i x v e1 e2 e3
  rcases lk with lk|⟨k,c,e,z⟩
  ·exact⟨w,r,.inl lk⟩
  ·by_cases hc:∃p∈cs,p.2=c
   ·obtain⟨p,hp,rfl⟩:=hc
    obtain⟨y,hy,_,_,hcy⟩:=C.at' p hp
    have exy:=I.ok.inj x y p.2 e hcy
    subst exy
    obtain⟨v',w',hv',r',ic⟩:=cellS p hp
    have ei:=jc hN e1 hy
    subst ei
    rw[e2]at hv'
    have ev:=KN (KN hv')
    subst ev
    exact⟨w',r',.inr ⟨k,p.2,e,ic⟩⟩
   ·exact⟨w,r,.inr ⟨k,c,e,cellK x c e (fun p hp z=>hc ⟨p,hp,z⟩) _ z⟩⟩
 ·by_cases hc:∃p∈cs,p.2=c
  ·obtain⟨p,hp,rfl⟩:=hc
   obtain⟨v',w',_,_,ic⟩:=cellS p hp
   exact⟨_,ic⟩
  ·obtain⟨v,z⟩:=I.cell x c e
   exact⟨v,cellK x c e (fun p hp z=>hc ⟨p,hp,z⟩) v z⟩
 ·obtain⟨v,o,ho,hd⟩:=I.cell x c e
  exact fr c o ho (I.freeC x c e)
 ·obtain⟨e,n,ne,nf,d⟩:=I.pin p hp
  have h:=C.notin I e d
  exact⟨ks p.1 p.2 h ne nf e n,fr p.1 p.2 e n,ne,nf,d⟩
 ·have ca:∀l:List (Nat×Addr),(∀p∈l,∃v,σ[p.1]? =some (some v)/\H' p.2=some (bH p.2 v))->∃cvs,cf H' (l.map (·.2)) cvs:=fun l=>by
   induction l with
   |nil=>intro _;exact⟨[],.nil⟩
   |cons p r ih=>
    intro h
    obtain⟨cvs,t⟩:=ih fun q hq=>h q (Lb _ hq)
    obtain⟨v,_,e⟩:=h p Lj
    exact⟨v::cvs,.cons e t⟩
  obtain⟨cvs,c⟩:=ca cs st
  exact pj c hok
def spL (cs:List (Nat×Addr))(sp:Sp)(vs:List V)(σ:St)(H:Hp)(Q:VK):Prop:=(∀p∈cs,∃v,σ[p.1]?=some (some v))/\((∀p∈cs,H p.2=none)->sp vs (bW cs σ H) (fun v H2=>(∀p∈cs,∀w,σ[p.1]?=some (some w)->H2 p.2=some (bH p.2 w))/\Q v (bM (cs.map (·.2)) H2)) E0)
theorem tP {k:Nat}{f:Addr}{fd:Gt}{ps:List Str}{sp:Sp}{P:Lf}{w:LA}{Q:VK}{us:List pv}{vs:List V}(F:aA X.prog X.w X.K X.mg X.base (CX1 P w) k f fd ps sp)(hr:be k X.A)(hb:aF X.K fd ps [])(C:Lcs X cs)(hN:X.N.Nodup)
  (I:Inv X pins σ H s)(r:aU vs us)(h:spL cs sp vs σ H Q):wpAny (model X.prog X.w) X.A (call (.ref f) us) (EP X pins σ Q) X.xe s:=by
 have h2:=h.2 fun p hp=>by
  obtain⟨y,_,_,_,hc⟩:=C.at' p hp
  exact I.freeC y p.2 hc
 have hl:us.length=ps.length:=by rw[<-r.length];exact F.len _ _ _ _ h2
 have hb2:=hb s us I.kIn (by rw[LX];exact hl)
 rw[LX]at hb2
 refine Nu (Mr (F.run X.A X.stack s _ ⟨us,[]⟩ us vs _ E0 hr (tw I C) hb2 r h2) fun rr s' hq=>?_)
 cases rr with
 |error e=>obtain⟨_,_,_,_,_,_,z⟩:=hq;exact z.elim
 |ok fl=>
  cases fl with
  |ret u=>
   obtain⟨v,H',os,bare,un,hok,rv,st,qv⟩:=hq
   exact⟨v,_,I.live C hN os bare un hok (fun p hp=>by obtain⟨w,hw⟩:=h.1 p hp;exact⟨w,hw,st p hp w hw⟩),rv,qv⟩
  |next=>exact Lh hq
  |brk=>exact Lh hq
  |cont=>exact Lh hq
def rP (cs:List (Nat×Addr))(sp:Sp)(t:TA):TE:=fun σ H Q=>t σ H fun vs H1=>spL cs sp vs σ H1 Q
theorem HE {k:Nat}{f:Addr}{fd:Gt}{ps:List Str}{sp:Sp}{P:Lf}{w:LA}{x q:Str}{stm:Stmt}{e:Expr}{es:List Expr}{t:TA}{p pos:Pos}(F:aA X.prog X.w X.K X.mg X.base (CX1 P w) k f fd ps sp)(hr:be k X.A)(M:Fm X.K X.mg x q stm f fd ps)(C:Lcs X cs)(hN:X.N.Nodup)
  (ha:QA X (e::es) t)(hg:Gl X x:=by rfl)(hdb:(x==("__debug__":Str))=false:=by decide)(hs:bc (e::es)=true:=by rfl):QE X (.Call (.Name x p) (e::es) [] pos) (rP cs sp t):=by
 refine⟨fun pins s σ H Q I h=>?_⟩
 have h':(bT e&&bc es)=true:=hs
 refine LP (eV I hg M.m ?_ hdb)
 refine Nn (h₀:=X.base) I.ok.mod.kin M.f.kp (thn (ha.out pos pins s σ H _ I h) fun us s1 ⟨vs,H1,I1,r,q⟩=>⟨I1.kIn,?_⟩) (ba (tx.mp h').1 es X.env) (bO (tx.mp h').2)
 exact tP F hr M.b C hN I1 r q
end
structure Mk0 (K:cW)(C:Addr):Prop where
 makes:Mt K C=true
 init:KI K (.ref C) "__init__"=some (some (.builtin "object.__init__"))
 kp:Mg K (.ref C)=true
def sA (C:Addr):TE:=fun _ H Q=>∀x dx,H x=none->H dx=none->dx≠x->Q (.ref x) (upd (upd H dx (.own x)) x (.ins C dx []))
section
variable {X:Cx}{C:Addr}{x:Str}{p pos:Pos}
theorem ye (M:Mk0 X.K C)(hm:X.mg x=some (.ref C))(hg:Gl X x:=by rfl)(hdb:(x==("__debug__":Str))=false:=by decide):QE X (.Call (.Name x p) [] [] pos) (sA C):=⟨fun pins s σ H Q I h=>by
 refine LP (eV I hg hm ?_ hdb)
 refine NX I.kIn M.kp ?_
 have hq:=h (s.heap.objs.size+1) s.heap.objs.size (I.hok.fresh (NO _)) (I.hok.fresh (gV _)) (Ld (Om _))
 have I2:=Inv.made (C:=C) I
 have Y:=Qh (M:=model X.prog X.w) I.kIn M.makes
 refine Nu (rM I.kIn M.makes M.init (fun self=>W.Looks.of_pure (W.oi_bind self)) ?_)
 have e2:((s.heap.push LV).push (Mu C s.heap.objs.size)).get? (s.heap.objs.size+1)=some (Mu C s.heap.objs.size):=by
  have:=Lg (s.heap.push LV) (o:=Mu C s.heap.objs.size) rfl
  rwa [OD]at this
 have t1:W.Looks (model X.prog X.w) ((s.heap.push LV).push (Mu C s.heap.objs.size)) (typeOf (.ref (s.heap.objs.size+1))) (.ref C):=(W.Looks.ld e2).andThen .now
 have t2:W.Looks (model X.prog X.w) ((s.heap.push LV).push (Mu C s.heap.objs.size)) (isInstance (.ref (s.heap.objs.size+1)) (.type "object")) true:=t1.andThen (Y.top.keeps fun b o e=>wr _ (wr _ e))
 refine codeAny_call_builtin W.oi_plain W.entry_oi (@W.check_slot (model X.prog X.w) _ _ _ "object.__init__" "object" "__init__" (.ref (s.heap.objs.size+1)) [] [] _ W.oi_kind W.oi_split t2 (W.oi_args (.ref (s.heap.objs.size+1))) ?_)
 rw[W.oi_run]
 exact La (And.intro rfl ⟨V.ref (s.heap.objs.size+1),_,I2,rfl,hq⟩)⟩
end
section
variable {P:Lf}{w:LA}{K:cW}{mg:Str->Option pv}{base:Heap}{k:Nat}{t:cD}{N:List Str}{sp:Sp}
theorem jd {body:Expr}(hb:t.body=.expr body)(S:eE N t.ps t.ys t.scope)
  (hbody:∀(f c:Addr)(cl:List (Str×Addr))(A:LC)(outer:List Env)(s:Dc)(H:Hp)(vs cvs:List V)(Q:VK)(E:XK),be k (A.deeper (NE t.qual t.scope s.heap.objs.size f (.ref c) cl))->vs.length=t.ps.length->cvs.length=t.ys.length->sp (vs++cvs) H Q E->
   ∃te,PE (fY P w K mg base N t.qual t.scope f c cl A outer s H E) body te/\te (dO N vs cvs) H Q):fc P w K mg base (k+1) t sp:=by
 refine⟨fun A outer s H f cs us vs cvs Q E hr e0 ca r hl hsp=>?_⟩
 obtain⟨c,hf,hcc⟩:=ca.ex
 have KX:K.In s.heap:=e0.mod.kin.keeps fun b o e=>(e0.bs b o e).1
 have lim:s.heap.NoLimit:=e0.mod.nolimit.keeps fun b o e=>(e0.bs b o e).1
 obtain⟨⟨od,fd,sl,ho,h1,h2,h3,h4,h5,h6,h7,h8,h9,h10⟩,_,_⟩:=(show bh P w H s.heap f (dG f t cs c)from e0.hok f _ hf)
 obtain⟨⟨o,vs',tk,hco,hdo,hv⟩,_,_⟩:=(show bh P w H s.heap c (dm c t.qual)from e0.hok c _ hcc)
 have hcd:s.heap.CodeRec fd.code fd.qualname:=⟨c,o,vs',tk,h6,hco,hdo,by rw[h1];exact hv⟩
 refine Mr (W.kla_callFunE (R:=CR (CX1 P w) outer P w (bM cs H) s (fun v H'=>(∀c∈cs,H' c=none)->Q v (bG cs H H')) (fun c a H'=>E c a (bG cs H H'))) hr.depth ho rfl (by rw[h3];exact S.co) (by rw[h3];exact S.gen) (h2.trans hb) hcd ?_) fun r s' h=>CR.back2 ca.cells e0.frf e0.hok h
 rw[h8 us (by rw[<-r.length];exact hl),h3,h4,h5,h1,h6,h7]
 refine La (NT S.nocell (fun y hy=>S.par y.1 (Mx hy).1) (fun h' hns hsb=>⟨lim.fresh _ hsb,?_⟩) S.kind)
 have hk:∀b o,s.heap.get? b=some o->h'.get? b=some o:=fun b o e=>hsb.extBut b o (Ld (KQ e)) (wr _ e)
 have lcv:cvs.length=t.ys.length:=by rw[<-h10];exact(Paired.length ca.cells).symm
 obtain⟨te,ht,hq⟩:=hbody f c (t.ys.zip cs) A outer s (bM cs H) vs cvs _ _ (hr.deeper _) hl lcv hsp
 have I:=pe (tk:=s.toks+(t.ps.zip us).length) (qual:=t.qual) (f:=f) (c:=c) (E:=fun c a H'=>E c a (bG cs H H')) S hr.hd e0 ca.cells h9 h10 hl r hns hk
 show codeAny _ _ (.expr body (NE t.qual t.scope s.heap.objs.size f (.ref c) (t.ys.zip cs))) _ _
 refine W.kla_codeExpr ?_
 refine Lk (ht [] _ (dO N vs cvs) _ _ I hq) (fun v s' hs=>?_) fun e s' hs=>hs
 obtain⟨x,H',J,rv,q⟩:=hs
 exact⟨x,H',J.os,J.bare,J.base,J.hok,rv,q⟩
end
end L2
namespace Rs
open PySem PySem.Spec PyProof.Rows L2
abbrev gOp:=List Key->Option Key
def aR (s:Stmt)(j:Nat):Stmt:=match s with
 |.ClassDef _ _ _ b _ _ _ _ _ _ _=>b.getD j (.Pass ⟨0,0,0,0⟩)
 |_=>.Pass ⟨0,0,0,0⟩
def top (i:Nat):Stmt:=PySem.Challenge.pw_rootstamp_k56_no_answers.main.body.getD i (.Pass ⟨0,0,0,0⟩)
abbrev uM:Stmt:=top 13
abbrev tQ:Stmt:=top 14
abbrev vD:Stmt:=top 15
abbrev uZ:Stmt:=aR (top 61) 1
abbrev uJ:Stmt:=top 64
abbrev vN:Stmt:=top 19
abbrev uo:Stmt:=aR (top 39) 0
abbrev s_0:Stmt:=aR (top 40) 0
abbrev vL:Stmt:=aR (top 53) 0
abbrev uX:Stmt:=aR (top 37) 0
abbrev vn:Stmt:=top 29
abbrev vP:Stmt:=top 35
abbrev ux:Stmt:=top 36
abbrev vF:Stmt:=aR (top 59) 1
abbrev wu:Stmt:=top 33
abbrev vK:Stmt:=top 34
abbrev tB:Stmt:=aR (top 57) 0
abbrev ut:Stmt:=aR (top 61) 0
abbrev jp:Stmt:=top 62
abbrev uV:Stmt:=aR (top 59) 0
abbrev uu:Stmt:=top 20
abbrev s_1:Stmt:=aR (top 40) 1
abbrev vf:Stmt:=aR (top 41) 1
abbrev tO:Stmt:=top 22
abbrev s_8:Stmt:=aR (top 42) 2
abbrev s_6:Stmt:=aR (top 42) 4
abbrev vg:Stmt:=aR (top 53) 3
abbrev wn:Stmt:=top 21
abbrev uO:Stmt:=aR (top 41) 0
abbrev s_2:Stmt:=aR (top 40) 3
abbrev vZ:Stmt:=top 23
abbrev s_3:Stmt:=aR (top 42) 0
abbrev uK:Stmt:=top 43
abbrev vW:Stmt:=top 24
abbrev wv:Stmt:=aR (top 41) 3
abbrev s_7:Stmt:=aR (top 42) 1
abbrev s_5:Stmt:=aR (top 42) 8
abbrev s_9:Stmt:=aR (top 42) 6
abbrev vI:Stmt:=aR (top 53) 1
abbrev vC:Stmt:=aR (top 57) 1
abbrev vb:Stmt:=top 65
abbrev vS:Stmt:=aR (top 37) 1
abbrev vv:Stmt:=aR (top 53) 6
abbrev vY:Stmt:=aR (top 53) 7
abbrev sX:Stmt:=aR (top 37) 2
abbrev tG:Stmt:=top 31
abbrev uN:Stmt:=aR (top 37) 4
abbrev ub:Stmt:=top 27
abbrev vj:Stmt:=aR (top 37) 11
abbrev wJ:Stmt:=aR (top 37) 10
abbrev uR:Stmt:=aR (top 37) 6
abbrev vX:Stmt:=aR (top 57) 5
abbrev uD:Stmt:=aR (top 57) 3
abbrev uF:Stmt:=aR (top 56) 0
abbrev tV:Stmt:=top 68
abbrev vr:Stmt:=top 66
abbrev tU:Stmt:=top 69
abbrev vt:Stmt:=aR (top 55) 1
abbrev sZ:Stmt:=aR (top 56) 2
abbrev sY:Stmt:=aR (top 37) 9
abbrev vh:Stmt:=aR (top 37) 8
abbrev tu:Stmt:=aR (top 57) 6
abbrev wy:Stmt:=aR (top 55) 2
abbrev vM:Stmt:=aR (top 56) 3
abbrev tW:Stmt:=top 30
abbrev uL:Stmt:=aR (top 37) 3
abbrev uW:Stmt:=top 28
abbrev wj:Stmt:=aR (top 37) 7
abbrev vy:Stmt:=aR (top 57) 7
abbrev vQ:Stmt:=aR (top 55) 3
abbrev tT:Stmt:=aR (top 56) 4
abbrev s_4:Stmt:=aR (top 42) 3
abbrev vw:Stmt:=top 45
abbrev ve:Stmt:=aR (top 57) 8
abbrev we:Stmt:=aR (top 55) 4
abbrev ul:Stmt:=aR (top 56) 5
abbrev vO:Stmt:=top 48
abbrev uI:Stmt:=top 47
abbrev vE:Stmt:=top 25
abbrev vd:Stmt:=top 49
abbrev uh:Stmt:=top 51
abbrev wD:Stmt:=top 50
abbrev vJ:Stmt:=aR (top 57) 9
abbrev tK:Stmt:=top 67
abbrev wm:Stmt:=aR (top 55) 0
abbrev vk:Stmt:=aR (top 56) 1
abbrev tY:Stmt:=top 70
abbrev gZ:Stmt:=top 71
def sAt (i:Nat)(l:List Stmt):Stmt:=l.getD i (.Pass ⟨0,0,0,0⟩)
def HB:Stmt->Expr|.If c _ _ _=>c|_=>.Constant .none 0 ⟨0,0,0,0⟩
def uq:Stmt->Expr|.Return (some e) _=>e|.Assign _ e _=>e|.Expr e _=>e|_=>.Constant .none 0 ⟨0,0,0,0⟩
def pQ (i:Nat):Expr->Expr|.Call _ l _ _=>l.getD i (.Constant .none 0 ⟨0,0,0,0⟩)|e=>e
def Ii (i:Nat):Expr->Expr|.BoolOp _ l _=>l.getD i (.Constant .none 0 ⟨0,0,0,0⟩)|e=>e
def Kp:Expr->Expr|.UnaryOp _ o _=>o|e=>e
def eK:Expr->Expr|.Lambda _ b _ _=>b|e=>e
def gR:Expr->Scope|.Lambda _ _ sc _=>sc|_=>{kind:=.function,names:=[],isGenerator:=false,isCoroutine:=false}
abbrev wx:Expr:=(uq (sAt 1 (bi jp)))
def dN:cD:=⟨(("counting":Str)++".<locals>.")++"<lambda>",.expr (eK wx),gR wx,["term"],["numbers"]⟩
abbrev vi:Expr:=(pQ 0 (pQ 0 (Kp (Ii 1 (HB (sAt 5 (bi gZ)))))))
def fb:cD:=⟨(("law":Str)++".<locals>.")++"<lambda>",.expr (eK vi),gR vi,["_law_question"],[]⟩
abbrev tX:Expr:=(pQ 0 (uq (sAt 9 (bi gZ))))
def dD:cD:=⟨(("law":Str)++".<locals>.")++"<lambda>",.expr (eK tX),gR tX,["_law_question"],["_law_gift"]⟩
abbrev wb:Expr:=(pQ 0 (uq (sAt 10 (bi gZ))))
def eD:cD:=⟨(("law":Str)++".<locals>.")++"<lambda>",.expr (eK wb),gR wb,["_law_asked_here"],["_law_other"]⟩
set_option genInjectivity false in
set_option genSizeOf false in
abbrev Rd (sp:Sp)(t:TS)(N:List Str):Prop:=∀(vs:List V)(H:Hp)(Q:VK)(E:XK),sp vs H Q E->t {nx:=fun _ H'=>Q .non H',rt:=Q} (L2.bV N vs) H
abbrev Ln (sp:Sp)(n:Nat):Prop:=∀vs H Q E,sp vs H Q E->vs.length=n
structure Adr where
 a_76:Addr
 d_76:Gt
 a_72:Addr
 d_72:Gt
 a_74:Addr
 d_74:Gt
 a_28:Addr
 d_28:Gt
 a_55:Addr
 d_55:Gt
 a_66:Addr
 d_66:Gt
 a_18:Addr
 d_18:Gt
 a_0:Addr
 d_0:Gt
 a_48:Addr
 d_48:Gt
 a_29:Addr
 d_29:Gt
 a_67:Addr
 d_67:Gt
 a_69:Addr
 d_69:Gt
 a_61:Addr
 d_61:Gt
 a_41:Addr
 d_41:Gt
 a_90:Addr
 d_90:Gt
 a_83:Addr
 d_83:Gt
 a_10:Addr
 d_10:Gt
 a_27:Addr
 d_27:Gt
 a_63:Addr
 d_63:Gt
 a_40:Addr
 d_40:Gt
 a_70:Addr
 d_70:Gt
 a_1:Addr
 d_1:Gt
 a_20:Addr
 d_20:Gt
 a_85:Addr
 d_85:Gt
 a_8:Addr
 d_8:Gt
 a_6:Addr
 d_6:Gt
 a_52:Addr
 d_52:Gt
 a_75:Addr
 d_75:Gt
 a_19:Addr
 d_19:Gt
 a_2:Addr
 d_2:Gt
 a_88:Addr
 d_88:Gt
 a_3:Addr
 d_3:Gt
 a_77:Addr
 d_77:Gt
 a_60:Addr
 d_60:Gt
 a_21:Addr
 d_21:Gt
 a_7:Addr
 d_7:Gt
 a_5:Addr
 d_5:Gt
 a_9:Addr
 d_9:Gt
 a_49:Addr
 d_49:Gt
 a_16:Addr
 d_16:Gt
 a_57:Addr
 d_57:Gt
 a_30:Addr
 d_30:Gt
 a_50:Addr
 d_50:Gt
 a_51:Addr
 d_51:Gt
 a_37:Addr
 d_37:Gt
 a_68:Addr
 d_68:Gt
 a_33:Addr
 d_33:Gt
 a_65:Addr
 d_65:Gt
 a_39:Addr
 d_39:Gt
 a_38:Addr
 d_38:Gt
 a_35:Addr
 d_35:Gt
 a_14:Addr
 d_14:Gt
 a_13:Addr
 d_13:Gt
 a_42:Addr
 d_42:Gt
 a_56:Addr
 d_56:Gt
 a_59:Addr
 d_59:Gt
 a_54:Addr
 d_54:Gt
 a_23:Addr
 d_23:Gt
 a_44:Addr
 d_44:Gt
 a_31:Addr
 d_31:Gt
 a_32:Addr
 d_32:Gt
 a_12:Addr
 d_12:Gt
 a_25:Addr
 d_25:Gt
 a_46:Addr
 d_46:Gt
 a_71:Addr
 d_71:Gt
 a_34:Addr
 d_34:Gt
 a_91:Addr
 d_91:Gt
 a_36:Addr
 d_36:Gt
 a_15:Addr
 d_15:Gt
 a_22:Addr
 d_22:Gt
 a_43:Addr
 d_43:Gt
 a_4:Addr
 d_4:Gt
 a_86:Addr
 d_86:Gt
 a_11:Addr
 d_11:Gt
 a_26:Addr
 d_26:Gt
 a_47:Addr
 d_47:Gt
 a_73:Addr
 d_73:Gt
 a_62:Addr
 d_62:Gt
 a_87:Addr
 d_87:Gt
 a_82:Addr
 d_82:Gt
 a_84:Addr
 d_84:Gt
 a_89:Addr
 d_89:Gt
 a_17:Addr
 d_17:Gt
 a_53:Addr
 d_53:Gt
 a_24:Addr
 d_24:Gt
 a_45:Addr
 d_45:Gt
 a_58:Addr
 d_58:Gt
 a_78:Addr
 d_78:Gt
 k_63:Addr
 t_63:Addr
 k_78:Addr
 t_78:Addr
 c_Knot:Addr
 c_Bare:Addr
 c_Seals:Addr
 c_Row:Addr
 c_Table:Addr
 c_Numbers:Addr
 c_Fork:Addr
 c_Leaf:Addr
 c_House:Addr
 c_Spoken:Addr
 c_Line:Addr
set_option genInjectivity false in
set_option genSizeOf false in
structure Txt (K:cW)(mg:Str->Option pv)(A:Adr):Prop where
 f_76:Fm K mg "is_whole" "is_whole" uM A.a_76 A.d_76 ["thing"]
 f_72:Fm K mg "is_stamp" "is_stamp" tQ A.a_72 A.d_72 ["thing"]
 f_74:Fm K mg "is_term" "is_term" vD A.a_74 A.d_74 ["thing"]
 f_28:Fun K "number_of" "Numbers.number_of" uZ A.a_28 A.d_28
 b_28:aF K A.d_28 ["self","term"] []
 f_55:Fm K mg "_law_cell_at" "_law_cell_at" uJ A.a_55 A.d_55 ["_law_script","_law_k"]
 f_66:Fm K mg "is_bits" "is_bits" vN A.a_66 A.d_66 ["thing"]
 f_18:Fun K "__init__" "Knot.__init__" uo A.a_18 A.d_18
 b_18:aF K A.d_18 ["self","stamper","term"] []
 f_0:Fun K "__init__" "Bare.__init__" s_0 A.a_0 A.d_0
 b_0:aF K A.d_0 ["self","stamper"] []
 f_48:Fun K "__init__" "Table.__init__" vL A.a_48 A.d_48
 b_48:aF K A.d_48 ["self","stamper","bits"] []
 f_29:Fun K "__init__" "Row.__init__" uX A.a_29 A.d_29
 b_29:aF K A.d_29 ["self","stamper"] []
 f_67:Fm K mg "is_count" "is_count" vn A.a_67 A.d_67 ["thing"]
 f_69:Fm K mg "is_head" "is_head" vP A.a_69 A.d_69 ["thing"]
 f_61:Fm K mg "check_head" "check_head" ux A.a_61 A.d_61 ["thing"]
 f_41:Fun K "seal" "Seals.seal" vF A.a_41 A.d_41
 b_41:aF K A.d_41 ["self","head"] []
 f_90:Fm K mg "void_terms" "void_terms" wu A.a_90 A.d_90 ["stamper"]
 f_83:Fm K mg "none_head" "none_head" vK A.a_83 A.d_83 ["stamper"]
 f_10:Fun K "__init__" "House.__init__" tB A.a_10 A.d_10
 b_10:aF K A.d_10 ["self","stamper","bits","seals"] []
 f_27:Fun K "__init__" "Numbers.__init__" ut A.a_27 A.d_27
 b_27:aF K A.d_27 ["self"] []
 f_63:Fm K mg "counting" "counting" jp A.a_63 A.d_63 []
 f_40:Fun K "__init__" "Seals.__init__" uV A.a_40 A.d_40
 b_40:aF K A.d_40 ["self"] []
 f_70:Fm K mg "is_key" "is_key" uu A.a_70 A.d_70 ["bits","thing"]
 f_1:Fun K "found" "Bare.found" s_1 A.a_1 A.d_1
 b_1:aF K A.d_1 ["self","bits","key"] []
 f_20:Fun K "found" "Leaf.found" vf A.a_20 A.d_20
 b_20:aF K A.d_20 ["self","bits","key"] []
 f_85:Fm K mg "side" "side" tO A.a_85 A.d_85 ["bits","key","depth"]
 f_8:Fun K "toward" "Fork.toward" s_8 A.a_8 A.d_8
 b_8:aF K A.d_8 ["self","bits","key"] []
 f_6:Fun K "found" "Fork.found" s_6 A.a_6 A.d_6
 b_6:aF K A.d_6 ["self","bits","key"] []
 f_52:Fun K "value_of" "Table.value_of" vg A.a_52 A.d_52
 b_52:aF K A.d_52 ["self","key"] []
 f_75:Fm K mg "is_value" "is_value" wn A.a_75 A.d_75 ["thing"]
 f_19:Fun K "__init__" "Leaf.__init__" uO A.a_19 A.d_19
 b_19:aF K A.d_19 ["self","stamper","key","value"] []
 f_2:Fun K "with_key" "Bare.with_key" s_2 A.a_2 A.d_2
 b_2:aF K A.d_2 ["self","stamper","bits","key","value"] []
 f_88:Fm K mg "start" "start" vZ A.a_88 A.d_88 ["bits","key","depth"]
 f_3:Fun K "__init__" "Fork.__init__" s_3 A.a_3 A.d_3
 b_3:aF K A.d_3 ["self","stamper","depth","begin","left","right"] []
 f_77:Fm K mg "joined" "joined" uK A.a_77 A.d_77 ["stamper","bits","depth","leaf","knot"]
 f_60:Fm K mg "alike" "alike" vW A.a_60 A.d_60 ["bits","one","other"]
 f_21:Fun K "with_key" "Leaf.with_key" wv A.a_21 A.d_21
 b_21:aF K A.d_21 ["self","stamper","bits","key","value"] []
 f_7:Fun K "leads" "Fork.leads" s_7 A.a_7 A.d_7
 b_7:aF K A.d_7 ["self","bits","key"] []
 f_5:Fun K "changed" "Fork.changed" s_5 A.a_5 A.d_5
 b_5:aF K A.d_5 ["self","stamper","bits","key","knot"] []
 f_9:Fun K "with_key" "Fork.with_key" s_9 A.a_9 A.d_9
 b_9:aF K A.d_9 ["self","stamper","bits","key","value"] []
 f_49:Fun K "put" "Table.put" vI A.a_49 A.d_49
 b_49:aF K A.d_49 ["self","key","value"] []
 f_16:Fun K "put" "House.put" vC A.a_16 A.d_16
 b_16:aF K A.d_16 ["self","key","value"] []
 f_57:Fm K mg "_law_key" "_law_key" vb A.a_57 A.d_57 ["_law_cell","_law_bits"]
 f_30:Fun K "add" "Row.add" vS A.a_30 A.d_30
 b_30:aF K A.d_30 ["self","entry"] []
 f_50:Fun K "root" "Table.root" vv A.a_50 A.d_50
 b_50:aF K A.d_50 ["self"] []
 f_51:Fun K "twin" "Table.twin" vY A.a_51 A.d_51
 b_51:aF K A.d_51 ["self"] []
 f_37:Fun K "size" "Row.size" sX A.a_37 A.d_37
 b_37:aF K A.d_37 ["self"] []
 f_68:Fm K mg "is_elder" "is_elder" tG A.a_68 A.d_68 ["count","elder"]
 f_33:Fun K "has_elder" "Row.has_elder" uN A.a_33 A.d_33
 b_33:aF K A.d_33 ["self","count","elder"] []
 f_65:Fm K mg "half" "half" ub A.a_65 A.d_65 ["many"]
 f_39:Fun K "top_term" "Row.top_term" vj A.a_39 A.d_39
 b_39:aF K A.d_39 ["self","first","many"] []
 f_38:Fun K "top_of" "Row.top_of" wJ A.a_38 A.d_38
 b_38:aF K A.d_38 ["self","first","many"] []
 f_35:Fun K "mark_at" "Row.mark_at" uR A.a_35 A.d_35
 b_35:aF K A.d_35 ["self","count"] []
 f_14:Fun K "newest" "House.newest" vX A.a_14 A.d_14
 b_14:aF K A.d_14 ["self"] []
 f_13:Fun K "make" "House.make" uD A.a_13 A.d_13
 b_13:aF K A.d_13 ["self"] []
 f_42:Fun K "__init__" "Spoken.__init__" uF A.a_42 A.d_42
 b_42:aF K A.d_42 ["self","say"] []
 f_56:Fm K mg "_law_good" "_law_good" tV A.a_56 A.d_56 ["_law_cell","_law_many","_law_key_here","_law_other"]
 f_59:Fm K mg "_law_thing" "_law_thing" vr A.a_59 A.d_59 ["_law_cell","_law_least"]
 f_54:Fm K mg "_law_bad" "_law_bad" tU A.a_54 A.d_54 ["_law_good_here","_law_cell","_law_many","_law_bits"]
 f_23:Fun K "growth" "Line.growth" vt A.a_23 A.d_23
 b_23:aF K A.d_23 ["self","count","elder"] []
 f_44:Fun K "growth" "Spoken.growth" sZ A.a_44 A.d_44
 b_44:aF K A.d_44 ["self","count","elder"] []
 f_31:Fun K "growth_marks" "Row.growth_marks" sY A.a_31 A.d_31
 b_31:aF K A.d_31 ["self","first","many","elder"] []
 f_32:Fun K "growth_paper" "Row.growth_paper" vh A.a_32 A.d_32
 b_32:aF K A.d_32 ["self","count","elder"] []
 f_12:Fun K "growth" "House.growth" tu A.a_12 A.d_12
 b_12:aF K A.d_12 ["self","count","elder"] []
 f_25:Fun K "placed" "Line.placed" wy A.a_25 A.d_25
 b_25:aF K A.d_25 ["self","count","place"] []
 f_46:Fun K "placed" "Spoken.placed" vM A.a_46 A.d_46
 b_46:aF K A.d_46 ["self","count","place"] []
 f_71:Fm K mg "is_place" "is_place" tW A.a_71 A.d_71 ["count","place"]
 f_34:Fun K "has_place" "Row.has_place" uL A.a_34 A.d_34
 b_34:aF K A.d_34 ["self","count","place"] []
 f_91:Fm K mg "ways" "ways" uW A.a_91 A.d_91 ["place","many"]
 f_36:Fun K "place_paper" "Row.place_paper" wj A.a_36 A.d_36
 b_36:aF K A.d_36 ["self","count","place"] []
 f_15:Fun K "placed" "House.placed" vy A.a_15 A.d_15
 b_15:aF K A.d_15 ["self","count","place"] []
 f_22:Fun K "full" "Line.full" vQ A.a_22 A.d_22
 b_22:aF K A.d_22 ["self","count","place","key"] []
 f_43:Fun K "full" "Spoken.full" tT A.a_43 A.d_43
 b_43:aF K A.d_43 ["self","count","place","key"] []
 f_4:Fun K "aside" "Fork.aside" s_4 A.a_4 A.d_4
 b_4:aF K A.d_4 ["self","bits","key"] []
 f_86:Fm K mg "slip_of" "slip_of" vw A.a_86 A.d_86 ["table","key"]
 f_11:Fun K "full" "House.full" ve A.a_11 A.d_11
 b_11:aF K A.d_11 ["self","count","place","key"] []
 f_26:Fun K "stretch" "Line.stretch" we A.a_26 A.d_26
 b_26:aF K A.d_26 ["self","count","place","low","high"] []
 f_47:Fun K "stretch" "Spoken.stretch" ul A.a_47 A.d_47
 b_47:aF K A.d_47 ["self","count","place","low","high"] []
 f_73:Fm K mg "is_stretch" "is_stretch" vO A.a_73 A.d_73 ["bits","low","high"]
 f_62:Fm K mg "check_stretch" "check_stretch" uI A.a_62 A.d_62 ["bits","low","high"]
 f_87:Fm K mg "span" "span" vE A.a_87 A.d_87 ["bits","depth","begin"]
 f_82:Fm K mg "meets" "meets" vd A.a_82 A.d_82 ["bits","low","high","depth","begin"]
 f_84:Fm K mg "part_of" "part_of" uh A.a_84 A.d_84 ["bits","low","high","depth","begin","knot"]
 f_89:Fm K mg "stretch_of" "stretch_of" wD A.a_89 A.d_89 ["table","low","high"]
 f_17:Fun K "stretch" "House.stretch" vJ A.a_17 A.d_17
 b_17:aF K A.d_17 ["self","count","place","low","high"] []
 f_53:Fm K mg "_law_asked" "_law_asked" tK A.a_53 A.d_53 ["_law_line","_law_question"]
 f_24:Fun K "newest" "Line.newest" wm A.a_24 A.d_24
 b_24:aF K A.d_24 ["self"] []
 f_45:Fun K "newest" "Spoken.newest" vk A.a_45 A.d_45
 b_45:aF K A.d_45 ["self"] []
 f_58:Fm K mg "_law_spoken" "_law_spoken" tY A.a_58 A.d_58 ["_law_first","_law_second","_law_gift","_law_other"]
 f_78:Fm K mg "law" "law" gZ A.a_78 A.d_78 ["_law_script"]
 z_all:mg "all"=none
 z_bool:mg "bool"=none
 z_int:mg "int"=none
 z_isinstance:mg "isinstance"=none
 z_len:mg "len"=none
 z_list:mg "list"=none
 z_max:mg "max"=none
 z_min:mg "min"=none
 z_range:mg "range"=none
 z_str:mg "str"=none
 z_tuple:mg "tuple"=none
 c_MOST_BITS:∃t,mg "MOST_BITS"=some (.int 60 t)
 c_MOST_PARTS:∃t,mg "MOST_PARTS"=some (.int 8 t)
 c_MOST_SIGNS:∃t,mg "MOST_SIGNS"=some (.int 60 t)
 kc_63:A.d_63.code=.ref A.k_63
 kc_78:A.d_78.code=.ref A.k_78
 mc_Knot:mg "Knot"=some (.ref A.c_Knot)
 cl_Knot:Cls K A.c_Knot
 na_Knot_term:aV K A.c_Knot "term"
 na_Knot_mark:aV K A.c_Knot "mark"
 mc_Bare:mg "Bare"=some (.ref A.c_Bare)
 cl_Bare:Cls K A.c_Bare
 na_Bare_term:aV K A.c_Bare "term"
 na_Bare_mark:aV K A.c_Bare "mark"
 mc_Seals:mg "Seals"=some (.ref A.c_Seals)
 cl_Seals:Cls K A.c_Seals
 na_Seals_sealed:aV K A.c_Seals "sealed"
 mc_Row:mg "Row"=some (.ref A.c_Row)
 cl_Row:Cls K A.c_Row
 na_Row_stamper:aV K A.c_Row "stamper"
 na_Row_entries:aV K A.c_Row "entries"
 na_Row_tops:aV K A.c_Row "tops"
 mc_Table:mg "Table"=some (.ref A.c_Table)
 cl_Table:Cls K A.c_Table
 na_Table_stamper:aV K A.c_Table "stamper"
 na_Table_bits:aV K A.c_Table "bits"
 na_Table_top:aV K A.c_Table "top"
 mc_Numbers:mg "Numbers"=some (.ref A.c_Numbers)
 cl_Numbers:Cls K A.c_Numbers
 na_Numbers_given:aV K A.c_Numbers "given"
 mc_Fork:mg "Fork"=some (.ref A.c_Fork)
 cl_Fork:Cls K A.c_Fork
 na_Fork_depth:aV K A.c_Fork "depth"
 na_Fork_begin:aV K A.c_Fork "begin"
 na_Fork_left:aV K A.c_Fork "left"
 na_Fork_right:aV K A.c_Fork "right"
 na_Fork_term:aV K A.c_Fork "term"
 na_Fork_mark:aV K A.c_Fork "mark"
 mc_Leaf:mg "Leaf"=some (.ref A.c_Leaf)
 cl_Leaf:Cls K A.c_Leaf
 na_Leaf_key:aV K A.c_Leaf "key"
 na_Leaf_text:aV K A.c_Leaf "text"
 na_Leaf_term:aV K A.c_Leaf "term"
 na_Leaf_mark:aV K A.c_Leaf "mark"
 mc_House:mg "House"=some (.ref A.c_House)
 cl_House:Cls K A.c_House
 na_House_table:aV K A.c_House "table"
 na_House_row:aV K A.c_House "row"
 na_House_makes:aV K A.c_House "makes"
 na_House_seals:aV K A.c_House "seals"
 mc_Spoken:mg "Spoken"=some (.ref A.c_Spoken)
 cl_Spoken:Cls K A.c_Spoken
 na_Spoken_answerer:aV K A.c_Spoken "answerer"
 mc_Line:mg "Line"=some (.ref A.c_Line)
 cl_Line:Cls K A.c_Line
 me_Seals_seal:bq K A.c_Seals "seal" A.a_41
 me_Fork_toward:bq K A.c_Fork "toward" A.a_8
 me_Bare_found:bq K A.c_Bare "found" A.a_1
 me_Leaf_found:bq K A.c_Leaf "found" A.a_20
 me_Fork_found:bq K A.c_Fork "found" A.a_6
 me_Fork_changed:bq K A.c_Fork "changed" A.a_5
 me_Bare_with_key:bq K A.c_Bare "with_key" A.a_2
 me_Leaf_with_key:bq K A.c_Leaf "with_key" A.a_21
 me_Fork_with_key:bq K A.c_Fork "with_key" A.a_9
 me_Fork_leads:bq K A.c_Fork "leads" A.a_7
 me_Table_value_of:bq K A.c_Table "value_of" A.a_52
 me_Table_put:bq K A.c_Table "put" A.a_49
 me_Row_size:bq K A.c_Row "size" A.a_37
 me_Row_top_of:bq K A.c_Row "top_of" A.a_38
 me_Row_top_term:bq K A.c_Row "top_term" A.a_39
 me_Row_has_elder:bq K A.c_Row "has_elder" A.a_33
 me_Row_mark_at:bq K A.c_Row "mark_at" A.a_35
 me_House_newest:bq K A.c_House "newest" A.a_14
 me_Table_twin:bq K A.c_Table "twin" A.a_51
 me_Row_add:bq K A.c_Row "add" A.a_30
 me_Table_root:bq K A.c_Table "root" A.a_50
 me_Row_growth_marks:bq K A.c_Row "growth_marks" A.a_31
 me_Row_growth_paper:bq K A.c_Row "growth_paper" A.a_32
 me_Row_has_place:bq K A.c_Row "has_place" A.a_34
 me_Row_place_paper:bq K A.c_Row "place_paper" A.a_36
 me_Fork_aside:bq K A.c_Fork "aside" A.a_4
 me_House_placed:bq K A.c_House "placed" A.a_15
 me_Line_stretch:bq K A.c_Line "stretch" A.a_26
 me_Spoken_stretch:bq K A.c_Spoken "stretch" A.a_47
 me_House_stretch:bq K A.c_House "stretch" A.a_17
 me_Line_full:bq K A.c_Line "full" A.a_22
 me_Spoken_full:bq K A.c_Spoken "full" A.a_43
 me_House_full:bq K A.c_House "full" A.a_11
 me_Line_placed:bq K A.c_Line "placed" A.a_25
 me_Spoken_placed:bq K A.c_Spoken "placed" A.a_46
 me_Line_growth:bq K A.c_Line "growth" A.a_23
 me_Spoken_growth:bq K A.c_Spoken "growth" A.a_44
 me_House_growth:bq K A.c_House "growth" A.a_12
 me_Spoken_newest:bq K A.c_Spoken "newest" A.a_45
 me_Line_newest:bq K A.c_Line "newest" A.a_24
 me_House_make:bq K A.c_House "make" A.a_13
 me_House_put:bq K A.c_House "put" A.a_16
 me_Numbers_number_of:bq K A.c_Numbers "number_of" A.a_28
 mk_Bare:Mk K A.c_Bare A.a_0
 mk_Row:Mk K A.c_Row A.a_29
 mk_Table:Mk K A.c_Table A.a_48
 mk_Numbers:Mk K A.c_Numbers A.a_27
 mk_Leaf:Mk K A.c_Leaf A.a_19
 mk_Fork:Mk K A.c_Fork A.a_3
 mk_Spoken:Mk K A.c_Spoken A.a_42
 mk_House:Mk K A.c_House A.a_10
 mk_Seals:Mk K A.c_Seals A.a_40
 mz_Line:Mk0 K A.c_Line
 cf_Knot:xQ K A.c_Knot "__init__" A.a_18
 oi_Bare:gN K A.c_Bare
 oi_Fork:gN K A.c_Fork
 oi_Leaf:gN K A.c_Leaf
 oi_House:gN K A.c_House
 oi_Spoken:gN K A.c_Spoken
 ko_Bare_Fork:MF K (.ref A.c_Bare) (.ref A.c_Fork)=some false
 ko_Fork_Fork:MF K (.ref A.c_Fork) (.ref A.c_Fork)=some true
 ko_Leaf_Fork:MF K (.ref A.c_Leaf) (.ref A.c_Fork)=some false
 ko_House_Line:MF K (.ref A.c_House) (.ref A.c_Line)=some true
 ko_Spoken_Line:MF K (.ref A.c_Spoken) (.ref A.c_Line)=some true
def xE (A:Adr)(H:Hp):Prop:=H A.t_63=some (.tbl #[])/\H A.t_78=some (.tbl #[])/\([A.t_63,A.t_78]:List Addr).Nodup
theorem Gf:eE ["term","numbers"] ["term"] ["numbers"] dN.scope:=⟨rfl,rfl,rfl,by decide+kernel,rfl,rfl,by decide+kernel,by decide+kernel,by decide+kernel,by decide+kernel,by decide+kernel⟩
theorem EN:eE ["_law_question"] ["_law_question"] [] fb.scope:=⟨rfl,rfl,rfl,by decide+kernel,rfl,rfl,by decide+kernel,by decide+kernel,by decide+kernel,by decide+kernel,by decide+kernel⟩
theorem ES:eE ["_law_question","_law_gift"] ["_law_question"] ["_law_gift"] dD.scope:=⟨rfl,rfl,rfl,by decide+kernel,rfl,rfl,by decide+kernel,by decide+kernel,by decide+kernel,by decide+kernel,by decide+kernel⟩
theorem GS:eE ["_law_asked_here","_law_other"] ["_law_asked_here"] ["_law_other"] eD.scope:=⟨rfl,rfl,rfl,by decide+kernel,rfl,rfl,by decide+kernel,by decide+kernel,by decide+kernel,by decide+kernel,by decide+kernel⟩
theorem EL:au ["thing"] ["thing"] (aj uM):=scF
theorem Fd:au ["thing"] ["thing"] (aj tQ):=scF
theorem Fs:au ["thing"] ["thing"] (aj vD):=scF
theorem FX:au ["self","term"] ["self","term"] (aj uZ):=scF
theorem Hc:au ["_law_script","_law_k"] ["_law_script","_law_k"] (aj uJ):=scF
theorem Gj:au ["thing"] ["thing"] (aj vN):=scF
theorem DM:au ["self","stamper","term"] ["self","stamper","term"] (aj uo):=scF
theorem KF:au ["self","stamper"] ["self","stamper"] (aj s_0):=scF
theorem DA:au ["self","stamper","bits"] ["self","stamper","bits"] (aj vL):=scF
theorem Fk:au ["self","stamper"] ["self","stamper"] (aj uX):=scF
theorem Dw:au ["thing"] ["thing"] (aj vn):=scF
theorem Dz:au ["thing"] ["thing"] (aj vP):=scF
theorem GK:au ["thing"] ["thing"] (aj ux):=scF
theorem Gi:au ["self","head"] ["self","head"] (aj vF):=scF
theorem Gk:au ["stamper"] ["stamper"] (aj wu):=scF
theorem Gp:au ["stamper"] ["stamper"] (aj vK):=scF
theorem Fi:au ["self","stamper","bits","seals"] ["self","stamper","bits","seals"] (aj tB):=scF
theorem Hw:au ["self"] ["self"] (aj ut):=scF
theorem xq:au ["numbers"] [] (aj jp):=scF
theorem Gu:au ["self"] ["self"] (aj uV):=scF
theorem De:au ["bits","thing"] ["bits","thing"] (aj uu):=scF
theorem Ik:au ["self","bits","key"] ["self","bits","key"] (aj s_1):=scF
theorem FO:au ["self","bits","key"] ["self","bits","key"] (aj vf):=scF
theorem GT:au ["bits","key","depth"] ["bits","key","depth"] (aj tO):=scF
theorem JD:au ["self","bits","key"] ["self","bits","key"] (aj s_8):=scF
theorem Ku:au ["self","bits","key"] ["self","bits","key"] (aj s_6):=scF
theorem DP:au ["self","key"] ["self","key"] (aj vg):=scF
theorem DI:au ["thing"] ["thing"] (aj wn):=scF
theorem Fp:au ["self","stamper","key","value"] ["self","stamper","key","value"] (aj uO):=scF
theorem Jy:au ["self","stamper","bits","key","value"] ["self","stamper","bits","key","value"] (aj s_2):=scF
theorem Fh:au ["bits","key","depth"] ["bits","key","depth"] (aj vZ):=scF
theorem Jd:au ["self","stamper","depth","begin","left","right"] ["self","stamper","depth","begin","left","right"] (aj s_3):=scF
theorem xa:au ["stamper","bits","depth","leaf","knot","begin"] ["stamper","bits","depth","leaf","knot"] (aj uK):=scF
theorem EH:au ["bits","one","other"] ["bits","one","other"] (aj vW):=scF
theorem xw:au ["self","stamper","bits","key","value","leaf"] ["self","stamper","bits","key","value"] (aj wv):=scF
theorem Ju:au ["self","bits","key"] ["self","bits","key"] (aj s_7):=scF
theorem Kq:au ["self","stamper","bits","key","knot"] ["self","stamper","bits","key","knot"] (aj s_5):=scF
theorem BS:au ["self","stamper","bits","key","value","depth"] ["self","stamper","bits","key","value"] (aj s_9):=scF
theorem wZ:au ["self","key","value","before"] ["self","key","value"] (aj vI):=scF
theorem Ek:au ["self","key","value"] ["self","key","value"] (aj vC):=scF
theorem wX:au ["_law_cell","_law_bits","_law_top"] ["_law_cell","_law_bits"] (aj vb):=scF
theorem Fy:au ["self","entry"] ["self","entry"] (aj vS):=scF
theorem DW:au ["self"] ["self"] (aj vv):=scF
theorem xN:au ["self","other"] ["self"] (aj vY):=scF
theorem EF:au ["self"] ["self"] (aj sX):=scF
theorem DD:au ["count","elder"] ["count","elder"] (aj tG):=scF
theorem FZ:au ["self","count","elder"] ["self","count","elder"] (aj uN):=scF
theorem EG:au ["many"] ["many"] (aj ub):=scF
theorem xK:au ["self","first","many","ahead"] ["self","first","many"] (aj vj):=scF
theorem xn:au ["self","first","many","part"] ["self","first","many"] (aj wJ):=scF
theorem Ea:au ["self","count"] ["self","count"] (aj uR):=scF
theorem wV:au ["self","count"] ["self"] (aj vX):=scF
theorem xp:au ["self","head"] ["self"] (aj uD):=scF
theorem Fg:au ["self","say"] ["self","say"] (aj uF):=scF
theorem pP:au ["_law_cell","_law_many","_law_key_here","_law_other","_law_count","_law_place"] ["_law_cell","_law_many","_law_key_here","_law_other"] (aj tV):=scF
theorem ql:au ["_law_cell","_law_least","_law_number","_law_kind"] ["_law_cell","_law_least"] (aj vr):=scF
theorem jt:au ["_law_good_here","_law_cell","_law_many","_law_bits","_law_bad_here","_law_at","_law_leasts"] ["_law_good_here","_law_cell","_law_many","_law_bits"] (aj tU):=scF
theorem Dy:au ["self","count","elder"] ["self","count","elder"] (aj vt):=scF
theorem EB:au ["self","count","elder"] ["self","count","elder"] (aj sZ):=scF
theorem xv:au ["self","first","many","elder","ahead"] ["self","first","many","elder"] (aj sY):=scF
theorem Ey:au ["self","count","elder"] ["self","count","elder"] (aj vh):=scF
theorem GR:au ["self","count","elder"] ["self","count","elder"] (aj tu):=scF
theorem El:au ["self","count","place"] ["self","count","place"] (aj wy):=scF
theorem Gn:au ["self","count","place"] ["self","count","place"] (aj vM):=scF
theorem HG:au ["count","place"] ["count","place"] (aj tW):=scF
theorem Ga:au ["self","count","place"] ["self","count","place"] (aj uL):=scF
theorem fW:au ["place","many","turns","first","rest","ahead"] ["place","many"] (aj uW):=scF
theorem fw:au ["self","count","place","marks","first","many","turn","ahead"] ["self","count","place"] (aj wj):=scF
theorem GV:au ["self","count","place"] ["self","count","place"] (aj vy):=scF
theorem Hm:au ["self","count","place","key"] ["self","count","place","key"] (aj vQ):=scF
theorem HH:au ["self","count","place","key"] ["self","count","place","key"] (aj tT):=scF
theorem Kw:au ["self","bits","key"] ["self","bits","key"] (aj s_4):=scF
theorem lK:au ["table","key","steps","knot"] ["table","key"] (aj vw):=scF
theorem xg:au ["self","count","place","key","paper"] ["self","count","place","key"] (aj ve):=scF
theorem Ha:au ["self","count","place","low","high"] ["self","count","place","low","high"] (aj we):=scF
theorem Dv:au ["self","count","place","low","high"] ["self","count","place","low","high"] (aj ul):=scF
theorem Fb:au ["bits","low","high"] ["bits","low","high"] (aj vO):=scF
theorem Dn:au ["bits","low","high"] ["bits","low","high"] (aj uI):=scF
theorem wM:au ["bits","depth","begin","rest"] ["bits","depth","begin"] (aj vE):=scF
theorem xj:au ["bits","low","high","depth","begin","ends"] ["bits","low","high","depth","begin"] (aj vd):=scF
theorem qN:au ["bits","low","high","depth","begin","knot","left","right"] ["bits","low","high","depth","begin","knot"] (aj uh):=scF
theorem GQ:au ["table","low","high"] ["table","low","high"] (aj wD):=scF
theorem wU:au ["self","count","place","low","high","paper"] ["self","count","place","low","high"] (aj vJ):=scF
theorem xi:au ["_law_line","_law_question","_law_word"] ["_law_line","_law_question"] (aj tK):=scF
theorem EO:au ["self"] ["self"] (aj wm):=scF
theorem Gs:au ["self"] ["self"] (aj vk):=scF
theorem pV:au ["_law_first","_law_second","_law_gift","_law_other","_law_question","_law_due"] ["_law_first","_law_second","_law_gift","_law_other"] (aj tY):=scF
theorem dL:au ["_law_script","_law_bits","_law_house","_law_many","_law_k","_law_plain","_law_cell","_law_good_here","_law_bad_here","_law_gift","_law_other","_law_first","_law_second"] ["_law_script"] (aj gZ):=scF
inductive Dat where
 |non
 |bl (b:Bool)
 |int (i:Int)
 |str (z:Str)
 |lst (ds:List Dat)
 |tup (ds:List Dat)
 |dic
mutual
inductive aJ (H:Hp):V->Dat->Prop
 |non:aJ H .non .non
 |bl (b):aJ H (.bl b) (.bl b)
 |int (i):aJ H (.int i) (.int i)
 |str (z):aJ H (.str z) (.str z)
 |lst {a xs ds}:H a=some (.lst xs)->DatWs H xs ds->aJ H (.ref a) (.lst ds)
 |tup {a xs ds}:H a=some (.tup xs)->DatWs H xs ds->aJ H (.ref a) (.tup ds)
 |dic {a}:(∃kvs,H a=some (.dK kvs))->aJ H (.ref a) .dic
inductive DatWs (H:Hp):List V->List Dat->Prop
 |nil:DatWs H [] []
 |cons {x xs d ds}:aJ H x d->DatWs H xs ds->DatWs H (x::xs) (d::ds)
end
mutual
def fj:Dat->Qp
 |.non=>.none
 |.bl b=>.bool b
 |.int i=>.int i
 |.str z=>.str z
 |.lst ds=>.list (toPys ds)
 |.tup ds=>.tuple (toPys ds)
 |.dic=>.none
def toPys:List Dat->List Qp
 |[]=>[]
 |d::r=>fj d::toPys r
end
def fR (z:Str):Bool:=z.cps.all (·<128)
mutual
def okD:Dat->Bool
 |.str z=>fR z&&decide (z.length<=100000)
 |.lst ds=>okDs ds
 |.tup ds=>okDs ds
 |.dic=>false
 |.non=>true
 |.bl _=>true
 |.int _=>true
def okDs:List Dat->Bool
 |[]=>true
 |d::r=>okD d&&okDs r
end
def iY:Dat->Bool
 |.int _=>true
 |_=>false
def dI:Dat->Bool
 |.int i=>decide (0<=i/\i<10^60)
 |.str _=>true
 |_=>false
def cn (bits:Int):Dat->Bool
 |.int i=>decide (0<=i/\i<2^bits.toNat)
 |_=>false
def fM:Dat->Bool
 |.str z=>decide (z.length<=60)
 |_=>false
def jv (bits key depth:Int):Int:=key/2^(bits- depth).toNat
def ft (K:cW)(A:Adr):Sp:=fun vs H Q _=>∃v d,vs=[v]/\aJ H v d/\Q (.bl (iY d)) H
def iP (K:cW)(A:Adr):Sp:=fun vs H Q _=>∃v d,vs=[v]/\aJ H v d/\Q (.bl (dI d)) H
def jj:Key->Dat
 |.inl i=>.int i
 |.inr z=>.str z
def szK:Key->Nat
 |.inl _=>62
 |.inr z=>z.length+62
def okP:Key->Bool
 |.inl i=>decide (0<=i/\i<10^60)
 |.inr z=>fR z&&decide (z.length<=100000)
def Hj:Key->Bool
 |.inr _=>true
 |.inl _=>false
def okT (k:List Key):Bool:=decide (1<=k.length/\k.length<=8)&&(k.head?.map Hj).getD false&&k.all okP
def szT (k:List Key):Nat:=(k.map szK).sum
def qe (k:List Key):Key->Prop
 |.inl i=>0<=i/\i<10^60
 |.inr z=>fR z=true/\z.length<=szT k
def bU (kvs:List (List Key×Key)):List (List Key×V):=kvs.map fun p=>(p.1,kV p.2)
def cv (kvs:List (List Key×Key))(k:List Key):Option Key:=(kvs.find? fun p=>decide (p.1=k)).map (·.2)
def fS:Key->Prop
 |.inl i=>0<=i/\i<10^60
 |.inr z=>fR z=true/\z.length<=62
def fJ (kvs:List (List Key×Key)):Prop:=∀p∈kvs,fS p.2
structure fo (A:Adr)(H:Hp)(x d:Addr)(kvs:List (List Key×V)):Prop where
 ob:∃dx,H x=some (.ins A.c_Numbers dx [("given",.ref d)])
 di:H d=some (.dT kvs)
def bF (b:Addr)(H H':Hp):Prop:=∀x o,x≠b->H x=some o->H' x=some o
inductive Stp (A:Adr)(H:Hp)(f b:Addr)(g:gOp)(n:Nat):Prop
 |cnt (q x:Addr) (kvs:List (List Key×Key)) (hc:dj H f dN [q] [.ref x]) (num:fo A H x b (bU kvs)) (hl:kvs.length<=n) (hs:fJ kvs) (hg:g=cv kvs)
def Sub (g g':gOp):Prop:=∀k v,g k=some v->g' k=some v
def mR (K:cW)(A:Adr):Sp:=fun vs H Q _=>∃(p:Addr)(k:List Key),vs=[.ref p]/\H p=some (.tup (k.map kV))/\okT k=true/\∀H',ar H H'->Q (.bl true) H'
def kL (kvs:List (List Key×V))(kk:List Key)(d:V):V:=(cp kvs kk).getD d
def kN (H:Hp)(b:Addr)(kvs:List (List Key×V))(kk:List Key)(d:V):Hp:=if (cp kvs kk).isSome=true then H else upd H b (.dT (ci kvs kk d))
def ly (K:cW)(A:Adr):Sp:=fun vs H Q _=>∃x dx,vs=[.ref x]/\H x=some (.ins A.c_Numbers dx [])/\∀d,H d=none->Q .non (upd (upd H d (.dT [])) x (.ins A.c_Numbers dx [("given",.ref d)]))
def mL (K:cW)(A:Adr):Sp:=fun vs H Q _=>∃(x d p:Addr)(kvs:List (List Key×V))(k:List Key),vs=[.ref x,.ref p]/\fo A H x d kvs/\kvs.length<=50000/\H p=some (.tup (k.map kV))/\okT k=true/\∀H',ar H H'->Q (kL kvs k (.int kvs.length)) (kN H' d kvs k (.int kvs.length))
def qF (K:cW)(A:Adr):Sp:=fun vs H Q _=>∃(x d p:Addr)(kvs:List (List Key×V))(k:List Key),vs=[.ref p,.ref x]/\fo A H x d kvs/\kvs.length<=50000/\H p=some (.tup (k.map kV))/\okT k=true/\∀H',ar H H'->Q (kL kvs k (.int kvs.length)) (kN H' d kvs k (.int kvs.length))
def dh (P:Addr)(H H':Hp):Prop:=∀b o,H b=some o->b≠P->H' b=some o
def vp (A:Adr)(H:Hp):Prop:=∃ps,H A.t_63=some (.tbl ps)/\(ps=#[]\/∃c,ps=#[]++#[rawInt ((438:Nat):Int),rawInt ((11:Nat):Int),.ref c]/\H c=some (dm c dN.qual))
def lZ (K:cW)(A:Adr):Sp:=fun vs H Q _=>vs=[]/\vp A H/\∀(f b:Addr)(g:gOp)(H':Hp),dh A.t_63 H H'->vp A H'->H b=none->Stp A H' f b g 0->Q (.ref f) H'
def gj (K:cW)(A:Adr):Sp:=fun vs H Q _=>∃(a:Addr)(ns:List Int)(k:Int),vs=[.ref a,.int k]/\SqL K H a (ns.map V.int)/\0<=k/\∀z:Int,Q (.int z) H
def ix (K:cW)(A:Adr):Sp:=fun vs H Q _=>∃(b k d:Int),vs=[.int b,.int k,.int d]/\d<=b/\Q (.int (jv b k d)) H
def eY (K:cW)(A:Adr):Sp:=fun vs H Q _=>∃(b:Int)(v:V)(d:Dat),vs=[.int b,v]/\0<=b/\b<=60/\aJ H v d/\Q (.bl (cn b d)) H
def lH (K:cW)(A:Adr):Sp:=fun vs H Q _=>∃(v:V)(d:Dat),vs=[v]/\aJ H v d/\okD d=true/\Q (.bl (fM d)) H
def gY (K:cW)(A:Adr):Sp:=fun vs H Q _=>∃(b k d:Int),vs=[.int b,.int k,.int d]/\d<b/\0<=k/\Q (.int (k/2^(b- d- 1).toNat%2)) H
def jr (K:cW)(A:Adr):Sp:=fun vs H Q _=>∃b x y c:Nat,vs=[.int b,.int x,.int y]/\x<2^b/\y<2^b/\kI b x y c/\Q (.int c) H
def eM:Dat->Bool
 |.int i=>decide (1<=i/\i<=60)
 |_=>false
def lV (K:cW)(A:Adr):Sp:=fun vs H Q _=>∃(v:V)(d:Dat),vs=[v]/\aJ H v d/\Q (.bl (eM d)) H
def aN (b D:Addr)(H H':Hp):Prop:=∀x o,x≠b->x≠D->H x=some o->H' x=some o
def brT:List Key:=[.inr "bare"]
def lfT (k:Nat)(z:Str):List Key:=[.inr "leaf",.inl (k:Int),.inr z]
def fkT (d b:Nat)(l r:Key):List Key:=[.inr "fork",.inl (d:Int),.inl (b:Int),l,r]
def szN:Kn Str->Nat
 |.bare=>200
 |.leaf _ _=>400
 |.fork _ _ l r=>300+szN l+szN r
def gs (z:Str):Prop:=fR z=true/\z.length<=60
inductive KnA (A:Adr)(H:Hp)(g:gOp):Addr->Kn Str->Key->Prop
 |bare {x dx t:Addr} {m:Key} (o:H x=some (.ins A.c_Bare dx [("term",.ref t),("mark",kV m)])) (ht:H t=some (.tup (brT.map kV))) (hm:g brT=some m) (ok:okP m=true) (sz:szK m<=200):KnA A H g x .bare m
 |leaf {x dx t:Addr} {m:Key} {k:Nat} {z:Str} (o:H x=some (.ins A.c_Leaf dx [("term",.ref t),("mark",kV m),("key",.int (k:Int)),("text",.str z)])) (ht:H t=some (.tup ((lfT k z).map kV))) (hm:g (lfT k z)=some m) (ok:okP m=true) (sz:szK m<=400) (hz:gs z):KnA A H g x (.leaf k z) m
 |fork {x dx t l r:Addr} {m ml mr:Key} {d b:Nat} {tl tr:Kn Str} (o:H x=some (.ins A.c_Fork dx [("term",.ref t),("mark",kV m),("depth",.int (d:Int)),("begin",.int (b:Int)),("left",.ref l),("right",.ref r)])) (hl:KnA A H g l tl ml) (hr:KnA A H g r tr mr)
  (ht:H t=some (.tup ((fkT d b ml mr).map kV))) (hm:g (fkT d b ml mr)=some m) (ok:okP m=true) (sz:szK m<=szN (.fork d b tl tr)):KnA A H g x (.fork d b tl tr) m
def clK (A:Adr):Kn Str->Addr
 |.bare=>A.c_Bare
 |.leaf _ _=>A.c_Leaf
 |.fork _ _ _ _=>A.c_Fork
def kdK:Kn Str->Nat
 |.bare=>0
 |.leaf _ _=>1
 |.fork _ _ _ _=>2
def hgt:Kn Str->Nat
 |.bare=>0
 |.leaf _ _=>0
 |.fork _ _ l r=>max (hgt l) (hgt r)+1
def ff (B:Nat):Kn Str->Prop
 |.bare=>True
 |.leaf _ _=>True
 |.fork d b l r=>d<B/\b<2^d/\ff B l/\ff B r
def ov:Option Str->V
 |none=>.non
 |some z=>.str z
def KnQ (A:Adr)(H:Hp)(f b:Addr)(g:gOp)(n c:Nat)(t:Kn Str)(Q:VK):Prop:=∀(y:Addr)(m:Key)(g':gOp)(H':Hp),bF b H H'->KnA A H' g' y t m->Stp A H' f b g' (n+c)->Sub g g'->Q (.ref y) H'
def iC (K:cW)(A:Adr):Sp:=fun vs H Q _=>∃(x dx C f b p:Addr)(g:gOp)(n:Nat)(k:List Key),vs=[.ref x,.ref f,.ref p]/\H x=some (.ins C dx [])/\Cls K C/\aV K C "term"/\aV K C "mark"/\Stp A H f b g n/\n<=45000/\H p=some (.tup (k.map kV))/\okT k=true/\
 ∀(m:Key)(g':gOp)(H':Hp),aN b x H H'->H' x=some (.ins C dx [("term",.ref p),("mark",kV m)])->Stp A H' f b g' (n+1)->Sub g g'->g' k=some m->qe k m->Q .non H'
def InQ (A:Adr)(H:Hp)(x f b:Addr)(g:gOp)(n:Nat)(t:Kn Str)(Q:VK):Prop:=∀(m:Key)(g':gOp)(H':Hp),aN b x H H'->KnA A H' g' x t m->Stp A H' f b g' (n+1)->Sub g g'->Q .non H'
def qA (K:cW)(A:Adr):Sp:=fun vs H Q _=>∃(x dx f b:Addr)(g:gOp)(n:Nat),vs=[.ref x,.ref f]/\H x=some (.ins A.c_Bare dx [])/\Stp A H f b g n/\n<=45000/\InQ A H x f b g n .bare Q
def gU (K:cW)(A:Adr):Sp:=fun vs H Q _=>∃(x dx f b:Addr)(g:gOp)(n k:Nat)(z:Str),vs=[.ref x,.ref f,.int (k:Int),.str z]/\H x=some (.ins A.c_Leaf dx [])/\Stp A H f b g n/\n<=45000/\k<2^60/\gs z/\InQ A H x f b g n (.leaf k z) Q
def iu (K:cW)(A:Adr):Sp:=fun vs H Q _=>∃(x dx f b l r:Addr)(g:gOp)(n d e:Nat)(tl tr:Kn Str)(ml mr:Key),vs=[.ref x,.ref f,.int (d:Int),.int (e:Int),.ref l,.ref r]/\H x=some (.ins A.c_Fork dx [])/\Stp A H f b g n/\n<=45000/\d<60/\e<2^60/\KnA A H g l tl ml/\KnA A H g r tr mr/\szN tl+szN tr<=90000/\InQ A H x f b g n (.fork d e tl tr) Q
def Kof (A:Adr)(H:Hp)(i:Nat)(g:gOp)(x:Addr)(t:Kn Str)(m:Key):Prop:=KnA A H g x t m/\kdK t=i
def kG (A:Adr)(i:Nat)(n:Nat):Sp:=fun vs H Q _=>∃(x:Addr)(g:gOp)(t:Kn Str)(m:Key)(B key:Nat),vs=[.ref x,.int (B:Int),.int (key:Int)]/\Kof A H i g x t m/\ff B t/\hgt t<n/\Q (ov (bC B key t)) H
def ki (K:cW)(A:Adr):Sp:=kG A 0 70
def iO (K:cW)(A:Adr):Sp:=kG A 1 70
def iV (K:cW)(A:Adr)(n:Nat):Sp:=kG A 2 n
def gp (A:Adr)(H:Hp)(x:Addr)(d b:Nat)(l r:Addr):Prop:=∃dx t m,H x=some (.ins A.c_Fork dx [("term",.ref t),("mark",kV m),("depth",.int (d:Int)),("begin",.int (b:Int)),("left",.ref l),("right",.ref r)])
def nR (K:cW)(A:Adr):Sp:=fun vs H Q _=>∃(x l r:Addr)(d b B key:Nat),vs=[.ref x,.int (B:Int),.int (key:Int)]/\gp A H x d b l r/\d<B/\Q (.bl (decide (st B key d=b))) H
def jm (K:cW)(A:Adr):Sp:=fun vs H Q _=>∃(x l r:Addr)(d b B key:Nat),vs=[.ref x,.int (B:Int),.int (key:Int)]/\gp A H x d b l r/\d<B/\Q (.ref (if sd B key d=0 then l else r)) H
def nF (K:cW)(A:Adr):Sp:=fun vs H Q _=>∃(x l r:Addr)(d b B key:Nat),vs=[.ref x,.int (B:Int),.int (key:Int)]/\gp A H x d b l r/\d<B/\Q (.ref (if sd B key d=0 then r else l)) H
structure KnS (A:Adr)(H:Hp)(f b:Addr)(g:gOp)(n:Nat)(B:Nat)(x:Addr)(t:Kn Str)(m:Key):Prop where
 k:KnA A H g x t m
 s:Stp A H f b g n
 B60:B<=60
 dp:ff B t
 ln:(bo t).length<=100
 sz:szN t<=80000
def jJ (K:cW)(A:Adr):Sp:=fun vs H Q _=>∃(f b x y:Addr)(g:gOp)(n B d key:Nat)(z:Str)(t:Kn Str)(m m':Key),vs=[.ref f,.int (B:Int),.int (d:Int),.ref y,.ref x]/\KnS A H f b g n B x t m/\n<=45000/\KnA A H g y (.leaf key z) m'/\d<B/\key<2^B/\KnQ A H f b g n 1 (dM B d key z t) Q
def pH (K:cW)(A:Adr):Sp:=fun vs H Q _=>∃(x f b l r y:Addr)(g:gOp)(n B d e key:Nat)(tl tr t:Kn Str)(m ml mr:Key),vs=[.ref x,.ref f,.int (B:Int),.int (key:Int),.ref y]/\gp A H x d e l r/\KnA A H g l tl ml/\KnA A H g r tr mr/\KnA A H g y t m/\Stp A H f b g n/\n<=45000/\d<B/\B<=60/\e<2^60/\szN (if sd B key d=0 then tr else tl)+szN t<=90000/\
 KnQ A H f b g n 1 (if sd B key d=0 then .fork d e t tr else .fork d e tl t) Q
def ow (A:Adr)(i:Nat)(j:Nat):Sp:=fun vs H Q _=>∃(x f b:Addr)(g:gOp)(n B key:Nat)(z:Str)(t:Kn Str)(m:Key),vs=[.ref x,.ref f,.int (B:Int),.int (key:Int),.str z]/\KnS A H f b g n B x t m/\kdK t=i/\n+hgt t+10<=45000/\(∀p∈bo t,p.1<2^B)/\key<2^B/\gs z/\hgt t<j/\szN t<=70000/\KnQ A H f b g n (hgt t+2) (cm B key z t) Q
def ko (K:cW)(A:Adr):Sp:=ow A 0 70
def iJ (K:cW)(A:Adr):Sp:=ow A 1 70
def jl (K:cW)(A:Adr)(n:Nat):Sp:=ow A 2 n
def WFo (B:Nat)(t:Kn Str):Prop:=t=.bare\/WF B 0 0 t
structure TbA (A:Adr)(H:Hp)(g:gOp)(x f:Addr)(B:Nat)(t:Kn Str)(m:Key):Prop where
 ob:∃dx y,H x=some (.ins A.c_Table dx [("stamper",.ref f),("bits",.int (B:Int)),("top",.ref y)])/\KnA A H g y t m
 B1:1<=B
 B60:B<=60
 wf:WFo B t
structure TbS (A:Adr)(H:Hp)(x f b:Addr)(g:gOp)(n B:Nat)(t:Kn Str)(m:Key):Prop where
 ta:TbA A H g x f B t m
 s:Stp A H f b g n
 ln:(bo t).length<=90
def TbQ (A:Adr)(H:Hp)(x f b:Addr)(g:gOp)(n c B:Nat)(t:Kn Str)(R:Hp->Prop):Prop:=∀(m:Key)(g':gOp)(H':Hp),aN b x H H'->TbA A H' g' x f B t m->Stp A H' f b g' (n+c)->Sub g g'->R H'
def iD (K:cW)(A:Adr):Sp:=fun vs H Q E=>∃(x dx f b:Addr)(g:gOp)(n:Nat)(v:V)(d:Dat),vs=[.ref x,.ref f,v]/\H x=some (.ins A.c_Table dx [])/\aJ H v d/\Stp A H f b g n/\n<=45000/\(eM d=false->False)/\∀B:Nat,d=.int (B:Int)->1<=B->B<=60->TbQ A H x f b g n 1 B .bare (Q .non)
def mM (K:cW)(A:Adr):Sp:=fun vs H Q E=>∃(x f:Addr)(g:gOp)(B:Nat)(t:Kn Str)(m:Key)(v:V)(d:Dat),vs=[.ref x,v]/\TbA A H g x f B t m/\aJ H v d/\(cn B d=false->False)/\∀key:Nat,d=.int (key:Int)->key<2^B->Q (ov (bC B key t)) H
def jV (K:cW)(A:Adr):Sp:=fun vs H Q E=>∃(x f b:Addr)(g:gOp)(n B:Nat)(t:Kn Str)(m:Key)(v w:V)(d e:Dat),vs=[.ref x,v,w]/\TbS A H x f b g n B t m/\n+100<=45000/\aJ H v d/\aJ H w e/\okD e=true/\(cn B d=false->False)/\
 ∀key:Nat,d=.int (key:Int)->key<2^B->(fM e=false->False)/\∀z,e=.str z->gs z->TbQ A H x f b g n 65 B (cm B key z t) fun H'=>Q (ov (bC B key t)) H'
def lY (K:cW)(A:Adr):Sp:=fun vs H Q _=>∃(x f:Addr)(g:gOp)(B:Nat)(t:Kn Str)(m:Key),vs=[.ref x]/\TbA A H g x f B t m/\Q (kV m) H
def iL (K:cW)(A:Adr):Sp:=fun vs H Q _=>∃(c:Int)(B:Nat),vs=[.int c,.int (B:Int)]/\1<=B/\B<=60/\∀k:Nat,k<2^B->Q (.int (k:Int)) H
def lA (K:cW)(A:Adr):Sp:=fun vs H Q _=>∃(x f b:Addr)(g:gOp)(n B:Nat)(t:Kn Str)(m:Key),vs=[.ref x]/\TbS A H x f b g n B t m/\n<=45000/\∀(y:Addr)(g':gOp)(H':Hp),bF b H H'->H y=none->TbS A H' x f b g' (n+1) B t m->TbA A H' g' y f B t m->Sub g g'->Q (.ref y) H'
def aP (n:Nat):Nat:=2^Ou (n- 1)
def gE (K:cW)(A:Adr):Sp:=fun vs H Q _=>∃m:Nat,vs=[.int (m:Int)]/\2<=m/\m<=2^60/\Q (.int ((aP m:Nat):Int)) H
def cA:Dat->Bool
 |.int i=>decide (0<=i/\i<2^60)
 |_=>false
def cK (c e:Dat):Bool:=cA c&&iY e&&match c,e with
 |.int c,.int e=>decide (0<=e/\e<c)
 |_,_=>false
def iN:Dat->Bool
 |.tup [c,v]=>cA c&&dI v
 |_=>false
def iE (K:cW)(A:Adr):Sp:=fun vs H Q _=>∃v d,vs=[v]/\aJ H v d/\Q (.bl (cA d)) H
def ni (K:cW)(A:Adr):Sp:=fun vs H Q _=>∃v d w e,vs=[v,w]/\aJ H v d/\aJ H w e/\Q (.bl (cK d e)) H
def mf (K:cW)(A:Adr):Sp:=fun vs H Q _=>∃v d,vs=[v]/\aJ H v d/\Q (.bl (iN d)) H
def mx (K:cW)(A:Adr):Sp:=fun vs H Q _=>∃v d,vs=[v]/\aJ H v d/\iN d=true/\Q .non H
def ck (c e:Dat):Bool:=cA c&&iY e&&match c,e with
 |.int c,.int e=>decide (0<=e/\e<=c)
 |_,_=>false
def lz (K:cW)(A:Adr):Sp:=fun vs H Q _=>∃v d w e,vs=[v,w]/\aJ H v d/\aJ H w e/\Q (.bl (ck d e)) H
def smE (e:Key):Prop:=okP e=true/\szK e<=130
structure cX (A:Adr)(H:Hp)(x f L D:Addr)(es:List Key)(kvs:List (List Key×Key)):Prop where
 ob:∃dx,H x=some (.ins A.c_Row dx [("stamper",.ref f),("entries",.ref L),("tops",.ref D)])
 hl:H L=some (.lst (es.map kV))
 hd:H D=some (.dT (bU kvs))
 en:∀e∈es,smE e
 le:es.length<=60
 cs:∀k v,cv kvs k=some v->smE v
structure cM (A:Adr)(H:Hp)(x f L D b:Addr)(es:List Key)(kvs:List (List Key×Key))(g:gOp)(n:Nat):Prop where
 r:cX A H x f L D es kvs
 s:Stp A H f b g n
 db:D≠b
 kl:kvs.length<=n
def mU (K:cW)(A:Adr):Sp:=fun vs H Q _=>∃x dx f,vs=[.ref x,.ref f]/\H x=some (.ins A.c_Row dx [])/\∀(L D:Addr)(H':Hp),(∀z o,z≠x->H z=some o->H' z=some o)->H L=none->H D=none->L≠D->H' x=some (.ins A.c_Row dx [("stamper",.ref f),("entries",.ref L),("tops",.ref D)])->H' L=some (.lst [])->H' D=some (.dT [])->Q .non H'
def mj (K:cW)(A:Adr):Sp:=fun vs H Q _=>∃(x f L D:Addr)(es:List Key)(kvs:List (List Key×Key))(e:Key),vs=[.ref x,kV e]/\cX A H x f L D es kvs/\smE e/\es.length<60/\Q (.int (es.length:Int)) (upd H L (.lst ((es++[e]).map kV)))
def gJ (K:cW)(A:Adr):Sp:=fun vs H Q _=>∃(x f L D:Addr)(es:List Key)(kvs:List (List Key×Key)),vs=[.ref x]/\cX A H x f L D es kvs/\Q (.int (es.length:Int)) H
def leD (n:Int):Dat->Bool
 |.int c=>decide (c<=n)
 |_=>false
def iB (K:cW)(A:Adr):Sp:=fun vs H Q _=>∃(x f L D:Addr)(es:List Key)(kvs:List (List Key×Key))(v w:V)(d e:Dat),vs=[.ref x,v,w]/\cX A H x f L D es kvs/\aJ H v d/\aJ H w e/\Q (.bl (ck d e&&leD (es.length:Int) d)) H
def jA (K:cW)(A:Adr):Sp:=fun vs H Q _=>∃(x f L D:Addr)(es:List Key)(kvs:List (List Key×Key))(v w:V)(d e:Dat),vs=[.ref x,v,w]/\cX A H x f L D es kvs/\aJ H v d/\aJ H w e/\Q (.bl (cK d e&&leD (es.length:Int) d)) H
def dF (K:cW)(A:Adr)(j:Nat):Sp:=fun vs H Q _=>∃(x f L D b:Addr)(es:List Key)(kvs:List (List Key×Key))(g:gOp)(n a m:Nat),vs=[.ref x,.int (a:Int),.int (m:Int)]/\cM A H x f L D b es kvs g n/\a+m<=es.length/\m<j/\n+2*m+1<=45000/\
 ∀(v:Key)(kvs':List (List Key×Key))(g':gOp)(H':Hp),aN b D H H'->cM A H' x f L D b es kvs' g' (n+(2*(m- 1)+1))->Sub g g'->smE v->Q (kV v) H'
def mP (K:cW)(A:Adr)(j:Nat):Sp:=fun vs H Q _=>∃(x f L D b:Addr)(es:List Key)(kvs:List (List Key×Key))(g:gOp)(n a m:Nat),vs=[.ref x,.int (a:Int),.int (m:Int)]/\cM A H x f L D b es kvs g n/\a+m<=es.length/\m<=j/\n+2*m+1<=45000/\
 ∀(p:Addr)(k:List Key)(kvs':List (List Key×Key))(g':gOp)(H':Hp),aN b D H H'->cM A H' x f L D b es kvs' g' (n+2*(m- 1))->Sub g g'->H' p=some (.tup (k.map kV))->okT k=true->Q (.ref p) H'
def lB (K:cW)(A:Adr):Sp:=fun vs H Q _=>∃(x f L D b:Addr)(es:List Key)(kvs:List (List Key×Key))(g:gOp)(n c:Nat),vs=[.ref x,.int (c:Int)]/\cM A H x f L D b es kvs g n/\c<=es.length/\n+200<=45000/\
 ∀(v:Key)(kvs':List (List Key×Key))(g':gOp)(H':Hp),aN b D H H'->cM A H' x f L D b es kvs' g' (n+200)->Sub g g'->smE v->Q (kV v) H'
def lx (K:cW)(A:Adr):Sp:=fun vs H Q _=>∃(f b:Addr)(g:gOp)(n:Nat),vs=[.ref f]/\Stp A H f b g n/\n<=44000/\∀(L p1 p2:Addr)(v:Key)(g':gOp)(H':Hp),bF b H H'->Stp A H' f b g' (n+1)->Sub g g'->H' L=some (.lst [.ref p1,.ref p2])->H' p2=some (.tup [.str "row",.int 0,kV v])->smE v->Q (.ref L) H'
def lU (K:cW)(A:Adr):Sp:=fun vs H Q _=>∃(f b:Addr)(g:gOp)(n:Nat),vs=[.ref f]/\Stp A H f b g n/\n<=44000/\∀(p:Addr)(v:Key)(g':gOp)(H':Hp),bF b H H'->Stp A H' f b g' (n+2)->Sub g g'->H' p=some (.tup [.int 0,kV v])->smE v->Q (.ref p) H'
structure SeA (A:Adr)(H:Hp)(x d:Addr)(n:Nat):Prop where
 ob:∃dx,H x=some (.ins A.c_Seals dx [("sealed",.ref d)])
 di:∃kvs,H d=some (.dT kvs)/\kvs.length<=n
def jx (K:cW)(A:Adr):Sp:=fun vs H Q _=>∃x dx,vs=[.ref x]/\H x=some (.ins A.c_Seals dx [])/\∀d,H d=none->Q .non (upd (upd H d (.dT [])) x (.ins A.c_Seals dx [("sealed",.ref d)]))
def jy (K:cW)(A:Adr):Sp:=fun vs H Q _=>∃(x d p:Addr)(n c:Nat)(v:Key),vs=[.ref x,.ref p]/\SeA A H x d n/\n<=50000/\H p=some (.tup [.int (c:Int),kV v])/\c<2^60/\okP v=true/\∀kvs,kvs.length<=n+1->Q .non (upd H d (.dT kvs))
def KM (S:List Addr)(H H':Hp):Prop:=∀z o,z∉S->H z=some o->H' z=some o
structure HA where
 tb:Addr
 ro:Addr
 L:Addr
 D:Addr
 ml:Addr
 sl:Addr
 sd:Addr
def HoA (A:Adr)(H:Hp)(x:Addr)(a:HA):Prop:=∃dx,H x=some (.ins A.c_House dx [("table",.ref a.tb),("row",.ref a.ro),("makes",.ref a.ml),("seals",.ref a.sl)])
abbrev TmA (A:Adr)(H:Hp)(g:gOp)(f:Addr)(B:Nat):List Addr->List (Kn Str)->Prop:=Paired fun(y:Addr)(t:Kn Str)=>∃m,TbA A H g y f B t m
structure HsA (A:Adr)(H:Hp)(g:gOp)(x f:Addr)(n B:Nat)(a:HA)(t:Kn Str)(ts:List (Kn Str))(ys:List Addr):Prop where
 ob:HoA A H x a
 ta:∃m,TbA A H g a.tb f B t m
 ro:∃es kvs,cX A H a.ro f a.L a.D es kvs/\es.length=ts.length/\kvs.length<=n
 hm:H a.ml=some (.lst (ys.map V.ref))
 tm:TmA A H g f B ys ts
 se:SeA A H a.sl a.sd n
structure HaD (b:Addr)(a:HA)(ys:List Addr):Prop where
 nd:[b,a.tb,a.L,a.D,a.ml,a.sd].Nodup
 ny:a.tb∉ys
def jZ (K:cW)(A:Adr):Sp:=fun vs H Q E=>∃(x dx f b sl sd:Addr)(g:gOp)(n:Nat)(v:V)(d:Dat),vs=[.ref x,.ref f,v,.ref sl]/\H x=some (.ins A.c_House dx [])/\aJ H v d/\Stp A H f b g n/\n<=40000/\SeA A H sl sd n/\sd≠b/\(eM d=false->False)/\∀B:Nat,d=.int (B:Int)->1<=B->B<=60->
 ∀(a:HA)(g':gOp)(H':Hp),KM [b,x,sd] H H'->HsA A H' g' x f (n+5) B a .bare [] []->a.sl=sl->a.sd=sd->(∀z∈[a.tb,a.ro,a.L,a.D,a.ml],H z=none)->[a.tb,a.ro,a.L,a.D,a.ml].Nodup->Stp A H' f b g' (n+5)->Sub g g'->Q .non H'
def nj (K:cW)(A:Adr):Sp:=fun vs H Q E=>∃(x:Addr)(a:HA)(v w:V),vs=[.ref x,v,w]/\HoA A H x a/\(∃f g B t m,TbA A H g a.tb f B t m)/\jV K A [.ref a.tb,v,w] H Q E
def mh (K:cW)(A:Adr):Sp:=fun vs H Q _=>∃(x f b:Addr)(g:gOp)(n B:Nat)(a:HA)(t:Kn Str)(ts:List (Kn Str))(ys:List Addr),vs=[.ref x]/\HsA A H g x f n B a t ts ys/\HaD b a ys/\Stp A H f b g n/\n+300<=45000/\
 ∀(p:Addr)(v:Key)(g':gOp)(H':Hp),aN b a.D H H'->HsA A H' g' x f (n+200) B a t ts ys->Stp A H' f b g' (n+200)->Sub g g'->H' p=some (.tup [.int (ts.length:Int),kV v])->smE v->Q (.ref p) H'
def lO (K:cW)(A:Adr):Sp:=fun vs H Q _=>∃(x f b:Addr)(g:gOp)(n B:Nat)(a:HA)(t:Kn Str)(ts:List (Kn Str))(ys:List Addr),vs=[.ref x]/\HsA A H g x f n B a t ts ys/\HaD b a ys/\Stp A H f b g n/\(bo t).length<=90/\ts.length<60/\n+400<=45000/\
 ∀(p y:Addr)(v:Key)(g':gOp)(H':Hp),KM [b,a.L,a.D,a.ml,a.sd] H H'->H y=none->HsA A H' g' x f (n+210) B a t (ts++[t]) (ys++[y])->Stp A H' f b g' (n+210)->Sub g g'->H' p=some (.tup [.int ((ts.length:Int)+1),kV v])->Q (.ref p) H'
def cq (B:Int)(d e:Dat):Bool:=cn B d&&cn B e&&match d,e with
 |.int a,.int b=>decide (a<=b)
 |_,_=>false
def mV (K:cW)(A:Adr):Sp:=fun vs H Q _=>∃(b:Int)(v w:V)(d e:Dat),vs=[.int b,v,w]/\0<=b/\b<=60/\aJ H v d/\aJ H w e/\Q (.bl (cq b d e)) H
def nB (b lo hi d g:Int):Bool:=decide (g*2^(b- d).toNat<=hi)&&decide (lo<=(g+1)*2^(b- d).toNat- 1)
structure xt (b lo hi:Int):Prop where
 b1:1<=b
 b60:b<=60
 lo0:0<=lo
 le:lo<=hi
 hi1:hi<2^b.toNat
def mK (K:cW)(A:Adr):Sp:=fun vs H Q _=>∃b d g:Int,vs=[.int b,.int d,.int g]/\0<=d/\d<=b/\b<=60/\0<=g/\g<2^d.toNat/\∀p,H p=none->Q (.ref p) (upd H p (.tup [.int (g*2^(b- d).toNat),.int ((g+1)*2^(b- d).toNat- 1)]))
def mI (K:cW)(A:Adr):Sp:=fun vs H Q _=>∃b lo hi d g:Int,vs=[.int b,.int lo,.int hi,.int d,.int g]/\0<=d/\d<=b/\b<=60/\0<=g/\g<2^d.toNat/\∀H',ar H H'->Q (.bl (nB b lo hi d g)) H'
def lP (K:cW)(A:Adr):Sp:=fun vs H Q _=>∃b lo hi:Int,vs=[.int b,.int lo,.int hi]/\xt b lo hi/\Q .non H
def gM (K:cW)(A:Adr)(n:Nat):Sp:=fun vs H Q _=>∃(B:Nat)(lo hi d gg:Int)(x:Addr)(g:gOp)(t:Kn Str)(m:Key),vs=[.int (B:Int),.int lo,.int hi,.int d,.int gg,.ref x]/\B<=60/\0<=d/\d<=B/\0<=gg/\gg<2^d.toNat/\KnA A H g x t m/\ff B t/\hgt t<n/\
 ∀(p:Addr)(xs:List V)(H':Hp),ar H H'->H' p=some (.tup xs)->Q (.ref p) H'
def mY (K:cW)(A:Adr):Sp:=fun vs H Q _=>∃(x f:Addr)(g:gOp)(B:Nat)(t:Kn Str)(m:Key)(lo hi:Int),vs=[.ref x,.int lo,.int hi]/\TbA A H g x f B t m/\xt B lo hi/\
 ∀(p:Addr)(xs:List V)(H':Hp),ar H H'->H' p=some (.tup xs)->Q (.ref p) H'
def mF (K:cW)(A:Adr):Sp:=fun vs H Q _=>∃(x f:Addr)(g:gOp)(B:Nat)(t:Kn Str)(m:Key)(key:Nat),vs=[.ref x,.int (key:Int)]/\TbA A H g x f B t m/\key<2^B/\
 ∀(p:Addr)(xs:List V)(H':Hp),ar H H'->H' p=some (.tup xs)->Q (.ref p) H'
def dY:Nat->Nat->Nat->List Int
 |0,_,_=>[]
 |f+1,p,m=>if m<=1 then[]else if p<aP m then 0::dY f p (aP m)else 1::dY f (p- aP m) (m- aP m)
abbrev gu (c p:Nat):List Int:=dY 60 p c
def lQ (K:cW)(A:Adr):Sp:=fun vs H Q _=>∃p m:Nat,vs=[.int (p:Int),.int (m:Int)]/\p<m/\m<=2^60/\∀D,H D=none->Q (.ref D) (upd H D (.lst ((gu m p).map V.int)))
def gW (K:cW)(A:Adr)(j:Nat):Sp:=fun vs H Q _=>∃(x f L D b:Addr)(es:List Key)(kvs:List (List Key×Key))(g:gOp)(n a m e:Nat),vs=[.ref x,.int (a:Int),.int (m:Int),.int (e:Int)]/\cM A H x f L D b es kvs g n/\a+m<=es.length/\1<=m/\e<=m/\m<j/\n+2*m+1<=45000/\
 ∀(p:Addr)(xs:List V)(kvs':List (List Key×Key))(g':gOp)(H':Hp),aN b D H H'->cM A H' x f L D b es kvs' g' (n+2*m)->Sub g g'->H' p=some (.tup xs)->xs.length<=m->Q (.ref p) H'
def mD (K:cW)(A:Adr):Sp:=fun vs H Q E=>∃(x f L D b:Addr)(es:List Key)(kvs:List (List Key×Key))(g:gOp)(n:Nat)(v w:V)(d e:Dat),vs=[.ref x,v,w]/\cM A H x f L D b es kvs g n/\n+200<=45000/\aJ H v d/\aJ H w e/\
 (ck d e&&leD (es.length:Int) d)=true/\∀(p:Addr)(xs:List V)(kvs':List (List Key×Key))(g':gOp)(H':Hp),aN b D H H'->cM A H' x f L D b es kvs' g' (n+200)->Sub g g'->H' p=some (.tup xs)->(d=.int 0->xs=[])->Q (.ref p) H'
def mT (K:cW)(A:Adr):Sp:=fun vs H Q E=>∃(x f L D b:Addr)(es:List Key)(kvs:List (List Key×Key))(g:gOp)(n:Nat)(v w:V)(d e:Dat),vs=[.ref x,v,w]/\cM A H x f L D b es kvs g n/\n+200<=45000/\aJ H v d/\aJ H w e/\
 (cK d e&&leD (es.length:Int) d)=true/\∀(P T:Addr)(y:V)(xs:List V)(kvs':List (List Key×Key))(g':gOp)(H':Hp),aN b D H H'->cM A H' x f L D b es kvs' g' (n+200)->Sub g g'->H' P=some (.tup [y,.ref T])->H' T=some (.tup xs)->Q (.ref P) H'
structure HoS (A:Adr)(H:Hp)(x f b:Addr)(g:gOp)(n B:Nat)(a:HA)(t:Kn Str)(ts:List (Kn Str))(ys:List Addr):Prop where
 hs:HsA A H g x f n B a t ts ys
 hd:HaD b a ys
 s:Stp A H f b g n
def AN (A:Adr)(H:Hp)(x f b:Addr)(g:gOp)(n B:Nat)(a:HA)(t:Kn Str)(ts:List (Kn Str))(ys:List Addr)(R:V->Hp->Prop)(Q:VK):Prop:=
 ∀(u:V)(g':gOp)(H':Hp),aN b a.D H H'->HoS A H' x f b g' (n+200) B a t ts ys->Sub g g'->R u H'->Q u H'
def AnR (ok:Bool)(z:Prop)(u:V)(H:Hp):Prop:=(ok=false->u=.non)/\(ok=true->∃p xs,u=.ref p/\H p=some (.tup xs)/\(z->xs=[]))
def PlR (ok:Bool)(u:V)(H:Hp):Prop:=(ok=false->u=.non)/\(ok=true->∃P T y xs,u=.ref P/\H P=some (.tup [y,.ref T])/\H T=some (.tup xs))
def oi (A:Adr)(n':Nat)(R:Nat->Nat->List Dat->V->Hp->Prop):Sp:=fun vs H Q _=>∃(x f b:Addr)(g:gOp)(n B:Nat)(a:HA)(t:Kn Str)(ts:List (Kn Str))(ys:List Addr)(us:List V)(ds:List Dat),vs=.ref x::us/\us.length=n'/\HoS A H x f b g n B a t ts ys/\n+400<=45000/\DatWs H us ds/\AN A H x f b g n B a t ts ys (R B ts.length ds) Q
def gq (n:Nat)(d e:Dat):Bool:=ck d e&&leD (n:Int) d
def dq (n:Nat)(d e:Dat):Bool:=cK d e&&leD (n:Int) d
def bI (w:Str)(B n:Nat):List Dat->Bool
 |[d,e]=>if w="growth" then gq n d e else dq n d e
 |[d,e,k]=>dq n d e&&cn (B:Int) k
 |[d,e,k,l]=>dq n d e&&cq (B:Int) k l
 |_=>false
def Cp (w:Str)(ds:List Dat):Prop:=w="growth"/\ds.head?=some (.int 0)
def mi (K:cW)(A:Adr):Sp:=oi A 2 fun B n ds=>AnR (bI "growth" B n ds) (Cp "growth" ds)
def iH (K:cW)(A:Adr):Sp:=oi A 2 fun B n ds=>PlR (bI "placed" B n ds)
def mn (K:cW)(A:Adr):Sp:=oi A 3 fun B n ds=>AnR (bI "full" B n ds) False
def lM (K:cW)(A:Adr):Sp:=oi A 4 fun B n ds=>AnR (bI "stretch" B n ds) False
def kf (n:Nat):Sp:=fun vs H Q _=>∃us,vs=us/\us.length=n/\Q .non H
def mO (K:cW)(A:Adr):Sp:=kf 1
def mG (K:cW)(A:Adr):Sp:=kf 3
def lF (K:cW)(A:Adr):Sp:=kf 3
def mZ (K:cW)(A:Adr):Sp:=kf 4
def mB (K:cW)(A:Adr):Sp:=kf 5
def qU (K:cW)(A:Adr):Sp:=fun vs H Q _=>False
def rc (K:cW)(A:Adr):Sp:=fun vs H Q _=>∃v w,vs=[v,w]/\∀p,H p=none->Q (.ref p) (upd H p (.tup [v,w]))
def qS (K:cW)(A:Adr):Sp:=fun vs H Q _=>∃v w,vs=[v,w]/\∀p,H p=none->Q (.ref p) (upd H p (.tup [w,v]))
def iF (K:cW)(A:Adr):Sp:=fun vs H Q _=>∃x dx f,vs=[.ref x,f]/\H x=some (.ins A.c_Spoken dx [])/\Q .non (upd H x (.ins A.c_Spoken dx [("answerer",f)]))
def SpA (A:Adr)(H:Hp)(x:Addr)(i:Bool)(v:V):Prop:=∃dx f c,H x=some (.ins A.c_Spoken dx [("answerer",.ref f)])/\dj H f (if i then dD else eD) [c] [v]
def SpQ (H:Hp)(i:Bool)(v:V)(w:Str)(us:List V)(Q:VK):Prop:=∀p r H',ar H H'->H' p=some (.tup (.str w::us))->H' r=some (.tup (if i then[.ref p,v]else[v,.ref p]))->Q (.ref r) H'
def kK (A:Adr)(n:Nat)(w:Str):Sp:=fun vs H Q _=>∃x us i v,vs=.ref x::us/\us.length=n/\SpA A H x i v/\SpQ H i v w us Q
def jM (K:cW)(A:Adr):Sp:=kK A 0 "newest"
def lJ (K:cW)(A:Adr):Sp:=kK A 2 "growth"
def lI (K:cW)(A:Adr):Sp:=kK A 2 "placed"
def lG (K:cW)(A:Adr):Sp:=kK A 3 "full"
def lN (K:cW)(A:Adr):Sp:=kK A 4 "stretch"
inductive Qu:Str->List V->Prop
 |gr (a b:V):Qu "growth" [a,b]
 |pl (a b:V):Qu "placed" [a,b]
 |fu (a b c:V):Qu "full" [a,b,c]
 |st (a b c d:V):Qu "stretch" [a,b,c,d]
def AsH (A:Adr)(H:Hp)(l:Addr)(w:Str)(us:List V)(Q:VK):Prop:=∃(f b:Addr)(g:gOp)(n B:Nat)(a:HA)(t:Kn Str)(ts:List (Kn Str))(ys:List Addr)(ds:List Dat),HoS A H l f b g n B a t ts ys/\n+400<=45000/\DatWs H us ds/\AN A H l f b g n B a t ts ys (AnR (bI w B ts.length ds) (Cp w ds)) Q
def eZ (K:cW)(A:Adr):Sp:=fun vs H Q _=>∃(l q:Addr)(w:Str)(us:List V),vs=[.ref l,.ref q]/\H q=some (.lst (.str w::us))/\Qu w us/\(AsH A H l w us Q\/(∃dx,H l=some (.ins A.c_Line dx [])/\Q .non H)\/∃i v,SpA A H l i v/\SpQ H i v w us Q)
inductive GdQ (B many:Nat):Str->List Int->Prop
 |gr (c p:Nat) (h1:c<=many) (h2:p<c):GdQ B many "growth" [c,p]
 |pl (c p:Nat) (h1:c<=many) (h2:p<c):GdQ B many "placed" [c,p]
 |fu (c p k:Nat) (h1:c<=many) (h2:p<c) (h3:k<2^B):GdQ B many "full" [c,p,k]
 |st (c p k l:Nat) (h1:c<=many) (h2:p<c) (h3:k<=l) (h4:l<2^B):GdQ B many "stretch" [c,p,k,l]
def mX (K:cW)(A:Adr):Sp:=fun vs H Q _=>∃(c:Int)(many B k o:Nat),vs=[.int c,.int (many:Int),.int (k:Int),.int (o:Int)]/\1<=many/\many<=5/\k<2^B/\o<2^B/\∀(q:Addr)(w:Str)(zs:List Int),H q=none->GdQ B many w zs->Q (.ref q) (upd H q (.lst (.str w::zs.map V.int)))
def inD (m:Int):Dat->Bool
 |.int i=>decide (0<=i/\i<m)
 |_=>false
def smD (d:Dat):Prop:=okD d=true/\(fj d).depth<=2
def Ji (H H':Hp)(v:V)(d:Dat):Prop:=∀H'':Hp,(∀z o,H z=none->H' z=some o->H'' z=some o)->aJ H'' v d
def iz (K:cW)(A:Adr):Sp:=fun vs H Q _=>∃c m:Int,vs=[.int c,.int m]/\0<=m/\∀(v:V)(d:Dat)(H':Hp),ar H H'->Ji H H' v d->inD m d=false->smD d->Q v H'
def lC (K:cW)(A:Adr):Sp:=fun vs H Q _=>∃(q:Addr)(c:Int)(many B:Nat)(w:Str)(zs:List Int),vs=[.ref q,.int c,.int (many:Int),.int (B:Int)]/\H q=some (.lst (.str w::zs.map V.int))/\GdQ B many w zs/\B<=60/\many<=5/\
 ∀(r:Addr)(us:List V)(ds:List Dat)(H':Hp),ar H H'->H' r=some (.lst (.str w::us))->Qu w us->DatWs H' us ds->bI w B many ds=false->Q (.ref r) H'
def jL (K:cW)(A:Adr):Sp:=fun vs H Q _=>∃(x y:Addr)(v w:V)(d e:Dat),vs=[.ref x,.ref y,v,w]/\SpA A H x true v/\SpA A H y false w/\aJ H v d/\aJ H w e/\smD d/\smD e/\∀H',ar H H'->Q (.bl true) H'
def my (K:cW)(A:Adr):Sp:=fun vs H Q _=>∃(a:Addr)(ns:List Int),vs=[.ref a]/\SqL K H a (ns.map V.int)/\ns.length<=63/\xE A H/\∀H',Q (.bl true) H'
def gP (K:cW)(A:Adr):L2.et:=[(dN,qF K A)]
def eQ (K:cW)(A:Adr):L2.et:=[(fb,qU K A),(dD,rc K A),(eD,qS K A)]
def zm (K:cW)(A:Adr):TE:=aK A.c_Numbers "number_of" (mL K A) (fun _=>E0) (ae 1) (ac (ae 0) (ai))
def Aq (K:cW)(A:Adr):TE:=ae 0
def zN (K:cW)(A:Adr):TE:=bv (ac (ae 0) (ac (ae 1) (ai)))
def An (K:cW)(A:Adr):TE:=bv (ac (ae 1) (ac (ae 0) (ai)))
def Ks (K:cW)(A:Adr):TS:=aC (cx (tCB (gw) (ac (ae 0) (ac (tC (.ty "int")) (ai)))) (qB (tCB (gw) (ac (ae 0) (ac (tC (.ty "bool")) (ai))))))
def Kk (K:cW)(A:Adr):TS:=ay (bp (cr K (ax (ft K A) (fun _=>E0) (ac (ae 0) (ai)))) (aC (dW (mLe) (mLt) (tC (.int 0)) (ae 0) (tOp (pR) (tC (.int 10)) (tC (.int 60))))) (aY)) (aC (tCB (gw) (ac (ae 0) (ac (tC (.ty "str")) (ai)))))
def ID (K:cW)(A:Adr):TS:=ay (bp (cO (cr K (tCB (gw) (ac (ae 0) (ac (tC (.ty "tuple")) (ai)))))) (aC (tC (.bl false))) (aY)) (ay (bp (cO (bg (dW (mLe) (mLe) (tC (.int 1)) (tCB (eW K) (ac (ae 0) (ai))) (tC (.int 8))))) (aC (tC (.bl false))) (aY)) (aC (cx (tCB (gw) (ac (tOp (bw K) (ae 0) (tC (.int 0))) (ac (tC (.ty "str")) (ai)))) (tCB (CU) (ac (pK [] (jG K (ae 0)) (fun _ H Q=>Q true H) (ax (iP K A) (fun _=>E0) (ac (ae 0) (ai)))) (ai))))))
def Jk (K:cW)(A:Adr):TS:=ay (bp (cO (cr K (ax (mR K A) (fun _=>E0) (ac (ae 1) (ai))))) (da) (aY)) (ay (bp (bg (tOp (ka K) (ae 1) (aE K (ae 0) "given"))) (aS (tCB (eW K) (ac (aE K (ae 0) "given") (ai))) (jh (aE K (ae 0) "given") (ae 1) gI)) (aY)) (aC (tOp (bw K) (aE K (ae 0) "given") (ae 1))))
def JM (K:cW)(A:Adr):TS:=ay (bp (bg (tOp (mLt) (ae 1) (tCB (eW K) (ac (ae 0) (ai))))) (aC (tOp (bw K) (ae 0) (ae 1))) (aY)) (aC (tC (.int 0)))
def IE (K:cW)(A:Adr):TS:=aC (cx (ax (ft K A) (fun _=>E0) (ac (ae 0) (ai))) (dW (mLe) (mLe) (tC (.int 1)) (ae 0) (tC (.int 60))))
def Kb (K:cW)(A:Adr):TS:=ay (cL K (ae 0) (ae 2) "term") (cL K (ae 0) (ng (gP K A) (fun _=>E0) (ae 1) (ac (ae 2) (ai))) "mark")
def T_0 (K:cW)(A:Adr):TS:=cI (ax (iC K A) (fun _=>E0) (ac (ae 0) (ac (ae 1) (ac (bv (ac (tC (.str "bare")) (ai))) (ai)))))
def JX (K:cW)(A:Adr):TS:=ay (bp (cO (cr K (ax (lV K A) (fun _=>E0) (ac (ae 2) (ai))))) (da) (aY)) (ay (cL K (ae 0) (ae 1) "stamper") (ay (cL K (ae 0) (ae 2) "bits") (cL K (ae 0) (bY A.c_Bare (qA K A) (fun _=>E0) (ac (ae 1) (ai))) "top")))
def IM (K:cW)(A:Adr):TS:=ay (cL K (ae 0) (ae 1) "stamper") (ay (cL K (ae 0) (cC (ai)) "entries") (cL K (ae 0) (jY) "tops"))
def Iv (K:cW)(A:Adr):TS:=aC (cx (ax (ft K A) (fun _=>E0) (ac (ae 0) (ai))) (dW (mLe) (mLt) (tC (.int 0)) (ae 0) (tOp (gk) (tC (.int 1)) (tC (.int 60)))))
def Iy (K:cW)(A:Adr):TS:=aC (cx (tCB (gw) (ac (ae 0) (ac (tC (.ty "tuple")) (ai)))) (cx (tOp (cg K) (tCB (eW K) (ac (ae 0) (ai))) (tC (.int 2))) (cx (ax (iE K A) (fun _=>E0) (ac (tOp (bw K) (ae 0) (tC (.int 0))) (ai))) (ax (iP K A) (fun _=>E0) (ac (tOp (bw K) (ae 0) (tC (.int 1))) (ai))))))
def Jj (K:cW)(A:Adr):TS:=bp (cO (cr K (ax (mf K A) (fun _=>E0) (ac (ae 0) (ai))))) (da) (aY)
def Jm (K:cW)(A:Adr):TS:=ay (cI (ax (mx K A) (fun _=>E0) (ac (ae 1) (ai)))) (aS (tC (.bl true)) (jh (aE K (ae 0) "sealed") (ae 1) gI))
def Kx (K:cW)(A:Adr):TS:=aC (cC (ac (bv (ac (tC (.str "void")) (ai))) (ac (bv (ac (tC (.str "row")) (ac (tC (.int 0)) (ac (ng (gP K A) (fun _=>E0) (ae 0) (ac (bv (ac (tC (.str "void")) (ai))) (ai))) (ai))))) (ai))))
def IG (K:cW)(A:Adr):TS:=aC (bv (ac (tC (.int 0)) (ac (ng (gP K A) (fun _=>E0) (ae 0) (ac (tOp (bw K) (ax (lx K A) (fun _=>E0) (ac (ae 0) (ai))) (tUn nY (tC (.int 1)))) (ai))) (ai))))
def Js (K:cW)(A:Adr):TS:=ay (cL K (ae 0) (bY A.c_Table (iD K A) (fun _=>E0) (ac (ae 1) (ac (ae 2) (ai)))) "table") (ay (cL K (ae 0) (bY A.c_Row (mU K A) (fun _=>E0) (ac (ae 1) (ai))) "row") (ay (cL K (ae 0) (cC (ai)) "makes") (ay (cL K (ae 0) (ae 3) "seals") (cI (aK A.c_Seals "seal" (jy K A) (fun _=>E0) (ae 3) (ac (ax (lU K A) (fun _=>E0) (ac (ae 1) (ai))) (ai)))))))
def Ky (K:cW)(A:Adr):TS:=cL K (ae 0) (jY) "given"
def As (K:cW)(A:Adr)(q0:Addr):TSM:=eR (eA (aS (bY A.c_Numbers (ly K A) (fun _=>E0) (ai)) (aI 0))) (nK (nQ A.t_63 ⟨438,11,438,47⟩ dN [q0]))
def Kf (K:cW)(A:Adr):TS:=cL K (ae 0) (jY) "sealed"
def Jt (K:cW)(A:Adr):TS:=aC (cx (ax (ft K A) (fun _=>E0) (ac (ae 1) (ai))) (dW (mLe) (mLt) (tC (.int 0)) (ae 1) (tOp (gk) (tC (.int 1)) (ae 0))))
def T_1 (K:cW)(A:Adr):TS:=aC (tC .non)
def JT (K:cW)(A:Adr):TS:=aC (mIf (bg (tOp (cg K) (ae 2) (aE K (ae 0) "key"))) (aE K (ae 0) "text") (tC .non))
def JH (K:cW)(A:Adr):TS:=aC (tOp (qq) (tOp (qi) (ae 1) (tOp (cJ) (tOp (cJ) (ae 0) (ae 2)) (tC (.int 1)))) (tC (.int 1)))
def T_8 (K:cW)(A:Adr):TS:=aC (mIf (bg (tOp (cg K) (ax (gY K A) (fun _=>E0) (ac (ae 1) (ac (ae 2) (ac (aE K (ae 0) "depth") (ai))))) (tC (.int 0)))) (aE K (ae 0) "left") (aE K (ae 0) "right"))
def T_6 (K:cW)(A:Adr)(n:Nat):TS:=aC (eT [(A.c_Bare,(ki K A)),(A.c_Leaf,(iO K A)),(A.c_Fork,(iV K A n))] "found" (fun _=>E0) (aK A.c_Fork "toward" (jm K A) (fun _=>E0) (ae 0) (ac (ae 1) (ac (ae 2) (ai)))) (ac (ae 1) (ac (ae 2) (ai))))
def IT (K:cW)(A:Adr):TS:=ay (bp (cO (cr K (ax (eY K A) (fun _=>E0) (ac (aE K (ae 0) "bits") (ac (ae 1) (ai)))))) (da) (aY)) (aC (eT [(A.c_Bare,(ki K A)),(A.c_Leaf,(iO K A)),(A.c_Fork,(iV K A 70))] "found" (fun _=>E0) (aE K (ae 0) "top") (ac (aE K (ae 0) "bits") (ac (ae 1) (ai)))))
def Kj (K:cW)(A:Adr):TS:=aC (cx (tCB (gw) (ac (ae 0) (ac (tC (.ty "str")) (ai)))) (tOp (mLe) (tCB (eW K) (ac (ae 0) (ai))) (tC (.int 60))))
def JQ (K:cW)(A:Adr):TS:=ay (cI (ax (iC K A) (fun _=>E0) (ac (ae 0) (ac (ae 1) (ac (bv (ac (tC (.str "leaf")) (ac (ae 2) (ac (ae 3) (ai))))) (ai)))))) (ay (cL K (ae 0) (ae 2) "key") (cL K (ae 0) (ae 3) "text"))
def T_2 (K:cW)(A:Adr):TS:=aC (bY A.c_Leaf (gU K A) (fun _=>E0) (ac (ae 1) (ac (ae 3) (ac (ae 4) (ai)))))
def JU (K:cW)(A:Adr):TS:=aC (tOp (qi) (ae 1) (tOp (cJ) (ae 0) (ae 2)))
def T_3 (K:cW)(A:Adr):TS:=ay (cI (ax (iC K A) (fun _=>E0) (ac (ae 0) (ac (ae 1) (ac (bv (ac (tC (.str "fork")) (ac (ae 2) (ac (ae 3) (ac (aE K (ae 4) "mark") (ac (aE K (ae 5) "mark") (ai))))))) (ai)))))) (ay (cL K (ae 0) (ae 2) "depth") (ay (cL K (ae 0) (ae 3) "begin") (ay (cL K (ae 0) (ae 4) "left") (cL K (ae 0) (ae 5) "right"))))
def IL (K:cW)(A:Adr):TS:=ay (aS (ax (ix K A) (fun _=>E0) (ac (ae 1) (ac (aE K (ae 3) "key") (ac (ae 2) (ai))))) (aI 5)) (ay (bp (bg (tOp (cg K) (ax (gY K A) (fun _=>E0) (ac (ae 1) (ac (aE K (ae 3) "key") (ac (ae 2) (ai))))) (tC (.int 0)))) (aC (bY A.c_Fork (iu K A) (fun _=>E0) (ac (ae 0) (ac (ae 2) (ac (ae 5) (ac (ae 3) (ac (ae 4) (ai)))))))) (aY)) (aC (bY A.c_Fork (iu K A) (fun _=>E0) (ac (ae 0) (ac (ae 2) (ac (ae 5) (ac (ae 4) (ac (ae 3) (ai)))))))))
def JI (K:cW)(A:Adr):TS:=aC (tOp (cJ) (ae 0) (qp K "int" nh (tOp (ur) (ae 1) (ae 2))))
def Jl (K:cW)(A:Adr):TS:=ay (aS (bY A.c_Leaf (gU K A) (fun _=>E0) (ac (ae 1) (ac (ae 3) (ac (ae 4) (ai))))) (aI 5)) (ay (bp (bg (tOp (cg K) (ae 3) (aE K (ae 0) "key"))) (aC (ae 5)) (aY)) (aC (ax (jJ K A) (fun _=>E0) (ac (ae 1) (ac (ae 2) (ac (ax (jr K A) (fun _=>E0) (ac (ae 2) (ac (ae 3) (ac (aE K (ae 0) "key") (ai))))) (ac (ae 5) (ac (ae 0) (ai)))))))))
def T_7 (K:cW)(A:Adr):TS:=aC (tOp (cg K) (ax (ix K A) (fun _=>E0) (ac (ae 1) (ac (ae 2) (ac (aE K (ae 0) "depth") (ai))))) (aE K (ae 0) "begin"))
def T_5 (K:cW)(A:Adr):TS:=ay (bp (bg (tOp (cg K) (ax (gY K A) (fun _=>E0) (ac (ae 2) (ac (ae 3) (ac (aE K (ae 0) "depth") (ai))))) (tC (.int 0)))) (aC (bY A.c_Fork (iu K A) (fun _=>E0) (ac (ae 1) (ac (aE K (ae 0) "depth") (ac (aE K (ae 0) "begin") (ac (ae 4) (ac (aE K (ae 0) "right") (ai)))))))) (aY)) (aC (bY A.c_Fork (iu K A) (fun _=>E0) (ac (ae 1) (ac (aE K (ae 0) "depth") (ac (aE K (ae 0) "begin") (ac (aE K (ae 0) "left") (ac (ae 4) (ai))))))))
def T_9 (K:cW)(A:Adr)(n:Nat):TS:=ay (bp (cO (cr K (aK A.c_Fork "leads" (nR K A) (fun _=>E0) (ae 0) (ac (ae 2) (ac (ae 3) (ai)))))) (ay (aS (ax (jr K A) (fun _=>E0) (ac (aE K (ae 0) "depth") (ac (aE K (ae 0) "begin") (ac (ax (ix K A) (fun _=>E0) (ac (ae 2) (ac (ae 3) (ac (aE K (ae 0) "depth") (ai))))) (ai))))) (aI 5)) (aC (ax (jJ K A) (fun _=>E0) (ac (ae 1) (ac (ae 2) (ac (ae 5) (ac (bY A.c_Leaf (gU K A) (fun _=>E0) (ac (ae 1) (ac (ae 3) (ac (ae 4) (ai))))) (ac (ae 0) (ai))))))))) (aY)) (aC (aK A.c_Fork "changed" (pH K A) (fun _=>E0) (ae 0) (ac (ae 1) (ac (ae 2) (ac (ae 3) (ac (eT [(A.c_Bare,(ko K A)),(A.c_Leaf,(iJ K A)),(A.c_Fork,(jl K A n))] "with_key" (fun _=>E0) (aK A.c_Fork "toward" (jm K A) (fun _=>E0) (ae 0) (ac (ae 2) (ac (ae 3) (ai)))) (ac (ae 1) (ac (ae 2) (ac (ae 3) (ac (ae 4) (ai)))))) (ai)))))))
def Kr (K:cW)(A:Adr):TS:=ay (aS (aK A.c_Table "value_of" (mM K A) (fun _=>E0) (ae 0) (ac (ae 1) (ai))) (aI 3)) (ay (bp (cO (cr K (ax (lH K A) (fun _=>E0) (ac (ae 2) (ai))))) (da) (aY)) (ay (cL K (ae 0) (eT [(A.c_Bare,(ko K A)),(A.c_Leaf,(iJ K A)),(A.c_Fork,(jl K A 70))] "with_key" (fun _=>E0) (aE K (ae 0) "top") (ac (aE K (ae 0) "stamper") (ac (aE K (ae 0) "bits") (ac (ae 1) (ac (ae 2) (ai)))))) "top") (aC (ae 3))))
def Io (K:cW)(A:Adr):TS:=aC (aK A.c_Table "put" (jV K A) (fun _=>E0) (aE K (ae 0) "table") (ac (ae 1) (ac (ae 2) (ai))))
def IZ (K:cW)(A:Adr):TS:=ay (aS (tOp (gk) (tC (.int 1)) (ae 1)) (aI 2)) (ay (bp (bg (tOp (cg K) (tOp (dE) (ae 0) (tC (.int 3))) (tC (.int 0)))) (aC (tOp (dE) (tOp (dS) (ae 0) (tC (.int 3))) (ae 2))) (aY)) (ay (bp (bg (tOp (cg K) (tOp (dE) (ae 0) (tC (.int 3))) (tC (.int 1)))) (aC (tOp (dE) (tOp (nZ) (tOp (dS) (ae 0) (tC (.int 3))) (tC (.int 982451653))) (ae 2))) (aY)) (aC (tOp (cJ) (tOp (cJ) (ae 2) (tC (.int 1))) (tOp (dE) (tOp (dS) (ae 0) (tC (.int 3))) (ae 2))))))
def Ip (K:cW)(A:Adr):TS:=ay (bp (cO (cr K (ax (iP K A) (fun _=>E0) (ac (ae 1) (ai))))) (da) (aY)) (ay (cI (tBM K "list" dZ (aE K (ae 0) "entries") (ac (ae 1) (ai)))) (aC (tOp (cJ) (tCB (eW K) (ac (aE K (ae 0) "entries") (ai))) (tC (.int 1)))))
def Jn (K:cW)(A:Adr):TS:=aC (aE K (aE K (ae 0) "top") "mark")
def Ig (K:cW)(A:Adr):TS:=ay (aS (bY A.c_Table (iD K A) (fun _=>E0) (ac (aE K (ae 0) "stamper") (ac (aE K (ae 0) "bits") (ai)))) (aI 1)) (ay (cL K (ae 1) (aE K (ae 0) "top") "top") (aC (ae 1)))
def IB (K:cW)(A:Adr):TS:=aC (tCB (eW K) (ac (aE K (ae 0) "entries") (ai)))
def II (K:cW)(A:Adr):TS:=aC (cx (ax (iE K A) (fun _=>E0) (ac (ae 0) (ai))) (cx (ax (ft K A) (fun _=>E0) (ac (ae 1) (ai))) (dW (mLe) (mLe) (tC (.int 0)) (ae 1) (ae 0))))
def JR (K:cW)(A:Adr):TS:=aC (cx (ax (lz K A) (fun _=>E0) (ac (ae 1) (ac (ae 2) (ai)))) (tOp (mLe) (ae 1) (aK A.c_Row "size" (gJ K A) (fun _=>E0) (ae 0) ai)))
def JE (K:cW)(A:Adr):TS:=aC (tOp (gk) (tC (.int 1)) (tOp (cJ) (qp K "int" nh (tOp (cJ) (ae 0) (tC (.int 1)))) (tC (.int 1))))
def Jv (K:cW)(A:Adr)(n:Nat):TS:=ay (bp (bg (tOp (cg K) (ae 2) (tC (.int 0)))) (aC (bv (ac (tC (.str "void")) (ai)))) (aY)) (ay (bp (bg (tOp (cg K) (ae 2) (tC (.int 1)))) (aC (bv (ac (tC (.str "entry")) (ac (tOp (bw K) (aE K (ae 0) "entries") (ae 1)) (ai))))) (aY)) (ay (aS (ax (gE K A) (fun _=>E0) (ac (ae 2) (ai))) (aI 3)) (aC (bv (ac (tC (.str "joint")) (ac (aK A.c_Row "top_of" (dF K A n) (fun _=>E0) (ae 0) (ac (ae 1) (ac (ae 3) (ai)))) (ac (aK A.c_Row "top_of" (dF K A n) (fun _=>E0) (ae 0) (ac (tOp (bX K) (ae 1) (ae 3)) (ac (tOp (cJ) (ae 2) (ae 3)) (ai)))) (ai))))))))
def Kt (K:cW)(A:Adr)(n:Nat):TS:=ay (aS (bv (ac (ae 1) (ac (ae 2) (ai)))) (aI 3)) (ay (bp (bg (tOp (ka K) (ae 3) (aE K (ae 0) "tops"))) (aS (oa (gP K A) A.c_Row "stamper" (fun _=>E0) (ae 0) (ac (aK A.c_Row "top_term" (mP K A n) (fun _=>E0) (ae 0) (ac (ae 1) (ac (ae 2) (ai)))) (ai))) (jh (aE K (ae 0) "tops") (ae 3) gI)) (aY)) (aC (tOp (bw K) (aE K (ae 0) "tops") (ae 3))))
def KB (K:cW)(A:Adr):TS:=ay (bp (cO (cr K (aK A.c_Row "has_elder" (iB K A) (fun _=>E0) (ae 0) (ac (aK A.c_Row "size" (gJ K A) (fun _=>E0) (ae 0) ai) (ac (ae 1) (ai)))))) (da) (aY)) (aC (oa (gP K A) A.c_Row "stamper" (fun _=>E0) (ae 0) (ac (bv (ac (tC (.str "row")) (ac (ae 1) (ac (aK A.c_Row "top_of" (dF K A 70) (fun _=>E0) (ae 0) (ac (tC (.int 0)) (ac (ae 1) (ai)))) (ai))))) (ai))))
def JO (K:cW)(A:Adr):TS:=ay (aS (aK A.c_Row "size" (gJ K A) (fun _=>E0) (aE K (ae 0) "row") ai) (aI 1)) (aC (bv (ac (ae 1) (ac (aK A.c_Row "mark_at" (lB K A) (fun _=>E0) (aE K (ae 0) "row") (ac (ae 1) (ai))) (ai)))))
def IH (K:cW)(A:Adr):TS:=ay (cI (aK A.c_Row "add" (mj K A) (fun _=>E0) (aE K (ae 0) "row") (ac (aK A.c_Table "root" (lY K A) (fun _=>E0) (aE K (ae 0) "table") ai) (ai)))) (ay (cI (tBM K "list" dZ (aE K (ae 0) "makes") (ac (aK A.c_Table "twin" (lA K A) (fun _=>E0) (aE K (ae 0) "table") ai) (ai)))) (ay (aS (aK A.c_House "newest" (mh K A) (fun _=>E0) (ae 0) ai) (aI 1)) (ay (cI (aK A.c_Seals "seal" (jy K A) (fun _=>E0) (aE K (ae 0) "seals") (ac (ae 1) (ai)))) (aC (ae 1)))))
def Jf (K:cW)(A:Adr):TS:=cL K (ae 0) (ae 1) "answerer"
def JF (K:cW)(A:Adr):TS:=ay (aS (tOp (bX K) (tC (.int 1)) (tOp (dE) (ae 0) (ae 1))) (aI 4)) (ay (aS (tOp (dE) (tOp (dS) (ae 0) (ae 1)) (ae 4)) (aI 5)) (ay (bp (bg (tOp (cg K) (tOp (dE) (ae 0) (tC (.int 4))) (tC (.int 0)))) (aC (cC (ac (tC (.str "growth")) (ac (ae 4) (ac (ae 5) (ai)))))) (aY)) (ay (bp (bg (tOp (cg K) (tOp (dE) (ae 0) (tC (.int 4))) (tC (.int 1)))) (aC (cC (ac (tC (.str "placed")) (ac (ae 4) (ac (ae 5) (ai)))))) (aY)) (ay (bp (bg (tOp (cg K) (tOp (dE) (ae 0) (tC (.int 4))) (tC (.int 2)))) (aC (cC (ac (tC (.str "full")) (ac (ae 4) (ac (ae 5) (ac (ae 2) (ai))))))) (aY)) (aC (cC (ac (tC (.str "stretch")) (ac (ae 4) (ac (ae 5) (ac (tCB (tM) (ac (ae 2) (ac (ae 3) (ai)))) (ac (tCB (ug) (ac (ae 2) (ac (ae 3) (ai)))) (ai))))))))))))
def Jb (K:cW)(A:Adr):TS:=ay (aS (tOp (dS) (ae 0) (tC (.int 8))) (aI 2)) (ay (aS (tOp (dE) (ae 0) (tC (.int 8))) (aI 3)) (ay (bp (bg (tOp (mLt) (ae 3) (tC (.int 3)))) (aC (tOp (bw K) (cC (ac (tOp (cJ) (tUn nY (tC (.int 1))) (tOp (dE) (ae 2) (tC (.int 5)))) (ac (ae 1) (ac (tOp (bX K) (ae 1) (tOp (dE) (ae 2) (tOp (pR) (tC (.int 10)) (tC (.int 40))))) (ai))))) (ae 3))) (aY)) (ay (bp (bg (tOp (mLt) (ae 3) (tC (.int 6)))) (aC (tOp (bw K) (cC (ac (tC (.bl true)) (ac (tC .non) (ac (tC (.str "0")) (ai))))) (tOp (cJ) (ae 3) (tC (.int 3))))) (aY)) (aC (tOp (bw K) (cC (ac (bv (ac (tC (.int 0)) (ai))) (ac (cC (ac (tC (.int 0)) (ai))) (ai)))) (tOp (cJ) (ae 3) (tC (.int 6))))))))
def AA (K:cW)(A:Adr):TS:=aC (ae 4)
def Ca (K:cW)(A:Adr):TS:=ay (bp (ox (bg (tOp (cg K) (tCB (eW K) (ac (ae 0) (ai))) (tC (.int 5)))) (ox (bg (tOp (mLt) (tOp (bw K) (ae 0) (tC (.int 3))) (tOp (bw K) (ae 0) (tC (.int 4))))) (bg (tOp (cg K) (tOp (dE) (ae 1) (tC (.int 5))) (tC (.int 0)))))) (aS (tOp (bX K) (tSl (sW K) (ae 0) (kR) (ju (tC (.int 3)))) (cC (ac (tOp (bw K) (ae 0) (tC (.int 4))) (ac (tOp (bw K) (ae 0) (tC (.int 3))) (ai))))) (aI 4)) (aY)) (AA K A)
def rA (K:cW)(A:Adr):TS:=ay (aS (ax (iz K A) (fun _=>E0) (ac (tOp (dS) (ae 1) (tC (.int 4))) (ac (tOp (bw K) (ae 6) (tOp (cJ) (ae 5) (tC (.int 1)))) (ai)))) (jh (ae 4) (ae 5) gI)) (Ca K A)
def IK (K:cW)(A:Adr):TS:=ay (aS (tCB (xI K) (ac (ae 0) (ai))) (aI 4)) (ay (aS (tOp (bX K) (tC (.int 1)) (tOp (dE) (ae 1) (tOp (cJ) (tCB (eW K) (ac (ae 0) (ai))) (tC (.int 1))))) (aI 5)) (ay (aS (cC (ac (tOp (bX K) (ae 2) (tC (.int 1))) (ac (tOp (bw K) (ae 0) (tC (.int 1))) (ac (tOp (gk) (tC (.int 1)) (ae 3)) (ac (tOp (gk) (tC (.int 1)) (ae 3)) (ai)))))) (aI 6)) (ay (bp (bg (tOp (cg K) (tOp (bw K) (ae 0) (tC (.int 0))) (tC (.str "growth")))) (aS (tOp (bX K) (tOp (bw K) (ae 0) (tC (.int 1))) (tC (.int 1))) (jh (ae 6) (tC (.int 1)) gI)) (aY)) (rA K A))))
def Ja (K:cW)(A:Adr):TS:=aC (tC .non)
def Iq (K:cW)(A:Adr):TS:=aC (fA (eQ K A) A.c_Spoken "answerer" (fun _=>E0) (ae 0) (ac (bv (ac (tC (.str "growth")) (ac (ae 1) (ac (ae 2) (ai))))) (ai)))
def KG (K:cW)(A:Adr)(n:Nat):TS:=ay (bp (mOr (bg (tOp (cg K) (ae 3) (tC (.int 0)))) (bg (tOp (cg K) (ae 3) (ae 2)))) (aC (bv (ac (aK A.c_Row "top_of" (dF K A 70) (fun _=>E0) (ae 0) (ac (ae 1) (ac (ae 2) (ai)))) (ai)))) (aY)) (ay (aS (ax (gE K A) (fun _=>E0) (ac (ae 2) (ai))) (aI 4)) (ay (bp (bg (tOp (mLe) (ae 3) (ae 4))) (aC (tOp (bX K) (aK A.c_Row "growth_marks" (gW K A n) (fun _=>E0) (ae 0) (ac (ae 1) (ac (ae 4) (ac (ae 3) (ai))))) (bv (ac (aK A.c_Row "top_of" (dF K A 70) (fun _=>E0) (ae 0) (ac (tOp (bX K) (ae 1) (ae 4)) (ac (tOp (cJ) (ae 2) (ae 4)) (ai)))) (ai))))) (aY)) (aC (tOp (bX K) (bv (ac (aK A.c_Row "top_of" (dF K A 70) (fun _=>E0) (ae 0) (ac (ae 1) (ac (ae 4) (ai)))) (ai))) (aK A.c_Row "growth_marks" (gW K A n) (fun _=>E0) (ae 0) (ac (tOp (bX K) (ae 1) (ae 4)) (ac (tOp (cJ) (ae 2) (ae 4)) (ac (tOp (cJ) (ae 3) (ae 4)) (ai)))))))))
def Kv (K:cW)(A:Adr):TS:=ay (bp (cO (cr K (aK A.c_Row "has_elder" (iB K A) (fun _=>E0) (ae 0) (ac (ae 1) (ac (ae 2) (ai)))))) (da) (aY)) (aC (mIf (bg (tOp (mGt) (ae 1) (tC (.int 0)))) (aK A.c_Row "growth_marks" (gW K A 70) (fun _=>E0) (ae 0) (ac (tC (.int 0)) (ac (ae 1) (ac (ae 2) (ai))))) (bv (ai))))
def IQ (K:cW)(A:Adr):TS:=aC (mIf (cr K (aK A.c_Row "has_elder" (iB K A) (fun _=>E0) (aE K (ae 0) "row") (ac (ae 1) (ac (ae 2) (ai))))) (aK A.c_Row "growth_paper" (mD K A) (fun _=>E0) (aE K (ae 0) "row") (ac (ae 1) (ac (ae 2) (ai)))) (tC .non))
def JJ (K:cW)(A:Adr):TS:=aC (tC .non)
def JV (K:cW)(A:Adr):TS:=aC (fA (eQ K A) A.c_Spoken "answerer" (fun _=>E0) (ae 0) (ac (bv (ac (tC (.str "placed")) (ac (ae 1) (ac (ae 2) (ai))))) (ai)))
def Jh (K:cW)(A:Adr):TS:=aC (cx (ax (iE K A) (fun _=>E0) (ac (ae 0) (ai))) (cx (ax (ft K A) (fun _=>E0) (ac (ae 1) (ai))) (dW (mLe) (mLt) (tC (.int 0)) (ae 1) (ae 0))))
def Jp (K:cW)(A:Adr):TS:=aC (cx (ax (ni K A) (fun _=>E0) (ac (ae 1) (ac (ae 2) (ai)))) (tOp (mLe) (ae 1) (aK A.c_Row "size" (gJ K A) (fun _=>E0) (ae 0) ai)))
def Ko (K:cW)(A:Adr):TS:=ay (aS (cC (ai)) (aI 2)) (ay (aS (tC (.int 0)) (aI 3)) (ay (aS (ae 1) (aI 4)) (ay (jU (bg (tOp (mGt) (ae 4) (tC (.int 1)))) (ay (aS (ax (gE K A) (fun _=>E0) (ac (ae 4) (ai))) (aI 5)) (bp (bg (tOp (mLt) (ae 0) (tOp (bX K) (ae 3) (ae 5)))) (ay (cI (tBM K "list" dZ (ae 2) (ac (tC (.int 0)) (ai)))) (aS (ae 5) (aI 4))) (ay (cI (tBM K "list" dZ (ae 2) (ac (tC (.int 1)) (ai)))) (ay (aS (tOp (bX K) (ae 3) (ae 5)) (aI 3)) (aS (tOp (cJ) (ae 4) (ae 5)) (aI 4))))))) (aC (ae 2)))))
def KH (K:cW)(A:Adr):TS:=ay (bp (cO (cr K (aK A.c_Row "has_place" (jA K A) (fun _=>E0) (ae 0) (ac (ae 1) (ac (ae 2) (ai)))))) (da) (aY)) (ay (aS (cC (ai)) (aI 3)) (ay (aS (tC (.int 0)) (aI 4)) (ay (aS (ae 1) (aI 5)) (ay (kc (jG K (ax (lQ K A) (fun _=>E0) (ac (ae 2) (ac (ae 1) (ai))))) (aI 6) (ay (aS (ax (gE K A) (fun _=>E0) (ac (ae 5) (ai))) (aI 7)) (bp (bg (tOp (cg K) (ae 6) (tC (.int 0)))) (ay (cI (tBM K "list" dZ (ae 3) (ac (aK A.c_Row "top_of" (dF K A 70) (fun _=>E0) (ae 0) (ac (tOp (bX K) (ae 4) (ae 7)) (ac (tOp (cJ) (ae 5) (ae 7)) (ai)))) (ai)))) (aS (ae 7) (aI 5))) (ay (cI (tBM K "list" dZ (ae 3) (ac (aK A.c_Row "top_of" (dF K A 70) (fun _=>E0) (ae 0) (ac (ae 4) (ac (ae 7) (ai)))) (ai)))) (ay (aS (tOp (bX K) (ae 4) (ae 7)) (aI 4)) (aS (tOp (cJ) (ae 5) (ae 7)) (aI 5))))))) (aC (bv (ac (tOp (bw K) (aE K (ae 0) "entries") (ae 2)) (ac (tCB (im K) (ac (ae 3) (ai))) (ai)))))))))
def Iz (K:cW)(A:Adr):TS:=aC (mIf (cr K (aK A.c_Row "has_place" (jA K A) (fun _=>E0) (aE K (ae 0) "row") (ac (ae 1) (ac (ae 2) (ai))))) (aK A.c_Row "place_paper" (mT K A) (fun _=>E0) (aE K (ae 0) "row") (ac (ae 1) (ac (ae 2) (ai)))) (tC .non))
def Iw (K:cW)(A:Adr):TS:=aC (tC .non)
def IR (K:cW)(A:Adr):TS:=aC (fA (eQ K A) A.c_Spoken "answerer" (fun _=>E0) (ae 0) (ac (bv (ac (tC (.str "full")) (ac (ae 1) (ac (ae 2) (ac (ae 3) (ai)))))) (ai)))
def T_4 (K:cW)(A:Adr):TS:=aC (mIf (bg (tOp (cg K) (ax (gY K A) (fun _=>E0) (ac (ae 1) (ac (ae 2) (ac (aE K (ae 0) "depth") (ai))))) (tC (.int 0)))) (aE K (ae 0) "right") (aE K (ae 0) "left"))
def JC (K:cW)(A:Adr):TS:=ay (bp (cO (cr K (ax (eY K A) (fun _=>E0) (ac (aE K (ae 0) "bits") (ac (ae 1) (ai)))))) (da) (aY)) (ay (aS (cC (ai)) (aI 2)) (ay (aS (aE K (ae 0) "top") (aI 3)) (ay (jU (ox (cr K (tCB (jw K) (ac (ae 3) (ac (tC (.ref A.c_Fork)) (ai))))) (cr K (aK A.c_Fork "leads" (nR K A) (fun _=>E0) (ae 3) (ac (aE K (ae 0) "bits") (ac (ae 1) (ai)))))) (ay (cI (tBM K "list" dZ (ae 2) (ac (bv (ac (aE K (ae 3) "depth") (ac (aE K (aK A.c_Fork "aside" (nF K A) (fun _=>E0) (ae 3) (ac (aE K (ae 0) "bits") (ac (ae 1) (ai)))) "mark") (ai)))) (ai)))) (aS (aK A.c_Fork "toward" (jm K A) (fun _=>E0) (ae 3) (ac (aE K (ae 0) "bits") (ac (ae 1) (ai)))) (aI 3)))) (aC (bv (ac (tCB (im K) (ac (ae 2) (ai))) (ac (aE K (ae 3) "term") (ai))))))))
def Jw (K:cW)(A:Adr):TS:=ay (aS (aK A.c_House "placed" (iH K A) (fun _=>E0) (ae 0) (ac (ae 1) (ac (ae 2) (ai)))) (aI 4)) (ay (bp (mOr (bg (tOp (ou) (ae 4) (tC .non))) (cO (cr K (ax (eY K A) (fun _=>E0) (ac (aE K (aE K (ae 0) "table") "bits") (ac (ae 3) (ai))))))) (aC (tC .non)) (aY)) (aC (bv (ac (tOp (bw K) (ae 4) (tC (.int 1))) (ac (ax (mF K A) (fun _=>E0) (ac (tOp (bw K) (aE K (ae 0) "makes") (ae 2)) (ac (ae 3) (ai)))) (ai))))))
def Kg (K:cW)(A:Adr):TS:=aC (tC .non)
def KC (K:cW)(A:Adr):TS:=aC (fA (eQ K A) A.c_Spoken "answerer" (fun _=>E0) (ae 0) (ac (bv (ac (tC (.str "stretch")) (ac (ae 1) (ac (ae 2) (ac (ae 3) (ac (ae 4) (ai))))))) (ai)))
def IN (K:cW)(A:Adr):TS:=aC (cx (ax (eY K A) (fun _=>E0) (ac (ae 0) (ac (ae 1) (ai)))) (cx (ax (eY K A) (fun _=>E0) (ac (ae 0) (ac (ae 2) (ai)))) (tOp (mLe) (ae 1) (ae 2))))
def JA (K:cW)(A:Adr):TS:=ay (bp (mOr (cO (cr K (ax (eY K A) (fun _=>E0) (ac (ae 0) (ac (ae 1) (ai)))))) (cO (cr K (ax (eY K A) (fun _=>E0) (ac (ae 0) (ac (ae 2) (ai))))))) (da) (aY)) (bp (bg (tOp (mGt) (ae 1) (ae 2))) (da) (aY))
def Jc (K:cW)(A:Adr):TS:=ay (aS (tOp (cJ) (ae 0) (ae 1)) (aI 3)) (aC (bv (ac (tOp (gk) (ae 2) (ae 3)) (ac (tOp (cJ) (tOp (gk) (tOp (bX K) (ae 2) (tC (.int 1))) (ae 3)) (tC (.int 1))) (ai)))))
def Ir (K:cW)(A:Adr):TS:=ay (aS (ax (mK K A) (fun _=>E0) (ac (ae 0) (ac (ae 3) (ac (ae 4) (ai))))) (aI 5)) (aC (cx (tOp (mLe) (tOp (bw K) (ae 5) (tC (.int 0))) (ae 2)) (tOp (mLe) (ae 1) (tOp (bw K) (ae 5) (tC (.int 1))))))
def JB (K:cW)(A:Adr)(n:Nat):TS:=ay (bp (cO (cr K (ax (mI K A) (fun _=>E0) (ac (ae 0) (ac (ae 1) (ac (ae 2) (ac (ae 3) (ac (ae 4) (ai))))))))) (aC (bv (ac (tC (.str "cut")) (ac (aE K (ae 5) "mark") (ai))))) (aY)) (ay (bp (cO (cr K (tCB (jw K) (ac (ae 5) (ac (tC (.ref A.c_Fork)) (ai)))))) (aC (aE K (ae 5) "term")) (aY)) (ay (aS (ax (gM K A n) (fun _=>E0) (ac (ae 0) (ac (ae 1) (ac (ae 2) (ac (tOp (bX K) (aE K (ae 5) "depth") (tC (.int 1))) (ac (tOp (nZ) (tC (.int 2)) (aE K (ae 5) "begin")) (ac (aE K (ae 5) "left") (ai)))))))) (aI 6)) (ay (aS (ax (gM K A n) (fun _=>E0) (ac (ae 0) (ac (ae 1) (ac (ae 2) (ac (tOp (bX K) (aE K (ae 5) "depth") (tC (.int 1))) (ac (tOp (bX K) (tOp (nZ) (tC (.int 2)) (aE K (ae 5) "begin")) (tC (.int 1))) (ac (aE K (ae 5) "right") (ai)))))))) (aI 7)) (aC (bv (ac (tC (.str "fork")) (ac (aE K (ae 5) "depth") (ac (aE K (ae 5) "begin") (ac (ae 6) (ac (ae 7) (ai)))))))))))
def JG (K:cW)(A:Adr):TS:=ay (cI (ax (lP K A) (fun _=>E0) (ac (aE K (ae 0) "bits") (ac (ae 1) (ac (ae 2) (ai)))))) (aC (ax (gM K A 70) (fun _=>E0) (ac (aE K (ae 0) "bits") (ac (ae 1) (ac (ae 2) (ac (tC (.int 0)) (ac (tC (.int 0)) (ac (aE K (ae 0) "top") (ai)))))))))
def Ij (K:cW)(A:Adr):TS:=ay (aS (aK A.c_House "placed" (iH K A) (fun _=>E0) (ae 0) (ac (ae 1) (ac (ae 2) (ai)))) (aI 5)) (ay (bp (mOr (bg (tOp (ou) (ae 5) (tC .non))) (cO (cr K (ax (mV K A) (fun _=>E0) (ac (aE K (aE K (ae 0) "table") "bits") (ac (ae 3) (ac (ae 4) (ai)))))))) (aC (tC .non)) (aY)) (aC (bv (ac (tOp (bw K) (ae 5) (tC (.int 1))) (ac (ax (mY K A) (fun _=>E0) (ac (tOp (bw K) (aE K (ae 0) "makes") (ae 2)) (ac (ae 3) (ac (ae 4) (ai))))) (ai))))))
def JK (K:cW)(A:Adr):TS:=ay (aS (tOp (bw K) (ae 1) (tC (.int 0))) (aI 2)) (ay (bp (bg (tOp (cg K) (ae 2) (tC (.str "growth")))) (aC (eT [(A.c_Line,(mG K A)),(A.c_Spoken,(lJ K A)),(A.c_House,(mi K A))] "growth" (fun _=>E0) (ae 0) (ac (tOp (bw K) (ae 1) (tC (.int 1))) (ac (tOp (bw K) (ae 1) (tC (.int 2))) (ai))))) (aY)) (ay (bp (bg (tOp (cg K) (ae 2) (tC (.str "placed")))) (aC (eT [(A.c_Line,(lF K A)),(A.c_Spoken,(lI K A)),(A.c_House,(iH K A))] "placed" (fun _=>E0) (ae 0) (ac (tOp (bw K) (ae 1) (tC (.int 1))) (ac (tOp (bw K) (ae 1) (tC (.int 2))) (ai))))) (aY)) (ay (bp (bg (tOp (cg K) (ae 2) (tC (.str "full")))) (aC (eT [(A.c_Line,(mZ K A)),(A.c_Spoken,(lG K A)),(A.c_House,(mn K A))] "full" (fun _=>E0) (ae 0) (ac (tOp (bw K) (ae 1) (tC (.int 1))) (ac (tOp (bw K) (ae 1) (tC (.int 2))) (ac (tOp (bw K) (ae 1) (tC (.int 3))) (ai)))))) (aY)) (aC (eT [(A.c_Line,(mB K A)),(A.c_Spoken,(lN K A)),(A.c_House,(lM K A))] "stretch" (fun _=>E0) (ae 0) (ac (tOp (bw K) (ae 1) (tC (.int 1))) (ac (tOp (bw K) (ae 1) (tC (.int 2))) (ac (tOp (bw K) (ae 1) (tC (.int 3))) (ac (tOp (bw K) (ae 1) (tC (.int 4))) (ai))))))))))
def Jr (K:cW)(A:Adr):TS:=aC (tC .non)
def Jq (K:cW)(A:Adr):TS:=aC (fA (eQ K A) A.c_Spoken "answerer" (fun _=>E0) (ae 0) (ac (bv (ac (tC (.str "newest")) (ai))) (ai)))
def JP (K:cW)(A:Adr):TS:=ay (kc (jG K (cC (ac (cC (ac (tC (.str "growth")) (ac (ae 2) (ac (tC (.int 0)) (ai))))) (ac (cC (ac (tC (.str "placed")) (ac (tC (.int 1)) (ac (ae 2) (ai))))) (ac (cC (ac (tC (.str "full")) (ac (tC (.int 1)) (ac (tC (.int 0)) (ac (ae 2) (ai)))))) (ac (cC (ac (tC (.str "stretch")) (ac (tC (.int 1)) (ac (ae 2) (ac (tC (.int 2)) (ac (tC (.int 3)) (ai))))))) (ai))))))) (aI 4) (ay (aS (tCB (im K) (ac (ae 4) (ai))) (aI 5)) (bp (mOr (bg (tOp (og K) (ax (eZ K A) (fun _=>E0) (ac (ae 0) (ac (ae 4) (ai)))) (bv (ac (ae 5) (ac (ae 2) (ai)))))) (bg (tOp (og K) (ax (eZ K A) (fun _=>E0) (ac (ae 1) (ac (ae 4) (ai)))) (bv (ac (ae 3) (ac (ae 5) (ai))))))) (aC (tC (.bl false))) (aY)))) (aC (cx (tOp (cg K) (aK A.c_Spoken "newest" (jM K A) (fun _=>E0) (ae 0) ai) (bv (ac (bv (ac (tC (.str "newest")) (ai))) (ac (ae 2) (ai))))) (tOp (cg K) (aK A.c_Spoken "newest" (jM K A) (fun _=>E0) (ae 1) ai) (bv (ac (ae 3) (ac (bv (ac (tC (.str "newest")) (ai))) (ai)))))))
def pA (K:cW)(A:Adr)(q0 q1:Addr):TSM:=nK (cx (tOp (cg K) (ax (eZ K A) (fun _=>E0) (ac (ae 2) (ac (cC (ac (tC (.str "growth")) (ac (tC (.int 0)) (ac (tC (.int 0)) (ai))))) (ai)))) (bv (ai))) (tOp (ou) (ax (eZ K A) (fun _=>E0) (ac (ae 2) (ac (cC (ac (tC (.str "placed")) (ac (tC (.int 0)) (ac (tC (.int 0)) (ai))))) (ai)))) (tC .non)))
def oU (K:cW)(A:Adr)(q0 q1:Addr):TSM:=eR (wG (cO (cr K (rP [(9,q0),(10,q1)] (jL K A) (ac (ae 11) (ac (ae 12) (ac (ae 9) (ac (ae 10) (ai)))))))) (nK (tC (.bl false))) (qH)) (pA K A q0 q1)
def yk (K:cW)(A:Adr)(q0 q1:Addr):TSM:=eR (eA (aS (bY A.c_Spoken (iF K A) (fun _=>E0) (ac (nQ A.t_78 ⟨514,25,514,78⟩ eD [q1]) (ai))) (aI 12))) (oU K A q0 q1)
def so (K:cW)(A:Adr)(q0 q1:Addr):TSM:=eR (eA (aS (bY A.c_Spoken (iF K A) (fun _=>E0) (ac (nQ A.t_78 ⟨513,24,513,72⟩ dD [q0]) (ai))) (aI 11))) (yk K A q0 q1)
def Bh (K:cW)(A:Adr)(q0 q1:Addr):TSM:=eR (eA (aS (ax (iz K A) (fun _=>E0) (ac (ax (gj K A) (fun _=>E0) (ac (ae 0) (ac (tC (.int 4)) (ai)))) (ac (tC (.int 7)) (ai)))) (aI 10))) (so K A q0 q1)
def Aj (K:cW)(A:Adr)(q0 q1:Addr):TSM:=eR (eA (aS (ax (iz K A) (fun _=>E0) (ac (ax (gj K A) (fun _=>E0) (ac (ae 0) (ac (tC (.int 3)) (ai)))) (ac (tC (.int 4)) (ai)))) (aI 9))) (Bh K A q0 q1)
def sP (K:cW)(A:Adr)(q0 q1:Addr):TSM:=eR (eA (kc (jG K (tSl (sW K) (ae 0) (ju (tC (.int 3))) (ju (tC (.int 33))))) (aI 6) (ay (aS (ax (mX K A) (fun _=>E0) (ac (ae 6) (ac (ae 3) (ac (ax (iL K A) (fun _=>E0) (ac (tOp (dS) (ae 6) (tC (.int 5))) (ac (ae 1) (ai)))) (ac (ax (iL K A) (fun _=>E0) (ac (tOp (dS) (ae 6) (tC (.int 35))) (ac (ae 1) (ai)))) (ai)))))) (aI 7)) (ay (aS (ax (lC K A) (fun _=>E0) (ac (ae 7) (ac (tOp (dS) (ae 6) (tC (.int 3))) (ac (ae 3) (ac (ae 1) (ai)))))) (aI 8)) (ay (bp (mOr (bg (tOp (jz) (ax (eZ K A) (fun _=>E0) (ac (ae 2) (ac (ae 8) (ai)))) (tC .non))) (cO (cr K (tCB (gw) (ac (ax (eZ K A) (fun _=>E0) (ac (ae 2) (ac (ae 7) (ai)))) (ac (tC (.ty "tuple")) (ai))))))) (aC (tC (.bl false))) (aY)) (bp (mOr (bg (tOp (jz) (ax (eZ K A) (fun _=>E0) (ac (ae 5) (ac (ae 7) (ai)))) (tC .non))) (bg (tOp (jz) (aK A.c_Line "newest" (mO K A) (fun _=>E0) (ae 5) ai) (tC .non)))) (aC (tC (.bl false))) (aY))))))) (Aj K A q0 q1)
def AC (K:cW)(A:Adr)(q0 q1:Addr):TSM:=eR (wG (mOr (cO (cr K (tCB (jw K) (ac (ae 2) (ac (tC (.ref A.c_Line)) (ai)))))) (cO (cr K (tCB (jw K) (ac (bY A.c_Spoken (iF K A) (fun _=>E0) (ac (nQ A.t_78 ⟨502,65,502,100⟩ fb []) (ai))) (ac (tC (.ref A.c_Line)) (ai))))))) (nK (tC (.bl false))) (qH)) (sP K A q0 q1)
def rB (K:cW)(A:Adr)(q0 q1:Addr):TSM:=eR (eA (aS (sA A.c_Line) (aI 5))) (AC K A q0 q1)
def sM (K:cW)(A:Adr)(q0 q1:Addr):TSM:=eR (eA (kc (qk (ac (ae 3) (ai))) (aI 4) (ay (cI (aK A.c_House "put" (nj K A) (fun _=>E0) (ae 2) (ac (ax (iL K A) (fun _=>E0) (ac (tOp (bX K) (ax (gj K A) (fun _=>E0) (ac (ae 0) (ac (tC (.int 2)) (ai)))) (ae 4)) (ac (ae 1) (ai)))) (ac (tC (.str "ab")) (ai))))) (cI (aK A.c_House "make" (lO K A) (fun _=>E0) (ae 2) ai))))) (rB K A q0 q1)
def rk (K:cW)(A:Adr)(q0 q1:Addr):TSM:=eR (eA (aS (tOp (bX K) (tC (.int 1)) (tOp (dE) (ax (gj K A) (fun _=>E0) (ac (ae 0) (ac (tC (.int 1)) (ai)))) (tC (.int 5)))) (aI 3))) (sM K A q0 q1)
def sH (K:cW)(A:Adr)(q0 q1:Addr):TSM:=eR (eA (aS (bY A.c_House (jZ K A) (fun _=>E0) (ac (ax (lZ K A) (fun _=>E0) ai) (ac (ae 1) (ac (bY A.c_Seals (jx K A) (fun _=>E0) (ai)) (ai))))) (aI 2))) (rk K A q0 q1)
def vG (K:cW)(A:Adr)(q0 q1:Addr):TSM:=eR (eA (aS (tOp (bX K) (tC (.int 1)) (tOp (dE) (ax (gj K A) (fun _=>E0) (ac (ae 0) (ac (tC (.int 0)) (ai)))) (tC (.int 60)))) (aI 1))) (sH K A q0 q1)
variable {K:cW}{mg:Str->Option pv}{A:Adr}
def tyD:Dat->String
 |.non=>"NoneType"
 |.bl _=>"bool"
 |.int _=>"int"
 |.str _=>"str"
 |.lst _=>"list"
 |.tup _=>"tuple"
 |.dic=>"dict"
theorem aJ.ty {H:Hp}{v:V}{d:Dat}(h:aJ H v d):tyN H v=some (tyD d):=by
 cases h with
 |lst e _=>unfold tyN;dsimp only;rw[e];rfl
 |tup e _=>unfold tyN;dsimp only;rw[e];rfl
 |dic e=>unfold tyN;dsimp only;obtain⟨kvs,e⟩:=e;rw[e];rfl
 |_=>rfl
mutual
theorem aJ.toV {K:cW}{H:Hp}{v:V}{d:Dat}(h:aJ H v d)(ok:okD d=true):ej K H v (fj d):=by
 cases h with
 |non=>exact .non
 |bl b=>exact .bl b
 |int i=>exact .int i
 |str z=>exact .str z
 |lst e r=>exact .lst (SqL.of e) (DatWs.toV r ok)
 |tup e r=>exact .tup (SqT.of e) (DatWs.toV r ok)
 |dic e=>cases ok
theorem DatWs.toV {K:cW}{H:Hp}{xs:List V}{ds:List Dat}(h:DatWs H xs ds)(ok:okDs ds=true):DatVs K H xs (toPys ds):=by
 cases h with
 |nil=>exact .nil
 |cons a r=>
  have ok:(okD _&&okDs _)=true:=ok
  rw[LS]at ok
  exact .cons (aJ.toV a ok.1) (DatWs.toV r ok.2)
end
theorem zg {z:Str}(h:fR z=true):Qj z=true:=by
 unfold Qj
 unfold fR at h
 rw[Array.all_eq_true]at h⊢
 intro i hi
 have:=of_decide_eq_true (h i hi)
 exact decide_eq_true (by omega)
mutual
theorem eF:∀{d:Dat},okD d=true->(fj d).canLay0=true
 |.non,_=>rfl
 |.bl _,_=>rfl
 |.int _,_=>rfl
 |.str z,h=>zg (tx.mp h).1
 |.lst ds,h=>lay_toPys h
 |.tup ds,h=>lay_toPys h
theorem lay_toPys:∀{ds:List Dat},okDs ds=true->NQ (toPys ds)=true
 |[],_=>rfl
 |d::r,h=>by
  have h:(okD d&&okDs r)=true:=h
  rw[LS]at h
  show((fj d).canLay0&&NQ (toPys r))=true
  rw[eF h.1,lay_toPys h.2];rfl
end
theorem DatWs.len {H:Hp}:∀{xs:List V}{ds:List Dat},DatWs H xs ds->xs.length=ds.length
 |_,_,.nil=>rfl
 |_,_,.cons _ r=>by rw[LO,LO,r.len]
mutual
theorem aJ.mono {H H':Hp}{v:V}{d:Dat}(s:ar H H')(h:aJ H v d):aJ H' v d:=by
 cases h with
 |non=>exact .non
 |bl b=>exact .bl b
 |int i=>exact .int i
 |str z=>exact .str z
 |lst e r=>exact .lst (s _ _ e) (DatWs.mono s r)
 |tup e r=>exact .tup (s _ _ e) (DatWs.mono s r)
 |dic e=>exact(let ⟨k,e⟩:=e;.dic ⟨k,s _ _ e⟩)
theorem DatWs.mono {H H':Hp}{xs:List V}{ds:List Dat}(s:ar H H')(h:DatWs H xs ds):DatWs H' xs ds:=by
 cases h with
 |nil=>exact .nil
 |cons a r=>exact .cons (aJ.mono s a) (DatWs.mono s r)
end
theorem ixT {K:cW}{H:Hp}{Q:VK}{a:Addr}{xs:List V}{x:V}{i:Int}{j:Nat}(ha:H a=some (.tup xs))(e:i=j)(hx:xs[j]?=some x)(q:Q x H):bw K (.ref a) (.int i) H Q:=by
 subst e
 refine .inl (.inr (.inl ⟨a,xs,j,x,rfl,rfl,SqT.of ha,?_,q⟩))
 have hj:=(KY.mp hx).1
 rw[si (by omega) (by omega)]
 simp[Lu,hx]
theorem zM (K:cW)(A:Adr):Ln (ft K A) 1:=by rintro vs H Q E ⟨v,d,rfl,_⟩;rfl
theorem GL (T:Txt K mg A)(vs:List V)(H:Hp)(Q:VK)(E:XK)(h:ft K A vs H Q E):Ks K A {nx:=fun _ H'=>Q .non H',rt:=Q} (bV ["thing"] vs) H:=by
 obtain⟨v,d,rfl,w,q⟩:=h
 refine⟨by decide,_,w.ty,?_⟩
 cases d
 case int i=>exact Sel.yes rfl ⟨by decide,_,w.ty,q⟩
 case bl b=>exact Sel.yes rfl ⟨by decide,_,w.ty,q⟩
 all_goals exact Sel.no rfl q
theorem zQ (K:cW)(A:Adr):Ln (iP K A) 1:=by rintro vs H Q E ⟨v,d,rfl,_⟩;rfl
theorem Ff (T:Txt K mg A)(vs:List V)(H:Hp)(Q:VK)(E:XK)(h:iP K A vs H Q E):Kk K A {nx:=fun _ H'=>Q .non H',rt:=Q} (bV ["thing"] vs) H:=by
 obtain⟨v,d,rfl,w,q⟩:=h
 refine⟨v,d,rfl,w,?_⟩
 cases w with
 |int i=>
  refine Sel.yes rfl (Sel.dec (fun h0=>⟨⟨by decide,by decide,by decide⟩,?_⟩) (fun h0=>?_))
  ·show Q (.bl (decide (i<10^((60:Int).toNat)))) H
   have e:dI (.int i)=decide (i<10^((60:Int).toNat)):=by
    show decide (0<=i/\i<10^60)=decide (i<10^60)
    by_cases h1:i<10^60
    ·rw[decide_eq_true h1,decide_eq_true ⟨h0,h1⟩]
    ·rw[decide_eq_false h1,decide_eq_false fun z=>h1 z.2]
   rw[<-e];exact q
  ·have e:dI (.int i)=false:=decide_eq_false fun z=>h0 z.1
   rw[<-e];exact q
 |non=>exact Sel.no rfl ⟨by decide,_,rfl,q⟩
 |bl b=>exact Sel.no rfl ⟨by decide,_,rfl,q⟩
 |str z=>exact Sel.no rfl ⟨by decide,_,rfl,q⟩
 |lst e r=>exact Sel.no rfl ⟨by decide,_,(aJ.lst e r).ty,q⟩
 |tup e r=>exact Sel.no rfl ⟨by decide,_,(aJ.tup e r).ty,q⟩
 |dic e=>exact Sel.no rfl ⟨by decide,_,(aJ.dic e).ty,q⟩
theorem Bg (H:Hp)(m:Key):aJ H (kV m) (jj m):=by cases m<;>constructor
theorem pF {k:List Key}(h:okT k=true):1<=k.length/\k.length<=8:=by
 unfold okT at h
 simp only[LS]at h
 exact of_decide_eq_true h.1.1
theorem xW {k:List Key}(h:okT k=true):k.all okP=true:=by
 unfold okT at h
 rw[LS]at h
 exact h.2
theorem yA {k:List Key}{x:Key}(h:okT k=true)(hx:x∈k):okP x=true:=Mq.mp (xW h) x hx
theorem va {k:List Key}(h:okT k=true):∃z r,k=.inr z::r:=by
 unfold okT at h
 simp only[LS]at h
 cases k with
 |nil=>cases h.1.2
 |cons x r=>
  cases x with
  |inl i=>cases h.1.2
  |inr z=>exact⟨z,r,rfl⟩
theorem tE {x:Key}(h:okP x=true):dI (jj x)=true:=by
 cases x with
 |inl i=>exact h
 |inr z=>rfl
theorem Ao (K:cW)(A:Adr):Ln (mR K A) 1:=by rintro vs H Q E ⟨p,k,rfl,_⟩;rfl
theorem GC (T:Txt K mg A):Rd (mR K A) (ID K A) ["thing"]:=by
 intro vs H Q E h
 obtain⟨p,k,rfl,hp,ok,q⟩:=h
 obtain⟨l1,l8⟩:=pF ok
 obtain⟨z,r,hk⟩:=va ok
 have ty:tyN H (.ref p)=some "tuple":=by unfold tyN;dsimp only;rw[hp]
 refine⟨by decide,"tuple",ty,Sel.no rfl (.inl (.inr (.inl ⟨_,SqT.of hp,?_⟩)))⟩
 refine Sel.dec (fun h1=>?_) (fun h1=>absurd (by simp;omega) h1)
 refine Sel.ndec (fun h8=>absurd (by simp;omega) h8) (fun h8=>?_)
 refine ixT (j:=0) hp rfl (by rw[hk];rfl) ⟨by decide,"str",rfl,Sel.yes rfl ?_⟩
 refine⟨p,rfl,.inr ⟨⟨_,SqT.of hp⟩,fun D hD=>?_⟩⟩
 have hne:p≠D:=ap hp hD
 have hml:(k.map kV).length=k.length:=by simp
 refine yS (mJ.tuple (xs:=k.map kV) .non) (fun i ys H2=>ys=(k.take i).map (fun x=>V.bl true)/\H2=upd H D (.lst ys)) (fun i ys H2 hi ⟨_,e2⟩=>?_) ⟨rfl,rfl⟩ (fun i ys H2 hi ⟨e1,e2⟩=>?_) (fun ys H2 ⟨e1,e2⟩=>?_)
 ·rw[e2];exact SqT.of (by rw[am hne];exact hp)
 ·subst e2
  have hi':i<k.length:=by omega
  obtain⟨x,hx⟩:∃x,k[i]?=some x:=⟨_,KU hi'⟩
  have hg:(k.map kV).getD i .non=kV x:=by rw[Lu,LF,hx];rfl
  rw[hg]
  have hs:=tE (yA ok (LL hx))
  refine Kh ⟨_,jj x,rfl,Bg _ x,?_⟩
  rw[hs]
  have hyl:ys.length=i:=by rw[e1,Lq,MU];omega
  refine⟨af,by rw[hyl];exact eI (by omega),CWd.next hi ⟨?_,eL⟩⟩
  rw[e1,List.take_add_one,My,hx];rfl
 ·subst e2
  refine⟨D,k.map fun _=>true,rfl,by rw[af,e1,hml,PV,Pa];rfl,?_⟩
  have:(k.map fun _=>true).all id=true:=by simp
  rw[this];exact q _ (ar.upd hD)
theorem zA (K:cW)(A:Adr):Ln (ly K A) 1:=by rintro vs H Q E ⟨x,dx,rfl,_⟩;rfl
theorem Ez (T:Txt K mg A):Rd (ly K A) (Ky K A) ["self"]:=by
 intro vs H Q E h
 obtain⟨x,dx,rfl,hx,q⟩:=h
 exact .inr fun d hd=>⟨x,A.c_Numbers,dx,[],rfl,by rw[am (ap hx hd)];exact hx,T.cl_Numbers,T.na_Numbers_given,by decide,q d hd⟩
theorem fo.mono {H H':Hp}{x d:Addr}{kvs:List (List Key×V)}(s:ar H H')(n:fo A H x d kvs):fo A H' x d kvs:=by
 obtain⟨⟨dx,h1⟩,h2⟩:=n
 exact⟨⟨dx,s _ _ h1⟩,s _ _ h2⟩
theorem fo.hide {H:Hp}{x d:Addr}{kvs:List (List Key×V)}{cs:List Addr}{cvs:List V}(hc:cf H cs cvs)(n:fo A H x d kvs):fo A (bM cs H) x d kvs:=by
 obtain⟨⟨dx,h1⟩,h2⟩:=n
 exact⟨⟨dx,hc.hide h1 (fun _ z=>nomatch z)⟩,hc.hide h2 (fun _ z=>nomatch z)⟩
theorem Bo (K:cW)(A:Adr):Ln (mL K A) 2:=by rintro vs H Q E ⟨x,d,p,kvs,k,rfl,_⟩;rfl
theorem HR (T:Txt K mg A):Rd (mL K A) (Jk K A) ["self","term"]:=by
 intro vs H Q E h
 obtain⟨x,d,a,kvs,k,rfl,nu,hl,hp,ok,q⟩:=h
 refine⟨a,k,rfl,hp,ok,fun H' s=>Sel.no rfl ?_⟩
 have ta':=s _ _ hp
 obtain⟨⟨dx,hx⟩,hd⟩:=nu.mono s
 have q:=q H' s
 have g:=fG.t hd ta'
 refine⟨x,A.c_Numbers,dx,_,.ref d,rfl,hx,T.cl_Numbers,T.na_Numbers_given,rfl,.inl ⟨d,cp kvs k,rfl,g,?_⟩⟩
 unfold kL kN at q
 cases e:cp kvs k with
 |some w=>
  rw[e]at q g
  have q:Q w H':=q
  exact Sel.no rfl ⟨x,A.c_Numbers,dx,_,.ref d,rfl,hx,T.cl_Numbers,T.na_Numbers_given,rfl,.inr ⟨d,w,rfl,g,q⟩⟩
 |none=>
  rw[e]at q g
  have q:Q (.int kvs.length) (upd H' d (.dT (ci kvs k (.int kvs.length)))):=q
  have hx':upd H' d (.dT (ci kvs k (.int kvs.length))) x=some (.ins A.c_Numbers dx [("given",.ref d)]):=by rw[am (bu hx hd (fun z=>nomatch z))];exact hx
  have ha':upd H' d (.dT (ci kvs k (.int kvs.length))) a=some (.tup (k.map kV)):=by rw[am (bu ta' hd (fun z=>nomatch z))];exact ta'
  refine Sel.yes rfl ⟨x,A.c_Numbers,dx,_,.ref d,rfl,hx,T.cl_Numbers,T.na_Numbers_given,rfl,.inr ⟨d,kvs,rfl,hd,x,A.c_Numbers,dx,_,.ref d,rfl,hx,T.cl_Numbers,T.na_Numbers_given,rfl,.inr ⟨d,_,rfl,.inr ⟨kvs,k,a,hd,rfl,ta',LK hl (aB (n:=50001) (by decide)),rfl⟩,?_⟩⟩⟩
  have g2:=fG.t (kvs:=ci kvs k (.int kvs.length)) (k:=k) af ha'
  rw[jg,if_pos rfl]at g2
  exact⟨x,A.c_Numbers,dx,_,.ref d,rfl,hx',T.cl_Numbers,T.na_Numbers_given,rfl,.inr ⟨d,_,rfl,g2,q⟩⟩
theorem Ei (T:Txt K mg A)(a0 b0:V)(H:Hp)(Q:VK)(E:XK)(h:qF K A [a0,b0] H Q E):zm K A (dO ["term","numbers"] [a0] [b0]) H Q:=by
 obtain⟨x,d,p,kvs,k,e,nu,hl,hp,ok,h⟩:=h
 cases e
 obtain⟨dx,hx⟩:=nu.ob
 exact⟨x,dx,_,rfl,hx,rfl,x,d,p,kvs,k,rfl,nu,hl,hp,ok,h⟩
theorem dh.trans {P:Addr}{H H1 H2:Hp}(a:dh P H H1)(b:dh P H1 H2):dh P H H2:=fun x o e n=>b x o (a x o e n) n
theorem dh.new {P p:Addr}{H:Hp}{o:HO}(h:H p=none):dh P H (upd H p o):=fun b u e _=>by rw[am (ap e h)];exact e
theorem dh.tab {P:Addr}{H:Hp}{o:HO}:dh P H (upd H P o):=fun b u e n=>by rw[am n];exact e
theorem dR {H:Hp}{P q:Addr}{o:HO}(hP:H P=some o)(hq:H q=none):q≠P:=fun e=>by rw[e,hP]at hq;cases hq
theorem bA {H:Hp}{p q:Addr}{o:HO}(h:upd H p o q=none):q≠p/\H q=none:=by
 by_cases e:q=p
 ·subst e;rw[af]at h;cases h
 ·rw[am e]at h;exact⟨e,h⟩
theorem uQ:fJ []:=fun p hp=>nomatch hp
theorem Sub.rfl' {g:gOp}:Sub g g:=fun _ _ e=>e
theorem Sub.trans {g g1 g2:gOp}(a:Sub g g1)(b:Sub g1 g2):Sub g g2:=fun k v e=>b k v (a k v e)
theorem gz (kvs:List (List Key×Key))(k:List Key):cp (bU kvs) k=(cv kvs k).map kV:=by
 unfold cp bU cv
 rw[List.find?_map]
 simp only[Option.map_map]
 congr 1
theorem sg {kvs:List (List Key×Key)}{k:List Key}{v:Key}{x:List Key×Key}(h:cv kvs k=some v):cv (kvs++[x]) k=some v:=by
 unfold cv at h⊢
 rw[PD]
 cases e:kvs.find? fun p=>decide (p.1=k)with
 |none=>rw[e]at h;cases h
 |some y=>rw[e]at h;exact h
theorem tR {kvs:List (List Key×Key)}{k:List Key}{d:Key}(h:cv kvs k=none):cv (kvs++[(k,d)]) k=some d:=by
 unfold cv at h⊢
 rw[PD]
 cases e:kvs.find? fun p=>decide (p.1=k)with
 |none=>simp
 |some y=>rw[e]at h;cases h
theorem wC {kvs:List (List Key×Key)}{k:List Key}{v:Key}(h:cv kvs k=some v):cp (bU kvs) k=some (kV v):=by rw[gz,h];rfl
theorem nE {kvs:List (List Key×Key)}{k:List Key}{v:Key}(hs:fJ kvs)(h:cv kvs k=some v):fS v:=by
 unfold cv at h
 cases e:kvs.find? fun p=>decide (p.1=k)with
 |none=>rw[e]at h;cases h
 |some y=>
  rw[e]at h
  cases h
  exact hs y (List.mem_of_find?_eq_some e)
theorem oG {kvs:List (List Key×Key)}{x:List Key×Key}(h:fJ kvs)(hx:fS x.2):fJ (kvs++[x]):=fun p hp=>by
 rcases Ml.mp hp with z|z
 ·exact h p z
 ·rw[KZ.mp z];exact hx
theorem rh {k:List Key}{v:Key}(hk:1<=k.length)(h:fS v):qe k v:=by
 cases v with
 |inl i=>exact h
 |inr z=>
  refine⟨h.1,Ll h.2 ?_⟩
  cases k with
  |nil=>simp at hk
  |cons x r=>
   show 62<=((x::r).map szK).sum
   rw[LJ,List.sum_cons]
   have:62<=szK x:=by cases x with
    |inl i=>exact gV 62
    |inr z=>show 62<=z.length+62;omega
   omega
theorem uU {H:Hp}{b:Addr}{cs:List Addr}{cvs:List V}{kvs:List (List Key×Key)}(kk:List Key)(d:Key)(hs:fJ kvs)(hd:fS d)(hb:H b=some (.dT (bU kvs)))(hc:cf H cs cvs)(H1:Hp)(S:ar (bM cs H) H1):
  ∃(kvs':List (List Key×Key))(v:Key)(H':Hp),kL (bU kvs) kk (kV d)=kV v/\bG cs H (kN H1 b (bU kvs) kk (kV d))=H'/\H' b=some (.dT (bU kvs'))/\(∀x o,x≠b->H x=some o->H' x=some o)/\kvs'.length<=kvs.length+1/\fJ kvs'/\cv kvs' kk=some v/\fS v/\∀k v,cv kvs k=some v->cv kvs' k=some v:=by
 have hbc:b∉cs:=hc.notin hb fun _ z=>nomatch z
 have S2:=ar.hide cs S
 cases e:cv kvs kk with
 |some v=>
  have ev:=wC e
  refine⟨kvs,v,bG cs H H1,by unfold kL;rw[ev];rfl,?_,S2 _ _ hb,fun _ _ _ h=>S2 _ _ h,NO _,hs,e,nE hs e,fun _ _ h=>h⟩
  unfold kN;rw[ev];rfl
 |none=>
  have ev:cp (bU kvs) kk=none:=by rw[gz,e];rfl
  refine⟨kvs++[(kk,d)],d,upd (bG cs H H1) b (.dT (bU (kvs++[(kk,d)]))),by unfold kL;rw[ev];rfl,?_,af,fun x o n h=>by rw[am n];exact S2 _ _ h,by simp,oG hs hd,tR e,hd,fun _ _ h=>sg h⟩
  unfold kN;rw[ev,if_neg (by decide),rC hbc,wA _ ev]
  unfold bU;rw[My];rfl
theorem m0 {x:cD×Sp}{l:List (cD×Sp)}:x∈x::l:=Lj
theorem mS {x y:cD×Sp}{l:List (cD×Sp)}(h:x∈l):x∈y::l:=Lb _ h
theorem bF.rfl' {b:Addr}{H:Hp}:bF b H H:=fun _ _ _ e=>e
theorem bF.trans {b:Addr}{H H1 H2:Hp}(a:bF b H H1)(c:bF b H1 H2):bF b H H2:=fun x o n e=>c x o n (a x o n e)
theorem bF.same {b:Addr}{H H':Hp}(S:ar H H'):bF b H H':=fun x o _ e=>S x o e
theorem AM (K:cW)(A:Adr):Ln (lZ K A) 0:=by rintro vs H Q E ⟨rfl,_⟩;rfl
theorem EJ (T:Txt K mg A)(q0:Addr)(hnd:([q0]:List Addr).Nodup)(vs:List V)(H:Hp)(Q:VK)(E:XK)(h:lZ K A vs H Q E):As K A q0 {nx:=fun σ H'=>(∀p∈([(0,q0)]:List (Nat×Addr)),H' p.2=none)->Q .non (bW [(0,q0)] σ H'),rt:=fun σ v H'=>(∀p∈([(0,q0)]:List (Nat×Addr)),H' p.2=none)->Q v (bW [(0,q0)] σ H')} (L2.bV ["numbers"] vs) H:=by
 obtain⟨rfl,⟨ps,hP,tab⟩,q⟩:=h
 intro x dx hx hdx hne
 refine⟨x,dx,rfl,af,fun d hd=>⟨rfl,?_⟩⟩
 obtain⟨dnx,hd1⟩:=bA hd
 obtain⟨dndx,hd0⟩:=bA hd1
 have xP:=dR hP hx
 have dxP:=dR hP hdx
 have dP:=dR hP hd0
 generalize e2:upd (upd (upd (upd H dx (.own x)) x (.ins A.c_Numbers dx [])) d (.dT [])) x (.ins A.c_Numbers dx [("given",.ref d)])=H2
 have S2:dh A.t_63 H H2:=by
  intro b o e n
  have b1:=ap e hx
  have b2:=ap e hdx
  have b3:=ap e hd0
  rw[<-e2,am b1,am b3,am b1,am b2];exact e
 have hP2:H2 A.t_63=some (.tbl ps):=by rw[<-e2,am (KP xP),am (KP dP),am (KP xP),am (KP dxP)];exact hP
 have hx2:H2 x=some (.ins A.c_Numbers dx [("given",.ref d)]):=by rw[<-e2,af]
 have hd2:H2 d=some (.dT []):=by rw[<-e2,am dnx,af]
 have key:∀(c f:Addr)(H3:Hp),dh A.t_63 H2 H3->vp A H3->f≠A.t_63->c≠A.t_63->H3 f=some (dG f dN [q0] c)->H3 c=some (dm c dN.qual)->H3 q0=none->Q (.ref f) (upd H3 q0 (bH q0 (.ref x))):=by
  intro c f H3 S3 tb fP cP hf hc hq
  have S4:=ar.upd (o:=bH q0 (.ref x)) hq
  obtain⟨ps3,t1,t2⟩:=tb
  exact q f d (cv []) _ ((S2.trans S3).trans (dh.new hq)) ⟨ps3,S4 _ _ t1,t2.imp id fun⟨c',z1,z2⟩=>⟨c',z1,S4 _ _ z2⟩⟩ hd0 (.cnt q0 x [] ⟨⟨c,S4 _ _ hf,S4 _ _ hc⟩,.cons af .nil⟩ ⟨⟨dx,S4 _ _ (S3 _ _ hx2 xP)⟩,S4 _ _ (S3 _ _ hd2 dP)⟩ (Li _) uQ rfl)
 rcases tab with rfl|⟨c,rfl,hc⟩
 ·refine⟨#[],hP2,trivial,.inl ⟨rfl,fun c f hc hf hne hq=>?_⟩⟩
  have cP:=dR hP2 hc
  have fP:=dR hP2 hf
  have c1:∀o,upd H2 A.t_63 o c=none:=fun o=>by rw[am cP];exact hc
  have f1:∀o,upd (upd H2 A.t_63 o) c (dm c dN.qual) f=none:=fun o=>by rw[am (KP hne),am fP];exact hf
  exact key c f _ (dh.tab.trans ((dh.new (c1 _)).trans (dh.new (f1 _)))) ⟨_,by rw[am (KP fP),am (KP cP),af],.inr ⟨c,rfl,by rw[am hne,af]⟩⟩ fP cP af (by rw[am hne,af]) (hq _ (KZ.mpr rfl))
 ·have cP:c≠A.t_63:=bu hc hP (fun z=>nomatch z)
  have hc2:=S2 _ _ hc cP
  refine⟨_,hP2,trivial,.inr ⟨c,rfl,fun f hf hq=>?_⟩⟩
  have fP:=dR hP2 hf
  have S3:=ar.upd (o:=dG f dN [q0] c) hf
  exact key c f _ (dh.new hf) ⟨_,S3 _ _ hP2,.inr ⟨c,rfl,S3 _ _ hc2⟩⟩ fP cP af (S3 _ _ hc2) (hq _ (KZ.mpr rfl))
theorem Stp.clo {H:Hp}{f b:Addr}{g:gOp}{n:Nat}(s:Stp A H f b g n):∃ts∈gP K A,∃cs cvs,dj H f ts.1 cs cvs:=by
 cases s with
 |cnt _ _ _ hc=>exact⟨_,m0,_,_,hc⟩
def stO (b z:Addr)(o:HO):Prop:=(∃φ,o=.ext φ)\/(z=b/\∃kvs,o=.dT kvs)\/∃C dx v,o=HO.ins C dx [(("given":Str),v)]
theorem Stp.keep {H H':Hp}{f b:Addr}{g:List Key->Option Key}{n m:Nat}(s:Stp A H f b g n)(hn:n<=m)(k:∀z o,H z=some o->stO b z o->H' z=some o):Stp A H' f b g m:=by
 have kx:∀z φ,H z=some (.ext φ)->H' z=some (.ext φ):=fun z φ e=>k z _ e (.inl ⟨_,rfl⟩)
 have kd:∀xs,H b=some (.dT xs)->H' b=some (.dT xs):=fun φ e=>k b _ e (.inr (.inl ⟨rfl,_,rfl⟩))
 cases s with
 |cnt q x kvs hc num hl hs hg=>
  obtain⟨⟨dx,h1⟩,h2⟩:=num
  exact .cnt q x kvs (hc.keep kx) ⟨⟨dx,k _ _ h1 (.inr (.inr ⟨_,_,_,rfl⟩))⟩,kd _ h2⟩ (Ll hl hn) hs hg
theorem Stp.put {H:Hp}{f b x:Addr}{g:gOp}{n m:Nat}{C dx:Addr}{fs:List (Str×V)}{o:HO}(s:Stp A H f b g n)(hn:n<=m)(e:H x=some (.ins C dx fs))(h:∀v,fs≠[(("given":Str),v)]):Stp A (upd H x o) f b g m:=s.keep hn fun z u ez hz=>by
 rw[am (bu ez e fun q=>?_)]
 ·exact ez
 ·subst q
  rcases hz with⟨_,q⟩|⟨_,_,q⟩|⟨_,_,v,q⟩
  ·cases q
  ·cases q
  ·injection q with _ _ q;exact h v q
theorem Stp.same {H H':Hp}{f b:Addr}{g:gOp}{n m:Nat}(s:Stp A H f b g n)(hn:n<=m)(S:ar H H'):Stp A H' f b g m:=s.keep hn fun z o e _=>S z o e
theorem Stp.bd {H:Hp}{f b:Addr}{g:gOp}{n:Nat}(s:Stp A H f b g n):∃kvs,H b=some (.dT kvs):=by
 cases s with
 |cnt q x kvs hc num hl hs hg=>exact⟨_,num.di⟩
theorem Stp.nb {H:Hp}{f b z:Addr}{g:gOp}{n:Nat}{o:HO}(s:Stp A H f b g n)(e:H z=some o)(h:∀kvs,o≠.dT kvs):z≠b:=fun q=>by
 subst q
 obtain⟨kvs,w⟩:=s.bd
 rw[e]at w;exact h _ (KN w)
theorem gy {H:Hp}{f b p:Addr}{g:List Key->Option Key}{n:Nat}{k:List Key}{R:VK}(s:Stp A H f b g n)(hn:n<=45000)(hp:H p=some (.tup (k.map kV)))(ok:okT k=true)
  (q:∀(v:Key)(H':Hp)(g':List Key->Option Key),bF b H H'->Stp A H' f b g' (n+1)->Sub g g'->g' k=some v->qe k v->R (kV v) H'):qy (gP K A) f [.ref p] H R E0:=by
 have s0:=s
 have hk:=(pF ok).1
 have ll:∀kvs:List (List Key×Key),(bU kvs).length=kvs.length:=fun kvs=>by simp[bU]
 have p60:(50000000:Int)<10^60:=by decide+kernel
 cases s with
 |cnt c x kvs hc num hl hs hg=>
  refine⟨_,m0,_,_,hc,rfl,x,b,p,bU kvs,k,rfl,num.hide hc.cells,by rw[ll];omega,hc.cells.hide hp (fun _ z=>nomatch z),ok,fun H' S=>?_⟩
  obtain⟨dx,hx⟩:=num.ob
  obtain⟨kvs',v,H2,ev,eH,hb',keep,hl',hs',gv,sv,sub⟩:=uU k (.inl ((bU kvs).length:Int)) hs (show 0<=_/\_<_ from⟨by omega,by rw[ll];omega⟩) num.di hc.cells H' S
  rw[show V.int ((bU kvs).length:Int)=kV (.inl ((bU kvs).length:Int))from rfl,ev,eH]
  refine q v H2 (cv kvs') (fun x o n e=>keep x o n e)
   (.cnt c x kvs' (hc.keep fun x φ e=>keep x _ (bu e num.di (fun z=>nomatch z)) e) ⟨⟨dx,keep _ _ (bu hx num.di (fun z=>nomatch z)) hx⟩,hb'⟩ (by omega) hs' rfl) ?_ gv (rh hk sv)
  rw[hg];exact sub
theorem Bu (K:cW)(A:Adr):Ln (ix K A) 3:=by rintro vs H Q E ⟨b,k,d,rfl,_⟩;rfl
theorem Hg (T:Txt K mg A):Rd (ix K A) (JU K A) ["bits","key","depth"]:=by
 intro vs H Q E h
 obtain⟨b,k,d,rfl,hd,q⟩:=h
 exact⟨by omega,q⟩
theorem zX (K:cW)(A:Adr):Ln (eY K A) 2:=by rintro vs H Q E ⟨b,v,d,rfl,_⟩;rfl
theorem Df (T:Txt K mg A):Rd (eY K A) (Jt K A) ["bits","thing"]:=by
 intro vs H Q E h
 obtain⟨b,v,d,rfl,h0,h1,w,q⟩:=h
 refine⟨v,d,rfl,w,?_⟩
 cases w with
 |int i=>
  refine Sel.yes rfl (Sel.dec (fun h2=>⟨⟨h0,by omega,by decide⟩,?_⟩) (fun h2=>?_))
  ·show Q (.bl (decide (i<1*2^b.toNat))) H
   have e:cn b (.int i)=decide (i<1*2^b.toNat):=by
    show decide (0<=i/\i<2^b.toNat)=_
    rw[OA]
    by_cases h1:i<2^b.toNat
    ·rw[decide_eq_true h1,decide_eq_true ⟨h2,h1⟩]
    ·rw[decide_eq_false h1,decide_eq_false fun z=>h1 z.2]
   rw[<-e];exact q
  ·have e:cn b (.int i)=false:=decide_eq_false fun z=>h2 z.1
   rw[<-e];exact q
 |_=>exact Sel.no rfl q
theorem zj (K:cW)(A:Adr):Ln (lH K A) 1:=by rintro vs H Q E ⟨v,d,rfl,_⟩;rfl
theorem Dj (T:Txt K mg A):Rd (lH K A) (Kj K A) ["thing"]:=by
 intro vs H Q E h
 obtain⟨v,d,rfl,w,ok,q⟩:=h
 refine⟨by decide,_,w.ty,?_⟩
 cases w with
 |str z=>
  have hl:=of_decide_eq_true (tx.mp ok).2
  refine Sel.yes rfl (.inl ⟨aB (by omega),?_⟩)
  have e:fM (.str z)=decide ((z.length:Int)<=60):=by
   show decide (z.length<=60)=_
   by_cases h1:z.length<=60
   ·rw[decide_eq_true h1,decide_eq_true (by omega)]
   ·rw[decide_eq_false h1,decide_eq_false (by omega)]
  show Q (.bl (decide ((z.length:Int)<=60))) H
  rw[<-e];exact q
 |_=>exact Sel.no rfl q
theorem CO (K:cW)(A:Adr):Ln (gY K A) 3:=by rintro vs H Q E ⟨b,k,d,rfl,_⟩;rfl
theorem GG (T:Txt K mg A):Rd (gY K A) (JH K A) ["bits","key","depth"]:=by
 intro vs H Q E h
 obtain⟨b,k,d,rfl,hd,k0,q⟩:=h
 refine⟨by omega,?_⟩
 show Q (.int (Mb (k/2^(b- d- 1).toNat) 1)) H
 have h0:0<=k/2^(b- d- 1).toNat:=Int.ediv_nonneg k0 (Int.le_of_lt (uf _))
 obtain⟨y,hy⟩:=LN h0
 rw[hy]at q⊢
 rw[qm]
 have:((y%2:Nat):Int)=(y:Int)%2:=by omega
 rw[this];exact q
theorem oM {b x y c:Nat}(hx:x<2^b)(hy:y<2^b)(h:kI b x y c):(b:Int)- (Lw (((x^^^y:Nat)):Int):Int)=(c:Int):=by
 obtain⟨hc,he,hd⟩:=h
 have lt:x^^^y<2^(b- c):=by
  have h1:(x^^^y)/2^(b- c)=0:=by
   rw[<-LR,OF,LR,LR,he,Nat.xor_self]
  rcases(Nat.div_eq_zero_iff.mp h1)with h|h
  ·have:=MN (b- c);omega
  ·exact h
 unfold Lw
 by_cases h0:x^^^y=0
 ·rw[h0]
  have hxy:x=y:=xor_zero h0
  rcases hd with rfl|hd
  ·simp
  ·exact(hd (by rw[hxy])).elim
 ·rw[if_neg (by simpa using h0)]
  rcases hd with rfl|hd
  ·simp at lt;omega
  ·by_cases hcb:c=b
   ·subst hcb;simp at lt;omega
   have ge:2^(b- (c+1))<=x^^^y:=by
    apply Ma
    intro hn
    apply hd
    have h1:(x^^^y)/2^(b- (c+1))=0:=MX (by omega)
    rw[<-LR,OF,LR,LR]at h1
    exact xor_zero h1
   have hl:(x^^^y).log2=b- (c+1):=by
    rw[Nat.log2_eq_iff h0]
    exact⟨ge,by rw[show b- (c+1)+1=b- c by omega];exact lt⟩
   rw[Int.natAbs_natCast,hl]
   omega
theorem za (K:cW)(A:Adr):Ln (jr K A) 3:=by rintro vs H Q E ⟨b,_,_,_,rfl,_⟩;rfl
theorem EX (T:Txt K mg A):Rd (jr K A) (JI K A) ["bits","one","other"]:=by
 intro vs H Q E h
 obtain⟨b,x,y,c,rfl,hx,hy,hc,q⟩:=h
 refine⟨rfl,?_⟩
 show Q (.int ((b:Int)- (Lw (Nc x y):Int))) H
 rw[qx,oM hx hy hc]
 exact q
theorem AR (K:cW)(A:Adr):Ln (lV K A) 1:=by rintro vs H Q E ⟨v,d,rfl,_⟩;rfl
theorem FG (T:Txt K mg A):Rd (lV K A) (IE K A) ["thing"]:=by
 intro vs H Q E h
 obtain⟨v,d,rfl,w,q⟩:=h
 refine⟨v,d,rfl,w,?_⟩
 cases w with
 |int i=>
  refine Sel.yes rfl (Sel.dec (fun h1=>?_) (fun h1=>?_))
  ·have e:eM (.int i)=decide (i<=60):=by
    show decide (1<=i/\i<=60)=_
    by_cases h2:i<=60
    ·rw[decide_eq_true h2,decide_eq_true ⟨h1,h2⟩]
    ·rw[decide_eq_false h2,decide_eq_false fun z=>h2 z.2]
   show Q (.bl (decide (i<=60))) H
   rw[<-e];exact q
  ·have e:eM (.int i)=false:=decide_eq_false fun z=>h1 z.1
   rw[<-e];exact q
 |_=>exact Sel.no rfl q
theorem oE (B k d:Nat):jv (B:Int) (k:Int) (d:Int)=((st B k d:Nat):Int):=by
 unfold jv st
 rw[show((B:Int)- (d:Int)).toNat=B- d by omega,<-gi,<-Int.natCast_ediv]
theorem jW {B k d:Nat}(h:d<B):(k:Int)/2^((B:Int)- (d:Int)- 1).toNat%2=((sd B k d:Nat):Int):=by
 unfold sd
 rw[show((B:Int)- (d:Int)- 1).toNat=B- 1- d by omega,<-gi]
 omega
def knO (o:HO):Prop:=(∃xs,o=.tup xs)\/∃C dx t m fs,o=HO.ins C dx ((("term":Str),t)::(("mark":Str),m)::fs)
theorem KnA.keep {H H':Hp}{g g':gOp}{x:Addr}{t:Kn Str}{m:Key}(h:KnA A H g x t m)(k:∀z o,H z=some o->knO o->H' z=some o)(s:Sub g g'):KnA A H' g' x t m:=by
 induction h with
 |bare o ht hm ok sz=>exact .bare (k _ _ o (.inr ⟨_,_,_,_,_,rfl⟩)) (k _ _ ht (.inl ⟨_,rfl⟩)) (s _ _ hm) ok sz
 |leaf o ht hm ok sz hz=>exact .leaf (k _ _ o (.inr ⟨_,_,_,_,_,rfl⟩)) (k _ _ ht (.inl ⟨_,rfl⟩)) (s _ _ hm) ok sz hz
 |fork o hl hr ht hm ok sz ih1 ih2=>exact .fork (k _ _ o (.inr ⟨_,_,_,_,_,rfl⟩)) ih1 ih2 (k _ _ ht (.inl ⟨_,rfl⟩)) (s _ _ hm) ok sz
theorem knO.dT {kvs:List (List Key×V)}(h:knO (.dT kvs)):False:=by rcases h with⟨_,h⟩|⟨_,_,_,_,_,h⟩<;>cases h
theorem knO.tab {C dx:Addr}{v:V}{fs:List (Str×V)}(h:knO (.ins C dx ((("stamper":Str),v)::fs))):False:=by
 rcases h with⟨_,h⟩|⟨_,_,_,_,_,h⟩
 ·cases h
 ·injection h with _ _ h;injection h with h;injection h with h;exact absurd h (by decide)
theorem knO.nil {C dx:Addr}(h:knO (.ins C dx [])):False:=by rcases h with⟨_,h⟩|⟨_,_,_,_,_,h⟩<;>cases h
theorem bF.kn {H H':Hp}{f b:Addr}{g:gOp}{n:Nat}(s:Stp A H f b g n)(k:bF b H H'):∀z o,H z=some o->knO o->H' z=some o:=fun z o e h=>k z o (s.nb e fun kvs q=>by subst q;exact h.dT) e
theorem aN.kn {H H':Hp}{f b x:Addr}{g:gOp}{n:Nat}{u:HO}(s:Stp A H f b g n)(k:aN b x H H')(hx:H x=some u)(hu:¬knO u):∀z o,H z=some o->knO o->H' z=some o:=fun z o e h=>k z o (s.nb e fun kvs q=>by subst q;exact h.dT) (fun q=>by subst q;rw[hx]at e;cases e;exact hu h) e
theorem KnA.kb {H H':Hp}{g g':gOp}{f b x:Addr}{t:Kn Str}{m:Key}{n:Nat}(h:KnA A H g x t m)(s:Stp A H f b g n)(k:bF b H H')(sub:Sub g g'):KnA A H' g' x t m:=h.keep (bF.kn s k) sub
theorem KnA.same {H H':Hp}{g:gOp}{x:Addr}{t:Kn Str}{m:Key}(h:KnA A H g x t m)(S:ar H H'):KnA A H' g x t m:=h.keep (fun z o e _=>S z o e) Sub.rfl'
theorem KnA.ok {H:Hp}{g:gOp}{x:Addr}{t:Kn Str}{m:Key}(h:KnA A H g x t m):okP m=true/\szK m<=szN t:=by cases h<;>exact⟨‹_›,‹_›⟩
theorem KnA.ob {H:Hp}{g:gOp}{x:Addr}{t:Kn Str}{m:Key}(h:KnA A H g x t m):∃dx p fs,H x=some (.ins (clK A t) dx ((("term":Str),.ref p)::(("mark":Str),kV m)::fs))/\∀nm:Str,(nm="found"\/nm="rows"\/nm="with_key"\/nm="without")->((("term":Str),V.ref p)::(("mark":Str),kV m)::fs).lookup nm=none:=by
 cases h with
 |bare o _ _ _ _=>exact⟨_,_,_,o,fun nm hn=>by rcases hn with rfl|rfl|rfl|rfl<;>rfl⟩
 |leaf o _ _ _ _ _=>exact⟨_,_,_,o,fun nm hn=>by rcases hn with rfl|rfl|rfl|rfl<;>rfl⟩
 |fork o _ _ _ _ _ _=>exact⟨_,_,_,o,fun nm hn=>by rcases hn with rfl|rfl|rfl|rfl<;>rfl⟩
theorem cu (T:Txt K mg A)(t:Kn Str):Cls K (clK A t)/\aV K (clK A t) "mark"/\aV K (clK A t) "term":=by
 cases t
 ·exact⟨T.cl_Bare,T.na_Bare_mark,T.na_Bare_term⟩
 ·exact⟨T.cl_Leaf,T.na_Leaf_mark,T.na_Leaf_term⟩
 ·exact⟨T.cl_Fork,T.na_Fork_mark,T.na_Fork_term⟩
theorem ua:okP (.inr "bare")=true/\okP (.inr "leaf")=true/\okP (.inr "fork")=true:=by refine⟨?_,?_,?_⟩<;>decide+kernel
theorem zf:szK (.inr "bare")=66/\szK (.inr "leaf")=66/\szK (.inr "fork")=66:=by refine⟨?_,?_,?_⟩<;>decide+kernel
theorem okN {i:Int}(h0:0<=i)(h:i<2^60):okP (.inl i)=true:=by
 have p60:(2:Int)^60<10^60:=by decide+kernel
 exact decide_eq_true ⟨h0,by omega⟩
theorem okZ {z:Str}(h:gs z):okP (.inr z)=true:=by
 show(fR z&&decide (z.length<=100000))=true
 rw[h.1,decide_eq_true (by have:=h.2;omega)];rfl
theorem fF {w:Str}{k:List Key}(hw:okP (.inr w)=true)(hk:∀x∈k,okP x=true)(hl:k.length<=7):okT (.inr w::k)=true:=by
 unfold okT
 refine tx.mpr ⟨tx.mpr ⟨decide_eq_true ⟨by simp,by simp;omega⟩,rfl⟩,?_⟩
 rw[List.all_cons,hw]
 exact Mq.mpr hk
theorem FD:okT brT=true:=fF ua.1 (fun _ h=>nomatch h) (Li _)
theorem qX {k:Nat}(h:k<2^60):okP (.inl (k:Int))=true:=okN (by omega) (by omega)
theorem FN {k:Nat}{z:Str}(h:k<2^60)(hz:gs z):okT (lfT k z)=true:=fF ua.2.1 (fun x hx=>by
 rcases If.mp hx with rfl|hx
 ·exact qX h
 ·rw[KZ.mp hx];exact okZ hz) (show 2<=7 by decide)
theorem Gy {d b:Nat}{l r:Key}(hd:d<60)(hb:b<2^60)(hl:okP l=true)(hr:okP r=true):okT (fkT d b l r)=true:=fF ua.2.2 (fun x hx=>by
 rcases If.mp hx with rfl|hx
 ·exact qX (by omega)
 ·rcases If.mp hx with rfl|hx
  ·exact qX hb
  ·rcases If.mp hx with rfl|hx
   ·exact hl
   ·rw[KZ.mp hx];exact hr) (show 4<=7 by decide)
theorem kq {k:List Key}{v:Key}{n:Nat}(h:qe k v)(hn:szT k<=n)(h2:n+62<=100000):okP v=true/\szK v<=n+62:=by
 cases v with
 |inl i=>exact⟨decide_eq_true h,by show 62<=_;omega⟩
 |inr z=>
  have:=h.2
  refine⟨?_,by show z.length+62<=_;omega⟩
  show(fR z&&decide (z.length<=100000))=true
  rw[h.1,decide_eq_true (by omega)];rfl
theorem Ej {k:Nat}{z:Str}(hz:gs z):szT (lfT k z)<=250:=by
 have:=hz.2
 show szK (.inr "leaf")+(62+(z.length+62+0))<=_
 rw[zf.2.1];omega
theorem Gz {d b:Nat}{l r:Key}:szT (fkT d b l r)=190+szK l+szK r:=by
 show szK (.inr "fork")+(62+(62+(szK l+(szK r+0))))=_
 rw[zf.2.2];omega
theorem yF {i:Nat}{σ:L2.St}{H:Hp}{Q:List V->Hp->Prop}{v:V}(h:σ[i]?=some (some v))(q:Q [v] H):ac (ae i) ai σ H Q:=by
 show(match σ[i]? with|some (some v)=>ai σ H fun xs H2=>Q (v::xs) H2|_=>False)
 rw[h];exact q
theorem AK (K:cW)(A:Adr):Ln (iC K A) 3:=by rintro vs H Q E ⟨x,dx,C,f,b,p,g,n,k,rfl,_⟩;rfl
theorem Eu (T:Txt K mg A):Rd (iC K A) (Kb K A) ["self","stamper","term"]:=by
 intro vs H Q E h
 obtain⟨x,dx,C,f,b,p,g,n,k,rfl,hx,cl,n1,n2,s,hn,hp,ok,q⟩:=h
 refine⟨x,C,dx,[],rfl,hx,cl,n1,by decide,?_⟩
 have s1:Stp A (upd H x (.ins C dx (aX "term" (.ref p) []))) f b g n:=s.put (gV _) hx fun v z=>nomatch z
 have px:p≠x:=bu hp hx (fun z=>nomatch z)
 refine⟨f,rfl,s1.clo,yF (v:=.ref p) rfl ?_⟩
 refine gy s1 hn (by rw[am px];exact hp) ok fun v H2 g2 kb s2 sub gv st=>?_
 have hx1:upd H x (.ins C dx (aX "term" (.ref p) [])) x=some (.ins C dx [(("term":Str),.ref p)]):=af
 have hx2:=kb _ _ (s1.nb hx1 fun _ z=>nomatch z) hx1
 refine⟨x,C,dx,[(("term":Str),.ref p)],rfl,hx2,cl,n2,by show 1<1000;decide,q v g2 _ (fun z o zb zx e=>?_) af (s2.put (gV _) hx2 fun v z=>?_) sub gv st⟩
 ·rw[am zx];exact kb _ _ zb (by rw[am zx];exact e)
 ·injection z with z;injection z with z;exact absurd z (by decide)
theorem FF (K:cW)(A:Adr):Ln (qA K A) 2:=by rintro vs H Q E ⟨x,dx,f,b,g,n,rfl,_⟩;rfl
theorem Ka (T:Txt K mg A):Rd (qA K A) (T_0 K A) ["self","stamper"]:=by
 intro vs H Q E h
 obtain⟨x,dx,f,b,g,n,rfl,hx,s,hn,q⟩:=h
 refine⟨by show 1<=sizeLine;decide,fun p hp=>?_⟩
 have S:=ar.upd (o:=.tup [.str "bare"]) hp
 refine⟨x,dx,A.c_Bare,f,b,p,g,n,brT,rfl,S _ _ hx,T.cl_Bare,T.na_Bare_term,T.na_Bare_mark,s.same (gV _) S,hn,af,FD,fun m g' H' k o s' sub gm st=>?_⟩
 obtain⟨ok,sz⟩:=kq (n:=130) st (by decide+kernel) (by decide)
 have px:p≠x:=KP (ap hx hp)
 have s1:=s.same (gV n) S
 exact q m g' H' (fun z u zb zx e=>k z u zb zx (S _ _ e)) (.bare o (k _ _ (s1.nb (o:=.tup (brT.map kV)) af fun _ z=>nomatch z) px af) gm ok (by omega)) s' sub
theorem BX (K:cW)(A:Adr):Ln (gU K A) 4:=by rintro vs H Q E ⟨x,dx,f,b,g,n,k,z,rfl,_⟩;rfl
theorem Ee (T:Txt K mg A):Rd (gU K A) (JQ K A) ["self","stamper","key","value"]:=by
 intro vs H Q E h
 obtain⟨x,dx,f,b,g,n,kk,z,rfl,hx,s,hn,k60,hz,q⟩:=h
 refine⟨by show 3<=sizeLine;decide,fun p hp=>?_⟩
 have S:=ar.upd (o:=.tup [.str "leaf",.int (kk:Int),.str z]) hp
 refine⟨x,dx,A.c_Leaf,f,b,p,g,n,lfT kk z,rfl,S _ _ hx,T.cl_Leaf,T.na_Leaf_term,T.na_Leaf_mark,s.same (gV _) S,hn,af,FN k60 hz,fun m g' H' k o s' sub gm st=>?_⟩
 obtain⟨ok,sz⟩:=kq (n:=250) st (Ej hz) (by decide)
 have px:p≠x:=KP (ap hx hp)
 have s1:=s.same (gV n) S
 have hp':=k _ _ (s1.nb (o:=.tup ((lfT kk z).map kV)) af fun _ z=>nomatch z) px af
 refine⟨x,A.c_Leaf,dx,_,rfl,o,T.cl_Leaf,T.na_Leaf_key,by show 2<1000;decide,?_⟩
 refine⟨x,A.c_Leaf,dx,_,rfl,af,T.cl_Leaf,T.na_Leaf_text,by show 3<1000;decide,?_⟩
 rw[eL]
 have e:aX "text" (.str z) (aX "key" (.int (kk:Int)) [("term",.ref p),("mark",kV m)])=([("term",.ref p),("mark",kV m),("key",.int (kk:Int)),("text",.str z)]:List (Str×V)):=rfl
 rw[e]
 refine q m g' _ (fun y u yb yx e=>by rw[am yx];exact k y u yb yx (S _ _ e)) (.leaf af (by rw[am px];exact hp') gm ok (by omega) hz) (s'.put (gV _) o fun v z=>?_) sub
 injection z with z;injection z with z;exact absurd z (by decide)
theorem Ew (K:cW)(A:Adr):Ln (iu K A) 6:=by rintro vs H Q E ⟨x,dx,f,b,l,r,g,n,d,e,tl,tr,ml,mr,rfl,_⟩;rfl
theorem Km (T:Txt K mg A):Rd (iu K A) (T_3 K A) ["self","stamper","depth","begin","left","right"]:=by
 intro vs H Q E h
 obtain⟨x,dx,f,b,l,r,g,n,d,e,tl,tr,ml,mr,rfl,hx,s,hn,d60,e60,kl,kr,szs,q⟩:=h
 obtain⟨dl,pl,fl,ol,_⟩:=kl.ob
 obtain⟨dr,pr,fr,or',_⟩:=kr.ob
 refine⟨l,_,dl,_,_,rfl,ol,(cu T tl).1,(cu T tl).2.1,rfl,r,_,dr,_,_,rfl,or',(cu T tr).1,(cu T tr).2.1,rfl,by show 5<=sizeLine;decide,fun p hp=>?_⟩
 have S:=ar.upd (o:=.tup [.str "fork",.int (d:Int),.int (e:Int),kV ml,kV mr]) hp
 refine⟨x,dx,A.c_Fork,f,b,p,g,n,fkT d e ml mr,rfl,S _ _ hx,T.cl_Fork,T.na_Fork_term,T.na_Fork_mark,s.same (gV _) S,hn,af,Gy d60 e60 kl.ok.1 kr.ok.1,fun m g' H' k o s' sub gm st=>?_⟩
 have zl:=kl.ok.2
 have zr:=kr.ok.2
 obtain⟨ok,sz⟩:=kq (n:=190+szK ml+szK mr) st (NA Gz) (by omega)
 have px:p≠x:=KP (ap hx hp)
 have s1:=s.same (gV n) S
 have hp':=k _ _ (s1.nb (o:=.tup ((fkT d e ml mr).map kV)) af fun _ z=>nomatch z) px af
 have kn:=aN.kn s1 k (S _ _ hx) knO.nil
 refine⟨x,A.c_Fork,dx,_,rfl,o,T.cl_Fork,T.na_Fork_depth,by show 2<1000;decide,?_⟩
 refine⟨x,A.c_Fork,dx,_,rfl,af,T.cl_Fork,T.na_Fork_begin,by show 3<1000;decide,?_⟩
 refine⟨x,A.c_Fork,dx,_,rfl,af,T.cl_Fork,T.na_Fork_left,by show 4<1000;decide,?_⟩
 refine⟨x,A.c_Fork,dx,_,rfl,af,T.cl_Fork,T.na_Fork_right,by show 5<1000;decide,?_⟩
 rw[eL,eL,eL]
 have ef:aX "right" (.ref r) (aX "left" (.ref l) (aX "begin" (.int (e:Int)) (aX "depth" (.int (d:Int)) [("term",.ref p),("mark",kV m)])))=([("term",.ref p),("mark",kV m),("depth",.int (d:Int)),("begin",.int (e:Int)),("left",.ref l),("right",.ref r)]:List (Str×V)):=rfl
 rw[ef]
 have up:∀z u,H z=some u->knO u->upd H' x (.ins A.c_Fork dx [("term",.ref p),("mark",kV m),("depth",.int (d:Int)),("begin",.int (e:Int)),("left",.ref l),("right",.ref r)]) z=some u:=fun z u ez hu=>by
  rw[am (fun q=>by subst q;rw[hx]at ez;cases ez;exact knO.nil hu)]
  exact kn z u (S _ _ ez) hu
 refine q m g' _ (fun y u yb yx e=>by rw[am yx];exact k y u yb yx (S _ _ e)) (.fork af (kl.keep up sub) (kr.keep up sub) (by rw[am px];exact hp') gm ok (by show _<=300+szN tl+szN tr;omega)) (s'.put (gV _) o fun v z=>?_) sub
 injection z with z;injection z with z;exact absurd z (by decide)
theorem oA {B d key:Nat}{z:Str}{t:Kn Str}:szN (dM B d key z t)=700+szN t:=by
 unfold dM;split
 ·show 300+400+szN t=_;omega
 ·show 300+szN t+400=_;omega
theorem gS {B key:Nat}{z:Str}:∀t:Kn Str,szN (cm B key z t)<=szN t+700
 |.bare=>by show 400<=200+700;omega
 |.leaf k t=>by
  unfold cm;split
  ·show 400<=400+700;omega
  ·rw[oA];omega
 |.fork d b l r=>by
  have h1:=gS (B:=B) (key:=key) (z:=z) l
  have h2:=gS (B:=B) (key:=key) (z:=z) r
  unfold cm;split
  ·split<;>(show 300+_+_<=300+_+_+700;omega)
  ·rw[oA];omega
theorem ia {B key:Nat}{z:Str}:∀t:Kn Str,(bo (cm B key z t)).length<=(bo t).length+1
 |.bare=>gV _
 |.leaf k t=>by
  unfold cm;split
  ·show 1<=2;decide
  ·unfold dM;split<;>exact gV 2
 |.fork d b l r=>by
  have h1:=ia (B:=B) (key:=key) (z:=z) l
  have h2:=ia (B:=B) (key:=key) (z:=z) r
  have ef:∀d b (l r:Kn Str),(bo (.fork d b l r)).length=(bo l).length+(bo r).length:=fun _ _ _ _=>KW
  have el:∀k (z:Str),(bo (.leaf k z)).length=1:=fun _ _=>rfl
  unfold cm;split
  ·split
   ·rw[ef,ef];omega
   ·rw[ef,ef];omega
  ·unfold dM;split
   ·rw[ef,el];omega
   ·rw[ef,el];omega
theorem WF.dp {B:Nat}:∀{t:Kn Str}{d0 b0:Nat},b0<2^d0->WF B d0 b0 t->ff B t/\hgt t<=B- d0
 |.bare,_,_,_,_=>⟨trivial,Li _⟩
 |.leaf _ _,_,_,_,_=>⟨trivial,Li _⟩
 |.fork d b l r,d0,b0,hb,h=>by
  obtain⟨h1,h2,h3,h4,h5⟩:=h
  have hbd:b<2^d:=by
   have e:2^d=2^d0*2^(d- d0):=by rw[<-Nr];congr 1;omega
   rw[e]
   exact(NB (MN _)).mp (by rw[h3];exact hb)
  have e2:2^(d+1)=2*2^d:=by rw[Of];omega
  obtain⟨a1,a2⟩:=WF.dp (t:=l) (by omega) h4
  obtain⟨b1,b2⟩:=WF.dp (t:=r) (by omega) h5
  exact⟨⟨h2,hbd,a1,b1⟩,by show max (hgt l) (hgt r)+1<=_;omega⟩
theorem WF.szN {B:Nat}:∀{t:Kn Str}{d0 b0:Nat},WF B d0 b0 t->szN t+300<=700*(bo t).length
 |.bare,_,_,h=>h.elim
 |.leaf _ _,_,_,_=>by show 400+300<=700*1;omega
 |.fork d b l r,_,_,h=>by
  have a:=WF.szN h.2.2.2.1
  have b':=WF.szN h.2.2.2.2
  have e:(bo (.fork d b l r)).length=(bo l).length+(bo r).length:=KW
  show 300+Rs.szN l+Rs.szN r+300<=_
  rw[e];omega
theorem WFo.dp {B:Nat}{t:Kn Str}(h:WFo B t):ff B t/\hgt t<=B:=by
 rcases h with rfl|h
 ·exact⟨trivial,Li _⟩
 ·exact h.dp (by decide)
theorem WFo.szN {B:Nat}{t:Kn Str}(h:WFo B t):szN t<=700*(bo t).length+200:=by
 rcases h with rfl|h
 ·exact gV _
 ·have:=h.szN;omega
theorem WFo.lt {B:Nat}{t:Kn Str}(h:WFo B t):∀p∈bo t,p.1<2^B:=by
 rcases h with rfl|h
 ·exact fun _ z=>nomatch z
 ·exact fun p hp=>(h.mem (Li _) p hp).1
theorem WFo.with {B key:Nat}{z:Str}{t:Kn Str}(h:WFo B t)(hk:key<2^B):WFo B (cm B key z t)/\∀k,bC B k (cm B key z t)=if k=key then some z else bC B k t:=by
 rcases h with rfl|h
 ·exact⟨.inr ⟨hk,MX (by simpa using hk)⟩,fun k=>rfl⟩
 ·have e:st B key 0=0:=MX (by simpa using hk)
  obtain⟨a,b⟩:=jq (x:=z) hk (Li _) h e
  exact⟨.inr a,b⟩
theorem KnQ.le {H:Hp}{f b:Addr}{g:gOp}{n c c':Nat}{t:Kn Str}{Q:VK}(h:KnQ A H f b g n c' t Q)(hc:c<=c'):KnQ A H f b g n c t Q:=fun y m g' H' kb k s sub=>h y m g' H' kb k (s.same (by omega) ar.rfl') sub
theorem bZ {H:Hp}{x dx:Addr}{o u:HO}(hx:H x=none)(hdx:H dx=none)(ne:dx≠x):ar H (upd (upd H dx o) x u):=(ar.upd hdx).trans (ar.upd (by rw[am (KP ne)];exact hx))
theorem su {H:Hp}{x dx f b C:Addr}{g:gOp}{n:Nat}{t:Kn Str}{Q:VK}(hx:H x=none)(hdx:H dx=none)(ne:dx≠x)(q:KnQ A H f b g n 1 t Q):InQ A (upd (upd H dx (.own x)) x (.ins C dx [])) x f b g n t (fun v H2=>v=.non/\Q (.ref x) H2):=
 fun m g' H' k kn s sub=>⟨rfl,q x m g' H' (fun z o zb e=>k z o zb (ap e hx) (bZ hx hdx ne _ _ e)) kn s sub⟩
theorem yf {H:Hp}{x dx f b:Addr}{g:gOp}{n k:Nat}{z:Str}{Q:VK}{E:XK}(hx:H x=none)(hdx:H dx=none)(ne:dx≠x)(s:Stp A H f b g n)(hn:n<=45000)(hk:k<2^60)(hz:gs z)(q:KnQ A H f b g n 1 (.leaf k z) Q):
  gU K A [.ref x,.ref f,.int (k:Int),.str z] (upd (upd H dx (.own x)) x (.ins A.c_Leaf dx [])) (fun v H2=>v=.non/\Q (.ref x) H2) E:=
 ⟨x,dx,f,b,g,n,k,z,rfl,af,s.same (gV _) (bZ hx hdx ne),hn,hk,hz,su hx hdx ne q⟩
theorem iI {H:Hp}{x dx f b l r:Addr}{g:gOp}{n d e:Nat}{tl tr:Kn Str}{ml mr:Key}{Q:VK}{E:XK}(hx:H x=none)(hdx:H dx=none)(ne:dx≠x)(s:Stp A H f b g n)(hn:n<=45000)(hd:d<60)(he:e<2^60)(kl:KnA A H g l tl ml)(kr:KnA A H g r tr mr)(sz:szN tl+szN tr<=90000)
  (q:KnQ A H f b g n 1 (.fork d e tl tr) Q):iu K A [.ref x,.ref f,.int (d:Int),.int (e:Int),.ref l,.ref r] (upd (upd H dx (.own x)) x (.ins A.c_Fork dx [])) (fun v H2=>v=.non/\Q (.ref x) H2) E:=
 have S:=bZ (o:=.own x) (u:=.ins A.c_Fork dx []) hx hdx ne
 ⟨x,dx,f,b,l,r,g,n,d,e,tl,tr,ml,mr,rfl,af,s.same (gV _) S,hn,hd,he,kl.same S,kr.same S,sz,su hx hdx ne q⟩
theorem KnA.fk {H:Hp}{g:gOp}{x:Addr}{d b:Nat}{tl tr:Kn Str}{m:Key}(h:KnA A H g x (.fork d b tl tr) m):∃l r ml mr,gp A H x d b l r/\KnA A H g l tl ml/\KnA A H g r tr mr:=by
 cases h with
 |fork o hl hr _ _ _ _=>exact⟨_,_,_,_,⟨_,_,_,o⟩,hl,hr⟩
theorem EK (K:cW)(A:Adr):Ln (nR K A) 3:=by rintro vs H Q E ⟨x,l,r,d,b,B,key,rfl,_⟩;rfl
theorem Kc (T:Txt K mg A):Rd (nR K A) (T_7 K A) ["self","bits","key"]:=by
 intro vs H Q E h
 obtain⟨x,l,r,d,b,B,key,rfl,⟨dx,t,m,o⟩,hd,q⟩:=h
 refine⟨x,_,dx,_,_,rfl,o,T.cl_Fork,T.na_Fork_depth,rfl,_,_,_,rfl,by omega,x,_,dx,_,_,rfl,o,T.cl_Fork,T.na_Fork_begin,rfl,?_⟩
 have e:decide (((st B key d:Nat):Int)=(b:Int))=decide (st B key d=b):=by
  by_cases h:st B key d=b
  ·rw[decide_eq_true h,decide_eq_true (by rw[h])]
  ·rw[decide_eq_false h,decide_eq_false (by omega)]
 show Q (.bl (decide (jv (B:Int) (key:Int) (d:Int)=(b:Int)))) H
 rw[oE,e];exact q
theorem DT (K:cW)(A:Adr):Ln (jm K A) 3:=by rintro vs H Q E ⟨x,l,r,d,b,B,key,rfl,_⟩;rfl
theorem IY (T:Txt K mg A):Rd (jm K A) (T_8 K A) ["self","bits","key"]:=by
 intro vs H Q E h
 obtain⟨x,l,r,d,b,B,key,rfl,⟨dx,t,m,o⟩,hd,q⟩:=h
 refine⟨x,_,dx,_,_,rfl,o,T.cl_Fork,T.na_Fork_depth,rfl,_,_,_,rfl,by omega,by omega,?_⟩
 rw[jW hd]
 refine Sel.dec (fun h=>?_) (fun h=>?_)
 ·have h:sd B key d=0:=by have h:((sd B key d:Nat):Int)=0:=h;omega
  rw[if_pos h]at q
  exact⟨x,_,dx,_,_,rfl,o,T.cl_Fork,T.na_Fork_left,rfl,q⟩
 ·have h:¬sd B key d=0:=by have h:¬((sd B key d:Nat):Int)=0:=h;omega
  rw[if_neg h]at q
  exact⟨x,_,dx,_,_,rfl,o,T.cl_Fork,T.na_Fork_right,rfl,q⟩
theorem Hi (K:cW)(A:Adr):Ln (nF K A) 3:=by rintro vs H Q E ⟨x,l,r,d,b,B,key,rfl,_⟩;rfl
theorem Il (T:Txt K mg A):Rd (nF K A) (T_4 K A) ["self","bits","key"]:=by
 intro vs H Q E h
 obtain⟨x,l,r,d,b,B,key,rfl,⟨dx,t,m,o⟩,hd,q⟩:=h
 refine⟨x,_,dx,_,_,rfl,o,T.cl_Fork,T.na_Fork_depth,rfl,_,_,_,rfl,by omega,by omega,?_⟩
 rw[jW hd]
 refine Sel.dec (fun h=>?_) (fun h=>?_)
 ·have h:sd B key d=0:=by have h:((sd B key d:Nat):Int)=0:=h;omega
  rw[if_pos h]at q
  exact⟨x,_,dx,_,_,rfl,o,T.cl_Fork,T.na_Fork_right,rfl,q⟩
 ·have h:¬sd B key d=0:=by have h:¬((sd B key d:Nat):Int)=0:=h;omega
  rw[if_neg h]at q
  exact⟨x,_,dx,_,_,rfl,o,T.cl_Fork,T.na_Fork_left,rfl,q⟩
theorem FP (K:cW)(A:Adr):Ln (ki K A) 3:=by rintro vs H Q E ⟨x,g,t,m,B,key,rfl,_⟩;rfl
theorem AW (K:cW)(A:Adr):Ln (iO K A) 3:=by rintro vs H Q E ⟨x,g,t,m,B,key,rfl,_⟩;rfl
theorem FL (K:cW)(A:Adr)(n:Nat):Ln (iV K A n) 3:=by rintro vs H Q E ⟨x,g,t,m,B,key,rfl,_⟩;rfl
theorem CK (K:cW)(A:Adr):∀vs H Q E,iV K A 0 vs H Q E->False:=by rintro vs H Q E ⟨x,g,t,m,B,key,rfl,_,_,h,_⟩;omega
theorem Kof.b {H:Hp}{g:gOp}{x:Addr}{t:Kn Str}{m:Key}(h:Kof A H 0 g x t m):t=.bare:=by
 obtain⟨k,e⟩:=h;cases t<;>first|rfl|cases e
theorem kd1 {t:Kn Str}(e:kdK t=1):∃k z,t=.leaf k z:=by cases t<;>first|exact⟨_,_,rfl⟩|cases e
theorem kd2 {t:Kn Str}(e:kdK t=2):∃d b l r,t=.fork d b l r:=by cases t<;>first|exact⟨_,_,_,_,rfl⟩|cases e
theorem Ag {H:Hp}{g:gOp}{x:Addr}{t:Kn Str}{m:Key}{sB sL sF:Sp}(nm:Str)(hn:nm="found"\/nm="rows"\/nm="with_key"\/nm="without")(h:KnA A H g x t m)(R:Sp->Prop)(q0:kdK t=0->R sB)(q1:kdK t=1->R sL)(q2:kdK t=2->R sF):
  ∃a C dx fs sp,V.ref x=.ref a/\H a=some (.ins C dx fs)/\(C,sp)∈[(A.c_Bare,sB),(A.c_Leaf,sL),(A.c_Fork,sF)]/\fs.lookup nm=none/\R sp:=by
 obtain⟨dx,p,fs,o,l⟩:=h.ob
 cases t with
 |bare=>exact⟨x,_,_,_,sB,rfl,o,Lj,l nm hn,q0 rfl⟩
 |leaf _ _=>exact⟨x,_,_,_,sL,rfl,o,Lb _ Lj,l nm hn,q1 rfl⟩
 |fork _ _ _ _=>exact⟨x,_,_,_,sF,rfl,o,Lb _ (Lb _ Lj),l nm hn,q2 rfl⟩
theorem kdh {t:Kn Str}{i:Nat}(e:kdK t=i)(hi:i<2):hgt t<70:=by
 cases t with
 |bare=>show 0<70;decide
 |leaf _ _=>show 0<70;decide
 |fork _ _ _ _=>have:2=i:=e;omega
theorem hZ {n:Nat}{H:Hp}{Q:VK}{E:XK}{g:gOp}{x:Addr}{t:Kn Str}{m:Key}{B key:Nat}(k:KnA A H g x t m)(dp:ff B t)(hn:hgt t<n)(q:Q (ov (bC B key t)) H):
  ∃a C dx fs sp,V.ref x=.ref a/\H a=some (.ins C dx fs)/\(C,sp)∈[(A.c_Bare,ki K A),(A.c_Leaf,iO K A),(A.c_Fork,iV K A n)]/\fs.lookup ("found":Str)=none/\sp [.ref x,.int (B:Int),.int (key:Int)] H Q E:=
 Ag "found" (.inl rfl) k (fun sp=>sp [.ref x,.int (B:Int),.int (key:Int)] H Q E) (fun e=>⟨x,g,t,m,B,key,rfl,⟨k,e⟩,dp,kdh e (by decide),q⟩) (fun e=>⟨x,g,t,m,B,key,rfl,⟨k,e⟩,dp,kdh e (by decide),q⟩) (fun e=>⟨x,g,t,m,B,key,rfl,⟨k,e⟩,dp,hn,q⟩)
theorem JL (T:Txt K mg A):Rd (ki K A) (T_1 K A) ["self","bits","key"]:=by
 intro vs H Q E h
 obtain⟨x,g,t,m,B,key,rfl,k,_,_,q⟩:=h
 cases k.b
 exact q
theorem Hx (T:Txt K mg A):Rd (iO K A) (JT K A) ["self","bits","key"]:=by
 intro vs H Q E h
 obtain⟨x,g,t,m,B,key,rfl,⟨k,e⟩,_,_,q⟩:=h
 obtain⟨kk,z,rfl⟩:=kd1 e
 cases k with
 | @leaf _ dx _ _ _ _ o _ _ _ _ _=>
   refine⟨x,_,dx,_,_,rfl,o,T.cl_Leaf,T.na_Leaf_key,rfl,Sel.dec (fun h=>?_) (fun h=>?_)⟩
   ·have h:key=kk:=by have h:(key:Int)=(kk:Int):=h;omega
    have q:Q (ov (if key=kk then some z else none)) H:=q
    rw[if_pos h]at q
    exact⟨x,_,dx,_,_,rfl,o,T.cl_Leaf,T.na_Leaf_text,rfl,q⟩
   ·have h:¬key=kk:=by have h:¬(key:Int)=(kk:Int):=h;omega
    have q:Q (ov (if key=kk then some z else none)) H:=q
    rw[if_neg h]at q
    exact q
theorem Kl (T:Txt K mg A)(n:Nat):Rd (iV K A (n+1)) (T_6 K A n) ["self","bits","key"]:=by
 intro vs H Q E h
 obtain⟨x,g,t,m,B,key,rfl,⟨k,e⟩,dp,hn,q⟩:=h
 obtain⟨d,b,tl,tr,rfl⟩:=kd2 e
 obtain⟨l,r,ml,mr,fk,kl,kr⟩:=k.fk
 obtain⟨dx,p,mm,o⟩:=id fk
 have q:Q (ov (if sd B key d=0 then bC B key tl else bC B key tr)) H:=q
 have hh:max (hgt tl) (hgt tr)+1<n+1:=hn
 refine⟨x,dx,_,rfl,o,rfl,x,l,r,d,b,B,key,rfl,fk,dp.1,?_⟩
 by_cases hs:sd B key d=0
 ·rw[if_pos hs]at q⊢
  exact hZ (n:=n) kl dp.2.2.1 (by omega) q
 ·rw[if_neg hs]at q⊢
  exact hZ (n:=n) kr dp.2.2.2 (by omega) q
theorem CQ (K:cW)(A:Adr):Ln (jJ K A) 5:=by rintro vs H Q E ⟨f,b,x,y,g,n,B,d,key,z,t,m,m',rfl,_⟩;rfl
theorem AE {B key d:Nat}(h:key<2^B)(hB:B<=60):st B key d<2^60:=by
 have:2^B<=2^60:=Mj (by decide) hB
 exact LK (Nat.div_le_self _ _) (KS h this)
theorem GJ (T:Txt K mg A):Rd (jJ K A) (IL K A) ["stamper","bits","depth","leaf","knot","begin"]:=by
 intro vs H Q E h
 obtain⟨f,b,x,y,g,n,B,d,key,z,t,m,m',rfl,ks,hn,ky,hd,hk,q⟩:=h
 have B60:=ks.B60
 have sz:=ks.sz
 obtain⟨dy,p,oy⟩:∃dy p,H y=some (.ins A.c_Leaf dy [("term",.ref p),("mark",kV m'),("key",.int (key:Int)),("text",.str z)]):=by cases ky with|leaf o _ _ _ _ _=>exact⟨_,_,o⟩
 refine⟨y,_,dy,_,_,rfl,oy,T.cl_Leaf,T.na_Leaf_key,rfl,_,_,_,rfl,by omega,y,_,dy,_,_,rfl,oy,T.cl_Leaf,T.na_Leaf_key,rfl,_,_,_,rfl,by omega,by omega,?_⟩
 rw[jW hd,oE]
 unfold dM at q
 refine Sel.dec (fun h=>?_) (fun h=>?_)
 ·have h:sd B key d=0:=by have h:((sd B key d:Nat):Int)=0:=h;omega
  rw[if_pos h]at q
  intro x' dx' hx hdx ne
  exact iI hx hdx ne ks.s hn (by omega) (AE hk B60) ky ks.k (by show 400+_<=_;omega) q
 ·have h:¬sd B key d=0:=by have h:¬((sd B key d:Nat):Int)=0:=h;omega
  rw[if_neg h]at q
  intro x' dx' hx hdx ne
  exact iI hx hdx ne ks.s hn (by omega) (AE hk B60) ks.k ky (by show _+400<=_;omega) q
theorem Fq (K:cW)(A:Adr):Ln (pH K A) 5:=by rintro vs H Q E ⟨x,f,b,l,r,y,g,n,B,d,e,key,tl,tr,t,m,ml,mr,rfl,_⟩;rfl
theorem IX (T:Txt K mg A):Rd (pH K A) (T_5 K A) ["self","stamper","bits","key","knot"]:=by
 intro vs H Q E h
 obtain⟨x,f,b,l,r,y,g,n,B,d,e,key,tl,tr,t,m,ml,mr,rfl,⟨dx,p,mm,o⟩,kl,kr,ky,s,hn,hd,B60,e60,sz,q⟩:=h
 refine⟨x,_,dx,_,_,rfl,o,T.cl_Fork,T.na_Fork_depth,rfl,_,_,_,rfl,by omega,by omega,?_⟩
 rw[jW hd]
 refine Sel.dec (fun h=>?_) (fun h=>?_)
 ·have h:sd B key d=0:=by have h:((sd B key d:Nat):Int)=0:=h;omega
  rw[if_pos h]at q sz
  refine⟨x,_,dx,_,_,rfl,o,T.cl_Fork,T.na_Fork_depth,rfl,x,_,dx,_,_,rfl,o,T.cl_Fork,T.na_Fork_begin,rfl,x,_,dx,_,_,rfl,o,T.cl_Fork,T.na_Fork_right,rfl,fun x' dx' hx hdx ne=>?_⟩
  exact iI hx hdx ne s hn (by omega) e60 ky kr (by omega) q
 ·have h:¬sd B key d=0:=by have h:¬((sd B key d:Nat):Int)=0:=h;omega
  rw[if_neg h]at q sz
  refine⟨x,_,dx,_,_,rfl,o,T.cl_Fork,T.na_Fork_depth,rfl,x,_,dx,_,_,rfl,o,T.cl_Fork,T.na_Fork_begin,rfl,x,_,dx,_,_,rfl,o,T.cl_Fork,T.na_Fork_left,rfl,fun x' dx' hx hdx ne=>?_⟩
  exact iI hx hdx ne s hn (by omega) e60 kl ky (by omega) q
theorem kT {H H':Hp}{x dx b:Addr}{o u:HO}(hx:H x=none)(hdx:H dx=none)(ne:dx≠x)(k:aN b x (upd (upd H dx o) x u) H'):bF b H H':=fun z o zb e=>k z o zb (ap e hx) (bZ hx hdx ne _ _ e)
theorem Dt (K:cW)(A:Adr):Ln (ko K A) 5:=by rintro vs H Q E ⟨x,f,b,g,n,B,key,z,t,m,rfl,_⟩;rfl
theorem CG (K:cW)(A:Adr):Ln (iJ K A) 5:=by rintro vs H Q E ⟨x,f,b,g,n,B,key,z,t,m,rfl,_⟩;rfl
theorem Ec (K:cW)(A:Adr)(j:Nat):∀vs H Q E,jl K A j vs H Q E->vs.length=5:=by rintro vs H Q E ⟨x,f,b,g,n,B,key,z,t,m,rfl,_⟩;rfl
theorem AH (K:cW)(A:Adr):∀vs H Q E,jl K A 0 vs H Q E->False:=by rintro vs H Q E ⟨x,f,b,g,n,B,key,z,t,m,rfl,_,_,_,_,_,_,h,_⟩;omega
theorem qh {B key:Nat}(h:key<2^B)(hB:B<=60):key<2^60:=KS h (Mj (by decide) hB)
theorem IJ (T:Txt K mg A):Rd (ko K A) (T_2 K A) ["self","stamper","bits","key","value"]:=by
 intro vs H Q E h
 obtain⟨x,f,b,g,n,B,key,z,t,m,rfl,ks,e,hn,_,hk,hz,_,_,q⟩:=h
 cases (Kof.b (A:=A) ⟨ks.k,e⟩)
 intro x' dx' hx hdx ne
 exact yf hx hdx ne ks.s (by omega) (qh hk ks.B60) hz (q.le (by show 1<=0+2;decide))
theorem KnQ.after {H H1:Hp}{f b:Addr}{g g1:gOp}{n c c1:Nat}{t:Kn Str}{Q:VK}(q:KnQ A H f b g n (c1+c) t Q)(kb:bF b H H1)(sub:Sub g g1):KnQ A H1 f b g1 (n+c1) c t Q:=fun y m g' H' kb' k s sub'=>q y m g' H' (kb.trans kb') k (s.same (by omega) ar.rfl') (sub.trans sub')
theorem Du (T:Txt K mg A):Rd (iJ K A) (Jl K A) ["self","stamper","bits","key","value","leaf"]:=by
 intro vs H Q E h
 obtain⟨x,f,b,g,n,B,key,z,t,m,rfl,ks,e,hn,hr,hk,hz,_,_,q⟩:=h
 obtain⟨kk,z',rfl⟩:=kd1 e
 have hkk:kk<2^B:=hr (kk,z') Lj
 intro y dx' hx hdx ne
 refine⟨y,dx',f,b,g,n,key,z,rfl,af,ks.s.same (gV _) (bZ hx hdx ne),by omega,qh hk ks.B60,hz,fun m' g1 H1 k2 ky s1 sub=>⟨rfl,?_⟩⟩
 have kb:=kT hx hdx ne k2
 have kx:=ks.k.kb ks.s kb sub
 obtain⟨dy,p,oy⟩:∃dy p,H1 x=some (.ins A.c_Leaf dy [("term",.ref p),("mark",kV m),("key",.int (kk:Int)),("text",.str z')]):=by cases kx with|leaf o _ _ _ _ _=>exact⟨_,_,o⟩
 refine⟨x,_,dy,_,_,rfl,oy,T.cl_Leaf,T.na_Leaf_key,rfl,Sel.dec (fun h=>?_) (fun h=>?_)⟩
 ·have h:key=kk:=by have h:(key:Int)=(kk:Int):=h;omega
  have q:KnQ A H f b g n (0+2) (if key=kk then .leaf key z else dM B (al B key kk) key z (.leaf kk z')) Q:=q
  rw[if_pos h]at q
  exact q y m' g1 H1 kb ky (s1.same (by omega) ar.rfl') sub
 ·have h:¬key=kk:=by have h:¬(key:Int)=(kk:Int):=h;omega
  have q:KnQ A H f b g n (0+2) (if key=kk then .leaf key z else dM B (al B key kk) key z (.leaf kk z')) Q:=q
  rw[if_neg h]at q
  obtain⟨a1,_,_⟩:=mW hk hkk h
  refine⟨x,_,dy,_,_,rfl,oy,T.cl_Leaf,T.na_Leaf_key,rfl,B,key,kk,al B key kk,rfl,hk,hkk,ii hk hkk,f,b,x,y,g1,n+1,B,al B key kk,key,z,.leaf kk z',m,m',rfl,⟨kx,s1,ks.B60,trivial,by show 1<=100;decide,by show 400<=80000;decide⟩,by omega,ky,a1,hk,?_⟩
  exact KnQ.after (c1:=1) (c:=1) q kb sub
theorem iZ {j:Nat}{H:Hp}{Q:VK}{E:XK}{f b x:Addr}{g:gOp}{n B key:Nat}{z:Str}{t:Kn Str}{m:Key}(ks:KnS A H f b g n B x t m)(hn:n+hgt t+10<=45000)(hr:∀p∈bo t,p.1<2^B)(hk:key<2^B)(hz:gs z)(hj:hgt t<j)(sz:szN t<=70000)
  (q:KnQ A H f b g n (hgt t+2) (cm B key z t) Q):
  ∃a C dx fs sp,V.ref x=.ref a/\H a=some (.ins C dx fs)/\(C,sp)∈[(A.c_Bare,ko K A),(A.c_Leaf,iJ K A),(A.c_Fork,jl K A j)]/\fs.lookup ("with_key":Str)=none/\sp [.ref x,.ref f,.int (B:Int),.int (key:Int),.str z] H Q E:=
 Ag "with_key" (.inr (.inr (.inl rfl))) ks.k (fun sp=>sp [.ref x,.ref f,.int (B:Int),.int (key:Int),.str z] H Q E) (fun e=>⟨x,f,b,g,n,B,key,z,t,m,rfl,ks,e,hn,hr,hk,hz,kdh e (by decide),sz,q⟩)
  (fun e=>⟨x,f,b,g,n,B,key,z,t,m,rfl,ks,e,hn,hr,hk,hz,kdh e (by decide),sz,q⟩) (fun e=>⟨x,f,b,g,n,B,key,z,t,m,rfl,ks,e,hn,hr,hk,hz,hj,sz,q⟩)
theorem KnS.side {H:Hp}{f b x y:Addr}{g:gOp}{n B d e:Nat}{tl tr t:Kn Str}{m m':Key}(h:KnS A H f b g n B x (.fork d e tl tr) m)(k:KnA A H g y t m')(ht:t=tl\/t=tr):KnS A H f b g n B y t m'/\szN t<=szN (.fork d e tl tr)/\hgt t+1<=hgt (.fork d e tl tr)/\∀p∈bo t,p∈bo (.fork d e tl tr):=by
 have e1:szN (.fork d e tl tr)=300+szN tl+szN tr:=rfl
 have e2:(bo (.fork d e tl tr)).length=(bo tl).length+(bo tr).length:=KW
 have e3:hgt (.fork d e tl tr)=max (hgt tl) (hgt tr)+1:=rfl
 have ln:=h.ln
 have sz:=h.sz
 rcases ht with rfl|rfl
 ·exact⟨⟨k,h.s,h.B60,h.dp.2.2.1,by omega,by omega⟩,by omega,by omega,fun p hp=>MC _ hp⟩
 ·exact⟨⟨k,h.s,h.B60,h.dp.2.2.2,by omega,by omega⟩,by omega,by omega,fun p hp=>Lp _ hp⟩
theorem gp.keep {H H':Hp}{x:Addr}{d b:Nat}{l r:Addr}(h:gp A H x d b l r)(k:∀z o,H z=some o->knO o->H' z=some o):gp A H' x d b l r:=by
 obtain⟨dx,t,m,o⟩:=h
 exact⟨dx,t,m,k _ _ o (.inr ⟨_,_,_,_,_,rfl⟩)⟩
theorem IU (T:Txt K mg A)(j:Nat)(vs:List V)(H:Hp)(Q:VK)(E:XK)(h:jl K A (j+1) vs H Q E):T_9 K A j {nx:=fun _ H'=>Q .non H',rt:=Q} (L2.bV ["self","stamper","bits","key","value","depth"] vs) H:=by
 obtain⟨x,f,b,g,n,B,key,z,t,m,rfl,ks,e,hn,hr,hk,hz,hj,sz,q⟩:=h
 obtain⟨d,bb,tl,tr,rfl⟩:=kd2 e
 obtain⟨l,r,ml,mr,fk,kl,kr⟩:=ks.k.fk
 obtain⟨dx,p,mm,o⟩:=id fk
 have dp:=ks.dp
 have B60:=ks.B60
 have b60:bb<2^60:=KS dp.2.1 (Mj (by decide) (by have:=dp.1;omega))
 have q:KnQ A H f b g n (hgt (.fork d bb tl tr)+2) (if st B key d=bb then(if sd B key d=0 then .fork d bb (cm B key z tl) tr else .fork d bb tl (cm B key z tr))else dM B (al d bb (st B key d)) key z (.fork d bb tl tr)) Q:=q
 refine⟨x,dx,_,rfl,o,rfl,x,l,r,d,bb,B,key,rfl,fk,dp.1,?_⟩
 by_cases hb:st B key d=bb
 ·rw[if_pos hb]at q
  rw[decide_eq_true hb]
  refine Sel.no rfl ⟨x,dx,_,rfl,o,rfl,x,dx,_,rfl,o,rfl,x,l,r,d,bb,B,key,rfl,fk,dp.1,?_⟩
  by_cases hs:sd B key d=0
  ·rw[if_pos hs]at q⊢
   obtain⟨k1,k2,k3,k4⟩:=ks.side kl (.inl rfl)
   refine iZ (j:=j) k1 (by omega) (fun p hp=>hr p (k4 p hp)) hk hz (by omega) (by omega) fun y m1 g1 H1 kb ky s1 sub=>?_
   have kn:=bF.kn ks.s kb
   have s2:=gS (B:=B) (key:=key) (z:=z) tl
   have s3:szN (.fork d bb tl tr)=300+szN tl+szN tr:=rfl
   refine⟨x,f,b,l,r,y,g1,n+(hgt tl+2),B,d,bb,key,tl,tr,cm B key z tl,m1,ml,mr,rfl,fk.keep kn,kl.keep kn sub,kr.keep kn sub,ky,s1,by omega,dp.1,B60,b60,by rw[if_pos hs];omega,?_⟩
   rw[if_pos hs]
   exact KnQ.after (c1:=hgt tl+2) (c:=1) (q.le (by omega)) kb sub
  ·rw[if_neg hs]at q⊢
   obtain⟨k1,k2,k3,k4⟩:=ks.side kr (.inr rfl)
   refine iZ (j:=j) k1 (by omega) (fun p hp=>hr p (k4 p hp)) hk hz (by omega) (by omega) fun y m1 g1 H1 kb ky s1 sub=>?_
   have kn:=bF.kn ks.s kb
   have s2:=gS (B:=B) (key:=key) (z:=z) tr
   have s3:szN (.fork d bb tl tr)=300+szN tl+szN tr:=rfl
   refine⟨x,f,b,l,r,y,g1,n+(hgt tr+2),B,d,bb,key,tl,tr,cm B key z tr,m1,ml,mr,rfl,fk.keep kn,kl.keep kn sub,kr.keep kn sub,ky,s1,by omega,dp.1,B60,b60,by rw[if_neg hs];omega,?_⟩
   rw[if_neg hs]
   exact KnQ.after (c1:=hgt tr+2) (c:=1) (q.le (by omega)) kb sub
 ·rw[if_neg hb]at q
  rw[decide_eq_false hb]
  refine Sel.yes rfl ⟨x,_,dx,_,_,rfl,o,T.cl_Fork,T.na_Fork_depth,rfl,x,_,dx,_,_,rfl,o,T.cl_Fork,T.na_Fork_begin,rfl,x,_,dx,_,_,rfl,o,T.cl_Fork,T.na_Fork_depth,rfl,_,_,_,rfl,by have:=dp.1;omega,?_⟩
  rw[oE]
  have hst:st B key d<2^d:=by
   have e:2^B=2^d*2^(B- d):=by rw[<-Nr];congr 1;have:=dp.1;omega
   exact(NB (MN _)).mpr (by rw[<-e];exact hk)
  obtain⟨a1,_,_⟩:=mW dp.2.1 hst (KP hb)
  refine⟨d,bb,st B key d,al d bb (st B key d),rfl,dp.2.1,hst,ii dp.2.1 hst,fun y dy hy hdy ne=>?_⟩
  refine⟨y,dy,f,b,g,n,key,z,rfl,af,ks.s.same (gV _) (bZ hy hdy ne),by omega,qh hk B60,hz,fun m' g1 H1 k2 ky s1 sub=>⟨rfl,?_⟩⟩
  have kb:=kT hy hdy ne k2
  refine⟨f,b,x,y,g1,n+1,B,al d bb (st B key d),key,z,.fork d bb tl tr,m,m',rfl,⟨ks.k.kb ks.s kb sub,s1,B60,dp,ks.ln,ks.sz⟩,by omega,ky,by have:=dp.1;omega,hk,?_⟩
  exact KnQ.after (c1:=1) (c:=1) (q.le (by omega)) kb sub
theorem kY {σ:L2.St}{H:Hp}{t:TA}{x:Addr}{nm:Str}{L:List (Addr×Sp)}{Q:VK}{E:XK}(vs:List V)(ht:∀R:List V->Hp->Prop,R vs H->t σ H R)(h:∃a C dx fs sp,V.ref x=.ref a/\H a=some (.ins C dx fs)/\(C,sp)∈L/\fs.lookup nm=none/\sp (.ref x::vs) H Q E):
  ∃a C dx fs sp,V.ref x=.ref a/\H a=some (.ins C dx fs)/\(C,sp)∈L/\fs.lookup nm=none/\t σ H fun ws H2=>sp (.ref x::ws) H2 Q E:=by
 obtain⟨a,C,dx,fs,sp,e,o,m,l,q⟩:=h
 exact⟨a,C,dx,fs,sp,e,o,m,l,ht _ q⟩
theorem AF (K:cW)(A:Adr):Ln (iD K A) 3:=by rintro vs H Q E ⟨x,dx,f,b,g,n,v,d,rfl,_⟩;rfl
theorem uk {d:Dat}(h:eM d=true):∃B:Nat,d=.int (B:Int)/\1<=B/\B<=60:=by
 cases d<;>first|cases h|skip
 rename_i i
 have h:1<=i/\i<=60:=of_decide_eq_true h
 obtain⟨y,hy⟩:=LN (a:=i) (by omega)
 exact⟨y,by rw[hy],by omega,by omega⟩
theorem iA {B:Nat}{d:Dat}(h:cn (B:Int) d=true):∃k:Nat,d=.int (k:Int)/\k<2^B:=by
 cases d<;>first|cases h|skip
 rename_i i
 have h:0<=i/\i<2^(B:Int).toNat:=of_decide_eq_true h
 obtain⟨y,hy⟩:=LN (a:=i) h.1
 refine⟨y,by rw[hy],?_⟩
 have h2:=h.2
 rw[hy,show(B:Int).toNat=B by omega,<-gi]at h2
 omega
theorem yI {d:Dat}(ok:okD d=true)(h:fM d=true):∃z,d=.str z/\gs z:=by
 cases d<;>first|cases h|skip
 rename_i z
 exact⟨z,rfl,(tx.mp ok).1,of_decide_eq_true h⟩
theorem aJ.int_inv {H:Hp}{v:V}{i:Int}(h:aJ H v (.int i)):v=.int i:=by cases h;rfl
theorem aJ.str_inv {H:Hp}{v:V}{z:Str}(h:aJ H v (.str z)):v=.str z:=by cases h;rfl
theorem FH (T:Txt K mg A):Rd (iD K A) (JX K A) ["self","stamper","bits"]:=by
 intro vs H Q E h
 obtain⟨x,dx,f,b,g,n,v,d,rfl,hx,hd,s,hn,qE,q⟩:=h
 refine⟨v,d,rfl,hd,?_⟩
 cases hb:eM d with
 |false=>exact Sel.yes rfl (qE hb)
 |true=>
  obtain⟨B,rfl,B1,B60⟩:=uk hb
  cases hd.int_inv
  have q:=q B rfl B1 B60
  refine Sel.no rfl ⟨x,A.c_Table,dx,[],rfl,hx,T.cl_Table,T.na_Table_stamper,by decide,?_⟩
  refine⟨x,A.c_Table,dx,_,rfl,af,T.cl_Table,T.na_Table_bits,by show 1<1000;decide,?_⟩
  rw[eL]
  have e2:aX "bits" (.int (B:Int)) (aX "stamper" (.ref f) [])=([("stamper",.ref f),("bits",.int (B:Int))]:List (Str×V)):=rfl
  rw[e2]
  have hx1:upd H x (.ins A.c_Table dx [("stamper",.ref f),("bits",.int (B:Int))]) x=some (.ins A.c_Table dx [("stamper",.ref f),("bits",.int (B:Int))]):=af
  have s1:Stp A (upd H x (.ins A.c_Table dx [("stamper",.ref f),("bits",.int (B:Int))])) f b g n:=s.put (gV _) hx fun v z=>nomatch z
  intro y dy hy hdy ne
  refine⟨y,dy,f,b,g,n,rfl,af,s1.same (gV _) (bZ hy hdy ne),hn,fun m g1 H1 k2 ky s2 sub=>⟨rfl,?_⟩⟩
  have kb:=kT hy hdy ne k2
  have hx2:=kb _ _ (s1.nb hx1 fun _ z=>nomatch z) hx1
  refine⟨x,A.c_Table,dx,_,rfl,hx2,T.cl_Table,T.na_Table_top,by show 2<1000;decide,?_⟩
  have e3:aX "top" (.ref y) ([("stamper",.ref f),("bits",.int (B:Int))]:List (Str×V))=([("stamper",.ref f),("bits",.int (B:Int)),("top",.ref y)]:List (Str×V)):=rfl
  rw[e3]
  have ky':∀z u,H1 z=some u->knO u->upd H1 x (.ins A.c_Table dx [("stamper",.ref f),("bits",.int (B:Int)),("top",.ref y)]) z=some u:=fun z u ez hu=>by
   rw[am (fun q=>by subst q;rw[hx2]at ez;cases ez;exact hu.tab)];exact ez
  refine q m g1 _ (fun z o zb zx e=>by rw[am zx];exact kb z o zb (by rw[am zx];exact e)) ⟨⟨dx,y,af,ky.keep ky' Sub.rfl'⟩,B1,B60,.inl rfl⟩ (s2.put (gV _) hx2 fun v z=>?_) sub
  injection z with z;injection z with z;exact absurd z (by decide)
theorem BL (K:cW)(A:Adr):Ln (mM K A) 2:=by rintro vs H Q E ⟨x,f,g,B,t,m,v,d,rfl,_⟩;rfl
theorem HS (T:Txt K mg A):Rd (mM K A) (IT K A) ["self","key"]:=by
 intro vs H Q E h
 obtain⟨x,f,g,B,t,m,v,d,rfl,ta,hd,qE,q⟩:=h
 obtain⟨dx,y,o,ky⟩:=ta.ob
 have B60:=ta.B60
 refine⟨x,_,dx,_,_,rfl,o,T.cl_Table,T.na_Table_bits,rfl,(B:Int),v,d,rfl,by omega,by omega,hd,?_⟩
 cases hb:cn (B:Int) d with
 |false=>exact Sel.yes rfl (qE hb)
 |true=>
  obtain⟨key,rfl,hk⟩:=iA hb
  cases hd.int_inv
  refine Sel.no rfl ⟨x,_,dx,_,_,rfl,o,T.cl_Table,T.na_Table_top,rfl,?_⟩
  exact kY [.int (B:Int),.int (key:Int)] (fun R r=>⟨x,_,dx,_,_,rfl,o,T.cl_Table,T.na_Table_bits,rfl,r⟩) (hZ ky ta.wf.dp.1 (by have:=ta.wf.dp.2;omega) (q key rfl hk))
theorem AU (K:cW)(A:Adr):Ln (lY K A) 1:=by rintro vs H Q E ⟨x,f,g,B,t,m,rfl,_⟩;rfl
theorem HV (T:Txt K mg A):Rd (lY K A) (Jn K A) ["self"]:=by
 intro vs H Q E h
 obtain⟨x,f,g,B,t,m,rfl,ta,q⟩:=h
 obtain⟨dx,y,o,ky⟩:=ta.ob
 obtain⟨dy,p,fs,oy,_⟩:=ky.ob
 exact⟨x,_,dx,_,_,rfl,o,T.cl_Table,T.na_Table_top,rfl,y,_,dy,_,_,rfl,oy,(cu T t).1,(cu T t).2.1,rfl,q⟩
theorem Bb (K:cW)(A:Adr):Ln (jV K A) 3:=by rintro vs H Q E ⟨x,f,b,g,n,B,t,m,v,w,d,e,rfl,_⟩;rfl
theorem TbA.top {H H1:Hp}{g g1:gOp}{x f b y:Addr}{B n n1:Nat}{t':Kn Str}{m':Key}{dx:Addr}{y0:Addr}(o:H x=some (.ins A.c_Table dx [("stamper",.ref f),("bits",.int (B:Int)),("top",.ref y0)]))(s:Stp A H f b g n)(kb:bF b H H1)(ky:KnA A H1 g1 y t' m')(s1:Stp A H1 f b g1 n1)(B1:1<=B)(B60:B<=60)(wf:WFo B t'):
  H1 x=some (.ins A.c_Table dx [("stamper",.ref f),("bits",.int (B:Int)),("top",.ref y0)])/\aN b x H (upd H1 x (.ins A.c_Table dx [("stamper",.ref f),("bits",.int (B:Int)),("top",.ref y)]))/\TbA A (upd H1 x (.ins A.c_Table dx [("stamper",.ref f),("bits",.int (B:Int)),("top",.ref y)])) g1 x f B t' m'/\Stp A (upd H1 x (.ins A.c_Table dx [("stamper",.ref f),("bits",.int (B:Int)),("top",.ref y)])) f b g1 n1:=by
 have hx2:=kb _ _ (s.nb o fun _ z=>nomatch z) o
 have ky':∀z u,H1 z=some u->knO u->upd H1 x (.ins A.c_Table dx [("stamper",.ref f),("bits",.int (B:Int)),("top",.ref y)]) z=some u:=fun z u ez hu=>by
  rw[am (fun q=>by subst q;rw[hx2]at ez;cases ez;exact hu.tab)];exact ez
 refine⟨hx2,fun z o zb zx e=>by rw[am zx];exact kb z o zb e,⟨⟨dx,y,af,ky.keep ky' Sub.rfl'⟩,B1,B60,wf⟩,s1.put (gV _) hx2 fun v z=>?_⟩
 injection z with z;injection z with z;exact absurd z (by decide)
theorem TbS.kn {H:Hp}{x f b:Addr}{g:gOp}{n B:Nat}{t:Kn Str}{m:Key}(h:TbS A H x f b g n B t m):∃dx y,H x=some (.ins A.c_Table dx [("stamper",.ref f),("bits",.int (B:Int)),("top",.ref y)])/\KnS A H f b g n B y t m/\szN t<=70000/\hgt t<=60:=by
 obtain⟨dx,y,o,ky⟩:=h.ta.ob
 have ln:=h.ln
 have sz:=h.ta.wf.szN
 have dp:=h.ta.wf.dp
 have B60:=h.ta.B60
 exact⟨dx,y,o,⟨ky,h.s,B60,dp.1,by omega,by omega⟩,by omega,by omega⟩
theorem HD (T:Txt K mg A):Rd (jV K A) (Kr K A) ["self","key","value","before"]:=by
 intro vs H Q E h
 obtain⟨x,f,b,g,n,B,t,m,v,w,d,e,rfl,ts,hn,hd,he,ok,qE,q⟩:=h
 obtain⟨dx,y,o,ks,sz,hg⟩:=ts.kn
 refine⟨x,dx,_,rfl,o,rfl,x,f,g,B,t,m,v,d,rfl,ts.ta,hd,qE,fun key ed hk=>?_⟩
 obtain⟨qV,qz⟩:=q key ed hk
 refine⟨w,e,rfl,he,ok,?_⟩
 cases hv:fM e with
 |false=>exact Sel.yes rfl (qV hv)
 |true=>
  obtain⟨z,rfl,hz⟩:=yI ok hv
  cases he.str_inv
  subst ed
  cases hd.int_inv
  refine Sel.no rfl ⟨x,_,dx,_,_,rfl,o,T.cl_Table,T.na_Table_top,rfl,?_⟩
  refine kY [.ref f,.int (B:Int),.int (key:Int),.str z] (fun R r=>⟨x,_,dx,_,_,rfl,o,T.cl_Table,T.na_Table_stamper,rfl,x,_,dx,_,_,rfl,o,T.cl_Table,T.na_Table_bits,rfl,r⟩)
   (iZ ks (by omega) ts.ta.wf.lt hk hz (by omega) sz fun y' m' g1 H1 kb ky s1 sub=>?_)
  obtain⟨hx2,k2,ta2,s2⟩:=TbA.top o ts.s kb ky s1 ts.ta.B1 ts.ta.B60 (ts.ta.wf.with hk).1
  exact⟨x,A.c_Table,dx,_,rfl,hx2,T.cl_Table,T.na_Table_top,by show 3<1000;decide,qz z rfl hz m' g1 _ k2 ta2 (s2.same (by omega) ar.rfl') sub⟩
theorem sn {x:Int}(h:x.natAbs<2^64):Lw x<=64:=by
 unfold Lw
 split
 ·omega
 ·rename_i h0
  have:x.natAbs.log2<64:=(Nat.log2_lt (by simpa using h0)).mpr h
  omega
theorem KA {x y:Int}(h0:0<=y)(h:y<2^64):Qr x y:=IntMulOk.of_right (sn (by omega))
theorem Co (K:cW)(A:Adr):Ln (gj K A) 2:=by rintro vs H Q E ⟨a,ns,k,rfl,_⟩;rfl
theorem EC (T:Txt K mg A):Rd (gj K A) (JM K A) ["_law_script","_law_k"]:=by
 intro vs H Q E h
 obtain⟨a,ns,k,rfl,hs,h0,q⟩:=h
 refine .inl (.inl ⟨_,hs,Sel.dec (fun h=>?_) (fun h=>q 0)⟩)
 obtain⟨v,hv⟩:=AI h0 h
 obtain⟨j,_,hj,_⟩:=iy hv
 obtain⟨z,_,rfl⟩:=kP hj
 exact .inl (.inl ⟨a,_,k,_,rfl,rfl,hs,hv,q z⟩)
theorem Cr (K:cW)(A:Adr):Ln (iL K A) 2:=by rintro vs H Q E ⟨b,_,rfl,_⟩;rfl
theorem FY (T:Txt K mg A):Rd (iL K A) (IZ K A) ["_law_cell","_law_bits","_law_top"]:=by
 intro vs H Q E h
 obtain⟨c,B,rfl,B1,B60,q⟩:=h
 refine⟨⟨by omega,by omega,by decide⟩,?_⟩
 have e:(1:Int)*2^(B:Int).toNat=((2^B:Nat):Int):=by rw[show(B:Int).toNat=B by omega,OA,gi]
 have hp:0<((2^B:Nat):Int):=by have:=MN B;omega
 rw[e]
 have fin:∀i:Int,0<=i->i<((2^B:Nat):Int)->Q (.int i) H:=fun i h0 h1=>by
  obtain⟨y,rfl⟩:=LN h0
  exact q y (by omega)
 have md:∀i:Int,0<=i%((2^B:Nat):Int)/\i%((2^B:Nat):Int)<((2^B:Nat):Int):=fun i=>⟨MA _ (by omega),MO _ hp⟩
 refine⟨by decide,Sel.dec (fun h=>?_) (fun h=>?_)⟩
 ·exact⟨⟨by decide,by decide⟩,hp,fin _ (md _).1 (md _).2⟩
 refine⟨by decide,Sel.dec (fun h=>?_) (fun h=>?_)⟩
 ·exact⟨⟨by decide,by decide⟩,KA (by decide) (by decide),hp,fin _ (md _).1 (md _).2⟩
 ·refine⟨⟨by decide,by decide⟩,hp,fin _ ?_ ?_⟩
  ·have:=(md (c/3)).2;omega
  ·have:=(md (c/3)).1;omega
theorem gB {B key:Nat}(h:key<2^B):cn (B:Int) (.int (key:Int))=true:=by
 refine decide_eq_true ⟨by omega,?_⟩
 rw[show(B:Int).toNat=B by omega,<-gi];omega
def sU (o:HO):Prop:=(∃xs,o=.lst xs)\/(∃xs,o=.tup xs)\/∃kvs,o=.dK kvs
mutual
theorem aJ.keep {H H':Hp}{v:V}{d:Dat}(k:∀z o,H z=some o->sU o->H' z=some o)(h:aJ H v d):aJ H' v d:=by
 cases h with
 |non=>exact .non
 |bl b=>exact .bl b
 |int i=>exact .int i
 |str z=>exact .str z
 |lst e r=>exact .lst (k _ _ e (.inl ⟨_,rfl⟩)) (DatWs.keep k r)
 |tup e r=>exact .tup (k _ _ e (.inr (.inl ⟨_,rfl⟩))) (DatWs.keep k r)
 |dic e=>obtain⟨kvs,e⟩:=e;exact .dic ⟨kvs,k _ _ e (.inr (.inr ⟨_,rfl⟩))⟩
theorem DatWs.keep {H H':Hp}{xs:List V}{ds:List Dat}(k:∀z o,H z=some o->sU o->H' z=some o)(h:DatWs H xs ds):DatWs H' xs ds:=by
 cases h with
 |nil=>exact .nil
 |cons h r=>exact .cons (aJ.keep k h) (DatWs.keep k r)
end
theorem pU {H:Hp}{Q:VK}{p r:Addr}{d:Dat}(hp:aJ H (.ref p) d)(hr:aJ H (.ref r) d)(ok:okD d=true)(dp:(fj d).depth<=150)(q:Q (.bl true) H):cg K (.ref p) (.ref r) H Q:=
 .inr (.inl ⟨_,_,hp.toV ok,hr.toV ok,eF ok,eF ok,dp,by rw[On _ (eF ok)];exact q⟩)
def lsO (o:HO):Prop:=(∃xs,o=.lst xs)\/∃ob u,o=.frz ob u
def KL (H H':Hp):Prop:=∀z o,H z=some o->lsO o->H' z=some o
theorem KL.same {H H':Hp}(S:ar H H'):KL H H':=fun z o e _=>S z o e
theorem KL.kp {P:Addr}{H H':Hp}{ps:Array pv}(hP:H P=some (.tbl ps))(k:dh P H H'):KL H H':=fun z o e h=>k z o e fun q=>by
 subst q;rw[hP]at e;cases e
 rcases h with⟨_,h⟩|⟨_,_,h⟩<;>cases h
theorem SqL.kl {a:Addr}{xs:List V}{H H':Hp}(h:SqL K H a xs)(k:KL H H'):SqL K H' a xs:=by
 rcases h with h|h
 ·rcases h with h|⟨o,h⟩
  ·exact .inl (.inl (k _ _ h (.inl ⟨_,rfl⟩)))
  ·exact .inl (.inr ⟨o,k _ _ h (.inr ⟨_,_,rfl⟩)⟩)
 ·exact .inr h
theorem oo {B:Nat}(h1:1<=B)(h2:B<=60):eM (.int (B:Int))=true:=decide_eq_true ⟨by omega,by omega⟩
theorem tN {H:Hp}{x dx f b:Addr}{g:gOp}{n B:Nat}{Q:VK}{E:XK}(hx:H x=none)(hdx:H dx=none)(ne:dx≠x)(s:Stp A H f b g n)(hn:n<=45000)(B1:1<=B)(B60:B<=60)(q:∀(m:Key)(g':gOp)(H':Hp),bF b H H'->TbA A H' g' x f B .bare m->Stp A H' f b g' (n+1)->Sub g g'->Q .non H'):
  iD K A [.ref x,.ref f,.int (B:Int)] (upd (upd H dx (.own x)) x (.ins A.c_Table dx [])) Q E:=by
 have S1:=bZ (o:=.own x) (u:=.ins A.c_Table dx []) hx hdx ne
 refine⟨x,dx,f,b,g,n,_,.int (B:Int),rfl,af,.int _,s.same (gV _) S1,hn,fun h=>?_,fun B' eB _ _ m g2 H2 k2 ta2 s2 sub2=>?_⟩
 ·rw[oo B1 B60]at h;cases h
 ·have:B'=B:=by have:=Dat.int.inj eB;omega
  subst this
  exact q m g2 H2 (fun z o zb e=>k2 z o zb (ap e hx) (S1 _ _ e)) ta2 s2 sub2
theorem Am (K:cW)(A:Adr):Ln (lA K A) 1:=by rintro vs H Q E ⟨x,f,b,g,n,B,t,m,rfl,_⟩;rfl
theorem GI (T:Txt K mg A):Rd (lA K A) (Ig K A) ["self","other"]:=by
 intro vs H Q E h
 obtain⟨x,f,b,g,n,B,t,m,rfl,ts,hn,q⟩:=h
 obtain⟨dx,y0,o,k0⟩:=ts.ta.ob
 refine⟨x,_,dx,_,_,rfl,o,T.cl_Table,T.na_Table_stamper,rfl,x,_,dx,_,_,rfl,o,T.cl_Table,T.na_Table_bits,rfl,fun y dy hy hdy ne=>?_⟩
 refine tN hy hdy ne ts.s hn ts.ta.B1 ts.ta.B60 fun m2 g2 H2 kb ta2 s2 sub=>⟨rfl,?_⟩
 have hx2:=kb _ _ (ts.s.nb o fun _ z=>nomatch z) o
 have k2:KnA A H2 g2 y0 t m:=k0.kb ts.s kb sub
 obtain⟨dy2,y2,oy,_⟩:=ta2.ob
 obtain⟨_,k3,ta3,s3⟩:=TbA.top oy s2 bF.rfl' k2 s2 ts.ta.B1 ts.ta.B60 ts.ta.wf
 have xy:x≠y:=ap o hy
 refine⟨x,_,dx,_,_,rfl,hx2,T.cl_Table,T.na_Table_top,rfl,y,A.c_Table,dy2,_,rfl,oy,T.cl_Table,T.na_Table_top,by show 3<1000;decide,?_⟩
 have k3':KnA A _ g2 y0 t m:=k2.keep (fun z u e hu=>k3 z u (s2.nb e fun _ q=>(by subst q;exact hu.dT)) (fun q=>by subst q;rw[oy]at e;cases e;exact hu.tab) e) Sub.rfl'
 refine q y g2 _ (fun z u zb e=>k3 z u zb (ap e hy) (kb z u zb e)) hy ⟨⟨⟨dx,y0,k3 _ _ (s2.nb hx2 fun _ z=>nomatch z) xy hx2,k3'⟩,ts.ta.B1,ts.ta.B60,ts.ta.wf⟩,s3,ts.ln⟩ ta3 sub
theorem TbA.same {H H':Hp}{g:gOp}{x f:Addr}{B:Nat}{t:Kn Str}{m:Key}(h:TbA A H g x f B t m)(S:ar H H'):TbA A H' g x f B t m:=by
 obtain⟨dx,y,o,ky⟩:=h.ob
 exact⟨⟨dx,y,S _ _ o,ky.same S⟩,h.B1,h.B60,h.wf⟩
theorem TbA.keep {H H':Hp}{g g':gOp}{x f:Addr}{B:Nat}{t:Kn Str}{m:Key}(h:TbA A H g x f B t m)(kx:∀o,H x=some o->H' x=some o)(k:∀z o,H z=some o->knO o->H' z=some o)(sub:Sub g g'):TbA A H' g' x f B t m:=by
 obtain⟨dx,y,o,ky⟩:=h.ob
 exact⟨⟨dx,y,kx _ o,ky.keep k sub⟩,h.B1,h.B60,h.wf⟩
theorem TbA.kb {H H':Hp}{g g' g0:gOp}{x f b:Addr}{B n:Nat}{t:Kn Str}{m:Key}(h:TbA A H g x f B t m)(s:Stp A H f b g0 n)(kb:bF b H H')(sub:Sub g g'):TbA A H' g' x f B t m:=by
 obtain⟨dx,y,o,ky⟩:=h.ob
 exact h.keep (fun u e=>kb _ _ (s.nb o fun _ z=>nomatch z) e) (fun z u e hu=>kb z u (s.nb e fun _ q=>(by subst q;exact hu.dT)) e) sub
theorem vH {m:Nat}(h:2<=m):aP m<m:=by
 have:=Nt (n:=m- 1) (by omega)
 unfold aP;omega
theorem nA {m:Nat}(h:2<=m):m<=2*aP m:=by
 have:=Nat.lt_log2_self (n:=m- 1)
 unfold aP;rw[Of]at this;omega
theorem kX {m e:Nat}(h:2<=m)(he:m<=2^e):∃k,aP m=2^k/\k<e:=by
 refine⟨Ou (m- 1),rfl,?_⟩
 have h1:=Nt (n:=m- 1) (by omega)
 exact(OP (by decide:1<2)).mp (by omega:2^Ou (m- 1)<2^e)
theorem Ah (K:cW)(A:Adr):Ln (gE K A) 1:=by rintro vs H Q E ⟨m,rfl,_⟩;rfl
theorem Ge (T:Txt K mg A)(vs:List V)(H:Hp)(Q:VK)(E:XK)(h:gE K A vs H Q E):JE K A {nx:=fun _ H'=>Q .non H',rt:=Q} (bV ["many"] vs) H:=by
 obtain⟨m,rfl,h2,h60,q⟩:=h
 obtain⟨k,ek,hk⟩:=kX h2 h60
 have e:(Lw ((m:Int)- 1):Int)- 1=((Ou (m- 1):Nat):Int):=by
  unfold Lw
  rw[if_neg (by simp;omega)]
  have:((m:Int)- 1).natAbs=m- 1:=by omega
  rw[this];omega
 have hl:Ou (m- 1)<60:=by
  have h1:=Nt (n:=m- 1) (by omega)
  exact(OP (by decide:1<2)).mp (by omega:2^Ou (m- 1)<2^60)
 refine⟨rfl,?_⟩
 show((0<=(Lw ((m:Int)- 1):Int)- 1/\_/\_)/\Q (.int (1*2^((Lw ((m:Int)- 1):Int)- 1).toNat)) H)
 rw[e]
 refine⟨⟨by omega,by omega,by decide⟩,?_⟩
 rw[OA,Od,<-gi]
 exact q
theorem sk {H:Hp}(x:Key):aJ H (kV x) (jj x):=by
 cases x with
 |inl i=>exact .int i
 |inr z=>exact .str z
theorem ixL {K:cW}{H:Hp}{Q:VK}{a:Addr}{xs:List V}{x:V}{i:Int}{j:Nat}(ha:H a=some (.lst xs))(e:i=j)(hx:xs[j]?=some x)(q:Q x H):bw K (.ref a) (.int i) H Q:=by
 subst e
 refine .inl (.inl ⟨a,xs,j,x,rfl,rfl,SqL.of ha,?_,q⟩)
 have hj:=(KY.mp hx).1
 rw[si (by omega) (by omega)]
 simp[Lu,hx]
theorem kU {e:Key}(h:okP e=true):dI (jj e)=true:=by
 cases e with
 |inl i=>exact h
 |inr z=>rfl
theorem yz {K:cW}{H:Hp}{Q:VK}{L:Addr}{qs:List V}{p:V}(hL:H L=some (.lst (qs++[p])))(q:Q p H):bw K (.ref L) (.int (-1)) H Q:=
 .inl (.inl ⟨L,_,-1,p,rfl,rfl,SqL.of hL,tF _ _,q⟩)
theorem kJ {n:Nat}(h:2<=n):1<=aP n/\aP n<n:=by
 unfold aP
 have h1:=Nt (n:=n- 1) (by omega)
 exact⟨Nat.one_le_two_pow,by omega⟩
theorem zW (K:cW)(A:Adr):Ln (iE K A) 1:=by rintro vs H Q E ⟨v,d,rfl,_⟩;rfl
theorem EY (T:Txt K mg A):Rd (iE K A) (Iv K A) ["thing"]:=by
 intro vs H Q E h
 obtain⟨v,d,rfl,w,q⟩:=h
 refine⟨_,d,rfl,w,?_⟩
 cases w with
 |int i=>
  refine Sel.yes rfl (Sel.dec (fun h0=>⟨by decide,?_⟩) (fun h0=>?_))
  ·show Q (.bl (decide (i<1*2^(60:Int).toNat))) H
   have e:cA (.int i)=decide (i<1*2^(60:Int).toNat):=by
    show decide (0<=i/\i<2^60)=decide (i<1*2^60)
    by_cases h1:i<2^60
    ·rw[decide_eq_true ⟨h0,h1⟩,decide_eq_true (by omega)]
    ·rw[decide_eq_false fun z=>h1 z.2,decide_eq_false (by omega)]
   rw[<-e];exact q
  ·have e:cA (.int i)=false:=decide_eq_false fun z=>h0 z.1
   rw[<-e];exact q
 |non=>exact Sel.no rfl q
 |bl b=>exact Sel.no rfl q
 |str z=>exact Sel.no rfl q
 |lst e r=>exact Sel.no rfl q
 |tup e r=>exact Sel.no rfl q
 |dic e=>exact Sel.no rfl q
theorem gc {d:Dat}(h:cA d=true):∃c:Nat,d=.int (c:Int)/\c<2^60:=by
 cases d with
 |int i=>
  obtain⟨h0,h1⟩:0<=i/\i<2^60:=of_decide_eq_true h
  exact⟨i.toNat,by rw[NP h0],by omega⟩
 |non=>cases h
 |bl b=>cases h
 |str z=>cases h
 |lst e=>cases h
 |tup e=>cases h
 |dic=>cases h
theorem jb {i:Int}(h0:0<=i)(h1:i<2^60):cA (.int i)=true:=decide_eq_true ⟨h0,h1⟩
theorem BA (K:cW)(A:Adr):Ln (mf K A) 1:=by rintro vs H Q E ⟨v,d,rfl,_⟩;rfl
theorem EM (T:Txt K mg A):Rd (mf K A) (Iy K A) ["thing"]:=by
 intro vs H Q E h
 obtain⟨v,d,rfl,w,q⟩:=h
 cases w with
 | @tup a xs ds ea r=>
   have ty:tyN H (.ref a)=some "tuple":=by unfold tyN;dsimp only;rw[ea]
   refine⟨by decide,"tuple",ty,Sel.t (.inl (.inr (.inl ⟨_,SqT.of ea,?_⟩)))⟩
   have hl:=r.len
   by_cases h2:ds.length=2
   ·refine Sel.yes (decide_eq_true (by omega)) ?_
    cases r with
    |nil=>cases h2
    |cons r1 r=>
    cases r with
    |nil=>cases h2
    |cons r2 r=>
    cases r with
    |cons r3 r=>simp at h2
    |nil=>
    refine ixT (j:=0) ea rfl rfl ⟨_,_,rfl,r1,?_⟩
    refine Sel.mk (fun hc=>?_) (fun hc=>?_)
    ·refine ixT (j:=1) ea rfl rfl ⟨_,_,rfl,r2,?_⟩
     have q:Q (.bl (cA _&&dI _)) H:=q
     rw[hc,Qv]at q;exact q
    ·have q:Q (.bl (cA _&&dI _)) H:=q
     rw[hc,LW]at q;exact q
   ·refine Sel.no (decide_eq_false (by omega)) ?_
    have e:iN (.tup ds)=false:=by
     match ds,h2 with
     |[],_=>rfl
     |[_],_=>rfl
     |[_,_],h=>exact absurd rfl h
     |_::_::_::_,_=>rfl
    rw[e]at q;exact q
 |int i=>exact⟨by decide,_,rfl,Sel.f q⟩
 |non=>exact⟨by decide,_,rfl,Sel.f q⟩
 |bl b=>exact⟨by decide,_,rfl,Sel.f q⟩
 |str z=>exact⟨by decide,_,rfl,Sel.f q⟩
 |lst e r=>exact⟨by decide,_,(aJ.lst e r).ty,Sel.f q⟩
 |dic e=>exact⟨by decide,_,(aJ.dic e).ty,Sel.f q⟩
theorem zt (K:cW)(A:Adr):Ln (mx K A) 1:=by rintro vs H Q E ⟨v,d,rfl,_⟩;rfl
theorem GO (T:Txt K mg A):Rd (mx K A) (Jj K A) ["thing"]:=by
 intro vs H Q E h
 obtain⟨v,d,rfl,w,e,q⟩:=h
 refine⟨v,d,rfl,w,?_⟩
 rw[e];exact Sel.f q
theorem Cz (K:cW)(A:Adr):Ln (ni K A) 2:=by rintro vs H Q E ⟨v,d,w,e,rfl,_⟩;rfl
theorem HJ (T:Txt K mg A):Rd (ni K A) (Jh K A) ["count","place"]:=by
 intro vs H Q E h
 obtain⟨v,d,w,e,rfl,hd,he,q⟩:=h
 refine⟨v,d,rfl,hd,?_⟩
 unfold cK at q
 cases hc:cA d with
 |false=>rw[hc]at q;exact Sel.f q
 |true=>
  rw[hc]at q
  obtain⟨c,rfl,c2⟩:=gc hc
  cases hd.int_inv
  refine Sel.t ⟨w,e,rfl,he,?_⟩
  cases he with
  |int i=>
   refine Sel.yes rfl (Sel.dec (fun h0=>?_) (fun h0=>?_))
   ·show Q (.bl (decide (i<(c:Int)))) H
    have ee:decide (0<=i/\i<(c:Int))=decide (i<(c:Int)):=by
     by_cases h1:i<(c:Int)
     ·rw[decide_eq_true ⟨h0,h1⟩,decide_eq_true h1]
     ·rw[decide_eq_false fun z=>h1 z.2,decide_eq_false h1]
    rw[<-ee];exact q
   ·have ee:decide (0<=i/\i<(c:Int))=false:=decide_eq_false fun z=>h0 z.1
    rw[<-ee];exact q
  |non=>exact Sel.no rfl q
  |bl b=>exact Sel.no rfl q
  |str z=>exact Sel.no rfl q
  |lst e r=>exact Sel.no rfl q
  |tup e r=>exact Sel.no rfl q
  |dic e=>exact Sel.no rfl q
theorem eO {d e:Dat}(h:cK d e=true):∃c el:Nat,d=.int (c:Int)/\e=.int (el:Int)/\el<c/\c<2^60:=by
 unfold cK at h
 obtain⟨h1,h2⟩:=tx.mp h
 obtain⟨h3,h4⟩:=tx.mp h1
 obtain⟨c,rfl,c2⟩:=gc h3
 cases e with
 |int i=>
  obtain⟨a,b⟩:0<=i/\i<(c:Int):=of_decide_eq_true h2
  exact⟨c,i.toNat,rfl,by rw[NP a],by omega,c2⟩
 |non=>cases h4
 |bl b=>cases h4
 |str z=>cases h4
 |lst e=>cases h4
 |tup e=>cases h4
 |dic=>cases h4
theorem rG {c e:Int}(h0:0<=e)(h1:e<c)(h2:c<2^60):cK (.int c) (.int e)=true:=by
 unfold cK
 rw[jb (by omega) h2]
 show decide (0<=e/\e<c)=true
 exact decide_eq_true ⟨h0,h1⟩
theorem uw {c el:Nat}(h1:el<c)(h2:c<2^60):cK (.int (c:Int)) (.int (el:Int))=true:=rG (by omega) (by omega) (by omega)
theorem CD (K:cW)(A:Adr):Ln (lz K A) 2:=by rintro vs H Q E ⟨v,d,w,e,rfl,_⟩;rfl
theorem Dg (T:Txt K mg A):Rd (lz K A) (II K A) ["count","elder"]:=by
 intro vs H Q E h
 obtain⟨v,d,w,e,rfl,hd,he,q⟩:=h
 refine⟨v,d,rfl,hd,?_⟩
 unfold ck at q
 cases hc:cA d with
 |false=>rw[hc]at q;exact Sel.f q
 |true=>
  rw[hc]at q
  obtain⟨c,rfl,c2⟩:=gc hc
  cases hd.int_inv
  refine Sel.t ⟨w,e,rfl,he,?_⟩
  cases he with
  |int i=>
   refine Sel.yes rfl (Sel.dec (fun h0=>?_) (fun h0=>?_))
   ·show Q (.bl (decide (i<=(c:Int)))) H
    have ee:decide (0<=i/\i<=(c:Int))=decide (i<=(c:Int)):=by
     by_cases h1:i<=(c:Int)
     ·rw[decide_eq_true ⟨h0,h1⟩,decide_eq_true h1]
     ·rw[decide_eq_false fun z=>h1 z.2,decide_eq_false h1]
    rw[<-ee];exact q
   ·have ee:decide (0<=i/\i<=(c:Int))=false:=decide_eq_false fun z=>h0 z.1
    rw[<-ee];exact q
  |non=>exact Sel.no rfl q
  |bl b=>exact Sel.no rfl q
  |str z=>exact Sel.no rfl q
  |lst e r=>exact Sel.no rfl q
  |tup e r=>exact Sel.no rfl q
  |dic e=>exact Sel.no rfl q
theorem fX {d e:Dat}(h:ck d e=true):∃c el:Nat,d=.int (c:Int)/\e=.int (el:Int)/\el<=c/\c<2^60:=by
 unfold ck at h
 obtain⟨h1,h2⟩:=tx.mp h
 obtain⟨h3,h4⟩:=tx.mp h1
 obtain⟨c,rfl,c2⟩:=gc h3
 cases e with
 |int i=>
  obtain⟨a,b⟩:0<=i/\i<=(c:Int):=of_decide_eq_true h2
  exact⟨c,i.toNat,rfl,by rw[NP a],by omega,c2⟩
 |non=>cases h4
 |bl b=>cases h4
 |str z=>cases h4
 |lst e=>cases h4
 |tup e=>cases h4
 |dic=>cases h4
theorem sK {c e:Int}(h0:0<=e)(h1:e<=c)(h2:c<2^60):ck (.int c) (.int e)=true:=by
 unfold ck
 rw[jb (by omega) h2]
 show decide (0<=e/\e<=c)=true
 exact decide_eq_true ⟨h0,h1⟩
theorem ji {c el:Nat}(h1:el<=c)(h2:c<2^60):ck (.int (c:Int)) (.int (el:Int))=true:=sK (by omega) (by omega) (by omega)
theorem yO (kvs:List (List Key×Key))(k:List Key)(v:Key):∃kvs',bU kvs'=ci (bU kvs) k (kV v)/\kvs'.length<=kvs.length+1/\∀j,cv kvs' j=if j=k then some v else cv kvs j:=by
 have fin:∀kvs':List (List Key×Key),bU kvs'=ci (bU kvs) k (kV v)->∀j,cv kvs' j=if j=k then some v else cv kvs j:=by
  intro kvs' e j
  have h:=gz kvs' j
  rw[e,jg,gz]at h
  by_cases hj:j=k
  ·rw[if_pos hj]at h⊢
   cases g:cv kvs' j with
   |none=>rw[g]at h;cases h
   |some w=>rw[g]at h;rw[rQ (KN h)]
  ·rw[if_neg hj]at h⊢
   cases g:cv kvs' j with
   |none=>
    rw[g]at h
    cases g2:cv kvs j with
    |none=>rfl
    |some w=>rw[g2]at h;cases h
   |some w=>
    rw[g]at h
    cases g2:cv kvs j with
    |none=>rw[g2]at h;cases h
    |some u=>rw[g2]at h;rw[rQ (KN h)]
 by_cases c:((bU kvs).any fun kv=>decide (kv.1=k))=true
 ·have e:bU (kvs.map fun kv=>if kv.1=k then(kv.1,v)else kv)=ci (bU kvs) k (kV v):=by
   unfold ci
   rw[if_pos c]
   unfold bU
   rw[Pa,Pa]
   apply List.map_congr_left
   intro p _
   show((if p.1=k then(p.1,v)else p).1,kV (if p.1=k then(p.1,v)else p).2)=if p.1=k then(p.1,kV v)else(p.1,kV p.2)
   by_cases h:p.1=k
   ·rw[if_pos h,if_pos h]
   ·rw[if_neg h,if_neg h]
  exact⟨_,e,by rw[Lq];omega,fin _ e⟩
 ·have e:bU (kvs++[(k,v)])=ci (bU kvs) k (kV v):=by
   unfold ci
   rw[if_neg c]
   unfold bU
   rw[My];rfl
  exact⟨_,e,by simp,fin _ e⟩
theorem okW:okP (.inr "void")=true/\okP (.inr "entry")=true/\okP (.inr "joint")=true/\okP (.inr "row")=true:=by decide+kernel
theorem sG {e:Key}(h:okP e=true):okT [.inr "entry",e]=true:=fF okW.2.1 (fun x hx=>by rw[KZ.mp hx];exact h) (show 1<=7 by decide)
theorem rH {x y:Key}(hx:okP x=true)(hy:okP y=true):okT [.inr "joint",x,y]=true:=fF okW.2.2.1 (fun z hz=>by
 rcases If.mp hz with h|h
 ·rw[h];exact hx
 ·rw[KZ.mp h];exact hy) (show 2<=7 by decide)
theorem nl:okT [.inr "void"]=true:=fF okW.1 (fun _ h=>nomatch h) (by decide)
theorem okC {c:Nat}(h:c<2^60):okP (.inl (c:Int))=true:=by
 have p60:(2:Int)^60<10^60:=by decide+kernel
 have k:∀i:Int,0<=i->i<10^60->okP (.inl i)=true:=fun i h0 h1=>decide_eq_true ⟨h0,h1⟩
 exact k _ (by omega) (by omega)
theorem pC {c:Nat}{v:Key}(h:c<2^60)(ok:okP v=true):okT [.inr "row",.inl (c:Int),v]=true:=fF okW.2.2.2 (fun x hx=>by
 rcases If.mp hx with rfl|hx
 ·exact okC h
 ·rw[KZ.mp hx];exact ok) (by show 2<=7;decide)
theorem yn {v:Key}(h:fS v):smE v:=by
 cases v with
 |inl i=>exact⟨decide_eq_true h,by show 62<=130;decide⟩
 |inr z=>
  have h:fR z=true/\z.length<=62:=h
  exact⟨by show(fR z&&decide (z.length<=100000))=true;rw[h.1,decide_eq_true (by omega)];rfl,by show z.length+62<=130;omega⟩
theorem Stp.small {H:Hp}{f b:Addr}{g:gOp}{n:Nat}{k:List Key}{v:Key}(s:Stp A H f b g n)(h:g k=some v):smE v:=by
 cases s with
 |cnt q x kvs hc num hl hs hg=>subst hg;exact yn (nE hs h)
theorem Stp.setD {H:Hp}{f b D:Addr}{g:gOp}{n m:Nat}{xs:List (List Key×V)}{o:HO}(s:Stp A H f b g n)(hD:H D=some (.dT xs))(h1:D≠b)(hn:n<=m):Stp A (upd H D o) f b g m:=s.keep hn fun z u e hz=>by
 rw[am fun q=>?_]
 ·exact e
 ·subst q
  rw[hD]at e;cases e
  rcases hz with⟨_,q⟩|⟨q,_⟩|⟨_,_,_,q⟩
  ·cases q
  ·exact h1 q
  ·cases q
theorem Stp.setL {H:Hp}{f b L:Addr}{g:gOp}{n:Nat}{xs:List V}{o:HO}(s:Stp A H f b g n)(hL:H L=some (.lst xs)):Stp A (upd H L o) f b g n:=s.keep (gV _) fun z u e hz=>by
 rw[am fun q=>?_]
 ·exact e
 ·subst q
  rw[hL]at e;cases e
  rcases hz with⟨_,q⟩|⟨_,_,q⟩|⟨_,_,_,q⟩<;>cases q
theorem cX.same {H H':Hp}{x f L D:Addr}{es:List Key}{kvs:List (List Key×Key)}(r:cX A H x f L D es kvs)(S:ar H H'):cX A H' x f L D es kvs:=by
 obtain⟨dx,hx⟩:=r.ob
 exact⟨⟨dx,S _ _ hx⟩,S _ _ r.hl,S _ _ r.hd,r.en,r.le,r.cs⟩
section
variable {H H':Hp}{x f L D b:Addr}{es:List Key}{kvs:List (List Key×Key)}{g g':gOp}{n m:Nat}
theorem cM.same (r:cM A H x f L D b es kvs g n)(S:ar H H')(hn:n<=m):cM A H' x f L D b es kvs g m:=⟨r.r.same S,r.s.same hn S,r.db,Ll r.kl hn⟩
theorem cM.call (r:cM A H x f L D b es kvs g n)(kb:bF b H H')(s:Stp A H' f b g' m)(hn:n<=m):cM A H' x f L D b es kvs g' m:=by
 obtain⟨dx,hx⟩:=r.r.ob
 exact⟨⟨⟨dx,kb _ _ (r.s.nb hx (fun _ z=>nomatch z)) hx⟩,kb _ _ (r.s.nb r.r.hl (fun _ z=>nomatch z)) r.r.hl,kb _ _ r.db r.r.hd,r.r.en,r.r.le,r.r.cs⟩,s,r.db,Ll r.kl hn⟩
theorem cM.n2 (r:cM A H x f L D b es kvs g n){z:Addr}{o:HO}(h:H z=some o)(h2:∀kvs,o≠.dT kvs):z≠b/\z≠D:=⟨r.s.nb h h2,bu h r.r.hd (h2 _)⟩
theorem aN.rfl':aN b D H H:=fun _ _ _ _ e=>e
theorem aN.trans {H1 H2:Hp}(a:aN b D H H1)(c:aN b D H1 H2):aN b D H H2:=fun x o n n' e=>c x o n n' (a x o n n' e)
theorem aN.same (S:ar H H'):aN b D H H':=fun x o _ _ e=>S x o e
theorem aN.kb (k:bF b H H'):aN b D H H':=fun x o n _ e=>k x o n e
end
theorem Cd (K:cW)(A:Adr)(n:Nat):Ln (mP K A n) 3:=by rintro vs H Q E ⟨x,f,L,D,b,es,kvs,g,n,a,m,rfl,_⟩;rfl
theorem Gr (T:Txt K mg A)(n:Nat)(vs:List V)(H:Hp)(Q:VK)(E:XK)(h:mP K A n vs H Q E):Jv K A n {nx:=fun _ H'=>Q .non H',rt:=Q} (L2.bV ["self","first","many","ahead"] vs) H:=by
 obtain⟨x,f,L,D,b,es,kvs,g,N,a,m,rfl,r,ham,hm,hN,q⟩:=h
 obtain⟨dx,hx⟩:=r.r.ob
 have l60:=r.r.le
 refine Sel.dec (fun h=>?_) (fun h=>?_)
 ·obtain rfl:m=0:=by omega
  exact⟨aB (show 1<=1000000 by decide),fun p hp=>q p [.inr "void"] kvs g _ (aN.same (ar.upd hp)) (r.same (ar.upd hp) (gV _)) Sub.rfl' af nl⟩
 refine Sel.dec (fun h=>?_) (fun h=>?_)
 ·obtain rfl:m=1:=by omega
  obtain⟨e,he⟩:∃e,es[a]?=some e:=⟨_,KU (by omega)⟩
  have en:=r.r.en e (LL he)
  exact⟨x,A.c_Row,dx,_,.ref L,rfl,hx,T.cl_Row,T.na_Row_entries,rfl,ixL r.r.hl rfl (by rw[LF,he];rfl) ⟨aB (show 2<=1000000 by decide),fun p hp=>q p [.inr "entry",e] kvs g _ (aN.same (ar.upd hp)) (r.same (ar.upd hp) (gV _)) Sub.rfl' af (sG en.1)⟩⟩
 ·have h2:2<=m:=by omega
  obtain⟨g1,g2⟩:=kJ h2
  refine⟨m,rfl,h2,by omega,x,dx,_,rfl,hx,rfl,x,f,L,D,b,es,kvs,g,N,a,aP m,rfl,r,by omega,by omega,by omega,fun v1 kvs1 g1' H1 k1 r1 s1 ok1=>?_⟩
  obtain⟨dx1,hx1⟩:=r1.r.ob
  refine⟨x,dx1,_,rfl,hx1,rfl,x,f,L,D,b,es,kvs1,g1',_,a+aP m,m- aP m,?_,r1,by omega,by omega,by omega,fun v2 kvs2 g2' H2 k2 r2 s2 ok2=>?_⟩
  ·rw[Nd,Na (by omega)]
  ·exact⟨aB (show 3<=1000000 by decide),fun p hp=>q p [.inr "joint",v1,v2] kvs2 g2' _ ((k1.trans k2).trans (aN.same (ar.upd hp))) (r2.same (ar.upd hp) (by omega)) (s1.trans s2) af (rH ok1.1 ok2.1)⟩
theorem AO (K:cW)(A:Adr)(n:Nat):Ln (dF K A n) 3:=by rintro vs H Q E ⟨x,f,L,D,b,es,kvs,g,n,a,m,rfl,_⟩;rfl
theorem xB (K:cW)(A:Adr):∀vs H Q E,dF K A 0 vs H Q E->False:=by rintro vs H Q E ⟨x,f,L,D,b,es,kvs,g,n,a,m,_,_,_,h,_⟩;omega
theorem FQ (T:Txt K mg A)(n:Nat):Rd (dF K A (n+1)) (Kt K A n) ["self","first","many","part"]:=by
 intro vs H Q E h
 obtain⟨x,f,L,D,b,es,kvs,g,N,a,m,rfl,r,ham,hm,hN,q⟩:=h
 have l60:=r.r.le
 refine⟨aB (show 2<=1000000 by decide),fun p hp=>?_⟩
 have S1:ar H (upd H p (.tup [.int (a:Int),.int (m:Int)])):=ar.upd hp
 have r1:=r.same S1 (gV _)
 have hp1:upd H p (.tup [.int (a:Int),.int (m:Int)]) p=some (.tup (([.inl (a:Int),.inl (m:Int)]:List Key).map kV)):=af
 generalize upd H p (.tup [.int (a:Int),.int (m:Int)])=H1 at S1 r1 hp1
 obtain⟨dx,hx1⟩:=r1.r.ob
 have g1:=fG.t r1.r.hd hp1
 rw[gz]at g1
 refine⟨x,A.c_Row,dx,_,.ref D,rfl,hx1,T.cl_Row,T.na_Row_tops,rfl,.inl ⟨D,_,rfl,g1,?_⟩⟩
 cases e:cv kvs [.inl (a:Int),.inl (m:Int)]with
 |some v=>
  rw[e]at g1
  refine Sel.no rfl ⟨x,A.c_Row,dx,_,.ref D,rfl,hx1,T.cl_Row,T.na_Row_tops,rfl,.inr ⟨D,_,rfl,g1,?_⟩⟩
  exact q v kvs g H1 (aN.same S1) (r1.same ar.rfl' (by omega)) Sub.rfl' (r.r.cs _ _ e)
 |none=>
  refine Sel.yes rfl ⟨x,dx,_,f,rfl,hx1,rfl,r1.s.clo,x,dx,_,rfl,hx1,rfl,x,f,L,D,b,es,kvs,g,N,a,m,rfl,r1,ham,by omega,hN,fun p2 k kvs2 g2 H2 k2 r2 s2 hp2 okk=>?_⟩
  dsimp only[ai]
  refine gy r2.s (by omega) hp2 okk fun v H3 g3 kb s3 sub3 gv st=>?_
  have r3:=r2.call kb s3 (NO _)
  obtain⟨np,np'⟩:=r1.n2 hp1 (fun _ z=>nomatch z)
  have hp3:=kb _ _ np (k2 _ _ np np' hp1)
  obtain⟨dx3,hx3⟩:=r3.r.ob
  obtain⟨kvs4,e4,l4,f4⟩:=yO kvs2 [.inl (a:Int),.inl (m:Int)] v
  have kl:=r2.kl
  have ll:(bU kvs2).length=kvs2.length:=by simp[bU]
  refine⟨x,A.c_Row,dx3,_,.ref D,rfl,hx3,T.cl_Row,T.na_Row_tops,rfl,.inr ⟨D,_,rfl,.inr ⟨_,[.inl (a:Int),.inl (m:Int)],p,r3.r.hd,rfl,hp3,LK (m:=50000) (by omega) (aB (n:=50001) (by decide)),rfl⟩,?_⟩⟩
  have xD:x≠D:=bu hx3 r3.r.hd (fun z=>nomatch z)
  have LD:L≠D:=bu r3.r.hl r3.r.hd (fun z=>nomatch z)
  have pD:p≠D:=np'
  have sv:smE v:=s3.small gv
  have gg:=fG.t (H:=upd H3 D (.dT (ci (bU kvs2) [.inl (a:Int),.inl (m:Int)] (kV v)))) (kvs:=ci (bU kvs2) [.inl (a:Int),.inl (m:Int)] (kV v)) (k:=[.inl (a:Int),.inl (m:Int)]) af (by rw[am pD];exact hp3)
  rw[jg,if_pos rfl]at gg
  refine⟨x,A.c_Row,dx3,_,.ref D,rfl,by rw[am xD];exact hx3,T.cl_Row,T.na_Row_tops,rfl,.inr ⟨D,_,rfl,gg,?_⟩⟩
  have K4:aN b D H3 (upd H3 D (.dT (ci (bU kvs2) [.inl (a:Int),.inl (m:Int)] (kV v)))):=fun z o _ n e=>by rw[am n];exact e
  refine q v kvs4 g3 _ ((((aN.same S1).trans k2).trans (aN.kb kb)).trans K4) ⟨⟨⟨dx3,by rw[am xD];exact hx3⟩,by rw[am LD];exact r3.r.hl,by rw[e4];exact af,r3.r.en,r3.r.le,?_⟩,r3.s.setD r3.r.hd r3.db (by omega),r3.db,by omega⟩ (s2.trans sub3) sv
  intro k' v' e'
  rw[f4]at e'
  by_cases hk:k'=[.inl (a:Int),.inl (m:Int)]
  ·rw[if_pos hk]at e'
   obtain rfl:=KN e'
   exact sv
  ·rw[if_neg hk]at e'
   exact r3.r.cs _ _ e'
theorem Au (K:cW)(A:Adr):Ln (mU K A) 2:=by rintro vs H Q E ⟨x,dx,f,rfl,_⟩;rfl
theorem Gb (T:Txt K mg A):Rd (mU K A) (IM K A) ["self","stamper"]:=by
 intro vs H Q E h
 obtain⟨x,dx,f,rfl,hx,q⟩:=h
 refine⟨x,A.c_Row,dx,[],rfl,hx,T.cl_Row,T.na_Row_stamper,by decide,Li _,fun L hL=>?_⟩
 obtain⟨Lx,hL⟩:=bA hL
 refine⟨x,A.c_Row,dx,_,rfl,by rw[am (KP Lx)];exact af,T.cl_Row,T.na_Row_entries,by show 1<1000;decide,.inr fun D hD=>?_⟩
 obtain⟨Dx,hD⟩:=bA hD
 obtain⟨DL,hD⟩:=bA hD
 obtain⟨_,hD⟩:=bA hD
 refine⟨x,A.c_Row,dx,_,rfl,by rw[am (KP Dx)];exact af,T.cl_Row,T.na_Row_tops,by show 2<1000;decide,q L D _ (fun z o zx e=>?_) hL hD (KP DL) af ?_ ?_⟩
 ·rw[am zx,am (ap e hD),am zx,am (ap e hL),am zx];exact e
 ·rw[am Lx,am (KP DL),am Lx];exact af
 ·rw[am Dx];exact af
theorem Bw (K:cW)(A:Adr):Ln (gJ K A) 1:=by rintro vs H Q E ⟨x,f,L,D,es,kvs,rfl,_⟩;rfl
theorem Ia (T:Txt K mg A):Rd (gJ K A) (IB K A) ["self"]:=by
 intro vs H Q E h
 obtain⟨x,f,L,D,es,kvs,rfl,r,q⟩:=h
 obtain⟨dx,hx⟩:=r.ob
 refine⟨x,A.c_Row,dx,_,.ref L,rfl,hx,T.cl_Row,T.na_Row_entries,rfl,.inl (.inl ⟨_,SqL.of r.hl,?_⟩)⟩
 rw[Lq];exact q
theorem CT (K:cW)(A:Adr):Ln (mj K A) 2:=by rintro vs H Q E ⟨x,f,L,D,es,kvs,e,rfl,_⟩;rfl
theorem DE (T:Txt K mg A):Rd (mj K A) (Ip K A) ["self","entry"]:=by
 intro vs H Q E h
 obtain⟨x,f,L,D,es,kvs,e,rfl,r,en,le,q⟩:=h
 obtain⟨dx,hx⟩:=r.ob
 have q:Q (.int (es.length:Int)) (upd H L (.lst (es.map kV++[kV e]))):=by
  rw[My]at q;exact q
 refine⟨_,_,rfl,sk e,Sel.no (by rw[kU en.1];rfl) ⟨x,A.c_Row,dx,_,.ref L,rfl,hx,T.cl_Row,T.na_Row_entries,rfl,.inl ⟨rfl,_,SqL.of r.hl⟩,L,_,_,rfl,rfl,r.hl,?_,?_⟩⟩
 ·rw[Lq];exact KS le (aB (by decide))
 ·have hL:x≠L:=bu hx r.hl (fun z=>nomatch z)
  refine⟨x,A.c_Row,dx,_,.ref L,rfl,by rw[am hL];exact hx,T.cl_Row,T.na_Row_entries,rfl,.inl (.inl ⟨_,SqL.of af,?_⟩)⟩
  have e:(((es.map kV++[kV e]).length:Nat):Int)- 1=(es.length:Int):=by simp
  show Q (.int ((((es.map kV++[kV _]).length:Nat):Int)- 1)) _
  rw[e];exact q
theorem AG (K:cW)(A:Adr):Ln (lx K A) 1:=by rintro vs H Q E ⟨f,b,g,n,rfl,_⟩;rfl
theorem FB (T:Txt K mg A):Rd (lx K A) (Kx K A) ["stamper"]:=by
 intro vs H Q E h
 obtain⟨f,b,g,n,rfl,s,hn,q⟩:=h
 refine⟨aB (show 1<=1000000 by decide),fun p1 hp1=>?_⟩
 have S1:ar H (upd H p1 (.tup [.str "void"])):=ar.upd hp1
 have s1:=s.same (gV _) S1
 generalize upd H p1 (.tup [.str "void"])=H1 at S1 s1
 refine⟨f,rfl,s1.clo,aB (show 1<=1000000 by decide),fun p0 hp0=>?_⟩
 have S2:ar H1 (upd H1 p0 (.tup [.str "void"])):=ar.upd hp0
 have s2:=s1.same (gV _) S2
 have hk2:upd H1 p0 (.tup [.str "void"]) p0=some (.tup (([.inr "void"]:List Key).map kV)):=af
 generalize upd H1 p0 (.tup [.str "void"])=H2 at S2 s2 hk2
 dsimp only[ai]
 refine gy s2 (by omega) hk2 nl fun w H3 g3 kb s3 sub3 gv st=>⟨aB (show 3<=1000000 by decide),fun p2 hp2=>⟨aB (show 2<=1000000 by decide),fun L hL=>?_⟩⟩
 have S4:ar H3 (upd (upd H3 p2 (.tup [.str "row",.int 0,kV w])) L (.lst [.ref p1,.ref p2])):=(ar.upd hp2).trans (ar.upd hL)
 refine q L p1 p2 w g3 _ (((bF.same S1).trans (bF.same S2)).trans (kb.trans (bF.same S4))) (s3.same (gV _) S4) sub3 af ?_ (s3.small gv)
 rw[am (KP (bA hL).1)];exact af
theorem Cg (K:cW)(A:Adr):Ln (lU K A) 1:=by rintro vs H Q E ⟨f,b,g,n,rfl,_⟩;rfl
theorem Gd (T:Txt K mg A):Rd (lU K A) (IG K A) ["stamper"]:=by
 intro vs H Q E h
 obtain⟨f,b,g,n,rfl,s,hn,q⟩:=h
 refine⟨f,rfl,s.clo,f,b,g,n,rfl,s,hn,fun L p1 p2 v g1 H1 k1 s1 sub1 hL hp2 okv=>?_⟩
 refine yz (qs:=[.ref p1]) hL ?_
 dsimp only[ai]
 refine gy s1 (by omega) (k:=[.inr "row",.inl 0,v]) hp2 (pC (c:=0) (by decide) okv.1) fun w H3 g3 kb s3 sub3 gv st=>⟨aB (show 2<=1000000 by decide),fun p hp=>?_⟩
 exact q p w g3 _ (k1.trans (kb.trans (bF.same (ar.upd hp)))) (s3.same (gV _) (ar.upd hp)) (sub1.trans sub3) af (s3.small gv)
theorem BH (K:cW)(A:Adr):Ln (jx K A) 1:=by rintro vs H Q E ⟨x,dx,rfl,_⟩;rfl
theorem DG (T:Txt K mg A):Rd (jx K A) (Kf K A) ["self"]:=by
 intro vs H Q E h
 obtain⟨x,dx,rfl,hx,q⟩:=h
 refine .inr fun d hd=>?_
 exact⟨x,A.c_Seals,dx,[],rfl,by rw[am (ap hx hd)];exact hx,T.cl_Seals,T.na_Seals_sealed,by decide,q d hd⟩
theorem vR {c:Nat}{mk:Key}(h:c<2^60)(ok:okP mk=true):iN (.tup [.int (c:Int),jj mk])=true:=by
 show(cA (.int (c:Int))&&dI (jj mk))=true
 rw[jb (by omega) (by omega),kU ok];rfl
theorem AX (K:cW)(A:Adr):Ln (jy K A) 2:=by rintro vs H Q E ⟨x,d,p,n,c,v,rfl,_⟩;rfl
theorem Hn (T:Txt K mg A):Rd (jy K A) (Jm K A) ["self","head"]:=by
 intro vs H Q E h
 obtain⟨x,d,p,n,c,v,rfl,se,hn,hp,hc,ok,q⟩:=h
 obtain⟨dx,hx⟩:=se.ob
 obtain⟨kvs,hd,hl⟩:=se.di
 refine⟨_,_,rfl,.tup hp (.cons (.int _) (.cons (sk v) .nil)),vR hc ok,?_⟩
 refine⟨x,A.c_Seals,dx,_,.ref d,rfl,hx,T.cl_Seals,T.na_Seals_sealed,rfl,?_⟩
 exact .inr ⟨d,_,rfl,nJ.t (k:=[.inl (c:Int),v]) hd hp (LK (m:=50000) (by omega) (aB (n:=50001) (by decide))),q _ (Ll (gl _ _ _) (by omega))⟩
theorem Ce (K:cW)(A:Adr):Ln (jA K A) 3:=by rintro vs H Q E ⟨x,f,L,D,es,kvs,v,w,d,e,rfl,_⟩;rfl
theorem Gw (T:Txt K mg A):Rd (jA K A) (Jp K A) ["self","count","place"]:=by
 intro vs H Q E h
 obtain⟨x,f,L,D,es,kvs,v,w,d,e,rfl,r,hd,he,q⟩:=h
 obtain⟨dx,hx⟩:=r.ob
 refine⟨v,d,w,e,rfl,hd,he,?_⟩
 cases hE:cK d e with
 |false=>rw[hE]at q;exact Sel.f q
 |true=>
  rw[hE]at q
  obtain⟨c,el,rfl,rfl,_,_⟩:=eO hE
  cases hd.int_inv
  exact Sel.t ⟨x,dx,_,rfl,hx,rfl,x,f,L,D,es,kvs,rfl,r,q⟩
theorem CA (K:cW)(A:Adr):Ln (iB K A) 3:=by rintro vs H Q E ⟨x,f,L,D,es,kvs,v,w,d,e,rfl,_⟩;rfl
theorem Hl (T:Txt K mg A):Rd (iB K A) (JR K A) ["self","count","elder"]:=by
 intro vs H Q E h
 obtain⟨x,f,L,D,es,kvs,v,w,d,e,rfl,r,hd,he,q⟩:=h
 obtain⟨dx,hx⟩:=r.ob
 refine⟨v,d,w,e,rfl,hd,he,?_⟩
 cases hE:ck d e with
 |false=>rw[hE]at q;exact Sel.f q
 |true=>
  rw[hE]at q
  obtain⟨c,el,rfl,rfl,_,_⟩:=fX hE
  cases hd.int_inv
  exact Sel.t ⟨x,dx,_,rfl,hx,rfl,x,f,L,D,es,kvs,rfl,r,q⟩
theorem Ba {es:List Key}{d:Dat}:(ck (.int (es.length:Int)) d&&leD (es.length:Int) (.int (es.length:Int)))=ck (.int (es.length:Int)) d:=by
 have e:leD (es.length:Int) (.int (es.length:Int))=true:=decide_eq_true (Int.le_refl _)
 rw[e,Qw]
theorem Bs (K:cW)(A:Adr):Ln (lB K A) 2:=by rintro vs H Q E ⟨x,f,L,D,b,es,kvs,g,n,c,rfl,_⟩;rfl
theorem Hs (T:Txt K mg A):Rd (lB K A) (KB K A) ["self","count"]:=by
 intro vs H Q E h
 obtain⟨x,f,L,D,b,es,kvs,g,n,c,rfl,r,hc,hn,q⟩:=h
 obtain⟨dx,hx⟩:=r.r.ob
 have l60:=r.r.le
 refine⟨x,dx,_,rfl,hx,rfl,x,dx,_,rfl,hx,rfl,x,f,L,D,es,kvs,rfl,r.r,x,f,L,D,es,kvs,_,_,_,_,rfl,r.r,.int _,.int _,?_⟩
 rw[Ba,ji hc (by omega)]
 refine Sel.f ?_
 refine⟨x,dx,_,f,rfl,hx,rfl,r.s.clo,x,dx,_,rfl,hx,rfl,x,f,L,D,b,es,kvs,g,n,0,c,rfl,r,by omega,by omega,by omega,fun v kvs1 g1 H1 k1 r1 s1 ok1=>⟨aB (show 3<=1000000 by decide),fun p hp=>?_⟩⟩
 have S2:ar H1 (upd H1 p (.tup [.str "row",.int (c:Int),kV v])):=ar.upd hp
 have hp2:upd H1 p (.tup [.str "row",.int (c:Int),kV v]) p=some (.tup (([.inr "row",.inl (c:Int),v]:List Key).map kV)):=af
 have r2:=r1.same S2 (gV _)
 dsimp only[ai]
 refine gy r2.s (by omega) hp2 (pC (by omega) ok1.1) fun w H3 g3 kb s3 sub3 gv st=>?_
 exact q w kvs1 g3 H3 ((k1.trans (aN.same S2)).trans (aN.kb kb)) ((r2.call kb s3 (NO _)).same ar.rfl' (by omega)) (s1.trans sub3) (s3.small gv)
section
variable {H H' H'':Hp}{l l':List Addr}{b x z:Addr}{o:HO}
theorem KM.same (S:ar H H'):KM l H H':=fun z o _ e=>S z o e
theorem KM.trans (a:KM l H H')(c:KM l H' H''):KM l H H'':=fun z o n e=>c z o n (a z o n e)
theorem KM.sub (a:KM l H H')(h:∀z∈l,z∈l'):KM l' H H':=fun z o n e=>a z o (fun m=>n (h z m)) e
theorem KM.kb (k:bF b H H')(h:b∈l):KM l H H':=fun z o n e=>k z o (fun q=>n (q▸h)) e
theorem KM.k2 (k:aN b x H H')(h:b∈l)(h2:x∈l):KM l H H':=fun z o n e=>k z o (fun q=>n (q▸h)) (fun q=>n (q▸h2)) e
theorem KM.upd (h:x∈l):KM l H (L2.upd H x o):=fun z u n e=>by
 have:z≠x:=fun q=>n (by rw[q];exact h)
 rw[am this];exact e
def NkS (l:List Addr)(H:Hp):Prop:=∀z∈l,∀o,H z=some o->¬knO o
theorem knO.lst {xs:List V}(h:knO (.lst xs)):False:=by rcases h with⟨_,h⟩|⟨_,_,_,_,_,h⟩<;>cases h
theorem knO.house {C dx:Addr}{v:V}{fs:List (Str×V)}(h:knO (.ins C dx ((("table":Str),v)::fs))):False:=by
 rcases h with⟨_,h⟩|⟨_,_,_,_,_,h⟩
 ·cases h
 ·injection h with _ _ h;injection h with h;injection h with h;exact absurd h (by decide)
theorem NkS.nil:NkS [] H:=fun _ h=>nomatch h
theorem NkS.cons (e:H x=some o)(n:¬knO o)(h:NkS l H):NkS (x::l) H:=fun z hz u eu=>by
 rcases If.mp hz with q|q
 ·subst q;rw[e]at eu;cases eu;exact n
 ·exact h z q u eu
theorem NkS.bd {f:Addr}{g:gOp}{n:Nat}(s:Stp A H f b g n)(h:NkS l H):NkS (b::l) H:=by
 obtain⟨kvs,e⟩:=s.bd
 exact .cons e (fun q=>q.dT) h
end
section
variable {H H':Hp}{g g':gOp}{x y f:Addr}{n n' B:Nat}{t:Kn Str}{m:Key}{l:List Addr}
theorem TbA.km (h:TbA A H g y f B t m)(k:KM l H H')(hs:NkS l H)(hy:y∉l)(sub:Sub g g'):TbA A H' g' y f B t m:=h.keep (fun u e=>k _ _ hy e) (fun z u e hu=>k _ _ (fun hz=>hs z hz u e hu) e) sub
theorem TmA.km:∀{ys:List Addr}{ts:List (Kn Str)},TmA A H g f B ys ts->KM l H H'->NkS l H->(∀y∈ys,y∉l)->Sub g g'->TmA A H' g' f B ys ts
 |_,_,.nil,_,_,_,_=>.nil
 |_,_,.cons ⟨m,r⟩ p,k,hs,hy,sub=>.cons ⟨m,r.km k hs (hy _ Lj) sub⟩ (TmA.km p k hs (fun y h=>hy y (Lb _ h)) sub)
theorem cX.km {L D:Addr}{es:List Key}{kvs:List (List Key×Key)}(r:cX A H x f L D es kvs)(k:KM l H H')(h1:x∉l)(h2:L∉l)(h3:D∉l):cX A H' x f L D es kvs:=by
 obtain⟨dx,hx⟩:=r.ob
 exact⟨⟨dx,k _ _ h1 hx⟩,k _ _ h2 r.hl,k _ _ h3 r.hd,r.en,r.le,r.cs⟩
theorem SeA.km {d:Addr}(r:SeA A H x d n)(k:KM l H H')(h1:x∉l)(h2:d∉l)(hn:n<=n'):SeA A H' x d n':=by
 obtain⟨dx,hx⟩:=r.ob
 obtain⟨kvs,hd,hl⟩:=r.di
 exact⟨⟨dx,k _ _ h1 hx⟩,⟨kvs,k _ _ h2 hd,Ll hl hn⟩⟩
theorem HoA.km {a:HA}(h:HoA A H x a)(k:KM l H H')(h1:x∉l):HoA A H' x a:=by
 obtain⟨dx,hx⟩:=h
 exact⟨dx,k _ _ h1 hx⟩
theorem HsA.km {a:HA}{ts:List (Kn Str)}{ys:List Addr}(h:HsA A H g x f n B a t ts ys)(k:KM l H H')(hs:NkS l H)(sub:Sub g g')(hn:n<=n')(h1:x∉l)(h2:a.tb∉l)(h3:a.ro∉l)(h4:a.L∉l)(h5:a.D∉l)(h6:a.ml∉l)(h7:∀y∈ys,y∉l)(h8:SeA A H' a.sl a.sd n'):HsA A H' g' x f n' B a t ts ys:=by
 obtain⟨m,ta⟩:=h.ta
 obtain⟨es,kvs,r,e1,e2⟩:=h.ro
 exact⟨h.ob.km k h1,⟨m,ta.km k hs h2 sub⟩,⟨es,kvs,r.km k h3 h4 h5,e1,Ll e2 hn⟩,k _ _ h6 h.hm,h.tm.km k hs h7 sub,h8⟩
theorem HsA.same {a:HA}{ts:List (Kn Str)}{ys:List Addr}(h:HsA A H g x f n B a t ts ys)(S:ar H H')(hn:n<=n'):HsA A H' g x f n' B a t ts ys:=
 h.km (l:=[]) (KM.same S) NkS.nil Sub.rfl' hn (nofun) (nofun) (nofun) (nofun) (nofun) (nofun) (fun _ _=>nofun) (h.se.km (l:=[]) (KM.same S) (nofun) (nofun) hn)
def muO (o:HO):Prop:=(∃kvs,o=.dT kvs)\/(∃kvs,o=.dK kvs)\/(∃xs,o=.lst xs)\/∃C dx v w fs,o=HO.ins C dx ((("stamper":Str),v)::(("bits":Str),w)::fs)
def MuS (l:List Addr)(H:Hp):Prop:=∀z∈l,∃o,H z=some o/\muO o
theorem MuS.no {o:HO}(h:MuS l H)(e:H x=some o)(n:¬muO o):x∉l:=fun hx=>by
 obtain⟨u,e2,h2⟩:=h x hx
 rw[e]at e2;cases e2;exact n h2
theorem zL {C dx:Addr}{w:Str}{v:V}{fs:List (Str×V)}(h:w≠"stamper"):¬muO (.ins C dx ((w,v)::fs)):=by
 rintro(⟨_,e⟩|⟨_,e⟩|⟨_,e⟩|⟨_,_,_,_,_,e⟩)
 ·cases e
 ·cases e
 ·cases e
 ·injection e with _ _ e;injection e with e;injection e with e;exact h e
theorem IP {C dx:Addr}{w:Str}{u v:V}{fs:List (Str×V)}(h:w≠"bits"):¬muO (.ins C dx ((("stamper":Str),u)::(w,v)::fs)):=by
 rintro(⟨_,e⟩|⟨_,e⟩|⟨_,e⟩|⟨_,_,_,_,_,e⟩)
 ·cases e
 ·cases e
 ·cases e
 ·injection e with _ _ e;injection e with _ e;injection e with e;injection e with e;exact h e
theorem HsA.noX {a:HA}{ts:List (Kn Str)}{ys:List Addr}(h:HsA A H g x f n B a t ts ys)(m:MuS l H):x∉l/\a.ro∉l/\a.sl∉l:=by
 obtain⟨dx,hx⟩:=h.ob
 obtain⟨es,kvs,r,_⟩:=h.ro
 obtain⟨dr,hr⟩:=r.ob
 obtain⟨ds,hs⟩:=h.se.ob
 exact⟨m.no hx (zL (by decide)),m.no hr (IP (by decide)),m.no hs (zL (by decide))⟩
end
theorem BI (K:cW)(A:Adr):Ln (nj K A) 3:=by rintro vs H Q E ⟨x,a,v,w,rfl,_⟩;rfl
theorem Eo (T:Txt K mg A):Rd (nj K A) (Io K A) ["self","key","value"]:=by
 intro vs H Q E h
 obtain⟨x,a,v,w,rfl,⟨dx,hx⟩,⟨f,g,B,t,m,ta⟩,q⟩:=h
 obtain⟨dt,y,o,_⟩:=ta.ob
 exact⟨x,_,dx,_,_,rfl,hx,T.cl_House,T.na_House_table,rfl,a.tb,dt,_,rfl,o,rfl,q⟩
theorem TmA.get {H:Hp}{g:gOp}{f:Addr}{B:Nat}:∀{ys:List Addr}{ts:List (Kn Str)}{p:Nat}{t:Kn Str},TmA A H g f B ys ts->ts[p]?=some t->∃y m,ys[p]?=some y/\TbA A H g y f B t m
 |_,_,0,_,.cons ⟨m,r⟩ _,h=>by cases h;exact⟨_,m,rfl,r⟩
 |_,_,p+1,_,.cons _ r,h=>TmA.get r (p:=p) h
theorem zJ (K:cW)(A:Adr):Ln (mh K A) 1:=by rintro vs H Q E ⟨x,f,b,g,n,B,a,t,ts,ys,rfl,_⟩;rfl
theorem HM (T:Txt K mg A):Rd (mh K A) (JO K A) ["self","count"]:=by
 intro vs H Q E h
 obtain⟨x,f,b,g,n,B,a,t,ts,ys,rfl,h,hd,s,hn,q⟩:=h
 obtain⟨dx,hx⟩:=h.ob
 obtain⟨es,kvs,r,le,lk⟩:=h.ro
 obtain⟨dr,hr⟩:=r.ob
 have nd:=hd.nd
 simp only[Lv,If,KO,or_false,not_or]at nd
 obtain⟨⟨n1,n2,n3,n4,n5⟩,⟨n6,n7,n8,n9⟩,⟨n10,n11,n12⟩,⟨n13,n14⟩,⟨n15,_⟩⟩:=nd
 refine⟨x,_,dx,_,_,rfl,hx,T.cl_House,T.na_House_row,rfl,a.ro,dr,_,rfl,hr,rfl,a.ro,f,a.L,a.D,es,kvs,rfl,r,?_⟩
 refine⟨x,_,dx,_,_,rfl,hx,T.cl_House,T.na_House_row,rfl,a.ro,dr,_,rfl,hr,rfl,a.ro,f,a.L,a.D,b,es,kvs,g,n,es.length,rfl,⟨r,s,KP n3,lk⟩,gV _,by omega,fun v kvs' g' H' k2 r' sub sv=>⟨aB (show 2<=1000000 by decide),fun p hp=>?_⟩⟩
 have S1:=ar.upd (o:=.tup [V.int (es.length:Int),kV v]) hp
 have hp1:upd H' p (.tup [V.int (es.length:Int),kV v]) p=some (.tup [V.int (es.length:Int),kV v]):=af
 rw[le]at S1 hp1⊢
 generalize upd H' p (.tup [V.int (ts.length:Int),kV v])=H1 at*
 obtain⟨kb,eb⟩:=s.bd
 have nk:NkS [b,a.D] H:=.bd s (.cons r.hd (fun q=>q.dT) .nil)
 have mu:MuS [b,a.D] H:=fun z hz=>by
  simp only[If,KO,or_false]at hz
  rcases hz with rfl|rfl
  ·exact⟨_,eb,.inl ⟨_,rfl⟩⟩
  ·exact⟨_,r.hd,.inl ⟨_,rfl⟩⟩
 obtain⟨m1,m2,m3⟩:=h.noX mu
 have km:KM [b,a.D] H H':=KM.k2 k2 (by simp) (by simp)
 have two:∀{z:Addr},z≠b->z≠a.D->z∉[b,a.D]:=fun h1 h2 q=>by
  simp only[If,KO,or_false]at q
  exact q.elim h1 h2
 obtain⟨m,ta⟩:=h.ta
 have h2:HsA A H' g' x f (n+200) B a t ts ys:=⟨h.ob.km km m1,⟨m,ta.km km nk (two (KP n1) n7) sub⟩,⟨es,kvs',r'.r,le,r'.kl⟩,km _ _ (two (KP n4) (KP n13)) h.hm,h.tm.km km nk (fun y hy=>?_) sub,h.se.km km m3 (two (KP n5) (KP n14)) (by omega)⟩
 ·exact q p v g' H1 (fun z o z1 z2 e=>S1 _ _ (k2 z o z1 z2 e)) (h2.same S1 (gV _)) (r'.s.same (gV _) S1) sub hp1 sv
 ·obtain⟨i,hi⟩:=Nw.mp hy
  have hlt:i<ts.length:=by rw[<-h.tm.length];exact(KY.mp hi).1
  obtain⟨y',m',hy',ty⟩:=h.tm.get (KU hlt)
  rw[hi]at hy';cases hy'
  obtain⟨dy,y0,oy,_⟩:=ty.ob
  exact two (s.nb oy fun _ z=>nomatch z) (bu oy r.hd fun z=>nomatch z)
theorem dJ {z b x:Addr}(h1:z≠b)(h2:z≠x):z∉[b,x]:=fun q=>by
 simp only[If,KO,or_false]at q
 exact q.elim h1 h2
theorem aD {z b:Addr}(h1:z≠b):z∉[b]:=fun q=>h1 (KZ.mp q)
theorem BQ (K:cW)(A:Adr):Ln (jZ K A) 4:=by rintro vs H Q E ⟨x,dx,f,b,sl,sd,g,n,v,d,rfl,_⟩;rfl
theorem GP (T:Txt K mg A):Rd (jZ K A) (Js K A) ["self","stamper","bits","seals"]:=by
 intro vs H Q E h
 obtain⟨x,dx,f,b,sl,sd,g,n,v,d,rfl,hx,wd,s,hn,se,sdb,qE,q⟩:=h
 obtain⟨dsl,hsl⟩:=se.ob
 obtain⟨kvs0,hsd,lsd⟩:=se.di
 obtain⟨kb0,eb⟩:=s.bd
 intro tb dtb htb hdtb ne1
 have S1:=bZ (o:=.own tb) (u:=.ins A.c_Table dtb []) htb hdtb ne1
 refine⟨tb,dtb,f,b,g,n,v,d,rfl,af,wd.mono S1,s.same (gV _) S1,by omega,qE,fun B ed B1 B60 m g1 H1 k1 ta s1 sub1=>⟨rfl,?_⟩⟩
 have q:=q B ed B1 B60
 clear qE
 have K1:KM [b,x] H H1:=fun z o zn e=>k1 z o (fun w=>zn (by simp[w])) (ap e htb) (S1 _ _ e)
 have xb:x≠b:=s.nb hx fun _ z=>nomatch z
 have hx1:H1 x=some (.ins A.c_House dx []):=k1 _ _ xb (ap hx htb) (S1 _ _ hx)
 have tbx:tb≠x:=KP (ap hx htb)
 clear k1 S1
 refine⟨x,A.c_House,dx,[],rfl,hx1,T.cl_House,T.na_House_table,by decide,?_⟩
 have ta2:TbA A (upd H1 x (.ins A.c_House dx (aX "table" (.ref tb) []))) g1 tb f B .bare m:=ta.km (l:=[x]) (KM.upd (by simp)) (.cons hx1 (fun k=>k.nil) .nil) (aD tbx) Sub.rfl'
 have s2:=s1.put (o:=.ins A.c_House dx (aX "table" (.ref tb) [])) (gV _) hx1 (fun v z=>nomatch z)
 have K2:KM [b,x] H (upd H1 x (.ins A.c_House dx (aX "table" (.ref tb) []))):=K1.trans (KM.upd (by simp))
 have hx2:upd H1 x (.ins A.c_House dx (aX "table" (.ref tb) [])) x=some (.ins A.c_House dx [("table",.ref tb)]):=af
 generalize upd H1 x (.ins A.c_House dx (aX "table" (.ref tb) []))=H2 at*
 clear K1 hx1 ta s1
 intro ro dro hro hdro ne2
 have S2:=bZ (o:=.own ro) (u:=.ins A.c_Row dro []) hro hdro ne2
 refine⟨ro,dro,f,rfl,af,fun L D H3 k3 hL hD LD e1 e2 e3=>⟨rfl,?_⟩⟩
 have S3:ar H2 H3:=fun z o e=>k3 z o (ap e hro) (S2 _ _ e)
 obtain⟨Lro,hL⟩:=bA hL
 obtain⟨_,hL⟩:=bA hL
 obtain⟨Dro,hD⟩:=bA hD
 obtain⟨_,hD⟩:=bA hD
 have hx3:=S3 _ _ hx2
 have ta3:=ta2.same S3
 have s3:=s2.same (gV _) S3
 have K3:KM [b,x] H H3:=K2.trans (KM.same S3)
 have tbro:tb≠ro:=by obtain⟨_,_,o,_⟩:=ta2.ob;exact ap o hro
 have tbL:tb≠L:=by obtain⟨_,_,o,_⟩:=ta2.ob;exact ap o hL
 have tbD:tb≠D:=by obtain⟨_,_,o,_⟩:=ta2.ob;exact ap o hD
 have xL:x≠L:=ap hx2 hL
 have xD:x≠D:=ap hx2 hD
 have xro:x≠ro:=ap hx2 hro
 have Db:D≠b:=by obtain⟨_,eb⟩:=s2.bd;exact KP (ap eb hD)
 have fr:∀{z:Addr},z≠x->H2 z=none->H z=none:=fun{z} zx hz=>by
  cases e:H z with
  |none=>rfl
  |some o=>
   by_cases zb:z=b
   ·subst zb;obtain⟨_,eb⟩:=s2.bd;rw[hz]at eb;cases eb
   ·rw[K2 z o (dJ zb zx) e]at hz;cases hz
 have fro:=fr (KP xro) hro
 have fL:=fr (KP xL) hL
 have fD:=fr (KP xD) hD
 refine⟨x,A.c_House,dx,_,rfl,hx3,T.cl_House,T.na_House_row,by show 1<1000;decide,?_⟩
 have nk3:NkS [x] H3:=.cons hx3 (fun k=>k.house) .nil
 have K3x:∀{o:HO},KM [x] H3 (upd H3 x o):=KM.upd (by simp)
 have ta4:TbA A (upd H3 x (.ins A.c_House dx (aX "row" (.ref ro) [("table",.ref tb)]))) g1 tb f B .bare m:=ta3.km K3x nk3 (aD tbx) Sub.rfl'
 have s4:=s3.put (o:=.ins A.c_House dx (aX "row" (.ref ro) [("table",.ref tb)])) (gV _) hx3 (fun v z=>by injection z with z;injection z with z;exact absurd z (by decide))
 have r3:cX A H3 ro f L D [] []:=⟨⟨dro,e1⟩,e2,e3,fun _ h=>(nomatch h),Li _,fun k v h=>(nomatch h)⟩
 have r4:cX A (upd H3 x (.ins A.c_House dx (aX "row" (.ref ro) [("table",.ref tb)]))) ro f L D [] []:=r3.km K3x (aD (KP xro)) (aD (KP xL)) (aD (KP xD))
 have K4:KM [b,x] H (upd H3 x (.ins A.c_House dx (aX "row" (.ref ro) [("table",.ref tb)]))):=K3.trans (KM.upd (by simp))
 have hx4:upd H3 x (.ins A.c_House dx (aX "row" (.ref ro) [("table",.ref tb)])) x=some (.ins A.c_House dx [("table",.ref tb),("row",.ref ro)]):=af
 generalize upd H3 x (.ins A.c_House dx (aX "row" (.ref ro) [("table",.ref tb)]))=H4 at*
 clear ta2 ta3 s2 s3 K2 K3 r3 nk3 k3 S2 S3 fr
 refine⟨Li _,fun ml hml=>?_⟩
 have S5:=ar.upd (o:=.lst []) hml
 have e5:upd H4 ml (.lst []) ml=some (.lst (([]:List Addr).map V.ref)):=af
 have tbml:tb≠ml:=by obtain⟨_,_,o,_⟩:=ta4.ob;exact ap o hml
 have xml:x≠ml:=ap hx4 hml
 have mlL:L≠ml:=ap r4.hl hml
 have mlD:D≠ml:=ap r4.hd hml
 have mlro:ro≠ml:=by obtain⟨_,o⟩:=r4.ob;exact ap o hml
 have fml:H ml=none:=by
  cases e:H ml with
  |none=>rfl
  |some o=>
   by_cases zb:ml=b
   ·subst zb;obtain⟨_,eb⟩:=s4.bd;rw[hml]at eb;cases eb
   ·rw[K4 _ o (dJ zb (KP xml)) e]at hml;cases hml
 have ta5:=ta4.same S5
 have s5:=s4.same (gV _) S5
 have r5:=r4.same S5
 have hx5:=S5 _ _ hx4
 have K5:KM [b,x] H (upd H4 ml (.lst [])):=K4.trans (KM.same S5)
 generalize upd H4 ml (.lst [])=H5 at*
 clear ta4 s4 r4 hx4 K4 S5
 refine⟨x,A.c_House,dx,_,rfl,hx5,T.cl_House,T.na_House_makes,by show 2<1000;decide,?_⟩
 have two:∀{o u:HO},KM [x] H5 (upd (upd H5 x o) x u):=(KM.upd (by simp)).trans (KM.upd (by simp))
 refine⟨x,A.c_House,dx,_,rfl,af,T.cl_House,T.na_House_seals,by show 3<1000;decide,?_⟩
 have nk5:NkS [x] H5:=.cons hx5 (fun k=>k.house) .nil
 have s6a:=s5.put (o:=.ins A.c_House dx (aX "makes" (.ref ml) [("table",.ref tb),("row",.ref ro)])) (gV _) hx5 (fun v z=>by injection z with _ z;cases z)
 have s6:=s6a.put (o:=.ins A.c_House dx (aX "seals" (.ref sl) (aX "makes" (.ref ml) [("table",.ref tb),("row",.ref ro)]))) (gV _) af (fun v z=>by injection z with _ z;cases z)
 have ta6:=ta5.km (two (o:=.ins A.c_House dx (aX "makes" (.ref ml) [("table",.ref tb),("row",.ref ro)])) (u:=.ins A.c_House dx (aX "seals" (.ref sl) (aX "makes" (.ref ml) [("table",.ref tb),("row",.ref ro)])))) nk5 (aD tbx) Sub.rfl'
 have r6:=r5.km (two (o:=.ins A.c_House dx (aX "makes" (.ref ml) [("table",.ref tb),("row",.ref ro)])) (u:=.ins A.c_House dx (aX "seals" (.ref sl) (aX "makes" (.ref ml) [("table",.ref tb),("row",.ref ro)])))) (aD (KP xro)) (aD (KP xL)) (aD (KP xD))
 have e6:=two (o:=.ins A.c_House dx (aX "makes" (.ref ml) [("table",.ref tb),("row",.ref ro)])) (u:=.ins A.c_House dx (aX "seals" (.ref sl) (aX "makes" (.ref ml) [("table",.ref tb),("row",.ref ro)]))) _ _ (aD (KP xml)) e5
 have K6:KM [b,x] H (upd (upd H5 x (.ins A.c_House dx (aX "makes" (.ref ml) [("table",.ref tb),("row",.ref ro)]))) x (.ins A.c_House dx (aX "seals" (.ref sl) (aX "makes" (.ref ml) [("table",.ref tb),("row",.ref ro)])))):=K5.trans ((KM.upd (by simp)).trans (KM.upd (by simp)))
 have hx6:upd (upd H5 x (.ins A.c_House dx (aX "makes" (.ref ml) [("table",.ref tb),("row",.ref ro)]))) x (.ins A.c_House dx (aX "seals" (.ref sl) (aX "makes" (.ref ml) [("table",.ref tb),("row",.ref ro)]))) x=some (.ins A.c_House dx [("table",.ref tb),("row",.ref ro),("makes",.ref ml),("seals",.ref sl)]):=af
 generalize upd (upd H5 x (.ins A.c_House dx (aX "makes" (.ref ml) [("table",.ref tb),("row",.ref ro)]))) x (.ins A.c_House dx (aX "seals" (.ref sl) (aX "makes" (.ref ml) [("table",.ref tb),("row",.ref ro)])))=H6 at*
 clear ta5 s5 s6a r5 hx5 K5 two nk5
 have slx:sl≠x:=fun z=>by subst z;rw[hx]at hsl;injection hsl with h;injection h with _ _ h;cases h
 have slsd:sl≠sd:=bu hsl hsd fun z=>nomatch z
 have slb:sl≠b:=s.nb hsl fun _ z=>nomatch z
 have hsl6:=K6 _ _ (dJ slb slx) hsl
 have sdx:sd≠x:=fun z=>by subst z;rw[hx]at hsd;cases hsd
 have hsd6:=K6 _ _ (dJ sdb sdx) hsd
 refine⟨sl,dsl,_,rfl,hsl6,rfl,f,b,g1,n+1,rfl,s6,by omega,fun p w g7 H7 k7 s7 sub7 hp sw=>?_⟩
 have nb7:∀{z:Addr}{o:HO},H6 z=some o->z≠b->H7 z=some o:=fun e h=>k7 _ _ h e
 have se7:SeA A H7 sl sd n:=⟨⟨dsl,nb7 hsl6 slb⟩,⟨kvs0,nb7 hsd6 sdb,lsd⟩⟩
 refine⟨sl,sd,p,n,0,w,rfl,se7,by omega,hp,by decide,sw.1,fun kvs hl=>?_⟩
 have hsd7:=nb7 hsd6 sdb
 have ta7:=ta6.kb s6 k7 sub7
 have nk7:NkS [sd] H7:=.cons hsd7 (fun k=>k.dT) .nil
 have K8:∀{o:HO},KM [sd] H7 (upd H7 sd o):=KM.upd (by simp)
 have nsd:∀{z:Addr}{o:HO},H z=none->z∉[sd]:=fun hz=>aD (KP (ap hsd hz))
 have tbsd:tb≠sd:=by obtain⟨_,_,o,_⟩:=ta7.ob;exact bu o hsd7 fun z=>nomatch z
 have xsd:x≠sd:=KP sdx
 have hx7:=nb7 hx6 xb
 have rb:∀{z:Addr},H z=none->z≠b:=fun hz=>KP (ap eb hz)
 have r7:cX A H7 ro f L D [] []:=r6.km (l:=[b]) (KM.kb k7 (by simp)) (aD (rb fro)) (aD (rb fL)) (aD Db)
 refine q ⟨tb,ro,L,D,ml,sl,sd⟩ g7 _ (fun z o zn e=>?_) ⟨⟨dx,K8 _ _ (aD xsd) hx7⟩,⟨m,ta7.km K8 nk7 (aD tbsd) Sub.rfl'⟩,⟨[],[],r7.km K8 (nsd (o:=.lst []) fro) (nsd (o:=.lst []) fL) (nsd (o:=.lst []) fD),rfl,Li _⟩,K8 _ _ (nsd (o:=.lst []) fml) (nb7 e6 (rb fml)),.nil,⟨⟨dsl,K8 _ _ (aD slsd) (nb7 hsl6 slb)⟩,⟨kvs,af,by omega⟩⟩⟩ rfl rfl (fun z hz=>?_) ?_ ((s7.same (by omega) ar.rfl').setD hsd7 sdb (gV _)) (sub1.trans sub7)
 ·simp only[If,KO,or_false,not_or]at zn
  exact K8 _ _ (aD zn.2.2) (nb7 (K6 _ _ (dJ zn.1 zn.2.1) e) zn.1)
 ·simp only[If,KO,or_false]at hz
  rcases hz with rfl|rfl|rfl|rfl|rfl
  ·exact htb
  ·exact fro
  ·exact fL
  ·exact fD
  ·exact fml
 ·simp only[Lv,If,KO,or_false,not_or,not_false_eq_true,OH,and_true]
  exact⟨⟨tbro,tbL,tbD,tbml⟩,⟨KP Lro,KP Dro,mlro⟩,⟨LD,mlL⟩,mlD⟩
theorem KnA.sm {H:Hp}{g:gOp}{x f b:Addr}{n:Nat}{t:Kn Str}{m:Key}(k:KnA A H g x t m)(s:Stp A H f b g n):smE m:=by
 cases k with
 |bare o ht hm=>exact s.small hm
 |leaf o ht hm=>exact s.small hm
 |fork o hl hr ht hm=>exact s.small hm
theorem TmA.ne {H:Hp}{g:gOp}{f z:Addr}{B:Nat}{o:HO}{ys:List Addr}{ts:List (Kn Str)}(h:TmA A H g f B ys ts)(e:H z=some o)(n:∀C dx fs,o≠.ins C dx fs):∀y∈ys,y≠z:=fun y hy q=>by
 obtain⟨i,hi⟩:=Nw.mp hy
 have hlt:i<ts.length:=by rw[<-h.length];exact(KY.mp hi).1
 obtain⟨y',m',hy',ty⟩:=h.get (KU hlt)
 rw[hi]at hy';cases hy'
 obtain⟨dy,y0,oy,_⟩:=ty.ob
 subst q;rw[e]at oy;cases oy;exact n _ _ _ rfl
theorem TmA.snoc {H:Hp}{g:gOp}{f y:Addr}{B:Nat}{t:Kn Str}{m:Key}:∀{ys:List Addr}{ts:List (Kn Str)},TmA A H g f B ys ts->TbA A H g y f B t m->TmA A H g f B (ys++[y]) (ts++[t])
 |_,_,.nil,h=>.cons ⟨m,h⟩ .nil
 |_,_,.cons r p,h=>.cons r (TmA.snoc p h)
theorem HaD.all {b:Addr}{a:HA}{ys:List Addr}(h:HaD b a ys):(b≠a.tb/\b≠a.L/\b≠a.D/\b≠a.ml/\b≠a.sd)/\(a.tb≠a.L/\a.tb≠a.D/\a.tb≠a.ml/\a.tb≠a.sd)/\(a.L≠a.D/\a.L≠a.ml/\a.L≠a.sd)/\(a.D≠a.ml/\a.D≠a.sd)/\a.ml≠a.sd:=by
 have nd:=h.nd
 simp only[Lv,If,KO,or_false,not_or]at nd
 obtain⟨⟨n1,n2,n3,n4,n5⟩,⟨n6,n7,n8,n9⟩,⟨n10,n11,n12⟩,⟨n13,n14⟩,⟨n15,_⟩⟩:=nd
 exact⟨⟨n1,n2,n3,n4,n5⟩,⟨n6,n7,n8,n9⟩,⟨n10,n11,n12⟩,⟨n13,n14⟩,n15⟩
theorem CM (K:cW)(A:Adr):Ln (lO K A) 1:=by rintro vs H Q E ⟨x,f,b,g,n,B,a,t,ts,ys,rfl,_⟩;rfl
theorem GB (T:Txt K mg A):Rd (lO K A) (IH K A) ["self","head"]:=by
 intro vs H Q E h
 obtain⟨x,f,b,g,n,B,a,t,ts,ys,rfl,h,hd,s,ln,lt,hn,q⟩:=h
 obtain⟨dx,hx⟩:=h.ob
 obtain⟨m,ta⟩:=h.ta
 obtain⟨es,kvs,r,le,lk⟩:=h.ro
 obtain⟨dr,hr⟩:=r.ob
 obtain⟨dt,yt,ot,kt⟩:=ta.ob
 obtain⟨dsl,hsl⟩:=h.se.ob
 obtain⟨kvd,hsd,lsd⟩:=h.se.di
 obtain⟨⟨bt,bL,bD,bm,bs⟩,⟨tL,tD,tm,tsd⟩,⟨LD,Lm,Ls⟩,⟨Dm,Ds⟩,ms⟩:=hd.all
 refine⟨x,_,dx,_,_,rfl,hx,T.cl_House,T.na_House_row,rfl,a.ro,dr,_,rfl,hr,rfl,x,_,dx,_,_,rfl,hx,T.cl_House,T.na_House_table,rfl,a.tb,dt,_,rfl,ot,rfl,a.tb,f,g,B,t,m,rfl,ta,a.ro,f,a.L,a.D,es,kvs,m,rfl,r,kt.sm s,by omega,?_⟩
 have K1:∀{o:HO},KM [a.L] H (upd H a.L o):=KM.upd (by simp)
 have nk1:NkS [a.L] H:=.cons r.hl (fun k=>k.lst) .nil
 have s1:Stp A (upd H a.L (.lst ((es++[m]).map kV))) f b g n:=s.setL r.hl
 have ta1:TbA A (upd H a.L (.lst ((es++[m]).map kV))) g a.tb f B t m:=ta.km K1 nk1 (aD tL) Sub.rfl'
 have nx:x≠a.L:=bu hx r.hl fun z=>nomatch z
 have nr:a.ro≠a.L:=bu hr r.hl fun z=>nomatch z
 have r1:cX A (upd H a.L (.lst ((es++[m]).map kV))) a.ro f a.L a.D (es++[m]) kvs:=⟨⟨dr,K1 _ _ (aD nr) hr⟩,af,K1 _ _ (aD (KP LD)) r.hd,fun e he=>(Ml.mp he).elim (r.en e) (fun z=>by rw[KZ.mp z];exact kt.sm s),by rw[KW];show es.length+1<=60;omega,r.cs⟩
 have hm1:=K1 (o:=.lst ((es++[m]).map kV)) _ _ (aD (KP Lm)) h.hm
 have tm1:TmA A (upd H a.L (.lst ((es++[m]).map kV))) g f B ys ts:=h.tm.km K1 nk1 (fun y hy=>aD (h.tm.ne r.hl (fun _ _ _ z=>nomatch z) y hy)) Sub.rfl'
 have se1:SeA A (upd H a.L (.lst ((es++[m]).map kV))) a.sl a.sd n:=h.se.km K1 (aD (bu hsl r.hl fun z=>nomatch z)) (aD (KP Ls)) (gV _)
 have hx1:=K1 (o:=.lst ((es++[m]).map kV)) _ _ (aD nx) hx
 have ke:KM [b,a.L,a.D,a.ml,a.sd] H (upd H a.L (.lst ((es++[m]).map kV))):=KM.upd (by simp)
 have fr1:∀{z:Addr},upd H a.L (.lst ((es++[m]).map kV)) z=none->H z=none:=fun hz=>(bA hz).2
 generalize upd H a.L (.lst ((es++[m]).map kV))=H1 at*
 obtain⟨dt1,yt1,ot1,_⟩:=ta1.ob
 refine⟨x,_,dx,_,_,rfl,hx1,T.cl_House,T.na_House_makes,rfl,.inl ⟨rfl,_,SqL.of hm1⟩,x,_,dx,_,_,rfl,hx1,T.cl_House,T.na_House_table,rfl,a.tb,dt1,_,rfl,ot1,rfl,a.tb,f,b,g,n,B,t,m,rfl,⟨ta1,s1,ln⟩,by omega,fun y g2 H2 kb hy ts2 ta2 sub2=>?_⟩
 have nb:∀{z:Addr}{o:HO},H1 z=some o->b≠z->H2 z=some o:=fun e h=>kb _ _ (KP h) e
 have hm2:=nb hm1 bm
 have hx2:=nb hx1 (KP (s1.nb hx1 fun _ z=>nomatch z))
 have K2:KM [b] H1 H2:=KM.kb kb (by simp)
 have nk2:NkS [b] H1:=.bd s1 .nil
 have ll:ys.length<60:=by rw[h.tm.length];omega
 refine⟨a.ml,_,.ref y,rfl,rfl,hm2,by rw[Lq];exact eI (by omega),?_⟩
 have ey:ys.map V.ref++[V.ref y]=(ys++[y]).map V.ref:=by rw[My];rfl
 rw[ey]
 have K3:∀{o:HO},KM [a.ml] H2 (upd H2 a.ml o):=KM.upd (by simp)
 have nk3:NkS [a.ml] H2:=.cons hm2 (fun k=>k.lst) .nil
 have tm2:TmA A H2 g2 f B ys ts:=tm1.km K2 nk2 (fun z hz=>aD (fun e=>by obtain⟨kk,eb⟩:=s1.bd;exact tm1.ne eb (fun _ _ _ z=>nomatch z) z hz e)) sub2
 have tm2':=tm2.snoc ta2
 have r2:cX A H2 a.ro f a.L a.D (es++[m]) kvs:=by
  obtain⟨_,hr1⟩:=r1.ob
  exact r1.km K2 (aD (s1.nb hr1 fun _ z=>nomatch z)) (aD (KP bL)) (aD (KP bD))
 have se2:SeA A H2 a.sl a.sd n:=by
  obtain⟨_,e⟩:=se1.ob
  exact se1.km K2 (aD (s1.nb e fun _ z=>nomatch z)) (aD (KP bs)) (gV _)
 obtain⟨_,hr2⟩:=r2.ob
 obtain⟨_,hsl2⟩:=se2.ob
 have h3:HsA A (upd H2 a.ml (.lst ((ys++[y]).map V.ref))) g2 x f (n+1) B a t (ts++[t]) (ys++[y]):=
  ⟨⟨dx,K3 _ _ (aD (bu hx2 hm2 fun z=>nomatch z)) hx2⟩,⟨m,ts2.ta.km K3 nk3 (aD tm) Sub.rfl'⟩,⟨es++[m],kvs,r2.km K3 (aD (bu hr2 hm2 fun z=>nomatch z)) (aD Lm) (aD Dm),by rw[KW,KW,le];rfl,by omega⟩,af,tm2'.km K3 nk3 (fun z hz=>aD (tm2'.ne hm2 (fun _ _ _ z=>nomatch z) z hz)) Sub.rfl',se2.km K3 (aD (bu hsl2 hm2 fun z=>nomatch z)) (aD (KP ms)) (by omega)⟩
 have s3:Stp A (upd H2 a.ml (.lst ((ys++[y]).map V.ref))) f b g2 (n+1):=ts2.s.setL hm2
 have hyf:H y=none:=fr1 hy
 have tby:a.tb≠y:=ap ot hyf
 have ke3:KM [b,a.L,a.D,a.ml,a.sd] H (upd H2 a.ml (.lst ((ys++[y]).map V.ref))):=ke.trans ((KM.kb kb (by simp)).trans (KM.upd (by simp)))
 have hx3:upd H2 a.ml (.lst ((ys++[y]).map V.ref)) x=some (.ins A.c_House dx [("table",.ref a.tb),("row",.ref a.ro),("makes",.ref a.ml),("seals",.ref a.sl)]):=K3 _ _ (aD (bu hx2 hm2 fun z=>nomatch z)) hx2
 generalize upd H2 a.ml (.lst ((ys++[y]).map V.ref))=H3 at*
 have hd3:HaD b a (ys++[y]):=⟨hd.nd,fun z=>(Ml.mp z).elim hd.ny fun z=>tby (KZ.mp z)⟩
 refine⟨x,dx,_,rfl,hx3,rfl,x,f,b,g2,n+1,B,a,t,ts++[t],ys++[y],rfl,h3,hd3,s3,by omega,fun p v g4 H4 k4 h4 s4 sub4 hp sv=>?_⟩
 obtain⟨dx4,hx4⟩:=h4.ob
 obtain⟨dsl4,hsl4⟩:=h4.se.ob
 obtain⟨kvd4,hsd4,lsd4⟩:=h4.se.di
 obtain⟨es4,kvs4,r4,le4,lk4⟩:=h4.ro
 obtain⟨dr4,hr4⟩:=r4.ob
 have tl:(ts++[t]).length=ts.length+1:=by rw[KW];rfl
 rw[tl]at hp
 refine⟨x,_,dx4,_,_,rfl,hx4,T.cl_House,T.na_House_seals,rfl,a.sl,dsl4,_,rfl,hsl4,rfl,a.sl,a.sd,p,n+1+200,ts.length+1,v,rfl,h4.se,by omega,hp,by omega,sv.1,fun kvs5 hl5=>?_⟩
 have K5:∀{o:HO},KM [a.sd] H4 (upd H4 a.sd o):=KM.upd (by simp)
 have nk5:NkS [a.sd] H4:=.cons hsd4 (fun k=>k.dT) .nil
 refine q p y v g4 _ ((ke3.trans (KM.k2 k4 (by simp) (by simp))).trans (KM.upd (by simp))) hyf (h4.km K5 nk5 Sub.rfl' (by omega) (aD (bu hx4 hsd4 fun z=>nomatch z)) (aD tsd) (aD (bu hr4 hsd4 fun z=>nomatch z)) (aD Ls) (aD Ds) (aD ms) (fun z hz=>aD (h4.tm.ne hsd4 (fun _ _ _ z=>nomatch z) z hz)) ⟨⟨dsl4,K5 _ _ (aD (bu hsl4 hsd4 fun z=>nomatch z)) hsl4⟩,⟨kvs5,af,by omega⟩⟩) ((s4.same (by omega) ar.rfl').setD hsd4 (KP bs) (gV _)) (sub2.trans sub4) (K5 _ _ (aD (bu hp hsd4 fun z=>nomatch z)) (by rw[hp];rfl))
theorem Ih {c:Nat}{xs:List V}(h:1<=c):Dat.int (c:Int)=.int 0->xs=[]:=fun z=>absurd (Dat.int.inj z) (by omega)
theorem nw {m e:Nat}(h:2<=m)(he:m<=2^(e+1)):aP m<=2^e:=by
 obtain⟨k,e1,hk⟩:=kX h he
 rw[e1];exact Mj (by decide) (by omega)
theorem nN {e p m:Nat}(h:m<=1):dY e p m=[]:=by
 cases e with
 |zero=>rfl
 |succ e=>unfold dY;rw[if_pos h]
theorem lj {e p m:Nat}(h:¬m<=1):dY (e+1) p m=if p<aP m then 0::dY e p (aP m)else 1::dY e (p- aP m) (m- aP m):=by
 show(if m<=1 then _ else _)=_
 rw[if_neg h]
theorem zC (K:cW)(A:Adr):Ln (lQ K A) 2:=by rintro vs H Q E ⟨p,m,rfl,_⟩;rfl
theorem HL (T:Txt K mg A)(vs:List V)(H:Hp)(Q:VK)(E:XK)(h:lQ K A vs H Q E):Ko K A {nx:=fun _ H'=>Q .non H',rt:=Q} (bV ["place","many","turns","first","rest","ahead"] vs) H:=by
 obtain⟨p,m,rfl,hp,hm,q⟩:=h
 refine⟨by show 0<=sizeLine;decide,fun D hD=>?_⟩
 have q':=q D hD
 refine⟨fun e σ H2=>∃(f r:Nat)(ts:List Int)(ah:Option V),σ=[some (.int p),some (.int m),some (.ref D),some (.int f),some (.int r),ah]/\H2=upd H D (.lst (ts.map V.int))/\
  f<=p/\p<f+r/\r<=2^e/\e<=60/\ts.length+e=60/\ts++dY e (p- f) r=dY 60 p m,⟨60,0,m,[],none,rfl,rfl,by omega,by omega,hm,by omega,rfl,by rw[List.nil_append,Ph]⟩,?_⟩
 rintro e σ H2 ⟨f,r,ts,ah,rfl,rfl,hf,hr,he,h60,hl,hw⟩
 refine IW (fun h=>?_) (fun h=>?_)
 ·have h2:2<=r:=by omega
  cases e with
  |zero=>simp at he;omega
  |succ e=>
  have b1:=vH h2
  have b2:=nA h2
  have b3:=nw h2 he
  have hr60:r<=2^60:=Ll he (Mj (by decide) h60)
  rw[lj (by omega)]at hw
  refine⟨fun σ' H'=>∃(f r:Nat)(ts:List Int)(ah:Option V),σ'=[some (.int p),some (.int m),some (.ref D),some (.int f),some (.int r),ah]/\H'=upd H D (.lst (ts.map V.int))/\
   f<=p/\p<f+r/\r<=2^e/\e<=60/\ts.length+e=60/\ts++dY e (p- f) r=dY 60 p m,fun σ' H' w=>⟨e,by omega,w⟩,?_⟩
  refine⟨r,rfl,h2,hr60,?_⟩
  refine Sel.dec (fun hlt=>?_) (fun hlt=>?_)
  ·rw[if_pos (by omega)]at hw
   refine⟨.inl ⟨rfl,_,SqL.of af⟩,D,_,_,rfl,rfl,af,by rw[Lq];exact eI (by omega),?_⟩
   refine⟨f,aP r,ts++[0],_,rfl,by rw[My];exact eL,hf,by omega,b3,by omega,by rw[KW];simp;omega,?_⟩
   rw[PF];exact hw
  ·rw[if_neg (by omega)]at hw
   refine⟨.inl ⟨rfl,_,SqL.of af⟩,D,_,_,rfl,rfl,af,by rw[Lq];exact eI (by omega),?_⟩
   refine⟨f+aP r,r- aP r,ts++[1],some (.int (aP r)),?_,by rw[My];exact eL,by omega,by omega,by omega,by omega,by rw[KW];simp;omega,?_⟩
   ·show[some (V.int p),some (V.int m),some (V.ref D),some (V.int ((f:Int)+(aP r:Int))),some (V.int ((r:Int)- (aP r:Int))),some (V.int (aP r))]=_
    rw[show((f:Int)+(aP r:Int))=((f+aP r:Nat):Int)by omega,show((r:Int)- (aP r:Int))=((r- aP r:Nat):Int)by omega]
   ·rw[PF,show p- (f+aP r)=p- f- aP r by omega];exact hw
 ·rw[nN (by omega),LX]at hw
  show Q (.ref D) (upd H D (.lst (ts.map V.int)))
  rw[hw];exact q'
theorem BW (K:cW)(A:Adr)(n:Nat):Ln (gW K A n) 4:=by rintro vs H Q E ⟨x,f,L,D,b,es,kvs,g,N,a,m,e,rfl,_⟩;rfl
theorem xr (K:cW)(A:Adr):∀vs H Q E,gW K A 0 vs H Q E->False:=by rintro vs H Q E ⟨x,f,L,D,b,es,kvs,g,N,a,m,e,rfl,_,_,_,_,h,_⟩;omega
theorem DR (T:Txt K mg A)(n:Nat):Rd (gW K A (n+1)) (KG K A n) ["self","first","many","elder","ahead"]:=by
 intro vs H Q E h
 obtain⟨x,f,L,D,b,es,kvs,g,N,a,m,e,rfl,r,ham,m1,em,hm,hN,q⟩:=h
 have l60:=r.r.le
 obtain⟨dx,hx⟩:=r.r.ob
 have fin:aC (bv (ac (aK A.c_Row "top_of" (dF K A 70) (fun _=>E0) (ae 0) (ac (ae 1) (ac (ae 2) (ai)))) (ai))) {nx:=fun _ H'=>Q .non H',rt:=Q} [some (.ref x),some (.int (a:Int)),some (.int (m:Int)),some (.int (e:Int)),none] H:=by
  refine⟨x,dx,_,rfl,hx,rfl,x,f,L,D,b,es,kvs,g,N,a,m,rfl,r,ham,by omega,by omega,fun v kvs' g' H' k1 r1 s1 ok1=>⟨aB (show 1<=1000000 by decide),fun p hp=>?_⟩⟩
  exact q p [kV v] kvs' g' _ (k1.trans (aN.same (ar.upd hp))) (r1.same (ar.upd hp) (by omega)) s1 af m1
 refine Sel.dec (fun h=>Sel.t fin) (fun h0=>Sel.dec (fun h=>fin) (fun h1=>?_))
 have m2:2<=m:=by omega
 obtain⟨g1,g2⟩:=kJ m2
 refine⟨m,rfl,m2,by omega,Sel.dec (fun h=>?_) (fun h=>?_)⟩
 ·have hle:e<=aP m:=by have:(e:Int)<=((aP m:Nat):Int):=h;omega
  refine⟨x,dx,_,rfl,hx,rfl,x,f,L,D,b,es,kvs,g,N,a,aP m,e,rfl,r,by omega,g1,hle,by omega,by omega,fun p xs kvs1 g1' H1 k1 r1 s1 hp xl=>?_⟩
  obtain⟨dx1,hx1⟩:=r1.r.ob
  refine⟨x,dx1,_,rfl,hx1,rfl,x,f,L,D,b,es,kvs1,g1',_,a+aP m,m- aP m,?_,r1,by omega,by omega,by omega,fun v kvs2 g2' H2 k2 r2 s2 ok2=>⟨aB (show 1<=1000000 by decide),fun p2 hp2=>?_⟩⟩
  ·rw[Nd,Na (by omega)]
  ·obtain⟨n1,n2⟩:=r1.n2 hp (fun _ z=>nomatch z)
   have hp':=k2 _ _ n1 n2 hp
   refine .inr ⟨p,p2,xs,[kV v],rfl,rfl,by rw[am (ap hp' hp2)];exact hp',af,aB (by show xs.length+1<=_;omega),fun p3 H3 S3 hp3=>?_⟩
   exact q p3 (xs++[kV v]) kvs2 g2' H3 ((k1.trans k2).trans ((aN.same (ar.upd hp2)).trans (aN.same S3))) ((r2.same (ar.upd hp2) (gV _)).same S3 (by omega)) (s1.trans s2) hp3 (by rw[KW];show _+1<=_;omega)
 ·have hgt:aP m<e:=by have:¬(e:Int)<=((aP m:Nat):Int):=h;omega
  refine⟨x,dx,_,rfl,hx,rfl,x,f,L,D,b,es,kvs,g,N,a,aP m,rfl,r,by omega,by omega,by omega,fun v kvs1 g1' H1 k1 r1 s1 ok1=>⟨aB (show 1<=1000000 by decide),fun p hp=>?_⟩⟩
  have r1':=r1.same (ar.upd (o:=.tup [kV v]) hp) (gV _)
  obtain⟨dx1,hx1⟩:=r1'.r.ob
  refine⟨x,dx1,_,rfl,hx1,rfl,x,f,L,D,b,es,kvs1,g1',_,a+aP m,m- aP m,e- aP m,?_,r1',by omega,by omega,by omega,by omega,by omega,fun p2 xs kvs2 g2' H2 k2 r2 s2 hp2 xl=>?_⟩
  ·rw[Nd,Na (by omega),Na (by omega)]
  ·obtain⟨n1,n2⟩:=r1'.n2 (o:=.tup [kV v]) af (fun _ z=>nomatch z)
   refine .inr ⟨p,p2,[kV v],xs,rfl,rfl,k2 _ _ n1 n2 af,hp2,aB (by show 1+xs.length<=_;omega),fun p3 H3 S3 hp3=>?_⟩
   exact q p3 ([kV v]++xs) kvs2 g2' H3 (((k1.trans (aN.same (ar.upd hp))).trans k2).trans (aN.same S3)) (r2.same S3 (by omega)) (s1.trans s2) hp3 (by rw[KW];show 1+_<=_;omega)
theorem Az (K:cW)(A:Adr):Ln (mD K A) 3:=by rintro vs H Q E ⟨x,f,L,D,b,es,kvs,g,n,v,w,d,e,rfl,_⟩;rfl
theorem Fc (T:Txt K mg A):Rd (mD K A) (Kv K A) ["self","count","elder"]:=by
 intro vs H Q E h
 obtain⟨x,f,L,D,b,es,kvs,g,n,v,w,d,e,rfl,r,hn,hd,he,hE,q2⟩:=h
 obtain⟨dx,hx⟩:=r.r.ob
 have l60:=r.r.le
 refine⟨x,dx,_,rfl,hx,rfl,x,f,L,D,es,kvs,v,w,d,e,rfl,r.r,hd,he,?_⟩
 rw[hE]
 refine Sel.f ?_
 obtain⟨h1,h2⟩:=tx.mp hE
 obtain⟨c,el,rfl,rfl,ec,_⟩:=fX h1
 cases hd.int_inv
 cases he.int_inv
 have hc:(c:Int)<=(es.length:Int):=of_decide_eq_true h2
 refine Sel.dec (fun h=>?_) (fun h=>?_)
 ·have c1:1<=c:=by have h:(c:Int)>0:=h;omega
  exact⟨x,dx,_,rfl,hx,rfl,x,f,L,D,b,es,kvs,g,n,0,c,el,rfl,r,by omega,c1,ec,by omega,by omega,fun p xs kvs' g' H' k1 r1 s1 hp _=>q2 p xs kvs' g' H' k1 (r1.same ar.rfl' (by omega)) s1 hp (Ih c1)⟩
 ·exact⟨aB (show 0<=1000000 by decide),fun p hp=>q2 p [] kvs g _ (aN.same (ar.upd hp)) (r.same (ar.upd hp) (by omega)) Sub.rfl' af fun _=>rfl⟩
theorem cM.setM {H:Hp}{x f L D b M:Addr}{es:List Key}{kvs:List (List Key×Key)}{g:gOp}{n:Nat}{xs ys:List V}(r:cM A H x f L D b es kvs g n)(hM:H M=some (.lst xs))(ne:L≠M):cM A (upd H M (.lst ys)) x f L D b es kvs g n:=by
 obtain⟨dx,hx⟩:=r.r.ob
 exact⟨⟨⟨dx,by rw[am (bu hx hM (fun z=>nomatch z))];exact hx⟩,by rw[am ne];exact r.r.hl,by rw[am (bu r.r.hd hM (fun z=>nomatch z))];exact r.r.hd,r.r.en,r.r.le,r.r.cs⟩,r.s.setL hM,r.db,r.kl⟩
structure Pp (A:Adr)(H H':Hp)(x f L D b M W:Addr)(es:List Key)(c p fi m i:Nat)(g g':gOp)(n:Nat)(xs:List V):Prop where
 fp:fi<=p
 pm:p- fi<m
 fm:fi+m<=c
 tr:∃e,(gu c p).drop i=dY e (p- fi) m/\m<=2^e
 hM:H' M=some (.lst xs)
 hW:H' W=some (.lst ((gu c p).map V.int))
 k2:aN b D H H'
 r:∃kvs N,cM A H' x f L D b es kvs g' N/\N+2*m<=n+2*c
 sub:Sub g g'
 kl:xs.length+m<=c
theorem Av (K:cW)(A:Adr):Ln (mT K A) 3:=by rintro vs H Q E ⟨x,f,L,D,b,es,kvs,g,n,v,w,d,e,rfl,_⟩;rfl
theorem Fj (T:Txt K mg A):Rd (mT K A) (KH K A) ["self","count","place","marks","first","many","turn","ahead"]:=by
 intro vs H Q E h
 obtain⟨x,f,L,D,b,es,kvs,g,n,v,w,d,e,rfl,r,hn,hd,he,hE,q2⟩:=h
 obtain⟨dx,hx⟩:=r.r.ob
 have l60:=r.r.le
 refine⟨x,dx,_,rfl,hx,rfl,x,f,L,D,es,kvs,v,w,d,e,rfl,r.r,hd,he,?_⟩
 rw[hE]
 obtain⟨h1,h2⟩:=tx.mp hE
 obtain⟨c,p,rfl,rfl,hpc,_⟩:=eO h1
 cases hd.int_inv
 cases he.int_inv
 have hc:c<=es.length:=by have:(c:Int)<=(es.length:Int):=of_decide_eq_true h2;omega
 refine Sel.f ⟨Li _,fun M hM=>?_⟩
 have LM:L≠M:=ap r.r.hl hM
 have S1:ar H (upd H M (.lst [])):=ar.upd hM
 have hM1:upd H M (.lst []) M=some (.lst []):=af
 generalize upd H M (.lst [])=H1 at S1 hM1
 refine⟨p,c,rfl,hpc,by omega,fun W hWn=>⟨W,rfl,.inl ⟨⟨_,SqL.of af⟩,?_⟩⟩⟩
 have S2:=ar.upd (o:=.lst ((gu c p).map V.int)) hWn
 have hW:upd H1 W (.lst ((gu c p).map V.int)) W=some (.lst ((gu c p).map V.int)):=af
 generalize upd H1 W (.lst ((gu c p).map V.int))=H2 at S2 hW
 have MW:W≠M:=KP (ap hM1 hWn)
 refine jf (xs:=(gu c p).map V.int) (fun i σ H'=>∃(fi m:Nat)(xs:List V)(g':gOp)(x6 x7:Option V),σ=[some (.ref x),some (.int (c:Int)),some (.int (p:Int)),some (.ref M),some (.int (fi:Int)),some (.int (m:Int)),x6,x7]/\Pp A H H' x f L D b M W es c p fi m i g g' n xs)
  ⟨0,c,[],g,none,none,rfl,Li _,hpc,by omega,⟨60,by rw[Qo,Ph],by omega⟩,S2 _ _ hM1,hW,aN.same (S1.trans S2),⟨kvs,n,r.same (S1.trans S2) (gV _),gV _⟩,Sub.rfl',by simp⟩
  (fun i σ H' _ h=>?_) (fun i v σ H' hx' h=>?_) (fun σ H' h=>?_)
 ·obtain⟨_,_,_,_,_,_,_,pp⟩:=h
  exact SqL.of pp.hW
 ·obtain⟨fi,m,xs,g',x6,x7,rfl,pp⟩:=h
  obtain⟨fp,pm,fm,⟨e,tr,me⟩,hM',hW',k2,⟨kv,N,r',hN⟩,sub,kl⟩:=pp
  obtain⟨t,ht,rfl⟩:=kP hx'
  have hi:=(KY.mp ht).1
  have ed:(gu c p).drop i=t::(gu c p).drop (i+1):=by rw[List.drop_eq_getElem_cons hi,(KY.mp ht).2]
  rw[ed]at tr
  have m2:2<=m:=by
   rcases Nat.lt_or_ge m 2 with h|h
   ·rw[nN (by omega)]at tr;cases tr
   ·exact h
  cases e with
  |zero=>simp at me;omega
  |succ e=>
  obtain⟨g1,g2⟩:=kJ m2
  have b2:=nA m2
  have b3:=nw m2 me
  rw[lj (by omega)]at tr
  obtain⟨dx',hxx⟩:=r'.r.ob
  have lt:xs.length<sizeLine:=eI (by omega)
  obtain⟨nM,nM2⟩:=r'.n2 hM' (fun _ z=>nomatch z)
  obtain⟨nW,nW2⟩:=r'.n2 hW' (fun _ z=>nomatch z)
  refine⟨m,rfl,m2,by omega,?_⟩
  by_cases hp:p- fi<aP m
  ·rw[if_pos hp]at tr
   have tr2:=(NC tr).2
   obtain rfl:=(NC tr).1
   refine Sel.dec (fun _=>?_) (fun h=>absurd rfl h)
   refine⟨.inl ⟨rfl,_,SqL.of hM'⟩,x,dx',_,rfl,hxx,rfl,x,f,L,D,b,es,kv,g',N,fi+aP m,m- aP m,?_,r',by omega,by omega,by omega,fun v kv2 g2' H3 k3 r3 sub3 okv=>?_⟩
   ·rw[Nd,Na (by omega)]
   have hM3:=k3 _ _ nM nM2 hM'
   refine⟨M,_,kV v,rfl,rfl,hM3,lt,?_⟩
   refine⟨fi,aP m,xs++[kV v],g2',_,_,rfl,fp,hp,by omega,⟨e,tr2,b3⟩,af,by rw[am MW];exact k3 _ _ nW nW2 hW',fun z o n1 n2 e=>?_,⟨kv2,_,r3.setM hM3 LM,by omega⟩,sub.trans sub3,by rw[KW];show xs.length+1+_<=_;omega⟩
   rw[am (ap e hM)];exact k3 _ _ n1 n2 (k2 _ _ n1 n2 e)
  ·rw[if_neg hp]at tr
   have tr2:=(NC tr).2
   obtain rfl:=(NC tr).1
   refine Sel.dec (fun h=>absurd h (by decide)) (fun _=>?_)
   refine⟨.inl ⟨rfl,_,SqL.of hM'⟩,x,dx',_,rfl,hxx,rfl,x,f,L,D,b,es,kv,g',N,fi,aP m,rfl,r',by omega,by omega,by omega,fun v kv2 g2' H3 k3 r3 sub3 okv=>?_⟩
   have hM3:=k3 _ _ nM nM2 hM'
   refine⟨M,_,kV v,rfl,rfl,hM3,lt,?_⟩
   refine⟨fi+aP m,m- aP m,xs++[kV v],g2',some (.int 1),some (.int ((aP m:Nat):Int)),?_,by omega,by omega,by omega,⟨e,by rw[show p- (fi+aP m)=p- fi- aP m by omega];exact tr2,by omega⟩,af,by rw[am MW];exact k3 _ _ nW nW2 hW',fun z o n1 n2 e=>?_,⟨kv2,_,r3.setM hM3 LM,by omega⟩,sub.trans sub3,by rw[KW];show xs.length+1+_<=_;omega⟩
   ·rw[Na (by omega),Nd];rfl
   ·rw[am (ap e hM)];exact k3 _ _ n1 n2 (k2 _ _ n1 n2 e)
 ·obtain⟨fi,m,xs,g',x6,x7,rfl,pp⟩:=h
  obtain⟨fp,pm,fm,_,hM',hW',k2,⟨kv,N,r',hN⟩,sub,kl⟩:=pp
  obtain⟨dx',hxx⟩:=r'.r.ob
  obtain⟨e,he⟩:∃e,es[p]?=some e:=⟨_,KU (by omega)⟩
  refine⟨x,A.c_Row,dx',_,.ref L,rfl,hxx,T.cl_Row,T.na_Row_entries,rfl,ixL r'.r.hl rfl (by rw[LF,he];rfl) ?_⟩
  refine⟨M,_,rfl,.inl ⟨SqL.of hM',fun T hT=>⟨aB (show 2<=1000000 by decide),fun P hP=>?_⟩⟩⟩
  have S5:=(ar.upd (o:=.tup xs) hT).trans (ar.upd (o:=.tup [kV e,.ref T]) hP)
  exact q2 P T (kV e) xs kv g' _ (k2.trans (aN.same S5)) (r'.same S5 (by omega)) sub af (by rw[am (ap (af:upd _ T (.tup xs) T=_) hP),af])
theorem FJ {d:Int}(h:d<=60):(2:Int)^d.toNat<=2^60:=by
 have:(2:Nat)^d.toNat<=2^60:=Mj (by decide) (by omega)
 exact_mod_cast this
theorem Cf (K:cW)(A:Adr):Ln (mK K A) 3:=by rintro vs H Q E ⟨_,_,_,rfl,_⟩;rfl
theorem Gx (T:Txt K mg A):Rd (mK K A) (Jc K A) ["bits","depth","begin","rest"]:=by
 intro vs H Q E h
 obtain⟨b,d,g,rfl,d0,d1,b60,g0,g1,q⟩:=h
 have:=FJ (d:=d) (by omega)
 exact⟨⟨by omega,by omega,by omega⟩,⟨by omega,by omega,by omega⟩,by show 2<=sizeLine;decide,fun p hp=>q p hp⟩
theorem AY (K:cW)(A:Adr):Ln (mI K A) 5:=by rintro vs H Q E ⟨_,_,_,_,_,rfl,_⟩;rfl
theorem DV (T:Txt K mg A):Rd (mI K A) (Ir K A) ["bits","low","high","depth","begin","ends"]:=by
 intro vs H Q E h
 obtain⟨b,lo,hi,d,g,rfl,d0,d1,b60,g0,g1,q⟩:=h
 refine⟨b,d,g,rfl,d0,d1,b60,g0,g1,fun p hp=>?_⟩
 refine ixT (j:=0) af rfl rfl ?_
 have q:=q _ (ar.upd (o:=.tup [.int (g*2^(b- d).toNat),.int ((g+1)*2^(b- d).toNat- 1)]) hp)
 unfold nB at q
 refine Sel.mk (fun e=>ixT (j:=1) af rfl rfl ?_) (fun e=>?_)
 ·rw[e,Qv]at q;exact q
 ·rw[e,LW]at q;exact q
theorem ze (K:cW)(A:Adr):Ln (lP K A) 3:=by rintro vs H Q E ⟨_,_,_,rfl,_⟩;rfl
theorem DK (T:Txt K mg A):Rd (lP K A) (JA K A) ["bits","low","high"]:=by
 intro vs H Q E h
 obtain⟨b,lo,hi,rfl,e,q⟩:=h
 have k1:cn b (.int lo)=true:=decide_eq_true ⟨e.lo0,Int.lt_of_le_of_lt e.le e.hi1⟩
 have k2:cn b (.int hi)=true:=decide_eq_true ⟨Int.le_trans e.lo0 e.le,e.hi1⟩
 have b1:=e.b1
 have b60:=e.b60
 refine⟨b,.int lo,.int lo,rfl,by omega,b60,.int lo,Sel.no (by rw[k1];rfl) ⟨b,.int hi,.int hi,rfl,by omega,b60,.int hi,Sel.no (by rw[k2];rfl) ?_⟩⟩
 exact Sel.no (decide_eq_false (by have:=e.le;omega)) q
theorem sI {H:Hp}{g:gOp}{x:Addr}{t:Kn Str}{m:Key}(T:Txt K mg A)(k:KnA A H g x t m):∃C dx fs,H x=some (.ins C dx fs)/\Cls K C/\gN K C/\MF K (.ref C) (.ref A.c_Fork)=some (decide (kdK t=2)):=by
 obtain⟨dx,p,fs,o,_⟩:=k.ob
 cases t with
 |bare=>exact⟨_,dx,_,o,T.cl_Bare,T.oi_Bare,T.ko_Bare_Fork⟩
 |leaf _ _=>exact⟨_,dx,_,o,T.cl_Leaf,T.oi_Leaf,T.ko_Leaf_Fork⟩
 |fork _ _ _ _=>exact⟨_,dx,_,o,T.cl_Fork,T.oi_Fork,T.ko_Fork_Fork⟩
theorem Cj {x y:Int}(h0:0<=x)(h:x<2^64):Qr x y:=IntMulOk.of_left (sn (by omega))
theorem KnA.tup {H:Hp}{g:gOp}{x:Addr}{t:Kn Str}{m:Key}(k:KnA A H g x t m):∃dx p fs xs,H x=some (.ins (clK A t) dx (("term",.ref p)::("mark",kV m)::fs))/\H p=some (.tup xs):=by
 cases k with
 |bare o ht=>exact⟨_,_,_,_,o,ht⟩
 |leaf o ht=>exact⟨_,_,_,_,o,ht⟩
 |fork o hl hr ht=>exact⟨_,_,_,_,o,ht⟩
theorem zi (K:cW)(A:Adr):Ln (mV K A) 3:=by rintro vs H Q E ⟨_,_,_,_,_,rfl,_⟩;rfl
theorem HU (T:Txt K mg A):Rd (mV K A) (IN K A) ["bits","low","high"]:=by
 intro vs H Q E h
 obtain⟨b,v,w,d,e,rfl,b0,b60,hd,he,q⟩:=h
 refine⟨b,v,d,rfl,b0,b60,hd,?_⟩
 unfold cq at q
 cases h1:cn b d with
 |false=>rw[h1]at q;exact Sel.f q
 |true=>
  refine Sel.t ⟨b,w,e,rfl,b0,b60,he,?_⟩
  rw[h1]at q
  cases h2:cn b e with
  |false=>rw[h2]at q;exact Sel.f q
  |true=>
   rw[h2]at q
   cases hd<;>first|cases h1|skip
   cases he<;>first|cases h2|skip
   exact Sel.t q
theorem Bk (K:cW)(A:Adr)(n:Nat):Ln (gM K A n) 6:=by rintro vs H Q E ⟨_,_,_,_,_,_,_,_,_,rfl,_⟩;rfl
theorem wO (K:cW)(A:Adr):∀vs H Q E,¬gM K A 0 vs H Q E:=by
 rintro vs H Q E ⟨_,_,_,_,_,_,_,_,_,_,_,_,_,_,_,_,_,h,_⟩
 omega
theorem ED (T:Txt K mg A)(n:Nat):Rd (gM K A (n+1)) (JB K A n) ["bits","low","high","depth","begin","knot","left","right"]:=by
 intro vs H Q E h
 obtain⟨B,lo,hi,d,gg,x,g,t,m,rfl,B60,d0,d1,g0,g1,k,dp,hh,q⟩:=h
 refine⟨(B:Int),lo,hi,d,gg,rfl,d0,d1,by omega,g0,g1,fun H1 S1=>?_⟩
 have k1:=k.same S1
 cases hm:nB (B:Int) lo hi d gg with
 |false=>
  obtain⟨dx,p,fs,o,_⟩:=k1.ob
  refine Sel.yes rfl ⟨x,_,dx,_,_,rfl,o,(cu T t).1,(cu T t).2.1,rfl,aB (show 2<=1000000 by decide),fun r hr=>q _ _ _ (S1.trans (ar.upd hr)) af⟩
 |true=>
  refine Sel.no rfl ?_
  obtain⟨C,dz,fz,oz,c1,c2,c3⟩:=sI T k1
  refine⟨x,C,dz,fz,_,_,rfl,oz,c1,c2,c3,?_⟩
  obtain⟨dx,p,fs,xs,o,hp⟩:=k1.tup
  cases t with
  |bare=>
   refine Sel.yes rfl ⟨x,_,dx,_,_,rfl,o,(cu T .bare).1,(cu T .bare).2.2,rfl,q _ _ _ S1 hp⟩
  |leaf kk z=>
   refine Sel.yes rfl ⟨x,_,dx,_,_,rfl,o,(cu T (.leaf kk z)).1,(cu T (.leaf kk z)).2.2,rfl,q _ _ _ S1 hp⟩
  |fork e b tl tr=>
   obtain⟨l,r,ml,mr,fk,kl,kr⟩:=k1.fk
   obtain⟨dy,tp,mm,oy⟩:=fk
   obtain⟨p1,p2,p3,p4⟩:=dp
   have hh':max (hgt tl) (hgt tr)+1<n+1:=hh
   have pw:2^(e+1)=2*2^e:=by rw[Of,Nat.mul_comm]
   have z1:(2*(b:Int))<2^((e:Int)+1).toNat/\2*(b:Int)+1<2^((e:Int)+1).toNat:=by
    rw[show((e:Int)+1).toNat=e+1 by omega,<-gi];omega
   refine Sel.no rfl ⟨x,_,dy,_,_,rfl,oy,T.cl_Fork,T.na_Fork_depth,rfl,?_⟩
   refine⟨x,_,dy,_,_,rfl,oy,T.cl_Fork,T.na_Fork_begin,rfl,Cj (by decide) (by decide),x,_,dy,_,_,rfl,oy,T.cl_Fork,T.na_Fork_left,rfl,?_⟩
   refine⟨B,lo,hi,(e:Int)+1,2*(b:Int),l,g,tl,ml,rfl,B60,by omega,by omega,by omega,z1.1,kl,p3,by omega,fun v1 _ H2 S2 w1=>?_⟩
   have oy2:=S2 _ _ oy
   refine⟨x,_,dy,_,_,rfl,oy2,T.cl_Fork,T.na_Fork_depth,rfl,?_⟩
   refine⟨x,_,dy,_,_,rfl,oy2,T.cl_Fork,T.na_Fork_begin,rfl,Cj (by decide) (by decide),x,_,dy,_,_,rfl,oy2,T.cl_Fork,T.na_Fork_right,rfl,?_⟩
   refine⟨B,lo,hi,(e:Int)+1,2*(b:Int)+1,r,g,tr,mr,rfl,B60,by omega,by omega,by omega,z1.2,kr.same S2,p4,by omega,fun v2 _ H3 S3 w2=>?_⟩
   have oy3:=S3 _ _ oy2
   refine⟨x,_,dy,_,_,rfl,oy3,T.cl_Fork,T.na_Fork_depth,rfl,x,_,dy,_,_,rfl,oy3,T.cl_Fork,T.na_Fork_begin,rfl,aB (show 5<=1000000 by decide),fun u hu=>?_⟩
   have S4:=ar.upd (o:=.tup [.str "fork",.int (e:Int),.int (b:Int),V.ref v1,V.ref v2]) hu
   exact q _ _ _ (S1.trans (S2.trans (S3.trans S4))) af
theorem Ap (K:cW)(A:Adr):Ln (mY K A) 3:=by rintro vs H Q E ⟨_,_,_,_,_,_,_,_,rfl,_⟩;rfl
theorem En (T:Txt K mg A):Rd (mY K A) (JG K A) ["table","low","high"]:=by
 intro vs H Q E h
 obtain⟨x,f,g,B,t,m,lo,hi,rfl,ta,en,q⟩:=h
 obtain⟨dx,y,o,ky⟩:=ta.ob
 have B60:=ta.B60
 have hg:=(ta.wf.dp).2
 refine⟨x,_,dx,_,_,rfl,o,T.cl_Table,T.na_Table_bits,rfl,(B:Int),lo,hi,rfl,en,?_⟩
 refine⟨x,_,dx,_,_,rfl,o,T.cl_Table,T.na_Table_bits,rfl,x,_,dx,_,_,rfl,o,T.cl_Table,T.na_Table_top,rfl,?_⟩
 refine⟨B,lo,hi,0,0,y,g,t,m,rfl,B60,by decide,by omega,by decide,by decide,ky,(ta.wf.dp).1,by omega,fun v xs H1 S1 w=>q v xs H1 S1 w⟩
theorem AS (K:cW)(A:Adr):Ln (mF K A) 2:=by rintro vs H Q E ⟨x,f,g,B,t,m,k,rfl,_⟩;rfl
theorem GM (T:Txt K mg A):Rd (mF K A) (JC K A) ["table","key","steps","knot"]:=by
 intro vs H Q E h
 obtain⟨x,f,g,B,t,m,key,rfl,ta,hk,q⟩:=h
 obtain⟨dx,y0,o,ky⟩:=ta.ob
 have B60:=ta.B60
 refine⟨x,_,dx,_,_,rfl,o,T.cl_Table,T.na_Table_bits,rfl,(B:Int),.int (key:Int),.int (key:Int),rfl,by omega,by omega,.int _,?_⟩
 rw[gB hk]
 refine Sel.no rfl ⟨aB (n:=0) (by decide),fun D hD=>?_⟩
 have S0:=ar.upd (o:=.lst []) hD
 refine⟨x,_,dx,_,_,rfl,S0 _ _ o,T.cl_Table,T.na_Table_top,rfl,?_⟩
 have hg:=(ta.wf.dp).2
 refine⟨fun n σ H'=>∃(xs:List V)(u:Kn Str)(y:Addr)(mu:Key),n=hgt u/\σ=[some (.ref x),some (.int (key:Int)),some (.ref D),some (.ref y)]/\ar H H'/\H' D=some (.lst xs)/\xs.length+hgt u<=60/\KnA A H g y u mu/\ff B u,
  ⟨_,[],t,y0,m,rfl,rfl,S0,af,by show 0+_<=_;omega,ky,ta.wf.dp.1⟩,?_⟩
 rintro n σ H1 ⟨xs,u,y,mu,rfl,rfl,S1,hD1,xl,ku,dp⟩
 have o1:=S1 _ _ o
 have fin:aC (bv (ac (tCB (im K) (ac (ae 2) (ai))) (ac (aE K (ae 3) "term") (ai)))) {nx:=fun _ H'=>Q .non H',rt:=Q} [some (.ref x),some (.int (key:Int)),some (.ref D),some (.ref y)] H1:=by
  refine⟨D,xs,rfl,.inl ⟨SqL.of hD1,fun p hp=>?_⟩⟩
  have S2:=ar.upd (o:=.tup xs) hp
  obtain⟨dy,tp,fs,ts,oy,htp⟩:=ku.tup
  refine⟨y,_,dy,_,_,rfl,S2 _ _ (S1 _ _ oy),(cu T u).1,(cu T u).2.2,rfl,aB (show 2<=1000000 by decide),fun r hr=>?_⟩
  exact q r _ _ (S1.trans (S2.trans (ar.upd hr))) af
 obtain⟨C,dz,fz,oz,c1,c2,c3⟩:=sI T ku
 refine⟨y,C,dz,fz,_,_,rfl,S1 _ _ oz,c1,c2,c3,?_⟩
 cases u with
 |bare=>exact Sel.no rfl fin
 |leaf k z=>exact Sel.no rfl fin
 |fork d b tl tr=>
  refine Sel.yes rfl ?_
  obtain⟨l,r,ml,mr,fk,kl,kr⟩:=ku.fk
  have fk1:gp A H1 y d b l r:=let ⟨a,b,c,z⟩:=fk;⟨a,b,c,S1 _ _ z⟩
  obtain⟨dy,tp,mm,oy⟩:=id fk1
  refine⟨y,dy,_,rfl,oy,rfl,x,_,dx,_,_,rfl,o1,T.cl_Table,T.na_Table_bits,rfl,y,l,r,d,b,B,key,rfl,fk1,dp.1,?_⟩
  by_cases hb:st B key d=b
  ·rw[decide_eq_true hb]
   refine⟨fun σ' H'=>∃(xs:List V)(u:Kn Str)(y:Addr)(mu:Key),hgt u<hgt (Kn.fork d b tl tr)/\σ'=[some (.ref x),some (.int (key:Int)),some (.ref D),some (.ref y)]/\ar H H'/\H' D=some (.lst xs)/\xs.length+hgt u<=60/\KnA A H g y u mu/\ff B u,fun σ' H' ⟨xs',u',y',mu',hlt,cQ⟩=>⟨hgt u',hlt,xs',u',y',mu',rfl,cQ⟩,?_⟩
   have hgl:hgt tl<hgt (Kn.fork d b tl tr):=by show _<max _ _+1;omega
   have hgr:hgt tr<hgt (Kn.fork d b tl tr):=by show _<max _ _+1;omega
   have step:∀(z v:Addr)(tz tv:Kn Str)(mz mv:Key),KnA A H g z tz mz->KnA A H g v tv mv->hgt tv<hgt (Kn.fork d b tl tr)->ff B tv->(if sd B key d=0 then r else l)=z->(if sd B key d=0 then l else r)=v->
     ay (cI (tBM K "list" dZ (ae 2) (ac (bv (ac (aE K (ae 3) "depth") (ac (aE K (aK A.c_Fork "aside" (nF K A) (fun _=>E0) (ae 3) (ac (aE K (ae 0) "bits") (ac (ae 1) (ai)))) "mark") (ai)))) (ai)))) (aS (aK A.c_Fork "toward" (jm K A) (fun _=>E0) (ae 3) (ac (aE K (ae 0) "bits") (ac (ae 1) (ai)))) (aI 3)) {nx:=fun σ' H'=>∃(xs:List V)(u:Kn Str)(y:Addr)(mu:Key),hgt u<hgt (Kn.fork d b tl tr)/\σ'=[some (.ref x),some (.int (key:Int)),some (.ref D),some (.ref y)]/\ar H H'/\H' D=some (.lst xs)/\xs.length+hgt u<=60/\KnA A H g y u mu/\ff B u,rt:=Q} [some (.ref x),some (.int (key:Int)),some (.ref D),some (.ref y)] H1:=by
    intro z v tz tv mz mv kz kv hv dv ez ev
    obtain⟨dz,pz,fz,_,oz,_⟩:=kz.tup
    refine⟨.inl ⟨rfl,_,SqL.of hD1⟩,y,_,dy,_,_,rfl,oy,T.cl_Fork,T.na_Fork_depth,rfl,y,dy,_,rfl,oy,rfl,x,_,dx,_,_,rfl,o1,T.cl_Table,T.na_Table_bits,rfl,y,l,r,d,b,B,key,rfl,fk1,dp.1,?_⟩
    rw[ez]
    refine⟨z,_,dz,_,_,rfl,S1 _ _ oz,(cu T tz).1,(cu T tz).2.1,rfl,aB (show 2<=1000000 by decide),fun p hp=>?_⟩
    have S2:=ar.upd (o:=.tup [.int (d:Int),kV mz]) hp
    have hD2:=S2 _ _ hD1
    refine⟨D,xs,.ref p,rfl,rfl,hD2,eI (by omega),?_⟩
    have S12:=S1.trans S2
    generalize upd H1 p (.tup [.int (d:Int),kV mz])=H2 at S2 hD2 S12
    have S3:ar H (upd H2 D (.lst (xs++[.ref p]))):=fun a u ea=>by rw[am (ap ea hD)];exact S12 _ _ ea
    have fk3:gp A (upd H2 D (.lst (xs++[.ref p]))) y d b l r:=let ⟨a,b,c,z⟩:=fk;⟨a,b,c,S3 _ _ z⟩
    obtain⟨dy3,tp3,mm3,oy3⟩:=id fk3
    refine⟨y,dy3,_,rfl,oy3,rfl,x,_,dx,_,_,rfl,S3 _ _ o,T.cl_Table,T.na_Table_bits,rfl,y,l,r,d,b,B,key,rfl,fk3,dp.1,?_⟩
    rw[ev]
    exact⟨xs++[.ref p],tv,v,mv,hv,rfl,S3,af,by rw[KW];show _+1+_<=_;omega,kv,dv⟩
   by_cases e0:sd B key d=0
   ·exact step r l tr tl mr ml kr kl hgl dp.2.2.1 (if_pos e0) (if_pos e0)
   ·exact step l r tl tr ml mr kl kr hgr dp.2.2.2 (if_neg e0) (if_neg e0)
  ·rw[decide_eq_false hb]
   exact fin
section
variable {H H':Hp}{x f b:Addr}{g g':gOp}{n m B:Nat}{a:HA}{t:Kn Str}{ts:List (Kn Str)}{ys:List Addr}
theorem HoS.same (h:HoS A H x f b g n B a t ts ys)(S:ar H H')(hn:n<=m):HoS A H' x f b g m B a t ts ys:=⟨h.hs.same S hn,h.hd,h.s.same hn S⟩
theorem HoS.after {es:List Key}{kvs kvs':List (List Key×Key)}(h:HoS A H x f b g n B a t ts ys)(r:cX A H a.ro f a.L a.D es kvs)(le:es.length=ts.length)(k2:aN b a.D H H')(r':cM A H' a.ro f a.L a.D b es kvs' g' (n+200))(sub:Sub g g'):HoS A H' x f b g' (n+200) B a t ts ys:=by
 obtain⟨h,hd,s⟩:=h
 obtain⟨⟨n1,n2,n3,n4,n5⟩,⟨n6,n7,n8,n9⟩,⟨n10,n11,n12⟩,⟨n13,n14⟩,n15⟩:=hd.all
 obtain⟨kb,eb⟩:=s.bd
 have nk:NkS [b,a.D] H:=.bd s (.cons r.hd (fun q=>q.dT) .nil)
 have mu:MuS [b,a.D] H:=fun z hz=>by
  simp only[If,KO,or_false]at hz
  rcases hz with rfl|rfl
  ·exact⟨_,eb,.inl ⟨_,rfl⟩⟩
  ·exact⟨_,r.hd,.inl ⟨_,rfl⟩⟩
 obtain⟨m1,m2,m3⟩:=h.noX mu
 have km:KM [b,a.D] H H':=KM.k2 k2 (by simp) (by simp)
 have two:∀{z:Addr},z≠b->z≠a.D->z∉[b,a.D]:=fun h1 h2 q=>by
  simp only[If,KO,or_false]at q
  exact q.elim h1 h2
 obtain⟨m,ta⟩:=h.ta
 refine⟨⟨h.ob.km km m1,⟨m,ta.km km nk (two (KP n1) n7) sub⟩,⟨es,kvs',r'.r,le,r'.kl⟩,km _ _ (two (KP n4) (KP n13)) h.hm,h.tm.km km nk (fun y hy=>?_) sub,h.se.km km m3 (two (KP n5) (KP n14)) (by omega)⟩,hd,r'.s⟩
 obtain⟨i,hi⟩:=Nw.mp hy
 have hlt:i<ts.length:=by rw[<-h.tm.length];exact(KY.mp hi).1
 obtain⟨y',m',hy',ty⟩:=h.tm.get (KU hlt)
 rw[hi]at hy';cases hy'
 obtain⟨dy,y0,oy,_⟩:=ty.ob
 exact two (s.nb oy fun _ z=>nomatch z) (bu oy r.hd fun z=>nomatch z)
theorem HoS.dat (h:HoS A H x f b g n B a t ts ys)(k2:aN b a.D H H'):∀z o,H z=some o->sU o->H' z=some o:=fun z o e hd=>by
 obtain⟨es,kvs,r,_⟩:=h.hs.ro
 refine k2 z o (h.s.nb e fun kvs q=>?_) (bu e r.hd fun q=>?_) e
 ·subst q;rcases hd with⟨_,q⟩|⟨_,q⟩|⟨_,q⟩<;>cases q
 ·subst q;rcases hd with⟨_,q⟩|⟨_,q⟩|⟨_,q⟩<;>cases q
end
theorem okG {B n:Nat}{d e:Dat}:bI "growth" B n [d,e]=gq n d e:=by
 unfold bI
 exact if_pos rfl
theorem iW {B n:Nat}{d e:Dat}:bI "placed" B n [d,e]=dq n d e:=by
 unfold bI
 exact if_neg (by decide)
theorem sJ {us:List V}(h:us.length=2):∃v w,us=[v,w]:=L2.jE h
theorem AnR.no {z:Prop}{H:Hp}:AnR false z .non H:=⟨fun _=>rfl,fun h=>nomatch h⟩
theorem AnR.yes {z:Prop}{H:Hp}{p:Addr}{xs:List V}(h:H p=some (.tup xs))(hz:z->xs=[]):AnR true z (.ref p) H:=⟨nofun,fun _=>⟨p,xs,rfl,h,hz⟩⟩
theorem gG {n:Nat}{R:Nat->Nat->List Dat->V->Hp->Prop}:∀vs H Q E,oi A n R vs H Q E->vs.length=n+1:=by
 rintro vs H Q E ⟨x,f,b,g,N,B,a,t,ts,ys,us,ds,rfl,h,_⟩
 rw[LO,h]
theorem zq (K:cW)(A:Adr):∀vs H Q E,mi K A vs H Q E->vs.length=3:=gG
theorem BE (K:cW)(A:Adr):∀vs H Q E,iH K A vs H Q E->vs.length=3:=gG
theorem BJ (K:cW)(A:Adr):∀vs H Q E,mn K A vs H Q E->vs.length=4:=gG
theorem zw (K:cW)(A:Adr):∀vs H Q E,lM K A vs H Q E->vs.length=5:=gG
theorem FS (T:Txt K mg A):Rd (mi K A) (IQ K A) ["self","count","elder"]:=by
 intro vs H Q E h
 obtain⟨x,f,b,g,n,B,a,t,ts,ys,us,ds,rfl,hl,h,hn,dw,q⟩:=h
 obtain⟨v,w,rfl⟩:=sJ hl
 cases dw with
 |cons hd dw=>
 cases dw with
 |cons he dw=>
 cases dw with
 |nil=>
 rename_i d e
 obtain⟨dx,hx⟩:=h.hs.ob
 obtain⟨es,kvs,r,le,lk⟩:=h.hs.ro
 obtain⟨dr,hr⟩:=r.ob
 have n3:=h.hd.all.1.2.2.1
 dsimp only at q
 rw[okG]at q
 refine⟨x,_,dx,_,_,rfl,hx,T.cl_House,T.na_House_row,rfl,a.ro,dr,_,rfl,hr,rfl,a.ro,f,a.L,a.D,es,kvs,v,w,d,e,rfl,r,hd,he,?_⟩
 unfold gq at q
 rw[le]
 cases hE:(ck d e&&leD (ts.length:Int) d)with
 |false=>
  rw[hE]at q
  exact Sel.f (q .non g H aN.rfl' (h.same ar.rfl' (by omega)) Sub.rfl' AnR.no)
 |true=>
  rw[hE]at q
  exact Sel.t ⟨x,_,dx,_,_,rfl,hx,T.cl_House,T.na_House_row,rfl,a.ro,dr,_,rfl,hr,rfl,a.ro,f,a.L,a.D,b,es,kvs,g,n,v,w,d,e,rfl,⟨r,h.s,KP n3,lk⟩,by omega,hd,he,by rw[le];exact hE,
   fun p xs kvs' g' H' k2 r' sub hp z=>q (.ref p) g' H' k2 (h.after r le k2 r' sub) sub (AnR.yes hp fun c=>z (KN c.2))⟩
theorem FE (T:Txt K mg A):Rd (iH K A) (Iz K A) ["self","count","place"]:=by
 intro vs H Q E h
 obtain⟨x,f,b,g,n,B,a,t,ts,ys,us,ds,rfl,hl,h,hn,dw,q⟩:=h
 obtain⟨v,w,rfl⟩:=sJ hl
 cases dw with
 |cons hd dw=>
 cases dw with
 |cons he dw=>
 cases dw with
 |nil=>
 rename_i d e
 obtain⟨dx,hx⟩:=h.hs.ob
 obtain⟨es,kvs,r,le,lk⟩:=h.hs.ro
 obtain⟨dr,hr⟩:=r.ob
 have n3:=h.hd.all.1.2.2.1
 dsimp only at q
 rw[iW]at q
 refine⟨x,_,dx,_,_,rfl,hx,T.cl_House,T.na_House_row,rfl,a.ro,dr,_,rfl,hr,rfl,a.ro,f,a.L,a.D,es,kvs,v,w,d,e,rfl,r,hd,he,?_⟩
 unfold dq at q
 rw[le]
 cases hE:(cK d e&&leD (ts.length:Int) d)with
 |false=>
  rw[hE]at q
  exact Sel.f (q .non g H aN.rfl' (h.same ar.rfl' (by omega)) Sub.rfl' ⟨fun _=>rfl,fun z=>nomatch z⟩)
 |true=>
  rw[hE]at q
  exact Sel.t ⟨x,_,dx,_,_,rfl,hx,T.cl_House,T.na_House_row,rfl,a.ro,dr,_,rfl,hr,rfl,a.ro,f,a.L,a.D,b,es,kvs,g,n,v,w,d,e,rfl,⟨r,h.s,KP n3,lk⟩,by omega,hd,he,by rw[le];exact hE,
   fun P T y xs kvs' g' H' k2 r' sub hP hT=>q (.ref P) g' H' k2 (h.after r le k2 r' sub) sub ⟨nofun,fun _=>⟨P,T,y,xs,rfl,hP,hT⟩⟩⟩
theorem HoS.make {H:Hp}{x f b:Addr}{g:gOp}{n B:Nat}{a:HA}{t:Kn Str}{ts:List (Kn Str)}{ys:List Addr}{w:V}{d e:Dat}(h:HoS A H x f b g n B a t ts ys)(ok:dq ts.length d e=true)(he:aJ H w e):
  ∃(p:Nat)(y:Addr)(t':Kn Str)(m:Key),w=.int (p:Int)/\ys[p]?=some y/\TbA A H g y f B t' m:=by
 obtain⟨h1,h2⟩:=tx.mp ok
 obtain⟨c,p,rfl,rfl,pc,_⟩:=eO h1
 have hc:(c:Int)<=(ts.length:Int):=of_decide_eq_true h2
 obtain⟨y,m,hy,ty⟩:=h.hs.tm.get (KU (show p<ts.length by omega))
 exact⟨p,y,_,m,he.int_inv,hy,ty⟩
theorem DN (T:Txt K mg A):Rd (mn K A) (Jw K A) ["self","count","place","key","paper"]:=by
 intro vs H Q E h
 obtain⟨x,f,b,g,n,B,a,t,ts,ys,us,ds,rfl,hl,h,hn,dw,q⟩:=h
 obtain⟨v,w,k,rfl⟩:=L2.lD hl
 cases dw with
 |cons hd dw=>
 cases dw with
 |cons he dw=>
 cases dw with
 |cons hk dw=>
 cases dw with
 |nil=>
 rename_i d e dk
 obtain⟨dx,hx⟩:=h.hs.ob
 refine⟨x,dx,_,rfl,hx,rfl,x,f,b,g,n,B,a,t,ts,ys,[v,w],[d,e],rfl,rfl,h,hn,.cons hd (.cons he .nil),fun u g1 H1 k1 h1 sub1 pl=>?_⟩
 dsimp only at pl
 rw[iW]at pl
 replace q:∀(u:V)(g':List Key->Option Key)(H':Hp),aN b a.D H H'->HoS A H' x f b g' (n+200) B a t ts ys->Sub g g'->AnR (dq ts.length d e&&cn (B:Int) dk) False u H'->Q u H':=q
 have kd:=h.dat k1
 cases hP:dq ts.length d e with
 |false=>
  rw[hP]at pl q
  cases pl.1 rfl
  exact Sel.t (Sel.t (q .non g1 H1 k1 h1 sub1 AnR.no))
 |true=>
  rw[hP]at pl q
  obtain⟨P,T',y,xs,rfl,hP1,hT1⟩:=pl.2 rfl
  obtain⟨dx1,hx1⟩:=h1.hs.ob
  obtain⟨mt,ta⟩:=h1.hs.ta
  obtain⟨dt,yt,ot,_⟩:=ta.ob
  have b60:=ta.B60
  refine Sel.f ⟨x,_,dx1,_,_,rfl,hx1,T.cl_House,T.na_House_table,rfl,a.tb,_,dt,_,_,rfl,ot,T.cl_Table,T.na_Table_bits,rfl,(B:Int),k,dk,rfl,by omega,by omega,hk.keep kd,?_⟩
  cases hK:cn (B:Int) dk with
  |false=>
   rw[hK]at q
   exact Sel.t (q .non g1 H1 k1 h1 sub1 AnR.no)
  |true=>
   rw[hK]at q
   obtain⟨key,rfl,hk2⟩:=iA hK
   cases hk.int_inv
   obtain⟨p,z,t',m,rfl,hy,ty⟩:=h1.make hP (he.keep kd)
   refine Sel.f (ixT (j:=1) hP1 rfl rfl ⟨x,_,dx1,_,_,rfl,hx1,T.cl_House,T.na_House_makes,rfl,ixL h1.hs.hm rfl (by rw[LF,hy];rfl) ⟨z,f,g1,B,t',m,key,rfl,ty,hk2,fun r xs' H2 S2 hr=>⟨aB (show 2<=1000000 by decide),fun p2 hp2=>?_⟩⟩⟩)
   have S3:=S2.trans (ar.upd (o:=.tup [.ref T',.ref r]) hp2)
   exact q (.ref p2) g1 _ (k1.trans (aN.same S3)) (h1.same S3 (gV _)) sub1 (AnR.yes af fun z=>z.elim)
theorem GX (T:Txt K mg A):Rd (lM K A) (Ij K A) ["self","count","place","low","high","paper"]:=by
 intro vs H Q E h
 obtain⟨x,f,b,g,n,B,a,t,ts,ys,us,ds,rfl,hl,h,hn,dw,q⟩:=h
 obtain⟨v,w,k,l,rfl⟩:=L2.mE hl
 cases dw with
 |cons hd dw=>
 cases dw with
 |cons he dw=>
 cases dw with
 |cons hk dw=>
 cases dw with
 |cons hk2 dw=>
 cases dw with
 |nil=>
 rename_i d e dk dl
 obtain⟨dx,hx⟩:=h.hs.ob
 refine⟨x,dx,_,rfl,hx,rfl,x,f,b,g,n,B,a,t,ts,ys,[v,w],[d,e],rfl,rfl,h,hn,.cons hd (.cons he .nil),fun u g1 H1 k1 h1 sub1 pl=>?_⟩
 dsimp only at pl
 rw[iW]at pl
 replace q:∀(u:V)(g':List Key->Option Key)(H':Hp),aN b a.D H H'->HoS A H' x f b g' (n+200) B a t ts ys->Sub g g'->AnR (dq ts.length d e&&cq (B:Int) dk dl) False u H'->Q u H':=q
 have kd:=h.dat k1
 cases hP:dq ts.length d e with
 |false=>
  rw[hP]at pl q
  cases pl.1 rfl
  exact Sel.t (Sel.t (q .non g1 H1 k1 h1 sub1 AnR.no))
 |true=>
  rw[hP]at pl q
  obtain⟨P,T',y,xs,rfl,hP1,hT1⟩:=pl.2 rfl
  obtain⟨dx1,hx1⟩:=h1.hs.ob
  obtain⟨mt,ta⟩:=h1.hs.ta
  obtain⟨dt,yt,ot,_⟩:=ta.ob
  have b60:=ta.B60
  have b1:=ta.B1
  refine Sel.f ⟨x,_,dx1,_,_,rfl,hx1,T.cl_House,T.na_House_table,rfl,a.tb,_,dt,_,_,rfl,ot,T.cl_Table,T.na_Table_bits,rfl,(B:Int),k,l,dk,dl,rfl,by omega,by omega,hk.keep kd,hk2.keep kd,?_⟩
  cases hK:cq (B:Int) dk dl with
  |false=>
   rw[hK]at q
   exact Sel.t (q .non g1 H1 k1 h1 sub1 AnR.no)
  |true=>
   rw[hK]at q
   unfold cq at hK
   obtain⟨hK,hle⟩:=tx.mp hK
   obtain⟨hK1,hK2⟩:=tx.mp hK
   obtain⟨lo,rfl,lo2⟩:=iA hK1
   obtain⟨hi,rfl,hi2⟩:=iA hK2
   cases hk.int_inv
   cases hk2.int_inv
   have hle:(lo:Int)<=(hi:Int):=of_decide_eq_true hle
   have hi3:(hi:Int)<2^((B:Nat):Int).toNat:=(of_decide_eq_true hK2:0<=(hi:Int)/\(hi:Int)<2^((B:Nat):Int).toNat).2
   obtain⟨p,z,t',m,rfl,hy,ty⟩:=h1.make hP (he.keep kd)
   refine Sel.f (ixT (j:=1) hP1 rfl rfl ⟨x,_,dx1,_,_,rfl,hx1,T.cl_House,T.na_House_makes,rfl,ixL h1.hs.hm rfl (by rw[LF,hy];rfl) ⟨z,f,g1,B,t',m,(lo:Int),(hi:Int),rfl,ty,⟨by omega,by omega,by omega,hle,hi3⟩,fun r xs' H2 S2 hr=>⟨aB (show 2<=1000000 by decide),fun p2 hp2=>?_⟩⟩⟩)
   have S3:=S2.trans (ar.upd (o:=.tup [.ref T',.ref r]) hp2)
   exact q (.ref p2) g1 _ (k1.trans (aN.same S3)) (h1.same S3 (gV _)) sub1 (AnR.yes af fun z=>z.elim)
theorem fN {n:Nat}:∀vs H Q E,kf n vs H Q E->vs.length=n:=by rintro vs H Q E ⟨us,rfl,h,_⟩;exact h
theorem zv (K:cW)(A:Adr):∀vs H Q E,mO K A vs H Q E->vs.length=1:=fN
theorem Bx (K:cW)(A:Adr):∀vs H Q E,mG K A vs H Q E->vs.length=3:=fN
theorem CN (K:cW)(A:Adr):∀vs H Q E,lF K A vs H Q E->vs.length=3:=fN
theorem Ax (K:cW)(A:Adr):∀vs H Q E,mZ K A vs H Q E->vs.length=4:=fN
theorem zO (K:cW)(A:Adr):∀vs H Q E,mB K A vs H Q E->vs.length=5:=fN
theorem Ib (T:Txt K mg A)(vs:List V)(H:Hp)(Q:VK)(E:XK)(h:mO K A vs H Q E):Jr K A {nx:=fun _ H'=>Q .non H',rt:=Q} (L2.bV ["self"] vs) H:=let ⟨_,_,_,q⟩:=h;q
theorem ER (T:Txt K mg A)(vs:List V)(H:Hp)(Q:VK)(E:XK)(h:mG K A vs H Q E):Ja K A {nx:=fun _ H'=>Q .non H',rt:=Q} (L2.bV ["self","count","elder"] vs) H:=let ⟨_,_,_,q⟩:=h;q
theorem Hz (T:Txt K mg A)(vs:List V)(H:Hp)(Q:VK)(E:XK)(h:lF K A vs H Q E):JJ K A {nx:=fun _ H'=>Q .non H',rt:=Q} (L2.bV ["self","count","place"] vs) H:=let ⟨_,_,_,q⟩:=h;q
theorem GZ (T:Txt K mg A)(vs:List V)(H:Hp)(Q:VK)(E:XK)(h:mZ K A vs H Q E):Iw K A {nx:=fun _ H'=>Q .non H',rt:=Q} (L2.bV ["self","count","place","key"] vs) H:=let ⟨_,_,_,q⟩:=h;q
theorem FU (T:Txt K mg A)(vs:List V)(H:Hp)(Q:VK)(E:XK)(h:mB K A vs H Q E):Kg K A {nx:=fun _ H'=>Q .non H',rt:=Q} (L2.bV ["self","count","place","low","high"] vs) H:=let ⟨_,_,_,q⟩:=h;q
theorem Fo (T:Txt K mg A)(a0:V)(H:Hp)(Q:VK)(E:XK)(h:qU K A [a0] H Q E):Aq K A (dO ["_law_question"] [a0] []) H Q:=h.elim
theorem Dl (T:Txt K mg A)(a0 b0:V)(H:Hp)(Q:VK)(E:XK)(h:rc K A [a0,b0] H Q E):zN K A (dO ["_law_question","_law_gift"] [a0] [b0]) H Q:=by
 obtain⟨v,w,e,q⟩:=h
 cases e
 exact⟨aB (show 2<=1000000 by decide),q⟩
theorem Fz (T:Txt K mg A)(a0 b0:V)(H:Hp)(Q:VK)(E:XK)(h:qS K A [a0,b0] H Q E):An K A (dO ["_law_asked_here","_law_other"] [a0] [b0]) H Q:=by
 obtain⟨v,w,e,q⟩:=h
 cases e
 exact⟨aB (show 2<=1000000 by decide),q⟩
theorem rN {H H':Hp}{q:Addr}(hq:H' q=none):ar H' (bG [q] H H'):=fun z o e=>by
 rw[cb (fun hm=>by rw[KZ.mp hm,hq]at e;cases e)];exact e
theorem spk {H:Hp}{Q:VK}{f c p:Addr}{us:List V}{i:Bool}{v:V}{w:Str}(hc:dj H f (if i then dD else eD) [c] [v])(hp:H p=none)(q:SpQ H i v w us Q):sE (eQ K A) f [.ref p] (upd H p (.tup (.str w::us))) Q E0:=by
 have S:=ar.upd (o:=.tup (.str w::us)) hp
 have hp1:upd H p (.tup (.str w::us)) p=some (.tup (.str w::us)):=af
 generalize upd H p (.tup (.str w::us))=H1 at S hp1
 have hc1:=hc.keep fun z φ e=>S z _ e
 have fin:∀(r:Addr)(xs:List V),bM [c] H1 r=none->(∀z∈[c],upd (bM [c] H1) r (.tup xs) z=none)->xs=(if i then[.ref p,v]else[v,.ref p])->Q (.ref r) (bG [c] H1 (upd (bM [c] H1) r (.tup xs))):=fun r xs hr hz e=>by
  have S2:=ar.hide [c] (ar.upd (o:=.tup xs) hr)
  have Sb:=rN (H:=H1) (hz c (KZ.mpr rfl))
  exact q p r _ (S.trans S2) (S2 _ _ hp1) (by rw[<-e];exact Sb _ _ af)
 cases i with
 |true=>exact⟨_,mS m0,_,_,hc1,rfl,.ref p,v,rfl,fun r hr hz=>fin r _ hr hz rfl⟩
 |false=>exact⟨_,mS (mS m0),_,_,hc1,rfl,.ref p,v,rfl,fun r hr hz=>fin r _ hr hz rfl⟩
theorem nH {H:Hp}{f c:Addr}{i:Bool}{v:V}(hc:dj H f (if i then dD else eD) [c] [v]):∃ts∈eQ K A,∃cs cvs,dj H f ts.1 cs cvs:=by
 cases i with
 |true=>exact⟨_,mS m0,_,_,hc⟩
 |false=>exact⟨_,mS (mS m0),_,_,hc⟩
theorem BG (K:cW)(A:Adr):Ln (iF K A) 2:=by rintro vs H Q E ⟨x,dx,f,rfl,_⟩;rfl
theorem Dp (T:Txt K mg A):Rd (iF K A) (Jf K A) ["self","say"]:=by
 intro vs H Q E h
 obtain⟨x,dx,f,rfl,hx,q⟩:=h
 exact⟨x,_,dx,_,rfl,hx,T.cl_Spoken,T.na_Spoken_answerer,by decide,q⟩
theorem fE {n:Nat}{w:Str}:∀vs H Q E,kK A n w vs H Q E->vs.length=n+1:=by
 rintro vs H Q E ⟨x,us,i,v,rfl,h,_⟩
 rw[LO,h]
theorem AV (K:cW)(A:Adr):∀vs H Q E,jM K A vs H Q E->vs.length=1:=fE
theorem BV (K:cW)(A:Adr):∀vs H Q E,lJ K A vs H Q E->vs.length=3:=fE
theorem Ct (K:cW)(A:Adr):∀vs H Q E,lI K A vs H Q E->vs.length=3:=fE
theorem CW (K:cW)(A:Adr):∀vs H Q E,lG K A vs H Q E->vs.length=4:=fE
theorem BB (K:cW)(A:Adr):∀vs H Q E,lN K A vs H Q E->vs.length=5:=fE
theorem ET (T:Txt K mg A):Rd (jM K A) (Jq K A) ["self"]:=by
 intro vs H Q E h
 obtain⟨x,us,i,v,rfl,hl,⟨dx,f,c,hx,hc⟩,q⟩:=h
 obtain rfl:=L2.lE hl
 exact⟨x,dx,_,f,rfl,hx,rfl,nH hc,aB (show 1<=1000000 by decide),fun p hp=>spk hc hp q⟩
theorem Di (T:Txt K mg A):Rd (lJ K A) (Iq K A) ["self","count","elder"]:=by
 intro vs H Q E h
 obtain⟨x,us,i,v,rfl,hl,⟨dx,f,c,hx,hc⟩,q⟩:=h
 obtain⟨a1,a2,rfl⟩:=L2.jE hl
 exact⟨x,dx,_,f,rfl,hx,rfl,nH hc,aB (show 3<=1000000 by decide),fun p hp=>spk hc hp q⟩
theorem Hq (T:Txt K mg A):Rd (lI K A) (JV K A) ["self","count","place"]:=by
 intro vs H Q E h
 obtain⟨x,us,i,v,rfl,hl,⟨dx,f,c,hx,hc⟩,q⟩:=h
 obtain⟨a1,a2,rfl⟩:=L2.jE hl
 exact⟨x,dx,_,f,rfl,hx,rfl,nH hc,aB (show 3<=1000000 by decide),fun p hp=>spk hc hp q⟩
theorem EI (T:Txt K mg A):Rd (lG K A) (IR K A) ["self","count","place","key"]:=by
 intro vs H Q E h
 obtain⟨x,us,i,v,rfl,hl,⟨dx,f,c,hx,hc⟩,q⟩:=h
 obtain⟨a1,a2,a3,rfl⟩:=L2.lD hl
 exact⟨x,dx,_,f,rfl,hx,rfl,nH hc,aB (show 4<=1000000 by decide),fun p hp=>spk hc hp q⟩
theorem Hr (T:Txt K mg A):Rd (lN K A) (KC K A) ["self","count","place","low","high"]:=by
 intro vs H Q E h
 obtain⟨x,us,i,v,rfl,hl,⟨dx,f,c,hx,hc⟩,q⟩:=h
 obtain⟨a1,a2,a3,a4,rfl⟩:=L2.mE hl
 exact⟨x,dx,_,f,rfl,hx,rfl,nH hc,aB (show 5<=1000000 by decide),fun p hp=>spk hc hp q⟩
theorem Ay (K:cW)(A:Adr):Ln (eZ K A) 2:=by rintro vs H Q E ⟨l,q,w,us,rfl,_⟩;rfl
theorem PlR.an {ok:Bool}{z:Prop}{u:V}{H:Hp}(hz:¬z)(h:PlR ok u H):AnR ok z u H:=⟨h.1,fun e=>by
 obtain⟨P,T,y,xs,rfl,hP,_⟩:=h.2 e
 exact⟨P,_,rfl,hP,fun c=>absurd c hz⟩⟩
theorem AnR.z {ok:Bool}{z z':Prop}{u:V}{H:Hp}(hz:z'->z)(h:AnR ok z u H):AnR ok z' u H:=⟨h.1,fun e=>by
 obtain⟨P,xs,e1,e2,e3⟩:=h.2 e
 exact⟨P,xs,e1,e2,fun c=>e3 (hz c)⟩⟩
theorem Ic (T:Txt K mg A):Rd (eZ K A) (JK K A) ["_law_line","_law_question","_law_word"]:=by
 intro vs H Q E h
 obtain⟨l,q,w,us,rfl,hq,qu,cs⟩:=h
 refine ixL (j:=0) hq rfl rfl ?_
 cases qu with
 |gr a b=>
  refine Sel.yes (by decide) ?_
  rcases cs with⟨f,b',g,n,B,ad,t,ts,ys,ds,h,hn,dw,an⟩|⟨dx,hl,z⟩|⟨i,v,⟨dx,f,c,hx,hc⟩,sq⟩
  ·obtain⟨dx,hx⟩:=h.hs.ob
   exact⟨l,_,dx,_,_,rfl,hx,.tail _ (.tail _ (.head _)),rfl,ixL (j:=1) hq rfl rfl (ixL (j:=2) hq rfl rfl ⟨l,f,b',g,n,B,ad,t,ts,ys,_,ds,rfl,rfl,h,hn,dw,an⟩)⟩
  ·exact⟨l,_,dx,_,_,rfl,hl,.head _,rfl,ixL (j:=1) hq rfl rfl (ixL (j:=2) hq rfl rfl ⟨_,rfl,rfl,z⟩)⟩
  ·exact⟨l,_,dx,_,_,rfl,hx,.tail _ (.head _),rfl,ixL (j:=1) hq rfl rfl (ixL (j:=2) hq rfl rfl ⟨l,_,i,v,rfl,rfl,⟨dx,f,c,hx,hc⟩,sq⟩)⟩
 |pl a b=>
  refine Sel.no (by decide) (Sel.yes (by decide) ?_)
  rcases cs with⟨f,b',g,n,B,ad,t,ts,ys,ds,h,hn,dw,an⟩|⟨dx,hl,z⟩|⟨i,v,⟨dx,f,c,hx,hc⟩,sq⟩
  ·obtain⟨dx,hx⟩:=h.hs.ob
   exact⟨l,_,dx,_,_,rfl,hx,.tail _ (.tail _ (.head _)),rfl,ixL (j:=1) hq rfl rfl (ixL (j:=2) hq rfl rfl ⟨l,f,b',g,n,B,ad,t,ts,ys,_,ds,rfl,rfl,h,hn,dw,fun u g' H' k h' s p=>an u g' H' k h' s (p.an fun c=>absurd c.1 (by decide))⟩)⟩
  ·exact⟨l,_,dx,_,_,rfl,hl,.head _,rfl,ixL (j:=1) hq rfl rfl (ixL (j:=2) hq rfl rfl ⟨_,rfl,rfl,z⟩)⟩
  ·exact⟨l,_,dx,_,_,rfl,hx,.tail _ (.head _),rfl,ixL (j:=1) hq rfl rfl (ixL (j:=2) hq rfl rfl ⟨l,_,i,v,rfl,rfl,⟨dx,f,c,hx,hc⟩,sq⟩)⟩
 |fu a b k=>
  refine Sel.no (by decide) (Sel.no (by decide) (Sel.yes (by decide) ?_))
  rcases cs with⟨f,b',g,n,B,ad,t,ts,ys,ds,h,hn,dw,an⟩|⟨dx,hl,z⟩|⟨i,v,⟨dx,f,c,hx,hc⟩,sq⟩
  ·obtain⟨dx,hx⟩:=h.hs.ob
   exact⟨l,_,dx,_,_,rfl,hx,.tail _ (.tail _ (.head _)),rfl,ixL (j:=1) hq rfl rfl (ixL (j:=2) hq rfl rfl (ixL (j:=3) hq rfl rfl ⟨l,f,b',g,n,B,ad,t,ts,ys,_,ds,rfl,rfl,h,hn,dw,fun u g' H' k h' s p=>an u g' H' k h' s (p.z fun c=>absurd c.1 (by decide))⟩))⟩
  ·exact⟨l,_,dx,_,_,rfl,hl,.head _,rfl,ixL (j:=1) hq rfl rfl (ixL (j:=2) hq rfl rfl (ixL (j:=3) hq rfl rfl ⟨_,rfl,rfl,z⟩))⟩
  ·exact⟨l,_,dx,_,_,rfl,hx,.tail _ (.head _),rfl,ixL (j:=1) hq rfl rfl (ixL (j:=2) hq rfl rfl (ixL (j:=3) hq rfl rfl ⟨l,_,i,v,rfl,rfl,⟨dx,f,c,hx,hc⟩,sq⟩))⟩
 |st a b k k2=>
  refine Sel.no (by decide) (Sel.no (by decide) (Sel.no (by decide) ?_))
  rcases cs with⟨f,b',g,n,B,ad,t,ts,ys,ds,h,hn,dw,an⟩|⟨dx,hl,z⟩|⟨i,v,⟨dx,f,c,hx,hc⟩,sq⟩
  ·obtain⟨dx,hx⟩:=h.hs.ob
   exact⟨l,_,dx,_,_,rfl,hx,.tail _ (.tail _ (.head _)),rfl,ixL (j:=1) hq rfl rfl (ixL (j:=2) hq rfl rfl (ixL (j:=3) hq rfl rfl (ixL (j:=4) hq rfl rfl ⟨l,f,b',g,n,B,ad,t,ts,ys,_,ds,rfl,rfl,h,hn,dw,fun u g' H' k h' s p=>an u g' H' k h' s (p.z fun c=>absurd c.1 (by decide))⟩)))⟩
  ·exact⟨l,_,dx,_,_,rfl,hl,.head _,rfl,ixL (j:=1) hq rfl rfl (ixL (j:=2) hq rfl rfl (ixL (j:=3) hq rfl rfl (ixL (j:=4) hq rfl rfl ⟨_,rfl,rfl,z⟩)))⟩
  ·exact⟨l,_,dx,_,_,rfl,hx,.tail _ (.head _),rfl,ixL (j:=1) hq rfl rfl (ixL (j:=2) hq rfl rfl (ixL (j:=3) hq rfl rfl (ixL (j:=4) hq rfl rfl ⟨l,_,i,v,rfl,rfl,⟨dx,f,c,hx,hc⟩,sq⟩)))⟩
theorem CL {H:Hp}{a b:Addr}{o:HO}(h:upd H a o b=none):H b=none:=by
 by_cases e:b=a
 ·subst e;rw[af]at h;cases h
 ·rwa [am e]at h
theorem nD (i:Int):smD (.int i):=⟨rfl,Li 2⟩
theorem BY (K:cW)(A:Adr):Ln (iz K A) 2:=by rintro vs H Q E ⟨c,m,rfl,_⟩;rfl
theorem GH (T:Txt K mg A):Rd (iz K A) (Jb K A) ["_law_cell","_law_least","_law_number","_law_kind"]:=by
 intro vs H Q E h
 obtain⟨c,m,rfl,m0,q⟩:=h
 have k0:0<=c%8:=MA _ (by decide)
 have k8:c%8<8:=MO _ (by decide)
 refine⟨⟨by decide,by decide⟩,by decide,Sel.dec (fun h=>?_) (fun h=>?_)⟩
 ·have h:c%8<3:=h
  refine⟨by decide,⟨by decide,by decide,by decide⟩,by decide,aB (show 3<=1000000 by decide),fun p hp=>?_⟩
  have z5:0<=c/8%5:=MA _ (by decide)
  have z40:0<=c/8%(10^(40:Int).toNat):=MA _ (by decide)
  rcases(show c%8=0\/c%8=1\/c%8=2 by omega)with e|e|e
  ·exact ixL (j:=0) af e rfl (q _ (.int _) _ (ar.upd hp) (fun _ _=>.int _) (decide_eq_false fun z=>by omega) (nD _))
  ·exact ixL (j:=1) af e rfl (q _ (.int _) _ (ar.upd hp) (fun _ _=>.int _) (decide_eq_false fun z=>by omega) (nD _))
  ·exact ixL (j:=2) af e rfl (q _ (.int _) _ (ar.upd hp) (fun _ _=>.int _) (decide_eq_false fun z=>by omega) (nD _))
 refine Sel.dec (fun h2=>?_) (fun h2=>?_)
 ·have h:¬c%8<3:=h
  have h2:c%8<6:=h2
  refine⟨aB (show 3<=1000000 by decide),fun p hp=>?_⟩
  rcases(show c%8- 3=0\/c%8- 3=1\/c%8- 3=2 by omega)with e|e|e
  ·exact ixL (j:=0) af e rfl (q _ (.bl true) _ (ar.upd hp) (fun _ _=>.bl _) rfl ⟨rfl,Li 2⟩)
  ·exact ixL (j:=1) af e rfl (q _ .non _ (ar.upd hp) (fun _ _=>.non) rfl ⟨rfl,Li 2⟩)
  ·exact ixL (j:=2) af e rfl (q _ (.str "0") _ (ar.upd hp) (fun _ _=>.str _) rfl ⟨by decide+kernel,Li 2⟩)
 ·have h2:¬c%8<6:=h2
  refine⟨aB (show 1<=1000000 by decide),fun p1 hp1=>⟨aB (show 1<=1000000 by decide),fun p2 hp2=>⟨aB (show 2<=1000000 by decide),fun p3 hp3=>?_⟩⟩⟩
  have S3:=((ar.upd (o:=.tup [.int 0]) hp1).trans (ar.upd (o:=.lst [.int 0]) hp2)).trans (ar.upd (o:=.lst [.ref p1,.ref p2]) hp3)
  have d:(fj (.tup [.int 0])).depth<=2/\(fj (.lst [.int 0])).depth<=2:=by decide
  rcases(show c%8- 6=0\/c%8- 6=1 by omega)with e|e
  ·exact ixL (j:=0) af e rfl (q _ (.tup [.int 0]) _ S3 (fun _ k=>.tup (k _ _ hp1 (ar.upd hp3 _ _ (ar.upd hp2 _ _ af))) (.cons (.int 0) .nil)) rfl ⟨rfl,d.1⟩)
  ·exact ixL (j:=1) af e rfl (q _ (.lst [.int 0]) _ S3 (fun _ k=>.lst (k _ _ (CL hp2) (ar.upd hp3 _ _ af)) (.cons (.int 0) .nil)) rfl ⟨rfl,d.2⟩)
theorem zY (K:cW)(A:Adr):Ln (mX K A) 4:=by rintro vs H Q E ⟨c,many,B,k,o,rfl,_⟩;rfl
theorem GA (T:Txt K mg A):Rd (mX K A) (JF K A) ["_law_cell","_law_many","_law_key_here","_law_other","_law_count","_law_place"]:=by
 intro vs H Q E h
 obtain⟨c,many,B,k,o,rfl,m1,m5,kB,oB,q⟩:=h
 have c0:0<=c%(many:Int):=MA _ (by omega)
 have c1:c%(many:Int)<many:=MO _ (by omega)
 have p0:0<=c/(many:Int)%(1+c%(many:Int)):=MA _ (by omega)
 have p1:c/(many:Int)%(1+c%(many:Int))<1+c%(many:Int):=MO _ (by omega)
 obtain⟨pN,hp⟩:=LN p0
 obtain⟨cN,hc⟩:=LN (show 0<=1+c%(many:Int)by omega)
 have h1:cN<=many:=by omega
 have h2:pN<cN:=by omega
 refine⟨by omega,⟨by omega,by omega⟩,by omega,by decide,Sel.dec (fun _=>?_) (fun _=>⟨by decide,Sel.dec (fun _=>?_) (fun _=>⟨by decide,Sel.dec (fun _=>?_) (fun _=>?_)⟩)⟩)⟩
 ·have key:∀r,H r=none->Q (.ref r) (upd H r (.lst [.str "growth",.int (1+c%(many:Int)),.int (c/(many:Int)%(1+c%(many:Int)))])):=fun r hr=>by
   rw[hp,hc];exact q r _ [_,_] hr (.gr cN pN h1 h2)
  exact⟨aB (show 3<=1000000 by decide),key⟩
 ·have key:∀r,H r=none->Q (.ref r) (upd H r (.lst [.str "placed",.int (1+c%(many:Int)),.int (c/(many:Int)%(1+c%(many:Int)))])):=fun r hr=>by
   rw[hp,hc];exact q r _ [_,_] hr (.pl cN pN h1 h2)
  exact⟨aB (show 3<=1000000 by decide),key⟩
 ·have key:∀r,H r=none->Q (.ref r) (upd H r (.lst [.str "full",.int (1+c%(many:Int)),.int (c/(many:Int)%(1+c%(many:Int))),.int (k:Int)])):=fun r hr=>by
   rw[hp,hc];exact q r _ [_,_,_] hr (.fu cN pN k h1 h2 kB)
  exact⟨aB (show 4<=1000000 by decide),key⟩
 ·have key:∀r,H r=none->Q (.ref r) (upd H r (.lst [.str "stretch",.int (1+c%(many:Int)),.int (c/(many:Int)%(1+c%(many:Int))),.int (if (o:Int)<k then(o:Int)else k),.int (if (o:Int)>k then(o:Int)else k)])):=fun r hr=>by
   rw[hp,hc]
   by_cases l:o<k
   ·rw[if_pos (by omega),if_neg (by omega)];exact q r _ [_,_,_,_] hr (.st cN pN o k h1 h2 (by omega) kB)
   ·rw[if_neg (by omega)]
    by_cases l2:o=k
    ·subst l2;rw[if_neg (by omega)];exact q r _ [_,_,_,_] hr (.st cN pN o o h1 h2 (by omega) kB)
    ·rw[if_pos (by omega)];exact q r _ [_,_,_,_] hr (.st cN pN k o h1 h2 (by omega) oB)
  exact⟨aB (show 5<=1000000 by decide),key⟩
def ja (w:Str)(z0:Int)(many B:Nat):List Int:=[(many:Int)+1,if w="growth" then z0+1 else z0,2^B,2^B]
theorem GdQ.cons {B many:Nat}{w:Str}{zs:List Int}(h:GdQ B many w zs):∃z0 r,zs=z0::r/\1<=r.length/\r.length<=3/\0<=z0:=by
 cases h with
 |gr c p=>exact⟨_,_,rfl,by simp,by simp,by omega⟩
 |pl c p=>exact⟨_,_,rfl,by simp,by simp,by omega⟩
 |fu c p k=>exact⟨_,_,rfl,by simp,by simp,by omega⟩
 |st c p k l=>exact⟨_,_,rfl,by simp,by simp,by omega⟩
theorem zy {c:Nat}{d:Dat}{n:Nat}(h:inD ((c:Int)+1) d=false):gq n (.int (c:Int)) d=false:=by
 cases e:gq n (.int (c:Int)) d with
 |false=>rfl
 |true=>
  obtain⟨h1,_⟩:=tx.mp e
  obtain⟨c',p,e1,rfl,h2,_⟩:=fX h1
  have:=Dat.int.inj e1
  have z:¬(0<=(p:Int)/\(p:Int)<(c:Int)+1):=of_decide_eq_false h
  exact absurd ⟨by omega,by omega⟩ z
theorem yh {d e:Dat}{n:Nat}(h:inD ((n:Int)+1) d=false):gq n d e=false:=by
 cases ee:gq n d e with
 |false=>rfl
 |true=>
  obtain⟨h1,h3⟩:=tx.mp ee
  obtain⟨c',p,rfl,rfl,h2,_⟩:=fX h1
  have h3:(c':Int)<=(n:Int):=of_decide_eq_true h3
  have z:¬(0<=(c':Int)/\(c':Int)<(n:Int)+1):=of_decide_eq_false h
  exact absurd ⟨by omega,by omega⟩ z
theorem nV {c:Nat}{d:Dat}{n:Nat}(h:inD (c:Int) d=false):dq n (.int (c:Int)) d=false:=by
 cases e:dq n (.int (c:Int)) d with
 |false=>rfl
 |true=>
  obtain⟨h1,_⟩:=tx.mp e
  obtain⟨c',p,e1,rfl,h2,_⟩:=eO h1
  have:=Dat.int.inj e1
  have z:¬(0<=(p:Int)/\(p:Int)<(c:Int)):=of_decide_eq_false h
  exact absurd ⟨by omega,by omega⟩ z
theorem kg {d e:Dat}{n:Nat}(h:inD ((n:Int)+1) d=false):dq n d e=false:=by
 cases ee:dq n d e with
 |false=>rfl
 |true=>
  obtain⟨h1,h3⟩:=tx.mp ee
  obtain⟨c',p,rfl,rfl,h2,_⟩:=eO h1
  have h3:(c':Int)<=(n:Int):=of_decide_eq_true h3
  have z:¬(0<=(c':Int)/\(c':Int)<(n:Int)+1):=of_decide_eq_false h
  exact absurd ⟨by omega,by omega⟩ z
theorem kh {B:Nat}{d:Dat}(h:inD (2^B) d=false):cn (B:Int) d=false:=by
 cases d<;>first|rfl|skip
 exact h
theorem okF {B n:Nat}{d e k:Dat}:bI "full" B n [d,e,k]=(dq n d e&&cn (B:Int) k):=by unfold bI;exact rfl
theorem okS {B n:Nat}{d e k l:Dat}:bI "stretch" B n [d,e,k,l]=(dq n d e&&cq (B:Int) k l):=by unfold bI;exact rfl
theorem yr {B many j:Nat}{w:Str}{z0 l:Int}{r:List Int}{d:Dat}(gd:GdQ B many w (z0::r))(hl:(ja w z0 many B)[j]? =some l)(hj:j<r.length+1)(hd:inD l d=false):bI w B many (((z0::r).map Dat.int).set j d)=false:=by
 cases gd with
 |gr c p h1 h2=>
  have hj:j<2:=hj
  rcases(show j=0\/j=1 by omega)with rfl|rfl
  ·cases hl;show bI "growth" B many [d,.int (p:Int)]=false
   rw[okG];exact yh hd
  ·have hl:(if ("growth":Str)="growth" then(c:Int)+1 else c)=l:=KN hl
   rw[if_pos rfl]at hl;subst hl
   show bI "growth" B many [.int (c:Int),d]=false
   rw[okG];exact zy hd
 |pl c p h1 h2=>
  have hj:j<2:=hj
  rcases(show j=0\/j=1 by omega)with rfl|rfl
  ·cases hl;show bI "placed" B many [d,.int (p:Int)]=false
   rw[iW];exact kg hd
  ·have hl:(if ("placed":Str)="growth" then(c:Int)+1 else c)=l:=KN hl
   rw[if_neg (by decide)]at hl;subst hl
   show bI "placed" B many [.int (c:Int),d]=false
   rw[iW];exact nV hd
 |fu c p k h1 h2 h3=>
  have hj:j<3:=hj
  rcases(show j=0\/j=1\/j=2 by omega)with rfl|rfl|rfl
  ·have hl:(many:Int)+1=l:=KN hl
   subst hl;show bI "full" B many [d,.int (p:Int),.int (k:Int)]=false
   rw[okF,kg hd,LW]
  ·have hl:(if ("full":Str)="growth" then(c:Int)+1 else c)=l:=KN hl
   rw[if_neg (by decide)]at hl;subst hl
   show bI "full" B many [.int (c:Int),d,.int (k:Int)]=false
   rw[okF,nV hd,LW]
  ·have hl:(2:Int)^B=l:=KN hl
   subst hl;show bI "full" B many [.int (c:Int),.int (p:Int),d]=false
   rw[okF,kh hd,MG]
 |st c p k l' h1 h2 h3 h4=>
  have hj:j<4:=hj
  rcases(show j=0\/j=1\/j=2\/j=3 by omega)with rfl|rfl|rfl|rfl
  ·have hl:(many:Int)+1=l:=KN hl
   subst hl;show bI "stretch" B many [d,.int (p:Int),.int (k:Int),.int (l':Int)]=false
   rw[okS,kg hd,LW]
  ·have hl:(if ("stretch":Str)="growth" then(c:Int)+1 else c)=l:=KN hl
   rw[if_neg (by decide)]at hl;subst hl
   show bI "stretch" B many [.int (c:Int),d,.int (k:Int),.int (l':Int)]=false
   rw[okS,nV hd,LW]
  ·have hl:(2:Int)^B=l:=KN hl
   subst hl;show bI "stretch" B many [.int (c:Int),.int (p:Int),d,.int (l':Int)]=false
   rw[okS]
   unfold cq
   rw[kh hd,LW,LW,MG]
  ·have hl:(2:Int)^B=l:=KN hl
   subst hl;show bI "stretch" B many [.int (c:Int),.int (p:Int),.int (k:Int),d]=false
   rw[okS]
   unfold cq
   rw[kh hd,MG,LW,MG]
theorem iX (H:Hp):∀zs:List Int,DatWs H (zs.map V.int) (zs.map Dat.int)
 |[]=>.nil
 |z::r=>.cons (.int z) (iX H r)
theorem pf {H:Hp}{v:V}{d:Dat}(h:aJ H v d):∀{xs:List V}{ds:List Dat}{j:Nat},DatWs H xs ds->DatWs H (xs.set j v) (ds.set j d)
 |_,_,_,.nil=>.nil
 |_,_,0,.cons _ r=>.cons h r
 |_,_,j+1,.cons a r=>.cons a (pf h r)
theorem AQ {B many j:Nat}{w:Str}{zs:List Int}{v:V}(gd:GdQ B many w zs):Qu w ((zs.map V.int).set j v):=by
 have q2:∀{a b v:V}{j:Nat},∃a' b',[a,b].set j v=[a',b']:=fun{a b v j}=>by
  match j with
  |0=>exact⟨_,_,rfl⟩
  |1=>exact⟨_,_,rfl⟩
  |j+2=>exact⟨_,_,rfl⟩
 cases gd with
 |gr c p=>obtain⟨a,b,e⟩:=q2 (a:=V.int (c:Int)) (b:=V.int (p:Int)) (v:=v) (j:=j);show Qu _ (List.set [V.int (c:Int),V.int (p:Int)] j v);rw[e];exact .gr a b
 |pl c p=>obtain⟨a,b,e⟩:=q2 (a:=V.int (c:Int)) (b:=V.int (p:Int)) (v:=v) (j:=j);show Qu _ (List.set [V.int (c:Int),V.int (p:Int)] j v);rw[e];exact .pl a b
 |fu c p k=>
  match j with
  |0=>exact .fu _ _ _
  |1=>exact .fu _ _ _
  |2=>exact .fu _ _ _
  |j+3=>exact .fu _ _ _
 |st c p k l=>
  match j with
  |0=>exact .st _ _ _ _
  |1=>exact .st _ _ _ _
  |2=>exact .st _ _ _ _
  |3=>exact .st _ _ _ _
  |j+4=>exact .st _ _ _ _
theorem yd {w:Str}{z0 l:Int}{many B j:Nat}(h0:0<=z0)(h:(ja w z0 many B)[j]? =some l):0<=l:=by
 have p:(0:Int)<=2^B:=Int.pow_nonneg (by decide)
 match j with
 |0=>cases h;omega
 |1=>
  have h:(if w="growth" then z0+1 else z0)=l:=KN h
  by_cases e:w="growth"
  ·rw[if_pos e]at h;omega
  ·rw[if_neg e]at h;omega
 |2=>cases h;exact p
 |3=>cases h;exact p
 |j+4=>cases h
theorem Bd (K:cW)(A:Adr):Ln (lC K A) 4:=by rintro vs H Q E ⟨q,c,many,B,w,zs,rfl,_⟩;rfl
theorem Ef (T:Txt K mg A):Rd (lC K A) (IK K A) ["_law_good_here","_law_cell","_law_many","_law_bits","_law_bad_here","_law_at","_law_leasts"]:=by
 intro vs H Q E h
 obtain⟨q,c,many,B,w,zs,rfl,hq,gd,B60,m5,Qq⟩:=h
 obtain⟨z0,r,rfl,r1,r3,z00⟩:=gd.cons
 refine⟨q,_,rfl,.inl (SqL.of hq),fun L hL=>?_⟩
 have S1:=ar.upd (o:=.lst (.str w::(z0::r).map V.int)) hL
 have hL1:upd H L (.lst (.str w::(z0::r).map V.int)) L=some (.lst (.str w::(z0::r).map V.int)):=af
 generalize upd H L (.lst (.str w::(z0::r).map V.int))=H1 at S1 hL1
 have hq1:=S1 _ _ hq
 have ll:((.str w::(z0::r).map V.int:List V).length:Int)=(r.length:Int)+2:=by simp;omega
 have key:∀(z:Int)(j:Nat)(Le:Addr)(H3:Hp),z=(j:Int)+1->j<r.length+1->ar H1 H3->H3 Le=some (.lst ((ja w z0 many B).map V.int))->
   rA K A {nx:=fun _ H'=>Q .non H',rt:=Q} [some (.ref q),some (.int c),some (.int (many:Int)),some (.int (B:Int)),some (.ref L),some (.int z),some (.ref Le)] H3:=by
  intro z j Le H3 hz hj S3 hLe
  have lsl:(ja w z0 many B).length=4:=rfl
  obtain⟨l,hl⟩:∃l,(ja w z0 many B)[j]? =some l:=⟨_,KU (by omega)⟩
  refine⟨⟨by decide,by decide⟩,ixL (j:=j) hLe (by omega) (by rw[LF,hl];rfl) ⟨c/4,l,rfl,yd z00 hl,fun v d H4 S4 dv hin sm=>?_⟩⟩
  have hL4:=S4 _ _ (S3 _ _ hL1)
  have hq4:=S4 _ _ (S3 _ _ hq1)
  have qL:q≠L:=ap hq hL
  refine .inl ⟨L,_,z,j+1,rfl,rfl,hL4,by unfold ixN;rw[if_pos (by omega),if_pos (by rw[ll];omega)];congr 1;omega,?_⟩
  have hL5:upd H4 L (.lst ((.str w::(z0::r).map V.int).set (j+1) v)) L=some (.lst (.str w::((z0::r).map V.int).set j v)):=af
  have hq5:upd H4 L (.lst ((.str w::(z0::r).map V.int).set (j+1) v)) q=some (.lst (.str w::(z0::r).map V.int)):=by rw[am qL];exact hq4
  have S5:ar H (upd H4 L (.lst ((.str w::(z0::r).map V.int).set (j+1) v))):=fun x o e=>by rw[am (ap e hL)];exact S4 _ _ (S3 _ _ (S1 _ _ e))
  have dv5:aJ (upd H4 L (.lst ((.str w::(z0::r).map V.int).set (j+1) v))) v d:=dv _ fun x o e1 e2=>by
   rw[am (fun e=>by rw[e,S3 _ _ hL1]at e1;cases e1)];exact e2
  generalize upd H4 L (.lst ((.str w::(z0::r).map V.int).set (j+1) v))=H5 at hL5 hq5 S5 dv5
  have plain:Q (.ref L) H5:=Qq L _ _ H5 S5 hL5 (AQ gd) (pf dv5 (iX H5 (z0::r))) (yr gd hl hj hin)
  refine .inl (.inl ⟨_,SqL.of hq5,Sel.dec (fun h5=>?_) (fun _=>Sel.f plain)⟩)
  have h5:((.str w::(z0::r).map V.int:List V).length:Int)=5:=h5
  rw[ll]at h5
  cases gd with
  |gr c p=>simp at h5
  |pl c p=>simp at h5
  |fu c p k=>simp at h5
  |st cc p k l2 g1 g2 g3 g4=>
   refine ixL (j:=3) hq5 rfl rfl (ixL (j:=4) hq5 rfl rfl (Sel.dec (fun lt=>⟨by decide,Sel.dec (fun _=>?_) (fun _=>plain)⟩) (fun _=>Sel.f plain)))
   have lt:(k:Int)<(l2:Int):=lt
   refine⟨3,rfl,.inl (.inl ⟨q,_,rfl,SqL.of hq5,fun p1 hp1=>?_⟩)⟩
   have S6:=ar.upd (o:=.lst [.str "stretch",.int (cc:Int),.int (p:Int)]) hp1
   have hp6:upd H5 p1 (.lst [.str "stretch",.int (cc:Int),.int (p:Int)]) p1=some (.lst [.str "stretch",.int (cc:Int),.int (p:Int)]):=af
   have fin:∀H6,ar H5 H6->H6 p1=some (.lst [.str "stretch",.int (cc:Int),.int (p:Int)])->cC (ac (tOp (bw K) (ae 0) (tC (.int 4))) (ac (tOp (bw K) (ae 0) (tC (.int 3))) (ai))) [some (.ref q),some (.int c),some (.int (many:Int)),some (.int (B:Int)),some (.ref L),some (.int z),some (.ref Le)] H6 (fun y H7=>bX K (.ref p1) y H7 Q):=by
    intro H6 S6 hp6
    have hq6:=S6 _ _ hq5
    refine ixL (j:=4) hq6 rfl rfl (ixL (j:=3) hq6 rfl rfl ⟨aB (show 2<=1000000 by decide),fun p2 hp2=>.inl ⟨p1,p2,_,_,rfl,rfl,ar.upd hp2 _ _ hp6,af,aB (show 5<=1000000 by decide),fun p3 hp3=>?_⟩⟩)
    refine Qq p3 _ [.int (cc:Int),.int (p:Int),.int (l2:Int),.int (k:Int)] _ (S5.trans (S6.trans ((ar.upd hp2).trans (ar.upd hp3)))) af (.st _ _ _ _) (.cons (.int _) (.cons (.int _) (.cons (.int _) (.cons (.int _) .nil)))) ?_
    rw[okS]
    unfold cq
    dsimp only
    rw[decide_eq_false (by omega:¬(l2:Int)<=(k:Int)),MG,MG]
   exact fin _ S6 hp6
 have e2:(1:Int)*2^((B:Nat):Int).toNat=2^B:=by rw[OA,show((B:Nat):Int).toNat=B by omega]
 have hr:(0:Int)<(r.length:Int)+1:=by omega
 have at0:0<=c%((r.length:Int)+1):=MA _ (by omega)
 have at1:c%((r.length:Int)+1)<(r.length:Int)+1:=MO _ hr
 obtain⟨j,hj⟩:=LN at0
 have lm:((.str w::(z0::r).map V.int:List V).length:Int)- 1=(r.length:Int)+1:=by rw[ll];omega
 refine .inl (.inl ⟨_,SqL.of hq1,by rw[lm];exact hr,?_⟩)
 have hz:1+c%(((.str w::(z0::r).map V.int:List V).length:Int)- 1)=(j:Int)+1:=by rw[lm,hj];omega
 refine ixL (j:=1) hq1 rfl rfl ⟨⟨by omega,by omega,by decide⟩,⟨by omega,by omega,by decide⟩,aB (show 4<=1000000 by decide),fun Le hLe=>?_⟩
 have S2:=ar.upd (o:=.lst [.int ((many:Int)+1),.int z0,.int (1*2^((B:Nat):Int).toNat),.int (1*2^((B:Nat):Int).toNat)]) hLe
 have hLe2:upd H1 Le (.lst [.int ((many:Int)+1),.int z0,.int (1*2^((B:Nat):Int).toNat),.int (1*2^((B:Nat):Int).toNat)]) Le=some (.lst [.int ((many:Int)+1),.int z0,.int (2^B),.int (2^B)]):=by rw[af,e2]
 have hq2:=S2 _ _ hq1
 refine ixL (j:=0) hq2 rfl rfl ?_
 by_cases hw:w="growth"
 ·refine Sel.yes (decide_eq_true hw) (ixL (j:=1) hq2 rfl rfl (.inl ⟨Le,_,1,1,rfl,rfl,hLe2,rfl,?_⟩))
  refine key _ j Le _ hz (by omega) (fun x o e=>by rw[am (ap e hLe)];exact S2 _ _ e) ?_
  rw[af];unfold ja;rw[if_pos hw];rfl
 ·refine Sel.no (decide_eq_false hw) ?_
  refine key _ j Le _ hz (by omega) S2 ?_
  rw[hLe2];unfold ja;rw[if_neg hw];rfl
theorem xJ {H:Hp}{Q:VK}{p r:Addr}{d:Dat}(hp:aJ H (.ref p) d)(hr:aJ H (.ref r) d)(ok:okD d=true)(dp:(fj d).depth<=150)(q:Q (.bl false) H):og K (.ref p) (.ref r) H Q:=
 ⟨_,_,hp.toV ok,hr.toV ok,eF ok,eF ok,dp,by rw[On _ (eF ok)];exact q⟩
def sD (n:Nat)(d:Dat):Prop:=okD d=true/\(fj d).depth<=n
theorem sDs {n:Nat}:∀{ds:List Dat},(∀d∈ds,sD n d)->okDs ds=true/\MY (toPys ds)<=n
 |[],_=>⟨rfl,Li _⟩
 |d::r,h=>by
  obtain⟨h1,h2⟩:=h d Lj
  obtain⟨r1,r2⟩:=sDs (ds:=r) fun x hx=>h x (Lb _ hx)
  refine⟨?_,?_⟩
  ·show(okD d&&okDs r)=true
   rw[h1,r1];rfl
  ·show max (fj d).depth (MY (toPys r))<=n
   omega
theorem om {n:Nat}{ds:List Dat}(h:∀d∈ds,sD n d):sD (n+1) (.tup ds):=by
 obtain⟨h1,h2⟩:=sDs h
 exact⟨h1,show MY (toPys ds)+1<=n+1 by omega⟩
theorem sD.up {n m:Nat}{d:Dat}(h:sD n d)(hn:n<=m):sD m d:=⟨h.1,Ll h.2 hn⟩
def lS (i:Bool)(w:Str)(ds:List Dat)(d:Dat):Dat:=if i then .tup [.tup (.str w::ds),d]else .tup [d,.tup (.str w::ds)]
theorem gO {i:Bool}{w:Str}{ds:List Dat}{d:Dat}(hw:sD 2 (.str w))(hd:sD 2 d)(hs:∀x∈ds,sD 2 x):okD (lS i w ds d)=true/\(fj (lS i w ds d)).depth<=150:=by
 have h1:sD 3 (.tup (.str w::ds)):=om fun x hx=>by
  rcases If.mp hx with rfl|hx
  ·exact hw
  ·exact hs x hx
 have h2:=hd.up (show 2<=3 by decide)
 have h3:sD 4 (lS i w ds d):=by
  cases i with
  |true=>
   refine om (n:=3) fun x hx=>?_
   rcases If.mp hx with rfl|hx
   ·exact h1
   ·rw[KZ.mp hx];exact h2
  |false=>
   refine om (n:=3) fun x hx=>?_
   rcases If.mp hx with rfl|hx
   ·exact h2
   ·rw[KZ.mp hx];exact h1
 exact⟨h3.1,Ll h3.2 (by decide)⟩
theorem dQ {H:Hp}{i:Bool}{w:Str}{us:List V}{ds:List Dat}{v:V}{d:Dat}{p r:Addr}(hp:H p=some (.tup (.str w::us)))(hr:H r=some (.tup (if i then[.ref p,v]else[v,.ref p])))(hs:DatWs H us ds)(hd:aJ H v d):aJ H (.ref r) (lS i w ds d):=by
 have hP:aJ H (.ref p) (.tup (.str w::ds)):=.tup hp (.cons (.str w) hs)
 cases i with
 |true=>exact .tup hr (.cons hP (.cons hd .nil))
 |false=>exact .tup hr (.cons hd (.cons hP .nil))
theorem SpA.same {H H':Hp}{x:Addr}{i:Bool}{v:V}(h:SpA A H x i v)(S:ar H H'):SpA A H' x i v:=by
 obtain⟨dx,f,c,hx,hc⟩:=h
 exact⟨dx,f,c,S _ _ hx,hc.keep fun z φ e=>S z _ e⟩
theorem nO (w:Str)(h:w="growth"\/w="placed"\/w="full"\/w="stretch"\/w="newest"):sD 2 (.str w):=by
 have e:∀w:Str,okD (.str w)=true->sD 2 (.str w):=fun w h=>⟨h,Li 2⟩
 rcases h with rfl|rfl|rfl|rfl|rfl<;>exact e _ (by decide+kernel)
def QsA (H:Hp)(v:V)(d:Dat)(x:V):Prop:=∃(q:Addr)(w:Str)(us:List V)(ds:List Dat),x=.ref q/\H q=some (.lst (.str w::us))/\Qu w us/\DatWs H us ds/\(∀e∈ds,sD 2 e)/\sD 2 (.str w)
theorem QsA.same {H H':Hp}{v x:V}{d:Dat}(h:QsA H v d x)(S:ar H H'):QsA H' v d x:=by
 obtain⟨q,w,us,ds,e,hq,qu,dw,h1,h2⟩:=h
 exact⟨q,w,us,ds,e,S _ _ hq,qu,dw.mono S,h1,h2⟩
theorem CB (K:cW)(A:Adr):Ln (jL K A) 4:=by rintro vs H Q E ⟨x,y,v,w,d,e,rfl,_⟩;rfl
theorem Dd (T:Txt K mg A):Rd (jL K A) (JP K A) ["_law_first","_law_second","_law_gift","_law_other","_law_question","_law_due"]:=by
 intro vs H Q E h
 obtain⟨x,y,v,w,d,e,rfl,sx,sy,hv,hw,sd,se,q⟩:=h
 have i0:∀i:Int,sD 2 (.int i):=fun i=>⟨rfl,Li 2⟩
 refine⟨aB (show 3<=1000000 by decide),fun p1 hp1=>⟨aB (show 3<=1000000 by decide),fun p2 hp2=>⟨aB (show 4<=1000000 by decide),fun p3 hp3=>⟨aB (show 5<=1000000 by decide),fun p4 hp4=>⟨aB (show 4<=1000000 by decide),fun pL hpL=>⟨pL,rfl,.inl ⟨⟨_,SqL.of af⟩,?_⟩⟩⟩⟩⟩⟩⟩
 have S1:=ar.upd (o:=.lst [.str "growth",v,.int 0]) hp1
 have S2:=ar.upd (o:=.lst [.str "placed",.int 1,v]) hp2
 have S3:=ar.upd (o:=.lst [.str "full",.int 1,.int 0,v]) hp3
 have S4:=ar.upd (o:=.lst [.str "stretch",.int 1,v,.int 2,.int 3]) hp4
 have S5:=ar.upd (o:=.lst [.ref p1,.ref p2,.ref p3,.ref p4]) hpL
 have S:=S1.trans (S2.trans (S3.trans (S4.trans S5)))
 have two:∀{a b:Dat},sD 2 a->sD 2 b->∀x∈[a,b],sD 2 x:=fun h1 h2 x hx=>by
  rcases If.mp hx with rfl|hx
  ·exact h1
  ·rw[KZ.mp hx];exact h2
 have more:∀{a:Dat}{l:List Dat},sD 2 a->(∀x∈l,sD 2 x)->∀x∈a::l,sD 2 x:=fun h1 h2 x hx=>by
  rcases If.mp hx with rfl|hx
  ·exact h1
  ·exact h2 x hx
 have hq:∀z∈([.ref p1,.ref p2,.ref p3,.ref p4]:List V),QsA (upd (upd (upd (upd (upd H p1 (.lst [.str "growth",v,.int 0])) p2 (.lst [.str "placed",.int 1,v])) p3 (.lst [.str "full",.int 1,.int 0,v])) p4 (.lst [.str "stretch",.int 1,v,.int 2,.int 3])) pL (.lst [.ref p1,.ref p2,.ref p3,.ref p4])) v d z:=by
  have hv5:=hv.mono S
  intro z hz
  simp only[If,KO,or_false]at hz
  rcases hz with rfl|rfl|rfl|rfl
  ·exact⟨p1,_,_,_,rfl,S5 _ _ (S4 _ _ (S3 _ _ (S2 _ _ af))),.gr _ _,.cons hv5 (.cons (.int 0) .nil),two sd (i0 0),nO _ (by simp)⟩
  ·exact⟨p2,_,_,_,rfl,S5 _ _ (S4 _ _ (S3 _ _ af)),.pl _ _,.cons (.int 1) (.cons hv5 .nil),two (i0 1) sd,nO _ (by simp)⟩
  ·exact⟨p3,_,_,_,rfl,S5 _ _ (S4 _ _ af),.fu _ _ _,.cons (.int 1) (.cons (.int 0) (.cons hv5 .nil)),more (i0 1) (two (i0 0) sd),nO _ (by simp)⟩
  ·exact⟨p4,_,_,_,rfl,S5 _ _ af,.st _ _ _ _,.cons (.int 1) (.cons hv5 (.cons (.int 2) (.cons (.int 3) .nil))),more (i0 1) (more sd (two (i0 2) (i0 3))),nO _ (by simp)⟩
 have hL:upd (upd (upd (upd (upd H p1 (.lst [.str "growth",v,.int 0])) p2 (.lst [.str "placed",.int 1,v])) p3 (.lst [.str "full",.int 1,.int 0,v])) p4 (.lst [.str "stretch",.int 1,v,.int 2,.int 3])) pL (.lst [.ref p1,.ref p2,.ref p3,.ref p4]) pL=some (.lst [.ref p1,.ref p2,.ref p3,.ref p4]):=af
 generalize upd (upd (upd (upd (upd H p1 (.lst [.str "growth",v,.int 0])) p2 (.lst [.str "placed",.int 1,v])) p3 (.lst [.str "full",.int 1,.int 0,v])) p4 (.lst [.str "stretch",.int 1,v,.int 2,.int 3])) pL (.lst [.ref p1,.ref p2,.ref p3,.ref p4])=H1 at S hq hL
 clear S1 S2 S3 S4 S5
 refine jf (xs:=[.ref p1,.ref p2,.ref p3,.ref p4]) (fun i σ H'=>∃x4 x5,σ=[some (.ref x),some (.ref y),some v,some w,x4,x5]/\ar H1 H') ⟨none,none,rfl,ar.rfl'⟩ (fun i σ H' _ h=>?_) (fun i z σ H' hz h=>?_) (fun σ H' h=>?_)
 ·obtain⟨_,_,_,S'⟩:=h
  exact SqL.of (S' _ _ hL)
 ·obtain⟨x4,x5,rfl,S'⟩:=h
  obtain⟨qa,ww,us,ds,rfl,hqa,qu,dw,sds,sw⟩:=(hq z (LL hz)).same S'
  refine⟨qa,_,rfl,.inl ⟨SqL.of hqa,fun D hD=>?_⟩⟩
  have SD:=ar.upd (o:=.tup (.str ww::us)) hD
  have hD1:upd H' D (.tup (.str ww::us)) D=some (.tup (.str ww::us)):=af
  generalize upd H' D (.tup (.str ww::us))=H2 at SD hD1
  have S12:=S'.trans SD
  have SH2:=S.trans S12
  refine⟨x,qa,ww,us,rfl,SD _ _ hqa,qu,.inr (.inr ⟨true,v,sx.same SH2,fun p r H3 T3 hp hr=>?_⟩)⟩
  refine⟨aB (show 2<=1000000 by decide),fun r2 hr2=>?_⟩
  have T4:=ar.upd (o:=.tup [.ref D,v]) hr2
  have T04:=T3.trans T4
  have ok1:=gO (i:=true) sw sd sds
  refine xJ (dQ (i:=true) (T4 _ _ hp) (T4 _ _ hr) ((dw.mono SD).mono T04) (hv.mono (SH2.trans T04))) (dQ (i:=true) (T04 _ _ hD1) af ((dw.mono SD).mono T04) (hv.mono (SH2.trans T04))) ok1.1 ok1.2 (Sel.f ?_)
  have S4:=SH2.trans T04
  have hD4:=T04 _ _ hD1
  have hqa4:=T04 _ _ (SD _ _ hqa)
  have dw4:=(dw.mono SD).mono T04
  have S14:=S12.trans T04
  generalize upd H3 r2 (.tup [.ref D,v])=H4 at S4 hD4 hqa4 dw4 S14
  refine⟨y,qa,ww,us,rfl,hqa4,qu,.inr (.inr ⟨false,w,sy.same S4,fun p r H5 T5 hp hr=>?_⟩)⟩
  refine⟨aB (show 2<=1000000 by decide),fun r3 hr3=>?_⟩
  have T6:=ar.upd (o:=.tup [w,.ref D]) hr3
  have T46:=T5.trans T6
  have ok2:=gO (i:=false) sw se sds
  refine xJ (dQ (i:=false) (T6 _ _ hp) (T6 _ _ hr) (dw4.mono T46) (hw.mono (S4.trans T46))) (dQ (i:=false) (T46 _ _ hD4) af (dw4.mono T46) (hw.mono (S4.trans T46))) ok2.1 ok2.2 (Sel.f ?_)
  exact⟨_,_,rfl,S14.trans T46⟩
 ·obtain⟨x4,x5,rfl,S'⟩:=h
  have SH:=S.trans S'
  obtain⟨dx,f,c,hx,hc⟩:=sx.same SH
  have nn:sD 2 (.str "newest"):=nO _ (by simp)
  refine⟨x,dx,_,rfl,hx,rfl,x,[],true,v,rfl,rfl,⟨dx,f,c,hx,hc⟩,fun p r H3 T3 hp hr=>?_⟩
  refine⟨aB (show 1<=1000000 by decide),fun D hD=>⟨aB (show 2<=1000000 by decide),fun r2 hr2=>?_⟩⟩
  have TD:=ar.upd (o:=.tup [.str "newest"]) hD
  have T4:=ar.upd (o:=.tup [.ref D,v]) hr2
  have T04:=T3.trans (TD.trans T4)
  have ok1:=gO (i:=true) (ds:=[]) nn sd (fun _ h=>nomatch h)
  refine pU (dQ (i:=true) (ds:=[]) (T4 _ _ (TD _ _ hp)) (T4 _ _ (TD _ _ hr)) .nil (hv.mono (SH.trans T04))) (dQ (i:=true) (us:=[]) (ds:=[]) (T4 _ _ af) af .nil (hv.mono (SH.trans T04))) ok1.1 ok1.2 (Sel.t ?_)
  have S4:=SH.trans T04
  generalize upd (upd H3 D (.tup [.str "newest"])) r2 (.tup [.ref D,v])=H4 at S4
  obtain⟨dy,f',c',hy,hc'⟩:=sy.same S4
  refine⟨y,dy,_,rfl,hy,rfl,y,[],false,w,rfl,rfl,⟨dy,f',c',hy,hc'⟩,fun p r H5 T5 hp hr=>?_⟩
  refine⟨aB (show 1<=1000000 by decide),fun D hD=>⟨aB (show 2<=1000000 by decide),fun r3 hr3=>?_⟩⟩
  have TD:=ar.upd (o:=.tup [.str "newest"]) hD
  have T6:=ar.upd (o:=.tup [w,.ref D]) hr3
  have T56:=T5.trans (TD.trans T6)
  have ok2:=gO (i:=false) (ds:=[]) nn se (fun _ h=>nomatch h)
  exact pU (dQ (i:=false) (ds:=[]) (T6 _ _ (TD _ _ hp)) (T6 _ _ (TD _ _ hr)) .nil (hw.mono (S4.trans T56))) (dQ (i:=false) (us:=[]) (ds:=[]) (T6 _ _ af) af .nil (hw.mono (S4.trans T56))) ok2.1 ok2.2 (q _ (S4.trans T56))
theorem KM.none {l:List Addr}{H H':Hp}{z:Addr}(k:KM l H H')(hz:H' z=none)(h:z∉l):H z=none:=by
 cases e:H z with
 |none=>rfl
 |some o=>rw[k z o h e]at hz;cases hz
theorem yq {z b x y:Addr}(h1:z≠b)(h2:z≠x)(h3:z≠y):z∉[b,x,y]:=fun q=>by
 simp only[If,KO,or_false]at q
 exact q.elim h1 (Or.elim · h2 h3)
section
variable {H H':Hp}{g g':gOp}{f b:Addr}{n n' B i:Nat}{s:SA}{t t':Kn Str}{ts:List (Kn Str)}{kn kn':List (Nat×Str)}{l:List Addr}
theorem HsA.tab {x:Addr}{a:HA}{ys:List Addr}{m:Key}(h:HsA A H g x f n B a t ts ys)(hd:HaD b a ys)(st:Stp A H f b g n)(k:aN b a.tb H H')(ta:TbA A H' g' a.tb f B t' m)(sub:Sub g g')(hn:n<=n'):HsA A H' g' x f n' B a t' ts ys/\KM [b,a.tb] H H':=by
 obtain⟨⟨bt,bL,bD,bm,bs⟩,⟨tL,tD,tm,tsd⟩,_⟩:=hd.all
 obtain⟨m0,ta0⟩:=h.ta
 obtain⟨dt,yt,ot,_⟩:=ta0.ob
 obtain⟨dx,hx⟩:=h.ob
 obtain⟨es,kvs,r,le,lk⟩:=h.ro
 obtain⟨dr,hr⟩:=r.ob
 obtain⟨dsl,hsl⟩:=h.se.ob
 obtain⟨kb,eb⟩:=st.bd
 have km:KM [b,a.tb] H H':=KM.k2 k (by simp) (by simp)
 have nk:NkS [b,a.tb] H:=.bd st (.cons ot (fun k=>k.tab) .nil)
 have mu:MuS [b,a.tb] H:=fun z hz=>by
  simp only[If,KO,or_false]at hz
  rcases hz with rfl|rfl
  ·exact⟨_,eb,.inl ⟨_,rfl⟩⟩
  ·exact⟨_,ot,.inr (.inr (.inr ⟨_,_,_,_,_,rfl⟩))⟩
 obtain⟨m1,m2,m3⟩:=h.noX mu
 have e7:∀y∈ys,y∉[b,a.tb]:=fun y hy=>dJ (fun e=>h.tm.ne eb (fun _ _ _ z=>nomatch z) y hy e) (fun e=>hd.ny (e▸hy))
 exact⟨⟨h.ob.km km m1,⟨m,ta⟩,⟨es,kvs,r.km km m2 (dJ (KP bL) (KP tL)) (dJ (KP bD) (KP tD)),le,Ll lk hn⟩,km _ _ (dJ (KP bm) (KP tm)) h.hm,h.tm.km km nk e7 sub,h.se.km km m3 (dJ (KP bs) (KP tsd)) hn⟩,km⟩
end
theorem uT {H:Hp}{a f b:Addr}{g:gOp}{n B:Nat}{Q:VK}(s:Stp A H f b g n)(hn:n<=40000)(B1:1<=B)(B60:B<=60)
  (q:∀(x:Addr)(h:HA)(g':gOp)(H':Hp),KM [b] H H'->HsA A H' g' x f (n+5) B h .bare [] []->(∀z∈[x,h.tb,h.ro,h.L,h.D,h.ml,h.sl,h.sd],H z=none)->HaD b h []->Stp A H' f b g' (n+5)->Sub g g'->Q (.ref x) H'):
  (ac (ae 1) (ac (bY A.c_Seals (jx K A) (fun _=>E0) (ai)) (ai))) [some (.ref a),some (.int (B:Int)),none,none,none,none,none,none,none,none,none,none,none] H (fun vs H1=>∀x dx,H1 x=none->H1 dx=none->dx≠x->jZ K A (.ref x::.ref f::vs) (upd (upd H1 dx (.own x)) x (.ins A.c_House dx [])) (fun v H2=>v=.non/\Q (.ref x) H2) E0):=by
 intro sl dsl hsl hdsl ne1
 have S1:=bZ (o:=.own sl) (u:=.ins A.c_Seals dsl []) hsl hdsl ne1
 refine⟨sl,dsl,rfl,af,fun sd hsd=>⟨rfl,?_⟩⟩
 have S2:ar H (upd (upd (upd (upd H dsl (.own sl)) sl (.ins A.c_Seals dsl [])) sd (.dT [])) sl (.ins A.c_Seals dsl [("sealed",.ref sd)])):=fun z o e=>by
  rw[am (ap e hsl),am (ap (S1 _ _ e) hsd)];exact S1 _ _ e
 have sdsl:sd≠sl:=(bA hsd).1
 have sdH:H sd=none:=(bA (bA hsd).2).2
 have sdb:sd≠b:=by obtain⟨_,eb⟩:=s.bd;exact KP (ap (S1 _ _ eb) hsd)
 have se2:SeA A (upd (upd (upd (upd H dsl (.own sl)) sl (.ins A.c_Seals dsl [])) sd (.dT [])) sl (.ins A.c_Seals dsl [("sealed",.ref sd)])) sl sd n:=⟨⟨dsl,af⟩,⟨[],by rw[am sdsl];exact af,Li _⟩⟩
 generalize upd (upd (upd (upd H dsl (.own sl)) sl (.ins A.c_Seals dsl [])) sd (.dT [])) sl (.ins A.c_Seals dsl [("sealed",.ref sd)])=H2 at*
 intro x dx hx hdx ne
 have S:=bZ (o:=.own x) (u:=.ins A.c_House dx []) hx hdx ne
 have S3:=S2.trans S
 refine⟨x,dx,f,b,sl,sd,g,n,_,.int (B:Int),rfl,af,.int _,s.same (gV _) S3,hn,se2.km (l:=[]) (KM.same S) (nofun) (nofun) (gV _),sdb,fun hb=>?_,fun B' eB _ _ h g1 H1 k1 hs1 esl esd fr nd s1 sub1=>⟨rfl,?_⟩⟩
 ·rw[oo B1 B60]at hb;cases hb
 have eB:B'=B:=by have:=Dat.int.inj eB;omega
 subst eB
 have fr2:∀{z:Addr},H2 z=none->H z=none:=fun hz=>(KM.same (l:=[]) S2).none hz (nofun)
 have fr3:∀{z:Addr},upd (upd H2 dx (.own x)) x (.ins A.c_House dx []) z=none->H z=none:=fun hz=>(KM.same (l:=[]) S3).none hz (nofun)
 obtain⟨kvs0,esd0,_⟩:=se2.di
 have sd3:=S _ _ esd0
 obtain⟨kb,eb⟩:=s.bd
 have b3:=S3 _ _ eb
 have f1:=fr h.tb (by simp)
 have f2:=fr h.ro (by simp)
 have f3:=fr h.L (by simp)
 have f4:=fr h.D (by simp)
 have f5:=fr h.ml (by simp)
 refine q x h g1 H1 (fun z o zb e=>k1 z o (yq (fun w=>zb (by simp[w])) (ap (S2 _ _ e) hx) (ap e sdH)) (S3 _ _ e)) hs1 (fun z hz=>?_) ⟨?_,nofun⟩ s1 sub1
 ·simp only[If,KO,or_false]at hz
  rcases hz with rfl|rfl|rfl|rfl|rfl|rfl|rfl|rfl
  ·exact fr2 hx
  ·exact fr3 f1
  ·exact fr3 f2
  ·exact fr3 f3
  ·exact fr3 f4
  ·exact fr3 f5
  ·rw[esl];exact hsl
  ·rw[esd];exact sdH
 ·rw[esd]
  simp only[Lv,If,KO,or_false,not_or,not_false_eq_true,OH,and_true]at nd⊢
  obtain⟨⟨_,n1,n2,n3⟩,_,⟨n4,n5⟩,n6⟩:=nd
  have nb:∀{z:Addr},upd (upd H2 dx (.own x)) x (.ins A.c_House dx []) z=none->b≠z:=fun hz=>ap b3 hz
  have ns:∀{z:Addr},upd (upd H2 dx (.own x)) x (.ins A.c_House dx []) z=none->z≠sd:=fun hz=>KP (ap sd3 hz)
  exact⟨⟨nb f1,nb f3,nb f4,nb f5,KP sdb⟩,⟨n1,n2,n3,ns f1⟩,⟨n4,n5,ns f3⟩,⟨n6,ns f4⟩,ns f5⟩
def muH (b:Addr)(h:HA):List Addr:=[b,h.tb,h.L,h.D,h.ml,h.sd]
section
variable {H H':Hp}{x f b z:Addr}{g g':gOp}{n m B:Nat}{a:HA}{t:Kn Str}{ts:List (Kn Str)}{ys:List Addr}
theorem HoS.at' (h:HoS A H x f b g n B a t ts ys):∀z∈muH b a,∃o,H z=some o:=fun z hz=>by
 obtain⟨es,kvs,r,_⟩:=h.hs.ro
 obtain⟨mm,ta⟩:=h.hs.ta
 obtain⟨dt,yt,ot,_⟩:=ta.ob
 obtain⟨kvs2,di,_⟩:=h.hs.se.di
 obtain⟨kb,eb⟩:=h.s.bd
 simp only[muH,If,KO,or_false]at hz
 rcases hz with rfl|rfl|rfl|rfl|rfl|rfl
 ·exact⟨_,eb⟩
 ·exact⟨_,ot⟩
 ·exact⟨_,r.hl⟩
 ·exact⟨_,r.hd⟩
 ·exact⟨_,h.hs.hm⟩
 ·exact⟨_,di⟩
theorem HoS.new (h:HoS A H x f b g n B a t ts ys)(hz:H z=none):z∉muH b a:=fun q=>by
 obtain⟨o,e⟩:=h.at' z q
 rw[e]at hz;cases hz
theorem KM.k2m (k:aN b a.D H H'):KM (muH b a) H H':=KM.k2 k (by simp[muH]) (by simp[muH])
theorem HoS.tbl {P:Addr}{ps:Array pv}(h:HoS A H x f b g n B a t ts ys)(hP:H P=some (.tbl ps))(k:KM [P] H H'):HoS A H' x f b g n B a t ts ys:=by
 obtain⟨es,kvs,r,le,lk⟩:=h.hs.ro
 obtain⟨dr,hr⟩:=r.ob
 obtain⟨mm,ta⟩:=h.hs.ta
 obtain⟨dt,yt,ot,_⟩:=ta.ob
 obtain⟨dx,hx⟩:=h.hs.ob
 obtain⟨kvs2,di,_⟩:=h.hs.se.di
 obtain⟨dsl,hsl⟩:=h.hs.se.ob
 have nk:NkS [P] H:=.cons hP (fun q=>by rcases q with⟨_,q⟩|⟨_,_,_,_,_,q⟩<;>cases q) .nil
 have ne:∀{z:Addr}{o:HO},H z=some o->(∀ps,o≠.tbl ps)->z∉[P]:=fun e q=>aD (bu e hP (q _))
 refine⟨h.hs.km k nk Sub.rfl' (gV _) (ne hx (fun _ z=>nomatch z)) (ne ot (fun _ z=>nomatch z)) (ne hr (fun _ z=>nomatch z)) (ne r.hl (fun _ z=>nomatch z)) (ne r.hd (fun _ z=>nomatch z)) (ne h.hs.hm (fun _ z=>nomatch z)) (fun y hy=>aD (h.hs.tm.ne hP (fun _ _ _ z=>nomatch z) y hy)) (h.hs.se.km k (ne hsl (fun _ z=>nomatch z)) (ne di (fun _ z=>nomatch z)) (gV _)),h.hd,h.s.keep (gV _) fun z o e hz=>k z o (ne e fun ps q=>?_) e⟩
 subst q
 rcases hz with⟨_,q⟩|⟨_,_,q⟩|⟨_,_,_,q⟩<;>cases q
structure LwH (A:Adr)(H0 H:Hp)(x f b:Addr)(B:Nat)(a:HA)(k:Nat):Prop where
 w:∃g n t ts ys,HoS A H x f b g n B a t ts ys/\n<=5+300*k/\(bo t).length<=k/\ts.length=k
 km:KM (muH b a) H0 H
end
theorem Gc {D:eS}{H:Hp}{x f b q0 q1:Addr}{g:List Key->Option Key}{n B:Nat}{h:HA}{t:Kn Str}{ts:List (Kn Str)}{ys:List Addr}{x0 x1 x3 x4 x5 x6 x7 x8 x9 x10 x11 x12:Option V}(w:HoS A H x f b g n B h t ts ys)(hn:n<=40000)(q:∀σ H',D.rt σ (.bl true) H'):
  pA K A q0 q1 D [x0,x1,some (.ref x),x3,x4,x5,x6,x7,x8,x9,x10,x11,x12] H:=by
 have e1:gq ts.length (.int 0) (.int 0)=true:=by
  unfold gq
  rw[show(Dat.int 0)=.int ((0:Nat):Int)from rfl,ji (gV 0) (by decide)]
  exact decide_eq_true (show((0:Nat):Int)<=(ts.length:Int)by omega)
 have e2:dq ts.length (.int 0) (.int 0)=false:=by
  cases e:dq ts.length (.int 0) (.int 0)with
  |false=>rfl
  |true=>
   obtain⟨h1,_⟩:=tx.mp e
   obtain⟨c,p,a1,a2,lt,_⟩:=eO h1
   have:=Dat.int.inj a1
   have:=Dat.int.inj a2
   omega
 refine⟨aB (show 3<=1000000 by decide),fun p1 hp1=>⟨x,p1,"growth",[.int 0,.int 0],rfl,af,.gr _ _,.inl ⟨f,b,g,n,B,h,t,ts,ys,[.int 0,.int 0],w.same (ar.upd hp1) (gV _),by omega,.cons (.int 0) (.cons (.int 0) .nil),fun u g2 H2 k2 w2 s2 an=>?_⟩⟩⟩
 rw[okG]at an
 obtain⟨p,xs,rfl,hp,hz⟩:=an.2 e1
 cases hz ⟨rfl,rfl⟩
 refine⟨Li _,fun p2 hp2=>?_⟩
 refine pU (d:=.tup []) (.tup (ar.upd hp2 _ _ hp) .nil) (.tup af .nil) rfl (by decide) (Sel.t ?_)
 have w3:=w2.same (ar.upd (o:=.tup []) hp2) (gV _)
 refine⟨aB (show 3<=1000000 by decide),fun p3 hp3=>⟨x,p3,"placed",[.int 0,.int 0],rfl,af,.pl _ _,.inl ⟨f,b,g2,n+200,B,h,t,ts,ys,[.int 0,.int 0],w3.same (ar.upd hp3) (gV _),by omega,.cons (.int 0) (.cons (.int 0) .nil),fun u g4 H4 k4 w4 s4 an=>?_⟩⟩⟩
 rw[iW]at an
 cases an.1 e2
 exact q _ _
structure kD (H:Hp)(x:Addr)(A:Adr)(t:cD)(c:Addr):Prop where
 at':∃dx f k,H x=some (.ins A.c_Spoken dx [("answerer",.ref f)])/\H f=some (dG f t [c] k)/\H k=some (dm k t.qual)
theorem kD.keep {H H':Hp}{x c:Addr}{t:cD}(h:kD H x A t c)(k:∀z o,H z=some o->(∀ps,o≠.tbl ps)->H' z=some o):kD H' x A t c:=by
 obtain⟨dx,f,c',h1,h2,h3⟩:=h
 exact⟨dx,f,c',k _ _ h1 (fun _ z=>nomatch z),k _ _ h2 (fun _ z=>nomatch z),k _ _ h3 (fun _ z=>nomatch z)⟩
theorem Bz {D:eS}{H:Hp}{x f b q0 q1 s1 s2:Addr}{g:gOp}{n B:Nat}{h:HA}{t:Kn Str}{ts:List (Kn Str)}{ys:List Addr}{x0 x1 x3 x4 x5 x6 x7 x8:Option V}{v v2:V}{d e:Dat}(ne:q0≠q1)(w:HoS A H x f b g n B h t ts ys)(hn:n<=40000)(c1:kD H s1 A dD q0)(c2:kD H s2 A eD q1)(dv:aJ H v d)(de:aJ H v2 e)(sd:smD d)(se:smD e)(q:∀σ H',D.rt σ (.bl true) H'):
  oU K A q0 q1 D [x0,x1,some (.ref x),x3,x4,x5,x6,x7,x8,some v,some v2,some (.ref s1),some (.ref s2)] H:=by
 refine⟨fun p hp=>?_,fun hN=>?_⟩
 ·simp only[If,KO,or_false]at hp
  rcases hp with rfl|rfl
  ·exact⟨v,rfl⟩
  ·exact⟨v2,rfl⟩
 have n0:H q0=none:=hN (9,q0) (by simp)
 have n1:H q1=none:=hN (10,q1) (by simp)
 have S1:=ar.upd (o:=bH q0 v) n0
 have m1:upd H q0 (bH q0 v) q1=none:=by rw[am (KP ne)];exact n1
 have S2:=ar.upd (o:=bH q1 v2) m1
 have S:=S1.trans S2
 have a0:upd (upd H q0 (bH q0 v)) q1 (bH q1 v2) q0=some (bH q0 v):=by rw[am ne,af]
 have a1:upd (upd H q0 (bH q0 v)) q1 (bH q1 v2) q1=some (bH q1 v2):=af
 show jL K A _ (upd (upd H q0 (bH q0 v)) q1 (bH q1 v2)) _ E0
 generalize upd (upd H q0 (bH q0 v)) q1 (bH q1 v2)=H1 at S a0 a1
 obtain⟨dx,f1,k1,h1,h2,h3⟩:=c1
 obtain⟨dy,f2,k2,g1,g2,g3⟩:=c2
 refine⟨s1,s2,v,v2,d,e,rfl,⟨dx,f1,q0,S _ _ h1,⟨k1,S _ _ h2,S _ _ h3⟩,.cons a0 .nil⟩,⟨dy,f2,q1,S _ _ g1,⟨k2,S _ _ g2,S _ _ g3⟩,.cons a1 .nil⟩,dv.mono S,de.mono S,sd,se,fun H2 T2=>⟨fun p hp u hu=>?_,Sel.f ?_⟩⟩
 ·simp only[If,KO,or_false]at hp
  rcases hp with rfl|rfl
  ·cases hu;exact T2 _ _ a0
  ·cases hu;exact T2 _ _ a1
 ·have S3:ar H (bM [q0,q1] H2):=fun z o ez=>by
   rw[bS fun hz=>by
    simp only[If,KO,or_false]at hz
    rcases hz with rfl|rfl
    ·rw[n0]at ez;cases ez
    ·rw[n1]at ez;cases ez]
   exact T2 _ _ (S _ _ ez)
  exact Gc (q0:=q0) (q1:=q1) (w.same S3 (gV _)) hn q
theorem qI {H:Hp}{P c f x dx:Addr}{t:cD}{cs:List Addr}{ps ps2:Array pv}(hP:H P=some (.tbl ps))(hc:H c=none)(hf:H f=none)(ncf:c≠f)
  (hx:upd (upd (upd H P (.tbl ps2)) c (dm c t.qual)) f (dG f t cs c) x=none)(hdx:upd (upd (upd H P (.tbl ps2)) c (dm c t.qual)) f (dG f t cs c) dx=none)(ne:dx≠x){H':Hp}(eH:H'=upd (upd (upd (upd (upd (upd H P (.tbl ps2)) c (dm c t.qual)) f (dG f t cs c)) dx (.own x)) x (.ins A.c_Spoken dx [])) x (.ins A.c_Spoken dx [("answerer",.ref f)])):
  KM [P] H H'/\H' P=some (.tbl ps2)/\H' x=some (.ins A.c_Spoken dx [("answerer",.ref f)])/\H' f=some (dG f t cs c)/\H' c=some (dm c t.qual):=by
 have cP:=dR hP hc
 have fP:=dR hP hf
 obtain⟨xf,hx1⟩:=bA hx
 obtain⟨xc,hx2⟩:=bA hx1
 obtain⟨xP,hx3⟩:=bA hx2
 obtain⟨df,hd1⟩:=bA hdx
 obtain⟨dc,hd2⟩:=bA hd1
 obtain⟨dP,hd3⟩:=bA hd2
 subst eH
 refine⟨fun z o zn e=>?_,?_,af,?_,?_⟩
 ·have zP:z≠P:=fun q=>zn (by simp[q])
  have zx:=ap e hx3
  rw[am zx,am zx,am (ap e hd3),am (ap e hf),am (ap e hc),am zP];exact e
 ·rw[am (KP xP),am (KP xP),am (KP dP),am (KP fP),am (KP cP),af]
 ·rw[am (KP xf),am (KP xf),am (KP df),af]
 ·rw[am (KP xc),am (KP xc),am (KP dc),am ncf,af]
theorem KM.nt {P:Addr}{ps:Array pv}{H H':Hp}(k:KM [P] H H')(hP:H P=some (.tbl ps)):∀z o,H z=some o->(∀ps,o≠.tbl ps)->H' z=some o:=fun z o e n=>k z o (aD (bu e hP (n _))) e
theorem aJ.nt {P:Addr}{ps:Array pv}{H H':Hp}{v:V}{d:Dat}(h:aJ H v d)(k:KM [P] H H')(hP:H P=some (.tbl ps)):aJ H' v d:=h.keep fun z o e hd=>k.nt hP z o e fun ps q=>by
 subst q;rcases hd with⟨_,q⟩|⟨_,q⟩|⟨_,q⟩<;>cases q
theorem Hy (T:Txt K mg A){D:eS}{H:Hp}{x f b q0 q1 c0:Addr}{g:gOp}{n B:Nat}{h:HA}{t:Kn Str}{ts:List (Kn Str)}{ys:List Addr}{x0 x1 x3 x4 x5 x6 x7 x8:Option V}{v v2:V}{d e:Dat}(ne:q0≠q1)(w:HoS A H x f b g n B h t ts ys)(hn:n<=40000)(tl:H A.t_78=some (.tbl #[rawInt ((502:Nat):Int),rawInt ((65:Nat):Int),.ref c0]))(dv:aJ H v d)(de:aJ H v2 e)(sd:smD d)(se:smD e)(q:∀σ H',D.rt σ (.bl true) H'):
  so K A q0 q1 D [x0,x1,some (.ref x),x3,x4,x5,x6,x7,x8,some v,some v2,none,none] H:=by
 refine⟨_,tl,by trivial,.inl ⟨rfl,fun c f1 hc hf ncf s1 dx hs1 hdx nd=>⟨s1,dx,_,rfl,af,rfl,?_⟩⟩⟩
 obtain⟨k1,tl1,a1,a2,a3⟩:=qI (A:=A) tl hc hf ncf hs1 hdx nd rfl
 have w1:=w.tbl tl k1
 have dv1:=dv.nt k1 tl
 have de1:=de.nt k1 tl
 generalize upd (upd (upd (upd (upd (upd H A.t_78 _) c (dm c dD.qual)) f1 (dG f1 dD [q0] c)) dx (.own s1)) s1 (.ins A.c_Spoken dx [])) s1 (.ins A.c_Spoken dx [("answerer",.ref f1)])=H1 at k1 tl1 a1 a2 a3 w1 dv1 de1⊢
 refine⟨_,tl1,by trivial,.inl ⟨rfl,fun c' f2 hc' hf' ncf' s2 dx' hs2 hdx' nd'=>⟨s2,dx',_,rfl,af,rfl,?_⟩⟩⟩
 obtain⟨k2,tl2,b1,b2,b3⟩:=qI (A:=A) tl1 hc' hf' ncf' hs2 hdx' nd' rfl
 have w2:=w1.tbl tl1 k2
 have dv2:=dv1.nt k2 tl1
 have de2:=de1.nt k2 tl1
 have c1:kD H1 s1 A dD q0:=⟨dx,f1,c,a1,a2,a3⟩
 exact Bz ne w2 hn (c1.keep (k2.nt tl1)) ⟨dx',f2,c',b1,b2,b3⟩ dv2 de2 sd se q
theorem yN (ns:List Int)(lo hi:Option Int):∃ms:List Int,fI (ns.map V.int) lo hi=ms.map V.int/\ms.length<=ns.length:=by
 unfold fI
 rw[<-List.map_drop,<-List.map_take]
 exact⟨_,rfl,by rw[MU,Og];omega⟩
theorem xR {B many:Nat}{w:Str}{zs:List Int}(gd:GdQ B many w zs):Qu w (zs.map V.int):=by
 cases gd with
 |gr c p=>exact .gr _ _
 |pl c p=>exact .pl _ _
 |fu c p k=>exact .fu _ _ _
 |st c p k l=>exact .st _ _ _ _
theorem qG {c p many:Nat}(h1:c<=many)(h2:p<c)(h3:many<=5):dq many (.int (c:Int)) (.int (p:Int))=true:=by
 unfold dq
 rw[uw h2 (by omega)]
 exact decide_eq_true (show(c:Int)<=(many:Int)by omega)
theorem Do {B many:Nat}{w:Str}{zs:List Int}(gd:GdQ B many w zs)(h3:many<=5):bI w B many (zs.map Dat.int)=true:=by
 cases gd with
 |gr c p h1 h2=>
  show bI "growth" B many [.int (c:Int),.int (p:Int)]=true
  rw[okG]
  unfold gq
  rw[ji (MT h2) (by omega)]
  exact decide_eq_true (show(c:Int)<=(many:Int)by omega)
 |pl c p h1 h2=>
  show bI "placed" B many [.int (c:Int),.int (p:Int)]=true
  rw[iW];exact qG h1 h2 h3
 |fu c p k h1 h2 hk=>
  show bI "full" B many [.int (c:Int),.int (p:Int),.int (k:Int)]=true
  rw[okF,qG h1 h2 h3,gB hk];rfl
 |st c p k l h1 h2 hk hl=>
  show bI "stretch" B many [.int (c:Int),.int (p:Int),.int (k:Int),.int (l:Int)]=true
  rw[okS,qG h1 h2 h3]
  unfold cq
  rw[gB (LK hk hl),gB hl]
  exact decide_eq_true (show(k:Int)<=(l:Int)by omega)
theorem re {H H':Hp}{a b:Addr}{h:HA}{xs:List V}(s:SqL K H a xs)(na:(∀H',SqL K H' a xs)\/a∉muH b h)(k:KM (muH b h) H H'):SqL K H' a xs:=by
 rcases na with na|na
 ·exact na H'
 ·rcases s with(e|⟨o,e⟩)|e
  ·exact .inl (.inl (k _ _ na e))
  ·exact .inl (.inr ⟨o,k _ _ na e⟩)
  ·exact .inr e
theorem BU (T:Txt K mg A){D:eS}{H:Hp}{a x f b q0 q1 c0 pl dpl:Addr}{ns:List Int}{g:gOp}{n B many:Nat}{h:HA}{t:Kn Str}{ts:List (Kn Str)}{ys:List Addr}{x4:Option V}(ne:q0≠q1)(w:HoS A H x f b g n B h t ts ys)(hn:n<=2000)(B1:1<=B)(B60:B<=60)(m1:1<=many)(m5:many<=5)(tm:ts.length=many)
  (sq:SqL K H a (ns.map V.int))(ln:ns.length<=63)(na:(∀H',SqL K H' a (ns.map V.int))\/a∉muH b h)(hpl:H pl=some (.ins A.c_Line dpl []))(np:pl∉muH b h)(tl:H A.t_78=some (.tbl #[rawInt ((502:Nat):Int),rawInt ((65:Nat):Int),.ref c0]))(nt:A.t_78∉muH b h)(q:∀σ H',D.rt σ (.bl true) H'):
  sP K A q0 q1 D [some (.ref a),some (.int (B:Int)),some (.ref x),some (.int (many:Int)),x4,some (.ref pl),none,none,none,none,none,none,none] H:=by
 refine⟨3,rfl,33,rfl,.inl (.inl ⟨a,_,rfl,sq,fun L hL=>⟨L,rfl,.inl ⟨⟨_,SqL.of af⟩,?_⟩⟩⟩)⟩
 obtain⟨ms,em,lm⟩:=yN ns (some 3) (some 33)
 rw[em]
 have S1:=ar.upd (o:=.lst (ms.map V.int)) hL
 have hL1:upd H L (.lst (ms.map V.int)) L=some (.lst (ms.map V.int)):=af
 have nL:=w.new hL
 generalize upd H L (.lst (ms.map V.int))=H1 at S1 hL1
 refine jf (xs:=ms.map V.int) (fun i σ H'=>∃(x6 x7 x8:Option V)(g':gOp)(n':Nat),σ=[some (.ref a),some (.int (B:Int)),some (.ref x),some (.int (many:Int)),x4,some (.ref pl),x6,x7,x8,none,none,none,none]/\HoS A H' x f b g' n' B h t ts ys/\n'<=2000+400*i/\KM (muH b h) H1 H')
  ⟨none,none,none,g,n,rfl,w.same S1 (gV _),by omega,KM.same ar.rfl'⟩ (fun i σ H' _ h=>?_) (fun i z σ H' hz hv=>?_) (fun σ H' hv=>?_)
 ·obtain⟨_,_,_,_,_,_,_,_,km⟩:=h
  exact SqL.of (km _ _ nL hL1)
 ·obtain⟨x6,x7,x8,g1,n1,rfl,w1,hn1,km⟩:=hv
  obtain⟨c,hc,rfl⟩:=kP hz
  have hi:=(KY.mp hc).1
  refine⟨⟨by decide,by decide⟩,c/5,B,rfl,B1,B60,fun k1 hk1=>⟨⟨by decide,by decide⟩,c/35,B,rfl,B1,B60,fun k2 hk2=>⟨c,many,B,k1,k2,rfl,m1,m5,hk1,hk2,fun qa ww zs hqa gd=>?_⟩⟩⟩
  have S2:=ar.upd (o:=.lst (.str ww::zs.map V.int)) hqa
  have hqa2:upd H' qa (.lst (.str ww::zs.map V.int)) qa=some (.lst (.str ww::zs.map V.int)):=af
  have nq:=w1.new hqa
  generalize upd H' qa (.lst (.str ww::zs.map V.int))=H2 at S2 hqa2
  refine⟨⟨by decide,by decide⟩,qa,c/3,many,B,ww,zs,rfl,hqa2,gd,B60,m5,fun r us ds H3 S3 hr qu dws no=>?_⟩
  have w3:=w1.same (S2.trans S3) (gV _)
  refine⟨x,r,ww,us,rfl,hr,qu,.inl ⟨f,b,g1,n1,B,h,t,ts,ys,ds,w3,by omega,dws,fun u g4 H4 k4 w4 s4 an=>?_⟩⟩
  rw[tm]at an
  cases an.1 no
  have hqa4:=KM.k2m k4 _ _ nq (S3 _ _ hqa2)
  refine Sel.f ⟨x,qa,ww,_,rfl,hqa4,xR gd,.inl ⟨f,b,g4,n1+200,B,h,t,ts,ys,zs.map Dat.int,w4,by omega,iX H4 zs,fun u g5 H5 k5 w5 s5 an5=>?_⟩⟩
  rw[tm]at an5
  obtain⟨p,xs,rfl,hp,_⟩:=an5.2 (Do gd m5)
  have ty:tyN H5 (.ref p)=some "tuple":=by unfold tyN;dsimp only;rw[hp]
  have K5:KM (muH b h) H1 H5:=((km.trans (KM.same (S2.trans S3))).trans (KM.k2m k4)).trans (KM.k2m k5)
  have hqa5:=KM.k2m k5 _ _ nq hqa4
  have hpl5:=K5 _ _ np (S1 _ _ hpl)
  refine⟨by decide,"tuple",ty,Sel.no rfl ⟨pl,qa,ww,_,rfl,hqa5,xR gd,.inr (.inl ⟨dpl,hpl5,Sel.f ⟨pl,dpl,_,rfl,hpl5,rfl,_,rfl,rfl,Sel.f ?_⟩⟩)⟩⟩
  exact⟨_,_,_,g5,n1+200+200,rfl,w5,by omega,K5⟩
 ·obtain⟨x6,x7,x8,g1,n1,rfl,w1,hn1,km⟩:=hv
  rw[Lq]at hn1
  have sq1:SqL K H' a (ns.map V.int):=re (SqL.kl sq (KL.same S1)) na km
  refine⟨a,ns,3,rfl,sq1,by decide,fun z=>⟨z,4,rfl,by decide,fun v d H6 S6 dn _ sm=>?_⟩⟩
  refine⟨a,ns,4,rfl,SqL.kl sq1 (KL.same S6),by decide,fun z2=>⟨z2,7,rfl,by decide,fun v2 d2 H7 S7 dn2 _ sm2=>?_⟩⟩
  exact Hy T ne (w1.same (S6.trans S7) (gV _)) (by omega) (S7 _ _ (S6 _ _ (km _ _ nt (S1 _ _ tl)))) ((dn H6 fun z o _ e=>e).mono S7) (dn2 H7 fun z o _ e=>e) sm sm2 q
theorem Ht (T:Txt K mg A){D:eS}{H:Hp}{a x f b q0 q1:Addr}{ns:List Int}{g:gOp}{n B many:Nat}{h:HA}{t:Kn Str}{ts:List (Kn Str)}{ys:List Addr}{x4:Option V}(ne:q0≠q1)(w:HoS A H x f b g n B h t ts ys)(hn:n<=2000)(B1:1<=B)(B60:B<=60)(m1:1<=many)(m5:many<=5)(tm:ts.length=many)
  (sq:SqL K H a (ns.map V.int))(ln:ns.length<=63)(na:(∀H',SqL K H' a (ns.map V.int))\/a∉muH b h)(tl:H A.t_78=some (.tbl #[]))(nt:A.t_78∉muH b h)(q:∀σ H',D.rt σ (.bl true) H'):
  rB K A q0 q1 D [some (.ref a),some (.int (B:Int)),some (.ref x),some (.int (many:Int)),x4,none,none,none,none,none,none,none,none] H:=by
 intro pl dpl hpl hdpl ne1
 have S1:=bZ (o:=.own pl) (u:=.ins A.c_Line dpl []) hpl hdpl ne1
 have hpl1:upd (upd H dpl (.own pl)) pl (.ins A.c_Line dpl []) pl=some (.ins A.c_Line dpl []):=af
 have np:=w.new hpl
 generalize upd (upd H dpl (.own pl)) pl (.ins A.c_Line dpl [])=H1 at S1 hpl1
 have w1:=w.same S1 (gV n)
 have tl1:=S1 _ _ tl
 obtain⟨dx,hx⟩:=w1.hs.ob
 refine⟨x,_,dx,_,_,true,rfl,hx,T.cl_House,T.oi_House,T.ko_House_Line,Sel.f ?_⟩
 refine⟨_,tl1,by trivial,.inl ⟨rfl,fun c f1 hc hf ncf s1 ds hs1 hds nd=>⟨s1,ds,_,rfl,af,rfl,?_⟩⟩⟩
 obtain⟨k1,tl2,a1,a2,a3⟩:=qI (A:=A) tl1 hc hf ncf hs1 hds nd rfl
 have w2:=w1.tbl tl1 k1
 have nt1:=k1.nt tl1
 generalize upd (upd (upd (upd (upd (upd H1 A.t_78 _) c (dm c fb.qual)) f1 (dG f1 fb [] c)) ds (.own s1)) s1 (.ins A.c_Spoken ds [])) s1 (.ins A.c_Spoken ds [("answerer",.ref f1)])=H2 at k1 tl2 a1 a2 a3 w2 nt1⊢
 refine⟨s1,_,ds,_,_,true,rfl,a1,T.cl_Spoken,T.oi_Spoken,T.ko_Spoken_Line,Sel.f ?_⟩
 refine BU T ne w2 hn B1 B60 m1 m5 tm (SqL.kl (SqL.kl sq (KL.same S1)) fun z o e ho=>nt1 z o e fun ps e2=>?_) ln na (nt1 _ _ hpl1 (fun _ z=>nomatch z)) np tl2 nt q
 subst e2;rcases ho with⟨_,e2⟩|⟨_,_,e2⟩<;>cases e2
theorem zd (K:cW)(A:Adr):Ln (my K A) 1:=by rintro vs H Q E ⟨a,ns,rfl,_⟩;rfl
theorem EQ (T:Txt K mg A){D:eS}{H:Hp}{a q0 q1:Addr}{ns:List Int}(nd:([q0,q1]:List Addr).Nodup)(hs:SqL K H a (ns.map V.int))(ln:ns.length<=63)(tabs:xE A H)(q:∀σ H',D.rt σ (.bl true) H'):
  vG K A q0 q1 D (L2.bV ["_law_script","_law_bits","_law_house","_law_many","_law_k","_law_plain","_law_cell","_law_good_here","_law_bad_here","_law_gift","_law_other","_law_first","_law_second"] [.ref a]) H:=by
 obtain⟨tc,tl,tn⟩:=tabs
 have ne:q0≠q1:=by simpa using nd
 have tne:A.t_78≠A.t_63:=fun e=>by rw[e]at tn;simp at tn
 refine⟨a,ns,0,rfl,hs,by decide,fun z0=>⟨by decide,?_⟩⟩
 obtain⟨B,hB⟩:∃B:Nat,1+z0%60=(B:Int):=⟨(1+z0%60).toNat,by omega⟩
 have B1:1<=B:=by omega
 have B60:B<=60:=by omega
 show sH K A q0 q1 D [some (.ref a),some (.int (1+z0%60)),none,none,none,none,none,none,none,none,none,none,none] H
 rw[hB]
 refine⟨rfl,⟨#[],tc,.inl rfl⟩,fun f b g H1 k1 tc1 hb s1=>?_⟩
 refine uT (Q:=fun v H'=>aI 2 v [some (.ref a),some (.int (B:Int)),none,none,none,none,none,none,none,none,none,none,none] H' (rk K A q0 q1 D)) s1 (by decide) B1 B60 fun x h g2 H2 k2 hs2 fr hd s2 sub2=>?_
 have kl1:KL H H1:=KL.kp tc k1
 have sq1:=SqL.kl hs kl1
 have tl1:=k1 _ _ tl tne
 have w2:HoS A H2 x f b g2 5 B h .bare [] []:=⟨hs2,hd,s2⟩
 have tb:A.t_78≠b:=s1.nb tl1 fun _ z=>nomatch z
 have tl2:=k2 _ _ (aD tb) tl1
 have out:∀{z:Addr}{o:HO},H1 z=some o->z≠b->z∉muH b h:=fun e zb hz=>by
  simp only[muH,If,KO,or_false]at hz
  rcases hz with e2|e2|e2|e2|e2|e2
  ·exact zb e2
  ·exact ap e (fr h.tb (by simp)) e2
  ·exact ap e (fr h.L (by simp)) e2
  ·exact ap e (fr h.D (by simp)) e2
  ·exact ap e (fr h.ml (by simp)) e2
  ·exact ap e (fr h.sd (by simp)) e2
 have nt:=out tl1 tb
 have na:(∀H',SqL K H' a (ns.map V.int))\/a∉muH b h:=by
  rcases sq1 with(e|⟨o,e⟩)|e
  ·exact .inr (out e (s1.nb e fun _ z=>nomatch z))
  ·exact .inr (out e (s1.nb e fun _ z=>nomatch z))
  ·exact .inl fun H'=>.inr e
 have sq2:SqL K H2 a (ns.map V.int):=by
  rcases sq1 with(e|⟨o,e⟩)|e
  ·exact .inl (.inl (k2 _ _ (aD (s1.nb e fun _ z=>nomatch z)) e))
  ·exact .inl (.inr ⟨o,k2 _ _ (aD (s1.nb e fun _ z=>nomatch z)) e⟩)
  ·exact .inr e
 refine⟨a,ns,1,rfl,sq2,by decide,fun z1=>⟨by decide,?_⟩⟩
 obtain⟨many,hm⟩:∃m:Nat,1+z1%5=(m:Int):=⟨(1+z1%5).toNat,by omega⟩
 have m1:1<=many:=by omega
 have m5:many<=5:=by omega
 show sM K A q0 q1 D [some (.ref a),some (.int (B:Int)),some (.ref x),some (.int (1+z1%5)),none,none,none,none,none,none,none,none,none] H2
 rw[hm]
 refine⟨(many:Int),rfl,by omega,by omega,?_⟩
 rw[Od]
 refine rZ (lo:=0) (n:=many) (fun i σ H'=>∃x4:Option V,σ=[some (.ref a),some (.int (B:Int)),some (.ref x),some (.int (many:Int)),x4,none,none,none,none,none,none,none,none]/\LwH A H2 H' x f b B h i)
  ⟨none,rfl,⟨g2,5,.bare,[],[],w2,by omega,gV _,rfl⟩,KM.same ar.rfl'⟩ (fun i σ H' hi hv=>?_) (fun σ H' hv=>?_)
 ·obtain⟨x4,rfl,⟨g3,n3,t,ts,ys,w3,hn,hr,htl⟩,km⟩:=hv
  obtain⟨dx,hx⟩:=w3.hs.ob
  obtain⟨m,ta⟩:=w3.hs.ta
  refine⟨x,dx,_,rfl,hx,rfl,a,ns,2,rfl,re sq2 na km,by decide,fun z=>⟨_,B,rfl,B1,B60,fun key hk=>?_⟩⟩
  refine⟨x,h,_,_,rfl,w3.hs.ob,⟨f,g3,B,t,m,ta⟩,h.tb,f,b,g3,n3,B,t,m,_,_,.int (key:Int),.str "ab",rfl,⟨ta,w3.s,by omega⟩,by omega,.int _,.str _,by decide+kernel,fun hf=>(by rw[gB hk]at hf;cases hf),fun key' ek hk'=>⟨fun hf=>absurd hf (by decide),fun z' ez vz m2 g4 H4 k4 ta4 s4 sub4=>?_⟩⟩
  cases Dat.str.inj ez
  obtain⟨hs4,km4⟩:=w3.hs.tab w3.hd w3.s k4 ta4 sub4 (show n3<=n3+65 by omega)
  obtain⟨dx4,hx4⟩:=hs4.ob
  have rw4:=ia (B:=B) (key:=key') (z:=("ab":Str)) t
  refine⟨x,dx4,_,rfl,hx4,rfl,x,f,b,g4,n3+65,B,h,_,ts,ys,rfl,hs4,w3.hd,s4,by omega,by omega,by omega,fun p y v g5 H5 k5 hy hs5 s5 sub5 hp=>?_⟩
  refine⟨_,rfl,⟨g5,n3+65+210,_,ts++[_],ys++[y],⟨hs5,⟨w3.hd.nd,fun hm=>?_⟩,s5⟩,by omega,by omega,by rw[KW,htl];rfl⟩,km.trans ((km4.sub ?_).trans (k5.sub ?_))⟩
  ·rcases Ml.mp hm with e|e
   ·exact w3.hd.ny e
   ·obtain⟨m',ta'⟩:=hs4.ta
    obtain⟨dt,yt,ot,_⟩:=ta'.ob
    rw[<-KZ.mp e,ot]at hy;cases hy
  ·intro z hz
   simp only[If,KO,or_false]at hz
   simp only[muH,If,KO,or_false]
   rcases hz with rfl|rfl<;>simp
  ·intro z hz
   simp only[If,KO,or_false]at hz
   simp only[muH,If,KO,or_false]
   rcases hz with rfl|rfl|rfl|rfl|rfl<;>simp
 ·obtain⟨x4,rfl,⟨g3,n3,t,ts,ys,w3,hn,hr,htl⟩,km⟩:=hv
  exact Ht T ne w3 (by omega) B1 B60 m1 m5 htl (re sq2 na km) ln na (km _ _ nt tl2) nt q
theorem Es (T:Txt K mg A)(q0 q1:Addr)(nd:([q0,q1]:List Addr).Nodup)(vs:List V)(H:Hp)(Q:VK)(E:XK)(h:my K A vs H Q E):vG K A q0 q1 {nx:=fun σ H'=>(∀p∈([(9,q0),(10,q1)]:List (Nat×Addr)),H' p.2=none)->Q .non (bW [(9,q0),(10,q1)] σ H'),rt:=fun σ v H'=>(∀p∈([(9,q0),(10,q1)]:List (Nat×Addr)),H' p.2=none)->Q v (bW [(9,q0),(10,q1)] σ H')} (L2.bV ["_law_script","_law_bits","_law_house","_law_many","_law_k","_law_plain","_law_cell","_law_good_here","_law_bad_here","_law_gift","_law_other","_law_first","_law_second"] vs) H:=by
 obtain⟨a,ns,rfl,hs,ln,tabs,q⟩:=h
 exact EQ T nd hs ln tabs fun σ H' _=>q _
section
structure TP (P:Lf)(w:LA)(K:cW)(mg:Str->Option pv)(base:Heap)(A:Adr):Prop extends Txt K mg A where
 B:BM mg base
 C_63:Np base A.k_63 A.t_63
 C_78:Np base A.k_78 A.t_78
variable {P:Lf}{w:LA}{K:cW}{mg:Str->Option pv}{base:Heap}{A:Adr}(T:TP P w K mg base A)
include T
theorem iw:aA P w K mg base (CX1 P w) 1 A.a_76 A.d_76 ["thing"] (ft K A):=
 T.f_76.f.okS EL (zM K A) (GL T.1) fun _ _ _ _ _ _ hr=>
 ak (aw (cH (bB ip T.z_isinstance LH (ab (aa 0) (ab (il T.z_int boot_int) (ag)))) (dB (HY (bB ip T.z_isinstance LH (ab (aa 0) (ab (il T.z_bool boot_bool) (ag))))))))
theorem pI:aA P w K mg base (CX1 P w) 2 A.a_72 A.d_72 ["thing"] (iP K A):=
 T.f_72.f.okS Fd (zQ K A) (Ff T.1) fun _ _ _ _ _ _ hr=>
 ao (aZ (bE (aL (iw T) hr.le T.f_76 (ab (aa 0) (ag)))) (ak (aw (fB oLe oLt (aq) (aa 0) (aG Bj (aq) (aq))))) (aQ)) (ak (aw (bB ip T.z_isinstance LH (ab (aa 0) (ab (il T.z_str boot_str) (ag))))))
theorem FR:aA P w K mg base (CX1 P w) 3 A.a_74 A.d_74 ["thing"] (mR K A):=
 T.f_74.f.okS Fs (Ao K A) (GC T.1) fun _ _ _ _ _ _ hr=>
 ao (aZ (bR (bE (bB ip T.z_isinstance LH (ab (aa 0) (ab (il T.z_tuple NR) (ag)))))) (ak (aw (hJ))) (aQ)) (ao (aZ (bR (uE oLe oLe (aq) (bB fv T.z_len Md (ab (aa 0) (ag))) (wq T.c_MOST_PARTS))) (ak (aw (hJ))) (aQ)) (ak (aw (cH (bB ip T.z_isinstance LH (ab (bJ (bf hr.units1) (aa 0) (aq) (fun _ _=>rfl)) (ab (il T.z_str boot_str) (ag)))) (dB (bB (IV rfl) T.z_all L2.zS (ab (BP (ys:=[]) (by exact⟨rfl,by decide+kernel,by decide+kernel,rfl,by decide+kernel,by decide+kernel⟩) (by exact .nil) (jS (aa 0)) (fun C s H fp=>Be) (fun C s H fp=>(aL (pI T) hr.le T.f_72 (ab (aa 0) (ag))))) (ag))))))))
theorem EU:aA P w K mg base (CX1 P w) 4 A.a_28 A.d_28 ["self","term"] (mL K A):=
 T.f_28.okS FX (Bo K A) (HR T.1) fun _ _ _ _ _ _ hr=>
 ao (aZ (bR (bE (aL (FR T) hr.le T.f_74 (ab (aa 1) (ag))))) (ak (cZ)) (aQ)) (ao (aZ (aW (oY hr.units150) (aa 1) (az (aa 0))) (ak (fK hr.units1 (az (aa 0)) (aa 1) (bB fv T.z_len Md (ab (az (aa 0)) (ag))))) (aQ)) (ak (aw (bJ (bf hr.units1) (az (aa 0)) (aa 1) (fun _ _=>rfl)))))
theorem DU (f c:Addr)(cl:List (Str×Addr))(Ar:LC)(outer:List Env)(s:Dc)(H:Hp)(E:XK)
  (hr:be 4 (Ar.deeper (NE dN.qual dN.scope s.heap.objs.size f (.ref c) cl))):PE (fY P w K mg base ["term","numbers"] dN.qual dN.scope f c cl Ar outer s H E).nox (eK wx) (zm K A):=QE.out (
 aT (aa 1) T.cl_Numbers T.me_Numbers_number_of (EU T) hr.le T.b_28 av (ab (aa 0) (ag)))
theorem GE:iM P w K mg base 5 dN (qF K A):=
 xU rfl Gf (fun f c cl Ar outer s H vs cvs Q E hr hl hc h=>by
  obtain⟨a0,rfl⟩:=L2.eh hl
  obtain⟨b0,rfl⟩:=L2.eh hc
  exact⟨_,(DU T f c cl Ar outer s H E hr).nox,Ei T.1 a0 b0 H Q E h⟩)
theorem HN (f c:Addr)(cl:List (Str×Addr))(Ar:LC)(outer:List Env)(s:Dc)(H:Hp)(E:XK)
  (hr:be 0 (Ar.deeper (NE fb.qual fb.scope s.heap.objs.size f (.ref c) cl))):PE (fY P w K mg base ["_law_question"] fb.qual fb.scope f c cl Ar outer s H E).nox (eK vi) (Aq K A):=QE.out (
 aa 0)
theorem Eg:fc P w K mg base 1 fb (qU K A):=
 jd rfl EN (fun f c cl Ar outer s H vs cvs Q E hr hl hc h=>by
  obtain⟨a0,rfl⟩:=L2.eh hl
  obtain rfl:=L2.lE hc
  exact⟨_,(HN T f c cl Ar outer s H E hr).nox,Fo T.1 a0 H Q E h⟩)
theorem Dk (f c:Addr)(cl:List (Str×Addr))(Ar:LC)(outer:List Env)(s:Dc)(H:Hp)(E:XK)
  (hr:be 0 (Ar.deeper (NE dD.qual dD.scope s.heap.objs.size f (.ref c) cl))):PE (fY P w K mg base ["_law_question","_law_gift"] dD.qual dD.scope f c cl Ar outer s H E).nox (eK tX) (zN K A):=QE.out (
 bn (ab (aa 0) (ab (aa 1) (ag))))
theorem GY:fc P w K mg base 1 dD (rc K A):=
 jd rfl ES (fun f c cl Ar outer s H vs cvs Q E hr hl hc h=>by
  obtain⟨a0,rfl⟩:=L2.eh hl
  obtain⟨b0,rfl⟩:=L2.eh hc
  exact⟨_,(Dk T f c cl Ar outer s H E hr).nox,Dl T.1 a0 b0 H Q E h⟩)
theorem Ho (f c:Addr)(cl:List (Str×Addr))(Ar:LC)(outer:List Env)(s:Dc)(H:Hp)(E:XK)
  (hr:be 0 (Ar.deeper (NE eD.qual eD.scope s.heap.objs.size f (.ref c) cl))):PE (fY P w K mg base ["_law_asked_here","_law_other"] eD.qual eD.scope f c cl Ar outer s H E).nox (eK wb) (An K A):=QE.out (
 bn (ab (aa 1) (ab (aa 0) (ag))))
theorem HW:fc P w K mg base 1 eD (qS K A):=
 jd rfl GS (fun f c cl Ar outer s H vs cvs Q E hr hl hc h=>by
  obtain⟨a0,rfl⟩:=L2.eh hl
  obtain⟨b0,rfl⟩:=L2.eh hc
  exact⟨_,(Ho T f c cl Ar outer s H E hr).nox,Fz T.1 a0 b0 H Q E h⟩)
theorem jT:aA P w K mg base (CX1 P w) 1 A.a_55 A.d_55 ["_law_script","_law_k"] (gj K A):=
 T.f_55.f.okS Hc (Co K A) (EC T.1) fun _ _ _ _ _ _ hr=>
 ao (aZ (aW oLt (aa 1) (bB fv T.z_len Md (ab (aa 0) (ag)))) (ak (aw (bJ (bf hr.units1) (aa 0) (aa 1) (fun _ _=>rfl)))) (aQ)) (ak (aw (aq)))
theorem Em:aA P w K mg base (CX1 P w) 2 A.a_66 A.d_66 ["thing"] (lV K A):=
 T.f_66.f.okS Gj (AR K A) (FG T.1) fun _ _ _ _ _ _ hr=>
 ak (aw (cH (aL (iw T) hr.le T.f_76 (ab (aa 0) (ag))) (dB (fB oLe oLe (aq) (aa 0) (wq T.c_MOST_BITS)))))
theorem ib:kA P w K mg base 5 (gP K A):=fun ts hts=>by
 simp only[gP,If,KO,or_false]at hts
 rcases hts with rfl
 ·exact(GE T).mono (by decide)
theorem pM:aA P w K mg base (CX1 P w) 6 A.a_18 A.d_18 ["self","stamper","term"] (iC K A):=
 T.f_18.okS DM (AK K A) (Eu T.1) fun _ _ _ _ _ _ hr=>
 ao (br (aa 0) (aa 2)) (ak (br (aa 0) (nz (ib T) hr.le av (aa 1) (ab (aa 2) (ag)))))
theorem Ke:aA P w K mg base (CX1 P w) 7 A.a_0 A.d_0 ["self","stamper"] (qA K A):=
 T.f_0.okS KF (FF K A) (Ka T.1) fun _ _ _ _ _ _ hr=>
 ak (cE (oj T.mc_Knot T.cf_Knot (pM T) hr.le T.b_18 av (ab (aa 0) (ab (aa 1) (ab (bn (ab (bx) (ag))) (ag))))))
theorem xk:aA P w K mg base (CX1 P w) 9 A.a_48 A.d_48 ["self","stamper","bits"] (iD K A):=
 T.f_48.okS DA (AF K A) (FH T.1) fun _ _ _ _ _ _ hr=>
 ao (aZ (bR (bE (aL (Em T) hr.le T.f_66 (ab (aa 2) (ag))))) (ak (cZ)) (aQ)) (ao (br (aa 0) (aa 1)) (ao (br (aa 0) (aa 2)) (ak (br (aa 0) (cz T.mk_Bare (Ke T) hr.le T.mc_Bare T.b_0 av (ab (aa 1) (ag)))))))
theorem DY:aA P w K mg base (CX1 P w) 1 A.a_29 A.d_29 ["self","stamper"] (mU K A):=
 T.f_29.okS Fk (Au K A) (Gb T.1) fun _ _ _ _ _ _ hr=>
 ao (br (aa 0) (aa 1)) (ao (br (aa 0) (cj (ag))) (ak (br (aa 0) (kQ))))
theorem pZ:aA P w K mg base (CX1 P w) 2 A.a_67 A.d_67 ["thing"] (iE K A):=
 T.f_67.f.okS Dw (zW K A) (EY T.1) fun _ _ _ _ _ _ hr=>
 ak (aw (cH (aL (iw T) hr.le T.f_76 (ab (aa 0) (ag))) (dB (fB oLe oLt (aq) (aa 0) (aG ie (aq) (aq))))))
theorem FM:aA P w K mg base (CX1 P w) 3 A.a_69 A.d_69 ["thing"] (mf K A):=
 T.f_69.f.okS Dz (BA K A) (EM T.1) fun _ _ _ _ _ _ hr=>
 ak (aw (cH (bB ip T.z_isinstance LH (ab (aa 0) (ab (il T.z_tuple NR) (ag)))) (cH (eC (cy hr.units150) (bB fv T.z_len Md (ab (aa 0) (ag))) (aq)) (cH (aL (pZ T) hr.le T.f_67 (ab (bJ (bf hr.units1) (aa 0) (aq) (fun _ _=>rfl)) (ag))) (dB (aL (pI T) hr.le T.f_72 (ab (bJ (bf hr.units1) (aa 0) (aq) (fun _ _=>rfl)) (ag))))))))
theorem Gm:aA P w K mg base (CX1 P w) 4 A.a_61 A.d_61 ["thing"] (mx K A):=
 T.f_61.f.okS GK (zt K A) (GO T.1) fun _ _ _ _ _ _ hr=>
 ak (aZ (bR (bE (aL (FM T) hr.le T.f_69 (ab (aa 0) (ag))))) (ak (cZ)) (aQ))
theorem xM:aA P w K mg base (CX1 P w) 5 A.a_41 A.d_41 ["self","head"] (jy K A):=
 T.f_41.okS Gi (AX K A) (Hn T.1) fun _ _ _ _ _ _ hr=>
 ao (cE (aL (Gm T) hr.le T.f_61 (ab (aa 1) (ag)))) (ak (fK hr.units1 (az (aa 0)) (aa 1) (hJ)))
theorem HZ:aA P w K mg base (CX1 P w) 6 A.a_90 A.d_90 ["stamper"] (lx K A):=
 T.f_90.f.okS Gk (AG K A) (FB T.1) fun _ _ _ _ _ _ hr=>
 ak (aw (cj (ab (bn (ab (bx) (ag))) (ab (bn (ab (bx) (ab (aq) (ab (nz (ib T) hr.le av (aa 0) (ab (bn (ab (bx) (ag))) (ag))) (ag))))) (ag)))))
theorem Er:aA P w K mg base (CX1 P w) 7 A.a_83 A.d_83 ["stamper"] (lU K A):=
 T.f_83.f.okS Gp (Cg K A) (Gd T.1) fun _ _ _ _ _ _ hr=>
 ak (aw (bn (ab (aq) (ab (nz (ib T) hr.le av (aa 0) (ab (bJ (bf hr.units1) (aL (HZ T) hr.le T.f_90 (ab (aa 0) (ag))) (xm (aq)) (fun _ _=>rfl)) (ag))) (ag)))))
theorem Fu:aA P w K mg base (CX1 P w) 11 A.a_10 A.d_10 ["self","stamper","bits","seals"] (jZ K A):=
 T.f_10.okS Fi (BQ K A) (GP T.1) fun _ _ _ _ _ _ hr=>
 ao (br (aa 0) (cz T.mk_Table (xk T) hr.le T.mc_Table T.b_48 av (ab (aa 1) (ab (aa 2) (ag))))) (ao (br (aa 0) (cz T.mk_Row (DY T) hr.le T.mc_Row T.b_29 av (ab (aa 1) (ag)))) (ao (br (aa 0) (cj (ag))) (ao (br (aa 0) (aa 3)) (ak (cE (aT (aa 3) T.cl_Seals T.me_Seals_seal (xM T) hr.le T.b_41 av (ab (aL (Er T) hr.le T.f_83 (ab (aa 1) (ag))) (ag))))))))
theorem Et:aA P w K mg base (CX1 P w) 1 A.a_27 A.d_27 ["self"] (ly K A):=
 T.f_27.okS Hw (zA K A) (Ez T.1) fun _ _ _ _ _ _ hr=>
 ak (br (aa 0) (kQ))
theorem FV (B:BM mg base)(C:Np base A.k_63 A.t_63)(Ar:LC)(outer:List Env)(s:Dc)(H:Hp)(E:XK)
  (hr:be 2 (Ar.deeper (envOfC "counting" (aj jp) s.heap.objs.size A.a_63 (.ref A.k_63)))):QMs (fh (CX1 P w) P w K mg base ["numbers"] "counting" (aj jp) A.a_63 (.ref A.k_63) Ar outer s H E).nox (bi jp) (As K A (s.heap.objs.size+1)):=(
 du (dX (aO 0 xq.nd (nX T.mk_Numbers (Et T) hr.le T.mc_Numbers T.b_27 av))) (mq (lR (mw B C rfl (by rfl) (by simp<;>omega) rfl rfl rfl rfl (fun _ _ _ _ us hl=>by obtain⟨_,rfl⟩:=L2.eh hl;rfl)))))
theorem Fx:aA P w K mg base (CX1 P w) 3 A.a_63 A.d_63 [] (lZ K A):=
 T.f_63.f.okM (caps:=fun L=>[(0,L+1)]) T.kc_63 xq (AM K A) (fun L p hp=>by simp only[If,KO,or_false]at hp;rcases hp with rfl<;>exact⟨_,rfl,rfl,rfl⟩) (fun L=>by simp) (fun Ar outer s H vs Q E hr h=>⟨_,QMs.nox (FV T T.B T.C_63 Ar outer s H E hr),EJ T.1 (s.heap.objs.size+1) (by simp) vs H Q E h⟩)
theorem GN:aA P w K mg base (CX1 P w) 1 A.a_40 A.d_40 ["self"] (jx K A):=
 T.f_40.okS Gu (BH K A) (DG T.1) fun _ _ _ _ _ _ hr=>
 ak (br (aa 0) (kQ))
theorem hG:aA P w K mg base (CX1 P w) 2 A.a_70 A.d_70 ["bits","thing"] (eY K A):=
 T.f_70.f.okS De (zX K A) (Df T.1) fun _ _ _ _ _ _ hr=>
 ak (aw (cH (aL (iw T) hr.le T.f_76 (ab (aa 1) (ag))) (dB (fB oLe oLt (aq) (aa 1) (aG ie (aq) (aa 0))))))
theorem CI:aA P w K mg base (CX1 P w) 1 A.a_1 A.d_1 ["self","bits","key"] (ki K A):=
 T.f_1.okS Ik (FP K A) (JL T.1) fun _ _ _ _ _ _ hr=>
 ak (aw (cY))
theorem xC:aA P w K mg base (CX1 P w) 1 A.a_20 A.d_20 ["self","bits","key"] (iO K A):=
 T.f_20.okS FO (AW K A) (Hx T.1) fun _ _ _ _ _ _ hr=>
 ak (aw (kO (aW (cy hr.units150) (aa 2) (az (aa 0))) (az (aa 0)) (cY)))
theorem lX:aA P w K mg base (CX1 P w) 1 A.a_85 A.d_85 ["bits","key","depth"] (gY K A):=
 T.f_85.f.okS GT (CO K A) (GG T.1) fun _ _ _ _ _ _ hr=>
 ak (aw (aG Gg (aG Aa (aa 1) (aG cV (aG cV (aa 0) (aa 2)) (aq))) (aq)))
theorem uj:aA P w K mg base (CX1 P w) 2 A.a_8 A.d_8 ["self","bits","key"] (jm K A):=
 T.f_8.okS JD (DT K A) (IY T.1) fun _ _ _ _ _ _ hr=>
 ak (aw (kO (aW (cy hr.units150) (aL (lX T) hr.le T.f_85 (ab (aa 1) (ab (aa 2) (ab (az (aa 0)) (ag))))) (aq)) (az (aa 0)) (az (aa 0))))
theorem zB:∀n:Nat,aA P w K mg base (CX1 P w) (2+n) A.a_6 A.d_6 ["self","bits","key"] (iV K A n)
 |0=>⟨fun vs H Q E h=>(CK K A vs H Q E h).elim,fun _ _ _ H _ _ vs Q E _ _ _ _ h=>(CK K A vs H Q E h).elim⟩
 |n+1=>T.f_6.okS Ku (FL K A (n+1)) (Kl T.1 n) fun _ _ _ _ _ _ (hr:be (2+n) _)=>
 ak (aw (eN (aT (aa 0) T.cl_Fork T.me_Fork_toward (uj T) hr.le T.b_8 av (ab (aa 1) (ab (aa 2) (ag)))) (mdc T.cl_Bare T.me_Bare_found (CI T) hr.le T.b_1 av (mdc T.cl_Leaf T.me_Leaf_found (xC T) hr.le T.b_20 av (mdc T.cl_Fork T.me_Fork_found (zB n) hr.le T.b_6 av (mdn rfl)))) (ab (aa 1) (ab (aa 2) (ag)))))
theorem FW:aA P w K mg base (CX1 P w) 73 A.a_52 A.d_52 ["self","key"] (mM K A):=
 T.f_52.okS DP (BL K A) (HS T.1) fun _ _ _ _ _ _ hr=>
 ao (aZ (bR (bE (aL (hG T) hr.le T.f_70 (ab (az (aa 0)) (ab (aa 1) (ag)))))) (ak (cZ)) (aQ)) (ak (aw (eN (az (aa 0)) (mdc T.cl_Bare T.me_Bare_found (CI T) hr.le T.b_1 av (mdc T.cl_Leaf T.me_Leaf_found (xC T) hr.le T.b_20 av (mdc T.cl_Fork T.me_Fork_found (zB T 70) hr.le T.b_6 av (mdn rfl)))) (ab (az (aa 0)) (ab (aa 1) (ag))))))
theorem Dq:aA P w K mg base (CX1 P w) 1 A.a_75 A.d_75 ["thing"] (lH K A):=
 T.f_75.f.okS DI (zj K A) (Dj T.1) fun _ _ _ _ _ _ hr=>
 ak (aw (cH (bB ip T.z_isinstance LH (ab (aa 0) (ab (il T.z_str boot_str) (ag)))) (dB (eC oLe (bB fv T.z_len Md (ab (aa 0) (ag))) (wq T.c_MOST_SIGNS)))))
theorem qC:aA P w K mg base (CX1 P w) 7 A.a_19 A.d_19 ["self","stamper","key","value"] (gU K A):=
 T.f_19.okS Fp (BX K A) (Ee T.1) fun _ _ _ _ _ _ hr=>
 ao (cE (oj T.mc_Knot T.cf_Knot (pM T) hr.le T.b_18 av (ab (aa 0) (ab (aa 1) (ab (bn (ab (bx) (ab (aa 2) (ab (aa 3) (ag))))) (ag)))))) (ao (br (aa 0) (aa 2)) (ak (br (aa 0) (aa 3))))
theorem BF:aA P w K mg base (CX1 P w) 9 A.a_2 A.d_2 ["self","stamper","bits","key","value"] (ko K A):=
 T.f_2.okS Jy (Dt K A) (IJ T.1) fun _ _ _ _ _ _ hr=>
 ak (aw (cz T.mk_Leaf (qC T) hr.le T.mc_Leaf T.b_19 av (ab (aa 1) (ab (aa 3) (ab (aa 4) (ag))))))
theorem rg:aA P w K mg base (CX1 P w) 1 A.a_88 A.d_88 ["bits","key","depth"] (ix K A):=
 T.f_88.f.okS Fh (Bu K A) (Hg T.1) fun _ _ _ _ _ _ hr=>
 ak (aw (aG Aa (aa 1) (aG cV (aa 0) (aa 2))))
theorem qo:aA P w K mg base (CX1 P w) 7 A.a_3 A.d_3 ["self","stamper","depth","begin","left","right"] (iu K A):=
 T.f_3.okS Jd (Ew K A) (Km T.1) fun _ _ _ _ _ _ hr=>
 ao (cE (oj T.mc_Knot T.cf_Knot (pM T) hr.le T.b_18 av (ab (aa 0) (ab (aa 1) (ab (bn (ab (bx) (ab (aa 2) (ab (aa 3) (ab (az (aa 4)) (ab (az (aa 5)) (ag))))))) (ag)))))) (ao (br (aa 0) (aa 2)) (ao (br (aa 0) (aa 3)) (ao (br (aa 0) (aa 4)) (ak (br (aa 0) (aa 5))))))
theorem xS:aA P w K mg base (CX1 P w) 9 A.a_77 A.d_77 ["stamper","bits","depth","leaf","knot"] (jJ K A):=
 T.f_77.f.okS xa (CQ K A) (GJ T.1) fun _ _ _ _ _ _ hr=>
 ao (aO 5 xa.nd (aL (rg T) hr.le T.f_88 (ab (aa 1) (ab (az (aa 3)) (ab (aa 2) (ag)))))) (ao (aZ (aW (cy hr.units150) (aL (lX T) hr.le T.f_85 (ab (aa 1) (ab (az (aa 3)) (ab (aa 2) (ag))))) (aq)) (ak (aw (cz T.mk_Fork (qo T) hr.le T.mc_Fork T.b_3 av (ab (aa 0) (ab (aa 2) (ab (aa 5) (ab (aa 3) (ab (aa 4) (ag))))))))) (aQ)) (ak (aw (cz T.mk_Fork (qo T) hr.le T.mc_Fork T.b_3 av (ab (aa 0) (ab (aa 2) (ab (aa 5) (ab (aa 4) (ab (aa 3) (ag))))))))))
theorem xu:aA P w K mg base (CX1 P w) 1 A.a_60 A.d_60 ["bits","one","other"] (jr K A):=
 T.f_60.f.okS EH (za K A) (EX T.1) fun _ _ _ _ _ _ hr=>
 ak (aw (aG cV (aa 0) (wW OE Oc Ob oX (aG JN (aa 1) (aa 2)))))
theorem wK:aA P w K mg base (CX1 P w) 10 A.a_21 A.d_21 ["self","stamper","bits","key","value"] (iJ K A):=
 T.f_21.okS xw (CG K A) (Du T.1) fun _ _ _ _ _ _ hr=>
 ao (aO 5 xw.nd (cz T.mk_Leaf (qC T) hr.le T.mc_Leaf T.b_19 av (ab (aa 1) (ab (aa 3) (ab (aa 4) (ag)))))) (ao (aZ (aW (cy hr.units150) (aa 3) (az (aa 0))) (ak (aw (aa 5))) (aQ)) (ak (aw (aL (xS T) hr.le T.f_77 (ab (aa 1) (ab (aa 2) (ab (aL (xu T) hr.le T.f_60 (ab (aa 2) (ab (aa 3) (ab (az (aa 0)) (ag))))) (ab (aa 5) (ab (aa 0) (ag))))))))))
theorem Bc:aA P w K mg base (CX1 P w) 2 A.a_7 A.d_7 ["self","bits","key"] (nR K A):=
 T.f_7.okS Ju (EK K A) (Kc T.1) fun _ _ _ _ _ _ hr=>
 ak (aw (eC (cy hr.units150) (aL (rg T) hr.le T.f_88 (ab (aa 1) (ab (aa 2) (ab (az (aa 0)) (ag))))) (az (aa 0))))
theorem Ki:aA P w K mg base (CX1 P w) 9 A.a_5 A.d_5 ["self","stamper","bits","key","knot"] (pH K A):=
 T.f_5.okS Kq (Fq K A) (IX T.1) fun _ _ _ _ _ _ hr=>
 ao (aZ (aW (cy hr.units150) (aL (lX T) hr.le T.f_85 (ab (aa 2) (ab (aa 3) (ab (az (aa 0)) (ag))))) (aq)) (ak (aw (cz T.mk_Fork (qo T) hr.le T.mc_Fork T.b_3 av (ab (aa 1) (ab (az (aa 0)) (ab (az (aa 0)) (ab (aa 4) (ab (az (aa 0)) (ag))))))))) (aQ)) (ak (aw (cz T.mk_Fork (qo T) hr.le T.mc_Fork T.b_3 av (ab (aa 1) (ab (az (aa 0)) (ab (az (aa 0)) (ab (az (aa 0)) (ab (aa 4) (ag)))))))))
theorem zE:∀n:Nat,aA P w K mg base (CX1 P w) (10+n) A.a_9 A.d_9 ["self","stamper","bits","key","value"] (jl K A n)
 |0=>⟨fun vs H Q E h=>(AH K A vs H Q E h).elim,fun _ _ _ H _ _ vs Q E _ _ _ _ h=>(AH K A vs H Q E h).elim⟩
 |n+1=>T.f_9.okS BS (Ec K A (n+1)) (IU T.1 n) fun _ _ _ _ _ _ (hr:be (10+n) _)=>
 ao (aZ (bR (bE (aT (aa 0) T.cl_Fork T.me_Fork_leads (Bc T) hr.le T.b_7 av (ab (aa 2) (ab (aa 3) (ag)))))) (ao (aO 5 BS.nd (aL (xu T) hr.le T.f_60 (ab (az (aa 0)) (ab (az (aa 0)) (ab (aL (rg T) hr.le T.f_88 (ab (aa 2) (ab (aa 3) (ab (az (aa 0)) (ag))))) (ag)))))) (ak (aw (aL (xS T) hr.le T.f_77 (ab (aa 1) (ab (aa 2) (ab (aa 5) (ab (cz T.mk_Leaf (qC T) hr.le T.mc_Leaf T.b_19 av (ab (aa 1) (ab (aa 3) (ab (aa 4) (ag))))) (ab (aa 0) (ag)))))))))) (aQ)) (ak (aw (aT (aa 0) T.cl_Fork T.me_Fork_changed (Ki T) hr.le T.b_5 av (ab (aa 1) (ab (aa 2) (ab (aa 3) (ab (eN (aT (aa 0) T.cl_Fork T.me_Fork_toward (uj T) hr.le T.b_8 av (ab (aa 2) (ab (aa 3) (ag)))) (mdc T.cl_Bare T.me_Bare_with_key (BF T) hr.le T.b_2 av (mdc T.cl_Leaf T.me_Leaf_with_key (wK T) hr.le T.b_21 av (mdc T.cl_Fork T.me_Fork_with_key (zE n) hr.le T.b_9 av (mdn rfl)))) (ab (aa 1) (ab (aa 2) (ab (aa 3) (ab (aa 4) (ag)))))) (ag))))))))
theorem HP:aA P w K mg base (CX1 P w) 81 A.a_49 A.d_49 ["self","key","value"] (jV K A):=
 T.f_49.okS wZ (Bb K A) (HD T.1) fun _ _ _ _ _ _ hr=>
 ao (aO 3 wZ.nd (aT (aa 0) T.cl_Table T.me_Table_value_of (FW T) hr.le T.b_52 av (ab (aa 1) (ag)))) (ao (aZ (bR (bE (aL (Dq T) hr.le T.f_75 (ab (aa 2) (ag))))) (ak (cZ)) (aQ)) (ao (br (aa 0) (eN (az (aa 0)) (mdc T.cl_Bare T.me_Bare_with_key (BF T) hr.le T.b_2 av (mdc T.cl_Leaf T.me_Leaf_with_key (wK T) hr.le T.b_21 av (mdc T.cl_Fork T.me_Fork_with_key (zE T 70) hr.le T.b_9 av (mdn rfl)))) (ab (az (aa 0)) (ab (az (aa 0)) (ab (aa 1) (ab (aa 2) (ag))))))) (ak (aw (aa 3)))))
theorem Fv:aA P w K mg base (CX1 P w) 82 A.a_16 A.d_16 ["self","key","value"] (nj K A):=
 T.f_16.okS Ek (BI K A) (Eo T.1) fun _ _ _ _ _ _ hr=>
 ak (aw (aT (az (aa 0)) T.cl_Table T.me_Table_put (HP T) hr.le T.b_49 av (ab (aa 1) (ab (aa 2) (ag)))))
theorem pS:aA P w K mg base (CX1 P w) 1 A.a_57 A.d_57 ["_law_cell","_law_bits"] (iL K A):=
 T.f_57.f.okS wX (Cr K A) (FY T.1) fun _ _ _ _ _ _ hr=>
 ao (aO 2 wX.nd (aG ie (aq) (aa 1))) (ao (aZ (aW (cy hr.units150) (aG dU (aa 0) (aq)) (aq)) (ak (aw (aG dU (aG eP (aa 0) (aq)) (aa 2)))) (aQ)) (ao (aZ (aW (cy hr.units150) (aG dU (aa 0) (aq)) (aq)) (ak (aw (aG dU (aG wl (aG eP (aa 0) (aq)) (aq)) (aa 2)))) (aQ)) (ak (aw (aG cV (aG cV (aa 2) (aq)) (aG dU (aG eP (aa 0) (aq)) (aa 2)))))))
theorem Ex:aA P w K mg base (CX1 P w) 3 A.a_30 A.d_30 ["self","entry"] (mj K A):=
 T.f_30.okS Fy (CT K A) (DE T.1) fun _ _ _ _ _ _ hr=>
 ao (aZ (bR (bE (aL (pI T) hr.le T.f_72 (ab (aa 1) (ag))))) (ak (cZ)) (aQ)) (ao (cE (jo LI LB LG dA (az (aa 0)) (ab (aa 1) (ag)))) (ak (aw (aG cV (bB fv T.z_len Md (ab (az (aa 0)) (ag))) (aq)))))
theorem Ed:aA P w K mg base (CX1 P w) 1 A.a_50 A.d_50 ["self"] (lY K A):=
 T.f_50.okS DW (AU K A) (HV T.1) fun _ _ _ _ _ _ hr=>
 ak (aw (az (az (aa 0))))
theorem Hu:aA P w K mg base (CX1 P w) 11 A.a_51 A.d_51 ["self"] (lA K A):=
 T.f_51.okS xN (Am K A) (GI T.1) fun _ _ _ _ _ _ hr=>
 ao (aO 1 xN.nd (cz T.mk_Table (xk T) hr.le T.mc_Table T.b_48 av (ab (az (aa 0)) (ab (az (aa 0)) (ag))))) (ao (br (aa 1) (az (aa 0))) (ak (aw (aa 1))))
theorem mC:aA P w K mg base (CX1 P w) 1 A.a_37 A.d_37 ["self"] (gJ K A):=
 T.f_37.okS EF (Bw K A) (Ia T.1) fun _ _ _ _ _ _ hr=>
 ak (aw (bB fv T.z_len Md (ab (az (aa 0)) (ag))))
theorem EZ:aA P w K mg base (CX1 P w) 3 A.a_68 A.d_68 ["count","elder"] (lz K A):=
 T.f_68.f.okS DD (CD K A) (Dg T.1) fun _ _ _ _ _ _ hr=>
 ak (aw (cH (aL (pZ T) hr.le T.f_67 (ab (aa 0) (ag))) (cH (aL (iw T) hr.le T.f_76 (ab (aa 1) (ag))) (dB (fB oLe oLe (aq) (aa 1) (aa 0))))))
theorem qO:aA P w K mg base (CX1 P w) 4 A.a_33 A.d_33 ["self","count","elder"] (iB K A):=
 T.f_33.okS FZ (CA K A) (Hl T.1) fun _ _ _ _ _ _ hr=>
 ak (aw (cH (aL (EZ T) hr.le T.f_68 (ab (aa 1) (ab (aa 2) (ag)))) (dB (eC oLe (aa 1) (cR (aa 0) T.cl_Row T.me_Row_size (mC T) hr.le T.b_37 av)))))
theorem lW:aA P w K mg base (CX1 P w) 1 A.a_65 A.d_65 ["many"] (gE K A):=
 T.f_65.f.okS EG (Ah K A) (Ge T.1) fun _ _ _ _ _ _ hr=>
 ak (aw (aG ie (aq) (aG cV (wW OE Oc Ob oX (aG cV (aa 0) (aq))) (aq))))
theorem EW (n:Nat)(G:aA P w K mg base (CX1 P w) (5+2*n) A.a_38 A.d_38 ["self","first","many"] (dF K A n)):aA P w K mg base (CX1 P w) (5+2*n+1) A.a_39 A.d_39 ["self","first","many"] (mP K A n):=
 T.f_39.okS xK (Cd K A n) (Gr T.1 n) fun _ _ _ _ _ _ (hr:be (5+2*n) _)=>
 ao (aZ (aW (cy hr.units150) (aa 2) (aq)) (ak (aw (bn (ab (bx) (ag))))) (aQ)) (ao (aZ (aW (cy hr.units150) (aa 2) (aq)) (ak (aw (bn (ab (bx) (ab (bJ (bf hr.units1) (az (aa 0)) (aa 1) (fun _ _=>rfl)) (ag)))))) (aQ)) (ao (aO 3 xK.nd (aL (lW T) hr.le T.f_65 (ab (aa 2) (ag)))) (ak (aw (bn (ab (bx) (ab (aT (aa 0) T.cl_Row T.me_Row_top_of G hr.le T.b_38 av (ab (aa 1) (ab (aa 3) (ag)))) (ab (aT (aa 0) T.cl_Row T.me_Row_top_of G hr.le T.b_38 av (ab (aG cw (aa 1) (aa 3)) (ab (aG cV (aa 2) (aa 3)) (ag)))) (ag)))))))))
theorem gT:∀n:Nat,aA P w K mg base (CX1 P w) (5+2*n) A.a_38 A.d_38 ["self","first","many"] (dF K A n)
 |0=>⟨fun vs H Q E h=>(xB K A vs H Q E h).elim,fun _ _ _ H _ _ vs Q E _ _ _ _ h=>(xB K A vs H Q E h).elim⟩
 |n+1=>show aA P w K mg base (CX1 P w) (5+2*n+1+1) A.a_38 A.d_38 ["self","first","many"] (dF K A (n+1))from T.f_38.okS xn (AO K A (n+1)) (FQ T.1 n) fun _ _ _ _ _ _ (hr:be (5+2*n+1) _)=>
 ao (aO 3 xn.nd (bn (ab (aa 1) (ab (aa 2) (ag))))) (ao (aZ (aW (oY hr.units150) (aa 3) (az (aa 0))) (ak (fK hr.units1 (az (aa 0)) (aa 3) (pb (ib T) hr.le av (aa 0) T.cl_Row T.na_Row_stamper (ab (aT (aa 0) T.cl_Row T.me_Row_top_term (EW T n (gT n)) hr.le T.b_39 av (ab (aa 1) (ab (aa 2) (ag)))) (ag))))) (aQ)) (ak (aw (bJ (bf hr.units1) (az (aa 0)) (aa 3) (fun _ _=>rfl)))))
theorem GF:aA P w K mg base (CX1 P w) 146 A.a_35 A.d_35 ["self","count"] (lB K A):=
 T.f_35.okS Ea (Bs K A) (Hs T.1) fun _ _ _ _ _ _ hr=>
 ao (aZ (bR (bE (aT (aa 0) T.cl_Row T.me_Row_has_elder (qO T) hr.le T.b_33 av (ab (cR (aa 0) T.cl_Row T.me_Row_size (mC T) hr.le T.b_37 av) (ab (aa 1) (ag)))))) (ak (cZ)) (aQ)) (ak (aw (pb (ib T) hr.le av (aa 0) T.cl_Row T.na_Row_stamper (ab (bn (ab (bx) (ab (aa 1) (ab (aT (aa 0) T.cl_Row T.me_Row_top_of (gT T 70) hr.le T.b_38 av (ab (aq) (ab (aa 1) (ag)))) (ag))))) (ag)))))
theorem Hf:aA P w K mg base (CX1 P w) 147 A.a_14 A.d_14 ["self"] (mh K A):=
 T.f_14.okS wV (zJ K A) (HM T.1) fun _ _ _ _ _ _ hr=>
 ao (aO 1 wV.nd (cR (az (aa 0)) T.cl_Row T.me_Row_size (mC T) hr.le T.b_37 av)) (ak (aw (bn (ab (aa 1) (ab (aT (az (aa 0)) T.cl_Row T.me_Row_mark_at (GF T) hr.le T.b_35 av (ab (aa 1) (ag))) (ag))))))
theorem DF:aA P w K mg base (CX1 P w) 148 A.a_13 A.d_13 ["self"] (lO K A):=
 T.f_13.okS xp (CM K A) (GB T.1) fun _ _ _ _ _ _ hr=>
 ao (cE (aT (az (aa 0)) T.cl_Row T.me_Row_add (Ex T) hr.le T.b_30 av (ab (cR (az (aa 0)) T.cl_Table T.me_Table_root (Ed T) hr.le T.b_50 av) (ag)))) (ao (cE (jo LI LB LG dA (az (aa 0)) (ab (cR (az (aa 0)) T.cl_Table T.me_Table_twin (Hu T) hr.le T.b_51 av) (ag)))) (ao (aO 1 xp.nd (cR (aa 0) T.cl_House T.me_House_newest (Hf T) hr.le T.b_14 av)) (ao (cE (aT (az (aa 0)) T.cl_Seals T.me_Seals_seal (xM T) hr.le T.b_41 av (ab (aa 1) (ag)))) (ak (aw (aa 1))))))
theorem pT:aA P w K mg base (CX1 P w) 1 A.a_42 A.d_42 ["self","say"] (iF K A):=
 T.f_42.okS Fg (BG K A) (Dp T.1) fun _ _ _ _ _ _ hr=>
 ak (br (aa 0) (aa 1))
theorem Hk:aA P w K mg base (CX1 P w) 1 A.a_56 A.d_56 ["_law_cell","_law_many","_law_key_here","_law_other"] (mX K A):=
 T.f_56.f.okS pP (zY K A) (GA T.1) fun _ _ _ _ _ _ hr=>
 ao (aO 4 pP.nd (aG cw (aq) (aG dU (aa 0) (aa 1)))) (ao (aO 5 pP.nd (aG dU (aG eP (aa 0) (aa 1)) (aa 4))) (ao (aZ (aW (cy hr.units150) (aG dU (aa 0) (aq)) (aq)) (ak (aw (cj (ab (bx) (ab (aa 4) (ab (aa 5) (ag))))))) (aQ)) (ao (aZ (aW (cy hr.units150) (aG dU (aa 0) (aq)) (aq)) (ak (aw (cj (ab (bx) (ab (aa 4) (ab (aa 5) (ag))))))) (aQ)) (ao (aZ (aW (cy hr.units150) (aG dU (aa 0) (aq)) (aq)) (ak (aw (cj (ab (bx) (ab (aa 4) (ab (aa 5) (ab (aa 2) (ag)))))))) (aQ)) (ak (aw (cj (ab (bx) (ab (aa 4) (ab (aa 5) (ab (bB (Im rfl) T.z_min boot_min (ab (aa 2) (ab (aa 3) (ag)))) (ab (bB (Kz rfl) T.z_max boot_max (ab (aa 2) (ab (aa 3) (ag)))) (ag)))))))))))))
theorem pO:aA P w K mg base (CX1 P w) 1 A.a_59 A.d_59 ["_law_cell","_law_least"] (iz K A):=
 T.f_59.f.okS ql (BY K A) (GH T.1) fun _ _ _ _ _ _ hr=>
 ao (aO 2 ql.nd (aG eP (aa 0) (aq))) (ao (aO 3 ql.nd (aG dU (aa 0) (aq))) (ao (aZ (aW oLt (aa 3) (aq)) (ak (aw (bJ (bf hr.units1) (cj (ab (aG cV (xm (aq)) (aG dU (aa 2) (aq))) (ab (aa 1) (ab (aG cw (aa 1) (aG dU (aa 2) (aG Bj (aq) (aq)))) (ag))))) (aa 3) (fun _ _=>rfl)))) (aQ)) (ao (aZ (aW oLt (aa 3) (aq)) (ak (aw (bJ (bf hr.units1) (cj (ab (hJ) (ab (cY) (ab (bx) (ag))))) (aG cV (aa 3) (aq)) (fun _ _=>rfl)))) (aQ)) (ak (aw (bJ (bf hr.units1) (cj (ab (bn (ab (aq) (ag))) (ab (cj (ab (aq) (ag))) (ag)))) (aG cV (aa 3) (aq)) (fun _ _=>rfl)))))))
theorem HQ:aA P w K mg base (CX1 P w) 2 A.a_54 A.d_54 ["_law_good_here","_law_cell","_law_many","_law_bits"] (lC K A):=
 T.f_54.f.okS jt (Bd K A) (Ef T.1) fun _ _ _ _ _ _ hr=>
 ao (aO 4 jt.nd (gF Ft T.z_list boot_list (ab (aa 0) (ag)))) (ao (aO 5 jt.nd (aG cw (aq) (aG dU (aa 1) (aG cV (bB fv T.z_len Md (ab (aa 0) (ag))) (aq))))) (ao (aO 6 jt.nd (cj (ab (aG cw (aa 2) (aq)) (ab (bJ (bf hr.units1) (aa 0) (aq) (fun _ _=>rfl)) (ab (aG ie (aq) (aa 3)) (ab (aG ie (aq) (aa 3)) (ag))))))) (ao (aZ (aW (cy hr.units150) (bJ (bf hr.units1) (aa 0) (aq) (fun _ _=>rfl)) (bx)) (ak (fK hr.units1 (aa 6) (aq) (aG cw (bJ (bf hr.units1) (aa 0) (aq) (fun _ _=>rfl)) (aq)))) (aQ)) (ao (fK hr.units1 (aa 4) (aa 5) (aL (pO T) hr.le T.f_59 (ab (aG eP (aa 1) (aq)) (ab (bJ (bf hr.units1) (aa 6) (aG cV (aa 5) (aq)) (fun _ _=>rfl)) (ag))))) (ao (aZ (x_w (nI (aW (cy hr.units150) (bB fv T.z_len Md (ab (aa 0) (ag))) (aq)) (nI (aW oLt (bJ (bf hr.units1) (aa 0) (aq) (fun _ _=>rfl)) (bJ (bf hr.units1) (aa 0) (aq) (fun _ _=>rfl))) (ph (aW (cy hr.units150) (aG dU (aa 1) (aq)) (aq)))))) (ak (aO 4 jt.nd (aG cw (pq sS (aa 0) (yU) (kE (aq))) (cj (ab (bJ (bf hr.units1) (aa 0) (aq) (fun _ _=>rfl)) (ab (bJ (bf hr.units1) (aa 0) (aq) (fun _ _=>rfl)) (ag))))))) (aQ)) (ak (aw (aa 4))))))))
theorem FT:aA P w K mg base (CX1 P w) 1 A.a_23 A.d_23 ["self","count","elder"] (mG K A):=
 T.f_23.okS Dy (Bx K A) (ER T.1) fun _ _ _ _ _ _ hr=>
 ak (aw (cY))
theorem fT:nU P w K mg base 1 (eQ K A):=fun ts hts=>by
 simp only[eQ,If,KO,or_false]at hts
 rcases hts with rfl|rfl|rfl
 ·exact(Eg T).mono (by decide)
 ·exact(GY T).mono (by decide)
 ·exact(HW T).mono (by decide)
theorem Gh:aA P w K mg base (CX1 P w) 2 A.a_44 A.d_44 ["self","count","elder"] (lJ K A):=
 T.f_44.okS EB (BV K A) (Di T.1) fun _ _ _ _ _ _ hr=>
 ak (aw (fQ (fT T) hr.le av (aa 0) T.cl_Spoken T.na_Spoken_answerer (ab (bn (ab (bx) (ab (aa 1) (ab (aa 2) (ag))))) (ag))))
theorem qR:∀n:Nat,aA P w K mg base (CX1 P w) (145+n) A.a_31 A.d_31 ["self","first","many","elder"] (gW K A n)
 |0=>⟨fun vs H Q E h=>(xr K A vs H Q E h).elim,fun _ _ _ H _ _ vs Q E _ _ _ _ h=>(xr K A vs H Q E h).elim⟩
 |n+1=>T.f_31.okS xv (BW K A (n+1)) (DR T.1 n) fun _ _ _ _ _ _ (hr:be (145+n) _)=>
 ao (aZ (x_w (fZ (aW (cy hr.units150) (aa 3) (aq)) (fe (aW (cy hr.units150) (aa 3) (aa 2))))) (ak (aw (bn (ab (aT (aa 0) T.cl_Row T.me_Row_top_of (gT T 70) hr.le T.b_38 av (ab (aa 1) (ab (aa 2) (ag)))) (ag))))) (aQ)) (ao (aO 4 xv.nd (aL (lW T) hr.le T.f_65 (ab (aa 2) (ag)))) (ao (aZ (aW oLe (aa 3) (aa 4)) (ak (aw (aG cw (aT (aa 0) T.cl_Row T.me_Row_growth_marks (qR n) hr.le T.b_31 av (ab (aa 1) (ab (aa 4) (ab (aa 3) (ag))))) (bn (ab (aT (aa 0) T.cl_Row T.me_Row_top_of (gT T 70) hr.le T.b_38 av (ab (aG cw (aa 1) (aa 4)) (ab (aG cV (aa 2) (aa 4)) (ag)))) (ag)))))) (aQ)) (ak (aw (aG cw (bn (ab (aT (aa 0) T.cl_Row T.me_Row_top_of (gT T 70) hr.le T.b_38 av (ab (aa 1) (ab (aa 4) (ag)))) (ag))) (aT (aa 0) T.cl_Row T.me_Row_growth_marks (qR n) hr.le T.b_31 av (ab (aG cw (aa 1) (aa 4)) (ab (aG cV (aa 2) (aa 4)) (ab (aG cV (aa 3) (aa 4)) (ag))))))))))
theorem DS:aA P w K mg base (CX1 P w) 216 A.a_32 A.d_32 ["self","count","elder"] (mD K A):=
 T.f_32.okS Ey (Az K A) (Fc T.1) fun _ _ _ _ _ _ hr=>
 ao (aZ (bR (bE (aT (aa 0) T.cl_Row T.me_Row_has_elder (qO T) hr.le T.b_33 av (ab (aa 1) (ab (aa 2) (ag)))))) (ak (cZ)) (aQ)) (ak (aw (kO (aW oGt (aa 1) (aq)) (aT (aa 0) T.cl_Row T.me_Row_growth_marks (qR T 70) hr.le T.b_31 av (ab (aq) (ab (aa 1) (ab (aa 2) (ag))))) (bn (ag)))))
theorem Hb:aA P w K mg base (CX1 P w) 217 A.a_12 A.d_12 ["self","count","elder"] (mi K A):=
 T.f_12.okS GR (zq K A) (FS T.1) fun _ _ _ _ _ _ hr=>
 ak (aw (kO (bE (aT (az (aa 0)) T.cl_Row T.me_Row_has_elder (qO T) hr.le T.b_33 av (ab (aa 1) (ab (aa 2) (ag))))) (aT (az (aa 0)) T.cl_Row T.me_Row_growth_paper (DS T) hr.le T.b_32 av (ab (aa 1) (ab (aa 2) (ag)))) (cY)))
theorem Hh:aA P w K mg base (CX1 P w) 1 A.a_25 A.d_25 ["self","count","place"] (lF K A):=
 T.f_25.okS El (CN K A) (Hz T.1) fun _ _ _ _ _ _ hr=>
 ak (aw (cY))
theorem GU:aA P w K mg base (CX1 P w) 2 A.a_46 A.d_46 ["self","count","place"] (lI K A):=
 T.f_46.okS Gn (Ct K A) (Hq T.1) fun _ _ _ _ _ _ hr=>
 ak (aw (fQ (fT T) hr.le av (aa 0) T.cl_Spoken T.na_Spoken_answerer (ab (bn (ab (bx) (ab (aa 1) (ab (aa 2) (ag))))) (ag))))
theorem DO:aA P w K mg base (CX1 P w) 3 A.a_71 A.d_71 ["count","place"] (ni K A):=
 T.f_71.f.okS HG (Cz K A) (HJ T.1) fun _ _ _ _ _ _ hr=>
 ak (aw (cH (aL (pZ T) hr.le T.f_67 (ab (aa 0) (ag))) (cH (aL (iw T) hr.le T.f_76 (ab (aa 1) (ag))) (dB (fB oLe oLt (aq) (aa 1) (aa 0))))))
theorem wL:aA P w K mg base (CX1 P w) 4 A.a_34 A.d_34 ["self","count","place"] (jA K A):=
 T.f_34.okS Ga (Ce K A) (Gw T.1) fun _ _ _ _ _ _ hr=>
 ak (aw (cH (aL (DO T) hr.le T.f_71 (ab (aa 1) (ab (aa 2) (ag)))) (dB (eC oLe (aa 1) (cR (aa 0) T.cl_Row T.me_Row_size (mC T) hr.le T.b_37 av)))))
theorem HF:aA P w K mg base (CX1 P w) 2 A.a_91 A.d_91 ["place","many"] (lQ K A):=
 T.f_91.f.okS fW (zC K A) (HL T.1) fun _ _ _ _ _ _ hr=>
 ao (aO 2 fW.nd (cj (ag))) (ao (aO 3 fW.nd (aq)) (ao (aO 4 fW.nd (aa 1)) (ao (oW (aW oGt (aa 4) (aq)) (ao (aO 5 fW.nd (aL (lW T) hr.le T.f_65 (ab (aa 4) (ag)))) (ak (aZ (aW oLt (aa 0) (aG cw (aa 3) (aa 5))) (ao (cE (jo LI LB LG dA (aa 2) (ab (aq) (ag)))) (ak (aO 4 fW.nd (aa 5)))) (ao (cE (jo LI LB LG dA (aa 2) (ab (aq) (ag)))) (ao (aO 3 fW.nd (aG cw (aa 3) (aa 5))) (ak (aO 4 fW.nd (aG cV (aa 4) (aa 5))))))))) MI) (ak (aw (aa 2))))))
theorem EV:aA P w K mg base (CX1 P w) 146 A.a_36 A.d_36 ["self","count","place"] (mT K A):=
 T.f_36.okS fw (Av K A) (Fj T.1) fun _ _ _ _ _ _ hr=>
 ao (aZ (bR (bE (aT (aa 0) T.cl_Row T.me_Row_has_place (wL T) hr.le T.b_34 av (ab (aa 1) (ab (aa 2) (ag)))))) (ak (cZ)) (aQ)) (ao (aO 3 fw.nd (cj (ag))) (ao (aO 4 fw.nd (aq)) (ao (aO 5 fw.nd (aa 1)) (ao (mN 6 fw.nd (jS (aL (HF T) hr.le T.f_91 (ab (aa 2) (ab (aa 1) (ag))))) (ao (aO 7 fw.nd (aL (lW T) hr.le T.f_65 (ab (aa 5) (ag)))) (ak (aZ (aW (cy hr.units150) (aa 6) (aq)) (ao (cE (jo LI LB LG dA (aa 3) (ab (aT (aa 0) T.cl_Row T.me_Row_top_of (gT T 70) hr.le T.b_38 av (ab (aG cw (aa 4) (aa 7)) (ab (aG cV (aa 5) (aa 7)) (ag)))) (ag)))) (ak (aO 5 fw.nd (aa 7)))) (ao (cE (jo LI LB LG dA (aa 3) (ab (aT (aa 0) T.cl_Row T.me_Row_top_of (gT T 70) hr.le T.b_38 av (ab (aa 4) (ab (aa 7) (ag)))) (ag)))) (ao (aO 4 fw.nd (aG cw (aa 4) (aa 7))) (ak (aO 5 fw.nd (aG cV (aa 5) (aa 7))))))))) MI) (ak (aw (bn (ab (bJ (bf hr.units1) (az (aa 0)) (aa 2) (fun _ _=>rfl)) (ab (gF nP T.z_tuple NR (ab (aa 3) (ag))) (ag))))))))))
theorem pW:aA P w K mg base (CX1 P w) 147 A.a_15 A.d_15 ["self","count","place"] (iH K A):=
 T.f_15.okS GV (BE K A) (FE T.1) fun _ _ _ _ _ _ hr=>
 ak (aw (kO (bE (aT (az (aa 0)) T.cl_Row T.me_Row_has_place (wL T) hr.le T.b_34 av (ab (aa 1) (ab (aa 2) (ag))))) (aT (az (aa 0)) T.cl_Row T.me_Row_place_paper (EV T) hr.le T.b_36 av (ab (aa 1) (ab (aa 2) (ag)))) (cY)))
theorem HC:aA P w K mg base (CX1 P w) 1 A.a_22 A.d_22 ["self","count","place","key"] (mZ K A):=
 T.f_22.okS Hm (Ax K A) (GZ T.1) fun _ _ _ _ _ _ hr=>
 ak (aw (cY))
theorem FK:aA P w K mg base (CX1 P w) 2 A.a_43 A.d_43 ["self","count","place","key"] (lG K A):=
 T.f_43.okS HH (CW K A) (EI T.1) fun _ _ _ _ _ _ hr=>
 ak (aw (fQ (fT T) hr.le av (aa 0) T.cl_Spoken T.na_Spoken_answerer (ab (bn (ab (bx) (ab (aa 1) (ab (aa 2) (ab (aa 3) (ag)))))) (ag))))
theorem JS:aA P w K mg base (CX1 P w) 2 A.a_4 A.d_4 ["self","bits","key"] (nF K A):=
 T.f_4.okS Kw (Hi K A) (Il T.1) fun _ _ _ _ _ _ hr=>
 ak (aw (kO (aW (cy hr.units150) (aL (lX T) hr.le T.f_85 (ab (aa 1) (ab (aa 2) (ab (az (aa 0)) (ag))))) (aq)) (az (aa 0)) (az (aa 0))))
theorem Hd:aA P w K mg base (CX1 P w) 3 A.a_86 A.d_86 ["table","key"] (mF K A):=
 T.f_86.f.okS lK (AS K A) (GM T.1) fun _ _ _ _ _ _ hr=>
 ao (aZ (bR (bE (aL (hG T) hr.le T.f_70 (ab (az (aa 0)) (ab (aa 1) (ag)))))) (ak (cZ)) (aQ)) (ao (aO 2 lK.nd (cj (ag))) (ao (aO 3 lK.nd (az (aa 0))) (ao (oW (x_w (nI (bE (bB lL T.z_isinstance LH (ab (aa 3) (ab (qM T.mc_Fork) (ag))))) (ph (bE (aT (aa 3) T.cl_Fork T.me_Fork_leads (Bc T) hr.le T.b_7 av (ab (az (aa 0)) (ab (aa 1) (ag)))))))) (ao (cE (jo LI LB LG dA (aa 2) (ab (bn (ab (az (aa 3)) (ab (az (aT (aa 3) T.cl_Fork T.me_Fork_aside (JS T) hr.le T.b_4 av (ab (az (aa 0)) (ab (aa 1) (ag))))) (ag)))) (ag)))) (ak (aO 3 lK.nd (aT (aa 3) T.cl_Fork T.me_Fork_toward (uj T) hr.le T.b_8 av (ab (az (aa 0)) (ab (aa 1) (ag))))))) MI) (ak (aw (bn (ab (gF nP T.z_tuple NR (ab (aa 2) (ag))) (ab (az (aa 3)) (ag)))))))))
theorem Ie:aA P w K mg base (CX1 P w) 148 A.a_11 A.d_11 ["self","count","place","key"] (mn K A):=
 T.f_11.okS xg (BJ K A) (DN T.1) fun _ _ _ _ _ _ hr=>
 ao (aO 4 xg.nd (aT (aa 0) T.cl_House T.me_House_placed (pW T) hr.le T.b_15 av (ab (aa 1) (ab (aa 2) (ag))))) (ao (aZ (x_w (fZ (aW ui (aa 4) (cY)) (fe (bR (bE (aL (hG T) hr.le T.f_70 (ab (az (az (aa 0))) (ab (aa 3) (ag))))))))) (ak (aw (cY))) (aQ)) (ak (aw (bn (ab (bJ (bf hr.units1) (aa 4) (aq) (fun _ _=>rfl)) (ab (aL (Hd T) hr.le T.f_86 (ab (bJ (bf hr.units1) (az (aa 0)) (aa 2) (fun _ _=>rfl)) (ab (aa 3) (ag)))) (ag)))))))
theorem HX:aA P w K mg base (CX1 P w) 1 A.a_26 A.d_26 ["self","count","place","low","high"] (mB K A):=
 T.f_26.okS Ha (zO K A) (FU T.1) fun _ _ _ _ _ _ hr=>
 ak (aw (cY))
theorem Fw:aA P w K mg base (CX1 P w) 2 A.a_47 A.d_47 ["self","count","place","low","high"] (lN K A):=
 T.f_47.okS Dv (BB K A) (Hr T.1) fun _ _ _ _ _ _ hr=>
 ak (aw (fQ (fT T) hr.le av (aa 0) T.cl_Spoken T.na_Spoken_answerer (ab (bn (ab (bx) (ab (aa 1) (ab (aa 2) (ab (aa 3) (ab (aa 4) (ag))))))) (ag))))
theorem Gv:aA P w K mg base (CX1 P w) 3 A.a_73 A.d_73 ["bits","low","high"] (mV K A):=
 T.f_73.f.okS Fb (zi K A) (HU T.1) fun _ _ _ _ _ _ hr=>
 ak (aw (cH (aL (hG T) hr.le T.f_70 (ab (aa 0) (ab (aa 1) (ag)))) (cH (aL (hG T) hr.le T.f_70 (ab (aa 0) (ab (aa 2) (ag)))) (dB (eC oLe (aa 1) (aa 2))))))
theorem FA:aA P w K mg base (CX1 P w) 3 A.a_62 A.d_62 ["bits","low","high"] (lP K A):=
 T.f_62.f.okS Dn (ze K A) (DK T.1) fun _ _ _ _ _ _ hr=>
 ao (aZ (x_w (fZ (bR (bE (aL (hG T) hr.le T.f_70 (ab (aa 0) (ab (aa 1) (ag)))))) (fe (bR (bE (aL (hG T) hr.le T.f_70 (ab (aa 0) (ab (aa 2) (ag))))))))) (ak (cZ)) (aQ)) (ak (aZ (aW oGt (aa 1) (aa 2)) (ak (cZ)) (aQ)))
theorem Gq:aA P w K mg base (CX1 P w) 1 A.a_87 A.d_87 ["bits","depth","begin"] (mK K A):=
 T.f_87.f.okS wM (Cf K A) (Gx T.1) fun _ _ _ _ _ _ hr=>
 ao (aO 3 wM.nd (aG cV (aa 0) (aa 1))) (ak (aw (bn (ab (aG ie (aa 2) (aa 3)) (ab (aG cV (aG ie (aG cw (aa 2) (aq)) (aa 3)) (aq)) (ag))))))
theorem GD:aA P w K mg base (CX1 P w) 2 A.a_82 A.d_82 ["bits","low","high","depth","begin"] (mI K A):=
 T.f_82.f.okS xj (AY K A) (DV T.1) fun _ _ _ _ _ _ hr=>
 ao (aO 5 xj.nd (aL (Gq T) hr.le T.f_87 (ab (aa 0) (ab (aa 3) (ab (aa 4) (ag)))))) (ak (aw (cH (eC oLe (bJ (bf hr.units1) (aa 5) (aq) (fun _ _=>rfl)) (aa 2)) (dB (eC oLe (aa 1) (bJ (bf hr.units1) (aa 5) (aq) (fun _ _=>rfl)))))))
theorem qb:∀n:Nat,aA P w K mg base (CX1 P w) (2+n) A.a_84 A.d_84 ["bits","low","high","depth","begin","knot"] (gM K A n)
 |0=>⟨fun vs H Q E h=>(wO K A vs H Q E h).elim,fun _ _ _ H _ _ vs Q E _ _ _ _ h=>(wO K A vs H Q E h).elim⟩
 |n+1=>T.f_84.f.okS qN (Bk K A (n+1)) (ED T.1 n) fun _ _ _ _ _ _ (hr:be (2+n) _)=>
 ao (aZ (bR (bE (aL (GD T) hr.le T.f_82 (ab (aa 0) (ab (aa 1) (ab (aa 2) (ab (aa 3) (ab (aa 4) (ag))))))))) (ak (aw (bn (ab (bx) (ab (az (aa 5)) (ag)))))) (aQ)) (ao (aZ (bR (bE (bB lL T.z_isinstance LH (ab (aa 5) (ab (qM T.mc_Fork) (ag)))))) (ak (aw (az (aa 5)))) (aQ)) (ao (aO 6 qN.nd (aL (qb n) hr.le T.f_84 (ab (aa 0) (ab (aa 1) (ab (aa 2) (ab (aG cw (az (aa 5)) (aq)) (ab (aG wl (aq) (az (aa 5))) (ab (az (aa 5)) (ag))))))))) (ao (aO 7 qN.nd (aL (qb n) hr.le T.f_84 (ab (aa 0) (ab (aa 1) (ab (aa 2) (ab (aG cw (az (aa 5)) (aq)) (ab (aG cw (aG wl (aq) (az (aa 5))) (aq)) (ab (az (aa 5)) (ag))))))))) (ak (aw (bn (ab (bx) (ab (az (aa 5)) (ab (az (aa 5)) (ab (aa 6) (ab (aa 7) (ag))))))))))))
theorem Da:aA P w K mg base (CX1 P w) 73 A.a_89 A.d_89 ["table","low","high"] (mY K A):=
 T.f_89.f.okS GQ (Ap K A) (En T.1) fun _ _ _ _ _ _ hr=>
 ao (cE (aL (FA T) hr.le T.f_62 (ab (az (aa 0)) (ab (aa 1) (ab (aa 2) (ag)))))) (ak (aw (aL (qb T 70) hr.le T.f_84 (ab (az (aa 0)) (ab (aa 1) (ab (aa 2) (ab (aq) (ab (aq) (ab (az (aa 0)) (ag))))))))))
theorem EA:aA P w K mg base (CX1 P w) 148 A.a_17 A.d_17 ["self","count","place","low","high"] (lM K A):=
 T.f_17.okS wU (zw K A) (GX T.1) fun _ _ _ _ _ _ hr=>
 ao (aO 5 wU.nd (aT (aa 0) T.cl_House T.me_House_placed (pW T) hr.le T.b_15 av (ab (aa 1) (ab (aa 2) (ag))))) (ao (aZ (x_w (fZ (aW ui (aa 5) (cY)) (fe (bR (bE (aL (Gv T) hr.le T.f_73 (ab (az (az (aa 0))) (ab (aa 3) (ab (aa 4) (ag)))))))))) (ak (aw (cY))) (aQ)) (ak (aw (bn (ab (bJ (bf hr.units1) (aa 5) (aq) (fun _ _=>rfl)) (ab (aL (Da T) hr.le T.f_89 (ab (bJ (bf hr.units1) (az (aa 0)) (aa 2) (fun _ _=>rfl)) (ab (aa 3) (ab (aa 4) (ag))))) (ag)))))))
theorem gK:aA P w K mg base (CX1 P w) 218 A.a_53 A.d_53 ["_law_line","_law_question"] (eZ K A):=
 T.f_53.f.okS xi (Ay K A) (Ic T.1) fun _ _ _ _ _ _ hr=>
 ao (aO 2 xi.nd (bJ (bf hr.units1) (aa 1) (aq) (fun _ _=>rfl))) (ao (aZ (aW (cy hr.units150) (aa 2) (bx)) (ak (aw (eN (aa 0) (mdc T.cl_Line T.me_Line_growth (FT T) hr.le T.b_23 av (mdc T.cl_Spoken T.me_Spoken_growth (Gh T) hr.le T.b_44 av (mdc T.cl_House T.me_House_growth (Hb T) hr.le T.b_12 av (mdn rfl)))) (ab (bJ (bf hr.units1) (aa 1) (aq) (fun _ _=>rfl)) (ab (bJ (bf hr.units1) (aa 1) (aq) (fun _ _=>rfl)) (ag)))))) (aQ)) (ao (aZ (aW (cy hr.units150) (aa 2) (bx)) (ak (aw (eN (aa 0) (mdc T.cl_Line T.me_Line_placed (Hh T) hr.le T.b_25 av (mdc T.cl_Spoken T.me_Spoken_placed (GU T) hr.le T.b_46 av (mdc T.cl_House T.me_House_placed (pW T) hr.le T.b_15 av (mdn rfl)))) (ab (bJ (bf hr.units1) (aa 1) (aq) (fun _ _=>rfl)) (ab (bJ (bf hr.units1) (aa 1) (aq) (fun _ _=>rfl)) (ag)))))) (aQ)) (ao (aZ (aW (cy hr.units150) (aa 2) (bx)) (ak (aw (eN (aa 0) (mdc T.cl_Line T.me_Line_full (HC T) hr.le T.b_22 av (mdc T.cl_Spoken T.me_Spoken_full (FK T) hr.le T.b_43 av (mdc T.cl_House T.me_House_full (Ie T) hr.le T.b_11 av (mdn rfl)))) (ab (bJ (bf hr.units1) (aa 1) (aq) (fun _ _=>rfl)) (ab (bJ (bf hr.units1) (aa 1) (aq) (fun _ _=>rfl)) (ab (bJ (bf hr.units1) (aa 1) (aq) (fun _ _=>rfl)) (ag))))))) (aQ)) (ak (aw (eN (aa 0) (mdc T.cl_Line T.me_Line_stretch (HX T) hr.le T.b_26 av (mdc T.cl_Spoken T.me_Spoken_stretch (Fw T) hr.le T.b_47 av (mdc T.cl_House T.me_House_stretch (EA T) hr.le T.b_17 av (mdn rfl)))) (ab (bJ (bf hr.units1) (aa 1) (aq) (fun _ _=>rfl)) (ab (bJ (bf hr.units1) (aa 1) (aq) (fun _ _=>rfl)) (ab (bJ (bf hr.units1) (aa 1) (aq) (fun _ _=>rfl)) (ab (bJ (bf hr.units1) (aa 1) (aq) (fun _ _=>rfl)) (ag)))))))))))
theorem DC:aA P w K mg base (CX1 P w) 1 A.a_24 A.d_24 ["self"] (mO K A):=
 T.f_24.okS EO (zv K A) (Ib T.1) fun _ _ _ _ _ _ hr=>
 ak (aw (cY))
theorem xF:aA P w K mg base (CX1 P w) 2 A.a_45 A.d_45 ["self"] (jM K A):=
 T.f_45.okS Gs (AV K A) (ET T.1) fun _ _ _ _ _ _ hr=>
 ak (aw (fQ (fT T) hr.le av (aa 0) T.cl_Spoken T.na_Spoken_answerer (ab (bn (ab (bx) (ag))) (ag))))
theorem Fe:aA P w K mg base (CX1 P w) 219 A.a_58 A.d_58 ["_law_first","_law_second","_law_gift","_law_other"] (jL K A):=
 T.f_58.f.okS pV (CB K A) (Dd T.1) fun _ _ _ _ _ _ hr=>
 ao (mN 4 pV.nd (jS (cj (ab (cj (ab (bx) (ab (aa 2) (ab (aq) (ag))))) (ab (cj (ab (bx) (ab (aq) (ab (aa 2) (ag))))) (ab (cj (ab (bx) (ab (aq) (ab (aq) (ab (aa 2) (ag)))))) (ab (cj (ab (bx) (ab (aq) (ab (aa 2) (ab (aq) (ab (aq) (ag))))))) (ag))))))) (ao (aO 5 pV.nd (gF nP T.z_tuple NR (ab (aa 4) (ag)))) (ak (aZ (x_w (fZ (aW (BD hr.units150) (aL (gK T) hr.le T.f_53 (ab (aa 0) (ab (aa 4) (ag)))) (bn (ab (aa 5) (ab (aa 2) (ag))))) (fe (aW (BD hr.units150) (aL (gK T) hr.le T.f_53 (ab (aa 1) (ab (aa 4) (ag)))) (bn (ab (aa 3) (ab (aa 5) (ag)))))))) (ak (aw (hJ))) (aQ)))) MI) (ak (aw (cH (eC (cy hr.units150) (cR (aa 0) T.cl_Spoken T.me_Spoken_newest (xF T) hr.le T.b_45 av) (bn (ab (bn (ab (bx) (ag))) (ab (aa 2) (ag))))) (dB (eC (cy hr.units150) (cR (aa 1) T.cl_Spoken T.me_Spoken_newest (xF T) hr.le T.b_45 av) (bn (ab (aa 3) (ab (bn (ab (bx) (ag))) (ag)))))))))
theorem Eb (B:BM mg base)(C:Np base A.k_78 A.t_78)(Ar:LC)(outer:List Env)(s:Dc)(H:Hp)(E:XK)
  (hr:be 219 (Ar.deeper (envOfC "law" (aj gZ) s.heap.objs.size A.a_78 (.ref A.k_78)))):QMs (fh (CX1 P w) P w K mg base ["_law_script","_law_bits","_law_house","_law_many","_law_k","_law_plain","_law_cell","_law_good_here","_law_bad_here","_law_gift","_law_other","_law_first","_law_second"] "law" (aj gZ) A.a_78 (.ref A.k_78) Ar outer s H E).nox (bi gZ) (vG K A (s.heap.objs.size+1) (s.heap.objs.size+1+1)):=(
 du (dX (aO 1 dL.nd (aG cw (aq) (aG dU (aL (jT T) hr.le T.f_55 (ab (aa 0) (ab (aq) (ag)))) (aq))))) (du (dX (aO 2 dL.nd (cz T.mk_House (Fu T) hr.le T.mc_House T.b_10 av (ab (wH (Fx T) hr.le T.f_63.m T.f_63.f.kp T.f_63.b av) (ab (aa 1) (ab (nX T.mk_Seals (GN T) hr.le T.mc_Seals T.b_40 av) (ag))))))) (du (dX (aO 3 dL.nd (aG cw (aq) (aG dU (aL (jT T) hr.le T.f_55 (ab (aa 0) (ab (aq) (ag)))) (aq))))) (du (dX (mN 4 dL.nd (uG T.z_range (ab (aa 3) (ag))) (ao (cE (aT (aa 2) T.cl_House T.me_House_put (Fv T) hr.le T.b_16 av (ab (aL (pS T) hr.le T.f_57 (ab (aG cw (aL (jT T) hr.le T.f_55 (ab (aa 0) (ab (aq) (ag)))) (aa 4)) (ab (aa 1) (ag)))) (ab (bx) (ag))))) (ak (cE (cR (aa 2) T.cl_House T.me_House_make (DF T) hr.le T.b_13 av)))) MI)) (du (dX (aO 5 dL.nd (ye T.mz_Line T.mc_Line))) (du (Bf (x_w (fZ (bR (bE (bB lL T.z_isinstance LH (ab (aa 2) (ab (qM T.mc_Line) (ag)))))) (fe (bR (bE (bB lL T.z_isinstance LH (ab (cz T.mk_Spoken (pT T) hr.le T.mc_Spoken T.b_42 av (ab (mw B C rfl (by rfl) (by simp<;>omega) rfl rfl rfl rfl (fun _ _ _ _ us hl=>by obtain⟨_,rfl⟩:=L2.eh hl;rfl)) (ag))) (ab (qM T.mc_Line) (ag))))))))) (mq (lR (hJ))) (xO)) (du (dX (mN 6 dL.nd (jS (pq sS (aa 0) (kE (aq)) (kE (aq)))) (ao (aO 7 dL.nd (aL (Hk T) hr.le T.f_56 (ab (aa 6) (ab (aa 3) (ab (aL (pS T) hr.le T.f_57 (ab (aG eP (aa 6) (aq)) (ab (aa 1) (ag)))) (ab (aL (pS T) hr.le T.f_57 (ab (aG eP (aa 6) (aq)) (ab (aa 1) (ag)))) (ag))))))) (ao (aO 8 dL.nd (aL (HQ T) hr.le T.f_54 (ab (aa 7) (ab (aG eP (aa 6) (aq)) (ab (aa 3) (ab (aa 1) (ag))))))) (ao (aZ (x_w (fZ (aW kS (aL (gK T) hr.le T.f_53 (ab (aa 2) (ab (aa 8) (ag)))) (cY)) (fe (bR (bE (bB ip T.z_isinstance LH (ab (aL (gK T) hr.le T.f_53 (ab (aa 2) (ab (aa 7) (ag)))) (ab (il T.z_tuple NR) (ag))))))))) (ak (aw (hJ))) (aQ)) (ak (aZ (x_w (fZ (aW kS (aL (gK T) hr.le T.f_53 (ab (aa 5) (ab (aa 7) (ag)))) (cY)) (fe (aW kS (cR (aa 5) T.cl_Line T.me_Line_newest (DC T) hr.le T.b_24 av) (cY))))) (ak (aw (hJ))) (aQ)))))) MI)) (du (dX (aO 9 dL.nd (aL (pO T) hr.le T.f_59 (ab (aL (jT T) hr.le T.f_55 (ab (aa 0) (ab (aq) (ag)))) (ab (aq) (ag)))))) (du (dX (aO 10 dL.nd (aL (pO T) hr.le T.f_59 (ab (aL (jT T) hr.le T.f_55 (ab (aa 0) (ab (aq) (ag)))) (ab (aq) (ag)))))) (du (dX (aO 11 dL.nd (cz T.mk_Spoken (pT T) hr.le T.mc_Spoken T.b_42 av (ab (mw B C rfl (by rfl) (by simp<;>omega) rfl rfl rfl rfl (fun _ _ _ _ us hl=>by obtain⟨_,rfl⟩:=L2.eh hl;rfl)) (ag))))) (du (dX (aO 12 dL.nd (cz T.mk_Spoken (pT T) hr.le T.mc_Spoken T.b_42 av (ab (mw B C rfl (by rfl) (by simp<;>omega) rfl rfl rfl rfl (fun _ _ _ _ us hl=>by obtain⟨_,rfl⟩:=L2.eh hl;rfl)) (ag))))) (du (Bf (bR (bE (HE (Fe T) hr.le T.f_58 (⟨rfl,by simp,fun p hp=>by simp only[If,KO,or_false]at hp;rcases hp with rfl|rfl<;>exact⟨_,rfl,rfl,rfl,rfl⟩⟩) dL.nd (ab (aa 11) (ab (aa 12) (ab (aa 9) (ab (aa 10) (ag)))))))) (mq (lR (hJ))) (xO)) (mq (lR (cH (eC (cy hr.units150) (aL (gK T) hr.le T.f_53 (ab (aa 2) (ab (cj (ab (bx) (ab (aq) (ab (aq) (ag))))) (ag)))) (bn (ag))) (dB (eC ui (aL (gK T) hr.le T.f_53 (ab (aa 2) (ab (cj (ab (bx) (ab (aq) (ab (aq) (ag))))) (ag)))) (cY))))))))))))))))))
theorem Dr:aA P w K mg base (CX1 P w) 220 A.a_78 A.d_78 ["_law_script"] (my K A):=
 T.f_78.f.okM (caps:=fun L=>[(9,L+1),(10,L+1+1)]) T.kc_78 dL (zd K A) (fun L p hp=>by simp only[If,KO,or_false]at hp;rcases hp with rfl|rfl<;>exact⟨_,rfl,rfl,rfl⟩) (fun L=>by simp) (fun Ar outer s H vs Q E hr h=>⟨_,QMs.nox (Eb T T.B T.C_78 Ar outer s H E hr),Es T.1 (s.heap.objs.size+1) (s.heap.objs.size+1+1) (by simp) vs H Q E h⟩)
omit T
def qQ (P:Lf)(w:LA)(K:cW)(mg:Str->Option pv)(fa:Addr):Prop:=∃(fd:Gt)(tabs:List (Addr×Addr))(sp:Sp),(∀(s:Dc)(v:pv),Pu s fd ⟨[v],[]⟩ [("_law_script",v)])/\Pe K=true/\(∀t∈tabs,∃y∈(["counting","law"]:List Str),Oj K y=some t)/\(∀base:Heap,K.In base->base.Ns mainGlobals mg->BM mg base->(∀t∈tabs,Np base t.1 t.2)->aA P w K mg base (CX1 P w) 220 fa fd ["_law_script"] sp)/\∀(H:Hp)(a:Addr)(ns:List Int),ns.length<=63->(∀t∈tabs,H t.2=some (.tbl #[]))->SqL K H a (ns.map V.int)->sp [.ref a] H (fun v _=>v=.bl true) fun _ _ _=>False
theorem zu (T:Txt K mg A)(nt:Pe K=true)(tb_63:Oj K "counting"=some (A.k_63,A.t_63))(tb_78:Oj K "law"=some (A.k_78,A.t_78))(tdn:([A.t_63,A.t_78]:List Addr).Nodup):qQ P w K mg A.a_78:=by
 refine⟨A.d_78,[(A.k_63,A.t_63),(A.k_78,A.t_78)],my K A,T.f_78.f.bt,nt,?_,fun base _ _ B C=>?_,fun H a ns hl hO hS=>⟨a,ns,rfl,hS,hl,⟨hO (A.k_63,A.t_63) (by simp),hO (A.k_78,A.t_78) (by simp),tdn⟩,fun _=>rfl⟩⟩
 ·intro t ht
  simp only[If,KO,or_false]at ht
  rcases ht with rfl|rfl
  ·exact⟨"counting",by simp,tb_63⟩
  ·exact⟨"law",by simp,tb_78⟩
 ·exact Dr ⟨T,B,C (A.k_63,A.t_63) (by simp),C (A.k_78,A.t_78) (by simp)⟩
theorem zK {h:Heap}{fa:Addr}(X:K.In h)(G:h.Ns mainGlobals mg)(hfa:mg "law"=some (.ref fa)){x_76 x_72 x_74 x_28 x_55 x_66 x_18 x_0 x_48 x_29 x_67 x_69 x_61 x_41 x_90 x_83 x_10 x_27 x_63 x_40 x_70 x_1 x_20 x_85 x_8 x_6 x_52 x_75 x_19 x_2 x_88 x_3 x_77 x_60 x_21 x_7 x_5 x_9 x_49 x_16 x_57 x_30 x_50 x_51 x_37 x_68 x_33 x_65 x_39 x_38 x_35 x_14 x_13 x_42 x_56 x_59 x_54 x_23 x_44 x_31 x_32 x_12 x_25 x_46 x_71 x_34 x_91 x_36 x_15 x_22 x_43 x_4 x_86 x_11 x_26 x_47 x_73 x_62 x_87 x_82 x_84 x_89 x_17 x_53 x_24 x_45 x_58 x_78 y_Knot y_Bare y_Seals y_Row y_Table y_Numbers y_Fork y_Leaf y_House y_Spoken y_Line:Addr}{d0 d1 d2 d3 d4 d5 d6 d7 d8 d9 d10 d11 d12 d13 d14 d15 d16 d17 d18 d19 d20 d21 d22 d23 d24 d25 d26 d27 d28 d29 d30 d31 d32 d33 d34 d35 d36 d37 d38 d39 d40 d41 d42 d43 d44 d45 d46 d47 d48 d49 d50 d51 d52 d53 d54 d55 d56 d57 d58 d59 d60 d61 d62 d63 d64 d65 d66 d67 d68 d69 d70 d71 d72 d73 d74 d75 d76 d77 d78 d79 d80 d81 d82 d83 d84 d85 d86 d87:Gt}{tc0 tc1 tc2:Tok}
  (bo_Knot:Ms K mainGlobals "Knot"=some (some (.ref y_Knot)))(bo_Bare:Ms K mainGlobals "Bare"=some (some (.ref y_Bare)))(bo_Seals:Ms K mainGlobals "Seals"=some (some (.ref y_Seals)))(bo_Row:Ms K mainGlobals "Row"=some (some (.ref y_Row)))(bo_Table:Ms K mainGlobals "Table"=some (some (.ref y_Table)))(bo_Numbers:Ms K mainGlobals "Numbers"=some (some (.ref y_Numbers)))(bo_Fork:Ms K mainGlobals "Fork"=some (some (.ref y_Fork)))(bo_Leaf:Ms K mainGlobals "Leaf"=some (some (.ref y_Leaf)))(bo_House:Ms K mainGlobals "House"=some (some (.ref y_House)))(bo_Spoken:Ms K mainGlobals "Spoken"=some (some (.ref y_Spoken)))(bo_Line:Ms K mainGlobals "Line"=some (some (.ref y_Line)))(h0:Fa K "is_whole" "is_whole" uM x_76 d0)(h1:Fa K "is_stamp" "is_stamp" tQ x_72 d1)(h2:Fa K "is_term" "is_term" vD x_74 d2)(a3:KI K (.ref y_Numbers) "number_of"=some (some (.ref x_28)))(h3:Fun K "number_of" "Numbers.number_of" uZ x_28 d3)(fn3:Lt K (.ref x_28)=true)(h4:Fa K "_law_cell_at" "_law_cell_at" uJ x_55 d4)(h5:Fa K "is_bits" "is_bits" vN x_66 d5)(a6:KI K (.ref y_Knot) "__init__"=some (some (.ref x_18)))(h6:Fun K "__init__" "Knot.__init__" uo x_18 d6)(fn6:Lt K (.ref x_18)=true)(a7:KI K (.ref y_Bare) "__init__"=some (some (.ref x_0)))(h7:Fun K "__init__" "Bare.__init__" s_0 x_0 d7)(fn7:Lt K (.ref x_0)=true)(a8:KI K (.ref y_Table) "__init__"=some (some (.ref x_48)))(h8:Fun K "__init__" "Table.__init__" vL x_48 d8)(fn8:Lt K (.ref x_48)=true)(a9:KI K (.ref y_Row) "__init__"=some (some (.ref x_29)))(h9:Fun K "__init__" "Row.__init__" uX x_29 d9)(fn9:Lt K (.ref x_29)=true)(h10:Fa K "is_count" "is_count" vn x_67 d10)(h11:Fa K "is_head" "is_head" vP x_69 d11)(h12:Fa K "check_head" "check_head" ux x_61 d12)(a13:KI K (.ref y_Seals) "seal"=some (some (.ref x_41)))(h13:Fun K "seal" "Seals.seal" vF x_41 d13)(fn13:Lt K (.ref x_41)=true)(h14:Fa K "void_terms" "void_terms" wu x_90 d14)(h15:Fa K "none_head" "none_head" vK x_83 d15)(a16:KI K (.ref y_House) "__init__"=some (some (.ref x_10)))(h16:Fun K "__init__" "House.__init__" tB x_10 d16)(fn16:Lt K (.ref x_10)=true)(a17:KI K (.ref y_Numbers) "__init__"=some (some (.ref x_27)))(h17:Fun K "__init__" "Numbers.__init__" ut x_27 d17)(fn17:Lt K (.ref x_27)=true)(h18:Fa K "counting" "counting" jp x_63 d18)(tb_63:(Oj K "counting").isSome=true)(a19:KI K (.ref y_Seals) "__init__"=some (some (.ref x_40)))(h19:Fun K "__init__" "Seals.__init__" uV x_40 d19)(fn19:Lt K (.ref x_40)=true)(h20:Fa K "is_key" "is_key" uu x_70 d20)(a21:KI K (.ref y_Bare) "found"=some (some (.ref x_1)))(h21:Fun K "found" "Bare.found" s_1 x_1 d21)(fn21:Lt K (.ref x_1)=true)(a22:KI K (.ref y_Leaf) "found"=some (some (.ref x_20)))(h22:Fun K "found" "Leaf.found" vf x_20 d22)(fn22:Lt K (.ref x_20)=true)(h23:Fa K "side" "side" tO x_85 d23)(a24:KI K (.ref y_Fork) "toward"=some (some (.ref x_8)))(h24:Fun K "toward" "Fork.toward" s_8 x_8 d24)(fn24:Lt K (.ref x_8)=true)(a25:KI K (.ref y_Fork) "found"=some (some (.ref x_6)))(h25:Fun K "found" "Fork.found" s_6 x_6 d25)(fn25:Lt K (.ref x_6)=true)(a26:KI K (.ref y_Table) "value_of"=some (some (.ref x_52)))(h26:Fun K "value_of" "Table.value_of" vg x_52 d26)(fn26:Lt K (.ref x_52)=true)(h27:Fa K "is_value" "is_value" wn x_75 d27)(a28:KI K (.ref y_Leaf) "__init__"=some (some (.ref x_19)))(h28:Fun K "__init__" "Leaf.__init__" uO x_19 d28)(fn28:Lt K (.ref x_19)=true)(a29:KI K (.ref y_Bare) "with_key"=some (some (.ref x_2)))(h29:Fun K "with_key" "Bare.with_key" s_2 x_2 d29)(fn29:Lt K (.ref x_2)=true)(h30:Fa K "start" "start" vZ x_88 d30)(a31:KI K (.ref y_Fork) "__init__"=some (some (.ref x_3)))(h31:Fun K "__init__" "Fork.__init__" s_3 x_3 d31)(fn31:Lt K (.ref x_3)=true)(h32:Fa K "joined" "joined" uK x_77 d32)(h33:Fa K "alike" "alike" vW x_60 d33)(a34:KI K (.ref y_Leaf) "with_key"=some (some (.ref x_21)))(h34:Fun K "with_key" "Leaf.with_key" wv x_21 d34)(fn34:Lt K (.ref x_21)=true)(a35:KI K (.ref y_Fork) "leads"=some (some (.ref x_7)))(h35:Fun K "leads" "Fork.leads" s_7 x_7 d35)(fn35:Lt K (.ref x_7)=true)(a36:KI K (.ref y_Fork) "changed"=some (some (.ref x_5)))(h36:Fun K "changed" "Fork.changed" s_5 x_5 d36)(fn36:Lt K (.ref x_5)=true)(a37:KI K (.ref y_Fork) "with_key"=some (some (.ref x_9)))(h37:Fun K "with_key" "Fork.with_key" s_9 x_9 d37)(fn37:Lt K (.ref x_9)=true)(a38:KI K (.ref y_Table) "put"=some (some (.ref x_49)))(h38:Fun K "put" "Table.put" vI x_49 d38)(fn38:Lt K (.ref x_49)=true)(a39:KI K (.ref y_House) "put"=some (some (.ref x_16)))(h39:Fun K "put" "House.put" vC x_16 d39)(fn39:Lt K (.ref x_16)=true)(h40:Fa K "_law_key" "_law_key" vb x_57 d40)(a41:KI K (.ref y_Row) "add"=some (some (.ref x_30)))(h41:Fun K "add" "Row.add" vS x_30 d41)(fn41:Lt K (.ref x_30)=true)(a42:KI K (.ref y_Table) "root"=some (some (.ref x_50)))(h42:Fun K "root" "Table.root" vv x_50 d42)(fn42:Lt K (.ref x_50)=true)(a43:KI K (.ref y_Table) "twin"=some (some (.ref x_51)))(h43:Fun K "twin" "Table.twin" vY x_51 d43)(fn43:Lt K (.ref x_51)=true)(a44:KI K (.ref y_Row) "size"=some (some (.ref x_37)))(h44:Fun K "size" "Row.size" sX x_37 d44)(fn44:Lt K (.ref x_37)=true)(h45:Fa K "is_elder" "is_elder" tG x_68 d45)(a46:KI K (.ref y_Row) "has_elder"=some (some (.ref x_33)))(h46:Fun K "has_elder" "Row.has_elder" uN x_33 d46)(fn46:Lt K (.ref x_33)=true)(h47:Fa K "half" "half" ub x_65 d47)(a48:KI K (.ref y_Row) "top_term"=some (some (.ref x_39)))(h48:Fun K "top_term" "Row.top_term" vj x_39 d48)(fn48:Lt K (.ref x_39)=true)(a49:KI K (.ref y_Row) "top_of"=some (some (.ref x_38)))(h49:Fun K "top_of" "Row.top_of" wJ x_38 d49)(fn49:Lt K (.ref x_38)=true)(a50:KI K (.ref y_Row) "mark_at"=some (some (.ref x_35)))(h50:Fun K "mark_at" "Row.mark_at" uR x_35 d50)(fn50:Lt K (.ref x_35)=true)(a51:KI K (.ref y_House) "newest"=some (some (.ref x_14)))(h51:Fun K "newest" "House.newest" vX x_14 d51)(fn51:Lt K (.ref x_14)=true)(a52:KI K (.ref y_House) "make"=some (some (.ref x_13)))(h52:Fun K "make" "House.make" uD x_13 d52)(fn52:Lt K (.ref x_13)=true)(a53:KI K (.ref y_Spoken) "__init__"=some (some (.ref x_42)))(h53:Fun K "__init__" "Spoken.__init__" uF x_42 d53)(fn53:Lt K (.ref x_42)=true)(h54:Fa K "_law_good" "_law_good" tV x_56 d54)(h55:Fa K "_law_thing" "_law_thing" vr x_59 d55)(h56:Fa K "_law_bad" "_law_bad" tU x_54 d56)(a57:KI K (.ref y_Line) "growth"=some (some (.ref x_23)))(h57:Fun K "growth" "Line.growth" vt x_23 d57)(fn57:Lt K (.ref x_23)=true)(a58:KI K (.ref y_Spoken) "growth"=some (some (.ref x_44)))(h58:Fun K "growth" "Spoken.growth" sZ x_44 d58)(fn58:Lt K (.ref x_44)=true)(a59:KI K (.ref y_Row) "growth_marks"=some (some (.ref x_31)))(h59:Fun K "growth_marks" "Row.growth_marks" sY x_31 d59)(fn59:Lt K (.ref x_31)=true)(a60:KI K (.ref y_Row) "growth_paper"=some (some (.ref x_32)))(h60:Fun K "growth_paper" "Row.growth_paper" vh x_32 d60)(fn60:Lt K (.ref x_32)=true)(a61:KI K (.ref y_House) "growth"=some (some (.ref x_12)))(h61:Fun K "growth" "House.growth" tu x_12 d61)(fn61:Lt K (.ref x_12)=true)(a62:KI K (.ref y_Line) "placed"=some (some (.ref x_25)))(h62:Fun K "placed" "Line.placed" wy x_25 d62)(fn62:Lt K (.ref x_25)=true)(a63:KI K (.ref y_Spoken) "placed"=some (some (.ref x_46)))(h63:Fun K "placed" "Spoken.placed" vM x_46 d63)(fn63:Lt K (.ref x_46)=true)(h64:Fa K "is_place" "is_place" tW x_71 d64)(a65:KI K (.ref y_Row) "has_place"=some (some (.ref x_34)))(h65:Fun K "has_place" "Row.has_place" uL x_34 d65)(fn65:Lt K (.ref x_34)=true)(h66:Fa K "ways" "ways" uW x_91 d66)(a67:KI K (.ref y_Row) "place_paper"=some (some (.ref x_36)))(h67:Fun K "place_paper" "Row.place_paper" wj x_36 d67)(fn67:Lt K (.ref x_36)=true)(a68:KI K (.ref y_House) "placed"=some (some (.ref x_15)))(h68:Fun K "placed" "House.placed" vy x_15 d68)(fn68:Lt K (.ref x_15)=true)(a69:KI K (.ref y_Line) "full"=some (some (.ref x_22)))(h69:Fun K "full" "Line.full" vQ x_22 d69)(fn69:Lt K (.ref x_22)=true)(a70:KI K (.ref y_Spoken) "full"=some (some (.ref x_43)))(h70:Fun K "full" "Spoken.full" tT x_43 d70)(fn70:Lt K (.ref x_43)=true)(a71:KI K (.ref y_Fork) "aside"=some (some (.ref x_4)))(h71:Fun K "aside" "Fork.aside" s_4 x_4 d71)(fn71:Lt K (.ref x_4)=true)(h72:Fa K "slip_of" "slip_of" vw x_86 d72)(a73:KI K (.ref y_House) "full"=some (some (.ref x_11)))(h73:Fun K "full" "House.full" ve x_11 d73)(fn73:Lt K (.ref x_11)=true)(a74:KI K (.ref y_Line) "stretch"=some (some (.ref x_26)))(h74:Fun K "stretch" "Line.stretch" we x_26 d74)(fn74:Lt K (.ref x_26)=true)(a75:KI K (.ref y_Spoken) "stretch"=some (some (.ref x_47)))(h75:Fun K "stretch" "Spoken.stretch" ul x_47 d75)(fn75:Lt K (.ref x_47)=true)(h76:Fa K "is_stretch" "is_stretch" vO x_73 d76)(h77:Fa K "check_stretch" "check_stretch" uI x_62 d77)(h78:Fa K "span" "span" vE x_87 d78)(h79:Fa K "meets" "meets" vd x_82 d79)(h80:Fa K "part_of" "part_of" uh x_84 d80)(h81:Fa K "stretch_of" "stretch_of" wD x_89 d81)(a82:KI K (.ref y_House) "stretch"=some (some (.ref x_17)))(h82:Fun K "stretch" "House.stretch" vJ x_17 d82)(fn82:Lt K (.ref x_17)=true)(h83:Fa K "_law_asked" "_law_asked" tK x_53 d83)(a84:KI K (.ref y_Line) "newest"=some (some (.ref x_24)))(h84:Fun K "newest" "Line.newest" wm x_24 d84)(fn84:Lt K (.ref x_24)=true)(a85:KI K (.ref y_Spoken) "newest"=some (some (.ref x_45)))(h85:Fun K "newest" "Spoken.newest" vk x_45 d85)(fn85:Lt K (.ref x_45)=true)(h86:Fa K "_law_spoken" "_law_spoken" tY x_58 d86)(h87:Fa K "law" "law" gZ x_78 d87)(tb_78:(Oj K "law").isSome=true)(pg_Knot:LY K y_Knot MH=true)(hd_Knot:LU K y_Knot=true)(po_Knot:LZ K y_Knot=true)(sa_Knot:KI K (.ref y_Knot) "__setattr__"=some (some (.builtin "object.__setattr__")))(na_Knot_term:KI K (.ref y_Knot) "term"=some none)(na_Knot_mark:KI K (.ref y_Knot) "mark"=some none)(pg_Bare:LY K y_Bare MH=true)(hd_Bare:LU K y_Bare=true)(po_Bare:LZ K y_Bare=true)(sa_Bare:KI K (.ref y_Bare) "__setattr__"=some (some (.builtin "object.__setattr__")))(na_Bare_term:KI K (.ref y_Bare) "term"=some none)(na_Bare_mark:KI K (.ref y_Bare) "mark"=some none)(pg_Seals:LY K y_Seals MH=true)(hd_Seals:LU K y_Seals=true)(po_Seals:LZ K y_Seals=true)(sa_Seals:KI K (.ref y_Seals) "__setattr__"=some (some (.builtin "object.__setattr__")))(na_Seals_sealed:KI K (.ref y_Seals) "sealed"=some none)(pg_Row:LY K y_Row MH=true)(hd_Row:LU K y_Row=true)(po_Row:LZ K y_Row=true)(sa_Row:KI K (.ref y_Row) "__setattr__"=some (some (.builtin "object.__setattr__")))(na_Row_stamper:KI K (.ref y_Row) "stamper"=some none)(na_Row_entries:KI K (.ref y_Row) "entries"=some none)(na_Row_tops:KI K (.ref y_Row) "tops"=some none)(pg_Table:LY K y_Table MH=true)(hd_Table:LU K y_Table=true)(po_Table:LZ K y_Table=true)(sa_Table:KI K (.ref y_Table) "__setattr__"=some (some (.builtin "object.__setattr__")))(na_Table_stamper:KI K (.ref y_Table) "stamper"=some none)(na_Table_bits:KI K (.ref y_Table) "bits"=some none)(na_Table_top:KI K (.ref y_Table) "top"=some none)(pg_Numbers:LY K y_Numbers MH=true)(hd_Numbers:LU K y_Numbers=true)(po_Numbers:LZ K y_Numbers=true)(sa_Numbers:KI K (.ref y_Numbers) "__setattr__"=some (some (.builtin "object.__setattr__")))(na_Numbers_given:KI K (.ref y_Numbers) "given"=some none)(pg_Fork:LY K y_Fork MH=true)(hd_Fork:LU K y_Fork=true)(po_Fork:LZ K y_Fork=true)(sa_Fork:KI K (.ref y_Fork) "__setattr__"=some (some (.builtin "object.__setattr__")))(na_Fork_depth:KI K (.ref y_Fork) "depth"=some none)(na_Fork_begin:KI K (.ref y_Fork) "begin"=some none)(na_Fork_left:KI K (.ref y_Fork) "left"=some none)(na_Fork_right:KI K (.ref y_Fork) "right"=some none)(na_Fork_term:KI K (.ref y_Fork) "term"=some none)(na_Fork_mark:KI K (.ref y_Fork) "mark"=some none)(pg_Leaf:LY K y_Leaf MH=true)(hd_Leaf:LU K y_Leaf=true)(po_Leaf:LZ K y_Leaf=true)(sa_Leaf:KI K (.ref y_Leaf) "__setattr__"=some (some (.builtin "object.__setattr__")))(na_Leaf_key:KI K (.ref y_Leaf) "key"=some none)(na_Leaf_text:KI K (.ref y_Leaf) "text"=some none)(na_Leaf_term:KI K (.ref y_Leaf) "term"=some none)(na_Leaf_mark:KI K (.ref y_Leaf) "mark"=some none)(pg_House:LY K y_House MH=true)(hd_House:LU K y_House=true)(po_House:LZ K y_House=true)(sa_House:KI K (.ref y_House) "__setattr__"=some (some (.builtin "object.__setattr__")))(na_House_table:KI K (.ref y_House) "table"=some none)(na_House_row:KI K (.ref y_House) "row"=some none)(na_House_makes:KI K (.ref y_House) "makes"=some none)(na_House_seals:KI K (.ref y_House) "seals"=some none)(pg_Spoken:LY K y_Spoken MH=true)(hd_Spoken:LU K y_Spoken=true)(po_Spoken:LZ K y_Spoken=true)(sa_Spoken:KI K (.ref y_Spoken) "__setattr__"=some (some (.builtin "object.__setattr__")))(na_Spoken_answerer:KI K (.ref y_Spoken) "answerer"=some none)(pg_Line:LY K y_Line MH=true)(hd_Line:LU K y_Line=true)(po_Line:LZ K y_Line=true)(sa_Line:KI K (.ref y_Line) "__setattr__"=some (some (.builtin "object.__setattr__")))(cg_Knot:NU K (.ref y_Knot) "__getattribute__"=some (some (.builtin "type.__getattribute__")))(cr_Knot:W.readsIn K y_Knot (.type "type")=true)(cv_Knot:W.findCls K (.ref y_Knot) (.type "type") "__init__"=some (.val (.ref x_18)))(cw_Knot:OX (.ref x_18)=true)(oig:NU K (.builtin "object.__class__") "__get__"=some (some (.builtin "getset_descriptor.__get__")))(oit:QH K (.builtin "object.__class__")=some true)(oic_Bare:KI K (.ref y_Bare) "__class__"=some (some (.builtin "object.__class__")))(oim_Bare:OL K y_Bare (.type "object")=some true)(oic_Fork:KI K (.ref y_Fork) "__class__"=some (some (.builtin "object.__class__")))(oim_Fork:OL K y_Fork (.type "object")=some true)(oic_Leaf:KI K (.ref y_Leaf) "__class__"=some (some (.builtin "object.__class__")))(oim_Leaf:OL K y_Leaf (.type "object")=some true)(oic_House:KI K (.ref y_House) "__class__"=some (some (.builtin "object.__class__")))(oim_House:OL K y_House (.type "object")=some true)(oic_Spoken:KI K (.ref y_Spoken) "__class__"=some (some (.builtin "object.__class__")))(oim_Spoken:OL K y_Spoken (.type "object")=some true)(ko_Bare_Fork:MF K (.ref y_Bare) (.ref y_Fork)=some false)(ko_Fork_Fork:MF K (.ref y_Fork) (.ref y_Fork)=some true)(ko_Leaf_Fork:MF K (.ref y_Leaf) (.ref y_Fork)=some false)(ko_House_Line:MF K (.ref y_House) (.ref y_Line)=some true)(ko_Spoken_Line:MF K (.ref y_Spoken) (.ref y_Line)=some true)(mk_Bare:Mt K y_Bare=true)(kc_Bare:Mg K (.ref y_Bare)=true)(mk_Row:Mt K y_Row=true)(kc_Row:Mg K (.ref y_Row)=true)(mk_Table:Mt K y_Table=true)(kc_Table:Mg K (.ref y_Table)=true)(mk_Numbers:Mt K y_Numbers=true)(kc_Numbers:Mg K (.ref y_Numbers)=true)(mk_Leaf:Mt K y_Leaf=true)(kc_Leaf:Mg K (.ref y_Leaf)=true)(mk_Fork:Mt K y_Fork=true)(kc_Fork:Mg K (.ref y_Fork)=true)(mk_Spoken:Mt K y_Spoken=true)(kc_Spoken:Mg K (.ref y_Spoken)=true)(mk_House:Mt K y_House=true)(kc_House:Mg K (.ref y_House)=true)(mk_Seals:Mt K y_Seals=true)(kc_Seals:Mg K (.ref y_Seals)=true)(mk_Line:Mt K y_Line=true)(kc_Line:Mg K (.ref y_Line)=true)(mi_Line:KI K (.ref y_Line) "__init__"=some (some (.builtin "object.__init__")))(z_all:Ms K mainGlobals "all"=some none)(z_bool:Ms K mainGlobals "bool"=some none)(z_int:Ms K mainGlobals "int"=some none)(z_isinstance:Ms K mainGlobals "isinstance"=some none)(z_len:Ms K mainGlobals "len"=some none)(z_list:Ms K mainGlobals "list"=some none)(z_max:Ms K mainGlobals "max"=some none)(z_min:Ms K mainGlobals "min"=some none)(z_range:Ms K mainGlobals "range"=some none)(z_str:Ms K mainGlobals "str"=some none)(z_tuple:Ms K mainGlobals "tuple"=some none)(c_MOST_BITS:Ms K mainGlobals "MOST_BITS"=some (some (.int 60 tc0)))(c_MOST_PARTS:Ms K mainGlobals "MOST_PARTS"=some (some (.int 8 tc1)))(c_MOST_SIGNS:Ms K mainGlobals "MOST_SIGNS"=some (some (.int 60 tc2)))(nt:Pe K=true)(td:lg K ["counting","law"]=true):qQ P w K mg fa:=by
 cases hfa.symm.trans (Mh X G h87.m)
 obtain⟨⟨z_63,t_63⟩,tb_63⟩:=Ly.mp tb_63
 obtain⟨⟨z_78,t_78⟩,tb_78⟩:=Ly.mp tb_78
 have tdn:([t_63,t_78]:List Addr).Nodup:=uY (by unfold lg at td;simp only[LJ,OZ,tb_63,tb_78,MZ]at td;exact of_decide_eq_true td)
 exact zu (A:=⟨x_76,d0,x_72,d1,x_74,d2,x_28,d3,x_55,d4,x_66,d5,x_18,d6,x_0,d7,x_48,d8,x_29,d9,x_67,d10,x_69,d11,x_61,d12,x_41,d13,x_90,d14,x_83,d15,x_10,d16,x_27,d17,x_63,d18,x_40,d19,x_70,d20,x_1,d21,x_20,d22,x_85,d23,x_8,d24,x_6,d25,x_52,d26,x_75,d27,x_19,d28,x_2,d29,x_88,d30,x_3,d31,x_77,d32,x_60,d33,x_21,d34,x_7,d35,x_5,d36,x_9,d37,x_49,d38,x_16,d39,x_57,d40,x_30,d41,x_50,d42,x_51,d43,x_37,d44,x_68,d45,x_33,d46,x_65,d47,x_39,d48,x_38,d49,x_35,d50,x_14,d51,x_13,d52,x_42,d53,x_56,d54,x_59,d55,x_54,d56,x_23,d57,x_44,d58,x_31,d59,x_32,d60,x_12,d61,x_25,d62,x_46,d63,x_71,d64,x_34,d65,x_91,d66,x_36,d67,x_15,d68,x_22,d69,x_43,d70,x_4,d71,x_86,d72,x_11,d73,x_26,d74,x_47,d75,x_73,d76,x_62,d77,x_87,d78,x_82,d79,x_84,d80,x_89,d81,x_17,d82,x_53,d83,x_24,d84,x_45,d85,x_58,d86,fa,d87,z_63,t_63,z_78,t_78,y_Knot,y_Bare,y_Seals,y_Row,y_Table,y_Numbers,y_Fork,y_Leaf,y_House,y_Spoken,y_Line⟩) ⟨h0.fm1 X G,h1.fm1 X G,h2.fm1 X G,h3,h3.b2,h4.fm2 X G,h5.fm1 X G,h6,h6.b3,h7,h7.b2,h8,h8.b3,h9,h9.b2,h10.fm1 X G,h11.fm1 X G,h12.fm1 X G,h13,h13.b2,h14.fm1 X G,h15.fm1 X G,h16,h16.b4,h17,h17.b1,h18.fm0 X G,h19,h19.b1,h20.fm2 X G,h21,h21.b3,h22,h22.b3,h23.fm3 X G,h24,h24.b3,h25,h25.b3,h26,h26.b2,h27.fm1 X G,h28,h28.b4,h29,h29.b5,h30.fm3 X G,h31,h31.b6,h32.fm5 X G,h33.fm3 X G,h34,h34.b5,h35,h35.b3,h36,h36.b5,h37,h37.b5,h38,h38.b3,h39,h39.b3,h40.fm2 X G,h41,h41.b2,h42,h42.b1,h43,h43.b1,h44,h44.b1,h45.fm2 X G,h46,h46.b3,h47.fm1 X G,h48,h48.b3,h49,h49.b3,h50,h50.b2,h51,h51.b1,h52,h52.b1,h53,h53.b2,h54.fm4 X G,h55.fm2 X G,h56.fm4 X G,h57,h57.b3,h58,h58.b3,h59,h59.b4,h60,h60.b3,h61,h61.b3,h62,h62.b3,h63,h63.b3,h64.fm2 X G,h65,h65.b3,h66.fm2 X G,h67,h67.b3,h68,h68.b3,h69,h69.b4,h70,h70.b4,h71,h71.b3,h72.fm2 X G,h73,h73.b4,h74,h74.b5,h75,h75.b5,h76.fm3 X G,h77.fm3 X G,h78.fm3 X G,h79.fm5 X G,h80.fm6 X G,h81.fm3 X G,h82,h82.b5,h83.fm2 X G,h84,h84.b1,h85,h85.b1,h86.fm4 X G,h87.fm1 X G,Mf X G z_all,Mf X G z_bool,Mf X G z_int,Mf X G z_isinstance,Mf X G z_len,Mf X G z_list,Mf X G z_max,Mf X G z_min,Mf X G z_range,Mf X G z_str,Mf X G z_tuple,⟨_,Mh X G c_MOST_BITS⟩,⟨_,Mh X G c_MOST_PARTS⟩,⟨_,Mh X G c_MOST_SIGNS⟩,h18.code X G tb_63,h87.code X G tb_78,Mh X G bo_Knot,⟨pg_Knot,hd_Knot,po_Knot,sa_Knot⟩,na_Knot_term,na_Knot_mark,Mh X G bo_Bare,⟨pg_Bare,hd_Bare,po_Bare,sa_Bare⟩,na_Bare_term,na_Bare_mark,Mh X G bo_Seals,⟨pg_Seals,hd_Seals,po_Seals,sa_Seals⟩,na_Seals_sealed,Mh X G bo_Row,⟨pg_Row,hd_Row,po_Row,sa_Row⟩,na_Row_stamper,na_Row_entries,na_Row_tops,Mh X G bo_Table,⟨pg_Table,hd_Table,po_Table,sa_Table⟩,na_Table_stamper,na_Table_bits,na_Table_top,Mh X G bo_Numbers,⟨pg_Numbers,hd_Numbers,po_Numbers,sa_Numbers⟩,na_Numbers_given,Mh X G bo_Fork,⟨pg_Fork,hd_Fork,po_Fork,sa_Fork⟩,na_Fork_depth,na_Fork_begin,na_Fork_left,na_Fork_right,na_Fork_term,na_Fork_mark,Mh X G bo_Leaf,⟨pg_Leaf,hd_Leaf,po_Leaf,sa_Leaf⟩,na_Leaf_key,na_Leaf_text,na_Leaf_term,na_Leaf_mark,Mh X G bo_House,⟨pg_House,hd_House,po_House,sa_House⟩,na_House_table,na_House_row,na_House_makes,na_House_seals,Mh X G bo_Spoken,⟨pg_Spoken,hd_Spoken,po_Spoken,sa_Spoken⟩,na_Spoken_answerer,Mh X G bo_Line,⟨pg_Line,hd_Line,po_Line,sa_Line⟩,⟨a13,fn13,h13.kp⟩,⟨a24,fn24,h24.kp⟩,⟨a21,fn21,h21.kp⟩,⟨a22,fn22,h22.kp⟩,⟨a25,fn25,h25.kp⟩,⟨a36,fn36,h36.kp⟩,⟨a29,fn29,h29.kp⟩,⟨a34,fn34,h34.kp⟩,⟨a37,fn37,h37.kp⟩,⟨a35,fn35,h35.kp⟩,⟨a26,fn26,h26.kp⟩,⟨a38,fn38,h38.kp⟩,⟨a44,fn44,h44.kp⟩,⟨a49,fn49,h49.kp⟩,⟨a48,fn48,h48.kp⟩,⟨a46,fn46,h46.kp⟩,⟨a50,fn50,h50.kp⟩,⟨a51,fn51,h51.kp⟩,⟨a43,fn43,h43.kp⟩,⟨a41,fn41,h41.kp⟩,⟨a42,fn42,h42.kp⟩,⟨a59,fn59,h59.kp⟩,⟨a60,fn60,h60.kp⟩,⟨a65,fn65,h65.kp⟩,⟨a67,fn67,h67.kp⟩,⟨a71,fn71,h71.kp⟩,⟨a68,fn68,h68.kp⟩,⟨a74,fn74,h74.kp⟩,⟨a75,fn75,h75.kp⟩,⟨a82,fn82,h82.kp⟩,⟨a69,fn69,h69.kp⟩,⟨a70,fn70,h70.kp⟩,⟨a73,fn73,h73.kp⟩,⟨a62,fn62,h62.kp⟩,⟨a63,fn63,h63.kp⟩,⟨a57,fn57,h57.kp⟩,⟨a58,fn58,h58.kp⟩,⟨a61,fn61,h61.kp⟩,⟨a85,fn85,h85.kp⟩,⟨a84,fn84,h84.kp⟩,⟨a52,fn52,h52.kp⟩,⟨a39,fn39,h39.kp⟩,⟨a3,fn3,h3.kp⟩,⟨mk_Bare,a7,fn7,kc_Bare⟩,⟨mk_Row,a9,fn9,kc_Row⟩,⟨mk_Table,a8,fn8,kc_Table⟩,⟨mk_Numbers,a17,fn17,kc_Numbers⟩,⟨mk_Leaf,a28,fn28,kc_Leaf⟩,⟨mk_Fork,a31,fn31,kc_Fork⟩,⟨mk_Spoken,a53,fn53,kc_Spoken⟩,⟨mk_House,a16,fn16,kc_House⟩,⟨mk_Seals,a19,fn19,kc_Seals⟩,⟨mk_Line,mi_Line,kc_Line⟩,⟨cg_Knot,cr_Knot,cv_Knot,cw_Knot,h6.kp⟩,⟨oic_Bare,oig,oit,oim_Bare⟩,⟨oic_Fork,oig,oit,oim_Fork⟩,⟨oic_Leaf,oig,oit,oim_Leaf⟩,⟨oic_House,oig,oit,oim_House⟩,⟨oic_Spoken,oig,oit,oim_Spoken⟩,ko_Bare_Fork,ko_Fork_Fork,ko_Leaf_Fork,ko_House_Line,ko_Spoken_Line⟩ nt tb_63 tb_78 tdn
theorem JY {l:W.OpenLaw}{q:Lf}{loose:List Str}{XP:(Str->Option pv)->Heap->Prop}{YP:LA->Heap->Prop}{d:DefRec}{K:Params->cW}(hn:l.most=some 63)(hdf:d.params.defaults=[])
  (hY:∀(w:LA)(h:Heap),YP w h->(K w.params).In h)(hq:∀y∈(["counting","law"]:List Str),((Ot q).find? fun e=>e.name==y).isSome=true)
  (F:∀(w:LA)(mg:Str->Option pv)(fa:Addr)(h:Heap),(K w.params).In h->h.Ns mainGlobals mg->mg d.name=some (.ref fa)->qQ l.prog w (K w.params) mg fa):
  W.WalkO q loose XP YP l.row.toRowW d [] (fun f vs=>Ps f vs):=
 L2.vm (n:=63) (k:=220) (x:="_law_script") (CX:=fun w=>CX1 l.prog w) hn (by decide) hdf ⟨rfl,by decide,by decide⟩ hY hq F fun _ _ _ _ _ ⟨_,_,_,_,_,_,z⟩=>z
end
end Rs
def PySem.W.Fast.tw5496006472723724360:Unit:=()
def PySem.W.Fast.tw18294167397825928349:Unit:=()
def PySem.W.Fast.tw7126133482302799344:Unit:=()
def PySem.W.Fast.tw5147634676198795237:Unit:=()
def PySem.W.Fast.tw1902694743907091641:Unit:=()
def PySem.W.Fast.tw16163412660063531004:Unit:=()
def PySem.W.Fast.tw10852355723989437979:Unit:=()
def PySem.W.Fast.tw16995424695039442613:Unit:=()
def PySem.W.Fast.tw4006403645476142332:Unit:=()
def PySem.W.Fast.tw18141119738004662364:Unit:=()
def PySem.W.Fast.tw15530415792182720703:Unit:=()
def PySem.W.Fast.tw14396055516698938611:Unit:=()
def PySem.W.Fast.tw1960083635650249610:Unit:=()
def PySem.W.Fast.tw1097767627105934833:Unit:=()
def PySem.W.Fast.tw17533748019187662722:Unit:=()
def PySem.W.Fast.tw3640082404097118143:Unit:=()
def PySem.W.Fast.tw5523680912814420539:Unit:=()
def PySem.W.Fast.tw1872646815908597319:Unit:=()
def PySem.W.Fast.tw16855344106134352223:Unit:=()
def PySem.W.Fast.tw11245013715471086491:Unit:=()
def PySem.W.Fast.tw10972122127450995871:Unit:=()
def PySem.W.Fast.tw8871562674845736061:Unit:=()
def PySem.W.Fast.tw16366458759903053961:Unit:=()
def PySem.W.Fast.tw17565580906582868816:Unit:=()
def PySem.W.Fast.tw880132513351930543:Unit:=()
def PySem.W.Fast.tw10805500932555958193:Unit:=()
def PySem.W.Fast.tw8336908106165416790:Unit:=()
def PySem.W.Fast.tw94280830857586331:Unit:=()
def PySem.W.Fast.tw12053499667903786406:Unit:=()
def PySem.W.Fast.tw13864551414037421289:Unit:=()
def PySem.W.Fast.tw12426354593760885934:Unit:=()
def PySem.W.Fast.tw16366398324147366914:Unit:=()
def PySem.W.Fast.tw4527622236877372703:Unit:=()
def PySem.W.Fast.tw1160880731753222779:Unit:=()
def PySem.W.Fast.tw14377137240687208386:Unit:=()
def PySem.W.Fast.tw16471836760899464225:Unit:=()
def PySem.W.Fast.tw6506184925555912809:Unit:=()
def PySem.W.Fast.tw15860264012434573745:Unit:=()
def PySem.W.Fast.tw11407095894650573185:Unit:=()
def PySem.W.Fast.tw14617245316393115132:Unit:=()
def PySem.W.Fast.tw15900138814537370355:Unit:=()
def PySem.W.Fast.tw13551131638831932118:Unit:=()
def PySem.W.Fast.tw5471713640457638587:Unit:=()
def PySem.W.Fast.tw3637658850226519156:Unit:=()
def PySem.W.Fast.tw8444365499056214641:Unit:=()
def PySem.W.Fast.tw13126410878484272733:Unit:=()
def PySem.W.Fast.tw687338094359969943:Unit:=()
def PySem.W.Fast.tw16769617186982308612:Unit:=()
def PySem.W.Fast.tw15274321642438851766:Unit:=()
def PySem.W.Fast.tw7225687857601703624:Unit:=()
def PySem.W.Fast.tw5901340049139184359:Unit:=()
def PySem.W.Fast.tw9401443701386071852:Unit:=()
def PySem.W.Fast.tw17663067607225523117:Unit:=()
def PySem.W.Fast.tw5712470602330096992:Unit:=()
def PySem.W.Fast.tw14155793908375252225:Unit:=()
def PySem.W.Fast.tw285451032547968728:Unit:=()
def PySem.W.Fast.tw14583212605100752468:Unit:=()
def PySem.W.Fast.tw4931627580860231066:Unit:=()
def PySem.W.Fast.tw3363431984573429430:Unit:=()
def PySem.W.Fast.tw13933955442075405977:Unit:=()
def PySem.W.Fast.tw13949282677197438776:Unit:=()
def PySem.W.Fast.tw5755103474317942304:Unit:=()
def PySem.W.Fast.tw1319817326054576341:Unit:=()
def PySem.W.Fast.tw11417624546365500681:Unit:=()
def PySem.W.Fast.tw18342341155653187440:Unit:=()
def PySem.W.Fast.tw9770782477446985187:Unit:=()
def PySem.W.Fast.tw4253016769911406944:Unit:=()
def PySem.W.Fast.tw5138939851671299199:Unit:=()
def PySem.W.Fast.tw11144937547642374682:Unit:=()
def PySem.W.Fast.tw2259384455164492292:Unit:=()
def PySem.W.Fast.tw10254651407141281688:Unit:=()
def PySem.W.Fast.tw15207231188303232381:Unit:=()
def PySem.W.Fast.tw6651054536090269490:Unit:=()
def PySem.W.Fast.tw10284401587052685960:Unit:=()
def PySem.W.Fast.tw6429097926645961482:Unit:=()
def PySem.W.Fast.tw5070114918897659087:Unit:=()
def PySem.W.Fast.tw7000530708675564358:Unit:=()
def PySem.W.Fast.tw9317840655486894421:Unit:=()
def PySem.W.Fast.tw7507103179383337032:Unit:=()
def PySem.W.Fast.tw12389296966016643122:Unit:=()
def PySem.W.Fast.tw17279553718684877672:Unit:=()
def PySem.W.Fast.tw7122698071848912978:Unit:=()
def PySem.W.Fast.tw13638727214279114955:Unit:=()
def PySem.W.Fast.tw11590815366708389766:Unit:=()
def PySem.W.Fast.tw6485231682934798274:Unit:=()
def PySem.W.Fast.tw17854136361755880173:Unit:=()
open PySem PySem.W PyProof.Rows
set_option maxRecDepth 100000 in
set_option maxHeartbeats 0 in
theorem PySem.Challenge.cw_rootstamp_k56_no_answers_holds : PySem.Challenge.rw_rootstamp_k56_no_answers.Holds := by
 w_on; o_law; k_head; (case hw => w_witness2)
 k_fill
 refine Rs.JY (l := PySem.Challenge.rw_rootstamp_k56_no_answers) rfl rfl (fun w h Y => by first | exact PySem.W.kIn_of Y | exact PySem.W.km_in_of Y) (by decide +kernel) ?F
 case F =>
  intro w mg fa h KX G hmg
  refine' Rs.zK KX G hmg ?bo_Knot ?bo_Bare ?bo_Seals ?bo_Row ?bo_Table ?bo_Numbers ?bo_Fork ?bo_Leaf ?bo_House ?bo_Spoken ?bo_Line (L2.bz ?a0 ?l0 ?c0 ?k0) (L2.bz ?a1 ?l1 ?c1 ?k1) (L2.bz ?a2 ?l2 ?c2 ?k2) ?a3 (L2.aH ?l3 ?c3 ?k3) ?fn3 (L2.bz ?a4 ?l4 ?c4 ?k4) (L2.bz ?a5 ?l5 ?c5 ?k5) ?a6 (L2.aH ?l6 ?c6 ?k6) ?fn6 ?a7 (L2.aH ?l7 ?c7 ?k7) ?fn7 ?a8 (L2.aH ?l8 ?c8 ?k8) ?fn8 ?a9 (L2.aH ?l9 ?c9 ?k9) ?fn9 (L2.bz ?a10 ?l10 ?c10 ?k10) (L2.bz ?a11 ?l11 ?c11 ?k11) (L2.bz ?a12 ?l12 ?c12 ?k12) ?a13 (L2.aH ?l13 ?c13 ?k13) ?fn13 (L2.bz ?a14 ?l14 ?c14 ?k14) (L2.bz ?a15 ?l15 ?c15 ?k15) ?a16 (L2.aH ?l16 ?c16 ?k16) ?fn16 ?a17 (L2.aH ?l17 ?c17 ?k17) ?fn17 (L2.bz ?a18 ?l18 ?c18 ?k18) ?tb_63 ?a19 (L2.aH ?l19 ?c19 ?k19) ?fn19 (L2.bz ?a20 ?l20 ?c20 ?k20) ?a21 (L2.aH ?l21 ?c21 ?k21) ?fn21 ?a22 (L2.aH ?l22 ?c22 ?k22) ?fn22 (L2.bz ?a23 ?l23 ?c23 ?k23) ?a24 (L2.aH ?l24 ?c24 ?k24) ?fn24 ?a25 (L2.aH ?l25 ?c25 ?k25) ?fn25 ?a26 (L2.aH ?l26 ?c26 ?k26) ?fn26 (L2.bz ?a27 ?l27 ?c27 ?k27) ?a28 (L2.aH ?l28 ?c28 ?k28) ?fn28 ?a29 (L2.aH ?l29 ?c29 ?k29) ?fn29 (L2.bz ?a30 ?l30 ?c30 ?k30) ?a31 (L2.aH ?l31 ?c31 ?k31) ?fn31 (L2.bz ?a32 ?l32 ?c32 ?k32) (L2.bz ?a33 ?l33 ?c33 ?k33) ?a34 (L2.aH ?l34 ?c34 ?k34) ?fn34 ?a35 (L2.aH ?l35 ?c35 ?k35) ?fn35 ?a36 (L2.aH ?l36 ?c36 ?k36) ?fn36 ?a37 (L2.aH ?l37 ?c37 ?k37) ?fn37 ?a38 (L2.aH ?l38 ?c38 ?k38) ?fn38 ?a39 (L2.aH ?l39 ?c39 ?k39) ?fn39 (L2.bz ?a40 ?l40 ?c40 ?k40) ?a41 (L2.aH ?l41 ?c41 ?k41) ?fn41 ?a42 (L2.aH ?l42 ?c42 ?k42) ?fn42 ?a43 (L2.aH ?l43 ?c43 ?k43) ?fn43 ?a44 (L2.aH ?l44 ?c44 ?k44) ?fn44 (L2.bz ?a45 ?l45 ?c45 ?k45) ?a46 (L2.aH ?l46 ?c46 ?k46) ?fn46 (L2.bz ?a47 ?l47 ?c47 ?k47) ?a48 (L2.aH ?l48 ?c48 ?k48) ?fn48 ?a49 (L2.aH ?l49 ?c49 ?k49) ?fn49 ?a50 (L2.aH ?l50 ?c50 ?k50) ?fn50 ?a51 (L2.aH ?l51 ?c51 ?k51) ?fn51 ?a52 (L2.aH ?l52 ?c52 ?k52) ?fn52 ?a53 (L2.aH ?l53 ?c53 ?k53) ?fn53 (L2.bz ?a54 ?l54 ?c54 ?k54) (L2.bz ?a55 ?l55 ?c55 ?k55) (L2.bz ?a56 ?l56 ?c56 ?k56) ?a57 (L2.aH ?l57 ?c57 ?k57) ?fn57 ?a58 (L2.aH ?l58 ?c58 ?k58) ?fn58 ?a59 (L2.aH ?l59 ?c59 ?k59) ?fn59 ?a60 (L2.aH ?l60 ?c60 ?k60) ?fn60 ?a61 (L2.aH ?l61 ?c61 ?k61) ?fn61 ?a62 (L2.aH ?l62 ?c62 ?k62) ?fn62 ?a63 (L2.aH ?l63 ?c63 ?k63) ?fn63 (L2.bz ?a64 ?l64 ?c64 ?k64) ?a65 (L2.aH ?l65 ?c65 ?k65) ?fn65 (L2.bz ?a66 ?l66 ?c66 ?k66) ?a67 (L2.aH ?l67 ?c67 ?k67) ?fn67 ?a68 (L2.aH ?l68 ?c68 ?k68) ?fn68 ?a69 (L2.aH ?l69 ?c69 ?k69) ?fn69 ?a70 (L2.aH ?l70 ?c70 ?k70) ?fn70 ?a71 (L2.aH ?l71 ?c71 ?k71) ?fn71 (L2.bz ?a72 ?l72 ?c72 ?k72) ?a73 (L2.aH ?l73 ?c73 ?k73) ?fn73 ?a74 (L2.aH ?l74 ?c74 ?k74) ?fn74 ?a75 (L2.aH ?l75 ?c75 ?k75) ?fn75 (L2.bz ?a76 ?l76 ?c76 ?k76) (L2.bz ?a77 ?l77 ?c77 ?k77) (L2.bz ?a78 ?l78 ?c78 ?k78) (L2.bz ?a79 ?l79 ?c79 ?k79) (L2.bz ?a80 ?l80 ?c80 ?k80) (L2.bz ?a81 ?l81 ?c81 ?k81) ?a82 (L2.aH ?l82 ?c82 ?k82) ?fn82 (L2.bz ?a83 ?l83 ?c83 ?k83) ?a84 (L2.aH ?l84 ?c84 ?k84) ?fn84 ?a85 (L2.aH ?l85 ?c85 ?k85) ?fn85 (L2.bz ?a86 ?l86 ?c86 ?k86) (L2.bz ?a87 ?l87 ?c87 ?k87) ?tb_78 ?pg_Knot ?hd_Knot ?po_Knot ?sa_Knot ?na_Knot_term ?na_Knot_mark ?pg_Bare ?hd_Bare ?po_Bare ?sa_Bare ?na_Bare_term ?na_Bare_mark ?pg_Seals ?hd_Seals ?po_Seals ?sa_Seals ?na_Seals_sealed ?pg_Row ?hd_Row ?po_Row ?sa_Row ?na_Row_stamper ?na_Row_entries ?na_Row_tops ?pg_Table ?hd_Table ?po_Table ?sa_Table ?na_Table_stamper ?na_Table_bits ?na_Table_top ?pg_Numbers ?hd_Numbers ?po_Numbers ?sa_Numbers ?na_Numbers_given ?pg_Fork ?hd_Fork ?po_Fork ?sa_Fork ?na_Fork_depth ?na_Fork_begin ?na_Fork_left ?na_Fork_right ?na_Fork_term ?na_Fork_mark ?pg_Leaf ?hd_Leaf ?po_Leaf ?sa_Leaf ?na_Leaf_key ?na_Leaf_text ?na_Leaf_term ?na_Leaf_mark ?pg_House ?hd_House ?po_House ?sa_House ?na_House_table ?na_House_row ?na_House_makes ?na_House_seals ?pg_Spoken ?hd_Spoken ?po_Spoken ?sa_Spoken ?na_Spoken_answerer ?pg_Line ?hd_Line ?po_Line ?sa_Line ?cg_Knot ?cr_Knot ?cv_Knot ?cw_Knot ?oig ?oit ?oic_Bare ?oim_Bare ?oic_Fork ?oim_Fork ?oic_Leaf ?oim_Leaf ?oic_House ?oim_House ?oic_Spoken ?oim_Spoken ?ko_Bare_Fork ?ko_Fork_Fork ?ko_Leaf_Fork ?ko_House_Line ?ko_Spoken_Line ?mk_Bare ?kc_Bare ?mk_Row ?kc_Row ?mk_Table ?kc_Table ?mk_Numbers ?kc_Numbers ?mk_Leaf ?kc_Leaf ?mk_Fork ?kc_Fork ?mk_Spoken ?kc_Spoken ?mk_House ?kc_House ?mk_Seals ?kc_Seals ?mk_Line ?kc_Line ?mi_Line ?z_all ?z_bool ?z_int ?z_isinstance ?z_len ?z_list ?z_max ?z_min ?z_range ?z_str ?z_tuple ?c_MOST_BITS ?c_MOST_PARTS ?c_MOST_SIGNS ?nt ?td
  case bo_Knot | bo_Bare | bo_Seals | bo_Row | bo_Table | bo_Numbers | bo_Fork | bo_Leaf | bo_House | bo_Spoken | bo_Line | a0 | l0 | c0 | k0 | a1 | l1 | c1 | k1 | a2 | l2 | c2 | k2 | a3 | l3 | c3 | k3 | fn3 | a4 | l4 | c4 | k4 | a5 | l5 | c5 | k5 | a6 | l6 | c6 | k6 | fn6 | a7 | l7 | c7 | k7 | fn7 | a8 | l8 | c8 | k8 | fn8 | a9 | l9 | c9 | k9 | fn9 | a10 | l10 | c10 | k10 | a11 | l11 | c11 | k11 | a12 | l12 | c12 | k12 | a13 | l13 | c13 | k13 | fn13 | a14 | l14 | c14 | k14 | a15 | l15 | c15 | k15 | a16 | l16 | c16 | k16 | fn16 | a17 | l17 | c17 | k17 | fn17 | a18 | l18 | c18 | k18 => k_is
  case tb_63 => kernel_rfl
  case a19 | l19 | c19 | k19 | fn19 | a20 | l20 | c20 | k20 | a21 | l21 | c21 | k21 | fn21 | a22 | l22 | c22 | k22 | fn22 | a23 | l23 | c23 | k23 | a24 | l24 | c24 | k24 | fn24 | a25 | l25 | c25 | k25 | fn25 | a26 | l26 | c26 | k26 | fn26 | a27 | l27 | c27 | k27 | a28 | l28 | c28 | k28 | fn28 | a29 | l29 | c29 | k29 | fn29 | a30 | l30 | c30 | k30 | a31 | l31 | c31 | k31 | fn31 | a32 | l32 | c32 | k32 | a33 | l33 | c33 | k33 | a34 | l34 | c34 | k34 | fn34 | a35 | l35 | c35 | k35 | fn35 | a36 | l36 | c36 | k36 | fn36 | a37 | l37 | c37 | k37 | fn37 | a38 | l38 | c38 | k38 | fn38 | a39 | l39 | c39 | k39 | fn39 | a40 | l40 | c40 | k40 | a41 | l41 | c41 | k41 | fn41 | a42 | l42 | c42 | k42 | fn42 | a43 | l43 | c43 | k43 | fn43 | a44 | l44 | c44 | k44 | fn44 | a45 | l45 | c45 | k45 | a46 | l46 | c46 | k46 | fn46 | a47 | l47 | c47 | k47 | a48 | l48 | c48 | k48 | fn48 | a49 | l49 | c49 | k49 | fn49 | a50 | l50 | c50 | k50 | fn50 | a51 | l51 | c51 | k51 | fn51 | a52 | l52 | c52 | k52 | fn52 | a53 | l53 | c53 | k53 | fn53 | a54 | l54 | c54 | k54 | a55 | l55 | c55 | k55 | a56 | l56 | c56 | k56 | a57 | l57 | c57 | k57 | fn57 | a58 | l58 | c58 | k58 | fn58 | a59 | l59 | c59 | k59 | fn59 | a60 | l60 | c60 | k60 | fn60 | a61 | l61 | c61 | k61 | fn61 | a62 | l62 | c62 | k62 | fn62 | a63 | l63 | c63 | k63 | fn63 | a64 | l64 | c64 | k64 | a65 | l65 | c65 | k65 | fn65 | a66 | l66 | c66 | k66 | a67 | l67 | c67 | k67 | fn67 | a68 | l68 | c68 | k68 | fn68 | a69 | l69 | c69 | k69 | fn69 | a70 | l70 | c70 | k70 | fn70 | a71 | l71 | c71 | k71 | fn71 | a72 | l72 | c72 | k72 | a73 | l73 | c73 | k73 | fn73 | a74 | l74 | c74 | k74 | fn74 | a75 | l75 | c75 | k75 | fn75 | a76 | l76 | c76 | k76 | a77 | l77 | c77 | k77 | a78 | l78 | c78 | k78 | a79 | l79 | c79 | k79 | a80 | l80 | c80 | k80 | a81 | l81 | c81 | k81 | a82 | l82 | c82 | k82 | fn82 | a83 | l83 | c83 | k83 | a84 | l84 | c84 | k84 | fn84 | a85 | l85 | c85 | k85 | fn85 | a86 | l86 | c86 | k86 | a87 | l87 | c87 | k87 => k_is
  case tb_78 => kernel_rfl
  case pg_Knot | hd_Knot | po_Knot | sa_Knot | na_Knot_term | na_Knot_mark | pg_Bare | hd_Bare | po_Bare | sa_Bare | na_Bare_term | na_Bare_mark | pg_Seals | hd_Seals | po_Seals | sa_Seals | na_Seals_sealed | pg_Row | hd_Row | po_Row | sa_Row | na_Row_stamper | na_Row_entries | na_Row_tops | pg_Table | hd_Table | po_Table | sa_Table | na_Table_stamper | na_Table_bits | na_Table_top | pg_Numbers | hd_Numbers | po_Numbers | sa_Numbers | na_Numbers_given | pg_Fork | hd_Fork | po_Fork | sa_Fork | na_Fork_depth | na_Fork_begin | na_Fork_left | na_Fork_right | na_Fork_term | na_Fork_mark | pg_Leaf | hd_Leaf | po_Leaf | sa_Leaf | na_Leaf_key | na_Leaf_text | na_Leaf_term | na_Leaf_mark | pg_House | hd_House | po_House | sa_House | na_House_table | na_House_row | na_House_makes | na_House_seals | pg_Spoken | hd_Spoken | po_Spoken | sa_Spoken | na_Spoken_answerer | pg_Line | hd_Line | po_Line | sa_Line => k_is
  case cg_Knot | cr_Knot | cv_Knot | cw_Knot | oig | oit | oic_Bare | oim_Bare | oic_Fork | oim_Fork | oic_Leaf | oim_Leaf | oic_House | oim_House | oic_Spoken | oim_Spoken => first | k_is | kernel_rfl
  case ko_Bare_Fork | ko_Fork_Fork | ko_Leaf_Fork | ko_House_Line | ko_Spoken_Line => kit_is
  case mk_Bare | kc_Bare | mk_Row | kc_Row | mk_Table | kc_Table | mk_Numbers | kc_Numbers | mk_Leaf | kc_Leaf | mk_Fork | kc_Fork | mk_Spoken | kc_Spoken | mk_House | kc_House | mk_Seals | kc_Seals | mk_Line | kc_Line | mi_Line | z_all | z_bool | z_int | z_isinstance | z_len | z_list | z_max | z_min | z_range | z_str | z_tuple | c_MOST_BITS | c_MOST_PARTS | c_MOST_SIGNS => k_is
  case nt | td => kernel_rfl
