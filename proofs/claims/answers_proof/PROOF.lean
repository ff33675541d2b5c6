import PyProof.Rows.All
import Wide.All
import OpenK.AllK
import Wide.FinOn
import PyProof.EqAt
import PyProof.EqKinds
import PyProof.TupleCall
import KE.BitLaws
import KE.KMinKey
import KE.KLam
import KE.KDictSum
import Open.SpecLaws
import KE.OsHead
import KE.OsGo
import PySem.Challenge.RW_caretakers_s01_answers
set_option Elab.async false
set_option linter.all false
set_option maxRecDepth 100000
set_option maxHeartbeats 0
set_option autoImplicit true
set_option relaxedAutoImplicit true
open Array renaming getElem?_toList->LL,length_toList->yE,mem_toList_iff->Mj,toList->WD
open Bool renaming and_assoc->ly,and_eq_true->aW,and_eq_true_iff->Nk,and_false->VM,and_true->ko,beq_eq_decide_eq->oJ,eq_false_iff->QG,eq_iff_iff->vK,false_and->jg,false_eq_true->AU,false_ne_true->aU,false_or->J1,noConfusion->a0,true_and->o9,true_or->LK
open Classical renaming byContradiction->g_
open False renaming elim->fL
open ForInStep renaming yield->t_
open Int renaming ofNat->T4,toNat_natCast->Tv,toNat_of_nonneg->gQ
open List renaming all_cons->mj,all_eq_true->gY,all_map->LJ,any_cons->t9,any_eq_true->Tu,append_assoc->iT,append_nil->cE,dropWhile_cons->OF,dropWhile_sublist->vD,drop_drop->x8,drop_eq_getElem_cons->fU,drop_eq_nil_of_le->nG,drop_length->o6,drop_succ_cons->OE,drop_zero->x6,erase_cons_head->pB,erase_cons_tail->pA,ext_getElem?->QF,filterMap_cons->zo,filter_append->bM,filter_congr->sR,filter_cons->aZ,filter_cons_of_neg->J8,filter_cons_of_pos->J7,filter_eq_self->lW,filter_filter->AS,filter_map->T3,filter_nil->cx,filter_sublist->OD,find?_append->QE,find?_cons->dS,find?_eq_none->hZ,find?_some->F_,findIdx_cons->QD,flatMap_append->eO,flatMap_cons->bU,flatMap_map->Tt,foldl_append->gy,foldl_cons->cP,forIn_cons->F9,forIn_nil->x5,getD_eq_getElem?_getD->bo,getElem?_append_left->cq,getElem?_append_right->dA,getElem?_drop->mH,getElem?_eq_getElem->aS,getElem?_eq_none->fZ,getElem?_eq_some_iff->aP,getElem?_map->aM,getElem?_reverse->Mh,getElem?_set->QC,getElem?_set_ne->xZ,getElem?_set_self->vC,getElem?_take_of_lt->iX,getElem?_zip_eq_some->Ig,getElem_inj->Ts,head?_drop->T1,length->pz,length_append->aJ,length_cons->aQ,length_drop->cY,length_eq_zero_iff->ft,length_erase_of_mem->J0,length_filter_le->bh,length_map->ab,length_nil->TZ,length_pos_iff->OC,length_pos_of_mem->vB,length_range->dU,length_reverse->dE,length_set->TY,length_singleton->kz,length_take->dJ,length_take_le->gG,length_take_le'->bJ,length_zip->TX,lookup->gq,lookup_cons->jf,map->BM,map_append->cb,map_congr_left->gF,map_cons->bE,map_drop->JZ,map_eq_nil_iff->OB,map_id->Zn,map_map->gm,map_nil->vA,map_reverse->Tr,map_take->t7,mem_append->bQ,mem_append_left->gp,mem_append_right->dB,mem_cons->az,mem_cons_of_mem->aj,mem_cons_self->au,mem_erase_of_ne->Nj,mem_filter->bA,mem_filterMap->rj,mem_flatMap->b7,mem_iff_getElem?->kx,mem_map->bz,mem_of_find?_eq_some->sN,mem_of_getElem?->bB,mem_of_mem_take->gn,mem_range->hW,mem_reverse->bR,mem_singleton->bp,nodup_append->eV,nodup_cons->bG,nodup_nil->nF,not_mem_nil->Tq,not_of_lt_findIdx->LI,of_mem_zip->F8,pairwise_cons->jJ,pairwise_iff_getElem->sM,range->dg,range_succ->F7,reverse_append->qd,reverse_cons->sQ,reverse_reverse->Ni,singleton_append->Mg,size_toArray->bu,sublist_nil->To,tail_drop->VL,take_length->bL,take_of_length_le->jI,take_sublist->BL,zipIdx_cons->Tn,zipIdx_nil->TV,zip_cons_cons->rh
open List.Pairwise renaming filter->sS,nil->Zo
open List.Sublist renaming refl->pJ
open Nat renaming add_le_add_left->Qk,add_le_add_right->yD,eq_zero_or_pos->cG,le_add_right->dM,le_antisymm->Gk,le_of_eq->CI,le_of_lt->cK,le_of_not_lt->D9,le_of_succ_le->t6,le_refl->aL,le_succ->fT,le_succ_of_le->Tj,le_trans->aD,lt_irrefl->d9,lt_of_le_of_lt->AZ,lt_of_lt_of_le->bN,lt_succ_of_lt->fP,lt_succ_self->jl,lt_trans->Mf,max_eq_left->VJ,max_eq_right->TU,min_eq_left->gB,min_eq_right->lF,min_le_left->VI,min_le_right->TQ,mul_le_mul_left->Qj,mul_succ->Me,ne_of_gt->j5,ne_of_lt->b9,not_lt_zero->iS,sub_self->Md,sub_zero->Mc,zero_add->lE,zero_le->aT
open Ne renaming symm->rf
open Option renaming getD_none->Qi,getD_some->lx,isSome_iff_exists->lV,isSome_map->OA,isSome_some->Nh,map_some->px,none->CH
open Option.some renaming inj->aR
open Or renaming inl->zm,inr->Ti
open PyFlat renaming call->CG,calls->jy,played->Hc,row->Nf,rows->WC,told->CF
open PyProof.Rows renaming AllBare->Gj,Call_->Mb,Subscript_->WB,callWith_type1->dj,envOfC->AY,iadd_int->Th,kindOf->r0,subscriptTail->Oz,subscriptTail_builtinR->QB
open PySem renaming Arguments->Ie,Around->dw,BindsTo->Yy,CmpOp->Ma,DictEntry->Zk,FuncData->gA,IsPair->kD,IsRangeIter->JW,IsZip->vy,ItemsOf->Yw,Keyword->vx,Model->Yu,NameKind->jd,Operator->L8,Params->Ib,Program->bq,Result->L7,Scope->ku,Shared->aI,Value->ao,Within->J5,World->cf,ZipApart->Gf,assign->Ww,assignEach->ub,atKey->Qg,attributeBase->jk,backTo->fq,backToKw->o8,binaryOp->L6,bindArgs->qT,bindC->Qe,bindL->Qc,bootBuiltins->o7,boot_len->TN,builtinLookup_eq_fast->Tg,builtinsNs->D8,cLine->L0,callWith->LZ,call_meets->yC,call_meetsIn->Qz,call_reversed_list->Wv,callerA->Qy,cellsFrom->eU,closureFor->LY,codeAny->sP,codeAny_mono->yB,compEnvC->l9,compareOp->fj,field->Yq,getItem->Qx,getMethod->BJ,holding->LD,inplaceOp->Y8,isTrue->Wu,keywordEach->jc,letOwnedTupleGo->zl,mainGlobals->d7,mem_of_lookup->cJ,model->bS,notedBy->LC,plainId_quiet->vG,pushCells->t5,pushCells_keeps->zk,pyNext->D7,rawInt->l8,recursionLimit->ua,seqItems?->Y7,sizeLine->aG,sizeLine_eq->AX,sliceBounds->qS,slot_list_getitem->Yp,standAt->Ge,starEach->bw,storeName->Y6,subscripted->JS,swapsWith->t4,sysModules->l5,tupleKind->BI,tupleKind_room_in1->D6,typeLookup->LX,valueAt->sO,wpAny->bF,wpAny_Call_Name_kw->iJ,wpAny_Call_method->Yo,wpAny_Name->D5,wpAny_assign_Name->Yn,wpAny_bind->aK,wpAny_call->Wt,wpAny_callSpecial?_slot->xu,wpAny_call_entry->xt,wpAny_evalAll_cons->Ws,wpAny_evalAll_nil->Ym,wpAny_execs_cons->Y5,wpAny_execs_nil->zj,wpAny_field->kq,wpAny_getItem_of->Y4,wpAny_holding->DB,wpAny_isInstance->Y3,wpAny_isTrue_Compare1->Tf,wpAny_ite_split->zi,wpAny_letGo->qR,wpAny_letOwnedTupleGo_zip->Na,wpAny_loadName_cell->VE,wpAny_loadName_free->VD,wpAny_loadName_local->AW,wpAny_mono->iI,wpAny_onRaise->Ow,wpAny_passesOwn->kY,wpAny_pure->bH,wpAny_pyIter_enum->Yl,wpAny_pyIter_list->vw,wpAny_pyIter_range->Wr,wpAny_pyIter_rangeiter->Qw,wpAny_pyIter_revIter->AV,wpAny_pyIter_zip->xr,wpAny_pyNext_range_end->Qv,wpAny_rule->Wq,wpAny_seqItems->iH,wpAny_setField_rec->nN,wpAny_specialOf->J4,wpAny_standAt->DA,wpAny_truthy_bool->ff,wpAny_tryCatch->LW,wpAny_updateSeq->zh,wpAny_updateSeq_pair->TM
open PySem.Around renaming under->JY,under_plainId->LH
open PySem.AutoSeq1 renaming list_insert_list_int_val_1->Yz
open PySem.Builtin.Builtins renaming bindParams->xy
open PySem.Builtin.List renaming listExtendWith->og,listItems->DD,listLengthHint->zr,listSameRef->BK,listTooLong->pY
open PySem.Builtin.Range renaming rangeSize->qc,small->Zm
open PySem.Builtin.SmallTypes renaming nextOf->gx,ownedTupleHandOut->rb,ownedTupleIsFree->gb
open PySem.Calls renaming Name_function_global->Gi,callWith_builtin->nE,evalArgs_plain->xx,spliced_cons->mE,spliced_nil->sL
open PySem.Code renaming frames->Zl,isFrame->LG
open PySem.EqMixed renaming eq_bool_str->Zj,eq_int_str->Zi,eq_str_bool->Zh,eq_str_int->Zg,ne_bool_str->Zf,ne_int_str->Ze,ne_str_bool->Zd,ne_str_int->Zc
open PySem.F renaming args_dict_get_3->Hb,args_zip_next_1->VH,entry_dict_get->Ic,entry_max_loop->WA,entry_zip_next->Wz,plainAttrs_dict->Ha,plainAttrs_list->bT,plain_max_loop->l_,slot_dict_get->vd,slot_dict_getitem->F6,slot_dict_pop->JX,slot_list_append->L_,slot_list_extend->df,slot_list_index->G',slot_list_insert->vc,slot_list_pop->Qh,slot_list_remove->L9,slot_tuple_iterator_next->J6,slot_zip_next->xY,type_list_extend->dr,type_list_insert->Gh
open PySem.Heap renaming SameBut->vz,get?_push_of_some->ay,get?_push_size->bt,get?_update_other->jH,get?_update_self->oI,lt_size->bc,size_push->cH
open PySem.Heap.IsSliceOf renaming new->Yx
open PySem.IsRange renaming new->VG
open PySem.MeetsSeq renaming list_remove->Yv
open PySem.MeetsSeq.EqGives renaming int->Nd
open PySem.NameKind renaming cell->F5,free->nP
open PySem.Obj renaming data_mapFields->QA,mapSeq->vJ
open PySem.Paired renaming length->G_,snoc->Wy
open PySem.PassesOwn renaming never->bV
open PySem.SeqAt renaming EqAt->Zb
open PySem.SeqAt.EqAt renaming int_str->JV,str_int->JU
open PySem.Shared renaming heap->Wx
open PySem.Str renaming ofString->iV
open PySem.Value renaming bool->vb,bytes->Yt,float->Ys,int->j8,isInt->DC,isStrOf->VF,none->Gg,ref->cu,str->CD,type->jz
open PySem.Value.type renaming inj->Nc
open PySem.W renaming CodeHd->kC,Frag->aq,WRecords->Oy,callWith_K->qb,callWith_K0->LF,cellsFrom_some->Ia,codeIn->mJ,emptyDict->fw,findIn->dZ,fnOf->eC,handedIn->Ox,hasDictIn->q_,instObj->ig,isFn->ue,keepIn->gg,ktu_apart->Nb,length_le_weightAllW->CC,lookIn->vI,makesIn->CB,methodCall_KW->JT,methodObj->zq,mg_of->xX,nsIn->uc,plainGet->nO,plainGet_of->xw,plainOver->zp,tabIn->rZ,tabObj->vH,takerIn->CA
open PySem.W.Looks renaming here->Za
open PySem.W.WData renaming int->Y_
open PySem.Walks renaming list->Y9,range->Yr
open PyVbtkaj renaming answers->kX,answers_asked->tZ,calls->Qb,shape->eN,whole->bD
open Sum renaming inl->aH,inr->vF
open Sum.inl renaming inj->oH
open True renaming intro->qZ
open Vbtkaj renaming Call->bg,DEEP->Wo,Kept->Wn,LAST->Wm,NODES->eG,Store->VC,addNode->G9,ask->eK,bit->bZ,breakerAt->b0,charges->Te,choices->Yk,crowd->JR,depthOf->cO,does->a9,fail->mD,fewest->Dz,finish->yA,forget->yz,front->lu,heldLate->zg,inside->aO,isKey->fK,isNode->qQ,keptAt->H_,lately->M',leave->nD,letBucket->tY,let_->LA,listed->dC,mayAdd->je,mayPass->mI,minutesOk->iu,missesBest->dy,missesLate->kn,missesTurn->ir,mostThrough->xW,nat->aw,nextPass->iG,nextStates->jj,nextUse->dD,noNode->LV,nodeAt->af,onNode->iU,parentIn->DZ,recent->mh,rises->lD,rowOk->fg,setBreaker->j4,setNode->fe,since->AR,stackDepths->jx,start->dq,store0->lU,tell->Wl,throughBucket->Ov,toldDepth->iq,useBest->dH,useLate->f_,waitOf->qP,waitsFor->Gd,workAt->l4
open Vbtkaj.State renaming mk->LB
open VbtkajNeutral renaming asked->F4,asked1->cV,start->Y2,step->cj
namespace L2
open PySem PySem.Spec PyProof.Rows
theorem lq{a b:Nat}(h:Nat.ble a b=true:=by first|rfl|decide):a<=b:=Nat.le_of_ble_eq_true h
abbrev Key:=Sum Int Str
def HA:Key->ao->Bool
 |.inl k,v=>DC k v
 |.inr x,v=>VF x v
def adB(w:cf):Key->Int
 |.inl k=>hashInt k
 |.inr x=>hashStr w x
theorem gJ:∀{k:Key} {v:ao},HA k v=true->(∃i t,k=aH i/\v=j8 i t)\/(∃x t,k=vF x/\v=CD x t)
 |.inl i,v,h=>by
  obtain⟨t,e⟩:=Value.isInt_shape (k:=i) (v:=v) h;exact .inl ⟨i,t,rfl,e⟩
 |.inr x,v,h=>by
  obtain⟨t,e⟩:=Value.isStrOf_shape (x:=x) (v:=v) h;exact .inr ⟨x,t,rfl,e⟩
theorem Pp(i:Int)(t:Tok):HA (.inl i) (.int i t)=true:=by simp[HA,DC]
theorem Po(x:Str)(t:Tok):HA (.inr x) (.str x t)=true:=by simp[HA,VF]
theorem Xs(a b:Int):decide ((aH a:Key)=aH b)=(a==b):=by
 by_cases e:a=b
 ·subst e;simp
 ·have h: ¬(aH a:Key)=aH b:=fun q=>e (oH q);rw[decide_eq_false h];exact(beq_eq_false_iff_ne.mpr e).symm
theorem Xp(a b:Str):decide ((vF a:Key)=vF b)=decide (a=b):=by
 by_cases e:a=b
 ·subst e;simp
 ·have h: ¬(vF a:Key)=vF b:=fun q=>e (Sum.inr.inj q);rw[decide_eq_false h,decide_eq_false e]
theorem Xr(a:Int)(b:Str):decide ((aH a:Key)=vF b)=false:=decide_eq_false (fun q=>nomatch q)
theorem Xq(a:Str)(b:Int):decide ((vF a:Key)=aH b)=false:=decide_eq_false (fun q=>nomatch q)
def fk(prog:bq)(w:cf):PySem.KeyKind prog w Key where
 is:=HA
 hash:=adB w
 inj:=fun v a b ha hb=>by
  rcases gJ ha with⟨i,t,rfl,rfl⟩|⟨x,t,rfl,rfl⟩
  ·rcases gJ hb with⟨j,u,rfl,e⟩|⟨y,u,rfl,e⟩
   ·injection e with e1 _;rw[e1]
   ·exact nomatch e
  ·rcases gJ hb with⟨j,u,rfl,e⟩|⟨y,u,rfl,e⟩
   ·exact nomatch e
   ·injection e with e1 _;rw[e1]
 byValue:=fun k v h=>by
  rcases gJ h with⟨i,t,rfl,rfl⟩|⟨x,t,rfl,rfl⟩<;>rfl
 pyHash:=fun hv h=>by
  rcases gJ hv with⟨i,t,rfl,rfl⟩|⟨x,t,rfl,rfl⟩
  ·exact wpAny_pyHash_int h
  ·exact wpAny_pyHash_str h
 eqBool:=fun hu hv h=>by
  rcases gJ hu with⟨i,t,rfl,rfl⟩|⟨x,t,rfl,rfl⟩
  ·rcases gJ hv with⟨j,u,rfl,rfl⟩|⟨y,u,rfl,rfl⟩
   ·rw[Xs] at h;exact wpAny_eqBool_int h
   ·rw[Xr] at h;exact JV i t y u _ _ _ _ h
  ·rcases gJ hv with⟨j,u,rfl,rfl⟩|⟨y,u,rfl,rfl⟩
   ·rw[Xq] at h;exact JU x t j u _ _ _ _ h
   ·rw[Xp] at h;exact wpAny_eqBool_str h
 «strs»:=fun k x t v h=>by
  rcases gJ h with⟨i,u,rfl,e⟩|⟨y,u,rfl,e⟩
  ·exact nomatch e
  ·injection e with e1 _;subst e1;cases v<;>rfl
theorem Ci(prog:bq)(w:cf)(i:Int)(t:Tok):(fk prog w).is (.inl i) (.int i t)=true:=Pp i t
theorem KL(prog:bq)(w:cf)(x:Str)(t:Tok):(fk prog w).is (.inr x) (.str x t)=true:=Po x t
inductive V where
 |gE|bl (b:Bool)|int (i:Int)|str (x:Str)|LU (b:Array UInt8)|Vn (b:UInt64)|ref (a:Addr)|ty (n:String)
 deriving DecidableEq
def RelV:V->ao->Prop
 |.gE,u=>u=Gg
 |.bl b,u=>u=vb b
 |.int i,u=>∃t,u=j8 i t
 |.str x,u=>∃t,u=CD x t
 |.LU b,u=>∃t,u=Yt b t
 |.Vn b,u=>∃t,u=Ys b t
 |.ref a,u=>u=cu a
 |.ty n,u=>u=jz n
abbrev Vals:List V->List ao->Prop:=Paired RelV
theorem Vals.length{xs:List V}{us:List ao}(r:Vals xs us):xs.length=us.length:=G_ r
theorem Vals.get:∀{xs:List V} {us:List ao} {i:Nat} {x:V},Vals xs us->xs[i]?=some x->∃u,us[i]?=some u/\RelV x u
 |_,_,_,_,.nil,e=>by simp at e
 |_,_,0,_,.cons r _,e=>by simp at e;subst e;exact⟨_,rfl,r⟩
 |_,_,i+1,x,.cons _ t,e=>by
  obtain⟨u,h1,h2⟩:=Vals.get (i:=i) (x:=x) t (by simpa using e);exact⟨u,by simpa using h1,h2⟩
theorem Vals.append:∀{xs ys:List V} {us ws:List ao},Vals xs us->Vals ys ws->Vals (xs++ys) (us++ws)
 |_,_,_,_,.nil,s=>s
 |_,_,_,_,.cons r t,s=>.cons r (Vals.append t s)
theorem Vals.take:∀{xs:List V} {us:List ao} (n:Nat),Vals xs us->Vals (xs.take n) (us.take n)
 |_,_,0,_=>.nil
 |_,_,_+1,.nil=>.nil
 |_,_,n+1,.cons r t=>.cons r (Vals.take n t)
theorem Vals.drop:∀{xs:List V} {us:List ao} (n:Nat),Vals xs us->Vals (xs.drop n) (us.drop n)
 |_,_,0,r=>r
 |_,_,_+1,.nil=>.nil
 |_,_,n+1,.cons _ t=>Vals.drop n t
def uS:Option V->Option ao->Prop
 |some v,some u=>RelV v u
 |none,none=>True
 |_,_=>False
def KV{κ:Type}:List (κ×V)->List (κ×ao)->Prop:=Paired fun(p:κ×V) (q:κ×ao)=>p.1=q.1/\RelV p.2 q.2
def kV:Key->V
 |.inl i=>.int i
 |.inr x=>.str x
inductive HO where
 |lst (xs:List V)
 |tup (xs:List V)
 |dK (kvs:List (Key×V))|dT (kvs:List (List Key×V))
 |set (S:Int->Bool) (n:Nat)
 |ins (C dx:Addr) (fs:List (Str×V))
 |own (x:Addr)
 |xd (fs:List (Str×V))
 |met (f x:Addr)
 |rng (lo hi:Int)
 |Bx (o:Obj) (u:HO)
 |x_ (ps:Array ao)
 |ext (φ:Heap->Prop)
abbrev Hp:=Addr->Option HO
def upd(H:Hp)(a:Addr)(o:HO):Hp:=fun b=>if b=a then some o else H b
theorem ae{H:Hp}{a:Addr}{o:HO}:upd H a o a=some o:=by unfold upd;rw[if_pos rfl]
theorem aA{H:Hp}{a b:Addr}{o:HO}(h:b≠a):upd H a o b=H b:=by unfold upd;rw[if_neg h]
theorem j9{H:Hp}{a b:Addr}{o u:HO}(h:H a=some o)(h':H b=some u)(d:o≠u):a≠b:=by
 intro e;subst e;rw[h] at h';exact d (aR h')
theorem aE{H:Hp}{a b:Addr}{o:HO}(h:H a=some o)(h':H b=none):a≠b:=by
 intro e;subst e;rw[h] at h';cases h'
section
variable(P:bq)(w:cf)
def ia(H:Hp)(h:Heap)(a:Addr):HO->Prop
 |.lst xs=>xs.length<=aG/\∃(its:List ao) (n:Nat),Vals xs its/\h.get? a=some {cls:= .type "list",data:= .seq its.toArray n}
 |.tup xs=>xs.length<=aG/\∃its:List ao,Vals xs its/\IsTup h a its.toArray
 |.dK kvs=>kvs.length<=aG/\(a==l5)=false/\∃vs,KV kvs vs/\h.DictOf (fk P w) a vs
 |.dT kvs=>kvs.length<=aG/\(a==l5)=false/\∃xs:List (List Key×Addr×ao),
   Paired (fun(p:List Key×V) (q:List Key×Addr×ao)=>p.1=q.1/\H q.2.1=some (.tup (p.1.map kV))/\RelV p.2 q.2.2) kvs xs/\
   ∃o es ep,h.get? a=some o/\o.ExactDict/\o.data= .dict es ep/\es.toList=xs.map (entryOfKey (BI (fk P w)))/\(xs.map (·.1)).Nodup
 |.set S n=>h.SetOf (intKind P w) a S n
 |.ins C dx fs=>H dx=some (.own a)/\fs.length<=1000/\dx≠a/\h.get? a=some (ig C dx)/\
   ∃mA,h.Ns1 dx mA/\(∀f,uS (fs.lookup f) (mA f))/\J5 mA (fs.map (·.1))
 |.own _=>∃o,h.get? a=some o
 |.xd fs=>∃mA,h.Ns1 a mA/\∀f,uS (fs.lookup f) (mA f)
 |.rng lo hi=>∃t u v,h.get? a=some {cls:= .type "range",data:= .fields #[.int lo t,.int hi u,.int 1 v]}
 |.Bx o u=>h.get? a=some o/\ia H h a u
 |.x_ ps=>h.get? a=some {cls:= .none,data:= .fields ps}
 |.met f x=>h.get? a=some (zq (.ref f) (.ref x))
 |.ext φ=>φ h/\(∃o,h.get? a=some o)/\∀h1 h2:Heap,φ h1->(∀o,h1.get? a=some o->h2.get? a=some o)->φ h2
def vE(H:Hp)(h:Heap):Prop:=∀a o,H a=some o->ia P w H h a o
end
section
variable{P:bq}{w:cf}{H H':Hp}{h h':Heap}{a:Addr}{o:HO}
theorem ia.lt(x:ia P w H h a o):a<h.objs.size:=by
 cases o with
 |lst xs=>obtain⟨_,_,_,_,e⟩:=x;exact bc e
 |tup xs=>obtain⟨_,_,_,p⟩:=x;exact p.lt
 |dK kvs=>obtain⟨_,_,_,_,o,_,_,e,_⟩:=x;exact bc e
 |dT kvs=>obtain⟨_,_,_,_,o,_,_,e,_⟩:=x;exact bc e
 |set S n=>obtain⟨o,_,_,_,e,_⟩:=x;exact bc e
 |ins C dx fs=>obtain⟨_,_,_,e,_⟩:=x;exact bc e
 |own y=>obtain⟨_,e⟩:=x;exact bc e
 |xd fs=>obtain⟨_,⟨_,_,_,e,_⟩,_⟩:=x;exact bc e
 |rng lo hi=>obtain⟨_,_,_,e⟩:=x;exact bc e
 |Bx ob u=>obtain⟨e,_⟩:=x;exact bc e
 |x_ ps=>exact bc (show h.get? a=some _ from x)
 |met f y=>exact bc (show h.get? a=some _ from x)
 |ext φ=>obtain⟨_,⟨_,e⟩,_⟩:=x;exact bc e
theorem Paired.Xl{α β:Type}{F G:α->β->Prop}:∀{l₁:List α} {l₂:List β},Paired F l₁ l₂->(∀a b,F a b->G a b)->Paired G l₁ l₂
 |_,_,.nil,_=>.nil
 |_,_,.cons r t,f=>.cons (f _ _ r) (Paired.Xl t f)
theorem ia.El(x:ia P w H h a o)(k:∀b u,(b=a\/H b=some (.own a))->h.get? b=some u->h'.get? b=some u)
  (ho:∀b,H b=some (.own a)->H' b=some (.own a))(ht:∀b xs,H b=some (.tup xs)->H' b=some (.tup xs)):ia P w H' h' a o:=by
 induction o with
 |lst xs=>obtain⟨z,its,n,r,e⟩:=x;exact⟨z,its,n,r,k _ _ (.inl rfl) e⟩
 |tup xs=>obtain⟨z,its,r,ob,e,c⟩:=x;exact⟨z,its,r,ob,k _ _ (.inl rfl) e,c⟩
 |dK kvs=>obtain⟨z,y,vs,r,ob,es,ep,e,c⟩:=x;exact⟨z,y,vs,r,ob,es,ep,k _ _ (.inl rfl) e,c⟩
 |dT kvs=>
  obtain⟨z,y,xs,r,ob,es,ep,e,c⟩:=x;exact⟨z,y,xs,Paired.Xl r fun p q z=>⟨z.1,ht _ _ z.2.1,z.2.2⟩,ob,es,ep,k _ _ (.inl rfl) e,c⟩
 |set S n=>obtain⟨ob,es,ep,t,e,c⟩:=x;exact⟨ob,es,ep,t,k _ _ (.inl rfl) e,c⟩
 |ins C dx fs=>
  obtain⟨d,z,ne,e,mA,⟨od,es,ep,e2,c⟩,r⟩:=x;exact⟨ho _ d,z,ne,k _ _ (.inl rfl) e,mA,⟨od,es,ep,k _ _ (.inr d) e2,c⟩,r⟩
 |own y=>obtain⟨ob,e⟩:=x;exact⟨ob,k _ _ (.inl rfl) e⟩
 |xd fs=>obtain⟨mA,⟨od,es,ep,e,c⟩,r⟩:=x;exact⟨mA,⟨od,es,ep,k _ _ (.inl rfl) e,c⟩,r⟩
 |rng lo hi=>obtain⟨t,u,v,e⟩:=x;exact⟨t,u,v,k _ _ (.inl rfl) e⟩
 |Bx ob u ih=>obtain⟨e,q⟩:=x;exact⟨k _ _ (.inl rfl) e,ih q⟩
 |x_ ps=>
  have e:h.get? a=some {cls:= .none,data:= .fields ps}:=x;show h'.get? a=some {cls:= .none,data:= .fields ps};exact k a _ (.inl rfl) e
 |met f y=>
  have e:h.get? a=some (zq (.ref f) (.ref y)):=x;show h'.get? a=some (zq (.ref f) (.ref y));exact k a _ (.inl rfl) e
 |ext φ=>obtain⟨p,⟨o,e⟩,st⟩:=x;exact⟨st _ _ p fun o q=>k _ _ (.inl rfl) q,⟨o,k _ _ (.inl rfl) e⟩,st⟩
theorem vE.lt(x:vE P w H h)(e:H a=some o):a<h.objs.size:=(x a o e).lt
theorem vE.fresh(x:vE P w H h)(e:h.objs.size<=a):H a=none:=by
 cases q:H a with
 |none=>rfl
 |some u=>exact absurd (bN (x.lt q) e) (d9 _)
theorem vE.kept(x:vE P w H h)(k:∀b u,h.get? b=some u->h'.get? b=some u):vE P w H h':=fun a o e=>
 (x a o e).El (fun b u _ q=>k b u q) (fun _ q=>q) fun _ _ q=>q
theorem vE.laid(x:vE P w H h)(k:∀b u,h.get? b=some u->h'.get? b=some u)(hp:h.objs.size<=a)(new:ia P w (upd H a o) h' a o):vE P w (upd H a o) h':=fun b u e=>by
 have hn:=x.fresh hp;by_cases hb:b=a
 ·subst hb;rw[ae] at e;cases e;exact new
 ·rw[aA hb] at e;exact(x b u e).El (fun c v _ q=>k c v q) (fun c q=>by rw[aA (aE q hn)];exact q) fun c xs q=>by rw[aA (aE q hn)];exact q
end
def Rd(H:Hp)(a:Addr)(u:HO):Prop:=H a=some u\/∃o,H a=some (.Bx o u)
theorem Rd.ok{P:bq}{w:cf}{H:Hp}{h:Heap}{a:Addr}{u:HO}(r:Rd H a u)(x:vE P w H h):ia P w H h a u:=by
 rcases r with r|⟨o,r⟩
 ·exact x a u r
 ·obtain⟨_,q⟩:=x a _ r;exact q
def Mut:Option HO->Prop
 |some (.lst _)=>True
 |some (.dK _)=>True
 |some (.dT _)=>True
 |some (.set _ _)=>True
 |some (.ins _ _ _)=>True
 |some (.ext _)=>True
 |_=>False
section
variable{P:bq}{w:cf}{H:Hp}{h h':Heap}{x e:Addr}{o':HO}
theorem vE.write(ok:vE P w H h)(mu:Mut (H x))(he:e=x\/H e=some (.own x))(k:∀b u,b≠e->h.get? b=some u->h'.get? b=some u)(YU:∃u,h'.get? e=some u)
  (new:ia P w (upd H x o') h' x o'):vE P w (upd H x o') h':=fun b u q=>by
 have ZW:∀c y,H c=some (.own y)->c≠x:=fun c y r z=>by subst z;rw[r] at mu;exact mu
 have adl:∀c xs,H c=some (.tup xs)->c≠x:=fun c xs r z=>by subst z;rw[r] at mu;exact mu
 by_cases hb:b=x
 ·subst hb;rw[ae] at q;cases q;exact new
 ·rw[aA hb] at q;by_cases XT:b=e
  ·have q':H b=some (.own x):=by
    rcases he with z|z
    ·exact absurd (XT.trans z) hb
    ·rw[XT];exact z
   rw[q] at q';cases q';obtain⟨v,hv⟩:=YU;exact⟨v,by rw[XT];exact hv⟩
  ·refine(ok b u q).El (fun c v hc r=>k c v ?_ r) (fun c r=>by rw[aA (ZW c b r)];exact r) fun c xs r=>by rw[aA (adl c xs r)];exact r
   rcases hc with rfl|hc
   ·exact XT
   ·rintro rfl;rcases he with z|z
    ·exact ZW c b hc z
    ·rw[hc] at z;cases z;exact hb rfl
end
structure Un(fs ex:List Addr)(H H':Hp)(h h':Heap):Prop where
 keep:∀b o,h.get? b=some o->H b=none->b∉fs->b∉ex->h'.get? b=some o
 slot:∀b o,h.get? b=some o->H b=none->b∈fs->b∉ex->∃sl,h'.get? b=some {o with slots:=sl}
 free:∀b o,h.get? b=some o->H b=none->b∉ex->H' b=none
 there:∀b o,h.get? b=some o->b∉ex->∃o',h'.get? b=some o'
 yJ:∀b xs,H b=some (.tup xs)->H' b=some (.tup xs)
 Dg:∀b o u,H b=some (.Bx o u)->H' b=some (.Bx o u)
 Ij:∀b ps,H b=some (.x_ ps)->∃more,H' b=some (.x_ (ps++more))
section
variable{fs fs' ex ex':List Addr}{H H1 H2:Hp}{h h1 h2 h':Heap}{a x e:Addr}{o:HO}
theorem Un.any(u:Un fs ex H H1 h h1){b:Addr}{ob:Obj}(q:h.get? b=some ob)(n:H b=none)(hx:b∉ex):∃sl,h1.get? b=some {ob with slots:=sl}:=by
 by_cases hb:b∈fs
 ·exact u.slot b ob q n hb hx
 ·exact⟨ob.slots,u.keep b ob q n hb hx⟩
theorem Un.kept(k:∀b u,h.get? b=some u->h'.get? b=some u):Un fs ex H H h h':=
 ⟨fun b ob q _ _ _=>k b ob q,fun b ob q _ _ _=>⟨ob.slots,k b ob q⟩,fun _ _ _ n _=>n,fun b ob q _=>⟨ob,k b ob q⟩,fun _ _ q=>q,fun _ _ _ q=>q,fun _ ps q=>⟨#[],by rw[q];simp⟩⟩
theorem Un.refl:Un fs ex H H h h:=Un.kept fun _ _ q=>q
theorem Un.laid(k:∀b u,h.get? b=some u->h'.get? b=some u)(hp:h.objs.size<=a)(hn:H a=none):Un fs ex H (upd H a o) h h' where
 keep:=fun b u q _ _ _=>k b u q
 slot:=fun b u q _ _ _=>⟨u.slots,k b u q⟩
 free:=fun b u q n _=>by rw[aA (b9 (bN (bc q) hp))];exact n
 there:=fun b u q _=>⟨u,k b u q⟩
 yJ:=fun b xs q=>by rw[aA (aE q hn)];exact q
 Dg:=fun b u xs q=>by rw[aA (aE q hn)];exact q
 Ij:=fun b ps q=>⟨#[],by rw[aA (aE q hn),q];simp⟩
theorem Un.write(mu:Mut (H x))(he:e=x\/H e=some (.own x))(k:∀b u,b≠e->h.get? b=some u->h'.get? b=some u)(YU:∃u,h'.get? e=some u):Un fs ex H (upd H x o) h h':=by
 have hx:∀b,H b=none->b≠x:=fun b n z=>by subst z;rw[n] at mu;exact mu
 have hb:∀b,H b=none->b≠e:=fun b n z=>by
  subst z;rcases he with r|r
  ·exact hx b n r
  ·rw[n] at r;cases r
 have hm:∀b u,H b=some u-> ¬Mut (some u)->b≠x:=fun b u q nm z=>by subst z;rw[q] at mu;exact nm mu
 refine⟨fun b u q n _ _=>k b u (hb b n) q,fun b u q n _ _=>⟨u.slots,k b u (hb b n) q⟩,fun b u q n _=>by rw[aA (hx b n)];exact n,fun b u q _=>?_,
  fun b xs q=>by rw[aA (hm b _ q fun z=>z)];exact q,fun b u xs q=>by rw[aA (hm b _ q fun z=>z)];exact q,fun b ps q=>⟨#[],by rw[aA (hm b _ q fun z=>z),q];simp⟩⟩
 by_cases XT:b=e
 ·subst XT;exact YU
 ·exact⟨u,k b u XT q⟩
end
def trk(h:Heap)(H:Hp):List Addr:=(dg h.objs.size).filter fun a=>(H a).isSome
def GJ(h:Heap)(H:Hp):Heap:=PySem.W.hideAll h (trk h H)
theorem PD(h:Heap)(H:Hp):(GJ h H).objs.size=h.objs.size:=PySem.W.hideAll_size _ _
theorem Se{h:Heap}{H:Hp}{b:Addr}{o:Obj}(e:h.get? b=some o)(n:H b=none):(GJ h H).get? b=some o:=
 PySem.W.hideAll_get _ e fun hm=>by
  have q:(H b).isSome=true:=(bA.mp hm).2;rw[n] at q;simp at q
theorem UP{h:Heap}{H:Hp}{b:Addr}{o:Obj}(e:(GJ h H).get? b=some o):h.get? b=some o/\H b=none:=by
 have e':h.get? b=some o:=PySem.W.of_hideAll (trk h H) e;refine⟨e',?_⟩;cases q:H b with
 |none=>rfl
 |some x=>
  have hm:b∈trk h H:=bA.mpr ⟨hW.mpr (bc e'),by simp[q]⟩;have z:(GJ h H).get? b=none:=PySem.W.hideAll_none (trk h H) hm;rw[z] at e;cases e
def AI(g h:Heap)(L:Addr):List (Addr×Obj):=(dg h.objs.size).filterMap fun a=>if a=L\/(g.get? a).isSome=true then none else(h.get? a).map fun o=>(a,o)
theorem KN{g h:Heap}{L a:Addr}{o:Obj}(h1:a≠L)(h2:g.get? a=none)(h3:h.get? a=some o):(a,o)∈AI g h L:=
 rj.mpr ⟨a,hW.mpr (bc h3),by simp[h1,h2,h3]⟩
theorem E_{g h:Heap}{L:Addr}{p:Addr×Obj}(hp:p∈AI g h L):p.1≠L/\g.get? p.1=none/\h.get? p.1=some p.2:=by
 obtain⟨b,_,e⟩:=rj.mp hp;split at e
 ·cases e
 ·rename_i hn;cases q:h.get? b with
  |none=>rw[q] at e;simp at e
  |some u=>
   rw[q] at e;simp only[px,Option.some.injEq] at e;subst e;refine⟨fun z=>hn (.inl z),?_,q⟩;show g.get? b=none;cases r:g.get? b with
   |none=>rfl
   |some v=>exact(hn (.inr (by simp[r]))).elim
theorem Ry{g h:Heap}{L:Addr}:News g L h (AI g h L):=fun p hp=>let ⟨a,b,c⟩:=E_ hp;⟨c,a,b⟩
structure Mod(K:aq)(mg:Str->Option ao)(base:Heap):Prop where
 Xo:K.In base
 glob:base.Ns d7 mg
 blt:∃mb,base.Ns D8 mb/\∀x:Str,x≠"__name__"->mb x=o7 x
 nolimit:base.NoLimit
structure Cx where
 prog:bq
 w:cf
 K:aq
 mg:Str->Option ao
 base:Heap
 A:dw
 N:List Str
 Hl:aI
 H_0:Hp
 env:Env
 outer:List Env
 stack:List Env
 ex:List Addr
 fn:Str->Bool
 calm:Bool
 pn:List (Addr×Obj)
 xe:ao->aI->Prop
def Sn(l:List Env):List Addr:=l.filterMap (·.frame)
abbrev Cx.fs(X:Cx):List Addr:=Sn X.outer
def YZ(sc:ku)(x:Str):Prop:=sc.names.lookup x=some .local\/sc.names.lookup x=some .cell\/sc.names.lookup x=some .free
def Loc(sc:ku)(x:Str):Prop:=sc.names.lookup x=some .local\/sc.names.lookup x=some .cell
def Look(env:Env)(h:Heap)(m:Str->Option ao)(x:Str)(u:ao):Prop:=
 (env.kindOf x=some .local/\m x=some u)\/((env.kindOf x=some .cell\/env.kindOf x=some .free)/\∃c,env.cells.lookup x=some c/\h.IsCell c (some u))
structure Cx.Ok(X:Cx):Prop where
 mod:Mod X.K X.mg X.base
 kind:X.env.scope.kind= .function
 glob:X.env.globals=d7
 blt:X.env.builtins=D8
 above:X.Hl.heap.objs.size<=X.env.locals
 inj:∀x y c,X.env.cells.lookup x=some c->X.env.cells.lookup y=some c->x=y
 has:∀x,(X.env.kindOf x=some .cell\/X.env.kindOf x=some .free)->∃c,X.env.cells.lookup x=some c
 cab:∀x c,X.fn x=true->X.env.cells.lookup x=some c->X.Hl.heap.objs.size<=c
 hd:X.calm=true->X.A.handled=none
 frames:X.A.frames=some X.stack
 stk:X.stack=X.outer\/(X.stack=X.env::X.outer/\X.env.frame=some X.env.locals)
 exf:∀b∈X.ex,b≠X.env.locals/\∀x c,X.env.cells.lookup x=some c->c≠b
 bs:∀b o,X.base.get? b=some o->X.Hl.heap.get? b=some o/\X.H_0 b=none
 TK:X.base.objs.size<=X.Hl.heap.objs.size
 Rw:∀b o,X.base.get? b=some o->b∉X.ex
 Sq:∀b∈X.ex,b∉X.fs
 De:X.Hl.heap.FunFrames X.base X.outer
 X4:∀b∈X.fs,X.H_0 b=none
structure Inv(X:Cx)(pins:List (Addr×Obj))(σ:List (Option V))(H:Hp)(s:aI):Prop where
 ok:X.Ok
 os:s.os=X.Hl.os
 bare:Gj s.gens
 base:Un X.fs X.ex X.H_0 H X.Hl.heap s.heap
 loc:∃m,s.heap.Ns X.env.locals m/\∀(i:Nat) (x:Str) (v:V),X.N[i]?=some x->σ[i]?=some (some v)->YZ X.env.scope x->∃u,RelV v u/\Look X.env s.heap m x u
 cell:∀x c,X.env.cells.lookup x=some c->∃v,s.heap.IsCell c v
 free:H X.env.locals=none
 wK:∀x c,X.env.cells.lookup x=some c->H c=none
 pin:∀p∈X.pn++pins,s.heap.get? p.1=some p.2/\H p.1=none/\p.1≠X.env.locals/\p.1∉X.fs/\∀v,p.2.data≠ .cell v
 fR:vE X.prog X.w H s.heap
 len:σ.length=X.N.length
section
variable{X:Cx}{pins:List (Addr×Obj)}{σ:List (Option V)}{H H':Hp}{s:aI}{h':Heap}
theorem Cx.Ok.adn(ok:X.Ok){b:Addr}{o:Obj}(e:X.base.get? b=some o):b∉X.fs:=fun hb=>by
 have:=(ok.De.mem hb).1;rw[e] at this;cases this
theorem Inv.bs(I:Inv X pins σ H s):∀b o,X.base.get? b=some o->s.heap.get? b=some o/\H b=none:=fun b o e=>
 ⟨I.base.keep b o (I.ok.bs b o e).1 (I.ok.bs b o e).2 (I.ok.adn e) (I.ok.Rw b o e),I.base.free b o (I.ok.bs b o e).1 (I.ok.bs b o e).2 (I.ok.Rw b o e)⟩
theorem Inv.bk(I:Inv X pins σ H s):∀b o,X.base.get? b=some o->s.heap.get? b=some o:=fun b o e=>(I.bs b o e).1
theorem Inv.mod(I:Inv X pins σ H s):Mod X.K X.mg X.base:=I.ok.mod
theorem Inv.KW(I:Inv X pins σ H s):X.K.In s.heap:=I.ok.mod.Xo.keeps I.bk
theorem Inv.lt(I:Inv X pins σ H s):X.env.locals<s.heap.objs.size:=let ⟨_,hn,_⟩:=I.loc;hn.lt
theorem Inv.sz(I:Inv X pins σ H s):X.Hl.heap.objs.size<=s.heap.objs.size:=aD I.ok.above (cK I.lt)
theorem Inv.adm(I:Inv X pins σ H s){a:Addr}(h:s.heap.objs.size<=a):a∉X.fs:=fun hb=>by
 obtain⟨_,o,ho,_⟩:=I.ok.De.mem hb;exact absurd (bN (bc ho) (aD I.sz h)) (d9 _)
theorem Inv.SI(I:Inv X pins σ H s):∀x c,X.env.cells.lookup x=some c->c≠X.env.locals:=fun x c e z=>by
 obtain⟨v,o,ho,hd⟩:=I.cell x c e;obtain⟨m,⟨o',es,ep,N2,yr,_⟩,_⟩:=I.loc;rw[z,N2] at ho;cases ho;rw[yr] at hd;cases hd
theorem Inv.De(I:Inv X pins σ H s):s.heap.FunFrames X.base X.outer:=by
 have all:∀(l:List Env),(∀b∈Sn l,b∈X.fs)->X.Hl.heap.FunFrames X.base l->s.heap.FunFrames X.base l:=by
  intro l
  induction l with
  |nil=>intro _ _;trivial
  |cons env r ih=>
   intro hs hl;obtain⟨hk,⟨L,o,hf,hn,ho,hd⟩,hr⟩:=hl;have hL:L∈X.fs:=hs L (by unfold Sn;rw[zo,hf];exact au);obtain⟨sl,e⟩:=I.base.slot L o ho (I.ok.X4 L hL) hL fun z=>I.ok.Sq L z hL;exact⟨hk,⟨L,_,hf,hn,e,hd⟩,ih (fun b hb=>hs b (by unfold Sn;rw[zo,hf];exact aj _ hb)) hr⟩
 exact all X.outer (fun _ hb=>hb) I.ok.De
theorem Inv.stack(I:Inv X pins σ H s):s.heap.FunFrames X.base X.stack:=by
 rcases I.ok.stk with e|⟨e,hf⟩
 ·rw[e];exact I.De
 ·rw[e];obtain⟨m,hn,_⟩:=I.loc;refine .cons (by rw[I.ok.kind];decide) hf hn ?_ I.De;exact Heap.get?_none_of_le (aD I.ok.TK I.ok.above)
theorem Inv.Mo(I:Inv X pins σ H s):∀b∈Sn X.stack,b∈X.env.locals::X.fs:=fun b hb=>by
 rcases I.ok.stk with e|⟨e,hf⟩
 ·rw[e] at hb;exact aj _ hb
 ·rw[e] at hb;unfold Sn at hb;rw[zo,hf] at hb;exact hb
theorem Inv.NA(I:Inv X pins σ H s):∀b∈Sn X.stack,H b=none:=fun b hb=>by
 rcases az.mp (I.Mo b hb) with e|hb
 ·rw[e];exact I.free
 ·obtain⟨_,o,ho,_⟩:=I.ok.De.mem hb;exact I.base.free b o ho (I.ok.X4 b hb) fun z=>I.ok.Sq b z hb
theorem Inv.step{g':Array GenState}{t':Nat}{d':Drawn}{ch:List Addr}(I:Inv X pins σ H s)
  (pS:∀b∈ch,(b∈X.ex\/X.Hl.heap.objs.size<=b)/\b≠X.env.locals/\(∀x c,X.env.cells.lookup x=some c->c≠b)/\∀p∈X.pn++pins,p.1≠b)
  (keep:∀b o,b≠X.env.locals->b∉X.fs->b∉ch->s.heap.get? b=some o->H b=none->h'.get? b=some o)
  (slot:∀b o,b≠X.env.locals->b∈X.fs->b∉ch->s.heap.get? b=some o->H b=none->∃sl,h'.get? b=some {o with slots:=sl})(free:∀b o,b∉ch->s.heap.get? b=some o->H b=none->H' b=none)
  (there:∀b o,b∉ch->s.heap.get? b=some o->∃o',h'.get? b=some o')
  (yJ:∀b xs,H b=some (.tup xs)->H' b=some (.tup xs))(Dg:∀b o u,H b=some (.Bx o u)->H' b=some (.Bx o u))(Ij:∀b ps,H b=some (.x_ ps)->∃more,H' b=some (.x_ (ps++more)))
  (ns:∀m,s.heap.Ns X.env.locals m->h'.Ns X.env.locals m)(fR:vE X.prog X.w H' h')(hg:Gj g'):
  Inv X pins σ H' {s with heap:=h',gens:=g',drawn:=d',toks:=t'}:=by
 have Xj:∀b o,X.Hl.heap.get? b=some o->b≠X.env.locals:=fun b o e=>b9 (bN (bc e) I.ok.above);have neC:∀b o,X.Hl.heap.get? b=some o->b∉X.ex->b∉ch:=fun b o e hx hb=>by
  rcases(pS b hb).1 with z|z
  ·exact hx z
  ·exact absurd (bN (bc e) z) (d9 _)
 have cellK:∀x c,X.env.cells.lookup x=some c->∀v,s.heap.IsCell c v->h'.IsCell c v:=fun x c e v ⟨o,ho,hd⟩=>by
  have Pc:c∉ch:=fun z=>(pS c z).2.2.1 x c e rfl;by_cases hc:c∈X.fs
  ·obtain⟨sl,q⟩:=slot c o (I.SI x c e) hc Pc ho (I.wK x c e);exact⟨_,q,hd⟩
  ·exact⟨o,keep c o (I.SI x c e) hc Pc ho (I.wK x c e),hd⟩
 refine⟨I.ok,I.os,hg,⟨fun b o e n hb hx=>?_,fun b o e n hb hx=>?_,fun b o e n hx=>?_,fun b o e hx=>?_,fun b xs e=>yJ b xs (I.base.yJ b xs e),fun b o xs e=>Dg b o xs (I.base.Dg b o xs e),fun b ps e=>?_⟩,?_,fun x c e=>?_,?_,fun x c e=>?_,fun p hp=>?_,fR,I.len⟩
 ·exact keep b o (Xj b o e) hb (neC b o e hx) (I.base.keep b o e n hb hx) (I.base.free b o e n hx)
 ·obtain⟨sl,e1⟩:=I.base.slot b o e n hb hx;obtain⟨sl',e2⟩:=slot b _ (Xj b o e) hb (neC b o e hx) e1 (I.base.free b o e n hx);exact⟨sl',e2⟩
 ·obtain⟨o',e1⟩:=I.base.there b o e hx;exact free b o' (neC b o e hx) e1 (I.base.free b o e n hx)
 ·obtain⟨o',e1⟩:=I.base.there b o e hx;exact there b o' (neC b o e hx) e1
 ·obtain⟨m1,e1⟩:=I.base.Ij b ps e;obtain⟨m2,e2⟩:=Ij b _ e1;exact⟨m1++m2,by rw[e2,Array.append_assoc]⟩
 ·obtain⟨m,hn,hl⟩:=I.loc;refine⟨m,ns m hn,fun i x v e1 e2 e3=>?_⟩;obtain⟨u,r,l⟩:=hl i x v e1 e2 e3;refine⟨u,r,?_⟩;rcases l with l|⟨k,c,e,z⟩
  ·exact .inl l
  ·exact .inr ⟨k,c,e,cellK x c e _ z⟩
 ·obtain⟨v,z⟩:=I.cell x c e;exact⟨v,cellK x c e v z⟩
 ·obtain⟨m,⟨o,_,_,ho,_⟩,_⟩:=I.loc;exact free _ o (fun z=>(pS _ z).2.1 rfl) ho I.free
 ·obtain⟨v,o,ho,hd⟩:=I.cell x c e;exact free c o (fun z=>(pS c z).2.2.1 x c e rfl) ho (I.wK x c e)
 ·obtain⟨e,n,ne,nf,d⟩:=I.pin p hp;have Pc:p.1∉ch:=fun z=>(pS p.1 z).2.2.2 p hp rfl;exact⟨keep p.1 p.2 ne nf Pc e n,free p.1 p.2 Pc e n,ne,nf,d⟩
theorem Inv.un{t':Nat}(I:Inv X pins σ H s)(u:Un X.fs [] H H' s.heap h')(fR:vE X.prog X.w H' h'):Inv X pins σ H' {s with heap:=h',toks:=t'}:=by
 obtain⟨m,⟨o,es,ep,ho,r⟩,_⟩:=id I.loc;obtain⟨sl,hL⟩:=u.any ho I.free (by simp);exact I.step (g':=s.gens) (d':=s.drawn) (ch:=[]) (fun _ z=>nomatch z) (fun b o _ hb _ e n=>u.keep b o e n hb (by simp)) (fun b o _ hb _ e n=>u.slot b o e n hb (by simp)) (fun b o _ e n=>u.free b o e n (by simp)) (fun b o _ e=>u.there b o e (by simp)) u.yJ u.Dg u.Ij (fun m' hm=>by
  obtain⟨o',es',ep',N2,r'⟩:=hm;rw[ho] at N2;cases N2;exact⟨_,es',ep',hL,r'⟩) fR I.bare
theorem Inv.call{g':Array GenState}{t':Nat}{d':Drawn}{ch:List Addr}(I:Inv X pins σ H s)(u:Un (Sn X.stack) ch H H' s.heap h')(fR:vE X.prog X.w H' h')(hg:Gj g')
  (pS:∀b∈ch,(b∈X.ex\/X.Hl.heap.objs.size<=b)/\b≠X.env.locals/\(∀x c,X.env.cells.lookup x=some c->c≠b)/\∀p∈X.pn++pins,p.1≠b):
  Inv X pins σ H' {s with heap:=h',gens:=g',drawn:=d',toks:=t'}:=by
 obtain⟨m,⟨o,es,ep,ho,r⟩,_⟩:=id I.loc;obtain⟨sl,hL⟩:=u.any ho I.free fun z=>(pS _ z).2.1 rfl;exact I.step (ch:=ch) pS (fun b o hL hb hc e n=>u.keep b o e n (fun z=>(az.mp (I.Mo b z)).elim hL hb) hc) (fun b o _ _ hc e n=>u.any e n hc) (fun b o hc e n=>u.free b o e n hc) (fun b o hc e=>u.there b o e hc) u.yJ u.Dg u.Ij (fun m' hm=>by
  obtain⟨o',es',ep',N2,r'⟩:=hm;rw[ho] at N2;cases N2;exact⟨_,es',ep',hL,r'⟩) fR hg
theorem Inv.turned{t':Nat}{it:Addr}(I:Inv X pins σ H s)(k:∀b o,b≠it->s.heap.get? b=some o->h'.get? b=some o)(hn:H it=none)(hL:it≠X.env.locals)
  (h1:it∈X.ex\/X.Hl.heap.objs.size<=it)(h2:∀x c,X.env.cells.lookup x=some c->c≠it)(h3:∀p∈X.pn++pins,p.1≠it):Inv X pins σ H {s with heap:=h',toks:=t'}:=by
 have VZ:∀b u,H b=some u->b≠it:=fun b u e z=>by rw[z,hn] at e;cases e
 refine I.step (g':=s.gens) (d':=s.drawn) (ch:=[it]) (fun b hb=>?_) (fun b o _ _ hc e _=>k b o (fun z=>hc (by simp[z])) e) (fun b o _ _ hc e _=>⟨o.slots,k b o (fun z=>hc (by simp[z])) e⟩) (fun _ _ _ _ n=>n)
  (fun b o hc e=>⟨o,k b o (fun z=>hc (by simp[z])) e⟩) (fun _ _ e=>e) (fun _ _ _ e=>e) (fun b ps e=>⟨#[],by rw[e];simp⟩) (fun m hm=>?_) (fun b u e=>?_) I.bare
 ·have e:b=it:=by simpa using hb
  subst e;exact⟨h1,hL,h2,h3⟩
 ·obtain⟨o,es,ep,ho,r⟩:=hm;exact⟨o,es,ep,k _ o (rf hL) ho,r⟩
 ·refine(I.fR b u e).El (fun c v hc q=>k c v ?_ q) (fun _ q=>q) fun _ _ q=>q;rcases hc with z|z
  ·rw[z];exact VZ b u e
  ·exact VZ c _ z
theorem Inv.tok(I:Inv X pins σ H s)(t:Nat):Inv X pins σ H {s with toks:=t}:=I.un (h':=s.heap) (t':=t) Un.refl I.fR
theorem Inv.kept{t':Nat}(I:Inv X pins σ H s)(k:∀b u,s.heap.get? b=some u->h'.get? b=some u):Inv X pins σ H {s with heap:=h',toks:=t'}:=I.un (Un.kept k) (I.fR.kept k)
theorem Inv.laid{a:Addr}{o:HO}{t':Nat}(I:Inv X pins σ H s)(k:∀b u,s.heap.get? b=some u->h'.get? b=some u)(hp:s.heap.objs.size<=a)(new:ia X.prog X.w (upd H a o) h' a o):
  Inv X pins σ (upd H a o) {s with heap:=h',toks:=t'}:=I.un (Un.laid k hp (I.fR.fresh hp)) (I.fR.laid k hp new)
theorem Inv.write{x e:Addr}{o:HO}{t':Nat}(I:Inv X pins σ H s)(mu:Mut (H x))(he:e=x\/H e=some (.own x))(k:∀b u,b≠e->s.heap.get? b=some u->h'.get? b=some u)(YU:∃u,h'.get? e=some u)
  (new:ia X.prog X.w (upd H x o) h' x o):Inv X pins σ (upd H x o) {s with heap:=h',toks:=t'}:=I.un (Un.write mu he k YU) (I.fR.write mu he k YU new)
theorem Inv.weak{σ':List (Option V)}(I:Inv X pins σ H s)(hl:σ'.length=σ.length)(w:∀(i:Nat) v,σ'[i]?=some (some v)->σ[i]?=some (some v)):Inv X pins σ' H s:=
 ⟨I.ok,I.os,I.bare,I.base,let ⟨m,hn,hl'⟩:=I.loc;⟨m,hn,fun i x v e1 e2 e3=>hl' i x v e1 (w i v e2) e3⟩,I.cell,I.free,I.wK,I.pin,I.fR,hl.trans I.len⟩
theorem Inv.NH{VT:List (Addr×Obj)}(I:Inv X pins σ H s)(h:∀p∈VT,s.heap.get? p.1=some p.2/\H p.1=none/\p.1≠X.env.locals/\p.1∉X.fs/\∀v,p.2.data≠ .cell v):Inv X VT σ H s:=
 ⟨I.ok,I.os,I.bare,I.base,I.loc,I.cell,I.free,I.wK,fun p hp=>(bQ.mp hp).elim (fun z=>I.pin p (gp _ z)) (h p),I.fR,I.len⟩
theorem Fb{N:List Str}(hN:N.Nodup){i j:Nat}{x:Str}(a:N[i]?=some x)(b:N[j]?=some x):i=j:=by
 obtain⟨h1,e1⟩:=aP.mp a;obtain⟨h2,e2⟩:=aP.mp b;exact(Ts hN).mp (e1.trans e2.symm)
theorem Hg{M:Yu}{A:dw}{E:ao->aI->Prop}{i:Nat}{x:Str}{v:V}{u:ao}{Q:Unit->aI->Prop}(I:Inv X pins σ H s)(hN:X.N.Nodup)(hi:X.N[i]?=some x)(hx:Loc X.env.scope x)(r:RelV v u)
  (h:∀s',Inv X pins (σ.set i (some v)) H s'->(∃a,vz a s.heap s'.heap/\(a=X.env.locals\/X.env.cells.lookup x=some a))->Q () s')(hf:X.fn x=true\/X.env.scope.names.lookup x=some .local:=by first|exact .inl rfl|exact .inr rfl|assumption):bF M A (Y6 X.env x u) Q E s:=by
 obtain⟨m,hn,hl⟩:=id I.loc;have aeD:(X.env.scope.kind== .class||(X.env.scope.kind== .module&&X.env.locals !=X.env.globals))=false:=by rw[I.ok.kind];rfl
 have hiσ:i<σ.length:=by rw[I.len];exact(aP.mp hi).1
 have SI:=I.SI;have tracked:∀{a:Addr} {h':Heap},(∃o,s.heap.get? a=some o/\H a=none)->vz a s.heap h'->vE X.prog X.w H h':=fun{a h'} ha hs b ob e=>by
  obtain⟨_,_,HH⟩:=ha;refine(I.fR b ob e).El (fun c w' hc q=>(hs.2 c ?_).trans q) (fun _ q=>q) fun _ _ q=>q;rintro rfl;rcases hc with rfl|hc
  ·rw[HH] at e;cases e
  ·rw[HH] at hc;cases hc
 rcases hx with hk|hk
 ·refine wpAny_storeName_local hk hn (fun h' hn' hs=>?_) aeD;obtain⟨oL,_,_,hoL,_⟩:=id hn;refine h _ ⟨I.ok,I.os,I.bare,⟨fun b o e n hb hx=>?_,fun b o e n hb hx=>?_,I.base.free,fun b o e hx=>?_,I.base.yJ,I.base.Dg,I.base.Ij⟩,⟨_,hn',fun j y v' e1 e2 e3=>?_⟩,fun y c e=>?_,I.free,I.wK,fun p hp=>?_,tracked ⟨oL,hoL,I.free⟩ hs,by simpa using I.len⟩ ⟨_,hs,.inl rfl⟩
  ·exact(hs.2 b (b9 (bN (bc e) I.ok.above))).trans (I.base.keep b o e n hb hx)
  ·obtain⟨sl,e1⟩:=I.base.slot b o e n hb hx;exact⟨sl,(hs.2 b (b9 (bN (bc e) I.ok.above))).trans e1⟩
  ·obtain⟨o',e1⟩:=I.base.there b o e hx;exact⟨o',(hs.2 b (b9 (bN (bc e) I.ok.above))).trans e1⟩
  ·by_cases hj:j=i
   ·subst hj;rw[hi] at e1;cases e1;rw[vC hiσ] at e2;cases e2;exact⟨u,r,.inl ⟨hk,by simp⟩⟩
   ·rw[xZ (rf hj)] at e2;obtain⟨u',r',q⟩:=hl j y v' e1 e2 e3;refine⟨u',r',?_⟩;rcases q with⟨k,e⟩|⟨k,c,e,z⟩
    ·refine .inl ⟨k,?_⟩;have:y≠x:=fun e=>hj (Fb hN e1 (e▸hi));simp[this,e]
    ·exact .inr ⟨k,c,e,z.sameBut hs (SI y c e)⟩
  ·obtain⟨w',z⟩:=I.cell y c e;exact⟨w',z.sameBut hs (SI y c e)⟩
  ·obtain⟨e,n,ne,nf,d⟩:=I.pin p hp;exact⟨(hs.2 p.1 ne).trans e,n,ne,nf,d⟩
 ·have hfn:X.fn x=true:=by
   rcases hf with z|z
   ·exact z
   ·rw[z] at hk;cases hk
  obtain⟨c,hc⟩:=I.ok.has x (.inl hk);obtain⟨w',z⟩:=I.cell x c hc;refine wpAny_storeName_cell I.ok.kind hk hc z (fun h' Vd hs=>?_);obtain⟨oc,YO,U8⟩:=id z;refine h {s with heap:=h'} ⟨I.ok,I.os,I.bare,⟨fun b o e n hb hx=>?_,fun b o e n hb hx=>?_,I.base.free,fun b o e hx=>?_,I.base.yJ,I.base.Dg,I.base.Ij⟩,⟨m,hn.sameBut hs (rf (SI x c hc)),fun j y v' e1 e2 e3=>?_⟩,fun y c' e=>?_,I.free,I.wK,fun p hp=>?_,tracked ⟨oc,YO,I.wK x c hc⟩ hs,by simpa using I.len⟩ ⟨c,hs,.inr hc⟩
  ·exact(hs.2 b (b9 (bN (bc e) (I.ok.cab x c hfn hc)))).trans (I.base.keep b o e n hb hx)
  ·obtain⟨sl,e1⟩:=I.base.slot b o e n hb hx;exact⟨sl,(hs.2 b (b9 (bN (bc e) (I.ok.cab x c hfn hc)))).trans e1⟩
  ·obtain⟨o',e1⟩:=I.base.there b o e hx;exact⟨o',(hs.2 b (b9 (bN (bc e) (I.ok.cab x c hfn hc)))).trans e1⟩
  ·by_cases hj:j=i
   ·subst hj;rw[hi] at e1;cases e1;rw[vC hiσ] at e2;cases e2;exact⟨u,r,.inr ⟨.inl hk,c,hc,Vd⟩⟩
   ·rw[xZ (rf hj)] at e2;obtain⟨u',r',q⟩:=hl j y v' e1 e2 e3;refine⟨u',r',?_⟩;rcases q with q|⟨k,c',e,z'⟩
    ·exact .inl q
    ·refine .inr ⟨k,c',e,z'.sameBut hs ?_⟩;rintro rfl;exact hj (Fb hN e1 (I.ok.inj _ _ _ e hc▸hi))
  ·by_cases YV:c'=c
   ·subst YV;exact⟨_,Vd⟩
   ·obtain⟨w2,z2⟩:=I.cell y c' e;exact⟨w2,z2.sameBut hs YV⟩
  ·obtain⟨e,n,ne,nf,d⟩:=I.pin p hp;refine⟨(hs.2 p.1 ?_).trans e,n,ne,nf,d⟩;intro q;rw[q,YO] at e;have q':oc=p.2:=aR e;exact d w' (by rw[<-q'];exact U8)
theorem Eh{M:Yu}{A:dw}{E:ao->aI->Prop}{i:Nat}{x:Str}{v:V}{u:ao}{Q:Unit->aI->Prop}(I:Inv X pins σ H s)(hN:X.N.Nodup)(hi:X.N[i]?=some x)(hx:Loc X.env.scope x)(r:RelV v u)
  (h:∀s',Inv X pins (σ.set i (some v)) H s'->Q () s')(hf:X.fn x=true\/X.env.scope.names.lookup x=some .local:=by first|exact .inl rfl|exact .inr rfl|assumption):bF M A (Y6 X.env x u) Q E s:=
 Hg I hN hi hx r (fun s' I' _=>h s' I') hf
theorem Inv.abf{s':aI}{ch:List Addr}(I:Inv X pins σ H s)(ho:s'.os=s.os)(u:Un (Sn X.stack) ch H H' s.heap s'.heap)(fR:vE X.prog X.w H' s'.heap)(hg:Gj s'.gens)
  (pS:∀b∈ch,(b∈X.ex\/X.Hl.heap.objs.size<=b)/\b≠X.env.locals/\(∀x c,X.env.cells.lookup x=some c->c≠b)/\∀p∈X.pn++pins,p.1≠b):Inv X pins σ H' s':=by
 obtain⟨h',g',d',t',o'⟩:=s';have e:o'=s.os:=ho;subst e;exact I.call (g':=g') (t':=t') (d':=d') u fR hg pS
end
abbrev XK:=ao->Option Addr->Hp->Prop
abbrev St:=List (Option V)
abbrev VK:=V->Hp->Prop
abbrev TE:=St->Hp->VK->Prop
abbrev TT:=St->Hp->(Bool->Hp->Prop)->Prop
abbrev TA:=St->Hp->(List V->Hp->Prop)->Prop
structure Ends where
 nx:St->Hp->Prop
 rt:VK
 bk:St->Hp->Prop:=fun _ _=>False
 ct:St->Hp->Prop:=fun _ _=>False
abbrev TS:=Ends->St->Hp->Prop
def EP(X:Cx)(pins:List (Addr×Obj))(σ:St)(Q:VK)(u:ao)(s':aI):Prop:=∃v H',Inv X pins σ H' s'/\RelV v u/\Q v H'
def TP(X:Cx)(pins:List (Addr×Obj))(σ:St)(Q:Bool->Hp->Prop)(b:Bool)(s':aI):Prop:=∃H',Inv X pins σ H' s'/\Q b H'
def AP(X:Cx)(pins:List (Addr×Obj))(σ:St)(Q:List V->Hp->Prop)(us:List ao)(s':aI):Prop:=∃vs H',Inv X pins σ H' s'/\Vals vs us/\Q vs H'
def SP(X:Cx)(pins:List (Addr×Obj))(D:Ends)(f:Flow)(s':aI):Prop:=
 match f with
 |.next=>∃σ' H',Inv X pins σ' H' s'/\D.nx σ' H'
 |.brk=>∃σ' H',Inv X pins σ' H' s'/\D.bk σ' H'
 |.cont=>∃σ' H',Inv X pins σ' H' s'/\D.ct σ' H'
 |.ret u=>∃v σ' H',Inv X pins σ' H' s'/\RelV v u/\D.rt v H'
def PE(X:Cx)(e:Expr)(t:TE):Prop:=
 ∀(pins:List (Addr×Obj)) (s:aI) (σ:St) (H:Hp) (Q:VK),Inv X pins σ H s->t σ H Q->bF (bS X.prog X.w) X.A (eval e X.env) (EP X pins σ Q) X.xe s
def PT(X:Cx)(e:Expr)(t:TT):Prop:=
 ∀(pins:List (Addr×Obj)) (s:aI) (σ:St) (H:Hp) (Q:Bool->Hp->Prop),Inv X pins σ H s->t σ H Q->bF (bS X.prog X.w) X.A (Wu e X.env (eval e X.env)) (TP X pins σ Q) X.xe s
def PW(X:Cx)(e:Expr)(t:TT):Prop:=
 ∀(whole:Sem ao) (pins:List (Addr×Obj)) (s:aI) (σ:St) (H:Hp) (Q:Bool->Hp->Prop),Inv X pins σ H s->t σ H Q->bF (bS X.prog X.w) X.A (Wu e X.env whole) (TP X pins σ Q) X.xe s
theorem PW.pt{X:Cx}{e:Expr}{t:TT}(h:PW X e t):PT X e t:=h _
def PA(X:Cx)(es:List Expr)(t:TA):Prop:=
 ∀(pos:Pos) (pins:List (Addr×Obj)) (s:aI) (σ:St) (H:Hp) (Q:List V->Hp->Prop),Inv X pins σ H s->t σ H Q->bF (bS X.prog X.w) X.A (spliced (fq pos (bw es X.env))) (AP X pins σ Q) X.xe s
def PS(X:Cx)(st:Stmt)(t:TS):Prop:=
 ∀(pins:List (Addr×Obj)) (s:aI) (σ:St) (H:Hp) (D:Ends),Inv X pins σ H s->t D σ H->bF (bS X.prog X.w) X.A (exec st X.env) (SP X pins D) X.xe s
def Ot(X:Cx)(st:List Stmt)(t:TS):Prop:=
 ∀(pins:List (Addr×Obj)) (s:aI) (σ:St) (H:Hp) (D:Ends),Inv X pins σ H s->t D σ H->bF (bS X.prog X.w) X.A (execs st X.env) (SP X pins D) X.xe s
theorem gI{α:Type}{t:Sem α}{Q Q':α->aI->Prop}{M:Yu}{A:dw}{E:ao->aI->Prop}{s:aI}(h:bF M A t Q E s)(hQ:∀a s,Q a s->Q' a s):bF M A t Q' E s:=iI h hQ fun _ _ x=>x
section
variable{X:Cx}
def r8(i:Nat):TE:=fun σ H Q=>∃v,σ[i]?=some (some v)/\Q v H
def tC(v:V):TE:=fun _ H Q=>Q v H
theorem W_{i:Nat}{x:Str}{pos:Pos}(hN:X.N[i]?=some x)(hv:YZ X.env.scope x)(hd:(x==("__debug__":Str))=false:=by decide)(LR:(x==("__classdict__":Str))=false:=by decide):PE X (.Name x pos) (r8 i):=by
 intro pins s σ H Q I h;obtain⟨v,e,h⟩:=h;obtain⟨m,hn,hl⟩:=I.loc;obtain⟨u,r,l⟩:=hl i x v hN e hv;have fin:EP X pins σ Q u s:=⟨v,H,I,r,h⟩;rcases l with⟨hk,hm⟩|⟨hk,c,hc,Cp⟩
 ·exact D5 (AW I.ok.kind hk hn hm fin) hd
 ·rcases hk with hk|hk
  ·exact D5 (VE I.ok.kind hk hc Cp fin) hd
  ·exact D5 (VD I.ok.kind hk hc Cp fin LR) hd
theorem a8{i j pos}:PE X (.Constant (.int i) j pos) (tC (.int i)):=fun _ _ _ H _ I h=>wpAny_Constant_int ⟨.int i,H,I.tok _,⟨_,rfl⟩,h⟩
theorem qy{b j pos}:PE X (.Constant (.bool b) j pos) (tC (.bl b)):=fun _ _ _ H _ I h=>Constant_bool ⟨.bl b,H,I,rfl,h⟩
theorem nV{j pos}:PE X (.Constant .none j pos) (tC .gE):=fun _ _ _ H _ I h=>Constant_none ⟨.gE,H,I,rfl,h⟩
def Gl(X:Cx)(x:Str):Prop:=X.env.kindOf x=some .globalImplicit
theorem Ai{E:ao->aI->Prop}{pins:List (Addr×Obj)}{s:aI}{σ:St}{H:Hp}{x:Str}{u:ao}{pos:Pos}{Q:ao->aI->Prop}(I:Inv X pins σ H s)(hg:Gl X x)(hm:X.mg x=some u)(h:Q u s)
  (hd:(x==("__debug__":Str))=false:=by decide):bF (bS X.prog X.w) X.A (eval (.Name x pos) X.env) Q E s:=
 Gi I.ok.kind hg (Calls.loadGlobal_global (by rw[I.ok.glob];exact I.mod.glob.keeps I.bk) hm h) hd
theorem pk{E:ao->aI->Prop}{pins:List (Addr×Obj)}{s:aI}{σ:St}{H:Hp}{x:Str}{u:ao}{pos:Pos}{Q:ao->aI->Prop}(I:Inv X pins σ H s)(hg:Gl X x)(hm:X.mg x=none)(hv:o7 x=some u)(h:Q u s)
  (hn:x≠"__name__":=by decide)(hd:(x==("__debug__":Str))=false:=by decide):bF (bS X.prog X.w) X.A (eval (.Name x pos) X.env) Q E s:=by
 obtain⟨mb,h1,h2⟩:=I.mod.blt;exact Gi I.ok.kind hg (Calls.loadGlobal_builtin (by rw[I.ok.glob];exact I.mod.glob.keeps I.bk) hm (by rw[I.ok.blt];exact h1.keeps I.bk) ((h2 x hn).trans hv) h) hd
theorem NK{x:Str}{v:V}{u:ao}{pos:Pos}(hg:Gl X x)(hm:X.mg x=some u)(r:RelV v u)(hd:(x==("__debug__":Str))=false:=by decide):PE X (.Name x pos) (tC v):=
 fun _ _ _ H _ I h=>Ai I hg hm ⟨v,H,I,r,h⟩ hd
variable{a b:Expr}{ta tb:TE}{pos:Pos}
def PC(X:Cx)(op:Ma)(a b:Expr)(t:TE):Prop:=
 ∀(pins:List (Addr×Obj)) (s:aI) (σ:St) (H:Hp) (Q:VK),Inv X pins σ H s->t σ H Q->
  bF (bS X.prog X.w) X.A (eval a X.env) (fun v s₁=>bF (bS X.prog X.w) X.A (eval b X.env) (fun u s₂=>bF (bS X.prog X.w) X.A (fj op v u) (EP X pins σ Q) X.xe s₂) X.xe s₁) X.xe s
def tB(t:TE):TT:=fun σ H Q=>t σ H fun x H1=>∃c,x= .bl c/\Q c H1
theorem W8{op:Ma}{t:TE}(h:PC X op a b t)(h1:behindInMarks op b=false:=by first|exact ZY _ (by decide) (by decide)|rfl):PT X (.Compare a [op] [b] pos) (tB t):=by
 intro pins s σ H Q I hw;refine Tf (gI (h pins s σ H _ I hw) fun v s1 h1=>gI h1 fun u s2 h2=>gI h2 fun c s3 ⟨x,H1,I1,r1,q1⟩=>?_) h1;obtain⟨d,rfl,q⟩:=q1;cases r1;exact ff ⟨H1,I1,q⟩
theorem cZ{e:Expr}{t:TE}(h:PE X e t)(he:∀whole,Wu e X.env whole=(do let v <-whole;Ge e.pos;LD [v] (truthy v)):=by intro _;rfl):PT X e (tB t):=by
 intro pins s σ H Q I hw;refine isTrue_plain (gI (h pins s σ H _ I hw) fun v s1 ⟨x,H1,I1,r1,q1⟩=>?_) (he _);obtain⟨d,rfl,q⟩:=q1;cases r1;exact ff ⟨H1,I1,q⟩
variable{tA tB':TT}{rest:List Expr}
def ac2(t u:TT):TT:=fun σ H Q=>t σ H fun c H1=>if c=true then u σ H1 Q else Q false H1
def tOr(t u:TT):TT:=fun σ H Q=>t σ H fun c H1=>if c=true then Q true H1 else u σ H1 Q
def acU(t:TT):TT:=fun σ H Q=>t σ H fun c H1=>Q (!c) H1
theorem IP(ha:PT X a tA):PW X (.BoolOp .And [a] pos) tA:=by
 intro wh pins s σ H Q I h;refine isTrue_and (gI (ha pins s σ H Q I h) fun c s1 e=>?_);cases c with
 |true=>exact isTrue_and_nil e
 |false=>exact e
theorem wm(ha:PT X a tA):PW X (.BoolOp .Or [a] pos) tA:=by
 intro wh pins s σ H Q I h;refine isTrue_or (gI (ha pins s σ H Q I h) fun c s1 e=>?_);cases c with
 |false=>exact isTrue_or_nil e
 |true=>exact e
theorem Mr(ha:PT X a tA)(hb:PW X (.BoolOp .And (b::rest) pos) tB'):PW X (.BoolOp .And (a::b::rest) pos) (ac2 tA tB'):=by
 intro wh pins s σ H Q I h;refine isTrue_and (gI (ha pins s σ H _ I h) fun c s1 ⟨H1,I1,q1⟩=>?_);cases c with
 |true=>exact hb wh pins s1 σ H1 Q I1 q1
 |false=>exact⟨H1,I1,q1⟩
theorem Cb(ha:PT X a tA)(hb:PW X (.BoolOp .Or (b::rest) pos) tB'):PW X (.BoolOp .Or (a::b::rest) pos) (tOr tA tB'):=by
 intro wh pins s σ H Q I h;refine isTrue_or (gI (ha pins s σ H _ I h) fun c s1 ⟨H1,I1,q1⟩=>?_);cases c with
 |true=>exact⟨H1,I1,q1⟩
 |false=>exact hb wh pins s1 σ H1 Q I1 q1
theorem d8(ha:PT X a tA):PT X (.UnaryOp .Not a pos) (acU tA):=by
 intro pins s σ H Q I h;exact isTrue_not (ha pins s σ H (fun c H1=>Q (!c) H1) I h)
def ZJ(ta tb:TE):TE:=fun σ H Q=>ta σ H fun x H1=>∃c,x= .bl c/\if c=true then tb σ H1 Q else Q (.bl false) H1
def acT(ta tb:TE):TE:=fun σ H Q=>ta σ H fun x H1=>∃c,x= .bl c/\if c=true then Q (.bl true) H1 else tb σ H1 Q
theorem Bi{op}{t:TE}(h:PE X a t):PE X (.BoolOp op [a] pos) t:=fun pins s σ H Q I hw=>BoolOp_one (h pins s σ H Q I hw)
theorem IS(ha:PE X a ta)(hb:PE X (.BoolOp .And (b::rest) pos) tb):PE X (.BoolOp .And (a::b::rest) pos) (ZJ ta tb):=by
 intro pins s σ H Q I h;refine BoolOp_and (gI (ha pins s σ H _ I h) fun v s1 ⟨x,H1,I1,r1,q1⟩=>?_);obtain⟨c,rfl,q1⟩:=q1;cases r1;refine ff ?_;cases c with
 |true=>exact hb pins s1 σ H1 Q I1 q1
 |false=>exact⟨.bl false,H1,I1,rfl,q1⟩
theorem VU(ha:PE X a ta)(hb:PE X (.BoolOp .Or (b::rest) pos) tb):PE X (.BoolOp .Or (a::b::rest) pos) (acT ta tb):=by
 intro pins s σ H Q I h;refine BoolOp_or (gI (ha pins s σ H _ I h) fun v s1 ⟨x,H1,I1,r1,q1⟩=>?_);obtain⟨c,rfl,q1⟩:=q1;cases r1;refine ff ?_;cases c with
 |false=>exact hb pins s1 σ H1 Q I1 q1
 |true=>exact⟨.bl true,H1,I1,rfl,q1⟩
def tIf(t:TT)(ta tb:TE):TE:=fun σ H Q=>t σ H fun c H1=>if c=true then ta σ H1 Q else tb σ H1 Q
theorem ES{c:Expr}(hc:PT X c tA)(ha:PE X a ta)(hb:PE X b tb):PE X (.IfExp c a b pos) (tIf tA ta tb):=by
 intro pins s σ H Q I h;refine wpAny_IfExp (gI (hc pins s σ H _ I h) fun d s1 ⟨H1,I1,q1⟩=>?_);cases d with
 |true=>exact ha pins s1 σ H1 Q I1 q1
 |false=>exact hb pins s1 σ H1 Q I1 q1
end
def cF(K:aq)(H:Hp)(a:Addr)(xs:List V):Prop:=
 Rd H a (.lst xs)\/
  ∃(o:Obj) (its:Array ao) (n:Nat),K.lookup a=some o/\o.cls= .type "list"/\o.dict=none/\o.data= .seq its n/\its.size<=aG/\Vals xs its.toList
def JO(K:aq)(H:Hp)(a:Addr)(xs:List V):Prop:=
 Rd H a (.tup xs)\/
  ∃(o:Obj) (its:Array ao) (n:Nat),K.lookup a=some o/\o.cls= .type "tuple"/\o.data= .seq its n/\its.size<=aG/\Vals xs its.toList
def afz:ao->Option V
 |.none=>some .gE
 |.bool b=>some (.bl b)
 |.int i _=>some (.int i)
 |.str x _=>some (.str x)
 |.bytes b _=>some (.LU b)
 |.float b _=>some (.Vn b)
 |.ref a=>some (.ref a)
 |.type n=>some (.ty n)
 |_=>none
theorem RelV.abs{x:V}{u:ao}(r:RelV x u):afz u=some x:=by
 cases x with
 |gE=>cases r;rfl
 |bl _=>cases r;rfl
 |int _=>obtain⟨t,rfl⟩:=r;rfl
 |str _=>obtain⟨t,rfl⟩:=r;rfl
 |LU _=>obtain⟨t,rfl⟩:=r;rfl
 |Vn _=>obtain⟨t,rfl⟩:=r;rfl
 |ref _=>cases r;rfl
 |ty _=>cases r;rfl
theorem RelV.inj{x y:V}{u:ao}(r:RelV x u)(q:RelV y u):x=y:=aR (r.abs.symm.trans q.abs)
theorem Vals.inj:∀{xs ys:List V} {us:List ao},Vals xs us->Vals ys us->xs=ys
 |_,_,_,.nil,.nil=>rfl
 |_,_,_,.cons r t,.cons r' t'=>by rw[r.inj r',Vals.inj t t']
section
variable{X:Cx}{pins:List (Addr×Obj)}{σ:St}{H:Hp}{s:aI}{a:Addr}{xs ys:List V}
theorem cF.of{K:aq}(h:H a=some (.lst xs)):cF K H a xs:= .inl (.inl h)
theorem Inv.list(I:Inv X pins σ H s)(h:cF X.K H a xs):∃its:List ao,Vals xs its/\PlainL s.heap a its.toArray/\xs.length<=aG:=by
 rcases h with h|⟨o,its,n,hk,hc,hd,hs,hz,r⟩
 ·obtain⟨z,its,n,r,e⟩:=h.ok I.fR;exact⟨its,r,⟨_,n,e,rfl,rfl,rfl⟩,z⟩
 ·refine⟨its.toList,r,⟨o,n,I.KW a o hk,hc,hd,by simpa using hs⟩,?_⟩;have e:=r.length;simp only[yE] at e;omega
theorem Inv.tuple(I:Inv X pins σ H s)(h:JO X.K H a xs):∃its:List ao,Vals xs its/\IsTup s.heap a its.toArray/\xs.length<=aG:=by
 rcases h with h|⟨o,its,n,hk,hc,hs,hz,r⟩
 ·obtain⟨z,its,r,p⟩:=h.ok I.fR;exact⟨its,r,p,z⟩
 ·refine⟨its.toList,r,⟨o,I.KW a o hk,hc,n,by simpa using hs⟩,?_⟩;have e:=r.length;simp only[yE] at e;omega
theorem Inv.tL(I:Inv X pins σ H s)(h:cF X.K H a xs)(h':cF X.K H a ys):xs=ys:=by
 obtain⟨its,r,⟨o,n,e,_,_,d⟩,_⟩:=I.list h;obtain⟨its',r',⟨o',n',e',_,_,d'⟩,_⟩:=I.list h';rw[e] at e';cases e';rw[d] at d';injection d' with d1 _;have:its=its':=by simpa using congrArg WD d1
 subst this;exact r.inj r'
end
abbrev Cx.Gn(X:Cx)(E:ao->aI->Prop):Cx:={X with xe:=E}
abbrev Cx.YC(X:Cx):Cx:=X.Gn fun _ _=>False
theorem Cx.Ok.Gn{X:Cx}(ok:X.Ok)(E:ao->aI->Prop):(X.Gn E).Ok:=
 ⟨ok.mod,ok.kind,ok.glob,ok.blt,ok.above,ok.inj,ok.has,ok.cab,ok.hd,ok.frames,ok.stk,ok.exf,ok.bs,ok.TK,ok.Rw,ok.Sq,ok.De,ok.X4⟩
theorem Cx.Ok.vM{X:Cx}{E:ao->aI->Prop}(ok:(X.Gn E).Ok):X.Ok:=
 ⟨ok.mod,ok.kind,ok.glob,ok.blt,ok.above,ok.inj,ok.has,ok.cab,ok.hd,ok.frames,ok.stk,ok.exf,ok.bs,ok.TK,ok.Rw,ok.Sq,ok.De,ok.X4⟩
section
variable{X:Cx}{pins:List (Addr×Obj)}{σ:St}{H:Hp}{s:aI}{E:ao->aI->Prop}
theorem Inv.Gn(I:Inv X pins σ H s)(E:ao->aI->Prop):Inv (X.Gn E) pins σ H s:=⟨I.ok.Gn E,I.os,I.bare,I.base,I.loc,I.cell,I.free,I.wK,I.pin,I.fR,I.len⟩
theorem Inv.vM(I:Inv (X.Gn E) pins σ H s):Inv X pins σ H s:=⟨I.ok.vM,I.os,I.bare,I.base,I.loc,I.cell,I.free,I.wK,I.pin,I.fR,I.len⟩
theorem SP.vM{D:Ends}{f:Flow}{s':aI}(h:SP (X.Gn E) pins D f s'):SP X pins D f s':=by
 cases f with
 |next=>obtain⟨σ',H',I,q⟩:=h;exact⟨σ',H',I.vM,q⟩
 |brk=>obtain⟨σ',H',I,q⟩:=h;exact⟨σ',H',I.vM,q⟩
 |cont=>obtain⟨σ',H',I,q⟩:=h;exact⟨σ',H',I.vM,q⟩
 |ret u=>obtain⟨v,σ',H',I,r,q⟩:=h;exact⟨v,σ',H',I.vM,r,q⟩
theorem Ot.YC{st:List Stmt}{t:TS}(h:Ot X.YC st t):Ot X st t:=fun pins s σ H D I hw=>
 iI (h pins s σ H D (I.Gn _) hw) (fun _ _ q=>q.vM) fun _ _ z=>fL z
end
section
variable{X:Cx}{st:Stmt}{rest:List Stmt}{t u:TS}{e:Expr}{te:TE}{pos:Pos}
def ZG:TS:=fun D σ H=>D.nx σ H
def OM(t u:TS):TS:=fun D σ H=>t {D with nx:=u D} σ H
theorem bI:Ot X [] ZG:=fun _ _ σ H _ I h=>zj ⟨σ,H,I,h⟩
theorem ai(h1:PS X st t)(h2:Ot X rest u):Ot X (st::rest) (OM t u):=by
 intro pins s σ H D I h;refine Y5 (gI (h1 pins s σ H {D with nx:=u D} I h) fun f s1 q=>?_);cases f with
 |next=>
  obtain⟨σ',H',I',q⟩:=q;exact h2 pins s1 σ' H' D I' q
 |ret v=>exact q
 |brk=>exact q
 |cont=>exact q
theorem aB(h1:PS X st t):Ot X [st] t:=by
 intro pins s σ H D I h;refine Y5 (gI (h1 pins s σ H D I h) fun f s1 q=>?_);cases f with
 |next=>exact zj q
 |ret v=>exact q
 |brk=>exact q
 |cont=>exact q
theorem Inv.quiet{pins:List (Addr×Obj)}{σ:St}{H:Hp}{s:aI}(I:Inv X pins σ H s):interactive X.env=false:=by simp[interactive,I.ok.kind]
def Nw(te:TE):TS:=fun D σ H=>te σ H fun _ H1=>D.nx σ H1
theorem cg(he:PE X e te)(hs:t4 e none pos.line X.env=pure false:=by rfl):PS X (.Expr e pos) (Nw te):=by
 intro pins s σ H D I h;exact wpAny_Expr_any (gI (he pins s σ H _ I h) fun v s1 ⟨x,H1,I1,r1,q1⟩=>⟨σ,H1,I1,q1⟩) I.quiet hs
def ZE(te:TE):TS:=fun D σ H=>te σ H D.rt
theorem bf(he:PE X e te):PS X (.Return (some e) pos) (ZE te):=by
 intro pins s σ H D I h;exact wpAny_Return_some (gI (he pins s σ H _ I h) fun v s1 ⟨x,H1,I1,r1,q1⟩=>⟨x,σ,H1,I1,r1,q1⟩)
def ZD:TS:=fun D _ H=>D.rt .gE H
theorem NF:PS X (.Return none pos) ZD:=fun _ _ σ H _ I h=>wpAny_Return_none ⟨.gE,σ,H,I,rfl,h⟩
def acW(c:TT)(t u:TS):TS:=fun D σ H=>c σ H fun b H1=>if b=true then t D σ H1 else u D σ H1
theorem cX{c:Expr}{a b:List Stmt}{tc:TT}(hc:PT X c tc)(ha:Ot X a t)(hb:Ot X b u):PS X (.If c a b pos) (acW tc t u):=by
 intro pins s σ H D I h;refine wpAny_If (gI (hc pins s σ H _ I h) fun d s1 ⟨H1,I1,q1⟩=>?_);cases d with
 |true=>exact ha pins s1 σ H1 D I1 q1
 |false=>exact hb pins s1 σ H1 D I1 q1
end
abbrev TG:=V->St->Hp->(St->Hp->Prop)->Prop
abbrev Wi:=List V->St->Hp->(St->Hp->Prop)->Prop
def PG(X:Cx)(target:Expr)(t:TG):Prop:=
 ∀(pins:List (Addr×Obj)) (s:aI) (σ:St) (H:Hp) (v:V) (u:ao) (Q:St->Hp->Prop),Inv X pins σ H s->RelV v u->t v σ H Q->
  bF (bS X.prog X.w) X.A (Ww target X.env u) (fun _ s'=>∃σ' H',Inv X pins σ' H' s'/\Q σ' H') X.xe s
def PGs(X:Cx)(ts:List Expr)(t:Wi):Prop:=
 ∀(pins:List (Addr×Obj)) (s:aI) (σ:St) (H:Hp) (vs:List V) (us:List ao) (Q:St->Hp->Prop),Inv X pins σ H s->Vals vs us->t vs σ H Q->
  bF (bS X.prog X.w) X.A (assignInOrder ((ub ts X.env).map (·.2)) us) (fun _ s'=>∃σ' H',Inv X pins σ' H' s'/\Q σ' H') X.xe s
abbrev TIp:=V->V->Hp->VK->Prop
def PIp(X:Cx)(op:L8)(t:TIp):Prop:=
 ∀(pins:List (Addr×Obj)) (s:aI) (σ:St) (H:Hp) (x y:V) (v u:ao) (Q:VK),Inv X pins σ H s->RelV x v->RelV y u->t x y H Q->
  bF (bS X.prog X.w) X.A (Y8 op v u) (EP X pins σ Q) X.xe s
section
variable{X:Cx}{pos:Pos}
def FD(i:Nat):TG:=fun v σ H Q=>Q (σ.set i (some v)) H
theorem NJ{i:Nat}{x:Str}(hN:X.N.Nodup)(hi:X.N[i]?=some x)(hx:Loc X.env.scope x)(hf:X.fn x=true\/X.env.scope.names.lookup x=some .local:=by first|exact .inl rfl|exact .inr rfl|assumption):PG X (.Name x pos) (FD i):=by
 intro pins s σ H v u Q I r h;exact Yn (Eh I hN hi hx r (fun s' I'=>⟨_,H,I',h⟩) hf)
def aeV:Wi:=fun vs σ H Q=>vs=[]/\Q σ H
def aa6(t:TG)(u:Wi):Wi:=fun vs σ H Q=>∃v r,vs=v::r/\t v σ H fun σ' H'=>u r σ' H' Q
theorem DH:PGs X [] aeV:=by
 intro pins s σ H vs us Q I r h;obtain⟨e,h⟩:=h;subst e;cases r;exact assignInOrder_nil ⟨σ,H,I,h⟩
theorem oR{e:Expr}{es:List Expr}{t:TG}{u:Wi}(h1:PG X e t)(h2:PGs X es u)
  (hs:(ub (e::es) X.env).map (·.2)=Ww e X.env::(ub es X.env).map (·.2):=by rfl):PGs X (e::es) (aa6 t u):=by
 intro pins s σ H vs us Q I r h;obtain⟨v,vr,e1,h⟩:=h;subst e1;cases r with
 |cons r rr=>
  rw[hs];refine assignInOrder_cons (gI (h1 pins s σ H _ _ _ I r h) fun _ s1 ⟨σ1,H1,I1,q1⟩=>?_);exact h2 pins s1 σ1 H1 _ _ Q I1 rr q1
def aa5(K:aq)(n:Nat)(t:Wi):TG:=fun v σ H Q=>∃a xs,v= .ref a/\JO K H a xs/\xs.length=n/\t xs σ H Q
theorem Mt{es:List Expr}{k:Nat}{t:Wi}{n:Nat}(hc:X.calm=true)(h:PGs X es t)
  (hn:(ub es X.env).length=n:=by rfl)(wH:(ub es X.env).findIdx? (·.1)=none:=by rfl):PG X (.Tuple es k pos) (aa5 X.K n t):=by
 intro pins s σ H v u Q I r hw;obtain⟨a,xs,e1,hq,hl,hw⟩:=hw;subst e1;cases r;obtain⟨its,rv,ht,hz⟩:=I.tuple hq;refine assign_Tuple_tuple (I.ok.hd hc) ht (by simp[hn,<-hl,rv.length]) wH fun h' hx=>?_;have I1:Inv X pins σ H {s with heap:=h'}:=I.kept (t':=s.toks) fun b o e=>hx b o (b9 (bc e)) e;exact h pins _ σ H xs _ Q I1 (by simpa using rv) hw
def Ue(te:TE)(g:TG):TS:=fun D σ H=>te σ H fun x H1=>g x σ H1 D.nx
theorem yW{i:Nat}{x:Str}{e:Expr}{te:TE}{pos':Pos}(hN:X.N.Nodup)(hi:X.N[i]?=some x)(hx:Loc X.env.scope x)(he:PE X e te)(hs:t4 e (some (.Name x pos')) pos.line X.env=pure false:=by rfl)(hf:X.fn x=true\/X.env.scope.names.lookup x=some .local:=by first|exact .inl rfl|exact .inr rfl|assumption):
  PS X (.Assign [.Name x pos'] e pos) (Ue te (FD i)):=by
 intro pins s σ H D I h;refine wpAny_Assign_Name (gI (he pins s σ H _ I h) fun v s1 ⟨y,H1,I1,r1,q1⟩=>?_) hs;exact Eh I1 hN hi hx r1 (fun s2 I2=>⟨_,H1,I2,q1⟩) hf
def ac1(i:Nat)(te:TE)(ti:TIp):TS:=fun D σ H=>∃x,σ[i]?=some (some x)/\te σ H fun y H1=>ti x y H1 fun z H2=>D.nx (σ.set i (some z)) H2
theorem EM{i:Nat}{x:Str}{e:Expr}{te:TE}{op:L8}{ti:TIp}{pos':Pos}(hN:X.N.Nodup)(hi:X.N[i]?=some x)(hx:Loc X.env.scope x)(he:PE X e te)(ho:PIp X op ti)(hf:X.fn x=true\/X.env.scope.names.lookup x=some .local:=by first|exact .inl rfl|exact .inr rfl|assumption):
  PS X (.AugAssign (.Name x pos') op e pos) (ac1 i te ti):=by
 intro pins s σ H D I h;obtain⟨v,e1,h⟩:=h;obtain⟨m,hn,hl⟩:=I.loc;have vis:YZ X.env.scope x:=by rcases hx with k|k;exact .inl k;exact .inr (.inl k)
 obtain⟨u,r,l⟩:=hl i x v hi e1 vis;refine wpAny_AugAssign_Name ?_;have go:bF (bS X.prog X.w) X.A (eval e X.env) (fun w s₂=>bF (bS X.prog X.w) X.A (Y8 op u w) (fun r s₃=>bF (bS X.prog X.w) X.A (Y6 X.env x r) (fun _=>SP X pins D .next) X.xe s₃) X.xe s₂) X.xe s:=by
  refine gI (he pins s σ H _ I h) fun w s1 ⟨y,H1,I1,r1,q1⟩=>?_;refine gI (ho pins s1 σ H1 v y u w _ I1 r r1 q1) fun z s2 ⟨zv,H2,I2,r2,q2⟩=>?_;exact Eh I2 hN hi hx r2 (fun s3 I3=>⟨_,H2,I3,q2⟩) hf
 rcases l with⟨hk,hm⟩|⟨hk,c,hc,Cp⟩
 ·exact AW I.ok.kind hk hn hm go
 ·rcases hk with hk|hk
  ·exact VE I.ok.kind hk hc Cp go
  ·rcases hx with k|k
   ·have:X.env.scope.names.lookup x=some .free:=hk;rw[k] at this;cases this
   ·have:X.env.scope.names.lookup x=some .free:=hk;rw[k] at this;cases this
def ipI(f:Int->Int->Int):TIp:=fun x y H Q=>∃i j,x= .int i/\y= .int j/\Q (.int (f i j)) H
theorem Ju:PIp X .Add (ipI fun i j=>i+j):=by
 intro pins s σ H x y v u Q I r1 r2 h;obtain⟨i,j,e1,e2,q⟩:=h;subst e1;subst e2;obtain⟨t,rfl⟩:=r1;obtain⟨t',rfl⟩:=r2;exact Th ⟨.int _,H,I.tok _,⟨_,rfl⟩,q⟩
theorem Xu:PIp X .Sub (ipI fun i j=>i -j):=by
 intro pins s σ H x y v u Q I r1 r2 h;obtain⟨i,j,e1,e2,q⟩:=h;subst e1;subst e2;obtain⟨t,rfl⟩:=r1;obtain⟨t',rfl⟩:=r2;exact isub_int ⟨.int _,H,I.tok _,⟨_,rfl⟩,q⟩
def WK(c:TT)(tb:TS):TS:=fun D σ H=>∃W:Nat->St->Hp->Prop,(∃m,W m σ H)/\∀m σ H,W m σ H->
 c σ H fun b H1=>if b=true then ∃N:St->Hp->Prop,(∀σ' H',N σ' H'->∃m',m'<m/\W m' σ' H')/\tb {D with nx:=N,ct:=N,bk:=D.nx} σ H1 else D.nx σ H1
theorem EJ{c:Expr}{body:List Stmt}{tc:TT}{tb:TS}(hp:PassesOwn (bS X.prog X.w) X.A X.env X.xe)(hc:PT X c tc)(hb:Ot X body tb):PS X (.While c body [] pos) (WK tc tb):=by
 intro pins s σ H D I h;obtain⟨W,⟨m0,w0⟩,turn⟩:=h;refine wpAny_While (codeAny_whileLoop (fun n s'=>∃σ' H',Inv X pins σ' H' s'/\W n σ' H') ?_ m0 ⟨σ,H,I,w0⟩);rintro n s1 ⟨σ1,H1,I1,w1⟩;refine kY hp (gI (hc pins s1 σ1 H1 _ I1 (turn n σ1 H1 w1)) fun b s2 ⟨H2,I2,q2⟩=>?_);cases b with
 |true=>
  obtain⟨N,hN,q2⟩:=q2;rw[if_pos rfl];refine kY hp (gI (hb pins s2 σ1 H2 _ I2 q2) fun f s3 q3=>?_);cases f with
  |next=>
   obtain⟨σ3,H3,I3,n3⟩:=q3;obtain⟨m',hm,w3⟩:=hN σ3 H3 n3;exact⟨m',hm,σ3,H3,I3,w3⟩
  |cont=>
   obtain⟨σ3,H3,I3,n3⟩:=q3;obtain⟨m',hm,w3⟩:=hN σ3 H3 n3;exact⟨m',hm,σ3,H3,I3,w3⟩
  |brk=>exact q3
  |ret v=>exact q3
 |false=>
  rw[if_neg aU];exact zj ⟨σ1,H2,I2,q2⟩
end
structure It where
 go:Nat->Hp->Prop
 QI:Nat->Hp->V->Hp->Prop
 stop:Nat->Hp->Prop
def Dy(X:Cx)(pins:List (Addr×Obj))(H:Hp)(b:Addr):Prop:=
 H b=none/\b≠X.env.locals/\b∉X.fs/\(b∈X.ex\/X.Hl.heap.objs.size<=b)/\(∀x c,X.env.cells.lookup x=some c->c≠b)/\∀p∈X.pn++pins,p.1≠b
theorem Inv.MQ{X:Cx}{pins:List (Addr×Obj)}{σ:St}{H H':Hp}{s:aI}{b:Addr}(I:Inv X pins σ H s)(hb:s.heap.objs.size<=b)(hn:H' b=none):Dy X pins H' b:=by
 refine⟨hn,j5 (bN I.lt hb),I.adm hb,.inr (aD I.sz hb),fun x c e z=>?_,fun p hp z=>?_⟩
 ·obtain⟨v,q⟩:=I.cell x c e;exact absurd (bN q.lt (by rw[z];exact hb)) (d9 _)
 ·exact absurd (bN (bc (I.pin p hp).1) (by rw[z];exact hb)) (d9 _)
structure Turn(P:bq)(w:cf)(K:aq)(tg:Expr)(J:It)(fp:List Addr)(it:Addr)(tn:Nat->Heap->Prop):Prop where
 mem:it∈fp
 obj:∀i h,tn i h->∀b∈fp,∃o,h.get? b=some o/\∀v,o.data≠ .cell v
 keep:∀i h h',tn i h->(∀b∈fp,∀o,h.get? b=some o->h'.get? b=some o)->tn i h'
 item:∀(X:Cx),X.prog=P->X.w=w->X.K=K->X.calm=true->∀(i:Nat) (pins:List (Addr×Obj)) (s:aI) (σ:St) (H:Hp) (E:ao->aI->Prop),Inv X pins σ H s->(∀b∈fp,Dy X pins H b)->tn i s.heap->J.go i H->
  bF (bS P w) X.A (D7 (.ref it)) (fun r s1=>∃u,r=some u/\
   bF (bS P w) X.A (zl tg (.ref it) u) (fun _ s2=>∃x H',Inv X pins σ H' s2/\RelV x u/\J.QI i H x H'/\tn (i+1) s2.heap/\∀b∈fp,H' b=none) E s1) E s
 done:∀(X:Cx),X.prog=P->X.w=w->X.K=K->X.calm=true->∀(i:Nat) (pins:List (Addr×Obj)) (s:aI) (σ:St) (H:Hp) (E:ao->aI->Prop),Inv X pins σ H s->(∀b∈fp,Dy X pins H b)->tn i s.heap->J.stop i H->
  bF (bS P w) X.A (D7 (.ref it)) (fun r s1=>r=none/\Inv X pins σ H s1) E s
 self:∀(A:dw) (i:Nat) (s:aI) (Q:ao->aI->Prop) (E:ao->aI->Prop),tn i s.heap->Q (.ref it) s->bF (bS P w) A (pyIter (.ref it)) Q E s
abbrev TI:=St->Hp->(It->Hp->Prop)->Prop
def PIE(X:Cx)(pins:List (Addr×Obj))(σ:St)(tg:Expr)(R:It->Hp->Prop)(itv:ao)(s2:aI):Prop:=
 ∃(it:Addr) (fp:List Addr) (tn:Nat->Heap->Prop) (J:It) (H':Hp),itv= .ref it/\Inv X pins σ H' s2/\Turn X.prog X.w X.K tg J fp it tn/\tn 0 s2.heap/\(∀b∈fp,Dy X pins H' b)/\R J H'
def PI(X:Cx)(tg iter:Expr)(wi:TI):Prop:=
 ∀(pins:List (Addr×Obj)) (s:aI) (σ:St) (H:Hp) (R:It->Hp->Prop),Inv X pins σ H s->wi σ H R->
  bF (bS X.prog X.w) X.A (eval iter X.env) (fun v s1=>bF (bS X.prog X.w) X.A (pyIter v) (PIE X pins σ tg R) X.xe s1) X.xe s
theorem N5{M:Yu}{A:dw}{E:ao->aI->Prop}{s:aI}{tg:Expr}{it:Addr}{u:ao}{o:Obj}{n:String}{vs:Array ao}{Q:Unit->aI->Prop}(ho:s.heap.get? it=some o)(hc:o.cls= .type n)(hd:o.data= .fields vs)
  (hn:["enumerate","zip","dict_itemiterator","dict_reverseitemiterator","odict_iterator","itertools.zip_longest","itertools.pairwise"].contains n=false)(hQ:Q () s):bF M A (zl tg (.ref it) u) Q E s:=by
 unfold zl;cases tg<;>first
  |exact bH hQ
  |(cases u<;>first
    |exact bH hQ
    |(refine aK (wpAny_load ho ?_)
      rw[hc,hd];show bF M A (if(["enumerate","zip","dict_itemiterator","dict_reverseitemiterator","odict_iterator","itertools.zip_longest","itertools.pairwise"].contains n&&vs[0]?==some (l8 _))=true then _ else _) Q E s;rw[if_neg (by intro h;rw[hn,jg] at h;cases h)];exact bH hQ))
def Wk(K:aq)(a:Addr):It:=
 ⟨fun i H=>∃xs x,cF K H a xs/\xs[i]?=some x,fun i H x H'=>H'=H/\∀xs,cF K H a xs->xs[i]?=some x,fun i H=>∃xs,cF K H a xs/\xs.length<=i⟩
def Y0(lo:Int)(n:Nat):It:=⟨fun i _=>i<n,fun i H x H'=>H'=H/\x= .int (lo+i),fun i _=>n<=i⟩
theorem OI{P:bq}{w:cf}{K:aq}{tg:Expr}(a it:Addr):Turn P w K tg (Wk K a) [it] it (fun i h=>h.IsListIter it a i) where
 mem:=by simp
 obj:=fun i h st b hb=>by
  have e:b=it:=by simpa using hb
  subst e;obtain⟨o,e,c,d⟩:=st;exact⟨o,e,fun v z=>by rw[d] at z;cases z⟩
 keep:=fun i h h' st k=>st.at fun o e=>k it (by simp) o e
 item:=by
  intro X hP hw hK hc i pins s σ H E I hf st hg;subst hP hw hK;obtain⟨xs,x,hq,hx⟩:=hg;obtain⟨its,rv,p,hz⟩:=I.list hq;obtain⟨u,hu,ru⟩:=rv.get hx;obtain⟨f0,f1,f2,f3,f4,f5⟩:=hf it (by simp);refine wpAny_pyNext_list_item st p.isList (x:=u) (by simpa using hu) fun h' zF sb=>?_;have I1:Inv X pins σ H {s with heap:=h'}:=I.turned (t':=s.toks) (fun b o hb e=>(sb.2 b hb).trans e) f0 f1 f3 f4 f5;obtain⟨o,e,c,d⟩:=id zF;exact⟨u,rfl,N5 (s:={s with heap:=h'}) e c d (by decide) ⟨x,H,I1,ru,⟨rfl,fun ys hy=>by rw[I.tL hy hq];exact hx⟩,zF,fun b hb=>(hf b hb).1⟩⟩
 done:=by
  intro X hP hw hK hc i pins s σ H E I hf st hg;subst hP hw hK;obtain⟨xs,hq,hx⟩:=hg;obtain⟨its,rv,p,hz⟩:=I.list hq;obtain⟨f0,f1,f2,f3,f4,f5⟩:=hf it (by simp);have hl:=rv.length;exact wpAny_pyNext_list_end (I.ok.hd hc) st p.isList (by simp;omega) fun h' eb=>⟨rfl,I.turned (t':=s.toks) (fun b o hb e=>eb b o hb e) f0 f1 f3 f4 f5⟩
 self:=fun _ _ _ _ _ st h=>wpAny_pyIter_listiter st h
theorem Mn{P:bq}{w:cf}{K:aq}{tg:Expr}(it:Addr)(lo:Int)(n:Nat):Turn P w K tg (Y0 lo n) [it] it (fun i h=>JW h it (lo+(i:Nat)*1) ((n:Int) -(i:Nat)) 1) where
 mem:=by simp
 obj:=fun i h st b hb=>by
  have e:b=it:=by simpa using hb
  subst e;exact⟨_,st,fun v z=>by
   have z':Data.fields _=Data.cell v:=z;cases z'⟩
 keep:=fun i h h' st k=>k it (by simp) _ st
 item:=by
  intro X hP hw hK hc i pins s σ H E I hf st hg;subst hP hw hK;obtain⟨f0,f1,f2,f3,f4,f5⟩:=hf it (by simp);have W:=Yr (prog:=X.prog) (w:=X.w) (I.ok.hd hc) it lo 1 n;refine W.item i s _ _ hg st fun v h' tk hv zF kk=>?_;obtain⟨t,rfl⟩:=hv;have I1:Inv X pins σ H {s with heap:=h',toks:=tk}:=I.turned (fun b o hb e=>kk b o (by simpa using hb) e) f0 f1 f3 f4 f5;refine⟨_,rfl,N5 (s:={s with heap:=h',toks:=tk}) (n:="range_iterator") zF rfl rfl (by decide) ⟨.int (lo+i),H,I1,⟨t,?_⟩,⟨rfl,rfl⟩,zF,fun b hb=>(hf b hb).1⟩⟩;rw[Int.mul_one]
 done:=by
  intro X hP hw hK hc i pins s σ H E I hf st hg;subst hP hw hK;obtain⟨f0,f1,f2,f3,f4,f5⟩:=hf it (by simp);exact Qv (I.ok.hd hc) st (by have:n<=i:=hg;omega) fun h' eb=>⟨rfl,I.turned (t':=s.toks) (fun b o hb e=>eb b o hb e) f0 f1 f3 f4 f5⟩
 self:=fun _ _ _ _ _ st h=>Qw st h
section
variable{X:Cx}{tg:Expr}
def aac(K:aq)(tl:TE):TI:=fun σ H R=>tl σ H fun x H1=>∃a,x= .ref a/\(∃xs,cF K H1 a xs)/\R (Wk K a) H1
theorem e_{l:Expr}{tl:TE}(hl:PE X l tl):PI X tg l (aac X.K tl):=by
 intro pins s σ H R I h;refine gI (hl pins s σ H _ I h) fun v s1 ⟨x,H1,I1,r1,q1⟩=>?_;obtain⟨a,e,⟨xs,hq⟩,q⟩:=q1;subst e;cases r1;obtain⟨its,rv,p,hz⟩:=I1.list hq;refine vw p.isList ?_;refine⟨s1.heap.objs.size,[s1.heap.objs.size],_,_,H1,rfl,I1.kept (t':=s1.toks) fun b o e=>ay _ e,OI a _,⟨_,bt _ rfl,rfl,rfl⟩,fun b hb=>?_,q⟩;have e:b=s1.heap.objs.size:=by simpa using hb
 subst e;exact I1.MQ (aL _) (I1.fR.fresh (aL _))
theorem Q9{pins:List (Addr×Obj)}{σ:St}{H:Hp}{s:aI}{R:It->Hp->Prop}{E:ao->aI->Prop}{lo hi:Int}{t u v:Tok}{tk:Nat}(I:Inv X pins σ H s)(h1: -(2^62)<=lo)(h2:lo<2^62)(h3: -(2^62)<=hi)(h4:hi<2^62)
  (q:R (Y0 lo (hi -lo).toNat) H):bF (bS X.prog X.w) X.A (pyIter (.ref s.heap.objs.size)) (PIE X pins σ tg R) E {s with heap:=s.heap.push {cls:= .type "range",data:= .fields #[.int lo t,.int hi u,.int 1 v]},toks:=tk}:=by
 refine Wr (VG ..) (small_one h1 h2 h3 h4) ?_;have I1:Inv X pins σ H {s with heap:=s.heap.push {cls:= .type "range",data:= .fields #[.int lo t,.int hi u,.int 1 v]},toks:=tk}:=I.kept fun b o e=>ay _ e;refine⟨(s.heap.push {cls:= .type "range",data:= .fields #[.int lo t,.int hi u,.int 1 v]}).objs.size,[(s.heap.push {cls:= .type "range",data:= .fields #[.int lo t,.int hi u,.int 1 v]}).objs.size],_,_,H,rfl,
  I1.kept (t':=tk) fun b o e=>ay _ e,Mn _ lo (hi -lo).toNat,?_,fun b hb=>?_,q⟩
 ·have e1:lo+((0:Nat):Int)*1=lo:=by simp
  have e2:(((hi -lo).toNat:Nat):Int) -((0:Nat):Int)=qc lo hi 1:=by rw[rangeSize_one];split<;>omega
  show JW _ _ (lo+((0:Nat):Int)*1) ((((hi -lo).toNat:Nat):Int) -((0:Nat):Int)) 1;rw[e1,e2];exact bt _ rfl
 ·have e:b=(s.heap.push {cls:= .type "range",data:= .fields #[.int lo t,.int hi u,.int 1 v]}).objs.size:=by simpa using hb
  subst e;exact I1.MQ (aL _) (I1.fR.fresh (aL _))
def aab(ta:TA):TI:=fun σ H R=>ta σ H fun vs H1=>∃i j:Int,vs=[.int i,.int j]/\(-(2^62)<=i/\i<2^62/\ -(2^62)<=j/\j<2^62)/\R (Y0 i (j -i).toNat) H1
theorem O6{a b:Expr}{ta:TA}{p pos:Pos}(hg:Gl X "range")(hm:X.mg "range"=none)(ha:PA X [a,b] ta)(hs:bw [a,b] X.env=[(false,eval a X.env),(false,eval b X.env)]:=by rfl)(TF:bw [b] X.env=[(false,eval b X.env)]:=by rfl):
  PI X tg (.Call (.Name "range" p) [a,b] [] pos) (aab ta):=by
 intro pins s σ H R I h;refine Mb (pk I hg hm boot_range (dj (gI (ha pos pins s σ H _ I h) fun us s1 ⟨vs,H1,I1,r1,q1⟩=>?_) (by rw[hs,TF]) (by rw[TF];rfl)));obtain⟨i,j,e,⟨q1,q2,q3,q4⟩,q⟩:=q1;subst e;cases r1 with
 |cons r rr=>
  cases rr with
  |cons r' rr=>
   cases rr;obtain⟨t,rfl⟩:=r;obtain⟨t',rfl⟩:=r';exact call_range_2 (Q9 I1 q1 q2 q3 q4 q)
def acX(wi:TI)(g:TG)(tb:TS):TS:=fun D σ H=>wi σ H fun J H1=>∃W:Nat->Nat->St->Hp->Prop,(∃m,W 0 m σ H1)/\∀i m σ H,W i m σ H->
 (J.stop i H/\D.nx σ H)\/(J.go i H/\∃N:St->Hp->Prop,(∀σ' H',N σ' H'->∃m',m'<m/\W (i+1) m' σ' H')/\∀x H',J.QI i H x H'->g x σ H' fun σ2 H2=>tb {D with nx:=N,ct:=N,bk:=D.nx} σ2 H2)
def EO(fp:List Addr)(h:Heap):List (Addr×Obj):=fp.filterMap fun b=>(h.get? b).map fun o=>(b,o)
theorem y3{fp:List Addr}{h:Heap}{b:Addr}{o:Obj}(hb:b∈fp)(e:h.get? b=some o):(b,o)∈EO fp h:=rj.mpr ⟨b,hb,by rw[e];rfl⟩
theorem Pa{fp:List Addr}{h:Heap}{p:Addr×Obj}(hp:p∈EO fp h):p.1∈fp/\h.get? p.1=some p.2:=by
 obtain⟨b,hb,e⟩:=rj.mp hp;cases q:h.get? b with
 |none=>rw[q] at e;cases e
 |some o=>
  rw[q] at e;have e':(b,o)=p:=aR e;subst e';exact⟨hb,q⟩
theorem Inv.pinned{pins:List (Addr×Obj)}{σ:St}{H:Hp}{s:aI}{fp:List Addr}(I:Inv X pins σ H s)(hf:∀b∈fp,Dy X pins H b)(ho:∀b∈fp,∃o,s.heap.get? b=some o/\∀v,o.data≠ .cell v):Inv X (pins++EO fp s.heap) σ H s:=
 I.NH fun p hp=>(bQ.mp hp).elim (fun z=>I.pin p (dB _ z)) fun z=>by
  obtain⟨hb,e⟩:=Pa z;obtain⟨f0,f1,f2,_⟩:=hf p.1 hb;obtain⟨o,e',d⟩:=ho p.1 hb;rw[e] at e';cases e';exact⟨e,f0,f1,f2,d⟩
theorem Inv.zz{pins pl:List (Addr×Obj)}{σ:St}{H:Hp}{s:aI}(I:Inv X (pins++pl) σ H s):Inv X pins σ H s:=I.NH fun p hp=>I.pin p (dB _ (gp _ hp))
theorem iM{iter:Expr}{body:List Stmt}{wi:TI}{g:TG}{tb:TS}{pos:Pos}(hp:PassesOwn (bS X.prog X.w) X.A X.env X.xe)(hc:X.calm=true)(hi:PI X tg iter wi)(hg:PG X tg g)(hb:Ot X body tb)
  (hs:∀x,foldedSetIterable iter X.env x=pure x:=by intro _;rfl):PS X (.For tg iter body [] pos) (acX wi g tb):=by
 intro pins s σ H D I h;refine wpAny_For (gI (hi pins s σ H _ I h) fun v s1 h1=>gI h1 fun itv s2 h2=>?_) hs;obtain⟨it,fp,tn,J,H2,e,I2,T,YA,f2,W,⟨m0,w0⟩,turn⟩:=h2;subst e;have Mp:∀{H':Hp},(∀b∈fp,H' b=none)->∀b∈fp,Dy X pins H' b:=fun hn b hb=>⟨hn b hb,(f2 b hb).2⟩;refine codeAny_forLoop_any (fun n s'=>∃i σ' H',Inv X pins σ' H' s'/\tn i s'.heap/\(∀b∈fp,H' b=none)/\W i n σ' H') ?_ m0 ⟨0,σ,H2,I2,YA,fun b hb=>(f2 b hb).1,w0⟩;rintro n s3 ⟨i,σ3,H3,I3,Kk,fr3,w3⟩;rcases turn i n σ3 H3 w3 with⟨stop,qn⟩|⟨go,N,hN,step⟩
 ·refine kY hp (gI (T.done X rfl rfl rfl hc i pins s3 σ3 H3 X.xe I3 (Mp fr3) Kk stop) fun r s4 ⟨hr,I4⟩=>?_);subst hr;exact zj ⟨σ3,H3,I4,qn⟩
 ·refine kY hp (gI (T.item X rfl rfl rfl hc i pins s3 σ3 H3 X.xe I3 (Mp fr3) Kk go) fun r s4 ⟨u,hr,h4⟩=>?_);subst hr;refine kY hp (gI h4 fun _ s5 ⟨x,H5,I5,r5,y5,Uq,fr5⟩=>?_);have I5':=I5.pinned (Mp fr5) (T.obj _ _ Uq);refine kY hp (gI (hg _ s5 σ3 H5 x u _ I5' r5 (step x H5 y5)) fun _ s6 ⟨σ6,H6,I6,q6⟩=>?_);refine kY hp (gI (hb _ s6 σ6 H6 _ I6 q6) fun f s7 q7=>?_);have again:∀{σ7:St} {H7:Hp},Inv X (pins++EO fp s5.heap) σ7 H7 s7->N σ7 H7->∃m,m<n/\∃i σ' H',Inv X pins σ' H' s7/\tn i s7.heap/\(∀b∈fp,H' b=none)/\W i m σ' H':=fun{σ7 H7} I7 n7=>by
   obtain⟨m',hm,w7⟩:=hN σ7 H7 n7;refine⟨m',hm,i+1,σ7,H7,I7.zz,T.keep _ _ _ Uq fun b hb o e=>(I7.pin (b,o) (dB _ (dB _ (y3 hb e)))).1,fun b hb=>?_,w7⟩;obtain⟨o,e,d⟩:=T.obj _ _ Uq b hb;exact(I7.pin (b,o) (dB _ (dB _ (y3 hb e)))).2.1
  cases f with
  |next=>obtain⟨σ7,H7,I7,n7⟩:=q7;exact again I7 n7
  |cont=>obtain⟨σ7,H7,I7,n7⟩:=q7;exact again I7 n7
  |brk=>obtain⟨σ7,H7,I7,q7⟩:=q7;exact⟨σ7,H7,I7.zz,q7⟩
  |ret v=>obtain⟨x7,σ7,H7,I7,r7,q7⟩:=q7;exact⟨x7,σ7,H7,I7.zz,r7,q7⟩
end
theorem gW{K:aq}{a:Addr}{xs:List V}{g:TG}{tb:TS}{D:Ends}{σ:St}{H:Hp}(Pv:Nat->St->Hp->Prop)(h0:Pv 0 σ H)(hl:∀i σ H,i<=xs.length->Pv i σ H->cF K H a xs)
  (hs:∀i x σ H,xs[i]?=some x->Pv i σ H->g x σ H fun σ2 H2=>tb {D with nx:=Pv (i+1),ct:=Pv (i+1),bk:=D.nx} σ2 H2)(hd:∀σ H,Pv xs.length σ H->D.nx σ H):
  ∃W:Nat->Nat->St->Hp->Prop,(∃m,W 0 m σ H)/\∀i m σ H,W i m σ H->
   ((Wk K a).stop i H/\D.nx σ H)\/((Wk K a).go i H/\∃N:St->Hp->Prop,(∀σ' H',N σ' H'->∃m',m'<m/\W (i+1) m' σ' H')/\∀x H',(Wk K a).QI i H x H'->g x σ H' fun σ2 H2=>tb {D with nx:=N,ct:=N,bk:=D.nx} σ2 H2):=by
 refine⟨fun i m σ H=>m=xs.length -i/\i<=xs.length/\Pv i σ H,⟨xs.length,by simp,aT _,h0⟩,?_⟩;rintro i m σ H ⟨rfl,hi,p⟩;have q:=hl i σ H hi p;by_cases qY:i<xs.length
 ·refine .inr ⟨⟨xs,xs[i],q,by simp[qY]⟩,Pv (i+1),fun σ' H' p'=>⟨xs.length -(i+1),by omega,rfl,qY,p'⟩,fun x H' y=>?_⟩;obtain⟨e,y⟩:=y;subst e;exact hs i x σ _ (y xs q) p
 ·have e:i=xs.length:=by omega
  subst e;exact .inl ⟨⟨xs,q,aL _⟩,hd σ H p⟩
theorem PR{lo:Int}{n:Nat}{g:TG}{tb:TS}{D:Ends}{σ:St}{H:Hp}(Pv:Nat->St->Hp->Prop)(h0:Pv 0 σ H)
  (hs:∀i σ H,i<n->Pv i σ H->g (.int (lo+i)) σ H fun σ2 H2=>tb {D with nx:=Pv (i+1),ct:=Pv (i+1),bk:=D.nx} σ2 H2)(hd:∀σ H,Pv n σ H->D.nx σ H):
  ∃W:Nat->Nat->St->Hp->Prop,(∃m,W 0 m σ H)/\∀i m σ H,W i m σ H->
   ((Y0 lo n).stop i H/\D.nx σ H)\/((Y0 lo n).go i H/\∃N:St->Hp->Prop,(∀σ' H',N σ' H'->∃m',m'<m/\W (i+1) m' σ' H')/\∀x H',(Y0 lo n).QI i H x H'->g x σ H' fun σ2 H2=>tb {D with nx:=N,ct:=N,bk:=D.nx} σ2 H2):=by
 refine⟨fun i m σ H=>m=n -i/\i<=n/\Pv i σ H,⟨n,by simp,aT _,h0⟩,?_⟩;rintro i m σ H ⟨rfl,hi,p⟩;by_cases qY:i<n
 ·refine .inr ⟨qY,Pv (i+1),fun σ' H' p'=>⟨n -(i+1),by omega,rfl,qY,p'⟩,fun x H' y=>?_⟩;obtain⟨e,y⟩:=y;subst e y;exact hs i σ _ qY p
 ·have e:i=n:=by omega
  subst e;exact .inl ⟨aL _,hd σ H p⟩
abbrev R2:=V->V->Hp->VK->Prop
def Cz(X:Cx)(f:ao->ao->Sem ao)(r:R2):Prop:=
 ∀(pins:List (Addr×Obj)) (s:aI) (σ:St) (H:Hp) (x y:V) (v u:ao) (Q:VK),Inv X pins σ H s->RelV x v->RelV y u->r x y H Q->
  bF (bS X.prog X.w) X.A (f v u) (EP X pins σ Q) X.xe s
def UnR(X:Cx)(f:ao->Sem ao)(r:V->Hp->VK->Prop):Prop:=
 ∀(pins:List (Addr×Obj)) (s:aI) (σ:St) (H:Hp) (x:V) (v:ao) (Q:VK),Inv X pins σ H s->RelV x v->r x H Q->
  bF (bS X.prog X.w) X.A (f v) (EP X pins σ Q) X.xe s
def AQ(X:Cx)(f:ao)(r:List V->Hp->VK->Prop):Prop:=
 ∀(pins:List (Addr×Obj)) (s:aI) (σ:St) (H:Hp) (xs:List V) (us:List ao) (Q:VK),Inv X pins σ H s->Vals xs us->r xs H Q->
  bF (bS X.prog X.w) X.A (call f us) (EP X pins σ Q) X.xe s
def WM(r:R2)(ta tb:TE):TE:=fun σ H Q=>ta σ H fun x H1=>tb σ H1 fun y H2=>r x y H2 Q
def tUn(r:V->Hp->VK->Prop)(ta:TE):TE:=fun σ H Q=>ta σ H fun x H1=>r x H1 Q
def rI(C:Int->Int->Prop)(g:Int->Int->V):R2:=fun x y H Q=>∃i j,x= .int i/\y= .int j/\C i j/\Q (g i j) H
def VS(g:Int->Int->V):R2:=fun x y H Q=>∃i j,x= .int i/\y= .int j/\Q (g i j) H
def rU(g:Int->V):V->Hp->VK->Prop:=fun x H Q=>∃i,x= .int i/\Q (g i) H
section
variable{X:Cx}{a b c:Expr}{ta tb tc:TE}{pos:Pos}
theorem Yd(ha:PE X a ta)(hb:PE X b tb){pins:List (Addr×Obj)}{s:aI}{σ:St}{H:Hp}{R:V->V->Hp->Prop}(I:Inv X pins σ H s)
  (h:ta σ H fun x H1=>tb σ H1 fun y H2=>R x y H2){Q:ao->aI->Prop}{f:ao->ao->Sem ao}
  (hf:∀v u s2 x y H2,Inv X pins σ H2 s2->RelV x v->RelV y u->R x y H2->bF (bS X.prog X.w) X.A (f v u) Q X.xe s2):
  bF (bS X.prog X.w) X.A (eval a X.env) (fun v s₁=>bF (bS X.prog X.w) X.A (eval b X.env) (fun u s₂=>bF (bS X.prog X.w) X.A (f v u) Q X.xe s₂) X.xe s₁) X.xe s:=by
 refine gI (ha pins s σ H _ I h) fun v s1 ⟨x,H1,I1,r1,q1⟩=>?_;refine gI (hb pins s1 σ H1 _ I1 q1) fun u s2 ⟨y,H2,I2,r2,q2⟩=>?_;exact hf v u s2 x y H2 I2 r1 r2 q2
theorem fM{op:L8}{r:R2}(ho:Cz X (L6 op) r)(ha:PE X a ta)(hb:PE X b tb):PE X (.BinOp a op b pos) (WM r ta tb):=by
 intro pins s σ H Q I h;exact wpAny_BinOp (Yd ha hb I h fun v u s2 x y H2 I2 rx ry q=>ho pins s2 σ H2 x y v u Q I2 rx ry q)
theorem Hq{op:UnaryOp}{r:V->Hp->VK->Prop}(ho:UnR X (unaryOp op) r)(ha:PE X a ta):PE X (.UnaryOp op a pos) (tUn r ta):=by
 intro pins s σ H Q I h;exact UnaryOp_ (gI (ha pins s σ H _ I h) fun v s1 ⟨x,H1,I1,r1,q1⟩=>ho pins s1 σ H1 x v Q I1 r1 q1)
theorem opI{f:ao->ao->Sem ao}{C:Int->Int->Prop}{g:Int->Int->Int}
  (rule:∀(i j:Int) (t u:Tok) (s:aI) (Q:ao->aI->Prop) (E:ao->aI->Prop),C i j->Q (.int (g i j) s.toks) {s with toks:=s.toks+1}->bF (bS X.prog X.w) X.A (f (.int i t) (.int j u)) Q E s):
  Cz X f (rI C fun i j=>.int (g i j)):=by
 intro pins s σ H x y v u Q I rx ry h;obtain⟨i,j,rfl,rfl,hc,q⟩:=h;obtain⟨t,rfl⟩:=rx;obtain⟨t',rfl⟩:=ry;exact rule i j t t' s _ _ hc ⟨.int (g i j),H,I.tok _,⟨_,rfl⟩,q⟩
theorem ZV{f:ao->ao->Sem ao}{g:Int->Int->Int}
  (rule:∀(i j:Int) (t u:Tok) (s:aI) (Q:ao->aI->Prop) (E:ao->aI->Prop),Q (.int (g i j) s.toks) {s with toks:=s.toks+1}->bF (bS X.prog X.w) X.A (f (.int i t) (.int j u)) Q E s):
  Cz X f (VS fun i j=>.int (g i j)):=by
 intro pins s σ H x y v u Q I rx ry h;obtain⟨i,j,rfl,rfl,q⟩:=h;obtain⟨t,rfl⟩:=rx;obtain⟨t',rfl⟩:=ry;exact rule i j t t' s _ _ ⟨.int (g i j),H,I.tok _,⟨_,rfl⟩,q⟩
theorem UO{f:ao->ao->Sem ao}{g:Int->Int->Bool}
  (rule:∀(i j:Int) (t u:Tok) (s:aI) (Q:ao->aI->Prop) (E:ao->aI->Prop),Q (.bool (g i j)) s->bF (bS X.prog X.w) X.A (f (.int i t) (.int j u)) Q E s):
  Cz X f (VS fun i j=>.bl (g i j)):=by
 intro pins s σ H x y v u Q I rx ry h;obtain⟨i,j,rfl,rfl,q⟩:=h;obtain⟨t,rfl⟩:=rx;obtain⟨t',rfl⟩:=ry;exact rule i j t t' s _ _ ⟨.bl (g i j),H,I,rfl,q⟩
def Yj(i j:Int):Prop:=(-(2^64)<i/\i<2^64)\/(-(2^64)<j/\j<2^64)
theorem Yj.ok{i j:Int}(h:Yj i j):IntMulOk i j:=by
 rcases h with⟨h1,h2⟩|⟨h1,h2⟩
 ·exact .of_left (intBits_le_64 h1 h2)
 ·exact .of_right (intBits_le_64 h1 h2)
theorem j7:Cz X (L6 .Add) (VS fun i j=>.int (i+j)):=ZV fun _ _ _ _ _ _ _ q=>add_int q
theorem Mw:Cz X (L6 .Sub) (VS fun i j=>.int (i -j)):=ZV fun _ _ _ _ _ _ _ q=>sub_int q
theorem Mx:Cz X (L6 .Mult) (rI Yj fun i j=>.int (i*j)):=opI fun _ _ _ _ _ _ _ hc q=>mul_int q hc.ok
theorem unI{f:ao->Sem ao}{g:Int->Int}
  (rule:∀(i:Int) (t:Tok) (s:aI) (Q:ao->aI->Prop) (E:ao->aI->Prop),Q (.int (g i) s.toks) {s with toks:=s.toks+1}->bF (bS X.prog X.w) X.A (f (.int i t)) Q E s):
  UnR X f (rU fun i=>.int (g i)):=by
 intro pins s σ H x v Q I rx h;obtain⟨i,rfl,q⟩:=h;obtain⟨t,rfl⟩:=rx;exact rule i t s _ _ ⟨.int (g i),H,I.tok _,⟨_,rfl⟩,q⟩
theorem A2:UnR X (unaryOp .USub) (rU fun i=>.int (-i)):=unI fun _ _ _ _ _ q=>neg_int q
def ZM:V->V->Bool
 |.gE,.gE=>true|.gE,.int _=>true|.int _,.gE=>true|.gE,.bl _=>true|.bl _,.gE=>true|.gE,.str _=>true|.str _,.gE=>true
 |.int _,.int _=>true|.bl _,.bl _=>true|.str _,.str _=>true|.LU _,.LU _=>true
 |.int _,.str _=>true|.str _,.int _=>true|.bl _,.str _=>true|.str _,.bl _=>true
 |_,_=>false
def rEq:R2:=fun x y H Q=>ZM x y=true/\Q (.bl (decide (x=y))) H
def rNe:R2:=fun x y H Q=>ZM x y=true/\Q (.bl (!decide (x=y))) H
theorem Of{i j:Int}:decide (V.int i=V.int j)=(i==j):=by
 rw[vK];simp
theorem SA{i j:Bool}:decide (V.bl i=V.bl j)=(i==j):=by
 rw[vK];simp
theorem Oe{i j:Str}:decide (V.str i=V.str j)=(i==j):=by
 rw[vK];simp
theorem Og{i j:Array UInt8}:decide (V.LU i=V.LU j)=(i.toList==j.toList):=by
 rw[vK];cases i;cases j;simp
theorem eX{pins:List (Addr×Obj)}{σ:St}{H:Hp}{s:aI}{Q:VK}{k k':Bool}(I:Inv X pins σ H s)(q:Q (.bl k) H)(e:k=k'):EP X pins σ Q (.bool k') s:=by
 subst e;exact⟨.bl k,H,I,rfl,q⟩
theorem mY:Cz X (fj .Eq) rEq:=by
 intro pins s σ H x y v u Q I rx ry h;obtain⟨hs,q⟩:=h;cases x with
 |gE=>
  cases rx;cases y with
  |gE=>cases ry;exact PySem.EqNone.eq_none_none (eX I q (by simp))
  |bl j=>cases ry;exact PySem.EqNone.eq_none_bool (eX I q (by simp))
  |int j=>obtain⟨t',rfl⟩:=ry;exact PySem.EqNone.eq_none_int (eX I q (by simp))
  |str j=>obtain⟨t',rfl⟩:=ry;exact PySem.EqNone.eq_none_str (eX I q (by simp))
  |_=>exact absurd (show false=true from hs) aU
 |bl i=>
  cases rx;cases y with
  |gE=>cases ry;exact PySem.EqNone.eq_bool_none (eX I q (by simp))
  |bl j=>cases ry;exact eq_bool (eX I q SA)
  |str j=>obtain⟨t',rfl⟩:=ry;exact Zj (eX I q (by simp))
  |_=>exact absurd (show false=true from hs) aU
 |int i=>
  obtain⟨t,rfl⟩:=rx;cases y with
  |gE=>cases ry;exact PySem.EqNone.eq_int_none (eX I q (by simp))
  |int j=>obtain⟨t',rfl⟩:=ry;exact eq_int (eX I q Of)
  |str j=>obtain⟨t',rfl⟩:=ry;exact Zi (eX I q (by simp))
  |_=>exact absurd (show false=true from hs) aU
 |str i=>
  obtain⟨t,rfl⟩:=rx;cases y with
  |gE=>cases ry;exact PySem.EqNone.eq_str_none (eX I q (by simp))
  |bl j=>cases ry;exact Zh (eX I q (by simp))
  |int j=>obtain⟨t',rfl⟩:=ry;exact Zg (eX I q (by simp))
  |str j=>obtain⟨t',rfl⟩:=ry;exact eq_str (eX I q Oe)
  |_=>exact absurd (show false=true from hs) aU
 |LU i=>
  obtain⟨t,rfl⟩:=rx;cases y with
  |LU j=>obtain⟨t',rfl⟩:=ry;exact PySem.W.eq_bytes (eX I q Og)
  |_=>exact absurd (show false=true from hs) aU
 |_=>cases y<;>exact absurd (show false=true from hs) aU
theorem KA:Cz X (fj .NotEq) rNe:=by
 intro pins s σ H x y v u Q I rx ry h;obtain⟨hs,q⟩:=h;cases x with
 |gE=>
  cases rx;cases y with
  |gE=>cases ry;exact PySem.EqNone.ne_none_none (eX I q (by simp))
  |bl j=>cases ry;exact PySem.EqNone.ne_none_bool (eX I q (by simp))
  |int j=>obtain⟨t',rfl⟩:=ry;exact PySem.EqNone.ne_none_int (eX I q (by simp))
  |str j=>obtain⟨t',rfl⟩:=ry;exact PySem.EqNone.ne_none_str (eX I q (by simp))
  |_=>exact absurd (show false=true from hs) aU
 |bl i=>
  cases rx;cases y with
  |gE=>cases ry;exact PySem.EqNone.ne_bool_none (eX I q (by simp))
  |bl j=>cases ry;exact ne_bool (eX I q (congrArg not SA))
  |str j=>obtain⟨t',rfl⟩:=ry;exact Zf (eX I q (by simp))
  |_=>exact absurd (show false=true from hs) aU
 |int i=>
  obtain⟨t,rfl⟩:=rx;cases y with
  |gE=>cases ry;exact PySem.EqNone.ne_int_none (eX I q (by simp))
  |int j=>obtain⟨t',rfl⟩:=ry;exact ne_int (eX I q (congrArg not Of))
  |str j=>obtain⟨t',rfl⟩:=ry;exact Ze (eX I q (by simp))
  |_=>exact absurd (show false=true from hs) aU
 |str i=>
  obtain⟨t,rfl⟩:=rx;cases y with
  |gE=>cases ry;exact PySem.EqNone.ne_str_none (eX I q (by simp))
  |bl j=>cases ry;exact Zd (eX I q (by simp))
  |int j=>obtain⟨t',rfl⟩:=ry;exact Zc (eX I q (by simp))
  |str j=>obtain⟨t',rfl⟩:=ry;exact ne_str (eX I q (congrArg not Oe))
  |_=>exact absurd (show false=true from hs) aU
 |LU i=>
  obtain⟨t,rfl⟩:=rx;cases y with
  |LU j=>obtain⟨t',rfl⟩:=ry;exact PySem.W.ne_bytes (eX I q (congrArg not Og))
  |_=>exact absurd (show false=true from hs) aU
 |_=>cases y<;>exact absurd (show false=true from hs) aU
theorem tD:Cz X (fj .Lt) (VS fun i j=>.bl (decide (i<j))):=UO fun _ _ _ _ _ _ _ q=>lt_int q
theorem EV:Cz X (fj .LtE) (VS fun i j=>.bl (decide (i<=j))):=UO fun _ _ _ _ _ _ _ q=>le_int q
theorem NL:Cz X (fj .Gt) (VS fun i j=>.bl (decide (j<i))):=UO fun _ _ _ _ _ _ _ q=>gt_int q
theorem VW:Cz X (fj .GtE) (VS fun i j=>.bl (decide (j<=i))):=UO fun _ _ _ _ _ _ _ q=>ge_int q
theorem My:Cz X (fj .Is) (fun x y H Q=>y= .gE/\Q (.bl (decide (x= .gE))) H):=by
 intro pins s σ H x y v u Q I rx ry h;obtain⟨rfl,q⟩:=h;cases ry;refine is_none_gen (eX I q ?_);cases x<;>first
  |(cases rx;rfl)
  |(obtain⟨t,rfl⟩:=rx;rfl)
theorem Ab:Cz X (fj .IsNot) (fun x y H Q=>y= .gE/\Q (.bl (!decide (x= .gE))) H):=by
 intro pins s σ H x y v u Q I rx ry h;obtain⟨rfl,q⟩:=h;cases ry;refine isnot_none_gen (eX I q ?_);cases x<;>first
  |(cases rx;rfl)
  |(obtain⟨t,rfl⟩:=rx;rfl)
theorem Rv(b:Expr){op:Ma}(h:op≠ .In:=by decide)(h2:op≠ .NotIn:=by decide):behindInMarks op b=false:=by
 have e1:(op==CmpOp.In)=false:=by cases op<;>first|rfl|exact absurd rfl h
 have e2:(op==CmpOp.NotIn)=false:=by cases op<;>first|rfl|exact absurd rfl h2
 cases b<;>simp[behindInMarks,e1,e2]
theorem UM{op:Ma}{r:R2}(ho:Cz X (fj op) r)(ha:PE X a ta)(hb:PE X b tb)(hm:behindInMarks op b=false):PE X (.Compare a [op] [b] pos) (WM r ta tb):=by
 intro pins s σ H Q I h;exact wpAny_Compare1 (Yd ha hb I h fun v u s2 x y H2 I2 rx ry q=>ho pins s2 σ H2 x y v u Q I2 rx ry q) hm
def QX(t:TE):TT:=fun σ H Q=>t σ H fun x H'=>∃k,x= .bl k/\Q k H'
theorem w8{op:Ma}{r:R2}(ho:Cz X (fj op) r)(ha:PE X a ta)(hb:PE X b tb)(hm:behindInMarks op b=false):PT X (.Compare a [op] [b] pos) (QX (WM r ta tb)):=by
 intro pins s σ H Q I h;refine Tf (gI (ha pins s σ H _ I h) fun v s1 ⟨x,H1,I1,r1,q1⟩=>gI (hb pins s1 σ H1 _ I1 q1) fun u s2 ⟨y,H2,I2,r2,q2⟩=>
  gI (ho pins s2 σ H2 x y v u _ I2 r1 r2 q2) fun c s3 ⟨z,H3,I3,r3,k,e,q3⟩=>?_) hm
 subst e;cases r3;exact ff ⟨H3,I3,q3⟩
def Q0(r r':R2)(ta tb tc:TE):TE:=fun σ H Q=>ta σ H fun x H1=>tb σ H1 fun y H2=>r x y H2 fun z H3=>∃k,z= .bl k/\
 (if k=true then tc σ H3 fun w' H4=>r' y w' H4 Q else Q (.bl false) H3)
theorem Kz{op Xb:Ma}{r r':R2}(ho:Cz X (fj op) r)(N2:Cz X (fj Xb) r')(ha:PE X a ta)(hb:PE X b tb)(hc:PE X c tc)
  (hm:lastMarks [op,Xb] [b,c]=false:=by with_unfolding_all rfl):PE X (.Compare a [op,Xb] [b,c] pos) (Q0 r r' ta tb tc):=by
 intro pins s σ H Q I h;refine Compare_chain (gI (ha pins s σ H _ I h) fun v s1 ⟨x,H1,I1,r1,q1⟩=>chain_link (gI (hb pins s1 σ H1 _ I1 q1) fun u s2 ⟨y,H2,I2,r2,q2⟩=>
  gI (ho pins s2 σ H2 x y v u _ I2 r1 r2 q2) fun d s3 ⟨z,H3,I3,r3,k,e,q3⟩=>?_)) hm
 subst e;cases r3;refine ff ?_;cases k with
 |false=>exact ite_ff ⟨.bl false,H3,I3,rfl,q3⟩
 |true=>exact ite_tt (chain_last (gI (hc pins s3 σ H3 _ I3 q3) fun w' s4 ⟨z',H4,I4,r4,q4⟩=>N2 pins s4 σ H4 y z' u w' Q I4 r2 r4 q4))
theorem Kw{op Xb:Ma}{r r':R2}(ho:Cz X (fj op) r)(N2:Cz X (fj Xb) r')(ha:PE X a ta)(hb:PE X b tb)(hc:PE X c tc)
  (hm:lastMarks [op,Xb] [b,c]=false:=by with_unfolding_all rfl):PT X (.Compare a [op,Xb] [b,c] pos) (QX (Q0 r r' ta tb tc)):=by
 intro pins s σ H Q I h;refine isTrue_chain (gI (ha pins s σ H _ I h) fun v s1 ⟨x,H1,I1,r1,q1⟩=>test_link (gI (hb pins s1 σ H1 _ I1 q1) fun u s2 ⟨y,H2,I2,r2,q2⟩=>
  gI (ho pins s2 σ H2 x y v u _ I2 r1 r2 q2) fun d s3 ⟨z,H3,I3,r3,k,e,q3⟩=>?_)) hm
 subst e;cases r3;refine ff ?_;cases k with
 |false=>
  obtain⟨k',e',q'⟩:=q3;cases e';exact ite_ff ⟨H3,I3,q'⟩
 |true=>
  refine ite_tt (test_last (gI (hc pins s3 σ H3 _ I3 q3) fun w' s4 ⟨z',H4,I4,r4,q4⟩=>gI (N2 pins s4 σ H4 y z' u w' _ I4 r2 r4 q4) fun d' s5 ⟨z2,H5,I5,r5,k2,e2,q5⟩=>?_));subst e2;cases r5;exact ff ⟨H5,I5,q5⟩
theorem ME:(aG:Nat)<2^63:=by rw[AX];decide
theorem vals1{x:V}{us:List ao}(r:Vals [x] us):∃u,us=[u]/\RelV x u:=by
 cases r with
 |cons r1 r2=>cases r2;exact⟨_,rfl,r1⟩
theorem vals2{x y:V}{us:List ao}(r:Vals [x,y] us):∃u w',us=[u,w']/\RelV x u/\RelV y w':=by
 cases r with
 |cons r1 r2=>
  cases r2 with
  |cons r3 r4=>cases r4;exact⟨_,_,rfl,r1,r3⟩
theorem P4(hc:X.calm=true):AQ X (.builtin "max") (fun xs H Q=>∃i j,xs=[.int i,.int j]/\Q (.int (if j>i then j else i)) H):=by
 intro pins s σ H xs us Q I r h;obtain⟨i,j,rfl,q⟩:=h;obtain⟨u,w',rfl,⟨t,rfl⟩,⟨t',rfl⟩⟩:=vals2 r;refine max_two_ints (I.ok.hd hc) fun h' tk k=>⟨_,H,I.kept k,?_,q⟩;by_cases hj:j>i
 ·rw[if_pos hj,if_pos hj];exact⟨_,rfl⟩
 ·rw[if_neg hj,if_neg hj];exact⟨_,rfl⟩
theorem HI(hc:X.calm=true):AQ X (.builtin "min") (fun xs H Q=>∃i j,xs=[.int i,.int j]/\Q (.int (if j<i then j else i)) H):=by
 intro pins s σ H xs us Q I r h;obtain⟨i,j,rfl,q⟩:=h;obtain⟨u,w',rfl,⟨t,rfl⟩,⟨t',rfl⟩⟩:=vals2 r;refine min_two_ints (I.ok.hd hc) fun h' tk k=>⟨_,H,I.kept k,?_,q⟩;by_cases hj:j<i
 ·rw[if_pos hj,if_pos hj];exact⟨_,rfl⟩
 ·rw[if_neg hj,if_neg hj];exact⟨_,rfl⟩
end
structure M7(h:Heap)(x dx C:Addr)(mA:Str->Option ao):Prop where
 obj:h.get? x=some (ig C dx)
 ns:h.Ns1 dx mA
 ne:dx≠x
theorem Pg{h:Heap}{dx:Addr}{mA:Str->Option ao}(n:h.Ns1 dx mA):∃od,h.get? dx=some od/\∀name,vI name od=some (mA name):=by
 obtain⟨o,es,ep,ho,hd,hk,_,hm⟩:=n;refine⟨o,ho,fun name=>?_⟩;have e:=hm name;unfold nsFind findBy at e;rw[<-Array.find?_toList] at e;unfold vI;rw[hd]
 dsimp only
 split
 ·rename_i y q;rw[q] at e;exact congrArg some e
 ·rename_i q;rw[q] at e;have a:es.toList.any (·.refKey)=false:=by
   rw[List.any_eq_false];intro y hy;obtain⟨z,t,sG⟩:=hk y (Mj.mp hy);simp[DictEntry.refKey,sG]
  have a': ¬es.toList.any (·.refKey)=true:=by rw[a];exact aU
  rw[if_neg a'];exact congrArg some e
theorem M7.look{h:Heap}{x dx C:Addr}{mA:Str->Option ao}(I:M7 h x dx C mA):∃od,PySem.W.InstAt h x (ig C dx) C (some od)/\∀name,vI name od=some (mA name):=
 let ⟨od,ho,hl⟩:=Pg I.ns
 ⟨od,⟨I.obj,rfl,rfl,ho⟩,hl⟩
section
variable{prog:bq}{w:cf}{A:dw}{E:ao->aI->Prop}{s:aI}{K:aq}{x dx C f:Addr}{mA:Str->Option ao}{name:Str}{v:ao}
theorem get_map{expr:Bool}{Q:ao->aI->Prop}(X:K.In s.heap)(I:M7 s.heap x dx C mA)(hg:nO K C name=true)(hh:q_ K C=true)
  (ha:dZ K (.ref C) name=some none)(hv:mA name=some v)(hv':Ox v=true)(h:Q v {s with toks:=s.toks+1}):
  bF (bS prog w) A (getAttr (.ref x) name expr) Q E s:=by
 obtain⟨od,J,hl⟩:=I.look;exact PySem.W.get_value X J (xw hg).1 (PySem.W.findObj_own hh ha rfl (by rw[hl,hv])) hv' h
theorem Sj{pl:Sem Bool}{Q:ao×List ao->aI->Prop}(X:K.In s.heap)(I:M7 s.heap x dx C mA)(hg:nO K C name=true)
  (hf:dZ K (.ref C) name=some (some (.ref f)))(ht:ue K (.ref f)=true)(hv:mA name=none)(h:Q (.ref f,[.ref x]) s):
  bF (bS prog w) A (BJ (.ref x) name pl) Q E s:=by
 obtain⟨od,J,hl⟩:=I.look;exact PySem.W.method_fn X J (xw hg).1 (xw hg).2 hf (beq_iff_eq.mp ht) (by show(vI name od).map (·.isSome)=some false;rw[hl,hv];rfl) h
theorem Us{ns:List Str}{Q:Unit->aI->Prop}(X:K.In s.heap)(I:M7 s.heap x dx C mA)
  (hs:dZ K (.ref C) "__setattr__"=some (some (.builtin "object.__setattr__")))(hp:zp K C=true)(ht:CA K C name=some none)(hh:q_ K C=true)
  (hw:J5 mA ns)(hsz:ns.length<=aG)
  (h:∀h',M7 h' x dx C (fun y=>if y=name then some v else mA y)->vz dx s.heap h'->Q () {s with heap:=h',toks:=s.toks+2}):
  bF (bS prog w) A (setAttr (.ref x) name v) Q E s:=by
 obtain⟨od,J,hl⟩:=I.look;refine PySem.W.set_plain X J hs (PySem.W.osa_open (s:={s with toks:=s.toks+1}) (r:=none) X J hp ht fun b=>?_);obtain⟨cd,hc,yr⟩:=PySem.W.any_some hh;have hx:s.heap.get? x=some ⟨.ref C,some dx,.plain,#[]⟩:=I.obj;refine aK (bH (aK (aK (wpAny_loadPart hx (aK (Za (s:={s with toks:=s.toks+1}) (PySem.W.looks_clsIn X hc) ?_))))));rw[yr];refine bH (a:=some dx) (aK (bH (aK ?_)));refine wpAny_nsSet1 (s:={s with toks:=s.toks+1}) I.ns fun h' hn2 TF=>?_;obtain⟨oD,esD,epD,hoD,hdD,hcD⟩:=hn2.count (PySem.Within.cons name v hw);refine aK (wpAny_lookBehind hoD (by rw[hdD];exact pastItsLine_dict (aD hcD (by rw[aQ];omega))) ?_);exact bH (h _ ⟨(TF.2 _ (rf I.ne)).trans I.obj,hn2,I.ne⟩ TF)
theorem RG{R:L7->aI->Prop}{vs:List ao}{kw:List (Str×ao)}(X:K.In s.heap)(hm:CB K C=true)
  (hi:dZ K (.ref C) "__init__"=some (some (.ref f)))(hf:PySem.W.typeIn K (.ref f)=some (.type "function"))
  (h:sP (bS prog w) (A.under (.builtin "type.__call__" ⟨.ref C::vs,kw⟩)) (.call (.ref f) ⟨.ref (s.heap.objs.size+1)::vs,kw⟩) (PySem.W.InitBack (s.heap.objs.size+1) R)
   {s with heap:=(s.heap.push fw).push (ig C s.heap.objs.size)}):
  sP (bS prog w) A (.call (.ref C) ⟨vs,kw⟩) R s:=by
 obtain⟨hh,g,d,t,os⟩:=s;exact PySem.W.make_core (PySem.W.makes_of X hm) (PySem.W.looks_findIn X hi) (fun self=>PySem.W.bind_fn X self hf) (.inl rfl) h
end
def iA(f:Str)(v:V):List (Str×V)->List (Str×V)
 |[]=>[(f,v)]
 |(g,x)::r=>if g=f then(g,v)::r else(g,x)::iA f v r
theorem Cj(f g:Str)(v:V):∀fs:List (Str×V),(iA f v fs).lookup g=if g=f then some v else fs.lookup g
 |[]=>by
  show gq g [(f,v)]=_;by_cases h:g=f
  ·have hb:(g==f)=true:=beq_iff_eq.mpr h;simp only[gq,hb,if_pos h]
  ·have hb:(g==f)=false:=beq_eq_false_iff_ne.mpr h;simp only[gq,hb,if_neg h]
 |(k,x)::r=>by
  have ih:=Cj f g v r;rw[show iA f v ((k,x)::r)=(if k=f then(k,v)::r else(k,x)::iA f v r) from rfl];by_cases hk:k=f
  ·rw[if_pos hk];by_cases h:g=k
   ·have hb:(g==k)=true:=beq_iff_eq.mpr h;simp only[gq,hb,if_pos (h.trans hk)]
   ·have hb:(g==k)=false:=beq_eq_false_iff_ne.mpr h;simp only[gq,hb,if_neg (fun e:g=f=>h (e.trans hk.symm))]
  ·rw[if_neg hk];by_cases h:g=k
   ·have hb:(g==k)=true:=beq_iff_eq.mpr h;simp only[gq,hb,if_neg (fun e:g=f=>hk (h.symm.trans e))]
   ·have hb:(g==k)=false:=beq_eq_false_iff_ne.mpr h;simp only[gq,hb];exact ih
theorem Bt(f:Str)(v:V):∀fs:List (Str×V),f∈(iA f v fs).map (·.1)/\∀g,g∈fs.map (·.1)->g∈(iA f v fs).map (·.1)
 |[]=>⟨by simp[iA],fun g h=>by simp at h⟩
 |(k,x)::r=>by
  obtain⟨i1,i2⟩:=Bt f v r;rw[show iA f v ((k,x)::r)=(if k=f then(k,v)::r else(k,x)::iA f v r) from rfl];by_cases hk:k=f
  ·rw[if_pos hk];subst hk;exact⟨by simp,fun g h=>by simpa using h⟩
  ·rw[if_neg hk];refine⟨?_,fun g h=>?_⟩
   ·rw[bE];exact aj _ i1
   ·rw[bE] at h|-
    rcases az.mp h with e|e
    ·exact az.mpr (.inl e)
    ·exact aj _ (i2 g e)
theorem Cn(f:Str)(v:V):∀fs:List (Str×V),(iA f v fs).length<=fs.length+1
 |[]=>by simp[iA]
 |(k,x)::r=>by
  have ih:=Cn f v r;rw[show iA f v ((k,x)::r)=(if k=f then(k,v)::r else(k,x)::iA f v r) from rfl];by_cases hk:k=f
  ·rw[if_pos hk,aQ,aQ];omega
  ·rw[if_neg hk,aQ,aQ];omega
theorem uS.some_of{v:V}{o:Option ao}(r:uS (some v) o):∃u,o=some u/\RelV v u:=by
 cases o with
 |none=>exact(show False from r).elim
 |some u=>exact⟨u,rfl,r⟩
theorem uS.none_of{o:Option ao}(r:uS none o):o=none:=by
 cases o with
 |none=>rfl
 |some u=>exact(show False from r).elim
theorem PJ{v:V}{u:ao}(r:RelV v u):Ox u=true:=by
 cases v with
 |gE=>cases(show u=Gg from r);rfl
 |bl b=>cases(show u=vb b from r);rfl
 |int i=>obtain⟨t,e⟩:=(show ∃t,u=j8 i t from r);cases e;rfl
 |str x=>obtain⟨t,e⟩:=(show ∃t,u=CD x t from r);cases e;rfl
 |LU b=>obtain⟨t,e⟩:=(show ∃t,u=Yt b t from r);cases e;rfl
 |Vn b=>obtain⟨t,e⟩:=(show ∃t,u=Ys b t from r);cases e;rfl
 |ref a=>cases(show u=cu a from r);rfl
 |ty n=>cases(show u=jz n from r);rfl
section
variable{P:bq}{w:cf}{H H':Hp}{h h':Heap}{a C dx:Addr}{fs fs':List (Str×V)}
theorem Jv(fR:vE P w H h)(e:H a=some (.ins C dx fs)):∃mA,M7 h a dx C mA/\(∀f,uS (fs.lookup f) (mA f))/\J5 mA (fs.map (·.1))/\fs.length<=1000/\H dx=some (.own a):=by
 obtain⟨d,z,ne,ob,mA,n,r,q⟩:=(show ia P w H h a (.ins C dx fs) from fR a _ e);exact⟨mA,⟨ob,n,ne⟩,r,q,z,d⟩
end
structure JP(K:aq)(C:Addr):Prop where
 pg:nO K C Str.empty=true
 hd:q_ K C=true
 po:zp K C=true
 sa:dZ K (.ref C) "__setattr__"=some (some (.builtin "object.__setattr__"))
theorem JP.get{K:aq}{C:Addr}(c:JP K C)(f:Str):nO K C f=true:=c.pg
def dn(K:aq)(C:Addr)(f:Str):Prop:=dZ K (.ref C) f=some none
theorem dn.Zz{K:aq}{C:Addr}{f:Str}(n:dn K C f):CA K C f=some none:=by
 unfold CA;rw[show dZ K (.ref C) f=some none from n];rfl
structure Con(K:aq)(C:Addr)(f:Str)(v:V)(u:ao):Prop where
structure Meth(K:aq)(C:Addr)(m:Str)(f:Addr):Prop where
 at_:dZ K (.ref C) m=some (some (.ref f))
 fn:ue K (.ref f)=true
 kp:gg K (.ref f)=true
section
variable{X:Cx}{pins:List (Addr×Obj)}{σ:St}{H:Hp}{s:aI}{a C dx:Addr}{fs:List (Str×V)}{f:Str}{v:V}{A:dw}{E:ao->aI->Prop}
theorem Fw{b:Bool}{Q:ao->aI->Prop}(I:Inv X pins σ H s)(e:H a=some (.ins C dx fs))(c:JP X.K C)(n:dn X.K C f)(l:fs.lookup f=some v)
  (h:∀u s',Inv X pins σ H s'->RelV v u->Q u s'):bF (bS X.prog X.w) A (getAttr (.ref a) f b) Q E s:=by
 obtain⟨mA,O,r,_,_,_⟩:=Jv I.fR e;obtain⟨u,hu,ru⟩:=uS.some_of (v:=v) (o:=mA f) (by rw[<-l];exact r f);exact get_map I.KW O (c.get f) c.hd n hu (PJ ru) (h u _ (I.tok _) ru)
theorem Fv{m:Str}{g:Addr}{pl:Sem Bool}{Q:ao×List ao->aI->Prop}(I:Inv X pins σ H s)(e:H a=some (.ins C dx fs))(c:JP X.K C)(k:Meth X.K C m g)(l:fs.lookup m=none)
  (h:Q (.ref g,[.ref a]) s):bF (bS X.prog X.w) A (BJ (.ref a) m pl) Q E s:=by
 obtain⟨mA,O,r,_,_,_⟩:=Jv I.fR e;have hn:mA m=none:=uS.none_of (by rw[<-l];exact r m);exact Sj I.KW O (c.get m) k.at_ k.fn hn h
theorem Ex{y:V}{u:ao}{Q:Unit->aI->Prop}(I:Inv X pins σ H s)(e:H a=some (.ins C dx fs))(c:JP X.K C)(n:dn X.K C f)(hl:fs.length<1000)(ry:RelV y u)
  (h:∀s',Inv X pins σ (upd H a (.ins C dx (iA f y fs))) s'->Q () s'):bF (bS X.prog X.w) A (setAttr (.ref a) f u) Q E s:=by
 obtain⟨mA,O,r,wi,_,ho⟩:=Jv I.fR e;have hz:(fs.map (·.1)).length<=aG:=by rw[ab,AX];omega
 refine Us I.KW O c.sa c.po n.Zz c.hd wi hz fun h' O' sb=>h _ ?_;have hd:∃o,h'.get? dx=some o:=let ⟨o,_,_,e',_⟩:=O'.ns;⟨o,e'⟩
 refine I.write (x:=a) (e:=dx) (by rw[e];exact qZ) (.inr ho) (fun b q hb z=>(sb.2 b hb).trans z) hd ?_;refine⟨by rw[aA O.ne];exact ho,?_,O.ne,O'.obj,_,O'.ns,fun g=>?_,fun g hg=>?_⟩
 ·have:=Cn f y fs;omega
 ·show uS ((iA f y fs).lookup g) (if g=f then some u else mA g);rw[Cj];by_cases q:g=f
  ·rw[if_pos q,if_pos q];exact ry
  ·rw[if_neg q,if_neg q];exact r g
 ·by_cases q:g=f
  ·rw[q];exact(Bt f y fs).1
  ·refine(Bt f y fs).2 g (wi g fun z=>hg ?_);show(if g=f then some u else mA g)=none;rw[if_neg q];exact z
theorem Inv.made(I:Inv X pins σ H s):Inv X pins σ (upd (upd H s.heap.objs.size (.own (s.heap.objs.size+1))) (s.heap.objs.size+1) (.ins C s.heap.objs.size []))
  {s with heap:=(s.heap.push fw).push (ig C s.heap.objs.size)}:=by
 have e1:(s.heap.push fw).get? s.heap.objs.size=some fw:=bt s.heap rfl;have e2:((s.heap.push fw).push (ig C s.heap.objs.size)).get? (s.heap.objs.size+1)=some (ig C s.heap.objs.size):=by
  have:=bt (s.heap.push fw) (o:=ig C s.heap.objs.size) rfl
  rwa [cH] at this
 have e3:(s.heap.push fw).Ns s.heap.objs.size (fun _=>none):=⟨fw,#[],_,e1,rfl,(fun e he=>absurd he (by simp)),fun _=>rfl⟩;have I1:=I.laid (a:=s.heap.objs.size) (o:= .own (s.heap.objs.size+1)) (h':=s.heap.push fw) (t':=s.toks) (fun b u q=>ay _ q) (aL _) ⟨_,e1⟩;refine I1.laid (a:=s.heap.objs.size+1) (o:= .ins C s.heap.objs.size []) (t':=s.toks) (fun b u q=>ay _ q) (CI (cH _ _)) ?_;have ne:s.heap.objs.size≠s.heap.objs.size+1:=b9 (jl _);refine⟨by rw[aA ne,ae],aT _,ne,e2,fun _=>none,(Heap.Ns1.of_empty e3).at fun o q=>ay _ q,fun _=>qZ,fun y hy=>absurd rfl hy⟩
theorem Vt{prog:bq}{w:cf}{env:Env}{e:Expr}{f:Str}{pos:Pos}{s:aI}{Q:ao->aI->Prop}(hb:jk e f env (eval e env)=eval e env)
  (h:bF (bS prog w) A (eval e env) (fun o s₁=>bF (bS prog w) A (getAttr o f true) Q E s₁) E s):bF (bS prog w) A (eval (.Attribute e f pos) env) Q E s:=
 Attribute_any_ h (by rw[arm_eval_Attribute,hb])
end
def QZ(K:aq)(ta:TE)(f:Str):TE:=fun σ H Q=>ta σ H fun x H1=>∃a C dx fs v,x= .ref a/\H1 a=some (.ins C dx fs)/\JP K C/\dn K C f/\fs.lookup f=some v/\Q v H1
def ac7(K:aq)(ta tv:TE)(f:Str):TS:=fun D σ H=>tv σ H fun y H1=>ta σ H1 fun x H2=>∃a C dx fs,x= .ref a/\H2 a=some (.ins C dx fs)/\JP K C/\dn K C f/\fs.length<1000/\
 D.nx σ (upd H2 a (.ins C dx (iA f y fs)))
def abv(X:Cx)(op:L8)(rd:V->V->Hp->VK->Prop):Prop:=
 ∀(pins:List (Addr×Obj)) (s:aI) (σ:St) (H:Hp) (x y:V) (u v:ao) (Q:VK),Inv X pins σ H s->RelV x u->RelV y v->rd x y H Q->bF (bS X.prog X.w) X.A (Y8 op u v) (EP X pins σ Q) X.xe s
def Ut(K:aq)(ta tv:TE)(rd:V->V->Hp->VK->Prop)(f:Str):TS:=fun D σ H=>ta σ H fun x H1=>∃a C dx fs v,x= .ref a/\H1 a=some (.ins C dx fs)/\JP K C/\dn K C f/\fs.lookup f=some v/\
 tv σ H1 fun y H2=>rd v y H2 fun z H3=>∃dx' fs',H3 a=some (.ins C dx' fs')/\fs'.length<1000/\D.nx σ (upd H3 a (.ins C dx' (iA f z fs')))
section
variable{X:Cx}{o e value:Expr}{f:Str}{pos pos' zA:Pos}{ta tv:TE}
theorem Ro(he:PE X e ta)(hb:jk e f X.env (eval e X.env)=eval e X.env):PE X (.Attribute e f pos) (QZ X.K ta f):=by
 intro pins s σ H Q I h;refine Vt hb (gI (he pins s σ H _ I h) fun u s1 ⟨x,H1,I1,rx,a,C,dx,fs,v,ex,ea,c,n,l,q⟩=>?_);subst ex;obtain rfl:u=cu a:=rx;exact Fw I1 ea c n l fun u' s2 I2 ru=>⟨v,H1,I2,ru,q⟩
theorem c9(ha:PE X o ta)(hv:PE X value tv)(hs:t4 value (some (.Attribute o f pos')) pos.line X.env=pure false):PS X (.Assign [.Attribute o f pos'] value pos) (ac7 X.K ta tv f):=by
 intro pins s σ H D I h;refine plainObj_wpAny_Assign_Attribute (gI (hv pins s σ H _ I h) fun u s1 ⟨y,H1,I1,ry,q⟩=>gI (ha pins s1 σ H1 _ I1 q) fun ov s2 ⟨x,H2,I2,rx,a,C,dx,fs,ex,ea,c,n,l,q2⟩=>?_) hs;subst ex;obtain rfl:ov=cu a:=rx;exact Ex I2 ea c n l ry fun s3 I3=>⟨σ,_,I3,q2⟩
theorem w9{op:L8}{rd:V->V->Hp->VK->Prop}(ha:PE X o ta)(hv:PE X value tv)(hop:abv X op rd):PS X (.AugAssign (.Attribute o f zA) op value pos) (Ut X.K ta tv rd f):=by
 intro pins s σ H D I h;refine wpAny_AugAssign_AttributeAny (gI (ha pins s σ H _ I h) fun ov s1 ⟨x,H1,I1,rx,a,C,dx,fs,v,ex,ea,c,n,l,q⟩=>?_);subst ex;obtain rfl:ov=cu a:=rx;refine Fw I1 ea c n l fun u s2 I2 ru=>gI (hv pins s2 σ H1 _ I2 q) fun w3 s3 ⟨y,H2,I3,ry,q3⟩=>gI (hop pins s3 σ H2 v y u w3 _ I3 ru ry q3) fun w4 s4 ⟨z,H3,I4,rz,dx',fs',ea',l',q4⟩=>?_;exact Ex I4 ea' c n l' rz fun s5 I5=>⟨σ,_,I5,q4⟩
def adh:V->V->Hp->VK->Prop:=fun x y H Q=>∃i j,x= .int i/\y= .int j/\Q (.int (i+j)) H
theorem Jw:abv X .Add adh:=by
 rintro pins s σ H x y u v Q I rx ry ⟨i,j,rfl,rfl,q⟩;obtain⟨t,rfl⟩:=(show ∃t,u=j8 i t from rx);obtain⟨t',rfl⟩:=(show ∃t',v=j8 j t' from ry);exact Th ⟨.int (i+j),H,I.tok _,⟨_,rfl⟩,q⟩
end
section
variable{X:Cx}{pins:List (Addr×Obj)}{σ:St}{H:Hp}{s:aI}{A:dw}{E:ao->aI->Prop}{Q:ao->aI->Prop}{c:ao}{b:Bool}
inductive ajD (K:aq) (H:Hp):V->ao->Prop where
end
structure me(k:Nat)(A:dw):Prop where
 hd:A.handled=none
 dp:A.depth+3*k+5<ua
 un:A.units+16*k+200<L0
theorem me.mono{j k:Nat}{A:dw}(r:me k A)(h:j<=k):me j A:=⟨r.hd,by have:=r.dp;omega,by have:=r.un;omega⟩
theorem me.deeper{k:Nat}{A:dw}(r:me (k+1) A)(env:Env):me k (A.deeper env):=
 ⟨r.hd,by have:=r.dp;show A.depth+1+3*k+5<_;omega,by have:=r.un;show A.units+3+16*k+200<_;omega⟩
theorem MD{A:dw}{C:Addr}{us:List ao}{kw:List (Str×ao)}:(A.under (.builtin "type.__call__" ⟨.ref C::us,kw⟩)).depth=A.depth+1:=by
 first|rfl|simp[JY,Code.weight,Code.isCreation,Code.isGuard,Code.isCaller,Zl,LG,guardIds]
theorem MC{A:dw}{C:Addr}{us:List ao}{kw:List (Str×ao)}:(A.under (.builtin "type.__call__" ⟨.ref C::us,kw⟩)).units=A.units+1:=by
 first|rfl|simp[JY,Code.cUnits,Zl,LG]
theorem me.make{k:Nat}{A:dw}(r:me (k+1) A)(C:Addr)(us:List ao)(kw:List (Str×ao)):me k (A.under (.builtin "type.__call__" ⟨.ref C::us,kw⟩)):=
 ⟨r.hd,by have:=r.dp;rw[MD];omega,by have:=r.un;rw[MC];omega⟩
theorem me.depth{k:Nat}{A:dw}(r:me k A):A.depth<ua:=by have:=r.dp;omega
theorem me.units{k:Nat}{A:dw}(r:me k A):A.units+64<L0:=by have:=r.un;omega
def ve:TA:=fun _ H Q=>Q [] H
def lH(ta:TE)(tr:TA):TA:=fun σ H Q=>ta σ H fun x H1=>tr σ H1 fun xs H2=>Q (x::xs) H2
section
variable{X:Cx}{e:Expr}{es:List Expr}{te:TE}{t:TA}{pos:Pos}
theorem ax:PA X [] ve:=fun _ _ _ _ H Q I h=>sL ⟨[],H,I,.nil,h⟩
theorem aa(ha:PE X e te)(hr:PA X es t)(hs:bw (e::es) X.env=(false,eval e X.env)::bw es X.env:=by rfl):PA X (e::es) (lH te t):=by
 intro pos pins s σ H Q I h;rw[hs];show bF _ _ (spliced ((false,eval e X.env)::fq pos (bw es X.env))) _ _ s;refine mE (gI (ha pins s σ H _ I h) fun u s1 ⟨x,H1,I1,r1,q1⟩=>?_);exact gI (hr pos pins s1 σ H1 _ I1 q1) fun us s2 ⟨xs,H2,I2,r2,q2⟩=>⟨x::xs,H2,I2,.cons r1 r2,q2⟩
def acS(t:TA):TE:=fun σ H Q=>t σ H fun xs H1=>xs.length<=aG/\∀p,H1 p=none->Q (.ref p) (upd H1 p (.tup xs))
def acV(t:TA):TE:=fun σ H Q=>t σ H fun xs H1=>xs.length<=aG/\∀p,H1 p=none->Q (.ref p) (upd H1 p (.lst xs))
theorem Rl{x1}(h:PA X es t):PE X (.Tuple es x1 pos) (acS t):=by
 intro pins s σ H Q I hq;refine wpAny_Tuple_spliced (gI (h pos pins s σ H _ I hq) fun us s1 ⟨xs,H1,I1,r,z,q⟩=>⟨by rw[<-r.length];exact z,?_⟩);have hf:H1 s1.heap.objs.size=none:=I1.fR.fresh (aL _);refine⟨.ref s1.heap.objs.size,upd H1 s1.heap.objs.size (.tup xs),I1.laid (t':=s1.toks) (fun b u e=>ay _ e) (aL _) ?_,rfl,q _ hf⟩;exact⟨z,us,r,⟨_,bt _ rfl,rfl,_,rfl⟩⟩
theorem bC(h:PA X es t):PE X (.List es pos) (acV t):=by
 intro pins s σ H Q I hq;refine wpAny_List_spliced (gI (h pos pins s σ H _ I hq) fun us s1 ⟨xs,H1,I1,r,z,q⟩=>⟨by rw[<-r.length];exact z,?_⟩);have hf:H1 s1.heap.objs.size=none:=I1.fR.fresh (aL _);refine⟨.ref s1.heap.objs.size,upd H1 s1.heap.objs.size (.lst xs),I1.laid (t':=s1.toks) (fun b u e=>ay _ e) (aL _) ?_,rfl,q _ hf⟩;exact⟨z,us,0,r,bt _ rfl⟩
end
abbrev Sp:=List V->Hp->VK->XK->Prop
abbrev Qu:=List Env->Hp->aI->XK->ao->aI->Prop
structure M9(P:bq)(w:cf)(K:aq)(mg:Str->Option ao)(base:Heap)(A:dw)(outer:List Env)(s:aI)(H:Hp):Prop where
 frames:A.frames=some outer
 mod:Mod K mg base
 bs:∀b o,base.get? b=some o->s.heap.get? b=some o/\H b=none
 TK:base.objs.size<=s.heap.objs.size
 De:s.heap.FunFrames base outer
 X4:∀b∈Sn outer,H b=none
 fR:vE P w H s.heap
 bare:Gj s.gens
def CE(outer:List Env)(P:bq)(w:cf)(H:Hp)(s:aI)(Q:VK)(u:ao)(s':aI):Prop:=
 ∃v H',s'.os=s.os/\Gj s'.gens/\Un (Sn outer) [] H H' s.heap s'.heap/\vE P w H' s'.heap/\RelV v u/\Q v H'
def CR(CX:Qu)(outer:List Env)(P:bq)(w:cf)(H:Hp)(s:aI)(Q:VK)(E:XK)(r:L7)(s':aI):Prop:=
 match r with
 |.ok (.ret u)=>CE outer P w H s Q u s'
 |.ok _=>False
 |.error e=>CX outer H s E e s'
structure cz(P:bq)(w:cf)(K:aq)(mg:Str->Option ao)(base:Heap)(CX:Qu)(k:Nat)(f:Addr)(fd:gA)(ps:List Str)(sp:Sp):Prop where
 len:∀vs H Q E,sp vs H Q E->vs.length=ps.length
 run:∀(A:dw) (outer:List Env) (s:aI) (H:Hp) (args:Args) (us:List ao) (vs:List V) (Q:VK) (E:XK),me k A->M9 P w K mg base A outer s H->Yy s fd args (ps.zip us)->Vals vs us->sp vs H Q E->
  sP (bS P w) A (.call (.ref f) args) (CR CX outer P w H s Q E) s
theorem cz.imp{P:bq}{w:cf}{K:aq}{mg:Str->Option ao}{base:Heap}{CX:Qu}{k:Nat}{f:Addr}{fd:gA}{ps:List Str}{sp sp':Sp}(F:cz P w K mg base CX k f fd ps sp)
  (h:∀vs H Q E,sp' vs H Q E->sp vs H Q E):cz P w K mg base CX k f fd ps sp':=
 ⟨fun vs H Q E q=>F.len vs H Q E (h _ _ _ _ q),fun A outer s H args us vs Q E hr he hb hv hs=>F.run A outer s H args us vs Q E hr he hb hv (h _ _ _ _ hs)⟩
theorem M9.make{P:bq}{w:cf}{K:aq}{mg:Str->Option ao}{base:Heap}{A:dw}{outer:List Env}{s:aI}{H:Hp}(e:M9 P w K mg base A outer s H)(C:Addr)(us:List ao)(kw:List (Str×ao)):
  M9 P w K mg base (A.under (.builtin "type.__call__" ⟨.ref C::us,kw⟩)) outer s H:=⟨by first|exact e.frames|(simpa [JY,Code.envs,LG,pushEnvs] using e.frames),e.mod,e.bs,e.TK,e.De,e.X4,e.fR,e.bare⟩
section
variable{X:Cx}{pins:List (Addr×Obj)}{σ:St}{H:Hp}{s s':aI}
theorem Inv.aa_(I:Inv X pins σ H s):M9 X.prog X.w X.K X.mg X.base X.A X.stack s H:=
 ⟨I.ok.frames,I.ok.mod,I.bs,aD I.ok.TK I.sz,I.stack,I.NA,I.fR,I.bare⟩
theorem Inv.after{Q:VK}{u:ao}(I:Inv X pins σ H s)(h:CE X.stack X.prog X.w H s Q u s'):EP X pins σ Q u s':=by
 obtain⟨v,H',os,bare,un,fR,r,q⟩:=h;obtain⟨hh,g,d,t,os'⟩:=s';obtain rfl:os'=s.os:=os;exact⟨v,H',I.call (h':=hh) (g':=g) (d':=d) (t':=t) (ch:=[]) un fR bare (fun b z=>absurd z (by simp)),r,q⟩
end
def Ny(sp:Sp)(FO:List V)(E:XK)(t:TA):TE:=fun σ H Q=>t σ H fun vs H1=>sp (vs++FO) H1 Q E
def Ef(C:Addr)(m:Str)(sp:Sp)(FO:List V)(E:XK)(ta:TE)(t:TA):TE:=fun σ H Q=>ta σ H fun x H1=>∃a dx fs,x= .ref a/\H1 a=some (.ins C dx fs)/\fs.lookup m=none/\
 t σ H1 fun vs H2=>sp (x::(vs++FO)) H2 Q E
def VO(C:Addr)(sp:Sp)(FO:List V)(E:XK)(t:TA):TE:=fun σ H Q=>t σ H fun vs H1=>∀x dx,H1 x=none->H1 dx=none->dx≠x->
 sp (.ref x::(vs++FO)) (upd (upd H1 dx (.own x)) x (.ins C dx [])) (fun v H2=>v= .gE/\Q (.ref x) H2) E
def Binds(K:aq)(fd:gA)(ps:List Str)(ds:List ao):Prop:=
 ∀(s:aI) (us:List ao),K.In s.heap->(us++ds).length=ps.length->Yy s fd ⟨us,[]⟩ (ps.zip (us++ds))
theorem Binds.all{K:aq}{fd:gA}{ps:List Str}(h:∀us:List ao,us.length=ps.length->qT fd ⟨us,[]⟩=pure (ps.zip us)):Binds K fd ps []:=fun s us _ hl=>by
 rw[cE] at hl|-
 exact .of_eq (h us hl)
def Passes(CX:Qu)(X:Cx)(E:XK):Prop:=∀(pins:List (Addr×Obj)) (σ:St) (H:Hp) (s:aI) (e:ao) (s':aI),Inv X pins σ H s->CX X.stack H s E e s'->X.xe e s'
section
variable{X:Cx}{CX:Qu}{k:Nat}{f C:Addr}{fd:gA}{ps:List Str}{sp:Sp}{FO:List V}{ds:List ao}{E:XK}{x m:Str}{p pos apos:Pos}{e o:Expr}{es:List Expr}{ta:TE}{t:TA}
theorem IL{pins:List (Addr×Obj)}{σ:St}{H:Hp}{s:aI}{Q:VK}{us:List ao}{vs:List V}(F:cz X.prog X.w X.K X.mg X.base CX k f fd ps sp)(hr:me k X.A)(hb:Binds X.K fd ps ds)(hd:Vals FO ds)(hx:Passes CX X E)
  (I:Inv X pins σ H s)(r:Vals vs us)(h:sp (vs++FO) H Q E):bF (bS X.prog X.w) X.A (call (.ref f) us) (EP X pins σ Q) X.xe s:=by
 have r2:Vals (vs++FO) (us++ds):=r.append hd;have hl:(us++ds).length=ps.length:=by rw[<-r2.length];exact F.len _ _ _ _ h
 refine Wt (yB (F.run X.A X.stack s H ⟨us,[]⟩ (us++ds) (vs++FO) Q E hr I.aa_ (hb s us I.KW hl) r2 h) fun r s' hq=>?_);cases r with
 |error e=>exact hx pins σ H s e s' I hq
 |ok fl=>
  cases fl with
  |ret u=>exact I.after hq
  |next=>exact fL hq
  |brk=>exact fL hq
  |cont=>exact fL hq
theorem UN(F:cz X.prog X.w X.K X.mg X.base CX k f fd ps sp)(hr:me k X.A)(hg:Gl X x)(hm:X.mg x=some (.ref f))(hk:gg X.K (.ref f)=true)(hb:Binds X.K fd ps ds)(hd:Vals FO ds)(hx:Passes CX X E)
  (ha:PA X (e::es) t)(PF:(x==("__debug__":Str))=false:=by decide)(he:bw (e::es) X.env=(false,eval e X.env)::bw es X.env:=by rfl)(jD:(fq pos (bw es X.env)).any (·.1)=false:=by rfl):
  PE X (.Call (.Name x p) (e::es) [] pos) (Ny sp FO E t):=by
 intro pins s σ H Q I h;refine iJ (Ai I hg hm ?_ PF);refine qb (h₀:=X.base) I.ok.mod.Xo hk (gI (ha pos pins s σ H _ I h) fun us s1 ⟨vs,H1,I1,r,q⟩=>⟨I1.KW,?_⟩) he jD;exact IL F hr hb hd hx I1 r q
theorem UJ{pl:Sem Bool}(he:PE X o ta)(c:JP X.K C)(hm:Meth X.K C m f)(F:cz X.prog X.w X.K X.mg X.base CX k f fd ps sp)(hr:me k X.A)(hb:Binds X.K fd ps ds)(hd:Vals FO ds)(hx:Passes CX X E)(ha:PA X (e::es) t)
  (wH:bw (e::es) X.env=(false,eval e X.env)::bw es X.env:=by rfl)(jD:(fq pos (bw es X.env)).any (·.1)=false:=by rfl)
  (ht:eval (.Call (.Attribute o m apos) (e::es) [] pos) X.env=(do
   let ov <-eval o X.env
   Ge apos.atName
   let (f,first) <-LD [ov] (BJ ov m pl)
   LZ pos f first (fq pos (bw (e::es) X.env)) (o8 pos (jc [] X.env))):=by rfl):
  PE X (.Call (.Attribute o m apos) (e::es) [] pos) (Ef C m sp FO E ta t):=by
 intro pins s σ H Q I h;refine JT (pl:=pl) (gI (he pins s σ H _ I h) fun u s1 ⟨x,H1,I1,rx,a,dx,fs,ex,ea,l,q⟩=>?_) ht;subst ex;obtain rfl:u=cu a:=rx;refine Fv I1 ea c hm l ?_;refine qb (first:=[.ref a]) (h₀:=X.base) I.ok.mod.Xo hm.kp (gI (ha pos pins s1 σ H1 _ I1 q) fun us s2 ⟨vs,H2,I2,r,q2⟩=>⟨I2.KW,?_⟩) wH jD;exact IL (us:= .ref a::us) (vs:= .ref a::vs) F hr hb hd hx I2 (.cons rfl r) q2
theorem Rn{pl:Sem Bool}(he:PE X o ta)(c:JP X.K C)(hm:Meth X.K C m f)(F:cz X.prog X.w X.K X.mg X.base CX k f fd ps sp)(hr:me k X.A)(hb:Binds X.K fd ps ds)(hd:Vals FO ds)(hx:Passes CX X E)
  (ht:eval (.Call (.Attribute o m apos) [] [] pos) X.env=(do
   let ov <-eval o X.env
   Ge apos.atName
   let (f,first) <-LD [ov] (BJ ov m pl)
   LZ pos f first (fq pos (bw [] X.env)) (o8 pos (jc [] X.env))):=by rfl):
  PE X (.Call (.Attribute o m apos) [] [] pos) (Ef C m sp FO E ta ve):=by
 intro pins s σ H Q I h;refine JT (pl:=pl) (gI (he pins s σ H _ I h) fun u s1 ⟨x,H1,I1,rx,a,dx,fs,ex,ea,l,q⟩=>?_) ht;subst ex;obtain rfl:u=cu a:=rx;refine Fv I1 ea c hm l ?_;exact LF (first:=[.ref a]) I1.KW hm.kp (IL (us:=[.ref a]) (vs:=[.ref a]) F hr hb hd hx I1 (.cons rfl .nil) q)
structure Mk(K:aq)(C f:Addr):Prop where
 makes:CB K C=true
 init:dZ K (.ref C) "__init__"=some (some (.ref f))
 fn:ue K (.ref f)=true
 kp:gg K (.ref C)=true
theorem Kt{pins:List (Addr×Obj)}{σ:St}{H:Hp}{s:aI}{Q:VK}{us:List ao}{vs:List V}(M:Mk X.K C f)(F:cz X.prog X.w X.K X.mg X.base CX k f fd ps sp)(hr:me (k+1) X.A)(hb:Binds X.K fd ps ds)(hd:Vals FO ds)
  (hx:Passes CX X E)(I:Inv X pins σ H s)(r:Vals vs us)
  (h:∀x dx,H x=none->H dx=none->dx≠x->sp (.ref x::(vs++FO)) (upd (upd H dx (.own x)) x (.ins C dx [])) (fun v H2=>v= .gE/\Q (.ref x) H2) E):
  bF (bS X.prog X.w) X.A (call (.ref C) us) (EP X pins σ Q) X.xe s:=by
 have hq:=h (s.heap.objs.size+1) s.heap.objs.size (I.fR.fresh (fT _)) (I.fR.fresh (aL _)) (b9 (jl _));have I2:=Inv.made (C:=C) I;have r2:Vals (V.ref (s.heap.objs.size+1)::(vs++FO)) (cu (s.heap.objs.size+1)::(us++ds)):= .cons rfl (r.append hd);have hl:(cu (s.heap.objs.size+1)::us++ds).length=ps.length:=by
  have e:=r2.length;rw[F.len _ _ _ _ hq] at e;exact e.symm
 refine Wt (RG (f:=f) I.KW M.makes M.init (beq_iff_eq.mp M.fn) (yB (F.run _ X.stack _ _ ⟨cu (s.heap.objs.size+1)::us,[]⟩ (cu (s.heap.objs.size+1)::(us++ds)) _ _ E (hr.make C us [])
  (I2.aa_.make C us []) (hb _ (cu (s.heap.objs.size+1)::us) I2.KW hl) r2 hq) fun r s' V6=>?_))
 cases r with
 |error e=>exact hx pins σ _ _ e s' I2 V6
 |ok fl=>
  cases fl with
  |ret u=>
   obtain⟨v,H',I3,rv,ev,q3⟩:=I2.after V6;subst ev;exact⟨rv,⟨V.ref (s.heap.objs.size+1),H',I3,rfl,q3⟩⟩
  |next=>exact fL V6
  |brk=>exact fL V6
  |cont=>exact fL V6
theorem DI(M:Mk X.K C f)(F:cz X.prog X.w X.K X.mg X.base CX k f fd ps sp)(hr:me (k+1) X.A)(hg:Gl X x)(hm:X.mg x=some (.ref C))(hb:Binds X.K fd ps ds)(hd:Vals FO ds)(hx:Passes CX X E)
  (ha:PA X (e::es) t)(PF:(x==("__debug__":Str))=false:=by decide)(he:bw (e::es) X.env=(false,eval e X.env)::bw es X.env:=by rfl)(jD:(fq pos (bw es X.env)).any (·.1)=false:=by rfl):
  PE X (.Call (.Name x p) (e::es) [] pos) (VO C sp FO E t):=by
 intro pins s σ H Q I h;refine iJ (Ai I hg hm ?_ PF);refine qb (h₀:=X.base) I.ok.mod.Xo M.kp (gI (ha pos pins s σ H _ I h) fun us s1 ⟨vs,H1,I1,r,q⟩=>⟨I1.KW,?_⟩) he jD;exact Kt M F hr hb hd hx I1 r q
theorem ER(M:Mk X.K C f)(F:cz X.prog X.w X.K X.mg X.base CX k f fd ps sp)(hr:me (k+1) X.A)(hg:Gl X x)(hm:X.mg x=some (.ref C))(hb:Binds X.K fd ps ds)(hd:Vals FO ds)(hx:Passes CX X E)
  (PF:(x==("__debug__":Str))=false:=by decide):PE X (.Call (.Name x p) [] [] pos) (VO C sp FO E ve):=by
 intro pins s σ H Q I h;refine iJ (Ai I hg hm ?_ PF);exact LF I.KW M.kp (Kt (us:=[]) M F hr hb hd hx I .nil h)
end
def PK(X:Cx)(Z4:List vx)(t:TA):Prop:=
 ∀(pos:Pos) (pins:List (Addr×Obj)) (s:aI) (σ:St) (H:Hp) (Q:List V->Hp->Prop),Inv X pins σ H s->t σ H Q->bF (bS X.prog X.w) X.A (evalAll ((o8 pos (jc Z4 X.env)).map (·.2))) (AP X pins σ Q) X.xe s
section
variable{X:Cx}{CX:Qu}{k:Nat}{f C:Addr}{fd:gA}{ps ks:List Str}{sp:Sp}{E:XK}{x m:Str}{p pos apos Pk:Pos}{e o:Expr}{es:List Expr}{Z4:List vx}{te ta:TE}{t tk:TA}{nm:Option Str}
theorem W9:PK X [] ve:=fun _ _ _ _ H Q I h=>Ym ⟨[],H,I,.nil,h⟩
theorem UH(ha:PE X e te)(hr:PK X Z4 t):PK X (⟨nm,e,Pk⟩::Z4) (lH te t):=by
 intro pos pins s σ H Q I h;show bF _ _ (evalAll ((do let v <-eval e X.env;Ge pos;pure v)::(o8 pos (jc Z4 X.env)).map (·.2))) _ _ s;refine Ws (aK (gI (ha pins s σ H _ I h) fun u s1 ⟨x,H1,I1,r1,q1⟩=>aK (DA (bH ?_))));exact gI (hr pos pins s1 σ H1 _ I1 q1) fun us s2 ⟨xs,H2,I2,r2,q2⟩=>⟨x::xs,H2,I2,.cons r1 r2,q2⟩
structure afF(K:aq)(fd:gA)(ps ks:List Str)(g:List ao->List ao->List ao)(gV:List V->List V->List V):Prop where
variable{g:List ao->List ao->List ao}{gV:List V->List V->List V}
end
structure bj(N P:List Str)(sc:ku):Prop where
 kind:sc.kind= .function
 co:sc.isCoroutine=false
 gen:sc.isGenerator=false
 nd:N.Nodup
 pre:N.take P.length=P
 par:∀x∈P,sc.names.lookup x=some .local\/sc.names.lookup x=some .cell
 Xc:∀y∈sc.names,y.2≠ .free
theorem HR{r0:Str->Option jd}{x:Str}:∀{binds:List (Str×ao)} {m:Str->Option ao},(∀v,(x,v)∉binds)->Qc r0 binds m x=m x
 |[],_,_=>rfl
 |(n,v)::r,m,h=>by
  unfold Qc;rw[HR fun w hw=>h w (aj _ hw)];split
  ·have:x≠n:=by rintro rfl;exact h v au
   simp[this]
  ·rfl
theorem HU{r0:Str->Option jd}{x:Str}:∀{binds:List (Str×ao)} {m:Str->Option ao},(∀v,(x,v)∉binds)->Qe r0 binds m x=m x
 |[],_,_=>rfl
 |(n,v)::r,m,h=>by
  unfold Qe;rw[HU fun w hw=>h w (aj _ hw)];split
  ·rfl
  ·have:x≠n:=by rintro rfl;exact h v au
   simp[this]
theorem HS{r0:Str->Option jd}{x:Str}{v:ao}:∀{P:List Str} {vs:List ao} {i:Nat} {m:Str->Option ao},P.Nodup->P[i]?=some x->vs[i]?=some v->r0 x=some .local->
  Qc r0 (P.zip vs) m x=some v
 |[],_,_,_,_,h,_,_=>by simp at h
 |_::_,[],_,_,_,_,h,_=>by simp at h
 |p::P,w::vs,0,m,nd,h1,h2,hk=>by
  simp at h1 h2;subst h1;subst h2;show Qc r0 ((p,w)::P.zip vs) m p=_;unfold Qc;rw[HR fun v hv=>(bG.mp nd).1 (F8 hv).1,if_pos hk];simp
 |p::P,w::vs,i+1,m,nd,h1,h2,hk=>by
  show Qc r0 ((p,w)::P.zip vs) m x=_;unfold Qc;exact HS (i:=i) (bG.mp nd).2 (by simpa using h1) (by simpa using h2) hk
theorem HV{r0:Str->Option jd}{x:Str}{v:ao}:∀{P:List Str} {vs:List ao} {i:Nat} {m:Str->Option ao},P.Nodup->P[i]?=some x->vs[i]?=some v->r0 x≠some .local->
  Qe r0 (P.zip vs) m x=some v
 |[],_,_,_,_,h,_,_=>by simp at h
 |_::_,[],_,_,_,_,h,_=>by simp at h
 |p::P,w::vs,0,m,nd,h1,h2,hk=>by
  simp at h1 h2;subst h1;subst h2;show Qe r0 ((p,w)::P.zip vs) m p=_;unfold Qe;rw[HU fun v hv=>(bG.mp nd).1 (F8 hv).1,if_neg hk];simp
 |p::P,w::vs,i+1,m,nd,h1,h2,hk=>by
  show Qe r0 ((p,w)::P.zip vs) m x=_;unfold Qe;exact HV (i:=i) (bG.mp nd).2 (by simpa using h1) (by simpa using h2) hk
def start(N:List Str)(vs:List V):St:=vs.map some++List.replicate (N.length -vs.length) none
def MU(CX:Qu)(P:bq)(w:cf)(K:aq)(mg:Str->Option ao)(base:Heap)(N:List Str)(qual:Str)(scope:ku)(f:Addr)(cd:ao)(A:dw)(outer:List Env)(s:aI)(H:Hp)(E:XK):Cx where
 prog:=P
 w:=w
 K:=K
 mg:=mg
 base:=base
 A:=A.deeper (AY qual scope s.heap.objs.size f cd)
 N:=N
 Hl:=s
 H_0:=H
 env:=AY qual scope s.heap.objs.size f cd
 outer:=outer
 stack:=AY qual scope s.heap.objs.size f cd::outer
 ex:=[]
 calm:=true
 fn:=fun _=>true
 pn:=[]
 xe:=fun e s'=>bF (bS P w) (A.deeper (AY qual scope s.heap.objs.size f cd)) (leaving (AY qual scope s.heap.objs.size f cd) e) (fun _ s''=>CX outer H s E e s'') (fun e' s''=>CX outer H s E e' s'') s'
theorem Ln{sc:ku}{n:Nat}{x:Str}(h:sc.names.lookup x=some .cell):∃c,(eU n sc.names []).lookup x=some c:=by
 have q:=Ia sc.names n [] (.inl h);exact lV.mp q
theorem Pw{CX:Qu}{P:bq}{w:cf}{K:aq}{mg:Str->Option ao}{base:Heap}{N ps:List Str}{qual:Str}{scope:ku}{f:Addr}{cd:ao}{A:dw}{outer:List Env}{s s1:aI}{H:Hp}{E:XK}{us:List ao}{vs:List V}
  (S:bj N ps scope)(hd:A.handled=none)(e0:M9 P w K mg base A outer s H)(hl:vs.length=ps.length)(r:Vals vs us)
  (x:InCallC s s.heap.objs.size (Qc (AY qual scope s.heap.objs.size f cd).kindOf (ps.zip us) fun _=>none) (eU (s.heap.objs.size+1) scope.names []) (Qe (AY qual scope s.heap.objs.size f cd).kindOf (ps.zip us) fun _=>none) s1):
  Inv (MU CX P w K mg base N qual scope f cd A outer s H E) [] (start N vs) H s1:=by
 have jD:ps.length<=N.length:=by have:=congrArg pz S.pre;rw[dJ] at this;omega
 obtain⟨h1,tk,rfl,hk⟩:=x.done;have Xf:∀b:Addr,b∉(MU CX P w K mg base N qual scope f cd A outer s H E).ex:=fun b z=>absurd (show b∈([]:List Addr) from z) (by simp);refine⟨⟨e0.mod,S.kind,rfl,rfl,aL _,fun y z c h1 h2=>?_,fun y hy=>?_,fun y c _ h=>?_,fun _=>hd,Around.frames_deeper e0.frames,.inr ⟨rfl,rfl⟩,fun b z=>absurd z (Xf b),e0.bs,e0.TK,fun b _ _=>Xf b,fun b z=>absurd z (Xf b),e0.De,e0.X4⟩,
  rfl,e0.bare,Un.kept hk,⟨_,x.toInCall.ns,fun i y v h1 h2 h3=>?_⟩,fun y c h=>⟨_,x.cell y c h⟩,e0.fR.fresh (aL _),fun y c h=>?_,fun p hp=>absurd (show p∈([]:List (Addr×Obj)) from hp) (by simp),e0.fR.kept hk,?_⟩
 ·exact name_of_addr x.apart (cJ h1) (cJ h2)
 ·have hy:scope.names.lookup y=some .cell\/scope.names.lookup y=some .free:=hy;rcases hy with hy|hy
  ·exact Ln hy
  ·exact absurd rfl (S.Xc _ (cJ hy))
 ·exact cK (x.above y c (cJ h))
 ·have hi:i<vs.length:=by
   unfold start at h2;by_cases hi:i<vs.length
   ·exact hi
   ·rw[dA (by simpa using hi)] at h2;rw[List.getElem?_replicate] at h2;split at h2<;>cases h2
  have ha:vs[i]?=some v:=by
   unfold start at h2;rw[cq (by simpa using hi),aM] at h2;cases e:vs[i]? with
   |none=>rw[e] at h2;cases h2
   |some a=>rw[e] at h2;cases h2;rfl
  obtain⟨u,hu,rv⟩:=r.get ha;have hp:ps[i]?=some y:=by
   rw[<-S.pre,iX (by omega)];exact h1
  have ndP:ps.Nodup:=by rw[<-S.pre];exact S.nd.sublist (BL _ _)
  refine⟨u,rv,?_⟩;rcases S.par y (bB hp) with k|k
  ·exact .inl ⟨k,HS ndP hp hu k⟩
  ·obtain⟨c,e⟩:=Ln (n:=s.heap.objs.size+1) k;refine .inr ⟨.inl k,c,e,?_⟩;have q:=x.cell y c e;rw[HV ndP hp hu (by show scope.names.lookup y≠_;rw[k];decide)] at q;exact q
 ·exact e0.fR.fresh (cK (x.above y c (cJ h)))
 ·unfold start;show _=N.length;rw[aJ,ab,List.length_replicate];omega
theorem Wc{CX:Qu}{P:bq}{w:cf}{K:aq}{mg:Str->Option ao}{base:Heap}{k:Nat}{f:Addr}{name qual:Str}{params:Ie}{body:List Stmt}{scope:ku}{dV kV doc pm dY ct oc:ao}{an od:Option Addr}
  {LN:Array (Option ao)}{N ps:List Str}{sp:Sp}(lk:K.lookup f=some ⟨oc,od,.func (eC name qual params body scope dV kV doc pm an dY ct),LN⟩)(LR:mJ K dY qual=true)(S:bj N ps scope)
  (len:∀vs H Q E,sp vs H Q E->vs.length=ps.length)
  (K5:∀(A:dw) (outer:List Env) (s:aI) (H:Hp) (vs:List V) (Q:VK) (E:XK),me k (A.deeper (AY qual scope s.heap.objs.size f dY))->sp vs H Q E->
   ∃t,Ot (MU CX P w K mg base N qual scope f dY A outer s H E) body t/\t {nx:=fun _ H'=>Q .gE H',rt:=Q} (start N vs) H):
  cz P w K mg base CX (k+1) f (eC name qual params body scope dV kV doc pm an dY ct) ps sp:=by
 refine⟨len,fun A outer s H args us vs Q E hr e0 hb r Qo=>?_⟩;have hl:=len _ _ _ _ Qo;have KX:K.In s.heap:=e0.mod.Xo.keeps fun b o e=>(e0.bs b o e).1;have lim:s.heap.NoLimit:=e0.mod.nolimit.keeps fun b o e=>(e0.bs b o e).1;have aaC:∀y∈ps.zip us,scope.names.lookup y.1=some .local\/(scope.names.lookup y.1=some .cell/\((eU (s.heap.objs.size+1) scope.names []).lookup y.1).isSome=true):=fun⟨n,v⟩ hy=>by
  rcases S.par n (F8 hy).1 with q|q
  ·exact .inl q
  ·exact .inr ⟨q,Ia _ _ _ (.inl q)⟩
 refine codeAny_call_function hr.depth (KX _ _ lk) rfl S.co S.gen rfl (PySem.W.codeRec_of KX LR) (hb _ _ _ _ ?_);refine wpAny_newFunctionEnv_cells S.kind aaC fun env he s1 x=>?_;subst he;refine⟨lim.keeps x.toInCall.keep,codeAny_func ?_⟩;obtain⟨t,ht,hq⟩:=K5 A outer s H vs Q E (hr.deeper _) Qo;have I:Inv (MU CX P w K mg base N qual scope f dY A outer s H E) [] (start N vs) H s1:=Pw S hr.hd e0 hl r x;refine iI (ht [] s1 (start N vs) H _ I hq) (fun fl s' hs=>?_) fun e s' hs=>hs;have fin:∀{σ':St} {H':Hp} {v:V} {u:ao},Inv (MU CX P w K mg base N qual scope f dY A outer s H E) [] σ' H' s'->RelV v u->Q v H'->CE outer P w H s Q u s':=
  fun{σ' H' v u} J rv q=>⟨v,H',J.os,J.bare,J.base,J.fR,rv,q⟩
 cases fl with
 |ret u=>
  obtain⟨v,σ',H',J,rv,q⟩:=hs;exact fin J rv q
 |next=>
  obtain⟨σ',H',J,q⟩:=hs;exact fin (v:=V.gE) (u:=Gg) J rfl q
 |brk=>
  obtain⟨_,_,_,q⟩:=hs;exact fL q
 |cont=>
  obtain⟨_,_,_,q⟩:=hs;exact fL q
section
variable{X:Cx}{x:Str}{p pos:Pos}{e:Expr}{es:List Expr}{t:TA}{id T:String}{r:List V->Hp->VK->Prop}
def tCB(r:List V->Hp->VK->Prop)(t:TA):TE:=fun σ H Q=>t σ H fun vs H1=>r vs H1 Q
theorem oS(hc:AQ X (.builtin id) r)(hg:Gl X x)(hm:X.mg x=none)(hv:o7 x=some (.builtin id))(ha:PA X (e::es) t)(hn:x≠"__name__":=by decide)(PF:(x==("__debug__":Str))=false:=by decide)
  (he:bw (e::es) X.env=(false,eval e X.env)::bw es X.env:=by rfl)(jD:(fq pos (bw es X.env)).any (·.1)=false:=by rfl):PE X (.Call (.Name x p) (e::es) [] pos) (tCB r t):=by
 intro pins s σ H Q I h;refine iJ (pk I hg hm hv ?_ hn PF);exact PyProof.Rows.callWith_builtin1 (gI (ha pos pins s σ H _ I h) fun us s1 ⟨vs,H1,I1,r1,q1⟩=>hc pins s1 σ H1 vs us Q I1 r1 q1) he jD
theorem O8(hc:AQ X (.type T) r)(hg:Gl X x)(hm:X.mg x=none)(hv:o7 x=some (.type T))(ha:PA X (e::es) t)(hn:x≠"__name__":=by decide)(PF:(x==("__debug__":Str))=false:=by decide)
  (he:bw (e::es) X.env=(false,eval e X.env)::bw es X.env:=by rfl)(jD:(fq pos (bw es X.env)).any (·.1)=false:=by rfl):PE X (.Call (.Name x p) (e::es) [] pos) (tCB r t):=by
 intro pins s σ H Q I h;refine iJ (pk I hg hm hv ?_ hn PF);exact dj (gI (ha pos pins s σ H _ I h) fun us s1 ⟨vs,H1,I1,r1,q1⟩=>hc pins s1 σ H1 vs us Q I1 r1 q1) he jD
end
end L2
namespace HT
open PySem PyProof.Rows
section
open PySem.SeqAt
open PySem.AutoSeq1 (wpAny_loadPart')
open PySem.MeetsSeq PySem.MeetsSeq2 PySem.MeetsSeq3
end
section
variable{prog:bq}{w:cf}{A:dw}{E:ao->aI->Prop}{s:aI}
def F'(n d:Nat):Option Int->Nat
 |none=>d
 |some v=>if v<0 then(v+(n:Int)).toNat else min v.toNat n
theorem Q6(n d:Nat):F' n d none=d:=rfl
theorem DG(n d k:Nat):F' n d (some (k:Int))=min k n:=by
 show(if(k:Int)<0 then((k:Int)+(n:Int)).toNat else min (k:Int).toNat n)=min k n;rw[if_neg (by omega),Tv]
end
end HT
namespace L2
open PySem PySem.Spec PyProof.Rows
abbrev TO:=St->Hp->(Option Int->Hp->Prop)->Prop
def PO(X:Cx)(e:Option Expr)(t:TO):Prop:=
 ∀(pins:List (Addr×Obj)) (s:aI) (σ:St) (H:Hp) (Q:Option Int->Hp->Prop),Inv X pins σ H s->t σ H Q->
  bF (bS X.prog X.w) X.A (evalPart e X.env) (fun u s'=>∃o H',Inv X pins σ H' s'/\IsPart u o/\Q o H') X.xe s
def Ub:TO:=fun _ H Q=>Q none H
def ZF(t:TE):TO:=fun σ H Q=>t σ H fun x H1=>∃i,x= .int i/\Q (some i) H1
section
variable{X:Cx}{e:Expr}{te:TE}{lo hi:Option Expr}{tl th:TO}{pos p2:Pos}
theorem uv:PO X none Ub:=by
 intro pins s σ H Q I h;rw[evalPart_none];exact bH ⟨none,H,I,.none,h⟩
theorem k6(h:PE X e te):PO X (some e) (ZF te):=by
 intro pins s σ H Q I hw;rw[evalPart_some];refine gI (h pins s σ H _ I hw) fun u s1 ⟨x,H1,I1,r1,q1⟩=>?_;obtain⟨i,rfl,q⟩:=q1;obtain⟨t,rfl⟩:=r1;exact⟨some i,H1,I1,.int i t,q⟩
def SlR(X:Cx)(r:V->Option Int->Option Int->Hp->VK->Prop):Prop:=
 ∀(pins:List (Addr×Obj)) (s:aI) (σ:St) (H:Hp) (x:V) (v vl vu:ao) (lo hi:Option Int) (sl:Addr) (Q:VK),Inv X pins σ H s->RelV x v->s.heap.IsSliceOf sl vl vu .none->IsPart vl lo->IsPart vu hi->r x lo hi H Q->
  ∃T id,LX (.type T) "__getitem__"=pure (some (.builtin id))/\s.TypeIs v T/\bF (bS X.prog X.w) X.A (Qx v (.ref sl)) (EP X pins σ Q) X.xe s
def tSl(r:V->Option Int->Option Int->Hp->VK->Prop)(te:TE)(tl th:TO):TE:=fun σ H Q=>te σ H fun x H1=>tl σ H1 fun l H2=>th σ H2 fun u H3=>r x l u H3 Q
theorem lN{r:V->Option Int->Option Int->Hp->VK->Prop}(hr:SlR X r)(he:PE X e te)(hl:PO X lo tl)(hu:PO X hi th):PE X (.Subscript e (.Slice lo hi none p2) pos) (tSl r te tl th):=by
 intro pins s σ H Q I h;refine WB (gI (he pins s σ H _ I h) fun v s1 ⟨x,H1,I1,r1,q1⟩=>?_);refine wpAny_Slice (gI (hl pins s1 σ H1 _ I1 q1) fun vl s2 ⟨l,H2,I2,pl,q2⟩=>gI (hu pins s2 σ H2 _ I2 q2) fun vu s3 ⟨u,H3,I3,pu,q3⟩=>?_);rw[evalPart_none];refine bH ?_;have I4:Inv X pins σ H3 {s3 with heap:=s3.heap.push {cls:= .type "slice",data:= .fields #[vl,vu,.none]} }:=I3.kept (t':=s3.toks) fun b ob q=>ay _ q;obtain⟨T,id,hT,ht,hg⟩:=hr pins {s3 with heap:=s3.heap.push {cls:= .type "slice",data:= .fields #[vl,vu,.none]} } σ H3 x v vl vu l u s3.heap.objs.size Q I4 r1 (Yx ..) pl pu q3;show bF (bS X.prog X.w) X.A (Oz e (.Slice lo hi none p2) v (.ref s3.heap.objs.size)) (EP X pins σ Q) X.xe {s3 with heap:=s3.heap.push {cls:= .type "slice",data:= .fields #[vl,vu,.none]} };exact tail_any (ops:=[.ref s3.heap.objs.size,v]) ht hT hg (by with_unfolding_all rfl)
def wO(xs:List V)(lo hi:Option Int):List V:=(xs.drop (HT.F' xs.length 0 lo)).take (HT.F' xs.length xs.length hi -HT.F' xs.length 0 lo)
theorem Li(xs:List V)(lo hi:Option Int):(wO xs lo hi).length<=xs.length:=by
 unfold wO;rw[dJ,cY];omega
end
def YJ(n:Nat)(i:Int):Option Nat:=if 0<=i then(if i<n then some i.toNat else none) else if -(n:Int)<=i then some (i+n).toNat else none
def Ye{α:Type}(xs:List α)(i:Int):Option α:=(YJ xs.length i).bind fun j=>xs[j]?
theorem U1{n:Nat}{i:Int}{j:Nat}(h:YJ n i=some j):seqIndex? i n=some j/\j<n/\ -(n:Int)<=i/\i<n:=by
 unfold YJ at h;by_cases h0:0<=i
 ·rw[if_pos h0] at h;by_cases h1:i<n
  ·rw[if_pos h1] at h;have e:i.toNat=j:=aR h;exact⟨by rw[seqIndex_of h0 h1,e],by omega,by omega,h1⟩
  ·rw[if_neg h1] at h;cases h
 ·rw[if_neg h0] at h;by_cases h1: -(n:Int)<=i
  ·rw[if_pos h1] at h;have e:(i+n).toNat=j:=aR h;exact⟨by rw[seqIndex_neg (by omega) h1,e],by omega,h1,by omega⟩
  ·rw[if_neg h1] at h;cases h
theorem Ol{α:Type}{xs:List α}{i:Int}{v:α}(h:Ye xs i=some v):∃j,seqIndex? i xs.length=some j/\xs[j]?=some v/\j<xs.length/\ -(xs.length:Int)<=i/\i<xs.length:=by
 unfold Ye at h;cases e:YJ xs.length i with
 |none=>rw[e] at h;cases h
 |some j=>
  rw[e] at h;obtain⟨h1,h2,h3,h4⟩:=U1 e;exact⟨j,h1,h,h2,h3,h4⟩
theorem Vu{α:Type}{xs:List α}{j:Nat}{v:α}(h:xs[j]?=some v):Ye xs (j:Int)=some v:=by
 have hj:j<xs.length:=(aP.mp h).1;have e:YJ xs.length (j:Int)=some j:=by
  unfold YJ;rw[if_pos (by omega),if_pos (by omega)];simp
 unfold Ye;rw[e];exact h
def Oq(b:Expr):Prop:=∀o i,JS b false o i=operate [o,i] (Qx o i)
def IxR(X:Cx)(r:R2):Prop:=
 ∀(value slice:Expr) (pins:List (Addr×Obj)) (s:aI) (σ:St) (H:Hp) (x y:V) (v u:ao) (Q:VK),Inv X pins σ H s->RelV x v->RelV y u->r x y H Q->
  JS slice false v u=operate [v,u] (Qx v u)->bF (bS X.prog X.w) X.A (Oz value slice v u) (EP X pins σ Q) X.xe s
def MtR(X:Cx)(id:String)(r:V->List V->Hp->VK->Prop):Prop:=
 ∀(pins:List (Addr×Obj)) (s:aI) (σ:St) (H:Hp) (x:V) (xs:List V) (v:ao) (us:List ao) (Q:VK),Inv X pins σ H s->RelV x v->Vals xs us->r x xs H Q->
  bF (bS X.prog X.w) X.A (call (.builtin id) (v::us)) (EP X pins σ Q) X.xe s
section
variable{X:Cx}{a b:Expr}{ta tb:TE}{pos:Pos}
theorem Hr{r:R2}(hr:IxR X r)(ha:PE X a ta)(hb:PE X b tb)(hs:Oq b):PE X (.Subscript a b pos) (WM r ta tb):=by
 intro pins s σ H Q I h;exact WB (Yd ha hb I h fun v u s2 x y H2 I2 rx ry q=>hr a b pins s2 σ H2 x y v u Q I2 rx ry q (hs _ _))
def Uy(K:aq):R2:=fun x y H Q=>∃p xs i v,x= .ref p/\y= .int i/\cF K H p xs/\Ye xs i=some v/\Q v H
def ade(K:aq):R2:=fun x y H Q=>∃p xs i v,x= .ref p/\y= .int i/\JO K H p xs/\Ye xs i=some v/\Q v H
theorem NV:IxR X (Uy X.K):=by
 intro value slice pins s σ H x y v u Q I rx ry h hs;obtain⟨p,xs,i,z,rfl,rfl,hq,he,q⟩:=h;cases rx;obtain⟨t,rfl⟩:=ry;obtain⟨its,r,pl,hz⟩:=I.list hq;obtain⟨j,h1,h2,h3,h4,h5⟩:=Ol he;obtain⟨w,ew,OW⟩:=r.get h2;have hl:=r.length;have hn:=ME;have fin:EP X pins σ Q w s:=⟨z,H,I,OW,q⟩;by_cases h0:0<=i
 ·have hj:i.toNat=j:=by
   rw[seqIndex_of h0 h5] at h1;exact aR h1
  exact item_listR pl.isList h0 (by omega) (by rw[hj];simpa using ew) fin hs
 ·have hj:(i+(its.toArray.size:Int)).toNat=j:=by
   rw[seqIndex_neg (by omega) h4] at h1;rw[bu,<-hl];exact aR h1
  exact QB (x:=w) pl.isList.typeIs Yp.lookup
   (wpAny_getItem_list_neg (Q:=fun r s'=>r=w/\EP X pins σ Q r s') pl.isList (by omega) (by rw[bu]<;>omega) (by omega) (by rw[hj];simpa using ew) ⟨rfl,fin⟩) hs
theorem Js:IxR X (ade X.K):=by
 intro value slice pins s σ H x y v u Q I rx ry h hs;obtain⟨p,xs,i,z,rfl,rfl,hq,he,q⟩:=h;cases rx;obtain⟨t,rfl⟩:=ry;obtain⟨its,r,pl,hz⟩:=I.tuple hq;obtain⟨j,h1,h2,h3,h4,h5⟩:=Ol he;obtain⟨w,ew,OW⟩:=r.get h2;have hl:=r.length;have hn:=ME;have fin:EP X pins σ Q w s:=⟨z,H,I,OW,q⟩;exact QB (x:=w) pl.typeIs slot_tuple_getitem.lookup
  (getItem_tuple (j:=j) (Q:=fun r s'=>r=w/\EP X pins σ Q r s') pl (by omega) (by omega) (by rw[bu,<-hl];exact h1) (by simpa using ew) ⟨rfl,fin⟩) hs
theorem IA(lo hi:Option Int)(n:Nat):(qS lo hi none n).1=((HT.F' n 0 lo:Nat):Int)/\(qS lo hi none n).2.1=((HT.F' n n hi:Nat):Int)/\(qS lo hi none n).2.2=1:=by
 refine⟨?_,?_,rfl⟩
 ·cases lo with
  |none=>simp[qS,HT.F']
  |some i=>
   simp only[qS,HT.F',Qi,show(1:Int)>0 by decide,if_true];by_cases h:i<0
   ·simp only[h,if_true]<;>omega
   ·simp only[h,if_false]<;>omega
 ·cases hi with
  |none=>simp[qS,HT.F']
  |some i=>
   simp only[qS,HT.F',Qi,show(1:Int)>0 by decide,if_true];by_cases h:i<0
   ·simp only[h,if_true]<;>omega
   ·simp only[h,if_false]<;>omega
theorem Gw(its:List ao)(lo hi:Option Int):slicePick its.toArray lo hi none=((its.drop (HT.F' its.length 0 lo)).take (HT.F' its.length its.length hi -HT.F' its.length 0 lo)).toArray:=by
 obtain⟨h1,h2,h3⟩:=IA lo hi its.toArray.size;unfold slicePick;rw[h1,h2,h3];simp only[sliceRange_one,pick_run,bu]<;>rfl
def ada(K:aq):V->Option Int->Option Int->Hp->VK->Prop:=fun x lo hi H Q=>∃a xs,x= .ref a/\cF K H a xs/\∀p,H p=none->Q (.ref p) (upd H p (.lst (wO xs lo hi)))
theorem oh:SlR X (ada X.K):=by
 intro pins s σ H x v vl vu lo hi sl Q I rx hs pl pu h;obtain⟨a,xs,rfl,hx,q⟩:=h;cases rx;obtain⟨its,r,ht,hz⟩:=I.list hx;have hlen:=r.length;refine⟨"list",_,Yp.lookup,ht.isList.typeIs,?_⟩;refine wpAny_getItem_list_slice ht.isList hs pl pu .none (by simp) ?_ (by rw[bu]<;>omega);rw[Gw,<-hlen];refine⟨.ref s.heap.objs.size,_,I.laid (t':=s.toks) (o:= .lst (wO xs lo hi)) (fun b ob q=>ay _ q) (aL _) ?_,rfl,q _ (I.fR.fresh (aL _))⟩;exact⟨aD (Li xs lo hi) hz,_,0,(r.drop (HT.F' xs.length 0 lo)).take (HT.F' xs.length xs.length hi -HT.F' xs.length 0 lo),bt _ rfl⟩
def tR:V->Bool
 |.gE=>true
 |.bl _=>true
 |.int _=>true
 |.str _=>true
 |_=>false
def PX:V->V->Bool
 |.gE,.gE=>true
 |.bl a,.bl b=>a==b
 |.bl a,.int b=>(if a then 1 else 0)==b
 |.int a,.bl b=>a==(if b then 1 else 0)
 |.int a,.int b=>a==b
 |.str a,.str b=>a==b
 |_,_=>false
theorem X6{A:dw}{s:aI}{y x:V}{u v:ao}(ry:RelV y u)(rx:RelV x v)(fy:tR y=true)(fx:tR x=true):Zb A s u v (PX y x):=by
 cases y with
 |gE=>
  cases ry;cases x with
  |gE=>cases rx;exact SeqAt.EqAt.same _
  |bl b=>cases rx;exact SeqAt.EqAt.none_bool b
  |int b=>obtain⟨t,rfl⟩:=rx;exact SeqAt.EqAt.none_int b t
  |str b=>obtain⟨t,rfl⟩:=rx;exact SeqAt.EqAt.none_str b t
  |_=>exact absurd (show false=true from fx) aU
 |bl a=>
  cases ry;cases x with
  |gE=>cases rx;exact SeqAt.EqAt.bool_none a
  |bl b=>cases rx;exact SeqAt.EqAt.bool_bool a b
  |int b=>obtain⟨t,rfl⟩:=rx;exact SeqAt.EqAt.bool_int a b t
  |str b=>obtain⟨t,rfl⟩:=rx;exact SeqAt.EqAt.bool_str a b t
  |_=>exact absurd (show false=true from fx) aU
 |int a=>
  obtain⟨t',rfl⟩:=ry;cases x with
  |gE=>cases rx;exact SeqAt.EqAt.int_none a t'
  |bl b=>cases rx;exact SeqAt.EqAt.int_bool a t' b
  |int b=>obtain⟨t,rfl⟩:=rx;exact SeqAt.EqAt.int_int a t' b t
  |str b=>obtain⟨t,rfl⟩:=rx;exact JV a t' b t
  |_=>exact absurd (show false=true from fx) aU
 |str a=>
  obtain⟨t',rfl⟩:=ry;cases x with
  |gE=>cases rx;exact SeqAt.EqAt.str_none a t'
  |bl b=>cases rx;exact SeqAt.EqAt.str_bool a t' b
  |int b=>obtain⟨t,rfl⟩:=rx;exact JU a t' b t
  |str b=>obtain⟨t,rfl⟩:=rx;exact SeqAt.EqAt.str_str a t' b t
  |_=>exact absurd (show false=true from fx) aU
 |_=>exact absurd (show false=true from fy) aU
def LS(x:V)(u:ao):Bool:=match u with
 |.none=>PX .gE x
 |.bool b=>PX (.bl b) x
 |.int i _=>PX (.int i) x
 |.str z _=>PX (.str z) x
 |_=>false
theorem JA{x y:V}{u:ao}(r:RelV y u)(f:tR y=true):LS x u=PX y x:=by
 cases y with
 |gE=>cases r;rfl
 |bl b=>cases r;rfl
 |int i=>obtain⟨t,rfl⟩:=r;rfl
 |str z=>obtain⟨t,rfl⟩:=r;rfl
 |_=>exact absurd (show false=true from f) aU
theorem AF{x:V}:∀{xs:List V} {us:List ao},Vals xs us->xs.all tR=true->us.any (LS x)=xs.any fun y=>PX y x
 |_,_,.nil,_=>rfl
 |y::xs,u::us,.cons r t,f=>by
  rw[mj,aW] at f;rw[t9,t9,JA r f.1,AF t f.2]
theorem tJ{A:dw}{s:aI}{x:V}{v:ao}(rx:RelV x v)(fx:tR x=true):∀{xs:List V} {us:List ao},Vals xs us->xs.all tR=true->∀u∈us,Zb A s u v (LS x u)
 |_,_,.nil,_=>fun u hu=>by cases hu
 |y::xs,u::us,.cons r t,f=>fun u' hu=>by
  rw[mj,aW] at f;rcases az.mp hu with rfl|hu
  ·rw[JA r f.1];exact X6 r rx f.1 fx
  ·exact tJ rx fx t f.2 u' hu
def U3(x:V)(xs:List V):Bool:=xs.any fun y=>PX y x
def rIn(K:aq)(neg:Bool):R2:=fun x y H Q=>∃p xs,y= .ref p/\(cF K H p xs\/JO K H p xs)/\tR x=true/\xs.all tR=true/\Q (.bl (if neg then !U3 x xs else U3 x xs)) H
theorem Bl:Cz X (fj .In) (rIn X.K false):=by
 intro pins s σ H x y v u Q I rx ry h;obtain⟨p,xs,rfl,hq,fx,fs,q⟩:=h;cases ry;rcases hq with hq|hq
 ·obtain⟨its,r,pl,hz⟩:=I.list hq;refine SeqAt.in_listAt (LS x) pl.isList (fun w hw=>tJ rx fx r fs w (by simpa using hw)) ⟨.bl _,H,I,rfl,?_⟩;rw[show its.toArray.any (LS x)=its.any (LS x) by simp,AF r fs];exact q
 ·obtain⟨its,r,pl,hz⟩:=I.tuple hq;refine SeqAt.in_tupleAt (LS x) pl (fun w hw=>tJ rx fx r fs w (by simpa using hw)) ⟨.bl _,H,I,rfl,?_⟩;rw[show its.toArray.any (LS x)=its.any (LS x) by simp,AF r fs];exact q
theorem Ac:Cz X (fj .NotIn) (rIn X.K true):=by
 intro pins s σ H x y v u Q I rx ry h;obtain⟨p,xs,rfl,hq,fx,fs,q⟩:=h;cases ry;rcases hq with hq|hq
 ·obtain⟨its,r,pl,hz⟩:=I.list hq;refine SeqAt.notIn_listAt (LS x) pl.isList (fun w hw=>tJ rx fx r fs w (by simpa using hw)) ⟨.bl _,H,I,rfl,?_⟩;rw[show its.toArray.any (LS x)=its.any (LS x) by simp,AF r fs];exact q
 ·obtain⟨its,r,pl,hz⟩:=I.tuple hq;refine SeqAt.notIn_tupleAt (LS x) pl (fun w hw=>tJ rx fx r fs w (by simpa using hw)) ⟨.bl _,H,I,rfl,?_⟩;rw[show its.toArray.any (LS x)=its.any (LS x) by simp,AF r fs];exact q
theorem JF:AQ X (.builtin "len") (fun xs H Q=>∃p ys,xs=[.ref p]/\(cF X.K H p ys\/JO X.K H p ys)/\Q (.int ys.length) H):=by
 intro pins s σ H xs us Q I r h;obtain⟨p,ys,rfl,hq,q⟩:=h;obtain⟨u,rfl,rx⟩:=vals1 r;cases rx;have hn:=ME;rcases hq with hq|hq
 ·obtain⟨its,r',pl,hz⟩:=I.list hq;have hlen:=r'.length;exact Calls.call_len_list pl.isList (by simp only[bu]<;>omega) ⟨.int ys.length,H,I.tok _,⟨s.toks+1,by rw[bu,hlen]⟩,q⟩
 ·obtain⟨its,r',pl,hz⟩:=I.tuple hq;have hlen:=r'.length;exact len_tuple pl (by simp only[bu]<;>omega) ⟨.int ys.length,H,I.tok _,⟨s.toks+1,by rw[bu,hlen]⟩,q⟩
theorem JE:AQ X (.type "list") (fun xs H Q=>∃p ys,xs=[.ref p]/\(cF X.K H p ys\/JO X.K H p ys)/\∀l,H l=none->Q (.ref l) (upd H l (.lst ys))):=by
 intro pins s σ H xs us Q I r h;obtain⟨p,ys,rfl,hq,q⟩:=h;obtain⟨u,rfl,rx⟩:=vals1 r;cases rx;have fin:∀(its:List ao),Vals ys its->ys.length<=aG->∀(h':Heap) (c':Nat),(∀b o',s.heap.get? b=some o'->h'.get? b=some o')->
   h'.get? s.heap.objs.size=some {cls:= .type "list",dict:=none,data:= .seq its.toArray c',slots:=#[]}->EP X pins σ Q (.ref s.heap.objs.size) {s with heap:=h'}:=fun its r' hz h' c' kp e=>
  ⟨.ref s.heap.objs.size,_,I.laid (t':=s.toks) kp (aL _) (show ia X.prog X.w _ h' _ (.lst ys) from⟨hz,its,c',r',e⟩),rfl,q _ (I.fR.fresh (aL _))⟩
 rcases hq with hq|hq
 ·obtain⟨its,r',pl,hz⟩:=I.list hq;have hlen:=r'.length;obtain⟨o,ho,hc,n,hd⟩:=pl.isList;exact call_list_seq p (.inl rfl) ho hc hd (fun h' c' kp e=>fin its r' hz h' c' kp e) (by simp only[bu]<;>omega)
 ·obtain⟨its,r',pl,hz⟩:=I.tuple hq;have hlen:=r'.length;obtain⟨o,ho,hc,n,hd⟩:=pl;exact call_list_seq p (.inr rfl) ho hc hd (fun h' c' kp e=>fin its r' hz h' c' kp e) (by simp only[bu]<;>omega)
def tyV(K:aq)(T:String)(x:V)(H:Hp):Prop:=match x with
 |.str _=>T="str"
 |.int _=>T="int"
 |.ref p=>(T="list"/\∃xs,cF K H p xs)\/(T="tuple"/\∃o,K.lookup p=some o/\o.cls= .type "tuple"/\o.dict=none)\/
   (T="dict"/\((∃kvs,H p=some (.dK kvs))\/∃kvs,H p=some (.dT kvs)))\/(T="set"/\∃S n,H p=some (.set S n))
 |_=>False
theorem QR{pins:List (Addr×Obj)}{σ:St}{H:Hp}{s:aI}{T:String}{x:V}{v:ao}(I:Inv X pins σ H s)(r:RelV x v)(ty:tyV X.K T x H):
  s.TypeIs v T/\∀a,v= .ref a->∃ob,s.heap.get? a=some ob/\ob.dict=none:=by
 cases x with
 |str z=>
  obtain⟨t,rfl⟩:=r;cases(show T="str" from ty);exact⟨typeIs_str s z t,fun _ e=>nomatch e⟩
 |int i=>
  obtain⟨t,rfl⟩:=r;cases(show T="int" from ty);exact⟨typeIs_int s i t,fun _ e=>nomatch e⟩
 |ref p=>
  cases r;rcases ty with⟨rfl,xs,hq⟩|⟨rfl,o,hk,hc,hd⟩|⟨rfl,hk⟩|⟨rfl,S,n,hk⟩
  ·obtain⟨its,_,pl,_⟩:=I.list hq;refine⟨pl.isList.typeIs,fun a e=>?_⟩;cases e;obtain⟨o,n,e,c,hd,_⟩:=pl;exact⟨o,e,hd⟩
  ·refine⟨⟨o,I.KW p o hk,hc⟩,fun a e=>?_⟩;cases e;exact⟨o,I.KW _ o hk,hd⟩
  ·have z:∃o,s.heap.get? p=some o/\o.ExactDict:=by
    rcases hk with⟨kvs,hk⟩|⟨kvs,hk⟩
    ·obtain⟨_,_,_,_,o,_,_,e,ex,_⟩:=I.fR p _ hk;exact⟨o,e,ex⟩
    ·obtain⟨_,_,_,_,o,_,_,e,ex,_⟩:=I.fR p _ hk;exact⟨o,e,ex⟩
   obtain⟨o,e,ex⟩:=z;refine⟨⟨o,e,ex.1⟩,fun a e2=>?_⟩;cases e2;exact⟨o,e,ex.2.1⟩
  ·obtain⟨o,_,_,_,e,ex,_⟩:=I.fR p _ hk;refine⟨⟨o,e,ex.1⟩,fun a e2=>?_⟩;cases e2;exact⟨o,e,ex.2.1⟩
 |_=>exact fL ty
def ac0(K:aq)(T:String)(r:V->List V->Hp->VK->Prop)(to:TE):TE:=fun σ H Q=>to σ H fun x H1=>tyV K T x H1/\r x [] H1 Q
def tBM(K:aq)(T:String)(r:V->List V->Hp->VK->Prop)(to:TE)(t:TA):TE:=fun σ H Q=>to σ H fun x H1=>tyV K T x H1/\t σ H1 fun xs H2=>r x xs H2 Q
variable{o e:Expr}{es:List Expr}{to:TE}{t:TA}{name:Str}{apos mF:Pos}{T id:String}{r:V->List V->Hp->VK->Prop}
theorem W'(pa:PlainAttrs T)(slot:Slot T name id)(hty:typeOf (.builtin id)=pure (.type "method_descriptor"))(hm:MtR X id r)(ho:PE X o to)
  (K6:jk o name X.env (eval o X.env)=eval o X.env:=by rfl)(K1:(apos.endLine==mF.line)=true:=by rfl):PE X (.Call (.Attribute o name apos) [] [] mF) (ac0 X.K T r to):=by
 intro pins s σ H Q I h;refine wpAny_Call_method0_late K6 K1 (gI (ho pins s σ H _ I h) fun v s1 ⟨x,H1,I1,r1,ty,q1⟩=>?_);obtain⟨h1,h2⟩:=QR I1 r1 ty;exact⟨T,id,pa,slot,hty,h1,h2,nE rfl (PySem.evalArgs_none (hm pins s1 σ H1 x [] v [] Q I1 r1 .nil q1))⟩
theorem qx(pa:PlainAttrs T)(slot:Slot T name id)(hty:typeOf (.builtin id)=pure (.type "method_descriptor"))(hm:MtR X id r)(ho:PE X o to)(ha:PA X (e::es) t)
  (K6:jk o name X.env (eval o X.env)=eval o X.env:=by rfl)
  (Vb:((fq mF (bw (e::es) X.env)).all (fun x=>!x.1)&&(o8 mF (jc [] X.env)).all (fun x=>x.1.isSome)
   &&decide ((e::es).length+([]:List vx).length+(if([]:List vx).isEmpty then 0 else 1)<30))=true:=by rfl)
  (K1:(apos.endLine==mF.line)=true:=by rfl)(hs:bw (e::es) X.env=(false,eval e X.env)::bw es X.env:=by rfl)(MM:(fq mF (bw es X.env)).any (·.1)=false:=by rfl):
  PE X (.Call (.Attribute o name apos) (e::es) [] mF) (tBM X.K T r to t):=by
 intro pins s σ H Q I h;refine wpAny_Call_method_late K6 Vb K1 rfl (gI (ho pins s σ H _ I h) fun v s1 ⟨x,H1,I1,r1,ty,q1⟩=>?_);obtain⟨h1,h2⟩:=QR I1 r1 ty;refine⟨T,id,pa,slot,hty,h1,h2,?_⟩;have hA:=ha mF pins s1 σ H1 _ I1 q1;rw[hs] at hA|-
 refine nE (by show(false||(fq mF (bw es X.env)).any (·.1))=false;rw[MM]<;>rfl) (xx ?_);exact gI hA fun us s2 ⟨vs,H2,I2,r2,q2⟩=>hm pins s2 σ H2 x vs v us Q I2 r1 r2 q2
end
def MtM(X:Cx)(id:String)(r:V->List V->Hp->VK->Prop):Prop:=
 ∀(pins:List (Addr×Obj)) (s:aI) (σ:St) (H:Hp) (x:V) (xs:List V) (v:ao) (us:List ao) (Q:VK),Inv X pins σ H s->RelV x v->Vals xs us->r x xs H Q->
  bF (bS X.prog X.w) X.A (call (.builtin id) (v::us)) (EP X pins σ Q) X.xe s
theorem Vals.one:∀{x:V} {us:List ao},Vals [x] us->∃u,us=[u]/\RelV x u
 |_,_,.cons r .nil=>⟨_,rfl,r⟩
theorem Vals.two:∀{x y:V} {us:List ao},Vals [x,y] us->∃u v,us=[u,v]/\RelV x u/\RelV y v
 |_,_,_,.cons r (.cons q .nil)=>⟨_,_,rfl,r,q⟩
theorem Vals.zero:∀{us:List ao},Vals [] us->us=[]
 |_,.nil=>rfl
theorem Vals.dropLast{xs:List V}{us:List ao}(h:Vals xs us):Vals xs.dropLast us.dropLast:=by
 induction h with
 |nil=>exact .nil
 |cons r t ih=>
  cases t with
  |nil=>exact .nil
  |cons q t'=>exact .cons r ih
theorem Vals.eraseIdx:∀{xs:List V} {us:List ao} (i:Nat),Vals xs us->Vals (xs.eraseIdx i) (us.eraseIdx i)
 |_,_,_,.nil=>.nil
 |_,_,0,.cons _ t=>t
 |_,_,i+1,.cons r t=>.cons r (Vals.eraseIdx i t)
theorem Vals.reverse{xs:List V}{us:List ao}(h:Vals xs us):Vals xs.reverse us.reverse:=by
 induction h with
 |nil=>exact .nil
 |cons r t ih=>rw[sQ,sQ];exact Vals.append ih (.cons r .nil)
theorem MS{α:Type}(l:List α):l.eraseIdx (l.length -1)=l.dropLast:=by
 induction l with
 |nil=>rfl
 |cons a r ih=>
  cases r with
  |nil=>rfl
  |cons b r=>
   have e:(a::b::r).length -1=((b::r).length -1)+1:=by
    have h1:(a::b::r).length=r.length+2:=rfl;have h2:(b::r).length=r.length+1:=rfl;omega
   rw[e,List.eraseIdx_cons_succ,ih]
   all_goals rfl
section
variable{X:Cx}{pins:List (Addr×Obj)}{σ:St}{H:Hp}{s:aI}{l b:Addr}{xs ys zs:List V}
theorem Inv.RH{its its':List ao}{n:Nat}{f:Array ao->Array ao}{t':Nat}(I:Inv X pins σ H s)(hH:H l=some (.lst xs))
  (e:s.heap.get? l=some {cls:= .type "list",data:= .seq its.toArray n})(hf:f its.toArray=its'.toArray)(hv:Vals ys its')(hz:ys.length<=aG):
  Inv X pins σ (upd H l (.lst ys)) {s with heap:=s.heap.update l (vJ f),toks:=t'}:=by
 have q:=PySem.IsL.update e f;rw[hf] at q;refine I.write (x:=l) (e:=l) (by rw[hH];exact trivial) (.inl rfl) (fun b' u hb hu=>(jH s.heap (vJ f) (rf hb)).trans hu) ⟨_,q⟩ ?_;exact⟨hz,its',_,hv,q⟩
theorem Inv.adw{its:List ao}{t':Nat}(I:Inv X pins σ H s)(hv:Vals ys its)(hz:ys.length<=aG):
  Inv X pins σ (upd H s.heap.objs.size (.lst ys)) {s with heap:=s.heap.push {cls:= .type "list",data:= .seq its.toArray},toks:=t'}:=
 I.laid (fun _ _ q=>ay _ q) (aL _) ⟨hz,its,0,hv,bt _ rfl⟩
theorem Inv.fresh(I:Inv X pins σ H s):H s.heap.objs.size=none:=I.fR.fresh (aL _)
theorem Inv.KQ(I:Inv X pins σ H s)(hH:H l=some (.lst xs)):xs.length<=aG/\∃(its:List ao) (n:Nat),Vals xs its/\xs.length=its.length/\s.heap.get? l=some {cls:= .type "list",data:= .seq its.toArray n}:=by
 obtain⟨z,its,n,r,e⟩:=I.fR l _ hH;exact⟨z,its,n,r,r.length,e⟩
theorem Ru{n:Nat}(h:n<=aG):pY n=false:=by
 unfold pY;exact decide_eq_false (by omega)
end
section
variable{X:Cx}
def UA:V->List V->Hp->VK->Prop:=fun x vs H Q=>∃l xs y,x= .ref l/\vs=[y]/\H l=some (.lst xs)/\xs.length<aG/\Q .gE (upd H l (.lst (xs++[y])))
theorem Pe:MtM X "list.append" UA:=by
 intro pins s σ H x vs v us Q I rx rv h;obtain⟨l,xs,y,rfl,rfl,hH,hz,q⟩:=h;cases rx;obtain⟨u,rfl,ru⟩:=rv.one;obtain⟨z,its,n,r,hl,e⟩:=I.KQ hH;refine yC L_ ⟨_,e,rfl⟩ F.entry_list_append (F.args_list_append_2 _ _) (PySem.list_append l its.toArray n u (by rw[bu];omega)) ⟨e,?_⟩;refine⟨.gE,_,I.RH (its':=its++[u]) hH e (by simp) (r.append (.cons ru .nil)) ?_,rfl,q⟩;rw[aJ,kz];omega
def Uz:V->List V->Hp->VK->Prop:=fun x vs H Q=>∃l b xs zs,x= .ref l/\vs=[.ref b]/\H l=some (.lst xs)/\H b=some (.lst zs)/\xs.length+zs.length<=aG/\Q .gE (upd H l (.lst (xs++zs)))
theorem jP:MtM X "list.extend" Uz:=by
 intro pins s σ H x vs v us Q I rx rv h;obtain⟨l,b,xs,zs,rfl,rfl,hH,hB,hz,q⟩:=h;cases rx;obtain⟨u,rfl,ru⟩:=rv.one;cases ru;obtain⟨z,its,n,r,hl,e⟩:=I.KQ hH;obtain⟨z2,y6,n2,r2,uK,e2⟩:=I.KQ hB;have hsz:its.toArray.size+y6.toArray.size<=aG:=by rw[bu,bu];omega
 have aay: ¬(!its.toArray.isEmpty&&pY (its.toArray.size+y6.toArray.size))=true:=by
  rw[Ru hsz,VM];exact aU
 refine yC df ⟨_,e,rfl⟩ F.entry_list_extend (F.args_list_extend_2 _ _)
  (AutoSeq1.list_extend_list_list_0 l its.toArray n b y6.toArray n2 aay (by rw[bu];omega) (by omega)) ⟨e,e2,?_⟩
 refine⟨.gE,_,I.RH (its':=its++y6) hH e (by simp) (r.append r2) ?_,rfl,q⟩;rw[aJ];omega
def adb:V->List V->Hp->VK->Prop:=fun x vs H Q=>∃l xs y,x= .ref l/\vs=[]/\H l=some (.lst xs)/\xs[xs.length -1]?=some y/\Q y (upd H l (.lst xs.dropLast))
theorem Xk:MtM X "list.pop" adb:=by
 intro pins s σ H x vs v us Q I rx rv h;obtain⟨l,xs,y,rfl,rfl,hH,hy,q⟩:=h;cases rx;have hus:=rv.zero;subst hus;obtain⟨z,its,n,r,hl,e⟩:=I.KQ hH;obtain⟨u,hu,ru⟩:=r.get hy;have hy':its.toArray[its.toArray.size -1]?=some u:=by
  show its.toArray[its.length -1]?=some u;rw[<-LL,<-hl];exact hu
 refine yC Qh ⟨_,e,rfl⟩ F.entry_list_pop (F.args_list_pop_1 _) (MeetsSeq.list_pop_last l its.toArray n u hy' (by rw[bu];omega)) ⟨e,?_⟩;refine⟨y,_,I.RH (its':=its.dropLast) hH e ?_ r.dropLast ?_,ru,q⟩
 ·show its.toArray.eraseIdxIfInBounds (its.toArray.size -1)=its.dropLast.toArray;rw[bu,List.eraseIdxIfInBounds_toArray,MS]
 ·rw[List.length_dropLast];omega
def adf:R2:=fun x y H Q=>∃l b xs zs,x= .ref l/\y= .ref b/\H l=some (.lst xs)/\H b=some (.lst zs)/\xs.length+zs.length<=aG/\∀p,H p=none->Q (.ref p) (upd H p (.lst (xs++zs)))
theorem mZ:Cz X (L6 .Add) adf:=by
 intro pins s σ H x y v u Q I rx ry h;obtain⟨l,b,xs,zs,rfl,rfl,hH,hB,hz,q⟩:=h;cases rx;cases ry;obtain⟨z,its,n,r,hl,e⟩:=I.KQ hH;obtain⟨z2,y6,n2,r2,uK,e2⟩:=I.KQ hB;refine PySem.P.add_list e e2 ?_ (by rw[bu,bu];omega);have ea:its.toArray++y6.toArray=(its++y6).toArray:=by simp
 rw[ea];exact⟨.ref _,_,I.adw (t':=s.toks) (r.append r2) (by rw[aJ];omega),rfl,q _ I.fresh⟩
end
section
variable{prog:bq}{w:cf}{A:dw}{E:ao->aI->Prop}{s:aI}
end
section
variable{X:Cx}
end
theorem zu:∀{us:List ao} {ns:List Int},IntsAre us ns->Vals (ns.map V.int) us
 |_,_,.nil=>by rw[vA];exact Paired.nil
 |_,_,.cons n t h=>by rw[bE];exact Paired.cons (show RelV (V.int n) (j8 n t) from⟨t,rfl⟩) (zu h)
theorem Vals.bls:∀{bs:List Bool} {us:List ao},Vals (bs.map V.bl) us->us=bs.map vb
 |[],us,h=>by
  rw[vA] at h;cases h;rfl
 |b::bs,us,h=>by
  rw[bE] at h;cases h with
  |cons r t=>
   cases r;rw[Vals.bls t,bE]
theorem Vals.ZP{a:Addr}{us:List ao}(r:Vals [V.ref a] us):us=[cu a]:=by
 cases r with
 |cons r t=>
  cases t;cases r;rfl
section
variable{prog:bq}{w:cf}{A:dw}{E:ao->aI->Prop}{s:aI}{l:Addr}{its:List ao}{ns:List Int}{Q:ao->aI->Prop}
end
section
variable{X:Cx}
theorem NC{n:Nat}(h:n<64):n<=aG:=by rw[AX];omega
def W7(K:aq):V->List V->Hp->VK->Prop:=fun x xs H Q=>∃(a:Addr) (ys:List V) (y:V) (j:Nat) (z:V),x=V.ref a/\xs=[y]/\cF K H a ys/\tR y=true/\ys.all tR=true/\ys[j]?=some z/\PX z y=true/\
 (∀(m:Nat) (z':V),m<j->ys[m]?=some z'->PX z' y=false)/\Q (.int (j:Nat)) H
theorem N8{ys:List V}(f:ys.all tR=true){j:Nat}{z:V}(h:ys[j]?=some z):tR z=true:=gY.mp f z (bB h)
theorem RB:MtR X "list.index" (W7 X.K):=by
 intro pins s σ H x xs v us Q I rx rxs h;obtain⟨a,ys,y,j,z,rfl,rfl,hs,fy,fys,hz,hzj,LP,q⟩:=h;cases rx;cases rxs with
 |cons ry rt=>
  rename_i uy ut;cases rt;obtain⟨its,rv,⟨⟨cls,dd,data,sl⟩,n,ho,hc,hdn,hd⟩,hlen⟩:=I.list hs;simp only at hc hd;subst hc hd;obtain⟨u,hu,ru⟩:=rv.get hz;obtain⟨XG,hje⟩:=aP.mp hu;have hvl:=rv.length;have hj:j<its.toArray.size:=by simpa using XG
  have hsl:=AX;refine yC G' ⟨_,ho,rfl⟩ PySem.F.entry_list_index (PySem.F.args_list_index_2 _ _)
   (SeqAt.list_indexAt a its.toArray n dd sl uy (LS y) j hj (by omega) ?_ ?_) ⟨ho,fun u' hu'=>tJ ry fy rv fys u' (by simpa using hu'),?_⟩
  ·have e1:its.toArray[j]=u:=by simpa using hje
   rw[e1,JA ru (N8 fys hz)];exact hzj
  ·intro m hm Jx;have Sd:m<its.length:=by simpa using hm
   have hmy:m<ys.length:=by omega
   have hy':ys[m]?=some ys[m]:=aS hmy;obtain⟨u2,hu2,W4⟩:=rv.get hy';obtain⟨_,hme⟩:=aP.mp hu2;have e1:its.toArray[m]=u2:=by simpa using hme
   rw[e1,JA W4 (N8 fys hy')];exact LP m _ Jx hy'
  ·exact⟨.int (j:Nat),H,I.tok _,⟨_,rfl⟩,q⟩
theorem RP{prog:bq}{w:cf}{A:dw}{E:ao->aI->Prop}{s:aI}{l:Addr}{items:Array ao}{Q:ao->aI->Prop}(hl:s.heap.IsList l items)
  (h:∀s₂:aI,s₂={s with heap:=s.heap.push {cls:= .type "list_iterator",data:= .fields #[.ref l,.int 0 0]} }->
   (s₂.heap.IsListIter s.heap.objs.size l 0/\s₂.heap.IsList l items)->l≠s.heap.objs.size->Q (.ref s.heap.objs.size) s₂):bF (bS prog w) A (pyIter (.ref l)) Q E s:=by
 have qY:l<s.heap.objs.size:=by obtain⟨_,e,_⟩:=hl;exact bc e
 exact vw hl (h _ rfl ⟨⟨_,bt _ rfl,rfl,rfl⟩,hl.push _⟩ (b9 qY))
theorem Ke{prog:bq}{w:cf}{A:dw}{bs:List Bool}{its:List ao}(e:its=bs.map vb):
  TruthOf prog w A (fun i v=>its.toArray[i]?=some v) (fun i=>bs.getD i false):=fun i v s Q E hv hq=>by
 have hv':its[i]?=some v:=by simpa using hv
 rw[e,aM] at hv';obtain⟨b,hb,rfl⟩:=Option.map_eq_some_iff.mp hv';have hg:bs.getD i false=b:=by rw[bo,hb]<;>rfl
 have V6:Q (bs.getD i false) s:=hq;rw[hg] at V6;exact ff V6
theorem all_range:∀bs:List Bool,(dg bs.length).all (fun i=>bs.getD i false)=bs.all id
 |[]=>rfl
 |b::bs=>by
  rw[aQ,List.range_succ_eq_map,mj,LJ,mj,<-all_range bs]
  all_goals rfl
def adg(K:aq):List V->Hp->VK->Prop:=fun vs H Q=>∃(a:Addr) (bs:List Bool),vs=[V.ref a]/\cF K H a (bs.map V.bl)/\Q (.bl (bs.all id)) H
theorem SF(hc:X.calm=true):AQ X (.builtin "all") (adg X.K):=by
 intro pins s σ H vs us Q I r h;obtain⟨a,bs,rfl,hs,q⟩:=h;obtain⟨its,rv,hl,_⟩:=I.list hs;rw[Vals.ZP r];have hb:=rv.bls;refine call_all_walk (RP hl.isList fun s₂ e2 st tN=>?_);subst e2;refine⟨_,_,_,_,_,_,_,rfl,Y9 (A:=X.A.in1) (I.ok.hd hc) _ a tN its.toArray,st,Ke hb,fun h' tk hk=>?_⟩;refine⟨.bl _,H,I.kept fun b o eo=>hk b o (fun qX=>?_) (ay _ eo),?_,q⟩
 ·rcases az.mp qX with e1|qX
  ·exact absurd (e1▸bc eo) (d9 _)
  ·cases qX
 ·show vb _=vb _;rw[<-all_range,hb,bu,ab]
end
section
variable{X:Cx}{pins:List (Addr×Obj)}{σ:St}{H:Hp}{s:aI}
end
section
variable{X:Cx}
end
abbrev Tc(h:Heap)(c:Addr)(v:Option ao):Prop:=h.IsCell c v
def ac_(scope sc:ku):ku:=
 {scope with names:=scope.names.map fun(n,k)=>if(k== .free&&sc.kind== .function&&sc.names.lookup n==some .cell) then(n,.cell) else(n,k)}
def gd(cells:List (Str×Addr)):List (Str×jd)->List (Str×Addr)->List (Str×Addr)
 |[],acc=>acc
 |(n,k)::r,acc=>if k== .free then gd cells r ((n,(cells.lookup n).getD 0)::acc) else gd cells r acc
theorem Aw(env:Env)(f:Str×jd->List (Str×Addr)->Sem (ForInStep (List (Str×Addr))))
  (hf:∀n k c,f (n,k) c=if k== .free then(do let a <-cellOf env n;pure (.yield ((n,a)::c))) else pure (.yield c)):
  ∀(names:List (Str×jd)) (acc:List (Str×Addr)),(∀y∈names,y.2= .free->∃c,env.cells.lookup y.1=some c)->forIn names acc f=pure (gd env.cells names acc)
 |[],acc,_=>by rw[x5];rfl
 |(n,k)::r,acc,h=>by
  rw[F9,hf];have ih:=fun acc=>Aw env f hf r acc fun y hy=>h y (aj _ hy);unfold gd;by_cases hk:(k==nP)=true
  ·rw[if_pos hk,if_pos hk];obtain⟨c,hc⟩:=h (n,k) au (by simpa using hk);have e:cellOf env n=pure c:=by unfold cellOf;rw[hc]
   rw[e];have e2:(env.cells.lookup n).getD 0=c:=by rw[hc];rfl
   rw[e2];exact ih _
  ·rw[if_neg hk,if_neg hk];exact ih _
theorem MY{scope:ku}{env:Env}(h:∀y∈scope.names,y.2= .free->∃c,env.cells.lookup y.1=some c):LY scope env=pure (gd env.cells scope.names []):=by
 simp only[LY];rw[Aw env _ (fun n k c=>rfl) scope.names [] h];rfl
theorem mem_lookup{α:Type}:∀{l:List (Str×α)} {n:Str} {c:α},(n,c)∈l->∃c',l.lookup n=some c'
 |(k,v)::r,n,c,h=>by
  rw[jf];cases hb:n==k with
  |true=>exact⟨_,rfl⟩
  |false=>
   rcases az.mp h with e|h
   ·cases e;simp at hb
   ·exact mem_lookup h
theorem rW{cells:List (Str×Addr)}:∀{names:List (Str×jd)} {acc:List (Str×Addr)} {n:Str} {c:Addr},(n,c)∈gd cells names acc->(n,c)∈acc\/((n,.free)∈names/\c=(cells.lookup n).getD 0)
 |[],_,_,_,h=>.inl h
 |(m,k)::r,acc,n,c,h=>by
  unfold gd at h;split at h
  ·rename_i hk;have hk:k= .free:=by simpa using hk
   rcases rW h with h|⟨h1,h2⟩
   ·rcases az.mp h with e|h
    ·cases e;exact .inr ⟨hk▸au,rfl⟩
    ·exact .inl h
   ·exact .inr ⟨aj _ h1,h2⟩
  ·rcases rW h with h|⟨h1,h2⟩
   ·exact .inl h
   ·exact .inr ⟨aj _ h1,h2⟩
theorem wR{cells:List (Str×Addr)}:∀{names:List (Str×jd)} {acc:List (Str×Addr)} {p:Str×Addr},p∈acc->p∈gd cells names acc
 |[],_,_,h=>h
 |(m,k)::r,acc,p,h=>by
  unfold gd;split
  ·exact wR (aj _ h)
  ·exact wR h
theorem wQ{cells:List (Str×Addr)}:∀{names:List (Str×jd)} {acc:List (Str×Addr)} {n:Str},(n,.free)∈names->(n,(cells.lookup n).getD 0)∈gd cells names acc
 |(m,k)::r,acc,n,h=>by
  unfold gd;rcases az.mp h with e|h
  ·cases e;exact wR au
  ·split
   ·exact wQ h
   ·exact wQ h
theorem tU:∀{names:List (Str×jd)} {h:Heap} {acc:List (Str×Addr)} {x:Str} {c:Addr},(x,c)∈eU h.objs.size names acc->
  (x,c)∈acc\/((x,.cell)∈names/\h.objs.size<=c/\Tc (t5 h names) c none)
 |[],_,_,_,_,h=>.inl h
 |(n,k)::r,h,acc,x,c,hm=>by
  unfold eU at hm;unfold t5;split at hm
  ·rename_i hk;rw[if_pos hk];have hk:k= .cell:=by simpa using hk
   rw[<-cH h {cls:= .type "cell",data:= .cell none}] at hm;rcases tU hm with hm|⟨h1,h2,h3⟩
   ·rcases az.mp hm with e|hm
    ·cases e;exact .inr ⟨hk▸au,aL _,_,zk r _ _ _ (bt _ rfl),rfl⟩
    ·exact .inl hm
   ·rw[cH] at h2;exact .inr ⟨aj _ h1,t6 h2,h3⟩
  ·rename_i hk;rw[if_neg hk];rcases tU hm with hm|⟨h1,h2,h3⟩
   ·exact .inl hm
   ·exact .inr ⟨aj _ h1,h2,h3⟩
theorem xk:∀{names:List (Str×jd)} {n:Nat} {acc:List (Str×Addr)} {p:Str×Addr},p∈acc->p∈eU n names acc
 |[],_,_,_,h=>h
 |(m,k)::r,n,acc,p,h=>by
  unfold eU;split
  ·exact xk (aj _ h)
  ·exact xk h
theorem BC:∀{names:List (Str×jd)} {n:Nat} {acc:List (Str×Addr)} {x:Str},(x,.cell)∈names->∃c,(x,c)∈eU n names acc
 |(m,k)::r,n,acc,x,h=>by
  unfold eU;rcases az.mp h with e|h
  ·cases e;exact⟨n,xk au⟩
  ·split
   ·exact BC h
   ·exact BC h
theorem BB:∀{names:List (Str×jd)} {h:Heap} {acc:List (Str×Addr)} {x y:Str} {c:Addr},(∀p∈acc,p.2<h.objs.size)->(∀x y c,(x,c)∈acc->(y,c)∈acc->x=y)->
  (x,c)∈eU h.objs.size names acc->(y,c)∈eU h.objs.size names acc->x=y
 |[],_,_,_,_,_,_,hi,h1,h2=>hi _ _ _ h1 h2
 |(n,k)::r,h,acc,x,y,c,hl,hi,h1,h2=>by
  unfold eU at h1 h2;split at h1
  ·rename_i hk;rw[if_pos hk] at h2;rw[<-cH h {cls:= .type "cell",data:= .cell none}] at h1 h2;refine BB (h:=h.push _) (fun p hp=>?_) (fun x y c a b=>?_) h1 h2
   ·rw[cH];rcases az.mp hp with rfl|hp
    ·exact jl _
    ·exact fP (hl p hp)
   ·rcases az.mp a with e|a<;>rcases az.mp b with e'|b
    ·cases e;cases e';rfl
    ·cases e;exact absurd (hl _ b) (d9 _)
    ·cases e';exact absurd (hl _ a) (d9 _)
    ·exact hi _ _ _ a b
  ·rename_i hk;rw[if_neg hk] at h2;exact BB hl hi h1 h2
theorem KJ{M:Yu}{A:dw}{E:ao->aI->Prop}{s:aI}{scope:ku}{globals:Addr}{closure:List (Str×Addr)}{qual:Str}{func:Option Addr}{code:ao}{around:Env}{builtins:Addr}{Q:Env->aI->Prop}
  (h:Q (newEnv scope s.heap.objs.size globals (eU (s.heap.objs.size+1) scope.names closure) qual func code (some around) builtins)
   {s with heap:=t5 (s.heap.push {cls:= .type "dict",data:= .dict #[]}) scope.names}):
  bF M A (newFunctionEnv scope globals closure [] qual func code (some around) builtins) Q E s:=by
 simp only[newFunctionEnv,Nh,if_true];refine aK (wpAny_alloc ?_);refine aK (wpAny_layCells _ (fun n k c=>rfl) scope.names closure _ _ ?_);rw[show({s with heap:=s.heap.push {cls:= .type "dict",data:= .dict #[]} }:aI).heap.objs.size=s.heap.objs.size+1 from cH ..];rw[x5];exact aK (bH (bH h))
theorem wD{sc:ku}:∀{names:List (Str×jd)} {x:Str} {k:jd},
  (names.map fun(n,k)=>if(k==nP&&sc.kind== .function&&sc.names.lookup n==some .cell) then(n,F5) else(n,k)).lookup x=some k->
  ∃k',names.lookup x=some k'/\(k=k'\/(k'= .free/\k= .cell))
 |[],_,_,h=>by simp at h
 |(n,k₀)::r,x,k,h=>by
  have ih:=@wD sc r x k;have h':gq x ((if(k₀==nP&&sc.kind== .function&&sc.names.lookup n==some .cell)=true then(n,F5) else(n,k₀))::(r.map _))=some k:=h;cases hx:x==n with
  |true=>
   simp only[jf,hx];by_cases hc:(k₀==nP&&sc.kind== .function&&sc.names.lookup n==some .cell)=true
   ·rw[if_pos hc] at h';simp only[jf,hx] at h';cases h';simp only[aW,beq_iff_eq] at hc;exact⟨k₀,rfl,.inr ⟨hc.1.1,rfl⟩⟩
   ·rw[if_neg hc] at h';simp only[jf,hx] at h';cases h';exact⟨_,rfl,.inl rfl⟩
  |false=>
   simp only[jf,hx];by_cases hc:(k₀==nP&&sc.kind== .function&&sc.names.lookup n==some .cell)=true
   ·rw[if_pos hc] at h';simp only[jf,hx] at h';exact ih h'
   ·rw[if_neg hc] at h';simp only[jf,hx] at h';exact ih h'
structure Lz(N:List Str)(sc scope:ku)(own:List (Str×Nat)):Prop where
 kind:scope.kind= .function
 uniq:∀y∈scope.names,scope.names.lookup y.1=some y.2
 ix:∀p∈own,N[p.2]?=some p.1
 free:∀y∈scope.names,y.2= .free->sc.names.lookup y.1=some .cell\/sc.names.lookup y.1=some .free
 own:∀y∈scope.names,y.2= .local\/y.2= .cell->y.1∈own.map (·.1)\/y.1∉N
def wipe(σ:St):List Nat->St
 |[]=>σ
 |v::vs=>(wipe σ vs).set v none
theorem vL(σ:St):∀vs:List Nat,(wipe σ vs).length=σ.length
 |[]=>rfl
 |v::vs=>by unfold wipe;rw[TY,vL σ vs]
theorem A0{σ:St}{i:Nat}{x:V}:∀{vs:List Nat},(wipe σ vs)[i]?=some (some x)->σ[i]?=some (some x)/\i∉vs
 |[],h=>⟨h,by simp⟩
 |v::vs,h=>by
  unfold wipe at h;by_cases hi:v=i
  ·subst hi;by_cases hv:v<(wipe σ vs).length
   ·rw[vC hv] at h;cases h
   ·rw[fZ (by simpa using hv)] at h;cases h
  ·rw[xZ hi] at h;obtain⟨h1,h2⟩:=A0 h;exact⟨h1,by simp only[az,not_or];exact⟨fun e=>hi e.symm,h2⟩⟩
abbrev Cx.JK(X:Cx)(s:aI)(H:Hp)(scope:ku)(mG:Env)(fp:List Addr):Cx:={X with Hl:=s,H_0:=H,env:=mG,outer:=X.stack,ex:=fp,fn:=fun x=>scope.names.lookup x==some .cell,pn:=[],xe:=fun _ _=>False}
section
variable{X:Cx}{pins:List (Addr×Obj)}{σ:St}{H:Hp}{s:aI}
theorem Lp{scope:ku}{own:List (Str×Nat)}{fp:List Addr}(I:Inv X pins σ H s)(ok:Lz X.N X.env.scope scope own)(hN:X.N.Nodup)(YS:∀b∈fp,Dy X pins H b/\b<s.heap.objs.size):
  Inv (X.JK s H scope (l9 scope (eU (s.heap.objs.size+1) scope.names (gd X.env.cells scope.names [])) s.heap.objs.size X.env) fp) [] (wipe σ (own.map (·.2))) H {s with heap:=t5 (s.heap.push {cls:= .type "dict",data:= .dict #[]}) scope.names}:=by
 have HH:∀y∈scope.names,y.2= .free->∃c,X.env.cells.lookup y.1=some c:=fun y hy e=>by
  rcases ok.free y hy e with k|k
  ·exact I.ok.has _ (.inl k)
  ·exact I.ok.has _ (.inr k)
 generalize K4:l9 scope (eU (s.heap.objs.size+1) scope.names (gd X.env.cells scope.names [])) s.heap.objs.size X.env=mG;have kp:∀b o,s.heap.get? b=some o->(t5 (s.heap.push {cls:= .type "dict",data:= .dict #[]}) scope.names).get? b=some o:=fun b o e=>zk _ _ _ _ (ay _ e);have hL:mG.locals=s.heap.objs.size:=by rw[<-K4];rfl
 have DN:mG.cells=eU (s.heap.objs.size+1) scope.names (gd X.env.cells scope.names []):=by rw[<-K4];rfl
 have hsc:mG.scope=ac_ scope X.env.scope:=by rw[<-K4];rfl
 rw[<-cH s.heap {cls:= .type "dict",data:= .dict #[]}] at DN;have cm:∀{y c},(y,c)∈gd X.env.cells scope.names []->X.env.cells.lookup y=some c/\c<s.heap.objs.size:=fun{y c} hm=>by
  rcases rW hm with hm|⟨h1,rfl⟩
  ·cases hm
  ·obtain⟨c,hc⟩:=HH _ h1 rfl;rw[hc];obtain⟨w,z⟩:=I.cell _ _ hc;exact⟨rfl,z.lt⟩
 have mem:∀{y c},mG.cells.lookup y=some c->(X.env.cells.lookup y=some c/\c<s.heap.objs.size)\/(s.heap.objs.size+1<=c/\Tc (t5 (s.heap.push {cls:= .type "dict",data:= .dict #[]}) scope.names) c none):=fun{y c} e=>by
  rw[DN] at e;rcases tU (cJ e) with hm|⟨_,h2,h3⟩
  ·exact .inl (cm hm)
  ·rw[cH] at h2;exact .inr ⟨h2,h3⟩
 have look:∀{y},scope.names.lookup y=some .free->∃c,mG.cells.lookup y=some c/\X.env.cells.lookup y=some c:=fun{y} hl=>by
  have hy:(y,nP)∈scope.names:=cJ hl;obtain⟨c',e'⟩:=mem_lookup (xk (names:=scope.names) (n:=(s.heap.push {cls:= .type "dict",data:= .dict #[]}).objs.size) (wQ (cells:=X.env.cells) (acc:=[]) hy));rw[<-DN] at e';refine⟨c',e',?_⟩;rw[DN] at e';rcases tU (cJ e') with hm|⟨h1,_,_⟩
  ·exact(cm hm).1
  ·have:=ok.uniq _ h1;rw[hl] at this;cases this
 have okB:(X.JK s H scope mG fp).Ok:=by
  refine⟨I.ok.mod,by show mG.scope.kind=_;rw[hsc];exact ok.kind,by show mG.globals=_;rw[<-K4];exact I.ok.glob,by show mG.builtins=_;rw[<-K4];exact I.ok.blt,by show s.heap.objs.size<=mG.locals;rw[hL];exact aL _,
   fun y z c e1 e2=>?_,fun y hy=>?_,fun y c z e=>?_,I.ok.hd,I.ok.frames,.inl rfl,fun b hb=>⟨?_,fun y c e z=>?_⟩,I.bs,aD I.ok.TK I.sz,fun b o e hb=>?_,fun b hb z=>?_,I.stack,I.NA⟩
  ·have e1:mG.cells.lookup y=some c:=e1;have e2:mG.cells.lookup z=some c:=e2;rw[DN] at e1 e2;refine BB (fun p hp=>?_) (fun y z c a b=>I.ok.inj y z c (cm a).1 (cm b).1) (cJ e1) (cJ e2);rw[cH];exact fP (cm (y:=p.1) (c:=p.2) hp).2
  ·show ∃c,mG.cells.lookup y=some c;have key:∀k,mG.kindOf y=some k->(k= .cell\/k= .free)->∃c,mG.cells.lookup y=some c:=fun k hk hk'=>by
    unfold Env.kindOf at hk;rw[hsc] at hk;obtain⟨k',e,r⟩:=wD hk;have:k'= .cell\/k'= .free:=by
     rcases r with rfl|⟨rfl,_⟩
     ·exact hk'
     ·exact .inr rfl
    rcases this with rfl|rfl
    ·obtain⟨c,hm⟩:=BC (n:=(s.heap.push {cls:= .type "dict",data:= .dict #[]}).objs.size) (acc:=gd X.env.cells scope.names []) (cJ e);obtain⟨c',e'⟩:=mem_lookup hm;exact⟨c',by rw[DN];exact e'⟩
    ·obtain⟨c,h1,_⟩:=look e;exact⟨c,h1⟩
   rcases hy with hy|hy
   ·exact key _ hy (.inl rfl)
   ·exact key _ hy (.inr rfl)
  ·have z:(scope.names.lookup y==some F5)=true:=z;have z:scope.names.lookup y=some .cell:=by simpa using z
   have e:mG.cells.lookup y=some c:=e;rw[DN] at e;rcases tU (cJ e) with hm|⟨_,h2,_⟩
   ·rcases rW hm with hm|⟨h1,_⟩
    ·cases hm
    ·have q:=ok.uniq _ h1;rw[z] at q;cases q
   ·rw[cH] at h2;exact t6 h2
  ·show b≠mG.locals;rw[hL];exact b9 (YS b hb).2
  ·have e:mG.cells.lookup y=some c:=e;rcases mem e with⟨h1,_⟩|⟨h1,_⟩
   ·exact(YS b hb).1.2.2.2.2.1 y c h1 z
   ·have h2:s.heap.objs.size+1<=b:=by rw[<-z];exact h1
    exact absurd (bN (YS b hb).2 (t6 h2)) (d9 _)
  ·rcases(YS b hb).1.2.2.2.1 with z|z
   ·exact I.ok.Rw b o e z
   ·exact absurd (bN (bc e) (aD I.ok.TK z)) (d9 _)
  ·rcases az.mp (I.Mo b z) with z|z
   ·exact(YS b hb).1.2.1 z
   ·exact(YS b hb).1.2.2.1 z
 refine⟨okB,rfl,I.bare,Un.kept kp,⟨fun _=>none,?_,fun i y av e1 e2 e3=>?_⟩,fun y c e=>?_,?_,fun y c e=>?_,fun p hp=>?_,I.fR.kept kp,by rw[vL];exact I.len⟩
 ·show Heap.Ns _ mG.locals _;rw[hL];exact Heap.Ns.keeps (Heap.Ns.new ..) fun b o e=>zk _ _ _ _ e
 ·obtain⟨e2,tN⟩:=A0 e2;have hfr:scope.names.lookup y=some .free/\(mG.kindOf y=some .cell\/mG.kindOf y=some .free):=by
   have key:∀k,mG.scope.names.lookup y=some k->k= .local\/k= .cell\/k= .free->scope.names.lookup y=some .free/\(mG.kindOf y=some .cell\/mG.kindOf y=some .free):=fun k hk hk'=>by
    have hk0:=hk;rw[hsc] at hk;obtain⟨k',e,r⟩:=wD hk;have no: ¬(k'= .local\/k'= .cell):=fun hh=>by
     rcases ok.own _ (cJ e) hh with e'|e'
     ·obtain⟨p,hp,hpy⟩:=bz.mp e';have e3:=ok.ix p hp;have:p.1=y:=hpy;rw[this] at e3;exact tN (bz.mpr ⟨p,hp,Fb hN e3 e1⟩)
     ·exact e' (bB e1)
    rcases r with rfl|⟨rfl,rfl⟩
    ·rcases hk' with rfl|rfl|rfl
     ·exact absurd (.inl rfl) no
     ·exact absurd (.inr rfl) no
     ·exact⟨e,.inr hk0⟩
    ·exact⟨e,.inl hk0⟩
   have e3:YZ mG.scope y:=e3;rcases e3 with e3|e3|e3
   ·exact key _ e3 (.inl rfl)
   ·exact key _ e3 (.inr (.inl rfl))
   ·exact key _ e3 (.inr (.inr rfl))
  obtain⟨m,hn,hl⟩:=I.loc;have adU:YZ X.env.scope y:=(ok.free _ (cJ hfr.1) rfl).elim (fun k=>.inr (.inl k)) (fun k=>.inr (.inr k));obtain⟨w,r,q⟩:=hl i y av e1 e2 adU;refine⟨w,r,.inr ⟨hfr.2,?_⟩⟩;obtain⟨c,h1,h2⟩:=look hfr.1;rcases q with⟨k,_⟩|⟨_,c',e',z⟩
  ·have k:X.env.scope.names.lookup y=some .local:=k;rcases ok.free _ (cJ hfr.1) rfl with k'|k'<;>rw[show X.env.scope.names.lookup y=_ from k'] at k<;>cases k
  ·rw[h2] at e';cases e';exact⟨c,h1,z.keeps kp⟩
 ·have e:mG.cells.lookup y=some c:=e;rcases mem e with⟨h1,_⟩|⟨_,z⟩
  ·obtain⟨w,z⟩:=I.cell y c h1;exact⟨w,z.keeps kp⟩
  ·exact⟨_,z⟩
 ·show H mG.locals=none;rw[hL];exact I.fR.fresh (aL _)
 ·have e:mG.cells.lookup y=some c:=e;rcases mem e with⟨h1,_⟩|⟨h1,_⟩
  ·exact I.wK y c h1
  ·exact I.fR.fresh (t6 h1)
 ·exact absurd (show p∈([]:List (Addr×Obj))++[] from hp) (by simp)
theorem Yg{E:ao->aI->Prop}{D:Addr}{xs:List V}{y:V}{v:ao}{Q:ao->aI->Prop}(I:Inv X pins σ H s)(hD:H D=some (.lst xs))(hz:xs.length<aG)(r:RelV y v)
  (h:∀s',Inv X pins σ (upd H D (.lst (xs++[y]))) s'->Q .none s'):bF (bS X.prog X.w) X.A (call (.builtin "list.append") [.ref D,v]) Q E s:=by
 obtain⟨hz',its,n,ri,e⟩:=I.fR D _ hD;have hl:=ri.length;refine append_at (hsz:=by rw[bu];omega) e fun h' sb N2=>?_;refine h {s with heap:=h'} (I.write (t':=s.toks) (by rw[hD];trivial) (.inl rfl) (fun b u hb q=>(sb.2 b hb).trans q) ⟨_,N2⟩ ⟨by rw[aJ];exact hz,its++[v],n+1,ri.append (.cons r .nil),?_⟩);rw[N2];simp
def PTs(X:Cx)(ifs:List Expr)(t:TT):Prop:=
 ∀(pins:List (Addr×Obj)) (s:aI) (σ:St) (H:Hp) (Q:Bool->Hp->Prop),Inv X pins σ H s->t σ H Q->
  bF (bS X.prog X.w) X.A (forIn ifs true fun c r=>if r=true then do let ok <-Wu c X.env (eval c X.env);pure (t_ ok) else pure (t_ r)) (TP X pins σ Q) X.xe s
def ZC:TT:=fun _ H Q=>Q true H
theorem IQ:PTs X [] ZC:=fun _ _ _ H _ I h=>wpAny_tests_nil ⟨H,I,h⟩
theorem pP{c:Expr}{t:TT}(h:PT X c t):PTs X [c] t:=fun pins s σ H Q I hw=>wpAny_tests_one (h pins s σ H Q I hw)
end
theorem OL{α:Type}{t:Sem α}{Q Q':α->aI->Prop}{M:Yu}{A:dw}{E:ao->aI->Prop}{s:aI}(h:bF M A t Q (fun _ _=>False) s)(hQ:∀a s,Q a s->Q' a s):bF M A t Q' E s:=iI h hQ fun _ _ z=>fL z
theorem JD{prog:bq}{w:cf}{A:dw}{R:L7->aI->Prop}{s:aI}{elt target iter:Expr}{ifs:List Expr}{scope:ku}{pos:Pos}{it acc:ao}{env:Env}(I:Nat->aI->Prop)
  (turn:∀n s,I n s->bF (bS prog w) A (D7 it) (fun r s₁=>match r with
   |none=>R (.ok .next) s₁
   |some v=>bF (bS prog w) A (zl target it v) (fun _ s₁'=>bF (bS prog w) A (Ww target env v) (fun _ s₂=>
     bF (bS prog w) A (forIn ifs true fun c r=>if r=true then do let ok <-Wu c env (eval c env);pure (t_ ok) else pure (t_ r)) (fun ok s₃=>
      if ok=true then bF (bS prog w) A (eval elt env) (fun x s₄=>
       bF (bS prog w) A (call (.builtin "list.append") [acc,x]) (fun _ s₅=>∃m,m<n/\I m s₅) (LC (bS prog w) A env fun e s'=>R (.error e) s') s₄) (LC (bS prog w) A env fun e s'=>R (.error e) s') s₃
      else ∃m,m<n/\I m s₃) (LC (bS prog w) A env fun e s'=>R (.error e) s') s₂) (LC (bS prog w) A env fun e s'=>R (.error e) s') s₁') (LC (bS prog w) A env fun e s'=>R (.error e) s') s₁) (LC (bS prog w) A env fun e s'=>R (.error e) s') s)
  (n:Nat)(h:I n s):
  sP (bS prog w) A (.compLoop (.ListComp elt [⟨target,iter,ifs,0⟩] scope pos) 0 it acc env) R s:=by
 refine codeAny_loop rfl I (fun n s hI=>?_) n h;show bF _ A ((compTurn (.ListComp elt [⟨target,iter,ifs,0⟩] scope pos) 0 it acc env).onRaise (fun x=>do noteFrame x env;theTreesLotGoes x)) _ _ s;refine wpAny_noted ?_;rw[compTurn_list];refine aK (DA (aK (iI (turn n s hI) (fun r s₁ h₁=>?_) fun _ _ h'=>h')));cases r with
 |none=>exact bH h₁
 |some v=>
  refine aK (iI h₁ (fun _ s₁' h₁'=>?_) fun _ _ h'=>h');refine aK (iI h₁' (fun _ s₂ h₂=>aK (iI h₂ (fun ok s₃ h₃=>?_) fun _ _ h'=>h')) fun _ _ h'=>h');cases ok with
  |false=>exact bH ⟨rfl,h₃⟩
  |true=>
   exact aK (aK (iI h₃ (fun x s₄ h₄=>aK (iI h₄ (fun _ s₅ h₅=>bH (bH ⟨rfl,h₅⟩)) fun _ _ h'=>h')) fun _ _ h'=>h'))
section
variable{X:Cx}
def tLc(wi:TI)(g:TG)(tt:TT)(te:TE)(vs:List Nat):TE:=fun σ H Q=>wi σ H fun J H1=>∀D,H1 D=none->∃W:Nat->Nat->Hp->Prop,(∃m,W 0 m (upd H1 D (.lst [])))/\∀i m H,W i m H->
 (J.stop i H/\Q (.ref D) H)\/(J.go i H/\∃Nx:Hp->Prop,(∀H',Nx H'->∃m',m'<m/\W (i+1) m' H')/\∀x H',J.QI i H x H'->g x (wipe σ vs) H' fun σ2 H2=>wipe σ2 vs=wipe σ vs/\tt σ2 H2 fun b H3=>
  if b=true then te σ2 H3 fun y H4=>∃acc,H4 D=some (.lst acc)/\acc.length<aG/\Nx (upd H4 D (.lst (acc++[y]))) else Nx H3)
theorem NT{pins:List (Addr×Obj)}{s:aI}{σ:St}{H:Hp}{Q:VK}{elt tg iter:Expr}{ifs:List Expr}{scope:ku}{own:List (Str×Nat)}{pos pos':Pos}{wi:TI}{g:TG}{tt:TT}{te:TE}{use:Option (ao->Sem Unit)}{Qf:ao->aI->Prop}
  (hc:X.calm=true)(hN:X.N.Nodup)(I:Inv X pins σ H s)(hi:PI X tg iter wi)(ok:Lz X.N X.env.scope scope own)
  (hg:∀(s:aI) (H:Hp) (C:Addr) (cl:List (Str×Addr)) (fp:List Addr),PG (X.JK s H scope (l9 scope cl C X.env) fp) tg g)(ht:∀(s:aI) (H:Hp) (C:Addr) (cl:List (Str×Addr)) (fp:List Addr),PTs (X.JK s H scope (l9 scope cl C X.env) fp) ifs tt)
  (he:∀(s:aI) (H:Hp) (C:Addr) (cl:List (Str×Addr)) (fp:List Addr),PE (X.JK s H scope (l9 scope cl C X.env) fp) elt te)(hs:∀x,foldedSetIterable iter X.env x=pure x)
  (h:tLc wi g tt te (own.map (·.2)) σ H Q)
  (hRR:∀D C s' m H',Inv X pins σ H' s'->Q (.ref D) H'->s'.heap.Ns C m->Dy X pins H' C->compPost (bS X.prog X.w) X.A X.xe use Qf (.ref D) C (.ok .next) s'):
  bF (bS X.prog X.w) X.A (comprehension (.ListComp elt [⟨tg,iter,ifs,0⟩] scope pos) scope X.env pos' (newList []) false (eval iter X.env) use) Qf X.xe s:=by
 have HH:∀y∈scope.names,y.2= .free->∃c,X.env.cells.lookup y.1=some c:=fun y hy e=>by
  rcases ok.free y hy e with k|k
  ·exact I.ok.has _ (.inl k)
  ·exact I.ok.has _ (.inr k)
 refine wpAny_comprehension_free (use:=use) rfl hs (MY HH) ok.kind (fun y hy e=>by rw[ok.uniq y hy,e])
  (gI (hi pins s σ H _ I h) fun xv s1 hx=>gI hx fun itv s2 h2=>?_)
 obtain⟨it,fp,tn,J,H2,e,I2,T,YA,f2,q⟩:=h2;subst e;refine wpAny_newObj_type (KJ ?_) (by show 0<=aG;decide);generalize hD:s2.heap.objs.size=D;have hDn:H2 D=none:=I2.fR.fresh (CI hD);obtain⟨W,⟨m0,w0⟩,turn⟩:=q D hDn;generalize hs3:({s2 with heap:=s2.heap.push {cls:= .type "list",data:= .seq ([]:List ao).toArray} }:aI)=s3;have I3:Inv X pins σ (upd H2 D (.lst [])) s3:=by
  rw[<-hs3];refine I2.laid (t':=s2.toks) (fun b o e=>ay _ e) (CI hD) ⟨aT _,[],0,.nil,?_⟩;rw[<-hD];exact bt _ rfl
 have h3:s3.heap=s2.heap.push {cls:= .type "list",data:= .seq ([]:List ao).toArray}:=by rw[<-hs3]
 have sz:∀b∈fp,b<s2.heap.objs.size:=fun b hb=>by
  obtain⟨o,e,_⟩:=T.obj _ _ YA b hb;exact bc e
 have f3:∀b∈fp,Dy X pins (upd H2 D (.lst [])) b/\b<s3.heap.objs.size:=fun b hb=>by
  have qY:=sz b hb;refine⟨⟨?_,(f2 b hb).2⟩,by rw[h3,cH];exact fP qY⟩;rw[aA (by rw[<-hD];exact b9 qY)];exact(f2 b hb).1
 have Kk:tn 0 s3.heap:=T.keep _ _ _ YA fun b _ o e=>by rw[h3];exact ay _ e
 have I4:=Lp I3 ok hN f3;have pg:=hg s3 (upd H2 D (.lst [])) s3.heap.objs.size (eU (s3.heap.objs.size+1) scope.names (gd X.env.cells scope.names [])) fp;have pt:=ht s3 (upd H2 D (.lst [])) s3.heap.objs.size (eU (s3.heap.objs.size+1) scope.names (gd X.env.cells scope.names [])) fp;have pe:=he s3 (upd H2 D (.lst [])) s3.heap.objs.size (eU (s3.heap.objs.size+1) scope.names (gd X.env.cells scope.names [])) fp;show sP _ _ (.compStart (.ListComp elt [⟨tg,iter,ifs,0⟩] scope pos) 0 (.ref it) (.ref D) (l9 scope (eU (s3.heap.objs.size+1) scope.names (gd X.env.cells scope.names [])) s3.heap.objs.size X.env)) (compPost (bS X.prog X.w) X.A X.xe use Qf (.ref D) s3.heap.objs.size) {s3 with heap:=t5 (s3.heap.push {cls:= .type "dict",data:= .dict #[]}) scope.names};have nfp:∀b∈fp,(upd H2 D (.lst [])) b=none:=fun b hb=>(f3 b hb).1.1;generalize hce:l9 scope (eU (s3.heap.objs.size+1) scope.names (gd X.env.cells scope.names [])) s3.heap.objs.size X.env=ce at I4 pg pt pe|-
 have cL:ce.locals=s3.heap.objs.size:=by subst hce;rfl
 generalize hH3:upd H2 D (.lst [])=H3 at I3 I4 pg pt pe w0 nfp f3;generalize hs4:({s3 with heap:=t5 (s3.heap.push {cls:= .type "dict",data:= .dict #[]}) scope.names}:aI)=s4 at I4|-
 have st4:tn 0 s4.heap:=T.keep _ _ _ Kk fun b _ o e=>by rw[<-hs4];exact zk _ _ _ _ (ay _ e)
 have Mp:∀{σ':St} {H':Hp} {s':aI},Inv (X.JK s3 H3 scope ce fp) [] σ' H' s'->(∀b∈fp,H' b=none)->∀b∈fp,Dy (X.JK s3 H3 scope ce fp) [] H' b:=fun{σ' H' s'} I' hn b hb=>
  ⟨hn b hb,(I'.ok.exf b hb).1,I'.ok.Sq b hb,.inl hb,fun x c e=>(I'.ok.exf b hb).2 x c e,fun p hp=>absurd (show p∈([]:List (Addr×Obj))++[] from hp) (by simp)⟩
 have loop:sP (bS X.prog X.w) X.A (.compLoop (.ListComp elt [⟨tg,iter,ifs,0⟩] scope pos) 0 (.ref it) (.ref D) ce) (compPost (bS X.prog X.w) X.A X.xe use Qf (.ref D) s3.heap.objs.size) s4:=by
  refine JD (fun n s'=>∃i H',Inv (X.JK s3 H3 scope ce fp) [] (wipe σ (own.map (·.2))) H' s'/\tn i s'.heap/\(∀b∈fp,H' b=none)/\W i n H') ?_ m0 ⟨0,H3,I4,st4,nfp,w0⟩;rintro n s5 ⟨i,H5,I5,Uq,n5,w5⟩;rcases turn i n H5 w5 with⟨stop,qq⟩|⟨go,Nx,hNx,step⟩
  ·have td:=T.done (X.JK s3 H3 scope ce fp) rfl rfl rfl hc i [] s5 _ H5 (fun _ _=>False) I5 (Mp I5 n5) Uq stop;refine OL td fun r s6 ⟨hr,I6⟩=>?_;subst hr;have I7:Inv X pins σ H5 s6:=I3.abf (ch:=fp) I6.os I6.base I6.fR I6.bare fun b hb=>⟨(f3 b hb).1.2.2.2.1,(f3 b hb).1.2.1,(f3 b hb).1.2.2.2.2.1,(f3 b hb).1.2.2.2.2.2⟩;have nC:H5 s3.heap.objs.size=none:=by
    have z:H5 ce.locals=none:=I6.free;rw[cL] at z;exact z
   obtain⟨m,hn,_⟩:=I6.loc;have hn:s6.heap.Ns ce.locals m:=hn;rw[cL] at hn;exact hRR D s3.heap.objs.size s6 m H5 I7 qq hn (I3.MQ (aL _) nC)
  ·have ti:=T.item (X.JK s3 H3 scope ce fp) rfl rfl rfl hc i [] s5 _ H5 (fun _ _=>False) I5 (Mp I5 n5) Uq go;refine OL ti fun r s6 ⟨u,hr,h6⟩=>?_;subst hr;refine OL h6 fun _ s7 ⟨x,H7,I7,r7,y7,st7,n7⟩=>?_;have I7':=I7.pinned (Mp I7 n7) (T.obj _ _ st7);refine OL (pg _ s7 _ H7 x u _ I7' r7 (step x H7 y7)) fun _ s8 ⟨σ8,H8,I8,hw8,q8⟩=>?_;refine OL (pt _ s8 σ8 H8 _ I8 q8) fun b s9 ⟨H9,I9,q9⟩=>?_;have fin:∀{s':aI} {H':Hp},Inv (X.JK s3 H3 scope ce fp) ([]++EO fp s7.heap) σ8 H' s'->Nx H'->∃m,m<n/\∃i H',Inv (X.JK s3 H3 scope ce fp) [] (wipe σ (own.map (·.2))) H' s'/\tn i s'.heap/\(∀b∈fp,H' b=none)/\W i m H':=fun{s' H'} I' nx=>by
    obtain⟨m',hm,w'⟩:=hNx H' nx;have ZT:∀b∈fp,∀o,s7.heap.get? b=some o->s'.heap.get? b=some o/\H' b=none:=fun b hb o e=>
     let z:=I'.pin (b,o) (dB _ (dB _ (y3 hb e)))
     ⟨z.1,z.2.1⟩
    have hl:(wipe σ (own.map (·.2))).length=σ8.length:=by rw[<-hw8,vL]
    refine⟨m',hm,i+1,H',(I'.zz (pins:=[])).weak hl (fun j v e=>?_),T.keep _ _ _ st7 fun b hb o e=>(ZT b hb o e).1,fun b hb=>?_,w'⟩
    ·rw[<-hw8] at e;exact(A0 e).1
    ·obtain⟨o,e,_⟩:=T.obj _ _ st7 b hb;exact(ZT b hb o e).2
   cases b with
   |false=>
    simp only[AU,if_false] at q9|-
    exact fin I9 q9
   |true=>
    simp only[if_true] at q9|-
    refine OL (pe _ s9 σ8 H9 _ I9 q9) fun z s10 ⟨yv,H10,I10,r10,acc,aeQ,adN,nx⟩=>?_;exact Yg (X:=X.JK s3 H3 scope ce fp) I10 aeQ adN r10 fun s11 I11=>fin I11 nx
 exact codeAny_compStart_list loop (T.self X.A 0 _ _ _ st4 loop)
theorem z0{elt tg iter:Expr}{ifs:List Expr}{scope:ku}{own:List (Str×Nat)}{pos:Pos}{wi:TI}{g:TG}{tt:TT}{te:TE}(hc:X.calm=true)(hN:X.N.Nodup)(hi:PI X tg iter wi)(ok:Lz X.N X.env.scope scope own)
  (hg:∀(s:aI) (H:Hp) (C:Addr) (cl:List (Str×Addr)) (fp:List Addr),PG (X.JK s H scope (l9 scope cl C X.env) fp) tg g)(ht:∀(s:aI) (H:Hp) (C:Addr) (cl:List (Str×Addr)) (fp:List Addr),PTs (X.JK s H scope (l9 scope cl C X.env) fp) ifs tt)
  (he:∀(s:aI) (H:Hp) (C:Addr) (cl:List (Str×Addr)) (fp:List Addr),PE (X.JK s H scope (l9 scope cl C X.env) fp) elt te)(hs:∀x,foldedSetIterable iter X.env x=pure x:=by intro _;rfl):
  PE X (.ListComp elt [⟨tg,iter,ifs,0⟩] scope pos) (tLc wi g tt te (own.map (·.2))):=by
 intro pins s σ H Q I h;rw[eval_ListComp];refine NT hc hN I hi ok hg ht he hs h fun D C s' m H' I' q hn f=>⟨m,hn,fun Qs sb=>?_⟩;obtain⟨f0,f1,f2,f3,f4,f5⟩:=f;exact⟨.ref D,H',I'.turned (t':=s'.toks) (fun b o hb e=>(sb.2 b hb).trans e) f0 f1 f3 f4 f5,rfl,q⟩
theorem EK{i:Nat}{y:Str}{py:Pos}{elt tg iter:Expr}{ifs:List Expr}{scope:ku}{own:List (Str×Nat)}{pos ZL:Pos}{wi:TI}{g:TG}{tt:TT}{te:TE}(hc:X.calm=true)(hN:X.N.Nodup)(hy:X.N[i]?=some y)(hyl:X.env.scope.names.lookup y=some .local)
  (hsw:t4 (.ListComp elt [⟨tg,iter,ifs,0⟩] scope pos) (some (.Name y py)) ZL.line X.env=pure true)(hi:PI X tg iter wi)(ok:Lz X.N X.env.scope scope own)
  (hg:∀(s:aI) (H:Hp) (C:Addr) (cl:List (Str×Addr)) (fp:List Addr),PG (X.JK s H scope (l9 scope cl C X.env) fp) tg g)(ht:∀(s:aI) (H:Hp) (C:Addr) (cl:List (Str×Addr)) (fp:List Addr),PTs (X.JK s H scope (l9 scope cl C X.env) fp) ifs tt)
  (he:∀(s:aI) (H:Hp) (C:Addr) (cl:List (Str×Addr)) (fp:List Addr),PE (X.JK s H scope (l9 scope cl C X.env) fp) elt te)(hs:∀x,foldedSetIterable iter X.env x=pure x:=by intro _;rfl):
  PS X (.Assign [.Name y py] (.ListComp elt [⟨tg,iter,ifs,0⟩] scope pos) ZL) (Ue (tLc wi g tt te (own.map (·.2))) (FD i)):=by
 intro pins s σ H D I h;rw[exec_Assign_Name_used _ _ _ _ hsw];refine aK (DA (aK ?_));show bF _ X.A (do let _ <-comprehension (.ListComp elt [⟨tg,iter,ifs,0⟩] scope pos) scope X.env (firstIterPos [⟨tg,iter,ifs,0⟩] pos) (newList []) false (eval iter X.env) (some (Ww (.Name y py) X.env))) _ _ s;have h:tLc wi g tt te (own.map (·.2)) σ H (fun x H1=>FD i x σ H1 D.nx):=h;refine aK (gI (NT (Qf:=fun _ s'=>SP X pins D .next s') hc hN I hi ok hg ht he hs h fun L C s' m H' I' q hn f=>?_) fun _ s' hq=>bH (bH hq));show bF _ _ (Ww (.Name y py) X.env (.ref L)) _ _ _;refine Yn (Hg (v:=V.ref L) I' hN hy (.inl hyl) rfl (fun s2 I2 ⟨a,sb,ha⟩=>?_) (.inr hyl));obtain⟨f0,f1,f2,f3,f4,f5⟩:=f;have haC:C≠a:=by
  rcases ha with z|z
  ·rw[z];exact f1
  ·exact fun e=>f4 y a z e.symm
 refine⟨m,hn.sameBut sb haC,fun h3 sb3=>?_⟩;exact⟨_,H',I2.turned (t':=s2.toks) (fun b o hb e=>(sb3.2 b hb).trans e) f0 f1 f3 f4 f5,q⟩
theorem Ik{elt:Expr}{gs:List Comprehension}{scope:ku}{pos py:Pos}{y:Str}{l:Nat}{env:Env}(hk:env.scope.kind= .function)(hy:env.scope.names.lookup y=some .local)(hl:(py.line==pos.line)=true)
  (ha:(scope.names.any fun(n,k)=>n==y&&(k== .local||k== .cell))=false):t4 (.ListComp elt gs scope pos) (some (.Name y py)) l env=pure true:=by
 have ky:env.kindOf y=some .local:=hy;have hb:env.blockKind= .function:=by unfold Env.blockKind;rw[hk];rfl
 unfold t4;simp only[hb,ky,ha,Expr.pos,hl];rfl
end
theorem oB{K:aq}{a:Addr}{xs:List V}{g:TG}{tt:TT}{te:TE}{vs:List Nat}{σ:St}{H1:Hp}{D:Addr}{Qd:Hp->Prop}(Pv:Nat->Hp->Prop)(h0:Pv 0 (upd H1 D (.lst [])))(hl:∀i H,i<=xs.length->Pv i H->cF K H a xs)
  (hs:∀i x H,xs[i]?=some x->Pv i H->g x (wipe σ vs) H fun σ2 H2=>wipe σ2 vs=wipe σ vs/\tt σ2 H2 fun b H3=>
   if b=true then te σ2 H3 fun y H4=>∃acc,H4 D=some (.lst acc)/\acc.length<aG/\Pv (i+1) (upd H4 D (.lst (acc++[y]))) else Pv (i+1) H3)(hd:∀H,Pv xs.length H->Qd H):
  ∃W:Nat->Nat->Hp->Prop,(∃m,W 0 m (upd H1 D (.lst [])))/\∀i m H,W i m H->
   ((Wk K a).stop i H/\Qd H)\/((Wk K a).go i H/\∃Nx:Hp->Prop,(∀H',Nx H'->∃m',m'<m/\W (i+1) m' H')/\∀x H',(Wk K a).QI i H x H'->g x (wipe σ vs) H' fun σ2 H2=>wipe σ2 vs=wipe σ vs/\tt σ2 H2 fun b H3=>
    if b=true then te σ2 H3 fun y H4=>∃acc,H4 D=some (.lst acc)/\acc.length<aG/\Nx (upd H4 D (.lst (acc++[y]))) else Nx H3):=by
 refine⟨fun i m H=>m=xs.length -i/\i<=xs.length/\Pv i H,⟨xs.length,by simp,aT _,h0⟩,?_⟩;rintro i m H ⟨rfl,hi,p⟩;have q:=hl i H hi p;by_cases qY:i<xs.length
 ·refine .inr ⟨⟨xs,xs[i],q,by simp[qY]⟩,Pv (i+1),fun H' p'=>⟨xs.length -(i+1),by omega,rfl,qY,p'⟩,fun x H' y=>?_⟩;obtain⟨e,y⟩:=y;subst e;exact hs i x _ (y xs q) p
 ·have e:i=xs.length:=by omega
  subst e;exact .inl ⟨⟨xs,q,aL _⟩,hd H p⟩
def abi(N:List Str)(sc scope:ku)(own:List (Str×Nat)):Bool:=
 (match scope.kind with|.function=>true|_=>false)&&(scope.names.all fun y=>decide (scope.names.lookup y.1=some y.2))&&(own.all fun p=>decide (N[p.2]?=some p.1))&&
  (scope.names.all fun y=>match y.2 with
   |.free=>(match sc.names.lookup y.1 with|some .cell=>true|some .free=>true|_=>false)
   |.local=>decide (y.1∈own.map (·.1))||decide (y.1∉N)
   |.cell=>decide (y.1∈own.map (·.1))||decide (y.1∉N)
   |_=>true)
theorem jE{N:List Str}{sc scope:ku}{own:List (Str×Nat)}(h:abi N sc scope own=true):Lz N sc scope own:=by
 unfold abi at h;simp only[aW,gY,decide_eq_true_eq] at h;obtain⟨⟨⟨h1,h2⟩,h3⟩,h4⟩:=h;refine⟨?_,h2,h3,fun y hy e=>?_,fun y hy e=>?_⟩
 ·split at h1
  ·assumption
  ·cases h1
 ·have q:=h4 y hy;simp only[e] at q;split at q<;>first|exact .inl (by assumption)|exact .inr (by assumption)|cases q
 ·have q:=h4 y hy;rcases e with e|e<;>(simp only[e,Bool.or_eq_true,decide_eq_true_eq] at q;exact q)
section
variable{prog:bq}{w:cf}{A:dw}{R:L7->aI->Prop}{s:aI}{elt t0 i0 t1 i1:Expr}{ah1 ah0:List Expr}{scope:ku}{pos:Pos}{it acc:ao}{env:Env}
end
section
variable{X:Cx}
end
section
variable{κ:Type}[DecidableEq κ]
def iL(kvs:List (κ×V))(k:κ):Option V:=(kvs.find? fun kv=>decide (kv.1=k)).map (·.2)
def putK(kvs:List (κ×V))(k:κ)(v:V):List (κ×V):=
 if(kvs.any fun kv=>decide (kv.1=k))=true then kvs.map (fun kv=>if kv.1=k then(kv.1,v) else kv) else kvs++[(k,v)]
def pI(kvs:List (κ×V))(k:κ):List (κ×V):=kvs.filter fun kv=>decide (kv.1≠k)
theorem i7{p:κ×V}{r:List (κ×V)}{k:κ}(e:p.1=k):iL (p::r) k=some p.2:=by simp[iL,dS,e]
theorem iw{p:κ×V}{r:List (κ×V)}{k:κ}(e: ¬p.1=k):iL (p::r) k=iL r k:=by simp[iL,dS,e]
theorem mL(k:κ):∀kvs:List (κ×V),(kvs.any fun kv=>decide (kv.1=k))=(iL kvs k).isSome
 |[]=>rfl
 |p::r=>by
  rw[t9];by_cases e:p.1=k
  ·simp only[i7 e,decide_eq_true e,LK,Nh]
  ·rw[iw e,decide_eq_false e,J1];exact mL k r
theorem J'(k j:κ)(y:V):∀kvs:List (κ×V),iL (kvs.map fun kv=>if kv.1=k then(kv.1,y) else kv) j=(iL kvs j).map fun x=>if j=k then y else x
 |[]=>rfl
 |p::r=>by
  have ih:=J' k j y r;rw[bE];by_cases h:p.1=k
  ·rw[if_pos h];by_cases e:p.1=j
   ·rw[i7 (p:=(p.1,y)) e,i7 e,px,if_pos (e.symm.trans h)]
   ·rw[iw (p:=(p.1,y)) e,iw e,ih]
  ·rw[if_neg h];by_cases e:p.1=j
   ·rw[i7 (p:=p) e,i7 e,px,if_neg (fun z=>h (e.trans z))]
   ·rw[iw (p:=p) e,iw e,ih]
theorem Hf(k j:κ)(y:V):∀kvs:List (κ×V),iL kvs k=none->iL (kvs++[(k,y)]) j=if j=k then some y else iL kvs j
 |[],_=>by
  by_cases e:k=j
  ·rw[if_pos e.symm];exact i7 (p:=(k,y)) e
  ·rw[if_neg (fun z=>e z.symm)];exact iw (p:=(k,y)) e
 |p::r,hn=>by
  rw[List.cons_append];have hk: ¬p.1=k:=fun z=>by rw[i7 z] at hn;cases hn
  rw[iw hk] at hn;have ih:=Hf k j y r hn;by_cases e:p.1=j
  ·rw[i7 e,i7 e,if_neg (fun z=>hk (e.trans z))]
  ·rw[iw e,iw e,ih]
theorem Ea(kvs:List (κ×V))(k j:κ)(y:V):iL (putK kvs k y) j=if j=k then some y else iL kvs j:=by
 unfold putK;by_cases a:(kvs.any fun kv=>decide (kv.1=k))=true
 ·rw[if_pos a,J'];rw[mL] at a;by_cases e:j=k
  ·obtain⟨x,hx⟩:=lV.mp a;rw[if_pos e,e,hx,px,if_pos rfl]
  ·rw[if_neg e];cases iL kvs j with
   |none=>rfl
   |some x=>rw[px,if_neg e]
 ·rw[if_neg a];refine Hf k j y kvs ?_;rw[mL] at a;cases q:iL kvs k with
  |none=>rfl
  |some x=>rw[q] at a;exact(a rfl).elim
theorem Cm(kvs:List (κ×V))(k:κ)(v:V):(putK kvs k v).length<=kvs.length+1:=by
 unfold putK;split
 ·rw[ab];omega
 ·rw[aJ,aQ,TZ];omega
theorem Ku{kvs:List (κ×V)}{k:κ}(v:V)(h:iL kvs k=none):putK kvs k v=kvs++[(k,v)]:=by
 unfold putK;rw[mL,h];exact if_neg (by decide)
theorem uS.Bu{o:Option V}{u:Option ao}(r:uS o u):o.isSome=u.isSome:=by
 cases o with
 |none=>cases u with
  |none=>rfl
  |some _=>exact(show False from r).elim
 |some _=>cases u with
  |none=>exact(show False from r).elim
  |some _=>rfl
theorem uS.getD{o:Option V}{u:Option ao}{d:V}{d':ao}(r:uS o u)(rd:RelV d d'):RelV (o.getD d) (u.getD d'):=by
 cases o with
 |none=>cases u with
  |none=>exact rd
  |some _=>exact(show False from r).elim
 |some _=>cases u with
  |none=>exact(show False from r).elim
  |some _=>exact r
theorem KV.val{kvs:List (κ×V)}{vs:List (κ×ao)}(r:KV kvs vs)(k:κ):uS (iL kvs k) (sO vs k):=by
 unfold KV at r
 induction r with
 |nil=>exact qZ
 |@cons p q ps qs h t ih=>
  obtain⟨h1,h2⟩:=h;by_cases e:p.1=k
  ·have e':q.1=k:=h1.symm.trans e;have b:sO (q::qs) k=some q.2:=by simp[sO,dS,e']
   rw[i7 e,b];exact h2
  ·have e': ¬q.1=k:=fun z=>e (h1.trans z);have b:sO (q::qs) k=sO qs k:=by simp[sO,dS,e']
   rw[iw e,b];exact ih
theorem KV.any{kvs:List (κ×V)}{vs:List (κ×ao)}(r:KV kvs vs)(k:κ):(kvs.any fun kv=>decide (kv.1=k))=vs.any fun kv=>decide (kv.1=k):=by
 unfold KV at r
 induction r with
 |nil=>rfl
 |cons h t ih=>rw[t9,t9,ih,h.1]
theorem KV.W5{kvs:List (κ×V)}{vs:List (κ×ao)}(r:KV kvs vs)(k:κ){y:V}{u:ao}(ry:RelV y u):
  KV (kvs.map fun kv=>if kv.1=k then(kv.1,y) else kv) (vs.map fun kv=>if kv.1=k then(kv.1,u) else kv):=by
 unfold KV at r|-
 induction r with
 |nil=>exact .nil
 |@cons p q ps qs h t ih=>
  rw[bE,bE];refine .cons ?_ ih;obtain⟨h1,h2⟩:=h;by_cases e:p.1=k
  ·rw[if_pos e,if_pos (h1.symm.trans e)];exact⟨h1,ry⟩
  ·rw[if_neg e,if_neg (fun z=>e (h1.trans z))];exact⟨h1,h2⟩
theorem KV.put{kvs:List (κ×V)}{vs:List (κ×ao)}(r:KV kvs vs)(k:κ){y:V}{u:ao}(ry:RelV y u):KV (putK kvs k y) (stored vs k u):=by
 unfold putK stored;rw[r.any k];by_cases e:(vs.any fun kv=>decide (kv.1=k))=true
 ·rw[if_pos e,if_pos e];exact r.W5 k ry
 ·rw[if_neg e,if_neg e];exact Wy r ⟨rfl,ry⟩
theorem KV.drop{kvs:List (κ×V)}{vs:List (κ×ao)}(r:KV kvs vs)(k:κ):KV (pI kvs k) (without vs k):=by
 unfold KV at r|-
 unfold pI without
 induction r with
 |nil=>exact .nil
 |@cons p q ps qs h t ih=>
  obtain⟨h1,h2⟩:=h;rw[aZ,aZ];by_cases e:p.1=k
  ·have a: ¬decide (p.1≠k)=true:=by simp[e]
   have b: ¬decide (q.1≠k)=true:=by simp[h1.symm.trans e]
   rw[if_neg a,if_neg b];exact ih
  ·have e': ¬q.1=k:=fun z=>e (h1.trans z);have a:decide (p.1≠k)=true:=by simp[e]
   have b:decide (q.1≠k)=true:=by simp[e']
   rw[if_pos a,if_pos b];exact .cons ⟨h1,h2⟩ ih
theorem KV.keys{kvs:List (κ×V)}{vs:List (κ×ao)}(r:KV kvs vs):kvs.map (·.1)=vs.map (·.1):=by
 unfold KV at r
 induction r with
 |nil=>rfl
 |cons h t ih=>rw[bE,bE,ih,h.1]
theorem KV.length{kvs:List (κ×V)}{vs:List (κ×ao)}(r:KV kvs vs):kvs.length=vs.length:=G_ r
theorem Ss(kvs:List (κ×V))(k:κ):(pI kvs k).length<=kvs.length:=bh _ _
end
theorem HB{P:bq}{w:cf}{k:Key}{u:ao}(r:RelV (kV k) u):(fk P w).is k u=true:=by
 cases k with
 |inl i=>obtain⟨t,e⟩:=(show ∃t,u=j8 i t from r);subst e;exact Ci P w i t
 |inr x=>obtain⟨t,e⟩:=(show ∃t,u=CD x t from r);subst e;exact KL P w x t
theorem HC{P:bq}{w:cf}:∀{ks:List Key} {us:List ao},Vals (ks.map kV) us->ItemsAre (fk P w) ks us
 |[],_,r=>by rw[vA] at r;cases r;exact .nil
 |k::ks,_,r=>by
  rw[bE] at r;cases r with
  |cons h t=>exact .cons (HB h) (HC t)
abbrev KT(H:Hp):List (List Key×V)->List (List Key×Addr×ao)->Prop:=Paired fun p q=>p.1=q.1/\H q.2.1=some (.tup (p.1.map kV))/\RelV p.2 q.2.2
theorem KT.val{H:Hp}{kvs:List (List Key×V)}{xs:List (List Key×Addr×ao)}(r:KT H kvs xs)(k:List Key):uS (iL kvs k) ((Qg xs k).map (·.2)):=by
 induction r with
 |nil=>exact qZ
 |@cons p q ps qs h t ih=>
  obtain⟨h1,_,h2⟩:=h;by_cases e:p.1=k
  ·have e':q.1=k:=h1.symm.trans e;have b:Qg (q::qs) k=some q.2:=by simp[Qg,dS,e']
   rw[i7 e,b];exact h2
  ·have e': ¬q.1=k:=fun z=>e (h1.trans z);have b:Qg (q::qs) k=Qg qs k:=by simp[Qg,dS,e']
   rw[iw e,b];exact ih
theorem KT.W5{H:Hp}{kvs:List (List Key×V)}{xs:List (List Key×Addr×ao)}(r:KT H kvs xs)(k:List Key){y:V}{u:ao}(ry:RelV y u):
  KT H (kvs.map fun kv=>if kv.1=k then(kv.1,y) else kv) (xs.map (putAt k u)):=by
 induction r with
 |nil=>exact .nil
 |@cons p q ps qs h t ih=>
  rw[bE,bE];refine .cons ?_ ih;obtain⟨h1,h2,h3⟩:=h;unfold putAt;by_cases e:p.1=k
  ·rw[if_pos e,if_pos (h1.symm.trans e)];exact⟨h1,h2,ry⟩
  ·rw[if_neg e,if_neg (fun z=>e (h1.trans z))];exact⟨h1,h2,h3⟩
theorem KT.put{H:Hp}{kvs:List (List Key×V)}{xs:List (List Key×Addr×ao)}(r:KT H kvs xs)(k:List Key){b:Addr}{y:V}{u:ao}(hb:H b=some (.tup (k.map kV)))(ry:RelV y u):
  KT H (putK kvs k y) (storedH xs k b u):=by
 have e:(kvs.any fun kv=>decide (kv.1=k))=(Qg xs k).isSome:=by
  rw[mL,(r.val k).Bu,OA]
 unfold putK storedH;rw[e];by_cases q:(Qg xs k).isSome=true
 ·rw[if_pos q,if_pos q];exact r.W5 k ry
 ·rw[if_neg q,if_neg q];exact Wy r ⟨rfl,hb,ry⟩
theorem KT.keeps{H H':Hp}{kvs:List (List Key×V)}{xs:List (List Key×Addr×ao)}(r:KT H kvs xs)(ht:∀b ys,H b=some (.tup ys)->H' b=some (.tup ys)):KT H' kvs xs:=
 Paired.Xl r fun _ _ z=>⟨z.1,ht _ _ z.2.1,z.2.2⟩
section
variable{P:bq}{w:cf}{H:Hp}{h:Heap}{a:Addr}
theorem VR{u:HO}(ok:vE P w H h)(e:Rd H a u):ia P w H h a u:=e.ok ok
theorem Lf{kvs:List (Key×V)}(ok:vE P w H h)(e:Rd H a (.dK kvs)):kvs.length<=aG/\(a==l5)=false/\∃vs,KV kvs vs/\h.DictOf (fk P w) a vs:=
 show ia P w H h a (.dK kvs) from VR ok e
theorem We{kvs:List (Key×V)}(ok:vE P w H h)(e:H a=some (.dK kvs)):kvs.length<=aG/\(a==l5)=false/\∃vs,KV kvs vs/\h.DictOf (fk P w) a vs:=Lf ok (.inl e)
theorem Jq{ks:List Key}(ok:vE P w H h)(e:H a=some (.tup (ks.map kV))):(BI (fk P w)).is h ks a:=by
 obtain⟨_,its,r,o,h1,h2,n,h3⟩:=(show ia P w H h a (.tup (ks.map kV)) from ok a _ e);exact⟨o,its.toArray,n,h1,h2,h3,by simpa using HC r⟩
theorem N'{kvs:List (List Key×V)}(ok:vE P w H h)(e:Rd H a (.dT kvs)):kvs.length<=aG/\(a==l5)=false/\
  ∃xs,KT H kvs xs/\h.DictOfH (BI (fk P w)) a xs:=by
 obtain⟨z,y,xs,r,o,es,ep,h1,h2,h3,h4,h5⟩:=(show ia P w H h a (.dT kvs) from VR ok e);refine⟨z,y,xs,r,o,es,ep,h1,h2,h3,h4,fun x hx=>?_,h5⟩;have all:∀{l:List (List Key×V)} {m:List (List Key×Addr×ao)},KT H l m->∀x∈m,(BI (fk P w)).is h x.1 x.2.1:=by
  intro l m q
  induction q with
  |nil=>intro x hx;exact nomatch hx
  |@cons p q ps qs hq t ih=>
   intro x hx;rcases az.mp hx with e|hx
   ·subst e;exact Jq ok (by rw[<-hq.1];exact hq.2.1)
   ·exact ih x hx
 exact all r x hx
theorem abb{kvs:List (List Key×V)}(ok:vE P w H h)(e:H a=some (.dT kvs)):kvs.length<=aG/\(a==l5)=false/\
  ∃xs,KT H kvs xs/\h.DictOfH (BI (fk P w)) a xs:=N' ok (.inl e)
end
def G8(H:Hp)(a:Addr)(y:V)(r:Option V):Prop:=
 (∃kvs k,Rd H a (.dK kvs)/\y=kV k/\r=iL kvs k)\/∃kvs k b,Rd H a (.dT kvs)/\y= .ref b/\H b=some (.tup (k.map kV))/\r=iL kvs k
def BG(H:Hp)(a:Addr)(y v:V)(H':Hp):Prop:=
 (∃kvs k,H a=some (.dK kvs)/\y=kV k/\kvs.length<aG/\H'=upd H a (.dK (putK kvs k v)))\/
 ∃kvs k b,H a=some (.dT kvs)/\y= .ref b/\H b=some (.tup (k.map kV))/\kvs.length<aG/\H'=upd H a (.dT (putK kvs k v))
theorem G8.k{H:Hp}{a:Addr}{kvs:List (Key×V)}{k:Key}(e:H a=some (.dK kvs)):G8 H a (kV k) (iL kvs k):= .inl ⟨kvs,k,.inl e,rfl,rfl⟩
theorem BG.k{H:Hp}{a:Addr}{kvs:List (Key×V)}{k:Key}{v:V}(e:H a=some (.dK kvs))(hl:kvs.length<aG):BG H a (kV k) v (upd H a (.dK (putK kvs k v))):= .inl ⟨kvs,k,e,rfl,hl,rfl⟩
section
variable{X:Cx}{pins:List (Addr×Obj)}{σ:St}{H:Hp}{s:aI}{a:Addr}{y v:V}{u r:ao}{o:Option V}{A:dw}{E:ao->aI->Prop}
theorem Inv.big(I:Inv X pins σ H s):l5<s.heap.objs.size:=by
 have h:d7<s.heap.objs.size:=(I.mod.glob.keeps I.bk).lt;exact Mf (by decide) h
theorem Vq{Q:ao->aI->Prop}(hu:A.units+1<L0)(I:Inv X pins σ H s)(g:G8 H a y o)(ry:RelV y u)(h:∀s',Inv X pins σ H s'->Q (.bool (!o.isSome)) s'):
  bF (bS X.prog X.w) A (fj .NotIn u (.ref a)) Q E s:=by
 rcases g with⟨kvs,k,e,ey,l⟩|⟨kvs,k,b,e,ey,eb,l⟩
 ·subst ey;obtain⟨z,hd,vs,rel,dd⟩:=Lf I.fR e;refine wpAny_notIn_of (HB ry) hd dd.mapOf ?_;rw[<-(rel.val k).Bu,<-l];exact h _ (I.tok _)
 ·subst ey;cases(show u=cu b from ry);obtain⟨z,hd,xs,rel,dd⟩:=N' I.fR e;refine wpAny_notIn_heap (D6 hu) (Jq I.fR eb) hd dd ?_;have q:=(rel.val k).Bu;rw[OA] at q;rw[<-q,<-l];exact h _ (I.tok _)
theorem JC{h':Heap}{t':Nat}{ob:HO}(I:Inv X pins σ H s)(mu:Mut (H a))(hs:vz a s.heap h')(he:∃q,h'.get? a=some q)(new:ia X.prog X.w (upd H a ob) h' a ob):
  Inv X pins σ (upd H a ob) {s with heap:=h',toks:=t'}:=
 I.write (x:=a) (e:=a) mu (.inl rfl) (fun b q hb z=>(hs.2 b hb).trans z) he new
theorem Sw{P:bq}{w:cf}{H':Hp}{h':Heap}{kvs:List (Key×V)}{vs:List (Key×ao)}(z:kvs.length<=aG)(hd:(a==l5)=false)(rel:KV kvs vs)(dd:h'.DictOf (fk P w) a vs):
  ia P w H' h' a (.dK kvs):=⟨z,hd,vs,rel,dd⟩
theorem P2{H':Hp}{Q:Unit->aI->Prop}(hu:A.units+1<L0)(I:Inv X pins σ H s)(g:BG H a y v H')(ry:RelV y u)(rv:RelV v r)(h:∀s',Inv X pins σ H' s'->Q () s'):
  bF (bS X.prog X.w) A (setItem (.ref a) u r) Q E s:=by
 rcases g with⟨kvs,k,e,ey,l,eH⟩|⟨kvs,k,b,e,ey,eb,l,eH⟩
 ·subst ey eH;obtain⟨z,hd,vs,rel,dd⟩:=We I.fR e;have hz:vs.length<=aG:=by rw[<-rel.length];exact z
  have hl:(putK kvs k v).length<=aG:=by have:=Cm kvs k v;omega
  refine wpAny_setItem_pairs (hsz:=hz) (HB ry) dd fun h' X9 hs=>h _ ?_;have he:∃q,h'.get? a=some q:=let ⟨q,_,_,hq,_⟩:=X9;⟨q,hq⟩
  exact JC I (by rw[e];exact qZ) hs he (Sw hl hd (rel.put k rv) X9)
 ·subst ey eH;cases(show u=cu b from ry);obtain⟨z,hd,xs,rel,dd⟩:=abb I.fR e;have hz:xs.length<=aG:=by rw[<-G_ rel];exact z
  have hl:(putK kvs k v).length<=aG:=by have:=Cm kvs k v;omega
  refine wpAny_setItem_heap (hsz:=hz) (D6 hu) (Jq I.fR eb) dd fun h' X9 hs=>h _ ?_;obtain⟨q,es,ep,hq,h2,h3,h4,_,h5⟩:=X9;refine JC I (by rw[e];exact qZ) hs ⟨q,hq⟩ ⟨hl,hd,_,(rel.put k eb rv).keeps fun c ys ec=>?_,q,es,ep,hq,h2,h3,h4,h5⟩;rw[aA (j9 ec e (fun z=>nomatch z))];exact ec
end
section
variable{X:Cx}{pins:List (Addr×Obj)}{σ:St}{H:Hp}{s:aI}{a:Addr}{kvs:List (Key×V)}{k:Key}{u:ao}{A:dw}{E:ao->aI->Prop}
theorem abd{v:V}{more:List ao}{Q:ao->aI->Prop}(I:Inv X pins σ H s)(e:H a=some (.dK kvs))(ry:RelV (kV k) u)(l:iL kvs k=some v)(hm:more=[]\/∃x,more=[x])
  (h:∀w' s',Inv X pins σ (upd H a (.dK (pI kvs k))) s'->RelV v w'->Q w' s'):bF (bS X.prog X.w) A (call (.builtin "dict.pop") (.ref a::u::more)) Q E s:=by
 obtain⟨z,hd,vs,rel,dd⟩:=We I.fR e;obtain⟨w',hw,OW⟩:=uS.some_of (v:=v) (o:=sO vs k) (by rw[<-l];exact rel.val k);have hp:(keyPart u).isSome=true:=by
  cases k with
  |inl i=>obtain⟨t,q⟩:=(show ∃t,u=j8 i t from ry);subst q;rfl
  |inr x=>obtain⟨t,q⟩:=(show ∃t,u=CD x t from ry);subst q;rfl
 have ha:argsOk "dict.pop" ⟨.ref a::u::more,[]⟩:=by
  rcases hm with q|⟨x,q⟩
  ·subst q;exact PySem.F.args_dict_pop_2 _ _
  ·subst q;exact PySem.F.args_dict_pop_3 _ _ _
 refine Qz JX dd.typeIs PySem.F.entry_dict_pop ha (meets_dict_pop_there (fk X.prog X.w) a (HB ry) more hm hp)
  ⟨vs,w',dd,by rw[<-rel.length];exact z,hw,fun h' X9 hs=>h w' _ ?_ OW⟩
 have he:∃q,h'.get? a=some q:=let ⟨q,_,_,hq,_⟩:=X9;⟨q,hq⟩
 exact JC I (by rw[e];exact qZ) hs he (Sw (aD (Ss kvs k) z) hd (rel.drop k) X9)
theorem abe{Q:ao->aI->Prop}(I:Inv X pins σ H s)(e:Rd H a (.dK kvs))(h:∀t s',Inv X pins σ H s'->Q (.int kvs.length t) s'):bF (bS X.prog X.w) A (call (.builtin "len") [.ref a]) Q E s:=by
 obtain⟨z,hd,vs,rel,dd⟩:=Lf I.fR e;refine call_len_dict hd dd (by rw[<-rel.length];rw[AX] at z;omega) ?_;rw[<-rel.length];exact h _ _ (I.tok _)
end
def abn(i:Expr):Prop:=∀ov iv,JS i false ov iv=operate [ov,iv] (Qx ov iv)
theorem Nz{prog:bq}{w:cf}{A:dw}{E:ao->aI->Prop}{s:aI}{env:Env}{value slice:Expr}{pos:Pos}{T id:String}{Q:ao->aI->Prop}
  (hl:LX (.type T) "__getitem__"=pure (some (.builtin id)))(hs:abn slice)
  (h:bF (bS prog w) A (eval value env) (fun o s₁=>bF (bS prog w) A (eval slice env) (fun i s₂=>s₂.TypeIs o T/\bF (bS prog w) A (Qx o i) Q E s₂) E s₁) E s):
  bF (bS prog w) A (eval (.Subscript value slice pos) env) Q E s:=by
 refine WB (iI h (fun o s₁ h₁=>iI h₁ (fun i s₂ h₂=>?_) fun _ _ x=>x) fun _ _ x=>x);obtain⟨hT,h₂⟩:=h₂;unfold Oz;refine aK ?_;rw[getitemInPython_of_ne hT.not_modules];refine aK (J4 hT hl ?_);have fin:bF (bS prog w) A (JS slice false o i) (fun r s₃=>bF (bS prog w) A (letTemporaryGo value o r>>=fun _=>pure r) Q E s₃) E s₂:=by
  rw[hs o i];exact wpAny_operating (iI h₂ (fun r s₃ h₃=>aK (wpAny_letTemporaryGo (bH h₃))) fun _ _ x=>x)
 first
  |exact bH (aK fin)
  |exact aK (bH (aK fin))
  |exact aK fin
def Ud(ty td:TE):TE:=fun σ H Q=>ty σ H fun y H1=>td σ H1 fun x H2=>∃a o,x= .ref a/\G8 H2 a y o/\Q (.bl (!o.isSome)) H2
def VQ(td ty tv:TE):TS:=fun D σ H=>tv σ H fun v H1=>td σ H1 fun x H2=>ty σ H2 fun y H3=>∃a H4,x= .ref a/\BG H3 a y v H4/\D.nx σ H4
section
variable{X:Cx}{o i e value:Expr}{pos pos' zA:Pos}{td ty tv:TE}
theorem O9(hu:X.A.units+1<L0)(hi:PE X i ty)(ho:PE X o td):PC X .NotIn i o (Ud ty td):=by
 intro pins s σ H Q I h;refine gI (hi pins s σ H _ I h) fun iv s1 ⟨y,H1,I1,ry,q1⟩=>gI (ho pins s1 σ H1 _ I1 q1) fun u s2 ⟨x,H2,I2,rx,a,ov,ex,g,q2⟩=>?_;subst ex;obtain rfl:u=cu a:=rx;exact Vq hu I2 g ry fun s3 I3=>⟨.bl (!ov.isSome),H2,I3,rfl,q2⟩
theorem uu(hu:X.A.units+1<L0)(ho:PE X o td)(hi:PE X i ty)(hv:PE X value tv)(hs:t4 value (some (.Subscript o i pos')) pos.line X.env=pure false):
  PS X (.Assign [.Subscript o i pos'] value pos) (VQ td ty tv):=by
 intro pins s σ H D I h;refine wpAny_Assign_Subscript (gI (hv pins s σ H _ I h) fun r s1 ⟨v,H1,I1,rv,q1⟩=>gI (ho pins s1 σ H1 _ I1 q1) fun u s2 ⟨x,H2,I2,rx,q2⟩=>gI (hi pins s2 σ H2 _ I2 q2) fun iv s3 ⟨y,H3,I3,ry,a,H4,ex,g,q3⟩=>?_) hs;subst ex;obtain rfl:u=cu a:=rx;exact P2 hu I3 g ry rv fun s4 I4=>⟨σ,H4,I4,q3⟩
end
theorem Sx{P:bq}{w:cf}{H:Hp}(h:Heap)(hb:l5<h.objs.size):ia P w H (h.push {cls:= .type "dict",data:= .dict #[]}) h.objs.size (.dK []):=
 ⟨aT _,beq_eq_false_iff_ne.mpr (rf (b9 hb)),[],.nil,Heap.DictOf.new h⟩
def WO:TE:=fun _ H Q=>∀p,H p=none->Q (.ref p) (upd H p (.dK []))
section
variable{X:Cx}{pos:Pos}
theorem z_:PE X (.Dict [] [] pos) WO:=fun pins s σ H Q I h=>
 wpAny_Dict_empty ⟨.ref s.heap.objs.size,_,I.laid (a:=s.heap.objs.size) (o:= .dK []) (t':=s.toks) (fun _ _ q=>ay _ q) (aL _) (Sx s.heap I.big),rfl,h _ (I.fR.fresh (aL _))⟩
end
structure M1(X:Cx)(o:Expr)(m:Str)(apos:Pos)(e:Expr)(mF:Pos):Prop where
 base:jk o m X.env (eval o X.env)=eval o X.env
 wN:((fq mF (bw [e] X.env)).all (fun x=>!x.1)&&(o8 mF (jc [] X.env)).all (fun x=>x.1.isSome)
  &&decide (([e]:List Expr).length+([]:List vx).length+(if([]:List vx).isEmpty then 0 else 1)<30))=true
 line:(apos.endLine==mF.line)=true
 trees:fq mF (bw [e] X.env)=[(false,eval e X.env)]
structure M2(X:Cx)(o:Expr)(m:Str)(apos:Pos)(e f:Expr)(mF:Pos):Prop where
 base:jk o m X.env (eval o X.env)=eval o X.env
 wN:((fq mF (bw [e,f] X.env)).all (fun x=>!x.1)&&(o8 mF (jc [] X.env)).all (fun x=>x.1.isSome)
  &&decide (([e,f]:List Expr).length+([]:List vx).length+(if([]:List vx).isEmpty then 0 else 1)<30))=true
 line:(apos.endLine==mF.line)=true
 trees:fq mF (bw [e,f] X.env)=[(false,eval e X.env),(false,eval f X.env)]
def IsD(H:Hp)(a:Addr):Prop:=(∃kvs,Rd H a (.dK kvs))\/∃kvs,Rd H a (.dT kvs)
theorem RS{X:Cx}{pins:List (Addr×Obj)}{σ:St}{H:Hp}{s:aI}{a:Addr}(I:Inv X pins σ H s)(d:IsD H a):
  s.TypeIs (.ref a) "dict"/\(∀b,cu a= .ref b->∃ob,s.heap.get? b=some ob/\ob.dict=none)/\(a==l5)=false:=by
 rcases d with⟨kvs,e⟩|⟨kvs,e⟩
 ·obtain⟨_,hd,vs,_,dd⟩:=Lf I.fR e;refine⟨dd.typeIs,fun b q=>?_,hd⟩;cases q;obtain⟨ob,_,_,h1,h2,_⟩:=dd;exact⟨ob,h1,h2.2.1⟩
 ·obtain⟨_,hd,xs,_,dd⟩:=N' I.fR e;refine⟨dd.typeIs,fun b q=>?_,hd⟩;cases q;obtain⟨ob,_,_,h1,h2,_⟩:=dd;exact⟨ob,h1,h2.2.1⟩
section
variable{X:Cx}{pins:List (Addr×Obj)}{σ:St}{H:Hp}{s:aI}{a:Addr}{y d:V}{u r:ao}{o:Option V}{A:dw}{E:ao->aI->Prop}
theorem X_{Q:ao->aI->Prop}(hu:A.units+1<L0)(I:Inv X pins σ H s)(g:G8 H a y o)(ry:RelV y u)(rd:RelV d r)(h:∀w' s',Inv X pins σ H s'->RelV (o.getD d) w'->Q w' s'):
  bF (bS X.prog X.w) A (call (.builtin "dict.get") [.ref a,u,r]) Q E s:=by
 rcases g with⟨kvs,k,e,ey,l⟩|⟨kvs,k,b,e,ey,eb,l⟩
 ·subst ey;obtain⟨z,hd,vs,rel,dd⟩:=Lf I.fR e;refine Qz vd dd.typeIs Ic (Hb _ _ _) (meets_dict_get_default (fk X.prog X.w) a (HB ry) hd r) ⟨_,dd.mapOf,h _ _ (I.tok _) ?_⟩;rw[l];exact(rel.val k).getD rd
 ·subst ey;cases(show u=cu b from ry);obtain⟨z,hd,xs,rel,dd⟩:=N' I.fR e;refine Qz vd dd.typeIs Ic (Hb _ _ _) (meetsH_dict_get_default (BI (fk X.prog X.w)) a b hd r) ⟨D6 hu,k,xs,Jq I.fR eb,dd,h _ _ (I.tok _) ?_⟩;rw[l];exact(rel.val k).getD rd
end
def WQ(td ty tx:TE):TE:=fun σ H Q=>td σ H fun x H1=>∃a,x= .ref a/\IsD H1 a/\ty σ H1 fun y H2=>tx σ H2 fun z H3=>∃o,G8 H3 a y o/\Q (o.getD z) H3
def WN(td ty:TE):TE:=fun σ H Q=>td σ H fun x H1=>∃a,x= .ref a/\IsD H1 a/\ty σ H1 fun y H2=>∃kvs k v,H2 a=some (.dK kvs)/\y=kV k/\iL kvs k=some v/\Q v (upd H2 a (.dK (pI kvs k)))
section
variable{X:Cx}{o e f:Expr}{apos mF:Pos}{td ty tx:TE}
theorem ET(hu:X.A.units+1<L0)(ho:PE X o td)(he:PE X e ty)(hf:PE X f tx)(m:M2 X o "get" apos e f mF):PE X (.Call (.Attribute o "get" apos) [e,f] [] mF) (WQ td ty tx):=by
 intro pins s σ H Q I h;refine Yo m.base m.wN m.line Ha vd PySem.F.type_dict_get (gI (ho pins s σ H _ I h) fun u s1 ⟨x,H1,I1,rx,a,ex,d,q1⟩=>?_);subst ex;obtain rfl:u=cu a:=rx;obtain⟨t1,t2,_⟩:=RS I1 d;refine⟨t1,t2,?_⟩;rw[m.trees];refine nE rfl (xx (mE (gI (he pins s1 σ H1 _ I1 q1) fun iv s2 ⟨y,H2,I2,ry,q2⟩=>
  mE (gI (hf pins s2 σ H2 _ I2 q2) fun fv s3 ⟨z,H3,I3,rz,ov,g,q3⟩=>sL ?_))))
 exact X_ hu I3 g ry rz fun w' s4 I4 OW=>⟨_,H3,I4,OW,q3⟩
theorem Rp(ho:PE X o td)(he:PE X e ty)(m:M1 X o "pop" apos e mF):PE X (.Call (.Attribute o "pop" apos) [e] [] mF) (WN td ty):=by
 intro pins s σ H Q I h;refine Yo m.base m.wN m.line Ha JX PySem.F.type_dict_pop (gI (ho pins s σ H _ I h) fun u s1 ⟨x,H1,I1,rx,a,ex,d,q1⟩=>?_);subst ex;obtain rfl:u=cu a:=rx;obtain⟨t1,t2,_⟩:=RS I1 d;refine⟨t1,t2,?_⟩;rw[m.trees];refine nE rfl (xx (mE (gI (he pins s1 σ H1 _ I1 q1) fun iv s2 ⟨y,H2,I2,ry,kvs,k,v,ea,ey,l,q2⟩=>sL ?_)));subst ey;exact abd I2 ea ry l (.inl rfl) fun w' s3 I3 OW=>⟨v,_,I3,OW,q2⟩
end
section
variable{X:Cx}{pins:List (Addr×Obj)}{σ:St}{H:Hp}{s:aI}{a:Addr}{kvs:List (Key×V)}{A:dw}{E:ao->aI->Prop}
end
section
variable{X:Cx}{pins:List (Addr×Obj)}{σ:St}{H:Hp}{s:aI}{a:Addr}{y:V}{u:ao}{A:dw}{E:ao->aI->Prop}
end
section
variable{prog:bq}{w:cf}{A:dw}{E:ao->aI->Prop}
end
section
variable{X:Cx}
end
theorem wV:o7 "reversed"=some (.type "reversed"):=by decide+kernel
section
variable{X:Cx}{pins:List (Addr×Obj)}{σ:St}{H:Hp}{s:aI}{h':Heap}
theorem Inv.Nu{t':Nat}{ch:List Addr}(I:Inv X pins σ H s)(k:∀b o,b∉ch->s.heap.get? b=some o->h'.get? b=some o)(hf:∀b∈ch,Dy X pins H b):Inv X pins σ H {s with heap:=h',toks:=t'}:=by
 have VZ:∀b u,H b=some u->b∉ch:=fun b u e z=>by
  have q:=(hf b z).1;rw[q] at e;cases e
 refine I.step (g':=s.gens) (d':=s.drawn) (ch:=ch) (fun b hb=>⟨(hf b hb).2.2.2.1,(hf b hb).2.1,(hf b hb).2.2.2.2.1,(hf b hb).2.2.2.2.2⟩) (fun b o _ _ hc e _=>k b o hc e) (fun b o _ _ hc e _=>⟨o.slots,k b o hc e⟩)
  (fun _ _ _ _ n=>n) (fun b o hc e=>⟨o,k b o hc e⟩) (fun _ _ e=>e) (fun _ _ _ e=>e) (fun b ps e=>⟨#[],by rw[e];simp⟩) (fun m hm=>?_) (fun b u e=>?_) I.bare
 ·obtain⟨o,es,ep,ho,r⟩:=hm;exact⟨o,es,ep,k _ o (fun z=>(hf _ z).2.1 rfl) ho,r⟩
 ·refine(I.fR b u e).El (fun c v hc q=>k c v ?_ q) (fun _ q=>q) fun _ _ q=>q;rcases hc with z|z
  ·rw[z];exact VZ b u e
  ·exact VZ c _ z
theorem Inv.A3{t':Nat}{ch:List Addr}{T:Addr}{ob:HO}(I:Inv X pins σ H s)(k:∀b o,b∉ch->s.heap.get? b=some o->h'.get? b=some o)(hf:∀b∈ch,Dy X pins H b)(hT:s.heap.objs.size<=T)
  (new:ia X.prog X.w (upd H T ob) h' T ob):Inv X pins σ (upd H T ob) {s with heap:=h',toks:=t'}:=by
 have hn:H T=none:=I.fR.fresh hT;have VZ:∀b u,H b=some u->b∉ch:=fun b u e z=>by
  have q:=(hf b z).1;rw[q] at e;cases e
 refine I.step (g':=s.gens) (d':=s.drawn) (ch:=ch) (fun b hb=>⟨(hf b hb).2.2.2.1,(hf b hb).2.1,(hf b hb).2.2.2.2.1,(hf b hb).2.2.2.2.2⟩) (fun b o _ _ hc e _=>k b o hc e) (fun b o _ _ hc e _=>⟨o.slots,k b o hc e⟩)
  (fun b o _ e n=>?_) (fun b o hc e=>⟨o,k b o hc e⟩) (fun b xs e=>?_) (fun b o u e=>?_) (fun b ps e=>⟨#[],?_⟩) (fun m hm=>?_) (fun b u e=>?_) I.bare
 ·rw[aA (b9 (bN (bc e) hT))];exact n
 ·rw[aA (aE e hn)];exact e
 ·rw[aA (aE e hn)];exact e
 ·rw[aA (aE e hn),e];simp
 ·obtain⟨o,es,ep,ho,r⟩:=hm;exact⟨o,es,ep,k _ o (fun z=>(hf _ z).2.1 rfl) ho,r⟩
 ·by_cases hb:b=T
  ·subst hb;rw[ae] at e;cases e;exact new
  ·rw[aA hb] at e;refine(I.fR b u e).El (fun c v hc q=>k c v ?_ q) (fun c q=>by rw[aA (aE q hn)];exact q) fun c xs q=>by rw[aA (aE q hn)];exact q
   rcases hc with z|z
   ·rw[z];exact VZ b u e
   ·exact VZ c _ z
end
section
variable{X:Cx}
theorem Rk{tg:Expr}{pins:List (Addr×Obj)}{σ:St}{H:Hp}{s:aI}{R:It->Hp->Prop}{J:It}{tn:Nat->Heap->Prop}{tk:Nat}(I:Inv X pins σ H s)(o:Obj)
  (T:Turn X.prog X.w X.K tg J [s.heap.objs.size] s.heap.objs.size tn)(st:tn 0 (s.heap.push o))(q:R J H):PIE X pins σ tg R (.ref s.heap.objs.size) {s with heap:=s.heap.push o,toks:=tk}:=by
 refine⟨s.heap.objs.size,[s.heap.objs.size],tn,J,H,rfl,I.kept fun b ob e=>ay _ e,T,st,fun b hb=>?_,q⟩;have e:b=s.heap.objs.size:=by simpa using hb
 subst e;exact I.MQ (aL _) (I.fR.fresh (aL _))
end
def Itc(lo c:Int)(n:Nat):It:=⟨fun i _=>i<n,fun i H x H'=>H'=H/\x= .int (lo+(i:Nat)*c),fun i _=>n<=i⟩
theorem Kd{P:bq}{w:cf}{K:aq}{tg:Expr}(it:Addr)(lo c:Int)(n:Nat):Turn P w K tg (Itc lo c n) [it] it (fun i h=>JW h it (lo+(i:Nat)*c) ((n:Int) -(i:Nat)) c) where
 mem:=by simp
 obj:=fun i h st b hb=>by
  have e:b=it:=by simpa using hb
  subst e;exact⟨_,st,fun v z=>nomatch z⟩
 keep:=fun i h h' st k=>k it (by simp) _ st
 item:=by
  intro X hP hw hK hc i pins s σ H E I hf st hg;subst hP hw hK;obtain⟨f0,f1,f2,f3,f4,f5⟩:=hf it (by simp);have W:=Yr (prog:=X.prog) (w:=X.w) (I.ok.hd hc) it lo c n;refine W.item i s _ _ hg st fun v h' tk hv zF kk=>?_;obtain⟨t,rfl⟩:=hv;have I1:Inv X pins σ H {s with heap:=h',toks:=tk}:=I.turned (fun b o hb e=>kk b o (by simpa using hb) e) f0 f1 f3 f4 f5;exact⟨_,rfl,N5 (s:={s with heap:=h',toks:=tk}) (n:="range_iterator") zF rfl rfl (by decide) ⟨.int (lo+(i:Nat)*c),H,I1,⟨t,rfl⟩,⟨rfl,rfl⟩,zF,fun b hb=>(hf b hb).1⟩⟩
 done:=by
  intro X hP hw hK hc i pins s σ H E I hf st hg;subst hP hw hK;obtain⟨f0,f1,f2,f3,f4,f5⟩:=hf it (by simp);exact Qv (I.ok.hd hc) st (by have:n<=i:=hg;omega) fun h' eb=>⟨rfl,I.turned (t':=s.toks) (fun b o hb e=>eb b o hb e) f0 f1 f3 f4 f5⟩
 self:=fun A i s Q E st h=>Qw st h
def RgC(i j c:Int)(n:Nat):Prop:=c≠0/\c.natAbs<1073741824/\Zm i j c=true/\qc i j c=n
theorem RgC.neg{i j:Int}(ha: -(2^62)<=i)(ha':i<2^62)(hb: -(2^62)<=j)(hb':j<2^62):RgC i j (-1) (i -j).toNat:=
 ⟨by decide,by decide,PySem.W.small_down ha ha' hb hb',PySem.W.rangeSize_downNat i j⟩
def aaa(ta:TA):TI:=fun σ H R=>ta σ H fun vs H1=>∃(i j c:Int) (n:Nat),vs=[.int i,.int j,.int c]/\RgC i j c n/\R (Itc i c n) H1
section
variable{X:Cx}{tg:Expr}
theorem O5{a b c:Expr}{ta:TA}{p pos:Pos}(hg:Gl X "range")(hm:X.mg "range"=none)(ha:PA X [a,b,c] ta)
  (hs:bw [a,b,c] X.env=(false,eval a X.env)::bw [b,c] X.env:=by rfl)(jD:(fq pos (bw [b,c] X.env)).any (·.1)=false:=by rfl):
  PI X tg (.Call (.Name "range" p) [a,b,c] [] pos) (aaa ta):=by
 intro pins s σ H R I h;refine Mb (pk I hg hm boot_range (dj (gI (ha pos pins s σ H _ I h) fun us s1 ⟨vs,H1,I1,r1,q1⟩=>?_) hs jD));obtain⟨i,j,k,n,e,⟨c0,c1,c2,c3⟩,q⟩:=q1;subst e;cases r1 with
 |cons r rr=>
  cases rr with
  |cons r' rr=>
   cases rr with
   |cons r'' rr=>
    cases rr;obtain⟨t,rfl⟩:=r;obtain⟨t',rfl⟩:=r';obtain⟨t'',rfl⟩:=r'';refine call_range_3 c0 ?_ (.inl (PyProof.noPylong_small c1));refine Wr (VG ..) c2 ?_;have I2:Inv X pins σ H1 {s1 with heap:=s1.heap.push {cls:= .type "range",data:= .fields #[.int i t,.int j t',.int k t'']} }:=I1.kept (t':=s1.toks) fun b o e=>ay _ e;refine Rk (tk:=s1.toks) I2 _ (Kd _ i k n) ?_ q;have e1:i+((0:Nat):Int)*k=i:=by simp
    have e2:(n:Int) -((0:Nat):Int)=qc i j k:=by rw[c3];simp
    show JW _ _ (i+((0:Nat):Int)*k) ((n:Int) -((0:Nat):Int)) k;rw[e1,e2];exact bt _ rfl
theorem MR{lo c:Int}{n:Nat}{g:TG}{tb:TS}{D:Ends}{σ:St}{H:Hp}(Pv:Nat->St->Hp->Prop)(h0:Pv 0 σ H)
  (hs:∀i σ H,i<n->Pv i σ H->g (.int (lo+(i:Nat)*c)) σ H fun σ2 H2=>tb {D with nx:=Pv (i+1),ct:=Pv (i+1),bk:=D.nx} σ2 H2)(hd:∀σ H,Pv n σ H->D.nx σ H):
  ∃W:Nat->Nat->St->Hp->Prop,(∃m,W 0 m σ H)/\∀i m σ H,W i m σ H->
   ((Itc lo c n).stop i H/\D.nx σ H)\/((Itc lo c n).go i H/\∃N:St->Hp->Prop,(∀σ' H',N σ' H'->∃m',m'<m/\W (i+1) m' σ' H')/\∀x H',(Itc lo c n).QI i H x H'->g x σ H' fun σ2 H2=>tb {D with nx:=N,ct:=N,bk:=D.nx} σ2 H2):=by
 refine⟨fun i m σ H=>m=n -i/\i<=n/\Pv i σ H,⟨n,by simp,aT _,h0⟩,?_⟩;rintro i m σ H ⟨rfl,hi,p⟩;by_cases qY:i<n
 ·refine .inr ⟨qY,Pv (i+1),fun σ' H' p'=>⟨n -(i+1),by omega,rfl,qY,p'⟩,fun x H' y=>?_⟩;obtain⟨e,y⟩:=y;subst e y;exact hs i σ _ qY p
 ·have e:i=n:=by omega
  subst e;exact .inl ⟨aL _,hd σ H p⟩
def Itv(K:aq)(a:Addr)(n:Nat):It:=
 ⟨fun i H=>i<n/\∃(xs:List V) (x:V),cF K H a xs/\xs[n -1 -i]?=some x,fun i H x H'=>H'=H/\∀xs,cF K H a xs->xs[n -1 -i]?=some x,fun i _=>n<=i⟩
theorem QT{P:bq}{w:cf}{K:aq}{tg:Expr}(a it:Addr)(n:Nat):Turn P w K tg (Itv K a n) [it] it (fun i h=>i<=n/\h.IsRevIter it a ((n:Int) -1 -(i:Nat))) where
 mem:=by simp
 obj:=fun i h st b hb=>by
  have e:b=it:=by simpa using hb
  subst e;obtain⟨_,o,e,c,d⟩:=st;exact⟨o,e,fun v z=>by rw[d] at z;cases z⟩
 keep:=fun i h h' st k=>⟨st.1,st.2.at fun o e=>k it (by simp) o e⟩
 item:=by
  intro X hP hw hK hc i pins s σ H E I hf st hg;subst hP hw hK;obtain⟨K3,xs,x,hq,hx⟩:=hg;obtain⟨its,rv,p,hz⟩:=I.list hq;obtain⟨u,hu,ru⟩:=rv.get hx;obtain⟨f0,f1,f2,f3,f4,f5⟩:=hf it (by simp);obtain⟨_,hit⟩:=st;have e1:(n:Int) -1 -((i:Nat):Int)=((n -1 -i:Nat):Int):=by omega
  rw[e1] at hit;refine wpAny_pyNext_rev_item hit p.isList (x:=u) (by simpa using hu) fun h' zF sb=>?_;have e2:((n -1 -i:Nat):Int) -1=(n:Int) -1 -((i+1:Nat):Int):=by omega
  rw[e2] at zF;have I1:Inv X pins σ H {s with heap:=h'}:=I.turned (t':=s.toks) (fun b o hb e=>(sb.2 b hb).trans e) f0 f1 f3 f4 f5;obtain⟨o,e,c,d⟩:=id zF;exact⟨u,rfl,N5 (s:={s with heap:=h'}) e c d (by decide) ⟨x,H,I1,ru,⟨rfl,fun ys hy=>by rw[I.tL hy hq];exact hx⟩,⟨K3,zF⟩,fun b hb=>(hf b hb).1⟩⟩
 done:=by
  intro X hP hw hK hc i pins s σ H E I hf st hg;subst hP hw hK;obtain⟨f0,f1,f2,f3,f4,f5⟩:=hf it (by simp);obtain⟨K3,hit⟩:=st;have hge:n<=i:=hg;have e1:(n:Int) -1 -((i:Nat):Int)= -1:=by omega
  rw[e1] at hit;exact wpAny_pyNext_rev_end (I.ok.hd hc) hit fun h' eb=>⟨rfl,I.turned (t':=s.toks) (fun b o hb e=>eb b o hb e) f0 f1 f3 f4 f5⟩
 self:=fun A i s Q E st h=>AV st.2 h
def adM(K:aq)(ta:TA):TI:=fun σ H R=>ta σ H fun vs H1=>∃(a:Addr) (xs:List V),vs=[.ref a]/\cF K H1 a xs/\R (Itv K a xs.length) H1
theorem Cf{e:Expr}{ta:TA}{p pos:Pos}(hg:Gl X "reversed")(hm:X.mg "reversed"=none)(ha:PA X [e] ta)(hs:bw [e] X.env=[(false,eval e X.env)]:=by rfl):PI X tg (.Call (.Name "reversed" p) [e] [] pos) (adM X.K ta):=by
 intro pins s σ H R I h;refine Mb (pk I hg hm wV (dj (gI (ha pos pins s σ H _ I h) fun us s1 ⟨vs,H1,I1,r1,q1⟩=>?_) hs rfl));obtain⟨a,xs,e,hq,q⟩:=q1;subst e;cases r1 with
 |cons r rr=>
  cases rr;cases r;obtain⟨its,rv,p',hz⟩:=I1.list hq;have hl:=rv.length;have e1:((its.toArray.size:Nat):Int) -1=(xs.length:Int) -1 -((0:Nat):Int):=by simp only[bu];omega
  refine Wv p'.isList (AV (l:=a) (i:=((its.toArray.size:Nat):Int) -1) ⟨_,bt _ rfl,rfl,rfl⟩ ?_);refine Rk (tk:=s1.toks) I1 _ (QT a _ xs.length) ⟨aT _,?_⟩ q;rw[<-e1];exact⟨_,bt _ rfl,rfl,rfl⟩
end
section
variable{prog:bq}{w:cf}{A:dw}{E:ao->aI->Prop}{s:aI}
end
section
variable{X:Cx}{pins:List (Addr×Obj)}{σ:St}{H:Hp}{s:aI}{d:Addr}{o:Obj}
end
section
variable{P:bq}{w:cf}{K:aq}{tg:Expr}{d:Addr}{o:Obj}{es:Array Zk}{ep:Nat}
end
section
variable{X:Cx}{tg e:Expr}{td:TE}{apos mF:Pos}
end
def Ite(K:aq)(a:Addr):It:=
 ⟨fun i H=>∃(xs:List V) (x:V),cF K H a xs/\xs[i]?=some x,fun i H v H'=>∃T x,v= .ref T/\H T=none/\H'=upd H T (.tup [.int (i:Nat),x])/\∀xs,cF K H a xs->xs[i]?=some x,fun i H=>∃xs:List V,cF K H a xs/\xs.length<=i⟩
theorem OJ{P:bq}{w:cf}{K:aq}{elts:List Expr}{kk:Nat}{zA:Pos}(a e it:Addr):
  Turn P w K (.Tuple elts kk zA) (Ite K a) [e,it] e (fun i h=>(∃old,IsEnum h e it ((i:Nat):Int) old)/\h.IsListIter it a i/\e≠it) where
 mem:=by simp
 obj:=fun i h st b hb=>by
  obtain⟨⟨old,he⟩,⟨o,ho,hc,hd⟩,_⟩:=st;have e':b=e\/b=it:=by simpa using hb
  rcases e' with z|z
  ·rw[z];exact⟨_,he,fun v q=>nomatch q⟩
  ·rw[z];exact⟨o,ho,fun v q=>by rw[hd] at q;cases q⟩
 keep:=fun i h h' st k=>let ⟨⟨old,he⟩,hi,tN⟩:=st;⟨⟨old,k e (by simp) _ he⟩,hi.at fun o q=>k it (by simp) o q,tN⟩
 item:=by
  intro X hP hw hK hc i pins s σ H E I hf st hg;subst hP hw hK;obtain⟨⟨old,he⟩,hit,tN⟩:=st;obtain⟨xs,x,hq,hx⟩:=hg;obtain⟨its,rv,p,hz⟩:=I.list hq;obtain⟨u,hu,ru⟩:=rv.get hx;have Qq:e<s.heap.objs.size:=bc he;have hil:it<s.heap.objs.size:=by obtain⟨_,q,_⟩:=hit;exact bc q
  refine wpAny_pyNext_enum_item he hit p.isList (x:=u) (by simpa using hu) tN fun h' ho aeq hT hsz hk=>?_;refine⟨_,rfl,wpAny_letOwnedTupleGo_enum (s:={s with heap:=h',toks:=s.toks+1}) ho fun Qs XO sb=>?_⟩;have Si:Qs.get? s.heap.objs.size=some {cls:= .type "tuple",data:= .seq #[.int i s.toks,u]}:=(sb.2 _ (j5 Qq)).trans hT;have new:ia X.prog X.w (upd H s.heap.objs.size (.tup [.int (i:Nat),x])) Qs s.heap.objs.size (.tup [.int (i:Nat),x]):=
   ⟨by show 2<=aG;decide,[.int i s.toks,u],.cons ⟨_,rfl⟩ (.cons ru .nil),⟨_,Si,rfl,_,rfl⟩⟩
  have I1:Inv X pins σ (upd H s.heap.objs.size (.tup [.int (i:Nat),x])) {s with heap:=Qs,toks:=s.toks+1}:=
   I.A3 (ch:=[e,it]) (fun b ob hb q=>(sb.2 b (fun z=>hb (by simp[z]))).trans (hk b ob (fun z=>hb (by simp[z])) (fun z=>hb (by simp[z])) q)) hf (aL _) new
  refine⟨.ref s.heap.objs.size,_,I1,rfl,⟨_,x,rfl,I.fR.fresh (aL _),rfl,fun ys hy=>by rw[I.tL hy hq];exact hx⟩,⟨⟨u,?_⟩,aeq.at fun o q=>(sb.2 it (rf tN)).trans q,tN⟩,fun b hb=>?_⟩
  ·have e1:((i+1:Nat):Int)=(i:Int)+1:=by omega
   rw[e1];exact XO
  ·have hb':b<s.heap.objs.size:=by
    have e':b=e\/b=it:=by simpa using hb
    rcases e' with z|z
    ·rw[z];exact Qq
    ·rw[z];exact hil
   rw[aA (b9 hb')];exact(hf b hb).1
 done:=by
  intro X hP hw hK hc i pins s σ H E I hf st hg;subst hP hw hK;obtain⟨⟨old,he⟩,hit,tN⟩:=st;obtain⟨xs,hq,hx⟩:=hg;obtain⟨its,rv,p,hz⟩:=I.list hq;obtain⟨f0,f1,f2,f3,f4,f5⟩:=hf it (by simp);have hl:=rv.length;exact wpAny_pyNext_enum_end (I.ok.hd hc) he hit p.isList (by simp;omega) fun h' eb=>⟨rfl,I.turned (t':=s.toks) (fun b o hb q=>eb b o hb q) f0 f1 f3 f4 f5⟩
 self:=fun A i s Q E st h=>let ⟨⟨_,he⟩,_⟩:=st;Yl he h
def aad(K:aq)(ta:TA):TI:=fun σ H R=>ta σ H fun vs H1=>∃a xs,vs=[.ref a]/\cF K H1 a xs/\R (Ite K a) H1
theorem UI{X:Cx}{e:Expr}{ta:TA}{p pos zA:Pos}{elts:List Expr}{kk:Nat}(hg:Gl X "enumerate")(hm:X.mg "enumerate"=none)(ha:PA X [e] ta)(hs:bw [e] X.env=[(false,eval e X.env)]:=by rfl):
  PI X (.Tuple elts kk zA) (.Call (.Name "enumerate" p) [e] [] pos) (aad X.K ta):=by
 intro pins s σ H R I h;refine Mb (pk I hg hm boot_enumerate (dj (gI (ha pos pins s σ H _ I h) fun us s1 ⟨vs,H1,I1,r1,q1⟩=>?_) hs rfl));obtain⟨a,xs,ex,hq,q⟩:=q1;subst ex;cases r1 with
 |cons r rr=>
  cases rr;cases r;obtain⟨its,rv,p',hz⟩:=I1.list hq;refine call_enumerate_list p'.isList fun h' he hit hsz hk=>Yl he ?_;have I2:Inv X pins σ H1 {s1 with heap:=h'}:=I1.kept (t':=s1.toks) hk;refine⟨s1.heap.objs.size+1,[s1.heap.objs.size+1,s1.heap.objs.size],_,_,H1,rfl,I2,OJ a (s1.heap.objs.size+1) s1.heap.objs.size,⟨⟨.none,he⟩,hit,Nat.succ_ne_self _⟩,fun b hb=>?_,q⟩;have e':b=s1.heap.objs.size+1\/b=s1.heap.objs.size:=by simpa using hb
  have hle:s1.heap.objs.size<=b:=by
   rcases e' with z|z
   ·rw[z];exact dM _ _
   ·rw[z];exact aL _
  exact I1.MQ hle (I1.fR.fresh hle)
theorem HQ:o7 "zip"=some (.type "zip"):=by decide+kernel
def Wj(K:aq)(a b:Addr):It:=
 ⟨fun i H=>∃(xs ys:List V) (x y:V),cF K H a xs/\cF K H b ys/\xs[i]?=some x/\ys[i]?=some y,
  fun i H v H'=>∃T x y,v= .ref T/\H T=none/\H'=upd H T (.tup [x,y])/\(∀xs,cF K H a xs->xs[i]?=some x)/\∀ys,cF K H b ys->ys[i]?=some y,
  fun i H=>∃xs ys:List V,cF K H a xs/\cF K H b ys/\(xs.length<=i\/ys.length<=i)⟩
theorem QS{P:bq}{w:cf}{K:aq}{elts:List Expr}{kk:Nat}{zA:Pos}{a b z TI TO i1 i2:Addr}(D:Gf z TI TO i1 i2 a b):
  Turn P w K (.Tuple elts kk zA) (Wj K a b) [z,TI,TO,i1,i2] z (fun i h=>vy h z TI TO .none/\kD h TI (.ref i1) (.ref i2)/\(∃x y,kD h TO x y)/\h.IsListIter i1 a i/\h.IsListIter i2 b i) where
 mem:=by simp
 obj:=fun i h st c hc=>by
  obtain⟨hz,y_,⟨x,y,DO⟩,⟨o1,e1,_,d1⟩,⟨o2,e2,_,d2⟩⟩:=st;have e':c=z\/c=TI\/c=TO\/c=i1\/c=i2:=by simpa using hc
  rcases e' with q|q|q|q|q
  ·rw[q];exact⟨_,hz,fun v q=>nomatch q⟩
  ·rw[q];exact⟨_,y_,fun v q=>nomatch q⟩
  ·rw[q];exact⟨_,DO,fun v q=>nomatch q⟩
  ·rw[q];exact⟨o1,e1,fun v q=>by rw[d1] at q;cases q⟩
  ·rw[q];exact⟨o2,e2,fun v q=>by rw[d2] at q;cases q⟩
 keep:=fun i h h' st k=>by
  obtain⟨hz,y_,⟨x,y,DO⟩,h1,h2⟩:=st;exact⟨k z (by simp) _ hz,k TI (by simp) _ y_,⟨x,y,k TO (by simp) _ DO⟩,h1.at fun o q=>k i1 (by simp) o q,h2.at fun o q=>k i2 (by simp) o q⟩
 item:=by
  intro X hP hw hK hc i pins s σ H E I hf st hg;subst hP hw hK;obtain⟨hz,y_,⟨x0,y0,DO⟩,h1,h2⟩:=st;obtain⟨xs,ys,x,y,Py,RY,hx,hy⟩:=hg;obtain⟨its,rv,p,_⟩:=I.list Py;obtain⟨y6,WZ,p2,_⟩:=I.list RY;obtain⟨u,hu,ru⟩:=rv.get hx;obtain⟨u2,hu2,W4⟩:=WZ.get hy;have hzl:z<s.heap.objs.size:=bc hz;refine wpAny_pyNext_zip_item D hz y_ DO h1 h2 p.isList p2.isList (x:=u) (y:=u2) (by simpa using hu) (by simpa using hu2) fun h' z' TO' h1' h2' hT hsz hk=>?_;refine⟨_,rfl,Na (s:={s with heap:=h'}) z' fun Qs z'' sb=>?_⟩;have Si:Qs.get? s.heap.objs.size=some {cls:= .type "tuple",data:= .seq #[u,u2]}:=(sb.2 _ (j5 hzl)).trans hT;have new:ia X.prog X.w (upd H s.heap.objs.size (.tup [x,y])) Qs s.heap.objs.size (.tup [x,y]):=
   ⟨by show 2<=aG;decide,[u,u2],.cons ru (.cons W4 .nil),⟨_,Si,rfl,_,rfl⟩⟩
  have I1:Inv X pins σ (upd H s.heap.objs.size (.tup [x,y])) {s with heap:=Qs}:=
   I.A3 (t':=s.toks) (ch:=[z,TI,TO,i1,i2]) (fun c o hb q=>(sb.2 c (fun q'=>hb (by simp[q']))).trans (hk c o (fun q'=>hb (by simp[q'])) (fun q'=>hb (by simp[q'])) (fun q'=>hb (by simp[q'])) (fun q'=>hb (by simp[q'])) q)) hf (aL _) new
  refine⟨.ref s.heap.objs.size,_,I1,rfl,⟨_,x,y,rfl,I.fR.fresh (aL _),rfl,fun l hl=>by rw[I.tL hl Py];exact hx,fun l hl=>by rw[I.tL hl RY];exact hy⟩,⟨z'',?_,⟨u,u2,?_⟩,?_,?_⟩,fun c PH=>?_⟩
  ·exact(sb.2 _ D.TIz).trans (hk _ _ D.TIz D.TITO D.TIi1 D.TIi2 y_)
  ·exact(sb.2 _ D.TOz).trans TO'
  ·exact h1'.at fun o q=>(sb.2 _ D.i1z).trans q
  ·exact h2'.at fun o q=>(sb.2 _ D.i2z).trans q
  ·have qY:c<s.heap.objs.size:=by
    have e':c=z\/c=TI\/c=TO\/c=i1\/c=i2:=by simpa using PH
    rcases e' with q|q|q|q|q
    ·rw[q];exact hzl
    ·rw[q];exact bc y_
    ·rw[q];exact bc DO
    ·rw[q];obtain⟨_,e1,_⟩:=h1;exact bc e1
    ·rw[q];obtain⟨_,e2,_⟩:=h2;exact bc e2
   rw[aA (b9 qY)];exact(hf c PH).1
 done:=by
  intro X hP hw hK hc i pins s σ H E I hf st hg;subst hP hw hK;obtain⟨hz,y_,⟨x0,y0,DO⟩,h1,h2⟩:=st;obtain⟨xs,ys,Py,RY,aaH⟩:=hg;obtain⟨its,rv,p,_⟩:=I.list Py;obtain⟨y6,WZ,p2,_⟩:=I.list RY;have l1:=rv.length;have l2:=WZ.length;have he:its.toArray[i]?=none\/y6.toArray[i]?=none:=by
   rcases aaH with q|q
   ·exact .inl (by simp;omega)
   ·exact .inr (by simp;omega)
  exact wpAny_pyNext_zip_end (I.ok.hd hc) D hz y_ DO h1 h2 p.isList p2.isList he fun h' hk=>⟨rfl,I.Nu (t':=s.toks) (ch:=[z,TI,TO,i1,i2]) (fun c o hb q=>
   hk c o (fun q'=>hb (by simp[q'])) (fun q'=>hb (by simp[q'])) (fun q'=>hb (by simp[q'])) (fun q'=>hb (by simp[q'])) q) hf⟩
 self:=fun A i s Q E st h=>xr st.1 h
def adL(K:aq)(ta:TA):TI:=fun σ H R=>ta σ H fun vs H1=>∃a b xs ys,vs=[.ref a,.ref b]/\cF K H1 a xs/\cF K H1 b ys/\R (Wj K a b) H1
theorem Rj{X:Cx}{e e2:Expr}{ta:TA}{p pos zA:Pos}{elts:List Expr}{kk:Nat}(hg:Gl X "zip")(hm:X.mg "zip"=none)(ha:PA X [e,e2] ta)
  (hs:bw [e,e2] X.env=(false,eval e X.env)::bw [e2] X.env:=by rfl)(jD:(fq pos (bw [e2] X.env)).any (·.1)=false:=by rfl):
  PI X (.Tuple elts kk zA) (.Call (.Name "zip" p) [e,e2] [] pos) (adL X.K ta):=by
 intro pins s σ H R I h;refine Mb (pk I hg hm HQ (dj (gI (ha pos pins s σ H _ I h) fun us s1 ⟨vs,H1,I1,r1,q1⟩=>?_) hs jD));obtain⟨a,b,xs,ys,ex,Py,RY,q⟩:=q1;subst ex;cases r1 with
 |cons r rr=>
  cases rr with
  |cons r' rr=>
   cases rr;cases r;cases r';obtain⟨its,rv,p1,_⟩:=I1.list Py;obtain⟨y6,WZ,p2,_⟩:=I1.list RY;have la:a<s1.heap.objs.size:=p1.lt;have lb:b<s1.heap.objs.size:=p2.lt;refine call_zip_2 p1.isList p2.isList fun h' hz y_ DO h1 h2 hsz hk=>xr hz ?_;have I2:Inv X pins σ H1 {s1 with heap:=h'}:=I1.kept (t':=s1.toks) hk;refine⟨s1.heap.objs.size+4,[s1.heap.objs.size+4,s1.heap.objs.size+2,s1.heap.objs.size+3,s1.heap.objs.size,s1.heap.objs.size+1],_,_,H1,rfl,I2,QS (Nb s1.heap.objs.size a b la lb),⟨hz,y_,⟨_,_,DO⟩,h1,h2⟩,fun c PH=>?_,q⟩;have e':c=s1.heap.objs.size+4\/c=s1.heap.objs.size+2\/c=s1.heap.objs.size+3\/c=s1.heap.objs.size\/c=s1.heap.objs.size+1:=by simpa using PH
   have hle:s1.heap.objs.size<=c:=by
    rcases e' with z|z|z|z|z
    ·rw[z];exact dM _ _
    ·rw[z];exact dM _ _
    ·rw[z];exact dM _ _
    ·rw[z];exact aL _
    ·rw[z];exact dM _ _
   exact I1.MQ hle (I1.fR.fresh hle)
end L2
section
namespace afI
open PySem PyProof.Rows
end afI
end
section
namespace TL
open PySem PySem.Builtin PySem.Builtin.Str PySem.StrLaws
end TL
end
namespace L2
open PySem PySem.Spec PyProof.Rows
section
variable{X:Cx}{pins:List (Addr×Obj)}{σ:St}{H:Hp}{s:aI}{Q:VK}
end
section
variable{X:Cx}
end
section
variable{X:Cx}{o e:Expr}{to te:TE}
end
section
variable{X:Cx}
end
end L2
namespace Att
open PySem PySem.W PySem.Calls PyProof.Rows
section
variable{prog:bq}{w:cf}{A:dw}{E:ao->aI->Prop}{s:aI}{K:Frag}
end
end Att
namespace L2
open PySem PySem.Spec PyProof.Rows
def inClass(s:Stmt)(j:Nat):Stmt:=match s with
 |.ClassDef _ _ _ body _ _ _ _ _ _ _=>body.getD j (.Pass ⟨0,0,0,0⟩)
 |_=>.Pass ⟨0,0,0,0⟩
def lh(s:Stmt):Ie:=match s with
 |.FunctionDef _ a _ _ _ _ _ _ _ _=>a
 |_=>{posonlyargs:=[],args:=[],vararg:=none,kwonlyargs:=[],kw_defaults:=[],kwarg:=none,defaults:=[]}
def ju(s:Stmt):List Stmt:=match s with
 |.FunctionDef _ _ b _ _ _ _ _ _ _=>b
 |_=>[]
def aN(s:Stmt):ku:=match s with
 |.FunctionDef _ _ _ _ _ _ sc _ _ _=>sc
 |_=>{kind:= .function,names:=[],isGenerator:=false,isCoroutine:=false}
abbrev fY:Qu:=fun _ _ _ _ _ _=>False
abbrev E0:XK:=fun _ _ _=>False
theorem wu{X:Cx}:Passes fY X E0:=fun _ _ _ _ _ _ _ h=>h.elim
structure u_(K:aq)(x qual:Str)(st:Stmt)(f:Addr)(fd:gA):Prop where
 ex:∃(oc:ao) (od:Option Addr) (kV doc pm:ao) (an:Option Addr) (dY ct:ao) (LN:Array (Option ao)),
  fd=eC x qual (lh st) (ju st) (aN st) .none kV doc pm an dY ct/\K.lookup f=some ⟨oc,od,.func fd,LN⟩/\mJ K dY qual=true
 kp:gg K (.ref f)=true
section
variable{P:bq}{w:cf}{K:aq}{mg:Str->Option ao}{base:Heap}
theorem u_.ok{x qual:Str}{st:Stmt}{f:Addr}{fd:gA}{N ps:List Str}{k:Nat}{sp:Sp}(F:u_ K x qual st f fd)(S:bj N ps (aN st))(len:∀vs H Q E,sp vs H Q E->vs.length=ps.length)
  (K5:∀(dY:ao) (A:dw) (outer:List Env) (s:aI) (H:Hp) (vs:List V) (Q:VK) (E:XK),me k (A.deeper (AY qual (aN st) s.heap.objs.size f dY))->sp vs H Q E->
   ∃t,Ot (MU fY P w K mg base N qual (aN st) f dY A outer s H E).YC (ju st) t/\t {nx:=fun _ H'=>Q .gE H',rt:=Q} (start N vs) H):cz P w K mg base fY (k+1) f fd ps sp:=by
 obtain⟨oc,od,kV,doc,pm,an,dY,ct,LN,rfl,lk,LR⟩:=F.ex;refine Wc lk LR S len fun A outer s H vs Q E hr Qo=>?_;obtain⟨t,h,q⟩:=K5 dY A outer s H vs Q E hr Qo;exact⟨t,h.YC,q⟩
theorem u_.binds{x qual:Str}{st:Stmt}{f:Addr}{fd:gA}{ps:List Str}(F:u_ K x qual st f fd)
  (h:∀(kV doc pm:ao) (an:Option Addr) (dY ct:ao) (us:List ao),us.length=ps.length->qT (eC x qual (lh st) (ju st) (aN st) .none kV doc pm an dY ct) ⟨us,[]⟩=pure (ps.zip us)):Binds K fd ps []:=by
 obtain⟨oc,od,kV,doc,pm,an,dY,ct,LN,rfl,lk,LR⟩:=F.ex;exact .all (h kV doc pm an dY ct)
theorem MP{x qual:Str}{st:Stmt}{f:Addr}{oc:ao}{od an:Option Addr}{LN:Array (Option ao)}{kV doc pm dY ct:ao}(l:K.lookup f=some ⟨oc,od,.func (eC x qual (lh st) (ju st) (aN st) .none kV doc pm an dY ct),LN⟩)
  (c:mJ K dY qual=true)(k:gg K (.ref f)=true):u_ K x qual st f (eC x qual (lh st) (ju st) (aN st) .none kV doc pm an dY ct):=⟨⟨oc,od,kV,doc,pm,an,dY,ct,LN,rfl,l,c⟩,k⟩
end
theorem Fu{A:dw}{k:Nat}(hr:me k A):A.units+1<L0:=AZ (Qk (by decide:1<=64) _) hr.units
section
variable{X:Cx}
theorem pv(i:Nat){x:Str}{pos:Pos}(hN:X.N[i]?=some x:=by rfl)(hv:YZ X.env.scope x:=by first|exact zm rfl|exact Ti (zm rfl)|exact Ti (Ti rfl))(hd:(x==("__debug__":Str))=false:=by decide)
  (LR:(x==("__classdict__":Str))=false:=by decide):PE X (.Name x pos) (r8 i):=W_ hN hv hd LR
theorem P6:AQ X (.builtin "len") (fun xs H Q=>∃a kvs,xs=[V.ref a]/\H a=some (.dK kvs)/\Q (.int kvs.length) H):=by
 intro pins s σ H xs us Q I r h;obtain⟨a,kvs,rfl,ha,q⟩:=h;obtain⟨u,rfl,ru⟩:=vals1 r;cases ru;exact abe I (.inl ha) fun t s' I'=>⟨.int kvs.length,H,I',⟨t,rfl⟩,q⟩
end
theorem di{A B:Prop}(h:B):if false=true then A else B:=by
 rw[if_neg aU];exact h
theorem c_{A B:Prop}(h:A):if true=true then A else B:=by
 rw[if_pos rfl];exact h
theorem Z_{c A B:Prop}[Decidable c](hc:c)(h:B):if(!decide c)=true then A else B:=by
 rw[decide_eq_true hc];exact di h
def dc(H H':Hp):Prop:=∀b o,H b=some o->H' b=some o
theorem dc.refl(H:Hp):dc H H:=fun _ _ h=>h
theorem dc.trans{H H1 H2:Hp}(a:dc H H1)(b:dc H1 H2):dc H H2:=fun c o h=>b c o (a c o h)
theorem dc.free{H H':Hp}(e:dc H H'){l:Addr}(h:H' l=CH):H l=CH:=by
 cases q:H l with
 |none=>rfl
 |some o=>
  rw[e l o q] at h;cases h
theorem dc.seq{K:aq}{H H':Hp}{a:Addr}{xs:List V}(e:dc H H')(h:cF K H a xs):cF K H' a xs:=by
 rcases h with(h|⟨o,h⟩)|h
 ·exact .inl (.inl (e _ _ h))
 ·exact .inl (.inr ⟨o,e _ _ h⟩)
 ·exact .inr h
section
variable{κ:Type}[DecidableEq κ]
theorem QP{kvs:List (κ×V)}{k:κ}(h:iL kvs k=none): ¬k∈kvs.map (·.1):=by
 intro m;obtain⟨p,hp,e⟩:=bz.mp m;have q:(kvs.any fun kv=>decide (kv.1=k))=true:=Tu.mpr ⟨p,hp,decide_eq_true e⟩;rw[mL,h] at q;exact absurd q (by simp)
theorem T6{kvs:List (κ×V)}{k:κ}{v:V}(h:iL kvs k=some v):k∈kvs.map (·.1):=by
 have q:(kvs.any fun kv=>decide (kv.1=k))=true:=by
  rw[mL,h]
  all_goals rfl
 obtain⟨p,hp,e⟩:=Tu.mp q;exact bz.mpr ⟨p,hp,of_decide_eq_true e⟩
theorem NP:∀{l:List κ} {k:κ},l.Nodup-> ¬k∈l->(l++[k]).Nodup
 |[],k,_,_=>by simp
 |a::r,k,h,hk=>by
  obtain⟨h1,h2⟩:=bG.mp h;show(a::(r++[k])).Nodup;refine bG.mpr ⟨fun m=>?_,NP h2 fun m=>hk (az.mpr (Ti m))⟩;rcases bQ.mp m with q|q
  ·exact h1 q
  ·exact hk (az.mpr (zm (bp.mp q).symm))
theorem US{kvs:List (κ×V)}{k:κ}(v:V)(hn:(kvs.map (·.1)).Nodup)(h:iL kvs k=none):((putK kvs k v).map (·.1)).Nodup:=by
 rw[Ku v h,cb];exact NP hn (QP h)
theorem PZ{p:κ×V}{r:List (κ×V)}{k:κ}(e:p.1=k):pI (p::r) k=pI r k:=by
 unfold pI;rw[aZ,if_neg (by simp[e])]
theorem P0{p:κ×V}{r:List (κ×V)}{k:κ}(e: ¬p.1=k):pI (p::r) k=p::pI r k:=by
 unfold pI;rw[aZ,if_pos (by simp[e])]
end
theorem at_of{xs:List V}{z:Int}{j:Nat}{v:V}(e:z=(j:Int))(h:xs[j]?=some v):Ye xs z=some v:=by
 rw[e];exact Vu h
theorem V1{α:Type}{l:List α}(hN:l.Nodup){i j:Nat}{x:α}(a:l[i]?=some x)(b:l[j]?=some x):i=j:=by
 obtain⟨h1,e1⟩:=aP.mp a;obtain⟨h2,e2⟩:=aP.mp b;exact(Ts hN).mp (e1.trans e2.symm)
theorem dc.made{H H1:Hp}{x dx C:Addr}(nx:H x=CH)(nd:H dx=CH)(k:∀b o,(upd (upd H dx (.own x)) x (.ins C dx [])) b=some o->b≠x->H1 b=some o):dc H H1:=fun b o e=>
 k b o (by rw[aA (aE e nx),aA (aE e nd)];exact e) (aE e nx)
theorem UL{X:Cx}{x:Str}{i:Int}{pos:Pos}(hg:Gl X x)(hm:∃t,X.mg x=some (.int i t))(hd:(x==("__debug__":Str))=false:=by decide):PE X (.Name x pos) (tC (.int i)):=by
 obtain⟨t,hm⟩:=hm;exact NK hg hm ⟨t,rfl⟩ hd
section
variable{X:Cx}
def Ra:V->List V->Hp->VK->Prop:=fun x vs H Q=>∃l xs y,x= .ref l/\vs=[.int 0,y]/\H l=some (.lst xs)/\xs.length<aG/\Q .gE (upd H l (.lst (y::xs)))
theorem Hz:MtM X "list.insert" Ra:=by
 intro pins s σ H x vs v us Q I rx rv h;obtain⟨l,xs,y,rfl,rfl,hH,hz,q⟩:=h;cases rx;obtain⟨u,u2,rfl,ru,W4⟩:=rv.two;obtain⟨t,rfl⟩:=ru;obtain⟨z,its,n,r,hl,e⟩:=I.KQ hH;refine yC vc ⟨_,e,rfl⟩ F.entry_list_insert (F.args_list_insert_3 _ _ _) (Yz l its.toArray n 0 t u2 (by decide) (by rw[bu];omega)) ⟨e,?_⟩;refine⟨.gE,_,I.RH (its':=u2::its) hH e (by simp) (.cons W4 r) ?_,rfl,q⟩;rw[aQ];omega
def Uw:V->List V->Hp->VK->Prop:=fun x vs H Q=>∃(l:Addr) (ns:List Int) (i:Int),x= .ref l/\vs=[.int i]/\H l=some (.lst (ns.map V.int))/\i∈ns/\Q .gE (upd H l (.lst ((ns.erase i).map V.int)))
theorem RU{ns:List Int}:∀{us:List ao},Vals (ns.map V.int) us->∀u∈us,∃(k:Int) (t:Tok),u= .int k t:=by
 induction ns with
 |nil=>intro us r u hu;rw[vA] at r;cases r;cases hu
 |cons n ns ih=>
  intro us r u hu;rw[bE] at r;cases r with
  |cons r1 r2=>
   rcases az.mp hu with e|hu
   ·obtain⟨t,e2⟩:=r1;exact⟨n,t,e.trans e2⟩
   ·exact ih r2 u hu
theorem ints_get{ns:List Int}{us:List ao}(r:Vals (ns.map V.int) us){j:Nat}(h:j<us.length):∃(t:Tok) (h2:j<ns.length),us[j]= .int ns[j] t:=by
 have hl:=r.length;rw[ab] at hl;have h2:j<ns.length:=by omega
 obtain⟨u,hu,ru⟩:=r.get (i:=j) (x:= .int ns[j]) (by rw[aM,aS h2];rfl);obtain⟨t,rfl⟩:=ru;refine⟨t,h2,?_⟩;rw[aS h] at hu;exact aR hu
theorem Le:∀(l:List Int) (i:Int),l.erase i=l.eraseIdx (l.idxOf i)
 |[],_=>rfl
 |a::l,i=>by
  by_cases e:a=i
  ·subst e;rw[pB,List.idxOf_cons_self];rfl
  ·have hb:(a==i)=false:=beq_eq_false_iff_ne.mpr e;rw[pA (by rw[hb];exact aU),List.idxOf_cons,hb];show a::l.erase i=a::l.eraseIdx (l.idxOf i);rw[Le l i]
theorem yu:∀(l:List Int) (j:Nat),(l.map V.int).eraseIdx j=(l.eraseIdx j).map V.int
 |[],_=>rfl
 |_::_,0=>rfl
 |a::l,j+1=>by
  show V.int a::(l.map V.int).eraseIdx j=V.int a::(l.eraseIdx j).map V.int;rw[yu l j]
def isI(i:Int):ao->Bool
 |.int k _=>k==i
 |_=>false
theorem Pd:MtM X "list.remove" Uw:=by
 intro pins s σ H x vs v us Q I rx rv h;obtain⟨l,ns,i,rfl,rfl,hH,hi,q⟩:=h;cases rx;obtain⟨u,rfl,ru⟩:=rv.one;obtain⟨t,rfl⟩:=ru;obtain⟨z,its,n,r,hl,e⟩:=I.KQ hH;have hln:ns.length=its.length:=by rw[<-hl,ab]
 have hj:ns.idxOf i<ns.length:=List.idxOf_lt_length_of_mem hi;have YQ:ns.idxOf i<its.toArray.size:=by rw[bu];omega
 have hz:its.toArray.size<=aG:=by rw[bu,<-hl];exact z
 refine yC L9 ⟨_,e,rfl⟩ F.entry_list_remove (F.args_list_remove_2 _ _) (Yv l its.toArray n (.int i t) (isI i) (fun y hy=>?_) (ns.idxOf i) YQ ?_ (fun m hm Jx=>?_) hz) ⟨e,?_⟩
 ·obtain⟨k,t2,rfl⟩:=RU r y (by simpa using hy);exact Nd k i t2 t
 ·obtain⟨t2,h2,e2⟩:=ints_get r (j:=ns.idxOf i) (by omega);have:its.toArray[ns.idxOf i]=j8 ns[ns.idxOf i] t2:=by simpa using e2
  rw[this];show(ns[ns.idxOf i]==i)=true;rw[List.getElem_idxOf];exact beq_self_eq_true i
 ·obtain⟨t2,h2,e2⟩:=ints_get r (j:=m) (by simpa using hm);have:its.toArray[m]=j8 ns[m] t2:=by simpa using e2
  rw[this];show(ns[m]==i)=false;exact LI Jx
 ·have e3:ns.erase i=ns.eraseIdx (ns.idxOf i):=Le ns i;refine⟨.gE,_,I.RH (t':=s.toks) (its':=its.eraseIdx (ns.idxOf i)) hH e (by simp) ?_ ?_,rfl,q⟩
  ·rw[e3];have:=r.eraseIdx (ns.idxOf i)
   rwa [yu] at this
  ·rw[ab];exact aD (List.length_erase_le) (by rw[<-ab (f:=V.int)];exact z)
end
def Yi(K:aq)(a:Addr)(kvs:List (Key×V)):Prop:=∀(P:bq) (w:cf) (h:Heap),K.In h->∃vs,KV kvs vs/\h.DictOf (fk P w) a vs
def ZI(kvs:List (Key×V))(ty:TE):TE:=fun σ H Q=>ty σ H fun y H1=>∃k v,y=kV k/\iL kvs k=some v/\Q v H1
section
variable{X:Cx}{a:Addr}{kvs:List (Key×V)}{x:Str}{i func e:Expr}{es:List Expr}{pos p:Pos}{ty tf:TE}{t:TA}
theorem z9(hg:Gl X x)(hm:X.mg x=some (.ref a))(hd:Yi X.K a kvs)(hi:PE X i ty)(hs:abn i)(PF:(x==("__debug__":Str))=false:=by decide):PE X (.Subscript (.Name x p) i pos) (ZI kvs ty):=by
 intro pins s σ H Q I h;refine Nz F6.lookup hs (Ai I hg hm (gI (hi pins s σ H _ I h) fun iv s2 ⟨y,H2,I2,ry,k,v,ey,l,q2⟩=>?_) PF);subst ey;obtain⟨vs,rel,dd⟩:=hd X.prog X.w s2.heap I2.KW;obtain⟨w',hw,OW⟩:=uS.some_of (v:=v) (o:=sO vs k) (by rw[<-l];exact rel.val k);exact⟨dd.typeIs,Y4 (HB ry) dd.mapOf hw ⟨v,H2,I2.tok _,OW,q2⟩⟩
def WR(X:Cx)(tf:TE)(t:TA):TE:=fun σ H Q=>tf σ H fun z H1=>∃(f:Addr) (fd:gA) (ps:List Str) (sp:Sp) (k:Nat),z= .ref f/\cz X.prog X.w X.K X.mg X.base fY k f fd ps sp/\me k X.A/\gg X.K (.ref f)=true/\Binds X.K fd ps []/\
 t σ H1 fun vs H2=>sp vs H2 Q E0
theorem EU(hf:PE X func tf)(ha:PA X (e::es) t)(wH:bw (e::es) X.env=(false,eval e X.env)::bw es X.env:=by rfl)(jD:(fq pos (bw es X.env)).any (·.1)=false:=by rfl)
  (he:eval (.Call func (e::es) [] pos) X.env=(do LZ pos (<-eval func X.env) [] (fq pos (bw (e::es) X.env)) (o8 pos (jc [] X.env))):=by rfl):
  PE X (.Call func (e::es) [] pos) (WR X tf t):=by
 intro pins s σ H Q I h;refine Mb (gI (hf pins s σ H _ I h) fun u s1 ⟨z,H1,I1,rz,f,fd,ps,sp,k,ez,F,hr,hk,hb,q⟩=>?_) he;subst ez;obtain rfl:u=cu f:=rz;refine qb (h₀:=X.base) I.ok.mod.Xo hk (gI (ha pos pins s1 σ H1 _ I1 q) fun us s2 ⟨vs,H2,I2,r,q2⟩=>⟨I2.KW,?_⟩) wH jD;exact IL F hr hb .nil wu I2 r (by rw[cE];exact q2)
end
section
variable{X:Cx}{K:aq}{e:Expr}{f:Str}{pos:Pos}{ta:TE}
theorem ux(hK:X.K=K)(he:PE X e ta)(hb:jk e f X.env (eval e X.env)=eval e X.env):PE X (.Attribute e f pos) (QZ K ta f):=by
 subst hK;exact Ro he hb
theorem RN(hK:X.K=K):IxR X (Uy K):=by
 subst hK;exact NV
theorem NI{es:List Expr}{k:Nat}{t:Wi}{n:Nat}(hK:X.K=K)(hc:X.calm=true)(h:PGs X es t)(hn:(ub es X.env).length=n:=by rfl)(wH:(ub es X.env).findIdx? (·.1)=none:=by rfl):PG X (.Tuple es k pos) (aa5 K n t):=by
 subst hK;exact Mt hc h hn wH
end
namespace Lr
theorem Xd:LX (.type "list_reverseiterator") "__len__"=pure none:=by rw[typeLookup_type,Tg];kernel_rfl
theorem RO:LX (.type "list_reverseiterator") "__length_hint__"=pure (some (.builtin "list_reverseiterator.__length_hint__")):=by rw[typeLookup_type,Tg];kernel_rfl
theorem sub_self:isSubtype (.type "list_reverseiterator") (.type "list_reverseiterator")=pure true:=by rw[isSubtype_type];kernel_rfl
section
variable{prog:bq}{w:cf}{A:dw}{E:ao->aI->Prop}{s:aI}
theorem hint{it l:Addr}{i:Int}{Q:Bool->aI->Prop}(hit:s.heap.IsRevIter it l i)(h:Q false s):bF (bS prog w) A (zr (.ref it)) Q E s:=by
 unfold zr;refine aK (J4 hit.typeIs Xd ?_)
 wp_delta
 show bF _ A (specialOf (cu it) (iV "__length_hint__")>>=_) _ _ _;refine aK (J4 hit.typeIs RO ?_);generalize hid:("list_reverseiterator.__length_hint__":String)=id0
 wp_delta
 rw[show splitId id0=some ("list_reverseiterator","__length_hint__") from by subst hid;decide+kernel];subst hid;refine aK (Y3 (T:="list_reverseiterator") (b:=true) hit.typeIs sub_self ?_);refine zi (fun q=>absurd q (by decide)) (fun _=>?_);refine zi (fun _=>?_) (fun q=>absurd (by decide+kernel) q);refine zi (fun q=>absurd q (by decide+kernel)) (fun _=>?_);exact bH h
theorem extend{R:L7->aI->Prop}{it l S c0:Addr}{its:Array ao}{res:ao}(hh:A.handled=none)(tN:l≠it)(hit:s.heap.IsRevIter it l ((its.size:Int) -1 -((0:Nat):Int)))(hl:s.heap.IsList l its)(hz:its.size<=aG)
  (hS:s.heap.get? S=some {cls:= .type "list",data:= .seq #[] c0})(hSl:S≠l)
  (hR:∀g tk out c1,(∀b o,b≠S->b≠it->s.heap.get? b=some o->g.get? b=some o)->g.get? S=some {cls:= .type "list",dict:=none,data:= .seq out c1,slots:=#[]}->Yw (fun i v=>its[its.size -1 -i]?=some v) out its.size->R (.ok (.ret res)) {s with heap:=g,toks:=tk}):
  bF (bS prog w) A.in1 (og (.ref S) (.ref it) res)
   (fun fin u=>match fin with|.done f=>R (.ok f) u|.again c'=>c'.quiet=true/\sP (bS prog w) A c' R u) (fun e u=>R (.error e) u) s:=by
 have hSi:S≠it:=fun e=>by
  obtain⟨o,ho,hc,_⟩:=hit;rw[e,ho] at hS;cases hS;simp at hc
 have W:=(Walks.listRev (prog:=prog) (w:=w) (A:=A.in1) hh it l tN its).toS;unfold og;refine aK (wpAny_typeOf (T:="list_reverseiterator") hit.typeIs ?_);have q1:BK (.ref S) (.ref it)=false:=by simp[BK,hSi]
 have q2:(jz "list_reverseiterator"==jz "list")=false:=by decide
 have q3:(jz "list_reverseiterator"==jz "tuple")=false:=by decide
 simp only[q1,q2,q3,Bool.or_false,AU,if_false];refine aK (AV hit ?_);refine aK (DB (hint hit ?_));refine zi (fun q=>absurd q (by decide+kernel)) (fun _=>?_);refine bH ⟨vG F.plain_extend_loop _,codeAny_extend_loopS W hz S (by simp[hSi,hSl]) res its.size 0 _ #[] c0 rfl (aT _) ⟨aT _,hit,hl⟩ hS (ItemsOf.nil _) fun u out c1 hm hS' ha=>?_⟩;rw[Moved.eq_with hm];exact hR u.heap u.toks out c1 (fun b o n1 n2 e=>hm.heap b o (by simp[n1,n2]) e) hS' ha
theorem init{R:L7->aI->Prop}{it l S:Addr}{its:Array ao}(hh:A.handled=none)(tN:l≠it)(hit:s.heap.IsRevIter it l ((its.size:Int) -1 -((0:Nat):Int)))(hl:s.heap.IsList l its)(hz:its.size<=aG)
  (hS:s.heap.get? S=some {cls:= .type "list",data:= .seq #[]})(hSl:S≠l)(hSi:S≠it)
  (hR:∀g tk out c1,(∀b o,b≠S->b≠it->s.heap.get? b=some o->g.get? b=some o)->g.get? S=some {cls:= .type "list",dict:=none,data:= .seq out c1,slots:=#[]}->Yw (fun i v=>its[its.size -1 -i]?=some v) out its.size->R (.ok (.ret .none)) {s with heap:=g,toks:=tk}):
  bF (bS prog w) A.in1 (Builtin.«list.__init__» ⟨[.ref S,.ref it],[]⟩)
   (fun fin u=>match fin with|.done f=>R (.ok f) u|.again c'=>c'.quiet=true/\sP (bS prog w) A c' R u) (fun e u=>R (.error e) u) s:=by
 show bF _ _ (DD (.ref S)>>=fun old=>Builtin.List.listUpdate (.ref S) (fun _=>#[])>>=fun _=>letGo old.toList.reverse>>=fun _=>og (.ref S) (.ref it) .none) _ _ s;refine aK ?_;unfold DD;refine aK (iH hS rfl (bH ?_));refine aK (zh hS rfl ?_);have Vf:=oI (vJ (fun _=>(#[]:Array ao))) hS rfl;have Rq:∀b,b≠S->∀o,s.heap.get? b=some o->(s.heap.update S (vJ (fun _=>(#[]:Array ao)))).get? b=some o:=fun b hb o e=>(jH _ _ hb.symm).trans e;refine aK (qR ?_);refine extend hh tN (hit.at (Rq it hSi.symm)) (hl.at (Rq l hSl.symm)) hz Vf hSl fun g tk out c1 kp hS' ha=>hR g tk out c1 (fun b o n1 n2 e=>kp b o n1 n2 (Rq b n1 o e)) hS' ha
theorem P5{Q:ao->aI->Prop}{it l:Addr}{its:Array ao}(hh:A.handled=none)(tN:l≠it)(hit:s.heap.IsRevIter it l ((its.size:Int) -1 -((0:Nat):Int)))(hl:s.heap.IsList l its)(hz:its.size<=aG)
  (hQ:∀g tk out c1,(∀b o,b≠it->s.heap.get? b=some o->g.get? b=some o)->g.get? s.heap.objs.size=some {cls:= .type "list",dict:=none,data:= .seq out c1,slots:=#[]}->Yw (fun i v=>its[its.size -1 -i]?=some v) out its.size->Q (.ref s.heap.objs.size) {s with heap:=g,toks:=tk}):
  bF (bS prog w) A (call (.type "list") [.ref it]) Q E s:=by
 have hil:it<s.heap.objs.size:=let ⟨_,e,_⟩:=hit;bc e
 have XD:l<s.heap.objs.size:=let ⟨_,e,_⟩:=hl;bc e
 refine callType_codes (Q₁:=fun obj u=>obj= .ref s.heap.objs.size/\u={s with heap:=s.heap.push {cls:= .type "list",data:= .seq #[]} }) F.called_list (F.typeCall_list_1 _) F.entry_list_init (code_list_new _ ⟨rfl,rfl⟩) ?_;rintro obj u ⟨rfl,rfl⟩;have hS:(s.heap.push {cls:= .type "list",data:= .seq #[]}).get? s.heap.objs.size=some {cls:= .type "list",data:= .seq #[]}:=bt _ rfl;refine⟨⟨_,hS,rfl⟩,F.args_list_init_2 _ _,?_⟩;refine init (A:=A.in1) hh tN (hit.at fun o e=>ay _ e) (hl.at fun o e=>ay _ e) hz hS (j5 XD) (j5 hil) fun g tk out c1 kp hS' ha=>?_;exact⟨rfl,hQ g tk out c1 (fun b o nb e=>kp b o (b9 (bc e)) nb (ay _ e)) hS' ha⟩
end
end Lr
theorem OX{xs:List V}{its:List ao}{out:Array ao}(r:Vals xs its)(h:Yw (fun i v=>its.toArray[its.toArray.size -1 -i]?=some v) out its.toArray.size):Vals xs.reverse out.toList:=by
 have e:out.toList=its.reverse:=by
  refine QF fun j=>?_;obtain⟨h1,h2⟩:=h;have h1:out.size=its.length:=h1.trans (by simp);by_cases q:j<its.length
  ·have hj:j<out.size:=by omega
   have:=h2 j out[j] (by simp[hj]);rw[Mh q];rw[bu] at this;have t2:its[its.length -1 -j]?=some out[j]:=by simpa using this
   rw[t2];simp[hj]
  ·rw[fZ (by simp;omega),fZ (by simp;omega)]
 rw[e];exact r.reverse
def QY(K:aq)(ta:TA):TE:=fun σ H Q=>ta σ H fun vs H1=>∃(a:Addr) (xs:List V),vs=[.ref a]/\cF K H1 a xs/\∀l,H1 l=none->Q (.ref l) (upd H1 l (.lst xs.reverse))
theorem Mu{X:Cx}{e:Expr}{ta:TA}{p p2 pos UG:Pos}(hg:Gl X "list")(hm:X.mg "list"=none)(hg2:Gl X "reversed")(hm2:X.mg "reversed"=none)(hc:X.calm=true)(ha:PA X [e] ta)
  (hs:bw [e] X.env=[(false,eval e X.env)]:=by rfl)(TF:bw [.Call (.Name "reversed" p2) [e] [] UG] X.env=[(false,eval (.Call (.Name "reversed" p2) [e] [] UG) X.env)]:=by rfl):
  PE X (.Call (.Name "list" p) [.Call (.Name "reversed" p2) [e] [] UG] [] pos) (QY X.K ta):=by
 intro pins s σ H Q I h;refine Mb (pk I hg hm boot_list (dj ?_ TF rfl));rw[TF];refine mE ?_;refine Mb (pk I hg2 hm2 wV (dj (gI (ha UG pins s σ H _ I h) fun us s1 ⟨vs,H1,I1,r1,q1⟩=>?_) hs rfl));obtain⟨a,xs,ev,hq,q⟩:=q1;subst ev;cases r1 with
 |cons r rr=>
  cases rr;cases r;obtain⟨its,rv,pl,hz⟩:=I1.list hq;have hlen:=rv.length;refine Wv pl.isList ?_;refine sL ?_;have YX:a<s1.heap.objs.size:=let ⟨_,e,_⟩:=pl.isList;bc e
  refine Lr.P5 (its:=its.toArray) (I.ok.hd hc) (b9 YX) ⟨_,bt _ rfl,rfl,by simp[revObj]⟩ (pl.isList.at fun o e=>ay _ e) (by rw[bu];omega) fun g tk out c1 kp hS ho=>?_;refine⟨.ref _,_,I1.laid (t':=tk) (a:=(s1.heap.push (revObj a ((its.toArray.size:Int) -1))).objs.size) (o:= .lst xs.reverse) (fun b o e=>kp b o (b9 (bc e)) (ay _ e)) (by rw[cH];exact fT _) ?_,rfl,q _ (I1.fR.fresh (by rw[cH];exact fT _))⟩;exact⟨by rw[dE];omega,out.toList,c1,OX rv ho,by simpa using hS⟩
namespace Zt
section
variable{prog:bq}{w:cf}{A:dw}{E:ao->aI->Prop}{s:aI}
theorem Zv{it t:Addr}{i:Nat}{its:Array ao}{x:ao}{Q:ao->aI->Prop}(hit:s.heap.IsTupleIter it t i)(ht:s.heap.IsTuple t its)(hx:its[i]?=some x)
  (hQ:∀g,g.IsTupleIter it t (i+1)->vz it s.heap g->Q x {s with heap:=g}):bF (bS prog w) A (gx (.ref it)) Q E s:=by
 obtain⟨o,ho,hc,hd⟩:=id hit;obtain⟨ot,hot,_,nt,hdt⟩:=ht;unfold gx;refine aK (xu (name:=iV "__next__") hit.typeIs J6 (xt J6 hit.typeIs F.entry_tuple_iterator_next ?_ (F.args_tuple_iterator_next_1 _)));show bF _ _ (Yq (cu it) 0>>=_) _ _ s;refine aK (kq (x:= .ref t) ho hd rfl ?_);show bF _ _ (ite ((cu t==Gg)=true) _ _) _ _ s;rw[if_neg (by exact aU)];show bF _ _ (Yq (cu it) 1>>=_) _ _ s;refine aK (kq (x:= .int i 0) ho hd rfl ?_);show bF _ _ (Y7 (cu t)>>=_) _ _ s;refine aK (iH hot hdt ?_);simp only[Tv,hx];refine aK (wpAny_setField ho hd (by simp) (bH ⟨x,rfl,bH (hQ _ ⟨_,oI _ ho (Obj.isFreed_of_fields (QA hd _)),(Obj.cls_mapFields ..).trans hc,?_⟩ (Heap.SameBut.update ..))⟩));rw[QA hd];simp[l8]
theorem item{z TI TO i1 i2 l1 l2:Addr}{k1 k2:Nat}{xs ys:Array ao}{x y a b:ao}{Q:ao->aI->Prop}(D:Gf z TI TO i1 i2 l1 l2)(hz:vy s.heap z TI TO .none)(y_:kD s.heap TI (.ref i1) (.ref i2))(DO:kD s.heap TO a b)
  (h1:s.heap.IsListIter i1 l1 k1)(h2:s.heap.IsTupleIter i2 l2 k2)(xT:s.heap.IsList l1 xs)(uK:s.heap.IsTuple l2 ys)(hx:xs[k1]?=some x)(hy:ys[k2]?=some y)
  (hQ:∀g,vy g z TI TO (l8 s.heap.objs.size)->kD g TO x y->g.IsListIter i1 l1 (k1+1)->g.IsTupleIter i2 l2 (k2+1)->kD g s.heap.objs.size x y->g.objs.size=s.heap.objs.size+1->
   (∀c o,c≠z->c≠TO->c≠i1->c≠i2->s.heap.get? c=some o->g.get? c=some o)->Q (.ref s.heap.objs.size) {s with heap:=g}):
  bF (bS prog w) A (Builtin.«zip.__next__» ⟨[.ref z],[]⟩) (fun fin u=>∃v,fin= .done (.ret v)/\Q v u) E s:=by
 show bF _ _ (Yq (cu z) 2>>=_) _ _ _;refine aK (kq (x:= .bool false) hz rfl rfl ?_);show bF _ _ (Yq (cu z) 3>>=_) _ _ _;refine aK (kq (x:= .ref TI) hz rfl rfl ?_);refine aK (iH y_ rfl ?_);show bF _ _ (gb (cu z)>>=_) _ _ _;refine aK ?_;unfold gb;refine aK (kq (x:= .none) hz rfl rfl (bH ?_));simp only[if_true];refine aK (Wq (aK (kq (x:= .ref TO) hz rfl rfl ?_)));refine aK (nN hz (by simp) fun g1 Xv m1=>?_);replace Xv:vy g1 z TI TO .ellipsis:=Xv;refine aK ?_;simp only[Tn,TV,F9,x5];refine aK (aK (Ow ?_));show bF _ _ (gx (cu i1)>>=_) _ _ _;refine aK (wpAny_nextOf_list_item (h1.extBut m1.extBut D.i1z) (xT.extBut m1.extBut D.l1z) hx fun g2 n1 m2=>bH ?_);have aaZ:kD g2 TO a b:=m2.extBut _ _ D.TOi1 (m1.extBut _ _ D.TOz DO);refine aK (iH aaZ rfl (aK (TM aaZ fun g3 XY m3=>?_)));replace XY:kD g3 TO x b:=XY;refine aK (qR (bH (aK (aK (Ow ?_)))));show bF _ _ (gx (cu i2)>>=_) _ _ _;refine aK (Zv (((h2.extBut m1.extBut D.i2z).extBut m2.extBut D.i12.symm).extBut m3.extBut D.TOi2.symm) (((uK.extBut m1.extBut D.l2z).extBut m2.extBut D.l2i1).extBut m3.extBut D.l2TO) hy fun g4 n2 m4=>bH ?_);have aaY:kD g4 TO x b:=m4.extBut _ _ D.TOi2 XY;refine aK (iH aaY rfl (aK (TM aaY fun g5 Ve m5=>?_)));replace Ve:kD g5 TO x y:=Ve;refine aK (qR (bH (bH (aK (iH Ve rfl (aK (wpAny_newTuple ?_)))))));have sz:g5.objs.size=s.heap.objs.size:=by rw[m5.1,m4.1,m3.1,m2.1,m1.1]
 have z5:vy g5 z TI TO .ellipsis:=m5.extBut _ _ D.TOz.symm (m4.extBut _ _ D.i2z.symm (m3.extBut _ _ D.TOz.symm (m2.extBut _ _ D.i1z.symm Xv)));have kp:∀c o,c≠z->c≠TO->c≠i1->c≠i2->s.heap.get? c=some o->g5.get? c=some o:=fun c o c1 c2 c3 c4 e=>m5.extBut _ _ c2 (m4.extBut _ _ c4 (m3.extBut _ _ c2 (m2.extBut _ _ c3 (m1.extBut _ _ c1 e))));have n1':g5.IsListIter i1 l1 (k1+1):=((n1.extBut m3.extBut D.TOi1.symm).extBut m4.extBut D.i12).extBut m5.extBut D.TOi1.symm;have n2':g5.IsTupleIter i2 l2 (k2+1):=n2.extBut m5.extBut D.TOi2.symm;have zlt:z<g5.objs.size:=bc z5;show bF _ _ (rb (cu z) (.ref g5.objs.size)>>=_) _ _ _;refine aK ?_;unfold rb;have z6:vy (g5.push {cls:= .type "tuple",data:= .seq #[x,y]}) z TI TO .ellipsis:=ay _ z5;refine aK (nN z6 (by simp) fun g7 z7 m7=>?_);replace z7:vy g7 z TI TO (l8 g5.objs.size):=z7;refine nN z7 (by simp) fun g8 z8 m8=>?_;replace z8:vy g8 z TI TO (l8 g5.objs.size):=z8;have up:∀c o,c≠z->g5.get? c=some o->g8.get? c=some o:=fun c o c1 e=>m8.extBut _ _ c1 (m7.extBut _ _ c1 (ay _ e));have t8:kD g8 g5.objs.size x y:=m8.extBut _ _ (j5 zlt) (m7.extBut _ _ (j5 zlt) (bt _ rfl));have s8:g8.objs.size=g5.objs.size+1:=by rw[m8.1,m7.1,cH]
 rw[sz] at z8 t8 s8;refine bH ⟨_,rfl,?_⟩;show Q (.ref g5.objs.size) _;rw[sz];exact hQ g8 z8 (up _ _ D.TOz Ve) (n1'.at fun o e=>up _ o D.i1z e) (let ⟨o,e,r⟩:=n2';⟨o,up _ o D.i2z e,r⟩) t8 s8 fun c o c1 c2 c3 c4 e=>up c o c1 (kp c o c1 c2 c3 c4 e)
theorem fin{z TI TO i1 i2 l1 l2:Addr}{k1:Nat}{xs:Array ao}{a b:ao}{Q:Fin->aI->Prop}(hh:A.handled=none)(D:Gf z TI TO i1 i2 l1 l2)(hz:vy s.heap z TI TO .none)(y_:kD s.heap TI (.ref i1) (.ref i2))
  (h1:s.heap.IsListIter i1 l1 k1)(xT:s.heap.IsList l1 xs)(hx:xs[k1]?=none)
  (hE:∀g e,(∀c o,c≠z->c≠TO->c≠i1->c≠i2->s.heap.get? c=some o->g.get? c=some o)->(∃o,g.get? e=some o/\o.cls= .type "StopIteration")->E (.ref e) {s with heap:=g}):
  bF (bS prog w) A (Builtin.«zip.__next__» ⟨[.ref z],[]⟩) Q E s:=by
 show bF _ _ (Yq (cu z) 2>>=_) _ _ _;refine aK (kq (x:= .bool false) hz rfl rfl ?_);show bF _ _ (Yq (cu z) 3>>=_) _ _ _;refine aK (kq (x:= .ref TI) hz rfl rfl ?_);refine aK (iH y_ rfl ?_);show bF _ _ (gb (cu z)>>=_) _ _ _;refine aK ?_;unfold gb;refine aK (kq (x:= .none) hz rfl rfl (bH ?_));simp only[if_true];refine aK (Wq (aK (kq (x:= .ref TO) hz rfl rfl ?_)));refine aK (nN hz (by simp) fun g1 Xv m1=>?_);replace Xv:vy g1 z TI TO .ellipsis:=Xv;refine aK ?_;simp only[Tn,TV,F9,x5];refine aK (aK (Ow ?_));show bF _ _ (gx (cu i1)>>=_) _ _ _;refine aK (wpAny_nextOf_list_end hh (h1.extBut m1.extBut D.i1z) (xT.extBut m1.extBut D.l1z) hx fun g2 e m2 he=>?_);obtain⟨oe,hoe,hce⟩:=he;have z2:vy g2 z TI TO .ellipsis:=m2 _ _ D.i1z.symm Xv;have ez:e≠z:=fun q=>by subst q;rw[z2] at hoe;cases hoe;simp at hce
 exact nN z2 (by simp) fun g3 _ m3=>hE g3 e (fun c o c1 _ c3 _ q=>m3.extBut _ _ c1 (m2 _ _ c3 (m1.extBut _ _ c1 q))) ⟨oe,m3.extBut _ _ ez hoe,hce⟩
theorem next_item{z TI TO i1 i2 l1 l2:Addr}{k1 k2:Nat}{xs ys:Array ao}{x y a b:ao}{Q:Option ao->aI->Prop}(D:Gf z TI TO i1 i2 l1 l2)(hz:vy s.heap z TI TO .none)(y_:kD s.heap TI (.ref i1) (.ref i2))(DO:kD s.heap TO a b)
  (h1:s.heap.IsListIter i1 l1 k1)(h2:s.heap.IsTupleIter i2 l2 k2)(xT:s.heap.IsList l1 xs)(uK:s.heap.IsTuple l2 ys)(hx:xs[k1]?=some x)(hy:ys[k2]?=some y)
  (hQ:∀g,vy g z TI TO (l8 s.heap.objs.size)->kD g TO x y->g.IsListIter i1 l1 (k1+1)->g.IsTupleIter i2 l2 (k2+1)->kD g s.heap.objs.size x y->g.objs.size=s.heap.objs.size+1->
   (∀c o,c≠z->c≠TO->c≠i1->c≠i2->s.heap.get? c=some o->g.get? c=some o)->Q (some (.ref s.heap.objs.size)) {s with heap:=g}):bF (bS prog w) A (D7 (.ref z)) Q E s:=by
 have hT:s.TypeIs (.ref z) "zip":=⟨_,hz,rfl⟩;unfold D7;refine aK (wpAny_attempt (xu (name:=iV "__next__") hT xY (xt xY hT Wz ?_ (VH _))));exact item D hz y_ DO h1 h2 xT uK hx hy fun g a1 a2 a3 a4 a5 a6 a7=>bH (hQ g a1 a2 a3 a4 a5 a6 a7)
theorem next_end{z TI TO i1 i2 l1 l2:Addr}{k1:Nat}{xs:Array ao}{Q:Option ao->aI->Prop}(hh:A.handled=none)(D:Gf z TI TO i1 i2 l1 l2)(hz:vy s.heap z TI TO .none)(y_:kD s.heap TI (.ref i1) (.ref i2))
  (h1:s.heap.IsListIter i1 l1 k1)(xT:s.heap.IsList l1 xs)(hx:xs[k1]?=none)
  (hQ:∀g,(∀c o,c≠z->c≠TO->c≠i1->c≠i2->s.heap.get? c=some o->g.get? c=some o)->Q none {s with heap:=g}):bF (bS prog w) A (D7 (.ref z)) Q E s:=by
 have hT:s.TypeIs (.ref z) "zip":=⟨_,hz,rfl⟩;unfold D7;refine aK (wpAny_attempt (xu (name:=iV "__next__") hT xY (xt xY hT Wz (fin (a:= .none) (b:= .none) hh D hz y_ h1 xT hx fun g e hk he=>?_) (VH _))));obtain⟨o,ho,hc⟩:=he;exact aK (Y3 (T:="StopIteration") (b:=true) ⟨o,ho,hc⟩ isSubtype_stop (bH (hQ _ hk)))
abbrev g1(h:Heap)(l:Addr):Heap:=h.push {cls:= .type "list_iterator",data:= .fields #[.ref l,.int 0 0]}
abbrev g2(h:Heap)(l t:Addr):Heap:=(g1 h l).push {cls:= .type "tuple_iterator",data:= .fields #[.ref t,.int 0 0]}
abbrev g3(h:Heap)(l t:Addr):Heap:=(g2 h l t).push {cls:= .type "tuple",data:= .seq #[.ref h.objs.size,.ref (g1 h l).objs.size]}
abbrev g4(h:Heap)(l t:Addr):Heap:=(g3 h l t).push {cls:= .type "tuple",data:= .seq #[.none,.none]}
abbrev g5(h:Heap)(l t:Addr):Heap:=(g4 h l t).push {cls:= .type "zip",data:= .fields #[.none,.bool false,.bool false,.ref (g2 h l t).objs.size,.ref (g3 h l t).objs.size]}
theorem Xh(l t:Addr)(xs ys:Array ao):Meets (Builtin.«zip.__new__» ⟨[.type "zip",.ref l,.ref t],[]⟩) (fun _ R s=>s.heap.IsList l xs/\s.heap.IsTuple t ys/\R (.ok (.ret (.ref (g4 s.heap l t).objs.size))) {s with heap:=g5 s.heap l t}):=
 .of_wp fun prog w A R s h=>by
  obtain⟨hp,g,d,tk,os⟩:=s;obtain⟨hl,ht,h⟩:=h;have U6:=sub_zip;have hL:Heap.IsList (Wx ⟨hp,g,d,tk,os⟩) l xs:=hl;have hT:Heap.IsTuple (Wx ⟨hp.push {cls:= .type "list_iterator",data:= .fields #[.ref l,.int 0 0]},g,d,tk,os⟩) t ys:=Heap.IsTuple.push ht _
  wp_walk using vw hL,wpAny_pyIter_tuple hT
  exact⟨_,rfl,h⟩
theorem SJ{l t:Addr}{xs ys:Array ao}{Q:ao->aI->Prop}(hl:s.heap.IsList l xs)(ht:s.heap.IsTuple t ys)
  (h:∀g,vy g (s.heap.objs.size+4) (s.heap.objs.size+2) (s.heap.objs.size+3) .none->kD g (s.heap.objs.size+2) (.ref s.heap.objs.size) (.ref (s.heap.objs.size+1))->kD g (s.heap.objs.size+3) .none .none->g.IsListIter s.heap.objs.size l 0->g.IsTupleIter (s.heap.objs.size+1) t 0->
   g.objs.size=s.heap.objs.size+5->(∀c o,s.heap.get? c=some o->g.get? c=some o)->Q (.ref (s.heap.objs.size+4)) {s with heap:=g}):bF (bS prog w) A (call (.type "zip") [.ref l,.ref t]) Q E s:=by
 refine callType_new F.called_zip (by decide) (F.typeCall_zip_2 _ _) (F.newCall_zip_2 _ _) (fun obj=>F.args_object_init_3 obj _ _) F.entry_zip_new (Xh l t xs ys) ⟨hl,ht,?_⟩;have z1:(g1 s.heap l).objs.size=s.heap.objs.size+1:=cH ..;have z2:(g2 s.heap l t).objs.size=s.heap.objs.size+2:=by rw[cH,z1]
 have z3:(g3 s.heap l t).objs.size=s.heap.objs.size+3:=by rw[cH,z2]
 have z4:(g4 s.heap l t).objs.size=s.heap.objs.size+4:=by rw[cH,z3]
 have z5:(g5 s.heap l t).objs.size=s.heap.objs.size+5:=by rw[cH,z4]
 have q5:(g5 s.heap l t).get? (g4 s.heap l t).objs.size=some _:=bt _ rfl;have q4:(g5 s.heap l t).get? (g3 s.heap l t).objs.size=some _:=ay _ (bt _ rfl);have q3:(g5 s.heap l t).get? (g2 s.heap l t).objs.size=some _:=ay _ (ay _ (bt _ rfl));have q2:(g5 s.heap l t).get? (g1 s.heap l).objs.size=some _:=ay _ (ay _ (ay _ (bt _ rfl)));have q1:(g5 s.heap l t).get? s.heap.objs.size=some _:=ay _ (ay _ (ay _ (ay _ (bt _ rfl))));show _/\_;rw[z2,z3,z4] at q5;rw[z1,z2] at q3;rw[z3] at q4;rw[z1] at q2;rw[z4];exact⟨⟨_,q5,rfl⟩,h _ q5 q3 q4 ⟨_,q1,rfl,rfl⟩ ⟨_,q2,rfl,rfl⟩ z5 fun c o x=>ay _ (ay _ (ay _ (ay _ (ay _ x))))⟩
end
end Zt
def abq(K:aq)(a b:Addr):It:=
 ⟨fun i H=>∃(xs ys:List V) (x y:V),cF K H a xs/\JO K H b ys/\xs[i]?=some x/\ys[i]?=some y,
  fun i H v H'=>∃T x y,v= .ref T/\H T=none/\H'=upd H T (.tup [x,y])/\(∀xs,cF K H a xs->xs[i]?=some x)/\∀ys,JO K H b ys->ys[i]?=some y,
  fun i H=>∃xs:List V,cF K H a xs/\xs.length<=i⟩
theorem Fq{h:Heap}{a:Addr}{its:Array ao}(t:IsTup h a its):h.IsTuple a its:=t
theorem OK{X:Cx}{pins:List (Addr×Obj)}{σ:St}{H:Hp}{s:aI}{a:Addr}{xs ys:List V}(I:Inv X pins σ H s)(h1:JO X.K H a xs)(h2:JO X.K H a ys):xs=ys:=by
 obtain⟨its,r,⟨o,e,_,n,d⟩,_⟩:=I.tuple h1;obtain⟨y6,r2,⟨o2,e2,_,n2,d2⟩,_⟩:=I.tuple h2;rw[e] at e2;cases e2;rw[d] at d2;injection d2 with d3 d4;have:its=y6:=by simpa using d3
 subst this;exact r.inj r2
theorem Kc{P:bq}{w:cf}{K:aq}{elts:List Expr}{kk:Nat}{zA:Pos}{a b z TI TO i1 i2:Addr}(D:Gf z TI TO i1 i2 a b):
  Turn P w K (.Tuple elts kk zA) (abq K a b) [z,TI,TO,i1,i2] z (fun i h=>vy h z TI TO .none/\kD h TI (.ref i1) (.ref i2)/\(∃x y,kD h TO x y)/\h.IsListIter i1 a i/\h.IsTupleIter i2 b i) where
 mem:=by simp
 obj:=fun i h st c hc=>by
  obtain⟨hz,y_,⟨x,y,DO⟩,⟨o1,e1,_,d1⟩,⟨o2,e2,_,d2⟩⟩:=st;have e':c=z\/c=TI\/c=TO\/c=i1\/c=i2:=by simpa using hc
  rcases e' with q|q|q|q|q
  ·rw[q];exact⟨_,hz,fun v q=>nomatch q⟩
  ·rw[q];exact⟨_,y_,fun v q=>nomatch q⟩
  ·rw[q];exact⟨_,DO,fun v q=>nomatch q⟩
  ·rw[q];exact⟨o1,e1,fun v q=>by rw[d1] at q;cases q⟩
  ·rw[q];exact⟨o2,e2,fun v q=>by rw[d2] at q;cases q⟩
 keep:=fun i h h' st k=>by
  obtain⟨hz,y_,⟨x,y,DO⟩,h1,⟨o2,e2,r2⟩⟩:=st;exact⟨k z (by simp) _ hz,k TI (by simp) _ y_,⟨x,y,k TO (by simp) _ DO⟩,h1.at fun o q=>k i1 (by simp) o q,⟨o2,k i2 (by simp) _ e2,r2⟩⟩
 item:=by
  intro X hP hw hK hc i pins s σ H E I hf st hg;subst hP hw hK;obtain⟨hz,y_,⟨x0,y0,DO⟩,h1,h2⟩:=st;obtain⟨xs,ys,x,y,Py,RY,hx,hy⟩:=hg;obtain⟨its,rv,p,_⟩:=I.list Py;obtain⟨y6,WZ,p2,_⟩:=I.tuple RY;obtain⟨u,hu,ru⟩:=rv.get hx;obtain⟨u2,hu2,W4⟩:=WZ.get hy;have hzl:z<s.heap.objs.size:=bc hz;refine Zt.next_item D hz y_ DO h1 h2 p.isList (Fq p2) (x:=u) (y:=u2) (by simpa using hu) (by simpa using hu2) fun h' z' TO' h1' h2' hT hsz hk=>?_;refine⟨_,rfl,Na (s:={s with heap:=h'}) z' fun Qs z'' sb=>?_⟩;have Si:Qs.get? s.heap.objs.size=some {cls:= .type "tuple",data:= .seq #[u,u2]}:=(sb.2 _ (j5 hzl)).trans hT;have new:ia X.prog X.w (upd H s.heap.objs.size (.tup [x,y])) Qs s.heap.objs.size (.tup [x,y]):=
   ⟨by show 2<=aG;decide,[u,u2],.cons ru (.cons W4 .nil),⟨_,Si,rfl,_,rfl⟩⟩
  have I1:Inv X pins σ (upd H s.heap.objs.size (.tup [x,y])) {s with heap:=Qs}:=
   I.A3 (t':=s.toks) (ch:=[z,TI,TO,i1,i2]) (fun c o hb q=>(sb.2 c (fun q'=>hb (by simp[q']))).trans (hk c o (fun q'=>hb (by simp[q'])) (fun q'=>hb (by simp[q'])) (fun q'=>hb (by simp[q'])) (fun q'=>hb (by simp[q'])) q)) hf (aL _) new
  refine⟨.ref s.heap.objs.size,_,I1,rfl,⟨_,x,y,rfl,I.fR.fresh (aL _),rfl,fun l hl=>by rw[I.tL hl Py];exact hx,fun l hl=>by rw[OK I hl RY];exact hy⟩,⟨z'',?_,⟨u,u2,?_⟩,?_,?_⟩,fun c PH=>?_⟩
  ·exact(sb.2 _ D.TIz).trans (hk _ _ D.TIz D.TITO D.TIi1 D.TIi2 y_)
  ·exact(sb.2 _ D.TOz).trans TO'
  ·exact h1'.at fun o q=>(sb.2 _ D.i1z).trans q
  ·obtain⟨o2,e2,r2⟩:=h2';exact⟨o2,(sb.2 _ D.i2z).trans e2,r2⟩
  ·have qY:c<s.heap.objs.size:=by
    have e':c=z\/c=TI\/c=TO\/c=i1\/c=i2:=by simpa using PH
    rcases e' with q|q|q|q|q
    ·rw[q];exact hzl
    ·rw[q];exact bc y_
    ·rw[q];exact bc DO
    ·rw[q];obtain⟨_,e1,_⟩:=h1;exact bc e1
    ·rw[q];obtain⟨_,e2,_⟩:=h2;exact bc e2
   rw[aA (b9 qY)];exact(hf c PH).1
 done:=by
  intro X hP hw hK hc i pins s σ H E I hf st hg;subst hP hw hK;obtain⟨hz,y_,⟨x0,y0,DO⟩,h1,h2⟩:=st;obtain⟨xs,Py,aaH⟩:=hg;obtain⟨its,rv,p,_⟩:=I.list Py;have l1:=rv.length;exact Zt.next_end (I.ok.hd hc) D hz y_ h1 p.isList (by simp;omega) fun h' hk=>⟨rfl,I.Nu (t':=s.toks) (ch:=[z,TI,TO,i1,i2]) (fun c o hb q=>
   hk c o (fun q'=>hb (by simp[q'])) (fun q'=>hb (by simp[q'])) (fun q'=>hb (by simp[q'])) (fun q'=>hb (by simp[q'])) q) hf⟩
 self:=fun A i s Q E st h=>xr st.1 h
def Z'(K:aq)(ta:TA):TI:=fun σ H R=>ta σ H fun vs H1=>∃a b xs ys,vs=[.ref a,.ref b]/\cF K H1 a xs/\JO K H1 b ys/\R (abq K a b) H1
theorem O4{X:Cx}{e e2:Expr}{ta:TA}{p pos zA:Pos}{elts:List Expr}{kk:Nat}(hg:Gl X "zip")(hm:X.mg "zip"=none)(ha:PA X [e,e2] ta)
  (hs:bw [e,e2] X.env=(false,eval e X.env)::bw [e2] X.env:=by rfl)(jD:(fq pos (bw [e2] X.env)).any (·.1)=false:=by rfl):
  PI X (.Tuple elts kk zA) (.Call (.Name "zip" p) [e,e2] [] pos) (Z' X.K ta):=by
 intro pins s σ H R I h;refine Mb (pk I hg hm HQ (dj (gI (ha pos pins s σ H _ I h) fun us s1 ⟨vs,H1,I1,r1,q1⟩=>?_) hs jD));obtain⟨a,b,xs,ys,ex,Py,RY,q⟩:=q1;subst ex;cases r1 with
 |cons r rr=>
  cases rr with
  |cons r' rr=>
   cases rr;cases r;cases r';obtain⟨its,rv,p1,_⟩:=I1.list Py;obtain⟨y6,WZ,p2,_⟩:=I1.tuple RY;have la:a<s1.heap.objs.size:=p1.lt;have lb:b<s1.heap.objs.size:=p2.lt;refine Zt.SJ p1.isList (Fq p2) fun h' hz y_ DO h1 h2 hsz hk=>xr hz ?_;have I2:Inv X pins σ H1 {s1 with heap:=h'}:=I1.kept (t':=s1.toks) hk;refine⟨s1.heap.objs.size+4,[s1.heap.objs.size+4,s1.heap.objs.size+2,s1.heap.objs.size+3,s1.heap.objs.size,s1.heap.objs.size+1],_,_,H1,rfl,I2,Kc (Nb s1.heap.objs.size a b la lb),⟨hz,y_,⟨_,_,DO⟩,h1,h2⟩,fun c PH=>?_,q⟩;have e':c=s1.heap.objs.size+4\/c=s1.heap.objs.size+2\/c=s1.heap.objs.size+3\/c=s1.heap.objs.size\/c=s1.heap.objs.size+1:=by simpa using PH
   have hle:s1.heap.objs.size<=c:=by
    rcases e' with z|z|z|z|z
    ·rw[z];exact dM _ _
    ·rw[z];exact dM _ _
    ·rw[z];exact dM _ _
    ·rw[z];exact aL _
    ·rw[z];exact dM _ _
   exact I1.MQ hle (I1.fR.fresh hle)
namespace Mxd
theorem Vx(v d:ao):argsOk "max" ⟨[v],[(iV "default",d)]⟩:=by unfold argsOk;kernel_rfl
def At(its:List ao)(ns:List Int)(j:Nat)(b:Array ao):Prop:=
 (j=0/\b=#[])\/∃i u,i<j/\its[i]?=some u/\b=#[u,u]/\∀m,m<j->ns.getD m 0<=ns.getD i 0
section
variable{prog:bq}{w:cf}{A:dw}{R:L7->aI->Prop}{it l S:Addr}{its:List ao}{ns:List Int}{d:ao}
theorem loop(hh:A.handled=none)(nli:l≠it)(YE:S≠it)(nSl:S≠l)(hv:∀(i:Nat) u,its[i]?=some u->∃t,u= .int (ns.getD i 0) t):
  ∀(r j:Nat) (s:aI) (b:Array ao) (c:Nat),its.length -j=r->j<=its.length->s.heap.IsListIter it l j->s.heap.IsList l its.toArray->s.heap.get? S=some {cls:= .type "list",dict:=none,data:= .seq b c,slots:=#[]}->At its ns j b->
   (∀v g tk,(its=[]/\v=d)\/(∃i,its[i]?=some v/\∀m,m<its.length->ns.getD m 0<=ns.getD i 0)->(∀a o,a≠it->a≠S->s.heap.get? a=some o->g.get? a=some o)->R (.ok (.ret v)) {s with heap:=g,toks:=tk})->
   sP (bS prog w) A (.builtin "max.loop" ⟨[.ref it,.none,.ref S],[(iV "default",d)]⟩) R s:=by
 have enm:(toString "max"++toString ".loop":String)="max.loop":=by decide
 have W:=Y9 (prog:=prog) (w:=w) (A:=A.in1) hh it l nli its.toArray;have esz:its.toArray.size=its.length:=bu ..;intro r
 induction r with
 |zero=>
  intro j s b c er hj hit hl hS hb hR;have ej:j=its.length:=by omega
  refine codeAny_builtin WA ?_;rw[LH l_ _];show bF _ _ (Y7 (.ref S)>>=_) _ _ _;refine aK (iH hS rfl ?_);show bF _ _ (tryCatch (D7 (.ref it)) _>>=_) _ _ _;refine aK (LW (W.done s _ _ ⟨by rw[esz,<-ej];exact hit,hl⟩ fun g tk kp=>?_));have Vf:=kp S _ (by simpa using YE) hS;rcases hb with⟨e0,eb⟩|⟨i,u,hi,hu,eb,best⟩
  ·subst eb;have ae3:its=[]:=ft.mp (by omega);show bF _ _ (rule _>>=fun _=>ret d) _ _ _;exact aK (Wq (bH (hR d g tk (.inl ⟨ae3,rfl⟩) fun a o n1 _ e=>kp a o (by simpa using n1) e)))
  ·subst eb;show bF _ _ (updateSeq S (fun _=>#[])>>=_) _ _ _;refine aK ?_;refine zh Vf rfl (aK (qR (bH ?_)));exact hR u _ tk (.inr ⟨i,hu,fun m hm=>best m (by omega)⟩) fun a o n1 n2 e=>(jH _ _ (rf n2)).trans (kp a o (by simpa using n1) e)
 |succ r ih=>
  intro j s b c er hj hit hl hS hb hR;have qY:j<its.length:=by omega
  refine codeAny_builtin WA ?_;rw[LH l_ _];show bF _ _ (Y7 (.ref S)>>=_) _ _ _;refine aK (iH hS rfl ?_);show bF _ _ (tryCatch (D7 (.ref it)) _>>=_) _ _ _;refine aK (LW (W.item j s _ _ (by rw[esz];exact qY) ⟨hit,hl⟩ fun v g tk hP st kp=>?_));have hvj:its[j]?=some v:=by simpa using hP
  have Vf:=kp S _ (by simpa using YE) hS;rcases hb with⟨e0,eb⟩|⟨i,u,hi,hu,eb,best⟩
  ·subst eb;subst e0;show bF _ _ (updateSeq S (fun _=>#[v,v])>>=_) _ _ _;refine aK ?_;refine zh Vf rfl ?_;rw[enm];have Rq:∀a o,a≠S->g.get? a=some o->(g.update S (vJ fun _=>#[v,v])).get? a=some o:=fun a o n e=>(jH _ _ (rf n)).trans e;refine bH ⟨vG l_ _,ih 1 _ _ _ (by omega) qY (st.1.at fun o e=>Rq it o YE.symm e) (st.2.at fun o e=>Rq l o nSl.symm e) (oI _ Vf rfl) (.inr ⟨0,v,Nat.one_pos,hvj,rfl,fun m hm=>by rw[show m=0 by omega];exact Int.le_refl _⟩) fun v' g' Zw hf Z7=>?_⟩;exact hR v' g' Zw hf fun a o n1 n2 e=>Z7 a o n1 n2 (Rq a o n2 (kp a o (by simpa using n1) e))
  ·subst eb;show bF _ _ (tryCatch (LD [v,v] (richCompare .Gt v u>>=_)) _>>=_) _ _ _;refine aK (LW (DB (aK (CmpOf.ints_gt (prog:=prog) (w:=w) (A:=A.in1) (P:=fun i x=>its[i]?=some x) (fun i=>ns.getD i 0) hv j i _ _ _ _ _ hvj hu ?_))));refine aK (DB (ff ?_));refine aK (qR (bH ?_));by_cases YW:ns.getD j 0>ns.getD i 0
   ·simp only[YW,decide_true,if_true];refine aK ?_;refine zh Vf rfl (aK (qR ?_));rw[enm];have Rq:∀a o,a≠S->g.get? a=some o->(g.update S (vJ fun _=>#[v,v])).get? a=some o:=fun a o n e=>(jH _ _ (rf n)).trans e;refine bH ⟨vG l_ _,ih (j+1) _ _ _ (by omega) qY (st.1.at fun o e=>Rq it o YE.symm e) (st.2.at fun o e=>Rq l o nSl.symm e) (oI _ Vf rfl) (.inr ⟨j,v,jl _,hvj,rfl,fun m hm=>?_⟩) fun v' g' Zw hf Z7=>?_⟩
    ·by_cases e:m=j
     ·subst e;exact Int.le_refl _
     ·have:=best m (by omega);omega
    ·exact hR v' g' Zw hf fun a o n1 n2 e=>Z7 a o n1 n2 (Rq a o n2 (kp a o (by simpa using n1) e))
   ·simp only[YW,decide_false,AU,if_false];refine aK (qR ?_);rw[enm];refine bH ⟨vG l_ _,ih (j+1) _ _ c (by omega) qY st.1 st.2 Vf (.inr ⟨i,u,by omega,hu,rfl,fun m hm=>?_⟩) fun v' g' Zw hf Z7=>?_⟩
    ·by_cases e:m=j
     ·subst e;omega
     ·exact best m (by omega)
    ·exact hR v' g' Zw hf fun a o n1 n2 e=>Z7 a o n1 n2 (kp a o (by simpa using n1) e)
end
section
variable{prog:bq}{w:cf}{A:dw}{E:ao->aI->Prop}{s:aI}{l:Addr}{its:List ao}{ns:List Int}{d:ao}{Q:ao->aI->Prop}
theorem raw(hh:A.handled=none)(hl:s.heap.IsList l its.toArray)(hv:∀(i:Nat) u,its[i]?=some u->∃t,u= .int (ns.getD i 0) t)
  (h:∀v g tk,(its=[]/\v=d)\/(∃i,its[i]?=some v/\∀m,m<its.length->ns.getD m 0<=ns.getD i 0)->(∀a o,s.heap.get? a=some o->g.get? a=some o)->Q v {s with heap:=g,toks:=tk}):
  bF (bS prog w) A (call (.builtin "max") [.ref l] [(iV "default",d)]) Q E s:=by
 have enm:(toString "max"++toString ".loop":String)="max.loop":=by decide
 have qY:l<s.heap.objs.size:=by obtain⟨_,e,_⟩:=hl;exact bc e
 refine kmk_tree F.kind_max F.plain_max F.entry_max (Vx _ _) ?_;show bF _ _ (xy "max" ["key","default"] 0 ⟨[],[(iV "default",d)]⟩>>=_) _ _ _;refine aK (wpAny_of_eq (show xy "max" ["key","default"] 0 ⟨[],[(iV "default",d)]⟩=pure [none,some d] from rfl) ?_);refine aK (bH ?_);refine aK (vw hl ?_);refine aK (wpAny_newList ?_ (aT _));rw[enm];generalize hg1:s.heap.push {cls:= .type "list_iterator",data:= .fields #[.ref l,.int 0 0]}=g1;have z1:g1.objs.size=s.heap.objs.size+1:=by rw[<-hg1];exact cH ..
 have k1:∀a o,s.heap.get? a=some o->g1.get? a=some o:=fun a o e=>by rw[<-hg1];exact ay _ e
 have i1:g1.IsListIter s.heap.objs.size l 0:=by rw[<-hg1];exact⟨_,bt _ rfl,rfl,rfl⟩
 have YE:g1.objs.size≠s.heap.objs.size:=by omega
 have nSl:g1.objs.size≠l:=j5 (Mf qY (by rw[z1];exact jl _));refine bH ⟨vG l_ _,loop (its:=its) (ns:=ns) (S:=g1.objs.size) (it:=s.heap.objs.size) hh (b9 qY) YE nSl hv _ 0 _ #[] 0 rfl (aT _) (i1.at fun o e=>ay _ e) (hl.at fun o e=>ay _ (k1 _ _ e)) (bt _ rfl) (.inl ⟨rfl,rfl⟩) fun v g tk hf kp=>?_⟩;exact h v g tk hf fun a o e=>kp a o (b9 (bc e)) (b9 (Mf (bc e) (by omega))) (ay _ (k1 _ _ e))
end
end Mxd
def ZQ(K:aq):List V->List V->Hp->VK->Prop:=fun vs zs H Q=>∃(a:Addr) (ns:List Int) (z:V),vs=[.ref a]/\zs=[z]/\cF K H a (ns.map V.int)/\(ns=[]->Q z H)/\∀m,m∈ns->(∀y∈ns,y<=m)->Q (.int m) H
def ZH(K:aq)(te td:TE):TE:=fun σ H Q=>lH te ve σ H fun vs H1=>lH td ve σ H1 fun zs H2=>ZQ K vs zs H2 Q
theorem UK{X:Cx}{e d:Expr}{te td:TE}{p pos Pk:Pos}(hc:X.calm=true)(hg:Gl X "max")(hm:X.mg "max"=none)(he:PE X e te)(hd:PE X d td)
  (hs:bw [e] X.env=(false,eval e X.env)::bw [] X.env:=by rfl)(hb:fq pos (bw [e] X.env)=(false,eval e X.env)::fq pos (bw [] X.env):=by rfl)(jD:(fq pos (bw [e] X.env)).any (·.1)=false:=by rfl):
  PE X (.Call (.Name "max" p) [e] [⟨some "default",d,Pk⟩] pos) (ZH X.K te td):=by
 intro pins s σ H Q I h;refine iJ (pk I hg hm boot_max ?_);refine callWith_kw (env:=X.env) (e:=e) (rest:=[]) ?_ hb jD;refine gI ((aa he ax hs:PA X [e] (lH te ve)) pos pins s σ H _ I h) fun us s1 ⟨vs,H1,I1,r1,q1⟩=>?_;refine gI ((UH hd W9:PK X [⟨some "default",d,Pk⟩] (lH td ve)) pos pins s1 σ H1 _ I1 q1) fun ws s2 ⟨zs,H2,I2,r2,q2⟩=>?_;obtain⟨a,ns,z,ev,ez,hq,k0,k1⟩:=q2;subst ev ez;obtain⟨u,rfl,ru⟩:=r1.one;obtain⟨zv,rfl,rz⟩:=r2.one;cases ru;obtain⟨its,rv,hl,_⟩:=I2.list hq;have hlen:=rv.length;rw[ab] at hlen;have Sf:∀(i:Nat) x,its[i]?=some x->∃t,x= .int (ns.getD i 0) t:=fun i x hx=>by
  have hi:i<ns.length:=by rw[hlen];exact(aP.mp hx).1
  obtain⟨y,hy,ry⟩:=rv.get (i:=i) (x:= .int ns[i]) (by rw[aM,aS hi];rfl);rw[hx] at hy;cases aR hy;rw[bo,aS hi];exact ry
 refine Mxd.raw (ns:=ns) (I2.ok.hd hc) hl.isList Sf fun v g tk hf kp=>?_;rcases hf with⟨e0,e1⟩|⟨i,hi,best⟩
 ·subst e1;have e2:ns=[]:=ft.mp (by rw[hlen,e0];rfl);exact⟨z,H2,I2.kept kp,rz,k0 e2⟩
 ·obtain⟨t,rfl⟩:=Sf i v hi;have K3:i<ns.length:=by rw[hlen];exact(aP.mp hi).1
  refine⟨.int (ns.getD i 0),H2,I2.kept kp,⟨t,rfl⟩,k1 _ ?_ fun y hy=>?_⟩
  ·rw[bo,aS K3];exact List.getElem_mem K3
  ·obtain⟨m,hm1,hm2⟩:=List.mem_iff_getElem.mp hy;have:=best m (by omega);rw[bo,aS hm1,lx,hm2] at this;exact this
theorem ia.there{P:bq}{w:cf}{H:Hp}{h:Heap}{a:Addr}{o:HO}(x:ia P w H h a o):∃u,h.get? a=some u:=by
 cases o with
 |lst xs=>obtain⟨_,_,_,_,e⟩:=x;exact⟨_,e⟩
 |tup xs=>obtain⟨_,_,_,u,e,_⟩:=x;exact⟨u,e⟩
 |dK kvs=>obtain⟨_,_,_,_,u,_,_,e,_⟩:=x;exact⟨u,e⟩
 |dT kvs=>obtain⟨_,_,_,_,u,_,_,e,_⟩:=x;exact⟨u,e⟩
 |set S n=>obtain⟨u,_,_,_,e,_⟩:=x;exact⟨u,e⟩
 |ins C dx fs=>obtain⟨_,_,_,e,_⟩:=x;exact⟨_,e⟩
 |own y=>exact x
 |xd fs=>obtain⟨_,⟨u,_,_,e,_⟩,_⟩:=x;exact⟨u,e⟩
 |rng lo hi=>obtain⟨_,_,_,e⟩:=x;exact⟨_,e⟩
 |Bx ob u=>obtain⟨e,_⟩:=x;exact⟨_,e⟩
 |x_ ps=>exact⟨_,x⟩
 |met f y=>exact⟨_,x⟩
 |ext φ=>obtain⟨_,e,_⟩:=x;exact e
section
variable{X:Cx}{pins:List (Addr×Obj)}{σ:St}{H:Hp}{s:aI}{h':Heap}{a:Addr}{o:HO}
theorem Inv.NN(I:Inv X pins σ H s)(hn:s.heap.get? a=none):H a=none:=by
 cases q:H a with
 |none=>rfl
 |some u=>
  obtain⟨v,e⟩:=(I.fR a u q).there;rw[hn] at e;cases e
theorem Inv.Z3{t':Nat}(I:Inv X pins σ H s)(k:∀b u,s.heap.get? b=some u->h'.get? b=some u)(hn:s.heap.get? a=none)(new:ia X.prog X.w (upd H a o) h' a o):Inv X pins σ (upd H a o) {s with heap:=h',toks:=t'}:=by
 have Co:=I.NN hn;have nb:∀b u,s.heap.get? b=some u->b≠a:=fun b u e q=>by rw[q,hn] at e;cases e
 refine I.un ⟨fun b u e _ _ _=>k b u e,fun b u e _ _ _=>⟨u.slots,k b u e⟩,fun b u e n _=>by rw[aA (nb b u e)];exact n,fun b u e _=>⟨u,k b u e⟩,fun b xs q=>by rw[aA (aE q Co)];exact q,fun b u xs q=>by rw[aA (aE q Co)];exact q,fun b ps q=>⟨#[],by rw[aA (aE q Co),q];simp⟩⟩ fun b u q=>?_;by_cases hb:b=a
 ·subst hb;rw[ae] at q;cases q;exact new
 ·rw[aA hb] at q;exact(I.fR b u q).El (fun c v _ r=>k c v r) (fun c r=>by rw[aA (aE r Co)];exact r) fun c xs r=>by rw[aA (aE r Co)];exact r
end
def Q_:List V->Hp->VK->Prop:=fun vs H Q=>∃(a:Addr) (kvs:List (Key×V)) (ns:List Int),vs=[V.ref a]/\H a=some (.dK kvs)/\kvs.map (·.1)=ns.map aH/\ns.length<64/\
 ∀(Qn:List Int) (p:Addr),Qn.Perm ns->Qn.Pairwise (· <= ·)->H p=none->Q (.ref p) (upd H p (.lst (Qn.map V.int)))
theorem MJ{P:bq}{w:cf}{i:Int}{u:ao}(h:(fk P w).is (.inl i) u=true):∃t,u= .int i t:=by
 rcases gJ (k:= .inl i) (v:=u) h with⟨j,t,e1,e2⟩|⟨x,t,e1,_⟩
 ·cases e1;exact⟨t,e2⟩
 ·cases e1
theorem MI{us:List ao}:∀{ns:List Int},us.length=ns.length->(∀(j:Nat) u n,us[j]?=some u->ns[j]?=some n->∃t,u= .int n t)->IntsAre us ns:=by
 induction us with
 |nil=>intro ns hl _;cases ns with
  |nil=>exact .nil
  |cons _ _=>simp at hl
 |cons u us ih=>
  intro ns hl h;cases ns with
  |nil=>simp at hl
  |cons n ns=>
   obtain⟨t,rfl⟩:=h 0 u n rfl rfl;exact .cons n t (ih (by simpa using hl) fun j u' n' h1 h2=>h (j+1) u' n' h1 h2)
theorem MW{X:Cx}(hc:X.calm=true):AQ X (.builtin "sorted") Q_:=by
 intro pins s σ H vs us Q I r h;obtain⟨a,kvs,ns,rfl,hd,hk,h64,q⟩:=h;rw[Vals.ZP r];obtain⟨z,aak,es,rel,dd⟩:=I.fR a _ hd;obtain⟨ep,hat⟩:=dd.dictAt;have V9:es.map (·.1)=ns.map aH:=(KV.keys rel).symm.trans hk;have hlen:es.length=ns.length:=by have:=congrArg pz V9;rwa [ab,ab] at this
 refine Calls.call_function_entry kind_sorted plain_sorted entry_sorted (args_sorted1 _) ?_;unfold Builtin.«sorted»;refine aK (m:=checkCount "sorted" 1 1 _) (bH ?_);refine aK (PySem.W.kdu_collect (A:=X.A.in1) (PySem.W.kdl_dict (knd:=fk X.prog X.w) (kvs:=es) (ep:=ep) aak) (I.ok.hd hc) hat (by rw[hlen];exact NC h64) fun h1 tk acc kp aaW=>?_);have hI:IntsAre acc.toList ns:=MI (by rw[yE,aaW.1,hlen]) fun j u n hu hn=>by
  obtain⟨k,x,hx,hkk⟩:=aaW.2 j u (by rw[<-LL];exact hu);have e1:(es.map (·.1))[j]?=some k:=by rw[aM,hx];rfl
  rw[V9,aM,hn] at e1;cases aR e1;exact MJ hkk
 have aaB:acc.toList.length<64:=by rw[hI.length];exact h64
 refine aK (wpAny_newList ?_ (aD (cK aaB) (by decide)));have hoL:(h1.push (seqObj "list" acc.toList.toArray 0)).get? h1.objs.size=some (seqObj "list" acc.toList.toArray 0):=bt _ rfl;refine aK (DB (xt slot_list_sort ⟨_,hoL,rfl⟩ entry_list_sort (list_sort_tree hoL hI aaB fun out Qn a1 a2 a3=>⟨_,rfl,?_⟩) (args_list_sort _)));obtain⟨ep',XO⟩:=sortedHeap_at (vs:=acc.toList) (out:=out) hoL;have kp2:∀b u,s.heap.get? b=some u->(sortedHeap (h1.push (seqObj "list" acc.toList.toArray 0)) h1.objs.size acc.toList out).get? b=some u:=fun b u e=>by
  have hb:=bc (kp b u e);rw[sortedHeap_old (b9 hb) (by rw[cH];exact fP hb)];exact ay _ (kp b u e)
 have hn:s.heap.get? h1.objs.size=none:=by
  cases w:s.heap.get? h1.objs.size with
  |none=>rfl
  |some u=>exact absurd (bc (kp _ u w)) (d9 _)
 have aaz:(Qn.map V.int).length<=aG:=by rw[ab,a2.length_eq];exact NC h64
 exact bH ⟨_,rfl,.ref _,upd H h1.objs.size (.lst (Qn.map V.int)),I.Z3 kp2 hn ⟨aaz,out.toList,ep',zu a1,XO⟩,rfl,q Qn _ a2 a3 (I.NN hn)⟩
open PySem PySem.Spec PyProof.Rows PySem.W
def BH(mg:Str->Option ao)(h:Heap):Prop:=∃bm ob,mg "__builtins__"=some (.ref bm)/\bm≠D8/\h.get? bm=some ob/\ob.cls= .type "module"/\ob.dict=some D8/\ob.data= .plain
def yy(H:Hp)(P:Addr)(pos:Pos)(qual:Str):Prop:=∃ps,H P=some (.x_ ps)/\(ps=#[]\/∃(c':Addr) (oc:Obj) (vs:Array ao) (t:Tok),ps=#[l8 pos.line,l8 pos.col,.ref c']/\H c'=some (.Bx oc (.own c'))/\oc.data= .fields vs/\vs[1]?=some (.str qual t))
theorem yy.at_{H:Hp}{P:Addr}{pos:Pos}{qual:Str}(T:yy H P pos qual):∃ps,H P=some (.x_ ps):=let ⟨ps,h,_⟩:=T;⟨ps,h⟩
theorem yy.keep{H H':Hp}{P:Addr}{pos:Pos}{qual:Str}(T:yy H P pos qual)(k:∀b o,H b=some o->((∃ps,o= .x_ ps)\/∃u c,o= .Bx u (.own c))->H' b=some o):yy H' P pos qual:=by
 obtain⟨ps,h,r⟩:=T;refine⟨ps,k _ _ h (.inl ⟨ps,rfl⟩),?_⟩;rcases r with r|⟨c',oc,vs,t,e,hc,h1,h2⟩
 ·exact .inl r
 ·exact .inr ⟨c',oc,vs,t,e,k _ _ hc (.inr ⟨oc,c',rfl⟩),h1,h2⟩
section
variable{X:Cx}{pins:List (Addr×Obj)}{σ:St}{H:Hp}{s:aI}{P c:Addr}{Qm:Ie}{bdy:Expr}{CP:ku}{qE:Pos}{Yb:List (Str×Addr)}{Q:ao->aI->Prop}{E:ao->aI->Prop}
theorem RK(I:Inv X pins σ H s)(N4:X.env.code= .ref c)(C:CodeHd X.base c P)(hB:BH X.mg X.base)(DN:LY CP X.env=pure Yb)(XR:defaultsOf Qm X.env=([],[]))(T:yy H P qE (X.env.qual++"<lambda>"))
  (h:∀(H2:Hp) (s2:aI) (q c':Addr) (pm Qt:ao),Inv X pins σ H2 s2->yy H2 P qE (X.env.qual++"<lambda>")->(∀b o,H b=some o->b≠P->H2 b=some o)->s2.heap.get? q=some (kla_obj "<lambda>" (X.env.qual++"<lambda>") Qm bdy CP Yb pm c' Qt)->s2.heap.CodeRec (.ref c') (X.env.qual++"<lambda>")->Q (.ref q) s2):
  bF (bS X.prog X.w) X.A (eval (.Lambda Qm bdy CP qE) X.env) Q E s:=by
 obtain⟨ps,hP,Pz⟩:=T;obtain⟨bm,ob,b1,b2,b3,b4,b5,b6⟩:=hB;have hPo:s.heap.get? P=some (tabObj ps):=I.fR P _ hP;have SU:∀b o,X.base.get? b=some o->b≠P:=fun b o e q=>by
  have:=(I.bs b o e).2;rw[q,hP] at this;cases this
 have hgP:d7≠P:=by
  obtain⟨o,es,ep,e,_⟩:=I.mod.glob;exact SU _ _ e
 have hbG:bm≠d7:=fun q=>by
  obtain⟨o,es,ep,e,hd,_⟩:=I.mod.glob;rw[q,e] at b3;cases b3;rw[hd] at b6;cases b6
 have hBA:s.heap.BuiltinsAt X.mg P:=⟨bm,ob,b1,b2,hbG,SU _ _ b3,I.bk _ _ b3,b4,b5,b6⟩;have hg:=I.mod.glob.keeps I.bk;have C':=C.keeps I.bk;refine kla_eval XR ?_;rcases Pz with e0|⟨c',oc,vs,t,e1,Vd,hd,hv⟩
 ·subst e0;refine kla_makeFunction (mg:=X.mg) DN I.ok.glob hg N4 C' hPo trivial rfl hgP hBA fun c' Qt h' tk hx hge qY RX htb=>?_;obtain⟨c2,oc,vs,t,ec,YO,hd,hv⟩:=RX;cases ec;have hc0:H c'=none:=I.fR.fresh hge;have ncP:c'≠P:=fun q=>by rw[q,hP] at hc0;cases hc0
  generalize YT:kla_obj "<lambda>" (X.env.qual++"<lambda>") Qm bdy CP Yb ((X.mg "__name__").getD .none) c' Qt=fo;have kp:∀b o,b≠P->s.heap.get? b=some o->(h'.push fo).get? b=some o:=fun b o n e=>ay _ (hx b o n e);have hP2:(h'.push fo).get? P=some (tabObj (#[]++#[l8 qE.line,l8 qE.col,.ref c'])):=ay _ htb;have Xz:(h'.push fo).get? c'=some oc:=ay _ YO;have n2:∀b u,H b=some u->b≠P->upd (upd H P (.x_ (#[]++#[l8 qE.line,l8 qE.col,.ref c']))) c' (.Bx oc (.own c')) b=some u:=fun b u e n=>by
   rw[aA (aE e hc0),aA n];exact e
  have I2:Inv X pins σ (upd (upd H P (.x_ (#[]++#[l8 qE.line,l8 qE.col,.ref c']))) c' (.Bx oc (.own c'))) {s with heap:=h'.push fo,toks:=tk}:=by
   refine I.un ⟨fun b o e n _ _=>kp b o (fun q=>by rw[q,hP] at n;cases n) e,fun b o e n _ _=>⟨o.slots,kp b o (fun q=>by rw[q,hP] at n;cases n) e⟩,fun b o e n _=>?_,fun b o e _=>?_,fun b xs e=>n2 b _ e (fun q=>by rw[q,hP] at e;cases e),fun b o u e=>n2 b _ e (fun q=>by rw[q,hP] at e;cases e),fun b ps' e=>?_⟩ fun b u e=>?_
   ·rw[aA (b9 (bN (bc e) hge)),aA (fun q=>by rw[q,hP] at n;cases n)];exact n
   ·by_cases z:b=P
    ·rw[z];exact⟨_,hP2⟩
    ·exact⟨o,kp b o z e⟩
   ·by_cases z:b=P
    ·subst z;rw[hP] at e;cases e;exact⟨#[l8 qE.line,l8 qE.col,.ref c'],by rw[aA ncP.symm,ae]⟩
    ·exact⟨#[],by rw[n2 b _ e z];simp⟩
   ·by_cases z:b=c'
    ·subst z;rw[ae] at e;cases e;exact⟨Xz,_,Xz⟩
    ·rw[aA z] at e;by_cases z2:b=P
     ·subst z2;rw[ae] at e;cases e;exact hP2
     ·rw[aA z2] at e;refine(I.fR b u e).El (fun d v yr r=>kp d v ?_ r) (fun d r=>n2 d _ r (fun q=>by rw[q,hP] at r;cases r)) fun d xs r=>n2 d _ r (fun q=>by rw[q,hP] at r;cases r);rcases yr with rfl|yr
      ·exact z2
      ·exact fun q=>by rw[q,hP] at yr;cases yr
  refine h _ _ h'.objs.size c' ((X.mg "__name__").getD .none) Qt I2 ⟨_,by rw[aA ncP.symm,ae],.inr ⟨c',oc,vs,t,by simp,ae,hd,hv⟩⟩ n2 ?_ ⟨c',oc,vs,t,rfl,Xz,hd,hv⟩;rw[YT];exact bt _ (by rw[<-YT];rfl)
 ·subst e1;have hf:codeAmong qE (#[l8 qE.line,l8 qE.col,.ref c']:Array ao).toList=some (.ref c'):=by simp[codeAmong,l8]
  refine kla_makeFunctionHit (mg:=X.mg) (cv:= .ref c') DN I.ok.glob hg N4 C' hPo trivial hf hBA fun Qt h' tk kp hsz=>?_;have YO:s.heap.get? c'=some oc:=(I.fR c' _ Vd).1;refine h H _ h'.objs.size c' ((X.mg "__name__").getD .none) Qt (I.kept fun b o e=>ay _ (kp b o e)) ⟨_,hP,.inr ⟨c',oc,vs,t,rfl,Vd,hd,hv⟩⟩ (fun b o e _=>e) (bt _ rfl) ⟨c',oc,vs,t,rfl,ay _ (kp _ _ YO),hd,hv⟩
theorem RL{prog:bq}{w:cf}{A:dw}{s:aI}{q d c' cc:Addr}{qual hn en:Str}{CP:ku}{Qm:Ie}{p1 p2 p3:Pos}{pm Qt:ao}{k:Int}{es:List (Key×ao)}{r:Int}{Q:ao->aI->Prop}{E:ao->aI->Prop}
  (HE:A.depth<ua)(lim:s.heap.NoLimit)
  (ho:s.heap.get? q=some (kla_obj "<lambda>" qual Qm (.Subscript (.Name hn p1) (.Name en p2) p3) CP [(hn,cc)] pm c' Qt))(LR:s.heap.CodeRec (.ref c') qual)
  (Cp:s.heap.IsCell cc (some (.ref d)))(hdd:s.heap.DictOf (fk prog w) d es)(t:Tok)(hv:∃t',sO es (aH k)=some (.int r t'))
  (hb:qT (kla_fn "<lambda>" qual Qm (.Subscript (.Name hn p1) (.Name en p2) p3) CP [(hn,cc)] pm (.ref c') Qt) ⟨[.int k t],[]⟩=pure [(en,.int k t)])
  (hk:CP.kind= .function)(hco:CP.isCoroutine=false)(XJ:CP.isGenerator=false)(xT:CP.names.lookup en=some .local)(uK:CP.names.lookup hn=some .free)(hnc:∀x∈CP.names,x.2≠ .cell)
  (Wb:(hn==("__debug__":Str))=false)(hd2:(hn==("__classdict__":Str))=false)(Sg:(en==("__debug__":Str))=false)
  (h:∀g tk t',(∀b o,s.heap.get? b=some o->g.get? b=some o)->Q (.int r t') {s with heap:=g,toks:=tk}):
  bF (bS prog w) A (call (.ref q) [.int k t]) Q E s:=by
 refine Wt (kla_callFunE HE ho rfl hco XJ rfl LR ?_);rw[hb];refine bH (wpAny_newFunctionEnv hnc (fun x hx=>by rw[bp.mp hx];exact xT) (fun g V7 hsb=>⟨lim.fresh _ hsb,?_⟩) hk);show sP _ _ (.expr (.Subscript (.Name hn p1) (.Name en p2) p3) (envX qual CP s.heap.objs.size q (.ref c') [(hn,cc)])) _ _;have kp:∀b o,s.heap.get? b=some o->g.get? b=some o:=fun b o e=>hsb.extBut b o (b9 (bc e)) (ay _ e);obtain⟨t',hv⟩:=hv;have dd:g.DictOf (fk prog w) d es:=by
  obtain⟨o,a,b,e,r⟩:=hdd;exact⟨o,a,b,kp _ _ e,r⟩
 refine kla_codeExpr (Nz F6.lookup (fun _ _=>rfl) (D5 (VD (v:= .ref d) (c:=cc) hk uK ?_ (Cp.keeps kp) (D5 (AW (m:=fun x=>[(en,j8 k t)].reverse.lookup x) hk xT V7 ?_ ⟨dd.typeIs,Y4 (Ci prog w k t) dd.mapOf hv ?_⟩) Sg) hd2) Wb))
 ·show[(hn,cc)].lookup hn=some cc;simp[gq]
 ·show[(en,j8 k t)].lookup en=some (.int k t);simp[gq]
 ·exact h g _ t' kp
end
def Ux(ih:Nat)(P:Addr)(qE:Pos)(qual:Str):V->St->Hp->VK->Prop:=fun x σ H Q=>∃(l d:Addr) (ns:List Int) (kvs:List (Key×V)) (kf:Int->Int),x= .ref l/\H l=some (.lst (ns.map V.int))/\ns≠[]/\σ[ih]?=some (some (.ref d))/\H d=some (.dK kvs)/\
 (∀n∈ns,iL kvs (aH n)=some (.int (kf n)))/\yy H P qE qual/\
 ∀(H2:Hp) (i:Nat) (n:Int),yy H2 P qE qual->(∀b o,H b=some o->b≠P->H2 b=some o)->ns[i]?=some n->(∀(j:Nat) m,ns[j]?=some m->kf m<=kf n/\(j<i->kf m<kf n))->Q (.int n) H2
def Uc(ih:Nat)(P:Addr)(qE:Pos)(qual:Str)(te:TE):TE:=fun σ H Q=>lH te ve σ H fun vs H1=>∃x,vs=[x]/\Ux ih P qE qual x σ H1 Q
theorem O7{X:Cx}{e:Expr}{te:TE}{p pos Pk qE p1 p2 p3:Pos}{Qm:Ie}{CP:ku}{hn en:Str}{ih:Nat}{c P cc:Addr}(hc:X.calm=true)(hg:Gl X "max")(hm:X.mg "max"=none)(he:PE X e te)(HE:X.A.depth<ua)
  (N4:X.env.code= .ref c)(C:∀h,X.K.In h->CodeHd h c P)(hB:BH X.mg X.base)(hN:X.N[ih]?=some hn)(hkc:X.env.scope.names.lookup hn=some .cell)(YV:X.env.cells.lookup hn=some cc)(DN:LY CP X.env=pure [(hn,cc)])(XR:defaultsOf Qm X.env=([],[]))
  (hb:∀(qual:Str) (c':Addr) (pm Qt:ao) (k:Int) (t:Tok),qT (kla_fn "<lambda>" qual Qm (.Subscript (.Name hn p1) (.Name en p2) p3) CP [(hn,cc)] pm (.ref c') Qt) ⟨[.int k t],[]⟩=pure [(en,.int k t)])
  (hk:CP.kind= .function)(hco:CP.isCoroutine=false)(XJ:CP.isGenerator=false)(xT:CP.names.lookup en=some .local)(uK:CP.names.lookup hn=some .free)(hnc:∀x∈CP.names,x.2≠ .cell)
  (Wb:(hn==("__debug__":Str))=false)(hd2:(hn==("__classdict__":Str))=false)(Sg:(en==("__debug__":Str))=false)
  (hs:bw [e] X.env=(false,eval e X.env)::bw [] X.env:=by rfl)(hbt:fq pos (bw [e] X.env)=(false,eval e X.env)::fq pos (bw [] X.env):=by rfl)(jD:(fq pos (bw [e] X.env)).any (·.1)=false:=by rfl):
  PE X (.Call (.Name "max" p) [e] [⟨some "key",.Lambda Qm (.Subscript (.Name hn p1) (.Name en p2) p3) CP qE,Pk⟩] pos) (Uc ih P qE (X.env.qual++"<lambda>") te):=by
 intro pins s σ H Q I h;refine iJ (pk I hg hm boot_max ?_);refine callWith_kw (env:=X.env) (e:=e) (rest:=[]) ?_ hbt jD;refine gI ((aa he ax hs:PA X [e] (lH te ve)) pos pins s σ H _ I h) fun us s1 ⟨vs,H1,I1,r1,x,ev,q1⟩=>?_;subst ev;obtain⟨l,d,ns,kvs,kf,ex,hl,tN,hσ,hd,y9,T,k⟩:=q1;subst ex;obtain⟨u,rfl,ru⟩:=r1.one;cases ru;show bF _ _ (evalAll [(do let v <-eval (.Lambda Qm (.Subscript (.Name hn p1) (.Name en p2) p3) CP qE) X.env;Ge pos;pure v)]) _ _ s1;refine Ws (aK (RK I1 N4 (C _ I1.mod.Xo) hB DN XR T fun H2 s2 q c' pm Qt I2 T2 kp hq RX=>aK (DA (bH (Ym ?_)))));show bF _ _ (call (.builtin "max") [.ref l] [(iV "key",.ref q)]) _ _ s2;obtain⟨ps,hP⟩:=T.at_;have aei:H2 l=some (.lst (ns.map V.int)):=kp _ _ hl (fun z=>by rw[z,hP] at hl;cases hl);have aaN:H2 d=some (.dK kvs):=kp _ _ hd (fun z=>by rw[z,hP] at hd;cases hd);obtain⟨_,its,nn,rv,hob⟩:=I2.fR l _ aei;obtain⟨_,aak,es,rel,dd⟩:=I2.fR d _ aaN;have hlen:ns.length=its.length:=by have:=rv.length;rwa [ab] at this
 obtain⟨m,V7,aef⟩:=I2.loc;obtain⟨ud,rud,lk⟩:=aef ih hn (.ref d) hN hσ (.inr (.inl hkc));cases rud;have Cp:s2.heap.IsCell cc (some (.ref d)):=by
  rcases lk with⟨z,_⟩|⟨_,c2,hc2,aeE⟩
  ·have z:X.env.scope.names.lookup hn=some .local:=z;rw[hkc] at z;cases z
  ·rw[YV] at hc2;cases hc2;exact aeE
 have F:Fr X.base X.env.locals s2.heap m:=⟨V7,I2.bk,aD I2.ok.TK I2.ok.above⟩;have N:=Ry (g:=X.base) (h:=s2.heap) (L:=X.env.locals);have Xj:∀b o,s2.heap.get? b=some o->(∀es ep,o.data≠ .dict es ep)->b≠X.env.locals:=fun b o e XC z=>by
  obtain⟨o2,es2,ep2,e2,d2,_⟩:=V7;rw[z,e2] at e;cases e;exact XC _ _ d2
 have Jr:∀(g:Heap) (own:List (Addr×Obj)),Fr X.base X.env.locals g m->News X.base X.env.locals g (AI X.base s2.heap X.env.locals++own)->∀b o,b≠X.env.locals->s2.heap.get? b=some o->g.get? b=some o:=fun g own Fg Ng b o hb e=>by
  cases z:X.base.get? b with
  |some o2=>
   have:=I2.bk b o2 z;rw[e] at this;cases this;exact Fg.keep _ _ z
  |none=>exact(Ng (b,o) (gp _ (KN hb z e))).1
 have aeA:d≠X.env.locals:=fun z=>by
  have:=I2.free;rw[<-z,aaN] at this;cases this
 have Sf:∀(i:Nat) v,its[i]?=some v->∃t,v= .int (ns.getD i 0) t:=fun i v hv=>by
  have hi:i<ns.length:=by rw[hlen];exact(aP.mp hv).1
  obtain⟨y,hy,ry⟩:=rv.get (i:=i) (x:= .int ns[i]) (by rw[aM,aS hi];rfl);rw[hv] at hy;cases aR hy;rw[bo,aS hi];exact ry
 have qX:∀(i:Nat) v,its[i]?=some v->ns[i]?=some (ns.getD i 0):=fun i v hv=>by
  have hi:i<ns.length:=by rw[hlen];exact(aP.mp hv).1
  rw[bo,aS hi];rfl
 refine kmk_max (vs:=its) (fun i=>kf (ns.getD i 0)) (I2.ok.hd hc) F N (fun g Fg Ng=>?_) (by rw[<-hlen];exact OC.mpr tN) (fun i v hv g tk own Fg Ng=>?_) fun i v g tk hv best Fg Ng=>?_
 ·exact⟨_,Jr g [] Fg (by rw[cE];exact Ng) l _ (Xj _ _ hob fun _ _ z=>nomatch z) hob,rfl,_,rfl⟩
 ·obtain⟨t,rfl⟩:=Sf i v hv;have ka:=Jr g own Fg Ng;obtain⟨oc,ho,hdc⟩:=Cp;obtain⟨od,a1,a2,hod,rd⟩:=dd;have hvv:∃t',sO es (aH (ns.getD i 0))=some (.int (kf (ns.getD i 0)) t'):=by
   obtain⟨w',hw,OW⟩:=uS.some_of (v:= .int (kf (ns.getD i 0))) (o:=sO es (aH (ns.getD i 0))) (by rw[<-y9 _ (bB (qX i _ hv))];exact rel.val _);obtain⟨t',rfl⟩:=OW;exact⟨t',hw⟩
  obtain⟨c2,ocd,vsd,td,ecd,U8,hdd,hvd⟩:=RX;refine RL (A:=X.A.in1) (s:={s2 with heap:=g,toks:=tk}) (es:=es) (d:=d) (cc:=cc) (show X.A.in1.depth<ua from HE) (I2.ok.mod.nolimit.keeps Fg.keep) (ka _ _ (Xj _ _ hq fun _ _ z=>nomatch z) hq) ⟨c2,ocd,vsd,td,ecd,ka _ _ (Xj _ _ U8 fun _ _ z=>by rw[hdd] at z;cases z) U8,hdd,hvd⟩
   ⟨oc,ka _ _ (Xj _ _ ho fun _ _ z=>by rw[hdc] at z;cases z) ho,hdc⟩ ⟨od,a1,a2,ka _ _ aeA hod,rd⟩ t hvv (hb _ _ _ _ _ _) hk hco XJ xT uK hnc Wb hd2 Sg fun g2 tk2 t2 kp2=>?_
  exact KskEnd.intro (Fg.keeps kp2) (fun p hp=>⟨kp2 _ _ (Ng p hp).1,(Ng p hp).2⟩) fun p hp=>hp
 ·obtain⟨t,rfl⟩:=Sf i v hv;have Ng':News X.base X.env.locals g (AI X.base s2.heap X.env.locals++[]):=by rw[cE];exact Ng
  have ka:=Jr g [] Fg Ng';have neH:∀b u,H2 b=some u->b≠X.env.locals:=fun b u e z=>by
   rw[z,I2.free] at e;cases e
  have I3:Inv X pins σ H2 {s2 with heap:=g,toks:=tk}:=by
   refine I2.step (g':=s2.gens) (d':=s2.drawn) (ch:=[]) (fun _ z=>nomatch z) (fun b o hb _ _ e _=>ka b o hb e) (fun b o hb _ _ e _=>⟨o.slots,ka b o hb e⟩) (fun b o _ _ n=>n) (fun b o _ e=>?_) (fun b xs e=>e) (fun b o u e=>e) (fun b ps e=>⟨#[],by rw[e];simp⟩) (fun m' V8=>?_) (fun b u e=>?_) I2.bare
   ·by_cases z:b=X.env.locals
    ·obtain⟨o2,_,_,e2,_⟩:=Fg.ns;rw[z];exact⟨o2,e2⟩
    ·exact⟨o,ka b o z e⟩
   ·have em:m'=m:=by
     obtain⟨o1,es1,ep1,e1,d1,_,f1⟩:=V8;obtain⟨o2,es2,ep2,e2,d2,_,f2⟩:=V7;rw[e1] at e2;cases e2;rw[d1] at d2;cases d2;funext x;rw[<-f1 x,f2 x]
    rw[em];exact Fg.ns
   ·refine(I2.fR b u e).El (fun d' v yr r=>ka d' v ?_ r) (fun _ r=>r) fun _ _ r=>r;rcases yr with rfl|yr
    ·exact neH _ _ e
    ·exact neH _ _ yr
  refine⟨.int (ns.getD i 0),H2,I3,⟨t,rfl⟩,k H2 i _ T2 kp (qX i _ hv) fun j mm hj=>?_⟩;have XG:j<its.length:=by rw[<-hlen];exact(aP.mp hj).1
  have YW:=best j XG;have ej:ns.getD j 0=mm:=by rw[bo,hj];rfl
  rw[ej] at YW;exact⟨YW.1,fun z=>YW.2 z⟩
end L2
section
namespace L2
open PySem PySem.Spec PyProof.Rows
open PySem.W (WData Codec OpenSpec Well WellAll ReadsW ReadsAllW)
mutual
inductive Dw (K:aq) (H:Hp):V->WData->Prop
 |gE:Dw K H .gE .none
 |bl (b:Bool):Dw K H (.bl b) (.bool b)
 |int (i:Int):Dw K H (.int i) (.int i)
 |str (x:Str):Dw K H (.str x) (.str x)
 |LU (b:Array UInt8):Dw K H (.LU b) (.bytes b.toList)
 |lst {a:Addr} {xs:List V} {ds:List WData}:cF K H a xs->wW K H xs ds->Dw K H (.ref a) (.list ds)
 |tup {a:Addr} {xs:List V} {ds:List WData}:JO K H a xs->wW K H xs ds->Dw K H (.ref a) (.tuple ds)
inductive wW (K:aq) (H:Hp):List V->List WData->Prop
 |nil:wW K H [] []
 |cons {v:V} {vs:List V} {d:WData} {ds:List WData}:Dw K H v d->wW K H vs ds->wW K H (v::vs) (d::ds)
end
theorem N_{K:aq}{H:Hp}:∀ns:List Int,wW K H (ns.map V.int) (ns.map WData.int)
 |[]=>.nil
 |n::r=>.cons (.int n) (N_ r)
theorem NY{K:aq}{H:Hp}:∀(ns:List Int) (xs:List V),wW K H xs (ns.map WData.int)->xs=ns.map V.int
 |[],xs,h=>by
  cases h;rfl
 |n::r,xs,h=>by
  cases h with
  |cons h1 h2=>
   cases h1;rw[NY r _ h2]<;>rfl
section
variable{P:bq}{w:cf}{K:aq}{H:Hp}{h:Heap}{R:Oy}{cl:Str->Option Addr}
theorem WV{a:Addr}{xs:List V}(fR:vE P w H h)(KX:K.In h)(q:cF K H a xs):∃(its:List ao) (o:Obj) (n:Nat),Vals xs its/\h.get? a=some o/\o.cls= .type "list"/\o.data= .seq its.toArray n:=by
 rcases q with q|⟨o,its,n,e,hc,_,hd,_,hv⟩
 ·obtain⟨_,its,n,hv,e⟩:=(show ia P w H h a (.lst xs) from q.ok fR);exact⟨its,_,n,hv,e,rfl,rfl⟩
 ·exact⟨its.toList,o,n,hv,KX _ _ e,hc,by simp[hd]⟩
theorem WU{a:Addr}{xs:List V}(fR:vE P w H h)(KX:K.In h)(q:JO K H a xs):∃(its:List ao) (o:Obj) (n:Nat),Vals xs its/\h.get? a=some o/\o.cls= .type "tuple"/\o.data= .seq its.toArray n:=by
 rcases q with q|⟨o,its,n,e,hc,hd,_,hv⟩
 ·obtain⟨_,its,hv,o,e,hc,n,hd⟩:=(show ia P w H h a (.tup xs) from q.ok fR);exact⟨its,o,n,hv,e,hc,hd⟩
 ·exact⟨its.toList,o,n,hv,KX _ _ e,hc,by simp[hd]⟩
mutual
theorem Dw.reads(fR:vE P w H h)(KX:K.In h):∀(d:WData) (v:V) (u:ao),Dw K H v d->RelV v u->∃as,ReadsW R cl h u d as
 |.none,_,_,x,r=>by
  cases x;cases r;exact⟨_,ReadsW.none⟩
 |.bool b,_,_,x,r=>by
  cases x;cases r;exact⟨_,ReadsW.bool b⟩
 |.int i,_,_,x,r=>by
  cases x;obtain⟨t,rfl⟩:=r;exact⟨_,ReadsW.int i t⟩
 |.str s,_,_,x,r=>by
  cases x;obtain⟨t,rfl⟩:=r;exact⟨_,ReadsW.str s t⟩
 |.bytes b,_,_,x,r=>by
  cases x;obtain⟨t,rfl⟩:=r;exact⟨_,ReadsW.bytes _ t⟩
 |.list ds,_,_,x,r=>by
  cases x with
  |lst hs ha=>
   cases r;obtain⟨its,o,n,rv,ho,hc,hd⟩:=WV fR KX hs;obtain⟨as,hr⟩:=Dw.readsAll fR KX ds _ its ha rv;exact⟨_,ReadsW.list ho hc hd hr⟩
 |.tuple ds,_,_,x,r=>by
  cases x with
  |tup hs ha=>
   cases r;obtain⟨its,o,n,rv,ho,hc,hd⟩:=WU fR KX hs;obtain⟨as,hr⟩:=Dw.readsAll fR KX ds _ its ha rv;exact⟨_,ReadsW.tuple ho hc hd hr⟩
 |.float _,_,_,x,_=>by cases x
 |.dict _,_,_,x,_=>by cases x
 |.bytearray _,_,_,x,_=>by cases x
 |.set _,_,_,x,_=>by cases x
 |.frozenset _,_,_,x,_=>by cases x
 |.obj _ _,_,_,x,_=>by cases x
theorem Dw.readsAll(fR:vE P w H h)(KX:K.In h):∀(ds:List WData) (vs:List V) (us:List ao),wW K H vs ds->Vals vs us->∃as,ReadsAllW R cl h us ds as
 |[],_,_,x,r=>by
  cases x;cases r;exact⟨_,ReadsAllW.nil⟩
 |d::ds,_,_,x,r=>by
  cases x with
  |cons h1 h2=>
   cases r with
   |cons r1 r2=>
    obtain⟨as,q1⟩:=Dw.reads fR KX d _ _ h1 r1;obtain⟨bs,q2⟩:=Dw.readsAll fR KX ds _ _ h2 r2;exact⟨_,ReadsAllW.cons q1 q2⟩
end
end
mutual
def NG:WData->Bool
 |.none=>true
 |.bool _=>true
 |.int _=>true
 |.str _=>true
 |.bytes _=>true
 |.list xs=>CV xs
 |.tuple xs=>CV xs
 |_=>false
def CV:List WData->Bool
 |[]=>true
 |x::r=>NG x&&CV r
end
theorem Ky{α:Type}{f:α->WData}(h:∀a,NG (f a)=true):∀l:List α,CV (l.map f)=true
 |[]=>rfl
 |x::r=>by
  show(NG (f x)&&CV (r.map f))=true;rw[h x,Ky h r]<;>rfl
theorem wq:∀(c:Codec) (a:c.denote),NG (c.enc a)=true
 |.unit,_=>rfl
 |.bool,_=>rfl
 |.int _ _,_=>rfl
 |.nat _ _,_=>rfl
 |.u8,_=>rfl
 |.bytes _ _,_=>rfl
 |.text _ _ _ _,_=>rfl
 |.list _ _ c,a=>Ky (fun x=>wq c x) a
 |.pair c d,a=>by
  show(NG (c.enc a.1)&&(NG (d.enc a.2)&&true))=true;rw[wq c a.1,wq d a.2]<;>rfl
 |.triple c d e,a=>by
  show(NG (c.enc a.1)&&(NG (d.enc a.2.1)&&(NG (e.enc a.2.2)&&true)))=true;rw[wq c a.1,wq d a.2.1,wq e a.2.2]<;>rfl
 |.option c,none=>rfl
 |.option c,some x=>wq c x
theorem Ho:∀(cs:List Codec) (a:Codec.denoteAll cs),CV (Codec.encAll cs a)=true
 |[],_=>rfl
 |c::cs,a=>by
  show(NG (c.enc a.1)&&CV (Codec.encAll cs a.2))=true;rw[wq c a.1,Ho cs a.2]<;>rfl
theorem yI:∀{xs:List WData} {d:WData},d∈xs->d.weight<=WData.weightAll xs
 |[],d,h=>absurd h (by simp)
 |x::r,d,h=>by
  show d.weight<=x.weight+1+WData.weightAll r;rcases az.mp h with e|m
  ·rw[e];omega
  ·have z:=yI m;omega
def toV:ao->V
 |.none=>.gE
 |.bool b=>.bl b
 |.int i _=>.int i
 |.str x _=>.str x
 |.bytes b _=>.LU b
 |.ref a=>.ref a
 |_=>.gE
def P'(A:List Addr):ao->Prop
 |.none=>True
 |.bool _=>True
 |.int _ _=>True
 |.str _ _=>True
 |.bytes _ _=>True
 |.ref a=>a∈A
 |_=>False
theorem P'.mono{A B:List Addr}(h:∀a∈A,a∈B):∀{u:ao},P' A u->P' B u:=fun{u} x=>by
 cases u with
 |ref a=>exact h a x
 |none=>trivial
 |bool b=>trivial
 |int i t=>trivial
 |str s t=>trivial
 |bytes b t=>trivial
 |_=>exact fL x
theorem Q8{A:List Addr}{u:ao}(x:P' A u):RelV (toV u) u:=by
 cases u with
 |ref a=>rfl
 |none=>rfl
 |bool b=>rfl
 |int i t=>exact⟨t,rfl⟩
 |str s t=>exact⟨t,rfl⟩
 |bytes b t=>exact⟨t,rfl⟩
 |_=>exact fL x
theorem sV{A:List Addr}:∀{vs:List ao},(∀u∈vs,P' A u)->Vals (vs.map toV) vs
 |[],_=>.nil
 |u::r,h=>.cons (Q8 (h u (au ..))) (sV fun x hx=>h x (aj _ hx))
def va(h:Heap)(A:List Addr)(a:Addr):Prop:=∃vs:List ao,vs.length<=aG/\(∀u∈vs,P' A u)/\
 (h.get? a=some {cls:= .type "list",data:= .seq vs.toArray}\/h.get? a=some {cls:= .type "tuple",data:= .seq vs.toArray})
theorem va.mono{h:Heap}{A B:List Addr}{a:Addr}(k:∀a∈A,a∈B)(x:va h A a):va h B a:=by
 obtain⟨vs,h1,h2,h3⟩:=x;exact⟨vs,h1,fun u hu=>(h2 u hu).mono k,h3⟩
theorem rm{P:Ib}{h:Heap}:∀{vs:List ao} {ds:List WData},WellAll P h vs ds->vs.length=ds.length
 |_,_,.nil=>rfl
 |_,_,.cons _ b=>by
  show _+1=_+1;rw[rm b]
theorem Hd{P:Ib}{h:Heap}{v:ao}{ds:List WData}(x:Well P h v (.list ds)):∃(a:Addr) (vs:List ao),v= .ref a/\h.get? a=some {cls:= .type "list",data:= .seq vs.toArray}/\WellAll P h vs ds:=by
 cases x with
 |list ho uL=>exact⟨_,_,rfl,ho,uL⟩
theorem D'{P:Ib}{h:Heap}{v:ao}{ds:List WData}(x:Well P h v (.tuple ds)):∃(a:Addr) (vs:List ao),v= .ref a/\h.get? a=some {cls:= .type "tuple",data:= .seq vs.toArray}/\WellAll P h vs ds:=by
 cases x with
 |tuple ho uL=>exact⟨_,_,rfl,ho,uL⟩
theorem He{P:Ib}{h:Heap}{us:List ao}{d:WData}{ds:List WData}(x:WellAll P h us (d::ds)):∃(v:ao) (vs:List ao),us=v::vs/\Well P h v d/\WellAll P h vs ds:=by
 cases x with
 |cons a b=>exact⟨_,_,rfl,a,b⟩
theorem NS{n:Nat}(h:n<=1048576):n<=aG:=aD h (by decide)
section
variable{P:Ib}{h:Heap}
mutual
theorem S5:∀(d:WData) (v:ao),Well P h v d->NG d=true->d.weight<=1048576->∃A:List Addr,P' A v/\∀a∈A,va h A a
 |.none,_,x,_,_=>by
  cases x;exact⟨[],trivial,fun a m=>absurd m (by simp)⟩
 |.bool b,_,x,_,_=>by
  cases x;exact⟨[],trivial,fun a m=>absurd m (by simp)⟩
 |.int i,_,x,_,_=>by
  cases x;exact⟨[],trivial,fun a m=>absurd m (by simp)⟩
 |.str s,_,x,_,_=>by
  cases x;exact⟨[],trivial,fun a m=>absurd m (by simp)⟩
 |.bytes b,_,x,_,_=>by
  cases x;exact⟨[],trivial,fun a m=>absurd m (by simp)⟩
 |.list ds,_,x,p,z=>by
  obtain⟨a,vs,rfl,ho,uL⟩:=Hd x;have z2:WData.weightAll ds<=1048576:=z;obtain⟨A,h1,h2⟩:=AE ds _ uL p fun d hd=>aD (yI hd) z2;have k:∀b∈A,b∈a::A:=fun b hb=>aj _ hb;refine⟨a::A,au ..,fun b hb=>?_⟩;rcases az.mp hb with e|m
  ·rw[e];exact⟨vs,NS (by rw[rm uL];exact aD (CC ds) z2),fun u hu=>(h1 u hu).mono k,.inl ho⟩
  ·exact(h2 b m).mono k
 |.tuple ds,_,x,p,z=>by
  obtain⟨a,vs,rfl,ho,uL⟩:=D' x;have z2:WData.weightAll ds<=1048576:=z;obtain⟨A,h1,h2⟩:=AE ds _ uL p fun d hd=>aD (yI hd) z2;have k:∀b∈A,b∈a::A:=fun b hb=>aj _ hb;refine⟨a::A,au ..,fun b hb=>?_⟩;rcases az.mp hb with e|m
  ·rw[e];exact⟨vs,NS (by rw[rm uL];exact aD (CC ds) z2),fun u hu=>(h1 u hu).mono k,.inr ho⟩
  ·exact(h2 b m).mono k
 |.float _,_,_,p,_=>a0 (show false=true from p)
 |.dict _,_,_,p,_=>a0 (show false=true from p)
 |.bytearray _,_,_,p,_=>a0 (show false=true from p)
 |.set _,_,_,p,_=>a0 (show false=true from p)
 |.frozenset _,_,_,p,_=>a0 (show false=true from p)
 |.obj _ _,_,_,p,_=>a0 (show false=true from p)
theorem AE:∀(ds:List WData) (vs:List ao),WellAll P h vs ds->CV ds=true->(∀d∈ds,d.weight<=1048576)->∃A:List Addr,(∀u∈vs,P' A u)/\∀a∈A,va h A a
 |[],_,x,_,_=>by
  cases x;exact⟨[],fun u m=>absurd m (by simp),fun a m=>absurd m (by simp)⟩
 |d::ds,_,x,p,z=>by
  obtain⟨v,vs,rfl,x1,x2⟩:=He x;have q:NG d=true/\CV ds=true:=Nk.mp p;obtain⟨A,a1,a2⟩:=S5 d v x1 q.1 (z d (au ..));obtain⟨B,b1,b2⟩:=AE ds vs x2 q.2 fun e he=>z e (aj _ he);have kA:∀b∈A,b∈A++B:=fun b hb=>bQ.mpr (.inl hb);have kB:∀b∈B,b∈A++B:=fun b hb=>bQ.mpr (.inr hb);refine⟨A++B,fun u hu=>?_,fun b hb=>?_⟩
  ·rcases az.mp hu with e|m
   ·rw[e];exact a1.mono kA
   ·exact(b1 u m).mono kB
  ·rcases bQ.mp hb with m|m
   ·exact(a2 b m).mono kA
   ·exact(b2 b m).mono kB
end
end
def U9(o:Obj):Option HO:=match o.data with
 |.seq vs _=>if(o.cls==jz "list")=true then some (.Bx o (.lst (vs.toList.map toV))) else some (.Bx o (.tup (vs.toList.map toV)))
 |_=>none
def tW(K:aq)(h:Heap)(A:List Addr):Hp:=fun b=>if b∈A then(if(K.lookup b).isNone=true then(h.get? b).bind U9 else none) else none
def Ou(H:Hp):Prop:=∀b,H b=none\/∃o u,H b=some (.Bx o u)
theorem K0(vs:List ao):U9 {cls:= .type "list",data:= .seq vs.toArray}=some (.Bx {cls:= .type "list",data:= .seq vs.toArray} (.lst (vs.map toV))):=by
 show(if(jz "list"==jz "list")=true then some (HO.Bx {cls:= .type "list",data:= .seq vs.toArray} (.lst (vs.toArray.toList.map toV))) else some (HO.Bx {cls:= .type "list",data:= .seq vs.toArray} (.tup (vs.toArray.toList.map toV))))=_;rw[if_pos (beq_self_eq_true _)]
theorem KZ(vs:List ao):U9 {cls:= .type "tuple",data:= .seq vs.toArray}=some (.Bx {cls:= .type "tuple",data:= .seq vs.toArray} (.tup (vs.map toV))):=by
 show(if(jz "tuple"==jz "list")=true then some (HO.Bx {cls:= .type "tuple",data:= .seq vs.toArray} (.lst (vs.toArray.toList.map toV))) else some (HO.Bx {cls:= .type "tuple",data:= .seq vs.toArray} (.tup (vs.toArray.toList.map toV))))=_;rw[if_neg (by decide)]
section
variable{P:bq}{w:cf}{K:aq}{h:Heap}{A:List Addr}
theorem DX{b:Addr}{o:Obj}(hb:b∈A)(hk:K.lookup b=none)(e:h.get? b=some o):tW K h A b=U9 o:=by
 unfold tW;rw[if_pos hb,hk,if_pos (show(none:Option Obj).isNone=true from rfl),e]<;>rfl
theorem UQ{b:Addr}{u:HO}(q:tW K h A b=some u):b∈A/\K.lookup b=none:=by
 unfold tW at q;by_cases hb:b∈A
 ·rw[if_pos hb] at q;cases hk:K.lookup b with
  |none=>exact⟨hb,rfl⟩
  |some o=>
   rw[hk,if_neg (by simp)] at q;cases q
 ·rw[if_neg hb] at q;cases q
theorem DW(ar:∀a∈A,va h A a){b:Addr}{u:HO}(q:tW K h A b=some u):K.lookup b=none/\∃vs:List ao,vs.length<=aG/\(∀u∈vs,P' A u)/\
  ((h.get? b=some {cls:= .type "list",data:= .seq vs.toArray}/\u= .Bx {cls:= .type "list",data:= .seq vs.toArray} (.lst (vs.map toV)))\/
   (h.get? b=some {cls:= .type "tuple",data:= .seq vs.toArray}/\u= .Bx {cls:= .type "tuple",data:= .seq vs.toArray} (.tup (vs.map toV)))):=by
 obtain⟨hb,hk⟩:=UQ q;obtain⟨vs,h1,h2,h3⟩:=ar b hb;refine⟨hk,vs,h1,h2,?_⟩;rcases h3 with e|e
 ·rw[DX hb hk e,K0] at q;exact .inl ⟨e,(aR q).symm⟩
 ·rw[DX hb hk e,KZ] at q;exact .inr ⟨e,(aR q).symm⟩
theorem P9(ar:∀a∈A,va h A a):Ou (tW K h A):=fun b=>by
 cases q:tW K h A b with
 |none=>exact .inl rfl
 |some u=>
  obtain⟨_,vs,_,_,⟨_,e⟩|⟨_,e⟩⟩:=DW ar q
  ·exact .inr ⟨_,_,by rw[e]⟩
  ·exact .inr ⟨_,_,by rw[e]⟩
theorem Vy(ar:∀a∈A,va h A a):vE P w (tW K h A) h:=fun b u q=>by
 obtain⟨_,vs,h1,h2,⟨e,rfl⟩|⟨e,rfl⟩⟩:=DW ar q
 ·exact⟨e,by rw[ab];exact h1,vs,_,sV h2,e⟩
 ·exact⟨e,by rw[ab];exact h1,vs,sV h2,_,e,rfl,_,rfl⟩
theorem DF{c c':ao}{vs us:List ao}(e:(some {cls:=c,data:= .seq vs.toArray}:Option Obj)=some {cls:=c',data:= .seq us.toArray}):c=c'/\vs=us:=by
 have e1:=aR e;have e2:c=c':=congrArg Obj.cls e1;have e3:Data.seq vs.toArray=Data.seq us.toArray:=congrArg Obj.data e1;injection e3 with e4;refine⟨e2,?_⟩;have e5:=congrArg WD e4
 simpa using e5
theorem afr(KX:K.In h)(ar:∀a∈A,va h A a){a:Addr}{vs:List ao}(ha:a∈A)(e:h.get? a=some {cls:= .type "list",data:= .seq vs.toArray}):(∀u∈vs,P' A u)/\cF K (tW K h A) a (vs.map toV):=by
 obtain⟨us,h1,h2,h3⟩:=ar a ha;have hu:us=vs:=by
  rcases h3 with q|q
  ·rw[e] at q;exact(DF q).2.symm
  ·rw[e] at q;exact absurd (Nc (DF q).1) (by decide)
 subst hu;refine⟨h2,?_⟩;cases hk:K.lookup a with
 |none=>exact .inl (.inr ⟨_,by rw[DX ha hk e,K0]⟩)
 |some o=>
  have e2:=KX a o hk;rw[e] at e2;obtain rfl:=aR e2;exact .inr ⟨_,us.toArray,_,hk,rfl,rfl,rfl,by rw[bu];exact h1,by simpa using sV h2⟩
theorem afq(KX:K.In h)(ar:∀a∈A,va h A a){a:Addr}{vs:List ao}(ha:a∈A)(e:h.get? a=some {cls:= .type "tuple",data:= .seq vs.toArray}):(∀u∈vs,P' A u)/\JO K (tW K h A) a (vs.map toV):=by
 obtain⟨us,h1,h2,h3⟩:=ar a ha;have hu:us=vs:=by
  rcases h3 with q|q
  ·rw[e] at q;exact absurd (Nc (DF q).1) (by decide)
  ·rw[e] at q;exact(DF q).2.symm
 subst hu;refine⟨h2,?_⟩;cases hk:K.lookup a with
 |none=>exact .inl (.inr ⟨_,by rw[DX ha hk e,KZ]⟩)
 |some o=>
  have e2:=KX a o hk;rw[e] at e2;obtain rfl:=aR e2;exact .inr ⟨_,us.toArray,_,hk,rfl,rfl,by rw[bu];exact h1,by simpa using sV h2⟩
mutual
theorem X8{Pm:Ib}(KX:K.In h)(ar:∀a∈A,va h A a):∀(d:WData) (v:ao),Well Pm h v d->NG d=true->P' A v->Dw K (tW K h A) (toV v) d
 |.none,_,x,_,_=>by
  cases x;exact .gE
 |.bool b,_,x,_,_=>by
  cases x;exact .bl b
 |.int i,_,x,_,_=>by
  cases x;exact .int i
 |.str s,_,x,_,_=>by
  cases x;exact .str s
 |.bytes b,_,x,_,_=>by
  cases x;have z:=Dw.LU (K:=K) (H:=tW K h A) b.toArray;exact z
 |.list ds,_,x,p,hu=>by
  obtain⟨a,vs,rfl,ho,uL⟩:=Hd x;obtain⟨h2,hs⟩:=afr KX ar hu ho;exact .lst hs (JB KX ar ds _ uL p h2)
 |.tuple ds,_,x,p,hu=>by
  obtain⟨a,vs,rfl,ho,uL⟩:=D' x;obtain⟨h2,hs⟩:=afq KX ar hu ho;exact .tup hs (JB KX ar ds _ uL p h2)
 |.float _,_,_,p,_=>a0 (show false=true from p)
 |.dict _,_,_,p,_=>a0 (show false=true from p)
 |.bytearray _,_,_,p,_=>a0 (show false=true from p)
 |.set _,_,_,p,_=>a0 (show false=true from p)
 |.frozenset _,_,_,p,_=>a0 (show false=true from p)
 |.obj _ _,_,_,p,_=>a0 (show false=true from p)
theorem JB{Pm:Ib}(KX:K.In h)(ar:∀a∈A,va h A a):∀(ds:List WData) (vs:List ao),WellAll Pm h vs ds->CV ds=true->(∀u∈vs,P' A u)->wW K (tW K h A) (vs.map toV) ds
 |[],_,x,_,_=>by
  cases x;exact .nil
 |d::ds,_,x,p,hu=>by
  obtain⟨v,vs,rfl,x1,x2⟩:=He x;have q:NG d=true/\CV ds=true:=Nk.mp p;exact .cons (X8 KX ar d v x1 q.1 (hu _ (au ..))) (JB KX ar ds vs x2 q.2 fun u m=>hu u (aj _ m))
end
end
theorem QW{P:bq}{w:cf}{K:aq}{mg mb:Str->Option ao}{CX:Qu}{k:Nat}{fa c Pt:Addr}{fd:gA}{ps:List Str}{sp:Sp}{s₁:aI}{vals:List ao}{ds:List WData}{R:Oy}{cl:Str->Option Addr}{d0:WData}
  (KX:K.In s₁.heap)(V7:s₁.heap.Ns d7 mg)(hb:s₁.heap.Ns D8 mb)(hbb:∀x:Str,x≠"__name__"->mb x=o7 x)(aeg:s₁.heap.NoLimit)(hg:s₁.gens=#[])
  (MK:WellAll w.params s₁.heap vals ds)(jD:CV ds=true)(V3:∀d∈ds,d.weight<=1048576)(hr:me k Qy)
  (hbm:BH mg s₁.heap)(LR:kC s₁.heap c Pt)(hPt:s₁.heap.get? Pt=some (vH #[]))(hKP:K.lookup Pt=none)
  (F:∀base:Heap,K.In base->base.Ns d7 mg->BH mg base->cz P w K mg base CX k fa fd ps sp)(aaS:∀(s:aI) (us:List ao),K.In s.heap->us.length=ps.length->Yy s fd ⟨us,[]⟩ (ps.zip us))(hlen:ds.length=ps.length)
  (Qo:∀(H:Hp) (xs:List V),Ou H->H Pt=none->wW K H xs ds->sp xs (upd H Pt (.x_ #[])) (fun v H'=>Dw K H' v d0) fun _ _ _=>False)
  (hCX:∀H e s',CX [] H s₁ (fun _ _ _=>False) e s'->False):
  sP (bS P w) Qy (.call (.ref fa) ⟨vals,[]⟩) (fun r s'=>∃u as,r= .ok (.ret u)/\ReadsW R cl s'.heap u d0 as/\OldK s₁.heap s'.heap/\s'.os=s₁.os/\Gj s'.gens) s₁:=by
 obtain⟨A,ho,ar⟩:=AE ds vals MK jD V3;have hO:Ou (tW K s₁.heap A):=P9 ar;have fR:vE P w (tW K s₁.heap A) s₁.heap:=Vy ar;have hS:=JB KX ar ds vals MK jD ho;have hV:=sV ho;have hK:∀b u,tW K s₁.heap A b=some u->K.lookup b=none:=fun b u q=>(DW ar q).1;have RQ:∀{b:Addr} {o:Obj},s₁.heap.get? b=some o->(∀vs n,o.data≠ .seq vs n)->tW K s₁.heap A b=none:=fun{b o} e d=>by
  cases q:tW K s₁.heap A b with
  |none=>rfl
  |some u=>
   obtain⟨_,vs,_,_,⟨e2,_⟩|⟨e2,_⟩⟩:=DW ar q
   ·rw[e2] at e;cases e;exact absurd rfl (d _ _)
   ·rw[e2] at e;cases e;exact absurd rfl (d _ _)
 have hP0:tW K s₁.heap A Pt=none:=RQ hPt fun vs n z=>by cases z
 generalize tW K s₁.heap A=H0 at hO fR hS hK RQ hP0;have sp0:=Qo H0 _ hO hP0 hS;have Xy:vE P w (upd H0 Pt (.x_ #[])) s₁.heap:=fun b u q=>by
  by_cases e:b=Pt
  ·subst e;rw[ae] at q;cases q;exact hPt
  ·rw[aA e] at q;exact(fR b u q).El (fun _ _ _ z=>z) (fun b z=>by rw[aA (aE z hP0)];exact z) (fun b xs z=>by rw[aA (aE z hP0)];exact z)
 have H1n:∀{b:Addr},H0 b=none->b≠Pt->upd H0 Pt (.x_ #[]) b=none:=fun{b} z e=>by rw[aA e];exact z
 have Xf:∀{b:Addr} {o:Obj},s₁.heap.get? b=some o->(∀vs n,o.data≠ .seq vs n)->(∀vs,o.data≠ .fields vs)->upd H0 Pt (.x_ #[]) b=none:=fun{b o} e d1 d2=>H1n (RQ e d1) fun z=>by
  rw[z,hPt] at e;cases e;exact d2 _ rfl
 have nK:∀b o,K.lookup b=some o->upd H0 Pt (.x_ #[]) b=none:=fun b o e=>by
  refine H1n ?_ fun z=>by rw[z,hKP] at e;cases e
  cases q:H0 b with
  |none=>rfl
  |some u=>
   rw[hK b u q] at e;cases e
 have onl:∀b,b≠Pt->upd H0 Pt (.x_ #[]) b=none\/∃o u,upd H0 Pt (.x_ #[]) b=some (.Bx o u):=fun b e=>by
  rw[aA e];exact hO b
 have hP1:upd H0 Pt (.x_ #[]) Pt=some (.x_ #[]):=ae;generalize upd H0 Pt (.x_ #[])=H at sp0 Xy Xf nK onl hP1;have JM:∀{b:Addr} {o:Obj},s₁.heap.get? b=some o->H b=none->(GJ s₁.heap H).get? b=some o:=fun e n=>Se e n;have nsK:∀{b:Addr} {m:Str->Option ao},s₁.heap.Ns b m->(GJ s₁.heap H).Ns b m:=fun{b m} ⟨o,es,ep,e,d,r⟩=>⟨o,es,ep,JM e (Xf e (fun vs n z=>by rw[d] at z;cases z) (fun vs z=>by rw[d] at z;cases z)),d,r⟩;have hKb:K.In (GJ s₁.heap H):=fun b o e=>JM (KX b o e) (nK b o e);have hM:Mod K mg (GJ s₁.heap H):=⟨hKb,nsK V7,⟨mb,nsK hb,hbb⟩,let ⟨mc,h1,h2⟩:=aeg;⟨mc,nsK h1,h2⟩⟩;have hB:BH mg (GJ s₁.heap H):=let ⟨bm,ob,b1,b2,b3,b4,b5,b6⟩:=hbm;⟨bm,ob,b1,b2,JM b3 (Xf b3 (fun vs n z=>by rw[b6] at z;cases z) (fun vs z=>by rw[b6] at z;cases z)),b4,b5,b6⟩
 have e0:M9 P w K mg (GJ s₁.heap H) Qy [] s₁ H:=⟨rfl,hM,fun b o e=>UP e,CI (PD _ _),trivial,fun b hb=>absurd (show b∈([]:List Addr) from hb) (by simp),Xy,.of_eq hg⟩;have hl:vals.length=ps.length:=by rw[rm MK];exact hlen
 refine yB ((F _ hKb (nsK V7) hB).run Qy [] s₁ H ⟨vals,[]⟩ vals (vals.map toV) _ _ hr e0 (aaS s₁ vals KX hl) hV sp0) fun r s' x=>?_;cases r with
 |error e=>exact(hCX H e s' x).elim
 |ok fl=>
  cases fl with
  |next=>exact fL x
  |brk=>exact fL x
  |cont=>exact fL x
  |ret u=>
   obtain⟨v,H',os,bare,un,R9,r',q⟩:=x;have kept:∀b o,b≠Pt->s₁.heap.get? b=some o->s'.heap.get? b=some o:=fun b o XU e=>by
    cases q2:H b with
    |none=>exact un.keep b o e q2 (by intro z;exact absurd (show b∈([]:List Addr) from z) (by simp)) (by simp)
    |some u2=>
     rcases onl b XU with z|⟨ob,u3,z⟩
     ·rw[q2] at z;cases z
     ·have z2:=un.Dg b ob _ z;obtain⟨e1,_⟩:=Xy b _ z;obtain⟨e2,_⟩:=R9 b _ z2;rw[e] at e1;cases e1;exact e2
   obtain⟨more,hm⟩:=un.Ij Pt #[] hP1;have hP':s'.heap.get? Pt=some (vH (#[]++more)):=R9 Pt _ hm;have KX':K.In s'.heap:=fun b o e=>kept b o (fun z=>by rw[z,hKP] at e;cases e) (KX b o e);obtain⟨as,hrd⟩:=Dw.reads (R:=R) (cl:=cl) R9 KX' d0 v u q r';refine⟨u,as,rfl,hrd,⟨fun b o e=>?_,fun b o e=>?_⟩,os,bare⟩
   ·by_cases XU:b=Pt
    ·subst XU;rw[hPt] at e;cases e;exact .inr (.inl ⟨(LR.tab hPt).isCodeTable,rfl,#[],more,rfl,hP'⟩)
    ·exact .inl (kept b o XU e)
   ·by_cases XU:b=Pt
    ·subst XU;exact⟨_,hP'⟩
    ·exact⟨o,kept b o XU e⟩
theorem Fm{ds:List WData}(h:WData.layableAll ds=true):∀d∈ds,d.weight<=1048576:=fun d hd=>
 (PySem.W.layableW_iff.mp (gY.mp h d hd)).2.2
theorem FN:∀(cs:List Codec) (a:Codec.denoteAll cs),(Codec.encAll cs a).length=cs.length
 |[],_=>rfl
 |c::cs,a=>by
  show(Codec.encAll cs a.2).length+1=cs.length+1;rw[FN cs a.2]
theorem QN{r:OpenSpec}{k:Nat}{q:bq}{loose:List Str}{XP:(Str->Option ao)->Heap->Prop}{YP:cf->Heap->Prop}{d:DefRec}{K:Ib->aq}{CX:Qu}{ps:List Str}
  (aai:r.wellSaid=true)(hdf:d.params.defaults=[])(hlen:r.args.length=ps.length)(hr:me k Qy)
  (hY:∀(w:cf) (h:Heap),YP w h->(K w.params).In h)
  (F:∀(w:cf) (mg mb:Str->Option ao) (UU:PySem.ExcName->Option ao) (fa:Addr) (h:Heap),YP w h->(K w.params).In h->Top q (PySem.W.looseW q loose) UU mg mb h->mg d.name=some (.ref fa)->
   ∃(fd:gA) (c Pt:Addr) (sp:Sp),kC h c Pt/\h.get? Pt=some (vH #[])/\(K w.params).lookup Pt=none/\(∀(s:aI) (us:List ao),(K w.params).In s.heap->us.length=ps.length->Yy s fd ⟨us,[]⟩ (ps.zip us))/\
    (∀base:Heap,(K w.params).In base->base.Ns d7 mg->BH mg base->cz r.prog w (K w.params) mg base CX k fa fd ps sp)/\
    ∀(H:Hp) (xs:List V) (a:Codec.denoteAll r.args),Ou H->H Pt=none->Codec.withinAll r.args a=true->Codec.app r.args r.asked a=true->wW (K w.params) H xs (Codec.encAll r.args a)->
     sp xs (upd H Pt (.x_ #[])) (fun v H'=>Dw (K w.params) H' v (r.ret.enc (Codec.app r.args r.f a))) fun _ _ _=>False)
  (hCX:∀(H:Hp) (s:aI) (e:ao) (s':aI),CX [] H s (fun _ _ _=>False) e s'->False):
  PySem.W.WalkOS q loose XP YP r d [] (fun f vs=>PySem.call f vs):=by
 intro w Hl s₁ mg mb G Y fa o pm cd doc dV kV ho hd LR hD hmg hg args vals as ad2 aeh hrd MK hlo;obtain⟨a,e1,e2⟩:=PySem.W.os_pre_some ad2;obtain⟨e3,YM⟩:=Codec.encAll_of_decAll r.args args a e1;subst e3;have KX:=hY w _ Y;obtain⟨fd,c,Pt,sp,f1,f2,f3,hb,hF,Qo⟩:=F w mg mb _ fa _ Y KX G.T hmg;refine PySem.W.enter_call (yB (QW (R:=[]) (cl:=classAt Hl.heap) (d0:=r.ret.enc (Codec.app r.args r.f a)) KX G.T.g G.T.b G.T.builtins G.T.nolimit hg MK (Ho _ _) (Fm aeh) hr G.T.bmain f1 f2 f3 hF hb (by rw[FN];exact hlen)
  (fun H xs hO hP hS=>Qo H xs a hO hP YM e2 hS) fun H e s'=>hCX H s₁ e s') fun r' s' hq=>?_)
 obtain⟨u,as',rfl,h1,h2,h3,h4⟩:=hq;exact⟨.inl ⟨u,_,as',rfl,fun _=>rfl,h1,(OpenSpec.post_iff aai YM _ _).mpr rfl,fun z=>a0 (show false=true from z)⟩,h2,h3,h4⟩
end L2
end
namespace Tm
open Vbtkaj
def pr(ps:List Nat)(i:Nat):Nat:=ps.getD i 0
def kids(ps:List Nat)(i:Nat):List Nat:=(dg ps.length).filter fun j=>j !=i&&pr ps j==i
structure Shape(ps:List Nat)(dp:Nat->Nat):Prop where
 len:ps.length<=20
 root:pr ps 0=0
 lt:∀i,0<i->i<ps.length->pr ps i<i
 ds:∀i,0<i->i<ps.length->dp i=dp (pr ps i)+1
 d5:∀i,i<ps.length->dp i<=5
def pre(ps:List Nat):Nat->Nat->List Nat
 |0,_=>[]
 |n+1,i=>i::(kids ps i).flatMap (pre ps n)
theorem fQ{ps:List Nat}{i j:Nat}:j∈kids ps i↔j<ps.length/\j≠i/\pr ps j=i:=by
 unfold kids;rw[bA,hW];simp[bne_iff_ne]
theorem qF{ps:List Nat}{dp:Nat->Nat}(S:Shape ps dp){i j:Nat}(h:j∈kids ps i):0<j/\i<j:=by
 obtain⟨h1,h2,h3⟩:=fQ.mp h;have h0:0<j:=by
  rcases cG j with e|e
  ·subst e;have:=S.root;omega
  ·exact e
 have:=S.lt j h0 h1;omega
theorem uI{ps:List Nat}{dp:Nat->Nat}(S:Shape ps dp){i j:Nat}(h:j∈kids ps i):dp j=dp i+1:=by
 obtain⟨h1,h2,h3⟩:=fQ.mp h;have:=S.ds j (qF S h).1 h1;rw[h3] at this;exact this
theorem y4(ps:List Nat)(i:Nat):(kids ps i).Nodup:=sS _ List.nodup_range
theorem qI{α β:Type}{f g:α->List β}:∀{l:List α},(∀x∈l,f x=g x)->l.flatMap f=l.flatMap g
 |[],_=>rfl
 |a::l,h=>by
  rw[bU,bU,h a (au),qI (l:=l) fun x hx=>h x (aj _ hx)]
theorem EN{ps:List Nat}{dp:Nat->Nat}(S:Shape ps dp):∀(n m i:Nat),i<ps.length->6<=n+dp i->6<=m+dp i->pre ps n i=pre ps m i
 |0,m,i,hi,hn,_=>by have:=S.d5 i hi;omega
 |n+1,0,i,hi,_,hm=>by have:=S.d5 i hi;omega
 |n+1,m+1,i,hi,hn,hm=>by
  show i::_=i::_;congr 1;refine qI fun c hc=>?_;have:=uI S hc;exact EN S n m c (fQ.mp hc).1 (by omega) (by omega)
def ups(ps:List Nat):Nat->Nat->Nat
 |0,j=>j
 |k+1,j=>ups ps k (pr ps j)
theorem Kb(ps:List Nat):∀(k j:Nat),ups ps (k+1) j=pr ps (ups ps k j)
 |0,_=>rfl
 |k+1,j=>by
  show ups ps (k+1) (pr ps j)=_;rw[Kb ps k (pr ps j)];rfl
theorem Nq(ps:List Nat):∀(a b j:Nat),ups ps (a+b) j=ups ps b (ups ps a j)
 |0,b,j=>by rw[lE];rfl
 |a+1,b,j=>by
  rw[show a+1+b=(a+b)+1 by omega];show ups ps (a+b) (pr ps j)=ups ps b (ups ps a (pr ps j));exact Nq ps a b (pr ps j)
theorem ZR{ps:List Nat}{dp:Nat->Nat}(S:Shape ps dp)(i:Nat):pr ps i<=i:=by
 rcases cG i with e|e
 ·subst e;rw[S.root];exact aL _
 ·by_cases h:i<ps.length
  ·exact cK (S.lt i e h)
  ·unfold pr;rw[bo,fZ (by omega)];exact aT _
theorem QQ{ps:List Nat}{dp:Nat->Nat}(S:Shape ps dp):∀(k j:Nat),ups ps k j<=j
 |0,_=>aL _
 |k+1,j=>aD (QQ S k (pr ps j)) (ZR S j)
theorem oz{ps:List Nat}{dp:Nat->Nat}(S:Shape ps dp):∀(n i j:Nat),j∈pre ps n i->(∃k,ups ps k j=i)/\i<=j/\(i<ps.length->j<ps.length)
 |0,_,_,h=>by cases h
 |n+1,i,j,h=>by
  rcases az.mp h with e|h
  ·subst e;exact⟨⟨0,rfl⟩,aL _,id⟩
  ·obtain⟨c,hc,hj⟩:=b7.mp h;obtain⟨⟨k,hk⟩,h1,h2⟩:=oz S n c j hj;obtain⟨c1,c2,c3⟩:=fQ.mp hc;have:=qF S hc;exact⟨⟨k+1,by rw[Kb,hk,c3]⟩,by omega,fun _=>h2 c1⟩
theorem Kx{ps:List Nat}{dp:Nat->Nat}(S:Shape ps dp){n m i c d j:Nat}(hc:c∈kids ps i)(hd:d∈kids ps i)(h1:j∈pre ps n c)(h2:j∈pre ps m d):c=d:=by
 obtain⟨⟨a,ha⟩,_⟩:=oz S _ _ _ h1;obtain⟨⟨b,hb⟩,_⟩:=oz S _ _ _ h2;have pc:=qF S hc;have pd:=qF S hd;have ec:=(fQ.mp hc).2.2;have ed:=(fQ.mp hd).2.2;have key:∀(x y a b:Nat),pr ps x=i->i<y->ups ps a j=x->ups ps b j=y->a<=b->x=y:=by
  intro x y a b ex hy ha hb hab;have e:b=a+(b -a):=by omega
  rw[e,Nq,ha] at hb;cases q:b -a with
  |zero=>rw[q] at hb;exact hb
  |succ r=>
   rw[q] at hb;have:ups ps r (pr ps x)=y:=hb;rw[ex] at this;have:=QQ S r i;omega
 rcases Nat.le_total a b with h|h
 ·exact key c d a b ec pd.2 ha hb h
 ·exact(key d c b a ed pc.2 hb ha h).symm
theorem yq{f:Nat->List Nat}:∀{l:List Nat},l.Nodup->(∀x∈l,(f x).Nodup)->(∀x∈l,∀y∈l,∀j,j∈f x->j∈f y->x=y)->(l.flatMap f).Nodup
 |[],_,_,_=>nF
 |a::l,hl,hf,hd=>by
  obtain⟨h1,h2⟩:=bG.mp hl;rw[bU];refine eV.mpr ⟨hf a (au),yq h2 (fun x hx=>hf x (aj _ hx)) (fun x hx y hy=>hd x (aj _ hx) y (aj _ hy)),?_⟩;intro x hx y hy e;subst e;obtain⟨c,hc,YK⟩:=b7.mp hy;have:=hd a (au) c (aj _ hc) x hx YK;subst this;exact h1 hc
theorem Hn{ps:List Nat}{dp:Nat->Nat}(S:Shape ps dp):∀(n i:Nat),(pre ps n i).Nodup
 |0,_=>nF
 |n+1,i=>by
  refine bG.mpr ⟨?_,yq (y4 ps i) (fun c _=>Hn S n c) (fun c hc d hd j h1 h2=>Kx S hc hd h1 h2)⟩;intro h;obtain⟨c,hc,hj⟩:=b7.mp h;have:=(oz S n c i hj).2.1;have:=(qF S hc).2;omega
theorem Ag{n:Nat}:∀{l:List Nat},l.Nodup->(∀x∈l,x<n)->l.length<=n:=by
 induction n with
 |zero=>
  intro l _ h;cases l with
  |nil=>exact aL _
  |cons a l=>exact absurd (h a (au)) (iS _)
 |succ n ih=>
  intro l hl h;have h1:(l.filter fun x=>x !=n).length<=n:=ih (sS _ hl) (fun x hx=>by
   obtain⟨a,b⟩:=bA.mp hx;have:=h x a;have:x≠n:=by simpa using b
   omega)
  have h2:∀{l:List Nat},l.Nodup->l.length<=(l.filter fun x=>x !=n).length+1:=by
   intro l
   induction l with
   |nil=>intro _;exact aT _
   |cons a l ih2=>
    intro hn;obtain⟨n1,n2⟩:=bG.mp hn;by_cases e:a=n
    ·subst e;have:l.filter (fun x=>x !=a)=l:=lW.mpr fun x hx=>by
      have:x≠a:=fun q=>n1 (q▸hx)
      simpa using this
     rw[aZ,if_neg (by simp),this];exact aL _
    ·rw[aZ,if_pos (by simpa using e)];have:=ih2 n2;simp only[aQ];omega
  have:=h2 hl;omega
theorem Ms{ps:List Nat}{dp:Nat->Nat}(S:Shape ps dp){n i:Nat}(hi:i<ps.length):(pre ps n i).length<=20:=
 aD (Ag (Hn S n i) fun _ hx=>(oz S _ _ _ hx).2.2 hi) S.len
theorem iD{ps:List Nat}{dp:Nat->Nat}(S:Shape ps dp)(i:Nat):(kids ps i).length<=20:=
 aD (Ag (y4 ps i) fun _ hx=>(fQ.mp hx).1) S.len
theorem yX{ps:List Nat}{dp:Nat->Nat}(S:Shape ps dp):∀(n i p j:Nat),i<ps.length->6<=n+dp i->p∈pre ps n i->j∈kids ps p->j∈pre ps n i
 |0,_,_,_,_,_,h,_=>by cases h
 |n+1,i,p,j,hi,hn,h,hj=>by
  rcases az.mp h with e|h
  ·subst e;refine aj _ (b7.mpr ⟨j,hj,?_⟩);have h1:=(fQ.mp hj).1;have h2:=uI S hj;have h3:=S.d5 j h1;cases n with
   |zero=>omega
   |succ n=>exact au
  ·obtain⟨c,hc,hp⟩:=b7.mp h;have:=uI S hc;exact aj _ (b7.mpr ⟨c,hc,yX S n c p j (fQ.mp hc).1 (by omega) hp hj⟩)
def ps(t:Tree):List Nat:=t.nodes.map (·.parent)
theorem ib(t:Tree):(ps t).length=t.nodes.length:=ab _
theorem nL(t:Tree)(i:Nat):pr (ps t) i=(af t i).parent:=by
 unfold pr ps af;rw[bo,bo,aM];cases t.nodes[i]? with
 |none=>rfl
 |some n=>rfl
theorem dI(t:Tree)(i:Nat):charges t i=kids (ps t) i:=by
 unfold charges kids;rw[ib];congr 1;funext j;rw[nL]
theorem jr(t:Tree)(i j:Nat)(n:Node):af (fe t i n) j=if j=i/\j<t.nodes.length then n else af t j:=by
 unfold af fe;rw[bo,bo,QC];by_cases e:i=j
 ·subst e;by_cases h:i<t.nodes.length
  ·rw[if_pos rfl,if_pos h,if_pos ⟨rfl,h⟩];rfl
  ·rw[if_pos rfl,if_neg h,if_neg (fun q=>h q.2),fZ (by omega)]
 ·rw[if_neg e,if_neg (fun q=>e q.1.symm)]
theorem Cg(t:Tree)(i k j:Nat):af (tell t i k) j=af t j:=rfl
theorem UW(t:Tree)(i:Nat)(n:Node):(fe t i n).nodes.length=t.nodes.length:=TY
theorem yW(t:Tree)(i:Nat)(n:Node)(h:n.parent=(af t i).parent):ps (fe t i n)=ps t:=by
 unfold ps fe;rw[List.map_set];refine QF fun j=>?_;rw[QC];by_cases e:i=j
 ·subst e;by_cases q:i<(t.nodes.map (·.parent)).length
  ·rw[if_pos rfl,if_pos q,aM,h];unfold af;rw[bo];rw[ab] at q;rw[aS q];rfl
  ·rw[if_pos rfl,if_neg q,fZ (by omega)]
 ·rw[if_neg e]
def fB(t:Tree)(i:Nat):Tree:=tell (fe t i {af t i with up:=true,byHand:=false,starts:=[]}) i 0
def gD(k:Nat)(t:Tree)(i:Nat):Tree:=tell (fe t i {af t i with up:=false}) i k
def eZ(t:Tree)(i:Nat):Tree:=if(af t i).up=true then gD 1 t i else t
theorem oQ(t:Tree)(i:Nat):ps (fB t i)=ps t:=by
 exact yW t i {af t i with up:=true,byHand:=false,starts:=[]} rfl
theorem EL(k:Nat)(t:Tree)(i:Nat):ps (gD k t i)=ps t:=by
 exact yW t i {af t i with up:=false} rfl
theorem yV(t:Tree)(i:Nat):ps (eZ t i)=ps t:=by
 unfold eZ;split
 ·exact EL 1 t i
 ·rfl
theorem zZ{f:Tree->Nat->Tree}(h:∀t i,ps (f t i)=ps t):∀(l:List Nat) (t:Tree),ps (l.foldl f t)=ps t
 |[],_=>rfl
 |a::l,t=>by rw[cP,zZ h l,h]
theorem p7{t u:Tree}(h:ps t=ps u):t.nodes.length=u.nodes.length:=by rw[<-ib t,h,ib]
theorem jA(t:Tree)(i j:Nat):af (fB t i) j=if j=i/\j<t.nodes.length then{af t j with up:=true,byHand:=false,starts:=[]} else af t j:=by
 unfold fB;rw[Cg,jr];by_cases e:j=i/\j<t.nodes.length
 ·rw[if_pos e,if_pos e,e.1]
 ·rw[if_neg e,if_neg e]
theorem fC(k:Nat)(t:Tree)(i j:Nat):af (gD k t i) j=if j=i/\j<t.nodes.length then{af t j with up:=false} else af t j:=by
 unfold gD;rw[Cg,jr];by_cases e:j=i/\j<t.nodes.length
 ·rw[if_pos e,if_pos e,e.1]
 ·rw[if_neg e,if_neg e]
theorem Pb{n:Node}(h:n.up=false):{n with up:=false}=n:=by
 cases n;subst h;rfl
theorem Ff(t:Tree)(i j:Nat):af (eZ t i) j=if j=i/\j<t.nodes.length then{af t j with up:=false} else af t j:=by
 unfold eZ;split
 ·exact fC 1 t i j
 ·rename_i h;by_cases e:j=i/\j<t.nodes.length
  ·rw[if_pos e,e.1];have:(af t i).up=false:=by simpa using h
   exact(Pb this).symm
  ·rw[if_neg e]
theorem sD:∀(l:List Nat) (t:Tree) (j:Nat),af (l.foldl fB t) j=if j∈l/\j<t.nodes.length then{af t j with up:=true,byHand:=false,starts:=[]} else af t j
 |[],t,j=>by rw[if_neg (fun q=>nomatch q.1)];rfl
 |a::l,t,j=>by
  rw[cP,sD l,p7 (oQ t a),jA];by_cases h:j<t.nodes.length
  ·by_cases e:j=a
   ·subst e;rw[if_pos (show j∈j::l/\_ from⟨au,h⟩),if_pos (show j=j/\_ from⟨rfl,h⟩)];split<;>rfl
   ·rw[if_neg (show ¬(j=a/\_) from fun q=>e q.1)];by_cases m:j∈l
    ·rw[if_pos (show j∈l/\_ from⟨m,h⟩),if_pos (show j∈a::l/\_ from⟨aj _ m,h⟩)]
    ·rw[if_neg (show ¬(j∈l/\_) from fun q=>m q.1),if_neg (show ¬(j∈a::l/\_) from fun q=>(az.mp q.1).elim e m)]
  ·rw[if_neg (fun q=>h q.2),if_neg (fun q=>h q.2),if_neg (fun q=>h q.2)]
theorem k8:∀(l:List Nat) (t:Tree) (j:Nat),af (l.foldl eZ t) j=if j∈l/\j<t.nodes.length then{af t j with up:=false} else af t j
 |[],t,j=>by rw[if_neg (fun q=>nomatch q.1)];rfl
 |a::l,t,j=>by
  rw[cP,k8 l,p7 (yV t a),Ff];by_cases h:j<t.nodes.length
  ·by_cases e:j=a
   ·subst e;rw[if_pos (show j∈j::l/\_ from⟨au,h⟩),if_pos (show j=j/\_ from⟨rfl,h⟩)];split<;>rfl
   ·rw[if_neg (show ¬(j=a/\_) from fun q=>e q.1)];by_cases m:j∈l
    ·rw[if_pos (show j∈l/\_ from⟨m,h⟩),if_pos (show j∈a::l/\_ from⟨aj _ m,h⟩)]
    ·rw[if_neg (show ¬(j∈l/\_) from fun q=>m q.1),if_neg (show ¬(j∈a::l/\_) from fun q=>(az.mp q.1).elim e m)]
  ·rw[if_neg (fun q=>h q.2),if_neg (fun q=>h q.2),if_neg (fun q=>h q.2)]
theorem zE{dp:Nat->Nat}:∀(n:Nat) (t:Tree) (i:Nat),Shape (ps t) dp->i<t.nodes.length->6<=n+dp i->(∀j∈pre (ps t) n i,(af t j).up=false)->
  startAt n t i=(pre (ps t) n i).foldl fB t
 |0,_,_,_,_,_,_=>rfl
 |n+1,t,i,S,hi,hn,hd=>by
  have h0:(af t i).up=false:=hd i au;have e0:startAt (n+1) t i=(charges (fB t i) i).foldl (startAt n) (fB t i):=by
   show(if(af t i).up=true then t else _)=_;rw[if_neg (by rw[h0];exact aU)];rfl
  rw[e0,dI,oQ];show _=((kids (ps t) i).flatMap (pre (ps t) n)).foldl fB (fB t i);have key:∀(l:List Nat) (u:Tree),ps u=ps t->(∀c∈l,c∈kids (ps t) i)->l.Nodup->(∀c∈l,∀j∈pre (ps t) n c,(af u j).up=false)->
    l.foldl (startAt n) u=(l.flatMap (pre (ps t) n)).foldl fB u:=by
   intro l
   induction l with
   |nil=>intro u _ _ _ _;rfl
   |cons c l ih=>
    intro u pu hk XC hdn;obtain⟨n1,n2⟩:=bG.mp XC;have hc:=hk c au;have:=uI S hc;have e1:startAt n u c=(pre (ps t) n c).foldl fB u:=by
     have:=zE n u c (by rw[pu];exact S) (by rw[p7 pu,<-ib];exact(fQ.mp hc).1) (by omega) (by rw[pu];exact hdn c au);rw[this,pu]
    rw[cP,e1,bU,gy];refine ih _ ((zZ oQ _ _).trans pu) (fun d yr=>hk d (aj _ yr)) n2 fun d yr j hj=>?_;rw[sD,if_neg]
    ·exact hdn d (aj _ yr) j hj
    ·intro q;have:=Kx S hc (hk d (aj _ yr)) q.1 hj;subst this;exact n1 yr
  refine key _ _ (oQ t i) (fun _ h=>h) (y4 _ _) fun c hc j hj=>?_;rw[jA,if_neg]
  ·exact hd j (aj _ (b7.mpr ⟨c,hc,hj⟩))
  ·intro q;have:=(oz S n c j hj).2.1;have:=(qF S hc).2;omega
def zf(t:Tree):Prop:=∀j,j<t.nodes.length->(af t j).up=true->(af t (af t j).parent).up=true
theorem za{dp:Nat->Nat}{t:Tree}(S:Shape (ps t) dp)(C:zf t):∀(n i:Nat),i<t.nodes.length->(af t i).up=false->∀j∈pre (ps t) n i,(af t j).up=false
 |0,_,_,_,_,h=>by cases h
 |n+1,i,hi,h0,j,hj=>by
  rcases az.mp hj with e|hj
  ·rw[e];exact h0
  ·obtain⟨c,hc,hj⟩:=b7.mp hj;obtain⟨c1,c2,c3⟩:=fQ.mp hc;rw[ib] at c1;refine za S C n c c1 ?_ j hj;cases q:(af t c).up with
   |false=>rfl
   |true=>
    have:=C c c1 q;rw[<-nL,c3,h0] at this;exact this.symm
theorem Ek:∀(l:List Nat) (t:Tree),(∀j∈l,(af t j).up=false)->l.foldl eZ t=t
 |[],_,_=>rfl
 |a::l,t,h=>by
  have e:eZ t a=t:=by
   unfold eZ;rw[if_neg (by rw[h a au];exact aU)]
  rw[cP,e];exact Ek l t fun j hj=>h j (aj _ hj)
theorem Ax{dp:Nat->Nat}{t:Tree}(S:Shape (ps t) dp)(C:zf t){n i:Nat}(hi:i<t.nodes.length)(hn:6<=n+dp i){l:List Nat}(hl:∀j,j∈l↔j∈pre (ps t) n i):zf (l.foldl eZ t):=by
 intro j hj hu;rw[p7 (zZ yV _ _)] at hj;rw[k8] at hu;by_cases m:j∈l
 ·rw[if_pos ⟨m,hj⟩] at hu;cases hu
 ·rw[if_neg (fun q=>m q.1)] at hu;have e:af (l.foldl eZ t) j=af t j:=by rw[k8,if_neg (fun q=>m q.1)]
  rw[e,k8];by_cases q:(af t j).parent∈l/\(af t j).parent<t.nodes.length
  ·exfalso;by_cases z:j=(af t j).parent
   ·rw[<-z] at q;exact m q.1
   ·exact m ((hl j).mpr (yX S n i _ j (by rw[ib];exact hi) hn ((hl _).mp q.1) (fQ.mpr ⟨by rw[ib];exact hj,z,nL t j⟩)))
  ·rw[if_neg q];exact C j hj hu
theorem tw{f:Nat->List Nat}:∀l:List Nat,(l.flatMap f).reverse=l.reverse.flatMap fun c=>(f c).reverse
 |[]=>rfl
 |a::l=>by
  rw[bU,qd,tw l,sQ,eO,bU,List.flatMap_nil,cE]
theorem BP{dp:Nat->Nat}:∀(n:Nat) (t:Tree) (i:Nat),Shape (ps t) dp->zf t->i<t.nodes.length->6<=n+dp i->
  stopAt n t i=(pre (ps t) n i).reverse.foldl eZ t
 |0,_,_,_,_,_,_=>rfl
 |n+1,t,i,S,C,hi,hn=>by
  cases h0:(af t i).up with
  |false=>
   have e0:stopAt (n+1) t i=t:=by
    show(if(af t i).up=false then t else _)=_;rw[if_pos h0]
   rw[e0,Ek];intro j hj;exact za S C (n+1) i hi h0 j (bR.mp hj)
  |true=>
   have e0:stopAt (n+1) t i=gD 1 ((charges t i).reverse.foldl (stopAt n) t) i:=by
    show(if(af t i).up=false then t else _)=_;rw[if_neg (by rw[h0];exact a0)];rfl
   rw[e0,dI];show _=(i::(kids (ps t) i).flatMap (pre (ps t) n)).reverse.foldl eZ t;rw[sQ,gy,tw];have key:∀(l:List Nat) (u:Tree),ps u=ps t->zf u->(∀c∈l,c∈kids (ps t) i)->
     l.foldl (stopAt n) u=(l.flatMap fun c=>(pre (ps t) n c).reverse).foldl eZ u:=by
    intro l
    induction l with
    |nil=>intro u _ _ _;rfl
    |cons c l ih=>
     intro u pu Cu hk;have hc:=hk c au;have:=uI S hc;have DN:c<u.nodes.length:=by rw[p7 pu,<-ib];exact(fQ.mp hc).1
     have e1:stopAt n u c=(pre (ps t) n c).reverse.foldl eZ u:=by
      have:=BP n u c (by rw[pu];exact S) Cu DN (by omega);rw[this,pu]
     rw[cP,e1,bU,gy];exact ih _ ((zZ yV _ _).trans pu) (Ax (by rw[pu];exact S) Cu DN (n:=n) (by omega) (by intro j;rw[pu];exact bR)) fun d yr=>hk d (aj _ yr)
   rw[key _ t rfl C fun c hc=>bR.mp hc];refine(if_pos ?_).symm;rw[k8,if_neg]
   ·exact h0
   ·intro q;obtain⟨c,hc,hj⟩:=b7.mp q.1;have hc:=bR.mp hc;have:=(oz S n c i (bR.mp hj)).2.1;have:=(qF S hc).2;omega
theorem kP{t u:Tree}(h:ps t=ps u):∀(n i:Nat),cO t n i=cO u n i
 |0,_=>rfl
 |n+1,i=>by
  show(if(af t i).parent=i then 1 else _)=(if(af u i).parent=i then 1 else _);rw[<-nL,<-nL,h,kP h n]
structure WF(t:Tree):Prop where
 sh:Shape (ps t) (cO t eG)
 kp:∀i,0<i->i<t.nodes.length->(af t (af t i).parent).keeper=true
 cl:zf t
 rg:∀i,i<t.nodes.length->(af t i).again<=2/\(af t i).how<=2
structure iW(t u:Tree):Prop where
 ps:ps u=ps t
 kp:∀j,(af u j).keeper=(af t j).keeper
 now:u.now=t.now
 st:∀j,(af u j).again=(af t j).again/\(af u j).how=(af t j).how
theorem iW.rfl'(t:Tree):iW t t:=⟨rfl,fun _=>rfl,rfl,fun _=>⟨rfl,rfl⟩⟩
theorem iW.trans{t u v:Tree}(a:iW t u)(b:iW u v):iW t v:=⟨b.ps.trans a.ps,fun j=>(b.kp j).trans (a.kp j),b.now.trans a.now,fun j=>⟨(b.st j).1.trans (a.st j).1,(b.st j).2.trans (a.st j).2⟩⟩
theorem iW.len{t u:Tree}(a:iW t u):u.nodes.length=t.nodes.length:=p7 a.ps
theorem iW.par{t u:Tree}(a:iW t u)(j:Nat):(af u j).parent=(af t j).parent:=by rw[<-nL,<-nL,a.ps]
theorem iW.charges{t u:Tree}(a:iW t u)(j:Nat):Te u j=Te t j:=by rw[dI,dI,a.ps]
theorem iW.wf{t u:Tree}(a:iW t u)(W:WF t)(c:zf u):WF u:=by
 refine⟨?_,fun i h0 hi=>?_,c,fun i hi=>?_⟩
 ·have e:cO u eG=cO t eG:=funext fun i=>kP a.ps eG i;rw[a.ps,e];exact W.sh
 ·rw[a.kp,a.par];rw[a.len] at hi;exact W.kp i h0 hi
 ·rw[a.len] at hi;rw[(a.st i).1,(a.st i).2];exact W.rg i hi
theorem iW.dp{t u:Tree}(a:iW t u)(i:Nat):cO u eG i=cO t eG i:=kP a.ps eG i
theorem x'(t:Tree)(i:Nat):iW t (fB t i):=⟨oQ t i,fun j=>by rw[jA];split<;>rfl,rfl,fun j=>by rw[jA];split<;>exact⟨rfl,rfl⟩⟩
theorem jm(k:Nat)(t:Tree)(i:Nat):iW t (gD k t i):=⟨EL k t i,fun j=>by rw[fC];split<;>rfl,rfl,fun j=>by rw[fC];split<;>exact⟨rfl,rfl⟩⟩
theorem zD(t:Tree)(i:Nat):iW t (eZ t i):=by
 unfold eZ;split
 ·exact jm 1 t i
 ·exact iW.rfl' t
theorem qi{f:Tree->Nat->Tree}(h:∀t i,iW t (f t i)):∀(l:List Nat) (t:Tree),iW t (l.foldl f t)
 |[],t=>iW.rfl' t
 |a::l,t=>(h t a).trans (qi h l _)
theorem Ah(t:Tree)(i:Nat):(fB t i).log.length=t.log.length+1:=aJ
theorem rR(k:Nat)(t:Tree)(i:Nat):(gD k t i).log.length=t.log.length+1:=aJ
theorem Ck(t:Tree)(i:Nat):t.log.length<=(eZ t i).log.length/\(eZ t i).log.length<=t.log.length+1:=by
 unfold eZ;split
 ·rw[rR];omega
 ·omega
theorem tK{f:Tree->Nat->Tree}{c:Nat}(h:∀t i,t.log.length<=(f t i).log.length/\(f t i).log.length<=t.log.length+c):∀(l:List Nat) (t:Tree),t.log.length<=(l.foldl f t).log.length/\(l.foldl f t).log.length<=t.log.length+c*l.length
 |[],t=>by simp
 |a::l,t=>by
  rw[cP];have h1:=h t a;have h2:=tK h l (f t a);rw[aQ,Nat.mul_add];omega
def below(t:Tree)(i:Nat):List Nat:=pre (ps t) 6 i
theorem iW.below{t u:Tree}(a:iW t u)(i:Nat):below u i=below t i:=by unfold Tm.below;rw[a.ps]
section
variable{t:Tree}(W:WF t)
include W
theorem WF.d1{i:Nat}(hi:i<t.nodes.length):1<=cO t eG i/\cO t eG i<=5:=by
 refine⟨?_,W.sh.d5 i (by rw[ib];exact hi)⟩;show 1<=(if(af t i).parent=i then 1 else cO t 19 (af t i).parent+1);split<;>omega
theorem WF.root(h:0<t.nodes.length):(af t 0).parent=0:=by rw[<-nL];exact W.sh.root
theorem WF.kI{i:Nat}(h0:0<i)(hi:i<t.nodes.length):(af t i).parent<i:=by rw[<-nL];exact W.sh.lt i h0 (by rw[ib];exact hi)
theorem WF.Xa{i:Nat}(h0:0<i)(hi:i<t.nodes.length):cO t eG i=cO t eG (af t i).parent+1:=by rw[<-nL];exact W.sh.ds i h0 (by rw[ib];exact hi)
theorem WF.Aa{i:Nat}(hi:i<t.nodes.length):(af t i).parent=i↔i=0:=by
 rcases cG i with e|e
 ·subst e;rw[W.root hi]
 ·have:=W.kI e hi;omega
theorem WF.six{i:Nat}(hi:i<t.nodes.length):6<=6+cO t eG i:=dM _ _
theorem WF.pl{i:Nat}(hi:i<t.nodes.length):i<(ps t).length:=by rw[ib];exact hi
theorem WF.dW{i j:Nat}:j∈charges t i↔j<t.nodes.length/\0<j/\(af t j).parent=i:=by
 rw[dI,fQ,ib,nL];constructor
 ·rintro⟨h1,h2,h3⟩;refine⟨h1,?_,h3⟩;rcases cG j with e|e
  ·subst e;rw[W.root h1] at h3;omega
  ·exact e
 ·rintro⟨h1,h2,h3⟩;have:=W.kI h2 h1;exact⟨h1,by omega,h3⟩
theorem WF.AD{i j:Nat}(hi:i<t.nodes.length)(hj:j∈below t i):j<t.nodes.length:=by
 have:=(oz W.sh _ _ _ hj).2.2 (W.pl hi)
 rwa [ib] at this
theorem WF.tV{i:Nat}(hi:i<t.nodes.length):(below t i).length<=20:=Ms W.sh (W.pl hi)
theorem WF.FY{i:Nat}:i∈below t i:=au
theorem WF.Ls{i:Nat}(hi:i<t.nodes.length):below t i=i::(charges t i).flatMap (below t):=by
 show i::(kids (ps t) i).flatMap (pre (ps t) 5)=i::_;rw[dI];congr 1;refine qI fun c hc=>?_;have h1:=uI W.sh hc;have h2:=(W.d1 hi).1;exact EN W.sh 5 6 c (fQ.mp hc).1 (by omega) (by omega)
theorem WF.P8{i j:Nat}(hi:i<t.nodes.length)(hj:j∈below t i)(h:j≠i):(af t j).parent∈below t i:=by
 have key:∀(n i:Nat),i<(ps t).length->6<=n+cO t eG i->j∈pre (ps t) n i->j≠i->(af t j).parent∈pre (ps t) n i:=by
  intro n
  induction n with
  |zero=>intro i _ _ h;cases h
  |succ n ih=>
   intro i hi hn hj h;rcases az.mp hj with e|hj
   ·exact absurd e h
   ·obtain⟨c,hc,hj⟩:=b7.mp hj;by_cases e:j=c
    ·subst e;rw[<-nL,(fQ.mp hc).2.2];exact au
    ·have:=uI W.sh hc;exact aj _ (b7.mpr ⟨c,hc,ih c (fQ.mp hc).1 (by omega) hj e⟩)
 exact key 6 i (W.pl hi) (W.six hi) hj h
theorem WF.M4{i:Nat}(hi:i<t.nodes.length)(h:(af t i).up=false):∀j∈below t i,(af t j).up=false:=za W.sh W.cl 6 i hi h
theorem WF.vO{i:Nat}(hi:i<t.nodes.length):startAt DEEP t i=if(af t i).up=true then t else(below t i).foldl fB t:=by
 by_cases h:(af t i).up=true
 ·rw[if_pos h];show(if(af t i).up=true then t else _)=t;rw[if_pos h]
 ·rw[if_neg h];have h:(af t i).up=false:=by simpa using h
  exact zE 6 t i W.sh hi (W.six hi) (W.M4 hi h)
theorem WF.wZ{i:Nat}(hi:i<t.nodes.length):stopAt DEEP t i=(below t i).reverse.foldl eZ t:=BP 6 t i W.sh W.cl hi (W.six hi)
theorem WF.sZ{i:Nat}(hi:i<t.nodes.length):iW t (stopAt DEEP t i):=by rw[W.wZ hi];exact qi zD _ _
theorem WF.DE{i:Nat}(hi:i<t.nodes.length):WF (stopAt DEEP t i):=by
 refine(W.sZ hi).wf W ?_;rw[W.wZ hi];exact Ax W.sh W.cl hi (n:=6) (W.six hi) fun j=>bR
theorem WF.OP{i:Nat}(hi:i<t.nodes.length)(j:Nat):af (stopAt DEEP t i) j=if j∈below t i then{af t j with up:=false} else af t j:=by
 rw[W.wZ hi,k8];by_cases m:j∈below t i
 ·rw[if_pos m,if_pos ⟨bR.mpr m,W.AD hi m⟩]
 ·rw[if_neg m,if_neg (fun q=>m (bR.mp q.1))]
theorem WF.Ki{i:Nat}(hi:i<t.nodes.length):t.log.length<=(stopAt DEEP t i).log.length/\(stopAt DEEP t i).log.length<=t.log.length+20:=by
 rw[W.wZ hi];have h1:=tK (c:=1) Ck (below t i).reverse t;have h2:=W.tV hi;rw[dE] at h1;omega
theorem WF.qj{i:Nat}(hi:i<t.nodes.length):iW t (startAt DEEP t i):=by
 rw[W.vO hi];split
 ·exact iW.rfl' t
 ·exact qi x' _ _
theorem WF.uh{i:Nat}(hi:i<t.nodes.length)(j:Nat):af (startAt DEEP t i) j=if j∈below t i/\(af t i).up=false then{af t j with up:=true,byHand:=false,starts:=[]} else af t j:=by
 rw[W.vO hi];by_cases h:(af t i).up=true
 ·rw[if_pos h,if_neg (fun q=>by rw[h] at q;cases q.2)]
 ·rw[if_neg h,sD];have h:(af t i).up=false:=by simpa using h
  by_cases m:j∈below t i
  ·rw[if_pos ⟨m,W.AD hi m⟩,if_pos ⟨m,h⟩]
  ·rw[if_neg (fun q=>m q.1),if_neg (fun q=>m q.1)]
theorem WF.En{i:Nat}(hi:i<t.nodes.length)(hp:i=0\/(af t (af t i).parent).up=true):WF (startAt DEEP t i):=by
 refine(W.qj hi).wf W ?_;intro j hj hu;rw[(W.qj hi).len] at hj;rw[(W.qj hi).par,W.uh hi];rw[W.uh hi] at hu;by_cases q:(af t j).parent∈below t i/\(af t i).up=false
 ·rw[if_pos q]
 ·rw[if_neg q];by_cases m:j∈below t i/\(af t i).up=false
  ·by_cases e:j=i
   ·subst e;rcases hp with e|e
    ·subst e;rw[W.root hj] at q;exact absurd m q
    ·exact e
   ·exact absurd ⟨W.P8 hi m.1 e,m.2⟩ q
  ·rw[if_neg m] at hu;exact W.cl j hj hu
theorem WF.Hi{i:Nat}(hi:i<t.nodes.length):t.log.length<=(startAt DEEP t i).log.length/\(startAt DEEP t i).log.length<=t.log.length+20:=by
 rw[W.vO hi];split
 ·omega
 ·have h1:=tK (c:=1) (f:=fB) (fun t i=>by rw[Ah];omega) (below t i) t;have h2:=W.tV hi;omega
end
theorem lI:∀(l:List Nat) (t:Tree),WF t->(∀c∈l,c<t.nodes.length)->WF (l.foldl (stopAt DEEP) t)/\iW t (l.foldl (stopAt DEEP) t)/\t.log.length<=(l.foldl (stopAt DEEP) t).log.length/\(l.foldl (stopAt DEEP) t).log.length<=t.log.length+20*l.length
 |[],t,W,_=>⟨W,iW.rfl' t,aL _,by simp⟩
 |c::l,t,W,h=>by
  have hc:=h c au;have S:=W.sZ hc;have G:=W.Ki hc;obtain⟨a,b,d1,d2⟩:=lI l (stopAt DEEP t c) (W.DE hc) fun d hd=>by rw[S.len];exact h d (aj _ hd)
  rw[cP];refine⟨a,S.trans b,by omega,?_⟩;rw[aQ];omega
theorem qh:∀(l:List Nat) (t:Tree),WF t->(∀c∈l,c<t.nodes.length)->∀j,af (l.foldl (stopAt DEEP) t) j=if(∃c∈l,j∈below t c) then{af t j with up:=false} else af t j
 |[],t,W,_,j=>by rw[if_neg (fun⟨_,q,_⟩=>nomatch q)];rfl
 |c::l,t,W,h,j=>by
  have hc:=h c au;have S:=W.sZ hc;rw[cP,qh l (stopAt DEEP t c) (W.DE hc) (fun d hd=>by rw[S.len];exact h d (aj _ hd)) j,W.OP hc];by_cases m:j∈below t c
  ·rw[if_pos m,if_pos (show ∃d∈c::l,j∈below t d from⟨c,au,m⟩)];split<;>rfl
  ·rw[if_neg m];by_cases q:∃d∈l,j∈below t d
   ·obtain⟨d,h1,h2⟩:=q;rw[if_pos (show ∃d∈c::l,j∈below t d from⟨d,aj _ h1,h2⟩),if_pos (show ∃d∈l,j∈below (stopAt DEEP t c) d from⟨d,h1,by rw[S.below];exact h2⟩)]
   ·rw[if_neg,if_neg]
    ·rintro⟨d,h1,h2⟩;rcases az.mp h1 with e|h1
     ·subst e;exact m h2
     ·exact q ⟨d,h1,h2⟩
    ·rintro⟨d,h1,h2⟩;rw[S.below] at h2;exact q ⟨d,h1,h2⟩
theorem WF.tH{t:Tree}(W:WF t){p c:Nat}(hc:c∈charges t p): ¬p∈below t c:=by
 intro h;have h1:=(oz W.sh _ _ _ h).2.1;obtain⟨a,b,e⟩:=W.dW.mp hc;have:=W.kI b a;omega
theorem w6:∀(l:List Nat) (t:Tree) (p:Nat),WF t->(af t p).up=true->(∀c∈l,c∈charges t p)->WF (l.foldl (startAt DEEP) t)/\iW t (l.foldl (startAt DEEP) t)/\t.log.length<=(l.foldl (startAt DEEP) t).log.length/\(l.foldl (startAt DEEP) t).log.length<=t.log.length+20*l.length/\(af (l.foldl (startAt DEEP) t) p).up=true
 |[],t,_,W,hu,_=>⟨W,iW.rfl' t,aL _,by simp,hu⟩
 |c::l,t,p,W,hu,h=>by
  have hm:=h c au;obtain⟨hc,h0,hp⟩:=W.dW.mp hm;have S:=W.qj hc;have G:=W.Hi hc;have U:(af (startAt DEEP t c) p).up=true:=by
   rw[W.uh hc,if_neg (fun q=>W.tH hm q.1)];exact hu
  obtain⟨a,b,d1,d2,d3⟩:=w6 l (startAt DEEP t c) p (W.En hc (.inr (by rw[hp];exact hu))) U fun d hd=>by rw[S.charges];exact h d (aj _ hd)
  rw[cP];refine⟨a,S.trans b,by omega,?_,d3⟩;rw[aQ];omega
theorem Mq(t:Tree)(p:Nat):(mh t p).length<=(af t p).starts.length:=bh _ _
def wanted(n:Node)(failed:Bool):Bool:=n.again==0||(n.again==1&&failed)
theorem Ml{n:Node}(h:n.again<=2)(f:Bool):(¬(n.again=2\/(n.again=1/\f=false)))↔wanted n f=true:=by
 unfold wanted;rcases(show n.again=0\/n.again=1\/n.again=2 by omega) with e|e|e<;>rw[e]<;>cases f<;>decide
theorem p6{n:Nat}{t:Tree}{i:Nat}{f:Bool}(h:(af t i).parent=i\/((af t i).again=2\/((af t i).again=1/\f=false))):wentDown (n+1) t i f=t:=by
 show(if(af t i).parent=i then t else if _ then t else _)=t;by_cases a:(af t i).parent=i
 ·rw[if_pos a]
 ·rw[if_neg a,if_pos (h.resolve_left a)]
theorem A1{n:Nat}{t:Tree}{i:Nat}{f:Bool}(h1: ¬(af t i).parent=i)(h2: ¬((af t i).again=2\/((af t i).again=1/\f=false)))
  (h3:(af t (af t i).parent).times<=(mh t (af t i).parent).length):
  wentDown (n+1) t i f=wentDown n (gD 3 ((charges t (af t i).parent).reverse.foldl (stopAt DEEP) t) (af t i).parent) (af t i).parent true:=by
 show(if(af t i).parent=i then t else if _ then t else if _ then _ else _)=_;rw[if_neg h1,if_neg h2,if_pos (by omega)];rfl
def u7(t:Tree)(p:Nat):Tree:=fe t p {af t p with starts:=mh t p++[t.now]}
def along(t:Tree)(p i:Nat):List Nat:=
 upOf t (if(af t p).how=0 then[] else if(af t p).how=1 then(charges t p).filter fun j=>j !=i else((charges t p).dropWhile fun j=>j !=i).drop 1)
def again(t:Tree)(p i:Nat):Tree:=
 ((charges t p).filter fun j=>j==i||(along t p i).contains j).foldl (startAt DEEP) ((along t p i).reverse.foldl (stopAt DEEP) t)
theorem m_(t:Tree)(p j:Nat):af (u7 t p) j=if j=p/\j<t.nodes.length then{af t p with starts:=mh t p++[t.now]} else af t j:=jr _ _ _ _
theorem nR(t:Tree)(p:Nat):iW t (u7 t p):=⟨yW _ _ _ rfl,fun j=>by rw[m_];split;(rename_i h;rw[h.1]);rfl,rfl,fun j=>by rw[m_];split;(rename_i h;rw[h.1];exact⟨rfl,rfl⟩);exact⟨rfl,rfl⟩⟩
theorem sW(t:Tree)(p j:Nat):(af (u7 t p) j).up=(af t j).up:=by
 rw[m_];split
 ·rename_i h;rw[h.1]
 ·rfl
theorem PB(t:Tree)(p j:Nat):(af (u7 t p) j).how=(af t j).how:=by
 rw[m_];split
 ·rename_i h;rw[h.1]
 ·rfl
theorem E'{t:Tree}(W:WF t)(p:Nat):WF (u7 t p):=by
 refine(nR t p).wf W fun j hj hu=>?_;rw[sW,(nR t p).par];rw[sW] at hu;rw[(nR t p).len] at hj;exact W.cl j hj hu
theorem Ht(t:Tree)(p:Nat):(u7 t p).log=t.log:=rfl
theorem yH{n:Nat}{t:Tree}{i:Nat}{f:Bool}(h1: ¬(af t i).parent=i)(h2: ¬((af t i).again=2\/((af t i).again=1/\f=false)))
  (h3: ¬(af t (af t i).parent).times<=(mh t (af t i).parent).length):
  wentDown (n+1) t i f=again (u7 t (af t i).parent) (af t i).parent i:=by
 show(if(af t i).parent=i then t else if _ then t else if _ then _ else _)=_;rw[if_neg h1,if_neg h2,if_neg (by omega)];unfold again along;rw[PB];rfl
theorem p8{t:Tree}{p i j:Nat}(h:j∈along t p i):j∈charges t p:=by
 have h:=(bA.mp h).1;split at h
 ·cases h
 ·split at h
  ·exact(bA.mp h).1
  ·exact(vD _).subset (List.mem_of_mem_drop h)
theorem Ta{t:Tree}(W:WF t){p i:Nat}(hu:(af t p).up=true)(hi:i∈charges t p):WF (again t p i)/\iW t (again t p i)/\t.log.length<=(again t p i).log.length/\(again t p i).log.length<=t.log.length+800:=by
 have hl:∀c∈(along t p i).reverse,c<t.nodes.length:=fun c hc=>(W.dW.mp (p8 (bR.mp hc))).1;obtain⟨A,B,C1,C2⟩:=lI (along t p i).reverse t W hl;have U:(af ((along t p i).reverse.foldl (stopAt DEEP) t) p).up=true:=by
  rw[qh _ t W hl,if_neg]
  ·exact hu
  ·rintro⟨c,hc,m⟩;exact W.tH (p8 (bR.mp hc)) m
 obtain⟨E,F,G1,G2,_⟩:=w6 ((charges t p).filter fun j=>j==i||(along t p i).contains j) _ p A U fun c hc=>by
  rw[B.charges];exact(bA.mp hc).1
 refine⟨E,B.trans F,aD C1 G1,?_⟩;have k1:(charges t p).length<=20:=by rw[dI];exact iD W.sh p
 have k2:((charges t p).filter fun j=>j==i||(along t p i).contains j).length<=20:=aD (bh _ _) k1;have k3:(along t p i).length<=20:=by
  refine aD (bh _ _) ?_;split
  ·exact aT _
  ·split
   ·exact aD (bh _ _) k1
   ·exact aD (by rw[cY];exact Nat.sub_le _ _) (aD (vD _).length_le k1)
 rw[dE] at C2;unfold again;omega
def gX(t:Tree)(p:Nat):Tree:=gD 3 ((charges t p).reverse.foldl (stopAt DEEP) t) p
theorem n8{t:Tree}(W:WF t){p:Nat}:∀c∈(charges t p).reverse,c<t.nodes.length:=fun c hc=>(W.dW.mp (bR.mp hc)).1
theorem mz{t:Tree}(W:WF t)(p:Nat):iW t (gX t p):=(lI _ t W (n8 W)).2.1.trans (jm 3 _ p)
theorem rT{t:Tree}(W:WF t)(p j:Nat)(hj:j<t.nodes.length):(af (gX t p) j).up=if j=p\/(∃c∈charges t p,j∈below t c) then false else(af t j).up:=by
 obtain⟨_,S,_⟩:=lI (charges t p).reverse t W (n8 W);unfold gX;rw[fC,S.len,qh _ t W (n8 W)];by_cases e:j=p
 ·rw[if_pos (show j=p/\_ from⟨e,hj⟩),if_pos (show j=p\/_ from .inl e)]
 ·rw[if_neg (show ¬(j=p/\_) from fun q=>e q.1)];by_cases m:∃c∈charges t p,j∈below t c
  ·rw[if_pos (show j=p\/_ from .inr m),if_pos];obtain⟨c,h1,h2⟩:=m;exact⟨c,bR.mpr h1,h2⟩
  ·rw[if_neg (show ¬(j=p\/_) from fun q=>q.elim e m),if_neg];rintro⟨c,h1,h2⟩;exact m ⟨c,bR.mp h1,h2⟩
theorem By{t:Tree}(W:WF t){p:Nat}(hp:p<t.nodes.length):WF (gX t p):=by
 refine(mz W p).wf W fun j hj hu=>?_;rw[(mz W p).len] at hj;rw[rT W p j hj] at hu;rw[(mz W p).par];by_cases e:j=p\/(∃c∈charges t p,j∈below t c)
 ·rw[if_pos e] at hu;cases hu
 ·rw[if_neg e] at hu;have h:=W.cl j hj hu;have hq:(af t j).parent<t.nodes.length:=by
   rcases cG j with z|z
   ·subst z;rw[W.root hj];exact hj
   ·have:=W.kI z hj;omega
  rw[rT W p _ hq,if_neg]
  ·exact h
  ·rintro(q|⟨c,h1,h2⟩)
   ·
    rcases cG j with z|z
    ·subst z;rw[W.root hj] at q;exact e (.inl q)
    ·exact e (.inr ⟨j,W.dW.mpr ⟨hj,z,q⟩,W.FY⟩)
   ·rcases cG j with z|z
    ·subst z;rw[W.root hj] at h2;exact e (.inr ⟨c,h1,h2⟩)
    ·refine e (.inr ⟨c,h1,?_⟩);have hc:=(W.dW.mp h1).1;refine yX W.sh 6 c _ j (W.pl hc) (W.six hc) h2 (fQ.mpr ⟨W.pl hj,?_,nL t j⟩);have:=W.kI z hj;omega
theorem Bz{t:Tree}(W:WF t){p:Nat}(hp:p<t.nodes.length)(hu:(af t p).up=true)(h0:0<p):(af (gX t p) (af t p).parent).up=true:=by
 have h1:=W.kI h0 hp;rw[rT W p _ (by omega),if_neg]
 ·exact W.cl p hp hu
 ·rintro(q|⟨c,h2,h3⟩)
  ·omega
  ·have:=(oz W.sh _ _ _ h3).2.1;obtain⟨a,b,e⟩:=W.dW.mp h2;have:=W.kI b a;omega
theorem Ld{t:Tree}(W:WF t){p:Nat}(hp:p<t.nodes.length):(af (gX t p) p).up=false:=by
 rw[rT W p p hp,if_pos (.inl rfl)]
theorem FI{t:Tree}(W:WF t)(p:Nat):t.log.length<=(gX t p).log.length/\(gX t p).log.length<=t.log.length+401:=by
 obtain⟨_,_,C1,C2⟩:=lI (charges t p).reverse t W (n8 W);have k1:(charges t p).length<=20:=by rw[dI];exact iD W.sh p
 unfold gX;rw[rR];rw[dE] at C2;omega
theorem Oa{t:Tree}(W:WF t){i:Nat}(k:Nat)(hi:i<t.nodes.length)(hk:(af t i).keeper=false):WF (gD k t i):=by
 refine(jm k t i).wf W fun j hj hu=>?_;rw[(jm k t i).len] at hj;rw[(jm k t i).par];rw[fC] at hu|-
 by_cases e:j=i/\j<t.nodes.length
 ·rw[if_pos e] at hu;cases hu
 ·rw[if_neg e] at hu;rw[if_neg]
  ·exact W.cl j hj hu
  ·rintro⟨q,_⟩;rcases cG j with z|z
   ·subst z;rw[W.root hj] at q;exact e ⟨q,hj⟩
   ·have:=W.kp j z hj;rw[q,hk] at this;cases this
theorem Nn:∀(n:Nat) (t:Tree) (i:Nat) (f:Bool),WF t->i<t.nodes.length->(i=0\/(af t (af t i).parent).up=true)->
  WF (wentDown n t i f)/\iW t (wentDown n t i f)/\t.log.length<=(wentDown n t i f).log.length/\(wentDown n t i f).log.length<=t.log.length+401*n+800
 |0,t,_,_,W,_,_=>⟨W,iW.rfl' t,aL _,by show t.log.length<=_;omega⟩
 |n+1,t,i,f,W,hi,hp=>by
  by_cases h1:(af t i).parent=i
  ·rw[p6 (.inl h1)];exact⟨W,iW.rfl' t,aL _,by omega⟩
  ·by_cases h2:(af t i).again=2\/((af t i).again=1/\f=false)
   ·rw[p6 (.inr h2)];exact⟨W,iW.rfl' t,aL _,by omega⟩
   ·have h0:0<i:=by
     rcases cG i with z|z
     ·exact absurd ((W.Aa hi).mpr z) h1
     ·exact z
    have hu:=hp.resolve_left (by omega);have hq:(af t i).parent<t.nodes.length:=by have:=W.kI h0 hi;omega
    by_cases h3:(af t (af t i).parent).times<=(mh t (af t i).parent).length
    ·rw[A1 h1 h2 h3];have S:=mz W (af t i).parent;have L:=FI W (af t i).parent;obtain⟨a,b,c1,c2⟩:=Nn n (gX t (af t i).parent) (af t i).parent true (By W hq) (by rw[S.len];exact hq) (by
      rcases cG (af t i).parent with z|z
      ·exact .inl z
      ·exact .inr (by rw[S.par];exact Bz W hq hu z))
     refine⟨a,S.trans b,aD L.1 c1,?_⟩;show(wentDown n (gX t (af t i).parent) (af t i).parent true).log.length<=_;omega
    ·rw[yH h1 h2 h3];have hm:i∈charges (u7 t (af t i).parent) (af t i).parent:=by
      rw[(nR _ _).charges];exact W.dW.mpr ⟨hi,h0,rfl⟩
     obtain⟨a,b,c1,c2⟩:=Ta (E' W _) (by rw[sW];exact hu) hm;rw[Ht] at c1 c2;exact⟨a,(nR _ _).trans b,c1,by omega⟩
def added(t:Tree)(n:Node):Tree:={t with nodes:=t.nodes++[n]}
theorem j0(t:Tree)(n:Node):(added t n).nodes.length=t.nodes.length+1:=by
 show(t.nodes++[n]).length=_;rw[aJ]<;>rfl
theorem gS(t:Tree)(n:Node){j:Nat}(h:j<t.nodes.length):af (added t n) j=af t j:=by
 unfold af added;rw[bo,bo,cq h]
theorem il(t:Tree)(n:Node):af (added t n) t.nodes.length=n:=by
 unfold af added;rw[bo,dA (aL _),Md];rfl
theorem Au{t:Tree}(W:WF t):∀(n m i:Nat),i<t.nodes.length->i<n->i<m->cO t n i=cO t m i
 |0,_,_,_,h,_=>by omega
 |n+1,0,_,_,_,h=>by omega
 |n+1,m+1,i,hi,h1,h2=>by
  show(if(af t i).parent=i then 1 else cO t n (af t i).parent+1)=(if(af t i).parent=i then 1 else cO t m (af t i).parent+1);by_cases e:(af t i).parent=i
  ·rw[if_pos e,if_pos e]
  ·rw[if_neg e,if_neg e];have h0:0<i:=by
    rcases cG i with z|z
    ·exact absurd ((W.Aa hi).mpr z) e
    ·exact z
   have:=W.kI h0 hi;rw[Au W n m _ (by omega) (by omega) (by omega)]
theorem nX{t:Tree}(W:WF t){i:Nat}(hi:i<t.nodes.length):(af t i).parent<t.nodes.length:=by
 rcases cG i with z|z
 ·subst z;rw[W.root hi];exact hi
 ·have:=W.kI z hi;omega
theorem kQ{t:Tree}(W:WF t)(n:Node):∀(k i:Nat),i<t.nodes.length->cO (added t n) k i=cO t k i
 |0,_,_=>rfl
 |k+1,i,hi=>by
  show(if(af (added t n) i).parent=i then 1 else cO (added t n) k (af (added t n) i).parent+1)=(if(af t i).parent=i then 1 else cO t k (af t i).parent+1);rw[gS t n hi,kQ W n k _ (nX W hi)]
theorem BA{t:Tree}(W:WF t){n:Node}(hp:n.parent<t.nodes.length)(hl:t.nodes.length<20):cO (added t n) eG t.nodes.length=cO t eG n.parent+1:=by
 show(if(af (added t n) t.nodes.length).parent=t.nodes.length then 1 else cO (added t n) 19 (af (added t n) t.nodes.length).parent+1)=_;rw[il,if_neg (by omega),kQ W n 19 _ hp,Au W 19 eG _ hp (by omega) (by show _<20;omega)]
theorem Tb{t:Tree}(W:WF t){n:Node}(hp:n.parent<t.nodes.length)(hl:t.nodes.length<20)(hk:(af t n.parent).keeper=true)(hd:cO t eG n.parent+1<=5)(hu:n.up=false)(hg:n.again<=2/\n.how<=2):WF (added t n):=by
 have Pz:∀i,i<t.nodes.length->pr (ps (added t n)) i=pr (ps t) i:=fun i hi=>by rw[nL,nL,gS t n hi]
 have RZ:pr (ps (added t n)) t.nodes.length=n.parent:=by rw[nL,il]
 have hln:(ps (added t n)).length=t.nodes.length+1:=by rw[ib,j0]
 refine⟨⟨by omega,?_,fun i h0 hi=>?_,fun i h0 hi=>?_,fun i hi=>?_⟩,fun i h0 hi=>?_,fun i hi h=>?_,fun i hi=>?_⟩
 ·rw[Pz 0 (by omega)];exact W.sh.root
 ·rw[hln] at hi;by_cases e:i=t.nodes.length
  ·rw[e,RZ];exact hp
  ·rw[Pz i (by omega)];exact W.sh.lt i h0 (by rw[ib];omega)
 ·rw[hln] at hi;by_cases e:i=t.nodes.length
  ·rw[e,RZ,BA W hp hl,kQ W n _ _ hp]
  ·have C8:i<t.nodes.length:=by omega
   rw[Pz i C8,kQ W n _ _ C8,kQ W n _ _ (by rw[nL];exact nX W C8)];exact W.sh.ds i h0 (by rw[ib];exact C8)
 ·rw[hln] at hi;by_cases e:i=t.nodes.length
  ·rw[e,BA W hp hl];exact hd
  ·rw[kQ W n _ _ (by omega)];exact W.sh.d5 i (by rw[ib];omega)
 ·rw[j0] at hi;by_cases e:i=t.nodes.length
  ·rw[e,il,gS t n hp];exact hk
  ·have C8:i<t.nodes.length:=by omega
   rw[gS t n C8,gS t n (nX W C8)];exact W.kp i h0 C8
 ·rw[j0] at hi;by_cases e:i=t.nodes.length
  ·rw[e,il,hu] at h;cases h
  ·have C8:i<t.nodes.length:=by omega
   rw[gS t n C8] at h|-
   rw[gS t n (nX W C8)];exact W.cl i C8 h
 ·rw[j0] at hi;by_cases e:i=t.nodes.length
  ·rw[e,il];exact hg
  ·have C8:i<t.nodes.length:=by omega
   rw[gS t n C8];exact W.rg i C8
theorem GP{t:Tree}(W:WF t){n:Node}(hp:n.parent<t.nodes.length)(i:Nat)(hi:i<t.nodes.length):charges (added t n) i=charges t i++(if i=n.parent then[t.nodes.length] else[]):=by
 unfold charges;rw[j0,F7,bM];congr 1
 ·refine sR fun j hj=>?_;rw[gS t n (hW.mp hj)]
 ·rw[aZ,cx,il];by_cases e:i=n.parent
  ·rw[if_pos e,if_pos (by rw[e];simp;omega)]
  ·rw[if_neg e,if_neg (by simp;intro _ q;exact e q.symm)]
theorem Ll{t:Tree}(W:WF t){n:Node}(hp:n.parent<t.nodes.length):charges (added t n) t.nodes.length=[]:=by
 refine List.eq_nil_iff_forall_not_mem.mpr fun j hj=>?_;obtain⟨h1,h2⟩:=bA.mp hj;rw[j0,hW] at h1;simp at h2;by_cases e:j=t.nodes.length
 ·exact h2.1 e
 ·rw[gS t n (by omega)] at h2;have:=nX W (i:=j) (by omega);omega
theorem So{t:Tree}(h:t.nodes=[]){n:Node}(hp:n.parent=0)(hu:n.up=false)(hg:n.again<=2/\n.how<=2):WF (added t n):=by
 have hl:(added t n).nodes.length=1:=by rw[j0,h]<;>rfl
 have h0:af (added t n) 0=n:=by have:=il t n;rw[h] at this;exact this
 have Pz:pr (ps (added t n)) 0=0:=by rw[nL,h0,hp]
 have hd:cO (added t n) eG 0=1:=by
  show(if(af (added t n) 0).parent=0 then 1 else _)=1;rw[h0,if_pos hp]
 refine⟨⟨by rw[ib,hl];decide,Pz,fun i h1 hi=>?_,fun i h1 hi=>?_,fun i hi=>?_⟩,fun i h1 hi=>?_,fun i hi U5=>?_,fun i hi=>?_⟩
 ·rw[ib,hl] at hi;omega
 ·rw[ib,hl] at hi;omega
 ·rw[ib,hl] at hi;have:i=0:=by omega
  rw[this,hd];decide
 ·rw[hl] at hi;omega
 ·rw[hl] at hi;have:i=0:=by omega
  rw[this,h0,hu] at U5;cases U5
 ·rw[hl] at hi;have:i=0:=by omega
  rw[this,h0];exact hg
theorem GO{t:Tree}(h:t.nodes=[])(n:Node):charges (added t n) 0=[]:=by
 unfold charges;rw[j0,h];rfl
theorem Lc{t:Tree}(h:t.nodes=[]){n:Node}(hp:n.parent=0):cO (added t n) eG 0=1:=by
 have h0:af (added t n) 0=n:=by have:=il t n;rw[h] at this;exact this
 show(if(af (added t n) 0).parent=0 then 1 else _)=1;rw[h0,if_pos hp]
theorem wf0{t:Tree}(h:t.nodes=[]):WF t:=by
 have e:ps t=[]:=by unfold ps;rw[h]<;>rfl
 have hl:t.nodes.length=0:=by rw[h]<;>rfl
 refine⟨?_,fun i h1 hi=>by omega,fun i hi=>by omega,fun i hi=>by omega⟩;rw[e];exact⟨by decide,rfl,fun i _ hi=>absurd hi (iS _),fun i _ hi=>absurd hi (iS _),fun i hi=>absurd hi (iS _)⟩
theorem FT(t:Tree)(p:Nat):(charges t p).Pairwise (· < ·):=sS _ List.pairwise_lt_range
theorem HW{i:Nat}:∀{l:List Nat},l.Pairwise (· < ·)->i∈l->(l.dropWhile fun j=>j !=i).drop 1=l.filter fun j=>decide (i<j)
 |[],_,h=>by cases h
 |a::l,hp,h=>by
  obtain⟨h1,h2⟩:=jJ.mp hp;by_cases e:a=i
  ·subst e;have e1:(a !=a)=false:=by simp
   rw[OF,e1,if_neg aU,OE,x6,aZ,if_neg (by simp)];exact(lW.mpr fun x hx=>decide_eq_true (h1 x hx)).symm
  ·have hm:i∈l:=(az.mp h).resolve_left fun q=>e q.symm;have e1:(a !=i)=true:=by simpa using e
   have:=h1 i hm;rw[OF,e1,if_pos rfl,HW h2 hm,aZ,if_neg (by simp;omega)]
def Ec(t:Tree)(p:Nat):List Nat:=(charges t p).filter fun j=>(af t j).up
theorem S6{t:Tree}{p i:Nat}(hi:i∈charges t p)(hd:(af t i).up=false)(hh:(af t p).how<=2):
  along t p i=if(af t p).how=1 then Ec t p else if(af t p).how=2 then(Ec t p).filter fun j=>decide (i<j) else[]:=by
 unfold along upOf Ec;rcases(show(af t p).how=0\/(af t p).how=1\/(af t p).how=2 by omega) with e|e|e
 ·rw[e];rfl
 ·rw[e,if_neg (by decide),if_pos rfl,if_pos rfl,AS];refine sR fun j _=>?_;by_cases q:j=i
  ·rw[q,hd];rfl
  ·have:(j !=i)=true:=by simpa using q
   rw[this,ko]
 ·rw[e,if_neg (by decide),if_neg (by decide),if_neg (by decide),if_pos rfl,HW (FT t p) hi,AS,AS];exact sR fun j _=>Bool.and_comm _ _
def Dx(t u:Tree):Prop:=∀j,(af u j).starts.length<=(af t j).starts.length/\(af u j).times=(af t j).times
theorem Dx.rfl'(t:Tree):Dx t t:=fun _=>⟨aL _,rfl⟩
theorem Dx.trans{t u v:Tree}(a:Dx t u)(b:Dx u v):Dx t v:=fun j=>⟨aD (b j).1 (a j).1,(b j).2.trans (a j).2⟩
theorem IB(t:Tree)(i:Nat):Dx t (fB t i):=fun j=>by
 rw[jA];split
 ·exact⟨aT _,rfl⟩
 ·exact⟨aL _,rfl⟩
theorem rE(k:Nat)(t:Tree)(i:Nat):Dx t (gD k t i):=fun j=>by
 rw[fC];split<;>exact⟨aL _,rfl⟩
theorem Kn(t:Tree)(i:Nat):Dx t (eZ t i):=by
 unfold eZ;split
 ·exact rE 1 t i
 ·exact Dx.rfl' t
theorem Bb{f:Tree->Nat->Tree}(h:∀t i,Dx t (f t i)):∀(l:List Nat) (t:Tree),Dx t (l.foldl f t)
 |[],t=>Dx.rfl' t
 |a::l,t=>(h t a).trans (Bb h l _)
theorem WF.Hh{t:Tree}(W:WF t){i:Nat}(hi:i<t.nodes.length):Dx t (startAt DEEP t i):=by
 rw[W.vO hi];split
 ·exact Dx.rfl' t
 ·exact Bb IB _ _
theorem WF.Kh{t:Tree}(W:WF t){i:Nat}(hi:i<t.nodes.length):Dx t (stopAt DEEP t i):=by
 rw[W.wZ hi];exact Bb Kn _ _
theorem A5:∀(l:List Nat) (t:Tree),WF t->(∀c∈l,c<t.nodes.length)->Dx t (l.foldl (stopAt DEEP) t)
 |[],t,_,_=>Dx.rfl' t
 |c::l,t,W,h=>by
  have hc:=h c au;rw[cP];exact(W.Kh hc).trans (A5 l _ (W.DE hc) fun d hd=>by rw[(W.sZ hc).len];exact h d (aj _ hd))
theorem Em:∀(l:List Nat) (t:Tree) (p:Nat),WF t->(af t p).up=true->(∀c∈l,c∈charges t p)->Dx t (l.foldl (startAt DEEP) t)
 |[],t,_,_,_,_=>Dx.rfl' t
 |c::l,t,p,W,hu,h=>by
  have hm:=h c au;obtain⟨hc,h0,hp⟩:=W.dW.mp hm;rw[cP];have U:(af (startAt DEEP t c) p).up=true:=by
   rw[W.uh hc,if_neg (fun q=>W.tH hm q.1)];exact hu
  exact(W.Hh hc).trans (Em l _ p (W.En hc (.inr (by rw[hp];exact hu))) U fun d hd=>by rw[(W.qj hc).charges];exact h d (aj _ hd))
theorem P_{t:Tree}(W:WF t){p i:Nat}(hu:(af t p).up=true):Dx t (again t p i):=by
 have hl:∀c∈(along t p i).reverse,c<t.nodes.length:=fun c hc=>(W.dW.mp (p8 (bR.mp hc))).1;obtain⟨A,B,_⟩:=lI (along t p i).reverse t W hl;have U:(af ((along t p i).reverse.foldl (stopAt DEEP) t) p).up=true:=by
  rw[qh _ t W hl,if_neg]
  ·exact hu
  ·rintro⟨c,hc,m⟩;exact W.tH (p8 (bR.mp hc)) m
 exact(A5 _ t W hl).trans (Em _ _ p A U fun c hc=>by rw[B.charges];exact(bA.mp hc).1)
theorem FH{t:Tree}(W:WF t)(p:Nat):Dx t (gX t p):=(A5 _ t W (n8 W)).trans (rE 3 _ p)
def Mi(t:Tree):Prop:=∀j,(af t j).starts.length<=20/\(af t j).times<=20
theorem Dx.mi{t u:Tree}(h:Dx t u)(m:Mi t):Mi u:=fun j=>⟨aD (h j).1 (m j).1,by rw[(h j).2];exact(m j).2⟩
theorem Rt{t:Tree}(m:Mi t){p:Nat}(h: ¬(af t p).times<=(mh t p).length):Mi (u7 t p):=fun j=>by
 rw[m_];split
 ·refine⟨?_,(m p).2⟩;show(mh t p++[t.now]).length<=20;rw[aJ,kz];have:=(m p).2;omega
 ·exact m j
theorem Np:∀(n:Nat) (t:Tree) (i:Nat) (f:Bool),WF t->Mi t->i<t.nodes.length->(i=0\/(af t (af t i).parent).up=true)->Mi (wentDown n t i f)
 |0,t,_,_,_,m,_,_=>m
 |n+1,t,i,f,W,m,hi,hp=>by
  by_cases h1:(af t i).parent=i
  ·rw[p6 (.inl h1)];exact m
  ·by_cases h2:(af t i).again=2\/((af t i).again=1/\f=false)
   ·rw[p6 (.inr h2)];exact m
   ·have h0:0<i:=by
     rcases cG i with z|z
     ·exact absurd ((W.Aa hi).mpr z) h1
     ·exact z
    have hu:=hp.resolve_left (by omega);have hq:(af t i).parent<t.nodes.length:=by have:=W.kI h0 hi;omega
    by_cases h3:(af t (af t i).parent).times<=(mh t (af t i).parent).length
    ·rw[A1 h1 h2 h3];have S:=mz W (af t i).parent;refine Np n (gX t (af t i).parent) (af t i).parent true (By W hq) ((FH W _).mi m) (by rw[S.len];exact hq) ?_;rcases cG (af t i).parent with z|z
     ·exact .inl z
     ·exact .inr (by rw[S.par];exact Bz W hq hu z)
    ·rw[yH h1 h2 h3];exact(P_ (E' W _) (by rw[sW];exact hu)).mi (Rt m h3)
theorem OH{n:Nat}{t:Tree}(W:WF t){f:Bool}(h:0<t.nodes.length):wentDown (n+1) t 0 f=t:=p6 (.inl (W.root h))
end Tm
namespace Sm
open Vbtkaj
structure oG(s:Store):Prop where
 knd:(s.kept.map (·.key)).Nodup
 xR:s.kept.length<=s.room
 room:s.room<=8
 Ih:(s.works.map (·.key)).Nodup
 OG:∀w∈s.works,w.askers≠[]
 J2:∀w∈s.works,∀a∈w.askers,a<s.asks
 zt:(s.works.flatMap (·.askers)).Nodup
 asks:s.asks<=100
 oK:∀w∈s.works,w.key<=99
 Aj:∀k∈s.kept,k.key<=99
theorem ac3:oG store0:=by
 constructor<;>simp[store0]
theorem wM{l:List Breaker}{k j:Nat}(h:j≠k):(l.filter fun x=>x.key !=k).find? (fun b=>b.key==j)=l.find? (fun b=>b.key==j):=by
 induction l with
 |nil=>rfl
 |cons b l ih=>
  rw[aZ];by_cases e:b.key=j
  ·have e1:(b.key==j)=true:=by simpa using e
   have e2:(b.key !=k)=true:=by simp[e,h]
   rw[if_pos e2,dS,dS,e1]
  ·have e1:(b.key==j)=false:=by simpa using e
   rw[dS,e1];split
   ·rw[dS,e1];exact ih
   ·exact ih
theorem tS{l:List Breaker}{k:Nat}:(l.filter fun x=>x.key !=k).find? (fun b=>b.key==k)=none:=by
 rw[hZ];intro b hb;have:=(bA.mp hb).2
 simpa using this
theorem wU(s:Store)(b:Breaker)(k:Nat)(t:Store)(ht:t.breakers=j4 s b)(h0:b.faults=0->b.till=0):
  b0 t k=if k=b.key then b else b0 s k:=by
 unfold b0;rw[ht];unfold j4;by_cases e:k=b.key
 ·rw[if_pos e];by_cases f:b.faults=0
  ·rw[if_pos f,e,tS];cases b;simp only at f h0|-
   subst f;rw[h0 rfl]<;>rfl
  ·rw[if_neg f,QE,e,tS];simp
 ·rw[if_neg e];by_cases f:b.faults=0
  ·rw[if_pos f,wM e]
  ·rw[if_neg f,QE,wM e];have:([b].find? fun x=>x.key==k)=none:=by
    rw[hZ];intro x hx;have:x=b:=by simpa using hx
    subst this
    simpa using fun q=>e q.symm
   rw[this,Option.or_none]
theorem kN{α β:Type}(f:α->β)(p:α->Bool)(l:List α)(h:(l.map f).Nodup):((l.filter p).map f).Nodup:=(OD.map f).nodup h
theorem xh{s:Store}{k:Kept}(h:∃x∈s.kept,x.key=k.key):(front s k).length<=s.kept.length:=by
 unfold front;have:(s.kept.filter fun x=>x.key !=k.key).length<s.kept.length:=by
  obtain⟨x,hx,e⟩:=h;exact List.length_filter_lt_length_iff_exists.mpr ⟨x,hx,by simp[e]⟩
 rw[aQ];omega
theorem Ct{s:Store}(W:oG s)(k:Kept):((front s k).map (·.key)).Nodup:=by
 unfold front;rw[bE];refine bG.mpr ⟨?_,kN _ _ _ W.knd⟩;intro h;obtain⟨x,hx,e⟩:=bz.mp h;have:=(bA.mp hx).2;simp[e] at this
theorem KU{s:Store}{key:Nat}{k:Kept}(h:H_ s key=some k):k∈s.kept/\k.key=key/\fresh s k=true:=by
 unfold H_ at h;cases e:s.kept.find? (fun k=>k.key==key) with
 |none=>rw[e] at h;cases h
 |some x=>
  rw[e] at h;have h:(if fresh s x=true then some x else none)=some k:=h;split at h
  ·cases h;rename_i hf;exact⟨sN e,by simpa using F_ e,hf⟩
  ·cases h
theorem Pq{s:Store}(W:oG s)(key:Nat):H_ s key=s.kept.find? fun k=>k.key==key&&fresh s k:=by
 unfold H_;have adC:∀l:List Kept,(l.map (·.key)).Nodup->((l.find? fun k=>k.key==key).bind fun k=>if fresh s k=true then some k else none)=l.find? fun k=>k.key==key&&fresh s k:=by
  intro l
  induction l with
  |nil=>intro _;rfl
  |cons x l ih=>
   intro hn;rw[bE] at hn;obtain⟨n1,n2⟩:=bG.mp hn;rw[dS,dS];by_cases e:x.key=key
   ·have e1:(x.key==key)=true:=by simpa using e
    simp only[e1,o9];cases f:fresh s x with
    |true=>simp[f]
    |false=>
     simp only[Option.bind_some,f];have:l.find? (fun k=>k.key==key&&fresh s k)=none:=by
      rw[hZ];intro y hy;have:y.key≠key:=fun q=>n1 (bz.mpr ⟨y,hy,q.trans e.symm⟩);simp[this]
     rw[this];rfl
   ·have e1:(x.key==key)=false:=by simpa using e
    simp only[e1,jg];exact ih n2
 exact adC _ W.knd
theorem kF{s:Store}{key:Nat}{w:Work}(h:l4 s key=some w):w∈s.works/\w.key=key:=⟨sN h,by simpa using F_ h⟩
theorem UZ{l:List Work}(h:(l.map (·.key)).Nodup){a b:Work}(ha:a∈l)(hb:b∈l)(e:a.key=b.key):a=b:=by
 induction l with
 |nil=>cases ha
 |cons x l ih=>
  rw[bE] at h;obtain⟨n1,n2⟩:=bG.mp h;rcases az.mp ha with q|ha
  ·rcases az.mp hb with r|hb
   ·rw[q,r]
   ·exact absurd (bz.mpr ⟨b,hb,by rw[<-e,q]⟩) n1
  ·rcases az.mp hb with r|hb
   ·exact absurd (bz.mpr ⟨a,ha,by rw[e,r]⟩) n1
   ·exact ih n2 ha hb
theorem Rr{l:List Work}(h:(l.flatMap (·.askers)).Nodup){a b:Work}{x:Nat}(ha:a∈l)(hb:b∈l)(xa:x∈a.askers)(xb:x∈b.askers):a=b:=by
 induction l with
 |nil=>cases ha
 |cons y l ih=>
  rw[bU] at h;obtain⟨n1,n2,n3⟩:=eV.mp h;rcases az.mp ha with q|ha
  ·rcases az.mp hb with r|hb
   ·rw[q,r]
   ·rw[q] at xa;exact absurd rfl (n3 x xa x (b7.mpr ⟨b,hb,xb⟩))
  ·rcases az.mp hb with r|hb
   ·rw[r] at xb;exact absurd rfl (n3 x xb x (b7.mpr ⟨a,ha,xa⟩))
   ·exact ih n2 ha hb
theorem uP{s:Store}(W:oG s){w:Work}(h:w∈s.works):w.askers.Nodup:=by
 have:=W.zt;obtain⟨l1,l2,e⟩:=List.append_of_mem h;rw[e,eO,bU] at this;exact(eV.mp (eV.mp this).2.1).1
theorem rA{α β:Type}(f:α->List β)(p:α->Bool):∀l:List α,((l.filter p).flatMap f).Sublist (l.flatMap f)
 |[]=>pJ _
 |a::l=>by
  rw[aZ,bU];split
  ·rw[bU];exact(pJ _).append (rA f p l)
  ·exact(rA f p l).trans (List.sublist_append_right _ _)
theorem Dh{l:List Work}(p:Work->Bool)(h:(l.flatMap (·.askers)).Nodup):((l.filter p).flatMap (·.askers)).Nodup:=(rA _ p l).nodup h
theorem yZ{α:Type}{l:List α}{x:α}(h:l.Nodup)(hx: ¬x∈l):(l++[x]).Nodup:=by
 refine eV.mpr ⟨h,by simp,?_⟩;intro a ha b hb e;have:b=x:=by simpa using hb
 subst this;subst e;exact hx ha
theorem XH{s:Store}(W:oG s){k:Kept}(hk:k∈s.kept)(ha:s.asks<100):oG {s with asks:=s.asks+1,kept:=front s k,hits:=s.hits+1}:=by
 refine⟨Ct W k,aD (xh ⟨k,hk,rfl⟩) W.xR,W.room,W.Ih,W.OG,fun w hw a h=>fP (W.J2 w hw a h),W.zt,ha,W.oK,?_⟩;intro x hx;rcases az.mp hx with e|hx
 ·rw[e];exact W.Aj k hk
 ·exact W.Aj x (bA.mp hx).1
def joined(key n:Nat)(w:Work):Work:=if w.key=key then{w with askers:=w.askers++[n]} else w
theorem Fo(key n:Nat)(w:Work):(joined key n w).key=w.key:=by unfold joined;split<;>rfl
theorem Fp{key n:Nat}:∀{l:List Work},(l.map (·.key)).Nodup->(l.flatMap (·.askers)).Nodup->(∀w∈l,∀a∈w.askers,a<n)->((l.map (joined key n)).flatMap (·.askers)).Nodup
 |[],_,_,_=>by simp
 |w::l,hk,h,hl=>by
  rw[bE] at hk;obtain⟨k1,k2⟩:=bG.mp hk;rw[bU] at h;obtain⟨n1,n2,n3⟩:=eV.mp h;have ih:=Fp (key:=key) (n:=n) k2 n2 (fun w hw=>hl w (aj _ hw));rw[bE,bU];by_cases e:w.key=key
  ·have same:l.map (joined key n)=l:=by
    refine(gF (g:=id) fun x hx=>?_).trans (Zn l);unfold joined;rw[if_neg (fun q=>k1 (bz.mpr ⟨x,hx,q.trans e.symm⟩))];rfl
   rw[same];have:(joined key n w).askers=w.askers++[n]:=by unfold joined;rw[if_pos e]
   rw[this];refine eV.mpr ⟨yZ n1 (fun q=>d9 _ (hl w au n q)),n2,?_⟩;intro a ha b hb q;rcases bQ.mp ha with ha|ha
   ·exact n3 a ha b hb q
   ·have:a=n:=by simpa using ha
    subst this;subst q;obtain⟨x,hx,hb⟩:=b7.mp hb;exact d9 _ (hl x (aj _ hx) a hb)
  ·have:(joined key n w).askers=w.askers:=by unfold joined;rw[if_neg e]
   rw[this];refine eV.mpr ⟨n1,ih,?_⟩;intro a ha b hb q;subst q;obtain⟨y,hy,hb⟩:=b7.mp hb;obtain⟨x,hx,ex⟩:=bz.mp hy;rw[<-ex] at hb;unfold joined at hb;split at hb
   ·rcases bQ.mp hb with hb|hb
    ·exact n3 a ha a (b7.mpr ⟨x,hx,hb⟩) rfl
    ·have:a=n:=by simpa using hb
     subst this;exact d9 _ (hl w au a ha)
   ·exact n3 a ha a (b7.mpr ⟨x,hx,hb⟩) rfl
theorem U0{s:Store}(W:oG s)(key:Nat)(ha:s.asks<100):oG {s with asks:=s.asks+1,works:=s.works.map fun x=>if x.key=key then{x with askers:=x.askers++[s.asks]} else x}:=by
 show oG {s with asks:=s.asks+1,works:=s.works.map (joined key s.asks)};have hk:(s.works.map (joined key s.asks)).map (·.key)=s.works.map (·.key):=by
  rw[gm];exact gF fun w _=>Fo _ _ w
 refine⟨W.knd,W.xR,W.room,?_,?_,?_,Fp W.Ih W.zt W.J2,ha,?_,W.Aj⟩
 ·show((s.works.map (joined key s.asks)).map (·.key)).Nodup;rw[hk];exact W.Ih
 ·intro w hw;obtain⟨x,hx,e⟩:=bz.mp hw;rw[<-e];unfold joined;split
  ·simp
  ·exact W.OG x hx
 ·intro w hw a h;obtain⟨x,hx,e⟩:=bz.mp hw;rw[<-e] at h;unfold joined at h;show a<s.asks+1;split at h
  ·rcases bQ.mp h with h|h
   ·exact fP (W.J2 x hx a h)
   ·have:a=s.asks:=by simpa using h
    omega
  ·exact fP (W.J2 x hx a h)
 ·intro w hw;obtain⟨x,hx,e⟩:=bz.mp hw;rw[<-e,Fo];exact W.oK x hx
theorem VY{s:Store}(W:oG s)(ha:s.asks<100):oG {s with asks:=s.asks+1}:=
 ⟨W.knd,W.xR,W.room,W.Ih,W.OG,fun w hw a h=>fP (W.J2 w hw a h),W.zt,ha,W.oK,W.Aj⟩
theorem SS{s:Store}(W:oG s){key:Nat}(sG:key<=99)(hn:l4 s key=none)(ha:s.asks<100):
  oG {s with asks:=s.asks+1,kept:=s.kept.filter (fun x=>x.key !=key),works:=s.works++[⟨key,s.now,[s.asks],true⟩],begun:=s.begun+1}:=by
 refine⟨kN _ _ _ W.knd,aD (bh _ _) W.xR,W.room,?_,?_,?_,?_,ha,?_,fun k hk=>W.Aj k (bA.mp hk).1⟩
 ·show((s.works++[(⟨key,s.now,[s.asks],true⟩:Work)]).map (·.key)).Nodup;rw[cb];refine yZ W.Ih fun h=>?_;obtain⟨w,hw,e⟩:=bz.mp h;have:=hZ.mp hn w hw;simp at this;exact this e
 ·intro w hw;rcases bQ.mp hw with hw|hw
  ·exact W.OG w hw
  ·have:w=_:=bp.mp hw;subst this;simp
 ·intro w hw a h;show a<s.asks+1;rcases bQ.mp hw with hw|hw
  ·exact fP (W.J2 w hw a h)
  ·have:w=_:=bp.mp hw;subst this;have:a=s.asks:=by simpa using h
   omega
 ·show((s.works++[(⟨key,s.now,[s.asks],true⟩:Work)]).flatMap (·.askers)).Nodup;rw[eO];refine yZ W.zt fun h=>?_;obtain⟨w,hw,e⟩:=b7.mp h;exact d9 _ (W.J2 w hw _ e)
 ·intro w hw;rcases bQ.mp hw with hw|hw
  ·exact W.oK w hw
  ·have:w=_:=bp.mp hw;subst this;exact sG
theorem FL{s:Store}(W:oG s)(key:Nat)(b:List Breaker):oG {s with works:=s.works.filter (fun x=>x.key !=key),breakers:=b}:=
 ⟨W.knd,W.xR,W.room,kN _ _ _ W.Ih,fun w hw=>W.OG w (bA.mp hw).1,fun w hw=>W.J2 w (bA.mp hw).1,Dh _ W.zt,W.asks,fun w hw=>W.oK w (bA.mp hw).1,W.Aj⟩
theorem PU{s:Store}(W:oG s){w:Work}(hw:w∈s.works)(v:Int):oG (finish s w v):=by
 have E:=FL W w.key (j4 s ⟨w.key,0,0⟩);have sG:=W.oK w hw;refine⟨?_,?_,W.room,E.Ih,E.OG,E.J2,E.zt,W.asks,E.oK,?_⟩
 ·show((if w.keep=true then(front s ⟨w.key,v,s.now⟩).take s.room else s.kept).map (·.key)).Nodup;split
  ·exact((BL _ _).map _).nodup (Ct W _)
  ·exact W.knd
 ·show(if w.keep=true then(front s ⟨w.key,v,s.now⟩).take s.room else s.kept).length<=s.room;split
  ·exact gG _ _
  ·exact W.xR
 ·intro k hk;have hk:k∈(if w.keep=true then(front s ⟨w.key,v,s.now⟩).take s.room else s.kept):=hk;split at hk
  ·rcases az.mp (gn hk) with e|hk
   ·rw[e];exact sG
   ·exact W.Aj k (bA.mp hk).1
  ·exact W.Aj k hk
theorem Vo{s:Store}(W:oG s)(w:Work):oG (fail s w):=FL W w.key _
theorem PQ{s:Store}(W:oG s)(key:Nat):oG (forget s key):=by
 have e1:(s.works.map fun x=>if x.key=key then{x with keep:=false} else x).map (·.key)=s.works.map (·.key):=by
  rw[gm];exact gF fun w _=>by show(if w.key=key then _ else w).key=w.key;split<;>rfl
 have e2:(s.works.map fun x=>if x.key=key then{x with keep:=false} else x).flatMap (·.askers)=s.works.flatMap (·.askers):=by
  rw[Tt];congr 1;funext w;split<;>rfl
 refine⟨kN _ _ _ W.knd,aD (bh _ _) W.xR,W.room,?_,?_,?_,?_,W.asks,?_,fun k hk=>W.Aj k (bA.mp hk).1⟩
 ·show((s.works.map fun x=>if x.key=key then{x with keep:=false} else x).map (·.key)).Nodup;rw[e1];exact W.Ih
 ·intro w hw;obtain⟨x,hx,e⟩:=bz.mp hw;rw[<-e];split
  ·exact W.OG x hx
  ·exact W.OG x hx
 ·intro w hw a h;obtain⟨x,hx,e⟩:=bz.mp hw;rw[<-e] at h;split at h
  ·exact W.J2 x hx a h
  ·exact W.J2 x hx a h
 ·show((s.works.map fun x=>if x.key=key then{x with keep:=false} else x).flatMap (·.askers)).Nodup;rw[e2];exact W.zt
 ·intro w hw;obtain⟨x,hx,e⟩:=bz.mp hw;rw[<-e];split
  ·exact W.oK x hx
  ·exact W.oK x hx
theorem Ko{s:Store}(W:oG s){r a l b m:Nat}(hr:r<=8):oG {s with room:=r,age:=a,limit:=l,base:=b,most:=m,kept:=s.kept.take r}:=
 ⟨((BL _ _).map _).nodup W.knd,gG _ _,hr,W.Ih,W.OG,W.J2,W.zt,W.asks,W.oK,fun k hk=>W.Aj k (gn hk)⟩
theorem filter_none{l:List Nat}{a:Nat}(h: ¬a∈l):(l.filter fun y=>y !=a)=l:=lW.mpr fun x hx=>by
 have:x≠a:=fun q=>h (q▸hx)
 simpa using this
def left(l:List Work)(w:Work)(a:Nat):List Work:=
 if(w.askers.filter fun y=>y !=a)=[] then l.filter fun x=>x.key !=w.key else l.map fun x=>if x.key=w.key then{x with askers:=x.askers.filter fun y=>y !=a} else x
theorem KR{s:Store}(W:oG s){w:Work}{a:Nat}(hw:w∈s.works)(ha:a∈w.askers):(leave s a).works=left s.works w a:=by
 show((s.works.map fun x=>{x with askers:=x.askers.filter fun y=>y !=a}).filter fun x=>!x.askers.isEmpty)=_;have e1:(s.works.map fun x:Work=>({x with askers:=x.askers.filter fun y=>y !=a}:Work))=s.works.map fun x=>if x.key=w.key then{x with askers:=x.askers.filter fun y=>y !=a} else x:=by
  refine gF fun x hx=>?_;by_cases e:x.key=w.key
  ·rw[if_pos e]
  ·rw[if_neg e];have: ¬a∈x.askers:=fun q=>e (by rw[Rr W.zt hx hw q ha]);rw[filter_none this]
 rw[e1];unfold left;have gen:∀l:List Work,(∀x∈l,x∈s.works)->((l.map fun x=>if x.key=w.key then({x with askers:=x.askers.filter fun y=>y !=a}:Work) else x).filter fun x=>!x.askers.isEmpty)=
   if(w.askers.filter fun y=>y !=a)=[] then l.filter fun x=>x.key !=w.key else l.map fun x=>if x.key=w.key then{x with askers:=x.askers.filter fun y=>y !=a} else x:=by
  intro l
  induction l with
  |nil=>intro _;split<;>rfl
  |cons x l ih=>
   intro hl;have ih:=ih fun y hy=>hl y (aj _ hy);have hx:=hl x au;rw[bE,aZ,ih];by_cases e:x.key=w.key
   ·have ex:x=w:=UZ W.Ih hx hw e;subst ex;rw[if_pos rfl];by_cases z:(x.askers.filter fun y=>y !=a)=[]
    ·have e1:(!(x.askers.filter fun y=>y !=a).isEmpty)=false:=by rw[z];rfl
     have e2:(x.key !=x.key)=false:=by simp
     rw[if_pos z,if_pos z,if_neg (by rw[e1];exact aU),aZ,if_neg (by rw[e2];exact aU)]
    ·have e1:(!(x.askers.filter fun y=>y !=a).isEmpty)=true:=by
      cases q:x.askers.filter fun y=>y !=a with
      |nil=>exact absurd q z
      |cons _ _=>rfl
     rw[if_neg z,if_neg z,if_pos e1]<;>rfl
   ·have tN:=W.OG x hx;rw[if_neg e,if_pos (by simpa using tN)];split
    ·rw[aZ,if_pos (by simpa using e)]
    ·rfl
 exact gen _ fun _ h=>h
theorem Mm{s:Store}{a:Nat}{w:Work}(h:Gd s a=some w):w∈s.works/\a∈w.askers:=⟨sN h,by simpa using F_ h⟩
theorem Pj{s:Store}(W:oG s){w:Work}{a:Nat}(hw:w∈s.works)(ha:a∈w.askers):(l4 (leave s a) w.key).isNone=decide ((w.askers.filter fun y=>y !=a)=[]):=by
 unfold l4;rw[KR W hw ha];unfold left;by_cases z:(w.askers.filter fun y=>y !=a)=[]
 ·rw[if_pos z,decide_eq_true z];have:((s.works.filter fun x=>x.key !=w.key).find? fun x=>x.key==w.key)=none:=by
   rw[hZ];intro x hx;have:=(bA.mp hx).2
   simpa using this
  rw[this];rfl
 ·rw[if_neg z,decide_eq_false z];rw[Option.isNone_eq_false_iff,List.find?_isSome];refine⟨_,bz.mpr ⟨w,hw,rfl⟩,?_⟩;simp
theorem RI{s:Store}(W:oG s)(a:Nat):oG (leave s a):=by
 refine⟨W.knd,W.xR,W.room,?_,?_,?_,?_,W.asks,?_,W.Aj⟩
 ·show(((s.works.map fun x=>{x with askers:=x.askers.filter fun y=>y !=a}).filter fun x=>!x.askers.isEmpty).map (·.key)).Nodup;refine kN _ _ _ ?_;rw[gm];exact W.Ih
 ·intro w hw;have:=(bA.mp hw).2
  simpa using this
 ·intro w hw b h;obtain⟨x,hx,e⟩:=bz.mp (bA.mp hw).1;rw[<-e] at h;exact W.J2 x hx b (bA.mp h).1
 ·show(((s.works.map fun x=>{x with askers:=x.askers.filter fun y=>y !=a}).filter fun x=>!x.askers.isEmpty).flatMap (·.askers)).Nodup;refine(rA _ _ _).nodup ?_;rw[Tt];have:∀l:List Work,(l.flatMap fun x=>x.askers.filter fun y=>y !=a).Sublist (l.flatMap (·.askers)):=by
   intro l
   induction l with
   |nil=>exact pJ _
   |cons x l ih=>rw[bU,bU];exact OD.append ih
  exact(this _).nodup W.zt
 ·intro w hw;obtain⟨x,hx,e⟩:=bz.mp (bA.mp hw).1;rw[<-e];exact W.oK x hx
end Sm
namespace Gm
open Vbtkaj
def acc(n w:Nat):List Nat->List Nat->List Nat
 |_,[]=>[]
 |l,t::r=>if mI n w t l=true then t::acc n w (l++[t]) r else acc n w l r
theorem M5(n w:Nat):∀ts l,((ts.zip (through n w l ts)).filter fun x=>x.2).map (fun x=>x.1)=acc n w l ts
 |[],_=>rfl
 |t::r,l=>by
  unfold through acc;by_cases h:mI n w t l=true
  ·rw[if_pos h,if_pos h,rh,J7 rfl,bE,M5 n w r]
  ·rw[if_neg h,if_neg h,rh,J8 (fun h=>a0 h),M5 n w r]
theorem MF(n w:Nat)(ts:List Nat):let_ n w ts=acc n w [] ts:=M5 n w ts []
def gate(n w:Nat)(l:List Nat)(t:Nat):List Nat:=if mI n w t l=true then l++[t] else l
theorem FF(n w:Nat):∀ts l,ts.foldl (gate n w) l=l++acc n w l ts
 |[],l=>(cE l).symm
 |t::r,l=>by
  show r.foldl (gate n w) (gate n w l t)=_;rw[FF n w r];show gate n w l t++acc n w (gate n w l t) r=l++(if mI n w t l=true then t::acc n w (l++[t]) r else acc n w l r);unfold gate;split
  ·rw[iT];rfl
  ·rfl
theorem Fj(n w:Nat)(ts:List Nat):let_ n w ts=ts.foldl (gate n w) []:=by rw[MF,FF];rfl
theorem oZ:∀{ts l:List Nat},l∈Yk ts↔l.Sublist ts
 |[],l=>by
  show l∈[[]]↔_;rw[bp,To]
 |t::r,l=>by
  show l∈(Yk r).flatMap (fun l=>[l,t::l])↔_;rw[b7];constructor
  ·rintro⟨m,hm,hl⟩;have hm:=oZ.mp hm;rcases az.mp hl with e|hl
   ·rw[e];exact hm.cons t
   ·rw[bp.mp hl];exact hm.cons_cons t
  ·intro h;cases h with
   |cons _ h=>exact⟨l,oZ.mpr h,au⟩
   |cons_cons _ h=>exact⟨_,oZ.mpr h,aj _ au⟩
theorem pT{n:Nat}:∀(l:List Nat) (b:Nat),l.foldl max b<=n↔b<=n/\∀x∈l,x<=n
 |[],b=>by simp
 |a::l,b=>by
  rw[cP,pT l,Nat.max_le];simp only[az,forall_eq_or_imp,and_assoc]
def DM(w t u:Nat):Bool:=decide (t<=u)&&decide (u<t+w)
theorem Lj{w n:Nat}{l:List Nat}:crowd w l<=n↔∀t∈l,(l.filter (DM w t)).length<=n:=by
 unfold crowd;rw[pT];simp only[aT,true_and,bz,forall_exists_index,and_imp,forall_apply_eq_imp_iff₂];rfl
theorem rS{w t u:Nat}:DM w t u=true↔t<=u/\u<t+w:=by unfold DM;simp
theorem KS:∀{l:List Nat},l≠[]->∃x∈l,∀y∈l,x<=y
 |[],h=>absurd rfl h
 |[a],_=>⟨a,au,fun y hy=>by rw[bp.mp hy];exact aL _⟩
 |a::b::l,_=>by
  obtain⟨x,hx,hl⟩:=KS (l:=b::l) (by simp);by_cases h:a<=x
  ·refine⟨a,au,fun y hy=>?_⟩;rcases az.mp hy with e|hy
   ·omega
   ·exact aD h (hl y hy)
  ·refine⟨x,aj _ hx,fun y hy=>?_⟩;rcases az.mp hy with e|hy
   ·omega
   ·exact hl y hy
theorem lY{α:Type}{p q:α->Bool}:∀(l:List α),(∀x∈l,p x=true->q x=true)->(l.filter p).length<=(l.filter q).length
 |[],_=>aL _
 |a::l,h=>by
  have ih:=lY l fun x hx=>h x (aj _ hx);have ha:=h a au;rw[aZ,aZ];cases hp:p a
  ·cases hq:q a
   ·simpa using ih
   ·simp;omega
  ·rw[ha hp];simpa using ih
theorem MV{n w t:Nat}{l:List Nat}(hl:∀x∈l,x<=t)(hc:∀x∈l,(l.filter (DM w x)).length<=n)(hp:mI n w t l=true):∀x∈l++[t],((l++[t]).filter (DM w x)).length<=n:=by
 have hp:(l.filter fun u=>decide (t<u+w)).length<n:=of_decide_eq_true hp;intro x hx;rw[bM,aJ];by_cases ht:DM w x t=true
 ·have h1:([t].filter (DM w x)).length=1:=by simp[ht]
  have h2:=lY (p:=DM w x) (q:=fun u=>decide (t<u+w)) l (fun u hu h=>by
   have a:=rS.mp ht;have b:=rS.mp h;simp;omega)
  omega
 ·have h1:([t].filter (DM w x)).length=0:=by simp[ht]
  rcases bQ.mp hx with hx|hx
  ·have:=hc x hx;omega
  ·have e:x=t:=bp.mp hx;subst e;by_cases hw:0<w
   ·exact absurd (rS.mpr ⟨aL _,by omega⟩) ht
   ·have:(l.filter (DM w x)).length<=(l.filter fun u=>decide (x<u+w)).length:=lY l fun u hu h=>by
     have b:=rS.mp h;omega
    omega
theorem FE{n w:Nat}:∀(ts l:List Nat),ts.Pairwise (· <= ·)->(∀x∈l,∀t∈ts,x<=t)->(∀x∈l,(l.filter (DM w x)).length<=n)->∀x∈ts.foldl (gate n w) l,((ts.foldl (gate n w) l).filter (DM w x)).length<=n
 |[],l,_,_,hc=>hc
 |t::r,l,hs,hl,hc=>by
  obtain⟨s1,s2⟩:=jJ.mp hs;show ∀x∈r.foldl (gate n w) (gate n w l t),((r.foldl (gate n w) (gate n w l t)).filter (DM w x)).length<=n;refine FE r _ s2 ?_ ?_
  ·unfold gate;split
   ·intro x hx u hu;rcases bQ.mp hx with hx|hx
    ·exact hl x hx u (aj _ hu)
    ·rw[bp.mp hx];exact s1 u hu
   ·exact fun x hx u hu=>hl x hx u (aj _ hu)
  ·unfold gate;split
   ·rename_i h;exact MV (fun x hx=>hl x hx t au) hc h
   ·exact hc
theorem AJ(n w:Nat):∀ts l,(acc n w l ts).Sublist ts
 |[],_=>pJ _
 |t::r,l=>by
  unfold acc;split
  ·exact(AJ n w r _).cons_cons t
  ·exact(AJ n w r _).cons t
theorem MG(n w:Nat)(ts:List Nat):let_ n w ts∈Yk ts:=oZ.mpr (by rw[MF];exact AJ n w ts [])
theorem Ph(n w:Nat){ts:List Nat}(hs:ts.Pairwise (· <= ·)):crowd w (let_ n w ts)<=n:=by
 rw[Fj];exact Lj.mpr (FE ts [] hs (fun x hx=>nomatch hx) fun x hx=>nomatch hx)
structure abx(G C:List Nat):Prop where
 len:C.length<=G.length
 le:∀(k:Nat) c g,C[k]?=some c->G[k]?=some g->g<=c
theorem Lk{t w:Nat}:∀{G C:List Nat},G.length=C.length->(∀(k:Nat) c g,C[k]?=some c->G[k]?=some g->g<=c)->(G.filter fun u=>decide (t<u+w)).length<=(C.filter fun u=>decide (t<u+w)).length
 |[],[],_,_=>aL _
 |[],_::_,h,_=>by simp at h
 |_::_,[],h,_=>by simp at h
 |g::G,c::C,h,hp=>by
  have ih:=Lk (t:=t) (w:=w) (G:=G) (C:=C) (by simpa using h) (fun k c g h1 h2=>hp (k+1) c g h1 h2);have h0:=hp 0 c g rfl rfl;rw[aZ,aZ];by_cases hg:t<g+w
  ·have hc:t<c+w:=by omega
   simp[hg,hc];exact ih
  ·by_cases hc:t<c+w
   ·simp[hg,hc];omega
   ·simp[hg,hc];exact ih
theorem y2{n w:Nat}(hw:0<w):∀(ts G C c:List Nat),ts.Pairwise (· <= ·)->(∀x∈G,∀t∈ts,x<=t)->(∀x∈C,∀t∈ts,x<=t)->abx G C->c.Sublist ts->crowd w (C++c)<=n->(C++c).length<=(ts.foldl (gate n w) G).length
 |[],G,C,c,_,_,_,A,hc,_=>by
  rw[To.mp hc,cE];exact A.len
 |t::r,G,C,c,hs,hG,hC,A,hc,hn=>by
  obtain⟨s1,s2⟩:=jJ.mp hs;have hG':∀x∈gate n w G t,∀u∈r,x<=u:=by
   unfold gate;split
   ·intro x hx u hu;rcases bQ.mp hx with hx|hx
    ·exact hG x hx u (aj _ hu)
    ·rw[bp.mp hx];exact s1 u hu
   ·exact fun x hx u hu=>hG x hx u (aj _ hu)
  show(C++c).length<=(r.foldl (gate n w) (gate n w G t)).length;cases hc with
  |cons _ hc=>
   refine y2 hw r _ C c s2 hG' (fun x hx u hu=>hC x hx u (aj _ hu)) ?_ hc hn;unfold gate;split
   ·refine⟨by rw[aJ];exact aD A.len (dM _ _),fun k a g h1 h2=>A.le k a g h1 ?_⟩
    rwa [cq (bN (aP.mp h1).1 A.len)] at h2
   ·exact A
  |@cons_cons c' _ _ hc=>
   have e:C++t::c'=(C++[t])++c':=by rw[iT];rfl
   rw[e] at hn|-
   refine y2 hw r _ (C++[t]) c' s2 hG' ?_ ?_ hc hn
   ·intro x hx u hu;rcases bQ.mp hx with hx|hx
    ·exact hC x hx u (aj _ hu)
    ·rw[bp.mp hx];exact s1 u hu
   ·unfold gate;split
    ·refine⟨by rw[aJ,aJ];exact yD A.len 1,fun k a g h1 h2=>?_⟩;by_cases hk:k<C.length
     ·rw[cq hk] at h1;rw[cq (bN hk A.len)] at h2;exact A.le k a g h1 h2
     ·rw[dA (by omega)] at h1;have ha:a=t:=by simpa using bB h1
      subst ha;rcases bQ.mp (bB h2) with hg|hg
      ·exact hG g hg a au
      ·rw[bp.mp hg];exact aL _
    ·rename_i hp;have hp:n<=(G.filter fun u=>decide (t<u+w)).length:=D9 fun q=>hp (decide_eq_true (p:=(G.filter fun u=>decide (t<u+w)).length<n) q);have qY:C.length<G.length:=by
      refine Nat.lt_of_le_of_ne A.len fun q=>?_;have h1:=Lk (t:=t) (w:=w) q.symm A.le;have hcr:=Lj.mp hn;have tN:((C++[t]).filter fun u=>decide (t<u+w))≠[]:=List.ne_nil_of_mem (a:=t) (bA.mpr ⟨dB _ au,by simp;omega⟩);obtain⟨x,hx,hl⟩:=KS tN;have hx1:=bA.mp hx;have hxw:t<x+w:=by simpa using hx1.2
      have h2:=hcr x (gp _ hx1.1);rw[bM,aJ] at h2;have h3:((C++[t]).filter fun u=>decide (t<u+w)).length<=((C++[t]).filter (DM w x)).length:=by
       refine lY _ fun u hu hq=>rS.mpr ⟨hl u (bA.mpr ⟨hu,hq⟩),?_⟩;have:u<=t:=by
        rcases bQ.mp hu with hu|hu
        ·exact hC u hu t au
        ·rw[bp.mp hu];exact aL _
       omega
      have h4:((C++[t]).filter fun u=>decide (t<u+w)).length=(C.filter fun u=>decide (t<u+w)).length+1:=by
       rw[bM,aJ];have q1:(decide (t<t+w))=true:=by simp;omega
       have q2:([t].filter fun u=>decide (t<u+w))=[t]:=by rw[aZ,q1,if_pos rfl,cx]
       rw[q2];rfl
      rw[bM,aJ] at h3;rw[bM,aJ] at h4;omega
     refine⟨by rw[aJ];exact qY,fun k a g h1 h2=>?_⟩;by_cases hk:k<C.length
     ·rw[cq hk] at h1;exact A.le k a g h1 h2
     ·rw[dA (by omega)] at h1;have ha:a=t:=by simpa using bB h1
      subst ha;exact hG g (bB h2) a au
theorem sH{b:Nat}:∀(ls:List (List Nat)) (m:Nat),ls.foldl (fun m l=>max m l.length) m<=b↔m<=b/\∀l∈ls,l.length<=b
 |[],m=>by simp
 |a::ls,m=>by
  rw[cP,sH ls,Nat.max_le];simp only[az,forall_eq_or_imp,and_assoc]
theorem UT{n w:Nat}{ts:List Nat}(hw:0<w)(hs:ts.Pairwise (· <= ·)):xW n w ts=(let_ n w ts).length:=by
 refine Gk ?_ ?_
 ·refine(sH _ _).mpr ⟨aT _,fun l hl=>?_⟩;obtain⟨h1,h2⟩:=bA.mp hl;rw[Fj];exact y2 hw ts [] [] l hs (fun _ h=>nomatch h) (fun _ h=>nomatch h) ⟨aL _,fun k c g h=>by simp at h⟩ (oZ.mp h1) (by simpa using h2)
 ·have:=(sH ((Yk ts).filter fun l=>decide (crowd w l<=n)) 0 (b:=xW n w ts)).mp (aL _);exact this.2 _ (bA.mpr ⟨MG n w ts,by simpa using Ph n w hs⟩)
theorem ya{p:Nat->Bool}:∀{l:List Nat},l.Pairwise (· <= ·)->(∀x y,x<=y->p x=true->p y=true)->l.filter p=l.drop (l.length -(l.filter p).length)
 |[],_,_=>rfl
 |a::l,hs,hp=>by
  obtain⟨s1,s2⟩:=jJ.mp hs;cases h:p a
  ·rw[aZ,h,if_neg aU];have:=bh p l;have e:(a::l).length -(l.filter p).length=(l.length -(l.filter p).length)+1:=by rw[aQ];omega
   rw[e,OE];exact ya s2 hp
  ·have:(a::l).filter p=a::l:=lW.mpr fun x hx=>by
    rcases az.mp hx with e|hx
    ·rw[e];exact h
    ·exact hp a x (s1 x hx) h
   rw[this,Md,x6]
theorem UR{n w now:Nat}{l:List Nat}(hn:0<n)(hs:l.Pairwise (· <= ·))(hl:∀x∈l,x<=now):
  iG n w now l=some (if l.length<n then now else max now (l.getD (l.length -n) 0+w)):=by
 unfold iG;rw[if_neg (by omega)];have aal:=ya (p:=fun t=>decide (now<t+w)) hs (fun x y h q=>by simp at q|-;omega);have hle:=bh (fun t=>decide (now<t+w)) l;show(if(M' w now l).length<n then some now else some ((M' w now l).getD ((M' w now l).length -n) 0+w))=_;unfold M';by_cases h1:(l.filter fun t=>decide (now<t+w)).length<n
 ·rw[if_pos h1];by_cases h2:l.length<n
  ·rw[if_pos h2]
  ·rw[if_neg h2];have h3:l.length -n<l.length:=by omega
   have h4: ¬now<l[l.length -n]+w:=fun q=>by
    have h5:(l.drop (l.length -n)).filter (fun t=>decide (now<t+w))=l.drop (l.length -n):=by
     refine lW.mpr fun x hx=>?_;obtain⟨j,hj⟩:=kx.mp hx;rw[mH] at hj;obtain⟨hj1,YQ⟩:=aP.mp hj;have:l[l.length -n]<=x:=by
      rw[<-YQ];by_cases z:j=0
      ·subst z;exact aL _
      ·exact sM.mp hs _ _ h3 hj1 (by omega)
     simp;omega
    have h6:(l.drop (l.length -n)).length<=(l.filter fun t=>decide (now<t+w)).length:=by
     rw[<-h5];exact((List.drop_sublist _ l).filter _).length_le
    rw[cY] at h6;omega
   rw[bo,aS h3,lx,VJ (by omega)]
 ·rw[if_neg h1,if_neg (by omega),aal];have e:(l.drop (l.length -(l.filter fun t=>decide (now<t+w)).length)).length=(l.filter fun t=>decide (now<t+w)).length:=by rw[cY];omega
  rw[e,bo,bo,mH];have e2:l.length -(l.filter fun t=>decide (now<t+w)).length+((l.filter fun t=>decide (now<t+w)).length -n)=l.length -n:=by omega
  rw[e2];have h3:l.length -n<l.length:=by omega
  rw[aS h3,lx];have h4:l[l.length -n]∈l.filter fun t=>decide (now<t+w):=by
   rw[aal];refine kx.mpr ⟨(l.filter fun t=>decide (now<t+w)).length -n,?_⟩;rw[mH,e2,aS h3]
  have:=(bA.mp h4).2;have:now<l[l.length -n]+w:=by simpa using this
  rw[TU (by omega)]
structure Bk where
 parts:Nat
 before:Nat
 out:List Nat
def Di(room each:Nat)(s:Bk)(t:Nat):Bk:=
 if each<=min (room*each) (s.parts+(t -s.before)) then⟨min (room*each) (s.parts+(t -s.before)) -each,t,s.out++[t]⟩ else⟨min (room*each) (s.parts+(t -s.before)),t,s.out⟩
theorem Cv(room each:Nat):∀(ts:List Nat) (s:Bk),(ts.foldl (Di room each) s).out=s.out++((ts.zip (Ov room each ⟨s.parts,s.before⟩ ts)).filter fun x=>x.2).map fun x=>x.1
 |[],s=>by simp
 |t::r,s=>by
  rw[cP,Cv room each r];show _=s.out++(((t::r).zip (if each<=min (room*each) (s.parts+(t -s.before)) then true::Ov room each ⟨min (room*each) (s.parts+(t -s.before)) -each,t⟩ r else false::Ov room each ⟨min (room*each) (s.parts+(t -s.before)),t⟩ r)).filter fun x=>x.2).map fun x=>x.1;unfold Di;by_cases h:each<=min (room*each) (s.parts+(t -s.before))
  ·rw[if_pos h,if_pos h,rh,J7 rfl,bE];show s.out++[t]++_=_;rw[iT];rfl
  ·rw[if_neg h,if_neg h,rh,J8 (fun q=>a0 q)]
theorem P7(room each t:Nat):Di room each ⟨room*each,0,[]⟩ t=Di room each ⟨room*each,t,[]⟩ t:=by
 unfold Di;have e1:min (room*each) (room*each+(t -0))=room*each:=gB (dM _ _);have e2:min (room*each) (room*each+(t -t))=room*each:=gB (dM _ _);show(if each<=min (room*each) (room*each+(t -0)) then _ else _)=(if each<=min (room*each) (room*each+(t -t)) then _ else _);rw[e1,e2]
theorem uH(room each:Nat)(ts:List Nat):tY room each ts=(ts.foldl (Di room each) ⟨room*each,0,[]⟩).out:=by
 cases ts with
 |nil=>rfl
 |cons t r=>
  rw[cP,P7,<-cP (l:=r) (f:=Di room each),Cv];rfl
theorem M3(room each:Nat)(s:Bk)(t:Nat):(Di room each s t).before=t:=by unfold Di;split<;>rfl
theorem Vs(room each:Nat)(s:Bk)(t:Nat):(Di room each s t).out.length<=s.out.length+1:=by
 unfold Di;split
 ·show(s.out++[t]).length<=_;rw[aJ];exact aL _
 ·exact fT _
theorem xp(room each:Nat):∀(ts:List Nat) (s:Bk),(ts.foldl (Di room each) s).out.length<=s.out.length+ts.length
 |[],s=>aL _
 |t::r,s=>by
  rw[cP];have h1:=xp room each r (Di room each s t);have h2:=Vs room each s t;rw[aQ];omega
theorem K7(n w:Nat)(ts:List Nat):(let_ n w ts).length<=ts.length:=by rw[MF];exact(AJ n w ts []).length_le
theorem PL(n w:Nat):∀(ts l:List Nat),(ts.foldl (gate n w) l).length<=l.length+ts.length:=fun ts l=>by
 rw[FF,aJ];exact Qk (AJ n w ts l).length_le _
end Gm
namespace Bm
open Vbtkaj
abbrev wo(l:List Nat)(j:Nat):List Nat:=l.filter fun y=>y !=j
theorem fE{l:List Nat}{j x:Nat}:x∈wo l j↔x∈l/\x≠j:=by simp[wo]
theorem Nl{l:List Nat}(h:l.Nodup)(j:Nat):(wo l j).Nodup:=h.filter _
theorem sub_len:∀{l m:List Nat},l.Nodup->(∀x∈l,x∈m)->l.length<=m.length
 |[],_,_,_=>aT _
 |a::l,m,h,hs=>by
  obtain⟨h1,h2⟩:=bG.mp h;have ha:a∈m:=hs a au;have:=sub_len (m:=m.erase a) h2 fun x hx=>(Nj (fun e:x=a=>h1 (e▸hx))).mpr (hs x (aj _ hx));rw[J0 ha] at this;have:0<m.length:=vB ha;rw[aQ];omega
theorem yG{l:List Nat}{j:Nat}(h:l.Nodup)(hj:j∈l):(wo l j).length+1=l.length:=by
 refine Gk ?_ ?_
 ·have:(j::wo l j).length<=l.length:=sub_len (bG.mpr ⟨fun q=>(fE.mp q).2 rfl,Nl h j⟩) fun x hx=>by
   rcases az.mp hx with e|hx
   ·rw[e];exact hj
   ·exact(fE.mp hx).1
  simpa using this
 ·have:l.length<=(j::wo l j).length:=sub_len h fun x hx=>by
   by_cases e:x=j
   ·rw[e];exact au
   ·exact aj _ (fE.mpr ⟨hx,e⟩)
  simpa using this
abbrev diff(Y X:List Nat):List Nat:=Y.filter fun y=>!X.contains y
theorem nj{Y X:List Nat}{x:Nat}:x∈diff Y X↔x∈Y/\ ¬x∈X:=by simp[diff]
theorem Oc{Y:List Nat}(h:Y.Nodup)(X:List Nat):(diff Y X).Nodup:=h.filter _
theorem pU{Y X Y' X':List Nat}(h:Y'.Nodup)(hs:∀x,x∈Y'-> ¬x∈X'->x∈Y/\ ¬x∈X):(diff Y' X').length<=(diff Y X).length:=sub_len (Oc h _) fun x hx=>nj.mpr (hs x (nj.mp hx).1 (nj.mp hx).2)
theorem Od{Y X Y' X':List Nat}{k:Nat}(h:Y'.Nodup)(hk:k∈Y)(hkx: ¬k∈X)(hs:∀x,x∈Y'-> ¬x∈X'->x≠k/\x∈Y/\ ¬x∈X):(diff Y' X').length+1<=(diff Y X).length:=by
 have:(k::diff Y' X').length<=(diff Y X).length:=sub_len (bG.mpr ⟨fun q=>(hs k (nj.mp q).1 (nj.mp q).2).1 rfl,Oc h _⟩) fun x hx=>by
  rcases az.mp hx with e|hx
  ·rw[e];exact nj.mpr ⟨hk,hkx⟩
  ·exact nj.mpr (hs x (nj.mp hx).1 (nj.mp hx).2).2
 simpa using this
theorem Hs{X Y:List Nat}(hX:X.Nodup)(hY:Y.Nodup)(hl:Y.length<=X.length){k:Nat}(hk:k∈Y)(hkx: ¬k∈X):∃i∈X,¬i∈Y:=by
 refine g_ fun h=>?_;have hs:∀x∈k::X,x∈Y:=fun x hx=>by
  rcases az.mp hx with e|hx
  ·rw[e];exact hk
  ·exact g_ fun q=>h ⟨x,hx,q⟩
 have:=sub_len (bG.mpr ⟨hkx,hX⟩) hs;rw[aQ] at this;omega
theorem Mv{X Y:List Nat}(hX:X.Nodup)(hl:Y.length<X.length):∃i∈X,¬i∈Y:=by
 refine g_ fun h=>?_;have:=sub_len (m:=Y) hX fun x hx=>g_ fun q=>h ⟨x,hx,q⟩;omega
inductive Way (room:Nat):List Nat->List Nat->Nat->Prop
 |nil (X:List Nat):Way room X [] 0
 |hit {X:List Nat} {k:Nat} {r:List Nat} {n:Nat} (h:k∈X) (w:Way room X r n):Way room X (k::r) n
 |put {X:List Nat} {k:Nat} {r:List Nat} {n:Nat} (h: ¬k∈X) (hl:X.length<room) (w:Way room (k::X) r n):Way room X (k::r) (n+1)
 |out {X:List Nat} {k j:Nat} {r:List Nat} {n:Nat} (h: ¬k∈X) (hl: ¬X.length<room) (hj:j∈X) (w:Way room (k::wo X j) r n):Way room X (k::r) (n+1)
structure Ok(room:Nat)(X:List Nat):Prop where
 nd:X.Nodup
 le:X.length<=room
variable{room:Nat}
theorem Ok.put{X:List Nat}{k:Nat}(o:Ok room X)(h: ¬k∈X)(hl:X.length<room):Ok room (k::X):=⟨bG.mpr ⟨h,o.nd⟩,hl⟩
theorem Ok.out{X:List Nat}{k j:Nat}(o:Ok room X)(h: ¬k∈X)(hj:j∈X):Ok room (k::wo X j):=⟨bG.mpr ⟨fun q=>h (fE.mp q).1,Nl o.nd j⟩,by rw[aQ,yG o.nd hj];exact o.le⟩
theorem i6(hr:0<room):∀(r Y X:List Nat) (n:Nat),Ok room Y->Ok room X->Way room Y r n->∃m,m<=(diff Y X).length+n/\Way room X r m
 |[],Y,X,n,_,_,w=>⟨0,aT _,.nil X⟩
 |k::r,Y,X,n,oY,oX,w=>by
  by_cases hX:k∈X
  ·
   cases w with
   |hit h w=>
    obtain⟨m,hm,w'⟩:=i6 hr r Y X _ oY oX w;exact⟨m,hm,.hit hX w'⟩
   |put h hl w=>
    obtain⟨m,hm,w'⟩:=i6 hr r (k::Y) X _ (oY.put h hl) oX w;have:=pU (Y:=Y) (X:=X) (Y':=k::Y) (X':=X) (oY.put h hl).nd (fun x hx hn=>by
     rcases az.mp hx with e|hx
     ·exact absurd (e▸hX) hn
     ·exact⟨hx,hn⟩)
    exact⟨m,by omega,.hit hX w'⟩
   |@out _ _ j _ _ h hl hj w=>
    obtain⟨m,hm,w'⟩:=i6 hr r (k::wo Y j) X _ (oY.out h hj) oX w;have:=pU (Y:=Y) (X:=X) (Y':=k::wo Y j) (X':=X) (oY.out h hj).nd (fun x hx hn=>by
     rcases az.mp hx with e|hx
     ·exact absurd (e▸hX) hn
     ·exact⟨(fE.mp hx).1,hn⟩)
    exact⟨m,by omega,.hit hX w'⟩
  ·by_cases hf:X.length<room
   ·
    have oX':=oX.put hX hf;cases w with
    |hit h w=>
     obtain⟨m,hm,w'⟩:=i6 hr r Y (k::X) _ oY oX' w;have:=Od (Y:=Y) (X:=X) (Y':=Y) (X':=k::X) (k:=k) oY.nd h hX (fun x hx hn=>⟨fun e=>hn (e▸au),hx,fun q=>hn (aj _ q)⟩);exact⟨m+1,by omega,.put hX hf w'⟩
    |put h hl w=>
     obtain⟨m,hm,w'⟩:=i6 hr r (k::Y) (k::X) _ (oY.put h hl) oX' w;have:=pU (Y:=Y) (X:=X) (Y':=k::Y) (X':=k::X) (oY.put h hl).nd (fun x hx hn=>by
      rcases az.mp hx with e|hx
      ·exact absurd (e▸au) hn
      ·exact⟨hx,fun q=>hn (aj _ q)⟩)
     exact⟨m+1,by omega,.put hX hf w'⟩
    |@out _ _ j _ _ h hl hj w=>
     obtain⟨m,hm,w'⟩:=i6 hr r (k::wo Y j) (k::X) _ (oY.out h hj) oX' w;have:=pU (Y:=Y) (X:=X) (Y':=k::wo Y j) (X':=k::X) (oY.out h hj).nd (fun x hx hn=>by
      rcases az.mp hx with e|hx
      ·exact absurd (e▸au) hn
      ·exact⟨(fE.mp hx).1,fun q=>hn (aj _ q)⟩)
     exact⟨m+1,by omega,.put hX hf w'⟩
   ·
    cases w with
    |hit h w=>
     obtain⟨i,hi,hiY⟩:=Hs oX.nd oY.nd (aD oY.le (D9 hf)) h hX;obtain⟨m,hm,w'⟩:=i6 hr r Y (k::wo X i) _ oY (oX.out hX hi) w;have:=Od (Y:=Y) (X:=X) (Y':=Y) (X':=k::wo X i) (k:=k) oY.nd h hX (fun x hx hn=>⟨fun e=>hn (e▸au),hx,fun q=>hn (aj _ (fE.mpr ⟨q,fun e=>hiY (e▸hx)⟩))⟩);exact⟨m+1,by omega,.out hX hf hi w'⟩
    |put h hl w=>
     obtain⟨i,hi,hiY⟩:=Mv (Y:=Y) oX.nd (by omega);obtain⟨m,hm,w'⟩:=i6 hr r (k::Y) (k::wo X i) _ (oY.put h hl) (oX.out hX hi) w;have:=pU (Y:=Y) (X:=X) (Y':=k::Y) (X':=k::wo X i) (oY.put h hl).nd (fun x hx hn=>by
      rcases az.mp hx with e|hx
      ·exact absurd (e▸au) hn
      ·exact⟨hx,fun q=>hn (aj _ (fE.mpr ⟨q,fun e=>hiY (e▸hx)⟩))⟩)
     exact⟨m+1,by omega,.out hX hf hi w'⟩
    |@out _ _ j _ _ h hl hj w=>
     by_cases hjX:j∈X
     ·obtain⟨m,hm,w'⟩:=i6 hr r (k::wo Y j) (k::wo X j) _ (oY.out h hj) (oX.out hX hjX) w;have:=pU (Y:=Y) (X:=X) (Y':=k::wo Y j) (X':=k::wo X j) (oY.out h hj).nd (fun x hx hn=>by
       rcases az.mp hx with e|hx
       ·exact absurd (e▸au) hn
       ·obtain⟨h1,h2⟩:=fE.mp hx;exact⟨h1,fun q=>hn (aj _ (fE.mpr ⟨q,h2⟩))⟩)
      exact⟨m+1,by omega,.out hX hf hjX w'⟩
     ·obtain⟨i,hi,hiY⟩:=Hs oX.nd oY.nd (aD oY.le (D9 hf)) hj hjX;obtain⟨m,hm,w'⟩:=i6 hr r (k::wo Y j) (k::wo X i) _ (oY.out h hj) (oX.out hX hi) w;have:=pU (Y:=Y) (X:=X) (Y':=k::wo Y j) (X':=k::wo X i) (oY.out h hj).nd (fun x hx hn=>by
       rcases az.mp hx with e|hx
       ·exact absurd (e▸au) hn
       ·obtain⟨h1,h2⟩:=fE.mp hx;exact⟨h1,fun q=>hn (aj _ (fE.mpr ⟨q,fun e=>hiY (e▸h1)⟩))⟩)
      exact⟨m+1,by omega,.out hX hf hi w'⟩
theorem mK(hr:0<room){r Y X:List Nat}{n:Nat}(oY:Ok room Y)(oX:Ok room X)(hs:∀x∈Y,x∈X)(w:Way room Y r n):∃m,m<=n/\Way room X r m:=by
 obtain⟨m,hm,w'⟩:=i6 hr r Y X n oY oX w;have:(diff Y X).length=0:=by
  rw[ft,List.filter_eq_nil_iff];intro x hx
  simpa using hs x hx
 exact⟨m,by omega,w'⟩
theorem xc{k x:Nat}{r:List Nat}(h:x≠k):dD (k::r) x=dD r x+1:=by
 unfold dD;rw[QD];have:(k==x)=false:=beq_eq_false_iff_ne.mpr fun e=>h e.symm;rw[this];rfl
theorem Hv{k:Nat}{r:List Nat}:dD (k::r) k=0:=by
 unfold dD;rw[QD,beq_self_eq_true];rfl
theorem uf(hr:0<room){a b:Nat}(hab:a≠b):∀(r Y X:List Nat) (n:Nat),Ok room Y->Ok room X->X.length=Y.length->a∈X-> ¬a∈Y->b∈Y-> ¬b∈X->(∀x,x≠a->x≠b->(x∈X↔x∈Y))->dD r a<=dD r b->Way room Y r n->∃m,m<=n/\Way room X r m
 |[],Y,X,n,_,_,_,_,_,_,_,_,_,w=>⟨0,aT _,.nil X⟩
 |k::r,Y,X,n,oY,oX,hlen,aX,aY,bY,bX,hs,hn,w=>by
  by_cases ka:k=a
  ·subst ka;cases w with
   |hit h w=>exact absurd h aY
   |put h hl w=>
    obtain⟨m,hm,w'⟩:=i6 hr r _ X _ (oY.put h hl) oX w;have:=pU (Y:=[b]) (X:=[]) (Y':=k::Y) (X':=X) (oY.put h hl).nd (fun x hx hq=>by
     rcases az.mp hx with e|hx
     ·exact absurd (e▸aX) hq
     ·refine⟨?_,Tq⟩;by_cases e:x=b
      ·rw[e];exact au
      ·exact absurd ((hs x (fun e=>hq (e▸aX)) e).mpr hx) hq)
    have h1:(diff [b] []).length=1:=rfl;exact⟨m,by omega,.hit aX w'⟩
   |@out _ _ j _ _ h hl hj w=>
    obtain⟨m,hm,w'⟩:=i6 hr r _ X _ (oY.out h hj) oX w;have:=pU (Y:=[b]) (X:=[]) (Y':=k::wo Y j) (X':=X) (oY.out h hj).nd (fun x hx hq=>by
     rcases az.mp hx with e|hx
     ·exact absurd (e▸aX) hq
     ·refine⟨?_,Tq⟩;by_cases e:x=b
      ·rw[e];exact au
      ·exact absurd ((hs x (fun e=>hq (e▸aX)) e).mpr (fE.mp hx).1) hq)
    have h1:(diff [b] []).length=1:=rfl;exact⟨m,by omega,.hit aX w'⟩
  ·have kb:k≠b:=fun e=>by
    subst e;rw[Hv,xc hab] at hn;omega
   have hn':dD r a<=dD r b:=by
    rw[xc (fun e=>ka e.symm),xc (fun e=>kb e.symm)] at hn;omega
   have hk:=hs k ka kb;cases w with
   |hit h w=>
    obtain⟨m,hm,w'⟩:=uf hr hab r Y X _ oY oX hlen aX aY bY bX hs hn' w;exact⟨m,hm,.hit (hk.mpr h) w'⟩
   |put h hl w=>
    have hX: ¬k∈X:=fun q=>h (hk.mp q);have SG:∀x,x≠a->x≠b->(x∈k::X↔x∈k::Y):=fun x h1 h2=>by
     rw[az,az,hs x h1 h2]
    obtain⟨m,hm,w'⟩:=uf hr hab r (k::Y) (k::X) _ (oY.put h hl) (oX.put hX (by omega)) (by rw[aQ,aQ,hlen]) (aj _ aX)
     (fun q=>(az.mp q).elim (fun e=>ka e.symm) aY) (aj _ bY) (fun q=>(az.mp q).elim (fun e=>kb e.symm) bX) SG hn' w
    exact⟨m+1,by omega,.put hX (by omega) w'⟩
   |@out _ _ j _ _ h hl hj w=>
    have hX: ¬k∈X:=fun q=>h (hk.mp q);by_cases jb:j=b
    ·subst jb;obtain⟨m,hm,w'⟩:=mK hr (oY.out h hj) (oX.out hX aX) (fun x hx=>by
      rcases az.mp hx with e|hx
      ·rw[e];exact au
      ·obtain⟨h1,h2⟩:=fE.mp hx;have xa:x≠a:=fun e=>aY (e▸h1);exact aj _ (fE.mpr ⟨(hs x xa h2).mpr h1,xa⟩)) w
     exact⟨m+1,by omega,.out hX (by omega) aX w'⟩
    ·have ja:j≠a:=fun e=>aY (e▸hj);have jX:j∈X:=(hs j ja jb).mpr hj;have l1:=yG oX.nd jX;have l2:=yG oY.nd hj;obtain⟨m,hm,w'⟩:=uf hr hab r (k::wo Y j) (k::wo X j) _ (oY.out h hj) (oX.out hX jX) (by rw[aQ,aQ];omega) (aj _ (fE.mpr ⟨aX,fun e=>ja e.symm⟩))
      (fun q=>(az.mp q).elim (fun e=>ka e.symm) fun q=>aY (fE.mp q).1) (aj _ (fE.mpr ⟨bY,fun e=>jb e.symm⟩)) (fun q=>(az.mp q).elim (fun e=>kb e.symm) fun q=>bX (fE.mp q).1)
      (fun x h1 h2=>by rw[az,az,fE,fE,hs x h1 h2]) hn' w
     exact⟨m+1,by omega,.out hX (by omega) jX w'⟩
theorem qe{r:List Nat}:∀{l:List Nat} {j:Nat},worst r l=some j->j∈l/\∀x∈l,dD r x<dD r j\/(dD r x=dD r j/\j<=x)
 |[],j,h=>by cases h
 |k::l,j,h=>by
  unfold worst at h;cases e:worst r l with
  |none=>
   rw[e] at h;have:l=[]:=by
    cases l with
    |nil=>rfl
    |cons a l=>
     exfalso;unfold worst at e;split at e
     ·cases e
     ·split at e<;>cases e
   subst this;cases aR h;exact⟨au,fun x hx=>by rw[bp.mp hx];exact .inr ⟨rfl,aL _⟩⟩
  |some i=>
   rw[e] at h;obtain⟨h1,h2⟩:=qe e;have h:(if dD r i<dD r k\/(dD r i=dD r k/\k<i) then some k else some i)=some j:=h;split at h
   ·cases aR h;refine⟨au,fun x hx=>?_⟩;rcases az.mp hx with e|hx
    ·rw[e];exact .inr ⟨rfl,aL _⟩
    ·have:=h2 x hx;omega
   ·cases aR h;refine⟨aj _ h1,fun x hx=>?_⟩;rcases az.mp hx with e|hx
    ·rw[e];omega
    ·exact h2 x hx
theorem yF{r:List Nat}:∀{l:List Nat},worst r l=none->l=[]
 |[],_=>rfl
 |a::l,e=>by
  exfalso;unfold worst at e;split at e
  ·cases e
  ·split at e<;>cases e
theorem JL{X:List Nat}(hr:0<room)(o:Ok room X)(k:Nat)(r:List Nat):Ok room (dH room X k r):=by
 unfold dH;by_cases h:X.contains k=true
 ·rw[if_pos h];exact o
 ·rw[if_neg h];have hk: ¬k∈X:=by simpa using h
  by_cases hl:X.length<room
  ·rw[if_pos hl];refine⟨eV.mpr ⟨o.nd,by simp,?_⟩,by rw[aJ];exact hl⟩;intro a ha b hb e;rw[bp.mp hb] at e;exact hk (e▸ha)
  ·rw[if_neg hl];cases e:worst r X with
   |none=>exact o
   |some j=>
    obtain⟨h1,_⟩:=qe e;refine⟨eV.mpr ⟨Nl o.nd j,by simp,?_⟩,by rw[aJ];have:=yG o.nd h1;have:=o.le;show(wo X j).length+1<=room;omega⟩;intro a ha b hb e;rw[bp.mp hb] at e;exact hk (e▸(fE.mp ha).1)
theorem DV(hr:0<room):∀(r X:List Nat) (n:Nat),Ok room X->Way room X r n->dy room X r<=n
 |[],X,n,_,_=>aT _
 |k::r,X,n,o,w=>by
  show(if X.contains k=true then 0 else 1)+dy room (dH room X k r) r<=n;have ob:=JL hr o k r;cases w with
  |hit h w=>
   have hc:X.contains k=true:=by simpa using h
   have:dH room X k r=X:=by unfold dH;rw[if_pos hc]
   rw[if_pos hc,this,lE];exact DV hr r X n o w
  |put h hl w=>
   have hc: ¬X.contains k=true:=by simpa using h
   have e:dH room X k r=X++[k]:=by unfold dH;rw[if_neg hc,if_pos hl]
   rw[e] at ob|-
   rw[if_neg hc];obtain⟨m,hm,w'⟩:=mK hr (o.put h hl) ob (fun x hx=>by
    rcases az.mp hx with e|hx
    ·rw[e];exact dB _ au
    ·exact gp _ hx) w
   have:=DV hr r _ m ob w';omega
  |@out _ _ j _ n' h hl hj w=>
   have hc: ¬X.contains k=true:=by simpa using h
   rw[if_neg hc];cases e:worst r X with
   |none=>rw[yF e] at hj;cases hj
   |some i=>
    obtain⟨hi,hw⟩:=qe e;have e:dH room X k r=wo X i++[k]:=by unfold dH;rw[if_neg hc,if_neg hl,e]
    rw[e] at ob|-
    have key:∃m,m<=n'/\Way room (wo X i++[k]) r m:=by
     by_cases ij:j=i
     ·subst ij;exact mK hr (o.out h hj) ob (fun x hx=>by
       rcases az.mp hx with e|hx
       ·rw[e];exact dB _ au
       ·exact gp _ hx) w
     ·have ki:k≠i:=fun q=>h (q▸hi);have kj:k≠j:=fun q=>h (q▸hj);have l1:=yG o.nd hi;have l2:=yG o.nd hj;refine uf hr (a:=j) (b:=i) ij r (k::wo X j) (wo X i++[k]) _ (o.out h hj) ob (by rw[aJ,aQ,aQ,TZ];omega) (gp _ (fE.mpr ⟨hj,ij⟩))
       (fun q=>(az.mp q).elim (fun e=>kj e.symm) fun q=>(fE.mp q).2 rfl) (aj _ (fE.mpr ⟨hi,fun e=>ij e.symm⟩)) (fun q=>(bQ.mp q).elim (fun q=>(fE.mp q).2 rfl) fun q=>ki (bp.mp q).symm) ?_ ?_ w
      ·intro x h1 h2;rw[bQ,bp,az,fE,fE];exact⟨fun q=>q.elim (fun q=>.inr ⟨q.1,h1⟩) .inl,fun q=>q.elim .inr fun q=>.inl ⟨q.1,h2⟩⟩
      ·have:=hw j hj;omega
    obtain⟨m,hm,w'⟩:=key;have:=DV hr r _ m ob w';omega
theorem Lq(hr:0<room):∀(r X:List Nat),Ok room X->∃m,m<=dy room X r/\Way room X r m
 |[],X,_=>⟨0,aT _,.nil X⟩
 |k::r,X,o=>by
  show ∃m,m<=(if X.contains k=true then 0 else 1)+dy room (dH room X k r) r/\Way room X (k::r) m;have ob:=JL hr o k r;obtain⟨m,hm,w⟩:=Lq hr r _ ob;by_cases hc:X.contains k=true
  ·have:dH room X k r=X:=by unfold dH;rw[if_pos hc]
   rw[this] at w;exact⟨m,by omega,.hit (by simpa using hc) w⟩
  ·have h: ¬k∈X:=by simpa using hc
   rw[if_neg hc];by_cases hl:X.length<room
   ·have e:dH room X k r=X++[k]:=by unfold dH;rw[if_neg hc,if_pos hl]
    rw[e] at ob w;obtain⟨m',V8,w'⟩:=mK hr ob (o.put h hl) (fun x hx=>by
     rcases bQ.mp hx with hx|hx
     ·exact aj _ hx
     ·rw[bp.mp hx];exact au) w
    exact⟨m'+1,by omega,.put h hl w'⟩
   ·cases e:worst r X with
    |none=>
     have:=yF e;subst this;exact absurd hr hl
    |some i=>
     obtain⟨hi,hw⟩:=qe e;have e:dH room X k r=wo X i++[k]:=by unfold dH;rw[if_neg hc,if_neg hl,e]
     rw[e] at ob w;obtain⟨m',V8,w'⟩:=mK hr ob (o.out h hi) (fun x hx=>by
      rcases bQ.mp hx with hx|hx
      ·exact aj _ hx
      ·rw[bp.mp hx];exact au) w
     exact⟨m'+1,by omega,.out h hl hi w'⟩
variable{room:Nat}
theorem uG{x a:Nat}:∀{l:List Nat},a∈insertUp x l↔a=x\/a∈l
 |[]=>by simp[insertUp]
 |y::r=>by
  unfold insertUp;split
  ·simp
  ·split
   ·rename_i h;subst h;simp
   ·rw[az,uG,az];exact⟨fun q=>q.elim (fun q=>.inr (.inl q)) fun q=>q.elim .inl fun q=>.inr (.inr q),fun q=>q.elim (fun q=>.inr (.inl q)) fun q=>q.elim .inl fun q=>.inr (.inr q)⟩
theorem uJ{x:Nat}:∀{l:List Nat},¬x∈l->(insertUp x l).length=l.length+1
 |[],_=>rfl
 |y::r,h=>by
  rw[az,not_or] at h;unfold insertUp;split
  ·rfl
  ·rw[if_neg h.1,aQ,uJ h.2,aQ]
theorem wG{x:Nat}:∀{l:List Nat},¬x∈l->l.Nodup->(insertUp x l).Nodup
 |[],_,_=>by simp[insertUp]
 |y::r,h,hn=>by
  rw[az,not_or] at h;obtain⟨h1,h2⟩:=bG.mp hn;unfold insertUp;split
  ·exact bG.mpr ⟨fun q=>(az.mp q).elim h.1 h.2,hn⟩
  ·rw[if_neg h.1];exact bG.mpr ⟨fun q=>(uG.mp q).elim (fun e=>h.1 e.symm) h1,wG h.2 h2⟩
theorem ND{s:List Nat}{n:Nat}:∀{a:List (List Nat×Nat)} {x:List Nat×Nat},x∈putState s n a->x∈a\/x=(s,n)
 |[],x,h=>.inr (bp.mp h)
 |y::r,x,h=>by
  unfold putState at h;split at h
  ·rename_i q;have q:y.1=s:=by simpa using q
   rcases az.mp h with e|h
   ·by_cases z:y.2<=n
    ·rw[gB z] at e;exact .inl (by rw[e,<-q];exact au)
    ·rw[lF (by omega)] at e;exact .inr e
   ·exact .inl (aj _ h)
  ·rcases az.mp h with e|h
   ·exact .inl (by rw[e];exact au)
   ·exact(ND h).elim (fun q=>.inl (aj _ q)) .inr
theorem Bh{s:List Nat}{n:Nat}:∀{a:List (List Nat×Nat)} {x:List Nat×Nat},x∈a\/x=(s,n)->∃y∈putState s n a,y.1=x.1/\y.2<=x.2
 |[],x,h=>by
  rcases h with h|h
  ·cases h
  ·exact⟨(s,n),au,by rw[h],by rw[h];exact aL _⟩
 |z::r,x,h=>by
  unfold putState;split
  ·rename_i q;have q:z.1=s:=by simpa using q
   rcases h with h|h
   ·rcases az.mp h with e|h
    ·exact⟨_,au,by rw[e];exact q.symm,by rw[e];exact VI _ _⟩
    ·exact⟨x,aj _ h,rfl,aL _⟩
   ·exact⟨_,au,by rw[h],by rw[h];exact TQ _ _⟩
  ·rcases h with h|h
   ·rcases az.mp h with e|h
    ·exact⟨z,au,by rw[e],by rw[e];exact aL _⟩
    ·obtain⟨y,h1,h2⟩:=Bh (s:=s) (n:=n) (a:=r) (.inl h);exact⟨y,aj _ h1,h2⟩
   ·obtain⟨y,h1,h2⟩:=Bh (s:=s) (n:=n) (a:=r) (.inr h);exact⟨y,aj _ h1,h2⟩
def merge(l a:List (List Nat×Nat)):List (List Nat×Nat):=l.foldl (fun a x=>putState x.1 x.2 a) a
theorem Br:∀{l a:List (List Nat×Nat)} {x:List Nat×Nat},x∈merge l a->x∈a\/x∈l
 |[],a,x,h=>.inl h
 |y::l,a,x,h=>by
  have h:x∈merge l (putState y.1 y.2 a):=h;rcases Br h with h|h
  ·exact(ND h).elim .inl fun e=>.inr (by rw[e];exact au)
  ·exact .inr (aj _ h)
theorem wC:∀{l a:List (List Nat×Nat)} {x:List Nat×Nat},x∈a\/x∈l->∃y∈merge l a,y.1=x.1/\y.2<=x.2
 |[],a,x,h=>by
  rcases h with h|h
  ·exact⟨x,h,rfl,aL _⟩
  ·cases h
 |z::l,a,x,h=>by
  show ∃y∈merge l (putState z.1 z.2 a),y.1=x.1/\y.2<=x.2;have h':(x∈a\/x=(z.1,z.2))\/x∈l:=by
   rcases h with h|h
   ·exact .inl (.inl h)
   ·rcases az.mp h with e|h
    ·exact .inl (.inr e)
    ·exact .inr h
  rcases h' with h'|h'
  ·obtain⟨y,h1,h2,h3⟩:=Bh h';obtain⟨u,g1,g2,g3⟩:=wC (l:=l) (a:=putState z.1 z.2 a) (x:=y) (.inl h1);exact⟨u,g1,g2.trans h2,aD g3 h3⟩
  ·exact wC (.inr h')
def Kj(room:Nat)(l:List (List Nat×Nat))(k:Nat):List (List Nat×Nat):=merge (l.flatMap (jj room k)) []
theorem DK{k:Nat}{x y:List Nat×Nat}(o:Ok room x.1)(h:y∈jj room k x):Ok room y.1:=by
 unfold jj at h;split at h
 ·rw[bp.mp h];exact o
 ·rename_i hc;have hk: ¬k∈x.1:=by simpa using hc
  split at h
  ·rename_i hl;rw[bp.mp h];exact⟨wG hk o.nd,by show(insertUp k x.1).length<=room;rw[uJ hk];exact hl⟩
  ·obtain⟨j,hj,e⟩:=bz.mp h;rw[<-e];have hk2: ¬k∈wo x.1 j:=fun q=>hk (fE.mp q).1;refine⟨wG hk2 (Nl o.nd j),?_⟩;show(insertUp k (wo x.1 j)).length<=room;rw[uJ hk2,yG o.nd hj];exact o.le
theorem NB{k:Nat}{l:List (List Nat×Nat)}(o:∀x∈l,Ok room x.1):∀y∈Kj room l k,Ok room y.1:=fun y h=>by
 rcases Br h with h|h
 ·cases h
 ·obtain⟨x,hx,h⟩:=b7.mp h;exact DK (o x hx) h
theorem zY{k:Nat}{X:List Nat}:∀x,x∈insertUp k X↔x∈k::X:=fun x=>by rw[uG,az]
theorem QM(hr:0<room){k:Nat}{r:List Nat}{x y:List Nat×Nat}{m:Nat}(o:Ok room x.1)(h:y∈jj room k x)(w:Way room y.1 r m):∃m',x.2+m'<=y.2+m/\Way room x.1 (k::r) m':=by
 have oy:=DK o h;unfold jj at h;split at h
 ·rename_i hc;have e:=bp.mp h;rw[e] at w|-
  exact⟨m,aL _,.hit (by simpa using hc) w⟩
 ·rename_i hc;have hk: ¬k∈x.1:=by simpa using hc
  split at h
  ·rename_i hl;have e:=bp.mp h;rw[e] at w oy|-
   obtain⟨m',hm,w'⟩:=mK hr oy (o.put hk hl) (fun z=>(zY z).mp) w;exact⟨m'+1,by show x.2+(m'+1)<=x.2+1+m;omega,.put hk hl w'⟩
  ·rename_i hl;obtain⟨j,hj,e⟩:=bz.mp h;rw[<-e] at w oy|-
   obtain⟨m',hm,w'⟩:=mK hr oy (o.out hk hj) (fun z=>(zY z).mp) w;exact⟨m'+1,by show x.2+(m'+1)<=x.2+1+m;omega,.out hk hl hj w'⟩
theorem WG(hr:0<room){k:Nat}{r:List Nat}{x:List Nat×Nat}{m:Nat}(o:Ok room x.1)(w:Way room x.1 (k::r) m):∃y∈jj room k x,∃m',y.2+m'<=x.2+m/\Way room y.1 r m':=by
 cases w with
 |hit h w=>
  have hc:x.1.contains k=true:=by simpa using h
  refine⟨x,?_,m,aL _,w⟩;unfold jj;rw[if_pos hc];exact au
 |put h hl w=>
  have hc: ¬x.1.contains k=true:=by simpa using h
  have hm:(insertUp k x.1,x.2+1)∈jj room k x:=by
   unfold jj;rw[if_neg hc,if_pos hl];exact au
  obtain⟨m',V8,w'⟩:=mK hr (o.put h hl) (DK o hm) (fun z=>(zY z).mpr) w;exact⟨_,hm,m',by show x.2+1+m'<=_;omega,w'⟩
 |@out _ _ j _ _ h hl hj w=>
  have hc: ¬x.1.contains k=true:=by simpa using h
  have hm:(insertUp k (wo x.1 j),x.2+1)∈jj room k x:=by
   unfold jj;rw[if_neg hc,if_neg hl];exact bz.mpr ⟨j,hj,rfl⟩
  obtain⟨m',V8,w'⟩:=mK hr (o.out h hj) (DK o hm) (fun z=>(zY z).mpr) w;exact⟨_,hm,m',by show x.2+1+m'<=_;omega,w'⟩
theorem Lv(hr:0<room):∀(r:List Nat) (A:List (List Nat×Nat)),(∀x∈A,Ok room x.1)->∀x∈r.foldl (Kj room) A,∃y∈A,∃m,y.2+m<=x.2/\Way room y.1 r m
 |[],A,_,x,h=>⟨x,h,0,aL _,.nil _⟩
 |k::r,A,o,x,h=>by
  obtain⟨y,hy,m,hm,w⟩:=Lv hr r (Kj room A k) (NB o) x h;rcases Br hy with q|hy
  ·cases q
  ·obtain⟨z,hz,hy⟩:=b7.mp hy;obtain⟨m',V8,w'⟩:=QM hr (o z hz) hy w;exact⟨z,hz,m',aD V8 hm,w'⟩
theorem S7(hr:0<room):∀(r:List Nat) (A:List (List Nat×Nat)),(∀x∈A,Ok room x.1)->∀y∈A,∀m,Way room y.1 r m->∃x∈r.foldl (Kj room) A,x.2<=y.2+m
 |[],A,_,y,h,m,_=>⟨y,h,dM _ _⟩
 |k::r,A,o,y,h,m,w=>by
  obtain⟨z,hz,m',V8,w'⟩:=WG hr (o y h) w;obtain⟨u,hu,e,hle⟩:=wC (l:=A.flatMap (jj room k)) (a:=[]) (.inr (b7.mpr ⟨y,h,hz⟩));rw[<-e] at w';obtain⟨x,hx,V2⟩:=S7 hr r (Kj room A k) (NB o) u hu m' w';exact⟨x,hx,by omega⟩
def xf(b:Option Nat)(x:List Nat×Nat):Option Nat:=match b with
 |none=>some x.2
 |some n=>some (min n x.2)
theorem Fl:∀(A:List (List Nat×Nat)) (n:Nat),∃m,A.foldl xf (some n)=some m/\(m=n\/∃x∈A,x.2=m)/\m<=n/\∀x∈A,m<=x.2
 |[],n=>⟨n,rfl,.inl rfl,aL _,fun x h=>nomatch h⟩
 |a::A,n=>by
  obtain⟨m,h1,h2,h3,h4⟩:=Fl A (min n a.2);refine⟨m,h1,?_,aD h3 (VI _ _),fun x hx=>?_⟩
  ·rcases h2 with h2|⟨x,hx,h2⟩
   ·by_cases q:n<=a.2
    ·rw[gB q] at h2;exact .inl h2
    ·rw[lF (by omega)] at h2;exact .inr ⟨a,au,h2.symm⟩
   ·exact .inr ⟨x,aj _ hx,h2⟩
  ·rcases az.mp hx with e|hx
   ·rw[e];exact aD h3 (TQ _ _)
   ·exact h4 x hx
theorem RJ{A:List (List Nat×Nat)}{n:Nat}(hn:∃x∈A,x.2<=n)(hl:∀x∈A,n<=x.2):(A.foldl xf none).getD 0=n:=by
 cases A with
 |nil=>obtain⟨x,h,_⟩:=hn;cases h
 |cons a A=>
  obtain⟨m,h1,h2,h3,h4⟩:=Fl A a.2;have e:(a::A).foldl xf none=some m:=h1;rw[e];show m=n;obtain⟨x,hx,hxn⟩:=hn;have u1:m<=n:=by
   rcases az.mp hx with e|hx
   ·rw[e] at hxn;omega
   ·have:=h4 x hx;omega
  have u2:n<=m:=by
   rcases h2 with h2|⟨y,hy,h2⟩
   ·rw[h2];exact hl a au
   ·rw[<-h2];exact hl y (aj _ hy)
  omega
theorem PV(hr:0<room)(r:List Nat):Dz room r=dy room [] r:=by
 have o0:Ok room []:=⟨nF,aT _⟩;have oA:∀x∈[(([]:List Nat),0)],Ok room x.1:=fun x h=>by rw[bp.mp h];exact o0
 show((allWays room r).foldl xf none).getD 0=_;refine RJ ?_ ?_
 ·obtain⟨m,hm,w⟩:=Lq hr r [] o0;obtain⟨x,hx,h⟩:=S7 hr r [([],0)] oA ([],0) au m w;exact⟨x,hx,by show x.2<=_;have:x.2<=0+m:=h;omega⟩
 ·intro x hx;obtain⟨y,hy,m,hm,w⟩:=Lv hr r [([],0)] oA x hx;have e:=bp.mp hy;rw[e] at hm w;have:=DV hr r [] m o0 w;have hm:0+m<=x.2:=hm;omega
end Bm
namespace Rm
open Vbtkaj
theorem Hm:∀l:List Int,lD l=((l.zip (l.drop 1)).all fun p=>decide (p.1<=p.2))
 |[]=>rfl
 |[_]=>rfl
 |a::b::r=>by
  show(decide (a<=b)&&lD (b::r))=_;rw[Hm (b::r)];rfl
theorem Ft{x lo hi:Int}:aO x lo hi=true↔lo<=x/\x<=hi:=by unfold aO;simp
abbrev aki(l:List Nat):List Int:=l.map fun n:Nat=>(n:Int)
theorem Hx:∀{l:List Int},(∀x∈l,0<=x)->aki (nats l)=l
 |[],_=>rfl
 |a::l,h=>by
  show((a.toNat:Nat):Int)::aki (nats l)=a::l;rw[Hx fun x hx=>h x (aj _ hx),gQ (h a au)]
theorem zX:∀{l:List Int},lD l=true->l.Pairwise (· <= ·)
 |[],_=>Zo
 |[a],_=>List.pairwise_singleton _ _
 |a::b::r,h=>by
  have h:(decide (a<=b)&&lD (b::r))=true:=h;rw[aW,decide_eq_true_eq] at h;have ih:=zX h.2;refine jJ.mpr ⟨fun x hx=>?_,ih⟩;rcases az.mp hx with e|hx
  ·rw[e];exact h.1
  ·exact Int.le_trans h.1 ((jJ.mp ih).1 x hx)
theorem Jn{l:List Int}(h:l.Pairwise (· <= ·)):(nats l).Pairwise (· <= ·):=List.pairwise_map.mpr (h.imp fun{a b} q=>Int.toNat_le_toNat q)
theorem oi{l:List Int}{n:Nat}{top:Int}(h:fg l n top=true):l.length<=n/\∀x∈l,0<=x/\x<=top:=by
 unfold fg at h;rw[aW,decide_eq_true_eq] at h;exact⟨h.1,fun x hx=>Ft.mp (gY.mp h.2 x hx)⟩
theorem lP(l:List Int):(nats l).length=l.length:=ab _
theorem RA{l:List Int}{top:Nat}(h:∀x∈l,0<=x/\x<=(top:Int)):∀n∈nats l,n<=top:=fun n hn=>by
 obtain⟨x,hx,e⟩:=bz.mp hn;have:=h x hx;omega
theorem C6{room:Nat}{l keys:List Nat}{i k:Nat}(h:keys[i]?=some k):missesLate room l (keys.drop i)=(if l.contains k=true then 0 else 1)+missesLate room (f_ room l k) (keys.drop (i+1)):=by
 obtain⟨hi,e⟩:=aP.mp h;rw[fU hi,e];rfl
theorem C5{room:Nat}{l keys:List Nat}{i k:Nat}(h:keys[i]?=some k):ir room l (keys.drop i)=(if l.contains k=true then 0 else 1)+ir room (useTurn room l k) (keys.drop (i+1)):=by
 obtain⟨hi,e⟩:=aP.mp h;rw[fU hi,e];rfl
theorem C7{room:Nat}{l keys:List Nat}{i k:Nat}(h:keys[i]?=some k):dy room l (keys.drop i)=(if l.contains k=true then 0 else 1)+dy room (dH room l k (keys.drop (i+1))) (keys.drop (i+1)):=by
 obtain⟨hi,e⟩:=aP.mp h;rw[fU hi,e];rfl
def front(l:List Nat)(k:Nat):List Nat:=k::l.filter fun x=>x !=k
theorem Lh{l keys:List Nat}{i k:Nat}(h:keys[i]?=some k):stackDepths l (keys.drop i)=(if l.contains k=true then some (l.findIdx fun x=>x==k) else none)::stackDepths (front l k) (keys.drop (i+1)):=by
 obtain⟨hi,e⟩:=aP.mp h;rw[fU hi,e];rfl
theorem xh(l:List Nat)(k:Nat):(front l k).length<=l.length+1:=by
 unfold front;rw[aQ];exact Nat.succ_le_succ (bh _ _)
theorem zb:∀(r l:List Nat),(stackDepths l r).length=r.length
 |[],_=>rfl
 |_::r,_=>by
  unfold stackDepths;rw[aQ,zb r,aQ]
def again(keys:List Nat)(i:Nat):Nat:=i+1+dD (keys.drop (i+1)) (keys.getD i 0)
theorem DL{keys:List Nat}{i k:Nat}(h:keys[i]?=some k)(x:Nat):i+dD (keys.drop i) x=if x=k then i else i+1+dD (keys.drop (i+1)) x:=by
 obtain⟨hi,e⟩:=aP.mp h;rw[fU hi,e];split
 ·rename_i q;rw[q,Bm.Hv];rfl
 ·rename_i q;rw[Bm.xc q];omega
theorem Lw{keys:List Nat}{i k:Nat}(h:keys[i]?=some k):again keys i=i+1+dD (keys.drop (i+1)) k:=by
 unfold again;rw[bo,h,lx]
theorem QJ{r l:List Nat}{j:Nat}(hj:j∈l)(h:∀x∈l,dD r x<dD r j\/(dD r x=dD r j/\j<=x)):worst r l=some j:=by
 cases e:worst r l with
 |none=>rw[Bm.yF e] at hj;cases hj
 |some i=>
  obtain⟨h1,h2⟩:=Bm.qe e;have a:=h i h1;have b:=h2 j hj;have:i=j:=by omega
  rw[this]
theorem RE{l:List Nat}{m:Nat}(h1:m∈l)(h2:∀y∈l,y<=m):l.foldl max 0=m:=by
 refine Gk ((Gm.pT l 0).mpr ⟨aT _,h2⟩) ?_;exact((Gm.pT l 0 (n:=l.foldl max 0)).mp (aL _)).2 m h1
end Rm
namespace Dm
open Vbtkaj
theorem tQ{f:Tree->Nat->Tree}(hf:∀t i,(f t i).now=t.now):∀(l:List Nat) (t:Tree),(l.foldl f t).now=t.now
 |[],_=>rfl
 |a::l,t=>by rw[cP,tQ hf l,hf]
theorem A7:∀(n:Nat) (t:Tree) (i:Nat),(startAt n t i).now=t.now
 |0,_,_=>rfl
 |n+1,t,i=>by
  unfold startAt;split
  ·rfl
  ·exact tQ (A7 n) _ _
theorem zC:∀(n:Nat) (t:Tree) (i:Nat),(stopAt n t i).now=t.now
 |0,_,_=>rfl
 |n+1,t,i=>by
  unfold stopAt;split
  ·rfl
  ·exact tQ (zC n) _ _
theorem J9:∀(n:Nat) (t:Tree) (i:Nat) (f:Bool),(wentDown n t i f).now=t.now
 |0,_,_,_=>rfl
 |n+1,t,i,f=>by
  unfold wentDown
  dsimp only
  split
  ·rfl
  ·split
   ·rfl
   ·split
    ·rw[J9 n];exact tQ (zC DEEP) _ _
    ·rw[tQ (A7 DEEP),tQ (zC DEEP)];rfl
def isT:Call->Bool
 |.keeper .. =>true
 |.worker .. =>true
 |.boot .. =>true
 |.down .. =>true
 |.halt .. =>true
 |.node .. =>true
 |.log .. =>true
 |.ups=>true
 |_=>false
def RR:Call->Bool
 |.settings .. =>true
 |.ask .. =>true
 |.finish .. =>true
 |.fail .. =>true
 |.leave .. =>true
 |.forget .. =>true
 |.kept=>true
 |.works=>true
 |.breaker .. =>true
 |.counts=>true
 |_=>false
abbrev t0(t:Tree):State:={tree:=t,store:=store0}
theorem P1(S:State)(c:Call)(h:isT c=true):does S c=({tree:=(does (t0 S.tree) c).1.tree,store:=S.store},(does (t0 S.tree) c).2):=by
 obtain⟨t,st⟩:=S;show does ⟨t,st⟩ c=({tree:=(does ⟨t,store0⟩ c).1.tree,store:=st},(does ⟨t,store0⟩ c).2);cases c with
 |keeper p hw n w a=>
  have e:∀st:Store,does ⟨t,st⟩ (.keeper p hw n w a)=if(aO hw 0 2&&(aO n 0 20&&(aO w 1 1000&&aO a 0 2)))=false then(⟨t,st⟩,[-1]) else match je (t0 t) p with
   |some e=>(⟨t,st⟩,[e])
   |none=>G9 ⟨t,st⟩ {LV with parent:=DZ (t0 t) p,keeper:=true,how:=hw.toNat,times:=n.toNat,within:=w.toNat,again:=a.toNat}:=fun _=>rfl
  rw[e st,e store0];by_cases q:(aO hw 0 2&&(aO n 0 20&&(aO w 1 1000&&aO a 0 2)))=false
  ·rw[if_pos q,if_pos q]
  ·rw[if_neg q,if_neg q];cases je (t0 t) p<;>rfl
 |worker p a=>
  have e:∀st:Store,does ⟨t,st⟩ (.worker p a)=if aO a 0 2=false then(⟨t,st⟩,[-1]) else match je (t0 t) p with
   |some e=>(⟨t,st⟩,[e])
   |none=>if t.nodes.isEmpty=true then(⟨t,st⟩,[-6]) else G9 ⟨t,st⟩ {LV with parent:=DZ (t0 t) p,again:=a.toNat}:=fun _=>rfl
  rw[e st,e store0];by_cases q:aO a 0 2=false
  ·rw[if_pos q,if_pos q]
  ·rw[if_neg q,if_neg q];cases je (t0 t) p with
   |some _=>rfl
   |none=>
    by_cases z:t.nodes.isEmpty=true
    ·simp only[if_pos z]
    ·simp only[if_neg z];rfl
 |boot i=>
  have e:∀st:Store,does ⟨t,st⟩ (.boot i)=if qQ (t0 t) i=false then(⟨t,st⟩,[-2]) else if(af t i.toNat).up=true then(⟨t,st⟩,[-4]) else if(af t i.toNat).parent≠i.toNat/\(af t (af t i.toNat).parent).up=false then(⟨t,st⟩,[-5]) else(⟨startAt DEEP t i.toNat,st⟩,0::since t (startAt DEEP t i.toNat)):=fun _=>rfl
  rw[e st,e store0];by_cases q:qQ (t0 t) i=false
  ·rw[if_pos q,if_pos q]
  ·rw[if_neg q,if_neg q];by_cases q2:(af t i.toNat).up=true
   ·rw[if_pos q2,if_pos q2]
   ·rw[if_neg q2,if_neg q2];by_cases q3:(af t i.toNat).parent≠i.toNat/\(af t (af t i.toNat).parent).up=false
    ·rw[if_pos q3,if_pos q3]
    ·rw[if_neg q3,if_neg q3]
 |down i f=>
  have e:∀st:Store,does ⟨t,st⟩ (.down i f)=if qQ (t0 t) i=false then(⟨t,st⟩,[-2]) else if aO f 0 1=false then(⟨t,st⟩,[-1]) else if(af t i.toNat).keeper=true then(⟨t,st⟩,[-6]) else if(af t i.toNat).up=false then(⟨t,st⟩,[-4]) else
   (let u:=wentDown DEEP (tell (fe t i.toNat {af t i.toNat with up:=false}) i.toNat (if f=1 then 3 else 2)) i.toNat (f==1);(⟨u,st⟩,0::since t u)):=fun _=>rfl
  rw[e st,e store0];by_cases q:qQ (t0 t) i=false
  ·rw[if_pos q,if_pos q]
  ·rw[if_neg q,if_neg q];by_cases q2:aO f 0 1=false
   ·rw[if_pos q2,if_pos q2]
   ·rw[if_neg q2,if_neg q2];by_cases q3:(af t i.toNat).keeper=true
    ·rw[if_pos q3,if_pos q3]
    ·rw[if_neg q3,if_neg q3];by_cases q4:(af t i.toNat).up=false
     ·rw[if_pos q4,if_pos q4]
     ·rw[if_neg q4,if_neg q4]
 |halt i=>
  have e:∀st:Store,does ⟨t,st⟩ (.halt i)=if qQ (t0 t) i=false then(⟨t,st⟩,[-2]) else if(af t i.toNat).up=false then(⟨t,st⟩,[-4]) else
   (let v:=stopAt DEEP t i.toNat;let u:=fe v i.toNat {af v i.toNat with byHand:=true};(⟨u,st⟩,0::since t u)):=fun _=>rfl
  rw[e st,e store0];by_cases q:qQ (t0 t) i=false
  ·rw[if_pos q,if_pos q]
  ·rw[if_neg q,if_neg q];by_cases q2:(af t i.toNat).up=false
   ·rw[if_pos q2,if_pos q2]
   ·rw[if_neg q2,if_neg q2]
 |node i=>
  have e:∀st:Store,does ⟨t,st⟩ (.node i)=(⟨t,st⟩,(does ⟨t,store0⟩ (.node i)).2):=fun st=>by
   show(if qQ (t0 t) i=false then _ else _:State×List Int)=(_,(if qQ (t0 t) i=false then _ else _:State×List Int).2);by_cases q:qQ (t0 t) i=false
   ·rw[if_pos q,if_pos q]
   ·rw[if_neg q,if_neg q]
  rw[e st];congr 1;have:=congrArg (fun x=>x.1.tree) (e store0);exact congrArg (fun z=>(LB z st)) this.symm
 |log f=>
  have e:∀st:Store,does ⟨t,st⟩ (.log f)=(⟨t,st⟩,(does ⟨t,store0⟩ (.log f)).2):=fun st=>by
   show(if aO f 0 1000000=false then _ else _:State×List Int)=(_,(if aO f 0 1000000=false then _ else _:State×List Int).2);by_cases q:aO f 0 1000000=false
   ·rw[if_pos q,if_pos q]
   ·rw[if_neg q,if_neg q]
  rw[e st];congr 1;have:=congrArg (fun x=>x.1.tree) (e store0);exact congrArg (fun z=>(LB z st)) this.symm
 |ups=>rfl
 |_=>exact a0 h
theorem QU(S:State)(c:Call)(h:isT c=true):(does S c).1.tree.now=S.tree.now:=by
 obtain⟨t,st⟩:=S;cases c with
 |keeper p hw n w a=>
  rw[does];split
  ·rfl
  ·split<;>rfl
 |worker p a=>
  rw[does];split
  ·rfl
  ·split
   ·rfl
   ·split<;>rfl
 |boot i=>
  rw[does];unfold iU;split
  ·rfl
  ·dsimp only
   split
   ·rfl
   ·split
    ·rfl
    ·exact A7 _ _ _
 |down i f=>
  rw[does];unfold iU;split
  ·rfl
  ·dsimp only
   split
   ·rfl
   ·split
    ·rfl
    ·split
     ·rfl
     ·exact J9 _ _ _ _
 |halt i=>
  rw[does];unfold iU;split
  ·rfl
  ·dsimp only
   split
   ·rfl
   ·exact zC _ _ _
 |node i=>
  rw[does];unfold iU;split<;>rfl
 |log f=>
  rw[does];split<;>rfl
 |ups=>rfl
 |_=>exact a0 h
theorem SQ{s:Store}{b:Breaker}{t:Store}(ht:t.breakers=j4 s b)(h0:b.faults=0->b.till=0)(hb:b.faults<=(b0 s b.key).faults+1)(k:Nat):(b0 t k).faults<=(b0 s k).faults+1:=by
 rw[Sm.wU s b k t ht h0];split
 ·rename_i e;rw[e];exact hb
 ·exact fT _
theorem S0(s:Store)(key:Nat):(ask s key).1.breakers=s.breakers/\(ask s key).1.now=s.now:=by
 unfold ask
 dsimp only
 split
 ·exact⟨rfl,rfl⟩
 ·split
  ·exact⟨rfl,rfl⟩
  ·split<;>exact⟨rfl,rfl⟩
theorem Yf{s:Store}(W:Sm.oG s){key:Nat}(hk:key<=99)(ha:s.asks<100):Sm.oG (ask s key).1:=by
 unfold ask
 dsimp only
 split
 ·rename_i k e;exact Sm.XH W (Sm.KU e).1 ha
 ·split
  ·exact Sm.U0 W key ha
  ·rename_i e;split
   ·exact Sm.VY W ha
   ·exact Sm.SS W hk e ha
theorem Pu{k:Int}(h: ¬fK k=false):k.toNat<=99:=by
 have h:fK k=true:=by simpa using h
 unfold fK aO at h;simp at h;omega
structure Kept(S S':State):Prop where
 tree:S'.tree=S.tree
 wf:Sm.oG S'.store
 now:S'.store.now=S.store.now
 Vn:∀k,(b0 S'.store k).faults<=(b0 S.store k).faults+1
theorem Kept.same{S:State}(W:Sm.oG S.store):Kept S S:=⟨rfl,W,rfl,fun _=>fT _⟩
theorem MT(S:State)(c:Call)(h:RR c=true)(W:Sm.oG S.store):Kept S (does S c).1:=by
 obtain⟨t,st⟩:=S;have W:Sm.oG st:=W;cases c with
 |settings r a l b m=>
  rw[does];split
  ·exact .same W
  ·rename_i hc;have hr:r.toNat<=8:=by
    have hc:(aO r 1 8&&(aO a 0 1000&&(aO l 0 5&&(aO b 1 100&&aO m 1 1000))))=true:=by simpa using hc
    rw[aW] at hc;have:=hc.1;unfold aO at this;simp at this;omega
   exact⟨rfl,Sm.Ko W hr,rfl,fun _=>fT _⟩
 |ask k=>
  rw[does];split
  ·exact .same W
  ·rename_i hk;split
   ·exact .same W
   ·rename_i ha;have ha:st.asks<100:=Nat.lt_of_not_le ha;have e:=S0 st k.toNat;refine⟨rfl,Yf W (Pu hk) ha,e.2,fun j=>?_⟩;show(b0 (eK st k.toNat).1 j).faults<=_;unfold b0;rw[e.1];exact fT _
 |finish k v=>
  rw[does];split
  ·exact .same W
  ·unfold onWork;split
   ·exact .same W
   ·split
    ·exact .same W
    ·rename_i w hw;exact⟨rfl,Sm.PU W (Sm.kF hw).1 v,rfl,fun j=>SQ (b:=⟨w.key,0,0⟩) rfl (fun _=>rfl) (aT _) j⟩
 |fail k=>
  rw[does];unfold onWork;split
  ·exact .same W
  ·split
   ·exact .same W
   ·rename_i w hw;exact⟨rfl,Sm.Vo W w,rfl,fun j=>SQ (s:=st) (b:=⟨w.key,(b0 st w.key).faults+1,if 0<st.limit/\st.limit<=(b0 st w.key).faults+1 then st.now+qP st ((b0 st w.key).faults+1) else 0⟩) rfl (fun q=>absurd q (Nat.succ_ne_zero _)) (aL _) j⟩
 |leave a=>
  rw[does];split
  ·exact .same W
  ·split
   ·exact .same W
   ·exact⟨rfl,Sm.RI W _,rfl,fun _=>fT _⟩
 |forget k=>
  rw[does];split
  ·exact .same W
  ·exact⟨rfl,Sm.PQ W _,rfl,fun _=>fT _⟩
 |kept=>exact .same W
 |works=>exact .same W
 |breaker k=>
  rw[does];split<;>exact .same W
 |counts=>exact .same W
 |_=>exact a0 h
theorem wL{α:Type}{f:α->List Int}{n:Nat}:∀l:List α,(∀a∈l,(f a).length<=n)->(l.flatMap f).length<=n*l.length
 |[],_=>aT _
 |a::l,hf=>by
  have:=wL l fun b hb=>hf b (aj _ hb);have:=hf a au;rw[bU,aJ,aQ,Me];omega
theorem OS(a b:Tree):(since a b).length<=1+2*(b.log.length -a.log.length):=by
 show(_::(b.log.drop a.log.length).flatMap _).length<=_;rw[aQ];have:=wL (n:=2) (f:=fun e:Event=>[nat e.node,nat e.kind]) (b.log.drop a.log.length) fun _ _=>aL _;rw[cY] at this;omega
theorem jt(l:List Nat):(listed l).length=l.length+1:=by unfold listed;rw[aQ,ab]
theorem QV(S:State)(c:Call)(h:isT c=true)(md:(does S c).1.tree.log.length<=S.tree.log.length+5000)(wH:∀j,(af S.tree j).starts.length<=20)(hn:S.tree.nodes.length<=20):(does S c).2.length<=20000:=by
 obtain⟨t,st⟩:=S;have wH:∀j,(af t j).starts.length<=20:=wH;have hn:t.nodes.length<=20:=hn;have fin:∀u:Tree,u.log.length<=t.log.length+5000->(0::since t u).length<=20000:=fun u hu=>by
  have:=OS t u;rw[aQ];omega
 cases c with
 |keeper p hw n w a=>
  rw[does];split
  ·show 1<=20000;decide
  ·split
   ·show 1<=20000;decide
   ·show 2<=20000;decide
 |worker p a=>
  rw[does];split
  ·show 1<=20000;decide
  ·split
   ·show 1<=20000;decide
   ·split
    ·show 1<=20000;decide
    ·show 2<=20000;decide
 |boot i=>
  rw[does] at md|-
  unfold iU at md|-
  split
  ·show 1<=20000;decide
  ·rename_i q1;rw[if_neg q1] at md
   dsimp only at md|-
   split
   ·show 1<=20000;decide
   ·rename_i q2;rw[if_neg q2] at md;split
    ·show 1<=20000;decide
    ·rename_i q3;rw[if_neg q3] at md;exact fin _ md
 |down i f=>
  rw[does] at md|-
  unfold iU at md|-
  split
  ·show 1<=20000;decide
  ·rename_i q1;rw[if_neg q1] at md
   dsimp only at md|-
   split
   ·show 1<=20000;decide
   ·rename_i q2;rw[if_neg q2] at md;split
    ·show 1<=20000;decide
    ·rename_i q3;rw[if_neg q3] at md;split
     ·show 1<=20000;decide
     ·rename_i q4;rw[if_neg q4] at md;exact fin _ md
 |halt i=>
  rw[does] at md|-
  unfold iU at md|-
  split
  ·show 1<=20000;decide
  ·rename_i q1;rw[if_neg q1] at md
   dsimp only at md|-
   split
   ·show 1<=20000;decide
   ·rename_i q2;rw[if_neg q2] at md;exact fin _ md
 |node i=>
  rw[does];unfold iU;split
  ·show 1<=20000;decide
  ·have h1:(charges t i.toNat).length<=20:=aD (bh _ _) (by rw[dU];exact hn);have h2:=wH i.toNat;show([_,_,_,_,_,_,_,_,_]++(listed (charges t i.toNat)++listed (af t i.toNat).starts)).length<=20000;rw[aJ,aJ,jt,jt];show 9+_<=_;omega
 |log f=>
  rw[does];split
  ·show 1<=20000;decide
  ·show([_,_,_]++((t.log.drop f.toNat).take 100).flatMap _).length<=20000;have h1:=wL (n:=3) (f:=fun e:Event=>[nat e.at_,nat e.node,nat e.kind]) ((t.log.drop f.toNat).take 100) fun _ _=>aL _;have h2:=gG 100 (t.log.drop f.toNat);rw[aJ];show 3+_<=_;omega
 |ups=>
  show(0::listed ((dg t.nodes.length).filter fun i=>(af t i).up)).length<=20000;rw[aQ,jt];have:=bh (fun i=>(af t i).up) (dg t.nodes.length);rw[dU] at this;omega
 |_=>exact a0 h
theorem Vv(s:Store)(key:Nat):(ask s key).2.length=2:=by
 unfold ask
 dsimp only
 split
 ·rfl
 ·split
  ·rfl
  ·split<;>rfl
theorem Kg{l:List Nat}{n:Nat}(h:l.Nodup)(hl:∀x∈l,x<n):l.length<=n:=by
 have:=Bm.sub_len (m:=dg n) h fun x hx=>hW.mpr (hl x hx)
 rwa [dU] at this
theorem BF{s:Store}(W:Sm.oG s){w:Work}(hw:w∈s.works):w.askers.length<=100:=Kg (Sm.uP W hw) fun x hx=>bN (W.J2 w hw x hx) W.asks
theorem QK{s:Store}(W:Sm.oG s):s.works.length<=100:=by
 have:=Kg (n:=100) W.Ih fun x hx=>by
  obtain⟨w,hw,e⟩:=bz.mp hx;have:=W.oK w hw;omega
 rwa [ab] at this
theorem ON(S:State)(c:Call)(h:RR c=true)(W:Sm.oG S.store):(does S c).2.length<=20000:=by
 obtain⟨t,st⟩:=S;have W:Sm.oG st:=W;cases c with
 |settings r a l b m=>
  rw[does];split<;>(show 1<=20000;decide)
 |ask k=>
  rw[does];split
  ·show 1<=20000;decide
  ·split
   ·show 1<=20000;decide
   ·show(eK st k.toNat).2.length+2<=20000;rw[Vv];decide
 |finish k v=>
  rw[does];split
  ·show 1<=20000;decide
  ·unfold onWork;split
   ·show 1<=20000;decide
   ·split
    ·show 1<=20000;decide
    ·rename_i w hw;have:=BF W (Sm.kF hw).1;show(listed w.askers).length+1<=20000;rw[jt];omega
 |fail k=>
  rw[does];unfold onWork;split
  ·show 1<=20000;decide
  ·split
   ·show 1<=20000;decide
   ·rename_i w hw;have:=BF W (Sm.kF hw).1;show(0::listed w.askers++[_]).length<=20000;rw[aJ,aQ,jt];show _+1<=_;omega
 |leave a=>
  rw[does];split
  ·show 1<=20000;decide
  ·split
   ·show 1<=20000;decide
   ·show 2<=20000;decide
 |forget k=>
  rw[does];split<;>(show 1<=20000;decide)
 |kept=>
  show(st.kept.flatMap _).length+2<=20000;have h1:=wL (n:=4) (f:=fun k:Wn=>[nat k.key,k.value,nat k.since,bit (fresh st k)]) st.kept fun _ _=>aL _;have h2:st.kept.length<=8:=aD W.xR W.room;exact aD (yD h1 2) (by omega)
 |works=>
  show(st.works.flatMap _).length+2<=20000;have h1:=wL (n:=104) (f:=fun w:Work=>[nat w.key,nat w.since,bit w.keep]++listed w.askers) st.works fun w hw=>by
   have:=BF W hw;rw[aJ,jt];show 3+_<=_;omega
  have h2:=QK W;exact aD (yD h1 2) (by omega)
 |breaker k=>
  rw[does];split
  ·show 1<=20000;decide
  ·show 3<=20000;decide
 |counts=>show 11<=20000;decide
 |_=>exact a0 h
def NW:Call->Bool
 |.ways .. =>true
 |.depths .. =>true
 |.best .. =>true
 |.late .. =>true
 |.gate .. =>true
 |.bucket .. =>true
 |.crowd .. =>true
 |.next .. =>true
 |.most .. =>true
 |_=>false
theorem Su(S:State)(c:Call)(h:NW c=true):does S c=(S,(does start c).2):=by
 cases c with
 |ways r l=>rw[does,does];split<;>rfl
 |depths l=>rw[does,does];split<;>rfl
 |best r l=>rw[does,does];split<;>rfl
 |late r l=>rw[does,does];split<;>rfl
 |gate n w l=>rw[does,does];split<;>rfl
 |bucket r e l=>rw[does,does];split<;>rfl
 |crowd w l=>rw[does,does];split<;>rfl
 |next n w t l=>rw[does,does];split<;>rfl
 |most n w l=>rw[does,does];split<;>rfl
 |_=>exact a0 h
theorem Uv(S:State)(c:Call)(h:NW c=true):(does S c).2.length<=20000:=by
 have rl:∀{l:List Int} {n:Nat} {top:Int},fg l n top=true->l.length<=n:=fun h=>(Rm.oi h).1;have ml:∀{l:List Int} {n:Nat},iu l n=true->l.length<=n:=fun{l n} h=>by
  unfold iu at h;rw[aW,decide_eq_true_eq] at h;exact h.1
 cases c with
 |ways r l=>
  rw[does];split
  ·show 1<=20000;decide
  ·show 4<=20000;decide
 |depths l=>
  rw[does];split
  ·show 1<=20000;decide
  ·rename_i q;have q:fg l 60 99=true:=by simpa using q
   have:=rl q;show((stackDepths [] (nats l)).map iq).length+1<=20000;rw[ab,Rm.zb,Rm.lP];omega
 |best r l=>
  rw[does];split
  ·show 1<=20000;decide
  ·show 2<=20000;decide
 |late r l=>
  rw[does];split
  ·show 1<=20000;decide
  ·rename_i q;have hr:r.toNat<=20:=by
    rw[not_or] at q;have q:aO r 1 20=true:=by simpa using q.1
    have:=Rm.Ft.mp q;omega
   show(listed (zg r.toNat (nats l))).length+1<=20000;have hl:∀(ks m:List Nat),m.length<=r.toNat->(ks.foldl (f_ r.toNat) m).length<=r.toNat:=by
    intro ks
    induction ks with
    |nil=>intro m hm;exact hm
    |cons k ks ih=>intro m _;exact ih _ (gG _ _)
   have:=hl (nats l) [] (aT _);rw[jt];show((nats l).foldl (f_ r.toNat) []).length+1+1<=20000;omega
 |gate n w l=>
  rw[does];split
  ·show 1<=20000;decide
  ·rename_i q;have q:(aO n 0 20&&(aO w 1 1000&&iu l 60))=true:=by simpa using q
   rw[aW,aW] at q;have h1:=ml q.2.2;have h2:=Gm.K7 n.toNat w.toNat (nats l);rw[Rm.lP] at h2;show(listed (let_ n.toNat w.toNat (nats l))).length+1<=20000;rw[jt];omega
 |bucket r e l=>
  rw[does];split
  ·show 1<=20000;decide
  ·rename_i q;have q:(aO r 1 20&&(aO e 1 1000&&iu l 60))=true:=by simpa using q
   rw[aW,aW] at q;have h1:=ml q.2.2;have h2:((nats l).foldl (Gm.Di r.toNat e.toNat) ⟨r.toNat*e.toNat,0,[]⟩).out.length<=0+(nats l).length:=Gm.xp _ _ (nats l) ⟨_,0,[]⟩;rw[Rm.lP] at h2;show(listed (tY r.toNat e.toNat (nats l))).length+1<=20000;rw[jt,Gm.uH];omega
 |crowd w l=>
  rw[does];split
  ·show 1<=20000;decide
  ·show 2<=20000;decide
 |next n w t l=>
  rw[does];split
  ·show 1<=20000;decide
  ·show(match iG n.toNat w.toNat t.toNat (nats l) with|none=>[0,-1]|some x=>[0,nat x]).length<=20000;cases iG n.toNat w.toNat t.toNat (nats l)<;>(show 2<=20000;decide)
 |most n w l=>
  rw[does];split
  ·show 1<=20000;decide
  ·show 2<=20000;decide
 |_=>exact a0 h
end Dm
namespace Pf
open PySem PySem.Spec PyProof.Rows L2
def top(i:Nat):Stmt:=PySem.Challenge.pw_caretakers_s01_answers.main.body.getD i (.Pass ⟨0,0,0,0⟩)
theorem du{N P:List Str}{s:ku}(a:s.kind= .function:=by rfl)(b:s.isCoroutine=false:=by rfl)(c:s.isGenerator=false:=by rfl)(d:N.Nodup:=by decide+kernel)(e:N.take P.length=P:=by rfl)(f:∀x∈P,s.names.lookup x=some .local\/s.names.lookup x=some .cell:=by decide+kernel)(g:∀y∈s.names,y.2≠ .free:=by decide+kernel):bj N P s:=⟨a,b,c,d,e,f,g⟩
abbrev BZ:Stmt:=top 9
abbrev zT:Stmt:=top 10
abbrev Ks:Stmt:=top 11
abbrev uW:Stmt:=top 18
abbrev ye:Stmt:=top 19
abbrev yc:Stmt:=top 20
abbrev yd:Stmt:=top 21
abbrev B5:Stmt:=top 22
abbrev B3:Stmt:=top 23
abbrev B0:Stmt:=top 24
abbrev BU:Stmt:=top 25
abbrev EF:Stmt:=top 26
abbrev yT:Stmt:=top 27
abbrev qu:Stmt:=top 29
abbrev sv:Stmt:=top 31
abbrev mw:Stmt:=top 32
abbrev sq:Stmt:=top 33
abbrev yU:Stmt:=top 34
abbrev pE:Stmt:=top 35
abbrev qp:Stmt:=top 36
abbrev o_:Stmt:=top 38
abbrev qr:Stmt:=top 39
abbrev oN:Stmt:=top 40
abbrev tp:Stmt:=top 41
abbrev oM:Stmt:=top 42
abbrev oO:Stmt:=top 43
abbrev qt:Stmt:=top 44
abbrev uX:Stmt:=top 45
abbrev B4:Stmt:=top 46
abbrev wa:Stmt:=top 60
abbrev su:Stmt:=top 61
abbrev yk:Stmt:=top 62
abbrev pD:Stmt:=top 63
abbrev BQ:Stmt:=top 64
abbrev BR:Stmt:=top 65
abbrev yh:Stmt:=top 66
abbrev B6:Stmt:=top 67
abbrev BX:Stmt:=top 68
abbrev B1:Stmt:=top 69
abbrev yj:Stmt:=top 70
abbrev zS:Stmt:=top 71
abbrev BV:Stmt:=top 72
abbrev BW:Stmt:=top 73
abbrev rH:Stmt:=top 75
abbrev yo:Stmt:=inClass (top 81) 0
abbrev B7:Stmt:=inClass (top 82) 0
abbrev zV:Stmt:=inClass (top 83) 0
abbrev we:Stmt:=inClass (top 83) 1
abbrev lL:Stmt:=inClass (top 83) 2
abbrev ur:Stmt:=inClass (top 83) 3
abbrev rJ:Stmt:=inClass (top 83) 4
abbrev tu:Stmt:=inClass (top 83) 5
abbrev oP:Stmt:=inClass (top 83) 6
abbrev u6:Stmt:=inClass (top 83) 7
abbrev mx:Stmt:=inClass (top 83) 8
abbrev rL:Stmt:=inClass (top 83) 9
abbrev rK:Stmt:=inClass (top 83) 10
abbrev nT:Stmt:=inClass (top 83) 11
abbrev B_:Stmt:=inClass (top 83) 12
abbrev qw:Stmt:=inClass (top 83) 13
abbrev wj:Stmt:=inClass (top 83) 14
abbrev zW:Stmt:=inClass (top 83) 15
abbrev pH:Stmt:=inClass (top 83) 16
abbrev yn:Stmt:=inClass (top 83) 17
abbrev wg:Stmt:=inClass (top 83) 18
abbrev uV:Stmt:=top 88
abbrev EG:Stmt:=top 89
abbrev yg:Stmt:=top 90
abbrev B2:Stmt:=top 91
abbrev zR:Stmt:=top 92
abbrev yf:Stmt:=top 93
abbrev BY:Stmt:=top 94
abbrev zQ:Stmt:=top 95
abbrev wb:Stmt:=top 96
abbrev yi:Stmt:=top 97
abbrev pF:Stmt:=top 99
abbrev B':Stmt:=inClass (top 109) 0
abbrev my:Stmt:=inClass (top 109) 1
abbrev j6:Stmt:=inClass (top 109) 2
abbrev B9:Stmt:=inClass (top 110) 0
abbrev EH:Stmt:=inClass (top 110) 1
abbrev uZ:Stmt:=inClass (top 110) 2
abbrev nJ:Stmt:=inClass (top 110) 3
abbrev nI:Stmt:=inClass (top 110) 4
abbrev zU:Stmt:=inClass (top 110) 5
abbrev B8:Stmt:=inClass (top 110) 6
abbrev pG:Stmt:=inClass (top 110) 7
abbrev wc:Stmt:=inClass (top 110) 8
abbrev uY:Stmt:=inClass (top 110) 9
abbrev ym:Stmt:=inClass (top 110) 10
abbrev tq:Stmt:=inClass (top 110) 11
abbrev qv:Stmt:=inClass (top 110) 12
abbrev iz:Stmt:=inClass (top 110) 13
abbrev Ca:Stmt:=inClass (top 117) 0
abbrev BS:Stmt:=top 118
abbrev yl:Stmt:=top 119
abbrev Kr:Stmt:=top 120
abbrev Hk:Stmt:=top 121
theorem IF:bj ["number","least","greatest"] ["number","least","greatest"] (aN BZ):=du
theorem si:bj ["numbers","ranges","number","ends"] ["numbers","ranges"] (aN zT):=du
theorem OV:bj ["number"] ["number"] (aN Ks):=du
theorem Bd:bj ["tree","parent"] ["tree","parent"] (aN uW):=du
theorem mR:bj ["desk","numbers","parent","refusal","number"] ["desk","numbers"] (aN ye):=du
theorem qk:bj ["desk","numbers","parent","refusal"] ["desk","numbers"] (aN yc):=du
theorem mP:bj ["tree","first","events","answer","event"] ["tree","first"] (aN yd):=du
theorem pO:bj ["desk","numbers","number","tree","before"] ["desk","numbers"] (aN B5):=du
theorem pN:bj ["desk","numbers","number","tree","before"] ["desk","numbers"] (aN B3):=du
theorem pM:bj ["desk","numbers","number","tree","before"] ["desk","numbers"] (aN B0):=du
theorem um:bj ["desk","numbers","node","answer"] ["desk","numbers"] (aN BU):=du
theorem mv:bj ["desk","numbers","first","events","told","answer","event"] ["desk","numbers"] (aN EF):=du
theorem rF:bj ["desk","numbers","number","node","ups"] ["desk","numbers"] (aN yT):=du
theorem xI:bj ["desk","call","numbers"] ["desk","call","numbers"] (aN qu):=du
theorem kH:bj ["times","span","minutes","through","minute","each","lately"] ["times","span","minutes"] (aN sv):=du
theorem dt:bj ["room","every","minutes","through","parts","before","minute"] ["room","every","minutes"] (aN mw):=du
theorem ql:bj ["start","span","minutes","each"] ["start","span","minutes"] (aN sq):=du
theorem vZ:bj ["span","minutes","start"] ["span","minutes"] (aN yU):=du
theorem vY:bj ["times","span","least","minutes"] ["times","span","least","minutes"] (aN pE):=du
theorem xG:bj ["times","span","minutes"] ["times","span","minutes"] (aN qp):=du
theorem nS:bj ["held","key","each"] ["held","key"] (aN o_):=du
theorem iY:bj ["room","keys","held","key"] ["room","keys"] (aN qr):=du
theorem eP:bj ["room","keys","held","misses","key"] ["room","keys"] (aN oN):=du
theorem gr:bj ["room","keys","held","misses","key"] ["room","keys"] (aN tp):=du
theorem gZ:bj ["keys","last","places","place"] ["keys"] (aN oM):=du
theorem eQ:bj ["room","keys","held","misses","key","again"] ["room","keys"] (aN oO):=du
theorem xH:bj ["held"] ["held"] (aN qt):=du
theorem Be:bj ["room","keys"] ["room","keys"] (aN uX):=du
theorem mT:bj ["keys","asked","depths","key"] ["keys"] (aN B4):=du
theorem uo:bj ["row","longest","greatest","number"] ["row","longest","greatest"] (aN wa):=du
theorem mQ:bj ["row","before","behind"] ["row"] (aN su):=du
theorem EB:bj ["row","longest","greatest"] ["row","longest","greatest"] (aN yk):=du
theorem vX:bj ["room","row"] ["room","row"] (aN pD):=du
theorem IC:bj ["numbers"] ["numbers"] (aN BQ):=du
theorem zK:bj ["numbers","row","room"] ["numbers","row"] (aN BR):=du
theorem Ez:bj ["numbers","row"] ["numbers","row"] (aN yh):=du
theorem zN:bj ["numbers","row","room"] ["numbers","row"] (aN B6):=du
theorem zM:bj ["numbers","row","room"] ["numbers","row"] (aN BX):=du
theorem IG:bj ["numbers","row"] ["numbers","row"] (aN B1):=du
theorem EA:bj ["numbers","row"] ["numbers","row"] (aN yj):=du
theorem Gx:bj ["numbers","row"] ["numbers","row"] (aN zS):=du
theorem zL:bj ["numbers","row","least"] ["numbers","row"] (aN BV):=du
theorem IE:bj ["numbers","row"] ["numbers","row"] (aN BW):=du
theorem yP:bj ["call","numbers","row"] ["call","numbers","row"] (aN rH):=du
theorem EE:bj ["self","key","value","since"] ["self","key","value","since"] (aN yo):=du
theorem IH:bj ["self","key","since"] ["self","key","since"] (aN B7):=du
theorem Gy:bj ["self"] ["self"] (aN zV):=du
theorem CS:bj ["self","room","age","limit","base","most"] ["self","room","age","limit","base","most"] (aN we):=du
theorem qV:bj ["self"] ["self"] (aN lL):=du
theorem sk:bj ["self","key","answer"] ["self","key"] (aN ur):=du
theorem yQ:bj ["self","answer"] ["self","answer"] (aN rJ):=du
theorem zP:bj ["self","answer","now"] ["self","answer","now"] (aN tu):=du
theorem nH:bj ["self","key","now","answer"] ["self","key","now"] (aN oP):=du
theorem tm:bj ["self","key","work"] ["self","key"] (aN u6):=du
theorem lK:bj ["self","ask","work"] ["self","ask"] (aN mx):=du
theorem yS:bj ["self","key"] ["self","key"] (aN rL):=du
theorem yR:bj ["self","key"] ["self","key"] (aN rK):=du
theorem mV:bj ["self","work","other"] ["self","work"] (aN nT):=du
theorem mW:bj ["self","key","now","number","answer","work","till"] ["self","key","now"] (aN B_):=du
theorem pC:bj ["self","key","number","now","work"] ["self","key","number","now"] (aN qw):=du
theorem CT:bj ["self","work","value","now"] ["self","work","value","now"] (aN wj):=du
theorem yb:bj ["self","work","now","faults"] ["self","work","now"] (aN zW):=du
theorem iy:bj ["self","faults","pause","fault"] ["self","faults"] (aN pH):=du
theorem ED:bj ["self","work","ask"] ["self","work","ask"] (aN yn):=du
theorem uU:bj ["self","key","work"] ["self","key"] (aN wg):=du
theorem Bc:bj ["desk","numbers"] ["desk","numbers"] (aN uV):=du
theorem Kp:bj ["desk","numbers"] ["desk","numbers"] (aN EG):=du
theorem mS:bj ["desk","numbers","key","value","work"] ["desk","numbers"] (aN yg):=du
theorem uq:bj ["desk","numbers","key","work"] ["desk","numbers"] (aN B2):=du
theorem sg:bj ["desk","numbers","ask","work"] ["desk","numbers"] (aN zR):=du
theorem Ey:bj ["desk","numbers"] ["desk","numbers"] (aN yf):=du
theorem pL:bj ["desk","numbers","store","told","answer"] ["desk","numbers"] (aN BY):=du
theorem sf:bj ["desk","numbers","told","work"] ["desk","numbers"] (aN zQ):=du
theorem uT:bj ["desk","numbers","key"] ["desk","numbers"] (aN wb):=du
theorem qo:bj ["desk","numbers","store","told"] ["desk","numbers"] (aN yi):=du
theorem v9:bj ["desk","call","numbers"] ["desk","call","numbers"] (aN pF):=du
theorem IJ:bj ["self","parent","depth","again"] ["self","parent","depth","again"] (aN B'):=du
theorem so:bj ["self","failed"] ["self","failed"] (aN my):=du
theorem jn:bj ["self","now","minute"] ["self","now"] (aN j6):=du
theorem II:bj ["self"] ["self"] (aN B9):=du
theorem Kq:bj ["self","number"] ["self","number"] (aN EH):=du
theorem k5:bj ["self","parent","again","number","node"] ["self","parent","again"] (aN uZ):=du
theorem mU:bj ["self","number","way","times","span","node"] ["self","number","way","times","span"] (aN nJ):=du
theorem gC:bj ["self","number","found","ahead","reached"] ["self","number"] (aN nI):=du
theorem sj:bj ["self","number","now","each","node"] ["self","number","now"] (aN zU):=du
theorem zO:bj ["self","number","now","each"] ["self","number","now"] (aN B8):=du
theorem v_:bj ["self","number","now"] ["self","number","now"] (aN pG):=du
theorem CQ:bj ["self","number","failed","now"] ["self","number","failed","now"] (aN wc):=du
theorem Bf:bj ["self","number","kind","now"] ["self","number","kind","now"] (aN uY):=du
theorem i8:bj ["self","number","failed","now","parent","caretaker","lately"] ["self","number","failed","now"] (aN ym):=du
theorem rG:bj ["self","numbers","now","each"] ["self","numbers","now"] (aN tq):=du
theorem iZ:bj ["self","number","now","charges","along","each"] ["self","number","now"] (aN qv):=du
theorem eR:bj ["self","number","caretaker","each","ups"] ["self","number"] (aN iz):=du
theorem IK:bj ["self"] ["self"] (aN Ca):=du
theorem ID:bj ["desk","minutes"] ["desk","minutes"] (aN BS):=du
theorem EC:bj ["desk","call","numbers"] ["desk","call","numbers"] (aN yl):=du
theorem OU:bj ["calls","place"] ["calls","place"] (aN Kr):=du
theorem gw:bj ["calls","desk","told","place","call","behind","numbers","row","answer"] ["calls"] (aN Hk):=du
structure eM(K:aq)(mg:Str->Option ao)(x:Str)(st:Stmt) where
 f:Addr
 fd:gA
 F:u_ K x x st f fd
 g:mg x=some (.ref f)
structure hJ(K:aq)(C:Addr)(m qual:Str)(st:Stmt) where
 f:Addr
 fd:gA
 F:u_ K m qual st f fd
 M:Meth K C m f
structure M_(K:aq)(C:Addr)(m qual:Str)(st:Stmt) where
 f:Addr
 fd:gA
 F:u_ K m qual st f fd
 I:Mk K C f
section
variable{X:Cx}{K:aq}{C f:Addr}{fd:gA}{x q m:Str}{st:Stmt}{o e a b:Expr}{es:List Expr}{k j i:Nat}{ps:List Str}{sp:Sp}{p pos apos mF pos':Pos}{t:TA}{ta tb te to:TE}
theorem _root_.L2.u_.b1(F:u_ K x q st f fd)(hl:ps.length=1:=by rfl)(h:∀(kV doc pm:ao) (an:Option Addr) (dY ct:ao) (u0:ao),qT (eC x q (lh st) (ju st) (aN st) .none kV doc pm an dY ct) ⟨[u0],[]⟩=pure (ps.zip [u0]):=by intros;rfl):Binds K fd ps []:=
 F.binds fun kV doc pm an dY ct us e=>match us,e.trans hl with|[u0],_=>h kV doc pm an dY ct u0
theorem _root_.L2.u_.b2(F:u_ K x q st f fd)(hl:ps.length=2:=by rfl)(h:∀(kV doc pm:ao) (an:Option Addr) (dY ct:ao) (u0 u1:ao),qT (eC x q (lh st) (ju st) (aN st) .none kV doc pm an dY ct) ⟨[u0,u1],[]⟩=pure (ps.zip [u0,u1]):=by intros;rfl):Binds K fd ps []:=
 F.binds fun kV doc pm an dY ct us e=>match us,e.trans hl with|[u0,u1],_=>h kV doc pm an dY ct u0 u1
theorem _root_.L2.u_.b3(F:u_ K x q st f fd)(hl:ps.length=3:=by rfl)(h:∀(kV doc pm:ao) (an:Option Addr) (dY ct:ao) (u0 u1 u2:ao),qT (eC x q (lh st) (ju st) (aN st) .none kV doc pm an dY ct) ⟨[u0,u1,u2],[]⟩=pure (ps.zip [u0,u1,u2]):=by intros;rfl):Binds K fd ps []:=
 F.binds fun kV doc pm an dY ct us e=>match us,e.trans hl with|[u0,u1,u2],_=>h kV doc pm an dY ct u0 u1 u2
theorem _root_.L2.u_.b4(F:u_ K x q st f fd)(hl:ps.length=4:=by rfl)(h:∀(kV doc pm:ao) (an:Option Addr) (dY ct:ao) (u0 u1 u2 u3:ao),qT (eC x q (lh st) (ju st) (aN st) .none kV doc pm an dY ct) ⟨[u0,u1,u2,u3],[]⟩=pure (ps.zip [u0,u1,u2,u3]):=by intros;rfl):Binds K fd ps []:=
 F.binds fun kV doc pm an dY ct us e=>match us,e.trans hl with|[u0,u1,u2,u3],_=>h kV doc pm an dY ct u0 u1 u2 u3
theorem _root_.L2.u_.b5(F:u_ K x q st f fd)(hl:ps.length=5:=by rfl)(h:∀(kV doc pm:ao) (an:Option Addr) (dY ct:ao) (u0 u1 u2 u3 u4:ao),qT (eC x q (lh st) (ju st) (aN st) .none kV doc pm an dY ct) ⟨[u0,u1,u2,u3,u4],[]⟩=pure (ps.zip [u0,u1,u2,u3,u4]):=by intros;rfl):Binds K fd ps []:=
 F.binds fun kV doc pm an dY ct us e=>match us,e.trans hl with|[u0,u1,u2,u3,u4],_=>h kV doc pm an dY ct u0 u1 u2 u3 u4
theorem _root_.L2.u_.b6(F:u_ K x q st f fd)(hl:ps.length=6:=by rfl)(h:∀(kV doc pm:ao) (an:Option Addr) (dY ct:ao) (u0 u1 u2 u3 u4 u5:ao),qT (eC x q (lh st) (ju st) (aN st) .none kV doc pm an dY ct) ⟨[u0,u1,u2,u3,u4,u5],[]⟩=pure (ps.zip [u0,u1,u2,u3,u4,u5]):=by intros;rfl):Binds K fd ps []:=
 F.binds fun kV doc pm an dY ct us e=>match us,e.trans hl with|[u0,u1,u2,u3,u4,u5],_=>h kV doc pm an dY ct u0 u1 u2 u3 u4 u5
theorem dm(D:eM X.K X.mg x st)(F:cz X.prog X.w X.K X.mg X.base fY k D.f D.fd ps sp)(hr:me j X.A)(ha:PA X (e::es) t)(hj:k<=j:=by decide)(hb:Binds X.K D.fd ps []:=by first|exact u_.b2 (eM.F _)|exact u_.b1 (eM.F _)|exact u_.b3 (eM.F _)|exact u_.b4 (eM.F _)|exact u_.b5 (eM.F _))(hg:Gl X x:=by rfl)(PF:(x==("__debug__":Str))=false:=by decide)(he:bw (e::es) X.env=(false,eval e X.env)::bw es X.env:=by rfl)(jD:(fq pos (bw es X.env)).any (·.1)=false:=by rfl):
  PE X (.Call (.Name x p) (e::es) [] pos) (Ny sp [] E0 t):=UN F (hr.mono hj) hg D.g D.F.kp hb .nil wu ha PF he jD
theorem dR{pl:Sem Bool}(he:PE X o ta)(c:JP X.K C)(D:hJ X.K C m q st)(F:cz X.prog X.w X.K X.mg X.base fY k D.f D.fd ps sp)(hr:me j X.A)(ha:PA X (e::es) t)(hj:k<=j:=by decide)(hb:Binds X.K D.fd ps []:=by first|exact u_.b2 (hJ.F _)|exact u_.b1 (hJ.F _)|exact u_.b3 (hJ.F _)|exact u_.b4 (hJ.F _)|exact u_.b5 (hJ.F _))(wH:bw (e::es) X.env=(false,eval e X.env)::bw es X.env:=by rfl)(jD:(fq pos (bw es X.env)).any (·.1)=false:=by rfl)
  (ht:eval (.Call (.Attribute o m apos) (e::es) [] pos) X.env=(do
   let ov <-eval o X.env
   Ge apos.atName
   let (f,first) <-LD [ov] (BJ ov m pl)
   LZ pos f first (fq pos (bw (e::es) X.env)) (o8 pos (jc [] X.env))):=by rfl):
  PE X (.Call (.Attribute o m apos) (e::es) [] pos) (Ef C m sp [] E0 ta t):=UJ he c D.M F (hr.mono hj) hb .nil wu ha wH jD ht
theorem Sv{pl:Sem Bool}(he:PE X o ta)(c:JP X.K C)(D:hJ X.K C m q st)(F:cz X.prog X.w X.K X.mg X.base fY k D.f D.fd ps sp)(hr:me j X.A)(hj:k<=j:=by decide)(hb:Binds X.K D.fd ps []:=by first|exact u_.b2 (hJ.F _)|exact u_.b1 (hJ.F _)|exact u_.b3 (hJ.F _)|exact u_.b4 (hJ.F _)|exact u_.b5 (hJ.F _))
  (ht:eval (.Call (.Attribute o m apos) [] [] pos) X.env=(do
   let ov <-eval o X.env
   Ge apos.atName
   let (f,first) <-LD [ov] (BJ ov m pl)
   LZ pos f first (fq pos (bw [] X.env)) (o8 pos (jc [] X.env))):=by rfl):
  PE X (.Call (.Attribute o m apos) [] [] pos) (Ef C m sp [] E0 ta ve):=Rn he c D.M F (hr.mono hj) hb .nil wu ht
theorem b8(i:Nat)(hN:X.N.Nodup)(he:PE X e te)(hi:X.N[i]?=some x:=by rfl)(hx:Loc X.env.scope x:=by exact zm rfl)(hs:t4 e (some (.Name x pos')) pos.line X.env=pure false:=by rfl)(hf:X.fn x=true\/X.env.scope.names.lookup x=some .local:=by first|exact .inl rfl|exact .inr rfl|assumption):
  PS X (.Assign [.Name x pos'] e pos) (Ue te (FD i)):=yW hN hi hx he hs hf
theorem f7(i:Nat)(hN:X.N.Nodup)(hi:X.N[i]?=some x:=by rfl)(hx:Loc X.env.scope x:=by exact zm rfl)(hf:X.fn x=true\/X.env.scope.names.lookup x=some .local:=by first|exact .inl rfl|exact .inr rfl|assumption):PG X (.Name x pos) (FD i):=NJ hN hi hx hf
theorem cD{n:Int}(hm:∃t,X.mg x=some (.int n t))(hg:Gl X x:=by rfl)(hd:(x==("__debug__":Str))=false:=by decide):PE X (.Name x pos) (tC (.int n)):=UL hg hm hd
theorem a_(he:PE X e ta)(hb:jk e m X.env (eval e X.env)=eval e X.env:=by rfl):PE X (.Attribute e m pos) (QZ X.K ta m):=Ro he hb
theorem c8{op:Ma}{r:R2}(ho:Cz X (fj op) r)(ha:PE X a ta)(hb:PE X b tb)(hm:behindInMarks op b=false:=by exact Rv _):PT X (.Compare a [op] [b] pos) (QX (WM r ta tb)):=w8 ho ha hb hm
theorem uz{op:Ma}{r:R2}(ho:Cz X (fj op) r)(ha:PE X a ta)(hb:PE X b tb)(hm:behindInMarks op b=false:=by exact Rv _):PE X (.Compare a [op] [b] pos) (WM r ta tb):=UM ho ha hb hm
theorem cR(ha:PE X a ta)(hb:PE X b tb)(hs:Oq b:=by exact fun _ _=>rfl):PE X (.Subscript a b pos) (WM (Uy X.K) ta tb):=Hr NV ha hb hs
def eA(hm:X.mg "len"=none)(ha:PE X e te)(hs:bw [e] X.env=(false,eval e X.env)::bw [] X.env:=by rfl)(hg:Gl X "len":=by rfl)(jD:(fq pos (bw [] X.env)).any (·.1)=false:=by rfl):=oS (p:=p) JF hg hm TN (aa ha ax hs) (by decide) (by decide) hs jD
def pf(ho:PE X o to)(ha:PE X e te)(hs:bw [e] X.env=(false,eval e X.env)::bw [] X.env:=by rfl)(K6:jk o "append" X.env (eval o X.env)=eval o X.env:=by rfl)
  (Vb:((fq mF (bw [e] X.env)).all (fun x=>!x.1)&&(o8 mF (jc [] X.env)).all (fun x=>x.1.isSome)&&decide ([e].length+([]:List vx).length+(if([]:List vx).isEmpty then 0 else 1)<30))=true:=by rfl)(K1:(apos.endLine==mF.line)=true:=by rfl)(MM:(fq mF (bw [] X.env)).any (·.1)=false:=by rfl):=
 qx bT L_ PySem.F.type_list_append Pe ho (aa ha ax hs) K6 Vb K1 hs MM
end
def AN(K:aq)(a:Addr)(xs:List (List Int)):Prop:=∃as:List Addr,as.length=xs.length/\(∀H,JO K H a (as.map V.ref))/\∀(i:Nat) (b:Addr) (x:List Int),as[i]?=some b->xs[i]?=some x->∀H,JO K H b (x.map V.int)
structure Tx(K:aq)(mg:Str->Option ao) where
 eI:Addr
 i_:JP K eI
 Sl:mg "Answer"=some (.ref eI)
 Bp:∀f∈(["key","value","since"]:List Str),dn K eI f
 ie:Addr
 dO:JP K ie
 X1:mg "Work"=some (.ref ie)
 DJ:∀f∈(["key","since","waiting","will_be_kept"]:List Str),dn K ie f
 b_:Addr
 ba:JP K b_
 Vg:mg "Store"=some (.ref b_)
 jC:∀f∈(["room","age","limit","base","most","answers","works","faults","untried_till","asked","asked_fresh","asked_anew"]:List Str),dn K b_ f
 da:Addr
 bP:JP K da
 Sk:mg "Node"=some (.ref da)
 ng:∀f∈(["parent","depth","again","caretaker","way","times","span","up","by_hand","charges","minutes"]:List Str),dn K da f
 cM:Addr
 bK:JP K cM
 X2:mg "Tree"=some (.ref cM)
 NO:∀f∈(["nodes","events"]:List Str),dn K cM f
 fG:Addr
 cQ:JP K fG
 X3:mg "Desk"=some (.ref fG)
 Jm:∀f∈(["now","tree","store"]:List Str),dn K fG f
 gR:eM K mg "is_within" BZ
 iQ:eM K mg "are_within" zT
 wF:eM K mg "is_key" Ks
 lM:eM K mg "refusal_below" uW
 gK:eM K mg "keeper_call" ye
 gH:eM K mg "worker_call" yc
 mn:eM K mg "with_events" yd
 jY:eM K mg "boot_call" B5
 jW:eM K mg "down_call" B3
 jT:eM K mg "halt_call" B0
 jN:eM K mg "node_call" BU
 lR:eM K mg "log_call" EF
 lG:eM K mg "ups_call" yT
 lj:eM K mg "answer_node_call" qu
 o4:eM K mg "let_through" sv
 g0:eM K mg "let_through_by_bucket" mw
 rO:eM K mg "number_from" sq
 Av:eM K mg "crowd_of" yU
 j':eM K mg "first_let_through" pE
 k9:eM K mg "most_let_through" qp
 jK:eM K mg "with_last_use" o_
 k_:eM K mg "held_by_last_use" qr
 js:eM K mg "misses_by_last_use" oN
 ni:eM K mg "misses_in_turn" tp
 jo:eM K mg "places_asked_again" oM
 gU:eM K mg "misses_by_best_way" oO
 fW:eM K mg "asked_again_last" qt
 oE:eM K mg "fewest_misses" uX
 xj:eM K mg "depths_of" B4
 n4:eM K mg "is_row_of" wa
 rP:eM K mg "never_falls" su
 jh:eM K mg "are_minutes" yk
 iE:eM K mg "is_room_with_keys" pD
 pZ:eM K mg "with_list" BQ
 jL:eM K mg "ways_call" BR
 gN:eM K mg "depths_call" yh
 jZ:eM K mg "best_call" B6
 jR:eM K mg "late_call" BX
 jU:eM K mg "gate_call" B1
 gP:eM K mg "bucket_call" yj
 iP:eM K mg "crowd_call" zS
 jO:eM K mg "next_call" BV
 jQ:eM K mg "most_call" BW
 lZ:eM K mg "answer_row_call" rH
 mC:M_ K eI "__init__" "Answer.__init__" yo
 p9:M_ K ie "__init__" "Work.__init__" B7
 n9:M_ K b_ "__init__" "Store.__init__" zV
 nz:hJ K b_ "settle" "Store.settle" we
 fH:hJ K b_ "drop_beyond_room" "Store.drop_beyond_room" lL
 n_:hJ K b_ "drop" "Store.drop" ur
 jF:hJ K b_ "put_first" "Store.put_first" rJ
 kT:hJ K b_ "is_fresh" "Store.is_fresh" tu
 jw:hJ K b_ "fresh_answer" "Store.fresh_answer" oP
 iR:hJ K b_ "work_of" "Store.work_of" u6
 g6:hJ K b_ "work_awaited_by" "Store.work_awaited_by" mx
 jG:hJ K b_ "faults_of" "Store.faults_of" rL
 ip:hJ K b_ "minute_of" "Store.minute_of" rK
 i':hJ K b_ "end_work" "Store.end_work" nT
 xq:hJ K b_ "ask" "Store.ask" B_
 lr:hJ K b_ "begin_work" "Store.begin_work" qw
 pX:hJ K b_ "finish" "Store.finish" wj
 uR:hJ K b_ "fail" "Store.fail" zW
 kh:hJ K b_ "pause_after" "Store.pause_after" pH
 rY:hJ K b_ "leave" "Store.leave" yn
 pW:hJ K b_ "forget" "Store.forget" wg
 fu:eM K mg "settings_call" uV
 lS:eM K mg "ask_call" EG
 gM:eM K mg "finish_call" yg
 jV:eM K mg "fail_call" B2
 iO:eM K mg "leave_call" zR
 gL:eM K mg "forget_call" yf
 jS:eM K mg "kept_call" BY
 iK:eM K mg "works_call" zQ
 gf:eM K mg "breaker_call" wb
 gO:eM K mg "counts_call" yi
 ke:eM K mg "answer_store_call" pF
 oa:M_ K da "__init__" "Node.__init__" B'
 g9:hJ K da "is_started_again" "Node.is_started_again" my
 i4:hJ K da "minutes_lately" "Node.minutes_lately" j6
 p_:M_ K cM "__init__" "Tree.__init__" B9
 o5:hJ K cM "has" "Tree.has" EH
 lT:hJ K cM "add_node" "Tree.add_node" uZ
 i3:hJ K cM "make_caretaker" "Tree.make_caretaker" nJ
 gz:hJ K cM "with_all_below" "Tree.with_all_below" nI
 qN:hJ K cM "start" "Tree.start" zU
 tX:hJ K cM "stop" "Tree.stop" B8
 kg:hJ K cM "stop_by_hand" "Tree.stop_by_hand" pG
 pV:hJ K cM "go_down" "Tree.go_down" wc
 j3:hJ K cM "put_down" "Tree.put_down" uY
 rX:hJ K cM "see_to" "Tree.see_to" ym
 kS:hJ K cM "stop_each" "Tree.stop_each" tq
 ll:hJ K cM "start_again" "Tree.start_again" qv
 jv:hJ K cM "that_go_along" "Tree.that_go_along" iz
 qa:M_ K fG "__init__" "Desk.__init__" Ca
 w_:eM K mg "pass_call" BS
 mB:eM K mg "answer_call" yl
 IM:eM K mg "row_at" Kr
 answers:eM K mg "answers" Hk
 ck:∃t,mg "OUT_OF_RANGE"=some (.int (-1) t)
 iF:∃t,mg "NOT_THERE"=some (.int (-2) t)
 MO:∃t,mg "NO_PLACE"=some (.int (-3) t)
 oC:∃t,mg "WRONG_STATE"=some (.int (-4) t)
 wI:∃t,mg "WRONG_PARENT"=some (.int (-5) t)
 Ao:∃t,mg "WRONG_SORT"=some (.int (-6) t)
 Fx:∃t,mg "TOO_MUCH"=some (.int (-7) t)
 qH:∃t,mg "GREATEST_KEY"=some (.int 99 t)
 Jz:∃t,mg "MOST_NODES"=some (.int 20 t)
 Bw:∃t,mg "GREATEST_DEPTH"=some (.int 5 t)
 K':∃t,mg "MOST_TOLD"=some (.int 100 t)
 vt:∃t,mg "GREATEST_FIRST_TOLD"=some (.int 1000000 t)
 pq:Addr
 C9:mg "KEEPER_RANGES"=some (.ref pq)
 CJ:AN K pq [[0,2],[0,20],[1,1000],[0,2]]
 AK:Addr
 Jy:mg "NODE_CALLS"=some (.ref AK)
 Ii:Yi K AK [(aH 0,.ref gK.f),(aH 1,.ref gH.f),(aH 2,.ref jY.f),(aH 3,.ref jW.f),(aH 4,.ref jT.f),(aH 5,.ref jN.f),(aH 6,.ref lR.f),(aH 7,.ref lG.f)]
 C_:∃t,mg "GREATEST_ROOM"=some (.int 20 t)
 Cs:∃t,mg "MOST_KEYS"=some (.int 60 t)
 tP:∃t,mg "GREATEST_ROOM_OF_BEST"=some (.int 4 t)
 xU:∃t,mg "MOST_KEYS_OF_BEST"=some (.int 14 t)
 uN:∃t,mg "GREATEST_KEY_OF_BEST"=some (.int 7 t)
 j_:∃t,mg "GREATEST_MINUTE"=some (.int 1000000 t)
 nr:∃t,mg "MOST_MINUTES"=some (.int 60 t)
 uM:∃t,mg "MOST_MINUTES_OF_MOST"=some (.int 10 t)
 oF:Addr
 yt:mg "GATE_RANGES"=some (.ref oF)
 x9:AN K oF [[0,20],[1,1000]]
 pw:Addr
 Dd:mg "BUCKET_RANGES"=some (.ref pw)
 CK:AN K pw [[1,20],[1,1000]]
 qM:Addr
 FA:mg "CROWD_RANGES"=some (.ref qM)
 Eb:AN K qM [[1,1000]]
 sJ:Addr
 GL:mg "NEXT_RANGES"=some (.ref sJ)
 Gq:AN K sJ [[0,20],[1,1000],[0,1000000]]
 Cy:Addr
 K9:mg "ROW_CALLS"=some (.ref Cy)
 Ka:Yi K Cy [(aH 19,.ref jL.f),(aH 20,.ref gN.f),(aH 21,.ref jZ.f),(aH 22,.ref jR.f),(aH 23,.ref jU.f),(aH 24,.ref gP.f),(aH 25,.ref iP.f),(aH 26,.ref jO.f),(aH 27,.ref jQ.f)]
 Vi:∃t,mg "FRESH"=some (.int 1 t)
 K8:∃t,mg "UNDER_WAY"=some (.int 2 t)
 K_:∃t,mg "NOT_TRIED"=some (.int 3 t)
 Vk:∃t,mg "BEGUN"=some (.int 4 t)
 tO:∃t,mg "GREATEST_VALUE"=some (.int 1000000000 t)
 La:∃t,mg "MOST_ASKS"=some (.int 100 t)
 ny:Addr
 Ap:mg "SETTINGS_RANGES"=some (.ref ny)
 zy:AN K ny [[1,8],[0,1000],[0,5],[1,100],[1,1000]]
 yx:Addr
 GK:mg "STORE_CALLS"=some (.ref yx)
 Gp:Yi K yx [(aH 9,.ref fu.f),(aH 10,.ref lS.f),(aH 11,.ref gM.f),(aH 12,.ref jV.f),(aH 13,.ref iO.f),(aH 14,.ref gL.f),(aH 15,.ref jS.f),(aH 16,.ref iK.f),(aH 17,.ref gf.f),(aH 18,.ref gO.f)]
 PN:∃t,mg "STARTED"=some (.int 0 t)
 PM:∃t,mg "STOPPED"=some (.int 1 t)
 Vj:∃t,mg "ENDED"=some (.int 2 t)
 Lb:∃t,mg "FAILED"=some (.int 3 t)
 GN:∃t,mg "ALL_FOR_ONE"=some (.int 1 t)
 Fy:∃t,mg "REST_FOR_ONE"=some (.int 2 t)
 FC:∃t,mg "AGAIN_ALWAYS"=some (.int 0 t)
 Aq:∃t,mg "AGAIN_IF_FAILED"=some (.int 1 t)
 Fz:∃t,mg "GREATEST_NOW"=some (.int 10000 t)
 Dc:∃t,mg "GREATEST_PASS"=some (.int 1000 t)
 Cr:∃t,mg "PASS_CALL"=some (.int 8 t)
 vv:∃t,mg "FIRST_CALL_WITH_ROW"=some (.int 19 t)
 Om:Addr
 Vh:mg "SIZES"=some (.ref Om)
 T7:Yi K Om [(aH 0,.int 5),(aH 1,.int 2),(aH 2,.int 1),(aH 3,.int 2),(aH 4,.int 1),(aH 5,.int 1),(aH 6,.int 1),(aH 7,.int 0),(aH 8,.int 1),(aH 9,.int 5),(aH 10,.int 1),(aH 11,.int 2),(aH 12,.int 1),(aH 13,.int 1),(aH 14,.int 1),(aH 15,.int 0),(aH 16,.int 0),(aH 17,.int 1),(aH 18,.int 0),(aH 19,.int 1),(aH 20,.int 0),(aH 21,.int 1),(aH 22,.int 1),(aH 23,.int 2),(aH 24,.int 2),(aH 25,.int 1),(aH 26,.int 3),(aH 27,.int 2)]
 SI:([eI,ie,b_,da,cM,fG]:List Addr).Nodup
 Wh:mg "all"=none
 Lu:mg "enumerate"=none
 f9:mg "len"=none
 SY:mg "list"=none
 SX:mg "max"=none
 Wg:mg "min"=none
 Oj:mg "range"=none
 zc:mg "reversed"=none
 SW:mg "sorted"=none
 SV:mg "zip"=none
section
variable{K:aq}{mg:Str->Option ao}(T:Tx K mg)
theorem Dk:Binds K T.gK.fd ["desk","numbers"] []:=T.gK.F.b2
theorem Dj:Binds K T.gH.fd ["desk","numbers"] []:=T.gH.F.b2
theorem G3:Binds K T.jY.fd ["desk","numbers"] []:=T.jY.F.b2
theorem G0:Binds K T.jW.fd ["desk","numbers"] []:=T.jW.F.b2
theorem GX:Binds K T.jT.fd ["desk","numbers"] []:=T.jT.F.b2
theorem GR:Binds K T.jN.fd ["desk","numbers"] []:=T.jN.F.b2
theorem JI:Binds K T.lR.fd ["desk","numbers"] []:=T.lR.F.b2
theorem JH:Binds K T.lG.fd ["desk","numbers"] []:=T.lG.F.b2
theorem GQ:Binds K T.jL.fd ["numbers","row"] []:=T.jL.F.b2
theorem Dq:Binds K T.gN.fd ["numbers","row"] []:=T.gN.F.b2
theorem G4:Binds K T.jZ.fd ["numbers","row"] []:=T.jZ.F.b2
theorem GV:Binds K T.jR.fd ["numbers","row"] []:=T.jR.F.b2
theorem GY:Binds K T.jU.fd ["numbers","row"] []:=T.jU.F.b2
theorem Ds:Binds K T.gP.fd ["numbers","row"] []:=T.gP.F.b2
theorem FW:Binds K T.iP.fd ["numbers","row"] []:=T.iP.F.b2
theorem GS:Binds K T.jO.fd ["numbers","row"] []:=T.jO.F.b2
theorem GU:Binds K T.jQ.fd ["numbers","row"] []:=T.jQ.F.b2
theorem Du:Binds K T.mC.fd ["self","key","value","since"] []:=T.mC.F.b4
theorem G5:Binds K T.p9.fd ["self","key","since"] []:=T.p9.F.b3
theorem FX:Binds K T.n9.fd ["self"] []:=T.n9.F.b1
theorem AB:Binds K T.fu.fd ["desk","numbers"] []:=T.fu.F.b2
theorem JJ:Binds K T.lS.fd ["desk","numbers"] []:=T.lS.F.b2
theorem Dn:Binds K T.gM.fd ["desk","numbers"] []:=T.gM.F.b2
theorem GZ:Binds K T.jV.fd ["desk","numbers"] []:=T.jV.F.b2
theorem FV:Binds K T.iO.fd ["desk","numbers"] []:=T.iO.F.b2
theorem Dl:Binds K T.gL.fd ["desk","numbers"] []:=T.gL.F.b2
theorem GW:Binds K T.jS.fd ["desk","numbers"] []:=T.jS.F.b2
theorem FU:Binds K T.iK.fd ["desk","numbers"] []:=T.iK.F.b2
theorem BE:Binds K T.gf.fd ["desk","numbers"] []:=T.gf.F.b2
theorem Dr:Binds K T.gO.fd ["desk","numbers"] []:=T.gO.F.b2
theorem yw:Binds K T.oa.fd ["self","parent","depth","again"] []:=T.oa.F.b4
theorem G6:Binds K T.p_.fd ["self"] []:=T.p_.F.b1
theorem G7:Binds K T.qa.fd ["self"] []:=T.qa.F.b1
theorem Lo:Binds K T.answers.fd ["calls"] []:=T.answers.F.b1
theorem lO:dn K T.eI "key":=T.Bp _ (by decide+kernel)
theorem ph:dn K T.eI "value":=T.Bp _ (by decide+kernel)
theorem pj:dn K T.eI "since":=T.Bp _ (by decide+kernel)
theorem eL:dn K T.ie "key":=T.DJ _ (by decide+kernel)
theorem sE:dn K T.ie "since":=T.DJ _ (by decide+kernel)
theorem dP:dn K T.ie "waiting":=T.DJ _ (by decide+kernel)
theorem iB:dn K T.ie "will_be_kept":=T.DJ _ (by decide+kernel)
theorem om:dn K T.b_ "room":=T.jC _ (by decide+kernel)
theorem nc:dn K T.b_ "age":=T.jC _ (by decide+kernel)
theorem kK:dn K T.b_ "limit":=T.jC _ (by decide+kernel)
theorem oq:dn K T.b_ "base":=T.jC _ (by decide+kernel)
theorem oo:dn K T.b_ "most":=T.jC _ (by decide+kernel)
theorem eD:dn K T.b_ "answers":=T.jC _ (by decide+kernel)
theorem gi:dn K T.b_ "works":=T.jC _ (by decide+kernel)
theorem jB:dn K T.b_ "faults":=T.jC _ (by decide+kernel)
theorem eS:dn K T.b_ "untried_till":=T.jC _ (by decide+kernel)
theorem kM:dn K T.b_ "asked":=T.jC _ (by decide+kernel)
theorem kL:dn K T.b_ "asked_fresh":=T.jC _ (by decide+kernel)
theorem lC:dn K T.b_ "asked_anew":=T.jC _ (by decide+kernel)
theorem i9:dn K T.da "parent":=T.ng _ (by decide+kernel)
theorem sF:dn K T.da "depth":=T.ng _ (by decide+kernel)
theorem ow:dn K T.da "again":=T.ng _ (by decide+kernel)
theorem iC:dn K T.da "caretaker":=T.ng _ (by decide+kernel)
theorem oW:dn K T.da "way":=T.ng _ (by decide+kernel)
theorem ou:dn K T.da "times":=T.ng _ (by decide+kernel)
theorem pR:dn K T.da "span":=T.ng _ (by decide+kernel)
theorem fV:dn K T.da "up":=T.ng _ (by decide+kernel)
theorem lX:dn K T.da "by_hand":=T.ng _ (by decide+kernel)
theorem fN:dn K T.da "charges":=T.ng _ (by decide+kernel)
theorem ik:dn K T.da "minutes":=T.ng _ (by decide+kernel)
theorem bx:dn K T.cM "nodes":=T.NO _ (by decide+kernel)
theorem gh:dn K T.cM "events":=T.NO _ (by decide+kernel)
theorem fO:dn K T.fG "now":=T.Jm _ (by decide+kernel)
theorem dX:dn K T.fG "tree":=T.Jm _ (by decide+kernel)
theorem dh:dn K T.fG "store":=T.Jm _ (by decide+kernel)
end
open Vbtkaj (nodeAt setNode tell charges depthOf startAt stopAt wentDown NODES DEEP recent)
abbrev Tree:=Vbtkaj.Tree
abbrev Node:=Vbtkaj.Node
abbrev Event:=Vbtkaj.Event
abbrev Kept:=Wn
abbrev Work:=Vbtkaj.Work
abbrev Breaker:=Vbtkaj.Breaker
abbrev Store:=VC
abbrev State:=Vbtkaj.State
theorem cC:∀{fs:List (Str×V)} {i:Nat} {f:Str} {v:V},(fs.map (·.1)).Nodup->fs[i]?=some (f,v)->fs.lookup f=some v
 |[],i,f,v,_,h=>by simp at h
 |(k,x)::r,0,f,v,_,h=>by
  have e:(k,x)=(f,v):=aR h;cases e;simp[gq]
 |(k,x)::r,i+1,f,v,hn,h=>by
  rw[bE] at hn;obtain⟨h1,h2⟩:=bG.mp hn;have h:r[i]?=some (f,v):=h;have hk: ¬f=k:=fun e=>h1 (by rw[<-e];exact bz.mpr ⟨(f,v),bB h,rfl⟩);have hb:(f==k)=false:=beq_eq_false_iff_ne.mpr hk;simp only[gq,hb];exact cC h2 h
theorem Bs{fs:List (Str×V)}{f:Str}(h: ¬f∈fs.map (·.1)):fs.lookup f=none:=by
 induction fs with
 |nil=>rfl
 |cons p r ih=>
  obtain⟨k,x⟩:=p;rw[bE,az,not_or] at h;have hb:(f==k)=false:=beq_eq_false_iff_ne.mpr h.1;simp only[gq,hb];exact ih h.2
theorem gu:∀{fs:List (Str×V)} {i:Nat} {f:Str} {v0 v:V},(fs.map (·.1)).Nodup->fs[i]?=some (f,v0)->iA f v fs=fs.set i (f,v)
 |[],i,f,v0,v,_,h=>by simp at h
 |(k,x)::r,0,f,v0,v,_,h=>by
  have e:(k,x)=(f,v0):=aR h;cases e;show(if k=k then(k,v)::r else _)=_;rw[if_pos rfl];rfl
 |(k,x)::r,i+1,f,v0,v,hn,h=>by
  rw[bE] at hn;obtain⟨h1,h2⟩:=bG.mp hn;have h:r[i]?=some (f,v0):=h;have hk: ¬k=f:=fun e=>h1 (by rw[e];exact bz.mpr ⟨(f,v0),bB h,rfl⟩);show(if k=f then(k,v)::r else(k,x)::iA f v r)=_;rw[if_neg hk,gu h2 h];rfl
theorem Kv:∀{fs:List (Str×V)} {f:Str} {v:V},¬f∈fs.map (·.1)->iA f v fs=fs++[(f,v)]
 |[],f,v,_=>rfl
 |(k,x)::r,f,v,h=>by
  rw[bE,az,not_or] at h;show(if k=f then(k,v)::r else(k,x)::iA f v r)=_;rw[if_neg (fun e=>h.1 e.symm),Kv h.2];rfl
structure ji where
 parent:Int
 depth:Int
 again:Int
 xl:Bool
 way:Int
 times:Int
 span:Int
 up:Bool
 byHand:Bool
 ch:Addr
 mi:Addr
abbrev VX:List Str:=["parent","depth","again","caretaker","way","times","span","up","by_hand","charges","minutes"]
def fh(n:ji):List (Str×V):=[("parent",.int n.parent),("depth",.int n.depth),("again",.int n.again),("caretaker",.bl n.xl),("way",.int n.way),("times",.int n.times),("span",.int n.span),("up",.bl n.up),("by_hand",.bl n.byHand),("charges",V.ref n.ch),("minutes",V.ref n.mi)]
theorem Rx:VX.Nodup:=by decide+kernel
theorem eW(n:ji):((fh n).map (·.1)).Nodup:=Rx
theorem oV(n:ji):(fh n).lookup ("parent":Str)=some (V.int n.parent):=cC (i:=0) (eW n) rfl
theorem Fe(n:ji):(fh n).lookup ("depth":Str)=some (V.int n.depth):=cC (i:=1) (eW n) rfl
theorem y1(n:ji):(fh n).lookup ("again":Str)=some (V.int n.again):=cC (i:=2) (eW n) rfl
theorem qC(n:ji):(fh n).lookup ("caretaker":Str)=some (V.bl n.xl):=cC (i:=3) (eW n) rfl
theorem Fc(n:ji):(fh n).lookup ("way":Str)=some (V.int n.way):=cC (i:=4) (eW n) rfl
theorem Fd(n:ji):(fh n).lookup ("times":Str)=some (V.int n.times):=cC (i:=5) (eW n) rfl
theorem Hu(n:ji):(fh n).lookup ("span":Str)=some (V.int n.span):=cC (i:=6) (eW n) rfl
theorem oj(n:ji):(fh n).lookup ("up":Str)=some (V.bl n.up):=cC (i:=7) (eW n) rfl
theorem Jl(n:ji):(fh n).lookup ("by_hand":Str)=some (V.bl n.byHand):=cC (i:=8) (eW n) rfl
theorem jq(n:ji):(fh n).lookup ("charges":Str)=some (V.ref n.ch):=cC (i:=9) (eW n) rfl
theorem uE(n:ji):(fh n).lookup ("minutes":Str)=some (V.ref n.mi):=cC (i:=10) (eW n) rfl
theorem GC(n:ji)(b:Bool):iA "caretaker" (V.bl b) (fh n)=fh {n with xl:=b}:=gu (i:=3) (eW n) rfl
theorem UC(n:ji)(b:Int):iA "way" (V.int b) (fh n)=fh {n with way:=b}:=gu (i:=4) (eW n) rfl
theorem O1(n:ji)(b:Int):iA "times" (V.int b) (fh n)=fh {n with times:=b}:=gu (i:=5) (eW n) rfl
theorem Rc(n:ji)(b:Int):iA "span" (V.int b) (fh n)=fh {n with span:=b}:=gu (i:=6) (eW n) rfl
theorem Rb(n:ji)(b:Bool):iA "up" (V.bl b) (fh n)=fh {n with up:=b}:=gu (i:=7) (eW n) rfl
theorem Cd(n:ji)(b:Bool):iA "by_hand" (V.bl b) (fh n)=fh {n with byHand:=b}:=gu (i:=8) (eW n) rfl
theorem Cc(n:ji)(p:Addr):iA "minutes" (V.ref p) (fh n)=fh {n with mi:=p}:=gu (i:=10) (eW n) rfl
theorem KI(n:ji){f:Str}(h: ¬f∈VX):(fh n).lookup f=none:=Bs h
def sX(nl el:Addr):List (Str×V):=[("nodes",V.ref nl),("events",V.ref el)]
abbrev VN:List Str:=["nodes","events"]
theorem Ee:VN.Nodup:=by decide+kernel
theorem bW(a b:Addr):(sX a b).lookup ("nodes":Str)=some (V.ref a):=cC (i:=0) (show((sX a b).map (·.1)).Nodup from Ee) rfl
theorem kG(a b:Addr):(sX a b).lookup ("events":Str)=some (V.ref b):=cC (i:=1) (show((sX a b).map (·.1)).Nodup from Ee) rfl
theorem d_(a b:Addr){f:Str}(h: ¬f∈VN):(sX a b).lookup f=none:=Bs h
section
variable{K:aq}{H:Hp}{a C dx:Addr}{fs fs':List (Str×V)}{f:Str}{v y:V}{Q:VK}
theorem dN{p:Addr}{xs:List V}{i:Int}{j:Nat}(h:H p=some (.lst xs))(e:i=(j:Int))(hx:xs[j]?=some v)(q:Q v H):Uy K (.ref p) (.int i) H Q:=⟨p,xs,i,v,rfl,rfl,cF.of h,at_of e hx,q⟩
end
structure TL where
 dx:Addr
 nl:Addr
 el:Addr
 na:List Addr
 ev:List Addr
 ch:Nat->Addr
 mi:Nat->Addr
 nx:Nat->Addr
def h9(t:Tree)(L:TL)(i:Nat):ji:=⟨(af t i).parent,cO t eG i,(af t i).again,(af t i).keeper,(af t i).how,(af t i).times,(af t i).within,(af t i).up,(af t i).byHand,L.ch i,L.mi i⟩
abbrev aV(l:List Nat):List V:=l.map fun j=>V.int (j:Nat)
def evV(e:Event):HO:= .tup [.int (e.at_:Nat),.int (e.node:Nat),.int (e.kind:Nat)]
structure cy(cT cN:Addr)(ρ:Addr->Nat)(H:Hp)(a:Addr)(t:Tree)(L:TL):Prop where
 tr:H a=some (.ins cT L.dx (sX L.nl L.el))
 nl:H L.nl=some (.lst (L.na.map V.ref))
 tI:L.na.length=t.nodes.length
 nd:∀(i:Nat) (c:Addr),L.na[i]?=some c->H c=some (.ins cN (L.nx i) (fh (h9 t L i)))
 Gb:∀(i:Nat),i<t.nodes.length->H (L.ch i)=some (.lst (aV (charges t i)))
 NQ:∀(i:Nat),i<t.nodes.length->H (L.mi i)=some (.lst (aV (af t i).starts))
 el:H L.el=some (.lst (L.ev.map V.ref))
 y':L.ev.length=t.log.length
 X5:∀(k:Nat) (c:Addr) (e:Event),L.ev[k]?=some c->t.log[k]?=some e->H c=some (evV e)
 Q7:ρ L.nl=1
 rel:ρ L.el=2
 rn:∀(i:Nat) (c:Addr),L.na[i]?=some c->ρ c=10+i
 OY:∀(i:Nat),i<t.nodes.length->ρ (L.ch i)=100+i
 Ql:∀(i:Nat),i<t.nodes.length->ρ (L.mi i)=0
 free:∀b,H b=none->ρ b=0
 wN:t.nodes.length<=20
def qO(ρ:Addr->Nat)(H H':Hp):Prop:=∀b o,H b=some o->(ρ b=0\/1000<=ρ b)->H' b=some o
theorem qO.refl(ρ:Addr->Nat)(H:Hp):qO ρ H H:=fun _ _ h _=>h
theorem qO.trans{ρ:Addr->Nat}{H H1 H2:Hp}(a:qO ρ H H1)(b:qO ρ H1 H2):qO ρ H H2:=fun c o h r=>b c o (a c o h r) r
theorem qO.of{ρ:Addr->Nat}{H H':Hp}(s:dc H H'):qO ρ H H':=fun b o h _=>s b o h
theorem qO.upd{ρ:Addr->Nat}{H:Hp}{c:Addr}{o:HO}(h: ¬(ρ c=0\/1000<=ρ c)):qO ρ H (upd H c o):=fun b u e r=>by
 rw[aA (fun q=>h (by rw[<-q];exact r))];exact e
theorem aF{H:Hp}{p:Addr}{o:HO}(h:H p=none):dc H (upd H p o):=fun b u e=>by
 rw[aA (aE e h)];exact e
theorem dF{H:Hp}{a b C dx:Addr}{xs:List V}{fs:List (Str×V)}(h:H a=some (.lst xs))(h':H b=some (.ins C dx fs)):a≠b:=j9 h h' (by intro q;cases q)
theorem Ed{H:Hp}{a b C dx:Addr}{xs:List V}{fs:List (Str×V)}(h:H a=some (.tup xs))(h':H b=some (.ins C dx fs)):a≠b:=j9 h h' (by intro q;cases q)
theorem ug{H:Hp}{a b:Addr}{xs ys:List V}(h:H a=some (.tup xs))(h':H b=some (.lst ys)):a≠b:=j9 h h' (by intro q;cases q)
section
variable{cT cN:Addr}{ρ:Addr->Nat}{H H':Hp}{a:Addr}{t:Tree}{L:TL}
theorem cy.same(R:cy cT cN ρ H a t L)(s:dc H H'):cy cT cN ρ H' a t L:=
 ⟨s _ _ R.tr,s _ _ R.nl,R.tI,fun i c h=>s _ _ (R.nd i c h),fun i h=>s _ _ (R.Gb i h),fun i h=>s _ _ (R.NQ i h),s _ _ R.el,R.y',fun k c e h1 h2=>s _ _ (R.X5 k c e h1 h2),R.Q7,R.rel,R.rn,R.OY,R.Ql,fun b h=>R.free b (s.free h),R.wN⟩
theorem cy.at_(R:cy cT cN ρ H a t L){i:Nat}(h:i<t.nodes.length):∃c,L.na[i]?=some c:=⟨_,aS (by rw[R.tI];exact h)⟩
theorem cy.lt(R:cy cT cN ρ H a t L){i:Nat}{c:Addr}(h:L.na[i]?=some c):i<t.nodes.length:=by rw[<-R.tI];exact(aP.mp h).1
theorem cy.inj(R:cy cT cN ρ H a t L){i j:Nat}{c:Addr}(h:L.na[i]?=some c)(h':L.na[j]?=some c):i=j:=by
 have h1:=R.rn i c h;have h2:=R.rn j c h';omega
theorem cy.Q5(R:cy cT cN ρ H a t L)(hTN:cT≠cN){i:Nat}{c p:Addr}(hc:L.na[i]?=some c)(n:Node)(hp:n.parent=(af t i).parent)(jD:H p=some (.lst (aV n.starts)))(hr:ρ p=0){D:ji}
  (hD:D=⟨n.parent,cO t eG i,n.again,n.keeper,n.how,n.times,n.within,n.up,n.byHand,L.ch i,p⟩):
  cy cT cN ρ (upd H c (.ins cN (L.nx i) (fh D))) a (fe t i n) {L with mi:=fun j=>if j=i then p else L.mi j}/\qO ρ H (upd H c (.ins cN (L.nx i) (fh D))):=by
 subst hD;have hi:=R.lt hc;have hn:=R.nd i c hc;have Pz:Tm.ps (fe t i n)=Tm.ps t:=Tm.yW t i n hp;have pS:∀j,charges (fe t i n) j=charges t j:=fun j=>by rw[Tm.dI,Tm.dI,Pz]
 have hdp:∀j,cO (fe t i n) eG j=cO t eG j:=fun j=>Tm.kP Pz eG j;have hlen:(fe t i n).nodes.length=t.nodes.length:=Tm.UW t i n;have self:af (fe t i n) i=n:=by rw[Tm.jr,if_pos ⟨rfl,hi⟩]
 have other:∀j,j≠i->af (fe t i n) j=af t j:=fun j h=>by rw[Tm.jr,if_neg (fun q=>h q.1)]
 have Z2:∀b xs,H b=some (.lst xs)->upd H c (.ins cN (L.nx i) (fh ⟨n.parent,cO t eG i,n.again,n.keeper,n.how,n.times,n.within,n.up,n.byHand,L.ch i,p⟩)) b=some (.lst xs):=fun b xs e=>by
  rw[aA (dF e hn)];exact e
 refine⟨⟨?_,Z2 _ _ R.nl,by rw[hlen];exact R.tI,fun j d hd=>?_,fun j hj=>?_,fun j hj=>?_,Z2 _ _ R.el,R.y',fun k d e h1 h2=>?_,R.Q7,R.rel,R.rn,fun j hj=>R.OY j (by rw[<-hlen];exact hj),fun j hj=>?_,fun b hb=>?_,by rw[hlen];exact R.wN⟩,qO.upd (by rw[R.rn i c hc];have:=R.wN;omega)⟩
 ·rw[aA (j9 R.tr hn (by intro q;injection q with q1 q2 q3;exact hTN q1))];exact R.tr
 ·by_cases e:j=i
  ·subst e;have ed:d=c:=aR (hd.symm.trans hc);subst ed;rw[ae];unfold h9;rw[self,hdp];simp
  ·have nd:d≠c:=fun q=>e (R.inj (by rw[<-q];exact hd) hc);rw[aA nd,R.nd j d hd];unfold h9;rw[other j e,hdp];simp[e]
 ·rw[pS];exact Z2 _ _ (R.Gb j (by rw[<-hlen];exact hj))
 ·by_cases e:j=i
  ·subst e;rw[self];simp only[if_pos];exact Z2 _ _ jD
  ·rw[other j e];simp only[if_neg e];exact Z2 _ _ (R.NQ j (by rw[<-hlen];exact hj))
 ·have:=R.X5 k d e h1 h2;rw[aA (Ed this hn)];exact this
 ·by_cases e:j=i
  ·subst e;simp only[if_pos];exact hr
  ·simp only[if_neg e];exact R.Ql j (by rw[<-hlen];exact hj)
 ·refine R.free b ?_;cases q:H b with
  |none=>rfl
  |some o=>
   exfalso;by_cases e:b=c
   ·rw[e,ae] at hb;cases hb
   ·rw[aA e,q] at hb;cases hb
theorem cy.tell(R:cy cT cN ρ H a t L){q:Addr}{i k:Nat}(hq:H q=some (.tup [.int (t.now:Nat),.int (i:Nat),.int (k:Nat)])):
  cy cT cN ρ (upd H L.el (.lst (L.ev.map V.ref++[.ref q]))) a (Wl t i k) {L with ev:=L.ev++[q]}/\qO ρ H (upd H L.el (.lst (L.ev.map V.ref++[.ref q]))):=by
 have he:=R.el;have hdp:∀j,cO (Wl t i k) eG j=cO t eG j:=fun j=>Tm.kP rfl eG j;have ine:∀b C dx fs,H b=some (.ins C dx fs)->upd H L.el (.lst (L.ev.map V.ref++[.ref q])) b=some (.ins C dx fs):=fun b C dx fs e=>by
  rw[aA (dF he e).symm];exact e
 have tne:∀b xs,H b=some (.tup xs)->upd H L.el (.lst (L.ev.map V.ref++[.ref q])) b=some (.tup xs):=fun b xs e=>by
  rw[aA (ug e he)];exact e
 have rne:∀b o,H b=some o->ρ b≠2->upd H L.el (.lst (L.ev.map V.ref++[.ref q])) b=some o:=fun b o e r=>by
  rw[aA (fun z=>r (by rw[z];exact R.rel))];exact e
 refine⟨⟨ine _ _ _ _ R.tr,rne _ _ R.nl (by rw[R.Q7];decide),R.tI,fun j d hd=>?_,fun j hj=>rne _ _ (R.Gb j hj) (by rw[R.OY j hj];omega),fun j hj=>rne _ _ (R.NQ j hj) (by rw[R.Ql j hj];decide),?_,?_,fun m d e h1 h2=>?_,R.Q7,R.rel,R.rn,R.OY,R.Ql,fun b hb=>?_,R.wN⟩,qO.upd (by rw[R.rel];decide)⟩
 ·rw[ine _ _ _ _ (R.nd j d hd)];unfold h9;rw[hdp];rfl
 ·rw[ae,cb];rfl
 ·show(L.ev++[q]).length=(t.log++[_]).length;rw[aJ,aJ,R.y'];rfl
 ·have hl:=R.y';by_cases z:m<L.ev.length
  ·rw[cq z] at h1;have h2:(t.log++[_])[m]?=some e:=h2;rw[cq (by omega)] at h2;exact tne _ _ (R.X5 m d e h1 h2)
  ·have h2:(t.log++[(⟨t.now,i,k⟩:Event)])[m]?=some e:=h2;rw[dA (by omega)] at h1 h2;rw[hl] at h1;cases w:m -t.log.length with
   |zero=>
    rw[w] at h1 h2;have e1:q=d:=aR h1;have e2:(⟨t.now,i,k⟩:Event)=e:=aR h2;subst e1 e2;exact tne _ _ hq
   |succ r=>
    rw[w] at h1;cases h1
 ·refine R.free b ?_;cases q:H b with
  |none=>rfl
  |some o=>
   exfalso;by_cases e:b=L.el
   ·rw[e,ae] at hb;cases hb
   ·rw[aA e,q] at hb;cases hb
end
open Vbtkaj (nodeAt setNode tell charges depthOf startAt stopAt wentDown NODES DEEP recent inside)
section
variable{P:bq}{w:cf}{K:aq}{mg:Str->Option ao}{base:Heap}
def Io:Sp:=fun vs H Q _=>∃x lo hi:Int,vs=[.int x,.int lo,.int hi]/\Q (.bl (aO x lo hi)) H
theorem gc(T:Tx K mg):cz P w K mg base fY 1 T.gR.f T.gR.fd ["number","least","greatest"] Io:=by
 refine T.gR.F.ok IF (fun vs H Q E h=>?_) (fun dY A outer s H vs Q E hr h=>?_)
 ·obtain⟨x,lo,hi,rfl,_⟩:=h;rfl
 ·obtain⟨x,lo,hi,rfl,k⟩:=h;refine⟨_,(aB (bf (Kz EV EV (pv 1) (pv 0) (pv 2)))),?_⟩;refine⟨_,rfl,_,rfl,_,_,rfl,rfl,_,rfl,?_⟩;by_cases h1:lo<=x
  ·rw[decide_eq_true h1];refine c_ ⟨_,rfl,_,_,rfl,rfl,?_⟩;have e:aO x lo hi=decide (x<=hi):=by unfold aO;rw[decide_eq_true h1,o9]
   rw[e] at k;exact k
  ·rw[decide_eq_false h1];refine di ?_;have e:aO x lo hi=false:=by unfold aO;rw[decide_eq_false h1,jg]
   rw[e] at k;exact k
def Km(T:Tx K mg):Sp:=fun vs H Q _=>∃(a:Addr) (i:Int) (ρ:Addr->Nat) (t:Tree) (L:TL),vs=[.ref a,.int i]/\cy T.cM T.da ρ H a t L/\Q (.bl (aO i 0 (aw t.nodes.length -1))) H
theorem oU(T:Tx K mg):cz P w K mg base fY 1 T.o5.f T.o5.fd ["self","number"] (Km T):=by
 refine T.o5.F.ok Kq (fun vs H Q E h=>?_) (fun dY A outer s H vs Q E hr h=>?_)
 ·obtain⟨a,i,ρ,t,L,rfl,_⟩:=h;rfl
 ·obtain⟨a,i,ρ,t,L,rfl,R,k⟩:=h;refine⟨_,(aB (bf (Kz EV tD a8 (pv 1) (eA T.f9 (a_ (pv 0)))))),?_⟩;have hN:(L.na.map V.ref).length=t.nodes.length:=by rw[ab];exact R.tI
  refine⟨_,rfl,_,_,rfl,rfl,_,rfl,?_⟩;by_cases h1:(0:Int)<=i
  ·rw[decide_eq_true h1];refine c_ ⟨_,rfl,_,_,_,_,_,rfl,R.tr,T.bK,bx T,bW _ _,_,_,rfl,.inl (cF.of R.nl),_,_,rfl,rfl,?_⟩;have e:aO i 0 (aw t.nodes.length -1)=decide (i<((L.na.map V.ref).length:Nat)):=by
    unfold aO aw;rw[decide_eq_true h1,o9,hN];exact decide_eq_decide.mpr (by show i<=((t.nodes.length:Nat):Int) -1↔_;omega)
   rw[e] at k;exact k
  ·rw[decide_eq_false h1];refine di ?_;have e:aO i 0 (aw t.nodes.length -1)=false:=by unfold aO;rw[decide_eq_false h1,jg]
   rw[e] at k;exact k
def se(T:Tx K mg):Sp:=fun vs H Q _=>∃(c dx:Addr) (n:ji) (b:Bool),vs=[.ref c,.bl b]/\H c=some (.ins T.da dx (fh n))/\Q (.bl (decide (n.again=0)||(decide (n.again=1)&&b))) H
theorem sC(T:Tx K mg):cz P w K mg base fY 1 T.g9.f T.g9.fd ["self","failed"] (se T):=by
 refine T.g9.F.ok so (fun vs H Q E h=>?_) (fun dY A outer s H vs Q E hr h=>?_)
 ·obtain⟨c,dx,n,b,rfl,_⟩:=h;rfl
 ·obtain⟨c,dx,n,b,rfl,hc,k⟩:=h;refine⟨_,(aB (bf (VU (uz mY (a_ (pv 0)) (cD T.FC)) (Bi (IS (uz mY (a_ (pv 0)) (cD T.Aq)) (Bi (pv 1))))))),?_⟩;refine⟨_,rfl,_,_,_,_,_,rfl,hc,T.bP,ow T,y1 _,rfl,_,rfl,?_⟩;have e0:decide (V.int n.again=V.int 0)=decide (n.again=0):=decide_eq_decide.mpr ⟨fun q=>V.int.inj q,fun q=>by rw[q]⟩;have e1:decide (V.int n.again=V.int 1)=decide (n.again=1):=decide_eq_decide.mpr ⟨fun q=>V.int.inj q,fun q=>by rw[q]⟩;rw[e0];cases q0:decide (n.again=0) with
  |true=>
   refine c_ ?_;rw[q0] at k;exact k
  |false=>
   refine di ?_;refine⟨_,rfl,_,_,_,_,_,rfl,hc,T.bP,ow T,y1 _,rfl,_,rfl,?_⟩;rw[e1];rw[q0] at k;cases q1:decide (n.again=1) with
   |true=>
    rw[q1] at k;exact c_ ⟨_,rfl,by cases b<;>exact k⟩
   |false=>
    rw[q1] at k;exact di k
theorem take_snoc{α:Type}{l:List α}{i:Nat}{x:α}(h:l[i]?=some x):l.take (i+1)=l.take i++[x]:=by
 rw[List.take_add_one,h];rfl
theorem fi{l:List Nat}{i:Nat}{x:V}(h:(aV l)[i]?=some x):∃m:Nat,l[i]?=some m/\x= .int (m:Nat):=by
 rw[aM] at h;cases e:l[i]? with
 |none=>rw[e] at h;cases h
 |some m=>rw[e] at h;exact⟨m,rfl,(aR h).symm⟩
theorem Bq{l:List Nat}{i m:Nat}(h:l[i]?=some m):(aV l)[i]?=some (.int (m:Nat)):=by
 rw[aM,h];rfl
theorem fc(l:List Nat)(m:Nat):aV (l++[m])=aV l++[.int (m:Nat)]:=cb
theorem small{n:Nat}(h:n<=16777215):n<aG:=by show n<2^24;omega
def uk(T:Tx K mg):Sp:=fun vs H Q _=>∃(c dx:Addr) (n:ji) (now sp:Nat) (ms:List Nat),vs=[.ref c,.int (now:Nat)]/\H c=some (.ins T.da dx (fh n))/\n.span=(sp:Nat)/\H n.mi=some (.lst (aV ms))/\ms.length<aG/\
 ∀(H':Hp) (p:Addr),dc H H'->H p=none->H' p=some (.lst (aV (ms.filter fun m=>decide (now<m+sp))))->Q (.ref p) H'
theorem uD(T:Tx K mg):cz P w K mg base fY 1 T.i4.f T.i4.fd ["self","now"] (uk T):=by
 refine T.i4.F.ok jn (fun vs H Q E h=>?_) (fun dY A outer s H vs Q E hr h=>?_)
 ·obtain⟨c,dx,n,now,sp,ms,rfl,_⟩:=h;rfl
 ·obtain⟨c,dx,n,now,sp,ms,rfl,hc,Qo,hm,hl,k⟩:=h;refine⟨_,(aB (bf (z0 rfl jn.nd (e_ (a_ (pv 0))) (jE (N:=["self","now","minute"]) (sc:=aN j6) (own:=[("minute",2)]) (by decide+kernel)) (fun _ _ _ _ _=>(f7 2 jn.nd)) (fun _ _ _ _ _=>pP (c8 tD (pv 1) (fM j7 (pv 2) (ux (K:=K) rfl (pv 0) rfl)))) (fun _ _ _ _ _=>(pv 2))))),?_⟩;refine⟨_,rfl,_,_,_,_,_,rfl,hc,T.bP,ik T,uE _,_,rfl,⟨_,cF.of hm⟩,fun D hD=>?_⟩;refine oB (xs:=aV ms) (fun i H'=>H' D=some (.lst (aV ((ms.take i).filter fun m=>decide (now<m+sp))))/\dc H H') ⟨ae,aF hD⟩ (fun i H' _ q=>cF.of (q.2 _ _ hm)) ?_ ?_
  ·rintro i x H' hx ⟨h1,h2⟩;obtain⟨m,N3,rfl⟩:=fi hx;refine⟨rfl,_,rfl,_,rfl,_,rfl,_,_,_,_,_,rfl,(h2 _ _ hc),T.bP,pR T,Hu _,_,_,rfl,rfl,_,_,rfl,rfl,_,rfl,?_⟩;rw[Qo];by_cases q:now<m+sp
   ·rw[decide_eq_true (show(now:Int)<(m:Int)+(sp:Int) by omega)];refine c_ ⟨_,rfl,_,h1,?_,?_,?_⟩
    ·rw[ab];exact AZ (aD (bh _ _) (bJ _ _)) hl
    ·rw[ae,take_snoc N3,bM,aZ,decide_eq_true q,if_pos rfl,cx,fc]
    ·exact fun b o e=>by rw[aA (aE e hD)];exact h2 b o e
   ·rw[decide_eq_false (show ¬(now:Int)<(m:Int)+(sp:Int) by omega)];refine di ⟨?_,h2⟩;rw[h1,take_snoc N3,bM,aZ,decide_eq_false q,if_neg aU,cx,cE]
  ·rintro H' ⟨h1,h2⟩;rw[ab,bL] at h1;exact k H' D h2 hD h1
theorem Fh(T:Tx K mg):T.cM≠T.da:=by
 have h:=T.SI;simp only[bG,az] at h;intro e;simp[e] at h
def tj(T:Tx K mg):Sp:=fun vs H Q _=>∃(a:Addr) (i k:Nat) (ρ:Addr->Nat) (t:Tree) (L:TL),vs=[.ref a,.int (i:Nat),.int (k:Nat),.int (t.now:Nat)]/\cy T.cM T.da ρ H a t L/\i<t.nodes.length/\t.log.length<aG/\
 ∀(H':Hp) (L':TL),cy T.cM T.da ρ H' a (Tm.gD k t i) L'->qO ρ H H'->(L'.ch=L.ch/\L'.na=L.na)->Q .gE H'
theorem nZ(T:Tx K mg):cz P w K mg base fY 1 T.j3.f T.j3.fd ["self","number","kind","now"] (tj T):=by
 refine T.j3.F.ok Bf (fun vs H Q E h=>?_) (fun dY A outer s H vs Q E hr h=>?_)
 ·obtain⟨a,i,k,ρ,t,L,rfl,_⟩:=h;rfl
 ·obtain⟨a,i,kd,ρ,t,L,rfl,R,hi,md,k⟩:=h;obtain⟨c,hc⟩:=R.at_ hi;refine⟨_,(ai (c9 (cR (a_ (pv 0)) (pv 1)) qy rfl) (aB (cg (pf (a_ (pv 0)) (Rl (aa (pv 3) (aa (pv 1) (aa (pv 2) ax)))))))),?_⟩;refine⟨_,rfl,_,_,_,_,_,rfl,R.tr,T.bK,bx T,bW _ _,_,rfl,dN (j:=i) R.nl rfl (by rw[aM,hc];rfl) ?_⟩;refine⟨_,_,_,_,rfl,(R.nd i c hc),T.bP,fV T,(by show 11<1000;decide),?_⟩;obtain⟨R1,F1⟩:=R.Q5 (Fh T) hc {af t i with up:=false} rfl (R.NQ i hi) (R.Ql i hi) rfl;rw[Rb];refine⟨_,rfl,_,_,_,_,_,rfl,R1.tr,T.bK,gh T,kG _ _,.inl ⟨rfl,_,cF.of R1.el⟩,_,rfl,_,rfl,_,rfl,(by show 3<=aG;decide),fun q hq=>?_⟩;have s1:=aF (o:= .tup [.int (t.now:Nat),.int (i:Nat),.int (kd:Nat)]) hq;have R2:=R1.same s1;refine⟨_,_,_,rfl,rfl,R2.el,?_,?_⟩
  ·rw[ab,R2.y'];exact md
  ·obtain⟨R3,F3⟩:=R2.tell (q:=q) (i:=i) (k:=kd) ae;exact k _ _ R3 ((F1.trans (qO.of s1)).trans F3) ⟨rfl,rfl⟩
def ui(T:Tx K mg):Sp:=fun vs H Q _=>∃(a:Addr) (i:Nat) (ρ:Addr->Nat) (t:Tree) (L:TL),vs=[.ref a,.int (i:Nat)]/\cy T.cM T.da ρ H a t L/\Tm.WF t/\i<t.nodes.length/\
 ∀(H':Hp) (p:Addr),dc H H'->H p=none->H' p=some (.lst (aV (Tm.below t i)))->Q (.ref p) H'
theorem m6(T:Tx K mg):cz P w K mg base fY 1 T.gz.f T.gz.fd ["self","number"] (ui T):=by
 refine T.gz.F.ok gC (fun vs H Q E h=>?_) (fun dY A outer s H vs Q E hr h=>?_)
 ·obtain⟨a,i,ρ,t,L,rfl,_⟩:=h;rfl
 ·obtain⟨a,i,ρ,t,L,rfl,R,W,hi,k⟩:=h;have hb:=W.tV hi;refine⟨_,(ai (b8 2 gC.nd (bC ax)) (ai (b8 3 gC.nd (bC (aa (pv 1) ax))) (ai (EJ bV (c8 NL (eA T.f9 (pv 3)) a8) (ai (b8 4 gC.nd (W' bT Qh PySem.F.type_list_pop Xk (pv 3))) (ai (cg (pf (pv 2) (pv 4))) (aB (cg (qx bT df dr jP (pv 3) (aa (Mu rfl T.SY rfl T.zc rfl (aa (a_ (cR (a_ (pv 0)) (pv 4))) ax)) ax))))))) (aB (bf (pv 2)))))),?_⟩;refine⟨aT _,fun fo YT=>⟨_,rfl,(by show 1<=aG;decide),fun ah hah=>?_⟩⟩;have s1:dc H (upd H fo (.lst [])):=aF YT;have ZZ:fo≠ah:=fun e=>by rw[<-e,ae] at hah;cases hah
  have aaV:H ah=none:=s1.free hah;refine⟨fun m σ H'=>∃(v:Option V) (fs st:List Nat),σ=[some (.ref a),some (.int (i:Nat)),some (.ref fo),some (.ref ah),v]/\H' fo=some (.lst (aV fs))/\H' ah=some (.lst (aV st))/\dc H H'/\
   (∀c∈st,c<t.nodes.length)/\fs++st.reverse.flatMap (Tm.below t)=Tm.below t i/\m=(st.reverse.flatMap (Tm.below t)).length,⟨_,none,[],[i],rfl,?_,?_,?_,?_,?_,rfl⟩,?_⟩
  ·rw[aA ZZ,ae];rfl
  ·rw[ae];rfl
  ·exact s1.trans (aF hah)
  ·intro c hc;have:c=i:=by simpa using hc
   rw[this];exact hi
  ·simp
  ·rintro m σ H' ⟨v,fs,st,rfl,h1,h2,s2,wH,heq,rfl⟩;have hlen:(aV st).length=st.length:=ab _;refine⟨_,rfl,_,_,rfl,.inl (cF.of h2),_,_,rfl,rfl,_,rfl,?_⟩;rw[hlen];rcases List.eq_nil_or_concat st with e|⟨zF,r,e⟩
   ·
    subst e;rw[decide_eq_false (by simp)];refine di ⟨_,rfl,?_⟩;simp at heq;rw[heq] at h1;exact k H' fo s2 YT h1
   ·rw[List.concat_eq_append] at e;subst e;have Am:r<t.nodes.length:=wH r (by simp);have aam:∀c∈zF,c<t.nodes.length:=fun c hc=>wH c (by simp[hc]);rw[decide_eq_true (by simp)];refine c_ ?_;have aaq:(zF++[r]).reverse.flatMap (Tm.below t)=Tm.below t r++zF.reverse.flatMap (Tm.below t):=by rw[qd,List.reverse_singleton,Mg,bU]
    rw[aaq,W.Ls Am] at heq;have aaK:(aV (zF++[r])).dropLast=aV zF:=by rw[fc,List.dropLast_concat]
    have aaA:(aV (zF++[r]))[(aV (zF++[r])).length -1]?=some (.int (r:Nat)):=by rw[fc];simp
    refine⟨fun σ H'=>∃(v:Option V) (fs st:List Nat),σ=[some (.ref a),some (.int (i:Nat)),some (.ref fo),some (.ref ah),v]/\H' fo=some (.lst (aV fs))/\H' ah=some (.lst (aV st))/\dc H H'/\
     (∀c∈st,c<t.nodes.length)/\fs++st.reverse.flatMap (Tm.below t)=Tm.below t i/\(st.reverse.flatMap (Tm.below t)).length<((zF++[r]).reverse.flatMap (Tm.below t)).length,fun σ' H'' q=>?_,?_⟩
    ·obtain⟨v,fs,st,q1,q2,q3,q4,q5,q6,q7⟩:=q;exact⟨_,q7,v,fs,st,q1,q2,q3,q4,q5,q6,rfl⟩
    refine⟨_,rfl,.inl ⟨rfl,_,cF.of h2⟩,_,_,_,rfl,rfl,h2,aaA,?_⟩;rw[aaK];refine⟨_,rfl,.inl ⟨rfl,_,cF.of (by rw[aA ZZ];exact h1)⟩,_,rfl,_,_,_,rfl,rfl,(by rw[aA ZZ];exact h1),?_,?_⟩
    ·rw[ab];have:=congrArg pz heq;rw[aJ] at this;exact small (by omega)
    have XX:(upd (upd H' ah (.lst (aV zF))) fo (.lst (aV fs++[.int (r:Nat)]))) ah=some (.lst (aV zF)):=by rw[aA ZZ.symm,ae]
    have aev:(upd (upd H' ah (.lst (aV zF))) fo (.lst (aV fs++[.int (r:Nat)]))) fo=some (.lst (aV fs++[.int (r:Nat)])):=ae;have s3:dc H (upd (upd H' ah (.lst (aV zF))) fo (.lst (aV fs++[.int (r:Nat)]))):=fun b o e=>by
     rw[aA (aE e YT),aA (aE e aaV)];exact s2 b o e
    have R3:=R.same s3;obtain⟨c,hc⟩:=R.at_ Am;refine⟨_,rfl,.inl ⟨rfl,_,cF.of XX⟩,_,rfl,_,_,_,_,_,rfl,R3.tr,T.bK,bx T,bW _ _,_,rfl,dN (j:=r) R3.nl rfl (by rw[aM,hc];rfl) ?_⟩;refine⟨_,_,_,_,_,rfl,(R3.nd r c hc),T.bP,fN T,jq _,_,_,rfl,cF.of (R3.Gb r Am),fun l hl=>?_⟩;have s4:=aF (o:= .lst (aV (charges t r)).reverse) hl;have DN:(charges t r).length<=20:=by rw[Tm.dI];exact Tm.iD W.sh r
    have hsl:zF.length<=16777000:=by
     have e1:∀l:List Nat,(∀c∈l,c<t.nodes.length)->l.length<=(l.flatMap (Tm.below t)).length:=by
      intro l
      induction l with
      |nil=>intro _;simp
      |cons c l ih=>
       intro hl;rw[bU,aJ,aQ];have h2:=ih fun d hd=>hl d (aj _ hd);have h3:1<=(Tm.below t c).length:=vB W.FY;omega
     have e2:=e1 zF.reverse fun c hc=>aam c (bR.mp hc);have e3:=congrArg pz heq;rw[aJ,aJ] at e3;rw[dE] at e2;omega
    refine⟨_,_,_,_,rfl,rfl,s4 _ _ XX,ae,?_,?_⟩
    ·rw[ab,dE,ab];show _<=2^24;omega
    ·have nla:ah≠l:=aE XX hl;refine⟨_,fs++[r],zF++(charges t r).reverse,rfl,?_,?_,fun b o e=>?_,?_,?_,?_⟩
     ·rw[aA ZZ,fc];exact s4 _ _ aev
     ·rw[ae];show some (HO.lst (aV zF++(aV (charges t r)).reverse))=_;rw[<-Tr,<-cb]
     ·rw[aA (aE e aaV)];exact s4 b o (s3 b o e)
     ·intro d hd;rcases bQ.mp hd with hd|hd
      ·exact aam d hd
      ·exact(W.dW.mp (bR.mp hd)).1
     ·rw[<-heq,qd,Ni,eO];simp
     ·rw[aaq,W.Ls Am,qd,Ni,eO];simp
theorem N6{K:aq}{a:Addr}{xs:List V}{g:TG}{tb:TS}{D:Ends}{σ:L2.St}{H:Hp}(Pv:Nat->L2.St->Hp->Prop)(h0:Pv 0 σ H)(hl:∀i σ H,i<=xs.length->Pv i σ H->cF K H a xs)
  (hs:∀(i:Nat) x σ H,xs.reverse[i]?=some x->Pv i σ H->g x σ H fun σ2 H2=>tb {D with nx:=Pv (i+1),ct:=Pv (i+1),bk:=D.nx} σ2 H2)(hd:∀σ H,Pv xs.length σ H->D.nx σ H):
  ∃W:Nat->Nat->L2.St->Hp->Prop,(∃m,W 0 m σ H)/\∀i m σ H,W i m σ H->
   ((Itv K a xs.length).stop i H/\D.nx σ H)\/((Itv K a xs.length).go i H/\∃N:L2.St->Hp->Prop,(∀σ' H',N σ' H'->∃m',m'<m/\W (i+1) m' σ' H')/\∀x H',(Itv K a xs.length).QI i H x H'->g x σ H' fun σ2 H2=>tb {D with nx:=N,ct:=N,bk:=D.nx} σ2 H2):=by
 refine⟨fun i m σ H=>m=xs.length -i/\i<=xs.length/\Pv i σ H,⟨xs.length,rfl,aT _,h0⟩,?_⟩;rintro i m σ H ⟨rfl,hi,p⟩;have q:=hl i σ H hi p;by_cases z:i<xs.length
 ·have hx:xs[xs.length -1 -i]?=some xs[xs.length -1 -i]:=aS (by omega);refine .inr ⟨⟨z,xs,_,q,hx⟩,Pv (i+1),fun σ' H' p'=>⟨xs.length -(i+1),by omega,rfl,z,p'⟩,fun x H' y=>?_⟩;obtain⟨e,y⟩:=y;subst e;refine hs i x σ _ ?_ p;rw[Mh z];exact y xs q
 ·have e:i=xs.length:=by omega
  subst e;exact .inl ⟨aL _,hd σ H p⟩
theorem d6(H:Hp)(d:Addr)(x y:HO):upd (upd H d x) d y=upd H d y:=by
 funext b;unfold upd;by_cases e:b=d
 ·rw[if_pos e,if_pos e]
 ·rw[if_neg e,if_neg e,if_neg e]
theorem rq{H:Hp}{q d:Addr}{x y z:HO}(h:q≠d):upd (upd (upd H d x) q z) d y=upd (upd H q z) d y:=by
 funext b;unfold upd;by_cases e:b=d
 ·rw[if_pos e,if_pos e]
 ·rw[if_neg e,if_neg e,if_neg e]
theorem Hy(l:List Nat):(aV l).reverse=aV l.reverse:=Tr.symm
abbrev JQ(T:Tx K mg)(ρ:Addr->Nat)(H:Hp)(a:Addr)(L:TL)(u:Tree)(Q:VK):Prop:=
 ∀(H':Hp) (L':TL),cy T.cM T.da ρ H' a u L'->qO ρ H H'->(L'.ch=L.ch/\L'.na=L.na)->Q .gE H'
def r_(T:Tx K mg):Sp:=fun vs H Q _=>∃(a:Addr) (i:Nat) (ρ:Addr->Nat) (t:Tree) (L:TL),vs=[.ref a,.int (i:Nat),.int (t.now:Nat)]/\cy T.cM T.da ρ H a t L/\Tm.WF t/\i<t.nodes.length/\t.log.length+20<aG/\JQ T ρ H a L (startAt DEEP t i) Q
theorem yp(T:Tx K mg):cz P w K mg base fY 2 T.qN.f T.qN.fd ["self","number","now"] (r_ T):=by
 refine T.qN.F.ok sj (fun vs H Q E h=>?_) (fun dY A outer s H vs Q E hr h=>?_)
 ·obtain⟨a,i,ρ,t,L,rfl,_⟩:=h;rfl
 ·obtain⟨a,i,ρ,t,L,rfl,R,W,hi,md,k⟩:=h;obtain⟨c,hc⟩:=R.at_ hi;have hse:=W.vO hi;refine⟨_,(ai (cX (cZ (a_ (cR (a_ (pv 0)) (pv 1)))) (aB NF) bI) (aB (iM bV rfl (e_ (dR (pv 0) T.bK T.gz (m6 T) hr (aa (pv 1) ax))) (f7 3 sj.nd) (ai (b8 4 sj.nd (cR (a_ (pv 0)) (pv 3))) (ai (c9 (pv 4) qy rfl) (ai (c9 (pv 4) qy rfl) (ai (c9 (pv 4) (bC ax) rfl) (aB (cg (pf (a_ (pv 0)) (Rl (aa (pv 2) (aa (pv 3) (aa (cD T.PN) ax)))))))))))))),?_⟩;refine⟨_,rfl,_,_,_,_,_,rfl,R.tr,T.bK,bx T,bW _ _,_,rfl,dN (j:=i) R.nl rfl (by rw[aM,hc];rfl) ?_⟩;refine⟨_,_,_,_,_,rfl,(R.nd i c hc),T.bP,fV T,oj _,_,rfl,?_⟩;show if(af t i).up=true then _ else _
  by_cases hu:(af t i).up=true
  ·rw[if_pos hu];rw[if_pos hu] at hse;rw[hse] at k;exact k H L R (qO.refl _ _) ⟨rfl,rfl⟩
  ·rw[if_neg hu];rw[if_neg hu] at hse;rw[hse] at k;refine⟨_,rfl,_,_,_,rfl,R.tr,d_ _ _ (by decide+kernel),_,rfl,a,i,ρ,t,L,rfl,R,W,hi,fun H1 p s1 hp h1=>?_⟩;have rp:ρ p=0:=R.free p hp;refine⟨p,rfl,⟨_,cF.of h1⟩,gW (xs:=aV (Tm.below t i)) (fun j σ H'=>∃(v4 v5:Option V) (L':TL),σ=[some (.ref a),some (.int (i:Nat)),some (.int (t.now:Nat)),v4,v5]/\cy T.cM T.da ρ H' a (((Tm.below t i).take j).foldl Tm.fB t) L'/\qO ρ H1 H'/\(L'.ch=L.ch/\L'.na=L.na))
    ⟨none,none,L,rfl,R.same s1,qO.refl _ _,rfl,rfl⟩ (fun j σ H' _ ⟨_,_,_,_,_,f,_⟩=>cF.of (f p _ h1 (.inl rp))) ?_ ?_⟩
   ·rintro j x σ H2 hx ⟨v4,v5,L2,rfl,R2,f2,pS,Co⟩;obtain⟨m,hm,rfl⟩:=fi hx;have hmb:m∈Tm.below t i:=bB hm;have Sd:m<t.nodes.length:=W.AD hi hmb;have wH:=Tm.qi Tm.x' ((Tm.below t i).take j) t;rw[take_snoc hm,gy];have XG:((Tm.below t i).take j).length<=20:=aD (bJ _ _) (W.tV hi);have U':=(Tm.tK (c:=1) (f:=Tm.fB) (fun t i=>by rw[Tm.Ah];omega) ((Tm.below t i).take j) t).2;generalize ht':((Tm.below t i).take j).foldl Tm.fB t=u at R2 wH U'|-
    have hmu:m<u.nodes.length:=by rw[wH.len];exact Sd
    have Bv:u.now=t.now:=wH.now;obtain⟨d,hd⟩:=R2.at_ hmu;refine⟨_,rfl,_,_,_,_,_,rfl,R2.tr,T.bK,bx T,bW _ _,_,rfl,dN (j:=m) R2.nl rfl (by rw[aM,hd];rfl) ?_⟩;refine⟨_,rfl,_,_,_,_,rfl,(R2.nd m d hd),T.bP,fV T,(by show 11<1000;decide),?_⟩;rw[Rb];refine⟨_,rfl,_,_,_,_,rfl,ae,T.bP,lX T,(by show 11<1000;decide),?_⟩;rw[Cd,d6];refine⟨aT _,fun q hq=>?_⟩;have hqd:q≠d:=fun e=>by rw[e,ae] at hq;cases hq
    have hq2:H2 q=none:=by rw[aA hqd] at hq;exact hq
    refine⟨_,rfl,_,_,_,_,rfl,((aA hqd.symm).trans ae),T.bP,ik T,(by show 11<1000;decide),?_⟩;rw[Cc,rq hqd];have s5:=aF (o:= .lst []) hq2;have R5:=R2.same s5;obtain⟨R6,f6⟩:=R5.Q5 (Fh T) hd {af u m with up:=true,byHand:=false,starts:=[]} rfl (p:=q) ae (R2.free q hq2) (D:={h9 u L2 m with up:=true,byHand:=false,mi:=q}) rfl;refine⟨_,rfl,_,_,_,_,_,rfl,R6.tr,T.bK,gh T,kG _ _,.inl ⟨rfl,_,cF.of R6.el⟩,_,rfl,_,rfl,(by show 3<=aG;decide),fun r Am=>?_⟩;have s7:=aF (o:= .tup [.int (t.now:Nat),.int (m:Nat),.int 0]) Am;have R7:=R6.same s7;refine⟨_,_,_,rfl,rfl,R7.el,?_,?_⟩
    ·rw[ab,R7.y'];show u.log.length<_;rw[Nat.one_mul] at U';omega
    ·obtain⟨R8,f8⟩:=R7.tell (q:=r) (i:=m) (k:=0) (by rw[ae];show _=some (HO.tup [.int (u.now:Nat),_,_]);rw[Bv];rfl);exact⟨_,_,_,rfl,R8,(((f2.trans (qO.of s5)).trans f6).trans (qO.of s7)).trans f8,pS,Co⟩
   ·rintro σ H2 ⟨v4,v5,L2,rfl,R2,f2,pS,Co⟩;rw[ab,bL] at R2;exact k H2 L2 R2 ((qO.of s1).trans f2) ⟨pS,Co⟩
def Iu(T:Tx K mg):Sp:=fun vs H Q _=>∃(a:Addr) (i:Nat) (ρ:Addr->Nat) (t:Tree) (L:TL),vs=[.ref a,.int (i:Nat),.int (t.now:Nat)]/\cy T.cM T.da ρ H a t L/\Tm.WF t/\i<t.nodes.length/\t.log.length+20<aG/\JQ T ρ H a L (stopAt DEEP t i) Q
theorem Ae(T:Tx K mg):cz P w K mg base fY 2 T.tX.f T.tX.fd ["self","number","now"] (Iu T):=by
 refine T.tX.F.ok zO (fun vs H Q E h=>?_) (fun dY A outer s H vs Q E hr h=>?_)
 ·obtain⟨a,i,ρ,t,L,rfl,_⟩:=h;rfl
 ·obtain⟨a,i,ρ,t,L,rfl,R,W,hi,md,k⟩:=h;rw[W.wZ hi] at k;refine⟨_,(aB (iM bV rfl (Cf rfl T.zc (aa (dR (pv 0) T.bK T.gz (m6 T) hr (aa (pv 1) ax)) ax)) (f7 3 zO.nd) (aB (cX (cZ (a_ (cR (a_ (pv 0)) (pv 3)))) (aB (cg (dR (pv 0) T.bK T.j3 (nZ T) hr (aa (pv 3) (aa (cD T.PM) (aa (pv 2) ax)))))) bI)))),?_⟩;refine⟨_,rfl,_,_,_,rfl,R.tr,d_ _ _ (by decide+kernel),_,rfl,a,i,ρ,t,L,rfl,R,W,hi,fun H1 p s1 hp h1=>?_⟩;have rp:ρ p=0:=R.free p hp;refine⟨p,_,rfl,cF.of h1,N6 (xs:=aV (Tm.below t i)) (fun j σ H'=>∃(v4:Option V) (L':TL),σ=[some (.ref a),some (.int (i:Nat)),some (.int (t.now:Nat)),v4]/\cy T.cM T.da ρ H' a (((Tm.below t i).reverse.take j).foldl Tm.eZ t) L'/\qO ρ H1 H'/\(L'.ch=L.ch/\L'.na=L.na))
    ⟨none,L,rfl,R.same s1,qO.refl _ _,rfl,rfl⟩ (fun j σ H' _ ⟨_,_,_,_,f,_⟩=>cF.of (f p _ h1 (.inl rp))) ?_ ?_⟩
  ·rintro j x σ H2 hx ⟨v4,L2,rfl,R2,f2,pS,Co⟩;rw[Hy] at hx;obtain⟨m,hm,rfl⟩:=fi hx;have hmb:m∈Tm.below t i:=bR.mp (bB hm);have Sd:m<t.nodes.length:=W.AD hi hmb;have wH:=Tm.qi Tm.zD ((Tm.below t i).reverse.take j) t;have XG:((Tm.below t i).reverse.take j).length<=20:=aD (bJ _ _) (by rw[dE];exact W.tV hi);have U':=(Tm.tK (c:=1) Tm.Ck ((Tm.below t i).reverse.take j) t).2;rw[take_snoc hm,gy];generalize ht':((Tm.below t i).reverse.take j).foldl Tm.eZ t=u at R2 wH U'|-
   have hmu:m<u.nodes.length:=by rw[wH.len];exact Sd
   have Bv:u.now=t.now:=wH.now;obtain⟨d,hd⟩:=R2.at_ hmu;refine⟨_,rfl,_,_,_,_,_,rfl,R2.tr,T.bK,bx T,bW _ _,_,rfl,dN (j:=m) R2.nl rfl (by rw[aM,hd];rfl) ?_⟩;refine⟨_,_,_,_,_,rfl,(R2.nd m d hd),T.bP,fV T,oj _,_,rfl,?_⟩;show if(af u m).up=true then _ else _
   have hso:[m].foldl Tm.eZ u=if(af u m).up=true then Tm.gD 1 u m else u:=rfl
   rw[hso];by_cases hu:(af u m).up=true
   ·rw[if_pos hu,if_pos hu];refine⟨_,rfl,_,_,_,rfl,R2.tr,d_ _ _ (by decide+kernel),_,rfl,_,rfl,a,m,1,ρ,u,L2,?_,R2,hmu,?_,fun H3 L3 R3 f3 LQ=>?_⟩
    ·rw[Bv];rfl
    ·rw[Nat.one_mul] at U';omega
    ·exact⟨_,L3,rfl,R3,f2.trans f3,LQ.1.trans pS,LQ.2.trans Co⟩
   ·rw[if_neg hu,if_neg hu];exact⟨_,L2,rfl,R2,f2,pS,Co⟩
  ·rintro σ H2 ⟨v4,L2,rfl,R2,f2,pS,Co⟩;rw[ab,<-dE,bL] at R2;exact k H2 L2 R2 ((qO.of s1).trans f2) ⟨pS,Co⟩
theorem tM(m:Nat):∀l:List Nat,U3 (.int (m:Nat)) (aV l)=l.contains m
 |[]=>rfl
 |a::l=>by
  have e:PX (.int (a:Nat)) (.int (m:Nat))=(m==a):=by
   show((a:Int)==(m:Int))=(m==a);by_cases q:a=m
   ·subst q;simp
   ·have h1:((a:Int)==(m:Int))=false:=beq_eq_false_iff_ne.mpr (by omega);have h2:(m==a)=false:=beq_eq_false_iff_ne.mpr (fun z=>q z.symm);rw[h1,h2]
  show(PX (.int (a:Nat)) (.int (m:Nat))||U3 (.int (m:Nat)) (aV l))=_;rw[e,tM m l,List.contains_cons]
theorem n6:∀l:List Nat,(aV l).all tR=true
 |[]=>rfl
 |a::l=>n6 l
theorem Vp(a b:Nat):decide (V.int (a:Nat)=V.int (b:Nat))=decide (a=b):=decide_eq_decide.mpr ⟨fun q=>by have:=V.int.inj q;omega,fun q=>by rw[q]⟩
theorem eY(a b:Int):decide (V.int a=V.int b)=decide (a=b):=decide_eq_decide.mpr ⟨fun q=>V.int.inj q,fun q=>by rw[q]⟩
def byHand(t:Tree)(i:Nat):Tree:=fe (stopAt DEEP t i) i {af (stopAt DEEP t i) i with byHand:=true}
def vU(T:Tx K mg):Sp:=fun vs H Q _=>∃(a:Addr) (i:Nat) (ρ:Addr->Nat) (t:Tree) (L:TL),vs=[.ref a,.int (i:Nat),.int (t.now:Nat)]/\cy T.cM T.da ρ H a t L/\Tm.WF t/\i<t.nodes.length/\t.log.length+20<aG/\JQ T ρ H a L (byHand t i) Q
theorem wA(T:Tx K mg):cz P w K mg base fY 3 T.kg.f T.kg.fd ["self","number","now"] (vU T):=by
 refine T.kg.F.ok v_ (fun vs H Q E h=>?_) (fun dY A outer s H vs Q E hr h=>?_)
 ·obtain⟨a,i,ρ,t,L,rfl,_⟩:=h;rfl
 ·obtain⟨a,i,ρ,t,L,rfl,R,W,hi,md,k⟩:=h;refine⟨_,(ai (cg (dR (pv 0) T.bK T.tX (Ae T) hr (aa (pv 1) (aa (pv 2) ax)))) (aB (c9 (cR (a_ (pv 0)) (pv 1)) qy rfl))),?_⟩;refine⟨_,rfl,_,_,_,rfl,R.tr,d_ _ _ (by decide+kernel),_,rfl,_,rfl,a,i,ρ,t,L,rfl,R,W,hi,md,fun H1 L1 R1 f1 xT=>?_⟩;have hi1:i<(stopAt DEEP t i).nodes.length:=by rw[(W.sZ hi).len];exact hi
  obtain⟨c,hc⟩:=R1.at_ hi1;refine⟨_,rfl,_,_,_,_,_,rfl,R1.tr,T.bK,bx T,bW _ _,_,rfl,dN (j:=i) R1.nl rfl (by rw[aM,hc];rfl) ?_⟩;refine⟨_,_,_,_,rfl,(R1.nd i c hc),T.bP,lX T,(by show 11<1000;decide),?_⟩;rw[Cd];obtain⟨R2,f2⟩:=R1.Q5 (Fh T) hc {af (stopAt DEEP t i) i with byHand:=true} rfl (R1.NQ i hi1) (R1.Ql i hi1) rfl;exact k _ _ R2 (f1.trans f2) xT
def M6(ρ:Addr->Nat)(H:Hp)(t:Tree)(L:TL)(l:Addr)(xs:List Nat):Prop:=(ρ l=0/\H l=some (.lst (aV xs)))\/∃p,p<t.nodes.length/\l=L.ch p/\xs=charges t p
theorem M6.now{T:Tx K mg}{ρ:Addr->Nat}{H H':Hp}{a:Addr}{t u:Tree}{L L':TL}{l:Addr}{xs:List Nat}(h:M6 ρ H t L l xs)(f:qO ρ H H')(R':cy T.cM T.da ρ H' a u L')(pS:L'.ch=L.ch)(S:Tm.iW t u):H' l=some (.lst (aV xs)):=by
 rcases h with⟨h1,h2⟩|⟨p,h1,rfl,rfl⟩
 ·exact f l _ h2 (.inl h1)
 ·have:=R'.Gb p (by rw[S.len];exact h1);rw[pS,S.charges] at this;exact this
def zH(T:Tx K mg):Sp:=fun vs H Q _=>∃(a l:Addr) (xs:List Nat) (ρ:Addr->Nat) (t:Tree) (L:TL),vs=[.ref a,.ref l,.int (t.now:Nat)]/\cy T.cM T.da ρ H a t L/\Tm.WF t/\M6 ρ H t L l xs/\(∀c∈xs,c<t.nodes.length)/\xs.length<=20/\t.log.length+420<aG/\
 JQ T ρ H a L (xs.reverse.foldl (stopAt DEEP) t) Q
theorem rM(T:Tx K mg):cz P w K mg base fY 3 T.kS.f T.kS.fd ["self","numbers","now"] (zH T):=by
 refine T.kS.F.ok rG (fun vs H Q E h=>?_) (fun dY A outer s H vs Q E hr h=>?_)
 ·obtain⟨a,l,xs,ρ,t,L,rfl,_⟩:=h;rfl
 ·obtain⟨a,l,xs,ρ,t,L,rfl,R,W,hS,hxs,hlen,md,k⟩:=h;have HG:=hS.now (qO.refl ρ H) R rfl (Tm.iW.rfl' t);refine⟨_,(aB (iM bV rfl (Cf rfl T.zc (aa (pv 1) ax)) (f7 3 rG.nd) (aB (cg (dR (pv 0) T.bK T.tX (Ae T) hr (aa (pv 3) (aa (pv 2) ax))))))),?_⟩;refine⟨_,rfl,l,_,rfl,cF.of HG,N6 (xs:=aV xs) (fun j σ H'=>∃(v:Option V) (L':TL),σ=[some (.ref a),some (.ref l),some (.int (t.now:Nat)),v]/\cy T.cM T.da ρ H' a ((xs.reverse.take j).foldl (stopAt DEEP) t) L'/\qO ρ H H'/\(L'.ch=L.ch/\L'.na=L.na))
   ⟨none,L,rfl,R,qO.refl _ _,rfl,rfl⟩ (fun j σ H' _ ⟨_,L',_,R',f,pS,_⟩=>cF.of (hS.now f R' pS (Tm.lI (xs.reverse.take j) t W fun c hc=>hxs c (bR.mp (gn hc))).2.1)) ?_ ?_⟩
  ·rintro j x σ H2 hx ⟨v,L2,rfl,R2,f2,pS,Co⟩;rw[Hy] at hx;obtain⟨m,hm,rfl⟩:=fi hx;have Sd:m<t.nodes.length:=hxs m (bR.mp (bB hm));obtain⟨W2,S2,_,lg⟩:=Tm.lI (xs.reverse.take j) t W fun c hc=>hxs c (bR.mp (gn hc));have XG:(xs.reverse.take j).length<=20:=aD (bJ _ _) (by rw[dE];exact hlen);rw[take_snoc hm,gy];generalize(xs.reverse.take j).foldl (stopAt DEEP) t=u at R2 W2 S2 lg|-
   refine⟨_,rfl,_,_,_,rfl,R2.tr,d_ _ _ (by decide+kernel),_,rfl,_,rfl,a,m,ρ,u,L2,?_,R2,W2,by rw[S2.len];exact Sd,by omega,fun H3 L3 R3 f3 LQ=>?_⟩
   ·rw[S2.now];rfl
   ·exact⟨_,L3,rfl,R3,f2.trans f3,LQ.1.trans pS,LQ.2.trans Co⟩
  ·rintro σ H2 ⟨v,L2,rfl,R2,f2,pS,Co⟩;rw[ab,<-dE,bL] at R2;exact k H2 L2 R2 f2 ⟨pS,Co⟩
def vj(T:Tx K mg):Sp:=fun vs H Q _=>∃(a:Addr) (i:Nat) (ρ:Addr->Nat) (t:Tree) (L:TL),vs=[.ref a,.int (i:Nat)]/\cy T.cM T.da ρ H a t L/\Tm.WF t/\0<i/\i<t.nodes.length/\(af t i).up=false/\
 ∀(H':Hp) (p:Addr),dc H H'->H p=none->H' p=some (.lst (aV (Tm.along t (af t i).parent i)))->Q (.ref p) H'
theorem vo(T:Tx K mg):cz P w K mg base fY 1 T.jv.f T.jv.fd ["self","number"] (vj T):=by
 refine T.jv.F.ok eR (fun vs H Q E h=>?_) (fun dY A outer s H vs Q E hr h=>?_)
 ·obtain⟨a,i,ρ,t,L,rfl,_⟩:=h;rfl
 ·obtain⟨a,i,ρ,t,L,rfl,R,W,h0,hi,hd,k⟩:=h;have jD:(af t i).parent<t.nodes.length:=by have:=W.kI h0 hi;omega
  have qX:i∈charges t (af t i).parent:=W.dW.mpr ⟨hi,h0,rfl⟩;have aaF:=(W.rg _ jD).2;rw[Tm.S6 qX hd aaF] at k;generalize hp:(af t i).parent=p at jD qX aaF k;obtain⟨c,hc⟩:=R.at_ hi;obtain⟨e,he⟩:=R.at_ jD;have DN:(charges t p).length<=20:=by rw[Tm.dI];exact Tm.iD W.sh p
  refine⟨_,(ai (b8 2 eR.nd (cR (a_ (pv 0)) (a_ (cR (a_ (pv 0)) (pv 1))))) (ai (EK (i:=4) rfl eR.nd rfl rfl (Ik rfl rfl rfl rfl) (e_ (a_ (pv 2))) (jE (N:=["self","number","caretaker","each","ups"]) (sc:=aN iz) (own:=[("each",3)]) (by decide+kernel)) (fun _ _ _ _ _=>(f7 3 eR.nd)) (fun _ _ _ _ _=>pP (cZ (ux (K:=K) rfl (Hr (RN (K:=K) rfl) (ux (K:=K) rfl (pv 0) rfl) (pv 3) (fun _ _=>rfl)) rfl))) (fun _ _ _ _ _=>(pv 3))) (ai (cX (c8 mY (a_ (pv 2)) (cD T.GN)) (aB (bf (pv 4))) bI) (ai (cX (c8 mY (a_ (pv 2)) (cD T.Fy)) (aB (bf (z0 rfl eR.nd (e_ (pv 4)) (jE (N:=["self","number","caretaker","each","ups"]) (sc:=aN iz) (own:=[("each",3)]) (by decide+kernel)) (fun _ _ _ _ _=>(f7 3 eR.nd)) (fun _ _ _ _ _=>pP (c8 NL (pv 3) (pv 1))) (fun _ _ _ _ _=>(pv 3))))) bI) (aB (bf (bC ax))))))),?_⟩;refine⟨_,rfl,_,_,_,_,_,rfl,R.tr,T.bK,bx T,bW _ _,_,rfl,_,_,_,_,_,rfl,R.tr,T.bK,bx T,bW _ _,_,rfl,dN (j:=i) R.nl rfl (by rw[aM,hc];rfl) ?_⟩;refine⟨_,_,_,_,_,rfl,(R.nd i c hc),T.bP,i9 T,oV _,?_⟩;refine dN (j:=p) R.nl (by show((af t i).parent:Int)=_;rw[hp]) (by rw[aM,he];rfl) ?_;refine⟨_,rfl,_,_,_,_,_,rfl,(R.nd p e he),T.bP,fN T,jq _,_,rfl,⟨_,cF.of (R.Gb p jD)⟩,fun D hD=>?_⟩;refine oB (xs:=aV (charges t p)) (fun j H'=>H' D=some (.lst (aV (((charges t p).take j).filter fun m=>(af t m).up)))/\dc H H') ⟨ae,aF hD⟩ (fun j H' _ q=>cF.of (q.2 _ _ (R.Gb p jD))) ?_ ?_
  ·rintro j x H1 hx ⟨h1,h2⟩;obtain⟨m,hm,rfl⟩:=fi hx;have Sd:m<t.nodes.length:=(W.dW.mp (bB hm)).1;obtain⟨d,hdm⟩:=R.at_ Sd;refine⟨rfl,_,rfl,_,_,_,_,_,rfl,(h2 _ _ R.tr),T.bK,bx T,bW _ _,_,rfl,dN (j:=m) (h2 _ _ R.nl) rfl (by rw[aM,hdm];rfl) ?_⟩;refine⟨_,_,_,_,_,rfl,(h2 _ _ (R.nd m d hdm)),T.bP,fV T,oj _,_,rfl,?_⟩;show if(af t m).up=true then _ else _
   by_cases hu:(af t m).up=true
   ·rw[if_pos hu];refine⟨_,rfl,_,h1,?_,?_,fun b o q=>by rw[aA (aE q hD)];exact h2 b o q⟩
    ·rw[ab];exact small (aD (bh _ _) (aD (bJ _ _) (by omega)))
    ·rw[ae,take_snoc hm,bM,aZ,if_pos hu,cx,fc]
   ·rw[if_neg hu];refine⟨?_,h2⟩;rw[h1,take_snoc hm,bM,aZ,if_neg hu,cx,cE]
  ·rintro H1 ⟨h1,h2⟩;rw[ab,bL] at h1;have h1:H1 D=some (.lst (aV (Tm.Ec t p))):=h1;have R1:=R.same h2;refine⟨_,rfl,_,_,_,_,_,rfl,(R1.nd p e he),T.bP,oW T,Fc _,rfl,_,rfl,?_⟩;rw[eY];by_cases w1:(af t p).how=1
   ·rw[if_pos w1] at k;rw[decide_eq_true (show(h9 t L p).way=1 by show((af t p).how:Int)=1;omega)];exact c_ ⟨_,rfl,k H1 D h2 hD h1⟩
   ·rw[if_neg w1] at k;rw[decide_eq_false (show ¬(h9 t L p).way=1 by show ¬((af t p).how:Int)=1;omega)];refine di ⟨_,rfl,_,_,_,_,_,rfl,(R1.nd p e he),T.bP,oW T,Fc _,rfl,_,rfl,?_⟩;rw[eY];by_cases w2:(af t p).how=2
    ·rw[if_pos w2] at k;rw[decide_eq_true (show(h9 t L p).way=2 by show((af t p).how:Int)=2;omega)];refine c_ ⟨_,rfl,_,rfl,⟨_,cF.of h1⟩,fun D2 hD2=>?_⟩;have hul:(Tm.Ec t p).length<=20:=aD (bh _ _) DN;refine oB (xs:=aV (Tm.Ec t p)) (fun j H'=>H' D2=some (.lst (aV (((Tm.Ec t p).take j).filter fun m=>decide (i<m))))/\dc H1 H') ⟨ae,aF hD2⟩ (fun j H' _ q=>cF.of (q.2 _ _ h1)) ?_ ?_
     ·rintro j x H2 hx ⟨g1,g2⟩;obtain⟨m,hm,rfl⟩:=fi hx;refine⟨rfl,_,rfl,_,rfl,_,_,rfl,rfl,_,rfl,?_⟩;by_cases q:i<m
      ·rw[decide_eq_true (show(i:Int)<(m:Int) by omega)];refine c_ ⟨_,rfl,_,g1,?_,?_,fun b o z=>by rw[aA (aE z hD2)];exact g2 b o z⟩
       ·rw[ab];exact small (aD (bh _ _) (aD (bJ _ _) (by omega)))
       ·rw[ae,take_snoc hm,bM,aZ,decide_eq_true q,if_pos rfl,cx,fc]
      ·rw[decide_eq_false (show ¬(i:Int)<(m:Int) by omega)];refine di ⟨?_,g2⟩;rw[g1,take_snoc hm,bM,aZ,decide_eq_false q,if_neg aU,cx,cE]
     ·rintro H2 ⟨g1,g2⟩;rw[ab,bL] at g1;exact k H2 D2 (h2.trans g2) (h2.free hD2) g1
    ·rw[if_neg w2] at k;rw[decide_eq_false (show ¬(h9 t L p).way=2 by show ¬((af t p).how:Int)=2;omega)];refine di ⟨aT _,fun q hq=>?_⟩;exact k _ q (h2.trans (aF hq)) (h2.free hq) ae
theorem HX{t:Tree}(W:Tm.WF t)(p i:Nat):(Tm.along t p i).length<=20:=by
 have k1:(charges t p).length<=20:=by rw[Tm.dI];exact Tm.iD W.sh p
 unfold Tm.along Vbtkaj.upOf;refine aD (bh _ _) ?_;split
 ·exact aT _
 ·split
  ·exact aD (bh _ _) k1
  ·exact aD (by rw[cY];exact Nat.sub_le _ _) (aD (vD _).length_le k1)
def xE(T:Tx K mg):Sp:=fun vs H Q _=>∃(a:Addr) (i:Nat) (ρ:Addr->Nat) (t:Tree) (L:TL),vs=[.ref a,.int (i:Nat),.int (t.now:Nat)]/\cy T.cM T.da ρ H a t L/\Tm.WF t/\0<i/\i<t.nodes.length/\(af t i).up=false/\(af t (af t i).parent).up=true/\t.log.length+850<aG/\
 JQ T ρ H a L (Tm.again t (af t i).parent i) Q
theorem xO(T:Tx K mg):cz P w K mg base fY 4 T.ll.f T.ll.fd ["self","number","now"] (xE T):=by
 refine T.ll.F.ok iZ (fun vs H Q E h=>?_) (fun dY A outer s H vs Q E hr h=>?_)
 ·obtain⟨a,i,ρ,t,L,rfl,_⟩:=h;rfl
 ·obtain⟨a,i,ρ,t,L,rfl,R,W,h0,hi,hd,U5,md,k⟩:=h;have jD:(af t i).parent<t.nodes.length:=by have:=W.kI h0 hi;omega
  have qX:i∈charges t (af t i).parent:=W.dW.mpr ⟨hi,h0,rfl⟩;obtain⟨p,hp⟩:∃p,(af t i).parent=p:=⟨_,rfl⟩;obtain⟨c,hc⟩:=R.at_ hi;obtain⟨e,he⟩:=R.at_ jD;have DN:(charges t p).length<=20:=by rw[Tm.dI];exact Tm.iD W.sh p
  refine⟨_,(ai (b8 3 iZ.nd (a_ (cR (a_ (pv 0)) (a_ (cR (a_ (pv 0)) (pv 1)))))) (ai (b8 4 iZ.nd (dR (pv 0) T.bK T.jv (vo T) hr (aa (pv 1) ax))) (ai (cg (dR (pv 0) T.bK T.kS (rM T) hr (aa (pv 4) (aa (pv 2) ax)))) (aB (iM bV rfl (e_ (pv 3)) (f7 5 iZ.nd) (aB (cX (PW.pt (Cb (c8 mY (pv 5) (pv 1)) (wm (w8 Bl (pv 5) (pv 4) (by with_unfolding_all rfl))))) (aB (cg (dR (pv 0) T.bK T.qN (yp T) hr (aa (pv 5) (aa (pv 2) ax))))) bI))))))),?_⟩;refine⟨_,rfl,_,_,_,_,_,rfl,R.tr,T.bK,bx T,bW _ _,_,rfl,_,_,_,_,_,rfl,R.tr,T.bK,bx T,bW _ _,_,rfl,dN (j:=i) R.nl rfl (by rw[aM,hc];rfl) ?_⟩;refine⟨_,_,_,_,_,rfl,(R.nd i c hc),T.bP,i9 T,oV _,?_⟩;refine dN (j:=(af t i).parent) R.nl rfl (by rw[aM,he];rfl) ?_;refine⟨_,_,_,_,_,rfl,(R.nd _ e he),T.bP,fN T,jq _,?_⟩;refine⟨_,rfl,_,_,_,rfl,R.tr,d_ _ _ (by decide+kernel),_,rfl,a,i,ρ,t,L,rfl,R,W,h0,hi,hd,fun H1 al s1 YX h1=>?_⟩;have R1:=R.same s1;have ral:ρ al=0:=R.free al YX;have U6:∀d∈Tm.along t (af t i).parent i,d<t.nodes.length:=fun d yr=>(W.dW.mp (Tm.p8 yr)).1;refine⟨_,rfl,_,_,_,rfl,R1.tr,d_ _ _ (by decide+kernel),_,rfl,_,rfl,a,al,Tm.along t (af t i).parent i,ρ,t,L,rfl,R1,W,.inl ⟨ral,h1⟩,U6,HX W _ _,by omega,fun H2 L2 R2 f2 uK=>?_⟩;obtain⟨W2,S2,_,lg2⟩:=Tm.lI (Tm.along t (af t i).parent i).reverse t W fun d yr=>U6 d (bR.mp yr);have XW:H2 al=some (.lst (aV (Tm.along t (af t i).parent i))):=f2 _ _ h1 (.inl ral);have U2:(af ((Tm.along t (af t i).parent i).reverse.foldl (stopAt DEEP) t) (af t i).parent).up=true:=by
   rw[Tm.qh _ t W (fun d yr=>U6 d (bR.mp yr)),if_neg]
   ·exact U5
   ·rintro⟨d,yr,m⟩;exact W.tH (Tm.p8 (bR.mp yr)) m
  have hk:JQ T ρ H a L (((charges t (af t i).parent).filter fun j=>j==i||(Tm.along t (af t i).parent i).contains j).foldl (startAt DEEP) ((Tm.along t (af t i).parent i).reverse.foldl (stopAt DEEP) t)) Q:=k;have aaU:=HX W (af t i).parent i;rw[hp] at hk XW U2 lg2 W2 S2 R2 jD aaU;generalize Tm.along t p i=zd at hk XW U2 lg2 W2 S2 R2 aaU;generalize zd.reverse.foldl (stopAt DEEP) t=u at hk U2 lg2 W2 S2 R2;have Vc:charges u p=charges t p:=S2.charges p;have aeF:H2 (L.ch p)=some (.lst (aV (charges t p))):=by
   have:=R2.Gb p (by rw[S2.len];exact jD);rw[uK.1,Vc] at this;exact this
  have e9:(h9 t L (af t i).parent).ch=L.ch p:=by show L.ch _=_;rw[hp]
  rw[e9];refine⟨_,rfl,L.ch p,rfl,⟨_,cF.of aeF⟩,gW (xs:=aV (charges t p)) (fun j σ H'=>∃(v:Option V) (L':TL),σ=[some (.ref a),some (.int (i:Nat)),some (.int (t.now:Nat)),some (.ref (L.ch p)),some (.ref al),v]/\
    cy T.cM T.da ρ H' a ((((charges t p).take j).filter fun j=>j==i||zd.contains j).foldl (startAt DEEP) u) L'/\qO ρ H2 H'/\(L'.ch=L.ch/\L'.na=L.na))
   ⟨none,L2,rfl,R2,qO.refl _ _,uK⟩ (fun j σ H' _ ⟨_,L',_,R',f,pS,_⟩=>?_) ?_ ?_⟩
  ·obtain⟨_,S3,_⟩:=Tm.w6 (((charges t p).take j).filter fun j=>j==i||zd.contains j) u p W2 U2 fun d yr=>by rw[Vc];exact gn (bA.mp yr).1
   have:=R'.Gb p (by rw[S3.len,S2.len];exact jD);rw[pS,S3.charges,Vc] at this;exact cF.of this
  ·rintro j x σ H3 hx ⟨v,L3,rfl,R3,f3,pS,Co⟩;obtain⟨m,hm,rfl⟩:=fi hx;have hmc:m∈charges t p:=bB hm;have Sd:m<t.nodes.length:=(W.dW.mp hmc).1;obtain⟨W3,S3,_,lg3,_⟩:=Tm.w6 (((charges t p).take j).filter fun j=>j==i||zd.contains j) u p W2 U2 fun d yr=>by rw[Vc];exact gn (bA.mp yr).1
   have XG:(((charges t p).take j).filter fun j=>j==i||zd.contains j).length<=20:=aD (bh _ _) (aD (bJ _ _) DN);rw[take_snoc hm,bM,gy];generalize(((charges t p).take j).filter fun j=>j==i||zd.contains j).foldl (startAt DEEP) u=x3 at R3 W3 S3 lg3|-
   have aeK:H3 al=some (.lst (aV zd)):=f3 _ _ XW (.inl ral);rw[dE] at lg2;obtain⟨NX,hNX⟩:∃NX:_root_.L2.St->Hp->Prop,NX=fun σ H'=>∃(v:Option V) (L':TL),σ=[some (.ref a),some (.int (i:Nat)),some (.int (t.now:Nat)),some (.ref (L.ch p)),some (.ref al),v]/\
     cy T.cM T.da ρ H' a (([m].filter fun j=>j==i||zd.contains j).foldl (startAt DEEP) x3) L'/\qO ρ H2 H'/\(L'.ch=L.ch/\L'.na=L.na):=⟨_,rfl⟩
   have yes:(m==i||zd.contains m)=true->∀D:Ends,(∀σ H',NX σ H'->D.nx σ H')->Nw (Ef T.cM "start" (r_ T) [] E0 (r8 0) (lH (r8 5) (lH (r8 2) ve))) D [some (.ref a),some (.int (i:Nat)),some (.int (t.now:Nat)),some (.ref (L.ch p)),some (.ref al),some (.int (m:Nat))] H3:=by
    intro z D hD;refine⟨_,rfl,_,_,_,rfl,R3.tr,d_ _ _ (by decide+kernel),_,rfl,_,rfl,a,m,ρ,x3,L3,?_,R3,W3,by rw[S3.len,S2.len];exact Sd,by omega,fun H4 L4 R4 f4 XE=>hD _ _ ?_⟩
    ·rw[S3.now,S2.now];rfl
    ·rw[hNX,aZ,if_pos z,cx];exact⟨_,L4,rfl,R4,f3.trans f4,XE.1.trans pS,XE.2.trans Co⟩
   have no: ¬(m==i||zd.contains m)=true->NX [some (.ref a),some (.int (i:Nat)),some (.int (t.now:Nat)),some (.ref (L.ch p)),some (.ref al),some (.int (m:Nat))] H3:=by
    intro z;rw[hNX,aZ,if_neg z,cx];exact⟨_,L3,rfl,R3,f3,pS,Co⟩
   refine⟨_,rfl,_,rfl,rfl,_,rfl,?_⟩;rw[Vp];by_cases z:m=i
   ·rw[decide_eq_true z];refine c_ ?_;have e1:(m==i||zd.contains m)=true:=by rw[beq_iff_eq.mpr z,LK]
    exact c_ (yes e1 _ fun σ H' q=>by rw[hNX] at q;exact q)
   ·rw[decide_eq_false z];refine di ⟨_,rfl,_,rfl,_,_,rfl,.inl (cF.of aeK),rfl,n6 _,_,rfl,?_⟩;have e1:(m==i||zd.contains m)=zd.contains m:=by rw[beq_eq_false_iff_ne.mpr z,J1]
    show if U3 (.int (m:Nat)) (aV zd)=true then _ else _
    rw[tM,<-e1];by_cases z2:(m==i||zd.contains m)=true
    ·rw[if_pos z2];exact yes z2 _ fun σ H' q=>by rw[hNX] at q;exact q
    ·rw[if_neg z2];have q:=no z2;rw[hNX] at q;exact q
  ·rintro σ H3 ⟨v,L3,rfl,R3,f3,pS,Co⟩;rw[ab,bL] at R3;exact hk H3 L3 R3 (((qO.of s1).trans f2).trans f3) ⟨pS,Co⟩
def abk(T:Tx K mg)(ρ:Addr->Nat)(H:Hp)(a:Addr)(now:Nat)(L:TL)(due:Tree)(n:Nat)(σ:_root_.L2.St)(H':Hp):Prop:=
 ∃(j:Nat) (f:Bool) (v4 v5 v6:Option V) (t:Tree) (L':TL),σ=[some (.ref a),some (.int (j:Nat)),some (.bl f),some (.int (now:Nat)),v4,v5,v6]/\cy T.cM T.da ρ H' a t L'/\Tm.WF t/\Tm.Mi t/\j<t.nodes.length/\(af t j).up=false/\(j=0\/(af t (af t j).parent).up=true)/\
  t.now=now/\qO ρ H H'/\(L'.ch=L.ch/\L'.na=L.na)/\wentDown n t j f=due/\cO t eG j<=n/\t.log.length+401*n+1300<aG
def vV(T:Tx K mg):Sp:=fun vs H Q _=>∃(a:Addr) (i:Nat) (f:Bool) (ρ:Addr->Nat) (t:Tree) (L:TL),vs=[.ref a,.int (i:Nat),.bl f,.int (t.now:Nat)]/\cy T.cM T.da ρ H a t L/\Tm.WF t/\Tm.Mi t/\i<t.nodes.length/\(af t i).up=false/\(i=0\/(af t (af t i).parent).up=true)/\t.log.length+4000<aG/\
 JQ T ρ H a L (wentDown DEEP t i f) Q
theorem E7(T:Tx K mg):cz P w K mg base fY 5 T.rX.f T.rX.fd ["self","number","failed","now"] (vV T):=by
 refine T.rX.F.ok i8 (fun vs H Q E h=>?_) (fun dY A outer s H vs Q E hr h=>?_)
 ·obtain⟨a,i,f,ρ,t,L,rfl,_⟩:=h;rfl
 ·obtain⟨a,i,f,ρ,t0,L,rfl,R0,W0,M0,hi0,hd0,adV,agl,k⟩:=h;refine⟨_,(aB (EJ bV (PW.pt (Mr (c8 KA (pv 1) a8) (IP (cZ (dR (cR (a_ (pv 0)) (pv 1)) T.bP T.g9 (sC T) hr (aa (pv 2) ax)))))) (ai (b8 4 i8.nd (a_ (cR (a_ (pv 0)) (pv 1)))) (ai (b8 5 i8.nd (cR (a_ (pv 0)) (pv 4))) (ai (b8 6 i8.nd (dR (pv 5) T.bP T.i4 (uD T) hr (aa (pv 3) ax))) (ai (cX (c8 tD (eA T.f9 (pv 6)) (a_ (pv 5))) (ai (c9 (pv 5) (fM mZ (pv 6) (bC (aa (pv 3) ax))) rfl) (ai (cg (dR (pv 0) T.bK T.ll (xO T) hr (aa (pv 1) (aa (pv 3) ax)))) (aB NF))) bI) (ai (cg (dR (pv 0) T.bK T.kS (rM T) hr (aa (a_ (pv 5)) (aa (pv 3) ax)))) (ai (cg (dR (pv 0) T.bK T.j3 (nZ T) hr (aa (pv 4) (aa (cD T.Lb) (aa (pv 3) ax))))) (ai (b8 1 i8.nd (pv 4)) (aB (b8 2 i8.nd qy))))))))))),?_⟩;have hd6:=(W0.d1 hi0).2;refine⟨abk T ρ H a t0.now L (wentDown DEEP t0 i f),⟨6,i,f,none,none,none,t0,L,rfl,R0,W0,M0,hi0,hd0,adV,rfl,qO.refl _ _,⟨rfl,rfl⟩,rfl,by omega,by omega⟩,?_⟩;rintro n σ H1 ⟨j,fl,v4,v5,v6,t,L1,rfl,R,W,M,hj,hjd,hjp,Bv,fr,hl,due,hdp,md⟩;have Wb:=(W.d1 hj).1;obtain⟨n,rfl⟩:∃m,n=m+1:=⟨n -1,by omega⟩;obtain⟨c,hc⟩:=R.at_ hj;have rest:wentDown (n+1) t j fl=t->Q .gE H1:=fun e=>by
   rw[<-due,e] at k;exact k H1 L1 R fr hl
  refine⟨_,rfl,rfl,_,rfl,?_⟩;rw[eY];by_cases z:j=0
  ·rw[decide_eq_true (show((j:Nat):Int)=0 by omega)];refine di (di ?_);refine rest ?_;subst z;exact Tm.OH W hj
  ·rw[decide_eq_false (show ¬((j:Nat):Int)=0 by omega)];have h0:0<j:=by omega
   have jD:(af t j).parent<t.nodes.length:=by have:=W.kI h0 hj;omega
   have h1: ¬(af t j).parent=j:=by have:=W.kI h0 hj;omega
   refine c_ ⟨_,rfl,_,_,_,_,_,rfl,R.tr,T.bK,bx T,bW _ _,_,rfl,dN (j:=j) R.nl rfl (by rw[aM,hc];rfl) ?_⟩;refine⟨_,_,_,rfl,R.nd j c hc,KI _ (by decide+kernel),_,rfl,c,_,h9 t L1 j,fl,rfl,R.nd j c hc,_,rfl,?_⟩;have hw:(decide ((h9 t L1 j).again=0)||(decide ((h9 t L1 j).again=1)&&fl))=Tm.wanted (af t j) fl:=by
    unfold Tm.wanted;have e0:decide ((h9 t L1 j).again=0)=((af t j).again==0):=by
     rw[oJ];exact decide_eq_decide.mpr (by show((af t j).again:Int)=0↔_;omega)
    have e1:decide ((h9 t L1 j).again=1)=((af t j).again==1):=by
     rw[oJ];exact decide_eq_decide.mpr (by show((af t j).again:Int)=1↔_;omega)
    rw[e0,e1]
   rw[hw];have YM:=Tm.Ml (W.rg j hj).1 fl;by_cases V3:Tm.wanted (af t j) fl=true
   ·rw[V3];refine c_ ?_;have h2:=YM.mpr V3;have hpu:=hjp.resolve_left z;obtain⟨p,hp⟩:∃p,(af t j).parent=p:=⟨_,rfl⟩;rw[hp] at jD hpu;obtain⟨e,he⟩:=R.at_ jD;refine⟨abk T ρ H a t0.now L (wentDown DEEP t0 i f) n,fun σ' H' q=>⟨n,jl n,q⟩,?_⟩;refine⟨_,rfl,_,_,_,_,_,rfl,R.tr,T.bK,bx T,bW _ _,_,rfl,dN (j:=j) R.nl rfl (by rw[aM,hc];rfl) ?_⟩;refine⟨_,_,_,_,_,rfl,(R.nd j c hc),T.bP,i9 T,oV _,?_⟩;have e9:(h9 t L1 j).parent=(p:Nat):=by show((af t j).parent:Int)=_;rw[hp]
    rw[e9];refine⟨_,rfl,_,_,_,_,_,rfl,R.tr,T.bK,bx T,bW _ _,_,rfl,dN (j:=p) R.nl rfl (by rw[aM,he];rfl) ?_⟩;refine⟨_,rfl,_,_,_,rfl,R.nd p e he,KI _ (by decide+kernel),_,rfl,e,_,h9 t L1 p,t0.now,(af t p).within,(af t p).starts,rfl,R.nd p e he,rfl,R.NQ p jD,small (by have:=(M p).1;omega),fun H2 lp s2 hlp uK=>?_⟩;have R2:=R.same s2;have rlp:ρ lp=0:=R.free lp hlp;have RX:((af t p).starts.filter fun m=>decide (t0.now<m+(af t p).within))=mh t p:=by unfold mh;rw[Bv]
    rw[RX] at uK;have xg:(mh t p).length<=20:=aD (Tm.Mq t p) (M p).1;refine⟨_,rfl,_,_,rfl,.inl (cF.of uK),_,rfl,_,_,_,_,_,rfl,(R2.nd p e he),T.bP,ou T,Fd _,_,_,rfl,rfl,_,rfl,?_⟩;by_cases h3:(af t p).times<=(mh t p).length
    ·rw[decide_eq_false (show ¬(((aV (mh t p)).length:Nat):Int)<(h9 t L1 p).times by show ¬_<(((af t p).times:Nat):Int);rw[ab];omega)];refine di ?_;have DN:(charges t p).length<=20:=by rw[Tm.dI];exact Tm.iD W.sh p
     have aeC:∀d∈charges t p,d<t.nodes.length:=fun d hd=>(W.dW.mp hd).1;refine⟨_,rfl,_,_,_,rfl,R2.tr,d_ _ _ (by decide+kernel),_,rfl,_,_,_,_,_,rfl,(R2.nd p e he),T.bP,fN T,jq _,_,rfl,a,_,charges t p,ρ,t,L1,by rw[Bv];rfl,R2,W,.inr ⟨p,jD,rfl,rfl⟩,aeC,DN,by omega,fun H3 L3 R3 f3 LQ=>?_⟩;obtain⟨W3,S3,_,lg3⟩:=Tm.lI (charges t p).reverse t W (Tm.n8 W);have wH:=Tm.mz W p;have hlf:=Tm.FI W p;have hwf:=Tm.By W jD;have hmf:=(Tm.FH W p).mi M;have hdf:=Tm.Ld W jD;have XQ:wentDown n (Tm.gX t p) p true=wentDown DEEP t0 i f:=by
      rw[<-due,Tm.A1 h1 h2 (by rw[hp];exact h3),hp];rfl
     have aey:=W.Xa h0 hj;rw[hp] at aey;refine⟨_,rfl,_,_,_,rfl,R3.tr,d_ _ _ (by decide+kernel),_,rfl,_,rfl,a,p,3,ρ,_,L3,by rw[S3.now,Bv];rfl,R3,by rw[S3.len];exact jD,by rw[dE] at lg3;omega,fun H4 L4 R4 f4 XE=>?_⟩;refine⟨_,rfl,p,true,_,_,_,Tm.gX t p,L4,rfl,R4,hwf,hmf,by rw[wH.len];exact jD,hdf,?_,by rw[wH.now];exact Bv,((fr.trans (qO.of s2)).trans f3).trans f4,⟨(XE.1.trans LQ.1).trans hl.1,(XE.2.trans LQ.2).trans hl.2⟩,XQ,by rw[wH.dp];omega,by omega⟩;rcases cG p with q|q
     ·exact .inl q
     ·exact .inr (by rw[wH.par];exact Tm.Bz W jD hpu q)
    ·rw[decide_eq_true (show(((aV (mh t p)).length:Nat):Int)<(h9 t L1 p).times by show _<(((af t p).times:Nat):Int);rw[ab];omega)];refine c_ ?_;refine⟨_,rfl,_,rfl,(by show 1<=aG;decide),fun l1 xT=>⟨_,_,_,_,rfl,rfl,aF xT _ _ uK,ae,?_,fun l3 LQ=>?_⟩⟩
     ·rw[ab];exact cK (small (by show _+1<=_;omega))
     ·have s3:=(aF (o:= .lst [.int (t0.now:Nat)]) xT).trans (aF (o:= .lst (aV (mh t p)++[.int (t0.now:Nat)])) LQ);have R3:=R2.same s3;refine⟨_,rfl,_,_,_,_,rfl,(R3.nd p e he),T.bP,ik T,(by show 11<1000;decide),?_⟩;rw[Cc];obtain⟨R4,f4⟩:=R3.Q5 (Fh T) he {af t p with starts:=mh t p++[t.now]} rfl (p:=l3) (by rw[ae,fc,Bv]) (R2.free l3 ((aF xT).free LQ)) (D:={h9 t L1 p with mi:=l3}) rfl;have S4:=Tm.nR t p;have aas:(af (Tm.u7 t p) j).parent=p:=by rw[S4.par];exact hp
      have XQ:Tm.again (Tm.u7 t p) p j=wentDown DEEP t0 i f:=by rw[<-due,Tm.yH h1 h2 (by rw[hp];exact h3),hp]
      refine⟨_,rfl,_,_,_,rfl,R4.tr,d_ _ _ (by decide+kernel),_,rfl,_,rfl,a,j,ρ,Tm.u7 t p,_,by show _=[V.ref a,.int (j:Nat),.int (t.now:Nat)];rw[Bv];rfl,R4,Tm.E' W p,h0,by rw[S4.len];exact hj,by rw[Tm.sW];exact hjd,by rw[aas,Tm.sW];exact hpu,by rw[Tm.Ht];omega,fun H5 L5 R5 f5 hl5=>?_⟩;rw[aas,XQ] at R5;exact k H5 L5 R5 (((fr.trans (qO.of s2)).trans (qO.of s3)).trans (f4.trans f5)) ⟨hl5.1.trans hl.1,hl5.2.trans hl.2⟩
   ·have hwf:Tm.wanted (af t j) fl=false:=by simpa using V3
    rw[hwf];refine di ?_;refine rest (Tm.p6 (.inr ?_));exact g_ fun q=>V3 (YM.mp q)
def CL(T:Tx K mg):Sp:=fun vs H Q _=>∃(a:Addr) (i:Nat) (f:Bool) (ρ:Addr->Nat) (t:Tree) (L:TL),vs=[.ref a,.int (i:Nat),.bl f,.int (t.now:Nat)]/\cy T.cM T.da ρ H a t L/\Tm.WF t/\Tm.Mi t/\i<t.nodes.length/\(af t i).up=true/\(af t i).keeper=false/\t.log.length+4010<aG/\
 JQ T ρ H a L (wentDown DEEP (Tm.gD (if f=true then 3 else 2) t i) i f) Q
theorem CZ(T:Tx K mg):cz P w K mg base fY 6 T.pV.f T.pV.fd ["self","number","failed","now"] (CL T):=by
 refine T.pV.F.ok CQ (fun vs H Q E h=>?_) (fun dY A outer s H vs Q E hr h=>?_)
 ·obtain⟨a,i,f,ρ,t,L,rfl,_⟩:=h;rfl
 ·obtain⟨a,i,f,ρ,t,L,rfl,R,W,M,hi,hu,hk,md,k⟩:=h;refine⟨_,(ai (cg (dR (pv 0) T.bK T.j3 (nZ T) hr (aa (pv 1) (aa (ES (cZ (pv 2)) (cD T.Lb) (cD T.Vj)) (aa (pv 3) ax))))) (aB (cg (dR (pv 0) T.bK T.rX (E7 T) hr (aa (pv 1) (aa (pv 2) (aa (pv 3) ax))))))),?_⟩;refine⟨_,rfl,_,_,_,rfl,R.tr,d_ _ _ (by decide+kernel),_,rfl,_,rfl,_,rfl,?_⟩;have fin:∀kd:Nat,kd=(if f=true then 3 else 2)->lH (r8 3) ve [some (.ref a),some (.int (i:Nat)),some (.bl f),some (.int (t.now:Nat))] H fun vs H2=>tj T (.ref a::((.int (i:Nat):: .int (kd:Nat)::vs)++[])) H2 (fun _ H1=>Nw (Ef T.cM "see_to" (vV T) [] E0 (r8 0) (lH (r8 1) (lH (r8 2) (lH (r8 3) ve)))) {nx:=fun _ H'=>Q .gE H',rt:=Q} [some (.ref a),some (.int (i:Nat)),some (.bl f),some (.int (t.now:Nat))] H1) E0:=by
   intro kd hkd;refine⟨_,rfl,a,i,kd,ρ,t,L,rfl,R,hi,by omega,fun H1 L1 R1 f1 xT=>?_⟩;have S1:=Tm.jm kd t i;have hd:(af (Tm.gD kd t i) i).up=false:=by rw[Tm.fC,if_pos ⟨rfl,hi⟩]
   refine⟨_,rfl,_,_,_,rfl,R1.tr,d_ _ _ (by decide+kernel),_,rfl,_,rfl,_,rfl,a,i,f,ρ,Tm.gD kd t i,L1,rfl,R1,Tm.Oa W kd hi hk,(Tm.rE kd t i).mi M,by rw[S1.len];exact hi,hd,?_,by rw[Tm.rR];omega,fun H2 L2 R2 f2 uK=>?_⟩
   ·rcases cG i with z|z
    ·exact .inl z
    ·refine .inr ?_;have qY:=W.kI z hi;rw[S1.par,Tm.fC,if_neg (fun q=>by omega)];exact W.cl i hi hu
   ·rw[hkd] at R2;exact k H2 L2 R2 (f1.trans f2) ⟨uK.1.trans xT.1,uK.2.trans xT.2⟩
  cases f with
  |true=>exact c_ (fin 3 rfl)
  |false=>exact di (fin 2 rfl)
theorem cI{fs:List (Str×V)}(hn:(fs.map (·.1)).Nodup){k:Nat}{f:Str}{v:V}(h:fs[k]?=some (f,v)):iA f v (fs.take k)=fs.take (k+1):=by
 rw[take_snoc h];refine Kv fun hm=>?_;obtain⟨p,hp,e⟩:=bz.mp hm;obtain⟨j,hj⟩:=kx.mp hp;have hjk:j<k:=by
  have:=(aP.mp hj).1;rw[dJ] at this;omega
 rw[iX hjk] at hj;have e1:(fs.map (·.1))[j]?=some f:=by rw[aM,hj];exact congrArg some e
 have e2:(fs.map (·.1))[k]?=some f:=by rw[aM,h];rfl
 have:=V1 hn e1 e2;omega
theorem dk{α:Type}{l:List α}{k:Nat}(h:l.length<1000):(l.take k).length<1000:=AZ (bJ _ _) h
def Iv(T:Tx K mg):Sp:=fun vs H Q _=>∃(x dx:Addr),vs=[.ref x]/\H x=some (.ins T.cM dx [])/\∀(H':Hp) (nl el:Addr),H' x=some (.ins T.cM dx (sX nl el))->H' nl=some (.lst [])->H' el=some (.lst [])->H nl=none->H el=none->nl≠el->(∀b o,H b=some o->b≠x->H' b=some o)->Q .gE H'
theorem Ji(T:Tx K mg):cz P w K mg base fY 1 T.p_.f T.p_.fd ["self"] (Iv T):=by
 refine T.p_.F.ok II (fun vs H Q E h=>?_) (fun dY A outer s H vs Q E hr h=>?_)
 ·obtain⟨x,dx,rfl,_⟩:=h;rfl
 ·obtain⟨x,dx,rfl,hx,k⟩:=h;refine⟨_,(ai (c9 (pv 0) (bC ax) rfl) (aB (c9 (pv 0) (bC ax) rfl))),?_⟩;refine⟨aT _,fun nl Sb=>⟨_,rfl,x,_,dx,_,rfl,aF Sb _ _ hx,T.bK,bx T,(by show 0<1000;decide),?_⟩⟩;have hxn:x≠nl:=aE hx Sb;refine⟨aT _,fun el Qq=>⟨_,rfl,x,_,dx,_,rfl,aF Qq _ _ ae,T.bK,gh T,(by show 1<1000;decide),?_⟩⟩;have hxe:x≠el:=fun e=>by rw[<-e,ae] at Qq;cases Qq
  have tN:nl≠el:=fun e=>by rw[<-e,aA hxn.symm,ae] at Qq;cases Qq
  have aaI:H el=none:=by rw[aA hxe.symm,aA tN.symm] at Qq;exact Qq
  have e1:iA "events" (V.ref el) (iA "nodes" (V.ref nl) [])=sX nl el:=by
   show iA "events" (V.ref el) ((sX nl el).take 1)=_;rw[cI (k:=1) (show((sX nl el).map (·.1)).Nodup from Ee) rfl];rfl
  rw[e1];refine k _ nl el ae ?_ ?_ Sb aaI tN (fun b o e hb=>?_)
  ·rw[aA hxn.symm,aA tN,aA hxn.symm,ae]
  ·rw[aA hxe.symm,ae]
  ·rw[aA hb,aA (aE e aaI),aA hb,aA (aE e Sb)];exact e
def ox(p d g:Int)(ch mi:Addr):ji:=⟨p,d,g,false,0,0,0,false,false,ch,mi⟩
def Iy(T:Tx K mg):Sp:=fun vs H Q _=>∃(x dx:Addr) (p d g:Int),vs=[.ref x,.int p,.int d,.int g]/\H x=some (.ins T.da dx [])/\∀(H':Hp) (ch mi:Addr),H' x=some (.ins T.da dx (fh (ox p d g ch mi)))->H' ch=some (.lst [])->H' mi=some (.lst [])->H ch=none->H mi=none->ch≠mi->(∀b o,H b=some o->b≠x->H' b=some o)->Q .gE H'
theorem Af(T:Tx K mg):cz P w K mg base fY 1 T.oa.f T.oa.fd ["self","parent","depth","again"] (Iy T):=by
 refine T.oa.F.ok IJ (fun vs H Q E h=>?_) (fun dY A outer s H vs Q E hr h=>?_)
 ·obtain⟨x,dx,p,d,g,rfl,_⟩:=h;rfl
 ·obtain⟨x,dx,p,d,g,rfl,hx,k⟩:=h;refine⟨_,(ai (c9 (pv 0) (pv 1) rfl) (ai (c9 (pv 0) (pv 2) rfl) (ai (c9 (pv 0) (pv 3) rfl) (ai (c9 (pv 0) qy rfl) (ai (c9 (pv 0) a8 rfl) (ai (c9 (pv 0) a8 rfl) (ai (c9 (pv 0) a8 rfl) (ai (c9 (pv 0) qy rfl) (ai (c9 (pv 0) qy rfl) (ai (c9 (pv 0) (bC ax) rfl) (aB (c9 (pv 0) (bC ax) rfl)))))))))))),?_⟩;have nd:=eW (ox p d g 0 0);have ln:(fh (ox p d g 0 0)).length<1000:=by show 11<1000;decide
  have hx:H x=some (.ins T.da dx ((fh (ox p d g 0 0)).take 0)):=hx;refine⟨_,rfl,_,rfl,x,_,dx,_,rfl,hx,T.bP,i9 T,dk ln,?_⟩;rw[cI (k:=0) (v:=V.int p) nd rfl];refine⟨_,rfl,_,rfl,x,_,dx,_,rfl,ae,T.bP,sF T,dk ln,?_⟩;rw[cI (k:=1) (v:=V.int d) nd rfl,d6];refine⟨_,rfl,_,rfl,x,_,dx,_,rfl,ae,T.bP,ow T,dk ln,?_⟩;rw[cI (k:=2) (v:=V.int g) nd rfl,d6];refine⟨_,rfl,x,_,dx,_,rfl,ae,T.bP,iC T,dk ln,?_⟩;rw[cI (k:=3) (v:=V.bl false) nd rfl,d6];refine⟨_,rfl,x,_,dx,_,rfl,ae,T.bP,oW T,dk ln,?_⟩;rw[cI (k:=4) (v:=V.int 0) nd rfl,d6];refine⟨_,rfl,x,_,dx,_,rfl,ae,T.bP,ou T,dk ln,?_⟩;rw[cI (k:=5) (v:=V.int 0) nd rfl,d6];refine⟨_,rfl,x,_,dx,_,rfl,ae,T.bP,pR T,dk ln,?_⟩;rw[cI (k:=6) (v:=V.int 0) nd rfl,d6];refine⟨_,rfl,x,_,dx,_,rfl,ae,T.bP,fV T,dk ln,?_⟩;rw[cI (k:=7) (v:=V.bl false) nd rfl,d6];refine⟨_,rfl,x,_,dx,_,rfl,ae,T.bP,lX T,dk ln,?_⟩;rw[cI (k:=8) (v:=V.bl false) nd rfl,d6];refine⟨aT _,fun ch pS=>?_⟩;have YK:ch≠x:=fun e=>by rw[e,ae] at pS;cases pS
  have aaQ:H ch=none:=by rw[aA YK] at pS;exact pS
  have nd2:=eW (ox p d g ch 0);refine⟨_,rfl,x,_,dx,_,rfl,(aA YK.symm).trans ae,T.bP,fN T,dk ln,?_⟩;rw[rq YK,show(fh (ox p d g 0 0)).take (8+1)=(fh (ox p d g ch 0)).take 9 from rfl,cI (k:=9) (v:=V.ref ch) nd2 rfl];refine⟨aT _,fun mi N3=>?_⟩;have hxm:mi≠x:=fun e=>by rw[e,ae] at N3;cases N3
  have U_:upd H ch (.lst []) mi=none:=by rw[aA hxm] at N3;exact N3
  have PH:ch≠mi:=fun e=>by rw[<-e,ae] at U_;cases U_
  have aaw:H mi=none:=by rw[aA PH.symm] at U_;exact U_
  have nd3:=eW (ox p d g ch mi);refine⟨_,rfl,x,_,dx,_,rfl,(aA hxm.symm).trans ae,T.bP,ik T,dk (by show 11<1000;decide),?_⟩;rw[rq hxm,show(fh (ox p d g ch 0)).take (9+1)=(fh (ox p d g ch mi)).take 10 from rfl,cI (k:=10) (v:=V.ref mi) nd3 rfl];refine k _ ch mi (by rw[ae];rfl) ?_ ?_ aaQ aaw PH (fun b o e hb=>?_)
  ·rw[aA YK,aA PH,ae]
  ·rw[aA hxm,ae]
  ·rw[aA hb,aA (aE e aaw),aA (aE e aaQ)];exact e
end
open Vbtkaj (nodeAt setNode tell charges depthOf startAt stopAt wentDown NODES DEEP recent inside noNode)
def HY(ρ:Addr->Nat)(H:Hp)(ρ':Addr->Nat)(H':Hp):Prop:=∀b o,H b=some o->ρ' b=ρ b/\((ρ b=0\/1000<=ρ b)->H' b=some o)
theorem HY.of{ρ:Addr->Nat}{H H':Hp}(f:qO ρ H H'):HY ρ H ρ H':=fun b o e=>⟨rfl,f b o e⟩
theorem HY.trans{ρ ρ1 ρ2:Addr->Nat}{H H1 H2:Hp}(f:HY ρ H ρ1 H1)(fr:∀b,H1 b=none->ρ1 b=0)(g:HY ρ1 H1 ρ2 H2):HY ρ H ρ2 H2:=fun b o e=>by
 obtain⟨h1,h2⟩:=f b o e;by_cases r:ρ b=0\/1000<=ρ b
 ·obtain⟨h3,h4⟩:=g b o (h2 r);exact⟨h3.trans h1,fun _=>h4 (by rw[h1];exact r)⟩
 ·cases q:H1 b with
  |none=>have:=fr b q;omega
  |some o1=>exact⟨(g b o1 q).1.trans h1,fun z=>absurd z r⟩
theorem HY.none{ρ ρ':Addr->Nat}{H H':Hp}(f:HY ρ H ρ' H')(fr:∀b,H' b=none->ρ' b=0){p:Addr}(h:H' p=none):H p=none:=by
 cases q:H p with
 |none=>rfl
 |some o=>
  obtain⟨h1,h2⟩:=f p o q;rw[h2 (.inl (by rw[<-h1];exact fr p h))] at h;cases h
def Dv(ρ:Addr->Nat)(n:Nat)(x ch:Addr):Addr->Nat:=fun b=>if b=x then 10+n else if b=ch then 100+n else ρ b
def VA(L:TL)(n:Nat)(x dx ch mi:Addr):TL:={L with na:=L.na++[x],ch:=fun i=>if i=n then ch else L.ch i,mi:=fun i=>if i=n then mi else L.mi i,nx:=fun i=>if i=n then dx else L.nx i}
theorem cy.add{cT cN:Addr}{ρ:Addr->Nat}{H H3:Hp}{a:Addr}{t:Tree}{L:TL}(R:cy cT cN ρ H a t L)(hTN:cT≠cN){n:Node}(wN:t.nodes.length<20){x dx ch mi:Addr}(nx:H x=none)(Pc:H ch=none)(Xg:H mi=none)(Z0:ch≠mi)
  (hdo:∀i,i<t.nodes.length->cO (Tm.added t n) eG i=cO t eG i)
  (hx:H3 x=some (.ins cN dx (fh ⟨n.parent,cO (Tm.added t n) eG t.nodes.length,n.again,n.keeper,n.how,n.times,n.within,n.up,n.byHand,ch,mi⟩)))
  (pS:H3 ch=some (.lst (aV (charges (Tm.added t n) t.nodes.length))))(N3:H3 mi=some (.lst (aV n.starts)))(Sb:H3 L.nl=some (.lst ((L.na++[x]).map V.ref)))
  (hold:∀i,i<t.nodes.length->H3 (L.ch i)=some (.lst (aV (charges (Tm.added t n) i))))(keep:∀b o,H b=some o->b≠L.nl->(∀i,i<t.nodes.length->b≠L.ch i)->H3 b=some o):
  cy cT cN (Dv ρ t.nodes.length x ch) H3 a (Tm.added t n) (VA L t.nodes.length x dx ch mi)/\HY ρ H (Dv ρ t.nodes.length x ch) H3:=by
 have hlen:(Tm.added t n).nodes.length=t.nodes.length+1:=Tm.j0 t n;have role:∀b o,H b=some o->Dv ρ t.nodes.length x ch b=ρ b:=fun b o e=>by
  unfold Dv;rw[if_neg (aE e nx),if_neg (aE e Pc)]
 have Z8:∀b C d fs,H b=some (.ins C d fs)->H3 b=some (.ins C d fs):=fun b C d fs e=>keep b _ e (dF R.nl e).symm fun i hi=>(dF (R.Gb i hi) e).symm;have adz:∀b xs,H b=some (.tup xs)->H3 b=some (.tup xs):=fun b xs e=>keep b _ e (ug e R.nl) fun i hi=>ug e (R.Gb i hi);have kro:∀b o,H b=some o->(ρ b=0\/ρ b=2\/1000<=ρ b)->H3 b=some o:=fun b o e r=>by
  refine keep b o e (fun q=>?_) fun i hi q=>?_
  ·rw[q,R.Q7] at r;omega
  ·rw[q,R.OY i hi] at r;omega
 refine⟨⟨Z8 _ _ _ _ R.tr,Sb,?_,fun i c hc=>?_,fun i hi=>?_,fun i hi=>?_,kro _ _ R.el (.inr (.inl R.rel)),R.y',fun k c e h1 h2=>adz _ _ (R.X5 k c e h1 h2),?_,?_,fun i c hc=>?_,fun i hi=>?_,fun i hi=>?_,fun b hb=>?_,?_⟩,fun b o e=>⟨role b o e,fun r=>kro b o e (by omega)⟩⟩
 ·show(L.na++[x]).length=_;rw[aJ,hlen,R.tI];rfl
 ·have hc:(L.na++[x])[i]?=some c:=hc;by_cases q:i<t.nodes.length
  ·rw[cq (by rw[R.tI];exact q)] at hc;have e:h9 (Tm.added t n) (VA L t.nodes.length x dx ch mi) i=h9 t L i:=by
    unfold h9 VA;rw[Tm.gS t n q,hdo i q];simp[b9 q]
   rw[e];show H3 c=some (.ins cN (if i=t.nodes.length then dx else L.nx i) _);rw[if_neg (b9 q)];exact Z8 _ _ _ _ (R.nd i c hc)
  ·rw[dA (by rw[R.tI];omega),R.tI] at hc;cases w:i -t.nodes.length with
   |succ r=>rw[w] at hc;cases hc
   |zero=>
    rw[w] at hc;have ex:x=c:=aR hc;have ei:i=t.nodes.length:=by omega
    subst ex ei;rw[hx];unfold h9 VA;rw[Tm.il];simp
 ·rw[hlen] at hi;show H3 (if i=t.nodes.length then ch else L.ch i)=_;by_cases q:i=t.nodes.length
  ·rw[if_pos q,q];exact pS
  ·rw[if_neg q];exact hold i (by omega)
 ·rw[hlen] at hi;show H3 (if i=t.nodes.length then mi else L.mi i)=_;by_cases q:i=t.nodes.length
  ·rw[if_pos q,q,Tm.il];exact N3
  ·have C8:i<t.nodes.length:=by omega
   rw[if_neg q,Tm.gS t n C8];exact kro _ _ (R.NQ i C8) (.inl (R.Ql i C8))
 ·show Dv ρ t.nodes.length x ch L.nl=1;rw[role _ _ R.nl];exact R.Q7
 ·show Dv ρ t.nodes.length x ch L.el=2;rw[role _ _ R.el];exact R.rel
 ·have hc:(L.na++[x])[i]?=some c:=hc;by_cases q:i<t.nodes.length
  ·rw[cq (by rw[R.tI];exact q)] at hc;rw[role _ _ (R.nd i c hc)];exact R.rn i c hc
  ·rw[dA (by rw[R.tI];omega),R.tI] at hc;cases w:i -t.nodes.length with
   |succ r=>rw[w] at hc;cases hc
   |zero=>
    rw[w] at hc;have ex:x=c:=aR hc;have ei:i=t.nodes.length:=by omega
    subst ex ei;unfold Dv;rw[if_pos rfl]
 ·rw[hlen] at hi;show Dv ρ t.nodes.length x ch (if i=t.nodes.length then ch else L.ch i)=100+i;by_cases q:i=t.nodes.length
  ·have hcx:ch≠x:=dF pS hx;rw[if_pos q,q];unfold Dv;rw[if_neg hcx,if_pos rfl]
  ·have C8:i<t.nodes.length:=by omega
   rw[if_neg q,role _ _ (R.Gb i C8)];exact R.OY i C8
 ·rw[hlen] at hi;show Dv ρ t.nodes.length x ch (if i=t.nodes.length then mi else L.mi i)=0;by_cases q:i=t.nodes.length
  ·have hmx:mi≠x:=dF N3 hx;rw[if_pos q];unfold Dv;rw[if_neg hmx,if_neg Z0.symm];exact R.free mi Xg
  ·have C8:i<t.nodes.length:=by omega
   rw[if_neg q,role _ _ (R.NQ i C8)];exact R.Ql i C8
 ·have h1:b≠x:=fun q=>by rw[q,hx] at hb;cases hb
  have h2:b≠ch:=fun q=>by rw[q,pS] at hb;cases hb
  unfold Dv;rw[if_neg h1,if_neg h2];refine R.free b ?_;cases q:H b with
  |none=>rfl
  |some o=>
   exfalso;by_cases e1:b=L.nl
   ·rw[e1,Sb] at hb;cases hb
   ·by_cases e2:∃i,i<t.nodes.length/\b=L.ch i
    ·obtain⟨i,hi,e⟩:=e2;rw[e,hold i hi] at hb;cases hb
    ·rw[keep b o q e1 fun i hi e=>e2 ⟨i,hi,e⟩] at hb;cases hb
 ·rw[hlen];omega
section
variable{P:bq}{w:cf}{K:aq}{mg:Str->Option ao}{base:Heap}
def uA(t:Tree)(p:Int):Nat:=if t.nodes.isEmpty=true then 0 else p.toNat
def qg(t:Tree)(p:Int)(g:Nat):Node:={LV with parent:=uA t p,again:=g}
def M8(t:Tree)(p:Int):Prop:=t.nodes.length<20/\(t.nodes=[]\/(0<=p/\p.toNat<t.nodes.length/\(af t p.toNat).keeper=true/\cO t eG p.toNat+1<=5))
def A'(T:Tx K mg):Sp:=fun vs H Q _=>∃(a:Addr) (p:Int) (g:Nat) (ρ:Addr->Nat) (t:Tree) (L:TL),vs=[.ref a,.int p,.int (g:Nat)]/\cy T.cM T.da ρ H a t L/\Tm.WF t/\M8 t p/\
 ∀(H':Hp) (ρ':Addr->Nat) (L':TL),cy T.cM T.da ρ' H' a (Tm.added t (qg t p g)) L'->HY ρ H ρ' H'->Q (.int (t.nodes.length:Nat)) H'
theorem tG(T:Tx K mg):cz P w K mg base fY 3 T.lT.f T.lT.fd ["self","parent","again"] (A' T):=by
 refine T.lT.F.ok k5 (fun vs H Q E h=>?_) (fun dY A outer s H vs Q E hr h=>?_)
 ·obtain⟨a,p,g,ρ,t,L,rfl,_⟩:=h;rfl
 ·obtain⟨a,p,g,ρ,t,L,rfl,R,W,⟨wN,may⟩,k⟩:=h;have hN:(L.na.map V.ref).length=t.nodes.length:=by rw[ab];exact R.tI
  refine⟨_,(ai (b8 3 k5.nd (eA T.f9 (a_ (pv 0)))) (ai (cX (c8 mY (pv 3) a8) (aB (b8 4 k5.nd (DI T.oa.I (Af T) (hr.mono (by decide:2<=2)) rfl T.Sk (yw T) .nil wu (aa (pv 3) (aa a8 (aa (pv 2) ax)))))) (ai (b8 4 k5.nd (DI T.oa.I (Af T) (hr.mono (by decide:2<=2)) rfl T.Sk (yw T) .nil wu (aa (pv 1) (aa (fM j7 (a_ (cR (a_ (pv 0)) (pv 1))) a8) (aa (pv 2) ax))))) (aB (cg (pf (a_ (cR (a_ (pv 0)) (pv 1))) (pv 3)))))) (ai (cg (pf (a_ (pv 0)) (pv 4))) (aB (bf (pv 3)))))),?_⟩;refine⟨_,rfl,_,_,_,_,_,rfl,R.tr,T.bK,bx T,bW _ _,_,_,rfl,.inl (cF.of R.nl),?_⟩;rw[hN];refine⟨_,rfl,rfl,_,rfl,?_⟩;rw[eY];by_cases z:t.nodes=[]
  ·have HG:t.nodes.length=0:=by rw[z];rfl
   rw[decide_eq_true (show((t.nodes.length:Nat):Int)=0 by omega)];refine c_ ?_;refine⟨_,rfl,_,rfl,fun x dx nx nd ne=>⟨x,dx,_,_,_,rfl,ae,fun H1 ch mi hx pS N3 Pc Xg Z0 kp=>⟨rfl,?_⟩⟩⟩;have Z6:dc H H1:=dc.made nx nd kp;have R1:=R.same Z6;refine⟨_,rfl,_,_,_,_,_,rfl,R1.tr,T.bK,bx T,bW _ _,.inl ⟨rfl,_,cF.of R1.nl⟩,_,rfl,_,_,_,rfl,rfl,R1.nl,by rw[hN];exact small (by omega),?_⟩;refine⟨_,rfl,?_⟩;have RZ:(qg t p g).parent=0:=by show uA t p=0;unfold uA;rw[if_pos (by rw[z];rfl)]
   have MB:H ch=none:=by
    cases q:H ch with
    |none=>rfl
    |some o=>rw[aA (aE q nx),aA (aE q nd),q] at Pc;cases Pc
   have MA:H mi=none:=by
    cases q:H mi with
    |none=>rfl
    |some o=>rw[aA (aE q nx),aA (aE q nd),q] at Xg;cases Xg
   have n1:x≠L.nl:=fun q=>by rw[q,R.nl] at nx;cases nx
   have n2:ch≠L.nl:=fun q=>by rw[q,R.nl] at MB;cases MB
   have n3:mi≠L.nl:=fun q=>by rw[q,R.nl] at MA;cases MA
   obtain⟨R2,f2⟩:=R.add (H3:=upd H1 L.nl (.lst (L.na.map V.ref++[.ref x]))) (Fh T) (n:=qg t p g) wN (x:=x) (dx:=dx) (ch:=ch) (mi:=mi) nx MB MA Z0 (fun i hi=>by omega)
    (by rw[aA n1,hx,HG,Tm.Lc z RZ,RZ];rfl) (by rw[aA n2,pS,HG,Tm.GO z];rfl) (by rw[aA n3,N3];rfl) (by rw[ae,cb];rfl) (fun i hi=>by omega) (fun b o e hb _=>by rw[aA hb];exact Z6 b o e)
   exact k _ _ _ R2 f2
  ·obtain⟨p0,jD,hk,hd⟩:=may.resolve_left z;have HG: ¬t.nodes.length=0:=fun q=>z (ft.mp q);rw[decide_eq_false (show ¬((t.nodes.length:Nat):Int)=0 by omega)];refine di ?_;obtain⟨q,hq⟩:∃q,p.toNat=q:=⟨_,rfl⟩;have hpq:p=(q:Nat):=by omega
   rw[hq] at jD hk hd;obtain⟨e,he⟩:=R.at_ jD;have RZ:(qg t p g).parent=q:=by
    show uA t p=q;unfold uA;rw[if_neg (by simpa using z)];exact hq
   have DN:(charges t q).length<=20:=by rw[Tm.dI];exact Tm.iD W.sh q
   refine⟨_,rfl,_,rfl,_,_,_,_,_,rfl,R.tr,T.bK,bx T,bW _ _,_,rfl,dN (j:=q) R.nl hpq (by rw[aM,he];rfl) ?_⟩;refine⟨_,_,_,_,_,rfl,(R.nd q e he),T.bP,sF T,Fe _,_,_,rfl,rfl,_,rfl,fun x dx nx nd ne=>⟨x,dx,_,_,_,rfl,ae,fun H1 ch mi hx pS N3 Pc Xg Z0 kp=>⟨rfl,?_⟩⟩⟩;have Z6:dc H H1:=dc.made nx nd kp;have R1:=R.same Z6;have MB:H ch=none:=by
    cases q:H ch with
    |none=>rfl
    |some o=>rw[aA (aE q nx),aA (aE q nd),q] at Pc;cases Pc
   have MA:H mi=none:=by
    cases q:H mi with
    |none=>rfl
    |some o=>rw[aA (aE q nx),aA (aE q nd),q] at Xg;cases Xg
   refine⟨_,rfl,_,_,_,_,_,rfl,R1.tr,T.bK,bx T,bW _ _,_,rfl,dN (j:=q) R1.nl hpq (by rw[aM,he];rfl) ?_⟩;refine⟨_,_,_,_,_,rfl,(R1.nd q e he),T.bP,fN T,jq _,.inl ⟨rfl,_,cF.of (R1.Gb q jD)⟩,_,rfl,_,_,_,rfl,rfl,R1.Gb q jD,by rw[ab];exact small (by omega),?_⟩;have hcq:L.ch q≠L.nl:=fun z=>by have:=R.OY q jD;rw[z,R.Q7] at this;omega
   have htr:upd H1 (L.ch q) (.lst (aV (charges t q)++[.int (t.nodes.length:Nat)])) a=some (.ins T.cM L.dx (sX L.nl L.el)):=by rw[aA (dF (R1.Gb q jD) R1.tr).symm];exact R1.tr
   have aau:upd H1 (L.ch q) (.lst (aV (charges t q)++[.int (t.nodes.length:Nat)])) L.nl=some (.lst (L.na.map V.ref)):=by rw[aA hcq.symm];exact R1.nl
   refine⟨_,rfl,_,_,_,_,_,rfl,htr,T.bK,bx T,bW _ _,.inl ⟨rfl,_,cF.of aau⟩,_,rfl,_,_,_,rfl,rfl,aau,by rw[hN];exact small (by omega),?_⟩;refine⟨_,rfl,?_⟩;have tN:∀b,H b=none->b≠L.nl/\b≠L.ch q:=fun b hb=>⟨fun z=>(by rw[z,R.nl] at hb;cases hb),fun z=>(by rw[z,R.Gb q jD] at hb;cases hb)⟩;obtain⟨R2,f2⟩:=R.add (H3:=upd (upd H1 (L.ch q) (.lst (aV (charges t q)++[.int (t.nodes.length:Nat)]))) L.nl (.lst (L.na.map V.ref++[.ref x]))) (Fh T) (n:=qg t p g) wN (x:=x) (dx:=dx) (ch:=ch) (mi:=mi) nx MB MA Z0 (fun i hi=>Tm.kQ W _ _ _ hi)
    (by rw[aA (tN x nx).1,aA (tN x nx).2,hx,Tm.BA W (by rw[RZ];exact jD) wN,RZ,hpq];rfl)
    (by rw[aA (tN ch MB).1,aA (tN ch MB).2,pS,Tm.Ll W (by rw[RZ];exact jD)];rfl)
    (by rw[aA (tN mi MA).1,aA (tN mi MA).2,N3];rfl) (by rw[ae,cb];rfl)
    (fun i hi=>by
     have h1:L.ch i≠L.nl:=fun z=>by have:=R.OY i hi;rw[z,R.Q7] at this;omega
     rw[aA h1,Tm.GP W (by rw[RZ];exact jD) i hi,RZ];by_cases z:i=q
     ·rw[z,ae,if_pos rfl,fc]
     ·have h2:L.ch i≠L.ch q:=fun y=>by
       have a1:=R.OY i hi;have a2:=R.OY q jD;rw[y] at a1;omega
      rw[aA h2,if_neg z,cE];exact R1.Gb i hi)
    (fun b o e hb hc=>by rw[aA hb,aA (hc q jD)];exact Z6 b o e)
   exact k _ _ _ R2 f2
def uj(T:Tx K mg):Sp:=fun vs H Q _=>∃(a:Addr) (i h n s:Nat) (ρ:Addr->Nat) (t:Tree) (L:TL),vs=[.ref a,.int (i:Nat),.int (h:Nat),.int (n:Nat),.int (s:Nat)]/\cy T.cM T.da ρ H a t L/\i<t.nodes.length/\
 JQ T ρ H a L (fe t i {af t i with keeper:=true,how:=h,times:=n,within:=s}) Q
theorem uC(T:Tx K mg):cz P w K mg base fY 1 T.i3.f T.i3.fd ["self","number","way","times","span"] (uj T):=by
 refine T.i3.F.ok mU (fun vs H Q E h=>?_) (fun dY A outer s H vs Q E hr h=>?_)
 ·obtain⟨a,i,h,n,s,ρ,t,L,rfl,_⟩:=h;rfl
 ·obtain⟨a,i,hw,n,sp,ρ,t,L,rfl,R,hi,k⟩:=h;obtain⟨c,hc⟩:=R.at_ hi;refine⟨_,(ai (b8 5 mU.nd (cR (a_ (pv 0)) (pv 1))) (ai (c9 (pv 5) qy rfl) (ai (c9 (pv 5) (pv 2) rfl) (ai (c9 (pv 5) (pv 3) rfl) (aB (c9 (pv 5) (pv 4) rfl)))))),?_⟩;refine⟨_,rfl,_,_,_,_,_,rfl,R.tr,T.bK,bx T,bW _ _,_,rfl,dN (j:=i) R.nl rfl (by rw[aM,hc];rfl) ?_⟩;refine⟨_,rfl,_,_,_,_,rfl,(R.nd i c hc),T.bP,iC T,(by show 11<1000;decide),?_⟩;rw[GC];refine⟨_,rfl,_,rfl,_,_,_,_,rfl,ae,T.bP,oW T,(by show 11<1000;decide),?_⟩;rw[UC,d6];refine⟨_,rfl,_,rfl,_,_,_,_,rfl,ae,T.bP,ou T,(by show 11<1000;decide),?_⟩;rw[O1,d6];refine⟨_,rfl,_,rfl,_,_,_,_,rfl,ae,T.bP,pR T,(by show 11<1000;decide),?_⟩;rw[Rc,d6];obtain⟨R2,f2⟩:=R.Q5 (Fh T) hc {af t i with keeper:=true,how:=hw,times:=n,within:=sp} rfl (R.NQ i hi) (R.Ql i hi) (D:={h9 t L i with xl:=true,way:=(hw:Nat),times:=(n:Nat),span:=(sp:Nat)}) rfl;exact k _ _ R2 f2 ⟨rfl,rfl⟩
abbrev bO(l:List Int):List V:=l.map V.int
theorem Fs{l:List Int}{i:Nat}{x:V}(h:(bO l)[i]?=some x):∃m:Int,l[i]?=some m/\x= .int m:=by
 rw[aM] at h;cases e:l[i]? with
 |none=>rw[e] at h;cases h
 |some m=>rw[e] at h;exact⟨m,rfl,(aR h).symm⟩
def nv:List Int->List (Int×Int)->Bool
 |n::ns,r::rs=>aO n r.1 r.2&&nv ns rs
 |_,_=>true
theorem FZ:∀{ns:List Int} {rs:List (Int×Int)} {i:Nat} {n:Int} {r:Int×Int},ns[i]?=some n->rs[i]?=some r->nv (ns.take (i+1)) (rs.take (i+1))=(nv (ns.take i) (rs.take i)&&aO n r.1 r.2)
 |[],_,_,_,_,h,_=>by simp at h
 |_::_,[],_,_,_,_,h=>by simp at h
 |a::ns,b::rs,0,n,r,h1,h2=>by
  have e1:a=n:=aR h1;have e2:b=r:=aR h2;subst e1 e2;simp[nv]
 |a::ns,b::rs,i+1,n,r,h1,h2=>by
  have ih:=FZ (ns:=ns) (rs:=rs) (i:=i) h1 h2;show(aO a b.1 b.2&&nv (ns.take (i+1)) (rs.take (i+1)))=((aO a b.1 b.2&&nv (ns.take i) (rs.take i))&&aO n r.1 r.2);rw[ih,ly]
theorem Cw:∀{ns:List Int} {rs:List (Int×Int)} {i:Nat} {n:Int} {r:Int×Int},ns[i]?=some n->rs[i]?=some r->aO n r.1 r.2=false->nv ns rs=false
 |[],_,_,_,_,h,_,_=>by simp at h
 |_::_,[],_,_,_,_,h,_=>by simp at h
 |a::ns,b::rs,0,n,r,h1,h2,h=>by
  have e1:a=n:=aR h1;have e2:b=r:=aR h2;subst e1 e2;simp[nv,h]
 |a::ns,b::rs,i+1,n,r,h1,h2,h=>by
  show(aO a b.1 b.2&&nv ns rs)=false;rw[Cw (ns:=ns) (rs:=rs) (i:=i) h1 h2 h,VM]
abbrev pairsOf(rs:List (Int×Int)):List (List Int):=rs.map fun r=>[r.1,r.2]
def Gr(K:aq):Sp:=fun vs H Q _=>∃(nu ra:Addr) (ns:List Int) (rs:List (Int×Int)),vs=[.ref nu,.ref ra]/\H nu=some (.lst (bO ns))/\AN K ra (pairsOf rs)/\ns.length=rs.length/\∀H',dc H H'->Q (.bl (nv ns rs)) H'
theorem iN(T:Tx K mg):cz P w K mg base fY 2 T.iQ.f T.iQ.fd ["numbers","ranges"] (Gr K):=by
 refine T.iQ.F.ok si (fun vs H Q E h=>?_) (fun dY A outer s H vs Q E hr h=>?_)
 ·obtain⟨nu,ra,ns,rs,rfl,_⟩:=h;rfl
 ·obtain⟨nu,ra,ns,rs,rfl,fJ,⟨as,YX,hra,K3⟩,hlen,k⟩:=h;have YX:as.length=rs.length:=by rw[YX];exact ab _
  refine⟨_,(ai (iM bV rfl (O4 rfl T.SV (aa (pv 0) (aa (pv 1) ax))) (Mt rfl (oR (f7 2 si.nd) (oR (f7 3 si.nd) DH))) (aB (cX (d8 (cZ (dm T.gR (gc T) hr (aa (pv 2) (aa (Hr Js (pv 3) a8 (fun _ _=>rfl)) (aa (Hr Js (pv 3) a8 (fun _ _=>rfl)) ax)))))) (aB (bf qy)) bI))) (aB (bf qy))),?_⟩;refine⟨_,rfl,_,rfl,nu,ra,_,_,rfl,cF.of fJ,hra H,fun i m σ H'=>m=ns.length -i/\i<=ns.length/\∃v2 v3:Option V,σ=[some (.ref nu),some (.ref ra),v2,v3]/\dc H H'/\nv (ns.take i) (rs.take i)=true,⟨_,rfl,aT _,none,none,rfl,dc.refl _,rfl⟩,?_⟩;rintro i m σ H1 ⟨rfl,hi,v2,v3,rfl,s1,uL⟩;by_cases z:i<ns.length
  ·have h1:ns[i]?=some ns[i]:=aS z;have z2:i<rs.length:=by omega
   have z3:i<as.length:=by omega
   have h2:rs[i]?=some rs[i]:=aS z2;have h3:as[i]?=some as[i]:=aS z3;have h4:∀H,JO K H as[i] [.int rs[i].1,.int rs[i].2]:=K3 i as[i] [rs[i].1,rs[i].2] h3 (by rw[aM,h2];rfl);refine .inr ⟨⟨_,_,.int ns[i],.ref as[i],cF.of (s1 _ _ fJ),hra H1,by rw[aM,h1];rfl,by rw[aM,h3];rfl⟩,fun σ' H'=>∃v2 v3:Option V,σ'=[some (.ref nu),some (.ref ra),v2,v3]/\dc H H'/\nv (ns.take (i+1)) (rs.take (i+1))=true,fun σ' H' q=>⟨_,by omega,rfl,z,q⟩,?_⟩;rintro v H2 ⟨Tp,x,y,rfl,hT,rfl,hx,hy⟩;have ex:x= .int ns[i]:=by
    have:=hx _ (cF.of (s1 _ _ fJ));rw[aM,h1] at this;exact(aR this).symm
   have ey:y= .ref as[i]:=by
    have:=hy _ (hra H1);rw[aM,h3] at this;exact(aR this).symm
   subst ex ey;have s2:dc H (upd H1 Tp (.tup [.int ns[i],.ref as[i]])):=s1.trans (aF hT);refine⟨Tp,_,rfl,.inl (.inl ae),rfl,_,_,rfl,_,_,rfl,rfl,?_⟩;refine⟨_,rfl,_,rfl,_,_,_,_,rfl,rfl,h4 _,at_of (j:=0) rfl rfl,_,rfl,_,_,_,_,rfl,rfl,h4 _,at_of (j:=1) rfl rfl,_,_,_,rfl,_,rfl,?_⟩;cases q:aO ns[i] rs[i].1 rs[i].2 with
   |true=>
    refine di ⟨_,_,rfl,s2,?_⟩;rw[FZ h1 h2,uL,q];rfl
   |false=>
    refine c_ ?_;have:=k _ s2;rw[Cw h1 h2 q] at this;exact this
  ·have e:i=ns.length:=by omega
   subst e;refine .inl ⟨⟨_,cF.of (s1 _ _ fJ),by rw[ab];exact aL _⟩,?_⟩;have:=k _ s1;rw[bL,hlen,bL] at uL;rw[uL] at this;exact this
def W6:Option Int->V
 |none=>.gE
 |some e=>.int e
def rQ(t:Tree)(p:Int):Option Int:=je {tree:=t,store:=lU} p
def A8(T:Tx K mg):Sp:=fun vs H Q _=>∃(a:Addr) (p:Int) (ρ:Addr->Nat) (t:Tree) (L:TL),vs=[.ref a,.int p]/\cy T.cM T.da ρ H a t L/\Tm.WF t/\Q (W6 (rQ t p)) H
theorem tE(T:Tx K mg):cz P w K mg base fY 2 T.lM.f T.lM.fd ["tree","parent"] (A8 T):=by
 refine T.lM.F.ok Bd (fun vs H Q E h=>?_) (fun dY A outer s H vs Q E hr h=>?_)
 ·obtain⟨a,p,ρ,t,L,rfl,_⟩:=h;rfl
 ·obtain⟨a,p,ρ,t,L,rfl,R,W,k⟩:=h;have hN:(L.na.map V.ref).length=t.nodes.length:=by rw[ab];exact R.tI
  have wN:=R.wN;refine⟨_,(ai (cX (c8 mY (eA T.f9 (a_ (pv 0))) (cD T.Jz)) (aB (bf (cD T.MO))) bI) (ai (cX (c8 mY (eA T.f9 (a_ (pv 0))) a8) (aB (bf (ES (c8 mY (pv 1) (Hq A2 a8)) nV (cD T.iF)))) bI) (ai (cX (PW.pt (Cb (d8 (cZ (dR (pv 0) T.bK T.o5 (oU T) hr (aa (pv 1) ax)))) (wm (d8 (cZ (a_ (cR (a_ (pv 0)) (pv 1)))))))) (aB (bf (cD T.iF))) bI) (ai (cX (cZ (a_ (cR (a_ (pv 0)) (pv 1)))) (aB (bf (cD T.oC))) bI) (ai (cX (c8 mY (a_ (cR (a_ (pv 0)) (pv 1))) (cD T.Bw)) (aB (bf (cD T.wI))) bI) (aB (bf nV))))))),?_⟩;unfold rQ je at k
  dsimp only at k
  refine⟨_,rfl,_,_,_,_,_,rfl,R.tr,T.bK,bx T,bW _ _,_,_,rfl,.inl (cF.of R.nl),rfl,_,rfl,?_⟩;rw[hN,eY];by_cases c1:eG<=t.nodes.length
  ·rw[if_pos c1] at k;have c1:20<=t.nodes.length:=c1;rw[decide_eq_true (show((t.nodes.length:Nat):Int)=20 by omega)];exact c_ k
  ·rw[if_neg c1] at k;have c1: ¬20<=t.nodes.length:=c1;rw[decide_eq_false (show ¬((t.nodes.length:Nat):Int)=20 by omega)];refine di ⟨_,rfl,_,_,_,_,_,rfl,R.tr,T.bK,bx T,bW _ _,_,_,rfl,.inl (cF.of R.nl),rfl,_,rfl,?_⟩;rw[hN,eY];by_cases c2:t.nodes=[]
   ·have HG:t.nodes.length=0:=by rw[c2];rfl
    rw[if_pos (by rw[c2];rfl)] at k;rw[decide_eq_true (show((t.nodes.length:Nat):Int)=0 by omega)];refine c_ ⟨_,rfl,_,rfl,rfl,_,rfl,?_⟩;rw[eY];by_cases c3:p= -1
    ·rw[if_pos c3] at k;rw[decide_eq_true c3];exact c_ k
    ·rw[if_neg c3] at k;rw[decide_eq_false (show ¬p= -1 from c3)];exact di k
   ·have HG: ¬t.nodes.length=0:=fun q=>c2 (ft.mp q);rw[if_neg (by simpa using c2)] at k;rw[decide_eq_false (show ¬((t.nodes.length:Nat):Int)=0 by omega)];refine di ⟨_,rfl,_,_,_,rfl,R.tr,d_ _ _ (by decide+kernel),_,rfl,a,p,ρ,t,L,rfl,R,_,rfl,?_⟩;have aer:qQ {tree:=t,store:=lU} p=aO p 0 (aw t.nodes.length -1):=rfl;rw[aer] at k;cases q:aO p 0 (aw t.nodes.length -1) with
    |false=>
     rw[if_pos (.inl q)] at k;exact c_ (c_ k)
    |true=>
     refine di ?_;have hp:0<=p/\p.toNat<t.nodes.length:=by
      unfold aO aw at q;rw[aW] at q;have q1:=of_decide_eq_true q.1;have q2:p<=((t.nodes.length:Nat):Int) -1:=of_decide_eq_true q.2;omega
     obtain⟨e,he⟩:=R.at_ hp.2;refine⟨_,rfl,_,_,_,_,_,rfl,R.tr,T.bK,bx T,bW _ _,_,rfl,dN (j:=p.toNat) R.nl (by omega) (by rw[aM,he];rfl) ?_⟩;refine⟨_,_,_,_,_,rfl,(R.nd _ e he),T.bP,iC T,qC _,_,rfl,?_⟩;show if(!(af t p.toNat).keeper)=true then _ else _
     cases q2:(af t p.toNat).keeper with
     |false=>
      rw[if_pos (.inr q2)] at k;exact c_ k
     |true=>
      rw[if_neg (by rw[q,q2];simp)] at k;refine di ⟨_,rfl,_,_,_,_,_,rfl,R.tr,T.bK,bx T,bW _ _,_,rfl,dN (j:=p.toNat) R.nl (by omega) (by rw[aM,he];rfl) ?_⟩;refine⟨_,_,_,_,_,rfl,(R.nd _ e he),T.bP,fV T,oj _,_,rfl,?_⟩;show if(af t p.toNat).up=true then _ else _
      by_cases q3:(af t p.toNat).up=true
      ·rw[if_pos q3] at k|-
       exact k
      ·rw[if_neg q3] at k|-
       refine⟨_,rfl,_,_,_,_,_,rfl,R.tr,T.bK,bx T,bW _ _,_,rfl,dN (j:=p.toNat) R.nl (by omega) (by rw[aM,he];rfl) ?_⟩;refine⟨_,_,_,_,_,rfl,(R.nd _ e he),T.bP,sF T,Fe _,rfl,_,rfl,?_⟩;rw[eY];have hd:=(W.d1 hp.2).2;by_cases q4:Wo<=cO t eG p.toNat+1
       ·rw[if_pos q4] at k;have q4:6<=cO t eG p.toNat+1:=q4;rw[decide_eq_true (show(h9 t L p.toNat).depth=5 by show((cO t eG p.toNat:Nat):Int)=5;omega)];exact c_ k
       ·rw[if_neg q4] at k;have q4: ¬6<=cO t eG p.toNat+1:=q4;rw[decide_eq_false (show ¬(h9 t L p.toNat).depth=5 by show ¬((cO t eG p.toNat:Nat):Int)=5;omega)];exact di k
theorem FR(xs:List V)(n:Nat)(h:n<=xs.length):wO xs (some (n:Int)) none=xs.drop n:=by
 unfold wO;have e1:HT.F' xs.length 0 (some (n:Int))=n:=by rw[HT.DG];omega
 have e2:HT.F' xs.length xs.length none=xs.length:=by unfold HT.F';simp
 rw[e1,e2];exact jI (by rw[cY];exact aL _)
theorem rV(xs:List V)(a n:Nat):wO xs (some (a:Int)) (some ((a:Int)+(n:Int)))=(xs.drop a).take n:=by
 unfold wO;have e1:HT.F' xs.length 0 (some (a:Int))=min a xs.length:=HT.DG _ _ _;have e2:HT.F' xs.length xs.length (some ((a:Int)+(n:Int)))=min (a+n) xs.length:=by rw[show(a:Int)+(n:Int)=((a+n:Nat):Int) by omega];exact HT.DG _ _ _
 rw[e1,e2];by_cases h:a<=xs.length
 ·rw[gB h];by_cases h2:a+n<=xs.length
  ·rw[gB h2,Nat.add_sub_cancel_left]
  ·rw[lF (by omega),jI (by rw[cY];exact aL _),jI (by rw[cY];omega)]
 ·rw[nG (by omega),nG (by omega)];simp
def h_(now:Int)(ta st:Addr):List (Str×V):=[("now",.int now),("tree",.ref ta),("store",.ref st)]
abbrev abc:List Str:=["now","tree","store"]
theorem Sy:abc.Nodup:=by decide+kernel
theorem qK(n:Int)(a b:Addr):((h_ n a b).map (·.1)).Nodup:=Sy
theorem kO(n:Int)(a b:Addr):(h_ n a b).lookup ("now":Str)=some (V.int n):=cC (i:=0) (qK n a b) rfl
theorem gv(n:Int)(a b:Addr):(h_ n a b).lookup ("tree":Str)=some (V.ref a):=cC (i:=1) (qK n a b) rfl
theorem eB(n:Int)(a b:Addr):(h_ n a b).lookup ("store":Str)=some (V.ref b):=cC (i:=2) (qK n a b) rfl
structure DT(T:Tx K mg)(ρ:Addr->Nat)(H:Hp)(d ta st dx:Addr)(t:Tree)(L:TL):Prop where
 de:H d=some (.ins T.fG dx (h_ (t.now:Nat) ta st))
 rd:1000<=ρ d
 tr:cy T.cM T.da ρ H ta t L
 wf:Tm.WF t
 mi:Tm.Mi t
 lg:t.log.length+10000<aG
def F0(T:Tx K mg)(ρ:Addr->Nat)(H:Hp)(ta:Addr)(t t':Tree)(xV:List Int)(Q:VK):Prop:=
 ∀(H':Hp) (ρ':Addr->Nat) (L':TL) (p:Addr),cy T.cM T.da ρ' H' ta t' L'->Tm.WF t'->Tm.Mi t'->t'.log.length<=t.log.length+5000->HY ρ H ρ' H'->H' p=some (.lst (bO xV))->ρ' p=0->H p=none->Q (.ref p) H'
def Ob(t:Tree)(c:bg):Tree×List Int:=((a9 {tree:=t,store:=lU} c).1.tree,(a9 {tree:=t,store:=lU} c).2)
def mN(T:Tx K mg)(n:Nat)(c:List Int->bg):Sp:=fun vs H Q _=>∃(d nu ta st dx:Addr) (ρ:Addr->Nat) (t:Tree) (L:TL) (ns:List Int),vs=[.ref d,.ref nu]/\DT T ρ H d ta st dx t L/\H nu=some (.lst (bO ns))/\ρ nu=0/\ns.length=n/\
 F0 T ρ H ta t (Ob t (c ns)).1 (Ob t (c ns)).2 Q
theorem F0.keep{T:Tx K mg}{ρ:Addr->Nat}{H H1:Hp}{d ta st dx:Addr}{t:Tree}{L:TL}{xV:List Int}{Q:VK}(k:F0 T ρ H ta t t xV Q)(D:DT T ρ H d ta st dx t L)(s:dc H H1){p:Addr}(hp:H p=none)(h:H1 p=some (.lst (bO xV))):Q (.ref p) H1:=
 k H1 ρ L p (D.tr.same s) D.wf D.mi (by omega) (HY.of (qO.of s)) h (D.tr.free p hp) hp
def ae1(l:List Event):List Int:=aw l.length::l.flatMap fun e=>[aw e.node,aw e.kind]
def vP(T:Tx K mg):Sp:=fun vs H Q _=>∃(a:Addr) (n:Nat) (ρ:Addr->Nat) (t:Tree) (L:TL),vs=[.ref a,.int (n:Nat)]/\cy T.cM T.da ρ H a t L/\n<=t.log.length/\t.log.length -n<=8000/\
 ∀(H':Hp) (p:Addr),dc H H'->H p=none->H' p=some (.lst (bO (0::ae1 (t.log.drop n))))->Q (.ref p) H'
theorem Sr{cT cN:Addr}{ρ:Addr->Nat}{H:Hp}{a:Addr}{t:Tree}{L:TL}(R:cy cT cN ρ H a t L){n j:Nat}{x:V}(h:((L.ev.map V.ref).drop n)[j]?=some x):∃(c:Addr) (e:Event),x= .ref c/\(t.log.drop n)[j]?=some e/\H c=some (evV e):=by
 rw[mH,aM] at h;cases q:L.ev[n+j]? with
 |none=>rw[q] at h;cases h
 |some c=>
  rw[q] at h;have qY:n+j<t.log.length:=by rw[<-R.y'];exact(aP.mp q).1
  refine⟨c,t.log[n+j],(aR h).symm,?_,R.X5 (n+j) c _ q (aS qY)⟩;rw[mH,aS qY]
theorem qz(T:Tx K mg):cz P w K mg base fY 1 T.mn.f T.mn.fd ["tree","first"] (vP T):=by
 refine T.mn.F.ok mP (fun vs H Q E h=>?_) (fun dY A outer s H vs Q E hr h=>?_)
 ·obtain⟨a,n,ρ,t,L,rfl,_⟩:=h;rfl
 ·obtain⟨a,n,ρ,t,L,rfl,R,hn,Vb,k⟩:=h;have hL:(L.ev.map V.ref).length=t.log.length:=by rw[ab];exact R.y'
  have hD:((L.ev.map V.ref).drop n).length=(t.log.drop n).length:=by rw[cY,cY,hL]
  refine⟨_,(ai (b8 2 mP.nd (lN oh (a_ (pv 0)) (k6 (pv 1)) uv)) (ai (b8 3 mP.nd (bC (aa a8 (aa (eA T.f9 (pv 2)) ax)))) (ai (iM bV rfl (e_ (pv 2)) (f7 4 mP.nd) (aB (cg (qx bT df dr jP (pv 3) (aa (bC (aa (Hr Js (pv 4) a8 (fun _ _=>rfl)) (aa (Hr Js (pv 4) a8 (fun _ _=>rfl)) ax))) ax))))) (aB (bf (pv 3)))))),?_⟩;refine⟨_,rfl,_,_,_,_,_,rfl,R.tr,T.bK,gh T,kG _ _,_,rfl,_,rfl,_,_,rfl,cF.of R.el,fun ev XM=>?_⟩;rw[FR _ n (by rw[hL];exact hn)];have s1:=aF (o:= .lst ((L.ev.map V.ref).drop n)) XM;refine⟨_,rfl,_,_,rfl,.inl (cF.of ae),(by show 2<=aG;decide),fun an Cq=>?_⟩;have Sh:H an=none:=s1.free Cq;have Xi:ev≠an:=fun e=>by rw[<-e,ae] at Cq;cases Cq
  have s2:=s1.trans (aF (o:= .lst [.int 0,.int (((L.ev.map V.ref).drop n).length:Nat)]) Cq);refine⟨_,rfl,ev,rfl,⟨_,cF.of (by rw[aA Xi,ae])⟩,gW (xs:=(L.ev.map V.ref).drop n) (fun j σ H'=>∃v:Option V,σ=[some (.ref a),some (.int (n:Nat)),some (.ref ev),some (.ref an),v]/\dc H H'/\H' ev=some (.lst ((L.ev.map V.ref).drop n))/\
    H' an=some (.lst (bO (0::aw (t.log.drop n).length::((t.log.drop n).take j).flatMap fun e=>[aw e.node,aw e.kind])))) ⟨none,rfl,s2,by rw[aA Xi,ae],by rw[ae,hD];rfl⟩ (fun j σ H' _ ⟨_,_,_,h,_⟩=>cF.of h) ?_ ?_⟩
  ·rintro j x σ H1 hx ⟨v,rfl,s3,he,ha⟩;obtain⟨c,e,rfl,hej,_⟩:=Sr R hx;obtain⟨c',e',YV,aaJ,hc⟩:=Sr (R.same s3) hx;cases YV;rw[hej] at aaJ;cases aaJ;have hlen:(((t.log.drop n).take j).flatMap fun e=>[aw e.node,aw e.kind]).length<=16000:=by
    have:∀l:List Event,(l.flatMap fun e=>[aw e.node,aw e.kind]).length=2*l.length:=by
     intro l
     induction l with
     |nil=>rfl
     |cons a l ih=>rw[bU,aJ,ih,aQ];show 2+2*l.length=2*(l.length+1);omega
    rw[this];have h1:=bJ j (t.log.drop n);rw[cY] at h1;omega
   refine⟨_,rfl,.inl ⟨rfl,_,cF.of ha⟩,_,rfl,_,_,_,_,rfl,rfl,.inl (.inl hc),at_of (j:=1) rfl rfl,_,rfl,_,_,_,_,rfl,rfl,.inl (.inl hc),at_of (j:=2) rfl rfl,(by show 2<=aG;decide),fun q hq=>?_⟩;have s4:=aF (o:= .lst [.int (e.node:Nat),.int (e.kind:Nat)]) hq;refine⟨_,_,_,_,rfl,rfl,s4 _ _ ha,ae,?_,?_⟩
   ·rw[ab,aQ,aQ];exact cK (small (by show _+2<=_;omega))
   ·have nqa:an≠q:=aE ha hq;have nee:ev≠an:=Xi;refine⟨_,rfl,fun b o z=>by rw[aA (aE z Sh)];exact s4 b o (s3 b o z),by rw[aA nee];exact s4 _ _ he,?_⟩;rw[ae,take_snoc hej,eO];simp[aw]
  ·rintro σ H1 ⟨v,rfl,s3,he,ha⟩;rw[hD,bL] at ha;exact⟨_,rfl,k H1 an s3 Sh ha⟩
abbrev s0(t:Tree):State:={tree:=t,store:=lU}
theorem qG{i:Int}{n:Nat}(h:aO i 0 (aw n -1)=true):0<=i/\i.toNat<n:=by
 unfold aO aw at h;rw[aW] at h;have q1:=of_decide_eq_true h.1;have q2:i<=((n:Nat):Int) -1:=of_decide_eq_true h.2;omega
theorem NM{t:Tree}{i:Int}{f:Nat->Node->State×List Int}(h:aO i 0 (aw t.nodes.length -1)=false):iU (s0 t) i f=(s0 t,[-2]):=if_pos h
theorem IT{t:Tree}{i:Int}{f:Nat->Node->State×List Int}(h:aO i 0 (aw t.nodes.length -1)=true):iU (s0 t) i f=f i.toNat (af t i.toNat):=if_neg (by show ¬aO i 0 (aw t.nodes.length -1)=false;rw[h];exact a0)
theorem ee{t:Tree}{c:bg}{u:Tree}{l:List Int}{S:VC}(h:a9 (s0 t) c=({tree:=u,store:=S},l)):Ob t c=(u,l):=by
 unfold Ob;rw[show a9 {tree:=t,store:=lU} c=_ from h]
theorem A6(t:Tree)(i:Nat)(b:Bool):Tm.iW t (fe t i {af t i with byHand:=b}):=
 ⟨Tm.yW _ _ _ rfl,fun j=>by rw[Tm.jr];split;(rename_i h;rw[h.1]);rfl,rfl,fun j=>by rw[Tm.jr];split;(rename_i h;rw[h.1];exact⟨rfl,rfl⟩);exact⟨rfl,rfl⟩⟩
theorem Nr(t:Tree)(i j:Nat)(b:Bool):(af (fe t i {af t i with byHand:=b}) j).up=(af t j).up:=by
 rw[Tm.jr];split
 ·rename_i h;rw[h.1]
 ·rfl
theorem T5{t:Tree}(W:Tm.WF t)(i:Nat)(b:Bool):Tm.WF (fe t i {af t i with byHand:=b}):=by
 refine(A6 t i b).wf W fun j hj hu=>?_;rw[Nr,(A6 t i b).par];rw[Nr] at hu;rw[(A6 t i b).len] at hj;exact W.cl j hj hu
theorem Q3(t:Tree)(i:Nat)(b:Bool):Tm.Dx t (fe t i {af t i with byHand:=b}):=fun j=>by
 rw[Tm.jr];split
 ·rename_i h;rw[h.1];exact⟨aL _,rfl⟩
 ·exact⟨aL _,rfl⟩
theorem eJ{ns:List Int}(h:ns.length=1):∃i,ns=[i]:=by
 match ns,h with
 |[i],_=>exact⟨i,rfl⟩
theorem nQ{ns:List Int}(h:ns.length=2):∃i j,ns=[i,j]:=by
 match ns,h with
 |[i,j],_=>exact⟨i,j,rfl⟩
abbrev Oi:List Int->bg:=fun ns=>.boot (ns.getD 0 0)
theorem Jf(T:Tx K mg):cz P w K mg base fY 3 T.jY.f T.jY.fd ["desk","numbers"] (mN T 1 Oi):=by
 refine T.jY.F.ok pO (fun vs H Q E h=>?_) (fun dY A outer s H vs Q E hr h=>?_)
 ·obtain⟨d,nu,ta,st,dx,ρ,t,L,ns,rfl,_⟩:=h;rfl
 ·obtain⟨d,nu,ta,st,dx,ρ,t,L,ns,rfl,D,fJ,qW,hlen,k⟩:=h;obtain⟨i,rfl⟩:=eJ hlen;have R:=D.tr;have W:=D.wf;have lg:=D.lg;refine⟨_,(ai (b8 2 pO.nd (cR (pv 1) a8)) (ai (b8 3 pO.nd (a_ (pv 0))) (ai (cX (d8 (cZ (dR (pv 3) T.bK T.o5 (oU T) hr (aa (pv 2) ax)))) (aB (bf (bC (aa (cD T.iF) ax)))) bI) (ai (cX (cZ (a_ (cR (a_ (pv 3)) (pv 2)))) (aB (bf (bC (aa (cD T.oC) ax)))) bI) (ai (cX (PW.pt (Mr (c8 KA (pv 2) a8) (IP (d8 (cZ (a_ (cR (a_ (pv 3)) (a_ (cR (a_ (pv 3)) (pv 2)))))))))) (aB (bf (bC (aa (cD T.wI) ax)))) bI) (ai (b8 4 pO.nd (eA T.f9 (a_ (pv 3)))) (ai (cg (dR (pv 3) T.bK T.qN (yp T) hr (aa (pv 2) (aa (a_ (pv 0)) ax)))) (aB (bf (dm T.mn (qz T) hr (aa (pv 3) (aa (pv 4) ax)))))))))))),?_⟩;refine⟨_,rfl,dN (j:=0) (v:= .int i) fJ rfl rfl ?_⟩;refine⟨_,rfl,_,_,_,_,_,rfl,D.de,T.cQ,dX T,gv _ _ _,?_⟩;refine⟨_,rfl,_,_,_,rfl,R.tr,d_ _ _ (by decide+kernel),_,rfl,ta,i,ρ,t,L,rfl,R,_,rfl,?_⟩;have hd:a9 (s0 t) (Oi [i])=iU (s0 t) i fun j n=>if n.up=true then(s0 t,[-4]) else if n.parent≠j/\(af t n.parent).up=false then(s0 t,[-5]) else({(s0 t) with tree:=startAt DEEP t j},0::AR t (startAt DEEP t j)):=rfl
  cases q:aO i 0 (aw t.nodes.length -1) with
  |false=>
   rw[NM q] at hd;rw[ee hd] at k;exact c_ ⟨(by show 1<=aG;decide),fun p hp=>k.keep D (aF hp) hp ae⟩
  |true=>
   rw[IT q] at hd;obtain⟨i0,hi⟩:=qG q;obtain⟨j,hj⟩:∃j,i.toNat=j:=⟨_,rfl⟩;have XI:i=(j:Nat):=by omega
   rw[hj] at hi hd;subst XI;obtain⟨c,hc⟩:=R.at_ hi;refine di ⟨_,rfl,_,_,_,_,_,rfl,R.tr,T.bK,bx T,bW _ _,_,rfl,dN (j:=j) R.nl rfl (by rw[aM,hc];rfl) ?_⟩;refine⟨_,_,_,_,_,rfl,(R.nd j c hc),T.bP,fV T,oj _,_,rfl,?_⟩;show if(af t j).up=true then _ else _
   by_cases q1:(af t j).up=true
   ·rw[if_pos q1];rw[if_pos q1] at hd;rw[ee hd] at k;exact⟨(by show 1<=aG;decide),fun p hp=>k.keep D (aF hp) hp ae⟩
   ·rw[if_neg q1];rw[if_neg q1] at hd;have Pz:=W.Aa hi;have jD:=Tm.nX W hi;obtain⟨e,he⟩:=R.at_ jD;have go:(j=0\/(af t (af t j).parent).up=true)->a9 (s0 t) (Oi [(j:Int)])=({(s0 t) with tree:=startAt DEEP t j},0::AR t (startAt DEEP t j))->∀σ:_root_.L2.St,σ=[some (.ref d),some (.ref nu),some (.int (j:Nat)),some (.ref ta),none]->
      OM (Ue (tCB (fun xs H Q=>∃p ys,xs=[.ref p]/\(cF K H p ys\/JO K H p ys)/\Q (.int (ys.length:Nat)) H) (lH (QZ K (r8 3) "events") ve)) (FD 4)) (OM (Nw (Ef T.cM "start" (r_ T) [] E0 (r8 3) (lH (r8 2) (lH (QZ K (r8 0) "now") ve)))) (ZE (Ny (vP T) [] E0 (lH (r8 3) (lH (r8 4) ve))))) {nx:=fun _ H'=>Q .gE H',rt:=Q} σ H:=by
     intro U5 hdo σ hσ;subst hσ;have XM:(L.ev.map V.ref).length=t.log.length:=by rw[ab];exact R.y'
     rw[ee hdo] at k;refine⟨_,rfl,_,_,_,_,_,rfl,R.tr,T.bK,gh T,kG _ _,_,_,rfl,.inl (cF.of R.el),?_⟩;rw[XM];refine⟨_,rfl,_,_,_,rfl,R.tr,d_ _ _ (by decide+kernel),_,rfl,_,rfl,_,_,_,_,_,rfl,D.de,T.cQ,fO T,kO _ _ _,ta,j,ρ,t,L,rfl,R,W,hi,by omega,fun H1 L1 R1 f1 xT=>?_⟩;have lg1:=W.Hi hi;refine⟨_,rfl,_,rfl,ta,t.log.length,ρ,_,L1,rfl,R1,lg1.1,by omega,fun H2 p s2 hp h2=>?_⟩;have xS:H p=none:=by
      cases z:H p with
      |none=>rfl
      |some o=>
       exfalso;by_cases z2:ρ p=0
       ·rw[f1 p o z (.inl z2)] at hp;cases hp
       ·exact z2 (R1.free p hp)
     exact k H2 ρ L1 p (R1.same s2) (W.En hi U5) ((W.Hh hi).mi D.mi) (by show(startAt DEEP t j).log.length<=_;omega) (HY.of (f1.trans (qO.of s2))) h2 (R1.free p hp) xS
    refine⟨_,rfl,rfl,_,rfl,?_⟩;rw[eY];by_cases q2:j=0
    ·rw[decide_eq_true (show((j:Nat):Int)=0 by omega)];refine di (di ?_);rw[if_neg (fun z=>z.1 (Pz.mpr q2))] at hd;exact go (.inl q2) hd _ rfl
    ·rw[decide_eq_false (show ¬((j:Nat):Int)=0 by omega)];refine c_ ⟨_,rfl,_,_,_,_,_,rfl,R.tr,T.bK,bx T,bW _ _,_,rfl,_,_,_,_,_,rfl,R.tr,T.bK,bx T,bW _ _,_,rfl,dN (j:=j) R.nl rfl (by rw[aM,hc];rfl) ?_⟩;refine⟨_,_,_,_,_,rfl,(R.nd j c hc),T.bP,i9 T,oV _,dN (j:=(af t j).parent) R.nl rfl (by rw[aM,he];rfl) ?_⟩;refine⟨_,_,_,_,_,rfl,(R.nd _ e he),T.bP,fV T,oj _,_,rfl,?_⟩;show if(!(af t (af t j).parent).up)=true then _ else _
     cases q3:(af t (af t j).parent).up with
     |false=>
      rw[if_pos ⟨fun z=>q2 (Pz.mp z),q3⟩] at hd;rw[ee hd] at k;exact c_ ⟨(by show 1<=aG;decide),fun p hp=>k.keep D (aF hp) hp ae⟩
     |true=>
      rw[if_neg (fun z=>by rw[q3] at z;cases z.2)] at hd;exact di (go (.inr q3) hd _ rfl)
abbrev SN:List Int->bg:=fun ns=>.halt (ns.getD 0 0)
theorem Ja(T:Tx K mg):cz P w K mg base fY 4 T.jT.f T.jT.fd ["desk","numbers"] (mN T 1 SN):=by
 refine T.jT.F.ok pM (fun vs H Q E h=>?_) (fun dY A outer s H vs Q E hr h=>?_)
 ·obtain⟨d,nu,ta,st,dx,ρ,t,L,ns,rfl,_⟩:=h;rfl
 ·obtain⟨d,nu,ta,st,dx,ρ,t,L,ns,rfl,D,fJ,qW,hlen,k⟩:=h;obtain⟨i,rfl⟩:=eJ hlen;have R:=D.tr;have W:=D.wf;have lg:=D.lg;refine⟨_,(ai (b8 2 pM.nd (cR (pv 1) a8)) (ai (b8 3 pM.nd (a_ (pv 0))) (ai (cX (d8 (cZ (dR (pv 3) T.bK T.o5 (oU T) hr (aa (pv 2) ax)))) (aB (bf (bC (aa (cD T.iF) ax)))) bI) (ai (cX (d8 (cZ (a_ (cR (a_ (pv 3)) (pv 2))))) (aB (bf (bC (aa (cD T.oC) ax)))) bI) (ai (b8 4 pM.nd (eA T.f9 (a_ (pv 3)))) (ai (cg (dR (pv 3) T.bK T.kg (wA T) hr (aa (pv 2) (aa (a_ (pv 0)) ax)))) (aB (bf (dm T.mn (qz T) hr (aa (pv 3) (aa (pv 4) ax))))))))))),?_⟩;refine⟨_,rfl,dN (j:=0) (v:= .int i) fJ rfl rfl ?_⟩;refine⟨_,rfl,_,_,_,_,_,rfl,D.de,T.cQ,dX T,gv _ _ _,?_⟩;refine⟨_,rfl,_,_,_,rfl,R.tr,d_ _ _ (by decide+kernel),_,rfl,ta,i,ρ,t,L,rfl,R,_,rfl,?_⟩;have hd:a9 (s0 t) (SN [i])=iU (s0 t) i fun j n=>if n.up=false then(s0 t,[-4]) else({(s0 t) with tree:=byHand t j},0::AR t (byHand t j)):=rfl
  cases q:aO i 0 (aw t.nodes.length -1) with
  |false=>
   rw[NM q] at hd;rw[ee hd] at k;exact c_ ⟨(by show 1<=aG;decide),fun p hp=>k.keep D (aF hp) hp ae⟩
  |true=>
   rw[IT q] at hd;obtain⟨i0,hi⟩:=qG q;obtain⟨j,hj⟩:∃j,i.toNat=j:=⟨_,rfl⟩;have XI:i=(j:Nat):=by omega
   rw[hj] at hi hd;subst XI;obtain⟨c,hc⟩:=R.at_ hi;refine di ⟨_,rfl,_,_,_,_,_,rfl,R.tr,T.bK,bx T,bW _ _,_,rfl,dN (j:=j) R.nl rfl (by rw[aM,hc];rfl) ?_⟩;refine⟨_,_,_,_,_,rfl,(R.nd j c hc),T.bP,fV T,oj _,_,rfl,?_⟩;show if(!(af t j).up)=true then _ else _
   cases q1:(af t j).up with
   |false=>
    rw[if_pos q1] at hd;rw[ee hd] at k;exact c_ ⟨(by show 1<=aG;decide),fun p hp=>k.keep D (aF hp) hp ae⟩
   |true=>
    rw[if_neg (by rw[q1];exact a0)] at hd;rw[ee hd] at k;have XM:(L.ev.map V.ref).length=t.log.length:=by rw[ab];exact R.y'
    refine di ⟨_,rfl,_,_,_,_,_,rfl,R.tr,T.bK,gh T,kG _ _,_,_,rfl,.inl (cF.of R.el),?_⟩;rw[XM];refine⟨_,rfl,_,_,_,rfl,R.tr,d_ _ _ (by decide+kernel),_,rfl,_,rfl,_,_,_,_,_,rfl,D.de,T.cQ,fO T,kO _ _ _,ta,j,ρ,t,L,rfl,R,W,hi,by omega,fun H1 L1 R1 f1 xT=>?_⟩;have lg1:=W.Ki hi;have e1:(byHand t j).log=(stopAt DEEP t j).log:=rfl;refine⟨_,rfl,_,rfl,ta,t.log.length,ρ,_,L1,rfl,R1,by rw[e1];exact lg1.1,by rw[e1];omega,fun H2 p s2 hp h2=>?_⟩;have xS:H p=none:=by
     cases z:H p with
     |none=>rfl
     |some o=>
      exfalso;by_cases z2:ρ p=0
      ·rw[f1 p o z (.inl z2)] at hp;cases hp
      ·exact z2 (R1.free p hp)
    exact k H2 ρ L1 p (R1.same s2) (T5 (W.DE hi) j true) (((W.Kh hi).trans (Q3 _ j true)).mi D.mi) (by rw[e1];omega) (HY.of (f1.trans (qO.of s2))) h2 (R1.free p hp) xS
abbrev SO:List Int->bg:=fun ns=>.down (ns.getD 0 0) (ns.getD 1 0)
theorem Jd(T:Tx K mg):cz P w K mg base fY 7 T.jW.f T.jW.fd ["desk","numbers"] (mN T 2 SO):=by
 refine T.jW.F.ok pN (fun vs H Q E h=>?_) (fun dY A outer s H vs Q E hr h=>?_)
 ·obtain⟨d,nu,ta,st,dx,ρ,t,L,ns,rfl,_⟩:=h;rfl
 ·obtain⟨d,nu,ta,st,dx,ρ,t,L,ns,rfl,D,fJ,qW,hlen,k⟩:=h;obtain⟨i,f,rfl⟩:=nQ hlen;have R:=D.tr;have W:=D.wf;have lg:=D.lg;refine⟨_,(ai (b8 2 pN.nd (cR (pv 1) a8)) (ai (b8 3 pN.nd (a_ (pv 0))) (ai (cX (d8 (cZ (dR (pv 3) T.bK T.o5 (oU T) hr (aa (pv 2) ax)))) (aB (bf (bC (aa (cD T.iF) ax)))) bI) (ai (cX (d8 (cZ (dm T.gR (gc T) hr (aa (cR (pv 1) a8) (aa a8 (aa a8 ax)))))) (aB (bf (bC (aa (cD T.ck) ax)))) bI) (ai (cX (cZ (a_ (cR (a_ (pv 3)) (pv 2)))) (aB (bf (bC (aa (cD T.Ao) ax)))) bI) (ai (cX (d8 (cZ (a_ (cR (a_ (pv 3)) (pv 2))))) (aB (bf (bC (aa (cD T.oC) ax)))) bI) (ai (b8 4 pN.nd (eA T.f9 (a_ (pv 3)))) (ai (cg (dR (pv 3) T.bK T.pV (CZ T) hr (aa (pv 2) (aa (uz mY (cR (pv 1) a8) a8) (aa (a_ (pv 0)) ax))))) (aB (bf (dm T.mn (qz T) hr (aa (pv 3) (aa (pv 4) ax))))))))))))),?_⟩;refine⟨_,rfl,dN (j:=0) (v:= .int i) fJ rfl rfl ?_⟩;refine⟨_,rfl,_,_,_,_,_,rfl,D.de,T.cQ,dX T,gv _ _ _,?_⟩;refine⟨_,rfl,_,_,_,rfl,R.tr,d_ _ _ (by decide+kernel),_,rfl,ta,i,ρ,t,L,rfl,R,_,rfl,?_⟩;have hd:a9 (s0 t) (SO [i,f])=iU (s0 t) i fun j n=>if aO f 0 1=false then(s0 t,[-1]) else if n.keeper=true then(s0 t,[-6]) else if n.up=false then(s0 t,[-4]) else
    ({(s0 t) with tree:=wentDown DEEP (tell (fe t j {n with up:=false}) j (if f=1 then 3 else 2)) j (f==1)},0::AR t (wentDown DEEP (tell (fe t j {n with up:=false}) j (if f=1 then 3 else 2)) j (f==1))):=rfl
  cases q:aO i 0 (aw t.nodes.length -1) with
  |false=>
   rw[NM q] at hd;rw[ee hd] at k;exact c_ ⟨(by show 1<=aG;decide),fun p hp=>k.keep D (aF hp) hp ae⟩
  |true=>
   rw[IT q] at hd;obtain⟨i0,hi⟩:=qG q;obtain⟨j,hj⟩:∃j,i.toNat=j:=⟨_,rfl⟩;have XI:i=(j:Nat):=by omega
   rw[hj] at hi hd;subst XI;obtain⟨c,hc⟩:=R.at_ hi;refine di ⟨_,rfl,dN (j:=1) (v:= .int f) fJ rfl rfl ?_⟩;refine⟨f,0,1,rfl,_,rfl,?_⟩;cases q1:aO f 0 1 with
   |false=>
    rw[if_pos q1] at hd;rw[ee hd] at k;exact c_ ⟨(by show 1<=aG;decide),fun p hp=>k.keep D (aF hp) hp ae⟩
   |true=>
    rw[if_neg (by rw[q1];exact a0)] at hd;refine di ⟨_,rfl,_,_,_,_,_,rfl,R.tr,T.bK,bx T,bW _ _,_,rfl,dN (j:=j) R.nl rfl (by rw[aM,hc];rfl) ?_⟩;refine⟨_,_,_,_,_,rfl,(R.nd j c hc),T.bP,iC T,qC _,_,rfl,?_⟩;show if(af t j).keeper=true then _ else _
    by_cases q2:(af t j).keeper=true
    ·rw[if_pos q2];rw[if_pos q2] at hd;rw[ee hd] at k;exact⟨(by show 1<=aG;decide),fun p hp=>k.keep D (aF hp) hp ae⟩
    ·rw[if_neg q2];rw[if_neg q2] at hd;refine⟨_,rfl,_,_,_,_,_,rfl,R.tr,T.bK,bx T,bW _ _,_,rfl,dN (j:=j) R.nl rfl (by rw[aM,hc];rfl) ?_⟩;refine⟨_,_,_,_,_,rfl,(R.nd j c hc),T.bP,fV T,oj _,_,rfl,?_⟩;show if(!(af t j).up)=true then _ else _
     cases q3:(af t j).up with
     |false=>
      rw[if_pos q3] at hd;rw[ee hd] at k;exact c_ ⟨(by show 1<=aG;decide),fun p hp=>k.keep D (aF hp) hp ae⟩
     |true=>
      rw[if_neg (by rw[q3];exact a0)] at hd;rw[ee hd] at k;have XF:(af t j).keeper=false:=by simpa using q2
      have XM:(L.ev.map V.ref).length=t.log.length:=by rw[ab];exact R.y'
      have e0:(if f=1 then 3 else 2)=(if(f==1)=true then 3 else 2):=by by_cases z:f=1<;>simp[z]
      have e1:tell (fe t j {af t j with up:=false}) j (if f=1 then 3 else 2)=Tm.gD (if(f==1)=true then 3 else 2) t j:=by rw[e0];rfl
      rw[e1] at k;have ef:decide (V.int f=V.int 1)=(f==1):=by rw[eY,oJ]
      refine di ⟨_,rfl,_,_,_,_,_,rfl,R.tr,T.bK,gh T,kG _ _,_,_,rfl,.inl (cF.of R.el),?_⟩;rw[XM];refine⟨_,rfl,_,_,_,rfl,R.tr,d_ _ _ (by decide+kernel),_,rfl,_,rfl,nu,_,1,.int f,rfl,rfl,cF.of fJ,at_of (j:=1) rfl rfl,?_⟩;refine⟨rfl,_,rfl,_,_,_,_,_,rfl,D.de,T.cQ,fO T,kO _ _ _,ta,j,(f==1),ρ,t,L,by rw[ef];rfl,R,W,D.mi,hi,q3,XF,by omega,fun H1 L1 R1 f1 xT=>?_⟩;have S1:=Tm.jm (if(f==1)=true then 3 else 2) t j;have hW1:=Tm.Oa W (if(f==1)=true then 3 else 2) hi XF;have hM1:=(Tm.rE (if(f==1)=true then 3 else 2) t j).mi D.mi;have U5:j=0\/(af (Tm.gD (if(f==1)=true then 3 else 2) t j) (af (Tm.gD (if(f==1)=true then 3 else 2) t j) j).parent).up=true:=by
       rcases cG j with z|z
       ·exact .inl z
       ·refine .inr ?_;have qY:=W.kI z hi;rw[S1.par,Tm.fC,if_neg (fun q=>by omega)];exact W.cl j hi q3
      obtain⟨w1,w2,w3,w4⟩:=Tm.Nn 6 _ j (f==1) hW1 (by rw[S1.len];exact hi) U5;have w5:=Tm.Np 6 _ j (f==1) hW1 hM1 (by rw[S1.len];exact hi) U5;rw[Tm.rR] at w3 w4;refine⟨_,rfl,_,rfl,ta,t.log.length,ρ,_,L1,rfl,R1,by show t.log.length<=(wentDown 6 _ j (f==1)).log.length;omega,by show(wentDown 6 _ j (f==1)).log.length -_<=_;omega,fun H2 p s2 hp h2=>?_⟩;have xS:H p=none:=by
       cases z:H p with
       |none=>rfl
       |some o=>
        exfalso;by_cases z2:ρ p=0
        ·rw[f1 p o z (.inl z2)] at hp;cases hp
        ·exact z2 (R1.free p hp)
      exact k H2 ρ L1 p (R1.same s2) w1 w5 (by show(wentDown 6 _ j (f==1)).log.length<=_;omega) (HY.of (f1.trans (qO.of s2))) h2 (R1.free p hp) xS
end
end Pf
namespace L2
open PySem PySem.Spec PyProof.Rows
theorem uw{X:Cx}{x:Str}{a:Addr}{pos:Pos}(hg:Gl X x)(hm:X.mg x=some (.ref a))(hd:(x==("__debug__":Str))=false:=by decide):PE X (.Name x pos) (tC (.ref a)):=NK hg hm (show RelV (.ref a) (cu a) from rfl) hd
end L2
namespace Pf
open PySem PySem.Spec PyProof.Rows L2
open Vbtkaj (nodeAt setNode tell charges depthOf startAt stopAt wentDown NODES DEEP recent inside noNode)
theorem RD{t:Tree}{p:Int}(wN:t.nodes.length<=20)(h:rQ t p=none):M8 t p:=by
 unfold rQ je at h
 dsimp only at h
 by_cases c1:eG<=t.nodes.length
 ·rw[if_pos c1] at h;cases h
 ·rw[if_neg c1] at h;have c1: ¬20<=t.nodes.length:=c1;refine⟨by omega,?_⟩;by_cases c2:t.nodes=[]
  ·exact .inl c2
  ·rw[if_neg (by simpa using c2)] at h;by_cases c3:qQ {tree:=t,store:=lU} p=false\/(af t p.toNat).keeper=false
   ·rw[if_pos c3] at h;cases h
   ·rw[if_neg c3] at h;have c4:aO p 0 (aw t.nodes.length -1)=true:=by
     have: ¬aO p 0 (aw t.nodes.length -1)=false:=fun z=>c3 (.inl z)
     simpa using this
    have c5:(af t p.toNat).keeper=true:=by
     have: ¬(af t p.toNat).keeper=false:=fun z=>c3 (.inr z)
     simpa using this
    obtain⟨p0,pl⟩:=qG c4;by_cases c6:(af t p.toNat).up=true
    ·rw[if_pos c6] at h;cases h
    ·rw[if_neg c6] at h;by_cases c7:Wo<=cO t eG p.toNat+1
     ·rw[if_pos c7] at h;cases h
     ·have c7: ¬6<=cO t eG p.toNat+1:=c7;exact .inr ⟨p0,pl,c5,by omega⟩
theorem OT(t:Tree)(n m:Node):fe (Tm.added t n) t.nodes.length m=Tm.added t m:=by
 unfold fe Tm.added;simp[List.set_append]
theorem Lx{t:Tree}(m:Tm.Mi t){n:Node}(h1:n.starts=[])(h2:n.times<=20):Tm.Mi (Tm.added t n):=fun j=>by
 by_cases q:j<t.nodes.length
 ·rw[Tm.gS t n q];exact m j
 ·by_cases q2:j=t.nodes.length
  ·rw[q2,Tm.il,h1];exact⟨aT _,h2⟩
  ·have:af (Tm.added t n) j=LV:=by
    unfold af Tm.added;rw[bo,fZ (by show(t.nodes++[n]).length<=j;rw[aJ,kz];omega)];rfl
   rw[this];exact⟨aT _,aT _⟩
theorem RC{t:Tree}(W:Tm.WF t){p:Int}(M:M8 t p){n:Node}(hp:n.parent=uA t p)(hu:n.up=false)(hg:n.again<=2/\n.how<=2):Tm.WF (Tm.added t n):=by
 obtain⟨wN,h|⟨p0,pl,hk,hd⟩⟩:=M
 ·exact Tm.So h (by rw[hp];unfold uA;rw[if_pos (by rw[h];rfl)]) hu hg
 ·have e:n.parent=p.toNat:=by
   rw[hp];unfold uA;rw[if_neg (fun z=>by
    have:t.nodes=[]:=by simpa using z
    rw[this] at pl;exact absurd pl (iS _))]
  exact Tm.Tb W (by rw[e];exact pl) wN (by rw[e];exact hk) (by rw[e];exact hd) hu hg
theorem dG{x lo hi:Int}(h:aO x lo hi=true):lo<=x/\x<=hi:=by
 unfold aO at h;rw[aW] at h;exact⟨of_decide_eq_true h.1,of_decide_eq_true h.2⟩
section
variable{P:bq}{w:cf}{K:aq}{mg:Str->Option ao}{base:Heap}
theorem As{ns:List Int}(h:ns.length=5):∃a b c d e,ns=[a,b,c,d,e]:=by
 match ns,h with
 |[a,b,c,d,e],_=>exact⟨a,b,c,d,e,rfl⟩
theorem DT.same{T:Tx K mg}{ρ:Addr->Nat}{H H':Hp}{d ta st dx:Addr}{t:Tree}{L:TL}(D:DT T ρ H d ta st dx t L)(s:dc H H'):DT T ρ H' d ta st dx t L:=⟨s _ _ D.de,D.rd,D.tr.same s,D.wf,D.mi,D.lg⟩
abbrev DQ:List Int->bg:=fun ns=>.keeper (ns.getD 0 0) (ns.getD 1 0) (ns.getD 2 0) (ns.getD 3 0) (ns.getD 4 0)
theorem EZ(T:Tx K mg):cz P w K mg base fY 4 T.gK.f T.gK.fd ["desk","numbers"] (mN T 5 DQ):=by
 refine T.gK.F.ok mR (fun vs H Q E h=>?_) (fun dY A outer s H vs Q E hr h=>?_)
 ·obtain⟨d,nu,ta,st,dx,ρ,t,L,ns,rfl,_⟩:=h;rfl
 ·obtain⟨d,nu,ta,st,dx,ρ,t,L,ns,rfl,D,fJ,qW,hlen,k⟩:=h;obtain⟨p,hw,n,sp,g,rfl⟩:=As hlen;have W:=D.wf;refine⟨_,(ai (b8 2 mR.nd (cR (pv 1) a8)) (ai (cX (d8 (cZ (dm T.iQ (iN T) hr (aa (lN oh (pv 1) (k6 a8) uv) (aa (uw rfl T.C9) ax))))) (aB (bf (bC (aa (cD T.ck) ax)))) bI) (ai (b8 3 mR.nd (dm T.lM (tE T) hr (aa (a_ (pv 0)) (aa (pv 2) ax)))) (ai (cX (c8 Ab (pv 3) nV) (aB (bf (bC (aa (pv 3) ax)))) bI) (ai (b8 4 mR.nd (dR (a_ (pv 0)) T.bK T.lT (tG T) hr (aa (pv 2) (aa (cR (pv 1) a8) ax)))) (ai (cg (dR (a_ (pv 0)) T.bK T.i3 (uC T) hr (aa (pv 4) (aa (cR (pv 1) a8) (aa (cR (pv 1) a8) (aa (cR (pv 1) a8) ax)))))) (aB (bf (bC (aa a8 (aa (pv 4) ax))))))))))),?_⟩;refine⟨_,rfl,dN (j:=0) (v:= .int p) fJ rfl rfl ?_⟩;have X7:wO (bO [p,hw,n,sp,g]) (some 1) none=bO [hw,n,sp,g]:=FR _ 1 (by show 1<=5;decide);refine⟨_,rfl,_,rfl,_,_,rfl,cF.of fJ,fun sl hsl=>?_⟩;rw[X7];have s1:=aF (o:= .lst (bO [hw,n,sp,g])) hsl;refine⟨sl,T.pq,[hw,n,sp,g],[(0,2),(0,20),(1,1000),(0,2)],rfl,ae,T.CJ,rfl,fun H2 s2=>⟨_,rfl,?_⟩⟩;have pb:=s1.trans s2;have D2:=D.same pb;have R2:=D2.tr;have PY:nv [hw,n,sp,g] [(0,2),(0,20),(1,1000),(0,2)]=(aO hw 0 2&&(aO n 0 20&&(aO sp 1 1000&&aO g 0 2))):=by
   show(aO hw 0 2&&(aO n 0 20&&(aO sp 1 1000&&(aO g 0 2&&true))))=_;rw[ko]
  rw[PY];have hd:a9 (s0 t) (DQ [p,hw,n,sp,g])=if(aO hw 0 2&&(aO n 0 20&&(aO sp 1 1000&&aO g 0 2)))=false then(s0 t,[-1]) else match je (s0 t) p with
   |some e=>(s0 t,[e])
   |none=>G9 (s0 t) {LV with parent:=DZ (s0 t) p,keeper:=true,how:=hw.toNat,times:=n.toNat,within:=sp.toNat,again:=g.toNat}:=rfl
  cases q:(aO hw 0 2&&(aO n 0 20&&(aO sp 1 1000&&aO g 0 2))) with
  |false=>
   rw[if_pos q] at hd;rw[ee hd] at k;exact c_ ⟨(by show 1<=aG;decide),fun r Am=>k.keep D (pb.trans (aF Am)) (pb.free Am) ae⟩
  |true=>
   rw[if_neg (by rw[q];exact a0)] at hd;rw[aW,aW,aW] at q;obtain⟨q1,q2,q3,q4⟩:=q;have q1:=dG q1;have q2:=dG q2;have q3:=dG q3;have q4:=dG q4;refine di ⟨_,rfl,_,_,_,_,_,rfl,D2.de,T.cQ,dX T,gv _ _ _,_,rfl,ta,p,ρ,t,L,rfl,R2,W,?_⟩;have hm:je (s0 t) p=rQ t p:=rfl;rw[hm] at hd;cases qm:rQ t p with
   |some e=>
    rw[qm] at hd;rw[ee hd] at k;refine⟨_,rfl,rfl,_,rfl,?_⟩;rw[decide_eq_false (by intro z;cases z)];exact c_ ⟨_,rfl,(by show 1<=aG;decide),fun r Am=>k.keep D (pb.trans (aF Am)) (pb.free Am) ae⟩
   |none=>
    rw[qm] at hd;have hd:a9 (s0 t) (DQ [p,hw,n,sp,g])=({(s0 t) with tree:=Tm.added t {LV with parent:=uA t p,keeper:=true,how:=hw.toNat,times:=n.toNat,within:=sp.toNat,again:=g.toNat} },[0,aw t.nodes.length]):=hd;rw[ee hd] at k;have M:=RD R2.wN qm;refine⟨_,rfl,rfl,_,rfl,?_⟩;rw[decide_eq_true (show W6 (none:Option Int)=V.gE from rfl)];refine di ⟨_,rfl,_,_,_,_,_,rfl,D2.de,T.cQ,dX T,gv _ _ _,_,_,_,rfl,R2.tr,d_ _ _ (by decide+kernel),_,rfl,_,rfl,nu,_,4,.int g,rfl,rfl,cF.of (pb _ _ fJ),at_of (j:=4) rfl rfl,ta,p,g.toNat,ρ,t,L,by rw[gQ q4.1];rfl,R2,W,M,fun H3 ρ3 L3 R3 f3=>?_⟩;have de3:H3 d=some (.ins T.fG dx (h_ (t.now:Nat) ta st)):=(f3 d _ D2.de).2 (.inr D.rd);have XA:H3 nu=some (.lst (bO [p,hw,n,sp,g])):=(f3 nu _ (pb _ _ fJ)).2 (.inl qW);have LQ:(Tm.added t (qg t p g.toNat)).nodes.length=t.nodes.length+1:=Tm.j0 _ _;refine⟨_,rfl,_,_,_,_,_,rfl,de3,T.cQ,dX T,gv _ _ _,_,_,_,rfl,R3.tr,d_ _ _ (by decide+kernel),_,rfl,_,rfl,nu,_,1,.int hw,rfl,rfl,cF.of XA,at_of (j:=1) rfl rfl,_,rfl,nu,_,2,.int n,rfl,rfl,cF.of XA,at_of (j:=2) rfl rfl,_,rfl,nu,_,3,.int sp,rfl,rfl,cF.of XA,at_of (j:=3) rfl rfl,
     ta,t.nodes.length,hw.toNat,n.toNat,sp.toNat,ρ3,_,L3,by rw[gQ q1.1,gQ q2.1,gQ (show 0<=sp by omega)];rfl,R3,by omega,fun H4 L4 R4 f4 XE=>?_⟩
    rw[OT,Tm.il] at R4;refine⟨_,rfl,(by show 2<=aG;decide),fun r Am=>?_⟩;have s5:=aF (o:= .lst [.int 0,.int (t.nodes.length:Nat)]) Am;have F:HY ρ H ρ3 H4:=((HY.of (qO.of pb)).trans R2.free f3).trans R3.free (HY.of f4);refine k _ ρ3 L4 r (R4.same s5) (RC W M rfl rfl ⟨by show g.toNat<=2;omega,by show hw.toNat<=2;omega⟩) (Lx D.mi rfl (by show n.toNat<=20;omega)) (by show t.log.length<=_;omega) (F.trans R4.free (HY.of (qO.of s5))) ae (R4.free r Am) (F.none R4.free Am)
abbrev Ay:List Int->bg:=fun ns=>.worker (ns.getD 0 0) (ns.getD 1 0)
theorem EW(T:Tx K mg):cz P w K mg base fY 4 T.gH.f T.gH.fd ["desk","numbers"] (mN T 2 Ay):=by
 refine T.gH.F.ok qk (fun vs H Q E h=>?_) (fun dY A outer s H vs Q E hr h=>?_)
 ·obtain⟨d,nu,ta,st,dx,ρ,t,L,ns,rfl,_⟩:=h;rfl
 ·obtain⟨d,nu,ta,st,dx,ρ,t,L,ns,rfl,D,fJ,qW,hlen,k⟩:=h;obtain⟨p,g,rfl⟩:=nQ hlen;have W:=D.wf;have R:=D.tr;refine⟨_,(ai (b8 2 qk.nd (cR (pv 1) a8)) (ai (cX (d8 (cZ (dm T.gR (gc T) hr (aa (cR (pv 1) a8) (aa a8 (aa a8 ax)))))) (aB (bf (bC (aa (cD T.ck) ax)))) bI) (ai (b8 3 qk.nd (dm T.lM (tE T) hr (aa (a_ (pv 0)) (aa (pv 2) ax)))) (ai (cX (c8 Ab (pv 3) nV) (aB (bf (bC (aa (pv 3) ax)))) bI) (ai (cX (c8 mY (eA T.f9 (a_ (a_ (pv 0)))) a8) (aB (bf (bC (aa (cD T.Ao) ax)))) bI) (aB (bf (bC (aa a8 (aa (dR (a_ (pv 0)) T.bK T.lT (tG T) hr (aa (pv 2) (aa (cR (pv 1) a8) ax))) ax)))))))))),?_⟩;refine⟨_,rfl,dN (j:=0) (v:= .int p) fJ rfl rfl ?_⟩;refine⟨_,rfl,dN (j:=1) (v:= .int g) fJ rfl rfl ?_⟩;refine⟨g,0,2,rfl,_,rfl,?_⟩;have hd:a9 (s0 t) (Ay [p,g])=if aO g 0 2=false then(s0 t,[-1]) else match je (s0 t) p with
   |some e=>(s0 t,[e])
   |none=>if t.nodes.isEmpty=true then(s0 t,[-6]) else G9 (s0 t) {LV with parent:=DZ (s0 t) p,again:=g.toNat}:=rfl
  cases q:aO g 0 2 with
  |false=>
   rw[if_pos q] at hd;rw[ee hd] at k;exact c_ ⟨(by show 1<=aG;decide),fun r Am=>k.keep D (aF Am) Am ae⟩
  |true=>
   rw[if_neg (by rw[q];exact a0)] at hd;have q4:=dG q;refine di ⟨_,rfl,_,_,_,_,_,rfl,D.de,T.cQ,dX T,gv _ _ _,_,rfl,ta,p,ρ,t,L,rfl,R,W,?_⟩;have hm:je (s0 t) p=rQ t p:=rfl;rw[hm] at hd;cases qm:rQ t p with
   |some e=>
    rw[qm] at hd;rw[ee hd] at k;refine⟨_,rfl,rfl,_,rfl,?_⟩;rw[decide_eq_false (by intro z;cases z)];exact c_ ⟨_,rfl,(by show 1<=aG;decide),fun r Am=>k.keep D (aF Am) Am ae⟩
   |none=>
    rw[qm] at hd;refine⟨_,rfl,rfl,_,rfl,?_⟩;rw[decide_eq_true (show W6 (none:Option Int)=V.gE from rfl)];have hN:(L.na.map V.ref).length=t.nodes.length:=by rw[ab];exact R.tI
    refine di ⟨_,rfl,_,_,_,_,_,rfl,D.de,T.cQ,dX T,gv _ _ _,_,_,_,_,_,rfl,R.tr,T.bK,bx T,bW _ _,_,_,rfl,.inl (cF.of R.nl),rfl,_,rfl,?_⟩;rw[hN,eY];by_cases z:t.nodes=[]
    ·have hd:a9 (s0 t) (Ay [p,g])=(s0 t,[-6]):=by
      rw[hd];exact if_pos (by rw[z];rfl)
     rw[ee hd] at k;have HG:t.nodes.length=0:=by rw[z];rfl
     rw[decide_eq_true (show((t.nodes.length:Nat):Int)=0 by omega)];exact c_ ⟨(by show 1<=aG;decide),fun r Am=>k.keep D (aF Am) Am ae⟩
    ·have hd:a9 (s0 t) (Ay [p,g])=({(s0 t) with tree:=Tm.added t (qg t p g.toNat)},[0,aw t.nodes.length]):=by
      rw[hd];exact if_neg (by simpa using z)
     rw[ee hd] at k;have HG: ¬t.nodes.length=0:=fun q=>z (ft.mp q);rw[decide_eq_false (show ¬((t.nodes.length:Nat):Int)=0 by omega)];have M:=RD R.wN qm;refine di ⟨_,rfl,_,_,_,_,_,rfl,D.de,T.cQ,dX T,gv _ _ _,_,_,_,rfl,R.tr,d_ _ _ (by decide+kernel),_,rfl,_,rfl,nu,_,1,.int g,rfl,rfl,cF.of fJ,at_of (j:=1) rfl rfl,ta,p,g.toNat,ρ,t,L,by rw[gQ q4.1];rfl,R,W,M,fun H3 ρ3 L3 R3 f3=>⟨(by show 2<=aG;decide),fun r Am=>?_⟩⟩;have s5:=aF (o:= .lst [.int 0,.int (t.nodes.length:Nat)]) Am;exact k _ ρ3 L3 r (R3.same s5) (RC W M rfl rfl ⟨by show g.toNat<=2;omega,aT _⟩) (Lx D.mi rfl (aT _)) (by show t.log.length<=_;omega) (f3.trans R3.free (HY.of (qO.of s5))) ae (R3.free r Am) (f3.none R3.free Am)
end
end Pf
namespace L2
open PySem PySem.Spec PyProof.Rows
def acZ(tc:TT):TE:=fun σ H Q=>tc σ H fun b H1=>Q (.int (bZ b)) H1
theorem Bj{X:Cx}{c:Expr}{tc:TT}{j1 j2}{p1 p2 pos:Pos}(hc:PT X c tc):PE X (.IfExp c (.Constant (.int 1) j1 p1) (.Constant (.int 0) j2 p2) pos) (acZ tc):=by
 intro pins s σ H Q I h;refine wpAny_IfExp (gI (hc pins s σ H _ I h) fun b s1 ⟨H1,I1,q1⟩=>?_);cases b with
 |true=>exact a8 pins s1 σ H1 Q I1 q1
 |false=>exact a8 pins s1 σ H1 Q I1 q1
end L2
namespace Pf
open PySem PySem.Spec PyProof.Rows L2
open Vbtkaj (nodeAt setNode tell charges depthOf startAt stopAt wentDown NODES DEEP recent inside noNode)
theorem y8(l:List Nat):bO (l.map aw)=aV l:=by
 show(l.map aw).map V.int=_;rw[gm];rfl
theorem qJ{H H1:Hp}{p:Addr}{o:HO}(s:dc H H1)(h:H p=none):dc H (upd H1 p o):=fun b u e=>by
 rw[aA (aE e h)];exact s b u e
theorem HD(a b:List Int):bO (a++b)=bO a++bO b:=cb
section
variable{P:bq}{w:cf}{K:aq}{mg:Str->Option ao}{base:Heap}
abbrev SK:List Int->bg:=fun ns=>.node (ns.getD 0 0)
theorem IW(T:Tx K mg):cz P w K mg base fY 2 T.jN.f T.jN.fd ["desk","numbers"] (mN T 1 SK):=by
 refine T.jN.F.ok um (fun vs H Q E h=>?_) (fun dY A outer s H vs Q E hr h=>?_)
 ·obtain⟨d,nu,ta,st,dx,ρ,t,L,ns,rfl,_⟩:=h;rfl
 ·obtain⟨d,nu,ta,st,dx,ρ,t,L,ns,rfl,D,fJ,qW,hlen,k⟩:=h;obtain⟨i,rfl⟩:=eJ hlen;have R:=D.tr;have W:=D.wf;refine⟨_,(ai (cX (d8 (cZ (dR (a_ (pv 0)) T.bK T.o5 (oU T) hr (aa (cR (pv 1) a8) ax)))) (aB (bf (bC (aa (cD T.iF) ax)))) bI) (ai (b8 2 um.nd (cR (a_ (a_ (pv 0))) (cR (pv 1) a8))) (ai (b8 3 um.nd (bC (aa a8 (aa (a_ (pv 2)) (aa (Bj (cZ (a_ (pv 2)))) (aa (a_ (pv 2)) (aa (a_ (pv 2)) (aa (a_ (pv 2)) (aa (a_ (pv 2)) ax))))))))) (ai (cg (qx bT df dr jP (pv 3) (aa (bC (aa (Bj (cZ (a_ (pv 2)))) (aa (Bj (cZ (a_ (pv 2)))) ax))) ax))) (ai (cg (qx bT df dr jP (pv 3) (aa (fM mZ (bC (aa (eA T.f9 (a_ (pv 2))) ax)) (a_ (pv 2))) ax))) (ai (cg (qx bT df dr jP (pv 3) (aa (fM mZ (bC (aa (eA T.f9 (a_ (pv 2))) ax)) (a_ (pv 2))) ax))) (aB (bf (pv 3))))))))),?_⟩;refine⟨_,rfl,_,_,_,_,_,rfl,D.de,T.cQ,dX T,gv _ _ _,_,_,_,rfl,R.tr,d_ _ _ (by decide+kernel),_,rfl,nu,_,0,.int i,rfl,rfl,cF.of fJ,at_of (j:=0) rfl rfl,ta,i,ρ,t,L,rfl,R,_,rfl,?_⟩;have hd:a9 (s0 t) (SK [i])=iU (s0 t) i fun j n=>(s0 t,[0,aw n.parent,bZ n.keeper,aw n.how,aw n.times,aw n.within,aw n.again,bZ n.up,bZ n.byHand]++(dC (charges t j)++dC n.starts)):=rfl;cases q:aO i 0 (aw t.nodes.length -1) with
  |false=>
   rw[NM q] at hd;rw[ee hd] at k;exact c_ ⟨(by show 1<=aG;decide),fun p hp=>k.keep D (aF hp) hp ae⟩
  |true=>
   rw[IT q] at hd;obtain⟨i0,hi⟩:=qG q;obtain⟨j,hj⟩:∃j,i.toNat=j:=⟨_,rfl⟩;have XI:i=(j:Nat):=by omega
   rw[hj] at hi hd;subst XI;rw[ee hd] at k;obtain⟨c,hc⟩:=R.at_ hi;have DN:(charges t j).length<=20:=by rw[Tm.dI];exact Tm.iD W.sh j
   have Sd:=(D.mi j).1;refine di ⟨_,rfl,_,_,_,_,_,rfl,D.de,T.cQ,dX T,gv _ _ _,_,_,_,_,_,rfl,R.tr,T.bK,bx T,bW _ _,_,rfl,nu,_,0,.int (j:Nat),rfl,rfl,cF.of fJ,at_of (j:=0) rfl rfl,_,_,_,_,rfl,rfl,cF.of R.nl,at_of (j:=j) rfl (by rw[aM,hc];rfl),?_⟩;have hn:=R.nd j c hc;refine⟨_,rfl,_,_,_,_,_,rfl,hn,T.bP,i9 T,oV _,_,rfl,_,_,_,_,_,rfl,hn,T.bP,iC T,qC _,_,rfl,_,rfl,_,_,_,_,_,rfl,hn,T.bP,oW T,Fc _,_,rfl,_,_,_,_,_,rfl,hn,T.bP,ou T,Fd _,_,rfl,_,_,_,_,_,rfl,hn,T.bP,pR T,Hu _,_,rfl,_,_,_,_,_,rfl,hn,T.bP,ow T,y1 _,(by show 7<=aG;decide),fun an Cq=>?_⟩;have s1:=aF (o:= .lst (bO [0,aw (af t j).parent,bZ (af t j).keeper,aw (af t j).how,aw (af t j).times,aw (af t j).within,aw (af t j).again])) Cq;refine⟨_,rfl,.inl ⟨rfl,_,cF.of ae⟩,_,rfl,_,_,_,_,_,rfl,(s1 _ _ hn),T.bP,fV T,oj _,_,rfl,_,rfl,_,_,_,_,_,rfl,(s1 _ _ hn),T.bP,lX T,Jl _,_,rfl,(by show 2<=aG;decide),fun l1 xT=>?_⟩;have n1:an≠l1:=aE ae xT;refine⟨_,_,_,_,rfl,rfl,(aA n1).trans ae,ae,(by show 9<=aG;decide),?_⟩;have s2:dc H (upd (upd (upd H an (.lst (bO [0,aw (af t j).parent,bZ (af t j).keeper,aw (af t j).how,aw (af t j).times,aw (af t j).within,aw (af t j).again]))) l1 (.lst (bO [bZ (af t j).up,bZ (af t j).byHand]))) an (.lst (bO [0,aw (af t j).parent,bZ (af t j).keeper,aw (af t j).how,aw (af t j).times,aw (af t j).within,aw (af t j).again,bZ (af t j).up,bZ (af t j).byHand]))):=qJ (s1.trans (aF xT)) Cq;obtain⟨H2,YY⟩:∃H2,H2=upd (upd (upd H an (.lst (bO [0,aw (af t j).parent,bZ (af t j).keeper,aw (af t j).how,aw (af t j).times,aw (af t j).within,aw (af t j).again]))) l1 (.lst (bO [bZ (af t j).up,bZ (af t j).byHand]))) an (.lst (bO [0,aw (af t j).parent,bZ (af t j).keeper,aw (af t j).how,aw (af t j).times,aw (af t j).within,aw (af t j).again,bZ (af t j).up,bZ (af t j).byHand])):=⟨_,rfl⟩;have ha2:H2 an=some (.lst (bO [0,aw (af t j).parent,bZ (af t j).keeper,aw (af t j).how,aw (af t j).times,aw (af t j).within,aw (af t j).again,bZ (af t j).up,bZ (af t j).byHand])):=by rw[YY,ae]
   rw[<-YY] at s2;show OM _ _ _ _ (upd (upd (upd H an _) l1 _) an _);refine cast (congrArg (fun Z=>OM _ _ _ _ Z) YY) ?_;have hA9:[0,aw (af t j).parent,bZ (af t j).keeper,aw (af t j).how,aw (af t j).times,aw (af t j).within,aw (af t j).again,bZ (af t j).up,bZ (af t j).byHand].length=9:=rfl;generalize[0,aw (af t j).parent,bZ (af t j).keeper,aw (af t j).how,aw (af t j).times,aw (af t j).within,aw (af t j).again,bZ (af t j).up,bZ (af t j).byHand]=A9 at ha2 k hA9;have R2:=R.same s2;refine⟨_,rfl,.inl ⟨rfl,_,cF.of ha2⟩,_,rfl,_,_,_,_,_,rfl,(R2.nd j c hc),T.bP,fN T,jq _,_,_,rfl,.inl (cF.of (R2.Gb j hi)),(by show 1<=aG;decide),fun l2 uK=>?_⟩;have s3:dc H2 (upd H2 l2 (.lst [.int ((aV (charges t j)).length:Nat)])):=aF uK;have R3:=R2.same s3;refine⟨_,rfl,_,_,_,_,_,rfl,(R3.nd j c hc),T.bP,fN T,jq _,_,_,_,_,rfl,rfl,ae,R3.Gb j hi,?_,fun l3 LQ=>?_⟩
   ·rw[ab];exact cK (small (by show 1+_<=_;omega))
   have s4:=s3.trans (aF (o:= .lst ([.int ((aV (charges t j)).length:Nat)]++aV (charges t j))) LQ);refine⟨_,_,_,_,rfl,rfl,s4 _ _ ha2,ae,?_,?_⟩
   ·rw[aJ,ab,ab,hA9];exact cK (small (by show 9+(1+_)<=_;omega))
   have s5:dc H (upd (upd (upd H2 l2 (.lst [.int ((aV (charges t j)).length:Nat)])) l3 (.lst ([.int ((aV (charges t j)).length:Nat)]++aV (charges t j)))) an (.lst (bO A9++([.int ((aV (charges t j)).length:Nat)]++aV (charges t j))))):=qJ (s2.trans s4) Cq;have e5:bO A9++([V.int ((aV (charges t j)).length:Nat)]++aV (charges t j))=bO (A9++dC (charges t j)):=by
    rw[HD];show _=_++(V.int _::bO ((charges t j).map aw));rw[y8,ab];rfl
   rw[e5] at s5;rw[e5];obtain⟨H5,hH5⟩:∃H5,H5=upd (upd (upd H2 l2 (.lst [.int ((aV (charges t j)).length:Nat)])) l3 (.lst ([.int ((aV (charges t j)).length:Nat)]++aV (charges t j)))) an (.lst (bO (A9++dC (charges t j)))):=⟨_,rfl⟩;have ha5:H5 an=some (.lst (bO (A9++dC (charges t j)))):=by rw[hH5,ae]
   rw[<-hH5] at s5;refine cast (congrArg (fun Z=>OM _ _ _ _ Z) hH5) ?_;have R5:=R.same s5;refine⟨_,rfl,.inl ⟨rfl,_,cF.of ha5⟩,_,rfl,_,_,_,_,_,rfl,(R5.nd j c hc),T.bP,ik T,uE _,_,_,rfl,.inl (cF.of (R5.NQ j hi)),(by show 1<=aG;decide),fun l6 hl6=>?_⟩;have s6:dc H5 (upd H5 l6 (.lst [.int ((aV (af t j).starts).length:Nat)])):=aF hl6;have R6:=R5.same s6;refine⟨_,rfl,_,_,_,_,_,rfl,(R6.nd j c hc),T.bP,ik T,uE _,_,_,_,_,rfl,rfl,ae,R6.NQ j hi,?_,fun l7 hl7=>?_⟩
   ·rw[ab];exact cK (small (by show 1+_<=_;omega))
   have s7:=s6.trans (aF (o:= .lst ([.int ((aV (af t j).starts).length:Nat)]++aV (af t j).starts)) hl7);refine⟨_,_,_,_,rfl,rfl,s7 _ _ ha5,ae,?_,?_⟩
   ·rw[aJ,ab,ab,aJ,hA9];show 9+((charges t j).map aw).length.succ+(1+_)<=_;rw[ab];exact cK (small (by omega))
   have e8:bO (A9++dC (charges t j))++([V.int ((aV (af t j).starts).length:Nat)]++aV (af t j).starts)=bO (A9++(dC (charges t j)++dC (af t j).starts)):=by
    rw[<-iT A9,HD (A9++_)];show _=_++(V.int _::bO ((af t j).starts.map aw));rw[y8,ab];rfl
   rw[e8];exact⟨_,rfl,k.keep D (qJ (s5.trans s7) Cq) Cq ae⟩
theorem UX{K:aq}{a:Addr}{xs:List V}{g:TG}{tt:TT}{te:TE}{vs:List Nat}{σ:L2.St}{H1:Hp}{D:Addr}{Qd:Hp->Prop}(Pv:Nat->Hp->Prop)(h0:Pv 0 (upd H1 D (.lst [])))(hl:∀i H,i<=xs.length->Pv i H->cF K H a xs)
  (hs:∀(i:Nat) x H Tp,xs[i]?=some x->Pv i H->H Tp=none->g (.ref Tp) (wipe σ vs) (upd H Tp (.tup [.int (i:Nat),x])) fun σ2 H2=>wipe σ2 vs=wipe σ vs/\tt σ2 H2 fun b H3=>
   if b=true then te σ2 H3 fun y H4=>∃acc,H4 D=some (.lst acc)/\acc.length<aG/\Pv (i+1) (upd H4 D (.lst (acc++[y]))) else Pv (i+1) H3)(hd:∀H,Pv xs.length H->Qd H):
  ∃W:Nat->Nat->Hp->Prop,(∃m,W 0 m (upd H1 D (.lst [])))/\∀i m H,W i m H->
   ((Ite K a).stop i H/\Qd H)\/((Ite K a).go i H/\∃Nx:Hp->Prop,(∀H',Nx H'->∃m',m'<m/\W (i+1) m' H')/\∀x H',(Ite K a).QI i H x H'->g x (wipe σ vs) H' fun σ2 H2=>wipe σ2 vs=wipe σ vs/\tt σ2 H2 fun b H3=>
    if b=true then te σ2 H3 fun y H4=>∃acc,H4 D=some (.lst acc)/\acc.length<aG/\Nx (upd H4 D (.lst (acc++[y]))) else Nx H3):=by
 refine⟨fun i m H=>m=xs.length -i/\i<=xs.length/\Pv i H,⟨xs.length,rfl,aT _,h0⟩,?_⟩;rintro i m H ⟨rfl,hi,p⟩;have q:=hl i H hi p;by_cases z:i<xs.length
 ·refine .inr ⟨⟨xs,xs[i],q,aS z⟩,Pv (i+1),fun H' p'=>⟨xs.length -(i+1),by omega,rfl,z,p'⟩,?_⟩;rintro v H' ⟨Tp,x,rfl,hT,rfl,hx⟩;exact hs i x H Tp (hx xs q) p hT
 ·have e:i=xs.length:=by omega
  subst e;exact .inl ⟨⟨xs,q,aL _⟩,hd H p⟩
abbrev Yc:List Int->bg:=fun _=>.ups
theorem KC(T:Tx K mg):cz P w K mg base fY 1 T.lG.f T.lG.fd ["desk","numbers"] (mN T 0 Yc):=by
 refine T.lG.F.ok rF (fun vs H Q E h=>?_) (fun dY A outer s H vs Q E hr h=>?_)
 ·obtain⟨d,nu,ta,st,dx,ρ,t,L,ns,rfl,_⟩:=h;rfl
 ·obtain⟨d,nu,ta,st,dx,ρ,t,L,ns,rfl,D,fJ,qW,hlen,k⟩:=h;have R:=D.tr;have wN:=R.wN;have hd:a9 (s0 t) (Yc ns)=(s0 t,0::dC ((dg t.nodes.length).filter fun i=>(af t i).up)):=rfl;rw[ee hd] at k;have hN:(L.na.map V.ref).length=t.nodes.length:=by rw[ab];exact R.tI
  refine⟨_,(ai (EK (i:=4) rfl rF.nd rfl rfl (Ik rfl rfl rfl rfl) (UI rfl T.Lu (aa (a_ (a_ (pv 0))) ax)) (jE (N:=["desk","numbers","number","node","ups"]) (sc:=aN yT) (own:=[("number",2),("node",3)]) (by decide+kernel)) (fun _ _ _ _ _=>(NI (K:=K) (n:=2) rfl rfl (oR (f7 2 rF.nd) (oR (f7 3 rF.nd) DH)))) (fun _ _ _ _ _=>pP (cZ (ux (K:=K) rfl (pv 3) rfl))) (fun _ _ _ _ _=>(pv 2))) (aB (bf (fM mZ (bC (aa a8 (aa (eA T.f9 (pv 4)) ax))) (pv 4))))),?_⟩;refine⟨_,rfl,_,_,_,_,_,rfl,D.de,T.cQ,dX T,gv _ _ _,_,_,_,_,_,rfl,R.tr,T.bK,bx T,bW _ _,_,_,rfl,cF.of R.nl,fun U hU=>?_⟩;refine UX (xs:=L.na.map V.ref) (fun i H'=>H' U=some (.lst (aV ((dg i).filter fun j=>(af t j).up)))/\dc H H') ⟨ae,aF hU⟩ (fun i H' _ q=>cF.of (q.2 _ _ R.nl)) ?_ ?_
  ·rintro i x H1 Tp hx ⟨h1,h2⟩ hT;obtain⟨c,hc,rfl⟩:∃c,L.na[i]?=some c/\x= .ref c:=by
    rw[aM] at hx;cases e:L.na[i]? with
    |none=>rw[e] at hx;cases hx
    |some c=>rw[e] at hx;exact⟨c,rfl,(aR hx).symm⟩
   have hi:=R.lt hc;have s3:dc H (upd H1 Tp (.tup [.int (i:Nat),.ref c])):=h2.trans (aF hT);have hUT:upd H1 Tp (.tup [.int (i:Nat),.ref c]) U=some (.lst (aV ((dg i).filter fun j=>(af t j).up))):=by rw[aA (aE h1 hT)];exact h1
   refine⟨Tp,_,rfl,.inl (.inl ae),rfl,_,_,rfl,_,_,rfl,rfl,rfl,?_⟩;refine⟨_,rfl,_,_,_,_,_,rfl,(s3 _ _ (R.nd i c hc)),T.bP,fV T,oj _,_,rfl,?_⟩;show if(af t i).up=true then _ else _
   by_cases z:(af t i).up=true
   ·rw[if_pos z];refine⟨_,rfl,_,hUT,?_,?_,qJ s3 hU⟩
    ·rw[ab];exact small (aD (bh _ _) (by rw[dU];omega))
    ·rw[ae,F7,bM,aZ,if_pos z,cx,fc]
   ·rw[if_neg z];refine⟨?_,s3⟩;rw[hUT,F7,bM,aZ,if_neg z,cx,cE]
  ·rintro H1 ⟨h1,h2⟩;rw[hN] at h1;have hlu:((dg t.nodes.length).filter fun j=>(af t j).up).length<=20:=aD (bh _ _) (by rw[dU];exact wN);refine⟨_,rfl,_,_,rfl,.inl (cF.of h1),(by show 2<=aG;decide),fun l2 uK=>?_⟩;refine⟨_,rfl,_,_,_,_,rfl,rfl,ae,aF uK _ _ h1,?_,fun p hp=>?_⟩
   ·rw[ab];exact cK (small (by show 2+_<=_;omega))
   have s4:=h2.trans ((aF (o:= .lst [.int 0,.int ((aV ((dg t.nodes.length).filter fun j=>(af t j).up)).length:Nat)]) uK).trans (aF (o:= .lst ([.int 0,.int ((aV ((dg t.nodes.length).filter fun j=>(af t j).up)).length:Nat)]++aV ((dg t.nodes.length).filter fun j=>(af t j).up))) hp));refine k.keep D s4 (h2.free ((aF uK).free hp)) ?_;rw[ae,ab];show _=some (HO.lst (V.int 0::V.int _::bO (((dg t.nodes.length).filter fun j=>(af t j).up).map aw)));rw[y8];rfl
abbrev cLog:List Int->bg:=fun ns=>.log (ns.getD 0 0)
theorem KD(T:Tx K mg):cz P w K mg base fY 2 T.lR.f T.lR.fd ["desk","numbers"] (mN T 1 cLog):=by
 refine T.lR.F.ok mv (fun vs H Q E h=>?_) (fun dY A outer s H vs Q E hr h=>?_)
 ·obtain⟨d,nu,ta,st,dx,ρ,t,L,ns,rfl,_⟩:=h;rfl
 ·obtain⟨d,nu,ta,st,dx,ρ,t,L,ns,rfl,D,fJ,qW,hlen,k⟩:=h;obtain⟨f,rfl⟩:=eJ hlen;have R:=D.tr;refine⟨_,(ai (b8 2 mv.nd (cR (pv 1) a8)) (ai (cX (d8 (cZ (dm T.gR (gc T) hr (aa (pv 2) (aa a8 (aa (cD T.vt) ax)))))) (aB (bf (bC (aa (cD T.ck) ax)))) bI) (ai (b8 3 mv.nd (a_ (a_ (pv 0)))) (ai (b8 4 mv.nd (lN oh (pv 3) (k6 (pv 2)) (k6 (fM j7 (pv 2) (cD T.K'))))) (ai (b8 5 mv.nd (bC (aa a8 (aa (eA T.f9 (pv 3)) (aa (eA T.f9 (pv 4)) ax))))) (ai (iM bV rfl (e_ (pv 4)) (f7 6 mv.nd) (aB (cg (qx bT df dr jP (pv 5) (aa (O8 JE (by rfl) T.SY boot_list (aa (pv 6) ax)) ax))))) (aB (bf (pv 5))))))))),?_⟩;refine⟨_,rfl,dN (j:=0) (v:= .int f) fJ rfl rfl ?_⟩;refine⟨_,rfl,f,0,1000000,rfl,_,rfl,?_⟩;have hd:a9 (s0 t) (cLog [f])=if aO f 0 1000000=false then(s0 t,[-1]) else(s0 t,[0,aw t.log.length,aw ((t.log.drop f.toNat).take 100).length]++((t.log.drop f.toNat).take 100).flatMap fun e=>[aw e.at_,aw e.node,aw e.kind]):=rfl
  cases q:aO f 0 1000000 with
  |false=>
   rw[if_pos q] at hd;rw[ee hd] at k;exact c_ ⟨(by show 1<=aG;decide),fun p hp=>k.keep D (aF hp) hp ae⟩
  |true=>
   rw[if_neg (by rw[q];exact a0)] at hd;rw[ee hd] at k;obtain⟨q1,q2⟩:=dG q;obtain⟨n,hn⟩:∃n,f.toNat=n:=⟨_,rfl⟩;have hf:f=(n:Nat):=by omega
   rw[hn] at k;subst hf;have hL:(L.ev.map V.ref).length=t.log.length:=by rw[ab];exact R.y'
   refine di ⟨_,rfl,_,_,_,_,_,rfl,D.de,T.cQ,dX T,gv _ _ _,_,_,_,_,_,rfl,R.tr,T.bK,gh T,kG _ _,?_⟩;refine⟨_,rfl,_,rfl,_,rfl,_,rfl,_,_,rfl,rfl,_,rfl,_,_,rfl,cF.of R.el,fun to J3=>?_⟩;rw[show wO (L.ev.map V.ref) (some ((n:Nat):Int)) (some (((n:Nat):Int)+100))=((L.ev.map V.ref).drop n).take 100 from rV _ n 100];have s1:=aF (o:= .lst (((L.ev.map V.ref).drop n).take 100)) J3;have hD:(((L.ev.map V.ref).drop n).take 100).length=((t.log.drop n).take 100).length:=by rw[dJ,dJ,cY,cY,hL]
   refine⟨_,rfl,_,_,rfl,.inl (cF.of (s1 _ _ R.el)),_,rfl,_,_,rfl,.inl (cF.of ae),(by show 3<=aG;decide),fun an Cq=>?_⟩;have Sh:H an=none:=s1.free Cq;have Xi:to≠an:=fun e=>by rw[<-e,ae] at Cq;cases Cq
   rw[hL,hD];have s2:=s1.trans (aF (o:= .lst (bO [0,aw t.log.length,aw ((t.log.drop n).take 100).length])) Cq);refine⟨_,rfl,to,rfl,⟨_,cF.of (by rw[aA Xi,ae])⟩,gW (xs:=((L.ev.map V.ref).drop n).take 100) (fun j σ H'=>∃v:Option V,σ=[some (.ref d),some (.ref nu),some (.int (n:Nat)),some (.ref L.el),some (.ref to),some (.ref an),v]/\dc H H'/\H' to=some (.lst (((L.ev.map V.ref).drop n).take 100))/\
     H' an=some (.lst (bO ([0,aw t.log.length,aw ((t.log.drop n).take 100).length]++((((t.log.drop n).take 100).take j).flatMap fun e=>[aw e.at_,aw e.node,aw e.kind]))))) ⟨none,rfl,s2,by rw[aA Xi,ae],by rw[ae];rfl⟩ (fun j σ H' _ ⟨_,_,_,h,_⟩=>cF.of h) ?_ ?_⟩
   ·rintro j x σ H1 hx ⟨v,rfl,s3,he,ha⟩;have hj:j<100:=by
     have:=(aP.mp hx).1;rw[dJ] at this;omega
    rw[iX hj] at hx;obtain⟨c,e,rfl,hej,hc⟩:=Sr (R.same s3) hx;have aex:((t.log.drop n).take 100)[j]?=some e:=by rw[iX hj];exact hej
    have hlen:((((t.log.drop n).take 100).take j).flatMap fun e=>[aw e.at_,aw e.node,aw e.kind]).length<=300:=by
     have:∀l:List Event,(l.flatMap fun e=>[aw e.at_,aw e.node,aw e.kind]).length=3*l.length:=by
      intro l
      induction l with
      |nil=>rfl
      |cons a l ih=>rw[bU,aJ,ih,aQ];show 3+3*l.length=3*(l.length+1);omega
     rw[this];have h1:=gG j ((t.log.drop n).take 100);omega
    refine⟨_,rfl,.inl ⟨rfl,_,cF.of ha⟩,_,rfl,c,_,rfl,.inr (.inl (.inl hc)),fun q hq=>?_⟩;have s4:=aF (o:= .lst [.int (e.at_:Nat),.int (e.node:Nat),.int (e.kind:Nat)]) hq;refine⟨_,_,_,_,rfl,rfl,s4 _ _ ha,ae,?_,?_⟩
    ·rw[ab,aJ];exact cK (small (by show 3+_+3<=_;omega))
    ·refine⟨_,rfl,qJ (s3.trans s4) Sh,by rw[aA Xi];exact s4 _ _ he,?_⟩;rw[ae,take_snoc aex,eO];simp[aw]
   ·rintro σ H1 ⟨v,rfl,s3,he,ha⟩;rw[hD,bL] at ha;exact⟨_,rfl,k.keep D s3 Sh ha⟩
end
open Vbtkaj (fresh keptAt workAt breakerAt)
structure fX where
 room:Int
 age:Int
 limit:Int
 base:Int
 most:Int
 an:Addr
 wl:Addr
 fa:Addr
 ti:Addr
 asked:Int
 hits:Int
 begun:Int
def cB(s:fX):List (Str×V):=[("room",.int s.room),("age",.int s.age),("limit",.int s.limit),("base",.int s.base),("most",.int s.most),("answers",.ref s.an),("works",.ref s.wl),("faults",.ref s.fa),("untried_till",.ref s.ti),("asked",.int s.asked),("asked_fresh",.int s.hits),("asked_anew",.int s.begun)]
abbrev Q1:List Str:=["room","age","limit","base","most","answers","works","faults","untried_till","asked","asked_fresh","asked_anew"]
theorem OO:Q1.Nodup:=by decide+kernel
theorem dv(s:fX):((cB s).map (·.1)).Nodup:=OO
theorem Eg(s:fX):(cB s).lookup ("room":Str)=some (V.int s.room):=cC (i:=0) (dv s) rfl
theorem A4(s:fX):(cB s).lookup ("age":Str)=some (V.int s.age):=cC (i:=1) (dv s) rfl
theorem vN(s:fX):(cB s).lookup ("limit":Str)=some (V.int s.limit):=cC (i:=2) (dv s) rfl
theorem Ej(s:fX):(cB s).lookup ("base":Str)=some (V.int s.base):=cC (i:=3) (dv s) rfl
theorem Ei(s:fX):(cB s).lookup ("most":Str)=some (V.int s.most):=cC (i:=4) (dv s) rfl
theorem jM(s:fX):(cB s).lookup ("answers":Str)=some (V.ref s.an):=cC (i:=5) (dv s) rfl
theorem mr(s:fX):(cB s).lookup ("works":Str)=some (V.ref s.wl):=cC (i:=6) (dv s) rfl
theorem pK(s:fX):(cB s).lookup ("faults":Str)=some (V.ref s.fa):=cC (i:=7) (dv s) rfl
theorem gT(s:fX):(cB s).lookup ("untried_till":Str)=some (V.ref s.ti):=cC (i:=8) (dv s) rfl
theorem rC(s:fX):(cB s).lookup ("asked":Str)=some (V.int s.asked):=cC (i:=9) (dv s) rfl
theorem rB(s:fX):(cB s).lookup ("asked_fresh":Str)=some (V.int s.hits):=cC (i:=10) (dv s) rfl
theorem sY(s:fX):(cB s).lookup ("asked_anew":Str)=some (V.int s.begun):=cC (i:=11) (dv s) rfl
theorem Rf(s:fX)(v:Int):iA "room" (V.int v) (cB s)=cB {s with room:=v}:=gu (i:=0) (dv s) rfl
theorem UE(s:fX)(v:Int):iA "age" (V.int v) (cB s)=cB {s with age:=v}:=gu (i:=1) (dv s) rfl
theorem O2(s:fX)(v:Int):iA "limit" (V.int v) (cB s)=cB {s with limit:=v}:=gu (i:=2) (dv s) rfl
theorem Rh(s:fX)(v:Int):iA "base" (V.int v) (cB s)=cB {s with base:=v}:=gu (i:=3) (dv s) rfl
theorem Rg(s:fX)(v:Int):iA "most" (V.int v) (cB s)=cB {s with most:=v}:=gu (i:=4) (dv s) rfl
theorem Ce(s:fX)(v:Addr):iA "answers" (V.ref v) (cB s)=cB {s with an:=v}:=gu (i:=5) (dv s) rfl
theorem O0(s:fX)(v:Addr):iA "works" (V.ref v) (cB s)=cB {s with wl:=v}:=gu (i:=6) (dv s) rfl
theorem O3(s:fX)(v:Int):iA "asked" (V.int v) (cB s)=cB {s with asked:=v}:=gu (i:=9) (dv s) rfl
theorem CU(s:fX)(v:Int):iA "asked_fresh" (V.int v) (cB s)=cB {s with hits:=v}:=gu (i:=10) (dv s) rfl
theorem EI(s:fX)(v:Int):iA "asked_anew" (V.int v) (cB s)=cB {s with begun:=v}:=gu (i:=11) (dv s) rfl
theorem cU(s:fX){f:Str}(h: ¬f∈Q1):(cB s).lookup f=none:=Bs h
def JN(k v s:Int):List (Str×V):=[("key",.int k),("value",.int v),("since",.int s)]
abbrev afv:List Str:=["key","value","since"]
theorem Vz:afv.Nodup:=by decide+kernel
theorem DY(k v s:Int):((JN k v s).map (·.1)).Nodup:=Vz
theorem uQ(k v s:Int):(JN k v s).lookup ("key":Str)=some (V.int k):=cC (i:=0) (DY k v s) rfl
theorem AG(k v s:Int):(JN k v s).lookup ("value":Str)=some (V.int v):=cC (i:=1) (DY k v s) rfl
theorem AH(k v s:Int):(JN k v s).lookup ("since":Str)=some (V.int s):=cC (i:=2) (DY k v s) rfl
structure AM where
 key:Int
 since:Int
 wt:Addr
 keep:Bool
def kE(w:AM):List (Str×V):=[("key",.int w.key),("since",.int w.since),("waiting",.ref w.wt),("will_be_kept",.bl w.keep)]
abbrev Zq:List Str:=["key","since","waiting","will_be_kept"]
theorem QL:Zq.Nodup:=by decide+kernel
theorem qf(w:AM):((kE w).map (·.1)).Nodup:=QL
theorem i5(w:AM):(kE w).lookup ("key":Str)=some (V.int w.key):=cC (i:=0) (qf w) rfl
theorem D_(w:AM):(kE w).lookup ("since":Str)=some (V.int w.since):=cC (i:=1) (qf w) rfl
theorem fz(w:AM):(kE w).lookup ("waiting":Str)=some (V.ref w.wt):=cC (i:=2) (qf w) rfl
theorem Bg(w:AM)(b:Bool):iA "will_be_kept" (V.bl b) (kE w)=kE {w with keep:=b}:=gu (i:=3) (qf w) rfl
theorem rk(w:AM):(kE w).lookup ("will_be_kept":Str)=some (V.bl w.keep):=cC (i:=3) (qf w) rfl
structure SL where
 dx:Addr
 an:Addr
 wl:Addr
 fa:Addr
 ti:Addr
 ak:List (Addr×Addr)
 wk:List (Addr×Addr×Addr)
def dQ(s:Store)(L:SL):fX:=⟨s.room,s.age,s.limit,s.base,s.most,L.an,L.wl,L.fa,L.ti,s.asks,s.hits,s.begun⟩
def lz(w:Work)(q:Addr):AM:=⟨w.key,w.since,q,w.keep⟩
structure km(H:Hp)(a:Addr)(f:Nat->Nat)(kvs:List (Key×V)):Prop where
 at_:H a=some (.dK kvs)
 val:∀k:Nat,(iL kvs (aH (k:Int))).getD (.int 0)= .int (f k)
 nd:(kvs.map (·.1)).Nodup
 ks:∀p∈kvs,∃k:Nat,k<=99/\p.1=aH (k:Int)
def Td(cA:Addr)(H:Hp)(c:Addr×Addr)(k:Kept):Prop:=H c.1=some (.ins cA c.2 (JN (k.key:Nat) k.value (k.since:Nat)))
structure ze(cW:Addr)(ρ:Addr->Nat)(H:Hp)(c:Addr×Addr×Addr)(w:Work):Prop where
 ob:H c.1=some (.ins cW c.2.1 (kE (lz w c.2.2)))
 wt:H c.2.2=some (.lst (aV w.askers))
 ro:ρ c.1=1100+w.key
 Gz:ρ c.2.2=1300+w.key
structure AL{α β:Type}(R:α->β->Prop)(as:List α)(bs:List β):Prop where
 len:as.length=bs.length
 at_:∀(i:Nat) a b,as[i]?=some a->bs[i]?=some b->R a b
section
variable{α β:Type}{R R':α->β->Prop}
theorem AL.nil:AL R [] []:=⟨rfl,fun i a b h=>by simp at h⟩
theorem AL.imp{as:List α}{bs:List β}(h:AL R as bs)(f:∀a b,a∈as->b∈bs->R a b->R' a b):AL R' as bs:=⟨h.len,fun i a b h1 h2=>f a b (bB h1) (bB h2) (h.at_ i a b h1 h2)⟩
theorem AL.snoc{as:List α}{bs:List β}{a:α}{b:β}(h:AL R as bs)(r:R a b):AL R (as++[a]) (bs++[b]):=by
 refine⟨by rw[aJ,aJ,h.len];rfl,fun i x y h1 h2=>?_⟩;by_cases q:i<as.length
 ·rw[cq q] at h1;rw[cq (by rw[<-h.len];exact q)] at h2;exact h.at_ i x y h1 h2
 ·rw[dA (by omega)] at h1;rw[dA (by rw[<-h.len];omega),<-h.len] at h2;cases w:i -as.length with
  |zero=>
   rw[w] at h1 h2;cases aR h1;cases aR h2;exact r
  |succ n=>rw[w] at h1;cases h1
theorem AL.cons{as:List α}{bs:List β}{a:α}{b:β}(r:R a b)(h:AL R as bs):AL R (a::as) (b::bs):=by
 refine⟨by rw[aQ,aQ,h.len],fun i x y h1 h2=>?_⟩;cases i with
 |zero=>cases aR h1;cases aR h2;exact r
 |succ i=>exact h.at_ i x y h1 h2
theorem AL.take{as:List α}{bs:List β}(h:AL R as bs)(n:Nat):AL R (as.take n) (bs.take n):=by
 refine⟨by rw[dJ,dJ,h.len],fun i x y h1 h2=>?_⟩;have q:i<n:=by have:=(aP.mp h1).1;rw[dJ] at this;omega
 rw[iX q] at h1 h2;exact h.at_ i x y h1 h2
theorem AL.get{as:List α}{bs:List β}(h:AL R as bs){i:Nat}{a:α}(h1:as[i]?=some a):∃b,bs[i]?=some b/\R a b:=by
 have hi:i<bs.length:=by rw[<-h.len];exact(aP.mp h1).1
 exact⟨bs[i],aS hi,h.at_ i a _ h1 (aS hi)⟩
end
def F2(cA:Addr)(ρ:Addr->Nat)(H:Hp)(c:Addr×Addr)(k:Kept):Prop:=Td cA H c k/\ρ c.1=0
structure fI(cA cW:Addr)(ρ:Addr->Nat)(H:Hp)(s:Store)(L:SL):Prop where
 an:H L.an=some (.lst (L.ak.map fun c=>V.ref c.1))
 ak:AL (F2 cA ρ H) L.ak s.kept
 wl:H L.wl=some (.lst (L.wk.map fun c=>V.ref c.1))
 wk:AL (ze cW ρ H) L.wk s.works
 fa:∃kvs,km H L.fa (fun k=>(b0 s k).faults) kvs
 ti:∃kvs,km H L.ti (fun k=>(b0 s k).till) kvs
 ra:ρ L.an=0
 LM:ρ L.wl=1002
 GB:ρ L.fa=1004
 GA:ρ L.ti=1005
 free:∀b,H b=none->ρ b=0
structure kU(cS cA cW:Addr)(ρ:Addr->Nat)(H:Hp)(a:Addr)(s:Store)(L:SL):Prop extends fI cA cW ρ H s L where
 st:H a=some (.ins cS L.dx (cB (dQ s L)))
 rs:ρ a=1000
def lB(ρ:Addr->Nat)(H:Hp)(ρ':Addr->Nat)(H':Hp):Prop:=∀b o,H b=some o->ρ' b=ρ b/\((ρ b<1000\/2000<=ρ b)->H' b=some o)
theorem lB.refl(ρ:Addr->Nat)(H:Hp):lB ρ H ρ H:=fun b o e=>⟨rfl,fun _=>e⟩
theorem lB.of{ρ:Addr->Nat}{H H':Hp}(s:dc H H'):lB ρ H ρ H':=fun b o e=>⟨rfl,fun _=>s b o e⟩
theorem lB.upd{ρ:Addr->Nat}{H:Hp}{c:Addr}{o:HO}(h:1000<=ρ c/\ρ c<2000):lB ρ H ρ (upd H c o):=fun b u e=>⟨rfl,fun r=>by
 rw[aA (fun q=>by rw[q] at r;omega)];exact e⟩
theorem lB.trans{ρ ρ1 ρ2:Addr->Nat}{H H1 H2:Hp}(f:lB ρ H ρ1 H1)(fr:∀b,H1 b=none->ρ1 b=0)(g:lB ρ1 H1 ρ2 H2):lB ρ H ρ2 H2:=fun b o e=>by
 obtain⟨h1,h2⟩:=f b o e;by_cases r:ρ b<1000\/2000<=ρ b
 ·obtain⟨h3,h4⟩:=g b o (h2 r);exact⟨h3.trans h1,fun _=>h4 (by rw[h1];exact r)⟩
 ·cases q:H1 b with
  |none=>have:=fr b q;omega
  |some o1=>exact⟨(g b o1 q).1.trans h1,fun z=>absurd z r⟩
theorem lB.none{ρ ρ':Addr->Nat}{H H':Hp}(f:lB ρ H ρ' H')(fr:∀b,H' b=none->ρ' b=0){p:Addr}(h:H' p=none):H p=none:=by
 cases q:H p with
 |none=>rfl
 |some o=>
  obtain⟨h1,h2⟩:=f p o q;rw[h2 (.inl (by rw[<-h1,fr p h];decide))] at h;cases h
section
variable{cS cA cW:Addr}{ρ:Addr->Nat}{H H':Hp}{a:Addr}{s:Store}{L:SL}
theorem km.same{f:Nat->Nat}{kvs:List (Key×V)}(D:km H a f kvs)(h:dc H H'):km H' a f kvs:=⟨h _ _ D.at_,D.val,D.nd,D.ks⟩
theorem F2.same{c:Addr×Addr}{k:Kept}(X:F2 cA ρ H c k)(h:dc H H'):F2 cA ρ H' c k:=⟨h _ _ X.1,X.2⟩
theorem ze.same{c:Addr×Addr×Addr}{w:Work}(X:ze cW ρ H c w)(h:dc H H'):ze cW ρ H' c w:=⟨h _ _ X.ob,h _ _ X.wt,X.ro,X.Gz⟩
theorem fI.same(R:fI cA cW ρ H s L)(h:dc H H'):fI cA cW ρ H' s L:=
 ⟨h _ _ R.an,R.ak.imp fun c k _ _ X=>X.same h,h _ _ R.wl,R.wk.imp fun c w _ _ X=>X.same h,let ⟨kvs,D⟩:=R.fa;⟨kvs,D.same h⟩,let ⟨kvs,D⟩:=R.ti;⟨kvs,D.same h⟩,R.ra,R.LM,R.GB,R.GA,fun b q=>R.free b (h.free q)⟩
theorem kU.same(R:kU cS cA cW ρ H a s L)(h:dc H H'):kU cS cA cW ρ H' a s L:=⟨R.tofI.same h,h _ _ R.st,R.rs⟩
theorem fI.inst(R:fI cA cW ρ H s L){C dx:Addr}{fs fs':List (Str×V)}(h:H a=some (.ins C dx fs))(nA:C≠cA)(nW:C≠cW):fI cA cW ρ (upd H a (.ins C dx fs')) s L:=by
 have l1:∀b xs,H b=some (.lst xs)->upd H a (.ins C dx fs') b=some (.lst xs):=fun b xs e=>by rw[aA (dF e h)];exact e
 have d1:∀b kvs,H b=some (.dK kvs)->upd H a (.ins C dx fs') b=some (.dK kvs):=fun b kvs e=>by rw[aA (j9 e h (by intro q;cases q))];exact e
 have i1:∀b C' d f,H b=some (.ins C' d f)->C'≠C->upd H a (.ins C dx fs') b=some (.ins C' d f):=fun b C' d f e n=>by rw[aA (j9 e h (by intro q;injection q with q1;exact n q1))];exact e
 refine⟨l1 _ _ R.an,R.ak.imp fun c k _ _ X=>⟨i1 _ _ _ _ X.1 nA.symm,X.2⟩,l1 _ _ R.wl,R.wk.imp fun c w _ _ X=>⟨i1 _ _ _ _ X.ob nW.symm,l1 _ _ X.wt,X.ro,X.Gz⟩,?_,?_,R.ra,R.LM,R.GB,R.GA,fun b q=>R.free b ?_⟩
 ·obtain⟨kvs,D⟩:=R.fa;exact⟨kvs,d1 _ _ D.at_,D.val,D.nd,D.ks⟩
 ·obtain⟨kvs,D⟩:=R.ti;exact⟨kvs,d1 _ _ D.at_,D.val,D.nd,D.ks⟩
 ·cases z:H b with
  |none=>rfl
  |some o=>
   exfalso;by_cases e:b=a
   ·rw[e,ae] at q;cases q
   ·rw[aA e,z] at q;cases q
def mf(a:Addr)(H H':Hp):Prop:=∀b o,H b=some o->b≠a->H' b=some o
theorem mf.Vl{ρ:Addr->Nat}{H H':Hp}{a:Addr}(h:mf a H H')(r:1000<=ρ a/\ρ a<2000){ρ':Addr->Nat}(hr:∀b o,H b=some o->ρ' b=ρ b):lB ρ H ρ' H':=fun b o e=>⟨hr b o e,fun z=>h b o e (fun q=>by rw[q] at z;omega)⟩
theorem mf.of{a:Addr}{H H':Hp}(h:dc H H'):mf a H H':=fun b o e _=>h b o e
theorem mf.trans{a:Addr}{H H1 H2:Hp}(f:mf a H H1)(g:mf a H1 H2):mf a H H2:=fun b o e n=>g b o (f b o e n) n
theorem mf.upd{a:Addr}{H:Hp}{o:HO}:mf a H (upd H a o):=fun b u e n=>by rw[aA n];exact e
theorem kU.S_(R:kU cS cA cW ρ H a s L){i:Nat}{x:V}(h:(L.ak.map fun c=>V.ref c.1)[i]?=some x):∃c k,L.ak[i]?=some c/\s.kept[i]?=some k/\x= .ref c.1/\F2 cA ρ H c k:=by
 rw[aM] at h;cases e:L.ak[i]? with
 |none=>rw[e] at h;cases h
 |some c=>
  rw[e] at h;obtain⟨k,h1,h2⟩:=R.ak.get e;exact⟨c,k,rfl,h1,(aR h).symm,h2⟩
theorem kU.Nm(R:kU cS cA cW ρ H a s L){i:Nat}{x:V}(h:(L.wk.map fun c=>V.ref c.1)[i]?=some x):∃c w,L.wk[i]?=some c/\s.works[i]?=some w/\x= .ref c.1/\ze cW ρ H c w:=by
 rw[aM] at h;cases e:L.wk[i]? with
 |none=>rw[e] at h;cases h
 |some c=>
  rw[e] at h;obtain⟨w,h1,h2⟩:=R.wk.get e;exact⟨c,w,rfl,h1,(aR h).symm,h2⟩
end
open Vbtkaj (fresh keptAt workAt breakerAt waitsFor)
theorem uO{α:Type}{p:α->Bool}:∀{l:List α} {i:Nat} {x:α},(∀j y,j<i->l[j]?=some y->p y=false)->l[i]?=some x->p x=true->l.find? p=some x
 |[],i,x,_,h,_=>by simp at h
 |a::l,0,x,_,h,hp=>by
  cases aR h;rw[dS,hp]
 |a::l,i+1,x,hn,h,hp=>by
  rw[dS,hn 0 a (Nat.succ_pos _) rfl];exact uO (fun j y hj hy=>hn (j+1) y (by omega) hy) h hp
theorem find_none{α:Type}{p:α->Bool}{l:List α}(h:∀(j:Nat) y,j<l.length->l[j]?=some y->p y=false):l.find? p=none:=by
 rw[hZ];intro x hx;obtain⟨j,hj⟩:=kx.mp hx;rw[h j x (aP.mp hj).1 hj];exact aU
section
variable{P:bq}{w:cf}{K:aq}{mg:Str->Option ao}{base:Heap}
abbrev SR(T:Tx K mg):=kU T.b_ T.eI T.ie
theorem kR(a b:Nat):decide ((a:Int)=(b:Int))=(a==b):=by
 rw[oJ];exact decide_eq_decide.mpr (by omega)
def zI(T:Tx K mg):Sp:=fun vs H Q _=>∃(a dx:Addr) (c:Addr×Addr) (k:Kept) (s:Store) (L:SL),vs=[.ref a,.ref c.1,.int (s.now:Nat)]/\H a=some (.ins T.b_ dx (cB (dQ s L)))/\Td T.eI H c k/\Q (.bl (fresh s k)) H
theorem rN(T:Tx K mg):cz P w K mg base fY 1 T.kT.f T.kT.fd ["self","answer","now"] (zI T):=by
 refine T.kT.F.ok zP (fun vs H Q E h=>?_) (fun dY A outer s H vs Q E hr h=>?_)
 ·obtain⟨a,dx,c,k,s,L,rfl,_⟩:=h;rfl
 ·obtain⟨a,dx,c,k,st,L,rfl,ha,hc,kk⟩:=h;refine⟨_,(aB (bf (VU (uz mY (a_ (pv 0)) a8) (Bi (uz tD (pv 2) (fM j7 (a_ (pv 1)) (a_ (pv 0)))))))),?_⟩;refine⟨_,rfl,_,_,_,_,_,rfl,ha,T.ba,nc T,A4 _,rfl,_,rfl,?_⟩;rw[eY];have e0:decide ((dQ st L).age=0)=(st.age==0):=kR st.age 0;rw[e0];unfold Vbtkaj.fresh at kk;cases q:st.age==0 with
  |true=>
   rw[q,LK] at kk;exact c_ kk
  |false=>
   rw[q,J1] at kk;refine di ⟨_,rfl,_,rfl,_,_,_,_,_,rfl,hc,T.i_,pj T,AH _ _ _,_,rfl,_,_,_,_,_,rfl,ha,T.ba,nc T,A4 _,_,_,rfl,rfl,_,_,rfl,rfl,?_⟩;have e1:decide (((st.now:Nat):Int)<((k.since:Nat):Int)+(dQ st L).age)=decide (st.now<k.since+st.age):=decide_eq_decide.mpr (by show _<_+((st.age:Nat):Int)↔_;omega);rw[<-e1] at kk;exact kk
def vk(T:Tx K mg):Sp:=fun vs H Q _=>∃(a:Addr) (key:Nat) (ρ:Addr->Nat) (s:Store) (L:SL),vs=[.ref a,.int (key:Nat),.int (s.now:Nat)]/\SR T ρ H a s L/\Sm.oG s/\(∀c k,F2 T.eI ρ H c k->k∈s.kept->H_ s key=some k->Q (.ref c.1) H)/\(H_ s key=none->Q .gE H)
theorem vp(T:Tx K mg):cz P w K mg base fY 2 T.jw.f T.jw.fd ["self","key","now"] (vk T):=by
 refine T.jw.F.ok nH (fun vs H Q E h=>?_) (fun dY A outer s H vs Q E hr h=>?_)
 ·obtain⟨a,key,ρ,s,L,rfl,_⟩:=h;rfl
 ·obtain⟨a,key,ρ,st,L,rfl,R,W,k1,k2⟩:=h;have Qp:=Sm.Pq W key;refine⟨_,(ai (iM bV rfl (e_ (a_ (pv 0))) (f7 3 nH.nd) (aB (cX (PW.pt (Mr (c8 mY (a_ (pv 3)) (pv 1)) (IP (cZ (dR (pv 0) T.ba T.kT (rN T) hr (aa (pv 3) (aa (pv 2) ax))))))) (aB (bf (pv 3))) bI))) (aB (bf nV))),?_⟩;refine⟨_,rfl,_,_,_,_,_,rfl,R.st,T.ba,eD T,jM _,_,rfl,⟨_,cF.of R.an⟩,gW (xs:=L.ak.map fun c=>V.ref c.1) (fun i σ H'=>∃v:Option V,σ=[some (.ref a),some (.int (key:Nat)),some (.int (st.now:Nat)),v]/\H'=H/\∀(j:Nat) y,j<i->st.kept[j]?=some y->(y.key==key&&fresh st y)=false)
   ⟨none,rfl,rfl,fun j y hj=>absurd hj (iS _)⟩ (fun i σ H' _ ⟨_,_,e,_⟩=>by rw[e];exact cF.of R.an) ?_ ?_⟩
  ·rintro i x σ H' hx ⟨v,rfl,rfl,LP⟩;obtain⟨c,k,hc,hk,rfl,hA⟩:=R.S_ hx;have step:(k.key==key&&fresh st k)=false->∃v:Option V,[some (V.ref a),some (.int (key:Nat)),some (.int (st.now:Nat)),some (.ref c.1)]=[some (.ref a),some (.int (key:Nat)),some (.int (st.now:Nat)),v]/\H'=H'/\∀(j:Nat) y,j<i+1->st.kept[j]?=some y->(y.key==key&&fresh st y)=false:=fun z=>⟨_,rfl,rfl,fun j y hj hy=>by
    by_cases q:j=i
    ·rw[q,hk] at hy;cases aR hy;exact z
    ·exact LP j y (by omega) hy⟩
   refine⟨_,rfl,_,_,_,_,_,rfl,hA.1,T.i_,lO T,uQ _ _ _,_,rfl,rfl,_,rfl,?_⟩;rw[eY,kR];cases q:k.key==key with
   |false=>exact di (di (step (by rw[q,jg])))
   |true=>
    refine c_ ⟨_,rfl,_,_,_,rfl,R.st,cU _ (by decide+kernel),_,rfl,_,rfl,a,_,c,k,st,L,rfl,R.st,hA.1,_,rfl,?_⟩;cases q2:fresh st k with
    |false=>exact di (step (by rw[q,q2];rfl))
    |true=>
     refine c_ ⟨_,rfl,k1 c k hA (bB hk) ?_⟩;rw[Qp];exact uO LP hk (by rw[q,q2];rfl)
  ·rintro σ H' ⟨v,rfl,rfl,LP⟩;refine k2 ?_;rw[Qp];refine find_none fun j y hj hy=>LP j y ?_ hy;rw[ab,R.ak.len];exact hj
def Ba(T:Tx K mg):Sp:=fun vs H Q _=>∃(a:Addr) (key:Nat) (ρ:Addr->Nat) (s:Store) (L:SL),vs=[.ref a,.int (key:Nat)]/\SR T ρ H a s L/\(∀(i:Nat) c w,L.wk[i]?=some c->s.works[i]?=some w->l4 s key=some w->Q (.ref c.1) H)/\(l4 s key=none->Q .gE H)
theorem k7(T:Tx K mg):cz P w K mg base fY 1 T.iR.f T.iR.fd ["self","key"] (Ba T):=by
 refine T.iR.F.ok tm (fun vs H Q E h=>?_) (fun dY A outer s H vs Q E hr h=>?_)
 ·obtain⟨a,key,ρ,s,L,rfl,_⟩:=h;rfl
 ·obtain⟨a,key,ρ,st,L,rfl,R,k1,k2⟩:=h;refine⟨_,(ai (iM bV rfl (e_ (a_ (pv 0))) (f7 2 tm.nd) (aB (cX (c8 mY (a_ (pv 2)) (pv 1)) (aB (bf (pv 2))) bI))) (aB (bf nV))),?_⟩;refine⟨_,rfl,_,_,_,_,_,rfl,R.st,T.ba,gi T,mr _,_,rfl,⟨_,cF.of R.wl⟩,gW (xs:=L.wk.map fun c=>V.ref c.1) (fun i σ H'=>∃v:Option V,σ=[some (.ref a),some (.int (key:Nat)),v]/\H'=H/\∀(j:Nat) (y:Work),j<i->st.works[j]?=some y->(y.key==key)=false)
   ⟨none,rfl,rfl,fun j y hj=>absurd hj (iS _)⟩ (fun i σ H' _ ⟨_,_,e,_⟩=>by rw[e];exact cF.of R.wl) ?_ ?_⟩
  ·rintro i x σ H' hx ⟨v,rfl,rfl,LP⟩;obtain⟨c,w,hc,hk,rfl,hA⟩:=R.Nm hx;refine⟨_,rfl,_,_,_,_,_,rfl,hA.ob,T.dO,eL T,i5 _,_,rfl,rfl,_,rfl,?_⟩;have e1:decide (V.int (lz w c.2.2).key=V.int (key:Nat))=(w.key==key):=by rw[eY];exact kR _ _
   rw[e1];cases q:w.key==key with
   |false=>
    refine di ⟨_,rfl,rfl,fun j y hj hy=>?_⟩;by_cases z:j=i
    ·rw[z,hk] at hy;cases aR hy;exact q
    ·exact LP j y (by omega) hy
   |true=>exact c_ ⟨_,rfl,k1 i c w hc hk (uO LP hk q)⟩
  ·rintro σ H' ⟨v,rfl,rfl,LP⟩;refine k2 (find_none fun j y hj hy=>LP j y ?_ hy);rw[ab,R.wk.len];exact hj
def sd(T:Tx K mg):Sp:=fun vs H Q _=>∃(a:Addr) (n:Nat) (ρ:Addr->Nat) (s:Store) (L:SL),vs=[.ref a,.int (n:Nat)]/\SR T ρ H a s L/\(∀(i:Nat) c w,L.wk[i]?=some c->s.works[i]?=some w->Gd s n=some w->Q (.ref c.1) H)/\(Gd s n=none->Q .gE H)
theorem sy(T:Tx K mg):cz P w K mg base fY 1 T.g6.f T.g6.fd ["self","ask"] (sd T):=by
 refine T.g6.F.ok lK (fun vs H Q E h=>?_) (fun dY A outer s H vs Q E hr h=>?_)
 ·obtain⟨a,n,ρ,s,L,rfl,_⟩:=h;rfl
 ·obtain⟨a,n,ρ,st,L,rfl,R,k1,k2⟩:=h;refine⟨_,(ai (iM bV rfl (e_ (a_ (pv 0))) (f7 2 lK.nd) (aB (cX (w8 Bl (pv 1) (a_ (pv 2)) (by with_unfolding_all rfl)) (aB (bf (pv 2))) bI))) (aB (bf nV))),?_⟩;refine⟨_,rfl,_,_,_,_,_,rfl,R.st,T.ba,gi T,mr _,_,rfl,⟨_,cF.of R.wl⟩,gW (xs:=L.wk.map fun c=>V.ref c.1) (fun i σ H'=>∃v:Option V,σ=[some (.ref a),some (.int (n:Nat)),v]/\H'=H/\∀(j:Nat) (y:Work),j<i->st.works[j]?=some y->y.askers.contains n=false)
   ⟨none,rfl,rfl,fun j y hj=>absurd hj (iS _)⟩ (fun i σ H' _ ⟨_,_,e,_⟩=>by rw[e];exact cF.of R.wl) ?_ ?_⟩
  ·rintro i x σ H' hx ⟨v,rfl,rfl,LP⟩;obtain⟨c,w,hc,hk,rfl,hA⟩:=R.Nm hx;refine⟨_,rfl,_,rfl,_,_,_,_,_,rfl,hA.ob,T.dO,dP T,fz _,_,_,rfl,.inl (cF.of hA.wt),rfl,n6 _,_,rfl,?_⟩;show if U3 (.int (n:Nat)) (aV w.askers)=true then _ else _
   rw[tM];by_cases q:w.askers.contains n=true
   ·rw[if_pos q];exact⟨_,rfl,k1 i c w hc hk (uO LP hk q)⟩
   ·rw[if_neg q];refine⟨_,rfl,rfl,fun j y hj hy=>?_⟩;by_cases z:j=i
    ·rw[z,hk] at hy;cases aR hy;simpa using q
    ·exact LP j y (by omega) hy
  ·rintro σ H' ⟨v,rfl,rfl,LP⟩;refine k2 (find_none fun j y hj hy=>LP j y ?_ hy);rw[ab,R.wk.len];exact hj
theorem FQ(xs:List V)(n:Nat):wO xs none (some (n:Int))=xs.take n:=by
 unfold wO;rw[HT.Q6,HT.DG,x6,Mc];by_cases h:n<=xs.length
 ·rw[gB h]
 ·rw[lF (by omega),bL,jI (by omega)]
theorem fI.abj{cA cW:Addr}{ρ:Addr->Nat}{H:Hp}{s:Store}{L:SL}(R:fI cA cW ρ H s L){D:Addr}{bs:List (Addr×Addr)}{kept:List Kept}(hD:H D=some (.lst (bs.map fun c=>V.ref c.1)))(rD:ρ D=0)(al:AL (F2 cA ρ H) bs kept):
  fI cA cW ρ H {s with kept:=kept} {L with an:=D,ak:=bs}:=⟨hD,al,R.wl,R.wk,R.fa,R.ti,rD,R.LM,R.GB,R.GA,R.free⟩
theorem Hw(T:Tx K mg):T.b_≠T.eI:=by
 have h:=T.SI;simp only[bG,az] at h;intro e;simp[e] at h
theorem Fi(T:Tx K mg):T.b_≠T.ie:=by
 have h:=T.SI;simp only[bG,az] at h;intro e;simp[e] at h
def qU(T:Tx K mg):Sp:=fun vs H Q _=>∃(a:Addr) (ρ:Addr->Nat) (s:Store) (L:SL),vs=[.ref a]/\SR T ρ H a s L/\∀(H':Hp) (L':SL),SR T ρ H' a {s with kept:=s.kept.take s.room} L'->mf a H H'->L'.wk=L.wk->Q .gE H'
theorem lA(T:Tx K mg):cz P w K mg base fY 1 T.fH.f T.fH.fd ["self"] (qU T):=by
 refine T.fH.F.ok qV (fun vs H Q E h=>?_) (fun dY A outer s H vs Q E hr h=>?_)
 ·obtain⟨a,ρ,s,L,rfl,_⟩:=h;rfl
 ·obtain⟨a,ρ,st,L,rfl,R,k⟩:=h;refine⟨_,(aB (c9 (pv 0) (lN oh (a_ (pv 0)) uv (k6 (a_ (pv 0)))) rfl)),?_⟩;refine⟨_,rfl,_,_,_,_,_,rfl,R.st,T.ba,eD T,jM _,_,rfl,_,_,_,_,_,rfl,R.st,T.ba,om T,Eg _,_,rfl,_,_,rfl,cF.of R.an,fun D hD=>?_⟩;rw[show wO (L.ak.map fun c=>V.ref c.1) none (some (dQ st L).room)=(L.ak.map fun c=>V.ref c.1).take st.room from FQ _ _];have s1:=aF (o:= .lst ((L.ak.map fun c=>V.ref c.1).take st.room)) hD;have R1:=R.same s1;refine⟨_,rfl,_,_,_,_,rfl,R1.st,T.ba,eD T,(by show 12<1000;decide),?_⟩;rw[Ce];have p1:=(R1.tofI.abj (D:=D) (bs:=L.ak.take st.room) (kept:=st.kept.take st.room) (by rw[ae,t7]) (R.free D hD) (R1.ak.take st.room)).inst (a:=a) (fs':=cB {dQ st L with an:=D}) R1.st (Hw T) (Fi T);exact k _ _ ⟨p1,ae,R.rs⟩ ((mf.of s1).trans mf.upd) rfl
def Gv(T:Tx K mg):Sp:=fun vs H Q _=>∃(a:Addr) (key:Nat) (ρ:Addr->Nat) (s:Store) (L:SL),vs=[.ref a,.int (key:Nat)]/\SR T ρ H a s L/\Sm.oG s/\∀(H':Hp) (L':SL),SR T ρ H' a {s with kept:=s.kept.filter fun x=>x.key !=key} L'->mf a H H'->L'.wk=L.wk->H L'.an=none->Q .gE H'
theorem sA(T:Tx K mg):cz P w K mg base fY 1 T.n_.f T.n_.fd ["self","key"] (Gv T):=by
 refine T.n_.F.ok sk (fun vs H Q E h=>?_) (fun dY A outer s H vs Q E hr h=>?_)
 ·obtain⟨a,key,ρ,s,L,rfl,_⟩:=h;rfl
 ·obtain⟨a,key,ρ,st,L,rfl,R,W,k⟩:=h;have K2:st.kept.length<=8:=aD W.xR W.room;refine⟨_,(aB (c9 (pv 0) (z0 rfl sk.nd (e_ (a_ (pv 0))) (jE (N:=["self","key","answer"]) (sc:=aN ur) (own:=[("answer",2)]) (by decide+kernel)) (fun _ _ _ _ _=>(f7 2 sk.nd)) (fun _ _ _ _ _=>pP (c8 KA (ux (K:=K) rfl (pv 2) rfl) (pv 1))) (fun _ _ _ _ _=>(pv 2))) rfl)),?_⟩;refine⟨_,rfl,_,_,_,_,_,rfl,R.st,T.ba,eD T,jM _,_,rfl,⟨_,cF.of R.an⟩,fun D hD=>?_⟩;refine oB (xs:=L.ak.map fun c=>V.ref c.1) (fun i H'=>∃bs:List (Addr×Addr),H' D=some (.lst (bs.map fun c=>V.ref c.1))/\AL (F2 T.eI ρ H) bs ((st.kept.take i).filter fun x=>x.key !=key)/\dc H H') ⟨[],ae,AL.nil,aF hD⟩ (fun i H' _ ⟨_,_,_,q⟩=>cF.of (show H' L.an=_ from q _ _ R.an)) ?_ ?_
  ·rintro i x H1 hx ⟨bs,h1,h2,h3⟩;obtain⟨c,k0,hc,hk,rfl,hA⟩:=R.S_ hx;refine⟨rfl,_,rfl,_,_,_,_,_,rfl,(h3 _ _ hA.1),T.i_,lO T,uQ _ _ _,_,rfl,rfl,_,rfl,?_⟩;rw[eY,kR,take_snoc hk,bM];cases q:k0.key==key with
   |true=>
    have q2:(k0.key !=key)=false:=by show(!(k0.key==key))=false;rw[q];rfl
    refine di ⟨bs,h1,?_,h3⟩;rw[aZ,q2,if_neg aU,cx,cE];exact h2
   |false=>
    have q2:(k0.key !=key)=true:=by show(!(k0.key==key))=true;rw[q];rfl
    refine c_ ⟨_,rfl,_,h1,?_,bs++[c],?_,?_,qJ h3 hD⟩
    ·rw[ab,h2.len];exact small (aD (bh _ _) (aD (bJ _ _) (by omega)))
    ·rw[ae,cb];rfl
    ·rw[aZ,q2,if_pos rfl,cx];exact h2.snoc hA
  ·rintro H1 ⟨bs,h1,h2,h3⟩;rw[ab,R.ak.len,bL] at h2;have R1:=R.same h3;refine⟨_,rfl,_,_,_,_,rfl,R1.st,T.ba,eD T,(by show 12<1000;decide),?_⟩;rw[Ce];have p1:=(R1.tofI.abj (D:=D) h1 (R.free D hD) (h2.imp fun c k _ _ X=>X.same h3)).inst (a:=a) (fs':=cB {dQ st L with an:=D}) R1.st (Hw T) (Fi T);exact k _ _ ⟨p1,ae,R.rs⟩ ((mf.of h3).trans mf.upd) rfl hD
def yM(T:Tx K mg):Sp:=fun vs H Q _=>∃(a:Addr) (c:Addr×Addr) (k:Kept) (ρ:Addr->Nat) (s:Store) (L:SL),vs=[.ref a,.ref c.1]/\SR T ρ H a s L/\Sm.oG s/\F2 T.eI ρ H c k/\∀(H':Hp) (L':SL),SR T ρ H' a {s with kept:=(lu s k).take s.room} L'->mf a H H'->L'.wk=L.wk->Q .gE H'
theorem qA(T:Tx K mg):cz P w K mg base fY 2 T.jF.f T.jF.fd ["self","answer"] (yM T):=by
 refine T.jF.F.ok yQ (fun vs H Q E h=>?_) (fun dY A outer s H vs Q E hr h=>?_)
 ·obtain⟨a,c,k,ρ,s,L,rfl,_⟩:=h;rfl
 ·obtain⟨a,c,k0,ρ,st,L,rfl,R,W,hA,k⟩:=h;have K2:st.kept.length<=8:=aD W.xR W.room;refine⟨_,(ai (cg (dR (pv 0) T.ba T.n_ (sA T) hr (aa (a_ (pv 1)) ax))) (ai (cg (qx bT vc Gh Hz (a_ (pv 0)) (aa a8 (aa (pv 1) ax)))) (aB (cg (Sv (pv 0) T.ba T.fH (lA T) hr))))),?_⟩;refine⟨_,rfl,_,_,_,rfl,R.st,cU _ (by decide+kernel),_,rfl,_,_,_,_,_,rfl,hA.1,T.i_,lO T,uQ _ _ _,a,k0.key,ρ,st,L,rfl,R,W,fun H1 L1 R1 o1 hw1 n1=>?_⟩;have hca:c.1≠a:=j9 hA.1 R.st (by intro q;injection q with q1;exact Hw T q1.symm);have X0:F2 T.eI ρ H1 c k0:=⟨o1 _ _ hA.1 hca,hA.2⟩;refine⟨_,rfl,_,_,_,_,_,rfl,R1.st,T.ba,eD T,jM _,.inl ⟨rfl,_,cF.of R1.an⟩,_,rfl,_,_,_,rfl,rfl,R1.an,?_,?_⟩
  ·rw[ab,R1.ak.len];exact small (aD (bh _ _) (by omega))
  have nax:a≠L1.an:=(dF R1.an R1.st).symm;have i2:∀b C d f,H1 b=some (.ins C d f)->upd H1 L1.an (.lst (.ref c.1::L1.ak.map fun c=>V.ref c.1)) b=some (.ins C d f):=fun b C d f e=>by rw[aA (dF R1.an e).symm];exact e
  have R2:SR T ρ (upd H1 L1.an (.lst (.ref c.1::L1.ak.map fun c=>V.ref c.1))) a {st with kept:=lu st k0} {L1 with ak:=c::L1.ak}:=by
   have l2:∀b xs,H1 b=some (.lst xs)->ρ b≠0->upd H1 L1.an (.lst (.ref c.1::L1.ak.map fun c=>V.ref c.1)) b=some (.lst xs):=fun b xs e r=>by rw[aA (fun q=>r (by rw[q];exact R1.ra))];exact e
   have d2:∀b kvs,H1 b=some (.dK kvs)->upd H1 L1.an (.lst (.ref c.1::L1.ak.map fun c=>V.ref c.1)) b=some (.dK kvs):=fun b kvs e=>by rw[aA (j9 e R1.an (by intro q;cases q))];exact e
   refine⟨⟨ae,AL.cons ⟨i2 _ _ _ _ X0.1,X0.2⟩ (R1.ak.imp fun c k _ _ X=>⟨i2 _ _ _ _ X.1,X.2⟩),l2 _ _ R1.wl (by rw[R1.LM];decide),R1.wk.imp fun c w _ _ X=>⟨i2 _ _ _ _ X.ob,l2 _ _ X.wt (by rw[X.Gz];omega),X.ro,X.Gz⟩,?_,?_,R1.ra,R1.LM,R1.GB,R1.GA,fun b q=>R1.free b ?_⟩,i2 _ _ _ _ R1.st,R1.rs⟩
   ·obtain⟨kvs,E⟩:=R1.fa;exact⟨kvs,d2 _ _ E.at_,E.val,E.nd,E.ks⟩
   ·obtain⟨kvs,E⟩:=R1.ti;exact⟨kvs,d2 _ _ E.at_,E.val,E.nd,E.ks⟩
   ·cases z:H1 b with
    |none=>rfl
    |some o=>
     exfalso;by_cases e:b=L1.an
     ·rw[e,ae] at q;cases q
     ·rw[aA e,z] at q;cases q
  refine⟨_,rfl,_,_,_,rfl,R2.st,cU _ (by decide+kernel),a,ρ,_,_,rfl,R2,fun H3 L3 R3 o3 hw3=>?_⟩;refine k H3 L3 R3 (fun b o e n=>o3 b o ?_ n) (hw3.trans hw1);show upd H1 L1.an _ b=some o;rw[aA (aE e n1)];exact o1 b o e n
def zJ(T:Tx K mg):Sp:=fun vs H Q _=>∃(a:Addr) (c dx:Addr) (wd:AM) (key:Nat) (ρ:Addr->Nat) (s:Store) (L:SL),vs=[.ref a,.ref c]/\SR T ρ H a s L/\H c=some (.ins T.ie dx (kE wd))/\wd.key=(key:Nat)/\s.works.length<=100/\
 ∀(H':Hp) (ρ':Addr->Nat) (L':SL),SR T ρ' H' a {s with works:=s.works.filter fun x=>x.key !=key} L'->mf a H H'->(∀b o,H b=some o->ρ' b=ρ b)->Q .gE H'
theorem m9(T:Tx K mg):cz P w K mg base fY 1 T.i'.f T.i'.fd ["self","work"] (zJ T):=by
 refine T.i'.F.ok mV (fun vs H Q E h=>?_) (fun dY A outer s H vs Q E hr h=>?_)
 ·obtain⟨a,c,dx,wd,key,ρ,s,L,rfl,_⟩:=h;rfl
 ·obtain⟨a,cw,dx,wd,key,ρ,st,L,rfl,R,hcw,sG,MK,k⟩:=h;refine⟨_,(aB (c9 (pv 0) (z0 rfl mV.nd (e_ (a_ (pv 0))) (jE (N:=["self","work","other"]) (sc:=aN nT) (own:=[("other",2)]) (by decide+kernel)) (fun _ _ _ _ _=>(f7 2 mV.nd)) (fun _ _ _ _ _=>pP (c8 KA (ux (K:=K) rfl (pv 2) rfl) (ux (K:=K) rfl (pv 1) rfl))) (fun _ _ _ _ _=>(pv 2))) rfl)),?_⟩;refine⟨_,rfl,_,_,_,_,_,rfl,R.st,T.ba,gi T,mr _,_,rfl,⟨_,cF.of R.wl⟩,fun D hD=>?_⟩;refine oB (xs:=L.wk.map fun c=>V.ref c.1) (fun i H'=>∃bs:List (Addr×Addr×Addr),H' D=some (.lst (bs.map fun c=>V.ref c.1))/\AL (ze T.ie ρ H) bs ((st.works.take i).filter fun x=>x.key !=key)/\dc H H') ⟨[],ae,AL.nil,aF hD⟩ (fun i H' _ ⟨_,_,_,q⟩=>cF.of (show H' L.wl=_ from q _ _ R.wl)) ?_ ?_
  ·rintro i x H1 hx ⟨bs,h1,h2,h3⟩;obtain⟨c,w0,hc,hk,rfl,hA⟩:=R.Nm hx;refine⟨rfl,_,rfl,_,_,_,_,_,rfl,(h3 _ _ hA.ob),T.dO,eL T,i5 _,_,rfl,_,_,_,_,_,rfl,(h3 _ _ hcw),T.dO,eL T,i5 _,rfl,_,rfl,?_⟩;have e1:decide (V.int (lz w0 c.2.2).key=V.int wd.key)=(w0.key==key):=by rw[eY,sG];exact kR _ _
   rw[e1,take_snoc hk,bM];cases q:w0.key==key with
   |true=>
    have q2:(w0.key !=key)=false:=by show(!(w0.key==key))=false;rw[q];rfl
    refine di ⟨bs,h1,?_,h3⟩;rw[aZ,q2,if_neg aU,cx,cE];exact h2
   |false=>
    have q2:(w0.key !=key)=true:=by show(!(w0.key==key))=true;rw[q];rfl
    refine c_ ⟨_,rfl,_,h1,?_,bs++[c],?_,?_,qJ h3 hD⟩
    ·rw[ab,h2.len];exact small (aD (bh _ _) (aD (bJ _ _) (by omega)))
    ·rw[ae,cb];rfl
    ·rw[aZ,q2,if_pos rfl,cx];exact h2.snoc hA
  ·rintro H1 ⟨bs,h1,h2,h3⟩;rw[ab,R.wk.len,bL] at h2;have R1:=R.same h3;refine⟨_,rfl,_,_,_,_,rfl,R1.st,T.ba,gi T,(by show 12<1000;decide),?_⟩;rw[O0];have V4:∀b o,H b=some o->(if b=D then 1002 else ρ b)=ρ b:=fun b o e=>if_neg (aE e hD);have p0:fI T.eI T.ie (fun b=>if b=D then 1002 else ρ b) H1 {st with works:=st.works.filter fun x=>x.key !=key} {L with wl:=D,wk:=bs}:=by
    refine⟨R1.an,R.ak.imp fun c k _ _ X=>⟨h3 _ _ X.1,(V4 _ _ X.1).trans X.2⟩,h1,h2.imp fun c w _ _ X=>⟨h3 _ _ X.ob,h3 _ _ X.wt,(V4 _ _ X.ob).trans X.ro,(V4 _ _ X.wt).trans X.Gz⟩,R1.fa,R1.ti,(V4 _ _ R.an).trans R.ra,if_pos rfl,?_,?_,fun b q=>?_⟩
    ·obtain⟨kvs,E⟩:=R.fa;exact(V4 _ _ E.at_).trans R.GB
    ·obtain⟨kvs,E⟩:=R.ti;exact(V4 _ _ E.at_).trans R.GA
    ·show(if b=D then 1002 else ρ b)=0;rw[if_neg (fun e=>by rw[e,h1] at q;cases q)];exact R.free b (h3.free q)
   have p1:=p0.inst (a:=a) (fs':=cB {dQ st L with wl:=D}) R1.st (Hw T) (Fi T);exact k _ _ _ ⟨p1,ae,(V4 _ _ R.st).trans R.rs⟩ ((mf.of h3).trans mf.upd) V4
theorem eE{H:Hp}{a p:Addr}{o:HO}(h:upd H a o p=none):p≠a/\H p=none:=by
 have e:p≠a:=fun q=>by rw[q,ae] at h;cases h
 exact⟨e,by rw[aA e] at h;exact h⟩
theorem zB{α:Type}[DecidableEq α]:∀{l m:List α},l.Nodup->(∀x∈l,x∈m)->l.length<=m.length
 |[],_,_,_=>aT _
 |a::l,m,h,hs=>by
  obtain⟨h1,h2⟩:=bG.mp h;have ha:a∈m:=hs a au;have:=zB (m:=m.erase a) h2 fun x hx=>(Nj (fun e:x=a=>h1 (e▸hx))).mpr (hs x (aj _ hx));rw[J0 ha] at this;have:0<m.length:=vB ha;rw[aQ];omega
theorem km.len{H:Hp}{a:Addr}{f:Nat->Nat}{kvs:List (Key×V)}(D:km H a f kvs):kvs.length<=100:=by
 have:=zB (m:=(dg 100).map fun k:Nat=>(aH (k:Int):Key)) D.nd fun x hx=>by
  obtain⟨p,hp,e⟩:=bz.mp hx;obtain⟨k,hk,e2⟩:=D.ks p hp;rw[<-e,e2];exact bz.mpr ⟨k,hW.mpr (by omega),rfl⟩
 rw[ab,ab,dU] at this;exact this
theorem Rz{kvs:List (Key×V)}{k:Key}(v:V)(hn:(kvs.map (·.1)).Nodup):((putK kvs k v).map (·.1)).Nodup:=by
 cases e:iL kvs k with
 |none=>exact US v hn e
 |some x=>
  have q:(kvs.any fun kv=>decide (kv.1=k))=true:=by rw[mL,e];rfl
  unfold putK;rw[if_pos q,gm];have:(kvs.map ((fun kv:Key×V=>kv.1)∘fun kv=>if kv.1=k then(kv.1,v) else kv))=kvs.map (·.1):=gF fun p _=>by
   show(if p.1=k then(p.1,v) else p).1=p.1;split<;>rfl
  rw[this];exact hn
theorem km.put{H:Hp}{a:Addr}{f:Nat->Nat}{kvs:List (Key×V)}(D:km H a f kvs){H':Hp}{k n:Nat}{g:Nat->Nat}(hk:k<=99)(h:H' a=some (.dK (putK kvs (aH (k:Int)) (.int (n:Nat)))))(hg:g k=n)(ho:∀j,j≠k->g j=f j):
  km H' a g (putK kvs (aH (k:Int)) (.int (n:Nat))):=by
 refine⟨h,fun j=>?_,Rz _ D.nd,fun p hp=>?_⟩
 ·rw[Ea];by_cases e:j=k
  ·rw[e,if_pos rfl,hg];rfl
  ·rw[if_neg (fun q=>e (by have:=oH q;omega)),D.val j,ho j e]
 ·unfold putK at hp;split at hp
  ·obtain⟨q,hq,e⟩:=bz.mp hp;obtain⟨m,h1,h2⟩:=D.ks q hq;refine⟨m,h1,?_⟩;rw[<-e];split
   ·exact h2
   ·exact h2
  ·rcases bQ.mp hp with hp|hp
   ·exact D.ks p hp
   ·rw[bp.mp hp];exact⟨k,hk,rfl⟩
def Ew(T:Tx K mg):Sp:=fun vs H Q _=>∃(x dx:Addr) (k v s:Int),vs=[.ref x,.int k,.int v,.int s]/\H x=some (.ins T.eI dx [])/\Q .gE (upd H x (.ins T.eI dx (JN k v s)))
theorem E9(T:Tx K mg):cz P w K mg base fY 1 T.mC.f T.mC.fd ["self","key","value","since"] (Ew T):=by
 refine T.mC.F.ok EE (fun vs H Q E h=>?_) (fun dY A outer s H vs Q E hr h=>?_)
 ·obtain⟨x,dx,k,v,s,rfl,_⟩:=h;rfl
 ·obtain⟨x,dx,k,v,s,rfl,hx,q⟩:=h;refine⟨_,(ai (c9 (pv 0) (pv 1) rfl) (ai (c9 (pv 0) (pv 2) rfl) (aB (c9 (pv 0) (pv 3) rfl)))),?_⟩;have nd:=DY k v s;have ln:(JN k v s).length<1000:=by show 3<1000;decide
  have hx:H x=some (.ins T.eI dx ((JN k v s).take 0)):=hx;refine⟨_,rfl,_,rfl,x,_,dx,_,rfl,hx,T.i_,lO T,dk ln,?_⟩;rw[cI (k:=0) (v:=V.int k) nd rfl];refine⟨_,rfl,_,rfl,x,_,dx,_,rfl,ae,T.i_,ph T,dk ln,?_⟩;rw[cI (k:=1) (v:=V.int v) nd rfl,d6];refine⟨_,rfl,_,rfl,x,_,dx,_,rfl,ae,T.i_,pj T,dk ln,?_⟩;rw[cI (k:=2) (v:=V.int s) nd rfl,d6];exact q
def Ir(T:Tx K mg):Sp:=fun vs H Q _=>∃(x dx:Addr) (k s:Int),vs=[.ref x,.int k,.int s]/\H x=some (.ins T.ie dx [])/\∀(H':Hp) (wt:Addr),H' x=some (.ins T.ie dx (kE ⟨k,s,wt,true⟩))->H' wt=some (.lst [])->H wt=none->mf x H H'->Q .gE H'
theorem Jh(T:Tx K mg):cz P w K mg base fY 1 T.p9.f T.p9.fd ["self","key","since"] (Ir T):=by
 refine T.p9.F.ok IH (fun vs H Q E h=>?_) (fun dY A outer s H vs Q E hr h=>?_)
 ·obtain⟨x,dx,k,s,rfl,_⟩:=h;rfl
 ·obtain⟨x,dx,k,s,rfl,hx,q⟩:=h;refine⟨_,(ai (c9 (pv 0) (pv 1) rfl) (ai (c9 (pv 0) (pv 2) rfl) (ai (c9 (pv 0) (bC ax) rfl) (aB (c9 (pv 0) qy rfl))))),?_⟩;have nd:=qf ⟨k,s,0,true⟩;have ln:(kE ⟨k,s,0,true⟩).length<1000:=by show 4<1000;decide
  have hx:H x=some (.ins T.ie dx ((kE ⟨k,s,0,true⟩).take 0)):=hx;refine⟨_,rfl,_,rfl,x,_,dx,_,rfl,hx,T.dO,eL T,dk ln,?_⟩;rw[cI (k:=0) (v:=V.int k) nd rfl];refine⟨_,rfl,_,rfl,x,_,dx,_,rfl,ae,T.dO,sE T,dk ln,?_⟩;rw[cI (k:=1) (v:=V.int s) nd rfl,d6];refine⟨aT _,fun wt V3=>?_⟩;obtain⟨hxw,aah⟩:=eE V3;have nd2:=qf ⟨k,s,wt,true⟩;refine⟨_,rfl,x,_,dx,_,rfl,(aA hxw.symm).trans ae,T.dO,dP T,dk ln,?_⟩;rw[rq hxw,show(kE ⟨k,s,0,true⟩).take (1+1)=(kE ⟨k,s,wt,true⟩).take 2 from rfl,cI (k:=2) (v:=V.ref wt) nd2 rfl];refine⟨_,rfl,x,_,dx,_,rfl,ae,T.dO,iB T,dk (by show 4<1000;decide),?_⟩;rw[cI (k:=3) (v:=V.bl true) nd2 rfl,d6];refine q _ wt (by rw[ae];rfl) ?_ aah (fun b o e hb=>?_)
  ·rw[aA hxw,ae]
  ·rw[aA hb,aA (aE e aah)];exact e
def gj(an wl fa ti:Addr):fX:=⟨4,0,0,1,1,an,wl,fa,ti,0,0,0⟩
def Gs(T:Tx K mg):Sp:=fun vs H Q _=>∃(x dx:Addr),vs=[.ref x]/\H x=some (.ins T.b_ dx [])/\∀(H':Hp) (an wl fa ti:Addr),H' x=some (.ins T.b_ dx (cB (gj an wl fa ti)))->H' an=some (.lst [])->H' wl=some (.lst [])->H' fa=some (.dK [])->H' ti=some (.dK [])->
 H an=none->H wl=none->H fa=none->H ti=none->an≠wl->fa≠ti->mf x H H'->Q .gE H'
theorem GH(T:Tx K mg):cz P w K mg base fY 1 T.n9.f T.n9.fd ["self"] (Gs T):=by
 refine T.n9.F.ok Gy (fun vs H Q E h=>?_) (fun dY A outer s H vs Q E hr h=>?_)
 ·obtain⟨x,dx,rfl,_⟩:=h;rfl
 ·obtain⟨x,dx,rfl,hx,q⟩:=h;refine⟨_,(ai (c9 (pv 0) a8 rfl) (ai (c9 (pv 0) a8 rfl) (ai (c9 (pv 0) a8 rfl) (ai (c9 (pv 0) a8 rfl) (ai (c9 (pv 0) a8 rfl) (ai (c9 (pv 0) (bC ax) rfl) (ai (c9 (pv 0) (bC ax) rfl) (ai (c9 (pv 0) z_ rfl) (ai (c9 (pv 0) z_ rfl) (ai (c9 (pv 0) a8 rfl) (ai (c9 (pv 0) a8 rfl) (aB (c9 (pv 0) a8 rfl))))))))))))),?_⟩;have nd:=dv (gj 0 0 0 0);have ln:∀an wl fa ti,(cB (gj an wl fa ti)).length<1000:=fun _ _ _ _=>by show 12<1000;decide
  have hx:H x=some (.ins T.b_ dx ((cB (gj 0 0 0 0)).take 0)):=hx;refine⟨_,rfl,x,_,dx,_,rfl,hx,T.ba,om T,dk (ln _ _ _ _),?_⟩;rw[cI (k:=0) (v:=V.int 4) nd rfl];refine⟨_,rfl,x,_,dx,_,rfl,ae,T.ba,nc T,dk (ln _ _ _ _),?_⟩;rw[cI (k:=1) (v:=V.int 0) nd rfl,d6];refine⟨_,rfl,x,_,dx,_,rfl,ae,T.ba,kK T,dk (ln _ _ _ _),?_⟩;rw[cI (k:=2) (v:=V.int 0) nd rfl,d6];refine⟨_,rfl,x,_,dx,_,rfl,ae,T.ba,oq T,dk (ln _ _ _ _),?_⟩;rw[cI (k:=3) (v:=V.int 1) nd rfl,d6];refine⟨_,rfl,x,_,dx,_,rfl,ae,T.ba,oo T,dk (ln _ _ _ _),?_⟩;rw[cI (k:=4) (v:=V.int 1) nd rfl,d6];refine⟨aT _,fun an Cq=>?_⟩;obtain⟨xan,an0⟩:=eE Cq;refine⟨_,rfl,x,_,dx,_,rfl,(aA xan.symm).trans ae,T.ba,eD T,dk (ln _ _ _ _),?_⟩;rw[rq xan,show(cB (gj 0 0 0 0)).take (4+1)=(cB (gj an 0 0 0)).take 5 from rfl,cI (k:=5) (v:=V.ref an) (dv (gj an 0 0 0)) rfl];refine⟨aT _,fun wl MK=>?_⟩;obtain⟨Zp,wl1⟩:=eE MK;obtain⟨Zr,wl0⟩:=eE wl1;refine⟨_,rfl,x,_,dx,_,rfl,(aA Zp.symm).trans ae,T.ba,gi T,dk (ln _ _ _ _),?_⟩;rw[rq Zp,show(cB (gj an 0 0 0)).take (5+1)=(cB (gj an wl 0 0)).take 6 from rfl,cI (k:=6) (v:=V.ref wl) (dv (gj an wl 0 0)) rfl];refine fun fa hfa=>?_;obtain⟨xfa,fa2⟩:=eE hfa;obtain⟨aeX,fa1⟩:=eE fa2;obtain⟨aeZ,fa0⟩:=eE fa1;refine⟨_,rfl,x,_,dx,_,rfl,(aA xfa.symm).trans ae,T.ba,jB T,dk (ln _ _ _ _),?_⟩;rw[rq xfa,show(cB (gj an wl 0 0)).take (6+1)=(cB (gj an wl fa 0)).take 7 from rfl,cI (k:=7) (v:=V.ref fa) (dv (gj an wl fa 0)) rfl];refine fun ti TC=>?_;obtain⟨xti,WJ⟩:=eE TC;obtain⟨Zx,ti2⟩:=eE WJ;obtain⟨acN,ti1⟩:=eE ti2;obtain⟨acP,ti0⟩:=eE ti1;have nd4:=dv (gj an wl fa ti);refine⟨_,rfl,x,_,dx,_,rfl,(aA xti.symm).trans ae,T.ba,eS T,dk (ln _ _ _ _),?_⟩;rw[rq xti,show(cB (gj an wl fa 0)).take (7+1)=(cB (gj an wl fa ti)).take 8 from rfl,cI (k:=8) (v:=V.ref ti) nd4 rfl];refine⟨_,rfl,x,_,dx,_,rfl,ae,T.ba,kM T,dk (ln _ _ _ _),?_⟩;rw[cI (k:=9) (v:=V.int 0) nd4 rfl,d6];refine⟨_,rfl,x,_,dx,_,rfl,ae,T.ba,kL T,dk (ln _ _ _ _),?_⟩;rw[cI (k:=10) (v:=V.int 0) nd4 rfl,d6];refine⟨_,rfl,x,_,dx,_,rfl,ae,T.ba,lC T,dk (ln _ _ _ _),?_⟩;rw[cI (k:=11) (v:=V.int 0) nd4 rfl,d6];refine q _ an wl fa ti (by rw[ae];rfl) ?_ ?_ ?_ ?_ an0 wl0 fa0 ti0 Zr.symm Zx.symm (fun b o e hb=>?_)
  ·rw[aA xan,aA acP.symm,aA aeZ.symm,aA Zr.symm,ae]
  ·rw[aA Zp,aA acN.symm,aA aeX.symm,ae]
  ·rw[aA xfa,aA Zx.symm,ae]
  ·rw[aA xti,ae]
  ·rw[aA hb,aA (aE e ti0),aA (aE e fa0),aA (aE e wl0),aA (aE e an0)];exact e
def yO(T:Tx K mg):Sp:=fun vs H Q _=>∃(a:Addr) (key:Nat) (ρ:Addr->Nat) (s:Store) (L:SL),vs=[.ref a,.int (key:Nat)]/\SR T ρ H a s L/\Q (.int ((b0 s key).faults:Nat)) H
theorem qB(T:Tx K mg):cz P w K mg base fY 1 T.jG.f T.jG.fd ["self","key"] (yO T):=by
 refine T.jG.F.ok yS (fun vs H Q E h=>?_) (fun dY A outer s H vs Q E hr h=>?_)
 ·obtain⟨a,key,ρ,s,L,rfl,_⟩:=h;rfl
 ·obtain⟨a,key,ρ,st,L,rfl,R,k⟩:=h;have hu:=Fu hr;obtain⟨kvs,D⟩:=R.fa;refine⟨_,(aB (bf (ET hu (a_ (pv 0)) (pv 1) a8 ⟨rfl,rfl,rfl,rfl⟩))),?_⟩;refine⟨_,rfl,_,_,_,_,_,rfl,R.st,T.ba,jB T,pK _,_,rfl,.inl ⟨kvs,.inl D.at_⟩,_,rfl,_,G8.k (k:=aH (key:Int)) D.at_,?_⟩;rw[D.val key];exact k
def yN(T:Tx K mg):Sp:=fun vs H Q _=>∃(a:Addr) (key:Nat) (ρ:Addr->Nat) (s:Store) (L:SL),vs=[.ref a,.int (key:Nat)]/\SR T ρ H a s L/\Q (.int ((b0 s key).till:Nat)) H
theorem ma(T:Tx K mg):cz P w K mg base fY 1 T.ip.f T.ip.fd ["self","key"] (yN T):=by
 refine T.ip.F.ok yR (fun vs H Q E h=>?_) (fun dY A outer s H vs Q E hr h=>?_)
 ·obtain⟨a,key,ρ,s,L,rfl,_⟩:=h;rfl
 ·obtain⟨a,key,ρ,st,L,rfl,R,k⟩:=h;have hu:=Fu hr;obtain⟨kvs,D⟩:=R.ti;refine⟨_,(aB (bf (ET hu (a_ (pv 0)) (pv 1) a8 ⟨rfl,rfl,rfl,rfl⟩))),?_⟩;refine⟨_,rfl,_,_,_,_,_,rfl,R.st,T.ba,eS T,gT _,_,rfl,.inl ⟨kvs,.inl D.at_⟩,_,rfl,_,G8.k (k:=aH (key:Int)) D.at_,?_⟩;rw[D.val key];exact k
theorem wJ{H:Hp}{a:Addr}{o:HO}{b:Addr}(h:upd H a o b=none):H b=none:=(eE h).2
def ρ2(ρ:Addr->Nat)(x:Addr)(i:Nat)(y:Addr)(j:Nat):Addr->Nat:=fun b=>if b=x then i else if b=y then j else ρ b
theorem QH{ρ:Addr->Nat}{x y b:Addr}{i j:Nat}(h1:b≠x)(h2:b≠y):ρ2 ρ x i y j b=ρ b:=by unfold ρ2;rw[if_neg h1,if_neg h2]
theorem fI.addW{cA cW:Addr}{ρ:Addr->Nat}{H:Hp}{s:Store}{L:SL}(R:fI cA cW ρ H s L){H3:Hp}{x dx wt:Addr}{w:Work}(sm:dc H H3)(nx:H x=none)(nw:H wt=none)(hx:H3 x=some (.ins cW dx (kE (lz w wt))))(hw:H3 wt=some (.lst (aV w.askers))):
  fI cA cW (ρ2 ρ x (1100+w.key) wt (1300+w.key)) (upd H3 L.wl (.lst (L.wk.map (fun c=>V.ref c.1)++[.ref x]))) {s with works:=s.works++[w]} {L with wk:=L.wk++[(x,dx,wt)]}/\
  lB ρ H (ρ2 ρ x (1100+w.key) wt (1300+w.key)) (upd H3 L.wl (.lst (L.wk.map (fun c=>V.ref c.1)++[.ref x]))):=by
 have role:∀b o,H b=some o->ρ2 ρ x (1100+w.key) wt (1300+w.key) b=ρ b:=fun b o e=>QH (aE e nx) (aE e nw);have keep:∀b o,H b=some o->b≠L.wl->upd H3 L.wl (.lst (L.wk.map (fun c=>V.ref c.1)++[.ref x])) b=some o:=fun b o e n=>by rw[aA n];exact sm b o e
 have kr:∀b o,H b=some o->ρ b≠1002->upd H3 L.wl (.lst (L.wk.map (fun c=>V.ref c.1)++[.ref x])) b=some o:=fun b o e n=>keep b o e fun q=>n (by rw[q];exact R.LM);have ki:∀b C d f,H b=some (.ins C d f)->upd H3 L.wl (.lst (L.wk.map (fun c=>V.ref c.1)++[.ref x])) b=some (.ins C d f):=fun b C d f e=>keep b _ e (dF R.wl e).symm;have Zp:x≠L.wl:=(aE R.wl nx).symm;have wwl:wt≠L.wl:=(aE R.wl nw).symm;have xwt:wt≠x:=dF hw hx;refine⟨⟨kr _ _ R.an (by rw[R.ra];decide),R.ak.imp fun c k _ _ X=>⟨ki _ _ _ _ X.1,(role _ _ X.1).trans X.2⟩,?_,?_,?_,?_,(role _ _ R.an).trans R.ra,(role _ _ R.wl).trans R.LM,?_,?_,fun b q=>?_⟩,fun b o e=>⟨role b o e,fun r=>kr b o e (by omega)⟩⟩
 ·rw[ae,cb];rfl
 ·refine AL.snoc (R.wk.imp fun c v _ _ X=>⟨ki _ _ _ _ X.ob,kr _ _ X.wt (by rw[X.Gz];omega),(role _ _ X.ob).trans X.ro,(role _ _ X.wt).trans X.Gz⟩) ⟨?_,?_,?_,?_⟩
  ·show upd H3 L.wl _ x=_;rw[aA Zp];exact hx
  ·show upd H3 L.wl _ wt=_;rw[aA wwl];exact hw
  ·show ρ2 ρ x (1100+w.key) wt (1300+w.key) x=_;unfold ρ2;rw[if_pos rfl]
  ·show ρ2 ρ x (1100+w.key) wt (1300+w.key) wt=_;unfold ρ2;rw[if_neg xwt,if_pos rfl]
 ·obtain⟨kvs,D⟩:=R.fa;exact⟨kvs,kr _ _ D.at_ (by rw[R.GB];decide),D.val,D.nd,D.ks⟩
 ·obtain⟨kvs,D⟩:=R.ti;exact⟨kvs,kr _ _ D.at_ (by rw[R.GA];decide),D.val,D.nd,D.ks⟩
 ·obtain⟨kvs,D⟩:=R.fa;exact(role _ _ D.at_).trans R.GB
 ·obtain⟨kvs,D⟩:=R.ti;exact(role _ _ D.at_).trans R.GA
 ·have q3:=wJ q;have n1:b≠x:=fun e=>by rw[e,hx] at q3;cases q3
  have n2:b≠wt:=fun e=>by rw[e,hw] at q3;cases q3
  rw[QH n1 n2];exact R.free b (sm.free q3)
theorem fI.works{cA cW:Addr}{ρ:Addr->Nat}{H:Hp}{s:Store}{L:SL}(R:fI cA cW ρ H s L){p:Addr}{o0 o:HO}{ws:List Work}(hp:H p=some o0)(rp:1100<=ρ p/\ρ p<1500)(al:AL (ze cW ρ (upd H p o)) L.wk ws):
  fI cA cW ρ (upd H p o) {s with works:=ws} L:=by
 have kr:∀b u,H b=some u->(ρ b<1100\/1500<=ρ b)->upd H p o b=some u:=fun b u e r=>by rw[aA (fun q=>by rw[q] at r;omega)];exact e
 refine⟨kr _ _ R.an (by rw[R.ra];decide),R.ak.imp fun c k _ _ X=>⟨kr _ _ X.1 (by rw[X.2];decide),X.2⟩,kr _ _ R.wl (by rw[R.LM];decide),al,?_,?_,R.ra,R.LM,R.GB,R.GA,fun b q=>R.free b (wJ q)⟩
 ·obtain⟨kvs,D⟩:=R.fa;exact⟨kvs,kr _ _ D.at_ (by rw[R.GB];decide),D.val,D.nd,D.ks⟩
 ·obtain⟨kvs,D⟩:=R.ti;exact⟨kvs,kr _ _ D.at_ (by rw[R.GA];decide),D.val,D.nd,D.ks⟩
theorem sU{s:Store}(W:Sm.oG s):s.works.length<=100:=by
 have:=zB (m:=dg 100) W.Ih fun x hx=>by
  obtain⟨w,hw,e⟩:=bz.mp hx;rw[<-e];exact hW.mpr (by have:=W.oK w hw;omega)
 rwa [ab,dU] at this
theorem qL{s:Store}(W:Sm.oG s){w:Work}(hw:w∈s.works):w.askers.length<=100:=by
 have:=zB (m:=dg 100) (Sm.uP W hw) fun x hx=>hW.mpr (bN (W.J2 w hw x hx) W.asks)
 rwa [dU] at this
theorem AL.RF{α β γ:Type}{R:α->β->Prop}{f:β->γ}{S:α->γ->Prop}{as:List α}{bs:List β}(h:AL R as bs)(g:∀(i:Nat) a b,as[i]?=some a->bs[i]?=some b->R a b->S a (f b)):AL S as (bs.map f):=by
 refine⟨by rw[ab];exact h.len,fun i a c h1 h2=>?_⟩;rw[aM] at h2;cases e:bs[i]? with
 |none=>rw[e] at h2;cases h2
 |some b=>
  rw[e] at h2;cases aR h2;exact g i a b h1 e (h.at_ i a b h1 e)
theorem RM{l:List Work}(h:(l.map (·.key)).Nodup){i j:Nat}{a b:Work}(ha:l[i]?=some a)(hb:l[j]?=some b)(e:a.key=b.key):i=j:=
 V1 h (show(l.map (·.key))[i]?=some a.key by rw[aM,ha];rfl) (show(l.map (·.key))[j]?=some a.key by rw[aM,hb,e];rfl)
theorem fI.wait{cA cW:Addr}{ρ:Addr->Nat}{H:Hp}{s:Store}{L:SL}(R:fI cA cW ρ H s L)(XC:(s.works.map (·.key)).Nodup){i:Nat}{c:Addr×Addr×Addr}{w:Work}(hc:L.wk[i]?=some c)(hw:s.works[i]?=some w)(wk:w.key<=99)(f:List Nat->List Nat):
  fI cA cW ρ (upd H c.2.2 (.lst (aV (f w.askers)))) {s with works:=s.works.map fun x=>if x.key=w.key then{x with askers:=f x.askers} else x} L:=by
 have X:=R.wk.at_ i c w hc hw;refine R.works X.wt (by rw[X.Gz];omega) (R.wk.RF fun j c' w' Vd YN Y=>?_);have ki:upd H c.2.2 (.lst (aV (f w.askers))) c'.1=some (.ins cW c'.2.1 (kE (lz w' c'.2.2))):=by rw[aA (dF X.wt Y.ob).symm];exact Y.ob
 by_cases e:w'.key=w.key
 ·rw[if_pos e];have ij:=RM XC YN hw e;subst ij;cases aR (hc.symm.trans Vd);cases aR (hw.symm.trans YN);exact⟨ki,ae,Y.ro,Y.Gz⟩
 ·rw[if_neg e];refine⟨ki,?_,Y.ro,Y.Gz⟩;rw[aA (fun q=>e ?_)]
  ·exact Y.wt
  ·have h1:=Y.Gz;have h2:=X.Gz;rw[q] at h1;omega
theorem fI.WH{cA cW:Addr}{ρ:Addr->Nat}{H:Hp}{s:Store}{L:SL}(R:fI cA cW ρ H s L)(XC:(s.works.map (·.key)).Nodup){i:Nat}{c:Addr×Addr×Addr}{w:Work}(hc:L.wk[i]?=some c)(hw:s.works[i]?=some w)(wk:w.key<=99):
  fI cA cW ρ (upd H c.1 (.ins cW c.2.1 (kE {lz w c.2.2 with keep:=false}))) {s with works:=s.works.map fun x=>if x.key=w.key then{x with keep:=false} else x} L:=by
 have X:=R.wk.at_ i c w hc hw;refine R.works X.ob (by rw[X.ro];omega) (R.wk.RF fun j c' w' Vd YN Y=>?_);have kl:upd H c.1 (.ins cW c.2.1 (kE {lz w c.2.2 with keep:=false})) c'.2.2=some (.lst (aV w'.askers)):=by rw[aA (dF Y.wt X.ob)];exact Y.wt
 by_cases e:w'.key=w.key
 ·rw[if_pos e];have ij:=RM XC YN hw e;subst ij;cases aR (hc.symm.trans Vd);cases aR (hw.symm.trans YN);exact⟨ae,kl,Y.ro,Y.Gz⟩
 ·rw[if_neg e];refine⟨?_,kl,Y.ro,Y.Gz⟩;rw[aA (fun q=>e ?_)]
  ·exact Y.ob
  ·have h1:=Y.ro;have h2:=X.ro;rw[q] at h1;omega
def xF(T:Tx K mg):Sp:=fun vs H Q _=>∃(a:Addr) (key n:Nat) (ρ:Addr->Nat) (s:Store) (L:SL),vs=[.ref a,.int (key:Nat),.int (n:Nat),.int (s.now:Nat)]/\SR T ρ H a s L/\Sm.oG s/\key<=99/\
 ∀(H':Hp) (ρ':Addr->Nat) (L':SL),SR T ρ' H' a {s with kept:=s.kept.filter fun x=>x.key !=key,works:=s.works++[⟨key,s.now,[n],true⟩]} L'->lB ρ H ρ' H'->Q .gE H'
theorem xP(T:Tx K mg):cz P w K mg base fY 3 T.lr.f T.lr.fd ["self","key","number","now"] (xF T):=by
 refine T.lr.F.ok pC (fun vs H Q E h=>?_) (fun dY A outer s H vs Q E hr h=>?_)
 ·obtain⟨a,key,n,ρ,s,L,rfl,_⟩:=h;rfl
 ·obtain⟨a,key,n,ρ,st,L,rfl,R,W,sG,k⟩:=h;have MK:=sU W;refine⟨_,(ai (cg (dR (pv 0) T.ba T.n_ (sA T) hr (aa (pv 1) ax))) (ai (b8 4 pC.nd (DI T.p9.I (Jh T) (hr.mono (by decide:2<=2)) rfl T.X1 (G5 T) .nil wu (aa (pv 1) (aa (pv 3) ax)))) (ai (cg (pf (a_ (pv 4)) (pv 2))) (aB (cg (pf (a_ (pv 0)) (pv 4))))))),?_⟩;refine⟨_,rfl,_,_,_,rfl,R.st,cU _ (by decide+kernel),_,rfl,a,key,ρ,st,L,rfl,R,W,fun H1 L1 R1 o1 hw1 n1=>?_⟩;refine⟨_,rfl,_,rfl,fun x dx nx ndx nex=>?_⟩;refine⟨x,dx,_,_,rfl,ae,fun H2 wt V2 Xw wt0 o2=>⟨rfl,?_⟩⟩;have wt1:H1 wt=none:=wJ (wJ wt0);have s2:dc H1 H2:=fun b o e=>o2 b o (by rw[aA (aE e nx),aA (aE e ndx)];exact e) (aE e nx);refine⟨_,rfl,_,_,_,_,_,rfl,V2,T.dO,dP T,fz _,.inl ⟨rfl,_,cF.of Xw⟩,_,rfl,_,_,_,rfl,rfl,Xw,small (aT _),?_⟩;have s3:dc H1 (upd H2 wt (.lst ([]++[.int (n:Nat)]))):=fun b o e=>by rw[aA (aE e wt1)];exact s2 b o e
  have R3:=R1.same s3;have U4:upd H2 wt (.lst ([]++[.int (n:Nat)])) x=some (.ins T.ie dx (kE (lz ⟨key,st.now,[n],true⟩ wt))):=by rw[aA (dF Xw V2).symm];exact V2
  refine⟨_,rfl,_,_,_,_,_,rfl,R3.st,T.ba,gi T,mr _,.inl ⟨rfl,_,cF.of R3.wl⟩,_,rfl,_,_,_,rfl,rfl,R3.wl,?_,?_⟩
  ·rw[ab,R1.wk.len];exact small (by show st.works.length<=_;omega)
  obtain⟨p1,f1⟩:=R1.tofI.addW (w:=⟨key,st.now,[n],true⟩) s3 nx wt1 U4 ae;refine k _ _ _ ⟨p1,?_,?_⟩ (lB.trans (o1.Vl (by rw[R.rs];decide) fun _ _ _=>rfl) R1.free f1)
  ·show upd _ L1.wl _ a=_;rw[aA (dF R3.wl R3.st).symm];exact R3.st
  ·rw[(f1 _ _ R1.st).1];exact R.rs
theorem Xt{c:Addr}{A B:Prop}(h:A):if(!decide (V.ref c=V.gE))=true then A else B:=by
 rw[decide_eq_false (by intro q;cases q)];exact c_ h
theorem Jt{A B:Prop}(h:B):if(!decide (V.gE=V.gE))=true then A else B:=Z_ rfl h
theorem fI.afo{cA cW:Addr}{ρ:Addr->Nat}{H:Hp}{s s':Store}{L:SL}(R:fI cA cW ρ H s L)(hk:s'.kept=s.kept)(hw:s'.works=s.works)(hb:s'.breakers=s.breakers):fI cA cW ρ H s' L:=by
 have eb:∀k,b0 s' k=b0 s k:=fun k=>by unfold b0;rw[hb]
 refine⟨R.an,by rw[hk];exact R.ak,R.wl,by rw[hw];exact R.wk,?_,?_,R.ra,R.LM,R.GB,R.GA,R.free⟩
 ·obtain⟨kvs,D⟩:=R.fa;exact⟨kvs,D.at_,fun k=>by rw[eb];exact D.val k,D.nd,D.ks⟩
 ·obtain⟨kvs,D⟩:=R.ti;exact⟨kvs,D.at_,fun k=>by rw[eb];exact D.val k,D.nd,D.ks⟩
theorem SR.nums(T:Tx K mg){ρ:Addr->Nat}{H:Hp}{a:Addr}{s s':Store}{L:SL}(R:SR T ρ H a s L)(hk:s'.kept=s.kept)(hw:s'.works=s.works)(hb:s'.breakers=s.breakers):
  SR T ρ (upd H a (.ins T.b_ L.dx (cB (dQ s' L)))) a s' L:=⟨(R.tofI.afo hk hw hb).inst R.st (Hw T) (Fi T),ae,R.rs⟩
def Iw(T:Tx K mg):Sp:=fun vs H Q _=>∃(a:Addr) (key:Nat) (ρ:Addr->Nat) (s:Store) (L:SL),vs=[.ref a,.int (key:Nat),.int (s.now:Nat)]/\SR T ρ H a s L/\Sm.oG s/\key<=99/\s.asks<100/\
 ∀(H':Hp) (ρ':Addr->Nat) (L':SL) (p:Addr),SR T ρ' H' a (eK s key).1 L'->lB ρ H ρ' H'->H' p=some (.lst (bO ((s.asks:Nat)::(eK s key).2)))->ρ' p=0->H p=none->Q (.ref p) H'
theorem Jj(T:Tx K mg):cz P w K mg base fY 4 T.xq.f T.xq.fd ["self","key","now"] (Iw T):=by
 refine T.xq.F.ok mW (fun vs H Q E h=>?_) (fun dY A outer s H vs Q E hr h=>?_)
 ·obtain⟨a,key,ρ,s,L,rfl,_⟩:=h;rfl
 ·obtain⟨a,key,ρ,st,L,rfl,R,W,sG,aaT,k⟩:=h;refine⟨_,(ai (b8 3 mW.nd (a_ (pv 0))) (ai (w9 (pv 0) a8 Jw) (ai (b8 4 mW.nd (dR (pv 0) T.ba T.jw (vp T) hr (aa (pv 1) (aa (pv 2) ax)))) (ai (cX (c8 Ab (pv 4) nV) (ai (w9 (pv 0) a8 Jw) (ai (cg (dR (pv 0) T.ba T.jF (qA T) hr (aa (pv 4) ax))) (aB (bf (bC (aa (pv 3) (aa (cD T.Vi) (aa (a_ (pv 4)) ax)))))))) bI) (ai (b8 5 mW.nd (dR (pv 0) T.ba T.iR (k7 T) hr (aa (pv 1) ax))) (ai (cX (c8 Ab (pv 5) nV) (ai (cg (pf (a_ (pv 5)) (pv 3))) (aB (bf (bC (aa (pv 3) (aa (cD T.K8) (aa (a_ (pv 5)) ax))))))) bI) (ai (b8 6 mW.nd (dR (pv 0) T.ba T.ip (ma T) hr (aa (pv 1) ax))) (ai (cX (c8 tD (pv 2) (pv 6)) (aB (bf (bC (aa (pv 3) (aa (cD T.K_) (aa (pv 6) ax)))))) bI) (ai (w9 (pv 0) a8 Jw) (ai (cg (dR (pv 0) T.ba T.lr (xP T) hr (aa (pv 1) (aa (pv 3) (aa (pv 2) ax))))) (aB (bf (bC (aa (pv 3) (aa (cD T.Vk) (aa (pv 2) ax)))))))))))))))),?_⟩;refine⟨_,rfl,_,_,_,_,_,rfl,R.st,T.ba,kM T,rC _,_,rfl,_,_,_,_,_,rfl,R.st,T.ba,kM T,rC _,_,_,rfl,rfl,_,_,R.st,(by show 12<1000;decide),?_⟩;rw[O3];have W1:Sm.oG {st with asks:=st.asks+1}:=Sm.VY W aaT;have R1:SR T ρ (upd H a (.ins T.b_ L.dx (cB (dQ {st with asks:=st.asks+1} L)))) a {st with asks:=st.asks+1} L:=SR.nums T R rfl rfl rfl;have o1:mf a H (upd H a (.ins T.b_ L.dx (cB (dQ {st with asks:=st.asks+1} L)))):=mf.upd;show _;generalize hH1:upd H a (.ins T.b_ L.dx (cB (dQ {st with asks:=st.asks+1} L)))=H1 at R1 o1
  change _ at k
  have eH:upd H a (HO.ins T.b_ L.dx (cB {dQ st L with asked:=(dQ st L).asked+1}))=H1:=hH1;rw[eH];have f1:lB ρ H ρ H1:=o1.Vl (by rw[R.rs];decide) fun _ _ _=>rfl;refine⟨_,rfl,_,_,_,rfl,R1.st,cU _ (by decide+kernel),_,rfl,_,rfl,a,key,ρ,{st with asks:=st.asks+1},L,rfl,R1,W1,fun c k0 hA hk Qp=>?_,fun Qp=>?_⟩
  ·have Qp:H_ st key=some k0:=Qp;have ea:eK st key=({st with asks:=st.asks+1,kept:=lu st k0,hits:=st.hits+1},[1,k0.value]):=by unfold eK;rw[Qp]
   rw[ea] at k;have hkm:k0∈st.kept:=hk;refine⟨_,rfl,rfl,_,rfl,Xt ?_⟩;refine⟨_,rfl,_,_,_,_,_,rfl,R1.st,T.ba,kL T,rB _,_,_,rfl,rfl,_,_,R1.st,(by show 12<1000;decide),?_⟩;rw[CU];have R2:SR T ρ (upd H1 a (.ins T.b_ L.dx (cB (dQ {st with asks:=st.asks+1,hits:=st.hits+1} L)))) a {st with asks:=st.asks+1,hits:=st.hits+1} L:=SR.nums T R1 rfl rfl rfl;have W2:Sm.oG {st with asks:=st.asks+1,hits:=st.hits+1}:=⟨W1.knd,W1.xR,W1.room,W1.Ih,W1.OG,W1.J2,W1.zt,W1.asks,W1.oK,W1.Aj⟩;have hca:c.1≠a:=j9 hA.1 R1.st (by intro q;injection q with q1;exact Hw T q1.symm);have o2:mf a H1 (upd H1 a (.ins T.b_ L.dx (cB (dQ {st with asks:=st.asks+1,hits:=st.hits+1} L)))):=mf.upd;have hA2:F2 T.eI ρ (upd H1 a (.ins T.b_ L.dx (cB (dQ {st with asks:=st.asks+1,hits:=st.hits+1} L)))) c k0:=⟨o2 _ _ hA.1 hca,hA.2⟩;refine⟨_,rfl,_,_,_,rfl,R2.st,cU _ (by decide+kernel),_,rfl,a,c,k0,ρ,{st with asks:=st.asks+1,hits:=st.hits+1},L,rfl,R2,W2,hA2,fun H3 L3 R3 o3 hw3=>?_⟩;have hA3:Td T.eI H3 c k0:=o3 _ _ hA2.1 hca;refine⟨_,rfl,_,rfl,_,_,_,_,_,rfl,hA3,T.i_,ph T,AG _ _ _,(by show 3<=aG;decide),fun p hp=>?_⟩;have s4:=aF (o:= .lst [.int ((st.asks:Nat):Int),.int 1,.int k0.value]) hp;have xS:H p=none:=by
    cases q:H p with
    |none=>rfl
    |some o=>
     exfalso;by_cases e:p=a
     ·rw[e,R3.st] at hp;cases hp
     ·rw[o3 _ _ (o2 _ _ (o1 _ _ q e) e) e] at hp;cases hp
   have et:(lu st k0).take st.room=lu st k0:=jI (aD (Sm.xh ⟨k0,hkm,rfl⟩) W.xR);have R3':SR T ρ H3 a {st with asks:=st.asks+1,kept:=lu st k0,hits:=st.hits+1} L3:=by
    have z:SR T ρ H3 a {st with asks:=st.asks+1,kept:=(lu st k0).take st.room,hits:=st.hits+1} L3:=R3;rw[et] at z;exact z
   exact k _ ρ L3 p (R3'.same s4) ((((o1.trans o2).trans o3).trans (mf.of s4)).Vl (by rw[R.rs];decide) fun _ _ _=>rfl) ae (R.free p xS) xS
  ·have Qp:H_ st key=none:=Qp;refine⟨_,rfl,rfl,_,rfl,Jt ?_⟩;refine⟨_,rfl,_,_,_,rfl,R1.st,cU _ (by decide+kernel),_,rfl,a,key,ρ,{st with asks:=st.asks+1},L,rfl,R1,fun i c w0 hc hw KY=>?_,fun NZ=>?_⟩
   ·have KY:l4 st key=some w0:=KY;have hw:st.works[i]?=some w0:=hw;obtain⟨Ga,YL⟩:=Sm.kF KY;have ea:eK st key=({st with asks:=st.asks+1,works:=st.works.map fun x=>if x.key=key then{x with askers:=x.askers++[st.asks]} else x},[2,T4 w0.since]):=by unfold eK;rw[Qp,KY]
    rw[ea] at k;have X:=R1.wk.at_ i c w0 hc hw;refine⟨_,rfl,rfl,_,rfl,Xt ?_⟩;refine⟨_,rfl,_,_,_,_,_,rfl,X.ob,T.dO,dP T,fz _,.inl ⟨rfl,_,cF.of X.wt⟩,_,rfl,_,_,_,rfl,rfl,X.wt,?_,?_⟩
    ·rw[ab];exact small (by have:=qL W Ga;omega)
    have el:aV w0.askers++[V.int ((st.asks:Nat):Int)]=aV (w0.askers++[st.asks]):=by rw[aV,aV,cb];rfl
    have p2:=R1.tofI.wait W1.Ih hc hw (W.oK w0 Ga) (fun l=>l++[st.asks]);have h2a:upd H1 c.2.2 (.lst (aV (w0.askers++[st.asks]))) a=some (.ins T.b_ L.dx (cB (dQ {st with asks:=st.asks+1} L))):=by rw[aA (dF X.wt R1.st).symm];exact R1.st
    have ad8:upd H1 c.2.2 (.lst (aV (w0.askers++[st.asks]))) c.1=_:=(aA (dF X.wt X.ob).symm).trans X.ob;have f2:lB ρ H1 ρ (upd H1 c.2.2 (.lst (aV (w0.askers++[st.asks])))):=lB.upd (by rw[X.Gz];have:=W.oK w0 Ga;omega);rw[YL] at p2;have R2:SR T ρ (upd H1 c.2.2 (.lst (aV (w0.askers++[st.asks])))) a {st with asks:=st.asks+1,works:=st.works.map fun x=>if x.key=key then{x with askers:=x.askers++[st.asks]} else x} L:=⟨p2,h2a,R.rs⟩;have ad7:upd H1 c.2.2 (.lst (aV w0.askers++[V.int ((st.asks:Nat):Int)])) c.1=some (.ins T.ie c.2.1 (kE (lz w0 c.2.2))):=by rw[el];exact ad8
    refine⟨_,rfl,_,rfl,_,_,_,_,_,rfl,ad7,T.dO,sE T,D_ _,(by show 3<=aG;decide),fun p hp=>?_⟩;have hp:upd H1 c.2.2 (.lst (aV (w0.askers++[st.asks]))) p=none:=by
     rw[<-el];exact hp
    have s4:=aF (o:= .lst [.int ((st.asks:Nat):Int),.int 2,.int ((w0.since:Nat):Int)]) hp;have xS:H p=none:=f1.none R1.free (wJ hp);show Q (.ref p) (upd (upd H1 c.2.2 (.lst (aV w0.askers++[V.int ((st.asks:Nat):Int)]))) p _);rw[el];exact k _ ρ L p (R2.same s4) (lB.trans (lB.trans f1 R1.free f2) R2.free (lB.of s4)) ae (R.free p xS) xS
   ·have NZ:l4 st key=none:=NZ;refine⟨_,rfl,rfl,_,rfl,Jt ?_⟩;refine⟨_,rfl,_,_,_,rfl,R1.st,cU _ (by decide+kernel),_,rfl,a,key,ρ,{st with asks:=st.asks+1},L,rfl,R1,?_⟩;refine⟨_,rfl,_,rfl,_,_,rfl,rfl,_,rfl,?_⟩;have ed:decide (((st.now:Nat):Int)<((b0 st key).till:Nat))=decide (st.now<(b0 st key).till):=decide_eq_decide.mpr (by omega);show if decide (((st.now:Nat):Int)<((b0 st key).till:Nat))=true then _ else _
    rw[ed];by_cases qY:st.now<(b0 st key).till
    ·have ea:eK st key=({st with asks:=st.asks+1},[3,T4 (b0 st key).till]):=by unfold eK;rw[Qp,NZ];simp only[if_pos qY]
     rw[ea] at k;rw[decide_eq_true qY];refine c_ ⟨_,rfl,_,rfl,(by show 3<=aG;decide),fun p hp=>?_⟩;have s4:=aF (o:= .lst [.int ((st.asks:Nat):Int),.int 3,.int (((b0 st key).till:Nat):Int)]) hp;have xS:H p=none:=f1.none R1.free hp;exact k _ ρ L p (R1.same s4) (lB.trans f1 R1.free (lB.of s4)) ae (R.free p xS) xS
    ·have ea:eK st key=({st with asks:=st.asks+1,kept:=st.kept.filter (fun x=>x.key !=key),works:=st.works++[⟨key,st.now,[st.asks],true⟩],begun:=st.begun+1},[4,T4 st.now]):=by unfold eK;rw[Qp,NZ];simp only[if_neg qY]
     rw[ea] at k;rw[decide_eq_false qY];refine di ?_;refine⟨_,rfl,_,_,_,_,_,rfl,R1.st,T.ba,lC T,sY _,_,_,rfl,rfl,_,_,R1.st,(by show 12<1000;decide),?_⟩;rw[EI];have R2:SR T ρ (upd H1 a (.ins T.b_ L.dx (cB (dQ {st with asks:=st.asks+1,begun:=st.begun+1} L)))) a {st with asks:=st.asks+1,begun:=st.begun+1} L:=SR.nums T R1 rfl rfl rfl;have W2:Sm.oG {st with asks:=st.asks+1,begun:=st.begun+1}:=⟨W1.knd,W1.xR,W1.room,W1.Ih,W1.OG,W1.J2,W1.zt,W1.asks,W1.oK,W1.Aj⟩;have f2:lB ρ H1 ρ (upd H1 a (.ins T.b_ L.dx (cB (dQ {st with asks:=st.asks+1,begun:=st.begun+1} L)))):=lB.upd (by rw[R.rs];decide);refine⟨_,rfl,_,_,_,rfl,R2.st,cU _ (by decide+kernel),_,rfl,_,rfl,_,rfl,a,key,st.asks,ρ,{st with asks:=st.asks+1,begun:=st.begun+1},L,rfl,R2,W2,sG,fun H3 ρ3 L3 R3 f3=>?_⟩;refine⟨_,rfl,_,rfl,(by show 3<=aG;decide),fun p hp=>?_⟩;have s4:=aF (o:= .lst [.int ((st.asks:Nat):Int),.int 4,.int ((st.now:Nat):Int)]) hp;have f3':=lB.trans (lB.trans f1 R1.free f2) R2.free f3;have xS:H p=none:=f3'.none R3.free hp;exact k _ ρ3 L3 p (R3.same s4) (lB.trans f3' R3.free (lB.of s4)) ae (R3.free p hp) xS
theorem fI.Wf{cA cW:Addr}{ρ:Addr->Nat}{H H':Hp}{s:Store}{L:SL}(R:fI cA cW ρ H s L){b:List Breaker}{kf kt:List (Key×V)}(keep:∀c o,H c=some o->c≠L.fa->c≠L.ti->H' c=some o)
  (hf:km H' L.fa (fun k=>(b0 {s with breakers:=b} k).faults) kf)(ht:km H' L.ti (fun k=>(b0 {s with breakers:=b} k).till) kt):fI cA cW ρ H' {s with breakers:=b} L:=by
 have kr:∀c o,H c=some o->ρ c≠1004->ρ c≠1005->H' c=some o:=fun c o e n1 n2=>keep c o e (fun q=>n1 (by rw[q];exact R.GB)) fun q=>n2 (by rw[q];exact R.GA);refine⟨kr _ _ R.an (by rw[R.ra];decide) (by rw[R.ra];decide),R.ak.imp fun c k _ _ X=>⟨kr _ _ X.1 (by rw[X.2];decide) (by rw[X.2];decide),X.2⟩,kr _ _ R.wl (by rw[R.LM];decide) (by rw[R.LM];decide),R.wk.imp fun c w _ _ X=>⟨kr _ _ X.ob (by rw[X.ro];omega) (by rw[X.ro];omega),kr _ _ X.wt (by rw[X.Gz];omega) (by rw[X.Gz];omega),X.ro,X.Gz⟩,⟨kf,hf⟩,⟨kt,ht⟩,R.ra,R.LM,R.GB,R.GA,fun c q=>R.free c ?_⟩;cases z:H c with
 |none=>rfl
 |some o=>
  exfalso;by_cases e1:c=L.fa
  ·rw[e1,hf.at_] at q;cases q
  ·by_cases e2:c=L.ti
   ·rw[e2,ht.at_] at q;cases q
   ·rw[keep c o z e1 e2] at q;cases q
theorem eT{H:Hp}{a b C dx:Addr}{kvs:List (Key×V)}{fs:List (Str×V)}(h:H a=some (.dK kvs))(h':H b=some (.ins C dx fs)):a≠b:=j9 h h' (by intro q;cases q)
theorem xi{H:Hp}{a b:Addr}{kvs:List (Key×V)}{xs:List V}(h:H a=some (.dK kvs))(h':H b=some (.lst xs)):a≠b:=j9 h h' (by intro q;cases q)
theorem erase_filter:∀{l:List Nat} {a:Nat},l.Nodup->l.erase a=l.filter fun y=>y !=a
 |[],_,_=>rfl
 |b::l,a,h=>by
  obtain⟨h1,h2⟩:=bG.mp h;by_cases e:b=a
  ·subst e;rw[pB,aZ,if_neg (by simp)];exact(Sm.filter_none h1).symm
  ·rw[pA (by simpa using e),aZ,if_pos (by simpa using e),erase_filter h2]
theorem FJ:∀(l:List Nat) (a:Nat),(l.map fun n:Nat=>(n:Int)).erase (a:Int)=(l.erase a).map fun n:Nat=>(n:Int)
 |[],_=>rfl
 |b::l,a=>by
  by_cases e:b=a
  ·subst e;rw[bE,pB,pB]
  ·rw[bE,pA (by simpa using (fun q:((b:Nat):Int)=(a:Nat)=>e (by omega))),FJ l a,pA (by simpa using e),bE]
def CM(T:Tx K mg):Sp:=fun vs H Q _=>∃(a:Addr) (r g l b m:Nat) (ρ:Addr->Nat) (s:Store) (L:SL),vs=[.ref a,.int (r:Nat),.int (g:Nat),.int (l:Nat),.int (b:Nat),.int (m:Nat)]/\SR T ρ H a s L/\
 ∀(H':Hp) (L':SL),SR T ρ H' a {s with room:=r,age:=g,limit:=l,base:=b,most:=m,kept:=s.kept.take r} L'->mf a H H'->Q .gE H'
theorem C0(T:Tx K mg):cz P w K mg base fY 2 T.nz.f T.nz.fd ["self","room","age","limit","base","most"] (CM T):=by
 refine T.nz.F.ok CS (fun vs H Q E h=>?_) (fun dY A outer s H vs Q E hr h=>?_)
 ·obtain⟨a,r,g,l,b,m,ρ,s,L,rfl,_⟩:=h;rfl
 ·obtain⟨a,r,g,l,b,m,ρ,st,L,rfl,R,k⟩:=h;refine⟨_,(ai (c9 (pv 0) (pv 1) rfl) (ai (c9 (pv 0) (pv 2) rfl) (ai (c9 (pv 0) (pv 3) rfl) (ai (c9 (pv 0) (pv 4) rfl) (ai (c9 (pv 0) (pv 5) rfl) (aB (cg (Sv (pv 0) T.ba T.fH (lA T) hr)))))))),?_⟩;refine⟨_,rfl,_,rfl,_,_,_,_,rfl,R.st,T.ba,om T,(by show 12<1000;decide),?_⟩;rw[Rf];refine⟨_,rfl,_,rfl,_,_,_,_,rfl,ae,T.ba,nc T,(by show 12<1000;decide),?_⟩;rw[UE,d6];refine⟨_,rfl,_,rfl,_,_,_,_,rfl,ae,T.ba,kK T,(by show 12<1000;decide),?_⟩;rw[O2,d6];refine⟨_,rfl,_,rfl,_,_,_,_,rfl,ae,T.ba,oq T,(by show 12<1000;decide),?_⟩;rw[Rh,d6];refine⟨_,rfl,_,rfl,_,_,_,_,rfl,ae,T.ba,oo T,(by show 12<1000;decide),?_⟩;rw[Rg,d6];have R1:SR T ρ (upd H a (.ins T.b_ L.dx (cB (dQ {st with room:=r,age:=g,limit:=l,base:=b,most:=m} L)))) a {st with room:=r,age:=g,limit:=l,base:=b,most:=m} L:=SR.nums T R rfl rfl rfl;refine⟨_,rfl,_,_,_,rfl,R1.st,cU _ (by decide+kernel),a,ρ,_,L,rfl,R1,fun H' L' R' o' YN=>?_⟩;exact k H' L' R' (mf.upd.trans o')
def vW(T:Tx K mg):Sp:=fun vs H Q _=>∃(a dx:Addr) (f:Nat) (s:Store) (L:SL),vs=[.ref a,.int (f:Nat)]/\H a=some (.ins T.b_ dx (cB (dQ s L)))/\s.limit<=f/\f<=1000000/\Q (.int (qP s f:Nat)) H
theorem wB(T:Tx K mg):cz P w K mg base fY 1 T.kh.f T.kh.fd ["self","faults"] (vW T):=by
 refine T.kh.F.ok iy (fun vs H Q E h=>?_) (fun dY A outer s H vs Q E hr h=>?_)
 ·obtain⟨a,dx,f,s,L,rfl,_⟩:=h;rfl
 ·obtain⟨a,dx,f,st,L,rfl,ha,hlf,hf,k⟩:=h;refine⟨_,(ai (b8 2 iy.nd (a_ (pv 0))) (ai (iM bV rfl (O6 rfl T.Oj (aa (a_ (pv 0)) (aa (pv 1) ax))) (f7 3 iy.nd) (aB (b8 2 iy.nd (fM Mx (pv 2) a8)))) (aB (bf (oS (HI rfl) (by rfl) T.Wg boot_min (aa (a_ (pv 0)) (aa (pv 2) ax))))))),?_⟩;refine⟨_,rfl,_,_,_,_,_,rfl,ha,T.ba,oq T,Ej _,_,rfl,_,_,_,_,_,rfl,ha,T.ba,kK T,vN _,_,rfl,_,_,rfl,⟨by show -(2^62)<=((st.limit:Nat):Int);omega,by show((st.limit:Nat):Int)<2^62;omega,by omega,by omega⟩,?_⟩;refine PR (lo:=((st.limit:Nat):Int)) (n:=(((f:Nat):Int) -((st.limit:Nat):Int)).toNat) (fun i σ H'=>∃v:Option V,σ=[some (.ref a),some (.int (f:Nat)),some (.int ((st.base*2^i:Nat):Int)),v]/\H'=H) ⟨none,by rw[Nat.pow_zero,Nat.mul_one];rfl,rfl⟩ ?_ ?_
  ·rintro i σ H' hi ⟨v,rfl,rfl⟩;refine⟨_,rfl,_,_,rfl,rfl,.inr ⟨by decide,by decide⟩,some (.int (((st.limit:Nat):Int)+((i:Nat):Int))),?_,rfl⟩;rw[Nat.pow_succ,<-Nat.mul_assoc];rfl
  ·rintro σ H' ⟨v,rfl,rfl⟩;have e:(((f:Nat):Int) -((st.limit:Nat):Int)).toNat=f -st.limit:=by omega
   refine⟨_,rfl,_,_,_,_,_,rfl,ha,T.ba,oo T,Ei _,_,rfl,_,_,rfl,?_⟩;rw[e];have e2:(if((st.base*2^(f -st.limit):Nat):Int)<(dQ st L).most then((st.base*2^(f -st.limit):Nat):Int) else(dQ st L).most)=((qP st f:Nat):Int):=by
    show(if((st.base*2^(f -st.limit):Nat):Int)<((st.most:Nat):Int) then((st.base*2^(f -st.limit):Nat):Int) else((st.most:Nat):Int))=((min st.most (st.base*2^(f -st.limit)):Nat):Int);by_cases q:st.base*2^(f -st.limit)<st.most
    ·rw[if_pos (by omega),lF (by omega)]
    ·rw[if_neg (by omega),gB (by omega)]
   rw[e2];exact k
def CO(T:Tx K mg):Sp:=fun vs H Q _=>∃(a:Addr) (i:Nat) (c:Addr×Addr×Addr) (w:Work) (v:Int) (ρ:Addr->Nat) (s:Store) (L:SL),vs=[.ref a,.ref c.1,.int v,.int (s.now:Nat)]/\SR T ρ H a s L/\Sm.oG s/\L.wk[i]?=some c/\s.works[i]?=some w/\
 ∀(H':Hp) (ρ':Addr->Nat) (L':SL),SR T ρ' H' a (yA s w v) L'->lB ρ H ρ' H'->H' c.1=some (.ins T.ie c.2.1 (kE (lz w c.2.2)))->H' c.2.2=some (.lst (aV w.askers))->Q .gE H'
theorem C4(T:Tx K mg):cz P w K mg base fY 3 T.pX.f T.pX.fd ["self","work","value","now"] (CO T):=by
 refine T.pX.F.ok CT (fun vs H Q E h=>?_) (fun dY A outer s H vs Q E hr h=>?_)
 ·obtain⟨a,i,c,w,v,ρ,s,L,rfl,_⟩:=h;rfl
 ·obtain⟨a,i,c,w0,v,ρ,st,L,rfl,R,W,hc,hw,k⟩:=h;have hu:=Fu hr;have Ga:=bB hw;have sG:=W.oK w0 Ga;have X:=R.wk.at_ i c w0 hc hw;have W1:Sm.oG {st with works:=st.works.filter fun x=>x.key !=w0.key}:=Sm.FL W w0.key st.breakers;refine⟨_,(ai (cg (dR (pv 0) T.ba T.i' (m9 T) hr (aa (pv 1) ax))) (ai (cX (cZ (a_ (pv 1))) (aB (cg (dR (pv 0) T.ba T.jF (qA T) hr (aa (DI T.mC.I (E9 T) (hr.mono (by decide:2<=2)) rfl T.Sl (Du T) .nil wu (aa (a_ (pv 1)) (aa (pv 2) (aa (pv 3) ax)))) ax)))) bI) (ai (uu hu (a_ (pv 0)) (a_ (pv 1)) a8 rfl) (aB (uu hu (a_ (pv 0)) (a_ (pv 1)) a8 rfl))))),?_⟩;refine⟨_,rfl,_,_,_,rfl,R.st,cU _ (by decide+kernel),_,rfl,a,c.1,c.2.1,_,w0.key,ρ,st,L,rfl,R,X.ob,rfl,sU W,fun H1 ρ1 L1 R1 o1 HF=>?_⟩;have YD:c.1≠a:=j9 X.ob R.st (by intro q;injection q with q1;exact Fi T q1.symm);have ncl:c.2.2≠a:=dF X.wt R.st;have f1:lB ρ H ρ1 H1:=o1.Vl (by rw[R.rs];decide) HF;have x1:=o1 _ _ X.ob YD;have l1:=o1 _ _ X.wt ncl;have fin:∀(H2:Hp) (L2:SL) (kept:List Kept),SR T ρ1 H2 a {st with works:=st.works.filter fun x=>x.key !=w0.key,kept:=kept} L2->lB ρ1 H1 ρ1 H2->H2 c.1=some (.ins T.ie c.2.1 (kE (lz w0 c.2.2)))->H2 c.2.2=some (.lst (aV w0.askers))->
    (if w0.keep=true then(lu st ⟨w0.key,v,st.now⟩).take st.room else st.kept)=kept->
    ∀(H3:Hp),(∃kf kt,H3=upd (upd H2 L2.fa (.dK (putK kf (aH (w0.key:Int)) (.int 0)))) L2.ti (.dK (putK kt (aH (w0.key:Int)) (.int 0)))/\H2 L2.fa=some (.dK kf)/\H2 L2.ti=some (.dK kt))->Q .gE H3:=by
   rintro H2 L2 kept R2 f2 x2 l2 ek H3 ⟨kf,kt,rfl,XF,hkt⟩;obtain⟨kf',Df⟩:=R2.fa;obtain⟨MH,Dt⟩:=R2.ti;cases(show kf'=kf by have:=Df.at_.symm.trans XF;cases this;rfl);cases(show MH=kt by have:=Dt.at_.symm.trans hkt;cases this;rfl);have V0:L2.fa≠L2.ti:=fun q=>by have h1:=R2.GB;have h2:=R2.GA;rw[q] at h1;omega
   have br:∀j,b0 {st with works:=st.works.filter fun x=>x.key !=w0.key,kept:=kept,breakers:=j4 st ⟨w0.key,0,0⟩} j=if j=w0.key then⟨w0.key,0,0⟩ else b0 st j:=fun j=>Sm.wU st ⟨w0.key,0,0⟩ j _ rfl fun _=>rfl
   have keep:∀b o,H2 b=some o->b≠L2.fa->b≠L2.ti->upd (upd H2 L2.fa (.dK (putK kf (aH (w0.key:Int)) (.int 0)))) L2.ti (.dK (putK kt (aH (w0.key:Int)) (.int 0))) b=some o:=fun b o e n1 n2=>by rw[aA n2,aA n1];exact e
   have p3:=R2.tofI.Wf (b:=j4 st ⟨w0.key,0,0⟩) keep
    (Df.put (n:=0) sG (by rw[aA V0,ae];rfl) (by rw[br,if_pos rfl]) fun j hj=>by rw[br,if_neg hj];rfl)
    (Dt.put (n:=0) sG (by rw[ae];rfl) (by rw[br,if_pos rfl]) fun j hj=>by rw[br,if_neg hj];rfl)
   have R3:SR T ρ1 (upd (upd H2 L2.fa (.dK (putK kf (aH (w0.key:Int)) (.int 0)))) L2.ti (.dK (putK kt (aH (w0.key:Int)) (.int 0)))) a (yA st w0 v) L2:=by
    unfold yA;rw[ek];exact⟨p3,keep _ _ R2.st (eT XF R2.st).symm (eT hkt R2.st).symm,R2.rs⟩
   refine k _ _ _ R3 (lB.trans (lB.trans f1 R1.free f2) R2.free fun b o e=>⟨rfl,fun r=>keep b o e (fun q=>?_) fun q=>?_⟩) (keep _ _ x2 (eT XF x2).symm (eT hkt x2).symm) (keep _ _ l2 (xi XF l2).symm (xi hkt l2).symm)
   ·rw[q,R2.GB] at r;omega
   ·rw[q,R2.GA] at r;omega
  refine⟨_,rfl,_,_,_,_,_,rfl,x1,T.dO,iB T,rk _,_,rfl,?_⟩;show if w0.keep=true then _ else _
  cases V_:w0.keep with
  |true=>
   rw[V_] at fin;refine c_ ?_;refine⟨_,rfl,_,_,_,rfl,R1.st,cU _ (by decide+kernel),_,rfl,_,_,_,_,_,rfl,x1,T.dO,eL T,i5 _,_,rfl,_,rfl,fun x dx nx ndx nex=>⟨x,dx,_,_,_,rfl,ae,rfl,?_⟩⟩;rw[d6];have s2:dc H1 (upd (upd H1 dx (.own x)) x (.ins T.eI dx (JN (lz w0 c.2.2).key v ((st.now:Nat):Int)))):=fun b o e=>by rw[aA (aE e nx),aA (aE e ndx)];exact e
   refine⟨a,(x,dx),⟨w0.key,v,st.now⟩,ρ1,_,L1,rfl,R1.same s2,W1,⟨ae,R1.free x nx⟩,fun H3 L3 R3 o3 hw3=>?_⟩;have o13:mf a H1 H3:=(mf.of s2).trans o3;have x3:=o13 _ _ x1 YD;have l3:=o13 _ _ l1 ncl;obtain⟨kf,Df⟩:=R3.fa;obtain⟨kt,Dt⟩:=R3.ti;have V0:L3.fa≠L3.ti:=fun q=>by have h1:=R3.GB;have h2:=R3.GA;rw[q] at h1;omega
   have f3:lB ρ1 H1 ρ1 H3:=o13.Vl (by rw[R1.rs];decide) fun _ _ _=>rfl;refine⟨_,rfl,_,_,_,_,_,rfl,R3.st,T.ba,jB T,pK _,_,rfl,_,_,_,_,_,rfl,x3,T.dO,eL T,i5 _,_,_,rfl,BG.k (k:=aH (w0.key:Int)) Df.at_ (small (aD Df.len (by decide))),?_⟩;have k4:∀b o,H3 b=some o->b≠L3.fa->upd H3 L3.fa (.dK (putK kf (aH (w0.key:Int)) (.int 0))) b=some o:=fun b o e n=>by rw[aA n];exact e
   refine⟨_,rfl,_,_,_,_,_,rfl,(k4 _ _ R3.st (eT Df.at_ R3.st).symm),T.ba,eS T,gT _,_,rfl,_,_,_,_,_,rfl,(k4 _ _ x3 (eT Df.at_ x3).symm),T.dO,eL T,i5 _,_,_,rfl,BG.k (k:=aH (w0.key:Int)) (k4 _ _ Dt.at_ V0.symm) (small (aD Dt.len (by decide))),?_⟩;exact fin H3 L3 _ R3 f3 x3 l3 rfl _ ⟨kf,kt,rfl,Df.at_,Dt.at_⟩
  |false=>
   rw[V_] at fin;refine di ?_;obtain⟨kf,Df⟩:=R1.fa;obtain⟨kt,Dt⟩:=R1.ti;have V0:L1.fa≠L1.ti:=fun q=>by have h1:=R1.GB;have h2:=R1.GA;rw[q] at h1;omega
   refine⟨_,rfl,_,_,_,_,_,rfl,R1.st,T.ba,jB T,pK _,_,rfl,_,_,_,_,_,rfl,x1,T.dO,eL T,i5 _,_,_,rfl,BG.k (k:=aH (w0.key:Int)) Df.at_ (small (aD Df.len (by decide))),?_⟩;have k4:∀b o,H1 b=some o->b≠L1.fa->upd H1 L1.fa (.dK (putK kf (aH (w0.key:Int)) (.int 0))) b=some o:=fun b o e n=>by rw[aA n];exact e
   refine⟨_,rfl,_,_,_,_,_,rfl,(k4 _ _ R1.st (eT Df.at_ R1.st).symm),T.ba,eS T,gT _,_,rfl,_,_,_,_,_,rfl,(k4 _ _ x1 (eT Df.at_ x1).symm),T.dO,eL T,i5 _,_,_,rfl,BG.k (k:=aH (w0.key:Int)) (k4 _ _ Dt.at_ V0.symm) (small (aD Dt.len (by decide))),?_⟩;exact fin H1 L1 st.kept R1 (lB.refl _ _) x1 l1 rfl _ ⟨kf,kt,rfl,Df.at_,Dt.at_⟩
def Gu(T:Tx K mg):Sp:=fun vs H Q _=>∃(a:Addr) (i:Nat) (c:Addr×Addr×Addr) (w:Work) (ρ:Addr->Nat) (s:Store) (L:SL),vs=[.ref a,.ref c.1,.int (s.now:Nat)]/\SR T ρ H a s L/\Sm.oG s/\L.wk[i]?=some c/\s.works[i]?=some w/\(b0 s w.key).faults<=1000/\
 ∀(H':Hp) (ρ':Addr->Nat) (L':SL),SR T ρ' H' a (mD s w) L'->lB ρ H ρ' H'->H' c.1=some (.ins T.ie c.2.1 (kE (lz w c.2.2)))->H' c.2.2=some (.lst (aV w.askers))->Q .gE H'
theorem GI(T:Tx K mg):cz P w K mg base fY 2 T.uR.f T.uR.fd ["self","work","now"] (Gu T):=by
 refine T.uR.F.ok yb (fun vs H Q E h=>?_) (fun dY A outer s H vs Q E hr h=>?_)
 ·obtain⟨a,i,c,w,ρ,s,L,rfl,_⟩:=h;rfl
 ·obtain⟨a,i,c,w0,ρ,st,L,rfl,R,W,hc,hw,hfb,k⟩:=h;have hu:=Fu hr;have Ga:=bB hw;have sG:=W.oK w0 Ga;have X:=R.wk.at_ i c w0 hc hw;refine⟨_,(ai (cg (dR (pv 0) T.ba T.i' (m9 T) hr (aa (pv 1) ax))) (ai (b8 3 yb.nd (fM j7 (dR (pv 0) T.ba T.jG (qB T) hr (aa (a_ (pv 1)) ax)) a8)) (ai (uu hu (a_ (pv 0)) (a_ (pv 1)) (pv 3) rfl) (ai (uu hu (a_ (pv 0)) (a_ (pv 1)) a8 rfl) (aB (cX (Kw tD EV a8 (a_ (pv 0)) (pv 3)) (aB (uu hu (a_ (pv 0)) (a_ (pv 1)) (fM j7 (pv 2) (dR (pv 0) T.ba T.kh (wB T) hr (aa (pv 3) ax))) rfl)) bI)))))),?_⟩;refine⟨_,rfl,_,_,_,rfl,R.st,cU _ (by decide+kernel),_,rfl,a,c.1,c.2.1,_,w0.key,ρ,st,L,rfl,R,X.ob,rfl,sU W,fun H1 ρ1 L1 R1 o1 HF=>?_⟩;have YD:c.1≠a:=j9 X.ob R.st (by intro q;injection q with q1;exact Fi T q1.symm);have ncl:c.2.2≠a:=dF X.wt R.st;have f1:lB ρ H ρ1 H1:=o1.Vl (by rw[R.rs];decide) HF;have x1:=o1 _ _ X.ob YD;have l1:=o1 _ _ X.wt ncl;obtain⟨kf,Df⟩:=R1.fa;obtain⟨kt,Dt⟩:=R1.ti;have V0:L1.fa≠L1.ti:=fun q=>by have h1:=R1.GB;have h2:=R1.GA;rw[q] at h1;omega
  refine⟨_,rfl,_,_,_,rfl,R1.st,cU _ (by decide+kernel),_,rfl,_,_,_,_,_,rfl,x1,T.dO,eL T,i5 _,a,w0.key,ρ1,_,L1,rfl,R1,_,_,rfl,rfl,?_⟩;obtain⟨n,hn⟩:∃n,(b0 st w0.key).faults+1=n:=⟨_,rfl⟩;refine⟨V.int ((n:Nat):Int),(by rw[<-hn];rfl),_,rfl,_,_,_,_,_,rfl,R1.st,T.ba,jB T,pK _,_,rfl,_,_,_,_,_,rfl,x1,T.dO,eL T,i5 _,_,_,rfl,BG.k (k:=aH (w0.key:Int)) Df.at_ (small (aD Df.len (by decide))),?_⟩;have k2:∀b o,H1 b=some o->b≠L1.fa->upd H1 L1.fa (.dK (putK kf (aH (w0.key:Int)) (.int (n:Nat)))) b=some o:=fun b o e n=>by rw[aA n];exact e
  have YA:=k2 _ _ R1.st (eT Df.at_ R1.st).symm;have x2:=k2 _ _ x1 (eT Df.at_ x1).symm;have t2:=k2 _ _ Dt.at_ V0.symm;refine⟨_,rfl,_,_,_,_,_,rfl,YA,T.ba,eS T,gT _,_,rfl,_,_,_,_,_,rfl,x2,T.dO,eL T,i5 _,_,_,rfl,BG.k (k:=aH (w0.key:Int)) t2 (small (aD Dt.len (by decide))),?_⟩;have k3:∀MH b o,H1 b=some o->b≠L1.fa->b≠L1.ti->upd (upd H1 L1.fa (.dK (putK kf (aH (w0.key:Int)) (.int (n:Nat))))) L1.ti (.dK MH) b=some o:=fun MH b o e n1 n2=>by rw[aA n2,aA n1];exact e
  have Kk:=k3 (putK kt (aH (w0.key:Int)) (.int 0)) _ _ R1.st (eT Df.at_ R1.st).symm (eT Dt.at_ R1.st).symm;have x3:=k3 (putK kt (aH (w0.key:Int)) (.int 0)) _ _ x1 (eT Df.at_ x1).symm (eT Dt.at_ x1).symm;have fin:∀(m:Nat) (MH:List (Key×V)),(if 0<st.limit/\st.limit<=n then st.now+qP st n else 0)=m->km (upd (upd H1 L1.fa (.dK (putK kf (aH (w0.key:Int)) (.int (n:Nat))))) L1.ti (.dK MH)) L1.ti (fun j=>if j=w0.key then m else(b0 st j).till) MH->
    Q .gE (upd (upd H1 L1.fa (.dK (putK kf (aH (w0.key:Int)) (.int (n:Nat))))) L1.ti (.dK MH)):=by
   intro m MH hm Dt';have br:∀j,b0 {st with works:=st.works.filter fun x=>x.key !=w0.key,breakers:=j4 st ⟨w0.key,n,m⟩} j=if j=w0.key then⟨w0.key,n,m⟩ else b0 st j:=fun j=>Sm.wU st ⟨w0.key,n,m⟩ j _ rfl fun q=>by have q:n=0:=q;omega
   have p3:=R1.tofI.Wf (b:=j4 st ⟨w0.key,n,m⟩) (k3 MH)
    (Df.put (n:=n) sG (by rw[aA V0,ae]) (by rw[br,if_pos rfl]) fun j hj=>by rw[br,if_neg hj];rfl)
    ⟨Dt'.at_,fun j=>by rw[Dt'.val,br];split<;>rfl,Dt'.nd,Dt'.ks⟩
   have R3:SR T ρ1 (upd (upd H1 L1.fa (.dK (putK kf (aH (w0.key:Int)) (.int (n:Nat))))) L1.ti (.dK MH)) a (mD st w0) L1:=by
    unfold mD;simp only[hn,hm];exact⟨p3,k3 MH _ _ R1.st (eT Df.at_ R1.st).symm (eT Dt.at_ R1.st).symm,R1.rs⟩
   refine k _ _ _ R3 (lB.trans f1 R1.free fun b o e=>⟨rfl,fun r=>k3 MH b o e (fun q=>?_) fun q=>?_⟩) (k3 MH _ _ x1 (eT Df.at_ x1).symm (eT Dt.at_ x1).symm) (k3 MH _ _ l1 (xi Df.at_ l1).symm (xi Dt.at_ l1).symm)
   ·rw[q,R1.GB] at r;omega
   ·rw[q,R1.GA] at r;omega
  have D0:km (upd (upd H1 L1.fa (.dK (putK kf (aH (w0.key:Int)) (.int (n:Nat))))) L1.ti (.dK (putK kt (aH (w0.key:Int)) (.int ((0:Nat):Int))))) L1.ti (fun j=>if j=w0.key then 0 else(b0 st j).till) (putK kt (aH (w0.key:Int)) (.int ((0:Nat):Int))):=
   Dt.put (n:=0) sG ae (if_pos rfl) fun j hj=>if_neg hj
  refine⟨_,rfl,_,_,_,_,_,rfl,Kk,T.ba,kK T,vN _,_,_,rfl,rfl,_,rfl,?_⟩;show if decide ((0:Int)<((st.limit:Nat):Int))=true then _ else _
  by_cases h0:0<st.limit
  ·rw[decide_eq_true (show(0:Int)<((st.limit:Nat):Int) by omega)];refine c_ ⟨V.int ((n:Nat):Int),(by rw[<-hn];rfl),_,_,rfl,rfl,_,rfl,?_⟩;show if decide (((st.limit:Nat):Int)<=((n:Nat):Int))=true then _ else _
   by_cases h1:st.limit<=n
   ·rw[decide_eq_true (show((st.limit:Nat):Int)<=((n:Nat):Int) by omega)];refine c_ ?_;refine⟨_,rfl,_,rfl,_,_,_,rfl,Kk,cU _ (by decide+kernel),V.int ((n:Nat):Int),(by rw[<-hn];rfl),a,_,n,_,L1,rfl,Kk,h1,(by omega),_,_,rfl,rfl,_,rfl,_,_,_,_,_,rfl,Kk,T.ba,eS T,gT _,_,rfl,_,_,_,_,_,rfl,x3,T.dO,eL T,i5 _,_,_,rfl,BG.k (k:=aH (w0.key:Int)) ae (small (aD D0.len (by decide))),?_⟩;rw[d6];exact fin (st.now+qP st n) _ (if_pos ⟨h0,h1⟩) (D0.put (n:=st.now+qP st n) sG ae (if_pos rfl) fun j hj=>by rw[if_neg hj,if_neg hj])
   ·rw[decide_eq_false (show ¬((st.limit:Nat):Int)<=((n:Nat):Int) by omega)];exact di (fin 0 _ (if_neg fun q=>h1 q.2) D0)
  ·rw[decide_eq_false (show ¬(0:Int)<((st.limit:Nat):Int) by omega)];exact di ⟨_,rfl,di (fin 0 _ (if_neg fun q=>h0 q.1) D0)⟩
def Eu(T:Tx K mg):Sp:=fun vs H Q _=>∃(a:Addr) (i:Nat) (c:Addr×Addr×Addr) (w:Work) (n:Nat) (ρ:Addr->Nat) (s:Store) (L:SL),vs=[.ref a,.ref c.1,.int (n:Nat)]/\SR T ρ H a s L/\Sm.oG s/\L.wk[i]?=some c/\s.works[i]?=some w/\n∈w.askers/\
 ∀(H':Hp) (ρ':Addr->Nat) (L':SL),SR T ρ' H' a (nD s n) L'->lB ρ H ρ' H'->Q (.bl (decide ((w.askers.filter fun y=>y !=n)=[]))) H'
theorem E8(T:Tx K mg):cz P w K mg base fY 2 T.rY.f T.rY.fd ["self","work","ask"] (Eu T):=by
 refine T.rY.F.ok ED (fun vs H Q E h=>?_) (fun dY A outer s H vs Q E hr h=>?_)
 ·obtain⟨a,i,c,w,n,ρ,s,L,rfl,_⟩:=h;rfl
 ·obtain⟨a,i,c,w0,n,ρ,st,L,rfl,R,W,hc,hw,hn,k⟩:=h;have Ga:=bB hw;have sG:=W.oK w0 Ga;have X:=R.wk.at_ i c w0 hc hw;have hls:(nD st n).works=Sm.left st.works w0 n:=Sm.KR W Ga hn;have aed:nD st n={st with works:=Sm.left st.works w0 n}:=by rw[<-hls];rfl
  rw[aed] at k;refine⟨_,(ai (cg (qx bT L9 PySem.F.type_list_remove Pd (a_ (pv 1)) (aa (pv 2) ax))) (ai (cX (c8 NL (eA T.f9 (a_ (pv 1))) a8) (aB (bf qy)) bI) (ai (cg (dR (pv 0) T.ba T.i' (m9 T) hr (aa (pv 1) ax))) (aB (bf qy))))),?_⟩;have en:aV w0.askers=(w0.askers.map fun n:Nat=>(n:Int)).map V.int:=by rw[gm];rfl
  refine⟨_,rfl,_,_,_,_,_,rfl,X.ob,T.dO,dP T,fz _,.inl ⟨rfl,_,cF.of X.wt⟩,_,rfl,_,_,_,rfl,rfl,X.wt.trans (by rw[en]),bz.mpr ⟨n,hn,rfl⟩,?_⟩;have el:((w0.askers.map fun n:Nat=>(n:Int)).erase ((n:Nat):Int)).map V.int=aV (w0.askers.filter fun y=>y !=n):=by
   rw[FJ,erase_filter (Sm.uP W Ga),gm];rfl
  rw[el];have p1:=R.tofI.wait W.Ih hc hw sG (fun l=>l.filter fun y=>y !=n);have R1:SR T ρ (upd H c.2.2 (.lst (aV (w0.askers.filter fun y=>y !=n)))) a {st with works:=st.works.map fun x=>if x.key=w0.key then{x with askers:=x.askers.filter fun y=>y !=n} else x} L:=
   ⟨p1,by rw[aA (dF X.wt R.st).symm];exact R.st,R.rs⟩
  have f1:lB ρ H ρ (upd H c.2.2 (.lst (aV (w0.askers.filter fun y=>y !=n)))):=lB.upd (by rw[X.Gz];omega);have x1:upd H c.2.2 (.lst (aV (w0.askers.filter fun y=>y !=n))) c.1=_:=(aA (dF X.wt X.ob).symm).trans X.ob;refine⟨_,rfl,_,_,_,_,_,rfl,x1,T.dO,dP T,fz _,_,_,rfl,.inl (cF.of (show upd H c.2.2 _ c.2.2=_ from ae)),_,_,rfl,rfl,_,rfl,?_⟩;by_cases z:(w0.askers.filter fun y=>y !=n)=[]
  ·have e0:decide ((((aV (w0.askers.filter fun y=>y !=n)).length:Nat):Int)>0)=false:=by rw[z];rfl
   rw[e0];refine di ?_;have wl1:(st.works.map fun x=>if x.key=w0.key then({x with askers:=x.askers.filter fun y=>y !=n}:Work) else x).length<=100:=by rw[ab];exact sU W
   refine⟨_,rfl,_,_,_,rfl,R1.st,cU _ (by decide+kernel),_,rfl,a,c.1,c.2.1,_,w0.key,ρ,_,L,rfl,R1,x1,rfl,wl1,fun H2 ρ2 L2 R2 o2 LO=>?_⟩;have e2:((st.works.map fun x=>if x.key=w0.key then({x with askers:=x.askers.filter fun y=>y !=n}:Work) else x).filter fun x=>x.key !=w0.key)=Sm.left st.works w0 n:=by
    unfold Sm.left;rw[if_pos z];have gen:∀l:List Work,((l.map fun x=>if x.key=w0.key then({x with askers:=x.askers.filter fun y=>y !=n}:Work) else x).filter fun x=>x.key !=w0.key)=l.filter fun x=>x.key !=w0.key:=by
     intro l
     induction l with
     |nil=>rfl
     |cons x l ih=>
      rw[bE,aZ,aZ,ih];by_cases e:x.key=w0.key
      ·rw[if_pos e];have q1:(x.key !=w0.key)=false:=by simpa using e
       show(if(x.key !=w0.key)=true then _ else _)=_;rw[q1];rfl
      ·rw[if_neg e]
    exact gen _
   have R2':SR T ρ2 H2 a {st with works:=Sm.left st.works w0 n} L2:=by
    rw[<-e2];exact R2
   rw[decide_eq_true z] at k;exact k _ _ _ R2' (lB.trans f1 R1.free (o2.Vl (by rw[R.rs];decide) LO))
  ·have e0:decide ((((aV (w0.askers.filter fun y=>y !=n)).length:Nat):Int)>0)=true:=by
    refine decide_eq_true ?_;rw[ab];have:0<(w0.askers.filter fun y=>y !=n).length:=OC.mpr z;omega
   rw[e0];refine c_ ?_;have e2:(st.works.map fun x=>if x.key=w0.key then({x with askers:=x.askers.filter fun y=>y !=n}:Work) else x)=Sm.left st.works w0 n:=by unfold Sm.left;rw[if_neg z]
   rw[e2] at R1;rw[decide_eq_false z] at k;exact k _ _ _ R1 f1
def CN(T:Tx K mg):Sp:=fun vs H Q _=>∃(a:Addr) (key:Nat) (ρ:Addr->Nat) (s:Store) (L:SL),vs=[.ref a,.int (key:Nat)]/\SR T ρ H a s L/\Sm.oG s/\
 ∀(H':Hp) (L':SL),SR T ρ H' a (yz s key) L'->lB ρ H ρ H'->Q .gE H'
theorem C3(T:Tx K mg):cz P w K mg base fY 2 T.pW.f T.pW.fd ["self","key"] (CN T):=by
 refine T.pW.F.ok uU (fun vs H Q E h=>?_) (fun dY A outer s H vs Q E hr h=>?_)
 ·obtain⟨a,key,ρ,s,L,rfl,_⟩:=h;rfl
 ·obtain⟨a,key,ρ,st,L,rfl,R,W,k⟩:=h;refine⟨_,(ai (cg (dR (pv 0) T.ba T.n_ (sA T) hr (aa (pv 1) ax))) (ai (b8 2 uU.nd (dR (pv 0) T.ba T.iR (k7 T) hr (aa (pv 1) ax))) (aB (cX (c8 Ab (pv 2) nV) (aB (c9 (pv 2) qy rfl)) bI)))),?_⟩;refine⟨_,rfl,_,_,_,rfl,R.st,cU _ (by decide+kernel),_,rfl,a,key,ρ,st,L,rfl,R,W,fun H1 L1 R1 o1 hw1 n1=>?_⟩;have f1:lB ρ H ρ H1:=o1.Vl (by rw[R.rs];decide) fun _ _ _=>rfl;refine⟨_,rfl,_,_,_,rfl,R1.st,cU _ (by decide+kernel),_,rfl,a,key,ρ,_,L1,rfl,R1,fun i c w0 hc hw KY=>?_,fun NZ=>?_⟩
  ·have hw:st.works[i]?=some w0:=hw;have KY:l4 st key=some w0:=KY;obtain⟨Ga,YL⟩:=Sm.kF KY;have X:=R1.wk.at_ i c w0 hc hw;refine⟨_,rfl,rfl,_,rfl,Xt ?_⟩;refine⟨_,rfl,_,_,_,_,rfl,X.ob,T.dO,iB T,(by show 4<1000;decide),?_⟩;rw[Bg];have p2:=R1.tofI.WH W.Ih hc hw (W.oK w0 Ga);rw[YL] at p2;have YD:a≠c.1:=j9 R1.st X.ob (by intro q;injection q with q1;exact Fi T q1);refine k _ L1 ⟨p2,by rw[aA YD];exact R1.st,R.rs⟩ (lB.trans f1 R1.free (lB.upd ?_));rw[X.ro];have:=W.oK w0 Ga;omega
  ·have NZ:l4 st key=none:=NZ;refine⟨_,rfl,rfl,_,rfl,Jt ?_⟩;have e:(st.works.map fun x=>if x.key=key then({x with keep:=false}:Work) else x)=st.works:=by
    refine(gF (g:=id) fun x hx=>?_).trans (Zn _);have:=hZ.mp NZ x hx;rw[if_neg (by simpa using this)];rfl
   have R1':SR T ρ H1 a (yz st key) L1:=by
    unfold yz;rw[e];exact R1
   exact k _ L1 R1' f1
end
open Vbtkaj (fresh keptAt workAt breakerAt waitsFor inside)
def xm:List Int->bg
 |[r,a,l,b,m]=>.settings r a l b m
 |_=>.counts
def Vr:List Int->bg
 |[k]=>.ask k
 |_=>.counts
def DU:List Int->bg
 |[k,v]=>.finish k v
 |_=>.counts
def Oh:List Int->bg
 |[k]=>.fail k
 |_=>.counts
def JG:List Int->bg
 |[a]=>.leave a
 |_=>.counts
def DR:List Int->bg
 |[k]=>.forget k
 |_=>.counts
def SM(_:List Int):bg:= .kept
def MZ(_:List Int):bg:= .works
def AA:List Int->bg
 |[k]=>.breaker k
 |_=>.counts
def Az(_:List Int):bg:= .counts
theorem Vw(s:Store)(key:Nat):(eK s key).2.length=2:=by
 unfold eK
 dsimp only
 split
 ·rfl
 ·split
  ·rfl
  ·split<;>rfl
theorem ic{i:Int}(h:0<=i):∃n:Nat,i=(n:Int):=⟨i.toNat,(gQ h).symm⟩
theorem nq{i:Int}(h:fK i=true):∃n:Nat,i=(n:Int)/\n<=99:=by
 have:=dG h;obtain⟨n,rfl⟩:=ic this.1;exact⟨n,rfl,by omega⟩
section
variable{P:bq}{w:cf}{K:aq}{mg:Str->Option ao}{base:Heap}
structure DS(T:Tx K mg)(ρ:Addr->Nat)(H:Hp)(d ta st dx:Addr)(t:Tree)(s:Store)(L:SL):Prop where
 de:H d=some (.ins T.fG dx (h_ (t.now:Nat) ta st))
 rd:2000<=ρ d
 sr:SR T ρ H st s L
 wf:Sm.oG s
 nw:s.now=t.now
 fb:∀k,(b0 s k).faults<=1000
def Ly(T:Tx K mg)(ρ:Addr->Nat)(H:Hp)(st:Addr)(s':Store)(xV:List Int)(Q:VK):Prop:=
 ∀(H':Hp) (ρ':Addr->Nat) (L':SL) (p:Addr),SR T ρ' H' st s' L'->lB ρ H ρ' H'->H' p=some (.lst (bO xV))->ρ' p=0->H p=none->Q (.ref p) H'
def tT(t:Tree)(s:Store)(c:bg):Store×List Int:=((a9 {tree:=t,store:=s} c).1.store,(a9 {tree:=t,store:=s} c).2)
theorem fF{t:Tree}{s:Store}{c:bg}{u:Tree}{S:Store}{l:List Int}(h:a9 {tree:=t,store:=s} c=({tree:=u,store:=S},l)):tT t s c=(S,l):=by
 unfold tT;rw[h]
def lJ(T:Tx K mg)(n:Nat)(c:List Int->bg):Sp:=fun vs H Q _=>∃(d nu ta st dx:Addr) (ρ:Addr->Nat) (t:Tree) (s:Store) (L:SL) (ns:List Int),vs=[.ref d,.ref nu]/\DS T ρ H d ta st dx t s L/\H nu=some (.lst (bO ns))/\ρ nu=0/\ns.length=n/\
 Ly T ρ H st (tT t s (c ns)).1 (tT t s (c ns)).2 Q
theorem DS.same{T:Tx K mg}{ρ:Addr->Nat}{H H':Hp}{d ta st dx:Addr}{t:Tree}{s:Store}{L:SL}(D:DS T ρ H d ta st dx t s L)(h:dc H H'):DS T ρ H' d ta st dx t s L:=⟨h _ _ D.de,D.rd,D.sr.same h,D.wf,D.nw,D.fb⟩
theorem Ly.keep{T:Tx K mg}{ρ:Addr->Nat}{H H1:Hp}{d ta st dx:Addr}{t:Tree}{s:Store}{L:SL}{xV:List Int}{Q:VK}(k:Ly T ρ H st s xV Q)(D:DS T ρ H d ta st dx t s L)(h:dc H H1){p:Addr}(hp:H p=none)(e:H1 p=some (.lst (bO xV))):Q (.ref p) H1:=
 k H1 ρ L p (D.sr.same h) (lB.of h) e (D.sr.free p hp) hp
def OR:Sp:=fun vs H Q _=>∃x:Int,vs=[.int x]/\Q (.bl (fK x)) H
theorem tF(T:Tx K mg):cz P w K mg base fY 2 T.wF.f T.wF.fd ["number"] OR:=by
 refine T.wF.F.ok OV (fun vs H Q E h=>?_) (fun dY A outer s H vs Q E hr h=>?_)
 ·obtain⟨x,rfl,_⟩:=h;rfl
 ·obtain⟨x,rfl,k⟩:=h;refine⟨_,(aB (bf (dm T.gR (gc T) hr (aa (pv 0) (aa a8 (aa (cD T.qH) ax)))))),?_⟩;exact⟨_,rfl,x,0,99,rfl,k⟩
theorem Bn(T:Tx K mg):cz P w K mg base fY 3 T.fu.f T.fu.fd ["desk","numbers"] (lJ T 5 xm):=by
 refine T.fu.F.ok Bc (fun vs H Q E h=>?_) (fun dY A outer s H vs Q E hr h=>?_)
 ·obtain⟨d,nu,ta,st,dx,ρ,t,s,L,ns,rfl,_⟩:=h;rfl
 ·obtain⟨d,nu,ta,st,dx,ρ,t,S,L,ns,rfl,D,fJ,qW,hlen,k⟩:=h;obtain⟨r,g,l,b,m,rfl⟩:=As hlen;refine⟨_,(ai (cX (d8 (cZ (dm T.iQ (iN T) hr (aa (pv 1) (aa (uw rfl T.Ap) ax))))) (aB (bf (bC (aa (cD T.ck) ax)))) bI) (ai (cg (dR (a_ (pv 0)) T.ba T.nz (C0 T) hr (aa (cR (pv 1) a8) (aa (cR (pv 1) a8) (aa (cR (pv 1) a8) (aa (cR (pv 1) a8) (aa (cR (pv 1) a8) ax))))) (hb:=T.nz.F.b6))) (aB (bf (bC (aa a8 ax)))))),?_⟩;refine⟨_,rfl,nu,T.ny,[r,g,l,b,m],[(1,8),(0,1000),(0,5),(1,100),(1,1000)],rfl,fJ,T.zy,rfl,fun H1 s1=>⟨_,rfl,?_⟩⟩;have PY:nv [r,g,l,b,m] [(1,8),(0,1000),(0,5),(1,100),(1,1000)]=(aO r 1 8&&(aO g 0 1000&&(aO l 0 5&&(aO b 1 100&&aO m 1 1000)))):=by
   show(aO r 1 8&&(aO g 0 1000&&(aO l 0 5&&(aO b 1 100&&(aO m 1 1000&&true)))))=_;rw[ko]
  rw[PY];have D1:=D.same s1;have hd:a9 {tree:=t,store:=S} (xm [r,g,l,b,m])=if(aO r 1 8&&(aO g 0 1000&&(aO l 0 5&&(aO b 1 100&&aO m 1 1000))))=false then({tree:=t,store:=S},[-1]) else({tree:=t,store:={S with room:=r.toNat,age:=g.toNat,limit:=l.toNat,base:=b.toNat,most:=m.toNat,kept:=S.kept.take r.toNat} },[0]):=rfl
  cases q:(aO r 1 8&&(aO g 0 1000&&(aO l 0 5&&(aO b 1 100&&aO m 1 1000)))) with
  |false=>
   rw[if_pos q] at hd;rw[fF hd] at k;exact c_ ⟨(by show 1<=aG;decide),fun p hp=>k.keep D (s1.trans (aF hp)) (s1.free hp) ae⟩
  |true=>
   rw[if_neg (by rw[q];exact a0)] at hd;rw[fF hd] at k;rw[aW,aW,aW,aW] at q;obtain⟨q1,q2,q3,q4,q5⟩:=q;obtain⟨r,rfl⟩:=ic (show 0<=r by have:=dG q1;omega);obtain⟨g,rfl⟩:=ic (dG q2).1;obtain⟨l,rfl⟩:=ic (dG q3).1;obtain⟨b,rfl⟩:=ic (show 0<=b by have:=dG q4;omega);obtain⟨m,rfl⟩:=ic (show 0<=m by have:=dG q5;omega);have R_:=s1 _ _ fJ;refine di ⟨_,rfl,_,_,_,_,_,rfl,D1.de,T.cQ,dh T,eB _ _ _,_,_,_,rfl,D1.sr.st,cU _ (by decide+kernel),_,rfl,_,_,_,_,rfl,rfl,cF.of R_,at_of (j:=0) rfl rfl,_,rfl,_,_,_,_,rfl,rfl,cF.of R_,at_of (j:=1) rfl rfl,_,rfl,_,_,_,_,rfl,rfl,cF.of R_,at_of (j:=2) rfl rfl,_,rfl,_,_,_,_,rfl,rfl,cF.of R_,at_of (j:=3) rfl rfl,_,rfl,_,_,_,_,rfl,rfl,cF.of R_,at_of (j:=4) rfl rfl,st,r,g,l,b,m,ρ,S,L,rfl,D1.sr,fun H2 L2 R2 o2=>?_⟩;refine⟨(by show 1<=aG;decide),fun p hp=>?_⟩;have f2:lB ρ H ρ H2:=lB.trans (lB.of s1) D1.sr.free (o2.Vl (by rw[D.sr.rs];decide) fun _ _ _=>rfl);have xS:=f2.none R2.free hp;have s3:=aF (o:= .lst [.int 0]) hp;exact k _ ρ L2 p (R2.same s3) (lB.trans f2 R2.free (lB.of s3)) ae (D.sr.free p xS) xS
theorem KH(T:Tx K mg):cz P w K mg base fY 5 T.lS.f T.lS.fd ["desk","numbers"] (lJ T 1 Vr):=by
 refine T.lS.F.ok Kp (fun vs H Q E h=>?_) (fun dY A outer s H vs Q E hr h=>?_)
 ·obtain⟨d,nu,ta,st,dx,ρ,t,s,L,ns,rfl,_⟩:=h;rfl
 ·obtain⟨d,nu,ta,st,dx,ρ,t,S,L,ns,rfl,D,fJ,qW,hlen,k⟩:=h;obtain⟨i,rfl⟩:=eJ hlen;refine⟨_,(ai (cX (d8 (cZ (dm T.wF (tF T) hr (aa (cR (pv 1) a8) ax)))) (aB (bf (bC (aa (cD T.ck) ax)))) bI) (ai (cX (c8 mY (a_ (a_ (pv 0))) (cD T.La)) (aB (bf (bC (aa (cD T.Fx) ax)))) bI) (aB (bf (fM mZ (bC (aa a8 ax)) (dR (a_ (pv 0)) T.ba T.xq (Jj T) hr (aa (cR (pv 1) a8) (aa (a_ (pv 0)) ax)))))))),?_⟩;have hd:a9 {tree:=t,store:=S} (Vr [i])=if fK i=false then({tree:=t,store:=S},[-1]) else if 100<=S.asks then({tree:=t,store:=S},[-7]) else({tree:=t,store:=(eK S i.toNat).1},0::aw S.asks::(eK S i.toNat).2):=rfl
  refine⟨_,rfl,_,_,_,_,rfl,rfl,cF.of fJ,at_of (j:=0) rfl rfl,i,rfl,_,rfl,?_⟩;cases q:fK i with
  |false=>
   rw[if_pos q] at hd;rw[fF hd] at k;exact c_ ⟨(by show 1<=aG;decide),fun p hp=>k.keep D (aF hp) hp ae⟩
  |true=>
   rw[if_neg (by rw[q];exact a0)] at hd;obtain⟨n,rfl,hn⟩:=nq q;refine di ⟨_,rfl,_,_,_,_,_,rfl,D.de,T.cQ,dh T,eB _ _ _,_,_,_,_,_,rfl,D.sr.st,T.ba,kM T,rC _,rfl,_,rfl,?_⟩;have ea:decide (V.int (dQ S L).asked=V.int 100)=decide (100<=S.asks):=by
    rw[eY];have:=D.wf.asks;exact decide_eq_decide.mpr (by show((S.asks:Nat):Int)=100↔_;omega)
   rw[ea];by_cases z:100<=S.asks
   ·rw[if_pos z] at hd;rw[fF hd] at k;rw[decide_eq_true z];exact c_ ⟨(by show 1<=aG;decide),fun p hp=>k.keep D (aF hp) hp ae⟩
   ·rw[if_neg z] at hd;rw[fF hd] at k;rw[decide_eq_false z];refine di ⟨(by show 1<=aG;decide),fun l0 HG=>?_⟩;have s1:=aF (o:= .lst [.int 0]) HG;have D1:=D.same s1;refine⟨_,rfl,_,_,_,_,_,rfl,D1.de,T.cQ,dh T,eB _ _ _,_,_,_,rfl,D1.sr.st,cU _ (by decide+kernel),_,rfl,_,_,_,_,rfl,rfl,cF.of (s1 _ _ fJ),at_of (j:=0) rfl rfl,_,rfl,_,_,_,_,_,rfl,D1.de,T.cQ,fO T,kO _ _ _,st,n,ρ,S,L,(by rw[D.nw];rfl),D1.sr,D.wf,hn,(by omega),fun H2 ρ2 L2 q2 R2 f2 hq2 rq2 nq2=>?_⟩;have h02:H2 l0=some (.lst [.int 0]):=(f2 l0 _ ae).2 (.inl (by rw[D.sr.free l0 HG];decide));have f12:=lB.trans (lB.of s1) D1.sr.free f2;refine⟨_,_,_,_,rfl,rfl,h02,hq2,?_,fun p hp=>?_⟩
    ·rw[ab];have:=Vw S n;exact cK (small (by show 1+((eK S n).2.length+1)<=_;omega))
    have xS:=f12.none R2.free hp;have s3:=aF (o:= .lst ([.int 0]++bO ((S.asks:Nat)::(eK S n).2))) hp;exact k _ ρ2 L2 p (R2.same s3) (lB.trans f12 R2.free (lB.of s3)) ae (R2.free p hp) xS
theorem lQ(l:List Nat):aV l=bO (l.map aw):=by
 show l.map _=(l.map aw).map V.int;rw[gm];rfl
theorem E2(T:Tx K mg):cz P w K mg base fY 4 T.gM.f T.gM.fd ["desk","numbers"] (lJ T 2 DU):=by
 refine T.gM.F.ok mS (fun vs H Q E h=>?_) (fun dY A outer s H vs Q E hr h=>?_)
 ·obtain⟨d,nu,ta,st,dx,ρ,t,s,L,ns,rfl,_⟩:=h;rfl
 ·obtain⟨d,nu,ta,st,dx,ρ,t,S,L,ns,rfl,D,fJ,qW,hlen,k⟩:=h;obtain⟨i,v,rfl⟩:=nQ hlen;refine⟨_,(ai (b8 2 mS.nd (cR (pv 1) a8)) (ai (b8 3 mS.nd (cR (pv 1) a8)) (ai (cX (PW.pt (Cb (d8 (cZ (dm T.gR (gc T) hr (aa (pv 3) (aa (Hq A2 (cD T.tO)) (aa (cD T.tO) ax)))))) (wm (d8 (cZ (dm T.wF (tF T) hr (aa (pv 2) ax))))))) (aB (bf (bC (aa (cD T.ck) ax)))) bI) (ai (b8 4 mS.nd (dR (a_ (pv 0)) T.ba T.iR (k7 T) hr (aa (pv 2) ax))) (ai (cX (c8 My (pv 4) nV) (aB (bf (bC (aa (cD T.iF) ax)))) bI) (ai (cg (dR (a_ (pv 0)) T.ba T.pX (C4 T) hr (aa (pv 4) (aa (pv 3) (aa (a_ (pv 0)) ax))))) (aB (bf (fM mZ (bC (aa a8 (aa (eA T.f9 (a_ (pv 4))) ax))) (a_ (pv 4))))))))))),?_⟩;have hd:a9 {tree:=t,store:=S} (DU [i,v])=if aO v (-1000000000) 1000000000=false then({tree:=t,store:=S},[-1]) else if fK i=false then({tree:=t,store:=S},[-1]) else match l4 S i.toNat with
   |none=>({tree:=t,store:=S},[-2])
   |some w=>({tree:=t,store:=yA S w v},0::dC w.askers):=rfl
  refine⟨_,rfl,_,_,_,_,rfl,rfl,cF.of fJ,at_of (j:=0) rfl rfl,?_⟩;refine⟨_,rfl,_,_,_,_,rfl,rfl,cF.of fJ,at_of (j:=1) rfl rfl,?_⟩;refine⟨_,rfl,_,rfl,v,-1000000000,1000000000,rfl,_,rfl,?_⟩;cases q0:aO v (-1000000000) 1000000000 with
  |false=>
   rw[if_pos q0] at hd;rw[fF hd] at k;exact c_ (c_ ⟨(by show 1<=aG;decide),fun p hp=>k.keep D (aF hp) hp ae⟩)
  |true=>
   rw[if_neg (by rw[q0];exact a0)] at hd;refine di ⟨_,rfl,i,rfl,_,rfl,?_⟩;cases q:fK i with
   |false=>
    rw[if_pos q] at hd;rw[fF hd] at k;exact c_ ⟨(by show 1<=aG;decide),fun p hp=>k.keep D (aF hp) hp ae⟩
   |true=>
    rw[if_neg (by rw[q];exact a0)] at hd;obtain⟨n,rfl,hn⟩:=nq q;refine di ⟨_,rfl,_,_,_,_,_,rfl,D.de,T.cQ,dh T,eB _ _ _,_,_,_,rfl,D.sr.st,cU _ (by decide+kernel),_,rfl,st,n,ρ,S,L,rfl,D.sr,fun i c w0 hc hw KY=>?_,fun NZ=>?_⟩
    ·have RW:l4 S ((n:Nat):Int).toNat=some w0:=KY;rw[RW] at hd;rw[fF hd] at k;obtain⟨Ga,YL⟩:=Sm.kF KY;refine⟨_,rfl,rfl,_,rfl,?_⟩;rw[decide_eq_false (show ¬V.ref c.1=V.gE from fun q=>by cases q)];refine di ⟨_,rfl,_,_,_,_,_,rfl,D.de,T.cQ,dh T,eB _ _ _,_,_,_,rfl,D.sr.st,cU _ (by decide+kernel),_,rfl,_,rfl,_,rfl,_,_,_,_,_,rfl,D.de,T.cQ,fO T,kO _ _ _,st,i,c,w0,v,ρ,S,L,(by rw[D.nw];rfl),D.sr,D.wf,hc,hw,fun H2 ρ2 L2 R2 f2 x2 l2=>?_⟩;refine⟨_,rfl,_,_,_,_,_,rfl,x2,T.dO,dP T,fz _,_,_,rfl,.inl (cF.of l2),(by show 2<=aG;decide),fun l0 HG=>?_⟩;have s3:=aF (o:= .lst [.int 0,.int ((aV w0.askers).length:Nat)]) HG;refine⟨_,rfl,_,_,_,_,_,rfl,(s3 _ _ x2),T.dO,dP T,fz _,_,_,_,_,rfl,rfl,ae,s3 _ _ l2,?_,fun p hp=>?_⟩
     ·rw[ab];have:=qL D.wf Ga;exact cK (small (by show 2+w0.askers.length<=_;omega))
     have s4:=s3.trans (aF (o:= .lst ([.int 0,.int ((aV w0.askers).length:Nat)]++aV w0.askers)) hp);have N1:=s3.free hp;have xS:=f2.none R2.free N1;refine k _ ρ2 L2 p (R2.same s4) (lB.trans f2 R2.free (lB.of s4)) ?_ (R2.free p N1) xS;rw[ae,lQ,ab,ab];rfl
    ·have RV:l4 S ((n:Nat):Int).toNat=none:=NZ;rw[RV] at hd;rw[fF hd] at k;refine⟨_,rfl,rfl,_,rfl,?_⟩;rw[decide_eq_true (show V.gE=V.gE from rfl)];exact c_ ⟨(by show 1<=aG;decide),fun p hp=>k.keep D (aF hp) hp ae⟩
theorem Jc(T:Tx K mg):cz P w K mg base fY 3 T.jV.f T.jV.fd ["desk","numbers"] (lJ T 1 Oh):=by
 refine T.jV.F.ok uq (fun vs H Q E h=>?_) (fun dY A outer s H vs Q E hr h=>?_)
 ·obtain⟨d,nu,ta,st,dx,ρ,t,s,L,ns,rfl,_⟩:=h;rfl
 ·obtain⟨d,nu,ta,st,dx,ρ,t,S,L,ns,rfl,D,fJ,qW,hlen,k⟩:=h;obtain⟨i,rfl⟩:=eJ hlen;refine⟨_,(ai (b8 2 uq.nd (cR (pv 1) a8)) (ai (cX (d8 (cZ (dm T.wF (tF T) hr (aa (pv 2) ax)))) (aB (bf (bC (aa (cD T.ck) ax)))) bI) (ai (b8 3 uq.nd (dR (a_ (pv 0)) T.ba T.iR (k7 T) hr (aa (pv 2) ax))) (ai (cX (c8 My (pv 3) nV) (aB (bf (bC (aa (cD T.iF) ax)))) bI) (ai (cg (dR (a_ (pv 0)) T.ba T.uR (GI T) hr (aa (pv 3) (aa (a_ (pv 0)) ax)))) (aB (bf (fM mZ (fM mZ (bC (aa a8 (aa (eA T.f9 (a_ (pv 3))) ax))) (a_ (pv 3))) (bC (aa (dR (a_ (pv 0)) T.ba T.ip (ma T) hr (aa (pv 2) ax)) ax)))))))))),?_⟩;have hd:a9 {tree:=t,store:=S} (Oh [i])=if fK i=false then({tree:=t,store:=S},[-1]) else match l4 S i.toNat with
   |none=>({tree:=t,store:=S},[-2])
   |some w=>({tree:=t,store:=mD S w},0::dC w.askers++[aw (b0 (mD S w) w.key).till]):=rfl
  refine⟨_,rfl,_,_,_,_,rfl,rfl,cF.of fJ,at_of (j:=0) rfl rfl,?_⟩;refine⟨_,rfl,i,rfl,_,rfl,?_⟩;cases q:fK i with
  |false=>
   rw[if_pos q] at hd;rw[fF hd] at k;exact c_ ⟨(by show 1<=aG;decide),fun p hp=>k.keep D (aF hp) hp ae⟩
  |true=>
   rw[if_neg (by rw[q];exact a0)] at hd;obtain⟨n,rfl,hn⟩:=nq q;refine di ⟨_,rfl,_,_,_,_,_,rfl,D.de,T.cQ,dh T,eB _ _ _,_,_,_,rfl,D.sr.st,cU _ (by decide+kernel),_,rfl,st,n,ρ,S,L,rfl,D.sr,fun i c w0 hc hw KY=>?_,fun NZ=>?_⟩
   ·have RW:l4 S ((n:Nat):Int).toNat=some w0:=KY;rw[RW] at hd;rw[fF hd] at k;obtain⟨Ga,YL⟩:=Sm.kF KY;refine⟨_,rfl,rfl,_,rfl,?_⟩;rw[decide_eq_false (show ¬V.ref c.1=V.gE from fun q=>by cases q)];refine di ⟨_,rfl,_,_,_,_,_,rfl,D.de,T.cQ,dh T,eB _ _ _,_,_,_,rfl,D.sr.st,cU _ (by decide+kernel),_,rfl,_,rfl,_,_,_,_,_,rfl,D.de,T.cQ,fO T,kO _ _ _,st,i,c,w0,ρ,S,L,(by rw[D.nw];rfl),D.sr,D.wf,hc,hw,D.fb _,fun H2 ρ2 L2 R2 f2 x2 l2=>?_⟩;have de2:H2 d=_:=(f2 _ _ D.de).2 (.inr D.rd);refine⟨_,rfl,_,_,_,_,_,rfl,x2,T.dO,dP T,fz _,_,_,rfl,.inl (cF.of l2),(by show 2<=aG;decide),fun l0 HG=>?_⟩;have s3:=aF (o:= .lst [.int 0,.int ((aV w0.askers).length:Nat)]) HG;have al:=qL D.wf Ga;refine⟨_,rfl,_,_,_,_,_,rfl,(s3 _ _ x2),T.dO,dP T,fz _,_,_,_,_,rfl,rfl,ae,s3 _ _ l2,?_,fun l1 xT=>?_⟩
    ·rw[ab];exact cK (small (by show 2+w0.askers.length<=_;omega))
    have s4:=s3.trans (aF (o:= .lst ([.int 0,.int ((aV w0.askers).length:Nat)]++aV w0.askers)) xT);have R4:=R2.same s4;refine⟨_,rfl,_,_,_,_,_,rfl,(s4 _ _ de2),T.cQ,dh T,eB _ _ _,_,_,_,rfl,R4.st,cU _ (by decide+kernel),_,rfl,st,n,ρ2,_,L2,rfl,R4,(by show 1<=aG;decide),fun l2' uK=>?_⟩;have s5:=s4.trans (aF (o:= .lst [.int ((b0 (mD S w0) n).till:Nat)]) uK);have n12:l1≠l2':=fun e=>by rw[<-e,ae] at uK;cases uK
    refine⟨_,_,_,_,rfl,rfl,(aA n12).trans ae,ae,?_,fun p hp=>?_⟩
    ·rw[aJ,ab];exact cK (small (by show 2+w0.askers.length+1<=_;omega))
    have N1:=s5.free hp;have xS:=f2.none R2.free N1;have s6:=s5.trans (aF (o:= .lst (([.int 0,.int ((aV w0.askers).length:Nat)]++aV w0.askers)++[.int ((b0 (mD S w0) n).till:Nat)])) hp);refine k _ ρ2 L2 p (R2.same s6) (lB.trans f2 R2.free (lB.of s6)) ?_ (R2.free p N1) xS;rw[ae,lQ,ab,ab,YL];show some (HO.lst _)=some (HO.lst (bO (0::(aw w0.askers.length::w0.askers.map aw)++[aw (b0 (mD S w0) n).till])));show some (HO.lst _)=some (HO.lst (BM V.int _));rw[cb];rfl
   ·have RV:l4 S ((n:Nat):Int).toNat=none:=NZ;rw[RV] at hd;rw[fF hd] at k;refine⟨_,rfl,rfl,_,rfl,?_⟩;rw[decide_eq_true (show V.gE=V.gE from rfl)];exact c_ ⟨(by show 1<=aG;decide),fun p hp=>k.keep D (aF hp) hp ae⟩
theorem GF(T:Tx K mg):cz P w K mg base fY 3 T.iO.f T.iO.fd ["desk","numbers"] (lJ T 1 JG):=by
 refine T.iO.F.ok sg (fun vs H Q E h=>?_) (fun dY A outer s H vs Q E hr h=>?_)
 ·obtain⟨d,nu,ta,st,dx,ρ,t,s,L,ns,rfl,_⟩:=h;rfl
 ·obtain⟨d,nu,ta,st,dx,ρ,t,S,L,ns,rfl,D,fJ,qW,hlen,k⟩:=h;obtain⟨i,rfl⟩:=eJ hlen;refine⟨_,(ai (b8 2 sg.nd (cR (pv 1) a8)) (ai (cX (c8 tD (pv 2) a8) (aB (bf (bC (aa (cD T.ck) ax)))) bI) (ai (b8 3 sg.nd (dR (a_ (pv 0)) T.ba T.g6 (sy T) hr (aa (pv 2) ax))) (ai (cX (c8 My (pv 3) nV) (aB (bf (bC (aa (cD T.iF) ax)))) bI) (aB (bf (bC (aa a8 (aa (Bj (cZ (dR (a_ (pv 0)) T.ba T.rY (E8 T) hr (aa (pv 3) (aa (pv 2) ax))))) ax))))))))),?_⟩;have hd:a9 {tree:=t,store:=S} (JG [i])=if i<0 then({tree:=t,store:=S},[-1]) else match Gd S i.toNat with
   |none=>({tree:=t,store:=S},[-2])
   |some w=>({tree:=t,store:=nD S i.toNat},[0,bZ (l4 (nD S i.toNat) w.key).isNone]):=rfl
  refine⟨_,rfl,_,_,_,_,rfl,rfl,cF.of fJ,at_of (j:=0) rfl rfl,?_⟩;refine⟨_,rfl,_,_,rfl,rfl,_,rfl,?_⟩;by_cases z:i<0
  ·rw[if_pos z] at hd;rw[fF hd] at k;rw[decide_eq_true z];exact c_ ⟨(by show 1<=aG;decide),fun p hp=>k.keep D (aF hp) hp ae⟩
  ·rw[if_neg z] at hd;rw[decide_eq_false z];obtain⟨n,rfl⟩:=ic (show 0<=i by omega);refine di ⟨_,rfl,_,_,_,_,_,rfl,D.de,T.cQ,dh T,eB _ _ _,_,_,_,rfl,D.sr.st,cU _ (by decide+kernel),_,rfl,st,n,ρ,S,L,rfl,D.sr,fun i c w0 hc hw KY=>?_,fun NZ=>?_⟩
   ·have RW:Gd S ((n:Nat):Int).toNat=some w0:=KY;rw[RW] at hd;rw[fF hd] at k;obtain⟨Ga,Co⟩:=Sm.Mm KY;refine⟨_,rfl,rfl,_,rfl,?_⟩;rw[decide_eq_false (show ¬V.ref c.1=V.gE from fun q=>by cases q)];refine di ⟨_,rfl,_,_,_,_,_,rfl,D.de,T.cQ,dh T,eB _ _ _,_,_,_,rfl,D.sr.st,cU _ (by decide+kernel),_,rfl,_,rfl,st,i,c,w0,n,ρ,S,L,rfl,D.sr,D.wf,hc,hw,Co,fun H2 ρ2 L2 R2 f2=>?_⟩;have eb:bZ (l4 (nD S ((n:Nat):Int).toNat) w0.key).isNone=bZ (decide ((w0.askers.filter fun y=>y !=n)=[])):=by
     show bZ (l4 (nD S n) w0.key).isNone=_;rw[Sm.Pj D.wf Ga Co]
    rw[eb] at k;refine⟨_,rfl,(by show 2<=aG;decide),fun p hp=>?_⟩;have xS:=f2.none R2.free hp;have s3:=aF (o:= .lst [.int 0,(.int (bZ (decide ((w0.askers.filter fun y=>y !=n)=[]))))]) hp;exact k _ ρ2 L2 p (R2.same s3) (lB.trans f2 R2.free (lB.of s3)) ae (R2.free p hp) xS
   ·have RV:Gd S ((n:Nat):Int).toNat=none:=NZ;rw[RV] at hd;rw[fF hd] at k;refine⟨_,rfl,rfl,_,rfl,?_⟩;rw[decide_eq_true (show V.gE=V.gE from rfl)];exact c_ ⟨(by show 1<=aG;decide),fun p hp=>k.keep D (aF hp) hp ae⟩
theorem E1(T:Tx K mg):cz P w K mg base fY 3 T.gL.f T.gL.fd ["desk","numbers"] (lJ T 1 DR):=by
 refine T.gL.F.ok Ey (fun vs H Q E h=>?_) (fun dY A outer s H vs Q E hr h=>?_)
 ·obtain⟨d,nu,ta,st,dx,ρ,t,s,L,ns,rfl,_⟩:=h;rfl
 ·obtain⟨d,nu,ta,st,dx,ρ,t,S,L,ns,rfl,D,fJ,qW,hlen,k⟩:=h;obtain⟨i,rfl⟩:=eJ hlen;refine⟨_,(ai (cX (d8 (cZ (dm T.wF (tF T) hr (aa (cR (pv 1) a8) ax)))) (aB (bf (bC (aa (cD T.ck) ax)))) bI) (ai (cg (dR (a_ (pv 0)) T.ba T.pW (C3 T) hr (aa (cR (pv 1) a8) ax))) (aB (bf (bC (aa a8 ax)))))),?_⟩;have hd:a9 {tree:=t,store:=S} (DR [i])=if fK i=false then({tree:=t,store:=S},[-1]) else({tree:=t,store:=yz S i.toNat},[0]):=rfl
  refine⟨_,rfl,_,_,_,_,rfl,rfl,cF.of fJ,at_of (j:=0) rfl rfl,i,rfl,_,rfl,?_⟩;cases q:fK i with
  |false=>
   rw[if_pos q] at hd;rw[fF hd] at k;exact c_ ⟨(by show 1<=aG;decide),fun p hp=>k.keep D (aF hp) hp ae⟩
  |true=>
   rw[if_neg (by rw[q];exact a0)] at hd;rw[fF hd] at k;obtain⟨n,rfl,hn⟩:=nq q;refine di ⟨_,rfl,_,_,_,_,_,rfl,D.de,T.cQ,dh T,eB _ _ _,_,_,_,rfl,D.sr.st,cU _ (by decide+kernel),_,rfl,_,_,_,_,rfl,rfl,cF.of fJ,at_of (j:=0) rfl rfl,st,n,ρ,S,L,rfl,D.sr,D.wf,fun H2 L2 R2 f2=>?_⟩;refine⟨(by show 1<=aG;decide),fun p hp=>?_⟩;have xS:=f2.none R2.free hp;have s3:=aF (o:= .lst [.int 0]) hp;exact k _ ρ L2 p (R2.same s3) (lB.trans f2 R2.free (lB.of s3)) ae (D.sr.free p xS) xS
theorem CW(T:Tx K mg):cz P w K mg base fY 3 T.gf.f T.gf.fd ["desk","numbers"] (lJ T 1 AA):=by
 refine T.gf.F.ok uT (fun vs H Q E h=>?_) (fun dY A outer s H vs Q E hr h=>?_)
 ·obtain⟨d,nu,ta,st,dx,ρ,t,s,L,ns,rfl,_⟩:=h;rfl
 ·obtain⟨d,nu,ta,st,dx,ρ,t,S,L,ns,rfl,D,fJ,qW,hlen,k⟩:=h;obtain⟨i,rfl⟩:=eJ hlen;refine⟨_,(ai (b8 2 uT.nd (cR (pv 1) a8)) (ai (cX (d8 (cZ (dm T.wF (tF T) hr (aa (pv 2) ax)))) (aB (bf (bC (aa (cD T.ck) ax)))) bI) (aB (bf (bC (aa a8 (aa (dR (a_ (pv 0)) T.ba T.jG (qB T) hr (aa (pv 2) ax)) (aa (dR (a_ (pv 0)) T.ba T.ip (ma T) hr (aa (pv 2) ax)) ax)))))))),?_⟩;have hd:a9 {tree:=t,store:=S} (AA [i])=if fK i=false then({tree:=t,store:=S},[-1]) else({tree:=t,store:=S},[0,aw (b0 S i.toNat).faults,aw (b0 S i.toNat).till]):=rfl
  refine⟨_,rfl,_,_,_,_,rfl,rfl,cF.of fJ,at_of (j:=0) rfl rfl,?_⟩;refine⟨_,rfl,i,rfl,_,rfl,?_⟩;cases q:fK i with
  |false=>
   rw[if_pos q] at hd;rw[fF hd] at k;exact c_ ⟨(by show 1<=aG;decide),fun p hp=>k.keep D (aF hp) hp ae⟩
  |true=>
   rw[if_neg (by rw[q];exact a0)] at hd;rw[fF hd] at k;obtain⟨n,rfl,hn⟩:=nq q;refine di ⟨_,rfl,_,_,_,_,_,rfl,D.de,T.cQ,dh T,eB _ _ _,_,_,_,rfl,D.sr.st,cU _ (by decide+kernel),_,rfl,st,n,ρ,S,L,rfl,D.sr,_,rfl,_,_,_,_,_,rfl,D.de,T.cQ,dh T,eB _ _ _,_,_,_,rfl,D.sr.st,cU _ (by decide+kernel),_,rfl,st,n,ρ,S,L,rfl,D.sr,(by show 3<=aG;decide),fun p hp=>?_⟩;exact k.keep D (aF hp) hp ae
theorem Wd{α:Type}{f:α->List Int}{n:Nat}(hf:∀a,(f a).length<=n):∀l:List α,(l.flatMap f).length<=n*l.length
 |[]=>aT _
 |a::l=>by
  have:=Wd hf l;have:=hf a;rw[bU,aJ,aQ,Me];omega
def NU(S:Store)(k:Kept):List Int:=[aw k.key,k.value,aw k.since,bZ (fresh S k)]
theorem I_(T:Tx K mg):cz P w K mg base fY 2 T.jS.f T.jS.fd ["desk","numbers"] (lJ T 0 SM):=by
 refine T.jS.F.ok pL (fun vs H Q E h=>?_) (fun dY A outer s H vs Q E hr h=>?_)
 ·obtain⟨d,nu,ta,st,dx,ρ,t,s,L,ns,rfl,_⟩:=h;rfl
 ·obtain⟨d,nu,ta,st,dx,ρ,t,S,L,ns,rfl,D,fJ,qW,hlen,k⟩:=h;have R:=D.sr;have K2:S.kept.length<=8:=aD D.wf.xR D.wf.room;refine⟨_,(ai (b8 2 pL.nd (a_ (pv 0))) (ai (b8 3 pL.nd (bC (aa a8 (aa (eA T.f9 (a_ (pv 2))) ax)))) (ai (iM bV rfl (e_ (a_ (pv 2))) (f7 4 pL.nd) (aB (cg (qx bT df dr jP (pv 3) (aa (bC (aa (a_ (pv 4)) (aa (a_ (pv 4)) (aa (a_ (pv 4)) (aa (Bj (cZ (dR (pv 2) T.ba T.kT (rN T) hr (aa (pv 4) (aa (a_ (pv 0)) ax))))) ax))))) ax))))) (aB (bf (pv 3)))))),?_⟩;have hd:tT t S (SM ns)=(S,0::aw S.kept.length::S.kept.flatMap (NU S)):=rfl;rw[hd] at k;refine⟨_,rfl,_,_,_,_,_,rfl,D.de,T.cQ,dh T,eB _ _ _,_,rfl,_,_,_,_,_,rfl,R.st,T.ba,eD T,jM _,_,_,rfl,.inl (cF.of R.an),(by show 2<=aG;decide),fun tl TB=>?_⟩;have s1:=aF (o:= .lst [.int 0,.int ((L.ak.map fun c=>V.ref c.1).length:Nat)]) TB;refine⟨_,rfl,_,_,_,_,_,rfl,(s1 _ _ R.st),T.ba,eD T,jM _,_,rfl,⟨_,cF.of (s1 _ _ R.an)⟩,gW (xs:=L.ak.map fun c=>V.ref c.1) (fun j σ H'=>∃v:Option V,σ=[some (.ref d),some (.ref nu),some (.ref st),some (.ref tl),v]/\dc H H'/\H' tl=some (.lst (bO (0::aw S.kept.length::(S.kept.take j).flatMap (NU S)))))
   ⟨none,rfl,s1,by rw[ae,ab,R.ak.len];rfl⟩ (fun j σ H' _ ⟨_,_,s2,_⟩=>cF.of (show H' L.an=_ from s2 _ _ R.an)) ?_ ?_⟩
  ·rintro j x σ H1 hx ⟨v,rfl,s2,hl⟩;obtain⟨c,k0,hc,hk,rfl,hA⟩:=R.S_ hx;have X0:=s2 _ _ hA.1;refine⟨_,rfl,.inl ⟨rfl,_,cF.of hl⟩,_,rfl,_,_,_,_,_,rfl,X0,T.i_,lO T,uQ _ _ _,_,rfl,_,_,_,_,_,rfl,X0,T.i_,ph T,AG _ _ _,_,rfl,_,_,_,_,_,rfl,X0,T.i_,pj T,AH _ _ _,_,rfl,_,_,_,rfl,s2 _ _ R.st,cU _ (by decide+kernel),_,rfl,_,rfl,_,_,_,_,_,rfl,(s2 _ _ D.de),T.cQ,fO T,kO _ _ _,st,_,c,k0,S,L,(by rw[D.nw];rfl),s2 _ _ R.st,X0,_,rfl,(by show 4<=aG;decide),fun q hq=>?_⟩;have s3:=aF (o:= .lst [.int ((k0.key:Nat):Int),.int k0.value,.int ((k0.since:Nat):Int),.int (bZ (fresh S k0))]) hq;refine⟨_,_,_,_,rfl,rfl,s3 _ _ hl,ae,?_,?_⟩
   ·rw[ab,aQ,aQ];have h1:=Wd (f:=NU S) (n:=4) (fun _=>aL _) (S.kept.take j);have h2:=bJ j S.kept;exact cK (small (by show _+4<=_;omega))
   ·refine⟨_,rfl,fun b o z=>by rw[aA (aE z TB)];exact s3 b o (s2 b o z),?_⟩;rw[ae,take_snoc hk,eO];simp[NU,aw]
  ·rintro σ H1 ⟨v,rfl,s2,hl⟩;rw[ab,R.ak.len,bL] at hl;exact⟨_,rfl,k.keep D s2 TB hl⟩
def BN(w:Work):List Int:=[aw w.key,aw w.since,bZ w.keep]++dC w.askers
theorem N7{α:Type}{f:α->List Int}{n:Nat}:∀l:List α,(∀a∈l,(f a).length<=n)->(l.flatMap f).length<=n*l.length
 |[],_=>aT _
 |a::l,hf=>by
  have:=N7 l fun b hb=>hf b (aj _ hb);have:=hf a au;rw[bU,aJ,aQ,Me];omega
theorem GD(T:Tx K mg):cz P w K mg base fY 1 T.iK.f T.iK.fd ["desk","numbers"] (lJ T 0 MZ):=by
 refine T.iK.F.ok sf (fun vs H Q E h=>?_) (fun dY A outer s H vs Q E hr h=>?_)
 ·obtain⟨d,nu,ta,st,dx,ρ,t,s,L,ns,rfl,_⟩:=h;rfl
 ·obtain⟨d,nu,ta,st,dx,ρ,t,S,L,ns,rfl,D,fJ,qW,hlen,k⟩:=h;have R:=D.sr;have MK:=sU D.wf;refine⟨_,(ai (b8 2 sf.nd (bC (aa a8 (aa (eA T.f9 (a_ (a_ (pv 0)))) ax)))) (ai (iM bV rfl (e_ (a_ (a_ (pv 0)))) (f7 3 sf.nd) (ai (cg (qx bT df dr jP (pv 2) (aa (bC (aa (a_ (pv 3)) (aa (a_ (pv 3)) (aa (Bj (cZ (a_ (pv 3)))) ax)))) ax))) (aB (cg (qx bT df dr jP (pv 2) (aa (fM mZ (bC (aa (eA T.f9 (a_ (pv 3))) ax)) (a_ (pv 3))) ax)))))) (aB (bf (pv 2))))),?_⟩;have hd:tT t S (MZ ns)=(S,0::aw S.works.length::S.works.flatMap BN):=rfl;rw[hd] at k;refine⟨_,rfl,_,_,_,_,_,rfl,D.de,T.cQ,dh T,eB _ _ _,_,_,_,_,_,rfl,R.st,T.ba,gi T,mr _,_,_,rfl,.inl (cF.of R.wl),(by show 2<=aG;decide),fun tl TB=>?_⟩;have s1:=aF (o:= .lst [.int 0,.int ((L.wk.map fun c=>V.ref c.1).length:Nat)]) TB;refine⟨_,rfl,_,_,_,_,_,rfl,(s1 _ _ D.de),T.cQ,dh T,eB _ _ _,_,_,_,_,_,rfl,(s1 _ _ R.st),T.ba,gi T,mr _,_,rfl,⟨_,cF.of (s1 _ _ R.wl)⟩,gW (xs:=L.wk.map fun c=>V.ref c.1) (fun j σ H'=>∃v:Option V,σ=[some (.ref d),some (.ref nu),some (.ref tl),v]/\dc H H'/\H' tl=some (.lst (bO (0::aw S.works.length::(S.works.take j).flatMap BN))))
   ⟨none,rfl,s1,by rw[ae,ab,R.wk.len];rfl⟩ (fun j σ H' _ ⟨_,_,s2,_⟩=>cF.of (show H' L.wl=_ from s2 _ _ R.wl)) ?_ ?_⟩
  ·rintro j x σ H1 hx ⟨v,rfl,s2,hl⟩;obtain⟨c,w0,hc,hw,rfl,X⟩:=R.Nm hx;have Ga:=bB hw;have al:=qL D.wf Ga;have x1:=s2 _ _ X.ob;have l1:=s2 _ _ X.wt;have hfl:((S.works.take j).flatMap BN).length<=104*100:=by
    refine aD (N7 (n:=104) _ fun a ha=>?_) (Qj _ (aD (bJ _ _) MK));have:=qL D.wf (gn ha);have e:(BN a).length=3+(a.askers.length+1):=by
     unfold BN dC;simp;omega
    omega
   refine⟨_,rfl,.inl ⟨rfl,_,cF.of hl⟩,_,rfl,_,_,_,_,_,rfl,x1,T.dO,eL T,i5 _,_,rfl,_,_,_,_,_,rfl,x1,T.dO,sE T,D_ _,_,rfl,_,_,_,_,_,rfl,x1,T.dO,iB T,rk _,_,rfl,(by show 3<=aG;decide),fun q hq=>?_⟩;have s3:=aF (o:= .lst [.int ((w0.key:Nat):Int),.int ((w0.since:Nat):Int),.int (bZ w0.keep)]) hq;refine⟨_,_,_,_,rfl,rfl,s3 _ _ hl,ae,?_,?_⟩
   ·rw[ab,aQ,aQ];exact cK (small (by show _+3<=_;omega))
   have tlq:tl≠q:=aE hl hq;generalize YY:upd (upd H1 q (HO.lst [.int (lz w0 c.2.2).key,.int (lz w0 c.2.2).since,.int (bZ (lz w0 c.2.2).keep)])) tl (HO.lst (bO (0::aw S.works.length::(S.works.take j).flatMap BN)++[.int (lz w0 c.2.2).key,.int (lz w0 c.2.2).since,.int (bZ (lz w0 c.2.2).keep)]))=H2;have s4:dc H H2:=fun b o z=>by rw[<-YY,aA (aE z TB)];exact s3 b o (s2 b o z)
   have uK:H2 tl=some (HO.lst (bO (0::aw S.works.length::(S.works.take j).flatMap BN)++[.int (lz w0 c.2.2).key,.int (lz w0 c.2.2).since,.int (bZ (lz w0 c.2.2).keep)])):=by rw[<-YY,ae]
   have x2:=s4 _ _ X.ob;have l2:=s4 _ _ X.wt;refine⟨_,rfl,.inl ⟨rfl,_,cF.of uK⟩,_,rfl,_,_,_,_,_,rfl,x2,T.dO,dP T,fz _,_,_,rfl,.inl (cF.of l2),(by show 1<=aG;decide),fun r LO=>?_⟩;have s5:=aF (o:= .lst [.int ((aV w0.askers).length:Nat)]) LO;refine⟨_,rfl,_,_,_,_,_,rfl,(s5 _ _ x2),T.dO,dP T,fz _,_,_,_,_,rfl,rfl,ae,s5 _ _ l2,?_,fun u hu=>?_⟩
   ·rw[ab];exact cK (small (by show 1+w0.askers.length<=_;omega))
   have s6:=s5.trans (aF (o:= .lst ([.int ((aV w0.askers).length:Nat)]++aV w0.askers)) hu);refine⟨_,_,_,_,rfl,rfl,s6 _ _ uK,ae,?_,?_⟩
   ·rw[aJ,ab,aJ,ab,aQ,aQ];exact cK (small (by show _+3+(1+w0.askers.length)<=_;omega))
   ·refine⟨_,rfl,fun b o z=>by rw[aA (aE z TB)];exact s6 b o (s4 b o z),?_⟩;rw[ae,take_snoc hw,eO,lQ];simp[BN,aw,dC];exact⟨rfl,rfl,rfl⟩
  ·rintro σ H1 ⟨v,rfl,s2,hl⟩;rw[ab,R.wk.len,bL] at hl;exact⟨_,rfl,k.keep D s2 TB hl⟩
def Hj(T:Tx K mg):Sp:=fun vs H Q _=>∃(d nu ta st dx:Addr) (ρ:Addr->Nat) (t:Tree) (LT:TL) (s:Store) (L:SL) (ns:List Int),vs=[.ref d,.ref nu]/\DS T ρ H d ta st dx t s L/\cy T.cM T.da ρ H ta t LT/\Ly T ρ H st (tT t s (Az ns)).1 (tT t s (Az ns)).2 Q
theorem E4(T:Tx K mg):cz P w K mg base fY 1 T.gO.f T.gO.fd ["desk","numbers"] (Hj T):=by
 refine T.gO.F.ok qo (fun vs H Q E h=>?_) (fun dY A outer s H vs Q E hr h=>?_)
 ·obtain⟨d,nu,ta,st,dx,ρ,t,LT,s,L,ns,rfl,_⟩:=h;rfl
 ·obtain⟨d,nu,ta,st,dx,ρ,t,LT,S,L,ns,rfl,D,RT,k⟩:=h;have R:=D.sr;refine⟨_,(ai (b8 2 qo.nd (a_ (pv 0))) (ai (b8 3 qo.nd (bC (aa a8 (aa (a_ (pv 0)) (aa (eA T.f9 (a_ (a_ (pv 0)))) (aa (a_ (pv 2)) (aa (a_ (pv 2)) (aa (a_ (pv 2)) ax)))))))) (aB (bf (fM mZ (pv 3) (bC (aa (a_ (pv 2)) (aa (a_ (pv 2)) (aa (a_ (pv 2)) (aa (a_ (pv 2)) (aa (a_ (pv 2)) ax))))))))))),?_⟩;have hd:tT t S (Az ns)=(S,[0,aw t.now,aw t.nodes.length,aw S.asks,aw S.hits,aw S.begun,aw S.room,aw S.age,aw S.limit,aw S.base,aw S.most]):=rfl;rw[hd] at k;refine⟨_,rfl,_,_,_,_,_,rfl,D.de,T.cQ,dh T,eB _ _ _,_,rfl,_,_,_,_,_,rfl,D.de,T.cQ,fO T,kO _ _ _,_,rfl,_,_,_,_,_,rfl,D.de,T.cQ,dX T,gv _ _ _,_,_,_,_,_,rfl,RT.tr,T.bK,bx T,bW _ _,_,_,rfl,.inl (cF.of RT.nl),_,rfl,_,_,_,_,_,rfl,R.st,T.ba,kM T,rC _,_,rfl,_,_,_,_,_,rfl,R.st,T.ba,kL T,rB _,_,rfl,_,_,_,_,_,rfl,R.st,T.ba,lC T,sY _,(by show 6<=aG;decide),fun tl TB=>?_⟩;have s1:=aF (o:= .lst [.int 0,.int ((t.now:Nat):Int),.int ((LT.na.map V.ref).length:Nat),.int (dQ S L).asked,.int (dQ S L).hits,.int (dQ S L).begun]) TB;have R1:=R.same s1;refine⟨_,rfl,_,rfl,_,_,_,_,_,rfl,R1.st,T.ba,om T,Eg _,_,rfl,_,_,_,_,_,rfl,R1.st,T.ba,nc T,A4 _,_,rfl,_,_,_,_,_,rfl,R1.st,T.ba,kK T,vN _,_,rfl,_,_,_,_,_,rfl,R1.st,T.ba,oq T,Ej _,_,rfl,_,_,_,_,_,rfl,R1.st,T.ba,oo T,Ei _,(by show 5<=aG;decide),fun l2 uK=>?_⟩;have n12:tl≠l2:=fun e=>by rw[<-e,ae] at uK;cases uK
  refine⟨_,_,_,_,rfl,rfl,(aA n12).trans ae,ae,(by show 6+5<=aG;decide),fun p hp=>?_⟩;have s2:=s1.trans (aF (o:= .lst [.int (dQ S L).room,.int (dQ S L).age,.int (dQ S L).limit,.int (dQ S L).base,.int (dQ S L).most]) uK);have s3:=s2.trans (aF (o:= .lst ([.int 0,.int ((t.now:Nat):Int),.int ((LT.na.map V.ref).length:Nat),.int (dQ S L).asked,.int (dQ S L).hits,.int (dQ S L).begun]++[.int (dQ S L).room,.int (dQ S L).age,.int (dQ S L).limit,.int (dQ S L).base,.int (dQ S L).most])) hp);refine k.keep D s3 (s2.free hp) ?_;rw[ae,ab,RT.tI];rfl
end
open Vbtkaj (inside)
theorem wY{α β:Type}{f:β->α->β}{b:β}{l:List α}{i:Nat}{x:α}(h:l[i]?=some x):(l.take (i+1)).foldl f b=f ((l.take i).foldl f b) x:=by rw[take_snoc h,gy];rfl
section
variable{P:bq}{w:cf}{K:aq}{mg:Str->Option ao}{base:Heap}
def Er:Sp:=fun vs H Q _=>∃(n w:Nat) (ml:Addr) (ts:List Nat),vs=[.int (n:Nat),.int (w:Nat),.ref ml]/\H ml=some (.lst (aV ts))/\ts.length<=200/\
 ∀(H':Hp) (p:Addr),dc H H'->H p=none->H' p=some (.lst (aV (LA n w ts)))->Q (.ref p) H'
theorem wx(T:Tx K mg):cz P w K mg base fY 1 T.o4.f T.o4.fd ["times","span","minutes"] Er:=by
 refine T.o4.F.ok kH (fun vs H Q E h=>?_) (fun dY A outer s H vs Q E hr h=>?_)
 ·obtain⟨n,w,ml,ts,rfl,_⟩:=h;rfl
 ·obtain⟨n,w,ml,ts,rfl,hm,hl,k⟩:=h;refine⟨_,(ai (b8 3 kH.nd (bC ax)) (ai (iM bV rfl (e_ (pv 2)) (NJ (i:=4) kH.nd rfl (Ti rfl)) (ai (EK (i:=6) rfl kH.nd rfl rfl (Ik rfl rfl rfl rfl) (e_ (pv 3)) (jE (N:=["times","span","minutes","through","minute","each","lately"]) (sc:=aN sv) (own:=[("each",5)]) (by decide+kernel)) (fun _ _ _ _ _=>(f7 5 kH.nd)) (fun _ _ _ _ _=>pP (c8 tD (pv 4) (fM j7 (pv 5) (pv 1)))) (fun _ _ _ _ _=>(pv 5))) (aB (cX (c8 tD (eA T.f9 (pv 6)) (pv 0)) (aB (cg (pf (pv 3) (pv 4)))) bI)))) (aB (bf (pv 3))))),?_⟩;refine⟨aT _,fun th Xx=>?_⟩;have s1:=aF (o:= .lst []) Xx;refine⟨_,rfl,_,rfl,⟨_,cF.of (s1 _ _ hm)⟩,gW (xs:=aV ts) (fun i σ H'=>∃v4 v5 v6:Option V,σ=[some (.int (n:Nat)),some (.int (w:Nat)),some (.ref ml),some (.ref th),v4,v5,v6]/\dc H H'/\H' th=some (.lst (aV ((ts.take i).foldl (Gm.gate n w) []))))
   ⟨none,none,none,rfl,s1,ae⟩ (fun i σ H' _ ⟨_,_,_,_,s2,_⟩=>cF.of (show H' ml=_ from s2 _ _ hm)) ?_ ?_⟩
  ·rintro i x σ H1 hx ⟨v4,v5,v6,rfl,s2,h2⟩;obtain⟨t,TC,rfl⟩:=fi hx;have hlen:((ts.take i).foldl (Gm.gate n w) []).length<=200:=by
    have h1:=Gm.PL n w (ts.take i) [];have h3:=bJ i ts;simp at h1;omega
   generalize hg:(ts.take i).foldl (Gm.gate n w) []=g at h2 hlen;refine⟨_,rfl,_,rfl,⟨_,cF.of h2⟩,fun D hD=>?_⟩;refine oB (xs:=aV g) (fun j H'=>H' D=some (.lst (aV ((g.take j).filter fun m=>decide (t<m+w))))/\dc H1 H') ⟨ae,aF hD⟩ (fun j H' _ q=>cF.of (q.2 _ _ h2)) ?_ ?_
   ·rintro j x H2 hx ⟨h3,h4⟩;obtain⟨m,Jx,rfl⟩:=fi hx;refine⟨rfl,_,rfl,_,rfl,_,rfl,_,_,rfl,rfl,_,_,rfl,rfl,_,rfl,?_⟩;by_cases q:t<m+w
    ·rw[decide_eq_true (show(t:Int)<(m:Int)+(w:Int) by omega)];refine c_ ⟨_,rfl,_,h3,?_,?_,fun b o e=>by rw[aA (aE e hD)];exact h4 b o e⟩
     ·rw[ab];exact small (aD (bh _ _) (aD (bJ _ _) (by omega)))
     ·rw[ae,take_snoc Jx,bM,aZ,decide_eq_true q,if_pos rfl,cx,fc]
    ·rw[decide_eq_false (show ¬(t:Int)<(m:Int)+(w:Int) by omega)];refine di ⟨?_,h4⟩;rw[h3,take_snoc Jx,bM,aZ,decide_eq_false q,if_neg aU,cx,cE]
   ·rintro H2 ⟨h3,h4⟩;rw[ab,bL] at h3;have s3:=s2.trans h4;refine⟨_,rfl,_,_,rfl,.inl (cF.of h3),_,rfl,_,_,rfl,rfl,_,rfl,?_⟩;rw[ab];have eg:(ts.take (i+1)).foldl (Gm.gate n w) []=Gm.gate n w g t:=by rw[wY TC,hg]
    have em:mI n w t g=decide (((g.filter fun m=>decide (t<m+w)).length:Int)<(n:Int)):=by
     unfold mI M';exact decide_eq_decide.mpr (by omega)
    rw[<-em];rw[show Gm.gate n w g t=(if mI n w t g=true then g++[t] else g) from rfl] at eg;cases q:mI n w t g with
    |true=>
     rw[q,if_pos rfl] at eg;refine c_ ⟨_,rfl,.inl ⟨rfl,_,cF.of (h4 _ _ h2)⟩,_,rfl,_,_,_,rfl,rfl,h4 _ _ h2,?_,?_⟩
     ·rw[ab];exact small (by omega)
     ·refine⟨_,_,_,rfl,fun b o e=>by rw[aA (aE e Xx)];exact s3 b o e,?_⟩;rw[ae,eg,fc]
    |false=>
     rw[q,if_neg aU] at eg;refine di ⟨_,_,_,rfl,s3,?_⟩;rw[eg];exact h4 _ _ h2
  ·rintro σ H1 ⟨v4,v5,v6,rfl,s2,h2⟩;rw[ab,bL,<-Gm.Fj] at h2;exact⟨_,rfl,k H1 th s2 Xx h2⟩
def r9:Sp:=fun vs H Q _=>∃(r e:Nat) (ml:Addr) (ts:List Nat),vs=[.int (r:Nat),.int (e:Nat),.ref ml]/\H ml=some (.lst (aV ts))/\ts.length<=200/\ts.Pairwise (· <= ·)/\r<=20/\
 ∀(H':Hp) (p:Addr),dc H H'->H p=none->H' p=some (.lst (aV (tY r e ts)))->Q (.ref p) H'
theorem UB{ts:List Nat}(h:ts.Pairwise (· <= ·)){i t:Nat}(hi:ts[i]?=some t){r e:Nat}{s:Gm.Bk}(h0:s.before=0):((ts.take i).foldl (Gm.Di r e) s).before<=t:=by
 cases i with
 |zero=>show s.before<=t;omega
 |succ j=>
  have hj:j<ts.length:=by have:=(aP.mp hi).1;omega
  rw[wY (aS hj),Gm.M3];obtain⟨h1,h2⟩:=aP.mp hi;rw[<-h2];exact sM.mp h j (j+1) hj h1 (jl _)
theorem sx(T:Tx K mg):cz P w K mg base fY 1 T.g0.f T.g0.fd ["room","every","minutes"] r9:=by
 refine T.g0.F.ok dt (fun vs H Q E h=>?_) (fun dY A outer s H vs Q E hr h=>?_)
 ·obtain⟨r,e,ml,ts,rfl,_⟩:=h;rfl
 ·obtain⟨r,e,ml,ts,rfl,hm,hl,hpw,Px,k⟩:=h;refine⟨_,(ai (b8 3 dt.nd (bC ax)) (ai (b8 4 dt.nd (fM Mx (pv 0) (pv 1))) (ai (b8 5 dt.nd a8) (ai (iM bV rfl (e_ (pv 2)) (f7 6 dt.nd) (ai (b8 4 dt.nd (oS (HI rfl) (by rfl) T.Wg boot_min (aa (fM Mx (pv 0) (pv 1)) (aa (fM Mw (fM j7 (pv 4) (pv 6)) (pv 5)) ax)))) (ai (b8 5 dt.nd (pv 6)) (aB (cX (c8 VW (pv 4) (pv 1)) (ai (EM (i:=4) dt.nd rfl (zm rfl) (pv 1) Xu) (aB (cg (pf (pv 3) (pv 6))))) bI))))) (aB (bf (pv 3))))))),?_⟩;refine⟨aT _,fun th Xx=>?_⟩;have s1:=aF (o:= .lst []) Xx;have hrb: -(2^64)<=((r:Nat):Int)/\((r:Nat):Int)<=2^64:=by omega
  refine⟨_,rfl,_,rfl,_,_,rfl,rfl,.inl ⟨by omega,by omega⟩,?_⟩;refine⟨_,rfl,_,rfl,⟨_,cF.of (s1 _ _ hm)⟩,gW (xs:=aV ts) (fun i σ H'=>∃v6:Option V,σ=[some (.int (r:Nat)),some (.int (e:Nat)),some (.ref ml),some (.ref th),some (.int (((ts.take i).foldl (Gm.Di r e) ⟨r*e,0,[]⟩).parts:Nat)),some (.int (((ts.take i).foldl (Gm.Di r e) ⟨r*e,0,[]⟩).before:Nat)),v6]/\dc H H'/\H' th=some (.lst (aV ((ts.take i).foldl (Gm.Di r e) ⟨r*e,0,[]⟩).out)))
   ⟨none,rfl,s1,ae⟩ (fun i σ H' _ ⟨_,_,s2,_⟩=>cF.of (show H' ml=_ from s2 _ _ hm)) ?_ ?_⟩
  ·rintro i x σ H1 hx ⟨v6,rfl,s2,h2⟩;obtain⟨t,TC,rfl⟩:=fi hx;have aeH:=UB hpw TC (r:=r) (e:=e) (s:=⟨r*e,0,[]⟩) rfl;have hlen:((ts.take i).foldl (Gm.Di r e) ⟨r*e,0,[]⟩).out.length<=200:=by
    have h1:=Gm.xp r e (ts.take i) ⟨r*e,0,[]⟩;have h3:=bJ i ts;have h1:((ts.take i).foldl (Gm.Di r e) ⟨r*e,0,[]⟩).out.length<=0+(ts.take i).length:=h1;omega
   generalize hg:(ts.take i).foldl (Gm.Di r e) ⟨r*e,0,[]⟩=g at h2 hlen aeH;have eg:(ts.take (i+1)).foldl (Gm.Di r e) ⟨r*e,0,[]⟩=Gm.Di r e g t:=by rw[wY TC,hg]
   refine⟨_,rfl,_,rfl,_,_,rfl,rfl,.inl ⟨by omega,by omega⟩,_,rfl,_,rfl,_,_,rfl,rfl,_,rfl,_,_,rfl,rfl,_,_,rfl,?_⟩;have em:(if((g.parts:Nat):Int)+((t:Nat):Int) -((g.before:Nat):Int)<((r:Nat):Int)*((e:Nat):Int) then((g.parts:Nat):Int)+((t:Nat):Int) -((g.before:Nat):Int) else((r:Nat):Int)*((e:Nat):Int))=((min (r*e) (g.parts+(t -g.before)):Nat):Int):=by
    have:((r:Nat):Int)*((e:Nat):Int)=((r*e:Nat):Int):=(Int.natCast_mul r e).symm;rw[this];by_cases q:g.parts+(t -g.before)<r*e
    ·rw[if_pos (by omega),lF (by omega)];omega
    ·rw[if_neg (by omega),gB (by omega)]
   rw[em];generalize hp:min (r*e) (g.parts+(t -g.before))=p;refine⟨_,rfl,_,rfl,_,rfl,_,_,rfl,rfl,_,rfl,?_⟩;rw[show Gm.Di r e g t=(if e<=min (r*e) (g.parts+(t -g.before)) then⟨min (r*e) (g.parts+(t -g.before)) -e,t,g.out++[t]⟩ else⟨min (r*e) (g.parts+(t -g.before)),t,g.out⟩) from rfl,hp] at eg;by_cases q:e<=p
   ·rw[if_pos q] at eg;rw[decide_eq_true (show((p:Nat):Int)≥((e:Nat):Int) by omega)];refine c_ ⟨_,rfl,_,rfl,_,_,rfl,rfl,?_⟩;refine⟨_,rfl,.inl ⟨rfl,_,cF.of h2⟩,_,rfl,_,_,_,rfl,rfl,h2,?_,?_⟩
    ·rw[ab];exact small (by omega)
    ·refine⟨some (.int (t:Nat)),?_,fun b o e=>by rw[aA (aE e Xx)];exact s2 b o e,?_⟩
     ·rw[eg];have e3:((p:Nat):Int) -((e:Nat):Int)=((p -e:Nat):Int):=by omega
      show[some (V.int (r:Nat)),some (V.int (e:Nat)),some (V.ref ml),some (V.ref th),some (V.int (((p:Nat):Int) -((e:Nat):Int))),some (V.int (t:Nat)),some (V.int (t:Nat))]=_;rw[e3]
     ·rw[ae,eg,fc]
   ·rw[if_neg q] at eg;rw[decide_eq_false (show ¬((p:Nat):Int)≥((e:Nat):Int) by omega)];refine di ⟨some (.int (t:Nat)),?_,s2,?_⟩
    ·rw[eg];rfl
    ·rw[eg];exact h2
  ·rintro σ H1 ⟨v6,rfl,s2,h2⟩;rw[ab,bL,<-Gm.uH] at h2;exact⟨_,rfl,k H1 th s2 Xx h2⟩
def vR:Sp:=fun vs H Q _=>∃(n w t:Nat) (ml:Addr) (ts:List Nat),vs=[.int (n:Nat),.int (w:Nat),.int (t:Nat),.ref ml]/\H ml=some (.lst (aV ts))/\ts.Pairwise (· <= ·)/\(∀x∈ts,x<=t)/\
 Q (.int (match iG n w t ts with|none=>-1|some x=>(x:Nat))) H
theorem wy(T:Tx K mg):cz P w K mg base fY 1 T.j'.f T.j'.fd ["times","span","least","minutes"] vR:=by
 refine T.j'.F.ok vY (fun vs H Q E h=>?_) (fun dY A outer s H vs Q E hr h=>?_)
 ·obtain⟨n,w,t,ml,ts,rfl,_⟩:=h;rfl
 ·obtain⟨n,w,t,ml,ts,rfl,hm,hpw,hle,k⟩:=h;refine⟨_,(ai (cX (c8 mY (pv 0) a8) (aB (bf (Hq A2 a8))) bI) (ai (cX (c8 tD (eA T.f9 (pv 3)) (pv 0)) (aB (bf (pv 2))) bI) (aB (bf (oS (P4 rfl) (by rfl) T.SX boot_max (aa (pv 2) (aa (fM j7 (cR (pv 3) (fM Mw (eA T.f9 (pv 3)) (pv 0))) (pv 1)) ax))))))),?_⟩;refine⟨_,rfl,rfl,_,rfl,?_⟩;rw[eY];by_cases h0:n=0
  ·rw[decide_eq_true (show((n:Nat):Int)=0 by omega)];have e:iG n w t ts=none:=by unfold iG;rw[if_pos h0]
   rw[e] at k;exact c_ ⟨_,rfl,k⟩
  ·rw[decide_eq_false (show ¬((n:Nat):Int)=0 by omega)];have e:=Gm.UR (n:=n) (w:=w) (now:=t) (l:=ts) (by omega) hpw hle;rw[e] at k;refine di ⟨_,rfl,_,_,rfl,.inl (cF.of hm),_,rfl,_,_,rfl,rfl,_,rfl,?_⟩;rw[ab];by_cases h1:ts.length<n
   ·rw[if_pos h1] at k;rw[decide_eq_true (show((ts.length:Nat):Int)<((n:Nat):Int) by omega)];exact c_ ⟨_,rfl,k⟩
   ·rw[if_neg h1] at k;rw[decide_eq_false (show ¬((ts.length:Nat):Int)<((n:Nat):Int) by omega)];have hj:ts.length -n<ts.length:=by omega
    have hx:(aV ts)[ts.length -n]?=some (.int ((ts[ts.length -n]:Nat):Int)):=Bq (aS hj);refine di ⟨_,rfl,_,rfl,_,rfl,_,_,rfl,.inl (cF.of hm),_,rfl,_,_,rfl,rfl,ml,aV ts,_,_,rfl,rfl,cF.of hm,at_of (j:=ts.length -n) (by rw[ab];omega) hx,_,rfl,_,_,rfl,rfl,_,_,rfl,?_⟩;have eg:ts.getD (ts.length -n) 0=ts[ts.length -n]:=by rw[bo,aS hj,lx]
    rw[eg] at k;have em:(if((ts[ts.length -n]:Nat):Int)+((w:Nat):Int)>((t:Nat):Int) then((ts[ts.length -n]:Nat):Int)+((w:Nat):Int) else((t:Nat):Int))=((max t (ts[ts.length -n]+w):Nat):Int):=by
     by_cases q:ts[ts.length -n]+w>t
     ·rw[if_pos (by omega),TU (by omega)];omega
     ·rw[if_neg (by omega),VJ (by omega)]
    rw[em];exact k
def xA:Sp:=fun vs H Q _=>∃(n w:Nat) (ml:Addr) (ts:List Nat),vs=[.int (n:Nat),.int (w:Nat),.ref ml]/\H ml=some (.lst (aV ts))/\ts.length<=200/\ts.Pairwise (· <= ·)/\0<w/\∀H',dc H H'->Q (.int (xW n w ts:Nat)) H'
theorem xJ(T:Tx K mg):cz P w K mg base fY 2 T.k9.f T.k9.fd ["times","span","minutes"] xA:=by
 refine T.k9.F.ok xG (fun vs H Q E h=>?_) (fun dY A outer s H vs Q E hr h=>?_)
 ·obtain⟨n,w,ml,ts,rfl,_⟩:=h;rfl
 ·obtain⟨n,w,ml,ts,rfl,hm,hl,hpw,hw,k⟩:=h;refine⟨_,(aB (bf (eA T.f9 (dm T.o4 (wx T) hr (aa (pv 0) (aa (pv 1) (aa (pv 2) ax))))))),?_⟩;refine⟨_,rfl,_,rfl,_,rfl,n,w,ml,ts,rfl,hm,hl,fun H1 p s1 hp h1=>⟨_,_,rfl,.inl (cF.of h1),?_⟩⟩;rw[ab,<-Gm.UT hw hpw];exact k H1 s1
theorem bne_not(a b:Nat):(a !=b)=!(a==b):=rfl
def s_:Sp:=fun vs H Q _=>∃(hl:Addr) (key:Nat) (l:List Nat),vs=[.ref hl,.int (key:Nat)]/\H hl=some (.lst (aV l))/\l.length<=200/\
 ∀(H':Hp) (p:Addr),dc H H'->H p=none->H' p=some (.lst (aV (Rm.front l key)))->Q (.ref p) H'
theorem nY(T:Tx K mg):cz P w K mg base fY 1 T.jK.f T.jK.fd ["held","key"] s_:=by
 refine T.jK.F.ok nS (fun vs H Q E h=>?_) (fun dY A outer s H vs Q E hr h=>?_)
 ·obtain⟨hl,key,l,rfl,_⟩:=h;rfl
 ·obtain⟨hl,key,l,rfl,hh,hlen,k⟩:=h;refine⟨_,(aB (bf (fM mZ (bC (aa (pv 1) ax)) (z0 rfl nS.nd (e_ (pv 0)) (jE (N:=["held","key","each"]) (sc:=aN o_) (own:=[("each",2)]) (by decide+kernel)) (fun _ _ _ _ _=>(f7 2 nS.nd)) (fun _ _ _ _ _=>pP (c8 KA (pv 2) (pv 1))) (fun _ _ _ _ _=>(pv 2)))))),?_⟩;refine⟨_,rfl,(by show 1<=aG;decide),fun l1 xT=>?_⟩;have s1:=aF (o:= .lst [.int (key:Nat)]) xT;refine⟨_,rfl,_,rfl,⟨_,cF.of (s1 _ _ hh)⟩,fun D hD=>?_⟩;refine oB (xs:=aV l) (fun j H'=>H' D=some (.lst (aV ((l.take j).filter fun m=>m !=key)))/\dc (upd H l1 (.lst [.int (key:Nat)])) H') ⟨ae,aF hD⟩ (fun j H' _ q=>cF.of (q.2 _ _ (s1 _ _ hh))) ?_ ?_
  ·rintro j x H2 hx ⟨h3,h4⟩;obtain⟨m,Jx,rfl⟩:=fi hx;refine⟨rfl,_,rfl,_,rfl,rfl,_,rfl,?_⟩;rw[eY,kR,take_snoc Jx,bM,aZ,bne_not];cases q:m==key with
   |false=>
    refine c_ ⟨_,rfl,_,h3,?_,?_,fun b o e=>by rw[aA (aE e hD)];exact h4 b o e⟩
    ·rw[ab];exact small (aD (bh _ _) (aD (bJ _ _) (by omega)))
    ·rw[ae,if_pos (show(!false)=true from rfl),cx,fc]
   |true=>
    refine di ⟨?_,h4⟩;rw[h3,if_neg (by decide),cx,cE]
  ·rintro H2 ⟨h3,h4⟩;rw[ab,bL] at h3;refine⟨_,_,_,_,rfl,rfl,h4 _ _ ae,h3,?_,fun p hp=>?_⟩
   ·rw[ab];exact cK (small (by have:=bh (fun m=>m !=key) l;show 1+_<=_;omega))
   have s5:=h4.trans (aF (o:= .lst ([.int (key:Nat)]++aV (l.filter fun m=>m !=key))) hp);exact k _ p (s1.trans s5) (s1.free (h4.free hp)) (by rw[ae];rfl)
theorem r6(room:Nat)(l:List Nat)(k:Nat):f_ room l k=(Rm.front l k).take room:=rfl
theorem Fn(room:Nat)(l:List Nat)(k:Nat):(f_ room l k).length<=room:=gG _ _
theorem uF(l:List Nat)(n:Nat):(aV l).take n=aV (l.take n):=(t7).symm
theorem sI(room:Nat):∀(ks l:List Nat),l.length<=room->(ks.foldl (f_ room) l).length<=room
 |[],l,h=>h
 |k::ks,l,_=>sI room ks _ (Fn room l k)
def xB:Sp:=fun vs H Q _=>∃(room:Nat) (kl:Addr) (ks:List Nat),vs=[.int (room:Nat),.ref kl]/\H kl=some (.lst (aV ks))/\room<=20/\
 ∀(H':Hp) (p:Addr),dc H H'->H p=none->H' p=some (.lst (aV (zg room ks)))->Q (.ref p) H'
theorem xK(T:Tx K mg):cz P w K mg base fY 2 T.k_.f T.k_.fd ["room","keys"] xB:=by
 refine T.k_.F.ok iY (fun vs H Q E h=>?_) (fun dY A outer s H vs Q E hr h=>?_)
 ·obtain⟨room,kl,ks,rfl,_⟩:=h;rfl
 ·obtain⟨room,kl,ks,rfl,hk,HE,k⟩:=h;refine⟨_,(ai (b8 2 iY.nd (bC ax)) (ai (iM bV rfl (e_ (pv 1)) (f7 3 iY.nd) (aB (b8 2 iY.nd (lN oh (dm T.jK (nY T) hr (aa (pv 2) (aa (pv 3) ax))) uv (k6 (pv 0)))))) (aB (bf (pv 2))))),?_⟩;refine⟨aT _,fun h0 V'=>?_⟩;have s1:=aF (o:= .lst []) V';refine⟨_,rfl,_,rfl,⟨_,cF.of (s1 _ _ hk)⟩,gW (xs:=aV ks) (fun i σ H'=>∃(hd:Addr) (v:Option V),σ=[some (.int (room:Nat)),some (.ref kl),some (.ref hd),v]/\dc H H'/\H hd=none/\H' hd=some (.lst (aV ((ks.take i).foldl (f_ room) []))))
   ⟨h0,none,rfl,s1,V',ae⟩ (fun i σ H' _ ⟨_,_,_,s2,_⟩=>cF.of (show H' kl=_ from s2 _ _ hk)) ?_ ?_⟩
  ·rintro i x σ H1 hx ⟨hd,v,rfl,s2,YR,h2⟩;obtain⟨key,MN,rfl⟩:=fi hx;have hlen:=sI room (ks.take i) [] (aT _);refine⟨_,rfl,_,rfl,hd,key,_,rfl,h2,(by omega),fun H2 p2 s3 N1 h3=>⟨_,rfl,_,rfl,_,_,rfl,cF.of h3,fun D hD=>?_⟩⟩;rw[FQ,uF,<-r6];have s4:=s3.trans (aF (o:= .lst (aV (f_ room ((ks.take i).foldl (f_ room) []) key))) hD);refine⟨D,_,rfl,s2.trans s4,s2.free (s3.free hD),?_⟩;rw[ae,wY MN]
  ·rintro σ H1 ⟨hd,v,rfl,s2,YR,h2⟩;rw[ab,bL] at h2;exact⟨_,rfl,k H1 hd s2 YR h2⟩
def vh:Sp:=fun vs H Q _=>∃(room:Nat) (kl:Addr) (ks:List Nat),vs=[.int (room:Nat),.ref kl]/\H kl=some (.lst (aV ks))/\room<=20/\
 ∀(H':Hp),dc H H'->Q (.int (kn room [] ks:Nat)) H'
theorem vn(T:Tx K mg):cz P w K mg base fY 2 T.js.f T.js.fd ["room","keys"] vh:=by
 refine T.js.F.ok eP (fun vs H Q E h=>?_) (fun dY A outer s H vs Q E hr h=>?_)
 ·obtain⟨room,kl,ks,rfl,_⟩:=h;rfl
 ·obtain⟨room,kl,ks,rfl,hk,HE,k⟩:=h;refine⟨_,(ai (b8 2 eP.nd (bC ax)) (ai (b8 3 eP.nd a8) (ai (iM bV rfl (e_ (pv 1)) (f7 4 eP.nd) (ai (cX (w8 Ac (pv 4) (pv 2) (by with_unfolding_all rfl)) (aB (EM (i:=3) eP.nd rfl (zm rfl) a8 Ju)) bI) (aB (b8 2 eP.nd (lN oh (dm T.jK (nY T) hr (aa (pv 2) (aa (pv 4) ax))) uv (k6 (pv 0))))))) (aB (bf (pv 3)))))),?_⟩;refine⟨aT _,fun h0 V'=>?_⟩;have s1:=aF (o:= .lst []) V';refine⟨_,rfl,_,rfl,⟨_,cF.of (s1 _ _ hk)⟩,gW (xs:=aV ks) (fun i σ H'=>∃(hd:Addr) (l:List Nat) (m:Nat) (v:Option V),σ=[some (.int (room:Nat)),some (.ref kl),some (.ref hd),some (.int (m:Nat)),v]/\dc H H'/\H' hd=some (.lst (aV l))/\l.length<=room/\m+kn room l (ks.drop i)=kn room [] ks)
   ⟨h0,[],0,none,rfl,s1,ae,aT _,by rw[lE];rfl⟩ (fun i σ H' _ ⟨_,_,_,_,_,s2,_⟩=>cF.of (show H' kl=_ from s2 _ _ hk)) ?_ ?_⟩
  ·rintro i x σ H1 hx ⟨hd,l,m,v,rfl,s2,h2,hl,hm⟩;obtain⟨key,MN,rfl⟩:=fi hx;rw[Rm.C6 MN] at hm;refine⟨_,rfl,_,rfl,_,_,rfl,.inl (cF.of h2),rfl,n6 _,_,rfl,?_⟩;show if(!U3 (.int (key:Nat)) (aV l))=true then _ else _
   rw[tM];cases q:l.contains key with
   |true=>
    rw[q,if_pos rfl,lE] at hm;refine di ⟨_,rfl,_,rfl,hd,key,l,rfl,h2,(by omega),fun H2 p2 s3 N1 h3=>⟨_,rfl,_,rfl,_,_,rfl,cF.of h3,fun D hD=>?_⟩⟩;rw[FQ,uF,<-r6];have s4:=s3.trans (aF (o:= .lst (aV (f_ room l key))) hD);exact⟨D,_,m,_,rfl,s2.trans s4,ae,Fn room l key,hm⟩
   |false=>
    rw[q,if_neg aU] at hm;refine c_ ⟨_,rfl,_,_,rfl,rfl,?_⟩;refine⟨_,rfl,_,rfl,hd,key,l,rfl,h2,(by omega),fun H2 p2 s3 N1 h3=>⟨_,rfl,_,rfl,_,_,rfl,cF.of h3,fun D hD=>?_⟩⟩;rw[FQ,uF,<-r6];have s4:=s3.trans (aF (o:= .lst (aV (f_ room l key))) hD);exact⟨D,_,m+1,_,rfl,s2.trans s4,ae,Fn room l key,by omega⟩
  ·rintro σ H1 ⟨hd,l,m,v,rfl,s2,h2,hl,hm⟩;rw[ab,o6] at hm;have hm:m=kn room [] ks:=hm;rw[<-hm] at k;exact⟨_,rfl,k H1 s2⟩
def zG:Sp:=fun vs H Q _=>∃(room:Nat) (kl:Addr) (ks:List Nat),vs=[.int (room:Nat),.ref kl]/\H kl=some (.lst (aV ks))/\room<=20/\
 ∀(H':Hp),dc H H'->Q (.int (ir room [] ks:Nat)) H'
theorem Ad(T:Tx K mg):cz P w K mg base fY 1 T.ni.f T.ni.fd ["room","keys"] zG:=by
 refine T.ni.F.ok gr (fun vs H Q E h=>?_) (fun dY A outer s H vs Q E hr h=>?_)
 ·obtain⟨room,kl,ks,rfl,_⟩:=h;rfl
 ·obtain⟨room,kl,ks,rfl,hk,HE,k⟩:=h;refine⟨_,(ai (b8 2 gr.nd (bC ax)) (ai (b8 3 gr.nd a8) (ai (iM bV rfl (e_ (pv 1)) (f7 4 gr.nd) (aB (cX (w8 Ac (pv 4) (pv 2) (by with_unfolding_all rfl)) (ai (EM (i:=3) gr.nd rfl (zm rfl) a8 Ju) (aB (b8 2 gr.nd (lN oh (fM mZ (bC (aa (pv 4) ax)) (pv 2)) uv (k6 (pv 0)))))) bI))) (aB (bf (pv 3)))))),?_⟩;refine⟨aT _,fun h0 V'=>?_⟩;have s1:=aF (o:= .lst []) V';refine⟨_,rfl,_,rfl,⟨_,cF.of (s1 _ _ hk)⟩,gW (xs:=aV ks) (fun i σ H'=>∃(hd:Addr) (l:List Nat) (m:Nat) (v:Option V),σ=[some (.int (room:Nat)),some (.ref kl),some (.ref hd),some (.int (m:Nat)),v]/\dc H H'/\H' hd=some (.lst (aV l))/\l.length<=room/\m+ir room l (ks.drop i)=ir room [] ks)
   ⟨h0,[],0,none,rfl,s1,ae,aT _,by rw[lE];rfl⟩ (fun i σ H' _ ⟨_,_,_,_,_,s2,_⟩=>cF.of (show H' kl=_ from s2 _ _ hk)) ?_ ?_⟩
  ·rintro i x σ H1 hx ⟨hd,l,m,v,rfl,s2,h2,hl,hm⟩;obtain⟨key,MN,rfl⟩:=fi hx;rw[Rm.C5 MN] at hm;refine⟨_,rfl,_,rfl,_,_,rfl,.inl (cF.of h2),rfl,n6 _,_,rfl,?_⟩;show if(!U3 (.int (key:Nat)) (aV l))=true then _ else _
   rw[tM];unfold Vbtkaj.useTurn at hm;cases q:l.contains key with
   |true=>
    rw[q,if_pos rfl,if_pos rfl,lE] at hm;exact di ⟨hd,l,m,_,rfl,s2,h2,hl,hm⟩
   |false=>
    rw[q,if_neg aU,if_neg aU] at hm;refine c_ ⟨_,rfl,_,_,rfl,rfl,?_⟩;refine⟨_,rfl,(by show 1<=aG;decide),fun l1 xT=>?_⟩;have s3:=aF (o:= .lst [.int (key:Nat)]) xT;refine⟨_,rfl,_,_,_,_,rfl,rfl,ae,s3 _ _ h2,?_,fun l2 uK=>?_⟩
    ·rw[ab];exact cK (small (by show 1+l.length<=_;omega))
    have s4:=s3.trans (aF (o:= .lst ([.int (key:Nat)]++aV l)) uK);refine⟨_,rfl,_,rfl,_,_,rfl,cF.of ae,fun D hD=>?_⟩;have e:wO ([V.int (key:Nat)]++aV l) none (some ((room:Nat):Int))=aV ((key::l).take room):=by rw[FQ,<-uF];rfl
    rw[e];have s5:=s4.trans (aF (o:= .lst (aV ((key::l).take room))) hD);exact⟨D,_,m+1,_,rfl,s2.trans s5,ae,gG _ _,by omega⟩
  ·rintro σ H1 ⟨hd,l,m,v,rfl,s2,h2,hl,hm⟩;rw[ab,o6] at hm;have hm:m=ir room [] ks:=hm;rw[<-hm] at k;exact⟨_,rfl,k H1 s2⟩
def Iq:Sp:=fun vs H Q _=>∃(kl:Addr) (ks:List Nat),vs=[.ref kl]/\H kl=some (.lst (aV ks))/\ks.length<=190/\
 ∀(H':Hp) (p:Addr),dc H H'->H p=none->H' p=some (.lst (bO ((jx [] ks).map iq)))->Q (.ref p) H'
theorem N9(a b:Nat):PX (.int (a:Nat)) (.int (b:Nat))=(a==b):=by
 show decide _=_;exact kR a b
theorem Je(T:Tx K mg):cz P w K mg base fY 2 T.xj.f T.xj.fd ["keys"] Iq:=by
 refine T.xj.F.ok mT (fun vs H Q E h=>?_) (fun dY A outer s H vs Q E hr h=>?_)
 ·obtain⟨kl,ks,rfl,_⟩:=h;rfl
 ·obtain⟨kl,ks,rfl,hk,K2,k⟩:=h;refine⟨_,(ai (b8 1 mT.nd (bC ax)) (ai (b8 2 mT.nd (bC ax)) (ai (iM bV rfl (e_ (pv 0)) (f7 3 mT.nd) (ai (cg (pf (pv 2) (ES (w8 Bl (pv 3) (pv 1) (by with_unfolding_all rfl)) (qx bT G' PySem.F.type_list_index RB (pv 1) (aa (pv 3) ax)) (Hq A2 a8)))) (aB (b8 1 mT.nd (dm T.jK (nY T) hr (aa (pv 1) (aa (pv 3) ax))))))) (aB (bf (pv 2)))))),?_⟩;refine⟨aT _,fun h0 V'=>⟨aT _,fun d0 hd0=>?_⟩⟩;have s1:=(aF (o:= .lst []) V').trans (aF (o:= .lst []) hd0);obtain⟨n0,aaO⟩:=eE hd0;refine⟨_,rfl,_,rfl,⟨_,cF.of (s1 _ _ hk)⟩,gW (xs:=aV ks) (fun i σ H'=>∃(hd:Addr) (l:List Nat) (pre:List Int) (v:Option V),σ=[some (.ref kl),some (.ref hd),some (.ref d0),v]/\dc H H'/\H' hd=some (.lst (aV l))/\l.length<=i/\hd≠d0/\H' d0=some (.lst (bO pre))/\pre.length=i/\pre++(jx l (ks.drop i)).map iq=(jx [] ks).map iq)
   ⟨h0,[],[],none,rfl,s1,by rw[aA n0.symm,ae];rfl,aL _,n0.symm,by rw[ae];rfl,rfl,rfl⟩ (fun i σ H' _ ⟨_,_,_,_,_,s2,_⟩=>cF.of (show H' kl=_ from s2 _ _ hk)) ?_ ?_⟩
  ·rintro i x σ H1 hx ⟨hd,l,pre,v,rfl,s2,h2,hl,nd,hp,jD,hm⟩;obtain⟨key,MN,rfl⟩:=fi hx;have hik:=(aP.mp MN).1;rw[Rm.Lh MN,bE] at hm;have fin:∀(dz:Int),iq (if l.contains key=true then some (l.findIdx fun x=>x==key) else none)=dz->
     Ny s_ [] E0 (lH (r8 1) (lH (r8 3) ve)) [some (.ref kl),some (.ref hd),some (.ref d0),some (.int (key:Nat))] (upd H1 d0 (.lst (bO pre++[.int dz]))) (fun x H2=>∃(hd:Addr) (l:List Nat) (pre:List Int) (v:Option V),[some (.ref kl),some x,some (.ref d0),some (.int (key:Nat))]=[some (.ref kl),some (.ref hd),some (.ref d0),v]/\dc H H2/\H2 hd=some (.lst (aV l))/\l.length<=i+1/\hd≠d0/\H2 d0=some (.lst (bO pre))/\pre.length=i+1/\pre++(jx l (ks.drop (i+1))).map iq=(jx [] ks).map iq):=by
    intro dz hdz;have h2':upd H1 d0 (.lst (bO pre++[.int dz])) hd=some (.lst (aV l)):=by rw[aA nd];exact h2
    refine⟨_,rfl,_,rfl,hd,key,l,rfl,h2',(by omega),fun H2 p2 s3 N1 h3=>?_⟩;have hd2:H2 d0=some (.lst (bO (pre++[dz]))):=by rw[s3 _ _ ae,show bO (pre++[dz])=bO pre++[.int dz] from cb]
    refine⟨p2,_,pre++[dz],_,rfl,fun b o e=>s3 b o (by rw[aA (aE e aaO)];exact s2 b o e),h3,aD (Rm.xh l key) (by omega),fun e=>?_,hd2,by rw[aJ,jD];rfl,?_⟩
    ·rw[e,ae] at N1;cases N1
    ·rw[<-hm,iT,hdz];rfl
   refine⟨_,rfl,.inl ⟨rfl,_,cF.of hp⟩,_,rfl,_,rfl,_,_,rfl,.inl (cF.of h2),rfl,n6 _,_,rfl,?_⟩;show if U3 (.int (key:Nat)) (aV l)=true then _ else _
   rw[tM];cases q:l.contains key with
   |true=>
    have qX:∃x∈l,(x==key)=true:=⟨key,by simpa using q,by simp⟩;have hj:l.findIdx (fun x=>x==key)<l.length:=List.findIdx_lt_length.mpr qX;have hz:=List.findIdx_getElem (p:=fun x=>x==key) (w:=hj);refine c_ ⟨_,rfl,.inl ⟨rfl,_,cF.of h2⟩,_,rfl,hd,aV l,.int (key:Nat),l.findIdx (fun x=>x==key),_,rfl,rfl,cF.of h2,rfl,n6 _,Bq (aS hj),(by rw[N9];exact hz),fun m z' Jx hz'=>?_,_,_,_,rfl,rfl,hp,?_,?_⟩
    ·obtain⟨y,hy,rfl⟩:=fi hz';rw[N9];have:=LI Jx;obtain⟨hy1,hy2⟩:=aP.mp hy;rw[<-hy2]
     simpa using this
    ·rw[ab];exact small (by omega)
    ·exact fin _ (by rw[q];rfl)
   |false=>
    refine di ⟨_,rfl,_,_,_,rfl,rfl,hp,?_,?_⟩
    ·rw[ab];exact small (by omega)
    ·exact fin (-1) (by rw[q];rfl)
  ·rintro σ H1 ⟨hd,l,pre,v,rfl,s2,h2,hl,nd,hp,jD,hm⟩;rw[ab,o6] at hm;have hm:pre++[]=_:=hm;rw[cE] at hm;rw[<-hm] at k;exact⟨_,rfl,k H1 d0 s2 aaO hp⟩
theorem Ri(kvs:List (Key×V))(k:Key)(v:V):(putK kvs k v).length<=kvs.length+1:=by
 unfold putK;split
 ·rw[ab];exact fT _
 ·rw[aJ];exact aL _
theorem Xm{K:aq}{a b:Addr}{xs ys:List V}{n:Nat}{g:TG}{tt:TT}{te:TE}{vs:List Nat}{σ:L2.St}{H1:Hp}{D:Addr}{Qd:Hp->Prop}(Pv:Nat->Hp->Prop)(h0:Pv 0 (upd H1 D (.lst [])))(hl:∀i H,i<=n->Pv i H->cF K H a xs/\cF K H b ys)(hn:n=min xs.length ys.length)
  (hs:∀(i:Nat) x y H Tp,xs[i]?=some x->ys[i]?=some y->Pv i H->H Tp=none->g (.ref Tp) (wipe σ vs) (upd H Tp (.tup [x,y])) fun σ2 H2=>wipe σ2 vs=wipe σ vs/\tt σ2 H2 fun b H3=>
   if b=true then te σ2 H3 fun y H4=>∃acc,H4 D=some (.lst acc)/\acc.length<aG/\Pv (i+1) (upd H4 D (.lst (acc++[y]))) else Pv (i+1) H3)(hd:∀H,Pv n H->Qd H):
  ∃W:Nat->Nat->Hp->Prop,(∃m,W 0 m (upd H1 D (.lst [])))/\∀i m H,W i m H->
   ((Wj K a b).stop i H/\Qd H)\/((Wj K a b).go i H/\∃Nx:Hp->Prop,(∀H',Nx H'->∃m',m'<m/\W (i+1) m' H')/\∀x H',(Wj K a b).QI i H x H'->g x (wipe σ vs) H' fun σ2 H2=>wipe σ2 vs=wipe σ vs/\tt σ2 H2 fun b H3=>
    if b=true then te σ2 H3 fun y H4=>∃acc,H4 D=some (.lst acc)/\acc.length<aG/\Nx (upd H4 D (.lst (acc++[y]))) else Nx H3):=by
 refine⟨fun i m H=>m=n -i/\i<=n/\Pv i H,⟨n,rfl,aT _,h0⟩,?_⟩;rintro i m H ⟨rfl,hi,p⟩;obtain⟨q1,q2⟩:=hl i H hi p;by_cases z:i<n
 ·have z1:i<xs.length:=by omega
  have z2:i<ys.length:=by omega
  refine .inr ⟨⟨xs,ys,xs[i],ys[i],q1,q2,aS z1,aS z2⟩,Pv (i+1),fun H' p'=>⟨n -(i+1),by omega,rfl,z,p'⟩,?_⟩;rintro v H' ⟨Tp,x,y,rfl,hT,rfl,hx,hy⟩;exact hs i x y H Tp (hx xs q1) (hy ys q2) p hT
 ·have e:i=n:=by omega
  subst e;exact .inl ⟨⟨xs,ys,q1,q2,by omega⟩,hd H p⟩
theorem WE{σ:L2.St}{H:Hp}{A B:Hp->Prop}(h:A H):ZC σ H fun b H3=>if b=true then A H3 else B H3:=c_ (A:=A H) (B:=B H) h
def placesOf(ks:List Nat)(t:Nat):List Nat:=((dg ks.length).drop (ks.length -t)).map (Rm.again ks)
def vg:Sp:=fun vs H Q _=>∃(kl:Addr) (ks:List Nat),vs=[.ref kl]/\H kl=some (.lst (aV ks))/\ks.length<=200/\
 ∀(H':Hp) (p:Addr),dc H H'->H p=none->H' p=some (.lst (aV ((dg ks.length).map (Rm.again ks))))->Q (.ref p) H'
theorem vm(T:Tx K mg):cz P w K mg base fY 1 T.jo.f T.jo.fd ["keys"] vg:=by
 refine T.jo.F.ok gZ (fun vs H Q E h=>?_) (fun dY A outer s H vs Q E hr h=>?_)
 ·obtain⟨kl,ks,rfl,_⟩:=h;rfl
 ·obtain⟨kl,ks,rfl,hk,K2,k⟩:=h;have hu:=Fu hr;refine⟨_,(ai (b8 1 gZ.nd z_) (ai (b8 2 gZ.nd (bC ax)) (ai (iM bV rfl (O5 rfl T.Oj (aa (fM Mw (eA T.f9 (pv 0)) a8) (aa (Hq A2 a8) (aa (Hq A2 a8) ax)))) (f7 3 gZ.nd) (ai (cg (qx bT vc Gh Hz (pv 2) (aa a8 (aa (ET hu (pv 1) (cR (pv 0) (pv 3)) (eA T.f9 (pv 0)) ⟨rfl,rfl,rfl,rfl⟩) ax)))) (aB (uu hu (pv 1) (cR (pv 0) (pv 3)) (pv 3) rfl)))) (aB (bf (pv 2)))))),?_⟩;refine fun la hla=>⟨aT _,fun pl jD=>?_⟩;obtain⟨nlp,U7⟩:=eE jD;have s1:=(aF (o:= .dK []) hla).trans (aF (o:= .lst []) jD);refine⟨_,rfl,_,_,rfl,.inl (cF.of (s1 _ _ hk)),_,_,rfl,rfl,_,rfl,_,rfl,_,_,_,ks.length,rfl,?_,?_⟩
  ·rw[ab];have e:(((ks.length:Nat):Int) -1 -(-1)).toNat=ks.length:=by omega
   have:=RgC.neg (i:=((ks.length:Nat):Int) -1) (j:= -1) (by omega) (by omega) (by omega) (by omega);rw[e] at this;exact this
  rw[ab];refine MR (fun t σ H'=>∃(kvs:List (Key×V)) (v:Option V),σ=[some (.ref kl),some (.ref la),some (.ref pl),v]/\dc H H'/\H' la=some (.dK kvs)/\kvs.length<=t/\(∀j:Nat,(iL kvs (aH (j:Int))).getD (.int (ks.length:Nat))= .int (((ks.length -t)+dD (ks.drop (ks.length -t)) j:Nat):Int))/\H' pl=some (.lst (aV (placesOf ks t))))
   ⟨[],none,rfl,s1,by rw[aA nlp.symm,ae],aL _,fun j=>?_,?_⟩ ?_ ?_
  ·rw[Mc,o6];rfl
  ·rw[ae];unfold placesOf;rw[Mc,nG (by rw[dU];exact aL _)];rfl
  ·rintro i σ H1 hi ⟨kvs,v,rfl,s2,hd,hkv,y9,hp⟩;have hq:ks.length -(i+1)<ks.length:=by omega
   have hq1:ks.length -i=(ks.length -(i+1))+1:=by omega
   generalize hqq:ks.length -(i+1)=q at hq hq1;have hkq:ks[q]?=some ks[q]:=aS hq;have hx:(aV ks)[q]?=some (.int ((ks[q]:Nat):Int)):=Bq hkq;have ei:((ks.length:Nat):Int) -1+((i:Nat):Int)*(-1)=((q:Nat):Int):=by omega
   have hk1:=s2 _ _ hk;have hg:=y9 ks[q];rw[hq1,<-Rm.Lw hkq] at hg;refine⟨_,rfl,.inl ⟨rfl,_,cF.of hp⟩,_,rfl,_,rfl,.inl ⟨kvs,.inl hd⟩,_,rfl,_,rfl,kl,aV ks,_,_,rfl,rfl,cF.of hk1,at_of (j:=q) ei hx,_,rfl,_,_,rfl,.inl (cF.of hk1),_,G8.k (k:=aH ((ks[q]:Nat):Int)) hd,pl,_,_,rfl,rfl,hp,?_,?_⟩
   ·unfold placesOf;rw[ab,ab,cY,dU];exact small (by omega)
   rw[ab,hg];have npl:∀b o,H1 b=some o->b≠pl->upd H1 pl (.lst (.int ((Rm.again ks q:Nat):Int)::aV (placesOf ks i))) b=some o:=fun b o e n=>by rw[aA n];exact e
   have lap:la≠pl:=nlp.symm;have klp:kl≠pl:=aE hk U7;refine⟨_,rfl,_,rfl,_,rfl,_,rfl,kl,aV ks,_,_,rfl,rfl,cF.of (npl _ _ hk1 klp),at_of (j:=q) ei hx,_,_,rfl,BG.k (k:=aH ((ks[q]:Nat):Int)) (npl _ _ hd lap) (small (by omega)),?_⟩;refine⟨_,_,rfl,fun b o e=>?_,ae,aD (Ri _ _ _) (by omega),fun j=>?_,?_⟩
   ·rw[aA (aE e hla),aA (aE e U7)];exact s2 b o e
   ·rw[Ea,Rm.DL hkq];by_cases e:j=ks[q]
    ·rw[if_pos (by rw[e]),if_pos e,lx,ei]
    ·rw[if_neg (fun z=>e (by have:=oH z;omega)),if_neg e,y9 j,hq1]
   ·rw[aA nlp,ae];have er:(dg ks.length).drop q=q::(dg ks.length).drop (q+1):=by rw[fU (by rw[dU];exact hq),List.getElem_range]
    have e1:placesOf ks i=((dg ks.length).drop (q+1)).map (Rm.again ks):=by unfold placesOf;rw[hq1]
    have e2:placesOf ks (i+1)=Rm.again ks q::((dg ks.length).drop (q+1)).map (Rm.again ks):=by unfold placesOf;rw[hqq,er,bE]
    rw[e1,e2];rfl
  ·rintro σ H1 ⟨kvs,v,rfl,s2,hd,hkv,y9,hp⟩;unfold placesOf at hp;rw[Md,x6] at hp;exact⟨_,rfl,k H1 pl s2 U7 hp⟩
def Eo:Sp:=fun vs H Q _=>∃(t w:Nat) (ml:Addr) (ts:List Nat),vs=[.int (t:Nat),.int (w:Nat),.ref ml]/\H ml=some (.lst (aV ts))/\ts.length<=200/\∀H',dc H H'->Q (.int ((ts.filter (Gm.DM w t)).length:Nat)) H'
theorem EX(T:Tx K mg):cz P w K mg base fY 1 T.rO.f T.rO.fd ["start","span","minutes"] Eo:=by
 refine T.rO.F.ok ql (fun vs H Q E h=>?_) (fun dY A outer s H vs Q E hr h=>?_)
 ·obtain⟨t,w,ml,ts,rfl,_⟩:=h;rfl
 ·obtain⟨t,w,ml,ts,rfl,hm,hl,k⟩:=h;refine⟨_,(aB (bf (eA T.f9 (z0 rfl ql.nd (e_ (pv 2)) (jE (N:=["start","span","minutes","each"]) (sc:=aN sq) (own:=[("each",3)]) (by decide+kernel)) (fun _ _ _ _ _=>(f7 3 ql.nd)) (fun _ _ _ _ _=>pP (Kw EV tD (pv 0) (pv 3) (fM j7 (pv 0) (pv 1)))) (fun _ _ _ _ _=>(pv 3)))))),?_⟩;refine⟨_,rfl,_,rfl,⟨_,cF.of hm⟩,fun D hD=>?_⟩;refine oB (xs:=aV ts) (fun j H'=>H' D=some (.lst (aV ((ts.take j).filter (Gm.DM w t))))/\dc H H') ⟨ae,aF hD⟩ (fun j H' _ q=>cF.of (q.2 _ _ hm)) ?_ ?_
  ·rintro j x H2 hx ⟨h3,h4⟩;obtain⟨m,Jx,rfl⟩:=fi hx;have yes:Gm.DM w t m=true->∃acc,H2 D=some (.lst acc)/\acc.length<aG/\upd H2 D (.lst (acc++[.int (m:Nat)])) D=some (.lst (aV ((ts.take (j+1)).filter (Gm.DM w t))))/\dc H (upd H2 D (.lst (acc++[.int (m:Nat)]))):=fun q=>by
    refine⟨_,h3,?_,?_,fun b o e=>by rw[aA (aE e hD)];exact h4 b o e⟩
    ·rw[ab];exact small (aD (bh _ _) (aD (bJ _ _) (by omega)))
    ·rw[ae,take_snoc Jx,bM,aZ,q,if_pos rfl,cx,fc]
   have no:Gm.DM w t m=false->H2 D=some (.lst (aV ((ts.take (j+1)).filter (Gm.DM w t))))/\dc H H2:=fun q=>by
    refine⟨?_,h4⟩;rw[h3,take_snoc Jx,bM,aZ,q,if_neg aU,cx,cE]
   refine⟨rfl,_,rfl,_,rfl,_,_,rfl,rfl,_,rfl,?_⟩;by_cases q1:t<=m
   ·rw[decide_eq_true (show((t:Nat):Int)<=((m:Nat):Int) by omega)];refine c_ ⟨_,rfl,_,rfl,_,_,rfl,rfl,_,_,rfl,rfl,_,rfl,?_⟩;by_cases q2:m<t+w
    ·rw[decide_eq_true (show((m:Nat):Int)<((t:Nat):Int)+((w:Nat):Int) by omega)];exact c_ ⟨_,rfl,yes (Gm.rS.mpr ⟨q1,q2⟩)⟩
    ·rw[decide_eq_false (show ¬((m:Nat):Int)<((t:Nat):Int)+((w:Nat):Int) by omega)];exact di (no (QG.mpr fun z=>q2 (Gm.rS.mp z).2))
   ·rw[decide_eq_false (show ¬((t:Nat):Int)<=((m:Nat):Int) by omega)];exact di ⟨_,rfl,di (no (QG.mpr fun z=>q1 (Gm.rS.mp z).1))⟩
  ·rintro H2 ⟨h3,h4⟩;rw[ab,bL] at h3;refine⟨_,_,rfl,.inl (cF.of h3),?_⟩;rw[ab];exact k H2 h4
def Kl:Sp:=fun vs H Q _=>∃(w:Nat) (ml:Addr) (ts:List Nat),vs=[.int (w:Nat),.ref ml]/\H ml=some (.lst (aV ts))/\ts.length<=200/\∀H',dc H H'->Q (.int (JR w ts:Nat)) H'
theorem KG(T:Tx K mg):cz P w K mg base fY 2 T.Av.f T.Av.fd ["span","minutes"] Kl:=by
 refine T.Av.F.ok vZ (fun vs H Q E h=>?_) (fun dY A outer s H vs Q E hr h=>?_)
 ·obtain⟨w,ml,ts,rfl,_⟩:=h;rfl
 ·obtain⟨w,ml,ts,rfl,hm,hl,k⟩:=h;refine⟨_,(aB (bf (UK rfl (by rfl) T.SX (z0 rfl vZ.nd (e_ (pv 1)) (jE (N:=["span","minutes","start"]) (sc:=aN yU) (own:=[("start",2)]) (by decide+kernel)) (fun _ _ _ _ _=>(f7 2 vZ.nd)) (fun _ _ _ _ _=>IQ) (fun _ _ _ _ _=>(dm T.rO (EX T) hr (aa (pv 2) (aa (pv 0) (aa (pv 1) ax)))))) a8))),?_⟩;have ec:JR w ts=(ts.map fun t=>(ts.filter (Gm.DM w t)).length).foldl max 0:=rfl;refine⟨_,rfl,_,rfl,⟨_,cF.of hm⟩,fun D hD=>?_⟩;refine oB (xs:=aV ts) (fun j H'=>H' D=some (.lst (aV ((ts.take j).map fun t=>(ts.filter (Gm.DM w t)).length)))/\dc H H') ⟨ae,aF hD⟩ (fun j H' _ q=>cF.of (q.2 _ _ hm)) ?_ ?_
  ·rintro j x H2 hx ⟨h3,h4⟩;obtain⟨m,Jx,rfl⟩:=fi hx;refine⟨rfl,WE ?_⟩;refine⟨_,rfl,_,rfl,_,rfl,m,w,ml,ts,rfl,h4 _ _ hm,hl,fun H3 s3=>⟨_,s3 _ _ h3,?_,?_,fun b o e=>by rw[aA (aE e hD)];exact s3 b o (h4 b o e)⟩⟩
   ·rw[ab,ab];exact small (aD (bJ _ _) (by omega))
   ·rw[ae,take_snoc Jx,cb,bE,vA,fc]
  ·rintro H2 ⟨h3,h4⟩;rw[ab,bL] at h3;have h3:H2 D=some (.lst ((ts.map fun t=>(((ts.filter (Gm.DM w t)).length:Nat):Int)).map V.int)):=by
    rw[h3];show some (HO.lst (BM _ (BM _ ts)))=_;rw[gm,gm];rfl
   refine⟨_,_,_,rfl,rfl,cF.of h3,fun ad9=>?_,fun m hm1 hm2=>?_⟩
   ·have e:ts=[]:=OB.mp ad9;have:=k H2 h4;rw[e] at this;exact this
   ·obtain⟨t,ht,rfl⟩:=bz.mp hm1;have:=k H2 h4;rw[ec,Rm.RE (m:=(ts.filter (Gm.DM w t)).length) (bz.mpr ⟨t,ht,rfl⟩) fun y hy=>?_] at this
    ·exact this
    ·obtain⟨u,hu,rfl⟩:=bz.mp hy;have:=hm2 _ (bz.mpr ⟨u,hu,rfl⟩);omega
def Ip:Sp:=fun vs H Q _=>∃(rl:Addr) (row:List Int) (n:Nat) (top:Int),vs=[.ref rl,.int (n:Nat),.int top]/\H rl=some (.lst (bO row))/\row.length<=200/\∀H',dc H H'->Q (.bl (fg row n top)) H'
theorem pQ(T:Tx K mg):cz P w K mg base fY 2 T.n4.f T.n4.fd ["row","longest","greatest"] Ip:=by
 refine T.n4.F.ok uo (fun vs H Q E h=>?_) (fun dY A outer s H vs Q E hr h=>?_)
 ·obtain⟨rl,row,n,top,rfl,_⟩:=h;rfl
 ·obtain⟨rl,row,n,top,rfl,gk,hl,k⟩:=h;refine⟨_,(aB (bf (IS (uz EV (eA T.f9 (pv 0)) (pv 1)) (Bi (oS (SF rfl) (by rfl) T.Wh boot_all (aa (z0 rfl uo.nd (e_ (pv 0)) (jE (N:=["row","longest","greatest","number"]) (sc:=aN wa) (own:=[("number",3)]) (by decide+kernel)) (fun _ _ _ _ _=>(f7 3 uo.nd)) (fun _ _ _ _ _=>IQ) (fun _ _ _ _ _=>(dm T.gR (gc T) hr (aa (pv 3) (aa a8 (aa (pv 2) ax)))))) ax)))))),?_⟩;refine⟨_,rfl,_,_,rfl,.inl (cF.of gk),_,rfl,_,_,rfl,rfl,_,rfl,?_⟩;rw[ab];unfold fg at k;by_cases q:row.length<=n
  ·rw[decide_eq_true q,o9] at k;rw[decide_eq_true (show((row.length:Nat):Int)<=((n:Nat):Int) by omega)];refine c_ ⟨_,rfl,_,rfl,⟨_,cF.of gk⟩,fun D hD=>?_⟩;refine oB (xs:=bO row) (fun j H'=>H' D=some (.lst (((row.take j).map fun x=>aO x 0 top).map V.bl))/\dc H H') ⟨ae,aF hD⟩ (fun j H' _ q=>cF.of (q.2 _ _ gk)) ?_ ?_
   ·rintro j x H2 hx ⟨h3,h4⟩;obtain⟨m,Jx,rfl⟩:=Fs hx;refine⟨rfl,WE ?_⟩;refine⟨_,rfl,_,rfl,m,0,top,rfl,_,h3,?_,?_,fun b o e=>by rw[aA (aE e hD)];exact h4 b o e⟩
    ·rw[ab,ab];exact small (aD (bJ _ _) (by omega))
    ·rw[ae,take_snoc Jx,cb,cb];rfl
   ·rintro H2 ⟨h3,h4⟩;rw[ab,bL] at h3;refine⟨_,_,rfl,cF.of h3,?_⟩;have e:(row.map fun x=>aO x 0 top).all id=row.all fun x=>aO x 0 top:=by rw[LJ];rfl
    rw[e];exact k H2 h4
  ·rw[decide_eq_false q,jg] at k;rw[decide_eq_false (show ¬((row.length:Nat):Int)<=((n:Nat):Int) by omega)];exact di (k H (dc.refl H))
def Ep:Sp:=fun vs H Q _=>∃(rl:Addr) (row:List Int),vs=[.ref rl]/\H rl=some (.lst (bO row))/\row.length<=200/\∀H',dc H H'->Q (.bl (lD row)) H'
theorem EY(T:Tx K mg):cz P w K mg base fY 1 T.rP.f T.rP.fd ["row"] Ep:=by
 refine T.rP.F.ok mQ (fun vs H Q E h=>?_) (fun dY A outer s H vs Q E hr h=>?_)
 ·obtain⟨rl,row,rfl,_⟩:=h;rfl
 ·obtain⟨rl,row,rfl,gk,hl,k⟩:=h;refine⟨_,(aB (bf (oS (SF rfl) (by rfl) T.Wh boot_all (aa (z0 rfl mQ.nd (Rj rfl T.SV (aa (pv 0) (aa (lN oh (pv 0) (k6 a8) uv) ax))) (jE (N:=["row","before","behind"]) (sc:=aN su) (own:=[("before",1),("behind",2)]) (by decide+kernel)) (fun _ _ _ _ _=>(NI (K:=K) (n:=2) rfl rfl (oR (f7 1 mQ.nd) (oR (f7 2 mQ.nd) DH)))) (fun _ _ _ _ _=>IQ) (fun _ _ _ _ _=>(uz EV (pv 1) (pv 2)))) ax)))),?_⟩;refine⟨_,rfl,_,rfl,_,rfl,_,_,rfl,cF.of gk,fun sl hsl=>?_⟩;have X7:wO (bO row) (some 1) none=bO (row.drop 1):=by
   cases row with
   |nil=>rfl
   |cons a r=>rw[show(1:Int)=((1:Nat):Int) from rfl,FR _ 1 (by simp)];rfl
  rw[X7];have s1:=aF (o:= .lst (bO (row.drop 1))) hsl;refine⟨_,_,_,_,rfl,cF.of (s1 _ _ gk),cF.of ae,fun D hD=>?_⟩;refine Xm (xs:=bO row) (ys:=bO (row.drop 1)) (n:=(row.zip (row.drop 1)).length) (fun j H'=>H' D=some (.lst ((((row.zip (row.drop 1)).take j).map fun p=>decide (p.1<=p.2)).map V.bl))/\dc (upd H sl (.lst (bO (row.drop 1)))) H') ⟨ae,aF hD⟩ (fun j H' _ q=>⟨cF.of (q.2 _ _ (s1 _ _ gk)),cF.of (q.2 _ _ ae)⟩) (by rw[TX,ab,ab]) ?_ ?_
  ·rintro j x y H2 Tp hx hy ⟨h3,h4⟩ hT;obtain⟨m,Jx,rfl⟩:=Fs hx;obtain⟨m',ad',rfl⟩:=Fs hy;have hz:(row.zip (row.drop 1))[j]?=some (m,m'):=by rw[Ig];exact⟨Jx,ad'⟩
   have s3:=h4.trans (aF (o:= .tup [.int m,.int m']) hT);refine⟨Tp,_,rfl,.inl (.inl ae),rfl,_,_,rfl,_,_,rfl,rfl,rfl,WE ?_⟩;refine⟨_,rfl,_,rfl,_,_,rfl,rfl,_,(aA (aE h3 hT)).trans h3,?_,?_,fun b o e=>by rw[aA (aE e hD)];exact s3 b o e⟩
   ·rw[ab,ab];refine small (aD (bJ _ _) ?_);rw[TX];omega
   ·rw[ae,take_snoc hz,cb,cb];rfl
  ·rintro H2 ⟨h3,h4⟩;rw[bL] at h3;refine⟨_,_,rfl,cF.of h3,?_⟩;have e:((row.zip (row.drop 1)).map fun p=>decide (p.1<=p.2)).all id=lD row:=by rw[Rm.Hm,LJ];rfl
   rw[e];exact k H2 (s1.trans h4)
def Et:Sp:=fun vs H Q _=>∃(rl:Addr) (row:List Int) (n:Nat) (top:Int),vs=[.ref rl,.int (n:Nat),.int top]/\H rl=some (.lst (bO row))/\row.length<=200/\∀H',dc H H'->Q (.bl (fg row n top&&lD row)) H'
theorem kJ(T:Tx K mg):cz P w K mg base fY 3 T.jh.f T.jh.fd ["row","longest","greatest"] Et:=by
 refine T.jh.F.ok EB (fun vs H Q E h=>?_) (fun dY A outer s H vs Q E hr h=>?_)
 ·obtain⟨rl,row,n,top,rfl,_⟩:=h;rfl
 ·obtain⟨rl,row,n,top,rfl,gk,hl,k⟩:=h;refine⟨_,(aB (bf (IS (dm T.n4 (pQ T) hr (aa (pv 0) (aa (pv 1) (aa (pv 2) ax)))) (Bi (dm T.rP (EY T) hr (aa (pv 0) ax)))))),?_⟩;refine⟨_,rfl,_,rfl,_,rfl,rl,row,n,top,rfl,gk,hl,fun H1 s1=>⟨_,rfl,?_⟩⟩;cases q:fg row n top with
  |true=>
   rw[q,o9] at k;exact c_ ⟨_,rfl,rl,row,rfl,s1 _ _ gk,hl,fun H2 s2=>k H2 (s1.trans s2)⟩
  |false=>
   rw[q,jg] at k;exact di (k H1 s1)
def vQ:Sp:=fun vs H Q _=>∃(r:Int) (rl:Addr) (row:List Int),vs=[.int r,.ref rl]/\H rl=some (.lst (bO row))/\row.length<=200/\∀H',dc H H'->Q (.bl (aO r 1 20&&fg row 60 99)) H'
theorem oT(T:Tx K mg):cz P w K mg base fY 3 T.iE.f T.iE.fd ["room","row"] vQ:=by
 refine T.iE.F.ok vX (fun vs H Q E h=>?_) (fun dY A outer s H vs Q E hr h=>?_)
 ·obtain⟨r,rl,row,rfl,_⟩:=h;rfl
 ·obtain⟨r,rl,row,rfl,gk,hl,k⟩:=h;refine⟨_,(aB (bf (IS (dm T.gR (gc T) hr (aa (pv 0) (aa a8 (aa (cD T.C_) ax)))) (Bi (dm T.n4 (pQ T) hr (aa (pv 1) (aa (cD T.Cs) (aa (cD T.qH) ax)))))))),?_⟩;refine⟨_,rfl,r,1,20,rfl,_,rfl,?_⟩;cases q:aO r 1 20 with
  |true=>
   rw[q,o9] at k;exact c_ ⟨_,rfl,rl,row,60,99,rfl,gk,hl,fun H2 s2=>k H2 s2⟩
  |false=>
   rw[q,jg] at k;exact di (k H (dc.refl H))
def Il:Sp:=fun vs H Q _=>∃(nl:Addr) (l:List Nat),vs=[.ref nl]/\H nl=some (.lst (aV l))/\l.length<=200/\∀H' p,dc H H'->H p=none->H' p=some (.lst (bO (0::dC l)))->Q (.ref p) H'
theorem uB(T:Tx K mg):cz P w K mg base fY 1 T.pZ.f T.pZ.fd ["numbers"] Il:=by
 refine T.pZ.F.ok IC (fun vs H Q E h=>?_) (fun dY A outer s H vs Q E hr h=>?_)
 ·obtain⟨nl,l,rfl,_⟩:=h;rfl
 ·obtain⟨nl,l,rfl,hn,hl,k⟩:=h;refine⟨_,(aB (bf (fM mZ (bC (aa a8 (aa (eA T.f9 (pv 0)) ax))) (pv 0)))),?_⟩;refine⟨_,rfl,_,_,rfl,.inl (cF.of hn),(by show 2<=aG;decide),fun l0 HG=>?_⟩;have s1:=aF (o:= .lst [.int 0,.int ((aV l).length:Nat)]) HG;refine⟨_,rfl,_,_,_,_,rfl,rfl,ae,s1 _ _ hn,?_,fun p hp=>?_⟩
  ·rw[ab];exact cK (small (by show 2+l.length<=_;omega))
  refine k _ p (s1.trans (aF hp)) (s1.free hp) ?_;rw[ae,lQ,ab,ab];rfl
def Xn:Pos:=⟨197,33,197,56⟩
def UY:Str:=("asked_again_last":Str)++".<locals>."++"<lambda>"
structure Lm{K:aq}{mg:Str->Option ao}(T:Tx K mg) where
 c:Addr
 P:Addr
 code:T.fW.fd.code= .ref c
 hd:∀h,K.In h->kC h c P
abbrev Tab{K:aq}{mg:Str->Option ao}{T:Tx K mg}(M:Lm T)(H:Hp):Prop:=yy H M.P Xn UY
def kW(P:Addr)(H H':Hp):Prop:=∀b o,H b=some o->b≠P->H' b=some o
theorem u_.okC{x qual:Str}{st:Stmt}{f c:Addr}{fd:gA}{N ps:List Str}{k:Nat}{sp:Sp}(F:u_ K x qual st f fd)(hc:fd.code= .ref c)(S:bj N ps (aN st))(len:∀vs H Q E,sp vs H Q E->vs.length=ps.length)
  (K5:∀(A:dw) (outer:List Env) (s:aI) (H:Hp) (vs:List V) (Q:VK) (E:XK),me k (A.deeper (AY qual (aN st) s.heap.objs.size f (.ref c)))->sp vs H Q E->
   ∃t,Ot (MU fY P w K mg base N qual (aN st) f (.ref c) A outer s H E).YC (ju st) t/\t {nx:=fun _ H'=>Q .gE H',rt:=Q} (L2.start N vs) H):cz P w K mg base fY (k+1) f fd ps sp:=by
 obtain⟨oc,od,kV,doc,pm,an,dY,ct,LN,rfl,lk,LR⟩:=F.ex;have e:dY= .ref c:=hc;subst e;refine Wc lk LR S len fun A outer s H vs Q E hr Qo=>?_;obtain⟨t,h,q⟩:=K5 A outer s H vs Q E hr Qo;exact⟨t,h.YC,q⟩
def xC{T:Tx K mg}(M:Lm T):Sp:=fun vs H Q _=>∃(d:Addr) (kvs:List (Key×V)) (l:List Nat) (vf:Nat->Nat),vs=[.ref d]/\H d=some (.dK kvs)/\kvs.map (·.1)=l.map (fun n:Nat=>(aH (n:Int):Key))/\l≠[]/\l.length<64/\(∀x∈l,iL kvs (aH (x:Int))=some (.int (vf x:Nat)))/\Tab M H/\
 ∀(H2:Hp) (j:Nat),Tab M H2->kW M.P H H2->j∈l->(∀x∈l,vf x<vf j\/(vf x=vf j/\j<=x))->Q (.int (j:Nat)) H2
theorem xM(T:Tx K mg)(M:Lm T)(hB:BH mg base):cz P w K mg base fY 3 T.fW.f T.fW.fd ["held"] (xC M):=by
 refine u_.okC (k:=2) T.fW.F M.code xH (fun vs H Q E h=>?_) (fun A outer s H vs Q E hr h=>?_)
 ·obtain⟨d,kvs,l,vf,rfl,_⟩:=h;rfl
 ·obtain⟨d,kvs,l,vf,rfl,hd,Va,tN,h64,y9,hT,k⟩:=h;refine⟨_,(aB (bf (O7 (ih:=0) (c:=M.c) (P:=M.P) (cc:=s.heap.objs.size+1) rfl (by rfl) T.SX (oS (MW rfl) (by rfl) T.SW boot_sorted (aa (pv 0) ax)) hr.depth rfl M.hd hB rfl rfl rfl rfl rfl (fun _ _ _ _ _ _=>rfl) rfl rfl rfl rfl rfl (by decide+kernel) (by decide) (by decide) (by decide)))),?_⟩;refine⟨_,rfl,d,kvs,l.map (fun n:Nat=>(n:Int)),rfl,hd,by rw[Va,gm];rfl,by rw[ab];exact h64,fun Qn p N0 aan hp=>?_⟩;have s1:=aF (o:= .lst (Qn.map V.int)) hp;have qX:∀n,n∈Qn->∃x∈l,n=(x:Int):=fun n hn=>by
   obtain⟨x,hx,e⟩:=bz.mp (N0.mem_iff.mp hn);exact⟨x,hx,e.symm⟩
  refine⟨_,rfl,p,d,Qn,kvs,fun n=>((vf n.toNat:Nat):Int),rfl,ae,fun e=>tN ?_,rfl,s1 _ _ hd,fun n hn=>?_,hT.keep fun b o e _=>s1 b o e,fun H2 i n Si kp hi best=>?_⟩
  ·rw[e] at N0;exact OB.mp N0.symm.eq_nil
  ·obtain⟨x,hx,rfl⟩:=qX n hn;exact y9 x hx
  ·obtain⟨x,hx,rfl⟩:=qX n (bB hi);refine k H2 x Si (fun b o e n=>kp b o (s1 b o e) n) hx fun y hy=>?_;have hym:((y:Nat):Int)∈Qn:=N0.mem_iff.mpr (bz.mpr ⟨y,hy,rfl⟩);obtain⟨j,hj⟩:=kx.mp hym;obtain⟨b1,b2⟩:=best j _ hj;have b1:((vf y:Nat):Int)<=((vf x:Nat):Int):=b1;by_cases e:vf y=vf x
   ·refine .inr ⟨e,?_⟩;by_cases ij:j<i
    ·have:((vf y:Nat):Int)<((vf x:Nat):Int):=b2 ij;omega
    ·obtain⟨hj1,YQ⟩:=aP.mp hj;obtain⟨hi1,hi2⟩:=aP.mp hi;by_cases ij2:i=j
     ·subst ij2;rw[YQ] at hi2;omega
     ·have:=sM.mp aan i j hi1 hj1 (by omega);rw[YQ,hi2] at this;omega
   ·exact .inl (by omega)
theorem Vm{K:aq}{a b:Addr}{xs ys:List V}{n:Nat}{g:TG}{tb:TS}{D:Ends}{σ:L2.St}{H:Hp}(Pv:Nat->L2.St->Hp->Prop)(h0:Pv 0 σ H)(hl:∀i σ H,i<=n->Pv i σ H->cF K H a xs/\cF K H b ys)(hn:n=min xs.length ys.length)
  (hs:∀(i:Nat) x y σ H Tp,xs[i]?=some x->ys[i]?=some y->Pv i σ H->H Tp=none->g (.ref Tp) σ (upd H Tp (.tup [x,y])) fun σ2 H2=>tb {D with nx:=Pv (i+1),ct:=Pv (i+1),bk:=D.nx} σ2 H2)(hd:∀σ H,Pv n σ H->D.nx σ H):
  ∃W:Nat->Nat->L2.St->Hp->Prop,(∃m,W 0 m σ H)/\∀i m σ H,W i m σ H->
   ((Wj K a b).stop i H/\D.nx σ H)\/((Wj K a b).go i H/\∃N:L2.St->Hp->Prop,(∀σ' H',N σ' H'->∃m',m'<m/\W (i+1) m' σ' H')/\∀x H',(Wj K a b).QI i H x H'->g x σ H' fun σ2 H2=>tb {D with nx:=N,ct:=N,bk:=D.nx} σ2 H2):=by
 refine⟨fun i m σ H=>m=n -i/\i<=n/\Pv i σ H,⟨n,rfl,aT _,h0⟩,?_⟩;rintro i m σ H ⟨rfl,hi,p⟩;obtain⟨q1,q2⟩:=hl i σ H hi p;by_cases z:i<n
 ·have z1:i<xs.length:=by omega
  have z2:i<ys.length:=by omega
  refine .inr ⟨⟨xs,ys,xs[i],ys[i],q1,q2,aS z1,aS z2⟩,Pv (i+1),fun σ' H' p'=>⟨n -(i+1),by omega,rfl,z,p'⟩,?_⟩;rintro v H' ⟨Tp,x,y,rfl,hT,rfl,hx,hy⟩;exact hs i x y σ H Tp (hx xs q1) (hy ys q2) p hT
 ·have e:i=n:=by omega
  subst e;exact .inl ⟨⟨xs,ys,q1,q2,by omega⟩,hd σ H p⟩
abbrev Al(l:List Nat):List Key:=l.map fun n:Nat=>(aH (n:Int):Key)
theorem Pn{l:List Nat}{x:Nat}:(aH (x:Int):Key)∈Al l↔x∈l:=by
 constructor
 ·intro h;obtain⟨y,hy,e⟩:=bz.mp h;have:=oH e;have:y=x:=by omega
  exact this▸hy
 ·exact fun h=>bz.mpr ⟨x,h,rfl⟩
theorem Ak{kvs:List (Key×V)}{k:Key}(v:V)(h:iL kvs k=none):(putK kvs k v).map (·.1)=kvs.map (·.1)++[k]:=by rw[Ku v h,cb];rfl
theorem Jo{kvs:List (Key×V)}{k:Key}{x:V}(v:V)(h:iL kvs k=some x):(putK kvs k v).map (·.1)=kvs.map (·.1):=by
 have q:(kvs.any fun kv=>decide (kv.1=k))=true:=by rw[mL,h];rfl
 unfold putK;rw[if_pos q,gm];exact gF fun p _=>by
  show(if p.1=k then(p.1,v) else p).1=p.1;split<;>rfl
theorem Pl(kvs:List (Key×V))(k:Key):(pI kvs k).map (·.1)=(kvs.map (·.1)).filter fun x=>decide (x≠k):=by
 unfold pI;rw[T3];rfl
theorem Jp(l:List Nat)(j:Nat):(Al l).filter (fun x=>decide (x≠(aH (j:Int):Key)))=Al (l.filter fun x=>x !=j):=by
 unfold Al;rw[T3];congr 1;refine sR fun x _=>?_;show decide ((aH (x:Int):Key)≠aH (j:Int))=(x !=j);by_cases e:x=j
 ·subst e;simp
 ·have: ¬(aH (x:Int):Key)=aH (j:Int):=fun q=>e (by have:=oH q;omega);rw[decide_eq_true this]
  simpa using e
theorem QO{kvs:List (Key×V)}{k j:Key}(h:j≠k):iL (pI kvs k) j=iL kvs j:=by
 induction kvs with
 |nil=>rfl
 |cons p r ih=>
  by_cases e:p.1=k
  ·rw[PZ e,ih,iw (fun q=>h (q.symm.trans e))]
  ·rw[P0 e];by_cases e2:p.1=j
   ·rw[i7 e2,i7 e2]
   ·rw[iw e2,iw e2,ih]
theorem J_{kvs:List (Key×V)}{l:List Nat}(hk:kvs.map (·.1)=Al l){x:Nat}(h: ¬x∈l):iL kvs (aH (x:Int))=none:=by
 cases q:iL kvs (aH (x:Int)) with
 |none=>rfl
 |some v=>
  have:=T6 q;rw[hk] at this;exact absurd (Pn.mp this) h
theorem kW.of{P:Addr}{H H':Hp}(s:dc H H'):kW P H H':=fun b o e _=>s b o e
theorem kW.trans{P:Addr}{H H1 H2:Hp}(a:kW P H H1)(b:kW P H1 H2):kW P H H2:=fun c o e n=>b c o (a c o e n) n
def vi{T:Tx K mg}(M:Lm T):Sp:=fun vs H Q _=>∃(room:Nat) (kl:Addr) (ks:List Nat),vs=[.int (room:Nat),.ref kl]/\H kl=some (.lst (aV ks))/\ks.length<=200/\0<room/\room<=20/\Tab M H/\
 ∀(H':Hp),Tab M H'->kW M.P H H'->Q (.int (dy room [] ks:Nat)) H'
theorem Tab.ne{T:Tx K mg}{M:Lm T}{H:Hp}(h:Tab M H){b:Addr}{o:HO}(e:H b=some o)(hn:∀ps,o≠ .x_ ps):b≠M.P:=fun q=>by
 obtain⟨ps,hP⟩:=h.at_;rw[q,hP] at e;exact hn ps (aR e).symm
theorem nM(T:Tx K mg)(M:Lm T)(hB:BH mg base):cz P w K mg base fY 4 T.gU.f T.gU.fd ["room","keys"] (vi M):=by
 refine T.gU.F.ok eQ (fun vs H Q E h=>?_) (fun dY A outer s H vs Q E hr h=>?_)
 ·obtain⟨room,kl,ks,rfl,_⟩:=h;rfl
 ·obtain⟨room,kl,ks,rfl,hk,K2,hr0,Px,hT,k⟩:=h;have hu:=Fu hr;refine⟨_,(ai (b8 2 eQ.nd z_) (ai (b8 3 eQ.nd a8) (ai (iM bV rfl (Rj rfl T.SV (aa (pv 1) (aa (dm T.jo (vm T) hr (aa (pv 1) ax)) ax))) (Mt rfl (oR (f7 4 eQ.nd) (oR (f7 5 eQ.nd) DH))) (ai (cX (W8 (O9 hu (pv 4) (pv 2))) (ai (EM (i:=3) eQ.nd rfl (zm rfl) a8 Ju) (aB (cX (c8 mY (oS P6 (by rfl) T.f9 TN (aa (pv 2) ax)) (pv 0)) (aB (cg (Rp (pv 2) (dm T.fW (xM T M hB) hr (aa (pv 2) ax)) ⟨rfl,rfl,rfl,rfl⟩))) bI))) bI) (aB (uu hu (pv 2) (pv 4) (pv 5) rfl)))) (aB (bf (pv 3)))))),?_⟩;refine fun hd YR=>?_;have s1:=aF (o:= .dK []) YR;refine⟨_,rfl,_,rfl,kl,ks,rfl,s1 _ _ hk,K2,fun H1 pl s2 jD h1=>?_⟩;have pb:=s1.trans s2;have kln:kl≠M.P:=hT.ne hk fun _ q=>by cases q
  have hT1:Tab M H1:=hT.keep fun b o e _=>pb b o e;have pln:pl≠M.P:=hT1.ne h1 fun _ q=>by cases q
  have Wb:H1 hd=some (.dK []):=s2 _ _ ae;have hdn:hd≠M.P:=hT1.ne Wb fun _ q=>by cases q
  have hpd:pl≠hd:=j9 h1 Wb (by intro q;cases q);have U7:H pl=none:=s1.free jD;refine⟨_,_,_,_,rfl,cF.of (pb _ _ hk),cF.of h1,Vm (xs:=aV ks) (ys:=aV ((dg ks.length).map (Rm.again ks))) (n:=ks.length) (fun i σ H'=>∃(kvs:List (Key×V)) (l:List Nat) (m:Nat) (v4 v5:Option V),σ=[some (.int (room:Nat)),some (.ref kl),some (.ref hd),some (.int (m:Nat)),v4,v5]/\kW M.P H H'/\Tab M H'/\H' pl=some (.lst (aV ((dg ks.length).map (Rm.again ks))))/\H' hd=some (.dK kvs)/\kvs.map (·.1)=Al l/\Bm.Ok room l/\(∀x∈l,iL kvs (aH (x:Int))=some (.int ((i+dD (ks.drop i) x:Nat):Int)))/\m+dy room l (ks.drop i)=dy room [] ks)
   ⟨[],[],0,none,none,rfl,kW.of pb,hT1,h1,Wb,rfl,⟨nF,aT _⟩,fun x hx=>(nomatch hx),by rw[lE];rfl⟩ (fun i σ H' _ ⟨_,_,_,_,_,_,sT,_,hp,_⟩=>⟨cF.of (show H' kl=_ from sT _ _ hk kln),cF.of hp⟩) (by rw[ab,ab,ab,dU,Nat.min_self]) ?_ ?_⟩
  ·rintro i x y σ H2 Tp hx hy ⟨kvs,l,m,v4,v5,rfl,sT,Si,N1,hd2,Va,fR,y9,hm⟩ hTp;obtain⟨key,MN,rfl⟩:=fi hx;obtain⟨ag,hag,rfl⟩:=fi hy;have hik:=(aP.mp MN).1;have eag:ag=i+1+dD (ks.drop (i+1)) key:=by
    rw[aM,List.getElem?_range hik] at hag;rw[<-Rm.Lw MN];exact(aR hag).symm
   rw[Rm.C7 MN] at hm;have R9:=Bm.JL hr0 fR key (ks.drop (i+1));have s3:=aF (o:= .tup [.int (key:Nat),.int (ag:Nat)]) hTp;have hT3:Tab M (upd H2 Tp (.tup [.int (key:Nat),.int (ag:Nat)])):=Si.keep fun b o e _=>s3 b o e;have hlen:kvs.length=l.length:=by have:=congrArg pz Va;rwa [ab,ab] at this
   have fin:∀(H4:Hp) (Z5:List (Key×V)) (m4:Nat),kW M.P H H4->Tab M H4->H4 hd=some (.dK Z5)->H4 pl=some (.lst (aV ((dg ks.length).map (Rm.again ks))))->Z5.length<=20->(putK Z5 (aH (key:Int)) (.int (ag:Nat))).map (·.1)=Al (dH room l key (ks.drop (i+1)))->(∀x∈dH room l key (ks.drop (i+1)),x≠key->iL Z5 (aH (x:Int))=some (.int ((i+dD (ks.drop i) x:Nat):Int)))->m4+dy room (dH room l key (ks.drop (i+1))) (ks.drop (i+1))=dy room [] ks->
     VQ (r8 2) (r8 4) (r8 5) {nx:=fun σ H'=>∃(kvs:List (Key×V)) (l:List Nat) (m:Nat) (v4 v5:Option V),σ=[some (.int (room:Nat)),some (.ref kl),some (.ref hd),some (.int (m:Nat)),v4,v5]/\kW M.P H H'/\Tab M H'/\H' pl=some (.lst (aV ((dg ks.length).map (Rm.again ks))))/\H' hd=some (.dK kvs)/\kvs.map (·.1)=Al l/\Bm.Ok room l/\(∀x∈l,iL kvs (aH (x:Int))=some (.int ((i+1+dD (ks.drop (i+1)) x:Nat):Int)))/\m+dy room l (ks.drop (i+1))=dy room [] ks,rt:=fun _ _=>False} [some (.int (room:Nat)),some (.ref kl),some (.ref hd),some (.int (m4:Nat)),some (.int (key:Nat)),some (.int (ag:Nat))] H4:=by
    intro H4 Z5 m4 WY XZ hd4 hp4 XE hk4 hv4 hm4;refine⟨_,rfl,_,rfl,_,rfl,_,_,rfl,BG.k (k:=aH (key:Int)) hd4 (small (by omega)),?_⟩;refine⟨_,_,m4,_,_,rfl,fun b o e n=>?_,XZ.keep fun b o e hq=>?_,?_,ae,hk4,R9,fun x hx=>?_,hm4⟩
    ·rw[aA (aE e YR)];exact WY b o e n
    ·rw[aA (fun q=>?_)]
     ·exact e
     ·rw[q,hd4] at e;rcases hq with⟨ps,z⟩|⟨u,c,z⟩<;>(rw[z] at e;cases e)
    ·rw[aA hpd];exact hp4
    ·rw[Ea];by_cases e:x=key
     ·rw[if_pos (by rw[e]),e,eag]
     ·rw[if_neg (fun z=>e (by have:=oH z;omega)),hv4 x hx e,Rm.DL MN,if_neg e]
   refine⟨Tp,_,rfl,.inl (.inl ae),rfl,_,_,rfl,_,_,rfl,rfl,?_⟩;have Sg:=s3 _ _ hd2;have hp3:=s3 _ _ N1;refine⟨_,rfl,_,rfl,_,_,rfl,G8.k (k:=aH (key:Int)) Sg,_,rfl,?_⟩;by_cases qX:key∈l
   ·
    have hv:=y9 key qX;have hc:l.contains key=true:=by simpa using qX
    have eu:dH room l key (ks.drop (i+1))=l:=by unfold dH;rw[if_pos hc]
    rw[hv];refine di ?_;rw[hc,if_pos rfl,lE] at hm;refine fin _ kvs m (sT.trans (kW.of s3)) hT3 Sg hp3 (by rw[hlen];exact aD fR.le Px) ?_ (fun x hx tN=>?_) hm
    ·rw[eu,Jo _ hv];exact Va
    ·rw[eu] at hx;exact y9 x hx
   ·have hv:=J_ Va qX;have hc: ¬l.contains key=true:=by simpa using qX
    rw[hv];rw[if_neg hc] at hm;refine c_ ⟨_,rfl,_,_,rfl,rfl,?_⟩;refine⟨_,rfl,_,_,rfl,Sg,_,rfl,rfl,_,rfl,?_⟩;rw[eY,hlen];by_cases Wa:l.length=room
    ·rw[decide_eq_true (show((l.length:Nat):Int)=((room:Nat):Int) by omega)];have tN:l≠[]:=fun q=>by rw[q] at Wa;simp at Wa;omega
     refine c_ ⟨_,rfl,_,rfl,.inl ⟨kvs,.inl Sg⟩,_,rfl,hd,kvs,l,fun x=>i+dD (ks.drop i) x,rfl,Sg,Va,tN,(by omega),y9,hT3,fun H5 j hT5 sT5 hj best=>?_⟩;have hd5:=sT5 _ _ Sg hdn;have hp5:=sT5 _ _ hp3 pln;refine⟨kvs,aH (j:Int),_,hd5,rfl,y9 j hj,?_⟩;have nk:∀x∈l,x≠key:=fun x hx q=>qX (q▸hx);have ew:Vbtkaj.worst (ks.drop (i+1)) l=some j:=Rm.QJ hj fun x hx=>by
      have b:=best x hx;have e1:=Rm.DL MN x;have e2:=Rm.DL MN j;rw[if_neg (nk x hx)] at e1;rw[if_neg (nk j hj)] at e2
      dsimp only at b
      omega
     have eu:dH room l key (ks.drop (i+1))=(l.filter fun x=>x !=j)++[key]:=by unfold dH;rw[if_neg hc,if_neg (by omega),ew]
     have hn6: ¬key∈l.filter fun x=>x !=j:=fun q=>qX (bA.mp q).1;have hk6:(pI kvs (aH (j:Int))).map (·.1)=Al (l.filter fun x=>x !=j):=by rw[Pl,Va,Jp]
     refine fin _ (pI kvs (aH (j:Int))) (m+1) (fun b o e n=>?_) (hT5.keep fun b o e hq=>?_) ae ?_ ?_ ?_ (fun x hx hxk=>?_) (by omega)
     ·rw[aA (aE e YR)];exact sT5 b o (s3 b o (sT b o e n)) n
     ·rw[aA (fun q=>?_)]
      ·exact e
      ·rw[q,hd5] at e;rcases hq with⟨ps,z⟩|⟨u,c,z⟩<;>(rw[z] at e;cases e)
     ·rw[aA hpd];exact hp5
     ·have:=congrArg pz hk6;rw[ab,ab] at this;rw[this];exact aD (bh _ _) (aD fR.le Px)
     ·rw[Ak _ (J_ hk6 hn6),hk6,eu];show _=BM _ (_++[key]);rw[cb];rfl
     ·rw[eu] at hx;have V2:x∈l.filter fun x=>x !=j:=(bQ.mp hx).resolve_right fun q=>hxk (bp.mp q);obtain⟨hxl,hxj⟩:=bA.mp V2;rw[QO (fun q=>by have:=oH q;have:x=j:=(by omega);subst this;simp at hxj)];exact y9 x hxl
    ·rw[decide_eq_false (show ¬((l.length:Nat):Int)=((room:Nat):Int) by omega)];have qY:l.length<room:=by have:=fR.le;omega
     have eu:dH room l key (ks.drop (i+1))=l++[key]:=by unfold dH;rw[if_neg hc,if_pos qY]
     refine di ?_;refine fin _ kvs (m+1) (sT.trans (kW.of s3)) hT3 Sg hp3 (by rw[hlen];exact aD fR.le Px) ?_ (fun x hx tN=>?_) (by omega)
     ·rw[Ak _ hv,Va,eu];show _=BM _ (_++[key]);rw[cb];rfl
     ·rw[eu] at hx;exact y9 x ((bQ.mp hx).resolve_right fun q=>tN (bp.mp q))
  ·rintro σ H2 ⟨kvs,l,m,v4,v5,rfl,sT,Si,N1,hd2,Va,fR,y9,hm⟩;rw[o6] at hm;have hm:m=dy room [] ks:=hm;rw[<-hm] at k;exact⟨_,rfl,k H2 Si sT⟩
end
open Vbtkaj (inside nats rowOk rises minutesOk)
def HJ:List Int->List Int->bg
 |[r],l=>.ways r l
 |_,_=>.counts
def xn(_ l:List Int):bg:= .depths l
def HP:List Int->List Int->bg
 |[r],l=>.best r l
 |_,_=>.counts
def HM:List Int->List Int->bg
 |[r],l=>.late r l
 |_,_=>.counts
def HN:List Int->List Int->bg
 |[n,w],l=>.gate n w l
 |_,_=>.counts
def xo:List Int->List Int->bg
 |[r,e],l=>.bucket r e l
 |_,_=>.counts
def BD:List Int->List Int->bg
 |[w],l=>.crowd w l
 |_,_=>.counts
def HK:List Int->List Int->bg
 |[n,w,t],l=>.next n w t l
 |_,_=>.counts
def HL:List Int->List Int->bg
 |[n,w],l=>.most n w l
 |_,_=>.counts
def nU(c:bg):List Int:=(a9 dq c).2
theorem Kf{ns:List Int}(h:ns.length=3):∃i j k,ns=[i,j,k]:=by
 match ns,h with
 |[a,b,c],_=>exact⟨a,b,c,rfl⟩
theorem mX{row:List Int}(h:∀x∈row,0<=x):bO row=aV (nats row):=by
 rw[lQ];exact congrArg (BM V.int) (Rm.Hx h).symm
theorem eh{a b:Bool}:(a&&b)=false↔a=false\/b=false:=by cases a<;>cases b<;>simp
theorem qD(row:List Int)(n:Nat):iu row n=(fg row n 1000000&&lD row):=by
 unfold iu fg;rw[ly]
section
variable{P:bq}{w:cf}{K:aq}{mg:Str->Option ao}{base:Heap}
def Oo{T:Tx K mg}(M:Lm T)(H:Hp)(xV:List Int)(Q:VK):Prop:=∀(H':Hp) (p:Addr),Tab M H'->kW M.P H H'->H p=none->H' p=some (.lst (bO xV))->Q (.ref p) H'
theorem Oo.keep{T:Tx K mg}{M:Lm T}{H H1:Hp}{xV:List Int}{Q:VK}(k:Oo M H xV Q)(hT:Tab M H)(s:dc H H1){p:Addr}(hp:H p=none)(e:H1 p=some (.lst (bO xV))):Q (.ref p) H1:=
 k H1 p (hT.keep fun b o h _=>s b o h) (kW.of s) hp e
def mO{T:Tx K mg}(M:Lm T)(n:Nat)(c:List Int->List Int->bg):Sp:=fun vs H Q _=>∃(nu rl:Addr) (ns row:List Int),vs=[.ref nu,.ref rl]/\H nu=some (.lst (bO ns))/\H rl=some (.lst (bO row))/\ns.length=n/\row.length<=200/\Tab M H/\Oo M H (nU (c ns row)) Q
def A_{T:Tx K mg}(M:Lm T):Sp:=fun vs H Q _=>∃(room:Nat) (kl:Addr) (ks:List Nat),vs=[.int (room:Nat),.ref kl]/\H kl=some (.lst (aV ks))/\ks.length<=200/\0<room/\room<=20/\Tab M H/\
 ∀(H':Hp),Tab M H'->kW M.P H H'->Q (.int (Dz room ks:Nat)) H'
theorem Bo(T:Tx K mg)(M:Lm T)(hB:BH mg base):cz P w K mg base fY 5 T.oE.f T.oE.fd ["room","keys"] (A_ M):=by
 refine T.oE.F.ok Be (fun vs H Q E h=>?_) (fun dY A outer s H vs Q E hr h=>?_)
 ·obtain⟨room,kl,ks,rfl,_⟩:=h;rfl
 ·obtain⟨room,kl,ks,rfl,hk,K2,hr0,Px,hT,k⟩:=h;refine⟨_,(aB (bf (dm T.gU (nM T M hB) hr (aa (pv 0) (aa (pv 1) ax))))),?_⟩;rw[Bm.PV hr0] at k;exact⟨_,rfl,_,rfl,room,kl,ks,rfl,hk,K2,hr0,Px,hT,k⟩
theorem IU(T:Tx K mg)(M:Lm T)(hB:BH mg base):cz P w K mg base fY 5 T.jL.f T.jL.fd ["numbers","row"] (mO M 1 HJ):=by
 refine T.jL.F.ok zK (fun vs H Q E h=>?_) (fun dY A outer s H vs Q E hr h=>?_)
 ·obtain⟨nu,rl,ns,row,rfl,_⟩:=h;rfl
 ·obtain⟨nu,rl,ns,row,rfl,fJ,gk,hlen,xg,hT,k⟩:=h;obtain⟨r,rfl⟩:=eJ hlen;refine⟨_,(ai (b8 2 zK.nd (cR (pv 0) a8)) (ai (cX (d8 (cZ (dm T.iE (oT T) hr (aa (pv 2) (aa (pv 1) ax))))) (aB (bf (bC (aa (cD T.ck) ax)))) bI) (aB (bf (bC (aa a8 (aa (dm T.js (vn T) hr (aa (pv 2) (aa (pv 1) ax))) (aa (dm T.ni (Ad T) hr (aa (pv 2) (aa (pv 1) ax))) (aa (dm T.gU (nM T M hB) hr (aa (pv 2) (aa (pv 1) ax))) ax))))))))),?_⟩;have hd:nU (HJ [r] row)=if aO r 1 20=false\/fg row 60 99=false then[-1] else[0,aw (kn r.toNat [] (nats row)),aw (ir r.toNat [] (nats row)),aw (dy r.toNat [] (nats row))]:=by
   show(if aO r 1 20=false\/fg row 60 99=false then(dq,[-1]) else(dq,_)).2=_;split<;>rfl
  rw[hd] at k;refine⟨_,rfl,_,_,_,_,rfl,rfl,cF.of fJ,at_of (j:=0) rfl rfl,?_⟩;refine⟨_,rfl,_,rfl,r,rl,row,rfl,gk,xg,fun H1 s1=>⟨_,rfl,?_⟩⟩;cases q:(aO r 1 20&&fg row 60 99) with
  |false=>
   rw[if_pos (eh.mp q)] at k;exact c_ ⟨(by show 1<=aG;decide),fun p hp=>k.keep hT (s1.trans (aF hp)) (s1.free hp) ae⟩
  |true=>
   rw[if_neg (fun z=>by rw[eh.mpr z] at q;cases q)] at k;rw[aW] at q;have K3:=dG q.1;obtain⟨n,rfl⟩:=ic (show 0<=r by omega);obtain⟨Qr,vq⟩:=Rm.oi q.2;have HF:H1 rl=some (.lst (aV (nats row))):=by rw[s1 _ _ gk,mX fun x hx=>(vq x hx).1]
   have K2:(nats row).length<=200:=by rw[Rm.lP];exact xg
   refine di ⟨_,rfl,_,rfl,n,rl,nats row,rfl,HF,(by omega),fun H2 s2=>⟨_,rfl,_,rfl,n,rl,nats row,rfl,s2 _ _ HF,(by omega),fun H3 s3=>⟨_,rfl,_,rfl,n,rl,nats row,rfl,s3 _ _ (s2 _ _ HF),K2,(by omega),(by omega),?_,fun H4 XZ WY=>⟨(by show 4<=aG;decide),fun p hp=>?_⟩⟩⟩⟩
   ·exact hT.keep fun b o h _=>s3 b o (s2 b o (s1 b o h))
   have ZO:=(s1.trans s2).trans s3;have s5:=aF (o:= .lst [.int 0,.int ((kn n [] (nats row):Nat):Int),.int ((ir n [] (nats row):Nat):Int),.int ((dy n [] (nats row):Nat):Int)]) hp;refine k _ p (XZ.keep fun b o h _=>s5 b o h) (((kW.of ZO).trans WY).trans (kW.of s5)) ?_ ae;cases z:H p with
   |none=>rfl
   |some o=>
    exfalso;by_cases e:p=M.P
    ·obtain⟨ps,hP⟩:=XZ.at_;rw[e,hP] at hp;cases hp
    ·rw[WY p o (ZO p o z) e] at hp;cases hp
theorem E3(T:Tx K mg)(M:Lm T):cz P w K mg base fY 3 T.gN.f T.gN.fd ["numbers","row"] (mO M 0 xn):=by
 refine T.gN.F.ok Ez (fun vs H Q E h=>?_) (fun dY A outer s H vs Q E hr h=>?_)
 ·obtain⟨nu,rl,ns,row,rfl,_⟩:=h;rfl
 ·obtain⟨nu,rl,ns,row,rfl,fJ,gk,hlen,xg,hT,k⟩:=h;refine⟨_,(ai (cX (d8 (cZ (dm T.n4 (pQ T) hr (aa (pv 1) (aa (cD T.Cs) (aa (cD T.qH) ax)))))) (aB (bf (bC (aa (cD T.ck) ax)))) bI) (aB (bf (fM mZ (bC (aa a8 ax)) (dm T.xj (Je T) hr (aa (pv 1) ax)))))),?_⟩;have hd:nU (xn ns row)=if fg row 60 99=false then[-1] else 0::(jx [] (nats row)).map iq:=by
   show(if fg row 60 99=false then(dq,[-1]) else(dq,_)).2=_;split<;>rfl
  rw[hd] at k;refine⟨_,rfl,rl,row,60,99,rfl,gk,xg,fun H1 s1=>⟨_,rfl,?_⟩⟩;cases q:fg row 60 99 with
  |false=>
   rw[if_pos q] at k;exact c_ ⟨(by show 1<=aG;decide),fun p hp=>k.keep hT (s1.trans (aF hp)) (s1.free hp) ae⟩
  |true=>
   rw[if_neg (by rw[q];exact a0)] at k;obtain⟨Qr,vq⟩:=Rm.oi q;have HF:H1 rl=some (.lst (aV (nats row))):=by rw[s1 _ _ gk,mX fun x hx=>(vq x hx).1]
   have K2:(nats row).length<=60:=by rw[Rm.lP];exact Qr
   refine di ⟨(by show 1<=aG;decide),fun l0 HG=>?_⟩;have s2:=aF (o:= .lst [.int 0]) HG;refine⟨_,rfl,rl,nats row,rfl,s2 _ _ HF,(by omega),fun H3 d0 s3 hd0 h3=>⟨_,_,_,_,rfl,rfl,s3 _ _ ae,h3,?_,fun p hp=>?_⟩⟩
   ·rw[ab,ab,Rm.zb];exact cK (small (by show 1+(nats row).length<=_;omega))
   have s23:=(s1.trans s2).trans s3;exact k.keep hT (s23.trans (aF hp)) (s23.free hp) (by rw[ae];rfl)
theorem Jg(T:Tx K mg)(M:Lm T)(hB:BH mg base):cz P w K mg base fY 6 T.jZ.f T.jZ.fd ["numbers","row"] (mO M 1 HP):=by
 refine T.jZ.F.ok zN (fun vs H Q E h=>?_) (fun dY A outer s H vs Q E hr h=>?_)
 ·obtain⟨nu,rl,ns,row,rfl,_⟩:=h;rfl
 ·obtain⟨nu,rl,ns,row,rfl,fJ,gk,hlen,xg,hT,k⟩:=h;obtain⟨r,rfl⟩:=eJ hlen;refine⟨_,(ai (b8 2 zN.nd (cR (pv 0) a8)) (ai (cX (d8 (cZ (dm T.gR (gc T) hr (aa (pv 2) (aa a8 (aa (cD T.tP) ax)))))) (aB (bf (bC (aa (cD T.ck) ax)))) bI) (ai (cX (d8 (cZ (dm T.n4 (pQ T) hr (aa (pv 1) (aa (cD T.xU) (aa (cD T.uN) ax)))))) (aB (bf (bC (aa (cD T.ck) ax)))) bI) (aB (bf (bC (aa a8 (aa (dm T.oE (Bo T M hB) hr (aa (pv 2) (aa (pv 1) ax))) ax)))))))),?_⟩;have hd:nU (HP [r] row)=if aO r 1 4=false\/fg row 14 7=false then[-1] else[0,aw (Dz r.toNat (nats row))]:=by
   show(if aO r 1 4=false\/fg row 14 7=false then(dq,[-1]) else(dq,_)).2=_;split<;>rfl
  rw[hd] at k;refine⟨_,rfl,_,_,_,_,rfl,rfl,cF.of fJ,at_of (j:=0) rfl rfl,?_⟩;refine⟨_,rfl,r,1,4,rfl,_,rfl,?_⟩;cases q1:aO r 1 4 with
  |false=>
   rw[if_pos (.inl q1)] at k;exact c_ ⟨(by show 1<=aG;decide),fun p hp=>k.keep hT (aF hp) hp ae⟩
  |true=>
   have K3:=dG q1;obtain⟨n,rfl⟩:=ic (show 0<=r by omega);refine di ⟨_,rfl,rl,row,14,7,rfl,gk,xg,fun H1 s1=>⟨_,rfl,?_⟩⟩;cases q:fg row 14 7 with
   |false=>
    rw[if_pos (.inr q)] at k;exact c_ ⟨(by show 1<=aG;decide),fun p hp=>k.keep hT (s1.trans (aF hp)) (s1.free hp) ae⟩
   |true=>
    rw[if_neg (fun z=>z.elim (fun z=>by rw[q1] at z;cases z) fun z=>by rw[q] at z;cases z)] at k;obtain⟨h14,vq⟩:=Rm.oi q;have HF:H1 rl=some (.lst (aV (nats row))):=by rw[s1 _ _ gk,mX fun x hx=>(vq x hx).1]
    have K2:(nats row).length<=200:=by rw[Rm.lP];exact xg
    refine di ⟨_,rfl,_,rfl,n,rl,nats row,rfl,HF,K2,(by omega),(by omega),hT.keep fun b o h _=>s1 b o h,fun H4 XZ WY=>⟨(by show 2<=aG;decide),fun p hp=>?_⟩⟩;have s5:=aF (o:= .lst [.int 0,.int ((Dz n (nats row):Nat):Int)]) hp;refine k _ p (XZ.keep fun b o h _=>s5 b o h) (((kW.of s1).trans WY).trans (kW.of s5)) ?_ ae;cases z:H p with
    |none=>rfl
    |some o=>
     exfalso;by_cases e:p=M.P
     ·obtain⟨ps,hP⟩:=XZ.at_;rw[e,hP] at hp;cases hp
     ·rw[WY p o (s1 p o z) e] at hp;cases hp
theorem IZ(T:Tx K mg)(M:Lm T):cz P w K mg base fY 4 T.jR.f T.jR.fd ["numbers","row"] (mO M 1 HM):=by
 refine T.jR.F.ok zM (fun vs H Q E h=>?_) (fun dY A outer s H vs Q E hr h=>?_)
 ·obtain⟨nu,rl,ns,row,rfl,_⟩:=h;rfl
 ·obtain⟨nu,rl,ns,row,rfl,fJ,gk,hlen,xg,hT,k⟩:=h;obtain⟨r,rfl⟩:=eJ hlen;refine⟨_,(ai (b8 2 zM.nd (cR (pv 0) a8)) (ai (cX (d8 (cZ (dm T.iE (oT T) hr (aa (pv 2) (aa (pv 1) ax))))) (aB (bf (bC (aa (cD T.ck) ax)))) bI) (aB (bf (dm T.pZ (uB T) hr (aa (dm T.k_ (xK T) hr (aa (pv 2) (aa (pv 1) ax))) ax)))))),?_⟩;have hd:nU (HM [r] row)=if aO r 1 20=false\/fg row 60 99=false then[-1] else 0::dC (zg r.toNat (nats row)):=by
   show(if aO r 1 20=false\/fg row 60 99=false then(dq,[-1]) else(dq,_)).2=_;split<;>rfl
  rw[hd] at k;refine⟨_,rfl,_,_,_,_,rfl,rfl,cF.of fJ,at_of (j:=0) rfl rfl,?_⟩;refine⟨_,rfl,_,rfl,r,rl,row,rfl,gk,xg,fun H1 s1=>⟨_,rfl,?_⟩⟩;cases q:(aO r 1 20&&fg row 60 99) with
  |false=>
   rw[if_pos (eh.mp q)] at k;exact c_ ⟨(by show 1<=aG;decide),fun p hp=>k.keep hT (s1.trans (aF hp)) (s1.free hp) ae⟩
  |true=>
   rw[if_neg (fun z=>by rw[eh.mpr z] at q;cases q)] at k;rw[aW] at q;have K3:=dG q.1;obtain⟨n,rfl⟩:=ic (show 0<=r by omega);obtain⟨Qr,vq⟩:=Rm.oi q.2;have HF:H1 rl=some (.lst (aV (nats row))):=by rw[s1 _ _ gk,mX fun x hx=>(vq x hx).1]
   have XD:(zg n (nats row)).length<=200:=by
    have:=sI n (nats row) [] (aT _);show((nats row).foldl (f_ n) []).length<=200;omega
   refine di ⟨_,rfl,_,rfl,n,rl,nats row,rfl,HF,(by omega),fun H2 l2 s2 uK h2=>⟨l2,_,rfl,h2,XD,fun H3 p s3 hp h3=>?_⟩⟩;exact k.keep hT ((s1.trans s2).trans s3) (s1.free (s2.free hp)) h3
theorem Jb(T:Tx K mg)(M:Lm T):cz P w K mg base fY 4 T.jU.f T.jU.fd ["numbers","row"] (mO M 2 HN):=by
 refine T.jU.F.ok IG (fun vs H Q E h=>?_) (fun dY A outer s H vs Q E hr h=>?_)
 ·obtain⟨nu,rl,ns,row,rfl,_⟩:=h;rfl
 ·obtain⟨nu,rl,ns,row,rfl,fJ,gk,hlen,xg,hT,k⟩:=h;obtain⟨n,v,rfl⟩:=nQ hlen;refine⟨_,(ai (cX (PW.pt (Cb (d8 (cZ (dm T.iQ (iN T) hr (aa (pv 0) (aa (uw rfl T.yt) ax))))) (wm (d8 (cZ (dm T.jh (kJ T) hr (aa (pv 1) (aa (cD T.nr) (aa (cD T.j_) ax))))))))) (aB (bf (bC (aa (cD T.ck) ax)))) bI) (aB (bf (dm T.pZ (uB T) hr (aa (dm T.o4 (wx T) hr (aa (cR (pv 0) a8) (aa (cR (pv 0) a8) (aa (pv 1) ax)))) ax))))),?_⟩;have hd:nU (HN [n,v] row)=if((aO n 0 20&&aO v 1 1000)&&(fg row 60 1000000&&lD row))=false then[-1] else 0::dC (LA n.toNat v.toNat (nats row)):=by
   rw[<-qD,ly];show(if(aO n 0 20&&(aO v 1 1000&&iu row 60))=false then(dq,[-1]) else(dq,_)).2=_;split<;>rfl
  rw[hd] at k;refine⟨_,rfl,nu,T.oF,[n,v],[(0,20),(1,1000)],rfl,fJ,T.x9,rfl,fun H1 s1=>⟨_,rfl,?_⟩⟩;have PY:nv [n,v] [(0,20),(1,1000)]=(aO n 0 20&&aO v 1 1000):=by
   show(aO n 0 20&&(aO v 1 1000&&true))=_;rw[ko]
  rw[PY];cases q1:(aO n 0 20&&aO v 1 1000) with
  |false=>
   rw[if_pos (eh.mpr (.inl q1))] at k;exact c_ (c_ ⟨(by show 1<=aG;decide),fun p hp=>k.keep hT (s1.trans (aF hp)) (s1.free hp) ae⟩)
  |true=>
   refine di ⟨_,rfl,rl,row,60,1000000,rfl,s1 _ _ gk,xg,fun H2 s2=>⟨_,rfl,?_⟩⟩;have pb:=s1.trans s2;cases q2:(fg row 60 1000000&&lD row) with
   |false=>
    rw[if_pos (eh.mpr (.inr q2))] at k;exact c_ ⟨(by show 1<=aG;decide),fun p hp=>k.keep hT (pb.trans (aF hp)) (pb.free hp) ae⟩
   |true=>
    rw[if_neg (by rw[q1,q2];exact a0)] at k;rw[aW] at q1 q2;have K3:=dG q1.1;have hiv:=dG q1.2;obtain⟨n,rfl⟩:=ic K3.1;obtain⟨v,rfl⟩:=ic (show 0<=v by omega);obtain⟨Qr,vq⟩:=Rm.oi q2.1;have LO:H2 rl=some (.lst (aV (nats row))):=by rw[pb _ _ gk,mX fun x hx=>(vq x hx).1]
    have K2:(nats row).length<=60:=by rw[Rm.lP];exact Qr
    have XD:(LA n v (nats row)).length<=200:=aD (Gm.K7 n v (nats row)) (by omega);refine di ⟨_,rfl,nu,_,_,_,rfl,rfl,cF.of (pb _ _ fJ),at_of (j:=0) rfl rfl,_,rfl,nu,_,_,_,rfl,rfl,cF.of (pb _ _ fJ),at_of (j:=1) rfl rfl,_,rfl,n,v,rl,nats row,rfl,LO,(by omega),fun H3 l3 s3 LQ h3=>⟨l3,_,rfl,h3,XD,fun H4 p s4 hp h4=>?_⟩⟩;exact k.keep hT ((pb.trans s3).trans s4) (pb.free (s3.free hp)) h4
theorem E5(T:Tx K mg)(M:Lm T):cz P w K mg base fY 4 T.gP.f T.gP.fd ["numbers","row"] (mO M 2 xo):=by
 refine T.gP.F.ok EA (fun vs H Q E h=>?_) (fun dY A outer s H vs Q E hr h=>?_)
 ·obtain⟨nu,rl,ns,row,rfl,_⟩:=h;rfl
 ·obtain⟨nu,rl,ns,row,rfl,fJ,gk,hlen,xg,hT,k⟩:=h;obtain⟨n,v,rfl⟩:=nQ hlen;refine⟨_,(ai (cX (PW.pt (Cb (d8 (cZ (dm T.iQ (iN T) hr (aa (pv 0) (aa (uw rfl T.Dd) ax))))) (wm (d8 (cZ (dm T.jh (kJ T) hr (aa (pv 1) (aa (cD T.nr) (aa (cD T.j_) ax))))))))) (aB (bf (bC (aa (cD T.ck) ax)))) bI) (aB (bf (dm T.pZ (uB T) hr (aa (dm T.g0 (sx T) hr (aa (cR (pv 0) a8) (aa (cR (pv 0) a8) (aa (pv 1) ax)))) ax))))),?_⟩;have hd:nU (xo [n,v] row)=if((aO n 1 20&&aO v 1 1000)&&(fg row 60 1000000&&lD row))=false then[-1] else 0::dC (tY n.toNat v.toNat (nats row)):=by
   rw[<-qD,ly];show(if(aO n 1 20&&(aO v 1 1000&&iu row 60))=false then(dq,[-1]) else(dq,_)).2=_;split<;>rfl
  rw[hd] at k;refine⟨_,rfl,nu,T.pw,[n,v],[(1,20),(1,1000)],rfl,fJ,T.CK,rfl,fun H1 s1=>⟨_,rfl,?_⟩⟩;have PY:nv [n,v] [(1,20),(1,1000)]=(aO n 1 20&&aO v 1 1000):=by
   show(aO n 1 20&&(aO v 1 1000&&true))=_;rw[ko]
  rw[PY];cases q1:(aO n 1 20&&aO v 1 1000) with
  |false=>
   rw[if_pos (eh.mpr (.inl q1))] at k;exact c_ (c_ ⟨(by show 1<=aG;decide),fun p hp=>k.keep hT (s1.trans (aF hp)) (s1.free hp) ae⟩)
  |true=>
   refine di ⟨_,rfl,rl,row,60,1000000,rfl,s1 _ _ gk,xg,fun H2 s2=>⟨_,rfl,?_⟩⟩;have pb:=s1.trans s2;cases q2:(fg row 60 1000000&&lD row) with
   |false=>
    rw[if_pos (eh.mpr (.inr q2))] at k;exact c_ ⟨(by show 1<=aG;decide),fun p hp=>k.keep hT (pb.trans (aF hp)) (pb.free hp) ae⟩
   |true=>
    rw[if_neg (by rw[q1,q2];exact a0)] at k;rw[aW] at q1 q2;have K3:=dG q1.1;have hiv:=dG q1.2;obtain⟨n,rfl⟩:=ic (show 0<=n by omega);obtain⟨v,rfl⟩:=ic (show 0<=v by omega);obtain⟨Qr,vq⟩:=Rm.oi q2.1;have LO:H2 rl=some (.lst (aV (nats row))):=by rw[pb _ _ gk,mX fun x hx=>(vq x hx).1]
    have K2:(nats row).length<=60:=by rw[Rm.lP];exact Qr
    have XD:(tY n v (nats row)).length<=200:=by
     rw[Gm.uH];have h1:((nats row).foldl (Gm.Di n v) ⟨n*v,0,[]⟩).out.length<=0+(nats row).length:=Gm.xp n v (nats row) ⟨n*v,0,[]⟩;omega
    refine di ⟨_,rfl,nu,_,_,_,rfl,rfl,cF.of (pb _ _ fJ),at_of (j:=0) rfl rfl,_,rfl,nu,_,_,_,rfl,rfl,cF.of (pb _ _ fJ),at_of (j:=1) rfl rfl,_,rfl,n,v,rl,nats row,rfl,LO,(by omega),Rm.Jn (Rm.zX q2.2),(by omega),fun H3 l3 s3 LQ h3=>⟨l3,_,rfl,h3,XD,fun H4 p s4 hp h4=>?_⟩⟩;exact k.keep hT ((pb.trans s3).trans s4) (pb.free (s3.free hp)) h4
theorem GG(T:Tx K mg)(M:Lm T):cz P w K mg base fY 4 T.iP.f T.iP.fd ["numbers","row"] (mO M 1 BD):=by
 refine T.iP.F.ok Gx (fun vs H Q E h=>?_) (fun dY A outer s H vs Q E hr h=>?_)
 ·obtain⟨nu,rl,ns,row,rfl,_⟩:=h;rfl
 ·obtain⟨nu,rl,ns,row,rfl,fJ,gk,hlen,xg,hT,k⟩:=h;obtain⟨v,rfl⟩:=eJ hlen;refine⟨_,(ai (cX (PW.pt (Cb (d8 (cZ (dm T.iQ (iN T) hr (aa (pv 0) (aa (uw rfl T.FA) ax))))) (wm (d8 (cZ (dm T.jh (kJ T) hr (aa (pv 1) (aa (cD T.nr) (aa (cD T.j_) ax))))))))) (aB (bf (bC (aa (cD T.ck) ax)))) bI) (aB (bf (bC (aa a8 (aa (dm T.Av (KG T) hr (aa (cR (pv 0) a8) (aa (pv 1) ax))) ax)))))),?_⟩;have hd:nU (BD [v] row)=if(aO v 1 1000&&(fg row 60 1000000&&lD row))=false then[-1] else[0,aw (JR v.toNat (nats row))]:=by
   rw[<-qD];show(if(aO v 1 1000&&iu row 60)=false then(dq,[-1]) else(dq,_)).2=_;split<;>rfl
  rw[hd] at k;refine⟨_,rfl,nu,T.qM,[v],[(1,1000)],rfl,fJ,T.Eb,rfl,fun H1 s1=>⟨_,rfl,?_⟩⟩;have PY:nv [v] [(1,1000)]=aO v 1 1000:=by
   show(aO v 1 1000&&true)=_;rw[ko]
  rw[PY];cases q1:aO v 1 1000 with
  |false=>
   rw[if_pos (eh.mpr (.inl q1))] at k;exact c_ (c_ ⟨(by show 1<=aG;decide),fun p hp=>k.keep hT (s1.trans (aF hp)) (s1.free hp) ae⟩)
  |true=>
   refine di ⟨_,rfl,rl,row,60,1000000,rfl,s1 _ _ gk,xg,fun H2 s2=>⟨_,rfl,?_⟩⟩;have pb:=s1.trans s2;cases q2:(fg row 60 1000000&&lD row) with
   |false=>
    rw[if_pos (eh.mpr (.inr q2))] at k;exact c_ ⟨(by show 1<=aG;decide),fun p hp=>k.keep hT (pb.trans (aF hp)) (pb.free hp) ae⟩
   |true=>
    rw[if_neg (by rw[q1,q2];exact a0)] at k;rw[aW] at q2;have hiv:=dG q1;obtain⟨v,rfl⟩:=ic (show 0<=v by omega);obtain⟨Qr,vq⟩:=Rm.oi q2.1;have LO:H2 rl=some (.lst (aV (nats row))):=by rw[pb _ _ gk,mX fun x hx=>(vq x hx).1]
    have K2:(nats row).length<=60:=by rw[Rm.lP];exact Qr
    refine di ⟨_,rfl,nu,_,_,_,rfl,rfl,cF.of (pb _ _ fJ),at_of (j:=0) rfl rfl,_,rfl,v,rl,nats row,rfl,LO,(by omega),fun H3 s3=>⟨(by show 2<=aG;decide),fun p hp=>?_⟩⟩;exact k.keep hT ((pb.trans s3).trans (aF hp)) (pb.free (s3.free hp)) ae
theorem S8{row:List Int}{t:Int}(ht:t<=1000000):(iu row 60&&row.all fun x=>decide (x<=t))=(fg row 60 t&&lD row):=by
 rw[qD];unfold fg;have e:(row.all fun x=>aO x 0 t)=((row.all fun x=>aO x 0 1000000)&&row.all fun x=>decide (x<=t)):=by
  induction row with
  |nil=>rfl
  |cons a r ih=>
   rw[mj,mj,mj,ih];have e1:aO a 0 t=(aO a 0 1000000&&decide (a<=t)):=by
    unfold aO;by_cases h1:0<=a
    ·by_cases h2:a<=t
     ·have:a<=1000000:=by omega
      simp[h1,h2,this]
     ·simp[h1,h2]
    ·simp[h1]
   rw[e1];generalize aO a 0 1000000=x1;generalize decide (a<=t)=x2;generalize(r.all fun x=>aO x 0 1000000)=x3;generalize(r.all fun x=>decide (x<=t))=x4;cases x1<;>cases x2<;>cases x3<;>cases x4<;>rfl
 rw[e];generalize(row.all fun x=>aO x 0 1000000)=x1;generalize(row.all fun x=>decide (x<=t))=x2;generalize lD row=x3;generalize decide (row.length<=60)=x4;cases x1<;>cases x2<;>cases x3<;>cases x4<;>rfl
theorem IX(T:Tx K mg)(M:Lm T):cz P w K mg base fY 4 T.jO.f T.jO.fd ["numbers","row"] (mO M 3 HK):=by
 refine T.jO.F.ok zL (fun vs H Q E h=>?_) (fun dY A outer s H vs Q E hr h=>?_)
 ·obtain⟨nu,rl,ns,row,rfl,_⟩:=h;rfl
 ·obtain⟨nu,rl,ns,row,rfl,fJ,gk,hlen,xg,hT,k⟩:=h;obtain⟨n,v,t,rfl⟩:=Kf hlen;refine⟨_,(ai (b8 2 zL.nd (cR (pv 0) a8)) (ai (cX (PW.pt (Cb (d8 (cZ (dm T.iQ (iN T) hr (aa (pv 0) (aa (uw rfl T.GL) ax))))) (wm (d8 (cZ (dm T.jh (kJ T) hr (aa (pv 1) (aa (cD T.nr) (aa (pv 2) ax))))))))) (aB (bf (bC (aa (cD T.ck) ax)))) bI) (aB (bf (bC (aa a8 (aa (dm T.j' (wy T) hr (aa (cR (pv 0) a8) (aa (cR (pv 0) a8) (aa (pv 2) (aa (pv 1) ax))))) ax))))))),?_⟩;have hd:nU (HK [n,v,t] row)=if(aO n 0 20&&(aO v 1 1000&&(aO t 0 1000000&&(iu row 60&&row.all fun x=>decide (x<=t)))))=false then[-1] else[0,match iG n.toNat v.toNat t.toNat (nats row) with|none=>-1|some x=>aw x]:=by
   show(if(aO n 0 20&&(aO v 1 1000&&(aO t 0 1000000&&(iu row 60&&row.all fun x=>decide (x<=t)))))=false then(dq,[-1]) else(dq,match iG n.toNat v.toNat t.toNat (nats row) with|none=>[0,-1]|some x=>[0,aw x])).2=_;split
   ·rfl
   ·cases iG n.toNat v.toNat t.toNat (nats row)<;>rfl
  rw[hd] at k;refine⟨_,rfl,nu,_,_,_,rfl,rfl,cF.of fJ,at_of (j:=2) rfl rfl,?_⟩;refine⟨_,rfl,nu,T.sJ,[n,v,t],[(0,20),(1,1000),(0,1000000)],rfl,fJ,T.Gq,rfl,fun H1 s1=>⟨_,rfl,?_⟩⟩;have PY:nv [n,v,t] [(0,20),(1,1000),(0,1000000)]=(aO n 0 20&&(aO v 1 1000&&aO t 0 1000000)):=by
   show(aO n 0 20&&(aO v 1 1000&&(aO t 0 1000000&&true)))=_;rw[ko]
  rw[PY];have eas:(aO n 0 20&&(aO v 1 1000&&(aO t 0 1000000&&(iu row 60&&row.all fun x=>decide (x<=t)))))=((aO n 0 20&&(aO v 1 1000&&aO t 0 1000000))&&(iu row 60&&row.all fun x=>decide (x<=t))):=by
   rw[ly,ly]
  rw[eas] at k;cases q1:(aO n 0 20&&(aO v 1 1000&&aO t 0 1000000)) with
  |false=>
   rw[if_pos (eh.mpr (.inl q1))] at k;exact c_ (c_ ⟨(by show 1<=aG;decide),fun p hp=>k.keep hT (s1.trans (aF hp)) (s1.free hp) ae⟩)
  |true=>
   have q1':=q1;rw[aW,aW] at q1';have K3:=dG q1'.1;have hiv:=dG q1'.2.1;have hit:=dG q1'.2.2;rw[S8 hit.2] at k;refine di ⟨_,rfl,_,rfl,rl,row,60,t,rfl,s1 _ _ gk,xg,fun H2 s2=>⟨_,rfl,?_⟩⟩;have pb:=s1.trans s2;cases q2:(fg row 60 t&&lD row) with
   |false=>
    rw[if_pos (eh.mpr (.inr q2))] at k;exact c_ ⟨(by show 1<=aG;decide),fun p hp=>k.keep hT (pb.trans (aF hp)) (pb.free hp) ae⟩
   |true=>
    rw[if_neg (by rw[q1,q2];exact a0)] at k;rw[aW] at q2;obtain⟨n,rfl⟩:=ic K3.1;obtain⟨v,rfl⟩:=ic (show 0<=v by omega);obtain⟨t,rfl⟩:=ic hit.1;obtain⟨Qr,vq⟩:=Rm.oi q2.1;have LO:H2 rl=some (.lst (aV (nats row))):=by rw[pb _ _ gk,mX fun x hx=>(vq x hx).1]
    refine di ⟨_,rfl,nu,_,_,_,rfl,rfl,cF.of (pb _ _ fJ),at_of (j:=0) rfl rfl,_,rfl,nu,_,_,_,rfl,rfl,cF.of (pb _ _ fJ),at_of (j:=1) rfl rfl,_,rfl,_,rfl,n,v,t,rl,nats row,rfl,LO,Rm.Jn (Rm.zX q2.2),Rm.RA vq,(by show 2<=aG;decide),fun p hp=>?_⟩;exact k.keep hT (pb.trans (aF hp)) (pb.free hp) ae
theorem IY(T:Tx K mg)(M:Lm T):cz P w K mg base fY 4 T.jQ.f T.jQ.fd ["numbers","row"] (mO M 2 HL):=by
 refine T.jQ.F.ok IE (fun vs H Q E h=>?_) (fun dY A outer s H vs Q E hr h=>?_)
 ·obtain⟨nu,rl,ns,row,rfl,_⟩:=h;rfl
 ·obtain⟨nu,rl,ns,row,rfl,fJ,gk,hlen,xg,hT,k⟩:=h;obtain⟨n,v,rfl⟩:=nQ hlen;refine⟨_,(ai (cX (PW.pt (Cb (d8 (cZ (dm T.iQ (iN T) hr (aa (pv 0) (aa (uw rfl T.yt) ax))))) (wm (d8 (cZ (dm T.jh (kJ T) hr (aa (pv 1) (aa (cD T.uM) (aa (cD T.j_) ax))))))))) (aB (bf (bC (aa (cD T.ck) ax)))) bI) (aB (bf (bC (aa a8 (aa (dm T.k9 (xJ T) hr (aa (cR (pv 0) a8) (aa (cR (pv 0) a8) (aa (pv 1) ax)))) ax)))))),?_⟩;have hd:nU (HL [n,v] row)=if((aO n 0 20&&aO v 1 1000)&&(fg row 10 1000000&&lD row))=false then[-1] else[0,aw (xW n.toNat v.toNat (nats row))]:=by
   rw[<-qD,ly];show(if(aO n 0 20&&(aO v 1 1000&&iu row 10))=false then(dq,[-1]) else(dq,_)).2=_;split<;>rfl
  rw[hd] at k;refine⟨_,rfl,nu,T.oF,[n,v],[(0,20),(1,1000)],rfl,fJ,T.x9,rfl,fun H1 s1=>⟨_,rfl,?_⟩⟩;have PY:nv [n,v] [(0,20),(1,1000)]=(aO n 0 20&&aO v 1 1000):=by
   show(aO n 0 20&&(aO v 1 1000&&true))=_;rw[ko]
  rw[PY];cases q1:(aO n 0 20&&aO v 1 1000) with
  |false=>
   rw[if_pos (eh.mpr (.inl q1))] at k;exact c_ (c_ ⟨(by show 1<=aG;decide),fun p hp=>k.keep hT (s1.trans (aF hp)) (s1.free hp) ae⟩)
  |true=>
   refine di ⟨_,rfl,rl,row,10,1000000,rfl,s1 _ _ gk,xg,fun H2 s2=>⟨_,rfl,?_⟩⟩;have pb:=s1.trans s2;cases q2:(fg row 10 1000000&&lD row) with
   |false=>
    rw[if_pos (eh.mpr (.inr q2))] at k;exact c_ ⟨(by show 1<=aG;decide),fun p hp=>k.keep hT (pb.trans (aF hp)) (pb.free hp) ae⟩
   |true=>
    rw[if_neg (by rw[q1,q2];exact a0)] at k;rw[aW] at q1 q2;have K3:=dG q1.1;have hiv:=dG q1.2;obtain⟨n,rfl⟩:=ic K3.1;obtain⟨v,rfl⟩:=ic (show 0<=v by omega);obtain⟨Qr,vq⟩:=Rm.oi q2.1;have LO:H2 rl=some (.lst (aV (nats row))):=by rw[pb _ _ gk,mX fun x hx=>(vq x hx).1]
    have K2:(nats row).length<=10:=by rw[Rm.lP];exact Qr
    refine di ⟨_,rfl,nu,_,_,_,rfl,rfl,cF.of (pb _ _ fJ),at_of (j:=0) rfl rfl,_,rfl,nu,_,_,_,rfl,rfl,cF.of (pb _ _ fJ),at_of (j:=1) rfl rfl,_,rfl,n,v,rl,nats row,rfl,LO,(by omega),Rm.Jn (Rm.zX q2.2),(by omega),fun H3 s3=>⟨(by show 2<=aG;decide),fun p hp=>?_⟩⟩;exact k.keep hT ((pb.trans s3).trans (aF hp)) (pb.free (s3.free hp)) ae
end
open Vbtkaj (inside nodeAt charges depthOf NODES breakerAt)
structure Qa(H H':Hp):Prop where
 yJ:∀b xs,H b=some (.tup xs)->H' b=some (.tup xs)
 Dg:∀b o u,H b=some (.Bx o u)->H' b=some (.Bx o u)
section
variable{P:bq}{w:cf}{K:aq}{mg:Str->Option ao}{base:Heap}
theorem cz.FG{k:Nat}{f:Addr}{fd:gA}{ps:List Str}{sp:Sp}(F:cz P w K mg base fY k f fd ps sp):cz P w K mg base fY k f fd ps (fun vs H Q E=>sp vs H (fun v H'=>Qa H H'->Q v H') E):=by
 refine⟨fun vs H Q E h=>F.len vs H _ E h,fun A outer s H args us vs Q E hr e0 hb hv hs=>?_⟩;refine yB (F.run A outer s H args us vs _ E hr e0 hb hv hs) fun r s' h=>?_;cases r with
 |error e=>exact h
 |ok fl=>
  cases fl with
  |ret u=>
   obtain⟨v,H',os,bare,un,fR,rv,q⟩:=h;exact⟨v,H',os,bare,un,fR,rv,q ⟨un.yJ,un.Dg⟩⟩
  |next=>exact h
  |brk=>exact h
  |cont=>exact h
theorem cy.move{cT cN:Addr}{ρ ρ':Addr->Nat}{H H':Hp}{a:Addr}{t:Tree}{L:TL}(R:cy cT cN ρ H a t L)(hk:∀b o,H b=some o->ρ b<1000->(∀ps,o≠ .x_ ps)->H' b=some o)(hr:∀b o,H b=some o->ρ' b=ρ b)(ha:ρ a<1000)(yJ:∀b xs,H b=some (.tup xs)->H' b=some (.tup xs))(fr:∀b,H' b=none->ρ' b=0):
  cy cT cN ρ' H' a t L:=by
 have wN:=R.wN;refine⟨hk _ _ R.tr ha (fun _ q=>by cases q),hk _ _ R.nl (by rw[R.Q7];decide) (fun _ q=>by cases q),R.tI,fun i c hc=>hk _ _ (R.nd i c hc) (by rw[R.rn i c hc];have:=R.lt hc;omega) (fun _ q=>by cases q),fun i hi=>hk _ _ (R.Gb i hi) (by rw[R.OY i hi];omega) (fun _ q=>by cases q),fun i hi=>hk _ _ (R.NQ i hi) (by rw[R.Ql i hi];decide) (fun _ q=>by cases q),hk _ _ R.el (by rw[R.rel];decide) (fun _ q=>by cases q),R.y',fun k c e h1 h2=>yJ _ _ (R.X5 k c e h1 h2),?_,?_,fun i c hc=>?_,fun i hi=>?_,fun i hi=>?_,fr,R.wN⟩
 ·rw[hr _ _ R.nl];exact R.Q7
 ·rw[hr _ _ R.el];exact R.rel
 ·rw[hr _ _ (R.nd i c hc)];exact R.rn i c hc
 ·rw[hr _ _ (R.Gb i hi)];exact R.OY i hi
 ·rw[hr _ _ (R.NQ i hi)];exact R.Ql i hi
theorem kU.move{cS cA cW:Addr}{ρ ρ':Addr->Nat}{H H':Hp}{a:Addr}{s:Store}{L:SL}(R:kU cS cA cW ρ H a s L)(hk:∀b o,H b=some o->(ρ b=0\/(1000<=ρ b/\ρ b<2000))->(∀ps,o≠ .x_ ps)->H' b=some o)(hr:∀b o,H b=some o->ρ' b=ρ b)(sG:∀x∈s.works,x.key<=99)(fr:∀b,H' b=none->ρ' b=0):
  kU cS cA cW ρ' H' a s L:=by
 refine⟨⟨hk _ _ R.an (.inl R.ra) (fun _ q=>by cases q),R.ak.imp fun c k _ _ X=>⟨hk _ _ X.1 (.inl X.2) (fun _ q=>by cases q),by rw[hr _ _ X.1];exact X.2⟩,hk _ _ R.wl (by rw[R.LM];omega) (fun _ q=>by cases q),R.wk.imp fun c x _ hx X=>?_,?_,?_,by rw[hr _ _ R.an];exact R.ra,by rw[hr _ _ R.wl];exact R.LM,?_,?_,fr⟩,hk _ _ R.st (by rw[R.rs];omega) (fun _ q=>by cases q),by rw[hr _ _ R.st];exact R.rs⟩
 ·have:=sG x hx;exact⟨hk _ _ X.ob (by rw[X.ro];omega) (fun _ q=>by cases q),hk _ _ X.wt (by rw[X.Gz];omega) (fun _ q=>by cases q),by rw[hr _ _ X.ob];exact X.ro,by rw[hr _ _ X.wt];exact X.Gz⟩
 ·obtain⟨kvs,D⟩:=R.fa;exact⟨kvs,hk _ _ D.at_ (by rw[R.GB];omega) (fun _ q=>by cases q),D.val,D.nd,D.ks⟩
 ·obtain⟨kvs,D⟩:=R.ti;exact⟨kvs,hk _ _ D.at_ (by rw[R.GA];omega) (fun _ q=>by cases q),D.val,D.nd,D.ks⟩
 ·obtain⟨kvs,D⟩:=R.fa;rw[hr _ _ D.at_];exact R.GB
 ·obtain⟨kvs,D⟩:=R.ti;rw[hr _ _ D.at_];exact R.GA
structure nB(T:Tx K mg)(ρ:Addr->Nat)(H:Hp)(d:Addr)(S:State)(j:Nat)(ta st dx:Addr)(L:TL)(B:SL):Prop where
 de:H d=some (.ins T.fG dx (h_ (S.tree.now:Nat) ta st))
 rd:ρ d=2000
 rt:ρ ta=0
 tr:cy T.cM T.da ρ H ta S.tree L
 wf:Tm.WF S.tree
 mi:Tm.Mi S.tree
 lg:S.tree.log.length<=5000*j
 sr:SR T ρ H st S.store B
 sw:Sm.oG S.store
 nw:S.store.now=S.tree.now
 fb:∀k,(b0 S.store k).faults<=j
 tn:S.tree.now<=10000
def eF(T:Tx K mg)(ρ:Addr->Nat)(H:Hp)(d:Addr)(S:State)(j:Nat):Prop:=∃ta st dx L B,nB T ρ H d S j ta st dx L B
def Y1(ρ:Addr->Nat)(H:Hp)(ρ':Addr->Nat)(H':Hp):Prop:=∀b o,H b=some o->ρ' b=ρ b/\((ρ b=0\/2001<=ρ b)->H' b=some o)
def HZ(T:Tx K mg)(ρ:Addr->Nat)(H:Hp)(d:Addr)(S:State)(j:Nat)(c:bg)(Q:VK):Prop:=
 ∀(H':Hp) (ρ':Addr->Nat) (p:Addr),eF T ρ' H' d (a9 S c).1 (j+1)->(a9 S c).2.length<=20000->Y1 ρ H ρ' H'->H' p=some (.lst (bO (a9 S c).2))->ρ' p=0->H p=none->Q (.ref p) H'
def Es(T:Tx K mg)(n:Nat)(c:List Int->bg):Sp:=fun vs H Q _=>∃(d nu:Addr) (ρ:Addr->Nat) (S:State) (j:Nat) (ns:List Int),vs=[.ref d,.ref nu]/\eF T ρ H d S j/\j<400/\H nu=some (.lst (bO ns))/\ρ nu=0/\ns.length=n/\HZ T ρ H d S j (c ns) Q
theorem mq{T:Tx K mg}{n:Nat}{c:List Int->bg}(hc:∀ns,ns.length=n->Dm.isT (c ns)=true){vs:List V}{H:Hp}{Q:VK}{E:XK}(h:Es T n c vs H Q E):mN T n c vs H Q E:=by
 obtain⟨d,nu,ρ,S,j,ns,rfl,⟨ta,st,dx,L,B,D⟩,hj,fJ,qW,hlen,k⟩:=h;have hT:=hc ns hlen;have e:=Dm.P1 S (c ns) hT;have Bv:=Dm.QU S (c ns) hT;refine⟨d,nu,ta,st,dx,ρ,S.tree,L,ns,rfl,⟨D.de,by rw[D.rd];decide,D.tr,D.wf,D.mi,?_⟩,fJ,qW,hlen,fun H' ρ' L' p TR WF' Mi' U' fA hp rp np=>?_⟩
 ·have:=D.lg;show _<2^24;omega
 have U':(a9 (Dm.t0 S.tree) (c ns)).1.tree.log.length<=S.tree.log.length+5000:=U';have e1:(a9 S (c ns)).1={tree:=(a9 (Dm.t0 S.tree) (c ns)).1.tree,store:=S.store}:=by rw[e]
 have e2:(a9 S (c ns)).2=(a9 (Dm.t0 S.tree) (c ns)).2:=by rw[e]
 have Sa:(a9 (Dm.t0 S.tree) (c ns)).1.tree.now=S.tree.now:=by rw[e1] at Bv;exact Bv
 refine k H' ρ' p ?_ (Dm.QV S (c ns) hT (by rw[e1];exact U') (fun i=>(D.mi i).1) D.tr.wN) (fun b o hb=>⟨(fA b o hb).1,fun r=>(fA b o hb).2 (by omega)⟩) (by rw[e2];exact hp) rp np;rw[e1];refine⟨ta,st,dx,L',B,?_,?_,?_,TR,WF',Mi',?_,?_,D.sw,?_,fun i=>Tj (D.fb i),?_⟩
 ·show H' d=some (.ins T.fG dx (h_ ((a9 (Dm.t0 S.tree) (c ns)).1.tree.now:Nat) ta st));rw[Sa];exact(fA _ _ D.de).2 (.inr (by rw[D.rd];decide))
 ·rw[(fA _ _ D.de).1];exact D.rd
 ·rw[(fA _ _ D.tr.tr).1];exact D.rt
 ·have:=D.lg;show(a9 (Dm.t0 S.tree) (c ns)).1.tree.log.length<=_;omega
 ·exact D.sr.move (fun b o hb r _=>(fA b o hb).2 (by omega)) (fun b o hb=>(fA b o hb).1) D.sw.oK TR.free
 ·show S.store.now=(a9 (Dm.t0 S.tree) (c ns)).1.tree.now;rw[Sa];exact D.nw
 ·show(a9 (Dm.t0 S.tree) (c ns)).1.tree.now<=10000;rw[Sa];exact D.tn
theorem nB.ds{T:Tx K mg}{ρ:Addr->Nat}{H:Hp}{d:Addr}{S:State}{j:Nat}{ta st dx:Addr}{L:TL}{B:SL}(D:nB T ρ H d S j ta st dx L B)(hj:j<400):DS T ρ H d ta st dx S.tree S.store B:=
 ⟨D.de,by rw[D.rd];decide,D.sr,D.sw,D.nw,fun k=>by have:=D.fb k;omega⟩
theorem VP{T:Tx K mg}{ρ:Addr->Nat}{H:Hp}{d:Addr}{S:State}{j:Nat}{ta st dx:Addr}{L:TL}{B:SL}(D:nB T ρ H d S j ta st dx L B){c:bg}(hS:Dm.RR c=true){Q:VK}(k:HZ T ρ H d S j c Q):
  Ly T ρ H st (tT S.tree S.store c).1 (tT S.tree S.store c).2 (fun v H'=>Qa H H'->Q v H'):=by
 intro H' ρ' L' p SR' fS hp rp np fm;have kp:=Dm.MT S c hS D.sw;have e1:(a9 S c).1={tree:=S.tree,store:=(tT S.tree S.store c).1}:=by
  have:=kp.tree;show _=LB S.tree (a9 S c).1.store;rw[<-this]
 have e2:(tT S.tree S.store c).2=(a9 S c).2:=rfl;refine k H' ρ' p ?_ (Dm.ON S c hS D.sw) (fun b o hb=>⟨(fS b o hb).1,fun r=>(fS b o hb).2 (by omega)⟩) (by rw[<-e2];exact hp) rp np;have wf':=kp.wf;have ZX:=kp.now;have Vn:=kp.Vn;rw[e1] at wf' ZX Vn|-
 refine⟨ta,st,dx,L,L',?_,?_,?_,?_,D.wf,D.mi,?_,SR',wf',ZX.trans D.nw,fun i=>?_,D.tn⟩
 ·exact(fS _ _ D.de).2 (by rw[D.rd];omega)
 ·rw[(fS _ _ D.de).1];exact D.rd
 ·rw[(fS _ _ D.tr.tr).1];exact D.rt
 ·exact D.tr.move (fun b o hb r _=>(fS b o hb).2 (.inl r)) (fun b o hb=>(fS b o hb).1) (by rw[D.rt];decide) fm.yJ SR'.free
 ·have:=D.lg;show S.tree.log.length<=_;omega
 ·have h1:=Vn i;have h2:=D.fb i;omega
theorem kZ{T:Tx K mg}{n:Nat}{c:List Int->bg}(hc:∀ns,ns.length=n->Dm.RR (c ns)=true){vs:List V}{H:Hp}{Q:VK}{E:XK}(h:Es T n c vs H Q E):lJ T n c vs H (fun v H'=>Qa H H'->Q v H') E:=by
 obtain⟨d,nu,ρ,S,j,ns,rfl,⟨ta,st,dx,L,B,D⟩,hj,fJ,qW,hlen,k⟩:=h;exact⟨d,nu,ta,st,dx,ρ,S.tree,S.store,B,ns,rfl,D.ds hj,fJ,qW,hlen,VP D (hc ns hlen) k⟩
theorem MX{T:Tx K mg}{vs:List V}{H:Hp}{Q:VK}{E:XK}(h:Es T 0 Az vs H Q E):Hj T vs H (fun v H'=>Qa H H'->Q v H') E:=by
 obtain⟨d,nu,ρ,S,j,ns,rfl,⟨ta,st,dx,L,B,D⟩,hj,fJ,qW,hlen,k⟩:=h;exact⟨d,nu,ta,st,dx,ρ,S.tree,L,S.store,B,ns,rfl,D.ds hj,D.tr,VP D rfl k⟩
def WL:List (Nat×(List Int->bg)):=[(5,DQ),(2,Ay),(1,Oi),(2,SO),(1,SN),(1,SK),(1,cLog),(0,Yc)]
def ZN:List (Nat×(List Int->bg)):=[(5,xm),(1,Vr),(2,DU),(1,Oh),(1,JG),(1,DR),(0,SM),(0,MZ),(1,AA),(0,Az)]
def OZ:List (Nat×(List Int->List Int->bg)):=[(1,HJ),(0,xn),(1,HP),(1,HM),(2,HN),(2,xo),(1,BD),(3,HK),(2,HL)]
theorem adK:∀ns:List Int,ns.length=5->Dm.RR (xm ns)=true:=fun ns h=>by obtain⟨a,b,c,d,e,rfl⟩:=As h;rfl
theorem adJ:∀ns:List Int,ns.length=1->Dm.RR (Vr ns)=true:=fun ns h=>by obtain⟨a,rfl⟩:=eJ h;rfl
theorem adH:∀ns:List Int,ns.length=2->Dm.RR (DU ns)=true:=fun ns h=>by obtain⟨a,b,rfl⟩:=nQ h;rfl
theorem adE:∀ns:List Int,ns.length=1->Dm.RR (Oh ns)=true:=fun ns h=>by obtain⟨a,rfl⟩:=eJ h;rfl
theorem adF:∀ns:List Int,ns.length=1->Dm.RR (JG ns)=true:=fun ns h=>by obtain⟨a,rfl⟩:=eJ h;rfl
theorem adG:∀ns:List Int,ns.length=1->Dm.RR (DR ns)=true:=fun ns h=>by obtain⟨a,rfl⟩:=eJ h;rfl
theorem adI:∀ns:List Int,ns.length=1->Dm.RR (AA ns)=true:=fun ns h=>by obtain⟨a,rfl⟩:=eJ h;rfl
def xD(T:Tx K mg):Sp:=fun vs H Q _=>∃(d nu:Addr) (cn n:Nat) (c:List Int->bg) (ρ:Addr->Nat) (S:State) (j:Nat) (ns:List Int),vs=[.ref d,.int (cn:Nat),.ref nu]/\WL[cn]?=some (n,c)/\eF T ρ H d S j/\j<400/\H nu=some (.lst (bO ns))/\ρ nu=0/\ns.length=n/\HZ T ρ H d S j (c ns) Q
theorem xN(T:Tx K mg):cz P w K mg base fY 8 T.lj.f T.lj.fd ["desk","call","numbers"] (xD T):=by
 refine T.lj.F.ok xI (fun vs H Q E h=>?_) (fun dY A outer s H vs Q E hr h=>?_)
 ·obtain⟨d,nu,cn,n,c,ρ,S,j,ns,rfl,_⟩:=h;rfl
 ·obtain⟨d,nu,cn,n,c,ρ,S,j,ns,rfl,ht,D,hj,fJ,qW,hlen,k⟩:=h;refine⟨_,(aB (bf (EU (z9 rfl T.Jy T.Ii (pv 1) (fun _ _=>rfl)) (aa (pv 0) (aa (pv 2) ax))))),?_⟩
  match cn,ht with
  |0,ht=>cases ht;exact⟨_,rfl,aH 0,.ref T.gK.f,rfl,rfl,T.gK.f,T.gK.fd,_,_,_,rfl,(EZ T).imp fun _ _ _ _ h=>mq (fun _ _=>rfl) h,hr.mono (by decide),T.gK.F.kp,Dk T,_,rfl,_,rfl,d,nu,ρ,S,j,ns,rfl,D,hj,fJ,qW,hlen,k⟩
  |1,ht=>cases ht;exact⟨_,rfl,aH 1,.ref T.gH.f,rfl,rfl,T.gH.f,T.gH.fd,_,_,_,rfl,(EW T).imp fun _ _ _ _ h=>mq (fun _ _=>rfl) h,hr.mono (by decide),T.gH.F.kp,Dj T,_,rfl,_,rfl,d,nu,ρ,S,j,ns,rfl,D,hj,fJ,qW,hlen,k⟩
  |2,ht=>cases ht;exact⟨_,rfl,aH 2,.ref T.jY.f,rfl,rfl,T.jY.f,T.jY.fd,_,_,_,rfl,(Jf T).imp fun _ _ _ _ h=>mq (fun _ _=>rfl) h,hr.mono (by decide),T.jY.F.kp,G3 T,_,rfl,_,rfl,d,nu,ρ,S,j,ns,rfl,D,hj,fJ,qW,hlen,k⟩
  |3,ht=>cases ht;exact⟨_,rfl,aH 3,.ref T.jW.f,rfl,rfl,T.jW.f,T.jW.fd,_,_,_,rfl,(Jd T).imp fun _ _ _ _ h=>mq (fun _ _=>rfl) h,hr.mono (by decide),T.jW.F.kp,G0 T,_,rfl,_,rfl,d,nu,ρ,S,j,ns,rfl,D,hj,fJ,qW,hlen,k⟩
  |4,ht=>cases ht;exact⟨_,rfl,aH 4,.ref T.jT.f,rfl,rfl,T.jT.f,T.jT.fd,_,_,_,rfl,(Ja T).imp fun _ _ _ _ h=>mq (fun _ _=>rfl) h,hr.mono (by decide),T.jT.F.kp,GX T,_,rfl,_,rfl,d,nu,ρ,S,j,ns,rfl,D,hj,fJ,qW,hlen,k⟩
  |5,ht=>cases ht;exact⟨_,rfl,aH 5,.ref T.jN.f,rfl,rfl,T.jN.f,T.jN.fd,_,_,_,rfl,(IW T).imp fun _ _ _ _ h=>mq (fun _ _=>rfl) h,hr.mono (by decide),T.jN.F.kp,GR T,_,rfl,_,rfl,d,nu,ρ,S,j,ns,rfl,D,hj,fJ,qW,hlen,k⟩
  |6,ht=>cases ht;exact⟨_,rfl,aH 6,.ref T.lR.f,rfl,rfl,T.lR.f,T.lR.fd,_,_,_,rfl,(KD T).imp fun _ _ _ _ h=>mq (fun _ _=>rfl) h,hr.mono (by decide),T.lR.F.kp,JI T,_,rfl,_,rfl,d,nu,ρ,S,j,ns,rfl,D,hj,fJ,qW,hlen,k⟩
  |7,ht=>cases ht;exact⟨_,rfl,aH 7,.ref T.lG.f,rfl,rfl,T.lG.f,T.lG.fd,_,_,_,rfl,(KC T).imp fun _ _ _ _ h=>mq (fun _ _=>rfl) h,hr.mono (by decide),T.lG.F.kp,JH T,_,rfl,_,rfl,d,nu,ρ,S,j,ns,rfl,D,hj,fJ,qW,hlen,k⟩
  |cn+8,ht=>cases ht
def vS(T:Tx K mg):Sp:=fun vs H Q _=>∃(d nu:Addr) (cn n:Nat) (c:List Int->bg) (ρ:Addr->Nat) (S:State) (j:Nat) (ns:List Int),vs=[.ref d,.int ((cn+9:Nat):Int),.ref nu]/\ZN[cn]?=some (n,c)/\eF T ρ H d S j/\j<400/\H nu=some (.lst (bO ns))/\ρ nu=0/\ns.length=n/\HZ T ρ H d S j (c ns) Q
theorem wz(T:Tx K mg):cz P w K mg base fY 6 T.ke.f T.ke.fd ["desk","call","numbers"] (vS T):=by
 refine T.ke.F.ok v9 (fun vs H Q E h=>?_) (fun dY A outer s H vs Q E hr h=>?_)
 ·obtain⟨d,nu,cn,n,c,ρ,S,j,ns,rfl,_⟩:=h;rfl
 ·obtain⟨d,nu,cn,n,c,ρ,S,j,ns,rfl,ht,D,hj,fJ,qW,hlen,k⟩:=h;refine⟨_,(aB (bf (EU (z9 rfl T.GK T.Gp (pv 1) (fun _ _=>rfl)) (aa (pv 0) (aa (pv 2) ax))))),?_⟩
  match cn,ht with
  |0,ht=>cases ht;exact⟨_,rfl,aH 9,.ref T.fu.f,rfl,rfl,T.fu.f,T.fu.fd,_,_,_,rfl,(Pf.cz.FG (Bn T)).imp fun _ _ _ _ h=>kZ adK h,hr.mono (by decide),T.fu.F.kp,AB T,_,rfl,_,rfl,d,nu,ρ,S,j,ns,rfl,D,hj,fJ,qW,hlen,k⟩
  |1,ht=>cases ht;exact⟨_,rfl,aH 10,.ref T.lS.f,rfl,rfl,T.lS.f,T.lS.fd,_,_,_,rfl,(Pf.cz.FG (KH T)).imp fun _ _ _ _ h=>kZ adJ h,hr.mono (by decide),T.lS.F.kp,JJ T,_,rfl,_,rfl,d,nu,ρ,S,j,ns,rfl,D,hj,fJ,qW,hlen,k⟩
  |2,ht=>cases ht;exact⟨_,rfl,aH 11,.ref T.gM.f,rfl,rfl,T.gM.f,T.gM.fd,_,_,_,rfl,(Pf.cz.FG (E2 T)).imp fun _ _ _ _ h=>kZ adH h,hr.mono (by decide),T.gM.F.kp,Dn T,_,rfl,_,rfl,d,nu,ρ,S,j,ns,rfl,D,hj,fJ,qW,hlen,k⟩
  |3,ht=>cases ht;exact⟨_,rfl,aH 12,.ref T.jV.f,rfl,rfl,T.jV.f,T.jV.fd,_,_,_,rfl,(Pf.cz.FG (Jc T)).imp fun _ _ _ _ h=>kZ adE h,hr.mono (by decide),T.jV.F.kp,GZ T,_,rfl,_,rfl,d,nu,ρ,S,j,ns,rfl,D,hj,fJ,qW,hlen,k⟩
  |4,ht=>cases ht;exact⟨_,rfl,aH 13,.ref T.iO.f,rfl,rfl,T.iO.f,T.iO.fd,_,_,_,rfl,(Pf.cz.FG (GF T)).imp fun _ _ _ _ h=>kZ adF h,hr.mono (by decide),T.iO.F.kp,FV T,_,rfl,_,rfl,d,nu,ρ,S,j,ns,rfl,D,hj,fJ,qW,hlen,k⟩
  |5,ht=>cases ht;exact⟨_,rfl,aH 14,.ref T.gL.f,rfl,rfl,T.gL.f,T.gL.fd,_,_,_,rfl,(Pf.cz.FG (E1 T)).imp fun _ _ _ _ h=>kZ adG h,hr.mono (by decide),T.gL.F.kp,Dl T,_,rfl,_,rfl,d,nu,ρ,S,j,ns,rfl,D,hj,fJ,qW,hlen,k⟩
  |6,ht=>cases ht;exact⟨_,rfl,aH 15,.ref T.jS.f,rfl,rfl,T.jS.f,T.jS.fd,_,_,_,rfl,(Pf.cz.FG (I_ T)).imp fun _ _ _ _ h=>kZ (fun _ _=>rfl) h,hr.mono (by decide),T.jS.F.kp,GW T,_,rfl,_,rfl,d,nu,ρ,S,j,ns,rfl,D,hj,fJ,qW,hlen,k⟩
  |7,ht=>cases ht;exact⟨_,rfl,aH 16,.ref T.iK.f,rfl,rfl,T.iK.f,T.iK.fd,_,_,_,rfl,(Pf.cz.FG (GD T)).imp fun _ _ _ _ h=>kZ (fun _ _=>rfl) h,hr.mono (by decide),T.iK.F.kp,FU T,_,rfl,_,rfl,d,nu,ρ,S,j,ns,rfl,D,hj,fJ,qW,hlen,k⟩
  |8,ht=>cases ht;exact⟨_,rfl,aH 17,.ref T.gf.f,rfl,rfl,T.gf.f,T.gf.fd,_,_,_,rfl,(Pf.cz.FG (CW T)).imp fun _ _ _ _ h=>kZ adI h,hr.mono (by decide),T.gf.F.kp,BE T,_,rfl,_,rfl,d,nu,ρ,S,j,ns,rfl,D,hj,fJ,qW,hlen,k⟩
  |9,ht=>cases ht;exact⟨_,rfl,aH 18,.ref T.gO.f,rfl,rfl,T.gO.f,T.gO.fd,_,_,_,rfl,(Pf.cz.FG (E4 T)).imp fun _ _ _ _ h=>MX h,hr.mono (by decide),T.gO.F.kp,Dr T,_,rfl,_,rfl,d,nu,ρ,S,j,ns,rfl,D,hj,fJ,qW,hlen,k⟩
  |cn+10,ht=>cases ht
def yL{T:Tx K mg}(M:Lm T):Sp:=fun vs H Q _=>∃(nu rl:Addr) (cn n:Nat) (c:List Int->List Int->bg) (ns row:List Int),vs=[.int ((cn+19:Nat):Int),.ref nu,.ref rl]/\OZ[cn]?=some (n,c)/\H nu=some (.lst (bO ns))/\H rl=some (.lst (bO row))/\ns.length=n/\row.length<=200/\Tab M H/\Oo M H (nU (c ns row)) Q
theorem yY(T:Tx K mg)(M:Lm T)(hB:BH mg base):cz P w K mg base fY 7 T.lZ.f T.lZ.fd ["call","numbers","row"] (yL M):=by
 refine T.lZ.F.ok yP (fun vs H Q E h=>?_) (fun dY A outer s H vs Q E hr h=>?_)
 ·obtain⟨nu,rl,cn,n,c,ns,row,rfl,_⟩:=h;rfl
 ·obtain⟨nu,rl,cn,n,c,ns,row,rfl,ht,fJ,gk,hlen,xg,hT,k⟩:=h;refine⟨_,(aB (bf (EU (z9 rfl T.K9 T.Ka (pv 0) (fun _ _=>rfl)) (aa (pv 1) (aa (pv 2) ax))))),?_⟩
  match cn,ht with
  |0,ht=>cases ht;exact⟨_,rfl,aH 19,.ref T.jL.f,rfl,rfl,T.jL.f,T.jL.fd,_,_,_,rfl,IU T M hB,hr.mono (by decide),T.jL.F.kp,GQ T,_,rfl,_,rfl,nu,rl,ns,row,rfl,fJ,gk,hlen,xg,hT,k⟩
  |1,ht=>cases ht;exact⟨_,rfl,aH 20,.ref T.gN.f,rfl,rfl,T.gN.f,T.gN.fd,_,_,_,rfl,E3 T M,hr.mono (by decide),T.gN.F.kp,Dq T,_,rfl,_,rfl,nu,rl,ns,row,rfl,fJ,gk,hlen,xg,hT,k⟩
  |2,ht=>cases ht;exact⟨_,rfl,aH 21,.ref T.jZ.f,rfl,rfl,T.jZ.f,T.jZ.fd,_,_,_,rfl,Jg T M hB,hr.mono (by decide),T.jZ.F.kp,G4 T,_,rfl,_,rfl,nu,rl,ns,row,rfl,fJ,gk,hlen,xg,hT,k⟩
  |3,ht=>cases ht;exact⟨_,rfl,aH 22,.ref T.jR.f,rfl,rfl,T.jR.f,T.jR.fd,_,_,_,rfl,IZ T M,hr.mono (by decide),T.jR.F.kp,GV T,_,rfl,_,rfl,nu,rl,ns,row,rfl,fJ,gk,hlen,xg,hT,k⟩
  |4,ht=>cases ht;exact⟨_,rfl,aH 23,.ref T.jU.f,rfl,rfl,T.jU.f,T.jU.fd,_,_,_,rfl,Jb T M,hr.mono (by decide),T.jU.F.kp,GY T,_,rfl,_,rfl,nu,rl,ns,row,rfl,fJ,gk,hlen,xg,hT,k⟩
  |5,ht=>cases ht;exact⟨_,rfl,aH 24,.ref T.gP.f,rfl,rfl,T.gP.f,T.gP.fd,_,_,_,rfl,E5 T M,hr.mono (by decide),T.gP.F.kp,Ds T,_,rfl,_,rfl,nu,rl,ns,row,rfl,fJ,gk,hlen,xg,hT,k⟩
  |6,ht=>cases ht;exact⟨_,rfl,aH 25,.ref T.iP.f,rfl,rfl,T.iP.f,T.iP.fd,_,_,_,rfl,GG T M,hr.mono (by decide),T.iP.F.kp,FW T,_,rfl,_,rfl,nu,rl,ns,row,rfl,fJ,gk,hlen,xg,hT,k⟩
  |7,ht=>cases ht;exact⟨_,rfl,aH 26,.ref T.jO.f,rfl,rfl,T.jO.f,T.jO.fd,_,_,_,rfl,IX T M,hr.mono (by decide),T.jO.F.kp,GS T,_,rfl,_,rfl,nu,rl,ns,row,rfl,fJ,gk,hlen,xg,hT,k⟩
  |8,ht=>cases ht;exact⟨_,rfl,aH 27,.ref T.jQ.f,rfl,rfl,T.jQ.f,T.jQ.fd,_,_,_,rfl,IY T M,hr.mono (by decide),T.jQ.F.kp,GU T,_,rfl,_,rfl,nu,rl,ns,row,rfl,fJ,gk,hlen,xg,hT,k⟩
  |cn+9,ht=>cases ht
def abh:List Int->bg
 |[m]=>.pass m
 |_=>.counts
def SD:List (Nat×(List Int->bg)):=WL++(1,abh)::ZN
theorem Ua{cT cN:Addr}{ρ:Addr->Nat}{H:Hp}{a:Addr}{t:Tree}{L:TL}(R:cy cT cN ρ H a t L)(n:Nat):cy cT cN ρ H a {t with now:=n} L:=by
 refine⟨R.tr,R.nl,R.tI,fun i c hc=>?_,R.Gb,R.NQ,R.el,R.y',R.X5,R.Q7,R.rel,R.rn,R.OY,R.Ql,R.free,R.wN⟩;have e:h9 {t with now:=n} L i=h9 t L i:=by
  unfold h9;rw[Tm.kP (show Tm.ps {t with now:=n}=Tm.ps t from rfl)];rfl
 rw[e];exact R.nd i c hc
theorem Zu{t:Tree}(W:Tm.WF t)(n:Nat):Tm.WF {t with now:=n}:=by
 have e:cO {t with now:=n} eG=cO t eG:=funext fun i=>Tm.kP (show Tm.ps {t with now:=n}=Tm.ps t from rfl) eG i;refine⟨?_,W.kp,W.cl,W.rg⟩;rw[e];exact W.sh
theorem ZK{T:Tx K mg}{ρ:Addr->Nat}{H:Hp}{a:Addr}{s:Store}{L:SL}(R:SR T ρ H a s L)(n:Nat):SR T ρ H a {s with now:=n} L:=
 ⟨⟨R.an,R.ak,R.wl,R.wk,R.fa,R.ti,R.ra,R.LM,R.GB,R.GA,R.free⟩,R.st,R.rs⟩
theorem UD(n m:Int)(a b:Addr):iA "now" (V.int m) (h_ n a b)=h_ m a b:=gu (i:=0) (qK n a b) rfl
theorem nB.at_{T:Tx K mg}{ρ:Addr->Nat}{H:Hp}{d:Addr}{S:State}{j:Nat}{ta st dx:Addr}{L:TL}{B:SL}(D:nB T ρ H d S j ta st dx L B)(n:Nat)(hn:n<=10000):
  nB T ρ (upd H d (.ins T.fG dx (h_ (n:Nat) ta st))) d {tree:={S.tree with now:=n},store:={S.store with now:=n} } (j+1) ta st dx L B:=by
 have ne:∀b,ρ b≠2000->b≠d:=fun b hb e=>hb (by rw[e];exact D.rd);have fr:∀b,upd H d (.ins T.fG dx (h_ (n:Nat) ta st)) b=none->ρ b=0:=fun b hb=>D.tr.free b (eE hb).2;refine⟨ae,D.rd,D.rt,Ua (D.tr.move (fun b o hb r _=>?_) (fun _ _ _=>rfl) (by rw[D.rt];decide) (fun b xs hb=>?_) fr) n,Zu D.wf n,D.mi,?_,ZK (D.sr.move (fun b o hb r _=>?_) (fun _ _ _=>rfl) D.sw.oK fr) n,⟨D.sw.knd,D.sw.xR,D.sw.room,D.sw.Ih,D.sw.OG,D.sw.J2,D.sw.zt,D.sw.asks,D.sw.oK,D.sw.Aj⟩,rfl,fun i=>Tj (D.fb i),hn⟩
 ·rw[aA (ne b (by omega))];exact hb
 ·rw[aA (Ed hb D.de)];exact hb
 ·have:=D.lg;show S.tree.log.length<=_;omega
 ·rw[aA (ne b (by omega))];exact hb
theorem nB.same{T:Tx K mg}{ρ:Addr->Nat}{H H':Hp}{d:Addr}{S:State}{j:Nat}{ta st dx:Addr}{L:TL}{B:SL}(D:nB T ρ H d S j ta st dx L B)(s:dc H H'):nB T ρ H' d S j ta st dx L B:=
 ⟨s _ _ D.de,D.rd,D.rt,D.tr.same s,D.wf,D.mi,D.lg,D.sr.same s,D.sw,D.nw,D.fb,D.tn⟩
theorem nB.more{T:Tx K mg}{ρ:Addr->Nat}{H:Hp}{d:Addr}{S:State}{j:Nat}{ta st dx:Addr}{L:TL}{B:SL}(D:nB T ρ H d S j ta st dx L B){i:Nat}(h:j<=i):nB T ρ H d S i ta st dx L B:=
 ⟨D.de,D.rd,D.rt,D.tr,D.wf,D.mi,aD D.lg (Qj _ h),D.sr,D.sw,D.nw,fun k=>aD (D.fb k) h,D.tn⟩
theorem Y1.of{ρ:Addr->Nat}{H H':Hp}(s:dc H H'):Y1 ρ H ρ H':=fun b o e=>⟨rfl,fun _=>s b o e⟩
def Im(T:Tx K mg):Sp:=fun vs H Q _=>∃(d:Addr) (m:Int) (ρ:Addr->Nat) (S:State) (j:Nat),vs=[.ref d,.int m]/\eF T ρ H d S j/\j<400/\HZ T ρ H d S j (.pass m) Q
theorem IV(T:Tx K mg):cz P w K mg base fY 2 T.w_.f T.w_.fd ["desk","minutes"] (Im T):=by
 refine T.w_.F.ok ID (fun vs H Q E h=>?_) (fun dY A outer s H vs Q E hr h=>?_)
 ·obtain⟨d,m,ρ,S,j,rfl,_⟩:=h;rfl
 ·obtain⟨d,m,ρ,S,j,rfl,⟨ta,st,dx,L,B,D⟩,hj,k⟩:=h;have hu:=Fu hr;refine⟨_,(ai (cX (d8 (cZ (dm T.gR (gc T) hr (aa (pv 1) (aa a8 (aa (cD T.Dc) ax)))))) (aB (bf (bC (aa (cD T.ck) ax)))) bI) (ai (cX (c8 NL (fM j7 (a_ (pv 0)) (pv 1)) (cD T.Fz)) (aB (bf (bC (aa (cD T.Fx) ax)))) bI) (ai (w9 (pv 0) (pv 1) Jw) (aB (bf (bC (aa a8 (aa (a_ (pv 0)) ax)))))))),?_⟩;have hd:a9 S (.pass m)=if aO m 1 1000=false then(S,[-1]) else if Wm<S.tree.now+m.toNat then(S,[-7]) else({tree:={S.tree with now:=S.tree.now+m.toNat},store:={S.store with now:=S.store.now+m.toNat} },[0,aw (S.tree.now+m.toNat)]):=rfl
  refine⟨_,rfl,m,1,1000,rfl,?_⟩;cases q:aO m 1 1000 with
  |false=>
   rw[if_pos q] at hd;refine⟨_,rfl,c_ ⟨(by show 1<=aG;decide),fun p hp=>?_⟩⟩;refine k _ ρ p ⟨ta,st,dx,L,B,?_⟩ (by rw[hd];show 1<=20000;decide) (Y1.of (aF hp)) (by rw[hd];exact ae) (D.tr.free p hp) hp;rw[hd];exact(D.same (aF hp)).more (fT j)
  |true=>
   rw[if_neg (by rw[q];decide)] at hd;obtain⟨i,rfl⟩:=ic (show 0<=m by unfold aO at q;simp at q;omega);have hi:((i:Nat):Int).toNat=i:=rfl;rw[hi] at hd;refine⟨_,rfl,di ?_⟩;refine⟨_,rfl,_,_,_,_,_,rfl,D.de,T.cQ,fO T,kO _ _ _,_,rfl,_,_,rfl,rfl,_,_,rfl,rfl,_,rfl,?_⟩;by_cases z:Wm<S.tree.now+i
   ·rw[if_pos z] at hd;rw[decide_eq_true (show(10000:Int)<(S.tree.now:Int)+(i:Int) from by have:10000<S.tree.now+i:=z;omega)];refine c_ ⟨(by show 1<=aG;decide),fun p hp=>?_⟩;refine k _ ρ p ⟨ta,st,dx,L,B,?_⟩ (by rw[hd];show 1<=20000;decide) (Y1.of (aF hp)) (by rw[hd];exact ae) (D.tr.free p hp) hp;rw[hd];exact(D.same (aF hp)).more (fT j)
   ·rw[if_neg z] at hd;have z':S.tree.now+i<=10000:=Nat.not_lt.mp z;rw[decide_eq_false (show ¬(10000:Int)<(S.tree.now:Int)+(i:Int) from by omega)];refine di ⟨_,rfl,d,_,dx,_,_,rfl,D.de,T.cQ,fO T,kO _ _ _,_,rfl,_,_,rfl,rfl,dx,_,D.de,(by show 3<1000;decide),?_⟩;rw[UD,show(S.tree.now:Int)+(i:Int)=((S.tree.now+i:Nat):Int) from by omega];have D2:=D.at_ (S.tree.now+i) z';refine⟨_,rfl,_,_,_,_,_,rfl,D2.de,T.cQ,fO T,kO _ _ _,(by show 2<=aG;decide),fun p hp=>?_⟩;have s3:=aF (o:= .lst [.int 0,.int ((S.tree.now+i:Nat):Int)]) hp;have xS:=(eE hp).2;refine k _ ρ p ⟨ta,st,dx,L,B,?_⟩ (by rw[hd];show 2<=20000;decide) (fun b o hb=>⟨rfl,fun r=>s3 b o ?_⟩) (by rw[hd];exact ae) (D.tr.free p xS) xS
    ·rw[hd,D.nw];exact D2.same s3
    ·rw[aA (fun e=>by rw[e,D.rd] at r;omega)];exact hb
def OQ(T:Tx K mg):Sp:=fun vs H Q _=>∃(a:Addr) (ns:List Int) (n l:Nat),vs=[.ref a,.int (n:Nat)]/\cF K H a (bO ns)/\ns[n]?=some (l:Int)/\∀p,H p=none->Q (.ref p) (upd H p (.lst (bO ((ns.drop (n+1)).take l))))
theorem O_(T:Tx K mg):cz P w K mg base fY 1 T.IM.f T.IM.fd ["calls","place"] (OQ T):=by
 refine T.IM.F.ok OU (fun vs H Q E h=>?_) (fun dY A outer s H vs Q E hr h=>?_)
 ·obtain⟨a,ns,n,l,rfl,_⟩:=h;rfl
 ·obtain⟨a,ns,n,l,rfl,hs,hl,k⟩:=h;refine⟨_,(aB (bf (lN oh (pv 0) (k6 (fM j7 (pv 1) a8)) (k6 (fM j7 (fM j7 (pv 1) a8) (cR (pv 0) (pv 1))))))),?_⟩;refine⟨_,rfl,_,rfl,_,_,rfl,rfl,_,rfl,_,rfl,_,_,rfl,rfl,_,rfl,_,rfl,a,_,_,_,rfl,rfl,hs,at_of (j:=n) rfl (by rw[aM,hl];rfl),_,_,rfl,rfl,_,rfl,a,_,rfl,hs,fun p hp=>?_⟩;rw[show(n:Int)+1=((n+1:Nat):Int) from by omega,rV,<-JZ,<-t7];exact k p hp
def vT(T:Tx K mg):Sp:=fun vs H Q _=>∃(d nu:Addr) (cn n:Nat) (c:List Int->bg) (ρ:Addr->Nat) (S:State) (j:Nat) (ns:List Int),vs=[.ref d,.int (cn:Nat),.ref nu]/\SD[cn]?=some (n,c)/\eF T ρ H d S j/\j<400/\H nu=some (.lst (bO ns))/\ρ nu=0/\ns.length=n/\HZ T ρ H d S j (c ns) Q
theorem CY(T:Tx K mg):cz P w K mg base fY 9 T.mB.f T.mB.fd ["desk","call","numbers"] (vT T):=by
 refine T.mB.F.ok EC (fun vs H Q E h=>?_) (fun dY A outer s H vs Q E hr h=>?_)
 ·obtain⟨d,nu,cn,n,c,ρ,S,j,ns,rfl,_⟩:=h;rfl
 ·obtain⟨d,nu,cn,n,c,ρ,S,j,ns,rfl,ht,D,hj,fJ,qW,hlen,k⟩:=h;refine⟨_,(ai (cX (c8 tD (pv 1) (cD T.Cr)) (aB (bf (dm T.lj (xN T) hr (aa (pv 0) (aa (pv 1) (aa (pv 2) ax)))))) bI) (ai (cX (c8 mY (pv 1) (cD T.Cr)) (aB (bf (dm T.w_ (IV T) hr (aa (pv 0) (aa (cR (pv 2) a8) ax))))) bI) (aB (bf (dm T.ke (wz T) hr (aa (pv 0) (aa (pv 1) (aa (pv 2) ax)))))))),?_⟩;refine⟨_,rfl,_,_,rfl,rfl,_,rfl,?_⟩;by_cases z:cn<8
  ·rw[decide_eq_true (show(cn:Int)<8 by omega)];exact c_ ⟨_,rfl,_,rfl,_,rfl,d,nu,cn,n,c,ρ,S,j,ns,rfl,(by rw[<-ht];exact(cq (show cn<WL.length from z)).symm),D,hj,fJ,qW,hlen,k⟩
  ·rw[decide_eq_false (show ¬(cn:Int)<8 by omega)];refine di ⟨_,rfl,rfl,_,rfl,?_⟩;rw[eY];by_cases y:cn=8
   ·subst y;cases ht;obtain⟨m,rfl⟩:=eJ hlen;rw[decide_eq_true (show((8:Nat):Int)=8 from rfl)];exact c_ ⟨_,rfl,_,rfl,_,_,_,_,rfl,rfl,cF.of fJ,at_of (j:=0) rfl rfl,d,m,ρ,S,j,rfl,D,hj,k⟩
   ·rw[decide_eq_false (show ¬(cn:Int)=8 by omega)];obtain⟨i,rfl⟩:∃i,cn=i+9:=⟨cn -9,by omega⟩;exact di ⟨_,rfl,_,rfl,_,rfl,d,nu,i,n,c,ρ,S,j,ns,rfl,ht,D,hj,fJ,qW,hlen,k⟩
theorem E6(T:Tx K mg):cz P w K mg base fY 9 T.mB.f T.mB.fd ["desk","call","numbers"] (fun vs H Q E=>vT T vs H (fun v H'=>Qa H H'->Q v H') E):=Pf.cz.FG (CY T)
def Iz(T:Tx K mg):Sp:=fun vs H Q _=>∃(x dx:Addr),vs=[.ref x]/\H x=some (.ins T.fG dx [])/\∀(H':Hp) (ρ:Addr->Nat),eF T ρ H' x dq 0->(∀b o,H b=some o->b≠x->H' b=some o/\ρ b=0)->Q .gE H'
theorem Jk(T:Tx K mg):cz P w K mg base fY 3 T.qa.f T.qa.fd ["self"] (Iz T):=by
 refine T.qa.F.ok IK (fun vs H Q E h=>?_) (fun dY A outer s H vs Q E hr h=>?_)
 ·obtain⟨x,dx,rfl,_⟩:=h;rfl
 ·obtain⟨x,dx,rfl,hx,k⟩:=h;refine⟨_,(ai (c9 (pv 0) a8 rfl) (ai (c9 (pv 0) (ER T.p_.I (Ji T) (hr.mono (by decide:2<=2)) rfl T.X2 (G6 T) .nil wu) rfl) (aB (c9 (pv 0) (ER T.n9.I (GH T) (hr.mono (by decide:2<=2)) rfl T.Vg (FX T) .nil wu) rfl)))),?_⟩;have nd:=qK 0 0 0;have hx:H x=some (.ins T.fG dx ((h_ 0 0 0).take 0)):=hx;refine⟨_,rfl,x,_,dx,_,rfl,hx,T.cQ,fO T,dk (by show 3<1000;decide),?_⟩;rw[cI (k:=0) (v:=V.int 0) nd rfl];refine fun ta tdx ta1 td1 ahf=>?_;obtain⟨Zy,ta0⟩:=eE ta1;obtain⟨acR,td0⟩:=eE td1;refine⟨ta,tdx,rfl,ae,fun H2 nl el ht Sb Qq nl2 el2 ads keep=>⟨rfl,_,rfl,?_⟩⟩;obtain⟨adp,nl1⟩:=eE nl2;obtain⟨ahG,adt⟩:=eE nl1;obtain⟨nlx,nl0⟩:=eE adt;obtain⟨ae5,el1⟩:=eE el2;obtain⟨ajn,ae6⟩:=eE el1;obtain⟨elx,el0⟩:=eE ae6;have V2:H2 x=some (.ins T.fG dx ((h_ 0 0 0).take 1)):=keep _ _ (by rw[aA Zy.symm,aA acR.symm,ae]) Zy.symm;refine⟨x,_,dx,_,rfl,V2,T.cQ,dX T,dk (by show 3<1000;decide),?_⟩;rw[show(h_ 0 0 0).take 1=(h_ 0 ta 0).take 1 from rfl,cI (k:=1) (v:=V.ref ta) (qK 0 ta 0) rfl];have YB:∀b o,H b=some o->b≠x->upd H2 x (.ins T.fG dx ((h_ 0 ta 0).take (1+1))) b=some o:=fun b o hb TH=>by
   rw[aA TH];refine keep b o ?_ (aE hb ta0);rw[aA (aE hb ta0),aA (aE hb td0),aA TH];exact hb
  have ht3:upd H2 x (.ins T.fG dx ((h_ 0 ta 0).take (1+1))) ta=some (.ins T.cM tdx (sX nl el)):=by rw[aA Zy];exact ht
  have XB:upd H2 x (.ins T.fG dx ((h_ 0 ta 0).take (1+1))) nl=some (.lst []):=by rw[aA nlx];exact Sb
  have XN:upd H2 x (.ins T.fG dx ((h_ 0 ta 0).take (1+1))) el=some (.lst []):=by rw[aA elx];exact Qq
  have U4:upd H2 x (.ins T.fG dx ((h_ 0 ta 0).take (1+1))) x=some (.ins T.fG dx ((h_ 0 ta 0).take (1+1))):=ae;generalize upd H2 x (.ins T.fG dx ((h_ 0 ta 0).take (1+1)))=H3 at YB ht3 XB XN U4|-
  refine fun st sdx Kk sd3 ahr=>?_;refine⟨st,sdx,rfl,ae,fun H4 an wl fa ti wH Cq MK hfa TC an4 wl4 fa4 ti4 afs aeY Z9=>⟨rfl,_,rfl,?_⟩⟩;obtain⟨afu,afx⟩:=eE an4;have an3:=(eE afx).2;obtain⟨acI,acK⟩:=eE wl4;have Zs:=(eE acK).2;obtain⟨fast,ae0⟩:=eE fa4;have fa3:=(eE ae0).2;obtain⟨acO,acQ⟩:=eE ti4;have WJ:=(eE acQ).2;have ZU:∀b o,H3 b=some o->H4 b=some o:=fun b o hb=>Z9 b o (by rw[aA (aE hb Kk),aA (aE hb sd3)];exact hb) (aE hb Kk);refine⟨x,_,dx,_,rfl,ZU _ _ U4,T.cQ,dh T,dk (by show 3<1000;decide),?_⟩;rw[show(h_ 0 ta 0).take (1+1)=(h_ 0 ta st).take 2 from rfl,cI (k:=2) (v:=V.ref st) (qK 0 ta st) rfl];have stx:st≠x:=(aE U4 Kk).symm;have anx:an≠x:=(aE U4 an3).symm;have wlx:wl≠x:=(aE U4 Zs).symm;have fax:fa≠x:=(aE U4 fa3).symm;have tix:ti≠x:=(aE U4 WJ).symm;have h5:∀b,b≠x->upd H4 x (.ins T.fG dx ((h_ 0 ta st).take (2+1))) b=H4 b:=fun b hb=>aA hb;have hx5:upd H4 x (.ins T.fG dx ((h_ 0 ta st).take (2+1))) x=some (.ins T.fG dx (h_ 0 ta st)):=ae;generalize upd H4 x (.ins T.fG dx ((h_ 0 ta st).take (2+1)))=H5 at h5 hx5|-
  have NR:∀b,H3 b=none->b≠ta:=fun b hb=>(aE ht3 hb).symm;have KO:∀b,H3 b=none->b≠nl:=fun b hb=>(aE XB hb).symm;have KP:∀b,H3 b=none->b≠el:=fun b hb=>(aE XN hb).symm;have afw:an≠fa:=j9 Cq hfa (by intro q;cases q);have aft:an≠ti:=j9 Cq TC (by intro q;cases q);have acJ:wl≠fa:=j9 MK hfa (by intro q;cases q);have acH:wl≠ti:=j9 MK TC (by intro q;cases q)
  let ρ:Addr->Nat:=fun b=>if b=x then 2000 else if b=nl then 1 else if b=el then 2 else if b=st then 1000 else if b=wl then 1002 else if b=fa then 1004 else if b=ti then 1005 else 0
  have ro:∀b,b≠x->b≠nl->b≠el->b≠st->b≠wl->b≠fa->b≠ti->ρ b=0:=fun b h1 h2 h3 h4 h5 h6 h7=>by
   show(if b=x then 2000 else if b=nl then 1 else if b=el then 2 else if b=st then 1000 else if b=wl then 1002 else if b=fa then 1004 else if b=ti then 1005 else 0)=0;rw[if_neg h1,if_neg h2,if_neg h3,if_neg h4,if_neg h5,if_neg h6,if_neg h7]
  have nl5:H5 nl=some (.lst []):=by rw[h5 _ nlx];exact ZU _ _ XB
  have el5:H5 el=some (.lst []):=by rw[h5 _ elx];exact ZU _ _ XN
  have ta5:H5 ta=some (.ins T.cM tdx (sX nl el)):=by rw[h5 _ Zy];exact ZU _ _ ht3
  have Uq:H5 st=some (.ins T.b_ sdx (cB (gj an wl fa ti))):=by rw[h5 _ stx];exact wH
  have an5:H5 an=some (.lst []):=by rw[h5 _ anx];exact Cq
  have wl5:H5 wl=some (.lst []):=by rw[h5 _ wlx];exact MK
  have fa5:H5 fa=some (.dK []):=by rw[h5 _ fax];exact hfa
  have ti5:H5 ti=some (.dK []):=by rw[h5 _ tix];exact TC
  have fr:∀b,H5 b=none->ρ b=0:=fun b hb=>ro b (aE hx5 hb).symm (aE nl5 hb).symm (aE el5 hb).symm (aE Uq hb).symm (aE wl5 hb).symm (aE fa5 hb).symm (aE ti5 hb).symm;refine k H5 ρ ⟨ta,st,dx,⟨tdx,nl,el,[],[],fun _=>0,fun _=>0,fun _=>0⟩,⟨sdx,an,wl,fa,ti,[],[]⟩,⟨hx5,?_,?_,⟨ta5,nl5,rfl,(fun i c hc=>by cases hc),(fun i hi=>by cases hi),(fun i hi=>by cases hi),el5,rfl,(fun m c e hc=>by cases hc),?_,?_,(fun i c hc=>by cases hc),(fun i hi=>by cases hi),(fun i hi=>by cases hi),fr,aT _⟩,Tm.wf0 rfl,fun i=>⟨aT _,aT _⟩,aT _,⟨⟨an5,AL.nil,wl5,AL.nil,⟨[],fa5,fun _=>rfl,nF,(fun p hp=>by cases hp)⟩,⟨[],ti5,fun _=>rfl,nF,(fun p hp=>by cases hp)⟩,?_,?_,?_,?_,fr⟩,Uq,?_⟩,Sm.ac3,rfl,fun i=>aT _,aT _⟩⟩ (fun b o hb TH=>⟨?_,?_⟩)
  ·exact if_pos rfl
  ·exact ro ta Zy adp.symm ae5.symm (NR st Kk).symm (NR wl Zs).symm (NR fa fa3).symm (NR ti WJ).symm
  ·exact(if_neg nlx).trans (if_pos rfl)
  ·exact(if_neg elx).trans ((if_neg ads.symm).trans (if_pos rfl))
  ·exact ro an anx (KO an an3) (KP an an3) afu afs afw aft
  ·exact(if_neg wlx).trans ((if_neg (KO wl Zs)).trans ((if_neg (KP wl Zs)).trans ((if_neg acI).trans (if_pos rfl))))
  ·exact(if_neg fax).trans ((if_neg (KO fa fa3)).trans ((if_neg (KP fa fa3)).trans ((if_neg fast).trans ((if_neg acJ.symm).trans (if_pos rfl)))))
  ·exact(if_neg tix).trans ((if_neg (KO ti WJ)).trans ((if_neg (KP ti WJ)).trans ((if_neg acO).trans ((if_neg acH.symm).trans ((if_neg aeY.symm).trans (if_pos rfl))))))
  ·exact(if_neg stx).trans ((if_neg (KO st Kk)).trans ((if_neg (KP st Kk)).trans (if_pos rfl)))
  ·rw[h5 b TH];exact ZU _ _ (YB b o hb TH)
  ·exact ro b TH (aE hb nl0) (aE hb el0) (aE (YB b o hb TH) Kk) (aE (YB b o hb TH) Zs) (aE (YB b o hb TH) fa3) (aE (YB b o hb TH) WJ)
end
theorem Ar{ns:List Int}(h:ns.length=0):ns=[]:=ft.mp h
theorem WT(S:State):∀(cn n:Nat) (cc:List Int->bg) (ns:List Int),SD[cn]?=some (n,cc)->ns.length=n->cj S (bD [(cn:Int)::ns])=a9 S (cc ns):=by
 intro cn n cc ns h hn
 match cn,h with
 |0,h=>cases h;obtain⟨a,b,c,d,e,rfl⟩:=As hn;rfl
 |1,h=>cases h;obtain⟨a,b,rfl⟩:=nQ hn;rfl
 |2,h=>cases h;obtain⟨a,rfl⟩:=eJ hn;rfl
 |3,h=>cases h;obtain⟨a,b,rfl⟩:=nQ hn;rfl
 |4,h=>cases h;obtain⟨a,rfl⟩:=eJ hn;rfl
 |5,h=>cases h;obtain⟨a,rfl⟩:=eJ hn;rfl
 |6,h=>cases h;obtain⟨a,rfl⟩:=eJ hn;rfl
 |7,h=>cases h;cases Ar hn;rfl
 |8,h=>cases h;obtain⟨a,rfl⟩:=eJ hn;rfl
 |9,h=>cases h;obtain⟨a,b,c,d,e,rfl⟩:=As hn;rfl
 |10,h=>cases h;obtain⟨a,rfl⟩:=eJ hn;rfl
 |11,h=>cases h;obtain⟨a,b,rfl⟩:=nQ hn;rfl
 |12,h=>cases h;obtain⟨a,rfl⟩:=eJ hn;rfl
 |13,h=>cases h;obtain⟨a,rfl⟩:=eJ hn;rfl
 |14,h=>cases h;obtain⟨a,rfl⟩:=eJ hn;rfl
 |15,h=>cases h;cases Ar hn;rfl
 |16,h=>cases h;cases Ar hn;rfl
 |17,h=>cases h;obtain⟨a,rfl⟩:=eJ hn;rfl
 |18,h=>cases h;cases Ar hn;rfl
 |cn+19,h=>cases h
theorem Up(S:State)(ns row:List Int)(hn:ns.length=1)(ha:cV (bD [((0+19:Nat):Int)::ns,row])=true):cj S (bD [((0+19:Nat):Int)::ns,row])=a9 S (HJ ns row)/\row.length<=200/\Dm.NW (HJ ns row)=true:=by
 obtain⟨a,rfl⟩:=eJ hn;have ha:(_&&(_&&decide (row.length<=200)))=true:=ha;simp at ha;exact⟨rfl,ha.2.2,rfl⟩
theorem Uo(S:State)(ns row:List Int)(hn:ns.length=0)(ha:cV (bD [((1+19:Nat):Int)::ns,row])=true):cj S (bD [((1+19:Nat):Int)::ns,row])=a9 S (xn ns row)/\row.length<=200/\Dm.NW (xn ns row)=true:=by
 cases Ar hn;have ha:(_&&decide (row.length<=200))=true:=ha;simp at ha;exact⟨rfl,ha.2,rfl⟩
theorem Um(S:State)(ns row:List Int)(hn:ns.length=1)(ha:cV (bD [((2+19:Nat):Int)::ns,row])=true):cj S (bD [((2+19:Nat):Int)::ns,row])=a9 S (HP ns row)/\row.length<=200/\Dm.NW (HP ns row)=true:=by
 obtain⟨a,rfl⟩:=eJ hn;have ha:(_&&(_&&decide (row.length<=200)))=true:=ha;simp at ha;exact⟨rfl,ha.2.2,rfl⟩
theorem Ul(S:State)(ns row:List Int)(hn:ns.length=1)(ha:cV (bD [((3+19:Nat):Int)::ns,row])=true):cj S (bD [((3+19:Nat):Int)::ns,row])=a9 S (HM ns row)/\row.length<=200/\Dm.NW (HM ns row)=true:=by
 obtain⟨a,rfl⟩:=eJ hn;have ha:(_&&(_&&decide (row.length<=200)))=true:=ha;simp at ha;exact⟨rfl,ha.2.2,rfl⟩
theorem Uk(S:State)(ns row:List Int)(hn:ns.length=2)(ha:cV (bD [((4+19:Nat):Int)::ns,row])=true):cj S (bD [((4+19:Nat):Int)::ns,row])=a9 S (HN ns row)/\row.length<=200/\Dm.NW (HN ns row)=true:=by
 obtain⟨a,b,rfl⟩:=nQ hn;have ha:(_&&(_&&(_&&decide (row.length<=200))))=true:=ha;simp at ha;exact⟨rfl,ha.2.2.2,rfl⟩
theorem Uj(S:State)(ns row:List Int)(hn:ns.length=2)(ha:cV (bD [((5+19:Nat):Int)::ns,row])=true):cj S (bD [((5+19:Nat):Int)::ns,row])=a9 S (xo ns row)/\row.length<=200/\Dm.NW (xo ns row)=true:=by
 obtain⟨a,b,rfl⟩:=nQ hn;have ha:(_&&(_&&(_&&decide (row.length<=200))))=true:=ha;simp at ha;exact⟨rfl,ha.2.2.2,rfl⟩
theorem Ui(S:State)(ns row:List Int)(hn:ns.length=1)(ha:cV (bD [((6+19:Nat):Int)::ns,row])=true):cj S (bD [((6+19:Nat):Int)::ns,row])=a9 S (BD ns row)/\row.length<=200/\Dm.NW (BD ns row)=true:=by
 obtain⟨a,rfl⟩:=eJ hn;have ha:(_&&(_&&decide (row.length<=200)))=true:=ha;simp at ha;exact⟨rfl,ha.2.2,rfl⟩
theorem Uh(S:State)(ns row:List Int)(hn:ns.length=3)(ha:cV (bD [((7+19:Nat):Int)::ns,row])=true):cj S (bD [((7+19:Nat):Int)::ns,row])=a9 S (HK ns row)/\row.length<=200/\Dm.NW (HK ns row)=true:=by
 obtain⟨a,b,c,rfl⟩:=Kf hn;have ha:(_&&(_&&(_&&(_&&decide (row.length<=200)))))=true:=ha;simp at ha;exact⟨rfl,ha.2.2.2.2,rfl⟩
theorem Ug(S:State)(ns row:List Int)(hn:ns.length=2)(ha:cV (bD [((8+19:Nat):Int)::ns,row])=true):cj S (bD [((8+19:Nat):Int)::ns,row])=a9 S (HL ns row)/\row.length<=200/\Dm.NW (HL ns row)=true:=by
 obtain⟨a,b,rfl⟩:=nQ hn;have ha:(_&&(_&&(_&&decide (row.length<=200))))=true:=ha;simp at ha;exact⟨rfl,ha.2.2.2,rfl⟩
theorem ZA(Pr:Nat->Nat->(List Int->List Int->bg)->Prop)(h0:Pr 0 1 HJ)(h1:Pr 1 0 xn)(h2:Pr 2 1 HP)(h3:Pr 3 1 HM)(h4:Pr 4 2 HN)(h5:Pr 5 2 xo)(h6:Pr 6 1 BD)(h7:Pr 7 3 HK)(h8:Pr 8 2 HL):∀cn n cc,OZ[cn]?=some (n,cc)->Pr cn n cc:=by
 intro cn n cc h
 match cn,h with
 |0,h=>cases h;exact h0
 |1,h=>cases h;exact h1
 |2,h=>cases h;exact h2
 |3,h=>cases h;exact h3
 |4,h=>cases h;exact h4
 |5,h=>cases h;exact h5
 |6,h=>cases h;exact h6
 |7,h=>cases h;exact h7
 |8,h=>cases h;exact h8
 |cn+9,h=>cases h
theorem WS(S:State):∀(cn n:Nat) (cc:List Int->List Int->bg),OZ[cn]?=some (n,cc)->∀(ns row:List Int),ns.length=n->cV (bD [((cn+19:Nat):Int)::ns,row])=true->cj S (bD [((cn+19:Nat):Int)::ns,row])=a9 S (cc ns row)/\row.length<=200/\Dm.NW (cc ns row)=true:=
 ZA (fun cn n cc=>∀(ns row:List Int),ns.length=n->cV (bD [((cn+19:Nat):Int)::ns,row])=true->cj S (bD [((cn+19:Nat):Int)::ns,row])=a9 S (cc ns row)/\row.length<=200/\Dm.NW (cc ns row)=true) (Up S) (Uo S) (Um S) (Ul S) (Uk S) (Uj S) (Ui S) (Uh S) (Ug S)
def Q2:List (Key×V):=[(aH 0,.int 5),(aH 1,.int 2),(aH 2,.int 1),(aH 3,.int 2),(aH 4,.int 1),(aH 5,.int 1),(aH 6,.int 1),(aH 7,.int 0),(aH 8,.int 1),(aH 9,.int 5),(aH 10,.int 1),(aH 11,.int 2),(aH 12,.int 1),(aH 13,.int 1),(aH 14,.int 1),(aH 15,.int 0),(aH 16,.int 0),(aH 17,.int 1),(aH 18,.int 0),(aH 19,.int 1),(aH 20,.int 0),(aH 21,.int 1),(aH 22,.int 1),(aH 23,.int 2),(aH 24,.int 2),(aH 25,.int 1),(aH 26,.int 3),(aH 27,.int 2)]
theorem WX:∀(cn n:Nat) (cc:List Int->bg),SD[cn]?=some (n,cc)->iL Q2 (aH (cn:Int))=some (.int (n:Nat))/\cn<19:=by
 intro cn n cc h
 match cn,h with
 |0,h|1,h|2,h|3,h|4,h|5,h|6,h|7,h|8,h|9,h|10,h|11,h|12,h|13,h|14,h|15,h|16,h|17,h|18,h=>cases h;exact⟨rfl,by decide⟩
 |cn+19,h=>cases h
theorem WW:∀(cn n:Nat) (cc:List Int->List Int->bg),OZ[cn]?=some (n,cc)->iL Q2 (aH ((cn+19:Nat):Int))=some (.int (n:Nat)):=by
 intro cn n cc h
 match cn,h with
 |0,h|1,h|2,h|3,h|4,h|5,h|6,h|7,h|8,h=>cases h;rfl
 |cn+9,h=>cases h
theorem Q4{p:Int}{n k:Nat}(h:eN p=some (n,k)):(∃(cn:Nat) (cc:List Int->bg),p=(cn:Int)/\SD[cn]?=some (n,cc)/\k=0)\/∃(cn:Nat) (cc:List Int->List Int->bg),p=((cn+19:Nat):Int)/\OZ[cn]?=some (n,cc)/\k=1:=by
 unfold eN at h;by_cases e0:p=0
 ·rw[if_pos e0] at h;cases h;exact .inl ⟨0,_,e0,rfl,rfl⟩
 rw[if_neg e0] at h;by_cases e1:p=1
 ·rw[if_pos e1] at h;cases h;exact .inl ⟨1,_,e1,rfl,rfl⟩
 rw[if_neg e1] at h;by_cases e2:p=2
 ·rw[if_pos e2] at h;cases h;exact .inl ⟨2,_,e2,rfl,rfl⟩
 rw[if_neg e2] at h;by_cases e3:p=3
 ·rw[if_pos e3] at h;cases h;exact .inl ⟨3,_,e3,rfl,rfl⟩
 rw[if_neg e3] at h;by_cases e4:p=4
 ·rw[if_pos e4] at h;cases h;exact .inl ⟨4,_,e4,rfl,rfl⟩
 rw[if_neg e4] at h;by_cases e5:p=5
 ·rw[if_pos e5] at h;cases h;exact .inl ⟨5,_,e5,rfl,rfl⟩
 rw[if_neg e5] at h;by_cases e6:p=6
 ·rw[if_pos e6] at h;cases h;exact .inl ⟨6,_,e6,rfl,rfl⟩
 rw[if_neg e6] at h;by_cases e7:p=7
 ·rw[if_pos e7] at h;cases h;exact .inl ⟨7,_,e7,rfl,rfl⟩
 rw[if_neg e7] at h;by_cases e8:p=8
 ·rw[if_pos e8] at h;cases h;exact .inl ⟨8,_,e8,rfl,rfl⟩
 rw[if_neg e8] at h;by_cases e9:p=9
 ·rw[if_pos e9] at h;cases h;exact .inl ⟨9,_,e9,rfl,rfl⟩
 rw[if_neg e9] at h;by_cases e10:p=10
 ·rw[if_pos e10] at h;cases h;exact .inl ⟨10,_,e10,rfl,rfl⟩
 rw[if_neg e10] at h;by_cases e11:p=11
 ·rw[if_pos e11] at h;cases h;exact .inl ⟨11,_,e11,rfl,rfl⟩
 rw[if_neg e11] at h;by_cases e12:p=12
 ·rw[if_pos e12] at h;cases h;exact .inl ⟨12,_,e12,rfl,rfl⟩
 rw[if_neg e12] at h;by_cases e13:p=13
 ·rw[if_pos e13] at h;cases h;exact .inl ⟨13,_,e13,rfl,rfl⟩
 rw[if_neg e13] at h;by_cases e14:p=14
 ·rw[if_pos e14] at h;cases h;exact .inl ⟨14,_,e14,rfl,rfl⟩
 rw[if_neg e14] at h;by_cases e15:p=15
 ·rw[if_pos e15] at h;cases h;exact .inl ⟨15,_,e15,rfl,rfl⟩
 rw[if_neg e15] at h;by_cases e16:p=16
 ·rw[if_pos e16] at h;cases h;exact .inl ⟨16,_,e16,rfl,rfl⟩
 rw[if_neg e16] at h;by_cases e17:p=17
 ·rw[if_pos e17] at h;cases h;exact .inl ⟨17,_,e17,rfl,rfl⟩
 rw[if_neg e17] at h;by_cases e18:p=18
 ·rw[if_pos e18] at h;cases h;exact .inl ⟨18,_,e18,rfl,rfl⟩
 rw[if_neg e18] at h;by_cases e19:p=19
 ·rw[if_pos e19] at h;cases h;exact .inr ⟨0,_,e19,rfl,rfl⟩
 rw[if_neg e19] at h;by_cases e20:p=20
 ·rw[if_pos e20] at h;cases h;exact .inr ⟨1,_,e20,rfl,rfl⟩
 rw[if_neg e20] at h;by_cases e21:p=21
 ·rw[if_pos e21] at h;cases h;exact .inr ⟨2,_,e21,rfl,rfl⟩
 rw[if_neg e21] at h;by_cases e22:p=22
 ·rw[if_pos e22] at h;cases h;exact .inr ⟨3,_,e22,rfl,rfl⟩
 rw[if_neg e22] at h;by_cases e23:p=23
 ·rw[if_pos e23] at h;cases h;exact .inr ⟨4,_,e23,rfl,rfl⟩
 rw[if_neg e23] at h;by_cases e24:p=24
 ·rw[if_pos e24] at h;cases h;exact .inr ⟨5,_,e24,rfl,rfl⟩
 rw[if_neg e24] at h;by_cases e25:p=25
 ·rw[if_pos e25] at h;cases h;exact .inr ⟨6,_,e25,rfl,rfl⟩
 rw[if_neg e25] at h;by_cases e26:p=26
 ·rw[if_pos e26] at h;cases h;exact .inr ⟨7,_,e26,rfl,rfl⟩
 rw[if_neg e26] at h;by_cases e27:p=27
 ·rw[if_pos e27] at h;cases h;exact .inr ⟨8,_,e27,rfl,rfl⟩
 rw[if_neg e27] at h;cases h
theorem SE{p:Int}{r:List Int}{c:List (List Int)}{t:List Int}(h:CG eN (p::r)=some (c,t)):
  (∃(cn n:Nat) (cc:List Int->bg),p=(cn:Int)/\SD[cn]?=some (n,cc)/\n<=r.length/\c=[p::r.take n]/\t=r.drop n)\/
  ∃(cn n m:Nat) (cc:List Int->List Int->bg) (r':List Int),p=((cn+19:Nat):Int)/\OZ[cn]?=some (n,cc)/\n<=r.length/\r.drop n=(m:Int)::r'/\m<=r'.length/\c=[p::r.take n,r'.take m]/\t=r'.drop m:=by
 simp only[CG] at h;cases q:eN p with
 |none=>rw[q] at h;cases h
 |some nk=>
  obtain⟨n,k⟩:=nk;rw[q] at h;have h:(if r.length<n then none else match WC k (r.drop n) with
   |none=>none
   |some (xs,t)=>some ((p::r.take n)::xs,t))=some (c,t):=h
  by_cases z:r.length<n
  ·rw[if_pos z] at h;cases h
  rw[if_neg z] at h;rcases Q4 q with⟨cn,cc,e,hd,rfl⟩|⟨cn,cc,e,hd,rfl⟩
  ·cases h;exact .inl ⟨cn,n,cc,e,hd,by omega,rfl,rfl⟩
  ·refine .inr ?_;cases w:r.drop n with
   |nil=>
    rw[w] at h;cases h
   |cons m r'=>
    rw[w] at h;have h:(match(match Nf (m::r') with
     |none=>none
     |some (x,s)=>some ([x],s):Option (List (List Int)×List Int)) with
     |none=>none
     |some (xs,t)=>some ((p::r.take n)::xs,t))=some (c,t):=by
     rw[<-h];unfold WC;cases Nf (m::r')<;>rfl
    have e2:Nf (m::r')=if 0<=m/\m.toNat<=r'.length then some (r'.take m.toNat,r'.drop m.toNat) else none:=rfl
    by_cases y:0<=m/\m.toNat<=r'.length
    ·rw[e2,if_pos y] at h;cases h;obtain⟨i,rfl⟩:=ic y.1;exact⟨cn,n,i,cc,r',e,hd,(by omega),w,y.2,rfl,rfl⟩
    ·rw[e2,if_neg y] at h;cases h
section
variable{P:bq}{w:cf}{K:aq}{mg:Str->Option ao}{base:Heap}
theorem eF.same{T:Tx K mg}{ρ:Addr->Nat}{H H':Hp}{d:Addr}{S:State}{j:Nat}(D:eF T ρ H d S j)(s:dc H H'):eF T ρ H' d S j:=by
 obtain⟨ta,st,dx,L,B,D⟩:=D;exact⟨ta,st,dx,L,B,D.same s⟩
theorem eF.free{T:Tx K mg}{ρ:Addr->Nat}{H:Hp}{d:Addr}{S:State}{j:Nat}(D:eF T ρ H d S j){b:Addr}(h:H b=none):ρ b=0:=by
 obtain⟨ta,st,dx,L,B,D⟩:=D;exact D.tr.free b h
theorem eF.move{T:Tx K mg}{ρ ρ':Addr->Nat}{H H':Hp}{d:Addr}{S:State}{j:Nat}(D:eF T ρ H d S j)(hk:∀b o,H b=some o->ρ b<=2000->(∀ps,o≠ .x_ ps)->H' b=some o)(hr:∀b o,H b=some o->ρ' b=ρ b)(yJ:∀b xs,H b=some (.tup xs)->H' b=some (.tup xs))(fr:∀b,H' b=none->ρ' b=0){i:Nat}(hi:j<=i):eF T ρ' H' d S i:=by
 obtain⟨ta,st,dx,L,B,D⟩:=D;refine⟨ta,st,dx,L,B,nB.more (i:=i) (j:=j) ⟨hk _ _ D.de (by rw[D.rd];decide) (fun _ q=>by cases q),by rw[hr _ _ D.de];exact D.rd,by rw[hr _ _ D.tr.tr];exact D.rt,D.tr.move (fun b o hb r=>hk b o hb (by omega)) hr (by rw[D.rt];decide) yJ fr,D.wf,D.mi,D.lg,D.sr.move (fun b o hb r=>hk b o hb (by omega)) hr D.sw.oK fr,D.sw,D.nw,D.fb,D.tn⟩ hi⟩
theorem eF.new{T:Tx K mg}{ρ:Addr->Nat}{H:Hp}{d:Addr}{S:State}{j:Nat}(D:eF T ρ H d S j){p:Addr}(hp:H p=none)(xs:List V):eF T (fun b=>if b=p then 2001 else ρ b) (upd H p (.lst xs)) d S j:=by
 refine D.move (fun b o hb _ _=>aF hp b o hb) (fun b o hb=>if_neg (aE hb hp)) (fun b xs hb=>aF hp b _ hb) (fun b hb=>?_) (aL j);obtain⟨h1,h2⟩:=eE hb;exact(if_neg h1).trans (D.free h2)
theorem eF.told{T:Tx K mg}{ρ:Addr->Nat}{H:Hp}{d:Addr}{S:State}{j:Nat}(D:eF T ρ H d S j){p:Addr}(hr:ρ p=2001){xs:List V}(hp:H p=some (.lst xs))(ys:List V):eF T ρ (upd H p (.lst ys)) d S j:=by
 refine D.move (fun b o hb r _=>?_) (fun b o hb=>rfl) (fun b zs hb=>?_) (fun b hb=>D.free (eE hb).2) (aL j)
 ·rw[aA (fun e=>by rw[e,hr] at r;omega)];exact hb
 ·rw[aA (ug hb hp)];exact hb
theorem eF.row{T:Tx K mg}{M:Lm T}{ρ:Addr->Nat}{H H':Hp}{d:Addr}{S:State}{j:Nat}(D:eF T ρ H d S j)(h1:Tab M H)(s:kW M.P H H')(h2:Tab M H'):eF T ρ H' d S (j+1):=by
 obtain⟨ps,hp⟩:=h1.at_;obtain⟨qs,hq⟩:=h2.at_;have ne:∀b o,H b=some o->(∀ps,o≠ .x_ ps)->b≠M.P:=fun b o hb ho e=>by
  rw[e,hp] at hb;exact ho ps (aR hb).symm
 refine D.move (fun b o hb _ ho=>s b o hb (ne b o hb ho)) (fun b o hb=>rfl) (fun b xs hb=>s b _ hb (ne b _ hb fun _ q=>by cases q)) (fun b hb=>D.free ?_) (fT j);cases e:H b with
 |none=>rfl
 |some o=>
  by_cases z:b=M.P
  ·rw[z,hq] at hb;cases hb
  ·rw[s b o e z] at hb;cases hb
structure AO{T:Tx K mg}(M:Lm T)(H:Hp)(d to:Addr)(l:List Int)(ρ:Addr->Nat)(H':Hp)(S:State)(j pl f:Nat)(cs:List (List (List Int)))(done:List Int):Prop where
 ple:pl<=l.length
 cl:jy eN f (l.drop pl)=some cs
 ask:∀c∈cs,cV (bD c)=true
 wN:j+cs.length<=400
 Sz:eF T ρ H' d S j
 Uu:ρ to=2001
 J3:H' to=some (.lst (bO done))
 dl:done.length<=20001*j
 eq:done++CF (Hc cj S (cs.map bD))=kX l
 fr:∀b o,H b=some o->b≠M.P->H' b=some o/\ρ b=0
 tab:Tab M H'
 rp:ρ M.P=0
structure VB{T:Tx K mg}(M:Lm T)(H:Hp)(d to an:Addr)(done xV:List Int)(ρ:Addr->Nat)(H':Hp)(S:State)(j:Nat):Prop where
 Sz:eF T ρ H' d S (j+1)
 Uu:ρ to=2001
 J3:H' to=some (.lst (bO done))
 Cq:H' an=some (.lst (bO xV))
 ran:ρ an=0
 al:xV.length<=20000
 fr:∀b o,H b=some o->b≠M.P->H' b=some o/\ρ b=0
 tab:Tab M H'
 rp:ρ M.P=0
theorem Tab.T8{T:Tx K mg}{M:Lm T}{H:Hp}{p:Addr}{xs:List V}(t:Tab M H)(h:H p=some (.lst xs))(o:HO):Tab M (upd H p o):=t.keep fun b u hb hu=>by
 rw[aA (j9 hb h (by rcases hu with⟨ps,rfl⟩|⟨a,c,rfl⟩<;>(intro q;cases q)))];exact hb
theorem Tab.same{T:Tx K mg}{M:Lm T}{H H':Hp}(t:Tab M H)(s:dc H H'):Tab M H':=t.keep fun b o hb _=>s b o hb
theorem VB.next{T:Tx K mg}{M:Lm T}{H:Hp}{d to an:Addr}{l done xV:List Int}{ρ ρ':Addr->Nat}{H1 H':Hp}{S S':State}{j pl f:Nat}{c:List (List Int)}{cs:List (List (List Int))}(I:AO M H d to l ρ H1 S j pl f (c::cs) done)(A:VB M H d to an done xV ρ' H' S' j)
  (hs:cj S (bD c)=(S',xV)){pl' f':Nat}(hp:pl'<=l.length)(hc:jy eN f' (l.drop pl')=some cs):
  AO M H d to l ρ' (upd (upd H' to (.lst (bO done++[.int ((bO xV).length:Nat)]))) to (.lst ((bO done++[.int ((bO xV).length:Nat)])++bO xV))) S' (j+1) pl' f' cs (done++((xV.length:Int)::xV)):=by
 have wN:=I.wN;rw[aQ] at wN;rw[d6];have hl:bO done++[V.int ((bO xV).length:Nat)]++bO xV=bO (done++((xV.length:Int)::xV)):=by
  rw[iT,Mg];show _=(done++((xV.length:Int)::xV)).map V.int;rw[cb,bE,ab]
 rw[hl];refine⟨hp,hc,fun x hx=>I.ask x (aj _ hx),by omega,A.Sz.told A.Uu A.J3 _,A.Uu,ae,?_,?_,fun b o hb TJ=>?_,A.tab.T8 A.J3 _,A.rp⟩
 ·have h1:=I.dl;have h2:=A.al;rw[aJ,aQ];omega
 ·rw[<-I.eq,bE];show _=done++CF ((cj S (bD c)).2::Hc cj (cj S (bD c)).1 (cs.map bD));rw[hs];show _=done++(((xV.length:Int)::xV)++CF _);rw[iT]
 ·obtain⟨h1,h2⟩:=A.fr b o hb TJ;refine⟨?_,h2⟩;rw[aA (fun e=>by rw[e,A.Uu] at h2;cases h2)];exact h1
theorem AO.call{T:Tx K mg}{M:Lm T}{H:Hp}{d to:Addr}{l done:List Int}{ρ:Addr->Nat}{H1:Hp}{S:State}{j pl f:Nat}{cs:List (List (List Int))}(I:AO M H d to l ρ H1 S j pl f cs done){H2:Hp}(s:dc H1 H2){H3:Hp}{ρ3:Addr->Nat}{c:bg}{an:Addr}
  (D:eF T ρ3 H3 d (a9 S c).1 (j+1))(hl:(a9 S c).2.length<=20000)(fD:Y1 ρ H2 ρ3 H3)(hp:H3 an=some (.lst (bO (a9 S c).2)))(rp:ρ3 an=0)(fm:Qa H2 H3):VB M H d to an done (a9 S c).2 ρ3 H3 (a9 S c).1 j:=by
 obtain⟨ps,hP⟩:=I.tab.at_;have t2:=I.tab.same s;refine⟨D,?_,?_,hp,rp,hl,fun b o hb TJ=>?_,?_,?_⟩
 ·rw[(fD _ _ (s _ _ I.J3)).1];exact I.Uu
 ·exact(fD _ _ (s _ _ I.J3)).2 (.inr (by rw[I.Uu];decide))
 ·obtain⟨h1,h2⟩:=I.fr b o hb TJ;exact⟨(fD _ _ (s _ _ h1)).2 (.inl h2),by rw[(fD _ _ (s _ _ h1)).1];exact h2⟩
 ·obtain⟨qs,h1,h2⟩:=t2;refine⟨qs,(fD _ _ h1).2 (.inl I.rp),?_⟩;rcases h2 with h2|⟨c',oc,vs,t,e,hc,h3,h4⟩
  ·exact .inl h2
  ·exact .inr ⟨c',oc,vs,t,e,fm.Dg _ _ _ hc,h3,h4⟩
 ·rw[(fD _ _ (s _ _ hP)).1];exact I.rp
theorem AO.row{T:Tx K mg}{M:Lm T}{H:Hp}{d to:Addr}{l done:List Int}{ρ:Addr->Nat}{H1:Hp}{S:State}{j pl f:Nat}{cs:List (List (List Int))}(I:AO M H d to l ρ H1 S j pl f cs done){H2:Hp}(s:dc H1 H2){H3:Hp}{c:bg}{an:Addr}(hR:Dm.NW c=true)
  (t3:Tab M H3)(sT:kW M.P H2 H3)(nan:H2 an=none)(hp:H3 an=some (.lst (bO (nU c)))):VB M H d to an done (a9 S c).2 ρ H3 (a9 S c).1 j:=by
 obtain⟨ps,hP⟩:=I.tab.at_;have t2:=I.tab.same s;have e:=Dm.Su S c hR;have hl:=Dm.Uv S c hR;have D2:=I.Sz.same s;have e1:(a9 S c).1=S:=by rw[e]
 have e2:(a9 S c).2=nU c:=by rw[e];rfl
 refine⟨by rw[e1];exact D2.row t2 sT t3,I.Uu,sT _ _ (s _ _ I.J3) ?_,by rw[e2];exact hp,D2.free nan,hl,fun b o hb TJ=>?_,t3,I.rp⟩
 ·exact j9 (s _ _ I.J3) (s _ _ hP) (by intro q;cases q)
 ·obtain⟨h1,h2⟩:=I.fr b o hb TJ;exact⟨sT _ _ (s _ _ h1) TJ,h2⟩
theorem Ur{T:Tx K mg}{M:Lm T}{H H':Hp}{a:Addr}{xs:List V}{ps:Array ao}(h:cF K H a xs)(hP:H M.P=some (.x_ ps))(fr:∀b o,H b=some o->b≠M.P->H' b=some o):cF K H' a xs:=by
 rcases h with(h|⟨o,h⟩)|h
 ·exact .inl (.inl (fr _ _ h (j9 h hP (by intro q;cases q))))
 ·exact .inl (.inr ⟨o,fr _ _ h (j9 h hP (by intro q;cases q))⟩)
 ·exact .inr h
def yK{T:Tx K mg}(M:Lm T):Sp:=fun vs H Q _=>∃(a:Addr) (l:List Int),vs=[.ref a]/\cF K H a (bO l)/\tZ l=true/\H M.P=some (.x_ #[])/\
 ∀(H':Hp) (p:Addr),H' p=some (.lst (bO (kX l)))->H p=none->(∀b o,H b=some o->b≠M.P->H' b=some o)->Tab M H'->Q (.ref p) H'
theorem Mz(T:Tx K mg)(M:Lm T)(hB:BH mg base):cz P w K mg base fY 10 T.answers.f T.answers.fd ["calls"] (yK M):=by
 refine T.answers.F.ok gw (fun vs H Q E h=>?_) (fun dY A outer s H vs Q E hr h=>?_)
 ·obtain⟨a,l,rfl,_⟩:=h;rfl
 ·obtain⟨a,l,rfl,hs,An,hP,k⟩:=h;refine⟨_,(ai (b8 1 gw.nd (ER T.qa.I (Jk T) (hr.mono (by decide:4<=9)) rfl T.X3 (G7 T) .nil wu)) (ai (b8 2 gw.nd (bC ax)) (ai (b8 3 gw.nd a8) (ai (EJ bV (c8 tD (pv 3) (eA T.f9 (pv 0))) (ai (b8 4 gw.nd (cR (pv 0) (pv 3))) (ai (b8 5 gw.nd (fM j7 (fM j7 (pv 3) a8) (z9 rfl T.Vh T.T7 (pv 4) (fun _ _=>rfl)))) (ai (b8 6 gw.nd (lN oh (pv 0) (k6 (fM j7 (pv 3) a8)) (k6 (pv 5)))) (ai (cX (c8 VW (pv 4) (cD T.vv)) (ai (b8 7 gw.nd (dm T.IM (O_ T) hr (aa (pv 0) (aa (pv 5) ax)))) (ai (EM (i:=5) gw.nd rfl (zm rfl) (fM j7 a8 (eA T.f9 (pv 7))) Ju) (aB (b8 8 gw.nd (dm T.lZ (yY T M hB) hr (aa (pv 4) (aa (pv 6) (aa (pv 7) ax)))))))) (aB (b8 8 gw.nd (dm T.mB (E6 T) hr (aa (pv 1) (aa (pv 4) (aa (pv 6) ax))))))) (ai (cg (pf (pv 2) (eA T.f9 (pv 8)))) (ai (cg (qx bT df dr jP (pv 2) (aa (pv 8) ax))) (aB (b8 3 gw.nd (pv 5)))))))))) (aB (bf (pv 2))))))),?_⟩;obtain⟨cs0,hcs,agk,uL,aeJ⟩:∃cs,jy eN l.length l=some cs/\cs.length<=400/\(∀c∈cs,cV (bD c)=true)/\kX l=CF (Hc cj Y2 (cs.map bD)):=by
   unfold tZ Qb at An;cases q:jy eN l.length l with
   |none=>rw[q] at An;cases An
   |some cs=>
    rw[q] at An;have An:(PyFlat.atMost 400 (cs.map bD)&&F4 (cs.map bD))=true:=An;rw[aW] at An;obtain⟨h1,h2⟩:=An;have h1:decide ((cs.map bD).length<=400)=true:=h1;rw[decide_eq_true_eq,ab] at h1;unfold F4 at h2;rw[aW,gY] at h2;refine⟨cs,rfl,h1,fun c hc=>h2.1 _ (bz.mpr ⟨c,hc,rfl⟩),?_⟩;unfold kX Qb;rw[q]
  refine fun d dx0 hd hdx tN=>⟨d,dx0,rfl,ae,fun H1 ρ1 D1 fr1=>⟨rfl,?_⟩⟩;refine⟨aT _,fun to J3=>?_⟩;have fr0:∀b o,H b=some o->H1 b=some o/\ρ1 b=0:=fun b o hb=>fr1 b o (by rw[aA (aE hb hd),aA (aE hb hdx)];exact hb) (aE hb hd);have to0:H to=none:=by
   cases q:H to with
   |none=>rfl
   |some o=>rw[(fr0 _ _ q).1] at J3;cases J3
  have I0:AO M H d to l (fun b=>if b=to then 2001 else ρ1 b) (upd H1 to (.lst [])) dq 0 0 l.length cs0 []:=by
   refine⟨aT _,hcs,uL,by omega,D1.new J3 [],if_pos rfl,ae,aT _,aeJ.symm,fun b o hb _=>?_,⟨#[],?_,.inl rfl⟩,?_⟩
   ·have ne:=aE hb to0;exact⟨by rw[aA ne];exact(fr0 b o hb).1,(if_neg ne).trans (fr0 b o hb).2⟩
   ·rw[aA (aE hP to0)];exact(fr0 _ _ hP).1
   ·exact(if_neg (aE hP to0)).trans (fr0 _ _ hP).2
  refine⟨fun m σ H'=>∃(v4 v5 v6 v7 v8:Option V) (ρ:Addr->Nat) (S:State) (j pl f:Nat) (cs:List (List (List Int))) (done:List Int),σ=[some (.ref a),some (.ref d),some (.ref to),some (.int (pl:Nat)),v4,v5,v6,v7,v8]/\AO M H d to l ρ H' S j pl f cs done/\m=l.length -pl,⟨_,none,none,none,none,none,_,_,_,_,_,_,_,rfl,I0,rfl⟩,?_⟩;rintro m σ H' ⟨v4,v5,v6,v7,v8,ρ,S,j,pl,f,cs,done,rfl,I,rfl⟩;have hs':cF K H' a (bO l):=Ur (M:=M) hs hP fun b o hb TJ=>(I.fr b o hb TJ).1;refine⟨_,rfl,_,rfl,a,_,rfl,.inl hs',_,_,rfl,rfl,_,rfl,?_⟩;rw[show(bO l).length=l.length from ab _];by_cases z:pl<l.length
  ·rw[decide_eq_true (show(pl:Int)<(l.length:Int) by omega)];refine c_ ?_;obtain⟨p,r,hpr⟩:∃p r,l.drop pl=p::r:=by
    cases q:l.drop pl with
    |nil=>have:=List.drop_eq_nil_iff.mp q;omega
    |cons p r=>exact⟨p,r,rfl⟩
   have hlp:l[pl]?=some p:=by rw[<-T1,hpr];rfl
   have HF:r=l.drop (pl+1):=by rw[<-VL,hpr];rfl
   have xg:r.length+pl+1=l.length:=by rw[HF,cY];omega
   obtain⟨f',c,t,Ya,aaR,V5,rfl⟩:∃f' c t Ya,CG eN (p::r)=some (c,t)/\jy eN f' t=some Ya/\cs=c::Ya:=by
    have hc:=I.cl;rw[hpr] at hc;cases f with
    |zero=>cases hc
    |succ f=>
     cases q:CG eN (p::r) with
     |none=>simp only[jy,q] at hc;cases hc
     |some ct=>
      obtain⟨c,t⟩:=ct;cases q2:jy eN f t with
      |none=>simp only[jy,q,q2] at hc;cases hc
      |some Ya=>
       simp only[jy,q,q2] at hc;exact⟨f,c,t,Ya,rfl,q2,(aR hc).symm⟩
   have wN:=I.wN;rw[aQ] at wN;have dl:=I.dl;refine⟨fun σ' H''=>∃(v4 v5 v6 v7 v8:Option V) (ρ:Addr->Nat) (S:State) (j ZS f:Nat) (cs:List (List (List Int))) (done:List Int),σ'=[some (.ref a),some (.ref d),some (.ref to),some (.int (ZS:Nat)),v4,v5,v6,v7,v8]/\AO M H d to l ρ H'' S j ZS f cs done/\l.length -ZS<l.length -pl,fun σ' H'' q=>?_,?_⟩
   ·obtain⟨v4,v5,v6,v7,v8,ρ,S,j,ZS,f,cs,done,q1,q2,q3⟩:=q;exact⟨_,q3,v4,v5,v6,v7,v8,ρ,S,j,ZS,f,cs,done,q1,q2,rfl⟩
   refine⟨_,rfl,_,rfl,a,_,_,_,rfl,rfl,hs',at_of (j:=pl) rfl (by rw[aM,hlp];rfl),?_⟩;rcases SE aaR with⟨cn,n,cc,rfl,ML,hn,rfl,rfl⟩|⟨cn,n,m,cc,r',rfl,ML,hn,gk,hm,rfl,rfl⟩
   ·obtain⟨hsz,h19⟩:=WX cn n cc ML;have wH:=WT S cn n cc (r.take n) ML (by rw[dJ];omega);refine⟨_,rfl,_,_,rfl,rfl,_,rfl,aH (cn:Int),_,rfl,hsz,_,_,rfl,rfl,?_⟩;refine⟨_,rfl,_,rfl,_,_,rfl,rfl,_,rfl,_,rfl,_,rfl,a,_,rfl,hs',fun nu fJ=>?_⟩;have XS:wO (bO l) (some ((pl:Int)+1)) (some ((pl:Int)+1+(n:Int)))=bO (r.take n):=by
     rw[show(pl:Int)+1=((pl+1:Nat):Int) from by omega,rV,<-JZ,<-t7,<-HF]
    rw[XS];have s2:=aF (o:= .lst (bO (r.take n))) fJ;refine⟨_,rfl,_,_,rfl,rfl,_,rfl,?_⟩;rw[decide_eq_false (show ¬(19:Int)<=(cn:Int) by omega)];refine di ⟨_,rfl,_,rfl,_,rfl,d,nu,cn,n,cc,ρ,S,j,r.take n,rfl,ML,I.Sz.same s2,(by omega),ae,I.Sz.free fJ,(by rw[dJ];omega),fun H3 ρ3 an D3 hl fD hp rp np fm=>?_⟩;have B:=I.call s2 D3 hl fD hp rp fm;have Yh:an≠to:=fun e=>by have:=B.ran;rw[e,B.Uu] at this;cases this
    refine⟨_,rfl,.inl ⟨rfl,_,cF.of B.J3⟩,_,rfl,an,_,rfl,.inl (cF.of B.Cq),_,_,_,rfl,rfl,B.J3,?_,?_⟩
    ·rw[ab];show _<2^24;omega
    refine⟨_,rfl,.inl ⟨rfl,_,cF.of ae⟩,_,rfl,_,_,_,_,rfl,rfl,ae,(aA Yh).trans B.Cq,?_,?_⟩
    ·have:=B.al;rw[aJ,ab,ab,kz];show _<=2^24;omega
    refine⟨_,rfl,some (.int (cn:Nat)),some (.int ((pl:Int)+1+(n:Int))),some (.ref nu),v7,some (.ref an),ρ3,_,j+1,pl+1+n,f',Ya,_,?_,B.next I wH (by omega) ?_,by omega⟩
    ·rw[show((pl+1+n:Nat):Int)=(pl:Int)+1+(n:Int) from by omega];rfl
    ·rw[<-V5,HF,x8]
   ·have hsz:=WW cn n cc ML;have An:=I.ask _ au;obtain⟨wH,aeT,hR⟩:=WS S cn n cc ML (r.take n) (r'.take m) (by rw[dJ];omega) An;have LO:r'=l.drop (pl+1+n+1):=by
     have:(r.drop n).tail=r':=by rw[gk];rfl
     rw[<-this,VL,HF,x8];rfl
    have aik:r'.length+n+1=r.length:=by
     have:=congrArg pz gk;rw[cY,aQ] at this;omega
    have hlm:l[pl+1+n]?=some (m:Int):=by rw[<-T1,<-x8,<-HF,gk];rfl
    refine⟨_,rfl,_,_,rfl,rfl,_,rfl,aH ((cn+19:Nat):Int),_,rfl,hsz,_,_,rfl,rfl,?_⟩;refine⟨_,rfl,_,rfl,_,_,rfl,rfl,_,rfl,_,rfl,_,rfl,a,_,rfl,hs',fun nu fJ=>?_⟩;have XS:wO (bO l) (some ((pl:Int)+1)) (some ((pl:Int)+1+(n:Int)))=bO (r.take n):=by
     rw[show(pl:Int)+1=((pl+1:Nat):Int) from by omega,rV,<-JZ,<-t7,<-HF]
    rw[XS];have s2:=aF (o:= .lst (bO (r.take n))) fJ;have TF:cF K (upd H' nu (.lst (bO (r.take n)))) a (bO l):=by
     rcases hs' with(h|⟨o,h⟩)|h
     ·exact .inl (.inl (s2 _ _ h))
     ·exact .inl (.inr ⟨o,s2 _ _ h⟩)
     ·exact .inr h
    refine⟨_,rfl,_,_,rfl,rfl,_,rfl,?_⟩;rw[decide_eq_true (show(19:Int)<=((cn+19:Nat):Int) by omega)];refine c_ ⟨_,rfl,_,rfl,a,l,pl+1+n,m,?_,TF,hlm,fun rl xg=>?_⟩
    ·rw[show((pl+1+n:Nat):Int)=(pl:Int)+1+(n:Int) from by omega];rfl
    rw[<-LO];have s3:=s2.trans (aF (o:= .lst (bO (r'.take m))) xg);have Sb:(bO (r'.take m)).length=m:=by rw[ab,dJ];omega
    refine⟨_,rfl,_,rfl,rl,_,rfl,.inl (cF.of ae),_,_,rfl,rfl,_,_,rfl,rfl,?_⟩;rw[Sb];refine⟨_,rfl,_,rfl,_,rfl,nu,rl,cn,n,cc,r.take n,r'.take m,rfl,ML,(aA (aE ae xg)).trans ae,ae,(by rw[dJ];omega),aeT,I.tab.same s3,fun H3 an t3 sT nan hp=>?_⟩;have B:=I.row s3 hR t3 sT nan hp;have Yh:an≠to:=fun e=>by have:=B.ran;rw[e,B.Uu] at this;cases this
    refine⟨_,rfl,.inl ⟨rfl,_,cF.of B.J3⟩,_,rfl,an,_,rfl,.inl (cF.of B.Cq),_,_,_,rfl,rfl,B.J3,?_,?_⟩
    ·rw[ab];show _<2^24;omega
    refine⟨_,rfl,.inl ⟨rfl,_,cF.of ae⟩,_,rfl,_,_,_,_,rfl,rfl,ae,(aA Yh).trans B.Cq,?_,?_⟩
    ·have:=B.al;rw[aJ,ab,ab,kz];show _<=2^24;omega
    refine⟨_,rfl,some (.int ((cn+19:Nat):Int)),some (.int ((pl:Int)+1+(n:Int)+(1+(m:Int)))),some (.ref nu),some (.ref rl),some (.ref an),ρ,_,j+1,pl+1+n+(1+m),f',Ya,_,?_,B.next I wH (by omega) ?_,by omega⟩
    ·rw[show((pl+1+n+(1+m):Nat):Int)=(pl:Int)+1+(n:Int)+(1+(m:Int)) from by omega];rfl
    ·rw[<-V5,LO,x8];congr 2;omega
  ·
   rw[decide_eq_false (show ¬(pl:Int)<(l.length:Int) by omega)];refine di ⟨_,rfl,?_⟩;have hn:l.drop pl=[]:=nG (by omega);have hc:=I.cl;rw[hn] at hc;have hc:cs=[]:=by cases f<;>exact(aR hc).symm
   have he:=I.eq;rw[hc] at he;have he:done++[]=kX l:=he;rw[cE] at he;exact k H' to (by rw[<-he];exact I.J3) to0 (fun b o hb TJ=>(I.fr b o hb TJ).1) I.tab
end
def wX:V->ao->Bool
 |.int i,.int j _=>i==j
 |.ref a,.ref b=>a==b
 |_,_=>false
theorem BO{v:V}{u:ao}(h:wX v u=true):RelV v u:=by
 unfold wX at h;split at h
 ·rename_i i j t;rw[beq_iff_eq] at h;exact⟨t,by rw[h]⟩
 ·rename_i a b;rw[beq_iff_eq] at h;show cu b=cu a;rw[h]
 ·cases h
def zx:List V->List ao->Bool
 |[],[]=>true
 |v::vs,u::us=>wX v u&&zx vs us
 |_,_=>false
theorem zw:∀{vs:List V} {us:List ao},zx vs us=true->Vals vs us
 |[],[],_=>.nil
 |v::vs,u::us,h=>by
  have h:(wX v u&&zx vs us)=true:=h;rw[aW] at h;exact .cons (BO h.1) (zw h.2)
 |[],_::_,h=>by cases h
 |_::_,[],h=>by cases h
def T9(n:String):ao->Bool
 |.type m=>m==n
 |_=>false
theorem Nt{n:String}{v:ao}(h:T9 n v=true):v= .type n:=by
 unfold T9 at h;split at h
 ·rw[beq_iff_eq] at h;rw[h]
 ·cases h
def T'(K:aq)(a:Addr)(xs:List V):Bool:=match K.lookup a with
 |none=>false
 |some o=>match o.data with
  |.seq its _=>T9 "tuple" o.cls&&(decide (its.size<=1000)&&zx xs its.toList)
  |_=>false
theorem Nv{K:aq}{a:Addr}{xs:List V}(h:T' K a xs=true)(H:Hp):JO K H a xs:=by
 unfold T' at h;split at h
 ·cases h
 ·rename_i o ho;split at h
  ·rename_i its n hd;rw[aW,aW,decide_eq_true_eq] at h;exact .inr ⟨o,its,n,ho,Nt h.1,hd,aD h.2.1 (by decide),zw h.2.2⟩
  ·cases h
def refsOf(K:aq)(a:Addr):List Addr:=match K.lookup a with
 |none=>[]
 |some o=>match o.data with
  |.seq its _=>its.toList.filterMap fun u=>match u with
   |.ref b=>some b
   |_=>none
  |_=>[]
def WI(K:aq)(a:Addr)(xs:List (List Int)):Bool:=T' K a ((refsOf K a).map V.ref)&&(decide ((refsOf K a).length=xs.length)&&((refsOf K a).zip xs).all fun p=>T' K p.1 (p.2.map V.int))
theorem T_{K:aq}{a:Addr}{xs:List (List Int)}(h:WI K a xs=true):AN K a xs:=by
 unfold WI at h;rw[aW,aW,decide_eq_true_eq,gY] at h;refine⟨refsOf K a,h.2.1,Nv h.1,fun i b x h1 h2=>Nv (h.2.2 (b,x) (bB (i:=i) ?_))⟩;rw[Ig];exact⟨h1,h2⟩
def DP:List (Key×V)->List Zk->Bool
 |[],[]=>true
 |(aH i,v)::kvs,e::es=>(DC i e.key&&(e.hash==hashInt i))&&(wX v e.val&&DP kvs es)
 |_,_=>false
theorem FK{P:bq}{w:cf}:∀{kvs:List (Key×V)} {es:List Zk},DP kvs es=true->∃vs:List (Key×ao),KV kvs vs/\Pairs (fk P w) es vs/\vs.map (·.1)=kvs.map (·.1)/\∀e∈es,∃k,(fk P w).is k e.key=true/\e.hash=(fk P w).hash k
 |[],[],_=>⟨[],.nil,.nil,rfl,fun e he=>by cases he⟩
 |(aH i,v)::kvs,e::es,h=>by
  have h:((DC i e.key&&(e.hash==hashInt i))&&(wX v e.val&&DP kvs es))=true:=h;rw[aW,aW,aW,beq_iff_eq] at h;obtain⟨vs,h1,h2,h3,h4⟩:=FK (P:=P) (w:=w) h.2.2;refine⟨(aH i,e.val)::vs,.cons ⟨rfl,BO h.2.1⟩ h1,.cons h.1.1 rfl h2,by rw[bE,bE,h3],fun e' XO=>?_⟩;rcases az.mp XO with rfl|XO
  ·exact⟨aH i,h.1.1,h.1.2⟩
  ·exact h4 e' XO
 |[],_::_,h=>by cases h
 |(aH _,_)::_,[],h=>by cases h
 |(vF _,_)::_,[],h=>by cases h
 |(vF _,_)::_,_::_,h=>by cases h
def FP(o:Obj)(kvs:List (Key×V)):Bool:=match o.data with
 |.dict es _=>(T9 "dict" o.cls&&(o.dict.isNone&&o.slots.isEmpty))&&(DP kvs es.toList&&decide ((kvs.map (·.1)).Nodup))
 |_=>false
theorem Lg{K:aq}{a:Addr}{o:Obj}{kvs:List (Key×V)}(l:K.lookup a=some o)(h:FP o kvs=true):Yi K a kvs:=by
 intro P w hp X;unfold FP at h;split at h
 ·rename_i es ep hd;rw[aW,aW,aW,aW,decide_eq_true_eq] at h;obtain⟨⟨h1,h2,h3⟩,h4,h5⟩:=h;obtain⟨vs,k1,k2,k3,k4⟩:=FK (P:=P) (w:=w) h4;refine⟨vs,k1,o,es,ep,X _ _ l,⟨Nt h1,?_,?_⟩,hd,fun e he=>k4 e (Mj.mpr he),k2,by rw[k3];exact h5⟩
  ·exact Option.isNone_iff_eq_none.mp h2
  ·exact Array.isEmpty_iff.mp h3
 ·cases h
section
variable{K:aq}{h:Heap}{mg:Str->Option ao}
noncomputable def nh{x:Str}{st:Stmt}{f:Addr}{oc:ao}{od an:Option Addr}{LN:Array (Option ao)}{kV doc pm dY ct:ao}(X:K.In h)(G:h.Ns d7 mg)(a:uc K d7 x=some (some (.ref f)):=by k_is)
  (l:K.lookup f=some ⟨oc,od,.func (eC x x (lh st) (ju st) (aN st) .none kV doc pm an dY ct),LN⟩:=by k_is)(c:mJ K dY x=true:=by k_is)(k:gg K (.ref f)=true:=by k_is):eM K mg x st:=
 ⟨f,_,MP (st:=st) l c k,xX X G a⟩
noncomputable def xQ{m qual:Str}{st:Stmt}{C f:Addr}{oc:ao}{od an:Option Addr}{LN:Array (Option ao)}{kV doc pm dY ct:ao}(a:dZ K (.ref C) m=some (some (.ref f)):=by k_is)(i:ue K (.ref f)=true:=by k_is)
  (l:K.lookup f=some ⟨oc,od,.func (eC m qual (lh st) (ju st) (aN st) .none kV doc pm an dY ct),LN⟩:=by k_is)(c:mJ K dY qual=true:=by k_is)(k:gg K (.ref f)=true:=by k_is):hJ K C m qual st:=
 ⟨f,_,MP (st:=st) l c k,⟨a,i,k⟩⟩
noncomputable def YH{qual:Str}{st:Stmt}{C f:Addr}{oc:ao}{od an:Option Addr}{LN:Array (Option ao)}{kV doc pm dY ct:ao}(a:dZ K (.ref C) "__init__"=some (some (.ref f)):=by k_is)(i:ue K (.ref f)=true:=by k_is)
  (l:K.lookup f=some ⟨oc,od,.func (eC "__init__" qual (lh st) (ju st) (aN st) .none kV doc pm an dY ct),LN⟩:=by k_is)(c:mJ K dY qual=true:=by k_is)(k:gg K (.ref f)=true:=by k_is)(mk:CB K C=true:=by k_is)(kc:gg K (.ref C)=true:=by k_is):M_ K C "__init__" qual st:=
 ⟨f,_,MP (st:=st) l c k,⟨mk,a,i,kc⟩⟩
theorem YI{cls:Str}{C:Addr}(X:K.In h)(G:h.Ns d7 mg)(aC:uc K d7 cls=some (some (.ref C)):=by k_is)(pg:nO K C Str.empty=true:=by k_is)(hd:q_ K C=true:=by k_is)(po:zp K C=true:=by k_is)(sa:dZ K (.ref C) "__setattr__"=some (some (.builtin "object.__setattr__")):=by k_is):
  JP K C/\mg cls=some (.ref C):=⟨⟨pg,hd,po,sa⟩,xX X G aC⟩
theorem u9{x:Str}{i:Int}{t:Tok}(X:K.In h)(G:h.Ns d7 mg)(a:uc K d7 x=some (some (.int i t)):=by k_is):∃t,mg x=some (.int i t):=⟨t,xX X G a⟩
theorem Tw{x:Str}{a:Addr}(X:K.In h)(G:h.Ns d7 mg)(e:uc K d7 x=some (some (.ref a)):=by k_is):mg x=some (.ref a):=xX X G e
theorem YF{a:Addr}{xs:List (List Int)}(l:WI K a xs=true:=by kernel_rfl):AN K a xs:=T_ l
theorem mkD{a:Addr}{o:Obj}{kvs:List (Key×V)}(l:K.lookup a=some o:=by k_is)(d:FP o kvs=true:=by kernel_rfl):Yi K a kvs:=Lg l d
def Xe(K:aq)(C:Addr)(l:List Str):Bool:=l.all fun f=>match dZ K (.ref C) f with
 |some none=>true
 |_=>false
theorem YG{C:Addr}{l:List Str}(r:Xe K C l=true:=by kernel_rfl):∀g∈l,dn K C g:=fun g hg=>by
 have z:=gY.mp r g hg;show dZ K (.ref C) g=some none;split at z
 ·assumption
 ·cases z
theorem Tz{x:Str}(X:K.In h)(G:h.Ns d7 mg)(e:uc K d7 x=some none:=by k_is):mg x=none:=PySem.W.mg_none_of X G e
theorem Z1{q:bq}{loose:List Str}{UU:ExcName->Option ao}{mb:Str->Option ao}(Tp:Top q loose UU mg mb h)(X:K.In h)(hn:PySem.W.noTabs K=true)(hr:((recsOf q).find? fun e=>e.name==("asked_again_last":Str)).isSome=true)(ht:(rZ K "asked_again_last").isSome=true):
  ∃c Pt,rZ K "asked_again_last"=some (c,Pt)/\kC h c Pt/\h.get? Pt=some (vH #[])/\K.lookup Pt=none:=by
 obtain⟨⟨c,Pt⟩,e⟩:=lV.mp ht;obtain⟨d,ed⟩:=lV.mp hr;obtain⟨h1,h2⟩:=PySem.W.tab_of Tp X ed e;refine⟨c,Pt,e,h1,h2,?_⟩;cases z:K.lookup Pt with
 |none=>rfl
 |some o=>
  have h3:=X _ _ z;rw[h2] at h3;cases h3;have h4:=gY.mp hn (Pt,_) (PySem.W.mem_of_lookupK z);exact absurd (show false=true from h4) aU
theorem SH{x:Str}{c Pt:Addr}(X:K.In h)(ht:rZ K x=some (c,Pt))(hc:kC h c Pt):∀h',K.In h'->kC h' c Pt:=by
 intro h' X';obtain⟨o,vs,file,tf,flags,tg,inF,text,tt,e,r⟩:=hc;have lk:∃o',K.lookup c=some o':=by
  unfold rZ at ht;split at ht
  ·split at ht
   ·split at ht
    ·split at ht
     ·rename_i hl;split at ht
      ·cases ht;exact⟨_,hl⟩
      ·cases ht
     ·cases ht
    ·cases ht
   ·cases ht
  ·cases ht
 obtain⟨o',lo⟩:=lk;have e':=X _ _ lo;rw[e] at e';cases e';exact⟨o,vs,file,tf,flags,tg,inF,text,tt,X' _ _ lo,r⟩
theorem mkL(T:Tx K mg){c Pt:Addr}(X:K.In h)(G:h.Ns d7 mg)(ht:rZ K "asked_again_last"=some (c,Pt))(hc:kC h c Pt):∃M:Lm T,M.P=Pt:=by
 obtain⟨oc,od,kV,doc,pm,an,dY,ct,LN,e,lk,LR⟩:=T.fW.F.ex;exact⟨⟨c,Pt,PySem.W.law_code X G ht T.fW.g (X _ _ lk) rfl,SH X ht hc⟩,rfl⟩
theorem req{T:Tx K mg}{M:Lm T}{Pt:Addr}{H:Hp}{a:Addr}{l:List Int}(hP:M.P=Pt)(hn:H Pt=none)(hs:cF K H a (l.map V.int))(An:tZ l=true):
  yK M [.ref a] (upd H Pt (.x_ #[])) (fun v H'=>Dw K H' v (.list ((kX l).map Y_))) fun _ _ _=>False:=
 ⟨a,l,rfl,(aF hn).seq hs,An,by rw[hP];exact ae,fun H' p hp _ _ _=>.lst (cF.of hp) (N_ _)⟩
end
end Pf
open PySem PySem.W PyProof.Rows
theorem PySem.Challenge.cw_caretakers_s01_answers_holds : PySem.Challenge.rw_caretakers_s01_answers.Holds := by
 w_on;k_headS;(case hw=>exact⟨[.list []],by decide+kernel,by decide+kernel⟩)
 k_fillS
 refine L2.QN (r:=PySem.Challenge.rw_caretakers_s01_answers) (k:=10) (CX:=L2.fY) (ps:=["calls"]) (by decide+kernel) rfl rfl ⟨rfl,by decide,by decide⟩ (fun w h Y=>PySem.W.kIn_of Y) ?F (fun _ _ _ _ z=>z)
 case F=>
  intro w mg mb UU fa h Y KX Tp hmg;have G:=Tp.g;obtain⟨p0,q0⟩:=Pf.YI (cls:="Answer") KX G;obtain⟨p1,q1⟩:=Pf.YI (cls:="Work") KX G;obtain⟨p2,q2⟩:=Pf.YI (cls:="Store") KX G;obtain⟨p3,q3⟩:=Pf.YI (cls:="Node") KX G;obtain⟨p4,q4⟩:=Pf.YI (cls:="Tree") KX G;obtain⟨p5,q5⟩:=Pf.YI (cls:="Desk") KX G;obtain⟨T⟩:Nonempty (Pf.Tx _ mg):=⟨⟨_,p0,q0,Pf.YG,_,p1,q1,Pf.YG,_,p2,q2,Pf.YG,_,p3,q3,Pf.YG,_,p4,q4,Pf.YG,_,p5,q5,Pf.YG,Pf.nh KX G,Pf.nh KX G,Pf.nh KX G,Pf.nh KX G,Pf.nh KX G,Pf.nh KX G,Pf.nh KX G,Pf.nh KX G,Pf.nh KX G,Pf.nh KX G,Pf.nh KX G,Pf.nh KX G,Pf.nh KX G,Pf.nh KX G,Pf.nh KX G,Pf.nh KX G,Pf.nh KX G,Pf.nh KX G,Pf.nh KX G,Pf.nh KX G,Pf.nh KX G,Pf.nh KX G,Pf.nh KX G,Pf.nh KX G,Pf.nh KX G,Pf.nh KX G,Pf.nh KX G,Pf.nh KX G,Pf.nh KX G,Pf.nh KX G,Pf.nh KX G,Pf.nh KX G,Pf.nh KX G,Pf.nh KX G,Pf.nh KX G,Pf.nh KX G,Pf.nh KX G,Pf.nh KX G,Pf.nh KX G,Pf.nh KX G,Pf.nh KX G,Pf.nh KX G,Pf.nh KX G,Pf.nh KX G,Pf.YH,Pf.YH,Pf.YH,Pf.xQ,Pf.xQ,Pf.xQ,Pf.xQ,Pf.xQ,Pf.xQ,Pf.xQ,Pf.xQ,Pf.xQ,Pf.xQ,Pf.xQ,Pf.xQ,Pf.xQ,Pf.xQ,Pf.xQ,Pf.xQ,Pf.xQ,Pf.xQ,Pf.nh KX G,Pf.nh KX G,Pf.nh KX G,Pf.nh KX G,Pf.nh KX G,Pf.nh KX G,Pf.nh KX G,Pf.nh KX G,Pf.nh KX G,Pf.nh KX G,Pf.nh KX G,Pf.YH,Pf.xQ,Pf.xQ,Pf.YH,Pf.xQ,Pf.xQ,Pf.xQ,Pf.xQ,Pf.xQ,Pf.xQ,Pf.xQ,Pf.xQ,Pf.xQ,Pf.xQ,Pf.xQ,Pf.xQ,Pf.xQ,Pf.YH,Pf.nh KX G,Pf.nh KX G,Pf.nh KX G,Pf.nh KX G,Pf.u9 KX G,Pf.u9 KX G,Pf.u9 KX G,Pf.u9 KX G,Pf.u9 KX G,Pf.u9 KX G,Pf.u9 KX G,Pf.u9 KX G,Pf.u9 KX G,Pf.u9 KX G,Pf.u9 KX G,Pf.u9 KX G,_,Pf.Tw KX G,Pf.YF,_,Pf.Tw KX G,Pf.mkD,Pf.u9 KX G,Pf.u9 KX G,Pf.u9 KX G,Pf.u9 KX G,Pf.u9 KX G,Pf.u9 KX G,Pf.u9 KX G,Pf.u9 KX G,_,Pf.Tw KX G,Pf.YF,_,Pf.Tw KX G,Pf.YF,_,Pf.Tw KX G,Pf.YF,_,Pf.Tw KX G,Pf.YF,_,Pf.Tw KX G,Pf.mkD,Pf.u9 KX G,Pf.u9 KX G,Pf.u9 KX G,Pf.u9 KX G,Pf.u9 KX G,Pf.u9 KX G,_,Pf.Tw KX G,Pf.YF,_,Pf.Tw KX G,Pf.mkD,Pf.u9 KX G,Pf.u9 KX G,Pf.u9 KX G,Pf.u9 KX G,Pf.u9 KX G,Pf.u9 KX G,Pf.u9 KX G,Pf.u9 KX G,Pf.u9 KX G,Pf.u9 KX G,Pf.u9 KX G,Pf.u9 KX G,_,Pf.Tw KX G,Pf.mkD,by decide,Pf.Tz KX G,Pf.Tz KX G,Pf.Tz KX G,Pf.Tz KX G,Pf.Tz KX G,Pf.Tz KX G,Pf.Tz KX G,Pf.Tz KX G,Pf.Tz KX G,Pf.Tz KX G⟩⟩;obtain⟨c,Pt,ht,f1,f2,f3⟩:=Pf.Z1 Tp KX (by kernel_rfl) (by kernel_rfl) (by kernel_rfl);obtain⟨M,hP⟩:=Pf.mkL T KX G ht f1;have e:=hmg.symm.trans T.answers.g;cases e;refine⟨T.answers.fd,c,Pt,Pf.yK M,f1,f2,f3,fun s us hK hu=>?b,fun base kb nb bb=>Pf.Mz T M bb,?S⟩
  case b=>
   have z:=Pf.Lo T s us hK (by rw[cE];exact hu);rw[cE] at z;exact z
  case S=>
   intro H xs a hO hn YM An hx;cases hx with
   |cons h1 h2=>
    cases h2;cases h1 with
    |lst hs ha=>
     have e:=L2.NY a.1 _ ha;subst e;exact Pf.req hP hn hs An
