import PyProof.Rows.All
import Wide.All
import OpenK.AllK
import PySem.Challenge.RW_probewell_k48_trees_to_the_letter
set_option Elab.async false
set_option linter.all false
set_option maxRecDepth 100000
set_option compiler.extract_closed false
set_option bootstrap.genMatcherCode false
noncomputable section
open Option renaming some->cz,none->el
open Bool renaming true->p4,false->rp
open PySem renaming wpAny_bind->ab,wpAny_pure->ae,Value->aj,Shared->av,Addr->aw,starEach->ax,wpAny->aE,sizeLine->aU,model->a_,PyData->bo,Program->bB,wpAny_call_entry->bD,Around->bE,Str->bI,wpAny_callSpecial?_slot->bM,wpAny_holding->bO,mainGlobals->bP,World->bQ,Heap->bU,compareOp->bW,mem_of_lookup->bZ,eval->cg,backTo->cj,wpAny_dictEntries->cD,attributeBase->cK,sizeLine_eq->cO,wpAny_field->cU,cLine->cV,sysModules->cW,intKind->c_,rawInt->df,wpAny_mono->dq,wpAny_newObj_type->dt,wpAny_specialOf->dA,FuncData->dE,wpAny_seqItems->dI,codeAny_builtin->dQ,wpAny_rule->dW,wpAny_ite_split->er,behindInMarks->eE,wpAny_setField->eH,binaryOp->eK,Pos->eO,wpAny_truthy_bool->eS,swapsWith->eU,foldedSetIterable->eV,DictEntry->eX,Paired->e_,plainId_quiet->fw,wpAny_isInstance->fA,wpAny_setField_rec->fC,wpAny_Call_Name_kw->fD,wpAny_notOrdered_dict->fI,Obj->fN,codeAny_mono->fQ,Keyword->fV,pyNext->fW,wpAny_typeNameOfWhole_keyiter->gg,Scope->gi,bootBuiltins->gq,wpAny_passesOwn->gx,SetTable->gA,wpAny_attempt->gE,wpAny_setState_of->gJ,codeAny->gL,keywordEach->gU,wpAny_typeOf->ib,Stmt->ig,wpAny_setEntries_of->iq,wpAny_typeNameOf_keyiter->iw,assignEach->iG,wpAny_Call_method0_late->iH,wpAny_fieldsOf->iY,firstArgMember->ja,ReadsAll->jc,NameKind->jd,builtinLookup_eq_fast->jo,evalArgs_none->jq,scanBound->jw,IsPair->jC,sliceBounds->jD,wpAny_updateSeq->jR,wpAny_dictEpoch->jS,hashInt->jY,TriplesOk->kj,builtinsNs->ko,backToKw->kq,fits_of_scanBound->kU,dictSetHashed->lg,pickOrder->lH,codeAmong->lP,Walks->lR,Arguments->lW,wpAny_load->lY,relabel->lZ,call_meets->mi,wpAny_execs_nil->mr,typeLookup_type->mw,letOwnedTupleGo->mz,wpAny_updateDictKeys->ng,wpAny_runValue->nh,wpAny_letGo->ni,relayAll->nk,isSubtype_type->nr,IsZip->nS,holding->nW,callerA->nZ,PassesOwn->n_,BindsTo->og,numAt->oI,field->oO,Env->oS,wpAny_pyIter_tuple->oV,typeLookup->oW,intKind_is->o_,closureFor->pC,assign->pD,wpAny_pyIter_slot->pV,wpAny_pyIter_list->pW,getItem->qL,bindArgs->qN,wpAny_askSetting->rB,updateSeq->rC,pyIter->rG,noFill_tuple_add->rH,isTrue->rJ,wpAny_of_eq->sx,unsupported->sC,subscripted->sD,wpAny_ret_mkInt->tF,setNext->uH,wpAny_newTuple->ve,wpAny_call->vf,truthy->vh,slotArgs->vo,isSubtype_stop->vA,entryFor_alias->wQ,entryFor->wR,dictSetDefault->wU,callType_codes->wZ,wpAny_pendingCount_other->yd,wpAny_onRaise->ye,wpAny_handled->yf,wpAny_comprehension_free->yg,seq_tuple_add->yj,call->Ah,wpAny_callSpecial?_none->Aq,seqItems?->Aw,bindL->BV,bindC->BW,wpAny_Call_method_late->Cp,newExc->CW,dictSet->FX,dictGet->FY,concat_meets->FZ,call_meetsIn->Ga,Result->Gd,wpAny_isOneOf_keyiter->Gs
open PySem.W renaming Frag->af,kia_one->cS,kitOne->eA,kla_obj->eF,keepIn->fT,fnOf->fY,CodeHd->gB,nsIn->gG,envX->jA,findIn->jK,mg_of->kg,codeIn->lS,methodObj->nI,kitx_list->nJ,kitx_dict->nK,instObj->pE,OpenLaw->pF,lookIn->qQ,cellsFrom_some->uy,kitx_tuple->Ai,callWith_K->Aj,specialIn->BZ,plainGet->Ge
open PySem.Heap renaming get?_push_of_some->ag,get?_push_size->aF,lt_size->aK,get?_update_self->bV,SameBut->cF,size_push->cP,get?_update_other->dD,ExtBut->tD
open List renaming length_map->ah,mem_singleton->ai,mem_cons_self->ak,mem_cons_of_mem->aq,getElem?_eq_getElem->ar,mem_append_right->au,mem_append->ay,mem_cons->az,map_cons->aA,mem_append_left->aC,range->aJ,length_append->aN,map_append->aO,getElem?_eq_some_iff->aQ,replicate->aR,getD_eq_getElem?_getD->aT,mem_map->aX,all_eq_true->aY,nodup_append->aZ,append_assoc->ba,getElem?_map->bc,count_append->be,size_toArray->bh,append_nil->bj,mem_of_getElem?->bp,cons_append->br,mem_map_of_mem->bt,mem_filter->bu,nodup_nil->bw,length_cons->bx,nodup_cons->bz,mem_iff_getElem?->bF,map_map->bH,mem_range->bR,map_congr_left->cn,nodup_iff_count->cy,nil_append->cB,any_eq_false->cC,not_mem_nil->cG,getElem_mem->cH,any_eq_true->cI,length_range->cL,map_nil->cY,count_pos_iff->cZ,count_cons->dc,length_filter_le->dg,filter_cons_of_neg->dm,length_zip->dG,count_eq_zero->dH,filter_cons_of_pos->dN,getElem?_eq_none->dY,zip_cons_cons->dZ,mem_filterMap->d_,length_take->ef,filter_append->eh,length_eq_zero_iff->eD,length->eW,getElem?_append_right->fg,drop_eq_getElem_cons->fB,mem_iff_getElem->fG,count_cons_self->fH,lookup_cons->fU,getElem?_set_self->fZ,find?_eq_none->f_,of_mem_zip->gc,length_replicate->gf,getElem?_set_ne->gC,getElem_map->gI,getElem?_zip_eq_some->gM,getElem?_append_left->gN,replicate_zero->gR,find?_range_eq_some->hW,find?_cons->h_,findIdx?_eq_some_iff_getElem->iu,length_singleton->iN,pairwise_append->je,forIn_cons->jk,filter_nil->jl,replicate_succ->jr,map_id'->jB,set_cons_succ->jL,perm_ext_iff_of_nodup->jM,pairwise_cons->jN,forIn_nil->jO,any_cons->ki,take_length->kA,pairwise_singleton->kB,mem_reverse->kC,length_drop->kD,drop_length->kE,filter_eq_nil_iff->kP,getElem?_range->mn,filterMap_cons->mo,set_cons_zero->mW,getElem_range->mX,take_succ_eq_append_getElem->nM,reverse_cons->nN,find?_isSome->nO,filter_congr->nQ,ext_getElem?->nR,zip_append->pH,foldl_cons->pI,mem_of_find?_eq_some->rz,exists_mem_of_ne_nil->rA,set_comm->sj,getElem?_replicate->tw,eraseIdx_cons_succ->tz,set_set->uz,pairwise_lt_range->uA,length_pos_of_mem->uB,any_map->uC,getElem?_toArray->uX,getElem?_reverse->uY,dropLast_eq_take->uZ,contains_iff_mem->u_,length_eraseIdx->xb,length_reverse->xZ,filter_filter->Al,zip_nil_left->B_,pairwise_map->Ca,getElem_take->Cb,zipIdx_cons->Gh,range'_succ->Gi,mem_flatMap->Gj,map_reverse->Gk,map_fst_zip->Gm,filter_cons->Gn,zipIdx_nil->Hr,find?_some->Hs
open Bool renaming and_eq_true->ao,false_ne_true->aW,eq_iff_iff->cJ,false_eq_true->cN,and_self->eZ,and_true->gd,not_eq_true'->gk,or_eq_true->ia,beq_eq_decide_eq->iO,true_and->iW,not_true->iX,and_false->lV,or_eq_true_iff->mq,false_bne->qU,false_or->sr
open PySem.PyData renaming eqv->aB,int->aG,canLayAll0->aS,canLay0->cE,eqvAll->cQ,bool->dh,depthAll->dB,tuple->fm,depth->fq,list->g_,none->iM
open Nat renaming le_refl->aD,ne_of_lt->bg,lt_of_lt_of_le->bA,le_trans->bL,zero_le->b_,lt_irrefl->dw,le_of_lt->dF,ne_of_gt->et,lt_trans->fE,le_succ->fF,lt_succ_of_lt->gj,lt_or_ge->gH,lt_of_le_of_lt->ij,lt_succ_self->kz,min_self->kO,add_assoc->mJ,le_add_right->oG,min_le_left->pG,min_le_right->Gg,strongRecOn->Hm,min_eq_left->Ho,le_antisymm->Hq
open Option.some renaming inj->aL,injEq->nL
open PySem.Value renaming ref->bb,none->cw,type->dX,int->iK,bool->jz,isInt->jI,isInt_shape->qO,str->rZ,builtin->Ag
open Option renaming bind_some->bC,map_eq_some_iff->cX,isSome_iff_exists->fL,bind_eq_some_iff->tu,getD_none->Gf,map_some->Hl
open Int renaming toNat_natCast->bG,emod_nonneg->dy,emod_lt_of_pos->ei,toNat_of_nonneg->jt,natCast_mul->kW,natCast_add->pJ,le_refl->xf
open Array renaming getElem?_eq_getElem->bJ,getElem?_toList->bX,length_toList->cu,mem_toList_iff->dO,getElem?_eq_none->eQ,getD_eq_getD_getElem?->eR,toArray_toList->gD,forIn_toList->mY,toList_push->Cf
open PySem.PassesOwn renaming never->bN
open PySem.Heap.SameBut renaming update->bS
open PySem.Builtin.SmallTypes renaming ownedTupleIsFree->bY,nextOf->cx,ownedTupleHandOut->oH
open PySem.Str renaming ofString->cm
open False renaming elim->cM
open PySem.Paired renaming length->cR
open PySem.Around renaming under_plainId->de
open PySem.Builtin.List renaming listExtendWith->du,listLengthHint->gO,listSameRef->iA,listTooLong->ly,listItems->Gr
open Or renaming inl->dC,inr->ix
open PyProof.Rows renaming step_dedup->dM,callWith_type1->eN,envOfC->jm,firstMet->lr,entry_proto_collect'->nc,entry_list_iadd'->oR,AllBare->oU,sortedHeap_old->pS,list_sort_tree->pU,sortedHeap_at->qS,SortKind->ri,seqObj->uI,IntsAre->w_
open Ne renaming symm->dP
open ForInStep renaming yield->dU
open PySem.Builtin.Tuple renaming tupleHashOf->eu
open PySem.F renaming plainAttrs_list->eB,slot_dict_keyiterator_next->ff,slot_dict_values->gZ,slot_tuple_iterator_next->hZ,called_set->ik,plain_list_iadd->il,plainAttrs_dict->ip,slot_dict_len->iC,args_tuple_add_2->kh,entry_tuple_add->ku,slot_tuple_add->kM,slot_tuple_hash->kX,slot_zip_getattribute->lU,slot_zip_next->mK,plain_proto_collect->pR,args_dict_values_1->qR,slot_list_reverse->rj,slot_dict_getitem->rl,plain_extend_loop->ro,entry_dict_values->rq,type_list_append->sd,type_dict_values->se,slot_list_append->sf,slot_dict_update->sg,slot_dict_iter->sk,args_dict_keyiterator_next_1->so,slot_list_index->ti,slot_dict_items->tm,entry_dict_keyiterator_next->tE,args_tuple_iterator_next_1->uD,entry_tuple_iterator_next->vb
open PySem.SetTable renaming below->eL,grown->gY
open PySem.Builtin.Dict renaming updateFrom->eY,mergeDict->jf,showsAll->ju,selfAndRest->lA,entriesForEmpty->uF,readDirectly->ya,pendingCount->yb,addKeywords->An
open PySem.Calls renaming callWith_builtin->fu,call_function_entry->kS,evalArgs_plain->nT,Name_function_global->xg
open PySem.NameKind renaming free->fy
open PySem.Obj renaming data_mapFields->gu,mapSeq->hJ,data_mapDictKeys->hU,isFreed_of_dict->ir,isFreed_of_fields->mV,cls_mapFields->qT,data_mapDict->si,putSet->xa,mapFields->Ak
open PyProof.Rows.F renaming plain_set_update_loop->gQ,entry_set_update_loop->ml
open List.Perm renaming refl->iy,append_left->va
open List.Pairwise renaming nil->iz,of_map->xc,map->Cd
open True renaming intro->jJ
open PUnit renaming unit->kN
open PySem.Shared renaming TypeIs->ll
open Sum renaming inr->nG,inl->nH
open PySem.SeqAt.ReadsAll renaming length->oQ
open PySem.SetTable.below renaming go->qP
open PySem.SeqAt renaming eqAt_reads->r_
open PySem.Builtin.Dict_items renaming ownsTuple->uE
open List.Sublist renaming refl->Cc
open PySem.pickOrder renaming go->CO
open List.cons renaming injEq->Ht
def aH:=@if_pos
def aI:=@decide_eq_true
def aM:=@if_neg
def aP:=@of_decide_eq_true
def aV:=@decide_eq_false
def bK:=@decide_eq_true_eq
def dJ:=@congrArg
def fO:=@if_false
def fR:=@beq_self_eq_true
def gF:=@if_true
def gP:=@beq_eq_false_iff_ne
def kG:=@beq_iff_eq
def s_:=@decide_eq_false_iff_not
def ZZ(h:True:=by first|exact .inl rfl|exact .inr rfl|assumption):True:=h
def ZY(h:True:=by first|exact⟨.inl rfl,by decide,by decide⟩|exact⟨.inr (.inl rfl),by decide,by decide⟩|exact⟨.inr (.inr rfl),by decide,by decide⟩):True:=h
def ZX(h:True:=by first|exact a0l _|with_unfolding_all rfl):True:=h
def ZW(h:True:=by first|exact dC rfl|exact ix rfl):True:=h
def ZV(h:True:=by first|exact .inl rfl|exact .inr rfl):True:=h
namespace L2
open PySem PySem.Spec PyProof.Rows
abbrev Key:=Sum Int bI
def b5W:Key->aj->Bool
  |.inl k,v=>jI k v
  |.inr x,v=>aj.isStrOf x v
def c0X(w:bQ):Key->Int
  |.inl k=>jY k
  |.inr x=>hashStr w x
def v9:∀{k:Key} {v:aj},b5W k v=p4->(∃i t,k=nH i/\v=iK i t)\/(∃x t,k=nG x/\v=rZ x t)
  |.inl i,v,h=>by
    obtain⟨t,e⟩:=qO (k:=i) (v:=v) h;exact .inl ⟨i,t,rfl,e⟩
  |.inr x,v,h=>by
    obtain⟨t,e⟩:=aj.isStrOf_shape (x:=x) (v:=v) h;exact .inr ⟨x,t,rfl,e⟩
def b6v(a b:Int):decide ((nH a:Key)=nH b)=(a==b):=by
  by_cases e:a=b
  . subst e;simp
  . have h:¬ (nH a:Key)=nH b:=λq=>e (nH.inj q)
    rw[aV h];exact (gP.mpr e).symm
def b6w(a b:bI):decide ((nG a:Key)=nG b)=decide (a=b):=by
  by_cases e:a=b
  . subst e;simp
  . have h:¬ (nG a:Key)=nG b:=λq=>e (nG.inj q)
    rw[aV h,aV e]
def b6x(a:Int)(b:bI):decide ((nH a:Key)=nG b)=rp:=aV (λq=>nomatch q)
def b6y(a:bI)(b:Int):decide ((nG a:Key)=nH b)=rp:=aV (λq=>nomatch q)
def a4T(prog:bB)(w:bQ):PySem.KeyKind prog w Key where
  is:=b5W
  hash:=c0X w
  inj:=λv a b ha hb=>by
    rcases v9 ha with⟨i,t,rfl,rfl⟩|⟨x,t,rfl,rfl⟩
    . rcases v9 hb with⟨j,u,rfl,e⟩|⟨y,u,rfl,e⟩
      . injection e with e1 _;rw[e1]
      . exact nomatch e
    . rcases v9 hb with⟨j,u,rfl,e⟩|⟨y,u,rfl,e⟩
      . exact nomatch e
      . injection e with e1 _;rw[e1]
  byValue:=λk v h=>by
    rcases v9 h with⟨i,t,rfl,rfl⟩|⟨x,t,rfl,rfl⟩<;>rfl
  pyHash:=λhv h=>by
    rcases v9 hv with⟨i,t,rfl,rfl⟩|⟨x,t,rfl,rfl⟩
    . exact wpAny_pyHash_int h
    . exact wpAny_pyHash_str h
  eqBool:=λhu hv h=>by
    rcases v9 hu with⟨i,t,rfl,rfl⟩|⟨x,t,rfl,rfl⟩
    . rcases v9 hv with⟨j,u,rfl,rfl⟩|⟨y,u,rfl,rfl⟩
      . rw[b6v]at h;exact wpAny_eqBool_int h
      . rw[b6x]at h;exact SeqAt.EqAt.int_str i t y u _ _ _ _ h
    . rcases v9 hv with⟨j,u,rfl,rfl⟩|⟨y,u,rfl,rfl⟩
      . rw[b6y]at h;exact SeqAt.EqAt.str_int x t j u _ _ _ _ h
      . rw[b6w]at h;exact wpAny_eqBool_str h
  «strs»:=λk x t v h=>by
    rcases v9 h with⟨i,u,rfl,e⟩|⟨y,u,rfl,e⟩
    . exact nomatch e
    . injection e with e1 _
      subst e1;cases v<;>rfl
inductive V where
  |non|bl (b:Bool)|int (i:Int)|str (x:bI)|byt (b:Array UInt8)|flt (b:UInt64)|ref (a:aw)|ty (n:String)
  deriving DecidableEq
def RelV:V->aj->Prop
  |.non,u=>u=cw
  |.bl b,u=>u=jz b
  |.int i,u=>∃t,u=iK i t
  |.str x,u=>∃t,u=rZ x t
  |.byt b,u=>∃t,u=aj.bytes b t
  |.flt b,u=>∃t,u=aj.float b t
  |.ref a,u=>u=bb a
  |.ty n,u=>u=dX n
abbrev Vals:List V->List aj->Prop:=e_ RelV
theorem Vals.length{xs:List V}{us:List aj}(r:Vals xs us):xs.length=us.length:=cR r
theorem Vals.get:∀{xs:List V} {us:List aj} {i:Nat} {x:V},Vals xs us->xs[i]?=cz x->∃u,us[i]?=cz u/\RelV x u
  |_,_,_,_,.nil,e=>by simp at e
  |_,_,0,_,.cons r _,e=>by simp at e;subst e;exact⟨_,rfl,r⟩
  |_,_,i+1,x,.cons _ t,e=>by
    obtain⟨u,h1,h2⟩:=Vals.get (i:=i) (x:=x) t (by simpa using e);exact⟨u,by simpa using h1,h2⟩
theorem Vals.append:∀{xs ys:List V} {us ws:List aj},Vals xs us->Vals ys ws->Vals (xs++ys) (us++ws)
  |_,_,_,_,.nil,s=>s
  |_,_,_,_,.cons r t,s=>.cons r (Vals.append t s)
theorem Vals.take:∀{xs:List V} {us:List aj} (n:Nat),Vals xs us->Vals (xs.take n) (us.take n)
  |_,_,0,_=>.nil
  |_,_,_+1,.nil=>.nil
  |_,_,n+1,.cons r t=>.cons r (Vals.take n t)
theorem Vals.drop:∀{xs:List V} {us:List aj} (n:Nat),Vals xs us->Vals (xs.drop n) (us.drop n)
  |_,_,0,r=>r
  |_,_,_+1,.nil=>.nil
  |_,_,n+1,.cons _ t=>Vals.drop n t
def b6z:Option V->Option aj->Prop
  |some v,cz u=>RelV v u
  |none,el=>True
  |_,_=>False
def KV{κ:Type}:List (κ×V)->List (κ×aj)->Prop:=e_ λ(p:κ×V) (q:κ×aj)=>p.1=q.1/\RelV p.2 q.2
def kV:Key->V
  |.inl i=>.int i
  |.inr x=>.str x
inductive HO where
  |lst (xs:List V)
  |tup (xs:List V)
  |dK (kvs:List (Key×V))|dT (kvs:List (List Key×V))
  |set (S:Int->Bool) (n:Nat)
  |ins (C dx:aw) (fs:List (bI×V))
  |own (x:aw)
  |xd (fs:List (bI×V))
  |met (f x:aw)
  |rng (lo hi:Int)
  |frz (o:fN) (u:HO)
  |tbl (ps:Array aj)
  |ext (φ:bU->Prop)
abbrev Hp:=aw->Option HO
def upd(H:Hp)(a:aw)(o:HO):Hp:=λb=>if b=a then cz o else H b
def i6{H:Hp}{a:aw}{o:HO}:upd H a o a=cz o:=by unfold upd;rw[aH rfl]
def g9{H:Hp}{a b:aw}{o:HO}(h:b≠a):upd H a o b=H b:=by unfold upd;rw[aM h]
def a8D:upd (upd H a o) a u=upd H a u:=by
  funext b;unfold upd;split<;>rfl
def o5{H:Hp}{a b:aw}{o:HO}(h:H a=cz o)(h':H b=el):a≠b:=by
  intro e;subst e;rw[h]at h';cases h'
def Pin(a:aw):HO->Prop
  |.tup _=>True
  |.frz _ (.own b)=>b=a
  |_=>False
abbrev b9a(a:aw):={u:HO // Pin a u}
def a5H(H:Hp)(h:bU)(a:aw)(qs:Array aj):Prop:=
  ∃ps:Array aj,h.get? a=cz {cls:=.none,data:=.fields ps}/\kj ps.toList/\∀(pos:eO) (cv:aj),lP pos ps.toList=cz cv->
    ∃c' oc vs q t t',cv=.ref c'/\H c'=cz (.frz oc (.own a))/\oc.data=.fields vs/\vs[1]?=cz (.str q t)/\qs[0]?=cz (.str q t')
section
variable (P:bB)(w:bQ)
def ObjOk(H:Hp)(h:bU)(a:aw):HO->Prop
  |.lst xs=>xs.length<=aU/\∃(cA:List aj) (n:Nat),Vals xs cA/\h.get? a=cz {cls:=.type "list",data:=.seq cA.toArray n}
  |.tup xs=>xs.length<=aU/\∃cA:List aj,Vals xs cA/\IsTup h a cA.toArray
  |.dK kvs=>kvs.length<=aU/\(a==cW)=rp/\∃vs,KV kvs vs/\h.DictOf (a4T P w) a vs
  |.dT kvs=>kvs.length<=aU/\(a==cW)=rp/\∃xs:List (List Key×aw×aj),
      e_ (λ(p:List Key×V) (q:List Key×aw×aj)=>p.1=q.1/\H q.2.1=cz (.tup (p.1.map kV))/\RelV p.2 q.2.2) kvs xs/\
      ∃o es ep,h.get? a=cz o/\o.ExactDict/\o.data=.dict es ep/\es.toList=xs.map (entryOfKey (tupleKind (a4T P w)))/\(xs.map (·.1)).Nodup
  |.set S n=>h.SetOf (c_ P w) a S n
  |.ins C dx fs=>H dx=cz (.own a)/\fs.length<=1000/\dx≠a/\h.get? a=cz (pE C dx)/\
      ∃mA,h.Ns1 dx mA/\(∀f,b6z (fs.lookup f) (mA f))/\PySem.Within mA (fs.map (·.1))
  |.own _=>∃o,h.get? a=cz o
  |.xd fs=>∃mA,h.Ns1 a mA/\∀f,b6z (fs.lookup f) (mA f)
  |.rng lo hi=>∃t u v,h.get? a=cz {cls:=.type "range",data:=.fields #[.int lo t,.int hi u,.int 1 v]}
  |.frz o u=>h.get? a=cz o/\ObjOk H h a u
  |.tbl ps=>a5H H h a ps
  |.met f x=>h.get? a=cz (nI (.ref f) (.ref x))
  |.ext φ=>φ h/\(∃o,h.get? a=cz o)/\∀h1 h2:bU,φ h1->(∀o,h1.get? a=cz o->h2.get? a=cz o)->φ h2
def HOk(H:Hp)(h:bU):Prop:=∀a o,H a=cz o->ObjOk P w H h a o
end
section
variable {P:bB}{w:bQ}{H H':Hp}{h h':bU}{a:aw}{o:HO}
theorem ObjOk.lt(x:ObjOk P w H h a o):a<h.objs.size:=by
  cases o with
  |lst xs=>obtain⟨_,_,_,_,e⟩:=x;exact aK e
  |tup xs=>obtain⟨_,_,_,p⟩:=x;exact p.lt
  |dK kvs=>obtain⟨_,_,_,_,o,_,_,e,_⟩:=x;exact aK e
  |dT kvs=>obtain⟨_,_,_,_,o,_,_,e,_⟩:=x;exact aK e
  |set S n=>obtain⟨o,_,_,_,e,_⟩:=x;exact aK e
  |ins C dx fs=>obtain⟨_,_,_,e,_⟩:=x;exact aK e
  |own y=>obtain⟨_,e⟩:=x;exact aK e
  |xd fs=>obtain⟨_,⟨_,_,_,e,_⟩,_⟩:=x;exact aK e
  |rng lo hi=>obtain⟨_,_,_,e⟩:=x;exact aK e
  |frz ob u=>obtain⟨e,_⟩:=x;exact aK e
  |tbl ps=>obtain⟨_,e,_⟩:=(show a5H H h a ps from x);exact aK e
  |met f y=>exact aK (show h.get? a=cz _ from x)
  |ext φ=>obtain⟨_,⟨_,e⟩,_⟩:=x;exact aK e
theorem Paired.mapP:∀{l₁:List α} {l₂:List β},e_ F l₁ l₂->(∀a b,F a b->G a b)->e_ G l₁ l₂
  |_,_,.nil,_=>.nil
  |_,_,.cons r t,f=>.cons (f _ _ r) (Paired.mapP t f)
def ObjOk.stay(x:ObjOk P w H h a o)(k:∀b u,(b=a\/H b=cz (.own a))->h.get? b=cz u->h'.get? b=cz u)
    (ho:∀b,H b=cz (.own a)->H' b=cz (.own a)) (ht:∀b (u:b9a a),H b=cz u.1->H' b=cz u.1):ObjOk P w H' h' a o:=by
  induction o with
  |lst xs=>obtain⟨z,cA,n,r,e⟩:=x;exact⟨z,cA,n,r,k _ _ (.inl rfl) e⟩
  |tup xs=>obtain⟨z,cA,r,ob,e,c⟩:=x;exact⟨z,cA,r,ob,k _ _ (.inl rfl) e,c⟩
  |dK kvs=>obtain⟨z,y,vs,r,ob,es,ep,e,c⟩:=x;exact⟨z,y,vs,r,ob,es,ep,k _ _ (.inl rfl) e,c⟩
  |dT kvs=>
    obtain⟨z,y,xs,r,ob,es,ep,e,c⟩:=x;exact⟨z,y,xs,Paired.mapP r λp q z=>⟨z.1,ht _ ⟨.tup _,trivial⟩ z.2.1,z.2.2⟩,ob,es,ep,k _ _ (.inl rfl) e,c⟩
  |set S n=>obtain⟨ob,es,ep,t,e,c⟩:=x;exact⟨ob,es,ep,t,k _ _ (.inl rfl) e,c⟩
  |ins C dx fs=>
    obtain⟨d,z,ne,e,mA,⟨od,es,ep,e2,c⟩,r⟩:=x;exact⟨ho _ d,z,ne,k _ _ (.inl rfl) e,mA,⟨od,es,ep,k _ _ (.inr d) e2,c⟩,r⟩
  |own y=>obtain⟨ob,e⟩:=x;exact⟨ob,k _ _ (.inl rfl) e⟩
  |xd fs=>obtain⟨mA,⟨od,es,ep,e,c⟩,r⟩:=x;exact⟨mA,⟨od,es,ep,k _ _ (.inl rfl) e,c⟩,r⟩
  |rng lo hi=>obtain⟨t,u,v,e⟩:=x;exact⟨t,u,v,k _ _ (.inl rfl) e⟩
  |frz ob u ih=>obtain⟨e,q⟩:=x;exact⟨k _ _ (.inl rfl) e,ih q⟩
  |tbl ps=>
    obtain⟨qs,e,t,f⟩:=(show a5H H h a ps from x);refine⟨qs,k a _ (.inl rfl) e,t,λpos cv z=>?_⟩;obtain⟨c,oc,vs,q,t1,t2,z1,z2,z3,z4,z5⟩:=f pos cv z;exact⟨c,oc,vs,q,t1,t2,z1,ht c ⟨.frz _ (.own a),rfl⟩ z2,z3,z4,z5⟩
  |met f y=>
    have e:h.get? a=cz (nI (.ref f) (.ref y)):=x;show h'.get? a=cz (nI (.ref f) (.ref y));exact k a _ (.inl rfl) e
  |ext φ=>obtain⟨p,⟨o,e⟩,st⟩:=x;exact⟨st _ _ p λo q=>k _ _ (.inl rfl) q,⟨o,k _ _ (.inl rfl) e⟩,st⟩
theorem HOk.lt(x:HOk P w H h)(e:H a=cz o):a<h.objs.size:=(x a o e).lt
def HOk.fresh(x:HOk P w H h)(e:h.objs.size<=a):H a=el:=by
  cases q:H a with
  |none=>rfl
  |some u=>exact absurd (bA (x.lt q) e) (dw _)
def HOk.kept(x:HOk P w H h)(k:∀b u,h.get? b=cz u->h'.get? b=cz u):HOk P w H h':=λa o e=>
  (x a o e).stay (λb u _ q=>k b u q) (λ_ q=>q) λ_ _ q=>q
def HOk.laid(x:HOk P w H h)(k:∀b u,h.get? b=cz u->h'.get? b=cz u)(hp:h.objs.size<=a)(new:ObjOk P w (upd H a o) h' a o):HOk P w (upd H a o) h':=λb u e=>by
  have hn:=x.fresh hp;by_cases hb:b=a
  . subst hb;rw[i6]at e;cases e;exact new
  . rw[g9 hb]at e
    exact (x b u e).stay (λc v _ q=>k c v q) (λc q=>by rw[g9 (o5 q hn)];exact q) λc xs q=>by rw[g9 (o5 q hn)];exact q
end
def Rd(H:Hp)(a:aw)(u:HO):Prop:=H a=cz u\/∃o,H a=cz (.frz o u)
def Rd.ok{P:bB}{w:bQ}{H:Hp}{h:bU}{a:aw}{u:HO}(r:Rd H a u)(x:HOk P w H h):ObjOk P w H h a u:=by
  rcases r with r|⟨o,r⟩
  . exact x a u r
  . obtain⟨_,q⟩:=x a _ r
    exact q
def Mut:Option HO->Prop
  |some (.lst _)=>True
  |some (.dK _)=>True
  |some (.dT _)=>True
  |some (.set _ _)=>True
  |some (.ins _ _ _)=>True
  |some (.ext _)=>True
  |_=>False
section
variable {P:bB}{w:bQ}{H:Hp}{h h':bU}{x e:aw}{o':HO}
def HOk.write(ok:HOk P w H h)(mu:Mut (H x))(he:e=x\/H e=cz (.own x))(k:∀b u,b≠e->h.get? b=cz u->h'.get? b=cz u)(uQ:∃u,h'.get? e=cz u)
    (new:ObjOk P w (upd H x o') h' x o'):HOk P w (upd H x o') h':=λb u q=>by
  have vx:∀c y,H c=cz (.own y)->c≠x:=λc y r z=>by subst z;rw[r]at mu;exact mu
  have yr:∀{bq:aw} c (u:b9a bq),H c=cz u.1->c≠x:=λ{bq} c u r z=>by subst z;rw[r]at mu;obtain⟨u,hu⟩:=u;cases u<;>first|exact hu|exact mu
  by_cases hb:b=x
  . subst hb;rw[i6]at q;cases q;exact new
  . rw[g9 hb]at q
    by_cases um:b=e
    . have q':H b=cz (.own x):=by
        rcases he with z|z
        . exact absurd (um.trans z) hb
        . rw[um];exact z
      rw[q]at q';cases q';obtain⟨v,hv⟩:=uQ;exact⟨v,by rw[um];exact hv⟩
    . refine (ok b u q).stay (λc v hc r=>k c v ?_ r) (λc r=>by rw[g9 (vx c b r)];exact r) λc xs r=>by rw[g9 (yr c xs r)];exact r
      rcases hc with rfl|hc
      . exact um
      . rintro rfl
        rcases he with z|z
        . exact vx c b hc z
        . rw[hc]at z;cases z;exact hb rfl
end
structure Un (fs ex:List aw) (H H':Hp) (h h':bU):Prop where
  keep:∀b o,h.get? b=cz o->H b=el->b∉fs->b∉ex->h'.get? b=cz o
  slot:∀b o,h.get? b=cz o->H b=el->b∈fs->b∉ex->∃sl,h'.get? b=cz {o with slots:=sl}
  free:∀b o,h.get? b=cz o->H b=el->b∉ex->H' b=el
  there:∀b o,h.get? b=cz o->b∉ex->∃o',h'.get? b=cz o'
  tups:∀b xs,H b=cz (.tup xs)->H' b=cz (.tup xs)
  frzs:∀b o u,H b=cz (.frz o u)->H' b=cz (.frz o u)
  tbls:∀b ps,H b=cz (.tbl ps)->∃more,H' b=cz (.tbl (ps++more))
section
variable {fs km ex Ha:List aw}{H H1 H2:Hp}{h h1 h2 h':bU}{a x e:aw}{o:HO}
def Un.any(u:Un fs ex H H1 h h1)(q:h.get? b=cz ob)(n:H b=el)(hx:b∉ex):∃sl,h1.get? b=cz {ob with slots:=sl}:=by
  by_cases hb:b∈fs
  . exact u.slot b ob q n hb hx
  . exact⟨ob.slots,u.keep b ob q n hb hx⟩
def Un.kept(k:∀b u,h.get? b=cz u->h'.get? b=cz u):Un fs ex H H h h':=
  ⟨λb ob q _ _ _=>k b ob q,λb ob q _ _ _=>⟨ob.slots,k b ob q⟩,λ_ _ _ n _=>n,λb ob q _=>⟨ob,k b ob q⟩,λ_ _ q=>q,λ_ _ _ q=>q,λ_ ps q=>⟨#[],by rw[q];simp⟩⟩
def Un.refl:Un fs ex H H h h:=Un.kept λ_ _ q=>q
def Un.laid(k:∀b u,h.get? b=cz u->h'.get? b=cz u)(hp:h.objs.size<=a)(hn:H a=el):Un fs ex H (upd H a o) h h' where
  keep:=λb u q _ _ _=>k b u q
  slot:=λb u q _ _ _=>⟨u.slots,k b u q⟩
  free:=λb u q n _=>by rw[g9 (bg (bA (aK q) hp))];exact n
  there:=λb u q _=>⟨u,k b u q⟩
  tups:=λb xs q=>by rw[g9 (o5 q hn)];exact q
  frzs:=λb u xs q=>by rw[g9 (o5 q hn)];exact q
  tbls:=λb ps q=>⟨#[],by rw[g9 (o5 q hn),q];simp⟩
def Un.write(mu:Mut (H x))(he:e=x\/H e=cz (.own x))(k:∀b u,b≠e->h.get? b=cz u->h'.get? b=cz u)(uQ:∃u,h'.get? e=cz u):Un fs ex H (upd H x o) h h':=by
  have hx:∀b,H b=el->b≠x:=λb n z=>by subst z;rw[n]at mu;exact mu
  have hb:∀b,H b=el->b≠e:=λb n z=>by
    subst z;rcases he with r|r
    . exact hx b n r
    . rw[n]at r;cases r
  have hm:∀b u,H b=cz u->¬ Mut (cz u)->b≠x:=λb u q nm z=>by subst z;rw[q]at mu;exact nm mu
  refine⟨λb u q n _ _=>k b u (hb b n) q,λb u q n _ _=>⟨u.slots,k b u (hb b n) q⟩,λb u q n _=>by rw[g9 (hx b n)];exact n,λb u q _=>?_,
    λb xs q=>by rw[g9 (hm b _ q λz=>z)];exact q,λb u xs q=>by rw[g9 (hm b _ q λz=>z)];exact q,λb ps q=>⟨#[],by rw[g9 (hm b _ q λz=>z),q];simp⟩⟩
  by_cases um:b=e
  . subst um;exact uQ
  . exact⟨u,k b u um q⟩
end
def trk(h:bU)(H:Hp):List aw:=(aJ h.objs.size).filter λa=>(H a).isSome
def a4U(h:bU)(H:Hp):bU:=PySem.W.hideAll h (trk h H)
def a9D(h:bU)(H:Hp):(a4U h H).objs.size=h.objs.size:=PySem.W.hideAll_size _ _
def b1j{h:bU}(e:h.get? b=cz o)(n:H b=el):(a4U h H).get? b=cz o:=
  PySem.W.hideAll_get _ e λhm=>by
    have q:(H b).isSome=p4:=(bu.mp hm).2;rw[n]at q;simp at q
def b3R(e:(a4U h H).get? b=cz o):h.get? b=cz o/\H b=el:=by
  have e':h.get? b=cz o:=PySem.W.of_hideAll (trk h H) e;refine⟨e',?_⟩;cases q:H b with
  |none=>rfl
  |some x=>
    have hm:b∈trk h H:=bu.mpr ⟨bR.mpr (aK e'),by simp[q]⟩;have z:(a4U h H).get? b=el:=PySem.W.hideAll_none (trk h H) hm;rw[z]at e;cases e
def b3S(g h:bU)(L:aw):List (aw×fN):=(aJ h.objs.size).filterMap λa=>if a=L\/(g.get? a).isSome=p4 then el else (h.get? a).map λo=>(a,o)
def rest(g h:bU)(L d:aw):List (aw×fN):=(b3S g h L).filter λp=>decide (p.1≠d)
def N6:List bI:=["ways_by_state","joins_by_pair","compare","first_gathering","least_asks"]
def V9(x:bI):bI:=x++".<locals>." ++ "<lambda>"
def a4V(K:af)(cd:aj):Option aw:=match cd with
  |.ref c=>(match K.lookup c with
    |some ⟨.type n,_,.fields vs,_⟩=>if n=="code" then
        (match (vs[11]?:Option aj),(vs[18]?:Option aj),(vs[7]?:Option aj),(vs[9]?:Option aj),(vs[10]?:Option aj) with
        |some (.ref P),cz (.str _ _),cz (.int _ _),cz (.bool _),cz (.int _ _)=>if c !=P then cz P else el
        |_,_,_,_,_=>el) else el
    |_=>el)
  |_=>el
def E2(K:af)(x:bI):Option aw:=match gG K bP x with
  |some (cz (.ref f))=>(match K.lookup f with
    |some ⟨_,_,.func fd,_⟩=>a4V K fd.code
    |_=>el)
  |_=>el
def TabsIn(K:af)(H:Hp):Prop:=∀x∈N6,∀p,E2 K x=cz p->∃qs t,H p=cz (.tbl qs)/\qs[0]?=cz (.str (V9 x) t)
def TabsIn.un{K:af}{fs ex:List aw}{H H':Hp}{h h':bU}(a:TabsIn K H)(u:Un fs ex H H' h h'):TabsIn K H':=λx hx p e=>by
  obtain⟨qs,t,e1,e2⟩:=a x hx p e;obtain⟨more,e3⟩:=u.tbls p qs e1;refine⟨_,t,e3,?_⟩;have hz:0<qs.size:=by
    rcases gH 0 qs.size with z|z
    . exact z
    . rw[eQ (by omega)]at e2;cases e2
  rw[Array.getElem?_append_left hz];exact e2
structure Mod (K:af) (mg:bI->Option aj) (base:bU):Prop where
  kin:K.In base
  glob:base.Ns bP mg
  blt:∃mb,base.Ns ko mb/\∀x:bI,x≠"__name__"->mb x=gq x
  nolimit:base.NoLimit
  bmain:∃bm ob,mg "__builtins__"=cz (.ref bm)/\bm≠ko/\base.get? bm=cz ob/\ob.cls=.type "module"/\ob.dict=cz ko/\ob.data=.plain
structure Cx where
  prog:bB
  w:bQ
  K:af
  mg:bI->Option aj
  base:bU
  A:bE
  N:List bI
  s₀:av
  H₀:Hp
  env:oS
  outer:List oS
  stack:List oS
  ex:List aw
  fn:bI->Bool
  calm:Bool
  pn:List (aw×fN)
  xe:aj->av->Prop
def frs(l:List oS):List aw:=l.filterMap (·.frame)
abbrev Cx.fs(X:Cx):List aw:=frs X.outer
def Vis(sc:gi)(x:bI):Prop:=sc.names.lookup x=cz .local\/sc.names.lookup x=cz .cell\/sc.names.lookup x=cz .free
abbrev NmV(X:Cx)(x:bI):Prop:=Vis X.env.scope x/\(x==("__debug__":bI))=rp/\(x==("__classdict__":bI))=rp
def Loc(sc:gi)(x:bI):Prop:=sc.names.lookup x=cz .local\/sc.names.lookup x=cz .cell
def Look(env:oS)(h:bU)(m:bI->Option aj)(x:bI)(u:aj):Prop:=
  (env.kindOf x=cz .local/\m x=cz u)\/((env.kindOf x=cz .cell\/env.kindOf x=cz .free)/\∃c,env.cells.lookup x=cz c/\h.IsCell c (cz u))
structure Cx.Ok (X:Cx):Prop where
  mod:Mod X.K X.mg X.base
  kind:X.env.scope.kind=.function
  glob:X.env.globals=bP
  blt:X.env.builtins=ko
  above:X.s₀.heap.objs.size<=X.env.locals
  inj:∀x y c,X.env.cells.lookup x=cz c->X.env.cells.lookup y=cz c->x=y
  has:∀x,(X.env.kindOf x=cz .cell\/X.env.kindOf x=cz .free)->∃c,X.env.cells.lookup x=cz c
  cab:∀x c,X.fn x=p4->X.env.cells.lookup x=cz c->X.s₀.heap.objs.size<=c
  hd:X.calm=p4->X.A.handled=el
  frames:X.A.frames=cz X.stack
  stk:X.stack=X.outer\/(X.stack=X.env::X.outer/\X.env.frame=cz X.env.locals)
  exf:∀b∈X.ex,b≠X.env.locals/\∀x c,X.env.cells.lookup x=cz c->c≠b
  bs:∀b o,X.base.get? b=cz o->X.s₀.heap.get? b=cz o/\X.H₀ b=el
  bsz:X.base.objs.size<=X.s₀.heap.objs.size
  noex:∀b o,X.base.get? b=cz o->b∉X.ex
  exfs:∀b∈X.ex,b∉X.fs
  funs:X.s₀.heap.FunFrames X.base X.outer
  frf:∀b∈X.fs,X.H₀ b=el
  tabs:TabsIn X.K X.H₀
structure Inv (X:Cx) (pins:List (aw×fN)) (Y:List (Option V)) (H:Hp) (s:av):Prop where
  ok:X.Ok
  os:s.os=X.s₀.os
  bare:oU s.gens
  base:Un X.fs X.ex X.H₀ H X.s₀.heap s.heap
  loc:∃m,s.heap.Ns X.env.locals m/\∀(i:Nat) (x:bI) (v:V),X.N[i]?=cz x->Y[i]?=cz (cz v)->Vis X.env.scope x->∃u,RelV v u/\Look X.env s.heap m x u
  cell:∀x c,X.env.cells.lookup x=cz c->∃v,s.heap.IsCell c v
  free:H X.env.locals=el
  freeC:∀x c,X.env.cells.lookup x=cz c->H c=el
  pin:∀p∈X.pn++pins,s.heap.get? p.1=cz p.2/\H p.1=el/\p.1≠X.env.locals/\p.1∉X.fs/\∀v,p.2.data≠.cell v
  hok:HOk X.prog X.w H s.heap
  len:Y.length=X.N.length
section
variable {X:Cx}{pins:List (aw×fN)}{Y:List (Option V)}{H H':Hp}{s:av}{h':bU}
def Cx.Ok.nofr(ok:X.Ok)(e:X.base.get? b=cz o):b∉X.fs:=λhb=>by
  have:=(ok.funs.mem hb).1;rw[e]at this;cases this
theorem Inv.bs(I:Inv X pins Y H s):∀b o,X.base.get? b=cz o->s.heap.get? b=cz o/\H b=el:=λb o e=>
  ⟨I.base.keep b o (I.ok.bs b o e).1 (I.ok.bs b o e).2 (I.ok.nofr e) (I.ok.noex b o e),I.base.free b o (I.ok.bs b o e).1 (I.ok.bs b o e).2 (I.ok.noex b o e)⟩
theorem Inv.tabs(I:Inv X pins Y H s):TabsIn X.K H:=I.ok.tabs.un I.base
def Inv.bk(I:Inv X pins Y H s):∀b o,X.base.get? b=cz o->s.heap.get? b=cz o:=λb o e=>(I.bs b o e).1
theorem Inv.mod(I:Inv X pins Y H s):Mod X.K X.mg X.base:=I.ok.mod
def Inv.kIn(I:Inv X pins Y H s):X.K.In s.heap:=I.ok.mod.kin.keeps I.bk
theorem Inv.lt(I:Inv X pins Y H s):X.env.locals<s.heap.objs.size:=let⟨_,hn,_⟩:=I.loc;hn.lt
def Inv.sz(I:Inv X pins Y H s):X.s₀.heap.objs.size<=s.heap.objs.size:=bL I.ok.above (dF I.lt)
def Inv.nofs(I:Inv X pins Y H s)(h:s.heap.objs.size<=a):a∉X.fs:=λhb=>by
  obtain⟨_,o,ho,_⟩:=I.ok.funs.mem hb;exact absurd (bA (aK ho) (bL I.sz h)) (dw _)
def Inv.cne(I:Inv X pins Y H s):∀x c,X.env.cells.lookup x=cz c->c≠X.env.locals:=λx c e z=>by
  obtain⟨v,o,ho,hd⟩:=I.cell x c e;obtain⟨m,⟨o',es,ep,pA,lD,_⟩,_⟩:=I.loc;rw[z,pA]at ho;cases ho;rw[lD]at hd;cases hd
theorem Inv.funs(I:Inv X pins Y H s):s.heap.FunFrames X.base X.outer:=by
  have all:∀(l:List oS),(∀b∈frs l,b∈X.fs)->X.s₀.heap.FunFrames X.base l->s.heap.FunFrames X.base l:=by
    intro l
    induction l with
    |nil=>intro _ _;trivial
    |cons env r ih=>
      intro hs hl;obtain⟨hk,⟨L,o,hf,hn,ho,hd⟩,hr⟩:=hl;have hL:L∈X.fs:=hs L (by unfold frs;rw[mo,hf];exact ak);obtain⟨sl,e⟩:=I.base.slot L o ho (I.ok.frf L hL) hL λz=>I.ok.exfs L z hL
      exact⟨hk,⟨L,_,hf,hn,e,hd⟩,ih (λb hb=>hs b (by unfold frs;rw[mo,hf];exact aq _ hb)) hr⟩
  exact all X.outer (λ_ hb=>hb) I.ok.funs
theorem Inv.stack(I:Inv X pins Y H s):s.heap.FunFrames X.base X.stack:=by
  rcases I.ok.stk with e|⟨e,hf⟩
  . rw[e];exact I.funs
  . rw[e]
    obtain⟨m,hn,_⟩:=I.loc;refine .cons (by rw[I.ok.kind];decide) hf hn ?_ I.funs;exact bU.get?_none_of_le (bL I.ok.bsz I.ok.above)
def Inv.stkSub(I:Inv X pins Y H s):∀b∈frs X.stack,b∈X.env.locals::X.fs:=λb hb=>by
  rcases I.ok.stk with e|⟨e,hf⟩
  . rw[e]at hb;exact aq _ hb
  . rw[e]at hb
    unfold frs at hb;rw[mo,hf]at hb;exact hb
def Inv.stkFree(I:Inv X pins Y H s):∀b∈frs X.stack,H b=el:=λb hb=>by
  rcases az.mp (I.stkSub b hb) with e|hb
  . rw[e];exact I.free
  . obtain⟨_,o,ho,_⟩:=I.ok.funs.mem hb
    exact I.base.free b o ho (I.ok.frf b hb) λz=>I.ok.exfs b z hb
def Inv.step{g':Array GenState}{t':Nat}{d':Drawn}{ch:List aw}(I:Inv X pins Y H s)
    (q_:∀b∈ch,(b∈X.ex\/X.s₀.heap.objs.size<=b)/\b≠X.env.locals/\(∀x c,X.env.cells.lookup x=cz c->c≠b)/\∀p∈X.pn++pins,p.1≠b)
    (keep:∀b o,b≠X.env.locals->b∉X.fs->b∉ch->s.heap.get? b=cz o->H b=el->h'.get? b=cz o)
    (slot:∀b o,b≠X.env.locals->b∈X.fs->b∉ch->s.heap.get? b=cz o->H b=el->∃sl,h'.get? b=cz {o with slots:=sl}) (free:∀b o,b∉ch->s.heap.get? b=cz o->H b=el->H' b=el)
    (there:∀b o,b∉ch->s.heap.get? b=cz o->∃o',h'.get? b=cz o')
    (tups:∀b xs,H b=cz (.tup xs)->H' b=cz (.tup xs)) (frzs:∀b o u,H b=cz (.frz o u)->H' b=cz (.frz o u)) (tbls:∀b ps,H b=cz (.tbl ps)->∃more,H' b=cz (.tbl (ps++more)))
    (ns:∀m,s.heap.Ns X.env.locals m->h'.Ns X.env.locals m) (hok:HOk X.prog X.w H' h') (hg:oU g') :
    Inv X pins Y H' {s with heap:=h',gens:=g',drawn:=d',toks:=t'}:=by
  have AE:∀b o,X.s₀.heap.get? b=cz o->b≠X.env.locals:=λb o e=>bg (bA (aK e) I.ok.above)
  have xt:∀b o,X.s₀.heap.get? b=cz o->b∉X.ex->b∉ch:=λb o e hx hb=>by
    rcases (q_ b hb).1 with z|z
    . exact hx z
    . exact absurd (bA (aK e) z) (dw _)
  have cellK:∀x c,X.env.cells.lookup x=cz c->∀v,s.heap.IsCell c v->h'.IsCell c v:=λx c e v ⟨o,ho,hd⟩=>by
    have p_:c∉ch:=λz=>(q_ c z).2.2.1 x c e rfl
    by_cases hc:c∈X.fs
    . obtain⟨sl,q⟩:=slot c o (I.cne x c e) hc p_ ho (I.freeC x c e)
      exact⟨_,q,hd⟩
    . exact⟨o,keep c o (I.cne x c e) hc p_ ho (I.freeC x c e),hd⟩
  refine⟨I.ok,I.os,hg,⟨λb o e n hb hx=>?_,λb o e n hb hx=>?_,λb o e n hx=>?_,λb o e hx=>?_,λb xs e=>tups b xs (I.base.tups b xs e),λb o xs e=>frzs b o xs (I.base.frzs b o xs e),λb ps e=>?_⟩,?_,λx c e=>?_,?_,λx c e=>?_,λp hp=>?_,hok,I.len⟩
  . exact keep b o (AE b o e) hb (xt b o e hx) (I.base.keep b o e n hb hx) (I.base.free b o e n hx)
  . obtain⟨sl,e1⟩:=I.base.slot b o e n hb hx
    obtain⟨Av,e2⟩:=slot b _ (AE b o e) hb (xt b o e hx) e1 (I.base.free b o e n hx);exact⟨Av,e2⟩
  . obtain⟨o',e1⟩:=I.base.there b o e hx
    exact free b o' (xt b o e hx) e1 (I.base.free b o e n hx)
  . obtain⟨o',e1⟩:=I.base.there b o e hx
    exact there b o' (xt b o e hx) e1
  . obtain⟨m1,e1⟩:=I.base.tbls b ps e
    obtain⟨m2,e2⟩:=tbls b _ e1;exact⟨m1++m2,by rw[e2,Array.append_assoc]⟩
  . obtain⟨m,hn,hl⟩:=I.loc
    refine⟨m,ns m hn,λi x v e1 e2 e3=>?_⟩;obtain⟨u,r,l⟩:=hl i x v e1 e2 e3;refine⟨u,r,?_⟩;rcases l with l|⟨k,c,e,z⟩
    . exact .inl l
    . exact .inr ⟨k,c,e,cellK x c e _ z⟩
  . obtain⟨v,z⟩:=I.cell x c e
    exact⟨v,cellK x c e v z⟩
  . obtain⟨m,⟨o,_,_,ho,_⟩,_⟩:=I.loc
    exact free _ o (λz=>(q_ _ z).2.1 rfl) ho I.free
  . obtain⟨v,o,ho,hd⟩:=I.cell x c e
    exact free c o (λz=>(q_ c z).2.2.1 x c e rfl) ho (I.freeC x c e)
  . obtain⟨e,n,ne,nf,d⟩:=I.pin p hp
    have p_:p.1∉ch:=λz=>(q_ p.1 z).2.2.2 p hp rfl
    exact⟨keep p.1 p.2 ne nf p_ e n,free p.1 p.2 p_ e n,ne,nf,d⟩
def Inv.un(I:Inv X pins Y H s)(u:Un X.fs [] H H' s.heap h')(hok:HOk X.prog X.w H' h'):Inv X pins Y H' {s with heap:=h',toks:=t'}:=by
  obtain⟨m,⟨o,es,ep,ho,r⟩,_⟩:=id I.loc;obtain⟨sl,hL⟩:=u.any ho I.free (by simp);exact I.step (g':=s.gens) (d':=s.drawn) (ch:=[]) (λ_ z=>nomatch z) (λb o _ hb _ e n=>u.keep b o e n hb (by simp)) (λb o _ hb _ e n=>u.slot b o e n hb (by simp)) (λb o _ e n=>u.free b o e n (by simp)) (λb o _ e=>u.there b o e (by simp)) u.tups u.frzs u.tbls (λm' hm=>by
    obtain⟨o',eJ,rg,pA,r'⟩:=hm;rw[ho]at pA;cases pA;exact⟨_,eJ,rg,hL,r'⟩) hok I.bare
def Inv.call(I:Inv X pins Y H s)(u:Un (frs X.stack) ch H H' s.heap h')(hok:HOk X.prog X.w H' h')(hg:oU g')
    (q_:∀b∈ch,(b∈X.ex\/X.s₀.heap.objs.size<=b)/\b≠X.env.locals/\(∀x c,X.env.cells.lookup x=cz c->c≠b)/\∀p∈X.pn++pins,p.1≠b) :
    Inv X pins Y H' {s with heap:=h',gens:=g',drawn:=d',toks:=t'}:=by
  obtain⟨m,⟨o,es,ep,ho,r⟩,_⟩:=id I.loc;obtain⟨sl,hL⟩:=u.any ho I.free λz=>(q_ _ z).2.1 rfl
  exact I.step (ch:=ch) q_ (λb o hL hb hc e n=>u.keep b o e n (λz=>(az.mp (I.stkSub b z)).elim hL hb) hc) (λb o _ _ hc e n=>u.any e n hc) (λb o hc e n=>u.free b o e n hc) (λb o hc e=>u.there b o e hc) u.tups u.frzs u.tbls (λm' hm=>by
    obtain⟨o',eJ,rg,pA,r'⟩:=hm;rw[ho]at pA;cases pA;exact⟨_,eJ,rg,hL,r'⟩) hok hg
def Inv.turned(I:Inv X pins Y H s)(k:∀b o,b≠it->s.heap.get? b=cz o->h'.get? b=cz o)(hn:H it=el)(hL:it≠X.env.locals)
    (h1:it∈X.ex\/X.s₀.heap.objs.size<=it) (h2:∀x c,X.env.cells.lookup x=cz c->c≠it) (h3:∀p∈X.pn++pins,p.1≠it):Inv X pins Y H {s with heap:=h',toks:=t'}:=by
  have AB:∀b u,H b=cz u->b≠it:=λb u e z=>by rw[z,hn]at e;cases e
  refine I.step (g':=s.gens) (d':=s.drawn) (ch:=[it]) (λb hb=>?_) (λb o _ _ hc e _=>k b o (λz=>hc (by simp[z])) e) (λb o _ _ hc e _=>⟨o.slots,k b o (λz=>hc (by simp[z])) e⟩) (λ_ _ _ _ n=>n)
    (λb o hc e=>⟨o,k b o (λz=>hc (by simp[z])) e⟩) (λ_ _ e=>e) (λ_ _ _ e=>e) (λb ps e=>⟨#[],by rw[e];simp⟩) (λm hm=>?_) (λb u e=>?_) I.bare
  . have e:b=it:=by simpa using hb
    subst e;exact⟨h1,hL,h2,h3⟩
  . obtain⟨o,es,ep,ho,r⟩:=hm
    exact⟨o,es,ep,k _ o (dP hL) ho,r⟩
  . refine (I.hok b u e).stay (λc v hc q=>k c v ?_ q) (λ_ q=>q) λ_ _ q=>q
    rcases hc with z|z
    . rw[z];exact AB b u e
    . exact AB c _ z
def Inv.tok(I:Inv X pins Y H s)(t:Nat):Inv X pins Y H {s with toks:=t}:=I.un (h':=s.heap) (t':=t) Un.refl I.hok
theorem Inv.kept(I:Inv X pins Y H s)(k:∀b u,s.heap.get? b=cz u->h'.get? b=cz u):Inv X pins Y H {s with heap:=h',toks:=t'}:=I.un (Un.kept k) (I.hok.kept k)
theorem Inv.laid{a:aw}{o:HO}{t':Nat}(I:Inv X pins Y H s)(k:∀b u,s.heap.get? b=cz u->h'.get? b=cz u)(hp:s.heap.objs.size<=a)(new:ObjOk X.prog X.w (upd H a o) h' a o) :
    Inv X pins Y (upd H a o) {s with heap:=h',toks:=t'}:=I.un (Un.laid k hp (I.hok.fresh hp)) (I.hok.laid k hp new)
theorem Inv.write(I:Inv X pins Y H s)(mu:Mut (H x))(he:e=x\/H e=cz (.own x))(k:∀b u,b≠e->s.heap.get? b=cz u->h'.get? b=cz u)(uQ:∃u,h'.get? e=cz u)
    (new:ObjOk X.prog X.w (upd H x o) h' x o):Inv X pins Y (upd H x o) {s with heap:=h',toks:=t'}:=I.un (Un.write mu he k uQ) (I.hok.write mu he k uQ new)
def Inv.pins_of(I:Inv X pins Y H s)(h:∀p∈vq,s.heap.get? p.1=cz p.2/\H p.1=el/\p.1≠X.env.locals/\p.1∉X.fs/\∀v,p.2.data≠.cell v):Inv X vq Y H s:=
  ⟨I.ok,I.os,I.bare,I.base,I.loc,I.cell,I.free,I.freeC,λp hp=>(ay.mp hp).elim (λz=>I.pin p (aC _ z)) (h p),I.hok,I.len⟩
def a5I{N:List bI}(hN:N.Nodup){i j:Nat}{x:bI}(a:N[i]?=cz x)(b:N[j]?=cz x):i=j:=by
  obtain⟨h1,e1⟩:=aQ.mp a;obtain⟨h2,e2⟩:=aQ.mp b;exact (List.getElem_inj hN).mp (e1.trans e2.symm)
def a9E{M:Model}{A:bE}{E:aj->av->Prop}{i:Nat}{x:bI}{v:V}{u:aj}{Q:Unit->av->Prop}(I:Inv X pins Y H s)(hN:X.N.Nodup)(hi:X.N[i]?=cz x)(hx:Loc X.env.scope x)(r:RelV v u)
    (h:∀s',Inv X pins (Y.set i (cz v)) H s'->(∃a,cF a s.heap s'.heap/\(a=X.env.locals\/X.env.cells.lookup x=cz a))->Q () s') (hf:autoParam (X.fn x=p4\/X.env.scope.names.lookup x=cz .local) ZZ._auto_1):aE M A (storeName X.env x u) Q E s:=by
  obtain⟨m,hn,hl⟩:=id I.loc;have zJ:(X.env.scope.kind==.class||(X.env.scope.kind==.module&&X.env.locals !=X.env.globals))=rp:=by rw[I.ok.kind];rfl
  have wb:i<Y.length:=by rw[I.len];exact (aQ.mp hi).1
  have cne:=I.cne;have tracked:∀{a:aw} {h':bU},(∃o,s.heap.get? a=cz o/\H a=el)->cF a s.heap h'->HOk X.prog X.w H h':=λ{a h'} ha hs b ob e=>by
    obtain⟨_,_,ny⟩:=ha;refine (I.hok b ob e).stay (λc w' hc q=>(hs.2 c ?_).trans q) (λ_ q=>q) λ_ _ q=>q
    rintro rfl;rcases hc with rfl|hc
    . rw[ny]at e;cases e
    . rw[ny]at hc;cases hc
  rcases hx with hk|hk
  . refine wpAny_storeName_local hk hn (λh' tY hs=>?_) zJ
    obtain⟨oL,_,_,DU,_⟩:=id hn;refine h _ ⟨I.ok,I.os,I.bare,⟨λb o e n hb hx=>?_,λb o e n hb hx=>?_,I.base.free,λb o e hx=>?_,I.base.tups,I.base.frzs,I.base.tbls⟩,⟨_,tY,λj y v' e1 e2 e3=>?_⟩,λy c e=>?_,I.free,I.freeC,λp hp=>?_,tracked ⟨oL,DU,I.free⟩ hs,by simpa using I.len⟩ ⟨_,hs,.inl rfl⟩
    . exact (hs.2 b (bg (bA (aK e) I.ok.above))).trans (I.base.keep b o e n hb hx)
    . obtain⟨sl,e1⟩:=I.base.slot b o e n hb hx
      exact⟨sl,(hs.2 b (bg (bA (aK e) I.ok.above))).trans e1⟩
    . obtain⟨o',e1⟩:=I.base.there b o e hx
      exact⟨o',(hs.2 b (bg (bA (aK e) I.ok.above))).trans e1⟩
    . by_cases hj:j=i
      . subst hj
        rw[hi]at e1;cases e1;rw[fZ wb]at e2;cases e2
        exact⟨u,r,.inl ⟨hk,by simp⟩⟩
      . rw[gC (dP hj)]at e2
        obtain⟨u',r',q⟩:=hl j y v' e1 e2 e3;refine⟨u',r',?_⟩;rcases q with⟨k,e⟩|⟨k,c,e,z⟩
        . refine .inl ⟨k,?_⟩
          have:y≠x:=λe=>hj (a5I hN e1 (e▸hi))
          simp[this,e]
        . exact .inr ⟨k,c,e,z.sameBut hs (cne y c e)⟩
    . obtain⟨w',z⟩:=I.cell y c e
      exact⟨w',z.sameBut hs (cne y c e)⟩
    . obtain⟨e,n,ne,nf,d⟩:=I.pin p hp
      exact⟨(hs.2 p.1 ne).trans e,n,ne,nf,d⟩
  . have oy:X.fn x=p4:=by
      rcases hf with z|z
      . exact z
      . rw[z]at hk;cases hk
    obtain⟨c,hc⟩:=I.ok.has x (.inl hk);obtain⟨w',z⟩:=I.cell x c hc;refine wpAny_storeName_cell I.ok.kind hk hc z (λh' uk hs=>?_);obtain⟨oc,vS,yX⟩:=id z;refine h {s with heap:=h'} ⟨I.ok,I.os,I.bare,⟨λb o e n hb hx=>?_,λb o e n hb hx=>?_,I.base.free,λb o e hx=>?_,I.base.tups,I.base.frzs,I.base.tbls⟩,⟨m,hn.sameBut hs (dP (cne x c hc)),λj y v' e1 e2 e3=>?_⟩,λy c' e=>?_,I.free,I.freeC,λp hp=>?_,tracked ⟨oc,vS,I.freeC x c hc⟩ hs,by simpa using I.len⟩ ⟨c,hs,.inr hc⟩
    . exact (hs.2 b (bg (bA (aK e) (I.ok.cab x c oy hc)))).trans (I.base.keep b o e n hb hx)
    . obtain⟨sl,e1⟩:=I.base.slot b o e n hb hx
      exact⟨sl,(hs.2 b (bg (bA (aK e) (I.ok.cab x c oy hc)))).trans e1⟩
    . obtain⟨o',e1⟩:=I.base.there b o e hx
      exact⟨o',(hs.2 b (bg (bA (aK e) (I.ok.cab x c oy hc)))).trans e1⟩
    . by_cases hj:j=i
      . subst hj
        rw[hi]at e1;cases e1;rw[fZ wb]at e2;cases e2
        exact⟨u,r,.inr ⟨.inl hk,c,hc,uk⟩⟩
      . rw[gC (dP hj)]at e2
        obtain⟨u',r',q⟩:=hl j y v' e1 e2 e3;refine⟨u',r',?_⟩;rcases q with q|⟨k,c',e,z'⟩
        . exact .inl q
        . refine .inr ⟨k,c',e,z'.sameBut hs ?_⟩
          rintro rfl;exact hj (a5I hN e1 (I.ok.inj _ _ _ e hc▸hi))
    . by_cases xK:c'=c
      . subst xK;exact⟨_,uk⟩
      . obtain⟨w2,z2⟩:=I.cell y c' e
        exact⟨w2,z2.sameBut hs xK⟩
    . obtain⟨e,n,ne,nf,d⟩:=I.pin p hp
      refine⟨(hs.2 p.1 ?_).trans e,n,ne,nf,d⟩;intro q;rw[q,vS]at e;have q':oc=p.2:=aL e;exact d w' (by rw[<-q'];exact yX)
def a2x(I:Inv X pins Y H s)(hN:X.N.Nodup)(hi:X.N[i]?=cz x)(hx:Loc X.env.scope x)(r:RelV v u)
    (h:∀s',Inv X pins (Y.set i (cz v)) H s'->Q () s') (hf:autoParam (X.fn x=p4\/X.env.scope.names.lookup x=cz .local) ZZ._auto_1):aE M A (storeName X.env x u) Q E s:=
  a9E I hN hi hx r (λs' I' _=>h s' I') hf
def Inv.call'{s':av}(I:Inv X pins Y H s)(ho:s'.os=s.os)(u:Un (frs X.stack) ch H H' s.heap s'.heap)(hok:HOk X.prog X.w H' s'.heap)(hg:oU s'.gens)
    (q_:∀b∈ch,(b∈X.ex\/X.s₀.heap.objs.size<=b)/\b≠X.env.locals/\(∀x c,X.env.cells.lookup x=cz c->c≠b)/\∀p∈X.pn++pins,p.1≠b):Inv X pins Y H' s':=by
  obtain⟨h',g',d',t',o'⟩:=s';have e:o'=s.os:=ho;subst e;exact I.call (g':=g') (t':=t') (d':=d') u hok hg q_
end
abbrev XK:=aj->Option aw->Hp->Prop
abbrev St:=List (Option V)
abbrev VK:=V->Hp->Prop
abbrev TE:=St->Hp->VK->Prop
abbrev TT:=St->Hp->(Bool->Hp->Prop)->Prop
abbrev TA:=St->Hp->(List V->Hp->Prop)->Prop
structure Ends where
  nx:St->Hp->Prop
  rt:VK
  bk:St->Hp->Prop:=λ_ _=>False
  ct:St->Hp->Prop:=λ_ _=>False
abbrev TS:=Ends->St->Hp->Prop
def EP(X:Cx)(pins:List (aw×fN))(Y:St)(Q:VK)(u:aj)(s':av):Prop:=∃v H',Inv X pins Y H' s'/\RelV v u/\Q v H'
def TP(X:Cx)(pins:List (aw×fN))(Y:St)(Q:Bool->Hp->Prop)(b:Bool)(s':av):Prop:=∃H',Inv X pins Y H' s'/\Q b H'
def AP(X:Cx)(pins:List (aw×fN))(Y:St)(Q:List V->Hp->Prop)(us:List aj)(s':av):Prop:=∃vs H',Inv X pins Y H' s'/\Vals vs us/\Q vs H'
def SP(X:Cx)(pins:List (aw×fN))(D:Ends)(f:Flow)(s':av):Prop:=
  match f with
  |.next=>∃Y' H',Inv X pins Y' H' s'/\D.nx Y' H'
  |.brk=>∃Y' H',Inv X pins Y' H' s'/\D.bk Y' H'
  |.cont=>∃Y' H',Inv X pins Y' H' s'/\D.ct Y' H'
  |.ret u=>∃v Y' H',Inv X pins Y' H' s'/\RelV v u/\D.rt v H'
def PE(X:Cx)(e:Expr)(t:TE):Prop:=
  ∀(pins:List (aw×fN)) (s:av) (Y:St) (H:Hp) (Q:VK),Inv X pins Y H s->t Y H Q->aE (a_ X.prog X.w) X.A (cg e X.env) (EP X pins Y Q) X.xe s
def PT(X:Cx)(e:Expr)(t:TT):Prop:=
  ∀(pins:List (aw×fN)) (s:av) (Y:St) (H:Hp) (Q:Bool->Hp->Prop),Inv X pins Y H s->t Y H Q->aE (a_ X.prog X.w) X.A (rJ e X.env (cg e X.env)) (TP X pins Y Q) X.xe s
def PW(X:Cx)(e:Expr)(t:TT):Prop:=
  ∀(whole:Sem aj) (pins:List (aw×fN)) (s:av) (Y:St) (H:Hp) (Q:Bool->Hp->Prop),Inv X pins Y H s->t Y H Q->aE (a_ X.prog X.w) X.A (rJ e X.env whole) (TP X pins Y Q) X.xe s
def PW.pt(h:PW X e t):PT X e t:=h _
def PA(X:Cx)(es:List Expr)(t:TA):Prop:=
  ∀(pos:eO) (pins:List (aw×fN)) (s:av) (Y:St) (H:Hp) (Q:List V->Hp->Prop),Inv X pins Y H s->t Y H Q->aE (a_ X.prog X.w) X.A (spliced (cj pos (ax es X.env))) (AP X pins Y Q) X.xe s
def PS(X:Cx)(st:ig)(t:TS):Prop:=
  ∀(pins:List (aw×fN)) (s:av) (Y:St) (H:Hp) (D:Ends),Inv X pins Y H s->t D Y H->aE (a_ X.prog X.w) X.A (exec st X.env) (SP X pins D) X.xe s
def PSs(X:Cx)(st:List ig)(t:TS):Prop:=
  ∀(pins:List (aw×fN)) (s:av) (Y:St) (H:Hp) (D:Ends),Inv X pins Y H s->t D Y H->aE (a_ X.prog X.w) X.A (execs st X.env) (SP X pins D) X.xe s
def thn{α:Type}{t:Sem α}{Q Q':α->av->Prop}{M:Model}{A:bE}{E:aj->av->Prop}{s:av}(h:aE M A t Q E s)(hQ:∀a s,Q a s->Q' a s):aE M A t Q' E s:=dq h hQ λ_ _ x=>x
section
variable {X:Cx}
def b3T(i:Nat):TE:=λY H Q=>∃v,Y[i]?=cz (cz v)/\Q v H
def tC(v:V):TE:=λ_ H Q=>Q v H
def C6(hN:X.N[i]?=cz x)(hv:Vis X.env.scope x)(hd:(x==("__debug__":bI))=rp:=by decide)(mZ:(x==("__classdict__":bI))=rp:=by decide):PE X (.Name x pos) (b3T i):=by
  intro pins s Y H Q I h;obtain⟨v,e,h⟩:=h;obtain⟨m,hn,hl⟩:=I.loc;obtain⟨u,r,l⟩:=hl i x v hN e hv;have fin:EP X pins Y Q u s:=⟨v,H,I,r,h⟩;rcases l with⟨hk,hm⟩|⟨hk,c,hc,mD⟩
  . exact wpAny_Name (wpAny_loadName_local I.ok.kind hk hn hm fin) hd
  . rcases hk with hk|hk
    . exact wpAny_Name (wpAny_loadName_cell I.ok.kind hk hc mD fin) hd
    . exact wpAny_Name (wpAny_loadName_free I.ok.kind hk hc mD fin mZ) hd
def b6A{i j pos}:PE X (.Constant (.int i) j pos) (tC (.int i)):=λ_ _ _ H _ I h=>wpAny_Constant_int ⟨.int i,H,I.tok _,⟨_,rfl⟩,h⟩
def b9b{b j pos}:PE X (.Constant (.bool b) j pos) (tC (.bl b)):=λ_ _ _ H _ I h=>Constant_bool ⟨.bl b,H,I,rfl,h⟩
def b6B{j pos}:PE X (.Constant .none j pos) (tC .non):=λ_ _ _ H _ I h=>Constant_none ⟨.non,H,I,rfl,h⟩
def Gl(X:Cx)(x:bI):Prop:=X.env.kindOf x=cz .globalImplicit
def a4W(I:Inv X pins Y H s)(hg:Gl X x)(hm:X.mg x=cz u)(h:Q u s)
    (hd:(x==("__debug__":bI))=rp:=by decide):aE (a_ X.prog X.w) X.A (cg (.Name x pos) X.env) Q E s:=
  xg I.ok.kind hg (Calls.loadGlobal_global (by rw[I.ok.glob];exact I.mod.glob.keeps I.bk) hm h) hd
def a0k(I:Inv X pins Y H s)(hg:Gl X x)(hm:X.mg x=el)(hv:gq x=cz u)(h:Q u s)
    (hn:x≠"__name__":=by decide) (hd:(x==("__debug__":bI))=rp:=by decide):aE (a_ X.prog X.w) X.A (cg (.Name x pos) X.env) Q E s:=by
  obtain⟨mb,h1,h2⟩:=I.mod.blt;exact xg I.ok.kind hg (Calls.loadGlobal_builtin (by rw[I.ok.glob];exact I.mod.glob.keeps I.bk) hm (by rw[I.ok.blt];exact h1.keeps I.bk) ((h2 x hn).trans hv) h) hd
def b3U(hg:Gl X x)(hm:X.mg x=cz u)(r:RelV v u)(hd:(x==("__debug__":bI))=rp:=by decide):PE X (.Name x pos) (tC v):=
  λ_ _ _ H _ I h=>a4W I hg hm ⟨v,H,I,r,h⟩ hd
def b3V(hg:Gl X x)(hm:X.mg x=el)(hv:gq x=cz u)(r:RelV v u)(hn:x≠"__name__":=by decide)(hd:(x==("__debug__":bI))=rp:=by decide):PE X (.Name x pos) (tC v):=
  λ_ _ _ H _ I h=>a0k I hg hm hv ⟨v,H,I,r,h⟩ hn hd
variable {a b:Expr}{ta tb:TE}{pos:eO}
def tB(t:TE):TT:=λY H Q=>t Y H λx H1=>∃c,x=.bl c/\Q c H1
variable {tA xo:TT}{rest:List Expr}
def c0Y(t u:TT):TT:=λY H Q=>t Y H λc H1=>if c=p4 then u Y H1 Q else Q rp H1
def tOr(t u:TT):TT:=λY H Q=>t Y H λc H1=>if c=p4 then Q p4 H1 else u Y H1 Q
def c0Z(t:TT):TT:=λY H Q=>t Y H λc H1=>Q (!c) H1
def b3W(ha:PT X a tA):PW X (.BoolOp .And [a] pos) tA:=by
  intro wh pins s Y H Q I h;refine isTrue_and (thn (ha pins s Y H Q I h) λc s1 e=>?_);cases c with
  |true=>exact isTrue_and_nil e
  |false=>exact e
def b6C(ha:PT X a tA):PW X (.BoolOp .Or [a] pos) tA:=by
  intro wh pins s Y H Q I h;refine isTrue_or (thn (ha pins s Y H Q I h) λc s1 e=>?_);cases c with
  |false=>exact isTrue_or_nil e
  |true=>exact e
def b6D(ha:PT X a tA)(hb:PW X (.BoolOp .And (b::rest) pos) xo):PW X (.BoolOp .And (a::b::rest) pos) (c0Y tA xo):=by
  intro wh pins s Y H Q I h;refine isTrue_and (thn (ha pins s Y H _ I h) λc s1 ⟨H1,I1,q1⟩=>?_);cases c with
  |true=>exact hb wh pins s1 Y H1 Q I1 q1
  |false=>exact⟨H1,I1,q1⟩
def b9c(ha:PT X a tA)(hb:PW X (.BoolOp .Or (b::rest) pos) xo):PW X (.BoolOp .Or (a::b::rest) pos) (tOr tA xo):=by
  intro wh pins s Y H Q I h;refine isTrue_or (thn (ha pins s Y H _ I h) λc s1 ⟨H1,I1,q1⟩=>?_);cases c with
  |true=>exact⟨H1,I1,q1⟩
  |false=>exact hb wh pins s1 Y H1 Q I1 q1
def b6E(ha:PT X a tA):PT X (.UnaryOp .Not a pos) (c0Z tA):=by
  intro pins s Y H Q I h;exact isTrue_not (ha pins s Y H (λc H1=>Q (!c) H1) I h)
def b9d(ta tb:TE):TE:=λY H Q=>ta Y H λx H1=>∃c,x=.bl c/\if c=p4 then tb Y H1 Q else Q (.bl rp) H1
def b9e(ta:TE):TE:=λY H Q=>ta Y H λx H1=>∃c,x=.bl c/\Q (.bl (!c)) H1
def b6F{op}(h:PE X a t):PE X (.BoolOp op [a] pos) t:=λpins s Y H Q I hw=>BoolOp_one (h pins s Y H Q I hw)
def b6G(ha:PE X a ta)(hb:PE X (.BoolOp .And (b::rest) pos) tb):PE X (.BoolOp .And (a::b::rest) pos) (b9d ta tb):=by
  intro pins s Y H Q I h;refine BoolOp_and (thn (ha pins s Y H _ I h) λv s1 ⟨x,H1,I1,r1,q1⟩=>?_);obtain⟨c,rfl,q1⟩:=q1;cases r1
  refine eS ?_;cases c with
  |true=>exact hb pins s1 Y H1 Q I1 q1
  |false=>exact⟨.bl rp,H1,I1,rfl,q1⟩
def b6H(ha:PE X a ta):PE X (.UnaryOp .Not a pos) (b9e ta):=by
  intro pins s Y H Q I h;refine UnaryOp_ (thn (ha pins s Y H _ I h) λv s1 ⟨x,H1,I1,r1,q1⟩=>?_);obtain⟨c,rfl,q1⟩:=q1;cases r1
  exact not_of (eS ⟨.bl (!c),H1,I1,rfl,q1⟩)
def tIf(t:TT)(ta tb:TE):TE:=λY H Q=>t Y H λc H1=>if c=p4 then ta Y H1 Q else tb Y H1 Q
def b1k{c:Expr}(hc:PT X c tA)(ha:PE X a ta)(hb:PE X b tb):PE X (.IfExp c a b pos) (tIf tA ta tb):=by
  intro pins s Y H Q I h;refine wpAny_IfExp (thn (hc pins s Y H _ I h) λd s1 ⟨H1,I1,q1⟩=>?_);cases d with
  |true=>exact ha pins s1 Y H1 Q I1 q1
  |false=>exact hb pins s1 Y H1 Q I1 q1
end
def SqL(K:af)(H:Hp)(a:aw)(xs:List V):Prop:=
  Rd H a (.lst xs)\/
    ∃(o:fN) (cA:Array aj) (n:Nat),K.lookup a=cz o/\o.cls=.type "list"/\o.dict=el/\o.data=.seq cA n/\cA.size<=aU/\Vals xs cA.toList
def SqT(K:af)(H:Hp)(a:aw)(xs:List V):Prop:=
  Rd H a (.tup xs)\/
    ∃(o:fN) (cA:Array aj) (n:Nat),K.lookup a=cz o/\o.cls=.type "tuple"/\o.data=.seq cA n/\cA.size<=aU/\Vals xs cA.toList
def c1a:aj->Option V
  |.none=>cz .non
  |.bool b=>cz (.bl b)
  |.int i _=>cz (.int i)
  |.str x _=>cz (.str x)
  |.bytes b _=>cz (.byt b)
  |.float b _=>cz (.flt b)
  |.ref a=>cz (.ref a)
  |.type n=>cz (.ty n)
  |_=>el
def RelV.abs(r:RelV x u):c1a u=cz x:=by
  cases x with
  |non=>cases r;rfl
  |bl _=>cases r;rfl
  |int _=>obtain⟨t,rfl⟩:=r;rfl
  |str _=>obtain⟨t,rfl⟩:=r;rfl
  |byt _=>obtain⟨t,rfl⟩:=r;rfl
  |flt _=>obtain⟨t,rfl⟩:=r;rfl
  |ref _=>cases r;rfl
  |ty _=>cases r;rfl
def RelV.inj(r:RelV x u)(q:RelV y u):x=y:=aL (r.abs.symm.trans q.abs)
theorem Vals.inj:∀{xs ys:List V} {us:List aj},Vals xs us->Vals ys us->xs=ys
  |_,_,_,.nil,.nil=>rfl
  |_,_,_,.cons r t,.cons r' t'=>by rw[r.inj r',Vals.inj t t']
section
variable {X:Cx}{pins:List (aw×fN)}{Y:St}{H:Hp}{s:av}{a:aw}{xs ys:List V}
def SqL.of{K:af}(h:H a=cz (.lst xs)):SqL K H a xs:=.inl (.inl h)
def SqT.of{K:af}(h:H a=cz (.tup xs)):SqT K H a xs:=.inl (.inl h)
def Inv.list(I:Inv X pins Y H s)(h:SqL X.K H a xs):∃cA:List aj,Vals xs cA/\PlainL s.heap a cA.toArray/\xs.length<=aU:=by
  rcases h with h|⟨o,cA,n,hk,hc,hd,hs,hz,r⟩
  . obtain⟨z,cA,n,r,e⟩:=h.ok I.hok
    exact⟨cA,r,⟨_,n,e,rfl,rfl,rfl⟩,z⟩
  . refine⟨cA.toList,r,⟨o,n,I.kIn a o hk,hc,hd,by simpa using hs⟩,?_⟩
    have e:=r.length;simp only[cu]at e;omega
def Inv.tuple(I:Inv X pins Y H s)(h:SqT X.K H a xs):∃cA:List aj,Vals xs cA/\IsTup s.heap a cA.toArray/\xs.length<=aU:=by
  rcases h with h|⟨o,cA,n,hk,hc,hs,hz,r⟩
  . obtain⟨z,cA,r,p⟩:=h.ok I.hok
    exact⟨cA,r,p,z⟩
  . refine⟨cA.toList,r,⟨o,I.kIn a o hk,hc,n,by simpa using hs⟩,?_⟩
    have e:=r.length;simp only[cu]at e;omega
def Inv.list_inj(I:Inv X pins Y H s)(h:SqL X.K H a xs)(h':SqL X.K H a ys):xs=ys:=by
  obtain⟨cA,r,⟨o,n,e,_,_,d⟩,_⟩:=I.list h;obtain⟨its',r',⟨o',n',e',_,_,d'⟩,_⟩:=I.list h';rw[e]at e';cases e';rw[d]at d'
  injection d' with d1 _
  have:cA=its':=by simpa using dJ Array.toList d1
  subst this;exact r.inj r'
def Inv.tuple_inj(I:Inv X pins Y H s)(h:SqT X.K H a xs)(h':SqT X.K H a ys):xs=ys:=by
  obtain⟨cA,r,⟨o,e,_,n,d⟩,_⟩:=I.tuple h;obtain⟨its',r',⟨o',e',_,n',d'⟩,_⟩:=I.tuple h';rw[e]at e';cases e';rw[d]at d'
  injection d' with d1 _
  have:cA=its':=by simpa using dJ Array.toList d1
  subst this;exact r.inj r'
end
abbrev Cx.wish(X:Cx)(E:aj->av->Prop):Cx:={X with xe:=E}
abbrev Cx.nox(X:Cx):Cx:=X.wish λ_ _=>False
theorem Cx.Ok.wish{X:Cx}(ok:X.Ok)(E:aj->av->Prop):(X.wish E).Ok:=
  ⟨ok.mod,ok.kind,ok.glob,ok.blt,ok.above,ok.inj,ok.has,ok.cab,ok.hd,ok.frames,ok.stk,ok.exf,ok.bs,ok.bsz,ok.noex,ok.exfs,ok.funs,ok.frf,ok.tabs⟩
def Cx.Ok.unwish{X:Cx}(ok:(X.wish E).Ok):X.Ok:=
  ⟨ok.mod,ok.kind,ok.glob,ok.blt,ok.above,ok.inj,ok.has,ok.cab,ok.hd,ok.frames,ok.stk,ok.exf,ok.bs,ok.bsz,ok.noex,ok.exfs,ok.funs,ok.frf,ok.tabs⟩
section
variable {X:Cx}{pins:List (aw×fN)}{Y:St}{H:Hp}{s:av}{E:aj->av->Prop}
theorem Inv.wish(I:Inv X pins Y H s)(E:aj->av->Prop):Inv (X.wish E) pins Y H s:=⟨I.ok.wish E,I.os,I.bare,I.base,I.loc,I.cell,I.free,I.freeC,I.pin,I.hok,I.len⟩
theorem Inv.unwish(I:Inv (X.wish E) pins Y H s):Inv X pins Y H s:=⟨I.ok.unwish,I.os,I.bare,I.base,I.loc,I.cell,I.free,I.freeC,I.pin,I.hok,I.len⟩
theorem SP.unwish(h:SP (X.wish E) pins D f s'):SP X pins D f s':=by
  cases f with
  |next=>obtain⟨Y',H',I,q⟩:=h;exact⟨Y',H',I.unwish,q⟩
  |brk=>obtain⟨Y',H',I,q⟩:=h;exact⟨Y',H',I.unwish,q⟩
  |cont=>obtain⟨Y',H',I,q⟩:=h;exact⟨Y',H',I.unwish,q⟩
  |ret u=>obtain⟨v,Y',H',I,r,q⟩:=h;exact⟨v,Y',H',I.unwish,r,q⟩
theorem PSs.nox{st:List ig}{t:TS}(h:PSs X.nox st t):PSs X st t:=λpins s Y H D I hw=>
  dq (h pins s Y H D (I.wish _) hw) (λ_ _ q=>q.unwish) λ_ _ z=>cM z
end
section
variable {X:Cx}{st:ig}{rest:List ig}{t u:TS}{e:Expr}{te:TE}{pos:eO}
def b1l:TS:=λD Y H=>D.nx Y H
def b6I(t u:TS):TS:=λD Y H=>t {D with nx:=u D} Y H
def a4X:PSs X [] b1l:=λ_ _ Y H _ I h=>mr ⟨Y,H,I,h⟩
def W1(h1:PS X st t)(h2:PSs X rest u):PSs X (st::rest) (b6I t u):=by
  intro pins s Y H D I h;refine wpAny_execs_cons (thn (h1 pins s Y H {D with nx:=u D} I h) λf s1 q=>?_);cases f with
  |next=>
    obtain⟨Y',H',I',q⟩:=q;exact h2 pins s1 Y' H' D I' q
  |ret v=>exact q
  |brk=>exact q
  |cont=>exact q
def b3X(h1:PS X st t):PSs X [st] t:=by
  intro pins s Y H D I h;refine wpAny_execs_cons (thn (h1 pins s Y H D I h) λf s1 q=>?_);cases f with
  |next=>exact mr q
  |ret v=>exact q
  |brk=>exact q
  |cont=>exact q
def Inv.quiet{pins:List (aw×fN)}{Y:St}{H:Hp}{s:av}(I:Inv X pins Y H s):interactive X.env=rp:=by simp[interactive,I.ok.kind]
def b9f(te:TE):TS:=λD Y H=>te Y H λ_ H1=>D.nx Y H1
def X8(he:PE X e te)(hs:eU e el pos.line X.env=pure rp:=by rfl):PS X (.Expr e pos) (b9f te):=by
  intro pins s Y H D I h;exact wpAny_Expr_any (thn (he pins s Y H _ I h) λv s1 ⟨x,H1,I1,r1,q1⟩=>⟨Y,H1,I1,q1⟩) I.quiet hs
def c1b(te:TE):TS:=λD Y H=>te Y H D.rt
def b1m(he:PE X e te):PS X (.Return (cz e) pos) (c1b te):=by
  intro pins s Y H D I h;exact wpAny_Return_some (thn (he pins s Y H _ I h) λv s1 ⟨x,H1,I1,r1,q1⟩=>⟨x,Y,H1,I1,r1,q1⟩)
def b9g(c:TT)(t u:TS):TS:=λD Y H=>c Y H λb H1=>if b=p4 then t D Y H1 else u D Y H1
def b5X{c:Expr}{a b:List ig}{tc:TT}(hc:PT X c tc)(ha:PSs X a t)(hb:PSs X b u):PS X (.If c a b pos) (b9g tc t u):=by
  intro pins s Y H D I h;refine wpAny_If (thn (hc pins s Y H _ I h) λd s1 ⟨H1,I1,q1⟩=>?_);cases d with
  |true=>exact ha pins s1 Y H1 D I1 q1
  |false=>exact hb pins s1 Y H1 D I1 q1
def b6J:TS:=λ_ _ _=>False
def b1n:PS X st b6J:=λ_ _ _ _ _ _ h=>h.elim
end
abbrev TG:=V->St->Hp->(St->Hp->Prop)->Prop
abbrev TGs:=List V->St->Hp->(St->Hp->Prop)->Prop
def PG(X:Cx)(target:Expr)(t:TG):Prop:=
  ∀(pins:List (aw×fN)) (s:av) (Y:St) (H:Hp) (v:V) (u:aj) (Q:St->Hp->Prop),Inv X pins Y H s->RelV v u->t v Y H Q->
    aE (a_ X.prog X.w) X.A (pD target X.env u) (λ_ s'=>∃Y' H',Inv X pins Y' H' s'/\Q Y' H') X.xe s
def PGs(X:Cx)(ts:List Expr)(t:TGs):Prop:=
  ∀(pins:List (aw×fN)) (s:av) (Y:St) (H:Hp) (vs:List V) (us:List aj) (Q:St->Hp->Prop),Inv X pins Y H s->Vals vs us->t vs Y H Q->
    aE (a_ X.prog X.w) X.A (assignInOrder ((iG ts X.env).map (·.2)) us) (λ_ s'=>∃Y' H',Inv X pins Y' H' s'/\Q Y' H') X.xe s
section
variable {X:Cx}{pos:eO}
def R0(i:Nat):TG:=λv Y H Q=>Q (Y.set i (cz v)) H
def o3(hN:X.N.Nodup)(hi:X.N[i]?=cz x)(hx:Loc X.env.scope x)(hf:autoParam (X.fn x=p4\/X.env.scope.names.lookup x=cz .local) ZZ._auto_1):PG X (.Name x pos) (R0 i):=by
  intro pins s Y H v u Q I r h;exact wpAny_assign_Name (a2x I hN hi hx r (λs' I'=>⟨_,H,I',h⟩) hf)
def b3Y:TGs:=λvs Y H Q=>vs=[]/\Q Y H
def a2y(t:TG)(u:TGs):TGs:=λvs Y H Q=>∃v r,vs=v::r/\t v Y H λY' H'=>u r Y' H' Q
def L9:PGs X [] b3Y:=by
  intro pins s Y H vs us Q I r h;obtain⟨e,h⟩:=h;subst e;cases r
  exact assignInOrder_nil ⟨Y,H,I,h⟩
def p9{e:Expr}{es:List Expr}{t:TG}{u:TGs}(h1:PG X e t)(h2:PGs X es u)
    (hs:(iG (e::es) X.env).map (·.2)=pD e X.env::(iG es X.env).map (·.2):=by rfl):PGs X (e::es) (a2y t u):=by
  intro pins s Y H vs us Q I r h;obtain⟨v,vr,e1,h⟩:=h;subst e1;cases r with
  |cons r rr=>
    rw[hs];refine assignInOrder_cons (thn (h1 pins s Y H _ _ _ I r h) λ_ s1 ⟨Y1,H1,I1,q1⟩=>?_);exact h2 pins s1 Y1 H1 _ _ Q I1 rr q1
def b6K(K:af)(n:Nat)(t:TGs):TG:=λv Y H Q=>∃a xs,v=.ref a/\SqT K H a xs/\xs.length=n/\t xs Y H Q
def W2(hc:X.calm=p4)(h:PGs X es t)
    (hn:(iG es X.env).length=n:=by rfl) (qX:(iG es X.env).findIdx? (·.1)=el:=by rfl):PG X (.Tuple es k pos) (b6K X.K n t):=by
  intro pins s Y H v u Q I r hw;obtain⟨a,xs,e1,hq,hl,hw⟩:=hw;subst e1;cases r
  obtain⟨cA,rv,ht,hz⟩:=I.tuple hq;refine assign_Tuple_tuple (I.ok.hd hc) ht (by simp[hn,<-hl,rv.length]) qX λh' hx=>?_
  have I1:Inv X pins Y H {s with heap:=h'}:=I.kept (t':=s.toks) λb o e=>hx b o (bg (aK e)) e
  exact h pins _ Y H xs _ Q I1 (by simpa using rv) hw
def b6L(te:TE)(g:TG):TS:=λD Y H=>te Y H λx H1=>g x Y H1 D.nx
def b6M{tg e:Expr}{te:TE}{g:TG}(he:PE X e te)(hg:PG X tg g)(hs:swapsWithSole [tg] e pos.line X.env=pure rp:=by rfl)(hw:swappedStores [tg] e X.env=pure el:=by rfl)
    (h1:(iG [tg] X.env).map (·.2)=[pD tg X.env]:=by rfl):PS X (.Assign [tg] e pos) (b6L te g):=by
  intro pins s Y H D I h;refine wpAny_Assign_stores (thn (he pins s Y H _ I h) λv s1 ⟨x,H1,I1,r1,q1⟩=>?_) hs hw;rw[h1];exact thn (hg pins s1 Y H1 x v _ I1 r1 q1) λ_ s2 q=>q
def a7a{i:Nat}{x:bI}{e:Expr}{te:TE}{pos':eO}(hN:X.N.Nodup)(hi:X.N[i]?=cz x)(hx:Loc X.env.scope x)(he:PE X e te)(hs:eU e (cz (.Name x pos')) pos.line X.env=pure rp:=by rfl)(hf:autoParam (X.fn x=p4\/X.env.scope.names.lookup x=cz .local) ZZ._auto_1) :
    PS X (.Assign [.Name x pos'] e pos) (b6L te (R0 i)):=by
  intro pins s Y H D I h;refine wpAny_Assign_Name (thn (he pins s Y H _ I h) λv s1 ⟨y,H1,I1,r1,q1⟩=>?_) hs;exact a2x I1 hN hi hx r1 (λs2 I2=>⟨_,H1,I2,q1⟩) hf
def b6N(c:TT)(tb:TS):TS:=λD Y H=>∃W:Nat->St->Hp->Prop,(∃m,W m Y H)/\∀m Y H,W m Y H->
  c Y H λb H1=>if b=p4 then ∃N:St->Hp->Prop,(∀Y' H',N Y' H'->∃m',m'<m/\W m' Y' H')/\tb {D with nx:=N,ct:=N,bk:=D.nx} Y H1 else D.nx Y H1
def b1o{c:Expr}{body:List ig}{tc:TT}{tb:TS}(hp:n_ (a_ X.prog X.w) X.A X.env X.xe)(hc:PT X c tc)(hb:PSs X body tb):PS X (.While c body [] pos) (b6N tc tb):=by
  intro pins s Y H D I h;obtain⟨W,⟨m0,w0⟩,turn⟩:=h;refine wpAny_While (codeAny_whileLoop (λn s'=>∃Y' H',Inv X pins Y' H' s'/\W n Y' H') ?_ m0 ⟨Y,H,I,w0⟩);rintro n s1 ⟨Y1,H1,I1,w1⟩;refine gx hp (thn (hc pins s1 Y1 H1 _ I1 (turn n Y1 H1 w1)) λb s2 ⟨H2,I2,q2⟩=>?_);cases b with
  |true=>
    obtain⟨N,hN,q2⟩:=q2;rw[aH rfl];refine gx hp (thn (hb pins s2 Y1 H2 _ I2 q2) λf s3 q3=>?_);cases f with
    |next=>
      obtain⟨Y3,H3,I3,n3⟩:=q3;obtain⟨m',hm,w3⟩:=hN Y3 H3 n3;exact⟨m',hm,Y3,H3,I3,w3⟩
    |cont=>
      obtain⟨Y3,H3,I3,n3⟩:=q3;obtain⟨m',hm,w3⟩:=hN Y3 H3 n3;exact⟨m',hm,Y3,H3,I3,w3⟩
    |brk=>exact q3
    |ret v=>exact q3
  |false=>
    rw[aM aW];exact mr ⟨Y1,H2,I2,q2⟩
end
structure It where
  go:Nat->Hp->Prop
  yld:Nat->Hp->V->Hp->Prop
  stop:Nat->Hp->Prop
def a0B(X:Cx)(pins:List (aw×fN))(H:Hp)(b:aw):Prop:=
  H b=el/\b≠X.env.locals/\b∉X.fs/\(b∈X.ex\/X.s₀.heap.objs.size<=b)/\(∀x c,X.env.cells.lookup x=cz c->c≠b)/\∀p∈X.pn++pins,p.1≠b
def Inv.fpOk(I:Inv X pins Y H s)(hb:s.heap.objs.size<=b)(hn:H' b=el):a0B X pins H' b:=by
  refine⟨hn,et (bA I.lt hb),I.nofs hb,.inr (bL I.sz hb),λx c e z=>?_,λp hp z=>?_⟩
  . obtain⟨v,q⟩:=I.cell x c e
    exact absurd (bA q.lt (by rw[z];exact hb)) (dw _)
  . exact absurd (bA (aK (I.pin p hp).1) (by rw[z];exact hb)) (dw _)
structure Turn (P:bB) (w:bQ) (K:af) (tg:Expr) (J:It) (fp:List aw) (it:aw) (tn:Nat->bU->Prop):Prop where
  mem:it∈fp
  obj:∀i h,tn i h->∀b∈fp,∃o,h.get? b=cz o/\∀v,o.data≠.cell v
  keep:∀i h h',tn i h->(∀b∈fp,∀o,h.get? b=cz o->h'.get? b=cz o)->tn i h'
  item:∀(X:Cx),X.prog=P->X.w=w->X.K=K->X.calm=p4->∀(i:Nat) (pins:List (aw×fN)) (s:av) (Y:St) (H:Hp) (E:aj->av->Prop),Inv X pins Y H s->(∀b∈fp,a0B X pins H b)->tn i s.heap->J.go i H->
    aE (a_ P w) X.A (fW (.ref it)) (λr s1=>∃u,r=cz u/\
      aE (a_ P w) X.A (mz tg (.ref it) u) (λ_ s2=>∃x H',Inv X pins Y H' s2/\RelV x u/\J.yld i H x H'/\tn (i+1) s2.heap/\∀b∈fp,H' b=el) E s1) E s
  done:∀(X:Cx),X.prog=P->X.w=w->X.K=K->X.calm=p4->∀(i:Nat) (pins:List (aw×fN)) (s:av) (Y:St) (H:Hp) (E:aj->av->Prop),Inv X pins Y H s->(∀b∈fp,a0B X pins H b)->tn i s.heap->J.stop i H->
    aE (a_ P w) X.A (fW (.ref it)) (λr s1=>r=el/\Inv X pins Y H s1) E s
  self:∀(A:bE) (i:Nat) (s:av) (Q:aj->av->Prop) (E:aj->av->Prop),tn i s.heap->Q (.ref it) s->aE (a_ P w) A (rG (.ref it)) Q E s
abbrev TI:=St->Hp->(It->Hp->Prop)->Prop
def PIE(X:Cx)(pins:List (aw×fN))(Y:St)(tg:Expr)(R:It->Hp->Prop)(yC:aj)(s2:av):Prop:=
  ∃(it:aw) (fp:List aw) (tn:Nat->bU->Prop) (J:It) (H':Hp),yC=.ref it/\Inv X pins Y H' s2/\Turn X.prog X.w X.K tg J fp it tn/\tn 0 s2.heap/\(∀b∈fp,a0B X pins H' b)/\R J H'
def PI(X:Cx)(tg iter:Expr)(wi:TI):Prop:=
  ∀(pins:List (aw×fN)) (s:av) (Y:St) (H:Hp) (R:It->Hp->Prop),Inv X pins Y H s->wi Y H R->
    aE (a_ X.prog X.w) X.A (cg iter X.env) (λv s1=>aE (a_ X.prog X.w) X.A (rG v) (PIE X pins Y tg R) X.xe s1) X.xe s
def a5J{s:av}(ho:s.heap.get? it=cz o)(hc:o.cls=.type n)(hd:o.data=.fields vs)
    (hn:["enumerate","zip","dict_itemiterator","dict_reverseitemiterator","odict_iterator","itertools.zip_longest","itertools.pairwise"].contains n=rp) (hQ:Q () s):aE M A (mz tg (.ref it) u) Q E s:=by
  unfold mz;cases tg<;>first
    |exact ae hQ
    | (cases u<;>first
        |exact ae hQ
        | (refine ab (lY ho ?_)
           rw[hc,hd];show aE M A (if (["enumerate","zip","dict_itemiterator","dict_reverseitemiterator","odict_iterator","itertools.zip_longest","itertools.pairwise"].contains n&&vs[0]?==cz (df _))=p4 then _ else _) Q E s;rw[aM (by intro h;rw[hn,Bool.false_and]at h;cases h)];exact ae hQ))
def Itl(K:af)(a:aw):It:=
  ⟨λi H=>∃xs x,SqL K H a xs/\xs[i]?=cz x,λi H x H'=>H'=H/\∀xs,SqL K H a xs->xs[i]?=cz x,λi H=>∃xs,SqL K H a xs/\xs.length<=i⟩
def Itt(K:af)(a:aw):It:=
  ⟨λi H=>∃xs x,SqT K H a xs/\xs[i]?=cz x,λi H x H'=>H'=H/\∀xs,SqT K H a xs->xs[i]?=cz x,λi H=>∃xs,SqT K H a xs/\xs.length<=i⟩
def Itr(lo:Int)(n:Nat):It:=⟨λi _=>i<n,λi H x H'=>H'=H/\x=.int (lo+i),λi _=>n<=i⟩
def a9F{P:bB}{w:bQ}{K:af}{tg:Expr}(a it:aw):Turn P w K tg (Itl K a) [it] it (λi h=>h.IsListIter it a i) where
  mem:=by simp
  obj:=λi h st b hb=>by
    have e:b=it:=by simpa using hb
    subst e;obtain⟨o,e,c,d⟩:=st;exact⟨o,e,λv z=>by rw[d]at z;cases z⟩
  keep:=λi h h' st k=>st.at λo e=>k it (by simp) o e
  item:=by
    intro X hP hw hK hc i pins s Y H E I hf st hg;subst hP hw hK;obtain⟨xs,x,hq,hx⟩:=hg;obtain⟨cA,rv,p,hz⟩:=I.list hq;obtain⟨u,hu,ru⟩:=rv.get hx;obtain⟨f0,f1,f2,f3,f4,f5⟩:=hf it (by simp);refine wpAny_pyNext_list_item st p.isList (x:=u) (by simpa using hu) λh' nU sb=>?_
    have I1:Inv X pins Y H {s with heap:=h'}:=I.turned (t':=s.toks) (λb o hb e=>(sb.2 b hb).trans e) f0 f1 f3 f4 f5;obtain⟨o,e,c,d⟩:=id nU;exact⟨u,rfl,a5J (s:={s with heap:=h'}) e c d (by decide) ⟨x,H,I1,ru,⟨rfl,λys hy=>by rw[I.list_inj hy hq];exact hx⟩,nU,λb hb=>(hf b hb).1⟩⟩
  done:=by
    intro X hP hw hK hc i pins s Y H E I hf st hg;subst hP hw hK;obtain⟨xs,hq,hx⟩:=hg;obtain⟨cA,rv,p,hz⟩:=I.list hq;obtain⟨f0,f1,f2,f3,f4,f5⟩:=hf it (by simp);have hl:=rv.length;exact wpAny_pyNext_list_end (I.ok.hd hc) st p.isList (by simp;omega) λh' eb=>⟨rfl,I.turned (t':=s.toks) (λb o hb e=>eb b o hb e) f0 f1 f3 f4 f5⟩
  self:=λ_ _ _ _ _ st h=>wpAny_pyIter_listiter st h
def a7b{P:bB}{w:bQ}{K:af}{tg:Expr}(a it:aw):Turn P w K tg (Itt K a) [it] it (λi h=>h.IsTupleIter it a i) where
  mem:=by simp
  obj:=λi h st b hb=>by
    have e:b=it:=by simpa using hb
    subst e;obtain⟨o,e,c,d⟩:=st;exact⟨o,e,λv z=>by rw[d]at z;cases z⟩
  keep:=λi h h' st k=>st.at λo e=>k it (by simp) o e
  item:=by
    intro X hP hw hK hc i pins s Y H E I hf st hg;subst hP hw hK;obtain⟨xs,x,hq,hx⟩:=hg;obtain⟨cA,rv,p,hz⟩:=I.tuple hq;obtain⟨u,hu,ru⟩:=rv.get hx;obtain⟨f0,f1,f2,f3,f4,f5⟩:=hf it (by simp);refine wpAny_pyNext_tuple_item st (show s.heap.IsTuple a cA.toArray from p) (x:=u) (by simpa using hu) λh' nU sb=>?_
    have I1:Inv X pins Y H {s with heap:=h'}:=I.turned (t':=s.toks) (λb o hb e=>(sb.2 b hb).trans e) f0 f1 f3 f4 f5;obtain⟨o,e,c,d⟩:=id nU;exact⟨u,rfl,a5J (s:={s with heap:=h'}) e c d (by decide) ⟨x,H,I1,ru,⟨rfl,λys hy=>by rw[I.tuple_inj hy hq];exact hx⟩,nU,λb hb=>(hf b hb).1⟩⟩
  done:=by
    intro X hP hw hK hc i pins s Y H E I hf st hg;subst hP hw hK;obtain⟨xs,hq,hx⟩:=hg;obtain⟨cA,rv,p,hz⟩:=I.tuple hq;obtain⟨f0,f1,f2,f3,f4,f5⟩:=hf it (by simp);have hl:=rv.length;exact wpAny_pyNext_tuple_end (I.ok.hd hc) st (show s.heap.IsTuple a cA.toArray from p) (by simp;omega) λh' eb=>⟨rfl,I.turned (t':=s.toks) (λb o hb e=>eb b o hb e) f0 f1 f3 f4 f5⟩
  self:=λ_ _ _ _ _ st h=>wpAny_pyIter_tupleiter st h
def a7c{P:bB}{w:bQ}{K:af}{tg:Expr}(it:aw)(lo:Int)(n:Nat):Turn P w K tg (Itr lo n) [it] it (λi h=>IsRangeIter h it (lo+(i:Nat)*1) ((n:Int)-(i:Nat)) 1) where
  mem:=by simp
  obj:=λi h st b hb=>by
    have e:b=it:=by simpa using hb
    subst e;exact⟨_,st,λv z=>by
      have z':Data.fields _=Data.cell v:=z;cases z'⟩
  keep:=λi h h' st k=>k it (by simp) _ st
  item:=by
    intro X hP hw hK hc i pins s Y H E I hf st hg;subst hP hw hK;obtain⟨f0,f1,f2,f3,f4,f5⟩:=hf it (by simp);have W:=Walks.range (prog:=X.prog) (w:=X.w) (I.ok.hd hc) it lo 1 n;refine W.item i s _ _ hg st λv h' tk hv nU kk=>?_
    obtain⟨t,rfl⟩:=hv;have I1:Inv X pins Y H {s with heap:=h',toks:=tk}:=I.turned (λb o hb e=>kk b o (by simpa using hb) e) f0 f1 f3 f4 f5;refine⟨_,rfl,a5J (s:={s with heap:=h',toks:=tk}) (n:="range_iterator") nU rfl rfl (by decide) ⟨.int (lo+i),H,I1,⟨t,?_⟩,⟨rfl,rfl⟩,nU,λb hb=>(hf b hb).1⟩⟩;rw[Int.mul_one]
  done:=by
    intro X hP hw hK hc i pins s Y H E I hf st hg;subst hP hw hK;obtain⟨f0,f1,f2,f3,f4,f5⟩:=hf it (by simp);exact wpAny_pyNext_range_end (I.ok.hd hc) st (by have:n<=i:=hg;omega) λh' eb=>⟨rfl,I.turned (t':=s.toks) (λb o hb e=>eb b o hb e) f0 f1 f3 f4 f5⟩
  self:=λ_ _ _ _ _ st h=>wpAny_pyIter_rangeiter st h
section
variable {X:Cx}{tg:Expr}
def b9h(K:af)(tl:TE):TI:=λY H R=>tl Y H λx H1=>∃a,x=.ref a/\(∃xs,SqL K H1 a xs)/\R (Itl K a) H1
def c1c(K:af)(tl:TE):TI:=λY H R=>tl Y H λx H1=>∃a,x=.ref a/\(∃xs,SqT K H1 a xs)/\R (Itt K a) H1
def b3Z{l:Expr}{tl:TE}(hl:PE X l tl):PI X tg l (b9h X.K tl):=by
  intro pins s Y H R I h;refine thn (hl pins s Y H _ I h) λv s1 ⟨x,H1,I1,r1,q1⟩=>?_
  obtain⟨a,e,⟨xs,hq⟩,q⟩:=q1;subst e;cases r1
  obtain⟨cA,rv,p,hz⟩:=I1.list hq;refine pW p.isList ?_;refine⟨s1.heap.objs.size,[s1.heap.objs.size],_,_,H1,rfl,I1.kept (t':=s1.toks) λb o e=>ag _ e,a9F a _,⟨_,aF _ rfl,rfl,rfl⟩,λb hb=>?_,q⟩;have e:b=s1.heap.objs.size:=by simpa using hb
  subst e;exact I1.fpOk (aD _) (I1.hok.fresh (aD _))
def b6O(hl:PE X l tl):PI X tg l (c1c X.K tl):=by
  intro pins s Y H R I h;refine thn (hl pins s Y H _ I h) λv s1 ⟨x,H1,I1,r1,q1⟩=>?_
  obtain⟨a,e,⟨xs,hq⟩,q⟩:=q1;subst e;cases r1
  obtain⟨cA,rv,p,hz⟩:=I1.tuple hq;refine oV (show s1.heap.IsTuple a cA.toArray from p) ?_;refine⟨s1.heap.objs.size,[s1.heap.objs.size],_,_,H1,rfl,I1.kept (t':=s1.toks) λb o e=>ag _ e,a7b a _,⟨_,aF _ rfl,rfl,rfl⟩,λb hb=>?_,q⟩;have e:b=s1.heap.objs.size:=by simpa using hb
  subst e;exact I1.fpOk (aD _) (I1.hok.fresh (aD _))
def b1p{pins:List (aw×fN)}{Y:St}{H:Hp}{s:av}{R:It->Hp->Prop}{E:aj->av->Prop}{lo hi:Int}{t u v:Tok}{tk:Nat}(I:Inv X pins Y H s)(h1:-(2^62)<=lo)(h2:lo<2^62)(h3:-(2^62)<=hi)(h4:hi<2^62)
    (q:R (Itr lo (hi-lo).toNat) H):aE (a_ X.prog X.w) X.A (rG (.ref s.heap.objs.size)) (PIE X pins Y tg R) E {s with heap:=s.heap.push {cls:=.type "range",data:=.fields #[.int lo t,.int hi u,.int 1 v]},toks:=tk}:=by
  refine wpAny_pyIter_range (IsRange.new ..) (small_one h1 h2 h3 h4) ?_;have I1:Inv X pins Y H {s with heap:=s.heap.push {cls:=.type "range",data:=.fields #[.int lo t,.int hi u,.int 1 v]},toks:=tk}:=I.kept λb o e=>ag _ e
  refine⟨(s.heap.push {cls:=.type "range",data:=.fields #[.int lo t,.int hi u,.int 1 v]}).objs.size,[(s.heap.push {cls:=.type "range",data:=.fields #[.int lo t,.int hi u,.int 1 v]}).objs.size],_,_,H,rfl,
    I1.kept (t':=tk) λb o e=>ag _ e,a7c _ lo (hi-lo).toNat,?_,λb hb=>?_,q⟩
  . have e1:lo+((0:Nat):Int)*1=lo:=by simp
    have e2:(((hi-lo).toNat:Nat):Int)-((0:Nat):Int)=Builtin.Range.rangeSize lo hi 1:=by rw[rangeSize_one];split<;>omega
    show IsRangeIter _ _ (lo+((0:Nat):Int)*1) ((((hi-lo).toNat:Nat):Int)-((0:Nat):Int)) 1;rw[e1,e2];exact aF _ rfl
  . have e:b=(s.heap.push {cls:=.type "range",data:=.fields #[.int lo t,.int hi u,.int 1 v]}).objs.size:=by simpa using hb
    subst e;exact I1.fpOk (aD _) (I1.hok.fresh (aD _))
def b9i(ta:TA):TI:=λY H R=>ta Y H λvs H1=>∃j:Int,vs=[.int j]/\-(2^62)<=j/\j<2^62/\R (Itr 0 j.toNat) H1
def a9G{a:Expr}{ta:TA}{p pos:eO}(hg:Gl X "range")(hm:X.mg "range"=el)(ha:PA X [a] ta)(hs:ax [a] X.env=[(rp,cg a X.env)]:=by rfl):PI X tg (.Call (.Name "range" p) [a] [] pos) (b9i ta):=by
  intro pins s Y H R I h;refine Call_ (a0k I hg hm boot_range (eN (thn (ha pos pins s Y H _ I h) λus s1 ⟨vs,H1,I1,r1,q1⟩=>?_) hs rfl));obtain⟨j,e,q1,q2,q⟩:=q1;subst e;cases r1 with
  |cons r rr=>
    cases rr
    obtain⟨t,rfl⟩:=r;exact call_range_1 (b1p I1 (by omega) (by omega) q1 q2 (by simpa using q))
def c1d(wi:TI)(g:TG)(tb:TS):TS:=λD Y H=>wi Y H λJ H1=>∃W:Nat->Nat->St->Hp->Prop,(∃m,W 0 m Y H1)/\∀i m Y H,W i m Y H->
  (J.stop i H/\D.nx Y H)\/(J.go i H/\∃N:St->Hp->Prop,(∀Y' H',N Y' H'->∃m',m'<m/\W (i+1) m' Y' H')/\∀x H',J.yld i H x H'->g x Y H' λY2 H2=>tb {D with nx:=N,ct:=N,bk:=D.nx} Y2 H2)
def a4Y(fp:List aw)(h:bU):List (aw×fN):=fp.filterMap λb=>(h.get? b).map λo=>(b,o)
def F9{h:bU}(hb:b∈fp)(e:h.get? b=cz o):(b,o)∈a4Y fp h:=d_.mpr ⟨b,hb,by rw[e];rfl⟩
def a9H(hp:p∈a4Y fp h):p.1∈fp/\h.get? p.1=cz p.2:=by
  obtain⟨b,hb,e⟩:=d_.mp hp;cases q:h.get? b with
  |none=>rw[q]at e;cases e
  |some o=>
    rw[q]at e;have e':(b,o)=p:=aL e;subst e';exact⟨hb,q⟩
def Inv.pinned(I:Inv X pins Y H s)(hf:∀b∈fp,a0B X pins H b)(ho:∀b∈fp,∃o,s.heap.get? b=cz o/\∀v,o.data≠.cell v):Inv X (pins++a4Y fp s.heap) Y H s:=
  I.pins_of λp hp=>(ay.mp hp).elim (λz=>I.pin p (au _ z)) λz=>by
    obtain⟨hb,e⟩:=a9H z;obtain⟨f0,f1,f2,_⟩:=hf p.1 hb;obtain⟨o,e',d⟩:=ho p.1 hb;rw[e]at e';cases e';exact⟨e,f0,f1,f2,d⟩
def Inv.unpinned(I:Inv X (pins++pl) Y H s):Inv X pins Y H s:=I.pins_of λp hp=>I.pin p (au _ (aC _ hp))
def a7d(hp:n_ (a_ X.prog X.w) X.A X.env X.xe)(hc:X.calm=p4)(hi:PI X tg iter wi)(hg:PG X tg g)(hb:PSs X body tb)
    (hs:∀x,eV iter X.env x=pure x:=by intro _;rfl):PS X (.For tg iter body [] pos) (c1d wi g tb):=by
  intro pins s Y H D I h;refine wpAny_For (thn (hi pins s Y H _ I h) λv s1 h1=>thn h1 λyC s2 h2=>?_) hs;obtain⟨it,fp,tn,J,H2,e,I2,T,rF,f2,W,⟨m0,w0⟩,turn⟩:=h2;subst e;have oh:∀{H':Hp},(∀b∈fp,H' b=el)->∀b∈fp,a0B X pins H' b:=λhn b hb=>⟨hn b hb,(f2 b hb).2⟩
  refine codeAny_forLoop_any (λn s'=>∃i Y' H',Inv X pins Y' H' s'/\tn i s'.heap/\(∀b∈fp,H' b=el)/\W i n Y' H') ?_ m0 ⟨0,Y,H2,I2,rF,λb hb=>(f2 b hb).1,w0⟩;rintro n s3 ⟨i,Y3,H3,I3,vk,wN,w3⟩;rcases turn i n Y3 H3 w3 with⟨stop,qn⟩|⟨go,N,hN,step⟩
  . refine gx hp (thn (T.done X rfl rfl rfl hc i pins s3 Y3 H3 X.xe I3 (oh wN) vk stop) λr s4 ⟨hr,I4⟩=>?_)
    subst hr;exact mr ⟨Y3,H3,I4,qn⟩
  . refine gx hp (thn (T.item X rfl rfl rfl hc i pins s3 Y3 H3 X.xe I3 (oh wN) vk go) λr s4 ⟨u,hr,h4⟩=>?_)
    subst hr;refine gx hp (thn h4 λ_ s5 ⟨x,H5,I5,r5,y5,rE,z_⟩=>?_);have Am:=I5.pinned (oh z_) (T.obj _ _ rE);refine gx hp (thn (hg _ s5 Y3 H5 x u _ Am r5 (step x H5 y5)) λ_ s6 ⟨Y6,H6,I6,q6⟩=>?_);refine gx hp (thn (hb _ s6 Y6 H6 _ I6 q6) λf s7 q7=>?_);have again:∀{Y7:St} {H7:Hp},Inv X (pins++a4Y fp s5.heap) Y7 H7 s7->N Y7 H7->∃m,m<n/\∃i Y' H',Inv X pins Y' H' s7/\tn i s7.heap/\(∀b∈fp,H' b=el)/\W i m Y' H':=λ{Y7 H7} I7 n7=>by
      obtain⟨m',hm,w7⟩:=hN Y7 H7 n7;refine⟨m',hm,i+1,Y7,H7,I7.unpinned,T.keep _ _ _ rE λb hb o e=>(I7.pin (b,o) (au _ (au _ (F9 hb e)))).1,λb hb=>?_,w7⟩;obtain⟨o,e,d⟩:=T.obj _ _ rE b hb;exact (I7.pin (b,o) (au _ (au _ (F9 hb e)))).2.1
    cases f with
    |next=>obtain⟨Y7,H7,I7,n7⟩:=q7;exact again I7 n7
    |cont=>obtain⟨Y7,H7,I7,n7⟩:=q7;exact again I7 n7
    |brk=>obtain⟨Y7,H7,I7,q7⟩:=q7;exact⟨Y7,H7,I7.unpinned,q7⟩
    |ret v=>obtain⟨x7,Y7,H7,I7,r7,q7⟩:=q7;exact⟨x7,Y7,H7,I7.unpinned,r7,q7⟩
end
abbrev R2:=V->V->Hp->VK->Prop
def OpR(X:Cx)(f:aj->aj->Sem aj)(r:R2):Prop:=
  ∀(pins:List (aw×fN)) (s:av) (Y:St) (H:Hp) (x y:V) (v u:aj) (Q:VK),Inv X pins Y H s->RelV x v->RelV y u->r x y H Q->
    aE (a_ X.prog X.w) X.A (f v u) (EP X pins Y Q) X.xe s
def CallR(X:Cx)(f:aj)(r:List V->Hp->VK->Prop):Prop:=
  ∀(pins:List (aw×fN)) (s:av) (Y:St) (H:Hp) (xs:List V) (us:List aj) (Q:VK),Inv X pins Y H s->Vals xs us->r xs H Q->
    aE (a_ X.prog X.w) X.A (call f us) (EP X pins Y Q) X.xe s
def c1e(X:Cx)(r:V->Hp->(Bool->Hp->Prop)->Prop):Prop:=
  ∀(pins:List (aw×fN)) (s:av) (Y:St) (H:Hp) (x:V) (v:aj) (Q:Bool->Hp->Prop),Inv X pins Y H s->RelV x v->r x H Q->
    aE (a_ X.prog X.w) X.A (vh v) (TP X pins Y Q) X.xe s
def tOp(r:R2)(ta tb:TE):TE:=λY H Q=>ta Y H λx H1=>tb Y H1 λy H2=>r x y H2 Q
def rI(C:Int->Int->Prop)(g:Int->Int->V):R2:=λx y H Q=>∃i j,x=.int i/\y=.int j/\C i j/\Q (g i j) H
def rI0(g:Int->Int->V):R2:=λx y H Q=>∃i j,x=.int i/\y=.int j/\Q (g i j) H
section
variable {X:Cx}{a b c:Expr}{ta tb tc:TE}{pos:eO}
def b6P(ha:PE X a ta)(hb:PE X b tb){pins:List (aw×fN)}{s:av}{Y:St}{H:Hp}{R:V->V->Hp->Prop}(I:Inv X pins Y H s)
    (h:ta Y H λx H1=>tb Y H1 λy H2=>R x y H2) {Q:aj->av->Prop} {f:aj->aj->Sem aj}
    (hf:∀v u s2 x y H2,Inv X pins Y H2 s2->RelV x v->RelV y u->R x y H2->aE (a_ X.prog X.w) X.A (f v u) Q X.xe s2) :
    aE (a_ X.prog X.w) X.A (cg a X.env) (λv s₁=>aE (a_ X.prog X.w) X.A (cg b X.env) (λu s₂=>aE (a_ X.prog X.w) X.A (f v u) Q X.xe s₂) X.xe s₁) X.xe s:=by
  refine thn (ha pins s Y H _ I h) λv s1 ⟨x,H1,I1,r1,q1⟩=>?_
  refine thn (hb pins s1 Y H1 _ I1 q1) λu s2 ⟨y,H2,I2,r2,q2⟩=>?_
  exact hf v u s2 x y H2 I2 r1 r2 q2
def b1q{op:Operator}{r:R2}(ho:OpR X (eK op) r)(ha:PE X a ta)(hb:PE X b tb):PE X (.BinOp a op b pos) (tOp r ta tb):=by
  intro pins s Y H Q I h;exact wpAny_BinOp (b6P ha hb I h λv u s2 x y H2 I2 rx ry q=>ho pins s2 Y H2 x y v u Q I2 rx ry q)
def opI{f:aj->aj->Sem aj}{C:Int->Int->Prop}{g:Int->Int->Int}
    (rule:∀(i j:Int) (t u:Tok) (s:av) (Q:aj->av->Prop) (E:aj->av->Prop),C i j->Q (.int (g i j) s.toks) {s with toks:=s.toks+1}->aE (a_ X.prog X.w) X.A (f (.int i t) (.int j u)) Q E s) :
    OpR X f (rI C λi j=>.int (g i j)):=by
  intro pins s Y H x y v u Q I rx ry h;obtain⟨i,j,rfl,rfl,hc,q⟩:=h;obtain⟨t,rfl⟩:=rx;obtain⟨t',rfl⟩:=ry;exact rule i j t t' s _ _ hc ⟨.int (g i j),H,I.tok _,⟨_,rfl⟩,q⟩
def b9j{f:aj->aj->Sem aj}{g:Int->Int->Int}
    (rule:∀(i j:Int) (t u:Tok) (s:av) (Q:aj->av->Prop) (E:aj->av->Prop),Q (.int (g i j) s.toks) {s with toks:=s.toks+1}->aE (a_ X.prog X.w) X.A (f (.int i t) (.int j u)) Q E s) :
    OpR X f (rI0 λi j=>.int (g i j)):=by
  intro pins s Y H x y v u Q I rx ry h;obtain⟨i,j,rfl,rfl,q⟩:=h;obtain⟨t,rfl⟩:=rx;obtain⟨t',rfl⟩:=ry;exact rule i j t t' s _ _ ⟨.int (g i j),H,I.tok _,⟨_,rfl⟩,q⟩
def b6Q{f:aj->aj->Sem aj}{g:Int->Int->Bool}
    (rule:∀(i j:Int) (t u:Tok) (s:av) (Q:aj->av->Prop) (E:aj->av->Prop),Q (.bool (g i j)) s->aE (a_ X.prog X.w) X.A (f (.int i t) (.int j u)) Q E s) :
    OpR X f (rI0 λi j=>.bl (g i j)):=by
  intro pins s Y H x y v u Q I rx ry h;obtain⟨i,j,rfl,rfl,q⟩:=h;obtain⟨t,rfl⟩:=rx;obtain⟨t',rfl⟩:=ry;exact rule i j t t' s _ _ ⟨.bl (g i j),H,I,rfl,q⟩
def c1f(i j:Int):Prop:=0<j/\j<1073741824
def c1g(i j:Int):Prop:=0<=j/\j<=1000000/\i.natAbs<2^64
def CMul(i j:Int):Prop:=(-(2^64)<i/\i<2^64)\/(-(2^64)<j/\j<2^64)
def CMul.ok{i j:Int}(h:CMul i j):IntMulOk i j:=by
  rcases h with⟨h1,h2⟩|⟨h1,h2⟩
  . exact .of_left (intBits_le_64 h1 h2)
  . exact .of_right (intBits_le_64 h1 h2)
def b6R:OpR X (eK .Add) (rI0 λi j=>.int (i+j)):=b9j λ_ _ _ _ _ _ _ q=>add_int q
def b6S:OpR X (eK .Sub) (rI0 λi j=>.int (i-j)):=b9j λ_ _ _ _ _ _ _ q=>sub_int q
def b6T:OpR X (eK .Mult) (rI CMul λi j=>.int (i*j)):=opI λ_ _ _ _ _ _ _ hc q=>mul_int q hc.ok
def b4a:OpR X (eK .FloorDiv) (rI c1f λi j=>.int (i / j)):=opI λi j _ _ _ _ _ hc q=>by
  have h1:(0:Int)<j:=hc.1;have h2:j<1073741824:=hc.2;exact floordiv_int (by omega) (by rw[Int.fdiv_eq_ediv_of_nonneg i (by omega)];exact q) (.inl (PyProof.noPylong_small (by omega)))
def b6U:OpR X (eK .Mod) (rI (λ_ j=>0<j) λi j=>.int (i % j)):=opI λi j _ _ _ _ _ hc q=>by
  have h1:(0:Int)<j:=hc;exact mod_int' (by omega) (by rw[Int.fmod_eq_emod_of_nonneg i (by omega)];exact q)
def b6V:OpR X (eK .Pow) (rI c1g λi j=>.int (i^j.toNat)):=opI λ_ _ _ _ _ _ _ hc q=>pow_int_small hc.1 hc.2.1 hc.2.2 q
def b1r(I:Inv X pins Y H s)(q:Q (.bl k) H)(e:k=k'):EP X pins Y Q (.bool k') s:=by
  subst e;exact⟨.bl k,H,I,rfl,q⟩
def b9k:OpR X (bW .Lt) (rI0 λi j=>.bl (decide (i<j))):=b6Q λ_ _ _ _ _ _ _ q=>lt_int q
def b9l:OpR X (bW .LtE) (rI0 λi j=>.bl (decide (i<=j))):=b6Q λ_ _ _ _ _ _ _ q=>le_int q
def b9m:OpR X (bW .Gt) (rI0 λi j=>.bl (decide (j<i))):=b6Q λ_ _ _ _ _ _ _ q=>gt_int q
def b6W:OpR X (bW .Is) (λx y H Q=>y=.non/\Q (.bl (decide (x=.non))) H):=by
  intro pins s Y H x y v u Q I rx ry h;obtain⟨rfl,q⟩:=h;cases ry
  refine is_none_gen (b1r I q ?_);cases x<;>first
    | (cases rx;rfl)
    | (obtain⟨t,rfl⟩:=rx;rfl)
def b4b:OpR X (bW .IsNot) (λx y H Q=>y=.non/\Q (.bl (!decide (x=.non))) H):=by
  intro pins s Y H x y v u Q I rx ry h;obtain⟨rfl,q⟩:=h;cases ry
  refine isnot_none_gen (b1r I q ?_);cases x<;>first
    | (cases rx;rfl)
    | (obtain⟨t,rfl⟩:=rx;rfl)
def a0l(b:Expr)(h:op≠.In:=by decide)(h2:op≠.NotIn:=by decide):eE op b=rp:=by
  have e1:(op==CmpOp.In)=rp:=by cases op<;>first|rfl|exact absurd rfl h
  have e2:(op==CmpOp.NotIn)=rp:=by cases op<;>first|rfl|exact absurd rfl h2
  cases b<;>simp[eE,e1,e2]
def a8E{op:CmpOp}{r:R2}(ho:OpR X (bW op) r)(ha:PE X a ta)(hb:PE X b tb)(hm:eE op b=rp):PE X (.Compare a [op] [b] pos) (tOp r ta tb):=by
  intro pins s Y H Q I h;exact wpAny_Compare1 (b6P ha hb I h λv u s2 x y H2 I2 rx ry q=>ho pins s2 Y H2 x y v u Q I2 rx ry q) hm
def b5Y(t:TE):TT:=λY H Q=>t Y H λx H'=>∃k,x=.bl k/\Q k H'
def a0C(ho:OpR X (bW op) r)(ha:PE X a ta)(hb:PE X b tb)(hm:eE op b=rp):PT X (.Compare a [op] [b] pos) (b5Y (tOp r ta tb)):=by
  intro pins s Y H Q I h;refine wpAny_isTrue_Compare1 (thn (ha pins s Y H _ I h) λv s1 ⟨x,H1,I1,r1,q1⟩=>thn (hb pins s1 Y H1 _ I1 q1) λu s2 ⟨y,H2,I2,r2,q2⟩=>
    thn (ho pins s2 Y H2 x y v u _ I2 r1 r2 q2) λc s3 ⟨z,H3,I3,r3,k,e,q3⟩=>?_) hm
  subst e;cases r3
  exact eS ⟨H3,I3,q3⟩
def b6X(r r':R2)(ta tb tc:TE):TE:=λY H Q=>ta Y H λx H1=>tb Y H1 λy H2=>r x y H2 λz H3=>∃k,z=.bl k/\
  (if k=p4 then tc Y H3 λw' H4=>r' y w' H4 Q else Q (.bl rp) H3)
def b1s(ho:OpR X (bW op) r)(pA:OpR X (bW uJ) r')(ha:PE X a ta)(hb:PE X b tb)(hc:PE X c tc)
    (hm:lastMarks [op,uJ] [b,c]=rp:=by with_unfolding_all rfl):PE X (.Compare a [op,uJ] [b,c] pos) (b6X r r' ta tb tc):=by
  intro pins s Y H Q I h;refine Compare_chain (thn (ha pins s Y H _ I h) λv s1 ⟨x,H1,I1,r1,q1⟩=>chain_link (thn (hb pins s1 Y H1 _ I1 q1) λu s2 ⟨y,H2,I2,r2,q2⟩=>
    thn (ho pins s2 Y H2 x y v u _ I2 r1 r2 q2) λd s3 ⟨z,H3,I3,r3,k,e,q3⟩=>?_)) hm
  subst e;cases r3
  refine eS ?_;cases k with
  |false=>exact ite_ff ⟨.bl rp,H3,I3,rfl,q3⟩
  |true=>exact ite_tt (chain_last (thn (hc pins s3 Y H3 _ I3 q3) λw' s4 ⟨z',H4,I4,r4,q4⟩=>pA pins s4 Y H4 y z' u w' Q I4 r2 r4 q4))
def b6Y(K:af)(x:V)(H:Hp)(k:Bool):Prop:=
  match x with
  |.non=>k=rp
  |.bl b=>k=b
  |.int i=>k=(i !=0)
  |.str y=>y.length<=aU/\k=((y.length:Int)!=0)
  |.byt y=>y.size<=aU/\k=((y.size:Int)!=0)
  |.ref p=>(∃xs,SqL K H p xs/\k=!xs.isEmpty)\/(∃xs,SqT K H p xs/\k=!xs.isEmpty)\/∃kvs,H p=cz (.dK kvs)/\k=!kvs.isEmpty
  |_=>False
def a7e{κ:Type}{kvs:List (κ×V)}{vs:List (κ×aj)}(r:KV kvs vs):(!vs.isEmpty)=!kvs.isEmpty:=by
  cases r<;>rfl
def a2z{xs:List V}{cA:List aj}(r:Vals xs cA):(!cA.toArray.isEmpty)=!xs.isEmpty:=by
  cases r<;>simp
def a2A:(aU:Nat)<2^63:=by rw[cO];decide
def b6Z:c1e X (λx H Q=>∃k,b6Y X.K x H k/\Q k H):=by
  intro pins s Y H x v Q I rx h;obtain⟨k,e,q⟩:=h;have hl:=a2A;have hs:aU=16777216:=cO;cases x with
  |non=>
    cases rx
    have e':k=rp:=e;subst e';exact truthy_none ⟨H,I,q⟩
  |bl b=>
    cases rx
    have e':k=b:=e;subst e';exact eS ⟨H,I,q⟩
  |int i=>
    obtain⟨t,rfl⟩:=rx;have e':k=(i !=0):=e;subst e';exact PySem.P.truthy_int ⟨H,I,q⟩
  |str y=>
    obtain⟨t,rfl⟩:=rx;obtain⟨hy,e'⟩:y.length<=aU/\k=((y.length:Int)!=0):=e;subst e';exact PySem.P.truthy_str (by omega) ⟨H,I.tok _,q⟩
  |byt y=>
    obtain⟨t,rfl⟩:=rx;obtain⟨hy,e'⟩:y.size<=aU/\k=((y.size:Int)!=0):=e;subst e';exact PySem.W.truthy_bytes (by omega) ⟨H,I.tok _,q⟩
  |ref p=>
    cases rx
    have e':(∃xs,SqL X.K H p xs/\k=!xs.isEmpty)\/(∃xs,SqT X.K H p xs/\k=!xs.isEmpty)\/∃kvs,H p=cz (.dK kvs)/\k=!kvs.isEmpty:=e;rcases e' with⟨xs,hx,e'⟩|⟨xs,hx,e'⟩|⟨kvs,hx,e'⟩
    . subst e'
      obtain⟨cA,r,pl,hz⟩:=I.list hx;have hlen:=r.length;exact wpAny_truthy_list pl.isList (by simp only[bh];omega) ⟨H,I.tok _,by rw[a2z r];exact q⟩
    . subst e'
      obtain⟨cA,r,pl,hz⟩:=I.tuple hx;have hlen:=r.length;exact truthy_tuple pl (by simp only[bh];omega) ⟨H,I.tok _,by rw[a2z r];exact q⟩
    . subst e'
      obtain⟨hz,hS,vs,r,m⟩:kvs.length<=aU/\(p==cW)=rp/\∃vs,KV kvs vs/\s.heap.DictOf (a4T X.prog X.w) p vs:=I.hok p _ hx;have hlen:kvs.length=vs.length:=cR r;exact wpAny_truthy_dict hS m (by omega) ⟨H,I.tok _,by rw[a7e r];exact q⟩
  |_=>exact (show False from e).elim
def b1t(ha:PE X a ta)(he:∀whole,rJ a X.env whole=(do let v <-whole;standAt a.pos;nW [v] (vh v))) :
    PT X a (λY H Q=>ta Y H λx H'=>∃k,b6Y X.K x H' k/\Q k H'):=by
  intro pins s Y H Q I h;exact isTrue_plain (thn (ha pins s Y H _ I h) λv s1 ⟨x,H1,I1,r1,q1⟩=>b6Z pins s1 Y H1 x v Q I1 r1 q1) (he _)
def vals1(r:Vals [x] us):∃u,us=[u]/\RelV x u:=by
  cases r with
  |cons r1 r2=>cases r2;exact⟨_,rfl,r1⟩
def vals2(r:Vals [x,y] us):∃u w',us=[u,w']/\RelV x u/\RelV y w':=by
  cases r with
  |cons r1 r2=>
    cases r2 with
    |cons r3 r4=>cases r4;exact⟨_,_,rfl,r1,r3⟩
end
structure ObjM (h:bU) (x dx C:aw) (mA:bI->Option aj):Prop where
  obj:h.get? x=cz (pE C dx)
  ns:h.Ns1 dx mA
  ne:dx≠x
def a9I{h:bU}(n:h.Ns1 dx mA):∃od,h.get? dx=cz od/\∀name,qQ name od=cz (mA name):=by
  obtain⟨o,es,ep,ho,hd,hk,_,hm⟩:=n;refine⟨o,ho,λname=>?_⟩;have e:=hm name;unfold nsFind findBy at e;rw[<-Array.find?_toList]at e;unfold qQ;rw[hd]
  dsimp only
  split
  . rename_i y q
    rw[q]at e;exact dJ cz e
  . rename_i q
    rw[q]at e;have a:es.toList.any (·.refKey)=rp:=by
      rw[cC];intro y hy;obtain⟨z,t,i_⟩:=hk y (dO.mp hy);simp[eX.refKey,i_]
    have a':¬ es.toList.any (·.refKey)=p4:=by rw[a];exact aW
    rw[aM a'];exact dJ cz e
def ObjM.look(I:ObjM h x dx C mA):∃od,PySem.W.InstAt h x (pE C dx) C (cz od)/\∀name,qQ name od=cz (mA name):=
  let⟨od,ho,hl⟩:=a9I I.ns
  ⟨od,⟨I.obj,rfl,rfl,ho⟩,hl⟩
section
variable {P:bB}{w:bQ}{H H':Hp}{h h':bU}{a C dx:aw}{fs km:List (bI×V)}
def b4c(hok:HOk P w H h)(e:H a=cz (.ins C dx fs)):∃mA,ObjM h a dx C mA/\(∀f,b6z (fs.lookup f) (mA f))/\PySem.Within mA (fs.map (·.1))/\fs.length<=1000/\H dx=cz (.own a):=by
  obtain⟨d,z,ne,ob,mA,n,r,q⟩:=(show ObjOk P w H h a (.ins C dx fs) from hok a _ e);exact⟨mA,⟨ob,n,ne⟩,r,q,z,d⟩
end
structure Cls (K:af) (C:aw):Prop where
  pg:Ge K C bI.empty=p4
  hd:PySem.W.hasDictIn K C=p4
  po:PySem.W.plainOver K C=p4
  sa:jK K (.ref C) "__setattr__"=cz (cz (.builtin "object.__setattr__"))
def Cls.get{K:af}{C:aw}(c:Cls K C)(f:bI):Ge K C f=p4:=c.pg
structure Con (K:af) (C:aw) (f:bI) (v:V) (u:aj):Prop where
  at_:jK K (.ref C) f=cz (cz u)
  rel:RelV v u
  get:BZ K u "__get__"=cz el
  cp:PySem.W.copiedNames.contains f=rp
structure Meth (K:af) (C:aw) (m:bI) (f:aw):Prop where
  at_:jK K (.ref C) m=cz (cz (.ref f))
  fn:PySem.W.isFn K (.ref f)=p4
  kp:fT K (.ref f)=p4
section
variable {X:Cx}{pins:List (aw×fN)}{Y:St}{H:Hp}{s:av}{A:bE}{E:aj->av->Prop}{Q:aj->av->Prop}{c:aj}{b:Bool}
inductive TyOf (K:af) (H:Hp):V->aj->Prop where
  |non:TyOf K H .non (.type "NoneType")
  |bl (x:Bool):TyOf K H (.bl x) (.type "bool")
  |int (i:Int):TyOf K H (.int i) (.type "int")
  |str (x:bI):TyOf K H (.str x) (.type "str")
  |flt (x:UInt64):TyOf K H (.flt x) (.type "float")
  |lst {a:aw} {xs:List V} (e:H a=cz (.lst xs)):TyOf K H (.ref a) (.type "list")
  |frz {a:aw} {o:fN} {xs:List V} (e:H a=cz (.frz o (.lst xs))):TyOf K H (.ref a) (.type "list")
  |tup {a:aw} {xs:List V} (e:H a=cz (.tup xs)):TyOf K H (.ref a) (.type "tuple")
  |dK {a:aw} {kvs:List (Key×V)} (e:H a=cz (.dK kvs)):TyOf K H (.ref a) (.type "dict")
  |dT {a:aw} {kvs:List (List Key×V)} (e:H a=cz (.dT kvs)):TyOf K H (.ref a) (.type "dict")
  |ins {a C dx:aw} {fs:List (bI×V)} (e:H a=cz (.ins C dx fs)) (cl:Cls K C) (ha:jK K (.ref C) "__class__"=cz (cz (.builtin "object.__class__")))
      (hn:BZ K (.builtin "object.__class__") "__get__"=cz (cz (.builtin "getset_descriptor.__get__"))) (AS:PySem.W.takesIn K (.builtin "object.__class__")=cz p4)
      (hm:PySem.W.mroIn K C (.type "object")=cz p4):TyOf K H (.ref a) (.ref C)
def a9J(I:Inv X pins Y H s)(rx:RelV x u)(ty:TyOf X.K H x t)(e:eA X.K t c=cz b)(h:∀tk,Q (.bool b) {s with toks:=tk}) :
    aE (a_ X.prog X.w) A (call (.builtin "isinstance") [u,c]) Q E s:=by
  cases ty with
  |non=>cases (show u=cw from rx);exact cS PySem.W.kitx_none I.kIn jJ e (λz=>nomatch z) h
  |bl y=>cases (show u=jz y from rx);exact cS PySem.W.kitx_bool I.kIn jJ e (λz=>nomatch z) h
  |int i=>obtain⟨t,q⟩:=(show ∃t,u=iK i t from rx);cases q;exact cS PySem.W.kitx_int I.kIn jJ e (λz=>nomatch z) h
  |str y=>obtain⟨t,q⟩:=(show ∃t,u=rZ y t from rx);cases q;exact cS PySem.W.kitx_str I.kIn jJ e (λz=>nomatch z) h
  |flt y=>obtain⟨t,q⟩:=(show ∃t,u=aj.float y t from rx);cases q;exact cS PySem.W.kitx_float I.kIn jJ e (λz=>nomatch z) h
  |@lst a xs ea=>
    cases (show u=bb a from rx)
    obtain⟨_,_,n,_,h1⟩:=(show ObjOk X.prog X.w H s.heap a (.lst xs) from I.hok a _ ea);exact cS nJ I.kIn ⟨_,h1,rfl⟩ e (λz=>nomatch z) h
  |@frz a ob xs ea=>
    cases (show u=bb a from rx)
    obtain⟨_,_,_,n,_,h1⟩:=(show ObjOk X.prog X.w H s.heap a (.frz ob (.lst xs)) from I.hok a _ ea);exact cS nJ I.kIn ⟨_,h1,rfl⟩ e (λz=>nomatch z) h
  |@tup a xs ea=>
    cases (show u=bb a from rx)
    obtain⟨_,_,_,p⟩:=(show ObjOk X.prog X.w H s.heap a (.tup xs) from I.hok a _ ea);obtain⟨o,h1,h2,_⟩:=p;exact cS Ai I.kIn ⟨o,h1,h2⟩ e (λz=>nomatch z) h
  |@dK a kvs ea=>
    cases (show u=bb a from rx)
    obtain⟨_,_,vs,_,p⟩:=(show ObjOk X.prog X.w H s.heap a (.dK kvs) from I.hok a _ ea);obtain⟨o,es,ep,h1,h2,_⟩:=p;exact cS nK I.kIn ⟨o,h1,h2.1⟩ e (λz=>nomatch z) h
  |@dT a kvs ea=>
    cases (show u=bb a from rx)
    obtain⟨_,_,xs,_,o,es,ep,h1,h2,_⟩:=(show ObjOk X.prog X.w H s.heap a (.dT kvs) from I.hok a _ ea);exact cS nK I.kIn ⟨o,h1,h2.1⟩ e (λz=>nomatch z) h
  |@ins a C dx fs ea cl ha hn AS hm=>
    cases (show u=bb a from rx)
    obtain⟨mA,O,_⟩:=b4c I.hok ea;obtain⟨od,J,_⟩:=O.look;exact cS (PySem.W.kitx_own (cl.get _) cl.hd ha hn AS hm) I.kIn J e (λz=>nomatch z) h
end
structure Room (k:Nat) (A:bE):Prop where
  hd:A.handled=el
  dp:A.depth+3*k+5<recursionLimit
  un:A.units+16*k+200<cV
def Room.mono(r:Room k A)(h:j<=k):Room j A:=⟨r.hd,by have:=r.dp;omega,by have:=r.un;omega⟩
theorem Room.deeper(r:Room (k+1) A)(env:oS):Room k (A.deeper env):=
  ⟨r.hd,by have:=r.dp;show A.depth+1+3*k+5<_;omega,by have:=r.un;show A.units+3+16*k+200<_;omega⟩
theorem Room.depth(r:Room k A):A.depth<recursionLimit:=by have:=r.dp;omega
theorem Room.units(r:Room k A):A.units+164<cV:=by have:=r.un;omega
def c1h:TA:=λ_ H Q=>Q [] H
def b9n(ta:TE)(tr:TA):TA:=λY H Q=>ta Y H λx H1=>tr Y H1 λxs H2=>Q (x::xs) H2
section
variable {X:Cx}{e:Expr}{es:List Expr}{te:TE}{t:TA}{pos:eO}
def q9:PA X [] c1h:=λ_ _ _ _ H Q I h=>Calls.spliced_nil ⟨[],H,I,.nil,h⟩
def m5(ha:PE X e te)(hr:PA X es t)(hs:ax (e::es) X.env=(rp,cg e X.env)::ax es X.env:=by rfl):PA X (e::es) (b9n te t):=by
  intro pos pins s Y H Q I h;rw[hs];show aE _ _ (spliced ((rp,cg e X.env)::cj pos (ax es X.env))) _ _ s;refine Calls.spliced_cons (thn (ha pins s Y H _ I h) λu s1 ⟨x,H1,I1,r1,q1⟩=>?_);exact thn (hr pos pins s1 Y H1 _ I1 q1) λus s2 ⟨xs,H2,I2,r2,q2⟩=>⟨x::xs,H2,I2,.cons r1 r2,q2⟩
def c1i(t:TA):TE:=λY H Q=>t Y H λxs H1=>xs.length<=aU/\∀p,H1 p=el->Q (.ref p) (upd H1 p (.tup xs))
def c1j(t:TA):TE:=λY H Q=>t Y H λxs H1=>xs.length<=aU/\∀p,H1 p=el->Q (.ref p) (upd H1 p (.lst xs))
def a7f{x1}(h:PA X es t):PE X (.Tuple es x1 pos) (c1i t):=by
  intro pins s Y H Q I hq;refine wpAny_Tuple_spliced (thn (h pos pins s Y H _ I hq) λus s1 ⟨xs,H1,I1,r,z,q⟩=>⟨by rw[<-r.length];exact z,?_⟩);have hf:H1 s1.heap.objs.size=el:=I1.hok.fresh (aD _);refine⟨.ref s1.heap.objs.size,upd H1 s1.heap.objs.size (.tup xs),I1.laid (t':=s1.toks) (λb u e=>ag _ e) (aD _) ?_,rfl,q _ hf⟩;exact⟨z,us,r,⟨_,aF _ rfl,rfl,_,rfl⟩⟩
def b7a(h:PA X es t):PE X (.List es pos) (c1j t):=by
  intro pins s Y H Q I hq;refine wpAny_List_spliced (thn (h pos pins s Y H _ I hq) λus s1 ⟨xs,H1,I1,r,z,q⟩=>⟨by rw[<-r.length];exact z,?_⟩);have hf:H1 s1.heap.objs.size=el:=I1.hok.fresh (aD _);refine⟨.ref s1.heap.objs.size,upd H1 s1.heap.objs.size (.lst xs),I1.laid (t':=s1.toks) (λb u e=>ag _ e) (aD _) ?_,rfl,q _ hf⟩;exact⟨z,us,0,r,aF _ rfl⟩
end
abbrev Sp:=List V->Hp->VK->XK->Prop
abbrev CXT:=List oS->Hp->av->XK->aj->av->Prop
structure Env0 (P:bB) (w:bQ) (K:af) (mg:bI->Option aj) (base:bU) (A:bE) (outer:List oS) (s:av) (H:Hp):Prop where
  frames:A.frames=cz outer
  mod:Mod K mg base
  bs:∀b o,base.get? b=cz o->s.heap.get? b=cz o/\H b=el
  bsz:base.objs.size<=s.heap.objs.size
  funs:s.heap.FunFrames base outer
  frf:∀b∈frs outer,H b=el
  hok:HOk P w H s.heap
  bare:oU s.gens
  tabs:TabsIn K H
def CE(outer:List oS)(P:bB)(w:bQ)(H:Hp)(s:av)(Q:VK)(u:aj)(s':av):Prop:=
  ∃v H',s'.os=s.os/\oU s'.gens/\Un (frs outer) [] H H' s.heap s'.heap/\HOk P w H' s'.heap/\RelV v u/\Q v H'
def CR(CX:CXT)(outer:List oS)(P:bB)(w:bQ)(H:Hp)(s:av)(Q:VK)(E:XK)(r:Gd)(s':av):Prop:=
  match r with
  |.ok (.ret u)=>CE outer P w H s Q u s'
  |.ok _=>False
  |.error e=>CX outer H s E e s'
structure FnOk (P:bB) (w:bQ) (K:af) (mg:bI->Option aj) (base:bU) (CX:CXT) (k:Nat) (f:aw) (fd:dE) (ps:List bI) (sp:Sp):Prop where
  len:∀vs H Q E,sp vs H Q E->vs.length=ps.length
  run:∀(A:bE) (outer:List oS) (s:av) (H:Hp) (args:Args) (us:List aj) (vs:List V) (Q:VK) (E:XK),Room k A->Env0 P w K mg base A outer s H->og s fd args (ps.zip us)->Vals vs us->sp vs H Q E->
    gL (a_ P w) A (.call (.ref f) args) (CR CX outer P w H s Q E) s
theorem FnOk.mono{P:bB}{w:bQ}{K:af}{mg:bI->Option aj}{base:bU}{CX:CXT}{j k:Nat}{f:aw}{fd:dE}{ps:List bI}{sp:Sp}(F:FnOk P w K mg base CX j f fd ps sp)(h:j<=k) :
    FnOk P w K mg base CX k f fd ps sp:=⟨F.len,λA outer s H args us vs Q E hr=>F.run A outer s H args us vs Q E (hr.mono h)⟩
section
variable {X:Cx}{pins:List (aw×fN)}{Y:St}{H:Hp}{s s':av}
def Inv.env0(I:Inv X pins Y H s):Env0 X.prog X.w X.K X.mg X.base X.A X.stack s H:=
  ⟨I.ok.frames,I.ok.mod,I.bs,bL I.ok.bsz I.sz,I.stack,I.stkFree,I.hok,I.bare,I.tabs⟩
def Inv.after(I:Inv X pins Y H s)(h:CE X.stack X.prog X.w H s Q u s'):EP X pins Y Q u s':=by
  obtain⟨v,H',os,bare,un,hok,r,q⟩:=h;obtain⟨hh,g,d,t,yp⟩:=s';obtain rfl:yp=s.os:=os;exact⟨v,H',I.call (h':=hh) (g':=g) (d':=d) (t':=t) (ch:=[]) un hok bare (λb z=>absurd z (by simp)),r,q⟩
end
def b5Z(sp:Sp)(sZ:List V)(E:XK)(t:TA):TE:=λY H Q=>t Y H λvs H1=>sp (vs++sZ) H1 Q E
def Binds(K:af)(fd:dE)(ps:List bI)(ds:List aj):Prop:=
  ∀(s:av) (us:List aj),K.In s.heap->(us++ds).length=ps.length->og s fd ⟨us,[]⟩ (ps.zip (us++ds))
def Binds.all{K:af}{fd:dE}{ps:List bI}(h:∀us:List aj,us.length=ps.length->qN fd ⟨us,[]⟩=pure (ps.zip us)):Binds K fd ps []:=λs us _ hl=>by
  rw[bj]at hl ⊢;exact .of_eq (h us hl)
def a7g(CX:CXT)(X:Cx)(E:XK):Prop:=∀(pins:List (aw×fN)) (Y:St) (H:Hp) (s:av) (e:aj) (s':av),Inv X pins Y H s->CX X.stack H s E e s'->X.xe e s'
section
variable {X:Cx}{CX:CXT}{k:Nat}{f C:aw}{fd:dE}{ps:List bI}{sp:Sp}{sZ:List V}{ds:List aj}{E:XK}{x m:bI}{p pos apos:eO}{e o:Expr}{es:List Expr}{ta:TE}{t:TA}
def b7b(F:FnOk X.prog X.w X.K X.mg X.base CX k f fd ps sp)(hr:Room k X.A)(hb:Binds X.K fd ps ds)(hd:Vals sZ ds)(hx:a7g CX X E)
    (I:Inv X pins Y H s) (r:Vals vs us) (h:sp (vs++sZ) H Q E):aE (a_ X.prog X.w) X.A (call (.ref f) us) (EP X pins Y Q) X.xe s:=by
  have r2:Vals (vs++sZ) (us++ds):=r.append hd;have hl:(us++ds).length=ps.length:=by rw[<-r2.length];exact F.len _ _ _ _ h
  refine vf (fQ (F.run X.A X.stack s H ⟨us,[]⟩ (us++ds) (vs++sZ) Q E hr I.env0 (hb s us I.kIn hl) r2 h) λr s' hq=>?_);cases r with
  |error e=>exact hx pins Y H s e s' I hq
  |ok fl=>
    cases fl with
    |ret u=>exact I.after hq
    |next=>exact cM hq
    |brk=>exact cM hq
    |cont=>exact cM hq
def b4d(F:FnOk X.prog X.w X.K X.mg X.base CX k f fd ps sp)(hr:Room k X.A)(hg:Gl X x)(hm:X.mg x=cz (.ref f))(hk:fT X.K (.ref f)=p4)(hb:Binds X.K fd ps ds)(hd:Vals sZ ds)(hx:a7g CX X E)
    (ha:PA X (e::es) t) (ma:(x==("__debug__":bI))=rp:=by decide) (he:ax (e::es) X.env=(rp,cg e X.env)::ax es X.env:=by rfl) (fM:(cj pos (ax es X.env)).any (·.1)=rp:=by rfl) :
    PE X (.Call (.Name x p) (e::es) [] pos) (b5Z sp sZ E t):=by
  intro pins s Y H Q I h;refine fD (a4W I hg hm ?_ ma);refine Aj (h₀:=X.base) I.ok.mod.kin hk (thn (ha pos pins s Y H _ I h) λus s1 ⟨vs,H1,I1,r,q⟩=>⟨I1.kIn,?_⟩) he fM;exact b7b F hr hb hd hx I1 r q
structure Mk (K:af) (C f:aw):Prop where
  makes:PySem.W.makesIn K C=p4
  init:jK K (.ref C) "__init__"=cz (cz (.ref f))
  fn:PySem.W.isFn K (.ref f)=p4
  kp:fT K (.ref C)=p4
end
section
variable {X:Cx}{CX:CXT}{k:Nat}{f C:aw}{fd:dE}{ps ks:List bI}{sp:Sp}{E:XK}{x m:bI}{p pos apos vz:eO}{e o:Expr}{es:List Expr}{GI:List fV}{te ta:TE}{t tk:TA}{nm:Option bI}
structure KBinds (K:af) (fd:dE) (ps ks:List bI) (g:List aj->List aj->List aj) (gV:List V->List V->List V):Prop where
  to:∀(s:av) (us ws:List aj),K.In s.heap->(g us ws).length=ps.length->og s fd ⟨us,ks.zip ws⟩ (ps.zip (g us ws))
  rel:∀{vs:List V} {us:List aj} {zs:List V} {ws:List aj},Vals vs us->Vals zs ws->Vals (gV vs zs) (g us ws)
variable {g:List aj->List aj->List aj}{gV:List V->List V->List V}
end
structure FnScope (N P:List bI) (sc:gi):Prop where
  kind:sc.kind=.function
  co:sc.isCoroutine=rp
  gen:sc.isGenerator=rp
  nd:N.Nodup
  pre:N.take P.length=P
  par:∀x∈P,sc.names.lookup x=cz .local\/sc.names.lookup x=cz .cell
  nofree:∀y∈sc.names,y.2≠.free
theorem a3U{kindOf:bI->Option jd}{x:bI}:∀{binds:List (bI×aj)} {m:bI->Option aj},(∀v,(x,v)∉binds)->BV kindOf binds m x=m x
  |[],_,_=>rfl
  | (n,v)::r,m,h=>by
    unfold BV;rw[a3U λw hw=>h w (aq _ hw)]
    split
    . have:x≠n:=by rintro rfl;exact h v ak
      simp[this]
    . rfl
theorem a3V{kindOf:bI->Option jd}{x:bI}:∀{binds:List (bI×aj)} {m:bI->Option aj},(∀v,(x,v)∉binds)->BW kindOf binds m x=m x
  |[],_,_=>rfl
  | (n,v)::r,m,h=>by
    unfold BW;rw[a3V λw hw=>h w (aq _ hw)]
    split
    . rfl
    . have:x≠n:=by rintro rfl;exact h v ak
      simp[this]
theorem a3W{kindOf:bI->Option jd}{x:bI}{v:aj}:∀{P:List bI} {vs:List aj} {i:Nat} {m:bI->Option aj},P.Nodup->P[i]?=cz x->vs[i]?=cz v->kindOf x=cz .local->
    BV kindOf (P.zip vs) m x=cz v
  |[],_,_,_,_,h,_,_=>by simp at h
  |_::_,[],_,_,_,_,h,_=>by simp at h
  |p::P,w::vs,0,m,nd,h1,h2,hk=>by
    simp at h1 h2;subst h1;subst h2
    show BV kindOf ((p,w)::P.zip vs) m p=_;unfold BV;rw[a3U λv hv=>(bz.mp nd).1 (gc hv).1,aH hk];simp
  |p::P,w::vs,i+1,m,nd,h1,h2,hk=>by
    show BV kindOf ((p,w)::P.zip vs) m x=_;unfold BV;exact a3W (i:=i) (bz.mp nd).2 (by simpa using h1) (by simpa using h2) hk
theorem a3X{kindOf:bI->Option jd}{x:bI}{v:aj}:∀{P:List bI} {vs:List aj} {i:Nat} {m:bI->Option aj},P.Nodup->P[i]?=cz x->vs[i]?=cz v->kindOf x≠cz .local->
    BW kindOf (P.zip vs) m x=cz v
  |[],_,_,_,_,h,_,_=>by simp at h
  |_::_,[],_,_,_,_,h,_=>by simp at h
  |p::P,w::vs,0,m,nd,h1,h2,hk=>by
    simp at h1 h2;subst h1;subst h2
    show BW kindOf ((p,w)::P.zip vs) m p=_;unfold BW;rw[a3V λv hv=>(bz.mp nd).1 (gc hv).1,aM hk];simp
  |p::P,w::vs,i+1,m,nd,h1,h2,hk=>by
    show BW kindOf ((p,w)::P.zip vs) m x=_;unfold BW;exact a3X (i:=i) (bz.mp nd).2 (by simpa using h1) (by simpa using h2) hk
def start(N:List bI)(vs:List V):St:=vs.map cz++aR (N.length-vs.length) el
def a0D(CX:CXT)(P:bB)(w:bQ)(K:af)(mg:bI->Option aj)(base:bU)(N:List bI)(qual:bI)(scope:gi)(f:aw)(cd:aj)(A:bE)(outer:List oS)(s:av)(H:Hp)(E:XK):Cx where
  prog:=P
  w:=w
  K:=K
  mg:=mg
  base:=base
  A:=A.deeper (jm qual scope s.heap.objs.size f cd)
  N:=N
  s₀:=s
  H₀:=H
  env:=jm qual scope s.heap.objs.size f cd
  outer:=outer
  stack:=jm qual scope s.heap.objs.size f cd::outer
  ex:=[]
  calm:=p4
  fn:=λ_=>p4
  pn:=[]
  xe:=λe s'=>aE (a_ P w) (A.deeper (jm qual scope s.heap.objs.size f cd)) (leaving (jm qual scope s.heap.objs.size f cd) e) (λ_ yk=>CX outer H s E e yk) (λe' yk=>CX outer H s E e' yk) s'
def a5K{sc:gi}(h:sc.names.lookup x=cz .cell):∃c,(cellsFrom n sc.names []).lookup x=cz c:=by
  have q:=uy sc.names n [] (.inl h);exact fL.mp q
def a9K{CX:CXT}{P:bB}{w:bQ}{K:af}{mg:bI->Option aj}{base:bU}{N ps:List bI}{qual:bI}{scope:gi}{f:aw}{cd:aj}{A:bE}{outer:List oS}{s s1:av}{H:Hp}{E:XK}{us:List aj}{vs:List V}
    (S:FnScope N ps scope) (hd:A.handled=el) (e0:Env0 P w K mg base A outer s H) (hl:vs.length=ps.length) (r:Vals vs us)
    (x:InCallC s s.heap.objs.size (BV (jm qual scope s.heap.objs.size f cd).kindOf (ps.zip us) λ_=>el) (cellsFrom (s.heap.objs.size+1) scope.names []) (BW (jm qual scope s.heap.objs.size f cd).kindOf (ps.zip us) λ_=>el) s1) :
    Inv (a0D CX P w K mg base N qual scope f cd A outer s H E) [] (start N vs) H s1:=by
  have fM:ps.length<=N.length:=by have:=dJ eW S.pre;rw[ef]at this;omega
  obtain⟨h1,tk,rfl,hk⟩:=x.done;have tG:∀b:aw,b∉(a0D CX P w K mg base N qual scope f cd A outer s H E).ex:=λb z=>absurd (show b∈([]:List aw) from z) (by simp)
  refine⟨⟨e0.mod,S.kind,rfl,rfl,aD _,λy z c h1 h2=>?_,λy hy=>?_,λy c _ h=>?_,λ_=>hd,bE.frames_deeper e0.frames,.inr ⟨rfl,rfl⟩,λb z=>absurd z (tG b),e0.bs,e0.bsz,λb _ _=>tG b,λb z=>absurd z (tG b),e0.funs,e0.frf,e0.tabs⟩,
    rfl,e0.bare,Un.kept hk,⟨_,x.toInCall.ns,λi y v h1 h2 h3=>?_⟩,λy c h=>⟨_,x.cell y c h⟩,e0.hok.fresh (aD _),λy c h=>?_,λp hp=>absurd (show p∈([]:List (aw×fN)) from hp) (by simp),e0.hok.kept hk,?_⟩
  . exact name_of_addr x.apart (bZ h1) (bZ h2)
  . have hy:scope.names.lookup y=cz .cell\/scope.names.lookup y=cz .free:=hy
    rcases hy with hy|hy
    . exact a5K hy
    . exact absurd rfl (S.nofree _ (bZ hy))
  . exact dF (x.above y c (bZ h))
  . have hi:i<vs.length:=by
      unfold start at h2;by_cases hi:i<vs.length
      . exact hi
      . rw[fg (by simpa using hi)]at h2
        rw[tw]at h2
        split at h2<;>cases h2
    have ha:vs[i]?=cz v:=by
      unfold start at h2;rw[gN (by simpa using hi),bc]at h2;cases e:vs[i]? with
      |none=>rw[e]at h2;cases h2
      |some a=>rw[e]at h2;cases h2;rfl
    obtain⟨u,hu,rv⟩:=r.get ha;have hp:ps[i]?=cz y:=by
      rw[<-S.pre,List.getElem?_take_of_lt (by omega)];exact h1
    have AF:ps.Nodup:=by rw[<-S.pre];exact S.nd.sublist (List.take_sublist _ _)
    refine⟨u,rv,?_⟩;rcases S.par y (bp hp) with k|k
    . exact .inl ⟨k,a3W AF hp hu k⟩
    . obtain⟨c,e⟩:=a5K (n:=s.heap.objs.size+1) k
      refine .inr ⟨.inl k,c,e,?_⟩;have q:=x.cell y c e;rw[a3X AF hp hu (by show scope.names.lookup y≠_;rw[k];decide)]at q;exact q
  . exact e0.hok.fresh (dF (x.above y c (bZ h)))
  . unfold start
    show _=N.length;rw[aN,ah,gf];omega
def b6a{CX:CXT}{P:bB}{w:bQ}{K:af}{mg:bI->Option aj}{base:bU}{k:Nat}{f:aw}{name qual:bI}{params:lW}{body:List ig}{scope:gi}{dV kV doc pm gn ct oc:aj}{an od:Option aw}
    {oZ:Array (Option aj)} {N ps:List bI} {sp:Sp} (lk:K.lookup f=cz ⟨oc,od,.func (fY name qual params body scope dV kV doc pm an gn ct),oZ⟩) (mZ:lS K gn qual=p4) (S:FnScope N ps scope)
    (len:∀vs H Q E,sp vs H Q E->vs.length=ps.length)
    (qF:∀(A:bE) (outer:List oS) (s:av) (H:Hp) (vs:List V) (Q:VK) (E:XK),Room k (A.deeper (jm qual scope s.heap.objs.size f gn))->sp vs H Q E->
      ∃t,PSs (a0D CX P w K mg base N qual scope f gn A outer s H E) body t/\t {nx:=λ_ H'=>Q .non H',rt:=Q} (start N vs) H) :
    FnOk P w K mg base CX (k+1) f (fY name qual params body scope dV kV doc pm an gn ct) ps sp:=by
  refine⟨len,λA outer s H args us vs Q E hr e0 hb r qm=>?_⟩;have hl:=len _ _ _ _ qm;have KX:K.In s.heap:=e0.mod.kin.keeps λb o e=>(e0.bs b o e).1
  have lim:s.heap.NoLimit:=e0.mod.nolimit.keeps λb o e=>(e0.bs b o e).1
  have v_:∀y∈ps.zip us,scope.names.lookup y.1=cz .local\/(scope.names.lookup y.1=cz .cell/\((cellsFrom (s.heap.objs.size+1) scope.names []).lookup y.1).isSome=p4):=λ⟨n,v⟩ hy=>by
    rcases S.par n (gc hy).1 with q|q
    . exact .inl q
    . exact .inr ⟨q,uy _ _ _ (.inl q)⟩
  refine codeAny_call_function hr.depth (KX _ _ lk) rfl S.co S.gen rfl (PySem.W.codeRec_of KX mZ) (hb _ _ _ _ ?_);refine wpAny_newFunctionEnv_cells S.kind v_ λenv he s1 x=>?_
  subst he;refine⟨lim.keeps x.toInCall.keep,codeAny_func ?_⟩;obtain⟨t,ht,hq⟩:=qF A outer s H vs Q E (hr.deeper _) qm;have I:Inv (a0D CX P w K mg base N qual scope f gn A outer s H E) [] (start N vs) H s1:=a9K S hr.hd e0 hl r x;refine dq (ht [] s1 (start N vs) H _ I hq) (λfl s' hs=>?_) λe s' hs=>hs
  have fin:∀{Y':St} {H':Hp} {v:V} {u:aj},Inv (a0D CX P w K mg base N qual scope f gn A outer s H E) [] Y' H' s'->RelV v u->Q v H'->CE outer P w H s Q u s':=
    λ{Y' H' v u} J rv q=>⟨v,H',J.os,J.bare,J.base,J.hok,rv,q⟩
  cases fl with
  |ret u=>
    obtain⟨v,Y',H',J,rv,q⟩:=hs;exact fin J rv q
  |next=>
    obtain⟨Y',H',J,q⟩:=hs;exact fin (v:=V.non) (u:=cw) J rfl q
  |brk=>
    obtain⟨_,_,_,q⟩:=hs;exact cM q
  |cont=>
    obtain⟨_,_,_,q⟩:=hs;exact cM q
section
variable {X:Cx}{x:bI}{p pos:eO}{e:Expr}{es:List Expr}{t:TA}{id T:String}{r:List V->Hp->VK->Prop}
def tCB(r:List V->Hp->VK->Prop)(t:TA):TE:=λY H Q=>t Y H λvs H1=>r vs H1 Q
def R1(hc:CallR X (.builtin id) r)(hg:Gl X x)(hm:X.mg x=el)(hv:gq x=cz (.builtin id))(ha:PA X (e::es) t)(hn:x≠"__name__":=by decide)(ma:(x==("__debug__":bI))=rp:=by decide)
    (he:ax (e::es) X.env=(rp,cg e X.env)::ax es X.env:=by rfl) (fM:(cj pos (ax es X.env)).any (·.1)=rp:=by rfl):PE X (.Call (.Name x p) (e::es) [] pos) (tCB r t):=by
  intro pins s Y H Q I h;refine fD (a0k I hg hm hv ?_ hn ma);exact PyProof.Rows.callWith_builtin1 (thn (ha pos pins s Y H _ I h) λus s1 ⟨vs,H1,I1,r1,q1⟩=>hc pins s1 Y H1 vs us Q I1 r1 q1) he fM
def N0(hc:CallR X (.type T) r)(hg:Gl X x)(hm:X.mg x=el)(hv:gq x=cz (.type T))(ha:PA X (e::es) t)(hn:x≠"__name__":=by decide)(ma:(x==("__debug__":bI))=rp:=by decide)
    (he:ax (e::es) X.env=(rp,cg e X.env)::ax es X.env:=by rfl) (fM:(cj pos (ax es X.env)).any (·.1)=rp:=by rfl):PE X (.Call (.Name x p) (e::es) [] pos) (tCB r t):=by
  intro pins s Y H Q I h;refine fD (a0k I hg hm hv ?_ hn ma);exact eN (thn (ha pos pins s Y H _ I h) λus s1 ⟨vs,H1,I1,r1,q1⟩=>hc pins s1 Y H1 vs us Q I1 r1 q1) he fM
end
end L2
namespace HT
open PySem PyProof.Rows
section
variable {prog:bB}{w:bQ}{A:bE}{E:aj->av->Prop}{s:av}
def b4e{vs ws:List aj}(ht:IsTup s.heap t vs.toArray)(hb:IsTup s.heap b ws.toArray)(hv:vs≠[])
    (h1:ws=[]->Q (.ref t) s) (h2:ws≠[]->Q (.ref s.heap.objs.size) {s with heap:=s.heap.push {cls:=.type "tuple",data:=.seq (vs++ws).toArray}})
    (hsz:vs.length+ws.length<=aU):aE (a_ prog w) A (eK .Add (.ref t) (.ref b)) Q E s:=by
  obtain⟨⟨cls,dd,data,sl⟩,ho,hc,n,hd⟩:=id ht;obtain⟨⟨Ae,xW,data2,xp⟩,tW,mE,n2,hd2⟩:=id hb;simp only at hc hd mE hd2;subst hc hd mE hd2;have e:vs.toArray++ws.toArray=(vs++ws).toArray:=by simp
  by_cases hw:ws=[]
  . exact FZ ⟨_,ho,rfl⟩ ⟨_,tW,rfl⟩ rH yj kM ku (kh _ _)
      (tuple_addW1 t b vs.toArray ws.toArray n n2 dd xW sl xp (by simpa using hv) (by simp[hw])) ⟨ho,tW,h1 hw⟩
  . refine FZ ⟨_,ho,rfl⟩ ⟨_,tW,rfl⟩ rH yj kM ku (kh _ _)
      (tuple_addW2 t b vs.toArray ws.toArray n n2 dd xW sl xp (by simpa using hv) (by simpa using hw) (by rw[bh,bh];exact hsz)) ⟨ho,tW,?_⟩
    rw[e];exact h2 hw
def sIx(n d:Nat):Option Int->Nat
  |none=>d
  |some v=>if v<0 then (v+(n:Int)).toNat else min v.toNat n
end
end HT
namespace L2
open PySem PySem.Spec PyProof.Rows
abbrev TO:=St->Hp->(Option Int->Hp->Prop)->Prop
def PO(X:Cx)(e:Option Expr)(t:TO):Prop:=
  ∀(pins:List (aw×fN)) (s:av) (Y:St) (H:Hp) (Q:Option Int->Hp->Prop),Inv X pins Y H s->t Y H Q->
    aE (a_ X.prog X.w) X.A (evalPart e X.env) (λu s'=>∃o H',Inv X pins Y H' s'/\IsPart u o/\Q o H') X.xe s
def b4f:TO:=λ_ H Q=>Q el H
def b9o(t:TE):TO:=λY H Q=>t Y H λx H1=>∃i,x=.int i/\Q (cz i) H1
section
variable {X:Cx}{e:Expr}{te:TE}{lo hi:Option Expr}{tl th:TO}{pos p2:eO}
def b4g:PO X el b4f:=by
  intro pins s Y H Q I h;rw[evalPart_none];exact ae ⟨el,H,I,.none,h⟩
def b4h(h:PE X e te):PO X (cz e) (b9o te):=by
  intro pins s Y H Q I hw;rw[evalPart_some];refine thn (h pins s Y H _ I hw) λu s1 ⟨x,H1,I1,r1,q1⟩=>?_
  obtain⟨i,rfl,q⟩:=q1;obtain⟨t,rfl⟩:=r1;exact⟨cz i,H1,I1,.int i t,q⟩
def SlR(X:Cx)(r:V->Option Int->Option Int->Hp->VK->Prop):Prop:=
  ∀(pins:List (aw×fN)) (s:av) (Y:St) (H:Hp) (x:V) (v vl vu:aj) (lo hi:Option Int) (sl:aw) (Q:VK),Inv X pins Y H s->RelV x v->s.heap.IsSliceOf sl vl vu .none->IsPart vl lo->IsPart vu hi->r x lo hi H Q->
    ∃T id,oW (.type T) "__getitem__"=pure (cz (.builtin id))/\s.TypeIs v T/\aE (a_ X.prog X.w) X.A (qL v (.ref sl)) (EP X pins Y Q) X.xe s
def tSl(r:V->Option Int->Option Int->Hp->VK->Prop)(te:TE)(tl th:TO):TE:=λY H Q=>te Y H λx H1=>tl Y H1 λl H2=>th Y H2 λu H3=>r x l u H3 Q
def b1u(hr:SlR X r)(he:PE X e te)(hl:PO X lo tl)(hu:PO X hi th):PE X (.Subscript e (.Slice lo hi el p2) pos) (tSl r te tl th):=by
  intro pins s Y H Q I h;refine Subscript_ (thn (he pins s Y H _ I h) λv s1 ⟨x,H1,I1,r1,q1⟩=>?_);refine wpAny_Slice (thn (hl pins s1 Y H1 _ I1 q1) λvl s2 ⟨l,H2,I2,pl,q2⟩=>thn (hu pins s2 Y H2 _ I2 q2) λvu s3 ⟨u,H3,I3,pu,q3⟩=>?_);rw[evalPart_none];refine ae ?_;have I4:Inv X pins Y H3 {s3 with heap:=s3.heap.push {cls:=.type "slice",data:=.fields #[vl,vu,.none]}}:=I3.kept (t':=s3.toks) λb ob q=>ag _ q
  obtain⟨T,id,hT,ht,hg⟩:=hr pins {s3 with heap:=s3.heap.push {cls:=.type "slice",data:=.fields #[vl,vu,.none]}} Y H3 x v vl vu l u s3.heap.objs.size Q I4 r1 (bU.IsSliceOf.new ..) pl pu q3;show aE (a_ X.prog X.w) X.A (subscriptTail e (.Slice lo hi el p2) v (.ref s3.heap.objs.size)) (EP X pins Y Q) X.xe {s3 with heap:=s3.heap.push {cls:=.type "slice",data:=.fields #[vl,vu,.none]}};exact tail_any (ops:=[.ref s3.heap.objs.size,v]) ht hT hg (by with_unfolding_all rfl)
def a7h(xs:List V)(lo hi:Option Int):List V:=(xs.drop (HT.sIx xs.length 0 lo)).take (HT.sIx xs.length xs.length hi-HT.sIx xs.length 0 lo)
def a5L(xs:List V)(lo hi:Option Int):(a7h xs lo hi).length<=xs.length:=by
  unfold a7h;rw[ef,kD];omega
def b6b(K:af):R2:=λx y H Q=>∃a b xs ys,x=.ref a/\y=.ref b/\SqT K H a xs/\SqT K H b ys/\xs≠[]/\xs.length+ys.length<=aU/\
  (ys=[]->Q (.ref a) H)/\(ys≠[]->∀p,H p=el->Q (.ref p) (upd H p (.tup (xs++ys))))
def Vals.nil_iff(r:Vals xs us):us=[]↔xs=[]:=by
  cases r with
  |nil=>simp
  |cons _ _=>simp
def b4i:OpR X (eK .Add) (b6b X.K):=by
  intro pins s Y H x y v u Q I rx ry h;obtain⟨a,b,xs,ys,rfl,rfl,ha,hb,hx,hz,q1,q2⟩:=h;cases rx
  cases ry
  obtain⟨cA,r1,p1,_⟩:=I.tuple ha;obtain⟨mO,r2,p2,_⟩:=I.tuple hb;refine HT.b4e p1 p2 (λz=>hx (r1.nil_iff.mp z)) (λz=>⟨.ref a,H,I,rfl,q1 (r2.nil_iff.mp z)⟩) (λz=>?_) (by rw[<-r1.length,<-r2.length];exact hz);refine⟨.ref s.heap.objs.size,_,I.laid (t':=s.toks) (o:=.tup (xs++ys)) (λb ob q=>ag _ q) (aD _) ?_,rfl,q2 (λw=>z (r2.nil_iff.mpr w)) _ (I.hok.fresh (aD _))⟩;exact⟨by rw[aN];exact hz,_,r1.append r2,IsTup.new _ _⟩
end
def ixN(n:Nat)(i:Int):Option Nat:=if 0<=i then (if i<n then cz i.toNat else el) else if -(n:Int)<=i then cz (i+n).toNat else el
def atI{α:Type}(xs:List α)(i:Int):Option α:=(ixN xs.length i).bind λj=>xs[j]?
def a8F(h:ixN n i=cz j):seqIndex? i n=cz j/\j<n/\-(n:Int)<=i/\i<n:=by
  unfold ixN at h;by_cases h0:0<=i
  . rw[aH h0]at h
    by_cases h1:i<n
    . rw[aH h1]at h
      have e:i.toNat=j:=aL h;exact⟨by rw[seqIndex_of h0 h1,e],by omega,by omega,h1⟩
    . rw[aM h1]at h;cases h
  . rw[aM h0]at h
    by_cases h1:-(n:Int)<=i
    . rw[aH h1]at h
      have e:(i+n).toNat=j:=aL h;exact⟨by rw[seqIndex_neg (by omega) h1,e],by omega,h1,by omega⟩
    . rw[aM h1]at h;cases h
def a8G{α:Type}{xs:List α}{i:Int}{v:α}(h:atI xs i=cz v):∃j,seqIndex? i xs.length=cz j/\xs[j]?=cz v/\j<xs.length/\-(xs.length:Int)<=i/\i<xs.length:=by
  unfold atI at h;cases e:ixN xs.length i with
  |none=>rw[e]at h;cases h
  |some j=>
    rw[e]at h;obtain⟨h1,h2,h3,h4⟩:=a8F e;exact⟨j,h1,h,h2,h3,h4⟩
def a0E(b:Expr):Prop:=∀o i,sD b rp o i=operate [o,i] (qL o i)
def IxR(X:Cx)(r:R2):Prop:=
  ∀(value slice:Expr) (pins:List (aw×fN)) (s:av) (Y:St) (H:Hp) (x y:V) (v u:aj) (Q:VK),Inv X pins Y H s->RelV x v->RelV y u->r x y H Q->
    sD slice rp v u=operate [v,u] (qL v u)->aE (a_ X.prog X.w) X.A (subscriptTail value slice v u) (EP X pins Y Q) X.xe s
def MtR(X:Cx)(id:String)(r:V->List V->Hp->VK->Prop):Prop:=
  ∀(pins:List (aw×fN)) (s:av) (Y:St) (H:Hp) (x:V) (xs:List V) (v:aj) (us:List aj) (Q:VK),Inv X pins Y H s->RelV x v->Vals xs us->r x xs H Q->
    aE (a_ X.prog X.w) X.A (call (.builtin id) (v::us)) (EP X pins Y Q) X.xe s
section
variable {X:Cx}{a b:Expr}{ta tb:TE}{pos:eO}
def IxR.or(h:IxR X r)(h':IxR X r'):IxR X (λx y H Q=>r x y H Q\/r' x y H Q):=by
  intro value slice pins s Y H x y v u Q I rx ry q hs;rcases q with q|q
  . exact h value slice pins s Y H x y v u Q I rx ry q hs
  . exact h' value slice pins s Y H x y v u Q I rx ry q hs
def a8H(hr:IxR X r)(ha:PE X a ta)(hb:PE X b tb)(hs:a0E b):PE X (.Subscript a b pos) (tOp r ta tb):=by
  intro pins s Y H Q I h;exact Subscript_ (b6P ha hb I h λv u s2 x y H2 I2 rx ry q=>hr a b pins s2 Y H2 x y v u Q I2 rx ry q (hs _ _))
def b9p(K:af):R2:=λx y H Q=>∃p xs i v,x=.ref p/\y=.int i/\SqL K H p xs/\atI xs i=cz v/\Q v H
def b9q(K:af):R2:=λx y H Q=>∃p xs i v,x=.ref p/\y=.int i/\SqT K H p xs/\atI xs i=cz v/\Q v H
def b4j:IxR X (b9p X.K):=by
  intro value slice pins s Y H x y v u Q I rx ry h hs;obtain⟨p,xs,i,z,rfl,rfl,hq,he,q⟩:=h;cases rx
  obtain⟨t,rfl⟩:=ry;obtain⟨cA,r,pl,hz⟩:=I.list hq;obtain⟨j,h1,h2,h3,h4,h5⟩:=a8G he;obtain⟨w,ew,ym⟩:=r.get h2;have hl:=r.length;have hn:=a2A;have fin:EP X pins Y Q w s:=⟨z,H,I,ym,q⟩;by_cases h0:0<=i
  . have hj:i.toNat=j:=by
      rw[seqIndex_of h0 h5]at h1;exact aL h1
    exact item_listR pl.isList h0 (by omega) (by rw[hj];simpa using ew) fin hs
  . have hj:(i+(cA.toArray.size:Int)).toNat=j:=by
      rw[seqIndex_neg (by omega) h4]at h1;rw[bh,<-hl];exact aL h1
    exact subscriptTail_builtinR (x:=w) pl.isList.typeIs slot_list_getitem.lookup
      (wpAny_getItem_list_neg (Q:=λr s'=>r=w/\EP X pins Y Q r s') pl.isList (by omega) (by rw[bh]<;>omega) (by omega) (by rw[hj];simpa using ew) ⟨rfl,fin⟩) hs
def b7c:IxR X (b9q X.K):=by
  intro value slice pins s Y H x y v u Q I rx ry h hs;obtain⟨p,xs,i,z,rfl,rfl,hq,he,q⟩:=h;cases rx
  obtain⟨t,rfl⟩:=ry;obtain⟨cA,r,pl,hz⟩:=I.tuple hq;obtain⟨j,h1,h2,h3,h4,h5⟩:=a8G he;obtain⟨w,ew,ym⟩:=r.get h2;have hl:=r.length;have hn:=a2A;have fin:EP X pins Y Q w s:=⟨z,H,I,ym,q⟩;exact subscriptTail_builtinR (x:=w) pl.typeIs slot_tuple_getitem.lookup
    (getItem_tuple (j:=j) (Q:=λr s'=>r=w/\EP X pins Y Q r s') pl (by omega) (by omega) (by rw[bh,<-hl];exact h1) (by simpa using ew) ⟨rfl,fin⟩) hs
def a4Z(lo hi:Option Int)(n:Nat):(jD lo hi el n).1=((HT.sIx n 0 lo:Nat):Int)/\(jD lo hi el n).2.1=((HT.sIx n n hi:Nat):Int)/\(jD lo hi el n).2.2=1:=by
  refine⟨?_,?_,rfl⟩
  . cases lo with
    |none=>simp[jD,HT.sIx]
    |some i=>
      simp only[jD,HT.sIx,Gf,show (1:Int)>0 by decide,gF];by_cases h:i<0
      . simp only[h,gF]<;>omega
      . simp only[h,fO]<;>omega
  . cases hi with
    |none=>simp[jD,HT.sIx]
    |some i=>
      simp only[jD,HT.sIx,Gf,show (1:Int)>0 by decide,gF];by_cases h:i<0
      . simp only[h,gF]<;>omega
      . simp only[h,fO]<;>omega
def a3K(cA:List aj)(lo hi:Option Int):slicePick cA.toArray lo hi el=((cA.drop (HT.sIx cA.length 0 lo)).take (HT.sIx cA.length cA.length hi-HT.sIx cA.length 0 lo)).toArray:=by
  obtain⟨h1,h2,h3⟩:=a4Z lo hi cA.toArray.size;unfold slicePick;rw[h1,h2,h3];simp only[sliceRange_one,pick_run,bh]<;>rfl
def c1k(K:af):V->Option Int->Option Int->Hp->VK->Prop:=λx lo hi H Q=>∃a xs,x=.ref a/\SqL K H a xs/\∀p,H p=el->Q (.ref p) (upd H p (.lst (a7h xs lo hi)))
def b4k:SlR X (c1k X.K):=by
  intro pins s Y H x v vl vu lo hi sl Q I rx hs pl pu h;obtain⟨a,xs,rfl,hx,q⟩:=h;cases rx
  obtain⟨cA,r,ht,hz⟩:=I.list hx;have hlen:=r.length;refine⟨"list",_,slot_list_getitem.lookup,ht.isList.typeIs,?_⟩;refine wpAny_getItem_list_slice ht.isList hs pl pu .none (by simp) ?_ (by rw[bh]<;>omega);rw[a3K,<-hlen];refine⟨.ref s.heap.objs.size,_,I.laid (t':=s.toks) (o:=.lst (a7h xs lo hi)) (λb ob q=>ag _ q) (aD _) ?_,rfl,q _ (I.hok.fresh (aD _))⟩;exact⟨bL (a5L xs lo hi) hz,_,0,(r.drop (HT.sIx xs.length 0 lo)).take (HT.sIx xs.length xs.length hi-HT.sIx xs.length 0 lo),aF _ rfl⟩
def a5a:CallR X (.builtin "len") (λxs H Q=>∃p ys,xs=[.ref p]/\(SqL X.K H p ys\/SqT X.K H p ys)/\Q (.int ys.length) H):=by
  intro pins s Y H xs us Q I r h;obtain⟨p,ys,rfl,hq,q⟩:=h;obtain⟨u,rfl,rx⟩:=vals1 r;cases rx
  have hn:=a2A;rcases hq with hq|hq
  . obtain⟨cA,r',pl,hz⟩:=I.list hq
    have hlen:=r'.length;exact Calls.call_len_list pl.isList (by simp only[bh]<;>omega) ⟨.int ys.length,H,I.tok _,⟨s.toks+1,by rw[bh,hlen]⟩,q⟩
  . obtain⟨cA,r',pl,hz⟩:=I.tuple hq
    have hlen:=r'.length;exact len_tuple pl (by simp only[bh]<;>omega) ⟨.int ys.length,H,I.tok _,⟨s.toks+1,by rw[bh,hlen]⟩,q⟩
def a5b:CallR X (.builtin "len") (λxs H Q=>∃z,xs=[.str z]/\z.length<=aU/\Q (.int z.length) H):=by
  intro pins s Y H xs us Q I r h;obtain⟨z,rfl,hz,q⟩:=h;obtain⟨u,rfl,t,rfl⟩:=vals1 r;have hn:=a2A;exact len_str (by omega) ⟨.int z.length,H,I.tok _,⟨_,rfl⟩,q⟩
def CallR.or(h:CallR X f r)(h':CallR X f r'):CallR X f (λxs H Q=>r xs H Q\/r' xs H Q):=by
  intro pins s Y H xs us Q I rs q;rcases q with q|q
  . exact h pins s Y H xs us Q I rs q
  . exact h' pins s Y H xs us Q I rs q
def a0F:CallR X (.type "list") (λxs H Q=>∃p ys,xs=[.ref p]/\(SqL X.K H p ys\/SqT X.K H p ys)/\∀l,H l=el->Q (.ref l) (upd H l (.lst ys))):=by
  intro pins s Y H xs us Q I r h;obtain⟨p,ys,rfl,hq,q⟩:=h;obtain⟨u,rfl,rx⟩:=vals1 r;cases rx
  have fin:∀(cA:List aj),Vals ys cA->ys.length<=aU->∀(h':bU) (c':Nat),(∀b o',s.heap.get? b=cz o'->h'.get? b=cz o')->
      h'.get? s.heap.objs.size=cz {cls:=.type "list",dict:=el,data:=.seq cA.toArray c',slots:=#[]}->EP X pins Y Q (.ref s.heap.objs.size) {s with heap:=h'}:=λcA r' hz h' c' kp e=>
    ⟨.ref s.heap.objs.size,_,I.laid (t':=s.toks) kp (aD _) (show ObjOk X.prog X.w _ h' _ (.lst ys) from⟨hz,cA,c',r',e⟩),rfl,q _ (I.hok.fresh (aD _))⟩
  rcases hq with hq|hq
  . obtain⟨cA,r',pl,hz⟩:=I.list hq
    have hlen:=r'.length;obtain⟨o,ho,hc,n,hd⟩:=pl.isList;exact call_list_seq p (.inl rfl) ho hc hd (λh' c' kp e=>fin cA r' hz h' c' kp e) (by simp only[bh]<;>omega)
  . obtain⟨cA,r',pl,hz⟩:=I.tuple hq
    have hlen:=r'.length;obtain⟨o,ho,hc,n,hd⟩:=pl;exact call_list_seq p (.inr rfl) ho hc hd (λh' c' kp e=>fin cA r' hz h' c' kp e) (by simp only[bh]<;>omega)
def a3L:CallR X (.type "tuple") (λxs H Q=>∃p ys,xs=[.ref p]/\((SqL X.K H p ys/\∀l,H l=el->Q (.ref l) (upd H l (.tup ys)))\/(SqT X.K H p ys/\Q (.ref p) H))):=by
  intro pins s Y H xs us Q I r h;obtain⟨p,ys,rfl,h⟩:=h;obtain⟨u,rfl,rx⟩:=vals1 r;cases rx
  rcases h with⟨hq,q⟩|⟨hq,q⟩
  . obtain⟨cA,r',pl,hz⟩:=I.list hq
    have hlen:=r'.length;refine call_tuple_list pl.isList (λh' kp=>?_) (by simp only[bh]<;>omega);have I1:Inv X pins Y H {s with heap:=h'}:=I.kept (t':=s.toks) kp;have I2:Inv X pins Y (upd H h'.objs.size (.tup ys)) {s with heap:=h'.push {cls:=.type "tuple",data:=.seq cA.toArray}}:=
      I1.laid (t':=s.toks) (λb o e=>ag _ e) (aD _) (show ObjOk X.prog X.w _ _ _ (.tup ys) from⟨hz,cA,r',IsTup.new _ _⟩)
    exact⟨.ref h'.objs.size,_,I2,rfl,q _ (I1.hok.fresh (aD _))⟩
  . obtain⟨cA,r',pl,hz⟩:=I.tuple hq
    exact call_tuple_same pl ⟨.ref p,H,I,rfl,q⟩
def tyV(K:af)(T:String)(x:V)(H:Hp):Prop:=match x with
  |.str _=>T="str"
  |.int _=>T="int"
  |.ref p=>(T="list"/\∃xs,SqL K H p xs)\/(T="tuple"/\∃o,K.lookup p=cz o/\o.cls=.type "tuple"/\o.dict=el)\/
      (T="dict"/\((∃kvs,H p=cz (.dK kvs))\/∃kvs,H p=cz (.dT kvs)))\/(T="set"/\∃S n,H p=cz (.set S n))
  |_=>False
def b1v(I:Inv X pins Y H s)(r:RelV x v)(ty:tyV X.K T x H) :
    s.TypeIs v T/\∀a,v=.ref a->∃ob,s.heap.get? a=cz ob/\ob.dict=el:=by
  cases x with
  |str z=>
    obtain⟨t,rfl⟩:=r;cases (show T="str" from ty)
    exact⟨typeIs_str s z t,λ_ e=>nomatch e⟩
  |int i=>
    obtain⟨t,rfl⟩:=r;cases (show T="int" from ty)
    exact⟨typeIs_int s i t,λ_ e=>nomatch e⟩
  |ref p=>
    cases r
    rcases ty with⟨rfl,xs,hq⟩|⟨rfl,o,hk,hc,hd⟩|⟨rfl,hk⟩|⟨rfl,S,n,hk⟩
    . obtain⟨cA,_,pl,_⟩:=I.list hq
      refine⟨pl.isList.typeIs,λa e=>?_⟩;cases e
      obtain⟨o,n,e,c,hd,_⟩:=pl;exact⟨o,e,hd⟩
    . refine⟨⟨o,I.kIn p o hk,hc⟩,λa e=>?_⟩
      cases e
      exact⟨o,I.kIn _ o hk,hd⟩
    . have z:∃o,s.heap.get? p=cz o/\o.ExactDict:=by
        rcases hk with⟨kvs,hk⟩|⟨kvs,hk⟩
        . obtain⟨_,_,_,_,o,_,_,e,ex,_⟩:=I.hok p _ hk
          exact⟨o,e,ex⟩
        . obtain⟨_,_,_,_,o,_,_,e,ex,_⟩:=I.hok p _ hk
          exact⟨o,e,ex⟩
      obtain⟨o,e,ex⟩:=z;refine⟨⟨o,e,ex.1⟩,λa e2=>?_⟩;cases e2
      exact⟨o,e,ex.2.1⟩
    . obtain⟨o,_,_,_,e,ex,_⟩:=I.hok p _ hk
      refine⟨⟨o,e,ex.1⟩,λa e2=>?_⟩;cases e2
      exact⟨o,e,ex.2.1⟩
  |_=>exact cM ty
def c1l(K:af)(T:String)(r:V->List V->Hp->VK->Prop)(to:TE):TE:=λY H Q=>to Y H λx H1=>tyV K T x H1/\r x [] H1 Q
def tBM(K:af)(T:String)(r:V->List V->Hp->VK->Prop)(to:TE)(t:TA):TE:=λY H Q=>to Y H λx H1=>tyV K T x H1/\t Y H1 λxs H2=>r x xs H2 Q
variable {o e:Expr}{es:List Expr}{to:TE}{t:TA}{name:bI}{apos cf:eO}{T id:String}{r:V->List V->Hp->VK->Prop}
def b1w(pa:PlainAttrs T)(slot:Slot T name id)(vL:typeOf (.builtin id)=pure (.type "method_descriptor"))(hm:MtR X id r)(ho:PE X o to)
    (dS:cK o name X.env (cg o X.env)=cg o X.env:=by rfl) (dR:(apos.endLine==cf.line)=p4:=by rfl):PE X (.Call (.Attribute o name apos) [] [] cf) (c1l X.K T r to):=by
  intro pins s Y H Q I h;refine iH dS dR (thn (ho pins s Y H _ I h) λv s1 ⟨x,H1,I1,r1,ty,q1⟩=>?_);obtain⟨h1,h2⟩:=b1v I1 r1 ty;exact⟨T,id,pa,slot,vL,h1,h2,fu rfl (jq (hm pins s1 Y H1 x [] v [] Q I1 r1 .nil q1))⟩
def a8I(pa:PlainAttrs T)(slot:Slot T name id)(vL:typeOf (.builtin id)=pure (.type "method_descriptor"))(hm:MtR X id r)(ho:PE X o to)(ha:PA X (e::es) t)
    (dS:cK o name X.env (cg o X.env)=cg o X.env:=by rfl)
    (jG:((cj cf (ax (e::es) X.env)).all (λx=>!x.1)&&(kq cf (gU [] X.env)).all (λx=>x.1.isSome)
      && decide ((e::es).length+([]:List fV).length+(if ([]:List fV).isEmpty then 0 else 1)<30))=p4:=by rfl)
    (dR:(apos.endLine==cf.line)=p4:=by rfl) (hs:ax (e::es) X.env=(rp,cg e X.env)::ax es X.env:=by rfl) (fP:(cj cf (ax es X.env)).any (·.1)=rp:=by rfl) :
    PE X (.Call (.Attribute o name apos) (e::es) [] cf) (tBM X.K T r to t):=by
  intro pins s Y H Q I h;refine Cp dS jG dR rfl (thn (ho pins s Y H _ I h) λv s1 ⟨x,H1,I1,r1,ty,q1⟩=>?_);obtain⟨h1,h2⟩:=b1v I1 r1 ty;refine⟨T,id,pa,slot,vL,h1,h2,?_⟩;have hA:=ha cf pins s1 Y H1 _ I1 q1;rw[hs]at hA ⊢;refine fu (by show (rp||(cj cf (ax es X.env)).any (·.1))=rp;rw[fP]<;>rfl) (nT ?_);exact thn hA λus s2 ⟨vs,H2,I2,r2,q2⟩=>hm pins s2 Y H2 x vs v us Q I2 r1 r2 q2
end
def MtM(X:Cx)(id:String)(r:V->List V->Hp->VK->Prop):Prop:=
  ∀(pins:List (aw×fN)) (s:av) (Y:St) (H:Hp) (x:V) (xs:List V) (v:aj) (us:List aj) (Q:VK),Inv X pins Y H s->RelV x v->Vals xs us->r x xs H Q->
    aE (a_ X.prog X.w) X.A (call (.builtin id) (v::us)) (EP X pins Y Q) X.xe s
def Vals.one:∀{x:V} {us:List aj},Vals [x] us->∃u,us=[u]/\RelV x u
  |_,_,.cons r .nil=>⟨_,rfl,r⟩
def Vals.zero:∀{us:List aj},Vals [] us->us=[]
  |_,.nil=>rfl
theorem Vals.dropLast(h:Vals xs us):Vals xs.dropLast us.dropLast:=by
  induction h with
  |nil=>exact .nil
  |cons r t ih=>
    cases t with
    |nil=>exact .nil
    |cons q t'=>exact .cons r ih
def a7i(l:List α):l.eraseIdx (l.length-1)=l.dropLast:=by
  induction l with
  |nil=>rfl
  |cons a r ih=>
    cases r with
    |nil=>rfl
    |cons b r=>
      have e:(a::b::r).length-1=((b::r).length-1)+1:=by
        have h1:(a::b::r).length=r.length+2:=rfl;have h2:(b::r).length=r.length+1:=rfl;omega
      rw[e,tz,ih]
      all_goals rfl
section
variable {X:Cx}{pins:List (aw×fN)}{Y:St}{H:Hp}{s:av}{l b:aw}{xs ys zs:List V}
def Inv.lset{cA its':List aj}(I:Inv X pins Y H s)(hH:H l=cz (.lst xs))
    (e:s.heap.get? l=cz {cls:=.type "list",data:=.seq cA.toArray n}) (hf:f cA.toArray=its'.toArray) (hv:Vals ys its') (hz:ys.length<=aU) :
    Inv X pins Y (upd H l (.lst ys)) {s with heap:=s.heap.update l (hJ f),toks:=t'}:=by
  have q:=PySem.IsL.update e f;rw[hf]at q;refine I.write (x:=l) (e:=l) (by rw[hH];exact trivial) (.inl rfl) (λb' u hb hu=>(dD s.heap (hJ f) (dP hb)).trans hu) ⟨_,q⟩ ?_;exact⟨hz,its',_,hv,q⟩
def Inv.lnew(I:Inv X pins Y H s)(hv:Vals ys cA)(hz:ys.length<=aU) :
    Inv X pins Y (upd H s.heap.objs.size (.lst ys)) {s with heap:=s.heap.push {cls:=.type "list",data:=.seq cA.toArray},toks:=t'}:=
  I.laid (λ_ _ q=>ag _ q) (aD _) ⟨hz,cA,0,hv,aF _ rfl⟩
theorem Inv.fresh(I:Inv X pins Y H s):H s.heap.objs.size=el:=I.hok.fresh (aD _)
def Inv.lstM(I:Inv X pins Y H s)(hH:H l=cz (.lst xs)):xs.length<=aU/\∃(cA:List aj) (n:Nat),Vals xs cA/\xs.length=cA.length/\s.heap.get? l=cz {cls:=.type "list",data:=.seq cA.toArray n}:=by
  obtain⟨z,cA,n,r,e⟩:=I.hok l _ hH;exact⟨z,cA,n,r,r.length,e⟩
def b1x(h:n<=aU):ly n=rp:=by
  unfold ly;exact aV (by omega)
end
section
variable {X:Cx}
def b4l:V->List V->Hp->VK->Prop:=λx vs H Q=>∃l xs y,x=.ref l/\vs=[y]/\H l=cz (.lst xs)/\xs.length<aU/\Q .non (upd H l (.lst (xs++[y])))
def a1l:MtM X "list.append" b4l:=by
  intro pins s Y H x vs v us Q I rx rv h;obtain⟨l,xs,y,rfl,rfl,hH,hz,q⟩:=h;cases rx
  obtain⟨u,rfl,ru⟩:=rv.one;obtain⟨z,cA,n,r,hl,e⟩:=I.lstM hH;refine mi F.slot_list_append ⟨_,e,rfl⟩ F.entry_list_append (F.args_list_append_2 _ _) (PySem.list_append l cA.toArray n u (by rw[bh];omega)) ⟨e,?_⟩;refine⟨.non,_,I.lset (its':=cA++[u]) hH e (by simp) (r.append (.cons ru .nil)) ?_,rfl,q⟩;rw[aN,iN];omega
def b4m:V->List V->Hp->VK->Prop:=λx vs H Q=>∃l b xs zs,x=.ref l/\vs=[.ref b]/\H l=cz (.lst xs)/\H b=cz (.lst zs)/\xs.length+zs.length<=aU/\Q .non (upd H l (.lst (xs++zs)))
def a9L:MtM X "list.extend" b4m:=by
  intro pins s Y H x vs v us Q I rx rv h;obtain⟨l,b,xs,zs,rfl,rfl,hH,hB,hz,q⟩:=h;cases rx
  obtain⟨u,rfl,ru⟩:=rv.one;cases ru
  obtain⟨z,cA,n,r,hl,e⟩:=I.lstM hH;obtain⟨z2,mO,n2,r2,uP,e2⟩:=I.lstM hB;have hsz:cA.toArray.size+mO.toArray.size<=aU:=by rw[bh,bh];omega
  have vX:¬ (!cA.toArray.isEmpty&&ly (cA.toArray.size+mO.toArray.size))=p4:=by
    rw[b1x hsz,lV];exact aW
  refine mi F.slot_list_extend ⟨_,e,rfl⟩ F.entry_list_extend (F.args_list_extend_2 _ _)
    (AutoSeq1.list_extend_list_list_0 l cA.toArray n b mO.toArray n2 vX (by rw[bh];omega) (by omega)) ⟨e,e2,?_⟩
  refine⟨.non,_,I.lset (its':=cA++mO) hH e (by simp) (r.append r2) ?_,rfl,q⟩;rw[aN];omega
def c1m:V->List V->Hp->VK->Prop:=λx vs H Q=>∃l xs y,x=.ref l/\vs=[]/\H l=cz (.lst xs)/\xs[xs.length-1]?=cz y/\Q y (upd H l (.lst xs.dropLast))
def b7d:MtM X "list.pop" c1m:=by
  intro pins s Y H x vs v us Q I rx rv h;obtain⟨l,xs,y,rfl,rfl,hH,hy,q⟩:=h;cases rx
  have mP:=rv.zero;subst mP;obtain⟨z,cA,n,r,hl,e⟩:=I.lstM hH;obtain⟨u,hu,ru⟩:=r.get hy;have yF:cA.toArray[cA.toArray.size-1]?=cz u:=by
    show cA.toArray[cA.length-1]?=cz u;rw[<-bX,<-hl];exact hu
  refine mi F.slot_list_pop ⟨_,e,rfl⟩ F.entry_list_pop (F.args_list_pop_1 _) (MeetsSeq.list_pop_last l cA.toArray n u yF (by rw[bh];omega)) ⟨e,?_⟩;refine⟨y,_,I.lset (its':=cA.dropLast) hH e ?_ r.dropLast ?_,ru,q⟩
  . show cA.toArray.eraseIdxIfInBounds (cA.toArray.size-1)=cA.dropLast.toArray
    rw[bh,List.eraseIdxIfInBounds_toArray,a7i]
  . rw[List.length_dropLast]
    omega
end
end L2
namespace Att
open PySem PySem.W PySem.Calls PyProof.Rows
def a2g:∀(ns:List Int) (vs:List aj),WellAll P h vs (ns.map WData.int)->IntsAre vs ns:=by
  intro ns
  induction ns with
  |nil=>
    intro vs w;rw[cY]at w;cases w
    exact .nil
  |cons n ns ih=>
    intro vs w;rw[aA]at w;cases w with
    |cons a b=>
      cases a
      exact .cons _ _ (ih _ b)
def a9M{l:OpenLaw}(hn:l.most=cz n) 
    (kY:l.row.toRowW.claim.pre args=p4) (vJ:WellAll P h vals args) :
    ∃a vs ns,vals=[bb a]/\args=[WData.list (ns.map WData.int)]/\h.get? a=cz {cls:=.type "list",data:=.seq vs.toArray}/\IntsAre vs ns/\ns.length<=n:=by
  have DF:WShape.hasAll [] args [.list .int]=p4:=(pre_splitW kY).1;have hc:l.pre.holds [] {args:=args}=p4:=(pre_splitW kY).2;obtain⟨d,r,rfl,h1,h2⟩:=hasAllW_cons DF;obtain rfl:=hasAllW_nil h2;obtain⟨xs,rfl,h3⟩:=hasW_list h1;obtain⟨ns,rfl⟩:=items_int h3;have hlen:ns.length<=n:=by
    unfold OpenLaw.pre at hc;have h4:(WTm.not (.lt (.lit (.int (n:Int))) (.len (.arg 0)))).holds [] {args:=[.list (ns.map .int)]}=p4:=by
      have h4:=(holds_andW hc).1;rw[hn]at h4;exact h4
    have h5:=condW_of h4 (w_not (w_lt w_lit (w_len_list (w_arg rfl))));rw[ah]at h5;refine Nat.le_of_not_lt λq=>?_
    have q':(n:Int)<((ns.length:Nat):Int):=by omega
    first
      | (rw[aI q']at h5;exact absurd h5 (by decide))
      | (simp at h5;omega)
  cases vJ with
  |cons w1 w2=>
    cases w2
    cases w1 with
    |list ho jZ=>exact⟨_,_,ns,rfl,rfl,ho,a2g ns _ jZ,hlen⟩
def a9N(l:OpenLaw)(args:List WData):l.row.toRowW.claim.post args (.bool p4) args=p4:=
  postW_of (r:=l.row.toRowW) (X:=(p4==p4))
    (show WShape.has [] (.bool p4) .bool=p4 by first|rfl|decide|simp[WShape.has,WShape.arms,WShape.armsAll])
    (show (WTm.eq .res (.lit (.bool p4))).value [] {args:=args,res:=cz (.bool p4),after:=args}=cz (.bool (p4==p4)) from w_eq_bool (w_res rfl) w_lit) rfl
def attach_call{l:OpenLaw}{d:DefRec}
    (hn:l.most=cz n) (wu:d.params.defaults=[])
    (call:∀(w:bQ) (s₀ s₁:av) (mg mb:bI->Option aj) (fa:aw) (o:fN) (pm cd doc:aj) (a:aw) (vs:List aj) (ns:List Int),
      Ground q loose [] XP w s₀ mg mb s₁.heap->YP w s₁.heap->
      s₁.heap.get? fa=cz o->o.data=.func (docDef d.name d.params d.body d.scope pm cd doc)->s₁.heap.CodeRec cd d.name->mg d.name=cz (.ref fa)->
      s₁.heap.get? a=cz {cls:=.type "list",data:=.seq vs.toArray}->IntsAre vs ns->ns.length<=n->s₁.gens=#[]->
      gL (a_ l.prog w) nZ (.call (.ref fa) ⟨[.ref a],[]⟩) (λr s'=>r=.ok (.ret (.bool p4))/\OldK s₁.heap s'.heap/\s'.os=s₁.os/\oU s'.gens) s₁) :
    WalkO q loose XP YP l.row.toRowW d [] (λf vs=>Ah f vs):=by
  intro w s₀ s₁ mg mb G xn fa o pm cd doc dV kV ho hd mZ hD vW hg args vals as kY Ej GN vJ Bg;obtain rfl:dV=.none:=Dflts.none hD wu;obtain rfl:kV=.none:=Dflts.noKw hD;obtain⟨a,vs,ns,rfl,rfl,tU,hints,hlen⟩:=a9M hn kY vJ;refine enter_call (fQ (call w s₀ s₁ mg mb fa o pm cd doc a vs ns G xn ho (fd_plain hd) mZ vW tU hints hlen hg) λr s' hq=>?_);obtain⟨rfl,h2,h3,h4⟩:=hq;exact⟨.inl ⟨.bool p4,.bool p4,[],rfl,λ_=>rfl,.bool p4,a9N l _,λ_=>⟨iz,λ_ hm=>(nomatch hm)⟩⟩,h2,h3,h4⟩
section
variable {prog:bB}{w:bQ}{A:bE}{E:aj->av->Prop}{s:av}{K:Frag}
def ledger(h:bU)(L d:aw):List (aw×fN):=(aJ h.objs.size).filterMap λa=>if a=L\/a=d then el else (h.get? a).map λo=>(a,o)
end
end Att
namespace L2
open PySem PySem.Spec PyProof.Rows
theorem vals_ints:∀{vs:List aj} {ns:List Int},IntsAre vs ns->Vals (ns.map V.int) vs
  |_,_,.nil=>.nil
  |_,_,.cons n t h=>.cons ⟨t,rfl⟩ (vals_ints h)
abbrev KOf{K:af}{h:bU}(_:K.In h):af:=K
end L2
namespace L2
open PySem PySem.Spec PyProof.Rows
def T3(s:ig):lW:=match s with
  |.FunctionDef _ a _ _ _ _ _ _ _ _=>a
  |_=>{posonlyargs:=[],args:=[],vararg:=el,kwonlyargs:=[],kw_defaults:=[],kwarg:=el,defaults:=[]}
def y8(s:ig):List ig:=match s with
  |.FunctionDef _ _ b _ _ _ _ _ _ _=>b
  |_=>[]
def j5(s:ig):gi:=match s with
  |.FunctionDef _ _ _ _ _ _ sc _ _ _=>sc
  |_=>{kind:=.function,names:=[],isGenerator:=rp,isCoroutine:=rp}
abbrev CX0:CXT:=λ_ _ _ _ _ _=>False
abbrev E0:XK:=λ_ _ _=>False
def b9r:a7g CX0 X E0:=λ_ _ _ _ _ _ _ h=>h.elim
structure Fun (K:af) (x qual:bI) (st:ig) (f:aw) (fd:dE):Prop where
  ex:∃(oc:aj) (od:Option aw) (kV doc pm:aj) (an:Option aw) (gn ct:aj) (oZ:Array (Option aj)),
    fd=fY x qual (T3 st) (y8 st) (j5 st) .none kV doc pm an gn ct/\K.lookup f=cz ⟨oc,od,.func fd,oZ⟩/\lS K gn qual=p4
  kp:fT K (.ref f)=p4
section
variable {P:bB}{w:bQ}{K:af}{mg:bI->Option aj}{base:bU}
def Fun.ok{x qual:bI}{st:ig}{f:aw}{fd:dE}{N ps:List bI}{k:Nat}{sp:Sp}(F:Fun K x qual st f fd)(S:FnScope N ps (j5 st))(len:∀vs H Q E,sp vs H Q E->vs.length=ps.length)
    (qF:∀(gn:aj) (A:bE) (outer:List oS) (s:av) (H:Hp) (vs:List V) (Q:VK) (E:XK),Room k (A.deeper (jm qual (j5 st) s.heap.objs.size f gn))->sp vs H Q E->
      ∃t,PSs (a0D CX0 P w K mg base N qual (j5 st) f gn A outer s H E).nox (y8 st) t/\t {nx:=λ_ H'=>Q .non H',rt:=Q} (start N vs) H):FnOk P w K mg base CX0 (k+1) f fd ps sp:=by
  obtain⟨oc,od,kV,doc,pm,an,gn,ct,oZ,rfl,lk,mZ⟩:=F.ex;refine b6a lk mZ S len λA outer s H vs Q E hr qm=>?_
  obtain⟨t,h,q⟩:=qF gn A outer s H vs Q E hr qm;exact⟨t,h.nox,q⟩
def Fun.binds{x qual:bI}{st:ig}{f:aw}{fd:dE}{ps:List bI}(F:Fun K x qual st f fd)
    (h:∀(kV doc pm:aj) (an:Option aw) (gn ct:aj) (us:List aj),us.length=ps.length->qN (fY x qual (T3 st) (y8 st) (j5 st) .none kV doc pm an gn ct) ⟨us,[]⟩=pure (ps.zip us)):Binds K fd ps []:=by
  obtain⟨oc,od,kV,doc,pm,an,gn,ct,oZ,rfl,lk,mZ⟩:=F.ex;exact .all (h kV doc pm an gn ct)
def b7e{x qual:bI}{st:ig}{f:aw}{oc:aj}{od an:Option aw}{oZ:Array (Option aj)}{kV doc pm gn ct:aj}(l:K.lookup f=cz ⟨oc,od,.func (fY x qual (T3 st) (y8 st) (j5 st) .none kV doc pm an gn ct),oZ⟩)
    (c:lS K gn qual=p4) (k:fT K (.ref f)=p4):Fun K x qual st f (fY x qual (T3 st) (y8 st) (j5 st) .none kV doc pm an gn ct):=⟨⟨oc,od,kV,doc,pm,an,gn,ct,oZ,rfl,l,c⟩,k⟩
end
def X9(h:n<=1000):n<aU:=ij h (by decide)
section
variable {X:Cx}
def pv(i:Nat)(hN:X.N[i]?=cz x:=by rfl)(hv:autoParam (NmV X x) ZY._auto_1):PE X (.Name x pos) (b3T i):=C6 hN hv.1 hv.2.1 hv.2.2
end
def a5M{A B:Prop}(h:B):if rp=p4 then A else B:=by
  rw[aM aW];exact h
def a5N{A B:Prop}(h:A):if p4=p4 then A else B:=by
  rw[aH rfl];exact h
def Same(H H':Hp):Prop:=∀b o,H b=cz o->H' b=cz o
def Same.refl(H:Hp):Same H H:=λ_ _ h=>h
def Same.trans(a:Same H H1)(b:Same H1 H2):Same H H2:=λc o h=>b c o (a c o h)
def Same.free{H H':Hp}(e:Same H H'){l:aw}(h:H' l=Option.none):H l=Option.none:=by
  cases q:H l with
  |none=>rfl
  |some o=>
    rw[e l o q]at h;cases h
end L2
set_option maxHeartbeats 4000000
namespace L2
open PySem PySem.Spec PyProof.Rows
def O9(X:Cx)(N:List bI)(scope:gi)(cl:List (bI×aw))(C:aw)(s:av)(H:Hp)(fp:List aw):Cx:=
 {X with N:=N,s₀:=s,H₀:=H,env:=compEnvC scope cl C X.env,outer:=X.stack,ex:=fp,fn:=λ_=>rp,xe:=λ_ _=>False}
structure CompIn (X:Cx) (N:List bI) (scope:gi) (cl:List (bI×aw)) (τ:St->St):Prop where
 clos:pC scope X.env=pure cl
 kind:scope.kind=.function
 ncell:∀y∈scope.names,y.2≠.cell
 names:∀y∈scope.names,y.2=.local->scope.names.lookup y.1=cz .local
 sub:∀x c,cl.lookup x=cz c->X.env.cells.lookup x=cz c
 has:∀y∈scope.names,y.2=.free->∃c,cl.lookup y.1=cz c
 tlen:∀Y,(τ Y).length=N.length
 tval:∀(Y:St) (i:Nat) (x:bI) (v:V),N[i]?=cz x->(τ Y)[i]?=cz (cz v)->∃j:Nat,X.N[j]?=cz x/\Y[j]?=cz (cz v)/\scope.names.lookup x=cz .free/\(X.env.kindOf x=cz .cell\/X.env.kindOf x=cz .free)
def a0G{scope:gi}(hn:∀y∈scope.names,y.2≠.cell)(h:(lZ scope env).names.lookup x=cz .cell\/(lZ scope env).names.lookup x=cz .free):∃y∈scope.names,y.1=x/\y.2=.free:=by
 have key:∀k,(lZ scope env).names.lookup x=cz k->k=.cell\/k=.free->∃y∈scope.names,y.1=x/\y.2=.free:=λk e hk=>by
  have hm:=bZ e;unfold lZ at hm;obtain⟨⟨n,k'⟩,hy,e2⟩:=aX.mp hm
  dsimp only at e2
  by_cases hc:(k'==fy&&env.scope.kind==.function&&env.kindOf n==cz .cell)=p4
  ·rw[aH hc]at e2;cases e2
   rw[ao,ao]at hc;exact⟨_,hy,rfl,by simpa using hc.1.1⟩
  ·rw[aM hc]at e2;cases e2
   rcases hk with rfl|rfl
   ·exact absurd rfl (hn _ hy)
   ·exact⟨_,hy,rfl,rfl⟩
 rcases h with h|h
 ·exact key _ h (.inl rfl)
 ·exact key _ h (.inr rfl)
def a5c{scope:gi}(h:scope.names.lookup x=cz .free):(lZ scope env).names.lookup x=cz .cell\/(lZ scope env).names.lookup x=cz .free:=by
 have key:∀names:List (bI×jd),names.lookup x=cz .free->
   (names.map λ(n,k)=>if (k==fy&&env.scope.kind==.function&&env.kindOf n==cz .cell) then (n,jd.cell) else (n,k)).lookup x=cz .cell\/
   (names.map λ(n,k)=>if (k==fy&&env.scope.kind==.function&&env.kindOf n==cz .cell) then (n,jd.cell) else (n,k)).lookup x=cz .free:=by
  intro names
  induction names with
  |nil=>intro h;cases h
  |cons z r ih=>
   obtain⟨n,k⟩:=z;intro h;rw[aA]
   dsimp only
   rw[fU]at h;cases hx:x==n with
   |true=>
    rw[hx]at h;have hk:k=.free:=by simpa using h
    subst hk;by_cases hc:(fy==fy&&env.scope.kind==.function&&env.kindOf n==cz .cell)=p4
    ·rw[aH hc,fU,hx];exact .inl rfl
    ·rw[aM hc,fU,hx];exact .inr rfl
   |false=>
    rw[hx]at h;by_cases hc:(k==fy&&env.scope.kind==.function&&env.kindOf n==cz .cell)=p4
    ·rw[aH hc,fU,hx];exact ih h
    ·rw[aM hc,fU,hx];exact ih h
 exact key _ h
structure Has (P:bB) (w:bQ) (K:af) (mg:bI->Option aj) (base:bU) (x:bI) (k:Nat) (ps:List bI) (sp:Sp):Prop where
 ex:∃f fd,FnOk P w K mg base CX0 k f fd ps sp/\Binds K fd ps []/\fT K (.ref f)=p4/\mg x=cz (.ref f)
def Has.up{P:bB}{w:bQ}{K:af}{mg:bI->Option aj}{base:bU}{x:bI}{j k:Nat}{ps:List bI}{sp:Sp}(h:Has P w K mg base x j ps sp)(l:j<=k):Has P w K mg base x k ps sp:=by
 obtain⟨f,fd,a,b⟩:=h.ex;exact⟨f,fd,a.mono l,b⟩
section
variable {X:Cx}{k:Nat}{ps:List bI}{sp:Sp}{x:bI}{p pos:eO}{e:Expr}{es:List Expr}{t:TA}
def a7j(h:Has X.prog X.w X.K X.mg X.base x k ps sp)(hr:Room k X.A)(ha:PA X (e::es) t)(hg:Gl X x:=by rfl)(ma:(x==("__debug__":bI))=rp:=by decide)
  (he:ax (e::es) X.env=(rp,cg e X.env)::ax es X.env:=by rfl) (fM:(cj pos (ax es X.env)).any (·.1)=rp:=by rfl):PE X (.Call (.Name x p) (e::es) [] pos) (b5Z sp [] E0 t):=by
 obtain⟨f,fd,F,b,kp,m⟩:=h.ex;exact b4d F hr hg m kp b .nil b9r ha ma he fM
end
mutual
def Den(H:Hp):V->bo->Prop
 |v,.none=>v=.non
 |v,.bool b=>v=.bl b
 |v,.int i=>v=.int i
 |v,.str x=>v=.str x
 |v,.list ds=>∃a xs,v=.ref a/\H a=cz (.lst xs)/\DenAll H xs ds
 |v,.tuple ds=>∃a xs,v=.ref a/\H a=cz (.tup xs)/\DenAll H xs ds
 |v,.dict kvs=>kvs=[]/\∃a,v=.ref a/\H a=cz (.dK [])
def DenAll(H:Hp):List V->List bo->Prop
 |xs,[]=>xs=[]
 |xs,d::ds=>∃v r,xs=v::r/\Den H v d/\DenAll H r ds
end
mutual
theorem Den.mono{H H':Hp}(e:Same H H'):∀(d:bo) {v:V},Den H v d->Den H' v d
 |.none,_,h=>by simpa only [Den]using h
 |.bool _,_,h=>by simpa only [Den]using h
 |.int _,_,h=>by simpa only [Den]using h
 |.str _,_,h=>by simpa only [Den]using h
 |.list ds,_,h=>by
  simp only[Den]at h ⊢;obtain⟨a,xs,h1,h2,h3⟩:=h;exact⟨a,xs,h1,e _ _ h2,DenAll.mono e ds h3⟩
 |.tuple ds,_,h=>by
  simp only[Den]at h ⊢;obtain⟨a,xs,h1,h2,h3⟩:=h;exact⟨a,xs,h1,e _ _ h2,DenAll.mono e ds h3⟩
 |.dict _,_,h=>by
  simp only[Den]at h ⊢;obtain⟨h0,a,h1,h2⟩:=h;exact⟨h0,a,h1,e _ _ h2⟩
theorem DenAll.mono{H H':Hp}(e:Same H H'):∀(ds:List bo) {xs:List V},DenAll H xs ds->DenAll H' xs ds
 |[],_,h=>by simpa only [DenAll]using h
 |d::ds,_,h=>by
  simp only[DenAll]at h ⊢;obtain⟨v,r,h1,h2,h3⟩:=h;exact⟨v,r,h1,Den.mono e d h2,DenAll.mono e ds h3⟩
end
def Den.up{H H':Hp}{d:bo}{v:V}(h:Den H v d)(e:Same H H'):Den H' v d:=Den.mono e d h
def DenAll.up{H H':Hp}{ds:List bo}{xs:List V}(h:DenAll H xs ds)(e:Same H H'):DenAll H' xs ds:=DenAll.mono e ds h
section
variable {H:Hp}
def den_none:Den H .non .none:=by simp only[Den]
def den_bool{b:Bool}:Den H (.bl b) (.bool b):=by simp only[Den]
def den_int{i:Int}:Den H (.int i) (.int i):=by simp only[Den]
def den_list{a:aw}{xs:List V}{ds:List bo}(h:H a=cz (.lst xs))(q:DenAll H xs ds):Den H (.ref a) (.list ds):=by
 simp only[Den];exact⟨a,xs,rfl,h,q⟩
def den_tup{a:aw}{xs:List V}{ds:List bo}(h:H a=cz (.tup xs))(q:DenAll H xs ds):Den H (.ref a) (.tuple ds):=by
 simp only[Den];exact⟨a,xs,rfl,h,q⟩
def denAll_nil:DenAll H [] []:=by simp only[DenAll]
def denAll_cons{v:V}{d:bo}{xs:List V}{ds:List bo}(h:Den H v d)(q:DenAll H xs ds):DenAll H (v::xs) (d::ds):=by
 simp only[DenAll];exact⟨v,xs,rfl,h,q⟩
def Den.list_inv{v:V}{ds:List bo}(h:Den H v (.list ds)):∃a xs,v=.ref a/\H a=cz (.lst xs)/\DenAll H xs ds:=by simpa only [Den]using h
def Den.tup_inv{v:V}{ds:List bo}(h:Den H v (.tuple ds)):∃a xs,v=.ref a/\H a=cz (.tup xs)/\DenAll H xs ds:=by simpa only [Den]using h
def Den.int_inv{v:V}{i:Int}(h:Den H v (.int i)):v=.int i:=by simpa only [Den]using h
def DenAll.cons_inv{xs:List V}{d:bo}{ds:List bo}(h:DenAll H xs (d::ds)):∃v r,xs=v::r/\Den H v d/\DenAll H r ds:=by simpa only [DenAll]using h
def DenAll.nil_inv{xs:List V}(h:DenAll H xs []):xs=[]:=by simpa only [DenAll]using h
theorem DenAll.length:∀{ds:List bo} {xs:List V},DenAll H xs ds->xs.length=ds.length
 |[],_,h=>by rw[h.nil_inv];rfl
 |d::ds,_,h=>by
  obtain⟨v,r,rfl,_,h⟩:=h.cons_inv;rw[bx,bx,DenAll.length h]
theorem DenAll.get:∀{ds:List bo} {xs:List V} {i:Nat} {d:bo},DenAll H xs ds->ds[i]?=cz d->∃v,xs[i]?=cz v/\Den H v d
 |[],_,i,d,_,e=>by simp at e
 |d0::ds,_,0,d,h,e=>by
  obtain⟨v,r,rfl,h1,_⟩:=h.cons_inv;have:d0=d:=by simpa using e
  subst this;exact⟨v,rfl,h1⟩
 |d0::ds,_,i+1,d,h,e=>by
  obtain⟨v,r,rfl,_,h1⟩:=h.cons_inv;obtain⟨u,h2,h3⟩:=DenAll.get (i:=i) h1 (by simpa using e);exact⟨u,by simpa using h2,h3⟩
def DenAll.getV{ds:List bo}{xs:List V}{i:Nat}{v:V}(h:DenAll H xs ds)(e:xs[i]?=cz v):∃d,ds[i]?=cz d/\Den H v d:=by
 have hi:=(aQ.mp e).1;rw[h.length]at hi;obtain⟨u,h1,h2⟩:=h.get (ar hi);rw[e]at h1;cases h1
 exact⟨_,ar hi,h2⟩
theorem DenAll.append:∀{ds:List bo} {xs:List V} {es:List bo} {ys:List V},DenAll H xs ds->DenAll H ys es->DenAll H (xs++ys) (ds++es)
 |[],_,_,_,h,q=>by rw[h.nil_inv];exact q
 |d::ds,_,_,_,h,q=>by
  obtain⟨v,r,rfl,h1,h2⟩:=h.cons_inv;exact denAll_cons h1 (DenAll.append h2 q)
end
mutual
theorem Den.reads{P:bB}{w:bQ}{H:Hp}{h:bU}(ok:HOk P w H h):∀(d:bo) {v:V} {u:aj},d.canLay0=p4->Den H v d->RelV v u->∃as,Reads h u d as
 |.none,v,u,_,q,r=>by
  simp only[Den]at q;subst q;cases (show u=cw from r)
  exact⟨_,.none⟩
 |.bool b,v,u,_,q,r=>by
  simp only[Den]at q;subst q;cases (show u=jz b from r)
  exact⟨_,.bool b⟩
 |.int i,v,u,_,q,r=>by
  simp only[Den]at q;subst q;obtain⟨t,rfl⟩:=r;exact⟨_,.int i t⟩
 |.str x,v,u,_,q,r=>by
  simp only[Den]at q;subst q;obtain⟨t,rfl⟩:=r;exact⟨_,.str x t⟩
 |.list ds,v,u,hl,q,r=>by
  simp only[Den]at q;obtain⟨a,xs,rfl,h1,h2⟩:=q;cases (show u=bb a from r)
  obtain⟨z,cA,n,rv,e⟩:=ok a _ h1;obtain⟨as,ra⟩:=DenAll.reads ok ds hl h2 rv;exact⟨_,.list e rfl rfl (by simpa using ra)⟩
 |.tuple ds,v,u,hl,q,r=>by
  simp only[Den]at q;obtain⟨a,xs,rfl,h1,h2⟩:=q;cases (show u=bb a from r)
  obtain⟨z,cA,rv,o,e,c,n,d⟩:=ok a _ h1;obtain⟨as,ra⟩:=DenAll.reads ok ds hl h2 rv;exact⟨_,.tuple e c d (by simpa using ra)⟩
 |.dict _,_,_,hl,_,_=>nomatch hl
theorem DenAll.reads{P:bB}{w:bQ}{H:Hp}{h:bU}(ok:HOk P w H h):∀(ds:List bo) {xs:List V} {us:List aj},aS ds=p4->DenAll H xs ds->Vals xs us->∃as,jc h us ds as
 |[],xs,us,_,q,r=>by
  simp only[DenAll]at q;subst q;cases r
  exact⟨_,.nil⟩
 |d::ds,xs,us,hl,q,r=>by
  have pL:d.canLay0=p4/\aS ds=p4:=by simpa[aS]using hl
  simp only[DenAll]at q;obtain⟨v,rs,rfl,h1,h2⟩:=q;cases r with
  |cons r1 r2=>
   obtain⟨as,ra⟩:=Den.reads ok d pL.1 h1 r1;obtain⟨bs,rb⟩:=DenAll.reads ok ds pL.2 h2 r2;exact⟨_,.cons ra rb⟩
end
section
variable {X:Cx}
def tyD:bo->String
 |.int _=>"int"
 |.bool _=>"bool"
 |.list _=>"list"
 |.tuple _=>"tuple"
 |.none=>"NoneType"
 |.str _=>"str"
 |.dict _=>"dict"
def Den.ty{K:af}{H:Hp}{v:V}:∀{d:bo},Den H v d->TyOf K H v (.type (tyD d))
 |.none,h=>by simp only[Den]at h;subst h;exact .non
 |.bool _,h=>by simp only[Den]at h;subst h;exact .bl _
 |.int _,h=>by simp only[Den]at h;subst h;exact .int _
 |.str _,h=>by simp only[Den]at h;subst h;exact .str _
 |.list _,h=>by simp only[Den]at h;obtain⟨a,xs,rfl,h1,_⟩:=h;exact .lst h1
 |.tuple _,h=>by simp only[Den]at h;obtain⟨a,xs,rfl,h1,_⟩:=h;exact .tup h1
 |.dict _,h=>by simp only[Den]at h;obtain⟨_,a,rfl,h1⟩:=h;exact .dK h1
def call_listK(K:af)(h:X.K=K):CallR X (.type "list") (λxs H Q=>∃p ys,xs=[.ref p]/\(SqL K H p ys\/SqT K H p ys)/\∀l,H l=el->Q (.ref l) (upd H l (.lst ys))):=by
 subst h;exact a0F
def Inv.sysBelow(I:Inv X pins Y H s):cW<s.heap.objs.size:=by
 have h:bP<s.heap.objs.size:=(I.mod.glob.keeps I.bk).lt;exact fE (by decide) h
end
def l6(h:H p=el)(o:HO):Same H (upd H p o):=λb u q=>by rw[g9 (o5 q h)];exact q
def b1y(e:Same H H')(h:H p=el)(o:HO):Same H (upd H' p o):=λb u q=>by rw[g9 (o5 q h)];exact e b u q
def PTs(X:Cx)(ifs:List Expr)(tt:TT):Prop:=
 ∀(pins:List (aw×fN)) (s:av) (Y:St) (H:Hp) (Q:Bool->Hp->Prop),Inv X pins Y H s->tt Y H Q->
  aE (a_ X.prog X.w) X.A (forIn ifs p4 λc r=>if r=p4 then do let ok <-rJ c X.env (cg c X.env);pure (dU ok) else pure (dU r)) (TP X pins Y Q) X.xe s
def c1n:TT:=λ_ H Q=>Q p4 H
def b4n:PTs X [] c1n:=λ_ _ Y H _ I h=>wpAny_tests_nil ⟨H,I,h⟩
def b4o(h:PT X c tt):PTs X [c] tt:=λpins s Y H Q I q=>wpAny_tests_one (h pins s Y H Q I q)
section
variable {prog:bB}{w:bQ}{A:bE}{R:Gd->av->Prop}{s:av}
def a3M(I:Nat->av->Prop)
  (turn:∀n s,I n s->aE (a_ prog w) A (fW it) (λr s₁=>match r with
   |none=>R (.ok .next) s₁
   |some v=>aE (a_ prog w) A (mz target it v) (λ_ s₂=>aE (a_ prog w) A (pD target env v) (λ_ s₃=>
     aE (a_ prog w) A (forIn ifs p4 λc r=>if r=p4 then do let ok <-rJ c env (cg c env);pure (dU ok) else pure (dU r)) (λok pX=>
     if ok=p4 then aE (a_ prog w) A (cg elt env) (λx s₄=>
      aE (a_ prog w) A (call (.builtin "list.append") [acc,x]) (λ_ s₅=>∃m,m<n/\I m s₅) (λ_ _=>False) s₄) (λ_ _=>False) pX
     else ∃m,m<n/\I m pX)
     (λ_ _=>False) s₃) (λ_ _=>False) s₂) (λ_ _=>False) s₁) (λ_ _=>False) s)
  (n:Nat) (h:I n s) :
  gL (a_ prog w) A (.compLoop (.ListComp elt [⟨target,iter,ifs,0⟩] scope pos) 0 it acc env) R s:=by
 refine codeAny_loop rfl I (λn s hI=>?_) n h;show aE _ _ ((compTurn (.ListComp elt [⟨target,iter,ifs,0⟩] scope pos) 0 it acc env).onRaise (λx=>do noteFrame x env;theTreesLotGoes x)) _ _ s;refine wpAny_noted ?_;rw[compTurn_list];refine ab (wpAny_standAt (ab (dq (turn n s hI) (λr s₁ h₁=>?_) λ_ _ h'=>h'.elim)));cases r with
 |none=>exact ae h₁
 |some v=>
  refine ab (dq h₁ (λ_ s₂ h₂=>?_) λ_ _ h'=>h'.elim);refine ab (dq h₂ (λ_ s₃ h₃=>ab (dq h₃ (λok pX oJ=>?_) λ_ _ h'=>h'.elim)) λ_ _ h'=>h'.elim);cases ok with
  |false=>
   rw[aM aW]at oJ;exact ab (ae (ae ⟨rfl,oJ⟩))
  |true=>
   rw[aH rfl]at oJ;exact ab (ab (dq oJ (λx s₄ h₄=>ab (dq h₄ (λ_ s₅ h₅=>ae (ae ⟨rfl,h₅⟩)) λ_ _ h'=>h'.elim)) λ_ _ h'=>h'.elim))
end
def a5d(wi:TI)(g:TG)(tt:TT)(te:TE)(τ:St->St):TE:=λY H Q=>wi Y H λJ H1=>∀D,H1 D=el->∃W:Nat->Nat->List V->St->Hp->Prop,(∃m,W 0 m [] (τ Y) (upd H1 D (.lst [])))/\
 ∀i m ys Y' H',W i m ys Y' H'->(J.stop i H'/\Q (.ref D) H')\/
  (J.go i H'/\∃(N:V->St->Hp->Prop) (NO:St->Hp->Prop),(∀y Y3 H4,N y Y3 H4->H4 D=cz (.lst ys)/\ys.length<aU/\∃m',m'<m/\W (i+1) m' (ys++[y]) Y3 (upd H4 D (.lst (ys++[y]))))/\
   (∀Y3 H4,NO Y3 H4->∃m',m'<m/\W (i+1) m' ys Y3 H4)/\∀x H2,J.yld i H' x H2->g x Y' H2 λY3 H3=>tt Y3 H3 λb H4=>if b=p4 then te Y3 H4 λy H5=>N y Y3 H5 else NO Y3 H4)
section
variable {X:Cx}{N:List bI}{scope:gi}{cl:List (bI×aw)}{τ:St->St}{elt tg iter:Expr}{ifs:List Expr}{pos:eO}{wi:TI}{g:TG}{tt:TT}{te:TE}
def a3Y(hc:X.calm=p4)(hi:PI X tg iter wi)(C:CompIn X N scope cl τ)(hg:∀Cl s H fp,PG (O9 X N scope cl Cl s H fp) tg g)(ht:∀Cl s H fp,PTs (O9 X N scope cl Cl s H fp) ifs tt)(he:∀Cl s H fp,PE (O9 X N scope cl Cl s H fp) elt te)
  (I:Inv X pins Y H s) (h:a5d wi g tt te τ Y H R) {PP:aj->aw->Gd->av->Prop}
  (Fk:∀D Cl Hn s' o m,Inv X pins Y Hn s'->R (.ref D) Hn->a0B X pins Hn Cl->s'.heap.get? Cl=cz o->(∀v,o.data≠.cell v)->(∀h':bU,h'.get? Cl=cz o->h'.Ns Cl m)->PP (.ref D) Cl (.ok .next) s') :
  aE (a_ X.prog X.w) X.A (cg iter X.env) (λx s₁=>aE (a_ X.prog X.w) X.A (rG x) (λit s₂=>aE (a_ X.prog X.w) X.A (newList []) (λacc s₃=>
   aE (a_ X.prog X.w) X.A (newFunctionEnv scope X.env.globals cl [] X.env.qual el .none (cz X.env)) (λwY s₄=>
    gL (a_ X.prog X.w) X.A (.compStart (.ListComp elt [⟨tg,iter,ifs,0⟩] scope pos) 0 it acc {wY with scope:=lZ scope X.env}) (PP acc wY.locals) s₄) X.xe s₃) X.xe s₂) X.xe s₁) X.xe s:=by
 refine thn (hi pins s Y H _ I h) λx s1 h1=>thn h1 λyC s2 h2=>?_
 obtain⟨it,fp,tn,J,H2,rfl,I2,T,rF,f2,q⟩:=h2;refine dt (wpAny_newFunctionEnv C.ncell (by intro y hy;simp at hy) (λh₁ ou mQ=>?_) C.kind)
 dsimp only at ou mQ ⊢
 generalize zR:s2.heap.push {cls:=.type "list",dict:=el,data:=.seq ([]:List aj).toArray}=G2 at ou mQ ⊢;have hC:G2.objs.size=s2.heap.objs.size+1:=by rw[<-zR,cP]
 have BF:s2.heap.objs.size≠G2.objs.size:=by rw[hC];exact bg (kz _)
 have uv:s2.heap.objs.size<=G2.objs.size:=by rw[hC];exact fF _
 have below:∀b,b<s2.heap.objs.size->b≠G2.objs.size:=λb hb=>by rw[hC];exact bg (gj hb)
 have old:∀b o,s2.heap.get? b=cz o->h₁.get? b=cz o:=λb o e=>mQ.extBut b o (below b (aK e)) (ag _ (zR▸ag _ e))
 have mS:h₁.get? s2.heap.objs.size=cz {cls:=.type "list",dict:=el,data:=.seq ([]:List aj).toArray}:=mQ.extBut _ _ BF (ag _ (zR▸aF _ rfl));have Aa:∀b∈fp,b<s2.heap.objs.size:=λb hb=>by
  obtain⟨o,e,_⟩:=T.obj 0 _ rF b hb;exact aK e
 have BE:H2 s2.heap.objs.size=el:=I2.hok.fresh (aD _);have Fy:H2 G2.objs.size=el:=I2.hok.fresh uv;generalize xT:G2.objs.size=Cl at *;have Cw:∀b∈frs X.stack,b<s2.heap.objs.size:=λb hb=>by
  rcases az.mp (I2.stkSub b hb) with e|hb
  ·rw[e];exact I2.lt
  ·obtain⟨_,o,ho,_⟩:=I2.funs.mem hb;exact aK ho
 have yq:(O9 X N scope cl Cl s2 H2 fp).Ok:=by
  refine⟨I2.ok.mod,C.kind,I2.ok.glob,I2.ok.blt,uv,λx y c e1 e2=>I2.ok.inj x y c (C.sub x c e1) (C.sub y c e2),λx hx=>?_,λx c hx _=>(nomatch hx),λz=>I2.ok.hd z,I2.ok.frames,.inl rfl,λb hb=>⟨below b (Aa b hb),λx c e=>(f2 b hb).2.2.2.2.1 x c (C.sub x c e)⟩,
   I2.bs,bL I2.ok.bsz I2.sz,λb o e hb=>?_,λb hb z=>?_,I2.stack,I2.stkFree,I2.tabs⟩
  ·obtain⟨y,hy,rfl,ey⟩:=a0G C.ncell hx;exact C.has y hy ey
  ·rcases (f2 b hb).2.2.2.1 with z|z
   ·exact I2.ok.noex b o e z
   ·exact absurd (bA (aK e) (bL I2.ok.bsz z)) (dw _)
  ·rcases az.mp (I2.stkSub b z) with e|e
   ·exact (f2 b hb).2.1 e
   ·exact (f2 b hb).2.2.1 e
 have I4:Inv (O9 X N scope cl Cl s2 H2 fp) pins (τ Y) (upd H2 s2.heap.objs.size (.lst [])) {s2 with heap:=h₁,toks:=s2.toks+([]:List (bI×aj)).length}:=by
  have lc:=I2.loc;obtain⟨m,hn,hl⟩:=lc;refine⟨yq,rfl,I2.bare,Un.laid old (aD _) BE,⟨_,ou,λi x v e1 e2 e3=>?_⟩,λx c e=>?_,?_,λx c e=>?_,λp hp=>?_,I2.hok.laid old (aD _) ⟨b_ _,[],_,.nil,mS⟩,C.tlen Y⟩
  ·obtain⟨j,j1,j2,j3,j4⟩:=C.tval Y i x v e1 e2;have kx:(lZ scope X.env).names.lookup x=cz .cell\/(lZ scope X.env).names.lookup x=cz .free:=a5c j3;obtain⟨y,hy,FF,ey⟩:=a0G C.ncell kx;obtain⟨c,uk⟩:=C.has y hy ey;rw[FF]at uk;have zH:=C.sub x c uk;have hv:Vis X.env.scope x:=.inr j4;obtain⟨u,ru,lk⟩:=hl j x v j1 j2 hv;refine⟨u,ru,?_⟩;rcases lk with⟨k,_⟩|⟨k,c',e',z⟩
   ·rcases j4 with j4|j4
    ·rw[j4]at k;cases k
    ·rw[j4]at k;cases k
   ·rw[zH]at e';cases e'
    obtain⟨o,ho,hd⟩:=z;exact .inr ⟨kx,c,uk,⟨o,old c o ho,hd⟩⟩
  ·obtain⟨v,o,ho,hd⟩:=I2.cell x c (C.sub x c e);exact⟨v,o,old c o ho,hd⟩
  ·show upd H2 s2.heap.objs.size (.lst []) Cl=el;rw[g9 (dP BF)];exact Fy
  ·have n:=I2.freeC x c (C.sub x c e);obtain⟨v,o,ho,hd⟩:=I2.cell x c (C.sub x c e);rw[g9 (bg (aK ho))];exact n
  ·obtain⟨e,n,ne,nf,d⟩:=I2.pin p hp;refine⟨old _ _ e,by rw[g9 (bg (aK e))];exact n,below _ (aK e),λz=>?_,d⟩;rcases az.mp (I2.stkSub p.1 z) with e'|e'
   ·exact ne e'
   ·exact nf e'
 have oh:∀{H':Hp},(∀b∈fp,H' b=el)->∀b∈fp,a0B (O9 X N scope cl Cl s2 H2 fp) pins H' b:=λhn b hb=>
  ⟨hn b hb,below b (Aa b hb),yq.exfs b hb,.inl hb,(yq.exf b hb).2,(f2 b hb).2.2.2.2.2⟩
 obtain⟨W,⟨m0,w0⟩,turn⟩:=q s2.heap.objs.size BE;have loop:∀s₃:av,s₃={s2 with heap:=h₁,toks:=s2.toks+([]:List (bI×aj)).length}->
   gL (a_ X.prog X.w) X.A (.compLoop (.ListComp elt [⟨tg,iter,ifs,0⟩] scope pos) 0 (.ref it) (.ref s2.heap.objs.size) (compEnvC scope cl Cl X.env)) (PP (.ref s2.heap.objs.size) Cl) s₃:=by
  rintro s₃ rfl;refine a3M (λn s'=>∃i ys Y' H',Inv (O9 X N scope cl Cl s2 H2 fp) pins Y' H' s'/\tn i s'.heap/\(∀b∈fp,H' b=el)/\W i n ys Y' H') ?_ m0
   ⟨0,[],τ Y,_,I4,T.keep _ _ _ rF λb hb o e=>old b o e,λb hb=>by rw[g9 (bg (Aa b hb))];exact (f2 b hb).1,w0⟩
  rintro n s3 ⟨i,ys,Y3,H3,I3,vk,wN,w3⟩;rcases turn i n ys Y3 H3 w3 with⟨stop,qn⟩|⟨go,NN,NO,hN,hO,step⟩
  ·refine thn (T.done (O9 X N scope cl Cl s2 H2 fp) rfl rfl rfl hc i pins s3 Y3 H3 _ I3 (oh wN) vk stop) λr s4 ⟨hr,I5⟩=>?_
   subst hr;have lc:=I5.loc;obtain⟨m,hn,_⟩:=lc;obtain⟨o,es,ep,ho,hd,iZ⟩:=hn;have J5:Inv X pins Y H3 s4:=I2.call' (ch:=fp) I5.os I5.base I5.hok I5.bare λb hb=>⟨(f2 b hb).2.2.2.1,(f2 b hb).2.1,(f2 b hb).2.2.2.2.1,(f2 b hb).2.2.2.2.2⟩
   refine Fk _ Cl H3 s4 o m J5 qn (I2.fpOk uv I5.free) ho (λv z=>by rw[hd]at z;cases z) λh' e=>⟨o,es,ep,e,hd,iZ⟩
  ·refine thn (T.item (O9 X N scope cl Cl s2 H2 fp) rfl rfl rfl hc i pins s3 Y3 H3 _ I3 (oh wN) vk go) λr s4 ⟨u,hr,h4⟩=>?_
   subst hr;refine thn h4 λ_ s5 ⟨x,H5,I5,r5,y5,rE,z_⟩=>?_
   have Am:=I5.pinned (oh z_) (T.obj _ _ rE);refine thn (hg Cl s2 H2 fp _ s5 Y3 H5 x u _ Am r5 (step x H5 y5)) λ_ s6 ⟨Y6,H6,I6,q6⟩=>?_
   refine thn (ht Cl s2 H2 fp _ s6 Y6 H6 _ I6 q6) λok CA ⟨Gq,x_,xq⟩=>?_
   cases ok with
   |false=>
    rw[aM aW]at xq ⊢;obtain⟨m',hm,w7⟩:=hO _ _ xq;refine⟨m',hm,i+1,ys,Y6,_,x_.unpinned,T.keep _ _ _ rE λb hb o e=>(x_.pin (b,o) (au _ (au _ (F9 hb e)))).1,λb hb=>?_,w7⟩;obtain⟨o,e,d⟩:=T.obj _ _ rE b hb;exact (x_.pin (b,o) (au _ (au _ (F9 hb e)))).2.1
   |true=>
    rw[aH rfl]at xq ⊢;refine thn (he Cl s2 H2 fp _ CA Y6 Gq _ x_ xq) λyv s7 ⟨y,H7,I7,r7,q7⟩=>?_
    obtain⟨CJ,CI,m',hm,w7⟩:=hN _ _ _ q7;refine thn (a1l (X:=O9 X N scope cl Cl s2 H2 fp) _ s7 Y6 H7 (.ref s2.heap.objs.size) [y] (.ref s2.heap.objs.size) [yv] (λ_ H8=>H8=upd H7 s2.heap.objs.size (.lst (ys++[y]))) I7 rfl (.cons r7 .nil)
     ⟨_,ys,y,rfl,rfl,CJ,CI,rfl⟩) λ_ s8 ⟨_,H8,I8,_,e8⟩=>?_
    subst e8;refine⟨m',hm,i+1,ys++[y],Y6,_,I8.unpinned,T.keep _ _ _ rE λb hb o e=>(I8.pin (b,o) (au _ (au _ (F9 hb e)))).1,λb hb=>?_,w7⟩;obtain⟨o,e,d⟩:=T.obj _ _ rE b hb;exact (I8.pin (b,o) (au _ (au _ (F9 hb e)))).2.1
 have Cy:tn 0 h₁:=T.keep _ _ _ rF λb hb o e=>old b o e
 exact codeAny_compStart_list (loop _ rfl) (T.self X.A 0 {s2 with heap:=h₁,toks:=s2.toks+([]:List (bI×aj)).length} _ _ Cy (loop _ rfl))
end
def A6(env:oS):List (bI×jd)->List (bI×aw)->List (bI×aw)
 |[],cs=>cs
 | (n,k)::r,cs=>A6 env r (if k==.free then (n,(env.cells.lookup n).getD 0)::cs else cs)
theorem W3{env:oS}:∀(names:List (bI×jd)) (cs:List (bI×aw)),(∀y∈names,y.2=.free->∃c,env.cells.lookup y.1=cz c)->
  (forIn names cs λ(x:bI×jd) (cs:List (bI×aw))=>(if x.2==.free then do let a <-cellOf env x.1;pure (dU ((x.1,a)::cs)) else pure (dU cs):Sem (ForInStep (List (bI×aw)))))=pure (A6 env names cs)
 |[],cs,_=>by rw[jO];rfl
 | (n,k)::r,cs,h=>by
  rw[jk]
  dsimp only
  by_cases hk:(k==fy)=p4
  ·obtain⟨c,hc⟩:=h (n,k) ak (by simpa using hk);rw[aH hk];have e:cellOf env n=pure c:=by unfold cellOf;rw[hc]
   rw[e];have:=W3 r ((n,c)::cs) λy hy=>h y (aq _ hy)
   have e2:A6 env ((n,k)::r) cs=A6 env r ((n,c)::cs):=by
    show A6 env r (if k==.free then (n,(env.cells.lookup n).getD 0)::cs else cs)=_;rw[aH hk,hc];rfl
   rw[e2,<-this];simp only[pure_bind]
  ·rw[aM hk];have:=W3 r cs λy hy=>h y (aq _ hy)
   have e2:A6 env ((n,k)::r) cs=A6 env r cs:=by
    show A6 env r (if k==.free then (n,(env.cells.lookup n).getD 0)::cs else cs)=_;rw[aM hk]
   rw[e2,<-this];simp only[pure_bind]
def a7k{scope:gi}{env:oS}(h:∀y∈scope.names,y.2=.free->∃c,env.cells.lookup y.1=cz c):pC scope env=pure (A6 env scope.names []):=by
 have:=W3 scope.names [] h;rw[<-this];unfold pC;simp
theorem a0m{env:oS}:∀(names:List (bI×jd)) (cs:List (bI×aw)),(∀y∈names,y.2=.free->∃c,env.cells.lookup y.1=cz c)->(∀p∈cs,env.cells.lookup p.1=cz p.2)->
  (∀p∈A6 env names cs,env.cells.lookup p.1=cz p.2)/\(∀p∈cs,p∈A6 env names cs)/\∀y∈names,y.2=.free->∃c,(y.1,c)∈A6 env names cs
 |[],cs,_,hc=>⟨hc,λ_ h=>h,λy hy=>(nomatch hy)⟩
 | (n,k)::r,cs,h,hc=>by
  by_cases hk:(k==fy)=p4
  ·obtain⟨c,e⟩:=h (n,k) ak (by simpa using hk);have e2:A6 env ((n,k)::r) cs=A6 env r ((n,c)::cs):=by
    show A6 env r (if k==.free then (n,(env.cells.lookup n).getD 0)::cs else cs)=_;rw[aH hk,e];rfl
   rw[e2];obtain⟨a,b,d⟩:=a0m r ((n,c)::cs) (λy hy=>h y (aq _ hy)) λp hp=>by
    rcases az.mp hp with z|z
    ·rw[z];exact e
    ·exact hc p z
   refine⟨a,λp hp=>b p (aq _ hp),λy hy hf=>?_⟩;rcases az.mp hy with z|z
   ·rw[z];exact⟨c,b _ ak⟩
   ·exact d y z hf
  ·have e2:A6 env ((n,k)::r) cs=A6 env r cs:=by
    show A6 env r (if k==.free then (n,(env.cells.lookup n).getD 0)::cs else cs)=_;rw[aM hk]
   rw[e2];obtain⟨a,b,d⟩:=a0m r cs (λy hy=>h y (aq _ hy)) hc;refine⟨a,b,λy hy hf=>?_⟩;rcases az.mp hy with z|z
   ·rw[z]at hf;exact absurd (by simpa using hf) hk
   ·exact d y z hf
theorem a0b:∀{l:List (bI×aw)},(x,c)∈l->∃c',l.lookup x=cz c'
 |[],h=>nomatch h
 | (y,d)::l,h=>by
  rw[fU];cases e:x==y with
  |true=>exact⟨d,rfl⟩
  |false=>
   rcases az.mp h with z|z
   ·cases z;simp at e
   ·exact a0b z
def Y0(scope:gi)(okind:bI->Option jd)(ys:List bI)(js:List Nat)(XN:List bI):Bool:=
 scope.kind==.function&&scope.names.all (λy=>y.2 !=.cell&&(y.2 !=.local||scope.names.lookup y.1==cz .local)&&(y.2 !=.free||(okind y.1==cz .cell||okind y.1==cz .free))) &&
 ys.length==js.length&&(ys.zip js).all λp=>XN[p.2]?==cz p.1&&scope.names.lookup p.1==cz .free&&(okind p.1==cz .cell||okind p.1==cz .free)
def a1m(tn:List bI)(js:List Nat):St->St:=λY=>aR tn.length el++js.map λj=>(Y[j]?).getD el
def a3Z{X:Cx}{scope:gi}(ok:X.Ok)(h:Y0 scope X.env.kindOf ys js X.N=p4):CompIn X (tn++ys) scope (A6 X.env scope.names []) (a1m tn js):=by
 unfold Y0 at h;rw[ao,ao,ao,aY,aY]at h;obtain⟨⟨⟨hk,ha⟩,hl⟩,hz⟩:=h;have mD:∀y∈scope.names,y.2≠.cell:=λy hy e=>by
  have:=ha y hy;rw[e]at this;simp at this
 have zh:∀y∈scope.names,y.2=.local->scope.names.lookup y.1=cz .local:=λy hy e=>by
  have:=ha y hy;rw[e]at this;simpa using this
 have ny:∀y∈scope.names,y.2=.free->∃c,X.env.cells.lookup y.1=cz c:=λy hy e=>by
  have:=ha y hy;rw[e]at this;refine ok.has y.1 ?_;simpa using this
 obtain⟨a,_,d⟩:=a0m scope.names [] ny λp hp=>(nomatch hp)
 refine⟨a7k ny,by simpa using hk,mD,zh,λx c e=>a _ (bZ e),λy hy e=>?_,λY=>?_,λY i x v h1 h2=>?_⟩
 ·obtain⟨c,hc⟩:=d y hy e;exact a0b hc
 ·have:ys.length=js.length:=by simpa using hl
  unfold a1m;simp[this]
 ·unfold a1m at h2;by_cases hi:i<tn.length
  ·rw[gN (by simpa using hi),tw]at h2
   split at h2<;>cases h2
  ·rw[fg (by simpa using hi),gf,bc]at h2;rw[fg (by lia)]at h1;cases hj:js[i-tn.length]? with
   |none=>rw[hj]at h2;cases h2
   |some j=>
    rw[hj]at h2;have h3:(Y[j]?).getD el=cz v:=by simpa using h2
    have jF:(x,j)∈ys.zip js:=by
     have hlen:=(aQ.mp h1).1;have Bh:=(aQ.mp hj).1;rw[bF];refine⟨i-tn.length,?_⟩;rw[gM];exact⟨h1,hj⟩
    have:=hz _ jF;rw[ao,ao,ia]at this;obtain⟨⟨e1,e2⟩,e3⟩:=this;refine⟨j,by simpa using e1,?_,by simpa using e2,by simpa using e3⟩;cases q:Y[j]? with
    |none=>rw[q]at h3;cases h3
    |some o=>rw[q]at h3;have:o=cz v:=h3;rw[this]
section
variable {X:Cx}{tn ys:List bI}{js:List Nat}{scope:gi}{elt tg iter:Expr}{ifs:List Expr}{pos:eO}{wi:TI}{g:TG}{tt:TT}{te:TE}
def b1z(hc:X.calm=p4)(hi:PI X tg iter wi)(C:Y0 scope X.env.kindOf ys js X.N=p4)(hg:∀cl Cl s H fp,PG (O9 X (tn++ys) scope cl Cl s H fp) tg g)(ht:∀cl Cl s H fp,PTs (O9 X (tn++ys) scope cl Cl s H fp) ifs tt)(he:∀cl Cl s H fp,PE (O9 X (tn++ys) scope cl Cl s H fp) elt te)
  (hs:∀x,eV iter X.env x=pure x:=by intro _;rfl):PE X (.ListComp elt [⟨tg,iter,ifs,0⟩] scope pos) (a5d wi g tt te (a1m tn js)):=by
 intro pins s Y H Q I h;have C:=a3Z (tn:=tn) I.ok C;rw[eval_ListComp];refine yg (use:=el) rfl hs C.clos C.kind C.names (a3Y hc hi C (hg _) (ht _) (he _) I h (PP:=λacc Cl=>compPost (a_ X.prog X.w) X.A X.xe el (EP X pins Y Q) acc Cl) ?_);intro D Cl Hn s' o m I' hq F ho hd pB;refine⟨m,pB _ ho,λh' sJ=>⟨.ref D,Hn,?_,rfl,hq⟩⟩;exact I'.turned (t':=s'.toks) (λb ob hb e=>(sJ.2 b hb).trans e) F.1 F.2.1 F.2.2.2.1 F.2.2.2.2.1 F.2.2.2.2.2
def a5O{py mM:eO}(hc:X.calm=p4)(hN:X.N.Nodup)(hy:X.N[i]?=cz y)(hx:Loc X.env.scope y)(hi:PI X tg iter wi)(C:Y0 scope X.env.kindOf ys js X.N=p4)
  (hg:∀cl Cl s H fp,PG (O9 X (tn++ys) scope cl Cl s H fp) tg g) (ht:∀cl Cl s H fp,PTs (O9 X (tn++ys) scope cl Cl s H fp) ifs tt) (he:∀cl Cl s H fp,PE (O9 X (tn++ys) scope cl Cl s H fp) elt te)
  (oq:eU (.ListComp elt [⟨tg,iter,ifs,0⟩] scope pos) (cz (.Name y py)) mM.line X.env=pure p4:=by rfl) (hs:∀x,eV iter X.env x=pure x:=by intro _;rfl)
  (hf:autoParam (X.fn y=p4\/X.env.scope.names.lookup y=cz .local) ZZ._auto_1) :
  PS X (.Assign [.Name y py] (.ListComp elt [⟨tg,iter,ifs,0⟩] scope pos) mM) (b6L (a5d wi g tt te (a1m tn js)) (R0 i)):=by
 intro pins s Y H D I h;have C:=a3Z (tn:=tn) I.ok C;rw[exec_Assign_Name_used _ _ _ _ oq];refine ab (wpAny_standAt (ab ?_));show aE _ X.A (do let _ <-comprehension (.ListComp elt [⟨tg,iter,ifs,0⟩] scope pos) scope X.env _ (newList []) rp (cg iter X.env) (cz (pD (.Name y py) X.env))) _ _ s;refine ab (dq (yg (use:=cz (pD (.Name y py) X.env)) (Q:=λ_ s'=>SP X pins D .next s') rfl hs C.clos C.kind C.names
  (a3Y hc hi C (hg _) (ht _) (he _) I h (PP:=λacc Cl=>compPost (a_ X.prog X.w) X.A X.xe (cz (pD (.Name y py) X.env)) (λ_ s'=>SP X pins D .next s') acc Cl) ?_)) (λ_ s' hq=>ae (ae hq)) λ_ _ e=>e)
 intro Dl Cl Hn s' o m I' hq F ho hd pB;have I1:=I'.pinned (fp:=[Cl]) (λb hb=>by rw[ai.mp hb];exact F) (λb hb=>by rw[ai.mp hb];exact⟨o,ho,hd⟩);show aE _ X.A (pD (.Name y py) X.env (.ref Dl)) _ _ _;refine wpAny_assign_Name (a2x I1 hN hy hx (v:=.ref Dl) rfl (λs2 I2=>?_) hf);have e2:=(I2.pin (Cl,o) (au _ (au _ (F9 (ai.mpr rfl) ho)))).1;refine⟨m,pB _ e2,λh' sJ=>⟨Y.set i (cz (.ref Dl)),Hn,?_,hq⟩⟩;exact I2.unpinned.turned (t':=s2.toks) (λb ob hb e=>(sJ.2 b hb).trans e) F.1 F.2.1 F.2.2.2.1 F.2.2.2.2.1 F.2.2.2.2.2
end
end L2
namespace VS
open PySem PySem.Spec L2
abbrev D:=bo
mutual
def D8:D->Bool
 |.int _=>p4
 |.tuple ds=>u4 ds
 |.none|.bool _|.str _|.list _|.dict _=>rp
def u4:List D->Bool
 |[]=>p4
 |d::ds=>D8 d&&u4 ds
end
mutual
def hashD:D->Int
 |.int i=>jY i
 |.tuple ds=>reduceHash (eu (C7 ds))
 |.none|.bool _|.str _|.list _|.dict _=>0
def C7:List D->List Int
 |[]=>[]
 |d::ds=>hashD d::C7 ds
end
mutual
def u9:D->Nat
 |.int _=>1
 |.tuple ds=>R4 ds+1
 |.none|.bool _|.str _|.list _|.dict _=>0
def R4:List D->Nat
 |[]=>0
 |d::ds=>u9 d+R4 ds
end
mutual
theorem W4:∀d:D,D8 d=p4->d.canLay0=p4
 |.int _,_=>by simp only[cE]
 |.tuple ds,h=>by
  simp only[D8]at h;simp only[cE];exact a1G ds h
 |.none,h|.bool _,h|.str _,h|.list _,h|.dict _,h=>by simp only[D8]at h;cases h
theorem a1G:∀ds:List D,u4 ds=p4->aS ds=p4
 |[],_=>by simp only[aS]
 |d::ds,h=>by
  simp only[u4,ao]at h;simp only[aS,ao];exact⟨W4 d h.1,a1G ds h.2⟩
end
mutual
theorem C8:∀a b:D,D8 a=p4->D8 b=p4->(aB a b=p4↔a=b)
 |.int i,b,_,hb=>by
  cases b with
  |int j=>
   show (i==j)=p4↔_;rw[kG];exact⟨λe=>by rw[e],λe=>by injection e⟩
  |tuple ds=>simp[aB]
  |_=>simp only[D8]at hb;cases hb
 |.tuple xs,b,ha,hb=>by
  cases b with
  |int j=>simp[aB]
  |tuple ys=>
   simp only[D8]at ha hb;simp only[aB];rw[a1H xs ys ha hb];exact⟨λe=>by rw[e],λe=>by injection e⟩
  |_=>simp only[D8]at hb;cases hb
 |.none,b,h,_|.bool _,b,h,_|.str _,b,h,_|.list _,b,h,_|.dict _,b,h,_=>by simp only[D8]at h;cases h
theorem a1H:∀a b:List D,u4 a=p4->u4 b=p4->(cQ a b=p4↔a=b)
 |[],[],_,_=>by simp[cQ]
 |[],_::_,_,_=>by simp[cQ]
 |_::_,[],_,_=>by simp[cQ]
 |x::xs,y::ys,ha,hb=>by
  simp only[u4,ao]at ha hb;simp only[cQ,ao];rw[C8 x y ha.1 hb.1,a1H xs ys ha.2 hb.2]
  constructor
  ·rintro⟨rfl,rfl⟩;rfl
  ·intro e;injection e with e1 e2;exact⟨e1,e2⟩
end
mutual
theorem a2B{h h':bU}{es ep}(ho:h.get? d=cz o)(hd:o.data=.dict es ep)(hs:cF d h h'):∀(k:D) {v:aj} {as:List aw},D8 k=p4->Reads h v k as->Reads h' v k as
 |.int _,_,_,_,r=>by cases r;exact .int _ _
 |.tuple ds,_,_,hk,r=>by
  simp only[D8]at hk;cases r with
  |@tuple a oo vs n _ as c1 c2 c3 c4=>
   have gK:a≠d:=by
    rintro rfl;obtain rfl:oo=o:=aL (c1.symm.trans ho);rw[hd]at c3;exact nomatch c3
   exact .tuple ((hs.2 a gK).trans c1) c2 c3 (a0c ho hd hs ds hk c4)
 |.none,_,_,h,_|.bool _,_,_,h,_|.str _,_,_,h,_|.list _,_,_,h,_|.dict _,_,_,h,_=>by simp only[D8]at h;cases h
theorem a0c{h h':bU}{es ep}(ho:h.get? d=cz o)(hd:o.data=.dict es ep)(hs:cF d h h'):∀(ks:List D) {vs:List aj} {as:List aw},u4 ks=p4->jc h vs ks as->jc h' vs ks as
 |[],_,_,_,r=>by cases r;exact .nil
 |k::ks,_,_,hk,r=>by
  simp only[u4,ao]at hk;cases r with
  |cons r1 r2=>exact .cons (a2B ho hd hs k hk.1 r1) (a0c ho hd hs ks hk.2 r2)
end
section
variable {prog:bB}{w:bQ}{E:aj->av->Prop}
mutual
theorem a2C:∀(k:D) {A:bE} {s:av} {v:aj} {as:List aw} {Q:Int->av->Prop},D8 k=p4->A.units+k.depth<cV->Reads s.heap v k as->Q (hashD k) {s with toks:=s.toks+u9 k}->aE (a_ prog w) A (pyHash v) Q E s
 |.int i,A,s,v,as,Q,_,_,r,h=>by
  cases r
  simp only[hashD,u9]at h;exact wpAny_pyHash_int h
 |.tuple ds,A,s,v,as,Q,hk,hu,r,h=>by
  simp only[D8]at hk;simp only[fq]at hu;simp only[hashD,u9]at h;cases r with
  |@tuple a o items n _ as ho hc hd hi=>
   have hT:s.TypeIs (.ref a) "tuple":=⟨o,ho,hc⟩;unfold pyHash
   first|unfold pyHashByItsType|skip
   first|refine ab (wpAny_cRoomFor_or (.inr (by lia)) ?_)|skip
   refine ab (dA hT kX.lookup ?_);show aE _ _ (if (cz (Ag "tuple.__hash__")==cz cw)=p4 then _ else _) Q E s;rw[aM (by rw[beq_builtin_none];exact aW)];refine ab (dA hT kX.lookup ?_);show aE _ _ (callSpecialIfBoundUnlessNone? (.ref a) "__hash__" _ >>= _) Q E s;refine ab (wpAny_callSpecialIfBoundUnlessNone?_slot hT kX (bD kX hT F.entry_tuple_hash ?_ (F.args_tuple_hash_1 _)));show aE _ _ (Builtin.Tuple.tupleItemsOf (.ref a) >>= _) _ _ s;refine ab (wpAny_tupleItemsOf ho hd ?_);refine ab ?_;rw[<-mY];refine a4a ds (A:=A.in1) (acc:=#[]) hk (by show A.units+1+_<_;lia) hi ?_;show aE _ _ (retInt (eu _)) _ _ _;simp only[Array.toList_append,cB];refine tF ?_;show aE _ _ (if (decide (-(2:Int)^63<=eu (C7 ds))&&decide (eu (C7 ds)<2^63))=p4 then _ else _) Q E _;unfold reduceHash at h;by_cases hr:(decide (-(2:Int)^63<=eu (C7 ds))&&decide (eu (C7 ds)<2^63))=p4
   ·rw[aH hr];rw[aH hr]at h;exact ae (by simpa[mJ]using h)
   ·rw[aM hr];rw[aM hr]at h;exact ab (dW (ae (by simpa[mJ]using h)))
 |.none,_,_,_,_,_,h,_,_,_|.bool _,_,_,_,_,_,h,_,_,_|.str _,_,_,_,_,_,h,_,_,_|.list _,_,_,_,_,_,h,_,_,_|.dict _,_,_,_,_,_,h,_,_,_=>by simp only[D8]at h;cases h
theorem a4a:∀(ks:List D) {A:bE} {s:av} {vs:List aj} {as:List aw} {acc:Array Int} {Q:Array Int->av->Prop},u4 ks=p4->A.units+dB ks<cV->jc s.heap vs ks as->Q (acc++(C7 ks).toArray) {s with toks:=s.toks+R4 ks}->
  aE (a_ prog w) A (forIn vs acc λx r=>do let r1 <-pyHash x;pure kN;pure (dU (r.push r1))) Q E s
 |[],A,s,vs,as,acc,Q,_,_,r,h=>by
  cases r
  rw[jO];exact ae (by simpa[C7,R4]using h)
 |k::ks,A,s,vs,as,acc,Q,hk,hu,r,h=>by
  simp only[u4,ao]at hk;simp only[dB]at hu;cases r with
  |cons r1 r2=>
   rw[jk];refine ab (ab (a2C k hk.1 (by lia) r1 ?_));refine ab (ae (ae ?_));refine a4a ks (s:={s with toks:=s.toks+u9 k}) hk.2 (by lia) r2 ?_;simp only[C7,R4]at h;have e:(acc.push (hashD k))++(C7 ks).toArray=acc++(hashD k::C7 ks).toArray:=by simp
   rw[e];simpa[mJ]using h
end
end
section
variable {prog:bB}{w:bQ}{A:bE}{E:aj->av->Prop}
mutual
theorem a4b:∀(k:D) (n:Nat) {s:av} {v:aj} {as:List aw} {Q:Bool->av->Prop},D8 k=p4->k.depth<=n->Reads s.heap v k as->Q p4 s->aE (a_ prog w) A (eqIsQuiet n v) Q E s
 |.int i,n,s,v,as,Q,_,_,r,h=>by
  cases r
  rw[eqIsQuiet_byValue n (v:=.int i _) rfl];exact ae h
 |.tuple ds,0,s,v,as,Q,_,hn,_,_=>by simp only[fq]at hn;lia
 |.tuple ds,n+1,s,v,as,Q,hk,hn,r,h=>by
  simp only[D8]at hk;simp only[fq]at hn;cases r with
  |@tuple a o items m _ as ho hc hd hi=>
   have hT:s.TypeIs (.ref a) "tuple":=⟨o,ho,hc⟩;unfold eqIsQuiet;refine ab (dA hT F.slot_tuple_eq.lookup ?_);show aE _ _ (isInstance (.ref a) (.type "tuple") >>= _) _ _ s;refine ab (fA hT isSubtype_tuple_tuple ?_);simp only[iX,cN,fO];refine ab (dI ho hd ?_);refine ab ?_;show aE _ _ (forIn items _ _) _ _ s;rw[<-mY];refine wpAny_forIn_list _ (λrest r s'=>r.1=el/\s'=s/\∃ks bs,u4 ks=p4/\dB ks<=n/\(∀k∈ks,k∈ds)/\jc s.heap rest ks bs) _ ?_ ?_ _ _ ⟨rfl,rfl,ds,as,hk,by lia,λk hk=>hk,hi⟩
   ·rintro v rest r s' ⟨hr,rfl,ks,bs,k1,k2,k3,k4⟩;cases k4 with
    |@cons _ _ d' iB _ _ r1 r2=>
     simp only[u4,ao]at k1;simp only[dB]at k2;refine ab (a4c ds n hk (by lia) d' (k3 d' ak) r1 ?_);simp only[iX,cN,fO];exact ae ⟨rfl,rfl,_,_,k1.2,by lia,λk hk=>k3 k (aq _ hk),r2⟩
   ·rintro⟨r1,r2⟩ s' ⟨hr,rfl,_⟩;simp only at hr;subst hr;exact ae h
 |.none,_,_,_,_,_,h,_,_,_|.bool _,_,_,_,_,_,h,_,_,_|.str _,_,_,_,_,_,h,_,_,_|.list _,_,_,_,_,_,h,_,_,_|.dict _,_,_,_,_,_,h,_,_,_=>by simp only[D8]at h;cases h
theorem a4c:∀(ds:List D) (n:Nat),u4 ds=p4->dB ds<=n->∀k∈ds,∀{s:av} {v:aj} {as:List aw} {Q:Bool->av->Prop},Reads s.heap v k as->Q p4 s->aE (a_ prog w) A (eqIsQuiet n v) Q E s
 |[],n,_,_,k,hk,s,v,as,Q,r,h=>nomatch hk
 |d::ds,n,nX,hn,k,hk,s,v,as,Q,r,h=>by
  simp only[u4,ao]at nX;simp only[dB]at hn;rcases az.mp hk with e|hk
  ·rw[e]at r;exact a4b d n nX.1 (by lia) r h
  ·exact a4c ds n nX.2 (by lia) k hk r h
end
end
noncomputable def a9O:DecidableEq D:=λa b=>Classical.propDecidable (a=b)
noncomputable def b1A(prog:bB)(w:bQ):@HeapKind prog w D a9O:=
 letI:DecidableEq D:=a9O
 {
  is:=λh k a=>D8 k=p4/\k.depth<=7/\∃as,Reads h (.ref a) k as
  hash:=hashD
  draws:=u9
  room:=λA=>A.units+8<cV
  inj:=λ⟨hx,_,_,r⟩ ⟨_,_,_,r'⟩=>SeqAt.Reads.unique _ _ _ _ _ (W4 _ hx) r r'
  keeps:=λ⟨hx,hd,_,r⟩ ho lD hs=>⟨hx,hd,_,a2B ho lD hs _ hx r⟩
  pyHash:=λhu ⟨hx,hd,_,r⟩ h=>a2C _ hx (by lia) r h
  eqBool:=λ{A E s x y a b Q} hu ⟨hx,hd,_,r⟩ ⟨hy,lD,_,r'⟩ h=>by
   refine r_ x y A s _ _ _ _ r r' (W4 _ hx) (W4 _ hy) (by have:=pG x.depth y.depth;lia) _ _ _ _ ?_;have e:aB x y=@decide (x=y) (a9O x y):=by
    by_cases c:x=y
    ·rw[@aI _ (a9O x y) c];exact (C8 x y hx hy).mpr c
    ·rw[@aV _ (a9O x y) c];cases q:aB x y with
     |false=>rfl
     |true=>exact absurd ((C8 x y hx hy).mp q) c
   rw[e];exact h
  quiet:=λ⟨hx,hd,_,r⟩ h=>a4b _ 8 hx (by lia) r h
 }
def P5(e:D×V×V)(x:eX):Prop:=x.hash=hashD e.1/\RelV e.2.1 x.key/\RelV e.2.2 x.val
def a0n:D->Bool
 |.tuple [.int 0]=>p4
 |_=>rp
def a5P:V->Bool
 |.non=>p4
 |_=>rp
def J0:List (D×V×V)->Bool
 |[]=>rp
 |e::_=>a0n e.1&&a5P e.2.2
def b7f:D->Bool
 |.none=>p4
 |_=>rp
def T4:List (D×D)->Bool
 |[]=>rp
 |p::_=>a0n p.1&&b7f p.2
def e6(a:aw)(es:List (D×V×V)):HO:=.ext λh=>(a==cW)=rp/\es.length<=aU/\(es.map (·.1)).Nodup/\∃o ents ep,h.get? a=cz o/\o.ExactDict/\o.data=.dict ents ep/\e_ P5 es ents.toList/\(J0 es=rp->ep=es.length)
def Mu:HO->Prop
 |.lst _=>True
 |.dK _=>True
 |.ext _=>True
 |_=>False
abbrev MuO:={o:HO // Mu o}
def keyOk(kt:Bool)(k:D):Prop:=D8 k=p4/\k.depth<=7/\(kt=p4->∃ds,k=.tuple ds)/\(kt=rp->∃i,k=.int i)
end VS
namespace VS
open PySem L2
mutual
def imm:bo->Bool
 |.none=>p4
 |.bool _=>p4
 |.int _=>p4
 |.str _=>p4
 |.list _=>rp
 |.tuple ds=>g8 ds
 |.dict _=>rp
def g8:List bo->Bool
 |[]=>p4
 |d::ds=>imm d&&g8 ds
end
def SqX(K:af)(H:Hp)(a:aw)(xs:List V):Prop:=
 Rd H a (.lst xs)\/∃(cA:List aj) (n:Nat),K.lookup a=cz {cls:=.type "list",data:=.seq cA.toArray n}/\cA.length<=aU/\Vals xs cA
def SqX.l(h:SqX K H a xs):SqL K H a xs:=by
 rcases h with h|⟨cA,n,h1,h2,h3⟩
 ·exact .inl h
 ·exact .inr ⟨_,cA.toArray,n,h1,rfl,rfl,rfl,by simpa using h2,by simpa using h3⟩
theorem SqX.ok{X:Cx}(h:SqX X.K H a xs)(I:Inv X pins Y H s):xs.length<=aU/\∃(cA:List aj) (n:Nat),Vals xs cA/\s.heap.get? a=cz {cls:=.type "list",data:=.seq cA.toArray n}:=by
 rcases h with h|⟨cA,n,h1,h2,h3⟩
 ·exact h.ok I.hok
 ·exact⟨by rw[h3.length];exact h2,cA,n,h3,I.kIn _ _ h1⟩
mutual
theorem W5:∀d:bo,D8 d=p4->imm d=p4
 |.int _,_=>by simp only[imm]
 |.tuple ds,h=>by
  simp only[D8]at h;simp only[imm];exact a1I ds h
 |.none,h|.bool _,h|.str _,h|.list _,h|.dict _,h=>by simp only[D8]at h;cases h
theorem a1I:∀ds:List bo,u4 ds=p4->g8 ds=p4
 |[],_=>by simp only[g8]
 |d::ds,h=>by
  simp only[u4,ao]at h;simp only[g8,ao];exact⟨W5 d h.1,a1I ds h.2⟩
end
mutual
def Den(K:af)(H:Hp):V->bo->Prop
 |v,.none=>v=.non
 |v,.bool b=>v=.bl b
 |v,.int i=>v=.int i
 |v,.str x=>v=.str x
 |v,.list ds=>∃a xs,v=.ref a/\SqX K H a xs/\DenAll K H xs ds
 |v,.tuple ds=>∃a xs,v=.ref a/\SqT K H a xs/\DenAll K H xs ds
 |v,.dict kvs=>∃a es,v=.ref a/\H a=cz (e6 a es)/\DenKV K H es kvs
def DenAll(K:af)(H:Hp):List V->List bo->Prop
 |xs,[]=>xs=[]
 |xs,d::ds=>∃v r,xs=v::r/\Den K H v d/\DenAll K H r ds
def DenKV(K:af)(H:Hp):List (bo×V×V)->List (bo×bo)->Prop
 |es,[]=>es=[]
 |es,(k,d)::r=>∃e q,es=e::q/\e.1=k/\Den K H e.2.1 k/\Den K H e.2.2 d/\DenKV K H q r
end
def Rd.up(h:Rd H a u)(e:Same H H'):Rd H' a u:=by
 rcases h with h|⟨o,h⟩
 ·exact .inl (e _ _ h)
 ·exact .inr ⟨o,e _ _ h⟩
def T5(h:SqX K H a xs)(e:Same H H'):SqX K H' a xs:=h.imp (λq=>Rd.up q e) id
def Q5(h:SqT K H a xs)(e:Same H H'):SqT K H' a xs:=h.imp (λq=>Rd.up q e) id
mutual
theorem Den.mono{K:af}{H H':Hp}(e:Same H H'):∀(d:bo) {v:V},Den K H v d->Den K H' v d
 |.none,_,h=>by simpa only [Den]using h
 |.bool _,_,h=>by simpa only [Den]using h
 |.int _,_,h=>by simpa only [Den]using h
 |.str _,_,h=>by simpa only [Den]using h
 |.list ds,_,h=>by
  simp only[Den]at h ⊢;obtain⟨a,xs,h1,h2,h3⟩:=h;exact⟨a,xs,h1,T5 h2 e,DenAll.mono e ds h3⟩
 |.tuple ds,_,h=>by
  simp only[Den]at h ⊢;obtain⟨a,xs,h1,h2,h3⟩:=h;exact⟨a,xs,h1,Q5 h2 e,DenAll.mono e ds h3⟩
 |.dict kvs,_,h=>by
  simp only[Den]at h ⊢;obtain⟨a,es,h1,h2,h3⟩:=h;exact⟨a,es,h1,e _ _ h2,DenKV.mono e kvs h3⟩
theorem DenAll.mono{K:af}{H H':Hp}(e:Same H H'):∀(ds:List bo) {xs:List V},DenAll K H xs ds->DenAll K H' xs ds
 |[],_,h=>by simpa only [DenAll]using h
 |d::ds,_,h=>by
  simp only[DenAll]at h ⊢;obtain⟨v,r,h1,h2,h3⟩:=h;exact⟨v,r,h1,Den.mono e d h2,DenAll.mono e ds h3⟩
theorem DenKV.mono(e:Same H H'):∀(kvs:List (bo×bo)) {es:List (bo×V×V)},DenKV K H es kvs->DenKV K H' es kvs
 |[],_,h=>by simpa only [DenKV]using h
 | (k,d)::r,_,h=>by
  simp only[DenKV]at h ⊢;obtain⟨x,q,h1,h2,h3,h4,h5⟩:=h;exact⟨x,q,h1,h2,Den.mono e k h3,Den.mono e d h4,DenKV.mono e r h5⟩
end
section
variable {K:af}{H H':Hp}
def Den.up{d:bo}{v:V}(h:Den K H v d)(e:Same H H'):Den K H' v d:=Den.mono e d h
def DenAll.up{ds:List bo}{xs:List V}(h:DenAll K H xs ds)(e:Same H H'):DenAll K H' xs ds:=DenAll.mono e ds h
def den_none:Den K H .non .none:=by simp only[Den]
def den_bool{b:Bool}:Den K H (.bl b) (.bool b):=by simp only[Den]
def den_int{i:Int}:Den K H (.int i) (.int i):=by simp only[Den]
def den_list{a:aw}{xs:List V}{ds:List bo}(h:SqX K H a xs)(q:DenAll K H xs ds):Den K H (.ref a) (.list ds):=by
 simp only[Den];exact⟨a,xs,rfl,h,q⟩
def den_tup{a:aw}{xs:List V}{ds:List bo}(h:SqT K H a xs)(q:DenAll K H xs ds):Den K H (.ref a) (.tuple ds):=by
 simp only[Den];exact⟨a,xs,rfl,h,q⟩
theorem a5Q:∀{es:List (bo×V×V)} {ds:List bo},(∀e∈es,Den K H e.2.1 e.1)->DenAll K H (es.map (·.2.2)) ds->DenKV K H es ((es.map (·.1)).zip ds)
 |[],ds,_,h=>by
  cases ds with
  |nil=>simp only[cY,B_,DenKV]
  |cons d ds=>simp only[DenAll]at h;obtain⟨v,r,h1,_⟩:=h;cases h1
 |e::es,ds,hk,h=>by
  cases ds with
  |nil=>simp only[DenAll]at h;cases h
  |cons d ds=>
   simp only[DenAll]at h;obtain⟨v,r,h1,h2,h3⟩:=h;cases h1
   simp only[aA,dZ,DenKV];exact⟨e,es,rfl,rfl,hk e ak,h2,a5Q (λe he=>hk e (aq _ he)) h3⟩
def a4d(h:H a=cz (e6 a es))(hk:∀e∈es,Den K H e.2.1 e.1)(hv:DenAll K H (es.map (·.2.2)) ds):Den K H (.ref a) (.dict ((es.map (·.1)).zip ds)):=by
 simp only[Den];exact⟨a,es,rfl,h,a5Q hk hv⟩
def denAll_nil:DenAll K H [] []:=by simp only[DenAll]
def denAll_cons{v:V}{d:bo}{xs:List V}{ds:List bo}(h:Den K H v d)(q:DenAll K H xs ds):DenAll K H (v::xs) (d::ds):=by
 simp only[DenAll];exact⟨v,xs,rfl,h,q⟩
def Den.list_inv{v:V}{ds:List bo}(h:Den K H v (.list ds)):∃a xs,v=.ref a/\SqX K H a xs/\DenAll K H xs ds:=by simpa only [Den]using h
def Den.tup_inv{v:V}{ds:List bo}(h:Den K H v (.tuple ds)):∃a xs,v=.ref a/\SqT K H a xs/\DenAll K H xs ds:=by simpa only [Den]using h
def Den.dict_inv(h:Den K H v (.dict kvs)):∃a es,v=.ref a/\H a=cz (e6 a es)/\DenKV K H es kvs:=by simpa only [Den]using h
theorem DenKV.keys:∀{kvs:List (bo×bo)} {es:List (bo×V×V)},DenKV K H es kvs->es.map (·.1)=kvs.map (·.1)
 |[],_,h=>by simp only[DenKV]at h;rw[h];rfl
 | (k,d)::r,_,h=>by
  simp only[DenKV]at h;obtain⟨e,q,rfl,h1,_,_,h2⟩:=h;rw[aA,aA,DenKV.keys h2,h1]
theorem DenKV.vals:∀{kvs:List (bo×bo)} {es:List (bo×V×V)},DenKV K H es kvs->DenAll K H (es.map (·.2.2)) (kvs.map (·.2))
 |[],_,h=>by simp only[DenKV]at h;rw[h];simp only[cY,DenAll]
 | (k,d)::r,_,h=>by
  simp only[DenKV]at h;obtain⟨e,q,rfl,_,_,h1,h2⟩:=h;simp only[aA,DenAll];exact⟨_,_,rfl,h1,DenKV.vals h2⟩
theorem DenKV.kden:∀{kvs:List (bo×bo)} {es:List (bo×V×V)},DenKV K H es kvs->∀e∈es,Den K H e.2.1 e.1
 |[],_,h,e,he=>by simp only[DenKV]at h;rw[h]at he;cases he
 | (k,d)::r,_,h,e,he=>by
  simp only[DenKV]at h;obtain⟨e0,q,rfl,h0,h1,_,h2⟩:=h;rcases az.mp he with z|z
  ·subst z;rw[h0];exact h1
  ·exact DenKV.kden h2 e z
def Den.int_inv{v:V}{i:Int}(h:Den K H v (.int i)):v=.int i:=by simpa only [Den]using h
def Den.bool_inv(h:Den K H v (.bool b)):v=.bl b:=by simpa only [Den]using h
def Den.none_inv(h:Den K H v .none):v=.non:=by simpa only [Den]using h
def Den.str_inv(h:Den K H v (.str x)):v=.str x:=by simpa only [Den]using h
def DenAll.cons_inv{xs:List V}{d:bo}{ds:List bo}(h:DenAll K H xs (d::ds)):∃v r,xs=v::r/\Den K H v d/\DenAll K H r ds:=by simpa only [DenAll]using h
def DenAll.nil_inv{xs:List V}(h:DenAll K H xs []):xs=[]:=by simpa only [DenAll]using h
theorem DenAll.length:∀{ds:List bo} {xs:List V},DenAll K H xs ds->xs.length=ds.length
 |[],_,h=>by rw[h.nil_inv];rfl
 |d::ds,_,h=>by
  obtain⟨v,r,rfl,_,h⟩:=h.cons_inv;rw[bx,bx,DenAll.length h]
theorem DenAll.get:∀{ds:List bo} {xs:List V} {i:Nat} {d:bo},DenAll K H xs ds->ds[i]?=cz d->∃v,xs[i]?=cz v/\Den K H v d
 |[],_,i,d,_,e=>by simp at e
 |d0::ds,_,0,d,h,e=>by
  obtain⟨v,r,rfl,h1,_⟩:=h.cons_inv;have:d0=d:=by simpa using e
  subst this;exact⟨v,rfl,h1⟩
 |d0::ds,_,i+1,d,h,e=>by
  obtain⟨v,r,rfl,_,h1⟩:=h.cons_inv;obtain⟨u,h2,h3⟩:=DenAll.get (i:=i) h1 (by simpa using e);exact⟨u,by simpa using h2,h3⟩
def DenAll.getV{ds:List bo}{xs:List V}{i:Nat}{v:V}(h:DenAll K H xs ds)(e:xs[i]?=cz v):∃d,ds[i]?=cz d/\Den K H v d:=by
 have hi:=(aQ.mp e).1;rw[h.length]at hi;obtain⟨u,h1,h2⟩:=h.get (ar hi);rw[e]at h1;cases h1
 exact⟨_,ar hi,h2⟩
theorem DenAll.append:∀{ds:List bo} {xs:List V} {es:List bo} {ys:List V},DenAll K H xs ds->DenAll K H ys es->DenAll K H (xs++ys) (ds++es)
 |[],_,_,_,h,q=>by rw[h.nil_inv];exact q
 |d::ds,_,_,_,h,q=>by
  obtain⟨v,r,rfl,h1,h2⟩:=h.cons_inv;exact denAll_cons h1 (DenAll.append h2 q)
theorem DenAll.take:∀{ds:List bo} {xs:List V} (n:Nat),DenAll K H xs ds->DenAll K H (xs.take n) (ds.take n)
 |_,_,0,_=>by rw[List.take_zero,List.take_zero];exact denAll_nil
 |[],_,n+1,h=>by rw[h.nil_inv];exact denAll_nil
 |d::ds,_,n+1,h=>by
  obtain⟨v,r,rfl,h1,h2⟩:=h.cons_inv;exact denAll_cons h1 (DenAll.take n h2)
theorem DenAll.drop:∀{ds:List bo} {xs:List V} (n:Nat),DenAll K H xs ds->DenAll K H (xs.drop n) (ds.drop n)
 |_,_,0,h=>h
 |[],_,n+1,h=>by rw[h.nil_inv];exact denAll_nil
 |d::ds,_,n+1,h=>by
  obtain⟨v,r,rfl,_,h2⟩:=h.cons_inv;exact DenAll.drop n h2
theorem DenAll.ints:∀(ns:List Int),DenAll K H (ns.map V.int) (ns.map aG)
 |[]=>denAll_nil
 |n::ns=>denAll_cons den_int (DenAll.ints ns)
end
def cut(H:Hp)(F:List aw):Hp:=λa=>if a∈F then el else H a
section
variable {H H':Hp}{F F':List aw}{a:aw}{o:HO}
def Y1(h:a∉F):cut H F a=H a:=by unfold cut;rw[aM h]
def W6(h:a∈F):cut H F a=el:=by unfold cut;rw[aH h]
def o7(h:cut H F a=cz o):a∉F/\H a=cz o:=by
 by_cases q:a∈F
 ·rw[W6 q]at h;cases h
 ·rw[Y1 q]at h;exact⟨q,h⟩
def j7(h1:a∉F)(h2:H a=cz o):cut H F a=cz o:=by rw[Y1 h1];exact h2
def i7:Same (cut H F) H:=λ_ _ h=>(o7 h).2
def K7(e:Same H H')(hF:∀a o,H a=cz o->a∈F'->a∈F):Same (cut H F) (cut H' F'):=λa o h=>by
 obtain⟨h1,h2⟩:=o7 h;exact j7 (λq=>h1 (hF a o h2 q)) (e _ _ h2)
def B2(e:Same H H'):Same (cut H F) (cut H' F):=K7 e λ_ _ _ q=>q
def E7(hF:∀a,a∈F'->a∈F):Same (cut H F) (cut H F'):=K7 (Same.refl H) λa _ _ q=>hF a q
def M3:cut H []=H:=by
 funext a
 exact Y1 (by simp)
end
inductive Ty where
 |i|f|l (t:Ty)|tp (ts:List Ty)|d (kt:Bool) (t:Ty)
mutual
def Ty.shut:Ty->Bool
 |.i=>p4
 |.f=>rp
 |.l u=>u.shut
 |.tp us=>Ty.shutAll us
 |.d _ u=>u.shut
def Ty.shutAll:List Ty->Bool
 |[]=>p4
 |u::us=>u.shut&&Ty.shutAll us
end
def ListAll(R:V->bo->List aw->Prop):List V->List bo->List aw->Prop
 |xs,[],fp=>xs=[]/\fp=[]
 |xs,d::ds,fp=>∃v r f g,xs=v::r/\fp=f++g/\R v d f/\ListAll R r ds g
mutual
def Own(K:af)(H:Hp)(F:List aw):Ty->V->bo->List aw->Prop
 |.i,v,d,fp=>fp=[]/\imm d=p4/\Den K (cut H F) v d
 |.f,v,d,fp=>fp=[]/\Den K (cut H F) v d
 |.l u,v,d,fp=>(fp=[]/\imm d=p4/\Den K (cut H F) v d)\/∃a xs ds fs,v=.ref a/\H a=cz (.lst xs)/\d=.list ds/\fp=a::fs/\ListAll (Own K H F u) xs ds fs
 |.tp us,v,d,fp=>(fp=[]/\(imm d=p4/\∀ds,d≠.tuple ds)/\Den K (cut H F) v d)\/∃a xs ds,v=.ref a/\H a=cz (.tup xs)/\a∉F/\d=.tuple ds/\OwnTs K H F us xs ds fp
 |.d kt u,v,d,fp=>∃a es ds fs,v=.ref a/\H a=cz (e6 a es)/\d=.dict ((es.map (·.1)).zip ds)/\fp=a::fs/\((es.map (·.1)).Nodup/\∀e∈es,keyOk kt e.1/\Den K (cut H F) e.2.1 e.1)/\ListAll (Own K H F u) (es.map (·.2.2)) ds fs
def OwnTs(K:af)(H:Hp)(F:List aw):List Ty->List V->List bo->List aw->Prop
 |[],xs,ds,fp=>xs=[]/\ds=[]/\fp=[]
 |u::us,xs,ds,fp=>∃v r d e f g,xs=v::r/\ds=d::e/\fp=f++g/\Own K H F u v d f/\OwnTs K H F us r e g
end
section
variable {R R':V->bo->List aw->Prop}
def m8:ListAll R [] [] []:=by simp only[ListAll];exact⟨trivial,trivial⟩
def m6(h:R v d f)(q:ListAll R xs ds g):ListAll R (v::xs) (d::ds) (f++g):=by
 simp only[ListAll];exact⟨v,xs,f,g,rfl,rfl,h,q⟩
def ListAll.nil_inv(h:ListAll R xs [] fp):xs=[]/\fp=[]:=by simpa only [ListAll]using h
def ListAll.cons_inv(h:ListAll R xs (d::ds) fp):∃v r f g,xs=v::r/\fp=f++g/\R v d f/\ListAll R r ds g:=by simpa only [ListAll]using h
theorem ListAll.length:∀{ds:List bo} {xs:List V} {fp:List aw},ListAll R xs ds fp->xs.length=ds.length
 |[],_,_,h=>by rw[h.nil_inv.1];rfl
 |d::ds,_,_,h=>by
  obtain⟨v,r,f,g,rfl,_,_,h⟩:=h.cons_inv;rw[bx,bx,ListAll.length h]
theorem ListAll.imp:∀{ds:List bo} {xs:List V} {fp:List aw},ListAll R xs ds fp->(∀v d f,(∀a∈f,a∈fp)->d∈ds->R v d f->R' v d f)->ListAll R' xs ds fp
 |[],_,_,h,_=>by obtain⟨rfl,rfl⟩:=h.nil_inv;exact m8
 |d::ds,_,_,h,q=>by
  obtain⟨v,r,f,g,rfl,rfl,h1,h2⟩:=h.cons_inv;exact m6 (q v d f (λa ha=>aC _ ha) ak h1) (ListAll.imp h2 λv d f' hf hd hR=>q v d f' (λa ha=>au _ (hf a ha)) (aq _ hd) hR)
theorem ListAll.append:∀{ds es:List bo} {xs ys:List V} {fp gp:List aw},ListAll R xs ds fp->ListAll R ys es gp->ListAll R (xs++ys) (ds++es) (fp++gp)
 |[],_,_,_,_,_,h,q=>by obtain⟨rfl,rfl⟩:=h.nil_inv;exact q
 |d::ds,_,_,_,_,_,h,q=>by
  obtain⟨v,r,f,g,rfl,rfl,h1,h2⟩:=h.cons_inv;rw[ba];exact m6 h1 (ListAll.append h2 q)
theorem ListAll.at_:∀{ds:List bo} {xs:List V} {fp:List aw} {k:Nat} {d:bo},ListAll R xs ds fp->ds[k]?=cz d->
  ∃v f pre post,xs[k]?=cz v/\R v d f/\fp=pre++(f++post)/\ListAll R (xs.take k) (ds.take k) pre/\ListAll R (xs.drop (k+1)) (ds.drop (k+1)) post
 |[],_,_,k,d,_,e=>by simp at e
 |d0::ds,_,_,0,d,h,e=>by
  obtain⟨v,r,f,g,rfl,rfl,h1,h2⟩:=h.cons_inv;have:d0=d:=by simpa using e
  subst this;exact⟨v,f,[],g,rfl,h1,rfl,m8,h2⟩
 |d0::ds,_,_,k+1,d,h,e=>by
  obtain⟨v,r,f,g,rfl,rfl,h1,h2⟩:=h.cons_inv;obtain⟨u,f',pre,post,e1,e2,e3,e4,e5⟩:=ListAll.at_ (k:=k) h2 (by simpa using e);subst e3;exact⟨u,f',f++pre,post,by simpa using e1,e2,by rw[ba],m6 h1 e4,e5⟩
end
section
variable {K:af}{H H':Hp}{F F':List aw}
theorem ListAll.den(hR:∀v d f,R v d f->Den K H v d):∀{ds:List bo} {xs:List V} {fp:List aw},ListAll R xs ds fp->DenAll K H xs ds
 |[],_,_,h=>by rw[h.nil_inv.1];exact denAll_nil
 |d::ds,_,_,h=>by
  obtain⟨v,r,f,g,rfl,_,h1,h2⟩:=h.cons_inv;exact denAll_cons (hR _ _ _ h1) (ListAll.den hR h2)
mutual
theorem Own.den:∀(u:Ty) {v:V} {d:bo} {fp:List aw},Own K H F u v d fp->Den K H v d
 |.i,_,_,_,h=>by simp only[Own]at h;exact h.2.2.up i7
 |.f,_,_,_,h=>by simp only[Own]at h;exact h.2.up i7
 |.l u,_,_,_,h=>by
  simp only[Own]at h;rcases h with⟨_,_,h⟩|⟨a,xs,ds,fs,rfl,h1,rfl,_,h2⟩
  ·exact h.up i7
  ·exact den_list (.inl (.inl h1)) (ListAll.den (λv d f q=>Own.den u q) h2)
 |.tp us,_,_,_,h=>by
  simp only[Own]at h;rcases h with⟨_,_,h⟩|⟨a,xs,ds,rfl,h1,_,rfl,h2⟩
  ·exact h.up i7
  ·exact den_tup (SqT.of h1) (OwnTs.den us h2)
 |.d kt u,_,_,_,h=>by
  simp only[Own]at h;obtain⟨a,es,ds,fs,rfl,h1,rfl,_,h3,h2⟩:=h;exact a4d h1 (λe he=>(h3.2 e he).2.up i7) (ListAll.den (λv d f q=>Own.den u q) h2)
theorem OwnTs.den:∀(us:List Ty) {xs:List V} {ds:List bo} {fp:List aw},OwnTs K H F us xs ds fp->DenAll K H xs ds
 |[],_,_,_,h=>by simp only[OwnTs]at h;obtain⟨rfl,rfl,_⟩:=h;exact denAll_nil
 |u::us,_,_,_,h=>by
  simp only[OwnTs]at h;obtain⟨v,r,d,e,f,g,rfl,rfl,_,h1,h2⟩:=h;exact denAll_cons (Own.den u h1) (OwnTs.den us h2)
end
mutual
theorem Own.frame(e:Same (cut H F) (cut H' F')):∀(u:Ty) {v:V} {d:bo} {fp:List aw},Own K H F u v d fp->(∀a∈fp,H' a=H a)->Own K H' F' u v d fp
 |.i,_,_,_,h,_=>by simp only[Own]at h ⊢;exact⟨h.1,h.2.1,h.2.2.up e⟩
 |.f,_,_,_,h,_=>by simp only[Own]at h ⊢;exact⟨h.1,h.2.up e⟩
 |.l u,_,_,_,h,k=>by
  simp only[Own]at h ⊢;rcases h with⟨h1,h2,h⟩|⟨a,xs,ds,fs,rfl,h1,rfl,rfl,h2⟩
  ·exact .inl ⟨h1,h2,h.up e⟩
  ·exact .inr ⟨a,xs,ds,fs,rfl,(k a ak).trans h1,rfl,rfl,h2.imp λv d f hf _ q=>Own.frame e u q λb hb=>k b (aq _ (hf b hb))⟩
 |.tp us,_,_,_,h,k=>by
  simp only[Own]at h ⊢;rcases h with⟨h1,h2,h⟩|⟨a,xs,ds,rfl,h1,h0,rfl,h2⟩
  ·exact .inl ⟨h1,h2,h.up e⟩
  obtain⟨h3,h4⟩:=o7 (e a _ (j7 h0 h1));exact .inr ⟨a,xs,ds,rfl,h4,h3,rfl,OwnTs.frame e us h2 k⟩
 |.d kt u,_,_,_,h,k=>by
  simp only[Own]at h ⊢;obtain⟨a,es,ds,fs,rfl,h1,rfl,rfl,h3,h2⟩:=h;exact⟨a,es,ds,fs,rfl,(k a ak).trans h1,rfl,rfl,⟨h3.1,λx hx=>⟨(h3.2 x hx).1,(h3.2 x hx).2.up e⟩⟩,h2.imp λv d f hf _ q=>Own.frame e u q λb hb=>k b (aq _ (hf b hb))⟩
theorem OwnTs.frame(e:Same (cut H F) (cut H' F')):∀(us:List Ty) {xs:List V} {ds:List bo} {fp:List aw},OwnTs K H F us xs ds fp->(∀a∈fp,H' a=H a)->OwnTs K H' F' us xs ds fp
 |[],_,_,_,h,_=>by simpa only [OwnTs]using h
 |u::us,_,_,_,h,k=>by
  simp only[OwnTs]at h ⊢;obtain⟨v,r,d,e',f,g,rfl,rfl,rfl,h1,h2⟩:=h;exact⟨v,r,d,e',f,g,rfl,rfl,rfl,Own.frame e u h1 λa ha=>k a (aC _ ha),OwnTs.frame e us h2 λa ha=>k a (au _ ha)⟩
end
theorem ListAll.lst{u:Ty}{R:V->bo->List aw->Prop}(hR:∀v d f,R v d f->∀a∈f,∃ys:MuO,H a=cz ys.1):∀{ds:List bo} {xs:List V} {fp:List aw},ListAll R xs ds fp->∀a∈fp,∃ys:MuO,H a=cz ys.1
 |[],_,_,h,a,ha=>by rw[h.nil_inv.2]at ha;cases ha
 |d::ds,_,_,h,a,ha=>by
  obtain⟨v,r,f,g,rfl,rfl,h1,h2⟩:=h.cons_inv;rcases ay.mp ha with z|z
  ·exact hR _ _ _ h1 a z
  ·exact ListAll.lst (u:=u) hR h2 a z
mutual
theorem Own.lst:∀(u:Ty) {v:V} {d:bo} {fp:List aw},Own K H F u v d fp->∀a∈fp,∃ys:MuO,H a=cz ys.1
 |.i,_,_,_,h,a,ha=>by simp only[Own]at h;rw[h.1]at ha;cases ha
 |.f,_,_,_,h,a,ha=>by simp only[Own]at h;rw[h.1]at ha;cases ha
 |.l u,_,_,_,h,b,hb=>by
  simp only[Own]at h;rcases h with⟨h1,_⟩|⟨a,xs,ds,fs,rfl,h1,rfl,rfl,h2⟩
  ·rw[h1]at hb;cases hb
  ·rcases az.mp hb with z|z
   ·subst z;exact⟨⟨.lst xs,trivial⟩,h1⟩
   ·exact ListAll.lst (u:=u) (λv d f q=>Own.lst u q) h2 b z
 |.tp us,_,_,_,h,b,hb=>by
  simp only[Own]at h;rcases h with⟨h1,_⟩|⟨a,xs,ds,rfl,h1,_,rfl,h2⟩
  ·rw[h1]at hb;cases hb
  ·exact OwnTs.lst us h2 b hb
 |.d kt u,_,_,_,h,b,hb=>by
  simp only[Own]at h;obtain⟨a,es,ds,fs,rfl,h1,rfl,rfl,h3,h2⟩:=h;rcases az.mp hb with z|z
  ·subst z;exact⟨⟨e6 b es,trivial⟩,h1⟩
  ·exact ListAll.lst (u:=u) (λv d f q=>Own.lst u q) h2 b z
theorem OwnTs.lst:∀(us:List Ty) {xs:List V} {ds:List bo} {fp:List aw},OwnTs K H F us xs ds fp->∀a∈fp,∃ys:MuO,H a=cz ys.1
 |[],_,_,_,h,a,ha=>by simp only[OwnTs]at h;rw[h.2.2]at ha;cases ha
 |u::us,_,_,_,h,b,hb=>by
  simp only[OwnTs]at h;obtain⟨v,r,d,e,f,g,rfl,rfl,rfl,h1,h2⟩:=h;rcases ay.mp hb with z|z
  ·exact Own.lst u h1 b z
  ·exact OwnTs.lst us h2 b z
end
def b4p(h:SqT K H a xs)(hF:∀a∈F,∃ys:MuO,H a=cz ys.1):SqT K (cut H F) a xs:=by
 rcases h with (h|⟨o,h⟩)|h
 ·refine .inl (.inl (j7 (λq=>?_) h));obtain⟨⟨ys,my⟩,e⟩:=hF a q;rw[h]at e;have e':=aL e;rw[show ys=_ from e'.symm]at my;exact my
 ·refine .inl (.inr ⟨o,j7 (λq=>?_) h⟩);obtain⟨⟨ys,my⟩,e⟩:=hF a q;rw[h]at e;have e':=aL e;rw[show ys=_ from e'.symm]at my;exact my
 ·exact .inr h
mutual
theorem Den.imm_out(hF:∀a∈F,∃ys:MuO,H a=cz ys.1):∀(d:bo) {v:V},imm d=p4->Den K H v d->Den K (cut H F) v d
 |.none,_,_,h=>by simpa only [Den]using h
 |.bool _,_,_,h=>by simpa only [Den]using h
 |.int _,_,_,h=>by simpa only [Den]using h
 |.str _,_,_,h=>by simpa only [Den]using h
 |.list ds,_,q,_=>by simp only[imm]at q;cases q
 |.tuple ds,_,q,h=>by
  simp only[imm]at q;obtain⟨a,xs,rfl,h1,h2⟩:=h.tup_inv;exact den_tup (b4p h1 hF) (DenAll.imm_out hF ds q h2)
 |.dict _,_,q,_=>by simp only[imm]at q;cases q
theorem DenAll.imm_out(hF:∀a∈F,∃ys:MuO,H a=cz ys.1):∀(ds:List bo) {xs:List V},g8 ds=p4->DenAll K H xs ds->DenAll K (cut H F) xs ds
 |[],_,_,h=>by simpa only [DenAll]using h
 |d::ds,_,q,h=>by
  simp only[g8,ao]at q;obtain⟨v,r,rfl,h1,h2⟩:=h.cons_inv;exact denAll_cons (Den.imm_out hF d q.1 h1) (DenAll.imm_out hF ds q.2 h2)
end
mutual
theorem Own.shut_out(hF:∀a∈F',∃ys:MuO,H a=cz ys.1):∀(u:Ty) {v:V} {d:bo} {fp:List aw},u.shut=p4->Own K H F u v d fp->Own K H F' u v d fp
 |.i,_,_,_,_,h=>by simp only[Own]at h ⊢;exact⟨h.1,h.2.1,(h.2.2.up i7).imm_out hF _ h.2.1⟩
 |.f,_,_,_,q,h=>by simp only[Ty.shut]at q;cases q
 |.l u,_,_,_,q,h=>by
  simp only[Ty.shut]at q;simp only[Own]at h ⊢;rcases h with⟨h1,h2,h⟩|⟨a,xs,ds,fs,rfl,h1,rfl,rfl,h2⟩
  ·exact .inl ⟨h1,h2,(h.up i7).imm_out hF _ h2⟩
  ·exact .inr ⟨a,xs,ds,fs,rfl,h1,rfl,rfl,h2.imp λv d f _ _ z=>Own.shut_out hF u q z⟩
 |.tp us,_,_,_,q,h=>by
  simp only[Ty.shut]at q;simp only[Own]at h ⊢;rcases h with⟨h1,h2,h⟩|⟨a,xs,ds,rfl,h1,h0,rfl,h2⟩
  ·exact .inl ⟨h1,h2,(h.up i7).imm_out hF _ h2.1⟩
  refine .inr ⟨a,xs,ds,rfl,h1,λz=>?_,rfl,OwnTs.shut_out hF us q h2⟩;obtain⟨⟨ys,my⟩,e⟩:=hF a z;rw[h1]at e;have e':=aL e;rw[show ys=_ from e'.symm]at my;exact my
 |.d kt u,_,_,_,q,h=>by
  simp only[Ty.shut]at q;simp only[Own]at h ⊢;obtain⟨a,es,ds,fs,rfl,h1,rfl,rfl,h3,h2⟩:=h;exact⟨a,es,ds,fs,rfl,h1,rfl,rfl,⟨h3.1,λx hx=>⟨(h3.2 x hx).1,((h3.2 x hx).2.up i7).imm_out hF _ (W5 _ (h3.2 x hx).1.1)⟩⟩,h2.imp λv d f _ _ z=>Own.shut_out hF u q z⟩
theorem OwnTs.shut_out(hF:∀a∈F',∃ys:MuO,H a=cz ys.1):∀(us:List Ty) {xs:List V} {ds:List bo} {fp:List aw},Ty.shutAll us=p4->OwnTs K H F us xs ds fp->OwnTs K H F' us xs ds fp
 |[],_,_,_,_,h=>by simpa only [OwnTs]using h
 |u::us,_,_,_,q,h=>by
  simp only[Ty.shutAll,ao]at q;simp only[OwnTs]at h ⊢;obtain⟨v,r,d,e,f,g,rfl,rfl,rfl,h1,h2⟩:=h;exact⟨v,r,d,e,f,g,rfl,rfl,rfl,Own.shut_out hF u q.1 h1,OwnTs.shut_out hF us q.2 h2⟩
end
end
end VS
namespace VS
open PySem PySem.Spec L2
open SeqAt in
def items_eqAt{A:bE}{s:av}{us ws:Array aj}(ra:jc s.heap us.toList xs as)(rb:jc s.heap ws.toList ys bs)(ha:aS xs=p4)(hb:aS ys=p4)
  (hu:A.in1.units+min (dB xs) (dB ys)<cV):∀(k:Nat) (k1:k<us.size) (k2:k<ws.size),EqAt A.in1 s us[k] ws[k] (pairEq xs ys k):=λk k1 k2=>
 eqAt_readsAll xs ys A.in1 s us.toList ws.toList as bs ra rb ha hb hu k k1 k2
open SeqAt in
def a7l{A:bE}{s:av}(ra:Reads s.heap a da as)(rb:Reads s.heap b db bs)(ha:da.canLay0=p4)(hb:db.canLay0=p4)
  (hu:A.units+min da.depth db.depth<cV):RcNeAt A s a b (!aB da db):=by
 have u0:=room_here hu;cases ra with
 |dict=>exact nomatch ha
 |none=>cases rb with
  |dict=>exact nomatch hb
  |none=>exact RcNeAt.none_none
  |bool y=>exact RcNeAt.none_bool y
  |int y v=>exact RcNeAt.none_int y v
  |str y v=>exact RcNeAt.none_str y v
  |list c1 c2 c3 c4=>exact RcNeAt.none_list ⟨_,c1,c2,_,c3⟩ u0
  |tuple c1 c2 c3 c4=>exact RcNeAt.none_tuple ⟨_,c1,c2,_,c3⟩ u0
 |bool x=>cases rb with
  |dict=>exact nomatch hb
  |none=>exact RcNeAt.bool_none x
  |bool y=>exact RcNeAt.bool_bool x y
  |int y v=>exact RcNeAt.bool_int x y v
  |str y v=>exact RcNeAt.bool_str x y v
  |list c1 c2 c3 c4=>exact RcNeAt.bool_list x ⟨_,c1,c2,_,c3⟩ u0
  |tuple c1 c2 c3 c4=>exact RcNeAt.bool_tuple x ⟨_,c1,c2,_,c3⟩ u0
 |int x t=>cases rb with
  |dict=>exact nomatch hb
  |none=>exact RcNeAt.int_none x t
  |bool y=>exact RcNeAt.int_bool x t y
  |int y v=>exact RcNeAt.int_int x t y v
  |str y v=>exact RcNeAt.int_str x t y v
  |list c1 c2 c3 c4=>exact RcNeAt.int_list x t ⟨_,c1,c2,_,c3⟩ u0
  |tuple c1 c2 c3 c4=>exact RcNeAt.int_tuple x t ⟨_,c1,c2,_,c3⟩ u0
 |str x t=>cases rb with
  |dict=>exact nomatch hb
  |none=>exact RcNeAt.str_none x t
  |bool y=>exact RcNeAt.str_bool x t y
  |int y v=>exact RcNeAt.str_int x t y v
  |str y v=>exact RcNeAt.str_str x t y v
  |list c1 c2 c3 c4=>exact RcNeAt.str_list x t ⟨_,c1,c2,_,c3⟩ u0
  |tuple c1 c2 c3 c4=>exact RcNeAt.str_tuple x t ⟨_,c1,c2,_,c3⟩ u0
 |@list la oa us na xs fa c1 c2 c3 c4=>
  have sa:s.heap.IsList la us:=⟨oa,c1,c2,na,c3⟩;cases rb with
  |dict=>exact nomatch hb
  |none=>exact RcNeAt.list_none sa u0
  |bool y=>exact RcNeAt.list_bool y sa u0
  |int y v=>exact RcNeAt.list_int y v sa u0
  |str y v=>exact RcNeAt.list_str y v sa u0
  |tuple e1 e2 e3 e4=>exact RcNeAt.list_tuple sa ⟨_,e1,e2,_,e3⟩ u0
  |@list lb ob ws nb ys fb e1 e2 e3 e4=>
   have sb:s.heap.IsList lb ws:=⟨ob,e1,e2,nb,e3⟩;have z1:us.size=xs.length:=by simpa using oQ xs _ _ c4
   have z2:ws.size=ys.length:=by simpa using oQ ys _ _ e4
   have pr:=items_eqAt c4 e4 ha hb (room_in hu);show RcNeAt A s (.ref la) (.ref lb) (!cQ xs ys);by_cases z:us.size=ws.size
   ·rw[<-eqvAll_same_length (show xs.length=ys.length by lia),<-z1];exact RcNeAt.lists sa sb z u0 pr
   ·rw[eqvAll_other_length (show xs.length≠ys.length by lia)];exact RcNeAt.lists_lengths sa sb (bne_iff_ne.mpr z) u0
 |@tuple la oa us na xs fa c1 c2 c3 c4=>
  have sa:s.heap.IsTuple la us:=⟨oa,c1,c2,na,c3⟩;cases rb with
  |dict=>exact nomatch hb
  |none=>exact RcNeAt.tuple_none sa u0
  |bool y=>exact RcNeAt.tuple_bool y sa u0
  |int y v=>exact RcNeAt.tuple_int y v sa u0
  |str y v=>exact RcNeAt.tuple_str y v sa u0
  |list e1 e2 e3 e4=>exact RcNeAt.tuple_list sa ⟨_,e1,e2,_,e3⟩ u0
  |@tuple lb ob ws nb ys fb e1 e2 e3 e4=>
   have sb:s.heap.IsTuple lb ws:=⟨ob,e1,e2,nb,e3⟩;have z1:us.size=xs.length:=by simpa using oQ xs _ _ c4
   have z2:ws.size=ys.length:=by simpa using oQ ys _ _ e4
   have pr:=items_eqAt c4 e4 ha hb (room_in hu);show RcNeAt A s (.ref la) (.ref lb) (!cQ xs ys);rw[<-eqvAll_eq xs ys,<-z1,<-z2];exact RcNeAt.tuples sa sb u0 pr
mutual
theorem Den.reads{X:Cx}{pins:List (aw×fN)}{Y:St}{H:Hp}{s:av}(I:Inv X pins Y H s):∀(d:bo) {v:V} {u:aj},d.canLay0=p4->Den X.K H v d->RelV v u->∃as,Reads s.heap u d as
 |.none,v,u,_,q,r=>by
  cases q.none_inv
  cases (show u=cw from r)
  exact⟨_,.none⟩
 |.bool b,v,u,_,q,r=>by
  cases q.bool_inv
  cases (show u=jz b from r)
  exact⟨_,.bool b⟩
 |.int i,v,u,_,q,r=>by
  cases q.int_inv
  obtain⟨t,rfl⟩:=r;exact⟨_,.int i t⟩
 |.str x,v,u,_,q,r=>by
  cases q.str_inv
  obtain⟨t,rfl⟩:=r;exact⟨_,.str x t⟩
 |.list ds,v,u,hl,q,r=>by
  obtain⟨a,xs,rfl,h1,h2⟩:=q.list_inv;cases (show u=bb a from r)
  obtain⟨z,cA,n,rv,e⟩:=h1.ok I;obtain⟨as,ra⟩:=DenAll.reads I ds hl h2 rv;exact⟨_,.list e rfl rfl (by simpa using ra)⟩
 |.tuple ds,v,u,hl,q,r=>by
  obtain⟨a,xs,rfl,h1,h2⟩:=q.tup_inv;cases (show u=bb a from r)
  obtain⟨cA,rv,⟨o,e,c,n,d⟩,_⟩:=I.tuple h1;obtain⟨as,ra⟩:=DenAll.reads I ds hl h2 rv;exact⟨_,.tuple e c d (by simpa using ra)⟩
 |.dict _,_,_,hl,_,_=>nomatch hl
theorem DenAll.reads{X:Cx}{pins:List (aw×fN)}{Y:St}{H:Hp}{s:av}(I:Inv X pins Y H s):∀(ds:List bo) {xs:List V} {us:List aj},aS ds=p4->DenAll X.K H xs ds->Vals xs us->∃as,jc s.heap us ds as
 |[],xs,us,_,q,r=>by
  cases q.nil_inv
  cases r
  exact⟨_,.nil⟩
 |d::ds,xs,us,hl,q,r=>by
  have pL:d.canLay0=p4/\aS ds=p4:=by simpa[aS]using hl
  obtain⟨v,rs,rfl,h1,h2⟩:=q.cons_inv;cases r with
  |cons r1 r2=>
   obtain⟨as,ra⟩:=Den.reads I d pL.1 h1 r1;obtain⟨bs,rb⟩:=DenAll.reads I ds pL.2 h2 r2;exact⟨_,.cons ra rb⟩
end
def OpS(X:Cx)(f:aj->aj->Sem aj)(g:D->D->Option D):Prop:=
 ∃r,OpR X f r/\∀(x y:V) (H:Hp) (a b d:D) (Q:VK),Den X.K H x a->Den X.K H y b->g a b=cz d->(∀v,imm d=p4->(∀H',Den X.K H' v d)->Q v H)->r x y H Q
def a8J(X:Cx)(f:aj)(g:List D->Option D):Prop:=
 ∃r,CallR X f r/\∀(xs:List V) (H:Hp) (ds:List D) (d:D) (Q:VK),DenAll X.K H xs ds->g ds=cz d->(∀v,imm d=p4->(∀H',Den X.K H' v d)->Q v H)->r xs H Q
def d2I(p:Int->Int->Bool)(g:Int->Int->D):D->D->Option D
 |.int a,.int b=>if p a b then cz (g a b) else el
 |_,_=>el
def a2D(h:d2I p g a b=cz d):∃i j,a=.int i/\b=.int j/\p i j=p4/\d=g i j:=by
 cases a with
 |int i=>
  cases b with
  |int j=>
   have h':(if p i j=p4 then cz (g i j) else el)=cz d:=h;by_cases c:p i j=p4
   ·rw[aH c]at h';exact⟨i,j,rfl,rfl,c,(aL h').symm⟩
   ·rw[aM c]at h';cases h'
  |_=>cases h
 |_=>cases h
def pT:Int->Int->Bool:=λ_ _=>p4
abbrev y6:D->D->Option D:=d2I pT λa b=>.int (a+b)
abbrev a2E:D->D->Option D:=d2I pT λa b=>.int (a-b)
def a9P(a b:Int):Bool:=decide (a.natAbs<2^64)||decide (b.natAbs<2^64)
abbrev M4:D->D->Option D:=d2I a9P λa b=>.int (a*b)
def b7g(_ b:Int):Bool:=decide (0<b)
abbrev E3:D->D->Option D:=d2I b7g λa b=>.int (a % b)
def b4q(_ b:Int):Bool:=decide (0<b)&&decide (b<1073741824)
abbrev a0a:D->D->Option D:=d2I b4q λa b=>.int (a / b)
def b4r(a b:Int):Bool:=decide (0<=b)&&decide (b<=1000000)&&decide (a.natAbs<2^64)
abbrev a5e:D->D->Option D:=d2I b4r λa b=>.int (a^b.toNat)
abbrev dLt:D->D->Option D:=d2I pT λa b=>.bool (decide (a<b))
abbrev dLe:D->D->Option D:=d2I pT λa b=>.bool (decide (a<=b))
abbrev dGt:D->D->Option D:=d2I pT λa b=>.bool (decide (b<a))
abbrev dGe:D->D->Option D:=d2I pT λa b=>.bool (decide (b<=a))
def a9Q(neg:Bool)(a b:D):Option D:=if a.canLay0&&b.canLay0&&decide (a.depth<=150) then cz (.bool (neg !=aB a b)) else el
abbrev dEq:D->D->Option D:=a9Q rp
abbrev dNe:D->D->Option D:=a9Q p4
def isN:D->Bool
 |.none=>p4
 |_=>rp
def J1(neg:Bool)(a b:D):Option D:=if isN b then cz (.bool (neg !=isN a)) else el
def c1o(neg:Bool):D->D->Option D
 |.bool a,.bool b=>cz (.bool (neg !=(a==b)))
 |_,_=>el
section
variable {X:Cx}
def b4s{f:aj->aj->Sem aj}{C:Int->Int->Prop}{p:Int->Int->Bool}{g:Int->Int->Int}(ho:OpR X f (rI C λi j=>.int (g i j)))(hp:∀i j,p i j=p4->C i j):OpS X f (d2I p λa b=>.int (g a b)):=by
 refine⟨_,ho,λx y H a b d Q ha hb hg q=>?_⟩;obtain⟨i,j,rfl,rfl,c,rfl⟩:=a2D hg;exact⟨i,j,ha.int_inv,hb.int_inv,hp i j c,q _ (by simp only[imm]) λ_=>den_int⟩
def b6c{f:aj->aj->Sem aj}{g:Int->Int->Int}(ho:OpR X f (rI0 λi j=>.int (g i j))):OpS X f (d2I pT λa b=>.int (g a b)):=by
 refine⟨_,ho,λx y H a b d Q ha hb hg q=>?_⟩;obtain⟨i,j,rfl,rfl,c,rfl⟩:=a2D hg;exact⟨i,j,ha.int_inv,hb.int_inv,q _ (by simp only[imm]) λ_=>den_int⟩
def b1B{f:aj->aj->Sem aj}{g:Int->Int->Bool}(ho:OpR X f (rI0 λi j=>.bl (g i j))):OpS X f (d2I pT λa b=>.bool (g a b)):=by
 refine⟨_,ho,λx y H a b d Q ha hb hg q=>?_⟩;obtain⟨i,j,rfl,rfl,c,rfl⟩:=a2D hg;exact⟨i,j,ha.int_inv,hb.int_inv,q _ (by simp only[imm]) λ_=>den_bool⟩
def z7:OpS X (eK .Add) y6:=b6c b6R
def T6:OpS X (eK .Sub) a2E:=b6c b6S
def L5:OpS X (eK .Mult) M4:=b4s b6T λi j h=>by
 unfold a9P at h;rw[ia]at h;rcases h with h|h
 ·have:=aP h;exact .inl ⟨by lia,by lia⟩
 ·have:=aP h;exact .inr ⟨by lia,by lia⟩
def v5:OpS X (eK .Mod) E3:=b4s b6U λi j h=>aP h
def N7:OpS X (eK .FloorDiv) a0a:=b4s b4a λi j h=>by
 unfold b4q at h;rw[ao]at h;exact⟨aP h.1,aP h.2⟩
def a2F:OpS X (eK .Pow) a5e:=b4s b6V λi j h=>by
 unfold b4r at h;rw[ao,ao]at h;exact⟨aP h.1.1,aP h.1.2,aP h.2⟩
def a8K:OpS X (bW .Lt) dLt:=b1B b9k
def b1C:OpS X (bW .LtE) dLe:=b1B b9l
def b9s:OpS X (bW .Gt) dGt:=b1B b9m
def b7h(K:af)(neg:Bool):R2:=λx y H Q=>∃d e,Den K H x d/\Den K H y e/\d.canLay0=p4/\e.canLay0=p4/\d.depth<=150/\Q (.bl (neg !=aB d e)) H
def b1D(hu:X.A.units+164<cV):OpR X (bW .Eq) (b7h X.K rp):=by
 intro pins s Y H x y v u Q I rx ry h;obtain⟨d,e,h1,h2,c1,c2,hd,q⟩:=h;obtain⟨as,ra⟩:=Den.reads I d c1 h1 rx;obtain⟨bs,rb⟩:=Den.reads I e c2 h2 ry;refine SeqAt.compareEq_reads ra rb c1 c2 (by have:=pG d.depth e.depth;lia) ?_;exact⟨.bl _,H,I,rfl,by simpa using q⟩
def b1E(hu:X.A.units+164<cV):OpR X (bW .NotEq) (b7h X.K p4):=by
 intro pins s Y H x y v u Q I rx ry h;obtain⟨d,e,h1,h2,c1,c2,hd,q⟩:=h;obtain⟨as,ra⟩:=Den.reads I d c1 h1 rx;obtain⟨bs,rb⟩:=Den.reads I e c2 h2 ry;refine a7l ra rb c1 c2 (by have:=pG d.depth e.depth;lia) _ _ _ _ ?_;exact⟨.bl _,H,I,rfl,by simpa using q⟩
def b1F(ho:OpR X f (b7h X.K neg)):OpS X f (a9Q neg):=by
 refine⟨_,ho,λx y H a b d Q ha hb hg q=>?_⟩;unfold a9Q at hg;by_cases c:(a.canLay0&&b.canLay0&&decide (a.depth<=150))=p4
 ·rw[aH c]at hg;cases hg
  rw[ao,ao]at c;exact⟨a,b,ha,hb,c.1.1,c.1.2,aP c.2,q _ (by simp only[imm]) λ_=>den_bool⟩
 ·rw[aM c]at hg;cases hg
def os_eq(hu:X.A.units+164<cV):OpS X (bW .Eq) dEq:=b1F (b1D hu)
def b9t(hu:X.A.units+164<cV):OpS X (bW .NotEq) dNe:=b1F (b1E hu)
def a5f(h:Den K H x a):decide (x=V.non)=isN a:=by
 cases a with
 |none=>rw[h.none_inv];rfl
 |bool b=>rw[h.bool_inv];rfl
 |int b=>rw[h.int_inv];rfl
 |str b=>rw[h.str_inv];rfl
 |list ds=>obtain⟨a,xs,rfl,_⟩:=h.list_inv;rfl
 |tuple ds=>obtain⟨a,xs,rfl,_⟩:=h.tup_inv;rfl
 |dict kvs=>
  obtain⟨a,es,rfl,_⟩:=h.dict_inv;rfl
def b1G:OpS X (bW .Is) (J1 rp):=by
 refine⟨_,b6W,λx y H a b d Q ha hb hg q=>?_⟩;unfold J1 at hg;by_cases c:isN b=p4
 ·rw[aH c]at hg;cases hg
  have e:=a5f hb;rw[c]at e;refine⟨aP e,?_⟩;rw[a5f ha];have:=q (.bl (rp !=isN a)) (by simp only[imm]) λ_=>den_bool
  simpa using this
 ·rw[aM c]at hg;cases hg
def a0H:OpS X (bW .IsNot) (J1 p4):=by
 refine⟨_,b4b,λx y H a b d Q ha hb hg q=>?_⟩;unfold J1 at hg;by_cases c:isN b=p4
 ·rw[aH c]at hg;cases hg
  have e:=a5f hb;rw[c]at e;refine⟨aP e,?_⟩;rw[a5f ha];have:=q (.bl (p4 !=isN a)) (by simp only[imm]) λ_=>den_bool
  simpa using this
 ·rw[aM c]at hg;cases hg
end
inductive Md where
 |dead|own (u:Ty)|exc|keys (kt:Bool)|pin (v:V)|fn (Φ:Hp->V->Prop)
def ExcAt(a C:aw):HO:=.ext λh=>∃o,h.get? a=cz o/\o.cls=.ref C
def SlotR(K:af)(H:Hp)(F:List aw)(m:Md)(o:Option V)(d:D)(f:List aw):Prop:=
 match m with
 |.dead=>f=[]
 |.own u=>∃v,o=cz v/\Own K H F u v d f
 |.exc=>f=[]/\∃v,o=cz v/\((v=.non/\d=.none)\/∃a C n,v=.ref a/\d=.str n/\cut H F a=cz (ExcAt a C)/\gG K bP n=cz (cz (.ref C)))
 |.keys kt=>f=[]/\∃a es kvs,o=cz (.ref a)/\d=.dict kvs/\cut H F a=cz (e6 a es)/\es.map (·.1)=kvs.map (·.1)/\∀e∈es,keyOk kt e.1/\Den K (cut H F) e.2.1 e.1
 |.pin v=>f=[]/\o=cz v
 |.fn Φ=>f=[]/\∃v,o=cz v/\∀H',Same (cut H F) H'->Φ H' v
def StAll(K:af)(H:Hp)(F:List aw):List Md->List D->L2.St->List aw->Prop
 |[],U,Y,fp=>U=[]/\Y=[]/\fp=[]
 |m::M,U,Y,fp=>∃d U' o Y' f g,U=d::U'/\Y=o::Y'/\fp=f++g/\SlotR K H F m o d f/\StAll K H F M U' Y' g
section
variable {K:af}{H H':Hp}{F F':List aw}
theorem SlotR.frame(h:SlotR K H F m o d f)(e:Same (cut H F) (cut H' F'))(k:∀a∈f,H' a=H a):SlotR K H' F' m o d f:=by
 cases m with
 |dead=>exact h
 |own u=>
  obtain⟨v,rfl,h⟩:=h;exact⟨v,rfl,h.frame e u k⟩
 |exc=>
  obtain⟨h0,v,h1,h2⟩:=h;refine⟨h0,v,h1,h2.imp (λz=>z) λ⟨a,C,n,z1,z2,z3,z4⟩=>⟨a,C,n,z1,z2,e _ _ z3,z4⟩⟩
 |keys kt=>
  obtain⟨h0,a,es,kvs,h1,h2,h3,h4,h5⟩:=h;exact⟨h0,a,es,kvs,h1,h2,e _ _ h3,h4,λx hx=>⟨(h5 x hx).1,(h5 x hx).2.up e⟩⟩
 |pin v=>exact h
 |fn Φ=>obtain⟨h0,v,h1,h2⟩:=h;exact⟨h0,v,h1,λH2 e2=>h2 H2 (e.trans e2)⟩
def k9(h:SlotR K H F m o d f)(q:StAll K H F M U Y g):StAll K H F (m::M) (d::U) (o::Y) (f++g):=by
 simp only[StAll];exact⟨d,U,o,Y,f,g,rfl,rfl,rfl,h,q⟩
def N1:StAll K H F [] [] [] []:=by simp only[StAll];exact⟨trivial,trivial,trivial⟩
theorem StAll.frame:∀{M:List Md} {U:List D} {Y:L2.St} {fp:List aw},StAll K H F M U Y fp->Same (cut H F) (cut H' F')->(∀a∈fp,H' a=H a)->StAll K H' F' M U Y fp
 |[],_,_,_,h,_,_=>by simpa only [StAll]using h
 |m::M,_,_,_,h,e,k=>by
  simp only[StAll]at h;obtain⟨d,U,o,Y,f,g,rfl,rfl,rfl,h1,h2⟩:=h;exact k9 (h1.frame e λa ha=>k a (aC _ ha)) (StAll.frame h2 e λa ha=>k a (au _ ha))
theorem StAll.len:∀{M:List Md} {U:List D} {Y:L2.St} {fp:List aw},StAll K H F M U Y fp->U.length=M.length/\Y.length=M.length
 |[],_,_,_,h=>by simp only[StAll]at h;obtain⟨rfl,rfl,_⟩:=h;exact⟨rfl,rfl⟩
 |m::M,_,_,_,h=>by
  simp only[StAll]at h;obtain⟨d,U,o,Y,f,g,rfl,rfl,rfl,_,h2⟩:=h;obtain⟨a,b⟩:=StAll.len h2;exact⟨by rw[bx,bx,a],by rw[bx,bx,b]⟩
theorem StAll.at_:∀{M:List Md} {U:List D} {Y:L2.St} {fp:List aw} {i:Nat} {m:Md},StAll K H F M U Y fp->M[i]?=cz m->
  ∃d o f pre post,U[i]?=cz d/\Y[i]?=cz o/\SlotR K H F m o d f/\fp=pre++(f++post)/\
   ∀(H':Hp) (F':List aw) (m':Md) (d':D) (o':Option V) (f':List aw),(∀a∈pre++post,H' a=H a)->Same (cut H F) (cut H' F')->SlotR K H' F' m' o' d' f'->
    StAll K H' F' (M.set i m') (U.set i d') (Y.set i o') (pre++(f'++post))
 |[],_,_,_,i,m,_,e=>by simp at e
 |m0::M,_,_,_,0,m,h,e=>by
  simp only[StAll]at h;obtain⟨d,U,o,Y,f,g,rfl,rfl,rfl,h1,h2⟩:=h;have:m0=m:=by simpa using e
  subst this;refine⟨d,o,f,[],g,rfl,rfl,h1,rfl,λH' F' m' d' o' f' k e' s=>?_⟩;show StAll K H' F' (m'::M) (d'::U) (o'::Y) (f'++g);exact k9 s (h2.frame e' k)
 |m0::M,_,_,_,i+1,m,h,e=>by
  simp only[StAll]at h;obtain⟨d,U,o,Y,f,g,rfl,rfl,rfl,h1,h2⟩:=h;obtain⟨d1,o1,f1,pre,post,e1,e2,e3,e4,e5⟩:=StAll.at_ (i:=i) h2 (by simpa using e);subst e4;refine⟨d1,o1,f1,f++pre,post,by simpa using e1,by simpa using e2,e3,by rw[ba],λH' F' m' d' o' f' k e' s=>?_⟩;rw[ba];refine k9 (h1.frame e' λa ha=>k a ?_) (e5 H' F' m' d' o' f' (λa ha=>k a ?_) e' s)
  ·rw[ba];exact aC _ ha
  ·rw[ba];exact au _ ha
end
structure StE (K:af) (M:List Md) (U:List D) (Y:L2.St) (H P:Hp) (F:List aw):Prop where
 all:∃G,StAll K H F M U Y G/\∀a∈G,a∈F
 lst:∀a∈F,∃ys:MuO,H a=cz ys.1
 prot:Same P (cut H F)
structure StR (K:af) (M:List Md) (U:List D) (Y:L2.St) (H P:Hp) (F:List aw):Prop where
 all:∃G,StAll K H F M U Y G/\G.Nodup/\∀a∈G,a∈F
 lst:∀a∈F,∃ys:MuO,H a=cz ys.1
 prot:Same P (cut H F)
section
variable {K:af}{M:List Md}{U:List D}{Y:L2.St}{H H' P:Hp}{F:List aw}
def StR.toE(h:StR K M U Y H P F):StE K M U Y H P F:=⟨let⟨G,a,_,b⟩:=h.all;⟨G,a,b⟩,h.lst,h.prot⟩
def StE.keep(h:StE K M U Y H P F)(e:Same H H'):∀a∈F,H' a=H a:=λa ha=>by
 obtain⟨ys,q⟩:=h.lst a ha;rw[q,e _ _ q]
def StE.lst'(h:StE K M U Y H P F)(e:Same H H'):∀a∈F,∃ys:MuO,H' a=cz ys.1:=λa ha=>by
 obtain⟨ys,q⟩:=h.lst a ha;exact⟨ys,e _ _ q⟩
def a0I(e:Same H H')(hf:∀a∈fp,H a=el):Same (cut H F) (cut H' (fp++F)):=K7 e λa o ha jy=>by
 rcases ay.mp jy with z|z
 ·rw[hf a z]at ha;cases ha
 ·exact z
def StE.more(h:StE K M U Y H P F)(e:Same H H')(hf:∀a∈fp,H a=el)(hl:∀a∈fp,∃ys:MuO,H' a=cz ys.1):StE K M U Y H' P (fp++F):=by
 obtain⟨G,h1,h3⟩:=h.all;have hc:Same (cut H F) (cut H' (fp++F)):=a0I e hf;refine⟨⟨G,h1.frame hc λa ha=>h.keep e a (h3 a ha),λa ha=>au _ (h3 a ha)⟩,λa ha=>?_,h.prot.trans hc⟩;rcases ay.mp ha with z|z
 ·exact hl a z
 ·exact h.lst' e a z
def StE.grow(h:StE K M U Y H P F)(e:Same H H'):StE K M U Y H' P F:=h.more (fp:=[]) e (λa ha=>(nomatch ha)) λa ha=>(nomatch ha)
theorem StR.more(h:StR K M U Y H P F)(e:Same H H')(hf:∀a∈fp,H a=el)(hl:∀a∈fp,∃ys:MuO,H' a=cz ys.1):StR K M U Y H' P (fp++F):=by
 obtain⟨G,h1,h2,h3⟩:=h.all;have S:=h.toE.more e hf hl;exact⟨⟨G,h1.frame (a0I e hf) λa ha=>h.toE.keep e a (h3 a ha),h2,λa ha=>au _ (h3 a ha)⟩,S.lst,S.prot⟩
def StR.grow(h:StR K M U Y H P F)(e:Same H H'):StR K M U Y H' P F:=h.more (fp:=[]) e (λa ha=>(nomatch ha)) λa ha=>(nomatch ha)
def y9(h:U[i]?=cz d):U.getD i x=d:=by rw[aT,h];rfl
def StE.get(h:StE K M U Y H P F)(hm:M[i]?=cz (.own u)):∃v f,Y[i]?=cz (cz v)/\Own K H F u v (U.getD i .none) f/\∀a∈f,a∈F:=by
 obtain⟨G,h1,h3⟩:=h.all;obtain⟨d,o,f,pre,post,e1,e2,⟨v,rfl,q⟩,e4,_⟩:=h1.at_ hm;refine⟨v,f,e2,by rw[y9 e1];exact q,λa ha=>h3 a ?_⟩;rw[e4];exact au _ (aC _ ha)
theorem StAll.pick(h:StAll K H F M U Y G)(hG:∀a∈G,a∈F):∀js:List Nat,∃G',StAll K H F (js.map λj=>M.getD j .dead) (js.map λj=>U.getD j .none) (js.map λj=>(Y[j]?).getD el) G'/\∀a∈G',a∈F
 |[]=>⟨[],N1,λa ha=>(nomatch ha)⟩
 |j::js=>by
  obtain⟨G',q,hq⟩:=StAll.pick h hG js;cases e:M[j]? with
  |none=>
   refine⟨[]++G',?_,λa ha=>hq a (by simpa using ha)⟩;have:M.getD j .dead=.dead:=by rw[aT,e];rfl
   rw[aA,aA,aA,this];exact k9 rfl q
  |some m=>
   obtain⟨d,o,f,pre,post,e1,e2,e3,e4,_⟩:=h.at_ e;refine⟨f++G',?_,λa ha=>?_⟩
   ·rw[aA,aA,aA,show M.getD j .dead=m by rw[aT,e];rfl,y9 e1,e2];exact k9 e3 q
   ·rcases ay.mp ha with z|z
    ·exact hG a (by rw[e4];exact au _ (aC _ z))
    ·exact hq a z
def N2{pre f post:List aw}(h:(pre++(f++post)).Nodup):(pre++post).Nodup:=
 h.sublist (List.Sublist.append (Cc _) (List.sublist_append_right _ _))
def mem_mid{pre f post:List aw}{a:aw}(h:a∈pre++post):a∈pre++(f++post):=by
 rcases ay.mp h with h|h
 ·exact aC _ h
 ·exact au _ (au _ h)
def Y2{pre f post:List aw}(h:(pre++post).Nodup)(hf:f.Nodup)(d:∀a∈f,a∉pre++post):(pre++(f++post)).Nodup:=by
 rw[aZ]at h ⊢;obtain⟨h1,h2,h3⟩:=h;refine⟨h1,?_,λa ha b hb=>?_⟩
 ·rw[aZ];exact⟨hf,h2,λa ha b hb e=>d a ha (e▸au _ hb)⟩
 ·rcases ay.mp hb with z|z
  ·intro e;exact d b z (e▸aC _ ha)
  ·exact h3 a ha b z
def a2h{pre f post:List aw}{a:aw}(h:a∈pre++(f++post)):a∈f\/a∈pre++post:=by
 rcases ay.mp h with h|h
 ·exact .inr (aC _ h)
 ·rcases ay.mp h with h|h
  ·exact .inl h
  ·exact .inr (au _ h)
def a1n{pre f post:List aw}(h:(pre++(f++post)).Nodup):∀a∈f,a∉pre++post:=λa ha z=>by
 rw[aZ,aZ]at h;rcases ay.mp z with z|z
 ·exact h.2.2 a z a (aC _ ha) rfl
 ·exact h.2.1.2.2 a ha a z rfl
theorem StR.set{H1:Hp}{i:Nat}{m:Md}{u:Ty}{v:V}{d:D}{fp:List aw}(h:StR K M U Y H P F)(hm:M[i]?=cz m)(e:Same H H1)(hv:Own K H1 (fp++F) u v d fp)(hn:fp.Nodup)(hf:∀a∈fp,H a=el) :
  StR K (M.set i (.own u)) (U.set i d) (Y.set i (cz v)) H1 P (fp++F):=by
 obtain⟨G,h1,h2,h3⟩:=h.all;have S:=h.more e hf (hv.lst u);obtain⟨d0,o,f,pre,post,e1,e2,e3,e4,e5⟩:=h1.at_ hm;have iF:=h2;rw[e4]at iF;have hG:∀a∈pre++post,a∈F:=λa ha=>h3 a (by rw[e4];exact mem_mid ha)
 have hc:Same (cut H F) (cut H1 (fp++F)):=K7 e λa o ha jy=>by
  rcases ay.mp jy with z|z
  ·rw[hf a z]at ha;cases ha
  ·exact z
 refine⟨⟨pre++(fp++post),e5 H1 _ (.own u) d (cz v) fp (λa ha=>h.toE.keep e a (hG a ha)) hc ⟨v,rfl,hv⟩,Y2 (N2 iF) hn λa ha z=>?_,λa ha=>?_⟩,S.lst,S.prot⟩
 ·obtain⟨ys,q⟩:=h.lst a (hG a z);rw[hf a ha]at q;cases q
 ·rcases a2h ha with z|z
  ·exact aC _ z
  ·exact au _ (hG a z)
def StR.kill{i:Nat}{m:Md}(h:StR K M U Y H P F)(hm:M[i]?=cz m)(d:D)(o:Option V):StR K (M.set i .dead) (U.set i d) (Y.set i o) H P F:=by
 obtain⟨G,h1,h2,h3⟩:=h.all;obtain⟨d0,o0,f,pre,post,e1,e2,e3,e4,e5⟩:=h1.at_ hm;rw[e4]at h2;exact⟨⟨pre++([]++post),e5 H F .dead d o [] (λ_ _=>rfl) (Same.refl _) rfl,N2 h2,λa ha=>h3 a (by rw[e4];exact mem_mid ha)⟩,h.lst,h.prot⟩
def set_same{α:Type}{l:List α}{i:Nat}{x:α}(h:l[i]?=cz x):l.set i x=l:=nR λj=>by
 rw[List.getElem?_set]
 split
 ·next hj=>
  subst hj
  split
  ·exact h.symm
  ·next hh=>exact (dY (by lia)).symm
 ·rfl
theorem StR.dead{i:Nat}{m:Md}(h:StR K M U Y H P F)(hm:M[i]?=cz m):StR K (M.set i .dead) U Y H P F:=by
 obtain⟨G,h1,_⟩:=h.all;obtain⟨d0,o0,f,pre,post,e1,e2,_⟩:=h1.at_ hm;have:=h.kill hm d0 o0
 rwa[set_same e1,set_same e2]at this
def Own.freeze(h:Own K H F u v d fp)(hs:∀a∈F',a∈F)(hd:∀a∈fp,a∉F'):Own K H F' .f v d []:=by
 have key:∀(u:Ty) {v:V} {d:D} {fp:List aw},Own K H F u v d fp->(∀a∈fp,a∉F')->Den K (cut H F') v d:=by
  intro u;refine Ty.rec (motive_1:=λu=>∀{v:V} {d:D} {fp:List aw},Own K H F u v d fp->(∀a∈fp,a∉F')->Den K (cut H F') v d)
   (motive_2:=λus=>∀{xs:List V} {ds:List D} {fp:List aw},OwnTs K H F us xs ds fp->(∀a∈fp,a∉F')->DenAll K (cut H F') xs ds) ?_ ?_ ?_ ?_ ?_ ?_ ?_ u
  ·intro v d fp h _;simp only[Own]at h;exact h.2.2.up (E7 hs)
  ·intro v d fp h _;simp only[Own]at h;exact h.2.up (E7 hs)
  ·intro u ih v d fp h hd;simp only[Own]at h;rcases h with⟨_,_,h⟩|⟨a,xs,ds,fs,rfl,h1,rfl,rfl,h2⟩
   ·exact h.up (E7 hs)
   ·refine den_list (.inl (.inl (j7 (hd a ak) h1))) (ListAll.den (R:=λv d f=>Own K H F u v d f/\∀a∈f,a∉F') (λv d f q=>ih q.1 q.2) (h2.imp λv d f hf _ q=>⟨q,λb hb=>hd b (aq _ (hf b hb))⟩))
  ·intro us ih v d fp h hd;simp only[Own]at h;rcases h with⟨_,_,h⟩|⟨a,xs,ds,rfl,h1,h0,rfl,h2⟩
   ·exact h.up (E7 hs)
   exact den_tup (SqT.of (j7 (λz=>h0 (hs a z)) h1)) (ih h2 hd)
  ·intro kt u ih v d fp h hd;simp only[Own]at h;obtain⟨a,es,ds,fs,rfl,h1,rfl,rfl,h3,h2⟩:=h;exact a4d (j7 (hd a ak) h1) (λe he=>(h3.2 e he).2.up (E7 hs)) (ListAll.den (R:=λv d f=>Own K H F u v d f/\∀a∈f,a∉F') (λv d f q=>ih q.1 q.2) (h2.imp λv d f hf _ q=>⟨q,λb hb=>hd b (aq _ (hf b hb))⟩))
  ·intro xs ds fp h _;simp only[OwnTs]at h;obtain⟨rfl,rfl,_⟩:=h;exact denAll_nil
  ·intro u us Dj Di xs ds fp h hd;simp only[OwnTs]at h;obtain⟨v,r,d,e,f,g,rfl,rfl,rfl,h1,h2⟩:=h;exact denAll_cons (Dj h1 λa ha=>hd a (aC _ ha)) (Di h2 λa ha=>hd a (au _ ha))
 simp only[Own];exact⟨trivial,key u h hd⟩
theorem StR.freeze{i:Nat}{u:Ty}(h:StR K M U Y H P F)(hm:M[i]?=cz (.own u)):∃F',StR K (M.set i (.own .f)) U Y H P F':=by
 obtain⟨G,h1,h2,h3⟩:=h.all;obtain⟨d,o,f,pre,post,e1,e2,⟨v,rfl,e3⟩,e4,e5⟩:=h1.at_ hm;rw[e4]at h2;have jx:∀a∈F.filter (λa=>decide (a∉f)),a∈F:=λa ha=>(bu.mp ha).1
 have tR:∀a∈f,a∉F.filter (λa=>decide (a∉f)):=λa ha z=>absurd ha (aP (bu.mp z).2)
 have hc:Same (cut H F) (cut H (F.filter (λa=>decide (a∉f)))):=E7 jx;have q:=e5 H _ (.own .f) d (cz v) [] (λ_ _=>rfl) hc ⟨v,rfl,e3.freeze jx tR⟩;rw[set_same e1,set_same e2]at q;refine⟨_,⟨_,q,N2 h2,λa ha=>bu.mpr ⟨h3 a (by rw[e4];exact mem_mid ha),aI λz=>a1n h2 a z ha⟩⟩,λa ha=>h.lst a (jx a ha),h.prot.trans hc⟩
end
inductive Cat where
 |new (u:Ty)|bor (u:Ty)|tmp
def ResR(K:af)(c:Cat)(H H':Hp)(F:List aw)(v:V)(d:D):Prop:=
 match c with
 |.new u=>∃fp,Own K H' (fp++F) u v d fp/\fp.Nodup/\∀a∈fp,H a=el
 |.bor u=>∃fp,Own K H' F u v d fp/\∀a∈fp,a∈F
 |.tmp=>Den K H' v d
section
variable {K:af}{c:Cat}{H H0 H' H1 H2:Hp}{F:List aw}{v:V}{d:D}
theorem ResR.den(r:ResR K c H H' F v d):Den K H' v d:=by
 cases c with
 |new u=>obtain⟨fp,h,_⟩:=r;exact h.den u
 |bor u=>obtain⟨fp,h,_⟩:=r;exact h.den u
 |tmp=>exact r
def Own.grow(h:Own K H1 F u v d fp)(e:Same H1 H2):Own K H2 F u v d fp:=
 h.frame (B2 e) u λa ha=>by obtain⟨ys,q⟩:=h.lst u a ha;rw[q,e _ _ q]
theorem ResR.up(r:ResR K c H H1 F v d)(e:Same H1 H2):ResR K c H H2 F v d:=by
 cases c with
 |new u=>obtain⟨fp,h,q⟩:=r;exact⟨fp,h.grow e,q⟩
 |bor u=>obtain⟨fp,h,q⟩:=r;exact⟨fp,h.grow e,q⟩
 |tmp=>exact Den.up r e
def ResR.early(r:ResR K c H H1 F v d)(e:Same H0 H):ResR K c H0 H1 F v d:=by
 cases c with
 |new u=>obtain⟨fp,h,n,q⟩:=r;exact⟨fp,h,n,λa ha=>e.free (q a ha)⟩
 |bor u=>exact r
 |tmp=>exact r
def E8(hi:imm d=p4)(hd:Den K H' v d)(hF:∀a∈F,∃ys:MuO,H' a=cz ys.1):ResR K (.new .i) H H' F v d:=by
 refine⟨[],?_,bw,λa ha=>(nomatch ha)⟩;simp only[Own,cB];exact⟨trivial,hi,hd.imm_out hF d hi⟩
def R5(h:Own K H F .i v d fp):fp=[]/\imm d=p4/\Den K (cut H F) v d:=by simpa only [Own]using h
def a8L(h:Own K H F .f v d fp):fp=[]/\Den K (cut H F) v d:=by simpa only [Own]using h
end
abbrev EvE:=List D->Option D
abbrev EvT:=List D->Option Bool
def spE(K:af)(M:List Md)(f:EvE)(c:Cat):TE:=λY H Q=>∃(U:List D) (P:Hp) (F:List aw) (d:D),StE K M U Y H P F/\f U=cz d/\∀v H',Same H H'->ResR K c H H' F v d->Q v H'
def PX(X:Cx)(M:List Md)(e:Expr)(f:EvE)(c:Cat):Prop:=PE X e (spE X.K M f c)
def PX.out{X:Cx}{M:List Md}{e:Expr}{f:EvE}{c:Cat}(h:PX X M e f c) :
  ∃t,PE X e t/\∀(U:List D) (Y:L2.St) (H P:Hp) (F:List aw) (d:D) (Q:VK),StE X.K M U Y H P F->f U=cz d->(∀v H',Same H H'->ResR X.K c H H' F v d->Q v H')->t Y H Q:=
 ⟨_,h,λU _ _ P F d _ S hf q=>⟨U,P,F,d,S,hf,q⟩⟩
def PX.mk{X:Cx}{M:List Md}{e:Expr}{f:EvE}{c:Cat}
  (h:∃t,PE X e t/\∀(U:List D) (Y:L2.St) (H P:Hp) (F:List aw) (d:D) (Q:VK),StE X.K M U Y H P F->f U=cz d->(∀v H',Same H H'->ResR X.K c H H' F v d->Q v H')->t Y H Q):PX X M e f c:=by
 obtain⟨t,p,q⟩:=h;exact λpins s Y H Q I ⟨U,P,F,d,S,hf,z⟩=>p pins s Y H Q I (q U Y H P F d Q S hf z)
def spT(K:af)(M:List Md)(g:EvT):TT:=λY H Q=>∃(U:List D) (P:Hp) (F:List aw) (b:Bool),StE K M U Y H P F/\g U=cz b/\∀H',Same H H'->Q b H'
def PTX(X:Cx)(M:List Md)(e:Expr)(g:EvT):Prop:=PT X e (spT X.K M g)
def PTX.out{X:Cx}{M:List Md}{e:Expr}{g:EvT}(h:PTX X M e g) :
  ∃t,PT X e t/\∀(U:List D) (Y:L2.St) (H P:Hp) (F:List aw) (b:Bool) (Q:Bool->Hp->Prop),StE X.K M U Y H P F->g U=cz b->(∀H',Same H H'->Q b H')->t Y H Q:=
 ⟨_,h,λU _ _ P F b _ S hf q=>⟨U,P,F,b,S,hf,q⟩⟩
def PTX.mk{X:Cx}{M:List Md}{e:Expr}{g:EvT}
  (h:∃t,PT X e t/\∀(U:List D) (Y:L2.St) (H P:Hp) (F:List aw) (b:Bool) (Q:Bool->Hp->Prop),StE X.K M U Y H P F->g U=cz b->(∀H',Same H H'->Q b H')->t Y H Q):PTX X M e g:=by
 obtain⟨t,p,q⟩:=h;exact λpins s Y H Q I ⟨U,P,F,d,S,hf,z⟩=>p pins s Y H Q I (q U Y H P F d Q S hf z)
def PWX(X:Cx)(M:List Md)(e:Expr)(g:EvT):Prop:=PW X e (spT X.K M g)
def PWX.out{X:Cx}{M:List Md}{e:Expr}{g:EvT}(h:PWX X M e g) :
  ∃t,PW X e t/\∀(U:List D) (Y:L2.St) (H P:Hp) (F:List aw) (b:Bool) (Q:Bool->Hp->Prop),StE X.K M U Y H P F->g U=cz b->(∀H',Same H H'->Q b H')->t Y H Q:=
 ⟨_,h,λU _ _ P F b _ S hf q=>⟨U,P,F,b,S,hf,q⟩⟩
def PWX.mk{X:Cx}{M:List Md}{e:Expr}{g:EvT}
  (h:∃t,PW X e t/\∀(U:List D) (Y:L2.St) (H P:Hp) (F:List aw) (b:Bool) (Q:Bool->Hp->Prop),StE X.K M U Y H P F->g U=cz b->(∀H',Same H H'->Q b H')->t Y H Q):PWX X M e g:=by
 obtain⟨t,p,q⟩:=h;exact λwhole pins s Y H Q I ⟨U,P,F,d,S,hf,z⟩=>p whole pins s Y H Q I (q U Y H P F d Q S hf z)
abbrev EvA:=List D->Option (List D)
def PAX(X:Cx)(M:List Md)(es:List Expr)(f:EvA):Prop:=
 ∃t,PA X es t/\∀(U:List D) (Y:L2.St) (H P:Hp) (F:List aw) (ds:List D) (Q:List V->Hp->Prop),StE X.K M U Y H P F->f U=cz ds->(∀vs H',Same H H'->DenAll X.K H' vs ds->Q vs H')->t Y H Q
def PAN(X:Cx)(M:List Md)(es:List Expr)(f:EvA)(us:List Ty):Prop:=
 ∃t,PA X es t/\∀(U:List D) (Y:L2.St) (H P:Hp) (F:List aw) (ds:List D) (Q:List V->Hp->Prop),StE X.K M U Y H P F->f U=cz ds->
  (∀vs H' fp,Same H H'->OwnTs X.K H' (fp++F) us vs ds fp->fp.Nodup->(∀a∈fp,H a=el)->Q vs H')->t Y H Q
noncomputable def b7(i:Nat):EvE:=λU=>cz (U.getD i .none)
noncomputable def eC(d:D):EvE:=λ_=>cz d
def e1(g:D->Option D)(a:EvE):EvE:=λU=>(a U).bind g
def e2(g:D->D->Option D)(a b:EvE):EvE:=λU=>(a U).bind λx=>(b U).bind λy=>g x y
def asB:D->Option Bool
 |.bool b=>cz b
 |_=>el
def a3N(a b:EvE):EvE:=λU=>(a U).bind λx=>(asB x).bind λk=>if k then b U else cz (.bool rp)
def eOr(a b:EvE):EvE:=λU=>(a U).bind λx=>(asB x).bind λk=>if k then cz (.bool p4) else b U
def b1H(a:EvE):EvE:=λU=>(a U).bind λx=>(asB x).bind λk=>cz (.bool !k)
def eIf(c:EvT)(a b:EvE):EvE:=λU=>(c U).bind λk=>if k then a U else b U
def eCh(g g':D->D->Option D)(a b c:EvE):EvE:=λU=>(a U).bind λx=>(b U).bind λy=>(g x y).bind λz=>(asB z).bind λk=>if k then (c U).bind λw=>g' y w else cz (.bool rp)
def tr:D->Option Bool
 |.none=>cz rp
 |.bool b=>cz b
 |.int i=>cz (i !=0)
 |.str x=>if x.length<=aU then cz ((x.length:Int)!=0) else el
 |.list ds=>cz !ds.isEmpty
 |.tuple ds=>cz !ds.isEmpty
 |.dict _=>el
def tV(a:EvE):EvT:=λU=>(a U).bind tr
def tB(a:EvE):EvT:=λU=>(a U).bind asB
def tNo(a:EvT):EvT:=λU=>(a U).bind λk=>cz !k
def tAn(a b:EvT):EvT:=λU=>(a U).bind λk=>if k then b U else cz rp
def R6(a b:EvT):EvT:=λU=>(a U).bind λk=>if k then cz p4 else b U
def f6:List D->Option (List D):=λ_=>cz []
def b8(a:EvE)(r:List D->Option (List D)):List D->Option (List D):=λU=>(a U).bind λx=>(r U).bind λxs=>cz (x::xs)
def N8(h:asB d=cz k):d=.bool k:=by
 cases d with
 |bool b=>cases h;rfl
 |_=>cases h
def bnd{α β:Type}{o:Option α}{f:α->Option β}{b:β}(h:o.bind f=cz b):∃a,o=cz a/\f a=cz b:=tu.mp h
section
variable {X:Cx}{M:List Md}{a b e e':Expr}{es rest:List Expr}{f g fa fb fc:EvE}{ga gb:EvT}{c ca cb cc:Cat}{u:Ty}{us:List Ty}{pos:eO}
def PX.imp(h:PX X M e f c)(k:∀(K:af) (H H':Hp) (F:List aw) (v:V) (d:D),(∀a∈F,∃ys:MuO,H a=cz ys.1)->Same H H'->ResR K c H H' F v d->ResR K c' H H' F v d):PX X M e f c':=by
 obtain⟨t,p,q⟩:=h.out;exact .mk ⟨t,p,λU Y H P F d Q S hf z=>q U Y H P F d Q S hf λv H' e r=>z v H' e (k _ _ _ _ _ _ S.lst e r)⟩
def PX.newf(h:PX X M e f (.bor .f)):PX X M e f (.new .f):=h.imp λK H H' F v d _ _ ⟨fp,o,_⟩=>by
 obtain⟨rfl,_⟩:=a8L o;exact⟨[],o,bw,λa ha=>(nomatch ha)⟩
def PX.newi(h:PX X M e f (.bor .i)):PX X M e f (.new .i):=h.imp λK H H' F v d _ _ ⟨fp,o,_⟩=>by
 obtain⟨rfl,_⟩:=R5 o;exact⟨[],o,bw,λa ha=>(nomatch ha)⟩
def PX.itof(h:PX X M e f (.new .i)):PX X M e f (.new .f):=h.imp λK H H' F v d _ _ ⟨fp,o,n,z⟩=>by
 obtain⟨rfl,_,q⟩:=R5 o;refine⟨[],?_,n,z⟩;simp only[Own];exact⟨trivial,q⟩
def PX.itol(h:PX X M e f (.new .i)):PX X M e f (.new (.l u)):=h.imp λK H H' F v d _ _ ⟨fp,o,n,z⟩=>by
 obtain⟨rfl,w,q⟩:=R5 o;refine⟨[],?_,n,z⟩;simp only[Own];exact .inl ⟨trivial,w,q⟩
def PX.frz(h:PX X M e f (.new u)):PX X M e f (.new .f):=h.imp λK H H' F v d hF _ ⟨fp,o,n,z⟩=>by
 refine⟨[],o.freeze (λa ha=>au _ (by simpa using ha)) (λa ha uS=>?_),bw,λa ha=>(nomatch ha)⟩;obtain⟨ys,q⟩:=hF a (by simpa using uS);rw[z a ha]at q;cases q
def z8(i:Nat)(hN:X.N[i]?=cz x:=by rfl)(hv:autoParam (NmV X x) ZY._auto_1)(hm:M[i]?=cz (.own u):=by rfl):PX X M (.Name x pos) (b7 i) (.bor u):=by
 refine .mk ⟨_,C6 hN hv.1 hv.2.1 hv.2.2,λU Y H P F d Q S hf q=>?_⟩;cases hf
 obtain⟨v,fp,e,o,sub⟩:=S.get hm;exact⟨v,e,q v H (Same.refl _) ⟨fp,o,sub⟩⟩
def a0J(h:PE X e (tC v))(hi:imm d=p4)(hd:∀H,Den X.K H v d):PX X M e (eC d) (.new .i):=by
 refine .mk ⟨_,h,λU Y H P F d' Q S hf q=>?_⟩;cases hf
 exact q v H (Same.refl _) (E8 hi (hd H) S.lst)
def c8{i j}:PX X M (.Constant (.int i) j pos) (eC (.int i)) (.new .i):=a0J b6A (by simp only[imm]) λ_=>den_int
def a0K{k j}:PX X M (.Constant (.bool k) j pos) (eC (.bool k)) (.new .i):=a0J b9b (by simp only[imm]) λ_=>den_bool
def E4{j}:PX X M (.Constant .none j pos) (eC .none) (.new .i):=a0J b6B (by simp only[imm]) λ_=>den_none
def b4t(hm:∃t,X.mg x=cz (.int i t))(hg:Gl X x:=by rfl)(hd:(x==("__debug__":bI))=rp:=by decide):PX X M (.Name x pos) (eC (.int i)) (.new .i):=by
 obtain⟨t,hm⟩:=hm;exact a0J (b3U (v:=.int i) hg hm ⟨_,rfl⟩ hd) (by simp only[imm]) λ_=>den_int
def A7{g:D->D->Option D}{U:List D}{d:D}(h:e2 g fa fb U=cz d):∃x y,fa U=cz x/\fb U=cz y/\g x y=cz d:=by
 obtain⟨x,h1,h⟩:=bnd h;obtain⟨y,h2,h⟩:=bnd h;exact⟨x,y,h1,h2,h⟩
def i9{g:D->D->Option D}(ho:OpS X (eK op) g)(ha:PX X M a fa ca)(hb:PX X M b fb cb):PX X M (.BinOp a op b pos) (e2 g fa fb) (.new .i):=by
 obtain⟨r,hr,hs⟩:=ho;obtain⟨ta,pa,qa⟩:=ha.out;obtain⟨tb,pb,qb⟩:=hb.out;refine .mk ⟨_,b1q hr pa pb,λU Y H P F d Q S hf q=>?_⟩;obtain⟨x,y,h1,h2,h3⟩:=A7 hf;exact qa U Y H P F x _ S h1 λv H1 e1 r1=>qb U Y H1 P F y _ (S.grow e1) h2 λw H2 e2 r2=>hs v w H2 x y d Q (r1.den.up e2) r2.den h3 λz hi hd=>q z H2 (e1.trans e2) (E8 hi (hd H2) (S.lst' (e1.trans e2)))
def b1I{g:D->D->Option D}(ho:OpS X (bW op) g)(ha:PX X M a fa ca)(hb:PX X M b fb cb)(hm:autoParam (eE op b=rp) ZX._auto_1):PX X M (.Compare a [op] [b] pos) (e2 g fa fb) (.new .i):=by
 obtain⟨r,hr,hs⟩:=ho;obtain⟨ta,pa,qa⟩:=ha.out;obtain⟨tb,pb,qb⟩:=hb.out;refine .mk ⟨_,a8E hr pa pb hm,λU Y H P F d Q S hf q=>?_⟩;obtain⟨x,y,h1,h2,h3⟩:=A7 hf;exact qa U Y H P F x _ S h1 λv H1 e1 r1=>qb U Y H1 P F y _ (S.grow e1) h2 λw H2 e2 r2=>hs v w H2 x y d Q (r1.den.up e2) r2.den h3 λz hi hd=>q z H2 (e1.trans e2) (E8 hi (hd H2) (S.lst' (e1.trans e2)))
def l5{op:CmpOp}{g:D->D->Option D}(ho:OpS X (bW op) g)(ha:PX X M a fa ca)(hb:PX X M b fb cb)(hm:autoParam (eE op b=rp) ZX._auto_1):PTX X M (.Compare a [op] [b] pos) (tB (e2 g fa fb)):=by
 obtain⟨r,hr,hs⟩:=ho;obtain⟨ta,pa,qa⟩:=ha.out;obtain⟨tb,pb,qb⟩:=hb.out;refine .mk ⟨_,a0C hr pa pb hm,λU Y H P F k Q S hf q=>?_⟩;obtain⟨d,hf,hk⟩:=bnd hf;cases N8 hk
 obtain⟨x,y,h1,h2,h3⟩:=A7 hf;exact qa U Y H P F x _ S h1 λv H1 e1 r1=>qb U Y H1 P F y _ (S.grow e1) h2 λw H2 e2 r2=>hs v w H2 x y _ _ (r1.den.up e2) r2.den h3 λz hi hd=>⟨k,(hd H2).bool_inv,q H2 (e1.trans e2)⟩
def a5R{op uJ:CmpOp}{g g':D->D->Option D}{c0:Expr}(ho:OpS X (bW op) g)(pA:OpS X (bW uJ) g')(ha:PX X M a fa ca)(hb:PX X M b fb cb)(hc:PX X M c0 fc cc)(hm:lastMarks [op,uJ] [b,c0]=rp:=by with_unfolding_all rfl) :
  PX X M (.Compare a [op,uJ] [b,c0] pos) (eCh g g' fa fb fc) (.new .i):=by
 obtain⟨r,hr,hs⟩:=ho;obtain⟨r',yP,sJ⟩:=pA;obtain⟨ta,pa,qa⟩:=ha.out;obtain⟨tb,pb,qb⟩:=hb.out;obtain⟨tc,pc,qc⟩:=hc.out;refine .mk ⟨_,b1s hr yP pa pb pc hm,λU Y H P F d Q S hf q=>?_⟩;obtain⟨x,h1,hf⟩:=bnd hf;obtain⟨y,h2,hf⟩:=bnd hf;obtain⟨z,h3,hf⟩:=bnd hf;obtain⟨k,h4,hf⟩:=bnd hf;cases N8 h4
 refine qa U Y H P F x _ S h1 λv H1 e1 r1=>qb U Y H1 P F y _ (S.grow e1) h2 λw H2 e2 r2=>hs v w H2 x y _ _ (r1.den.up e2) r2.den h3 λz hi hd=>⟨k,(hd H2).bool_inv,?_⟩
 cases k with
 |false=>
  have oA:d=.bool rp:=(aL hf).symm;subst oA;exact a5M (q _ H2 (e1.trans e2) (E8 (by simp only[imm]) den_bool (S.lst' (e1.trans e2))))
 |true=>
  obtain⟨w',h5,hf⟩:=bnd (show (fc U).bind (λw=>g' y w)=cz d from hf);exact a5N (qc U Y H2 P F w' _ (S.grow (e1.trans e2)) h5 λw3 H3 e3 r3=>sJ w w3 H3 y w' d Q (r2.den.up e3) r3.den hf λz hi hd=>q z H3 ((e1.trans e2).trans e3) (E8 hi (hd H3) (S.lst' ((e1.trans e2).trans e3))))
def a1o(h:PX X M a f c):PX X M (.BoolOp op [a] pos) f c:=by
 obtain⟨t,p,q⟩:=h.out;exact .mk ⟨t,b6F p,q⟩
def a0o(ha:PX X M a fa ca)(hb:PX X M (.BoolOp .And (b::rest) pos) fb (.new .i)):PX X M (.BoolOp .And (a::b::rest) pos) (a3N fa fb) (.new .i):=by
 obtain⟨ta,pa,qa⟩:=ha.out;obtain⟨tb,pb,qb⟩:=hb.out;refine .mk ⟨_,b6G pa pb,λU Y H P F d Q S hf q=>?_⟩;obtain⟨x,h1,hf⟩:=bnd hf;obtain⟨k,h2,hf⟩:=bnd hf;cases N8 h2
 refine qa U Y H P F _ _ S h1 λv H1 e1 r1=>⟨k,r1.den.bool_inv,?_⟩
 cases k with
 |false=>
  have oA:d=.bool rp:=(aL hf).symm;subst oA;exact a5M (q _ H1 e1 (E8 (by simp only[imm]) den_bool (S.lst' e1)))
 |true=>exact a5N (qb U Y H1 P F d Q (S.grow e1) hf λw H2 e2 r2=>q w H2 (e1.trans e2) (r2.early e1))
def b1J(ha:PX X M a fa ca):PX X M (.UnaryOp .Not a pos) (b1H fa) (.new .i):=by
 obtain⟨ta,pa,qa⟩:=ha.out;refine .mk ⟨_,b6H pa,λU Y H P F d Q S hf q=>?_⟩;obtain⟨x,h1,hf⟩:=bnd hf;obtain⟨k,h2,hf⟩:=bnd hf;cases N8 h2
 cases hf
 exact qa U Y H P F _ _ S h1 λv H1 e1 r1=>⟨k,r1.den.bool_inv,q _ H1 e1 (E8 (by simp only[imm]) den_bool (S.lst' e1))⟩
def b7i(h:Den K H v d)(ht:tr d=cz k):b6Y K v H k:=by
 cases d with
 |none=>cases h.none_inv;cases ht;exact rfl
 |bool b=>cases h.bool_inv;cases ht;exact rfl
 |int i=>cases h.int_inv;cases ht;exact rfl
 |str x=>
  cases h.str_inv
  replace ht:(if x.length<=aU then cz ((x.length:Int)!=0) else el)=cz k:=ht
  by_cases z:x.length<=aU
  ·rw[aH z]at ht;cases ht
   exact⟨z,rfl⟩
  ·rw[aM z]at ht;cases ht
 |list ds=>
  obtain⟨a,xs,rfl,h1,h2⟩:=h.list_inv;cases ht
  refine .inl ⟨xs,h1.l,?_⟩;have:=h2.length;cases xs<;>cases ds<;>simp_all
 |tuple ds=>
  obtain⟨a,xs,rfl,h1,h2⟩:=h.tup_inv;cases ht
  refine .inr (.inl ⟨xs,h1,?_⟩);have:=h2.length;cases xs<;>cases ds<;>simp_all
 |dict kvs=>cases ht
def J3(ha:PX X M a fa ca)(he:∀whole,rJ a X.env whole=(do let v <-whole;standAt a.pos;nW [v] (vh v)):=by intro _;rfl):PTX X M a (tV fa):=by
 obtain⟨ta,pa,qa⟩:=ha.out;refine .mk ⟨_,b1t pa he,λU Y H P F k Q S hf q=>?_⟩;obtain⟨x,h1,hf⟩:=bnd hf;exact qa U Y H P F _ _ S h1 λv H1 e1 r1=>⟨k,b7i r1.den hf,q H1 e1⟩
def M5(h:PTX X M a ga):PTX X M (.UnaryOp .Not a pos) (tNo ga):=by
 obtain⟨ta,pa,qa⟩:=h.out;refine .mk ⟨_,b6E pa,λU Y H P F k Q S hf q=>?_⟩;obtain⟨x,h1,hf⟩:=bnd hf;cases hf
 exact qa U Y H P F _ _ S h1 λH1 e1=>q H1 e1
theorem PWX.pt(h:PWX X M e ga):PTX X M e ga:=by
 obtain⟨t,p,q⟩:=h.out;exact .mk ⟨t,p.pt,q⟩
def a5S(h:PTX X M a ga):PWX X M (.BoolOp .And [a] pos) ga:=by
 obtain⟨t,p,q⟩:=h.out;exact .mk ⟨t,b3W p,q⟩
def a2i(h:PTX X M a ga):PWX X M (.BoolOp .Or [a] pos) ga:=by
 obtain⟨t,p,q⟩:=h.out;exact .mk ⟨t,b6C p,q⟩
def a8M(ha:PTX X M a ga)(hb:PWX X M (.BoolOp .And (b::rest) pos) gb):PWX X M (.BoolOp .And (a::b::rest) pos) (tAn ga gb):=by
 obtain⟨ta,pa,qa⟩:=ha.out;obtain⟨tb,pb,qb⟩:=hb.out;refine .mk ⟨_,b6D pa pb,λU Y H P F k Q S hf q=>?_⟩;obtain⟨x,h1,hf⟩:=bnd hf;refine qa U Y H P F _ _ S h1 λH1 e1=>?_
 cases x with
 |false=>cases hf;exact a5M (q H1 e1)
 |true=>exact a5N (qb U Y H1 P F k Q (S.grow e1) hf λH2 e2=>q H2 (e1.trans e2))
def W7(ha:PTX X M a ga)(hb:PWX X M (.BoolOp .Or (b::rest) pos) gb):PWX X M (.BoolOp .Or (a::b::rest) pos) (R6 ga gb):=by
 obtain⟨ta,pa,qa⟩:=ha.out;obtain⟨tb,pb,qb⟩:=hb.out;refine .mk ⟨_,b9c pa pb,λU Y H P F k Q S hf q=>?_⟩;obtain⟨x,h1,hf⟩:=bnd hf;refine qa U Y H P F _ _ S h1 λH1 e1=>?_
 cases x with
 |true=>cases hf;exact a5N (q H1 e1)
 |false=>exact a5M (qb U Y H1 P F k Q (S.grow e1) hf λH2 e2=>q H2 (e1.trans e2))
def b1K{c0:Expr}(hc:PTX X M c0 ga)(ha:PX X M a fa c)(hb:PX X M b fb c):PX X M (.IfExp c0 a b pos) (eIf ga fa fb) c:=by
 obtain⟨tc,pc,qc⟩:=hc.out;obtain⟨ta,pa,qa⟩:=ha.out;obtain⟨tb,pb,qb⟩:=hb.out;refine .mk ⟨_,b1k pc pa pb,λU Y H P F d Q S hf q=>?_⟩;obtain⟨k,h1,hf⟩:=bnd hf;refine qc U Y H P F _ _ S h1 λH1 e1=>?_
 cases k with
 |true=>exact a5N (qa U Y H1 P F d Q (S.grow e1) hf λv H2 e2 r2=>q v H2 (e1.trans e2) (r2.early e1))
 |false=>exact a5M (qb U Y H1 P F d Q (S.grow e1) hf λv H2 e2 r2=>q v H2 (e1.trans e2) (r2.early e1))
def m7:PAX X M [] f6:=⟨_,q9,λU Y H P F ds Q S hf q=>by cases hf;exact q [] H (Same.refl _) denAll_nil⟩
def i5{fr:List D->Option (List D)}(ha:PX X M a fa ca)(hr:PAX X M es fr)(hs:ax (a::es) X.env=(rp,cg a X.env)::ax es X.env:=by rfl):PAX X M (a::es) (b8 fa fr):=by
 obtain⟨ta,pa,qa⟩:=ha.out;obtain⟨tr,pr,qr⟩:=hr;refine⟨_,m5 pa pr hs,λU Y H P F ds Q S hf q=>?_⟩;obtain⟨x,h1,hf⟩:=bnd hf;obtain⟨xs,h2,hf⟩:=bnd hf;cases hf
 exact qa U Y H P F _ _ S h1 λv H1 e1 r1=>qr U Y H1 P F _ _ (S.grow e1) h2 λvs H2 e2 r2=>q (v::vs) H2 (e1.trans e2) (denAll_cons (r1.den.up e2) r2)
def n4:PAN X M [] f6 []:=⟨_,q9,λU Y H P F ds Q S hf q=>by
 cases hf
 refine q [] H [] (Same.refl _) ?_ bw λa ha=>(nomatch ha)
 simp only[OwnTs];exact⟨trivial,trivial,trivial⟩⟩
def o8{fr:List D->Option (List D)}(ha:PX X M a fa (.new u))(hr:PAN X M es fr us)(hs:ax (a::es) X.env=(rp,cg a X.env)::ax es X.env:=by rfl):PAN X M (a::es) (b8 fa fr) (u::us):=by
 obtain⟨ta,pa,qa⟩:=ha.out;obtain⟨tr,pr,qr⟩:=hr;refine⟨_,m5 pa pr hs,λU Y H P F ds Q S hf q=>?_⟩;obtain⟨x,h1,hf⟩:=bnd hf;obtain⟨xs,h2,hf⟩:=bnd hf;cases hf
 refine qa U Y H P F _ _ S h1 λv H1 e1 ⟨fp,o,n,fr⟩=>qr U Y H1 P (fp++F) _ _ (S.more e1 fr (o.lst u)) h2 λvs H2 gp e2 o2 n2 sW=>?_
 have hl:=o.lst u;have hc:Same (cut H1 (fp++F)) (cut H2 (fp++gp++F)):=K7 e2 λa o' ha jy=>by
  rw[ba]at jy;rcases ay.mp jy with z|z
  ·exact aC _ z
  ·rcases ay.mp z with z|z
   ·rw[sW a z]at ha;cases ha
   ·exact au _ z
 have hd:∀a∈gp,a∉fp:=λa ha z=>by
  obtain⟨ys,q⟩:=hl a z;rw[sW a ha]at q;cases q
 refine q (v::vs) H2 (fp++gp) (e1.trans e2) ?_ ?_ λa ha=>?_
 ·simp only[OwnTs];refine⟨v,vs,x,xs,fp,gp,rfl,rfl,rfl,o.frame hc u λa ha=>?_,o2.frame (H:=H2) (E7 λa ha=>?_) us λ_ _=>rfl⟩
  ·obtain⟨ys,q⟩:=hl a ha;rw[q,e2 _ _ q]
  ·simp only[ay]at ha ⊢;rcases ha with (z|z)|z
   ·exact .inr (.inl z)
   ·exact .inl z
   ·exact .inr (.inr z)
 ·rw[aZ];exact⟨n,n2,λa ha b hb e=>hd b hb (e▸ha)⟩
 ·rcases ay.mp ha with z|z
  ·exact fr a z
  ·exact e1.free (sW a z)
end
section
variable {K:af}{H H0 H1:Hp}{F fp:List aw}{vs:List V}{ds:List D}{p:aw}{u:Ty}{us:List Ty}
def b4u(hp:H p=el):Same (cut H (fp++F)) (cut (upd H p o) (p::fp++F)):=K7 (l6 hp o) λa u ha jy=>by
 rw[br]at jy;rcases az.mp jy with z|z
 ·subst z;rw[hp]at ha;cases ha
 ·exact z
theorem a4e:∀{n:Nat} {vs:List V} {ds:List D} {fp:List aw},OwnTs K H F (aR n u) vs ds fp->ListAll (Own K H F u) vs ds fp
 |0,_,_,_,h=>by
  simp only[gR,OwnTs]at h;obtain⟨rfl,rfl,rfl⟩:=h;exact m8
 |n+1,_,_,_,h=>by
  simp only[jr,OwnTs]at h;obtain⟨v,r,d,e,f,g,rfl,rfl,rfl,h1,h2⟩:=h;exact m6 h1 (a4e h2)
theorem OwnTs.len:∀{us:List Ty} {vs:List V} {ds:List D} {fp:List aw},OwnTs K H F us vs ds fp->vs.length=us.length/\ds.length=us.length
 |[],_,_,_,h=>by simp only[OwnTs]at h;obtain⟨rfl,rfl,_⟩:=h;exact⟨rfl,rfl⟩
 |u::us,_,_,_,h=>by
  simp only[OwnTs]at h;obtain⟨v,r,d,e,f,g,rfl,rfl,rfl,_,h2⟩:=h;obtain⟨a,b⟩:=OwnTs.len h2;exact⟨by rw[bx,bx,a],by rw[bx,bx,b]⟩
def m4(e:Same (cut H F) (cut H1 F'))(h:ListAll (Own K H F u) vs ds fp)(k:∀a∈fp,H1 a=H a):ListAll (Own K H1 F' u) vs ds fp:=
 h.imp λv d f hf _ q=>q.frame e u λa ha=>k a (hf a ha)
def a5T(h:ListAll (Own K H1 (fp++F) u) vs ds fp)(hn:fp.Nodup)(hf:∀a∈fp,H a=el)(e:Same H H1)(hp:H1 p=el)(hl:∀a∈fp,∃ys:MuO,H1 a=cz ys.1):ResR K (.new (.l u)) H (upd H1 p (.lst vs)) F (.ref p) (.list ds):=by
 have A_:p∉fp:=λz=>by obtain⟨ys,q⟩:=hl p z;rw[hp]at q;cases q
 refine⟨p::fp,?_,bz.mpr ⟨A_,hn⟩,λa ha=>?_⟩
 ·simp only[Own];refine .inr ⟨p,vs,ds,fp,rfl,i6,rfl,rfl,m4 (b4u hp) h λa ha=>?_⟩;exact g9 λz=>A_ (z▸ha)
 ·rcases az.mp ha with z|z
  ·subst z;exact e.free hp
  ·exact hf a z
theorem ListAll.of_den:∀{vs:List V} {ds:List D},DenAll K H vs ds->(∀v d,d∈ds->Den K H v d->R v d [])->ListAll R vs ds []
 |_,[],h,_=>by rw[h.nil_inv];exact m8
 |_,d::ds,h,k=>by
  obtain⟨v,r,rfl,h1,h2⟩:=h.cons_inv;have:=m6 (f:=[]) (k v d ak h1) (ListAll.of_den h2 λv d hd=>k v d (aq _ hd));exact this
theorem C9:∀{ds:List D} {d:D},g8 ds=p4->d∈ds->imm d=p4
 |[],d,_,h=>nomatch h
 |d0::ds,d,q,h=>by
  simp only[g8,ao]at q;rcases az.mp h with z|z
  ·rw[z];exact q.1
  ·exact C9 q.2 z
def N3(h:DenAll K H1 vs ds)(hi:g8 ds=p4)(e:Same H H1)(hp:H1 p=el)(hF:∀a∈F,∃ys:MuO,H1 a=cz ys.1):ResR K (.new (.l .i)) H (upd H1 p (.lst vs)) F (.ref p) (.list ds):=
 a5T (fp:=[]) (ListAll.of_den h λv d hd q=>by
  simp only[Own,cB];exact⟨trivial,C9 hi hd,q.imm_out hF d (C9 hi hd)⟩) bw (λa ha=>(nomatch ha)) e hp λa ha=>(nomatch ha)
def a2G(h:DenAll K H1 vs ds)(hp:H1 p=el):Den K (upd H1 p (.tup vs)) (.ref p) (.tuple ds):=den_tup (SqT.of i6) (h.up (l6 hp _))
def b4v(h:g8 ds=p4):imm (.tuple ds)=p4:=by simpa only [imm]using h
end
def G0(f:EvA):EvE:=λU=>(f U).bind λds=>cz (.list ds)
def B7(f:EvA):EvE:=λU=>(f U).bind λds=>cz (.tuple ds)
def V6(d:D):Option D:=if imm d then cz d else el
def R7(h:V6 d=cz e):e=d/\imm d=p4:=by
 unfold V6 at h;by_cases c:imm d=p4
 ·rw[aH c]at h;exact⟨(aL h).symm,c⟩
 ·rw[aM c]at h;cases h
def b1L(d:D):Option D:=match d with
 |.list ds=>if g8 ds then cz d else el
 |_=>el
def a7m(h:b1L d=cz e):∃ds,d=.list ds/\e=.list ds/\g8 ds=p4:=by
 cases d with
 |list ds=>
  have h':(if g8 ds=p4 then cz (g_ ds) else el)=cz e:=h;by_cases c:g8 ds=p4
  ·rw[aH c]at h';exact⟨ds,rfl,(aL h').symm,c⟩
  ·rw[aM c]at h';cases h'
 |_=>cases h
section
variable {X:Cx}{M:List Md}{a b e:Expr}{es:List Expr}{fa fb:EvE}{f:EvA}{c ca cb:Cat}{u:Ty}{us:List Ty}{pos:eO}
def D3(h:PAN X M es f (aR n u))(hn:n<=1000:=by decide):PX X M (.List es pos) (G0 f) (.new (.l u)):=by
 obtain⟨t,p,q⟩:=h;refine .mk ⟨_,b7a p,λU Y H P F d Q S hf k=>?_⟩;obtain⟨ds,h1,hf⟩:=bnd hf;cases hf
 refine q U Y H P F ds _ S h1 λvs H1 fp e o nd fr=>⟨?_,λx hx=>k (.ref x) _ (e.trans (l6 hx _)) (a5T (a4e o) nd fr e hx (o.lst _))⟩
 rw[o.len.1,gf];exact dF (X9 hn)
def a7n(h:PAN X M es f us)(hn:us.length<=1000:=by decide):PX X M (.Tuple es j pos) (B7 f) (.new (.tp us)):=by
 obtain⟨t,p,q⟩:=h;refine .mk ⟨_,a7f p,λU Y H P F d Q S hf k=>?_⟩;obtain⟨ds,h1,hf⟩:=bnd hf;cases hf
 refine q U Y H P F ds _ S h1 λvs H1 fp e o nd fr=>⟨?_,λx hx=>k (.ref x) _ (e.trans (l6 hx _)) ⟨fp,?_,nd,fr⟩⟩
 ·rw[o.len.1];exact dF (X9 hn)
 ·have AM:x∉fp++F:=λz=>by
   rcases ay.mp z with z|z
   ·obtain⟨ys,q⟩:=o.lst _ x z;rw[hx]at q;cases q
   ·obtain⟨ys,q⟩:=S.lst' e x z;rw[hx]at q;cases q
  simp only[Own];refine .inr ⟨x,vs,ds,rfl,i6,AM,rfl,o.frame (B2 (l6 hx _)) us λa ha=>?_⟩;exact g9 λz=>AM (z▸aC _ ha)
theorem a5U:∀{n:Nat} {vs:List V} {ds:List D} {fp:List aw},OwnTs K H F (aR n .i) vs ds fp->g8 ds=p4
 |0,_,_,_,h=>by
  simp only[gR,OwnTs]at h;obtain⟨rfl,rfl,rfl⟩:=h;simp only[g8]
 |n+1,_,_,_,h=>by
  simp only[jr,OwnTs]at h;obtain⟨v,r,d,e,f,g,rfl,rfl,rfl,h1,h2⟩:=h;simp only[g8,ao];exact⟨(R5 h1).2.1,a5U h2⟩
def T7{j}(h:PAN X M es f (aR n .i))(hn:n<=1000:=by decide):PX X M (.Tuple es j pos) (B7 f) (.new .i):=by
 obtain⟨t,p,q⟩:=h;refine .mk ⟨_,a7f p,λU Y H P F d Q S hf k=>?_⟩;obtain⟨ds,h1,hf⟩:=bnd hf;cases hf
 refine q U Y H P F ds _ S h1 λvs H1 fp e o nd fr=>⟨?_,λx hx=>k (.ref x) _ (e.trans (l6 hx _)) (E8 (b4v (a5U o)) (a2G (o.den _) hx) (S.lst' (e.trans (l6 hx _))))⟩
 rw[o.len.1,gf];exact dF (X9 hn)
def a9R(hr:∀U ds,r U=cz ds->ds.length=n)(h:b8 fa r U=cz ds):ds.length=n+1:=by
 obtain⟨x,_,h⟩:=bnd h;obtain⟨xs,h2,h⟩:=bnd h;cases h
 rw[bx,hr U xs h2]
def dIx:D->D->Option D
 |.list ds,.int k=>atI ds k
 |.tuple ds,.int k=>atI ds k
 |_,_=>el
def N9:D->D->Option D
 |.list ds,.int k=>atI ds k
 |_,_=>el
def v7(a b:D):Option D:=(dIx a b).bind V6
theorem DenAll.atI(h:DenAll K H vs ds)(e:L2.atI ds k=cz d):∃v j,L2.atI vs k=cz v/\ixN ds.length k=cz j/\vs[j]?=cz v/\ds[j]?=cz d/\Den K H v d:=by
 unfold L2.atI at e ⊢;obtain⟨j,e1,e2⟩:=bnd e;obtain⟨v,h1,h2⟩:=h.get e2;exact⟨v,j,by rw[h.length,e1];exact h1,e1,h1,e2,h2⟩
def b9u(K:af):R2:=λx y H Q=>b9p K x y H Q\/b9q K x y H Q
def a5g:IxR X (b9u X.K):=b4j.or b7c
def a8N(h:dIx x y=cz d):∃ds k,(x=.list ds\/x=.tuple ds)/\y=.int k/\L2.atI ds k=cz d:=by
 cases x with
 |list ds=>cases y with
  |int k=>exact⟨ds,k,.inl rfl,rfl,h⟩
  |_=>cases h
 |tuple ds=>cases y with
  |int k=>exact⟨ds,k,.inr rfl,rfl,h⟩
  |_=>cases h
 |_=>cases h
def b9v(hx:Den K H v x)(hy:Den K H w y)(h:dIx x y=cz d)(q:∀z,Den K H z d->Q z H):b9u K v w H Q:=by
 obtain⟨ds,k,e,rfl,h⟩:=a8N h;cases hy.int_inv
 rcases e with rfl|rfl
 ·obtain⟨a,xs,rfl,h1,h2⟩:=hx.list_inv;obtain⟨z,j,z1,z2,z3,z4,z5⟩:=h2.atI h;exact .inl ⟨a,xs,k,z,rfl,rfl,h1.l,z1,q z z5⟩
 ·obtain⟨a,xs,rfl,h1,h2⟩:=hx.tup_inv;obtain⟨z,j,z1,z2,z3,z4,z5⟩:=h2.atI h;exact .inr ⟨a,xs,k,z,rfl,rfl,h1,z1,q z z5⟩
def x9(ha:PX X M a fa ca)(hb:PX X M b fb cb)(hs:a0E b:=by exact λ_ _=>rfl):PX X M (.Subscript a b pos) (e2 v7 fa fb) (.new .i):=by
 obtain⟨ta,pa,qa⟩:=ha.out;obtain⟨tb,pb,qb⟩:=hb.out;refine .mk ⟨_,a8H a5g pa pb hs,λU Y H P F d Q S hf q=>?_⟩;obtain⟨x,y,h1,h2,h3⟩:=A7 hf;obtain⟨d',h3,h4⟩:=bnd h3;obtain⟨rfl,hi⟩:=R7 h4;exact qa U Y H P F x _ S h1 λv H1 e1 r1=>qb U Y H1 P F y _ (S.grow e1) h2 λw H2 e2 r2=>b9v (r1.den.up e2) r2.den h3 λz hz=>q z H2 (e1.trans e2) (E8 hi hz (S.lst' (e1.trans e2)))
def u6(ha:PX X M a fa (.new .f))(hb:PX X M b fb cb)(hs:a0E b:=by exact λ_ _=>rfl):PX X M (.Subscript a b pos) (e2 dIx fa fb) (.new .f):=by
 obtain⟨ta,pa,qa⟩:=ha.out;obtain⟨tb,pb,qb⟩:=hb.out;refine .mk ⟨_,a8H a5g pa pb hs,λU Y H P F d Q S hf q=>?_⟩;obtain⟨x,y,h1,h2,h3⟩:=A7 hf;refine qa U Y H P F x _ S h1 λv H1 e1 ⟨fp,o,_,_⟩=>qb U Y H1 P F y _ (S.grow e1) h2 λw H2 e2 r2=>?_
 obtain⟨rfl,o⟩:=a8L o;have o2:Den X.K (cut H2 F) v x:=o.up (B2 e2);obtain⟨ds,k,e,rfl,h⟩:=a8N h3;have fin:∀z,Den X.K (cut H2 F) z d->Q z H2:=λz hz=>q z H2 (e1.trans e2) ⟨[],by simp only[Own,cB];exact⟨trivial,hz⟩,bw,λa ha=>(nomatch ha)⟩
 have ey:=r2.den.int_inv;rcases e with rfl|rfl
 ·obtain⟨a,xs,rfl,h1,h2⟩:=o2.list_inv;obtain⟨z,j,z1,z2,z3,z4,z5⟩:=h2.atI h;exact .inl ⟨a,xs,k,z,rfl,ey,(T5 h1 i7).l,z1,fin z z5⟩
 ·obtain⟨a,xs,rfl,h1,h2⟩:=o2.tup_inv;obtain⟨z,j,z1,z2,z3,z4,z5⟩:=h2.atI h;exact .inr ⟨a,xs,k,z,rfl,ey,Q5 h1 i7,z1,fin z z5⟩
def O0(ha:PX X M a fa (.bor (.l u)))(hb:PX X M b fb cb)(hs:a0E b:=by exact λ_ _=>rfl):PX X M (.Subscript a b pos) (e2 N9 fa fb) (.bor u):=by
 obtain⟨ta,pa,qa⟩:=ha.out;obtain⟨tb,pb,qb⟩:=hb.out;refine .mk ⟨_,a8H a5g pa pb hs,λU Y H P F d Q S hf q=>?_⟩;obtain⟨x,y,h1,h2,h3⟩:=A7 hf;refine qa U Y H P F x _ S h1 λv H1 e1 ⟨fp,o,sub⟩=>qb U Y H1 P F y _ (S.grow e1) h2 λw H2 e2 r2=>?_
 have o2:=o.grow e2;cases x with
 |list ds=>
  cases y with
  |int k=>
   simp only[Own]at o2;rcases o2 with⟨_,hi,_⟩|⟨p,xs,iB,fs,rfl,p1,p2,rfl,p3⟩
   ·simp only[imm]at hi;cases hi
   ·cases p2
    have pQ:(ixN ds.length k).bind (λj=>ds[j]?)=cz d:=h3;obtain⟨j,j1,j2⟩:=bnd pQ;obtain⟨z,f,pre,post,z1,z2,z3,_,_⟩:=p3.at_ j2;refine .inl ⟨p,xs,k,z,rfl,r2.den.int_inv,.inl (.inl p1),?_,q z H2 (e1.trans e2) ⟨f,z2,λa ha=>sub a ?_⟩⟩
    ·unfold L2.atI;rw[p3.length,j1];exact z1
    ·rw[z3];exact aq _ (au _ (aC _ ha))
  |_=>cases h3
 |_=>cases h3
end
def eCl(g:List D->Option D)(f:EvA):EvE:=λU=>(f U).bind g
section
variable {X:Cx}{M:List Md}{a b e e0:Expr}{es:List Expr}{fa fb:EvE}{f:EvA}{c ca cb:Cat}{u:Ty}{us:List Ty}{pos p:eO}{x:bI}
def a5h{id:String}{g:List D->Option D}(hc:a8J X (.builtin id) g)(hm:X.mg x=el)(hv:gq x=cz (.builtin id))(h:PAX X M (e0::es) f)(hg:Gl X x:=by rfl)(hn:x≠"__name__":=by decide)(ma:(x==("__debug__":bI))=rp:=by decide)
  (he:ax (e0::es) X.env=(rp,cg e0 X.env)::ax es X.env:=by rfl) (fM:(cj pos (ax es X.env)).any (·.1)=rp:=by rfl):PX X M (.Call (.Name x p) (e0::es) [] pos) (eCl g f) (.new .i):=by
 obtain⟨r,hr,hs⟩:=hc;obtain⟨t,pa,qa⟩:=h;refine .mk ⟨_,R1 hr hg hm hv pa hn ma he fM,λU Y H P F d Q S hf q=>?_⟩;obtain⟨ds,h1,hf⟩:=bnd hf;exact qa U Y H P F ds _ S h1 λvs H1 e1 r1=>hs vs H1 ds d Q r1 hf λz hi hd=>q z H1 e1 (E8 hi (hd H1) (S.lst' e1))
def Y3(h:DenAll K H xs [d]):∃v,xs=[v]/\Den K H v d:=by
 obtain⟨v,r,rfl,h1,h2⟩:=h.cons_inv;cases h2.nil_inv
 exact⟨v,rfl,h1⟩
def a2j{K:af}{H:Hp}{xs:List V}{d e:D}(h:DenAll K H xs [d,e]):∃v w,xs=[v,w]/\Den K H v d/\Den K H w e:=by
 obtain⟨v,r,rfl,h1,h2⟩:=h.cons_inv;obtain⟨w,rfl,h3⟩:=Y3 h2;exact⟨v,w,rfl,h1,h3⟩
def A8:List D->Option D
 |[.list ds]=>cz (.int ds.length)
 |[.tuple ds]=>cz (.int ds.length)
 |[.str x]=>if x.length<=aU then cz (.int x.length) else el
 |_=>el
def b7j:a8J X (.builtin "len") A8:=by
 refine⟨_,a5a.or a5b,λxs H ds d Q hd hg q=>?_⟩
 match ds,hg with
 |[.list es],hg=>
  cases hg
  obtain⟨v,rfl,h⟩:=Y3 hd;obtain⟨a,ys,rfl,h1,h2⟩:=h.list_inv;refine .inl ⟨a,ys,rfl,.inl h1.l,?_⟩;rw[h2.length];exact q _ (by simp only[imm]) λ_=>den_int
 |[.tuple es],hg=>
  cases hg
  obtain⟨v,rfl,h⟩:=Y3 hd;obtain⟨a,ys,rfl,h1,h2⟩:=h.tup_inv;refine .inl ⟨a,ys,rfl,.inr h1,?_⟩;rw[h2.length];exact q _ (by simp only[imm]) λ_=>den_int
 |[.str x],hg=>
  have nv:(if x.length<=aU then cz (aG x.length) else el)=cz d:=hg;by_cases z:x.length<=aU
  ·rw[aH z]at nv;cases nv
   obtain⟨v,rfl,h⟩:=Y3 hd;cases h.str_inv
   exact .inr ⟨x,rfl,z,q _ (by simp only[imm]) λ_=>den_int⟩
  ·rw[aM z]at nv;cases nv
 |[.none],hg|[.bool _],hg|[.int _],hg|[.dict _],hg=>cases hg
 |[],hg=>cases hg
 |d1::_::_,hg=>cases d1<;>cases hg
def a1J:List D->Option (List Bool)
 |[]=>cz []
 |.bool b::r=>(a1J r).map (b::·)
 |_=>el
theorem a2H:∀{ds:List D} {bs:List Bool} {xs:List V},a1J ds=cz bs->DenAll K H xs ds->xs=bs.map V.bl
 |[],bs,xs,h,q=>by cases h;rw[q.nil_inv];rfl
 |.bool b::r,bs,xs,h,q=>by
  have h':(a1J r).map (b::·)=cz bs:=h;obtain⟨cs,h1,rfl⟩:=cX.mp h';obtain⟨v,rs,rfl,h2,h3⟩:=q.cons_inv;cases h2.bool_inv
  rw[a2H h1 h3];rfl
 |.none::r,bs,xs,h,q|.int _::r,bs,xs,h,q|.str _::r,bs,xs,h,q|.list _::r,bs,xs,h,q|.tuple _::r,bs,xs,h,q|.dict _::r,bs,xs,h,q=>by cases h
def a9S:List D->Option D
 |[.list ds]=>(a1J ds).map λbs=>.bool (bs.all id)
 |_=>el
open PyProof.Rows in
def a9T(hc:X.calm=p4):CallR X (.builtin "all") (λxs H Q=>∃(p:aw) (bs:List Bool),xs=[.ref p]/\SqX X.K H p (bs.map V.bl)/\Q (.bl (bs.all id)) H):=by
 intro pins s Y H xs us Q I r h;obtain⟨p,bs,rfl,hp,q⟩:=h;obtain⟨u,rfl,rx⟩:=vals1 r;cases (show u=bb p from rx)
 obtain⟨hz,cA,n,rv,ho⟩:=hp.ok I;have hl:s.heap.IsList p cA.toArray:=⟨_,ho,rfl,_,rfl⟩;have hlen:bs.length=cA.length:=by have:=rv.length;simpa using this
 refine call_all_walk (pW hl ?_);have gK:p≠s.heap.objs.size:=bg (aK ho);refine⟨s.heap.objs.size,[s.heap.objs.size,p],[s.heap.objs.size],_,_,_,λi=>(bs.getD i rp),rfl,Walks.list (A:=X.A.in1) (by simpa using I.ok.hd hc) s.heap.objs.size p gK cA.toArray,⟨⟨_,aF _ rfl,rfl,rfl⟩,hl.at λo e=>ag _ e⟩,?_,?_⟩
 ·intro i v s' Q' E' hP hQ;have hv:cA[i]?=cz v:=by simpa using hP
  have hi:i<bs.length:=by rw[hlen];exact (aQ.mp hv).1
  obtain⟨u,hu,ru⟩:=rv.get (i:=i) (x:=.bl bs[i]) (by simp[hi]);rw[hv]at hu;cases hu
  cases (show v=jz bs[i] from ru)
  refine eS ?_;have e:bs.getD i rp=bs[i]:=by simp[hi]
  have BA:Q' (bs.getD i rp) s':=hQ;rw[e]at BA;exact BA
 ·intro h' tk hk;have e:(aJ cA.toArray.size).all (λi=>bs.getD i rp)=bs.all id:=by
   rw[bh,<-hlen,cJ,aY,aY]
   constructor
   ·intro z b hb;obtain⟨i,hi,rfl⟩:=fG.mp hb;have:=z i (bR.mpr hi);simpa[hi]using this
   ·intro z i hi;have kZ:=bR.mp hi;have:=z bs[i] (cH kZ);simpa[kZ]using this
  rw[e];refine⟨.bl _,H,?_,rfl,q⟩;exact I.kept (t':=tk) λb o e=>hk b o (λz=>by
   have z':=ai.mp z;rw[z']at e;exact absurd (aK e) (dw _)) (ag _ e)
def b1M(hc:X.calm=p4):a8J X (.builtin "all") a9S:=by
 refine⟨_,a9T hc,λxs H ds d Q hd hg q=>?_⟩
 match ds,hg with
 |[.list es],hg=>
  have nv:(a1J es).map (λbs=>dh (bs.all id))=cz d:=hg;obtain⟨bs,h1,rfl⟩:=cX.mp nv;obtain⟨v,rfl,h⟩:=Y3 hd;obtain⟨a,ys,rfl,h2,h3⟩:=h.list_inv;rw[a2H h1 h3]at h2;exact⟨a,bs,rfl,h2,q _ (by simp only[imm]) λ_=>den_bool⟩
 |[.none],hg|[.bool _],hg|[.str _],hg|[.dict _],hg|[.int _],hg|[.tuple _],hg=>cases hg
 |[],hg=>cases hg
 |d1::_::_,hg=>cases d1<;>cases hg
def tyD:D->String
 |.int _=>"int"
 |.bool _=>"bool"
 |.list _=>"list"
 |.tuple _=>"tuple"
 |.none=>"NoneType"
 |.str _=>"str"
 |.dict _=>"dict"
def Den.ty{K:af}{H:Hp}{v:V}:∀{d:D},Den K H v d->(∀ds,d≠.tuple ds)->(∀ds,d≠.list ds)->(∀ds,d≠.dict ds)->TyOf K H v (.type (tyD d))
 |.none,h,_,_,_=>by cases h.none_inv;exact .non
 |.bool _,h,_,_,_=>by cases h.bool_inv;exact .bl _
 |.int _,h,_,_,_=>by cases h.int_inv;exact .int _
 |.str _,h,_,_,_=>by cases h.str_inv;exact .str _
 |.list ds,h,_,q,_=>absurd rfl (q ds)
 |.tuple ds,h,q,_,_=>absurd rfl (q ds)
 |.dict ds,h,_,_,q=>absurd rfl (q ds)
def b9w(K:af)(T:String)(g:D->Bool):List V->Hp->VK->Prop:=λxs H Q=>∃x d,xs=[x,.ty T]/\Den K H x d/\Q (.bl (g d)) H
def a7o{pins:List (aw×fN)}{Y:L2.St}{H:Hp}{s:av}{A:bE}{E:aj->av->Prop}{Q:aj->av->Prop}{cv:aj}{k:Bool}{a:aw}{xs:List V}(I:Inv X pins Y H s)(h:SqT X.K H a xs)(e:eA X.K (.type "tuple") cv=cz k)(hq:∀tk,Q (.bool k) {s with toks:=tk}) :
  aE (a_ X.prog X.w) A (call (.builtin "isinstance") [.ref a,cv]) Q E s:=by
 obtain⟨cA,_,⟨o,h1,h2,_⟩,_⟩:=I.tuple h;exact cS Ai I.kIn ⟨o,h1,h2⟩ e (λz=>nomatch z) hq
def a7p{pins:List (aw×fN)}{Y:L2.St}{H:Hp}{s:av}{A:bE}{E:aj->av->Prop}{Q:aj->av->Prop}{cv:aj}{k:Bool}{a:aw}{xs:List V}(I:Inv X pins Y H s)(h:SqX X.K H a xs)(e:eA X.K (.type "list") cv=cz k)(hq:∀tk,Q (.bool k) {s with toks:=tk}) :
  aE (a_ X.prog X.w) A (call (.builtin "isinstance") [.ref a,cv]) Q E s:=by
 obtain⟨_,cA,n,_,h1⟩:=h.ok I;exact cS nJ I.kIn ⟨_,h1,rfl⟩ e (λz=>nomatch z) hq
def a7q{pins:List (aw×fN)}{Y:L2.St}{H:Hp}{s:av}{A:bE}{E:aj->av->Prop}{Q:aj->av->Prop}{cv:aj}{k:Bool}{a:aw}{es:List (D×V×V)}(I:Inv X pins Y H s)(h:H a=cz (e6 a es))(e:eA X.K (.type "dict") cv=cz k)(hq:∀tk,Q (.bool k) {s with toks:=tk}) :
  aE (a_ X.prog X.w) A (call (.builtin "isinstance") [.ref a,cv]) Q E s:=by
 obtain⟨⟨_,_,_,o,ents,_,h1,h2,_⟩,_⟩:=(show ObjOk X.prog X.w H s.heap a (e6 a es) from I.hok a _ h);exact cS nK I.kIn ⟨o,h1,h2.1⟩ e (λz=>nomatch z) hq
def a9U{T:String}{g:D->Bool}(hf:∀(K:af) (d:D),eA K (.type (tyD d)) (.type T)=cz (g d)):CallR X (.builtin "isinstance") (b9w X.K T g):=by
 intro pins s Y H xs us Q I r h;obtain⟨x,d,rfl,hd,q⟩:=h;obtain⟨u,w',rfl,rx,ry⟩:=vals2 r;cases (show w'=dX T from ry)
 by_cases ht:(∀ds,d≠.tuple ds)/\(∀ds,d≠.list ds)/\(∀ds,d≠.dict ds)
 ·exact a9J I rx (hd.ty ht.1 ht.2.1 ht.2.2) (hf X.K d) λtk=>⟨.bl _,H,I.tok tk,rfl,q⟩
 ·cases d with
  |list ds=>
   obtain⟨a,ys,rfl,h1,_⟩:=hd.list_inv;cases (show u=bb a from rx)
   exact a7p I h1 (hf X.K (.list ds)) λtk=>⟨.bl _,H,I.tok tk,rfl,q⟩
  |tuple ds=>
   obtain⟨a,ys,rfl,h1,_⟩:=hd.tup_inv;cases (show u=bb a from rx)
   exact a7o I h1 (hf X.K (.tuple ds)) λtk=>⟨.bl _,H,I.tok tk,rfl,q⟩
  |dict ds=>
   simp only[Den]at hd;obtain⟨a,es,rfl,h1,_⟩:=hd;cases (show u=bb a from rx)
   exact a7q I h1 (hf X.K (.dict ds)) λtk=>⟨.bl _,H,I.tok tk,rfl,q⟩
  |_=>exact absurd ⟨(λds z=>by cases z),(λds z=>by cases z),(λds z=>by cases z)⟩ ht
def isInt:D->Bool
 |.int _=>p4
 |.bool _=>p4
 |_=>rp
def isBool:D->Bool
 |.bool _=>p4
 |_=>rp
def isList:D->Bool
 |.list _=>p4
 |_=>rp
def w6:D->Bool
 |.tuple _=>p4
 |_=>rp
def Q6{g:D->Bool}(hf:∀(K:af) (d:D),eA K (.type (tyD d)) (.type T)=cz (g d))(hm:X.mg "isinstance"=el)(hy:X.mg y=el)(hb:gq y=cz (.type T))(h:PX X M a fa ca)
  (hg:Gl X "isinstance":=by rfl) (Eu:Gl X y:=by rfl) (DV:y≠"__name__":=by decide) (EH:(y==("__debug__":bI))=rp:=by decide)
  (he:ax [a,.Name y py] X.env=(rp,cg a X.env)::ax [.Name y py] X.env:=by rfl) (mC:ax [.Name y py] X.env=(rp,cg (.Name y py) X.env)::ax [] X.env:=by rfl) (fM:(cj pos (ax [.Name y py] X.env)).any (·.1)=rp:=by rfl) :
  PX X M (.Call (.Name "isinstance" p) [a,.Name y py] [] pos) (e1 (λd=>cz (.bool (g d))) fa) (.new .i):=by
 obtain⟨ta,pa,qa⟩:=h.out;refine .mk ⟨_,R1 (a9U hf) hg hm PyProof.Rows.Boot.«isinstance» (m5 pa (m5 (b3V (v:=.ty T) Eu hy hb rfl DV EH) q9 mC) he) (by decide) (by decide) he fM,λU Y H P F d Q S oA q=>?_⟩;obtain⟨x,h1,oA⟩:=bnd oA;cases oA
 exact qa U Y H P F x _ S h1 λv H1 e1 r1=>⟨v,x,rfl,r1.den,q _ H1 e1 (E8 (by simp only[imm]) den_bool (S.lst' e1))⟩
def a8O(K:af)(d:D):eA K (.type (tyD d)) (.type "int")=cz (isInt d):=by cases d<;>rfl
def a5V(K:af)(d:D):eA K (.type (tyD d)) (.type "bool")=cz (isBool d):=by cases d<;>rfl
def a5W(K:af)(d:D):eA K (.type (tyD d)) (.type "list")=cz (isList d):=by cases d<;>rfl
def Y4(K:af)(d:D):eA K (.type (tyD d)) (.type "tuple")=cz (w6 d):=by cases d<;>rfl
end
def cutD(ds:List D)(lo hi:Option Int):List D:=(ds.drop (HT.sIx ds.length 0 lo)).take (HT.sIx ds.length ds.length hi-HT.sIx ds.length 0 lo)
abbrev EvO:=List D->Option (Option Int)
def oNo:EvO:=λ_=>cz el
def asI:D->Option Int
 |.int i=>cz i
 |_=>el
def oSo(a:EvE):EvO:=λU=>(a U).bind λd=>(asI d).bind λi=>cz (cz i)
def a2I(h:asI d=cz i):d=.int i:=by
 cases d with
 |int j=>cases h;rfl
 |_=>cases h
def asL:D->Option (List D)
 |.list ds=>cz ds
 |_=>el
def O1(h:asL d=cz ds):d=.list ds:=by
 cases d with
 |list j=>cases h;rfl
 |_=>cases h
def asS:D->Option (List D)
 |.list ds=>cz ds
 |.tuple ds=>cz ds
 |_=>el
def POX(X:Cx)(M:List Md)(e:Option Expr)(f:EvO):Prop:=
 ∃t,PO X e t/\∀(U:List D) (Y:L2.St) (H P:Hp) (F:List aw) (o:Option Int) (Q:Option Int->Hp->Prop),StE X.K M U Y H P F->f U=cz o->(∀H',Same H H'->Q o H')->t Y H Q
def eSl(a:EvE)(lo hi:EvO):EvE:=λU=>(a U).bind λx=>(asL x).bind λds=>(lo U).bind λl=>(hi U).bind λh=>cz (.list (cutD ds l h))
def eI(a:EvE):EvE:=λU=>(a U).bind b1L
section
variable {X:Cx}{M:List Md}{a b e e0:Expr}{lo hi:Option Expr}{es:List Expr}{fa fb:EvE}{fl fh:EvO}{f:EvA}{c ca cb:Cat}{u:Ty}{us:List Ty}{pos p p2:eO}{x:bI}
def b1N:POX X M el oNo:=⟨_,b4g,λU Y H P F o Q S hf q=>by cases hf;exact q H (Same.refl _)⟩
def b1O(h:PX X M a fa ca):POX X M (cz a) (oSo fa):=by
 obtain⟨t,p,q⟩:=h.out;refine⟨_,b4h p,λU Y H P F o Q S hf k=>?_⟩;obtain⟨d,h1,rW⟩:=bnd hf;obtain⟨i,h2,rV⟩:=bnd rW;cases a2I h2
 cases rV
 exact q U Y H P F _ _ S h1 λv H1 e1 r1=>⟨i,r1.den.int_inv,k H1 e1⟩
structure MkL (X:Cx) (M:List Md) (e:Expr) (f:EvE) (A:Prop):Prop where
 run:∃t,PE X e t/\∀(U:List D) (Y:L2.St) (H P:Hp) (F:List aw) (d:D) (Q:VK),StE X.K M U Y H P F->f U=cz d->
  (∀vs ds H1 l,Same H H1->d=.list ds->DenAll X.K H1 vs ds->(A->DenAll X.K (cut H1 F) vs ds)->H1 l=el->Q (.ref l) (upd H1 l (.lst vs)))->t Y H Q
theorem MkL.i{f:EvE}{A:Prop}(h:MkL X M e f A):PX X M e (eI f) (.new (.l .i)):=by
 obtain⟨t,p,q⟩:=h.run;refine .mk ⟨t,p,λU Y H P F d Q S hf k=>?_⟩;obtain⟨d',g1,hc⟩:=bnd hf;clear hf;obtain⟨es,rfl,rfl,hi⟩:=a7m hc;refine q U Y H P F _ Q S g1 λvs ds H1 l e1 ed h1 _ hl=>?_
 cases ed
 exact k _ _ (e1.trans (l6 hl _)) (N3 h1 hi e1 hl (S.lst' e1))
def frozen:Cat->Prop
 |.new .f=>True
 |.new .i=>True
 |_=>False
def E9(hc:frozen c)(r:ResR K c H H1 F v d):Den K (cut H1 F) v d:=by
 match c,hc with
 |.new .f,_=>
  obtain⟨fp,o,_⟩:=r;obtain⟨rfl,o⟩:=a8L o;exact o
 |.new .i,_=>
  obtain⟨fp,o,_⟩:=r;obtain⟨rfl,_,o⟩:=R5 o;exact o
def M6(r:ResR K c H H1 F v (.list ds)):∃a xs,v=.ref a/\SqX K H1 a xs/\DenAll K H1 xs ds/\(frozen c->DenAll K (cut H1 F) xs ds):=by
 by_cases hc:frozen c
 ·obtain⟨a,xs,rfl,k1,k2⟩:=(E9 hc r).list_inv;exact⟨a,xs,rfl,T5 k1 i7,k2.up i7,λ_=>k2⟩
 ·obtain⟨a,xs,rfl,k1,k2⟩:=r.den.list_inv;exact⟨a,xs,rfl,k1,k2,λh=>absurd h hc⟩
def b1P:SlR X (λx lo hi H Q=>∃a xs,x=.ref a/\SqX X.K H a xs/\∀p,H p=el->Q (.ref p) (upd H p (.lst (a7h xs lo hi)))):=by
 intro pins s Y H x v vl vu lo hi sl Q I rx hs pl pu ⟨a,xs,e,h,q⟩;exact b4k pins s Y H x v vl vu lo hi sl Q I rx hs pl pu ⟨a,xs,e,h.l,q⟩
def a8P(h:DenAll K H vs ds)(lo hi:Option Int):DenAll K H (a7h vs lo hi) (cutD ds lo hi):=by
 unfold a7h cutD;rw[h.length];exact (h.drop _).take _
def b1Q(ha:PX X M a fa ca)(hl:POX X M lo fl)(hh:POX X M hi fh):MkL X M (.Subscript a (.Slice lo hi el p2) pos) (eSl fa fl fh) (frozen ca):=by
 obtain⟨ta,pa,qa⟩:=ha.out;obtain⟨tl,pl,ql⟩:=hl;obtain⟨th,ph,qh⟩:=hh;refine⟨_,b1u b1P pa pl ph,λU Y H P F d Q S hf q=>?_⟩;obtain⟨x,h1,rW⟩:=bnd hf;obtain⟨ds,h2,rV⟩:=bnd rW;cases O1 h2
 obtain⟨l,h3,zW⟩:=bnd rV;obtain⟨h,h4,uU⟩:=bnd zW;cases uU
 refine qa U Y H P F _ _ S h1 λv H1 e1 r1=>ql U Y H1 P F l _ (S.grow e1) h3 λH2 e2=>qh U Y H2 P F h _ (S.grow (e1.trans e2)) h4 λH3 e3=>?_
 obtain⟨pp,xs,rfl,k1,k2,k3⟩:=M6 (r1.up (e2.trans e3));exact⟨pp,xs,rfl,k1,λz hz=>q _ _ H3 z ((e1.trans e2).trans e3) rfl (a8P k2 l h) (λhc=>a8P (k3 hc) l h) hz⟩
def a0d(a:EvE):EvE:=λU=>(a U).bind λd=>(asS d).bind λds=>cz (.list ds)
def a8Q(hm:X.mg "list"=el)(ha:PX X M a fa ca)(hg:Gl X "list":=by rfl)(he:ax [a] X.env=(rp,cg a X.env)::ax [] X.env:=by rfl)(fM:(cj pos (ax [] X.env)).any (·.1)=rp:=by rfl) :
  MkL X M (.Call (.Name "list" p) [a] [] pos) (a0d fa) (frozen ca):=by
 obtain⟨ta,pa,qa⟩:=ha.out;refine⟨_,N0 a0F hg hm PyProof.Rows.Boot.«list» (m5 pa q9 he) (by decide) (by decide) he fM,λU Y H P F d Q S hf q=>?_⟩;obtain⟨x,h1,rW⟩:=bnd hf;obtain⟨ds,h2,rV⟩:=bnd rW;cases rV
 refine qa U Y H P F _ _ S h1 λv H1 e1 r1=>?_
 cases x with
 |list es=>
  cases h2
  obtain⟨pp,xs,rfl,k1,k2,k3⟩:=M6 r1;exact⟨pp,xs,rfl,.inl k1.l,λz hz=>q _ _ H1 z e1 rfl k2 k3 hz⟩
 |tuple es=>
  cases h2
  by_cases hc:frozen ca
  ·obtain⟨pp,xs,rfl,k1,k2⟩:=(E9 hc r1).tup_inv;exact⟨pp,xs,rfl,.inr (Q5 k1 i7),λz hz=>q _ _ H1 z e1 rfl (k2.up i7) (λ_=>k2) hz⟩
  ·obtain⟨pp,xs,rfl,k1,k2⟩:=r1.den.tup_inv;exact⟨pp,xs,rfl,.inr k1,λz hz=>q _ _ H1 z e1 rfl k2 (λh=>absurd h hc) hz⟩
 |_=>cases h2
def B3(a:EvE):EvE:=λU=>(a U).bind λd=>(asS d).bind λds=>V6 (.tuple ds)
def O2(hm:X.mg "tuple"=el)(ha:PX X M a fa ca)(hg:Gl X "tuple":=by rfl)(he:ax [a] X.env=(rp,cg a X.env)::ax [] X.env:=by rfl)(fM:(cj pos (ax [] X.env)).any (·.1)=rp:=by rfl) :
  PX X M (.Call (.Name "tuple" p) [a] [] pos) (B3 fa) (.new .i):=by
 obtain⟨ta,pa,qa⟩:=ha.out;refine .mk ⟨_,N0 a3L hg hm PyProof.Rows.Boot.«tuple» (m5 pa q9 he) (by decide) (by decide) he fM,λU Y H P F d Q S hf q=>?_⟩;obtain⟨x,h1,rW⟩:=bnd hf;obtain⟨ds,h2,rV⟩:=bnd rW;obtain⟨rfl,hi⟩:=R7 rV;refine qa U Y H P F _ _ S h1 λv H1 e1 r1=>?_
 cases x with
 |list es=>
  cases h2
  obtain⟨pp,xs,rfl,k1,k2⟩:=r1.den.list_inv;exact⟨pp,xs,rfl,.inl ⟨k1.l,λz hz=>q _ _ (e1.trans (l6 hz _)) (E8 hi (a2G k2 hz) (S.lst' (e1.trans (l6 hz _))))⟩⟩
 |tuple es=>
  cases h2
  obtain⟨pp,xs,rfl,k1,k2⟩:=r1.den.tup_inv;exact⟨pp,xs,rfl,.inr ⟨k1,q _ _ e1 (E8 hi (den_tup k1 k2) (S.lst' e1))⟩⟩
 |_=>cases h2
def b4w:OpR X (eK .Add) (λx y H Q=>∃l b xs zs,x=.ref l/\y=.ref b/\SqX X.K H l xs/\SqX X.K H b zs/\xs.length+zs.length<=aU/\∀p,H p=el->Q (.ref p) (upd H p (.lst (xs++zs)))):=by
 intro pins s Y H x y v u Q I rx ry h;obtain⟨l,b,xs,zs,rfl,rfl,hH,hB,hz,q⟩:=h;cases rx
 cases ry
 obtain⟨z,cA,n,r,e⟩:=hH.ok I;obtain⟨z2,mO,n2,r2,e2⟩:=hB.ok I;have hl:=r.length;have uP:=r2.length;refine PySem.P.add_list e e2 ?_ (by rw[bh,bh];lia);have ea:cA.toArray++mO.toArray=(cA++mO).toArray:=by simp
 rw[ea];exact⟨.ref _,_,I.lnew (t':=s.toks) (r.append r2) (by rw[aN];lia),rfl,q _ I.fresh⟩
def a9V(a b:EvE):EvE:=λU=>(a U).bind λx=>(asL x).bind λds=>(b U).bind λy=>(asL y).bind λes=>if ds.length+es.length<=aU then cz (.list (ds++es)) else el
def b7k(ha:PX X M a fa ca)(hb:PX X M b fb cb):MkL X M (.BinOp a .Add b pos) (a9V fa fb) (frozen ca/\frozen cb):=by
 obtain⟨ta,pa,qa⟩:=ha.out;obtain⟨tb,pb,qb⟩:=hb.out;refine⟨_,b1q b4w pa pb,λU Y H P F d Q S hf q=>?_⟩;obtain⟨x,h1,rW⟩:=bnd hf;obtain⟨ds,h2,rV⟩:=bnd rW;cases O1 h2
 obtain⟨y,h3,zW⟩:=bnd rV;obtain⟨es,h4,uU⟩:=bnd zW;cases O1 h4
 by_cases hz:ds.length+es.length<=aU
 ·rw[aH hz]at uU;cases uU
  refine qa U Y H P F _ _ S h1 λv H1 e1 r1=>qb U Y H1 P F _ _ (S.grow e1) h3 λw H2 e2 r2=>?_
  obtain⟨pp,xs,rfl,k1,k2,k3⟩:=M6 (r1.up e2);obtain⟨qq,ys,rfl,j1,j2,j3⟩:=M6 r2;exact⟨pp,qq,xs,ys,rfl,rfl,k1,j1,by rw[k2.length,j2.length];exact hz,λz hz=>q _ _ H2 z (e1.trans e2) rfl (k2.append j2) (λhc=>(k3 hc.1).append (j3 hc.2)) hz⟩
 ·rw[aM hz]at uU;cases uU
def spD(K:af)(n:Nat)(m:List D->Option D)(u:Ty):Sp:=λvs H Q _=>∃ds d,vs.length=n/\DenAll K H vs ds/\m ds=cz d/\∀v H' fp,Same H H'->Own K H' fp u v d fp->fp.Nodup->(∀a∈fp,H a=el)->Q v H'
def b4x(W:Has X.prog X.w X.K X.mg X.base x k ps (spD X.K n m u))(hr:Room k X.A)(h:PAX X M (e0::es) f)(hu:u.shut=p4:=by rfl)(hl:(e0::es).length=n:=by rfl)(hfl:∀U ds,f U=cz ds->ds.length=(e0::es).length)
  (hg:Gl X x:=by rfl) (ma:(x==("__debug__":bI))=rp:=by decide) (he:ax (e0::es) X.env=(rp,cg e0 X.env)::ax es X.env:=by rfl) (fM:(cj pos (ax es X.env)).any (·.1)=rp:=by rfl) :
  PX X M (.Call (.Name x p) (e0::es) [] pos) (eCl m f) (.new u):=by
 obtain⟨t,pa,qa⟩:=h;refine .mk ⟨_,a7j W hr pa hg ma he fM,λU Y H P F d Q S hf q=>?_⟩;obtain⟨ds,h1,hf⟩:=bnd hf;refine qa U Y H P F ds _ S h1 λvs H1 e1 r1=>?_
 show spD X.K n m u (vs++[]) H1 Q E0;rw[bj];refine⟨ds,d,by rw[r1.length,hfl U ds h1,hl],r1,hf,λv H' fp e o nd fr=>q v H' (e1.trans e) ⟨fp,o.shut_out (λa ha=>?_) u hu,nd,λa ha=>e1.free (fr a ha)⟩⟩;rcases ay.mp ha with z|z
 ·exact o.lst u a z
 ·exact S.lst' (e1.trans e) a z
end
structure Walks (J:It) (Pr:Hp->Prop) (xs:List V):Prop where
 go:∀i H,Pr H->i<xs.length->J.go i H
 stop:∀i H,Pr H->xs.length<=i->J.stop i H
 yld:∀i H x H',Pr H->i<xs.length->J.yld i H x H'->H'=H/\xs[i]?=cz x
def a7r:Walks (Itl K a) (λH=>SqL K H a xs) xs where
 go:=λi H h hi=>⟨xs,xs[i],h,by simp[hi]⟩
 stop:=λi H h hi=>⟨xs,h,hi⟩
 yld:=λi H x H' h _ y=>⟨y.1,y.2 xs h⟩
def a9W:Walks (Itt K a) (λH=>SqT K H a xs) xs where
 go:=λi H h hi=>⟨xs,xs[i],h,by simp[hi]⟩
 stop:=λi H h hi=>⟨xs,h,hi⟩
 yld:=λi H x H' h _ y=>⟨y.1,y.2 xs h⟩
def a5X:Walks (Itr lo n) (λ_=>True) ((aJ n).map λ(k:Nat)=>V.int (lo+k)) where
 go:=λi H h hi=>by show i<n;simpa using hi
 stop:=λi H h hi=>by show n<=i;simpa using hi
 yld:=λi H x H' h hi y=>by
  obtain⟨e,y⟩:=y;refine⟨e,?_⟩;have kZ:i<n:=by simpa using hi
  rw[y];simp[kZ]
def PIX(X:Cx)(M:List Md)(tg iter:Expr)(f:EvA):Prop:=
 ∃wi,PI X tg iter wi/\∀(U:List D) (Y:L2.St) (H P:Hp) (F:List aw) (ds:List D) (R:It->Hp->Prop),StE X.K M U Y H P F->f U=cz ds->
  (∀J xs Pr H1,Same H H1->Walks J Pr xs->(∀H2,Same (cut H1 F) H2->Pr H2)->DenAll X.K (cut H1 F) xs ds->R J H1)->wi Y H R
def iL(a:EvE):EvA:=λU=>(a U).bind asL
def iT(a:EvE):EvA:=λU=>(a U).bind λd=>match d with
 |.tuple ds=>cz ds
 |_=>el
def G5(lo:Int)(n:Nat):List D:=(aJ n).map λ(k:Nat)=>.int (lo+k)
def iR(a:EvE):EvA:=λU=>(a U).bind λd=>(asI d).bind λn=>if -(2^62)<=n/\n<2^62 then cz (G5 0 n.toNat) else el
def iI(f:EvA):EvA:=λU=>(f U).bind λds=>if g8 ds then cz ds else el
section
variable {X:Cx}{M:List Md}{a b e tg iter:Expr}{fa fb:EvE}{f:EvA}{ca cb:Cat}{pos p:eO}
def o9(h:PX X M a fa ca)(hc:frozen ca:=by trivial):PIX X M tg a (iL fa):=by
 obtain⟨t,p,q⟩:=h.out;refine⟨_,b3Z p,λU Y H P F ds R S hf k=>?_⟩;obtain⟨d,h1,h2⟩:=bnd hf;cases O1 h2
 refine q U Y H P F _ _ S h1 λv H1 e1 r1=>?_
 obtain⟨aa,xs,rfl,k1,k2⟩:=(E9 hc r1).list_inv;exact⟨aa,rfl,⟨xs,(T5 k1 i7).l⟩,k _ xs _ H1 e1 a7r (λH2 e2=>(T5 k1 e2).l) k2⟩
def b4y(h:PX X M a fa ca)(hc:frozen ca:=by trivial):PIX X M tg a (iT fa):=by
 obtain⟨t,p,q⟩:=h.out;refine⟨_,b6O p,λU Y H P F ds R S hf k=>?_⟩;obtain⟨d,h1,h2⟩:=bnd hf;cases d with
 |tuple es=>
  cases h2
  refine q U Y H P F _ _ S h1 λv H1 e1 r1=>?_
  obtain⟨aa,xs,rfl,k1,k2⟩:=(E9 hc r1).tup_inv;exact⟨aa,rfl,⟨xs,Q5 k1 i7⟩,k _ xs _ H1 e1 a9W (λH2 e2=>Q5 k1 e2) k2⟩
 |_=>cases h2
def a9X:DenAll K H ((aJ n).map λ(k:Nat)=>V.int (lo+k)) (G5 lo n):=by
 have:∀l:List Nat,DenAll K H (l.map λ(k:Nat)=>V.int (lo+k)) (l.map λ(k:Nat)=>aG (lo+k)):=by
  intro l
  induction l with
  |nil=>exact denAll_nil
  |cons x l ih=>exact denAll_cons den_int ih
 exact this _
def z9(hm:X.mg "range"=el)(h:PX X M a fa ca)(hg:Gl X "range":=by rfl)(he:ax [a] X.env=[(rp,cg a X.env)]:=by rfl)(mC:ax [a] X.env=(rp,cg a X.env)::ax [] X.env:=by rfl) :
  PIX X M tg (.Call (.Name "range" p) [a] [] pos) (iR fa):=by
 obtain⟨t,p,q⟩:=h.out;refine⟨_,a9G hg hm (m5 p q9 mC) he,λU Y H P F ds R S hf k=>?_⟩;obtain⟨d,h1,g1⟩:=bnd hf;obtain⟨n,h2,g2⟩:=bnd g1;cases a2I h2
 by_cases c:-(2^62)<=n/\n<2^62
 ·rw[aH c]at g2;cases g2
  exact q U Y H P F _ _ S h1 λv H1 e1 r1=>⟨n,by rw[r1.den.int_inv],c.1,c.2,k _ _ _ H1 e1 a5X (λ_ _=>trivial) a9X⟩
 ·rw[aM c]at g2;cases g2
def PIX.i(h:PIX X M tg iter f):PIX X M tg iter (iI f):=by
 obtain⟨wi,p,q⟩:=h;refine⟨wi,p,λU Y H P F ds R S hf k=>?_⟩;obtain⟨es,h1,g1⟩:=bnd hf;by_cases c:g8 es=p4
 ·rw[aH c]at g1;cases g1
  exact q U Y H P F _ R S h1 k
 ·rw[aM c]at g1;cases g1
end
def TgR(K:af)(g:TG)(n:Nat)(pt:D->Option (List D)):Prop:=
 ∀(H Hc:Hp) (x:V) (d:D) (ds:List D) (Y:L2.St) (Q:L2.St->Hp->Prop),Same Hc H->Den K Hc x d->pt d=cz ds->n<=Y.length->(∀vs,DenAll K Hc vs ds->vs.length=n->Q (vs.map cz++Y.drop n) H)->g x Y H Q
def pt1(d:D):Option (List D):=cz [d]
def pt2:D->Option (List D)
 |.tuple [a,b]=>cz [a,b]
 |_=>el
def B9:TgR K (R0 0) 1 pt1:=by
 intro H Hc x d ds Y Q e hd hp hn k;cases hp
 cases Y with
 |nil=>simp at hn
 |cons o Y=>exact k [x] (denAll_cons hd denAll_nil) rfl
def a2k:TgR K (b6K K 2 (a2y (R0 0) (a2y (R0 1) b3Y))) 2 pt2:=by
 intro H Hc x d ds Y Q e hd hp hn k
 match d,hp with
 |.tuple [a,b],hp=>
  cases hp
  obtain⟨aa,xs,rfl,h1,h2⟩:=hd.tup_inv;obtain⟨v,w,rfl,h3,h4⟩:=a2j h2
  match Y,hn with
  |o::o'::Y,_=>
   exact⟨aa,_,rfl,Q5 h1 e,rfl,v,[w],rfl,w,[],rfl,rfl,k [v,w] (denAll_cons h3 (denAll_cons h4 denAll_nil)) rfl⟩
def P6(pt:D->Option (List D))(t:EvT)(g:EvE)(cs:List D):List D->Option (List D)
 |[]=>cz []
 |d::ds=>(pt d).bind λbs=>(t (bs++cs)).bind λk=>if k then (g (bs++cs)).bind λy=>(P6 pt t g cs ds).bind λys=>cz (y::ys) else P6 pt t g cs ds
def l0(fi:EvA)(js:List Nat)(pt:D->Option (List D))(t:EvT)(g:EvE):EvE:=λU=>(fi U).bind λds=>if ds.length<=1000000 then (P6 pt t g (js.map λj=>U.getD j .none) ds).bind λys=>cz (.list ys) else el
def tT:EvT:=λ_=>cz p4
def W8(m:Md)(n:Nat)(M:List Md)(js:List Nat):List Md:=aR n m++js.map λj=>M.getD j .dead
section
variable {K:af}{J:It}{Pr:Hp->Prop}{xs:List V}{Dl:aw}{g:TG}{tt:TT}{te:TE}{Y:L2.St}{H:Hp}{R:Hp->Prop}
def a9Y(hw:Walks J Pr xs)(Pv:Nat->List V->L2.St->Hp->Prop)(h0:Pv 0 [] Y (upd H Dl (.lst [])))(hp:∀i ys Y H,Pv i ys Y H->Pr H)
  (hs:∀i x ys Y H,xs[i]?=cz x->Pv i ys Y H->g x Y H λY3 H3=>tt Y3 H3 λb H4=>if b=p4 then te Y3 H4 λy H5=>H5 Dl=cz (.lst ys)/\ys.length<aU/\Pv (i+1) (ys++[y]) Y3 (upd H5 Dl (.lst (ys++[y]))) else Pv (i+1) ys Y3 H4)
  (hd:∀ys Y H,Pv xs.length ys Y H->R H) :
  ∃W:Nat->Nat->List V->L2.St->Hp->Prop,(∃m,W 0 m [] Y (upd H Dl (.lst [])))/\∀i m ys Y' H',W i m ys Y' H'->(J.stop i H'/\R H')\/
   (J.go i H'/\∃(N:V->L2.St->Hp->Prop) (NO:L2.St->Hp->Prop),(∀y Y3 H4,N y Y3 H4->H4 Dl=cz (.lst ys)/\ys.length<aU/\∃m',m'<m/\W (i+1) m' (ys++[y]) Y3 (upd H4 Dl (.lst (ys++[y]))))/\
    (∀Y3 H4,NO Y3 H4->∃m',m'<m/\W (i+1) m' ys Y3 H4)/\∀x H2,J.yld i H' x H2->g x Y' H2 λY3 H3=>tt Y3 H3 λb H4=>if b=p4 then te Y3 H4 λy H5=>N y Y3 H5 else NO Y3 H4):=by
 refine⟨λi m ys Y H=>m=xs.length-i/\i<=xs.length/\Pv i ys Y H,⟨xs.length,by simp,b_ _,h0⟩,?_⟩;rintro i m ys Y H ⟨rfl,hi,p⟩;have q:=hp i ys Y H p;by_cases gS:i<xs.length
 ·refine .inr ⟨hw.go i H q gS,λy Y3 H4=>H4 Dl=cz (.lst ys)/\ys.length<aU/\Pv (i+1) (ys++[y]) Y3 (upd H4 Dl (.lst (ys++[y]))),λY3 H4=>Pv (i+1) ys Y3 H4,λy Y3 H4 ⟨r1,r2,r3⟩=>⟨r1,r2,xs.length-(i+1),by lia,rfl,gS,r3⟩,λY3 H4 r3=>⟨xs.length-(i+1),by lia,rfl,gS,r3⟩,λx H' y=>?_⟩;obtain⟨e,yy⟩:=hw.yld i H x H' q gS y;subst e;exact hs i x ys Y _ yy p
 ·have e:i=xs.length:=by lia
  subst e;exact .inl ⟨hw.stop _ H q (aD _),hd ys Y H p⟩
end
def b1R{js:List Nat}(S:StE K M U Y H P F)(hm:m=.i\/m=.f)(hv:DenAll K (cut H F) vs bs)(hi:m=.i->g8 bs=p4)(hn:vs.length=n)
  (hY:Yb=vs.map cz++js.map λj=>(Y[j]?).getD el):StE K (W8 (.own m) n M js) (bs++js.map λj=>U.getD j .none) Yb H P F:=by
 obtain⟨G,h1,h3⟩:=S.all;obtain⟨G',q,hq⟩:=h1.pick h3 js;refine⟨⟨G',?_,hq⟩,S.lst,S.prot⟩;subst hY hn;unfold W8;have key:∀{vs:List V} {bs:List D},DenAll K (cut H F) vs bs->(m=.i->g8 bs=p4)->StAll K H F (aR vs.length (.own m)++js.map λj=>M.getD j .dead) (bs++js.map λj=>U.getD j .none) (vs.map cz++js.map λj=>(Y[j]?).getD el) G':=by
  intro vs
  induction vs with
  |nil=>
   intro bs h _;have hl:=h.length;have:bs=[]:=eD.mp (by simpa using hl.symm);subst this;exact q
  |cons v vs ih=>
   intro bs h hi;cases bs with
   |nil=>have:=h.length;simp at this
   |cons b bs=>
    obtain⟨v',r,e,h4,h5⟩:=h.cons_inv;cases e
    have:=k9 (K:=K) (H:=H) (F:=F) (m:=.own m) (d:=b) (o:=cz v) (f:=[]) ⟨v,rfl,by
     rcases hm with rfl|rfl
     ·have:=hi rfl;simp only[g8,ao]at this;simp only[Own];exact⟨trivial,this.1,h4⟩
     ·simp only[Own];exact⟨trivial,h4⟩⟩ (ih h5 λe=>by have:=hi e;simp only[g8,ao]at this;exact this.2)
    simpa[jr]using this
 exact key hv hi
def a7s(h:P6 pt t g cs (d::ds)=cz rs) :
  ∃bs k,pt d=cz bs/\t (bs++cs)=cz k/\((k=p4/\∃y ys,g (bs++cs)=cz y/\P6 pt t g cs ds=cz ys/\rs=y::ys)\/(k=rp/\P6 pt t g cs ds=cz rs)):=by
 simp only[P6]at h;obtain⟨bs,h1,g1⟩:=bnd h;obtain⟨k,h2,g2⟩:=bnd g1;refine⟨bs,k,h1,h2,?_⟩;cases k with
 |true=>
  rw[aH rfl]at g2;obtain⟨y,h3,g3⟩:=bnd g2;obtain⟨ys,h4,g4⟩:=bnd g3;cases g4
  exact .inl ⟨rfl,y,ys,h3,h4,rfl⟩
 |false=>
  rw[aM aW]at g2;exact .inr ⟨rfl,g2⟩
section
variable {X:Cx}{M:List Md}{tn ys:List bI}{js:List Nat}{scope:gi}{elt tg iter:Expr}{ifs:List Expr}{pos:eO}{g:TG}{n:Nat}{pt:D->Option (List D)}{fi:EvA}{ft:EvT}{fe:EvE}{u m:Ty}
def a4f(hi:∀(U:List D) (Y:L2.St) (H P:Hp) (F:List aw) (ds:List D) (R:It->Hp->Prop),StE X.K M U Y H P F->fi U=cz ds->
   (∀J xs Pr H1,Same H H1->Walks J Pr xs->(∀H2,Same (cut H1 F) H2->Pr H2)->DenAll X.K (cut H1 F) xs ds->R J H1)->wi Y H R)
  (hg:TgR X.K g n pt) (hm:m=.i\/m=.f) (qw:m=.i->∀U ds,fi U=cz ds->∀d∈ds,∀bs,pt d=cz bs->g8 bs=p4) (vM:tn.length=n)
  (S:StE X.K M U Y H P F) (hf:l0 fi js pt ft fe U=cz d) (q:∀v H',Same H H'->ResR X.K (.new (.l u)) H H' F v d->Q v H') :
  a5d wi g (spT X.K (W8 (.own m) n M js) ft) (spE X.K (W8 (.own m) n M js) fe (.new u)) (a1m tn js) Y H Q:=by
 obtain⟨ds,h1,g1⟩:=bnd hf;by_cases hz:ds.length<=1000000
 ·rw[aH hz]at g1;obtain⟨res,h2,g2⟩:=bnd g1;cases g2
  refine hi U Y H P F ds _ S h1 λJ xs Pr H1 e1 hw tQ hx Dl hD=>?_
  have qV:=hx.length;have GY:Dl∉F:=λz=>by obtain⟨zs,w⟩:=S.lst' e1 Dl z;rw[hD]at w;cases w
  refine a9Y hw (λi ys Y' H'=>(∃os:L2.St,os.length=n/\Y'=os++js.map λj=>(Y[j]?).getD el)/\H' Dl=cz (.lst ys)/\Same H1 H'/\∃(fp:List aw) (zs rs:List D),ListAll (Own X.K H' (Dl::fp++F) u) ys zs fp/\fp.Nodup/\(∀a∈fp,H1 a=el)/\Dl∉fp/\
    P6 pt ft fe (js.map λj=>U.getD j .none) (ds.drop i)=cz rs/\res=zs++rs/\ys.length<=i) ?_ ?_ ?_ ?_
  ·exact⟨⟨_,by rw[gf];exact vM,rfl⟩,i6,l6 hD _,[],[],res,m8,bw,λa ha=>(nomatch ha),λh=>(nomatch h),h2,rfl,aD _⟩
  ·rintro i ys Y' H' ⟨_,_,e,_⟩;exact tQ H' (i7.trans e)
  ·rintro i x ys Y' H' sG ⟨⟨os,ho,rfl⟩,uT,e2,fp,zs,rs,jZ,iF,qA,qJ,hc,qo,xu⟩;obtain⟨d,qE,_⟩:=hx.getV sG;have mB:i<ds.length:=(aQ.mp qE).1;have lJ:ds.drop i=d::ds.drop (i+1):=by
    rw[fB mB]
    congr 1;exact (aQ.mp qE).2
   rw[lJ]at hc;obtain⟨bs,k,Ba,DQ,DO⟩:=a7s hc;have hfl:∀a∈Dl::fp,∃zs:MuO,H' a=cz zs.1:=λa ha=>by
    rcases az.mp ha with z|z
    ·subst z;exact⟨⟨.lst ys,trivial⟩,uT⟩
    ·exact jZ.lst (u:=u) (λv d f q=>q.lst u) a z
   have oy:∀a∈Dl::fp,H1 a=el:=λa ha=>by
    rcases az.mp ha with z|z
    ·subst z;exact hD
    ·exact qA a z
   have S1:StE X.K M U Y H' P (Dl::fp++F):=(S.grow e1).more (fp:=Dl::fp) e2 oy hfl;have zH:DenAll X.K (cut H' (Dl::fp++F)) xs ds:=hx.up (a0I (fp:=Dl::fp) e2 oy);obtain⟨d',wq,ug⟩:=zH.getV sG;rw[qE]at wq;cases wq
   refine hg H' _ x d bs _ _ i7 ug Ba (by rw[aN,ho];lia) λvs nV xw=>?_
   rw[List.drop_append_of_le_length (by lia),List.drop_of_length_le (by lia),cB];have SB:StE X.K (W8 (.own m) n M js) (bs++js.map λj=>U.getD j .none) (vs.map cz++js.map λj=>(Y[j]?).getD el) H' P (Dl::fp++F):=
    b1R S1 hm nV (λe=>qw e U ds h1 d (bp qE) bs Ba) xw rfl
   refine⟨_,P,_,k,SB,DQ,λH3 e3=>?_⟩;rcases DO with⟨rfl,y,rest,DN,yT,rfl⟩|⟨rfl,yT⟩
   ·refine a5N ⟨_,P,_,y,SB.grow e3,DN,λv H4 e4 ⟨gp,o,nd,fr⟩=>?_⟩;have xV:=e3.trans e4;have Bm:Dl∉gp:=λz=>by have w:=fr Dl z;rw[e3 _ _ uT]at w;cases w
    have Ey:∀a∈gp,a∉fp:=λa ha z=>by
     obtain⟨zs,w⟩:=hfl a (aq _ z);have w2:=fr a ha;rw[e3 _ _ w]at w2;cases w2
    have jx:∀a,a∈Dl::(fp++gp)++F->a∈gp++(Dl::fp++F):=λa ha=>by
     simp only[br,az,ay]at ha ⊢;rcases ha with z|(z|z)|z
     ·exact .inr (.inl z)
     ·exact .inr (.inr (.inl z))
     ·exact .inl z
     ·exact .inr (.inr (.inr z))
    have zK:Same (cut H' (Dl::fp++F)) (cut (upd H4 Dl (.lst (ys++[v]))) (Dl::(fp++gp)++F)):=λa o' ha=>by
     obtain⟨n1,n2⟩:=o7 ha;have gK:a≠Dl:=λz=>n1 (by rw[z];exact aC _ ak)
     refine j7 (λz=>?_) (by rw[g9 gK];exact xV _ _ n2);rcases ay.mp (jx a z) with w|w
     ·have:=fr a w;rw[e3 _ _ n2]at this;cases this
     ·exact n1 w
    have EU:Same (cut H4 (gp++(Dl::fp++F))) (cut (upd H4 Dl (.lst (ys++[v]))) (Dl::(fp++gp)++F)):=λa o' ha=>by
     obtain⟨n1,n2⟩:=o7 ha;have gK:a≠Dl:=λz=>n1 (by rw[z];exact au _ (aC _ ak))
     exact j7 (λz=>n1 (jx a z)) (by rw[g9 gK];exact n2)
    refine⟨xV _ _ uT,?_,⟨_,by rw[ah];exact xw,rfl⟩,i6,?_,fp++gp,zs++[y],rest,?_,?_,?_,?_,yT,by rw[qo,ba];rfl,by rw[aN];simp;lia⟩
    ·exact ij (bL xu (bL (dF mB) hz)) (by rw[cO];decide)
    ·exact b1y (e2.trans xV) hD _
    ·refine (m4 zK jZ λa ha=>?_).append ?_
     ·rw[g9 (show a≠Dl from λz=>qJ (z▸ha))];obtain⟨zs,w⟩:=hfl a (aq _ ha);rw[w,xV _ _ w]
     ·have:=m6 (R:=Own X.K (upd H4 Dl (.lst (ys++[v]))) (Dl::(fp++gp)++F) u) (o.frame EU u λa ha=>g9 (λz=>Bm (z▸ha))) m8
      rwa[bj]at this
    ·rw[aZ];exact⟨iF,nd,λa ha b hb e=>Ey b hb (e▸ha)⟩
    ·intro a ha;rcases ay.mp ha with z|z
     ·exact qA a z
     ·exact (e2.trans e3).free (fr a z)
    ·intro z;rcases ay.mp z with w|w
     ·exact qJ w
     ·exact Bm w
   ·refine a5M ?_;have zK:Same (cut H' (Dl::fp++F)) (cut H3 (Dl::fp++F)):=B2 e3;refine⟨⟨_,by rw[ah];exact xw,rfl⟩,e3 _ _ uT,e2.trans e3,fp,zs,rs,m4 zK jZ λa ha=>?_,iF,qA,qJ,yT,qo,by lia⟩;obtain⟨zs,w⟩:=hfl a (aq _ ha);rw[w,e3 _ _ w]
  ·rintro ys Y' H' ⟨_,uT,e2,fp,zs,rs,jZ,iF,qA,qJ,hc,qo,_⟩;rw[qV,kE]at hc;cases hc
   rw[bj]at qo;subst qo;refine q (.ref Dl) H' (e1.trans e2) ⟨Dl::fp,?_,bz.mpr ⟨qJ,iF⟩,λa ha=>?_⟩
   ·simp only[Own];exact .inr ⟨Dl,ys,res,fp,rfl,uT,rfl,rfl,jZ⟩
   ·rcases az.mp ha with z|z
    ·subst z;exact e1.free hD
    ·exact e1.free (qA a z)
 ·rw[aM hz]at g1;cases g1
def K5(hc:X.calm=p4)(hi:PIX X M tg iter fi)(C:Y0 scope X.env.kindOf ys js X.N=p4)(hg:∀cl Cl s H fp,PG (O9 X (tn++ys) scope cl Cl s H fp) tg g)(zt:TgR X.K g n pt)(hm:m=.i\/m=.f)
  (qw:m=.i->∀U ds,fi U=cz ds->∀d∈ds,∀bs,pt d=cz bs->g8 bs=p4) (vM:tn.length=n)
  (ht:∀cl Cl s H fp,PTs (O9 X (tn++ys) scope cl Cl s H fp) ifs (spT X.K (W8 (.own m) n M js) ft)) (he:∀cl Cl s H fp,PX (O9 X (tn++ys) scope cl Cl s H fp) (W8 (.own m) n M js) elt fe (.new u))
  (hs:∀x,eV iter X.env x=pure x:=by intro _;rfl):PX X M (.ListComp elt [⟨tg,iter,ifs,0⟩] scope pos) (l0 fi js pt ft fe) (.new (.l u)):=by
 obtain⟨wi,pi,qi⟩:=hi;exact .mk ⟨_,b1z (te:=spE X.K (W8 (.own m) n M js) fe (.new u)) hc pi C hg ht he hs,λU Y H P F d Q S hf q=>a4f qi zt hm qw vM S hf q⟩
def D9:∀{X':Cx} {M':List Md},PTs X' [] (spT X'.K M' tT):=λ{X' M'} pins s Y H Q I ⟨U,P,F,b,S,hb,q⟩=>by
 cases hb
 exact b4n pins s Y H Q I (q H (Same.refl _))
def a2J(h:PTX X' M' c f):PTs X' [c] (spT X'.K M' f):=b4o h
def a5Y:(Ty.f=Ty.i)->∀(U ds:List D),fi U=cz ds->∀d∈ds,∀bs,pt d=cz bs->g8 bs=p4:=λh=>nomatch h
def a1K:(Ty.i=Ty.i)->∀(U ds:List D),iI fi U=cz ds->∀d∈ds,∀bs,pt1 d=cz bs->g8 bs=p4:=λ_ U ds h d hd bs hb=>by
 obtain⟨es,_,g1⟩:=bnd h;by_cases c:g8 es=p4
 ·rw[aH c]at g1;cases g1
  cases hb
  simp only[g8,gd];exact C9 c hd
 ·rw[aM c]at g1;cases g1
def a8R:(Ty.i=Ty.i)->∀(U ds:List D),iI fi U=cz ds->∀d∈ds,∀bs,pt2 d=cz bs->g8 bs=p4:=λ_ U ds h d hd bs hb=>by
 obtain⟨es,_,g1⟩:=bnd h;by_cases c:g8 es=p4
 ·rw[aH c]at g1;cases g1
  have:=C9 c hd
  match d,hb with
  |.tuple [a,b],hb=>
   cases hb
   simpa only [imm]using this
 ·rw[aM c]at g1;cases g1
def a5i(lo:Int)(n:Nat):g8 (G5 lo n)=p4:=by
 have:∀l:List Nat,g8 (l.map λ(k:Nat)=>aG (lo+k))=p4:=by
  intro l
  induction l with
  |nil=>simp only[cY,g8]
  |cons x l ih=>simp only[aA,g8,imm,ih,eZ]
 exact this _
def b1S:(Ty.i=Ty.i)->∀(U ds:List D),iR fa U=cz ds->∀d∈ds,∀bs,pt1 d=cz bs->g8 bs=p4:=λ_ U ds h d hd bs hb=>by
 obtain⟨x,h1,g1⟩:=bnd h;obtain⟨k,h2,g2⟩:=bnd g1
 split at g2
 ·cases g2
  cases hb
  simp only[g8,gd];exact C9 (a5i _ _) hd
 ·cases g2
end
section
variable {K:af}{H H' P:Hp}{F F':List aw}
theorem StAll.split:∀{A B:List Md} {U:List D} {Y:L2.St} {G:List aw},StAll K H F (A++B) U Y G->∃U1 U2 Y1 Y2 G1 G2,U=U1++U2/\Y=Y1++Y2/\G=G1++G2/\StAll K H F A U1 Y1 G1/\StAll K H F B U2 Y2 G2
 |[],B,U,Y,G,h=>⟨[],U,[],Y,[],G,rfl,rfl,rfl,N1,h⟩
 |m::A,B,_,_,_,h=>by
  simp only[br,StAll]at h;obtain⟨d,U,o,Y,f,g,rfl,rfl,rfl,h1,h2⟩:=h;obtain⟨U1,U2,Y1,Y2,G1,G2,rfl,rfl,rfl,h3,h4⟩:=StAll.split h2;exact⟨d::U1,U2,o::Y1,Y2,f++G1,G2,rfl,rfl,by rw[ba],k9 h1 h3,h4⟩
theorem StAll.join:∀{A B:List Md} {U1 U2:List D} {Y1 Y2:L2.St} {G1 G2:List aw},StAll K H F A U1 Y1 G1->StAll K H F B U2 Y2 G2->StAll K H F (A++B) (U1++U2) (Y1++Y2) (G1++G2)
 |[],B,_,_,_,_,_,_,h,q=>by
  simp only[StAll]at h;obtain⟨rfl,rfl,rfl⟩:=h;exact q
 |m::A,B,_,_,_,_,_,_,h,q=>by
  simp only[StAll]at h;obtain⟨d,U,o,Y,f,g,rfl,rfl,rfl,h1,h2⟩:=h;rw[ba];exact k9 h1 (StAll.join h2 q)
def a5Z{α:Type}{a b c d:List α}(h:a++b=c++d)(hl:a.length=c.length):a=c/\b=d:=List.append_inj h hl
def StAll.splitAt{A B:List Md}{U1 U2:List D}{Y1 Y2:L2.St}(h:StAll K H F (A++B) (U1++U2) (Y1++Y2) G)(hU:U1.length=A.length)(hY:Y1.length=A.length):∃G1 G2,G=G1++G2/\StAll K H F A U1 Y1 G1/\StAll K H F B U2 Y2 G2:=by
 obtain⟨r1,r2,s1,s2,G1,G2,e1,e2,e3,h1,h2⟩:=h.split;obtain⟨l1,l2⟩:=h1.len;obtain⟨rfl,rfl⟩:=a5Z e1 (by lia);obtain⟨rfl,rfl⟩:=a5Z e2 (by lia);exact⟨G1,G2,e3,h1,h2⟩
theorem W9:∀{us:List Ty} {vs:List V} {ds:List D} {G:List aw},StAll K H F (us.map Md.own) ds (vs.map cz) G->OwnTs K H F us vs ds G
 |[],vs,ds,G,h=>by
  simp only[cY,StAll]at h;obtain⟨rfl,e,rfl⟩:=h;have:vs=[]:=by simpa using e
  subst this;simp only[OwnTs];exact⟨trivial,trivial,trivial⟩
 |u::us,vs,ds,G,h=>by
  simp only[aA,StAll]at h;obtain⟨d,U,o,Y,f,g,rfl,e,rfl,⟨v,rfl,h1⟩,h2⟩:=h;cases vs with
  |nil=>simp at e
  |cons v' vs=>
   simp only[aA,Ht,nL]at e;obtain⟨rfl,rfl⟩:=e;simp only[OwnTs];exact⟨v',vs,d,U,f,g,rfl,rfl,rfl,h1,W9 h2⟩
end
def Pend(K:af)(Mp:List Md)(Up:List D)(Yp:L2.St)(M:List Md)(U:List D)(Y:L2.St)(H P:Hp)(F:List aw):Prop:=
 Up.length=Mp.length/\Yp.length=Mp.length/\StR K (Mp++M) (Up++U) (Yp++Y) H P F
section
variable {K:af}{Mp M:List Md}{Up U:List D}{Yp Y:L2.St}{H H' P:Hp}{F:List aw}
def Pend.e(h:Pend K Mp Up Yp M U Y H P F):StE K M U Y H P F:=by
 obtain⟨l1,l2,S⟩:=h;obtain⟨G,h1,h2,h3⟩:=S.all;obtain⟨G1,G2,rfl,_,h4⟩:=h1.splitAt l1 l2;exact⟨⟨G2,h4,λa ha=>h3 a (au _ ha)⟩,S.lst,S.prot⟩
theorem Pend.grow(h:Pend K Mp Up Yp M U Y H P F)(e:Same H H'):Pend K Mp Up Yp M U Y H' P F:=⟨h.1,h.2.1,h.2.2.grow e⟩
def Pend.new(h:Pend K Mp Up Yp M U Y H P F)(e:Same H H')(o:Own K H' (fp++F) u v d fp)(nd:fp.Nodup)(fr:∀a∈fp,H a=el):Pend K (Mp++[.own u]) (Up++[d]) (Yp++[cz v]) M U Y H' P (fp++F):=by
 obtain⟨l1,l2,S⟩:=h;refine⟨by simp[l1],by simp[l2],?_⟩;have S1:=S.more e fr (o.lst u);obtain⟨G,h1,h2,h3⟩:=S.all;obtain⟨G1,G2,rfl,h4,h5⟩:=h1.splitAt l1 l2;have hc:Same (cut H F) (cut H' (fp++F)):=a0I e fr;have k:∀a∈G1++G2,H' a=H a:=λa ha=>S.toE.keep e a (h3 a ha)
 have q:=(h4.frame hc λa ha=>k a (aC _ ha)).join ((k9 (m:=.own u) (d:=d) (o:=cz v) (f:=fp) ⟨v,rfl,o⟩ (h5.frame hc λa ha=>k a (au _ ha))));refine⟨⟨G1++(fp++G2),by simpa using q,Y2 h2 nd λa ha z=>?_,λa ha=>?_⟩,S1.lst,S1.prot⟩
 ·obtain⟨ys,w⟩:=S.lst a (h3 a z);rw[fr a ha]at w;cases w
 ·rcases a2h ha with z|z
  ·exact aC _ z
  ·exact au _ (h3 a z)
def Pend.move(h:Pend K Mp Up Yp M U Y H P F)(hm:M[i]?=cz (.own u)):∃v,Y[i]?=cz (cz v)/\Pend K (Mp++[.own u]) (Up++[U.getD i .none]) (Yp++[cz v]) (M.set i .dead) U Y H P F:=by
 obtain⟨l1,l2,S⟩:=h;obtain⟨G,h1,h2,h3⟩:=S.all;obtain⟨G1,G2,rfl,h4,h5⟩:=h1.splitAt l1 l2;obtain⟨d,o,f,pre,post,e1,e2,⟨v,rfl,e3⟩,rfl,e5⟩:=h5.at_ hm;have q:=e5 H F .dead d (cz v) [] (λ_ _=>rfl) (Same.refl _) rfl;rw[set_same e1,set_same e2]at q;refine⟨v,e2,by simp[l1],by simp[l2],⟨⟨G1++(f++(pre++([]++post))),?_,?_,λa ha=>h3 a ?_⟩,S.lst,S.prot⟩⟩
 ·have:=h4.join (k9 (m:=.own u) (d:=d) (o:=cz v) (f:=f) ⟨v,rfl,e3⟩ q);rw[y9 e1];simpa using this
 ·rw[cB];refine (List.Perm.nodup_iff ?_).mp h2;refine va G1 ?_;exact List.perm_append_comm_assoc pre f post
 ·simp only[ay,cB]at ha ⊢;rcases ha with z|z|z|z
  ·exact .inl z
  ·exact .inr (.inr (.inl z))
  ·exact .inr (.inl z)
  ·exact .inr (.inr (.inr z))
end
def PMX(X:Cx)(M:List Md)(e:Expr)(f:EvE)(u:Ty)(M1:List Md):Prop:=
 ∃t,PE X e t/\∀(Mp:List Md) (Up:List D) (Yp:L2.St) (U:List D) (Y:L2.St) (H P:Hp) (F:List aw) (d:D) (Q:VK),Pend X.K Mp Up Yp M U Y H P F->f U=cz d->
  (∀v H' F',Same H H'->Pend X.K (Mp++[.own u]) (Up++[d]) (Yp++[cz v]) M1 U Y H' P F'->Q v H')->t Y H Q
def PMA(X:Cx)(M:List Md)(es:List Expr)(f:EvA)(us:List Ty)(M1:List Md):Prop:=
 ∃t,PA X es t/\∀(Mp:List Md) (Up:List D) (Yp:L2.St) (U:List D) (Y:L2.St) (H P:Hp) (F:List aw) (ds:List D) (Q:List V->Hp->Prop),Pend X.K Mp Up Yp M U Y H P F->f U=cz ds->
  (∀vs H' F',vs.length=us.length->ds.length=us.length->Same H H'->Pend X.K (Mp++us.map .own) (Up++ds) (Yp++vs.map cz) M1 U Y H' P F'->Q vs H')->t Y H Q
section
variable {X:Cx}{M M1 M2:List Md}{e:Expr}{es:List Expr}{f:EvE}{fa:EvA}{u:Ty}{us:List Ty}{pos:eO}
def b9(h:PX X M e f (.new u)):PMX X M e f u M:=by
 obtain⟨t,p,q⟩:=h.out;refine⟨t,p,λMp Up Yp U Y H P F d Q S hf k=>q U Y H P F d Q S.e hf λv H' e ⟨fp,o,nd,fr⟩=>k v H' _ e (S.new e o nd fr)⟩
def P7(i:Nat)(hN:X.N[i]?=cz x:=by rfl)(hv:autoParam (NmV X x) ZY._auto_1)(hm:M[i]?=cz (.own u):=by rfl):PMX X M (.Name x pos) (b7 i) u (M.set i .dead):=by
 refine⟨_,C6 hN hv.1 hv.2.1 hv.2.2,λMp Up Yp U Y H P F d Q S hf k=>?_⟩;cases hf
 obtain⟨v,e,S'⟩:=S.move hm;exact⟨v,e,k v H F (Same.refl _) S'⟩
def b4z:PMA X M [] f6 [] M:=⟨_,q9,λMp Up Yp U Y H P F ds Q S hf k=>by
 cases hf
 exact k [] H F rfl rfl (Same.refl _) (by simpa using S)⟩
def a6a(h:PMX X M e f u M1)(hr:PMA X M1 es fa us M2)(hs:ax (e::es) X.env=(rp,cg e X.env)::ax es X.env:=by rfl):PMA X M (e::es) (b8 f fa) (u::us) M2:=by
 obtain⟨t,p,q⟩:=h;obtain⟨tr,pr,qr⟩:=hr;refine⟨_,m5 p pr hs,λMp Up Yp U Y H P F ds Q S hf k=>?_⟩;obtain⟨x,h1,g1⟩:=bnd hf;obtain⟨xs,h2,g2⟩:=bnd g1;cases g2
 refine q Mp Up Yp U Y H P F x _ S h1 λv H1 F1 e1 S1=>qr _ _ _ U Y H1 P F1 xs _ S1 h2 λvs H2 F2 l1 l2 e2 S2=>k (v::vs) H2 F2 (by simp[l1]) (by simp[l2]) (e1.trans e2) ?_
 simpa using S2
def Pend.pack{us:List Ty}{vs:List V}(h:Pend K (Mp++us.map .own) (Up++ds) (Yp++vs.map cz) M U Y H P F)
  (lp:Up.length=Mp.length) (lq:Yp.length=Mp.length) (l1:vs.length=us.length) (l2:ds.length=us.length) (hp:H p=el)
  (mk:∀G,OwnTs K H F us vs ds G->G.Nodup->(∀a∈G,a∈F)->∃sX F',(∀a,a∈F'↔a∈sX\/a∈F)/\(∀a∈sX,a=p\/a∈G)/\sX.Nodup/\Own K (upd H p o) F' u (.ref p) d sX/\(p∈sX->∃ys,o=.lst ys)) :
  ∃F',Pend K (Mp++[.own u]) (Up++[d]) (Yp++[cz (.ref p)]) M U Y (upd H p o) P F':=by
 obtain⟨_,_,S⟩:=h;obtain⟨G,h1,h2,h3⟩:=S.all;obtain⟨G1,G2,rfl,h4,h5⟩:=h1.splitAt (by simp[lp,l2]) (by simp[lq,l1]);obtain⟨G3,G4,rfl,h6,h7⟩:=h4.splitAt lp lq;have DZ:G4.Nodup:=by rw[aZ]at h2;exact (aZ.mp h2.1).2.1
 obtain⟨sX,F',uS,sR,iF,own,fM⟩:=mk G4 (W9 h7) DZ λa ha=>h3 a (aC _ (au _ ha))
 have xy:p∉F:=λz=>by obtain⟨ys,w⟩:=S.lst p z;rw[hp]at w;cases w
 have hc:Same (cut H F) (cut (upd H p o) F'):=λa o' ha=>by
  obtain⟨n1,n2⟩:=o7 ha;have gK:a≠p:=λz=>by rw[z,hp]at n2;cases n2
  refine j7 (λz=>?_) (by rw[g9 gK];exact n2);rcases (uS a).mp z with w|w
  ·rcases sR a w with y|y
   ·exact gK y
   ·exact n1 (h3 a (aC _ (au _ y)))
  ·exact n1 w
 have k:∀a∈F,upd H p o a=H a:=λa ha=>g9 λz=>xy (z▸ha)
 have q:=(h6.frame hc λa ha=>k a (h3 a (aC _ (aC _ ha)))).join (k9 (m:=.own u) (d:=d) (o:=cz (.ref p)) (f:=sX) ⟨_,rfl,own⟩ (h5.frame hc λa ha=>k a (h3 a (au _ ha))));refine⟨F',by simp[lp],by simp[lq],⟨⟨G3++(sX++G2),by simpa using q,Y2 ?_ iF λa ha z=>?_,λa ha=>?_⟩,λa ha=>?_,S.prot.trans hc⟩⟩
 ·rw[ba]at h2;exact N2 h2
 ·rcases sR a ha with w|w
  ·subst w;exact xy (h3 a (by
    rcases ay.mp z with y|y
    ·exact aC _ (aC _ y)
    ·exact au _ y))
  ·rw[ba]at h2;exact a1n h2 a w z
 ·rcases a2h ha with z|z
  ·exact (uS a).mpr (.inl z)
  ·refine (uS a).mpr (.inr (h3 a ?_));rcases ay.mp z with y|y
   ·exact aC _ (aC _ y)
   ·exact au _ y
 ·rcases (uS a).mp ha with z|z
  ·rcases sR a z with w|w
   ·subst w;obtain⟨ys,rfl⟩:=fM z;exact⟨⟨.lst ys,trivial⟩,i6⟩
   ·have jy:=h3 a (aC _ (au _ w));obtain⟨ys,y⟩:=S.lst a jy;exact⟨ys,by rw[k a jy];exact y⟩
  ·obtain⟨ys,y⟩:=S.lst a z;exact⟨ys,by rw[k a z];exact y⟩
def b4A{j}(h:PMA X M es fa us M1)(hn:us.length<=1000:=by decide):PMX X M (.Tuple es j pos) (B7 fa) (.tp us) M1:=by
 obtain⟨t,p,q⟩:=h;refine⟨_,a7f p,λMp Up Yp U Y H P F d Q S hf k=>?_⟩;obtain⟨ds,h1,g1⟩:=bnd hf;cases g1
 refine q Mp Up Yp U Y H P F ds _ S h1 λvs H1 F1 l1 l2 e1 S1=>⟨by rw[l1];exact dF (X9 hn),λx hx=>?_⟩
 have yH:x∉F1:=λz=>by obtain⟨ys,w⟩:=S1.2.2.lst x z;rw[hx]at w;cases w
 obtain⟨F2,S2⟩:=S1.pack (o:=.tup vs) (u:=.tp us) (d:=.tuple ds) S.1 S.2.1 l1 l2 hx λG o nd sub=>by
  refine⟨G,F1,λa=>⟨λz=>.inr z,λz=>z.elim (sub a) id⟩,λa ha=>.inr ha,nd,?_,λz=>absurd (sub x z) yH⟩;simp only[Own];refine .inr ⟨x,vs,ds,rfl,i6,yH,rfl,o.frame (B2 (l6 hx _)) us λa ha=>g9 λz=>yH (z▸sub a ha)⟩
 exact k _ _ F2 (e1.trans (l6 hx _)) S2
end
def dAt:Ty->D->List Nat->Option (Ty×D)
 |u,d,[]=>cz (u,d)
 |.l u,.list ds,j::p=>(ds[j]?).bind λd=>dAt u d p
 |.tp us,.tuple ds,j::p=>(us[j]?).bind λu=>(ds[j]?).bind λd=>dAt u d p
 |_,_,_=>el
def a2K:D->List Nat->D->D
 |_,[],e=>e
 |.list ds,j::p,e=>.list (ds.set j (a2K (ds.getD j .none) p e))
 |.tuple ds,j::p,e=>.tuple (ds.set j (a2K (ds.getD j .none) p e))
 |d,_,_=>d
def wk(H:Hp):V->List Nat->V->Prop
 |v,[],w=>w=v
 |v,j::p,w=>∃a xs v1,v=.ref a/\(H a=cz (.lst xs)\/H a=cz (.tup xs))/\xs[j]?=cz v1/\wk H v1 p w
theorem b1T(e:Same H H'):∀{p:List Nat} {v w:V},wk H v p w->wk H' v p w
 |[],_,_,h=>h
 |j::p,_,_,h=>by
  obtain⟨a,xs,v1,h1,h2,h3,h4⟩:=h;exact⟨a,xs,v1,h1,h2.imp (e _ _) (e _ _),h3,b1T e h4⟩
theorem a8S:∀{p:List Nat} {v w:V},wk H v p w->w=.ref a->(H a=cz (.lst xs)\/H a=cz (.tup xs))->xs[j]?=cz w'->wk H v (p++[j]) w'
 |[],v,w,h,e,h1,h2=>by
  have h':w=v:=h;subst h';exact⟨a,xs,w',e,h1,h2,rfl⟩
 |k::p,v,w,h,e,h1,h2=>by
  obtain⟨a',lC,v1,q1,q2,q3,q4⟩:=h;exact⟨a',lC,v1,q1,q2,q3,a8S q4 e h1 h2⟩
section
variable {K:af}{H H':Hp}{F F':List aw}
theorem ListAll.zip:∀{ds:List D} {xs:List V} {fp:List aw} {j:Nat} {d:D},ListAll (Own K H F u) xs ds fp->ds[j]?=cz d->
  ∃v f pre post,xs[j]?=cz v/\Own K H F u v d f/\fp=pre++(f++post)/\
   ∀(H':Hp) (F':List aw) (v':V) (d':D) (f':List aw),(∀a∈pre++post,H' a=H a)->Same (cut H F) (cut H' F')->Own K H' F' u v' d' f'->ListAll (Own K H' F' u) (xs.set j v') (ds.set j d') (pre++(f'++post))
 |[],_,_,j,d,_,e=>by simp at e
 |d0::ds,_,_,0,d,h,e=>by
  obtain⟨v,r,f,g,rfl,rfl,h1,h2⟩:=h.cons_inv;have:d0=d:=by simpa using e
  subst this;refine⟨v,f,[],g,rfl,h1,rfl,λH' F' v' d' f' k e' o=>?_⟩;show ListAll (Own K H' F' u) (v'::r) (d'::ds) (f'++g);exact m6 o (m4 e' h2 k)
 |d0::ds,_,_,j+1,d,h,e=>by
  obtain⟨v,r,f,g,rfl,rfl,h1,h2⟩:=h.cons_inv;obtain⟨w,f',pre,post,e1,e2,e3,e4⟩:=ListAll.zip (j:=j) h2 (by simpa using e);subst e3;refine⟨w,f',f++pre,post,by simpa using e1,e2,by rw[ba],λH' F' v' d' g' k e' o=>?_⟩;rw[ba];refine m6 (h1.frame e' u λa ha=>k a ?_) (e4 H' F' v' d' g' (λa ha=>k a ?_) e' o)
  ·rw[ba];exact aC _ ha
  ·rw[ba];exact au _ ha
theorem OwnTs.zip:∀{us:List Ty} {ds:List D} {xs:List V} {fp:List aw} {j:Nat} {u:Ty} {d:D},OwnTs K H F us xs ds fp->us[j]?=cz u->ds[j]?=cz d->
  ∃v f pre post,xs[j]?=cz v/\Own K H F u v d f/\fp=pre++(f++post)/\
   ∀(H':Hp) (F':List aw) (d':D) (f':List aw),(∀a∈pre++post,H' a=H a)->Same (cut H F) (cut H' F')->Own K H' F' u v d' f'->OwnTs K H' F' us xs (ds.set j d') (pre++(f'++post))
 |[],_,_,_,j,u,d,_,e,_=>by simp at e
 |u0::us,_,_,_,0,u,d,h,e,e'=>by
  simp only[OwnTs]at h;obtain⟨v,r,d0,ds,f,g,rfl,rfl,rfl,h1,h2⟩:=h;have:u0=u:=by simpa using e
  subst this;have:d0=d:=by simpa using e'
  subst this;refine⟨v,f,[],g,rfl,h1,rfl,λH' F' d' f' k e' o=>?_⟩;show OwnTs K H' F' (u0::us) (v::r) (d'::ds) (f'++g);simp only[OwnTs];exact⟨v,r,d',ds,f',g,rfl,rfl,rfl,o,h2.frame e' us k⟩
 |u0::us,_,_,_,j+1,u,d,h,e,e'=>by
  simp only[OwnTs]at h;obtain⟨v,r,d0,ds,f,g,rfl,rfl,rfl,h1,h2⟩:=h;obtain⟨w,f',pre,post,e1,e2,e3,e4⟩:=OwnTs.zip (j:=j) h2 (by simpa using e) (by simpa using e');subst e3;refine⟨w,f',f++pre,post,by simpa using e1,e2,by rw[ba],λH' F' d' g' k e' o=>?_⟩;rw[ba];show OwnTs K H' F' (u0::us) (v::r) (d0::ds.set j d') (f++(pre++(g'++post)));simp only[OwnTs];refine⟨v,r,d0,_,f,_,rfl,rfl,rfl,h1.frame e' u0 λa ha=>k a ?_,e4 H' F' d' g' (λa ha=>k a ?_) e' o⟩
  ·rw[ba];exact aC _ ha
  ·rw[ba];exact au _ ha
theorem Own.path:∀(p:List Nat) {u t:Ty} {v w:V} {d:D} {fp:List aw} {ds:List D},Own K H F u v d fp->dAt u d p=cz (.l t,.list ds)->wk H v p w->
  ∃b xs fs pre post,w=.ref b/\H b=cz (.lst xs)/\fp=pre++((b::fs)++post)/\ListAll (Own K H F t) xs ds fs/\
   ∀(H':Hp) (F':List aw) (lC:List V) (iB:List D) (km:List aw),(∀a∈pre++post,H' a=H a)->Same (cut H F) (cut H' F')->H' b=cz (.lst lC)->ListAll (Own K H' F' t) lC iB km->
    Own K H' F' u v (a2K d p (.list iB)) (pre++((b::km)++post))
 |[],u,t,v,w,d,fp,ds,h,hd,hw=>by
  have lD:cz (u,d)=cz (.l t,.list ds):=hd;cases lD
  have yI:w=v:=hw;subst yI;simp only[Own]at h;rcases h with⟨_,hi,_⟩|⟨a,xs,iB,fs,rfl,h1,h2,rfl,h3⟩
  ·simp only[imm]at hi;cases hi
  ·cases h2
   refine⟨a,xs,fs,[],[],rfl,h1,by simp,h3,λH' F' lC iB km _ _ k o=>?_⟩;simp only[Own,a2K,cB,bj];exact .inr ⟨a,lC,iB,km,rfl,k,rfl,rfl,o⟩
 |j::p,u,t,v,w,d,fp,ds,h,hd,hw=>by
  obtain⟨a0,sv,v1,rfl,sH,rQ,hw⟩:=hw;cases u with
  |l u=>
   cases d with
   |list es=>
    have lD:(es[j]?).bind (λd=>dAt u d p)=cz (.l t,.list ds):=hd;obtain⟨d1,g1,g2⟩:=bnd lD;simp only[Own]at h;rcases h with⟨_,hi,_⟩|⟨a,xs,eJ,fs,e0,h1,h2,rfl,h3⟩
    ·simp only[imm]at hi;cases hi
    ·cases h2
     cases e0
     have tI:sv=xs:=by rcases sH with z|z<;>rw[h1]at z<;>cases z;rfl
     subst tI;obtain⟨v2,f,pre,post,z1,z2,rfl,z4⟩:=h3.zip g1;rw[rQ]at z1;cases z1
     obtain⟨b,ys,km,mN,kl,rfl,q2,rfl,q4,q5⟩:=Own.path p z2 g2 hw;refine⟨b,ys,km,a0::(pre++mN),kl++post,rfl,q2,by simp,q4,λH' F' lC iB zV k e' hb o=>?_⟩;have k1:∀a∈pre++post,H' a=H a:=λa ha=>k a (by simp only[ay,az]at ha ⊢;rcases ha with z|z;exact .inl (.inr (.inl z));exact .inr (.inr z))
     have k2:∀a∈mN++kl,H' a=H a:=λa ha=>k a (by simp only[ay,az]at ha ⊢;rcases ha with z|z;exact .inl (.inr (.inr z));exact .inr (.inl z))
     have o1:=q5 H' F' lC iB zV k2 e' hb o;have o2:=z4 H' F' _ _ _ k1 e' o1;rw[set_same rQ]at o2;show Own K H' F' (.l u) (.ref a0) (.list (es.set j (a2K (es.getD j .none) p (.list iB)))) _;rw[y9 g1];simp only[Own];refine .inr ⟨a0,sv,_,_,rfl,(k a0 (by simp)).trans h1,rfl,?_,o2⟩;simp
   |_=>cases hd
  |tp us=>
   cases d with
   |tuple es=>
    have lD:(us[j]?).bind (λu=>(es[j]?).bind λd=>dAt u d p)=cz (.l t,.list ds):=hd;obtain⟨u1,g0,zY⟩:=bnd lD;obtain⟨d1,g1,g2⟩:=bnd zY;simp only[Own]at h;rcases h with⟨_,hi,_⟩|⟨a,xs,eJ,e0,h1,h0,h2,h3⟩
    ·exact (hi.2 _ rfl).elim
    cases h2
    cases e0
    have tI:sv=xs:=by rcases sH with z|z<;>rw[h1]at z<;>cases z;rfl
    subst tI;obtain⟨v2,f,pre,post,z1,z2,rfl,z4⟩:=h3.zip g0 g1;rw[rQ]at z1;cases z1
    obtain⟨b,ys,km,mN,kl,rfl,q2,rfl,q4,q5⟩:=Own.path p z2 g2 hw;refine⟨b,ys,km,pre++mN,kl++post,rfl,q2,by simp,q4,λH' F' lC iB zV k e' hb o=>?_⟩;have k1:∀a∈pre++post,H' a=H a:=λa ha=>k a (by simp only[ay]at ha ⊢;rcases ha with z|z;exact .inl (.inl z);exact .inr (.inr z))
    have k2:∀a∈mN++kl,H' a=H a:=λa ha=>k a (by simp only[ay]at ha ⊢;rcases ha with z|z;exact .inl (.inr z);exact .inr (.inl z))
    have o1:=q5 H' F' lC iB zV k2 e' hb o;have o2:=z4 H' F' _ _ k1 e' o1;show Own K H' F' (.tp us) (.ref a0) (.tuple (es.set j (a2K (es.getD j .none) p (.list iB)))) _;rw[y9 g1];obtain⟨n1,n2⟩:=o7 (e' a0 _ (j7 h0 h1));simp only[Own];refine .inr ⟨a0,sv,_,rfl,n2,n1,rfl,?_⟩;simpa using o2
   |_=>cases hd
  |i=>cases hd
  |f=>cases hd
  |d kt u=>cases hd
def O3{N O:List aw}(h:O.Nodup)(k:∀a,N.count a<=O.count a):N.Nodup:=cy.mpr λa=>bL (k a) (cy.mp h a)
def Pend.put(h:Pend K ([]++[.own t]) ([]++[d]) ([]++[cz v]) M U Y H P F)(hm:M[i]?=cz (.own u))(h0:Y[i]?=cz (cz v0))(hd:dAt u (U.getD i .none) p=cz (.l t,.list ds))(hw:wk H v0 p w) :
  ∃b xs,w=.ref b/\H b=cz (.lst xs)/\xs.length=ds.length/\StR K M (U.set i (a2K (U.getD i .none) p (.list (ds++[d])))) Y (upd H b (.lst (xs++[v]))) P F/\
   ∀j,j<ds.length->StR K M (U.set i (a2K (U.getD i .none) p (.list (ds.set j d)))) Y (upd H b (.lst (xs.set j v))) P F:=by
 obtain⟨_,_,S⟩:=h;obtain⟨G,h1,h2,h3⟩:=S.all;have lN:StAll K H F (.own t::M) (d::U) (cz v::Y) G:=by simpa using h1
 simp only[StAll]at lN;obtain⟨d',U',o',Y',fv,G2,e1,e2,rfl,⟨v',e3,ov⟩,h5⟩:=lN;cases e1
 cases e2
 cases e3
 obtain⟨dd,oo,f,pre,post,q1,q2,⟨v2,rfl,q3⟩,rfl,q5⟩:=h5.at_ hm;rw[h0]at q2;cases q2
 rw[y9 q1]at hd;obtain⟨b,xs,fs,mN,kl,rfl,r2,rfl,r4,r5⟩:=q3.path p hd hw;have rd:b∈F:=h3 b (by simp);have eM:∀o,Same (cut H F) (cut (upd H b o) F):=λo a o' ha=>by
  obtain⟨n1,n2⟩:=o7 ha;exact j7 n1 (by rw[g9 (show a≠b from λz=>n1 (z▸rd))];exact n2)
 have iJ:∀a,a≠b\/(pre++post).count a=0/\(mN++kl).count a=0/\fs.count a=0/\fv.count a=0:=λa=>by
  by_cases e:a=b
  ·subst e;have:=cy.mp h2 a;simp only[be,br,fH]at this ⊢;exact .inr ⟨by lia,by lia,by lia,by lia⟩
  ·exact .inl e
 have kk:∀(l:List aw) (o:HO),(∀a,a=b->l.count a=0)->∀a∈l,upd H b o a=H a:=λl o hc a ha=>g9 λz=>by
  have:=hc a z;rw[dH]at this;exact this ha
 have c1:∀a,a=b->(pre++post).count a=0:=λa e=>((iJ a).resolve_left (λn=>n e)).1
 have c2:∀a,a=b->(mN++kl).count a=0:=λa e=>((iJ a).resolve_left (λn=>n e)).2.1
 have c3:∀a,a=b->fs.count a=0:=λa e=>((iJ a).resolve_left (λn=>n e)).2.2.1
 have c4:∀a,a=b->fv.count a=0:=λa e=>((iJ a).resolve_left (λn=>n e)).2.2.2
 have fin:∀(lC:List V) (iB:List D) (km:List aw),ListAll (Own K (upd H b (.lst lC)) F t) lC iB km->(∀a,km.count a<=fs.count a+fv.count a)->StR K M (U.set i (a2K dd p (.list iB))) Y (upd H b (.lst lC)) P F:=λlC iB km ha oD=>by
  have o1:=r5 (upd H b (.lst lC)) F lC iB km (kk _ _ c2) (eM _) i6 ha;have q:=q5 (upd H b (.lst lC)) F (.own u) (a2K dd p (.list iB)) (cz v0) _ (kk _ _ c1) (eM _) ⟨v0,rfl,o1⟩;rw[set_same (l:=Y) h0,set_same (l:=M) hm]at q;refine⟨⟨_,q,O3 h2 λa=>?_,λa ha=>?_⟩,λa ha=>?_,S.prot.trans (eM _)⟩
  ·have:=oD a;simp only[be,br,dc];lia
  ·have hc:0<(fv++(pre++(mN++(b::fs++kl)++post))).count a:=by
    have h0:=cZ.mpr ha;have:=oD a;simp only[be,br,dc]at h0 ⊢;lia
   exact h3 a (cZ.mp hc)
  ·by_cases e:a=b
   ·subst e;exact⟨⟨.lst lC,trivial⟩,i6⟩
   ·obtain⟨ys,y⟩:=S.lst a ha;exact⟨ys,by rw[g9 e];exact y⟩
 rw[y9 q1];refine⟨b,xs,rfl,r2,r4.length,fin (xs++[v]) (ds++[d]) (fs++fv) ?_ λa=>by rw[be];exact aD _,λj hj=>?_⟩
 ·refine (m4 (eM _) r4 (kk _ _ c3)).append ?_;have:=m6 (R:=Own K (upd H b (.lst (xs++[v]))) F t) (ov.frame (eM _) t (kk _ _ c4)) m8
  rwa[bj]at this
 ·obtain⟨v3,f3,a1,a2,s1,s2,rfl,s4⟩:=r4.zip (ar hj);have c5:∀a,a=b->(a1++a2).count a=0:=λa e=>by have:=c3 a e;simp only[be]at this ⊢;lia
  refine fin (xs.set j v) (ds.set j d) (a1++(fv++a2)) (s4 _ F v d fv (kk _ _ c5) (eM _) (ov.frame (eM _) t (kk _ _ c4))) λa=>?_
  simp only[be];lia
end
inductive Out where
 |nx (U:List D)|rt (d:D)|bk (U:List D)|ct (U:List D)
abbrev EvS:=List D->Option Out
def EndsOk(K:af)(P:Hp)(u:Ty)(ML M:List Md)(D:Ends)(o:Out):Prop:=
 match o with
 |.nx U=>∀Y H F,StR K M U Y H P F->D.nx Y H
 |.rt d=>∀v H fp,Own K H fp u v d fp->fp.Nodup->(∀a∈fp,P a=el)->Same P H->D.rt v H
 |.bk U=>∀Y H F,StR K ML U Y H P F->D.bk Y H
 |.ct U=>∀Y H F,StR K ML U Y H P F->D.ct Y H
def spS(K:af)(u:Ty)(ML M:List Md)(g:EvS)(M':List Md):TS:=λD Y H=>∃(U:List VS.D) (P:Hp) (F:List aw) (o:Out),StR K M U Y H P F/\g U=cz o/\EndsOk K P u ML M' D o
def PSX(X:Cx)(u:Ty)(ML M:List Md)(st:ig)(g:EvS)(M':List Md):Prop:=PS X st (spS X.K u ML M g M')
def PSsX(X:Cx)(u:Ty)(ML M:List Md)(sts:List ig)(g:EvS)(M':List Md):Prop:=PSs X sts (spS X.K u ML M g M')
section
variable {X:Cx}{u:Ty}{ML M M':List Md}{st:ig}{sts:List ig}{g:EvS}
def PSX.mk(h:∃t,PS X st t/\∀(D:Ends) (U:List VS.D) (Y:L2.St) (H P:Hp) (F:List aw) (o:Out),StR X.K M U Y H P F->g U=cz o->EndsOk X.K P u ML M' D o->t D Y H):PSX X u ML M st g M':=by
 obtain⟨t,p,q⟩:=h;exact λpins s Y H D I ⟨U,P,F,o,S,hg,k⟩=>p pins s Y H D I (q D U Y H P F o S hg k)
def PSX.out(h:PSX X u ML M st g M'):∃t,PS X st t/\∀(D:Ends) (U:List VS.D) (Y:L2.St) (H P:Hp) (F:List aw) (o:Out),StR X.K M U Y H P F->g U=cz o->EndsOk X.K P u ML M' D o->t D Y H:=
 ⟨_,h,λ_ U _ _ P F o S hg k=>⟨U,P,F,o,S,hg,k⟩⟩
def PSsX.mk(h:∃t,PSs X sts t/\∀(D:Ends) (U:List VS.D) (Y:L2.St) (H P:Hp) (F:List aw) (o:Out),StR X.K M U Y H P F->g U=cz o->EndsOk X.K P u ML M' D o->t D Y H):PSsX X u ML M sts g M':=by
 obtain⟨t,p,q⟩:=h;exact λpins s Y H D I ⟨U,P,F,o,S,hg,k⟩=>p pins s Y H D I (q D U Y H P F o S hg k)
def PSsX.out(h:PSsX X u ML M sts g M'):∃t,PSs X sts t/\∀(D:Ends) (U:List VS.D) (Y:L2.St) (H P:Hp) (F:List aw) (o:Out),StR X.K M U Y H P F->g U=cz o->EndsOk X.K P u ML M' D o->t D Y H:=
 ⟨_,h,λ_ U _ _ P F o S hg k=>⟨U,P,F,o,S,hg,k⟩⟩
end
def Wk(M M1:List Md):Prop:=∀(K:af) (U:List D) (Y:L2.St) (H P:Hp) (F:List aw),StR K M U Y H P F->∃F',StR K M1 U Y H P F'
def l7:Wk M M:=λ_ _ _ _ _ F S=>⟨F,S⟩
def Wk.trans(a:Wk M M1)(b:Wk M1 M2):Wk M M2:=λK U Y H P F S=>by
 obtain⟨F1,S1⟩:=a K U Y H P F S;exact b K U Y H P F1 S1
def k8{M:List Md}(i:Nat)(h:M[i]?=cz m:=by rfl):Wk M (M.set i .dead):=λK U Y H P F S=>⟨F,S.dead h⟩
def E5{M:List Md}(i:Nat)(h:M[i]?=cz (.own u):=by rfl):Wk M (M.set i (.own .f)):=λK U Y H P F S=>S.freeze h
def n5:EvS:=λU=>cz (.nx U)
noncomputable def i4(a b:EvS):EvS:=λU=>(a U).bind λo=>match o with
 |.nx U'=>b U'
 |o=>cz o
noncomputable def j8(i:Nat)(f:EvE):EvS:=λU=>(f U).bind λd=>cz (.nx (U.set i d))
def asP:D->Option (D×D)
 |.tuple [a,b]=>cz (a,b)
 |_=>el
def a4g(i j:Nat)(f:EvE):EvS:=λU=>(f U).bind λd=>(asP d).bind λp=>cz (.nx ((U.set i p.1).set j p.2))
noncomputable def m9(f:EvE):EvS:=λU=>(f U).bind λd=>cz (.rt d)
def sEx(f:EvE):EvS:=λU=>(f U).bind λ_=>cz (.nx U)
noncomputable def sIf(c:EvT)(a b:EvS):EvS:=λU=>(c U).bind λk=>if k then a U else b U
def sNo:EvS:=λ_=>el
def L6(set:List D->D->Option (List D))(g:EvS):List D->List D->Option Out
 |[],U=>cz (.nx U)
 |d::ds,U=>(set U d).bind λU1=>(g U1).bind λo=>match o with
  |.nx U'=>L6 set g ds U'
  |.ct U'=>L6 set g ds U'
  |.bk U'=>cz (.nx U')
  |.rt d=>cz (.rt d)
def v4(i:Nat):List D->D->Option (List D):=λU d=>cz (U.set i d)
def a5j(i j:Nat):List D->D->Option (List D):=λU d=>(asP d).bind λp=>cz ((U.set i p.1).set j p.2)
noncomputable def I9(fi:EvA)(set:List D->D->Option (List D))(g:EvS):EvS:=λU=>(fi U).bind λds=>L6 set g ds U
def whL(c:EvT)(g:EvS):Nat->List D->Option Out
 |0,_=>el
 |n+1,U=>(c U).bind λk=>if k then (g U).bind λo=>match o with
  |.nx U'=>whL c g n U'
  |.ct U'=>whL c g n U'
  |.bk U'=>cz (.nx U')
  |.rt d=>cz (.rt d)
  else cz (.nx U)
def sWh(n:List D->Nat)(c:EvT)(g:EvS):EvS:=λU=>whL c g (n U) U
section
variable {K:af}{M M1:List Md}{U:List D}{Y:L2.St}{H P:Hp}{F:List aw}
def StR.pend(S:StR K M U Y H P F):Pend K [] [] [] M U Y H P F:=⟨rfl,rfl,S⟩
def Pend.store(h:Pend K (Mp++[.own u]) (Up++[d]) (Yp++[cz v]) M U Y H P F)(lp:Up.length=Mp.length)(lq:Yp.length=Mp.length)(hm:M[i]?=cz m) :
  Pend K Mp Up Yp (M.set i (.own u)) (U.set i d) (Y.set i (cz v)) H P F:=by
 obtain⟨_,_,S⟩:=h;obtain⟨G,h1,h2,h3⟩:=S.all;obtain⟨G1,G2,rfl,h4,h5⟩:=h1.splitAt (by simp[lp]) (by simp[lq]);obtain⟨G3,G4,rfl,h6,h7⟩:=h4.splitAt lp lq;have h8:OwnTs K H F [u] [v] [d] G4:=W9 (us:=[u]) (vs:=[v]) h7;simp only[OwnTs]at h8;obtain⟨v',r,d',e,f,g,e1,e2,rfl,o,rfl,rfl,rfl⟩:=h8;cases e1
 cases e2
 obtain⟨d0,o0,f0,pre,post,q1,q2,q3,rfl,q5⟩:=h5.at_ hm;have q:=h6.join (q5 H F (.own u) d (cz v) f (λ_ _=>rfl) (Same.refl _) ⟨v,rfl,o⟩);refine⟨lp,lq,⟨⟨_,q,O3 h2 λa=>?_,λa ha=>h3 a ?_⟩,S.lst,S.prot⟩⟩
 ·simp only[be];lia
 ·simp only[ay,bj]at ha ⊢;rcases ha with z|z|z|z
  ·exact .inl (.inl z)
  ·exact .inr (.inl z)
  ·exact .inl (.inr z)
  ·exact .inr (.inr (.inr z))
def Pend.st(h:Pend K [] [] [] M U Y H P F):StR K M U Y H P F:=h.2.2
def Pend.one(h:Pend K ([]++[.own u]) ([]++[d]) ([]++[cz v]) M U Y H P F):∃fp,Own K H F u v d fp/\fp.Nodup/\∀a∈fp,a∈F:=by
 obtain⟨_,_,S⟩:=h;obtain⟨G,h1,h2,h3⟩:=S.all;obtain⟨G1,G2,rfl,h4,h5⟩:=h1.splitAt (A:=[]++[.own u]) (U1:=[]++[d]) (Y1:=[]++[cz v]) rfl rfl;have h8:OwnTs K H F [u] [v] [d] G1:=W9 (us:=[u]) (vs:=[v]) h4;simp only[OwnTs]at h8;obtain⟨v',r,d',e,f,g,e1,e2,rfl,o,rfl,rfl,rfl⟩:=h8;cases e1
 cases e2
 rw[bj]at h2 h3;exact⟨f,o,(aZ.mp h2).1,λa ha=>h3 a (aC _ ha)⟩
def b6d(u u1 u2:Ty):Prop:=(u=.f/\u1=.f/\u2=.f)\/(u=.i/\u1=.i/\u2=.i)\/u=.tp [u1,u2]
def Pend.untup(h:Pend K ([]++[.own u]) ([]++[.tuple [d1,d2]]) ([]++[cz v]) M U Y H P F)(hp:b6d u u1 u2) :
  ∃a v1 v2,v=.ref a/\SqT K H a [v1,v2]/\Pend K ([.own u1]++[.own u2]) ([d1]++[d2]) ([cz v1]++[cz v2]) M U Y H P F:=by
 obtain⟨_,_,S⟩:=h;obtain⟨G,h1,h2,h3⟩:=S.all;obtain⟨G1,G2,rfl,h4,h5⟩:=h1.splitAt (A:=[]++[.own u]) (U1:=[]++[.tuple [d1,d2]]) (Y1:=[]++[cz v]) rfl rfl;have h8:OwnTs K H F [u] [v] [.tuple [d1,d2]] G1:=W9 (us:=[u]) (vs:=[v]) h4;simp only[OwnTs]at h8;obtain⟨v',r,d',e,f,g,e1,e2,rfl,o,rfl,rfl,rfl⟩:=h8;cases e1
 cases e2
 have key:∃a v1 v2 f1 f2,v=.ref a/\SqT K H a [v1,v2]/\f=f1++f2/\Own K H F u1 v1 d1 f1/\Own K H F u2 v2 d2 f2:=by
  rcases hp with⟨rfl,rfl,rfl⟩|⟨rfl,rfl,rfl⟩|rfl
  ·obtain⟨rfl,o'⟩:=a8L o;obtain⟨a,xs,rfl,k1,k2⟩:=o'.tup_inv;obtain⟨v1,v2,rfl,k3,k4⟩:=a2j k2;refine⟨a,v1,v2,[],[],rfl,Q5 k1 i7,rfl,?_,?_⟩<;>simp only[Own]
   ·exact⟨trivial,k3⟩
   ·exact⟨trivial,k4⟩
  ·obtain⟨rfl,hi,o'⟩:=R5 o;obtain⟨a,xs,rfl,k1,k2⟩:=o'.tup_inv;obtain⟨v1,v2,rfl,k3,k4⟩:=a2j k2;simp only[imm,g8,ao]at hi;refine⟨a,v1,v2,[],[],rfl,Q5 k1 i7,rfl,?_,?_⟩<;>simp only[Own]
   ·exact⟨trivial,hi.1,k3⟩
   ·exact⟨trivial,hi.2.1,k4⟩
  ·simp only[Own,OwnTs]at o;rcases o with⟨_,hi,_⟩|⟨a,xs,ds,rfl,k1,_,e0,v1,r,Hj,e',f1,g1,rfl,e2,rfl,o1,v2,r2,Hi,Hh,f2,g2,rfl,e3,rfl,o2,rfl,rfl,rfl⟩
   ·exact (hi.2 _ rfl).elim
   cases e0
   cases e2
   cases e3
   exact⟨a,v1,v2,f1,f2,rfl,SqT.of k1,by simp,o1,o2⟩
 obtain⟨a,v1,v2,f1,f2,rfl,k1,rfl,o1,o2⟩:=key;refine⟨a,v1,v2,rfl,k1,rfl,rfl,⟨⟨f1++(f2++G2),?_,by simpa using h2,λa ha=>h3 a (by simpa using ha)⟩,S.lst,S.prot⟩⟩;exact k9 (m:=.own u1) ⟨v1,rfl,o1⟩ (k9 (m:=.own u2) ⟨v2,rfl,o2⟩ h5)
end
section
variable {X:Cx}{u t:Ty}{ML M M1 M2 M':List Md}{st:ig}{sts body BN:List ig}{g g1 g2:EvS}{e tg iter:Expr}{f:EvE}{fc:EvT}{fi:EvA}{c:Cat}{pos:eO}
def EndsOk.pre{K:af}{P:Hp}{D:Ends}{o:Out}(h:EndsOk K P u ML M' D o)(hw:Wk M M'):EndsOk K P u ML M D o:=by
 cases o with
 |nx U=>exact λY H F S=>by obtain⟨F',S'⟩:=hw K U Y H P F S;exact h Y H F' S'
 |rt d=>exact h
 |bk U=>exact h
 |ct U=>exact h
def PSsX.weak(h:PSsX X u ML M1 sts g M2)(a:Wk M M1)(b:Wk M2 M'):PSsX X u ML M sts g M':=by
 obtain⟨t,p,q⟩:=h.out;refine .mk ⟨t,p,λD U Y H P F o S hg k=>?_⟩;obtain⟨F1,S1⟩:=a _ U Y H P F S;exact q D U Y H P F1 o S1 hg (k.pre b)
def PSX.weak(h:PSX X u ML M1 st g M2)(a:Wk M M1)(b:Wk M2 M'):PSX X u ML M st g M':=by
 obtain⟨t,p,q⟩:=h.out;refine .mk ⟨t,p,λD U Y H P F o S hg k=>?_⟩;obtain⟨F1,S1⟩:=a _ U Y H P F S;exact q D U Y H P F1 o S1 hg (k.pre b)
def n6:PSsX X u ML M [] n5 M:=.mk ⟨_,a4X,λD U Y H P F o S hg k=>by cases hg;exact k Y H F S⟩
def c6(h1:PSX X u ML M st g1 M1)(h2:PSsX X u ML M1 sts g2 M'):PSsX X u ML M (st::sts) (i4 g1 g2) M':=by
 obtain⟨t1,p1,q1⟩:=h1.out;obtain⟨t2,p2,q2⟩:=h2.out;refine .mk ⟨_,W1 p1 p2,λD U Y H P F o S hg k=>?_⟩;obtain⟨o1,h1,g1⟩:=bnd hg;refine q1 {D with nx:=t2 D} U Y H P F o1 S h1 ?_;cases o1 with
 |nx U'=>exact λY' H' F' S'=>q2 D U' Y' H' P F' o S' g1 k
 |rt d=>cases g1;exact k
 |bk U'=>cases g1;exact k
 |ct U'=>cases g1;exact k
def f8(h1:PSX X u ML M st g M1):PSsX X u ML M [st] g M1:=by
 obtain⟨t1,p1,q1⟩:=h1.out;exact .mk ⟨_,b3X p1,q1⟩
def j6(i:Nat)(hN:X.N.Nodup)(he:PMX X M e f t M1)(hi:X.N[i]?=cz x:=by rfl)(hx:autoParam (Loc X.env.scope x) ZW._auto_1)(hm:M1[i]?=cz m:=by rfl)
  (hs:eU e (cz (.Name x px)) pos.line X.env=pure rp:=by rfl) (hf:autoParam (X.fn x=p4\/X.env.scope.names.lookup x=cz .local) ZV._auto_1):PSX X u ML M (.Assign [.Name x px] e pos) (j8 i f) (M1.set i (.own t)):=by
 obtain⟨te,pe,qe⟩:=he;refine .mk ⟨_,a7a hN hi hx pe hs hf,λD U Y H P F o S hg k=>?_⟩;obtain⟨d,h1,g1⟩:=bnd hg;cases g1
 exact qe [] [] [] U Y H P F d _ S.pend h1 λv H' F' e S'=>k _ _ F' (S'.store rfl rfl hm).st
def b4B(i j:Nat){pt pk}(hN:X.N.Nodup)(hc:X.calm=p4)(he:PMX X M e f t M1)(hp:b6d t u1 u2)(hi:X.N[i]?=cz x:=by rfl)(hj:X.N[j]?=cz y:=by rfl)(hx:autoParam (Loc X.env.scope x) ZW._auto_1)
  (hy:autoParam (Loc X.env.scope y) ZW._auto_1) (nY:i≠j:=by decide) (tZ:M1[i]?=cz m1:=by rfl) (ze:M1[j]?=cz m2:=by rfl)
  (EA:autoParam (X.fn x=p4\/X.env.scope.names.lookup x=cz .local) ZV._auto_1) (zx:autoParam (X.fn y=p4\/X.env.scope.names.lookup y=cz .local) ZV._auto_1)
  (hl:(iG [.Name x px,.Name y py] X.env).length=2:=by rfl) (qX:(iG [.Name x px,.Name y py] X.env).findIdx? (·.1)=el:=by rfl)
  (hg1:PGs X [.Name x px,.Name y py] (a2y (R0 i) (a2y (R0 j) b3Y)):=by exact p9 (o3 hN hi hx EA) (p9 (o3 hN hj hy zx) L9))
  (hs:swapsWithSole [.Tuple [.Name x px,.Name y py] pk pt] e pos.line X.env=pure rp:=by rfl) (hw:swappedStores [.Tuple [.Name x px,.Name y py] pk pt] e X.env=pure el:=by rfl)
  (h1:(iG [.Tuple [.Name x px,.Name y py] pk pt] X.env).map (·.2)=[pD (.Tuple [.Name x px,.Name y py] pk pt) X.env]:=by rfl) :
  PSX X u ML M (.Assign [.Tuple [.Name x px,.Name y py] pk pt] e pos) (a4g i j f) ((M1.set i (.own u1)).set j (.own u2)):=by
 obtain⟨te,pe,qe⟩:=he;refine .mk ⟨_,b6M pe (W2 hc hg1 hl qX) hs hw h1,λD U Y H P F o S hg k=>?_⟩;obtain⟨d,h1,g1⟩:=bnd hg;obtain⟨⟨d1,d2⟩,h2,g2⟩:=bnd g1;cases g2
 have hd:d=.tuple [d1,d2]:=by
  match d,h2 with
  |.tuple [a,b],h2=>cases h2;rfl
 subst hd;refine qe [] [] [] U Y H P F _ _ S.pend h1 λv H' F' e S'=>?_
 obtain⟨a,v1,v2,rfl,k1,S2⟩:=S'.untup hp;refine⟨a,_,rfl,k1,rfl,v1,[v2],rfl,v2,[],rfl,rfl,?_⟩;have S3:=S2.store (i:=j) rfl rfl ze;have zf:(M1.set j (.own u2))[i]?=cz m1:=by rw[gC (dP nY)];exact tZ
 have S4:=(Pend.store (Mp:=[]) (Up:=[]) (Yp:=[]) (i:=i) S3 rfl rfl zf).st;rw[sj _ _ (dP nY),sj _ _ (dP nY),sj _ _ (dP nY)]at S4;exact k _ _ F' S4
def k6(he:PMX X M e f u M1):PSX X u ML M (.Return (cz e) pos) (m9 f) M':=by
 obtain⟨te,pe,qe⟩:=he;refine .mk ⟨_,b1m pe,λD U Y H P F o S hg k=>?_⟩;obtain⟨d,h1,g1⟩:=bnd hg;cases g1
 refine qe [] [] [] U Y H P F d _ S.pend h1 λv H' F' e S'=>?_
 obtain⟨fp,o,nd,sub⟩:=S'.one;refine k v H' fp (o.frame (E7 sub) u λ_ _=>rfl) nd (λa ha=>?_) (S'.2.2.prot.trans i7);cases hP:P a with
 |none=>rfl
 |some o'=>
  have:=S'.2.2.prot _ _ hP;rw[W6 (sub a ha)]at this;cases this
def a8T(he:PX X M e f c)(hs:eU e el pos.line X.env=pure rp:=by rfl):PSX X u ML M (.Expr e pos) (sEx f) M:=by
 obtain⟨te,pe,qe⟩:=he.out;refine .mk ⟨_,X8 pe hs,λD U Y H P F o S hg k=>?_⟩;obtain⟨d,h1,g1⟩:=bnd hg;cases g1
 exact qe U Y H P F d _ S.toE h1 λv H' e _=>k Y H' F (S.grow e)
def r9(hc:PTX X M c0 fc)(ha:PSsX X u ML M body g1 M')(hb:PSsX X u ML M BN g2 M'):PSX X u ML M (.If c0 body BN pos) (sIf fc g1 g2) M':=by
 obtain⟨tc,pc,qc⟩:=hc.out;obtain⟨ta,pa,qa⟩:=ha.out;obtain⟨tb,pb,qb⟩:=hb.out;refine .mk ⟨_,b5X pc pa pb,λD U Y H P F o S hg k=>?_⟩;obtain⟨b,h1,g1⟩:=bnd hg;refine qc U Y H P F b _ S.toE h1 λH1 e1=>?_
 cases b with
 |true=>exact a5N (qa D U Y H1 P F o (S.grow e1) g1 k)
 |false=>exact a5M (qb D U Y H1 P F o (S.grow e1) g1 k)
def b6e:PSX X u ML M st sNo M':=.mk ⟨_,b1n,λD U Y H P F o S hg k=>by cases hg⟩
def a9Z(K:af)(M MB:List Md)(g:TG)(set:List D->D->Option (List D))(m:D->Prop):Prop:=
 ∀(U:List D) (Y:L2.St) (H P:Hp) (F:List aw) (x:V) (d:D) (U':List D) (Q:L2.St->Hp->Prop),StR K M U Y H P F->Den K (cut H F) x d->m d->set U d=cz U'->(∀Y' F',StR K MB U' Y' H P F'->Q Y' H)->g x Y H Q
def mI(d:D):Prop:=imm d=p4
def mF(_:D):Prop:=True
def b7l(hm:M[i]?=cz m:=by rfl):a9Z K M (M.set i (.own .f)) (R0 i) (v4 i) mF:=by
 intro U Y H P F x d U' Q S hd _ hs q;cases hs
 exact q _ _ (S.set (u:=.f) (fp:=[]) hm (Same.refl _) (by simp only[Own,cB];exact⟨trivial,hd⟩) bw λa ha=>(nomatch ha))
def G6(hm:M[i]?=cz m:=by rfl):a9Z K M (M.set i (.own .i)) (R0 i) (v4 i) mI:=by
 intro U Y H P F x d U' Q S hd hi hs q;cases hs
 exact q _ _ (S.set (u:=.i) (fp:=[]) hm (Same.refl _) (by simp only[Own,cB];exact⟨trivial,hi,hd⟩) bw λa ha=>(nomatch ha))
def a7t(hw:w=.f\/w=.i)(nY:i≠j:=by decide)(tZ:M[i]?=cz m1:=by rfl)(ze:M[j]?=cz m2:=by rfl):a9Z K M ((M.set i (.own w)).set j (.own w)) (b6K K 2 (a2y (R0 i) (a2y (R0 j) b3Y))) (a5j i j) (λd=>w=.i->imm d=p4):=by
 intro U Y H P F x d U' Q S hd hi hs q;obtain⟨⟨d1,d2⟩,h2,g2⟩:=bnd hs;cases g2
 have wx:d=.tuple [d1,d2]:=by
  match d,h2 with
  |.tuple [a,b],h2=>cases h2;rfl
 subst wx;obtain⟨a,xs,rfl,k1,k2⟩:=hd.tup_inv;obtain⟨v1,v2,rfl,k3,k4⟩:=a2j k2;refine⟨a,_,rfl,Q5 k1 i7,rfl,v1,[v2],rfl,v2,[],rfl,rfl,?_⟩;have o1:Own K H ([]++F) w v1 d1 []:=by
  rcases hw with rfl|rfl
  ·simp only[Own,cB];exact⟨trivial,k3⟩
  ·have:=hi rfl;simp only[imm,g8,ao]at this;simp only[Own,cB];exact⟨trivial,this.1,k3⟩
 have o2:Own K H ([]++([]++F)) w v2 d2 []:=by
  rcases hw with rfl|rfl
  ·simp only[Own,cB];exact⟨trivial,k4⟩
  ·have:=hi rfl;simp only[imm,g8,ao]at this;simp only[Own,cB];exact⟨trivial,this.2.1,k4⟩
 have S1:=S.set tZ (Same.refl _) o1 bw λa ha=>(nomatch ha)
 exact q _ _ (S1.set (i:=j) (m:=m2) (by rw[gC nY];exact ze) (Same.refl _) o2 bw λa ha=>(nomatch ha))
def D4{set:List D->D->Option (List D)}{m:D->Prop}(hc:X.calm=p4)(hp:n_ (a_ X.prog X.w) X.A X.env X.xe)(hi:PIX X M tg iter fi)(hg:PG X tg gt)(hs:a9Z X.K M MB gt set m)(hm:∀U ds,fi U=cz ds->∀d∈ds,m d)(hb:PSsX X u M MB body g M)
  (hf:∀x,eV iter X.env x=pure x:=by intro _;rfl):PSX X u ML M (.For tg iter body [] pos) (I9 fi set g) M:=by
 obtain⟨wi,pi,qi⟩:=hi;obtain⟨tb,pb,qb⟩:=hb.out;refine .mk ⟨_,a7d hp hc pi hg pb hf,λD U Y H P F o S uc k=>?_⟩;obtain⟨ds,h1,g1⟩:=bnd uc;refine qi U Y H P F ds _ S.toE h1 λJ xs Pr H1 e1 hw tQ hx=>?_
 have S1:=S.grow e1;have qV:=hx.length;refine⟨λi n Y' H'=>n=xs.length-i/\i<=xs.length/\∃U' F',StR X.K M U' Y' H' (cut H1 F) F'/\L6 set g (ds.drop i) U'=cz o,⟨xs.length,by simp,b_ _,U,F,⟨S1.all,S1.lst,Same.refl _⟩,g1⟩,?_⟩;rintro i n Y' H' ⟨rfl,hi,U',F',S',hfl⟩;have kT:Same (cut H1 F) (cut H' F'):=S'.prot;have q:=tQ H' (kT.trans i7);by_cases gS:i<xs.length
 ·refine .inr ⟨hw.go i H' q gS,λY2 H2=>∃U2 F2,StR X.K M U2 Y2 H2 (cut H1 F) F2/\L6 set g (ds.drop (i+1)) U2=cz o,λY2 H2 ⟨U2,F2,S2,h2⟩=>⟨xs.length-(i+1),by lia,rfl,gS,U2,F2,S2,h2⟩,λx H2 hy=>?_⟩;obtain⟨rfl,sG⟩:=hw.yld i H' x H2 q gS hy;have mB:i<ds.length:=by lia
  have lJ:ds.drop i=ds[i]::ds.drop (i+1):=fB mB;rw[lJ]at hfl;obtain⟨U1,tO,g2⟩:=bnd (show (set U' ds[i]).bind _=cz o from hfl);obtain⟨o1,hg1,g3⟩:=bnd g2;obtain⟨d',qE,ug⟩:=(hx.up kT).getV sG;have lD:d'=ds[i]:=by rw[ar mB]at qE;exact (aL qE).symm
  subst lD;refine hs U' Y' H2 (cut H1 F) F' x _ U1 _ S' ug (hm U ds h1 _ (cH mB)) tO λY3 F3 S3=>qb _ U1 Y3 H2 (cut H1 F) F3 o1 S3 hg1 ?_
  cases o1 with
  |nx U2=>exact λY4 H4 F4 S4=>⟨U2,F4,S4,g3⟩
  |ct U2=>exact λY4 H4 F4 S4=>⟨U2,F4,S4,g3⟩
  |bk U2=>
   have:o=.nx U2:=(aL g3).symm;subst this;exact λY4 H4 F4 S4=>k Y4 H4 F4 ⟨S4.all,S4.lst,S1.prot.trans S4.prot⟩
  |rt d=>
   have:o=.rt d:=(aL g3).symm;subst this;refine λv H4 fp o nd fr e=>k v H4 fp o nd (λa ha=>?_) (S1.prot.trans e)
   exact S1.prot.free (fr a ha)
 ·have e:i=xs.length:=by lia
  subst e;rw[qV,kE]at hfl;have:o=.nx U':=(aL hfl).symm;subst this;exact .inl ⟨hw.stop _ H' q (aD _),k Y' H' F' ⟨S'.all,S'.lst,S1.prot.trans S'.prot⟩⟩
def a2L(n:List D->Nat)(hp:n_ (a_ X.prog X.w) X.A X.env X.xe)(hc:PTX X M c0 fc)(hb:PSsX X u M M body g M):PSX X u ML M (.While c0 body [] pos) (sWh n fc g) M:=by
 obtain⟨tc,pc,qc⟩:=hc.out;obtain⟨tb,pb,qb⟩:=hb.out;refine .mk ⟨_,b1o hp pc pb,λD U Y H P F o S uc k=>?_⟩;refine⟨λn Y' H'=>∃U' F',StR X.K M U' Y' H' P F'/\whL fc g n U'=cz o,⟨n U,U,F,S,uc⟩,?_⟩;rintro n Y' H' ⟨U',F',S',hw⟩;cases n with
 |zero=>cases hw
 |succ n=>
  obtain⟨b,h1,g1⟩:=bnd (show (fc U').bind _=cz o from hw);refine qc U' Y' H' P F' b _ S'.toE h1 λH1 e1=>?_
  cases b with
  |true=>
   refine a5N ⟨λY2 H2=>∃U2 F2,StR X.K M U2 Y2 H2 P F2/\whL fc g n U2=cz o,λY2 H2 z=>⟨n,kz _,z⟩,?_⟩;obtain⟨o1,hg1,g3⟩:=bnd (show (g U').bind _=cz o from g1);refine qb _ U' Y' H1 P F' o1 (S'.grow e1) hg1 ?_;cases o1 with
   |nx U2=>exact λY4 H4 F4 S4=>⟨U2,F4,S4,g3⟩
   |ct U2=>exact λY4 H4 F4 S4=>⟨U2,F4,S4,g3⟩
   |bk U2=>
    have:o=.nx U2:=(aL g3).symm;subst this;exact λY4 H4 F4 S4=>k Y4 H4 F4 S4
   |rt d=>
    have:o=.rt d:=(aL g3).symm;subst this;exact k
  |false=>
   have:o=.nx U':=(aL g1).symm;subst this;exact a5M (k Y' H1 F' (S'.grow e1))
end
abbrev EvP:=List D->Option (List Nat)
def PPX(X:Cx)(M:List Md)(e:Expr)(i:Nat)(f:EvP):Prop:=
 ∃t,PE X e t/\∀(U:List D) (Y:L2.St) (H P:Hp) (F:List aw) (p:List Nat) (Q:VK),StE X.K M U Y H P F->f U=cz p->(∀v v0 H',Same H H'->Y[i]?=cz (cz v0)->wk H' v0 p v->Q v H')->t Y H Q
def p6:EvP:=λ_=>cz []
def a0L(u:Ty)(d:D)(p:List Nat):Option (List D):=(dAt u d p).bind λtd=>match td with
 | (.l _,.list ds)=>cz ds
 | (.tp _,.tuple ds)=>cz ds
 |_=>el
def pIx(i:Nat)(u:Ty)(fp:EvP)(fb:EvE):EvP:=λU=>(fp U).bind λp=>(a0L u (U.getD i .none) p).bind λds=>(fb U).bind λy=>(asI y).bind λk=>(ixN ds.length k).bind λj=>cz (p++[j])
section
variable {K:af}{H:Hp}{F:List aw}
theorem Own.sub:∀(p:List Nat) {u t:Ty} {v w:V} {d d':D} {fp:List aw},Own K H F u v d fp->dAt u d p=cz (t,d')->wk H v p w->∃f',Own K H F t w d' f'
 |[],u,t,v,w,d,d',fp,h,hd,hw=>by
  have lD:cz (u,d)=cz (t,d'):=hd;cases lD
  have yI:w=v:=hw;subst yI;exact⟨fp,h⟩
 |j::p,u,t,v,w,d,d',fp,h,hd,hw=>by
  obtain⟨a0,sv,v1,rfl,sH,rQ,hw⟩:=hw;cases u with
  |l u=>
   cases d with
   |list es=>
    obtain⟨d1,g1,g2⟩:=bnd (show (es[j]?).bind (λd=>dAt u d p)=cz (t,d') from hd);simp only[Own]at h;rcases h with⟨_,hi,_⟩|⟨a,xs,eJ,fs,e0,h1,h2,rfl,h3⟩
    ·simp only[imm]at hi;cases hi
    ·cases h2
     cases e0
     have tI:sv=xs:=by rcases sH with z|z<;>rw[h1]at z<;>cases z;rfl
     subst tI;obtain⟨v2,f,pre,post,z1,z2,rfl,_⟩:=h3.zip g1;rw[rQ]at z1;cases z1
     exact Own.sub p z2 g2 hw
   |_=>cases hd
  |tp us=>
   cases d with
   |tuple es=>
    obtain⟨u1,g0,zY⟩:=bnd (show (us[j]?).bind (λu=>(es[j]?).bind λd=>dAt u d p)=cz (t,d') from hd);obtain⟨d1,g1,g2⟩:=bnd zY;simp only[Own]at h;rcases h with⟨_,hi,_⟩|⟨a,xs,eJ,e0,h1,h0,h2,h3⟩
    ·exact (hi.2 _ rfl).elim
    cases h2
    cases e0
    have tI:sv=xs:=by rcases sH with z|z<;>rw[h1]at z<;>cases z;rfl
    subst tI;obtain⟨v2,f,pre,post,z1,z2,rfl,_⟩:=h3.zip g0 g1;rw[rQ]at z1;cases z1
    exact Own.sub p z2 g2 hw
   |_=>cases hd
  |i=>cases hd
  |f=>cases hd
  |d kt u=>cases hd
def b1U{fp p}(h:Own K H F u v d fp)(hi:a0L u d p=cz ds)(hw:wk H v p w):∃a xs,w=.ref a/\(H a=cz (.lst xs)\/H a=cz (.tup xs))/\xs.length=ds.length:=by
 obtain⟨⟨t,d'⟩,h1,h2⟩:=bnd hi;obtain⟨f',o⟩:=h.sub p h1 hw
 match t,d',h2 with
 |.l t,.list es,h2=>
  cases h2
  simp only[Own]at o;rcases o with⟨_,hi,_⟩|⟨a,xs,eJ,fs,e0,h1,h2,rfl,h3⟩
  ·simp only[imm]at hi;cases hi
  ·cases h2
   exact⟨a,xs,e0,.inl h1,h3.length⟩
 |.tp us,.tuple es,h2=>
  cases h2
  simp only[Own]at o;rcases o with⟨_,hi,_⟩|⟨a,xs,eJ,e0,h1,h0,h2,h3⟩
  ·exact (hi.2 _ rfl).elim
  cases h2
  exact⟨a,xs,e0,.inr h1,by rw[h3.len.1,h3.len.2]⟩
end
section
variable {X:Cx}{u t w:Ty}{ML M M1 M':List Md}{e b pl:Expr}{f fb:EvE}{fp:EvP}{cb:Cat}{pos apos cf:eO}
def F5(i:Nat)(hN:X.N[i]?=cz x:=by rfl)(hv:autoParam (NmV X x) ZY._auto_1)(hm:M[i]?=cz (.own u):=by rfl):PPX X M (.Name x pos) i p6:=by
 refine⟨_,C6 hN hv.1 hv.2.1 hv.2.2,λU Y H P F p Q S hf k=>?_⟩;cases hf
 obtain⟨v,f,e,_⟩:=S.get hm;exact⟨v,e,k v v H (Same.refl _) e rfl⟩
def b7m(h:PPX X M pl i fp)(hb:PX X M b fb cb)(hm:M[i]?=cz (.own u):=by rfl)(hs:a0E b:=by exact λ_ _=>rfl):PPX X M (.Subscript pl b pos) i (pIx i u fp fb):=by
 obtain⟨ta,pa,qa⟩:=h;obtain⟨tb,pb,qb⟩:=hb.out;refine⟨_,a8H a5g pa pb hs,λU Y H P F p Q S hf k=>?_⟩;obtain⟨p0,h1,g1⟩:=bnd hf;obtain⟨ds,h2,g2⟩:=bnd g1;obtain⟨y,h3,g3⟩:=bnd g2;obtain⟨kk,h4,g4⟩:=bnd g3;cases a2I h4
 obtain⟨j,h5,g5⟩:=bnd g4;cases g5
 refine qa U Y H P F p0 _ S h1 λv v0 H1 e1 vK hw=>qb U Y H1 P F _ _ (S.grow e1) h3 λwv H2 e2 r2=>?_
 obtain⟨v',f',e',o,_⟩:=(S.grow (e1.trans e2)).get hm;rw[vK]at e';cases e'
 have AN:=b1T e2 hw;obtain⟨a,xs,rfl,hh,hl⟩:=b1U o h2 AN;have hj:j<ds.length:=by
  obtain⟨_,z,_,_⟩:=a8F h5;exact z
 obtain⟨xj,hx⟩:∃xj,xs[j]?=cz xj:=⟨_,ar (by lia)⟩;have jg:L2.atI xs kk=cz xj:=by unfold L2.atI;rw[hl,h5];exact hx
 have fin:=k xj v0 H2 (e1.trans e2) vK (a8S AN rfl hh hx);rcases hh with hh|hh
 ·exact .inl ⟨a,xs,kk,_,rfl,r2.den.int_inv,.inl (.inl hh),jg,fin⟩
 ·exact .inr ⟨a,xs,kk,_,rfl,r2.den.int_inv,.inl (.inl hh),jg,fin⟩
def C5(i:Nat)(u:Ty)(fp:EvP)(fe:EvE):EvS:=λU=>(fp U).bind λp=>(a0L u (U.getD i .none) p).bind λds=>(fe U).bind λd=>if ds.length<1000000 then cz (.nx (U.set i (a2K (U.getD i .none) p (.list (ds++[d]))))) else el
def b7n(u:Ty)(fp:EvP)(t:Ty):Prop:=∀U p d td,fp U=cz p->dAt u d p=cz td->td.1=.l t
def X0:b7n (.l t) p6 t:=λU p d td h1 h2=>by
 cases h1
 have jQ:cz (Ty.l t,d)=cz td:=h2;cases jQ
 rfl
def b9x{i:Nat}{us:List Ty}{k:Nat}(h:us[k]?=cz (.l t))(EC:∀U,fb U=cz (.int k)):b7n (.tp us) (pIx i (.tp us) p6 fb) t:=λU p d td h1 h2=>by
 obtain⟨p0,k1,g1⟩:=bnd h1;cases k1
 obtain⟨ds,k2,g2⟩:=bnd g1;obtain⟨y,k3,g3⟩:=bnd g2;rw[EC U]at k3;cases k3
 obtain⟨kk,k4,g4⟩:=bnd g3;cases k4
 obtain⟨j,k5,g5⟩:=bnd g4;cases g5
 have hj:j=k:=by
  unfold ixN at k5;rw[aH (by lia)]at k5
  split at k5
  ·have:=aL k5;lia
  ·cases k5
 subst hj;cases d with
 |tuple es=>
  obtain⟨u1,z0,Cm⟩:=bnd (show (us[j]?).bind (λu=>(es[j]?).bind λd=>dAt u d [])=cz td from h2);obtain⟨d1,z1,z2⟩:=bnd Cm;rw[h]at z0;cases z0
  have Ck:cz (Ty.l t,d1)=cz td:=z2;cases Ck
  rfl
 |_=>cases h2
def b4C{p:List Nat}{ds:List D}(ht:∀td,dAt u d p=cz td->td.1=.l t)(hi:a0L u d p=cz ds):dAt u d p=cz (.l t,.list ds):=by
 obtain⟨⟨t',d'⟩,h1,h2⟩:=bnd hi;have e:t'=.l t:=ht _ h1;subst e;cases d' with
 |list es=>cases h2;exact h1
 |_=>cases h2
def L7(i:Nat)(hp:PPX X M pl i fp)(he:PMX X M e f t M1)(ht:b7n u fp t)(hm:M[i]?=cz (.own u):=by rfl)(tZ:M1[i]?=cz (.own u):=by rfl)
  (dS:cK pl "append" X.env (cg pl X.env)=cg pl X.env:=by rfl)
  (jG:((cj cf (ax [e] X.env)).all (λx=>!x.1)&&(kq cf (gU [] X.env)).all (λx=>x.1.isSome)
   && decide ([e].length+([]:List fV).length+(if ([]:List fV).isEmpty then 0 else 1)<30))=p4:=by rfl)
  (dR:(apos.endLine==cf.line)=p4:=by rfl) (hs:ax [e] X.env=(rp,cg e X.env)::ax [] X.env:=by rfl) (fP:(cj cf (ax [] X.env)).any (·.1)=rp:=by rfl)
  (oq:eU (.Call (.Attribute pl "append" apos) [e] [] cf) el pos.line X.env=pure rp:=by rfl) :
  PSX X w ML M (.Expr (.Call (.Attribute pl "append" apos) [e] [] cf) pos) (C5 i u fp f) M1:=by
 obtain⟨tp,pp,qp⟩:=hp;obtain⟨te,pe,qe⟩:=he;refine .mk ⟨_,X8 (a8I eB sf sd a1l pp (m5 pe q9 hs) dS jG dR hs fP) oq,λD U Y H P F o S hg k=>?_⟩;obtain⟨p,h1,g1⟩:=bnd hg;obtain⟨ds,h2,g2⟩:=bnd g1;obtain⟨d,h3,g3⟩:=bnd g2;by_cases hz:ds.length<1000000
 ·rw[aH hz]at g3;cases g3
  refine qp U Y H P F p _ S.toE h1 λv v0 H1 e1 vK hw=>?_
  have S1:=S.grow e1;obtain⟨v',f',e',o,_⟩:=S1.toE.get hm;rw[vK]at e';cases e'
  have xJ:=b4C (λtd z=>ht U p _ td h1 z) h2;obtain⟨b,xs,fs,pre,post,rfl,r2,_,_,_⟩:=o.path p xJ hw;refine⟨.inl ⟨rfl,xs,SqL.of r2⟩,qe [] [] [] U Y H1 P F d _ S1.pend h3 λv1 H2 F2 e2 S2=>?_⟩;obtain⟨b',lC,e',CF,hl,S3,_⟩:=S2.put tZ vK xJ (b1T e2 hw);cases e'
  refine⟨b,lC,v1,rfl,rfl,CF,?_,k Y _ F2 S3⟩;rw[hl];exact fE hz (by rw[cO];decide)
 ·rw[aM hz]at g3;cases g3
def D5(i:Nat)(hN:X.N.Nodup)(hc:X.calm=p4)
  (hi:PIX X M tg iter fi) (C:Y0 scope X.env.kindOf ys js X.N=p4) (hg:∀cl Cl s H fp,PG (O9 X (tn++ys) scope cl Cl s H fp) tg g) (zt:TgR X.K g n pt) (Eb:mm=.i\/mm=.f)
  (qw:mm=.i->∀U ds,fi U=cz ds->∀d∈ds,∀bs,pt d=cz bs->g8 bs=p4) (vM:tn.length=n)
  (ht:∀cl Cl s H fp,PTs (O9 X (tn++ys) scope cl Cl s H fp) ifs (spT X.K (W8 (.own mm) n M js) ft)) (he:∀cl Cl s H fp,PX (O9 X (tn++ys) scope cl Cl s H fp) (W8 (.own mm) n M js) elt fe (.new t))
  (sG:X.N[i]?=cz x:=by rfl) (hx:autoParam (Loc X.env.scope x) ZW._auto_1) (hm:M[i]?=cz m:=by rfl)
  (oq:eU (.ListComp elt [⟨tg,iter,ifs,0⟩] scope cps) (cz (.Name x px)) pos.line X.env=pure p4:=by rfl) (hs:∀x,eV iter X.env x=pure x:=by intro _;rfl)
  (hf:autoParam (X.fn x=p4\/X.env.scope.names.lookup x=cz .local) ZV._auto_1) :
  PSX X w ML M (.Assign [.Name x px] (.ListComp elt [⟨tg,iter,ifs,0⟩] scope cps) pos) (j8 i (l0 fi js pt ft fe)) (M.set i (.own (.l t))):=by
 obtain⟨wi,pi,qi⟩:=hi;refine .mk ⟨_,a5O (te:=spE X.K (W8 (.own mm) n M js) fe (.new t)) hc hN sG hx pi C hg ht he oq hs hf,λD U Y H P F o S nv k=>?_⟩;obtain⟨d,h1,g1⟩:=bnd nv;cases g1
 exact a4f qi zt Eb qw vM S.toE h1 λv H' e ⟨fp,o,nd,fr⟩=>k _ _ _ (S.set hm e o nd fr)
end
def argsOk:List Ty->List D->Bool
 |[],[]=>p4
 |.i::us,d::ds=>imm d&&argsOk us ds
 |.f::us,_::ds=>argsOk us ds
 |_,_=>rp
noncomputable def fnD(us:List Ty)(n:Nat)(g:EvS):List D->Option D:=λds=>if argsOk us ds then (g (ds++aR n .none)).bind λo=>match o with
 |.rt d=>cz d
 |_=>el
 else el
theorem T8:∀{us:List Ty} {vs:List V} {ds:List D},argsOk us ds=p4->DenAll K H vs ds->∀n,StAll K H [] (us.map .own++aR n .dead) (ds++aR n .none) (vs.map cz++aR n el) []
 |[],vs,[],_,hd,n=>by
  rw[hd.nil_inv]
  induction n with
  |zero=>exact N1
  |succ n ih=>exact k9 (K:=K) (H:=H) (F:=[]) (m:=.dead) (f:=[]) rfl ih
 |.i::us,vs,d::ds,h,hd,n=>by
  have h':imm d=p4/\argsOk us ds=p4:=by simpa[argsOk]using h
  obtain⟨v,r,rfl,h1,h2⟩:=hd.cons_inv;refine k9 (K:=K) (H:=H) (F:=[]) (m:=.own .i) (f:=[]) ⟨v,rfl,?_⟩ (T8 h'.2 h2 n);simp only[Own,M3];exact⟨trivial,h'.1,h1⟩
 |.f::us,vs,d::ds,h,hd,n=>by
  have h':argsOk us ds=p4:=by simpa[argsOk]using h
  obtain⟨v,r,rfl,h1,h2⟩:=hd.cons_inv;refine k9 (K:=K) (H:=H) (F:=[]) (m:=.own .f) (f:=[]) ⟨v,rfl,?_⟩ (T8 h' h2 n);simp only[Own,M3];exact⟨trivial,h1⟩
 |.l _::us,vs,d::ds,h,_,_=>by simp[argsOk]at h
 |.tp _::us,vs,d::ds,h,_,_=>by simp[argsOk]at h
 |.d _ _::us,vs,d::ds,h,_,_=>by simp[argsOk]at h
 |[],vs,d::ds,h,_,_=>by simp[argsOk]at h
 |.i::us,vs,[],h,_,_=>by simp[argsOk]at h
 |.f::us,vs,[],h,_,_=>by simp[argsOk]at h
 |.l _::us,vs,[],h,_,_=>by simp[argsOk]at h
 |.tp _::us,vs,[],h,_,_=>by simp[argsOk]at h
 |.d _ _::us,vs,[],h,_,_=>by simp[argsOk]at h
open PyProof.Rows in
def b4D{P:bB}{w:bQ}{K:af}{mg:bI->Option aj}{base:bU}{x:bI}{st:ig}{f:aw}{fd:dE}{N ps:List bI}{k n:Nat}{us:List Ty}{u:Ty}{g:EvS}{M':List Md}(F:Fun K x x st f fd)(S:FnScope N ps (j5 st))(mP:us.length=ps.length)(hn:N.length=ps.length+n)
  (hb:∀(gn:aj) (A:bE) (outer:List oS) (s:av) (H:Hp) (E:XK),Room k (A.deeper (jm x (j5 st) s.heap.objs.size f gn))->PSsX (a0D CX0 P w K mg base N x (j5 st) f gn A outer s H E).nox u [] (us.map .own++aR n .dead) (y8 st) g M') :
  FnOk P w K mg base CX0 (k+1) f fd ps (spD K ps.length (fnD us n g) u):=by
 refine F.ok S (λvs H Q E h=>?_) (λgn A outer s H vs Q E hr h=>?_)
 ·obtain⟨ds,d,hl,_⟩:=h;exact hl
 obtain⟨ds,d,hl,hd,hm,q⟩:=h;obtain⟨t,p,r⟩:=(hb gn A outer s H E hr).out;refine⟨t,p,?_⟩;unfold fnD at hm;by_cases ha:argsOk us ds=p4
 ·rw[aH ha]at hm;obtain⟨o,h1,h2⟩:=bnd hm;cases o with
  |rt d'=>
   have jQ:cz d'=cz d:=h2;cases jQ
   have e:L2.start N vs=vs.map cz++aR n el:=by
    unfold L2.start;rw[show N.length-vs.length=n by lia]
   rw[e];refine r _ (ds++aR n iM) _ H H [] (.rt d) ⟨⟨[],T8 ha hd n,bw,λa ha=>(nomatch ha)⟩,λa ha=>(nomatch ha),by rw[M3];exact Same.refl H⟩ h1 ?_;exact λv H' fp o nd fr e=>q v H' fp e o nd fr
  |_=>cases h2
 ·rw[aM ha]at hm;cases hm
end VS
namespace VS
open PySem PySem.Spec L2 PyProof.Rows
def J4(K:af):List (bI×aw):=N6.filterMap λx=>(E2 K x).map λp=>(x,p)
def a1p:List aw->Bool
 |[]=>p4
 |a::r=>!r.contains a&&a1p r
def a2M(K:af)(names:List bI):Bool:=a1p ((J4 K).map (·.2))&&(J4 K).all λt=>(K.lookup t.2).isNone&&names.contains t.1
theorem a2N:∀{l:List (bI×aw)} {x y:bI} {p:aw},a1p (l.map (·.2))=p4->(x,p)∈l->(y,p)∈l->x=y
 |[],_,_,_,_,h,_=>(nomatch h)
 | (z,q)::l,x,y,p,h,h1,h2=>by
  have h':((l.map (·.2)).contains q=rp)/\a1p (l.map (·.2))=p4:=by simpa[a1p]using h
  have AD:∀w,(w,q)∉l:=λw hw=>by
   have:(l.map (·.2)).contains q=p4:=by
    rw[u_];exact aX.mpr ⟨(w,q),hw,rfl⟩
   rw[h'.1]at this;cases this
  rcases az.mp h1 with e1|e1
  ·rcases az.mp h2 with e2|e2
   ·cases e1;cases e2;rfl
   ·cases e1;exact absurd e2 (AD y)
  ·rcases az.mp h2 with e2|e2
   ·cases e2;exact absurd e1 (AD x)
   ·exact a2N h'.2 e1 e2
def a1L{K:af}{x:bI}{p:aw}(hx:x∈N6)(h:E2 K x=cz p):(x,p)∈J4 K:=
 d_.mpr ⟨x,hx,by rw[h];rfl⟩
def G7{K:af}{x:bI}{p:aw}(h:(x,p)∈J4 K):x∈N6/\E2 K x=cz p:=by
 obtain⟨y,hy,e⟩:=d_.mp h;cases q:E2 K y with
 |none=>rw[q]at e;cases e
 |some r=>
  rw[q]at e;have e':(y,r)=(x,p):=aL e;cases e'
  exact⟨hy,q⟩
def a7u{K:af}(e:a4V K cd=cz p)(X:K.In h):∃c,cd=.ref c/\gB h c p:=by
 unfold a4V at e
 split at e
 ·rename_i c
  split at e
  ·rename_i n dd vs sl hc
   split at e
   ·rename_i hn
    split at e
    ·rename_i P' file tf flags tg uL text tt BH Fz h7 h9 FA
     split at e
     ·rename_i gK
      cases e
      have en:n="code":=by simpa using hn
      subst en;refine⟨c,rfl,_,vs,file,tf,flags,tg,uL,text,tt,X _ _ hc,rfl,rfl,BH,?_,?_,?_,?_,?_,bne_iff_ne.mp gK⟩
      ·simp[eR,BH]
      ·simp[eR,Fz]
      ·simp[eR,h7]
      ·simp[eR,h9]
      ·simp[eR,FA]
     ·cases e
    ·cases e
   ·cases e
  ·cases e
 ·cases e
def a4h{K:af}{h:bU}(e:E2 K x=cz p)(X:K.In h)(G:h.Ns bP mg) :
  ∃f oc od fd sl c,mg x=cz (.ref f)/\K.lookup f=cz ⟨oc,od,.func fd,sl⟩/\fd.code=.ref c/\gB h c p:=by
 unfold E2 at e
 split at e
 ·rename_i f hf
  split at e
  ·rename_i oc od fd sl hl
   obtain⟨c,hc,hd⟩:=a7u e X;exact⟨f,oc,od,fd,sl,c,kg X G hf,hl,hc,hd⟩
  ·cases e
 ·cases e
def Tab0(K:af)(h:bU):Prop:=∀x∈N6,∀p,E2 K x=cz p->isCodeTable h p/\h.get? p=cz {cls:=.none,data:=.fields #[]}
def b4E{q:bB}{loose:List bI}{yx:ExcName->Option aj}{mg mb:bI->Option aj}{h:bU}{K:af}(T:Top q loose yx mg mb h)(X:K.In h)(ok:a2M K ((recsOf q).map (·.name))=p4):Tab0 K h:=λx hx p e=>by
 have hm:=a1L hx e;have hn:((K.lookup p).isNone&&((recsOf q).map (·.name)).contains x)=p4:=by
  unfold a2M at ok;rw[ao]at ok;exact aY.mp ok.2 _ hm
 rw[ao,u_]at hn;obtain⟨d,hd,rfl⟩:=aX.mp hn.2;obtain⟨f,oc,od,fd,sl,c,h1,h2,h3,h4⟩:=a4h e X T.g;obtain⟨a,o,BK,c',P',z1,z2,z3,z4,z5,z6⟩:=T.tab d hd;rw[h1]at z1;cases z1
 rw[X _ _ h2]at z2;cases z2
 have Cj:Data.func fd=Data.func BK:=z3;cases Cj
 rw[h3]at z4;cases z4
 obtain⟨ob,vs,file,tf,flags,tg,uL,text,tt,y1,y2,y3,y4,_⟩:=h4;obtain⟨⟨GG,Gu,w1,w2,w3,w4⟩,w5⟩:=id z6;rw[y1]at w1;cases w1
 rw[y3]at w3;cases w3
 rw[y4]at w4;cases w4
 exact⟨z6.isCodeTable,w5⟩
def P0(K:af)(H:Hp):Hp:=λb=>match (J4 K).find? λt=>t.2==b with
 |some t=>cz (.tbl #[.str (V9 t.1) 0])
 |none=>H b
def b0a{K:af}{s₁:av}{vs:List aj} 
  (KX:K.In s₁.heap) (pB:s₁.heap.Ns bP mg) (hb:s₁.heap.Ns ko mb) (EY:∀x:bI,x≠"__name__"->mb x=gq x) (zi:s₁.heap.NoLimit) (hg:s₁.gens=#[])
  (EW:∃bm ob,mg "__builtins__"=cz (.ref bm)/\bm≠ko/\s₁.heap.get? bm=cz ob/\ob.cls=.type "module"/\ob.dict=cz ko/\ob.data=.plain)
  (rM:Tab0 K s₁.heap) (pw:a2M K names=p4)
  (ha:s₁.heap.get? a=cz {cls:=.type "list",data:=.seq vs.toArray}) (hi:IntsAre vs ns) (hl:ns.length<=aU) (hr:Room k nZ)
  (F:∀base:bU,K.In base->base.Ns bP mg->FnOk P w K mg base CX k fa fd [x] sp) (nz:∀(s:av) (u:aj),og s fd ⟨[u],[]⟩ [(x,u)])
  (qm:∀H:Hp,SqX K H a (ns.map V.int)->sp [.ref a] H (λv _=>v=.bl p4) λ_ _ _=>False)
  (zS:∀H e s',CX [] H s₁ (λ_ _ _=>False) e s'->False) :
  gL (a_ P w) nZ (.call (.ref fa) ⟨[.ref a],[]⟩) (λr s'=>r=.ok (.ret (.bool p4))/\OldK s₁.heap s'.heap/\s'.os=s₁.os/\oU s'.gens) s₁:=by
 have rv:=vals_ints hi;have yA:=hi.length;have CU:a1p ((J4 K).map (·.2))=p4:=by unfold a2M at pw;rw[ao]at pw;exact pw.1
 have CT:∀t∈J4 K,K.lookup t.2=el:=λt ht=>by
  unfold a2M at pw;rw[ao]at pw;have:=aY.mp pw.2 t ht;rw[ao]at this;exact Option.isNone_iff_eq_none.mp this.1
 have core:∀H0:Hp,SqX K H0 a (ns.map V.int)->HOk P w H0 s₁.heap->(∀b u,H0 b=cz u->b=a/\∃o xs,u=.frz o (.lst xs))->(H0 a≠el->K.lookup a=el)->
   gL (a_ P w) nZ (.call (.ref fa) ⟨[.ref a],[]⟩) (λr s'=>r=.ok (.ret (.bool p4))/\OldK s₁.heap s'.heap/\s'.os=s₁.os/\oU s'.gens) s₁:=by
  intro H0 hS hok hA hK;have kF:∀b u,P0 K H0 b=cz u->(∃x,(x,b)∈J4 K/\u=.tbl #[.str (V9 x) 0])\/((∀x,(x,b)∉J4 K)/\H0 b=cz u):=λb u e=>by
   unfold P0 at e
   split at e
   ·rename_i t ht
    cases e
    have h1:=rz ht;have h2:t.2=b:=kG.mp (Hs (p:=λt:bI×aw=>t.2==b) ht);refine .inl ⟨t.1,?_,rfl⟩;rw[<-h2];exact h1
   ·rename_i ht
    refine .inr ⟨λx hx=>?_,e⟩;have:=f_.mp ht _ hx;simp at this
  have tabAt:∀x p,(x,p)∈J4 K->P0 K H0 p=cz (.tbl #[.str (V9 x) 0]):=λx p hm=>by
   cases e:P0 K H0 p with
   |none=>
    unfold P0 at e
    split at e
    ·cases e
    ·rename_i ht
     have:=f_.mp ht _ hm;simp at this
   |some u=>
    rcases kF p u e with⟨y,hy,rfl⟩|⟨hn,_⟩
    ·rw[a2N CU hm hy]
    ·exact absurd hm (hn x)
  have nA:∀x,(x,a)∉J4 K:=λx hx=>by
   have:=(rM x (G7 hx).1 a (G7 hx).2).2;rw[ha]at this;cases this
  have BX:P0 K H0 a=H0 a:=by
   cases e:P0 K H0 a with
   |none=>
    unfold P0 at e
    split at e
    ·cases e
    ·exact e.symm
   |some u=>
    rcases kF a u e with⟨y,hy,_⟩|⟨_,h⟩
    ·exact absurd hy (nA y)
    ·exact h.symm
  have mT:SqX K (P0 K H0) a (ns.map V.int):=by
   rcases hS with (h|⟨o,h⟩)|h
   ·exact .inl (.inl (BX.trans h))
   ·exact .inl (.inr ⟨o,BX.trans h⟩)
   ·exact .inr h
  have qx:HOk P w (P0 K H0) s₁.heap:=λb u e=>by
   rcases kF b u e with⟨x,hx,rfl⟩|⟨hn,h⟩
   ·obtain⟨h1,h2⟩:=G7 hx;exact⟨#[],(rM x h1 b h2).2,trivial,λpos cv z=>by cases z⟩
   ·obtain⟨rfl,o,xs,rfl⟩:=hA b u h;obtain⟨h1,h2⟩:=hok _ _ h;obtain⟨z,cA,n,r,e'⟩:=h2;exact⟨h1,z,cA,n,r,e'⟩
  have mU:∀{b:aw} {o:fN},s₁.heap.get? b=cz o->P0 K H0 b=el->(a4U s₁.heap (P0 K H0)).get? b=cz o:=λe n=>b1j e n
  have noT:∀{b:aw} {o:fN},s₁.heap.get? b=cz o->(∀ps,o.data≠.fields ps)->(∀cA n,o.data≠.seq cA n)->P0 K H0 b=el:=λ{b o} e d1 d2=>by
   cases q:P0 K H0 b with
   |none=>rfl
   |some u=>
    rcases kF b u q with⟨x,hx,rfl⟩|⟨hn,h⟩
    ·have:=(rM x (G7 hx).1 b (G7 hx).2).2;rw[e]at this;cases this
     exact absurd rfl (d1 _)
    ·obtain⟨rfl,_⟩:=hA b u h;rw[ha]at e;cases e
     exact absurd rfl (d2 _ _)
  have xr:∀{b:aw} {m:bI->Option aj},s₁.heap.Ns b m->(a4U s₁.heap (P0 K H0)).Ns b m:=λ{b m} ⟨o,es,ep,e,d,r⟩=>⟨o,es,ep,mU e (noT e (λps z=>by rw[d]at z;cases z) λcA n z=>by rw[d]at z;cases z),d,r⟩
  have BB:K.In (a4U s₁.heap (P0 K H0)):=λb o e=>mU (KX b o e) (by
   cases q:P0 K H0 b with
   |none=>rfl
   |some u=>
    rcases kF b u q with⟨x,hx,rfl⟩|⟨hn,h⟩
    ·rw[CT _ hx]at e;cases e
    ·obtain⟨rfl,_⟩:=hA b u h;rw[hK (by rw[h];simp)]at e;cases e)
  have hM:Mod K mg (a4U s₁.heap (P0 K H0)):=⟨BB,xr pB,⟨mb,xr hb,EY⟩,let⟨mc,h1,h2⟩:=zi;⟨mc,xr h1,h2⟩,
   let⟨bm,ob,b1,b2,b3,b4,b5,b6⟩:=EW;⟨bm,ob,b1,b2,mU b3 (noT b3 (λps z=>by rw[b6]at z;cases z) λcA n z=>by rw[b6]at z;cases z),b4,b5,b6⟩⟩
  have e0:Env0 P w K mg (a4U s₁.heap (P0 K H0)) nZ [] s₁ (P0 K H0):=⟨rfl,hM,λb o e=>b3R e,Nat.le_of_eq (a9D _ _),trivial,λb hb=>absurd (show b∈([]:List aw) from hb) (by simp),qx,.of_eq hg,
   λx hx p e=>⟨_,0,tabAt x p (a1L hx e),rfl⟩⟩
  refine fQ ((F _ BB (xr pB)).run nZ [] s₁ (P0 K H0) ⟨[.ref a],[]⟩ [.ref a] [.ref a] _ _ hr e0 (nz s₁ (.ref a)) (.cons rfl .nil) (qm _ mT)) λr s' h=>?_
  cases r with
  |error e=>exact (zS _ e s' h).elim
  |ok fl=>
   cases fl with
   |next=>exact cM h
   |brk=>exact cM h
   |cont=>exact cM h
   |ret u=>
    obtain⟨v,H',os,bare,un,pq,r',q⟩:=h;have q':v=.bl p4:=q;subst q';obtain rfl:u=jz p4:=r';refine⟨rfl,⟨λb o e=>?_,λb o e=>un.there b o e (by simp)⟩,os,bare⟩;cases q:P0 K H0 b with
    |none=>exact .inl (un.keep b o e q (by intro z;exact absurd (show b∈([]:List aw) from z) (by simp)) (by simp))
    |some u=>
     rcases kF b u q with⟨x,hx,rfl⟩|⟨hn,h⟩
     ·obtain⟨t1,t2⟩:=rM x (G7 hx).1 b (G7 hx).2;rw[e]at t2;cases t2
      obtain⟨more,e2⟩:=un.tbls b _ q;obtain⟨ps,e3,_⟩:=(show a5H H' s'.heap b _ from pq b _ e2);exact .inr (.inl ⟨t1,rfl,#[],ps,rfl,by simpa using e3⟩)
     ·obtain⟨rfl,ob,xs,rfl⟩:=hA b u h;have z2:=un.frzs b ob _ q;obtain⟨e1,_⟩:=qx b _ q;obtain⟨e2,_⟩:=pq b _ z2;rw[e]at e1;cases e1;exact .inl e2
 cases hk:K.lookup a with
 |some o=>
  have e:=KX a o hk;rw[ha]at e;cases e
  refine core (λ_=>el) (.inr ⟨vs,_,hk,by rw[yA];exact hl,rv⟩) (λb u z=>by have z':(el:Option HO)=cz u:=z;cases z') (λb u z=>by have z':(el:Option HO)=cz u:=z;cases z') λz=>absurd rfl z
 |none=>
  refine core (λb=>if b=a then cz (.frz {cls:=.type "list",data:=.seq vs.toArray} (.lst (ns.map V.int))) else el) (.inl (.inr ⟨{cls:=.type "list",data:=.seq vs.toArray},aH rfl⟩)) (λb u z=>?_) (λb u z=>?_) λ_=>hk
  ·by_cases hb:b=a
   ·have z':=(aH hb).symm.trans z;cases z'
    subst hb;exact⟨ha,by rw[ah];exact hl,vs,_,rv,ha⟩
   ·have z':=(aM hb).symm.trans z;cases z'
  ·by_cases hb:b=a
   ·have z':=(aH hb).symm.trans z;cases z'
    exact⟨hb,_,_,rfl⟩
   ·have z':=(aM hb).symm.trans z;cases z'
def b1V{l:pF}{XP:(bI->Option aj)->bU->Prop}{YP:bQ->bU->Prop}{d:DefRec}{K:Params->af}{CX:bQ->CXT}{sp:bQ->Sp} 
  (hn:l.most=cz n) (D_:n<=aU) (wu:d.params.defaults=[]) (hr:Room k nZ)
  (hY:∀(w:bQ) (h:bU),YP w h->(K w.params).In h) (hT:∀w:bQ,a2M (K w.params) ((recsOf q).map (·.name))=p4)
  (F:∀(w:bQ) (mg:bI->Option aj) (fa:aw) (h:bU),(K w.params).In h->h.Ns bP mg->mg d.name=cz (.ref fa)->
   ∃fd:dE,(∀(s:av) (u:aj),og s fd ⟨[u],[]⟩ [(x,u)])/\
    ∀base:bU,(K w.params).In base->base.Ns bP mg->FnOk l.prog w (K w.params) mg base (CX w) k fa fd [x] (sp w))
  (qm:∀(w:bQ) (H:Hp) (a:aw) (ns:List Int),ns.length<=n->SqX (K w.params) H a (ns.map V.int)->sp w [.ref a] H (λv _=>v=.bl p4) λ_ _ _=>False)
  (zS:∀(w:bQ) (H:Hp) (s:av) (e:aj) (s':av),CX w [] H s (λ_ _ _=>False) e s'->False) :
  PySem.W.WalkO q loose XP YP l.row.toRowW d [] (λf vs=>Ah f vs):=by
 refine Att.attach_call hn wu λw s₀ s₁ mg mb fa o pm cd doc a vs ns G xn ho hd mZ vW tU hints hlen hg=>?_
 have KX:=hY w _ xn;obtain⟨fd,hb,hF⟩:=F w mg fa _ KX G.T.g vW;exact b0a KX G.T.g G.T.b G.T.builtins G.T.nolimit hg G.T.bmain (b4E G.T KX (hT w)) (hT w) tU hints (bL hlen D_) hr hF hb (λH hS=>qm w H a ns hlen hS) λH e s'=>zS w H s₁ e s'
def b0b{l:pF}{XP:(bI->Option aj)->bU->Prop}{YP:bQ->bU->Prop}{d:DefRec}{K:Params->af}{m:List bo->Option bo}(hn:l.most=cz 63)(wu:d.params.defaults=[])(hr:Room k nZ)
  (hY:∀(w:bQ) (h:bU),YP w h->(K w.params).In h) (hT:∀w:bQ,a2M (K w.params) ((recsOf q).map (·.name))=p4)
  (F:∀(w:bQ) (mg:bI->Option aj) (fa:aw) (h:bU),(K w.params).In h->h.Ns bP mg->mg d.name=cz (.ref fa)->
   ∃fd:dE,(∀(s:av) (u:aj),og s fd ⟨[u],[]⟩ [(x,u)])/\
    ∀base:bU,(K w.params).In base->base.Ns bP mg->FnOk l.prog w (K w.params) mg base CX0 k fa fd [x] (spD (K w.params) 1 m .i))
  (hm:∀ns:List Int,ns.length<=63->m [.list (ns.map .int)]=cz (.bool p4)) :
  PySem.W.WalkO q loose XP YP l.row.toRowW d [] (λf vs=>Ah f vs):=
 b1V (n:=63) (k:=k) (x:=x) (CX:=λ_=>CX0) (sp:=λw=>spD (K w.params) 1 m .i) hn (by decide) wu hr hY hT F
  (λw H a ns hl hS=>⟨_,_,rfl,denAll_cons (den_list hS (DenAll.ints ns)) denAll_nil,hm ns hl,λv H' fp _ o _ _=>(R5 o).2.2.bool_inv⟩) λ_ _ _ _ _ z=>z
end VS
namespace VS
open PySem PySem.Spec L2
def A9:∀(U ds:List D),f6 U=cz ds->ds.length=0:=λ_ _ h=>by cases h;rfl
def i8(hr:∀(U ds:List D),r U=cz ds->ds.length=n):∀(U ds:List D),b8 f r U=cz ds->ds.length=n+1:=λ_ _ h=>a9R hr h
def a7v:∀(U ds:List D),iI fi U=cz ds->∀d∈ds,mI d:=λU ds h d hd=>by
 have:=a1K rfl U ds h d hd [d] rfl;show imm d=p4;simpa only [g8,gd]using this
def a5k:∀(U ds:List D),iR fa U=cz ds->∀d∈ds,mI d:=λU ds h d hd=>by
 have:=b1S rfl U ds h d hd [d] rfl;show imm d=p4;simpa only [g8,gd]using this
end VS
namespace VS
open PySem L2
section
variable {a b c:EvE}{U U':List D}{d x y:D}
def l1(g:D->Option D):Option D->Option D
 |some x=>g x
 |none=>el
def l2(g:D->D->Option D):Option D->Option D->Option D
 |some x,cz y=>g x y
 |_,_=>el
def lc(m:List D->Option D):Option (List D)->Option D
 |some xs=>m xs
 |none=>el
def b6f:Option D->Option (List D)->Option (List D)
 |some x,cz xs=>cz (x::xs)
 |_,_=>el
def lB:Option D->Option Bool
 |some d=>asB d
 |none=>el
def lT:Option D->Option Bool
 |some d=>tr d
 |none=>el
def b9y:Option Bool->Option Bool
 |some b=>cz !b
 |none=>el
def b7o:Option Bool->EvT->List D->Option Bool
 |some p4,b,U=>b U
 |some rp,_,_=>cz rp
 |none,_,_=>el
def orT:Option Bool->EvT->List D->Option Bool
 |some p4,_,_=>cz p4
 |some rp,b,U=>b U
 |none,_,_=>el
def b7p:Option D->EvE->List D->Option D
 |some (.bool p4),b,U=>b U
 |some (.bool rp),_,_=>cz (.bool rp)
 |_,_,_=>el
def orE:Option D->EvE->List D->Option D
 |some (.bool p4),_,_=>cz (.bool p4)
 |some (.bool rp),b,U=>b U
 |_,_,_=>el
def b9z:Option D->Option D
 |some (.bool b)=>cz (.bool !b)
 |_=>el
def b4F:Option Bool->EvE->EvE->List D->Option D
 |some p4,a,_,U=>a U
 |some rp,_,b,U=>b U
 |none,_,_,_=>el
def b7q:Option Bool->EvS->EvS->List D->Option Out
 |some p4,a,_,U=>a U
 |some rp,_,b,U=>b U
 |none,_,_,_=>el
def thn:Option Out->EvS->Option Out
 |some (.nx U),b=>b U
 |some (.rt d),_=>cz (.rt d)
 |some (.bk U),_=>cz (.bk U)
 |some (.ct U),_=>cz (.ct U)
 |none,_=>el
def b9A(i:Nat):Option D->List D->Option Out
 |some d,U=>cz (.nx (U.set i d))
 |none,_=>el
def retS:Option D->Option Out
 |some d=>cz (.rt d)
 |none=>el
def exS:Option D->List D->Option Out
 |some _,U=>cz (.nx U)
 |none,_=>el
def b1W(i j:Nat):Option D->List D->Option Out
 |some (.tuple [x,y]),U=>cz (.nx ((U.set i x).set j y))
 |_,_=>el
def b9B(set:List D->D->Option (List D))(g:EvS):Option (List D)->List D->Option Out
 |some ds,U=>L6 set g ds U
 |none,_=>el
def a2O:Option Out->Option D
 |some (.rt d)=>cz d
 |_=>el
def listE:Option (List D)->Option D
 |some ds=>cz (.list ds)
 |none=>el
def b9C:Option (List D)->Option D
 |some ds=>cz (.tuple ds)
 |none=>el
def c1p:l1 g (cz x)=g x:=rfl
def c1q:l2 g (cz x) (cz y)=g x y:=rfl
def c1r:lc m (cz xs)=m xs:=rfl
def b4G:b6f (cz x) (cz xs)=cz (x::xs):=rfl
def c1s:lB (cz (.bool k))=cz k:=rfl
def c1t:lT (cz d)=tr d:=rfl
def b7r:b9y (cz k)=cz !k:=rfl
def b7s:b7o (cz p4) t U=t U:=rfl
def b7t:b7o (cz rp) t U=cz rp:=rfl
def b9D:orT (cz p4) t U=cz p4:=rfl
def b9E:orT (cz rp) t U=t U:=rfl
def b7u:b7p (cz (.bool p4)) b U=b U:=rfl
def b7v:b7p (cz (.bool rp)) b U=cz (.bool rp):=rfl
def b9F:orE (cz (.bool p4)) b U=cz (.bool p4):=rfl
def b9G:orE (cz (.bool rp)) b U=b U:=rfl
def b7w:b9z (cz (.bool k))=cz (.bool !k):=rfl
def b7x:b4F (cz p4) a b U=a U:=rfl
def b7y:b4F (cz rp) a b U=b U:=rfl
def b7z:b7q (cz p4) s t U=s U:=rfl
def b7A:b7q (cz rp) s t U=t U:=rfl
def v8:thn (cz (.nx U)) s=s U:=rfl
def b7B:thn (cz (.rt d)) s=cz (.rt d):=rfl
def b7C:thn (cz (.bk U)) s=cz (.bk U):=rfl
def b7D:thn (cz (.ct U)) s=cz (.ct U):=rfl
def b1X:b9A i (cz d) U=cz (.nx (U.set i d)):=rfl
def b7E:retS (cz d)=cz (.rt d):=rfl
def b9H:exS (cz d) U=cz (.nx U):=rfl
def b4H:b1W i j (cz (.tuple [x,y])) U=cz (.nx ((U.set i x).set j y)):=rfl
def b1Y{set:List D->D->Option (List D)}:b9B set g (cz ds) U=L6 set g ds U:=rfl
def b7F:a2O (cz (.rt d))=cz d:=rfl
def a8U:listE (cz ds)=cz (.list ds):=rfl
def b7G:b9C (cz ds)=cz (.tuple ds):=rfl
def v_var:b7 i U=cz (U.getD i .none):=rfl
def v_c:eC d U=cz d:=rfl
def v_1:e1 g a U=l1 g (a U):=by unfold e1;cases a U<;>rfl
def v_2:e2 g a b U=l2 g (a U) (b U):=by unfold e2;cases a U<;>cases b U<;>rfl
def c1u:eCl m f U=lc m (f U):=by unfold eCl;cases f U<;>rfl
def a7w:b8 a r U=b6f (a U) (r U):=by unfold b8;cases a U<;>cases r U<;>rfl
def b6g:f6 U=cz []:=rfl
def b7H:tB a U=lB (a U):=by unfold tB;cases a U<;>rfl
def c1v:tV a U=lT (a U):=by unfold tV;cases a U<;>rfl
def b9I:tNo t U=b9y (t U):=by unfold tNo;cases t U<;>rfl
def b9J:tAn s t U=b7o (s U) t U:=by
 unfold tAn;cases s U with
 |none=>rfl
 |some k=>cases k<;>rfl
def b9K:R6 s t U=orT (s U) t U:=by
 unfold R6;cases s U with
 |none=>rfl
 |some k=>cases k<;>rfl
def v_and:a3N a b U=b7p (a U) b U:=by
 unfold a3N;cases h:a U with
 |none=>rfl
 |some d=>cases d with
  |bool k=>cases k<;>rfl
  |_=>rfl
def v_or:eOr a b U=orE (a U) b U:=by
 unfold eOr;cases h:a U with
 |none=>rfl
 |some d=>cases d with
  |bool k=>cases k<;>rfl
  |_=>rfl
def v_not:b1H a U=b9z (a U):=by
 unfold b1H;cases h:a U with
 |none=>rfl
 |some d=>cases d<;>rfl
def b9L:eIf t a b U=b4F (t U) a b U:=by
 unfold eIf;cases t U with
 |none=>rfl
 |some k=>cases k<;>rfl
def b6h:G0 f U=listE (f U):=by unfold G0;cases f U<;>rfl
def b6i:B7 f U=b9C (f U):=by unfold B7;cases f U<;>rfl
def A0:i4 s t U=thn (s U) t:=by
 unfold i4;cases s U with
 |none=>rfl
 |some o=>cases o<;>rfl
def a0M:j8 i a U=b9A i (a U) U:=by unfold j8;cases a U<;>rfl
def b9M:m9 a U=retS (a U):=by unfold m9;cases a U<;>rfl
def c1w:sEx a U=exS (a U) U:=by unfold sEx;cases a U<;>rfl
def b7I:n5 U=cz (.nx U):=rfl
def a2P:sIf t s s' U=b7q (t U) s s' U:=by
 unfold sIf;cases t U with
 |none=>rfl
 |some k=>cases k<;>rfl
def b1Z{set:List D->D->Option (List D)}:I9 fi set g U=b9B set g (fi U) U:=by unfold I9;cases fi U<;>rfl
def b7J:a4g i j a U=b1W i j (a U) U:=by
 unfold a4g;cases h:a U with
 |none=>rfl
 |some d=>
  match d with
  |.tuple [x,y]=>rfl
  |.tuple []=>rfl
  |.tuple [_]=>rfl
  |.tuple (_::_::_::_)=>rfl
  |.none=>rfl
  |.bool _=>rfl
  |.int _=>rfl
  |.str _=>rfl
  |.list _=>rfl
  |.dict _=>rfl
def J6(h:argsOk us ds=p4):fnD us n g ds=a2O (g (ds++aR n .none)):=by
 unfold fnD;rw[aH h];cases g (ds++aR n .none) with
 |none=>rfl
 |some o=>cases o<;>rfl
def v_add:y6 (.int i) (.int j)=cz (.int (i+j)):=rfl
def v_sub:a2E (.int i) (.int j)=cz (.int (i-j)):=rfl
def v_lt:dLt (.int i) (.int j)=cz (.bool (decide (i<j))):=rfl
def c1x:dLe (.int i) (.int j)=cz (.bool (decide (i<=j))):=rfl
def c1y:dGt (.int i) (.int j)=cz (.bool (decide (j<i))):=rfl
def c1z:dGe (.int i) (.int j)=cz (.bool (decide (j<=i))):=rfl
def v_mod(h:0<j):E3 (.int i) (.int j)=cz (.int (i % j)):=by
 show (if b7g i j=p4 then _ else _)=_;rw[aH (show b7g i j=p4 from aI h)]
def v_div(h:0<j)(h':j<1073741824):a0a (.int i) (.int j)=cz (.int (i / j)):=by
 show (if b4q i j=p4 then _ else _)=_;rw[aH (by unfold b4q;rw[aI h,aI h'];rfl)]
def a1q{i j:Int}(h:i.natAbs<2^64):M4 (.int i) (.int j)=cz (.int (i*j)):=by
 show (if a9P i j=p4 then _ else _)=_;rw[aH (by unfold a9P;rw[aI h];rfl)]
def a0p{i j:Int}(h:j.natAbs<2^64):M4 (.int i) (.int j)=cz (.int (i*j)):=by
 show (if a9P i j=p4 then _ else _)=_;rw[aH (by unfold a9P;rw[aI h,Bool.or_true])]
def v_pow(h:b4r i j=p4):a5e (.int i) (.int j)=cz (.int (i^j.toNat)):=by
 show (if b4r i j=p4 then _ else _)=_;rw[aH h]
def b9N:dEq (.int i) (.int j)=cz (.bool (decide (i=j))):=by
 show cz (dh (rp !=aB (.int i) (.int j)))=_;have:aB (.int i) (.int j)=decide (i=j):=by
  show (i==j)=decide (i=j);exact iO i j
 rw[this];simp
def b9O:dNe (.int i) (.int j)=cz (.bool (!decide (i=j))):=by
 show cz (dh (p4 !=aB (.int i) (.int j)))=_;have:aB (.int i) (.int j)=decide (i=j):=by
  show (i==j)=decide (i=j);exact iO i j
 rw[this];simp
def b7K:A8 [.list ds]=cz (.int ds.length):=rfl
def b7L:A8 [.tuple ds]=cz (.int ds.length):=rfl
def b9P:dIx (.list ds) (.int k)=atI ds k:=rfl
def b9Q:dIx (.tuple ds) (.int k)=atI ds k:=rfl
def b9R:N9 (.list ds) (.int k)=atI ds k:=rfl
def b9S:v7 x y=l1 V6 (dIx x y):=by unfold v7;cases dIx x y<;>rfl
def a6b(h:imm d=p4):V6 d=cz d:=by unfold V6;rw[aH h]
def b9T:c1o k (.bool i) (.bool j)=cz (.bool (k !=(i==j))):=rfl
def a0N:imm (.int i)=p4:=by simp only[imm]
def w8(ns:List Int):g8 (ns.map .int)=p4:=by
 induction ns with
 |nil=>simp only[cY,g8]
 |cons n ns ih=>simp only[aA,g8,imm,ih,eZ]
def a2Q{α:Type}{xs:List α}(h0:0<=k)(h:k<(xs.length:Int)):atI xs k=cz (xs[k.toNat]'(by lia)):=by
 unfold L2.atI ixN;rw[aH h0,aH h];exact ar (by lia)
def a7x(i:Nat):D->Option D->List D->Option Out
 |.list ds,cz d,U=>if ds.length<1000000 then cz (.nx (U.set i (.list (ds++[d])))) else el
 |_,_,_=>el
def a8V:C5 i (.l t) p6 a U=a7x i (U.getD i .none) (a U) U:=by
 unfold C5 p6
 dsimp only[bC]
 cases h:U.getD i .none with
 |list ds=>
  cases a U with
  |none=>rfl
  |some d=>rfl
 |_=>cases a U<;>rfl
def b7M{ds:List D}(h:ds.length<1000000):a7x i (.list ds) (cz d) U=cz (.nx (U.set i (.list (ds++[d])))):=by
 show (if ds.length<1000000 then cz (Out.nx (U.set i (.list (ds++[d])))) else el)=_;rw[aH h]
def a2R(h:a U=cz (.int n))(h0:0<=n)(h1:n<2^62):iR a U=cz (G5 0 n.toNat):=by
 unfold iR;rw[h];show (if -(2^62)<=n/\n<2^62 then cz (G5 0 n.toNat) else el)=_;rw[aH ⟨by lia,h1⟩]
def a7y:(G5 lo n).length=n:=by unfold G5;simp
end
end VS
namespace VS
open PySem PySem.Spec L2
noncomputable def fnN(us:List Ty)(n:Nat)(g:EvS):List D->Option D:=λds=>if argsOk us ds then (g (ds++aR n .none)).bind λo=>match o with
 |.rt d=>cz d
 |.nx _=>cz .none
 |_=>el
 else el
open PyProof.Rows in
def b2a{P:bB}{w:bQ}{K:af}{mg:bI->Option aj}{base:bU}{x:bI}{st:ig}{f:aw}{fd:dE}{N ps:List bI}{k n:Nat}{us:List Ty}{u:Ty}{g:EvS}{M':List Md}(F:Fun K x x st f fd)(S:FnScope N ps (j5 st))(mP:us.length=ps.length)(hn:N.length=ps.length+n)
  (hb:∀(gn:aj) (A:bE) (outer:List oS) (s:av) (H:Hp) (E:XK),Room k (A.deeper (jm x (j5 st) s.heap.objs.size f gn))->PSsX (a0D CX0 P w K mg base N x (j5 st) f gn A outer s H E).nox .i [] (us.map .own++aR n .dead) (y8 st) g M') (hu:u=.i:=by rfl) :
  FnOk P w K mg base CX0 (k+1) f fd ps (spD K ps.length (fnN us n g) u):=by
 subst hu;refine F.ok S (λvs H Q E h=>?_) (λgn A outer s H vs Q E hr h=>?_)
 ·obtain⟨ds,d,hl,_⟩:=h;exact hl
 obtain⟨ds,d,hl,hd,hm,q⟩:=h;obtain⟨t,p,r⟩:=(hb gn A outer s H E hr).out;refine⟨t,p,?_⟩;unfold fnN at hm;by_cases ha:argsOk us ds=p4
 ·rw[aH ha]at hm;obtain⟨o,h1,h2⟩:=bnd hm;have e:L2.start N vs=vs.map cz++aR n el:=by
   unfold L2.start;rw[show N.length-vs.length=n by lia]
  have S0:StR K (us.map .own++aR n .dead) (ds++aR n iM) (vs.map cz++aR n el) H H []:=⟨⟨[],T8 ha hd n,bw,λa ha=>(nomatch ha)⟩,λa ha=>(nomatch ha),by rw[M3];exact Same.refl H⟩;cases o with
  |rt d'=>
   have jQ:cz d'=cz d:=h2;cases jQ
   rw[e];exact r _ (ds++aR n iM) _ H H [] (.rt d) S0 h1 λv H' fp o nd fr e=>q v H' fp e o nd fr
  |nx U=>
   have jQ:cz iM=cz d:=h2;cases jQ
   rw[e];refine r _ (ds++aR n iM) _ H H [] (.nx U) S0 h1 λY' H' F' S'=>?_
   refine q .non H' [] (S'.prot.trans i7) ?_ bw λa ha=>(nomatch ha)
   simp only[Own];exact⟨trivial,by simp only[imm],den_none⟩
  |_=>cases h2
 ·rw[aM ha]at hm;cases hm
def D6:∀{l:List α} {l':List β},e_ R l l'->∀{j:Nat} {x:α},l[j]?=cz x->∃y,l'[j]?=cz y/\R x y:=by
 intro l l' h
 induction h with
 |nil=>intro j x e;simp at e
 |cons r _ ih=>
  intro j x e;cases j with
  |zero=>cases e;exact⟨_,rfl,r⟩
  |succ j=>exact ih (by simpa using e)
def a1M:∀{l:List α} {l':List β},e_ R l l'->∀{j:Nat} {y:β},l'[j]?=cz y->∃x,l[j]?=cz x/\R x y:=by
 intro l l' h
 induction h with
 |nil=>intro j x e;simp at e
 |cons r _ ih=>
  intro j x e;cases j with
  |zero=>cases e;exact⟨_,rfl,r⟩
  |succ j=>exact ih (by simpa using e)
section
variable {X:Cx}{pins:List (aw×fN)}{Y:L2.St}{H:Hp}{s:av}{A:bE}{E:aj->av->Prop}{a:aw}{es:List (D×V×V)}{o:fN}{ents:Array eX}{ep:Nat}{kt:Bool}{k:D}{kv:V}{key:aj}
def a1r(I:Inv X pins Y H s)(kk:keyOk kt k)(dk:Den X.K H kv k)(rk:RelV kv key):∃as,Reads s.heap key k as:=Den.reads I k (W4 _ kk.1) dk rk
def Y5(I:Inv X pins Y H s)(hu:A.units+10<cV)(kk:keyOk kt k)(dk:Den X.K H kv k)(rk:RelV kv key)(h:Q (hashD k) {s with toks:=s.toks+u9 k}):aE (a_ X.prog X.w) A (pyHash key) Q E s:=by
 obtain⟨as,r⟩:=a1r I kk dk rk;exact a2C k kk.1 (by have:=kk.2.1;lia) r h
def Y6(I:Inv X pins Y H s)(hu:A.units+10<cV)(ho:s.heap.get? a=cz o)(hd:o.data=.dict ents ep)(hp:e_ P5 es ents.toList)(hn:(es.map (·.1)).Nodup)(hk:∀e∈es,keyOk kt e.1/\Den X.K H e.2.1 e.1)
  (kk:keyOk kt k) (dk:Den X.K H kv k) (rk:RelV kv key) (jU:(∀e∈es,e.1≠k)->Q el s) (jT:∀j e,es[j]?=cz e->e.1=k->Q (cz j) s) :
  aE (a_ X.prog X.w) A (dictFind a key (hashD k)) Q E s:=by
 cases kt with
 |false=>
  obtain⟨i,rfl⟩:=kk.2.2.2 rfl;cases dk.int_inv
  obtain⟨t,rfl⟩:=rk;have ent:∀(j:Nat) (x:eX),ents.toList[j]?=cz x->∃e n u,es[j]?=cz e/\e.1=.int n/\x.key=.int n u/\x.hash=jY n:=λj x hx=>by
   obtain⟨e,he,h1,h2,_⟩:=a1M hp hx;obtain⟨k1,k2⟩:=hk e (bp he);obtain⟨n,en⟩:=k1.2.2.2 rfl;rw[en]at k2 h1;have e2:=k2.int_inv;rw[e2]at h2;obtain⟨u,qW⟩:=h2;exact⟨e,n,u,he,en,qW,by simpa[hashD]using h1⟩
  show aE (a_ X.prog X.w) A (dictFind a (.int i t) ((c_ X.prog X.w).hash i)) Q E s;refine wpAny_dictFind_of (knd:=c_ X.prog X.w) (k:=i) (by simp[c_,jI]) ho hd (λx hx=>?_) ?_
  ·obtain⟨j,hj⟩:=bF.mp (dO.mpr hx);obtain⟨e,n,u,_,_,h3,h4⟩:=ent j x hj;exact⟨n,by rw[h3];simp[c_,jI],h4⟩
  ·cases hf:ents.findIdx? λe=>(c_ X.prog X.w).is i e.key with
   |none=>
    refine jU λe he fJ=>?_
    obtain⟨j,hj⟩:=bF.mp he;obtain⟨x,hx,_⟩:=D6 hp hj;obtain⟨e',n,u,h1,h2,h3,_⟩:=ent j x hx;rw[hj]at h1;cases h1
    rw[fJ]at h2;cases h2
    have:=Array.findIdx?_eq_none_iff.mp hf x (dO.mp (bp hx));rw[h3]at this;simp[c_,jI]at this
   |some j=>
    obtain⟨gS,vF,_⟩:=Array.findIdx?_eq_some_iff_getElem.mp hf;have hx:ents.toList[j]?=cz ents[j]:=by simp[gS]
    obtain⟨e,n,u,h1,h2,h3,_⟩:=ent j _ hx;have tY:n=i:=by
     rw[h3]at vF;simpa[c_,jI]using vF
    subst tY;exact jT j e h1 h2
 |true=>
  obtain⟨ds,rfl⟩:=kk.2.2.1 rfl;obtain⟨p,sv,rfl,_,_⟩:=dk.tup_inv;cases (show key=bb p from rk)
  obtain⟨as,CD⟩:=a1r I kk (dk) (show RelV (.ref p) (.ref p) from rfl);have build:∀{es:List (D×V×V)} {l:List eX},e_ P5 es l->(∀e∈es,keyOk p4 e.1/\Den X.K H e.2.1 e.1)->∃xs:List (D×aw×aj),l=xs.map (λx=>(⟨hashD x.1,.ref x.2.1,x.2.2⟩:eX))/\xs.map (·.1)=es.map (·.1)/\∀x∈xs,D8 x.1=p4/\x.1.depth<=7/\∃as,Reads s.heap (.ref x.2.1) x.1 as:=by
   intro es l hp
   induction hp with
   |nil=>exact λ_=>⟨[],rfl,rfl,λx hx=>(nomatch hx)⟩
   |@cons e x es l r _ ih=>
    intro hk;obtain⟨xs,i1,i2,i3⟩:=ih λe he=>hk e (aq _ he)
    obtain⟨k1,k2⟩:=hk e ak;obtain⟨as,rr⟩:=a1r I k1 k2 r.2.1;obtain⟨ds,ed⟩:=k1.2.2.1 rfl;have:∃q,x.key=.ref q:=by
     rw[ed]at rr;cases Du:x.key with
     |ref q=>exact⟨q,rfl⟩
     |_=>rw[Du]at rr;cases rr
    obtain⟨q,hq⟩:=this;refine⟨(e.1,q,x.val)::xs,?_,by rw[aA,aA,i2],λy hy=>?_⟩
    ·rw[aA,<-i1]
     congr 1;obtain⟨xh,xk,xv⟩:=x;simp only at hq;rw[show xh=hashD e.1 from r.1,hq]
    ·rcases az.mp hy with z|z
     ·subst z;exact⟨k1.1,k1.2.1,as,by rw[hq]at rr;exact rr⟩
     ·exact i3 y z
  obtain⟨xs,x1,x2,x3⟩:=build hp hk;have idx:∀(j:Nat) (kk:D),(∃p,xs[j]?=cz (kk,p))↔∃e,es[j]?=cz e/\e.1=kk:=λj kk=>by
   have:(xs.map (·.1))[j]?=(es.map (·.1))[j]?:=by rw[x2]
   rw[bc,bc]at this
   constructor
   ·rintro⟨q,hq⟩;rw[hq]at this;cases he:es[j]? with
    |none=>rw[he]at this;cases this
    |some e=>rw[he]at this;exact⟨e,rfl,(aL this).symm⟩
   ·rintro⟨e,he,hk⟩;rw[he]at this;cases hx:xs[j]? with
    |none=>rw[hx]at this;cases this
    |some x=>
     rw[hx]at this;have e1:x.1=e.1:=aL this;exact⟨x.2,by rw[<-hk,<-e1]⟩
  refine @wpAny_dictFind_heap X.prog X.w D a9O (b1A X.prog X.w) A E s a p o ents ep xs (.tuple ds) Q (by show A.units+8<cV;lia) ⟨kk.1,kk.2.1,as,CD⟩ ho hd x1 x3 (by rw[x2];exact hn) (λh=>jU λe he fJ=>?_) (λj q hj=>?_)
  ·obtain⟨j,hj⟩:=bF.mp he;obtain⟨q,hq⟩:=(idx j (.tuple ds)).mpr ⟨e,hj,fJ⟩;exact h j q hq
  ·obtain⟨e,he,fJ⟩:=(idx j (.tuple ds)).mp ⟨q,hj⟩;exact jT j e he fJ
end
def u7(es:List (D×V×V))(k:D):Bool:=es.any λe=>aB e.1 k
def R8(es:List (D×V×V))(k:D)(kv v:V):List (D×V×V):=if u7 es k then es.map λe=>if aB e.1 k then (e.1,e.2.1,v) else e else es++[(k,kv,v)]
section
variable {X:Cx}{pins:List (aw×fN)}{Y:L2.St}{H:Hp}{s:av}{A:bE}{E:aj->av->Prop}{a:aw}{es:List (D×V×V)}{kt:Bool}{k:D}{kv v:V}{key val:aj}
def a7z{x:D×V×V}(h:J0 (es++[x])=rp):J0 es=rp:=by
 cases es with
 |nil=>rfl
 |cons e es=>exact h
def a1s(I:Inv X pins Y H s)(h:H a=cz (e6 a es)):(a==cW)=rp/\es.length<=aU/\(es.map (·.1)).Nodup/\∃o ents ep,s.heap.get? a=cz o/\o.ExactDict/\o.data=.dict ents ep/\e_ P5 es ents.toList/\(J0 es=rp->ep=es.length):=
 (show ObjOk X.prog X.w H s.heap a (e6 a es) from I.hok a _ h).1
def Y7(I:Inv X pins Y H s)(h:H a=cz (e6 a es))(hL:J0 es=rp):(a==cW)=rp/\es.length<=aU/\(es.map (·.1)).Nodup/\∃o ents,s.heap.get? a=cz o/\o.ExactDict/\o.data=.dict ents es.length/\e_ P5 es ents.toList:=
 let⟨a1,a2,a3,o,ents,_,r1,r2,r3,r4,r5⟩:=a1s I h;⟨a1,a2,a3,o,ents,r1,r2,r5 hL▸r3,r4⟩
def p5(I:Inv X pins Y H s)(h:H a=cz (e6 a es)):(a==cW)=rp/\es.length<=aU/\(es.map (·.1)).Nodup/\∃o ents ep,s.heap.get? a=cz o/\o.ExactDict/\o.data=.dict ents ep/\e_ P5 es ents.toList:=
 let⟨a1,a2,a3,o,ents,ep,r1,r2,r3,r4,_⟩:=a1s I h;⟨a1,a2,a3,o,ents,ep,r1,r2,r3,r4⟩
def a2S(I:Inv X pins Y H s)(h:H a=cz (e6 a es)){o:fN}{ents:Array eX}{ep:Nat}(h1:s.heap.get? a=cz o)(h3:o.data=.dict ents ep)(hL:J0 es=rp):ep=es.length:=by
 obtain⟨_,_,_,o',sY,g1,_,g3,_⟩:=Y7 I h hL;rw[h1]at g1;cases g1
 rw[h3]at g3
 injection g3
def k7(I:Inv X pins Y H s)(h:H a=cz (e6 a es)):s.TypeIs (.ref a) "dict":=by
 obtain⟨_,_,_,o,ents,ep,h1,h2,_⟩:=p5 I h;exact⟨o,h1,h2.1⟩
def M7(I:Inv X pins Y H s)(h:H a=cz (e6 a es)):∀b,bb a=.ref b->∃ob,s.heap.get? b=cz ob/\ob.dict=el:=λb q=>by
 cases q
 obtain⟨_,_,_,o,ents,ep,h1,h2,_⟩:=p5 I h;exact⟨o,h1,h2.2.1⟩
def Y8{P:bB}{w:bQ}{H':Hp}{h':bU}(hs:(a==cW)=rp)(hl:es.length<=aU)(hn:(es.map (·.1)).Nodup){o:fN}{ents:Array eX}{ep:Nat}(h1:h'.get? a=cz o)(h2:o.ExactDict)(h3:o.data=.dict ents ep)(he:J0 es=rp->ep=es.length)(h4:e_ P5 es ents.toList):ObjOk P w H' h' a (e6 a es):=
 ⟨⟨hs,hl,hn,o,ents,ep,h1,h2,h3,h4,he⟩,⟨o,h1⟩,λx1 x2 ⟨a1,a2,a3,o',sY,rg,b1,b2⟩ hk=>⟨a1,a2,a3,o',sY,rg,hk _ b1,b2⟩⟩
structure KeysAt (X:Cx) (H:Hp) (kt:Bool) (es:List (D×V×V)) (k:D) (kv:V):Prop where
 keys:∀e∈es,keyOk kt e.1/\Den X.K H e.2.1 e.1
 key:keyOk kt k
 den:Den X.K H kv k
def KeysAt.eqv(K:KeysAt X H kt es k kv){e:D×V×V}(he:e∈es):aB e.1 k=p4↔e.1=k:=C8 e.1 k (K.keys e he).1.1 K.key.1
def get_dict(I:Inv X pins Y H s)(hu:A.units+10<cV)(h:H a=cz (e6 a es))(K:KeysAt X H kt es k kv)(rk:RelV kv key) 
  (jU:u7 es k=rp->∀s',Inv X pins Y H s'->Q el s') (jT:∀e∈es,e.1=k->∀x s',Inv X pins Y H s'->RelV e.2.2 x->Q (cz x) s') :
  aE (a_ X.prog X.w) A (FY a key) Q E s:=by
 obtain⟨_,_,hn,o,ents,ep,h1,h2,h3,h4⟩:=p5 I h;unfold FY
 try with_reducible refine bO ?_
 refine ab (Y5 I hu K.key K.den rk (ab (Y6 (s:={s with toks:=s.toks+u9 k}) (I.tok (s.toks+u9 k)) hu h1 h3 h4 hn K.keys K.key K.den rk ?_ ?_)))
 ·intro ox;refine ae (jU ?_ _ (I.tok _));unfold u7;rw[cC];exact λe he hq=>ox e he ((K.eqv he).mp hq)
 ·intro j e he fJ;obtain⟨x,hx,r⟩:=D6 h4 he;refine ab (cD (s:={s with toks:=s.toks+u9 k}) h1 h3 ?_);have:ents[j]?=cz x:=by rw[<-bX];exact hx
  rw[this];exact ae (jT e (bp he) fJ _ _ (I.tok _) r.2.2)
def a2T(hf:u7 es k=rp):R8 es k kv v=es++[(k,kv,v)]:=by unfold R8;rw[hf];rfl
def a7A{α β:Type}{R:α->β->Prop}{l:List α}{l':List β}(h:e_ R l l'){x:α}{y:β}(r:R x y):e_ R (l++[x]) (l'++[y]):=by
 induction h with
 |nil=>exact .cons r .nil
 |cons q _ ih=>exact .cons q ih
def b0c(K:KeysAt X H kt es k kv)(hn:(es.map (·.1)).Nodup)(hf:u7 es k=rp):((es++[(k,kv,v)]).map (·.1)).Nodup:=by
 rw[aO,aZ];refine⟨hn,by simp,λx hx y hy e=>?_⟩;simp only[aA,cY,ai]at hy;subst hy;subst e;obtain⟨e,he,rfl⟩:=aX.mp hx;unfold u7 at hf;rw[cC]at hf;exact hf e he ((K.eqv he).mpr rfl)
def a1t(I:Inv X pins Y H s)(h:H a=cz (e6 a es))(K:KeysAt X H kt es k kv)(rk:RelV kv key)(rv:RelV v val)(hl:es.length<aU)(hf:u7 es k=rp){t':Nat}{o:fN}{ents:Array eX}{ep:Nat}(h1:s.heap.get? a=cz o)(h2:o.ExactDict)(h3:o.data=.dict ents ep)(h4:e_ P5 es ents.toList) :
  Inv X pins Y (upd H a (e6 a (es++[(k,kv,v)]))) {s with heap:=s.heap.update a (·.mapDictKeys (·.push ⟨hashD k,key,val⟩)),toks:=t'}:=by
 obtain⟨hs,_,hn,_⟩:=p5 I h;refine I.write (x:=a) (e:=a) (by rw[h];exact jJ) (.inl rfl) (λb q hb z=>((bS ..).2 b hb).trans z) ⟨_,bV _ h1 (ir (hU h3 _))⟩ ?_;refine Y8 hs (by simp;lia) (b0c K hn hf) (bV _ h1 (ir (hU h3 _))) (h2.mapDictKeys _) (hU h3 _) (λhL=>by rw[a2S I h h1 h3 (a7z hL),aN];rfl) ?_;have:=a7A h4 (x:=(k,kv,v)) (y:=⟨hashD k,key,val⟩) ⟨rfl,rk,rv⟩;obtain⟨l⟩:=ents;simpa using this
def b0d(I:Inv X pins Y H s)(hu:A.units+10<cV)(h:H a=cz (e6 a es))(K:KeysAt X H kt es k kv)(rk:RelV kv key)(rv:RelV v val)(hl:es.length<aU){Q:aj->av->Prop}
  (jU:u7 es k=rp->∀s',Inv X pins Y (upd H a (e6 a (es++[(k,kv,v)]))) s'->Q val s') (jT:∀e∈es,e.1=k->∀x s',Inv X pins Y H s'->RelV e.2.2 x->Q x s') :
  aE (a_ X.prog X.w) A (wU a key val) Q E s:=by
 obtain⟨_,_,hn,o,ents,ep,h1,h2,h3,h4⟩:=p5 I h;have hsz:ents.size<=aU:=by
  have:=cR h4;have e2:ents.toList.length=ents.size:=by simp
  lia
 unfold wU
 try with_reducible refine bO ?_
 refine ab (Y5 I hu K.key K.den rk (ab (Y6 (s:={s with toks:=s.toks+u9 k}) (I.tok (s.toks+u9 k)) hu h1 h3 h4 hn K.keys K.key K.den rk ?_ ?_)))
 ·intro ox;have hf:u7 es k=rp:=by
   unfold u7;rw[cC];exact λe he hq=>ox e he ((K.eqv he).mp hq)
  refine ab (dW (ab (ng (hz:=hsz) (s:={s with toks:=s.toks+u9 k}) h1 h3 (ae (jU hf _ (a1t (t':=s.toks+u9 k) I h K rk rv hl hf h1 h2 h3 h4))))))
 ·intro j e he fJ;obtain⟨x,hx,r⟩:=D6 h4 he;refine ab (cD (s:={s with toks:=s.toks+u9 k}) h1 h3 ?_);have:ents[j]?=cz x:=by rw[<-bX];exact hx
  rw[this];exact ab (dW (ae (jT e (bp he) fJ _ _ (I.tok (s.toks+u9 k)) r.2.2)))
def a7B(hp:e_ P5 es l)(hn:(es.map (·.1)).Nodup)(hk:∀e∈es,aB e.1 k=p4↔e.1=k)(rv:RelV v val):∀{j:Nat} {e:D×V×V},es[j]?=cz e->e.1=k->
  e_ P5 (es.map λe=>if aB e.1 k then (e.1,e.2.1,v) else e) (l.modify j λx=>{x with val:=val}):=by
 induction hp with
 |nil=>intro j e he;simp at he
 |@cons e0 x es l r hp ih=>
  intro j e he fJ;rw[aA,bz]at hn;have qY:∀e∈es,aB e.1 k=p4↔e.1=k:=λe he=>hk e (aq _ he)
  cases j with
  |zero=>
   cases he
   have h0:aB e0.1 k=p4:=(hk _ ak).mpr fJ;have iZ:es.map (λe=>if aB e.1 k then (e.1,e.2.1,v) else e)=es:=by
    have:∀e'∈es,(if aB e'.1 k then (e'.1,e'.2.1,v) else e')=e':=λe' k_=>by
     rw[aM];intro q;exact hn.1 (by rw[fJ,<-(qY e' k_).mp q];exact bt k_)
    rw[cn this,jB]
   rw[aA,aH h0,iZ];exact .cons ⟨r.1,r.2.1,rv⟩ hp
  |succ j=>
   have k_:es[j]?=cz e:=by simpa using he
   have gK:¬ aB e0.1 k=p4:=λq=>hn.1 (by rw[(hk _ ak).mp q,<-fJ];exact bt (bp k_))
   rw[aA,aM gK];exact .cons r (ih hn.2 qY k_ fJ)
def a2U{es:List (D×V×V)}:(es.map λe=>if aB e.1 k then (e.1,e.2.1,v) else e).map (·.1)=es.map (·.1):=by
 rw[bH];refine cn λe _=>?_
 show (if aB e.1 k then (e.1,e.2.1,v) else e).1=e.1
 split<;>rfl
def a7C(K:KeysAt X H kt es k kv)(hk:a0n k=rp)(h:J0 (es.map λe=>if aB e.1 k then (e.1,e.2.1,v) else e)=rp):J0 es=rp:=by
 cases es with
 |nil=>rfl
 |cons e es=>
  by_cases c:aB e.1 k=p4
  ·show (a0n e.1&&a5P e.2.2)=rp;rw[(K.eqv ak).mp c,hk];rfl
  ·rw[aA,aM c]at h;exact h
def set_dict(I:Inv X pins Y H s)(hu:A.units+10<cV)(h:H a=cz (e6 a es))(K:KeysAt X H kt es k kv)(rk:RelV kv key)(rv:RelV v val)(hl:es.length<aU)(hp:u7 es k=p4->a0n k=rp){Q:Unit->av->Prop}
  (hQ:∀s',Inv X pins Y (upd H a (e6 a (R8 es k kv v))) s'->Q () s'):aE (a_ X.prog X.w) A (FX a key val) Q E s:=by
 obtain⟨hs,_,hn,o,ents,ep,h1,h2,h3,h4⟩:=p5 I h;have hsz:ents.size<=aU:=by
  have:=cR h4;have e2:ents.toList.length=ents.size:=by simp
  lia
 unfold FX
 try with_reducible refine bO ?_
 refine ab (Y5 I hu K.key K.den rk ?_);unfold lg
 try with_reducible refine bO ?_
 refine ab (Y6 (s:={s with toks:=s.toks+u9 k}) (I.tok (s.toks+u9 k)) hu h1 h3 h4 hn K.keys K.key K.den rk ?_ ?_)
 ·intro ox;have hf:u7 es k=rp:=by
   unfold u7;rw[cC];exact λe he hq=>ox e he ((K.eqv he).mp hq)
  rw[a2T hf]at hQ;exact ab (dW (ng (hz:=hsz) (s:={s with toks:=s.toks+u9 k}) h1 h3 (hQ _ (a1t (t':=s.toks+u9 k) I h K rk rv hl hf h1 h2 h3 h4))))
 ·intro j e he fJ;have hf:u7 es k=p4:=by
   unfold u7;rw[cI];exact⟨e,bp he,(K.eqv (bp he)).mpr fJ⟩
  have rg:R8 es k kv v=es.map λe=>if aB e.1 k then (e.1,e.2.1,v) else e:=by unfold R8;rw[hf];rfl
  rw[rg]at hQ;refine ab (dW (ab (wpAny_updateDict (s:={s with toks:=s.toks+u9 k}) h1 h3 (wpAny_point (hQ _ ?_)))));refine I.write (x:=a) (e:=a) (t':=s.toks+u9 k) (by rw[h];exact jJ) (.inl rfl) (λb q hb z=>((bS ..).2 b hb).trans z) ⟨_,bV _ h1 (ir (si h3 _))⟩ ?_;refine Y8 hs (by rw[ah];lia) (by rw[a2U];exact hn) (bV _ h1 (ir (si h3 _))) (h2.mapDict _) (si h3 _) (λhL=>by rw[a2S I h h1 h3 (a7C K (hp hf) hL),ah]) ?_;have:=a7B h4 hn (λe he=>K.eqv he) rv he fJ;obtain⟨l⟩:=ents;simpa using this
end
def a4i(i:Expr):Prop:=∀ov iv,sD i rp ov iv=operate [ov,iv] (qL ov iv)
open PyProof.Rows in
def b9U{prog:bB}{w:bQ}{A:bE}{E:aj->av->Prop}{s:av}{env:oS}{value slice:Expr}{pos:eO}{T id:String}{Q:aj->av->Prop}
  (hl:oW (.type T) "__getitem__"=pure (cz (.builtin id))) (hs:a4i slice)
  (h:aE (a_ prog w) A (cg value env) (λo s₁=>aE (a_ prog w) A (cg slice env) (λi s₂=>s₂.TypeIs o T/\aE (a_ prog w) A (qL o i) Q E s₂) E s₁) E s) :
  aE (a_ prog w) A (cg (.Subscript value slice pos) env) Q E s:=by
 refine PyProof.Rows.Subscript_ (dq h (λo s₁ h₁=>dq h₁ (λi s₂ h₂=>?_) λ_ _ x=>x) λ_ _ x=>x);obtain⟨hT,h₂⟩:=h₂;unfold subscriptTail;refine ab ?_;rw[getitemInPython_of_ne hT.not_modules];refine ab (dA hT hl ?_);have fin:aE (a_ prog w) A (sD slice rp o i) (λr s₃=>aE (a_ prog w) A (letTemporaryGo value o r >>= λ_=>pure r) Q E s₃) E s₂:=by
  rw[hs o i];exact wpAny_operating (dq h₂ (λr s₃ h₃=>ab (wpAny_letTemporaryGo (ae h₃))) λ_ _ x=>x)
 first
  |exact ae (ab fin)
  |exact ab (ae (ab fin))
  |exact ab fin
section
variable {X:Cx}{pins:List (aw×fN)}{Y:L2.St}{H:Hp}{s:av}{A:bE}{E:aj->av->Prop}{a:aw}{es:List (D×V×V)}{kt:Bool}{k:D}{kv v:V}{key val:aj}
def a2V(hu:A.units+12<cV)(I:Inv X pins Y H s)(h:H a=cz (e6 a es))(K:KeysAt X H kt es k kv)(rk:RelV kv key)(hh:u7 es k=p4)
  (hQ:∀e∈es,e.1=k->∀x s',Inv X pins Y H s'->RelV e.2.2 x->Q x s'):aE (a_ X.prog X.w) A (qL (.ref a) key) Q E s:=by
 have hT:=k7 I h;unfold qL
 try with_reducible refine bO ?_
 refine ab (wpAny_sequenceKey hT (by decide) ?_);refine ab (bM (name:=cm "__getitem__") hT slot_dict_getitem (bD slot_dict_getitem hT entry_dict_getitem ?_ (args_dict_getitem _ _)));show aE _ _ (FY a key >>= _) _ _ s;refine ab (get_dict (A:=A.in1) I (by show A.units+1+10<cV;lia) h K rk (λhf=>by rw[hh]at hf;cases hf) λe he fJ x s' I' r=>?_);exact ae ⟨x,rfl,ae (hQ e he fJ x s' I' r)⟩
def a1N(hu:A.units+12<cV)(I:Inv X pins Y H s)(h:H a=cz (e6 a es))(K:KeysAt X H kt es k kv)(rk:RelV kv key)
  (hQ:∀s',Inv X pins Y H s'->Q (u7 es k) s'):aE (a_ X.prog X.w) A (contains (.ref a) key) Q E s:=by
 have hT:=k7 I h;obtain⟨hd,_⟩:=p5 I h;unfold contains
 try with_reducible refine bO ?_
 refine ab (dA hT slot_dict_contains.lookup ?_);show aE _ _ (if (cz (Ag "dict.__contains__")==cz cw)=p4 then _ else _) _ E s;rw[aM (by rw[beq_builtin_none];exact aW)];refine ab (wpAny_callSpecialUnlessNone?_slot (name:=cm "__contains__") hT slot_dict_contains (bD slot_dict_contains hT entry_dict_contains ?_ (args_dict_contains _ _)));show aE _ _ (FY a key >>= _) _ _ s;refine ab (get_dict (A:=A.in1) I (by show A.units+1+10<cV;lia) h K rk (λhf s' I'=>?_) λe he fJ x s' I' r=>?_)
 ·rw[hf]at hQ;show aE _ _ (Builtin.Dict.pendingKey? a key >>= _) _ _ _;exact ab (wpAny_pendingKey_other hd (ae ⟨_,rfl,eS (hQ s' I')⟩))
 ·have hf:u7 es k=p4:=by
   unfold u7;rw[cI];exact⟨e,he,(K.eqv he).mpr fJ⟩
  rw[hf]at hQ;show aE _ _ (ret (.bool p4)) _ _ _;exact ae ⟨_,rfl,eS (hQ s' I')⟩
def b9V(hu:A.units+12<cV)(I:Inv X pins Y H s)(h:H a=cz (e6 a es))(K:KeysAt X H kt es k kv)(rk:RelV kv key)
  (hQ:∀s',Inv X pins Y H s'->Q (.bool (u7 es k)) s'):aE (a_ X.prog X.w) A (bW .In key (.ref a)) Q E s:=by
 show aE _ _ (do return .bool (<-contains (.ref a) key)) Q E s;exact ab (a1N hu I h K rk λs' I'=>ae (hQ s' I'))
def b2b(hu:A.units+12<cV)(I:Inv X pins Y H s)(h:H a=cz (e6 a es))(K:KeysAt X H kt es k kv)(rk:RelV kv key)
  (hQ:∀s',Inv X pins Y H s'->Q (.bool (!u7 es k)) s'):aE (a_ X.prog X.w) A (bW .NotIn key (.ref a)) Q E s:=by
 show aE _ _ (do return .bool (!(<-contains (.ref a) key))) Q E s;exact ab (a1N hu I h K rk λs' I'=>ae (hQ s' I'))
def a7D(hu:A.units+12<cV)(I:Inv X pins Y H s)(h:H a=cz (e6 a es))(K:KeysAt X H kt es k kv)(rk:RelV kv key)(rv:RelV v val)(hl:es.length<aU)(hp:u7 es k=p4->a0n k=rp)
  (hQ:∀s',Inv X pins Y (upd H a (e6 a (R8 es k kv v))) s'->Q () s'):aE (a_ X.prog X.w) A (setItem (.ref a) key val) Q E s:=by
 have hT:=k7 I h;unfold setItem
 try with_reducible refine bO ?_
 refine ab (wpAny_sequenceKey hT (by decide) ?_);refine ab (bM (name:=cm "__setitem__") hT slot_dict_setitem (bD slot_dict_setitem hT entry_dict_setitem ?_ (args_dict_setitem _ _ _)));show aE _ _ (Builtin.Dict.notOrdered "__setitem__" ⟨[.ref a,key,val],[]⟩ >>= _) _ _ s;refine ab (fI hT ?_);show aE _ _ (FX a key val >>= _) _ _ s;exact ab (set_dict (A:=A.in1) I (by show A.units+1+10<cV;lia) h K rk rv hl hp λs' I'=>ae ⟨.none,rfl,ae (hQ s' I')⟩)
def b7N(hu:A.units+12<cV)(I:Inv X pins Y H s)(h:H a=cz (e6 a es))(K:KeysAt X H kt es k kv)(rk:RelV kv key)
  (jU:u7 es k=rp->∀s',Inv X pins Y H s'->Q .none s') (jT:∀e∈es,e.1=k->∀x s',Inv X pins Y H s'->RelV e.2.2 x->Q x s'):aE (a_ X.prog X.w) A (call (.builtin "dict.get") [.ref a,key]) Q E s:=by
 have hT:=k7 I h;obtain⟨hd,_⟩:=p5 I h;refine bD F.slot_dict_get hT F.entry_dict_get ?_ (F.args_dict_get_2 _ _);show aE _ _ (FY a key >>= _) _ _ s;refine ab (get_dict (A:=A.in1) I (by show A.units+1+10<cV;lia) h K rk (λhf s' I'=>?_) λe he fJ x s' I' r=>?_)
 ·show aE _ _ (Builtin.Dict.missed a key >>= _) _ _ _;exact ab (wpAny_missed_other hd (ae ⟨.none,rfl,jU hf s' I'⟩))
 ·exact ae ⟨x,rfl,jT e he fJ x s' I' r⟩
def b4I(hu:A.units+12<cV)(I:Inv X pins Y H s)(h:H a=cz (e6 a es))(K:KeysAt X H kt es k kv)(rk:RelV kv key)(rv:RelV v val)(hl:es.length<aU)
  (jU:u7 es k=rp->∀s',Inv X pins Y (upd H a (e6 a (es++[(k,kv,v)]))) s'->Q val s') (jT:∀e∈es,e.1=k->∀x s',Inv X pins Y H s'->RelV e.2.2 x->Q x s') :
  aE (a_ X.prog X.w) A (call (.builtin "dict.setdefault") [.ref a,key,val]) Q E s:=by
 have hT:=k7 I h;obtain⟨hd,_⟩:=p5 I h;refine bD F.slot_dict_setdefault hT F.entry_dict_setdefault ?_ (F.args_dict_setdefault_3 _ _ _);unfold Builtin.«dict.setdefault»;refine ab ?_;unfold Builtin.Dict.keyAndDefault;refine ab (fI hT ?_);show aE _ _ (pure (a,key,cz val)) _ _ s;refine ae ?_;show aE _ _ (if (a==cW)=p4 then _ else (wU a key val >>= _)) _ _ s;rw[aM (by rw[hd];exact aW)];exact ab (b0d (A:=A.in1) I (by show A.units+1+10<cV;lia) h K rk rv hl (λhf s' I'=>ae ⟨_,rfl,jU hf s' I'⟩) λe he fJ x s' I' r=>ae ⟨_,rfl,jT e he fJ x s' I' r⟩)
def b7O(I:Inv X pins Y H s)(h:H a=cz (e6 a es))(hQ:∀t s',Inv X pins Y H s'->Q (.int es.length t) s'):aE (a_ X.prog X.w) A (call (.builtin "len") [.ref a]) Q E s:=by
 have hT:=k7 I h;obtain⟨hd,hl,_,o,ents,ep,h1,h2,h3,h4⟩:=p5 I h;have hsz:ents.size=es.length:=by
  have:=cR h4;have e2:ents.toList.length=ents.size:=by simp
  lia
 have pL:(es.length:Int)<2^63:=by
  have:aU<2^62:=by decide
  lia
 refine kS kind_len plain_len entry_len (args_len1 _) ?_;unfold Builtin.«len»;refine ab (m:=oneArg "len" _) (ae ?_);refine ab (m:=callSpecial? (.ref a) (cm "__len__")) (bM (name:=cm "__len__") hT iC (bD iC hT F.entry_dict_len ?_ (F.args_dict_len_1 _)));show aE _ _ (dictSize a >>= _) _ _ s;unfold dictSize;refine ab (ab (cD h1 h3 (ae ?_)));show aE _ _ (yb a >>= _) _ _ s;refine ab (yd hd ?_);refine tF ?_;rw[Nat.add_zero,hsz];refine ab (bO (ae ?_));refine ab (ni ?_);show aE _ _ (if ((es.length:Nat):Int)<0 then _ else _) _ _ _;rw[aM (by lia)];show aE _ _ (if ((es.length:Nat):Int)≥2^63 then _ else _) _ _ _;rw[aM (by lia)];exact ab (wpAny_mkInt (ae ⟨_,rfl,hQ _ _ (I.tok _)⟩))
end
def w9(kvs:List (D×D))(k:D):Bool:=kvs.any λp=>aB p.1 k
def A3(kvs:List (D×D))(k:D):Option D:=(kvs.find? λp=>aB p.1 k).map (·.2)
def q8(kvs:List (D×D))(k d:D):List (D×D):=if w9 kvs k then kvs.map λp=>if aB p.1 k then (p.1,d) else p else kvs++[(k,d)]
def n8(kt:Bool)(k:D):Bool:=D8 k&&decide (k.depth<=7)&&match k with
 |.tuple _=>kt
 |.int _=>!kt
 |_=>rp
def x6(h:n8 kt k=p4):keyOk kt k:=by
 unfold n8 at h;rw[ao,ao]at h;refine⟨h.1.1,aP h.1.2,λe=>?_,λe=>?_⟩
 ·subst e;cases k with
  |tuple ds=>exact⟨ds,rfl⟩
  |int i=>have:=h.2;simp at this
  |_=>have:=h.2;simp at this
 ·subst e;cases k with
  |int i=>exact⟨i,rfl⟩
  |tuple ds=>have:=h.2;simp at this
  |_=>have:=h.2;simp at this
def dIn(neg kt:Bool):D->D->Option D
 |k,.dict kvs=>if n8 kt k then cz (.bool (neg !=w9 kvs k)) else el
 |_,_=>el
def a0q(kt:Bool):D->D->Option D
 |.dict kvs,k=>if n8 kt k then A3 kvs k else el
 |_,_=>el
def b2c:List D->Option D
 |[.dict kvs]=>cz (.int kvs.length)
 |_=>el
theorem x8:∀{es:List (D×V×V)} {ds:List D},ds.length=es.length->w9 ((es.map (·.1)).zip ds) k=u7 es k
 |[],ds,_=>by simp[w9,u7]
 |e::es,[],h=>by simp at h
 |e::es,d::ds,h=>by
  have ih:=x8 (k:=k) (es:=es) (ds:=ds) (by simpa using h);unfold w9 u7 at ih ⊢;simp only[aA,dZ,ki,ih]
theorem a0O:∀{es:List (D×V×V)} {ds:List D} {j:Nat} {e:D×V×V} {d:D},ds.length=es.length->(∀e∈es,aB e.1 k=p4↔e.1=k)->(es.map (·.1)).Nodup->es[j]?=cz e->e.1=k->ds[j]?=cz d->A3 ((es.map (·.1)).zip ds) k=cz d
 |[],ds,j,e,d,_,_,_,he,_,_=>by simp at he
 |e0::es,[],j,e,d,h,_,_,_,_,_=>by simp at h
 |e0::es,d0::ds,0,e,d,h,hk,_,he,fJ,hd=>by
  cases he
  cases hd
  have:aB e0.1 k=p4:=(hk _ ak).mpr fJ;simp[A3,this]
 |e0::es,d0::ds,j+1,e,d,h,hk,hn,he,fJ,hd=>by
  rw[aA,bz]at hn;have k_:es[j]?=cz e:=by simpa using he
  have lD:ds[j]?=cz d:=by simpa using hd
  have ih:=a0O (k:=k) (by simpa using h) (λe he=>hk e (aq _ he)) hn.2 k_ fJ lD;have gK:aB e0.1 k=rp:=by
   cases q:aB e0.1 k with
   |false=>rfl
   |true=>exact absurd (by rw[(hk _ ak).mp q,<-fJ];exact bt (bp k_)) hn.1
  unfold A3 at ih ⊢;simp only[aA,dZ,h_,gK];exact ih
def a4j(h:w9 kvs k=rp):A3 kvs k=el:=by
 unfold w9 at h;rw[cC]at h;unfold A3;rw[f_.mpr λp hp=>by simpa using h p hp];rfl
def X1(h:A3 kvs k=cz d):w9 kvs k=p4:=by
 cases q:w9 kvs k with
 |true=>rfl
 |false=>rw[a4j q]at h;cases h
def a4k(h:w9 kvs k=rp):q8 kvs k d=kvs++[(k,d)]:=by unfold q8;rw[h];rfl
def X2{es:List (D×V×V)}{ds:List D}{k d:D}{kv v:V}(hl:ds.length=es.length):((es++[(k,kv,v)]).map (·.1)).zip (ds++[d])=(es.map (·.1)).zip ds++[(k,d)]:=by
 rw[aO,pH (by rw[ah];exact hl.symm)];rfl
theorem P8{v:V}:∀{es:List (D×V×V)} {ds:List D} {j:Nat} {e:D×V×V},ds.length=es.length->(∀e∈es,aB e.1 k=p4↔e.1=k)->(es.map (·.1)).Nodup->es[j]?=cz e->e.1=k->
  ((es.map (·.1)).zip ds).map (λp=>if aB p.1 k then (p.1,d) else p)=(es.map (·.1)).zip (ds.set j d)
 |[],ds,j,e,_,_,_,he,_=>by simp at he
 |e0::es,[],j,e,h,_,_,_,_=>by simp at h
 |e0::es,d0::ds,0,e,h,hk,hn,he,fJ=>by
  cases he
  rw[aA,bz]at hn;have h0:aB e0.1 k=p4:=(hk _ ak).mpr fJ;have iZ:((es.map (·.1)).zip ds).map (λp=>if aB p.1 k then (p.1,d) else p)=(es.map (·.1)).zip ds:=by
   have:∀p∈(es.map (·.1)).zip ds,(if aB p.1 k then (p.1,d) else p)=p:=λp hp=>by
    rw[aM];intro q;have hm:=(gc hp).1;obtain⟨e',k_,hq⟩:=aX.mp hm;have DJ:e'.1=p.1:=hq;rw[<-DJ]at q;exact hn.1 (by rw[fJ,<-(hk e' (aq _ k_)).mp q];exact bt k_)
   rw[cn this,jB]
  simp only[aA,dZ,mW,aH h0,iZ]
 |e0::es,d0::ds,j+1,e,h,hk,hn,he,fJ=>by
  rw[aA,bz]at hn;have k_:es[j]?=cz e:=by simpa using he
  have ih:=P8 (k:=k) (d:=d) (v:=v) (ds:=ds) (by simpa using h) (λe he=>hk e (aq _ he)) hn.2 k_ fJ;have gK:¬ aB e0.1 k=p4:=λq=>hn.1 (by rw[(hk _ ak).mp q,<-fJ];exact bt (bp k_))
  simp only[aA,dZ,jL,aM gK,ih]
section
variable {K:af}{H:Hp}{F:List aw}
theorem Own.dict(h:Own K H F (.d kt u) v d fp):∃a es ds fs,v=.ref a/\H a=cz (e6 a es)/\d=.dict ((es.map (·.1)).zip ds)/\fp=a::fs/\(∀e∈es,keyOk kt e.1/\Den K (cut H F) e.2.1 e.1)/\ListAll (Own K H F u) (es.map (·.2.2)) ds fs/\ds.length=es.length/\(es.map (·.1)).Nodup:=by
 simp only[Own]at h;obtain⟨a,es,ds,fs,h1,h2,h3,h4,h5,h6⟩:=h;exact⟨a,es,ds,fs,h1,h2,h3,h4,h5.2,h6,by have:=h6.length;rw[ah]at this;exact this.symm,h5.1⟩
end
section
variable {X:Cx}{M:List Md}{a b e:Expr}{fa fb:EvE}{ca cb:Cat}{kt:Bool}{u:Ty}{pos:eO}
def keysAt(h:∀e∈es,keyOk kt e.1/\Den X.K (cut H F) e.2.1 e.1)(hk:n8 kt k=p4)(hd:Den X.K H kv k):KeysAt X H kt es k kv:=
 ⟨λe he=>⟨(h e he).1,(h e he).2.up i7⟩,x6 hk,hd⟩
def a3O(X:Cx)(neg:Bool):R2:=λx y H Q=>∃a es kt k,y=.ref a/\H a=cz (e6 a es)/\KeysAt X H kt es k x/\Q (.bl (neg !=u7 es k)) H
def b2d(hu:X.A.units+164<cV):OpR X (bW .In) (a3O X rp):=by
 intro pins s Y H x y v w Q I rx ry h;obtain⟨a,es,kt,k,rfl,hH,K,q⟩:=h;cases (show w=bb a from ry)
 exact b9V (by lia) I hH K rx λs' I'=>⟨.bl _,H,I',rfl,by simpa using q⟩
def N4(hu:X.A.units+164<cV):OpR X (bW .NotIn) (a3O X p4):=by
 intro pins s Y H x y v w Q I rx ry h;obtain⟨a,es,kt,k,rfl,hH,K,q⟩:=h;cases (show w=bb a from ry)
 exact b2b (by lia) I hH K rx λs' I'=>⟨.bl _,H,I',rfl,by simpa using q⟩
def a6c(h:dIn neg kt k d=cz r):∃kvs,d=.dict kvs/\n8 kt k=p4/\r=.bool (neg !=w9 kvs k):=by
 cases d with
 |dict kvs=>
  have h':(if n8 kt k then cz (dh (neg !=w9 kvs k)) else el)=cz r:=h;by_cases c:n8 kt k=p4
  ·rw[aH c]at h';exact⟨kvs,rfl,c,(aL h').symm⟩
  ·rw[aM c]at h';cases h'
 |_=>cases h
def b4J(ho:OpR X (bW op) (a3O X neg))(ha:PX X M a fa ca)(hb:PX X M b fb (.bor (.d kt u)))(S:StE X.K M U Y H P F)(e1:Same H H1)(e2:Same H1 H2)
  (r1:ResR X.K ca H H1 F v k) (r2:ResR X.K (.bor (.d kt u)) H1 H2 F w d) (hr:dIn neg kt k d=cz r) (q:Q (.bl (match r with|.bool b=>b|_=>rp)) H2):a3O X neg v w H2 Q:=by
 obtain⟨kvs,rfl,hk,rfl⟩:=a6c hr;obtain⟨fp,o,_⟩:=r2;obtain⟨p,es,ds,fs,rfl,hH,hd,_,h5,_,hl,_⟩:=o.dict;cases hd
 refine⟨p,es,kt,k,rfl,hH,keysAt h5 hk (r1.den.up e2),?_⟩;rw[<-x8 hl];exact q
def a7E(ho:OpR X (bW op) (a3O X neg))(ha:PX X M a fa ca)(hb:PX X M b fb (.bor (.d kt u)))(hm:autoParam (eE op b=rp) ZX._auto_1):PTX X M (.Compare a [op] [b] pos) (tB (e2 (dIn neg kt) fa fb)):=by
 obtain⟨ta,pa,qa⟩:=ha.out;obtain⟨tb,pb,qb⟩:=hb.out;refine .mk ⟨_,a0C ho pa pb hm,λU Y H P F k Q S hf q=>?_⟩;obtain⟨d,hf,hk⟩:=bnd hf;cases N8 hk
 obtain⟨x,y,h1,h2,h3⟩:=A7 hf;exact qa U Y H P F x _ S h1 λv H1 e1 r1=>qb U Y H1 P F y _ (S.grow e1) h2 λw H2 e2 r2=>b4J ho ha hb S e1 e2 r1 r2 h3 ⟨k,rfl,q H2 (e1.trans e2)⟩
def c1A(X:Cx)(td ty:TE):TE:=λY H Q=>td Y H λx H1=>ty Y H1 λy H2=>∃a es kt k,x=.ref a/\H2 a=cz (e6 a es)/\KeysAt X H2 kt es k y/\u7 es k=p4/\∀e∈es,e.1=k->Q e.2.2 H2
def b2e(hu:X.A.units+164<cV)(ho:PE X a td)(hi:PE X b ty)(hs:a4i b):PE X (.Subscript a b pos) (c1A X td ty):=by
 intro pins s Y H Q I h;refine b9U rl.lookup hs (L2.thn (ho pins s Y H _ I h) λu s1 ⟨x,H1,I1,rx,q1⟩=>L2.thn (hi pins s1 Y H1 _ I1 q1) λiv s2 ⟨y,H2,I2,ry,p,es,kt,k,ex,hH,K,hh,q2⟩=>?_);subst ex;obtain rfl:u=bb p:=rx;exact⟨k7 I2 hH,a2V (by lia) I2 hH K ry hh λe he fJ x s3 I3 r3=>⟨e.2.2,H2,I3,r3,q2 e he fJ⟩⟩
def b0e(h:a0q kt d k=cz r):∃kvs,d=.dict kvs/\n8 kt k=p4/\A3 kvs k=cz r:=by
 cases d with
 |dict kvs=>
  have h':(if n8 kt k then A3 kvs k else el)=cz r:=h;by_cases c:n8 kt k=p4
  ·rw[aH c]at h';exact⟨kvs,rfl,c,h'⟩
  ·rw[aM c]at h';cases h'
 |_=>cases h
def b7P{es:List (D×V×V)}{ds:List D}{e:D×V×V}(h6:ListAll (Own X.K H F u) (es.map (·.2.2)) ds fs)(hl:ds.length=es.length)(hn:(es.map (·.1)).Nodup)(K:KeysAt X H kt es k kv)(he:e∈es)(fJ:e.1=k) :
  ∃(j:Nat) (d:D) (f:List aw),es[j]?=cz e/\ds[j]?=cz d/\A3 ((es.map (·.1)).zip ds) k=cz d/\Own X.K H F u e.2.2 d f/\∀x∈f,x∈fs:=by
 obtain⟨j,hj⟩:=bF.mp he;have gS:j<ds.length:=by rw[hl];exact (aQ.mp hj).1
 obtain⟨w,f,pre,post,z1,z2,z3,_⟩:=h6.at_ (ar gS);rw[bc,hj]at z1;cases z1
 refine⟨j,ds[j],f,hj,ar gS,a0O hl (λe he=>K.eqv he) hn hj fJ (ar gS),z2,λx hx=>?_⟩;rw[z3];exact au _ (aC _ hx)
end
section
variable {X:Cx}{M:List Md}{a b e o:Expr}{es:List Expr}{fa fb:EvE}{ca cb:Cat}{kt:Bool}{u:Ty}{pos apos cf:eO}{to:TE}{t:TA}{name:bI}{id:String}{r:V->List V->Hp->VK->Prop}
def a7F(hu:X.A.units+164<cV)(ha:PX X M a fa (.bor (.d kt u)))(hb:PX X M b fb cb)(hs:a4i b:=by exact λ_ _=>rfl):PX X M (.Subscript a b pos) (e2 (a0q kt) fa fb) (.bor u):=by
 obtain⟨ta,pa,qa⟩:=ha.out;obtain⟨tb,pb,qb⟩:=hb.out;refine .mk ⟨_,b2e hu pa pb hs,λU Y H P F d Q S hf q=>?_⟩;obtain⟨x,y,h1,h2,h3⟩:=A7 hf;obtain⟨kvs,rfl,hk,hg⟩:=b0e h3;refine qa U Y H P F _ _ S h1 λv H1 e1 ⟨fp,o,sub⟩=>qb U Y H1 P F y _ (S.grow e1) h2 λw H2 e2 r2=>?_
 obtain⟨p,es,ds,fs,rfl,hH,hd,rfl,h5,h6,hl,hn⟩:=(o.grow e2).dict;cases hd
 have K:=keysAt (X:=X) h5 hk r2.den;refine⟨p,es,kt,y,rfl,hH,K,by rw[<-x8 hl];exact X1 hg,λe he fJ=>?_⟩;obtain⟨j,d',f,_,_,g',o',s'⟩:=b7P h6 hl hn K he fJ;rw[hg]at g';cases g'
 exact q _ H2 (e1.trans e2) ⟨f,o',λx hx=>sub x (aq _ (s' x hx))⟩
def c1B(r:V->List V->Hp->VK->Prop)(to:TE)(t:TA):TE:=λY H Q=>to Y H λx H1=>(∃p es,x=.ref p/\H1 p=cz (e6 p es))/\t Y H1 λxs H2=>r x xs H2 Q
def a7G(slot:Slot "dict" name id)(vL:typeOf (.builtin id)=pure (.type "method_descriptor"))(hm:MtR X id r)(ho:PE X o to)(ha:PA X (e::es) t)
  (dS:cK o name X.env (cg o X.env)=cg o X.env:=by rfl)
  (jG:((cj cf (ax (e::es) X.env)).all (λx=>!x.1)&&(kq cf (gU [] X.env)).all (λx=>x.1.isSome)
   && decide ((e::es).length+([]:List fV).length+(if ([]:List fV).isEmpty then 0 else 1)<30))=p4:=by rfl)
  (dR:(apos.endLine==cf.line)=p4:=by rfl) (hs:ax (e::es) X.env=(rp,cg e X.env)::ax es X.env:=by rfl) (fP:(cj cf (ax es X.env)).any (·.1)=rp:=by rfl) :
  PE X (.Call (.Attribute o name apos) (e::es) [] cf) (c1B r to t):=by
 intro pins s Y H Q I h;refine Cp dS jG dR rfl (L2.thn (ho pins s Y H _ I h) λv s1 ⟨x,H1,I1,r1,⟨p,Hb,ex,hH⟩,q1⟩=>?_);subst ex;obtain rfl:v=bb p:=r1;refine⟨"dict",id,ip,slot,vL,k7 I1 hH,M7 I1 hH,?_⟩;have hA:=ha cf pins s1 Y H1 _ I1 q1;rw[hs]at hA ⊢;refine fu (by show (rp||(cj cf (ax es X.env)).any (·.1))=rp;rw[fP]<;>rfl) (nT ?_);exact L2.thn hA λus s2 ⟨vs,H2,I2,r2,q2⟩=>hm pins s2 Y H2 (.ref p) vs (.ref p) us Q I2 rfl r2 q2
def b0f:CallR X (.builtin "len") (λxs H Q=>∃p es,xs=[V.ref p]/\H p=cz (e6 p es)/\Q (.int es.length) H):=by
 intro pins s Y H xs us Q I rv h;obtain⟨p,es,rfl,hH,q⟩:=h;obtain⟨w,rfl,rw⟩:=rv.one;cases (show w=bb p from rw)
 exact b7O I hH λt s' I'=>⟨.int es.length,H,I',⟨t,rfl⟩,q⟩
def a1O(h:bU)(hb:cW<h.objs.size):ObjOk P w H (h.push {cls:=.type "dict",data:=.dict #[]}) h.objs.size (e6 h.objs.size []):=
 Y8 (gP.mpr (dP (bg hb))) (b_ _) bw (aF _ rfl) ⟨rfl,rfl,rfl⟩ rfl (λ_=>rfl) .nil
def a6d:PE X (.Dict [] [] pos) (λ_ H Q=>∀p,H p=el->Q (.ref p) (upd H p (e6 p []))):=λpins s Y H Q I h=>
 wpAny_Dict_empty ⟨.ref s.heap.objs.size,_,I.laid (a:=s.heap.objs.size) (o:=e6 s.heap.objs.size []) (t':=s.toks) (λ_ _ q=>ag _ q) (aD _) (a1O s.heap I.sysBelow),rfl,h _ (I.hok.fresh (aD _))⟩
def O4(kt:Bool)(u:Ty):PX X M (.Dict [] [] pos) (eC (.dict [])) (.new (.d kt u)):=by
 refine .mk ⟨_,a6d,λU Y H P F d Q S hf q=>?_⟩;cases hf
 intro p hp;refine q _ _ (l6 hp _) ⟨[p],?_,by simp,λa ha=>by rw[ai.mp ha];exact hp⟩;simp only[Own];exact⟨p,[],[],[],rfl,i6,rfl,rfl,⟨bw,λe he=>(nomatch he)⟩,m8⟩
end
section
variable {K:af}{H:Hp}{F:List aw}
theorem StE.dict(S:StE K M U Y H P F)(hm:M[i]?=cz (.own (.d kt u))) :
  ∃a es ds fs,Y[i]?=cz (cz (.ref a))/\H a=cz (e6 a es)/\U.getD i .none=.dict ((es.map (·.1)).zip ds)/\(∀e∈es,keyOk kt e.1/\Den K (cut H F) e.2.1 e.1)/\ListAll (Own K H F u) (es.map (·.2.2)) ds fs/\ds.length=es.length/\(es.map (·.1)).Nodup:=by
 obtain⟨v,f,h1,o,_⟩:=S.get hm;obtain⟨a,es,ds,fs,rfl,h2,h3,_,h5,h6,h7,h8⟩:=o.dict;exact⟨a,es,ds,fs,h1,h2,h3,h5,h6,h7,h8⟩
theorem a2W:∀{es:List (D×V×V)} {j:Nat} {e:D×V×V},(es.map (·.1)).Nodup->(∀e∈es,aB e.1 k=p4↔e.1=k)->es[j]?=cz e->e.1=k->(es.map λe=>if aB e.1 k then (e.1,e.2.1,v) else e).map (·.2.2)=(es.map (·.2.2)).set j v
 |[],j,e,_,_,hj,_=>by simp at hj
 |e0::es,0,e,hn,iP,hj,fJ=>by
  rw[aA,bz]at hn;cases hj
  have iZ:es.map (λe=>if aB e.1 k then (e.1,e.2.1,v) else e)=es:=by
   have:∀e'∈es,(if aB e'.1 k then (e'.1,e'.2.1,v) else e')=e':=λe' k_=>by
    rw[aM];intro q;exact hn.1 (by rw[fJ,<-(iP e' (aq _ k_)).mp q];exact bt k_)
   rw[cn this,jB]
  rw[aA,aH ((iP _ ak).mpr fJ),iZ];rfl
 |e0::es,j+1,e,hn,iP,hj,fJ=>by
  rw[aA,bz]at hn;have xH:es[j]?=cz e:=by simpa using hj
  have gK:¬ aB e0.1 k=p4:=λq=>hn.1 (by rw[(iP _ ak).mp q,<-fJ];exact bt (bp xH))
  rw[aA,aM gK,aA,aA,jL,a2W hn.2 (λe he=>iP e (aq _ he)) xH fJ]
def Pend.dput(h:Pend K ([]++[.own u]) ([]++[d]) ([]++[cz v]) M U Y H P F)(hm:M[i]?=cz (.own (.d kt u)))(hk:keyOk kt k)(zo:Den K H kv k) :
  ∃a es ds fs,Y[i]?=cz (cz (.ref a))/\H a=cz (e6 a es)/\U.getD i .none=.dict ((es.map (·.1)).zip ds)/\(∀e∈es,keyOk kt e.1/\Den K (cut H F) e.2.1 e.1)/\ListAll (Own K H F u) (es.map (·.2.2)) ds fs/\ds.length=es.length/\(es.map (·.1)).Nodup/\
   StR K M (U.set i (.dict (q8 ((es.map (·.1)).zip ds) k d))) Y (upd H a (e6 a (R8 es k kv v))) P F:=by
 obtain⟨_,_,S⟩:=h;obtain⟨G,h1,h2,h3⟩:=S.all;have lN:StAll K H F (.own u::M) (d::U) (cz v::Y) G:=by simpa using h1
 simp only[StAll]at lN;obtain⟨d',U',o',Y',fv,G2,e1,e2,rfl,⟨v',e3,ov⟩,h5⟩:=lN;cases e1
 cases e2
 cases e3
 obtain⟨dd,oo,f,pre,post,q1,q2,⟨v2,rfl,q3⟩,rfl,q5⟩:=h5.at_ hm;obtain⟨a,es,ds,fs,rfl,r2,r3,rfl,r5,r6,hl,hn⟩:=q3.dict;have m_:a∈F:=h3 a (by simp);have eM:∀o,Same (cut H F) (cut (upd H a o) F):=λo b o' hb=>by
  obtain⟨n1,n2⟩:=o7 hb;exact j7 n1 (by rw[g9 (show b≠a from λz=>n1 (z▸m_))];exact n2)
 have cnt:∀b,b=a->(pre++post).count b=0/\fs.count b=0/\fv.count b=0:=λb e=>by
  subst e;have:=cy.mp h2 b;simp only[be,br,fH]at this ⊢;exact⟨by lia,by lia,by lia⟩
 have kk:∀(l:List aw) (o:HO),(∀b,b=a->l.count b=0)->∀b∈l,upd H a o b=H b:=λl o hc b hb=>g9 λz=>by
  have:=hc b z;rw[dH]at this;exact this hb
 have wa:Den K (cut H F) kv k:=zo.imm_out S.lst k (W5 _ hk.1);have iP:∀e∈es,aB e.1 k=p4↔e.1=k:=λe he=>C8 e.1 k (r5 e he).1.1 hk.1
 have fin:∀(eJ:List (D×V×V)) (iB:List D) (km:List aw),(eJ.map (·.1)).Nodup->(∀e∈eJ,keyOk kt e.1/\Den K (cut H F) e.2.1 e.1)->ListAll (Own K (upd H a (e6 a eJ)) F u) (eJ.map (·.2.2)) iB km->(∀b,km.count b<=fs.count b+fv.count b)->
   StR K M (U.set i (.dict ((eJ.map (·.1)).zip iB))) Y (upd H a (e6 a eJ)) P F:=λeJ iB km tY qY ha oD=>by
  have o1:Own K (upd H a (e6 a eJ)) F (.d kt u) (.ref a) (.dict ((eJ.map (·.1)).zip iB)) (a::km):=by
   simp only[Own];exact⟨a,eJ,iB,km,rfl,i6,rfl,rfl,⟨tY,λe he=>⟨(qY e he).1,(qY e he).2.up (eM _)⟩⟩,ha⟩
  have q:=q5 (upd H a (e6 a eJ)) F (.own (.d kt u)) (.dict ((eJ.map (·.1)).zip iB)) (cz (.ref a)) _ (kk _ _ λb e=>(cnt b e).1) (eM _) ⟨_,rfl,o1⟩;rw[set_same (l:=Y) q2,set_same (l:=M) hm]at q;refine⟨⟨_,q,O3 h2 λb=>?_,λb hb=>?_⟩,λb hb=>?_,S.prot.trans (eM _)⟩
  ·have:=oD b;simp only[be,br,dc];lia
  ·have hc:0<(fv++(pre++(a::fs++post))).count b:=by
    have h0:=cZ.mpr hb;have:=oD b;simp only[be,br,dc]at h0 ⊢;lia
   exact h3 b (cZ.mp hc)
  ·by_cases e:b=a
   ·subst e;exact⟨⟨e6 b eJ,trivial⟩,i6⟩
   ·obtain⟨ys,y⟩:=S.lst b hb;exact⟨ys,by rw[g9 e];exact y⟩
 refine⟨a,es,ds,fs,q2,r2,by rw[y9 q1];exact r3,r5,r6,hl,hn,?_⟩;cases hf:u7 es k with
 |false=>
  rw[a2T hf,a4k (by rw[x8 hl];exact hf),<-X2 (kv:=kv) (v:=v) hl];refine fin (es++[(k,kv,v)]) (ds++[d]) (fs++fv) ?_ ?_ ?_ λb=>by rw[be];exact aD _
  ·rw[aO,aZ];refine⟨hn,by simp,λx hx y hy e=>?_⟩;simp only[aA,cY,ai]at hy;subst hy;subst e;obtain⟨e,he,rfl⟩:=aX.mp hx;unfold u7 at hf;rw[cC]at hf;exact hf e he ((iP e he).mpr rfl)
  ·intro e he;rcases ay.mp he with z|z
   ·exact r5 e z
   ·rw[ai.mp z];exact⟨hk,wa⟩
  ·rw[aO];refine (m4 (eM _) r6 (kk _ _ λb e=>(cnt b e).2.1)).append ?_;have:=m6 (R:=Own K (upd H a (e6 a (es++[(k,kv,v)]))) F u) (ov.frame (eM _) u (kk _ _ λb e=>(cnt b e).2.2)) m8
   rwa[bj]at this
 |true=>
  have hh:=hf;unfold u7 at hf;rw[cI]at hf;obtain⟨e,he,fJ⟩:=hf;have qC:=(iP e he).mp fJ;obtain⟨j,hj⟩:=bF.mp he;have ua:j<ds.length:=by rw[hl];exact (aQ.mp hj).1
  have mR:R8 es k kv v=es.map λe=>if aB e.1 k then (e.1,e.2.1,v) else e:=by unfold R8;rw[hh];rfl
  have nt:q8 ((es.map (·.1)).zip ds) k d=(es.map (·.1)).zip (ds.set j d):=by
   unfold q8;rw[x8 hl,hh];exact P8 (v:=v) hl iP hn hj qC
  have nu:(R8 es k kv v).map (·.1)=es.map (·.1):=by rw[mR];exact a2U
  rw[nt,<-nu];obtain⟨w3,f3,a1,a2,s1,s2,qM,s4⟩:=r6.zip (ar ua);have qg:(R8 es k kv v).map (·.2.2)=(es.map (·.2.2)).set j v:=by
   rw[mR];exact a2W hn iP hj qC
  refine fin (R8 es k kv v) (ds.set j d) (a1++(fv++a2)) (by rw[nu];exact hn) ?_ ?_ λb=>by rw[qM];simp only[be];lia
  ·intro e' k_;rw[mR]at k_;obtain⟨e0,ue,rfl⟩:=aX.mp k_
   split
   ·exact r5 e0 ue
   ·exact r5 e0 ue
  ·rw[qg];have c5:∀b,b=a->(a1++a2).count b=0:=λb e=>by have:=(cnt b e).2.1;rw[qM]at this;simp only[be]at this ⊢;lia
   exact s4 _ F v d fv (kk _ _ c5) (eM _) (ov.frame (eM _) u (kk _ _ λb e=>(cnt b e).2.2))
end
def pOk(kvs:List (D×D))(k:D):Bool:=!(a0n k&&w9 kvs k)
def b4K{kvs:List (D×D)}{k:D}(h:w9 kvs k=rp):pOk kvs k=p4:=by unfold pOk;rw[h,lV];rfl
def b0g{kvs:List (D×D)}{k:D}(h:a0n k=rp):pOk kvs k=p4:=by unfold pOk;rw[h];rfl
def A4(i:Nat)(kt:Bool)(fk fv:EvE):EvS:=λU=>(fv U).bind λd=>(fk U).bind λk=>match U.getD i .none with
 |.dict kvs=>if n8 kt k&&decide (kvs.length<1000000)&&pOk kvs k then cz (.nx (U.set i (.dict (q8 kvs k d)))) else el
 |_=>el
abbrev EvX:=List D->Option (D×List D)
def p7(kvs:List (D×D))(k d:D):List (D×D):=if w9 kvs k then kvs else kvs++[(k,d)]
def PXE(X:Cx)(M:List Md)(e:Expr)(f:EvX)(u:Ty)(M1:List Md):Prop:=
 ∃t,PE X e t/\∀(U:List D) (Y:L2.St) (H P:Hp) (F:List aw) (d:D) (U':List D) (Q:VK),StR X.K M U Y H P F->f U=cz (d,U')->
  (∀v H' F',Pend X.K ([]++[.own u]) ([]++[d]) ([]++[cz v]) M1 U' Y H' P F'->Q v H')->t Y H Q
section
variable {X:Cx}{M M1 ML:List Md}{e k v:Expr}{fk fe fv:EvE}{f:EvX}{ck:Cat}{kt:Bool}{u w:Ty}{pos apos cf iE:eO}
def b6j(X:Cx)(td ty tv:TE):TS:=λD Y H=>tv Y H λv H1=>td Y H1 λx H2=>ty Y H2 λy H3=>∃a es kt k,x=.ref a/\H3 a=cz (e6 a es)/\KeysAt X H3 kt es k y/\es.length<aU/\(u7 es k=p4->a0n k=rp)/\D.nx Y (upd H3 a (e6 a (R8 es k y v)))
def a8W(hu:X.A.units+164<cV)(ho:PE X o td)(hi:PE X k ty)(hv:PE X v tv)(hs:eU v (cz (.Subscript o k iE)) pos.line X.env=pure rp) :
  PS X (.Assign [.Subscript o k iE] v pos) (b6j X td ty tv):=by
 intro pins s Y H D I h;refine wpAny_Assign_Subscript (L2.thn (hv pins s Y H _ I h) λr s1 ⟨v,H1,I1,rv,q1⟩=>L2.thn (ho pins s1 Y H1 _ I1 q1) λu s2 ⟨x,H2,I2,rx,q2⟩=>L2.thn (hi pins s2 Y H2 _ I2 q2) λiv s3 ⟨y,H3,I3,ry,a,es,kt,k,ex,hH,K,hl,hp,q3⟩=>?_) hs;subst ex;obtain rfl:u=bb a:=rx;exact a7D (by lia) I3 hH K ry rv hl hp λs4 I4=>⟨Y,_,I4,q3⟩
def b2f{es:List (D×V×V)}{ds:List D}{k:D}(hl:ds.length=es.length)(h:pOk ((es.map (·.1)).zip ds) k=p4):u7 es k=p4->a0n k=rp:=λhE=>by
 unfold pOk at h;rw[x8 hl,hE]at h;cases c:a0n k with
 |false=>rfl
 |true=>rw[c]at h;cases h
def b2g{kt:Bool}{k:D}(hk:kt=rp)(h:n8 kt k=p4):a0n k=rp:=by
 subst hk;obtain⟨i,rfl⟩:=(x6 h).2.2.2 rfl;rfl
def Y9(i:Nat)(hu:X.A.units+164<cV)(hk:PX X M1 k fk ck)(hv:PMX X M v fv u M1)(hN:X.N[i]?=cz x:=by rfl)(nV:autoParam (NmV X x) ZY._auto_1)(hm:M1[i]?=cz (.own (.d kt u)):=by rfl)(hs:eU v (cz (.Subscript (.Name x px) k iE)) pos.line X.env=pure rp:=by rfl) :
  PSX X w ML M (.Assign [.Subscript (.Name x px) k iE] v pos) (A4 i kt fk fv) M1:=by
 obtain⟨tv,pv,qv⟩:=hv;obtain⟨tk,pk,qk⟩:=hk.out;refine .mk ⟨_,a8W hu (C6 hN nV.1 nV.2.1 nV.2.2) pk pv hs,λD U Y H P F o S hg kk=>?_⟩;obtain⟨d,h1,g1⟩:=bnd hg;obtain⟨y,h2,g2⟩:=bnd g1;refine qv [] [] [] U Y H P F d _ S.pend h1 λv1 H1 F1 e1 S1=>?_
 obtain⟨a,es,ds,fs,ha,hH,hU,_⟩:=S1.e.dict hm;rw[hU]at g2;have me:(if (n8 kt y&&decide (((es.map (·.1)).zip ds).length<1000000)&&pOk ((es.map (·.1)).zip ds) y)=p4 then cz (Out.nx (U.set i (.dict (q8 ((es.map (·.1)).zip ds) y d)))) else el)=cz o:=g2;by_cases c0:(n8 kt y&&decide (((es.map (·.1)).zip ds).length<1000000)&&pOk ((es.map (·.1)).zip ds) y)=p4
 ·rw[aH c0]at me;cases me
  rw[ao,ao]at c0;have c:=c0.1;refine⟨_,ha,qk U Y H1 P F1 y _ S1.e h2 λkv H2 e2 r2=>?_⟩;obtain⟨a',eJ,iB,km,wD,Fv,pf,hK,_,pL,_,S3⟩:=(S1.grow e2).dput hm (x6 c.1) r2.den;rw[ha]at wD;cases wD
  rw[hU]at pf
  injection pf with pf
  refine⟨a,eJ,kt,y,rfl,Fv,keysAt hK c.1 r2.den,?_,b2f pL (by rw[<-pf];exact c0.2),kk Y _ F1 (by rw[pf];exact S3)⟩;have hlen:((eJ.map (·.1)).zip iB).length=eJ.length:=by rw[dG,ah,pL,kO]
  rw[<-hlen,<-pf];exact fE (aP c.2) (by rw[cO];decide)
 ·rw[aM c0]at me;cases me
def b7Q(X:Cx):V->List V->Hp->VK->Prop:=λx xs H Q=>∃p es kt k y z,x=.ref p/\xs=[y,z]/\H p=cz (e6 p es)/\KeysAt X H kt es k y/\es.length<aU/\(u7 es k=rp->Q z (upd H p (e6 p (es++[(k,y,z)]))))/\∀e∈es,e.1=k->Q e.2.2 H
def b4L(hu:X.A.units+164<cV):MtR X "dict.setdefault" (b7Q X):=by
 intro pins s Y H x xs v us Q I rx rv h;obtain⟨p,es,kt,k,y,z,rfl,rfl,hH,K,hl,q1,q2⟩:=h;cases (show v=bb p from rx)
 obtain⟨w1,w2,rfl,r1,r2⟩:=vals2 rv;exact b4I (by lia) I hH K r1 r2 hl (λhf s' I'=>⟨z,_,I',r2,q1 hf⟩) λe he fJ x s' I' r'=>⟨e.2.2,H,I',r',q2 e he fJ⟩
end
def intsOf:List D->Option (List Int)
 |[]=>cz []
 |.int i::r=>(intsOf r).map (i::·)
 |_=>el
def R9(i:Int)(r:List Int):Int:=r.foldl (λa b=>if b>a then b else a) i
def b2h:List D->Option D
 |[.list ds]=>(intsOf ds).bind λis=>match is with
  |[]=>el
  |i::r=>cz (.int (R9 i r))
 |_=>el
theorem D7:∀{ds:List D} {is:List Int},intsOf ds=cz is->ds=is.map .int
 |[],is,h=>by cases h;rfl
 |.int i::r,is,h=>by
  obtain⟨js,h1,rfl⟩:=cX.mp (show (intsOf r).map (i::·)=cz is from h);rw[aA,<-D7 h1]
 |.none::_,_,h|.bool _::_,_,h|.str _::_,_,h|.list _::_,_,h|.tuple _::_,_,h|.dict _::_,_,h=>nomatch h
def O5(is:List Int):intsOf (is.map .int)=cz is:=by
 induction is with
 |nil=>rfl
 |cons i is ih=>show (intsOf (is.map .int)).map (i::·)=_;rw[ih];rfl
theorem a8X:∀(r:List Int) (i:Int),i<=R9 i r/\(∀x∈r,x<=R9 i r)/\(R9 i r=i\/R9 i r∈r)
 |[],i=>⟨xf _,λx hx=>(nomatch hx),.inl rfl⟩
 |y::r,i=>by
  obtain⟨h1,h2,h3⟩:=a8X r (if y>i then y else i);have e:R9 i (y::r)=R9 (if y>i then y else i) r:=rfl;rw[e];refine⟨?_,λx hx=>?_,?_⟩
  ·by_cases c:y>i
   ·rw[aH c]at h1 ⊢;lia
   ·rw[aM c]at h1 ⊢;exact h1
  ·rcases az.mp hx with z|z
   ·subst z;by_cases c:x>i
    ·rw[aH c]at h1 ⊢;exact h1
    ·rw[aM c]at h1 ⊢;lia
   ·exact h2 x z
  ·rcases h3 with z|z
   ·by_cases c:y>i
    ·rw[aH c]at z ⊢;exact .inr (by rw[z];exact ak)
    ·rw[aM c]at z ⊢;exact .inl z
   ·exact .inr (aq _ z)
section
variable {X:Cx}
def a7H{ns:List Int}:∀{us:List aj},Vals (ns.map V.int) us->∃xs:List (Int×Tok),us=xs.map (λp=>iK p.1 p.2)/\xs.map (·.1)=ns:=by
 induction ns with
 |nil=>intro us r;cases r;exact⟨[],rfl,rfl⟩
 |cons n ns ih=>
  intro us r;cases r with
  |cons r1 r2=>
   obtain⟨t,rfl⟩:=r1;obtain⟨xs,h1,h2⟩:=ih r2;exact⟨(n,t)::xs,by rw[aA,<-h1],by rw[aA,h2]⟩
def b0h(hc:X.calm=p4):CallR X (.builtin "max") (λxs H Q=>∃(p:aw) (i:Int) (r:List Int),xs=[.ref p]/\SqX X.K H p ((i::r).map V.int)/\Q (.int (R9 i r)) H):=by
 intro pins s Y H xs us Q I rv h;obtain⟨p,i,r,rfl,hp,q⟩:=h;obtain⟨u,rfl,rx⟩:=vals1 rv;cases (show u=bb p from rx)
 obtain⟨_,cA,n,pY,ho⟩:=hp.ok I;obtain⟨ys,h1,h2⟩:=a7H pY;have e1:cA.toArray=intItems ys.toArray:=by rw[h1];simp[intItems]
 have hl:s.heap.IsList p (intItems ys.toArray):=⟨_,ho,rfl,n,by rw[<-e1]⟩;have hlen:ys.length=r.length+1:=by have:=dJ eW h2;simpa using this
 have num:∀j,j<ys.length->oI ys.toArray j=(i::r).getD j 0:=λj hj=>by
  have:(ys.map (·.1))[j]?=(i::r)[j]?:=by rw[h2]
  unfold oI;rw[aT,<-this];simp
 refine max_intList (I.ok.hd hc) hl (by simp;lia) λv h' tk hv hk=>?_
 obtain⟨t,rfl⟩:=intItems_at hv;obtain⟨b1,b2⟩:=argBest_gt (oI ys.toArray) (ys.toArray.size-1);have hsz:ys.toArray.size=r.length+1:=by simp[hlen]
 have hb:argBest (λi j=>decide (oI ys.toArray i>oI ys.toArray j)) (ys.toArray.size-1)<ys.length:=by lia
 have hm:oI ys.toArray (argBest (λi j=>decide (oI ys.toArray i>oI ys.toArray j)) (ys.toArray.size-1))=R9 i r:=by
  obtain⟨g1,g2,g3⟩:=a8X r i;generalize argBest (λi j=>decide (oI ys.toArray i>oI ys.toArray j)) (ys.toArray.size-1)=a at b1 b2 hb;have up:oI ys.toArray a<=R9 i r:=by
   rw[num a hb];have jF:(i::r).getD a 0∈i::r:=by
    rw[aT,ar (by simp;lia)];exact cH _
   rcases az.mp jF with z|z
   ·rw[z];exact g1
   ·exact g2 _ z
  have dn:R9 i r<=oI ys.toArray a:=by
   have jF:R9 i r∈i::r:=by
    rcases g3 with z|z
    ·rw[z];exact ak
    ·exact aq _ z
   obtain⟨j,hj,ej⟩:=fG.mp jF;have xH:j<ys.length:=by simp at hj;lia
   have:=b2 j (by lia);rw[num j xH,aT,ar hj]at this;have e3:((i::r)[j]?).getD 0=(i::r)[j]:=by rw[ar hj];rfl
   simp only[Option.getD_some]at this;lia
  lia
 rw[hm];exact⟨.int (R9 i r),H,I.kept (t':=tk) λb o e=>hk b o e,⟨t,rfl⟩,q⟩
def b4M(hc:X.calm=p4):a8J X (.builtin "max") b2h:=by
 refine⟨_,b0h hc,λxs H ds d Q hd hg q=>?_⟩
 match ds,hg with
 |[.list es],hg=>
  obtain⟨is,h1,g1⟩:=bnd (show (intsOf es).bind _=cz d from hg);cases is with
  |nil=>cases g1
  |cons i r=>
   cases g1
   obtain⟨v,rfl,h⟩:=Y3 hd;obtain⟨a,ys,rfl,h2,h3⟩:=h.list_inv;have he:=D7 h1;subst he;have hv:ys=(i::r).map V.int:=by
    clear h1 hg hd h h2 q;generalize (i::r)=l at h3
    induction l generalizing ys with
    |nil=>exact h3.nil_inv
    |cons x l ih=>
     obtain⟨w,rs,rfl,k1,k2⟩:=h3.cons_inv;rw[k1.int_inv,ih _ k2];rfl
   subst hv;exact⟨a,i,r,rfl,h2,q _ (by simp only[imm]) λ_=>den_int⟩
 |[.none],hg|[.bool _],hg|[.str _],hg|[.dict _],hg|[.int _],hg|[.tuple _],hg=>cases hg
 |[],hg=>cases hg
 |d1::_::_,hg=>cases d1<;>cases hg
end
section
variable {X:Cx}{M:List Md}{a b e tg:Expr}{fa fb:EvE}{ca cb:Cat}{pos p apos cf:eO}
def T9(r:jc h us ds as):∀{j:Nat} {u:aj},us[j]?=cz u->∃d bs,ds[j]?=cz d/\Reads h u d bs:=by
 induction ds generalizing us as with
 |nil=>intro j u hu;cases r;simp at hu
 |cons d ds ih=>
  intro j u hu;cases r with
  |cons r1 r2=>
   cases j with
   |zero=>cases hu;exact⟨_,_,rfl,r1⟩
   |succ j=>exact ih r2 (by simpa using hu)
open Classical in
noncomputable def b0i(h:bU)(d:D)(u:aj):Bool:=decide (∃d' bs,Reads h u d' bs/\d'.canLay0=p4/\aB d' d=p4)
def a2l{d e:D}(r:Reads h u e bs)(hl:e.canLay0=p4):b0i h d u=aB e d:=by
 unfold b0i;cases q:aB e d with
 |true=>exact @aI _ (_) ⟨e,bs,r,hl,q⟩
 |false=>
  refine @aV _ (_) ?_;rintro⟨d',Af,r1,r2,r3⟩;rw[SeqAt.Reads.unique d' e u _ _ r2 r1 r,q]at r3;cases r3
end
def a8Y{X:Cx}{pins:List (aw×fN)}{Y:L2.St}{H:Hp}{s:av}{h':bU}{t':Nat}{ch:List aw}{T:aw}{xs:List V}(I:Inv X pins Y H s)(k:∀b o,b∉ch->s.heap.get? b=cz o->h'.get? b=cz o)
  (hf:∀b∈ch,a0B X pins H b) (hT:s.heap.objs.size<=T) (new:ObjOk X.prog X.w (upd H T (.tup xs)) h' T (.tup xs)):Inv X pins Y (upd H T (.tup xs)) {s with heap:=h',toks:=t'}:=by
 have hn:H T=el:=I.hok.fresh hT;have neT:∀b o,s.heap.get? b=cz o->b≠T:=λb o e z=>absurd (bA (aK e) (by rw[z];exact hT)) (dw _)
 have p_:∀b u,H b=cz u->b∉ch:=λb u e hb=>by rw[(hf b hb).1]at e;cases e
 refine I.step (g':=s.gens) (d':=s.drawn) (ch:=ch) (λb hb=>⟨(hf b hb).2.2.2.1,(hf b hb).2.1,(hf b hb).2.2.2.2.1,(hf b hb).2.2.2.2.2⟩) (λb o _ _ hc e _=>k b o hc e) (λb o _ _ hc e _=>⟨o.slots,k b o hc e⟩) (λb o _ e n=>by rw[g9 (neT b o e)];exact n)
  (λb o hc e=>⟨o,k b o hc e⟩) (λb ys e=>by rw[g9 (o5 e hn)];exact e) (λb o u e=>by rw[g9 (o5 e hn)];exact e) (λb ps e=>⟨#[],by rw[g9 (o5 e hn),e];simp⟩) (λm hm=>?_) (λb u e=>?_) I.bare
 ·obtain⟨o,es,ep,ho,r⟩:=hm;exact⟨o,es,ep,k _ o (λhb=>(hf _ hb).2.1 rfl) ho,r⟩
 ·by_cases hb:b=T
  ·subst hb;rw[i6]at e;cases e;exact new
  ·rw[g9 hb]at e;refine (I.hok b u e).stay (λc v hc q=>k c v ?_ q) (λc q=>by rw[g9 (o5 q hn)];exact q) λc ys q=>by rw[g9 (o5 q hn)];exact q
   rcases hc with z|z
   ·rw[z];exact p_ b u e
   ·exact p_ c _ z
def a2m{X:Cx}{pins:List (aw×fN)}{Y:L2.St}{H:Hp}{s:av}{h':bU}{t':Nat}{ch:List aw}(I:Inv X pins Y H s)(k:∀b o,b∉ch->s.heap.get? b=cz o->h'.get? b=cz o)
  (hf:∀b∈ch,a0B X pins H b):Inv X pins Y H {s with heap:=h',toks:=t'}:=by
 have p_:∀b u,H b=cz u->b∉ch:=λb u e hb=>by rw[(hf b hb).1]at e;cases e
 refine I.step (g':=s.gens) (d':=s.drawn) (ch:=ch) (λb hb=>⟨(hf b hb).2.2.2.1,(hf b hb).2.1,(hf b hb).2.2.2.2.1,(hf b hb).2.2.2.2.2⟩) (λb o _ _ hc e _=>k b o hc e) (λb o _ _ hc e _=>⟨o.slots,k b o hc e⟩) (λb o _ e n=>n)
  (λb o hc e=>⟨o,k b o hc e⟩) (λb ys e=>e) (λb o u e=>e) (λb ps e=>⟨#[],by rw[e];simp⟩) (λm hm=>?_) (λb u e=>?_) I.bare
 ·obtain⟨o,es,ep,ho,r⟩:=hm;exact⟨o,es,ep,k _ o (λhb=>(hf _ hb).2.1 rfl) ho,r⟩
 ·refine (I.hok b u e).stay (λc v hc q=>k c v ?_ q) (λc q=>q) λc ys q=>q
  rcases hc with z|z
  ·rw[z];exact p_ b u e
  ·exact p_ c _ z
def Ite(K:af)(a:aw):It:=
 ⟨λi H=>∃xs x,SqL K H a xs/\xs[i]?=cz x,λi H x H'=>∃T y,H T=el/\H'=upd H T (.tup [.int i,y])/\x=.ref T/\∀xs,SqL K H a xs->xs[i]?=cz y,λi H=>∃xs,SqL K H a xs/\xs.length<=i⟩
def b0j{P:bB}{w:bQ}{K:af}{elts:List Expr}{kk:Nat}{iE:eO}(a e it:aw)(EE:e≠it):Turn P w K (.Tuple elts kk iE) (Ite K a) [e,it] e (λi h=>(∃old,IsEnum h e it i old)/\h.IsListIter it a i) where
 mem:=by simp
 obj:=λi h st b hb=>by
  obtain⟨⟨old,he⟩,o,eo,c,d⟩:=st;rcases az.mp hb with rfl|hb
  ·exact⟨_,he,λv z=>by cases z⟩
  ·cases ai.mp hb
   exact⟨o,eo,λv z=>by rw[d]at z;cases z⟩
 keep:=λi h h' st k=>by
  obtain⟨⟨old,he⟩,hit⟩:=st;exact⟨⟨old,k e (by simp) _ he⟩,hit.at λo x=>k it (by simp) o x⟩
 item:=by
  intro X hP hw hK hc i pins s Y H E I hf st hg;subst hP hw hK;obtain⟨xs,x,hq,hx⟩:=hg;obtain⟨cA,rv,p,hz⟩:=I.list hq;obtain⟨u,hu,ru⟩:=rv.get hx;obtain⟨⟨old,he⟩,hit⟩:=st;have hle:a≠e:=λz=>by
   obtain⟨o,eo,c,_⟩:=p.isList;rw[z,he]at eo;cases eo
   exact absurd (show dX "enumerate"=dX "list" from c) (by decide)
  have Ei:a≠it:=λz=>by
   obtain⟨o,eo,c,_⟩:=p.isList;obtain⟨o2,FJ,c2,_⟩:=hit;rw[z,FJ]at eo;cases eo
   rw[c2]at c;exact absurd c (by decide)
  have W:=WalksT.enumerate (prog:=X.prog) (w:=X.w) (A:=X.A) (I.ok.hd hc) e it a EE hle Ei cA.toArray;have mB:i<cA.toArray.size:=by
   have:=(aQ.mp hu).1;simpa using this
  refine W.item i s _ E mB ⟨⟨old,he⟩,hit,p.isList⟩ λT vals h' tk hP hT tL wL hk=>⟨.ref T,rfl,W.go elts kk iE i T {s with heap:=h',toks:=tk} _ E wL λh2 vN xF=>?_⟩
  obtain⟨t,y,hy,rfl⟩:=hP;have ey:y=u:=by
   have h1:cA[i]?=cz y:=by simpa using hy
   rw[hu]at h1;exact (aL h1).symm
  subst ey;have wF:=W.apart i T h' wL;obtain⟨oT,eT,cT⟩:=tL;have hn:H T=el:=I.hok.fresh hT;have new:ObjOk X.prog X.w (upd H T (.tup [.int i,x])) h2 T (.tup [.int i,x]):=by
   refine⟨by rw[cO];show 2<=_;decide,[.int i t,y],?_,oT,xF T oT wF eT,cT⟩;exact .cons ⟨t,rfl⟩ (.cons ru .nil)
  refine⟨.ref T,upd H T (.tup [.int i,x]),a8Y (s:=s) (t':=tk) I (λb o hb q=>xF b o hb (hk b o hb q)) hf hT new,rfl,⟨T,x,hn,rfl,rfl,λys Dr=>by rw[I.list_inj Dr hq];exact hx⟩,⟨vN.1,vN.2.1⟩,λb hb=>?_⟩;rw[g9 (λz=>wF (by rw[<-z];exact hb))];exact (hf b hb).1
 done:=by
  intro X hP hw hK hc i pins s Y H E I hf st hg;subst hP hw hK;obtain⟨xs,hq,hx⟩:=hg;obtain⟨cA,rv,p,hz⟩:=I.list hq;have hl:=rv.length;obtain⟨⟨old,he⟩,hit⟩:=st;exact wpAny_pyNext_enum_end (I.ok.hd hc) he hit p.isList (eQ (by simp;lia)) λh' hx=>⟨rfl,a2m (t':=s.toks) I (λb o hb y=>hx b o (λz=>hb (by simp[z])) y) hf⟩
 self:=λ_ _ _ _ _ st h=>by
  obtain⟨⟨old,he⟩,_⟩:=st;exact wpAny_pyIter_enum he h
def O6:List D->Nat->List D
 |[],_=>[]
 |d::ds,k=>.tuple [.int k,d]::O6 ds (k+1)
def iEn(a:EvE):EvA:=λU=>(a U).bind λd=>(asL d).bind λds=>cz (O6 ds 0)
theorem a2X:∀(ds:List D) (k:Nat),(O6 ds k).length=ds.length
 |[],_=>rfl
 |d::ds,k=>by show (O6 ds (k+1)).length+1=_;rw[a2X ds];rfl
theorem a2Y:∀(ds:List D) (k i:Nat) (d:D),ds[i]?=cz d->(O6 ds k)[i]?=cz (.tuple [.int ((k+i:Nat):Int),d])
 |[],_,i,d,h=>by simp at h
 |d0::ds,k,0,d,h=>by
  have:d0=d:=by simpa using h
  subst this;rfl
 |d0::ds,k,i+1,d,h=>by
  have:=a2Y ds (k+1) i d (by simpa using h);show (O6 ds (k+1))[i]?=_;rw[this,mJ,Nat.add_comm 1]
section
variable {X:Cx}{M ML:List Md}{a e iter:Expr}{elts:List Expr}{kk:Nat}{iE pos p:eO}{fa:EvE}{ca:Cat}{u:Ty}{body:List ig}{g:EvS}
def c1C(K:af)(ta:TA):TI:=λY H R=>ta Y H λvs H1=>∃a xs,vs=[.ref a]/\SqL K H1 a xs/\R (Ite K a) H1
open PyProof.Rows in
def b4N(hg:Gl X "enumerate")(hm:X.mg "enumerate"=el)(ha:PA X [a] ta)(hs:ax [a] X.env=[(rp,cg a X.env)]:=by rfl):PI X (.Tuple elts kk iE) (.Call (.Name "enumerate" p) [a] [] pos) (c1C X.K ta):=by
 intro pins s Y H R I h;refine Call_ (a0k I hg hm PyProof.Rows.Boot.«enumerate» (eN (L2.thn (ha pos pins s Y H _ I h) λus s1 ⟨vs,H1,I1,r1,q1⟩=>?_) hs rfl));obtain⟨l,xs,e,hq,q⟩:=q1;subst e;cases r1 with
 |cons r rr=>
  cases rr
  cases (show _=bb l from r)
  obtain⟨cA,rv,pl,hz⟩:=I1.list hq;refine call_enumerate_list pl.isList λh' he hit hsz hk=>?_
  refine wpAny_pyIter_enum he ?_;refine⟨s1.heap.objs.size+1,[s1.heap.objs.size+1,s1.heap.objs.size],_,_,H1,rfl,I1.kept (t':=s1.toks) hk,b0j l _ _ (Nat.succ_ne_self _),⟨⟨_,he⟩,hit⟩,λb hb=>?_,q⟩;have jW:s1.heap.objs.size<=b:=by
   rcases az.mp hb with z|z
   ·rw[z];exact fF _
   ·rw[ai.mp z];exact aD _
  exact I1.fpOk jW (I1.hok.fresh jW)
def b9W(X:Cx)(M:List Md)(tg iter:Expr)(f:EvE):Prop:=
 ∃wi,PI X tg iter wi/\∀(U:List D) (Y:L2.St) (H P:Hp) (F:List aw) (ds:List D) (R:It->Hp->Prop),StE X.K M U Y H P F->f U=cz (.list ds)->
  (∀a xs H1,Same H H1->(∀H2,Same (cut H1 F) H2->SqL X.K H2 a xs)->DenAll X.K (cut H1 F) xs ds->R (Ite X.K a) H1)->wi Y H R
def c1D(hm:X.mg "enumerate"=el)(h:PX X M a fa ca)(hc:frozen ca:=by trivial)(hg:Gl X "enumerate":=by rfl)(he:ax [a] X.env=[(rp,cg a X.env)]:=by rfl)(mC:ax [a] X.env=(rp,cg a X.env)::ax [] X.env:=by rfl) :
  b9W X M (.Tuple elts kk iE) (.Call (.Name "enumerate" p) [a] [] pos) fa:=by
 obtain⟨t,p,q⟩:=h.out;refine⟨_,b4N hg hm (m5 p q9 mC) he,λU Y H P F ds R S hf k=>?_⟩;refine q U Y H P F _ _ S hf λv H1 e1 r1=>?_
 obtain⟨aa,xs,rfl,k1,k2⟩:=(E9 hc r1).list_inv;exact⟨aa,xs,rfl,(T5 k1 i7).l,k _ xs H1 e1 (λH2 e2=>(T5 k1 e2).l) k2⟩
def b7R(h:iI f U=cz ps):f U=cz ps:=by
 obtain⟨ds,h1,g1⟩:=bnd h;by_cases c:g8 ds=p4
 ·have:(if g8 ds=p4 then cz ds else el)=cz ps:=g1;rw[aH c]at this;rw[h1,this]
 ·have:(if g8 ds=p4 then cz ds else el)=cz ps:=g1;rw[aM c]at this;cases this
def b4O{set:List D->D->Option (List D)}{m:D->Prop}(hc:X.calm=p4)(hp:n_ (a_ X.prog X.w) X.A X.env X.xe)(hi:b9W X M tg iter fa)(hg:PG X tg gt)(hs:a9Z X.K M MB gt set m)(hm:∀U ds,fi U=cz ds->∀d∈ds,m d)(wj:∀{U ps},fi U=cz ps->iEn fa U=cz ps)(hb:PSsX X u M MB body g M)
  (hf:∀x,eV iter X.env x=pure x:=by intro _;rfl):PSX X u ML M (.For tg iter body [] pos) (I9 fi set g) M:=by
 obtain⟨wi,pi,qi⟩:=hi;obtain⟨tb,pb,qb⟩:=hb.out;refine .mk ⟨_,a7d hp hc pi hg pb hf,λD U Y H P F o S uc k=>?_⟩;obtain⟨ps,h1,g1⟩:=bnd uc;obtain⟨d0,h2,g2⟩:=bnd (wj h1);obtain⟨ds,h3,g3⟩:=bnd g2;cases O1 h3
 have sL:O6 ds 0=ps:=aL g3;refine qi U Y H P F ds _ S.toE h2 λa xs H1 e1 tQ hx=>?_
 have S1:=S.grow e1;have qV:=hx.length;have fM:ps.length=ds.length:=by rw[<-sL,a2X]
 refine⟨λi n Y' H'=>n=xs.length-i/\i<=xs.length/\∃U' F',StR X.K M U' Y' H' (cut H1 F) F'/\L6 set g (ps.drop i) U'=cz o,⟨xs.length,by simp,b_ _,U,F,⟨S1.all,S1.lst,Same.refl _⟩,g1⟩,?_⟩;rintro i n Y' H' ⟨rfl,hi,U',F',S',hfl⟩;have kT:Same (cut H1 F) (cut H' F'):=S'.prot;have q:=tQ H' (kT.trans i7);by_cases gS:i<xs.length
 ·refine .inr ⟨⟨xs,xs[i],q,ar gS⟩,λY2 H2=>∃U2 F2,StR X.K M U2 Y2 H2 (cut H1 F) F2/\L6 set g (ps.drop (i+1)) U2=cz o,λY2 H2 ⟨U2,F2,S2,h2⟩=>⟨xs.length-(i+1),by lia,rfl,gS,U2,F2,S2,h2⟩,λx H2 hy=>?_⟩;obtain⟨T,y,hT,rfl,rfl,yE⟩:=hy;have sG:=yE xs q;have mB:i<ps.length:=by lia
  have lJ:ps.drop i=ps[i]::ps.drop (i+1):=fB mB;rw[lJ]at hfl;obtain⟨U1,tO,g4⟩:=bnd (show (set U' ps[i]).bind _=cz o from hfl);obtain⟨o1,hg1,g5⟩:=bnd g4;obtain⟨d',qE,ug⟩:=(hx.up kT).getV sG;have qw:ps[i]=.tuple [.int (i:Nat),d']:=by
   have:=a2Y ds 0 i d' qE;rw[sL,ar mB,Nat.zero_add]at this;exact aL this
  have nD:Same H' (upd H' T (.tup [.int i,y])):=l6 hT _;have S2:=S'.grow nD;have zN:T∉F':=λz=>by
   obtain⟨ys,e⟩:=S'.lst T z;rw[hT]at e;cases e
  have oB:Den X.K (cut (upd H' T (.tup [.int i,y])) F') (.ref T) (.tuple [.int (i:Nat),d']):=by
   have mE:Same (cut H' F') (cut (upd H' T (.tup [.int i,y])) F'):=B2 nD;have hd2:=ug.up mE;have jg:cut (upd H' T (.tup [.int i,y])) F' T=cz (.tup [.int i,y]):=j7 zN i6;simp only[Den];exact⟨T,[.int i,y],rfl,SqT.of jg,denAll_cons den_int (denAll_cons hd2 denAll_nil)⟩
  rw[qw]at tO;refine hs U' Y' _ (cut H1 F) F' (.ref T) _ U1 _ S2 oB (hm U ps h1 _ (by rw[<-qw];exact cH mB)) tO λY3 F3 S3=>qb _ U1 Y3 _ (cut H1 F) F3 o1 S3 hg1 ?_
  cases o1 with
  |nx U2=>exact λY4 H4 F4 S4=>⟨U2,F4,S4,g5⟩
  |ct U2=>exact λY4 H4 F4 S4=>⟨U2,F4,S4,g5⟩
  |bk U2=>
   have:o=.nx U2:=(aL g5).symm;subst this;exact λY4 H4 F4 S4=>k Y4 H4 F4 ⟨S4.all,S4.lst,S1.prot.trans S4.prot⟩
  |rt d=>
   have:o=.rt d:=(aL g5).symm;subst this;refine λv H4 fp o nd fr e=>k v H4 fp o nd (λa ha=>?_) (S1.prot.trans e)
   exact S1.prot.free (fr a ha)
 ·have e:i=xs.length:=by lia
  subst e;rw[qV,<-fM,kE]at hfl;have:o=.nx U':=(aL hfl).symm;subst this;exact .inl ⟨⟨xs,q,aD _⟩,k Y' H' F' ⟨S'.all,S'.lst,S1.prot.trans S'.prot⟩⟩
end
section
variable {X:Cx}{M:List Md}{a b:Expr}{fa fb:EvE}{ca cb:Cat}{pos p:eO}
def b2i:D->D->Option D
 |.tuple ds,.tuple es=>if (!ds.isEmpty&&decide (ds.length+es.length<=1000000))=p4 then V6 (.tuple (ds++es)) else el
 |_,_=>el
def a7I(h:b2i x y=cz d):∃ds es,x=.tuple ds/\y=.tuple es/\ds≠[]/\ds.length+es.length<=1000000/\d=.tuple (ds++es)/\imm d=p4:=by
 cases x with
 |tuple ds=>
  cases y with
  |tuple es=>
   have h':(if (!ds.isEmpty&&decide (ds.length+es.length<=1000000))=p4 then V6 (.tuple (ds++es)) else el)=cz d:=h;by_cases c:(!ds.isEmpty&&decide (ds.length+es.length<=1000000))=p4
   ·rw[aH c]at h';obtain⟨e1,e2⟩:=R7 h';rw[ao]at c;exact⟨ds,es,rfl,rfl,λz=>by rw[z]at c;simp at c,aP c.2,e1,by rw[e1];exact e2⟩
   ·rw[aM c]at h';cases h'
  |_=>cases h
 |_=>cases h
end
def insI(n:Int):List Int->List Int
 |[]=>[n]
 |m::ms=>if n<=m then n::m::ms else m::insI n ms
def srt:List Int->List Int
 |[]=>[]
 |n::ns=>insI n (srt ns)
theorem insI_perm(n:Int):∀ms,(insI n ms).Perm (n::ms)
 |[]=>iy _
 |m::ms=>by
  unfold insI;by_cases c:n<=m
  ·rw[aH c]
  ·rw[aM c];exact ((insI_perm n ms).cons m).trans (List.Perm.swap n m ms)
theorem l9:∀ns,(srt ns).Perm ns
 |[]=>iy _
 |n::ns=>(insI_perm n (srt ns)).trans ((l9 ns).cons n)
theorem a1P(n:Int):∀ms:List Int,ms.Pairwise (·<=·)->(insI n ms).Pairwise (·<=·)
 |[],_=>kB ..
 |m::ms,h=>by
  unfold insI;obtain⟨h1,h2⟩:=jN.mp h;by_cases c:n<=m
  ·rw[aH c];refine jN.mpr ⟨λx hx=>?_,h⟩;rcases az.mp hx with z|z
   ·rw[z];exact c
   ·have:=h1 x z;lia
  ·rw[aM c];refine jN.mpr ⟨λx hx=>?_,a1P n ms h2⟩;rcases az.mp ((insI_perm n ms).mem_iff.mp hx) with z|z
   ·lia
   ·exact h1 x z
theorem U0:∀ns:List Int,(srt ns).Pairwise (·<=·)
 |[]=>iz
 |n::ns=>a1P n _ (U0 ns)
def a2Z{a b:List Int}(hp:a.Perm b)(ha:a.Pairwise (·<=·)):a=srt b:=
 List.Perm.eq_of_pairwise (λx y _ _ h1 h2=>Int.le_antisymm h1 h2) ha (U0 b) (hp.trans (l9 b).symm)
theorem vals_ints:∀{vs:List aj} {ns:List Int},w_ vs ns->Vals (ns.map V.int) vs
 |_,_,.nil=>.nil
 |_,_,.cons n t r=>.cons ⟨t,rfl⟩ (vals_ints r)
theorem a1u:∀{ns:List Int} {vs:List aj},Vals (ns.map V.int) vs->w_ vs ns
 |[],vs,h=>by
  have h':Vals [] vs:=h;cases h'
  exact .nil
 |n::ns,vs,h=>by
  have h':Vals (V.int n::ns.map V.int) vs:=h;cases h' with
  |cons r rr=>
   obtain⟨t,rfl⟩:=r;exact .cons n t (a1u rr)
theorem b4P:∀ns:List Int,g8 (ns.map aG)=p4
 |[]=>by simp only[cY,g8]
 |n::ns=>by simp only[aA,g8,imm,b4P ns,eZ]
section
variable {X:Cx}{M:List Md}{a:Expr}{fa:EvE}{ca:Cat}{pos p:eO}
open PyProof.Rows in
def a5l:CallR X (.builtin "sorted") (λxs H Q=>∃(p:aw) (ns:List Int),xs=[.ref p]/\SqX X.K H p (ns.map V.int)/\ns.length<64/\∀z,H z=el->Q (.ref z) (upd H z (.lst ((srt ns).map V.int)))):=by
 intro pins s Y H xs us Q I rv h;obtain⟨p,ns,rfl,hp,xU,q⟩:=h;obtain⟨u,rfl,rx⟩:=vals1 rv;cases (show u=bb p from rx)
 obtain⟨_,cA,n,pY,ho⟩:=hp.ok I;have hl:s.heap.IsList p cA.toArray:=⟨_,ho,rfl,n,rfl⟩;have hlen:cA.length=ns.length:=by have:=pY.length;rw[ah]at this;exact this.symm
 refine sorted_ints hl (a1u pY) (by lia) λout yt a1 a2 a3=>?_
 have e:yt=srt ns:=a2Z a2 a3;subst e;obtain⟨ee,jg⟩:=sortedAll_at s.heap cA out;have hn:H (s.heap.objs.size+1)=el:=I.hok.fresh (fF _);have jP:((srt ns).map V.int).length<=aU:=by
  rw[ah,(l9 ns).length_eq,cO];lia
 refine⟨.ref (s.heap.objs.size+1),_,I.laid (a:=s.heap.objs.size+1) (o:=.lst ((srt ns).map V.int)) (t':=s.toks) (λb u hb=>sortedAll_old hb) (fF _) ⟨jP,out.toList,ee,vals_ints a1,?_⟩,rfl,q _ hn⟩;rw[gD];exact jg
def a1Q(a:EvE):EvE:=λU=>(a U).bind λd=>(asL d).bind λds=>(intsOf ds).bind λns=>if ns.length<64 then cz (.list ((srt ns).map .int)) else el
def a4l(hm:X.mg "sorted"=el)(ha:PX X M a fa ca)(hg:Gl X "sorted":=by rfl)(he:ax [a] X.env=(rp,cg a X.env)::ax [] X.env:=by rfl)(fM:(cj pos (ax [] X.env)).any (·.1)=rp:=by rfl) :
  PX X M (.Call (.Name "sorted" p) [a] [] pos) (a1Q fa) (.new (.l .i)):=by
 obtain⟨ta,pa,qa⟩:=ha.out;refine .mk ⟨_,R1 a5l hg hm PyProof.Rows.Boot.«sorted» (m5 pa q9 he) (by decide) (by decide) he fM,λU Y H P F d Q S hf q=>?_⟩;obtain⟨x,h1,g1⟩:=bnd hf;obtain⟨ds,h2,g2⟩:=bnd g1;obtain⟨ns,h3,g3⟩:=bnd g2;cases O1 h2
 cases D7 h3
 by_cases c:ns.length<64
 ·rw[aH c]at g3;cases g3
  refine qa U Y H P F _ _ S h1 λv H1 e1 r1=>?_
  obtain⟨pp,xs,rfl,k1,k2⟩:=r1.den.list_inv;have vH:∀{ns:List Int} {xs:List V},DenAll X.K H1 xs (ns.map .int)->xs=ns.map V.int:=by
   intro ns
   induction ns with
   |nil=>intro xs h;exact h.nil_inv
   |cons n ns ih=>
    intro xs h;obtain⟨v,r,rfl,h1,h2⟩:=h.cons_inv;rw[h1.int_inv,ih h2];rfl
  cases vH k2
  refine⟨pp,ns,rfl,k1,c,λz hz=>q _ _ (e1.trans (l6 hz _)) ?_⟩;refine N3 ?_ (b4P _) e1 hz (S.lst' e1);have:∀ms:List Int,DenAll X.K H1 (ms.map V.int) (ms.map aG):=by
   intro ms
   induction ms with
   |nil=>exact denAll_nil
   |cons m ms ih=>exact denAll_cons den_int ih
  exact this _
 ·rw[aM c]at g3;cases g3
end
def dis(ns:List Int):List Int:=lr (λi=>ns.getD i 0) ns.length
end VS
namespace PySem
def Heap.IsValuesView.at{h g1:bU}{v d}(x:h.IsValuesView v d)(e:∀o,h.get? v=cz o->g1.get? v=cz o):g1.IsValuesView v d:=let⟨o,ho,r⟩:=x;⟨o,e _ ho,r⟩
theorem Heap.IsValuesView.push{h:bU}{v d}(x:h.IsValuesView v d)(o:fN):(h.push o).IsValuesView v d:=x.at λ_ e=>ag o e
section
variable {prog:bB}{w:bQ}{K:Type}[DecidableEq K]{knd:KeyKind prog w K}{A:bE}{E:aj->av->Prop}{s:av}
def b0k(hT:s.TypeIs (.ref d) "dict_values")(h:Q rp s):aE (a_ prog w) A (gO (.ref d)) Q E s:=by
 unfold gO;refine ab (dA hT F.slot_dict_values_len.lookup ?_);generalize BQ:("dict_values.__len__":String)=Dk
 wp_delta
 rw[show splitId Dk=cz ("dict_values","__len__") from by subst BQ;decide +kernel];subst BQ;refine ab (fA (T:="dict_values") (b:=p4) hT (by rw[nr];kernel_rfl) ?_);refine er (λpO=>absurd pO (by decide)) (λ_=>?_);refine er (λ_=>?_) (λpO=>absurd (by decide +kernel) pO);refine ab (ib hT ?_);exact ae h
def b2j(hh:A.handled=el)(hd:(d==cW)=rp)(hm:s.heap.DictAt knd d kvs ep)(hv:s.heap.IsValuesView v d)
  (hsz:kvs.length<=aU) (L0:aw) (res:aj) (c₀:Nat) (zl:s.heap.get? L0=cz {cls:=.type "list",data:=.seq #[] c₀})
  (kR:∀g1 tq ac cq,(∀b o,b≠L0->s.heap.get? b=cz o->g1.get? b=cz o)->g1.get? L0=cz {cls:=.type "list",dict:=el,data:=.seq ac cq,slots:=#[]}->
   ItemsOf (λi v=>∃k,kvs[i]?=cz (k,v)) ac kvs.length->R (.ok (.ret res)) {s with heap:=g1,toks:=tq}) :
  aE (a_ prog w) A.in1 (du (.ref L0) (.ref v) res)
   (λAb sq=>match Ab with|.done f=>R (.ok f) sq|.again cq=>cq.quiet=p4/\gL (a_ prog w) A cq R sq) (λe sq=>R (.error e) sq) s:=by
 have xP:L0≠d:=λe=>by
  obtain⟨o,es,ho,hx,md,_⟩:=hm;rw[<-e,zl]at ho;cases ho
  cases md
 have zO:L0≠v:=λe=>by
  obtain⟨o,ho,hc,md⟩:=hv;rw[<-e,zl]at ho;cases ho
  cases md
 have Bz:L0≠s.heap.objs.size:=bg (aK zl);have zF:d≠s.heap.objs.size:=bg hm.lt_size;have Fh:L0∉[s.heap.objs.size,d]:=λinn=>by
  rcases az.mp inn with e|e
  ·exact Bz e
  ·exact xP (ai.mp e)
 have W:=(Walks.dictValues (prog:=prog) (w:=w) (knd:=knd) (A:=A.in1) hh s.heap.objs.size d zF kvs ep).toS;have key:∀(h:bU) (c₁ tq:Nat),h.IsValIter s.heap.objs.size d 0 kvs.length ep->h.DictAt knd d kvs ep->(∀b o,b≠L0->s.heap.get? b=cz o->h.get? b=cz o)->
   h.get? L0=cz {cls:=.type "list",data:=.seq #[] c₁}->gL (a_ prog w) A (.builtin "list.extend.loop" ⟨[.ref L0,.ref s.heap.objs.size,res],[]⟩) R {s with heap:=h,toks:=tq}:=by
  intro h c₁ tq hit wx hk vd;refine codeAny_extend_loopS W hsz L0 Fh res kvs.length 0 _ #[] c₁ rfl (b_ _) ⟨hit,wx⟩ vd (ItemsOf.nil _) λsq ac cq xB vc qG=>?_
  rw[Moved.eq_with xB];refine kR sq.heap sq.toks ac cq (λb o nb e=>xB.heap b o (λinn=>?_) (hk b o nb e)) vc qG;rcases az.mp inn with e'|inn
  ·exact nb e'
  ·exact absurd (aK e) (by rw[ai.mp inn];exact dw _)
 unfold du;refine ab (ib (T:="dict_values") hv.typeIs ?_);have h1:iA (.ref L0) (.ref v)=rp:=by simp[iA,zO]
 have h2:(dX "dict_values" == dX "list")=rp:=by decide
 have h3:(dX "dict_values" == dX "tuple")=rp:=by decide
 simp only[h1,h2,h3,Bool.or_false,cN,fO];refine ab (wpAny_pyIter_values hv hm ?_);refine ab (bO (b0k ((hv.push _).typeIs) ?_));have vd:=ag {cls:=.type "dict_valueiterator",data:=.fields #[.ref d,.int 0 0,.int kvs.length 0,.int ep 0]} zl;have qy:(s.heap.push {cls:=.type "dict_valueiterator",data:=.fields #[.ref d,.int 0 0,.int kvs.length 0,.int ep 0]}).IsValIter s.heap.objs.size d 0 kvs.length ep:=⟨_,aF _ rfl,rfl,rfl⟩;refine er (λ_=>?_) (λ_=>ae ⟨fw F.plain_extend_loop _,key _ c₀ _ qy (hm.push _) (λb o _ e=>ag _ e) vd⟩);refine ab (dW ?_);refine ab ?_;show aE _ _ (rC L0 (·.push .none) >>= λ_=>rC L0 (·.pop)) _ _ _;refine ab (jR vd rfl ?_);have xi:=bV (hJ (·.push cw)) vd rfl;refine jR (hz:=by seq_fits) xi rfl ?_;have Cg:=bV (hJ (·.pop)) xi rfl;have rest:∀b o,b≠L0->(s.heap.push {cls:=.type "dict_valueiterator",data:=.fields #[.ref d,.int 0 0,.int kvs.length 0,.int ep 0]}).get? b=cz o->(((s.heap.push {cls:=.type "dict_valueiterator",data:=.fields #[.ref d,.int 0 0,.int kvs.length 0,.int ep 0]}).update L0 (hJ (·.push cw))).update L0 (hJ (·.pop))).get? b=cz o:=λb o nb e=>(dD _ _ (dP nb)).trans ((dD _ _ (dP nb)).trans e)
 exact ae ⟨fw F.plain_extend_loop _,key _ _ _ (qy.at λo e=>rest _ o (dP Bz) e) ((hm.push _).at' λo e=>rest _ o (dP xP) e) (λb o nb e=>rest b o nb (ag _ e)) Cg⟩
def b0l(hh:A.handled=el)(hd:(d==cW)=rp)(hm:s.heap.DictAt knd d kvs ep)(hv:s.heap.IsValuesView v d)
  (hsz:kvs.length<=aU) (L0:aw) (zl:s.heap.get? L0=cz {cls:=.type "list",data:=.seq #[]})
  (kR:∀g1 tq ac cq,(∀b o,b≠L0->s.heap.get? b=cz o->g1.get? b=cz o)->g1.get? L0=cz {cls:=.type "list",dict:=el,data:=.seq ac cq,slots:=#[]}->
   ItemsOf (λi v=>∃k,kvs[i]?=cz (k,v)) ac kvs.length->R (.ok (.ret .none)) {s with heap:=g1,toks:=tq}) :
  aE (a_ prog w) A.in1 (Builtin.«list.__init__» ⟨[.ref L0,.ref v],[]⟩)
   (λAb sq=>match Ab with|.done f=>R (.ok f) sq|.again cq=>cq.quiet=p4/\gL (a_ prog w) A cq R sq) (λe sq=>R (.error e) sq) s:=by
 have xP:L0≠d:=λe=>by
  obtain⟨o,es,ho,hx,md,_⟩:=hm;rw[<-e,zl]at ho;cases ho
  cases md
 have zO:L0≠v:=λe=>by
  obtain⟨o,ho,hc,md⟩:=hv;rw[<-e,zl]at ho;cases ho
  cases md
 show aE _ _ (do let old <-Gr (.ref L0);Builtin.List.listUpdate (.ref L0) (λ_=>#[]);letGo old.toList.reverse;du (.ref L0) (.ref v) .none) _ _ s;refine ab ?_;unfold Gr;refine ab (dI zl rfl (ae ?_));show aE _ _ (rC L0 (λ_=>#[]) >>= λ_=>letGo (#[]:Array aj).toList.reverse >>= λ_=>du (.ref L0) (.ref v) .none) _ _ s;refine ab (jR zl rfl ?_);have xi:=bV (hJ (λ_=>(#[]:Array aj))) zl rfl;have rest:∀b o,b≠L0->s.heap.get? b=cz o->(s.heap.update L0 (hJ (λ_=>(#[]:Array aj)))).get? b=cz o:=
  λb o nb e=>(dD _ _ (dP nb)).trans e
 refine ab (ni ?_);refine b2j hh hd (hm.at' λo e=>rest d o (dP xP) e) (hv.at λo e=>rest v o (dP zO) e) hsz L0 .none _ xi λg1 tq ac cq hk vc qG=>?_
 exact kR g1 tq ac cq (λb o nb e=>hk b o nb (rest b o nb e)) vc qG
def a3a(hh:A.handled=el)(hd:(d==cW)=rp)(hm:s.heap.DictAt knd d kvs ep)(hv:s.heap.IsValuesView v d)
  (hsz:kvs.length<=aU)
  (kQ:∀g1 tq ac cq,(∀b o,s.heap.get? b=cz o->g1.get? b=cz o)->
   g1.get? s.heap.objs.size=cz {cls:=.type "list",dict:=el,data:=.seq ac cq,slots:=#[]}->ItemsOf (λi v=>∃k,kvs[i]?=cz (k,v)) ac kvs.length->Q (.ref s.heap.objs.size) {s with heap:=g1,toks:=tq}) :
  aE (a_ prog w) A (call (.type "list") [.ref v]) Q E s:=by
 refine wZ (Q₁:=λobj s₁=>obj=.ref s.heap.objs.size/\s₁={s with heap:=s.heap.push {cls:=.type "list",data:=.seq #[]}}) F.called_list (F.typeCall_list_1 _) F.entry_list_init
  (code_list_new _ ⟨rfl,rfl⟩) λobj s₁ h₁=>?_
 obtain⟨rfl,rfl⟩:=h₁;have zl:(s.heap.push {cls:=.type "list",data:=.seq #[]}).get? s.heap.objs.size=cz {cls:=.type "list",data:=.seq #[]}:=aF _ rfl;refine⟨⟨_,zl,rfl⟩,F.args_list_init_2 _ _,b0l (A:=A.in1) hh hd (hm.push _) (hv.push _) hsz _ zl λg1 tq ac cq hk vc qG=>?_⟩;exact⟨rfl,kQ g1 tq ac cq (λb o e=>hk b o (bg (aK e)) (ag _ e)) vc qG⟩
end
end PySem
namespace VS
open PySem PySem.Spec L2
theorem a2n:∀{xs:List V} {us:List aj},xs.length=us.length->(∀(i:Nat) (x:V) (u:aj),xs[i]?=cz x->us[i]?=cz u->RelV x u)->Vals xs us
 |[],[],_,_=>.nil
 |[],_::_,h,_=>by simp at h
 |_::_,[],h,_=>by simp at h
 |x::xs,u::us,hl,h=>.cons (h 0 x u rfl rfl) (a2n (by simpa using hl) λi x u h1 h2=>h (i+1) x u (by simpa using h1) (by simpa using h2))
def A1(es:List (D×V×V)):Prop:=∀e∈es,∃n,e.1=.int n/\e.2.1=.int n
def EKv(e:D×V×V)(kv:Int×aj):Prop:=e.1=.int kv.1/\e.2.1=.int kv.1/\RelV e.2.2 kv.2
def b0m(h:e_ P5 es l):A1 es->∃kvs:List (Int×aj),Pairs (c_ P w) l kvs/\e_ EKv es kvs:=by
 induction h with
 |nil=>exact λ_=>⟨[],.nil,.nil⟩
 |@cons e x es l r _ ih=>
  intro hk;obtain⟨kvs,h1,h2⟩:=ih λe he=>hk e (aq _ he)
  obtain⟨n,e1,e2⟩:=hk e ak;obtain⟨hh,i_,tK⟩:=r;rw[e2]at i_;obtain⟨t,ht⟩:=(show ∃t,x.key=iK n t from i_);exact⟨(n,x.val)::kvs,.cons (by rw[ht];simp[c_,jI]) rfl h1,.cons ⟨e1,e2,tK⟩ h2⟩
def a6e(h:e_ EKv es kvs):es.map (·.1)=(kvs.map (·.1)).map aG:=by
 induction h with
 |nil=>rfl
 |cons r _ ih=>rw[aA,aA,aA,ih,r.1]
section
variable {X:Cx}{M:List Md}{a o:Expr}{fa:EvE}{ca:Cat}{pos p apos cf:eO}
def U1(I:Inv X pins Y H s)(hH:H d=cz (e6 d es))(hk:A1 es) :
  ∃kvs ep,s.heap.DictAt (c_ X.prog X.w) d kvs ep/\(d==cW)=rp/\es.length<=aU/\e_ EKv es kvs:=by
 obtain⟨h0,hl,hn,o,ents,ep,h1,h2,h3,h4⟩:=p5 I hH;obtain⟨kvs,p1,p2⟩:=b0m (P:=X.prog) (w:=X.w) h4 hk;refine⟨kvs,ep,⟨o,ents,h1,h2,h3,λx hx=>?_,p1,?_⟩,h0,hl,p2⟩
 ·obtain⟨j,hj⟩:=bF.mp (dO.mpr hx);obtain⟨e,he,hh,i_,_⟩:=a1M h4 hj;obtain⟨n,e1,e2⟩:=hk e (bp he);rw[e2]at i_;obtain⟨t,ht⟩:=(show ∃t,x.key=iK n t from i_);exact⟨n,by rw[ht];simp[c_,jI],by rw[hh,e1];rfl⟩
 ·rw[a6e p2]at hn;exact xc aG (λa b h e=>h (by rw[e])) hn
def a4m(v d:aw):HO:=.ext λh=>h.IsValuesView v d
def b0n{h':bU}(h:h'.IsValuesView v d):ObjOk P w H' h' v (a4m v d):=
 ⟨h,let⟨o,ho,_⟩:=h;⟨o,ho⟩,λx1 x2 ⟨o,ho,r⟩ hk=>⟨o,hk _ ho,r⟩⟩
def b0o(ho:PE X o to)(dS:cK o "values" X.env (cg o X.env)=cg o X.env:=by rfl)(dR:(apos.endLine==cf.line)=p4:=by rfl) :
  PE X (.Call (.Attribute o "values" apos) [] [] cf) (λY H Q=>to Y H λx H1=>∃p es,x=.ref p/\H1 p=cz (e6 p es)/\A1 es/\∀l,H1 l=el->Q (.ref l) (upd H1 l (a4m l p))):=by
 intro pins s Y H Q I h;refine iH dS dR (L2.thn (ho pins s Y H _ I h) λv s1 ⟨x,H1,I1,r1,p,es,ex,hH,hk,q1⟩=>?_);subst ex;obtain rfl:v=bb p:=r1;obtain⟨kvs,ep,jg,h0,hl,hp⟩:=U1 I1 hH hk;refine⟨"dict","dict.values",ip,gZ,se,k7 I1 hH,M7 I1 hH,fu rfl (jq ?_)⟩;refine Ga gZ (k7 I1 hH) rq (qR _) (meets_dict_values (c_ X.prog X.w) p h0) ⟨⟨kvs,jg.dictOf⟩,?_⟩;exact⟨.ref s1.heap.objs.size,_,I1.laid (a:=s1.heap.objs.size) (o:=a4m s1.heap.objs.size p) (t':=s1.toks) (λ_ _ q=>ag _ q) (aD _) (b0n ⟨_,aF _ rfl,rfl,rfl⟩),rfl,q1 _ (I1.hok.fresh (aD _))⟩
def a7J(hc:X.calm=p4):CallR X (.type "list") (λxs H Q=>∃v p es,xs=[.ref v]/\H v=cz (a4m v p)/\H p=cz (e6 p es)/\A1 es/\∀l,H l=el->Q (.ref l) (upd H l (.lst (es.map (·.2.2))))):=by
 intro pins s Y H xs us Q I rv h;obtain⟨v,p,es,rfl,hV,hH,hk,q⟩:=h;obtain⟨u,rfl,rx⟩:=vals1 rv;cases (show u=bb v from rx)
 obtain⟨kvs,ep,jg,h0,hl,hp⟩:=U1 I hH hk;have Dw:s.heap.IsValuesView v p:=(show ObjOk X.prog X.w H s.heap v (a4m v p) from I.hok v _ hV).1;have hlen:=cR hp;refine a3a (knd:=c_ X.prog X.w) (I.ok.hd hc) h0 jg Dw (by lia) λg1 tq ac cq keep ho qG=>?_
 refine⟨.ref s.heap.objs.size,_,I.laid (t':=tq) keep (aD _) (show ObjOk X.prog X.w _ g1 _ (.lst (es.map (·.2.2))) from⟨by rw[ah];exact hl,ac.toList,cq,?_,by rw[gD];exact ho⟩),rfl,q _ (I.hok.fresh (aD _))⟩;refine a2n (by rw[ah];have z1:=qG.1;have z2:ac.toList.length=ac.size:=cu;lia) λi x u h1 h2=>?_
 rw[bX]at h2;obtain⟨k,h3⟩:=qG.2 i u h2;rw[bc]at h1;obtain⟨e,he,rfl⟩:=cX.mp h1;obtain⟨kv,g3,g4⟩:=D6 hp he;rw[h3]at g3;cases g3
 exact g4.2.2
def intKeyed(h:DenKV K H es kvs)(hk:kvs.all (λp=>n8 rp p.1)=p4):A1 es:=λe he=>by
 have h1:e.1∈kvs.map (·.1):=by rw[<-h.keys];exact bt he
 obtain⟨kv,h2,h3⟩:=aX.mp h1;obtain⟨n,hn⟩:=(x6 (aY.mp hk kv h2)).2.2.2 rfl;have hd:=h.kden e he;rw[<-h3,hn]at hd;exact⟨n,by rw[<-h3,hn],hd.int_inv⟩
def a5m(a:EvE):EvE:=λU=>(a U).bind λd=>match d with
 |.dict kvs=>if kvs.all (λp=>n8 rp p.1)&&g8 (kvs.map (·.2)) then cz (.list (kvs.map (·.2))) else el
 |_=>el
def b2k(hc:X.calm=p4)(hm:X.mg "list"=el)(ha:PX X M a fa ca)(hg:Gl X "list":=by rfl)(dS:cK a "values" X.env (cg a X.env)=cg a X.env:=by rfl)(dR:(apos.endLine==cf.line)=p4:=by rfl)
  (he:ax [.Call (.Attribute a "values" apos) [] [] cf] X.env=(rp,cg (.Call (.Attribute a "values" apos) [] [] cf) X.env)::ax [] X.env:=by rfl) (fM:(cj pos (ax [] X.env)).any (·.1)=rp:=by rfl) :
  PX X M (.Call (.Name "list" p) [.Call (.Attribute a "values" apos) [] [] cf] [] pos) (a5m fa) (.new (.l .i)):=by
 obtain⟨ta,pa,qa⟩:=ha.out;refine .mk ⟨_,N0 (a7J hc) hg hm PyProof.Rows.Boot.«list» (m5 (b0o pa dS dR) q9 he) (by decide) (by decide) he fM,λU Y H P F d Q S hf q=>?_⟩;obtain⟨x,h1,g1⟩:=bnd hf;cases x with
 |dict kvs=>
  have g2:(if kvs.all (λp=>n8 rp p.1)&&g8 (kvs.map (·.2)) then cz (g_ (kvs.map (·.2))) else el)=cz d:=g1;by_cases c:(kvs.all (λp=>n8 rp p.1)&&g8 (kvs.map (·.2)))=p4
  ·rw[aH c]at g2;cases g2
   rw[ao]at c;refine qa U Y H P F _ _ S h1 λv H1 e1 r1=>?_
   obtain⟨pp,es,rfl,k1,k2⟩:=r1.den.dict_inv;have hk:=intKeyed k2 c.1;refine⟨pp,es,rfl,k1,hk,λy hy=>?_⟩;have e2:=l6 hy (a4m y pp);refine⟨y,pp,es,rfl,i6,e2 _ _ k1,hk,λz hz=>q _ _ ((e1.trans e2).trans (l6 hz _)) ?_⟩;exact N3 (k2.vals.up e2) c.2 (e1.trans e2) hz (S.lst' (e1.trans e2))
  ·rw[aM c]at g2;cases g2
 |_=>cases g1
end
def keysOk(kt:Bool)(kvs:List (D×D)):Bool:=kvs.all λp=>n8 kt p.1
def a0P(neg kt:Bool):D->D->Option D
 |k,.dict kvs=>if n8 kt k&&keysOk kt kvs then cz (.bool (neg !=w9 kvs k)) else el
 |_,_=>el
def P3(kt:Bool):D->D->Option D
 |.dict kvs,k=>if n8 kt k&&keysOk kt kvs then A3 kvs k else el
 |_,_=>el
def a6f(kt:Bool):D->D->Option D
 |.dict kvs,k=>if n8 kt k&&keysOk kt kvs then cz ((A3 kvs k).getD .none) else el
 |_,_=>el
def Z0{kvs:List (D×D)}{es:List (D×V×V)}(h:es.map (·.1)=kvs.map (·.1)):w9 kvs k=u7 es k:=by
 have e1:w9 kvs k=(kvs.map (·.1)).any λx=>aB x k:=by unfold w9;rw[uC];rfl
 have e2:u7 es k=(es.map (·.1)).any λx=>aB x k:=by unfold u7;rw[uC];rfl
 rw[e1,e2,h]
def b2l{X:Cx}(h:DenKV X.K H es kvs)(ho:keysOk kt kvs=p4)(hk:n8 kt k=p4)(hd:Den X.K H kv k):KeysAt X H kt es k kv:=by
 refine⟨λe he=>⟨?_,h.kden e he⟩,x6 hk,hd⟩;have hm:e.1∈kvs.map (·.1):=by rw[<-h.keys];exact bt he
 obtain⟨p,hp,e1⟩:=aX.mp hm;rw[<-e1];exact x6 (aY.mp ho p hp)
section
variable {X:Cx}{M:List Md}{a b:Expr}{fa fb:EvE}{ca cb:Cat}{kt:Bool}{pos:eO}
def a4n(h:a0P neg kt k d=cz r):∃kvs,d=.dict kvs/\n8 kt k=p4/\keysOk kt kvs=p4/\r=.bool (neg !=w9 kvs k):=by
 cases d with
 |dict kvs=>
  have h':(if n8 kt k&&keysOk kt kvs then cz (dh (neg !=w9 kvs k)) else el)=cz r:=h;by_cases c:(n8 kt k&&keysOk kt kvs)=p4
  ·rw[aH c]at h';rw[ao]at c;exact⟨kvs,rfl,c.1,c.2,(aL h').symm⟩
  ·rw[aM c]at h';cases h'
 |_=>cases h
def a6g(d1:Den X.K H2 v k)(d2:Den X.K H2 w d)(hr:a0P neg kt k d=cz r)(q:Q (.bl (match r with|.bool b=>b|_=>rp)) H2):a3O X neg v w H2 Q:=by
 obtain⟨kvs,rfl,hk,ho,rfl⟩:=a4n hr;obtain⟨p,es,rfl,hH,dk⟩:=d2.dict_inv;refine⟨p,es,kt,k,rfl,hH,b2l dk ho hk d1,?_⟩;rw[<-Z0 dk.keys];exact q
def b7S(ho:OpR X (bW op) (a3O X neg))(ha:PX X M a fa ca)(hb:PX X M b fb cb)(hm:autoParam (eE op b=rp) ZX._auto_1):PX X M (.Compare a [op] [b] pos) (e2 (a0P neg kt) fa fb) (.new .i):=by
 obtain⟨ta,pa,qa⟩:=ha.out;obtain⟨tb,pb,qb⟩:=hb.out;refine .mk ⟨_,a8E ho pa pb hm,λU Y H P F d Q S hf q=>?_⟩;obtain⟨x,y,h1,h2,h3⟩:=A7 hf;refine qa U Y H P F x _ S h1 λv H1 e1 r1=>qb U Y H1 P F y _ (S.grow e1) h2 λw H2 e2 r2=>a6g (r1.den.up e2) r2.den h3 ?_
 obtain⟨kvs,rfl,_,_,rfl⟩:=a4n h3;exact q _ H2 (e1.trans e2) (E8 (by simp only[imm]) den_bool (S.lst' (e1.trans e2)))
def a8Z(ho:OpR X (bW op) (a3O X neg))(ha:PX X M a fa ca)(hb:PX X M b fb cb)(hm:autoParam (eE op b=rp) ZX._auto_1):PTX X M (.Compare a [op] [b] pos) (tB (e2 (a0P neg kt) fa fb)):=by
 obtain⟨ta,pa,qa⟩:=ha.out;obtain⟨tb,pb,qb⟩:=hb.out;refine .mk ⟨_,a0C ho pa pb hm,λU Y H P F k Q S hf q=>?_⟩;obtain⟨d,hf,hk⟩:=bnd hf;cases N8 hk
 obtain⟨x,y,h1,h2,h3⟩:=A7 hf;exact qa U Y H P F x _ S h1 λv H1 e1 r1=>qb U Y H1 P F y _ (S.grow e1) h2 λw H2 e2 r2=>a6g (r1.den.up e2) r2.den h3 ⟨k,rfl,q H2 (e1.trans e2)⟩
def b2m{es:List (D×V×V)}(hn:(es.map (·.1)).Nodup)(hk:∀e∈es,aB e.1 k=p4↔e.1=k)(h:DenKV K H es kvs)(he:e∈es)(fJ:e.1=k):∃d,A3 kvs k=cz d/\Den K H e.2.2 d:=by
 obtain⟨j,hj⟩:=bF.mp he;have hl:kvs.length=es.length:=by have:=dJ eW h.keys;simpa using this.symm
 have hz:kvs=(es.map (·.1)).zip (kvs.map (·.2)):=by
  rw[h.keys,List.zip_map',List.map_id'' (λp=>rfl)]
 obtain⟨p,hp⟩:∃p,kvs[j]?=cz p:=⟨_,ar (by rw[hl];exact (aQ.mp hj).1)⟩;have hd:(kvs.map (·.2))[j]?=cz p.2:=by rw[bc,hp];rfl
 refine⟨p.2,?_,?_⟩
 ·rw[hz];exact a0O (by rw[ah];exact hl) hk hn hj fJ hd
 ·obtain⟨v,z1,z2⟩:=h.vals.get hd;rw[bc,hj]at z1;cases z1
  exact z2
def b9X(X:Cx)(td ty:TE):TE:=λY H Q=>td Y H λx H1=>ty Y H1 λy H2=>∃a es kt k,x=.ref a/\H2 a=cz (e6 a es)/\KeysAt X H2 kt es k y/\u7 es k=p4/\((es.map (·.1)).Nodup->∀e∈es,e.1=k->Q e.2.2 H2)
def b4Q(hu:X.A.units+164<cV)(ho:PE X a td)(hi:PE X b ty)(hs:a4i b):PE X (.Subscript a b pos) (b9X X td ty):=by
 intro pins s Y H Q I h;refine b9U rl.lookup hs (L2.thn (ho pins s Y H _ I h) λu s1 ⟨x,H1,I1,rx,q1⟩=>L2.thn (hi pins s1 Y H1 _ I1 q1) λiv s2 ⟨y,H2,I2,ry,p,es,kt,k,ex,hH,K,hh,q2⟩=>?_);subst ex;obtain rfl:u=bb p:=rx;have hn:=(p5 I2 hH).2.2.1;exact⟨k7 I2 hH,a2V (by lia) I2 hH K ry hh λe he fJ x s3 I3 r3=>⟨e.2.2,H2,I3,r3,q2 hn e he fJ⟩⟩
def b0p(h:P3 kt d k=cz r):∃kvs,d=.dict kvs/\n8 kt k=p4/\keysOk kt kvs=p4/\A3 kvs k=cz r:=by
 cases d with
 |dict kvs=>
  have h':(if n8 kt k&&keysOk kt kvs then A3 kvs k else el)=cz r:=h;by_cases c:(n8 kt k&&keysOk kt kvs)=p4
  ·rw[aH c]at h';rw[ao]at c;exact⟨kvs,rfl,c.1,c.2,h'⟩
  ·rw[aM c]at h';cases h'
 |_=>cases h
def U2(hu:X.A.units+164<cV)(ha:PX X M a fa (.new .f))(hb:PX X M b fb cb)(hs:a4i b:=by exact λ_ _=>rfl):PX X M (.Subscript a b pos) (e2 (P3 kt) fa fb) (.new .f):=by
 obtain⟨ta,pa,qa⟩:=ha.out;obtain⟨tb,pb,qb⟩:=hb.out;refine .mk ⟨_,b4Q hu pa pb hs,λU Y H P F d Q S hf q=>?_⟩;obtain⟨x,y,h1,h2,h3⟩:=A7 hf;obtain⟨kvs,rfl,hk,hok,hg⟩:=b0p h3;refine qa U Y H P F _ _ S h1 λv H1 e1 ⟨fp,o,nd,fr⟩=>qb U Y H1 P F y _ (S.grow e1) h2 λw H2 e2 r2=>?_
 simp only[Own]at o;obtain⟨rfl,o⟩:=o;have o2:Den X.K (cut H2 F) v (.dict kvs):=o.up (K7 e2 λa o ha jy=>by simpa using jy);obtain⟨p,es,rfl,hH,dk⟩:=o2.dict_inv;have Ad:DenKV X.K H2 es kvs:=DenKV.mono i7 kvs dk;have KK:=b2l Ad hok hk r2.den;refine⟨p,es,kt,y,rfl,i7 _ _ hH,KK,by rw[<-Z0 dk.keys];exact X1 hg,λhn e he fJ=>?_⟩;obtain⟨d',g',dd⟩:=b2m hn (λe he=>KK.eqv he) dk he fJ;rw[hg]at g';cases g'
 refine q _ H2 (e1.trans e2) ⟨[],?_,bw,λa ha=>(nomatch ha)⟩;simp only[Own];exact⟨trivial,dd⟩
def b7T(X:Cx):V->List V->Hp->VK->Prop:=λx xs H Q=>∃p es kt k y,x=.ref p/\xs=[y]/\H p=cz (e6 p es)/\KeysAt X H kt es k y/\(u7 es k=rp->Q .non H)/\((es.map (·.1)).Nodup->∀e∈es,e.1=k->Q e.2.2 H)
def b4R(hu:X.A.units+164<cV):MtR X "dict.get" (b7T X):=by
 intro pins s Y H x xs v us Q I rx rv h;obtain⟨p,es,kt,k,y,rfl,rfl,hH,K,q1,q2⟩:=h;cases (show v=bb p from rx)
 obtain⟨w,rfl,rw⟩:=rv.one;have hn:=(p5 I hH).2.2.1;exact b7N (by lia) I hH K rw (λhf s' I'=>⟨.non,H,I',rfl,q1 hf⟩) λe he fJ x s' I' r'=>⟨e.2.2,H,I',r',q2 hn e he fJ⟩
def a7K(h:a6f kt d k=cz r):∃kvs,d=.dict kvs/\n8 kt k=p4/\keysOk kt kvs=p4/\r=(A3 kvs k).getD .none:=by
 cases d with
 |dict kvs=>
  have h':(if n8 kt k&&keysOk kt kvs then cz ((A3 kvs k).getD .none) else el)=cz r:=h;by_cases c:(n8 kt k&&keysOk kt kvs)=p4
  ·rw[aH c]at h';rw[ao]at c;exact⟨kvs,rfl,c.1,c.2,(aL h').symm⟩
  ·rw[aM c]at h';cases h'
 |_=>cases h
def b4S{apos cf:eO}(hu:X.A.units+164<cV)(ha:PX X M a fa (.new .f))(hb:PX X M b fb cb)(dS:cK a "get" X.env (cg a X.env)=cg a X.env:=by rfl)
  (jG:((cj cf (ax [b] X.env)).all (λx=>!x.1)&&(kq cf (gU [] X.env)).all (λx=>x.1.isSome)
   && decide (([b]:List Expr).length+([]:List fV).length+(if ([]:List fV).isEmpty then 0 else 1)<30))=p4:=by rfl)
  (dR:(apos.endLine==cf.line)=p4:=by rfl) (hs:ax [b] X.env=(rp,cg b X.env)::ax [] X.env:=by rfl) (fP:(cj cf (ax [] X.env)).any (·.1)=rp:=by rfl) :
  PX X M (.Call (.Attribute a "get" apos) [b] [] cf) (e2 (a6f kt) fa fb) (.new .f):=by
 obtain⟨ta,pa,qa⟩:=ha.out;obtain⟨tb,pb,qb⟩:=hb.out;refine .mk ⟨_,a7G PySem.F.slot_dict_get PySem.F.type_dict_get (b4R hu) pa (m5 pb q9 hs) dS jG dR hs fP,λU Y H P F d Q S hf q=>?_⟩;obtain⟨x,y,h1,h2,h3⟩:=A7 hf;obtain⟨kvs,rfl,hk,hok,rfl⟩:=a7K h3;refine qa U Y H P F _ _ S h1 λv H1 e1 ⟨fp,o,nd,fr⟩=>?_
 simp only[Own]at o;obtain⟨rfl,o⟩:=o;obtain⟨p,es,rfl,hH,dk⟩:=o.dict_inv;refine⟨⟨p,es,rfl,i7 _ _ hH⟩,qb U Y H1 P F y _ (S.grow e1) h2 λw H2 e2 r2=>?_⟩;have up:Same (cut H1 ([]++F)) (cut H2 F):=K7 e2 λa o ha jy=>by simpa using jy
 have BU:DenKV X.K (cut H2 F) es kvs:=DenKV.mono up kvs dk;have Ad:DenKV X.K H2 es kvs:=DenKV.mono i7 kvs BU;have KK:=b2l Ad hok hk r2.den;refine⟨p,es,kt,y,w,rfl,rfl,e2 _ _ (i7 _ _ hH),KK,λhf=>?_,λhn e he fJ=>?_⟩
 ·have:A3 kvs y=el:=a4j (by rw[Z0 dk.keys];exact hf);rw[this]at q;refine q .non H2 (e1.trans e2) ⟨[],?_,bw,λa ha=>(nomatch ha)⟩;simp only[Own];exact⟨trivial,den_none⟩
 ·obtain⟨d',g',dd⟩:=b2m hn (λe he=>KK.eqv he) BU he fJ;rw[g']at q;refine q _ H2 (e1.trans e2) ⟨[],?_,bw,λa ha=>(nomatch ha)⟩;simp only[Own];exact⟨trivial,dd⟩
end
end VS
namespace VS
open PySem PySem.Spec L2 PyProof.Rows
section
variable {X:Cx}{pins:List (aw×fN)}{Y:L2.St}{H:Hp}{s:av}{A:bE}{E:aj->av->Prop}{a:aw}{es:List (D×V×V)}{kt:Bool}{k:D}{kv v:V}{key val:aj}
def a7L{Q:aj->av->Prop}(I:Inv X pins Y H s)(h:H a=cz (e6 a es))(hQ:∀t s',Inv X pins Y H s'->Q (.int es.length t) s'):aE (a_ X.prog X.w) A (Builtin.«len» ⟨[.ref a],[]⟩) (λfin s'=>∃r,fin=.done (.ret r)/\Q r s') E s:=by
 have hT:=k7 I h;obtain⟨hd,hl,_,o,ents,ep,h1,h2,h3,h4⟩:=p5 I h;have hsz:ents.size=es.length:=by
  have:=cR h4;have e2:ents.toList.length=ents.size:=by simp
  lia
 have pL:(es.length:Int)<2^63:=by
  have:aU<2^62:=by decide
  lia
 unfold Builtin.«len»;refine ab (m:=oneArg "len" _) (ae ?_);refine ab (m:=callSpecial? (.ref a) (cm "__len__")) (bM (name:=cm "__len__") hT iC (bD iC hT F.entry_dict_len ?_ (F.args_dict_len_1 _)));show aE _ _ (dictSize a >>= _) _ _ s;unfold dictSize;refine ab (ab (cD h1 h3 (ae ?_)));show aE _ _ (yb a >>= _) _ _ s;refine ab (yd hd ?_);refine tF ?_;rw[Nat.add_zero,hsz];refine ab (bO (ae ?_));refine ab (ni ?_);show aE _ _ (if ((es.length:Nat):Int)<0 then _ else _) _ _ _;rw[aM (by lia)];show aE _ _ (if ((es.length:Nat):Int)≥2^63 then _ else _) _ _ _;rw[aM (by lia)];exact ab (wpAny_mkInt (ae ⟨_,rfl,hQ _ _ (I.tok _)⟩))
def b0q{Q:Bool->av->Prop}(I:Inv X pins Y H s)(h:H a=cz (e6 a es))(hQ:∀s',Inv X pins Y H s'->Q (!es.isEmpty) s'):aE (a_ X.prog X.w) A (vh (.ref a)) Q E s:=by
 have hT:=k7 I h;have gK:((es.length:Int)!=0)=!es.isEmpty:=by cases es<;>simp<;>lia
 have key:aE (a_ X.prog X.w) A (runValue (.builtin "len" ⟨[.ref a],[]⟩)) (λr s'=>(∃t,r=.int es.length t)/\Q (!es.isEmpty) s') E s:=by
  refine nh (dQ entry_len ?_);rw[de plain_len _];exact dq (a7L (Q:=λr s'=>(∃t,r=.int es.length t)/\Q (!es.isEmpty) s') I h λt s' I'=>⟨⟨t,rfl⟩,hQ s' I'⟩)
   (λfin s' h'=>by obtain⟨r,rfl,hq⟩:=h';exact hq) λ_ _ e=>e
 unfold vh
 first
  |refine ab (Aq (name:=cm "__bool__") hT noBool_dict ?_)
  |refine ab (ae (ab (Aq (name:=cm "__bool__") hT noBool_dict ?_)))
 first
  |refine ab (dA (name:=cm "__len__") hT iC.lookup ?_)
  |refine ab (ae (ab (dA (name:=cm "__len__") hT iC.lookup ?_)))
 first
  |exact ab (dq key (λr s' h'=>by obtain⟨⟨t,rfl⟩,hq⟩:=h';exact ae (gK▸hq)) λ_ _ e=>e)
  |exact ab (ae (ab (dq key (λr s' h'=>by obtain⟨⟨t,rfl⟩,hq⟩:=h';exact ae (gK▸hq)) λ_ _ e=>e)))
end
section
variable {X:Cx}{M:List Md}{a:Expr}{ta:TE}{fa:EvE}{ca:Cat}
def b4T(ha:PE X a ta)(he:∀whole,rJ a X.env whole=(do let v <-whole;standAt a.pos;nW [v] (vh v))):PT X a (λY H Q=>ta Y H λx H'=>∃p es,x=.ref p/\H' p=cz (e6 p es)/\Q (!es.isEmpty) H'):=by
 intro pins s Y H Q I h;refine isTrue_plain (L2.thn (ha pins s Y H _ I h) λv s1 ⟨x,H1,I1,r1,p,es,ex,hH,q1⟩=>?_) (he _);subst ex;obtain rfl:v=bb p:=r1;exact b0q I1 hH λs' I'=>⟨H1,I',q1⟩
def trD:D->Option Bool
 |.dict kvs=>cz !kvs.isEmpty
 |_=>el
def tVD(a:EvE):EvT:=λU=>(a U).bind trD
def b2n(ha:PX X M a fa ca)(he:∀whole,rJ a X.env whole=(do let v <-whole;standAt a.pos;nW [v] (vh v)):=by intro _;rfl):PTX X M a (tVD fa):=by
 obtain⟨ta,pa,qa⟩:=ha.out;refine .mk ⟨_,b4T pa he,λU Y H P F k Q S hf q=>?_⟩;obtain⟨x,h1,hf⟩:=bnd hf;refine qa U Y H P F _ _ S h1 λv H1 e1 r1=>?_
 cases x with
 |dict kvs=>
  have oA:cz (!kvs.isEmpty)=cz k:=hf;cases oA
  obtain⟨p,es,rfl,hH,dk⟩:=r1.den.dict_inv;refine⟨p,es,rfl,hH,?_⟩;have hl:es.isEmpty=kvs.isEmpty:=by
   have:=dJ eW dk.keys;rw[ah,ah]at this;cases es<;>cases kvs<;>simp_all
  rw[hl];exact q H1 e1
 |_=>cases hf
end
end VS
namespace VS
open PySem PySem.Spec L2
section
variable {K:af}{M:List Md}{Y:L2.St}{P:Hp}{F:List aw}{i:Nat}{b:aw}
theorem StR.ext(hm:M[i]?=cz (.own (.l .i)))(hs:Y[i]?=cz (cz (.ref b)))(hb:b∈F):∀(zs:List V) (es:List D) (U:List D) (H:Hp) (ds:List D) (xs:List V),StR K M U Y H P F->DenAll K (cut H F) zs es->g8 es=p4->U[i]?=cz (.list ds)->H b=cz (.lst xs)->xs.length=ds.length->
  StR K M (U.set i (.list (ds++es))) Y (upd H b (.lst (xs++zs))) P F
 |zs,[],U,H,ds,xs,S,hd,hi,hr,hH,hl=>by
  rw[hd.nil_inv,bj,bj,set_same hr];have e:upd H b (.lst xs)=H:=by
   funext c
   by_cases z:c=b
   ·rw[z,i6,hH]
   ·rw[g9 z]
  rw[e];exact S
 |zs,d::es,U,H,ds,xs,S,hd,hi,hr,hH,hl=>by
  obtain⟨v,r,rfl,h1,h2⟩:=hd.cons_inv;have kZ:imm d=p4/\g8 es=p4:=by simpa only [g8,ao]using hi
  have pd:Pend K ([]++[.own .i]) ([]++[d]) ([]++[cz v]) M U Y H P F:=by
   refine⟨rfl,rfl,?_⟩;obtain⟨G,g1,g2,g3⟩:=S.all;have sl:SlotR K H F (.own .i) (cz v) d []:=⟨v,rfl,by simp only[Own];exact⟨trivial,kZ.1,h1⟩⟩;exact⟨⟨[]++G,k9 sl g1,by simpa using g2,λa ha=>g3 a (by simpa using ha)⟩,S.lst,S.prot⟩
  have xJ:dAt (.l .i) (U.getD i .none) []=cz (.l .i,.list ds):=by rw[y9 hr];rfl
  obtain⟨b',lC,e1,e2,e3,S2,_⟩:=pd.put (p:=[]) (w:=.ref b) hm hs xJ rfl;cases e1
  rw[hH]at e2;cases e2
  have mB:i<U.length:=(aQ.mp hr).1;have S3:StR K M (U.set i (.list (ds++[d]))) Y (upd H b (.lst (xs++[v]))) P F:=S2;have hc:Same (cut H F) (cut (upd H b (.lst (xs++[v]))) F):=λc o hc=>by
   obtain⟨q1,q2⟩:=o7 hc;have ne:c≠b:=λz=>q1 (by rw[z];exact hb)
   exact j7 q1 (by rw[g9 ne];exact q2)
  have ih:=StR.ext hm hs hb r es _ _ (ds++[d]) (xs++[v]) S3 (h2.up hc) kZ.2 (by rw[fZ mB]) i6 (by rw[aN,aN,hl];rfl);rw[uz,a8D,ba,ba]at ih;exact ih
end
def a7M(i:Nat)(f:EvE):EvS:=λU=>(f U).bind λd=>match d,U.getD i .none with
 |.list es,.list ds=>if g8 es&&decide (ds.length+es.length<=1000000) then cz (.nx (U.set i (.list (ds++es)))) else el
 |_,_=>el
section
variable {X:Cx}{u w:Ty}{ML M:List Md}{e:Expr}{f:EvE}{pos apos cf:eO}{x:bI}{px:eO}
def b7U(i:Nat)(he:PX X M e f (.new (.l .i)))(hm:M[i]?=cz (.own (.l .i)):=by rfl)(hN:X.N[i]?=cz x:=by rfl)(hv:Vis X.env.scope x:=by first|exact dC rfl|exact ix (dC rfl)|exact ix (ix rfl))(hd:(x==("__debug__":bI))=rp:=by decide)
  (mZ:(x==("__classdict__":bI))=rp:=by decide)
  (dS:cK (.Name x px) "extend" X.env (cg (.Name x px) X.env)=cg (.Name x px) X.env:=by rfl)
  (jG:((cj cf (ax [e] X.env)).all (λx=>!x.1)&&(kq cf (gU [] X.env)).all (λx=>x.1.isSome)
   && decide ([e].length+([]:List fV).length+(if ([]:List fV).isEmpty then 0 else 1)<30))=p4:=by rfl)
  (dR:(apos.endLine==cf.line)=p4:=by rfl) (hs:ax [e] X.env=(rp,cg e X.env)::ax [] X.env:=by rfl) (fP:(cj cf (ax [] X.env)).any (·.1)=rp:=by rfl)
  (oq:eU (.Call (.Attribute (.Name x px) "extend" apos) [e] [] cf) el pos.line X.env=pure rp:=by rfl) :
  PSX X w ML M (.Expr (.Call (.Attribute (.Name x px) "extend" apos) [e] [] cf) pos) (a7M i f) M:=by
 obtain⟨te,pe,qe⟩:=he.out;refine .mk ⟨_,X8 (a8I eB PySem.F.slot_list_extend PySem.F.type_list_extend a9L (C6 hN hv hd mZ) (m5 pe q9 hs) dS jG dR hs fP) oq,λD U Y H P F o S hg k=>?_⟩;obtain⟨d,h3,g3⟩:=bnd hg;obtain⟨v0,f0,e0,o0,yi⟩:=S.toE.get hm;cases d with
 |list es=>
  cases hr:U.getD i iM with
  |list ds=>
   rw[hr]at g3 o0;have rf:(if g8 es&&decide (ds.length+es.length<=1000000) then cz (Out.nx (U.set i (.list (ds++es)))) else el)=cz o:=g3;by_cases c:(g8 es&&decide (ds.length+es.length<=1000000))=p4
   ·rw[aH c]at rf;cases rf
    rw[ao]at c;have c2:=aP c.2;simp only[Own]at o0;rcases o0 with⟨_,hi,_⟩|⟨b,xs,iB,fs,rfl,hH,lD,rfl,hL⟩
    ·simp only[imm]at hi;cases hi
    cases lD
    have rd:b∈F:=yi b ak;refine⟨.ref b,e0,.inl ⟨rfl,xs,SqL.of hH⟩,qe U Y H P F _ _ S.toE h3 λv1 H1 e1 ⟨fp,o1,nd,fr⟩=>?_⟩;have S1:=S.more e1 fr (o1.lst _);simp only[Own]at o1;rcases o1 with⟨_,hi,_⟩|⟨b1,zs,eJ,zZ,rfl,Fu,uR,rfl,xQ⟩
    ·simp only[imm]at hi;cases hi
    cases uR
    have oB:DenAll X.K (cut H1 (b1::zZ++F)) zs es:=ListAll.den (R:=λv d f=>Own X.K H1 (b1::zZ++F) .i v d f) (λv d f q=>(R5 q).2.2) xQ;have DI:U[i]?=cz (.list ds):=by
     rw[aT]at hr;cases q:U[i]? with
     |none=>rw[q]at hr;cases hr
     |some x=>rw[q]at hr;exact dJ cz hr
    have lz:zs.length=es.length:=xQ.length;have lx:xs.length=ds.length:=hL.length;have hz:aU=16777216:=cO;refine⟨b,b1,xs,zs,rfl,rfl,e1 _ _ hH,Fu,by lia,?_⟩;exact k Y _ _ (StR.ext hm e0 (au _ rd) zs es U H1 ds xs S1 oB c.1 DI (e1 _ _ hH) lx)
   ·rw[aM c]at rf;cases rf
  |_=>rw[hr]at g3;cases g3
 |_=>cases g3
end
section
variable {X:Cx}{pins:List (aw×fN)}{Y:L2.St}{H:Hp}{s:av}{A:bE}{E:aj->av->Prop}{a:aw}{es fs:List (D×V×V)}{k:D}{kv v:V}{key val:aj}{kt:Bool}{F:List aw}
theorem a1R:∀{l:List α} {m:List β},e_ R l m->∀{i:Nat} {x:α},l[i]?=cz x->∃y,m[i]?=cz y/\R x y
 |_,_,.nil,i,x,h=>by simp at h
 |_,_,.cons r t,0,x,h=>by
  cases h
  exact⟨_,rfl,r⟩
 |_,_,.cons r t,i+1,x,h=>by
  obtain⟨y,h1,h2⟩:=a1R t (i:=i) (x:=x) (by simpa using h);exact⟨y,by simpa using h1,h2⟩
def a6h(I:Inv X pins Y H s)(hu:A.units+10<cV)(h:H a=cz (e6 a es))(K:KeysAt X H kt es k kv)(rk:RelV kv key)(rv:RelV v val)(hl:es.length<aU)(ox:∀e∈es,e.1≠k) 
  (hQ:∀h',Inv X pins Y (upd H a (e6 a (es++[(k,kv,v)]))) {s with heap:=h'}->cF a s.heap h'->Q () {s with heap:=h'}):aE (a_ X.prog X.w) A (lg a key (hashD k) val) Q E s:=by
 obtain⟨hs,_,hn,o,ents,ep,h1,h2,h3,h4⟩:=p5 I h;have hsz:ents.size<=aU:=by
  have:=cR h4;have e2:ents.toList.length=ents.size:=by simp
  lia
 have hf:u7 es k=rp:=by
  unfold u7;rw[cC];exact λe he hq=>ox e he ((K.eqv he).mp hq)
 unfold lg
 try with_reducible refine bO ?_
 refine ab (Y6 I hu h1 h3 h4 hn K.keys K.key K.den rk ?_ ?_)
 ·intro _;exact ab (dW (ng (hz:=hsz) h1 h3 (hQ _ (a1t (t':=s.toks) I h K rk rv hl hf h1 h2 h3 h4) (bS ..))))
 ·intro j e he fJ;exact absurd fJ (ox e (bp he))
def b2o(I:Inv X pins Y H s)(hu:A.units+10<cV)(hd:H d=cz (e6 d es))(ho:H o=cz (e6 o fs))(sS:d≠o)(gK:es≠[])(zG:d∈F)
  (hk:∀e∈es++fs,keyOk kt e.1/\Den X.K (cut H F) e.2.1 e.1) (iF:((es++fs).map (·.1)).Nodup) (hsz:es.length+fs.length<=aU) (hQ:∀s',Inv X pins Y (upd H d (e6 d (es++fs))) s'->Q () s') :
  aE (a_ X.prog X.w) A (jf nm d o) Q E s:=by
 obtain⟨GU,_,hn,od,rX,He,DS,mZ,wx,DL⟩:=p5 I hd;obtain⟨DT,_,ox,oo,mH,Hd,xA,GV,qD,AZ⟩:=p5 I ho;unfold jf;rw[aM (by simpa using sS)];unfold ju;rw[aM (by rw[DT];exact aW)];refine ab (ae ?_);refine ab (cD xA qD ?_);have hlen:fs.length=mH.size:=by rw[cR AZ];simp
 have AQ:∀o',Same (cut H F) (cut (upd H d o') F):=λo' c u hc=>by
  obtain⟨q1,q2⟩:=o7 hc;have ne:c≠d:=λz=>q1 (by rw[z];exact zG)
  exact j7 q1 (by rw[g9 ne];exact q2)
 have loop:aE (a_ X.prog X.w) A (do
   let wO <-dictEpoch o
   let l <-dictEntries o
   forIn [:l.size] kN λi (_:PUnit)=>(do
     let l' <-dictEntries o
     match l'[i]? with
      |some e=>do
       nW [e.key,e.val] (lg d e.key e.hash e.val)
       let rg <-dictEpoch o
       if (rg !=wO)=p4 then do
         (sC (toString nm++toString ":source-changed-during-callback"):Sem PUnit)
         pure (dU kN)
        else pure (dU kN)
      |_=>do
       (sC "internal:dict-merge":Sem PUnit)
       pure (dU kN):Sem (ForInStep PUnit))
   pure ()) Q E s:=by
  refine ab (jS xA qD ?_);refine ab (cD xA qD ?_);refine ab ?_;rw[Std.Legacy.Range.forIn_eq_forIn_range'];simp only[Std.Legacy.Range.size,Nat.sub_zero,Nat.add_sub_cancel,Nat.div_one];have start:Inv X pins Y (upd H d (e6 d (es++fs.take 0))) s:=by
   have e:upd H d (e6 d (es++fs.take 0))=H:=by
    funext c
    by_cases z:c=d
    ·rw[z,i6,hd];simp
    ·rw[g9 z]
   rw[e];exact I
  refine wpAny_forIn_list _
   (λrest _ s'=>∃i,rest=List.range' i (mH.size-i)/\i<=mH.size/\Inv X pins Y (upd H d (e6 d (es++fs.take i))) s'/\s'.heap.get? o=cz oo)
   _ ?_ ?_ _ _ ⟨0,by simp,b_ _,start,xA⟩
  ·rintro x rest b s' ⟨i,hr,hi,I',tS⟩;have gS:i<mH.size:=by
    rcases gH i mH.size with h|h
    ·exact h
    ·rw[Nat.sub_eq_zero_of_le h]at hr;simp at hr
   obtain⟨rfl,iZ⟩:x=i/\rest=List.range' (i+1) (mH.size-(i+1)):=by
    have e:mH.size-i=(mH.size-(i+1))+1:=by lia
    rw[e,Gi]at hr
    injection hr with h1 h2
    exact⟨h1,h2⟩
   refine ab (cD tS qD ?_);rw[bJ gS];obtain⟨f,hf⟩:∃f,fs[x]?=cz f:=⟨fs[x]'(by rw[hlen];exact gS),ar _⟩;obtain⟨y,hy,hh,rk,rv⟩:=a1R AZ hf;have yE:mH[x]=y:=by
    have:mH.toList[x]?=cz mH[x]:=by simp[gS]
    rw[hy]at this;exact (aL this).symm
   show aE _ _ (nW [mH[x].key,mH[x].val] (lg d mH[x].key mH[x].hash mH[x].val) >>= _) _ _ _;rw[yE,hh];have lI:es++fs=(es++fs.take x)++f::fs.drop (x+1):=by
    have e1:fs=fs.take x++f::fs.drop (x+1):=by
     have qV:=(aQ.mp hf);obtain⟨uM,vI⟩:=qV;rw[<-vI,<-fB uM,List.take_append_drop]
    rw[ba,<-e1]
   have KK:KeysAt X (upd H d (e6 d (es++fs.take x))) kt (es++fs.take x) f.1 f.2.1:=
    ⟨λe he=>⟨(hk e (by rw[lI];exact aC _ he)).1,((hk e (by rw[lI];exact aC _ he)).2.up (AQ _)).up i7⟩,
     (hk f (by rw[lI];simp)).1,((hk f (by rw[lI];simp)).2.up (AQ _)).up i7⟩
   have rO:∀e∈es++fs.take x,e.1≠f.1:=λe he z=>by
    rw[lI,aO,aA,aZ]at iF;exact iF.2.2 e.1 (bt he) f.1 ak z
   have Bf:(es++fs.take x).length<aU:=by
    rw[aN,ef];lia
   refine ab (bO (a6h (v:=f.2.2) I' hu i6 KK rk rv Bf rO λFC Ce sb=>?_));have sN:FC.get? o=cz oo:=(sb.2 o (dP sS)).trans tS;refine ab (jS sN qD ?_);rw[aM (by simp)];refine ae ⟨x+1,iZ,gS,?_,sN⟩;rw[a8D,ba]at Ce;have e2:fs.take (x+1)=fs.take x++[(f.1,f.2.1,f.2.2)]:=by rw[List.take_add_one,hf];rfl
   rw[e2];exact Ce
  ·rintro b s' ⟨i,hr,hi,I',tS⟩;have jy:i=mH.size:=by
    rcases gH i mH.size with h|h
    ·have e:mH.size-i=(mH.size-(i+1))+1:=by lia
     rw[e,Gi]at hr;exact nomatch hr
    ·exact Hq hi h
   rw[jy,<-hlen,kA]at I';exact ae (hQ s' I')
 dsimp only
 split
 ·refine ab (cD DS wx ?_)
  split
  ·rename_i zD
   have h0:rX=#[]:=Array.isEmpty_iff.mp zD;have:=cR DL;rw[h0]at this;exact absurd (eD.mp (by simpa using this)) gK
  ·exact loop
 ·exact loop
def b0r(hu:A.units+12<cV)(I:Inv X pins Y H s)(hd:H d=cz (e6 d es))(ho:H o=cz (e6 o fs))(sS:d≠o)(gK:es≠[])(zG:d∈F)
  (hk:∀e∈es++fs,keyOk kt e.1/\Den X.K (cut H F) e.2.1 e.1) (iF:((es++fs).map (·.1)).Nodup) (hsz:es.length+fs.length<=aU) (hQ:∀s',Inv X pins Y (upd H d (e6 d (es++fs))) s'->Q .none s') :
  aE (a_ X.prog X.w) A (call (.builtin "dict.update") [.ref d,.ref o]) Q E s:=by
 have hT:=k7 I hd;have uu:=k7 I ho;refine bD sg hT PySem.F.entry_dict_update ?_ (PySem.F.args_dict_update_2 _ _);unfold Builtin.«dict.update»;refine ab ?_;unfold lA;refine ab (fI hT ?_);show aE _ _ (pure (d,[bb o])) _ _ s;refine ae ?_;show aE _ _ (eY "dict.update" d (.ref o) [] .none) _ _ s;unfold eY;refine ab (ib uu ?_);rw[aM (by decide)];refine ab ?_;unfold Builtin.Dict.merge;refine ab ?_;unfold ya;refine ab (fA uu isSubtype_dict_dict ?_);simp only[iX,cN,fO];refine ab (dA uu PySem.F.slot_dict_iter.lookup (ae ?_));simp only[fR,gF];refine ab (ae ?_);refine b2o (A:=A.in1) I (by show A.units+1+10<cV;lia) hd ho sS gK zG hk iF hsz λs' I'=>?_
 show aE _ _ (An d [] >>= _) _ _ _;exact ab (ae (ae ⟨.none,rfl,hQ s' I'⟩))
end
section
variable {K:af}{M:List Md}{U:List D}{Y:L2.St}{H P:Hp}{F:List aw}{i j:Nat}{kt:Bool}{u:Ty}
def StR.update(nY:i≠j)(h:StR K M U Y H P F)(hi:M[i]?=cz (.own (.d kt u)))(hj:M[j]?=cz (.own (.d kt u))) :
  ∃F' a b es fs ds eJ,Y[i]?=cz (cz (.ref a))/\Y[j]?=cz (cz (.ref b))/\a≠b/\U[i]?=cz (.dict ((es.map (·.1)).zip ds))/\U[j]?=cz (.dict ((fs.map (·.1)).zip eJ))/\H a=cz (e6 a es)/\H b=cz (e6 b fs)/\a∈F'/\
   (∀e∈es++fs,keyOk kt e.1/\Den K (cut H F') e.2.1 e.1)/\ds.length=es.length/\eJ.length=fs.length/\(es.map (·.1)).Nodup/\(fs.map (·.1)).Nodup/\
   (((es++fs).map (·.1)).Nodup->StR K (M.set j (.keys kt)) (U.set i (.dict (((es++fs).map (·.1)).zip (ds++eJ)))) Y (upd H a (e6 a (es++fs))) P F'):=by
 obtain⟨G,h1,h2,h3⟩:=h.all;obtain⟨dj,oj,fj,pZ,nq,BP,BO,⟨vj,rfl,Oj⟩,Ac,FL⟩:=h1.at_ hj;obtain⟨b,fs,eJ,gs,rfl,xR,rfl,rfl,xD,Fq,vY,y_⟩:=Oj.dict;rw[Ac]at h2;have jx:∀x∈F.filter (λx=>decide (x≠b)),x∈F:=λx hx=>(bu.mp hx).1
 have rd:b∉F.filter (λx=>decide (x≠b)):=λhx=>absurd rfl (aP (bu.mp hx).2)
 have hc:Same (cut H F) (cut H (F.filter (λx=>decide (x≠b)))):=E7 jx;have vn:SlotR K H (F.filter (λx=>decide (x≠b))) (.keys kt) (cz (.ref b)) (.dict ((fs.map (·.1)).zip eJ)) []:=
  ⟨rfl,b,fs,_,rfl,rfl,j7 rd xR,(Gm (by rw[ah,vY];exact aD _)).symm,λe he=>⟨(xD e he).1,(xD e he).2.up hc⟩⟩
 have q1:=FL H _ (.keys kt) _ (cz (.ref b)) [] (λ_ _=>rfl) hc vn;rw[set_same BP,set_same BO]at q1;have uO:(M.set j (.keys kt))[i]?=cz (.own (.d kt u)):=by rw[gC (dP nY)];exact hi
 obtain⟨di,oi,f1,oX,mx,FP,BR,⟨vi,rfl,Oi⟩,FO,FN⟩:=q1.at_ uO;obtain⟨a,es,ds,fi,rfl,xS,rfl,rfl,xE,Fs,rP,za⟩:=Oi.dict;have ux:pZ++nq=oX++((a::fi)++mx):=by simpa using FO
 have apart:=a1n h2;have jF:∀x∈pZ++nq,x∈F:=λx hx=>h3 x (by rw[Ac];exact mem_mid hx)
 have ur:a∈pZ++nq:=by rw[ux];simp
 have pO:a≠b:=λz=>apart b ak (by rw[<-z];exact ur)
 have uL:∀x∈F,x≠b->x∈F.filter (λx=>decide (x≠b)):=λx hx hb=>bu.mpr ⟨hx,aI hb⟩
 have m_:a∈F.filter (λx=>decide (x≠b)):=uL a (jF a ur) pO;have nX:∀e∈es++fs,keyOk kt e.1/\Den K (cut H (F.filter (λx=>decide (x≠b)))) e.2.1 e.1:=λe he=>by
  rcases ay.mp he with z|z
  ·exact xE e z
  ·exact⟨(xD e z).1,(xD e z).2.up hc⟩
 refine⟨_,a,b,es,fs,ds,eJ,BR,BO,pO,FP,BP,xS,xR,m_,nX,rP,vY,za,y_,λiF=>?_⟩;have mE:Same (cut H (F.filter (λx=>decide (x≠b)))) (cut (upd H a (e6 a (es++fs))) (F.filter (λx=>decide (x≠b)))):=λc o' xK=>by
  obtain⟨r1,r2⟩:=o7 xK;have ne:c≠a:=λz=>r1 (by rw[z];exact m_)
  exact j7 r1 (by rw[g9 ne];exact r2)
 have vU:(oX++((a::fi)++mx)).Nodup:=by rw[<-ux];exact N2 h2
 have wC:a∉fi++mx:=by
  have:=(aZ.mp vU).2.1;rw[br,bz]at this;exact this.1
 have wB:a∉oX:=λz=>(aZ.mp vU).2.2 a z a (by simp) rfl
 have zM:a∉gs:=λz=>apart a (aq _ z) ur
 have own:Own K (upd H a (e6 a (es++fs))) (F.filter (λx=>decide (x≠b))) (.d kt u) (.ref a) (.dict (((es++fs).map (·.1)).zip (ds++eJ))) (a::(fi++gs)):=by
  simp only[Own];refine⟨a,es++fs,ds++eJ,fi++gs,rfl,i6,rfl,rfl,⟨iF,λe he=>⟨(nX e he).1,(nX e he).2.up mE⟩⟩,?_⟩;rw[aO];refine ListAll.append (Fs.imp λv d f hf _ q=>q.frame mE u λx hx=>?_) (Fq.imp λv d f hf _ q=>q.frame (hc.trans mE) u λx hx=>?_)
  ·exact g9 λz=>wC (aC _ (by rw[<-z];exact hf x hx))
  ·exact g9 λz=>zM (by rw[<-z];exact hf x hx)
 have q2:=FN _ _ (.own (.d kt u)) _ (cz (.ref a)) (a::(fi++gs)) (λx hx=>g9 λz=>by
  rcases ay.mp hx with y|y
  ·exact wB (by rw[<-z];exact y)
  ·exact wC (au _ (by rw[<-z];exact y))) mE ⟨_,rfl,own⟩
 rw[set_same uO,set_same BR]at q2;have wg:gs.Nodup:=by
  have:=(aZ.mp h2).2.1;rw[br,bz]at this;exact (aZ.mp this.2).1
 have eG:oX++((a::(fi++gs))++mx)=(oX++(a::fi))++(gs++mx):=by simp
 have eP:pZ++nq=(oX++(a::fi))++mx:=by rw[ux];simp
 refine⟨⟨_,q2,?_,λx hx=>?_⟩,λx hx=>?_,h.prot.trans (hc.trans mE)⟩
 ·rw[eG];exact Y2 (by rw[<-eP];exact N2 h2) wg λx hx z=>apart x (aq _ hx) (by rw[eP];exact z)
 ·rw[eG]at hx;rcases a2h hx with z|z
  ·have jW:x≠b:=λy=>by
    have:=(aZ.mp h2).2.1;rw[br,bz]at this;exact this.1 (aC _ (by rw[<-y];exact z))
   exact uL x (h3 x (by rw[Ac];exact au _ (aC _ (aq _ z)))) jW
  ·have tJ:x∈pZ++nq:=by rw[eP];exact z
   exact uL x (jF x tJ) λy=>apart b ak (by rw[<-y];exact tJ)
 ·by_cases z:x=a
  ·rw[z];exact⟨⟨e6 a (es++fs),trivial⟩,i6⟩
  ·rw[g9 z];exact h.lst x (jx x hx)
end
def b0s(i j:Nat):EvS:=λU=>match U.getD i .none,U.getD j .none with
 |.dict kvs,.dict more=>if !kvs.isEmpty&&(more.all λp=>!w9 kvs p.1)&&decide (kvs.length+more.length<=1000000) then cz (.nx (U.set i (.dict (kvs++more)))) else el
 |_,_=>el
section
variable {X:Cx}{w u:Ty}{ML M:List Md}{kt:Bool}{pos apos cf px py:eO}{x y:bI}
def c1E(X:Cx):V->List V->Hp->VK->Prop:=λz xs H Q=>∃p q es fs kt F,z=.ref p/\xs=[.ref q]/\H p=cz (e6 p es)/\H q=cz (e6 q fs)/\p≠q/\es≠[]/\p∈F/\(∀e∈es++fs,keyOk kt e.1/\Den X.K (cut H F) e.2.1 e.1)/\((es++fs).map (·.1)).Nodup/\es.length+fs.length<=aU/\Q .non (upd H p (e6 p (es++fs)))
def b7V(hu:X.A.units+164<cV):MtR X "dict.update" (c1E X):=by
 intro pins s Y H z xs v us Q I rx rv h;obtain⟨p,q,es,fs,kt,F,rfl,rfl,hp,hq,yR,gK,xy,hk,iF,hsz,qq⟩:=h;cases (show v=bb p from rx)
 obtain⟨w,rfl,rw⟩:=rv.one;cases (show w=bb q from rw)
 exact b0r (by lia) I hp hq yR gK xy hk iF hsz λs' I'=>⟨.non,_,I',rfl,qq⟩
def b0t(i j:Nat)(nY:i≠j)(hu:X.A.units+164<cV)(hi:M[i]?=cz (.own (.d kt u)):=by rfl)(hj:M[j]?=cz (.own (.d kt u)):=by rfl)(Fo:X.N[i]?=cz x:=by rfl)(Fn:X.N[j]?=cz y:=by rfl)
  (Dz:Vis X.env.scope x:=by first|exact dC rfl|exact ix (dC rfl)|exact ix (ix rfl)) (Dy:Vis X.env.scope y:=by first|exact dC rfl|exact ix (dC rfl)|exact ix (ix rfl))
  (qE:(x==("__debug__":bI))=rp:=by decide) (EO:(x==("__classdict__":bI))=rp:=by decide) (EJ:(y==("__debug__":bI))=rp:=by decide) (EN:(y==("__classdict__":bI))=rp:=by decide)
  (dS:cK (.Name x px) "update" X.env (cg (.Name x px) X.env)=cg (.Name x px) X.env:=by rfl)
  (jG:((cj cf (ax [.Name y py] X.env)).all (λx=>!x.1)&&(kq cf (gU [] X.env)).all (λx=>x.1.isSome)
   && decide (([.Name y py]:List Expr).length+([]:List fV).length+(if ([]:List fV).isEmpty then 0 else 1)<30))=p4:=by rfl)
  (dR:(apos.endLine==cf.line)=p4:=by rfl) (hs:ax [.Name y py] X.env=(rp,cg (.Name y py) X.env)::ax [] X.env:=by rfl) (fP:(cj cf (ax [] X.env)).any (·.1)=rp:=by rfl)
  (oq:eU (.Call (.Attribute (.Name x px) "update" apos) [.Name y py] [] cf) el pos.line X.env=pure rp:=by rfl) :
  PSX X w ML M (.Expr (.Call (.Attribute (.Name x px) "update" apos) [.Name y py] [] cf) pos) (b0s i j) (M.set j (.keys kt)):=by
 refine .mk ⟨_,X8 (a7G sg PySem.F.type_dict_update (b7V hu) (C6 Fo Dz qE EO) (m5 (C6 Fn Dy EJ EN) q9 hs) dS jG dR hs fP) oq,λD U Y H P F o S hg k=>?_⟩;obtain⟨F',a,b,es,fs,ds,eJ,s1,s2,pO,r1,r2,xS,xR,m_,nX,rP,vY,za,y_,S'⟩:=S.update nY hi hj;unfold b0s at hg;rw[y9 r1,y9 r2]at hg;have nv:(if !((es.map (·.1)).zip ds).isEmpty&&(((fs.map (·.1)).zip eJ).all λp=>!w9 ((es.map (·.1)).zip ds) p.1)&&decide (((es.map (·.1)).zip ds).length+((fs.map (·.1)).zip eJ).length<=1000000) then cz (Out.nx (U.set i (.dict ((es.map (·.1)).zip ds++(fs.map (·.1)).zip eJ)))) else el)=cz o:=hg
 split at nv
 ·next c=>
  cases nv
  rw[ao,ao]at c;obtain⟨⟨c1,c2⟩,c3⟩:=c;have l1:((es.map (·.1)).zip ds).length=es.length:=by rw[dG,ah,rP,kO]
  have l2:((fs.map (·.1)).zip eJ).length=fs.length:=by rw[dG,ah,vY,kO]
  have Gc:=aP c3;rw[l1,l2]at Gc;have gK:es≠[]:=λz=>by rw[z]at c1;simp at c1
  have iF:((es++fs).map (·.1)).Nodup:=by
   rw[aO,aZ];refine⟨za,y_,λp hp q hq z=>?_⟩;obtain⟨e,he,rfl⟩:=aX.mp hp;obtain⟨f,hf,rfl⟩:=aX.mp hq;obtain⟨n,hn⟩:=bF.mp hf;have gS:n<eJ.length:=by rw[vY];exact (aQ.mp hn).1
   have hm:(f.1,eJ[n])∈(fs.map (·.1)).zip eJ:=by
    refine bF.mpr ⟨n,?_⟩;rw[gM];exact⟨by rw[bc,hn];rfl,ar gS⟩
   have ox:=aY.mp c2 _ hm;have rN:w9 ((es.map (·.1)).zip ds) f.1=rp:=by simpa using ox
   rw[x8 rP]at rN;unfold u7 at rN;rw[cC]at rN;refine rN e he ?_;exact (C8 e.1 f.1 (nX e (aC _ he)).1.1 (nX f (au _ hf)).1.1).mpr z
  have hz:aU=16777216:=cO;refine⟨.ref a,s1,⟨a,es,rfl,xS⟩,.ref b,s2,⟨a,b,es,fs,kt,F',rfl,rfl,xS,xR,pO,gK,m_,nX,iF,by lia,?_⟩⟩;have S2:=S' iF;rw[aO,pH (by rw[ah];exact rP.symm)]at S2;exact k Y _ F' S2
 ·cases nv
end
def StE.getKeys(h:StE K M U Y H P F)(hm:M[j]?=cz (.keys kt)) :
  ∃a es kvs,Y[j]?=cz (cz (.ref a))/\U.getD j .none=.dict kvs/\H a=cz (e6 a es)/\es.map (·.1)=kvs.map (·.1)/\∀e∈es,keyOk kt e.1/\Den K H e.2.1 e.1:=by
 obtain⟨G,h1,h3⟩:=h.all;obtain⟨d,o,f,pre,post,e1,e2,⟨_,a,es,kvs,rfl,rfl,z1,z2,z3⟩,e4,_⟩:=h1.at_ hm;exact⟨a,es,kvs,e2,y9 e1,i7 _ _ z1,z2,λe he=>⟨(z3 e he).1,(z3 e he).2.up i7⟩⟩
section
variable {X:Cx}{M:List Md}{a:Expr}{fa:EvE}{ca:Cat}{kt:Bool}{pos py:eO}{y:bI}
def b4U(j:Nat)(ho:OpR X (bW op) (a3O X neg))(ha:PX X M a fa ca)(hj:M[j]?=cz (.keys kt):=by rfl)(hN:X.N[j]?=cz y:=by rfl)(hv:autoParam (NmV X y) ZY._auto_1)(hm:autoParam (eE op (.Name y py)=rp) ZX._auto_1):PTX X M (.Compare a [op] [.Name y py] pos) (tB (e2 (dIn neg kt) fa (b7 j))):=by
 obtain⟨ta,pa,qa⟩:=ha.out;refine .mk ⟨_,a0C ho pa (C6 hN hv.1 hv.2.1 hv.2.2) hm,λU Y H P F k Q S hf q=>?_⟩;obtain⟨d,hf,zp⟩:=bnd hf;cases N8 zp
 obtain⟨x,z,h1,h2,h3⟩:=A7 hf;cases h2
 refine qa U Y H P F x _ S h1 λv H1 e1 r1=>?_
 obtain⟨p,es,kvs,s1,hr,hH,hk,nX⟩:=(S.grow e1).getKeys hj;rw[hr]at h3;obtain⟨Dg,e3,En,e4⟩:=a6c h3;cases e3
 refine⟨.ref p,s1,p,es,kt,x,rfl,hH,⟨nX,x6 En,r1.den⟩,?_⟩;rw[<-Z0 hk];cases e4
 exact⟨_,rfl,q H1 e1⟩
end
def a6i(neg:Bool):D->D->Option D
 |y,.list ds=>if aS ds&&y.canLay0&&decide (y.depth<=150) then cz (.bool (neg !=ds.any λd=>aB d y)) else el
 |_,_=>el
def b9Y(K:af)(neg:Bool):R2:=λx y H Q=>∃p ys ds d,y=.ref p/\SqX K H p ys/\DenAll K H ys ds/\Den K H x d/\aS ds=p4/\d.canLay0=p4/\d.depth<=150/\Q (.bl (neg !=ds.any λe=>aB e d)) H
def b7W:∀{l:List D} {e:D},aS l=p4->e∈l->e.canLay0=p4:=by
 intro l
 induction l with
 |nil=>intro e _ he;cases he
 |cons x l ih=>
  intro e hl he;simp only[aS,ao]at hl;rcases az.mp he with z|z
  ·rw[z];exact hl.1
  ·exact ih hl.2 z
section
variable {X:Cx}
def b0u{s:av}:∀{ds:List D} {us:List aj} {as:List aw},jc s.heap us ds as->aS ds=p4->us.any (b0i s.heap d)=ds.any λe=>aB e d:=by
 intro ds
 induction ds with
 |nil=>intro us as r _;cases r;rfl
 |cons d0 ds ih=>
  intro us as r hl;simp only[aS,ao]at hl;cases r with
  |cons r1 r2=>rw[ki,ki,ih r2 hl.2,a2l r1 hl.1]
def b7X(hu:X.A.units+164<cV):OpR X (bW .In) (b9Y X.K rp):=by
 intro pins s Y H x y v u Q I rx ry h;obtain⟨p,ys,ds,d,rfl,hp,rS,hd,c1,c2,c3,q⟩:=h;cases (show u=bb p from ry)
 obtain⟨_,cA,n,pY,ho⟩:=hp.ok I;obtain⟨as,ra⟩:=DenAll.reads I ds c1 rS pY;obtain⟨bs,rb⟩:=Den.reads I d c2 hd rx;refine SeqAt.in_listAt (items:=cA.toArray) (b0i s.heap d) ⟨_,ho,rfl,n,rfl⟩ (λu qW=>?_) ⟨.bl _,H,I,rfl,?_⟩
 ·obtain⟨j,hj⟩:=bF.mp (show u∈cA by simpa using qW);obtain⟨e,Af,he,re⟩:=T9 ra hj;have hle:=b7W c1 (bp he);rw[a2l re hle];exact r_ e d X.A.in1 s _ _ _ _ re rb hle c2 (by have:=Gg e.depth d.depth;show X.A.units+1+_<_;lia)
 ·rw[List.any_toArray,b0u ra c1];simpa using q
def b7Y(ho:OpR X f (b9Y X.K neg)):OpS X f (a6i neg):=by
 refine⟨_,ho,λx y H a b d Q ha hb hg q=>?_⟩;cases b with
 |list ds=>
  have nv:(if aS ds&&a.canLay0&&decide (a.depth<=150) then cz (dh (neg !=ds.any λd=>aB d a)) else el)=cz d:=hg;by_cases c:(aS ds&&a.canLay0&&decide (a.depth<=150))=p4
  ·rw[aH c]at nv;cases nv
   rw[ao,ao]at c;obtain⟨p,ys,rfl,k1,k2⟩:=hb.list_inv;exact⟨p,ys,ds,a,rfl,k1,k2,ha,c.1.1,c.1.2,aP c.2,q _ (by simp only[imm]) λ_=>den_bool⟩
  ·rw[aM c]at nv;cases nv
 |_=>cases hg
def b2p(hu:X.A.units+164<cV):OpS X (bW .In) (a6i rp):=b7Y (b7X hu)
end
def frz:Md->Md
 |.own .i=>.own .i
 |.own _=>.own .f
 |m=>m
def b2q(h:SlotR K H F m o d f):SlotR K H [] (frz m) o d []:=by
 have hc:Same (cut H F) (cut H []):=λa x ha=>j7 (by simp) (i7 a x ha)
 have key:∀u:Ty,(∃v,o=cz v/\Own K H F u v d f)->SlotR K H [] (.own .f) o d []:=λu ⟨v,e,q⟩=>⟨v,e,by
  have hd:Den K H v d:=q.den;simp only[Own];exact⟨trivial,hd.up λa x ha=>j7 (by simp) ha⟩⟩
 cases m with
 |dead=>rfl
 |own u=>
  cases u with
  |i=>
   obtain⟨v,e,q⟩:=h;refine⟨v,e,?_⟩;simp only[Own]at q ⊢;exact⟨trivial,q.2.1,q.2.2.up hc⟩
  |f=>exact key _ h
  |l u=>exact key _ h
  |tp us=>exact key _ h
  |d kt u=>exact key _ h
 |exc=>obtain⟨_,h2⟩:=h.frame (H':=H) (F':=[]) hc λ_ _=>rfl;exact⟨rfl,h2⟩
 |keys kt=>obtain⟨_,h2⟩:=h.frame (H':=H) (F':=[]) hc λ_ _=>rfl;exact⟨rfl,h2⟩
 |pin v=>exact⟨rfl,h.2⟩
 |fn Φ=>obtain⟨_,h2⟩:=h.frame (H':=H) (F':=[]) hc λ_ _=>rfl;exact⟨rfl,h2⟩
theorem a4o:∀{M:List Md} {U:List D} {Y:L2.St} {G:List aw},StAll K H F M U Y G->StAll K H [] (M.map frz) U Y []
 |[],_,_,_,h=>by simp only[StAll]at h;obtain⟨rfl,rfl,_⟩:=h;exact N1
 |m::M,_,_,_,h=>by
  simp only[StAll]at h;obtain⟨d,U,o,Y,f,g,rfl,rfl,rfl,h1,h2⟩:=h;exact k9 (f:=[]) (g:=[]) (b2q h1) (a4o h2)
section
variable {X:Cx}{M ML:List Md}{u:Ty}{e:Expr}{f:EvE}{pos:eO}
def StR.free(S:StR K M U Y H P F)(hM:M.map frz=M):StR K M U Y H P []:=by
 obtain⟨G,h1,_,_⟩:=S.all;have:=a4o h1;rw[hM]at this;exact⟨⟨[],this,bw,λa ha=>(nomatch ha)⟩,λa ha=>(nomatch ha),S.prot.trans λa x ha=>j7 (by simp) (i7 a x ha)⟩
end
end VS
namespace PySem
def Heap.RawDict(hp:bU)(d:aw)(rows:Array eX)(ep:Nat):Prop:=∃u,hp.get? d=cz u/\u.ExactDict/\u.data=.dict rows ep
section
variable {prog:bB}{w:bQ}{A:bE}{E:aj->av->Prop}{sh:av}{d it:aw}{rows:Array eX}{ep i:Nat}
def Heap.RawDict.at{h h':bU}(x:h.RawDict d rows ep)(e:∀o,h.get? d=cz o->h'.get? d=cz o):h'.RawDict d rows ep:=let⟨u,hu,r⟩:=x;⟨u,e _ hu,r⟩
def Heap.RawDict.typeIs(x:sh.heap.RawDict d rows ep):sh.TypeIs (.ref d) "dict":=let⟨u,hu,r,_⟩:=x;⟨u,hu,r.1⟩
def a6j(h0:(d==cW)=rp)(hm:sh.heap.RawDict d rows ep)
  (q:Q (.ref sh.heap.objs.size) {sh with heap:=sh.heap.push {cls:=.type "dict_keyiterator",data:=.fields #[.ref d,.int 0 0,.int rows.size 0,.int ep 0]}}) :
  aE (a_ prog w) A (rG (.ref d)) Q E sh:=by
 obtain⟨u,hu,hx,md⟩:=id hm;refine pV hm.typeIs sk (bD sk hm.typeIs F.entry_dict_iter ?_ (F.args_dict_iter_1 _));unfold Builtin.«dict.__iter__»;refine ab ?_;unfold Builtin.Dict.dictSlotNone;refine ab (fI hm.typeIs ?_);show aE _ _ (pure (bb d)) _ _ sh;refine ae ?_;show aE _ _ (ju d >>= _) _ _ sh;unfold ju;rw[aM (by rw[h0];exact aW)];refine ab (ae (ab (cD hu md (ab (jS hu md ?_)))));refine ab (dt (ae ⟨_,rfl,"dict_keyiterator",_,⟨_,aF _ rfl,rfl⟩,ff.lookup,?_⟩));simpa[df]using q
def a6k(hI:sh.heap.IsKeyIter it d i rows.size ep)(hm:sh.heap.RawDict d rows ep)(hi:i<rows.size)
  (q:∀h',h'.IsKeyIter it d (i+1) rows.size ep->cF it sh.heap h'->Q (cz rows[i].key) {sh with heap:=h'}):aE (a_ prog w) A (fW (.ref it)) Q E sh:=by
 obtain⟨x,hx,rK,lX⟩:=id hI;obtain⟨u,hu,_,oK⟩:=id hm;unfold fW;refine ab (gE (bM (name:=cm "__next__") hI.typeIs ff (bD ff hI.typeIs tE ?_ (so _))));refine ab (ae (ab (ab ?_)))
 first|refine ab (gg hI.typeIs (ae ?_))|refine ab (iw hI.typeIs (ae ?_))
 refine ab (iY hx lX ?_);simp only[show uE "dict_keyiterator"=rp from by decide,cN,fO];show aE _ _ (if (bb d==cw)=p4 then _ else _) _ _ sh;rw[aM (show ¬ (bb d==cw)=p4 from aW)];refine ab (ae (ab (cD hu oK ?_)));rw[aM (by simp)];refine ab (ae (ab (jS hu oK ?_)));rw[aM (by simp)];refine ae ?_;simp only[show ¬ (i:Int)<0 from by lia,fO,bG,bJ hi];refine ab ?_
 first|refine ab (gg hI.typeIs (ae ?_))|refine ab (iw hI.typeIs (ae ?_))
 refine ab (Gs hI.typeIs ?_);show aE _ _ (setField (.ref it) 1 (df ((i:Int)+1)) >>= _) _ _ sh;refine ab (eH hx lX (by simp) ?_);have sU:(sh.heap.update it (Ak (·.setIfInBounds 1 (df ((i:Int)+1))))).IsKeyIter it d (i+1) rows.size ep:=
  ⟨_,bV _ hx (mV (gu lX _)),(qT ..).trans rK,by rw[gu lX];simp[df]⟩
 refine ab (bO ?_);refine ab (Gs (s:={sh with heap:=sh.heap.update it (Ak (·.setIfInBounds 1 (df ((i:Int)+1))))}) sU.typeIs ?_);show aE _ _ (pure rows[i].key) _ _ _;exact ae (ae ⟨_,rfl,ae (q _ sU (bS ..))⟩)
def a6l(hh:A.handled=el)(hI:sh.heap.IsKeyIter it d i rows.size ep)(hm:sh.heap.RawDict d rows ep)(hi:rows.size<=i)
  (q:∀h',tD it sh.heap h'->Q el {sh with heap:=h'}):aE (a_ prog w) A (fW (.ref it)) Q E sh:=by
 obtain⟨x,hx,rK,lX⟩:=id hI;obtain⟨u,hu,_,oK⟩:=id hm;unfold fW;refine ab (gE (bM (name:=cm "__next__") hI.typeIs ff (bD ff hI.typeIs tE ?_ (so _))));refine ab (ae (ab (ab ?_)))
 first|refine ab (gg hI.typeIs (ae ?_))|refine ab (iw hI.typeIs (ae ?_))
 refine ab (iY hx lX ?_);simp only[show uE "dict_keyiterator"=rp from by decide,cN,fO];show aE _ _ (if (bb d==cw)=p4 then _ else _) _ _ sh;rw[aM (show ¬ (bb d==cw)=p4 from aW)];refine ab (ae (ab (cD hu oK ?_)));rw[aM (by simp)];refine ab (ae (ab (jS hu oK ?_)));rw[aM (by simp)];refine ae ?_;simp only[show ¬ (i:Int)<0 from by lia,fO,bG,eQ hi];refine ab ?_
 first|refine ab (gg hI.typeIs (ae ?_))|refine ab (iw hI.typeIs (ae ?_))
 show aE _ _ (setField (.ref it) 0 .none >>= _) _ _ sh;refine ab (eH hx lX (by simp) ?_);show aE _ _ (CW (.type "StopIteration") [] >>= _) _ _ _;refine ab ?_;simp only[CW,newTuple];refine ab (dt ?_ (by size_fits));refine ab (m:=ja _ _) (sx (a:=cw) (by first|rfl|(simp only[ja];rfl)) ?_);refine dt ?_ (by size_fits);simp only[raiseNew];refine ab (yf ?_);rw[show A.in1.handled=el from hh];refine ab (ae (wpAny_throw ?_));refine ab (fA (b:=p4) (T:="StopIteration") ⟨_,aF _ rfl,rfl⟩ vA ?_);exact ae (q _ (((bS ..).extBut.push _).push _))
def b0v(hh:A.handled=el)(gK:d≠it):Walks prog w A it [it,d] [it] rows.size (λi v=>∃e,rows[i]?=cz e/\v=e.key) (λi h=>h.IsKeyIter it d i rows.size ep/\h.RawDict d rows ep) where
 sub:=λb hb=>az.mpr (.inl (ai.mp hb))
 frame:=λ_ _ _ st hk=>⟨st.1.at λo e=>hk it ak o e,st.2.at λo e=>hk d (aq _ ak) o e⟩
 item:=λi s Q E hi st q=>a6k st.1 st.2 hi λh' hI hs=>q _ h' s.toks ⟨rows[i],bJ hi,rfl⟩ ⟨hI,st.2.at λo e=>hs.extBut d o gK e⟩ λb o hb e=>hs.extBut b o (λz=>hb (by rw[z];exact ai.mpr rfl)) e
 done:=λs Q E st q=>a6l hh st.1 st.2 (aD _) λh' he=>q h' s.toks λb o hb e=>he b o (λz=>hb (by rw[z];exact ai.mpr rfl)) e
 self:=λ_ _ _ _ st q=>wpAny_pyIter_keyiter st.1 q
def b4V(h0:(d==cW)=rp):W.KdlSrc prog w "dict" d d rows.size (λi v=>∃e,rows[i]?=cz e/\v=e.key) (λh=>h.RawDict d rows ep) where
 type:=λ_ hm=>hm.typeIs
 there:=λh hm=>let⟨_,hu,_⟩:=hm;⟨aK hu,aK hu⟩
 keep:=λ_ _ hm hk=>hm.at λo e=>hk d (.inl rfl) o e
 notList:=by decide
 notTuple:=by decide
 hint:=λ_ _ s _ hm q=>W.kdl_hint_dict (Heap.RawDict.typeIs (sh:=s) hm) q
 iter:=λ_ _ hh hm=>⟨_,_,(λ_ _ q=>a6j h0 hm q),b0v hh (let⟨_,hu,_⟩:=hm;bg (aK hu)),⟨⟨_,aF _ rfl,rfl,rfl⟩,hm.at λ_ e=>ag _ e⟩⟩
end
end PySem
namespace VS
open PySem PySem.Spec L2
open PyProof.Rows (KeyOrd keyKind' keyLt')
section
variable {prog:bB}{w:bQ}{A:bE}{E:aj->av->Prop}{sh:av}{vs:List aj}{κ:ri}{O:KeyOrd}{key:Nat->O.α}
def Kept(h h':bU):Prop:=∀b o,h.get? b=cz o->h'.get? b=cz o
theorem Kept.push(x:Kept h h')(o:fN):Kept h (h'.push o):=λb u e=>ag _ (x b u e)
structure Sortable (prog:bB) (w:bQ) (A:bE) (h0:bU) (ks:List aj) (κ:ri) (O:KeyOrd) (key:Nat->O.α):Prop where
 kind:2<=ks.length->∀(s:av) (E:aj->av->Prop) (Q:ri->av->Prop),Kept h0 s.heap->Q κ s->aE (a_ prog w) A (keyKind' ks.toArray) Q E s
 lt:∀(s:av) (i j:Nat) (C:Bool->av->Prop),Kept h0 s.heap->i<ks.length->j<ks.length->C (O.blt (key i) (key j)) s->aE (a_ prog w) A (keyLt' κ (ks.getD i cw) (ks.getD j cw)) C (λ_ _=>False) s
end
end VS
namespace VS
open PySem PySem.Spec L2
def X3:∀{ns:List Int} {xs:List V},DenAll K H xs (ns.map .int)->xs=ns.map V.int:=by
 intro ns
 induction ns with
 |nil=>intro xs h;exact h.nil_inv
 |cons n ns ih=>
  intro xs h;obtain⟨v,r,rfl,h1,h2⟩:=h.cons_inv;rw[h1.int_inv,ih h2];rfl
section
variable {X:Cx}{pins:List (aw×fN)}{Y:L2.St}{H:Hp}{s:av}
def a3P:∀{l:List α} {p:List Nat},p.Perm (aJ l.length)->(p.map λi=>l.getD i d).Perm l:=by
 intro l p h;refine (h.map _).trans (List.Perm.of_eq ?_);refine nR λi=>?_
 rw[bc];by_cases c:i<l.length
 ·rw[mn c,Hl,ar c,aT,ar c];rfl
 ·rw[dY (by simpa using c),dY (by simpa using c)];rfl
end
section
variable {X:Cx}{M:List Md}{a:Expr}{fa:EvE}{ca:Cat}{pos p:eO}
theorem X4:∀{kvs:List (D×D)} {es:List (D×V×V)},DenKV K H es kvs->DenAll K H (es.map (·.2.1)) (kvs.map (·.1))
 |[],es,h=>by
  simp only[DenKV]at h;subst h;exact denAll_nil
 | (k,d)::r,es,h=>by
  simp only[DenKV]at h;obtain⟨e,q,rfl,h2,h3,h4,h5⟩:=h;exact denAll_cons h3 (X4 h5)
end
end VS
namespace VS
open PySem PySem.Spec L2
section
variable {K:af}{H:Hp}{F:List aw}{kt:Bool}{u:Ty}
def K8(m_:a∈F)(o:HO):Same (cut H F) (cut (upd H a o) F):=λb o' hb=>by
 obtain⟨n1,n2⟩:=o7 hb;exact j7 n1 (by rw[g9 (show b≠a from λz=>n1 (z▸m_))];exact n2)
def b2r(o:Own K H F (.d kt u) (.ref a) (.dict kvs) f)(rR:∀b∈f,b∈F)(iF:(fv++f).Nodup)(hk:keyOk kt k)(wa:Den K (cut H F) kv k)(ov:Own K H F u v d fv) :
  ∃es,H a=cz (e6 a es)/\(∀e∈es,keyOk kt e.1/\Den K (cut H F) e.2.1 e.1)/\es.length=kvs.length/\a∈f/\∃f',Own K (upd H a (e6 a (R8 es k kv v))) F (.d kt u) (.ref a) (.dict (q8 kvs k d)) f'/\∀b,f'.count b<=f.count b+fv.count b:=by
 obtain⟨a',es,ds,fs,ea,r2,r3,rfl,r5,r6,hl,hn⟩:=o.dict;cases ea
 injection r3 with r3
 subst r3;have m_:a∈F:=rR a ak;have eM:∀o,Same (cut H F) (cut (upd H a o) F):=K8 m_;have cnt:fs.count a=0/\fv.count a=0:=by
  have:=cy.mp iF a;simp only[be,fH]at this;exact⟨by lia,by lia⟩
 have kk:∀(l:List aw) (o:HO),l.count a=0->∀b∈l,upd H a o b=H b:=λl o hc b hb=>g9 λz=>by
  subst z;rw[dH]at hc;exact hc hb
 have iP:∀e∈es,aB e.1 k=p4↔e.1=k:=λe he=>C8 e.1 k (r5 e he).1.1 hk.1
 have hlen:es.length=((es.map (·.1)).zip ds).length:=by rw[dG,ah,hl,kO]
 refine⟨es,r2,r5,hlen,ak,?_⟩;have fin:∀(eJ:List (D×V×V)) (iB:List D) (km:List aw),(eJ.map (·.1)).Nodup->(∀e∈eJ,keyOk kt e.1/\Den K (cut H F) e.2.1 e.1)->ListAll (Own K (upd H a (e6 a eJ)) F u) (eJ.map (·.2.2)) iB km->(∀b,km.count b<=fs.count b+fv.count b)->
   ∃f',Own K (upd H a (e6 a eJ)) F (.d kt u) (.ref a) (.dict ((eJ.map (·.1)).zip iB)) f'/\∀b,f'.count b<=(a::fs).count b+fv.count b:=λeJ iB km tY qY ha oD=>by
  refine⟨a::km,?_,λb=>?_⟩
  ·simp only[Own];exact⟨a,eJ,iB,km,rfl,i6,rfl,rfl,⟨tY,λe he=>⟨(qY e he).1,(qY e he).2.up (eM _)⟩⟩,ha⟩
  ·have:=oD b;simp only[dc];lia
 cases hf:u7 es k with
 |false=>
  rw[a2T hf,a4k (by rw[x8 hl];exact hf),<-X2 (kv:=kv) (v:=v) hl];refine fin (es++[(k,kv,v)]) (ds++[d]) (fs++fv) ?_ ?_ ?_ λb=>by rw[be];exact aD _
  ·rw[aO,aZ];refine⟨hn,by simp,λx hx y hy e=>?_⟩;simp only[aA,cY,ai]at hy;subst hy;subst e;obtain⟨e,he,rfl⟩:=aX.mp hx;unfold u7 at hf;rw[cC]at hf;exact hf e he ((iP e he).mpr rfl)
  ·intro e he;rcases ay.mp he with z|z
   ·exact r5 e z
   ·rw[ai.mp z];exact⟨hk,wa⟩
  ·rw[aO];refine (m4 (eM _) r6 (kk _ _ cnt.1)).append ?_;have:=m6 (R:=Own K (upd H a (e6 a (es++[(k,kv,v)]))) F u) (ov.frame (eM _) u (kk _ _ cnt.2)) m8
   rwa[bj]at this
 |true=>
  have hh:=hf;unfold u7 at hf;rw[cI]at hf;obtain⟨e,he,fJ⟩:=hf;have qC:=(iP e he).mp fJ;obtain⟨j,hj⟩:=bF.mp he;have ua:j<ds.length:=by rw[hl];exact (aQ.mp hj).1
  have mR:R8 es k kv v=es.map λe=>if aB e.1 k then (e.1,e.2.1,v) else e:=by unfold R8;rw[hh];rfl
  have nt:q8 ((es.map (·.1)).zip ds) k d=(es.map (·.1)).zip (ds.set j d):=by
   unfold q8;rw[x8 hl,hh];exact P8 (v:=v) hl iP hn hj qC
  have nu:(R8 es k kv v).map (·.1)=es.map (·.1):=by rw[mR];exact a2U
  rw[nt,<-nu];obtain⟨w3,f3,a1,a2,s1,s2,qM,s4⟩:=r6.zip (ar ua);have qg:(R8 es k kv v).map (·.2.2)=(es.map (·.2.2)).set j v:=by
   rw[mR];exact a2W hn iP hj qC
  refine fin (R8 es k kv v) (ds.set j d) (a1++(fv++a2)) (by rw[nu];exact hn) ?_ ?_ λb=>by rw[qM];simp only[be];lia
  ·intro e' k_;rw[mR]at k_;obtain⟨e0,ue,rfl⟩:=aX.mp k_
   split
   ·exact r5 e0 ue
   ·exact r5 e0 ue
  ·rw[qg];have c5:(a1++a2).count a=0:=by have:=cnt.1;rw[qM]at this;simp only[be]at this ⊢;lia
   exact s4 _ F v d fv (kk _ _ c5) (eM _) (ov.frame (eM _) u (kk _ _ cnt.2))
def StR.dval(S:StR K M U Y H P F)(hm:M[i]?=cz (.own (.d kt u)))(hk:keyOk kt k) :
  ∃a0 es ds,Y[i]?=cz (cz (.ref a0))/\H a0=cz (e6 a0 es)/\U.getD i .none=.dict ((es.map (·.1)).zip ds)/\ds.length=es.length/\(∀e∈es,keyOk kt e.1/\Den K (cut H F) e.2.1 e.1)/\(es.map (·.1)).Nodup/\
   ∀e∈es,e.1=k->∃d f,A3 ((es.map (·.1)).zip ds) k=cz d/\Own K H F u e.2.2 d f/\f.Nodup/\(∀b∈f,b∈F)/\
    ∀(H':Hp) (a:aw) (o':MuO) (d':D) (f':List aw),Same H H'->a∈f->Own K (upd H' a o'.1) F u e.2.2 d' f'->(∀b,f'.count b<=f.count b)->StR K M (U.set i (.dict (q8 ((es.map (·.1)).zip ds) k d'))) Y (upd H' a o'.1) P F:=by
 obtain⟨G,h1,h2,h3⟩:=S.all;obtain⟨dd,oo,f,pre,post,q1,q2,⟨v2,rfl,q3⟩,rfl,q5⟩:=h1.at_ hm;obtain⟨a0,es,ds,fs,rfl,r2,r3,rfl,r5,r6,hl,hn⟩:=q3.dict;refine⟨a0,es,ds,q2,r2,by rw[y9 q1];exact r3,hl,r5,hn,λe he fJ=>?_⟩;have iP:∀e∈es,aB e.1 k=p4↔e.1=k:=λe he=>C8 e.1 k (r5 e he).1.1 hk.1
 obtain⟨j,hj⟩:=bF.mp he;have ua:j<ds.length:=by rw[hl];exact (aQ.mp hj).1
 obtain⟨w3,f3,a1,a2,s1,s2,qM,s4⟩:=r6.zip (ar ua);have hw:w3=e.2.2:=by rw[bc,hj]at s1;exact (aL s1).symm
 subst hw;have cnt:∀b,b∈f3->(pre++post).count b=0/\b≠a0/\(a1++a2).count b=0/\f3.count b=1:=λb hb=>by
  have z:=cy.mp h2 b;have z2:=cZ.mpr hb;rw[qM]at z;simp only[be,br,dc]at z ⊢;refine⟨by lia,λe=>?_,by lia,by lia⟩;subst e;simp only[fR,gF]at z;lia
 have rR:∀b∈f3,b∈F:=λb hb=>h3 b (by rw[qM];simp[hb])
 refine⟨ds[j],f3,a0O hl iP hn hj fJ (ar ua),s2,?_,rR,λH' a o' d' f' gr ha o hc=>?_⟩
 ·refine cy.mpr λb=>?_
  by_cases c:b∈f3
  ·rw[(cnt b c).2.2.2];exact aD _
  ·rw[dH.mpr c];exact b_ _
 ·obtain⟨c1,c2,c3,c4⟩:=cnt a ha;have m_:=rR a ha;have eM:Same (cut H F) (cut (upd H' a o'.1) F):=(B2 gr).trans (K8 m_ _);have kk:∀(l:List aw),l.count a=0->(∀b∈l,b∈F)->∀b∈l,upd H' a o'.1 b=H b:=λl hc zk b hb=>by
   rw[g9 λz=>?_]
   ·exact S.toE.keep gr b (zk b hb)
   ·subst z;rw[dH]at hc;exact hc hb
  have nt:q8 ((es.map (·.1)).zip ds) k d'=(es.map (·.1)).zip (ds.set j d'):=by
   unfold q8;rw[x8 hl,show u7 es k=p4 from cI.mpr ⟨e,he,(iP e he).mpr fJ⟩];exact P8 (v:=V.non) hl iP hn hj fJ
  have tN:(es.map (·.2.2)).set j e.2.2=es.map (·.2.2):=set_same (by rw[bc,hj];rfl);have o1:Own K (upd H' a o'.1) F (.d kt u) (.ref a0) (.dict ((es.map (·.1)).zip (ds.set j d'))) (a0::(a1++(f'++a2))):=by
   simp only[Own];refine⟨a0,es,ds.set j d',_,rfl,by rw[g9 (dP c2)];exact gr _ _ r2,rfl,rfl,⟨hn,λe he=>⟨(r5 e he).1,(r5 e he).2.up eM⟩⟩,?_⟩;have:=s4 (upd H' a o'.1) F e.2.2 d' f' (kk _ c3 λb hb=>h3 b (by rw[qM];rcases ay.mp hb with z|z<;>simp[z])) eM o;rw[tN]at this;exact this
  have q:=q5 (upd H' a o'.1) F (.own (.d kt u)) (.dict ((es.map (·.1)).zip (ds.set j d'))) (cz (.ref a0)) _ (kk _ c1 λb hb=>h3 b (mem_mid hb)) eM ⟨_,rfl,o1⟩;rw[set_same (l:=Y) q2,set_same (l:=M) hm]at q;rw[nt];refine⟨⟨_,q,O3 h2 λb=>?_,λb hb=>?_⟩,λb hb=>?_,S.prot.trans eM⟩
  ·have:=hc b;rw[qM];simp only[be,br,dc];lia
  ·have hp:0<(pre++(a0::fs++post)).count b:=by
    have h0:=cZ.mpr hb;have:=hc b;rw[qM];simp only[be,br,dc]at h0 ⊢;lia
   exact h3 b (cZ.mp hp)
  ·by_cases e:b=a
   ·subst e;exact⟨o',i6⟩
   ·obtain⟨ys,y⟩:=S.lst b hb;exact⟨ys,by rw[g9 e];exact gr _ _ y⟩
def Pend.dnew(h:Pend K ([]++[.own u]) ([]++[d]) ([]++[cz v]) M U Y H P F)(hm:M[i]?=cz (.own (.d kt u)))(hk:keyOk kt k)(zo:Den K H kv k) :
  ∃a0 es ds fv,Y[i]?=cz (cz (.ref a0))/\H a0=cz (e6 a0 es)/\U.getD i .none=.dict ((es.map (·.1)).zip ds)/\ds.length=es.length/\(∀e∈es,keyOk kt e.1/\Den K (cut H F) e.2.1 e.1)/\(es.map (·.1)).Nodup/\Own K H F u v d fv/\fv.Nodup/\(∀b∈fv,b∈F/\b≠a0)/\
   (u7 es k=rp->∀(H':Hp) (a:aw) (o':MuO) (d':D) (f':List aw),Same (upd H a0 (e6 a0 (es++[(k,kv,v)]))) H'->a∈fv->Own K (upd H' a o'.1) F u v d' f'->(∀b,f'.count b<=fv.count b)->
    StR K M (U.set i (.dict ((es.map (·.1)).zip ds++[(k,d')]))) Y (upd H' a o'.1) P F):=by
 obtain⟨_,_,S⟩:=h;obtain⟨G,h1,h2,h3⟩:=S.all;have lN:StAll K H F (.own u::M) (d::U) (cz v::Y) G:=by simpa using h1
 simp only[StAll]at lN;obtain⟨d0,U',Gz,Y',fv,G2,e1,e2,rfl,⟨v',e3,ov⟩,h5⟩:=lN;cases e1
 cases e2
 cases e3
 obtain⟨dd,oo,f,pre,post,q1,q2,⟨v2,rfl,q3⟩,rfl,q5⟩:=h5.at_ hm;obtain⟨a0,es,ds,fs,rfl,r2,r3,rfl,r5,r6,hl,hn⟩:=q3.dict;have Fd:a0∈F:=h3 a0 (by simp);have wa:Den K (cut H F) kv k:=zo.imm_out S.lst k (W5 _ hk.1);have iP:∀e∈es,aB e.1 k=p4↔e.1=k:=λe he=>C8 e.1 k (r5 e he).1.1 hk.1
 have cnt:∀b,b∈fv->(pre++post).count b=0/\b≠a0/\fs.count b=0/\fv.count b=1:=λb hb=>by
  have z:=cy.mp h2 b;have z2:=cZ.mpr hb;simp only[be,br,dc]at z ⊢;refine⟨by lia,λe=>?_,by lia,by lia⟩;subst e;simp only[fR,gF]at z;lia
 have wX:(pre++post).count a0=0/\fs.count a0=0:=by
  have z:=cy.mp h2 a0;simp only[be,br,fH]at z ⊢;exact⟨by lia,by lia⟩
 refine⟨a0,es,ds,fv,q2,r2,by rw[y9 q1];exact r3,hl,r5,hn,ov,?_,λb hb=>⟨h3 b (by simp[hb]),(cnt b hb).2.1⟩,λhf H' a o' d' f' gr ha o hc=>?_⟩
 ·refine cy.mpr λb=>?_
  by_cases c:b∈fv
  ·rw[(cnt b c).2.2.2];exact aD _
  ·rw[dH.mpr c];exact b_ _
 ·obtain⟨c1,c2,c3,c4⟩:=cnt a ha;have m_:a∈F:=h3 a (by simp[ha]);have eM:Same (cut H F) (cut (upd H' a o'.1) F):=((K8 Fd _).trans (B2 gr)).trans (K8 m_ _);have kk:∀(l:List aw),l.count a=0->l.count a0=0->(∀b∈l,b∈F)->∀b∈l,upd H' a o'.1 b=H b:=λl hc xM zk b hb=>by
   have n1:b≠a:=λz=>by subst z;rw[dH]at hc;exact hc hb
   have n0:b≠a0:=λz=>by subst z;rw[dH]at xM;exact xM hb
   rw[g9 n1];obtain⟨ys,q⟩:=S.lst b (zk b hb);rw[q];exact gr _ _ (by rw[g9 n0];exact q)
  have xE:upd H' a o'.1 a0=cz (e6 a0 (es++[(k,kv,v)])):=by rw[g9 (dP c2)];exact gr _ _ i6
  have o1:Own K (upd H' a o'.1) F (.d kt u) (.ref a0) (.dict (((es++[(k,kv,v)]).map (·.1)).zip (ds++[d']))) (a0::(fs++f')):=by
   simp only[Own];refine⟨a0,es++[(k,kv,v)],ds++[d'],_,rfl,xE,rfl,rfl,⟨?_,λe he=>?_⟩,?_⟩
   ·rw[aO,aZ];refine⟨hn,by simp,λx hx y hy e=>?_⟩;simp only[aA,cY,ai]at hy;subst hy;subst e;obtain⟨e,he,rfl⟩:=aX.mp hx;unfold u7 at hf;rw[cC]at hf;exact hf e he ((iP e he).mpr rfl)
   ·rcases ay.mp he with z|z
    ·exact⟨(r5 e z).1,(r5 e z).2.up eM⟩
    ·rw[ai.mp z];exact⟨hk,wa.up eM⟩
   ·rw[aO];refine (m4 eM r6 (kk _ c3 wX.2 λb hb=>h3 b (by simp[hb]))).append ?_;have:=m6 (R:=Own K (upd H' a o'.1) F u) o m8
    rwa[bj]at this
  rw[X2 (kv:=kv) (v:=v) hl]at o1;have q:=q5 (upd H' a o'.1) F (.own (.d kt u)) (.dict ((es.map (·.1)).zip ds++[(k,d')])) (cz (.ref a0)) _ (kk _ c1 wX.1 λb hb=>h3 b (au _ (mem_mid hb))) eM ⟨_,rfl,o1⟩;rw[set_same (l:=Y) q2,set_same (l:=M) hm]at q;refine⟨⟨_,q,O3 h2 λb=>?_,λb hb=>?_⟩,λb hb=>?_,S.prot.trans eM⟩
  ·have:=hc b;simp only[be,br,dc];lia
  ·have hp:0<(fv++(pre++(a0::fs++post))).count b:=by
    have h0:=cZ.mpr hb;have:=hc b;simp only[be,br,dc]at h0 ⊢;lia
   exact h3 b (cZ.mp hp)
  ·by_cases e:b=a
   ·subst e;exact⟨o',i6⟩
   ·by_cases e0:b=a0
    ·subst e0;exact⟨⟨e6 b (es++[(k,kv,v)]),trivial⟩,xE⟩
    ·obtain⟨ys,y⟩:=S.lst b hb;exact⟨ys,by rw[g9 e];exact gr _ _ (by rw[g9 e0];exact y)⟩
def StR.ded(S:StR K M U Y H P F)(hm:M[y]?=cz .dead)(v:Option V):StR K M U (Y.set y v) H P F:=by
 obtain⟨G,h1,h2,h3⟩:=S.all;obtain⟨dd,oo,f,pre,post,q1,q2,q3,rfl,q5⟩:=h1.at_ hm;have q:=q5 H F .dead dd v f (λ_ _=>rfl) (Same.refl _) q3;rw[set_same (l:=M) hm,set_same (l:=U) q1]at q;exact⟨⟨_,q,h2,h3⟩,S.lst,S.prot⟩
end
def b2s(h:H a=cz o):upd H a o=H:=funext λb=>by
 by_cases c:b=a
 ·rw[c,i6,h]
 ·rw[g9 c]
def a4p(hk:D8 k=p4)(h:w9 kvs k=rp):A3 (kvs++[(k,d)]) k=cz d:=by
 unfold A3;unfold w9 at h;rw[cC]at h;rw[List.find?_append,f_.mpr λp hp=>by simpa using h p hp];simp[(C8 k k hk hk).mpr rfl]
def a7N(hk:D8 k=p4)(h:w9 kvs k=rp):q8 (kvs++[(k,d)]) k d'=kvs++[(k,d')]:=by
 have hh:w9 (kvs++[(k,d)]) k=p4:=X1 (a4p hk h);unfold w9 at h;rw[cC]at h;unfold q8;rw[hh,aH rfl,aO]
 congr 1
 ·have:∀p∈kvs,(if aB p.1 k then (p.1,d') else p)=p:=λp hp=>aM (h p hp)
  rw[cn this,jB]
 ·simp[(C8 k k hk hk).mpr rfl]
section
variable {K:af}{H:Hp}{F:List aw}
def StR.relist(S:StR K M U Y H P F)(hm:M[i]?=cz (.own (.l .i)))(hs:Y[i]?=cz (cz (.ref b)))(hr:U.getD i .none=.list ds)(hd:DenAll K (cut H F) zs es)(hi:g8 es=p4) :
  StR K M (U.set i (.list es)) Y (upd H b (.lst zs)) P F:=by
 obtain⟨G,h1,h2,h3⟩:=S.all;obtain⟨dd,oo,f,pre,post,q1,q2,⟨v2,rfl,q3⟩,rfl,q5⟩:=h1.at_ hm;rw[hs]at q2;cases q2
 rw[y9 q1]at hr;subst hr;simp only[Own]at q3;rcases q3 with⟨_,hx,_⟩|⟨a,xs,iB,fs,ea,hH,_,rfl,hL⟩
 ·simp only[imm]at hx;cases hx
 cases ea
 have rd:b∈F:=h3 b (by simp);have cnt:(pre++post).count b=0:=by
  have z:=cy.mp h2 b;simp only[be,br,fH]at z ⊢;lia
 have eM:Same (cut H F) (cut (upd H b (.lst zs)) F):=K8 rd _;have o1:Own K (upd H b (.lst zs)) F (.l .i) (.ref b) (.list es) [b]:=by
  simp only[Own];refine .inr ⟨b,zs,es,[],rfl,i6,rfl,rfl,ListAll.of_den (hd.up eM) λv d hx q=>?_⟩;simp only[Own];exact⟨trivial,C9 hi hx,q⟩
 have q:=q5 (upd H b (.lst zs)) F (.own (.l .i)) (.list es) (cz (.ref b)) [b] (λc hc=>g9 λz=>by subst z;rw[dH]at cnt;exact cnt hc) eM ⟨_,rfl,o1⟩;rw[set_same (l:=Y) hs,set_same (l:=M) hm]at q;refine⟨⟨_,q,O3 h2 λc=>?_,λc hc=>h3 c ?_⟩,λc hc=>?_,S.prot.trans eM⟩
 ·simp only[be,br,dc,cB,List.count_nil];lia
 ·simp only[ay,az,br,cG,or_false]at hc ⊢;rcases hc with z|z|z
  ·exact .inl z
  ·exact .inr (.inl z)
  ·exact .inr (.inr (.inr (by simpa using z)))
 ·by_cases e:c=b
  ·subst e;exact⟨⟨.lst zs,trivial⟩,i6⟩
  ·obtain⟨ys,y⟩:=S.lst c hc;exact⟨ys,by rw[g9 e];exact y⟩
theorem a1S:∀{ds es:List D} {xs ys:List V},DenAll K H' xs ds->DenAll K H' ys es->DenAll K H' (xs++ys) (ds++es)
 |[],es,xs,ys,h,h'=>by rw[h.nil_inv];exact h'
 |d::ds,es,xs,ys,h,h'=>by
  obtain⟨v,r,rfl,h1,h2⟩:=h.cons_inv;exact denAll_cons h1 (a1S h2 h')
theorem a3b:∀{ds:List D} {xs:List V},DenAll K H' xs ds->DenAll K H' xs.reverse ds.reverse
 |[],xs,h=>by rw[h.nil_inv];exact denAll_nil
 |d::ds,xs,h=>by
  obtain⟨v,r,rfl,h1,h2⟩:=h.cons_inv;rw[nN,nN];exact a1S (a3b h2) (denAll_cons h1 denAll_nil)
def a7O:∀{ds:List D},g8 ds=p4->g8 ds.reverse=p4:=λ{ds} h=>by
 have key:∀l:List D,(∀d∈l,imm d=p4)->g8 l=p4:=by
  intro l
  induction l with
  |nil=>intro _;simp only[g8]
  |cons d l ih=>intro hl;simp only[g8,ao];exact⟨hl d ak,ih λx hx=>hl x (aq _ hx)⟩
 exact key _ λd hd=>C9 h (kC.mp hd)
end
def c1F:V->List V->Hp->VK->Prop:=λx vs H Q=>∃l xs,x=.ref l/\vs=[]/\H l=cz (.lst xs)/\Q .non (upd H l (.lst xs.reverse))
def b7Z(i:Nat):EvS:=λU=>match U.getD i .none with
 |.list ds=>cz (.nx (U.set i (.list ds.reverse)))
 |_=>el
section
variable {X:Cx}{u w:Ty}{ML M M1:List Md}{e e2:Expr}{f:EvX}{f2:EvE}{c2:Cat}{pos apos cf:eO}{x:bI}{px:eO}
def b8a:MtM X "list.reverse" c1F:=by
 intro pins s Y H x vs v us Q I rx rv h;obtain⟨l,xs,rfl,rfl,hH,q⟩:=h;cases rx
 have mP:=rv.zero;subst mP;obtain⟨z,cA,n,r,hl,e⟩:=I.lstM hH;refine mi rj ⟨_,e,rfl⟩ PySem.F.entry_list_reverse (PySem.F.args_list_reverse_1 _) (PySem.AutoSeq1.list_reverse_list_0 l cA.toArray n (by rw[bh];lia)) ⟨e,?_⟩;refine⟨.non,_,I.lset (its':=cA.reverse) (ys:=xs.reverse) hH e (by simp) ?_ (by rw[xZ];exact z),rfl,q⟩;have pL:xs.reverse.length=cA.reverse.length:=by simp[hl]
 refine a2n pL λi x u h1 h2=>?_
 have hi:i<xs.length:=by have:=(aQ.mp h1).1;simpa using this
 rw[uY hi]at h1;rw[uY (by lia)]at h2;obtain⟨u',qW,ru⟩:=r.get h1;rw[hl,h2]at qW;cases qW
 exact ru
def b8b(i:Nat)(hm:M[i]?=cz (.own (.l .i)):=by rfl)(hN:X.N[i]?=cz x:=by rfl)(hv:autoParam (NmV X x) ZY._auto_1)(dS:cK (.Name x px) "reverse" X.env (cg (.Name x px) X.env)=cg (.Name x px) X.env:=by rfl)(dR:(apos.endLine==cf.line)=p4:=by rfl)
  (oq:eU (.Call (.Attribute (.Name x px) "reverse" apos) [] [] cf) el pos.line X.env=pure rp:=by rfl) :
  PSX X w ML M (.Expr (.Call (.Attribute (.Name x px) "reverse" apos) [] [] cf) pos) (b7Z i) M:=by
 refine .mk ⟨_,X8 (b1w eB rj PySem.F.type_list_reverse b8a (C6 hN hv.1 hv.2.1 hv.2.2) dS dR) oq,λD U Y H P F o S hg k=>?_⟩;obtain⟨v,f,AO,ov,hf⟩:=S.toE.get hm;unfold b7Z at hg;cases hU:U.getD i .none with
 |list ds=>
  rw[hU]at hg ov;cases hg
  simp only[Own]at ov;rcases ov with⟨_,hi,_⟩|⟨a,xs,iB,fs,rfl,h1,h2,rfl,h3⟩
  ·simp only[imm]at hi;cases hi
  ·cases h2
   have oB:DenAll X.K (cut H F) xs ds:=ListAll.den (R:=λv d f=>Own X.K H F .i v d f) (λv d f q=>(R5 q).2.2) h3;have wc:g8 ds=p4:=by
    have:∀{ds:List VS.D} {xs:List V} {fs:List aw},ListAll (Own X.K H F .i) xs ds fs->g8 ds=p4:=by
     intro ds
     induction ds with
     |nil=>intro _ _ _;simp only[g8]
     |cons d ds ih=>
      intro xs fs h;obtain⟨v,r,f,g,_,_,q1,q2⟩:=h.cons_inv;simp only[g8,ao];exact⟨(R5 q1).2.1,ih q2⟩
    exact this h3
   exact⟨_,AO,.inl ⟨rfl,xs,SqL.of h1⟩,a,xs,rfl,rfl,h1,k Y _ F (S.relist hm AO hU (a3b oB) (a7O wc))⟩
 |_=>rw[hU]at hg;cases hg
end
def b9Z:∀{us:List α},us.length=1->∃a,us=[a]
 |[a],_=>⟨a,rfl⟩
def b4W:∀{us:List α},us.length=2->∃a b,us=[a,b]
 |[a,b],_=>⟨a,b,rfl⟩
def c0a:∀{us:List α},us.length=3->∃a b c,us=[a,b,c]
 |[a,b,c],_=>⟨a,b,c,rfl⟩
def c1G:∀{us:List α},us.length=4->∃a b c d,us=[a,b,c,d]
 |[a,b,c,d],_=>⟨a,b,c,d,rfl⟩
def c1H:∀{us:List α},us.length=5->∃a b c d e,us=[a,b,c,d,e]
 |[a,b,c,d,e],_=>⟨a,b,c,d,e,rfl⟩
def c1I:∀{us:List α},us.length=6->∃a b c d e f,us=[a,b,c,d,e,f]
 |[a,b,c,d,e,f],_=>⟨a,b,c,d,e,f,rfl⟩
def a4q(i:Nat)(kt:Bool)(fk fe:EvE):EvS:=λU=>(fk U).bind λk=>(fe U).bind λd=>match U.getD i .none with
 |.dict kvs=>if n8 kt k then match A3 kvs k with
   |some (.list es)=>if es.length<1000000 then cz (.nx (U.set i (.dict (q8 kvs k (.list (es++[d])))))) else el
   |_=>el
  else el
 |_=>el
section
variable {X:Cx}{M ML:List Md}{i j:Nat}{u t w:Ty}{k e:Expr}{fk fe:EvE}{kt:Bool}{x:bI}{px mM pos apos cf yu:eO}{sts:List ig}{g:List D->D->Option D}{sl:List Nat}
def b4X(i:Nat)(hu:X.A.units+164<cV)(hk:PX X M k fk ck)(he:PX X M e fe (.new .i))(jP:a4i k:=by exact λ_ _=>rfl)(hm:M[i]?=cz (.own (.d kt (.l .i))):=by rfl)(hN:X.N[i]?=cz x:=by rfl)(hv:autoParam (NmV X x) ZY._auto_1)
  (dS:cK (.Subscript (.Name x px) k mM) "append" X.env (cg (.Subscript (.Name x px) k mM) X.env)=cg (.Subscript (.Name x px) k mM) X.env:=by rfl)
  (jG:((cj cf (ax [e] X.env)).all (λx=>!x.1)&&(kq cf (gU [] X.env)).all (λx=>x.1.isSome)
   && decide ([e].length+([]:List fV).length+(if ([]:List fV).isEmpty then 0 else 1)<30))=p4:=by rfl)
  (dR:(apos.endLine==cf.line)=p4:=by rfl) (hs:ax [e] X.env=(rp,cg e X.env)::ax [] X.env:=by rfl) (fP:(cj cf (ax [] X.env)).any (·.1)=rp:=by rfl)
  (oq:eU (.Call (.Attribute (.Subscript (.Name x px) k mM) "append" apos) [e] [] cf) el pos.line X.env=pure rp:=by rfl) :
  PSX X w ML M (.Expr (.Call (.Attribute (.Subscript (.Name x px) k mM) "append" apos) [e] [] cf) pos) (a4q i kt fk fe) M:=by
 obtain⟨tk,pk,qk⟩:=hk.out;obtain⟨te,pe,qe⟩:=he.out;refine .mk ⟨_,X8 (a8I eB sf sd a1l (b2e hu (C6 hN hv.1 hv.2.1 hv.2.2) pk jP) (m5 pe q9 hs) dS jG dR hs fP) oq,λD U Y H P F o S hg kk=>?_⟩;obtain⟨k0,zp,g1⟩:=bnd hg;obtain⟨dv,ue,g2⟩:=bnd g1;obtain⟨a,es,ds,fs,ha,hH,hU,_⟩:=S.toE.dict hm;rw[hU]at g2;have me:(if n8 kt k0=p4 then (match A3 ((es.map (·.1)).zip ds) k0 with
   |some (.list eJ)=>if eJ.length<1000000 then cz (Out.nx (U.set i (.dict (q8 ((es.map (·.1)).zip ds) k0 (.list (eJ++[dv])))))) else el
   |_=>el) else el)=cz o:=g2
 by_cases c:n8 kt k0=p4
 ·rw[aH c]at me;cases qZ:A3 ((es.map (·.1)).zip ds) k0 with
  |none=>rw[qZ]at me;cases me
  |some d1=>
   rw[qZ]at me;cases d1 with
   |list xs=>
    have g3:(if xs.length<1000000 then cz (Out.nx (U.set i (.dict (q8 ((es.map (·.1)).zip ds) k0 (.list (xs++[dv])))))) else el)=cz o:=me;by_cases hz:xs.length<1000000
    ·rw[aH hz]at g3;cases g3
     refine⟨.ref a,ha,qk U Y H P F k0 _ S.toE zp λkv H1 w1 r1=>?_⟩;have S1:=S.grow w1;obtain⟨a0,eJ,iB,t1,t2,t3,t4,t5,t6,t7⟩:=S1.dval (k:=k0) hm (x6 c);rw[ha]at t1;cases t1
     rw[hU]at t3
     injection t3 with t3
     rw[t3]at qZ;refine⟨a,eJ,kt,k0,rfl,t2,keysAt t5 c r1.den,by rw[<-x8 t4];exact X1 qZ,λe9 EG fJ=>?_⟩;obtain⟨d2,f2,x1,x2,x3,x4,x5⟩:=t7 e9 EG fJ;rw[qZ]at x1;cases x1
     simp only[Own]at x2;rcases x2 with⟨_,hi,_⟩|⟨b,vs,lC,gs,eb,hb,FG,rfl,jZ⟩
     ·simp only[imm]at hi;cases hi
     cases FG
     have jZ:ListAll (Own X.K H1 F .i) vs xs gs:=by
      have e9:(Own X.K H1 F .i)=λx Ap Co=>Co=[]/\imm Ap=p4/\Den X.K (cut H1 F) x Ap:=by
       funext x y z
       simp only[Own]
      rw[e9];exact jZ
     have rd:b∈F:=x4 b ak;have hsz:vs.length=xs.length:=jZ.length;rw[eb];refine⟨.inl ⟨rfl,vs,SqL.of hb⟩,qe U Y H1 P F dv _ S1.toE ue λv1 H2 e2 ⟨fp,o1,nd,fr⟩=>?_⟩;obtain⟨rfl,im,FW⟩:=R5 o1;refine⟨b,vs,v1,rfl,rfl,e2 _ _ hb,by rw[hsz];exact fE hz (by rw[cO];decide),?_⟩;have eM:Same (cut H1 F) (cut (upd H2 b (.lst (vs++[v1]))) F):=(B2 e2).trans (K8 rd _);have kp:∀b'∈gs,upd H2 b (.lst (vs++[v1])) b'=H1 b':=λb' jW=>by
      have gK:b'≠b:=λz=>by subst z;exact (bz.mp x3).1 jW
      rw[g9 gK];exact S1.toE.keep e2 b' (x4 b' (aq _ jW))
     have ow:Own X.K (upd H2 b (.lst (vs++[v1]))) F (.l .i) (.ref b) (.list (xs++[dv])) (b::(gs++[])):=by
      simp only[Own];refine .inr ⟨b,vs++[v1],xs++[dv],gs++[],rfl,i6,rfl,rfl,(m4 eM jZ kp).append ?_⟩;have ov:Own X.K (upd H2 b (.lst (vs++[v1]))) F .i v1 dv []:=by
       simp only[Own];exact⟨trivial,im,FW.up (K8 rd _)⟩
      exact m6 (R:=Own X.K (upd H2 b (.lst (vs++[v1]))) F .i) ov m8
     have fin:=x5 H2 b ⟨.lst (vs++[v1]),trivial⟩ (.list (xs++[dv])) (b::(gs++[])) e2 ak (by rw[eb];exact ow) λb'=>by rw[bj];exact aD _
     rw[<-t3]at fin;exact kk Y _ F fin
    ·rw[aM hz]at g3;cases g3
   |_=>cases me
 ·rw[aM c]at me;cases me
end
def b8c{K:af}{H:Hp}{F:List aw}{t:Ty}{v:V}{ds:List D}{fp:List aw}(h:Own K H F (.l t) v (.list ds) fp):∃a xs fs,v=.ref a/\H a=cz (.lst xs)/\fp=a::fs/\ListAll (Own K H F t) xs ds fs:=by
 rw[Own]at h;rcases h with⟨_,hi,_⟩|⟨a,xs,iB,fs,rfl,h1,h2,rfl,h3⟩
 ·simp only[imm]at hi;cases hi
 ·cases h2;exact⟨a,xs,fs,rfl,h1,rfl,h3⟩
end VS
namespace VS
open PySem PySem.Spec L2
open PyProof.Rows (KeyOrd keyKind' keyLt')
section
variable {prog:bB}{w:bQ}{A:bE}{E:aj->av->Prop}{sh:av}{vs ks:List aj}{κ:ri}{O:KeyOrd}{key:Nat->O.α}{R:bU->Prop}
structure SortableR (prog:bB) (w:bQ) (A:bE) (R:bU->Prop) (ks:List aj) (κ:ri) (O:KeyOrd) (key:Nat->O.α):Prop where
 kind:2<=ks.length->∀(s:av) (E:aj->av->Prop) (Q:ri->av->Prop),R s.heap->Q κ s->aE (a_ prog w) A (keyKind' ks.toArray) Q E s
 lt:∀(s:av) (i j:Nat) (C:Bool->av->Prop),R s.heap->i<ks.length->j<ks.length->C (O.blt (key i) (key j)) s->aE (a_ prog w) A (keyLt' κ (ks.getD i cw) (ks.getD j cw)) C (λ_ _=>False) s
end
end VS
namespace VS
open PySem PySem.Spec L2
def Itd(a:aw)(es:List (D×V×V)):It:=
 ⟨λi H=>H a=cz (e6 a es)/\i<es.length,λi H x H'=>H'=H/\∃e,es[i]?=cz e/\x=e.2.1,λi H=>H a=cz (e6 a es)/\es.length<=i⟩
def b0w(a it:aw)(es:List (D×V×V))(hL:J0 es=rp):Turn P w K tg (Itd a es) [it] it (λi h=>h.IsKeyIter it a i es.length es.length) where
 mem:=by simp
 obj:=λi h st b hb=>by
  have e:b=it:=by simpa using hb
  subst e;obtain⟨o,e,c,d⟩:=st;exact⟨o,e,λv z=>by rw[d]at z;cases z⟩
 keep:=λi h h' st k=>st.at λo e=>k it (by simp) o e
 item:=by
  intro X hP hw hK hc i pins s Y H E I hf st hg;subst hP hw hK;obtain⟨hH,hi⟩:=hg;obtain⟨h0,hl,hn,o,ents,g1,g2,g3,g4⟩:=Y7 I hH hL;have hsz:ents.size=es.length:=by rw[cR g4];exact cu.symm
  have kZ:i<ents.size:=by lia
  have hx:es[i]?=cz es[i]:=ar hi;obtain⟨y,hy,r⟩:=D6 g4 hx;have yF:ents[i]=y:=by
   rw[bX,bJ kZ]at hy;exact aL hy
  obtain⟨f0,f1,f2,f3,f4,f5⟩:=hf it (by simp);have rF:s.heap.IsKeyIter it a i ents.size es.length:=by rw[hsz];exact st
  refine a6k rF ⟨o,g1,g2,g3⟩ kZ λh' nU sb=>?_
  have I1:Inv X pins Y H {s with heap:=h'}:=I.turned (t':=s.toks) (λb o hb e=>(sb.2 b hb).trans e) f0 f1 f3 f4 f5;rw[hsz]at nU;obtain⟨o,e,c,d⟩:=id nU;exact⟨ents[i].key,rfl,a5J (s:={s with heap:=h'}) e c d (by decide) ⟨es[i].2.1,H,I1,by rw[yF];exact r.2.1,⟨rfl,es[i],hx,rfl⟩,nU,λb hb=>(hf b hb).1⟩⟩
 done:=by
  intro X hP hw hK hc i pins s Y H E I hf st hg;subst hP hw hK;obtain⟨hH,hi⟩:=hg;obtain⟨h0,hl,hn,o,ents,g1,g2,g3,g4⟩:=Y7 I hH hL;have hsz:ents.size=es.length:=by rw[cR g4];exact cu.symm
  obtain⟨f0,f1,f2,f3,f4,f5⟩:=hf it (by simp);have rF:s.heap.IsKeyIter it a i ents.size es.length:=by rw[hsz];exact st
  exact a6l (I.ok.hd hc) rF ⟨o,g1,g2,g3⟩ (by lia) λh' eb=>⟨rfl,I.turned (t':=s.toks) (λb o hb e=>eb b o hb e) f0 f1 f3 f4 f5⟩
 self:=λ_ _ _ _ _ st h=>wpAny_pyIter_keyiter st h
section
variable {X:Cx}{M:List Md}{tg a:Expr}{fa:EvE}{ca:Cat}
def b8d(ta:TE):TI:=λY H R=>ta Y H λx H1=>∃p es,x=.ref p/\H1 p=cz (e6 p es)/\J0 es=rp/\R (Itd p es) H1
def b4Y(hl:PE X a ta):PI X tg a (b8d ta):=by
 intro pins s Y H R I h;refine L2.thn (hl pins s Y H _ I h) λv s1 ⟨x,H1,I1,r1,q1⟩=>?_
 obtain⟨p,es,e,hH,hL,q⟩:=q1;subst e;cases r1
 obtain⟨h0,hl,hn,o,ents,g1,g2,g3,g4⟩:=Y7 I1 hH hL;have hsz:ents.size=es.length:=by rw[cR g4];exact cu.symm
 refine a6j h0 ⟨o,g1,g2,g3⟩ ?_;refine⟨s1.heap.objs.size,[s1.heap.objs.size],_,_,H1,rfl,I1.kept (t':=s1.toks) λb o e=>ag _ e,b0w p _ es hL,⟨_,aF _ rfl,rfl,by rw[hsz];rfl⟩,λb hb=>?_,q⟩;have e:b=s1.heap.objs.size:=by simpa using hb
 subst e;exact I1.fpOk (aD _) (I1.hok.fresh (aD _))
def a7P:Walks (Itd p es) (λH=>H p=cz (e6 p es)) (es.map (·.2.1)) where
 go:=λi H h hi=>⟨h,by simpa using hi⟩
 stop:=λi H h hi=>⟨h,by simpa using hi⟩
 yld:=λi H x H' h hi y=>by
  obtain⟨e,r,hr,rfl⟩:=y;exact⟨e,by rw[bc,hr];rfl⟩
def iDk(a:EvE):EvA:=λU=>(a U).bind λd=>match d with
 |.dict kvs=>if T4 kvs then el else cz (kvs.map (·.1))
 |_=>el
def b4Z{K:af}{H:Hp}{d:D}(h:Den K H .non d):b7f d=p4:=by
 cases d<;>first|rfl|(simp[Den]at h)
def a1T{K:af}{H:Hp}{es:List (D×V×V)}{kvs:List (D×D)}(h:DenKV K H es kvs):J0 es=T4 kvs:=by
 cases kvs with
 |nil=>simp only[DenKV]at h;subst h;rfl
 |cons p r=>
  obtain⟨k,d⟩:=p;simp only[DenKV]at h;obtain⟨e,q,rfl,rfl,_,h4,_⟩:=h;show (a0n e.1&&a5P e.2.2)=(a0n e.1&&b7f d)
  congr 1;cases c:a5P e.2.2 with
  |true=>
   have:e.2.2=.non:=by
    revert c;cases e.2.2<;>first|(intro _;rfl)|(intro z;cases z)
   rw[this]at h4;exact (b4Z h4).symm
  |false=>
   cases d with
   |none=>
    rw[h4.none_inv]at c;cases c
   |_=>rfl
def a6m(h:PX X M a fa ca)(hc:frozen ca:=by trivial):PIX X M tg a (iDk fa):=by
 obtain⟨t,p,q⟩:=h.out;refine⟨_,b4Y p,λU Y H P F ds R S hf k=>?_⟩;obtain⟨d,h1,h2⟩:=bnd hf;cases d with
 |dict kvs=>
  have jQ:(if T4 kvs then el else cz (kvs.map (·.1)))=cz ds:=h2;have hL:T4 kvs=rp:=by
   cases c:T4 kvs with
   |false=>rfl
   |true=>rw[c]at jQ;cases jQ
  rw[hL]at jQ;cases jQ
  refine q U Y H P F _ _ S h1 λv H1 e1 r1=>?_
  obtain⟨aa,es,rfl,k1,k2⟩:=(E9 hc r1).dict_inv;exact⟨aa,es,rfl,i7 _ _ k1,by rw[a1T k2];exact hL,k _ _ _ H1 e1 a7P (λH2 e2=>e2 _ _ k1) (X4 k2)⟩
 |_=>cases h2
end
def a6n(F:List aw)(H H2:Hp):Hp:=λa=>if a∈F then H a else H2 a
def a0Q(h:a∈F):a6n F H H2 a=H a:=aH h
def s9(h:a∉F):a6n F H H2 a=H2 a:=aM h
def b8e(sp:Sp):Sp:=λvs H Q E=>∃F:List aw,(∀a∈F,∃ys:MuO,H a=cz ys.1)/\sp vs (cut H F) (λv H2=>(∀a∈F,H2 a=el)->Q v (a6n F H H2)) E
section
variable {P:bB}{w:bQ}{K:af}{mg:bI->Option aj}{base:bU}{k:Nat}{f:aw}{fd:dE}{ps:List bI}{sp:Sp}{H:Hp}{h:bU}{F:List aw}
def a1v(hF:∀a∈F,∃ys:MuO,H a=cz ys.1)(e:H b=cz o)(n:¬ Mu o):b∉F:=λz=>by
 obtain⟨ys,hy⟩:=hF b z;rw[e]at hy;cases hy
 exact n ys.2
def b8f(h:Pin a o):¬ Mu o:=by cases o<;>first|exact λz=>z|exact λ_=>h
def b5a(hk:HOk P w H h)(hF:∀a∈F,∃ys:MuO,H a=cz ys.1):HOk P w (cut H F) h:=λa o e=>by
 obtain⟨_,e'⟩:=o7 e;exact (hk a o e').stay (λb u _ q=>q) (λb q=>j7 (a1v hF q (λz=>z)) q) λb xs q=>j7 (a1v hF q (b8f xs.2)) q
def B4(n:H a=el):cut H F a=el:=by
 by_cases q:a∈F
 ·exact W6 q
 ·rw[Y1 q];exact n
def a7Q(F0:FnOk P w K mg base CX0 k f fd ps sp):FnOk P w K mg base CX0 k f fd ps (b8e sp) where
 len:=λvs H Q E ⟨F,_,hs⟩=>F0.len _ _ _ _ hs
 run:=λA outer s H args us vs Q E hr he hb hv ⟨F,hF,hs⟩=>by
  have k_:Env0 P w K mg base A outer s (cut H F):=⟨he.frames,he.mod,λb o e=>⟨(he.bs b o e).1,B4 (he.bs b o e).2⟩,he.bsz,he.funs,λb hb=>B4 (he.frf b hb),b5a he.hok hF,he.bare,λx hx p e=>let⟨qs,t,e1,e2⟩:=he.tabs x hx p e;⟨qs,t,j7 (a1v hF e1 (λz=>z)) e1,e2⟩⟩;refine fQ (F0.run A outer s (cut H F) args us vs _ E hr k_ hb hv hs) λr s' hq=>?_
  cases r with
  |error e=>exact hq
  |ok fl=>
   cases fl with
   |ret u=>
    obtain⟨v,H2,os,bare,un,pq,rv,q⟩:=(show CE outer P w (cut H F) s _ u s' from hq);have there:∀a∈F,∃o,s.heap.get? a=cz o:=λa ha=>by
     obtain⟨⟨ys,hm⟩,hy⟩:=hF a ha;have:=he.hok a _ hy;cases ys with
     |lst xs=>obtain⟨_,cA,n,r,e⟩:=this;exact⟨_,e⟩
     |dK kvs=>obtain⟨_,_,vs,_,ob,es,ep,e,_⟩:=this;exact⟨_,e⟩
     |ext φ=>obtain⟨_,e,_⟩:=this;exact e
     |_=>exact cM hm
    have BD:∀a∈F,H2 a=el:=λa ha=>by
     obtain⟨o,ho⟩:=there a ha;exact un.free a o ho (W6 ha) (by simp)
    have DY:∀{b:aw},H b=el->b∉F:=λ{b} n z=>by
     obtain⟨ys,hy⟩:=hF b z;rw[n]at hy;cases hy
    refine (show CE outer P w H s Q u s' from⟨v,a6n F H H2,os,bare,?_,?_,rv,q BD⟩)
    ·refine⟨λb o q n hb hx=>un.keep b o q (B4 n) hb hx,λb o q n hb hx=>un.slot b o q (B4 n) hb hx,λb o q n hx=>?_,un.there,λb xs q=>?_,λb o u q=>?_,λb ps q=>?_⟩
     ·rw[s9 (DY n)];exact un.free b o q (B4 n) hx
     ·have n:=a1v hF q (λz=>z);rw[s9 n];exact un.tups b xs (j7 n q)
     ·have n:=a1v hF q (λz=>z);rw[s9 n];exact un.frzs b o u (j7 n q)
     ·have n:=a1v hF q (λz=>z);rw[s9 n];exact un.tbls b ps (j7 n q)
    ·intro a o e;by_cases ha:a∈F
     ·rw[a0Q ha]at e;have hk:∀u,s.heap.get? a=cz u->s'.heap.get? a=cz u:=λu q=>un.keep a u q (W6 ha) (λz=>by rw[he.frf a z]at e;cases e) (by simp)
      obtain⟨⟨ys,hm⟩,hy⟩:=hF a ha;have ho:=he.hok a _ hy;have eo:o=ys:=aL (e.symm.trans hy);rw[eo];cases ys with
      |lst xs=>obtain⟨z,cA,n,r,e⟩:=ho;exact⟨z,cA,n,r,hk _ e⟩
      |dK kvs=>obtain⟨z,y,vs,r,ob,es,ep,e,c⟩:=ho;exact⟨z,y,vs,r,ob,es,ep,hk _ e,c⟩
      |ext φ=>obtain⟨h1,⟨ob,h2⟩,h3⟩:=ho;exact⟨h3 _ _ h1 hk,⟨ob,hk _ h2⟩,h3⟩
      |_=>exact cM hm
     ·rw[s9 ha]at e;have jy:∀{b:aw} {o:HO},H2 b=cz o->a6n F H H2 b=cz o:=λ{b} {o} q=>by
       rw[s9 (λz=>by rw[BD b z]at q;cases q)];exact q
      exact (pq a o e).stay (λb u _ q=>q) (λb q=>jy q) λb xs q=>jy q
   |next=>exact cM hq
   |brk=>exact cM hq
   |cont=>exact cM hq
end
section
variable {X:Cx}{M:List Md}{a e0:Expr}{es:List Expr}{fa:EvE}{f:EvA}{ca:Cat}{u:Ty}{x:bI}{p pos:eO}
def b0x(W:Has X.prog X.w X.K X.mg X.base x k ps sp):Has X.prog X.w X.K X.mg X.base x k ps (b8e sp):=by
 obtain⟨f,fd,F,b⟩:=W.ex;exact⟨f,fd,a7Q F,b⟩
def PAF(X:Cx)(M:List Md)(es:List Expr)(f:EvA):Prop:=
 ∃t,PA X es t/\∀(U:List D) (Y:L2.St) (H P:Hp) (F:List aw) (ds:List D) (Q:List V->Hp->Prop),StE X.K M U Y H P F->f U=cz ds->(∀vs H',Same H H'->DenAll X.K (cut H' F) vs ds->Q vs H')->t Y H Q
def E1:PAF X M [] f6:=⟨_,q9,λU Y H P F ds Q S hf q=>by cases hf;exact q [] H (Same.refl _) denAll_nil⟩
def j9(ha:PX X M a fa ca)(hr:PAF X M es fr)(hc:frozen ca:=by trivial)(hs:ax (a::es) X.env=(rp,cg a X.env)::ax es X.env:=by rfl):PAF X M (a::es) (b8 fa fr):=by
 obtain⟨ta,pa,qa⟩:=ha.out;obtain⟨tr,pr,qr⟩:=hr;refine⟨_,m5 pa pr hs,λU Y H P F ds Q S hf q=>?_⟩;obtain⟨x,h1,hf⟩:=bnd hf;obtain⟨xs,h2,hf⟩:=bnd hf;cases hf
 exact qa U Y H P F _ _ S h1 λv H1 e1 r1=>qr U Y H1 P F _ _ (S.grow e1) h2 λvs H2 e2 r2=>q (v::vs) H2 (e1.trans e2) (denAll_cons ((E9 hc r1).up (B2 e2)) r2)
def A2(W:Has X.prog X.w X.K X.mg X.base x k ps (spD X.K n m u))(hr:Room k X.A)(h:PAF X M (e0::es) f)(hl:(e0::es).length=n:=by rfl)(hfl:∀U ds,f U=cz ds->ds.length=(e0::es).length)
  (hg:Gl X x:=by rfl) (ma:(x==("__debug__":bI))=rp:=by decide) (he:ax (e0::es) X.env=(rp,cg e0 X.env)::ax es X.env:=by rfl) (fM:(cj pos (ax es X.env)).any (·.1)=rp:=by rfl) :
  PX X M (.Call (.Name x p) (e0::es) [] pos) (eCl m f) (.new u):=by
 obtain⟨t,pa,qa⟩:=h;refine .mk ⟨_,a7j (b0x W) hr pa hg ma he fM,λU Y H P F d Q S hf q=>?_⟩;obtain⟨ds,h1,hf⟩:=bnd hf;refine qa U Y H P F ds _ S h1 λvs H1 e1 r1=>?_
 show b8e (spD X.K n m u) (vs++[]) H1 Q E0;rw[bj];refine⟨F,S.lst' e1,ds,d,by rw[r1.length,hfl U ds h1,hl],r1,hf,λv H2 fp e o nd fr hz=>q v (a6n F H1 H2) ?_ ?_⟩
 ·intro b o' hb;have wA:=e1 b o' hb;by_cases c:b∈F
  ·rw[a0Q c];exact wA
  ·rw[s9 c];exact e b o' (j7 c wA)
 ·have rR:∀a∈fp,a∉F:=λa ha z=>by
   obtain⟨ys,hy⟩:=o.lst u a ha;rw[hz a z]at hy;cases hy
  refine⟨fp,Own.frame (λb o' hb=>?_) u o (λa ha=>s9 (rR a ha)),nd,λa ha=>?_⟩
  ·obtain⟨n1,n2⟩:=o7 hb;have n3:b∉F:=λz=>by rw[hz b z]at n2;cases n2
   exact j7 (λz=>(ay.mp z).elim n1 n3) (by rw[s9 n3];exact n2)
  ·have:=fr a ha;rw[Y1 (rR a ha)]at this;exact e1.free this
end
def Junk(H:Hp)(C:List aw):Prop:=∀a∈C,∀u,H a=cz u->∃o,u=.frz o (.own a)
section
variable {K:af}{H H':Hp}{C F:List aw}
theorem Junk.cut(h:Junk H C):Junk (cut H F) C:=λa ha u e=>h a ha u (o7 e).2
def Junk.out(h:Junk H C)(e:H a=cz u)(n:∀o,u≠.frz o (.own a)):a∉C:=λz=>by
 obtain⟨o,q⟩:=h a z u e;exact n o q
def b2t(h:Junk H C)(q:SqX K H a xs):SqX K (VS.cut H C) a xs:=by
 rcases q with (q|⟨o,q⟩)|q
 ·exact .inl (.inl (j7 (h.out q λo z=>(nomatch z)) q))
 ·exact .inl (.inr ⟨o,j7 (h.out q λo z=>by cases z) q⟩)
 ·exact .inr q
def b2u(h:Junk H C)(q:SqT K H a xs):SqT K (VS.cut H C) a xs:=by
 rcases q with (q|⟨o,q⟩)|q
 ·exact .inl (.inl (j7 (h.out q λo z=>(nomatch z)) q))
 ·exact .inl (.inr ⟨o,j7 (h.out q λo z=>by cases z) q⟩)
 ·exact .inr q
def a3c(h:Junk H C)(q:H a=cz (e6 a es)):VS.cut H C a=cz (e6 a es):=
 j7 (h.out q λo z=>by unfold e6 at z;cases z) q
mutual
theorem Den.junk(h:Junk H C):∀(d:bo) {v:V},Den K H v d->Den K (VS.cut H C) v d
 |.none,_,q=>by simpa only [Den]using q
 |.bool _,_,q=>by simpa only [Den]using q
 |.int _,_,q=>by simpa only [Den]using q
 |.str _,_,q=>by simpa only [Den]using q
 |.list ds,_,q=>by
  obtain⟨a,xs,rfl,h1,h2⟩:=q.list_inv;exact den_list (b2t h h1) (DenAll.junk h ds h2)
 |.tuple ds,_,q=>by
  obtain⟨a,xs,rfl,h1,h2⟩:=q.tup_inv;exact den_tup (b2u h h1) (DenAll.junk h ds h2)
 |.dict kvs,_,q=>by
  obtain⟨a,es,rfl,h1,h2⟩:=q.dict_inv;simp only[Den];exact⟨a,es,rfl,a3c h h1,DenKV.junk h kvs h2⟩
theorem DenAll.junk(h:Junk H C):∀(ds:List bo) {xs:List V},DenAll K H xs ds->DenAll K (VS.cut H C) xs ds
 |[],_,q=>by simpa only [DenAll]using q
 |d::ds,_,q=>by
  obtain⟨v,r,rfl,h1,h2⟩:=q.cons_inv;exact denAll_cons (Den.junk h d h1) (DenAll.junk h ds h2)
theorem DenKV.junk(h:Junk H C):∀(kvs:List (bo×bo)) {es:List (bo×V×V)},DenKV K H es kvs->DenKV K (VS.cut H C) es kvs
 |[],_,q=>by simpa only [DenKV]using q
 | (k,d)::r,_,q=>by
  simp only[DenKV]at q ⊢;obtain⟨x,es,h1,h2,h3,h4,h5⟩:=q;exact⟨x,es,h1,h2,Den.junk h k h3,Den.junk h d h4,DenKV.junk h r h5⟩
end
def b2v(a:aw):VS.cut (VS.cut H C) F a=VS.cut (VS.cut H F) C a:=by
 unfold VS.cut;by_cases h1:a∈F<;>by_cases h2:a∈C<;>simp[h1,h2]
def S6(h:Junk H C)(q:Den K (VS.cut H F) v d):Den K (VS.cut (VS.cut H C) F) v d:=
 (Den.junk h.cut d q).up λa o e=>by rw[b2v];exact e
mutual
theorem Own.junk(h:Junk H C):∀(u:Ty) {v:V} {d:bo} {fp:List aw},Own K H F u v d fp->Own K (VS.cut H C) F u v d fp
 |.i,_,_,_,q=>by simp only[Own]at q ⊢;exact⟨q.1,q.2.1,S6 h q.2.2⟩
 |.f,_,_,_,q=>by simp only[Own]at q ⊢;exact⟨q.1,S6 h q.2⟩
 |.l u,_,_,_,q=>by
  simp only[Own]at q ⊢;rcases q with⟨h1,h2,q⟩|⟨a,xs,ds,fs,rfl,h1,rfl,rfl,h2⟩
  ·exact .inl ⟨h1,h2,S6 h q⟩
  ·exact .inr ⟨a,xs,ds,fs,rfl,j7 (h.out h1 λo z=>(nomatch z)) h1,rfl,rfl,h2.imp λv d f _ _ z=>Own.junk h u z⟩
 |.tp us,_,_,_,q=>by
  simp only[Own]at q ⊢;rcases q with⟨h1,h2,q⟩|⟨a,xs,ds,rfl,h1,h0,rfl,h2⟩
  ·exact .inl ⟨h1,h2,S6 h q⟩
  exact .inr ⟨a,xs,ds,rfl,j7 (h.out h1 λo z=>(nomatch z)) h1,h0,rfl,OwnTs.junk h us h2⟩
 |.d kt u,_,_,_,q=>by
  simp only[Own]at q ⊢;obtain⟨a,es,ds,fs,rfl,h1,rfl,rfl,h3,h2⟩:=q;exact⟨a,es,ds,fs,rfl,a3c h h1,rfl,rfl,⟨h3.1,λx hx=>⟨(h3.2 x hx).1,S6 h (h3.2 x hx).2⟩⟩,h2.imp λv d f _ _ z=>Own.junk h u z⟩
theorem OwnTs.junk(h:Junk H C):∀(us:List Ty) {xs:List V} {ds:List bo} {fp:List aw},OwnTs K H F us xs ds fp->OwnTs K (VS.cut H C) F us xs ds fp
 |[],_,_,_,q=>by simpa only [OwnTs]using q
 |u::us,_,_,_,q=>by
  simp only[OwnTs]at q ⊢;obtain⟨v,r,d,e,f,g,rfl,rfl,rfl,h1,h2⟩:=q;exact⟨v,r,d,e,f,g,rfl,rfl,rfl,Own.junk h u h1,OwnTs.junk h us h2⟩
end
def a6o(k:HOk P w H h)(j:Junk H C):HOk P w (VS.cut H C) h:=λa o e=>by
 obtain⟨na,e'⟩:=o7 e;refine (k a o e').stay (λb u _ q=>q) (λb q=>j7 (j.out q λo z=>(nomatch z)) q) λb u q=>j7 (λhb=>?_) q
 obtain⟨u,hu⟩:=u;obtain⟨ob,z⟩:=j b hb u q;subst z;have qW:b=a:=hu;exact na (qW▸hb)
def b0y(t:TabsIn K H)(j:Junk H C):TabsIn K (VS.cut H C):=λx hx p e=>by
 obtain⟨qs,t',e1,e2⟩:=t x hx p e;exact⟨qs,t',j7 (j.out e1 λo z=>(nomatch z)) e1,e2⟩
end
end VS
namespace VS
open PySem PySem.Spec L2 PyProof.Rows
def FnV(P:bB)(w:bQ)(K:af)(mg:bI->Option aj)(base:bU)(k n:Nat)(u:Ty)(m:List D->Option D)(H:Hp)(v:V):Prop:=
 ∃fa fo,v=.ref fa/\H fa=cz (.frz fo (.own fa))/\(∃fd,fo.data=.func fd)/\
  ∀(A:bE) (outer:List oS) (s:av) (us:List aj) (vs:List V) (Q:VK) (E:XK),Room k A->Env0 P w K mg base A outer s H->Vals vs us->spD K n m u vs H Q E->
   gL (a_ P w) A (.call (.ref fa) ⟨us,[]⟩) (CR CX0 outer P w H s Q E) s
section
variable {X:Cx}{M:List Md}{a e0:Expr}{es:List Expr}{fa:EvE}{f:EvA}{ca:Cat}{u:Ty}{x:bI}{p pos:eO}
def b8g(X:Cx)(i k n:Nat)(u:Ty)(m:List D->Option D)(t:TA):TE:=λY H Q=>∃v,Y[i]?=cz (cz v)/\t Y H λvs H1=>FnV X.prog X.w X.K X.mg X.base k n u m H1 v/\spD X.K n m u vs H1 Q E0
def b2w(hr:Room k X.A)(ha:PA X (e0::es) t)(hN:X.N[i]?=cz x)(hv:Vis X.env.scope x)(hd:(x==("__debug__":bI))=rp)(mZ:(x==("__classdict__":bI))=rp)
  (he:ax (e0::es) X.env=(rp,cg e0 X.env)::ax es X.env) (fM:(cj pos (ax es X.env)).any (·.1)=rp):PE X (.Call (.Name x p) (e0::es) [] pos) (b8g X i k n u m t):=by
 intro pins s Y H Q I ⟨v,e,h⟩;refine fD (L2.thn (C6 hN hv hd mZ pins s Y H (λv' H'=>v'=v/\H'=H) I ⟨v,e,rfl,rfl⟩) λu1 s1 ⟨v',H',I1,r1,z1,z2⟩=>?_);subst z1;subst z2;rw[he];refine PySem.W.callWith_of (P:=λh=>∃fa fo fd,u1=.ref fa/\h.get? fa=cz fo/\fo.data=.func fd) (by show ((rp||(cj pos (ax es X.env)).any (·.1))||false)=rp;rw[fM];rfl) (λh ⟨fa,fo,fd,q1,q2,q3⟩=>?_) (nT ?_)
 ·subst q1;obtain⟨cls,dict,data,slots⟩:=fo;have CK:data=.func fd:=q3;subst CK;exact⟨.frame,.inl rfl,(PySem.W.Looks.ld (part:=el) q2).andThen .now⟩
 ·have wD:=ha pos pins s1 Y H' _ I1 h;rw[he]at wD;refine L2.thn wD λus s2 ⟨vs,H2,I2,r2,⟨fa,fo,q1,q2,⟨fd,q3⟩,q4⟩,q5⟩=>⟨?_,?_⟩
  ·have yo:u1=.ref fa:=by rw[q1]at r1;exact r1
   exact⟨fa,fo,fd,yo,(I2.hok fa _ q2).1,q3⟩
  ·have yo:u1=.ref fa:=by rw[q1]at r1;exact r1
   subst yo;refine vf (fQ (q4 X.A X.stack s2 us vs Q E0 hr I2.env0 r2 q5) λr s' hq=>?_);cases r with
   |error e=>exact cM hq
   |ok fl=>
    cases fl with
    |ret u=>exact I2.after hq
    |next=>exact cM hq
    |brk=>exact cM hq
    |cont=>exact cM hq
def StE.getF{K:af}{U:List D}{Y:L2.St}{H P:Hp}{F:List aw}{Φ:Hp->V->Prop}(h:StE K M U Y H P F){i:Nat}(hm:M[i]?=cz (.fn Φ)):∃v,Y[i]?=cz (cz v)/\∀H',Same (cut H F) H'->Φ H' v:=by
 obtain⟨G,h1,h3⟩:=h.all;obtain⟨d,o,f,pre,post,e1,e2,⟨_,v,rfl,q⟩,e4,_⟩:=h1.at_ hm;exact⟨v,e2,q⟩
def b2x(i:Nat){k n:Nat}{m:List D->Option D}(hr:Room k X.A)(h:PAX X M (e0::es) f)(hm:M[i]?=cz (.fn (FnV X.prog X.w X.K X.mg X.base k n u m)):=by rfl)(hu:u.shut=p4:=by rfl)(hl:(e0::es).length=n:=by rfl)(hfl:∀U ds,f U=cz ds->ds.length=(e0::es).length)
  (hN:X.N[i]?=cz x:=by rfl) (hv:autoParam (NmV X x) ZY._auto_1)
  (he:ax (e0::es) X.env=(rp,cg e0 X.env)::ax es X.env:=by rfl) (fM:(cj pos (ax es X.env)).any (·.1)=rp:=by rfl) :
  PX X M (.Call (.Name x p) (e0::es) [] pos) (eCl m f) (.new u):=by
 obtain⟨t,pa,qa⟩:=h;refine .mk ⟨_,b2w (i:=i) (n:=n) (m:=m) (u:=u) hr pa hN hv.1 hv.2.1 hv.2.2 he fM,λU Y H P F d Q S hf q=>?_⟩;obtain⟨ds,h1,hf⟩:=bnd hf;obtain⟨v,DB,DA⟩:=S.getF hm;refine⟨v,DB,qa U Y H P F ds _ S h1 λvs H1 e1 r1=>⟨DA H1 (i7.trans e1),?_⟩⟩;refine⟨ds,d,by rw[r1.length,hfl U ds h1,hl],r1,hf,λv H' fp e o nd fr=>q v H' (e1.trans e) ⟨fp,o.shut_out (λa ha=>?_) u hu,nd,λa ha=>e1.free (fr a ha)⟩⟩;rcases ay.mp ha with z|z
 ·exact o.lst u a z
 ·exact S.lst' (e1.trans e) a z
end
def spL(K:af)(n:Nat)(Φ:(List D->Option D)->Hp->V->Prop)(m:(List D->Option D)->List D->Option D)(u:Ty):Sp:=λvs H Q _=>∃rs v gm ds d,vs=rs++[v]/\rs.length=n/\DenAll K H rs ds/\(∀H',Same H H'->Φ gm H' v)/\m gm ds=cz d/\
 ∀v H' fp,Same H H'->Own K H' fp u v d fp->fp.Nodup->(∀a∈fp,H a=el)->Q v H'
def fnL(us:List Ty)(n:Nat)(g:(List D->Option D)->EvS):(List D->Option D)->List D->Option D:=λgm ds=>if argsOk us ds then (g gm (ds++(.none::aR n .none))).bind λo=>match o with
 |.rt d=>cz d
 |_=>el
 else el
theorem StAll.app{K:af}{H:Hp}{F:List aw}:∀{M1 M2:List Md} {U1 U2:List D} {Y1 Y2:L2.St} {f1 f2:List aw},StAll K H F M1 U1 Y1 f1->StAll K H F M2 U2 Y2 f2->StAll K H F (M1++M2) (U1++U2) (Y1++Y2) (f1++f2)
 |[],_,_,_,_,_,_,_,h,q=>by simp only[StAll]at h;obtain⟨rfl,rfl,rfl⟩:=h;exact q
 |m::M,_,_,_,_,_,_,_,h,q=>by
  simp only[StAll]at h;obtain⟨d,U,o,Y,f,g,rfl,rfl,rfl,h1,h2⟩:=h;rw[ba];exact k9 h1 (StAll.app h2 q)
theorem a1U{K:af}{H:Hp}{F:List aw}:∀n:Nat,StAll K H F (aR n .dead) (aR n .none) (aR n el) []
 |0=>N1
 |n+1=>k9 (f:=[]) (g:=[]) rfl (a1U n)
def b2y{P:bB}{w:bQ}{K:af}{mg:bI->Option aj}{base:bU}{x:bI}{st:ig}{f:aw}{fd:dE}{N ps:List bI}{k n:Nat}{us:List Ty}{u:Ty}{Φ:(List D->Option D)->Hp->V->Prop}{g:(List D->Option D)->EvS}{M':(List D->Option D)->List Md}(F:Fun K x x st f fd)(S:FnScope N ps (j5 st))(mP:us.length+1=ps.length)(hn:N.length=ps.length+n)
  (hb:∀(gm:List D->Option D) (gn:aj) (A:bE) (outer:List oS) (s:av) (H:Hp) (E:XK),Room k (A.deeper (jm x (j5 st) s.heap.objs.size f gn))->PSsX (a0D CX0 P w K mg base N x (j5 st) f gn A outer s H E).nox u [] (us.map .own++(.fn (Φ gm)::aR n .dead)) (y8 st) (g gm) (M' gm)) :
  FnOk P w K mg base CX0 (k+1) f fd ps (spL K us.length Φ (fnL us n g) u):=by
 refine F.ok S (λvs H Q E h=>?_) (λgn A outer s H vs Q E hr h=>?_)
 ·obtain⟨rs,v,gm,ds,d,rfl,hl,_⟩:=h;rw[aN,hl];exact mP
 obtain⟨rs,v,gm,ds,d,rfl,hl,hd,hΦ,hm,q⟩:=h;obtain⟨t,p,r⟩:=(hb gm gn A outer s H E hr).out;refine⟨t,p,?_⟩;unfold fnL at hm;by_cases ha:argsOk us ds=p4
 ·rw[aH ha]at hm;obtain⟨o,h1,h2⟩:=bnd hm;cases o with
  |rt d'=>
   have jQ:cz d'=cz d:=h2;cases jQ
   have e:L2.start N (rs++[v])=rs.map cz++(cz v::aR n el):=by
    unfold L2.start;rw[show N.length-(rs++[v]).length=n by rw[aN,hl];show N.length-(us.length+1)=n;lia];simp
   rw[e];have h0:=T8 (K:=K) (H:=H) ha hd 0;simp only[gR,bj]at h0;have qX:=h0.app (k9 (K:=K) (H:=H) (F:=[]) (m:=.fn (Φ gm)) (d:=iM) (o:=cz v) (f:=[]) ⟨rfl,v,rfl,λH' e'=>hΦ H' (by rw[M3]at e';exact e')⟩ (a1U n));refine r _ _ _ H H [] (.rt d) ⟨⟨_,qX,bw,λa ha=>(nomatch ha)⟩,λa ha=>(nomatch ha),by rw[M3];exact Same.refl H⟩ h1 ?_;exact λv H' fp o nd fr e=>q v H' fp e o nd fr
  |_=>cases h2
 ·rw[aM ha]at hm;cases hm
section
variable {X:Cx}{M:List Md}{e0:Expr}{es:List Expr}{f:EvA}{u:Ty}{x y:bI}{p pv pos:eO}
def a5n:∀(U:List D) ds,f6 U=cz ds->ds.length=0:=λU ds h=>by cases h;rfl
def S7(h:∀U ds,fr U=cz ds->ds.length=n):∀U ds,b8 fa fr U=cz ds->ds.length=n+1:=λU ds q=>by
 obtain⟨x,h1,q⟩:=bnd q;obtain⟨xs,h2,q⟩:=bnd q;cases q
 rw[bx,h U xs h2]
def PAL(X:Cx)(M:List Md)(es:List Expr)(f:EvA)(Ψ:Hp->V->Prop):Prop:=
 ∃t,PA X es t/\∀(U:List D) (Y:L2.St) (H P:Hp) (F:List aw) (ds:List D) (Q:List V->Hp->Prop),StE X.K M U Y H P F->f U=cz ds->
  (∀vs v H',Same H H'->DenAll X.K H' vs ds->Ψ H' v->Q (vs++[v]) H')->t Y H Q
def S8(ha:PX X M a fa ca)(hr:PAL X M es fr Ψ)(hs:ax (a::es) X.env=(rp,cg a X.env)::ax es X.env:=by rfl):PAL X M (a::es) (b8 fa fr) Ψ:=by
 obtain⟨ta,pa,qa⟩:=ha.out;obtain⟨tr,pr,qr⟩:=hr;refine⟨_,m5 pa pr hs,λU Y H P F ds Q S hf q=>?_⟩;obtain⟨x,h1,hf⟩:=bnd hf;obtain⟨xs,h2,hf⟩:=bnd hf;cases hf
 exact qa U Y H P F _ _ S h1 λv H1 e1 r1=>qr U Y H1 P F _ _ (S.grow e1) h2 λvs w H2 e2 r2 hw=>q (v::vs) w H2 (e1.trans e2) (denAll_cons (r1.den.up e2) r2) hw
def a9a(i:Nat){Φ:Hp->V->Prop}(hm:M[i]?=cz (.fn Φ):=by rfl)(hN:X.N[i]?=cz y:=by rfl)(hv:autoParam (NmV X y) ZY._auto_1)
  (hs:ax [.Name y pv] X.env=(rp,cg (.Name y pv) X.env)::ax [] X.env:=by rfl):PAL X M [.Name y pv] f6 λH v=>∀H',Same H H'->Φ H' v:=by
 refine⟨_,m5 (C6 hN hv.1 hv.2.1 hv.2.2) q9 hs,λU Y H P F ds Q S hf q=>?_⟩;cases hf
 obtain⟨v,h1,h2⟩:=S.getF hm;exact⟨v,h1,q [] v H (Same.refl _) denAll_nil λH' e=>h2 H' (i7.trans e)⟩
def b0z(m:(List D->Option D)->List D->Option D)(gm:List D->Option D)(f:EvA):EvE:=λU=>(f U).bind (m gm)
def a4r(W:Has X.prog X.w X.K X.mg X.base x k ps (spL X.K n Φ m u))(hr:Room k X.A)(h:PAL X M (e0::es) f λH v=>∀H',Same H H'->Φ gm H' v)(hfl:∀U ds,f U=cz ds->ds.length=n)(hu:u.shut=p4:=by rfl)
  (hg:Gl X x:=by rfl) (ma:(x==("__debug__":bI))=rp:=by decide) (he:ax (e0::es) X.env=(rp,cg e0 X.env)::ax es X.env:=by rfl) (fM:(cj pos (ax es X.env)).any (·.1)=rp:=by rfl) :
  PX X M (.Call (.Name x p) (e0::es) [] pos) (b0z m gm f) (.new u):=by
 obtain⟨t,pa,qa⟩:=h;refine .mk ⟨_,a7j W hr pa hg ma he fM,λU Y H P F d Q S hf q=>?_⟩;obtain⟨ds,h1,hf⟩:=bnd hf;refine qa U Y H P F ds _ S h1 λvs v H1 e1 r1 hΦ=>?_
 show spL X.K n Φ m u ((vs++[v])++[]) H1 Q E0;rw[bj];refine⟨vs,v,gm,ds,d,rfl,by rw[r1.length];exact hfl U ds h1,r1,hΦ,hf,λv H' fp e o nd fr=>q v H' (e1.trans e) ⟨fp,o.shut_out (λa ha=>?_) u hu,nd,λa ha=>e1.free (fr a ha)⟩⟩;rcases ay.mp ha with z|z
 ·exact o.lst u a z
 ·exact S.lst' (e1.trans e) a z
end
def a6p:∀(l r:List aj),kj l->kj r->kj (l++r):=by
 intro l
 fun_induction kj l with
 |case1=>intro r _ h;exact h
 |case2 a t b u c rest ih=>intro r h1 h2;simp only[br,kj];exact ih r h1 h2
 |case3=>intro r h;exact h.elim
def b0A:∀(l r:List aj),kj l->lP pos (l++r)=cz cv->lP pos l=cz cv\/lP pos r=cz cv:=by
 intro l
 fun_induction kj l with
 |case1=>intro r _ h;exact .inr h
 |case2 a t b u c rest ih=>
  intro r h1 h2;simp only[br,lP]at h2 ⊢
  split at h2
  ·rename_i hc
   rw[aH hc];exact .inl h2
  ·rename_i hc
   rw[aM hc];exact ih r h1 h2
 |case3=>intro r h;exact h.elim
def LamO(q:bI)(params:lW)(body:Expr)(scope:gi)(clos:List (bI×aw))(H:Hp)(fa:aw):Prop:=
 ∃pm c' mh oc vs t b,H fa=cz (.frz (eF "<lambda>" q params body scope clos pm c' mh) (.own fa))/\H c'=cz (.frz oc (.own b))/\oc.data=.fields vs/\vs[1]?=cz (.str q t)
def LamO.up(h:LamO q params body scope clos H fa)(e:Same H H'):LamO q params body scope clos H' fa:=by
 obtain⟨pm,c',mh,oc,vs,t,b,h1,h2,h3⟩:=h;exact⟨pm,c',mh,oc,vs,t,b,e _ _ h1,e _ _ h2,h3⟩
def c0b(q:bI)(params:lW)(body:Expr)(scope:gi)(clos:List (bI×aw)):TE:=λ_ H Q=>∀fa H',Same H H'->LamO q params body scope clos H' fa->Q (.ref fa) H'
def b0B{X:Cx}(hx:x∈N6)(hP:E2 X.K x=cz P)(hc:X.env.code=.ref c)(hd:gB X.base c P)(hq:X.env.qual++"<lambda>"=V9 x)
  (lK:pC scope X.env=pure clos) (ui:defaultsOf params X.env=([],[])):PE X (.Lambda params body scope jV) (c0b (V9 x) params body scope clos):=by
 intro pins s Y H Q I h;refine PySem.W.kla_eval ui ?_;rw[hq];obtain⟨qs,t0,e1,e2⟩:=I.tabs x hx P hP;obtain⟨ps,wJ,ht,hf⟩:=(show a5H H s.heap P qs from I.hok P _ e1);have wg:s.heap.Ns bP X.mg:=I.mod.glob.keeps I.bk;obtain⟨bm,ob,b1,b2,b3,b4,b5,b6⟩:=I.mod.bmain;have Ez:bP≠P:=λq=>by
  obtain⟨o,es,ep,e,lD,_⟩:=wg;rw[q,wJ]at e;cases e;cases lD
 have EZ:bm≠P:=λq=>by
  have e:=I.bk _ _ b3;rw[q,wJ]at e;cases e;cases b4
 have E_:bm≠bP:=λq=>by
  obtain⟨o,es,ep,e,lD,_⟩:=I.mod.glob;rw[q,e]at b3;cases b3;rw[lD]at b6;cases b6
 have hB:s.heap.BuiltinsAt X.mg P:=⟨bm,ob,b1,b2,E_,EZ,I.bk _ _ b3,b4,b5,b6⟩;have hC:gB s.heap c P:=hd.keeps I.bk;cases hn:lP jV ps.toList with
 |some cv=>
  obtain⟨c',oc,vs,q,t,t',rfl,z2,z3,z4,z5⟩:=hf jV cv hn;rw[e2]at z5;have Ci:rZ (V9 x) t0=rZ q t':=aL z5;cases Ci
  refine PySem.W.kla_makeFunctionHit (mg:=X.mg) lK I.ok.glob wg hc hC wJ ht hn hB λmh h' tk hk hsz=>?_
  have oy:H h'.objs.size=el:=I.hok.fresh hsz;have I':=I.laid (a:=h'.objs.size) (o:=.frz (eF "<lambda>" (V9 x) params body scope clos ((X.mg "__name__").getD .none) c' mh) (.own h'.objs.size)) (t':=tk) (h':=h'.push (eF "<lambda>" (V9 x) params body scope clos ((X.mg "__name__").getD .none) c' mh)) (λb u e=>ag _ (hk b u e)) hsz ⟨aF _ rfl,_,aF _ rfl⟩;refine⟨.ref h'.objs.size,_,I',rfl,h _ _ (l6 oy _) ⟨_,c',mh,oc,vs,t,P,i6,?_,z3,z4⟩⟩;rw[g9 (o5 z2 oy)];exact z2
 |none=>
  refine PySem.W.kla_makeFunction (mg:=X.mg) lK I.ok.glob wg hc hC wJ ht hn Ez hB λc' mh h' tk Dt zv gS yN AU=>?_
  obtain⟨c2,oc,vs,t,rc,vS,Br,nV⟩:=yN;cases rc
  have Fj:P<s.heap.objs.size:=aK wJ;have zI:H c'=el:=I.hok.fresh zv;have Bo:s.heap.objs.size<=h'.objs.size:=dF (ij zv gS);have oy:H h'.objs.size=el:=I.hok.fresh Bo;have gK:c'≠h'.objs.size:=bg gS;have low:∀b u,H b=cz u->upd (upd H c' (.frz oc (.own P))) h'.objs.size (.frz (eF "<lambda>" (V9 x) params body scope clos ((X.mg "__name__").getD .none) c' mh) (.own h'.objs.size)) b=cz u:=λb u e=>by
   rw[g9 (o5 e oy),g9 (o5 e zI)];exact e
  have yz:∀b,b<s.heap.objs.size->H b=el->upd (upd H c' (.frz oc (.own P))) h'.objs.size (.frz (eF "<lambda>" (V9 x) params body scope clos ((X.mg "__name__").getD .none) c' mh) (.own h'.objs.size)) b=el:=λb hb e=>by
   rw[g9 (bg (bA hb Bo)),g9 (bg (bA hb zv))];exact e
  have kp:∀b o,b≠P->s.heap.get? b=cz o->(h'.push (eF "<lambda>" (V9 x) params body scope clos ((X.mg "__name__").getD .none) c' mh)).get? b=cz o:=λb o hb e=>ag _ (Dt b o hb e)
  have nP:∀b,H b=el->b≠P:=λb e z=>by rw[z,e1]at e;cases e
  have I':=I.un (t':=tk) (h':=h'.push (eF "<lambda>" (V9 x) params body scope clos ((X.mg "__name__").getD .none) c' mh)) (H':=upd (upd H c' (.frz oc (.own P))) h'.objs.size (.frz (eF "<lambda>" (V9 x) params body scope clos ((X.mg "__name__").getD .none) c' mh) (.own h'.objs.size)))
   ⟨λb o e n _ _=>kp b o (nP b n) e,λb o e n _ _=>⟨o.slots,kp b o (nP b n) e⟩,λb o e n _=>yz b (aK e) n,λb o e _=>by
    by_cases hb:b=P
    ·exact⟨_,by rw[hb];exact ag _ AU⟩
    ·exact⟨o,kp b o hb e⟩,λb xs e=>low b _ e,λb o u e=>low b _ e,λb Gw e=>⟨#[],by rw[low b _ e];simp⟩⟩ (λb u e=>by
    by_cases wA:b=h'.objs.size
    ·subst wA;rw[i6]at e;cases e
     exact⟨aF _ rfl,_,aF _ rfl⟩
    ·rw[g9 wA]at e;by_cases xN:b=c'
     ·subst xN;rw[i6]at e;cases e
      exact⟨ag _ vS,_,ag _ vS⟩
     ·rw[g9 xN]at e;by_cases Bv:b=P
      ·subst Bv;rw[e1]at e;cases e
       refine⟨_,ag _ AU,?_,λpos cv z=>?_⟩
       ·have:(ps++#[df jV.line,df jV.col,bb c']).toList=ps.toList++[df jV.line,df jV.col,bb c']:=by simp
        rw[this];exact a6p _ _ ht trivial
       ·have:(ps++#[df jV.line,df jV.col,bb c']).toList=ps.toList++[df jV.line,df jV.col,bb c']:=by simp
        rw[this]at z;rcases b0A _ _ ht z with z|z
        ·obtain⟨c3,CV,Cr,q3,t3,t4,y1,y2,y3,y4,y5⟩:=hf pos cv z;exact⟨c3,CV,Cr,q3,t3,t4,y1,low _ _ y2,y3,y4,y5⟩
        ·have z':cv=.ref c':=by
          simp only[df,lP]at z
          split at z
          ·exact (aL z).symm
          ·cases z
         refine⟨c',oc,vs,V9 x,t,t0,z',?_,Br,nV,e2⟩;rw[g9 gK,i6]
      ·refine (I.hok b u e).stay (λd v lD q=>kp d v (λz=>?_) q) (λd q=>low _ _ q) λd v q=>low _ _ q
       rcases lD with z'|z'
       ·exact Bv (z'.symm.trans z)
       ·rw[z,e1]at z';cases z')
  refine⟨.ref h'.objs.size,_,I',rfl,h _ _ (λb u e=>low b u e) ⟨_,c',mh,oc,vs,t,P,i6,?_,Br,nV⟩⟩;rw[g9 gK,i6]
def a9b(P:bB)(w:bQ)(K:af)(mg:bI->Option aj)(base:bU)(N:List bI)(q:bI)(scope:gi)(f:aw)(cd:aj)(cl:List (bI×aw))(A:bE)(outer:List oS)(s:av)(H:Hp):Cx where
 prog:=P
 w:=w
 K:=K
 mg:=mg
 base:=base
 A:=A.deeper (jA q scope s.heap.objs.size f cd cl)
 N:=N
 s₀:=s
 H₀:=H
 env:=jA q scope s.heap.objs.size f cd cl
 outer:=outer
 stack:=jA q scope s.heap.objs.size f cd cl::outer
 ex:=[]
 calm:=p4
 fn:=λ_=>rp
 pn:=[]
 xe:=λ_ _=>False
structure LamScope (N ps ys:List bI) (sc:gi) (cl:List (bI×aw)):Prop where
 kind:sc.kind=.function
 co:sc.isCoroutine=rp
 gen:sc.isGenerator=rp
 nd:N.Nodup
 pre:N=ps++ys
 par:∀x∈ps,sc.names.lookup x=cz .local
 fre:∀y∈ys,sc.names.lookup y=cz .free
 ncell:∀x∈sc.names,x.2≠.cell
 has:(sc.names.all λx=>x.2 !=.free||(cl.lookup x.1).isSome)=p4
def CellsIn(cl:List (bI×aw))(H:Hp):List bI->List V->Prop
 |[],vs=>vs=[]
 |y::ys,vs=>∃v r c ob uo,vs=v::r/\cl.lookup y=cz c/\H c=cz (.frz ob (.own c))/\ob.data=.cell (cz uo)/\RelV v uo/\CellsIn cl H ys r
section
variable {cl:List (bI×aw)}{H H':Hp}
theorem CellsIn.up(e:Same H H'):∀{ys:List bI} {vs:List V},CellsIn cl H ys vs->CellsIn cl H' ys vs
 |[],_,h=>h
 |y::ys,_,h=>by
  obtain⟨v,r,c,ob,uo,h1,h2,h3,h4,h5,h6⟩:=h;exact⟨v,r,c,ob,uo,h1,h2,e _ _ h3,h4,h5,CellsIn.up e h6⟩
theorem CellsIn.len:∀{ys:List bI} {vs:List V},CellsIn cl H ys vs->vs.length=ys.length
 |[],_,h=>by rw[show _=[] from h];rfl
 |y::ys,_,h=>by
  obtain⟨v,r,c,ob,uo,rfl,h2,h3,h4,h5,h6⟩:=h;rw[bx,bx,CellsIn.len h6]
theorem CellsIn.get:∀{ys:List bI} {vs:List V} {i:Nat} {y:bI} {v:V},CellsIn cl H ys vs->ys[i]?=cz y->vs[i]?=cz v->∃c ob uo,cl.lookup y=cz c/\H c=cz (.frz ob (.own c))/\ob.data=.cell (cz uo)/\RelV v uo
 |[],_,i,y,v,_,e,_=>by simp at e
 |y0::ys,_,0,y,v,h,e1,e2=>by
  obtain⟨v',r,c,ob,uo,rfl,h2,h3,h4,h5,h6⟩:=h;have FV:y0=y:=by simpa using e1
  have FU:v'=v:=by simpa using e2
  subst FV FU;exact⟨c,ob,uo,h2,h3,h4,h5⟩
 |y0::ys,_,i+1,y,v,h,e1,e2=>by
  obtain⟨v',r,c,ob,uo,rfl,h2,h3,h4,h5,h6⟩:=h;exact CellsIn.get h6 (by simpa using e1) (by simpa using e2)
end
def b2z(cl:List (bI×aw))(H:Hp):Prop:=∀y c,cl.lookup y=cz c->∃ob uo,H c=cz (.frz ob (.own c))/\ob.data=.cell uo
def fnE(us:List Ty)(rh:List D)(f:EvE):List D->Option D:=λds=>if argsOk us ds then f (ds++rh) else el
theorem b6k{K:af}{H:Hp}:∀{vs:List V} {ds:List D},DenAll K H vs ds->StAll K H [] (aR vs.length (.own .f)) ds (vs.map cz) []
 |_,[],h=>by rw[h.nil_inv];exact N1
 |_,d::ds,h=>by
  obtain⟨v,r,rfl,h1,h2⟩:=h.cons_inv;refine k9 (K:=K) (H:=H) (F:=[]) (m:=.own .f) (f:=[]) (g:=[]) ⟨v,rfl,?_⟩ (b6k h2);simp only[Own,M3];exact⟨trivial,h1⟩
theorem a1V:∀(ps:List α) (us:List β),((ps.zip us).map (·.1)).Sublist ps
 |[],_=>by rw[B_];exact Cc _
 |p::ps,[]=>by rw[List.zip_nil_right];exact List.nil_sublist _
 |p::ps,u::us=>by rw[dZ,aA];exact (a1V ps us).cons₂ p
def a3d{ps:List bI}{us:List aj}:∀{i:Nat} {y:bI} {v:aj},ps.Nodup->ps[i]?=cz y->us[i]?=cz v->(ps.zip us).reverse.lookup y=cz v:=by
 intro i y v nd h1 h2;have hm:(y,v)∈(ps.zip us).reverse:=by
  rw[kC];exact bp (by rw[gM];exact⟨h1,h2⟩)
 have hk:(((ps.zip us).reverse).map (·.1)).Nodup:=by
  rw[Gk];have h0:((ps.zip us).map (·.1)).Nodup:=nd.sublist (a1V ps us);exact List.pairwise_reverse.mpr (h0.imp λz=>dP z)
 have key:∀l:List (bI×aj),(l.map (·.1)).Nodup->(y,v)∈l->l.lookup y=cz v:=by
  intro l
  induction l with
  |nil=>intro _ h;cases h
  |cons p l ih=>
   intro hn hm;rw[aA,bz]at hn;obtain⟨k,z⟩:=p;rcases az.mp hm with e|e
   ·cases e;simp[List.lookup]
   ·have:(y==k)=rp:=by
     rw[gP];intro q;exact hn.1 (q▸aX.mpr ⟨_,e,rfl⟩)
    rw[fU,this];exact ih hn.2 e
 exact key _ hk hm
def b5b{P:bB}{w:bQ}{K:af}{mg:bI->Option aj}{base:bU}{k:Nat}{q:bI}{params:lW}{body:Expr}{scope:gi}{cl:List (bI×aw)}{N ps ys:List bI}{us:List Ty}{u:Ty}{f:EvE}{lE:List V}{rh:List D}{H:Hp}{fa:aw}
  (L:LamO q params body scope cl H fa) (S:LamScope N ps ys scope cl) (ub:∀x y c,cl.lookup x=cz c->cl.lookup y=cz c->x=y) (hC:CellsIn cl H ys lE) (xT:b2z cl H) (hD:DenAll K H lE rh) (mP:us.length=ps.length)
  (nz:∀(pm:aj) (c:aw) (mh:aj) (us:List aj),us.length=ps.length->qN (PySem.W.kla_fn "<lambda>" q params body scope cl pm (.ref c) mh) ⟨us,[]⟩=pure (ps.zip us))
  (hb:∀(c:aw) (A:bE) (outer:List oS) (s:av) (H:Hp),Room k (A.deeper (jA q scope s.heap.objs.size fa (.ref c) cl))->PX (a9b P w K mg base N q scope fa (.ref c) cl A outer s H) (us.map .own++aR ys.length (.own .f)) body f (.new u)) :
  FnV P w K mg base (k+1) ps.length u (fnE us rh f) H (.ref fa):=by
 obtain⟨pm,c',mh,oc,Cs,t0,b0,l1,l2,l3,l4⟩:=L;refine⟨fa,_,rfl,l1,⟨_,rfl⟩,λA outer s as vs Q E hr e0 rv ⟨ds,d,hl,hd,hm,hq⟩=>?_⟩;obtain⟨C,memC,vC⟩:∃C:List aw,(∀c∈C,∃y,cl.lookup y=cz c)/\∀y c,cl.lookup y=cz c->c∈C:=
  ⟨(cl.map (·.1)).filterMap λy=>cl.lookup y,λc hc=>let⟨y,_,e⟩:=d_.mp hc;⟨y,e⟩,λy c e=>d_.mpr ⟨y,aX.mpr ⟨(y,c),bZ e,rfl⟩,e⟩⟩
 have J:Junk H C:=λa ha u e=>by
  obtain⟨y,hy⟩:=memC a ha;obtain⟨ob,uo,h1,_⟩:=xT y a hy;rw[h1]at e;cases e
  exact⟨ob,rfl⟩
 have Dh:∀a∈C,∃u,H a=cz u:=λa ha=>by
  obtain⟨y,hy⟩:=memC a ha;obtain⟨ob,uo,h1,_⟩:=xT y a hy;exact⟨_,h1⟩
 have lim:s.heap.NoLimit:=e0.mod.nolimit.keeps λb o e=>(e0.bs b o e).1
 have ho:s.heap.get? fa=cz (eF "<lambda>" q params body scope cl pm c' mh):=(e0.hok fa _ l1).1;have EM:s.heap.CodeRec (.ref c') q:=⟨c',oc,Cs,t0,rfl,(e0.hok c' _ l2).1,l3,l4⟩;have pN:as.length=ps.length:=by rw[<-rv.length];exact hl
 have CY:ps.Nodup:=by have:=S.nd;rw[S.pre]at this;exact this.sublist (List.sublist_append_left _ _)
 refine PySem.W.kla_callFunE hr.depth ho rfl S.co S.gen rfl EM ?_;rw[nz pm c' mh as pN];refine ae (wpAny_newFunctionEnv S.ncell (λy hy=>S.par _ (gc hy).1) (λh₁ pB AX=>⟨lim.fresh _ AX,?_⟩) S.kind);show gL _ _ (.expr body (jA q scope s.heap.objs.size fa (.ref c') cl)) _ _;have oM:∀b o,s.heap.get? b=cz o->h₁.get? b=cz o:=λb o e=>AX.extBut b o (bg (aK e)) (ag _ e)
 have tG:∀b:aw,b∉(a9b P w K mg base N q scope fa (.ref c') cl A outer s (VS.cut H C)).ex:=λb z=>absurd (show b∈([]:List aw) from z) (by simp)
 have Ek:N.length=ps.length+ys.length:=by rw[S.pre,aN]
 have I:Inv (a9b P w K mg base N q scope fa (.ref c') cl A outer s (VS.cut H C)) [] (vs.map cz++lE.map cz) (VS.cut H C) {s with heap:=h₁,toks:=s.toks+(ps.zip as).length}:=by
  refine⟨⟨e0.mod,S.kind,rfl,rfl,aD _,ub,λx hx=>?_,λx c hx _=>(nomatch hx),λ_=>hr.hd,bE.frames_deeper e0.frames,.inr ⟨rfl,rfl⟩,λb z=>absurd z (tG b),λb o e=>⟨(e0.bs b o e).1,B4 (e0.bs b o e).2⟩,e0.bsz,λb _ _=>tG b,λb z=>absurd z (tG b),e0.funs,λb hb=>B4 (e0.frf b hb),b0y e0.tabs J⟩,
   rfl,e0.bare,Un.kept oM,⟨_,pB,λi x v h1 h2 h3=>?_⟩,λx c e=>?_,B4 (e0.hok.fresh (aD _)),λx c e=>W6 (vC x c e),λp hp=>absurd (show p∈([]:List (aw×fN)) from hp) (by simp),(a6o e0.hok J).kept oM,?_⟩
  ·have tJ:scope.names.lookup x=cz .cell\/scope.names.lookup x=cz .free:=hx;rcases tJ with z|z
   ·exact absurd rfl (S.ncell _ (bZ z))
   ·have w:=aY.mp S.has _ (bZ z);rw[ia]at w;rcases w with w|w
    ·exact absurd (show (fy !=fy)=p4 from w) (by decide)
    ·exact fL.mp w
  ·have lN:(ps++ys)[i]?=cz x:=by rw[<-S.pre];exact h1
   by_cases hi:i<ps.length
   ·rw[gN hi]at lN;rw[gN (by rw[ah,hl];exact hi),bc]at h2;have jQ:vs[i]?=cz v:=by
     cases e:vs[i]? with
     |none=>rw[e]at h2;cases h2
     |some a=>rw[e]at h2;cases h2;rfl
    obtain⟨u',hu,r⟩:=rv.get jQ;exact⟨u',r,.inl ⟨S.par x (bp lN),a3d CY lN hu⟩⟩
   ·rw[fg (by lia)]at lN;rw[fg (by rw[ah,hl];lia),ah,bc,hl]at h2;have jQ:lE[i-ps.length]?=cz v:=by
     cases e:lE[i-ps.length]? with
     |none=>rw[e]at h2;cases h2
     |some a=>rw[e]at h2;cases h2;rfl
    obtain⟨c,ob,uo,z1,z2,z3,z4⟩:=hC.get lN jQ;exact⟨uo,z4,.inr ⟨.inr (S.fre x (bp lN)),c,z1,ob,oM c ob (e0.hok c _ z2).1,z3⟩⟩
  ·obtain⟨ob,uo,z1,z2⟩:=xT x c e;exact⟨uo,ob,oM c ob (e0.hok c _ z1).1,z2⟩
  ·show _=N.length;rw[aN,ah,ah,hl,hC.len,Ek]
 obtain⟨t,pt,qt⟩:=(hb c' A outer s (VS.cut H C) (hr.deeper _)).out;unfold fnE at hm;by_cases ha:argsOk us ds=p4
 ·rw[aH ha]at hm;have zF:DenAll K (VS.cut H C) vs ds:=DenAll.junk J ds hd;have ET:DenAll K (VS.cut H C) lE rh:=DenAll.junk J rh hD;have h0:=T8 (K:=K) (H:=VS.cut H C) ha zF 0;simp only[gR,bj]at h0;have h1:=b6k ET;rw[hC.len]at h1;have SE:StE K (us.map .own++aR ys.length (.own .f)) (ds++rh) (vs.map cz++lE.map cz) (VS.cut H C) (VS.cut H C) []:=⟨⟨_,h0.app h1,λa ha=>(nomatch ha)⟩,λa ha=>(nomatch ha),by rw[M3];exact Same.refl _⟩;refine PySem.W.kla_codeExpr (dq (pt [] _ _ (VS.cut H C) (λv H'=>Same (VS.cut H C) H'/\ResR K (.new u) (VS.cut H C) H' [] v d) I (qt (ds++rh) _ (VS.cut H C) (VS.cut H C) [] d _ SE hm λv H' e r=>⟨e,r⟩)) (λv s' hs=>?_) λe s' hs=>(show False from hs).elim);obtain⟨v',H',J',r',e',fp,o,nd,fr⟩:=hs;have oY:∀c∈C,H' c=el:=λc hc=>by
   obtain⟨y,hy⟩:=memC c hc;exact J'.freeC y c hy
  have inn:∀{b:aw} {o:HO},H' b=cz o->a6n C H H' b=cz o:=λ{b o} q=>by
   rw[s9 (λz=>by rw[oY b z]at q;cases q)];exact q
  have nC:∀{b:aw},H b=el->b∉C:=λ{b} n z=>by
   obtain⟨u,hu⟩:=Dh b z;rw[n]at hu;cases hu
  have BJ:∀a∈fp,a∉C:=λa ha z=>by
   obtain⟨ys,q⟩:=o.lst u a ha;rw[oY a z]at q;cases q
  refine (show CE outer P w H s Q v s' from⟨v',a6n C H H',J'.os,J'.bare,⟨λb o q n hb hx=>J'.base.keep b o q (B4 n) hb hx,λb o q n hb hx=>J'.base.slot b o q (B4 n) hb hx,λb o q n hx=>?_,J'.base.there,λb xs e=>?_,λb o u e=>?_,λb ps e=>?_⟩,λb o e=>?_,r',hq v' _ fp (λb o e=>?_) ?_ nd λa ha=>?_⟩)
  ·rw[s9 (nC n)];exact J'.base.free b o q (B4 n) hx
  ·have nb:=J.out e λo z=>(nomatch z)
   rw[s9 nb];exact J'.base.tups b xs (j7 nb e)
  ·by_cases hb:b∈C
   ·rw[a0Q hb];exact e
   ·rw[s9 hb];exact J'.base.frzs b o u (j7 hb e)
  ·have nb:=J.out e λo z=>(nomatch z)
   obtain⟨more,z⟩:=J'.base.tbls b ps (j7 nb e);exact⟨more,by rw[s9 nb];exact z⟩
  ·by_cases hb:b∈C
   ·rw[a0Q hb]at e;obtain⟨ob,rfl⟩:=J b hb o e;have z:=(e0.hok b _ e).1;have z':=J'.base.keep b ob z (W6 hb) (λy=>by rw[e0.frf b y]at e;cases e) (by intro y;exact absurd (show b∈([]:List aw) from y) (by simp));exact⟨z',_,z'⟩
   ·rw[s9 hb]at e;exact (J'.hok b o e).stay (λ_ _ _ q=>q) (λb q=>inn q) λb u q=>inn q
  ·by_cases hb:b∈C
   ·rw[a0Q hb];exact e
   ·rw[s9 hb];exact e' b o (j7 hb e)
  ·refine Own.frame (λb o' hb=>?_) u o λa ha=>s9 (BJ a ha)
   obtain⟨n1,n2⟩:=o7 hb;exact j7 (λz=>n1 (aC _ z)) (inn n2)
  ·have:=fr a ha;rw[Y1 (BJ a ha)]at this;exact this
 ·rw[aM ha]at hm;cases hm
def a9c(X:Cx)(cl:List (bI×aw)):List bI->List Nat->Prop
 |[],js=>js=[]
 |y::ys,js=>∃j r c,js=j::r/\X.N[j]?=cz y/\X.env.kindOf y=cz .cell/\X.env.cells.lookup y=cz c/\cl.lookup y=cz c/\a9c X cl ys r
def c0c(X:Cx)(cl:List (bI×aw)):Prop:=∀p∈cl,X.env.cells.lookup p.1=cz p.2/\X.fn p.1=p4
def b5c(Y:L2.St):List Nat->List V->Prop
 |[],vs=>vs=[]
 |j::js,vs=>∃v r,vs=v::r/\Y[j]?=cz (cz v)/\b5c Y js r
def b8h(X:Cx)(cl:List (bI×aw))(ys:List bI)(js:List Nat)(sp:Sp)(t:TA):TE:=λY H Q=>t Y H λvs H1=>∃lE,b5c Y js lE/\
 ∀(H2:Hp) (C:List aw),(∀x y c,cl.lookup x=cz c->cl.lookup y=cz c->x=y)->Same H1 H2->CellsIn cl H2 ys lE->b2z cl H2->Junk H2 C->(∀b,b∉C->H2 b=H1 b)->(∀b∈C,H1 b=el)->sp vs H2 (λv H'=>Junk H' C->Q v (VS.cut H' C)) E0
theorem a6q{cl:List (bI×aw)}(I:Inv X pins Y H s)(h2:∀y c,cl.lookup y=cz c->∀ob,s.heap.get? c=cz ob->H2 c=cz (.frz ob (.own c))) :
  ∀{ys:List bI} {js:List Nat} {lE:List V},a9c X cl ys js->b5c Y js lE->CellsIn cl H2 ys lE
 |[],js,lE,h,q=>by
  rw[show js=[] from h]at q;exact q
 |y::ys,_,lE,h,q=>by
  obtain⟨j,r,c,rfl,h1,h3,h4,h5,h6⟩:=h;obtain⟨v,rs,rfl,q1,q2⟩:=q;obtain⟨m,hn,hl⟩:=I.loc;obtain⟨u,ru,lk⟩:=hl j y v h1 q1 (.inr (.inl h3));rcases lk with⟨k,_⟩|⟨k,c',e',ob,z1,z2⟩
  ·rw[h3]at k;cases k
  ·rw[h4]at e';cases e'
   exact⟨v,rs,c,ob,u,rfl,h5,h2 y c h5 ob z1,z2,ru,a6q I h2 h6 q2⟩
section
variable {X:Cx}{k:Nat}{f:aw}{fd:dE}{ps:List bI}{sp:Sp}{x:bI}{p pos:eO}{e:Expr}{es:List Expr}{t:TA}{cl:List (bI×aw)}{ys:List bI}{js:List Nat}
def b2A(F:FnOk X.prog X.w X.K X.mg X.base CX0 k f fd ps sp)(hr:Room k X.A)(hg:Gl X x)(hm:X.mg x=cz (.ref f))(hk:fT X.K (.ref f)=p4)(hb:Binds X.K fd ps [])(ha:PA X (e::es) t)(uj:a9c X cl ys js)(jx:c0c X cl)
  (ma:(x==("__debug__":bI))=rp) (he:ax (e::es) X.env=(rp,cg e X.env)::ax es X.env) (fM:(cj pos (ax es X.env)).any (·.1)=rp) :
  PE X (.Call (.Name x p) (e::es) [] pos) (b8h X cl ys js sp t):=by
 intro pins s0 Y H0 Q I0 h;refine fD (a4W I0 hg hm ?_ ma);refine Aj (h₀:=X.base) I0.ok.mod.kin hk (L2.thn (ha pos pins s0 Y H0 _ I0 h) λus s ⟨vs,H,I,r,lE,EL,q⟩=>⟨I.kIn,?_⟩) he fM;obtain⟨C,memC,vC⟩:∃C:List aw,(∀c∈C,∃y,cl.lookup y=cz c)/\∀y c,cl.lookup y=cz c->c∈C:=
  ⟨(cl.map (·.1)).filterMap λy=>cl.lookup y,λc hc=>let⟨y,_,e⟩:=d_.mp hc;⟨y,e⟩,λy c e=>d_.mpr ⟨y,aX.mpr ⟨(y,c),bZ e,rfl⟩,e⟩⟩
 have oP:∀c∈C,∃y,X.env.cells.lookup y=cz c/\X.fn y=p4:=λc hc=>by
  obtain⟨y,hy⟩:=memC c hc;exact⟨y,jx _ (bZ hy)⟩
 have oY:∀c∈C,H c=el:=λc hc=>by
  obtain⟨y,hy,_⟩:=oP c hc;exact I.freeC y c hy
 have mL:∀c∈C,∃ob v,s.heap.get? c=cz ob/\ob.data=.cell v:=λc hc=>by
  obtain⟨y,hy,_⟩:=oP c hc;obtain⟨v,ob,z1,z2⟩:=I.cell y c hy;exact⟨ob,v,z1,z2⟩
 have sQ:∀c∈C,X.s₀.heap.objs.size<=c:=λc hc=>by
  obtain⟨y,hy,hf⟩:=oP c hc;exact I.ok.cab y c hf hy
 obtain⟨H2,qK,mG⟩:∃H2:Hp,(∀c∈C,∀ob,s.heap.get? c=cz ob->H2 c=cz (.frz ob (.own c)))/\∀b,b∉C->H2 b=H b:=
  ⟨λb=>if b∈C then (s.heap.get? b).map (λo=>HO.frz o (.own b)) else H b,λc hc ob z=>by show (if c∈C then _ else _)=_;rw[aH hc,z];rfl,λb hb=>aM hb⟩
 have lG:Same H H2:=λb o e=>by
  rw[mG b (λz=>by rw[oY b z]at e;cases e)];exact e
 have J2:Junk H2 C:=λa hm u e=>by
  obtain⟨ob,v,z1,_⟩:=mL a hm;rw[qK a hm ob z1]at e;cases e
  exact⟨ob,rfl⟩
 have pq:HOk X.prog X.w H2 s.heap:=λb o e=>by
  by_cases hb:b∈C
  ·obtain⟨ob,v,z1,_⟩:=mL b hb;rw[qK b hb ob z1]at e;cases e
   exact⟨z1,_,z1⟩
  ·rw[mG b hb]at e;exact (I.hok b o e).stay (λ_ _ _ q=>q) (λb q=>lG _ _ q) λb u q=>lG _ _ q
 have e0:Env0 X.prog X.w X.K X.mg X.base X.A X.stack s H2:=by
  have z:=I.env0;refine⟨z.frames,z.mod,λb o e=>⟨(z.bs b o e).1,?_⟩,z.bsz,z.funs,λb hb=>?_,pq,z.bare,λx hx p e=>?_⟩
  ·rw[mG b λhc=>absurd (bA (aK e) (bL I.ok.bsz (sQ b hc))) (dw _)];exact (z.bs b o e).2
  ·rw[mG b λhc=>?_]
   ·exact z.frf b hb
   ·rcases az.mp (I.stkSub b hb) with e|e
    ·obtain⟨y,hy,_⟩:=oP b hc;exact I.cne y b hy e
    ·obtain⟨_,o,ho,_⟩:=I.ok.funs.mem e;exact absurd (bA (aK ho) (sQ b hc)) (dw _)
  ·obtain⟨qs,t',e1,e2⟩:=z.tabs x hx p e;exact⟨qs,t',lG _ _ e1,e2⟩
 have qm:=q H2 C (λx y c z1 z2=>I.ok.inj x y c (jx _ (bZ z1)).1 (jx _ (bZ z2)).1) lG (a6q I (λy c hy ob z=>qK c (vC y c hy) ob z) uj EL) (λy c hy=>by
  obtain⟨ob,v,z1,z2⟩:=mL c (vC y c hy);exact⟨ob,v,qK c (vC y c hy) ob z1,z2⟩) J2 mG oY
 have r2:Vals vs (us++[]):=by rw[bj];exact r
 have hl:(us++[]).length=ps.length:=by rw[<-r2.length];exact F.len _ _ _ _ qm
 refine vf (fQ (F.run X.A X.stack s H2 ⟨us,[]⟩ (us++[]) vs _ E0 hr e0 (hb s us I.kIn hl) r2 qm) λr s' hq=>?_);cases r with
 |error e=>exact cM hq
 |ok fl=>
  cases fl with
  |next=>exact cM hq
  |brk=>exact cM hq
  |cont=>exact cM hq
  |ret u=>
   obtain⟨v,H',os,bare,un,qx,rv,qv⟩:=(show CE X.stack X.prog X.w H2 s _ u s' from hq);have fz:∀c∈C,∃ob,s.heap.get? c=cz ob/\H' c=cz (.frz ob (.own c))/\s'.heap.get? c=cz ob:=λc hc=>by
    obtain⟨ob,v,z1,_⟩:=mL c hc;have z2:=un.frzs c ob _ (qK c hc ob z1);exact⟨ob,z1,z2,(qx c _ z2).1⟩
   have J':Junk H' C:=λa hm u e=>by
    obtain⟨ob,_,z,_⟩:=fz a hm;rw[z]at e;cases e
    exact⟨ob,rfl⟩
   have n2:∀b,H b=el->b∉C->H2 b=el:=λb n hb=>by rw[mG b hb];exact n
   have oC:∀b u,H b=cz u->b∉C:=λb u e z=>by rw[oY b z]at e;cases e
   have Ct:Un (frs X.stack) [] H (VS.cut H' C) s.heap s'.heap:=by
    refine⟨λb o e n hb hx=>?_,λb o e n hb hx=>?_,λb o e n hx=>?_,un.there,λb xs e=>?_,λb o u e=>?_,λb ps e=>?_⟩
    ·by_cases hc:b∈C
     ·obtain⟨ob,z1,_,z3⟩:=fz b hc;rw[e]at z1;cases z1
      exact z3
     ·exact un.keep b o e (n2 b n hc) hb hx
    ·by_cases hc:b∈C
     ·obtain⟨ob,z1,_,z3⟩:=fz b hc;rw[e]at z1;cases z1
      exact⟨o.slots,z3⟩
     ·exact un.slot b o e (n2 b n hc) hb hx
    ·by_cases hc:b∈C
     ·exact W6 hc
     ·exact B4 (un.free b o e (n2 b n hc) hx)
    ·exact j7 (oC b _ e) (un.tups b xs (lG _ _ e))
    ·exact j7 (oC b _ e) (un.frzs b o u (lG _ _ e))
    ·obtain⟨more,z⟩:=un.tbls b ps (lG _ _ e);exact⟨more,j7 (oC b _ e) z⟩
   exact⟨v,VS.cut H' C,I.call' os Ct (a6o qx J') bare (λb z=>absurd z (by simp)),rv,qv J'⟩
end
def Q7(scope:gi)(env:oS):List (bI×aw):=scope.names.foldl (λcs p=>if p.2==.free then (match env.cells.lookup p.1 with|some c=>(p.1,c)::cs|none=>cs) else cs) []
def a7R:∀p∈Q7 scope env,env.cells.lookup p.1=cz p.2:=by
 have key:∀(l:List (bI×jd)) (cs:List (bI×aw)),(∀p∈cs,env.cells.lookup p.1=cz p.2)->∀p∈l.foldl (λcs p=>if p.2==.free then (match env.cells.lookup p.1 with|some c=>(p.1,c)::cs|none=>cs) else cs) cs,env.cells.lookup p.1=cz p.2:=by
  intro l
  induction l with
  |nil=>intro cs h;exact h
  |cons a l ih=>
   intro cs h;rw[pI];refine ih _ λp hp=>?_
   split at hp
   ·split at hp
    ·rename_i c hc
     rcases az.mp hp with e|e
     ·rw[e];exact hc
     ·exact h p e
    ·exact h p hp
   ·exact h p hp
 exact key _ _ λp hp=>(nomatch hp)
def b5d{X:Cx}(oy:∀x,X.fn x=p4:=by exact λ_=>rfl):c0c X (Q7 scope X.env):=λp hp=>⟨a7R p hp,oy _⟩
section
variable {X:Cx}{M:List Md}{e0:Expr}{es:List Expr}{f:EvA}{u uf:Ty}{x:bI}{p pos jV:eO}{params:lW}{body:Expr}{scope:gi}{ys:List bI}{js:List Nat}
def b5e(hx:y∈N6)(hP:E2 X.K y=cz P)(hc:X.env.code=.ref c)(hd:gB X.base c P)(hq:X.env.qual++"<lambda>"=V9 y)
  (lK:pC scope X.env=pure (Q7 scope X.env):=by rfl) (ui:defaultsOf params X.env=([],[]):=by rfl) (hs:ax [.Lambda params body scope jV] X.env=(rp,cg (.Lambda params body scope jV) X.env)::ax [] X.env:=by rfl) :
  PAL X M [.Lambda params body scope jV] f6 λH v=>∃fa,v=.ref fa/\LamO (V9 y) params body scope (Q7 scope X.env) H fa:=by
 refine⟨_,m5 (b0B hx hP hc hd hq lK ui) q9 hs,λU Y H P F ds Q S hf q=>?_⟩;cases hf
 exact λfa H' e L=>q [] (.ref fa) H' e denAll_nil ⟨fa,rfl,L⟩
def b8i(M:List Md):List Nat->Prop
 |[]=>True
 |j::js=>(∃w,M[j]?=cz (.own w))/\b8i M js
theorem a9d{K:af}{U:List D}{Y:L2.St}{H P:Hp}{F:List aw}(S:StE K M U Y H P F):∀{js:List Nat},b8i M js->∃lE,b5c Y js lE/\DenAll K H lE (js.map λj=>U.getD j .none)
 |[],_=>⟨[],rfl,denAll_nil⟩
 |j::js,h=>by
  obtain⟨⟨w,hw⟩,h2⟩:=h;obtain⟨v,fp,e,o,_⟩:=S.get hw;obtain⟨lE,q1,q2⟩:=a9d S h2;exact⟨v::lE,⟨v,lE,rfl,e,q1⟩,denAll_cons (o.den w) q2⟩
def b5f(m:(List D->Option D)->List D->Option D)(us:List Ty)(js:List Nat)(fb:EvE)(f:EvA):EvE:=λU=>(f U).bind (m (fnE us (js.map λj=>U.getD j .none) fb))
end
def b2B{P:bB}{w:bQ}{K:af}{mg:bI->Option aj}{base:bU}{x:bI}{st:ig}{f:aw}{fd:dE}{N ps:List bI}{k n:Nat}{us:List Ty}{u:Ty}{g:EvS}{M':List Md}(F:Fun K x x st f fd)(S:FnScope N ps (j5 st))(mP:us.length=ps.length)(hn:N.length=ps.length+n)
  (hb:∀(A:bE) (outer:List oS) (s:av) (H:Hp) (E:XK),Room k (A.deeper (jm x (j5 st) s.heap.objs.size f fd.code))->PSsX (a0D CX0 P w K mg base N x (j5 st) f fd.code A outer s H E).nox u [] (us.map .own++aR n .dead) (y8 st) g M') :
  FnOk P w K mg base CX0 (k+1) f fd ps (spD K ps.length (fnD us n g) u):=by
 obtain⟨oc,od,kV,doc,pm,an,gn,ct,oZ,rfl,lk,mZ⟩:=F.ex;refine b6a lk mZ S (λvs H Q E ⟨ds,d,hl,_⟩=>hl) λA outer s H vs Q E hr ⟨ds,d,hl,hd,hm,q⟩=>?_
 obtain⟨t,p,r⟩:=(hb A outer s H E hr).out;refine⟨t,p.nox,?_⟩;unfold fnD at hm;by_cases ha:argsOk us ds=p4
 ·rw[aH ha]at hm;obtain⟨o,h1,h2⟩:=bnd hm;cases o with
  |rt d'=>
   have jQ:cz d'=cz d:=h2;cases jQ
   have e:L2.start N vs=vs.map cz++aR n el:=by
    unfold L2.start;rw[show N.length-vs.length=n by lia]
   rw[e];refine r _ (ds++aR n iM) _ H H [] (.rt d) ⟨⟨[],T8 ha hd n,bw,λa ha=>(nomatch ha)⟩,λa ha=>(nomatch ha),by rw[M3];exact Same.refl H⟩ h1 ?_;exact λv H' fp o nd fr e=>q v H' fp e o nd fr
  |_=>cases h2
 ·rw[aM ha]at hm;cases hm
def b2C{K:af}{base:bU}{fd:dE}(e:(E2 K x).isSome=p4)(X:K.In base)(G:base.Ns bP mg)(a:gG K bP x=cz (cz (.ref f)))(l:K.lookup f=cz ⟨oc,od,.func fd,sl⟩) :
  ∃c p,fd.code=.ref c/\E2 K x=cz p/\gB base c p:=by
 obtain⟨p,hp⟩:=fL.mp e;obtain⟨f',GF,GD,BK,Av,c,h1,h2,h3,h4⟩:=a4h hp X G;have h5:=kg X G a;rw[h1]at h5;cases h5
 rw[l]at h2;cases h2
 exact⟨c,p,h3,hp,h4⟩
end VS
namespace VS
open PySem PySem.Spec L2
def a5o:FnOk P w K mg base CX0 k f fd ps (spD K n (λ_=>el) u):=
 ⟨λ_ _ _ _ ⟨_,_,_,_,hm,_⟩=>(nomatch hm),λ_ _ _ _ _ _ _ _ _ _ _ _ _ ⟨_,_,_,_,hm,_⟩=>(nomatch hm)⟩
end VS
namespace VS
open PySem
abbrev Up(xs:List Nat):Prop:=xs.Pairwise (· < ·)
def AtB(xs:List Nat)(j p:Nat):Prop:=p<=xs.length/\(∀i (h:i<xs.length),i<p->xs[i]<j)/\∀i (h:i<xs.length),p<=i->¬ xs[i]<j
def a4s(h:Up xs)(hk:k<xs.length)(hi:i<k):xs[i]<xs[k]:=List.pairwise_iff_getElem.mp h i k (by lia) hk hi
def AtB.uniq(a:AtB xs j p)(b:AtB xs j q):p=q:=by
 rcases Nat.lt_trichotomy p q with c|c|c
 ·exact absurd (b.2.1 p (by have:=b.1;lia) c) (a.2.2 p (by have:=b.1;lia) (aD _))
 ·exact c
 ·exact absurd (a.2.1 q (by have:=a.1;lia) c) (b.2.2 q (by have:=a.1;lia) (aD _))
def b2D{xs:Array Nat}(hs:Up xs.toList):∀(f lo hi:Nat),lo<=hi->hi<=xs.size->hi<=lo+f->(∀i (h:i<xs.toList.length),i<lo->xs.toList[i]<j)->(∀i (h:i<xs.toList.length),hi<=i->¬ xs.toList[i]<j)->
  AtB xs.toList j (qP xs j f lo hi):=by
 intro f
 induction f with
 |zero=>
  intro lo hi h1 h2 h3 a b;have e:lo=hi:=by lia
  subst e;rw[qP];exact⟨by simpa using h2,a,b⟩
 |succ f ih=>
  intro lo hi h1 h2 h3 a b;rw[qP];by_cases c:lo<hi
  ·rw[aH c];have hm:(lo+hi) / 2<xs.size:=by lia
   have uO:(lo+hi) / 2<xs.toList.length:=by simpa using hm
   have eg:xs.getD ((lo+hi) / 2) j=xs.toList[(lo+hi) / 2]:=by simp[Array.getD,hm]
   simp only[eg];by_cases d:xs.toList[(lo+hi) / 2]<j
   ·rw[aH d];refine ih _ _ (by lia) h2 (by lia) (λi kZ hl=>?_) b;rcases gH i ((lo+hi) / 2) with z|z
    ·exact fE (a4s hs uO z) d
    ·have:i=(lo+hi) / 2:=by lia
     subst this;exact d
   ·rw[aM d];refine ih _ _ (by lia) (by lia) (by lia) a (λi kZ hl=>?_);rcases gH ((lo+hi) / 2) i with z|z
    ·have:=a4s hs kZ z;lia
    ·have:i=(lo+hi) / 2:=by lia
     subst this;exact d
  ·rw[aM c];have e:lo=hi:=by lia
   subst e;exact⟨by simpa using h2,a,b⟩
def below_at{xs:Array Nat}(hs:Up xs.toList)(j:Nat):AtB xs.toList j (eL xs j):=by
 unfold eL;exact b2D hs _ _ _ (b_ _) (aD _) (by lia) (λi _ h=>by lia) (λi h h'=>by simp at h;lia)
def a7S{xs:Array Nat}(hs:Up xs.toList):eL xs 0=0:=(below_at hs 0).uniq ⟨b_ _,λ_ _ h=>by lia,λ_ _ _=>by lia⟩
def a7T{xs:Array Nat}(hs:Up xs.toList)(hi:i<xs.toList.length):eL xs (xs.toList[i]+1)=i+1:=by
 refine (below_at hs _).uniq ⟨hi,λk hk h=>?_,λk hk h=>?_⟩
 ·rcases gH k i with z|z
  ·have:=a4s hs hi z;lia
  ·have:k=i:=by lia
   subst this;lia
 ·have:=a4s hs hk (show i<k by lia);lia
def b8j(hs:Up xs)(h:AtB xs j p)(hj:j∉xs):Up (xs.take p++j::xs.drop p):=by
 have h1:∀x∈xs.take p,x<j:=λx hx=>by
  obtain⟨i,hi,rfl⟩:=fG.mp hx;rw[ef]at hi;rw[Cb];exact h.2.1 i (by lia) (by lia)
 have h2:∀x∈xs.drop p,j<x:=λx hx=>by
  obtain⟨i,hi,rfl⟩:=fG.mp hx;rw[kD]at hi;have z:=h.2.2 (p+i) (by lia) (by lia);rw[List.getElem_drop];have:xs[p+i]'(by lia)≠j:=λe=>hj (e▸cH _)
  lia
 rw[Up,je,jN];refine⟨hs.take,⟨h2,hs.drop⟩,λa ha b hb=>?_⟩;rcases az.mp hb with rfl|hb
 ·exact h1 a ha
 ·exact fE (h1 a ha) (h2 b hb)
def a6r{t:gA}(hs:Up t.place.toList)(h:∀i,t.slot j≠.live i):j∉t.place.toList:=λhj=>by
 obtain⟨i,hi,e⟩:=fG.mp hj;have hb:eL t.place j=i:=by
  refine (below_at hs j).uniq ⟨dF hi,λk hk z=>?_,λk hk z=>?_⟩
  ·have:=a4s hs hi z;lia
  ·rcases gH i k with y|y
   ·have:=a4s hs hk y;lia
   ·have:k=i:=by lia
    subst this;lia
 apply h i;have kZ:i<t.place.size:=by simpa using hi
 have:t.place[i]?=cz j:=by rw[bJ kZ,<-e];simp
 simp only[gA.slot,hb,this,fR,gF]
def b2E{t:gA}:∀(f:Nat) (p:gA.Probe) (j:Nat) (d:Option Nat),(∀x,p.dummy=cz x->t.slot x=.dummy)->gA.probe.go t hs h f p=cz (.empty j d)->t.slot j=.empty/\∀x,d=cz x->t.slot x=.dummy:=by
 intro f
 induction f with
 |zero=>intro p j d _ e;cases e
 |succ f ih=>
  intro p j d hd e;rw[gA.probe.go]at e;have BY:∀q:gA.Probe,(t.advance q).dummy=q.dummy:=λq=>by unfold gA.advance;split<;>rfl
  split at e
  ·rename_i jP
   cases e
   exact⟨jP,hd⟩
  ·rename_i jP
   exact ih _ j d (λx hx=>by rw[BY]at hx;cases hx;exact jP) e
  ·split at e
   ·cases e
   ·exact ih _ j d (λx hx=>by rw[BY]at hx;exact hd x hx) e
def b2F{t:gA}(hs:Up t.place.toList)(e:t.freeSlot h=cz (j,b)):j∉t.place.toList:=by
 unfold gA.freeSlot at e
 split at e
 ·rename_i j' d hp
  unfold gA.probe at hp;obtain⟨h1,h2⟩:=b2E _ _ _ _ (λx hx=>by cases hx) hp;simp only[nL,Prod.mk.injEq]at e;obtain⟨rfl,_⟩:=e;cases d with
  |none=>exact a6r hs λi=>by rw[show t.slot ((el:Option Nat).getD j')=.empty from h1];simp
  |some x=>exact a6r hs λi=>by rw[show t.slot ((cz x:Option Nat).getD j')=.dummy from h2 x rfl];simp
 ·cases e
def b2G(n:Nat):Up (Array.range n).toList:=by rw[Array.toList_range];exact uA
def U3(t:gA)(n:Nat):Up (t.standIn n).place.toList:=b2G n
def b0C{t:gA}(hs:Up t.place.toList)(es:Array (Int×aj))(h:Int)(x:aj):Up (layNew t es h x).2.1.place.toList/\(layNew t es h x).2.1.led=t.led:=by
 unfold layNew
 split
 ·rename_i slot wd e
  have hp:Up (t.put slot).1.place.toList:=by
   show Up (gA.insertAt t.place (eL t.place slot) slot).toList;rw[gA.toList_insertAt];exact b8j hs (below_at hs slot) (b2F hs e)
  have hl:(t.put slot).1.led=t.led:=rfl
  dsimp only
  unfold gA.orStandIn
  split
  ·exact⟨hp,hl⟩
  ·exact⟨U3 _ _,hl⟩
 ·exact⟨U3 _ _,rfl⟩
def a5p(f:Nat->Option Nat):Up (((aJ n).filterMap λj=>(f j).map (j,·)).map (·.1)):=by
 rw[Up,Ca,List.pairwise_filterMap];refine uA.imp λ{a b} pO x hx y hy=>?_
 obtain⟨_,_,rfl⟩:=cX.mp hx;obtain⟨_,_,rfl⟩:=cX.mp hy;exact pO
def b2H(t:gA)(es:Array (Int×aj))(n:Nat):(Up t.place.toList->Up (nk t es n).2.1.place.toList)/\(nk t es n).2.1.led=t.led:=by
 unfold nk
 split
 ·rename_i t' order e
  unfold gA.relaid gA.laid at e;obtain⟨ow,_,e2⟩:=tu.mp e;simp only[Option.pure_def,nL,Prod.mk.injEq]at e2;obtain⟨rfl,_⟩:=e2
  dsimp only
  split
  ·refine⟨λ_=>?_,rfl⟩;rw[List.toList_toArray];exact a5p _
  ·exact⟨λ_=>U3 _ _,rfl⟩
 ·exact⟨λ_=>U3 _ _,rfl⟩
end VS
namespace VS
open PySem PySem.Spec L2
open PyProof.Rows (step_dedup)
def iOf:aj->Int
 |.int n _=>n
 |_=>0
def EI(l:List (Int×aj))(ms:List Int):Prop:=(∀e∈l,∃n t,e.2=.int n t/\e.1=jY n)/\(l.map λe=>iOf e.2).Perm ms
def F6(w:bQ)(o:fN)(es:Array (Int×aj))(ep:Nat)(t:gA)(P:Prop):Prop:=
 o.ExactSet/\o.data=.set es ep t/\t.fits es.size=p4/\Up t.place.toList/\t.led=!w.params.followText "set-order"/\es.size<jw/\P
abbrev a3e(w:bQ)(o:fN)(es:Array (Int×aj))(ep:Nat)(t:gA)(ms:List Int):Prop:=F6 w o es ep t (EI es.toList ms)
def SetI(w:bQ)(h:bU)(a:aw)(ms:List Int):Prop:=∃o es ep t,h.get? a=cz o/\a3e w o es ep t ms
def SetI.at{h h':bU}(x:SetI w h a ms)(k:∀o,h.get? a=cz o->h'.get? a=cz o):SetI w h' a ms:=let⟨o,es,ep,t,e,r⟩:=x;⟨o,es,ep,t,k _ e,r⟩
def EI.perm{l l':List (Int×aj)}(h:EI l ms)(p:l'.Perm l):EI l' ms:=⟨λe he=>h.1 e (p.mem_iff.mp he),(p.map _).trans h.2⟩
def EI.push{l l':List (Int×aj)}(h:EI l ms)(p:l'.Perm (l++[(jY n,.int n tk)])):EI l' (ms++[n]):=by
 refine EI.perm (l:=l++[(jY n,.int n tk)]) ⟨λe he=>?_,?_⟩ p
 ·rcases ay.mp he with z|z
  ·exact h.1 e z
  ·rw[ai]at z;subst z;exact⟨n,tk,rfl,rfl⟩
 ·rw[aO];exact h.2.append (iy _)
def EI.len(h:EI l ms):l.length=ms.length:=by have:=h.2.length_eq;simpa using this
section
variable {prog:bB}{w:bQ}{A:bE}{E:aj->av->Prop}{sh:av}
def EI.elems(h:EI l ms):ElemsOf (c_ prog w) l:=λe he=>by
 obtain⟨n,t,e1,e2⟩:=h.1 e he;rw[e1];exact⟨⟨n,o_ _ _ _ _,e2⟩,rfl⟩
def a4t{es eJ:Array (Int×aj)}{t t':gA}(ho:sh.heap.get? a=cz o)(r:a3e w o es ep t ms)(f:t'.fits eJ.size=p4)(u:Up t'.place.toList)(l:t'.led=t.led)(b:eJ.size<jw)(e:EI eJ.toList C_) :
  (sh.heap.update a (xa eJ t')).get? a=cz {o with data:=.set eJ (ep+1) t'}/\a3e w {o with data:=.set eJ (ep+1) t'} eJ (ep+1) t' C_:=by
 refine⟨?_,r.1,rfl,f,u,l.trans r.2.2.2.2.1,b,e⟩;have z:=bV (xa eJ t') ho (by rw[putSet_of eJ t' r.2.1];rfl)
 rwa[putSet_of eJ t' r.2.1]at z
def add_int(hS:SetI w sh.heap a ms)(hr:ms.length+1<jw)
  (q:∀b h',cF a sh.heap h'->SetI w h' a (step_dedup ms n)->Q b {sh with heap:=h'}):aE (a_ prog w) A (setAddHashed a (.int n tk) (jY n)) Q E sh:=by
 obtain⟨o,es,ep,t,ho,r⟩:=hS;obtain⟨_,hd,hf,hu,hl,hb,he⟩:=id r;have xI:ElemsOf (c_ prog w) es.toList:=he.elems;have hlen:es.size=ms.length:=by have:=he.len;simpa using this
 unfold setAddHashed setAddHashedIn;refine bO (ab (gJ ho hd hf ?_))
 dsimp only
 rw[byScan_of (knd:=c_ prog w) (x:=.int n tk) rfl hb xI,aH rfl];unfold setAddByScan;refine ab (ab (dW (ab (wpAny_setScan_of (knd:=c_ prog w) (k:=n) (o_ _ _ _ _) ho hd hf xI ?_))));cases hj:es.toList.findIdx? λe=>(c_ prog w).is n e.2 with
 |some j=>
  dsimp only
  obtain⟨xG,pM,_⟩:=iu.mp hj;have jy:ms.any (· == n)=p4:=by
   obtain⟨n',t',e1,_⟩:=he.1 _ (cH xG);rw[e1]at pM;have hn:n'=n:=(c_ prog w).inj _ _ _ (o_ prog w n' t') pM;refine cI.mpr ⟨n,he.2.mem_iff.mp (aX.mpr ⟨_,cH xG,?_⟩),fR n⟩;rw[e1];exact hn
  refine ae (ae ?_);have z:=q rp sh.heap (cF.refl a _) (by rw[step_dedup,aH jy];exact⟨o,es,ep,t,ho,r⟩);exact z
 |none=>
  dsimp only
  have yY:¬ ms.any (· == n)=p4:=λc=>by
   obtain⟨x,h1,h2⟩:=cI.mp c;obtain⟨e,g1,g2⟩:=aX.mp (he.2.mem_iff.mpr h1);obtain⟨n',t',e1,_⟩:=he.1 _ g1;have z:=List.findIdx?_eq_none_iff.mp hj e g1;rw[e1]at z g2;have:n'=n:=(show n'=x from g2).trans (kG.mp h2);subst this;rw[o_]at z;cases z
  have DG:step_dedup ms n=ms++[n]:=by rw[step_dedup,aM yY]
  rw[DG]at q;have p1:=layNew_perm t es (jY n) (.int n tk);have f1:=layNew_fits t es (jY n) (.int n tk);obtain⟨u1,l1⟩:=b0C hu es (jY n) (.int n tk);generalize layNew t es (jY n) (.int n tk)=L at p1 f1 u1 l1 ⊢;obtain⟨kn,t1,wd,gv⟩:=L
  dsimp only at p1 f1 u1 l1 ⊢
  rw[Cf]at p1;have e1:EI kn.toList (ms++[n]):=he.push p1;have z1:kn.size=ms.length+1:=by have:=e1.len;simpa using this
  have b1:kn.size<jw:=by lia
  have gw:∀(b:Bool) (s1:av) (Q':Unit->av->Prop),Q' () s1->aE (a_ prog w) A (match b with|true=>rule "set.scan.the-table-gave-way" | false=>pure ()) Q' E s1:=λb s1 Q' hq=>by
   cases b<;>first|exact ae hq|exact dW hq
  refine ab (gw _ _ _ ?_);have tail:∀(g:Bool->Sem Unit),(∀(b:Bool) (s1:av) (Q':Unit->av->Prop),Q' () s1->aE (a_ prog w) A (g b) Q' E s1)->∀t2:gA,t2.fits kn.size=p4->Up t2.place.toList->t2.led=t.led->∀R:Option Bool->av->Prop,
    (∀h',cF a sh.heap h'->SetI w h' a (ms++[n])->R (cz p4) {sh with heap:=h'})->
    aE (a_ prog w) A (storeSet a kn t2 >>= λ_=>if (!wd&&t2.tooFull)=p4 then (g (nk t2 kn (gY kn.size)).2.2 >>= λ_=>storeSet a (nk t2 kn (gY kn.size)).1 (nk t2 kn (gY kn.size)).2.1 >>= λ_=>pure (cz p4)) else pure (cz p4)) R E sh:=by
   intro g hg t2 f2 u2 l2 R hR;refine ab (wpAny_storeSet_of ho hd ?_ (kU b1));obtain⟨o2,r2⟩:=a4t (sh:=sh) ho r f2 u2 l2 b1 e1;have sb:=bS sh.heap a (xa kn t2)
   split
   ·have p3:=relayAll_perm t2 kn (gY kn.size);have f3:=relayAll_fits t2 kn (gY kn.size);obtain⟨u3,l3⟩:=b2H t2 kn (gY kn.size);generalize nk t2 kn (gY kn.size)=R3 at p3 f3 u3 l3 ⊢;obtain⟨BM,t3,g3⟩:=R3
    dsimp only at p3 f3 u3 l3 ⊢
    have e3:EI BM.toList (ms++[n]):=e1.perm p3;have b3:BM.size<jw:=by have:=e3.len;rw[aN,iN,cu]at this;lia
    refine ab (hg _ _ _ (ab (wpAny_storeSet_of o2 rfl ?_ (kU b3))));obtain⟨o4,r4⟩:=a4t (sh:={sh with heap:=sh.heap.update a (xa kn t2)}) o2 r2 f3 (u3 u2) l3 b3 e3;exact ae (hR _ (sb.trans (bS _ a _)) ⟨_,_,_,_,o4,r4⟩)
   ·exact ae (hR _ sb ⟨_,_,_,_,o2,r2⟩)
  split
  ·refine ab ?_;rw[hashByValue_scannable 8 (x:=iK n tk) rfl];refine ae ?_;refine tail _ ?_ _ ?_ ?_ ?_ _ λh' sb mT=>ae (q p4 h' sb mT)
   ·intro b s1 Q' hq;cases b<;>first|exact ae hq|exact dW hq
   ·exact f1
   ·exact u1
   ·exact l1
  ·refine ab (ae ?_);rw[aH rfl];refine tail _ ?_ _ f1 u1 l1 _ λh' sb mT=>ae (q p4 h' sb mT)
   intro b s1 Q' hq;cases b<;>first|exact ae hq|exact dW hq
end
end VS
namespace VS
open PySem PySem.Spec L2
open PyProof.Rows (firstMet firstMet_succ firstMet_length_le)
section
variable {prog:bB}{w:bQ}{A:bE}{E:aj->av->Prop}{sh:av}{R:Gd->av->Prop}{I:aw}{fp wr:List aw}{G:Array GenState->Array GenState->Prop}{n:Nat}{P:Nat->aj->Prop}{St:Nat->av->Prop}
def b2I(Wk:WalksS prog w A.in1 I fp wr G n P St)(z:aw)(hz:z∉fp)(val:Nat->Int)(tK:∀i v,P i v->∃t,v=.int (val i) t)(hb:n+1<jw) :
  ∀(k i:Nat) (s:av),n-i=k->i<=n->St i s->SetI w s.heap z (firstMet val i)->(∀s',Moved (z::wr) G s s'->SetI w s'.heap z (firstMet val n)->R (.ok (.ret .none)) s')->
   gL (a_ prog w) A (.builtin "set.update.loop" ⟨[.ref z,.ref I],[]⟩) R s:=by
 have hw:z∉wr:=λh=>hz (Wk.sub _ h)
 have up:∀b∈wr,b∈z::wr:=λb h=>aq _ h
 intro k
 induction k with
 |zero=>
  intro i s hk hi st hS hR;obtain rfl:i=n:=by lia
  refine dQ (by exact ml) ?_;rw[de (by exact gQ) _];show aE _ A.in1 (fW (bb I) >>= _) _ _ s;refine ab (Wk.done s _ _ st λs' m=>(show aE _ A.in1 (ret cw) _ _ s' from ae (hR s' (m.mono up) (hS.at λo e=>m.heap z o hw e))))
 |succ k ih=>
  intro i s hk hi st hS hR;have lt:i<n:=by lia
  refine dQ (by exact ml) ?_;rw[de (by exact gQ) _];show aE _ A.in1 (fW (bb I) >>= _) _ _ s;refine ab (Wk.item i s _ _ lt st λv s1 hP Cz m=>?_);obtain⟨t,rfl⟩:=tK i v hP;have wI:SetI w s1.heap z (firstMet val i):=hS.at λo e=>m.heap z o hw e
  show aE _ A.in1 (nW [iK (val i) t] (setAdd z (.int (val i) t)) >>= λ_=>_) _ _ s1;refine ab (bO ?_);unfold setAdd;refine bO (ab ((c_ prog w).pyHash (k:=val i) (by exact o_ _ _ _ _) ?_));have rm:(firstMet val i).length+1<jw:=by have:=firstMet_length_le val i;lia
  refine add_int (sh:={s1 with toks:=s1.toks+1}) (ms:=firstMet val i) wI rm λb h' sb wH=>?_
  rw[<-firstMet_succ]at wH;refine ae ⟨fw (by exact gQ) _,ih (i+1) _ (by lia) lt (Wk.frame _ s1 _ _ Cz (fF _) λc hc o e=>?_) wH λs2 m2 zP=>?_⟩
  ·rw[sb.2 c (λx:c=z=>hz (x▸hc))];exact e
  ·refine hR s2 (Moved.trans Wk.gtrans ((m.mono up).then_heap (fF _) λc o hc e=>?_) m2) zP;rw[sb.2 c (λx:c=z=>hc (x▸ak))];exact e
def a3Q(w:bQ):fN:={cls:=.type "set",dict:=el,data:=.set #[] 0 (.fresh 0 0 (!w.params.followText "set-order"))}
def b2J(w:bQ):a3e w (a3Q w) #[] 0 (.fresh 0 0 (!w.params.followText "set-order")) []:=⟨⟨rfl,rfl,rfl⟩,rfl,rfl,iz,rfl,by decide,λe he=>by simp at he,iy _⟩
def b5g(a:aj)(h:Q (.ref sh.heap.objs.size) {sh with heap:=sh.heap.push (a3Q w)}) :
  gL (a_ prog w) A (.call (.builtin "set.__new__") ⟨[.type "set",a],[]⟩) (wants Q E) sh:=by
 refine codeAny_of_tree (show aE _ A.in1 (checkBuiltinCall "set.__new__" ⟨[.type "set",a],[]⟩ >>= λ_=>again (.builtin "set.__new__" ⟨[.type "set",a],[]⟩)) _ _ sh from ?_);refine ab (sx (by exact F.newCall_set_1 a) (ae ⟨fw (by exact F.plain_set_new) _,dQ (by exact F.entry_set_new) ?_⟩));rw[de (by exact F.plain_set_new) _];unfold Builtin.«set.__new__»;unfold Builtin.Frozenset.newClass;have jx:=@sub_set_self;obtain⟨hp,g,d,tk,os⟩:=sh
 dsimp only
 wp_walk
 refine rB (ae (by
  dsimp only
  simp only[newObj];exact ab (wpAny_alloc (ae (ae h)))))
end
end VS
namespace VS
open PySem PySem.Spec L2
open PyProof.Rows (firstMet IntsAre)
section
variable {prog:bB}{w:bQ}{A:bE}{E:aj->av->Prop}{sh:av}
def b0D(hh:A.handled=el)(hl:sh.heap.IsList l items)(hi:IntsAre items.toList ns)(hb:items.size+1<jw)
  (h:∀(h':bU) (tk:Nat),SetI w h' sh.heap.objs.size (firstMet (λi=>ns.getD i 0) items.size)->(∀b o,sh.heap.get? b=cz o->h'.get? b=cz o)->Q (.ref sh.heap.objs.size) {sh with heap:=h',toks:=tk}) :
  aE (a_ prog w) A (call (.type "set") [.ref l]) Q E sh:=by
 obtain⟨cl,tl,Ea⟩:=(by exact ik.mro);have g1:=(by exact ik.made);have g2:=(by exact ik.sub);refine vf (codeAny_of_tree (show aE _ _ (callAny (.type "set") _) _ _ _ from ?_));refine ae ⟨Code.quiet_builtin _ (by decide +kernel),dQ (by exact F.entry_type_call) ?_⟩;rw[bE.under_plain (by exact weight_type_call_type "set" [.ref l] []) rfl];have g3:=(by exact ik.notType);have g4:=(by exact ik.canCreate);have g5:=(by exact F.typeCall_set_1 (.ref l))
 repeat (any_goals first|assumption|wp_step)
 refine fQ (b5g (.ref l) (E:=E) (Q:=λv s1=>v=.ref sh.heap.objs.size/\s1={sh with heap:=sh.heap.push (a3Q w)}) ⟨rfl,rfl⟩) λr s1 hr=>?_
 cases r with
 |error e=>exact hr
 |ok fl=>
  cases fl with
  |ret v=>
   obtain⟨rfl,rfl⟩:=hr;have hS:(sh.heap.push (a3Q w)).get? sh.heap.objs.size=cz (a3Q w):=aF _ rfl;have hT:ll {sh with heap:=sh.heap.push (a3Q w)} (.ref sh.heap.objs.size) "set":=⟨_,hS,rfl⟩;have g6:=(by exact ik.init.lookup);have g7:=(by exact ik.init.bind (.ref sh.heap.objs.size))
   repeat (any_goals first|assumption|wp_step)
   refine fQ (codeAny_call_builtin (R:=wants (λr s2=>r=.none/\∃h' tk,s2={sh with heap:=h',toks:=tk}/\SetI w h' sh.heap.objs.size (firstMet (λi=>ns.getD i 0) items.size)/\(∀b o,sh.heap.get? b=cz o->h'.get? b=cz o)) E) (by exact ik.init.plain) (by exact F.entry_set_init) (check_set_init_1 hT ?_)) λr2 s2 yO=>?_
   ·obtain⟨ol,Bb,lK,nl,sT⟩:=hl;obtain⟨oc,od,GC,os⟩:=ol;simp only at lK sT;subst lK;subst sT;have yV:(sh.heap.push (a3Q w)).get? l=cz {cls:=.type "list",dict:=od,data:=.seq items nl,slots:=os}:=ag _ Bb;have k1:=(by exact F.sub_list_set);have k2:=(by exact F.sub_list_frozenset);have k3:(dX "list" == dX "dict")=rp:=by decide +kernel
    have sO:(sh.heap.push (a3Q w)).IsList l items:=⟨_,yV,rfl,nl,rfl⟩;unfold Builtin.«set.__init__» noKeywords;unfold Builtin.Frozenset.updateFrom;generalize Fl:rG=PI
    wp_walk
    subst Fl;refine pW sO (ab (nh ?_));have lt:l<sh.heap.objs.size:=aK Bb;have Et:A.in1.in1.in1.handled=el:=by simp[hh]
    have ne:l≠(sh.heap.push (a3Q w)).objs.size:=by rw[cP];exact bg (gj lt)
    have nf:sh.heap.objs.size∉[(sh.heap.push (a3Q w)).objs.size,l]:=by
     rw[cP];simp only[az,cG,or_false,not_or];exact⟨bg (kz _),et lt⟩
    have hv:∀(i:Nat) (v:aj),items[i]?=cz v->∃t,v=.int ((λi=>ns.getD i 0) i) t:=λi v e=>hi.int_at i v (by rw[bX];exact e)
    refine b2I ((Walks.list Et _ l ne items).toS) sh.heap.objs.size nf (λi=>ns.getD i 0) hv hb (items.size-0) 0 _ rfl (b_ _) ⟨⟨_,aF _ rfl,rfl,rfl⟩,sO.push _⟩ ⟨_,_,_,_,ag _ hS,b2J w⟩ λs' m mT=>?_
    obtain⟨h',g',d',xm,yp⟩:=s';have e1:g'=sh.gens:=m.gens;have e2:d'=sh.drawn:=m.drawn;have e3:yp=sh.os:=m.os;subst e1 e2 e3;show aE _ _ _ _ _ _;refine ae (show aE _ _ (ret cw) _ _ _ from ae ⟨rfl,h',xm,rfl,mT,λb o e=>?_⟩);have lb:=aK e;refine m.heap b o ?_ (ag _ (ag _ e));simp only[az,cG,or_false,not_or,cP];exact⟨bg lb,bg (gj lb)⟩
   ·cases r2 with
    |error e=>exact yO
    |ok FD=>
     cases FD with
     |ret r=>
      obtain⟨rfl,h',tk,rfl,mT,qY⟩:=yO
      repeat (any_goals first|assumption|wp_step)
      exact h _ _ mT qY
     |_=>exact yO.elim
  |_=>exact hr.elim
end
end VS
namespace PySem.F
def entry_set_iterA:wR table "set.__iter__"=cz Builtin.«frozenset.__iter__»:=wQ (id':="frozenset.__iter__") (by kernel_rfl) rfl (by decide +kernel) (by kernel_rfl)
def slot_sit_next:Slot "set_iterator" "__next__" "set_iterator.__next__":=Slot.of (owner:="set_iterator") (n:="__next__") (by rw[mw,jo];kernel_rfl) (by decide +kernel) (by decide +kernel) (by decide +kernel) (by first|exact .inl (by decide +kernel)|exact .inr (by decide +kernel)) (by rw[nr];kernel_rfl)
def entry_sit_next:wR table "set_iterator.__next__"=cz Builtin.«set_iterator.__next__»:=entryFor_of_tree (by kernel_rfl)
def a4u:Manifest.owners.lookup (String.ofList ['r','o','t','a','r','e','t','i','_','t','e','s'].reverse)=cz Manifest.sig_set_iterator:=by kernel_rfl
def args_sit_next(a:aj):argsOk "set_iterator.__next__" ⟨[a],[]⟩:=by
 unfold argsOk;rw[signature?_of (id:="set_iterator.__next__") (n:=['_','_','t','x','e','n','_','_']) (o:=['r','o','t','a','r','e','t','i','_','t','e','s']) (by kernel_rfl) (by exact a4u)];kernel_rfl
def slot_sit_iter:Slot "set_iterator" "__iter__" "set_iterator.__iter__":=Slot.of (owner:="set_iterator") (n:="__iter__") (by rw[mw,jo];kernel_rfl) (by decide +kernel) (by decide +kernel) (by decide +kernel) (by first|exact .inl (by decide +kernel)|exact .inr (by decide +kernel)) (by rw[nr];kernel_rfl)
def args_sit_iter(a:aj):argsOk "set_iterator.__iter__" ⟨[a],[]⟩:=by
 unfold argsOk;rw[signature?_of (id:="set_iterator.__iter__") (n:=['_','_','r','e','t','i','_','_']) (o:=['r','o','t','a','r','e','t','i','_','t','e','s']) (by kernel_rfl) (by exact a4u)];kernel_rfl
def entry_sit_iter:wR table "set_iterator.__iter__"=cz Builtin.«dict_keyiterator.__iter__»:=wQ (id':="dict_keyiterator.__iter__") (by kernel_rfl) rfl (by decide +kernel) (by kernel_rfl)
end PySem.F
namespace VS
open PySem PySem.Spec L2
theorem a0r:∀{l:List α} {i:Nat} (h:i<l.length),(l[i]::l.eraseIdx i).Perm l
 |a::l,0,_=>by simp
 |a::l,i+1,h=>by
  have h':i<l.length:=by simpa using h
  simp only[List.getElem_cons_succ,tz];exact (List.Perm.swap a l[i] _).trans (List.Perm.cons a (a0r h'))
section
variable {M:Model}{A:bE}{E:aj->av->Prop}{sh:av}
def a7U(hn:n≠0)(q:∀i d,i<n->Q i {sh with drawn:=d}):aE M A (choose src n) Q E sh:=λΓ p hΓ=>by
 show Sem.wp M Γ (.choose src n .pure) _ _ p sh;rw[Sem.wp_choose];exact⟨hn,by simpa using q _ _ (Nat.mod_lt _ (Nat.pos_of_ne_zero hn))⟩
def b2K:∀(n:Nat) (xs:List α) (sh:av) (Q:List α->av->Prop),n=xs.length->(∀ys d,ys.Perm xs->Q ys {sh with drawn:=d})->aE M A (drawOrder n xs) Q E sh:=by
 intro n
 induction n with
 |zero=>
  intro xs sh Q e q;cases xs with
  |nil=>exact ae (q [] sh.drawn (iy _))
  |cons _ _=>cases e
 |succ n ih=>
  intro xs sh Q e q;cases xs with
  |nil=>cases e
  |cons x xs=>
   rw[drawOrder];refine ab (a7U (by simp) λi d hi=>?_)
   ·rw[ar hi]
    dsimp only
    refine ab (ih _ _ _ (by rw[xb,aH hi];simp only[bx]at e ⊢;lia) λys d' hp=>?_);exact ae (q _ _ (by
     refine (List.Perm.cons _ hp).trans ?_;exact a0r hi))
   ·simp
def b5h(next:Nat->Nat):∀(f k:Nat) (left:List α) (out:Array α),f=left.length->(CO next f k left out).toList.Perm (out.toList++left):=by
 intro f
 induction f with
 |zero=>
  intro k left out e;cases left with
  |nil=>simp[CO]
  |cons _ _=>cases e
 |succ f ih=>
  intro k left out e;have h0:0<left.length:=by lia
  have hm:next k % left.length<left.length:=Nat.mod_lt _ h0;rw[CO,ar hm]
  dsimp only
  refine (ih _ _ _ (by rw[xb,aH hm];lia)).trans ?_;rw[Cf,ba];exact va _ (a0r hm)
def b0E(next:Nat->Nat)(xs:Array α):(lH next xs).toList.Perm xs.toList:=by
 have:=b5h next xs.size 0 xs.toList #[] (by simp);simpa[lH]using this
end
def SIt(h:bU)(it:aw)(first:aj)(i:Nat)(z:aw)(n ep:Nat):Prop:=∃o,h.get? it=cz o/\o.cls=.type "set_iterator"/\o.data=.fields #[first,.int i 0,.ref z,.int n 0,.int ep 0]
section
variable {prog:bB}{w:bQ}{A:bE}{E:aj->av->Prop}{sh:av}{it z:aw}{first:aj}{i n ep:Nat}{o:fN}{es:Array (Int×aj)}{t:gA}{ms:Prop}
def SIt.at{h h':bU}(x:SIt h it first i z n ep)(k:∀o,h.get? it=cz o->h'.get? it=cz o):SIt h' it first i z n ep:=let⟨o,e,r⟩:=x;⟨o,k _ e,r⟩
def SIt.typ(x:SIt sh.heap it first i z n ep):sh.TypeIs (.ref it) "set_iterator":=let⟨o,e,r,_⟩:=x;⟨o,e,r⟩
def SIt.put{h:bU}(hx:∃o,h.get? it=cz o/\o.cls=.type "set_iterator"/\o.data=.fields vs):∃o,(h.update it (Ak (·.setIfInBounds j x))).get? it=cz o/\o.cls=.type "set_iterator"/\o.data=.fields (vs.setIfInBounds j x):=
 let⟨o,e,c,d⟩:=hx;⟨_,bV _ e (mV (gu d _)),(qT ..).trans c,gu d _⟩
def U4(q:Q (w.params.followText "set-order") sh):aE (a_ prog w) A setsByText Q E sh:=by
 unfold setsByText;exact ab (rB (ae q))
def a6s(ho:sh.heap.get? z=cz o)(r:F6 w o es ep t ms)(oE:w.params.followText "set-order"=rp)(hp:t.plain=p4\/es.size<=1)(jP:eL t.place sl=i)
  (q:(∀h:i<es.size,∀nx,eL t.place nx=i+1->Q (cz (es[i].2,nx)) sh)/\(¬ i<es.size->Q el sh)):aE (a_ prog w) A (uH z sl k rg) Q E sh:=by
 obtain⟨_,hd,hf,hu,hl,hb,he⟩:=id r;unfold uH;refine ab (gJ ho hd hf (ab (U4 ?_)));rw[oE,aM aW];have wo:¬ (!t.plain&&decide (es.size>1))=p4:=by
  rcases hp with c|c
  ·simp[c]
  ·simp;lia
 dsimp only
 refine er (λc=>absurd c wo) λ_=>?_
 refine ab (show aE _ _ (if (!t.led&&!es.isEmpty)=p4 then _ else _) _ _ _ from ?_);rw[aM (by rw[hl,oE];simp)];refine ae ?_;have sL:t.place.size=es.size:=by simp only[gA.fits,ao,kG]at hf;exact hf.1
 rw[jP];by_cases c:i<es.size
 ·have c':i<t.place.size:=by lia
  rw[bJ c,bJ c'];refine ae (q.1 c _ ?_);have:=a7T hu (i:=i) (by simpa using c');simpa using this
 ·rw[eQ (by lia)];exact ae (q.2 c)
def a9e(ho:sh.heap.get? z=cz o)(r:F6 w o es ep t ms)(oE:w.params.followText "set-order"=p4)
  (q:Q ((lH (w.params.setOrder z ep) es)[k]?.map λe=>(e.2,sl)) sh):aE (a_ prog w) A (uH z sl k ep) Q E sh:=by
 obtain⟨_,hd,hf,_⟩:=id r;unfold uH;refine ab (gJ ho hd hf (ab (U4 ?_)));rw[oE,aH rfl];rw[aM (by simp)];refine ab ?_;unfold setWalk;refine ab (gJ ho hd hf (ab (U4 ?_)));rw[oE,aH rfl];exact ab (rB (ae (ae q)))
def a6t{v:aj}{Φ:Nat->Prop}{Q:Option aj->av->Prop}(hI:SIt sh.heap it first i z es.size ep)(ho:sh.heap.get? z=cz o)(r:F6 w o es ep t ms){sl:Nat}(zC:first=.int sl 0)
  (hn:∀(A':bE) (E':aj->av->Prop) (Q':Option (aj×Nat)->av->Prop),(∀nx,Φ nx->Q' (cz (v,nx)) sh)->aE (a_ prog w) A' (uH z sl i ep) Q' E' sh)
  (q:∀nx h',Φ nx->SIt h' it (.int nx 0) (i+1) z es.size ep->cF it sh.heap h'->Q (cz v) {sh with heap:=h'}):aE (a_ prog w) A (fW (.ref it)) Q E sh:=by
 subst zC;obtain⟨x,hx,rK,lX⟩:=id hI;obtain⟨_,hd,hf,_⟩:=id r;unfold fW;refine ab (gE (bM (name:=cm "__next__") hI.typ F.slot_sit_next (bD F.slot_sit_next hI.typ F.entry_sit_next ?_ (F.args_sit_next _))));unfold Builtin.«set_iterator.__next__»;refine ab (m:=vo "__next__" 0 _) (ae ?_);refine ab (iY hx lX ?_)
 dsimp only
 refine ab (iq ho hd hf ?_);rw[aM (by simp)];simp only[bG];refine ab (hn _ _ _ λnx e=>?_)
 dsimp only
 refine ab (eH hx lX (by simp) ?_);obtain⟨x1,uM,Bt,uR⟩:=SIt.put (it:=it) (x:=df (nx:Nat)) (j:=0) ⟨x,hx,rK,lX⟩;refine ab (eH uM uR (by simp) ?_);obtain⟨x2,vI,mE,hd2⟩:=SIt.put (it:=it) (x:=df ((i:Int)+1)) (j:=1) ⟨x1,uM,Bt,uR⟩;refine ae ⟨_,rfl,ae (q nx _ e ⟨x2,vI,mE,?_⟩ ((bS ..).trans (bS ..)))⟩;rw[hd2];simp[df]
def a6u(hh:A.handled=el)(q:∀h',(∀b o,sh.heap.get? b=cz o->h'.get? b=cz o)->Q el {sh with heap:=h'}) :
  aE (a_ prog w) A.in1 (CW (.type "StopIteration") [] >>= λe=>(raiseNew e:Sem PySem.Fin)) (λfin s'=>∃v,fin=Fin.done (Flow.ret v)/\aE (a_ prog w) A (pure (cz v)) Q E s') (λe s'=>aE (a_ prog w) A (isInstance e (dX "StopIteration") >>= λb=>if b=p4 then pure el else throw e) Q E s') sh:=by
 refine ab ?_;simp only[CW,newTuple];refine ab (dt ?_ (by size_fits));refine ab (m:=ja _ _) (sx (a:=cw) (by first|rfl|(simp only[ja];rfl)) ?_);refine dt ?_ (by size_fits);simp only[raiseNew];refine ab (yf ?_);rw[show A.in1.handled=el from hh];refine ab (ae (wpAny_throw ?_));refine ab (fA (b:=p4) (T:="StopIteration") ⟨_,aF _ rfl,rfl⟩ vA ?_);exact ae (q _ λb o e=>ag _ (ag _ e))
def a9f{Q:Option aj->av->Prop}(hh:A.handled=el)(hI:SIt sh.heap it first i z es.size ep)(ho:sh.heap.get? z=cz o)(r:F6 w o es ep t ms){sl:Nat}(zC:first=.int sl 0)
  (hn:∀(A':bE) (E':aj->av->Prop) (Q':Option (aj×Nat)->av->Prop),Q' el sh->aE (a_ prog w) A' (uH z sl i ep) Q' E' sh)
  (q:∀h',tD it sh.heap h'->Q el {sh with heap:=h'}):aE (a_ prog w) A (fW (.ref it)) Q E sh:=by
 subst zC;obtain⟨x,hx,rK,lX⟩:=id hI;obtain⟨_,hd,hf,_⟩:=id r;unfold fW;refine ab (gE (bM (name:=cm "__next__") hI.typ F.slot_sit_next (bD F.slot_sit_next hI.typ F.entry_sit_next ?_ (F.args_sit_next _))));unfold Builtin.«set_iterator.__next__»;refine ab (m:=vo "__next__" 0 _) (ae ?_);refine ab (iY hx lX ?_)
 dsimp only
 refine ab (iq ho hd hf ?_);rw[aM (by simp)];simp only[bG];refine ab (hn _ _ _ ?_)
 dsimp only
 refine ab (eH hx lX (by simp) ?_);exact a6u hh λh' k=>q h' λb o hb e=>k b o ((bS ..).extBut b o hb e)
def b0F{ps:List Nat}(hI:SIt sh.heap it (.ref tp) i z es.size ep)(ho:sh.heap.get? z=cz o)(r:F6 w o es ep t ms)(ht:sh.heap.get? tp=cz {cls:=.type "tuple",data:=.seq (ps.map λi=>df (i:Nat)).toArray})(hp:ps[i]?=cz p)(gS:p<es.size)
  (q:∀h',SIt h' it (.ref tp) (i+1) z es.size ep->cF it sh.heap h'->Q (cz es[p].2) {sh with heap:=h'}):aE (a_ prog w) A (fW (.ref it)) Q E sh:=by
 obtain⟨x,hx,rK,lX⟩:=id hI;obtain⟨_,hd,hf,_⟩:=id r;unfold fW;refine ab (gE (bM (name:=cm "__next__") hI.typ F.slot_sit_next (bD F.slot_sit_next hI.typ F.entry_sit_next ?_ (F.args_sit_next _))));unfold Builtin.«set_iterator.__next__»;refine ab (m:=vo "__next__" 0 _) (ae ?_);refine ab (iY hx lX ?_)
 dsimp only
 refine ab (iq ho hd hf ?_);rw[aM (by simp)];simp only[bG];refine ab ?_;unfold Aw;refine ab (lY ht ?_);refine ae ?_;have e1:(ps.map λi=>df (i:Nat)).toArray[i]?=cz (df (p:Nat)):=by rw[uX,bc,hp];rfl
 dsimp only
 rw[e1];show aE _ _ (setNextDrawn z (p:Int).toNat ep >>= λx=>setField (.ref it) 1 (df ((i:Int)+1)) >>= λ_=>ret x) _ _ _;refine ab ?_;unfold setNextDrawn;refine ab (gJ ho hd hf ?_)
 dsimp only
 rw[aM (by simp),bG,bJ gS];refine ab (ae (ae ?_));refine ab (eH hx lX (by simp) ?_);obtain⟨x2,vI,mE,hd2⟩:=SIt.put (it:=it) (x:=df ((i:Int)+1)) (j:=1) ⟨x,hx,rK,lX⟩;refine ae ⟨_,rfl,ae (q _ ⟨x2,vI,mE,?_⟩ (bS ..))⟩;rw[hd2];simp[df]
def a5q{ps:List Nat}(hh:A.handled=el)(hI:SIt sh.heap it (.ref tp) i z es.size ep)(ho:sh.heap.get? z=cz o)(r:F6 w o es ep t ms)(ht:sh.heap.get? tp=cz {cls:=.type "tuple",data:=.seq (ps.map λi=>df (i:Nat)).toArray})(hp:ps[i]?=el)
  (q:∀h',tD it sh.heap h'->Q el {sh with heap:=h'}):aE (a_ prog w) A (fW (.ref it)) Q E sh:=by
 obtain⟨x,hx,rK,lX⟩:=id hI;obtain⟨_,hd,hf,_⟩:=id r;unfold fW;refine ab (gE (bM (name:=cm "__next__") hI.typ F.slot_sit_next (bD F.slot_sit_next hI.typ F.entry_sit_next ?_ (F.args_sit_next _))));unfold Builtin.«set_iterator.__next__»;refine ab (m:=vo "__next__" 0 _) (ae ?_);refine ab (iY hx lX ?_)
 dsimp only
 refine ab (iq ho hd hf ?_);rw[aM (by simp)];simp only[bG];refine ab ?_;unfold Aw;refine ab (lY ht (ae ?_));have e1:(ps.map λi=>df (i:Nat)).toArray[i]?=el:=by rw[uX,bc,hp];rfl
 dsimp only
 rw[e1]
 dsimp only
 refine ab (eH hx lX (by simp) ?_);obtain⟨x1,uM,Bt,uR⟩:=SIt.put (it:=it) (x:=df 0) (j:=0) ⟨x,hx,rK,lX⟩;refine ab (eH uM uR (by simp) ?_);exact a6u hh λh' k=>q h' λb o hb e=>k b o (((bS ..).trans (bS ..)).extBut b o hb e)
def a3f(hI:SIt sh.heap it first i z n ep)(q:Q (.ref it) sh):aE (a_ prog w) A (rG (.ref it)) Q E sh:=
 pV hI.typ F.slot_sit_iter (bD F.slot_sit_iter hI.typ F.entry_sit_iter (show aE _ _ (ret (.ref it)) _ _ sh from ae ⟨_,rfl,"set_iterator",_,hI.typ,F.slot_sit_next.lookup,q⟩) (F.args_sit_iter _))
end
section
variable {prog:bB}{w:bQ}{A:bE}{E:aj->av->Prop}{sh:av}{it z tp:aw}{ep:Nat}{o:fN}{es:Array (Int×aj)}{t:gA}{ms:Prop}
def b2L(hh:A.handled=el)(r:F6 w o es ep t ms)(oE:w.params.followText "set-order"=rp)(hp:t.plain=p4\/es.size<=1)(ne:z≠it) :
  lR prog w A it [it,z] [it] (es.toList.map (·.2)).length (λi v=>(es.toList.map (·.2))[i]?=cz v) (λi h=>(∃sl:Nat,SIt h it (.int sl 0) i z es.size ep/\eL t.place sl=i)/\h.get? z=cz o) where
 sub:=λb hb=>az.mpr (.inl (ai.mp hb))
 frame:=λ_ _ _ st k=>let⟨⟨sl,a,b⟩,c⟩:=st;⟨⟨sl,a.at λo e=>k it ak o e,b⟩,k z (aq _ ak) _ c⟩
 item:=λi s Q E hi st q=>by
  obtain⟨⟨sl,a,b⟩,c⟩:=st;have kZ:i<es.size:=by simpa using hi
  exact a6t (Φ:=λnx=>eL t.place nx=i+1) (v:=es[i].2) a c r rfl (λA' E' Q' q'=>a6s c r oE hp b ⟨λh nx tX=>q' nx tX,λh=>absurd kZ h⟩) λnx h' tX sU sb=>
   q _ h' s.toks (by rw[bc,bX,bJ kZ];rfl) ⟨⟨nx,sU,tX⟩,sb.extBut z o ne c⟩ λb o hb e=>sb.extBut b o (λy=>hb (by rw[y];exact ai.mpr rfl)) e
 done:=λs Q E st q=>by
  obtain⟨⟨sl,a,b⟩,c⟩:=st;refine a9f hh a c r rfl (λA' E' Q' q'=>a6s c r oE hp b ⟨λh=>absurd h (by simp),λ_=>q'⟩) λh' he=>q h' s.toks λb o hb e=>he b o (λy=>hb (by rw[y];exact ai.mpr rfl)) e
 self:=λ_ _ _ _ st q=>let⟨⟨_,a,_⟩,_⟩:=st;a3f a q
def b5i(hh:A.handled=el)(r:F6 w o es ep t ms)(oE:w.params.followText "set-order"=p4)(ne:z≠it) :
  lR prog w A it [it,z] [it] ((lH (w.params.setOrder z ep) es).toList.map (·.2)).length (λi v=>((lH (w.params.setOrder z ep) es).toList.map (·.2))[i]?=cz v) (λi h=>SIt h it (.int (0:Nat) 0) i z es.size ep/\h.get? z=cz o) where
 sub:=λb hb=>az.mpr (.inl (ai.mp hb))
 frame:=λ_ _ _ st k=>let⟨a,c⟩:=st;⟨a.at λo e=>k it ak o e,k z (aq _ ak) _ c⟩
 item:=λi s Q E hi st q=>by
  obtain⟨a,c⟩:=st;have kZ:i<(lH (w.params.setOrder z ep) es).size:=by simpa using hi
  exact a6t (Φ:=λnx=>nx=0) (v:=(lH (w.params.setOrder z ep) es)[i].2) a c r rfl (λA' E' Q' q'=>a9e c r oE (by rw[bJ kZ];exact q' 0 rfl)) λnx h' tX sU sb=>
   q _ h' s.toks (by rw[bc,bX,bJ kZ];rfl) ⟨tX▸sU,sb.extBut z o ne c⟩ λb o hb e=>sb.extBut b o (λy=>hb (by rw[y];exact ai.mpr rfl)) e
 done:=λs Q E st q=>by
  obtain⟨a,c⟩:=st;refine a9f hh a c r rfl (λA' E' Q' q'=>a9e c r oE (by rw[eQ (by simp)];exact q')) λh' he=>q h' s.toks λb o hb e=>he b o (λy=>hb (by rw[y];exact ai.mpr rfl)) e
 self:=λ_ _ _ _ st q=>a3f st.1 q
def b2M{ps:List Nat}(hh:A.handled=el)(r:F6 w o es ep t ms)(sL:∀p∈ps,p<es.size)(ne:z≠it)(ne2:tp≠it) :
  lR prog w A it [it,z,tp] [it] (ps.map λp=>(es.toList.map (·.2)).getD p .none).length (λi v=>(ps.map λp=>(es.toList.map (·.2)).getD p .none)[i]?=cz v) (λi h=>SIt h it (.ref tp) i z es.size ep/\h.get? z=cz o/\h.get? tp=cz {cls:=.type "tuple",data:=.seq (ps.map λi=>df (i:Nat)).toArray}) where
 sub:=λb hb=>az.mpr (.inl (ai.mp hb))
 frame:=λ_ _ _ st k=>let⟨a,c,d⟩:=st;⟨a.at λo e=>k it ak o e,k z (aq _ ak) _ c,k tp (aq _ (aq _ ak)) _ d⟩
 item:=λi s Q E hi st q=>by
  obtain⟨a,c,d⟩:=st;have kZ:i<ps.length:=by simpa using hi
  have gS:=sL _ (cH kZ);exact b0F (p:=ps[i]) a c r d (ar kZ) gS λh' sU sb=>
   q _ h' s.toks (by rw[bc,ar kZ,Hl,aT,bc,bX,bJ gS];rfl) ⟨sU,sb.extBut z o ne c,sb.extBut tp _ ne2 d⟩ λb o hb e=>sb.extBut b o (λy=>hb (by rw[y];exact ai.mpr rfl)) e
 done:=λs Q E st q=>by
  obtain⟨a,c,d⟩:=st;exact a5q hh a c r d (dY (by simp)) λh' he=>q h' s.toks λb o hb e=>he b o (λy=>hb (by rw[y];exact ai.mpr rfl)) e
 self:=λ_ _ _ _ st q=>a3f st.1 q
def b2N(ho:sh.heap.get? z=cz o)(r:F6 w o es ep t ms)
  (q:∀(it:aw) (h':bU) (d:Drawn) (fp:List aw) (St:Nat->bU->Prop) (ord:List aj),ord.Perm (es.toList.map (·.2))->(∀A':bE,A'.handled=el->lR prog w A' it fp [it] ord.length (λi v=>ord[i]?=cz v) St)->St 0 h'->sh.heap.objs.size<=it->(∀b∈fp,b=z\/sh.heap.objs.size<=b)->
   (∀b o,sh.heap.get? b=cz o->h'.get? b=cz o)->Q (.ref it) {sh with heap:=h',drawn:=d}):aE (a_ prog w) A (rG (.ref z)) Q E sh:=by
 obtain⟨hex,hd,hf,hu,hl,hb,he⟩:=id r;have hT:sh.TypeIs (.ref z) "set":=⟨o,ho,hex.1⟩;have lz:=aK ho;refine pV hT F.slot_set_iter (bD F.slot_set_iter hT F.entry_set_iterA ?_ (F.args_set_iter_1 _));unfold Builtin.«frozenset.__iter__» Builtin.Frozenset.slot0;refine ab (m:=vo "__iter__" 0 _ >>= _) (ab (ae (show aE _ _ (pure z) _ _ _ from ae ?_)));unfold Builtin.Frozenset.sizeOf;refine ab (ab (iq ho hd hf (ae ?_)));unfold setDrawn;refine ab (ab (gJ ho hd hf (ab (U4 (ae ?_)))))
 dsimp only
 have tail:∀(first:aj) (uG:av),uG.heap.get? z=cz o->(∀o1:fN,o1={cls:=.type "set_iterator",data:=.fields #[first,.int (0:Nat) 0,.ref z,.int es.size 0,.int ep 0]}->Q (.ref uG.heap.objs.size) {uG with heap:=uG.heap.push o1})->
   aE (a_ prog w) A.in1 (setEpoch z >>= λe=>newFields "set_iterator" [first,df 0,.ref z,df es.size,df e] >>= λv=>ret v) (λfin s'=>∃v,fin=Fin.done (Flow.ret v)/\∃T' r,s'.TypeIs v T'/\oW (dX T') (cm "__next__")=pure (cz r)/\Q v s') E uG:=λfirst uG h1 q1=>by
  refine ab (wpAny_setEpoch_of h1 hd hf ?_);unfold newFields;refine ab (dt (ae ⟨_,rfl,"set_iterator",_,⟨_,aF _ rfl,rfl⟩,F.slot_sit_next.lookup,?_⟩));exact q1 _ (by simp[df])
 refine er (λc=>?_) λc=>?_
 ·rw[ao]at c;refine ab (b2K _ _ _ _ (by simp) λps d hp=>?_);have jF:∀p∈ps,p<es.size:=λp h=>bR.mp (hp.mem_iff.mp h)
  refine ab (ve ?_ (by rw[ah,hp.length_eq,cL];exact kU hb));refine tail _ _ (ag _ ho) λo1 e1=>?_
  refine q _ _ d [(sh.heap.push {cls:=.type "tuple",data:=.seq (ps.map λi=>df (i:Nat)).toArray}).objs.size,z,sh.heap.objs.size] _ _ ?_ (λA' hA=>b2M (ps:=ps) (tp:=sh.heap.objs.size) hA r jF ?_ ?_) ⟨⟨o1,aF _ (by rw[e1];rfl),by rw[e1],by rw[e1]⟩,ag _ (ag _ ho),ag _ (aF _ rfl)⟩ ?_ ?_ λb o e=>ag _ (ag _ e)
  ·exact a3P (l:=es.toList.map (·.2)) (by simpa using hp)
  ·rw[cP];exact bg (gj lz)
  ·rw[cP];exact bg (kz _)
  ·rw[cP];exact fF _
  ·intro b jW;rw[cP]at jW;simp only[az,cG,or_false]at jW;rcases jW with rfl|rfl|rfl
   ·exact .inr (fF _)
   ·exact .inl rfl
   ·exact .inr (aD _)
 ·refine ab (ae (tail _ _ ho λo1 e1=>?_));have sR:∀b∈[sh.heap.objs.size,z],b=z\/sh.heap.objs.size<=b:=by
   intro b jW;simp only[az,cG,or_false]at jW;rcases jW with rfl|rfl
   ·exact .inr (aD _)
   ·exact .inl rfl
  have hI:SIt (sh.heap.push o1) sh.heap.objs.size (.int (0:Nat) 0) 0 z es.size ep:=⟨o1,aF _ (by rw[e1];rfl),by rw[e1],by rw[e1];rfl⟩;have tH:(sh.heap.push o1).get? z=cz o:=ag _ ho;cases oE:w.params.followText "set-order" with
  |true=>
   exact q _ _ sh.drawn [sh.heap.objs.size,z] _ _ ((b0E _ es).map _) (λA' hA=>b5i hA r oE (bg lz)) ⟨hI,tH⟩ (aD _) sR λb o e=>ag _ e
  |false=>
   have fM:t.plain=p4\/es.size<=1:=by
    rw[oE]at c;have c':¬ (!t.plain&&decide (es.size>1))=p4:=λz=>c (show (!false&&(!t.plain&&decide (es.size>1)))=p4 from by rw[z];rfl)
    cases h:t.plain with
    |true=>exact .inl rfl
    |false=>
     rw[h]at c';simp at c';exact .inr (by lia)
   exact q _ _ sh.drawn [sh.heap.objs.size,z] _ _ (iy _) (λA' hA=>b2L hA r oE fM (bg lz)) ⟨⟨0,hI,a7S hu⟩,tH⟩ (aD _) sR λb o e=>ag _ e
def b2O(hT:sh.TypeIs (.ref z) "set")(h:Q rp sh):aE (a_ prog w) A (gO (.ref z)) Q E sh:=by
 unfold gO;refine ab (dA hT (by exact PySem.F.slot_set_len.lookup) ?_);generalize Bj:("set.__len__":String)=Dm
 wp_delta
 rw[show splitId Dm=cz ("set","__len__") from by subst Bj;decide +kernel];subst Bj;refine ab (fA (T:="set") (b:=p4) hT (by rw[nr];kernel_rfl) (er (λy=>absurd y (by decide)) λ_=>er (λ_=>?_) λy=>absurd (by decide +kernel) y));exact ab (ib hT (ae h))
end
end VS
namespace VS
open PySem PySem.Spec L2
section
variable {prog:bB}{w:bQ}{A:bE}{E:aj->av->Prop}{sh:av}{z:aw}{ep:Nat}{o:fN}{es:Array (Int×aj)}{t:gA}{ms:Prop}
def a6v(hh:A.handled=el)(ho:sh.heap.get? z=cz o)(r:F6 w o es ep t ms)
  (q:∀(vs:List aj) (h':bU) (tk:Nat) (d:Drawn),vs.Perm (es.toList.map (·.2))->Kept sh.heap h'->sh.heap.objs.size<=h'.objs.size->Q vs {sh with heap:=h',toks:=tk,drawn:=d}):aE (a_ prog w) A (collect (.ref z)) Q E sh:=by
 have lz:=aK ho
 let L:fN:={cls:=.type "list",data:=.seq #[]}
 have yD:(sh.heap.push L).get? z=cz o:=ag _ ho;have Fg:ll {sh with heap:=sh.heap.push L} (.ref z) "set":=⟨o,yD,r.1.1⟩;have EV:es.size<=aU:=kU r.2.2.2.2.2.1
 let S:aw:=sh.heap.objs.size
 have key:∀(it:aw) (fp:List aw) (St:Nat->bU->Prop) (ord:List aj) (d:Drawn) (W:∀A':bE,A'.handled=el->lR prog w A' it fp [it] ord.length (λi v=>ord[i]?=cz v) St),ord.Perm (es.toList.map (·.2))->S∉fp->sh.heap.objs.size<=it->
   ∀(h:bU) (c1 tk:Nat),St 0 h->(∀b o,b≠S->(sh.heap.push L).get? b=cz o->h.get? b=cz o)->h.get? S=cz {cls:=.type "list",data:=.seq #[] c1}->
   gL (a_ prog w) A (.builtin "list.extend.loop" ⟨[.ref S,.ref it,.ref S],[]⟩) (λg s'=>∃(h':bU) (tk:Nat) (d:Drawn) (acc:Array aj) (c:Nat),g=.ok (.ret (.ref S))/\s'={sh with heap:=h',toks:=tk,drawn:=d}/\h'.get? S=cz {cls:=.type "list",dict:=el,data:=.seq acc c,slots:=#[]}/\Q acc.toList {sh with heap:=h',toks:=tk,drawn:=d}) {sh with heap:=h,toks:=tk,drawn:=d}:=by
  intro it fp St ord d W hp nf hit h c1 tk st k hS;have hn:ord.length<=aU:=by rw[hp.length_eq];simpa using EV
  refine PySem.codeAny_extend_loopS (W A.in1 (by simpa using hh)).toS hn S nf (.ref S) ord.length 0 _ #[] c1 rfl (b_ _) st hS (ItemsOf.nil _) λs' acc c' m mT mS=>?_
  rw[Moved.eq_with m];refine⟨s'.heap,s'.toks,d,acc,c',rfl,rfl,mT,?_⟩;have e:acc.toList=ord:=by
   refine nR λi=>?_
   rw[bX];by_cases c:i<ord.length
   ·obtain⟨x,hx⟩:∃x,acc[i]?=cz x:=⟨_,bJ (by rw[mS.1];exact c)⟩;rw[hx];exact (mS.2 i x hx).symm
   ·rw[eQ (by rw[mS.1];lia),dY (by lia)]
  rw[e];refine q ord s'.heap s'.toks d hp (λb o x=>m.heap b o (λhm=>?_) (k b o (bg (aK x)) (ag _ x))) (dF (aK mT));have lb:=aK x;rcases az.mp hm with e'|e'
  ·exact absurd (e'▸lb) (dw _)
  ·exact absurd lb (by rw[ai.mp e'];exact Nat.not_lt.mpr hit)
 unfold collect;refine ab (nh (dQ (by exact nc) ?_));rw[de (by exact pR) _];show aE _ A.in1 (newList [] >>= λl=>again (.builtin "list.__iadd__" ⟨[l,.ref z],[]⟩)) _ _ sh;refine ab (dt (ae ⟨fw (by exact il) _,dQ (by exact oR) ?_⟩));rw[de (by exact il) _];show aE _ A.in1 (du (.ref S) (.ref z) (.ref S)) _ _ {sh with heap:=sh.heap.push L};have By:S≠z:=et lz;unfold du;refine ab (ib (T:="set") Fg ?_);have h1:iA (.ref S) (.ref z)=rp:=by simp[iA,By]
 simp only[h1,show (dX "set" == dX "list")=rp from by decide,show (dX "set" == dX "tuple")=rp from by decide,Bool.or_false,cN,fO];refine ab (b2N (sh:={sh with heap:=sh.heap.push L}) yD r λit h' d fp St ord hp W st hit sR k=>?_);have qz:sh.heap.objs.size<=it:=bL (by show _<=(sh.heap.push L).objs.size;rw[cP];exact fF _) hit;have nf:S∉fp:=λy=>by
  rcases sR S y with e|e
  ·exact By e
  ·have e':(sh.heap.push L).objs.size<=S:=e;rw[cP]at e';exact absurd e' (Nat.not_succ_le_self _)
 have wI:h'.get? S=cz {cls:=.type "list",data:=.seq #[] 0}:=k S _ (aF _ rfl);have tH:h'.get? z=cz o:=k z _ yD;have last:∀(h2:bU) (c1:Nat),St 0 h2->(∀b o,b≠S->(sh.heap.push L).get? b=cz o->h2.get? b=cz o)->h2.get? S=cz {cls:=.type "list",data:=.seq #[] c1}->_:=λh2 c1 a b c=>fQ (key it fp St ord d W hp nf qz h2 c1 sh.toks a b c) (R':=λr s'=>match r with
       |Except.ok (Flow.ret v)=>aE (a_ prog w) A (match v with|bb a=>load a >>= λu=>(match u.data with|Data.seq xs _=>pure xs.toList|_=>sC "internal:collect")|_=>sC "internal:collect") Q E s'
       |Except.ok _=>False
       |Except.error e=>E e s') λg s2 y=>by
  obtain⟨h3,tk,d3,acc,c,rfl,rfl,e1,qq⟩:=y;show aE _ A (load S >>= _) _ _ _;exact ab (lY e1 (ae qq))
 refine ab (bO (b2O ⟨o,tH,r.1.1⟩ ?_));refine er (λ_=>?_) (λ_=>ae ⟨fw (by exact ro) _,last h' 0 st (λb o _ e=>k b o e) wI⟩);refine ab (dW (ab ?_));show aE _ _ (rC S (·.push .none) >>= λ_=>rC S (·.pop)) _ _ _;refine ab (jR wI rfl ?_);have wH:=bV (hJ (·.push cw)) wI rfl;refine jR (hz:=by seq_fits) wH rfl ?_;have zP:=bV (hJ (·.pop)) wH rfl;refine ae ⟨fw (by exact ro) _,last _ _ ?_ (λb o hb e=>?_) zP⟩
 ·exact (W A hh).frame 0 _ _ st λb hb o e=>by
   have Bu:S≠b:=λy=>nf (by rw[y];exact hb)
   exact (dD _ _ Bu).trans ((dD _ _ Bu).trans e)
 ·exact (dD _ _ (dP hb)).trans ((dD _ _ (dP hb)).trans (k b o e))
end
end VS
namespace VS
open PySem PySem.Spec L2
open PyProof.Rows (slot_list_sort entry_list_sort args_list_sort kind_sorted plain_sorted entry_sorted args_sorted1 IntsAre)
section
variable {prog:bB}{w:bQ}{A:bE}{E:aj->av->Prop}{sh:av}{z:aw}{ep:Nat}{o:fN}{es:Array (Int×aj)}{t:gA}{ms:List Int}
def b5j(he:EI l ms){vs:List aj}(hp:vs.Perm (l.map (·.2))):(∀v∈vs,∃n tk,v=.int n tk)/\(vs.map iOf).Perm ms:=by
 refine⟨λv hv=>?_,(hp.map iOf).trans ?_⟩
 ·obtain⟨e,h1,rfl⟩:=aX.mp (hp.mem_iff.mp hv);obtain⟨n,tk,h2,_⟩:=he.1 e h1;exact⟨n,tk,h2⟩
 ·rw[bH];exact he.2
theorem a9g:∀{vs:List aj},(∀v∈vs,∃n tk,v=.int n tk)->IntsAre vs (vs.map iOf)
 |[],_=>.nil
 |v::vs,h=>by
  obtain⟨n,tk,rfl⟩:=h v ak;exact .cons n tk (a9g λx hx=>h x (aq _ hx))
def a7V(hh:A.handled=el)(ho:sh.heap.get? z=cz o)(r:a3e w o es ep t ms)(xU:ms.length<64)
  (q:∀(vs:List aj) (h':bU) (tk e:Nat) (d:Drawn) (y:aw),IntsAre vs (srt ms)->Kept sh.heap h'->sh.heap.objs.size<=y->h'.get? y=cz (uI "list" vs.toArray e)->Q (.ref y) {sh with heap:=h',toks:=tk,drawn:=d}) :
  aE (a_ prog w) A (call (.builtin "sorted") [.ref z]) Q E sh:=by
 refine kS kind_sorted plain_sorted entry_sorted (args_sorted1 _) ?_;unfold Builtin.«sorted»;refine ab (m:=checkCount "sorted" 1 1 _) (ae ?_);refine ab (a6v (A:=A.in1) (by simpa using hh) ho r λvs h1 tk d hp k1 z1=>?_);obtain⟨i1,i2⟩:=b5j r.2.2.2.2.2.2 hp;have hl:vs.length<64:=by have:=i2.length_eq;rw[ah]at this;lia
 refine ab (wpAny_newList ?_ (by rw[cO];lia));have oL:(h1.push (uI "list" vs.toArray 0)).get? h1.objs.size=cz (uI "list" vs.toArray 0):=aF _ rfl;refine ab (bO (bD slot_list_sort ⟨_,oL,rfl⟩ entry_list_sort (pU (s:={sh with heap:=h1.push (uI "list" vs.toArray 0),toks:=tk,drawn:=d}) oL (a9g i1) hl λout yt a1 a2 a3=>⟨_,rfl,?_⟩) (args_list_sort _)));obtain⟨e,jg⟩:=qS (out:=out) oL;refine ae ⟨_,rfl,q out.toList _ tk e d h1.objs.size ?_ (λb u hb=>?_) z1 (by rw[gD];exact jg)⟩
 ·rw[<-a2Z (a2.trans i2) a3];exact a1
 ·have jW:=k1.push (uI "list" vs.toArray 0) b u hb;have:=aK hb;exact (pS (bg (bA (aK hb) z1)) (aK jW)).trans jW
end
section
variable {X:Cx}{M:List Md}{a:Expr}{fa:EvE}{ca:Cat}{pos ic p p2:eO}{pins:List (aw×fN)}{Y:L2.St}{H:Hp}{s:av}
def b0G(I:Inv X pins Y H s)(d:Drawn):Inv X pins Y H {s with drawn:=d}:=⟨I.ok,I.os,I.bare,I.base,I.loc,I.cell,I.free,I.freeC,I.pin,I.hok,I.len⟩
def b0H(hc:X.calm=p4):CallR X (.type "set") (λxs H Q=>∃(p:aw) (ns:List Int),xs=[.ref p]/\SqX X.K H p (ns.map V.int)/\ns.length<4000/\∀z,H z=el->Q (.ref z) (upd H z (.ext λh=>SetI X.w h z (dis ns)))):=by
 intro pins s Y H xs us Q I rv h;obtain⟨p,ns,rfl,hp,hn,q⟩:=h;obtain⟨u,rfl,rx⟩:=vals1 rv;cases (show u=bb p from rx)
 obtain⟨_,cA,n,pY,ho⟩:=hp.ok I;have hl:s.heap.IsList p cA.toArray:=⟨_,ho,rfl,n,rfl⟩;have hlen:cA.length=ns.length:=by have:=pY.length;rw[ah]at this;exact this.symm
 refine b0D (ns:=ns) (I.ok.hd hc) hl (by simpa using a1u pY) (by rw[bh,hlen];unfold jw;lia) λh' tk hS hk=>?_
 have qA:H s.heap.objs.size=el:=I.hok.fresh (aD _);have hsz:cA.toArray.size=ns.length:=by rw[bh];exact hlen
 rw[hsz]at hS;exact⟨.ref s.heap.objs.size,_,I.laid (a:=s.heap.objs.size) (o:=.ext λh=>SetI X.w h s.heap.objs.size (dis ns)) (t':=tk) hk (aD _) ⟨hS,let⟨o,_,_,_,e,_⟩:=hS;⟨o,e⟩,λ_ _ x k=>x.at k⟩,rfl,q _ qA⟩
def a7W(hc:X.calm=p4):CallR X (.builtin "sorted") (λxs H Q=>∃p ms,xs=[V.ref p]/\H p=cz (.ext λh=>SetI X.w h p ms)/\ms.length<64/\∀z,H z=el->Q (.ref z) (upd H z (.lst ((srt ms).map V.int)))):=by
 intro pins s Y H xs us Q I rv h;obtain⟨p,ms,rfl,hH,xU,q⟩:=h;obtain⟨u,rfl,rx⟩:=vals1 rv;cases (show u=bb p from rx)
 obtain⟨⟨o,es,ep,t,ho,r⟩,_,_⟩:=(show (SetI X.w s.heap p ms)/\_/\_ from I.hok p _ hH);refine a7V (I.ok.hd hc) ho r xU λvs h' tk e d y hi hk hy hl=>?_
 have hn:H y=el:=I.hok.fresh hy;have jP:((srt ms).map V.int).length<=aU:=by rw[ah,(l9 ms).length_eq,cO];lia
 exact⟨.ref y,_,b0G (I.laid (a:=y) (o:=.lst ((srt ms).map V.int)) (t':=tk) hk hy ⟨jP,vs,e,vals_ints hi,hl⟩) d,rfl,q _ hn⟩
def a0R(a:EvE):EvE:=λU=>(a U).bind λd=>(asL d).bind λds=>(intsOf ds).bind λns=>if ns.length<64 then cz (.list ((srt (dis ns)).map .int)) else el
def b8k(ns:List Int):(dis ns).length<=ns.length:=PyProof.Rows.firstMet_length_le _ _
def a7X(hc:X.calm=p4)(hm:X.mg "set"=el)(Ec:X.mg "sorted"=el)(ha:PX X M a fa ca)(hg:Gl X "set":=by rfl)(zu:Gl X "sorted":=by rfl)(he:ax [a] X.env=(rp,cg a X.env)::ax [] X.env:=by rfl)(fM:(cj ic (ax [] X.env)).any (·.1)=rp:=by rfl)
  (mC:ax [.Call (.Name "set" p2) [a] [] ic] X.env=(rp,cg (.Call (.Name "set" p2) [a] [] ic) X.env)::ax [] X.env:=by rfl) (qu:(cj pos (ax [] X.env)).any (·.1)=rp:=by rfl) :
  PX X M (.Call (.Name "sorted" p) [.Call (.Name "set" p2) [a] [] ic] [] pos) (a0R fa) (.new (.l .i)):=by
 obtain⟨ta,pa,qa⟩:=ha.out;refine .mk ⟨_,R1 (a7W hc) zu Ec PyProof.Rows.Boot.«sorted» (m5 (N0 (b0H hc) hg hm PyProof.Rows.Boot.«set» (m5 pa q9 he) (by decide) (by decide) he fM) q9 mC) (by decide) (by decide) mC qu,λU Y H P F d Q S hf q=>?_⟩;obtain⟨x,h1,g1⟩:=bnd hf;obtain⟨ds,h2,g2⟩:=bnd g1;obtain⟨ns,h3,g3⟩:=bnd g2;cases O1 h2
 cases D7 h3
 by_cases c:ns.length<64
 ·rw[aH c]at g3;cases g3
  refine qa U Y H P F _ _ S h1 λv H1 e1 r1=>?_
  obtain⟨pp,xs,rfl,k1,k2⟩:=r1.den.list_inv;cases X3 k2
  refine⟨pp,ns,rfl,k1,by lia,λz hz=>⟨z,_,rfl,i6,by have:=b8k ns;lia,λy hy=>?_⟩⟩;have e2:=e1.trans (l6 hz (.ext λh=>SetI X.w h z (dis ns)));refine q _ _ (e2.trans (l6 hy _)) (N3 ?_ (b4P _) e2 hy (S.lst' e2));have:∀(H':Hp) (ms:List Int),DenAll X.K H' (ms.map V.int) (ms.map aG):=by
   intro H' ms
   induction ms with
   |nil=>exact denAll_nil
   |cons n ms ih=>exact denAll_cons den_int ih
  exact this _ _
 ·rw[aM c]at g3;cases g3
end
end VS
namespace VS
open PySem PySem.Spec L2
section
variable {X:Cx}{M:List Md}{a b:Expr}{fa fb:EvE}{ca cb:Cat}{pos p:eO}
def b5k:OpR X (eK .Add) (λx y H Q=>∃a b ys,x=.ref a/\y=.ref b/\SqT X.K H a []/\SqT X.K H b ys/\Q (.ref b) H):=by
 intro pins s Y H x y v u Q I rx ry h;obtain⟨a,b,ys,rfl,rfl,ha,hb,q⟩:=h;cases rx
 cases ry
 obtain⟨cA,r1,p1,_⟩:=I.tuple ha;obtain⟨mO,r2,p2,_⟩:=I.tuple hb;cases r1
 obtain⟨⟨cls,dd,data,sl⟩,ho,hc,n,hd⟩:=id p1;obtain⟨⟨Ae,xW,data2,xp⟩,tW,mE,n2,hd2⟩:=id p2;simp only at hc hd mE hd2;subst hc hd mE hd2;exact FZ ⟨_,ho,rfl⟩ ⟨_,tW,rfl⟩ rH yj kM ku (kh _ _) (PyProof.Rows.tuple_addW0 a b _ _ n n2 dd xW sl xp (by simp)) ⟨ho,tW,⟨.ref b,H,I,rfl,q⟩⟩
def a0S:D->D->Option D
 |.tuple [],.tuple es=>V6 (.tuple es)
 |x,y=>b2i x y
def b5l(ha:PX X M a fa ca)(hb:PX X M b fb cb):PX X M (.BinOp a .Add b pos) (e2 a0S fa fb) (.new .i):=by
 obtain⟨ta,pa,qa⟩:=ha.out;obtain⟨tb,pb,qb⟩:=hb.out;have CS:OpR X (eK .Add) (λx y H Q=>(∃a b ys,x=V.ref a/\y=V.ref b/\SqT X.K H a []/\SqT X.K H b ys/\Q (.ref b) H)\/b6b X.K x y H Q):=λpins s Y H x y v u Q I rx ry h=>h.elim (λh=>b5k pins s Y H x y v u Q I rx ry h) λh=>b4i pins s Y H x y v u Q I rx ry h
 refine .mk ⟨_,b1q CS pa pb,λU Y H P F d Q S hf q=>?_⟩;obtain⟨x,y,h1,h2,h3⟩:=A7 hf;refine qa U Y H P F _ _ S h1 λv H1 e1 r1=>qb U Y H1 P F _ _ (S.grow e1) h2 λw H2 e2 r2=>?_
 by_cases c:∃es,x=.tuple []/\y=.tuple es
 ·obtain⟨es,rfl,rfl⟩:=c;obtain⟨rfl,hi⟩:=R7 (show V6 (.tuple es)=cz d from h3);obtain⟨pp,xs,rfl,k1,k2⟩:=(r1.den.up e2).tup_inv;obtain⟨qq,ys,rfl,j1,j2⟩:=r2.den.tup_inv;cases k2.nil_inv
  exact .inl ⟨pp,qq,ys,rfl,rfl,k1,j1,q _ _ (e1.trans e2) (E8 hi (den_tup j1 j2) (S.lst' (e1.trans e2)))⟩
 ·have pQ:b2i x y=cz d:=by
   unfold a0S at h3
   split at h3
   ·exact absurd ⟨_,rfl,rfl⟩ c
   ·exact h3
  obtain⟨ds,es,rfl,rfl,gK,hl,rfl,hi⟩:=a7I pQ;obtain⟨pp,xs,rfl,k1,k2⟩:=(r1.den.up e2).tup_inv;obtain⟨qq,ys,rfl,j1,j2⟩:=r2.den.tup_inv;have xl:=k2.length;have yl:=j2.length;refine .inr ⟨pp,qq,xs,ys,rfl,rfl,k1,j1,λz=>gK (eD.mp (by rw[<-xl,z];rfl)),by rw[xl,yl,cO];lia,λz=>?_,λ_ z hz=>?_⟩
  ·have:es=[]:=eD.mp (by rw[<-yl,z];rfl);subst this;rw[bj]at hi q;exact q _ _ (e1.trans e2) (E8 hi (den_tup k1 k2) (S.lst' (e1.trans e2)))
  ·exact q _ _ ((e1.trans e2).trans (l6 hz _)) (E8 hi (a2G (k2.append j2) hz) (S.lst' ((e1.trans e2).trans (l6 hz _))))
end
end VS
namespace VS
open PySem PySem.Spec
section
variable {prog:bB}{w:bQ}{A:bE}{E:aj->av->Prop}{sh:av}{o:aw}{rows:Array eX}{ep:Nat}
theorem a4v:∀(l:List α),(∀e∈l,∀Q':ForInStep PUnit->av->Prop,Q' (.yield ⟨⟩) sh->aE (a_ prog w) A (f e ⟨⟩) Q' E sh)->∀Q:PUnit->av->Prop,Q ⟨⟩ sh->aE (a_ prog w) A (forIn l kN f) Q E sh
 |[],_,Q,q=>by rw[jO];exact ae q
 |e::l,h,Q,q=>by
  rw[jk];exact ab (h e ak _ (a4v l (λx hx=>h x (aq _ hx)) Q q))
def a6w{id:String}{u:fN}{Q:Array eX->av->Prop}(hu:sh.heap.get? o=cz u)(oK:u.data=.dict rows ep)(i_:∀e∈rows,∃b,e.key=.ref b/\sh.TypeIs (.ref b) "tuple")(hd:∀e∈rows,¬ (rows.filter (·.hash==e.hash)).size>1)(q:Q rows sh) :
  aE (a_ prog w) A (uF id o) Q E sh:=by
 unfold uF;refine ab (cD hu oK ?_);refine ab ?_;rw[<-mY];refine a4v rows.toList (λe he Q' q'=>?_) _ (ae q);obtain⟨b,hb,hT⟩:=i_ e (dO.mp he);rw[hb];unfold Builtin.Dict.quietEq
 dsimp only
 refine ab (ab (dA hT F.slot_tuple_eq.lookup (ae ?_)));refine er (λ_=>er (λc=>absurd c (hd e (dO.mp he))) λ_=>ae q') λ_=>ae q'
def b0I(sS:d≠o)(h0:(o==cW)=rp)(hm:sh.heap.RawDict o rows ep)(zE:sh.heap.RawDict d #[] 0)(gK:rows.size≠0)(i_:∀e∈rows,∃b,e.key=.ref b/\sh.TypeIs (.ref b) "tuple")(hd:∀e∈rows,¬ (rows.filter (·.hash==e.hash)).size>1)(hz:rows.size<=aU)
  (q:∀h',h'.RawDict d rows 1->cF d sh.heap h'->Q () {sh with heap:=h'}):aE (a_ prog w) A (jf nm d o) Q E sh:=by
 obtain⟨u,hu,GK,oK⟩:=id hm;obtain⟨v,hv,Dv,xx⟩:=id zE;unfold jf;rw[aM (by simpa using sS)]
 dsimp only
 unfold ju;rw[aM (by rw[h0];exact aW)];refine ab (ae (ab (cD hu oK ?_)));have FE:(decide (rows.size<=8)&&rows.all λe=>(keyPart e.key).isSome)=rp:=by
  rw[Bool.and_eq_false_iff];refine .inr ?_;rw[Array.all_eq_false];obtain⟨b,hb,_⟩:=i_ rows[0] (Array.getElem_mem _);exact⟨0,by lia,by rw[hb];simp[keyPart]⟩
 rw[FE,aH (show (!false)=p4 from rfl)];refine ab (cD hv xx ?_);rw[aH (show (#[]:Array eX).isEmpty=p4 from rfl)];refine ab (a6w hu oK i_ hd ?_);rw[aH (by simpa[Array.isEmpty]using gK)];refine ab (wpAny_updateDictKeysTo hv xx (ae (q _ ⟨_,bV _ hv (ir (hU xx _)),Dv.mapDictKeys _,hU xx _⟩ (bS ..))) (Nat.le_succ_of_le hz))
def a3g(h0:(o==cW)=rp)(hm:sh.heap.RawDict o rows ep)(gK:rows.size≠0)(i_:∀e∈rows,∃b,e.key=.ref b/\sh.TypeIs (.ref b) "tuple")(hd:∀e∈rows,¬ (rows.filter (·.hash==e.hash)).size>1)(hz:rows.size<=aU)
  (q:∀h',h'.RawDict sh.heap.objs.size rows 1->(∀b u,sh.heap.get? b=cz u->h'.get? b=cz u)->Q (.ref sh.heap.objs.size) {sh with heap:=h'}):aE (a_ prog w) A (call (.type "dict") [.ref o]) Q E sh:=by
 refine wZ (Q₁:=λv s1=>v=.ref sh.heap.objs.size/\s1={sh with heap:=sh.heap.push {cls:=.type "dict",data:=.dict #[]}}) F.kt_called_dict (F.kt_typeCall_dict_1 _) F.entry_dict_init (kt_code_dict_new _ ⟨rfl,rfl⟩) ?_;rintro v s1 ⟨rfl,rfl⟩;have hn:(sh.heap.push {cls:=.type "dict",data:=.dict #[]}).RawDict sh.heap.objs.size #[] 0:=⟨_,aF _ rfl,⟨rfl,rfl,rfl⟩,rfl⟩;have ho:(sh.heap.push {cls:=.type "dict",data:=.dict #[]}).RawDict o rows ep:=hm.at λ_ e=>ag _ e
 have wF:ll {sh with heap:=sh.heap.push {cls:=.type "dict",data:=.dict #[]}} (.ref sh.heap.objs.size) "dict":=Heap.RawDict.typeIs (sh:={sh with heap:=sh.heap.push {cls:=.type "dict",data:=.dict #[]}}) hn;have uu:ll {sh with heap:=sh.heap.push {cls:=.type "dict",data:=.dict #[]}} (.ref o) "dict":=Heap.RawDict.typeIs (sh:={sh with heap:=sh.heap.push {cls:=.type "dict",data:=.dict #[]}}) ho;have sS:sh.heap.objs.size≠o:=by
  obtain⟨_,hg,_⟩:=hm;exact λe=>absurd (aK hg) (by rw[e];exact dw _)
 refine⟨wF,F.args_dict_init_2 _ _,?_⟩;unfold Builtin.«dict.__init__» lA;refine ab (ab (fI wF (show aE _ _ (pure (sh.heap.objs.size,[bb o])) _ _ _ from ae ?_)));show aE _ _ (eY "dict.__init__" sh.heap.objs.size (bb o) [] cw) _ _ _;unfold eY Builtin.Dict.merge ya;refine ab (ib uu ?_);rw[aM (by decide)];refine ab (ab (ab (fA uu isSubtype_dict_dict ?_)));simp only[iX,cN,fO];refine ab (dA uu sk.lookup (ae ?_));simp only[fR,gF];refine ab (ae ?_);refine b0I sS h0 ho hn gK (λe he=>let⟨b,hb,u,hu,hc⟩:=i_ e he;⟨b,hb,u,ag _ hu,hc⟩) hd hz λh' hr sb=>?_
 show aE _ _ (An sh.heap.objs.size [] >>= λ_=>_) _ _ _;exact ab (ae (ae ⟨rfl,q h' hr λb u e=>sb.extBut b u (bg (aK e)) (ag _ e)⟩))
end
end VS
namespace VS
open PySem PySem.Spec L2
theorem a4w{f:α->Int}:∀{l:List α},(l.map f).Nodup->∀e∈l,(l.filter λx=>f x==f e).length<=1
 |a::l,h,e,he=>by
  rw[aA,bz]at h;have none_of:∀y,y∉l.map f->(l.filter λx=>f x==y)=[]:=λy hy=>kP.mpr λx hx c=>hy (aX.mpr ⟨x,hx,kG.mp c⟩)
  rcases az.mp he with z|z
  ·subst z;rw[Gn,none_of _ h.1]
   split<;>simp
  ·rw[Gn];have gK:(f a==f e)=rp:=gP.mpr λc=>h.1 (by rw[c];exact aX.mpr ⟨e,z,rfl⟩)
   rw[gK];exact a4w h.2 e z
section
variable {X:Cx}
def a6x:CallR X (.type "dict") (λxs H Q=>∃p es,xs=[V.ref p]/\H p=cz (e6 p es)/\es≠[]/\J0 es=p4/\(∀e∈es,∃b ys,e.2.1=.ref b/\SqT X.K H b ys)/\(es.map λe=>hashD e.1).Nodup/\∀z,H z=el->Q (.ref z) (upd H z (e6 z es))):=by
 intro pins s Y H xs us Q I rv h;obtain⟨p,es,rfl,hH,gK,hL,hk,hn,q⟩:=h;obtain⟨u,rfl,rx⟩:=vals1 rv;cases (show u=bb p from rx)
 obtain⟨h0,hl,iF,o,ents,ep,g1,g2,g3,g4⟩:=p5 I hH;have hsz:ents.size=es.length:=by rw[cR g4];exact cu.symm
 have jF:∀{es:List (D×V×V)} {l:List eX},e_ P5 es l->∀x∈l,∃e∈es,P5 e x:=by
  intro es l h
  induction h with
  |nil=>intro x hx;cases hx
  |cons r _ ih=>
   intro x hx;rcases az.mp hx with z|z
   ·subst z;exact⟨_,ak,r⟩
   ·obtain⟨e,he,r'⟩:=ih x z;exact⟨e,aq _ he,r'⟩
 have we:∀{es:List (D×V×V)} {l:List eX},e_ P5 es l->l.map (·.hash)=es.map λe=>hashD e.1:=by
  intro es l h
  induction h with
  |nil=>rfl
  |cons r _ ih=>rw[aA,aA,ih,r.1]
 refine a3g (rows:=ents) h0 ⟨o,g1,g2,g3⟩ (by rw[hsz];exact λz=>gK (eD.mp z)) (λx hx=>?_) (λx hx=>?_) (by rw[hsz];exact hl) λh' hr El=>?_
 ·obtain⟨e,he,r⟩:=jF g4 x (dO.mpr hx);obtain⟨b,ys,e1,e2⟩:=hk e he;have r2:=r.2.1;rw[e1]at r2;obtain⟨cA,_,⟨ob,ho,hc,_⟩,_⟩:=I.tuple e2;exact⟨b,r2,ob,ho,hc⟩
 ·have z:=a4w (f:=λx:eX=>x.hash) (l:=ents.toList) (by rw[we g4];exact hn) x (dO.mpr hx);rw[<-Array.toList_filter,cu]at z;lia
 ·obtain⟨o',b1,b2,b3⟩:=hr;have qA:H s.heap.objs.size=el:=I.hok.fresh (aD _);have DE:(s.heap.objs.size==cW)=rp:=gP.mpr (dP (bg I.sysBelow));exact⟨.ref s.heap.objs.size,_,I.laid (a:=s.heap.objs.size) (o:=e6 s.heap.objs.size es) (t':=s.toks) El (aD _) (Y8 DE hl iF b1 b2 b3 (λz=>by rw[hL]at z;cases z) g4),rfl,q _ qA⟩
end
def J7(kvs:List (D×D)):Bool:=keysOk p4 kvs&&(!kvs.isEmpty&&(T4 kvs&&decide (kvs.map λp=>hashD p.1).Nodup))
def a5r(a:EvE):EvE:=λU=>(a U).bind λd=>match d with
 |.dict kvs=>if J7 kvs then cz (.dict kvs) else el
 |_=>el
theorem a6y:∀l:List (α×β),(l.map (·.1)).zip (l.map (·.2))=l
 |[]=>rfl
 |x::l=>by rw[aA,aA,dZ,a6y l]
section
variable {X:Cx}{M:List Md}{a:Expr}{fa:EvE}{ca:Cat}{pos p:eO}
def b0J(hm:X.mg "dict"=el)(ha:PX X M a fa ca)(hc:frozen ca:=by trivial)(hg:Gl X "dict":=by rfl)(he:ax [a] X.env=(rp,cg a X.env)::ax [] X.env:=by rfl)(fM:(cj pos (ax [] X.env)).any (·.1)=rp:=by rfl) :
  PX X M (.Call (.Name "dict" p) [a] [] pos) (a5r fa) (.new (.d p4 .f)):=by
 obtain⟨ta,pa,qa⟩:=ha.out;refine .mk ⟨_,N0 a6x hg hm PyProof.Rows.Boot.«dict» (m5 pa q9 he) (by decide) (by decide) he fM,λU Y H P F d Q S hf q=>?_⟩;obtain⟨x,h1,g1⟩:=bnd hf;cases x with
 |dict kvs=>
  by_cases c:J7 kvs=p4
  ·have g2:(if J7 kvs then cz (bo.dict kvs) else el)=cz d:=g1;rw[aH c]at g2;cases g2
   simp only[J7,ao,bK]at c;obtain⟨c1,c2,c3,c4⟩:=c;refine qa U Y H P F _ _ S h1 λv H1 e1 r1=>?_
   obtain⟨aa,es,rfl,k1,k2⟩:=(E9 hc r1).dict_inv;have kk:=k2.keys;have kd:=k2.kden;have ky:∀e∈es,keyOk p4 e.1:=λe he=>by
    have:e.1∈kvs.map (·.1):=by rw[<-kk];exact aX.mpr ⟨e,he,rfl⟩
    obtain⟨pp,hp,e2⟩:=aX.mp this;rw[<-e2];exact x6 (aY.mp c1 pp hp)
   refine⟨aa,es,rfl,i7 _ _ k1,λz=>?_,by rw[a1T k2];exact c3,λe he=>?_,?_,λz hz=>?_⟩
   ·rw[z]at kk;cases kvs with
    |nil=>simp at c2
    |cons _ _=>cases kk
   ·obtain⟨ds,rS⟩:=(ky e he).2.2.1 rfl;have dd:=kd e he;rw[rS]at dd;obtain⟨b,xs,e2,e3,_⟩:=(dd.up i7).tup_inv;exact⟨b,xs,e2,e3⟩
   ·rw[show (es.map λe=>hashD e.1)=kvs.map λp=>hashD p.1 by
     have:=dJ (List.map hashD) kk
     rwa[bH,bH]at this]
    exact c4
   ·have hs:Same (cut H1 F) (cut (upd H1 z (e6 z es)) ([z]++F)):=λb y hy=>by
     obtain⟨n1,n2⟩:=o7 hy;have hb:b≠z:=λw=>by rw[w,hz]at n2;cases n2
     refine j7 (λw=>?_) (by rw[g9 hb];exact n2);rcases ay.mp w with w|w
     ·exact hb (ai.mp w)
     ·exact n1 w
    refine q _ _ (e1.trans (l6 hz _)) ⟨[z],?_,bz.mpr ⟨λw=>(nomatch w),bw⟩,λb hb=>?_⟩
    ·simp only[Own];refine⟨z,es,kvs.map (·.2),[],rfl,i6,by rw[kk,a6y],rfl,⟨?_,λe he=>⟨ky e he,(kd e he).up hs⟩⟩,ListAll.of_den (k2.vals.up hs) λv d _ q=>⟨rfl,q⟩⟩;rw[kk];have c5:=c4;rw[List.Nodup,Ca]at c5 ⊢;exact c5.imp λh e=>h (by rw[e])
    ·rw[ai.mp hb];cases hH:H z with
     |none=>rfl
     |some y=>rw[e1 _ _ hH]at hz;cases hz
  ·have g2:(if J7 kvs then cz (bo.dict kvs) else el)=cz d:=g1;rw[aM c]at g2;cases g2
 |_=>cases g1
end
section
variable {X:Cx}{M:List Md}{e:Expr}{f:EvE}{u:Ty}{kt:Bool}
def a9h(h:PX X M e f (.new (.d kt u))):PX X M e f (.new (.d kt .f)):=h.imp λK H H' F v d hF _ ⟨fp,o,n,z⟩=>by
 simp only[Own]at o;obtain⟨a,es,ds,fs,rfl,ha,rfl,rfl,⟨k1,k2⟩,la⟩:=o;have jx:∀b∈[a]++F,b∈(a::fs)++F:=λb hb=>by
  rcases ay.mp hb with y|y
  ·rw[ai.mp y];simp
  ·exact au _ y
 have tR:∀b∈fs,b∉[a]++F:=λb hb y=>by
  rcases ay.mp y with y|y
  ·rw[ai.mp y]at hb;exact (bz.mp n).1 hb
  ·obtain⟨ys,q⟩:=hF b y;rw[z b (aq _ hb)]at q;cases q
 have key:∀{ds:List D} {xs:List V} {gs:List aw},ListAll (Own K H' ((a::fs)++F) u) xs ds gs->(∀b∈gs,b∈fs)->ListAll (Own K H' ([a]++F) .f) xs ds []:=by
  intro ds
  induction ds with
  |nil=>intro xs gs l _;obtain⟨rfl,rfl⟩:=l.nil_inv;exact m8
  |cons d ds ih=>
   intro xs gs l hs;obtain⟨v,r,f,g,rfl,rfl,l1,l2⟩:=l.cons_inv;exact m6 (f:=[]) (g:=[]) (l1.freeze jx λb hb=>tR b (hs b (aC _ hb))) (ih l2 λb hb=>hs b (au _ hb))
 exact⟨[a],by simp only[Own];exact⟨a,es,ds,[],rfl,ha,rfl,rfl,⟨k1,λe he=>⟨(k2 e he).1,(k2 e he).2.up (E7 jx)⟩⟩,key la λ_ y=>y⟩,by simp,λb hb=>z b (by rw[ai.mp hb];exact ak)⟩
end
section
variable {X:Cx}{M ML M':List Md}{e:Expr}{f:EvE}{pos:eO}
def b5m(hM:M.map frz=M)(he:PX X M e f .tmp):PSX X .f ML M (.Return (cz e) pos) (m9 f) M':=by
 obtain⟨te,pe,qe⟩:=he.out;refine .mk ⟨_,b1m pe,λD U Y H P F o S hg k=>?_⟩;obtain⟨d,h1,g1⟩:=bnd hg;cases g1
 have S0:=S.free hM;refine qe U Y H P [] d _ S0.toE h1 λv H1 e1 hd=>?_
 refine k v H1 [] (by simp only[Own];exact⟨trivial,(show Den X.K H1 v d from hd).up λa x ha=>j7 (by simp) ha⟩) bw (λa ha=>(nomatch ha)) ((S0.prot.trans i7).trans e1)
end
section
variable {X:Cx}{M:List Md}{e0:Expr}{es:List Expr}{f:EvA}{uf:Ty}{x:bI}{p pos jV:eO}{params:lW}{body:Expr}{scope:gi}{ys:List bI}{js:List Nat}
def a6z{ps pl N:List bI}{us:List Ty} 
  (W:Has X.prog X.w X.K X.mg X.base x k ps (spL X.K n (λgm=>FnV X.prog X.w X.K X.mg X.base (kf+1) pl.length uf gm) m .f)) (hr:Room k X.A) (h:PAL X M (e0::es) f λH v=>∃fa,v=.ref fa/\LamO q params body scope (Q7 scope X.env) H fa)
  (uj:a9c X (Q7 scope X.env) ys js) (hM:b8i M js) (S:LamScope N pl ys scope (Q7 scope X.env)) (mP:us.length=pl.length)
  (nz:∀(pm:aj) (c:aw) (mh:aj) (us:List aj),us.length=pl.length->qN (PySem.W.kla_fn "<lambda>" q params body scope (Q7 scope X.env) pm (.ref c) mh) ⟨us,[]⟩=pure (pl.zip us))
  (hb:∀(fa c:aw) (A:bE) (outer:List oS) (s:av) (H:Hp),Room kf (A.deeper (jA q scope s.heap.objs.size fa (.ref c) (Q7 scope X.env)))->PX (a9b X.prog X.w X.K X.mg X.base N q scope fa (.ref c) (Q7 scope X.env) A outer s H) (us.map .own++aR ys.length (.own .f)) body fb (.new uf))
  (hfl:∀U ds,f U=cz ds->ds.length=n) (oy:∀x,X.fn x=p4:=by exact λ_=>rfl)
  (hg:Gl X x:=by rfl) (ma:(x==("__debug__":bI))=rp:=by decide) (he:ax (e0::es) X.env=(rp,cg e0 X.env)::ax es X.env:=by rfl) (fM:(cj pos (ax es X.env)).any (·.1)=rp:=by rfl) :
  PX X M (.Call (.Name x p) (e0::es) [] pos) (b5f m us js fb f) .tmp:=by
 obtain⟨t,pa,qa⟩:=h;obtain⟨G_,fd,F,b,kp,Dc⟩:=W.ex;refine .mk ⟨_,b2A F hr hg Dc kp b pa uj (b5d oy) ma he fM,λU Y H P F d Q S' hf q=>?_⟩;obtain⟨ds,h1,hf⟩:=bnd hf;refine qa U Y H P F ds _ S' h1 λvs v H1 e1 r1 ⟨fa,hv,L⟩=>?_
 subst hv;obtain⟨lE,c1,c2⟩:=a9d (S'.grow e1) hM;refine⟨lE,c1,λH2 C ub s2 ci F_ J2 o2 n2=>?_⟩;refine⟨vs,.ref fa,_,ds,d,rfl,by rw[r1.length];exact hfl U ds h1,r1.up s2,λH' e'=>b5b (L.up (s2.trans e')) S ub (ci.up e') (λy c z=>let⟨ob,uo,w1,w2⟩:=F_ y c z;⟨ob,uo,e' _ _ w1,w2⟩) (c2.up (s2.trans e')) mP nz (hb fa),hf,λv H' fp e o nd fr J'=>?_⟩;have sm:Same H1 (VS.cut H' C):=λb o' hb=>j7 (λz=>by rw[n2 b z]at hb;cases hb) (e _ _ (s2 _ _ hb))
 exact q v (VS.cut H' C) (e1.trans sm) ((o.junk J' .f).den .f)
end
def Iti(a:aw)(es:List (D×V×V)):It:=
 ⟨λi H=>H a=cz (e6 a es)/\i<es.length,λi H x H'=>∃T e,H T=el/\H'=upd H T (.tup [e.2.1,e.2.2])/\x=.ref T/\es[i]?=cz e,λi H=>H a=cz (e6 a es)/\es.length<=i⟩
def a3h(hk:A1 es):J0 es=rp:=by
 cases es with
 |nil=>rfl
 |cons e es=>
  obtain⟨n,e1,_⟩:=hk e ak;show (a0n e.1&&a5P e.2.2)=rp;rw[e1];rfl
def G8(I:Inv X pins Y H s)(hH:H d=cz (e6 d es))(hk:A1 es) :
  ∃kvs,s.heap.DictAt (c_ X.prog X.w) d kvs es.length/\(d==cW)=rp/\e_ EKv es kvs/\kvs.length=es.length:=by
 obtain⟨kvs,ep,jg,h0,_,hp⟩:=U1 I hH hk;have he:ep=es.length:=by
  obtain⟨o,ents,g1,g2,g3,_⟩:=id jg;exact a2S I hH g1 g3 (a3h hk)
 subst he;exact⟨kvs,jg,h0,hp,(cR hp).symm⟩
def a7Y(a it:aw)(es:List (D×V×V))(hk:A1 es):Turn P w K (.Tuple elts kk iE) (Iti a es) [it] it (λi h=>∃ok ov,IsItemIter h it a i es.length es.length ok ov) where
 mem:=by simp
 obj:=λi h st b hb=>by
  obtain⟨ok,ov,he⟩:=st;cases ai.mp hb
  exact⟨_,he,λv z=>by cases z⟩
 keep:=λi h h' st k=>by
  obtain⟨ok,ov,he⟩:=st;exact⟨ok,ov,k it (by simp) _ he⟩
 item:=by
  intro X hP hw hK hc i pins s Y H E I hf st hg;subst hP hw hK;obtain⟨hH,hi⟩:=hg;obtain⟨kvs,jg,h0,hp,hlen⟩:=G8 I hH hk;obtain⟨ok,ov,he⟩:=st;have hx:es[i]?=cz es[i]:=ar hi;obtain⟨⟨n,v⟩,zm,g⟩:=D6 hp hx;rw[<-hlen]at he jg;refine wpAny_pyNext_items_item (knd:=c_ X.prog X.w) he jg zm λkey h' i_ qz tL hsz keep=>⟨.ref s.heap.objs.size,rfl,wpAny_letOwnedTupleGo_items (s:={s with heap:=h'}) qz λh2 mC Ax=>?_⟩
  have hn:H s.heap.objs.size=el:=I.hok.fresh (aD _);have Bx:s.heap.objs.size≠it:=et (aK he);obtain⟨t,rfl⟩:=qO i_;have new:ObjOk X.prog X.w (upd H s.heap.objs.size (.tup [es[i].2.1,es[i].2.2])) h2 s.heap.objs.size (.tup [es[i].2.1,es[i].2.2]):=
   ⟨by rw[cO];show 2<=_;decide,[.int n t,v],.cons (by rw[g.2.1];exact⟨t,rfl⟩) (.cons g.2.2 .nil),_,Ax.extBut _ _ Bx tL,rfl,_,rfl⟩
  refine⟨.ref s.heap.objs.size,upd H s.heap.objs.size (.tup [es[i].2.1,es[i].2.2]),a8Y (s:=s) (t':=s.toks) (ch:=[it]) I (λb o hb q=>Ax.extBut b o (by simpa using hb) (keep b o (by simpa using hb) q)) hf (aD _) new,rfl,⟨_,es[i],hn,rfl,rfl,hx⟩,⟨_,_,by rw[hlen]at mC;exact mC⟩,λb hb=>?_⟩;rw[g9 (λz=>Bx (by rw[<-z];exact ai.mp hb))];exact (hf b hb).1
 done:=by
  intro X hP hw hK hc i pins s Y H E I hf st hg;subst hP hw hK;obtain⟨hH,hi⟩:=hg;obtain⟨kvs,jg,h0,hp,hlen⟩:=G8 I hH hk;obtain⟨ok,ov,he⟩:=st;rw[<-hlen]at he jg;exact wpAny_pyNext_items_end (knd:=c_ X.prog X.w) (I.ok.hd hc) he jg (dY (by lia)) λh' hx=>⟨rfl,a2m (t':=s.toks) (ch:=[it]) I (λb o hb y=>hx b o (by simpa using hb) y) hf⟩
 self:=λ_ _ _ _ _ st h=>by
  obtain⟨ok,ov,he⟩:=st;exact PySem.W.kcp_self he h
section
variable {X:Cx}{M ML:List Md}{o iter:Expr}{elts:List Expr}{kk:Nat}{iE apos cf pos:eO}{fa:EvE}{ca:Cat}{u:Ty}{body:List ig}{g:EvS}
def c1J(to:TE):TI:=λY H R=>to Y H λx H1=>∃p es,x=.ref p/\H1 p=cz (e6 p es)/\A1 es/\R (Iti p es) H1
def b2P(ho:PE X o to)(dS:cK o "items" X.env (cg o X.env)=cg o X.env:=by rfl)(dR:(apos.endLine==cf.line)=p4:=by rfl):PI X (.Tuple elts kk iE) (.Call (.Attribute o "items" apos) [] [] cf) (c1J to):=by
 intro pins s Y H R I h;refine iH dS dR (L2.thn (ho pins s Y H _ I h) λv s1 ⟨x,H1,I1,r1,p,es,ex,hH,hk,q1⟩=>?_);subst ex;obtain rfl:v=bb p:=r1;obtain⟨kvs,jg,h0,hp,hlen⟩:=G8 I1 hH hk;refine⟨"dict","dict.items",ip,tm,PySem.F.type_dict_items,k7 I1 hH,M7 I1 hH,fu rfl (jq ?_)⟩;refine Ga tm (k7 I1 hH) PySem.F.entry_dict_items (PySem.F.args_dict_items_1 _) (meets_dict_items (c_ X.prog X.w) p h0) ⟨⟨kvs,jg.dictOf⟩,?_⟩;refine wpAny_pyIter_items (knd:=c_ X.prog X.w) ⟨_,aF _ rfl,rfl,rfl⟩ (jg.at λ_ e=>ag _ e) ?_;have hz:(s1.heap.push {cls:=.type "dict_items",data:=.fields #[.ref p]}).objs.size=s1.heap.objs.size+1:=cP ..;refine⟨_,[_],_,_,H1,rfl,I1.kept (t':=s1.toks) λb o e=>ag _ (ag _ e),a7Y p _ es hk,⟨.none,.none,by rw[<-hlen];exact aF _ rfl⟩,λb hb=>?_,q1⟩;have e:=ai.mp hb;have jW:s1.heap.objs.size<=b:=by rw[e,hz];exact fF _
 exact I1.fpOk jW (I1.hok.fresh jW)
end
def a3i(p:D×D):D:=.tuple [p.1,p.2]
def iIt(a:EvE):EvA:=λU=>(a U).bind λd=>match d with
 |.dict kvs=>if keysOk rp kvs then cz (kvs.map a3i) else el
 |_=>el
def a1W:∀{kvs:List (D×D)} {es:List (D×V×V)},DenKV K H es kvs->keysOk rp kvs=p4->A1 es:=λ{kvs es} h hk e he=>by
 have hd:=h.kden e he;have hm:e.1∈kvs.map (·.1):=by rw[<-h.keys];exact bt he
 obtain⟨p,hp,yS⟩:=aX.mp hm;have h2:n8 rp p.1=p4:=aY.mp hk p hp;rw[yS]at h2;cases hx:e.1 with
 |int n=>rw[hx]at hd;exact⟨n,rfl,by simpa only [Den]using hd⟩
 |_=>rw[hx]at h2;simp[n8]at h2
section
variable {X:Cx}{M ML:List Md}{o iter:Expr}{elts:List Expr}{kk:Nat}{iE apos cf pos:eO}{fa:EvE}{ca:Cat}{u:Ty}{body:List ig}{g:EvS}
def c0d(X:Cx)(M:List Md)(tg iter:Expr)(f:EvE):Prop:=
 ∃wi,PI X tg iter wi/\∀(U:List D) (Y:L2.St) (H P:Hp) (F:List aw) (kvs:List (D×D)) (R:It->Hp->Prop),StE X.K M U Y H P F->f U=cz (.dict kvs)->keysOk rp kvs=p4->
  (∀a es H1,Same H H1->(∀H2,Same (cut H1 F) H2->H2 a=cz (e6 a es))->DenKV X.K (cut H1 F) es kvs->R (Iti a es) H1)->wi Y H R
def c1K(h:PX X M o fa ca)(hc:frozen ca:=by trivial)(dS:cK o "items" X.env (cg o X.env)=cg o X.env:=by rfl)(dR:(apos.endLine==cf.line)=p4:=by rfl):c0d X M (.Tuple elts kk iE) (.Call (.Attribute o "items" apos) [] [] cf) fa:=by
 obtain⟨t,p,q⟩:=h.out;refine⟨_,b2P p dS dR,λU Y H P F kvs R S hf hk k=>?_⟩;refine q U Y H P F _ _ S hf λv H1 e1 r1=>?_
 obtain⟨aa,es,rfl,k1,k2⟩:=(E9 hc r1).dict_inv;exact⟨aa,es,rfl,i7 _ _ k1,a1W k2 hk,k _ es H1 e1 (λH2 e2=>e2 _ _ k1) k2⟩
def b0K{K:af}{H:Hp}{kvs:List (D×D)}{es:List (D×V×V)}(h:DenKV K H es kvs){i:Nat}{e:D×V×V}(he:es[i]?=cz e):∃p,kvs[i]?=cz p/\Den K H e.2.1 p.1/\Den K H e.2.2 p.2:=by
 have h1:=h.kden e (bp he);have h2:(es.map (·.1))[i]?=cz e.1:=by rw[bc,he];rfl
 rw[h.keys,bc]at h2;obtain⟨p,hp,yS⟩:=cX.mp h2;obtain⟨d,hd,ug⟩:=h.vals.getV (show (es.map (·.2.2))[i]?=cz e.2.2 by rw[bc,he];rfl);rw[bc,hp]at hd;cases hd
 exact⟨p,hp,by rw[yS];exact h1,ug⟩
def b2Q{fi:EvA}{tg:Expr}{MB:List Md}{gt:TG}{set:List D->D->Option (List D)}{m:D->Prop}(hc:X.calm=p4)(hp:n_ (a_ X.prog X.w) X.A X.env X.xe)(hi:c0d X M tg iter fa)(hg:PG X tg gt)(hs:a9Z X.K M MB gt set m)(hm:∀U ds,fi U=cz ds->∀d∈ds,m d)(wj:∀{U ps},fi U=cz ps->iIt fa U=cz ps)(hb:PSsX X u M MB body g M)
  (hf:∀x,eV iter X.env x=pure x:=by intro _;rfl):PSX X u ML M (.For tg iter body [] pos) (I9 fi set g) M:=by
 obtain⟨wi,pi,qi⟩:=hi;obtain⟨tb,pb,qb⟩:=hb.out;refine .mk ⟨_,a7d hp hc pi hg pb hf,λD U Y H P F o S uc k=>?_⟩;obtain⟨ps,h1,g1⟩:=bnd uc;obtain⟨d0,h2,g2⟩:=bnd (wj h1);obtain⟨kvs,rfl⟩:∃kvs,d0=.dict kvs:=by
  cases d0 with
  |dict kvs=>exact⟨kvs,rfl⟩
  |_=>cases g2
 have g3:(if keysOk rp kvs=p4 then cz (kvs.map a3i) else el)=cz ps:=g2;have hk:keysOk rp kvs=p4:=by
  by_cases c:keysOk rp kvs=p4
  ·exact c
  ·rw[aM c]at g3;cases g3
 rw[aH hk]at g3;have sL:kvs.map a3i=ps:=aL g3;refine qi U Y H P F kvs _ S.toE h2 hk λa es H1 e1 tQ hx=>?_
 have S1:=S.grow e1;have qV:es.length=kvs.length:=by have:=dJ eW hx.keys;simpa using this
 have fM:ps.length=es.length:=by rw[<-sL,ah,qV]
 refine⟨λi n Y' H'=>n=es.length-i/\i<=es.length/\∃U' F',StR X.K M U' Y' H' (cut H1 F) F'/\L6 set g (ps.drop i) U'=cz o,⟨es.length,by simp,b_ _,U,F,⟨S1.all,S1.lst,Same.refl _⟩,g1⟩,?_⟩;rintro i n Y' H' ⟨rfl,hi,U',F',S',hfl⟩;have kT:Same (cut H1 F) (cut H' F'):=S'.prot;have q:=tQ H' (kT.trans i7);by_cases gS:i<es.length
 ·refine .inr ⟨⟨q,gS⟩,λY2 H2=>∃U2 F2,StR X.K M U2 Y2 H2 (cut H1 F) F2/\L6 set g (ps.drop (i+1)) U2=cz o,λY2 H2 ⟨U2,F2,S2,h2⟩=>⟨es.length-(i+1),by lia,rfl,gS,U2,F2,S2,h2⟩,λx H2 hy=>?_⟩;obtain⟨T,e,hT,rfl,rfl,he⟩:=hy;have mB:i<ps.length:=by lia
  have lJ:ps.drop i=ps[i]::ps.drop (i+1):=fB mB;rw[lJ]at hfl;obtain⟨U1,tO,g4⟩:=bnd (show (set U' ps[i]).bind _=cz o from hfl);obtain⟨o1,hg1,g5⟩:=bnd g4;obtain⟨pr,yQ,dk,dv⟩:=b0K (DenKV.mono kT _ hx) he;have qw:ps[i]=a3i pr:=by
   have:ps[i]?=cz (a3i pr):=by rw[<-sL,bc,yQ];rfl
   rw[ar mB]at this;exact aL this
  have nD:Same H' (upd H' T (.tup [e.2.1,e.2.2])):=l6 hT _;have S2:=S'.grow nD;have zN:T∉F':=λz=>by
   obtain⟨ys,e⟩:=S'.lst T z;rw[hT]at e;cases e
  have oB:Den X.K (cut (upd H' T (.tup [e.2.1,e.2.2])) F') (.ref T) (a3i pr):=by
   have mE:Same (cut H' F') (cut (upd H' T (.tup [e.2.1,e.2.2])) F'):=B2 nD;have jg:cut (upd H' T (.tup [e.2.1,e.2.2])) F' T=cz (.tup [e.2.1,e.2.2]):=j7 zN i6;exact den_tup (SqT.of jg) (denAll_cons (dk.up mE) (denAll_cons (dv.up mE) denAll_nil))
  rw[qw]at tO;refine hs U' Y' _ (cut H1 F) F' (.ref T) _ U1 _ S2 oB (hm U ps h1 _ (by rw[<-qw];exact cH mB)) tO λY3 F3 S3=>qb _ U1 Y3 _ (cut H1 F) F3 o1 S3 hg1 ?_
  cases o1 with
  |nx U2=>exact λY4 H4 F4 S4=>⟨U2,F4,S4,g5⟩
  |ct U2=>exact λY4 H4 F4 S4=>⟨U2,F4,S4,g5⟩
  |bk U2=>
   have:o=.nx U2:=(aL g5).symm;subst this;exact λY4 H4 F4 S4=>k Y4 H4 F4 ⟨S4.all,S4.lst,S1.prot.trans S4.prot⟩
  |rt d=>
   have:o=.rt d:=(aL g5).symm;subst this;refine λv H4 fp o nd fr e=>k v H4 fp o nd (λa ha=>?_) (S1.prot.trans e)
   exact S1.prot.free (fr a ha)
 ·have e:i=es.length:=by lia
  subst e;rw[<-fM,kE]at hfl;have:o=.nx U':=(aL hfl).symm;subst this;exact .inl ⟨⟨q,aD _⟩,k Y' H' F' ⟨S'.all,S'.lst,S1.prot.trans S'.prot⟩⟩
end
end VS
namespace PySem
section
variable {prog:bB}{w:bQ}{A:bE}{E:aj->av->Prop}{s:av}
def a1X(h:Q (s.heap.get? a) s):aE M A (loadIfAlive a) Q E s:=λ_ _ _=>h
def b2R:¬ (bb t==cw)=p4:=aW
def a7Z(hit:s.heap.IsTupleIter it t i)(ht:s.heap.IsTuple t vs)(hx:vs[i]?=cz x)
  (q:∀h',h'.IsTupleIter it t (i+1)->cF it s.heap h'->Q x {s with heap:=h'}):aE (a_ prog w) A (cx (.ref it)) Q E s:=by
 obtain⟨o,ho,hc,hd⟩:=id hit;obtain⟨u,hu,_,n,oK⟩:=ht;unfold cx;refine ab (bM (name:=cm "__next__") hit.typeIs hZ (bD hZ hit.typeIs vb ?_ (uD _)));show aE _ _ (oO (.ref it) 0 >>= _) _ _ s;refine ab (cU ho hd (x:=.ref t) rfl ?_);show aE _ _ (ite ((bb t==cw)=p4) _ _) _ _ s;rw[aM b2R];show aE _ _ (oO (.ref it) 1 >>= _) _ _ s;refine ab (cU ho hd (x:=.int i 0) rfl ?_);show aE _ _ (Aw (.ref t) >>= _) _ _ s;refine ab (dI hu oK ?_);simp only[bG,hx];refine ab (eH ho hd (by simp) (ae ⟨x,rfl,ae (q _ ?_ (bS ..))⟩));exact⟨_,bV _ ho (mV (gu hd _)),(qT ..).trans hc,by rw[gu hd];simp[df]⟩
def b0L(hh:A.handled=el)(hit:s.heap.IsTupleIter it t i)(ht:s.heap.IsTuple t vs)(hx:vs[i]?=el)
  (q:∀h' e,tD it s.heap h'->(∃o,h'.get? e=cz o/\o.cls=.type "StopIteration")->E (.ref e) {s with heap:=h'}):aE (a_ prog w) A (cx (.ref it)) Q E s:=by
 obtain⟨o,ho,hc,hd⟩:=id hit;obtain⟨u,hu,_,n,oK⟩:=ht;unfold cx;refine ab (bM (name:=cm "__next__") hit.typeIs hZ (bD hZ hit.typeIs vb ?_ (uD _)));show aE _ _ (oO (.ref it) 0 >>= _) _ _ s;refine ab (cU ho hd (x:=.ref t) rfl ?_);show aE _ _ (ite ((bb t==cw)=p4) _ _) _ _ s;rw[aM b2R];show aE _ _ (oO (.ref it) 1 >>= _) _ _ s;refine ab (cU ho hd (x:=.int i 0) rfl ?_);show aE _ _ (Aw (.ref t) >>= _) _ _ s;refine ab (dI hu oK ?_);simp only[bG,hx];refine ab (dW (ab (eH ho hd (by simp) ?_)));show aE _ _ (CW (.type "StopIteration") [] >>= _) _ _ _;simp only[CW,newTuple];refine ab (ab (dt ?_ (by size_fits)));refine ab (m:=ja _ _) (sx (a:=cw) (by first|rfl|(simp only[ja];rfl)) ?_);refine dt ?_ (by size_fits);simp only[raiseNew];refine ab (yf ?_)
 first|rw[show A.in1.handled=el from hh]|rw[hh]
 exact ab (ae (wpAny_throw (q _ _ (((bS ..).extBut.push _).push _) ⟨_,aF _ rfl,rfl⟩)))
end
def Draws.tup{prog:bB}{w:bQ}{A:bE}(hh:A.handled=el)(it t:aw)(gK:t≠it)(vs:Array aj):Draws prog w A it [it,t] vs.size (λi v=>vs[i]?=cz v) (λi h=>h.IsTupleIter it t i/\h.IsTuple t vs) where
 live:=λ_ _ st=>let⟨o,ho,_⟩:=st.1;⟨o,ho⟩
 frame:=λ_ _ _ st hk=>⟨let⟨o,ho,r⟩:=st.1;⟨o,hk it (by simp) o ho,r⟩,let⟨o,ho,r⟩:=st.2;⟨o,hk t (by simp) o ho,r⟩⟩
 item:=λi s Q E hi st hQ=>a7Z st.1 st.2 (x:=vs[i]) (by simp[hi]) λh' qz sJ=>hQ _ h' s.toks (by simp[hi]) ⟨qz,st.2.extBut sJ.extBut gK⟩ sJ
 done:=λs Q E st hE=>b0L hh st.1 st.2 (by simp) hE
def a3j(h:bU)(z TI TO i1 i2:aw):Prop:=
 jC h TI (.ref i1) (.ref i2)/\(∃a b,jC h TO a b)/\(nS h z TI TO .none\/∃(T:aw) (f1:aj) (o:fN),T≠z/\T≠TO/\T≠i1/\T≠i2/\h.get? T=cz o/\h.get? z=cz {cls:=.type "zip",dict:=el,data:=.fields #[df T,f1,.bool rp,.ref TI,.ref TO],slots:=#[]})
structure ZApart (z TI TO i1 i2:aw) (fp1 fp2:List aw):Prop where
 TIz:TI≠z
 TOz:TO≠z
 TITO:TI≠TO
 i12:i1≠i2
 TI1:TI≠i1
 TI2:TI≠i2
 TO1:TO≠i1
 TO2:TO≠i2
 z1:z≠i1
 z2:z≠i2
 zf1:z∉fp1
 zf2:z∉fp2
 Of1:TO∉fp1
 Of2:TO∉fp2
 if2:i1∉fp2
 if1:i2∉fp1
section
variable {prog:bB}{w:bQ}{A:bE}{E:aj->av->Prop}{s:av}{z TI TO i1 i2:aw}{fp1 fp2:List aw}{n i:Nat}{P1 P2:Nat->aj->Prop}{St1 St2:Nat->bU->Prop}
def b0M{Q:aj->av->Prop}(D1:Draws prog w A i1 fp1 n P1 St1)(D2:Draws prog w A i2 fp2 n P2 St2)(Z:ZApart z TI TO i1 i2 fp1 fp2)(hz:a3j s.heap z TI TO i1 i2)(hi:i<n)(s1:St1 i s.heap)(s2:St2 i s.heap)
  (q:∀T x y h' tk,P1 i x->P2 i y->s.heap.objs.size<=T->jC h' T x y->a3j h' z TI TO i1 i2->St1 (i+1) h'->St2 (i+1) h'->(∀c o,c≠z->c≠TO->c≠i1->c≠i2->s.heap.get? c=cz o->h'.get? c=cz o)->Q (.ref T) {s with heap:=h',toks:=tk}) :
  aE (a_ prog w) A (Builtin.«zip.__next__» ⟨[.ref z],[]⟩) (λfin s'=>∃v,fin=.done (.ret v)/\Q v s') E s:=by
 have uw:∀{h h':bU} {j:Nat},St1 j h->(∀b o,b≠z->b≠TO->b≠i2->h.get? b=cz o->h'.get? b=cz o)->St1 j h':=λst k=>D1.frame _ _ _ st λb hb o e=>k b o (λx=>Z.zf1 (x▸hb)) (λx=>Z.Of1 (x▸hb)) (λx=>Z.if1 (x▸hb)) e
 have sW:∀{h h':bU} {j:Nat},St2 j h->(∀b o,b≠z->b≠TO->b≠i1->h.get? b=cz o->h'.get? b=cz o)->St2 j h':=λst k=>D2.frame _ _ _ st λb hb o e=>k b o (λx=>Z.zf2 (x▸hb)) (λx=>Z.Of2 (x▸hb)) (λx=>Z.if2 (x▸hb)) e
 obtain⟨rT,⟨a,b,wG⟩,hz⟩:=hz;rcases hz with hz|⟨T0,f1,o0,t1,t2,t3,t4,xO,hz⟩
 ·show aE _ _ (oO (.ref z) 2 >>= _) _ _ _;refine ab (cU hz rfl (x:=.bool rp) rfl ?_);show aE _ _ (oO (.ref z) 3 >>= _) _ _ _;refine ab (cU hz rfl (x:=.ref TI) rfl (ab (dI rT rfl ?_)));show aE _ _ (bY (.ref z) >>= _) _ _ _;unfold bY;refine ab (ab (cU hz rfl (x:=.none) rfl (ae ?_)));simp only[gF];refine ab (dW (ab (cU hz rfl (x:=.ref TO) rfl ?_)));refine ab (fC hz (by simp) λh₁ jE e₁=>ab ?_)
  replace jE:nS h₁ z TI TO .ellipsis:=jE
  simp only[Gh,Hr,jk,jO];refine ab (ab (ye ?_));show aE _ _ (cx (.ref i1) >>= _) _ _ _;refine ab (D1.item i _ _ _ hi (uw s1 λb o b1 _ _ e=>e₁.extBut _ _ b1 e) λx h₂ k₂ px g1 e₂=>ae ?_)
  replace e₂:cF i1 h₁ h₂:=e₂
  have qI:jC h₂ TO a b:=e₂.extBut _ _ Z.TO1 (e₁.extBut _ _ Z.TOz wG);refine ab (dI qI rfl (ab (wpAny_updateSeq_pair qI λh₃ oF e₃=>ab (ni (ae ?_)))))
  replace e₃:cF TO h₂ h₃:=e₃
  replace oF:jC h₃ TO x b:=oF
  have lF:∀c o,c≠z->c≠TO->c≠i1->s.heap.get? c=cz o->h₃.get? c=cz o:=λc o c1 c2 c3 e=>e₃.extBut _ _ c2 (e₂.extBut _ _ c3 (e₁.extBut _ _ c1 e))
  refine ab (ab (ye ?_));show aE _ _ (cx (.ref i2) >>= _) _ _ _;refine ab (D2.item i _ _ _ hi (sW s2 λb o b1 b2 b3 e=>lF b o b1 b2 b3 e) λy h₄ k₄ py g2 e₄=>ae ?_)
  replace e₄:cF i2 h₃ h₄:=e₄
  have qH:jC h₄ TO x b:=e₄.extBut _ _ Z.TO2 oF;refine ab (dI qH rfl (ab (wpAny_updateSeq_pair qH λh₅ lM e₅=>ab (ni (ae (ae ?_))))))
  replace e₅:cF TO h₄ h₅:=e₅
  replace lM:jC h₅ TO x y:=lM
  refine ab (dI lM rfl (ab (ve ?_)));have sz:h₅.objs.size=s.heap.objs.size:=by rw[e₅.1,e₄.1,e₃.1,e₂.1,e₁.1]
  have sE:nS h₅ z TI TO .ellipsis:=e₅.extBut _ _ Z.TOz.symm (e₄.extBut _ _ Z.z2 (e₃.extBut _ _ Z.TOz.symm (e₂.extBut _ _ Z.z1 jE)));have sy:∀c o,c≠z->c≠TO->c≠i1->c≠i2->s.heap.get? c=cz o->h₅.get? c=cz o:=λc o c1 c2 c3 c4 e=>e₅.extBut _ _ c2 (e₄.extBut _ _ c4 (lF c o c1 c2 c3 e))
  show aE _ _ (oH (.ref z) (.ref h₅.objs.size) >>= _) _ _ _;unfold oH;have vD:nS (h₅.push {cls:=.type "tuple",data:=.seq #[x,y]}) z TI TO .ellipsis:=ag _ sE;refine ab (ab (fC vD (by simp) λh₇ qf e₇=>?_))
  replace qf:nS h₇ z TI TO (df h₅.objs.size):=qf
  refine fC qf (by simp) λh₈ qd e₈=>ae ⟨_,rfl,?_⟩
  replace qd:nS h₈ z TI TO (df h₅.objs.size):=qd
  have nj:∀c o,c≠z->h₅.get? c=cz o->h₈.get? c=cz o:=λc o c1 e=>e₈.extBut _ _ c1 (e₇.extBut _ _ c1 (ag _ e))
  have yc:z<h₅.objs.size:=aK sE;have Df:i1<h₅.objs.size:=by
   obtain⟨o,ho⟩:=D1.live _ _ g1;rw[e₅.1,e₄.1,e₃.1];exact aK ho
  have De:i2<h₅.objs.size:=by
   obtain⟨o,ho⟩:=D2.live _ _ g2;rw[e₅.1];exact aK ho
  have hT:jC h₈ h₅.objs.size x y:=e₈.extBut _ _ (et yc) (e₇.extBut _ _ (et yc) (aF _ rfl));refine q h₅.objs.size x y h₈ k₄ px py (by rw[sz];exact aD _) hT ⟨nj _ _ Z.TIz (sy _ _ Z.TIz Z.TITO Z.TI1 Z.TI2 rT),⟨x,y,nj _ _ Z.TOz lM⟩,.inr ⟨h₅.objs.size,.bool rp,_,et yc,et (aK lM),et Df,et De,hT,qd⟩⟩ ?_ ?_ λc o c1 c2 c3 c4 e=>nj c o c1 (sy c o c1 c2 c3 c4 e)
  ·exact uw g1 λb o b1 b2 b3 e=>nj _ _ b1 (e₅.extBut _ _ b2 (e₄.extBut _ _ b3 (e₃.extBut _ _ b2 e)))
  ·exact sW g2 λb o b1 b2 b3 e=>nj _ _ b1 (e₅.extBut _ _ b2 e)
 ·show aE _ _ (oO (.ref z) 2 >>= _) _ _ _;refine ab (cU hz rfl (x:=.bool rp) rfl ?_);show aE _ _ (oO (.ref z) 3 >>= _) _ _ _;refine ab (cU hz rfl (x:=.ref TI) rfl (ab (dI rT rfl ?_)));show aE _ _ (bY (.ref z) >>= _) _ _ _;unfold bY;refine ab (ab (cU hz rfl (x:=df T0) rfl ?_));show aE _ _ (loadIfAlive T0 >>= _) _ _ _;refine ab (a1X ?_);rw[xO];rw[aM (by simp)];refine dq (Q:=λb s'=>b=rp/\∃h₁ f,s'={s with heap:=h₁}/\h₁.get? z=cz {cls:=.type "zip",dict:=el,data:=.fields #[df T0,f,.bool rp,.ref TI,.ref TO],slots:=#[]}/\cF z s.heap h₁) ?_ (λb s' hb=>?_) λ_ _ e=>e
  ·refine ab (cU hz rfl (x:=f1) rfl ?_);by_cases c:(f1 !=jz p4)=p4
   ·rw[aH c];exact ab (fC hz (by simp) λh₁ jE e₁=>ae ⟨rfl,h₁,.bool p4,rfl,jE,e₁⟩)
   ·rw[aM c];exact ae ⟨rfl,s.heap,f1,rfl,hz,⟨rfl,λ_ _=>rfl⟩⟩
  ·obtain⟨rfl,h₁,f,rfl,jE,e₁⟩:=hb;simp only[cN,fO];refine ab (ab (ab (bO ?_)));show aE _ _ (cx (.ref i1) >>= _) _ _ _;refine ab (D1.item i _ _ _ hi (uw s1 λb o b1 _ _ e=>e₁.extBut _ _ b1 e) λx h₂ k₂ px g1 e₂=>ae (ae ?_))
   replace e₂:cF i1 h₁ h₂:=e₂
   refine ab (ab (bO ?_));show aE _ _ (cx (.ref i2) >>= _) _ _ _;refine ab (D2.item i _ _ _ hi (sW s2 λb o b1 b2 b3 e=>e₂.extBut _ _ b3 (e₁.extBut _ _ b1 e)) λy h₃ k₃ py g2 e₃=>ae (ae (ae ?_)))
   replace e₃:cF i2 h₂ h₃:=e₃
   have sz:h₃.objs.size=s.heap.objs.size:=by rw[e₃.1,e₂.1,e₁.1]
   have lF:∀c o,c≠z->c≠i1->c≠i2->s.heap.get? c=cz o->h₃.get? c=cz o:=λc o c1 c3 c4 e=>e₃.extBut _ _ c4 (e₂.extBut _ _ c3 (e₁.extBut _ _ c1 e))
   have vE:=e₃.extBut _ _ Z.z2 (e₂.extBut _ _ Z.z1 jE);refine ab (ve (hsz:=by rw[cO];show 2<=_;decide) (ae ⟨_,rfl,?_⟩));refine q h₃.objs.size x y _ k₃ px py (by rw[sz];exact aD _) (aF _ rfl) ⟨ag _ (lF _ _ Z.TIz Z.TI1 Z.TI2 rT),⟨a,b,ag _ (lF _ _ Z.TOz Z.TO1 Z.TO2 wG)⟩,.inr ⟨T0,f,o0,t1,t2,t3,t4,ag _ (lF _ _ t1 t3 t4 xO),ag _ vE⟩⟩ ?_ ?_ λc o c1 c2 c3 c4 e=>ag _ (lF c o c1 c3 c4 e)
   ·exact uw g1 λb o b1 b2 b3 e=>ag _ (e₃.extBut _ _ b3 e)
   ·exact sW g2 λb o b1 b2 b3 e=>ag _ e
def b2S(D1:Draws prog w A i1 fp1 n P1 St1)(Z:ZApart z TI TO i1 i2 fp1 fp2)(hz:a3j s.heap z TI TO i1 i2)(s1:St1 n s.heap)
  (q:∀h' e,(∀c o,c≠z->c≠TO->c≠i1->c≠i2->s.heap.get? c=cz o->h'.get? c=cz o)->(∃o,h'.get? e=cz o/\o.cls=.type "StopIteration")->E (.ref e) {s with heap:=h'}) :
  aE (a_ prog w) A (Builtin.«zip.__next__» ⟨[.ref z],[]⟩) Q E s:=by
 have uw:∀{h h':bU} {j:Nat},St1 j h->(∀b o,b≠z->b≠TO->b≠i2->h.get? b=cz o->h'.get? b=cz o)->St1 j h':=λst k=>D1.frame _ _ _ st λb hb o e=>k b o (λx=>Z.zf1 (x▸hb)) (λx=>Z.Of1 (x▸hb)) (λx=>Z.if1 (x▸hb)) e
 obtain⟨rT,⟨a,b,wG⟩,hz⟩:=hz;rcases hz with hz|⟨T0,f1,o0,t1,t2,t3,t4,xO,hz⟩
 ·show aE _ _ (oO (.ref z) 2 >>= _) _ _ _;refine ab (cU hz rfl (x:=.bool rp) rfl ?_);show aE _ _ (oO (.ref z) 3 >>= _) _ _ _;refine ab (cU hz rfl (x:=.ref TI) rfl (ab (dI rT rfl ?_)));show aE _ _ (bY (.ref z) >>= _) _ _ _;unfold bY;refine ab (ab (cU hz rfl (x:=.none) rfl (ae ?_)));simp only[gF];refine ab (dW (ab (cU hz rfl (x:=.ref TO) rfl ?_)));refine ab (fC hz (by simp) λh₁ jE e₁=>ab ?_)
  replace jE:nS h₁ z TI TO .ellipsis:=jE
  simp only[Gh,Hr,jk,jO];refine ab (ab (ye ?_));show aE _ _ (cx (.ref i1) >>= _) _ _ _;refine ab (D1.done _ _ _ (uw s1 λb o b1 _ _ e=>e₁.extBut _ _ b1 e) λh₂ e e₂ he=>?_);obtain⟨oe,yW,Bs⟩:=he;have sF:nS h₂ z TI TO .ellipsis:=e₂ _ _ Z.z1 jE;have ED:e≠z:=λx=>by subst x;rw[sF]at yW;cases yW;simp at Bs
  exact fC sF (by simp) λh₃ _ e₃=>q h₃ e (λc o c1 _ c3 _ x=>e₃.extBut _ _ c1 (e₂ _ _ c3 (e₁.extBut _ _ c1 x))) ⟨oe,e₃.extBut _ _ ED yW,Bs⟩
 ·show aE _ _ (oO (.ref z) 2 >>= _) _ _ _;refine ab (cU hz rfl (x:=.bool rp) rfl ?_);show aE _ _ (oO (.ref z) 3 >>= _) _ _ _;refine ab (cU hz rfl (x:=.ref TI) rfl (ab (dI rT rfl ?_)));show aE _ _ (bY (.ref z) >>= _) _ _ _;unfold bY;refine ab (ab (cU hz rfl (x:=df T0) rfl ?_));show aE _ _ (loadIfAlive T0 >>= _) _ _ _;refine ab (a1X ?_);rw[xO,aM (by simp)];refine dq (Q:=λb s'=>b=rp/\∃h₁,s'={s with heap:=h₁}/\cF z s.heap h₁) ?_ (λb s' hb=>?_) λ_ _ e=>e
  ·refine ab (cU hz rfl (x:=f1) rfl ?_);by_cases c:(f1 !=jz p4)=p4
   ·rw[aH c];exact ab (fC hz (by simp) λh₁ _ e₁=>ae ⟨rfl,h₁,rfl,e₁⟩)
   ·rw[aM c];exact ae ⟨rfl,s.heap,rfl,⟨rfl,λ_ _=>rfl⟩⟩
  ·obtain⟨rfl,h₁,rfl,e₁⟩:=hb;simp only[cN,fO];refine ab (ab (ab (bO ?_)));show aE _ _ (cx (.ref i1) >>= _) _ _ _;exact ab (D1.done _ _ _ (uw s1 λb o b1 _ _ e=>e₁.extBut _ _ b1 e) λh₂ e e₂ he=>q h₂ e (λc o c1 _ c3 _ x=>e₂ _ _ c3 (e₁.extBut _ _ c1 x)) he)
def b0N(D1:Draws prog w A.in1 i1 fp1 n P1 St1)(D2:Draws prog w A.in1 i2 fp2 n P2 St2)(Z:ZApart z TI TO i1 i2 fp1 fp2)(hz:a3j s.heap z TI TO i1 i2)(hi:i<n)(s1:St1 i s.heap)(s2:St2 i s.heap)
  (q:∀T x y h' tk,P1 i x->P2 i y->s.heap.objs.size<=T->jC h' T x y->a3j h' z TI TO i1 i2->St1 (i+1) h'->St2 (i+1) h'->(∀c o,c≠z->c≠TO->c≠i1->c≠i2->s.heap.get? c=cz o->h'.get? c=cz o)->Q (cz (.ref T)) {s with heap:=h',toks:=tk}) :
  aE (a_ prog w) A (fW (.ref z)) Q E s:=by
 have hT:s.TypeIs (.ref z) "zip":=by
  rcases hz.2.2 with h|⟨_,_,_,_,_,_,_,_,h⟩
  ·exact⟨_,h,rfl⟩
  ·exact⟨_,h,rfl⟩
 unfold fW;exact ab (gE (bM (name:=cm "__next__") hT mK (bD mK hT F.entry_zip_next
  (b0M D1 D2 Z hz hi s1 s2 λT x y h' tk a1 a2 a3 a4 a5 a6 a7 a8=>ae (q T x y h' tk a1 a2 a3 a4 a5 a6 a7 a8)) (F.args_zip_next_1 _))))
def b0O(D1:Draws prog w A.in1 i1 fp1 n P1 St1)(Z:ZApart z TI TO i1 i2 fp1 fp2)(hz:a3j s.heap z TI TO i1 i2)(s1:St1 n s.heap)
  (q:∀h',(∀c o,c≠z->c≠TO->c≠i1->c≠i2->s.heap.get? c=cz o->h'.get? c=cz o)->Q el {s with heap:=h'}):aE (a_ prog w) A (fW (.ref z)) Q E s:=by
 have hT:s.TypeIs (.ref z) "zip":=by
  rcases hz.2.2 with h|⟨_,_,_,_,_,_,_,_,h⟩
  ·exact⟨_,h,rfl⟩
  ·exact⟨_,h,rfl⟩
 unfold fW;refine ab (gE (bM (name:=cm "__next__") hT mK (bD mK hT F.entry_zip_next (b2S D1 Z hz s1 λh' e hk he=>?_) (F.args_zip_next_1 _))));obtain⟨o,ho,hc⟩:=he;exact ab (fA (T:="StopIteration") (b:=p4) ⟨o,ho,hc⟩ vA (ae (q _ hk)))
end
namespace F
def entry_zip_ga:wR table "zip.__getattribute__"=cz Builtin.«object.__getattribute__»:=
 wQ (id':="object.__getattribute__") (by kernel_rfl) (by first|rfl|decide +kernel) (by decide +kernel) (by kernel_rfl)
def lk_zip_keys:oW (.type "zip") "keys"=pure el:=by rw[mw,jo];kernel_rfl
def lk_zip_hook:oW (.type "zip") "__getattr__"=pure el:=by rw[mw,jo];kernel_rfl
end F
def b2T(a:aw)(vs:Array aj)(u:Tok):Meets (Builtin.«object.__getattribute__» ⟨[.ref a,.str "keys" u],[]⟩) (λA R s=>s.heap.get? a=cz {cls:=.type "zip",dict:=el,data:=.fields vs,slots:=#[]}/\raisesAttr (.ref a) "keys" A R s):=
 Meets.of_wp λprog w A R s hs=>by
  obtain⟨hp,g,d,tk,os⟩:=s;obtain⟨hx,hs⟩:=hs;have hT:(⟨hp,g,d,tk,os⟩:av).TypeIs (.ref a) "zip":=⟨_,hx,rfl⟩;have f4:=F.lk_zip_keys
  repeat (any_goals (first|assumption|wp_step))
  exact wpAny_raiseAttrError hs.1 hs.2 (attrMsg_fits (by decide +kernel) (by size_fits))
def a8a{A:bE}{s:av}(hA:A.handled=el)(hx:s.heap.get? a=cz {cls:=.type "zip",dict:=el,data:=.fields vs,slots:=#[]})
  (q:∀h' tk,(∀b o,s.heap.get? b=cz o->h'.get? b=cz o)->Q el {s with heap:=h',toks:=tk}):aE (a_ prog w) A (getAttr? (.ref a) "keys") Q E s:=by
 obtain⟨hp,g,d,tk,os⟩:=s;have hT:∀xm,(⟨hp,g,d,xm,os⟩:av).TypeIs (.ref a) "zip":=λ_=>⟨_,hx,rfl⟩
 have f1:=sub_AttributeError;have f3:=lU.lookup;have f4:=lU.bind (.ref a);have f5:=F.lk_zip_hook;unfold getAttr? getAttrBy? getAttrBy
 repeat (any_goals (first|assumption|exact hT _|((with_reducible show aE _ _ (call (Ag "zip.__getattribute__") _ _) _ _ _);refine mi lU (hT _) F.entry_zip_ga (F.args_zip_getattribute_2 _ _) (b2T a vs _) ⟨hx,hA,λh' xm e tJ=>?_⟩)|wp_step))
 obtain⟨t',u',he⟩:=tJ.there;show aE _ _ (getattributeRaised _ _ _ _ _ _ _) _ _ _;unfold getattributeRaised
 repeat (any_goals (first|assumption|wp_step))
 trace_state
 exact q _ _ tJ.keeps
end PySem
namespace PySem.F
def entry_dict_update_loop:wR table "dict.update.loop"=cz Builtin.«dict.update.loop»:=entryFor_of_tree (by kernel_rfl)
def plain_dict_update_loop:plainId "dict.update.loop"=p4:=by decide +kernel
end PySem.F
namespace VS
open PySem PySem.Spec L2
def ziE(ns ms:List Int):List (D×V×V):=(ns.zip ms).map λp=>(.int p.1,.int p.1,.int p.2)
section
variable {X:Cx}{pins:List (aw×fN)}{Y:L2.St}{H:Hp}{A:bE}{d z TI TO i1 i2:aw}{fp1 fp2:List aw}{St1 St2:Nat->bU->Prop}{ns ms:List Int}
def b2U(hu:A.units+20<cV)
  (D1:Draws X.prog X.w A.in1.in1 i1 fp1 ns.length (λi v=>∃t,v=.int (ns.getD i 0) t) St1) (D2:Draws X.prog X.w A.in1.in1 i2 fp2 ns.length (λi v=>∃t,v=.int (ms.getD i 0) t) St2) (Z:ZApart z TI TO i1 i2 fp1 fp2)
  (hl:ms.length=ns.length) (iF:ns.Nodup) (hsz:ns.length<aU) (dz:d∉[z,TI,TO,i1,i2]++fp1++fp2):∀(k i:Nat) (s:av),ns.length-i=k->i<=ns.length->
   Inv X pins Y (upd H d (e6 d (ziE (ns.take i) (ms.take i)))) s->(∀b∈[z,TO,i1,i2],a0B X pins (upd H d (e6 d [])) b)->a3j s.heap z TI TO i1 i2->St1 i s.heap->St2 i s.heap->
   (∀s',Inv X pins Y (upd H d (e6 d (ziE ns ms))) s'->R (.ok (.ret .none)) s')->gL (a_ X.prog X.w) A (.builtin "dict.update.loop" ⟨[.ref d,.ref z,df i,.none],[]⟩) R s:=by
 have dn:∀b,b∈[z,TI,TO,i1,i2]++fp1++fp2->b≠d:=λb hb e=>dz (e▸hb)
 have BI:∀{o o':HO} {b:aw},b≠d->a0B X pins (upd H d o) b->a0B X pins (upd H d o') b:=λhb h=>⟨by rw[g9 hb];have:=h.1;rwa[g9 hb]at this,h.2⟩
 intro k
 induction k with
 |zero=>
  intro i s hk hi I hf hz g1 g2 hR;have e:i=ns.length:=by lia
  subst e;refine dQ PySem.F.entry_dict_update_loop ?_;rw[de PySem.F.plain_dict_update_loop _];show aE _ A.in1 (fW (.ref z) >>= _) _ _ s;refine ab (b0O D1 Z hz g1 λh' up=>?_);rw[kA,<-hl,kA]at I;refine ab (ae (ae (hR _ ?_)));exact a2m (t':=s.toks) (ch:=[z,TO,i1,i2]) I (λb o hb e=>up b o (λq=>hb (by simp[q])) (λq=>hb (by simp[q])) (λq=>hb (by simp[q])) (λq=>hb (by simp[q])) e) λb hb=>BI (dn b (by
   simp only[az,cG,or_false]at hb;rcases hb with rfl|rfl|rfl|rfl<;>simp)) (hf b hb)
 |succ k ih=>
  intro i s hk hi I hf hz g1 g2 hR;have gS:i<ns.length:=by lia
  refine dQ PySem.F.entry_dict_update_loop ?_;rw[de PySem.F.plain_dict_update_loop _];show aE _ A.in1 (fW (.ref z) >>= _) _ _ s;refine ab (b0N D1 D2 Z hz gS g1 g2 λT x y h' tk px py hT Bw Dq sV me up=>?_);obtain⟨tx,rfl⟩:=px;obtain⟨ty,rfl⟩:=py;have I1:Inv X pins Y (upd H d (e6 d (ziE (ns.take i) (ms.take i)))) {s with heap:=h',toks:=tk}:=a2m (t':=tk) (ch:=[z,TO,i1,i2]) I (λb o hb e=>up b o (λq=>hb (by simp[q])) (λq=>hb (by simp[q])) (λq=>hb (by simp[q])) (λq=>hb (by simp[q])) e) λb hb=>BI (dn b (by
   simp only[az,cG,or_false]at hb;rcases hb with rfl|rfl|rfl|rfl<;>simp)) (hf b hb)
  refine ab (bO (ab (wpAny_tryCatch ?_)));unfold Builtin.Dict.pairItems;refine ab (ib (show ll {s with heap:=h',toks:=tk} (.ref T) "tuple" from⟨_,Bw,rfl⟩) ?_);rw[aH (by decide)];refine ab (dI Bw rfl (ae ?_));show aE _ _ (nW _ (FX d (.int (ns.getD i 0) tx) (.int (ms.getD i 0) ty))) _ _ _;refine bO ?_;unfold FX
  try with_reducible refine bO ?_
  have kk:keyOk rp (aG (ns.getD i 0)):=x6 rfl;have Bp:∀e∈ziE (ns.take i) (ms.take i),∃n m,n∈ns.take i/\e=(aG n,V.int n,V.int m):=λe he=>by
   obtain⟨p,hp,rfl⟩:=aX.mp he;exact⟨p.1,p.2,(gc hp).1,rfl⟩
  have K:KeysAt X (upd H d (e6 d (ziE (ns.take i) (ms.take i)))) rp (ziE (ns.take i) (ms.take i)) (.int (ns.getD i 0)) (.int (ns.getD i 0)):=⟨λe he=>by
   obtain⟨n,m,_,rfl⟩:=Bp e he;exact⟨x6 rfl,den_int⟩,kk,den_int⟩
  have jg:ns.getD i 0=ns[i]:=by rw[aT,ar gS];rfl
  have uq:ms.getD i 0=ms[i]:=by rw[aT,ar (by lia)];rfl
  have ox:∀e∈ziE (ns.take i) (ms.take i),e.1≠aG (ns.getD i 0):=λe he h=>by
   obtain⟨n,m,hn,rfl⟩:=Bp e he
   injection h with h
   obtain⟨j,hj,e2⟩:=fG.mp hn;rw[ef]at hj;rw[Cb,h,jg]at e2;have pM:j<ns.length:=by lia
   have:=(List.getElem?_inj pM iF).mp (show ns[j]?=ns[i]? by rw[ar pM,ar gS,e2]);lia
  have hlen:(ziE (ns.take i) (ms.take i)).length=i:=by unfold ziE;rw[ah,dG,ef,ef];lia
  have tX:ziE (ns.take i) (ms.take i)++[(.int (ns.getD i 0),.int (ns.getD i 0),.int (ms.getD i 0))]=ziE (ns.take (i+1)) (ms.take (i+1)):=by
   unfold ziE;rw[nM gS,nM (show i<ms.length by lia),pH (by rw[ef,ef];lia),aO,jg,uq];rfl
  have rk:RelV (V.int (ns.getD i 0)) (iK (ns.getD i 0) tx):=⟨tx,rfl⟩;have rv:RelV (V.int (ms.getD i 0)) (iK (ms.getD i 0) ty):=⟨ty,rfl⟩;refine ab (Y5 I1 (by show A.units+1+10<_;lia) K.key K.den rk ?_);refine a6h (s:={s with heap:=h',toks:=tk+u9 (aG (ns.getD i 0))}) (I1.tok _) (by show A.units+1+10<_;lia) i6 K rk rv (by rw[hlen];lia) ox λh2 I2 sb=>?_
  rw[tX,show upd (upd H d (e6 d (ziE (ns.take i) (ms.take i)))) d (e6 d (ziE (ns.take (i+1)) (ms.take (i+1))))=upd H d (e6 d (ziE (ns.take (i+1)) (ms.take (i+1)))) from funext λb=>by unfold upd;split<;>rfl]at I2;have sA:∀b o,b≠d->h'.get? b=cz o->h2.get? b=cz o:=λb o hb e=>sb.extBut b o hb e
  refine ae ⟨fw PySem.F.plain_dict_update_loop _,?_⟩;have:=ih (i+1) {s with heap:=h2,toks:=tk+u9 (aG (ns.getD i 0))} (by lia) gS I2 hf ?_ (D1.frame _ _ _ sV λb hb o e=>sA b o (dn b (by simp[hb])) e) (D2.frame _ _ _ me λb hb o e=>sA b o (dn b (by simp[hb])) e) hR
  ·exact this
  ·obtain⟨a1,⟨p,q,a2⟩,a3⟩:=Dq;refine⟨sA _ _ (dn TI (by simp)) a1,⟨p,q,sA _ _ (dn TO (by simp)) a2⟩,?_⟩;rcases a3 with a3|⟨T0,f1,o0,t1,t2,t3,t4,t5,t6⟩
   ·exact .inl (sA _ _ (dn z (by simp)) a3)
   ·by_cases c:T0=d
    ·subst c;obtain⟨o',pA⟩:∃o',h2.get? T0=cz o':=by
      obtain⟨_,_,_,o,_,_,h1,_⟩:=p5 I2 i6;exact⟨o,h1⟩
     exact .inr ⟨T0,f1,o',t1,t2,t3,t4,pA,sA _ _ (dn z (by simp)) t6⟩
    ·exact .inr ⟨T0,f1,o0,t1,t2,t3,t4,sA _ _ c t5,sA _ _ (dn z (by simp)) t6⟩
end
end VS
namespace PySem
abbrev a9i(h:bU)(l1:aw):bU:=h.push {cls:=.type "tuple_iterator",data:=.fields #[.ref l1,.int 0 0]}
abbrev a9j(h:bU)(l1 l2:aw):bU:=(a9i h l1).push {cls:=.type "tuple_iterator",data:=.fields #[.ref l2,.int 0 0]}
abbrev a9k(h:bU)(l1 l2:aw):bU:=(a9j h l1 l2).push {cls:=.type "tuple",data:=.seq #[.ref h.objs.size,.ref (a9i h l1).objs.size]}
abbrev a9l(h:bU)(l1 l2:aw):bU:=(a9k h l1 l2).push {cls:=.type "tuple",data:=.seq #[.none,.none]}
abbrev a4x(h:bU)(l1 l2:aw):bU:=(a9l h l1 l2).push {cls:=.type "zip",data:=.fields #[.none,.bool rp,.bool rp,.ref (a9j h l1 l2).objs.size,.ref (a9k h l1 l2).objs.size]}
def a8b(l1 l2:aw)(xs ys:Array aj):Meets (Builtin.«zip.__new__» ⟨[.type "zip",.ref l1,.ref l2],[]⟩) (λ_ R s=>s.heap.IsTuple l1 xs/\s.heap.IsTuple l2 ys/\R (.ok (.ret (.ref (a9l s.heap l1 l2).objs.size))) {s with heap:=a4x s.heap l1 l2}):=
 .of_wp λprog w A R s h=>by
  obtain⟨hp,g,d,tk,os⟩:=s;obtain⟨sO,uP,h⟩:=h;have jx:=sub_zip;have xQ:bU.IsTuple (av.heap ⟨hp,g,d,tk,os⟩) l1 xs:=sO;have Ft:bU.IsTuple (av.heap ⟨hp.push {cls:=.type "tuple_iterator",data:=.fields #[.ref l1,.int 0 0]},g,d,tk,os⟩) l2 ys:=bU.IsTuple.push uP _
  wp_walk using oV xQ,oV Ft
  exact⟨_,rfl,h⟩
section
variable {prog:bB}{w:bQ}{A:bE}{E:aj->av->Prop}{s:av}
def b0P(sO:s.heap.IsTuple l1 xs)(uP:s.heap.IsTuple l2 ys)
  (q:∀h',nS h' (s.heap.objs.size+4) (s.heap.objs.size+2) (s.heap.objs.size+3) .none->jC h' (s.heap.objs.size+2) (.ref s.heap.objs.size) (.ref (s.heap.objs.size+1))->jC h' (s.heap.objs.size+3) .none .none->h'.IsTupleIter s.heap.objs.size l1 0->h'.IsTupleIter (s.heap.objs.size+1) l2 0->
   (∀c o,s.heap.get? c=cz o->h'.get? c=cz o)->Q (.ref (s.heap.objs.size+4)) {s with heap:=h'}):aE (a_ prog w) A (call (.type "zip") [.ref l1,.ref l2]) Q E s:=by
 refine callType_new F.called_zip (by decide) (F.typeCall_zip_2 _ _) (F.newCall_zip_2 _ _) (λobj=>F.args_object_init_3 obj _ _) F.entry_zip_new (a8b l1 l2 xs ys) ⟨sO,uP,?_⟩;have z1:(a9i s.heap l1).objs.size=s.heap.objs.size+1:=cP ..;have z2:(a9j s.heap l1 l2).objs.size=s.heap.objs.size+2:=by rw[cP,z1]
 have z3:(a9k s.heap l1 l2).objs.size=s.heap.objs.size+3:=by rw[cP,z2]
 have z4:(a9l s.heap l1 l2).objs.size=s.heap.objs.size+4:=by rw[cP,z3]
 have up:∀{h:bU} {o:fN} {c:aw} {u:fN},h.get? c=cz u->(h.push o).get? c=cz u:=λe=>ag _ e
 have g5:(a4x s.heap l1 l2).get? (a9l s.heap l1 l2).objs.size=cz _:=aF _ rfl;have g4:(a4x s.heap l1 l2).get? (a9k s.heap l1 l2).objs.size=cz _:=up (aF _ rfl);have g3:(a4x s.heap l1 l2).get? (a9j s.heap l1 l2).objs.size=cz _:=up (up (aF _ rfl));have g2:(a4x s.heap l1 l2).get? (a9i s.heap l1).objs.size=cz _:=up (up (up (aF _ rfl)));have g1:(a4x s.heap l1 l2).get? s.heap.objs.size=cz _:=up (up (up (up (aF _ rfl))));show _/\_;rw[z2,z3,z4]at g5;rw[z1,z2]at g3;rw[z3]at g4;rw[z1]at g2;rw[z4];exact⟨⟨_,g5,rfl⟩,q _ g5 g3 g4 ⟨_,g1,rfl,rfl⟩ ⟨_,g2,rfl,rfl⟩ λc o x=>up (up (up (up (up x))))⟩
end
end PySem
namespace VS
open PySem PySem.Spec L2
section
variable {X:Cx}{pins:List (aw×fN)}{Y:L2.St}{H:Hp}{s:av}{z TI TO i1 i2:aw}{fp1 fp2:List aw}{St1 St2:Nat->bU->Prop}{ns ms:List Int}
def b2V(hc:X.calm=p4)(hu:X.A.units+40<cV)(I:Inv X pins Y H s)
  (D1:∀A:bE,A.handled=el->Draws X.prog X.w A i1 fp1 ns.length (λi v=>∃t,v=.int (ns.getD i 0) t) St1) (D2:∀A:bE,A.handled=el->Draws X.prog X.w A i2 fp2 ns.length (λi v=>∃t,v=.int (ms.getD i 0) t) St2) (Z:ZApart z TI TO i1 i2 fp1 fp2)
  (hl:ms.length=ns.length) (iF:ns.Nodup) (hsz:ns.length<aU) (gS:∀b∈[z,TI,TO,i1,i2]++fp1++fp2,b<s.heap.objs.size) (hf:∀b∈[z,TO,i1,i2],a0B X pins H b) (hz:nS s.heap z TI TO .none) (rT:jC s.heap TI (.ref i1) (.ref i2)) (wG:jC s.heap TO .none .none) (g1:St1 0 s.heap) (g2:St2 0 s.heap)
  (q:∀d,H d=el->Q (.ref d) (upd H d (e6 d (ziE ns ms)))):aE (a_ X.prog X.w) X.A (call (.type "dict") [.ref z]) (EP X pins Y Q) X.xe s:=by
 have hh:X.A.handled=el:=I.ok.hd hc;refine wZ (Q₁:=λobj s₁=>obj=.ref s.heap.objs.size/\s₁={s with heap:=s.heap.push {cls:=.type "dict",data:=.dict #[]}}) PySem.F.kt_called_dict (PySem.F.kt_typeCall_dict_1 _) PySem.F.entry_dict_init (kt_code_dict_new _ ⟨rfl,rfl⟩) ?_;rintro obj s₁ ⟨rfl,rfl⟩;have rO:(s.heap.push {cls:=.type "dict",data:=.dict #[]}).DictOf (c_ X.prog X.w) s.heap.objs.size []:=bU.DictOf.new s.heap;refine⟨rO.typeIs,PySem.F.args_dict_init_2 _ _,?_⟩;have tH:nS (s.heap.push {cls:=.type "dict",data:=.dict #[]}) z TI TO .none:=ag _ hz;unfold Builtin.«dict.__init__»;refine ab ?_;unfold lA;refine ab (fI rO.typeIs ?_);show aE _ _ (pure (s.heap.objs.size,[bb z])) _ _ _;refine ae ?_;show aE _ _ (eY "dict.__init__" s.heap.objs.size (.ref z) [] .none) _ _ _;unfold eY;refine ab (ib (T:="zip") ⟨_,tH,rfl⟩ ?_);rw[aH (by decide)];refine ab (a8a hh tH λh2 tk up=>?_);rw[aH (show (el:Option aj).isNone=p4 from rfl)];have keep:∀b o,s.heap.get? b=cz o->h2.get? b=cz o:=λb o e=>up b o (ag _ e)
 have AL:nS h2 z TI TO .none:=keep _ _ hz;refine ab (dW (ab (wpAny_pyIter_zip AL (ae ⟨fw PySem.F.plain_dict_update_loop _,?_⟩))));have zE:H s.heap.objs.size=el:=I.hok.fresh (aD _);have nd:∀b∈[z,TI,TO,i1,i2]++fp1++fp2,b≠s.heap.objs.size:=λb hb e=>absurd (gS b hb) (by rw[e];exact dw _)
 have I0:Inv X pins Y (upd H s.heap.objs.size (e6 s.heap.objs.size [])) {s with heap:=s.heap.push {cls:=.type "dict",data:=.dict #[]}}:=I.laid (a:=s.heap.objs.size) (o:=e6 s.heap.objs.size []) (t':=s.toks) (λ_ _ q=>ag _ q) (aD _) (a1O s.heap I.sysBelow);have I1:Inv X pins Y (upd H s.heap.objs.size (e6 s.heap.objs.size [])) {s with heap:=h2,toks:=tk}:=I0.kept (t':=tk) up;refine b2U (X:=X) (pins:=pins) (Y:=Y) (H:=H) (A:=X.A.in1) (d:=s.heap.objs.size) (z:=z) (ns:=ns) (ms:=ms) (by show X.A.units+1+20<_;lia) (D1 _ hh) (D2 _ hh) Z hl iF hsz (λhb=>nd _ hb rfl) ns.length 0 {s with heap:=h2,toks:=tk} rfl (b_ _) I1 (λb hb=>?_) ⟨keep _ _ rT,⟨_,_,keep _ _ wG⟩,.inl AL⟩
  ((D1 _ hh).frame _ _ _ g1 λb _ o e=>keep b o e) ((D2 _ hh).frame _ _ _ g2 λb _ o e=>keep b o e) λs' I'=>⟨rfl,.ref s.heap.objs.size,_,I',rfl,q _ zE⟩
 have xN:b∈[z,TI,TO,i1,i2]++fp1++fp2:=by
  simp only[az,cG,or_false]at hb;rcases hb with rfl|rfl|rfl|rfl<;>simp
 exact⟨by rw[g9 (nd b xN)];exact (hf b hb).1,(hf b hb).2⟩
end
end VS
namespace PySem
def Draws.imp(D:Draws prog w A it fp n P St)(h:∀i v,i<n->P i v->P' i v):Draws prog w A it fp n P' St:=
 ⟨D.live,D.frame,λi s Q E hi st q=>D.item i s Q E hi st λx h' tk p=>q x h' tk (h i x hi p),D.done⟩
def b2W:gq "zip"=cz (.type "zip"):=by kernel_rfl
end PySem
namespace VS
open PySem PySem.Spec L2
def SqI(K:af)(H:Hp)(l:Bool)(a:aw)(ns:List Int):Prop:=if l then SqL K H a (ns.map V.int) else SqT K H a (ns.map V.int)
def a2o{ns:List Int}(h:Vals (ns.map V.int) cA):cA.length=ns.length/\∀(i:Nat) (v:aj),cA[i]?=cz v->∃t,v=.int (ns.getD i 0) t:=by
 refine⟨by rw[<-h.length,ah],λi v hv=>?_⟩;have hi:i<ns.length:=by rw[<-ah (f:=V.int),h.length];exact (aQ.mp hv).1
 obtain⟨u,hu,r⟩:=h.get (show (ns.map V.int)[i]?=cz (V.int (ns.getD i 0)) by rw[bc,ar hi,aT,ar hi];rfl);rw[hv]at hu;cases hu
 exact r
section
variable {X:Cx}{M:List Md}{a b:Expr}{fa fb:EvE}{ca cb:Cat}{pos ic p p2:eO}
def tDZ(X:Cx)(l:Bool)(t:TA):TE:=λY H Q=>t Y H λxs H1=>∃u v ns ms,xs=[.ref u,.ref v]/\SqI X.K H1 l u ns/\SqI X.K H1 l v ms/\ms.length=ns.length/\ns.Nodup/\ns.length<aU/\∀d,H1 d=el->Q (.ref d) (upd H1 d (e6 d (ziE ns ms)))
def a8c(hc:X.calm=p4)(hu:X.A.units+40<cV)(zc:X.mg "dict"=el)(zb:X.mg "zip"=el)(ha:PA X [a,b] t)(zw:Gl X "dict":=by rfl)(zr:Gl X "zip":=by rfl)
  (he:ax [a,b] X.env=(rp,cg a X.env)::ax [b] X.env:=by rfl) (fM:(cj ic (ax [b] X.env)).any (·.1)=rp:=by rfl)
  (mC:ax [.Call (.Name "zip" p2) [a,b] [] ic] X.env=(rp,cg (.Call (.Name "zip" p2) [a,b] [] ic) X.env)::ax [] X.env:=by rfl) (qu:(cj pos (ax [] X.env)).any (·.1)=rp:=by rfl) :
  PE X (.Call (.Name "dict" p) [.Call (.Name "zip" p2) [a,b] [] ic] [] pos) (tDZ X l t):=by
 intro pins s Y H Q I h;refine fD (a0k I zw zc PyProof.Rows.Boot.«dict» ?_ (by decide) (by decide));refine eN ?_ mC qu;rw[mC];show aE _ _ (spliced ((rp,cg (.Call (.Name "zip" p2) [a,b] [] ic) X.env)::cj pos (ax [] X.env))) _ _ s;refine Calls.spliced_cons ?_;refine fD (a0k I zr zb b2W ?_ (by decide) (by decide));refine eN (L2.thn (ha ic pins s Y H _ I h) λus s1 ⟨xs,H1,I1,r1,q1⟩=>?_) he fM;obtain⟨u,v,ns,ms,rfl,AW,AV,hl,iF,hsz,q⟩:=q1;cases r1 with
 |cons r rr=>
  cases rr with
  |cons r' CB=>
   cases CB
   cases (show _=bb u from r)
   cases (show _=bb v from r')
   have fin:∀(h':bU) (fp1 fp2:List aw) (St1 St2:Nat->bU->Prop),nS h' (s1.heap.objs.size+4) (s1.heap.objs.size+2) (s1.heap.objs.size+3) .none->jC h' (s1.heap.objs.size+2) (.ref s1.heap.objs.size) (.ref (s1.heap.objs.size+1))->jC h' (s1.heap.objs.size+3) .none .none->(∀c o,s1.heap.get? c=cz o->h'.get? c=cz o)->
     (∀A:bE,A.handled=el->Draws X.prog X.w A s1.heap.objs.size fp1 ns.length (λi v=>∃t,v=.int (ns.getD i 0) t) St1)->(∀A:bE,A.handled=el->Draws X.prog X.w A (s1.heap.objs.size+1) fp2 ns.length (λi v=>∃t,v=.int (ms.getD i 0) t) St2)->
     (∀b:Nat,b∈fp1->b<=s1.heap.objs.size)->(∀b:Nat,b∈fp2->b<s1.heap.objs.size\/b=s1.heap.objs.size+1)->St1 0 h'->St2 0 h'->
     aE (a_ X.prog X.w) X.A (spliced (cj pos (ax [] X.env))) (λvs s2=>aE (a_ X.prog X.w) X.A (call (.type "dict") (.ref (s1.heap.objs.size+4)::vs)) (EP X pins Y Q) X.xe s2) X.xe {s1 with heap:=h'}:=by
    intro h' fp1 fp2 St1 St2 z1 z2 z3 keep D1 D2 f1 f2 g1 g2;refine Calls.spliced_nil ?_;have I2:Inv X pins Y H1 {s1 with heap:=h'}:=I1.kept (t':=s1.toks) keep;have Dp:s1.heap.objs.size+4<h'.objs.size:=aK z1;refine b2V (X:=X) (ns:=ns) (ms:=ms) (z:=s1.heap.objs.size+4) (TI:=s1.heap.objs.size+2) (TO:=s1.heap.objs.size+3) (i1:=s1.heap.objs.size) (i2:=s1.heap.objs.size+1) (fp1:=fp1) (fp2:=fp2) (St1:=St1) (St2:=St2) hc hu I2 D1 D2 ?_ hl iF hsz (λb hb=>?_) (λb hb=>?_) z1 z2 z3 g1 g2 q
    ·have n1:∀k,1<=k->s1.heap.objs.size+k∉fp1:=λk hk hb=>by have:=f1 _ hb;lia
     have n2:∀k,k≠1->s1.heap.objs.size+k∉fp2:=λk hk hb=>by rcases f2 _ hb with z|z<;>lia
     have ne:∀i j:Nat,i≠j->(s1.heap.objs.size+i:Nat)≠s1.heap.objs.size+j:=λi j h=>by lia
     exact⟨ne 2 4 (by lia),ne 3 4 (by lia),ne 2 3 (by lia),ne 0 1 (by lia),ne 2 0 (by lia),ne 2 1 (by lia),ne 3 0 (by lia),ne 3 1 (by lia),ne 4 0 (by lia),ne 4 1 (by lia),n1 4 (by lia),n2 4 (by lia),n1 3 (by lia),n2 3 (by lia),n2 0 (by lia),n1 1 (by lia)⟩
    ·have hk:∀k:Nat,k<=4->s1.heap.objs.size+k<h'.objs.size:=λk hk=>ij (Nat.add_le_add_left hk _) Dp
     show b<h'.objs.size;rcases ay.mp hb with hb|hb
     ·rcases ay.mp hb with hb|hb
      ·simp only[az,cG,or_false]at hb;rcases hb with rfl|rfl|rfl|rfl|rfl
       ·exact hk 4 (by decide)
       ·exact hk 2 (by decide)
       ·exact hk 3 (by decide)
       ·exact hk 0 (by decide)
       ·exact hk 1 (by decide)
      ·exact ij (f1 _ hb) (hk 0 (by decide))
     ·rcases f2 _ hb with z|z
      ·exact fE z (hk 0 (by decide))
      ·rw[z];exact hk 1 (by decide)
    ·have jW:s1.heap.objs.size<=b:=by
      simp only[az,cG,or_false]at hb;rcases hb with rfl|rfl|rfl|rfl
      ·exact oG _ _
      ·exact oG _ _
      ·exact aD _
      ·exact oG _ _
     exact I1.fpOk jW (I1.hok.fresh jW)
   cases l with
   |true=>
    obtain⟨t1,v1,p1,_⟩:=I1.list (show SqL X.K H1 u (ns.map V.int) from AW);obtain⟨t2,v2,vt,_⟩:=I1.list (show SqL X.K H1 v (ms.map V.int) from AV);obtain⟨l1,e1⟩:=a2o v1;obtain⟨l2,e2⟩:=a2o v2;have lu:(u:Nat)<s1.heap.objs.size:=by obtain⟨o,ho,_⟩:=p1.isList;exact aK ho
    have lv:(v:Nat)<s1.heap.objs.size:=by obtain⟨o,ho,_⟩:=vt.isList;exact aK ho
    refine call_zip_2 p1.isList vt.isList λh' z1 z2 z3 y1 y2 _ keep=>?_
    refine fin h' [s1.heap.objs.size,u] [s1.heap.objs.size+1,v] _ _ z1 z2 z3 keep (λA hA=>(show ns.length=t1.toArray.size by simp[l1])▸(Draws.list (prog:=X.prog) (w:=X.w) (A:=A) hA s1.heap.objs.size u (bg lu) t1.toArray).imp λi v _ h=>e1 i v (by simpa using h)) (λA hA=>(show ns.length=t2.toArray.size by simp[l2,hl])▸(Draws.list (prog:=X.prog) (w:=X.w) (A:=A) hA (s1.heap.objs.size+1) v (bg (gj lv)) t2.toArray).imp λi v _ h=>e2 i v (by simpa using h)) (λb hb=>?_) (λb hb=>?_) ⟨y1,p1.isList.at λo e=>keep _ o e⟩ ⟨y2,vt.isList.at λo e=>keep _ o e⟩
    ·simp only[az,cG,or_false]at hb;rcases hb with hb|hb
     ·rw[hb];exact aD _
     ·rw[hb];exact dF lu
    ·simp only[az,cG,or_false]at hb;rcases hb with hb|hb
     ·exact .inr hb
     ·rw[hb];exact .inl lv
   |false=>
    obtain⟨t1,v1,p1,_⟩:=I1.tuple (show SqT X.K H1 u (ns.map V.int) from AW);obtain⟨t2,v2,vt,_⟩:=I1.tuple (show SqT X.K H1 v (ms.map V.int) from AV);obtain⟨l1,e1⟩:=a2o v1;obtain⟨l2,e2⟩:=a2o v2;have q1:s1.heap.IsTuple u t1.toArray:=p1;have q2:s1.heap.IsTuple v t2.toArray:=vt;have lu:(u:Nat)<s1.heap.objs.size:=by obtain⟨o,ho,_⟩:=q1;exact aK ho
    have lv:(v:Nat)<s1.heap.objs.size:=by obtain⟨o,ho,_⟩:=q2;exact aK ho
    refine b0P q1 q2 λh' z1 z2 z3 y1 y2 keep=>?_
    refine fin h' [s1.heap.objs.size,u] [s1.heap.objs.size+1,v] _ _ z1 z2 z3 keep (λA hA=>(show ns.length=t1.toArray.size by simp[l1])▸(Draws.tup (prog:=X.prog) (w:=X.w) (A:=A) hA s1.heap.objs.size u (bg lu) t1.toArray).imp λi v _ h=>e1 i v (by simpa using h)) (λA hA=>(show ns.length=t2.toArray.size by simp[l2,hl])▸(Draws.tup (prog:=X.prog) (w:=X.w) (A:=A) hA (s1.heap.objs.size+1) v (bg (gj lv)) t2.toArray).imp λi v _ h=>e2 i v (by simpa using h)) (λb hb=>?_) (λb hb=>?_) ⟨y1,let⟨o,ho,r⟩:=q1;⟨o,keep _ o ho,r⟩⟩ ⟨y2,let⟨o,ho,r⟩:=q2;⟨o,keep _ o ho,r⟩⟩
    ·simp only[az,cG,or_false]at hb;rcases hb with hb|hb
     ·rw[hb];exact aD _
     ·rw[hb];exact dF lu
    ·simp only[az,cG,or_false]at hb;rcases hb with hb|hb
     ·exact .inr hb
     ·rw[hb];exact .inl lv
end
def b5n(l:Bool):D->Option (List Int)
 |.list ds=>if l then intsOf ds else el
 |.tuple ds=>if l then el else intsOf ds
 |_=>el
def a9m(ns ms:List Int):Bool:=decide (ms.length=ns.length)&&(decide ns.Nodup&&decide (ns.length<1000000))
def ziD(ns ms:List Int):List (D×D):=(ns.zip ms).map λp=>(.int p.1,.int p.2)
def K9(l:Bool)(fa fb:EvE):EvE:=λU=>(fa U).bind λd=>(fb U).bind λe=>(b5n l d).bind λns=>(b5n l e).bind λms=>if a9m ns ms then cz (.dict (ziD ns ms)) else el
theorem a0T(h:∀m,R (V.int m) (.int m) []):∀ms:List Int,ListAll R (ms.map V.int) (ms.map aG) []
 |[]=>m8
 |m::ms=>m6 (f:=[]) (h m) (a0T h ms)
theorem a0U:∀{ns ms:List Int},ms.length=ns.length->(ziE ns ms).map (·.1)=ns.map aG/\(ziE ns ms).map (·.2.2)=ms.map V.int
 |[],[],_=>⟨rfl,rfl⟩
 |[],_::_,h=>by simp at h
 |_::_,[],h=>by simp at h
 |n::ns,m::ms,h=>by
  obtain⟨h1,h2⟩:=a0U (ns:=ns) (ms:=ms) (by simpa using h);exact⟨dJ (aG n::·) h1,dJ (V.int m::·) h2⟩
theorem a9n:∀{ns ms:List Int},ms.length=ns.length->ziD ns ms=(ns.map aG).zip (ms.map .int)
 |[],[],_=>rfl
 |[],_::_,h=>by simp at h
 |_::_,[],h=>by simp at h
 |n::ns,m::ms,h=>by
  have:=a9n (ns:=ns) (ms:=ms) (by simpa using h);exact dJ ((aG n,aG m)::·) this
section
variable {X:Cx}{M:List Md}{a b:Expr}{fa fb:EvE}{ca cb:Cat}{pos ic p p2:eO}{K:af}{H H':Hp}{F:List aw}
def a6A(h:b5n l d=cz ns)(hd:Den K (cut H F) v d):∃u,v=.ref u/\∀H',Same (cut H F) H'->SqI K H' l u ns:=by
 cases d with
 |list ds=>
  cases l with
  |true=>
   have e:=D7 (show intsOf ds=cz ns from h);subst e;obtain⟨u,xs,rfl,k1,k2⟩:=hd.list_inv;rw[X3 k2]at k1;exact⟨u,rfl,λH' s=>(T5 k1 s).l⟩
  |false=>cases h
 |tuple ds=>
  cases l with
  |false=>
   have e:=D7 (show intsOf ds=cz ns from h);subst e;obtain⟨u,xs,rfl,k1,k2⟩:=hd.tup_inv;rw[X3 k2]at k1;exact⟨u,rfl,λH' s=>Q5 k1 s⟩
  |true=>cases h
 |_=>cases h
def a3k(l:Bool)(hc:X.calm=p4)(hu:X.A.units+164<cV)(zc:X.mg "dict"=el)(zb:X.mg "zip"=el)(ha:PX X M a fa ca)(hb:PX X M b fb cb)(ES:frozen ca:=by trivial)(ER:frozen cb:=by trivial)(zw:Gl X "dict":=by rfl)(zr:Gl X "zip":=by rfl)
  (he:ax [a,b] X.env=(rp,cg a X.env)::ax [b] X.env:=by rfl) (EF:ax [b] X.env=(rp,cg b X.env)::ax [] X.env:=by rfl) (fM:(cj ic (ax [b] X.env)).any (·.1)=rp:=by rfl)
  (mC:ax [.Call (.Name "zip" p2) [a,b] [] ic] X.env=(rp,cg (.Call (.Name "zip" p2) [a,b] [] ic) X.env)::ax [] X.env:=by rfl) (qu:(cj pos (ax [] X.env)).any (·.1)=rp:=by rfl) :
  PX X M (.Call (.Name "dict" p) [.Call (.Name "zip" p2) [a,b] [] ic] [] pos) (K9 l fa fb) (.new (.d rp .i)):=by
 obtain⟨ta,pa,qa⟩:=ha.out;obtain⟨tb,pb,qb⟩:=hb.out;refine .mk ⟨_,a8c (l:=l) hc (by lia) zc zb (m5 pa (m5 pb q9 EF) he) zw zr he fM mC qu,λU Y H P F d Q S hf q=>?_⟩;obtain⟨x,h1,g1⟩:=bnd hf;obtain⟨y,h2,g2⟩:=bnd g1;obtain⟨ns,h3,g3⟩:=bnd g2;obtain⟨ms,h4,g4⟩:=bnd g3;by_cases c:a9m ns ms=p4
 ·rw[aH c]at g4;cases g4
  simp only[a9m,ao,bK]at c;obtain⟨c1,c2,c3⟩:=c;refine qa U Y H P F _ _ S h1 λv H1 e1 r1=>?_
  obtain⟨u,rfl,su⟩:=a6A h3 (E9 ES r1);refine qb U Y H1 P F _ _ (S.grow e1) h2 λw H2 e2 r2=>?_
  obtain⟨u2,rfl,sw⟩:=a6A h4 (E9 ER r2);refine⟨u,u2,ns,ms,rfl,su H2 (i7.trans e2),sw H2 i7,c1,c2,fE c3 (by rw[cO];decide),λz hz=>?_⟩;refine q _ _ ((e1.trans e2).trans (l6 hz _)) ⟨[z],?_,bz.mpr ⟨λw=>(nomatch w),bw⟩,λb hb=>?_⟩
  ·simp only[Own];refine⟨z,ziE ns ms,ms.map .int,[],rfl,i6,?_,rfl,⟨?_,λe he=>?_⟩,?_⟩
   ·rw[(a0U c1).1,a9n c1]
   ·rw[(a0U c1).1];exact Cd _ (λx y h e=>h (by injection e)) c2
   ·obtain⟨pr,_,rfl⟩:=aX.mp he;exact⟨x6 rfl,den_int⟩
   ·rw[(a0U c1).2];exact a0T (λm=>⟨rfl,a0N,den_int⟩) ms
  ·rw[ai.mp hb];cases hH:H z with
   |none=>rfl
   |some y=>rw[e2 _ _ (e1 _ _ hH)]at hz;cases hz
 ·rw[aM c]at g4;cases g4
end
def a3l(i:Nat)(kt kt2:Bool)(fk fj fr fv:EvE):EvS:=λU=>(fk U).bind λk=>match U.getD i .none with
 |.dict kvs=>if n8 kt k&&decide (kvs.length<1000000) then
   (fj (U.set i (.dict (p7 kvs k (.dict []))))).bind λj=>match A3 (p7 kvs k (.dict [])) k with
    |some (.dict om)=>if n8 kt2 j&&decide (om.length<1000000) then
      if w9 om j then (fr (U.set i (.dict (p7 kvs k (.dict []))))).bind λd=>cz (.rt d)
      else (fv (U.set i (.dict (p7 kvs k (.dict []))))).bind λd=>cz (.nx ((U.set i (.dict (p7 kvs k (.dict [])))).set i (.dict (q8 (p7 kvs k (.dict [])) k (.dict (q8 om j d))))))
     else el
    |_=>el
  else el
 |_=>el
section
variable {X:Cx}{M M' M2 ML:List Md}{k j j2 v:Expr}{fk fj fr fv:EvE}{ret:ig}{wW vB Az:eO}{kt kt2:Bool}{w:Ty}{pos apos cf iE ic mf:eO}
def b2X(i y:Nat)(hu:X.A.units+164<cV)(Fp:X.N.Nodup)(hk:PX X M k fk (.new .i))(hj:PX X M j fj (.new .i))(pM:PX X M j2 fj (.new .i))(yM:PSX X w ML M ret (m9 fr) M2)(hv:PX X M v fv (.new .i))(iZ:PSsX X w ML M sts g M')(xF:kt2=rp:=by rfl)
  (hN:X.N[i]?=cz x:=by rfl) (zQ:X.N[y]?=cz yn:=by rfl) (hm:M[i]?=cz (.own (.d kt (.d kt2 .i))):=by rfl) (vV:M[y]?=cz .dead:=by rfl)
  (nV:autoParam (NmV X x) ZY._auto_1)
  (uN:autoParam (NmV X yn) ZY._auto_1)
  (Ef:autoParam (Loc X.env.scope yn) ZW._auto_1) (zx:autoParam (X.fn yn=p4\/X.env.scope.names.lookup yn=cz .local) ZV._auto_1)
  (dS:cK (.Name x px) "setdefault" X.env (cg (.Name x px) X.env)=cg (.Name x px) X.env:=by rfl)
  (jG:((cj cf (ax [k,.Dict [] [] mf] X.env)).all (λx=>!x.1)&&(kq cf (gU [] X.env)).all (λx=>x.1.isSome)
   && decide (([k,.Dict [] [] mf]:List Expr).length+([]:List fV).length+(if ([]:List fV).isEmpty then 0 else 1)<30))=p4:=by rfl)
  (dR:(apos.endLine==cf.line)=p4:=by rfl) (hs:ax [k,.Dict [] [] mf] X.env=(rp,cg k X.env)::ax [.Dict [] [] mf] X.env:=by rfl) (DH:ax [.Dict [] [] mf] X.env=(rp,cg (.Dict [] [] mf) X.env)::ax [] X.env:=by rfl)
  (fP:(cj cf (ax [.Dict [] [] mf] X.env)).any (·.1)=rp:=by rfl)
  (oq:eU (.Call (.Attribute (.Name x px) "setdefault" apos) [k,.Dict [] [] mf] [] cf) (cz (.Name yn pz)) pos.line X.env=pure rp:=by rfl)
  (yL:eU v (cz (.Subscript (.Name yn py) j2 iE)) ic.line X.env=pure rp:=by rfl) (Ed:autoParam (eE .In (.Name yn Az)=rp) ZX._auto_1) :
  PSsX X w ML M (.Assign [.Name yn pz] (.Call (.Attribute (.Name x px) "setdefault" apos) [k,.Dict [] [] mf] [] cf) pos::.If (.Compare j [.In] [.Name yn Az] wW) [ret] [] vB::.Assign [.Subscript (.Name yn py) j2 iE] v ic::sts) (i4 (a3l i kt kt2 fk fj fr fv) g) M':=by
 obtain⟨tk,pk,qk⟩:=hk.out;obtain⟨tj,pj,qj⟩:=hj.out;obtain⟨Cu,CN,CH⟩:=pM.out;obtain⟨tt,pt,qt⟩:=yM.out;obtain⟨tv,pv,qv⟩:=hv.out;obtain⟨tr,pr,qr⟩:=iZ.out;refine .mk ⟨_,W1 (a7a Fp zQ Ef (a7G PySem.F.slot_dict_setdefault PySem.F.type_dict_setdefault (b4L hu) (C6 hN nV.1 nV.2.1 nV.2.2) (m5 pk (m5 a6d q9 DH) hs) dS jG dR hs fP) oq zx) (W1 (b5X (a0C (b2d hu) pj (C6 zQ uN.1 uN.2.1 uN.2.2) Ed) (W1 pt a4X) a4X) (W1 (a8W hu (C6 zQ uN.1 uN.2.1 uN.2.2) CN pv yL) pr)),λD U Y H P F o S hg kk=>?_⟩;obtain⟨o1,h1,g1⟩:=bnd hg;obtain⟨y0,Ds,h1⟩:=bnd h1;obtain⟨a,es,ds,fs,ha,hH,hU,_⟩:=S.toE.dict hm;rw[hU]at h1
 let kvs:List (VS.D×VS.D):=(es.map (·.1)).zip ds
 have lN:(if (n8 kt y0&&decide (kvs.length<1000000))=p4 then (fj (U.set i (.dict (p7 kvs y0 (.dict []))))).bind λj=>match A3 (p7 kvs y0 (.dict [])) y0 with
    |some (.dict om)=>if n8 kt2 j&&decide (om.length<1000000) then
      if w9 om j then (fr (U.set i (.dict (p7 kvs y0 (.dict []))))).bind λd=>cz (Out.rt d)
      else (fv (U.set i (.dict (p7 kvs y0 (.dict []))))).bind λd=>cz (Out.nx ((U.set i (.dict (p7 kvs y0 (.dict [])))).set i (.dict (q8 (p7 kvs y0 (.dict [])) y0 (.dict (q8 om j d))))))
     else el
    |_=>el
  else el)=cz o1:=h1
 by_cases c:(n8 kt y0&&decide (kvs.length<1000000))=p4
 ·rw[aH c]at lN;obtain⟨j0,rQ,lN⟩:=bnd lN;rw[ao]at c;have mB:i<U.length:=by
   obtain⟨G,q1,_⟩:=S.all;obtain⟨d0,_,_,_,_,z1,_⟩:=q1.at_ hm;exact (aQ.mp z1).1
  have GS:i≠y:=λz=>by
   subst z;rw[hm]at vV;cases vV
  have xu:y<Y.length:=by
   obtain⟨G,q1,_⟩:=S.all;obtain⟨_,_,_,_,_,_,z1,_⟩:=q1.at_ vV;exact (aQ.mp z1).1
  have fin:∀(H1:Hp) (F1:List aw) (v1:V) (d1:VS.D) (f1:List aw),StR X.K M (U.set i (.dict (p7 kvs y0 (.dict [])))) Y H1 P F1->A3 (p7 kvs y0 (.dict [])) y0=cz d1->Own X.K H1 F1 (.d kt2 .i) v1 d1 f1->f1.Nodup->(∀b∈f1,b∈F1)->
    (∀(H':Hp) (a:aw) (o':MuO) (d':VS.D) (f':List aw),Same H1 H'->a∈f1->Own X.K (upd H' a o'.1) F1 (.d kt2 .i) v1 d' f'->(∀b,f'.count b<=f1.count b)->StR X.K M (U.set i (.dict (q8 (p7 kvs y0 (.dict [])) y0 d'))) Y (upd H' a o'.1) P F1)->
    (b9g (b5Y (tOp (a3O X rp) tj (b3T y))) (b6I tt b1l) b1l) {D with nx:=(b6I (b6j X (b3T y) Cu tv) tr) D} (Y.set y (cz v1)) H1:=by
   intro H1 F1 v1 d1 f1 S1 qZ ow iF rR cl;have S2:=S1.ded vV (cz v1);show tj (Y.set y (cz v1)) H1 _;refine qj _ _ H1 P F1 j0 _ S2.toE rQ λjv H2 e2 r2=>⟨v1,fZ xu,?_⟩
   rw[qZ]at lN;obtain⟨a1,kn,uW,zZ,FI,FT,FR,Hg,FK,Hf,sO,GQ⟩:=(ow.grow e2).dict;subst FI;subst FR;have jQ:(if (n8 kt2 j0&&decide (((kn.map (·.1)).zip uW).length<1000000))=p4 then
      if w9 ((kn.map (·.1)).zip uW) j0 then (fr (U.set i (.dict (p7 kvs y0 (.dict []))))).bind λd=>cz (Out.rt d)
      else (fv (U.set i (.dict (p7 kvs y0 (.dict []))))).bind λd=>cz (Out.nx ((U.set i (.dict (p7 kvs y0 (.dict [])))).set i (.dict (q8 (p7 kvs y0 (.dict [])) y0 (.dict (q8 ((kn.map (·.1)).zip uW) j0 d))))))
     else el)=cz o1:=lN
   by_cases c2:(n8 kt2 j0&&decide (((kn.map (·.1)).zip uW).length<1000000))=p4
   ·rw[aH c2]at jQ;rw[ao]at c2;have S3:=S2.grow e2;refine⟨a1,kn,kt2,j0,rfl,FT,keysAt FK c2.1 r2.den,_,rfl,?_⟩;rw[qU,<-x8 sO];cases BC:w9 ((kn.map (·.1)).zip uW) j0 with
    |true=>
     rw[BC,aH rfl]at jQ;obtain⟨dr,wo,pQ⟩:=bnd jQ;cases pQ
     have:o=.rt dr:=(aL g1).symm;subst this;rw[aH rfl];exact qt _ _ _ H2 P F1 (.rt dr) S3 (show (fr _).bind _=_ by rw[wo];rfl) kk
    |false=>
     rw[BC]at jQ;simp only[cN,fO]at jQ ⊢;obtain⟨d0,EK,pQ⟩:=bnd jQ;cases pQ
     show tv (Y.set y (cz (.ref a1))) H2 _;refine qv _ _ H2 P F1 d0 _ S3.toE EK λvv H3 e3 r3=>⟨.ref a1,fZ xu,CH _ _ H3 P F1 j0 _ (S3.grow e3).toE rQ λAJ H4 e4 r4=>?_⟩
     have S4:=S3.grow (e3.trans e4);obtain⟨wM,CP,_⟩:=r3;obtain⟨rfl,im,dv⟩:=R5 CP;have CQ:Own X.K H4 F1 .i vv d0 []:=by
      simp only[Own];exact⟨trivial,im,dv.up (B2 e4)⟩
     have Ep:Den X.K (cut H4 F1) AJ j0:=r4.den.imm_out S4.lst j0 (W5 _ (x6 c2.1).1);obtain⟨eJ,z1,z2,z3,z4,f',o',zI⟩:=b2r (fv:=[]) (ow.grow (e2.trans (e3.trans e4))) rR (by simpa using iF) (x6 c2.1) Ep CQ;refine⟨a1,eJ,kt2,j0,rfl,z1,keysAt z2 c2.1 r4.den,by rw[z3];exact fE (aP c2.2) (by rw[cO];decide),λ_=>b2g xF c2.1,?_⟩;have S5:=(cl H4 a1 ⟨e6 a1 (R8 eJ j0 AJ vv),trivial⟩ _ f' (e2.trans (e3.trans e4)) z4 o' λb=>by have:=zI b;simpa using this).ded vV (cz (.ref a1));refine qr D _ _ _ P F1 o S5 ?_ kk;have g2:g ((U.set i (.dict (p7 kvs y0 (.dict [])))).set i (.dict (q8 (p7 kvs y0 (.dict [])) y0 (.dict (q8 ((kn.map (·.1)).zip uW) j0 d0)))))=cz o:=g1;rw[uz]at g2;exact g2
   ·rw[aM c2]at jQ;cases jQ
  refine⟨.ref a,ha,⟨a,es,rfl,hH⟩,qk U Y H P F y0 _ S.toE Ds λkv H1 w1 r1=>λz hz=>?_⟩;have w2:Same H1 (upd H1 z (e6 z [])):=l6 hz _;have S2:=S.grow (w1.trans w2);have rY:Den X.K (upd H1 z (e6 z [])) kv y0:=r1.den.up w2;have vG:D8 y0=p4:=(x6 c.1).1;have Be:∀{eJ:List (VS.D×V×V)} {iB:List VS.D},U.getD i .none=.dict ((eJ.map (·.1)).zip iB)->iB.length=eJ.length->kvs=(eJ.map (·.1)).zip iB/\eJ.length<aU:=λ{eJ iB} hq hl=>by
   rw[hU]at hq
   injection hq with hq
   refine⟨hq,?_⟩;have e3:((eJ.map (·.1)).zip iB).length=eJ.length:=by rw[dG,ah,hl,kO]
   rw[<-e3,<-hq];exact fE (aP c.2) (by rw[cO];decide)
  cases hK:w9 kvs y0 with
  |true=>
   have rX:p7 kvs y0 (.dict [])=kvs:=by unfold p7;rw[hK];rfl
   have eU:U.set i (.dict kvs)=U:=set_same (by rw[<-hU,aT,ar mB];rfl);obtain⟨a0,eJ,iB,t1,t2,t3,t4,t5,t6,t7⟩:=S2.dval (k:=y0) hm (x6 c.1);rw[ha]at t1;cases t1
   obtain⟨ek,hsz⟩:=Be t3 t4;refine⟨a,eJ,kt,y0,kv,.ref z,rfl,rfl,t2,keysAt t5 c.1 rY,hsz,λhf=>?_,λe he fJ=>?_⟩
   ·rw[ek,x8 t4,hf]at hK;cases hK
   ·obtain⟨d1,f1,x1,x2,x3,x4,x5⟩:=t7 e he fJ;refine fin _ F e.2.2 d1 f1 (by rw[rX,eU];exact S2) (by rw[rX,ek];exact x1) x2 x3 x4 λH' a' o' d' f' sV me rf zX=>?_
    rw[rX,ek];exact x5 H' a' o' d' f' sV me rf zX
  |false=>
   have oz:Own X.K (upd H1 z (e6 z [])) ([z]++F) (.d kt2 .i) (.ref z) (.dict []) [z]:=by
    simp only[Own];exact⟨z,[],[],[],rfl,i6,rfl,rfl,⟨bw,λe he=>(nomatch he)⟩,m8⟩
   have P1:=(S.grow w1).pend.new w2 oz (by simp) λb hb=>by rw[ai.mp hb];exact hz
   have rX:p7 kvs y0 (.dict [])=kvs++[(y0,.dict [])]:=by unfold p7;rw[hK];rfl
   obtain⟨a0,eJ,iB,wM,t1,t2,t3,t4,t5,t6,t7,t8,t9,Cv⟩:=P1.dnew (k:=y0) (kv:=kv) hm (x6 c.1) rY;rw[ha]at t1;cases t1
   obtain⟨ek,hsz⟩:=Be t3 t4;have hE:u7 eJ y0=rp:=by rw[<-x8 t4,<-ek];exact hK
   refine⟨a,eJ,kt,y0,kv,.ref z,rfl,rfl,t2,keysAt t5 c.1 rY,hsz,λhf=>?_,λe he fJ=>?_⟩
   ·obtain⟨z',_,_,km,ez,zz,_,FQ,_⟩:=t7.dict;cases ez
    have AK:z∈wM:=by rw[FQ];exact ak
    have Dn:z≠a:=(t9 z AK).2;have m_:a∈[z]++F:=by
     obtain⟨_,_,PS⟩:=P1;have:=PS.lst;obtain⟨v0,f0,sV,me,rf⟩:=S.toE.get hm;rw[ha]at sV;cases sV
     obtain⟨a9,_,_,_,e9,_,_,f9,_⟩:=me.dict;cases e9
     exact au _ (rf a (by rw[f9];exact ak))
    have key:=Cv hf;have vw:Own X.K (upd (upd H1 z (e6 z [])) a (e6 a (eJ++[(y0,kv,.ref z)]))) ([z]++F) (.d kt2 .i) (.ref z) (.dict []) wM:=t7.frame (K8 m_ _) _ λb hb=>g9 (t9 b hb).2
    have sI:upd (upd (upd H1 z (e6 z [])) a (e6 a (eJ++[(y0,kv,.ref z)]))) z (e6 z [])=upd (upd H1 z (e6 z [])) a (e6 a (eJ++[(y0,kv,.ref z)])):=b2s (by rw[g9 Dn,i6]);refine fin _ ([z]++F) (.ref z) (.dict []) wM ?_ (by rw[rX];exact a4p vG hK) vw t8 (λb hb=>(t9 b hb).1) λH' a' o' d' f' sV me rf zX=>?_
    ·have:=key _ z ⟨e6 z [],trivial⟩ (.dict []) wM (Same.refl _) AK (by rw[sI];exact vw) λb=>aD _
     rw[sI,<-ek,<-rX]at this;exact this
    ·rw[rX,a7N vG hK,ek];exact key H' a' o' d' f' sV me rf zX
   ·exact absurd ((KeysAt.eqv (keysAt t5 c.1 rY) he).mpr fJ) (by
     unfold u7 at hE;rw[cC]at hE;exact hE e he)
 ·rw[aM c]at lN;cases lN
end
def ItV(a:aw)(es:List (D×V×V)):It:=
 ⟨λi H=>H a=cz (e6 a es)/\i<es.length,λi H x H'=>H'=H/\∃e,es[i]?=cz e/\x=e.2.2,λi H=>H a=cz (e6 a es)/\es.length<=i⟩
def b0Q(a it:aw)(es:List (D×V×V))(hk:A1 es):Turn P w K tg (ItV a es) [it] it (λi h=>h.IsValIter it a i es.length es.length) where
 mem:=by simp
 obj:=λi h st b hb=>by
  cases ai.mp hb
  obtain⟨o,e,c,d⟩:=st;exact⟨o,e,λv z=>by rw[d]at z;cases z⟩
 keep:=λi h h' st k=>let⟨o,e,r⟩:=st;⟨o,k it (by simp) o e,r⟩
 item:=by
  intro X hP hw hK hc i pins s Y H E I hf st hg;subst hP hw hK;obtain⟨hH,hi⟩:=hg;obtain⟨kvs,jg,h0,hp,hlen⟩:=G8 I hH hk;have hx:es[i]?=cz es[i]:=ar hi;obtain⟨⟨n,v⟩,zm,g⟩:=D6 hp hx;obtain⟨f0,f1,f2,f3,f4,f5⟩:=hf it (by simp);rw[<-hlen]at st jg;refine wpAny_pyNext_values_item (knd:=c_ X.prog X.w) st jg zm λh' nU sb=>?_
  have I1:Inv X pins Y H {s with heap:=h'}:=I.turned (t':=s.toks) (λb o hb e=>(sb.2 b hb).trans e) f0 f1 f3 f4 f5;rw[hlen]at nU;obtain⟨o,e,c,d⟩:=id nU;exact⟨v,rfl,a5J (s:={s with heap:=h'}) e c d (by decide) ⟨es[i].2.2,H,I1,g.2.2,⟨rfl,es[i],hx,rfl⟩,nU,λb hb=>(hf b hb).1⟩⟩
 done:=by
  intro X hP hw hK hc i pins s Y H E I hf st hg;subst hP hw hK;obtain⟨hH,hi⟩:=hg;obtain⟨kvs,jg,h0,hp,hlen⟩:=G8 I hH hk;obtain⟨f0,f1,f2,f3,f4,f5⟩:=hf it (by simp);rw[<-hlen]at st jg;exact wpAny_pyNext_values_end (knd:=c_ X.prog X.w) (I.ok.hd hc) st jg (dY (by lia)) λh' eb=>⟨rfl,I.turned (t':=s.toks) (λb o hb e=>eb b o hb e) f0 f1 f3 f4 f5⟩
 self:=λ_ _ _ _ _ st h=>wpAny_pyIter_valiter st h
section
variable {X:Cx}{M:List Md}{tg o:Expr}{fa:EvE}{ca:Cat}{apos cf:eO}
def c1L(to:TE):TI:=λY H R=>to Y H λx H1=>∃p es,x=.ref p/\H1 p=cz (e6 p es)/\A1 es/\R (ItV p es) H1
def b5o(ho:PE X o to)(dS:cK o "values" X.env (cg o X.env)=cg o X.env:=by rfl)(dR:(apos.endLine==cf.line)=p4:=by rfl):PI X tg (.Call (.Attribute o "values" apos) [] [] cf) (c1L to):=by
 intro pins s Y H R I h;refine iH dS dR (L2.thn (ho pins s Y H _ I h) λv s1 ⟨x,H1,I1,r1,p,es,ex,hH,hk,q1⟩=>?_);subst ex;obtain rfl:v=bb p:=r1;obtain⟨kvs,jg,h0,hp,hlen⟩:=G8 I1 hH hk;refine⟨"dict","dict.values",ip,gZ,se,k7 I1 hH,M7 I1 hH,fu rfl (jq ?_)⟩;refine Ga gZ (k7 I1 hH) rq (qR _) (meets_dict_values (c_ X.prog X.w) p h0) ⟨⟨kvs,jg.dictOf⟩,?_⟩;refine wpAny_pyIter_values (knd:=c_ X.prog X.w) ⟨_,aF _ rfl,rfl,rfl⟩ (jg.at λ_ e=>ag _ e) ?_;have hz:(s1.heap.push {cls:=.type "dict_values",data:=.fields #[.ref p]}).objs.size=s1.heap.objs.size+1:=cP ..;refine⟨_,[_],_,_,H1,rfl,I1.kept (t':=s1.toks) λb o e=>ag _ (ag _ e),b0Q p _ es hk,⟨_,aF _ rfl,rfl,by rw[hlen];rfl⟩,λb hb=>?_,q1⟩;have e:=ai.mp hb;have jW:s1.heap.objs.size<=b:=by rw[e,hz];exact fF _
 exact I1.fpOk jW (I1.hok.fresh jW)
def a8d:Walks (ItV p es) (λH=>H p=cz (e6 p es)) (es.map (·.2.2)) where
 go:=λi H h hi=>⟨h,by simpa using hi⟩
 stop:=λi H h hi=>⟨h,by simpa using hi⟩
 yld:=λi H x H' h hi y=>by
  obtain⟨e,r,hr,rfl⟩:=y;exact⟨e,by rw[bc,hr];rfl⟩
def iVa(a:EvE):EvA:=λU=>(a U).bind λd=>match d with
 |.dict kvs=>if keysOk rp kvs then cz (kvs.map (·.2)) else el
 |_=>el
def b2Y(h:PX X M o fa ca)(hc:frozen ca:=by trivial)(dS:cK o "values" X.env (cg o X.env)=cg o X.env:=by rfl)(dR:(apos.endLine==cf.line)=p4:=by rfl):PIX X M tg (.Call (.Attribute o "values" apos) [] [] cf) (iVa fa):=by
 obtain⟨t,p,q⟩:=h.out;refine⟨_,b5o p dS dR,λU Y H P F ds R S hf k=>?_⟩;obtain⟨d,h1,h2⟩:=bnd hf;cases d with
 |dict kvs=>
  have jQ:(if keysOk rp kvs then cz (kvs.map (·.2)) else el)=cz ds:=h2;by_cases c:keysOk rp kvs=p4
  ·rw[aH c]at jQ;cases jQ
   refine q U Y H P F _ _ S h1 λv H1 e1 r1=>?_
   obtain⟨aa,es,rfl,k1,k2⟩:=(E9 hc r1).dict_inv;exact⟨aa,es,rfl,i7 _ _ k1,a1W k2 c,k _ _ _ H1 e1 a8d (λH2 e2=>e2 _ _ k1) k2.vals⟩
  ·rw[aM c]at jQ;cases jQ
 |_=>cases h2
end
def eIm(f:EvE):EvE:=λU=>(f U).bind V6
section
variable {X:Cx}{M:List Md}{e:Expr}{f:EvE}{c:Cat}
def b2Z(h:PX X M e f c):PX X M e (eIm f) (.new .i):=by
 obtain⟨t,p,q⟩:=h.out;refine .mk ⟨t,p,λU Y H P F d Q S hf k=>?_⟩;obtain⟨x,h1,h2⟩:=bnd hf;obtain⟨rfl,hi⟩:=R7 h2;exact q U Y H P F _ Q S h1 λv H' e r=>k v H' e (E8 hi r.den (S.lst' e))
def c0e(h:f U=cz d)(hi:imm d=p4):eIm f U=cz d:=by
 unfold eIm;rw[h,bC];unfold V6;rw[aH hi]
end
section
variable {X:Cx}{M:List Md}{a:Expr}{fa:EvE}{ca:Cat}{pos p:eO}
def call_listK(hc:X.calm=p4):CallR X (.type "list") (λxs H Q=>∃p es,xs=[.ref p]/\H p=cz (e6 p es)/\∀l,H l=el->Q (.ref l) (upd H l (.lst (es.map (·.2.1))))):=by
 intro pins s Y H xs us Q I rv h;obtain⟨p,es,rfl,hH,q⟩:=h;obtain⟨u,rfl,rx⟩:=vals1 rv;cases (show u=bb p from rx)
 obtain⟨h0,hl,_,o,ents,ep,r1,r2,r3,hp,_⟩:=a1s I hH;have hlen:=cR hp;have hz:ents.size=es.length:=by rw[hlen,cu]
 refine W.kdl_call (b4V (ep:=ep) h0) (I.ok.hd hc) ⟨o,r1,r2,r3⟩ (by lia) λg1 tq ac cq keep ho qG=>?_
 refine⟨.ref s.heap.objs.size,_,I.laid (t':=tq) keep (aD _) (show ObjOk X.prog X.w _ g1 _ (.lst (es.map (·.2.1))) from⟨by rw[ah];exact hl,ac.toList,cq,?_,by rw[gD];exact ho⟩),rfl,q _ (I.hok.fresh (aD _))⟩;refine a2n (by rw[ah];have z1:=qG.1;have z2:ac.toList.length=ac.size:=cu;lia) λi x u h1 h2=>?_
 rw[bX]at h2;obtain⟨e',h3,rfl⟩:=qG.2 i u h2;rw[bc]at h1;obtain⟨e,he,rfl⟩:=cX.mp h1;obtain⟨kv,g3,g4⟩:=D6 hp he;rw[bX,h3]at g3;cases g3
 exact g4.2.1
def a8e(a:EvE):EvE:=λU=>(a U).bind λd=>match d with
 |.dict kvs=>if g8 (kvs.map (·.1)) then cz (.list (kvs.map (·.1))) else el
 |_=>el
def b3a(hc:X.calm=p4)(hm:X.mg "list"=el)(ha:PX X M a fa ca)(hg:Gl X "list":=by rfl)(he:ax [a] X.env=(rp,cg a X.env)::ax [] X.env:=by rfl)(fM:(cj pos (ax [] X.env)).any (·.1)=rp:=by rfl) :
  PX X M (.Call (.Name "list" p) [a] [] pos) (a8e fa) (.new (.l .i)):=by
 obtain⟨ta,pa,qa⟩:=ha.out;refine .mk ⟨_,N0 (call_listK hc) hg hm PyProof.Rows.Boot.«list» (m5 pa q9 he) (by decide) (by decide) he fM,λU Y H P F d Q S hf q=>?_⟩;obtain⟨x,h1,g1⟩:=bnd hf;cases x with
 |dict kvs=>
  have g2:(if g8 (kvs.map (·.1)) then cz (g_ (kvs.map (·.1))) else el)=cz d:=g1;by_cases c:g8 (kvs.map (·.1))=p4
  ·rw[aH c]at g2;cases g2
   refine qa U Y H P F _ _ S h1 λv H1 e1 r1=>?_
   obtain⟨pp,es,rfl,k1,k2⟩:=r1.den.dict_inv;exact⟨pp,es,rfl,k1,λz hz=>q _ _ (e1.trans (l6 hz _)) (N3 (X4 k2) c e1 hz (S.lst' e1))⟩
  ·rw[aM c]at g2;cases g2
 |_=>cases g1
def b3b(hm:X.mg "len"=el)(ha:PX X M a fa ca)(hg:Gl X "len":=by rfl)(he:ax [a] X.env=(rp,cg a X.env)::ax [] X.env:=by rfl)(fM:(cj pos (ax [] X.env)).any (·.1)=rp:=by rfl) :
  PX X M (.Call (.Name "len" p) [a] [] pos) (eCl b2c (b8 fa f6)) (.new .i):=by
 obtain⟨ta,pa,qa⟩:=ha.out;refine .mk ⟨_,R1 b0f hg hm PySem.boot_len (m5 pa q9 he) (by decide) (by decide) he fM,λU Y H P F d Q S hf q=>?_⟩;obtain⟨xs,h1,h2⟩:=bnd hf;obtain⟨x,h3,h4⟩:=bnd h1;obtain⟨lC,h5,h6⟩:=bnd h4;cases h5
 cases h6
 have hx:∃kvs,x=.dict kvs/\d=.int kvs.length:=by
  cases x with
  |dict kvs=>cases h2;exact⟨kvs,rfl,rfl⟩
  |_=>cases h2
 obtain⟨kvs,rfl,rfl⟩:=hx;refine qa U Y H P F _ _ S h3 λv H1 e1 r1=>?_
 obtain⟨pp,es,rfl,k1,k2⟩:=r1.den.dict_inv;have hlen:kvs.length=es.length:=by have:=dJ eW k2.keys;simpa using this.symm
 refine⟨pp,es,rfl,k1,?_⟩;rw[<-hlen];exact q _ _ e1 (E8 a0N den_int (S.lst' e1))
end
def a8f:D->D->Option D
 |.list ds,y=>if aS ds&&y.canLay0&&decide (y.depth<=150)&&decide (ds.length<1000000) then (ds.findIdx? λd=>aB d y).map λj=>.int (j:Nat) else el
 |_,_=>el
def b8l(K:af):V->List V->Hp->VK->Prop:=λx xs H Q=>∃p ys ds y d j,x=.ref p/\xs=[y]/\SqX K H p ys/\DenAll K H ys ds/\Den K H y d/\aS ds=p4/\d.canLay0=p4/\d.depth<=150/\ds.length<1000000/\(ds.findIdx? λe=>aB e d)=cz j/\Q (.int (j:Nat)) H
section
variable {X:Cx}{M:List Md}{a b:Expr}{fa fb:EvE}{ca cb:Cat}{apos cf:eO}
theorem a0s:∀{l:List D},aS l=p4->e∈l->e.canLay0=p4
 |[],_,he=>(nomatch he)
 |x::l,hl,he=>by
  simp only[aS,ao]at hl;rcases az.mp he with z|z
  ·rw[z];exact hl.1
  ·exact a0s hl.2 z
def b3c(hu:X.A.units+164<cV):MtR X "list.index" (b8l X.K):=by
 intro pins s Y H x xs v us Q I rx rv h;obtain⟨p,ys,ds,y,d,j,rfl,rfl,hp,rS,hd,c1,c2,c3,c4,hj,q⟩:=h;cases (show v=bb p from rx)
 obtain⟨w,rfl,rw⟩:=rv.one;obtain⟨_,cA,n,pY,ho⟩:=hp.ok I;obtain⟨as,ra⟩:=DenAll.reads I ds c1 rS pY;obtain⟨bs,rb⟩:=Den.reads I d c2 hd rw;have hlen:∀{us:List aj} {ds:List D} {as:List aw},jc s.heap us ds as->us.length=ds.length:=by
  intro us ds
  induction ds generalizing us with
  |nil=>intro as r;cases r;rfl
  |cons d0 ds ih=>
   intro as r;cases r with
   |cons r1 r2=>rw[bx,bx,ih r2]
 have hl:=hlen ra;rw[iu]at hj;obtain⟨ua,xG,pM⟩:=hj;have at_:∀m (hm:m<cA.length),b0i s.heap d cA[m]=aB (ds[m]'(by lia)) d:=λm hm=>by
  obtain⟨e,Af,he,re⟩:=T9 ra (ar hm);have mC:ds[m]'(by lia)=e:=by
   rw[ar (by lia)]at he;exact aL he
  rw[a2l re (a0s c1 (bp he)),mC]
 refine mi ti ⟨_,ho,rfl⟩ PySem.F.entry_list_index (PySem.F.args_list_index_2 _ _) (SeqAt.list_indexAt p cA.toArray n el #[] w (b0i s.heap d) j (by simp;lia) (by lia) ?_ λm hm gS=>?_) ⟨ho,λu qW=>?_,⟨.int _,H,I.tok _,⟨_,rfl⟩,q⟩⟩
 ·have:=at_ j (by lia);rw[xG]at this;simpa using this
 ·have:=at_ m (by simpa using hm);have h3:=pM m gS;have h4:aB (ds[m]'(by lia)) d=rp:=by simpa using h3
  rw[h4]at this;simpa using this
 ·obtain⟨j,hj⟩:=bF.mp (show u∈cA by simpa using qW);obtain⟨e,Af,he,re⟩:=T9 ra hj;have hle:=a0s c1 (bp he);rw[a2l re hle];exact r_ e d X.A.in1 s _ _ _ _ re rb hle c2 (by have:=Gg e.depth d.depth;show X.A.units+1+_<_;lia)
def b3d(hu:X.A.units+164<cV)(ha:PX X M a fa ca)(hb:PX X M b fb cb)(dS:cK a "index" X.env (cg a X.env)=cg a X.env:=by rfl)
  (jG:((cj cf (ax [b] X.env)).all (λx=>!x.1)&&(kq cf (gU [] X.env)).all (λx=>x.1.isSome)
   && decide (([b]:List Expr).length+([]:List fV).length+(if ([]:List fV).isEmpty then 0 else 1)<30))=p4:=by rfl)
  (dR:(apos.endLine==cf.line)=p4:=by rfl) (hs:ax [b] X.env=(rp,cg b X.env)::ax [] X.env:=by rfl) (fP:(cj cf (ax [] X.env)).any (·.1)=rp:=by rfl) :
  PX X M (.Call (.Attribute a "index" apos) [b] [] cf) (e2 a8f fa fb) (.new .i):=by
 obtain⟨ta,pa,qa⟩:=ha.out;obtain⟨tb,pb,qb⟩:=hb.out;refine .mk ⟨_,a8I eB ti PySem.F.type_list_index (b3c hu) pa (m5 pb q9 hs) dS jG dR hs fP,λU Y H P F d Q S hf q=>?_⟩;obtain⟨x,y,h1,h2,h3⟩:=A7 hf;have hx:∃ds j,x=.list ds/\(aS ds&&y.canLay0&&decide (y.depth<=150)&&decide (ds.length<1000000))=p4/\(ds.findIdx? λd=>aB d y)=cz j/\d=.int (j:Nat):=by
  cases x with
  |list ds=>
   have pQ:(if (aS ds&&y.canLay0&&decide (y.depth<=150)&&decide (ds.length<1000000))=p4 then (ds.findIdx? λd=>aB d y).map λj=>aG (j:Nat) else el)=cz d:=h3;by_cases c:(aS ds&&y.canLay0&&decide (y.depth<=150)&&decide (ds.length<1000000))=p4
   ·rw[aH c,cX]at pQ;obtain⟨j,z1,z2⟩:=pQ;exact⟨ds,j,rfl,c,z1,z2.symm⟩
   ·rw[aM c]at pQ;cases pQ
  |_=>cases h3
 obtain⟨ds,j,rfl,c,hj,rfl⟩:=hx;rw[ao,ao,ao]at c;refine qa U Y H P F _ _ S h1 λv H1 e1 r1=>?_
 obtain⟨p,xs,rfl,k1,k2⟩:=r1.den.list_inv;refine⟨.inl ⟨rfl,xs,k1.l⟩,qb U Y H1 P F y _ (S.grow e1) h2 λw H2 e2 r2=>?_⟩;exact⟨p,xs,ds,w,y,j,rfl,rfl,T5 k1 e2,k2.up e2,r2.den,c.1.1.1,c.1.1.2,aP c.1.2,aP c.2,hj,q _ H2 (e1.trans e2) (E8 (by simp only[imm]) den_int (S.lst' (e1.trans e2)))⟩
end
def a8g(i:Nat):EvX:=λU=>match U.getD i .none with
 |.list ds=>ds.getLast?.bind λd=>cz (d,U.set i (.list ds.dropLast))
 |_=>el
def a4y(i:Nat)(f:EvX):EvS:=λU=>(f U).bind λp=>cz (.nx (p.2.set i p.1))
def noT(d:D):Option D:=if imm d&&!w6 d then cz d else el
def eNT(f:EvE):EvE:=λU=>(f U).bind noT
def b3e(h:noT d=cz d'):d'=d/\imm d=p4/\∀ds,d≠.tuple ds:=by
 unfold noT at h
 split at h
 ·next c=>
  rw[ao]at c;exact⟨(aL h).symm,c.1,λds e=>by rw[e]at c;exact absurd c.2 aW⟩
 ·cases h
section
variable {X:Cx}{M ML:List Md}{e:Expr}{f:EvE}{c:Cat}{t w:Ty}{us:List Ty}{pos apos cf px:eO}
def a9o(h:PX X M e f c):PX X M e (eNT f) (.new (.tp us)):=by
 obtain⟨tt,p,q⟩:=h.out;refine .mk ⟨tt,p,λU Y H P F d Q S hf k=>?_⟩;obtain⟨x,h1,h2⟩:=bnd hf;obtain⟨rfl,hi,hn⟩:=b3e h2;refine q U Y H P F _ Q S h1 λv H' e r=>k v H' e ?_
 obtain⟨fp,o,n,z⟩:=(E8 hi r.den (S.lst' e):ResR X.K (.new .i) H H' F v d);obtain⟨rfl,w,q⟩:=R5 o;refine⟨[],?_,n,z⟩;simp only[Own];exact .inl ⟨trivial,⟨hi,hn⟩,q⟩
def c0f(h:f U=cz d)(hd:noT d=cz d):eNT f U=cz d:=by
 unfold eNT;rw[h,bC,hd]
def StR.pop(S:StR K M U Y H P F)(hm:M[i]?=cz (.own (.l t)))(hU:U.getD i .none=.list ds)(hd:ds.getLast?=cz d) :
  ∃a xs y,Y[i]?=cz (cz (.ref a))/\H a=cz (.lst xs)/\xs[xs.length-1]?=cz y/\Pend K ([]++[.own t]) ([]++[d]) ([]++[cz y]) M (U.set i (.list ds.dropLast)) Y (upd H a (.lst xs.dropLast)) P F:=by
 obtain⟨G,h1,h2,h3⟩:=S.all;obtain⟨d0,o,f,pre,post,q1,q2,⟨v2,rfl,q3⟩,rfl,q5⟩:=h1.at_ hm;rw[y9 q1]at hU;subst hU;obtain⟨a,xs,fs,rfl,ha,rfl,jZ⟩:=b8c q3;have hl:=jZ.length;rw[List.getLast?_eq_getElem?]at hd;have gS:ds.length-1<ds.length:=(aQ.mp hd).1;obtain⟨y,f',p',r',e1,e2,rfl,e4,e5⟩:=jZ.at_ hd;have wo:ds.drop (ds.length-1+1)=[]:=List.drop_eq_nil_of_le (by lia);rw[wo]at e5;obtain⟨_,rfl⟩:=e5.nil_inv;have m_:a∈F:=h3 a (by simp);have eM:Same (cut H F) (cut (upd H a (.lst xs.dropLast)) F):=λb o' hb=>by
  obtain⟨n1,n2⟩:=o7 hb;exact j7 n1 (by rw[g9 (show b≠a from λz=>n1 (z▸m_))];exact n2)
 have hc:=cy.mp h2 a;have c0:∀l:List aw,l.count a=0->∀b∈l,upd H a (.lst xs.dropLast) b=H b:=λl GR b hb=>g9 λz=>by
  subst z;have:=cZ.mpr hb;lia
 simp only[be,fH,br,bj]at hc;have o1:Own K (upd H a (.lst xs.dropLast)) F t y d f':=e2.frame eM t (c0 f' (by lia));have o2:Own K (upd H a (.lst xs.dropLast)) F (.l t) (.ref a) (.list ds.dropLast) (a::p'):=by
  rw[Own];refine .inr ⟨a,xs.dropLast,ds.dropLast,p',rfl,i6,rfl,rfl,?_⟩;have q:=m4 eM e4 (c0 p' (by lia))
  rwa[<-hl,<-uZ,hl,<-uZ]at q
 have q:=q5 (upd H a (.lst xs.dropLast)) F (.own (.l t)) (.list ds.dropLast) (cz (.ref a)) (a::p') (c0 (pre++post) (by rw[be];lia)) eM ⟨_,rfl,o2⟩;rw[set_same (l:=Y) q2,set_same (l:=M) hm]at q;refine⟨a,xs,y,q2,ha,by rw[hl];exact e1,rfl,rfl,⟨⟨_,k9 (m:=.own t) ⟨y,rfl,o1⟩ q,O3 h2 λb=>?_,λb hb=>h3 b ?_⟩,λb hb=>?_,S.prot.trans eM⟩⟩
 ·simp only[be,br,dc,bj];lia
 ·simp only[ay,az,bj,br]at hb ⊢;rcases hb with z|z|z|z|z<;>simp[z]
 ·by_cases e:b=a
  ·subst e;exact⟨⟨.lst xs.dropLast,trivial⟩,i6⟩
  ·obtain⟨ys,y⟩:=S.lst b hb;exact⟨ys,by rw[g9 e];exact y⟩
def b5p(i:Nat)(hN:X.N[i]?=cz x:=by rfl)(nV:autoParam (NmV X x) ZY._auto_1)(hm:M[i]?=cz (.own (.l t)):=by rfl)(dS:cK (.Name x px) "pop" X.env (cg (.Name x px) X.env)=cg (.Name x px) X.env:=by rfl)(dR:(apos.endLine==cf.line)=p4:=by rfl) :
  PXE X M (.Call (.Attribute (.Name x px) "pop" apos) [] [] cf) (a8g i) t M:=by
 refine⟨_,b1w eB PySem.F.slot_list_pop PySem.F.type_list_pop b7d (C6 hN nV.1 nV.2.1 nV.2.2) dS dR,λU Y H P F d U' Q S hg k=>?_⟩;unfold a8g at hg;cases hU:U.getD i .none with
 |list ds=>
  rw[hU]at hg;obtain⟨d1,h1,g1⟩:=bnd (show (ds.getLast?.bind λd=>cz (d,U.set i (.list ds.dropLast)))=cz (d,U') from hg);cases g1
  obtain⟨a,xs,y,hv,ha,hy,q⟩:=S.pop hm hU h1;exact⟨_,hv,.inl ⟨rfl,xs,SqL.of ha⟩,a,xs,y,rfl,rfl,ha,hy,k y _ F q⟩
 |_=>rw[hU]at hg;cases hg
def b5q(i:Nat)(hN:X.N.Nodup)(he:PXE X M e fx t M1)(hi:X.N[i]?=cz x:=by rfl)(hx:autoParam (Loc X.env.scope x) ZW._auto_1)(hm:M1[i]?=cz m:=by rfl)
  (hs:eU e (cz (.Name x px)) pos.line X.env=pure rp:=by rfl) (hf:autoParam (X.fn x=p4\/X.env.scope.names.lookup x=cz .local) ZV._auto_1):PSX X w ML M (.Assign [.Name x px] e pos) (a4y i fx) (M1.set i (.own t)):=by
 obtain⟨te,pe,qe⟩:=he;refine .mk ⟨_,a7a hN hi hx pe hs hf,λD U Y H P F o S hg k=>?_⟩;obtain⟨⟨d,U'⟩,h1,g1⟩:=bnd hg;cases g1
 exact qe U Y H P F d U' _ S h1 λv H' F' S'=>k _ _ F' (Pend.store (Mp:=[]) (Up:=[]) (Yp:=[]) S' rfl rfl hm).st
end
end VS
namespace VS
open PySem PySem.Spec L2
open PyProof.Rows (slot_list_sort entry_list_sort args_list_sort kind_sorted plain_sorted entry_sorted args_sorted1 IntsAre)
def b0R{kvs:List (Int×aj)}:∀{vs:List aj},vs.length=kvs.length->(∀(i:Nat) (v:aj),vs[i]?=cz v->∃k x,kvs[i]?=cz (k,x)/\(c_ prog w).is k v=p4)->IntsAre vs (kvs.map (·.1)):=by
 induction kvs with
 |nil=>
  intro vs hl _;cases eD.mp hl
  exact .nil
 |cons p kvs ih=>
  intro vs hl h;cases vs with
  |nil=>cases hl
  |cons v vs=>
   obtain⟨k,x,e1,e2⟩:=h 0 v rfl;cases e1
   obtain⟨t,rfl⟩:=qO e2;exact .cons _ _ (ih (by simpa using hl) λi u hu=>h (i+1) u (by simpa using hu))
def a8h{A:bE}{sh:av}(hh:A.handled=el)(h0:(d==cW)=rp)(hm:sh.heap.DictAt (c_ prog w) d kvs ep)(hz:kvs.length<=aU)
  (q:∀(h':bU) (tk:Nat) (vs:List aj),Kept sh.heap h'->sh.heap.objs.size<=h'.objs.size->vs.length=kvs.length->IntsAre vs (kvs.map (·.1))->Q vs {sh with heap:=h',toks:=tk}):aE (a_ prog w) A (collect (.ref d)) Q E sh:=by
 have hd:d<sh.heap.objs.size:=hm.lt_size;unfold collect;refine ab (nh (dQ nc ?_));rw[de pR _];show aE _ A.in1 (newList [] >>= λl=>again (.builtin "list.__iadd__" ⟨[l,.ref d],[]⟩)) _ _ sh;refine ab (dt (ae ⟨fw il _,dQ oR ?_⟩));rw[de il _];show aE _ A.in1 (du (.ref sh.heap.objs.size) (.ref d) (.ref sh.heap.objs.size)) _ _ _;refine dq (W.kdl_extend (A:=A) (s:={sh with heap:=sh.heap.push {cls:=.type "list",data:=.seq ([]:List aj).toArray}})
  (R:=λ(g:Gd) (s':av)=>∃(h':bU) (tk:Nat) (acc:Array aj) (c:Nat),g=.ok (.ret (.ref sh.heap.objs.size))/\s'={sh with heap:=h',toks:=tk}/\
   h'.get? sh.heap.objs.size=cz {cls:=.type "list",dict:=el,data:=.seq acc c,slots:=#[]}/\Q acc.toList {sh with heap:=h',toks:=tk})
  (W.kdl_dict (knd:=c_ prog w) (kvs:=kvs) (ep:=ep) h0) hh (hm.push _) sh.heap.objs.size (et hd) (et hd) (.ref sh.heap.objs.size) 0 (aF _ rfl)
  (λh' tk acc c hk hS mS=>⟨h',tk,acc,c,rfl,rfl,hS,q h' tk _ (λb o x=>hk b o (bg (aK x)) (ag _ x)) (dF (aK hS)) (by rw[cu];exact mS.1)
   (b0R (prog:=prog) (w:=w) (by rw[cu];exact mS.1) λi v hv=>mS.2 i v (by rw[<-bX];exact hv))⟩) hz) (λg s' x=>?_) λe s' x=>?_
 ·cases g with
  |done f=>
   obtain⟨h',tk,acc,c,e,rfl,hS,qq⟩:=x;cases e
   show aE _ A (load sh.heap.objs.size >>= _) _ _ _;exact ab (lY hS (ae qq))
  |again c₁=>
   refine⟨x.1,fQ x.2 λg s₂ y=>?_⟩;obtain⟨h',tk,acc,c,rfl,rfl,hS,qq⟩:=y;show aE _ A (load sh.heap.objs.size >>= _) _ _ _;exact ab (lY hS (ae qq))
 ·obtain⟨_,_,_,_,e',_⟩:=x;cases e'
section
variable {X:Cx}{M:List Md}{a:Expr}{fa:EvE}{ca:Cat}{pos p:eO}
def a6B(hc:X.calm=p4):CallR X (.builtin "sorted") (λxs H Q=>∃p es ns,xs=[.ref p]/\H p=cz (e6 p es)/\A1 es/\es.map (·.1)=ns.map aG/\ns.length<64/\∀z,H z=el->Q (.ref z) (upd H z (.lst ((srt ns).map V.int)))):=by
 intro pins s Y H xs us Q I rv h;obtain⟨p,es,ns,rfl,hH,hk,hn,xU,q⟩:=h;obtain⟨u,rfl,rx⟩:=vals1 rv;cases (show u=bb p from rx)
 obtain⟨kvs,ep,jg,h0,hl,hp⟩:=U1 I hH hk;have hlen:=cR hp;have pB:kvs.map (·.1)=ns:=(List.map_inj_right (f:=aG) λx y e=>by cases e;rfl).mp ((a6e hp).symm.trans hn);have xC:kvs.length=ns.length:=by rw[<-pB,ah]
 refine kS kind_sorted plain_sorted entry_sorted (args_sorted1 _) ?_;unfold Builtin.«sorted»;refine ab (m:=checkCount "sorted" 1 1 _) (ae ?_);refine ab (a8h (A:=X.A.in1) (by simpa using I.ok.hd hc) h0 jg (by rw[cO];lia) λh1 tk vs k1 z1 xw hI=>?_);rw[pB]at hI;refine ab (wpAny_newList ?_ (by rw[cO];lia));have oL:(h1.push (uI "list" vs.toArray 0)).get? h1.objs.size=cz (uI "list" vs.toArray 0):=aF _ rfl;refine ab (bO (bD slot_list_sort ⟨_,oL,rfl⟩ entry_list_sort (pU (s:={s with heap:=h1.push (uI "list" vs.toArray 0),toks:=tk}) oL hI (by lia) λout yt a1 a2 a3=>⟨_,rfl,?_⟩) (args_list_sort _)));obtain⟨e,uq⟩:=qS (out:=out) oL;have qA:H h1.objs.size=el:=I.hok.fresh z1;rw[a2Z a2 a3]at a1;have jP:((srt ns).map V.int).length<=aU:=by rw[ah,(l9 ns).length_eq,cO];lia
 refine ae ⟨_,rfl,.ref h1.objs.size,_,I.laid (a:=h1.objs.size) (o:=.lst ((srt ns).map V.int)) (t':=tk) (λb u hb=>?_) z1 ⟨jP,out.toList,e,vals_ints a1,by rw[gD];exact uq⟩,rfl,q _ qA⟩;have jW:=ag (uI "list" vs.toArray 0) (k1 b u hb);exact (pS (bg (bA (aK hb) z1)) (aK jW)).trans jW
def C0(a:EvE):EvE:=λU=>(a U).bind λd=>match d with
 |.dict kvs=>(intsOf (kvs.map (·.1))).bind λns=>if ns.length<64 then cz (.list ((srt ns).map .int)) else el
 |_=>el
def Z1(hc:X.calm=p4)(hm:X.mg "sorted"=el)(ha:PX X M a fa ca)(hg:Gl X "sorted":=by rfl)(he:ax [a] X.env=(rp,cg a X.env)::ax [] X.env:=by rfl)(fM:(cj pos (ax [] X.env)).any (·.1)=rp:=by rfl) :
  PX X M (.Call (.Name "sorted" p) [a] [] pos) (C0 fa) (.new (.l .i)):=by
 obtain⟨ta,pa,qa⟩:=ha.out;refine .mk ⟨_,R1 (a6B hc) hg hm PyProof.Rows.Boot.«sorted» (m5 pa q9 he) (by decide) (by decide) he fM,λU Y H P F d Q S hf q=>?_⟩;obtain⟨x,h1,g1⟩:=bnd hf;cases x with
 |dict kvs=>
  obtain⟨ns,h2,g2⟩:=bnd (show (intsOf (kvs.map (·.1))).bind _=cz d from g1);by_cases c:ns.length<64
  ·rw[aH c]at g2;cases g2
   have nX:=D7 h2;refine qa U Y H P F _ _ S h1 λv H1 e1 r1=>?_
   obtain⟨pp,es,rfl,k1,k2⟩:=r1.den.dict_inv;have hk:=intKeyed k2 (by
    rw[aY];intro p hp;have:p.1∈ns.map aG:=by rw[<-nX];exact bt hp
    obtain⟨n,_,e⟩:=aX.mp this;rw[<-e];rfl)
   refine⟨pp,es,ns,rfl,k1,hk,by rw[k2.keys];exact nX,c,λz hz=>q _ _ (e1.trans (l6 hz _)) (N3 ?_ (b4P _) e1 hz (S.lst' e1))⟩;have:∀ms:List Int,DenAll X.K H1 (ms.map V.int) (ms.map aG):=DenAll.ints;exact this _
  ·rw[aM c]at g2;cases g2
 |_=>cases g1
end
end VS
namespace L2
open PySem
def Has.u(h:Has P w K mg base x i ps sp)(l:i<=j:=by decide):Has P w K mg base x j ps sp:=h.up l
end L2
namespace VS
open PySem PySem.Spec PyProof.Rows L2
structure DP (K:af) (mg:bI->Option aj) (x:bI) (st:ig):Prop where
 ex:∃f fd,Fun K x x st f fd/\gG K bP x=cz (cz (.ref f))/\mg x=cz (.ref f)
section
variable {P:bB}{w:bQ}{K:af}{mg:bI->Option aj}{base h:bU}{x:bI}{st:ig}{N ps:List bI}{k n:Nat}{us:List Ty}{u wt:Ty}{g:EvS}{sp:Sp}
def c0g{f:aw}{oc:aj}{od an:Option aw}{oZ:Array (Option aj)}{kV doc pm gn ct:aj}(X:K.In h)(G:h.Ns bP mg)(a:gG K bP x=cz (cz (.ref f)))(l:K.lookup f=cz ⟨oc,od,.func (fY x x (T3 st) (y8 st) (j5 st) .none kV doc pm an gn ct),oZ⟩)
  (c:lS K gn x=p4) (k:fT K (.ref f)=p4):DP K mg x st:=⟨_,_,b7e l c k,a,kg X G a⟩
def c1M(X:K.In h)(G:h.Ns bP mg)(a:gG K bP x=cz (cz (.int i t))):∃t,mg x=cz (.int i t):=⟨t,kg X G a⟩
abbrev BBy(x:bI)(st:ig)(ps:List bI):Prop:=∀(kV doc pm:aj) (an:Option aw) (gn ct:aj) (us:List aj),us.length=ps.length->qN (fY x x (T3 st) (y8 st) (j5 st) .none kV doc pm an gn ct) ⟨us,[]⟩=pure (ps.zip us)
def n9(d:DP K mg x st)(h:∀f fd,Fun K x x st f fd->FnOk P w K mg base CX0 k f fd ps sp)(b:BBy x st ps:=by intro _ _ _ _ _ _ us hl;first|(obtain⟨_,rfl⟩:=b9Z hl;rfl)|(obtain⟨_,_,rfl⟩:=b4W hl;rfl)|(obtain⟨_,_,_,rfl⟩:=c0a hl;rfl)|(obtain⟨_,_,_,_,rfl⟩:=c1G hl;rfl)|(obtain⟨_,_,_,_,_,rfl⟩:=c1H hl;rfl)|(obtain⟨_,_,_,_,_,_,rfl⟩:=c1I hl;rfl)):Has P w K mg base x k ps sp:=by
 obtain⟨f,fd,F,a,m⟩:=d.ex;exact⟨f,fd,h f fd F,F.binds b,F.kp,m⟩
def b5r(d:DP K mg x st)(h:∀f fd,Fun K x x st f fd->gG K bP x=cz (cz (.ref f))->FnOk P w K mg base CX0 k f fd ps sp)(b:BBy x st ps:=by intro _ _ _ _ _ _ us hl;first|(obtain⟨_,rfl⟩:=b9Z hl;rfl)|(obtain⟨_,_,rfl⟩:=b4W hl;rfl)|(obtain⟨_,_,_,rfl⟩:=c0a hl;rfl)):Has P w K mg base x k ps sp:=by
 obtain⟨f,fd,F,a,m⟩:=d.ex;exact⟨f,fd,h f fd F a,F.binds b,F.kp,m⟩
def fnF(F:Fun K x x st f fd)(N:List bI)(hb:∀(S:FnScope N ps (j5 st)) (gn:aj) (A:bE) (outer:List oS) (s:av) (H:Hp) (E:XK),Room k (A.deeper (jm x (j5 st) s.heap.objs.size f gn))->PSsX (a0D CX0 P w K mg base N x (j5 st) f gn A outer s H E).nox u [] (us.map .own++aR n .dead) (y8 st) g [])
  (S:FnScope N ps (j5 st):=by exact⟨rfl,rfl,rfl,by decide +kernel,rfl,by decide +kernel,by decide +kernel⟩) (mP:us.length=ps.length:=by rfl) (hn:N.length=ps.length+n:=by rfl):FnOk P w K mg base CX0 (k+1) f fd ps (spD K ps.length (fnD us n g) u):=b4D F S mP hn (hb S)
def c0h(F:Fun K x x st f fd)(N:List bI)(M':List Md)(hb:∀(S:FnScope N ps (j5 st)) (gn:aj) (A:bE) (outer:List oS) (s:av) (H:Hp) (E:XK),Room k (A.deeper (jm x (j5 st) s.heap.objs.size f gn))->PSsX (a0D CX0 P w K mg base N x (j5 st) f gn A outer s H E).nox .i [] (us.map .own++aR n .dead) (y8 st) g M')
  (S:FnScope N ps (j5 st):=by exact⟨rfl,rfl,rfl,by decide +kernel,rfl,by decide +kernel,by decide +kernel⟩) (mP:us.length=ps.length:=by rfl) (hn:N.length=ps.length+n:=by rfl):FnOk P w K mg base CX0 (k+1) f fd ps (spD K ps.length (fnN us n g) .i):=b2a F S mP hn (hb S)
def c0i{Φ:(List D->Option D)->Hp->V->Prop}{g:(List D->Option D)->EvS}(F:Fun K x x st f fd)(N:List bI)(hb:∀(S:FnScope N ps (j5 st)) (gm:List D->Option D) (gn:aj) (A:bE) (outer:List oS) (s:av) (H:Hp) (E:XK),Room k (A.deeper (jm x (j5 st) s.heap.objs.size f gn))->PSsX (a0D CX0 P w K mg base N x (j5 st) f gn A outer s H E).nox u [] (us.map .own++(.fn (Φ gm)::aR n .dead)) (y8 st) (g gm) [])
  (S:FnScope N ps (j5 st):=by exact⟨rfl,rfl,rfl,by decide +kernel,rfl,by decide +kernel,by decide +kernel⟩) (mP:us.length+1=ps.length:=by rfl) (hn:N.length=ps.length+n:=by rfl) (hj:j=us.length:=by rfl):FnOk P w K mg base CX0 (k+1) f fd ps (spL K j Φ (fnL us n g) u):=hj▸b2y (M':=λ_=>[]) F S mP hn (hb S)
def c1N(F:Fun K x x st f fd)(N:List bI)(lt:(E2 K x).isSome=p4)(X:K.In base)(G:base.Ns bP mg)(a:gG K bP x=cz (cz (.ref f)))(hb:∀(S:FnScope N ps (j5 st)) (c:aw) (p:aw) (hc:fd.code=.ref c) (hp:E2 K x=cz p) (hd:gB base c p) (A:bE) (outer:List oS) (s:av) (H:Hp) (E:XK),Room k (A.deeper (jm x (j5 st) s.heap.objs.size f fd.code))->PSsX (a0D CX0 P w K mg base N x (j5 st) f fd.code A outer s H E).nox u [] (us.map .own++aR n .dead) (y8 st) g [])
  (S:FnScope N ps (j5 st):=by exact⟨rfl,rfl,rfl,by decide +kernel,rfl,by decide +kernel,by decide +kernel⟩) (mP:us.length=ps.length:=by rfl) (hn:N.length=ps.length+n:=by rfl):FnOk P w K mg base CX0 (k+1) f fd ps (spD K ps.length (fnD us n g) u):=by
 obtain⟨oc,od,kV,doc,pm,an,gn,ct,oZ,e,lk,mZ⟩:=F.ex;obtain⟨c,p,h1,h2,h3⟩:=b2C lt X G a lk;exact b2B F S mP hn (hb S c p h1 h2 h3)
def b8m(zB:mg x=cz (.ref fa))(d:DP K mg x st)(h:∀base:bU,K.In base->base.Ns bP mg->∀fd,Fun K x x st fa fd->FnOk P w K mg base CX0 k fa fd [p] sp)(b:∀(kV doc pm:aj) (an:Option aw) (gn ct v:aj),qN (fY x x (T3 st) (y8 st) (j5 st) .none kV doc pm an gn ct) ⟨[v],[]⟩=pure [(p,v)]:=by intros;rfl) :
  ∃fd:dE,(∀(s:av) (v:aj),og s fd ⟨[v],[]⟩ [(p,v)])/\∀base:bU,K.In base->base.Ns bP mg->FnOk P w K mg base CX0 k fa fd [p] sp:=by
 obtain⟨f,fd,F,a,m⟩:=d.ex;rw[zB]at m;cases m
 refine⟨fd,λs v=>?_,λbase X G=>h base X G fd F⟩;obtain⟨oc,od,kV,doc,pm,an,gn,ct,oZ,rfl,lk,mZ⟩:=F.ex;exact .of_eq (b kV doc pm an gn ct v)
end
section
variable {X:Cx}{M:List Md}{e e0:Expr}{es:List Expr}{fe:EvE}{f:EvA}{c:Cat}{u:Ty}{pos p:eO}{x:bI}
abbrev mdF:Md:=.own .f
abbrev mdI:Md:=.own .i
abbrev mdD:Md:=.dead
def c7(i:Nat)(hN:X.N[i]?=cz x:=by rfl)(hv:autoParam (NmV X x) ZY._auto_1)(hm:M[i]?=cz (.own .f):=by rfl):PX X M (.Name x pos) (b7 i) (.bor .f):=z8 i hN hv hm
def e7(i:Nat)(hN:X.N[i]?=cz x:=by rfl)(hv:autoParam (NmV X x) ZY._auto_1)(hm:M[i]?=cz (.own .i):=by rfl):PX X M (.Name x pos) (b7 i) (.bor .i):=z8 i hN hv hm
def G9(i:Nat)(hN:X.N[i]?=cz x:=by rfl)(hv:autoParam (NmV X x) ZY._auto_1)(hm:M[i]?=cz (.own (.l .i)):=by rfl):PX X M (.Name x pos) (b7 i) (.bor (.l .i)):=z8 i hN hv hm
def C1(i:Nat)(hN:X.N.Nodup)(hi:X.N[i]?=cz x:=by rfl)(hx:autoParam (Loc X.env.scope x) ZW._auto_1)(hf:autoParam (X.fn x=p4\/X.env.scope.names.lookup x=cz .local) ZZ._auto_1):PG X (.Name x pos) (R0 i):=o3 hN hi hx hf
def B8(hm:X.mg "len"=el)(h:PX X M e fe c)(hg:Gl X "len":=by rfl)(he:ax [e] X.env=(rp,cg e X.env)::ax [] X.env:=by rfl)(fM:(cj pos (ax [] X.env)).any (·.1)=rp:=by rfl):PX X M (.Call (.Name "len" p) [e] [] pos) (eCl A8 (b8 fe f6)) (.new .i):=a5h b7j hm PySem.boot_len (i5 h m7 he) hg (by decide) (by decide) he fM
def C2(W:Has X.prog X.w X.K X.mg X.base x k ps (spD X.K n m u))(hr:Room k X.A)(h:PAX X M (e0::es) f)(hu:u.shut=p4:=by rfl)(hl:(e0::es).length=n:=by rfl)(hfl:∀U ds,f U=cz ds->ds.length=(e0::es).length:=by first|exact i8 A9|exact i8 (i8 A9)|exact i8 (i8 (i8 A9))|exact i8 (i8 (i8 (i8 A9)))|exact i8 (i8 (i8 (i8 (i8 A9)))))
  (hg:Gl X x:=by rfl) (ma:(x==("__debug__":bI))=rp:=by decide) (he:ax (e0::es) X.env=(rp,cg e0 X.env)::ax es X.env:=by rfl) (fM:(cj pos (ax es X.env)).any (·.1)=rp:=by rfl) :
  PX X M (.Call (.Name x p) (e0::es) [] pos) (eCl m f) (.new u):=b4x W hr h hu hl hfl hg ma he fM
def E6(hu:X.A.units+164<cV:=by exact Room.units (by assumption)):OpS X (bW .Eq) dEq:=os_eq hu
def Q8(hu:X.A.units+164<cV:=by exact Room.units (by assumption)):OpS X (bW .NotEq) dNe:=b9t hu
end
end VS
namespace VS
open PySem L2
section
variable {a b c:EvE}{U:List D}{d x y:D}
def chE(g':D->D->Option D):Option D->Option D->EvE->List D->Option D
 |some (.bool p4),cz y,c,U=>l2 g' (cz y) (c U)
 |some (.bool rp),cz _,_,_=>cz (.bool rp)
 |_,_,_,_=>el
def c1O:eCh g g' a b c U=chE g' (l2 g (a U) (b U)) (b U) c U:=by
 unfold eCh;cases a U with
 |none=>rfl
 |some x=>
  cases b U with
  |none=>rfl
  |some y=>
   show (g x y).bind _=chE g' (g x y) (cz y) c U;cases g x y with
   |none=>rfl
   |some z=>
    cases z with
    |bool k=>
     cases k with
     |false=>rfl
     |true=>cases h:c U<;>simp[chE,asB,h,l2]
    |_=>rfl
def c0j:chE g' (cz (.bool p4)) (cz y) c U=l2 g' (cz y) (c U):=rfl
def c0k:chE g' (cz (.bool rp)) (cz y) c U=cz (.bool rp):=rfl
def c1P:(p4==p4)=p4:=rfl
def c1Q:(p4==rp)=rp:=rfl
def c1R:(rp==p4)=rp:=rfl
def c1S:(rp==rp)=p4:=rfl
def c1T:(p4 !=p4)=rp:=rfl
def c1U:(p4 !=rp)=p4:=rfl
def c1V:(rp !=p4)=p4:=rfl
def c1W:(rp !=rp)=rp:=rfl
def trB:tr (.bool k)=cz k:=rfl
def c0l:asB (.bool k)=cz k:=rfl
def b3f:isN .none=p4:=rfl
def b5s:isN (.int i)=rp:=rfl
def b3g:isN (.bool i)=rp:=rfl
def b3h:isN (.list ds)=rp:=rfl
def b5t:isN (.tuple ds)=rp:=rfl
def b8n:J1 k x .none=cz (.bool (k !=isN x)):=rfl
def b0S:isInt (.int i)=p4:=rfl
def a8i:isInt (.bool i)=p4:=rfl
def a8j:isInt .none=rp:=rfl
def a8k:isInt (.list ds)=rp:=rfl
def b0T:isInt (.tuple ds)=rp:=rfl
def b0U:isInt (.str s)=rp:=rfl
def a8l:isInt (.dict s)=rp:=rfl
def a8m:isBool (.int i)=rp:=rfl
def a6C:isBool (.bool i)=p4:=rfl
def a6D:isBool .none=rp:=rfl
def a6E:isBool (.list ds)=rp:=rfl
def a8n:isBool (.tuple ds)=rp:=rfl
def a8o:isBool (.str s)=rp:=rfl
def a6F:isBool (.dict s)=rp:=rfl
def isList_list:isList (.list ds)=p4:=rfl
def isList_int:isList (.int i)=rp:=rfl
def a6G:isList .none=rp:=rfl
def isList_bool:isList (.bool i)=rp:=rfl
def a8p:isList (.tuple ds)=rp:=rfl
def isList_str:isList (.str s)=rp:=rfl
def isList_dict:isList (.dict s)=rp:=rfl
def a6H:w6 (.tuple ds)=p4:=rfl
def isTuple_list:w6 (.list ds)=rp:=rfl
def isTuple_int:w6 (.int i)=rp:=rfl
def lIs:Option D->Option D
 |some d=>b1L d
 |none=>el
def b3i:eI a U=lIs (a U):=by unfold eI;cases a U<;>rfl
def a6I(h:g8 ds=p4):lIs (cz (.list ds))=cz (.list ds):=by
 show (if g8 ds=p4 then cz (g_ ds) else el)=_;rw[aH h]
def b3j:Option D->Option D
 |some (.list ds)=>cz (.list ds)
 |some (.tuple ds)=>cz (.list ds)
 |_=>el
def a9p:a0d a U=b3j (a U):=by
 unfold a0d;cases a U with
 |none=>rfl
 |some d=>cases d<;>rfl
def c0m:b3j (cz (.list ds))=cz (.list ds):=rfl
def c0n:b3j (cz (.tuple ds))=cz (.list ds):=rfl
def lL:Option D->Option (List D)
 |some d=>asL d
 |none=>el
def b5u:iL a U=lL (a U):=by unfold iL;cases a U<;>rfl
def c1X:lL (cz (.list ds))=cz ds:=rfl
def lII:Option (List D)->Option (List D)
 |some ds=>if g8 ds then cz ds else el
 |none=>el
def c0o:iI f U=lII (f U):=by unfold iI;cases f U<;>rfl
def V7(h:f U=cz ds)(hi:g8 ds=p4):iI f U=cz ds:=by rw[c0o,h];show (if g8 ds=p4 then cz ds else el)=_;rw[aH hi]
def L8{ds:List D}(h:ds.length<1000000):a7x i (.list ds) (cz d) U=cz (.nx (U.set i (.list (ds++[d])))):=b7M h
def b8o:v4 i U d=cz (U.set i d):=rfl
def b8p:a5j i j U (.tuple [x,y])=cz ((U.set i x).set j y):=rfl
def c0p:pt1 d=cz [d]:=rfl
def c0q:pt2 (.tuple [x,y])=cz [x,y]:=rfl
def c1Y:tT U=cz p4:=rfl
end
def a2p(P:List D->Prop)(h1:∃U,o=cz (.nx U)/\P U)(h2:∀U,P U->a2O (s U)=R):a2O (thn o s)=R:=by
 obtain⟨U,rfl,h⟩:=h1;exact h2 U h
def S9{R:Option D->Prop}(P:List D->Prop)(h1:∃U,o=cz (.nx U)/\P U)(h2:∀U,P U->R (a2O (s U))):R (a2O (thn o s)):=by
 obtain⟨U,rfl,h⟩:=h1;exact h2 U h
theorem a6J(f:D->D):∀{ds:List D},(∀d∈ds,∃bs,pt d=cz bs/\g (bs++cs)=cz (f d))->P6 pt tT g cs ds=cz (ds.map f)
 |[],_=>rfl
 |d::ds,h=>by
  obtain⟨bs,h1,h2⟩:=h d ak;have ih:=a6J f (ds:=ds) λe he=>h e (aq _ he)
  show (pt d).bind _=_;rw[h1];show (g (bs++cs)).bind _=_;rw[h2];show (P6 pt tT g cs ds).bind _=_;rw[ih];rfl
def b8q{js:List Nat}(f:D->D)(hf:fi U=cz ds)(hl:ds.length<=1000000)(h:∀d∈ds,∃bs,pt d=cz bs/\g (bs++js.map λj=>U.getD j .none)=cz (f d)) :
  l0 fi js pt tT g U=cz (.list (ds.map f)):=by
 unfold l0;rw[hf];show (if ds.length<=1000000 then _ else el)=_;rw[aH hl,a6J f h];rfl
theorem m3(f:α->D)(h:∀x,imm (f x)=p4):∀xs:List α,g8 (xs.map f)=p4
 |[]=>by simp only[cY,g8]
 |x::xs=>by simp only[aA,g8,h x,m3 f h xs,eZ]
end VS
namespace Prog
open PySem L2 VS
abbrev iD(ns:List Int):D:=.list (ns.map .int)
end Prog
namespace VS
open PySem L2
mutual
theorem eqv_refl:∀d:D,d.canLay0=p4->aB d d=p4
 |.none,_=>by simp[aB]
 |.bool b,_=>by simp[aB]
 |.int i,_=>by simp[aB]
 |.str x,_=>by simp[aB]
 |.list xs,h=>by
  simp only[cE]at h;simp only[aB];exact eqvAll_refl xs h
 |.tuple xs,h=>by
  simp only[cE]at h;simp only[aB];exact eqvAll_refl xs h
 |.dict _,h=>by simp[cE]at h
theorem eqvAll_refl:∀xs:List D,aS xs=p4->cQ xs xs=p4
 |[],_=>by simp only[cQ]
 |x::xs,h=>by
  simp only[aS,ao]at h;simp only[cQ,ao];exact⟨eqv_refl x h.1,eqvAll_refl xs h.2⟩
end
def b6l{a b:D}(ha:a.canLay0=p4)(hb:b.canLay0=p4)(hd:a.depth<=150):dEq a b=cz (.bool (aB a b)):=by
 unfold dEq a9Q;rw[ha,hb,aI hd];simp
def b3k{a b:D}(ha:a.canLay0=p4)(hb:b.canLay0=p4)(hd:a.depth<=150):dNe a b=cz (.bool (!aB a b)):=by
 unfold dNe a9Q;rw[ha,hb,aI hd];simp
def c0r{a:D}(ha:a.canLay0=p4)(hd:a.depth<=150):dEq a a=cz (.bool p4):=by rw[b6l ha ha hd,eqv_refl a ha]
def b3l{a:D}(ha:a.canLay0=p4)(hd:a.depth<=150):dNe a a=cz (.bool rp):=by rw[b3k ha ha hd,eqv_refl a ha];rfl
theorem M8(f:α->D)(h:∀x,(f x).canLay0=p4):∀xs:List α,aS (xs.map f)=p4
 |[]=>by simp only[cY,aS]
 |x::xs=>by simp only[aA,aS,h x,M8 f h xs,eZ]
theorem N5(f:α->D)(n:Nat)(h:∀x,(f x).depth<=n):∀xs:List α,dB (xs.map f)<=n
 |[]=>by simp only[cY,dB];exact b_ _
 |x::xs=>by
  simp only[aA,dB];exact Nat.max_le.mpr ⟨h x,N5 f n h xs⟩
def U5:(aG i).canLay0=p4:=by simp only[cE]
def K0:(aG i).depth=0:=by simp only[fq]
def lay_ints(ns:List Int):(g_ (ns.map .int)).canLay0=p4:=by
 simp only[cE];exact M8 _ (λ_=>U5) ns
def a0t(ns:List Int):(g_ (ns.map .int)).depth<=1:=by
 simp only[fq];have:=N5 aG 0 (λx=>by rw[K0];exact aD _) ns;lia
theorem a3m:∀(xs ys:List Int),cQ (xs.map aG) (ys.map aG)=decide (xs=ys)
 |[],[]=>by simp[cQ]
 |[],_::_=>by simp[cQ]
 |_::_,[]=>by simp[cQ]
 |x::xs,y::ys=>by
  have:aB (.int x) (.int y)=decide (x=y):=by
   show (x==y)=decide (x=y);exact iO x y
  simp only[aA,cQ,this,a3m xs ys,Ht];by_cases h1:x=y<;>by_cases h2:xs=ys<;>simp[h1,h2]
def b6m{xs ys:List Int}:dEq (.list (xs.map .int)) (.list (ys.map .int))=cz (.bool (decide (xs=ys))):=by
 rw[b6l (lay_ints _) (lay_ints _) (bL (a0t _) (by decide))];simp only[aB,a3m]
def c0s:Option D->Option D->Option D
 |some (.list ds),cz (.list es)=>if ds.length+es.length<=aU then cz (.list (ds++es)) else el
 |_,_=>el
def c0t:a9V a b U=c0s (a U) (b U):=by
 unfold a9V;cases a U with
 |none=>rfl
 |some x=>
  cases x with
  |list ds=>
   cases b U with
   |none=>rfl
   |some y=>cases y<;>rfl
  |_=>cases b U<;>rfl
def b8r{ds es:List D}(h:ds.length+es.length<=16777216):c0s (cz (.list ds)) (cz (.list es))=cz (.list (ds++es)):=by
 show (if ds.length+es.length<=aU then _ else _)=_;rw[aH (show ds.length+es.length<=aU from h)]
def lSl:Option D->Option (Option Int)->Option (Option Int)->Option D
 |some (.list ds),cz l,cz h=>cz (.list (cutD ds l h))
 |_,_,_=>el
def c1Z:eSl a lo hi U=lSl (a U) (lo U) (hi U):=by
 unfold eSl;cases a U with
 |none=>rfl
 |some x=>
  cases x with
  |list ds=>
   cases lo U with
   |none=>rfl
   |some y=>cases hi U<;>rfl
  |_=>cases lo U<;>cases hi U<;>rfl
def c0u:lSl (cz (.list ds)) (cz l) (cz h)=cz (.list (cutD ds l h)):=rfl
def c0v:oNo U=cz el:=rfl
def lO:Option D->Option (Option Int)
 |some (.int i)=>cz (cz i)
 |_=>el
def c0w:oSo a U=lO (a U):=by
 unfold oSo;cases a U with
 |none=>rfl
 |some x=>cases x<;>rfl
def c2a:lO (cz (.int i))=cz (cz i):=rfl
def b8s{ds:List D}{k:Int}(h0:0<=k)(h1:k<=ds.length):cutD ds (cz k) el=ds.drop k.toNat:=by
 unfold cutD HT.sIx;simp only[aM (show ¬ k<0 by lia),Ho (show k.toNat<=ds.length by lia)];exact List.take_of_length_le (by rw[kD];exact aD _)
theorem a4z(f:α->Bool):∀xs:List α,a1J (xs.map λx=>dh (f x))=cz (xs.map f)
 |[]=>rfl
 |x::xs=>by
  show (a1J (xs.map λx=>dh (f x))).map (f x::·)=_;rw[a4z f xs];rfl
def v_all(f:α->Bool)(xs:List α):a9S [.list (xs.map λx=>dh (f x))]=cz (.bool (xs.all f)):=by
 show (a1J (xs.map λx=>dh (f x))).map (λbs=>dh (bs.all id))=_;rw[a4z];simp[List.all_map]
def b5v{xs:List Int}:lIs (cz (.list (xs.map .int)))=cz (.list (xs.map .int)):=a6I (w8 _)
def c0x:Option D->Option D
 |some (.list ds)=>V6 (.tuple ds)
 |some (.tuple ds)=>V6 (.tuple ds)
 |_=>el
def a0u:B3 a U=c0x (a U):=by
 unfold B3;cases a U with
 |none=>rfl
 |some d=>cases d<;>rfl
def O7{xs:List Int}:c0x (cz (.list (xs.map .int)))=cz (.tuple (xs.map .int)):=a6b (by simp only[imm];exact w8 xs)
def a2q:aB (.int x) (.int y)=decide (x=y):=by
 show (x==y)=decide (x=y);exact iO x y
def at0{α:Type}{x:α}{xs:List α}:L2.atI (x::xs) 0=cz x:=by
 unfold L2.atI ixN;rw[aH (by decide),aH (by simp only[bx];lia)];rfl
def at1{α:Type}{x y:α}{xs:List α}:L2.atI (x::y::xs) 1=cz y:=by
 unfold L2.atI ixN;rw[aH (by decide),aH (by simp only[bx];lia)];rfl
def L1{enc:α->D}{set:List D->D->Option (List D)}{xs:List α}(I:List α->List D->Prop)(h0:I [] U)
  (step:∀pre x post,xs=pre++x::post->∀U,I pre U->∃U1 U2,set U (enc x)=cz U1/\g U1=cz (.nx U2)/\I (pre++[x]) U2) :
  ∃U',L6 set g (xs.map enc) U=cz (.nx U')/\I xs U':=by
 have key:∀(post pre:List α) (U:List D),xs=pre++post->I pre U->∃U',L6 set g (post.map enc) U=cz (.nx U')/\I xs U':=by
  intro post
  induction post with
  |nil=>
   intro pre U e h;rw[bj]at e;subst e;exact⟨U,rfl,h⟩
  |cons x post ih=>
   intro pre U e h;obtain⟨U1,U2,h1,h2,h3⟩:=step pre x post e U h;obtain⟨U',h4,h5⟩:=ih (pre++[x]) U2 (by rw[e,ba];rfl) h3;refine⟨U',?_,h5⟩;show (set U (enc x)).bind _=_;rw[h1];show (g U1).bind _=_;rw[h2];exact h4
 exact key xs [] U rfl h0
def a1w:G5 0 n=(aJ n).map λ(k:Nat)=>aG k:=by
 unfold G5;refine cn λk _=>?_
 show aG (0+(k:Int))=.int k;rw[Int.zero_add]
def a1Y(h:aJ n=pre++x::post):x=pre.length/\x<n/\pre=aJ x:=by
 have hx:(aJ n)[pre.length]?=cz x:=by rw[h];simp
 have gS:pre.length<n:=by have:=dJ eW h;simp at this;lia
 rw[mn gS]at hx;have e:x=pre.length:=(aL hx).symm;refine⟨e,by lia,?_⟩;have:=dJ (List.take pre.length) h;rw[List.take_append_of_le_length (aD _),kA,List.take_range,Ho (by lia)]at this;rw[e,this]
def B0{set:List D->D->Option (List D)}(I:Nat->List D->Prop)(h0:I 0 U)
  (step:∀k,k<n->∀U,I k U->∃U1 U2,set U (.int k)=cz U1/\g U1=cz (.nx U2)/\I (k+1) U2) :
  ∃U',L6 set g (G5 0 n) U=cz (.nx U')/\I n U':=by
 rw[a1w];obtain⟨U',h1,h2⟩:=L1 (enc:=λ(k:Nat)=>aG k) (set:=set) (g:=g) (xs:=aJ n) (U:=U) (λpre U=>I pre.length U) h0 λpre x post e U h=>by
  obtain⟨e1,e2,_⟩:=a1Y e;subst e1;obtain⟨U1,U2,a,b,c⟩:=step pre.length e2 U h;exact⟨U1,U2,a,b,by rw[aN];exact c⟩
 rw[cL]at h2;exact⟨U',h1,h2⟩
def big:Int:=10^60
def b3m:1000<big:=by decide
abbrev l8:=List (List (Int×Int))
def stD(p:Int×Int):D:=.tuple [.int p.1,.int p.2]
def rwD(r:List (Int×Int)):D:=.list (r.map stD)
def rowAt(m:l8)(s:Int):List (Int×Int):=m.getD s.toNat []
def stp(m:l8)(s a:Int):Int×Int:=(rowAt m s).getD a.toNat (0,0)
structure WF (m:l8) (k:Nat):Prop where
 pos:0<m.length
 le:m.length<=30
 k1:1<=k
 k5:k<=5
 rows:∀r∈m,r.length=k
 next:∀r∈m,∀p∈r,0<=p.2/\p.2<(m.length:Int)
def a4A{m:l8}{s:Int}(h0:0<=s)(h1:s<m.length):rowAt m s∈m:=by
 unfold rowAt;rw[aT,ar (by lia)];exact cH _
def WF.row{m:l8}{k:Nat}(w:WF m k){s:Int}(h0:0<=s)(h1:s<m.length):(rowAt m s).length=k:=w.rows _ (a4A h0 h1)
def b5w{m:l8}{k:Nat}(w:WF m k){s a:Int}(h0:0<=s)(h1:s<m.length)(h2:0<=a)(h3:a<k):stp m s a∈rowAt m s:=by
 have:=w.row h0 h1;unfold stp;rw[aT,ar (by lia)];exact cH _
def WF.nx{m:l8}{k:Nat}(w:WF m k){s a:Int}(h0:0<=s)(h1:s<m.length)(h2:0<=a)(h3:a<k):0<=(stp m s a).2/\(stp m s a).2<(m.length:Int):=w.next _ (a4A h0 h1) _ (b5w w h0 h1 h2 h3)
def b3n{m:l8}{s:Int}(h0:0<=s)(h1:s<m.length):L2.atI (m.map rwD) s=cz (rwD (rowAt m s)):=by
 rw[a2Q h0 (by rw[ah];exact h1),gI];unfold rowAt;rw[aT,ar (by lia)];rfl
def b8t{r:List (Int×Int)}{a:Int}(h0:0<=a)(h1:a<r.length):dIx (rwD r) (.int a)=cz (stD (r.getD a.toNat (0,0))):=by
 show L2.atI (r.map stD) a=_;rw[a2Q h0 (by rw[ah];exact h1),gI,aT,ar (by lia)];rfl
def c0y:dIx (stD p) (.int 0)=cz (.int p.1):=rfl
def c0z:dIx (stD p) (.int 1)=cz (.int p.2):=rfl
def a8q:imm (stD p)=p4:=by unfold stD;simp only[imm,g8,eZ]
def b8u:V6 (stD p)=cz (stD p):=a6b a8q
def b5x:V6 (.int i)=cz (.int i):=a6b a0N
def c0A:A8 [rwD r]=cz (.int r.length):=by
 show cz (aG ((r.map stD).length:Nat))=_;rw[ah]
def b5y:b1W i j (cz (stD p)) U=cz (.nx ((U.set i (.int p.1)).set j (.int p.2))):=rfl
def b8v(p:Int×Int):(stD p).canLay0=p4:=by unfold stD;simp[cE,aS]
def b8w(r:List (Int×Int)):(rwD r).canLay0=p4:=by unfold rwD;simp only[cE];exact M8 _ b8v r
def b3o(m:l8):(g_ (m.map rwD)).canLay0=p4:=by simp only[cE];exact M8 _ b8w m
def b3p(p:Int×Int):(stD p).depth<=1:=by unfold stD;simp[fq,dB]
def b3q(r:List (Int×Int)):(rwD r).depth<=2:=by
 unfold rwD;simp only[fq];have:=N5 stD 1 b3p r;lia
def a8r(m:l8):(g_ (m.map rwD)).depth<=150:=by
 simp only[fq];have:=N5 rwD 2 b3q m;lia
def b8x:Option Out->Option D
 |some (.rt d)=>cz d
 |some (.nx _)=>cz .none
 |_=>el
def b6n(h:argsOk us ds=p4):fnN us n g ds=b8x (g (ds++aR n .none)):=by
 unfold fnN;rw[aH h];cases g (ds++aR n .none) with
 |none=>rfl
 |some o=>cases o<;>rfl
def a5s:b8x (cz (.nx U))=cz .none:=rfl
def a5t:b8x (cz (.rt d))=cz d:=rfl
def b8y:b3j (cz (rwD r))=cz (rwD r):=rfl
def c0B:lIs (cz (rwD r))=cz (rwD r):=a6I (m3 _ (λ_=>a8q) r)
def b8z{m:l8}(h:a U=cz (.list (m.map rwD)))(hl:m.length<=1000):l0 (iL a) [] pt1 tT (eI (a0d (b7 0))) U=cz (.list (m.map rwD)):=by
 rw[b8q (ds:=m.map rwD) id]
 ·rw[List.map_id]
 ·rw[b5u,h];rfl
 ·rw[ah];lia
 ·intro d hd;obtain⟨r,_,rfl⟩:=aX.mp hd;refine⟨_,rfl,?_⟩;show eI (a0d (b7 0)) [rwD r]=cz (rwD r);rw[b3i,a9p];show lIs (b3j (cz (rwD r)))=_;rw[b8y,c0B]
end VS
namespace Prog
open PySem L2 VS
def top(i:Nat):ig:=PySem.Challenge.pw_probewell_k48_trees_to_the_letter.main.body.getD i (.Pass ⟨0,0,0,0⟩)
structure Bn (K:af) (mg:bI->Option aj):Prop where
 d0:DP K mg "_law_cell_at" (top 28)
 d1:DP K mg "_law_cells" (top 29)
 d2:DP K mg "_law_copied" (top 32)
 d3:DP K mg "_law_answer" (top 31)
 d4:DP K mg "_law_machine" (top 33)
 d5:DP K mg "_law_set" (top 34)
 d6:DP K mg "_law_led" (top 35)
 d7:DP K mg "_law_moves" (top 36)
 d8:DP K mg "_law_deepest" (top 37)
 d9:DP K mg "_law_deep" (top 38)
 d10:DP K mg "need_few_states" (top 15)
 d11:DP K mg "is_list_up_to" (top 12)
 d12:DP K mg "is_whole" (top 8)
 d13:DP K mg "is_below" (top 9)
 d14:DP K mg "is_set" (top 17)
 d15:DP K mg "need_set" (top 16)
 d16:DP K mg "sets_of" (top 18)
 d17:DP K mg "least_telling" (top 24)
 d18:DP K mg "found_in_round" (top 6)
 d19:DP K mg "found_in_rounds" (top 5)
 d20:DP K mg "asks_of" (top 11)
 d21:DP K mg "parted_by" (top 26)
 d22:DP K mg "sets_behind" (top 25)
 d23:DP K mg "least_asks" (top 23)
 d24:DP K mg "grown" (top 22)
 d25:DP K mg "tree_of_set" (top 21)
 d26:DP K mg "tree_of" (top 20)
 d27:DP K mg "_law_due" (top 39)
 d28:DP K mg "_law_whole" (top 30)
 d29:DP K mg "_law_alike" (top 40)
 d30:DP K mg "law" (top 41)
 all_:mg "all"=el
 bool_:mg "bool"=el
 dict_:mg "dict"=el
 enumerate_:mg "enumerate"=el
 int_:mg "int"=el
 isinstance_:mg "isinstance"=el
 len_:mg "len"=el
 list_:mg "list"=el
 max_:mg "max"=el
 range_:mg "range"=el
 set_:mg "set"=el
 sorted_:mg "sorted"=el
 tuple_:mg "tuple"=el
 zip_:mg "zip"=el
 MOST_FOR_SETS_:∃t,mg "MOST_FOR_SETS"=cz (.int 7 t)
structure Bk (P:bB) (w:bQ) (K:af) (mg:bI->Option aj) (base:bU):Prop extends Bn K mg
variable {P:bB}{w:bQ}{K:af}{mg:bI->Option aj}{base:bU}
abbrev HB(_:Bk P w K mg base):=Has P w K mg base
def c2b:(["_law_t","_law_many","_law_rows","_law_cell"]:List bI).Nodup:=by decide +kernel
def c2c:(["_law_answer_here","_law_came"]:List bI).Nodup:=by decide +kernel
def c2d:(["_law_a","_law_table","_law_one"]:List bI).Nodup:=by decide +kernel
def c0C:(["_law_answer_here","_law_to"]:List bI).Nodup:=by decide +kernel
def c0D:(["_law_answer_here","_law_to","_law_deep_here"]:List bI).Nodup:=by decide +kernel
def c2e:(["_law_one"]:List bI).Nodup:=by decide +kernel
def c0E:(["_law_to_sets","_law_deep_here"]:List bI).Nodup:=by decide +kernel
def c2f:(["_law_k"]:List bI).Nodup:=by decide +kernel
def c2g:(["state","states"]:List bI).Nodup:=by decide +kernel
def c0F:(["held","state"]:List bI).Nodup:=by decide +kernel
def c0G:(["part","found"]:List bI).Nodup:=by decide +kernel
def c0H:(["thing","newer"]:List bI).Nodup:=by decide +kernel
def c0I:(["part"]:List bI).Nodup:=by decide +kernel
def b6o:(["_law_start","_law_now"]:List bI).Nodup:=by decide +kernel
def b6p:(["_law_start","_law_now","_law_table","_law_ask","_law_answer_here"]:List bI).Nodup:=by decide +kernel
def c0J:(["_law_row"]:List bI).Nodup:=by decide +kernel
def c0K:(["_law_s"]:List bI).Nodup:=by decide +kernel
def b_law_cell_at:EvS:=(i4 (sIf (tB (e2 dLt (b7 1) (eCl A8 (b8 (b7 0) f6)))) (m9 (e2 v7 (b7 0) (b7 1))) n5) (m9 (eC (.int 0))))
def m_law_cell_at:=fnD [.f,.i] 0 b_law_cell_at
abbrev a0e(B:Bk P w K mg base)(k:Nat):=HB B "_law_cell_at" k ["_law_script","_law_k"] (spD K 2 m_law_cell_at .i)
def ok_law_cell_at(B:Bk P w K mg base):a0e B 1:=
 n9 B.d0 λ_ _ F=>fnF F ["_law_script","_law_k"] λ_ _ _ _ _ _ _ _=>by exact c6 (r9 (l5 a8K (e7 1) (B8 B.len_ (c7 0))) (f8 (k6 (b9 (x9 (c7 0) (e7 1))))) n6) (f8 (k6 (b9 c8)))
def b_law_cells:EvS:=(i4 (j8 2 (G0 f6)) (i4 (j8 3 (eC (.int 48271))) (i4 (I9 (iR (b7 1)) (v4 4) (i4 (j8 5 (e2 E3 (eCl m_law_cell_at (b8 (b7 0) (b8 (b7 4) f6))) (e2 a5e (eC (.int 10)) (eC (.int 64))))) (i4 (j8 3 (e2 E3 (e2 y6 (e2 y6 (e2 y6 (e2 M4 (b7 3) (eC (.int 69621))) (e2 M4 (b7 5) (eC (.int 40014)))) (e2 M4 (b7 4) (b7 4))) (eC (.int 1))) (eC (.int 2147483563)))) (sIf (tB (e2 dLt (b7 4) (eCl A8 (b8 (b7 0) f6)))) (C5 2 (.l .i) p6 (b7 5)) (C5 2 (.l .i) p6 (b7 3)))))) (m9 (b7 2)))))
def m_law_cells:=fnD [.f,.i] 4 b_law_cells
abbrev X5(B:Bk P w K mg base)(k:Nat):=HB B "_law_cells" k ["_law_script","_law_many"] (spD K 2 m_law_cells (.l .i))
def ok_law_cells(B:Bk P w K mg base)(iV:a0e B 1):X5 B 2:=
 n9 B.d1 λ_ _ F=>fnF F ["_law_script","_law_many","_law_found","_law_number","_law_k","_law_cell"] λsc _ _ _ _ _ _ hr=>by exact c6 (j6 2 sc.nd (b9 (D3 (n:=0) n4))) (c6 (j6 3 sc.nd (b9 c8)) (c6 (D4 rfl bN (z9 B.range_ (e7 1)) (C1 4 sc.nd) G6 a5k (PSsX.weak (c6 (j6 5 sc.nd (b9 (i9 v5 (C2 iV hr (i5 (c7 0) (i5 (e7 4) m7))) (i9 a2F c8 c8)))) (c6 (j6 3 sc.nd (b9 (i9 v5 (i9 z7 (i9 z7 (i9 z7 (i9 L5 (e7 3) c8) (i9 L5 (e7 5) c8)) (i9 L5 (e7 4) (e7 4))) c8) c8))) (f8 (r9 (l5 a8K (e7 4) (B8 B.len_ (c7 0))) (f8 (L7 2 (F5 2) (b9 (PX.newi (e7 5))) X0)) (f8 (L7 2 (F5 2) (b9 (PX.newi (e7 3))) X0)))))) l7 ((k8 4).trans (k8 5)))) (f8 (k6 (P7 2)))))
def b_law_copied:EvS:=(i4 (j8 3 (G0 f6)) (i4 (I9 (iR (b7 1)) (v4 4) (sIf (tB (e2 dLt (b7 4) (b7 2))) (C5 3 (.l .i) p6 (e2 E3 (e2 y6 (b7 4) (e2 a0a (e2 v7 (b7 0) (eC (.int 0))) (eC (.int 1000)))) (b7 2))) (C5 3 (.l .i) p6 (e2 E3 (e2 v7 (b7 0) (e2 y6 (eC (.int 3)) (b7 4))) (b7 2))))) (i4 (sIf (tB (e2 dEq (e2 E3 (e2 a0a (e2 v7 (b7 0) (eC (.int 1))) (eC (.int 20))) (eC (.int 2))) (eC (.int 1)))) (b7Z 3) n5) (m9 (b7 3)))))
def m_law_copied:=fnD [.f,.i,.i] 2 b_law_copied
abbrev a0V(B:Bk P w K mg base)(k:Nat):=HB B "_law_copied" k ["_law_xs","_law_n","_law_many"] (spD K 3 m_law_copied (.l .i))
def ok_law_copied(B:Bk P w K mg base):a0V B 1:=
 n9 B.d2 λ_ _ F=>fnF F ["_law_xs","_law_n","_law_many","_law_rows","_law_s"] λsc _ _ _ _ _ _ hr=>by exact c6 (j6 3 sc.nd (b9 (D3 (n:=0) n4))) (c6 (D4 rfl bN (z9 B.range_ (e7 1)) (C1 4 sc.nd) G6 a5k (PSsX.weak (f8 (r9 (l5 a8K (e7 4) (e7 2)) (f8 (L7 3 (F5 3) (b9 (i9 v5 (i9 z7 (e7 4) (i9 N7 (x9 (c7 0) c8) c8)) (e7 2))) X0)) (f8 (L7 3 (F5 3) (b9 (i9 v5 (x9 (c7 0) (i9 z7 c8 (e7 4))) (e7 2))) X0)))) l7 (k8 4))) (c6 (r9 (l5 E6 (i9 v5 (i9 N7 (x9 (c7 0) c8) c8) c8) c8) (f8 (b8b 3)) n6) (f8 (k6 (P7 3)))))
def b_law_answer:EvS:=(i4 (j8 2 (e2 a2E (e2 E3 (e2 a0a (e2 v7 (b7 1) (eC (.int 2))) (eC (.int 1000))) (e2 a2E (e2 M4 (eC (.int 2)) (e2 a5e (eC (.int 10)) (eC (.int 60)))) (eC (.int 2)))) (e2 a2E (e2 a5e (eC (.int 10)) (eC (.int 60))) (eC (.int 1))))) (i4 (sIf (tB (e2 dEq (e2 E3 (e2 a0a (e2 v7 (b7 1) (eC (.int 1))) (eC (.int 5))) (eC (.int 4))) (eC (.int 1)))) (m9 (e2 y6 (b7 2) (e2 E3 (b7 0) (eC (.int 2))))) n5) (i4 (sIf (tB (e2 dEq (e2 E3 (e2 a0a (e2 v7 (b7 1) (eC (.int 1))) (eC (.int 5))) (eC (.int 4))) (eC (.int 2)))) (m9 (e2 a2E (e2 E3 (b7 0) (eC (.int 3))) (eC (.int 1)))) n5) (i4 (sIf (tB (e2 dEq (e2 E3 (e2 a0a (e2 v7 (b7 1) (eC (.int 1))) (eC (.int 5))) (eC (.int 4))) (eC (.int 3)))) (m9 (e2 a2E (e2 E3 (b7 0) (e2 a2E (e2 M4 (eC (.int 2)) (e2 a5e (eC (.int 10)) (eC (.int 60)))) (eC (.int 1)))) (e2 a2E (e2 a5e (eC (.int 10)) (eC (.int 60))) (eC (.int 1))))) n5) (m9 (e2 E3 (b7 0) (eC (.int 2))))))))
def m_law_answer:=fnD [.i,.f] 1 b_law_answer
abbrev a0W(B:Bk P w K mg base)(k:Nat):=HB B "_law_answer" k ["_law_number","_law_xs"] (spD K 2 m_law_answer .i)
def ok_law_answer(B:Bk P w K mg base):a0W B 1:=
 n9 B.d3 λ_ _ F=>fnF F ["_law_number","_law_xs","_law_low"] λsc _ _ _ _ _ _ hr=>by exact c6 (j6 2 sc.nd (b9 (i9 T6 (i9 v5 (i9 N7 (x9 (c7 1) c8) c8) (i9 T6 (i9 L5 c8 (i9 a2F c8 c8)) c8)) (i9 T6 (i9 a2F c8 c8) c8)))) (c6 (r9 (l5 E6 (i9 v5 (i9 N7 (x9 (c7 1) c8) c8) c8) c8) (f8 (k6 (b9 (i9 z7 (e7 2) (i9 v5 (e7 0) c8))))) n6) (c6 (r9 (l5 E6 (i9 v5 (i9 N7 (x9 (c7 1) c8) c8) c8) c8) (f8 (k6 (b9 (i9 T6 (i9 v5 (e7 0) c8) c8)))) n6) (c6 (r9 (l5 E6 (i9 v5 (i9 N7 (x9 (c7 1) c8) c8) c8) c8) (f8 (k6 (b9 (i9 T6 (i9 v5 (e7 0) (i9 T6 (i9 L5 c8 (i9 a2F c8 c8)) c8)) (i9 T6 (i9 a2F c8 c8) c8))))) n6) (f8 (k6 (b9 (i9 v5 (e7 0) c8)))))))
def b_law_machine:EvS:=(i4 (j8 3 (eCl m_law_cells (b8 (b7 0) (b8 (eC (.int 3)) f6)))) (i4 (j8 4 (e2 y6 (eC (.int 1)) (e2 E3 (e2 N9 (b7 3) (eC (.int 0))) (b7 1)))) (i4 (sIf (tB (e2 dEq (e2 E3 (e2 a0a (e2 N9 (b7 3) (eC (.int 0))) (b7 1)) (eC (.int 8))) (eC (.int 3)))) (j8 4 (e2 y6 (eC (.int 1)) (e2 E3 (e2 a0a (e2 N9 (b7 3) (eC (.int 0))) (e2 M4 (eC (.int 8)) (b7 1))) (b7 2)))) n5) (i4 (j8 5 (e2 y6 (eC (.int 1)) (e2 E3 (e2 N9 (b7 3) (eC (.int 1))) (eC (.int 5))))) (i4 (j8 6 (b7 4)) (i4 (sIf (tB (e2 dEq (e2 E3 (e2 N9 (b7 3) (eC (.int 2))) (eC (.int 4))) (eC (.int 3)))) (j8 6 (e2 y6 (eC (.int 1)) (e2 E3 (e2 a0a (e2 N9 (b7 3) (eC (.int 2))) (eC (.int 4))) (b7 4)))) n5) (i4 (j8 7 (eCl m_law_cells (b8 (b7 0) (b8 (e2 y6 (e2 y6 (eC (.int 3)) (b7 4)) (e2 M4 (e2 M4 (eC (.int 2)) (b7 4)) (b7 5))) f6)))) (i4 (j8 8 (eCl m_law_copied (b8 (b7 7) (b8 (b7 4) (b8 (b7 6) f6))))) (i4 (j8 9 (G0 f6)) (i4 (I9 (iR (b7 4)) (v4 10) (i4 (j8 11 (G0 f6)) (i4 (I9 (iR (b7 5)) (v4 12) (i4 (j8 13 (e2 N9 (b7 7) (e2 y6 (e2 y6 (e2 y6 (eC (.int 3)) (b7 4)) (e2 M4 (e2 N9 (b7 8) (b7 10)) (b7 5))) (b7 12)))) (i4 (j8 14 (l0 (iR (b7 4)) [6,8,13] pt1 (tB (e2 dEq (e2 N9 (b7 2) (b7 0)) (e2 E3 (b7 3) (b7 1)))) (b7 0))) (i4 (j8 15 (e2 N9 (b7 7) (e2 y6 (e2 y6 (e2 y6 (e2 y6 (eC (.int 3)) (b7 4)) (e2 M4 (b7 4) (b7 5))) (e2 M4 (b7 10) (b7 5))) (b7 12)))) (C5 11 (.l .i) p6 (B7 (b8 (eCl m_law_answer (b8 (e2 a0a (b7 13) (b7 6)) (b8 (b7 7) f6))) (b8 (e2 N9 (b7 14) (e2 E3 (b7 15) (eCl A8 (b8 (b7 14) f6)))) f6)))))))) (C5 9 (.l (.l .i)) p6 (b7 11))))) (m9 (b7 9))))))))))))
def m_law_machine:=fnD [.f,.i,.i] 13 b_law_machine
abbrev a0f(B:Bk P w K mg base)(k:Nat):=HB B "_law_machine" k ["_law_script","_law_small","_law_large"] (spD K 3 m_law_machine (.l (.l .i)))
def ok_law_machine(B:Bk P w K mg base)(fS:X5 B 2)(ji:a0V B 2)(jj:a0W B 2):a0f B 3:=
 n9 B.d4 λ_ _ F=>fnF F ["_law_script","_law_small","_law_large","_law_first","_law_n","_law_asks","_law_many","_law_xs","_law_rows","_law_table","_law_s","_law_row","_law_a","_law_cell","_law_copies","_law_pick"] λsc _ _ _ _ _ _ hr=>by exact c6 (j6 3 sc.nd (b9 (C2 fS hr (i5 (c7 0) (i5 c8 m7))))) (c6 (j6 4 sc.nd (b9 (i9 z7 c8 (i9 v5 (O0 (G9 3) c8) (e7 1))))) (c6 (r9 (l5 E6 (i9 v5 (i9 N7 (O0 (G9 3) c8) (e7 1)) c8) c8) (f8 (j6 4 sc.nd (b9 (i9 z7 c8 (i9 v5 (i9 N7 (O0 (G9 3) c8) (i9 L5 c8 (e7 1))) (e7 2)))))) n6) (c6 (j6 5 sc.nd (b9 (i9 z7 c8 (i9 v5 (O0 (G9 3) c8) c8)))) (c6 (j6 6 sc.nd (b9 (PX.newi (e7 4)))) (c6 (r9 (l5 E6 (i9 v5 (O0 (G9 3) c8) c8) c8) (f8 (j6 6 sc.nd (b9 (i9 z7 c8 (i9 v5 (i9 N7 (O0 (G9 3) c8) c8) (e7 4)))))) n6) (c6 (j6 7 sc.nd (b9 (C2 fS hr (i5 (c7 0) (i5 (i9 z7 (i9 z7 c8 (e7 4)) (i9 L5 (i9 L5 c8 (e7 4)) (e7 5))) m7))))) (c6 (j6 8 sc.nd (b9 (C2 ji hr (i5 (G9 7) (i5 (e7 4) (i5 (e7 6) m7)))))) (c6 (j6 9 sc.nd (b9 (D3 (n:=0) n4))) (c6 (D4 rfl bN (z9 B.range_ (e7 4)) (C1 10 sc.nd) G6 a5k (PSsX.weak (c6 (j6 11 sc.nd (b9 (D3 (n:=0) n4))) (c6 (D4 rfl bN (z9 B.range_ (e7 5)) (C1 12 sc.nd) G6 a5k (PSsX.weak (c6 (j6 13 sc.nd (b9 (PX.newi (O0 (G9 7) (i9 z7 (i9 z7 (i9 z7 c8 (e7 4)) (i9 L5 (O0 (G9 8) (e7 10)) (e7 5))) (e7 12)))))) (c6 (D5 14 sc.nd rfl (tn:=["_law_t"]) (ys:=["_law_many","_law_rows","_law_cell"]) (z9 B.range_ (e7 4)) rfl (λ_ _ _ _ _=>o3 (i:=0) c2b rfl (dC rfl) (.inr rfl)) B9 (.inl rfl) b1S rfl (λ_ _ _ _ _=>a2J (l5 E6 (O0 (G9 2) (e7 0)) (i9 v5 (e7 3) (e7 1)))) (λ_ _ _ _ _=>(PX.newi (e7 0)))) (c6 (j6 15 sc.nd (b9 (PX.newi (O0 (G9 7) (i9 z7 (i9 z7 (i9 z7 (i9 z7 c8 (e7 4)) (i9 L5 (e7 4) (e7 5))) (i9 L5 (e7 10) (e7 5))) (e7 12)))))) (f8 (L7 11 (F5 11) (b9 (T7 (n:=2) (o8 (C2 jj hr (i5 (i9 N7 (e7 13) (e7 6)) (i5 (G9 7) m7))) (o8 (PX.newi (O0 (G9 14) (i9 v5 (e7 15) (B8 B.len_ (G9 14))))) n4)))) X0))))) l7 ((((k8 12).trans (k8 13)).trans (k8 14)).trans (k8 15)))) (f8 (L7 9 (F5 9) (P7 11) X0)))) l7 (k8 10))) (f8 (k6 (P7 9))))))))))))
def b_law_set:EvS:=(i4 (j8 2 (G0 f6)) (i4 (I9 (iR (b7 1)) (v4 3) (i4 (sIf (tB (e2 dEq (e2 E3 (b7 0) (eC (.int 2))) (eC (.int 1)))) (C5 2 (.l .i) p6 (b7 3)) n5) (j8 0 (e2 a0a (b7 0) (eC (.int 2)))))) (i4 (sIf (tB (e2 dEq (b7 2) (G0 f6))) (m9 (G0 (b8 (e2 a2E (b7 1) (eC (.int 1))) f6))) n5) (m9 (b7 2)))))
def m_law_set:=fnD [.i,.i] 2 b_law_set
abbrev a4B(B:Bk P w K mg base)(k:Nat):=HB B "_law_set" k ["_law_cell","_law_n"] (spD K 2 m_law_set (.l .i))
def ok_law_set(B:Bk P w K mg base):a4B B 1:=
 n9 B.d5 λ_ _ F=>fnF F ["_law_cell","_law_n","_law_some","_law_s"] λsc _ _ _ _ _ _ hr=>by exact c6 (j6 2 sc.nd (b9 (D3 (n:=0) (u:=.i) n4))) (c6 (D4 rfl bN (z9 B.range_ (e7 1)) (C1 3 sc.nd) G6 a5k (PSsX.weak (c6 (r9 (l5 E6 (i9 v5 (e7 0) c8) c8) (f8 (L7 2 (u:=(.l .i)) (F5 2 (u:=(.l .i))) (b9 (PX.newi (e7 3))) X0)) n6) (f8 (j6 0 sc.nd (b9 (i9 N7 (e7 0) c8))))) l7 (k8 3))) (c6 (r9 (l5 E6 (G9 2) (D3 (n:=0) (u:=.i) n4)) (f8 (k6 (b9 (D3 (n:=1) (u:=.i) (o8 (u:=.i) (i9 T6 (e7 1) c8) n4))))) n6) (f8 (k6 (P7 2 (u:=(.l .i)))))))
def b_law_led:EvS:=(i4 (j8 3 (eC (.dict []))) (i4 (I9 (iI (iT (b7 1))) (v4 4) (i4 (a4g 5 6 (e2 v7 (e2 dIx (b7 0) (b7 4)) (b7 2))) (i4 (sIf (tB (e2 (dIn p4 rp) (b7 5) (b7 3))) (A4 3 rp (b7 5) (G0 f6)) n5) (i4 (sIf (tB (e2 (a6i rp) (b7 6) (e2 (a0q rp) (b7 3) (b7 5)))) (m9 (eC .none)) n5) (a4q 3 rp (b7 5) (b7 6)))))) (m9 (l0 (iI (iL (C0 (b7 3)))) [3] pt1 tT (B7 (b8 (b7 0) (b8 (B3 (a1Q (e2 (a0q rp) (b7 1) (b7 0)))) f6)))))))
def m_law_led:=fnD [.f,.i,.i] 4 b_law_led
abbrev a4C(B:Bk P w K mg base)(k:Nat):=HB B "_law_led" k ["_law_table","_law_one","_law_ask"] (spD K 3 m_law_led .f)
def ok_law_led(B:Bk P w K mg base):a4C B 1:=
 n9 B.d6 λ_ _ F=>fnF F ["_law_table","_law_one","_law_ask","_law_came","_law_s","_law_answer_here","_law_to"] λsc _ _ _ _ _ _ hr=>by exact c6 (j6 3 sc.nd (b9 (O4 rp (.l .i)))) (c6 (D4 rfl bN (PIX.i (b4y (PX.newi (e7 1)))) (C1 4 sc.nd) G6 a7v (PSsX.weak (c6 (b4B 5 6 (u1:=.i) (u2:=.i) sc.nd rfl (b9 (x9 (u6 (PX.newf (c7 0)) (e7 4)) (e7 2))) (.inr (.inl ⟨rfl,rfl,rfl⟩)) (hg1:=p9 (C1 5 sc.nd) (p9 (C1 6 sc.nd) L9))) (c6 (r9 (a7E (kt:=rp) (N4 (by exact hr.units)) (e7 5) (z8 3)) (f8 (Y9 3 (kt:=rp) (by exact hr.units) (e7 5) (b9 (D3 (n:=0) n4)))) n6) (c6 (r9 (l5 (b2p (by exact hr.units)) (e7 6) (a7F (kt:=rp) (by exact hr.units) (z8 3) (e7 5))) (f8 (k6 (b9 (PX.itof E4)))) n6) (f8 (b4X 3 (kt:=rp) (by exact hr.units) (e7 5) (PX.newi (e7 6))))))) l7 (((k8 4).trans (k8 5)).trans (k8 6)))) (f8 (k6 (b9 (PX.frz (K5 rfl (tn:=["_law_answer_here"]) (ys:=["_law_came"]) (m:=.i) (PIX.i (o9 (PX.frz (Z1 rfl B.sorted_ (z8 3))))) rfl (λ_ _ _ _ _=>o3 (i:=0) c2c rfl (dC rfl) (.inr rfl)) B9 (.inl rfl) a1K rfl (λ_ _ _ _ _=>D9) (λ_ _ _ _ _=>(T7 (n:=2) (o8 (PX.newi (e7 0)) (o8 (O2 B.tuple_ (a4l B.sorted_ (a7F (kt:=rp) (by exact hr.units) (z8 1) (e7 0)))) n4))))))))))
def b_law_moves:EvS:=(i4 (j8 2 (eC (.dict []))) (i4 (j8 3 (G0 (b8 (B3 (b7 1)) f6))) (i4 (sWh (λ_=>1000000) (tB (e2 dNe (b7 3) (G0 f6))) (i4 (a4y 4 (a8g 3)) (sIf (tB (e2 (dIn p4 p4) (b7 4) (b7 2))) (i4 (A4 2 p4 (b7 4) (l0 (iR (eCl A8 (b8 (e2 dIx (b7 0) (eC (.int 0))) f6))) [0,4] pt1 tT (eCl m_law_led (b8 (b7 1) (b8 (b7 2) (b8 (b7 0) f6)))))) (I9 (iL (e2 (a0q p4) (b7 2) (b7 4))) (v4 5) (sIf (tB (e2 (J1 p4) (b7 5) (eC .none))) (a7M 3 (l0 (iI (iL (b7 5))) [] pt2 tT (b7 1))) n5))) n5))) (m9 (b7 2)))))
def m_law_moves:=fnD [.f,.f] 4 b_law_moves
abbrev a1Z(B:Bk P w K mg base)(k:Nat):=HB B "_law_moves" k ["_law_table","_law_some"] (spD K 2 m_law_moves .f)
def ok_law_moves(B:Bk P w K mg base)(kK:a4C B 1):a1Z B 2:=
 n9 B.d7 λ_ _ F=>fnF F ["_law_table","_law_some","_law_moves_here","_law_line","_law_one","_law_to_sets"] λsc _ _ _ _ _ _ hr=>by exact c6 (j6 2 sc.nd (b9 (O4 p4 .f))) (c6 (j6 3 sc.nd (b9 (D3 (n:=1) (u:=.i) (o8 (u:=.i) (O2 B.tuple_ (c7 1)) n4)))) (c6 (a2L (λ_=>1000000) bN (l5 Q8 (G9 3) (D3 (n:=0) (u:=.i) n4)) (PSsX.weak (c6 (b5q 4 sc.nd (b5p 3)) (f8 (r9 (a7E (kt:=p4) (u:=.f) (N4 (by exact hr.units)) (e7 4) (z8 2 (u:=(.d p4 .f)))) (c6 (Y9 2 (kt:=p4) (u:=.f) (by exact hr.units) (e7 4) (b9 (PX.frz (K5 rfl (tn:=["_law_a"]) (ys:=["_law_table","_law_one"]) (m:=.i) (z9 B.range_ (B8 B.len_ (u6 (PX.newf (c7 0)) c8))) rfl (λ_ _ _ _ _=>o3 (i:=0) c2d rfl (dC rfl) (.inr rfl)) B9 (.inl rfl) b1S rfl (λ_ _ _ _ _=>D9) (λ_ _ _ _ _=>(by exact A2 (u:=.f) kK hr (j9 (PX.newf (c7 1)) (j9 (PX.newi (e7 2)) (j9 (PX.newi (e7 0)) (E1)))) (hfl:=(i8 (i8 (i8 A9)))))))))) (f8 (D4 rfl bN (o9 (PX.newf (a7F (kt:=p4) (u:=.f) (by exact hr.units) (z8 2 (u:=(.d p4 .f))) (e7 4)))) (C1 5 sc.nd) b7l (λ_ _ _ _ _=>trivial) (PSsX.weak (f8 (r9 (l5 a0H (c7 5) E4) (f8 (b7U 3 (K5 rfl (tn:=["_law_answer_here","_law_to"]) (ys:=[]) (m:=.i) (PIX.i (o9 (PX.newf (c7 5)))) rfl (λ_ _ _ _ _=>W2 rfl (p9 (o3 (i:=0) c0C rfl (dC rfl) (.inr rfl)) (p9 (o3 (i:=1) c0C rfl (dC rfl) (.inr rfl)) L9))) a2k (.inl rfl) a8R rfl (λ_ _ _ _ _=>D9) (λ_ _ _ _ _=>(PX.newi (e7 1)))))) n6)) l7 (k8 5))))) n6))) l7 (k8 4))) (f8 (PSX.weak (k6 (b9 (PX.newf (c7 2)))) (E5 2) l7))))
def b_law_deepest:EvS:=(i4 (sIf (tB (e2 (J1 rp) (b7 0) (eC .none))) (m9 (eC .none)) n5) (i4 (j8 2 (l0 (iI (iL (b7 0))) [1] pt2 tT (e2 (a6f p4) (b7 2) (b7 1)))) (i4 (sIf (tB (e2 (a6i rp) (eC .none) (b7 2))) (m9 (eC .none)) n5) (m9 (eCl b2h (b8 (b7 2) f6))))))
def m_law_deepest:=fnD [.f,.f] 1 b_law_deepest
abbrev Q9(B:Bk P w K mg base)(k:Nat):=HB B "_law_deepest" k ["_law_to_sets","_law_deep_here"] (spD K 2 m_law_deepest .i)
def ok_law_deepest(B:Bk P w K mg base):Q9 B 1:=
 n9 B.d8 λ_ _ F=>fnF F ["_law_to_sets","_law_deep_here","_law_fars"] λsc _ _ _ _ _ _ hr=>by exact c6 (r9 (l5 b1G (c7 0) E4) (f8 (k6 (b9 E4))) n6) (c6 (D5 2 sc.nd rfl (tn:=["_law_answer_here","_law_to"]) (ys:=["_law_deep_here"]) (PIX.i (o9 (PX.newf (c7 0)))) rfl (λ_ _ _ _ _=>W2 rfl (p9 (o3 (i:=0) c0D rfl (dC rfl) (.inr rfl)) (p9 (o3 (i:=1) c0D rfl (dC rfl) (.inr rfl)) L9))) a2k (.inl rfl) a8R rfl (λ_ _ _ _ _=>D9) (λ_ _ _ _ _=>(b4S (by exact hr.units) (PX.newf (c7 2)) (e7 1)))) (c6 (r9 (l5 (b2p (by exact hr.units)) E4 (z8 2)) (f8 (k6 (b9 E4))) n6) (f8 (k6 (b9 (a5h (b4M rfl) B.max_ PyProof.Rows.Boot.«max» (i5 (z8 2) m7)))))))
def b_law_deep:EvS:=(i4 (j8 1 (eC (.dict []))) (i4 (j8 2 (l0 (iI (iDk (b7 0))) [] pt1 (tB (e2 dEq (eCl A8 (b8 (b7 0) f6)) (eC (.int 1)))) (b7 0))) (i4 (j8 3 (eC (.int 0))) (i4 (sWh (λ_=>1000000) (tB (e2 dNe (b7 2) (G0 f6))) (i4 (I9 (iI (iL (b7 2))) (v4 4) (A4 1 p4 (b7 4) (b7 3))) (i4 (j8 3 (e2 y6 (b7 3) (eC (.int 1)))) (i4 (j8 2 (G0 f6)) (I9 (iI (iDk (b7 0))) (v4 4) (i4 (j8 5 (l0 (iL (e2 (P3 p4) (b7 0) (b7 4))) [1] pt1 tT (eCl m_law_deepest (b8 (b7 0) (b8 (b7 1) f6))))) (sIf (tAn (tB (e2 (dIn p4 p4) (b7 4) (b7 1))) (tB (e2 dNe (l0 (iI (iL (b7 5))) [] pt1 (tB (e2 (J1 p4) (b7 0) (eC .none))) (b7 0)) (G0 f6)))) (C5 2 (.l .i) p6 (b7 4)) n5))))))) (m9 (b7 1))))))
def m_law_deep:=fnD [.f] 5 b_law_deep
abbrev a3n(B:Bk P w K mg base)(k:Nat):=HB B "_law_deep" k ["_law_moves_here"] (spD K 1 m_law_deep .f)
def ok_law_deep(B:Bk P w K mg base)(fK:Q9 B 1):a3n B 2:=
 n9 B.d9 λ_ _ F=>fnF F ["_law_moves_here","_law_deep_here","_law_fresh","_law_far","_law_one","_law_fars"] λsc _ _ _ _ _ _ hr=>by exact c6 (j6 1 sc.nd (b9 (O4 p4 .i))) (c6 (D5 2 sc.nd rfl (tn:=["_law_one"]) (ys:=[]) (PIX.i (a6m (PX.newf (c7 0)))) rfl (λ_ _ _ _ _=>o3 (i:=0) c2e rfl (dC rfl) (.inr rfl)) B9 (.inl rfl) a1K rfl (λ_ _ _ _ _=>a2J (l5 E6 (B8 B.len_ (e7 0)) c8)) (λ_ _ _ _ _=>(PX.newi (e7 0)))) (c6 (j6 3 sc.nd (b9 c8)) (c6 (a2L (λ_=>1000000) bN (l5 Q8 (G9 2) (D3 (n:=0) (u:=.i) n4)) (c6 (PSX.weak (D4 rfl bN (PIX.i (o9 (PX.newf (c7 2)))) (C1 4 sc.nd) G6 a7v (PSsX.weak (f8 (Y9 1 (kt:=p4) (u:=.i) (by exact hr.units) (e7 4) (b9 (PX.newi (e7 3))))) l7 (k8 4))) (E5 2) l7) (c6 (j6 3 sc.nd (b9 (i9 z7 (e7 3) c8))) (c6 (j6 2 sc.nd (b9 (D3 (n:=0) (u:=.i) n4))) (f8 (D4 rfl bN (PIX.i (a6m (PX.newf (c7 0)))) (C1 4 sc.nd) G6 a7v (PSsX.weak (c6 (D5 5 sc.nd rfl (tn:=["_law_to_sets"]) (ys:=["_law_deep_here"]) (o9 (U2 (kt:=p4) (by exact hr.units) (PX.newf (c7 0)) (e7 4))) rfl (λ_ _ _ _ _=>o3 (i:=0) c0E rfl (dC rfl) (.inr rfl)) B9 (.inr rfl) a5Y rfl (λ_ _ _ _ _=>D9) (λ_ _ _ _ _=>(C2 fK hr (i5 (c7 0) (i5 (z8 1 (u:=(.d p4 .i))) m7))))) (f8 (PSX.weak (r9 (PWX.pt (a8M (a7E (kt:=p4) (u:=.i) (N4 (by exact hr.units)) (e7 4) (z8 1 (u:=(.d p4 .i)))) (a5S (l5 Q8 (K5 rfl (tn:=["_law_k"]) (ys:=[]) (m:=.i) (PIX.i (o9 (PX.newf (c7 5)))) rfl (λ_ _ _ _ _=>o3 (i:=0) c2f rfl (dC rfl) (.inr rfl)) B9 (.inl rfl) a1K rfl (λ_ _ _ _ _=>a2J (l5 a0H (e7 0) E4)) (λ_ _ _ _ _=>(PX.newi (e7 0)))) (D3 (n:=0) (u:=.i) n4))))) (f8 (L7 2 (u:=(.l .i)) (F5 2 (u:=(.l .i))) (b9 (PX.newi (e7 4))) X0)) n6) (E5 5) l7))) l7 ((k8 4).trans (k8 5))))))))) (f8 (PSX.weak (k6 (b9 (PX.newf (c7 1)))) (E5 1) l7)))))
def P9:EvS:=(sIf (tB (e2 dGt (eCl A8 (b8 (b7 0) f6)) (eC (.int 7)))) sNo n5)
def C3:=fnN [.f] 0 P9
abbrev Q0(B:Bk P w K mg base)(k:Nat):=HB B "need_few_states" k ["machine"] (spD K 1 C3 .i)
def a0v(B:Bk P w K mg base):Q0 B 1:=
 n9 B.d10 λ_ _ F=>c0h F ["machine"] [.own .f] λ_ _ _ _ _ _ _ _=>by exact f8 (r9 (l5 b9s (B8 B.len_ (c7 0)) (b4t B.MOST_FOR_SETS_)) (f8 (b6e)) n6)
def V1:EvS:=(m9 (a3N (e1 (λd=>cz (.bool (isList d))) (b7 0)) (eCh dLe dLe (eC (.int 1)) (eCl A8 (b8 (b7 0) f6)) (b7 1))))
def F7:=fnD [.f,.i] 0 V1
abbrev V2(B:Bk P w K mg base)(k:Nat):=HB B "is_list_up_to" k ["thing","most"] (spD K 2 F7 .i)
def a1x(B:Bk P w K mg base):V2 B 1:=
 n9 B.d11 λ_ _ F=>fnF F ["thing","most"] λ_ _ _ _ _ _ _ _=>by exact f8 (k6 (b9 (a0o (Q6 a5W B.isinstance_ B.list_ PyProof.Rows.Boot.«list» (c7 0)) (a1o (a5R b1C b1C c8 (B8 B.len_ (c7 0)) (e7 1))))))
def a3o:EvS:=(m9 (a3N (e1 (λd=>cz (.bool (isInt d))) (b7 0)) (b1H (e1 (λd=>cz (.bool (isBool d))) (b7 0)))))
def U6:=fnD [.f] 0 a3o
abbrev a3p(B:Bk P w K mg base)(k:Nat):=HB B "is_whole" k ["thing"] (spD K 1 U6 .i)
def a6K(B:Bk P w K mg base):a3p B 1:=
 n9 B.d12 λ_ _ F=>fnF F ["thing"] λ_ _ _ _ _ _ _ _=>by exact f8 (k6 (b9 (a0o (Q6 a8O B.isinstance_ B.int_ PyProof.Rows.Boot.«int» (c7 0)) (a1o (b1J (Q6 a5V B.isinstance_ B.bool_ PyProof.Rows.Boot.«bool» (c7 0)))))))
def a3q:EvS:=(m9 (a3N (eCl U6 (b8 (b7 0) f6)) (eCh dLe dLt (eC (.int 0)) (b7 0) (b7 1))))
def U7:=fnD [.f,.i] 0 a3q
abbrev a3r(B:Bk P w K mg base)(k:Nat):=HB B "is_below" k ["thing","bound"] (spD K 2 U7 .i)
def a6L(B:Bk P w K mg base)(kc:a3p B 1):a3r B 2:=
 n9 B.d13 λ_ _ F=>fnF F ["thing","bound"] λ_ _ _ _ _ _ _ hr=>by exact f8 (k6 (b9 (a0o (C2 kc hr (i5 (c7 0) m7)) (a1o (a5R b1C a8K c8 (c7 0) (e7 1))))))
def a6M:EvS:=(m9 (a3N (eCl F7 (b8 (b7 0) (b8 (b7 1) f6))) (a3N (eCl a9S (b8 (l0 (iI (iL (b7 0))) [1] pt1 tT (eCl U7 (b8 (b7 0) (b8 (b7 1) f6)))) f6)) (e2 dEq (b7 0) (a0R (b7 0))))))
def a0X:=fnD [.f,.i] 0 a6M
abbrev a6N(B:Bk P w K mg base)(k:Nat):=HB B "is_set" k ["thing","states"] (spD K 2 a0X .i)
def b0V(B:Bk P w K mg base)(ie:V2 B 2)(ke:a3r B 2):a6N B 3:=
 n9 B.d14 λ_ _ F=>fnF F ["thing","states"] λ_ _ _ _ _ _ _ hr=>by exact f8 (k6 (b9 (a0o (C2 ie hr (i5 (c7 0) (i5 (e7 1) m7))) (a0o (a5h (b1M rfl) B.all_ PyProof.Rows.Boot.«all» (i5 (K5 rfl (tn:=["state"]) (ys:=["states"]) (PIX.i (o9 (PX.newf (c7 0)))) rfl (λ_ _ _ _ _=>o3 (i:=0) c2g rfl (dC rfl) (.inr rfl)) B9 (.inl rfl) a1K rfl (λ_ _ _ _ _=>D9) (λ_ _ _ _ _=>(C2 ke hr (i5 (e7 0) (i5 (e7 1) m7))))) m7)) (a1o (b1I E6 (c7 0) (a7X rfl B.set_ B.sorted_ (c7 0))))))))
def a3s:EvS:=(sIf (tNo (tV (eCl a0X (b8 (b7 1) (b8 (eCl A8 (b8 (b7 0) f6)) f6))))) sNo n5)
def U8:=fnN [.f,.f] 0 a3s
abbrev a3t(B:Bk P w K mg base)(k:Nat):=HB B "need_set" k ["machine","thing"] (spD K 2 U8 .i)
def a6O(B:Bk P w K mg base)(lQ:a6N B 3):a3t B 4:=
 n9 B.d15 λ_ _ F=>c0h F ["machine","thing"] [.own .f,.own .f] λ_ _ _ _ _ _ _ hr=>by exact f8 (r9 (M5 (J3 (C2 lQ hr (i5 (c7 1) (i5 (B8 B.len_ (c7 0)) m7))))) (f8 (b6e)) n6)
def a4D:EvS:=(i4 (j8 1 (G0 (b8 (B7 f6) f6))) (i4 (I9 (iR (b7 0)) (v4 2) (j8 1 (eI (a9V (b7 1) (l0 (iI (iL (b7 1))) [2] pt1 tT (e2 a0S (b7 0) (B7 (b8 (b7 1) f6)))))))) (m9 (eI (eSl (b7 1) (oSo (eC (.int 1))) oNo)))))
def Z2:=fnD [.i] 2 a4D
abbrev a4E(B:Bk P w K mg base)(k:Nat):=HB B "sets_of" k ["states"] (spD K 1 Z2 (.l .i))
def a8s(B:Bk P w K mg base):a4E B 1:=
 n9 B.d16 λ_ _ F=>fnF F ["states","found","state"] λsc _ _ _ _ _ _ _=>by exact c6 (j6 1 sc.nd (b9 (D3 (n:=1) (o8 (T7 (n:=0) n4) n4)))) (c6 (D4 rfl bN (z9 B.range_ (e7 0)) (C1 2 sc.nd) G6 a5k (PSsX.weak (f8 (PSX.weak (j6 1 sc.nd (b9 (MkL.i (b7k (PX.newf (c7 1)) (K5 rfl (tn:=["held"]) (ys:=["state"]) (m:=.i) (PIX.i (o9 (PX.newf (c7 1)))) rfl (λ_ _ _ _ _=>o3 (i:=0) c0F rfl (dC rfl) (.inr rfl)) B9 (.inl rfl) a1K rfl (λ_ _ _ _ _=>D9) (λ_ _ _ _ _=>(b5l (e7 0) (T7 (n:=1) (o8 (PX.newi (e7 1)) n4))))))))) (E5 1) l7)) l7 (k8 2))) (f8 (k6 (b9 (MkL.i (b1Q (G9 1) (b1O c8) b1N))))))
def V3:EvS:=(i4 (I9 (iEn (b7 0)) (a5j 2 3) (sIf (tAn (tB (e2 (J1 p4) (b7 3) (eC .none))) (tV (eCl a9S (b8 (l0 (iL (b7 3)) [1] pt1 tT (e2 (a0P rp p4) (b7 0) (b7 1))) f6)))) (m9 (eIm (b7 2))) n5)) (m9 (eC .none)))
def u8:=fnD [.f,.f] 2 V3
abbrev V4(B:Bk P w K mg base)(k:Nat):=HB B "least_telling" k ["behind","found"] (spD K 2 u8 .i)
def a1y(B:Bk P w K mg base):V4 B 1:=
 n9 B.d17 λ_ _ F=>fnF F ["behind","found","ask","parts"] λsc _ _ _ _ _ _ hr=>by exact c6 (b4O (fi:=(iEn (b7 0))) rfl bN (c1D B.enumerate_ (PX.newf (c7 0))) (W2 rfl (p9 (C1 2 sc.nd) (p9 (C1 3 sc.nd) L9))) (a7t (.inl rfl)) (λ_ _ _ _ _ e=>nomatch e) (λh=>h) (PSsX.weak (f8 (r9 (PWX.pt (a8M (l5 a0H (c7 3) E4) (a5S (J3 (a5h (b1M rfl) B.all_ PyProof.Rows.Boot.«all» (i5 (K5 rfl (tn:=["part"]) (ys:=["found"]) (o9 (PX.newf (c7 3))) rfl (λ_ _ _ _ _=>o3 (i:=0) c0G rfl (dC rfl) (.inr rfl)) B9 (.inr rfl) a5Y rfl (λ_ _ _ _ _=>D9) (λ_ _ _ _ _=>(b7S (b2d (by exact hr.units)) (c7 0) (c7 1)))) m7)))))) (f8 (k6 (b9 (b2Z (PX.newf (c7 2)))))) n6)) l7 ((k8 2).trans (k8 3)))) (f8 (k6 (b9 E4)))
def K1:(List D->Option D)->EvS:=λgm=>(i4 (j8 3 (eC (.dict []))) (i4 (I9 (iI (iL (b7 1))) (v4 4) (i4 (j8 5 (eCl gm (b8 (b7 4) (b8 (b7 0) f6)))) (sIf (tB (e2 (J1 p4) (b7 5) (eC .none))) (A4 3 p4 (b7 4) (b7 5)) n5))) (m9 (b7 3))))
def r8:=fnL [.f,.f] 3 K1
abbrev T1(B:Bk P w K mg base)(k:Nat):=HB B "found_in_round" k ["found","left","tell"] (spL K 2 (λgm=>FnV P w K mg base 2 2 .i gm) r8 (.d p4 .i))
def a0Y(B:Bk P w K mg base):T1 B 3:=
 n9 B.d18 λ_ _ F=>c0i F ["found","left","tell","newer","thing","told"] λsc gm _ _ _ _ _ _ hr=>by exact c6 (j6 3 sc.nd (b9 (O4 p4 .i))) (c6 (D4 rfl bN (PIX.i (o9 (PX.newf (c7 1)))) (C1 4 sc.nd) G6 a7v (PSsX.weak (c6 (j6 5 sc.nd (b9 (b2x 2 (k:=2) (n:=2) (m:=gm) (hr.mono (by decide)) (i5 (e7 4) (i5 (c7 0) m7)) (hfl:=(i8 (i8 A9)))))) (f8 (r9 (l5 a0H (e7 5) E4) (f8 (Y9 3 (kt:=p4) (by exact hr.units) (e7 4) (b9 (PX.newi (e7 5))))) n6))) l7 ((k8 4).trans (k8 5)))) (f8 (k6 (P7 3))))
def J8:(List D->Option D)->EvS:=λgm=>(i4 (j8 3 (a5r (b7 0))) (i4 (j8 4 (b0z r8 gm (b8 (b7 3) (b8 (b7 1) f6)))) (i4 (sWh (λ_=>1000000) (tVD (b7 4)) (i4 (b0s 3 4) (i4 (j8 1 (l0 (iI (iL (b7 1))) [4] pt1 (tB (e2 (dIn p4 p4) (b7 0) (b7 1))) (b7 0))) (j8 4 (b0z r8 gm (b8 (b7 3) (b8 (b7 1) f6))))))) (m9 (b7 3)))))
def u5:=fnL [.f,.f] 2 J8
abbrev Q1(B:Bk P w K mg base)(k:Nat):=HB B "found_in_rounds" k ["outset","left","tell"] (spL K 2 (λgm=>FnV P w K mg base 2 2 .i gm) u5 .f)
def a0w(B:Bk P w K mg base)(fX:T1 B 3):Q1 B 4:=
 n9 B.d19 λ_ _ F=>c0i F ["outset","left","tell","found","newer"] λsc gm _ _ _ _ _ _ hr=>by exact c6 (j6 3 sc.nd (b9 (b0J B.dict_ (PX.newf (c7 0))))) (c6 (j6 4 sc.nd (b9 (a9h (a4r (gm:=gm) fX hr (S8 (z8 3) (S8 (c7 1) (a9a 2))) (hfl:=(S7 (S7 a5n))))))) (c6 (a2L (λ_=>1000000) bN (b2n (z8 4)) (PSsX.weak (c6 (b0t 3 4 (by decide) (by exact hr.units)) (c6 (D5 1 sc.nd rfl (tn:=["thing"]) (ys:=["newer"]) (PIX.i (o9 (PX.newf (c7 1)))) rfl (λ_ _ _ _ _=>o3 (i:=0) c0H rfl (dC rfl) (.inr rfl)) B9 (.inl rfl) a1K rfl (λ_ _ _ _ _=>a2J (b4U 1 (N4 (by exact hr.units)) (e7 0))) (λ_ _ _ _ _=>(PX.newi (e7 0)))) (f8 (j6 4 sc.nd (b9 (a9h (a4r (gm:=gm) fX hr (S8 (z8 3) (S8 (G9 1) (a9a 2))) (hfl:=(S7 (S7 a5n)))))))))) l7 (E5 1))) (f8 (PSX.weak (k6 (b9 (PX.newf (c7 3)))) (E5 3) l7))))
def a4F:EvS:=(m9 (eCl A8 (b8 (e2 dIx (b7 0) (eC (.int 0))) f6)))
def T2:=fnD [.f] 0 a4F
abbrev a4G(B:Bk P w K mg base)(k:Nat):=HB B "asks_of" k ["machine"] (spD K 1 T2 .i)
def a8t(B:Bk P w K mg base):a4G B 1:=
 n9 B.d20 λ_ _ F=>fnF F ["machine"] λ_ _ _ _ _ _ _ _=>by exact f8 (k6 (b9 (B8 B.len_ (u6 (PX.newf (c7 0)) c8))))
def a2a:EvS:=(i4 (j8 3 (eC (.dict []))) (i4 (I9 (iI (iIt (b7 1))) (a5j 4 5) (i4 (j8 6 (e2 v7 (e2 dIx (b7 0) (b7 4)) (b7 2))) (i4 (a3l 3 rp rp (e2 v7 (b7 6) (eC (.int 0))) (e2 v7 (b7 6) (eC (.int 1))) (eC .none) (b7 5)) n5))) (m9 (b7 3))))
def A5:=fnD [.f,.f,.i] 5 a2a
abbrev X6(B:Bk P w K mg base)(k:Nat):=HB B "parted_by" k ["machine","begun","ask"] (spD K 3 A5 .f)
def a5u(B:Bk P w K mg base):X6 B 1:=
 n9 B.d21 λ_ _ F=>fnF F ["machine","begun","ask","found","state","start","step","part"] λsc _ _ _ _ _ _ hr=>by exact c6 (j6 3 sc.nd (b9 (O4 rp (.d rp .i)))) (c6 (b2Q (fi:=(iI (iIt (b7 1)))) rfl bN (c1K (PX.newf (c7 1))) (W2 rfl (p9 (C1 4 sc.nd) (p9 (C1 5 sc.nd) L9))) (a7t (.inr rfl)) (λU ds h d hd _=>a7v U ds h d hd) b7R (PSsX.weak (M2:=[mdF,mdF,mdI,.own (.d rp (.d rp .i)),mdI,mdI,mdI,mdD]) (c6 (j6 6 sc.nd (b9 (x9 (u6 (PX.newf (c7 0)) (e7 4)) (e7 2)))) (b2X 3 7 (kt2:=rp) (fr:=(eC .none)) (by exact hr.units) sc.nd (x9 (e7 6) c8) (x9 (e7 6) c8) (x9 (e7 6) c8) (M2:=[mdF,mdF,mdI,.own (.d rp (.d rp .i)),mdI,mdI,mdI,mdD]) (k6 (b9 (PX.itof E4))) (PX.newi (e7 5)) n6)) l7 (((k8 4).trans (k8 5)).trans (k8 6)))) (f8 (PSX.weak (k6 (b9 (PX.newf (c7 3)))) (E5 3) l7)))
def a0g:EvS:=(i4 (j8 2 (G0 f6)) (i4 (I9 (iR (eCl T2 (b8 (b7 0) f6))) (v4 3) (i4 (j8 4 (eCl A5 (b8 (b7 0) (b8 (K9 rp (b7 1) (b7 1)) (b8 (b7 3) f6))))) (C5 2 (.l .f) p6 (eIf (tB (e2 (J1 rp) (b7 4) (eC .none))) (eC .none) (l0 (iVa (b7 4)) [] pt1 tT (B3 (C0 (b7 0)))))))) (m9 (b7 2))))
def B5:=fnD [.f,.i] 3 a0g
abbrev a0h(B:Bk P w K mg base)(k:Nat):=HB B "sets_behind" k ["machine","states"] (spD K 2 B5 (.l .f))
def a3u(B:Bk P w K mg base)(kL:a4G B 1)(gh:X6 B 1):a0h B 2:=
 n9 B.d22 λ_ _ F=>fnF F ["machine","states","found","ask","parts"] λsc _ _ _ _ _ _ hr=>by exact c6 (j6 2 sc.nd (b9 (D3 (n:=0) n4))) (c6 (D4 rfl bN (z9 B.range_ (C2 kL hr (i5 (c7 0) m7))) (C1 3 sc.nd) G6 a5k (PSsX.weak (c6 (j6 4 sc.nd (b9 (by exact A2 gh hr (j9 (PX.newf (c7 0)) (j9 (PX.frz (a3k rp rfl (by exact hr.units) B.dict_ B.zip_ (PX.newi (e7 1)) (PX.newi (e7 1)))) (j9 (PX.newi (e7 3)) (E1)))) (hfl:=(i8 (i8 (i8 A9))))))) (f8 (L7 2 (F5 2) (b9 (PX.frz (b1K (l5 b1G (c7 4) E4) (PX.itol E4) (by exact K5 rfl (tn:=["part"]) (ys:=[]) (m:=.f) (b2Y (PX.newf (c7 4))) rfl (λ_ _ _ _ _=>o3 (i:=0) c0I rfl (dC rfl) (.inr rfl)) B9 (.inr rfl) a5Y rfl (λ_ _ _ _ _=>D9) (λ_ _ _ _ _=>(O2 B.tuple_ (Z1 rfl B.sorted_ (c7 0)))))))) X0))) l7 ((k8 3).trans (k8 4)))) (f8 (k6 (P7 2))))
def a0Z:EvS:=(i4 (j8 1 (eC (.dict []))) (i4 (j8 2 (eC (.dict []))) (i4 (I9 (iI (iL (eCl Z2 (b8 (eCl A8 (b8 (b7 0) f6)) f6)))) (v4 3) (sIf (tB (e2 dEq (eCl A8 (b8 (b7 3) f6)) (eC (.int 1)))) (A4 1 p4 (b7 3) (eC .none)) (A4 2 p4 (b7 3) (eCl B5 (b8 (b7 0) (b8 (b7 3) f6)))))) (m9 (b5f u5 [.i,.f] [2] (eCl u8 (b8 (e2 (P3 p4) (b7 2) (b7 0)) (b8 (b7 1) f6))) (b8 (b7 1) (b8 (a8e (b7 2)) f6)))))))
def J9:=fnD [.f] 3 a0Z
abbrev a1a(B:Bk P w K mg base)(k:Nat):=HB B "least_asks" k ["machine"] (spD K 1 J9 .f)
def a3R(B:Bk P w K mg base)(kI:a4E B 4)(gz:Q1 B 4)(iS:a0h B 4)(lj:V4 B 1)(LT:(E2 K "least_asks").isSome=p4)(KB:K.In base)(GB:base.Ns bP mg):a1a B 5:=
 b5r B.d23 λ_ _ F a=>c1N F ["machine","outset","behind","states"] LT KB GB a λsc _ _ wz wK wy A outer s H _ hr=>by exact c6 (j6 1 sc.nd (b9 (O4 p4 .i))) (c6 (j6 2 sc.nd (b9 (O4 p4 (.l .f)))) (c6 (D4 rfl bN (PIX.i (o9 (PX.frz (C2 kI hr (i5 (B8 B.len_ (c7 0)) m7))))) (C1 3 sc.nd) G6 a7v (PSsX.weak (f8 (r9 (l5 E6 (B8 B.len_ (e7 3)) c8) (f8 (Y9 1 (by exact hr.units) (e7 3) (b9 E4))) (f8 (Y9 2 (by exact hr.units) (e7 3) (b9 (by exact A2 iS hr (j9 (PX.newf (c7 0)) (j9 (PX.newi (e7 3)) (E1))) (hfl:=(i8 (i8 A9))))))))) l7 (k8 3))) (f8 (PSX.weak (b5m rfl (by exact a6z (kf:=1) (uf:=.i) (N:=["states","found","behind"]) (pl:=["states","found"]) (ys:=["behind"]) gz hr (S8 (c7 1) (S8 (b3a rfl B.list_ (c7 2)) (b5e (by decide) wK wz wy rfl))) ⟨_,_,_,rfl,rfl,rfl,rfl,rfl,rfl⟩ ⟨⟨_,rfl⟩,trivial⟩ (by exact⟨rfl,rfl,rfl,by decide +kernel,rfl,by decide +kernel,by decide +kernel,by decide +kernel,rfl⟩) rfl (λ_ _ _ us hl=>by obtain⟨_,_,rfl⟩:=VS.b4W hl;rfl) (λfa c A outer s H hr=>C2 lj hr (i5 (U2 (by exact hr.units) (PX.newf (c7 2)) (e7 0)) (i5 (c7 1) m7))) (hfl:=(S7 (S7 a5n))))) ((E5 1).trans (E5 2)) l7))))
def a5v(rc:List D->Option D):EvS:=(i4 (sIf (tB (e2 dEq (eCl b2c (b8 (b7 2) f6)) (eC (.int 1)))) (m9 (eNT (e2 v7 (a5m (b7 2)) (eC (.int 0))))) n5) (i4 (j8 3 (e2 (P3 p4) (b7 1) (B3 (C0 (b7 2))))) (i4 (j8 4 (eCl A5 (b8 (b7 0) (b8 (b7 2) (b8 (b7 3) f6))))) (i4 (j8 5 (G0 f6)) (i4 (I9 (iI (iL (C0 (b7 4)))) (v4 6) (C5 5 (.l .f) p6 (B7 (b8 (b7 6) (b8 (eCl rc (b8 (b7 0) (b8 (b7 1) (b8 (e2 (P3 rp) (b7 4) (b7 6)) f6)))) f6))))) (m9 (B7 (b8 (eIm (b7 3)) (b8 (b7 5) f6)))))))))
def M9:Nat->List D->Option D
 |0=>λ_=>el
 |n+1=>fnD [.f,.f,.f] 4 (a5v (M9 n))
abbrev b5z(B:Bk P w K mg base)(k:Nat):=HB B "grown" k ["machine","asks","begun"] (spD K 3 (M9 121) (.tp [.i,(.l .f)]))
def b3r(B:Bk P w K mg base)(nE:X6 B 1):∀n:Nat,Has P w K mg base "grown" (2+n) ["machine","asks","begun"] (spD K 3 (M9 n) (.tp [.i,(.l .f)])):=by
 intro n
 induction n with
 |zero=>exact n9 B.d24 λ_ _ _=>a5o
 |succ n kr=>
  have gh:=nE.up (show 1<=2+n by lia);exact n9 B.d24 λ_ _ F=>fnF F ["machine","asks","begun","ask","parts","branches","answer"] λsc _ _ _ _ _ _ hr=>by exact c6 (r9 (l5 E6 (b3b B.len_ (c7 2)) c8) (f8 (k6 (b9 (a9o (x9 (b2k rfl B.list_ (c7 2)) c8))))) n6) (c6 (j6 3 sc.nd (b9 (U2 (kt:=p4) (by exact hr.units) (PX.newf (c7 1)) (O2 B.tuple_ (Z1 rfl B.sorted_ (c7 2)))))) (c6 (j6 4 sc.nd (b9 (by exact A2 gh hr (j9 (PX.newf (c7 0)) (j9 (PX.newf (c7 2)) (j9 (PX.newf (c7 3)) (E1)))) (hfl:=(i8 (i8 (i8 A9))))))) (c6 (j6 5 sc.nd (b9 (D3 (n:=0) n4))) (c6 (D4 rfl bN (PIX.i (o9 (PX.frz (Z1 rfl B.sorted_ (c7 4))))) (C1 6 sc.nd) G6 a7v (PSsX.weak (f8 (L7 5 (F5 5) (b9 (PX.frz (a7n (o8 (PX.newi (e7 6)) (o8 (by exact A2 kr hr (j9 (PX.newf (c7 0)) (j9 (PX.newf (c7 1)) (j9 (U2 (kt:=rp) (by exact hr.units) (PX.newf (c7 4)) (e7 6)) (E1)))) (hfl:=(i8 (i8 (i8 A9))))) n4))))) X0)) l7 (k8 6))) (f8 (k6 (b4A (a6a (b9 (b2Z (PX.newf (c7 3)))) (a6a (P7 5) (b4z))))))))))
def a0i:EvS:=(i4 (j8 2 (eCl J9 (b8 (b7 0) f6))) (i4 (sIf (tB (e2 (a0P p4 p4) (B3 (b7 1)) (b7 2))) (m9 (eNT (eC .none))) n5) (m9 (eCl (M9 121) (b8 (b7 0) (b8 (b7 2) (b8 (K9 p4 (b7 1) (b7 1)) f6)))))))
def B6:=fnD [.f,.f] 1 a0i
abbrev a0j(B:Bk P w K mg base)(k:Nat):=HB B "tree_of_set" k ["machine","states"] (spD K 2 B6 (.tp [.i,(.l .f)]))
def a3v(B:Bk P w K mg base)(jh:a1a B 123)(kr:b5z B 123):a0j B 124:=
 n9 B.d25 λ_ _ F=>fnF F ["machine","states","asks"] λsc _ _ _ _ _ _ hr=>by exact c6 (j6 2 sc.nd (b9 (by exact A2 jh hr (j9 (PX.newf (c7 0)) (E1)) (hfl:=(i8 A9))))) (c6 (r9 (a8Z (N4 (by exact hr.units)) (O2 B.tuple_ (c7 1)) (c7 2)) (f8 (k6 (b9 (a9o E4)))) n6) (f8 (k6 (b9 (by exact A2 kr hr (j9 (PX.newf (c7 0)) (j9 (PX.newf (c7 2)) (j9 (PX.frz (a3k p4 rfl (by exact hr.units) B.dict_ B.zip_ (PX.newf (c7 1)) (PX.newf (c7 1)))) (E1)))) (hfl:=(i8 (i8 (i8 A9)))))))))
def a4H:EvS:=(i4 (sEx (eCl C3 (b8 (b7 0) f6))) (i4 (sEx (eCl U8 (b8 (b7 0) (b8 (b7 1) f6)))) (m9 (eCl B6 (b8 (b7 0) (b8 (b7 1) f6))))))
def H9:=fnD [.f,.f] 0 a4H
abbrev a4I(B:Bk P w K mg base)(k:Nat):=HB B "tree_of" k ["machine","states"] (spD K 2 H9 (.tp [.i,(.l .f)]))
def a8u(B:Bk P w K mg base)(gy:Q0 B 124)(j_:a3t B 124)(iQ:a0j B 124):a4I B 125:=
 n9 B.d26 λ_ _ F=>fnF F ["machine","states"] λ_ _ _ _ _ _ _ hr=>by exact c6 (a8T (C2 gy hr (i5 (c7 0) m7))) (c6 (a8T (C2 j_ hr (i5 (c7 0) (i5 (c7 1) m7)))) (f8 (k6 (b9 (by exact A2 iQ hr (j9 (PX.newf (c7 0)) (j9 (PX.newf (c7 1)) (E1))) (hfl:=(i8 (i8 A9))))))))
def b_law_due(rc:List D->Option D):EvS:=(i4 (sIf (tB (e2 dEq (eCl A8 (b8 (b7 3) f6)) (eC (.int 1)))) (m9 (e2 v7 (e2 v7 (b7 3) (eC (.int 0))) (eC (.int 0)))) n5) (i4 (j8 4 (B3 (a1Q (l0 (iI (iL (b7 3))) [] pt2 tT (b7 1))))) (i4 (j8 5 (l0 (iL (e2 (P3 p4) (b7 1) (b7 4))) [2] pt1 tT (eCl m_law_deepest (b8 (b7 0) (b8 (b7 1) f6))))) (i4 (j8 6 (e2 a8f (b7 5) (e2 a2E (e2 (P3 p4) (b7 2) (b7 4)) (eC (.int 1))))) (i4 (j8 7 (G0 f6)) (i4 (I9 (iL (e2 dIx (e2 (P3 p4) (b7 1) (b7 4)) (b7 6))) (a5j 8 9) (i4 (j8 10 (l0 (iI (iL (b7 3))) [0,6,8] pt2 (tB (e2 dEq (e2 v7 (e2 v7 (e2 dIx (b7 2) (b7 1)) (b7 3)) (eC (.int 0))) (b7 4))) (B7 (b8 (b7 0) (b8 (e2 v7 (e2 v7 (e2 dIx (b7 2) (b7 1)) (b7 3)) (eC (.int 1))) f6))))) (C5 7 (.l .f) p6 (B7 (b8 (b7 8) (b8 (eCl rc (b8 (b7 0) (b8 (b7 1) (b8 (b7 2) (b8 (b7 10) f6))))) f6)))))) (m9 (B7 (b8 (b7 6) (b8 (b7 7) f6))))))))))
def m_law_due:Nat->List D->Option D
 |0=>λ_=>el
 |n+1=>fnD [.f,.f,.f,.f] 7 (b_law_due (m_law_due n))
abbrev b0W(B:Bk P w K mg base)(k:Nat):=HB B "_law_due" k ["_law_table","_law_moves_here","_law_deep_here","_law_pairs"] (spD K 4 (m_law_due 121) .f)
def ok_law_due(B:Bk P w K mg base)(mj:Q9 B 1):∀n:Nat,Has P w K mg base "_law_due" (2+n) ["_law_table","_law_moves_here","_law_deep_here","_law_pairs"] (spD K 4 (m_law_due n) .f):=by
 intro n
 induction n with
 |zero=>exact n9 B.d27 λ_ _ _=>a5o
 |succ n jb=>
  have fK:=mj.up (show 1<=2+n by lia);exact n9 B.d27 λ_ _ F=>fnF F ["_law_table","_law_moves_here","_law_deep_here","_law_pairs","_law_one","_law_fars","_law_ask","_law_branches","_law_answer_here","_law_to","_law_rest"] λsc _ _ _ _ _ _ hr=>by exact c6 (r9 (l5 E6 (B8 B.len_ (c7 3)) c8) (f8 (k6 (b9 (PX.itof (x9 (x9 (c7 3) c8) c8))))) n6) (c6 (j6 4 sc.nd (b9 (O2 B.tuple_ (a4l B.sorted_ (K5 rfl (tn:=["_law_start","_law_now"]) (ys:=[]) (m:=.i) (PIX.i (o9 (PX.newf (c7 3)))) rfl (λ_ _ _ _ _=>W2 rfl (p9 (o3 (i:=0) b6o rfl (dC rfl) (.inr rfl)) (p9 (o3 (i:=1) b6o rfl (dC rfl) (.inr rfl)) L9))) a2k (.inl rfl) a8R rfl (λ_ _ _ _ _=>D9) (λ_ _ _ _ _=>(PX.newi (e7 1)))))))) (c6 (D5 5 sc.nd rfl (tn:=["_law_to_sets"]) (ys:=["_law_deep_here"]) (o9 (U2 (kt:=p4) (by exact hr.units) (PX.newf (c7 1)) (e7 4))) rfl (λ_ _ _ _ _=>o3 (i:=0) c0E rfl (dC rfl) (.inr rfl)) B9 (.inr rfl) a5Y rfl (λ_ _ _ _ _=>D9) (λ_ _ _ _ _=>(C2 fK hr (i5 (c7 0) (i5 (c7 1) m7))))) (c6 (j6 6 sc.nd (b9 (b3d (by exact hr.units) (G9 5) (i9 T6 (U2 (kt:=p4) (by exact hr.units) (PX.newf (c7 2)) (e7 4)) c8)))) (c6 (j6 7 sc.nd (b9 (D3 (n:=0) n4))) (c6 (D4 rfl bN (o9 (u6 (U2 (kt:=p4) (by exact hr.units) (PX.newf (c7 1)) (e7 4)) (e7 6))) (W2 rfl (p9 (C1 8 sc.nd) (p9 (C1 9 sc.nd) L9))) (a7t (w:=.f) (.inl rfl)) (λ_ _ _ _ _ e=>nomatch e) (PSsX.weak (c6 (D5 10 sc.nd rfl (tn:=["_law_start","_law_now"]) (ys:=["_law_table","_law_ask","_law_answer_here"]) (PIX.i (o9 (PX.newf (c7 3)))) rfl (λ_ _ _ _ _=>W2 rfl (p9 (o3 (i:=0) b6p rfl (dC rfl) (.inr rfl)) (p9 (o3 (i:=1) b6p rfl (dC rfl) (.inr rfl)) L9))) a2k (.inl rfl) a8R rfl (λ_ _ _ _ _=>a2J (l5 E6 (x9 (x9 (u6 (PX.newf (c7 2)) (e7 1)) (e7 3)) c8) (c7 4))) (λ_ _ _ _ _=>(T7 (n:=2) (o8 (PX.newi (e7 0)) (o8 (x9 (x9 (u6 (PX.newf (c7 2)) (e7 1)) (e7 3)) c8) n4))))) (f8 (PSX.weak (L7 7 (F5 7) (b9 (PX.frz (a7n (o8 (PX.newf (c7 8)) (o8 (by exact A2 jb hr (j9 (PX.newf (c7 0)) (j9 (PX.newf (c7 1)) (j9 (PX.newf (c7 2)) (j9 (PX.newf (c7 10)) (E1))))) (hfl:=(i8 (i8 (i8 (i8 A9)))))) n4))))) X0) (E5 10) l7))) l7 (((k8 8).trans (k8 9)).trans (k8 10)))) (f8 (PSX.weak (k6 (b9 (PX.frz (a7n (o8 (PX.newi (e7 6)) (o8 (PX.newf (c7 7)) n4)))))) (E5 7) l7)))))))
def b_law_whole:EvS:=(m9 (a3N (e1 (λd=>cz (.bool (isInt d))) (b7 0)) (b1H (e1 (λd=>cz (.bool (isBool d))) (b7 0)))))
def m_law_whole:=fnD [.f] 0 b_law_whole
abbrev a2b(B:Bk P w K mg base)(k:Nat):=HB B "_law_whole" k ["_law_found"] (spD K 1 m_law_whole .i)
def ok_law_whole(B:Bk P w K mg base):a2b B 1:=
 n9 B.d28 λ_ _ F=>fnF F ["_law_found"] λ_ _ _ _ _ _ _ _=>by exact f8 (k6 (b9 (a0o (Q6 a8O B.isinstance_ B.int_ PyProof.Rows.Boot.«int» (c7 0)) (a1o (b1J (Q6 a5V B.isinstance_ B.bool_ PyProof.Rows.Boot.«bool» (c7 0)))))))
def b_law_alike(rc:List D->Option D):EvS:=(i4 (sIf (tNo (tV (e1 (λd=>cz (.bool (w6 d))) (b7 1)))) (m9 (a3N (eCl m_law_whole (b8 (b7 0) f6)) (e2 dEq (b7 0) (b7 1)))) n5) (i4 (sIf (R6 (tNo (tV (e1 (λd=>cz (.bool (w6 d))) (b7 0)))) (R6 (tB (e2 dNe (eCl A8 (b8 (b7 0) f6)) (eC (.int 2)))) (R6 (tNo (tV (eCl m_law_whole (b8 (e2 dIx (b7 0) (eC (.int 0))) f6)))) (tB (e2 dNe (e2 dIx (b7 0) (eC (.int 0))) (e2 dIx (b7 1) (eC (.int 0)))))))) (m9 (eC (.bool rp))) n5) (i4 (sIf (R6 (tNo (tV (e1 (λd=>cz (.bool (isList d))) (e2 dIx (b7 0) (eC (.int 1)))))) (tB (e2 dNe (eCl A8 (b8 (e2 dIx (b7 0) (eC (.int 1))) f6)) (eCl A8 (b8 (e2 dIx (b7 1) (eC (.int 1))) f6))))) (m9 (eC (.bool rp))) n5) (i4 (I9 (iR (eCl A8 (b8 (e2 dIx (b7 1) (eC (.int 1))) f6))) (v4 2) (i4 (j8 3 (e2 dIx (e2 dIx (b7 0) (eC (.int 1))) (b7 2))) (i4 (sIf (R6 (tNo (tV (e1 (λd=>cz (.bool (w6 d))) (b7 3)))) (R6 (tB (e2 dNe (eCl A8 (b8 (b7 3) f6)) (eC (.int 2)))) (R6 (tNo (tV (eCl m_law_whole (b8 (e2 dIx (b7 3) (eC (.int 0))) f6)))) (tB (e2 dNe (e2 dIx (b7 3) (eC (.int 0))) (e2 dIx (e2 dIx (e2 dIx (b7 1) (eC (.int 1))) (b7 2)) (eC (.int 0)))))))) (m9 (eC (.bool rp))) n5) (sIf (tNo (tV (eCl rc (b8 (e2 dIx (b7 3) (eC (.int 1))) (b8 (e2 dIx (e2 dIx (e2 dIx (b7 1) (eC (.int 1))) (b7 2)) (eC (.int 1))) f6))))) (m9 (eC (.bool rp))) n5)))) (m9 (eC (.bool p4)))))))
def m_law_alike:Nat->List D->Option D
 |0=>λ_=>el
 |n+1=>fnD [.f,.f] 2 (b_law_alike (m_law_alike n))
abbrev a6P(B:Bk P w K mg base)(k:Nat):=HB B "_law_alike" k ["_law_found","_law_due_here"] (spD K 2 (m_law_alike 121) .i)
def ok_law_alike(B:Bk P w K mg base)(nF:a2b B 1):∀n:Nat,Has P w K mg base "_law_alike" (2+n) ["_law_found","_law_due_here"] (spD K 2 (m_law_alike n) .i):=by
 intro n
 induction n with
 |zero=>exact n9 B.d29 λ_ _ _=>a5o
 |succ n gX=>
  have gW:=nF.up (show 1<=2+n by lia);exact n9 B.d29 λ_ _ F=>fnF F ["_law_found","_law_due_here","_law_k","_law_pair"] λsc _ _ _ _ _ _ hr=>by exact c6 (r9 (M5 (J3 (Q6 Y4 B.isinstance_ B.tuple_ PyProof.Rows.Boot.«tuple» (c7 1)))) (f8 (k6 (b9 (a0o (C2 gW hr (i5 (c7 0) m7)) (a1o (b1I E6 (c7 0) (c7 1))))))) n6) (c6 (r9 (PWX.pt (W7 (M5 (J3 (Q6 Y4 B.isinstance_ B.tuple_ PyProof.Rows.Boot.«tuple» (c7 0)))) (W7 (l5 Q8 (B8 B.len_ (c7 0)) c8) (W7 (M5 (J3 (C2 gW hr (i5 (u6 (PX.newf (c7 0)) c8) m7)))) (a2i (l5 Q8 (u6 (PX.newf (c7 0)) c8) (u6 (PX.newf (c7 1)) c8))))))) (f8 (k6 (b9 a0K))) n6) (c6 (r9 (PWX.pt (W7 (M5 (J3 (Q6 a5W B.isinstance_ B.list_ PyProof.Rows.Boot.«list» (u6 (PX.newf (c7 0)) c8)))) (a2i (l5 Q8 (B8 B.len_ (u6 (PX.newf (c7 0)) c8)) (B8 B.len_ (u6 (PX.newf (c7 1)) c8)))))) (f8 (k6 (b9 a0K))) n6) (c6 (D4 rfl bN (z9 B.range_ (B8 B.len_ (u6 (PX.newf (c7 1)) c8))) (C1 2 sc.nd) G6 a5k (PSsX.weak (c6 (j6 3 sc.nd (b9 (u6 (u6 (PX.newf (c7 0)) c8) (e7 2)))) (c6 (r9 (PWX.pt (W7 (M5 (J3 (Q6 Y4 B.isinstance_ B.tuple_ PyProof.Rows.Boot.«tuple» (c7 3)))) (W7 (l5 Q8 (B8 B.len_ (c7 3)) c8) (W7 (M5 (J3 (C2 gW hr (i5 (u6 (PX.newf (c7 3)) c8) m7)))) (a2i (l5 Q8 (u6 (PX.newf (c7 3)) c8) (u6 (u6 (u6 (PX.newf (c7 1)) c8) (e7 2)) c8))))))) (f8 (k6 (b9 a0K))) n6) (f8 (r9 (M5 (J3 (C2 gX hr (i5 (u6 (PX.newf (c7 3)) c8) (i5 (u6 (u6 (u6 (PX.newf (c7 1)) c8) (e7 2)) c8) m7))))) (f8 (k6 (b9 a0K))) n6)))) l7 ((k8 2).trans (k8 3)))) (f8 (k6 (b9 a0K))))))
def b_law:EvS:=(i4 (j8 1 (eCl m_law_machine (b8 (b7 0) (b8 (eC (.int 7)) (b8 (eC (.int 7)) f6))))) (i4 (j8 2 (eCl m_law_set (b8 (e2 E3 (e2 M4 (e2 v7 (eCl m_law_cells (b8 (b7 0) (b8 (eC (.int 5)) f6))) (eC (.int 4))) (eC (.int 48271))) (eC (.int 1000000007))) (b8 (eCl A8 (b8 (b7 1) f6)) f6)))) (i4 (j8 3 (eCl m_law_moves (b8 (b7 1) (b8 (b7 2) f6)))) (i4 (j8 4 (eCl m_law_deep (b8 (b7 3) f6))) (i4 (j8 5 (l0 (iL (b7 1)) [] pt1 tT (eI (a0d (b7 0))))) (i4 (I9 (iR (eC (.int 2))) (v4 6) (i4 (j8 7 (eI (a0d (b7 2)))) (i4 (j8 8 (eCl H9 (b8 (b7 5) (b8 (b7 7) f6)))) (i4 (sIf (R6 (tB (e2 dNe (b7 5) (b7 1))) (tB (e2 dNe (b7 7) (b7 2)))) (m9 (eC (.bool rp))) n5) (i4 (sIf (tB (e2 (a0P p4 p4) (B3 (b7 2)) (b7 4))) (sIf (tB (e2 (J1 p4) (b7 8) (eC .none))) (m9 (eC (.bool rp))) n5) (i4 (j8 9 (eCl (m_law_due 121) (b8 (b7 1) (b8 (b7 3) (b8 (b7 4) (b8 (l0 (iI (iL (b7 2))) [] pt1 tT (B7 (b8 (b7 0) (b8 (b7 0) f6)))) f6)))))) (sIf (tNo (tV (eCl (m_law_alike 121) (b8 (b7 8) (b8 (b7 9) f6))))) (m9 (eC (.bool rp))) n5))) (sIf (tV (e1 (λd=>cz (.bool (w6 d))) (b7 8))) (C5 8 (.tp [.i,(.l .f)]) (pIx 8 (.tp [.i,(.l .f)]) p6 (eC (.int 1))) (B7 (b8 (b7 6) (b8 (b7 6) f6)))) n5)))))) (m9 (eC (.bool p4)))))))))
def m_law:=fnD [.f] 9 b_law
def ok_law(B:Bk P w K mg base)(fS:X5 B 125)(iU:a0f B 125)(kJ:a4B B 125)(jH:a1Z B 125)(ka:a3n B 125)(kH:a4I B 125)(jb:b0W B 125)(gX:a6P B 125)(F:Fun K "law" "law" (top 41) f fd):FnOk P w K mg base CX0 126 f fd ["_law_script"] (spD K 1 m_law .i):=
 fnF F ["_law_script","_law_table","_law_some","_law_moves_here","_law_deep_here","_law_handed","_law_turn","_law_asked","_law_found","_law_due_here"] λsc _ _ _ _ _ _ hr=>by exact c6 (j6 1 sc.nd (b9 (C2 iU hr (i5 (c7 0) (i5 c8 (i5 c8 m7)))))) (c6 (j6 2 sc.nd (b9 (C2 kJ hr (i5 (i9 v5 (i9 L5 (x9 (C2 fS hr (i5 (c7 0) (i5 c8 m7))) c8) c8) c8) (i5 (B8 B.len_ (z8 1)) m7))))) (c6 (PSX.weak (j6 3 sc.nd (b9 (by exact A2 jH hr (j9 (PX.newf (c7 1)) (j9 (PX.newf (c7 2)) (E1))) (hfl:=(i8 (i8 A9)))))) ((E5 1).trans (E5 2)) l7) (c6 (j6 4 sc.nd (b9 (by exact A2 ka hr (j9 (PX.newf (c7 3)) (E1)) (hfl:=(i8 A9))))) (c6 (D5 5 sc.nd rfl (tn:=["_law_row"]) (ys:=[]) (o9 (PX.newf (c7 1))) rfl (λ_ _ _ _ _=>o3 (i:=0) c0J rfl (dC rfl) (.inr rfl)) B9 (.inr rfl) a5Y rfl (λ_ _ _ _ _=>D9) (λ_ _ _ _ _=>(MkL.i (a8Q B.list_ (PX.newf (c7 0)))))) (c6 (PSX.weak (D4 rfl bN (z9 B.range_ c8) (C1 6 sc.nd) G6 a5k (PSsX.weak (c6 (j6 7 sc.nd (b9 (MkL.i (a8Q B.list_ (PX.newf (c7 2)))))) (c6 (PSX.weak (j6 8 sc.nd (b9 (by exact A2 kH hr (j9 (PX.newf (c7 5)) (j9 (PX.newf (c7 7)) (E1))) (hfl:=(i8 (i8 A9)))))) (E5 7) l7) (c6 (r9 (PWX.pt (W7 (l5 Q8 (c7 5) (c7 1)) (a2i (l5 Q8 (c7 7) (c7 2))))) (f8 (k6 (b9 a0K))) n6) (c6 (r9 (a8Z (kt:=p4) (N4 (by exact hr.units)) (O2 B.tuple_ (c7 2)) (c7 4)) (f8 (r9 (l5 a0H (z8 8) E4) (f8 (k6 (b9 a0K))) n6)) (PSsX.weak (c6 (j6 9 sc.nd (b9 (by exact A2 jb hr (j9 (PX.newf (c7 1)) (j9 (PX.newf (c7 3)) (j9 (PX.newf (c7 4)) (j9 (PX.frz (K5 rfl (tn:=["_law_s"]) (ys:=[]) (m:=.i) (PIX.i (o9 (PX.newf (c7 2)))) rfl (λ_ _ _ _ _=>o3 (i:=0) c0K rfl (dC rfl) (.inr rfl)) B9 (.inl rfl) a1K rfl (λ_ _ _ _ _=>D9) (λ_ _ _ _ _=>(T7 (n:=2) (o8 (PX.newi (e7 0)) (o8 (PX.newi (e7 0)) n4)))))) (E1))))) (hfl:=(i8 (i8 (i8 (i8 A9)))))))) (f8 (r9 (M5 (J3 (C2 gX hr (i5 (z8 8) (i5 (c7 9) m7))))) (f8 (k6 (b9 a0K))) n6))) l7 (k8 9))) (f8 (r9 (J3 (Q6 Y4 B.isinstance_ B.tuple_ PyProof.Rows.Boot.«tuple» (z8 8))) (f8 (L7 8 (b7m (F5 8) c8) (b9 (PX.itof (T7 (n:=2) (o8 (PX.newi (e7 6)) (o8 (PX.newi (e7 6)) n4))))) (b9x (k:=1) rfl λ_=>rfl))) n6)))))) l7 (((k8 6).trans (k8 7)).trans (k8 8)))) (E5 5) l7) (f8 (k6 (b9 a0K))))))))
end Prog
namespace VS
open PySem L2
abbrev Ky:=List (Int×Int)
def snoc_ind{P:List α->Prop}(h0:P [])(h1:∀l x,P l->P (l++[x]))(l:List α):P l:=by
 have h:∀r:List α,P r.reverse:=by
  intro r
  induction r with
  |nil=>exact h0
  |cons x r ih=>rw[nN];exact h1 _ _ ih
 have:=h l.reverse
 rwa[List.reverse_reverse]at this
def c2h(seen:List Ky)(x:Ky):List Ky:=if x∈seen then seen else seen++[x]
def ded(ks:List Ky):List Ky:=ks.foldl c2h []
def c2i(ks:List Ky):List Int:=ks.map λx=>(((ded ks).idxOf x:Nat):Int)
def rn(r:Ky)(ls:List Int):Ky:=r.map λp=>(p.1,ls.getD p.2.toNat 0)
def lvl(m:l8):Nat->List Int
 |0=>m.map λ_=>0
 |d+1=>c2i (m.map λr=>rn r (lvl m d))
def kf(m:l8):Nat->Ky->Ky
 |0,_=>[]
 |d+1,r=>rn r (lvl m d)
def cls(m:l8)(d:Nat):Nat:=(ded (m.map (kf m d))).length
def lv(m:l8)(d:Nat)(s:Int):Int:=(lvl m d).getD s.toNat 0
def fp:Ky->Ky->Nat
 |x::xs,y::ys=>if x=y then fp xs ys+1 else 0
 |_,_=>0
def fa(m:l8)(d:Nat)(s t:Int):Int:=(fp (rn (rowAt m s) (lvl m d)) (rn (rowAt m t) (lvl m d)):Nat)
theorem a2r{I:Nat->List D->Prop}{Q:List D->Prop}(B:Nat)(step:∀j U,I j U->j<=B/\((c U=cz rp/\Q U)\/(c U=cz p4/\∃U',g U=cz (.nx U')/\I (j+1) U'))):∀n j U,I j U->B<n+j->∃U',whL c g n U=cz (.nx U')/\Q U'
 |0,j,U,h,hn=>absurd (step j U h).1 (by lia)
 |n+1,j,U,h,hn=>by
  rcases (step j U h).2 with⟨e,q⟩|⟨e,U',e2,h2⟩
  ·refine⟨U,?_,q⟩;show (c U).bind _=_;rw[e];rfl
  ·obtain⟨U2,e3,q⟩:=a2r B step n (j+1) U' h2 (by lia);refine⟨U2,?_,q⟩;show (c U).bind _=_;rw[e];show (g U).bind _=_;rw[e2];exact e3
def b8A:sWh (λ_=>n) c g U=whL c g n U:=rfl
def c2j(x:Ky):D:=.tuple (x.map stD)
def dz:List Ky->Nat->List (D×D)
 |[],_=>[]
 |x::xs,i=>(c2j x,.int i)::dz xs (i+1)
theorem a1z:∀(r:List Int) (i:Int),R9 i r∈i::r/\∀x∈i::r,x<=R9 i r
 |[],i=>⟨by simp[R9],λx hx=>by simp at hx;rw[hx];exact xf _⟩
 |y::r,i=>by
  have e:R9 i (y::r)=R9 (if y>i then y else i) r:=rfl;rw[e];by_cases c:y>i
  ·rw[aH c];obtain⟨h1,h2⟩:=a1z r y;refine⟨aq _ h1,λx hx=>?_⟩;rcases az.mp hx with z|z
   ·have:=h2 y (by simp);lia
   ·exact h2 x z
  ·rw[aM c];obtain⟨h1,h2⟩:=a1z r i;refine⟨?_,λx hx=>?_⟩
   ·rcases az.mp h1 with z|z
    ·rw[z];simp
    ·exact aq _ (aq _ z)
   ·rcases az.mp hx with z|z
    ·rw[z];exact h2 i (by simp)
    ·rcases az.mp z with y'|y'
     ·have:=h2 i (by simp);lia
     ·exact h2 x (aq _ y')
def b8B{ns:List Int}(h1:n∈ns)(h2:∀x∈ns,x<=n):b2h [.list (ns.map .int)]=cz (.int n):=by
 show (intsOf (ns.map aG)).bind _=_;rw[O5];cases ns with
 |nil=>cases h1
 |cons i r=>
  obtain⟨g1,g2⟩:=a1z r i;have a:=h2 _ g1;have b:=g2 _ h1;show cz (aG (R9 i r))=_;rw[show R9 i r=n by lia]
theorem a1A(p:α->Bool)(f:α->D):∀{xs:List α},(∀x∈xs,∃bs,pt (enc x)=cz bs/\t (bs++cs)=cz (p x)/\(p x=p4->g (bs++cs)=cz (f x)))->P6 pt t g cs (xs.map enc)=cz ((xs.filter p).map f)
 |[],_=>rfl
 |x::xs,h=>by
  obtain⟨bs,h1,h2,h3⟩:=h x ak;have ih:=a1A p f (xs:=xs) λe he=>h e (aq _ he)
  show (pt (enc x)).bind _=_;rw[h1];show (t (bs++cs)).bind _=_;rw[h2];cases c:p x with
  |true=>
   rw[dN c];show (g (bs++cs)).bind _=_;rw[h3 c];show (P6 pt t g cs (xs.map enc)).bind _=_;rw[ih];rfl
  |false=>
   rw[dm (by rw[c];decide)];exact ih
def b5A{js:List Nat}(p:Nat->Bool)(f:Nat->D)(hf:fi U=cz (G5 0 n))(hl:n<=1000000)(h:∀k:Nat,k<n->t (.int k::js.map λj=>U.getD j .none)=cz (p k)/\(p k=p4->g (.int k::js.map λj=>U.getD j .none)=cz (f k))) :
  l0 fi js pt1 t g U=cz (.list (((aJ n).filter p).map f)):=by
 unfold l0;rw[hf];show (if (G5 0 n).length<=1000000 then _ else el)=_;rw[aH (by rw[a7y];exact hl),a1w,a1A (enc:=λ(k:Nat)=>aG k) p f]
 ·rfl
 ·intro x hx;have:=h x (bR.mp hx);exact⟨[.int x],rfl,this.1,this.2⟩
def b0X{l:List Int}(h:i<l.length):l.getD i 0∈l:=by
 rw[aT,ar h];exact cH _
theorem a4J(f:α->D):∀{xs:List α},(∀x∈xs,∃bs,pt (enc x)=cz bs/\g (bs++cs)=cz (f x))->P6 pt tT g cs (xs.map enc)=cz (xs.map f)
 |[],_=>rfl
 |x::xs,h=>by
  obtain⟨bs,h1,h2⟩:=h x ak;have ih:=a4J f (xs:=xs) λe he=>h e (aq _ he)
  show (pt (enc x)).bind _=_;rw[h1];show (g (bs++cs)).bind _=_;rw[h2];show (P6 pt tT g cs (xs.map enc)).bind _=_;rw[ih];rfl
def F8{js:List Nat}{xs:List α}(f:α->D)(hf:fi U=cz (xs.map enc))(hl:xs.length<=1000000)(h:∀x∈xs,∃bs,pt (enc x)=cz bs/\g (bs++js.map λj=>U.getD j .none)=cz (f x)) :
  l0 fi js pt tT g U=cz (.list (xs.map f)):=by
 unfold l0;rw[hf];show (if (xs.map enc).length<=1000000 then _ else el)=_;rw[aH (by rw[ah];exact hl),a4J f h];rfl
def c2k(h:a U=cz (.list ds)):iEn a U=cz (O6 ds 0):=by
 unfold iEn;rw[h];rfl
section
variable {β α:Type}[DecidableEq β]
def dd1(W:List (β×α))(c:β×α):List (β×α):=if c.1∈W.map (·.1) then W else W++[c]
def dd(W C:List (β×α)):List (β×α):=C.foldl dd1 W
variable {W C C':List (β×α)}{c:β×α}{t:β}
end
def a2c{n:Nat}:∀{l:List Int},l.Nodup->(∀x∈l,0<=x/\x<(n:Int))->l.length<=n:=by
 induction n with
 |zero=>
  intro l _ h;cases l with
  |nil=>exact aD _
  |cons x l=>have:=h x (by simp);lia
 |succ n ih=>
  intro l hd h;have h1:=ih (l:=l.erase (n:Int)) (hd.erase _) λx hx=>by
   have h2:=(List.Nodup.mem_erase_iff hd).mp hx;have:=h x h2.2;have:=h2.1;lia
  have h2:=List.length_erase (a:=(n:Int)) (l:=l);by_cases c:(n:Int)∈l
  ·rw[aH c]at h2;lia
  ·rw[aM c]at h2;lia
def wl:List Int->List Int->Prop
 |a::p,b::q=>a<b\/(a=b/\wl p q)
 |_,_=>False
def bf(p q:List Int):Prop:=p.length<q.length\/(p.length=q.length/\wl p q)
abbrev b0Y:=List (Int×List Int)
def c0L(m:l8)(k:Nat)(e:Int×List Int):b0Y:=(aJ k).map λ(a:Nat)=>((stp m e.1 a).2,e.2++[(a:Int)])
abbrev W0:b0Y:=[(0,[])]
abbrev Sor(W:b0Y):Prop:=W.Pairwise λa b=>bf a.2 b.2
structure Met (m:l8) (k:Nat) (dn W:b0Y):Prop where
 eq:W=dd W0 (dn.flatMap (c0L m k))
 pre:∃nw,W=dn++nw
 sor:Sor W
 ql:∀e∈W,e.2.length<=dn.length
structure AllMet (m:l8) (k:Nat) (W:b0Y):Prop where
 eq:W=dd W0 (W.flatMap (c0L m k))
 sor:Sor W
 range:∀e∈W,0<=e.1/\e.1<(m.length:Int)
 ql:∀e∈W,e.2.length<=W.length
section
variable {α:Type}
def kvD(enc:α->D)(W:List (Int×α)):List (D×D):=W.map λe=>(aG e.1,enc e.2)
variable {enc:α->D}{W:List (Int×α)}{t:Int}{x:α}
def a9q:(kvD enc W).length=W.length:=ah ..
def b5B{V:List (Int×α)}:kvD enc (W++V)=kvD enc W++kvD enc V:=aO ..
def a2s:w9 (kvD enc W) (.int t)=decide (t∈W.map (·.1)):=by
 induction W with
 |nil=>rfl
 |cons e W ih=>
  show (aB (.int e.1) (.int t)||w9 (kvD enc W) (.int t))=_;rw[a2q,ih];by_cases h1:e.1=t
  ·simp[h1]
  ·have h2:t≠e.1:=λz=>h1 z.symm
   simp[h1,h2]
def b3s(h:t∉W.map (·.1)):q8 (kvD enc W) (.int t) (enc x)=kvD enc (W++[(t,x)]):=by
 unfold q8;rw[a2s,aV h,b5B];rfl
def dKey_i{t:Int}:n8 rp (.int t)=p4:=rfl
def a9r:(kvD enc W).all (λp=>n8 rp p.1)=p4:=by
 unfold kvD;rw[List.all_map,aY];exact λe _=>dKey_i
def b3t:(kvD enc W).map (·.1)=(W.map (·.1)).map aG:=by unfold kvD;rw[bH,bH];rfl
def b3u:(kvD enc W).map (·.2)=(W.map (·.2)).map enc:=by unfold kvD;rw[bH,bH];rfl
def b8C:dIn neg rp (.int t) (.dict (kvD enc W))=cz (.bool (neg !=decide (t∈W.map (·.1)))):=by
 show (if n8 rp (.int t) then cz (dh (neg !=w9 (kvD enc W) (.int t))) else el)=_;rw[dKey_i,a2s];rfl
end
def b3v(hv:fv U=cz d)(hk:fk U=cz k)(hd:U.getD i .none=.dict kvs)(hK:n8 kt k=p4)(hl:kvs.length<1000000)(hp:pOk kvs k=p4:=by exact b0g rfl) :
  A4 i kt fk fv U=cz (.nx (U.set i (.dict (q8 kvs k d)))):=by
 unfold A4;rw[hv];show (fk U).bind _=_;rw[hk];show (match U.getD i .none with|.dict kvs=>_|_=>_)=_;rw[hd];show (if _ then _ else _)=_;rw[aH (by rw[hK,aI hl,hp];rfl)]
def b5C(h:a U=cz (.dict (kvD aG W))):a5m a U=cz (.list ((W.map (·.2)).map .int)):=by
 unfold a5m;rw[h];show (if _ then _ else _)=_;rw[aH (by rw[a9r,b3u,m3 _ (λ_=>a0N)];rfl),b3u]
section
variable {β:Type}[DecidableEq β]
abbrev a4K(β:Type):=List (β×List Int)
def b6q(nx:β->Nat->β)(k:Nat)(e:β×List Int):a4K β:=(aJ k).map λ(a:Nat)=>(nx e.1 a,e.2++[(a:Int)])
abbrev WB(s:β):a4K β:=[(s,[])]
abbrev c0M(W:a4K β):Prop:=W.Pairwise λa b=>bf a.2 b.2
variable {nx:β->Nat->β}{k:Nat}{s:β}
structure MetB (nx:β->Nat->β) (k:Nat) (s:β) (P:β->Prop) (dn W:a4K β):Prop where
 eq:W=dd (WB s) (dn.flatMap (b6q nx k))
 pre:∃nw,W=dn++nw
 sor:c0M W
 ql:∀e∈W,e.2.length<=dn.length
 ok:∀e∈W,P e.1
structure AllB (nx:β->Nat->β) (k:Nat) (s:β) (P:β->Prop) (W:a4K β):Prop where
 eq:W=dd (WB s) (W.flatMap (b6q nx k))
 sor:c0M W
 ql:∀e∈W,e.2.length<=W.length
 ok:∀e∈W,P e.1
end
section
variable {β α:Type}[DecidableEq β]
structure KeyB (kt:Bool) (key:β->D):Prop where
 eqv:∀a b,aB (key a) (key b)=decide (a=b)
 ok:∀a,n8 kt (key a)=p4
 im:∀a,imm (key a)=p4
variable {key:β->D}{enc:α->D}{W:List (β×α)}{t:β}{x:α}{kt:Bool}
end
def b6r(h:argsOk us ds=p4):fnL us n g gm ds=a2O (g gm (ds++(.none::aR n .none))):=by
 unfold fnL;rw[aH h];cases g gm (ds++(.none::aR n .none)) with
 |none=>rfl
 |some o=>cases o<;>rfl
def c0N(h:f U=cz ds):b5f m us js fb f U=m (fnE us (js.map λj=>U.getD j .none) fb) ds:=by
 unfold b5f;rw[h];rfl
def c0O(h:argsOk us ds=p4):fnE us rh f ds=f (ds++rh):=aH h
def b6s(h:f U=cz ds):b0z m gm f U=m gm ds:=by
 unfold b0z;rw[h];rfl
def c2l(h:a U=cz (.tuple ds)):iT a U=cz ds:=by
 unfold iT;rw[h];rfl
abbrev PW:=List ((Int×Int)×List Int)
def c0P(hf:f U=cz (.list es))(hi:U.getD i .none=.list ds)(wc:g8 es=p4)(hl:ds.length+es.length<=1000000):a7M i f U=cz (.nx (U.set i (.list (ds++es)))):=by
 unfold a7M;rw[hf,bC,hi];simp only[wc,aI hl,eZ,gF]
def O8{ns:List Int}{j:Int}(a:0<=j)(b:j<ns.length):L2.atI (ns.map aG) j=cz (.int (ns.getD j.toNat 0)):=by
 rw[a2Q a (by rw[ah];exact b),gI];rw[aT,ar (by lia)];rfl
def a2t{js:List Nat}{xs:List α}(p:α->Bool)(f:α->D)(hf:fi U=cz (xs.map enc))(hl:xs.length<=1000000)(h:∀x∈xs,∃bs,pt (enc x)=cz bs/\t (bs++js.map λj=>U.getD j .none)=cz (p x)/\(p x=p4->g (bs++js.map λj=>U.getD j .none)=cz (f x))) :
  l0 fi js pt t g U=cz (.list ((xs.filter p).map f)):=by
 unfold l0;rw[hf];show (if (xs.map enc).length<=1000000 then _ else el)=_;rw[aH (by rw[ah];exact hl),a1A p f h];rfl
def a1B{α:Type}{enc:α->D}{set:List D->D->Option (List D)}{g:EvS}{xs:List α}{U:List D}(I:List α->List D->Prop)(R:D->Prop)(h0:I [] U)
  (step:∀pre x post,xs=pre++x::post->∀U,I pre U->∃U1,set U (enc x)=cz U1/\((∃U2,g U1=cz (.nx U2)/\I (pre++[x]) U2)\/∃d,g U1=cz (.rt d)/\R d)) :
  (∃U',L6 set g (xs.map enc) U=cz (.nx U')/\I xs U')\/∃d,L6 set g (xs.map enc) U=cz (.rt d)/\R d:=by
 have key:∀(post pre:List α) (U:List D),xs=pre++post->I pre U->(∃U',L6 set g (post.map enc) U=cz (.nx U')/\I xs U')\/∃d,L6 set g (post.map enc) U=cz (.rt d)/\R d:=by
  intro post
  induction post with
  |nil=>
   intro pre U e h;rw[bj]at e;subst e;exact .inl ⟨U,rfl,h⟩
  |cons x post ih=>
   intro pre U e h;obtain⟨U1,h1,h2⟩:=step pre x post e U h;rcases h2 with⟨U2,h2,h3⟩|⟨d,h2,h3⟩
   ·rcases ih (pre++[x]) U2 (by rw[e,ba];rfl) h3 with⟨U',h4,h5⟩|⟨d,h4,h5⟩
    ·refine .inl ⟨U',?_,h5⟩;show (set U (enc x)).bind _=_;rw[h1];show (g U1).bind _=_;rw[h2];exact h4
    ·refine .inr ⟨d,?_,h5⟩;show (set U (enc x)).bind _=_;rw[h1];show (g U1).bind _=_;rw[h2];exact h4
   ·refine .inr ⟨d,?_,h3⟩;show (set U (enc x)).bind _=_;rw[h1];show (g U1).bind _=_;rw[h2];rfl
 exact key xs [] U rfl h0
end VS
namespace Prog
open PySem L2 VS
abbrev GA:=List (List Int×List Int)
def c9(a:List Int):D:=.tuple (a.map .int)
def V8(e:Int)(es:List Int):List Int:=if e∈es then es else es++[e]
def a1b(a b:List Int):aB (c9 a) (c9 b)=decide (a=b):=by
 unfold c9;simp only[aB];exact a3m a b
theorem a2d:∀a:List Int,u4 (a.map aG)=p4
 |[]=>by simp only[cY,u4]
 |n::a=>by simp only[aA,u4,D8,a2d a,eZ]
def a3w(a:List Int):(c9 a).depth<=7:=by
 unfold c9;simp only[fq];have:=N5 aG 0 (λ_=>by rw[K0];exact aD _) a;lia
def b0Z(a:List Int):D8 (c9 a)=p4:=by
 unfold c9;simp only[D8];exact a2d a
def K2(a:List Int):n8 p4 (c9 a)=p4:=by
 unfold n8;rw[b0Z,aI (a3w a)];rfl
def dKey_i(e:Int):n8 rp (.int e)=p4:=by
 unfold n8;rw[show D8 (.int e)=p4 by simp only[D8],show (aG e).depth=0 from K0];rfl
def a3x:x∈V8 e es↔x∈es\/x=e:=by
 unfold V8;by_cases c:e∈es
 ·rw[aH c];exact⟨.inl,λh=>h.elim id λz=>z▸c⟩
 ·rw[aM c,ay,ai]
structure DdOk (f:Int->List Int×Int) (ss:List Int) (dd:GA):Prop where
 nd:(dd.map (·.1)).Nodup
 keys:∀a,a∈dd.map (·.1)↔∃s∈ss,(f s).1=a
 mem:∀q∈dd,∀e,e∈q.2↔∃s∈ss,f s=(q.1,e)
 nd2:∀q∈dd,q.2.Nodup
 len:dd.length<=ss.length
 b4W:∀q∈dd,q.2.length<=ss.length
end Prog
local macro_rules | `(tactic| walk_at "ev")=>`(tactic| simp -implicitDefEqProofs (disch:=first | omega | assumption | decide) only [VS.v_var,VS.v_c,VS.v_1,VS.v_2,VS.c1u,VS.a7w,VS.b6g,VS.b7H,VS.c1v,VS.b9I,VS.b9J,VS.b9K,VS.v_and,VS.v_or,VS.v_not,VS.b9L,VS.b6h,VS.b6i,VS.A0,VS.a0M,VS.b9M,VS.c1w,VS.b7I,VS.a2P,VS.b1Z,VS.b7J,VS.c1p,VS.c1q,VS.c1r,VS.b4G,VS.c1s,VS.c1t,VS.b7r,VS.b7s,VS.b7t,VS.b9D,VS.b9E,VS.b7u,VS.b7v,VS.b9F,VS.b9G,VS.b7w,VS.b7x,VS.b7y,VS.b7z,VS.b7A,VS.v8,VS.b7B,VS.b7C,VS.b7D,VS.b1X,VS.b7E,VS.b9H,VS.b4H,VS.b1Y,VS.b7F,VS.a8U,VS.b7G,VS.v_add,VS.v_sub,VS.v_lt,VS.c1x,VS.c1y,VS.c1z,VS.b9N,VS.b9O,VS.b7K,VS.b7L,VS.b9P,VS.b9Q,VS.b9R,VS.b9S,VS.b9T,VS.a8V,VS.v_mod,VS.v_div,VS.c1O,VS.c0j,VS.c0k,VS.trB,VS.c0l,VS.b8n,VS.b3f,VS.b5s,VS.b3g,VS.b3h,VS.b5t,VS.b0S,VS.a8i,VS.a8j,VS.a8k,VS.b0T,VS.b0U,VS.a8l,VS.a8m,VS.a6C,VS.a6D,VS.a6E,VS.a8n,VS.a8o,VS.a6F,VS.isList_list,VS.isList_int,VS.a6G,VS.isList_bool,VS.a8p,VS.isList_str,VS.isList_dict,VS.a6H,VS.isTuple_list,VS.isTuple_int,VS.b3i,VS.a6I,VS.a9p,VS.c0m,VS.c0n,VS.b5u,VS.c1X,VS.V7,VS.L8,VS.b8o,VS.b8p,VS.c0p,VS.c0q,VS.c1Y,VS.at0,VS.at1,VS.c0y,VS.c0z,VS.b8u,VS.b5x,VS.c0A,VS.b5y,List.getD_cons_zero,List.getD_cons_succ,mW,jL,jr,gR,br,cB,bj,iX,Bool.not_false,iW,gd,Bool.false_and,lV,VS.c1P,VS.c1Q,VS.c1R,VS.c1S,VS.c1T,VS.c1U,VS.c1V,VS.c1W,decide_true,decide_false,ah,aA,cY])
namespace Prog
open PySem L2 VS
def f7(g:List Int->D)(l:List (List Int)):List (D×D):=l.map λp=>(c9 p,g p)
def a3S(p:List Int)(l:List (List Int)):List (List Int):=if p∈l then l else l++[p]
section
variable {g:List Int->D}{l:List (List Int)}{a:List Int}
def a3y:(f7 g l).length=l.length:=ah ..
theorem K3(a:List Int):∀l:List (List Int),w9 (f7 g l) (c9 a)=decide (a∈l)
 |[]=>rfl
 |q::l=>by
  have ih:=K3 a l;unfold w9 f7 at ih ⊢;rw[aA,ki,ih,a1b,cJ];simp only[ia,bK,az];exact or_congr_left eq_comm
theorem Z3:∀{l:List (List Int)},a∈l->A3 (f7 g l) (c9 a)=cz (g a)
 |[],h=>nomatch h
 |q::l,h=>by
  by_cases c:q=a
  ·unfold A3 f7;rw[aA,h_,a1b,aI c];subst c;rfl
  ·have ih:=Z3 (l:=l) ((az.mp h).resolve_left λz=>c z.symm);unfold A3 f7 at ih ⊢;rw[aA,h_,a1b,aV c];exact ih
def b3w:q8 (f7 g l) (c9 a) (g a)=f7 g (a3S a l):=by
 unfold q8 a3S;rw[K3];by_cases c:a∈l
 ·rw[aI c,aH rfl,aH c];unfold f7;rw[bH];refine cn λx _=>?_
  show (if aB (c9 x) (c9 a)=p4 then (c9 x,g a) else (c9 x,g x))=(c9 x,g x);rw[a1b];by_cases e:x=a
  ·rw[aI e,aH rfl,e]
  ·rw[aV e,aM aW]
 ·rw[aV c,aM c,aM aW];unfold f7;rw[aO];rfl
def X7(l:List (List Int)):keysOk p4 (f7 g l)=p4:=by
 unfold keysOk f7;rw[aY];intro p hp;obtain⟨q,_,rfl⟩:=aX.mp hp;exact K2 q
def a4L:(f7 g l).map (·.1)=l.map c9:=by unfold f7;rw[bH];rfl
def b3x:a0P neg p4 (c9 a) (.dict (f7 g l))=cz (.bool (neg !=decide (a∈l))):=by
 show (if n8 p4 (c9 a)&&keysOk p4 (f7 g l) then cz (dh (neg !=w9 (f7 g l) (c9 a))) else el)=_;rw[K2,X7,K3];rfl
def a4M(h:a∈l):P3 p4 (.dict (f7 g l)) (c9 a)=cz (g a):=by
 show (if n8 p4 (c9 a)&&keysOk p4 (f7 g l) then A3 (f7 g l) (c9 a) else el)=_;rw[K2,X7,Z3 h];rfl
def b8D(h:f U=cz (.dict (f7 g l)))(hL:T4 (f7 g l)=rp):iDk f U=cz (l.map c9):=by
 unfold iDk;rw[h,bC];show (if T4 (f7 g l) then el else cz ((f7 g l).map (·.1)))=_;rw[a4L (g:=g),hL];rfl
def a1c(hv:fv U=cz (g a))(hk:fk U=cz (c9 a))(hd:U.getD i .none=.dict (f7 g l))(hl:l.length<1000000)(hp:a∉l):A4 i p4 fk fv U=cz (.nx (U.set i (.dict (f7 g (a3S a l))))):=by
 rw[b3v hv hk hd (K2 a) (by rw[a3y];exact hl) (b4K (by rw[K3];exact aV hp)),b3w]
end
end Prog
namespace VS
open PySem L2
section
variable {β:Type}[DecidableEq β]{nx:β->Nat->β}{k:Nat}{s:β}{P:β->Prop}{W:a4K β}
def c0Q(nx:β->Nat->β)(b:β)(p:List Int):β:=p.foldl (λb a=>nx b a.toNat) b
end
def b3y(Y:List Int)(v x:Int):x∈dM Y v↔x∈Y\/x=v:=by
 unfold dM
 split
 ·rename_i h
  refine⟨.inl,λz=>z.elim id λe=>?_⟩;obtain⟨y,h1,h2⟩:=cI.mp h;rw[e,<-kG.mp h2];exact h1
 ·simp
def b5D{Y:List Int}(v:Int)(h:Y.Nodup):(dM Y v).Nodup:=by
 unfold dM
 split
 ·exact h
 ·rename_i c
  refine aZ.mpr ⟨h,by simp,λa ha b hb=>?_⟩;rw[ai.mp hb];rintro rfl;exact c (cI.mpr ⟨a,ha,fR a⟩)
theorem a3z:∀(l Y:List Int),(∀x,x∈l.foldl dM Y↔x∈Y\/x∈l)/\(Y.Nodup->(l.foldl dM Y).Nodup)
 |[],Y=>⟨λx=>by simp,id⟩
 |v::l,Y=>by
  obtain⟨h1,h2⟩:=a3z l (dM Y v);refine⟨λx=>?_,λh=>h2 (b5D v h)⟩;rw[pI,h1,b3y,az]
  constructor
  ·rintro ((a|a)|a)
   ·exact .inl a
   ·exact .inr (.inl a)
   ·exact .inr (.inr a)
  ·rintro (a|a|a)
   ·exact .inl (.inl a)
   ·exact .inl (.inr a)
   ·exact .inr a
def a3A(ns:List Int):(aJ ns.length).map (λi=>ns.getD i 0)=ns:=by
 refine List.ext_getElem (by simp) λi h1 h2=>?_
 simp[aT,ar h2]
def b5E:x∈dis ns↔x∈ns:=by
 unfold dis lr;rw[a3A,(a3z ns []).1];simp
def b8E(ns:List Int):(dis ns).Nodup:=by
 unfold dis lr;exact (a3z _ []).2 bw
abbrev Inc(b:List Int):Prop:=b.Pairwise (· < ·)
def a1d(ns:List Int):List Int:=srt (dis ns)
def L3:x∈a1d ns↔x∈ns:=by unfold a1d;rw[(l9 _).mem_iff,b5E]
def L4(ns:List Int):Inc (a1d ns):=by
 have h1:=U0 (dis ns);have h2:(srt (dis ns)).Nodup:=(l9 _).nodup_iff.mpr (b8E ns);exact (h1.and h2).imp λ{a b} h=>by have:=h.1;have:=h.2;lia
def a0x(ha:Inc a)(hb:Inc b)(h:∀x,x∈a↔x∈b):a=b:=by
 have hp:a.Perm b:=(jM (ha.imp λh=>by lia) (hb.imp λh=>by lia)).mpr h;exact hp.eq_of_pairwise (le:=(· < ·)) (λ_ _ _ _ h h'=>by lia) ha hb
def b1a(hb:Inc b):a1d b=b:=a0x (L4 b) hb λx=>L3
def nxS(m:l8)(b:List Int)(a:Nat):List Int:=a1d (b.map λs=>(stp m s a).2)
def SetK(m:l8)(b:List Int):Prop:=Inc b/\b≠[]/\∀s∈b,0<=s/\s<(m.length:Int)
theorem a4N[DecidableEq α]:∀{l L:List α},l.Nodup->(∀x∈l,x∈L)->l.length<=L.length
 |[],_,_,_=>b_ _
 |a::l,L,hn,h=>by
  rw[bz]at hn;have ha:=h a ak;have:=a4N (l:=l) (L:=L.erase a) hn.2 λx hx=>(List.mem_erase_of_ne (show x≠a from λe=>hn.1 (e▸hx))).mpr (h x (aq _ hx))
  rw[List.length_erase_of_mem ha]at this;have:=uB ha;rw[bx];lia
structure Gat (m:l8) (k:Nat) (b:List Int) (o:Option (List Int)):Prop where
 ok:∀q,o=cz q->(∀a∈q,0<=a/\a<(k:Int))/\(c0Q (nxS m) b q).length=1
 least:∀p,(∀a∈p,0<=a/\a<(k:Int))->(c0Q (nxS m) b p).length=1->∃q,o=cz q/\(q=p\/bf q p)
end VS
namespace Prog
open PySem L2 VS
def toA(m:l8)(a:Nat)(L:List Int)(x:Int):List Int:=(L.filter λs=>decide ((stp m s a).1=x)).map λs=>(stp m s a).2
def prt(m:l8)(a:Nat)(S:List Int)(x:Int):List Int:=a1d (toA m a S x)
def B1(m:l8)(a:Nat)(S:List Int):Bool:=decide (S.map λs=>stp m s a).Nodup
theorem a3B{α β:Type}{f:α->β}:∀{l:List α},(l.map f).Nodup->∀{x y:α},x∈l->y∈l->f x=f y->x=y
 |[],_,_,_,h,_,_=>nomatch h
 |z::l,hn,x,y,hx,hy,e=>by
  rw[aA,bz]at hn;rcases az.mp hx with h1|h1
  ·rcases az.mp hy with h2|h2
   ·rw[h1,h2]
   ·exact absurd (by rw[<-h1,e];exact bt h2) hn.1
  ·rcases az.mp hy with h2|h2
   ·exact absurd (by rw[<-h2,<-e];exact bt h1) hn.1
   ·exact a3B hn.2 h1 h2 e
theorem a4O{α β:Type}{f:α->β}:∀{l:List α},l.Nodup->(∀x∈l,∀y∈l,f x=f y->x=y)->(l.map f).Nodup
 |[],_,_=>bw
 |z::l,hn,h=>by
  rw[bz]at hn;rw[aA,bz];refine⟨λq=>?_,a4O hn.2 λx hx y hy=>h x (aq _ hx) y (aq _ hy)⟩;obtain⟨y,hy,e⟩:=aX.mp q;exact hn.1 (h z ak y (aq _ hy) e.symm▸hy)
section
variable {m:l8}{k a:Nat}{S L:List Int}{x y:Int}
def a1e:y∈toA m a S x↔∃s∈S,stp m s a=(x,y):=by
 unfold toA;rw[aX]
 constructor
 ·rintro⟨s,hs,rfl⟩;have:=bu.mp hs;exact⟨s,this.1,by rw[<-aP this.2]⟩
 ·rintro⟨s,hs,e⟩;exact⟨s,bu.mpr ⟨hs,by rw[e];exact aI rfl⟩,by rw[e]⟩
def a2u:y∈prt m a S x↔∃s∈S,stp m s a=(x,y):=by unfold prt;rw[L3,a1e]
def b5F:Inc (prt m a S x):=L4 _
def a5w(h:(S.map λs=>stp m s a).Nodup):(toA m a S x).Nodup:=by
 have hn:S.Nodup:=xc _ (λa b q e=>q (by rw[e])) h;unfold toA;refine a4O (hn.filter _) λs hs t ht e=>a3B h (bu.mp hs).1 (bu.mp ht).1 ?_
 have h1:=aP (bu.mp hs).2;have h2:=aP (bu.mp ht).2;exact Prod.ext (by rw[h1,h2]) e
def a4P(h:L.Perm S):B1 m a L=B1 m a S:=by
 unfold B1;rw[cJ,bK,bK];exact (h.map _).nodup_iff
theorem SetK.prt(w:WF m k)(h:SetK m S)(ha:a<k)(hs:s∈S):SetK m (prt m a S (stp m s a).1):=by
 refine⟨b5F,λe=>?_,λy hy=>?_⟩
 ·have:(stp m s a).2∈Prog.prt m a S (stp m s a).1:=a2u.mpr ⟨s,hs,rfl⟩;rw[e]at this;cases this
 ·obtain⟨t,ht,e⟩:=a2u.mp hy;have:=h.2.2 t ht;have:=w.nx this.1 this.2 (a:=(a:Int)) (by lia) (by lia);rw[e]at this;exact this
def Z4(h:L.Nodup):srt L=a1d L:=by
 refine a0x ?_ (L4 L) λx=>by rw[L3,(l9 L).mem_iff]
 have h2:(srt L).Nodup:=(l9 L).nodup_iff.mpr h;exact ((U0 L).and h2).imp λ{a b} h=>by have:=h.1;have:=h.2;lia
end
def tst(T:List Int->Bool)(m:l8)(a:Nat)(S:List Int):Bool:=B1 m a S&&S.all λs=>T (prt m a S (stp m s a).1)
def tb(m:l8)(k:Nat):Nat->List Int->Bool
 |0,S=>decide (S.length=1)
 |d+1,S=>tb m k d S||(aJ k).any λa=>tst (tb m k d) m a S
def lta(m:l8)(k d:Nat)(S:List Int):Option Nat:=(aJ k).find? λa=>tst (tb m k d) m a S
section
variable {m:l8}{k d e:Nat}{S:List Int}
def b6t(h:tb m k d S=p4):tb m k (d+1) S=p4:=by show (tb m k d S||_)=p4;rw[h];rfl
def V5(h:tb m k d S=p4)(hl:d<=e):tb m k e S=p4:=by
 induction hl with
 |refl=>exact h
 |step _ ih=>exact b6t ih
def Z5:tb m k (d+1) S=(tb m k d S||(lta m k d S).isSome):=by
 show (tb m k d S||_)=_
 congr 1;unfold lta;rw[cJ,cI,nO]
def a3C(h:lta m k d S=cz a):a<k/\tst (tb m k d) m a S=p4:=by
 unfold lta at h;exact⟨bR.mp (rz h),Hs (p:=λa=>tst (tb m k d) m a S) h⟩
def o6(m:l8)(k:Nat)(S:List Int):D:=if S.length=1 then .none else match (aJ 200).find? λe=>(lta m k e S).isSome with
 |some e=>match lta m k e S with
  |some a=>.int a
  |none=>.none
 |none=>.none
def a5x(h1:S.length≠1)(h2:tb m k d S=rp)(h3:lta m k d S=cz a)(hd:d<200):o6 m k S=.int a:=by
 have hf:((aJ 200).find? λe=>(lta m k e S).isSome)=cz d:=by
  rw[hW];refine⟨by rw[h3];rfl,bR.mpr hd,λj hj=>?_⟩;cases x:lta m k j S with
  |none=>rfl
  |some b=>
   have:tb m k (j+1) S=p4:=by rw[Z5,x,Bool.or_comm];rfl
   have:=V5 this (show j+1<=d by lia);rw[h2]at this;cases this
 unfold o6;rw[aM h1,hf];show (match lta m k d S with|some a=>aG a|none=>.none)=_;rw[h3]
theorem b3z:∀(j:Nat),j<=200->tb m k j S=p4->S.length≠1->∃e a,e<j/\a<k/\o6 m k S=.int (a:Nat)/\tst (tb m k e) m a S=p4
 |0,_,h,h1=>absurd (aP h) h1
 |j+1,hj,h,h1=>by
  cases x:tb m k j S with
  |true=>
   obtain⟨e,a,q1,q2⟩:=b3z j (by lia) x h1;exact⟨e,a,by lia,q2⟩
  |false=>
   rw[Z5,x,sr]at h;obtain⟨a,ha⟩:=fL.mp h;have:=a3C ha;exact⟨j,a,by lia,this.1,a5x h1 x ha (by lia),this.2⟩
end
def lfS(m:l8)(k:Nat)(A:List (List Int))(d:Nat):List (List Int):=A.filter λS=>!tb m k d S
def nwS(m:l8)(k:Nat)(A:List (List Int))(d:Nat):List (List Int):=(lfS m k A d).filter λS=>(lta m k d S).isSome
def kdS(m:l8)(k:Nat)(A:List (List Int)):Nat->List (List Int)
 |0=>A.filter λS=>decide (S.length=1)
 |d+1=>kdS m k A d++nwS m k A d
section
variable {m:l8}{k:Nat}{A:List (List Int)}{d:Nat}{S:List Int}
def U9:S∈lfS m k A d↔S∈A/\tb m k d S=rp:=by
 unfold lfS;rw[bu,gk]
def Z6:S∈nwS m k A d↔S∈A/\tb m k d S=rp/\(lta m k d S).isSome=p4:=by
 unfold nwS;rw[bu,U9,and_assoc]
theorem p8:∀{d:Nat},S∈kdS m k A d↔S∈A/\tb m k d S=p4
 |0=>by show S∈A.filter _↔_;rw[bu];rfl
 |d+1=>by
  show S∈kdS m k A d++nwS m k A d↔_;rw[ay,p8 (d:=d),Z6,Z5,ia]
  constructor
  ·rintro (⟨q1,q2⟩|⟨q1,q2,q3⟩)
   ·exact⟨q1,.inl q2⟩
   ·exact⟨q1,.inr q3⟩
  ·rintro⟨q1,q2⟩;cases x:tb m k d S with
   |true=>exact .inl ⟨q1,rfl⟩
   |false=>exact .inr ⟨q1,rfl,q2.resolve_left (by rw[x];decide)⟩
theorem a5y(hA:A.Nodup):∀d,(kdS m k A d).Nodup
 |0=>hA.filter _
 |d+1=>by
  show (kdS m k A d++nwS m k A d).Nodup;rw[aZ];refine⟨a5y hA d,(hA.filter _).filter _,λx hx y hy e=>?_⟩;subst e;have h1:=(p8.mp hx).2;rw[(Z6.mp hy).2.1]at h1;cases h1
def a6Q:(lfS m k A d).filter (λS=>!decide (S∈nwS m k A d))=lfS m k A (d+1):=by
 have e:∀S∈lfS m k A d,(!decide (S∈nwS m k A d))=!tb m k (d+1) S:=by
  intro S hS;have h:=U9.mp hS
  congr 1;rw[cJ,bK,Z6,Z5,h.2,sr];exact⟨λq=>q.2.2,λq=>⟨h.1,rfl,q⟩⟩
 rw[nQ e];unfold lfS;rw[Al];refine nQ λS _=>?_
 cases x:tb m k d S with
 |true=>rw[b6t x];rfl
 |false=>simp
def a6R(h:nwS m k A d≠[]):(lfS m k A (d+1)).length<(lfS m k A d).length:=by
 rw[<-a6Q];obtain⟨x,hx⟩:=rA _ h;exact List.length_filter_lt_length_iff_exists.mpr ⟨x,(bu.mp hx).1,by rw[aI hx];decide⟩
def a9s(h:nwS m k A d=[])(hS:S∈A)(ha:a<k)(ht:tst (tb m k d) m a S=p4):tb m k d S=p4:=by
 cases x:tb m k d S with
 |true=>rfl
 |false=>
  have:S∈nwS m k A d:=Z6.mpr ⟨hS,x,by unfold lta;rw[nO];exact⟨a,bR.mpr ha,ht⟩⟩;rw[h]at this;cases this
end
def y7(g:Int->D)(ks:List Int):List (D×D):=ks.map λx=>(aG x,g x)
section
variable {g h:Int->D}{ks:List Int}{x:Int}
def a9t:y7 g ks=kvD g (ks.map λx=>(x,x)):=by unfold y7 kvD;rw[bH];rfl
def a4Q:(y7 g ks).map (·.1)=ks.map aG:=by unfold y7;rw[bH];rfl
def a6S:(y7 g ks).length=ks.length:=ah ..
def a1C:w9 (y7 g ks) (.int x)=decide (x∈ks):=by rw[a9t,a2s,bH];congr 2;exact jB ks
def Z7:x∈ks->A3 (y7 g ks) (.int x)=cz (g x):=by
 induction ks with
 |nil=>intro h;cases h
 |cons y ks ih=>
  intro hx;unfold A3 y7 at ih ⊢;rw[aA,h_];show Option.map _ (match aB (.int y) (.int x) with|true=>_|false=>_)=_;rw[a2q];by_cases c:y=x
  ·rw[aI c,c];rfl
  ·rw[aV c];exact ih ((az.mp hx).resolve_left λz=>c z.symm)
def a2e:keysOk rp (y7 g ks)=p4:=by
 unfold keysOk y7;rw[aY];intro p hp;obtain⟨q,_,rfl⟩:=aX.mp hp;exact dKey_i q
def b1b(hx:x∉ks->g x=h x):p7 (y7 g ks) (.int x) (h x)=y7 g (V8 x ks):=by
 unfold p7 V8;rw[a1C];by_cases c:x∈ks
 ·rw[aI c,aH rfl,aH c]
 ·rw[aV c,aM aW,aM c,<-hx c];unfold y7;rw[aO];rfl
def a6T(hx:x∈ks)(hh:∀y,y≠x->h y=g y):q8 (y7 g ks) (.int x) (h x)=y7 h ks:=by
 unfold q8;rw[a1C,aI hx,aH rfl];unfold y7;rw[bH];refine cn λy _=>?_
 show (if aB (.int y) (.int x)=p4 then (aG y,h x) else (aG y,g y))=(aG y,h y);rw[a2q];by_cases c:y=x
 ·rw[aI c,aH rfl,c]
 ·rw[aV c,aM aW,hh y c]
def b8F(hx:x∈ks):P3 rp (.dict (y7 g ks)) (.int x)=cz (g x):=by
 show (if n8 rp (.int x)&&keysOk rp (y7 g ks) then A3 (y7 g ks) (.int x) else el)=_;rw[dKey_i,a2e,Z7 hx];rfl
def a1f{es:List Int}(ha:a U=cz (.dict kvs))(he:kvs.map (·.1)=es.map aG)(hl:es.length<60):C0 a U=cz (iD (srt es)):=by
 unfold C0;rw[ha,bC];show (intsOf (kvs.map (·.1))).bind _=_;rw[he,O5,bC,aH (by lia)]
def b5G(hn:ks.Nodup):(V8 x ks).Nodup:=by
 unfold V8;by_cases c:x∈ks
 ·rw[aH c];exact hn
 ·rw[aM c,aZ];exact⟨hn,by simp,λy hy z hz e=>c (by rw[ai]at hz;rw[<-hz,<-e];exact hy)⟩
end
def ddE(l:List Int):List Int:=l.foldl (λacc x=>V8 x acc) []
def a1g(l:List Int)(x:Int):ddE (l++[x])=V8 x (ddE l):=by unfold ddE;rw[List.foldl_append];rfl
def a2v(l:List Int):y∈ddE l↔y∈l:=by
 induction l using snoc_ind with
 |h0=>exact⟨λh=>(nomatch h),λh=>(nomatch h)⟩
 |h1 l x ih=>rw[a1g,a3x,ih,ay,ai]
def a8v(l:List Int):(ddE l).Nodup:=by
 induction l using snoc_ind with
 |h0=>exact bw
 |h1 l x ih=>rw[a1g];exact b5G ih
def a1h(l:List Int):(ddE l).length<=l.length:=a4N (a8v l) λx hx=>(a2v l).mp hx
abbrev BG:=List (Int×Int)
def gp(m:l8)(a:Nat)(B:BG)(x:Int):BG:=(B.filter λp=>decide ((stp m p.1 a).1=x)).map λp=>((stp m p.1 a).2,p.2)
def anL(m:l8)(a:Nat)(B:BG):List Int:=ddE (B.map λp=>(stp m p.1 a).1)
def bgD(B:BG):D:=.dict (kvD aG B)
def ptD(m:l8)(a:Nat)(B:BG):D:=.dict (y7 (λx=>bgD (gp m a B x)) (anL m a B))
section
variable {m:l8}{a:Nat}{B:BG}{x y:Int}
def Z8:(gp m a B x).map (·.1)=toA m a (B.map (·.1)) x:=by
 unfold gp toA;rw[bH,List.filter_map,bH];rfl
def b8G:y∈(gp m a B x).map (·.1)↔(x,y)∈B.map λp=>stp m p.1 a:=by
 rw[Z8,a1e,aX]
 constructor
 ·rintro⟨s,hs,e⟩;obtain⟨p,hp,rfl⟩:=aX.mp hs;exact⟨p,hp,e⟩
 ·rintro⟨p,hp,e⟩;exact⟨p.1,bt hp,e⟩
def a9u(p:Int×Int):gp m a (B++[p]) x=if (stp m p.1 a).1=x then gp m a B x++[((stp m p.1 a).2,p.2)] else gp m a B x:=by
 unfold gp;rw[eh,aO];by_cases c:(stp m p.1 a).1=x
 ·rw[aH c,dN (by exact aI c)];rfl
 ·rw[aM c,dm (by rw[aV c];exact aW)];simp
def b5H(h:x∉anL m a B):gp m a B x=[]:=by
 unfold gp;rw[kP.mpr λp hp c=>h ((a2v _).mpr (aX.mpr ⟨p,hp,aP c⟩))];rfl
def b3A(p:Int×Int):anL m a (B++[p])=V8 (stp m p.1 a).1 (anL m a B):=by unfold anL;rw[aO];exact a1g _ _
def b6u:(gp m a B x).length<=B.length:=by unfold gp;rw[ah];exact dg _ _
def a0y:(anL m a B).length<=B.length:=by have:=a1h (B.map λp=>(stp m p.1 a).1);rw[ah]at this;exact this
def V0:x∈anL m a B↔∃p∈B,(stp m p.1 a).1=x:=by unfold anL;rw[a2v,aX]
def b5I{U:List D}{p:Int×Int}(hd:U.getD i .none=ptD m a B)(hk:fk U=cz (.int (stp m p.1 a).1))(hj:∀x,fj (U.set i x)=cz (.int (stp m p.1 a).2))(hr:∀x,fr (U.set i x)=cz .none)(hv:∀x,fv (U.set i x)=cz (.int p.2))(hl:B.length<1000) :
  a3l i rp rp fk fj fr fv U=if stp m p.1 a∈B.map (λp=>stp m p.1 a) then cz (.rt .none) else cz (.nx (U.set i (ptD m a (B++[p])))):=by
 have hg:=b6u (m:=m) (a:=a) (B:=B) (x:=(stp m p.1 a).1);have ha:=a0y (m:=m) (a:=a) (B:=B);have e1:p7 (y7 (λx=>bgD (gp m a B x)) (anL m a B)) (.int (stp m p.1 a).1) (.dict [])=y7 (λx=>bgD (gp m a B x)) (V8 (stp m p.1 a).1 (anL m a B)):=
  b1b (h:=λ_=>bgD []) λq=>by show bgD (gp m a B _)=_;rw[b5H q]
 have jy:(stp m p.1 a).1∈V8 (stp m p.1 a).1 (anL m a B):=a3x.mpr (.inr rfl);unfold a3l;rw[hk,bC,hd];unfold ptD;show (if n8 rp (.int (stp m p.1 a).1)&&decide ((y7 (λx=>bgD (gp m a B x)) (anL m a B)).length<1000000) then _ else el)=_;rw[dKey_i,a6S,aI (by lia),iW,aH rfl,hj,bC,e1,Z7 jy];show (if n8 rp (.int (stp m p.1 a).2)&&decide ((kvD aG (gp m a B (stp m p.1 a).1)).length<1000000) then _ else el)=_;rw[dKey_i,a9q,aI (by lia),iW,aH rfl,a2s];have hm:((stp m p.1 a).2∈(gp m a B (stp m p.1 a).1).map (·.1))↔stp m p.1 a∈B.map (λp=>stp m p.1 a):=b8G;by_cases c:stp m p.1 a∈B.map (λp=>stp m p.1 a)
 ·rw[aI (hm.mpr c),aH rfl,aH c,hr];rfl
 ·have hn:=λz=>c (hm.mp z)
  rw[aV hn,aM aW,aM c,hv,bC,b3s (enc:=aG) hn,uz];have e2:q8 (y7 (λx=>bgD (gp m a B x)) (V8 (stp m p.1 a).1 (anL m a B))) (.int (stp m p.1 a).1) (bgD (gp m a (B++[p]) (stp m p.1 a).1))=y7 (λx=>bgD (gp m a (B++[p]) x)) (V8 (stp m p.1 a).1 (anL m a B)):=a6T (h:=λx=>bgD (gp m a (B++[p]) x)) jy λy hy=>by
   show bgD (gp m a (B++[p]) y)=bgD (gp m a B y);rw[a9u,aM λz=>hy z.symm]
  rw[a9u,aH rfl]at e2;rw[b3A,<-e2];rfl
end
def lev(m:l8)(k:Nat)(S:List Int):Nat:=((aJ 200).find? λe=>tb m k e S).getD 0
section
variable {m:l8}{k d e a:Nat}{S:List Int}
def a1i(h:tb m k d S=p4)(hd:d<200):tb m k (lev m k S) S=p4/\lev m k S<=d/\∀e<lev m k S,tb m k e S=rp:=by
 cases x:(aJ 200).find? λe=>tb m k e S with
 |none=>exact absurd h (f_.mp x d (bR.mpr hd))
 |some j=>
  have hl:lev m k S=j:=by unfold lev;rw[x];rfl
  rw[hl];rw[hW]at x;obtain⟨x1,x2,x3⟩:=x;have x4:∀e<j,tb m k e S=rp:=λe he=>by
   have:=x3 e he
   rwa[gk]at this
  refine⟨x1,?_,x4⟩;by_cases c:j<=d
  ·exact c
  ·rw[x4 d (by lia)]at h;cases h
def a1D(h:tb m k d S=p4)(hd:d<200):lev m k S<=d:=(a1i h hd).2.1
def a5z(h:tb m k d S=p4)(hd:d<200):tb m k e S=p4↔lev m k S<=e:=by
 obtain⟨h1,h2,h3⟩:=a1i h hd;refine⟨λz=>?_,λz=>V5 h1 z⟩;by_cases c:lev m k S<=e
 ·exact c
 ·rw[h3 e (by lia)]at z;cases z
def b3B(h:tb m k d S=p4)(hd:d<200):lev m k S=0↔S.length=1:=by
 have:=a5z (e:=0) h hd;rw[Nat.le_zero]at this;rw[<-this];exact decide_eq_true_iff
def a9v(h:tb m k d S=p4)(hd:d<200)(h1:S.length≠1):∃e a,lev m k S=e+1/\lta m k e S=cz a/\o6 m k S=.int (a:Nat):=by
 obtain⟨z1,z2,z3⟩:=a1i h hd;have h0:lev m k S≠0:=λz=>h1 ((b3B h hd).mp z)
 obtain⟨e,he⟩:∃e,lev m k S=e+1:=⟨lev m k S-1,by lia⟩;rw[he]at z1 z2 z3;have hf:=z3 e (by lia);rw[Z5,hf,sr]at z1;obtain⟨a,ha⟩:=fL.mp z1;exact⟨e,a,he,ha,a5x h1 hf ha (by lia)⟩
def mxl(l:List Nat):Nat:=l.foldl max 0
def a5A:mxl l<=q↔∀x∈l,x<=q:=by
 have key:∀(l:List Nat) (b:Nat),l.foldl max b<=q↔b<=q/\∀x∈l,x<=q:=by
  intro l
  induction l with
  |nil=>intro b;simp
  |cons y l ih=>
   intro b;rw[pI,ih,List.forall_mem_cons]
   constructor
   ·rintro⟨z1,z2⟩;exact⟨by lia,by lia,z2⟩
   ·rintro⟨z1,z2,z3⟩;exact⟨by lia,z3⟩
 unfold mxl;rw[key];simp
def plv(m:l8)(k a:Nat)(S:List Int):Nat:=mxl ((anL m a (S.zip S)).map λx=>lev m k (prt m a S x))
def Q2:x∈anL m a (S.zip S)↔∃s∈S,(stp m s a).1=x:=by
 rw[V0]
 constructor
 ·rintro⟨p,hp,z⟩;exact⟨p.1,by have:=gc (show (p.1,p.2)∈S.zip S from hp);exact this.1,z⟩
 ·rintro⟨s,hs,z⟩;refine⟨(s,s),?_,z⟩;obtain⟨j,hj⟩:=bF.mp hs;refine bF.mpr ⟨j,?_⟩;rw[gM];exact⟨hj,hj⟩
def a5B{D:Nat}(hD:D<200)(h:tst (tb m k D) m a S=p4):tst (tb m k e) m a S=p4↔plv m k a S<=e:=by
 unfold tst at h ⊢;rw[ao]at h ⊢;unfold plv;rw[a5A]
 constructor
 ·rintro⟨_,z⟩ q hq;obtain⟨x,hx,rfl⟩:=aX.mp hq;obtain⟨s,hs,rfl⟩:=Q2.mp hx;exact (a5z (aY.mp h.2 s hs) hD).mp (aY.mp z s hs)
 ·intro z;refine⟨h.1,aY.mpr λs hs=>?_⟩;exact (a5z (aY.mp h.2 s hs) hD).mpr (z _ (aX.mpr ⟨_,Q2.mpr ⟨s,hs,rfl⟩,rfl⟩))
def b8H{D:Nat}(hD:D<199)(ha:a<k)(h:tst (tb m k D) m a S=p4):tb m k (D+1) S=p4/\lev m k S<=plv m k a S+1:=by
 have up:∀e,tst (tb m k e) m a S=p4->tb m k (e+1) S=p4:=λe z=>by
  show (tb m k e S||(aJ k).any λa=>tst (tb m k e) m a S)=p4;exact mq.mpr (.inr (cI.mpr ⟨a,bR.mpr ha,z⟩))
 have h1:=up D h;refine⟨h1,?_⟩;exact (a5z h1 (by lia)).mp (up _ ((a5B (by lia) h).mpr (aD _)))
def a9w(h:tb m k d S=p4)(hd:d<199)(he:lev m k S=e+1)(ha:lta m k e S=cz a):a<k/\tst (tb m k e) m a S=p4/\plv m k a S=e/\∀b<a,tst (tb m k 150) m b S=p4->e<plv m k b S:=by
 obtain⟨a1,a2⟩:=a3C ha;have hle:=a1D h (by lia);refine⟨a1,a2,Hq ((a5B (by lia) a2).mp a2) ?_,λb hb z=>?_⟩
 ·have:=(b8H (by lia) a1 a2).2;lia
 ·unfold lta at ha;rw[hW]at ha;have:=ha.2.2 b hb;rw[gk]at this;by_cases c:plv m k b S<=e
  ·have z2:=(a5B (e:=e) (by lia) z).mpr c;rw[this]at z2;cases z2
  ·lia
end
def b3C(m:l8)(k:Nat)(S:List Int):Nat:=match o6 m k S with
 |.int a=>a.toNat
 |_=>0
def a9x(h:o6 m k S=.int (a:Nat)):b3C m k S=a:=by
 unfold b3C;rw[h];rfl
def gT(m:l8)(k:Nat):Nat->BG->D
 |0,_=>.none
 |f+1,B=>if B.length=1 then .int (B.getD 0 (0,0)).2 else .tuple [.int (b3C m k (a1d (B.map (·.1))):Nat),.list ((srt (anL m (b3C m k (a1d (B.map (·.1)))) B)).map λx=>.tuple [.int x,gT m k f (gp m (b3C m k (a1d (B.map (·.1)))) B x)])]
structure KB (m:l8) (k:Nat) (B:BG) (S:List Int):Prop where
 set:SetK m S
 mem:∀s,s∈B.map (·.1)↔s∈S
 nd:(B.map (·.1)).Nodup
 told:tb m k 140 S=p4
section
variable {m:l8}{k:Nat}{B:BG}{S:List Int}
def KB.perm(h:KB m k B S):(B.map (·.1)).Perm S:=(jM h.nd (h.set.1.imp λz=>by lia)).mpr h.mem
def KB.len(h:KB m k B S):B.length=S.length:=by have:=h.perm.length_eq;rw[ah]at this;exact this
def KB.setEq(h:KB m k B S):a1d (B.map (·.1))=S:=a0x (L4 _) h.set.1 λx=>by rw[L3];exact h.mem x
def KB.part(w:WF m k)(h:KB m k B S)(ha:a<k)(ht:tst (tb m k e) m a S=p4)(he:e<=140)(hx:x∈anL m a B):KB m k (gp m a B x) (prt m a S x)/\lev m k (prt m a S x)<=e:=by
 obtain⟨p,hp,tP⟩:=V0.mp hx;have vR:p.1∈S:=(h.mem p.1).mp (bt hp);unfold tst at ht;rw[ao]at ht;have oN:((B.map (·.1)).map λs=>stp m s a).Nodup:=aP (by rw[<-a4P (m:=m) (a:=a) h.perm]at ht;exact ht.1);have h1:tb m k e (prt m a S x)=p4:=by rw[<-tP];exact aY.mp ht.2 p.1 vR
 refine⟨⟨by rw[<-tP];exact SetK.prt w h.set ha vR,λs=>?_,by rw[Z8];exact a5w oN,V5 h1 he⟩,a1D h1 (by lia)⟩;rw[Z8,a1e,a2u];exact⟨λ⟨q,hq,z⟩=>⟨q,(h.mem q).mp hq,z⟩,λ⟨q,hq,z⟩=>⟨q,(h.mem q).mpr hq,z⟩⟩
def KB.ind(w:WF m k){P:BG->List Int->Prop}(h1:∀(p:Int×Int) (S:List Int),KB m k [p] S->S.length=1->P [p] S)
  (h2:∀(B:BG) (S:List Int) (e a:Nat),KB m k B S->S.length≠1->lev m k S=e+1->lta m k e S=cz a->o6 m k S=.int (a:Nat)->a<k->e<140->(∀x∈anL m a B,KB m k (gp m a B x) (prt m a S x)/\lev m k (prt m a S x)<=e/\P (gp m a B x) (prt m a S x))->P B S) :
  ∀{B:BG} {S:List Int},KB m k B S->P B S:=by
 have key:∀(j:Nat) (B:BG) (S:List Int),lev m k S=j->KB m k B S->P B S:=by
  intro j
  induction j using Hm with
  |_ j ih=>
   intro B S hj h;by_cases c:S.length=1
   ·obtain⟨p,rfl⟩:∃p,B=[p]:=by
     match B,h.len.trans c with
     |[p],_=>exact⟨p,rfl⟩
    exact h1 p S h c
   ·obtain⟨e,a,he,ha,jX⟩:=a9v h.told (by lia) c;have hle:=a1D h.told (by lia);obtain⟨a1,a2⟩:=a3C ha;refine h2 B S e a h c he ha jX a1 (by lia) λx hx=>?_
    obtain⟨p1,p2⟩:=h.part w a1 a2 (by lia) hx;exact⟨p1,p2,ih _ (by lia) _ _ rfl p1⟩
 exact λ{B S} h=>key _ B S rfl h
def b3D:gT m k (f+1) [p]=.int p.2:=rfl
def Z9(h:KB m k B S)(hS:S.length≠1)(jX:o6 m k S=.int (a:Nat)):gT m k (f+1) B=.tuple [.int (a:Nat),.list ((srt (anL m a B)).map λx=>.tuple [.int x,gT m k f (gp m a B x)])]:=by
 show (if B.length=1 then _ else _)=_;rw[aM (by rw[h.len];exact hS),h.setEq,a9x jX]
def b3E(h:∀x,x∈anL m a B↔x∈anL m a B'):srt (anL m a B)=srt (anL m a B'):=by
 rw[Z4 (L:=anL m a B) (a8v _),Z4 (L:=anL m a B') (a8v _)];exact a0x (L4 _) (L4 _) λx=>by rw[L3,L3];exact h x
end
def v6(S:List Int):imm (c9 S)=p4:=by unfold c9;simp only[imm];exact w8 S
def a8w(w:WF m k):T2 [.list (m.map rwD)]=cz (.int k):=by
 unfold T2;rw[J6 (by simp[VS.argsOk])];unfold a4F;have hp:=w.pos;walk_at "ev";rw[b3n (by lia) (by lia)];walk_at "ev";rw[w.row (by lia) (by lia)]
def c0R(h:f U=cz (bgD B)):iIt f U=cz (B.map stD):=by
 unfold iIt;rw[h,bC];show (if keysOk rp (kvD aG B) then cz ((kvD aG B).map a3i) else el)=_;rw[aH (show keysOk rp (kvD aG B)=p4 from a9r)];unfold kvD;rw[bH];rfl
def a6U{B:BG}{p:Int×Int}:B1 m a ((B++[p]).map (·.1))=(B1 m a (B.map (·.1))&&!decide (stp m p.1 a∈B.map λp=>stp m p.1 a)):=by
 unfold B1;rw[cJ,ao,bK,bK,bH,bH,aO,aZ,gk,s_]
 constructor
 ·rintro⟨h1,_,h3⟩;exact⟨h1,λz=>h3 _ z _ (ai.mpr rfl) rfl⟩
 ·rintro⟨h1,h2⟩;exact⟨h1,by simp,λx hx y hy e=>h2 (by have:=ai.mp hy;subst this;subst e;exact hx)⟩
def b3F{B C:BG}(h:B1 m a ((B++C).map (·.1))=p4):B1 m a (B.map (·.1))=p4:=by
 unfold B1 at h ⊢;rw[bK]at h ⊢;rw[aO,aO]at h;exact (aZ.mp h).1
section
variable {m:l8}{k:Nat}(w:WF m k){a:Nat}(ha:a<k)
include w ha
theorem a1j(hB:∀p∈B,0<=p.1/\p.1<(m.length:Int))(hl:B.length<1000):A5 [.list (m.map rwD),bgD B,.int a]=cz (if B1 m a (B.map (·.1)) then ptD m a B else .none):=by
 unfold A5;rw[J6 (by simp[VS.argsOk,imm])];unfold a2a;walk_at "ev";rw[V7 (c0R (B:=B) (by walk_at "ev")) (m3 _ (λ_=>a8q) _)];walk_at "ev";rcases a1B (enc:=stD) (set:=a5j 4 5) (xs:=B) (g:=(i4 (j8 6 (e2 v7 (e2 dIx (b7 0) (b7 4)) (b7 2))) (i4 (a3l 3 rp rp (e2 v7 (b7 6) (eC (.int 0))) (e2 v7 (b7 6) (eC (.int 1))) (eC .none) (b7 5)) n5))) (U:=[.list (m.map rwD),bgD B,.int a,.dict [],.none,.none,.none,.none])
   (λpre U=>B1 m a (pre.map (·.1))=p4/\∃x y z,U=[.list (m.map rwD),bgD B,.int a,ptD m a pre,x,y,z,.none]) (λr=>r=.none/\B1 m a (B.map (·.1))=rp) ⟨rfl,_,_,_,rfl⟩ (by
    rintro pre p post e U ⟨hf,x,y,z,rfl⟩;have hp:=hB p (by rw[e];simp);have hr:=w.row hp.1 hp.2;have fM:pre.length<1000:=by rw[e,aN]at hl;lia
    refine⟨[.list (m.map rwD),bgD B,.int a,ptD m a pre,.int p.1,.int p.2,z,.none],rfl,?_⟩;have hc:j8 6 (e2 v7 (e2 dIx (b7 0) (b7 4)) (b7 2)) [.list (m.map rwD),bgD B,.int a,ptD m a pre,.int p.1,.int p.2,z,.none]=cz (.nx [.list (m.map rwD),bgD B,.int a,ptD m a pre,.int p.1,.int p.2,stD (stp m p.1 a),.none]):=by
     walk_at "ev";rw[b3n hp.1 hp.2];walk_at "ev";rw[b8t (by lia) (by lia)];walk_at "ev";rfl
    have hs:=b5I (m:=m) (a:=a) (B:=pre) (p:=p) (i:=3) (fk:=e2 v7 (b7 6) (eC (.int 0))) (fj:=e2 v7 (b7 6) (eC (.int 1))) (fr:=eC .none) (fv:=b7 5) (U:=[.list (m.map rwD),bgD B,.int a,ptD m a pre,.int p.1,.int p.2,stD (stp m p.1 a),.none]) rfl rfl (λ_=>rfl) (λ_=>rfl) (λ_=>rfl) fM;rw[A0,hc,v8,A0,hs];by_cases c:stp m p.1 a∈pre.map λp=>stp m p.1 a
    ·rw[aH c];refine .inr ⟨_,rfl,rfl,?_⟩;cases x:B1 m a (B.map (·.1)) with
     |false=>rfl
     |true=>
      have e2:B=(pre++[p])++post:=by rw[e];simp
      rw[e2]at x;have:=b3F x;rw[a6U,aI c,hf]at this;cases this
    ·rw[aM c];refine .inl ⟨_,rfl,?_,_,_,_,rfl⟩;rw[a6U,aV c,hf];rfl) with⟨U',g1,hf,x,y,z,rfl⟩|⟨r,g1,rfl,hf⟩
 ·rw[g1];walk_at "ev";rw[aH hf]
 ·rw[g1];walk_at "ev";rw[aM (by rw[hf];exact aW)]
end
def bhD(m:l8)(a:Nat)(S:List Int):D:=if B1 m a S then .list ((anL m a (S.zip S)).map λx=>c9 (prt m a S x)) else .none
def K6(S:List Int):(S.zip S).map (·.1)=S:=by rw[Gm (aD _)]
def a3D(h:f U=cz (if l then iD S else c9 S))(hn:S.Nodup)(hl:S.length<1000):K9 l f f U=cz (bgD (S.zip S)):=by
 have hq:b5n l (if l then iD S else c9 S)=cz S:=by cases l<;>exact O5 S
 unfold K9;rw[h,bC,bC,hq,bC,bC,aH]
 ·rfl
 ·unfold a9m;rw[aI rfl,aI hn,aI (by lia)];rfl
def c0S(h:f U=cz (.dict (y7 g ks))):iVa f U=cz (ks.map g):=by
 unfold iVa;rw[h,bC];show (if keysOk rp (y7 g ks) then cz ((y7 g ks).map (·.2)) else el)=_;rw[aH a2e];unfold y7;rw[bH];rfl
section
variable {m:l8}{k:Nat}(w:WF m k)
include w
theorem a3E(hS:SetK m S)(hl:S.length<=30):B5 [.list (m.map rwD),c9 S]=cz (.list ((aJ k).map λ(a:Nat)=>bhD m a S)):=by
 have sP:=w.k5;have ot:=w.pos;have iF:S.Nodup:=hS.1.imp λh=>by lia
 unfold B5;rw[J6 (by simp[VS.argsOk,v6])];unfold a0g;walk_at "ev";rw[show iR (eCl T2 (b8 (b7 0) f6)) [.list (m.map rwD),c9 S,.list [],.none,.none]=cz (G5 0 k) by
  rw[a2R (n:=k) (by walk_at "ev";exact a8w w) (by lia) (by lia),bG]]
 walk_at "ev";refine a2p (λU=>∃x y,U=[.list (m.map rwD),c9 S,.list ((aJ k).map λ(a:Nat)=>bhD m a S),x,y]) ?_ ?_
 ·obtain⟨U',g1,x,y,rfl⟩:=B0 (n:=k) (set:=v4 3) (g:=(i4 (j8 4 (eCl A5 (b8 (b7 0) (b8 (K9 rp (b7 1) (b7 1)) (b8 (b7 3) f6))))) (C5 2 (.l .f) p6 (eIf (tB (e2 (J1 rp) (b7 4) (eC .none))) (eC .none) (l0 (iVa (b7 4)) [] pt1 tT (B3 (C0 (b7 0)))))))) (U:=[.list (m.map rwD),c9 S,.list [],.none,.none])
   (λj U=>∃x y,U=[.list (m.map rwD),c9 S,.list ((aJ j).map λ(a:Nat)=>bhD m a S),x,y]) ⟨_,_,rfl⟩ (by
    rintro a ha U ⟨x,y,rfl⟩;have hp:=a1j w ha (B:=S.zip S) (λp hp=>hS.2.2 p.1 (by have:=bt (f:=Prod.fst) hp;rw[K6]at this;exact this)) (by rw[dG];lia);rw[K6]at hp;have hc:j8 4 (eCl A5 (b8 (b7 0) (b8 (K9 rp (b7 1) (b7 1)) (b8 (b7 3) f6)))) [.list (m.map rwD),c9 S,.list ((aJ a).map λ(a:Nat)=>bhD m a S),.int a,y]=cz (.nx [.list (m.map rwD),c9 S,.list ((aJ a).map λ(a:Nat)=>bhD m a S),.int a,if B1 m a S then ptD m a (S.zip S) else .none]):=by
     walk_at "ev";rw[a3D (l:=rp) (S:=S) (by rfl) iF (by lia)];walk_at "ev";rw[hp];rfl
    refine⟨_,[.list (m.map rwD),c9 S,.list ((aJ (a+1)).map λ(a:Nat)=>bhD m a S),.int a,if B1 m a S then ptD m a (S.zip S) else .none],rfl,?_,_,_,rfl⟩;show (i4 (j8 4 (eCl A5 (b8 (b7 0) (b8 (K9 rp (b7 1) (b7 1)) (b8 (b7 3) f6))))) (C5 2 (.l .f) p6 (eIf (tB (e2 (J1 rp) (b7 4) (eC .none))) (eC .none) (l0 (iVa (b7 4)) [] pt1 tT (B3 (C0 (b7 0))))))) [.list (m.map rwD),c9 S,.list ((aJ a).map λ(a:Nat)=>bhD m a S),.int a,y]=_;rw[A0,hc,v8];have hv:eIf (tB (e2 (J1 rp) (b7 4) (eC .none))) (eC .none) (l0 (iVa (b7 4)) [] pt1 tT (B3 (C0 (b7 0)))) [.list (m.map rwD),c9 S,.list ((aJ a).map λ(a:Nat)=>bhD m a S),.int a,if B1 m a S then ptD m a (S.zip S) else .none]=cz (bhD m a S):=by
     cases hf:B1 m a S with
     |false=>
      unfold bhD;rw[hf];rfl
     |true=>
      have oA:(S.map λs=>stp m s a).Nodup:=aP hf;rw[b9L];show b4F (lT (cz (.bool rp))) _ _ _=_;have pN:=a0y (m:=m) (a:=a) (B:=S.zip S);rw[dG]at pN;show (l0 (iVa (b7 4)) [] pt1 tT (B3 (C0 (b7 0)))) [.list (m.map rwD),c9 S,.list ((aJ a).map λ(a:Nat)=>bhD m a S),.int a,ptD m a (S.zip S)]=_;rw[F8 (enc:=λx=>bgD (gp m a (S.zip S) x)) (xs:=anL m a (S.zip S)) (λx=>c9 (prt m a S x)) (by exact c0S rfl) (by lia) (λx _=>⟨_,rfl,?_⟩)]
      ·unfold bhD;rw[hf];rfl
      ·have hg:=b6u (m:=m) (a:=a) (B:=S.zip S) (x:=x);rw[dG]at hg;rw[a0u];rw[a1f (kvs:=kvD aG (gp m a (S.zip S) x)) (es:=(gp m a (S.zip S) x).map (·.1)) rfl b3t (by rw[ah];lia),Z8,K6,Z4 (a5w oA)];exact O7
    rw[a8V,hv];show a7x 2 (.list _) (cz (bhD m a S)) _=_;rw[L8 (by rw[ah,cL];lia),List.range_succ,aO];rfl)
  exact⟨_,g1,_,_,rfl⟩
 ·rintro U ⟨x,y,rfl⟩;walk_at "ev"
end
def optN:Option Nat->D
 |none=>.none
 |some a=>.int a
def tsl(m:l8)(l:List (List Int))(a:Nat)(S:List Int):Bool:=B1 m a S&&(anL m a (S.zip S)).all λx=>decide (prt m a S x∈l)
theorem a2f:∀(l:List D) (j:Nat),O6 l j=(aJ l.length).map λ(s:Nat)=>fm [.int ((j+s:Nat):Int),l.getD s .none]
 |[],j=>rfl
 |d::l,j=>by
  show fm [.int j,d]::O6 l (j+1)=_;rw[a2f l,bx,List.range_succ_eq_map,aA,bH]
  congr 1;refine cn λs _=>?_
  show fm [.int ((j+1+s:Nat):Int),_]=fm [.int ((j+(s+1):Nat):Int),_];rw[show j+1+s=j+(s+1) by lia];rfl
def a6V(f:Nat->D)(k:Nat):O6 ((aJ k).map f) 0=(aJ k).map λ(a:Nat)=>fm [.int (a:Int),f a]:=by
 rw[a2f,ah,cL];refine cn λa ha=>?_
 rw[Nat.zero_add,aT,bc,mn (bR.mp ha)];rfl
def a1E{S:List Int}(hk:k<=5)(hl:S.length<=30):u8 [.list ((aJ k).map λ(a:Nat)=>bhD m a S),.dict (f7 g l)]=cz (optN ((aJ k).find? λa=>tsl m l a S)):=by
 unfold u8;rw[J6 (by simp[VS.argsOk])];unfold V3;walk_at "ev";rw[c2k (ds:=(aJ k).map λ(a:Nat)=>bhD m a S) (by walk_at "ev"),a6V];walk_at "ev";rcases a1B (enc:=λ(a:Nat)=>fm [.int (a:Int),bhD m a S]) (set:=a5j 2 3) (xs:=aJ k) (g:=(sIf (tAn (tB (e2 (J1 p4) (b7 3) (eC .none))) (tV (eCl a9S (b8 (l0 (iL (b7 3)) [1] pt1 tT (e2 (a0P rp p4) (b7 0) (b7 1))) f6)))) (m9 (eIm (b7 2))) n5)) (U:=[.list ((aJ k).map λ(a:Nat)=>bhD m a S),.dict (f7 g l),.none,.none])
   (λpre U=>(∀b∈pre,tsl m l b S=rp)/\∃x y,U=[.list ((aJ k).map λ(a:Nat)=>bhD m a S),.dict (f7 g l),x,y]) (λr=>r=optN ((aJ k).find? λa=>tsl m l a S)) ⟨λb hb=>(nomatch hb),_,_,rfl⟩ (by
    rintro pre a post e U ⟨hb,x,y,rfl⟩;obtain⟨r1,r2,r3⟩:=a1Y e;refine⟨[.list ((aJ k).map λ(a:Nat)=>bhD m a S),.dict (f7 g l),.int a,bhD m a S],rfl,?_⟩;have ht:(tAn (tB (e2 (J1 p4) (b7 3) (eC .none))) (tV (eCl a9S (b8 (l0 (iL (b7 3)) [1] pt1 tT (e2 (a0P rp p4) (b7 0) (b7 1))) f6)))) [.list ((aJ k).map λ(a:Nat)=>bhD m a S),.dict (f7 g l),.int a,bhD m a S]=cz (tsl m l a S):=by
     unfold tsl;cases hf:B1 m a S with
     |false=>
      have:bhD m a S=.none:=by unfold bhD;rw[hf];rfl
      rw[this];rfl
     |true=>
      have EX:bhD m a S=.list ((anL m a (S.zip S)).map λx=>c9 (prt m a S x)):=by unfold bhD;rw[hf];rfl
      have pN:=a0y (m:=m) (a:=a) (B:=S.zip S);rw[dG]at pN;rw[EX];walk_at "ev";rw[F8 (enc:=λx=>c9 (prt m a S x)) (xs:=anL m a (S.zip S)) (λx=>dh ((λx=>decide (prt m a S x∈l)) x)) (by walk_at "ev") (by lia) (λx _=>⟨_,rfl,?_⟩)]
      ·walk_at "ev";rw[v_all (λx=>decide (prt m a S x∈l))];rfl
      ·walk_at "ev";rw[b3x];simp
    rw[a2P,ht];cases x:tsl m l a S with
    |false=>exact .inl ⟨_,rfl,λb jW=>(ay.mp jW).elim (hb b) λq=>by rw[ai.mp q];exact x,_,_,rfl⟩
    |true=>
     refine .inr ⟨.int a,rfl,?_⟩;have:((aJ k).find? λa=>tsl m l a S)=cz a:=by
      rw[hW];refine⟨x,bR.mpr r2,λj hj=>?_⟩;rw[hb j (by rw[r3];exact bR.mpr hj)];rfl
     rw[this];rfl) with⟨U',g1,hb,x,y,rfl⟩|⟨r,g1,rfl⟩
 ·rw[g1];walk_at "ev";rw[f_.mpr λa ha=>by rw[hb a ha];exact aW];rfl
 ·rw[g1];walk_at "ev"
def a8x:dIn neg p4 (c9 a) (.dict (f7 g l))=cz (.bool (neg !=decide (a∈l))):=by
 show (if n8 p4 (c9 a) then cz (dh (neg !=w9 (f7 g l) (c9 a))) else el)=_;rw[K2,K3];rfl
def b8I(h:a U=cz (.dict (f7 g l))):tVD a U=cz !l.isEmpty:=by
 unfold tVD;rw[h];cases l<;>rfl
def b8J{U:List D}(hi:U.getD i .none=.dict (f7 g l))(hj:U.getD j .none=.dict (f7 g l'))(gK:l≠[])(hd:∀p∈l',p∉l)(hl:l.length+l'.length<=1000000):b0s i j U=cz (.nx (U.set i (.dict (f7 g (l++l'))))):=by
 unfold b0s;rw[hi,hj];show (if !(f7 g l).isEmpty&&((f7 g l').all λp=>!w9 (f7 g l) p.1)&&decide ((f7 g l).length+(f7 g l').length<=1000000) then _ else el)=_;rw[aH]
 ·unfold f7;rw[aO]
 ·rw[a3y,a3y,aI hl,gd,ao]
  constructor
  ·cases l with
   |nil=>exact absurd rfl gK
   |cons _ _=>rfl
  ·rw[aY];intro p hp;unfold f7 at hp;obtain⟨q,hq,rfl⟩:=aX.mp hp;rw[K3,aV (hd q hq)];rfl
def a1k{l L:List (List Int)}{f:List Int->Option Nat}(hg:∀S∈L,gm [c9 S,.dict (f7 g l)]=cz (optN (f S)))(hv:∀S∈L,∀a,f S=cz a->g S=.int a)(hn:L.Nodup)(hl:L.length<=1000):r8 gm [.dict (f7 g l),.list (L.map c9)]=cz (.dict (f7 g (L.filter λS=>(f S).isSome))):=by
 unfold r8;rw[b6r (by simp[VS.argsOk])];show a2O (K1 gm [.dict (f7 g l),.list (L.map c9),.none,.none,.none,.none])=_;unfold K1;walk_at "ev";rw[V7 (ds:=L.map c9) (by walk_at "ev") (m3 _ v6 _)];walk_at "ev";refine a2p (λU=>∃x y,U=[.dict (f7 g l),.list (L.map c9),.none,.dict (f7 g (L.filter λS=>(f S).isSome)),x,y]) ?_ ?_
 ·obtain⟨U',g1,x,y,rfl⟩:=L1 (enc:=c9) (set:=v4 4) (xs:=L) (g:=(i4 (j8 5 (eCl gm (b8 (b7 4) (b8 (b7 0) f6)))) (sIf (tB (e2 (J1 p4) (b7 5) (eC .none))) (A4 3 p4 (b7 4) (b7 5)) n5))) (U:=[.dict (f7 g l),.list (L.map c9),.none,.dict [],.none,.none])
   (λpre U=>∃x y,U=[.dict (f7 g l),.list (L.map c9),.none,.dict (f7 g (pre.filter λS=>(f S).isSome)),x,y]) ⟨_,_,rfl⟩ (by
    rintro pre S post e U ⟨x,y,rfl⟩;have hS:S∈L:=by rw[e];simp
    have hp:=hg S hS;have kY:S∉pre:=by
     rw[e]at hn;have:=aZ.mp hn;exact λz=>this.2.2 S z S ak rfl
    have hlen:(pre.filter λS=>(f S).isSome).length<1000000:=by
     have h1:=dg (λS=>(f S).isSome) pre;have h2:pre.length<=L.length:=by rw[e];simp
     lia
    have hc:j8 5 (eCl gm (b8 (b7 4) (b8 (b7 0) f6))) [.dict (f7 g l),.list (L.map c9),.none,.dict (f7 g (pre.filter λS=>(f S).isSome)),c9 S,y]=cz (.nx [.dict (f7 g l),.list (L.map c9),.none,.dict (f7 g (pre.filter λS=>(f S).isSome)),c9 S,optN (f S)]):=by
     walk_at "ev";rw[hp];walk_at "ev"
    refine⟨_,[.dict (f7 g l),.list (L.map c9),.none,.dict (f7 g ((pre++[S]).filter λS=>(f S).isSome)),c9 S,optN (f S)],rfl,?_,_,_,rfl⟩;show (i4 (j8 5 (eCl gm (b8 (b7 4) (b8 (b7 0) f6)))) (sIf (tB (e2 (J1 p4) (b7 5) (eC .none))) (A4 3 p4 (b7 4) (b7 5)) n5)) [.dict (f7 g l),.list (L.map c9),.none,.dict (f7 g (pre.filter λS=>(f S).isSome)),c9 S,y]=_;rw[A0,hc,v8,eh];cases x:f S with
    |none=>
     rw[dm (by rw[x];exact aW),jl,bj];rfl
    |some a=>
     rw[dN (by rw[x];rfl),jl];show A4 3 p4 (b7 4) (b7 5) [.dict (f7 g l),.list (L.map c9),.none,.dict (f7 g (pre.filter λS=>(f S).isSome)),c9 S,.int a]=_;rw[a1c (g:=g) (a:=S) (l:=pre.filter λS=>(f S).isSome) (by rw[hv S hS a x];rfl) rfl rfl hlen λz=>kY (bu.mp z).1];unfold a3S;rw[aM λz=>kY (bu.mp z).1];rfl)
  exact⟨_,g1,_,_,rfl⟩
 ·rintro U ⟨x,y,rfl⟩;walk_at "ev"
section
variable {m:l8}{k:Nat}{A:List (List Int)}(hA:A.Nodup)(rU:A.length<=150)(h1:kdS m k A 0≠[])(hok:J7 (f7 (o6 m k) (kdS m k A 0))=p4)
include hA rU h1 hok
theorem a0z(Ew:∀d,d<=150->∀S∈lfS m k A d,gm [c9 S,.dict (f7 (o6 m k) (kdS m k A d))]=cz (optN (lta m k d S))):∃d,u5 gm [.dict (f7 (o6 m k) (kdS m k A 0)),.list ((lfS m k A 0).map c9)]=cz (.dict (f7 (o6 m k) (kdS m k A d)))/\nwS m k A d=[]/\d<=(lfS m k A 0).length:=by
 have t_:∀d,(lfS m k A d).length<=150:=λd=>bL (dg _ _) rU
 have xC:∀d,(kdS m k A d).length<=150:=λd=>bL (a4N (a5y hA d) λx hx=>(p8.mp hx).1) rU
 have round:∀d,d<=150->r8 gm [.dict (f7 (o6 m k) (kdS m k A d)),.list ((lfS m k A d).map c9)]=cz (.dict (f7 (o6 m k) (nwS m k A d))):=λd hd=>a1k (f:=lta m k d) (Ew d hd) (λS hS a ha=>by
  have mT:=U9.mp hS;exact a5x (λz=>by have:=V5 (show tb m k 0 S=p4 from aI z) (b_ d);rw[mT.2]at this;cases this) mT.2 ha (by lia)) (hA.filter _) (by have:=t_ d;lia)
 have hu:u5 gm [.dict (f7 (o6 m k) (kdS m k A 0)),.list ((lfS m k A 0).map c9)]=a2O (J8 gm [.dict (f7 (o6 m k) (kdS m k A 0)),.list ((lfS m k A 0).map c9),.none,.none,.none]):=by
  unfold u5;rw[b6r (by simp[VS.argsOk])];rfl
 rw[hu];unfold J8;walk_at "ev";rw[show a5r (b7 0) [.dict (f7 (o6 m k) (kdS m k A 0)),.list ((lfS m k A 0).map c9),.none,.none,.none]=cz (.dict (f7 (o6 m k) (kdS m k A 0))) by
  show (if J7 (f7 (o6 m k) (kdS m k A 0)) then cz (bo.dict (f7 (o6 m k) (kdS m k A 0))) else el)=_;rw[aH hok]]
 walk_at "ev";rw[b6s (ds:=[.dict (f7 (o6 m k) (kdS m k A 0)),.list ((lfS m k A 0).map c9)]) (by walk_at "ev"),round 0 (by lia)];walk_at "ev";obtain⟨U',g1,d,x,y,qX,hd,rfl⟩:=a2r (c:=(tVD (b7 4))) (g:=(i4 (b0s 3 4) (i4 (j8 1 (l0 (iI (iL (b7 1))) [4] pt1 (tB (e2 (dIn p4 p4) (b7 0) (b7 1))) (b7 0))) (j8 4 (b0z r8 gm (b8 (b7 3) (b8 (b7 1) f6)))))))
  (I:=λd U=>d+(lfS m k A d).length<=(lfS m k A 0).length/\U=[.dict (f7 (o6 m k) (kdS m k A 0)),.list ((lfS m k A d).map c9),.none,.dict (f7 (o6 m k) (kdS m k A d)),.dict (f7 (o6 m k) (nwS m k A d))])
  (Q:=λU=>∃d x y,nwS m k A d=[]/\d<=(lfS m k A 0).length/\U=[.dict (f7 (o6 m k) (kdS m k A 0)),x,.none,.dict (f7 (o6 m k) (kdS m k A d)),y]) 1000 (by
   rintro d U ⟨hd,rfl⟩;have h0:=t_ 0;refine⟨by lia,?_⟩;have ht:tVD (b7 4) [.dict (f7 (o6 m k) (kdS m k A 0)),.list ((lfS m k A d).map c9),.none,.dict (f7 (o6 m k) (kdS m k A d)),.dict (f7 (o6 m k) (nwS m k A d))]=cz !(nwS m k A d).isEmpty:=b8I rfl;by_cases hV:nwS m k A d=[]
   ·refine .inl ⟨by rw[ht,hV];rfl,d,_,_,hV,by lia,rfl⟩
   ·have uP:=a6R hV;refine .inr ⟨by rw[ht];cases e:nwS m k A d with|nil=>exact absurd e hV|cons _ _=>rfl,[.dict (f7 (o6 m k) (kdS m k A 0)),.list ((lfS m k A (d+1)).map c9),.none,.dict (f7 (o6 m k) (kdS m k A (d+1))),.dict (f7 (o6 m k) (nwS m k A (d+1)))],?_,by lia,rfl⟩;have hu:=b8J (i:=3) (j:=4) (U:=[.dict (f7 (o6 m k) (kdS m k A 0)),.list ((lfS m k A d).map c9),.none,.dict (f7 (o6 m k) (kdS m k A d)),.dict (f7 (o6 m k) (nwS m k A d))]) (g:=o6 m k) (l:=kdS m k A d) (l':=nwS m k A d) rfl rfl (λz=>by
      obtain⟨S,hS⟩:=rA _ h1;have q:=p8.mp hS;have:S∈kdS m k A d:=p8.mpr ⟨q.1,V5 q.2 (b_ _)⟩;rw[z]at this;cases this) (λp hp hk=>by
      have h2:=(p8.mp hk).2;rw[(Z6.mp hp).2.1]at h2;cases h2) (by have:=xC d;have:=t_ d;have:=dg (λS=>(lta m k d S).isSome) (lfS m k A d);unfold nwS;lia)
    have hc:l0 (iI (iL (b7 1))) [4] pt1 (tB (e2 (dIn p4 p4) (b7 0) (b7 1))) (b7 0) [.dict (f7 (o6 m k) (kdS m k A 0)),.list ((lfS m k A d).map c9),.none,.dict (f7 (o6 m k) (kdS m k A d++nwS m k A d)),.dict (f7 (o6 m k) (nwS m k A d))]=cz (.list ((lfS m k A (d+1)).map c9)):=by
     rw[a2t (enc:=c9) (xs:=lfS m k A d) (λS=>!decide (S∈nwS m k A d)) c9 ?_ (by have:=t_ d;lia),a6Q]
     ·intro S hS;refine⟨_,rfl,?_,λ_=>rfl⟩;show tB (e2 (dIn p4 p4) (b7 0) (b7 1)) [c9 S,.dict (f7 (o6 m k) (nwS m k A d))]=_;walk_at "ev";rw[a8x];cases decide (S∈nwS m k A d)<;>rfl
     ·rw[V7 (ds:=(lfS m k A d).map c9) (by walk_at "ev") (m3 _ v6 _)]
    rw[A0,hu];walk_at "ev";rw[hc];walk_at "ev";rw[b6s (ds:=[.dict (f7 (o6 m k) (kdS m k A (d+1))),.list ((lfS m k A (d+1)).map c9)]) (by walk_at "ev";rfl),round (d+1) (by lia)];walk_at "ev";rfl) 1000000 0 [.dict (f7 (o6 m k) (kdS m k A 0)),.list ((lfS m k A 0).map c9),.none,.dict (f7 (o6 m k) (kdS m k A 0)),.dict (f7 (o6 m k) (nwS m k A 0))] ⟨by lia,rfl⟩ (by lia)
 rw[b8A,g1];walk_at "ev";exact⟨d,rfl,qX,hd⟩
end
end Prog
local macro_rules | `(tactic| walk_at "evn")=>`(tactic| first | (walk_at "ev";repeat (simp -implicitDefEqProofs (disch:=first | omega | assumption | decide) only [VS.a5s,VS.a5t];try walk_at "ev")) | (simp -implicitDefEqProofs (disch:=first | omega | assumption | decide) only [VS.a5s,VS.a5t];repeat (first | walk_at "ev" | simp -implicitDefEqProofs (disch:=first | omega | assumption | decide) only [VS.a5s,VS.a5t])))
namespace VS
open PySem L2
def C4:Nat->List (List Int)
 |0=>[[]]
 |j+1=>C4 j++(C4 j).map λS=>S++[(j:Int)]
def sts(n:Nat):List (List Int):=(C4 n).drop 1
theorem K4:∀{j:Nat} {S:List Int},S∈C4 j↔S.Pairwise (· < ·)/\∀s∈S,0<=s/\s<(j:Int)
 |0,S=>by
  show S∈[[]]↔_;rw[ai]
  constructor
  ·rintro rfl;exact⟨iz,λs hs=>(nomatch hs)⟩
  ·rintro⟨_,h⟩;cases S with
   |nil=>rfl
   |cons s r=>have:=h s ak;lia
 |j+1,S=>by
  show S∈C4 j++(C4 j).map _↔_;rw[ay,aX]
  constructor
  ·rintro (h|⟨T,h,rfl⟩)
   ·have:=K4.mp h;exact⟨this.1,λs hs=>by have:=this.2 s hs;lia⟩
   ·have:=K4.mp h;refine⟨je.mpr ⟨this.1,by simp,λa ha b hb=>?_⟩,λs hs=>?_⟩
    ·have:=this.2 a ha;rw[ai]at hb;lia
    ·rcases ay.mp hs with z|z
     ·have:=this.2 s z;lia
     ·rw[ai]at z;lia
  ·rintro⟨h1,h2⟩;by_cases c:(j:Int)∈S
   ·refine .inr ⟨S.filter λs=>decide (s<(j:Int)),K4.mpr ⟨h1.filter _,λs hs=>?_⟩,?_⟩
    ·have:=bu.mp hs;exact⟨(h2 s this.1).1,aP this.2⟩
    ·refine a0x (je.mpr ⟨h1.filter _,by simp,λa ha b hb=>?_⟩) h1 λx=>?_
     ·rw[ai]at hb;rw[hb];exact aP (bu.mp ha).2
     ·rw[ay,bu,ai,bK]
      constructor
      ·rintro (z|z)
       ·exact z.1
       ·rw[z];exact c
      ·intro z;have:=h2 x z;by_cases e:x=j
       ·exact .inr e
       ·exact .inl ⟨z,by lia⟩
   ·refine .inl (K4.mpr ⟨h1,λs hs=>⟨(h2 s hs).1,?_⟩⟩);have:=h2 s hs;have:s≠(j:Int):=λe=>c (e▸hs)
    lia
theorem a0A:∀n,C4 n=[]::sts n
 |0=>rfl
 |n+1=>by
  unfold sts;show C4 n++_=[]::List.drop 1 (C4 n++_);rw[a0A n];rfl
theorem a3F:∀n,n<8->(C4 n).Nodup
 |0,_=>by show [[]].Nodup;simp
 |j+1,h=>by
  show (C4 j++(C4 j).map _).Nodup;have ih:=a3F j (by lia);rw[aZ];refine⟨ih,?_,λx hx y hy e=>?_⟩
  ·exact Cd _ (λa b pO e=>pO (List.append_cancel_right e)) ih
  ·obtain⟨T,_,rfl⟩:=aX.mp hy;have:=(K4.mp hx).2 (j:Int) (by rw[e];simp);lia
theorem a1F:∀n,(C4 n).length=2^n
 |0=>rfl
 |j+1=>by
  show (C4 j++(C4 j).map _).length=_;rw[aN,ah,a1F j,Nat.pow_succ];lia
def a6W(h:n<=7):(C4 n).length<=128:=by
 rw[a1F];exact Nat.pow_le_pow_right (by decide) h
def a5C:∀n,n<8->(sts n).length<=127:=λn h=>by
 have:=a6W (n:=n) (by lia);unfold sts;rw[kD];lia
def c0T:∀n,n<8->((sts n).filter λS=>!decide (S.length=1)).length<=120:=by decide +kernel
def b8K(h:n<=7):(sts n).Nodup:=by
 have:=a3F n (by lia);rw[a0A]at this;exact (bz.mp this).2
def Q3{m:l8}(h:m.length<=7):S∈sts m.length↔SetK m S:=by
 have hn:=a3F m.length (by lia);have h1:=K4 (j:=m.length) (S:=S);rw[a0A]at hn h1;rw[az]at h1
 constructor
 ·intro q;have:=h1.mp (.inr q);exact⟨this.1,λe=>(bz.mp hn).1 (e▸q),this.2⟩
 ·rintro⟨q1,q2,q3⟩;exact (h1.mpr ⟨q1,q3⟩).resolve_left q2
end VS
namespace Prog
open PySem L2 VS
theorem a3G:∀{l:List α},(∀a∈l,p a=q a)->l.find? p=l.find? q
 |[],_=>rfl
 |x::l,h=>by
  rw[h_,h_,h x ak,a3G λa ha=>h a (aq _ ha)]
def SetK.len(h:SetK m b):b.length<=m.length:=a2c (h.1.imp λz=>by lia) h.2.2
def b5J{a b:List Int}(h:a.length+b.length<=1000000):a0S (.tuple (a.map .int)) (.tuple (b.map .int))=cz (.tuple ((a++b).map .int)):=by
 cases a with
 |nil=>exact a6b (by simp only[imm];exact w8 _)
 |cons x a=>
  show (if (!(((x::a).map aG)).isEmpty&&decide (((x::a).map aG).length+(b.map aG).length<=1000000))=p4 then V6 (.tuple ((x::a).map .int++b.map .int)) else el)=_;rw[aH (by rw[ah,ah,aI h];rfl),<-aO];exact a6b (by simp only[imm];exact w8 _)
def b1c{S:List Int}(h:S.length<1000):a0S (c9 S) (.tuple [.int j])=cz (c9 (S++[j])):=b5J (a:=S) (b:=[j]) (by simp;lia)
def b5K:∀n,n<8->1<=n->J7 (f7 (λ_=>.none) ((sts n).filter λS=>decide (S.length=1)))=p4:=by decide +kernel
def b3G:∀n,n<8->1<=n->((sts n).filter λS=>decide (S.length=1))≠[]:=by decide +kernel
def b5L(h:n<8)(h1:1<=n):J7 (f7 (o6 m k) (kdS m k (sts n) 0))=p4:=by
 have:f7 (o6 m k) (kdS m k (sts n) 0)=f7 (λ_=>.none) ((sts n).filter λS=>decide (S.length=1)):=by
  unfold f7 kdS;refine cn λS hS=>?_
  rw[show o6 m k S=.none from aH (aP (bu.mp hS).2)]
 rw[this];exact b5K n h h1
def a8y(n:Nat)(h:n<=7):Z2 [.int n]=cz (.list ((sts n).map c9)):=by
 unfold Z2;rw[J6 (by simp[VS.argsOk,imm])];unfold a4D;walk_at "ev";rw[a2R (n:=n) (by walk_at "ev") (by lia) (by lia),bG];walk_at "ev";refine a2p (λU=>∃x,U=[.int n,.list ((C4 n).map c9),x]) ?_ ?_
 ·obtain⟨U',g1,x,rfl⟩:=B0 (n:=n) (set:=v4 2) (g:=(j8 1 (eI (a9V (b7 1) (l0 (iI (iL (b7 1))) [2] pt1 tT (e2 a0S (b7 0) (B7 (b8 (b7 1) f6)))))))) (U:=[.int n,.list [.tuple []],.none])
   (λj U=>∃x,U=[.int n,.list ((C4 j).map c9),x]) ⟨_,rfl⟩ (by
    rintro j hj U ⟨x,rfl⟩;have hl:=a6W (n:=j) (by lia);refine⟨_,[.int n,.list ((C4 (j+1)).map c9),.int j],rfl,?_,_,rfl⟩;show (j8 1 (eI (a9V (b7 1) (l0 (iI (iL (b7 1))) [2] pt1 tT (e2 a0S (b7 0) (B7 (b8 (b7 1) f6))))))) [.int n,.list ((C4 j).map c9),.int j]=_;have hc:(l0 (iI (iL (b7 1))) [2] pt1 tT (e2 a0S (b7 0) (B7 (b8 (b7 1) f6)))) [.int n,.list ((C4 j).map c9),.int j]=cz (.list (((C4 j).map λS=>S++[(j:Int)]).map c9)):=by
     rw[F8 (enc:=c9) (xs:=C4 j) (λS=>c9 (S++[(j:Int)])) (V7 (by walk_at "ev") (m3 _ v6 _)) (by lia) λS hS=>⟨_,rfl,?_⟩]
     ·rw[bH];rfl
     ·have hm:=K4.mp hS;have jP:=a2c (n:=j) (hm.1.imp λz=>by lia) hm.2;show e2 a0S (b7 0) (B7 (b8 (b7 1) f6)) [c9 S,.int j]=_;walk_at "ev";exact b1c (by lia)
    rw[a0M,b3i,c0t,hc];walk_at "ev";rw[b8r (by rw[ah,ah,ah];lia),<-aO,a6I (m3 _ v6 _)];rfl)
  exact⟨_,g1,_,rfl⟩
 ·rintro U ⟨x,rfl⟩;have hl:0<(C4 n).length:=by rw[a1F];exact Nat.pow_pos (by decide)
  walk_at "ev";rw[c1Z];walk_at "ev";rw[c0w,c0v];walk_at "ev";rw[c2a,c0u,b8s (by lia) (by rw[ah];lia),show (1:Int).toNat=1 from rfl,<-List.map_drop,a6I (m3 _ v6 _)];rfl
def bvD(m:l8)(k:Nat)(S:List Int):D:=.list ((aJ k).map λ(a:Nat)=>bhD m a S)
section
variable {m:l8}{k:Nat}(w:WF m k)(h5:m.length<=7)
include w h5
theorem b8L(ha:a<k)(hS:SetK m S):tsl m (kdS m k (sts m.length) d) a S=tst (tb m k d) m a S:=by
 unfold tsl tst
 congr 1;rw[cJ,aY,aY];have key:∀s∈S,(decide (prt m a S (stp m s a).1∈kdS m k (sts m.length) d)=p4↔tb m k d (prt m a S (stp m s a).1)=p4):=λs hs=>by
  rw[bK,p8,Q3 h5];exact⟨λq=>q.2,λq=>⟨SetK.prt w hS ha hs,q⟩⟩
 constructor
 ·intro q s hs;refine (key s hs).mp (q _ (V0.mpr ?_));have:s∈(S.zip S).map (·.1):=by rw[K6];exact hs
  obtain⟨p,hp,rfl⟩:=aX.mp this;exact⟨p,hp,rfl⟩
 ·intro q x hx;obtain⟨p,hp,rfl⟩:=V0.mp hx;have hs:p.1∈S:=by have:=bt (f:=Prod.fst) hp;rw[K6]at this;exact this
  exact (key p.1 hs).mpr (q p.1 hs)
theorem SetK.le5(hS:SetK m S):S.length<=7:=bL (SetK.len hS) h5
theorem a3T:∃d,J9 [.list (m.map rwD)]=cz (.dict (f7 (o6 m k) (kdS m k (sts m.length) d)))/\nwS m k (sts m.length) d=[]/\d<=120:=by
 have ot:=w.pos;have sP:=w.k5;have rU:=a5C m.length (by lia);have hA:=b8K h5;obtain⟨d,r1,r2,r3⟩:=a0z (m:=m) (k:=k) hA (by lia) (b3G m.length (by lia) ot) (b5L (by lia) ot) (gm:=fnE [.i,.f] ([2].map λj=>([.list (m.map rwD),.dict (f7 (o6 m k) (kdS m k (sts m.length) 0)),.dict (f7 (bvD m k) (lfS m k (sts m.length) 0)),.none]:List D).getD j .none) (eCl u8 (b8 (e2 (P3 p4) (b7 2) (b7 0)) (b8 (b7 1) f6)))) (λd hd S hS=>by
  have mT:=U9.mp hS;have hK:=(Q3 h5).mp mT.1;rw[c0O (by simp[VS.argsOk,v6])];show eCl u8 (b8 (e2 (P3 p4) (b7 2) (b7 0)) (b8 (b7 1) f6)) [c9 S,.dict (f7 (o6 m k) (kdS m k (sts m.length) d)),.dict (f7 (bvD m k) (lfS m k (sts m.length) 0))]=_;walk_at "ev";rw[a4M (U9.mpr ⟨mT.1,by cases x:tb m k 0 S with|false=>rfl|true=>have:=V5 x (b_ d);rw[mT.2]at this;cases this⟩)];walk_at "ev";have jP:=SetK.le5 w h5 hK;rw[show bvD m k S=.list ((aJ k).map λ(a:Nat)=>bhD m a S) from rfl,a1E sP (by lia)];unfold lta;rw[a3G λa ha=>b8L w h5 (bR.mp ha) hK])
 refine⟨d,?_,r2,bL r3 (c0T m.length (by lia))⟩;unfold J9;rw[J6 (by simp[VS.argsOk])];unfold a0Z;walk_at "ev";rw[V7 (ds:=(sts m.length).map c9) (by walk_at "ev";rw[a8y _ h5];walk_at "ev") (m3 _ v6 _)];walk_at "ev";refine a2p (λU=>∃x,U=[.list (m.map rwD),.dict (f7 (o6 m k) (kdS m k (sts m.length) 0)),.dict (f7 (bvD m k) (lfS m k (sts m.length) 0)),x]) ?_ ?_
 ·obtain⟨U',g1,x,rfl⟩:=L1 (enc:=c9) (set:=v4 3) (xs:=sts m.length) (g:=(sIf (tB (e2 dEq (eCl A8 (b8 (b7 3) f6)) (eC (.int 1)))) (A4 1 p4 (b7 3) (eC .none)) (A4 2 p4 (b7 3) (eCl B5 (b8 (b7 0) (b8 (b7 3) f6)))))) (U:=[.list (m.map rwD),.dict [],.dict [],.none])
   (λpre U=>∃x,U=[.list (m.map rwD),.dict (f7 (o6 m k) (kdS m k pre 0)),.dict (f7 (bvD m k) (lfS m k pre 0)),x]) ⟨_,rfl⟩ (by
    rintro pre S post e U ⟨x,rfl⟩;have pP:S∈sts m.length:=by rw[e];simp
    have hK:=(Q3 h5).mp pP;have jP:=SetK.le5 w h5 hK;have kY:S∉pre:=by
     rw[e]at hA;have:=aZ.mp hA;exact λz=>this.2.2 S z S ak rfl
    have fM:pre.length<=127:=by rw[e,aN]at rU;lia
    have l1:(kdS m k pre 0).length<=pre.length:=dg _ _;have l2:(lfS m k pre 0).length<=pre.length:=dg _ _;refine⟨_,[.list (m.map rwD),.dict (f7 (o6 m k) (kdS m k (pre++[S]) 0)),.dict (f7 (bvD m k) (lfS m k (pre++[S]) 0)),c9 S],rfl,?_,_,rfl⟩;show (sIf (tB (e2 dEq (eCl A8 (b8 (b7 3) f6)) (eC (.int 1)))) (A4 1 p4 (b7 3) (eC .none)) (A4 2 p4 (b7 3) (eCl B5 (b8 (b7 0) (b8 (b7 3) f6))))) [.list (m.map rwD),.dict (f7 (o6 m k) (kdS m k pre 0)),.dict (f7 (bvD m k) (lfS m k pre 0)),c9 S]=_;have hlen:A8 [c9 S]=cz (.int S.length):=by show cz (aG ((S.map aG).length:Nat))=_;rw[ah]
    walk_at "ev";rw[hlen];walk_at "ev";by_cases c:S.length=1
    ·rw[aI (show (S.length:Int)=1 by lia)];walk_at "ev";rw[a1c (g:=o6 m k) (a:=S) (l:=kdS m k pre 0) (by rw[show o6 m k S=.none from aH c];rfl) rfl rfl (by lia) λz=>kY (p8.mp z).1];have e1:kdS m k (pre++[S]) 0=a3S S (kdS m k pre 0):=by
      unfold a3S;rw[aM λz=>kY (p8.mp z).1];unfold kdS;rw[eh,dN (by exact aI c)];rfl
     have e2:lfS m k (pre++[S]) 0=lfS m k pre 0:=by
      unfold lfS;rw[eh,dm (by show ¬ (!decide (S.length=1))=p4;rw[aI c];decide)];simp
     rw[e1,e2];rfl
    ·rw[aV (show ¬ (S.length:Int)=1 by lia)];walk_at "ev";rw[a1c (g:=bvD m k) (a:=S) (l:=lfS m k pre 0) (by walk_at "ev";rw[a3E w hK (by lia)];rfl) rfl rfl (by lia) λz=>kY (U9.mp z).1];have e1:kdS m k (pre++[S]) 0=kdS m k pre 0:=by
      unfold kdS;rw[eh,dm (by rw[aV c];decide)];simp
     have e2:lfS m k (pre++[S]) 0=a3S S (lfS m k pre 0):=by
      unfold a3S;rw[aM λz=>kY (U9.mp z).1];unfold lfS;rw[eh,dN (by show (!decide (S.length=1))=p4;rw[aV c];rfl)];rfl
     rw[e1,e2];rfl)
  exact⟨_,g1,_,rfl⟩
 ·rintro U ⟨x,rfl⟩;walk_at "ev";have Eh:a8e (b7 2) [.list (m.map rwD),.dict (f7 (o6 m k) (kdS m k (sts m.length) 0)),.dict (f7 (bvD m k) (lfS m k (sts m.length) 0)),x]=cz (.list ((lfS m k (sts m.length) 0).map c9)):=by
   show (if g8 ((f7 (bvD m k) (lfS m k (sts m.length) 0)).map (·.1)) then cz (g_ ((f7 (bvD m k) (lfS m k (sts m.length) 0)).map (·.1))) else el)=_;rw[a4L,aH (m3 _ v6 _)]
  rw[c0N (ds:=[.dict (f7 (o6 m k) (kdS m k (sts m.length) 0)),.list ((lfS m k (sts m.length) 0).map c9)]) (by walk_at "ev";rw[Eh];walk_at "ev")];rw[show u5 (fnE [.i,.f] (List.map (λj=>([.list (m.map rwD),.dict (f7 (o6 m k) (kdS m k (sts m.length) 0)),.dict (f7 (bvD m k) (lfS m k (sts m.length) 0)),x]:List D).getD j .none) [2]) (eCl u8 (b8 (e2 (P3 p4) (b7 2) (b7 0)) (b8 (b7 1) f6)))) [.dict (f7 (o6 m k) (kdS m k (sts m.length) 0)),.list ((lfS m k (sts m.length) 0).map c9)]=_ from r1];walk_at "ev"
end
def a6X{m:l8}(h7:m.length<=7):C3 [.list (m.map rwD)]=cz .none:=by
 unfold C3;rw[b6n (by simp[VS.argsOk])];unfold P9;walk_at "evn";rw[aV (show ¬ (7:Int)<m.length by lia)];walk_at "evn"
end Prog
namespace VS
open PySem L2
def b1d{ns:List Int}(h:a U=cz (.list (ns.map .int)))(hl:ns.length<64):a0R a U=cz (.list ((a1d ns).map .int)):=by
 unfold a0R;rw[h];show (intsOf (ns.map .int)).bind _=_;rw[O5];show (if ns.length<64 then _ else el)=_;rw[aH hl];rfl
def In(m:l8)(b:List Int):Prop:=Inc b/\∀s∈b,0<=s/\s<(m.length:Int)
def two{b:List Int}(h:1<b.length):∃s t r,b=s::t::r:=by
 match b,h with
 |s::t::r,_=>exact⟨s,t,r,rfl⟩
def b5M{b:List Int}(h:j<b.length):L2.atI (b.map aG) (j:Int)=cz (.int (b.getD j 0)):=by
 have:=O8 (ns:=b) (j:=(j:Int)) (by lia) (by lia)
 rwa[bG]at this
end VS
namespace Prog
open PySem L2 VS
abbrev LGA(m:l8)(k d:Nat)(B:BG)(t:List D):List D:=.list (m.map rwD)::.dict (f7 (o6 m k) (kdS m k (sts m.length) d))::bgD B::t
section
variable {m:l8}{k:Nat}(w:WF m k)(h5:m.length<=7){d:Nat}(hd:d<=120)
include w h5 hd
theorem b3H:∀(j:Nat),j<=d->∀(B:BG) (S:List Int),SetK m S->(∀s,s∈B.map (·.1)↔s∈S)->(B.map (·.1)).Nodup->tb m k j S=p4->∀f,j<f->M9 f (LGA m k d B [])=cz (gT m k f B):=by
 intro j
 induction j using Hm with
 |_ j ih=>
  intro hj B S hS hB hn ht f hf;obtain⟨f,rfl⟩:∃q,f=q+1:=⟨f-1,by lia⟩;have jP:=SetK.le5 w h5 hS;have sM:(B.map (·.1)).Perm S:=(jM hn (hS.1.imp λh=>by lia)).mpr hB;have zT:B.length=S.length:=by have:=sM.length_eq;rw[ah]at this;exact this
  have hu:M9 (f+1) (LGA m k d B [])=a2O (a5v (M9 f) (LGA m k d B [.none,.none,.none,.none])):=by
   show fnD _ _ _ _=_;rw[J6 (by simp[VS.argsOk])];rfl
  rw[hu];unfold a5v;have hlen:b2c [bgD B]=cz (.int B.length):=by show cz (aG ((kvD aG B).length:Nat))=_;rw[a9q]
  walk_at "ev";rw[hlen];walk_at "ev";by_cases c:S.length=1
  ·rw[aI (show (B.length:Int)=1 by lia)];obtain⟨p,rfl⟩:∃p,B=[p]:=by
    match B,zT.trans c with
    |[p],_=>exact⟨p,rfl⟩
   walk_at "ev";rw[c0f (d:=.int p.2) (by walk_at "ev";rw[b5C (W:=[p]) rfl];rfl) rfl];rfl
  ·rw[aV (show ¬ (B.length:Int)=1 by lia)];walk_at "ev";obtain⟨e,a,he,ha,jX,rL⟩:=b3z j (by lia) ht c;have i_:B3 (C0 (b7 2)) (LGA m k d B [.none,.none,.none,.none])=cz (c9 S):=by
    rw[a0u,a1f (kvs:=kvD aG B) (es:=B.map (·.1)) rfl b3t (by rw[ah];lia),Z4 hn,show a1d (B.map (·.1))=S from a0x (L4 _) hS.1 λx=>by rw[L3];exact hB x];exact O7
   have jy:S∈kdS m k (sts m.length) d:=p8.mpr ⟨(Q3 h5).mpr hS,V5 ht hj⟩;rw[i_];walk_at "ev";rw[a4M jy,jX];walk_at "ev";unfold tst at rL;rw[ao]at rL;have oN:B1 m a (B.map (·.1))=p4:=by rw[a4P sM];exact rL.1
   rw[a1j w ha (λp hp=>hS.2.2 p.1 ((hB p.1).mp (bt hp))) (by lia),aH oN];walk_at "ev";have pN:=a0y (m:=m) (a:=a) (B:=B);have tM:C0 (b7 4) (LGA m k d B [.int a,ptD m a B,.list [],.none])=cz (iD (srt (anL m a B))):=a1f (kvs:=y7 (λx=>bgD (gp m a B x)) (anL m a B)) rfl a4Q (by lia);rw[V7 (ds:=(srt (anL m a B)).map .int) (by rw[b5u,tM];rfl) (w8 _)];walk_at "ev";have ud:((B.map (·.1)).map λs=>stp m s a).Nodup:=aP oN;obtain⟨U',g1,x,rfl⟩:=L1 (enc:=aG) (set:=v4 6) (xs:=srt (anL m a B)) (g:=(C5 5 (.l .f) p6 (B7 (b8 (b7 6) (b8 (eCl (M9 f) (b8 (b7 0) (b8 (b7 1) (b8 (e2 (P3 rp) (b7 4) (b7 6)) f6)))) f6))))) (U:=(LGA m k d B [.int a,ptD m a B,.list [],.none]))
    (λpre U=>∃x:D,U=(LGA m k d B [.int a,ptD m a B,.list (pre.map λx=>.tuple [.int x,gT m k f (gp m a B x)]),x])) ⟨_,rfl⟩ (by
     rintro pre x post e9 U ⟨y,rfl⟩;have hx:x∈anL m a B:=(l9 _).mem_iff.mp (by rw[e9];simp);obtain⟨p,hp,tP⟩:=V0.mp hx;have vR:p.1∈S:=(hB p.1).mp (bt hp);have fM:pre.length<=31:=by
      have h1:=dJ eW e9;rw[(l9 _).length_eq,aN]at h1;lia
     have yK:=ih e he (by lia) (gp m a B x) (prt m a S x) (by rw[<-tP];exact SetK.prt w hS ha vR) (λs=>by
      rw[Z8,a1e,a2u];exact⟨λ⟨q,hq,z⟩=>⟨q,(hB q).mp hq,z⟩,λ⟨q,hq,z⟩=>⟨q,(hB q).mpr hq,z⟩⟩) (by rw[Z8];exact a5w ud) (by rw[<-tP];exact aY.mp rL.2 p.1 vR) f (by lia)
     rw[aO];generalize rS:(pre.map λx=>(.tuple [.int x,gT m k f (gp m a B x)]:D))=ds;have sT:ds.length=pre.length:=by rw[<-rS,ah]
     refine⟨_,(LGA m k d B [.int a,ptD m a B,.list (ds++[.tuple [.int x,gT m k f (gp m a B x)]]),.int x]),rfl,?_,_,rfl⟩;have hv:B7 (b8 (b7 6) (b8 (eCl (M9 f) (b8 (b7 0) (b8 (b7 1) (b8 (e2 (P3 rp) (b7 4) (b7 6)) f6)))) f6)) (LGA m k d B [.int a,ptD m a B,.list ds,.int x])=cz (.tuple [.int x,gT m k f (gp m a B x)]):=by
      walk_at "ev";rw[show P3 rp (ptD m a B) (.int x)=cz (bgD (gp m a B x)) from b8F hx];walk_at "ev";rw[yK];walk_at "ev"
     show C5 5 (.l .f) p6 _ (LGA m k d B [.int a,ptD m a B,.list ds,.int x])=_;rw[a8V,hv];show a7x 5 (.list ds) (cz (.tuple [.int x,gT m k f (gp m a B x)])) _=_;rw[L8 (by lia)];rfl)
   rw[g1];walk_at "ev";rw[c0e (d:=.int a) rfl (by simp only[imm])];walk_at "ev";have tN:a1d (B.map (·.1))=S:=a0x (L4 _) hS.1 λx=>by rw[L3];exact hB x
   show _=cz (if B.length=1 then _ else _);rw[aM (by lia),tN,a9x jX]
theorem a6Y(rP:J9 [.list (m.map rwD)]=cz (.dict (f7 (o6 m k) (kdS m k (sts m.length) d))))(hS:SetK m S):B6 [.list (m.map rwD),iD S]=cz (if S∈kdS m k (sts m.length) d then gT m k 121 (S.zip S) else .none):=by
 have jP:=SetK.le5 w h5 hS;have iF:S.Nodup:=hS.1.imp λh=>by lia
 unfold B6;rw[J6 (by simp[VS.argsOk])];unfold a0i;walk_at "ev";rw[rP];walk_at "ev";rw[show B3 (b7 1) [.list (m.map rwD),iD S,.dict (f7 (o6 m k) (kdS m k (sts m.length) d))]=cz (c9 S) by rw[a0u];exact O7];walk_at "ev";rw[b3x];by_cases c:S∈kdS m k (sts m.length) d
 ·rw[aI c,aH c];walk_at "ev";rw[a3D (l:=p4) (S:=S) rfl iF (by lia)];walk_at "ev";rw[b3H w h5 hd d (aD _) (S.zip S) S hS (λs=>by rw[K6]) (by rw[K6];exact iF) (p8.mp c).2 121 (by lia)];rfl
 ·rw[aV c,aM c];walk_at "ev";rfl
end
def b5N(h0:0<=s)(h1:s<(n:Int)):U7 [.int s,.int n]=cz (.bool p4):=by
 unfold U7;rw[J6 (by simp[VS.argsOk,imm])];unfold a3q;walk_at "ev";rw[show U6 [.int s]=cz (.bool p4) by
  unfold U6;rw[J6 (by simp[VS.argsOk])];unfold a3o;walk_at "ev"]
 walk_at "ev";rw[aI h0];walk_at "ev";rw[aI h1]
def b1e{m:l8}(h7:m.length<=7)(hb:SetK m b):a0X [.list (b.map .int),.int m.length]=cz (.bool p4):=by
 have GX:=SetK.len hb;have ot:0<b.length:=List.length_pos_iff.mpr hb.2.1;unfold a0X;rw[J6 (by simp[VS.argsOk,imm])];unfold a6M;walk_at "ev";rw[show F7 [.list (b.map .int),.int m.length]=cz (.bool p4) by
  unfold F7;rw[J6 (by simp[VS.argsOk,imm])];unfold V1;walk_at "ev";rw[aI (show (1:Int)<=b.length by lia)];walk_at "ev";rw[aI (show (b.length:Int)<=m.length by lia)]]
 walk_at "ev";rw[F8 (enc:=aG) (xs:=b) (λs=>dh ((λ_=>p4) s)) (V7 (by walk_at "ev") (m3 _ (λ_=>a0N) _)) (by lia) (λs hs=>⟨_,rfl,?_⟩)]
 ·walk_at "ev";rw[v_all (λ_=>p4) b,aY.mpr (λ_ _=>rfl)];walk_at "ev";rw[b1d (ns:=b) (by walk_at "ev") (by lia),b1a hb.1];walk_at "ev";rw[show dEq (.list (b.map .int)) (.list (b.map .int))=_ from b6m (xs:=b) (ys:=b),aI rfl];walk_at "ev"
 ·have:=hb.2.2 s hs;walk_at "ev";exact b5N this.1 this.2
def a8z{m:l8}(h7:m.length<=7)(hS:SetK m S):H9 [.list (m.map rwD),iD S]=B6 [.list (m.map rwD),iD S]:=by
 unfold H9;rw[J6 (by simp[VS.argsOk])];unfold a4H;walk_at "ev";rw[a6X h7];walk_at "ev";rw[show U8 [.list (m.map rwD),.list (S.map .int)]=cz .none by
  unfold U8;rw[b6n (by simp[VS.argsOk])];unfold a3s;walk_at "evn";rw[b1e h7 hS];walk_at "evn"]
 walk_at "ev";cases B6 [.list (m.map rwD),.list (S.map .int)]<;>rfl
abbrev LC(m:l8)(a:Nat)(S pre:List Int)(t:List D):List D:=.list (m.map rwD)::c9 S::.int (a:Nat)::.dict (y7 (λx=>iD (toA m a pre x)) (ddE (pre.map (λs=>(stp m s a).1))))::t
abbrev LI(m:l8)(a:Nat)(S pre:List Int)(s:Int)(t:List D):List D:=.list (m.map rwD)::c9 S::.int (a:Nat)::.dict (y7 (λx=>iD (toA m a pre x)) (V8 (stp m s a).1 (ddE (pre.map (λs=>(stp m s a).1)))))::t
def b5O(hk:fk U=cz k)(he:fe U=cz d)(hd:U.getD i .none=.dict kvs)(hK:n8 kt k=p4)(hg:A3 kvs k=cz (.list es))(hl:es.length<1000000) :
  a4q i kt fk fe U=cz (.nx (U.set i (.dict (q8 kvs k (.list (es++[d])))))):=by
 unfold a4q;rw[hk,bC,he,bC,hd];show (if n8 kt k=p4 then _ else _)=_;rw[aH hK,hg];show (if es.length<1000000 then _ else _)=_;rw[aH hl]
theorem a4R(e:Int):∀es:List Int,((es.map aG).any λd=>aB d (.int e))=decide (e∈es)
 |[]=>rfl
 |x::es=>by
  rw[aA,ki,a4R e es,a2q,cJ];simp only[ia,bK,az];exact or_congr_left eq_comm
def b8M:a6i neg (.int e) (iD es)=cz (.bool (neg !=decide (e∈es))):=by
 show (if aS (es.map aG)&&(aG e).canLay0&&decide ((aG e).depth<=60) then cz (dh (neg !=(es.map aG).any λd=>aB d (.int e))) else el)=_;rw[M8 _ (λ_=>U5),U5,K0,a4R];rfl
def a9y(h:a U=cz (iD ns))(hl:ns.length<60):a1Q a U=cz (iD (srt ns)):=by
 unfold a1Q;rw[h,bC];show (intsOf (ns.map .int)).bind _=_;rw[O5,bC,aH (by lia)]
section
variable {m:l8}{a:Nat}{S:List Int}{x s:Int}
def a6Z:toA m a (S++[s]) x=if (stp m s a).1=x then toA m a S x++[(stp m s a).2] else toA m a S x:=by
 unfold toA;rw[eh,aO];by_cases c:(stp m s a).1=x
 ·rw[aH c,dN (by exact aI c)];rfl
 ·rw[aM c,dm (by rw[aV c];exact aW)];simp
def b3I(h:x∉ddE (S.map λs=>(stp m s a).1)):toA m a S x=[]:=by
 unfold toA;rw[kP.mpr λs hs c=>h ((a2v _).mpr (aX.mpr ⟨s,hs,aP c⟩))];rfl
def b3J:(toA m a S x).length<=S.length:=by unfold toA;rw[ah];exact dg _ _
def a4S:B1 m a (S++[s])=(B1 m a S&&!decide ((stp m s a).2∈toA m a S (stp m s a).1)):=by
 have hm:((stp m s a).2∈toA m a S (stp m s a).1)↔stp m s a∈S.map λs=>stp m s a:=by
  rw[a1e,aX]
 unfold B1;rw[cJ,ao,bK,bK,aO,aZ,gk,s_,hm]
 constructor
 ·rintro⟨h1,_,h3⟩;exact⟨h1,λz=>h3 _ z _ (ai.mpr rfl) rfl⟩
 ·rintro⟨h1,h2⟩;exact⟨h1,by simp,λx hx y hy e=>h2 (by have:=ai.mp hy;subst this;subst e;exact hx)⟩
def b1f(h:B1 m a (S++T)=p4):B1 m a S=p4:=by
 unfold B1 at h ⊢;rw[bK]at h ⊢;rw[aO]at h;exact (aZ.mp h).1
end
def a5D(S:List Int):anL m a (S.zip S)=ddE (S.map (λs=>(stp m s a).1)):=by
 unfold anL;rw[show (λp:Int×Int=>(stp m p.1 a).1)=(λs=>(stp m s a).1) ∘ (·.1) from rfl,<-bH,K6]
def P4(m:l8)(a:Nat)(S:List Int):D:=if B1 m a S then .list ((srt (anL m a (S.zip S))).map λx=>.tuple [.int x,c9 (prt m a S x)]) else .none
abbrev b5P:EvS:=(i4 (a4g 5 6 (e2 v7 (e2 dIx (b7 0) (b7 4)) (b7 2))) (i4 (sIf (tB (e2 (dIn p4 rp) (b7 5) (b7 3))) (A4 3 rp (b7 5) (G0 f6)) n5) (i4 (sIf (tB (e2 (a6i rp) (b7 6) (e2 (a0q rp) (b7 3) (b7 5)))) (m9 (eC .none)) n5) (a4q 3 rp (b7 5) (b7 6)))))
section
variable {m:l8}{k:Nat}(w:WF m k){a:Nat}(ha:a<k){S:List Int}(hS:SetK m S)(jP:S.length<=30)
include w ha hS jP
theorem b8N:m_law_led [.list (m.map rwD),c9 S,.int (a:Nat)]=cz (P4 m a S):=by
 unfold m_law_led;rw[J6 (by simp[VS.argsOk,v6,imm])];unfold b_law_led;walk_at "ev";rw[V7 (ds:=S.map .int) (c2l (by walk_at "ev";rfl)) (w8 _)];walk_at "ev";have main:=a1B (enc:=aG) (set:=v4 4) (xs:=S) (g:=b5P) (U:=[.list (m.map rwD),c9 S,.int (a:Nat),.dict [],.none,.none,.none])
   (λpre U=>B1 m a pre=p4/\∃x y z,U=(LC m a S pre [x,y,z])) (λr=>r=.none/\B1 m a S=rp) ⟨rfl,_,_,_,rfl⟩ (by
    rintro pre s post e U ⟨hf,x,y,z,rfl⟩;have hs:=hS.2.2 s (by rw[e];simp);have hr:=w.row hs.1 hs.2;have fM:pre.length<=30:=by rw[e,aN]at jP;lia
    have AR:=b3J (m:=m) (a:=a) (S:=pre) (x:=(stp m s a).1);have sT:=a1h (pre.map (λs=>(stp m s a).1));rw[ah]at sT;refine⟨(LC m a S pre [.int s,y,z]),rfl,?_⟩;have hc:a4g 5 6 (e2 v7 (e2 dIx (b7 0) (b7 4)) (b7 2)) (LC m a S pre [.int s,y,z])=cz (.nx (LC m a S pre [.int s,.int (stp m s a).1,.int (stp m s a).2])):=by
     walk_at "ev";rw[b3n hs.1 hs.2];walk_at "ev";rw[b8t (by lia) (by lia)];walk_at "ev";rfl
    have hi:(sIf (tB (e2 (dIn p4 rp) (b7 5) (b7 3))) (A4 3 rp (b7 5) (G0 f6)) n5) (LC m a S pre [.int s,.int (stp m s a).1,.int (stp m s a).2])=cz (.nx (LI m a S pre s [.int s,.int (stp m s a).1,.int (stp m s a).2])):=by
     rw[a2P];have jy:dIn p4 rp (.int (stp m s a).1) (.dict (y7 (λx=>iD (toA m a pre x)) (ddE (pre.map (λs=>(stp m s a).1)))))=cz (.bool !decide ((stp m s a).1∈ddE (pre.map (λs=>(stp m s a).1)))):=by
      rw[a9t,b8C,bH]
      congr 3;rw[show ((λx:Int×Int=>x.1) ∘ λx:Int=>(x,x))=λx=>x from rfl,jB];cases decide ((stp m s a).1∈ddE (pre.map (λs=>(stp m s a).1)))<;>rfl
     walk_at "ev";rw[jy];walk_at "ev";by_cases c:(stp m s a).1∈ddE (pre.map (λs=>(stp m s a).1))
     ·rw[aI c];unfold LI V8;rw[aH c];rfl
     ·rw[aV c];show A4 3 rp (b7 5) (G0 f6) (LC m a S pre [.int s,.int (stp m s a).1,.int (stp m s a).2])=_;rw[b3v (kt:=rp) (k:=.int (stp m s a).1) (d:=.list []) (kvs:=y7 (λx=>iD (toA m a pre x)) (ddE (pre.map (λs=>(stp m s a).1)))) rfl rfl rfl (dKey_i _) (by rw[a6S];lia)];unfold LI V8 q8;rw[aM c,a1C,aV c,aM aW];unfold y7;rw[aO];show _=cz (Out.nx [_,_,_,.dict (_++[(aG (stp m s a).1,iD (toA m a pre (stp m s a).1))]),_,_,_]);rw[b3I c];rfl
    have jF:(stp m s a).1∈V8 (stp m s a).1 (ddE (pre.map (λs=>(stp m s a).1))):=a3x.mpr (.inr rfl);have qZ:=Z7 (g:=λx=>iD (toA m a pre x)) jF;unfold b5P;rw[A0,hc,v8,A0,hi,v8];have ht:(tB (e2 (a6i rp) (b7 6) (e2 (a0q rp) (b7 3) (b7 5)))) (LI m a S pre s [.int s,.int (stp m s a).1,.int (stp m s a).2])=cz (decide ((stp m s a).2∈toA m a pre (stp m s a).1)):=by
     walk_at "ev";rw[show a0q rp (.dict (y7 (λx=>iD (toA m a pre x)) (V8 (stp m s a).1 (ddE (pre.map (λs=>(stp m s a).1)))))) (.int (stp m s a).1)=cz (iD (toA m a pre (stp m s a).1)) by
      show (if n8 rp (.int (stp m s a).1) then A3 _ _ else el)=_;rw[dKey_i,aH rfl,qZ]]
     walk_at "ev";rw[b8M,qU];rfl
    rw[A0,a2P,ht];by_cases c:(stp m s a).2∈toA m a pre (stp m s a).1
    ·rw[aI c];refine .inr ⟨.none,rfl,rfl,?_⟩;cases x:B1 m a S with
     |false=>rfl
     |true=>
      have e2:S=(pre++[s])++post:=by rw[e];simp
      rw[e2]at x;have:=b1f x;rw[a4S,aI c,hf]at this;cases this
    ·rw[aV c];refine .inl ⟨[.list (m.map rwD),c9 S,.int (a:Nat),.dict (y7 (λx=>iD (toA m a (pre++[s]) x)) (ddE ((pre++[s]).map (λs=>(stp m s a).1)))),.int s,.int (stp m s a).1,.int (stp m s a).2],?_,?_,_,_,_,rfl⟩
     ·show a4q 3 rp (b7 5) (b7 6) (LI m a S pre s [.int s,.int (stp m s a).1,.int (stp m s a).2])=_;rw[b5O (kt:=rp) (k:=.int (stp m s a).1) (d:=.int (stp m s a).2) (es:=(toA m a pre (stp m s a).1).map .int) rfl rfl rfl (dKey_i _) qZ (by rw[ah];lia)];have e2:=a6T (g:=λx=>iD (toA m a pre x)) (h:=λx=>iD (toA m a (pre++[s]) x)) jF (λy hy=>by
       show iD (toA m a (pre++[s]) y)=iD (toA m a pre y);rw[a6Z,aM λz=>hy z.symm])
      rw[aO,show [s].map (λs=>(stp m s a).1)=[(stp m s a).1] from rfl,a1g,<-e2,a6Z,aH rfl];unfold iD;rw[aO];rfl
     ·rw[a4S,aV c,hf];rfl)
 rcases main with⟨U',g1,hf,x,y,z,rfl⟩|⟨r,g1,rfl,hf⟩
 ·have g1:L6 (v4 4) b5P (S.map .int) [.list (m.map rwD),c9 S,.int (a:Nat),.dict [],.none,.none,.none]=_:=g1;rw[g1];walk_at "ev";have oA:(S.map λs=>stp m s a).Nodup:=aP hf;have sT:=a1h (S.map (λs=>(stp m s a).1));rw[ah]at sT;have tM:C0 (b7 3) [.list (m.map rwD),c9 S,.int (a:Nat),.dict (y7 (λx=>iD (toA m a S x)) (ddE (S.map (λs=>(stp m s a).1)))),x,y,z]=cz (iD (srt (ddE (S.map (λs=>(stp m s a).1))))):=a1f (kvs:=y7 (λx=>iD (toA m a S x)) (ddE (S.map (λs=>(stp m s a).1)))) rfl a4Q (by lia);rw[F8 (enc:=aG) (xs:=srt (ddE (S.map (λs=>(stp m s a).1)))) (λx=>fm [.int x,c9 (prt m a S x)]) (V7 (by rw[b5u,tM];rfl) (w8 _)) (by rw[(l9 _).length_eq];lia) λv hv=>⟨_,rfl,?_⟩]
  ·walk_at "ev";unfold P4;rw[hf,aH rfl,a5D]
  ·have Dx:v∈ddE (S.map (λs=>(stp m s a).1)):=(l9 _).mem_iff.mp hv;have AR:=b3J (m:=m) (a:=a) (S:=S) (x:=v);have i_:B3 (a1Q (e2 (a0q rp) (b7 1) (b7 0))) [.int v,.dict (y7 (λx=>iD (toA m a S x)) (ddE (S.map (λs=>(stp m s a).1))))]=cz (c9 (prt m a S v)):=by
    rw[a0u,a9y (ns:=toA m a S v) (by
     show a0q rp (.dict (y7 (λx=>iD (toA m a S x)) (ddE (S.map (λs=>(stp m s a).1))))) (.int v)=_;show (if n8 rp (.int v) then A3 _ _ else el)=_;rw[dKey_i,aH rfl,Z7 Dx]) (by lia),Z4 (a5w oA)]
    exact O7
   show B7 (b8 (b7 0) (b8 (B3 (a1Q (e2 (a0q rp) (b7 1) (b7 0)))) f6)) [.int v,.dict (y7 (λx=>iD (toA m a S x)) (ddE (S.map (λs=>(stp m s a).1))))]=_;walk_at "ev";rw[i_];walk_at "ev"
 ·have g1:L6 (v4 4) b5P (S.map .int) [.list (m.map rwD),c9 S,.int (a:Nat),.dict [],.none,.none,.none]=_:=g1;rw[g1];walk_at "ev";unfold P4;rw[hf];rfl
end
section
variable {m:l8}{k:Nat}(w:WF m k)
include w
theorem b5Q(hc:0<=c):∃s,m_law_set [.int c,.int m.length]=cz (.list (s.map .int))/\SetK m s:=by
 have ot:=w.pos;have hle:=w.le;unfold m_law_set;rw[J6 (by simp[VS.argsOk,imm])];unfold b_law_set;walk_at "ev";rw[a2R (n:=m.length) (by walk_at "ev") (by lia) (by lia),bG];walk_at "ev";refine S9 (R:=λo=>∃s,o=cz (.list (s.map .int))/\SetK m s) (λU=>∃(c:Int) (s:List Int) (x:D),In m s/\U=[.int c,.int m.length,.list (s.map .int),x]) ?_ ?_
 ·obtain⟨U',g1,c',s,x,uk,hI,gS,jP,rfl⟩:=B0 (n:=m.length) (set:=v4 3) (g:=(i4 (sIf (tB (e2 dEq (e2 E3 (b7 0) (eC (.int 2))) (eC (.int 1)))) (C5 2 (.l .i) p6 (b7 3)) n5) (j8 0 (e2 a0a (b7 0) (eC (.int 2)))))) (U:=[.int c,.int m.length,.list [],.none])
   (λj U=>∃(c:Int) (s:List Int) (x:D),0<=c/\Inc s/\(∀t∈s,0<=t/\t<(j:Int))/\s.length<=j/\U=[.int c,.int m.length,.list (s.map .int),x]) ⟨c,[],_,hc,iz,λt ht=>(nomatch ht),aD _,rfl⟩ (by
    rintro j hj U ⟨c,s,x,hc,hI,gS,jP,rfl⟩;by_cases h:c % 2=1
    ·refine⟨_,[.int (c / 2),.int m.length,.list ((s++[(j:Int)]).map .int),.int j],rfl,?_,c / 2,s++[(j:Int)],_,by lia,?_,?_,by rw[aN];simp;lia,rfl⟩
     ·walk_at "ev";rw[aI h];walk_at "ev";rw[L8 (by rw[ah];lia),aO];walk_at "ev"
     ·refine je.mpr ⟨hI,kB _ _,λa ha b hb=>?_⟩;rw[ai.mp hb];exact (gS a ha).2
     ·intro t ht;rcases ay.mp ht with z|z
      ·have:=gS t z;lia
      ·rw[ai.mp z];lia
    ·refine⟨_,[.int (c / 2),.int m.length,.list (s.map .int),.int j],rfl,?_,c / 2,s,_,by lia,hI,λt ht=>by have:=gS t ht;lia,by lia,rfl⟩;walk_at "ev";rw[aV h];walk_at "ev")
  exact⟨_,g1,c',s,x,⟨hI,gS⟩,rfl⟩
 ·rintro U ⟨c,s,x,hI,rfl⟩;cases s with
  |nil=>
   refine⟨[(m.length:Int)-1],?_,kB _ _,by simp,λt ht=>by rw[ai.mp ht];lia⟩;walk_at "ev";rw[show dEq (.list []) (.list [])=cz (.bool p4) from rfl];walk_at "ev"
  |cons s0 s=>
   refine⟨s0::s,?_,hI.1,by simp,hI.2⟩;walk_at "ev";rw[show dEq (.list (.int s0::s.map .int)) (.list [])=cz (.bool (decide ((s0::s)=[]))) from b6m (xs:=s0::s) (ys:=[]),aV (by simp)];walk_at "ev"
end
end Prog
namespace VS
open PySem L2
def c0U{U:List D}(h:U.getD j .none=.list (ds++[d])):a4y i (a8g j) U=cz (.nx ((U.set j (.list ds)).set i d)):=by
 unfold a4y a8g;rw[h];show ((ds++[d]).getLast?.bind _).bind _=_;rw[List.getLast?_concat,bC,List.dropLast_concat];rfl
end VS
namespace Prog
open PySem L2 VS
def b3K(a:List Int):(c9 a).canLay0=p4:=by unfold c9;simp only[cE];exact M8 _ (λ_=>U5) a
def a9z(q:List (List Int)):dNe (.list (q.map c9)) (.list [])=cz (.bool !q.isEmpty):=by
 rw[b3k (by simp only[cE];exact M8 _ b3K q) (by simp[cE,aS]) (by simp only[fq];have:=N5 c9 7 a3w q;lia)];cases q<;>simp[aB,cQ]
def mvD(m:l8)(k:Nat)(S:List Int):D:=.list ((aJ k).map λ(a:Nat)=>P4 m a S)
def exS(m:l8)(S:List Int)(a:Nat):List (List Int):=if B1 m a S then (srt (anL m a (S.zip S))).map λx=>prt m a S x else []
def a5E{S:List Int}:(exS m S a).length<=S.length:=by
 unfold exS
 split
 ·rw[ah,(l9 _).length_eq,a5D];have:=a1h (S.map λs=>(stp m s a).1)
  rwa[ah]at this
 ·exact b_ _
def a2w:P∈exS m S a↔B1 m a S=p4/\∃s∈S,P=prt m a S (stp m s a).1:=by
 unfold exS;cases B1 m a S with
 |false=>simp
 |true=>
  simp only[gF,true_and,aX]
  constructor
  ·rintro⟨x,hx,rfl⟩;obtain⟨s,hs,rfl⟩:=Q2.mp ((l9 _).mem_iff.mp hx);exact⟨s,hs,rfl⟩
  ·rintro⟨s,hs,rfl⟩;exact⟨_,(l9 _).mem_iff.mpr (Q2.mpr ⟨s,hs,rfl⟩),rfl⟩
theorem a3H{α β:Type}{f:α->List β}(h:∀a,(f a).length<=n):∀l:List α,(l.flatMap f).length<=l.length*n
 |[]=>b_ _
 |x::l=>by
  rw[List.flatMap_cons,aN,bx,Nat.add_mul,Nat.one_mul];have:=h x;have:=a3H h l;lia
abbrev b5R:EvS:=(sIf (tB (e2 (J1 p4) (b7 5) (eC .none))) (a7M 3 (l0 (iI (iL (b7 5))) [] pt2 tT (b7 1))) n5)
section
variable {m:l8}{k:Nat}{S0 S:List Int}
def b1g(hk:k<=5)(jP:S.length<=7){q:List (List Int)}(hq:q.length<=6000)(y:D):∃y',L6 (v4 5) b5R ((aJ k).map λ(a:Nat)=>P4 m a S) [.list (m.map rwD),iD S0,D0,.list (q.map c9),c9 S,y]=cz (.nx [.list (m.map rwD),iD S0,D0,.list ((q++(aJ k).flatMap (exS m S)).map c9),c9 S,y']):=by
 obtain⟨U',g1,y',rfl⟩:=L1 (enc:=λ(a:Nat)=>P4 m a S) (set:=v4 5) (xs:=aJ k) (g:=b5R) (U:=[.list (m.map rwD),iD S0,D0,.list (q.map c9),c9 S,y])
  (λpre U=>∃y,U=[.list (m.map rwD),iD S0,D0,.list ((q++pre.flatMap (exS m S)).map c9),c9 S,y]) ⟨y,by rw[List.flatMap_nil,bj]⟩ (by
   rintro pre a post e U ⟨y,rfl⟩;have fM:pre.length<=5:=by have:=dJ eW e;rw[cL,aN]at this;lia
   have hfl:=a3H (f:=exS m S) (λa=>a5E) pre;have EB:pre.length*S.length<=5*7:=Nat.mul_le_mul fM jP;have xI:=a5E (m:=m) (S:=S) (a:=a);refine⟨_,[.list (m.map rwD),iD S0,D0,.list ((q++(pre++[a]).flatMap (exS m S)).map c9),c9 S,P4 m a S],rfl,?_,_,rfl⟩;rw[List.flatMap_append,List.flatMap_singleton,<-ba];generalize zu:q++pre.flatMap (exS m S)=g;have Ex:g.length<=6100:=by rw[<-zu,aN];lia
   show b5R [.list (m.map rwD),iD S0,D0,.list (g.map c9),c9 S,P4 m a S]=_;unfold b5R;cases hf:B1 m a S with
   |true=>
    have e1:P4 m a S=.list ((srt (anL m a (S.zip S))).map λx=>.tuple [.int x,c9 (prt m a S x)]):=aH hf;have e2:exS m S a=(srt (anL m a (S.zip S))).map λx=>prt m a S x:=aH hf
    have Fe:(srt (anL m a (S.zip S))).length<=7:=by rw[e2,ah]at xI;lia
    rw[e1];walk_at "ev";rw[c0P (ds:=g.map c9) (es:=(exS m S a).map c9) (by
     rw[F8 (enc:=λx=>fm [.int x,c9 (prt m a S x)]) (xs:=srt (anL m a (S.zip S))) (λx=>c9 (prt m a S x)) (V7 (by rfl) (m3 _ (λx=>by simp only[imm,g8,v6,gd]) _)) (by lia) λx _=>⟨_,rfl,rfl⟩,e2,bH];rfl) rfl (m3 _ v6 _) (by rw[ah,ah];lia),<-aO]
    rfl
   |false=>
    have e1:P4 m a S=.none:=aM (by rw[hf];exact aW);have e2:exS m S a=[]:=aM (by rw[hf];exact aW);rw[e1,e2,bj];walk_at "ev")
 exact⟨y',g1⟩
structure MvI (m:l8) (k:Nat) (S0:List Int) (l q:List (List Int)):Prop where
 nd:l.Nodup
 sl:∀S∈l,SetK m S
 sq:∀S∈q,SetK m S
 s0:S0∈l\/S0∈q
 cl:∀S∈l,∀a<k,∀P∈exS m S a,P∈l\/P∈q
theorem SetK.exS(w:WF m k)(ha:a<k)(hS:SetK m S)(h:P∈exS m S a):SetK m P:=by
 obtain⟨_,s,hs,rfl⟩:=a2w.mp h;exact SetK.prt w hS ha hs
def b3L(w:WF m k)(h7:m.length<=7)(Fi:SetK m S0):∃l,m_law_moves [.list (m.map rwD),iD S0]=cz (.dict (f7 (mvD m k) l))/\MvI m k S0 l []:=by
 have sP:=w.k5;have ot:=w.pos;have vJ:=w.le;have e0:(rowAt m 0).length=k:=w.row (by lia) (by lia);have rU:=a5C m.length (by lia);unfold m_law_moves;rw[J6 (by simp[VS.argsOk])];unfold b_law_moves;walk_at "ev";rw[show B3 (b7 1) [.list (m.map rwD),iD S0,.dict [],.none,.none,.none]=cz (c9 S0) by rw[a0u];exact O7];walk_at "ev";obtain⟨U',g1,l,x,y,hI,rfl⟩:=a2r (c:=(tB (e2 dNe (b7 3) (G0 f6)))) (g:=(i4 (a4y 4 (a8g 3)) (sIf (tB (e2 (dIn p4 p4) (b7 4) (b7 2))) (i4 (A4 2 p4 (b7 4) (l0 (iR (eCl A8 (b8 (e2 dIx (b7 0) (eC (.int 0))) f6))) [0,4] pt1 tT (eCl m_law_led (b8 (b7 1) (b8 (b7 2) (b8 (b7 0) f6)))))) (I9 (iL (e2 (a0q p4) (b7 2) (b7 4))) (v4 5) (sIf (tB (e2 (J1 p4) (b7 5) (eC .none))) (a7M 3 (l0 (iI (iL (b7 5))) [] pt2 tT (b7 1))) n5))) n5))) (I:=λj U=>∃l q x y,MvI m k S0 l q/\j+(128-l.length)*40+q.length<=6000/\U=[.list (m.map rwD),iD S0,.dict (f7 (mvD m k) l),.list (q.map c9),x,y])
  (Q:=λU=>∃l x y,MvI m k S0 l []/\U=[.list (m.map rwD),iD S0,.dict (f7 (mvD m k) l),.list [],x,y]) 6000 (by
   rintro j U ⟨l,q,x,y,hI,hj,rfl⟩;refine⟨by lia,?_⟩;have ht:(tB (e2 dNe (b7 3) (G0 f6))) [.list (m.map rwD),iD S0,.dict (f7 (mvD m k) l),.list (q.map c9),x,y]=cz !q.isEmpty:=by
    walk_at "ev";rw[a9z];rfl
   rcases List.eq_nil_or_concat q with rfl|⟨q',S,rfl⟩
   ·exact .inl ⟨ht,l,x,y,hI,rfl⟩
   ·rw[List.concat_eq_append]at ht hI hj ⊢;have hS:=hI.sq S (by simp);have jP:S.length<=7:=bL (SetK.len hS) h7;rw[aN]at hj;refine .inr ⟨by rw[ht];cases q'<;>rfl,?_⟩;have hp:a4y 4 (a8g 3) [.list (m.map rwD),iD S0,.dict (f7 (mvD m k) l),.list ((q'++[S]).map c9),x,y]=cz (.nx [.list (m.map rwD),iD S0,.dict (f7 (mvD m k) l),.list (q'.map c9),c9 S,y]):=by
     rw[c0U (ds:=q'.map c9) (d:=c9 S) (by rw[aO];rfl)];rfl
    rw[A0,hp,v8];have hc:tB (e2 (dIn p4 p4) (b7 4) (b7 2)) [.list (m.map rwD),iD S0,.dict (f7 (mvD m k) l),.list (q'.map c9),c9 S,y]=cz !decide (S∈l):=by
     walk_at "ev";rw[a8x];cases decide (S∈l)<;>rfl
    rw[a2P,hc];by_cases c:S∈l
    ·rw[aI c];have mv:∀P,(P∈l\/P∈q'++[S])->P∈l\/P∈q':=λP h=>by
      simp only[ay,ai]at h;rcases h with h|h|h
      ·exact .inl h
      ·exact .inr h
      ·exact .inl (h▸c)
     exact⟨_,rfl,l,q',_,_,⟨hI.nd,hI.sl,λP hP=>hI.sq P (by simp[hP]),mv _ hI.s0,λP hP a ha R hR=>mv _ (hI.cl P hP a ha R hR)⟩,by simp at hj;lia,rfl⟩
    ·rw[aV c];have iF:(l++[S]).Nodup:=by
      rw[aZ];exact⟨hI.nd,by simp,λa ha b hb e=>c (by rw[ai.mp hb]at e;rw[<-e];exact ha)⟩
     have t_:(l++[S]).length<=127:=bL (a4N iF λP hP=>(Q3 h7).mpr ((ay.mp hP).elim (hI.sl P) λz=>by rw[ai.mp z];exact hS)) rU;rw[aN,iN]at t_;have mR:A4 2 p4 (b7 4) (l0 (iR (eCl A8 (b8 (e2 dIx (b7 0) (eC (.int 0))) f6))) [0,4] pt1 tT (eCl m_law_led (b8 (b7 1) (b8 (b7 2) (b8 (b7 0) f6))))) [.list (m.map rwD),iD S0,.dict (f7 (mvD m k) l),.list (q'.map c9),c9 S,y]=cz (.nx [.list (m.map rwD),iD S0,.dict (f7 (mvD m k) (l++[S])),.list (q'.map c9),c9 S,y]):=by
      rw[a1c (g:=mvD m k) (a:=S) (l:=l) ?_ rfl rfl (by lia) c]
      ·unfold a3S;rw[aM c];rfl
      ·refine F8 (enc:=λ(b:Nat)=>aG b) (xs:=aJ k) (λ(a:Nat)=>P4 m a S) ?_ (by rw[cL];lia) λb hb=>⟨_,rfl,?_⟩
       ·rw[a2R (n:=k) (by walk_at "ev";rw[b3n (by decide) (by lia)];walk_at "ev";rw[e0]) (by lia) (by lia),bG,a1w]
       ·show eCl m_law_led (b8 (b7 1) (b8 (b7 2) (b8 (b7 0) f6))) [.int b,.list (m.map rwD),c9 S]=_;walk_at "ev";exact b8N w (bR.mp hb) hS (by lia)
     obtain⟨y',zy⟩:=b1g (m:=m) (k:=k) (S0:=S0) (S:=S) (D0:=.dict (f7 (mvD m k) (l++[S]))) sP jP (q:=q') (by lia) y;have mv:∀P,(P∈l\/P∈q'++[S])->P∈l++[S]\/P∈q'++(aJ k).flatMap (exS m S):=λP h=>by
      simp only[ay,ai]at h ⊢;rcases h with h|h|h<;>simp[h]
     have hfl:=a3H (f:=exS m S) (n:=7) (λa=>bL a5E jP) (aJ k);rw[cL]at hfl;refine⟨_,?_,l++[S],q'++(aJ k).flatMap (exS m S),c9 S,y',⟨iF,λP hP=>(ay.mp hP).elim (hI.sl P) λz=>by rw[ai.mp z];exact hS,λP hP=>?_,?_,λP hP a ha R hR=>?_⟩,?_,rfl⟩
     ·show i4 (A4 2 p4 (b7 4) (l0 (iR (eCl A8 (b8 (e2 dIx (b7 0) (eC (.int 0))) f6))) [0,4] pt1 tT (eCl m_law_led (b8 (b7 1) (b8 (b7 2) (b8 (b7 0) f6)))))) (I9 (iL (e2 (a0q p4) (b7 2) (b7 4))) (v4 5) (sIf (tB (e2 (J1 p4) (b7 5) (eC .none))) (a7M 3 (l0 (iI (iL (b7 5))) [] pt2 tT (b7 1))) n5)) [.list (m.map rwD),iD S0,.dict (f7 (mvD m k) l),.list (q'.map c9),c9 S,y]=_;rw[A0,mR,v8];have Es:iL (e2 (a0q p4) (b7 2) (b7 4)) [.list (m.map rwD),iD S0,.dict (f7 (mvD m k) (l++[S])),.list (q'.map c9),c9 S,y]=cz ((aJ k).map λ(a:Nat)=>P4 m a S):=by
       walk_at "ev";rw[show a0q p4 (.dict (f7 (mvD m k) (l++[S]))) (c9 S)=cz (mvD m k S) by
        show (if n8 p4 (c9 S) then A3 _ _ else el)=_;rw[K2,aH rfl,Z3 (by simp)]]
       rfl
      rw[b1Z,Es];exact zy
     ·rcases ay.mp hP with z|z
      ·exact hI.sq P (by simp[z])
      ·obtain⟨a,ha,z⟩:=Gj.mp z;exact SetK.exS w (bR.mp ha) hS z
     ·exact mv _ hI.s0
     ·rcases ay.mp hP with z|z
      ·exact mv _ (hI.cl P z a ha R hR)
      ·rw[ai.mp z]at hR;exact .inr (au _ (Gj.mpr ⟨a,bR.mpr ha,hR⟩))
     ·rw[aN,aN,iN];simp at hj;lia) 1000000 0 [.list (m.map rwD),iD S0,.dict [],.list [c9 S0],.none,.none] ⟨[],[S0],_,_,⟨bw,λS h=>(nomatch h),λS h=>by rw[ai.mp h];exact Fi,.inr (by simp),λS h=>(nomatch h)⟩,by simp,rfl⟩ (by lia)
 rw[b8A,g1];walk_at "ev";exact⟨l,rfl,hI⟩
end
def lvD(m:l8)(k:Nat)(S:List Int):D:=.int (lev m k S:Nat)
def dpD(m:l8)(k:Nat)(K:List (List Int))(S:List Int)(a:Nat):D:=if tsl m K a S then .int (plv m k a S:Nat) else .none
def b8O:a6f p4 (.dict (f7 g l)) (c9 a)=cz (if a∈l then g a else .none):=by
 show (if n8 p4 (c9 a)&&keysOk p4 (f7 g l) then cz ((A3 (f7 g l) (c9 a)).getD .none) else el)=_;rw[K2,X7];by_cases c:a∈l
 ·rw[aH c,Z3 c];rfl
 ·rw[aM c];have:w9 (f7 g l) (c9 a)=rp:=by rw[K3];exact aV c
  cases e:A3 (f7 g l) (c9 a) with
  |none=>rfl
  |some d=>rw[X1 e]at this;cases this
def b5S(h:l≠[]):mxl l∈l:=by
 by_cases c:mxl l∈l
 ·exact c
 ·exfalso
  have h1:=(a5A (l:=l)).mp (aD _);cases l with
  |nil=>exact h rfl
  |cons y r=>
   have h2:mxl (y::r)<=mxl (y::r)-1:=by
    rw[a5A];intro x hx;have:=h1 x hx;have:x≠mxl (y::r):=λz=>c (z▸hx)
    lia
   have h3:=h1 y ak;have:y≠mxl (y::r):=λz=>c (z▸ak)
   lia
def b5T(q:List Int):dNe (.list (q.map .int)) (.list [])=cz (.bool !q.isEmpty):=by
 rw[b3k (lay_ints q) (by simp[cE,aS]) (bL (a0t _) (by decide))];cases q<;>simp[aB,cQ]
section
variable {m:l8}{k:Nat}{K:List (List Int)}{S:List Int}{a:Nat}
def a3I(gK:S≠[])(jP:S.length<=7):m_law_deepest [P4 m a S,.dict (f7 (lvD m k) K)]=cz (dpD m k K S a):=by
 unfold m_law_deepest;rw[J6 (by simp[VS.argsOk])];unfold b_law_deepest;cases hf:B1 m a S with
 |false=>
  have e1:P4 m a S=.none:=aM (by rw[hf];exact aW);rw[e1];walk_at "ev";unfold dpD tsl;rw[hf];rfl
 |true=>
  have e1:P4 m a S=.list ((srt (anL m a (S.zip S))).map λx=>.tuple [.int x,c9 (prt m a S x)]):=aH hf;have pN:=a1h (S.map λs=>(stp m s a).1);rw[ah,<-a5D]at pN;rw[e1];walk_at "ev";rw[F8 (enc:=λx=>fm [.int x,c9 (prt m a S x)]) (xs:=srt (anL m a (S.zip S))) (λx=>if prt m a S x∈K then lvD m k (prt m a S x) else .none) (V7 (by rfl) (m3 _ (λx=>by simp only[imm,g8,v6,gd]) _)) (by rw[(l9 _).length_eq];lia) λx _=>⟨_,rfl,?_⟩]
  ·walk_at "ev";have jy:a6i rp .none (.list ((srt (anL m a (S.zip S))).map λx=>if prt m a S x∈K then lvD m k (prt m a S x) else .none))=cz (.bool (!(anL m a (S.zip S)).all λx=>decide (prt m a S x∈K))):=by
    show (if aS _&&PyData.none.canLay0&&decide (PyData.none.depth<=_) then cz (dh (rp !=_)) else el)=_;rw[M8 _ λx=>by split<;>simp[lvD,cE]];simp only[cE,fq,eZ,b_,decide_true,gF,qU]
    congr 2;rw[uC,cJ,cI,gk,<-Bool.not_eq_true,aY]
    constructor
    ·rintro⟨x,hx,z⟩ q;have:=aP (q x ((l9 _).mem_iff.mp hx));simp only[Function.comp,aH this,lvD,aB]at z;cases z
    ·intro q;apply Classical.byContradiction;intro z;refine q λx hx=>?_
     by_cases c:prt m a S x∈K
     ·exact aI c
     ·exact absurd ⟨x,(l9 _).mem_iff.mpr hx,by simp only[Function.comp,aM c,aB]⟩ z
   rw[jy];cases hA:(anL m a (S.zip S)).all λx=>decide (prt m a S x∈K) with
   |false=>
    walk_at "ev";unfold dpD tsl;rw[hf,hA];rfl
   |true=>
    walk_at "ev";have zd:((srt (anL m a (S.zip S))).map λx=>if prt m a S x∈K then lvD m k (prt m a S x) else .none)=((srt (anL m a (S.zip S))).map λx=>((lev m k (prt m a S x):Nat):Int)).map aG:=by
     rw[bH];refine cn λx hx=>?_
     rw[aH (aP (aY.mp hA x ((l9 _).mem_iff.mp hx)))];rfl
    have yZ:(anL m a (S.zip S)).map (λx=>lev m k (prt m a S x))≠[]:=λz=>by
     cases S with
     |nil=>exact gK rfl
     |cons s S'=>
      have:=(Q2 (m:=m) (a:=a) (S:=s::S')).mpr ⟨s,ak,rfl⟩;rw[List.map_eq_nil_iff.mp z]at this;cases this
    obtain⟨x0,sH,FH⟩:=aX.mp (b5S yZ);rw[zd,b8B (n:=((plv m k a S:Nat):Int)) (aX.mpr ⟨x0,(l9 _).mem_iff.mpr sH,by unfold plv;rw[<-FH]⟩) λy hy=>by
     obtain⟨x,hx,rfl⟩:=aX.mp hy;have:lev m k (prt m a S x)<=plv m k a S:=a5A.mp (aD _) _ (aX.mpr ⟨x,(l9 _).mem_iff.mp hx,rfl⟩);lia]
    walk_at "ev";unfold dpD tsl;rw[hf,hA];rfl
  ·show e2 (a6f p4) (b7 2) (b7 1) [.int x,c9 (prt m a S x),.dict (f7 (lvD m k) K)]=_;walk_at "ev";rw[b8O]
end
def Kf(m:l8)(k:Nat)(A:List (List Int)):Nat->List (List Int)
 |0=>[]
 |d+1=>kdS m k A d
def Ff(m:l8)(k:Nat)(A:List (List Int)):Nat->List (List Int)
 |0=>kdS m k A 0
 |d+1=>nwS m k A d
def a5F(d:Nat):Kf m k A (d+1)=Kf m k A d++Ff m k A d:=by cases d<;>rfl
abbrev b8P:EvS:=(A4 1 p4 (b7 4) (b7 3))
abbrev b8Q:EvS:=(i4 (j8 5 (l0 (iL (e2 (P3 p4) (b7 0) (b7 4))) [1] pt1 tT (eCl m_law_deepest (b8 (b7 0) (b8 (b7 1) f6))))) (sIf (tAn (tB (e2 (dIn p4 p4) (b7 4) (b7 1))) (tB (e2 dNe (l0 (iI (iL (b7 5))) [] pt1 (tB (e2 (J1 p4) (b7 0) (eC .none))) (b7 0)) (G0 f6)))) (C5 2 (.l .i) p6 (b7 4)) n5))
section
variable {m:l8}{k:Nat}{A:List (List Int)}(iF:A.Nodup)(hA:∀S∈A,SetK m S)(h7:m.length<=7)(hl:A.length<=127)(lK:∀S∈A,∀a<k,∀P∈exS m S a,P∈A)
def b8R(hd:d<=150)(h:S∈Ff m k A d):S∈A/\lev m k S=d:=by
 cases d with
 |zero=>
  obtain⟨h1,h2⟩:=p8.mp (show S∈kdS m k A 0 from h);exact⟨h1,Nat.le_zero.mp (a1D h2 (by lia))⟩
 |succ d=>
  obtain⟨h1,h2,h3⟩:=Z6.mp (show S∈nwS m k A d from h);have ht:tb m k (d+1) S=p4:=by rw[Z5,h3,Bool.or_true]
  obtain⟨z1,z2,_⟩:=a1i ht (by lia);refine⟨h1,?_⟩;by_cases c:lev m k S<=d
  ·rw[V5 z1 c]at h2;cases h2
  ·lia
include lK in
theorem c0V(hK:∀P∈A,(P∈K↔tb m k d P=p4))(ha:a<k)(hS:S∈A):tsl m K a S=tst (tb m k d) m a S:=by
 unfold tsl tst;cases hf:B1 m a S with
 |false=>rfl
 |true=>
  rw[iW,iW,cJ,aY,aY];have key:∀s∈S,(decide (prt m a S (stp m s a).1∈K)=p4↔tb m k d (prt m a S (stp m s a).1)=p4):=λs hs=>by
   rw[bK];exact hK _ (lK S hS a ha _ (a2w.mpr ⟨hf,s,hs,rfl⟩))
  constructor
  ·exact λq s hs=>(key s hs).mp (q _ (Q2.mpr ⟨s,hs,rfl⟩))
  ·intro q x hx;obtain⟨s,hs,rfl⟩:=Q2.mp hx;exact (key s hs).mpr (q s hs)
include iF hA h7 hl lK in
theorem b8S(hk:k<=5):∃d,m_law_deep [.dict (f7 (mvD m k) A)]=cz (.dict (f7 (lvD m k) (Kf m k A d)))/\Ff m k A d=[]/\d<=128:=by
 have Bg:T4 (f7 (mvD m k) A)=rp:=by
  cases A with
  |nil=>rfl
  |cons S r=>exact lV _
 have t_:(lfS m k A 0).length<=A.length:=dg _ _;have xC:∀d,(Kf m k A d).length<=127:=λd=>by
  cases d with
  |zero=>exact b_ _
  |succ d=>exact bL (a4N (a5y iF d) λS hS=>(p8.mp hS).1) hl
 have Bl:∀U:List D,U.getD 0 .none=.dict (f7 (mvD m k) A)->iI (iDk (b7 0)) U=cz (A.map c9):=λU hU=>V7 (b8D (by show cz (U.getD 0 .none)=_;rw[hU]) Bg) (m3 _ v6 _)
 unfold m_law_deep;rw[J6 (by simp[VS.argsOk])];unfold b_law_deep;walk_at "ev";rw[a2t (enc:=c9) (xs:=A) (λS=>decide (S.length=1)) c9 (Bl _ rfl) (by lia) λS hS=>⟨_,rfl,by
  have hlen:A8 [c9 S]=cz (.int S.length):=by show cz (aG ((S.map aG).length:Nat))=_;rw[ah]
  show tB (e2 dEq (eCl A8 (b8 (b7 0) f6)) (eC (.int 1))) [c9 S]=_;walk_at "ev";rw[hlen];walk_at "ev"
  congr 1;rw[cJ,bK,bK];lia,λ_=>rfl⟩]
 walk_at "ev";obtain⟨U',g1,d,x,y,hF,hd,rfl⟩:=a2r (c:=(tB (e2 dNe (b7 2) (G0 f6)))) (g:=(i4 (I9 (iI (iL (b7 2))) (v4 4) (A4 1 p4 (b7 4) (b7 3))) (i4 (j8 3 (e2 y6 (b7 3) (eC (.int 1)))) (i4 (j8 2 (G0 f6)) (I9 (iI (iDk (b7 0))) (v4 4) (i4 (j8 5 (l0 (iL (e2 (P3 p4) (b7 0) (b7 4))) [1] pt1 tT (eCl m_law_deepest (b8 (b7 0) (b8 (b7 1) f6))))) (sIf (tAn (tB (e2 (dIn p4 p4) (b7 4) (b7 1))) (tB (e2 dNe (l0 (iI (iL (b7 5))) [] pt1 (tB (e2 (J1 p4) (b7 0) (eC .none))) (b7 0)) (G0 f6)))) (C5 2 (.l .i) p6 (b7 4)) n5))))))) (I:=λj U=>(∀e,j=e+1->e+(lfS m k A e).length<=(lfS m k A 0).length)/\∃x y,U=[.dict (f7 (mvD m k) A),.dict (f7 (lvD m k) (Kf m k A j)),.list ((Ff m k A j).map c9),.int (j:Nat),x,y])
  (Q:=λU=>∃d x y,Ff m k A d=[]/\d<=128/\U=[.dict (f7 (mvD m k) A),.dict (f7 (lvD m k) (Kf m k A d)),.list [],.int (d:Nat),x,y]) 128 (by
   rintro j U ⟨hj,x,y,rfl⟩;have pM:j<=128:=by
    cases j with
    |zero=>lia
    |succ e=>have:=hj e rfl;lia
   refine⟨pM,?_⟩;have ht:(tB (e2 dNe (b7 2) (G0 f6))) [.dict (f7 (mvD m k) A),.dict (f7 (lvD m k) (Kf m k A j)),.list ((Ff m k A j).map c9),.int (j:Nat),x,y]=cz !(Ff m k A j).isEmpty:=by
    walk_at "ev";rw[a9z];rfl
   by_cases c:Ff m k A j=[]
   ·refine .inl ⟨by rw[ht,c];rfl,j,x,y,c,pM,by rw[c];rfl⟩
   ·refine .inr ⟨by rw[ht];cases e:Ff m k A j with|nil=>exact absurd e c|cons _ _=>rfl,?_⟩;have vT:(Kf m k A j++Ff m k A j).Nodup:=by rw[<-a5F];exact a5y iF j
    have Eo:=xC (j+1);rw[a5F,aN]at Eo;have Fw:iI (iL (b7 2)) [.dict (f7 (mvD m k) A),.dict (f7 (lvD m k) (Kf m k A j)),.list ((Ff m k A j).map c9),.int (j:Nat),x,y]=cz ((Ff m k A j).map c9):=V7 (by rfl) (m3 _ v6 _);obtain⟨U1,g1,x1,rfl⟩:=L1 (enc:=c9) (set:=v4 4) (xs:=Ff m k A j) (g:=b8P) (U:=[.dict (f7 (mvD m k) A),.dict (f7 (lvD m k) (Kf m k A j)),.list ((Ff m k A j).map c9),.int (j:Nat),x,y])
     (λpre U=>∃x,U=[.dict (f7 (mvD m k) A),.dict (f7 (lvD m k) (Kf m k A j++pre)),.list ((Ff m k A j).map c9),.int (j:Nat),x,y]) ⟨x,by rw[bj]⟩ (by
      rintro pre S post e U ⟨x,rfl⟩;have hS:S∉Kf m k A j++pre:=λz=>by
       rw[e,<-ba]at vT;exact (aZ.mp vT).2.2 S z S ak rfl
      have zg:=(b8R (d:=j) (by lia) (show S∈Ff m k A j by rw[e];simp)).2;have fM:(Kf m k A j++pre).length<=127:=by
       have:=dJ eW e;rw[aN]at this;rw[aN];lia
      refine⟨_,[.dict (f7 (mvD m k) A),.dict (f7 (lvD m k) (Kf m k A j++(pre++[S]))),.list ((Ff m k A j).map c9),.int (j:Nat),c9 S,y],rfl,?_,_,rfl⟩;show b8P [.dict (f7 (mvD m k) A),.dict (f7 (lvD m k) (Kf m k A j++pre)),.list ((Ff m k A j).map c9),.int (j:Nat),c9 S,y]=_;unfold b8P;rw[a1c (g:=lvD m k) (a:=S) (l:=Kf m k A j++pre) (by unfold lvD;rw[zg];rfl) rfl rfl (by lia) hS];unfold a3S;rw[aM hS,ba];rfl)
    rw[<-a5F]at g1;obtain⟨U2,g2,x2,y2,rfl⟩:=L1 (enc:=c9) (set:=v4 4) (xs:=A) (g:=b8Q) (U:=[.dict (f7 (mvD m k) A),.dict (f7 (lvD m k) (kdS m k A j)),.list [],.int (j+1:Nat),x1,y])
     (λpre U=>∃x y,U=[.dict (f7 (mvD m k) A),.dict (f7 (lvD m k) (kdS m k A j)),.list ((pre.filter λS=>(lta m k j S).isSome&&!tb m k j S).map c9),.int (j+1:Nat),x,y]) ⟨_,_,rfl⟩ (by
      rintro pre S post e U ⟨x,y,rfl⟩;have hS:S∈A:=by rw[e];simp
      have hK:=hA S hS;have jP:S.length<=7:=bL (SetK.len hK) h7;have fM:(pre.filter λS=>(lta m k j S).isSome&&!tb m k j S).length<=127:=by
       have h1:=dg (λS=>(lta m k j S).isSome&&!tb m k j S) pre;have:=dJ eW e;rw[aN]at this;lia
      refine⟨_,[.dict (f7 (mvD m k) A),.dict (f7 (lvD m k) (kdS m k A j)),.list (((pre++[S]).filter λS=>(lta m k j S).isSome&&!tb m k j S).map c9),.int (j+1:Nat),c9 S,.list ((aJ k).map (dpD m k (kdS m k A j) S))],rfl,?_,_,_,rfl⟩;rw[eh];generalize hG:(pre.filter λS=>(lta m k j S).isSome&&!tb m k j S)=G at fM;show b8Q [.dict (f7 (mvD m k) A),.dict (f7 (lvD m k) (kdS m k A j)),.list (G.map c9),.int (j+1:Nat),c9 S,y]=_;unfold b8Q;have hf:j8 5 (l0 (iL (e2 (P3 p4) (b7 0) (b7 4))) [1] pt1 tT (eCl m_law_deepest (b8 (b7 0) (b8 (b7 1) f6)))) [.dict (f7 (mvD m k) A),.dict (f7 (lvD m k) (kdS m k A j)),.list (G.map c9),.int (j+1:Nat),c9 S,y]=cz (.nx [.dict (f7 (mvD m k) A),.dict (f7 (lvD m k) (kdS m k A j)),.list (G.map c9),.int (j+1:Nat),c9 S,.list ((aJ k).map (dpD m k (kdS m k A j) S))]):=by
       rw[a0M,F8 (enc:=λ(a:Nat)=>P4 m a S) (xs:=aJ k) (dpD m k (kdS m k A j) S) (by
        walk_at "ev";rw[a4M hS];rfl) (by rw[cL];lia) λa _=>⟨_,rfl,?_⟩]
       ·rfl
       ·show eCl m_law_deepest (b8 (b7 0) (b8 (b7 1) f6)) [P4 m a S,.dict (f7 (lvD m k) (kdS m k A j))]=_;walk_at "ev";exact a3I hK.2.1 jP
      rw[A0,hf,v8];have ox:∀a,isN (dpD m k (kdS m k A j) S a)=!tsl m (kdS m k A j) a S:=λa=>by
       unfold dpD;cases tsl m (kdS m k A j) a S<;>rfl
      have wc:∀a,imm (dpD m k (kdS m k A j) S a)=p4:=λa=>by
       unfold dpD;cases tsl m (kdS m k A j) a S<;>rfl
      have Em:∀U:List D,U.getD 5 .none=.list ((aJ k).map (dpD m k (kdS m k A j) S))->(l0 (iI (iL (b7 5))) [] pt1 (tB (e2 (J1 p4) (b7 0) (eC .none))) (b7 0)) U=cz (.list ((((aJ k).filter λa=>tsl m (kdS m k A j) a S).map λa=>((plv m k a S:Nat):Int)).map .int)):=λU hU=>by
       rw[a2t (enc:=dpD m k (kdS m k A j) S) (xs:=aJ k) (λa=>tsl m (kdS m k A j) a S) (dpD m k (kdS m k A j) S) (V7 (by show asL (U.getD 5 .none)=_;rw[hU];rfl) (m3 _ wc _)) (by rw[cL];lia) λa _=>⟨_,rfl,?_,λ_=>rfl⟩]
       ·congr 2;rw[bH];refine cn λa ha=>?_
        unfold dpD;rw[aH (bu.mp ha).2];rfl
       ·show tB (e2 (J1 p4) (b7 0) (eC .none)) [dpD m k (kdS m k A j) S a]=_;walk_at "ev";rw[ox];cases tsl m (kdS m k A j) a S<;>rfl
      have jy:decide (S∈kdS m k A j)=tb m k j S:=by
       rw[cJ,bK,p8];exact⟨λz=>z.2,λz=>⟨hS,z⟩⟩
      have zL:(lta m k j S).isSome=!(((aJ k).filter λa=>tsl m (kdS m k A j) a S).map λa=>((plv m k a S:Nat):Int)).isEmpty:=by
       rw[nQ (q:=λa=>tst (tb m k j) m a S) λa ha=>c0V lK (λP hP=>⟨λq=>(p8.mp q).2,λq=>p8.mpr ⟨hP,q⟩⟩) (bR.mp ha) hS];unfold lta;rw[cJ,nO];cases e:(aJ k).filter λa=>tst (tb m k j) m a S with
       |nil=>
        simp only[cY,List.isEmpty_nil,iX,cN,iff_false];rintro⟨a,ha,z⟩;have:a∈(aJ k).filter λa=>tst (tb m k j) m a S:=bu.mpr ⟨ha,z⟩
        rw[e]at this;cases this
       |cons a r=>
        have:a∈(aJ k).filter λa=>tst (tb m k j) m a S:=by rw[e];exact ak
        obtain⟨z1,z2⟩:=bu.mp this;simp only[aA,List.isEmpty_cons,Bool.not_false,iff_true];exact⟨a,z1,z2⟩
      have Bc:=b5T (((aJ k).filter λa=>tsl m (kdS m k A j) a S).map λa=>((plv m k a S:Nat):Int));rw[<-zL]at Bc;have Er:dIn p4 p4 (c9 S) (.dict (f7 (lvD m k) (kdS m k A j)))=cz (.bool !tb m k j S):=by
       rw[a8x,jy];cases tb m k j S<;>rfl
      walk_at "ev";rw[Er];cases h1:tb m k j S with
      |true=>
       rw[dm (by rw[h1];simp),jl,bj];walk_at "ev"
      |false=>
       walk_at "ev";rw[Em _ rfl];walk_at "ev";rw[Bc];cases h2:(lta m k j S).isSome with
       |false=>
        rw[dm (by rw[h2];simp),jl,bj];walk_at "ev"
       |true=>
        rw[dN (by rw[h1,h2];rfl),jl,aO];walk_at "ev";rw[L8 (by rw[ah];lia)];rfl)
    have DW:(A.filter λS=>(lta m k j S).isSome&&!tb m k j S)=Ff m k A (j+1):=by
     show _=nwS m k A j;unfold nwS lfS;rw[Al]
    rw[DW]at g2;refine⟨_,?_,λe he=>?_,x2,y2,rfl⟩
    ·rw[A0,b1Z,Fw,b1Y,show L6 (v4 4) (A4 1 p4 (b7 4) (b7 3)) _ _=_ from g1,v8];walk_at "ev";rw[Bl _ rfl];walk_at "ev";exact g2
    ·have:e=j:=by lia
     subst this;cases e with
     |zero=>lia
     |succ e=>
      have h1:=hj e rfl;have h2:=a6R (m:=m) (k:=k) (A:=A) (d:=e) c;lia) 1000000 0 [.dict (f7 (mvD m k) A),.dict [],.list ((A.filter λ(S:List Int)=>decide (S.length=1)).map c9),.int 0,.none,.none] ⟨λe he=>by lia,_,_,rfl⟩ (by lia)
 rw[b8A,g1];walk_at "ev";exact⟨d,rfl,hF,hd⟩
include hA lK in
theorem b8T(hF:Ff m k A d=[])(hd:d<=128)(hS:S∈A):S∈Kf m k A d↔tb m k 140 S=p4:=by
 constructor
 ·intro h;cases d with
  |zero=>cases h
  |succ d=>exact V5 (p8.mp h).2 (by lia)
 ·have key:∀(n:Nat) {S:List Int},S∈A->tb m k n S=p4->S∈Kf m k A d:=by
   intro n
   induction n with
   |zero=>
    intro S hS h;cases d with
    |zero=>
     have:S∈Ff m k A 0:=p8.mpr ⟨hS,h⟩;rw[hF]at this;cases this
    |succ d=>exact p8.mpr ⟨hS,V5 h (b_ _)⟩
   |succ n ih=>
    intro S hS h;have h':(tb m k n S||(aJ k).any λa=>tst (tb m k n) m a S)=p4:=h;rcases mq.mp h' with q|q
    ·exact ih hS q
    ·obtain⟨a,ha,q⟩:=cI.mp q;have hk:=bR.mp ha;unfold tst at q;rw[ao]at q;have hp:∀s∈S,prt m a S (stp m s a).1∈Kf m k A d:=λs hs=>ih (lK S hS a hk _ (a2w.mpr ⟨q.1,s,hs,rfl⟩)) (aY.mp q.2 s hs)
     cases d with
     |zero=>
      cases S with
      |nil=>exact absurd rfl (hA [] hS).2.1
      |cons s r=>exact nomatch hp s ak
     |succ d=>
      refine p8.mpr ⟨hS,a9s hF hS hk ?_⟩;unfold tst;rw[ao];exact⟨q.1,aY.mpr λs hs=>(p8.mp (hp s hs)).2⟩
  exact key 140 hS
end
def prS(p:Int×Int):D:=.tuple [.int p.2,.int p.1]
abbrev LU(m:l8)(k:Nat)(A K:List (List Int))(B:BG)(t:List D):List D:=.list (m.map rwD)::.dict (f7 (mvD m k) A)::.dict (f7 (lvD m k) K)::.list (B.map prS)::t
def a9A(p:Int×Int):imm (prS p)=p4:=by unfold prS;simp only[imm,g8,eZ]
def a5G(v:Int):m_law_whole [.int v]=cz (.bool p4):=by
 unfold m_law_whole;rw[J6 (by simp[VS.argsOk])];unfold b_law_whole;walk_at "ev"
def b3M{α:Type}{f:α->D}{l:List α}(h:j<l.length):L2.atI (l.map f) (j:Int)=cz (f l[j]):=by
 rw[a2Q (by lia) (by rw[ah];lia)];simp
abbrev b5U(f:Nat):EvS:=(i4 (j8 10 (l0 (iI (iL (b7 3))) [0,6,8] pt2 (tB (e2 dEq (e2 v7 (e2 v7 (e2 dIx (b7 2) (b7 1)) (b7 3)) (eC (.int 0))) (b7 4))) (B7 (b8 (b7 0) (b8 (e2 v7 (e2 v7 (e2 dIx (b7 2) (b7 1)) (b7 3)) (eC (.int 1))) f6))))) (C5 7 (.l .f) p6 (B7 (b8 (b7 8) (b8 (eCl (m_law_due f) (b8 (b7 0) (b8 (b7 1) (b8 (b7 2) (b8 (b7 10) f6))))) f6)))))
section
variable {m:l8}{k:Nat}{B:BG}{S:List Int}{K A:List (List Int)}
def b5V(hK:∀P∈A,(P∈K↔tb m k 140 P=p4))(lK:∀S∈A,∀a<k,∀P∈exS m S a,P∈A)(hS:S∈A)(hk:k<=5)(ht:tb m k 140 S=p4)(he:lev m k S=e+1)(ha:lta m k e S=cz a):a8f (.list ((aJ k).map (dpD m k K S))) (.int (e:Nat))=cz (.int (a:Nat)):=by
 have hle:=a1D ht (by lia);obtain⟨a1,a2,a3,a4⟩:=a9w ht (by lia) he ha;have up:∀{p q b:Nat},p<=q->tst (tb m k p) m b S=p4->tst (tb m k q) m b S=p4:=λ{p q b} yR z=>by
  unfold tst at z ⊢;rw[ao]at z ⊢;exact⟨z.1,aY.mpr λs hs=>V5 (aY.mp z.2 s hs) yR⟩
 have hE:∀b,b<k->aB (dpD m k K S b) (.int (e:Nat))=(tst (tb m k 140) m b S&&decide (plv m k b S=e)):=λb hb=>by
  unfold dpD;rw[c0V lK hK hb hS];cases tst (tb m k 140) m b S with
  |false=>simp[aB]
  |true=>
   simp only[gF,aB,iW];rw[cJ];simp;lia
 have vZ:∀b,(dpD m k K S b).canLay0=p4:=λb=>by
  unfold dpD;cases tsl m K b S<;>simp[cE]
 show (if aS ((aJ k).map (dpD m k K S))&&(aG (e:Nat)).canLay0&&decide ((aG (e:Nat)).depth<=150)&&decide (((aJ k).map (dpD m k K S)).length<1000000) then (((aJ k).map (dpD m k K S)).findIdx? λd=>aB d (.int (e:Nat))).map λj=>aG (j:Nat) else el)=_;rw[M8 _ vZ,U5,K0,ah,cL,aI (by lia),aI (by lia)];have:(((aJ k).map (dpD m k K S)).findIdx? λd=>aB d (.int (e:Nat)))=cz a:=by
  rw[iu];refine⟨by rw[ah,cL];exact a1,?_,λj hj=>?_⟩
  ·rw[gI,mX,hE a a1,up (by lia) a2,a3,aI rfl];rfl
  ·rw[gI,mX,hE j (by lia)];cases q:tst (tb m k 140) m j S with
   |false=>simp
   |true=>
    have:=a4 j hj (up (by lia) q);rw[aV (by lia)]
    decide
 rw[this];rfl
def b8U(w:WF m k)(h7:m.length<=7)(hK:∀P∈A,(P∈K↔tb m k 140 P=p4))(lK:∀S∈A,∀a<k,∀P∈exS m S a,P∈A)(h:KB m k B S):S∈A->∀f,lev m k S<f->m_law_due f (LU m k A K B [])=cz (gT m k f B):=by
 have sP:=w.k5;refine KB.ind w (P:=λB S=>S∈A->∀f,lev m k S<f->m_law_due f (LU m k A K B [])=cz (gT m k f B)) (λp S h hS pP f hf=>?_) (λB S e a h hS he ha jX hk mC hp pP f hf=>?_) h
 ·obtain⟨f,rfl⟩:∃q,f=q+1:=⟨f-1,by lia⟩;rw[b3D];show fnD _ _ _ _=_;rw[J6 (by simp[VS.argsOk])];unfold b_law_due;rfl
 ·obtain⟨f,rfl⟩:∃q,f=q+1:=⟨f-1,by lia⟩;have jP:S.length<=7:=bL (SetK.len h.set) h7;have zT:=h.len;obtain⟨a1,a2,a3,a4⟩:=a9w h.told (by lia) he ha;have hf:B1 m a S=p4:=by unfold tst at a2;rw[ao]at a2;exact a2.1
  have zj:P4 m a S=.list ((srt (anL m a (S.zip S))).map λx=>.tuple [.int x,c9 (prt m a S x)]):=aH hf;have hX:srt (anL m a (S.zip S))=srt (anL m a B):=b3E λx=>by
   rw[Q2,V0];exact⟨λ⟨s,hs,z⟩=>by
    obtain⟨p,hp,e9⟩:=aX.mp ((h.mem s).mpr hs);exact⟨p,hp,by rw[e9];exact z⟩,λ⟨p,hp,z⟩=>⟨p.1,(h.mem p.1).mp (bt hp),z⟩⟩
  have pN:=a0y (m:=m) (a:=a) (B:=B);have Fe:(srt (anL m a B)).length<=7:=by rw[(l9 _).length_eq];lia
  have hlen:A8 [.list (B.map prS)]=cz (.int B.length):=by show cz (aG ((B.map prS).length:Nat))=_;rw[ah]
  rw[Z9 h hS jX];show fnD _ _ _ _=_;rw[J6 (by simp[VS.argsOk])];unfold b_law_due;walk_at "ev";rw[aV (show ¬ (B.length:Int)=1 by lia)];walk_at "ev";have yU:B3 (a1Q (l0 (iI (iL (b7 3))) [] pt2 tT (b7 1))) (LU m k A K B [.none,.none,.none,.none,.none,.none,.none])=cz (c9 S):=by
   rw[a0u,a9y (ns:=B.map (·.1)) (by
    rw[F8 (enc:=prS) (xs:=B) (λp=>aG p.1) (V7 (by rfl) (m3 _ a9A _)) (by lia) λp _=>⟨_,rfl,rfl⟩];unfold iD;rw[bH];rfl) (by rw[ah];lia),Z4 h.nd,h.setEq]
   exact O7
  rw[yU];walk_at "ev";have wm:(l0 (iL (e2 (P3 p4) (b7 1) (b7 4))) [2] pt1 tT (eCl m_law_deepest (b8 (b7 0) (b8 (b7 1) f6)))) (LU m k A K B [c9 S,.none,.none,.none,.none,.none,.none])=cz (.list ((aJ k).map (dpD m k K S))):=by
   refine F8 (enc:=λ(a:Nat)=>P4 m a S) (xs:=aJ k) (dpD m k K S) ?_ (by rw[cL];lia) λb _=>⟨_,rfl,?_⟩
   ·show (P3 p4 (.dict (f7 (mvD m k) A)) (c9 S)).bind asL=_;rw[a4M pP];rfl
   ·show eCl m_law_deepest (b8 (b7 0) (b8 (b7 1) f6)) [P4 m b S,.dict (f7 (lvD m k) K)]=_;walk_at "ev";exact a3I h.set.2.1 jP
  rw[wm];walk_at "ev";rw[a4M ((hK S pP).mpr h.told)];have zg:lvD m k S=.int ((e:Int)+1):=by unfold lvD;rw[he];rfl
  rw[zg];walk_at "ev";rw[show (e:Int)+1-1=(e:Nat) by lia,b5V hK lK pP sP h.told he ha];walk_at "ev";rw[a4M pP];have zq:dIx (mvD m k S) (.int (a:Nat))=cz (P4 m a S):=by
   show L2.atI ((aJ k).map λ(a:Nat)=>P4 m a S) (a:Int)=_;rw[b3M (by rw[cL];exact a1),mX]
  walk_at "ev";rw[zq,zj,hX];walk_at "ev";obtain⟨U',g1,x,y,z,rfl⟩:=L1 (enc:=λx=>fm [.int x,c9 (prt m a S x)]) (set:=a5j 8 9) (xs:=srt (anL m a B)) (g:=b5U f) (U:=(LU m k A K B [c9 S,.list ((aJ k).map (dpD m k K S)),.int (a:Nat),.list [],.none,.none,.none]))
   (λpre U=>∃x y z:D,U=(LU m k A K B [c9 S,.list ((aJ k).map (dpD m k K S)),.int (a:Nat),.list (pre.map λx=>.tuple [.int x,gT m k f (gp m a B x)]),x,y,z])) ⟨_,_,_,rfl⟩ (by
    rintro pre x post e9 U ⟨u,v,z,rfl⟩;have hx:x∈anL m a B:=(l9 _).mem_iff.mp (by rw[e9];simp);obtain⟨q1,q2,q3⟩:=hp x hx;have fM:pre.length<=7:=by have:=dJ eW e9;rw[aN]at this;lia
    have Fm:prt m a S x∈A:=by
     obtain⟨p,hp,tP⟩:=V0.mp hx;exact lK S pP a a1 _ (a2w.mpr ⟨hf,p.1,(h.mem p.1).mp (bt hp),by rw[tP]⟩)
    rw[aO];generalize rS:(pre.map λx=>(.tuple [.int x,gT m k f (gp m a B x)]:D))=ds;have sT:ds.length=pre.length:=by rw[<-rS,ah]
    refine⟨_,(LU m k A K B [c9 S,.list ((aJ k).map (dpD m k K S)),.int (a:Nat),.list (ds++[.tuple [.int x,gT m k f (gp m a B x)]]),.int x,c9 (prt m a S x),.list ((gp m a B x).map prS)]),rfl,?_,_,_,_,rfl⟩;have iZ:(l0 (iI (iL (b7 3))) [0,6,8] pt2 (tB (e2 dEq (e2 v7 (e2 v7 (e2 dIx (b7 2) (b7 1)) (b7 3)) (eC (.int 0))) (b7 4))) (B7 (b8 (b7 0) (b8 (e2 v7 (e2 v7 (e2 dIx (b7 2) (b7 1)) (b7 3)) (eC (.int 1))) f6)))) (LU m k A K B [c9 S,.list ((aJ k).map (dpD m k K S)),.int (a:Nat),.list ds,.int x,c9 (prt m a S x),z])=cz (.list ((gp m a B x).map prS)):=by
     rw[a2t (enc:=prS) (xs:=B) (λp=>decide ((stp m p.1 a).1=x)) (λp=>prS ((stp m p.1 a).2,p.2)) (V7 (by rfl) (m3 _ a9A _)) (by lia) λp DM=>?_]
     ·unfold gp;rw[bH];rfl
     ·have hs:=h.set.2.2 p.1 ((h.mem p.1).mp (bt DM));have hr:=w.row hs.1 hs.2;have qX:e2 v7 (e2 dIx (b7 2) (b7 1)) (b7 3) [.int p.2,.int p.1,.list (m.map rwD),.int (a:Nat),.int x]=cz (stD (stp m p.1 a)):=by
       walk_at "ev";rw[b3n hs.1 hs.2];walk_at "ev";rw[b8t (by lia) (by lia)];walk_at "ev";rfl
      refine⟨[.int p.2,.int p.1],rfl,?_,λ_=>?_⟩
      ·show tB (e2 dEq (e2 v7 (e2 v7 (e2 dIx (b7 2) (b7 1)) (b7 3)) (eC (.int 0))) (b7 4)) [.int p.2,.int p.1,.list (m.map rwD),.int (a:Nat),.int x]=_;rw[b7H,v_2,v_2,qX];walk_at "ev"
      ·show B7 (b8 (b7 0) (b8 (e2 v7 (e2 v7 (e2 dIx (b7 2) (b7 1)) (b7 3)) (eC (.int 1))) f6)) [.int p.2,.int p.1,.list (m.map rwD),.int (a:Nat),.int x]=_;rw[b6i,a7w,a7w,v_2,qX];rfl
    have hv:B7 (b8 (b7 8) (b8 (eCl (m_law_due f) (b8 (b7 0) (b8 (b7 1) (b8 (b7 2) (b8 (b7 10) f6))))) f6)) (LU m k A K B [c9 S,.list ((aJ k).map (dpD m k K S)),.int (a:Nat),.list ds,.int x,c9 (prt m a S x),.list ((gp m a B x).map prS)])=cz (.tuple [.int x,gT m k f (gp m a B x)]):=by
     walk_at "ev";rw[q3 Fm f (by lia)];walk_at "ev"
    show b5U f (LU m k A K B [c9 S,.list ((aJ k).map (dpD m k K S)),.int (a:Nat),.list ds,.int x,c9 (prt m a S x),z])=_;unfold b5U;rw[A0,a0M,iZ];show C5 7 (.l .f) p6 _ (LU m k A K B [c9 S,.list ((aJ k).map (dpD m k K S)),.int (a:Nat),.list ds,.int x,c9 (prt m a S x),.list ((gp m a B x).map prS)])=_;rw[a8V,hv];show a7x 7 (.list ds) (cz (.tuple [.int x,gT m k f (gp m a B x)])) _=_;rw[L8 (by lia)];rfl)
  rw[show L6 (a5j 8 9) (b5U f) _ _=_ from g1];walk_at "ev"
end
def brD(p:Int×D):D:=.tuple [.int p.1,p.2]
def a8A{l:List (Int×D)}(hT:w6 T=p4)(h2:A8 [T]=cz (.int 2))(h0:dIx T (.int 0)=cz (.int a))(h1:dIx T (.int 1)=cz (.list (l.map brD)))(hl:l.length<=30)(h:∀p∈l,m_law_alike f [p.2,p.2]=cz (.bool p4)):m_law_alike (f+1) [T,T]=cz (.bool p4):=by
 show fnD _ _ _ _=_;rw[J6 (by simp[VS.argsOk])];unfold b_law_alike;have hn:∀i:Int,dNe (.int i) (.int i)=cz (.bool rp):=λi=>b3l U5 (by rw[K0];lia)
 have hr:iR (eCl A8 (b8 (e2 dIx (b7 1) (eC (.int 1))) f6)) [T,T,.none,.none]=cz (G5 0 l.length):=by
  rw[a2R (n:=l.length) (by walk_at "ev";rw[h1];walk_at "ev") (by lia) (by lia),bG]
 have main:=B0 (n:=l.length) (set:=v4 2) (g:=(i4 (j8 3 (e2 dIx (e2 dIx (b7 0) (eC (.int 1))) (b7 2))) (i4 (sIf (R6 (tNo (tV (e1 (λd=>cz (.bool (w6 d))) (b7 3)))) (R6 (tB (e2 dNe (eCl A8 (b8 (b7 3) f6)) (eC (.int 2)))) (R6 (tNo (tV (eCl m_law_whole (b8 (e2 dIx (b7 3) (eC (.int 0))) f6)))) (tB (e2 dNe (e2 dIx (b7 3) (eC (.int 0))) (e2 dIx (e2 dIx (e2 dIx (b7 1) (eC (.int 1))) (b7 2)) (eC (.int 0)))))))) (m9 (eC (.bool rp))) n5) (sIf (tNo (tV (eCl (m_law_alike f) (b8 (e2 dIx (b7 3) (eC (.int 1))) (b8 (e2 dIx (e2 dIx (e2 dIx (b7 1) (eC (.int 1))) (b7 2)) (eC (.int 1))) f6))))) (m9 (eC (.bool rp))) n5)))) (U:=[T,T,.none,.none])
  (λ_ U=>∃x y,U=[T,T,x,y]) ⟨_,_,rfl⟩ (by
   rintro j hj U ⟨x,y,rfl⟩;have nY:L2.atI (l.map brD) (j:Int)=cz (brD l[j]):=b3M hj;generalize hp:l[j]=p at nY;have fM:p∈l:=by rw[<-hp];exact cH hj
   refine⟨_,[T,T,.int j,brD p],rfl,?_,_,_,rfl⟩;show (i4 (j8 3 (e2 dIx (e2 dIx (b7 0) (eC (.int 1))) (b7 2))) (i4 (sIf (R6 (tNo (tV (e1 (λd=>cz (.bool (w6 d))) (b7 3)))) (R6 (tB (e2 dNe (eCl A8 (b8 (b7 3) f6)) (eC (.int 2)))) (R6 (tNo (tV (eCl m_law_whole (b8 (e2 dIx (b7 3) (eC (.int 0))) f6)))) (tB (e2 dNe (e2 dIx (b7 3) (eC (.int 0))) (e2 dIx (e2 dIx (e2 dIx (b7 1) (eC (.int 1))) (b7 2)) (eC (.int 0)))))))) (m9 (eC (.bool rp))) n5) (sIf (tNo (tV (eCl (m_law_alike f) (b8 (e2 dIx (b7 3) (eC (.int 1))) (b8 (e2 dIx (e2 dIx (e2 dIx (b7 1) (eC (.int 1))) (b7 2)) (eC (.int 1))) f6))))) (m9 (eC (.bool rp))) n5))) [T,T,.int j,y]=_;have b0:dIx (brD p) (.int 0)=cz (.int p.1):=rfl;have b1:dIx (brD p) (.int 1)=cz p.2:=rfl;have b2:A8 [brD p]=cz (.int 2):=rfl;have bT:w6 (brD p)=p4:=rfl;have s1:j8 3 (e2 dIx (e2 dIx (b7 0) (eC (.int 1))) (b7 2)) [T,T,.int j,y]=cz (.nx [T,T,.int j,brD p]):=by
    walk_at "ev";rw[h1];walk_at "ev";rw[nY];walk_at "ev"
   rw[A0,s1,v8];generalize brD p=R at nY b0 b1 b2 bT
   repeat (first|rw[bT]|rw[b2]|rw[b0]|rw[b1]|rw[a5G]|rw[hn]|rw[h1]|rw[nY]|rw[h p fM]|walk_at "ev"))
 obtain⟨U',g1,x,y,rfl⟩:=main
 repeat (first|rw[hT]|rw[h2]|rw[h0]|rw[a5G]|rw[hn]|rw[h1]|rw[hr]|rw[show L6 (v4 2) _ _ _=_ from g1]|walk_at "ev")
section
variable {m:l8}{k:Nat}{B:BG}{S:List Int}
def b3N(w:WF m k)(h:KB m k B S):∀f f',lev m k S<f->lev m k S<f'->m_law_alike f' [gT m k f B,gT m k f B]=cz (.bool p4):=by
 refine KB.ind w (P:=λB S=>∀f f',lev m k S<f->lev m k S<f'->m_law_alike f' [gT m k f B,gT m k f B]=cz (.bool p4)) (λp S h hS f f' hf oA=>?_) (λB S e a h hS he ha jX hk mC hp f f' hf oA=>?_) h
 ·obtain⟨f,rfl⟩:∃q,f=q+1:=⟨f-1,by lia⟩;obtain⟨f',rfl⟩:∃q,f'=q+1:=⟨f'-1,by lia⟩;rw[b3D];show fnD _ _ _ _=_;rw[J6 (by simp[VS.argsOk])];unfold b_law_alike;walk_at "ev";rw[a5G]
  try walk_at "ev"
  try rw[c0r (a:=.int p.2) U5 (by rw[K0];lia)]
  try walk_at "ev"
 ·obtain⟨f,rfl⟩:∃q,f=q+1:=⟨f-1,by lia⟩;obtain⟨f',rfl⟩:∃q,f'=q+1:=⟨f'-1,by lia⟩;have pN:=a0y (m:=m) (a:=a) (B:=B);have zT:=h.len;have:=SetK.len h.set;have:=w.le;refine a8A (a:=(a:Nat)) (l:=(srt (anL m a B)).map λx=>(x,gT m k f (gp m a B x))) ?_ ?_ ?_ ?_ (by rw[ah,(l9 _).length_eq];lia) λp DK=>?_
  ·rw[Z9 h hS jX];rfl
  ·rw[Z9 h hS jX];rfl
  ·rw[Z9 h hS jX];rfl
  ·rw[Z9 h hS jX,bH];rfl
  ·obtain⟨x,hx,rfl⟩:=aX.mp DK;obtain⟨_,q2,q3⟩:=hp x ((l9 _).mem_iff.mp hx);exact q3 f f' (by lia) (by lia)
end
end Prog
local macro_rules | `(tactic| walk_at "evm")=>`(tactic| first | (walk_at "ev";repeat (simp -implicitDefEqProofs (disch:=first | omega | assumption | decide) only [VS.a1q,VS.a0p,VS.O8];try walk_at "ev")) | (simp -implicitDefEqProofs (disch:=first | omega | assumption | decide) only [VS.a1q,VS.a0p,VS.O8];repeat (first | walk_at "ev" | simp -implicitDefEqProofs (disch:=first | omega | assumption | decide) only [VS.a1q,VS.a0p,VS.O8])))
namespace Prog
open PySem L2 VS
abbrev M0(ns:List Int)(sm la:Nat)(fi:List Int)(n k q:Nat)(xs rows:List Int)(t:List D):List D:=.list (ns.map .int)::.int sm::.int la::.list (fi.map .int)::.int n::.int k::.int q::.list (xs.map .int)::.list (rows.map .int)::t
abbrev b3O:EvS:=(i4 (j8 13 (e2 N9 (b7 7) (e2 y6 (e2 y6 (e2 y6 (eC (.int 3)) (b7 4)) (e2 M4 (e2 N9 (b7 8) (b7 10)) (b7 5))) (b7 12)))) (i4 (j8 14 (l0 (iR (b7 4)) [6,8,13] pt1 (tB (e2 dEq (e2 N9 (b7 2) (b7 0)) (e2 E3 (b7 3) (b7 1)))) (b7 0))) (i4 (j8 15 (e2 N9 (b7 7) (e2 y6 (e2 y6 (e2 y6 (e2 y6 (eC (.int 3)) (b7 4)) (e2 M4 (b7 4) (b7 5))) (e2 M4 (b7 10) (b7 5))) (b7 12)))) (C5 11 (.l .i) p6 (B7 (b8 (eCl m_law_answer (b8 (e2 a0a (b7 13) (b7 6)) (b8 (b7 7) f6))) (b8 (e2 N9 (b7 14) (e2 E3 (b7 15) (eCl A8 (b8 (b7 14) f6)))) f6)))))))
abbrev b8V:EvS:=(i4 (j8 11 (G0 f6)) (i4 (I9 (iR (b7 5)) (v4 12) b3O) (C5 9 (.l (.l .i)) p6 (b7 11))))
abbrev b8W:EvS:=(sIf (tB (e2 dLt (b7 4) (b7 2))) (C5 3 (.l .i) p6 (e2 E3 (e2 y6 (b7 4) (e2 a0a (e2 v7 (b7 0) (eC (.int 0))) (eC (.int 1000)))) (b7 2))) (C5 3 (.l .i) p6 (e2 E3 (e2 v7 (b7 0) (e2 y6 (eC (.int 3)) (b7 4))) (b7 2))))
local macro_rules | `(tactic| walk_at "ev1")=>`(tactic| simp -implicitDefEqProofs only [VS.A0,VS.a0M,VS.b6h,VS.b6g,VS.a8U,VS.b1X,VS.v8,mW,jL])
def Q4:Int:=10^64
def b3P:1000<Q4:=by decide
def a8B(ns:List Int)(k:Int)(h0:0<=k):∃c:Int,m_law_cell_at [.list (ns.map .int),.int k]=cz (.int c):=by
 unfold m_law_cell_at;rw[J6 (by simp[VS.argsOk,imm])];unfold b_law_cell_at;walk_at "evm";by_cases c:k<(ns.length:Int)
 ·rw[aI c];walk_at "evm";exact⟨_,rfl⟩
 ·rw[aV c];walk_at "evm";exact⟨_,rfl⟩
def a3J(ns:List Int)(n:Nat)(h1:n<=1000):∃xs:List Int,m_law_cells [.list (ns.map .int),.int n]=cz (.list (xs.map .int))/\xs.length=n/\∀x∈xs,0<=x:=by
 unfold m_law_cells;rw[J6 (by simp[VS.argsOk,imm])];unfold b_law_cells;walk_at "evm";rw[a2R (n:=n) (by walk_at "evm") (by lia) (by lia),bG];walk_at "evm";refine S9 (R:=λo=>∃xs:List Int,o=cz (.list (xs.map .int))/\xs.length=n/\∀x∈xs,0<=x) (λU=>∃(xs:List Int) (q:Int) (y z:D),xs.length=n/\(∀x∈xs,0<=x)/\U=[.list (ns.map .int),.int n,.list (xs.map .int),.int q,y,z]) ?_ ?_
 ·obtain⟨U',g1,xs,q,y,z,e1,e2,e3,rfl⟩:=B0 (n:=n) (set:=v4 4) (g:=(i4 (j8 5 (e2 E3 (eCl m_law_cell_at (b8 (b7 0) (b8 (b7 4) f6))) (e2 a5e (eC (.int 10)) (eC (.int 64))))) (i4 (j8 3 (e2 E3 (e2 y6 (e2 y6 (e2 y6 (e2 M4 (b7 3) (eC (.int 69621))) (e2 M4 (b7 5) (eC (.int 40014)))) (e2 M4 (b7 4) (b7 4))) (eC (.int 1))) (eC (.int 2147483563)))) (sIf (tB (e2 dLt (b7 4) (eCl A8 (b8 (b7 0) f6)))) (C5 2 (.l .i) p6 (b7 5)) (C5 2 (.l .i) p6 (b7 3)))))) (U:=[.list (ns.map .int),.int n,.list [],.int 48271,.none,.none])
   (λj U=>∃(xs:List Int) (q:Int) (y z:D),xs.length=j/\(∀x∈xs,0<=x)/\0<=q/\U=[.list (ns.map .int),.int n,.list (xs.map .int),.int q,y,z]) ⟨[],48271,_,_,rfl,λx hx=>(nomatch hx),by decide,rfl⟩ (by
    rintro j hj U ⟨xs,q,y,z,e1,e2,e3,rfl⟩;obtain⟨c,hc⟩:=a8B ns j (by lia);have hq:=dy (q*69621+c % Q4*40014+(j:Int)*j+1) (show (2147483563:Int)≠0 by decide);have hp:=b3P;have xM:=dy c (show Q4≠0 by lia);have BS:(10^(64:Int).toNat:Int)=Q4:=by decide
    by_cases cl:(j:Int)<ns.length
    ·refine⟨_,[.list (ns.map .int),.int n,.list ((xs++[c % Q4]).map .int),.int ((q*69621+c % Q4*40014+(j:Int)*j+1) % 2147483563),.int j,.int (c % Q4)],rfl,?_,xs++[c % Q4],_,_,_,by rw[aN,e1];rfl,?_,hq,rfl⟩
     ·walk_at "evm";rw[hc,v_pow (i:=10) (j:=64) (by decide),BS];generalize Q4=T at hp;walk_at "evm";rw[aI cl];walk_at "evm";rw[L8 (by rw[ah];lia),aO];rfl
     ·intro x hx;rcases ay.mp hx with z|z
      ·exact e2 x z
      ·rw[ai.mp z];exact xM
    ·refine⟨_,[.list (ns.map .int),.int n,.list ((xs++[(q*69621+c % Q4*40014+(j:Int)*j+1) % 2147483563]).map .int),.int ((q*69621+c % Q4*40014+(j:Int)*j+1) % 2147483563),.int j,.int (c % Q4)],rfl,?_,xs++[(q*69621+c % Q4*40014+(j:Int)*j+1) % 2147483563],_,_,_,by rw[aN,e1];rfl,?_,hq,rfl⟩
     ·walk_at "evm";rw[hc,v_pow (i:=10) (j:=64) (by decide),BS];generalize Q4=T at hp;walk_at "evm";rw[aV cl];walk_at "evm";rw[L8 (by rw[ah];lia),aO];rfl
     ·intro x hx;rcases ay.mp hx with z|z
      ·exact e2 x z
      ·rw[ai.mp z];exact hq)
  exact⟨_,g1,xs,q,y,z,e1,e2,rfl⟩
 ·rintro U ⟨xs,q,y,z,e1,e2,rfl⟩;walk_at "evm";exact⟨xs,rfl,e1,e2⟩
def a9B{xs:List Int}(h:∀x∈xs,0<=x)(i:Nat):0<=xs.getD i 0:=by
 rw[aT];cases e:xs[i]? with
 |none=>exact xf _
 |some y=>exact h y (bp e)
def b3Q:a5e (.int 10) (.int 60)=cz (.int big):=by rw[v_pow (i:=10) (j:=60) (by decide)];rfl
local macro_rules | `(tactic| walk_at "evq")=>`(tactic| first | (walk_at "ev";repeat (simp -implicitDefEqProofs (disch:=first | omega | assumption | decide) only [Prog.b3Q,VS.a1q,VS.a0p,VS.O8];try walk_at "ev")) | (simp -implicitDefEqProofs (disch:=first | omega | assumption | decide) only [Prog.b3Q,VS.a1q,VS.a0p,VS.O8];repeat (first | walk_at "ev" | simp -implicitDefEqProofs (disch:=first | omega | assumption | decide) only [Prog.b3Q,VS.a1q,VS.a0p,VS.O8])))
def b1h(q:Int)(xs:List Int)(h:3<=xs.length):∃v:Int,m_law_answer [.int q,.list (xs.map .int)]=cz (.int v):=by
 have Gb:=b3m;unfold m_law_answer;rw[J6 (by simp[VS.argsOk,imm])];unfold b_law_answer;walk_at "evq";generalize decide (xs.getD (1:Int).toNat 0 / 5 % 4=1)=b1;cases b1 with
 |true=>
  walk_at "evq";exact⟨_,rfl⟩
 |false=>
  walk_at "evq";generalize decide (xs.getD (1:Int).toNat 0 / 5 % 4=2)=b2;cases b2 with
  |true=>
   walk_at "evq";exact⟨_,rfl⟩
  |false=>
   walk_at "evq";generalize decide (xs.getD (1:Int).toNat 0 / 5 % 4=3)=b3;cases b3 with
   |true=>
    walk_at "evq";exact⟨_,rfl⟩
   |false=>
    walk_at "evq";exact⟨_,rfl⟩
def b1i(xs:List Int)(n q:Nat)(h:3+n<=xs.length)(q1:1<=q)(qn:q<=n)(yw:n<=30)(hx:∀x∈xs,0<=x) :
  ∃rows:List Int,m_law_copied [.list (xs.map .int),.int n,.int q]=cz (.list (rows.map .int))/\rows.length=n/\(∀r∈rows,0<=r/\r<(q:Int))/\∀c:Int,0<=c->c<q->c∈rows:=by
 unfold m_law_copied;rw[J6 (by simp[VS.argsOk,imm])];unfold b_law_copied;walk_at "evq";rw[a2R (n:=n) (by walk_at "evq") (by lia) (by lia),bG];walk_at "evq"
 let o:Int:=xs.getD (0:Int).toNat 0 / 1000
 refine S9 (R:=λe=>∃rows:List Int,e=cz (.list (rows.map .int))/\rows.length=n/\(∀r∈rows,0<=r/\r<(q:Int))/\∀c:Int,0<=c->c<q->c∈rows) (λU=>∃(rows:List Int) (x:D),rows.length=n/\(∀r∈rows,0<=r/\r<(q:Int))/\(∀i:Nat,i<q->((i:Int)+o) % q∈rows)/\U=[.list (xs.map .int),.int n,.int q,.list (rows.map .int),x]) ?_ ?_
 ·obtain⟨U',h1,rows,x,h2,h3,h4,rfl⟩:=B0 (n:=n) (set:=v4 4) (g:=b8W) (U:=[.list (xs.map .int),.int n,.int q,.list [],.none])
   (λj U=>∃(rows:List Int) (x:D),rows.length=j/\(∀r∈rows,0<=r/\r<(q:Int))/\(∀i:Nat,i<q->i<j->((i:Int)+o) % q∈rows)/\U=[.list (xs.map .int),.int n,.int q,.list (rows.map .int),x])
   ⟨[],_,rfl,λr hr=>(nomatch hr),λi _ hi=>absurd hi (Nat.not_lt_zero _),rfl⟩ (by
    rintro j hj U ⟨rows,x,h2,h3,h4,rfl⟩;have put:∀v:Int,(j<q->v=((j:Int)+o) % q)->0<=v->v<(q:Int)->b8W [.list (xs.map .int),.int n,.int q,.list (rows.map .int),.int j]=cz (.nx [.list (xs.map .int),.int n,.int q,.list ((rows++[v]).map .int),.int j])->
      ∃U1 U2,v4 4 [.list (xs.map .int),.int n,.int q,.list (rows.map .int),x] (.int j)=cz U1/\b8W U1=cz (.nx U2)/\∃(rows:List Int) (x:D),rows.length=j+1/\(∀r∈rows,0<=r/\r<(q:Int))/\(∀i:Nat,i<q->i<j+1->((i:Int)+o) % q∈rows)/\U2=[.list (xs.map .int),.int n,.int q,.list (rows.map .int),x]:=by
     intro v hv v0 v1 hg;refine⟨_,_,rfl,hg,rows++[v],_,by rw[aN,h2];rfl,λr hr=>?_,λi hi nY=>?_,rfl⟩
     ·rcases ay.mp hr with z|z
      ·exact h3 r z
      ·rw[ai.mp z];exact⟨v0,v1⟩
     ·rcases gH i j with z|z
      ·exact aC _ (h4 i hi z)
      ·have e:i=j:=by lia
       subst e;rw[<-hv hi];simp
    by_cases c:(j:Int)<q
    ·refine put (((j:Int)+o) % q) (λ_=>rfl) (dy _ (by lia)) (ei _ (by lia)) ?_;walk_at "evq";rw[aI c];walk_at "evq";rw[L8 (by rw[ah];lia),aO];rfl
    ·refine put (xs.getD (3+(j:Int)).toNat 0 % q) (λz=>by lia) (dy _ (by lia)) (ei _ (by lia)) ?_;walk_at "evq";rw[aV c];walk_at "evq";rw[L8 (by rw[ah];lia),aO];rfl)
  exact⟨_,h1,rows,x,h2,h3,λi hi=>h4 i hi (by lia),rfl⟩
 ·rintro U ⟨rows,x,h2,h3,h4,rfl⟩;have Ar:∀c:Int,0<=c->c<q->c∈rows:=λc c0 c1=>by
   have h:=h4 ((c-o) % q).toNat (by have:=ei (c-o) (show (0:Int)<q by lia);have:=dy (c-o) (show (q:Int)≠0 by lia);lia);rw[jt (dy (c-o) (by lia)),Int.emod_add_emod,Int.sub_add_cancel,Int.emod_eq_of_lt c0 c1]at h;exact h
  walk_at "evq";generalize decide (xs.getD (1:Int).toNat 0 / 20 % 2=1)=b;cases b with
  |false=>
   walk_at "evq";exact⟨rows,rfl,h2,h3,Ar⟩
  |true=>
   walk_at "evq";show ∃r,a2O (thn (cz (.nx [.list (xs.map .int),.int n,.int q,.list (rows.map .int).reverse,x])) _)=_/\_;walk_at "evq";refine⟨rows.reverse,by rw[Gk],by rw[xZ];exact h2,λr hr=>h3 r (kC.mp hr),λc c0 c1=>kC.mpr (Ar c c0 c1)⟩
def a8C(ns:List Int)(sm la Bd:Nat)(s1:1<=sm)(hB:Bd<=7)(s2:sm<=Bd)(l1:1<=la)(l2:la<=Bd):∃(m:l8) (k:Nat),m_law_machine [.list (ns.map .int),.int sm,.int la]=cz (.list (m.map rwD))/\WF m k/\m.length<=Bd:=by
 unfold m_law_machine;rw[J6 (by simp[VS.argsOk,imm])];unfold b_law_machine;walk_at "evm";obtain⟨fi,wj,GH,AA⟩:=a3J ns 3 (by lia);have zA:m_law_cells [.list (ns.map .int),.int 3]=cz (.list (fi.map .int)):=wj;rw[zA];walk_at "evm";have f0:0<=fi.getD (0:Int).toNat 0:=a9B AA _;have f1:0<=fi.getD (1:Int).toNat 0:=a9B AA _;have q0:=dy (fi.getD (0:Int).toNat 0) (show (sm:Int)≠0 by lia);have q1:=ei (fi.getD (0:Int).toNat 0) (show (0:Int)<sm by lia);refine S9 (R:=λo=>∃(m:l8) (k:Nat),o=cz (.list (m.map rwD))/\WF m k/\m.length<=Bd) (λU=>∃n:Nat,1<=n/\n<=Bd/\U=[.list (ns.map .int),.int sm,.int la,.list (fi.map .int),.int n,.none,.none,.none,.none,.none,.none,.none,.none,.none,.none,.none]) ?_ ?_
 ·cases decide (fi.getD (0:Int).toNat 0 / (sm:Int) % 8=3) with
  |true=>
   have r0:=dy (fi.getD (0:Int).toNat 0 / (8*(sm:Int))) (show (la:Int)≠0 by lia);have r1:=ei (fi.getD (0:Int).toNat 0 / (8*(sm:Int))) (show (0:Int)<la by lia);refine⟨_,(by walk_at "evm";exact rfl),(1+fi.getD (0:Int).toNat 0 / (8*(sm:Int)) % la).toNat,by lia,by lia,?_⟩;rw[jt (by lia)]
  |false=>
   refine⟨_,(by walk_at "evm";exact rfl),(1+fi.getD (0:Int).toNat 0 % (sm:Int)).toNat,by lia,by lia,?_⟩;rw[jt (by lia)]
 rintro U ⟨n,n1,nB,rfl⟩;have yw:n<=30:=by lia
 walk_at "evm";obtain⟨k,hk,k1,k5⟩:∃k:Nat,1+fi.getD (1:Int).toNat 0 % 5=(k:Int)/\1<=k/\k<=5:=⟨(1+fi.getD (1:Int).toNat 0 % 5).toNat,by lia,by lia,by lia⟩;rw[hk];refine S9 (R:=λo=>∃(m:l8) (k:Nat),o=cz (.list (m.map rwD))/\WF m k/\m.length<=Bd) (λU=>∃q:Nat,1<=q/\q<=n/\U=[.list (ns.map .int),.int sm,.int la,.list (fi.map .int),.int n,.int k,.int q,.none,.none,.none,.none,.none,.none,.none,.none,.none]) ?_ ?_
 ·cases decide (fi.getD (2:Int).toNat 0 % 4=3) with
  |true=>
   have r0:=dy (fi.getD (2:Int).toNat 0 / 4) (show (n:Int)≠0 by lia);have r1:=ei (fi.getD (2:Int).toNat 0 / 4) (show (0:Int)<n by lia);refine⟨_,(by walk_at "evm";exact rfl),(1+fi.getD (2:Int).toNat 0 / 4 % n).toNat,by lia,by lia,?_⟩;rw[jt (by lia)]
  |false=>
   exact⟨_,(by walk_at "evm"),n,n1,aD _,rfl⟩
 rintro U ⟨q,CG,qn,rfl⟩;walk_at "evm";have vT:n*k<=30*5:=Nat.mul_le_mul yw k5;obtain⟨xs,vH,Dd,CL⟩:=a3J ns (3+n+2*n*k) (by rw[Nat.mul_assoc];lia);have ec:(3+(n:Int)+2*(n:Int)*(k:Int))=((3+n+2*n*k:Nat):Int):=by rw[pJ,pJ,kW,kW];rfl
 rw[ec,vH];have en:(2:Int)*(n:Int)*(k:Int)=(n:Int)*k+(n:Int)*k:=by rw[Int.mul_assoc,Int.two_mul]
 have Bf:(xs.length:Int)=3+n+((n:Int)*k+(n:Int)*k):=by rw[Dd,<-ec,en]
 have DX:0<=(n:Int)*(k:Int):=Int.mul_nonneg (by lia) (by lia);walk_at "evm";obtain⟨rows,vO,AG,vp,vm⟩:=b1i xs n q (by lia) CG qn yw CL;rw[vO];walk_at "evm";rw[a2R (n:=n) (by walk_at "evm") (by lia) (by lia),bG];walk_at "evm";have Gb:=b3m;have row:∀s:Nat,s<n->∀(tab:D) (y z u v:D),∃(r:List (Int×Int)) (x' y' z' u':D),r.length=k/\(∀p∈r,0<=p.2/\p.2<(n:Int))/\
   (I9 (iR (b7 5)) (v4 12) b3O) (M0 ns sm la fi n k q xs rows [tab,.int s,.list [],y,z,u,v])=cz (.nx (M0 ns sm la fi n k q xs rows [tab,.int s,rwD r,x',y',z',u'])):=by
  intro s hs tab y z u v;walk_at "evm";rw[a2R (n:=k) (by walk_at "evm") (by lia) (by lia),bG];walk_at "evm";obtain⟨U',h1,r,x',y',z',u',h2,h3,rfl⟩:=B0 (n:=k) (set:=v4 12) (g:=b3O)
   (U:=(M0 ns sm la fi n k q xs rows [tab,.int s,.list [],y,z,u,v]))
   (λj U=>∃(r:List (Int×Int)) (x' y' z' u':D),r.length=j/\(∀p∈r,0<=p.2/\p.2<(n:Int))/\U=(M0 ns sm la fi n k q xs rows [tab,.int s,rwD r,x',y',z',u']))
   ⟨[],y,z,u,v,rfl,λp hp=>(nomatch hp),rfl⟩ (by
    rintro j hj U ⟨r,x',y',z',u',hr,hp,rfl⟩;have bound:∀i:Int,0<=i->i<n->0<=i*(k:Int)/\i*(k:Int)+j<(n:Int)*k:=λi i0 i1=>by
     refine⟨Int.mul_nonneg i0 (by lia),?_⟩;have h1:(i.toNat+1)*k<=n*k:=Nat.mul_le_mul_right k (by lia);have h2:i.toNat*k+j<n*k:=by rw[Nat.add_mul,Nat.one_mul]at h1;lia
     have h3:((i.toNat:Nat):Int)=i:=by lia
     have h4:((i.toNat*k+j:Nat):Int)<((n*k:Nat):Int):=by exact_mod_cast h2
     rw[pJ,kW,kW,h3]at h4;exact h4
    have AY:0<=rows.getD s 0/\rows.getD s 0<(q:Int):=by
     have hm:rows.getD s 0∈rows:=b0X (by lia);exact vp _ hm
    obtain⟨b0,b1⟩:=bound (rows.getD s 0) AY.1 (by lia);obtain⟨d0,d1⟩:=bound s (by lia) (by lia);have Bi:e2 N9 (b7 8) (b7 10) (M0 ns sm la fi n k q xs rows [tab,.int s,rwD r,.int j,y',z',u'])=cz (.int (rows.getD s 0)):=by
     walk_at "evm";rw[bG]
    generalize GL:rows.getD s 0=rr at AY b0 b1 Bi
    let cell:Int:=xs.getD (3+(n:Int)+rr*k+j).toNat 0
    have mD:e2 N9 (b7 7) (e2 y6 (e2 y6 (e2 y6 (eC (.int 3)) (b7 4)) (e2 M4 (e2 N9 (b7 8) (b7 10)) (b7 5))) (b7 12)) (M0 ns sm la fi n k q xs rows [tab,.int s,rwD r,.int j,y',z',u'])=cz (.int cell):=by
     rw[v_2,v_2,v_2,v_2,v_2,Bi];walk_at "evm";rfl
    have Ee:=dy cell (show (q:Int)≠0 by lia);have tZ:=ei cell (show (0:Int)<q by lia)
    let room:List Nat:=(aJ n).filter λ(t:Nat)=>decide (rows.getD t 0=cell % q)
    have vP:(l0 (iR (b7 4)) [6,8,13] pt1 (tB (e2 dEq (e2 N9 (b7 2) (b7 0)) (e2 E3 (b7 3) (b7 1)))) (b7 0)) (M0 ns sm la fi n k q xs rows [tab,.int s,rwD r,.int j,.int cell,z',u'])=cz (.list (room.map λ(t:Nat)=>aG t)):=by
     refine b5A (n:=n) (λ(t:Nat)=>decide (rows.getD t 0=cell % q)) (λt=>.int t) (by rw[a2R (n:=n) (by walk_at "evm") (by lia) (by lia)];rfl) (by lia) (λt ht=>⟨?_,λ_=>rfl⟩);show tB _ [.int t,.int q,.list (rows.map .int),.int cell]=_;walk_at "evm";rw[bG]
    have hl:0<room.length:=by
     obtain⟨t,ht⟩:=bF.mp (vm (cell % q) Ee tZ);have AR:=(aQ.mp ht).1;have:t∈room:=by
      show t∈(aJ n).filter _;rw[bu];refine⟨bR.mpr (by lia),aI ?_⟩;rw[aT,ht];rfl
     exact uB this
    let pick:Int:=xs.getD (3+(n:Int)+(n:Int)*k+(s:Int)*k+j).toNat 0
    have vQ:e2 N9 (b7 7) (e2 y6 (e2 y6 (e2 y6 (e2 y6 (eC (.int 3)) (b7 4)) (e2 M4 (b7 4) (b7 5))) (e2 M4 (b7 10) (b7 5))) (b7 12)) (M0 ns sm la fi n k q xs rows [tab,.int s,rwD r,.int j,.int cell,.list (room.map λ(t:Nat)=>aG t),u'])=cz (.int pick):=by
     walk_at "evm";rfl
    obtain⟨v,hv⟩:=b1h (cell / q) xs (by lia);have g0:=dy pick (show (room.length:Int)≠0 by lia);have g1:=ei pick (show (0:Int)<room.length by lia);obtain⟨t,DD,yK,yJ⟩:∃t:Int,0<=t/\t<(n:Int)/\L2.atI (room.map λ(t:Nat)=>aG t) (pick % (room.length:Int))=cz (.int t):=by
     rw[a2Q g0 (by rw[ah];exact g1),gI];have jF:room[(pick % (room.length:Int)).toNat]'(by lia)∈(aJ n).filter λ(t:Nat)=>decide (rows.getD t 0=cell % q):=cH _
     have:=bR.mp (bu.mp jF).1;exact⟨_,by lia,by lia,rfl⟩
    have hb:b3O (M0 ns sm la fi n k q xs rows [tab,.int s,rwD r,.int j,y',z',u'])=cz (.nx (M0 ns sm la fi n k q xs rows [tab,.int s,rwD (r++[(v,t)]),.int j,.int cell,.list (room.map λ(t:Nat)=>aG t),.int pick])):=by
     unfold b3O;rw[A0,a0M,mD];show thn (cz (.nx (M0 ns sm la fi n k q xs rows [tab,.int s,rwD r,.int j,.int cell,z',u']))) _=_;rw[v8,A0,a0M,vP];show thn (cz (.nx (M0 ns sm la fi n k q xs rows [tab,.int s,rwD r,.int j,.int cell,.list (room.map λ(t:Nat)=>aG t),u']))) _=_;rw[v8,A0,a0M,vQ];show thn (cz (.nx (M0 ns sm la fi n k q xs rows [tab,.int s,rwD r,.int j,.int cell,.list (room.map λ(t:Nat)=>aG t),.int pick]))) _=_;rw[v8];generalize GW:cell=cc at hv;generalize GO:pick=pp at yJ;generalize GP:room=oo at yJ hl;walk_at "evm";rw[hv,yJ];walk_at "evm";show a7x 11 (.list (r.map stD)) _ _=_;rw[L8 (by rw[ah];lia)];unfold rwD;rw[aO];rfl
    refine⟨_,_,rfl,hb,r++[(v,t)],_,_,_,_,by rw[aN,hr];rfl,?_,rfl⟩;intro p DR;rcases ay.mp DR with z|z
    ·exact hp p z
    ·rw[ai.mp z];exact⟨DD,yK⟩)
  exact⟨r,x',y',z',u',h2,h3,h1⟩
 refine S9 (R:=λo=>∃(m:l8) (k:Nat),o=cz (.list (m.map rwD))/\WF m k/\m.length<=Bd) (λU=>∃(m:l8) (a b c d e f:D),m.length=n/\(∀r∈m,r.length=k/\∀p∈r,0<=p.2/\p.2<(n:Int))/\U=(M0 ns sm la fi n k q xs rows [.list (m.map rwD),a,b,c,d,e,f])) ?_ ?_
 ·obtain⟨U',h1,m,a,b,c,d,e,f,h2,h3,rfl⟩:=B0 (n:=n) (set:=v4 10) (g:=b8V)
   (U:=(M0 ns sm la fi n k q xs rows [.list [],.none,.none,.none,.none,.none,.none]))
   (λj U=>∃(m:l8) (a b c d e f:D),m.length=j/\(∀r∈m,r.length=k/\∀p∈r,0<=p.2/\p.2<(n:Int))/\U=(M0 ns sm la fi n k q xs rows [.list (m.map rwD),a,b,c,d,e,f]))
   ⟨[],_,_,_,_,_,_,rfl,λp hp=>(nomatch hp),rfl⟩ (by
    rintro j hj U ⟨m,a,b,c,d,e,f,h2,h3,rfl⟩;obtain⟨r,x',y',z',u',r1,r2,r3⟩:=row j hj (.list (m.map rwD)) c d e f;refine⟨_,(M0 ns sm la fi n k q xs rows [.list ((m++[r]).map rwD),.int j,rwD r,x',y',z',u']),rfl,?_,m++[r],_,_,_,_,_,_,by rw[aN,h2];rfl,?_,rfl⟩
    ·show b8V (M0 ns sm la fi n k q xs rows [.list (m.map rwD),.int j,b,c,d,e,f])=_;unfold b8V;rw[A0,a0M];show thn (cz (.nx (M0 ns sm la fi n k q xs rows [.list (m.map rwD),.int j,.list [],c,d,e,f]))) _=_;rw[v8,A0,r3,v8];walk_at "evm";rw[L8 (by rw[ah];lia)];walk_at "evm";rw[aO];rfl
    ·intro r' yP;rcases ay.mp yP with z|z
     ·exact h3 r' z
     ·rw[ai.mp z];exact⟨r1,r2⟩)
  exact⟨_,h1,m,a,b,c,d,e,f,h2,h3,rfl⟩
 ·rintro U ⟨m,a,b,c,d,e,f,h2,h3,rfl⟩;walk_at "evm";exact⟨m,k,rfl,⟨by lia,by lia,k1,k5,λr hr=>(h3 r hr).1,λr hr p hp=>by rw[h2];exact (h3 r hr).2 p hp⟩,by lia⟩
end Prog
namespace VS
open PySem L2
def b8X{U:List D}(h:U.getD i .none=.tuple [t,.list bs])(he:fe U=cz d)(hl:bs.length<1000000):C5 i (.tp [.i,.l .f]) (pIx i (.tp [.i,.l .f]) p6 (eC (.int 1))) fe U=cz (.nx (U.set i (.tuple [t,.list (bs++[d])]))):=by
 have hp:pIx i (.tp [.i,.l .f]) p6 (eC (.int 1)) U=cz [1]:=by
  unfold pIx;show (a0L (.tp [.i,.l .f]) (U.getD i .none) []).bind _=_;rw[h];rfl
 unfold C5;rw[hp,bC,h];show (cz bs).bind _=_;rw[bC,he,bC,aH hl];rfl
end VS
namespace Prog
open PySem L2 VS
abbrev LV(ns:List Int)(m:l8)(k:Nat)(S:List Int)(A K:List (List Int))(t:List D):List D:=.list (ns.map .int)::.list (m.map rwD)::iD S::.dict (f7 (mvD m k) A)::.dict (f7 (lvD m k) K)::.list (m.map rwD)::t
section
variable {m:l8}{k:Nat}
theorem b8Y(w:WF m k)(h5:m.length<=7)(qB:nwS m k (sts m.length) d=[]):∀(n:Nat) {S:List Int},SetK m S->tb m k (d+n) S=p4->tb m k d S=p4
 |0,S,_,h=>h
 |n+1,S,hS,h=>by
  have h':(tb m k (d+n) S||(aJ k).any λa=>tst (tb m k (d+n)) m a S)=p4:=h;rcases mq.mp h' with q|q
  ·exact b8Y w h5 qB n hS q
  ·obtain⟨a,ha,q⟩:=cI.mp q;have hk:=bR.mp ha;refine a9s qB ((Q3 h5).mpr hS) hk ?_;unfold tst at q ⊢;rw[ao]at q ⊢;exact⟨q.1,aY.mpr λs hs=>b8Y w h5 qB n (SetK.prt w hS hk hs) (aY.mp q.2 s hs)⟩
end
def tlT(m:l8)(k:Nat)(S:List Int):D:=if tb m k 140 S then gT m k 121 (S.zip S) else .none
theorem KB.zip(hS:SetK m S)(h:tb m k 140 S=p4):KB m k (S.zip S) S:=⟨hS,λs=>by rw[K6],by rw[K6];exact hS.1.imp λz=>by lia,h⟩
theorem a9C:∀S:List Int,(S.zip S).map prS=S.map λs=>.tuple [.int s,.int s]
 |[]=>rfl
 |s::S=>by rw[dZ,aA,aA,a9C S];rfl
abbrev c0W:EvS:=(i4 (j8 7 (eI (a0d (b7 2)))) (i4 (j8 8 (eCl H9 (b8 (b7 5) (b8 (b7 7) f6)))) (i4 (sIf (R6 (tB (e2 dNe (b7 5) (b7 1))) (tB (e2 dNe (b7 7) (b7 2)))) (m9 (eC (.bool rp))) n5) (i4 (sIf (tB (e2 (a0P p4 p4) (B3 (b7 2)) (b7 4))) (sIf (tB (e2 (J1 p4) (b7 8) (eC .none))) (m9 (eC (.bool rp))) n5) (i4 (j8 9 (eCl (m_law_due 121) (b8 (b7 1) (b8 (b7 3) (b8 (b7 4) (b8 (l0 (iI (iL (b7 2))) [] pt1 tT (B7 (b8 (b7 0) (b8 (b7 0) f6)))) f6)))))) (sIf (tNo (tV (eCl (m_law_alike 121) (b8 (b7 8) (b8 (b7 9) f6))))) (m9 (eC (.bool rp))) n5))) (sIf (tV (e1 (λd=>cz (.bool (w6 d))) (b7 8))) (C5 8 (.tp [.i,(.l .f)]) (pIx 8 (.tp [.i,(.l .f)]) p6 (eC (.int 1))) (B7 (b8 (b7 6) (b8 (b7 6) f6)))) n5)))))
def law_true(ns:List Int)(_:ns.length<=63):m_law [.list (ns.map .int)]=cz (.bool p4):=by
 obtain⟨m,k,hm,w,h7⟩:=a8C ns 7 7 7 (by lia) (by lia) (by lia) (by lia) (by lia);have uO:m_law_machine [.list (ns.map .int),.int 7,.int 7]=cz (.list (m.map rwD)):=hm;obtain⟨xs,vH,qV,sH⟩:=a3J ns 5 (by lia);have yG:m_law_cells [.list (ns.map .int),.int 5]=cz (.list (xs.map .int)):=vH;have ot:=w.pos;have sP:=w.k5;have vJ:=w.le;obtain⟨S,Eg,hS⟩:=b5Q (m:=m) w (c:=xs.getD 4 0*48271 % 1000000007) (dy _ (by decide));obtain⟨A,xB,hI⟩:=b3L w h7 hS;have lK:∀S∈A,∀a<k,∀P∈exS m S a,P∈A:=λS hS a ha P hP=>(hI.cl S hS a ha P hP).resolve_right λz=>nomatch z
 have pP:S∈A:=hI.s0.resolve_right λz=>nomatch z
 have rU:A.length<=127:=bL (a4N hI.nd λP hP=>(Q3 h7).mpr (hI.sl P hP)) (a5C m.length (by lia));obtain⟨D0,Bq,hF,Fx⟩:=b8S hI.nd hI.sl h7 rU lK sP;have hK:∀P∈A,(P∈Kf m k A D0↔tb m k 140 P=p4):=λP hP=>b8T hI.sl lK hF Fx hP
 generalize Kf m k A D0=K at hK Bq;obtain⟨d,rP,qB,hd⟩:=a3T w h7;have st:∀{S:List Int},SetK m S->∀e,d<=e->tb m k e S=tb m k d S:=λ{S} hS e he=>by
  cases q:tb m k d S with
  |true=>exact V5 q he
  |false=>
   cases q2:tb m k e S with
   |false=>rfl
   |true=>
    rw[show e=d+(e-d) by lia]at q2;rw[b8Y w h7 qB _ hS q2]at q;cases q
 have h4:tb m k 140 S=p4->lev m k S<=120:=λh=>by
  rw[st hS 140 (by lia)]at h;have:=a1D h (by lia);lia
 have DC:H9 [.list (m.map rwD),iD S]=cz (tlT m k S):=by
  rw[a8z (by lia) hS,a6Y w h7 (by lia) rP hS];unfold tlT;have:S∈kdS m k (sts m.length) d↔tb m k 140 S=p4:=by
   rw[p8,st hS 140 (by lia)];exact⟨λz=>z.2,λz=>⟨(Q3 h7).mpr hS,z⟩⟩
  by_cases c:tb m k 140 S=p4
  ·rw[aH (this.mpr c),aH c]
  ·rw[aM λz=>c (this.mp z),aM c]
 have jP:=SetK.len hS;have gK:dNe (.list (m.map rwD)) (.list (m.map rwD))=cz (.bool rp):=b3l (b3o m) (a8r m);have pB:dNe (iD S) (iD S)=cz (.bool rp):=b3l (lay_ints S) (bL (a0t S) (by decide));unfold m_law;rw[J6 (by simp[VS.argsOk])];unfold b_law;have Fc:L2.atI (xs.map aG) 4=cz (.int (xs.getD 4 0)):=b5M (j:=4) (by lia)
 repeat (first|rw[uO]|rw[yG]|rw[Fc]|rw[a0p (i:=xs.getD 4 0) (j:=48271) (by decide)]|rw[Eg]|rw[xB]|rw[Bq]|rw[b8z (m:=m) (by walk_at "ev") (by lia)]|walk_at "ev")
 have main:=B0 (n:=2) (set:=v4 6) (g:=c0W) (U:=(LV ns m k S A K [.none,.none,.none,.none]))
  (λ_ U=>∃x y z u,U=(LV ns m k S A K [x,y,z,u])) ⟨_,_,_,_,rfl⟩ (by
   rintro j hj U ⟨x,y,z,u,rfl⟩;have h1:j8 7 (eI (a0d (b7 2))) (LV ns m k S A K [.int j,y,z,u])=cz (.nx (LV ns m k S A K [.int j,iD S,z,u])):=by
    walk_at "ev";rw[b5v];walk_at "ev"
   have h2:j8 8 (eCl H9 (b8 (b7 5) (b8 (b7 7) f6))) (LV ns m k S A K [.int j,iD S,z,u])=cz (.nx (LV ns m k S A K [.int j,iD S,tlT m k S,u])):=by
    walk_at "ev";rw[DC];walk_at "ev"
   have h3:(sIf (R6 (tB (e2 dNe (b7 5) (b7 1))) (tB (e2 dNe (b7 7) (b7 2)))) (m9 (eC (.bool rp))) n5) (LV ns m k S A K [.int j,iD S,tlT m k S,u])=cz (.nx (LV ns m k S A K [.int j,iD S,tlT m k S,u])):=by
    walk_at "ev";rw[gK];walk_at "ev";rw[pB];walk_at "ev"
   have jy:tB (e2 (a0P p4 p4) (B3 (b7 2)) (b7 4)) (LV ns m k S A K [.int j,iD S,tlT m k S,u])=cz !decide (S∈K):=by
    rw[b7H,v_2,show B3 (b7 2) (LV ns m k S A K [.int j,iD S,tlT m k S,u])=cz (c9 S) by rw[a0u];exact O7];walk_at "ev";rw[b3x];cases decide (S∈K)<;>rfl
   have zU:∃z' u',i4 (sIf (tB (e2 (a0P p4 p4) (B3 (b7 2)) (b7 4))) (sIf (tB (e2 (J1 p4) (b7 8) (eC .none))) (m9 (eC (.bool rp))) n5) (i4 (j8 9 (eCl (m_law_due 121) (b8 (b7 1) (b8 (b7 3) (b8 (b7 4) (b8 (l0 (iI (iL (b7 2))) [] pt1 tT (B7 (b8 (b7 0) (b8 (b7 0) f6)))) f6)))))) (sIf (tNo (tV (eCl (m_law_alike 121) (b8 (b7 8) (b8 (b7 9) f6))))) (m9 (eC (.bool rp))) n5))) (sIf (tV (e1 (λd=>cz (.bool (w6 d))) (b7 8))) (C5 8 (.tp [.i,(.l .f)]) (pIx 8 (.tp [.i,(.l .f)]) p6 (eC (.int 1))) (B7 (b8 (b7 6) (b8 (b7 6) f6)))) n5) (LV ns m k S A K [.int j,iD S,tlT m k S,u])=cz (.nx (LV ns m k S A K [.int j,iD S,z',u'])):=by
    cases q:tb m k 140 S with
    |false=>
     have hT:tlT m k S=.none:=aM (by rw[q];exact aW);have vT:S∉K:=λz=>by rw[(hK S pP).mp z]at q;cases q
     refine⟨.none,u,?_⟩;rw[A0,a2P,jy,aV vT,hT]
     try walk_at "ev"
     rfl
    |true=>
     have hb:=KB.zip hS q;have hl:=h4 q;have hT:tlT m k S=gT m k 121 (S.zip S):=aH q;have uh:=b8U w h7 hK lK hb pP 121 (by lia);unfold LU at uh;rw[a9C]at uh;have pN:=b3N w hb 121 121 (by lia) (by lia);have s1:(sIf (tNo (tV (eCl (m_law_alike 121) (b8 (b7 8) (b8 (b7 9) f6))))) (m9 (eC (.bool rp))) n5) (LV ns m k S A K [.int j,iD S,tlT m k S,gT m k 121 (S.zip S)])=cz (.nx (LV ns m k S A K [.int j,iD S,tlT m k S,gT m k 121 (S.zip S)])):=by
      rw[hT];walk_at "ev";rw[pN];walk_at "ev"
     have s0:j8 9 (eCl (m_law_due 121) (b8 (b7 1) (b8 (b7 3) (b8 (b7 4) (b8 (l0 (iI (iL (b7 2))) [] pt1 tT (B7 (b8 (b7 0) (b8 (b7 0) f6)))) f6))))) (LV ns m k S A K [.int j,iD S,tlT m k S,u])=cz (.nx (LV ns m k S A K [.int j,iD S,tlT m k S,gT m k 121 (S.zip S)])):=by
      walk_at "ev";rw[F8 (enc:=aG) (xs:=S) (λs=>fm [.int s,.int s]) (V7 (by rfl) (w8 _)) (by lia) λs _=>⟨_,rfl,rfl⟩];walk_at "ev";rw[uh];walk_at "ev"
     have key:∃z,(sIf (tV (e1 (λd=>cz (.bool (w6 d))) (b7 8))) (C5 8 (.tp [.i,(.l .f)]) (pIx 8 (.tp [.i,(.l .f)]) p6 (eC (.int 1))) (B7 (b8 (b7 6) (b8 (b7 6) f6)))) n5) (LV ns m k S A K [.int j,iD S,tlT m k S,gT m k 121 (S.zip S)])=cz (.nx (LV ns m k S A K [.int j,iD S,z,gT m k 121 (S.zip S)])):=by
      rw[hT];by_cases c:S.length=1
      ·match S,c with
       |[s],_=>exact⟨_,rfl⟩
      ·obtain⟨e,a,he,ha,jX⟩:=a9v q (by lia) c;rw[Z9 hb c jX];have Fb:=a0y (m:=m) (a:=a) (B:=S.zip S);have GJ:(S.zip S).length<=S.length:=by rw[dG];lia
       refine⟨.tuple [.int (a:Nat),.list (((srt (anL m a (S.zip S))).map λx=>.tuple [.int x,gT m k 120 (gp m a (S.zip S) x)])++[.tuple [.int j,.int j]])],?_⟩;walk_at "ev";rw[b8X (t:=.int (a:Nat)) (bs:=(srt (anL m a (S.zip S))).map λx=>.tuple [.int x,gT m k 120 (gp m a (S.zip S) x)]) rfl rfl (by rw[ah,(l9 _).length_eq];lia)];rfl
     obtain⟨z,key⟩:=key;refine⟨z,gT m k 121 (S.zip S),?_⟩;rw[A0,a2P,jy,aI ((hK S pP).mpr q)];show thn (i4 (j8 9 _) (sIf (tNo (tV (eCl (m_law_alike 121) (b8 (b7 8) (b8 (b7 9) f6))))) (m9 (eC (.bool rp))) n5) (LV ns m k S A K [.int j,iD S,tlT m k S,u])) _=_;rw[A0,s0,v8,s1,v8];exact key
   obtain⟨z',u',zU⟩:=zU;refine⟨(LV ns m k S A K [.int j,y,z,u]),(LV ns m k S A K [.int j,iD S,z',u']),rfl,?_,_,_,z',u',rfl⟩;unfold c0W;rw[A0,h1,v8,A0,h2,v8,A0,h3,v8];exact zU)
 obtain⟨U',g1,x,y,z,u,rfl⟩:=main;rw[a2R (n:=2) (by walk_at "ev") (by lia) (by lia)];walk_at "ev";have g1:L6 (v4 6) (i4 (j8 7 (eI (a0d (b7 2)))) (i4 (j8 8 (eCl H9 (b8 (b7 5) (b8 (b7 7) f6)))) (i4 (sIf (R6 (tB (e2 dNe (b7 5) (b7 1))) (tB (e2 dNe (b7 7) (b7 2)))) (m9 (eC (.bool rp))) n5) (i4 (sIf (tB (e2 (a0P p4 p4) (B3 (b7 2)) (b7 4))) (sIf (tB (e2 (J1 p4) (b7 8) (eC .none))) (m9 (eC (.bool rp))) n5) (i4 (j8 9 (eCl (m_law_due 121) (b8 (b7 1) (b8 (b7 3) (b8 (b7 4) (b8 (l0 (iI (iL (b7 2))) [] pt1 tT (B7 (b8 (b7 0) (b8 (b7 0) f6)))) f6)))))) (sIf (tNo (tV (eCl (m_law_alike 121) (b8 (b7 8) (b8 (b7 9) f6))))) (m9 (eC (.bool rp))) n5))) (sIf (tV (e1 (λd=>cz (.bool (w6 d))) (b7 8))) (C5 8 (.tp [.i,(.l .f)]) (pIx 8 (.tp [.i,(.l .f)]) p6 (eC (.int 1))) (B7 (b8 (b7 6) (b8 (b7 6) f6)))) n5))))) (G5 0 2) (LV ns m k S A K [.none,.none,.none,.none])=_:=g1;rw[show (2:Int).toNat=2 from rfl,g1];walk_at "ev"
def b8Z{l:pF}{w:bQ}{K:af}{mg:bI->Option aj}{fa:aw}(zB:mg "law"=cz (.ref fa))(b:Bn K mg)(l_:(E2 K "least_asks").isSome=p4)
  : ∃fd:dE,(∀(s:av) (v:aj),og s fd ⟨[v],[]⟩ [("_law_script",v)])/\∀base:bU,K.In base->base.Ns bP mg->FnOk l.prog w K mg base CX0 126 fa fd ["_law_script"] (spD K 1 m_law .i):=b8m zB b.d30 λbase KB GB fd F=>by
 have B:Bk l.prog w K mg base:=⟨b⟩;have iV:=ok_law_cell_at B;have fS:=ok_law_cells B iV.u;have ji:=ok_law_copied B;have jj:=ok_law_answer B;have iU:=ok_law_machine B fS.u ji.u jj.u;have kJ:=ok_law_set B;have kK:=ok_law_led B;have jH:=ok_law_moves B kK.u;have fK:=ok_law_deepest B;have ka:=ok_law_deep B fK.u;have gy:=a0v B;have ie:=a1x B;have kc:=a6K B;have ke:=a6L B kc.u;have lQ:=b0V B ie.u ke.u;have j_:=a6O B lQ.u;have kI:=a8s B;have lh:=a1y B;have fX:=a0Y B;have gz:=a0w B fX.u;have kL:=a8t B;have gh:=a5u B;have iS:=a3u B kL.u gh.u;have jh:=a3R B kI.u gz.u iS.u lh.u l_ KB GB;have kr:=b3r B gh.u 121;have iQ:=a3v B jh.u kr.u;have kH:=a8u B gy.u j_.u iQ.u;have jb:=ok_law_due B fK.u 121;have gW:=ok_law_whole B;have gX:=ok_law_alike B gW.u 121;exact ok_law B fS.u iU.u kJ.u jH.u ka.u kH.u jb.u gX.u F
end Prog
namespace PySem.W.Fast
def tw11570584592378698481:=0
def tw12165188478981214956:=0
def tw9035960507743197383:=0
def tw326691203077760395:=0
def tw11552800115488999499:=0
def tw2823900614739294866:=0
def tw3585619883841350628:=0
def tw5256992239562572918:=0
def tw6603161177824012595:=0
def tw4331411489530327498:=0
def tw1633177631747885793:=0
def tw834769529143291993:=0
def tw10934511951900206024:=0
def tw664154341834548232:=0
def tw5537147785528972486:=0
def tw9904958391742990540:=0
def tw17033304496959629243:=0
def tw12986706783606596364:=0
def tw14622718650354405466:=0
def tw8839182478039557104:=0
def tw17906374589408528119:=0
def tw17322596545664397469:=0
def tw18076522156347293918:=0
def tw10807221488790690210:=0
def tw4908493141308887469:=0
def tw8006744630230820482:=0
def tw5379338215559618120:=0
def tw8244219523514201537:=0
def tw1145025708525494946:=0
def tw1376545820752634278:=0
end PySem.W.Fast
end
open PySem PySem.W PyProof.Rows
set_option maxRecDepth 100000 in
set_option maxHeartbeats 0 in
theorem PySem.Challenge.cw_probewell_k48_trees_to_the_letter_holds : PySem.Challenge.rw_probewell_k48_trees_to_the_letter.Holds := by
 w_on;o_law;k_head;(case hw=>w_witness2)
 k_fill
 refine VS.b0b (k:=126) (x:="_law_script") (m:=Prog.m_law) (l:=PySem.Challenge.rw_probewell_k48_trees_to_the_letter) rfl rfl ⟨rfl,by decide,by decide⟩ (fun w h xn=>by first|exact PySem.W.kIn_of xn|exact PySem.W.km_in_of xn) (fun w=>by kernel_rfl) ?F Prog.law_true
 case F=>
  intro w mg fa h KX G hmg
  refine' Prog.b8Z hmg ?b ?_
  case b=>
   constructor
   iterate 31 (refine' VS.c0g KX G ?a ?l ?c ?k;(case a=>k_is);(case l=>k_is);(case c=>k_is);(case k=>k_is))
   iterate 14 (refine' PySem.W.mg_none_of KX G ?_;k_is)
   iterate 1 (refine' VS.c1M KX G ?a;(case a=>k_is))
  kernel_rfl
