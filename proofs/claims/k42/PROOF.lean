import PyProof.Rows.All
import Wide.All
import OpenK.AllK
import PySem.Challenge.RW_probewell_k42_where_one_began
set_option Elab.async false
set_option linter.all false
set_option maxRecDepth 100000
set_option compiler.extract_closed false
set_option bootstrap.genMatcherCode false
noncomputable section
open Option renaming some->cz,none->el
open Bool renaming true->fx,false->p4
open PySem renaming wpAny_bind->ae,wpAny_pure->ag,Value->ai,Shared->aj,starEach->ak,Addr->aw,wpAny->az,model->aO,sizeLine->aQ,mainGlobals->ba,PyData->be,Program->br,Str->bt,Around->bB,wpAny_call_entry->bF,wpAny_holding->bJ,World->bK,Heap->bL,wpAny_callSpecial?_slot->bM,compareOp->bO,mem_of_lookup->bW,eval->bX,backTo->bY,wpAny_dictEntries->cD,sizeLine_eq->cE,wpAny_mono->cK,wpAny_field->cQ,sysModules->cS,cLine->cU,intKind->cW,rawInt->c_,wpAny_truthy_bool->df,wpAny_newObj_type->dg,wpAny_specialOf->dC,codeAny_builtin->dD,attributeBase->dE,FuncData->dJ,wpAny_seqItems->dO,behindInMarks->dP,wpAny_Call_Name_kw->dX,wpAny_rule->ef,wpAny_ite_split->er,Pos->eA,wpAny_setField->eE,binaryOp->eF,foldedSetIterable->eO,DictEntry->eQ,Paired->eU,codeAny_mono->ff,bootBuiltins->fg,Obj->fm,wpAny_attempt->fu,plainId_quiet->fw,wpAny_isInstance->fB,wpAny_setField_rec->fI,pyNext->fJ,wpAny_notOrdered_dict->fL,swapsWith->fP,Stmt->fS,wpAny_typeNameOfWhole_keyiter->gq,Scope->gy,codeAny->gA,assignEach->gB,wpAny_passesOwn->gD,SetTable->gI,builtinLookup_eq_fast->gR,wpAny_setState_of->gX,wpAny_typeOf->ij,wpAny_setEntries_of->ix,wpAny_typeNameOf_keyiter->iz,wpAny_Call_method0_late->iG,wpAny_fieldsOf->iV,firstArgMember->iW,NameKind->iX,Keyword->iZ,evalArgs_none->jk,scanBound->jq,IsPair->jA,sliceBounds->jC,ReadsAll->jH,wpAny_updateSeq->jQ,wpAny_execs_nil->jR,wpAny_dictEpoch->jS,typeLookup_type->jT,hashInt->kc,TriplesOk->ku,PassesOwn->kz,getattributeRaised->kC,builtinsNs->kF,wpAny_pyIter_list->lh,keywordEach->lj,fits_of_scanBound->lx,dictSetHashed->lI,pickOrder->lU,codeAmong->l_,Walks->me,Arguments->mi,wpAny_load->mn,wpAny_call->mo,typeLookup->mq,relabel->mr,assign->mC,letOwnedTupleGo->mJ,wpAny_updateDictKeys->nv,wpAny_runValue->ny,wpAny_letGo->nz,relayAll->nE,isSubtype_type->nH,getAttr?->nM,codeAny_call_builtin->nN,Env->n_,holding->om,callerA->ou,BindsTo->ox,swapsWithSole->oU,swappedStores->oV,field->pw,IsZip->pE,pyIter->pF,intKind_is->pJ,closureFor->pQ,wpAny_pyIter_slot->qw,getItem->qY,bindArgs->q_,backToKw->rd,wpAny_askSetting->rN,updateSeq->rO,noFill_tuple_add->rT,isTrue->rW,checkBuiltinCall->sE,wpAny_of_eq->sO,unsupported->sQ,subscripted->sR,wpAny_ret_mkInt->tS,setNext->uS,wpAny_newTuple->vy,truthy->vA,slotArgs->vF,isSubtype_stop->vZ,isInstance->v_,entryFor_alias->xF,entryFor->xG,dictSetDefault->xH,call_meets->xN,callType_codes->xO,Result->xP,wpAny_pendingCount_other->yK,wpAny_onRaise->yL,wpAny_handled->yM,wpAny_comprehension_free->yN,seq_tuple_add->yQ,call->AI,wpAny_callSpecial?_none->AU,seqItems?->AY,lastMarks->Bm,bindL->CT,bindC->CU,wpAny_pyNext_list_item->Dt,wpAny_Call_method_late->Du,newExc->Ec,dictSet->GW,dictGet->GX,concat_meets->GY,call_meetsIn->Hb,wpAny_pyNext_list_end->Hu,wpAny_isTrue_Compare1->Hv,wpAny_isOneOf_keyiter->Hw
open PySem.W renaming Frag->af,nsIn->bN,kia_one->cF,kitOne->dh,kla_obj->eD,keepIn->eY,findIn->fT,fnOf->gc,hideAll->gi,mg_of->gj,CodeHd->gK,envX->jy,codeIn->mf,callWith_K->nc,methodObj->nT,kitx_list->nU,kitx_dict->nV,instObj->pR,OpenLaw->pS,lookIn->ri,excIn->sG,cellsFrom_some->uJ,hideAll_get->yE,of_hideAll->AJ,kitx_tuple->AK,specialIn->CY,kitx_none->CZ,plainGet->Hg,kia_tup->Iw
open PySem.Heap renaming get?_push_of_some->ah,lt_size->aB,get?_push_size->aF,get?_update_self->bR,SameBut->cB,size_push->cL,get?_update_other->dH,FlyingW->ko,ExtBut->tO
open List renaming length_map->ao,mem_singleton->aq,mem_cons_self->ar,mem_cons_of_mem->au,mem_append_right->ax,getElem?_eq_getElem->ay,map_cons->aA,mem_append->aC,mem_cons->aD,replicate->aL,mem_append_left->aM,getElem?_eq_some_iff->aP,mem_map->aR,range->aV,getD_eq_getElem?_getD->aW,getElem?_map->aY,map_append->aZ,nodup_nil->bg,length_append->bh,all_eq_true->bj,nodup_append->bo,count_append->bp,length_cons->bu,append_assoc->bw,mem_of_getElem?->bx,mem_filter->bz,cons_append->bA,size_toArray->bC,nodup_cons->bD,mem_map_of_mem->bE,map_map->bG,append_nil->bH,mem_iff_getElem?->bU,nil_append->cj,any_eq_false->cA,mem_range->cC,nodup_iff_count->cJ,map_congr_left->cM,not_mem_nil->cO,getElem_mem->dc,map_nil->de,count_pos_iff->dm,count_cons->dt,any_eq_true->dA,mem_filterMap->dM,count_eq_zero->dN,length_eq_zero_iff->dR,getElem?_set_ne->dS,length_zip->d_,getElem?_eq_none->eh,zip_cons_cons->ei,length_range->eB,getElem?_set_self->eL,getElem?_append_right->eZ,length_filter_le->e_,drop_eq_getElem_cons->fE,find?_cons->fG,lookup_cons->fV,filter_cons_of_pos->fW,filter_cons_of_neg->fX,find?_eq_none->gd,filter_append->gf,length_replicate->gn,mem_iff_getElem->gM,length->gN,count_cons_self->gO,length_take->gU,getElem_map->gW,getElem?_append_left->gY,replicate_zero->hJ,filterMap_cons->hX,pairwise_singleton->iw,pairwise_append->iY,of_mem_zip->jf,forIn_cons->jg,replicate_succ->jl,getElem?_range->jm,map_id'->jz,set_cons_succ->jI,perm_ext_iff_of_nodup->jJ,pairwise_cons->jK,forIn_nil->jL,getElem?_zip_eq_some->jV,exists_mem_of_ne_nil->jW,find?_range_eq_some->km,any_cons->kn,mem_reverse->kI,length_drop->kJ,drop_length->kK,pairwise_lt_range->k_,set_comm->mQ,set_cons_zero->nh,reverse_cons->nX,pairwise_map->nY,ext_getElem?->nZ,take_length->oP,map_fst_zip->oQ,length_nil->pW,mem_of_find?_eq_some->rM,getElem?_replicate->tN,set_set->uK,length_pos_of_mem->uL,filter_eq_nil_iff->uM,length_singleton->vk,getElem?_toArray->vm,getElem?_reverse->vn,contains_iff_mem->vo,length_eraseIdx->xS,length_reverse->yF,zip_nil_left->C_,getElem_take->Dc,find?_isSome->Dd,filter_congr->De,zipIdx_cons->Hj,range'_succ->Hk,map_reverse->Hl,getElem_zip->Hm,filter_cons->Ho,zip_append->IA,zipIdx_nil->IB,foldl_cons->IC,find?_some->ID,filter_nil->IE
open Bool renaming and_eq_true->av,false_ne_true->bc,false_eq_true->cV,eq_iff_iff->fH,and_true->fN,and_self->gk,or_eq_true->ig,beq_eq_decide_eq->iK,true_and->iU,not_eq_true'->jZ,not_true->kq,false_or->sN
open Nat renaming le_refl->aG,ne_of_lt->a_,lt_of_lt_of_le->bb,le_trans->cx,zero_le->cI,lt_irrefl->cR,ne_of_gt->dz,le_of_lt->dZ,lt_trans->fK,lt_succ_of_lt->gz,le_succ->gL,lt_or_ge->gS,lt_of_le_of_lt->ip,lt_succ_self->iT,min_self->kZ,add_assoc->mP,le_add_right->oO,min_le_left->pU,min_eq_left->pV,le_of_ble_eq_true->vh,strongRecOn->Iz
open PySem.PyData renaming eqv->aH,int->aI,canLayAll0->aU,canLay0->cf,depthAll->cu,eqvAll->cX,bool->cY,depth->dG,list->ia,none->iJ,tuple->kl
open Option.some renaming inj->aK,injEq->nW
open PySem.Value renaming ref->aS,none->bZ,type->dB,bool->jx,isInt->jF,int->md,builtin->pB,isInt_shape->rg,str->sF
open Int renaming toNat_natCast->bI,emod_nonneg->du,emod_lt_of_pos->ej,toNat_of_nonneg->jn,natCast_mul->ly,natCast_add->pX
open Array renaming getElem?_eq_getElem->bP,getElem?_toList->cg,length_toList->cN,mem_toList_iff->dU,getElem?_eq_none->eM,getD_eq_getD_getElem?->eN,toArray_toList->gP,forIn_toList->ni,append_assoc->AR,toList_push->Dk
open PySem.Heap.SameBut renaming update->bQ
open Option renaming bind_some->bS,map_eq_some_iff->dw,isSome_iff_exists->dI,bind_eq_some_iff->tM,getD_none->Hi,map_some->Iy
open PySem.Builtin.SmallTypes renaming ownedTupleIsFree->bV,nextOf->cw,ownedTupleHandOut->oS
open PySem.PassesOwn renaming never->b_
open PySem.Str renaming ofString->cm
open False renaming elim->cy
open PySem.Around renaming under_plainId->cZ
open PySem.Builtin.List renaming listExtendWith->dq,listLengthHint->gZ,listSameRef->iE,listItems->Ht
open Ne renaming symm->dy
open PySem.Paired renaming length->dF
open PyProof.Rows renaming step_dedup->dQ,callWith_type1->dW,envOfC->ji,AllBare->jP,firstMet->lM,entry_proto_collect'->nu,entry_list_iadd'->pD,sortedHeap_old->qo,list_sort_tree->qu,sortedHeap_at->rl,SortKind->rH,seqObj->uT,IntsAre->xQ
open ForInStep renaming yield->ee
open PySem.Builtin.Tuple renaming tupleHashOf->et
open PySem.SetTable renaming below->eJ,grown->hZ
open Or renaming inl->eK,inr->fU
open PySem.Builtin.Dict renaming updateFrom->eR,mergeDict->i_,showsAll->jo,selfAndRest->lP,entriesForEmpty->uP,readDirectly->yH,pendingCount->yI,addKeywords->AQ
open PySem.F renaming slot_dict_keyiterator_next->eV,slot_dict_values->h_,slot_tuple_iterator_next->ie,called_set->iq,plain_list_iadd->ir,plainAttrs_dict->iu,slot_dict_len->iF,args_tuple_add_2->kj,entry_tuple_add->kH,slot_tuple_add->kX,slot_tuple_hash->lA,slot_list_getattribute->lN,slot_zip_getattribute->mh,slot_zip_next->mR,plain_proto_collect->qm,args_dict_values_1->rj,slot_list_reverse->rJ,plain_extend_loop->rK,entry_dict_values->rL,type_dict_values->sH,slot_dict_update->sI,slot_dict_iter->sL,args_dict_keyiterator_next_1->sM,slot_dict_items->tJ,plainAttrs_list->tK,attr_ValueError->tL,entry_dict_keyiterator_next->tP,args_tuple_iterator_next_1->uN,entry_tuple_iterator_next->vq,typeOf_object_class->IG
open PySem.Calls renaming callWith_builtin->fq,evalArgs_plain->jM,call_function_entry->lg,Name_function_global->xU
open PySem.NameKind renaming free->fA
open PySem.Obj renaming data_mapFields->gC,mapSeq->ib,data_mapDictKeys->ic,isFreed_of_dict->iy,isFreed_of_fields->ng,cls_mapFields->ro,data_mapDict->sJ,putSet->xR,mapFields->AL
open PyProof.Rows.F renaming plain_set_update_loop->g_,entry_set_update_loop->mD
open List.Perm renaming refl->iB,append_left->vp
open List.Pairwise renaming nil->iC,of_map->xT,map->Dg
open PySem.Shared renaming TypeIs->jB
open True renaming intro->jG
open PUnit renaming unit->kY
open Sum renaming inr->nR,inl->nS
open PySem.SeqAt.ReadsAll renaming length->pC
open PySem.SetTable.below renaming go->rh
open PySem.Builtin.Dict_items renaming ownsTuple->uO
open List.Sublist renaming refl->Df
open PySem.Builtin.Range renaming rangeSize->Dj
open PySem.pickOrder renaming go->DU
open PySem.W.Looks renaming ld->Hh
open List.cons renaming injEq->IF
def aE:=@decide_eq_true
def aJ:=@if_pos
def aN:=@if_neg
def aT:=@decide_eq_false
def aX:=@of_decide_eq_true
def cG:=@decide_eq_true_eq
def dY:=@congrArg
def eH:=@beq_eq_false_iff_ne
def eS:=@beq_self_eq_true
def fM:=@beq_iff_eq
def fQ:=@if_false
def jr:=@if_true
def ZZ(h:True:=by first|exact .inl rfl|exact .inr rfl|assumption):True:=h
def ZY(h:True:=by first|exact⟨.inl rfl,by decide,by decide⟩|exact⟨.inr (.inl rfl),by decide,by decide⟩|exact⟨.inr (.inr rfl),by decide,by decide⟩):True:=h
def ZX(h:True:=by first|exact a1g _|with_unfolding_all rfl):True:=h
def ZW(h:True:=by first|exact eK rfl|exact fU rfl):True:=h
def ZV(h:True:=by first|exact .inl rfl|exact .inr rfl):True:=h
def ZU(h:True:=by first|exact eK rfl|exact fU (eK rfl)|exact fU (fU rfl)):True:=h
open PySem
namespace L2
open PySem.Spec PyProof.Rows
abbrev Key:=Sum Int bt
def b6W:Key->ai->Bool
  |.inl k,v=>jF k v
  |.inr x,v=>ai.isStrOf x v
def c2a(w:bK):Key->Int
  |.inl k=>kc k
  |.inr x=>hashStr w x
def w8:∀{k:Key} {v:ai},b6W k v=fx->(∃i t,k=nS i/\v=md i t)\/(∃x t,k=nR x/\v=sF x t)
  |.inl i,v,h=>by
    obtain⟨t,e⟩:=rg (k:=i) (v:=v) h;exact .inl ⟨i,t,rfl,e⟩
  |.inr x,v,h=>by
    obtain⟨t,e⟩:=ai.isStrOf_shape (x:=x) (v:=v) h;exact .inr ⟨x,t,rfl,e⟩
def b7F(a b:Int):decide ((nS a:Key)=nS b)=(a==b):=by
  by_cases e:a=b
  . subst e;simp
  . have h:¬ (nS a:Key)=nS b:=λq=>e (nS.inj q)
    rw[aT h];exact (eH.mpr e).symm
def b7G(a b:bt):decide ((nR a:Key)=nR b)=decide (a=b):=by
  by_cases e:a=b
  . subst e;simp
  . have h:¬ (nR a:Key)=nR b:=λq=>e (nR.inj q)
    rw[aT h,aT e]
def b7H(a:Int)(b:bt):decide ((nS a:Key)=nR b)=p4:=aT (λq=>nomatch q)
def b7I(a:bt)(b:Int):decide ((nR a:Key)=nS b)=p4:=aT (λq=>nomatch q)
def a5e(prog:br)(w:bK):PySem.KeyKind prog w Key where
  is:=b6W
  hash:=c2a w
  inj:=λv a b ha hb=>by
    rcases w8 ha with⟨i,t,rfl,rfl⟩|⟨x,t,rfl,rfl⟩
    . rcases w8 hb with⟨j,u,rfl,e⟩|⟨y,u,rfl,e⟩
      . injection e with e1 _;rw[e1]
      . exact nomatch e
    . rcases w8 hb with⟨j,u,rfl,e⟩|⟨y,u,rfl,e⟩
      . exact nomatch e
      . injection e with e1 _;rw[e1]
  byValue:=λk v h=>by
    rcases w8 h with⟨i,t,rfl,rfl⟩|⟨x,t,rfl,rfl⟩<;>rfl
  pyHash:=λhv h=>by
    rcases w8 hv with⟨i,t,rfl,rfl⟩|⟨x,t,rfl,rfl⟩
    . exact wpAny_pyHash_int h
    . exact wpAny_pyHash_str h
  eqBool:=λhu hv h=>by
    rcases w8 hu with⟨i,t,rfl,rfl⟩|⟨x,t,rfl,rfl⟩
    . rcases w8 hv with⟨j,u,rfl,rfl⟩|⟨y,u,rfl,rfl⟩
      . rw[b7F]at h;exact wpAny_eqBool_int h
      . rw[b7H]at h;exact SeqAt.EqAt.int_str i t y u _ _ _ _ h
    . rcases w8 hv with⟨j,u,rfl,rfl⟩|⟨y,u,rfl,rfl⟩
      . rw[b7I]at h;exact SeqAt.EqAt.str_int x t j u _ _ _ _ h
      . rw[b7G]at h;exact wpAny_eqBool_str h
  «strs»:=λk x t v h=>by
    rcases w8 h with⟨i,u,rfl,e⟩|⟨y,u,rfl,e⟩
    . exact nomatch e
    . injection e with e1 _
      subst e1;cases v<;>rfl
inductive V where
  |non|bl (b:Bool)|int (i:Int)|str (x:bt)|byt (b:Array UInt8)|flt (b:UInt64)|ref (a:aw)|ty (n:String)
  deriving DecidableEq
def RelV:V->ai->Prop
  |.non,u=>u=bZ
  |.bl b,u=>u=jx b
  |.int i,u=>∃t,u=md i t
  |.str x,u=>∃t,u=sF x t
  |.byt b,u=>∃t,u=ai.bytes b t
  |.flt b,u=>∃t,u=ai.float b t
  |.ref a,u=>u=aS a
  |.ty n,u=>u=dB n
abbrev Vals:List V->List ai->Prop:=eU RelV
theorem Vals.length{xs:List V}{us:List ai}(r:Vals xs us):xs.length=us.length:=dF r
theorem Vals.get:∀{xs:List V} {us:List ai} {i:Nat} {x:V},Vals xs us->xs[i]?=cz x->∃u,us[i]?=cz u/\RelV x u
  |_,_,_,_,.nil,e=>by simp at e
  |_,_,0,_,.cons r _,e=>by simp at e;subst e;exact⟨_,rfl,r⟩
  |_,_,i+1,x,.cons _ t,e=>by
    obtain⟨u,h1,h2⟩:=Vals.get (i:=i) (x:=x) t (by simpa using e);exact⟨u,by simpa using h1,h2⟩
theorem Vals.append:∀{xs ys:List V} {us ws:List ai},Vals xs us->Vals ys ws->Vals (xs++ys) (us++ws)
  |_,_,_,_,.nil,s=>s
  |_,_,_,_,.cons r t,s=>.cons r (Vals.append t s)
theorem Vals.take:∀{xs:List V} {us:List ai} (n:Nat),Vals xs us->Vals (xs.take n) (us.take n)
  |_,_,0,_=>.nil
  |_,_,_+1,.nil=>.nil
  |_,_,n+1,.cons r t=>.cons r (Vals.take n t)
theorem Vals.drop:∀{xs:List V} {us:List ai} (n:Nat),Vals xs us->Vals (xs.drop n) (us.drop n)
  |_,_,0,r=>r
  |_,_,_+1,.nil=>.nil
  |_,_,n+1,.cons _ t=>Vals.drop n t
def b7J:Option V->Option ai->Prop
  |some v,cz u=>RelV v u
  |none,el=>True
  |_,_=>False
def KV{κ:Type}:List (κ×V)->List (κ×ai)->Prop:=eU λ(p:κ×V) (q:κ×ai)=>p.1=q.1/\RelV p.2 q.2
def kV:Key->V
  |.inl i=>.int i
  |.inr x=>.str x
inductive HO where
  |lst (xs:List V)
  |tup (xs:List V)
  |dK (kvs:List (Key×V))|dT (kvs:List (List Key×V))
  |set (S:Int->Bool) (n:Nat)
  |ins (C dx:aw) (fs:List (bt×V))
  |own (x:aw)
  |xd (fs:List (bt×V))
  |met (f x:aw)
  |rng (lo hi:Int)
  |frz (o:fm) (u:HO)
  |tbl (ps:Array ai)
  |ext (φ:bL->Prop)
abbrev Hp:=aw->Option HO
def upd(H:Hp)(a:aw)(o:HO):Hp:=λb=>if b=a then cz o else H b
def i7{H:Hp}{a:aw}{o:HO}:upd H a o a=cz o:=by unfold upd;rw[aJ rfl]
def f8{H:Hp}{a b:aw}{o:HO}(h:b≠a):upd H a o b=H b:=by unfold upd;rw[aN h]
def b4T:upd (upd H a o) a u=upd H a u:=by
  funext b;unfold upd;split<;>rfl
def n9{H:Hp}{a b:aw}{o:HO}(h:H a=cz o)(h':H b=el):a≠b:=by
  intro e;subst e;rw[h]at h';cases h'
def Pin(a:aw):HO->Prop
  |.tup _=>True
  |.frz _ (.own b)=>b=a
  |_=>False
abbrev c0i(a:aw):={u:HO // Pin a u}
def a4c(H:Hp)(h:bL)(a:aw)(qs:Array ai):Prop:=
  ∃ps:Array ai,h.get? a=cz {cls:=.none,data:=.fields ps}/\ku ps.toList/\∀(pos:eA) (cv:ai),l_ pos ps.toList=cz cv->
    ∃c' oc vs q t t',cv=.ref c'/\H c'=cz (.frz oc (.own a))/\oc.data=.fields vs/\vs[1]?=cz (.str q t)/\qs[0]?=cz (.str q t')
section
variable (P:br)(w:bK)
def ObjOk(H:Hp)(h:bL)(a:aw):HO->Prop
  |.lst xs=>xs.length<=aQ/\∃(cP:List ai) (n:Nat),Vals xs cP/\h.get? a=cz {cls:=.type "list",data:=.seq cP.toArray n}
  |.tup xs=>xs.length<=aQ/\∃cP:List ai,Vals xs cP/\IsTup h a cP.toArray
  |.dK kvs=>kvs.length<=aQ/\(a==cS)=p4/\∃vs,KV kvs vs/\h.DictOf (a5e P w) a vs
  |.dT kvs=>kvs.length<=aQ/\(a==cS)=p4/\∃xs:List (List Key×aw×ai),
      eU (λ(p:List Key×V) (q:List Key×aw×ai)=>p.1=q.1/\H q.2.1=cz (.tup (p.1.map kV))/\RelV p.2 q.2.2) kvs xs/\
      ∃o es ep,h.get? a=cz o/\o.ExactDict/\o.data=.dict es ep/\es.toList=xs.map (entryOfKey (tupleKind (a5e P w)))/\(xs.map (·.1)).Nodup
  |.set S n=>h.SetOf (cW P w) a S n
  |.ins C dx fs=>H dx=cz (.own a)/\fs.length<=1000/\dx≠a/\h.get? a=cz (pR C dx)/\
      ∃mA,h.Ns1 dx mA/\(∀f,b7J (fs.lookup f) (mA f))/\PySem.Within mA (fs.map (·.1))
  |.own _=>∃o,h.get? a=cz o
  |.xd fs=>∃mA,h.Ns1 a mA/\∀f,b7J (fs.lookup f) (mA f)
  |.rng lo hi=>∃t u v,h.get? a=cz {cls:=.type "range",data:=.fields #[.int lo t,.int hi u,.int 1 v]}
  |.frz o u=>h.get? a=cz o/\ObjOk H h a u
  |.tbl ps=>a4c H h a ps
  |.met f x=>h.get? a=cz (nT (.ref f) (.ref x))
  |.ext φ=>φ h/\(∃o,h.get? a=cz o)/\∀h1 h2:bL,φ h1->(∀o,h1.get? a=cz o->h2.get? a=cz o)->φ h2
def HOk(H:Hp)(h:bL):Prop:=∀a o,H a=cz o->ObjOk P w H h a o
end
section
variable {P:br}{w:bK}{H H':Hp}{h h':bL}{a:aw}{o:HO}
theorem ObjOk.lt(x:ObjOk P w H h a o):a<h.objs.size:=by
  cases o with
  |lst xs=>obtain⟨_,_,_,_,e⟩:=x;exact aB e
  |tup xs=>obtain⟨_,_,_,p⟩:=x;exact p.lt
  |dK kvs=>obtain⟨_,_,_,_,o,_,_,e,_⟩:=x;exact aB e
  |dT kvs=>obtain⟨_,_,_,_,o,_,_,e,_⟩:=x;exact aB e
  |set S n=>obtain⟨o,_,_,_,e,_⟩:=x;exact aB e
  |ins C dx fs=>obtain⟨_,_,_,e,_⟩:=x;exact aB e
  |own y=>obtain⟨_,e⟩:=x;exact aB e
  |xd fs=>obtain⟨_,⟨_,_,_,e,_⟩,_⟩:=x;exact aB e
  |rng lo hi=>obtain⟨_,_,_,e⟩:=x;exact aB e
  |frz ob u=>obtain⟨e,_⟩:=x;exact aB e
  |tbl ps=>obtain⟨_,e,_⟩:=(show a4c H h a ps from x);exact aB e
  |met f y=>exact aB (show h.get? a=cz _ from x)
  |ext φ=>obtain⟨_,⟨_,e⟩,_⟩:=x;exact aB e
theorem Paired.mapP:∀{l₁:List α} {l₂:List β},eU F l₁ l₂->(∀a b,F a b->G a b)->eU G l₁ l₂
  |_,_,.nil,_=>.nil
  |_,_,.cons r t,f=>.cons (f _ _ r) (Paired.mapP t f)
def ObjOk.stay(x:ObjOk P w H h a o)(k:∀b u,(b=a\/H b=cz (.own a))->h.get? b=cz u->h'.get? b=cz u)
    (ho:∀b,H b=cz (.own a)->H' b=cz (.own a)) (ht:∀b (u:c0i a),H b=cz u.1->H' b=cz u.1):ObjOk P w H' h' a o:=by
  induction o with
  |lst xs=>obtain⟨z,cP,n,r,e⟩:=x;exact⟨z,cP,n,r,k _ _ (.inl rfl) e⟩
  |tup xs=>obtain⟨z,cP,r,ob,e,c⟩:=x;exact⟨z,cP,r,ob,k _ _ (.inl rfl) e,c⟩
  |dK kvs=>obtain⟨z,y,vs,r,ob,es,ep,e,c⟩:=x;exact⟨z,y,vs,r,ob,es,ep,k _ _ (.inl rfl) e,c⟩
  |dT kvs=>
    obtain⟨z,y,xs,r,ob,es,ep,e,c⟩:=x;exact⟨z,y,xs,Paired.mapP r λp q z=>⟨z.1,ht _ ⟨.tup _,trivial⟩ z.2.1,z.2.2⟩,ob,es,ep,k _ _ (.inl rfl) e,c⟩
  |set S n=>obtain⟨ob,es,ep,t,e,c⟩:=x;exact⟨ob,es,ep,t,k _ _ (.inl rfl) e,c⟩
  |ins C dx fs=>
    obtain⟨d,z,ne,e,mA,⟨od,es,ep,e2,c⟩,r⟩:=x;exact⟨ho _ d,z,ne,k _ _ (.inl rfl) e,mA,⟨od,es,ep,k _ _ (.inr d) e2,c⟩,r⟩
  |own y=>obtain⟨ob,e⟩:=x;exact⟨ob,k _ _ (.inl rfl) e⟩
  |xd fs=>obtain⟨mA,⟨od,es,ep,e,c⟩,r⟩:=x;exact⟨mA,⟨od,es,ep,k _ _ (.inl rfl) e,c⟩,r⟩
  |rng lo hi=>obtain⟨t,u,v,e⟩:=x;exact⟨t,u,v,k _ _ (.inl rfl) e⟩
  |frz ob u ih=>obtain⟨e,q⟩:=x;exact⟨k _ _ (.inl rfl) e,ih q⟩
  |tbl ps=>
    obtain⟨qs,e,t,f⟩:=(show a4c H h a ps from x);refine⟨qs,k a _ (.inl rfl) e,t,λpos cv z=>?_⟩;obtain⟨c,oc,vs,q,t1,t2,z1,z2,z3,z4,z5⟩:=f pos cv z;exact⟨c,oc,vs,q,t1,t2,z1,ht c ⟨.frz _ (.own a),rfl⟩ z2,z3,z4,z5⟩
  |met f y=>
    have e:h.get? a=cz (nT (.ref f) (.ref y)):=x;show h'.get? a=cz (nT (.ref f) (.ref y));exact k a _ (.inl rfl) e
  |ext φ=>obtain⟨p,⟨o,e⟩,st⟩:=x;exact⟨st _ _ p λo q=>k _ _ (.inl rfl) q,⟨o,k _ _ (.inl rfl) e⟩,st⟩
theorem HOk.lt(x:HOk P w H h)(e:H a=cz o):a<h.objs.size:=(x a o e).lt
def HOk.fresh(x:HOk P w H h)(e:h.objs.size<=a):H a=el:=by
  cases q:H a with
  |none=>rfl
  |some u=>exact absurd (bb (x.lt q) e) (cR _)
def HOk.kept(x:HOk P w H h)(k:∀b u,h.get? b=cz u->h'.get? b=cz u):HOk P w H h':=λa o e=>
  (x a o e).stay (λb u _ q=>k b u q) (λ_ q=>q) λ_ _ q=>q
def HOk.laid(x:HOk P w H h)(k:∀b u,h.get? b=cz u->h'.get? b=cz u)(hp:h.objs.size<=a)(new:ObjOk P w (upd H a o) h' a o):HOk P w (upd H a o) h':=λb u e=>by
  have hn:=x.fresh hp;by_cases hb:b=a
  . subst hb;rw[i7]at e;cases e;exact new
  . rw[f8 hb]at e
    exact (x b u e).stay (λc v _ q=>k c v q) (λc q=>by rw[f8 (n9 q hn)];exact q) λc xs q=>by rw[f8 (n9 q hn)];exact q
end
def Rd(H:Hp)(a:aw)(u:HO):Prop:=H a=cz u\/∃o,H a=cz (.frz o u)
def Rd.ok{P:br}{w:bK}{H:Hp}{h:bL}{a:aw}{u:HO}(r:Rd H a u)(x:HOk P w H h):ObjOk P w H h a u:=by
  rcases r with r|⟨o,r⟩
  . exact x a u r
  . obtain⟨_,q⟩:=x a _ r
    exact q
def Mut:Option HO->Prop
  |some (.lst _)=>True
  |some (.dK _)=>True
  |some (.dT _)=>True
  |some (.set _ _)=>True
  |some (.ins _ _ _)=>True
  |some (.ext _)=>True
  |_=>False
section
variable {P:br}{w:bK}{H:Hp}{h h':bL}{x e:aw}{o':HO}
def HOk.write(ok:HOk P w H h)(mu:Mut (H x))(he:e=x\/H e=cz (.own x))(k:∀b u,b≠e->h.get? b=cz u->h'.get? b=cz u)(va:∃u,h'.get? e=cz u)
    (new:ObjOk P w (upd H x o') h' x o'):HOk P w (upd H x o') h':=λb u q=>by
  have vL:∀c y,H c=cz (.own y)->c≠x:=λc y r z=>by subst z;rw[r]at mu;exact mu
  have yW:∀{bq:aw} c (u:c0i bq),H c=cz u.1->c≠x:=λ{bq} c u r z=>by subst z;rw[r]at mu;obtain⟨u,hu⟩:=u;cases u<;>first|exact hu|exact mu
  by_cases hb:b=x
  . subst hb;rw[i7]at q;cases q;exact new
  . rw[f8 hb]at q
    by_cases uB:b=e
    . have q':H b=cz (.own x):=by
        rcases he with z|z
        . exact absurd (uB.trans z) hb
        . rw[uB];exact z
      rw[q]at q';cases q';obtain⟨v,hv⟩:=va;exact⟨v,by rw[uB];exact hv⟩
    . refine (ok b u q).stay (λc v hc r=>k c v ?_ r) (λc r=>by rw[f8 (vL c b r)];exact r) λc xs r=>by rw[f8 (yW c xs r)];exact r
      rcases hc with rfl|hc
      . exact uB
      . rintro rfl
        rcases he with z|z
        . exact vL c b hc z
        . rw[hc]at z;cases z;exact hb rfl
end
structure Un (fs ex:List aw) (H H':Hp) (h h':bL):Prop where
  keep:∀b o,h.get? b=cz o->H b=el->b∉fs->b∉ex->h'.get? b=cz o
  slot:∀b o,h.get? b=cz o->H b=el->b∈fs->b∉ex->∃sl,h'.get? b=cz {o with slots:=sl}
  free:∀b o,h.get? b=cz o->H b=el->b∉ex->H' b=el
  there:∀b o,h.get? b=cz o->b∉ex->∃o',h'.get? b=cz o'
  tups:∀b xs,H b=cz (.tup xs)->H' b=cz (.tup xs)
  frzs:∀b o u,H b=cz (.frz o u)->H' b=cz (.frz o u)
  tbls:∀b ps,H b=cz (.tbl ps)->∃more,H' b=cz (.tbl (ps++more))
section
variable {fs kD ex Ii:List aw}{H H1 H2:Hp}{h h1 h2 h':bL}{a x e:aw}{o:HO}
def Un.any(u:Un fs ex H H1 h h1)(q:h.get? b=cz ob)(n:H b=el)(hx:b∉ex):∃sl,h1.get? b=cz {ob with slots:=sl}:=by
  by_cases hb:b∈fs
  . exact u.slot b ob q n hb hx
  . exact⟨ob.slots,u.keep b ob q n hb hx⟩
def Un.kept(k:∀b u,h.get? b=cz u->h'.get? b=cz u):Un fs ex H H h h':=
  ⟨λb ob q _ _ _=>k b ob q,λb ob q _ _ _=>⟨ob.slots,k b ob q⟩,λ_ _ _ n _=>n,λb ob q _=>⟨ob,k b ob q⟩,λ_ _ q=>q,λ_ _ _ q=>q,λ_ ps q=>⟨#[],by rw[q];simp⟩⟩
def Un.refl:Un fs ex H H h h:=Un.kept λ_ _ q=>q
def Un.laid(k:∀b u,h.get? b=cz u->h'.get? b=cz u)(hp:h.objs.size<=a)(hn:H a=el):Un fs ex H (upd H a o) h h' where
  keep:=λb u q _ _ _=>k b u q
  slot:=λb u q _ _ _=>⟨u.slots,k b u q⟩
  free:=λb u q n _=>by rw[f8 (a_ (bb (aB q) hp))];exact n
  there:=λb u q _=>⟨u,k b u q⟩
  tups:=λb xs q=>by rw[f8 (n9 q hn)];exact q
  frzs:=λb u xs q=>by rw[f8 (n9 q hn)];exact q
  tbls:=λb ps q=>⟨#[],by rw[f8 (n9 q hn),q];simp⟩
def Un.write(mu:Mut (H x))(he:e=x\/H e=cz (.own x))(k:∀b u,b≠e->h.get? b=cz u->h'.get? b=cz u)(va:∃u,h'.get? e=cz u):Un fs ex H (upd H x o) h h':=by
  have hx:∀b,H b=el->b≠x:=λb n z=>by subst z;rw[n]at mu;exact mu
  have hb:∀b,H b=el->b≠e:=λb n z=>by
    subst z;rcases he with r|r
    . exact hx b n r
    . rw[n]at r;cases r
  have hm:∀b u,H b=cz u->¬ Mut (cz u)->b≠x:=λb u q nm z=>by subst z;rw[q]at mu;exact nm mu
  refine⟨λb u q n _ _=>k b u (hb b n) q,λb u q n _ _=>⟨u.slots,k b u (hb b n) q⟩,λb u q n _=>by rw[f8 (hx b n)];exact n,λb u q _=>?_,
    λb xs q=>by rw[f8 (hm b _ q λz=>z)];exact q,λb u xs q=>by rw[f8 (hm b _ q λz=>z)];exact q,λb ps q=>⟨#[],by rw[f8 (hm b _ q λz=>z),q];simp⟩⟩
  by_cases uB:b=e
  . subst uB;exact va
  . exact⟨u,k b u uB q⟩
end
def trk(h:bL)(H:Hp):List aw:=(aV h.objs.size).filter λa=>(H a).isSome
def a5f(h:bL)(H:Hp):bL:=gi h (trk h H)
def b0f(h:bL)(H:Hp):(a5f h H).objs.size=h.objs.size:=PySem.W.hideAll_size _ _
def b1J{h:bL}(e:h.get? b=cz o)(n:H b=el):(a5f h H).get? b=cz o:=
  yE _ e λhm=>by
    have q:(H b).isSome=fx:=(bz.mp hm).2;rw[n]at q;simp at q
def b4U(e:(a5f h H).get? b=cz o):h.get? b=cz o/\H b=el:=by
  have e':h.get? b=cz o:=AJ (trk h H) e;refine⟨e',?_⟩;cases q:H b with
  |none=>rfl
  |some x=>
    have hm:b∈trk h H:=bz.mpr ⟨cC.mpr (aB e'),by simp[q]⟩;have z:(a5f h H).get? b=el:=PySem.W.hideAll_none (trk h H) hm;rw[z]at e;cases e
def b4V(g h:bL)(L:aw):List (aw×fm):=(aV h.objs.size).filterMap λa=>if a=L\/(g.get? a).isSome=fx then el else (h.get? a).map λo=>(a,o)
def rest(g h:bL)(L d:aw):List (aw×fm):=(b4V g h L).filter λp=>decide (p.1≠d)
def N7:List bt:=["ways_by_state","joins_by_pair","compare","first_gathering","least_asks"]
def V7(x:bt):bt:=x++".<locals>." ++ "<lambda>"
def a5g(K:af)(cd:ai):Option aw:=match cd with
  |.ref c=>(match K.lookup c with
    |some ⟨.type n,_,.fields vs,_⟩=>if n=="code" then
        (match (vs[11]?:Option ai),(vs[18]?:Option ai),(vs[7]?:Option ai),(vs[9]?:Option ai),(vs[10]?:Option ai) with
        |some (.ref P),cz (.str _ _),cz (.int _ _),cz (.bool _),cz (.int _ _)=>if c !=P then cz P else el
        |_,_,_,_,_=>el) else el
    |_=>el)
  |_=>el
def D0(K:af)(x:bt):Option aw:=match bN K ba x with
  |some (cz (.ref f))=>(match K.lookup f with
    |some ⟨_,_,.func fd,_⟩=>a5g K fd.code
    |_=>el)
  |_=>el
def TabsIn(K:af)(H:Hp):Prop:=∀x∈N7,∀p,D0 K x=cz p->∃qs t,H p=cz (.tbl qs)/\qs[0]?=cz (.str (V7 x) t)
def TabsIn.un{K:af}{fs ex:List aw}{H H':Hp}{h h':bL}(a:TabsIn K H)(u:Un fs ex H H' h h'):TabsIn K H':=λx hx p e=>by
  obtain⟨qs,t,e1,e2⟩:=a x hx p e;obtain⟨more,e3⟩:=u.tbls p qs e1;refine⟨_,t,e3,?_⟩;have hz:0<qs.size:=by
    rcases gS 0 qs.size with z|z
    . exact z
    . rw[eM (by omega)]at e2;cases e2
  rw[Array.getElem?_append_left hz];exact e2
structure Mod (K:af) (mg:bt->Option ai) (base:bL):Prop where
  kin:K.In base
  glob:base.Ns ba mg
  blt:∃mb,base.Ns kF mb/\∀x:bt,x≠"__name__"->mb x=fg x
  nolimit:base.NoLimit
  bmain:∃bm ob,mg "__builtins__"=cz (.ref bm)/\bm≠kF/\base.get? bm=cz ob/\ob.cls=.type "module"/\ob.dict=cz kF/\ob.data=.plain
structure Cx where
  prog:br
  w:bK
  K:af
  mg:bt->Option ai
  base:bL
  A:bB
  N:List bt
  s₀:aj
  H₀:Hp
  env:n_
  outer:List n_
  stack:List n_
  ex:List aw
  fn:bt->Bool
  calm:Bool
  pn:List (aw×fm)
  xe:ai->aj->Prop
def frs(l:List n_):List aw:=l.filterMap (·.frame)
abbrev Cx.fs(X:Cx):List aw:=frs X.outer
def Vis(sc:gy)(x:bt):Prop:=sc.names.lookup x=cz .local\/sc.names.lookup x=cz .cell\/sc.names.lookup x=cz .free
abbrev NmV(X:Cx)(x:bt):Prop:=Vis X.env.scope x/\(x==("__debug__":bt))=p4/\(x==("__classdict__":bt))=p4
def Loc(sc:gy)(x:bt):Prop:=sc.names.lookup x=cz .local\/sc.names.lookup x=cz .cell
def Look(env:n_)(h:bL)(m:bt->Option ai)(x:bt)(u:ai):Prop:=
  (env.kindOf x=cz .local/\m x=cz u)\/((env.kindOf x=cz .cell\/env.kindOf x=cz .free)/\∃c,env.cells.lookup x=cz c/\h.IsCell c (cz u))
structure Cx.Ok (X:Cx):Prop where
  mod:Mod X.K X.mg X.base
  kind:X.env.scope.kind=.function
  glob:X.env.globals=ba
  blt:X.env.builtins=kF
  above:X.s₀.heap.objs.size<=X.env.locals
  inj:∀x y c,X.env.cells.lookup x=cz c->X.env.cells.lookup y=cz c->x=y
  has:∀x,(X.env.kindOf x=cz .cell\/X.env.kindOf x=cz .free)->∃c,X.env.cells.lookup x=cz c
  cab:∀x c,X.fn x=fx->X.env.cells.lookup x=cz c->X.s₀.heap.objs.size<=c
  hd:X.calm=fx->X.A.handled=el
  frames:X.A.frames=cz X.stack
  stk:X.stack=X.outer\/(X.stack=X.env::X.outer/\X.env.frame=cz X.env.locals)
  exf:∀b∈X.ex,b≠X.env.locals/\∀x c,X.env.cells.lookup x=cz c->c≠b
  bs:∀b o,X.base.get? b=cz o->X.s₀.heap.get? b=cz o/\X.H₀ b=el
  bsz:X.base.objs.size<=X.s₀.heap.objs.size
  noex:∀b o,X.base.get? b=cz o->b∉X.ex
  exfs:∀b∈X.ex,b∉X.fs
  funs:X.s₀.heap.FunFrames X.base X.outer
  frf:∀b∈X.fs,X.H₀ b=el
  tabs:TabsIn X.K X.H₀
structure Inv (X:Cx) (pins:List (aw×fm)) (Y:List (Option V)) (H:Hp) (s:aj):Prop where
  ok:X.Ok
  os:s.os=X.s₀.os
  bare:jP s.gens
  base:Un X.fs X.ex X.H₀ H X.s₀.heap s.heap
  loc:∃m,s.heap.Ns X.env.locals m/\∀(i:Nat) (x:bt) (v:V),X.N[i]?=cz x->Y[i]?=cz (cz v)->Vis X.env.scope x->∃u,RelV v u/\Look X.env s.heap m x u
  cell:∀x c,X.env.cells.lookup x=cz c->∃v,s.heap.IsCell c v
  free:H X.env.locals=el
  freeC:∀x c,X.env.cells.lookup x=cz c->H c=el
  pin:∀p∈X.pn++pins,s.heap.get? p.1=cz p.2/\H p.1=el/\p.1≠X.env.locals/\p.1∉X.fs/\∀v,p.2.data≠.cell v
  hok:HOk X.prog X.w H s.heap
  len:Y.length=X.N.length
section
variable {X:Cx}{pins:List (aw×fm)}{Y:List (Option V)}{H H':Hp}{s:aj}{h':bL}
def Cx.Ok.nofr(ok:X.Ok)(e:X.base.get? b=cz o):b∉X.fs:=λhb=>by
  have:=(ok.funs.mem hb).1;rw[e]at this;cases this
theorem Inv.bs(I:Inv X pins Y H s):∀b o,X.base.get? b=cz o->s.heap.get? b=cz o/\H b=el:=λb o e=>
  ⟨I.base.keep b o (I.ok.bs b o e).1 (I.ok.bs b o e).2 (I.ok.nofr e) (I.ok.noex b o e),I.base.free b o (I.ok.bs b o e).1 (I.ok.bs b o e).2 (I.ok.noex b o e)⟩
theorem Inv.tabs(I:Inv X pins Y H s):TabsIn X.K H:=I.ok.tabs.un I.base
def Inv.bk(I:Inv X pins Y H s):∀b o,X.base.get? b=cz o->s.heap.get? b=cz o:=λb o e=>(I.bs b o e).1
theorem Inv.mod(I:Inv X pins Y H s):Mod X.K X.mg X.base:=I.ok.mod
def Inv.kIn(I:Inv X pins Y H s):X.K.In s.heap:=I.ok.mod.kin.keeps I.bk
theorem Inv.lt(I:Inv X pins Y H s):X.env.locals<s.heap.objs.size:=let⟨_,hn,_⟩:=I.loc;hn.lt
def Inv.sz(I:Inv X pins Y H s):X.s₀.heap.objs.size<=s.heap.objs.size:=cx I.ok.above (dZ I.lt)
def Inv.nofs(I:Inv X pins Y H s)(h:s.heap.objs.size<=a):a∉X.fs:=λhb=>by
  obtain⟨_,o,ho,_⟩:=I.ok.funs.mem hb;exact absurd (bb (aB ho) (cx I.sz h)) (cR _)
def Inv.cne(I:Inv X pins Y H s):∀x c,X.env.cells.lookup x=cz c->c≠X.env.locals:=λx c e z=>by
  obtain⟨v,o,ho,hd⟩:=I.cell x c e;obtain⟨m,⟨o',es,ep,mV,lH,_⟩,_⟩:=I.loc;rw[z,mV]at ho;cases ho;rw[lH]at hd;cases hd
theorem Inv.funs(I:Inv X pins Y H s):s.heap.FunFrames X.base X.outer:=by
  have all:∀(l:List n_),(∀b∈frs l,b∈X.fs)->X.s₀.heap.FunFrames X.base l->s.heap.FunFrames X.base l:=by
    intro l
    induction l with
    |nil=>intro _ _;trivial
    |cons env r ih=>
      intro hs hl;obtain⟨hk,⟨L,o,hf,hn,ho,hd⟩,hr⟩:=hl;have hL:L∈X.fs:=hs L (by unfold frs;rw[hX,hf];exact ar);obtain⟨sl,e⟩:=I.base.slot L o ho (I.ok.frf L hL) hL λz=>I.ok.exfs L z hL
      exact⟨hk,⟨L,_,hf,hn,e,hd⟩,ih (λb hb=>hs b (by unfold frs;rw[hX,hf];exact au _ hb)) hr⟩
  exact all X.outer (λ_ hb=>hb) I.ok.funs
theorem Inv.stack(I:Inv X pins Y H s):s.heap.FunFrames X.base X.stack:=by
  rcases I.ok.stk with e|⟨e,hf⟩
  . rw[e];exact I.funs
  . rw[e]
    obtain⟨m,hn,_⟩:=I.loc;refine .cons (by rw[I.ok.kind];decide) hf hn ?_ I.funs;exact bL.get?_none_of_le (cx I.ok.bsz I.ok.above)
def Inv.stkSub(I:Inv X pins Y H s):∀b∈frs X.stack,b∈X.env.locals::X.fs:=λb hb=>by
  rcases I.ok.stk with e|⟨e,hf⟩
  . rw[e]at hb;exact au _ hb
  . rw[e]at hb
    unfold frs at hb;rw[hX,hf]at hb;exact hb
def Inv.stkFree(I:Inv X pins Y H s):∀b∈frs X.stack,H b=el:=λb hb=>by
  rcases aD.mp (I.stkSub b hb) with e|hb
  . rw[e];exact I.free
  . obtain⟨_,o,ho,_⟩:=I.ok.funs.mem hb
    exact I.base.free b o ho (I.ok.frf b hb) λz=>I.ok.exfs b z hb
def Inv.step{g':Array GenState}{t':Nat}{d':Drawn}{ch:List aw}(I:Inv X pins Y H s)
    (rE:∀b∈ch,(b∈X.ex\/X.s₀.heap.objs.size<=b)/\b≠X.env.locals/\(∀x c,X.env.cells.lookup x=cz c->c≠b)/\∀p∈X.pn++pins,p.1≠b)
    (keep:∀b o,b≠X.env.locals->b∉X.fs->b∉ch->s.heap.get? b=cz o->H b=el->h'.get? b=cz o)
    (slot:∀b o,b≠X.env.locals->b∈X.fs->b∉ch->s.heap.get? b=cz o->H b=el->∃sl,h'.get? b=cz {o with slots:=sl}) (free:∀b o,b∉ch->s.heap.get? b=cz o->H b=el->H' b=el)
    (there:∀b o,b∉ch->s.heap.get? b=cz o->∃o',h'.get? b=cz o')
    (tups:∀b xs,H b=cz (.tup xs)->H' b=cz (.tup xs)) (frzs:∀b o u,H b=cz (.frz o u)->H' b=cz (.frz o u)) (tbls:∀b ps,H b=cz (.tbl ps)->∃more,H' b=cz (.tbl (ps++more)))
    (ns:∀m,s.heap.Ns X.env.locals m->h'.Ns X.env.locals m) (hok:HOk X.prog X.w H' h') (hg:jP g') :
    Inv X pins Y H' {s with heap:=h',gens:=g',drawn:=d',toks:=t'}:=by
  have Bg:∀b o,X.s₀.heap.get? b=cz o->b≠X.env.locals:=λb o e=>a_ (bb (aB e) I.ok.above)
  have x_:∀b o,X.s₀.heap.get? b=cz o->b∉X.ex->b∉ch:=λb o e hx hb=>by
    rcases (rE b hb).1 with z|z
    . exact hx z
    . exact absurd (bb (aB e) z) (cR _)
  have cellK:∀x c,X.env.cells.lookup x=cz c->∀v,s.heap.IsCell c v->h'.IsCell c v:=λx c e v ⟨o,ho,hd⟩=>by
    have qA:c∉ch:=λz=>(rE c z).2.2.1 x c e rfl
    by_cases hc:c∈X.fs
    . obtain⟨sl,q⟩:=slot c o (I.cne x c e) hc qA ho (I.freeC x c e)
      exact⟨_,q,hd⟩
    . exact⟨o,keep c o (I.cne x c e) hc qA ho (I.freeC x c e),hd⟩
  refine⟨I.ok,I.os,hg,⟨λb o e n hb hx=>?_,λb o e n hb hx=>?_,λb o e n hx=>?_,λb o e hx=>?_,λb xs e=>tups b xs (I.base.tups b xs e),λb o xs e=>frzs b o xs (I.base.frzs b o xs e),λb ps e=>?_⟩,?_,λx c e=>?_,?_,λx c e=>?_,λp hp=>?_,hok,I.len⟩
  . exact keep b o (Bg b o e) hb (x_ b o e hx) (I.base.keep b o e n hb hx) (I.base.free b o e n hx)
  . obtain⟨sl,e1⟩:=I.base.slot b o e n hb hx
    obtain⟨uQ,e2⟩:=slot b _ (Bg b o e) hb (x_ b o e hx) e1 (I.base.free b o e n hx);exact⟨uQ,e2⟩
  . obtain⟨o',e1⟩:=I.base.there b o e hx
    exact free b o' (x_ b o e hx) e1 (I.base.free b o e n hx)
  . obtain⟨o',e1⟩:=I.base.there b o e hx
    exact there b o' (x_ b o e hx) e1
  . obtain⟨m1,e1⟩:=I.base.tbls b ps e
    obtain⟨m2,e2⟩:=tbls b _ e1;exact⟨m1++m2,by rw[e2,AR]⟩
  . obtain⟨m,hn,hl⟩:=I.loc
    refine⟨m,ns m hn,λi x v e1 e2 e3=>?_⟩;obtain⟨u,r,l⟩:=hl i x v e1 e2 e3;refine⟨u,r,?_⟩;rcases l with l|⟨k,c,e,z⟩
    . exact .inl l
    . exact .inr ⟨k,c,e,cellK x c e _ z⟩
  . obtain⟨v,z⟩:=I.cell x c e
    exact⟨v,cellK x c e v z⟩
  . obtain⟨m,⟨o,_,_,ho,_⟩,_⟩:=I.loc
    exact free _ o (λz=>(rE _ z).2.1 rfl) ho I.free
  . obtain⟨v,o,ho,hd⟩:=I.cell x c e
    exact free c o (λz=>(rE c z).2.2.1 x c e rfl) ho (I.freeC x c e)
  . obtain⟨e,n,ne,nf,d⟩:=I.pin p hp
    have qA:p.1∉ch:=λz=>(rE p.1 z).2.2.2 p hp rfl
    exact⟨keep p.1 p.2 ne nf qA e n,free p.1 p.2 qA e n,ne,nf,d⟩
def Inv.un(I:Inv X pins Y H s)(u:Un X.fs [] H H' s.heap h')(hok:HOk X.prog X.w H' h'):Inv X pins Y H' {s with heap:=h',toks:=t'}:=by
  obtain⟨m,⟨o,es,ep,ho,r⟩,_⟩:=id I.loc;obtain⟨sl,hL⟩:=u.any ho I.free (by simp);exact I.step (g':=s.gens) (d':=s.drawn) (ch:=[]) (λ_ z=>nomatch z) (λb o _ hb _ e n=>u.keep b o e n hb (by simp)) (λb o _ hb _ e n=>u.slot b o e n hb (by simp)) (λb o _ e n=>u.free b o e n (by simp)) (λb o _ e=>u.there b o e (by simp)) u.tups u.frzs u.tbls (λm' hm=>by
    obtain⟨o',fC,rF,mV,r'⟩:=hm;rw[ho]at mV;cases mV;exact⟨_,fC,rF,hL,r'⟩) hok I.bare
def Inv.call(I:Inv X pins Y H s)(u:Un (frs X.stack) ch H H' s.heap h')(hok:HOk X.prog X.w H' h')(hg:jP g')
    (rE:∀b∈ch,(b∈X.ex\/X.s₀.heap.objs.size<=b)/\b≠X.env.locals/\(∀x c,X.env.cells.lookup x=cz c->c≠b)/\∀p∈X.pn++pins,p.1≠b) :
    Inv X pins Y H' {s with heap:=h',gens:=g',drawn:=d',toks:=t'}:=by
  obtain⟨m,⟨o,es,ep,ho,r⟩,_⟩:=id I.loc;obtain⟨sl,hL⟩:=u.any ho I.free λz=>(rE _ z).2.1 rfl
  exact I.step (ch:=ch) rE (λb o hL hb hc e n=>u.keep b o e n (λz=>(aD.mp (I.stkSub b z)).elim hL hb) hc) (λb o _ _ hc e n=>u.any e n hc) (λb o hc e n=>u.free b o e n hc) (λb o hc e=>u.there b o e hc) u.tups u.frzs u.tbls (λm' hm=>by
    obtain⟨o',fC,rF,mV,r'⟩:=hm;rw[ho]at mV;cases mV;exact⟨_,fC,rF,hL,r'⟩) hok hg
def Inv.turned(I:Inv X pins Y H s)(k:∀b o,b≠it->s.heap.get? b=cz o->h'.get? b=cz o)(hn:H it=el)(hL:it≠X.env.locals)
    (h1:it∈X.ex\/X.s₀.heap.objs.size<=it) (h2:∀x c,X.env.cells.lookup x=cz c->c≠it) (h3:∀p∈X.pn++pins,p.1≠it):Inv X pins Y H {s with heap:=h',toks:=t'}:=by
  have Bc:∀b u,H b=cz u->b≠it:=λb u e z=>by rw[z,hn]at e;cases e
  refine I.step (g':=s.gens) (d':=s.drawn) (ch:=[it]) (λb hb=>?_) (λb o _ _ hc e _=>k b o (λz=>hc (by simp[z])) e) (λb o _ _ hc e _=>⟨o.slots,k b o (λz=>hc (by simp[z])) e⟩) (λ_ _ _ _ n=>n)
    (λb o hc e=>⟨o,k b o (λz=>hc (by simp[z])) e⟩) (λ_ _ e=>e) (λ_ _ _ e=>e) (λb ps e=>⟨#[],by rw[e];simp⟩) (λm hm=>?_) (λb u e=>?_) I.bare
  . have e:b=it:=by simpa using hb
    subst e;exact⟨h1,hL,h2,h3⟩
  . obtain⟨o,es,ep,ho,r⟩:=hm
    exact⟨o,es,ep,k _ o (dy hL) ho,r⟩
  . refine (I.hok b u e).stay (λc v hc q=>k c v ?_ q) (λ_ q=>q) λ_ _ q=>q
    rcases hc with z|z
    . rw[z];exact Bc b u e
    . exact Bc c _ z
def Inv.tok(I:Inv X pins Y H s)(t:Nat):Inv X pins Y H {s with toks:=t}:=I.un (h':=s.heap) (t':=t) Un.refl I.hok
theorem Inv.kept(I:Inv X pins Y H s)(k:∀b u,s.heap.get? b=cz u->h'.get? b=cz u):Inv X pins Y H {s with heap:=h',toks:=t'}:=I.un (Un.kept k) (I.hok.kept k)
theorem Inv.laid{a:aw}{o:HO}{t':Nat}(I:Inv X pins Y H s)(k:∀b u,s.heap.get? b=cz u->h'.get? b=cz u)(hp:s.heap.objs.size<=a)(new:ObjOk X.prog X.w (upd H a o) h' a o) :
    Inv X pins Y (upd H a o) {s with heap:=h',toks:=t'}:=I.un (Un.laid k hp (I.hok.fresh hp)) (I.hok.laid k hp new)
theorem Inv.write(I:Inv X pins Y H s)(mu:Mut (H x))(he:e=x\/H e=cz (.own x))(k:∀b u,b≠e->s.heap.get? b=cz u->h'.get? b=cz u)(va:∃u,h'.get? e=cz u)
    (new:ObjOk X.prog X.w (upd H x o) h' x o):Inv X pins Y (upd H x o) {s with heap:=h',toks:=t'}:=I.un (Un.write mu he k va) (I.hok.write mu he k va new)
def Inv.pins_of(I:Inv X pins Y H s)(h:∀p∈qz,s.heap.get? p.1=cz p.2/\H p.1=el/\p.1≠X.env.locals/\p.1∉X.fs/\∀v,p.2.data≠.cell v):Inv X qz Y H s:=
  ⟨I.ok,I.os,I.bare,I.base,I.loc,I.cell,I.free,I.freeC,λp hp=>(aC.mp hp).elim (λz=>I.pin p (aM _ z)) (h p),I.hok,I.len⟩
def a2t{N:List bt}(hN:N.Nodup){i j:Nat}{x:bt}(a:N[i]?=cz x)(b:N[j]?=cz x):i=j:=by
  obtain⟨h1,e1⟩:=aP.mp a;obtain⟨h2,e2⟩:=aP.mp b;exact (List.getElem_inj hN).mp (e1.trans e2.symm)
def b0g{M:Model}{A:bB}{E:ai->aj->Prop}{i:Nat}{x:bt}{v:V}{u:ai}{Q:Unit->aj->Prop}(I:Inv X pins Y H s)(hN:X.N.Nodup)(hi:X.N[i]?=cz x)(hx:Loc X.env.scope x)(r:RelV v u)
    (h:∀s',Inv X pins (Y.set i (cz v)) H s'->(∃a,cB a s.heap s'.heap/\(a=X.env.locals\/X.env.cells.lookup x=cz a))->Q () s') (hf:autoParam (X.fn x=fx\/X.env.scope.names.lookup x=cz .local) ZZ._auto_1):az M A (storeName X.env x u) Q E s:=by
  obtain⟨m,hn,hl⟩:=id I.loc;have uy:(X.env.scope.kind==.class||(X.env.scope.kind==.module&&X.env.locals !=X.env.globals))=p4:=by rw[I.ok.kind];rfl
  have sk:i<Y.length:=by rw[I.len];exact (aP.mp hi).1
  have cne:=I.cne;have tracked:∀{a:aw} {h':bL},(∃o,s.heap.get? a=cz o/\H a=el)->cB a s.heap h'->HOk X.prog X.w H h':=λ{a h'} ha hs b ob e=>by
    obtain⟨_,_,lr⟩:=ha;refine (I.hok b ob e).stay (λc w' hc q=>(hs.2 c ?_).trans q) (λ_ q=>q) λ_ _ q=>q
    rintro rfl;rcases hc with rfl|hc
    . rw[lr]at e;cases e
    . rw[lr]at hc;cases hc
  rcases hx with hk|hk
  . refine wpAny_storeName_local hk hn (λh' se hs=>?_) uy
    obtain⟨oL,_,_,Ff,_⟩:=id hn;refine h _ ⟨I.ok,I.os,I.bare,⟨λb o e n hb hx=>?_,λb o e n hb hx=>?_,I.base.free,λb o e hx=>?_,I.base.tups,I.base.frzs,I.base.tbls⟩,⟨_,se,λj y v' e1 e2 e3=>?_⟩,λy c e=>?_,I.free,I.freeC,λp hp=>?_,tracked ⟨oL,Ff,I.free⟩ hs,by simpa using I.len⟩ ⟨_,hs,.inl rfl⟩
    . exact (hs.2 b (a_ (bb (aB e) I.ok.above))).trans (I.base.keep b o e n hb hx)
    . obtain⟨sl,e1⟩:=I.base.slot b o e n hb hx
      exact⟨sl,(hs.2 b (a_ (bb (aB e) I.ok.above))).trans e1⟩
    . obtain⟨o',e1⟩:=I.base.there b o e hx
      exact⟨o',(hs.2 b (a_ (bb (aB e) I.ok.above))).trans e1⟩
    . by_cases hj:j=i
      . subst hj
        rw[hi]at e1;cases e1;rw[eL sk]at e2;cases e2
        exact⟨u,r,.inl ⟨hk,by simp⟩⟩
      . rw[dS (dy hj)]at e2
        obtain⟨u',r',q⟩:=hl j y v' e1 e2 e3;refine⟨u',r',?_⟩;rcases q with⟨k,e⟩|⟨k,c,e,z⟩
        . refine .inl ⟨k,?_⟩
          have:y≠x:=λe=>hj (a2t hN e1 (e▸hi))
          simp[this,e]
        . exact .inr ⟨k,c,e,z.sameBut hs (cne y c e)⟩
    . obtain⟨w',z⟩:=I.cell y c e
      exact⟨w',z.sameBut hs (cne y c e)⟩
    . obtain⟨e,n,ne,nf,d⟩:=I.pin p hp
      exact⟨(hs.2 p.1 ne).trans e,n,ne,nf,d⟩
  . have oI:X.fn x=fx:=by
      rcases hf with z|z
      . exact z
      . rw[z]at hk;cases hk
    obtain⟨c,hc⟩:=I.ok.has x (.inl hk);obtain⟨w',z⟩:=I.cell x c hc;refine wpAny_storeName_cell I.ok.kind hk hc z (λh' pP hs=>?_);obtain⟨oc,wC,zC⟩:=id z;refine h {s with heap:=h'} ⟨I.ok,I.os,I.bare,⟨λb o e n hb hx=>?_,λb o e n hb hx=>?_,I.base.free,λb o e hx=>?_,I.base.tups,I.base.frzs,I.base.tbls⟩,⟨m,hn.sameBut hs (dy (cne x c hc)),λj y v' e1 e2 e3=>?_⟩,λy c' e=>?_,I.free,I.freeC,λp hp=>?_,tracked ⟨oc,wC,I.freeC x c hc⟩ hs,by simpa using I.len⟩ ⟨c,hs,.inr hc⟩
    . exact (hs.2 b (a_ (bb (aB e) (I.ok.cab x c oI hc)))).trans (I.base.keep b o e n hb hx)
    . obtain⟨sl,e1⟩:=I.base.slot b o e n hb hx
      exact⟨sl,(hs.2 b (a_ (bb (aB e) (I.ok.cab x c oI hc)))).trans e1⟩
    . obtain⟨o',e1⟩:=I.base.there b o e hx
      exact⟨o',(hs.2 b (a_ (bb (aB e) (I.ok.cab x c oI hc)))).trans e1⟩
    . by_cases hj:j=i
      . subst hj
        rw[hi]at e1;cases e1;rw[eL sk]at e2;cases e2
        exact⟨u,r,.inr ⟨.inl hk,c,hc,pP⟩⟩
      . rw[dS (dy hj)]at e2
        obtain⟨u',r',q⟩:=hl j y v' e1 e2 e3;refine⟨u',r',?_⟩;rcases q with q|⟨k,c',e,z'⟩
        . exact .inl q
        . refine .inr ⟨k,c',e,z'.sameBut hs ?_⟩
          rintro rfl;exact hj (a2t hN e1 (I.ok.inj _ _ _ e hc▸hi))
    . by_cases yp:c'=c
      . subst yp;exact⟨_,pP⟩
      . obtain⟨w2,z2⟩:=I.cell y c' e
        exact⟨w2,z2.sameBut hs yp⟩
    . obtain⟨e,n,ne,nf,d⟩:=I.pin p hp
      refine⟨(hs.2 p.1 ?_).trans e,n,ne,nf,d⟩;intro q;rw[q,wC]at e;have q':oc=p.2:=aK e;exact d w' (by rw[<-q'];exact zC)
def a0r(I:Inv X pins Y H s)(hN:X.N.Nodup)(hi:X.N[i]?=cz x)(hx:Loc X.env.scope x)(r:RelV v u)
    (h:∀s',Inv X pins (Y.set i (cz v)) H s'->Q () s') (hf:autoParam (X.fn x=fx\/X.env.scope.names.lookup x=cz .local) ZZ._auto_1):az M A (storeName X.env x u) Q E s:=
  b0g I hN hi hx r (λs' I' _=>h s' I') hf
def Inv.call'{s':aj}(I:Inv X pins Y H s)(ho:s'.os=s.os)(u:Un (frs X.stack) ch H H' s.heap s'.heap)(hok:HOk X.prog X.w H' s'.heap)(hg:jP s'.gens)
    (rE:∀b∈ch,(b∈X.ex\/X.s₀.heap.objs.size<=b)/\b≠X.env.locals/\(∀x c,X.env.cells.lookup x=cz c->c≠b)/\∀p∈X.pn++pins,p.1≠b):Inv X pins Y H' s':=by
  obtain⟨h',g',d',t',o'⟩:=s';have e:o'=s.os:=ho;subst e;exact I.call (g':=g') (t':=t') (d':=d') u hok hg rE
end
abbrev XK:=ai->Option aw->Hp->Prop
abbrev St:=List (Option V)
abbrev VK:=V->Hp->Prop
abbrev TE:=St->Hp->VK->Prop
abbrev TT:=St->Hp->(Bool->Hp->Prop)->Prop
abbrev TA:=St->Hp->(List V->Hp->Prop)->Prop
structure Ends where
  nx:St->Hp->Prop
  rt:VK
  bk:St->Hp->Prop:=λ_ _=>False
  ct:St->Hp->Prop:=λ_ _=>False
abbrev TS:=Ends->St->Hp->Prop
def EP(X:Cx)(pins:List (aw×fm))(Y:St)(Q:VK)(u:ai)(s':aj):Prop:=∃v H',Inv X pins Y H' s'/\RelV v u/\Q v H'
def TP(X:Cx)(pins:List (aw×fm))(Y:St)(Q:Bool->Hp->Prop)(b:Bool)(s':aj):Prop:=∃H',Inv X pins Y H' s'/\Q b H'
def AP(X:Cx)(pins:List (aw×fm))(Y:St)(Q:List V->Hp->Prop)(us:List ai)(s':aj):Prop:=∃vs H',Inv X pins Y H' s'/\Vals vs us/\Q vs H'
def SP(X:Cx)(pins:List (aw×fm))(D:Ends)(f:Flow)(s':aj):Prop:=
  match f with
  |.next=>∃Y' H',Inv X pins Y' H' s'/\D.nx Y' H'
  |.brk=>∃Y' H',Inv X pins Y' H' s'/\D.bk Y' H'
  |.cont=>∃Y' H',Inv X pins Y' H' s'/\D.ct Y' H'
  |.ret u=>∃v Y' H',Inv X pins Y' H' s'/\RelV v u/\D.rt v H'
def PE(X:Cx)(e:Expr)(t:TE):Prop:=
  ∀(pins:List (aw×fm)) (s:aj) (Y:St) (H:Hp) (Q:VK),Inv X pins Y H s->t Y H Q->az (aO X.prog X.w) X.A (bX e X.env) (EP X pins Y Q) X.xe s
def PT(X:Cx)(e:Expr)(t:TT):Prop:=
  ∀(pins:List (aw×fm)) (s:aj) (Y:St) (H:Hp) (Q:Bool->Hp->Prop),Inv X pins Y H s->t Y H Q->az (aO X.prog X.w) X.A (rW e X.env (bX e X.env)) (TP X pins Y Q) X.xe s
def PW(X:Cx)(e:Expr)(t:TT):Prop:=
  ∀(whole:Sem ai) (pins:List (aw×fm)) (s:aj) (Y:St) (H:Hp) (Q:Bool->Hp->Prop),Inv X pins Y H s->t Y H Q->az (aO X.prog X.w) X.A (rW e X.env whole) (TP X pins Y Q) X.xe s
def PW.pt(h:PW X e t):PT X e t:=h _
def PA(X:Cx)(es:List Expr)(t:TA):Prop:=
  ∀(pos:eA) (pins:List (aw×fm)) (s:aj) (Y:St) (H:Hp) (Q:List V->Hp->Prop),Inv X pins Y H s->t Y H Q->az (aO X.prog X.w) X.A (spliced (bY pos (ak es X.env))) (AP X pins Y Q) X.xe s
def PS(X:Cx)(st:fS)(t:TS):Prop:=
  ∀(pins:List (aw×fm)) (s:aj) (Y:St) (H:Hp) (D:Ends),Inv X pins Y H s->t D Y H->az (aO X.prog X.w) X.A (exec st X.env) (SP X pins D) X.xe s
def PSs(X:Cx)(st:List fS)(t:TS):Prop:=
  ∀(pins:List (aw×fm)) (s:aj) (Y:St) (H:Hp) (D:Ends),Inv X pins Y H s->t D Y H->az (aO X.prog X.w) X.A (execs st X.env) (SP X pins D) X.xe s
def thn{α:Type}{t:Sem α}{Q Q':α->aj->Prop}{M:Model}{A:bB}{E:ai->aj->Prop}{s:aj}(h:az M A t Q E s)(hQ:∀a s,Q a s->Q' a s):az M A t Q' E s:=cK h hQ λ_ _ x=>x
section
variable {X:Cx}
def b4W(i:Nat):TE:=λY H Q=>∃v,Y[i]?=cz (cz v)/\Q v H
def tC(v:V):TE:=λ_ H Q=>Q v H
def A8(hN:X.N[i]?=cz x)(hv:Vis X.env.scope x)(hd:(x==("__debug__":bt))=p4:=by decide)(kL:(x==("__classdict__":bt))=p4:=by decide):PE X (.Name x pos) (b4W i):=by
  intro pins s Y H Q I h;obtain⟨v,e,h⟩:=h;obtain⟨m,hn,hl⟩:=I.loc;obtain⟨u,r,l⟩:=hl i x v hN e hv;have fin:EP X pins Y Q u s:=⟨v,H,I,r,h⟩;rcases l with⟨hk,hm⟩|⟨hk,c,hc,mK⟩
  . exact wpAny_Name (wpAny_loadName_local I.ok.kind hk hn hm fin) hd
  . rcases hk with hk|hk
    . exact wpAny_Name (wpAny_loadName_cell I.ok.kind hk hc mK fin) hd
    . exact wpAny_Name (wpAny_loadName_free I.ok.kind hk hc mK fin kL) hd
def b1K{i j pos}:PE X (.Constant (.int i) j pos) (tC (.int i)):=λ_ _ _ H _ I h=>wpAny_Constant_int ⟨.int i,H,I.tok _,⟨_,rfl⟩,h⟩
def c0j{b j pos}:PE X (.Constant (.bool b) j pos) (tC (.bl b)):=λ_ _ _ H _ I h=>Constant_bool ⟨.bl b,H,I,rfl,h⟩
def b7K{j pos}:PE X (.Constant .none j pos) (tC .non):=λ_ _ _ H _ I h=>Constant_none ⟨.non,H,I,rfl,h⟩
def b1L{x j pos}:PE X (.Constant (.str x) j pos) (tC (.str x)):=λ_ _ _ H _ I h=>Calls.Constant_str ⟨.str x,H,I.tok _,⟨_,rfl⟩,h⟩
def Gl(X:Cx)(x:bt):Prop:=X.env.kindOf x=cz .globalImplicit
def X7(I:Inv X pins Y H s)(hg:Gl X x)(hm:X.mg x=cz u)(h:Q u s)
    (hd:(x==("__debug__":bt))=p4:=by decide):az (aO X.prog X.w) X.A (bX (.Name x pos) X.env) Q E s:=
  xU I.ok.kind hg (Calls.loadGlobal_global (by rw[I.ok.glob];exact I.mod.glob.keeps I.bk) hm h) hd
def V8(I:Inv X pins Y H s)(hg:Gl X x)(hm:X.mg x=el)(hv:fg x=cz u)(h:Q u s)
    (hn:x≠"__name__":=by decide) (hd:(x==("__debug__":bt))=p4:=by decide):az (aO X.prog X.w) X.A (bX (.Name x pos) X.env) Q E s:=by
  obtain⟨mb,h1,h2⟩:=I.mod.blt;exact xU I.ok.kind hg (Calls.loadGlobal_builtin (by rw[I.ok.glob];exact I.mod.glob.keeps I.bk) hm (by rw[I.ok.blt];exact h1.keeps I.bk) ((h2 x hn).trans hv) h) hd
def a5h(hg:Gl X x)(hm:X.mg x=cz u)(r:RelV v u)(hd:(x==("__debug__":bt))=p4:=by decide):PE X (.Name x pos) (tC v):=
  λ_ _ _ H _ I h=>X7 I hg hm ⟨v,H,I,r,h⟩ hd
def a9h(hg:Gl X x)(hm:X.mg x=el)(hv:fg x=cz u)(r:RelV v u)(hn:x≠"__name__":=by decide)(hd:(x==("__debug__":bt))=p4:=by decide):PE X (.Name x pos) (tC v):=
  λ_ _ _ H _ I h=>V8 I hg hm hv ⟨v,H,I,r,h⟩ hn hd
variable {a b:Expr}{ta tb:TE}{pos:eA}
def PC(X:Cx)(op:CmpOp)(a b:Expr)(t:TE):Prop:=
  ∀(pins:List (aw×fm)) (s:aj) (Y:St) (H:Hp) (Q:VK),Inv X pins Y H s->t Y H Q->
    az (aO X.prog X.w) X.A (bX a X.env) (λv s₁=>az (aO X.prog X.w) X.A (bX b X.env) (λu s₂=>az (aO X.prog X.w) X.A (bO op v u) (EP X pins Y Q) X.xe s₂) X.xe s₁) X.xe s
def b1M(b:Expr)(h:op≠.In)(h2:op≠.NotIn):dP op b=p4:=by
  have e1:(op==CmpOp.In)=p4:=by cases op<;>first|rfl|exact absurd rfl h
  have e2:(op==CmpOp.NotIn)=p4:=by cases op<;>first|rfl|exact absurd rfl h2
  cases b<;>simp[dP,e1,e2]
def c2b(ta:TE):TE:=λY H Q=>ta Y H λx H1=>Q (.bl (decide (x=.non))) H1
def RelV.none_iff(r:RelV x v):(v==bZ)=decide (x=.non):=by
  cases x with
  |non=>cases r;rfl
  |bl _=>cases r;rfl
  |int _=>obtain⟨t,rfl⟩:=r;rfl
  |str _=>obtain⟨t,rfl⟩:=r;rfl
  |byt _=>obtain⟨t,rfl⟩:=r;rfl
  |flt _=>obtain⟨t,rfl⟩:=r;rfl
  |ref _=>cases r;rfl
  |ty _=>cases r;rfl
def b7L{j pos'}(ha:PE X a ta):PC X .Is a (.Constant .none j pos') (c2b ta):=by
  intro pins s Y H Q I h;refine thn (ha pins s Y H _ I h) λv s1 ⟨x,H1,I1,r1,q1⟩=>?_
  exact Constant_none (is_none_gen ⟨.bl _,H1,I1,by rw[r1.none_iff];rfl,q1⟩)
def tB(t:TE):TT:=λY H Q=>t Y H λx H1=>∃c,x=.bl c/\Q c H1
def b7M{op:CmpOp}{t:TE}(h:PC X op a b t)(h1:dP op b=p4:=by first|exact b1M _ (by decide) (by decide)|rfl):PT X (.Compare a [op] [b] pos) (tB t):=by
  intro pins s Y H Q I hw;refine Hv (thn (h pins s Y H _ I hw) λv s1 h1=>thn h1 λu s2 h2=>thn h2 λc s3 ⟨x,H1,I1,r1,q1⟩=>?_) h1;obtain⟨d,rfl,q⟩:=q1;cases r1
  exact df ⟨H1,I1,q⟩
variable {tA xW:TT}{rest:List Expr}
def c2c(t u:TT):TT:=λY H Q=>t Y H λc H1=>if c=fx then u Y H1 Q else Q p4 H1
def tOr(t u:TT):TT:=λY H Q=>t Y H λc H1=>if c=fx then Q fx H1 else u Y H1 Q
def c2d(t:TT):TT:=λY H Q=>t Y H λc H1=>Q (!c) H1
def b4X(ha:PT X a tA):PW X (.BoolOp .And [a] pos) tA:=by
  intro wh pins s Y H Q I h;refine isTrue_and (thn (ha pins s Y H Q I h) λc s1 e=>?_);cases c with
  |true=>exact isTrue_and_nil e
  |false=>exact e
def b7N(ha:PT X a tA):PW X (.BoolOp .Or [a] pos) tA:=by
  intro wh pins s Y H Q I h;refine isTrue_or (thn (ha pins s Y H Q I h) λc s1 e=>?_);cases c with
  |false=>exact isTrue_or_nil e
  |true=>exact e
def b7O(ha:PT X a tA)(hb:PW X (.BoolOp .And (b::rest) pos) xW):PW X (.BoolOp .And (a::b::rest) pos) (c2c tA xW):=by
  intro wh pins s Y H Q I h;refine isTrue_and (thn (ha pins s Y H _ I h) λc s1 ⟨H1,I1,q1⟩=>?_);cases c with
  |true=>exact hb wh pins s1 Y H1 Q I1 q1
  |false=>exact⟨H1,I1,q1⟩
def c0k(ha:PT X a tA)(hb:PW X (.BoolOp .Or (b::rest) pos) xW):PW X (.BoolOp .Or (a::b::rest) pos) (tOr tA xW):=by
  intro wh pins s Y H Q I h;refine isTrue_or (thn (ha pins s Y H _ I h) λc s1 ⟨H1,I1,q1⟩=>?_);cases c with
  |true=>exact⟨H1,I1,q1⟩
  |false=>exact hb wh pins s1 Y H1 Q I1 q1
def b7P(ha:PT X a tA):PT X (.UnaryOp .Not a pos) (c2d tA):=by
  intro pins s Y H Q I h;exact isTrue_not (ha pins s Y H (λc H1=>Q (!c) H1) I h)
def c0l(ta tb:TE):TE:=λY H Q=>ta Y H λx H1=>∃c,x=.bl c/\if c=fx then tb Y H1 Q else Q (.bl p4) H1
def c0m(ta:TE):TE:=λY H Q=>ta Y H λx H1=>∃c,x=.bl c/\Q (.bl (!c)) H1
def b7Q{op}(h:PE X a t):PE X (.BoolOp op [a] pos) t:=λpins s Y H Q I hw=>BoolOp_one (h pins s Y H Q I hw)
def b7R(ha:PE X a ta)(hb:PE X (.BoolOp .And (b::rest) pos) tb):PE X (.BoolOp .And (a::b::rest) pos) (c0l ta tb):=by
  intro pins s Y H Q I h;refine BoolOp_and (thn (ha pins s Y H _ I h) λv s1 ⟨x,H1,I1,r1,q1⟩=>?_);obtain⟨c,rfl,q1⟩:=q1;cases r1
  refine df ?_;cases c with
  |true=>exact hb pins s1 Y H1 Q I1 q1
  |false=>exact⟨.bl p4,H1,I1,rfl,q1⟩
def b7S(ha:PE X a ta):PE X (.UnaryOp .Not a pos) (c0m ta):=by
  intro pins s Y H Q I h;refine UnaryOp_ (thn (ha pins s Y H _ I h) λv s1 ⟨x,H1,I1,r1,q1⟩=>?_);obtain⟨c,rfl,q1⟩:=q1;cases r1
  exact not_of (df ⟨.bl (!c),H1,I1,rfl,q1⟩)
def tIf(t:TT)(ta tb:TE):TE:=λY H Q=>t Y H λc H1=>if c=fx then ta Y H1 Q else tb Y H1 Q
def b1N{c:Expr}(hc:PT X c tA)(ha:PE X a ta)(hb:PE X b tb):PE X (.IfExp c a b pos) (tIf tA ta tb):=by
  intro pins s Y H Q I h;refine wpAny_IfExp (thn (hc pins s Y H _ I h) λd s1 ⟨H1,I1,q1⟩=>?_);cases d with
  |true=>exact ha pins s1 Y H1 Q I1 q1
  |false=>exact hb pins s1 Y H1 Q I1 q1
end
def SqL(K:af)(H:Hp)(a:aw)(xs:List V):Prop:=
  Rd H a (.lst xs)\/
    ∃(o:fm) (cP:Array ai) (n:Nat),K.lookup a=cz o/\o.cls=.type "list"/\o.dict=el/\o.data=.seq cP n/\cP.size<=aQ/\Vals xs cP.toList
def SqT(K:af)(H:Hp)(a:aw)(xs:List V):Prop:=
  Rd H a (.tup xs)\/
    ∃(o:fm) (cP:Array ai) (n:Nat),K.lookup a=cz o/\o.cls=.type "tuple"/\o.data=.seq cP n/\cP.size<=aQ/\Vals xs cP.toList
def c2e:ai->Option V
  |.none=>cz .non
  |.bool b=>cz (.bl b)
  |.int i _=>cz (.int i)
  |.str x _=>cz (.str x)
  |.bytes b _=>cz (.byt b)
  |.float b _=>cz (.flt b)
  |.ref a=>cz (.ref a)
  |.type n=>cz (.ty n)
  |_=>el
def RelV.abs(r:RelV x u):c2e u=cz x:=by
  cases x with
  |non=>cases r;rfl
  |bl _=>cases r;rfl
  |int _=>obtain⟨t,rfl⟩:=r;rfl
  |str _=>obtain⟨t,rfl⟩:=r;rfl
  |byt _=>obtain⟨t,rfl⟩:=r;rfl
  |flt _=>obtain⟨t,rfl⟩:=r;rfl
  |ref _=>cases r;rfl
  |ty _=>cases r;rfl
def RelV.inj(r:RelV x u)(q:RelV y u):x=y:=aK (r.abs.symm.trans q.abs)
theorem Vals.inj:∀{xs ys:List V} {us:List ai},Vals xs us->Vals ys us->xs=ys
  |_,_,_,.nil,.nil=>rfl
  |_,_,_,.cons r t,.cons r' t'=>by rw[r.inj r',Vals.inj t t']
section
variable {X:Cx}{pins:List (aw×fm)}{Y:St}{H:Hp}{s:aj}{a:aw}{xs ys:List V}
def SqL.of{K:af}(h:H a=cz (.lst xs)):SqL K H a xs:=.inl (.inl h)
def SqT.of{K:af}(h:H a=cz (.tup xs)):SqT K H a xs:=.inl (.inl h)
def Inv.list(I:Inv X pins Y H s)(h:SqL X.K H a xs):∃cP:List ai,Vals xs cP/\PlainL s.heap a cP.toArray/\xs.length<=aQ:=by
  rcases h with h|⟨o,cP,n,hk,hc,hd,hs,hz,r⟩
  . obtain⟨z,cP,n,r,e⟩:=h.ok I.hok
    exact⟨cP,r,⟨_,n,e,rfl,rfl,rfl⟩,z⟩
  . refine⟨cP.toList,r,⟨o,n,I.kIn a o hk,hc,hd,by simpa using hs⟩,?_⟩
    have e:=r.length;simp only[cN]at e;omega
def Inv.tuple(I:Inv X pins Y H s)(h:SqT X.K H a xs):∃cP:List ai,Vals xs cP/\IsTup s.heap a cP.toArray/\xs.length<=aQ:=by
  rcases h with h|⟨o,cP,n,hk,hc,hs,hz,r⟩
  . obtain⟨z,cP,r,p⟩:=h.ok I.hok
    exact⟨cP,r,p,z⟩
  . refine⟨cP.toList,r,⟨o,I.kIn a o hk,hc,n,by simpa using hs⟩,?_⟩
    have e:=r.length;simp only[cN]at e;omega
def Inv.list_inj(I:Inv X pins Y H s)(h:SqL X.K H a xs)(h':SqL X.K H a ys):xs=ys:=by
  obtain⟨cP,r,⟨o,n,e,_,_,d⟩,_⟩:=I.list h;obtain⟨its',r',⟨o',n',e',_,_,d'⟩,_⟩:=I.list h';rw[e]at e';cases e';rw[d]at d'
  injection d' with d1 _
  have:cP=its':=by simpa using dY Array.toList d1
  subst this;exact r.inj r'
end
abbrev Cx.wish(X:Cx)(E:ai->aj->Prop):Cx:={X with xe:=E}
abbrev Cx.nox(X:Cx):Cx:=X.wish λ_ _=>False
theorem Cx.Ok.wish{X:Cx}(ok:X.Ok)(E:ai->aj->Prop):(X.wish E).Ok:=
  ⟨ok.mod,ok.kind,ok.glob,ok.blt,ok.above,ok.inj,ok.has,ok.cab,ok.hd,ok.frames,ok.stk,ok.exf,ok.bs,ok.bsz,ok.noex,ok.exfs,ok.funs,ok.frf,ok.tabs⟩
def Cx.Ok.unwish{X:Cx}(ok:(X.wish E).Ok):X.Ok:=
  ⟨ok.mod,ok.kind,ok.glob,ok.blt,ok.above,ok.inj,ok.has,ok.cab,ok.hd,ok.frames,ok.stk,ok.exf,ok.bs,ok.bsz,ok.noex,ok.exfs,ok.funs,ok.frf,ok.tabs⟩
section
variable {X:Cx}{pins:List (aw×fm)}{Y:St}{H:Hp}{s:aj}{E:ai->aj->Prop}
theorem Inv.wish(I:Inv X pins Y H s)(E:ai->aj->Prop):Inv (X.wish E) pins Y H s:=⟨I.ok.wish E,I.os,I.bare,I.base,I.loc,I.cell,I.free,I.freeC,I.pin,I.hok,I.len⟩
theorem Inv.unwish(I:Inv (X.wish E) pins Y H s):Inv X pins Y H s:=⟨I.ok.unwish,I.os,I.bare,I.base,I.loc,I.cell,I.free,I.freeC,I.pin,I.hok,I.len⟩
theorem SP.unwish(h:SP (X.wish E) pins D f s'):SP X pins D f s':=by
  cases f with
  |next=>obtain⟨Y',H',I,q⟩:=h;exact⟨Y',H',I.unwish,q⟩
  |brk=>obtain⟨Y',H',I,q⟩:=h;exact⟨Y',H',I.unwish,q⟩
  |cont=>obtain⟨Y',H',I,q⟩:=h;exact⟨Y',H',I.unwish,q⟩
  |ret u=>obtain⟨v,Y',H',I,r,q⟩:=h;exact⟨v,Y',H',I.unwish,r,q⟩
theorem PSs.nox{st:List fS}{t:TS}(h:PSs X.nox st t):PSs X st t:=λpins s Y H D I hw=>
  cK (h pins s Y H D (I.wish _) hw) (λ_ _ q=>q.unwish) λ_ _ z=>cy z
end
section
variable {X:Cx}{st:fS}{rest:List fS}{t u:TS}{e:Expr}{te:TE}{pos:eA}
def b1O:TS:=λD Y H=>D.nx Y H
def b7T(t u:TS):TS:=λD Y H=>t {D with nx:=u D} Y H
def a5i:PSs X [] b1O:=λ_ _ Y H _ I h=>jR ⟨Y,H,I,h⟩
def K6(h1:PS X st t)(h2:PSs X rest u):PSs X (st::rest) (b7T t u):=by
  intro pins s Y H D I h;refine wpAny_execs_cons (thn (h1 pins s Y H {D with nx:=u D} I h) λf s1 q=>?_);cases f with
  |next=>
    obtain⟨Y',H',I',q⟩:=q;exact h2 pins s1 Y' H' D I' q
  |ret v=>exact q
  |brk=>exact q
  |cont=>exact q
def a9i(h1:PS X st t):PSs X [st] t:=by
  intro pins s Y H D I h;refine wpAny_execs_cons (thn (h1 pins s Y H D I h) λf s1 q=>?_);cases f with
  |next=>exact jR q
  |ret v=>exact q
  |brk=>exact q
  |cont=>exact q
def Inv.quiet{pins:List (aw×fm)}{Y:St}{H:Hp}{s:aj}(I:Inv X pins Y H s):interactive X.env=p4:=by simp[interactive,I.ok.kind]
def c0n(te:TE):TS:=λD Y H=>te Y H λ_ H1=>D.nx Y H1
def a0s(he:PE X e te)(hs:fP e el pos.line X.env=pure p4:=by rfl):PS X (.Expr e pos) (c0n te):=by
  intro pins s Y H D I h;exact wpAny_Expr_any (thn (he pins s Y H _ I h) λv s1 ⟨x,H1,I1,r1,q1⟩=>⟨Y,H1,I1,q1⟩) I.quiet hs
def c2f(te:TE):TS:=λD Y H=>te Y H D.rt
def b1P(he:PE X e te):PS X (.Return (cz e) pos) (c2f te):=by
  intro pins s Y H D I h;exact wpAny_Return_some (thn (he pins s Y H _ I h) λv s1 ⟨x,H1,I1,r1,q1⟩=>⟨x,Y,H1,I1,r1,q1⟩)
def c0o(c:TT)(t u:TS):TS:=λD Y H=>c Y H λb H1=>if b=fx then t D Y H1 else u D Y H1
def b1Q{c:Expr}{a b:List fS}{tc:TT}(hc:PT X c tc)(ha:PSs X a t)(hb:PSs X b u):PS X (.If c a b pos) (c0o tc t u):=by
  intro pins s Y H D I h;refine wpAny_If (thn (hc pins s Y H _ I h) λd s1 ⟨H1,I1,q1⟩=>?_);cases d with
  |true=>exact ha pins s1 Y H1 D I1 q1
  |false=>exact hb pins s1 Y H1 D I1 q1
def b7U:TS:=λ_ _ _=>False
def b1R:PS X st b7U:=λ_ _ _ _ _ _ h=>h.elim
end
abbrev TG:=V->St->Hp->(St->Hp->Prop)->Prop
abbrev TGs:=List V->St->Hp->(St->Hp->Prop)->Prop
def PG(X:Cx)(target:Expr)(t:TG):Prop:=
  ∀(pins:List (aw×fm)) (s:aj) (Y:St) (H:Hp) (v:V) (u:ai) (Q:St->Hp->Prop),Inv X pins Y H s->RelV v u->t v Y H Q->
    az (aO X.prog X.w) X.A (mC target X.env u) (λ_ s'=>∃Y' H',Inv X pins Y' H' s'/\Q Y' H') X.xe s
def PGs(X:Cx)(ts:List Expr)(t:TGs):Prop:=
  ∀(pins:List (aw×fm)) (s:aj) (Y:St) (H:Hp) (vs:List V) (us:List ai) (Q:St->Hp->Prop),Inv X pins Y H s->Vals vs us->t vs Y H Q->
    az (aO X.prog X.w) X.A (assignInOrder ((gB ts X.env).map (·.2)) us) (λ_ s'=>∃Y' H',Inv X pins Y' H' s'/\Q Y' H') X.xe s
section
variable {X:Cx}{pos:eA}
def Q4(i:Nat):TG:=λv Y H Q=>Q (Y.set i (cz v)) H
def B0(hN:X.N.Nodup)(hi:X.N[i]?=cz x)(hx:Loc X.env.scope x)(hf:autoParam (X.fn x=fx\/X.env.scope.names.lookup x=cz .local) ZZ._auto_1):PG X (.Name x pos) (Q4 i):=by
  intro pins s Y H v u Q I r h;exact wpAny_assign_Name (a0r I hN hi hx r (λs' I'=>⟨_,H,I',h⟩) hf)
def b4Y:TGs:=λvs Y H Q=>vs=[]/\Q Y H
def a2u(t:TG)(u:TGs):TGs:=λvs Y H Q=>∃v r,vs=v::r/\t v Y H λY' H'=>u r Y' H' Q
def O6:PGs X [] b4Y:=by
  intro pins s Y H vs us Q I r h;obtain⟨e,h⟩:=h;subst e;cases r
  exact assignInOrder_nil ⟨Y,H,I,h⟩
def u8{e:Expr}{es:List Expr}{t:TG}{u:TGs}(h1:PG X e t)(h2:PGs X es u)
    (hs:(gB (e::es) X.env).map (·.2)=mC e X.env::(gB es X.env).map (·.2):=by rfl):PGs X (e::es) (a2u t u):=by
  intro pins s Y H vs us Q I r h;obtain⟨v,vr,e1,h⟩:=h;subst e1;cases r with
  |cons r rr=>
    rw[hs];refine assignInOrder_cons (thn (h1 pins s Y H _ _ _ I r h) λ_ s1 ⟨Y1,H1,I1,q1⟩=>?_);exact h2 pins s1 Y1 H1 _ _ Q I1 rr q1
def b7V(K:af)(n:Nat)(t:TGs):TG:=λv Y H Q=>∃a xs,v=.ref a/\SqT K H a xs/\xs.length=n/\t xs Y H Q
def a2v(hc:X.calm=fx)(h:PGs X es t)
    (hn:(gB es X.env).length=n:=by rfl) (oh:(gB es X.env).findIdx? (·.1)=el:=by rfl):PG X (.Tuple es k pos) (b7V X.K n t):=by
  intro pins s Y H v u Q I r hw;obtain⟨a,xs,e1,hq,hl,hw⟩:=hw;subst e1;cases r
  obtain⟨cP,rv,ht,hz⟩:=I.tuple hq;refine assign_Tuple_tuple (I.ok.hd hc) ht (by simp[hn,<-hl,rv.length]) oh λh' hx=>?_
  have I1:Inv X pins Y H {s with heap:=h'}:=I.kept (t':=s.toks) λb o e=>hx b o (a_ (aB e)) e
  exact h pins _ Y H xs _ Q I1 (by simpa using rv) hw
def b7W(te:TE)(g:TG):TS:=λD Y H=>te Y H λx H1=>g x Y H1 D.nx
def a7A{tg e:Expr}{te:TE}{g:TG}(he:PE X e te)(hg:PG X tg g)(hs:oU [tg] e pos.line X.env=pure p4:=by rfl)(hw:oV [tg] e X.env=pure el:=by rfl)
    (h1:(gB [tg] X.env).map (·.2)=[mC tg X.env]:=by rfl):PS X (.Assign [tg] e pos) (b7W te g):=by
  intro pins s Y H D I h;refine wpAny_Assign_stores (thn (he pins s Y H _ I h) λv s1 ⟨x,H1,I1,r1,q1⟩=>?_) hs hw;rw[h1];exact thn (hg pins s1 Y H1 x v _ I1 r1 q1) λ_ s2 q=>q
def b1S{i:Nat}{x:bt}{e:Expr}{te:TE}{pos':eA}(hN:X.N.Nodup)(hi:X.N[i]?=cz x)(hx:Loc X.env.scope x)(he:PE X e te)(hs:fP e (cz (.Name x pos')) pos.line X.env=pure p4:=by rfl)(hf:autoParam (X.fn x=fx\/X.env.scope.names.lookup x=cz .local) ZZ._auto_1) :
    PS X (.Assign [.Name x pos'] e pos) (b7W te (Q4 i)):=by
  intro pins s Y H D I h;refine wpAny_Assign_Name (thn (he pins s Y H _ I h) λv s1 ⟨y,H1,I1,r1,q1⟩=>?_) hs;exact a0r I1 hN hi hx r1 (λs2 I2=>⟨_,H1,I2,q1⟩) hf
def b7X(c:TT)(tb:TS):TS:=λD Y H=>∃W:Nat->St->Hp->Prop,(∃m,W m Y H)/\∀m Y H,W m Y H->
  c Y H λb H1=>if b=fx then ∃N:St->Hp->Prop,(∀Y' H',N Y' H'->∃m',m'<m/\W m' Y' H')/\tb {D with nx:=N,ct:=N,bk:=D.nx} Y H1 else D.nx Y H1
def a6c{c:Expr}{body:List fS}{tc:TT}{tb:TS}(hp:kz (aO X.prog X.w) X.A X.env X.xe)(hc:PT X c tc)(hb:PSs X body tb):PS X (.While c body [] pos) (b7X tc tb):=by
  intro pins s Y H D I h;obtain⟨W,⟨m0,w0⟩,turn⟩:=h;refine wpAny_While (codeAny_whileLoop (λn s'=>∃Y' H',Inv X pins Y' H' s'/\W n Y' H') ?_ m0 ⟨Y,H,I,w0⟩);rintro n s1 ⟨Y1,H1,I1,w1⟩;refine gD hp (thn (hc pins s1 Y1 H1 _ I1 (turn n Y1 H1 w1)) λb s2 ⟨H2,I2,q2⟩=>?_);cases b with
  |true=>
    obtain⟨N,hN,q2⟩:=q2;rw[aJ rfl];refine gD hp (thn (hb pins s2 Y1 H2 _ I2 q2) λf s3 q3=>?_);cases f with
    |next=>
      obtain⟨Y3,H3,I3,n3⟩:=q3;obtain⟨m',hm,w3⟩:=hN Y3 H3 n3;exact⟨m',hm,Y3,H3,I3,w3⟩
    |cont=>
      obtain⟨Y3,H3,I3,n3⟩:=q3;obtain⟨m',hm,w3⟩:=hN Y3 H3 n3;exact⟨m',hm,Y3,H3,I3,w3⟩
    |brk=>exact q3
    |ret v=>exact q3
  |false=>
    rw[aN bc];exact jR ⟨Y1,H2,I2,q2⟩
end
structure It where
  go:Nat->Hp->Prop
  yld:Nat->Hp->V->Hp->Prop
  stop:Nat->Hp->Prop
def a2w(X:Cx)(pins:List (aw×fm))(H:Hp)(b:aw):Prop:=
  H b=el/\b≠X.env.locals/\b∉X.fs/\(b∈X.ex\/X.s₀.heap.objs.size<=b)/\(∀x c,X.env.cells.lookup x=cz c->c≠b)/\∀p∈X.pn++pins,p.1≠b
def Inv.fpOk(I:Inv X pins Y H s)(hb:s.heap.objs.size<=b)(hn:H' b=el):a2w X pins H' b:=by
  refine⟨hn,dz (bb I.lt hb),I.nofs hb,.inr (cx I.sz hb),λx c e z=>?_,λp hp z=>?_⟩
  . obtain⟨v,q⟩:=I.cell x c e
    exact absurd (bb q.lt (by rw[z];exact hb)) (cR _)
  . exact absurd (bb (aB (I.pin p hp).1) (by rw[z];exact hb)) (cR _)
structure Turn (P:br) (w:bK) (K:af) (tg:Expr) (J:It) (fp:List aw) (it:aw) (tn:Nat->bL->Prop):Prop where
  mem:it∈fp
  obj:∀i h,tn i h->∀b∈fp,∃o,h.get? b=cz o/\∀v,o.data≠.cell v
  keep:∀i h h',tn i h->(∀b∈fp,∀o,h.get? b=cz o->h'.get? b=cz o)->tn i h'
  item:∀(X:Cx),X.prog=P->X.w=w->X.K=K->X.calm=fx->∀(i:Nat) (pins:List (aw×fm)) (s:aj) (Y:St) (H:Hp) (E:ai->aj->Prop),Inv X pins Y H s->(∀b∈fp,a2w X pins H b)->tn i s.heap->J.go i H->
    az (aO P w) X.A (fJ (.ref it)) (λr s1=>∃u,r=cz u/\
      az (aO P w) X.A (mJ tg (.ref it) u) (λ_ s2=>∃x H',Inv X pins Y H' s2/\RelV x u/\J.yld i H x H'/\tn (i+1) s2.heap/\∀b∈fp,H' b=el) E s1) E s
  done:∀(X:Cx),X.prog=P->X.w=w->X.K=K->X.calm=fx->∀(i:Nat) (pins:List (aw×fm)) (s:aj) (Y:St) (H:Hp) (E:ai->aj->Prop),Inv X pins Y H s->(∀b∈fp,a2w X pins H b)->tn i s.heap->J.stop i H->
    az (aO P w) X.A (fJ (.ref it)) (λr s1=>r=el/\Inv X pins Y H s1) E s
  self:∀(A:bB) (i:Nat) (s:aj) (Q:ai->aj->Prop) (E:ai->aj->Prop),tn i s.heap->Q (.ref it) s->az (aO P w) A (pF (.ref it)) Q E s
abbrev TI:=St->Hp->(It->Hp->Prop)->Prop
def PIE(X:Cx)(pins:List (aw×fm))(Y:St)(tg:Expr)(R:It->Hp->Prop)(zc:ai)(s2:aj):Prop:=
  ∃(it:aw) (fp:List aw) (tn:Nat->bL->Prop) (J:It) (H':Hp),zc=.ref it/\Inv X pins Y H' s2/\Turn X.prog X.w X.K tg J fp it tn/\tn 0 s2.heap/\(∀b∈fp,a2w X pins H' b)/\R J H'
def PI(X:Cx)(tg iter:Expr)(wi:TI):Prop:=
  ∀(pins:List (aw×fm)) (s:aj) (Y:St) (H:Hp) (R:It->Hp->Prop),Inv X pins Y H s->wi Y H R->
    az (aO X.prog X.w) X.A (bX iter X.env) (λv s1=>az (aO X.prog X.w) X.A (pF v) (PIE X pins Y tg R) X.xe s1) X.xe s
def b1T{s:aj}(ho:s.heap.get? it=cz o)(hc:o.cls=.type n)(hd:o.data=.fields vs)
    (hn:["enumerate","zip","dict_itemiterator","dict_reverseitemiterator","odict_iterator","itertools.zip_longest","itertools.pairwise"].contains n=p4) (hQ:Q () s):az M A (mJ tg (.ref it) u) Q E s:=by
  unfold mJ;cases tg<;>first
    |exact ag hQ
    | (cases u<;>first
        |exact ag hQ
        | (refine ae (mn ho ?_)
           rw[hc,hd];show az M A (if (["enumerate","zip","dict_itemiterator","dict_reverseitemiterator","odict_iterator","itertools.zip_longest","itertools.pairwise"].contains n&&vs[0]?==cz (c_ _))=fx then _ else _) Q E s;rw[aN (by intro h;rw[hn,Bool.false_and]at h;cases h)];exact ag hQ))
def Itl(K:af)(a:aw):It:=
  ⟨λi H=>∃xs x,SqL K H a xs/\xs[i]?=cz x,λi H x H'=>H'=H/\∀xs,SqL K H a xs->xs[i]?=cz x,λi H=>∃xs,SqL K H a xs/\xs.length<=i⟩
def Itr(lo:Int)(n:Nat):It:=⟨λi _=>i<n,λi H x H'=>H'=H/\x=.int (lo+i),λi _=>n<=i⟩
def b0h{P:br}{w:bK}{K:af}{tg:Expr}(a it:aw):Turn P w K tg (Itl K a) [it] it (λi h=>h.IsListIter it a i) where
  mem:=by simp
  obj:=λi h st b hb=>by
    have e:b=it:=by simpa using hb
    subst e;obtain⟨o,e,c,d⟩:=st;exact⟨o,e,λv z=>by rw[d]at z;cases z⟩
  keep:=λi h h' st k=>st.at λo e=>k it (by simp) o e
  item:=by
    intro X hP hw hK hc i pins s Y H E I hf st hg;subst hP hw hK;obtain⟨xs,x,hq,hx⟩:=hg;obtain⟨cP,rv,p,hz⟩:=I.list hq;obtain⟨u,hu,ru⟩:=rv.get hx;obtain⟨f0,f1,f2,f3,f4,f5⟩:=hf it (by simp);refine Dt st p.isList (x:=u) (by simpa using hu) λh' rR sb=>?_
    have I1:Inv X pins Y H {s with heap:=h'}:=I.turned (t':=s.toks) (λb o hb e=>(sb.2 b hb).trans e) f0 f1 f3 f4 f5;obtain⟨o,e,c,d⟩:=id rR;exact⟨u,rfl,b1T (s:={s with heap:=h'}) e c d (by decide) ⟨x,H,I1,ru,⟨rfl,λys hy=>by rw[I.list_inj hy hq];exact hx⟩,rR,λb hb=>(hf b hb).1⟩⟩
  done:=by
    intro X hP hw hK hc i pins s Y H E I hf st hg;subst hP hw hK;obtain⟨xs,hq,hx⟩:=hg;obtain⟨cP,rv,p,hz⟩:=I.list hq;obtain⟨f0,f1,f2,f3,f4,f5⟩:=hf it (by simp);have hl:=rv.length;exact Hu (I.ok.hd hc) st p.isList (by simp;omega) λh' eb=>⟨rfl,I.turned (t':=s.toks) (λb o hb e=>eb b o hb e) f0 f1 f3 f4 f5⟩
  self:=λ_ _ _ _ _ st h=>wpAny_pyIter_listiter st h
def a7B{P:br}{w:bK}{K:af}{tg:Expr}(it:aw)(lo:Int)(n:Nat):Turn P w K tg (Itr lo n) [it] it (λi h=>IsRangeIter h it (lo+(i:Nat)*1) ((n:Int)-(i:Nat)) 1) where
  mem:=by simp
  obj:=λi h st b hb=>by
    have e:b=it:=by simpa using hb
    subst e;exact⟨_,st,λv z=>by
      have z':Data.fields _=Data.cell v:=z;cases z'⟩
  keep:=λi h h' st k=>k it (by simp) _ st
  item:=by
    intro X hP hw hK hc i pins s Y H E I hf st hg;subst hP hw hK;obtain⟨f0,f1,f2,f3,f4,f5⟩:=hf it (by simp);have W:=Walks.range (prog:=X.prog) (w:=X.w) (I.ok.hd hc) it lo 1 n;refine W.item i s _ _ hg st λv h' tk hv rR kk=>?_
    obtain⟨t,rfl⟩:=hv;have I1:Inv X pins Y H {s with heap:=h',toks:=tk}:=I.turned (λb o hb e=>kk b o (by simpa using hb) e) f0 f1 f3 f4 f5;refine⟨_,rfl,b1T (s:={s with heap:=h',toks:=tk}) (n:="range_iterator") rR rfl rfl (by decide) ⟨.int (lo+i),H,I1,⟨t,?_⟩,⟨rfl,rfl⟩,rR,λb hb=>(hf b hb).1⟩⟩;rw[Int.mul_one]
  done:=by
    intro X hP hw hK hc i pins s Y H E I hf st hg;subst hP hw hK;obtain⟨f0,f1,f2,f3,f4,f5⟩:=hf it (by simp);exact wpAny_pyNext_range_end (I.ok.hd hc) st (by have:n<=i:=hg;omega) λh' eb=>⟨rfl,I.turned (t':=s.toks) (λb o hb e=>eb b o hb e) f0 f1 f3 f4 f5⟩
  self:=λ_ _ _ _ _ st h=>wpAny_pyIter_rangeiter st h
section
variable {X:Cx}{tg:Expr}
def c0p(K:af)(tl:TE):TI:=λY H R=>tl Y H λx H1=>∃a,x=.ref a/\(∃xs,SqL K H1 a xs)/\R (Itl K a) H1
def b4Z{l:Expr}{tl:TE}(hl:PE X l tl):PI X tg l (c0p X.K tl):=by
  intro pins s Y H R I h;refine thn (hl pins s Y H _ I h) λv s1 ⟨x,H1,I1,r1,q1⟩=>?_
  obtain⟨a,e,⟨xs,hq⟩,q⟩:=q1;subst e;cases r1
  obtain⟨cP,rv,p,hz⟩:=I1.list hq;refine lh p.isList ?_;refine⟨s1.heap.objs.size,[s1.heap.objs.size],_,_,H1,rfl,I1.kept (t':=s1.toks) λb o e=>ah _ e,b0h a _,⟨_,aF _ rfl,rfl,rfl⟩,λb hb=>?_,q⟩;have e:b=s1.heap.objs.size:=by simpa using hb
  subst e;exact I1.fpOk (aG _) (I1.hok.fresh (aG _))
def b1U{pins:List (aw×fm)}{Y:St}{H:Hp}{s:aj}{R:It->Hp->Prop}{E:ai->aj->Prop}{lo hi:Int}{t u v:Tok}{tk:Nat}(I:Inv X pins Y H s)(h1:-(2^62)<=lo)(h2:lo<2^62)(h3:-(2^62)<=hi)(h4:hi<2^62)
    (q:R (Itr lo (hi-lo).toNat) H):az (aO X.prog X.w) X.A (pF (.ref s.heap.objs.size)) (PIE X pins Y tg R) E {s with heap:=s.heap.push {cls:=.type "range",data:=.fields #[.int lo t,.int hi u,.int 1 v]},toks:=tk}:=by
  refine wpAny_pyIter_range (IsRange.new ..) (small_one h1 h2 h3 h4) ?_;have I1:Inv X pins Y H {s with heap:=s.heap.push {cls:=.type "range",data:=.fields #[.int lo t,.int hi u,.int 1 v]},toks:=tk}:=I.kept λb o e=>ah _ e
  refine⟨(s.heap.push {cls:=.type "range",data:=.fields #[.int lo t,.int hi u,.int 1 v]}).objs.size,[(s.heap.push {cls:=.type "range",data:=.fields #[.int lo t,.int hi u,.int 1 v]}).objs.size],_,_,H,rfl,
    I1.kept (t':=tk) λb o e=>ah _ e,a7B _ lo (hi-lo).toNat,?_,λb hb=>?_,q⟩
  . have e1:lo+((0:Nat):Int)*1=lo:=by simp
    have e2:(((hi-lo).toNat:Nat):Int)-((0:Nat):Int)=Dj lo hi 1:=by rw[rangeSize_one];split<;>omega
    show IsRangeIter _ _ (lo+((0:Nat):Int)*1) ((((hi-lo).toNat:Nat):Int)-((0:Nat):Int)) 1;rw[e1,e2];exact aF _ rfl
  . have e:b=(s.heap.push {cls:=.type "range",data:=.fields #[.int lo t,.int hi u,.int 1 v]}).objs.size:=by simpa using hb
    subst e;exact I1.fpOk (aG _) (I1.hok.fresh (aG _))
def c0q(ta:TA):TI:=λY H R=>ta Y H λvs H1=>∃j:Int,vs=[.int j]/\-(2^62)<=j/\j<2^62/\R (Itr 0 j.toNat) H1
def b0i{a:Expr}{ta:TA}{p pos:eA}(hg:Gl X "range")(hm:X.mg "range"=el)(ha:PA X [a] ta)(hs:ak [a] X.env=[(p4,bX a X.env)]:=by rfl):PI X tg (.Call (.Name "range" p) [a] [] pos) (c0q ta):=by
  intro pins s Y H R I h;refine Call_ (V8 I hg hm boot_range (dW (thn (ha pos pins s Y H _ I h) λus s1 ⟨vs,H1,I1,r1,q1⟩=>?_) hs rfl));obtain⟨j,e,q1,q2,q⟩:=q1;subst e;cases r1 with
  |cons r rr=>
    cases rr
    obtain⟨t,rfl⟩:=r;exact call_range_1 (b1U I1 (by omega) (by omega) q1 q2 (by simpa using q))
def c2g(wi:TI)(g:TG)(tb:TS):TS:=λD Y H=>wi Y H λJ H1=>∃W:Nat->Nat->St->Hp->Prop,(∃m,W 0 m Y H1)/\∀i m Y H,W i m Y H->
  (J.stop i H/\D.nx Y H)\/(J.go i H/\∃N:St->Hp->Prop,(∀Y' H',N Y' H'->∃m',m'<m/\W (i+1) m' Y' H')/\∀x H',J.yld i H x H'->g x Y H' λY2 H2=>tb {D with nx:=N,ct:=N,bk:=D.nx} Y2 H2)
def a5j(fp:List aw)(h:bL):List (aw×fm):=fp.filterMap λb=>(h.get? b).map λo=>(b,o)
def E4{h:bL}(hb:b∈fp)(e:h.get? b=cz o):(b,o)∈a5j fp h:=dM.mpr ⟨b,hb,by rw[e];rfl⟩
def b0j(hp:p∈a5j fp h):p.1∈fp/\h.get? p.1=cz p.2:=by
  obtain⟨b,hb,e⟩:=dM.mp hp;cases q:h.get? b with
  |none=>rw[q]at e;cases e
  |some o=>
    rw[q]at e;have e':(b,o)=p:=aK e;subst e';exact⟨hb,q⟩
def Inv.pinned(I:Inv X pins Y H s)(hf:∀b∈fp,a2w X pins H b)(ho:∀b∈fp,∃o,s.heap.get? b=cz o/\∀v,o.data≠.cell v):Inv X (pins++a5j fp s.heap) Y H s:=
  I.pins_of λp hp=>(aC.mp hp).elim (λz=>I.pin p (ax _ z)) λz=>by
    obtain⟨hb,e⟩:=b0j z;obtain⟨f0,f1,f2,_⟩:=hf p.1 hb;obtain⟨o,e',d⟩:=ho p.1 hb;rw[e]at e';cases e';exact⟨e,f0,f1,f2,d⟩
def Inv.unpinned(I:Inv X (pins++pl) Y H s):Inv X pins Y H s:=I.pins_of λp hp=>I.pin p (ax _ (aM _ hp))
def a7C(hp:kz (aO X.prog X.w) X.A X.env X.xe)(hc:X.calm=fx)(hi:PI X tg iter wi)(hg:PG X tg g)(hb:PSs X body tb)
    (hs:∀x,eO iter X.env x=pure x:=by intro _;rfl):PS X (.For tg iter body [] pos) (c2g wi g tb):=by
  intro pins s Y H D I h;refine wpAny_For (thn (hi pins s Y H _ I h) λv s1 h1=>thn h1 λzc s2 h2=>?_) hs;obtain⟨it,fp,tn,J,H2,e,I2,T,vC,f2,W,⟨m0,w0⟩,turn⟩:=h2;subst e;have oy:∀{H':Hp},(∀b∈fp,H' b=el)->∀b∈fp,a2w X pins H' b:=λhn b hb=>⟨hn b hb,(f2 b hb).2⟩
  refine codeAny_forLoop_any (λn s'=>∃i Y' H',Inv X pins Y' H' s'/\tn i s'.heap/\(∀b∈fp,H' b=el)/\W i n Y' H') ?_ m0 ⟨0,Y,H2,I2,vC,λb hb=>(f2 b hb).1,w0⟩;rintro n s3 ⟨i,Y3,H3,I3,vB,xD,w3⟩;rcases turn i n Y3 H3 w3 with⟨stop,qn⟩|⟨go,N,hN,step⟩
  . refine gD hp (thn (T.done X rfl rfl rfl hc i pins s3 Y3 H3 X.xe I3 (oy xD) vB stop) λr s4 ⟨hr,I4⟩=>?_)
    subst hr;exact jR ⟨Y3,H3,I4,qn⟩
  . refine gD hp (thn (T.item X rfl rfl rfl hc i pins s3 Y3 H3 X.xe I3 (oy xD) vB go) λr s4 ⟨u,hr,h4⟩=>?_)
    subst hr;refine gD hp (thn h4 λ_ s5 ⟨x,H5,I5,r5,y5,rQ,Ay⟩=>?_);have AM:=I5.pinned (oy Ay) (T.obj _ _ rQ);refine gD hp (thn (hg _ s5 Y3 H5 x u _ AM r5 (step x H5 y5)) λ_ s6 ⟨Y6,H6,I6,q6⟩=>?_);refine gD hp (thn (hb _ s6 Y6 H6 _ I6 q6) λf s7 q7=>?_);have again:∀{Y7:St} {H7:Hp},Inv X (pins++a5j fp s5.heap) Y7 H7 s7->N Y7 H7->∃m,m<n/\∃i Y' H',Inv X pins Y' H' s7/\tn i s7.heap/\(∀b∈fp,H' b=el)/\W i m Y' H':=λ{Y7 H7} I7 n7=>by
      obtain⟨m',hm,w7⟩:=hN Y7 H7 n7;refine⟨m',hm,i+1,Y7,H7,I7.unpinned,T.keep _ _ _ rQ λb hb o e=>(I7.pin (b,o) (ax _ (ax _ (E4 hb e)))).1,λb hb=>?_,w7⟩;obtain⟨o,e,d⟩:=T.obj _ _ rQ b hb;exact (I7.pin (b,o) (ax _ (ax _ (E4 hb e)))).2.1
    cases f with
    |next=>obtain⟨Y7,H7,I7,n7⟩:=q7;exact again I7 n7
    |cont=>obtain⟨Y7,H7,I7,n7⟩:=q7;exact again I7 n7
    |brk=>obtain⟨Y7,H7,I7,q7⟩:=q7;exact⟨Y7,H7,I7.unpinned,q7⟩
    |ret v=>obtain⟨x7,Y7,H7,I7,r7,q7⟩:=q7;exact⟨x7,Y7,H7,I7.unpinned,r7,q7⟩
end
abbrev R2:=V->V->Hp->VK->Prop
def OpR(X:Cx)(f:ai->ai->Sem ai)(r:R2):Prop:=
  ∀(pins:List (aw×fm)) (s:aj) (Y:St) (H:Hp) (x y:V) (v u:ai) (Q:VK),Inv X pins Y H s->RelV x v->RelV y u->r x y H Q->
    az (aO X.prog X.w) X.A (f v u) (EP X pins Y Q) X.xe s
def UnR(X:Cx)(f:ai->Sem ai)(r:V->Hp->VK->Prop):Prop:=
  ∀(pins:List (aw×fm)) (s:aj) (Y:St) (H:Hp) (x:V) (v:ai) (Q:VK),Inv X pins Y H s->RelV x v->r x H Q->
    az (aO X.prog X.w) X.A (f v) (EP X pins Y Q) X.xe s
def CallR(X:Cx)(f:ai)(r:List V->Hp->VK->Prop):Prop:=
  ∀(pins:List (aw×fm)) (s:aj) (Y:St) (H:Hp) (xs:List V) (us:List ai) (Q:VK),Inv X pins Y H s->Vals xs us->r xs H Q->
    az (aO X.prog X.w) X.A (call f us) (EP X pins Y Q) X.xe s
def c2h(X:Cx)(r:V->Hp->(Bool->Hp->Prop)->Prop):Prop:=
  ∀(pins:List (aw×fm)) (s:aj) (Y:St) (H:Hp) (x:V) (v:ai) (Q:Bool->Hp->Prop),Inv X pins Y H s->RelV x v->r x H Q->
    az (aO X.prog X.w) X.A (vA v) (TP X pins Y Q) X.xe s
def tOp(r:R2)(ta tb:TE):TE:=λY H Q=>ta Y H λx H1=>tb Y H1 λy H2=>r x y H2 Q
def tUn(r:V->Hp->VK->Prop)(ta:TE):TE:=λY H Q=>ta Y H λx H1=>r x H1 Q
def rI(C:Int->Int->Prop)(g:Int->Int->V):R2:=λx y H Q=>∃i j,x=.int i/\y=.int j/\C i j/\Q (g i j) H
def rI0(g:Int->Int->V):R2:=λx y H Q=>∃i j,x=.int i/\y=.int j/\Q (g i j) H
def rU(g:Int->V):V->Hp->VK->Prop:=λx H Q=>∃i,x=.int i/\Q (g i) H
section
variable {X:Cx}{a b c:Expr}{ta tb tc:TE}{pos:eA}
def b7Y(ha:PE X a ta)(hb:PE X b tb){pins:List (aw×fm)}{s:aj}{Y:St}{H:Hp}{R:V->V->Hp->Prop}(I:Inv X pins Y H s)
    (h:ta Y H λx H1=>tb Y H1 λy H2=>R x y H2) {Q:ai->aj->Prop} {f:ai->ai->Sem ai}
    (hf:∀v u s2 x y H2,Inv X pins Y H2 s2->RelV x v->RelV y u->R x y H2->az (aO X.prog X.w) X.A (f v u) Q X.xe s2) :
    az (aO X.prog X.w) X.A (bX a X.env) (λv s₁=>az (aO X.prog X.w) X.A (bX b X.env) (λu s₂=>az (aO X.prog X.w) X.A (f v u) Q X.xe s₂) X.xe s₁) X.xe s:=by
  refine thn (ha pins s Y H _ I h) λv s1 ⟨x,H1,I1,r1,q1⟩=>?_
  refine thn (hb pins s1 Y H1 _ I1 q1) λu s2 ⟨y,H2,I2,r2,q2⟩=>?_
  exact hf v u s2 x y H2 I2 r1 r2 q2
def b1V{op:Operator}{r:R2}(ho:OpR X (eF op) r)(ha:PE X a ta)(hb:PE X b tb):PE X (.BinOp a op b pos) (tOp r ta tb):=by
  intro pins s Y H Q I h;exact wpAny_BinOp (b7Y ha hb I h λv u s2 x y H2 I2 rx ry q=>ho pins s2 Y H2 x y v u Q I2 rx ry q)
def c0r(ho:UnR X (unaryOp op) r)(ha:PE X a ta):PE X (.UnaryOp op a pos) (tUn r ta):=by
  intro pins s Y H Q I h;exact UnaryOp_ (thn (ha pins s Y H _ I h) λv s1 ⟨x,H1,I1,r1,q1⟩=>ho pins s1 Y H1 x v Q I1 r1 q1)
def opI{f:ai->ai->Sem ai}{C:Int->Int->Prop}{g:Int->Int->Int}
    (rule:∀(i j:Int) (t u:Tok) (s:aj) (Q:ai->aj->Prop) (E:ai->aj->Prop),C i j->Q (.int (g i j) s.toks) {s with toks:=s.toks+1}->az (aO X.prog X.w) X.A (f (.int i t) (.int j u)) Q E s) :
    OpR X f (rI C λi j=>.int (g i j)):=by
  intro pins s Y H x y v u Q I rx ry h;obtain⟨i,j,rfl,rfl,hc,q⟩:=h;obtain⟨t,rfl⟩:=rx;obtain⟨t',rfl⟩:=ry;exact rule i j t t' s _ _ hc ⟨.int (g i j),H,I.tok _,⟨_,rfl⟩,q⟩
def c0s{f:ai->ai->Sem ai}{g:Int->Int->Int}
    (rule:∀(i j:Int) (t u:Tok) (s:aj) (Q:ai->aj->Prop) (E:ai->aj->Prop),Q (.int (g i j) s.toks) {s with toks:=s.toks+1}->az (aO X.prog X.w) X.A (f (.int i t) (.int j u)) Q E s) :
    OpR X f (rI0 λi j=>.int (g i j)):=by
  intro pins s Y H x y v u Q I rx ry h;obtain⟨i,j,rfl,rfl,q⟩:=h;obtain⟨t,rfl⟩:=rx;obtain⟨t',rfl⟩:=ry;exact rule i j t t' s _ _ ⟨.int (g i j),H,I.tok _,⟨_,rfl⟩,q⟩
def b7Z{f:ai->ai->Sem ai}{g:Int->Int->Bool}
    (rule:∀(i j:Int) (t u:Tok) (s:aj) (Q:ai->aj->Prop) (E:ai->aj->Prop),Q (.bool (g i j)) s->az (aO X.prog X.w) X.A (f (.int i t) (.int j u)) Q E s) :
    OpR X f (rI0 λi j=>.bl (g i j)):=by
  intro pins s Y H x y v u Q I rx ry h;obtain⟨i,j,rfl,rfl,q⟩:=h;obtain⟨t,rfl⟩:=rx;obtain⟨t',rfl⟩:=ry;exact rule i j t t' s _ _ ⟨.bl (g i j),H,I,rfl,q⟩
def c2i(i j:Int):Prop:=0<j/\j<1073741824
def c2j(i j:Int):Prop:=0<=j/\j<=1000000/\i.natAbs<2^64
def CMul(i j:Int):Prop:=(-(2^64)<i/\i<2^64)\/(-(2^64)<j/\j<2^64)
def CMul.ok{i j:Int}(h:CMul i j):IntMulOk i j:=by
  rcases h with⟨h1,h2⟩|⟨h1,h2⟩
  . exact .of_left (intBits_le_64 h1 h2)
  . exact .of_right (intBits_le_64 h1 h2)
def b8a:OpR X (eF .Add) (rI0 λi j=>.int (i+j)):=c0s λ_ _ _ _ _ _ _ q=>add_int q
def b8b:OpR X (eF .Sub) (rI0 λi j=>.int (i-j)):=c0s λ_ _ _ _ _ _ _ q=>sub_int q
def b8c:OpR X (eF .Mult) (rI CMul λi j=>.int (i*j)):=opI λ_ _ _ _ _ _ _ hc q=>mul_int q hc.ok
def b5a:OpR X (eF .FloorDiv) (rI c2i λi j=>.int (i / j)):=opI λi j _ _ _ _ _ hc q=>by
  have h1:(0:Int)<j:=hc.1;have h2:j<1073741824:=hc.2;exact floordiv_int (by omega) (by rw[Int.fdiv_eq_ediv_of_nonneg i (by omega)];exact q) (.inl (PyProof.noPylong_small (by omega)))
def b8d:OpR X (eF .Mod) (rI (λ_ j=>0<j) λi j=>.int (i % j)):=opI λi j _ _ _ _ _ hc q=>by
  have h1:(0:Int)<j:=hc;exact mod_int' (by omega) (by rw[Int.fmod_eq_emod_of_nonneg i (by omega)];exact q)
def b8e:OpR X (eF .Pow) (rI c2j λi j=>.int (i^j.toNat)):=opI λ_ _ _ _ _ _ _ hc q=>pow_int_small hc.1 hc.2.1 hc.2.2 q
def unI{f:ai->Sem ai}{g:Int->Int}
    (rule:∀(i:Int) (t:Tok) (s:aj) (Q:ai->aj->Prop) (E:ai->aj->Prop),Q (.int (g i) s.toks) {s with toks:=s.toks+1}->az (aO X.prog X.w) X.A (f (.int i t)) Q E s) :
    UnR X f (rU λi=>.int (g i)):=by
  intro pins s Y H x v Q I rx h;obtain⟨i,rfl,q⟩:=h;obtain⟨t,rfl⟩:=rx;exact rule i t s _ _ ⟨.int (g i),H,I.tok _,⟨_,rfl⟩,q⟩
def b8f:UnR X (unaryOp .USub) (rU λi=>.int (-i)):=unI λ_ _ _ _ _ q=>neg_int q
def b1W(I:Inv X pins Y H s)(q:Q (.bl k) H)(e:k=k'):EP X pins Y Q (.bool k') s:=by
  subst e;exact⟨.bl k,H,I,rfl,q⟩
def c0t:OpR X (bO .Lt) (rI0 λi j=>.bl (decide (i<j))):=b7Z λ_ _ _ _ _ _ _ q=>lt_int q
def c0u:OpR X (bO .LtE) (rI0 λi j=>.bl (decide (i<=j))):=b7Z λ_ _ _ _ _ _ _ q=>le_int q
def c0v:OpR X (bO .Gt) (rI0 λi j=>.bl (decide (j<i))):=b7Z λ_ _ _ _ _ _ _ q=>gt_int q
def b8g:OpR X (bO .Is) (λx y H Q=>y=.non/\Q (.bl (decide (x=.non))) H):=by
  intro pins s Y H x y v u Q I rx ry h;obtain⟨rfl,q⟩:=h;cases ry
  refine is_none_gen (b1W I q ?_);cases x<;>first
    | (cases rx;rfl)
    | (obtain⟨t,rfl⟩:=rx;rfl)
def b5b:OpR X (bO .IsNot) (λx y H Q=>y=.non/\Q (.bl (!decide (x=.non))) H):=by
  intro pins s Y H x y v u Q I rx ry h;obtain⟨rfl,q⟩:=h;cases ry
  refine isnot_none_gen (b1W I q ?_);cases x<;>first
    | (cases rx;rfl)
    | (obtain⟨t,rfl⟩:=rx;rfl)
def a1g(b:Expr)(h:op≠.In:=by decide)(h2:op≠.NotIn:=by decide):dP op b=p4:=by
  have e1:(op==CmpOp.In)=p4:=by cases op<;>first|rfl|exact absurd rfl h
  have e2:(op==CmpOp.NotIn)=p4:=by cases op<;>first|rfl|exact absurd rfl h2
  cases b<;>simp[dP,e1,e2]
def a9j{op:CmpOp}{r:R2}(ho:OpR X (bO op) r)(ha:PE X a ta)(hb:PE X b tb)(hm:dP op b=p4):PE X (.Compare a [op] [b] pos) (tOp r ta tb):=by
  intro pins s Y H Q I h;exact wpAny_Compare1 (b7Y ha hb I h λv u s2 x y H2 I2 rx ry q=>ho pins s2 Y H2 x y v u Q I2 rx ry q) hm
def b1X(t:TE):TT:=λY H Q=>t Y H λx H'=>∃k,x=.bl k/\Q k H'
def a2h(ho:OpR X (bO op) r)(ha:PE X a ta)(hb:PE X b tb)(hm:dP op b=p4):PT X (.Compare a [op] [b] pos) (b1X (tOp r ta tb)):=by
  intro pins s Y H Q I h;refine Hv (thn (ha pins s Y H _ I h) λv s1 ⟨x,H1,I1,r1,q1⟩=>thn (hb pins s1 Y H1 _ I1 q1) λu s2 ⟨y,H2,I2,r2,q2⟩=>
    thn (ho pins s2 Y H2 x y v u _ I2 r1 r2 q2) λc s3 ⟨z,H3,I3,r3,k,e,q3⟩=>?_) hm
  subst e;cases r3
  exact df ⟨H3,I3,q3⟩
def b1Y(r r':R2)(ta tb tc:TE):TE:=λY H Q=>ta Y H λx H1=>tb Y H1 λy H2=>r x y H2 λz H3=>∃k,z=.bl k/\
  (if k=fx then tc Y H3 λw' H4=>r' y w' H4 Q else Q (.bl p4) H3)
def b1Z(ho:OpR X (bO op) r)(mV:OpR X (bO pI) r')(ha:PE X a ta)(hb:PE X b tb)(hc:PE X c tc)
    (hm:Bm [op,pI] [b,c]=p4:=by with_unfolding_all rfl):PE X (.Compare a [op,pI] [b,c] pos) (b1Y r r' ta tb tc):=by
  intro pins s Y H Q I h;refine Compare_chain (thn (ha pins s Y H _ I h) λv s1 ⟨x,H1,I1,r1,q1⟩=>chain_link (thn (hb pins s1 Y H1 _ I1 q1) λu s2 ⟨y,H2,I2,r2,q2⟩=>
    thn (ho pins s2 Y H2 x y v u _ I2 r1 r2 q2) λd s3 ⟨z,H3,I3,r3,k,e,q3⟩=>?_)) hm
  subst e;cases r3
  refine df ?_;cases k with
  |false=>exact ite_ff ⟨.bl p4,H3,I3,rfl,q3⟩
  |true=>exact ite_tt (chain_last (thn (hc pins s3 Y H3 _ I3 q3) λw' s4 ⟨z',H4,I4,r4,q4⟩=>mV pins s4 Y H4 y z' u w' Q I4 r2 r4 q4))
def b2a(ho:OpR X (bO op) r)(mV:OpR X (bO pI) r')(ha:PE X a ta)(hb:PE X b tb)(hc:PE X c tc)
    (hm:Bm [op,pI] [b,c]=p4:=by with_unfolding_all rfl):PT X (.Compare a [op,pI] [b,c] pos) (b1X (b1Y r r' ta tb tc)):=by
  intro pins s Y H Q I h;refine isTrue_chain (thn (ha pins s Y H _ I h) λv s1 ⟨x,H1,I1,r1,q1⟩=>test_link (thn (hb pins s1 Y H1 _ I1 q1) λu s2 ⟨y,H2,I2,r2,q2⟩=>
    thn (ho pins s2 Y H2 x y v u _ I2 r1 r2 q2) λd s3 ⟨z,H3,I3,r3,k,e,q3⟩=>?_)) hm
  subst e;cases r3
  refine df ?_;cases k with
  |false=>
    obtain⟨k',e',q'⟩:=q3;cases e'
    exact ite_ff ⟨H3,I3,q'⟩
  |true=>
    refine ite_tt (test_last (thn (hc pins s3 Y H3 _ I3 q3) λw' s4 ⟨z',H4,I4,r4,q4⟩=>thn (mV pins s4 Y H4 y z' u w' _ I4 r2 r4 q4) λd' s5 ⟨z2,H5,I5,r5,k2,e2,q5⟩=>?_));subst e2;cases r5
    exact df ⟨H5,I5,q5⟩
def b8h(K:af)(x:V)(H:Hp)(k:Bool):Prop:=
  match x with
  |.non=>k=p4
  |.bl b=>k=b
  |.int i=>k=(i !=0)
  |.str y=>y.length<=aQ/\k=((y.length:Int)!=0)
  |.byt y=>y.size<=aQ/\k=((y.size:Int)!=0)
  |.ref p=>(∃xs,SqL K H p xs/\k=!xs.isEmpty)\/(∃xs,SqT K H p xs/\k=!xs.isEmpty)\/∃kvs,H p=cz (.dK kvs)/\k=!kvs.isEmpty
  |_=>False
def a7D{κ:Type}{kvs:List (κ×V)}{vs:List (κ×ai)}(r:KV kvs vs):(!vs.isEmpty)=!kvs.isEmpty:=by
  cases r<;>rfl
def a2x{xs:List V}{cP:List ai}(r:Vals xs cP):(!cP.toArray.isEmpty)=!xs.isEmpty:=by
  cases r<;>simp
def a2y:(aQ:Nat)<2^63:=by rw[cE];decide
def b8i:c2h X (λx H Q=>∃k,b8h X.K x H k/\Q k H):=by
  intro pins s Y H x v Q I rx h;obtain⟨k,e,q⟩:=h;have hl:=a2y;have hs:aQ=16777216:=cE;cases x with
  |non=>
    cases rx
    have e':k=p4:=e;subst e';exact truthy_none ⟨H,I,q⟩
  |bl b=>
    cases rx
    have e':k=b:=e;subst e';exact df ⟨H,I,q⟩
  |int i=>
    obtain⟨t,rfl⟩:=rx;have e':k=(i !=0):=e;subst e';exact PySem.P.truthy_int ⟨H,I,q⟩
  |str y=>
    obtain⟨t,rfl⟩:=rx;obtain⟨hy,e'⟩:y.length<=aQ/\k=((y.length:Int)!=0):=e;subst e';exact PySem.P.truthy_str (by omega) ⟨H,I.tok _,q⟩
  |byt y=>
    obtain⟨t,rfl⟩:=rx;obtain⟨hy,e'⟩:y.size<=aQ/\k=((y.size:Int)!=0):=e;subst e';exact PySem.W.truthy_bytes (by omega) ⟨H,I.tok _,q⟩
  |ref p=>
    cases rx
    have e':(∃xs,SqL X.K H p xs/\k=!xs.isEmpty)\/(∃xs,SqT X.K H p xs/\k=!xs.isEmpty)\/∃kvs,H p=cz (.dK kvs)/\k=!kvs.isEmpty:=e;rcases e' with⟨xs,hx,e'⟩|⟨xs,hx,e'⟩|⟨kvs,hx,e'⟩
    . subst e'
      obtain⟨cP,r,pl,hz⟩:=I.list hx;have hlen:=r.length;exact wpAny_truthy_list pl.isList (by simp only[bC];omega) ⟨H,I.tok _,by rw[a2x r];exact q⟩
    . subst e'
      obtain⟨cP,r,pl,hz⟩:=I.tuple hx;have hlen:=r.length;exact truthy_tuple pl (by simp only[bC];omega) ⟨H,I.tok _,by rw[a2x r];exact q⟩
    . subst e'
      obtain⟨hz,hS,vs,r,m⟩:kvs.length<=aQ/\(p==cS)=p4/\∃vs,KV kvs vs/\s.heap.DictOf (a5e X.prog X.w) p vs:=I.hok p _ hx;have hlen:kvs.length=vs.length:=dF r;exact wpAny_truthy_dict hS m (by omega) ⟨H,I.tok _,by rw[a7D r];exact q⟩
  |_=>exact (show False from e).elim
def b2b(ha:PE X a ta)(he:∀whole,rW a X.env whole=(do let v <-whole;standAt a.pos;om [v] (vA v))) :
    PT X a (λY H Q=>ta Y H λx H'=>∃k,b8h X.K x H' k/\Q k H'):=by
  intro pins s Y H Q I h;exact isTrue_plain (thn (ha pins s Y H _ I h) λv s1 ⟨x,H1,I1,r1,q1⟩=>b8i pins s1 Y H1 x v Q I1 r1 q1) (he _)
def vals1(r:Vals [x] us):∃u,us=[u]/\RelV x u:=by
  cases r with
  |cons r1 r2=>cases r2;exact⟨_,rfl,r1⟩
def vals2(r:Vals [x,y] us):∃u w',us=[u,w']/\RelV x u/\RelV y w':=by
  cases r with
  |cons r1 r2=>
    cases r2 with
    |cons r3 r4=>cases r4;exact⟨_,_,rfl,r1,r3⟩
def b0k:CallR X (.type "int") (λxs H Q=>(∃i,xs=[.int i]/\Q (.int i) H)\/∃k,xs=[.bl k]/\Q (.int (if k then 1 else 0)) H):=by
  intro pins s Y H xs us Q I r h;rcases h with⟨i,rfl,q⟩|⟨k,rfl,q⟩
  . obtain⟨u,rfl,t,rfl⟩:=vals1 r
    exact call_int_int ⟨.int i,H,I,⟨_,rfl⟩,q⟩
  . obtain⟨u,rfl,r1⟩:=vals1 r
    cases r1
    exact call_int_bool ⟨.int (if k then 1 else 0),H,I.tok _,⟨_,rfl⟩,q⟩
end
structure ObjM (h:bL) (x dx C:aw) (mA:bt->Option ai):Prop where
  obj:h.get? x=cz (pR C dx)
  ns:h.Ns1 dx mA
  ne:dx≠x
def b0l{h:bL}(n:h.Ns1 dx mA):∃od,h.get? dx=cz od/\∀name,ri name od=cz (mA name):=by
  obtain⟨o,es,ep,ho,hd,hk,_,hm⟩:=n;refine⟨o,ho,λname=>?_⟩;have e:=hm name;unfold nsFind findBy at e;rw[<-Array.find?_toList]at e;unfold ri;rw[hd]
  dsimp only
  split
  . rename_i y q
    rw[q]at e;exact dY cz e
  . rename_i q
    rw[q]at e;have a:es.toList.any (·.refKey)=p4:=by
      rw[cA];intro y hy;obtain⟨z,t,ju⟩:=hk y (dU.mp hy);simp[eQ.refKey,ju]
    have a':¬ es.toList.any (·.refKey)=fx:=by rw[a];exact bc
    rw[aN a'];exact dY cz e
def ObjM.look(I:ObjM h x dx C mA):∃od,PySem.W.InstAt h x (pR C dx) C (cz od)/\∀name,ri name od=cz (mA name):=
  let⟨od,ho,hl⟩:=b0l I.ns
  ⟨od,⟨I.obj,rfl,rfl,ho⟩,hl⟩
section
variable {P:br}{w:bK}{H H':Hp}{h h':bL}{a C dx:aw}{fs kD:List (bt×V)}
def b5c(hok:HOk P w H h)(e:H a=cz (.ins C dx fs)):∃mA,ObjM h a dx C mA/\(∀f,b7J (fs.lookup f) (mA f))/\PySem.Within mA (fs.map (·.1))/\fs.length<=1000/\H dx=cz (.own a):=by
  obtain⟨d,z,ne,ob,mA,n,r,q⟩:=(show ObjOk P w H h a (.ins C dx fs) from hok a _ e);exact⟨mA,⟨ob,n,ne⟩,r,q,z,d⟩
end
structure Cls (K:af) (C:aw):Prop where
  pg:Hg K C bt.empty=fx
  hd:PySem.W.hasDictIn K C=fx
  po:PySem.W.plainOver K C=fx
  sa:fT K (.ref C) "__setattr__"=cz (cz (.builtin "object.__setattr__"))
def Cls.get{K:af}{C:aw}(c:Cls K C)(f:bt):Hg K C f=fx:=c.pg
structure Con (K:af) (C:aw) (f:bt) (v:V) (u:ai):Prop where
  at_:fT K (.ref C) f=cz (cz u)
  rel:RelV v u
  get:CY K u "__get__"=cz el
  cp:PySem.W.copiedNames.contains f=p4
structure Meth (K:af) (C:aw) (m:bt) (f:aw):Prop where
  at_:fT K (.ref C) m=cz (cz (.ref f))
  fn:PySem.W.isFn K (.ref f)=fx
  kp:eY K (.ref f)=fx
section
variable {X:Cx}{pins:List (aw×fm)}{Y:St}{H:Hp}{s:aj}{A:bB}{E:ai->aj->Prop}{Q:ai->aj->Prop}{c:ai}{b:Bool}
inductive TyOf (K:af) (H:Hp):V->ai->Prop where
  |non:TyOf K H .non (.type "NoneType")
  |bl (x:Bool):TyOf K H (.bl x) (.type "bool")
  |int (i:Int):TyOf K H (.int i) (.type "int")
  |str (x:bt):TyOf K H (.str x) (.type "str")
  |flt (x:UInt64):TyOf K H (.flt x) (.type "float")
  |lst {a:aw} {xs:List V} (e:H a=cz (.lst xs)):TyOf K H (.ref a) (.type "list")
  |frz {a:aw} {o:fm} {xs:List V} (e:H a=cz (.frz o (.lst xs))):TyOf K H (.ref a) (.type "list")
  |tup {a:aw} {xs:List V} (e:H a=cz (.tup xs)):TyOf K H (.ref a) (.type "tuple")
  |dK {a:aw} {kvs:List (Key×V)} (e:H a=cz (.dK kvs)):TyOf K H (.ref a) (.type "dict")
  |dT {a:aw} {kvs:List (List Key×V)} (e:H a=cz (.dT kvs)):TyOf K H (.ref a) (.type "dict")
  |ins {a C dx:aw} {fs:List (bt×V)} (e:H a=cz (.ins C dx fs)) (cl:Cls K C) (ha:fT K (.ref C) "__class__"=cz (cz (.builtin "object.__class__")))
      (hn:CY K (.builtin "object.__class__") "__get__"=cz (cz (.builtin "getset_descriptor.__get__"))) (Bx:PySem.W.takesIn K (.builtin "object.__class__")=cz fx)
      (hm:PySem.W.mroIn K C (.type "object")=cz fx):TyOf K H (.ref a) (.ref C)
def a4d(I:Inv X pins Y H s)(rx:RelV x u)(ty:TyOf X.K H x t)(e:dh X.K t c=cz b)(h:∀tk,Q (.bool b) {s with toks:=tk}) :
    az (aO X.prog X.w) A (call (.builtin "isinstance") [u,c]) Q E s:=by
  cases ty with
  |non=>cases (show u=bZ from rx);exact cF CZ I.kIn jG e (λz=>nomatch z) h
  |bl y=>cases (show u=jx y from rx);exact cF PySem.W.kitx_bool I.kIn jG e (λz=>nomatch z) h
  |int i=>obtain⟨t,q⟩:=(show ∃t,u=md i t from rx);cases q;exact cF PySem.W.kitx_int I.kIn jG e (λz=>nomatch z) h
  |str y=>obtain⟨t,q⟩:=(show ∃t,u=sF y t from rx);cases q;exact cF PySem.W.kitx_str I.kIn jG e (λz=>nomatch z) h
  |flt y=>obtain⟨t,q⟩:=(show ∃t,u=ai.float y t from rx);cases q;exact cF PySem.W.kitx_float I.kIn jG e (λz=>nomatch z) h
  |@lst a xs ea=>
    cases (show u=aS a from rx)
    obtain⟨_,_,n,_,h1⟩:=(show ObjOk X.prog X.w H s.heap a (.lst xs) from I.hok a _ ea);exact cF nU I.kIn ⟨_,h1,rfl⟩ e (λz=>nomatch z) h
  |@frz a ob xs ea=>
    cases (show u=aS a from rx)
    obtain⟨_,_,_,n,_,h1⟩:=(show ObjOk X.prog X.w H s.heap a (.frz ob (.lst xs)) from I.hok a _ ea);exact cF nU I.kIn ⟨_,h1,rfl⟩ e (λz=>nomatch z) h
  |@tup a xs ea=>
    cases (show u=aS a from rx)
    obtain⟨_,_,_,p⟩:=(show ObjOk X.prog X.w H s.heap a (.tup xs) from I.hok a _ ea);obtain⟨o,h1,h2,_⟩:=p;exact cF AK I.kIn ⟨o,h1,h2⟩ e (λz=>nomatch z) h
  |@dK a kvs ea=>
    cases (show u=aS a from rx)
    obtain⟨_,_,vs,_,p⟩:=(show ObjOk X.prog X.w H s.heap a (.dK kvs) from I.hok a _ ea);obtain⟨o,es,ep,h1,h2,_⟩:=p;exact cF nV I.kIn ⟨o,h1,h2.1⟩ e (λz=>nomatch z) h
  |@dT a kvs ea=>
    cases (show u=aS a from rx)
    obtain⟨_,_,xs,_,o,es,ep,h1,h2,_⟩:=(show ObjOk X.prog X.w H s.heap a (.dT kvs) from I.hok a _ ea);exact cF nV I.kIn ⟨o,h1,h2.1⟩ e (λz=>nomatch z) h
  |@ins a C dx fs ea cl ha hn Bx hm=>
    cases (show u=aS a from rx)
    obtain⟨mA,O,_⟩:=b5c I.hok ea;obtain⟨od,J,_⟩:=O.look;exact cF (PySem.W.kitx_own (cl.get _) cl.hd ha hn Bx hm) I.kIn J e (λz=>nomatch z) h
end
structure Room (k:Nat) (A:bB):Prop where
  hd:A.handled=el
  dp:A.depth+3*k+5<recursionLimit
  un:A.units+16*k+500<cU
def Room.mono(r:Room k A)(h:j<=k):Room j A:=⟨r.hd,by have:=r.dp;omega,by have:=r.un;omega⟩
theorem Room.deeper(r:Room (k+1) A)(env:n_):Room k (A.deeper env):=
  ⟨r.hd,by have:=r.dp;show A.depth+1+3*k+5<_;omega,by have:=r.un;show A.units+3+16*k+500<_;omega⟩
theorem Room.depth(r:Room k A):A.depth<recursionLimit:=by have:=r.dp;omega
theorem Room.units(r:Room k A):A.units+464<cU:=by have:=r.un;omega
def c2k:TA:=λ_ H Q=>Q [] H
def c0w(ta:TE)(tr:TA):TA:=λY H Q=>ta Y H λx H1=>tr Y H1 λxs H2=>Q (x::xs) H2
section
variable {X:Cx}{e:Expr}{es:List Expr}{te:TE}{t:TA}{pos:eA}
def o5:PA X [] c2k:=λ_ _ _ _ H Q I h=>Calls.spliced_nil ⟨[],H,I,.nil,h⟩
def l7(ha:PE X e te)(hr:PA X es t)(hs:ak (e::es) X.env=(p4,bX e X.env)::ak es X.env:=by rfl):PA X (e::es) (c0w te t):=by
  intro pos pins s Y H Q I h;rw[hs];show az _ _ (spliced ((p4,bX e X.env)::bY pos (ak es X.env))) _ _ s;refine Calls.spliced_cons (thn (ha pins s Y H _ I h) λu s1 ⟨x,H1,I1,r1,q1⟩=>?_);exact thn (hr pos pins s1 Y H1 _ I1 q1) λus s2 ⟨xs,H2,I2,r2,q2⟩=>⟨x::xs,H2,I2,.cons r1 r2,q2⟩
def c2l(t:TA):TE:=λY H Q=>t Y H λxs H1=>xs.length<=aQ/\∀p,H1 p=el->Q (.ref p) (upd H1 p (.tup xs))
def c2m(t:TA):TE:=λY H Q=>t Y H λxs H1=>xs.length<=aQ/\∀p,H1 p=el->Q (.ref p) (upd H1 p (.lst xs))
def a7E{x1}(h:PA X es t):PE X (.Tuple es x1 pos) (c2l t):=by
  intro pins s Y H Q I hq;refine wpAny_Tuple_spliced (thn (h pos pins s Y H _ I hq) λus s1 ⟨xs,H1,I1,r,z,q⟩=>⟨by rw[<-r.length];exact z,?_⟩);have hf:H1 s1.heap.objs.size=el:=I1.hok.fresh (aG _);refine⟨.ref s1.heap.objs.size,upd H1 s1.heap.objs.size (.tup xs),I1.laid (t':=s1.toks) (λb u e=>ah _ e) (aG _) ?_,rfl,q _ hf⟩;exact⟨z,us,r,⟨_,aF _ rfl,rfl,_,rfl⟩⟩
def b8j(h:PA X es t):PE X (.List es pos) (c2m t):=by
  intro pins s Y H Q I hq;refine wpAny_List_spliced (thn (h pos pins s Y H _ I hq) λus s1 ⟨xs,H1,I1,r,z,q⟩=>⟨by rw[<-r.length];exact z,?_⟩);have hf:H1 s1.heap.objs.size=el:=I1.hok.fresh (aG _);refine⟨.ref s1.heap.objs.size,upd H1 s1.heap.objs.size (.lst xs),I1.laid (t':=s1.toks) (λb u e=>ah _ e) (aG _) ?_,rfl,q _ hf⟩;exact⟨z,us,0,r,aF _ rfl⟩
end
abbrev Sp:=List V->Hp->VK->XK->Prop
abbrev CXT:=List n_->Hp->aj->XK->ai->aj->Prop
structure Env0 (P:br) (w:bK) (K:af) (mg:bt->Option ai) (base:bL) (A:bB) (outer:List n_) (s:aj) (H:Hp):Prop where
  frames:A.frames=cz outer
  mod:Mod K mg base
  bs:∀b o,base.get? b=cz o->s.heap.get? b=cz o/\H b=el
  bsz:base.objs.size<=s.heap.objs.size
  funs:s.heap.FunFrames base outer
  frf:∀b∈frs outer,H b=el
  hok:HOk P w H s.heap
  bare:jP s.gens
  tabs:TabsIn K H
def CE(outer:List n_)(P:br)(w:bK)(H:Hp)(s:aj)(Q:VK)(u:ai)(s':aj):Prop:=
  ∃v H',s'.os=s.os/\jP s'.gens/\Un (frs outer) [] H H' s.heap s'.heap/\HOk P w H' s'.heap/\RelV v u/\Q v H'
def CR(CX:CXT)(outer:List n_)(P:br)(w:bK)(H:Hp)(s:aj)(Q:VK)(E:XK)(r:xP)(s':aj):Prop:=
  match r with
  |.ok (.ret u)=>CE outer P w H s Q u s'
  |.ok _=>False
  |.error e=>CX outer H s E e s'
structure FnOk (P:br) (w:bK) (K:af) (mg:bt->Option ai) (base:bL) (CX:CXT) (k:Nat) (f:aw) (fd:dJ) (ps:List bt) (sp:Sp):Prop where
  len:∀vs H Q E,sp vs H Q E->vs.length=ps.length
  run:∀(A:bB) (outer:List n_) (s:aj) (H:Hp) (args:Args) (us:List ai) (vs:List V) (Q:VK) (E:XK),Room k A->Env0 P w K mg base A outer s H->ox s fd args (ps.zip us)->Vals vs us->sp vs H Q E->
    gA (aO P w) A (.call (.ref f) args) (CR CX outer P w H s Q E) s
theorem FnOk.mono{P:br}{w:bK}{K:af}{mg:bt->Option ai}{base:bL}{CX:CXT}{j k:Nat}{f:aw}{fd:dJ}{ps:List bt}{sp:Sp}(F:FnOk P w K mg base CX j f fd ps sp)(h:j<=k) :
    FnOk P w K mg base CX k f fd ps sp:=⟨F.len,λA outer s H args us vs Q E hr=>F.run A outer s H args us vs Q E (hr.mono h)⟩
section
variable {X:Cx}{pins:List (aw×fm)}{Y:St}{H:Hp}{s s':aj}
def Inv.env0(I:Inv X pins Y H s):Env0 X.prog X.w X.K X.mg X.base X.A X.stack s H:=
  ⟨I.ok.frames,I.ok.mod,I.bs,cx I.ok.bsz I.sz,I.stack,I.stkFree,I.hok,I.bare,I.tabs⟩
def Inv.after(I:Inv X pins Y H s)(h:CE X.stack X.prog X.w H s Q u s'):EP X pins Y Q u s':=by
  obtain⟨v,H',os,bare,un,hok,r,q⟩:=h;obtain⟨hh,g,d,t,yU⟩:=s';obtain rfl:yU=s.os:=os;exact⟨v,H',I.call (h':=hh) (g':=g) (d':=d) (t':=t) (ch:=[]) un hok bare (λb z=>absurd z (by simp)),r,q⟩
end
def b6X(sp:Sp)(tI:List V)(E:XK)(t:TA):TE:=λY H Q=>t Y H λvs H1=>sp (vs++tI) H1 Q E
def Binds(K:af)(fd:dJ)(ps:List bt)(ds:List ai):Prop:=
  ∀(s:aj) (us:List ai),K.In s.heap->(us++ds).length=ps.length->ox s fd ⟨us,[]⟩ (ps.zip (us++ds))
def Binds.all{K:af}{fd:dJ}{ps:List bt}(h:∀us:List ai,us.length=ps.length->q_ fd ⟨us,[]⟩=pure (ps.zip us)):Binds K fd ps []:=λs us _ hl=>by
  rw[bH]at hl ⊢;exact .of_eq (h us hl)
def a7F(CX:CXT)(X:Cx)(E:XK):Prop:=∀(pins:List (aw×fm)) (Y:St) (H:Hp) (s:aj) (e:ai) (s':aj),Inv X pins Y H s->CX X.stack H s E e s'->X.xe e s'
section
variable {X:Cx}{CX:CXT}{k:Nat}{f C:aw}{fd:dJ}{ps:List bt}{sp:Sp}{tI:List V}{ds:List ai}{E:XK}{x m:bt}{p pos apos:eA}{e o:Expr}{es:List Expr}{ta:TE}{t:TA}
def b8k(F:FnOk X.prog X.w X.K X.mg X.base CX k f fd ps sp)(hr:Room k X.A)(hb:Binds X.K fd ps ds)(hd:Vals tI ds)(hx:a7F CX X E)
    (I:Inv X pins Y H s) (r:Vals vs us) (h:sp (vs++tI) H Q E):az (aO X.prog X.w) X.A (call (.ref f) us) (EP X pins Y Q) X.xe s:=by
  have r2:Vals (vs++tI) (us++ds):=r.append hd;have hl:(us++ds).length=ps.length:=by rw[<-r2.length];exact F.len _ _ _ _ h
  refine mo (ff (F.run X.A X.stack s H ⟨us,[]⟩ (us++ds) (vs++tI) Q E hr I.env0 (hb s us I.kIn hl) r2 h) λr s' hq=>?_);cases r with
  |error e=>exact hx pins Y H s e s' I hq
  |ok fl=>
    cases fl with
    |ret u=>exact I.after hq
    |next=>exact cy hq
    |brk=>exact cy hq
    |cont=>exact cy hq
def b5d(F:FnOk X.prog X.w X.K X.mg X.base CX k f fd ps sp)(hr:Room k X.A)(hg:Gl X x)(hm:X.mg x=cz (.ref f))(hk:eY X.K (.ref f)=fx)(hb:Binds X.K fd ps ds)(hd:Vals tI ds)(hx:a7F CX X E)
    (ha:PA X (e::es) t) (lG:(x==("__debug__":bt))=p4:=by decide) (he:ak (e::es) X.env=(p4,bX e X.env)::ak es X.env:=by rfl) (fF:(bY pos (ak es X.env)).any (·.1)=p4:=by rfl) :
    PE X (.Call (.Name x p) (e::es) [] pos) (b6X sp tI E t):=by
  intro pins s Y H Q I h;refine dX (X7 I hg hm ?_ lG);refine nc (h₀:=X.base) I.ok.mod.kin hk (thn (ha pos pins s Y H _ I h) λus s1 ⟨vs,H1,I1,r,q⟩=>⟨I1.kIn,?_⟩) he fF;exact b8k F hr hb hd hx I1 r q
structure Mk (K:af) (C f:aw):Prop where
  makes:PySem.W.makesIn K C=fx
  init:fT K (.ref C) "__init__"=cz (cz (.ref f))
  fn:PySem.W.isFn K (.ref f)=fx
  kp:eY K (.ref C)=fx
end
section
variable {X:Cx}{CX:CXT}{k:Nat}{f C:aw}{fd:dJ}{ps ks:List bt}{sp:Sp}{E:XK}{x m:bt}{p pos apos vY:eA}{e o:Expr}{es:List Expr}{HJ:List iZ}{te ta:TE}{t tk:TA}{nm:Option bt}
structure KBinds (K:af) (fd:dJ) (ps ks:List bt) (g:List ai->List ai->List ai) (gV:List V->List V->List V):Prop where
  to:∀(s:aj) (us ws:List ai),K.In s.heap->(g us ws).length=ps.length->ox s fd ⟨us,ks.zip ws⟩ (ps.zip (g us ws))
  rel:∀{vs:List V} {us:List ai} {zs:List V} {ws:List ai},Vals vs us->Vals zs ws->Vals (gV vs zs) (g us ws)
variable {g:List ai->List ai->List ai}{gV:List V->List V->List V}
end
structure FnScope (N P:List bt) (sc:gy):Prop where
  kind:sc.kind=.function
  co:sc.isCoroutine=p4
  gen:sc.isGenerator=p4
  nd:N.Nodup
  pre:N.take P.length=P
  par:∀x∈P,sc.names.lookup x=cz .local\/sc.names.lookup x=cz .cell
  nofree:∀y∈sc.names,y.2≠.free
theorem a4e{kindOf:bt->Option iX}{x:bt}:∀{binds:List (bt×ai)} {m:bt->Option ai},(∀v,(x,v)∉binds)->CT kindOf binds m x=m x
  |[],_,_=>rfl
  | (n,v)::r,m,h=>by
    unfold CT;rw[a4e λw hw=>h w (au _ hw)]
    split
    . have:x≠n:=by rintro rfl;exact h v ar
      simp[this]
    . rfl
theorem a4f{kindOf:bt->Option iX}{x:bt}:∀{binds:List (bt×ai)} {m:bt->Option ai},(∀v,(x,v)∉binds)->CU kindOf binds m x=m x
  |[],_,_=>rfl
  | (n,v)::r,m,h=>by
    unfold CU;rw[a4f λw hw=>h w (au _ hw)]
    split
    . rfl
    . have:x≠n:=by rintro rfl;exact h v ar
      simp[this]
theorem a4g{kindOf:bt->Option iX}{x:bt}{v:ai}:∀{P:List bt} {vs:List ai} {i:Nat} {m:bt->Option ai},P.Nodup->P[i]?=cz x->vs[i]?=cz v->kindOf x=cz .local->
    CT kindOf (P.zip vs) m x=cz v
  |[],_,_,_,_,h,_,_=>by simp at h
  |_::_,[],_,_,_,_,h,_=>by simp at h
  |p::P,w::vs,0,m,nd,h1,h2,hk=>by
    simp at h1 h2;subst h1;subst h2
    show CT kindOf ((p,w)::P.zip vs) m p=_;unfold CT;rw[a4e λv hv=>(bD.mp nd).1 (jf hv).1,aJ hk];simp
  |p::P,w::vs,i+1,m,nd,h1,h2,hk=>by
    show CT kindOf ((p,w)::P.zip vs) m x=_;unfold CT;exact a4g (i:=i) (bD.mp nd).2 (by simpa using h1) (by simpa using h2) hk
theorem a4h{kindOf:bt->Option iX}{x:bt}{v:ai}:∀{P:List bt} {vs:List ai} {i:Nat} {m:bt->Option ai},P.Nodup->P[i]?=cz x->vs[i]?=cz v->kindOf x≠cz .local->
    CU kindOf (P.zip vs) m x=cz v
  |[],_,_,_,_,h,_,_=>by simp at h
  |_::_,[],_,_,_,_,h,_=>by simp at h
  |p::P,w::vs,0,m,nd,h1,h2,hk=>by
    simp at h1 h2;subst h1;subst h2
    show CU kindOf ((p,w)::P.zip vs) m p=_;unfold CU;rw[a4f λv hv=>(bD.mp nd).1 (jf hv).1,aN hk];simp
  |p::P,w::vs,i+1,m,nd,h1,h2,hk=>by
    show CU kindOf ((p,w)::P.zip vs) m x=_;unfold CU;exact a4h (i:=i) (bD.mp nd).2 (by simpa using h1) (by simpa using h2) hk
def start(N:List bt)(vs:List V):St:=vs.map cz++aL (N.length-vs.length) el
def a0e(CX:CXT)(P:br)(w:bK)(K:af)(mg:bt->Option ai)(base:bL)(N:List bt)(qual:bt)(scope:gy)(f:aw)(cd:ai)(A:bB)(outer:List n_)(s:aj)(H:Hp)(E:XK):Cx where
  prog:=P
  w:=w
  K:=K
  mg:=mg
  base:=base
  A:=A.deeper (ji qual scope s.heap.objs.size f cd)
  N:=N
  s₀:=s
  H₀:=H
  env:=ji qual scope s.heap.objs.size f cd
  outer:=outer
  stack:=ji qual scope s.heap.objs.size f cd::outer
  ex:=[]
  calm:=fx
  fn:=λ_=>fx
  pn:=[]
  xe:=λe s'=>az (aO P w) (A.deeper (ji qual scope s.heap.objs.size f cd)) (leaving (ji qual scope s.heap.objs.size f cd) e) (λ_ tW=>CX outer H s E e tW) (λe' tW=>CX outer H s E e' tW) s'
def a6d{sc:gy}(h:sc.names.lookup x=cz .cell):∃c,(cellsFrom n sc.names []).lookup x=cz c:=by
  have q:=uJ sc.names n [] (.inl h);exact dI.mp q
def b0m{CX:CXT}{P:br}{w:bK}{K:af}{mg:bt->Option ai}{base:bL}{N ps:List bt}{qual:bt}{scope:gy}{f:aw}{cd:ai}{A:bB}{outer:List n_}{s s1:aj}{H:Hp}{E:XK}{us:List ai}{vs:List V}
    (S:FnScope N ps scope) (hd:A.handled=el) (e0:Env0 P w K mg base A outer s H) (hl:vs.length=ps.length) (r:Vals vs us)
    (x:InCallC s s.heap.objs.size (CT (ji qual scope s.heap.objs.size f cd).kindOf (ps.zip us) λ_=>el) (cellsFrom (s.heap.objs.size+1) scope.names []) (CU (ji qual scope s.heap.objs.size f cd).kindOf (ps.zip us) λ_=>el) s1) :
    Inv (a0e CX P w K mg base N qual scope f cd A outer s H E) [] (start N vs) H s1:=by
  have fF:ps.length<=N.length:=by have:=dY gN S.pre;rw[gU]at this;omega
  obtain⟨h1,tk,rfl,hk⟩:=x.done;have tX:∀b:aw,b∉(a0e CX P w K mg base N qual scope f cd A outer s H E).ex:=λb z=>absurd (show b∈([]:List aw) from z) (by simp)
  refine⟨⟨e0.mod,S.kind,rfl,rfl,aG _,λy z c h1 h2=>?_,λy hy=>?_,λy c _ h=>?_,λ_=>hd,bB.frames_deeper e0.frames,.inr ⟨rfl,rfl⟩,λb z=>absurd z (tX b),e0.bs,e0.bsz,λb _ _=>tX b,λb z=>absurd z (tX b),e0.funs,e0.frf,e0.tabs⟩,
    rfl,e0.bare,Un.kept hk,⟨_,x.toInCall.ns,λi y v h1 h2 h3=>?_⟩,λy c h=>⟨_,x.cell y c h⟩,e0.hok.fresh (aG _),λy c h=>?_,λp hp=>absurd (show p∈([]:List (aw×fm)) from hp) (by simp),e0.hok.kept hk,?_⟩
  . exact name_of_addr x.apart (bW h1) (bW h2)
  . have hy:scope.names.lookup y=cz .cell\/scope.names.lookup y=cz .free:=hy
    rcases hy with hy|hy
    . exact a6d hy
    . exact absurd rfl (S.nofree _ (bW hy))
  . exact dZ (x.above y c (bW h))
  . have hi:i<vs.length:=by
      unfold start at h2;by_cases hi:i<vs.length
      . exact hi
      . rw[eZ (by simpa using hi)]at h2
        rw[tN]at h2
        split at h2<;>cases h2
    have ha:vs[i]?=cz v:=by
      unfold start at h2;rw[gY (by simpa using hi),aY]at h2;cases e:vs[i]? with
      |none=>rw[e]at h2;cases h2
      |some a=>rw[e]at h2;cases h2;rfl
    obtain⟨u,hu,rv⟩:=r.get ha;have hp:ps[i]?=cz y:=by
      rw[<-S.pre,List.getElem?_take_of_lt (by omega)];exact h1
    have Bh:ps.Nodup:=by rw[<-S.pre];exact S.nd.sublist (List.take_sublist _ _)
    refine⟨u,rv,?_⟩;rcases S.par y (bx hp) with k|k
    . exact .inl ⟨k,a4g Bh hp hu k⟩
    . obtain⟨c,e⟩:=a6d (n:=s.heap.objs.size+1) k
      refine .inr ⟨.inl k,c,e,?_⟩;have q:=x.cell y c e;rw[a4h Bh hp hu (by show scope.names.lookup y≠_;rw[k];decide)]at q;exact q
  . exact e0.hok.fresh (dZ (x.above y c (bW h)))
  . unfold start
    show _=N.length;rw[bh,ao,gn];omega
def b2c{CX:CXT}{P:br}{w:bK}{K:af}{mg:bt->Option ai}{base:bL}{k:Nat}{f:aw}{name qual:bt}{params:mi}{body:List fS}{scope:gy}{dV kV doc pm gg ct oc:ai}{an od:Option aw}
    {oW:Array (Option ai)} {N ps:List bt} {sp:Sp} (lk:K.lookup f=cz ⟨oc,od,.func (gc name qual params body scope dV kV doc pm an gg ct),oW⟩) (kL:mf K gg qual=fx) (S:FnScope N ps scope)
    (len:∀vs H Q E,sp vs H Q E->vs.length=ps.length)
    (qR:∀(A:bB) (outer:List n_) (s:aj) (H:Hp) (vs:List V) (Q:VK) (E:XK),Room k (A.deeper (ji qual scope s.heap.objs.size f gg))->sp vs H Q E->
      ∃t,PSs (a0e CX P w K mg base N qual scope f gg A outer s H E) body t/\t {nx:=λ_ H'=>Q .non H',rt:=Q} (start N vs) H) :
    FnOk P w K mg base CX (k+1) f (gc name qual params body scope dV kV doc pm an gg ct) ps sp:=by
  refine⟨len,λA outer s H args us vs Q E hr e0 hb r nq=>?_⟩;have hl:=len _ _ _ _ nq;have KX:K.In s.heap:=e0.mod.kin.keeps λb o e=>(e0.bs b o e).1
  have lim:s.heap.NoLimit:=e0.mod.nolimit.keeps λb o e=>(e0.bs b o e).1
  have wK:∀y∈ps.zip us,scope.names.lookup y.1=cz .local\/(scope.names.lookup y.1=cz .cell/\((cellsFrom (s.heap.objs.size+1) scope.names []).lookup y.1).isSome=fx):=λ⟨n,v⟩ hy=>by
    rcases S.par n (jf hy).1 with q|q
    . exact .inl q
    . exact .inr ⟨q,uJ _ _ _ (.inl q)⟩
  refine codeAny_call_function hr.depth (KX _ _ lk) rfl S.co S.gen rfl (PySem.W.codeRec_of KX kL) (hb _ _ _ _ ?_);refine wpAny_newFunctionEnv_cells S.kind wK λenv he s1 x=>?_
  subst he;refine⟨lim.keeps x.toInCall.keep,codeAny_func ?_⟩;obtain⟨t,ht,hq⟩:=qR A outer s H vs Q E (hr.deeper _) nq;have I:Inv (a0e CX P w K mg base N qual scope f gg A outer s H E) [] (start N vs) H s1:=b0m S hr.hd e0 hl r x;refine cK (ht [] s1 (start N vs) H _ I hq) (λfl s' hs=>?_) λe s' hs=>hs
  have fin:∀{Y':St} {H':Hp} {v:V} {u:ai},Inv (a0e CX P w K mg base N qual scope f gg A outer s H E) [] Y' H' s'->RelV v u->Q v H'->CE outer P w H s Q u s':=
    λ{Y' H' v u} J rv q=>⟨v,H',J.os,J.bare,J.base,J.hok,rv,q⟩
  cases fl with
  |ret u=>
    obtain⟨v,Y',H',J,rv,q⟩:=hs;exact fin J rv q
  |next=>
    obtain⟨Y',H',J,q⟩:=hs;exact fin (v:=V.non) (u:=bZ) J rfl q
  |brk=>
    obtain⟨_,_,_,q⟩:=hs;exact cy q
  |cont=>
    obtain⟨_,_,_,q⟩:=hs;exact cy q
section
variable {X:Cx}{x:bt}{p pos:eA}{e:Expr}{es:List Expr}{t:TA}{id T:String}{r:List V->Hp->VK->Prop}
def tCB(r:List V->Hp->VK->Prop)(t:TA):TE:=λY H Q=>t Y H λvs H1=>r vs H1 Q
def N8(hc:CallR X (.builtin id) r)(hg:Gl X x)(hm:X.mg x=el)(hv:fg x=cz (.builtin id))(ha:PA X (e::es) t)(hn:x≠"__name__":=by decide)(lG:(x==("__debug__":bt))=p4:=by decide)
    (he:ak (e::es) X.env=(p4,bX e X.env)::ak es X.env:=by rfl) (fF:(bY pos (ak es X.env)).any (·.1)=p4:=by rfl):PE X (.Call (.Name x p) (e::es) [] pos) (tCB r t):=by
  intro pins s Y H Q I h;refine dX (V8 I hg hm hv ?_ hn lG);exact PyProof.Rows.callWith_builtin1 (thn (ha pos pins s Y H _ I h) λus s1 ⟨vs,H1,I1,r1,q1⟩=>hc pins s1 Y H1 vs us Q I1 r1 q1) he fF
def C5(hc:CallR X (.type T) r)(hg:Gl X x)(hm:X.mg x=el)(hv:fg x=cz (.type T))(ha:PA X (e::es) t)(hn:x≠"__name__":=by decide)(lG:(x==("__debug__":bt))=p4:=by decide)
    (he:ak (e::es) X.env=(p4,bX e X.env)::ak es X.env:=by rfl) (fF:(bY pos (ak es X.env)).any (·.1)=p4:=by rfl):PE X (.Call (.Name x p) (e::es) [] pos) (tCB r t):=by
  intro pins s Y H Q I h;refine dX (V8 I hg hm hv ?_ hn lG);exact dW (thn (ha pos pins s Y H _ I h) λus s1 ⟨vs,H1,I1,r1,q1⟩=>hc pins s1 Y H1 vs us Q I1 r1 q1) he fF
end
end L2
namespace HT
open PyProof.Rows
section
variable {prog:br}{w:bK}{A:bB}{E:ai->aj->Prop}{s:aj}
def b5e{vs ws:List ai}(ht:IsTup s.heap t vs.toArray)(hb:IsTup s.heap b ws.toArray)(hv:vs≠[])
    (h1:ws=[]->Q (.ref t) s) (h2:ws≠[]->Q (.ref s.heap.objs.size) {s with heap:=s.heap.push {cls:=.type "tuple",data:=.seq (vs++ws).toArray}})
    (hsz:vs.length+ws.length<=aQ):az (aO prog w) A (eF .Add (.ref t) (.ref b)) Q E s:=by
  obtain⟨⟨cls,dd,data,sl⟩,ho,hc,n,hd⟩:=id ht;obtain⟨⟨AH,yB,data2,vG⟩,ui,mL,n2,hd2⟩:=id hb;simp only at hc hd mL hd2;subst hc hd mL hd2;have e:vs.toArray++ws.toArray=(vs++ws).toArray:=by simp
  by_cases hw:ws=[]
  . exact GY ⟨_,ho,rfl⟩ ⟨_,ui,rfl⟩ rT yQ kX kH (kj _ _)
      (tuple_addW1 t b vs.toArray ws.toArray n n2 dd yB sl vG (by simpa using hv) (by simp[hw])) ⟨ho,ui,h1 hw⟩
  . refine GY ⟨_,ho,rfl⟩ ⟨_,ui,rfl⟩ rT yQ kX kH (kj _ _)
      (tuple_addW2 t b vs.toArray ws.toArray n n2 dd yB sl vG (by simpa using hv) (by simpa using hw) (by rw[bC,bC];exact hsz)) ⟨ho,ui,?_⟩
    rw[e];exact h2 hw
def sIx(n d:Nat):Option Int->Nat
  |none=>d
  |some v=>if v<0 then (v+(n:Int)).toNat else min v.toNat n
end
end HT
namespace L2
open PySem.Spec PyProof.Rows
abbrev TO:=St->Hp->(Option Int->Hp->Prop)->Prop
def PO(X:Cx)(e:Option Expr)(t:TO):Prop:=
  ∀(pins:List (aw×fm)) (s:aj) (Y:St) (H:Hp) (Q:Option Int->Hp->Prop),Inv X pins Y H s->t Y H Q->
    az (aO X.prog X.w) X.A (evalPart e X.env) (λu s'=>∃o H',Inv X pins Y H' s'/\IsPart u o/\Q o H') X.xe s
def b5f:TO:=λ_ H Q=>Q el H
def c0x(t:TE):TO:=λY H Q=>t Y H λx H1=>∃i,x=.int i/\Q (cz i) H1
section
variable {X:Cx}{e:Expr}{te:TE}{lo hi:Option Expr}{tl th:TO}{pos p2:eA}
def b5g:PO X el b5f:=by
  intro pins s Y H Q I h;rw[evalPart_none];exact ag ⟨el,H,I,.none,h⟩
def b5h(h:PE X e te):PO X (cz e) (c0x te):=by
  intro pins s Y H Q I hw;rw[evalPart_some];refine thn (h pins s Y H _ I hw) λu s1 ⟨x,H1,I1,r1,q1⟩=>?_
  obtain⟨i,rfl,q⟩:=q1;obtain⟨t,rfl⟩:=r1;exact⟨cz i,H1,I1,.int i t,q⟩
def SlR(X:Cx)(r:V->Option Int->Option Int->Hp->VK->Prop):Prop:=
  ∀(pins:List (aw×fm)) (s:aj) (Y:St) (H:Hp) (x:V) (v vl vu:ai) (lo hi:Option Int) (sl:aw) (Q:VK),Inv X pins Y H s->RelV x v->s.heap.IsSliceOf sl vl vu .none->IsPart vl lo->IsPart vu hi->r x lo hi H Q->
    ∃T id,mq (.type T) "__getitem__"=pure (cz (.builtin id))/\s.TypeIs v T/\az (aO X.prog X.w) X.A (qY v (.ref sl)) (EP X pins Y Q) X.xe s
def tSl(r:V->Option Int->Option Int->Hp->VK->Prop)(te:TE)(tl th:TO):TE:=λY H Q=>te Y H λx H1=>tl Y H1 λl H2=>th Y H2 λu H3=>r x l u H3 Q
def b2d(hr:SlR X r)(he:PE X e te)(hl:PO X lo tl)(hu:PO X hi th):PE X (.Subscript e (.Slice lo hi el p2) pos) (tSl r te tl th):=by
  intro pins s Y H Q I h;refine Subscript_ (thn (he pins s Y H _ I h) λv s1 ⟨x,H1,I1,r1,q1⟩=>?_);refine wpAny_Slice (thn (hl pins s1 Y H1 _ I1 q1) λvl s2 ⟨l,H2,I2,pl,q2⟩=>thn (hu pins s2 Y H2 _ I2 q2) λvu s3 ⟨u,H3,I3,pu,q3⟩=>?_);rw[evalPart_none];refine ag ?_;have I4:Inv X pins Y H3 {s3 with heap:=s3.heap.push {cls:=.type "slice",data:=.fields #[vl,vu,.none]}}:=I3.kept (t':=s3.toks) λb ob q=>ah _ q
  obtain⟨T,id,hT,ht,hg⟩:=hr pins {s3 with heap:=s3.heap.push {cls:=.type "slice",data:=.fields #[vl,vu,.none]}} Y H3 x v vl vu l u s3.heap.objs.size Q I4 r1 (bL.IsSliceOf.new ..) pl pu q3;show az (aO X.prog X.w) X.A (subscriptTail e (.Slice lo hi el p2) v (.ref s3.heap.objs.size)) (EP X pins Y Q) X.xe {s3 with heap:=s3.heap.push {cls:=.type "slice",data:=.fields #[vl,vu,.none]}};exact tail_any (ops:=[.ref s3.heap.objs.size,v]) ht hT hg (by with_unfolding_all rfl)
def a7G(xs:List V)(lo hi:Option Int):List V:=(xs.drop (HT.sIx xs.length 0 lo)).take (HT.sIx xs.length xs.length hi-HT.sIx xs.length 0 lo)
def a6e(xs:List V)(lo hi:Option Int):(a7G xs lo hi).length<=xs.length:=by
  unfold a7G;rw[gU,kJ];omega
def b6Y(K:af):R2:=λx y H Q=>∃a b xs ys,x=.ref a/\y=.ref b/\SqT K H a xs/\SqT K H b ys/\xs≠[]/\xs.length+ys.length<=aQ/\
  (ys=[]->Q (.ref a) H)/\(ys≠[]->∀p,H p=el->Q (.ref p) (upd H p (.tup (xs++ys))))
def Vals.nil_iff(r:Vals xs us):us=[]↔xs=[]:=by
  cases r with
  |nil=>simp
  |cons _ _=>simp
def b5i:OpR X (eF .Add) (b6Y X.K):=by
  intro pins s Y H x y v u Q I rx ry h;obtain⟨a,b,xs,ys,rfl,rfl,ha,hb,hx,hz,q1,q2⟩:=h;cases rx
  cases ry
  obtain⟨cP,r1,p1,_⟩:=I.tuple ha;obtain⟨rV,r2,p2,_⟩:=I.tuple hb;refine HT.b5e p1 p2 (λz=>hx (r1.nil_iff.mp z)) (λz=>⟨.ref a,H,I,rfl,q1 (r2.nil_iff.mp z)⟩) (λz=>?_) (by rw[<-r1.length,<-r2.length];exact hz);refine⟨.ref s.heap.objs.size,_,I.laid (t':=s.toks) (o:=.tup (xs++ys)) (λb ob q=>ah _ q) (aG _) ?_,rfl,q2 (λw=>z (r2.nil_iff.mpr w)) _ (I.hok.fresh (aG _))⟩;exact⟨by rw[bh];exact hz,_,r1.append r2,IsTup.new _ _⟩
end
def ixN(n:Nat)(i:Int):Option Nat:=if 0<=i then (if i<n then cz i.toNat else el) else if -(n:Int)<=i then cz (i+n).toNat else el
def atI{α:Type}(xs:List α)(i:Int):Option α:=(ixN xs.length i).bind λj=>xs[j]?
def b5j(h:ixN n i=cz j):seqIndex? i n=cz j/\j<n/\-(n:Int)<=i/\i<n:=by
  unfold ixN at h;by_cases h0:0<=i
  . rw[aJ h0]at h
    by_cases h1:i<n
    . rw[aJ h1]at h
      have e:i.toNat=j:=aK h;exact⟨by rw[seqIndex_of h0 h1,e],by omega,by omega,h1⟩
    . rw[aN h1]at h;cases h
  . rw[aN h0]at h
    by_cases h1:-(n:Int)<=i
    . rw[aJ h1]at h
      have e:(i+n).toNat=j:=aK h;exact⟨by rw[seqIndex_neg (by omega) h1,e],by omega,h1,by omega⟩
    . rw[aN h1]at h;cases h
def a9k{α:Type}{xs:List α}{i:Int}{v:α}(h:atI xs i=cz v):∃j,seqIndex? i xs.length=cz j/\xs[j]?=cz v/\j<xs.length/\-(xs.length:Int)<=i/\i<xs.length:=by
  unfold atI at h;cases e:ixN xs.length i with
  |none=>rw[e]at h;cases h
  |some j=>
    rw[e]at h;obtain⟨h1,h2,h3,h4⟩:=b5j e;exact⟨j,h1,h,h2,h3,h4⟩
def a2i(b:Expr):Prop:=∀o i,sR b p4 o i=operate [o,i] (qY o i)
def IxR(X:Cx)(r:R2):Prop:=
  ∀(value slice:Expr) (pins:List (aw×fm)) (s:aj) (Y:St) (H:Hp) (x y:V) (v u:ai) (Q:VK),Inv X pins Y H s->RelV x v->RelV y u->r x y H Q->
    sR slice p4 v u=operate [v,u] (qY v u)->az (aO X.prog X.w) X.A (subscriptTail value slice v u) (EP X pins Y Q) X.xe s
def MtR(X:Cx)(id:String)(r:V->List V->Hp->VK->Prop):Prop:=
  ∀(pins:List (aw×fm)) (s:aj) (Y:St) (H:Hp) (x:V) (xs:List V) (v:ai) (us:List ai) (Q:VK),Inv X pins Y H s->RelV x v->Vals xs us->r x xs H Q->
    az (aO X.prog X.w) X.A (call (.builtin id) (v::us)) (EP X pins Y Q) X.xe s
section
variable {X:Cx}{a b:Expr}{ta tb:TE}{pos:eA}
def IxR.or(h:IxR X r)(h':IxR X r'):IxR X (λx y H Q=>r x y H Q\/r' x y H Q):=by
  intro value slice pins s Y H x y v u Q I rx ry q hs;rcases q with q|q
  . exact h value slice pins s Y H x y v u Q I rx ry q hs
  . exact h' value slice pins s Y H x y v u Q I rx ry q hs
def b2e(hr:IxR X r)(ha:PE X a ta)(hb:PE X b tb)(hs:a2i b):PE X (.Subscript a b pos) (tOp r ta tb):=by
  intro pins s Y H Q I h;exact Subscript_ (b7Y ha hb I h λv u s2 x y H2 I2 rx ry q=>hr a b pins s2 Y H2 x y v u Q I2 rx ry q (hs _ _))
def c0y(K:af):R2:=λx y H Q=>∃p xs i v,x=.ref p/\y=.int i/\SqL K H p xs/\atI xs i=cz v/\Q v H
def c0z(K:af):R2:=λx y H Q=>∃p xs i v,x=.ref p/\y=.int i/\SqT K H p xs/\atI xs i=cz v/\Q v H
def b5k:IxR X (c0y X.K):=by
  intro value slice pins s Y H x y v u Q I rx ry h hs;obtain⟨p,xs,i,z,rfl,rfl,hq,he,q⟩:=h;cases rx
  obtain⟨t,rfl⟩:=ry;obtain⟨cP,r,pl,hz⟩:=I.list hq;obtain⟨j,h1,h2,h3,h4,h5⟩:=a9k he;obtain⟨w,ew,vH⟩:=r.get h2;have hl:=r.length;have hn:=a2y;have fin:EP X pins Y Q w s:=⟨z,H,I,vH,q⟩;by_cases h0:0<=i
  . have hj:i.toNat=j:=by
      rw[seqIndex_of h0 h5]at h1;exact aK h1
    exact item_listR pl.isList h0 (by omega) (by rw[hj];simpa using ew) fin hs
  . have hj:(i+(cP.toArray.size:Int)).toNat=j:=by
      rw[seqIndex_neg (by omega) h4]at h1;rw[bC,<-hl];exact aK h1
    exact subscriptTail_builtinR (x:=w) pl.isList.typeIs slot_list_getitem.lookup
      (wpAny_getItem_list_neg (Q:=λr s'=>r=w/\EP X pins Y Q r s') pl.isList (by omega) (by rw[bC]<;>omega) (by omega) (by rw[hj];simpa using ew) ⟨rfl,fin⟩) hs
def b8l:IxR X (c0z X.K):=by
  intro value slice pins s Y H x y v u Q I rx ry h hs;obtain⟨p,xs,i,z,rfl,rfl,hq,he,q⟩:=h;cases rx
  obtain⟨t,rfl⟩:=ry;obtain⟨cP,r,pl,hz⟩:=I.tuple hq;obtain⟨j,h1,h2,h3,h4,h5⟩:=a9k he;obtain⟨w,ew,vH⟩:=r.get h2;have hl:=r.length;have hn:=a2y;have fin:EP X pins Y Q w s:=⟨z,H,I,vH,q⟩;exact subscriptTail_builtinR (x:=w) pl.typeIs slot_tuple_getitem.lookup
    (getItem_tuple (j:=j) (Q:=λr s'=>r=w/\EP X pins Y Q r s') pl (by omega) (by omega) (by rw[bC,<-hl];exact h1) (by simpa using ew) ⟨rfl,fin⟩) hs
def a5k(lo hi:Option Int)(n:Nat):(jC lo hi el n).1=((HT.sIx n 0 lo:Nat):Int)/\(jC lo hi el n).2.1=((HT.sIx n n hi:Nat):Int)/\(jC lo hi el n).2.2=1:=by
  refine⟨?_,?_,rfl⟩
  . cases lo with
    |none=>simp[jC,HT.sIx]
    |some i=>
      simp only[jC,HT.sIx,Hi,show (1:Int)>0 by decide,jr];by_cases h:i<0
      . simp only[h,jr]<;>omega
      . simp only[h,fQ]<;>omega
  . cases hi with
    |none=>simp[jC,HT.sIx]
    |some i=>
      simp only[jC,HT.sIx,Hi,show (1:Int)>0 by decide,jr];by_cases h:i<0
      . simp only[h,jr]<;>omega
      . simp only[h,fQ]<;>omega
def a3O(cP:List ai)(lo hi:Option Int):slicePick cP.toArray lo hi el=((cP.drop (HT.sIx cP.length 0 lo)).take (HT.sIx cP.length cP.length hi-HT.sIx cP.length 0 lo)).toArray:=by
  obtain⟨h1,h2,h3⟩:=a5k lo hi cP.toArray.size;unfold slicePick;rw[h1,h2,h3];simp only[sliceRange_one,pick_run,bC]<;>rfl
def c2n(K:af):V->Option Int->Option Int->Hp->VK->Prop:=λx lo hi H Q=>∃a xs,x=.ref a/\SqL K H a xs/\∀p,H p=el->Q (.ref p) (upd H p (.lst (a7G xs lo hi)))
def b5l:SlR X (c2n X.K):=by
  intro pins s Y H x v vl vu lo hi sl Q I rx hs pl pu h;obtain⟨a,xs,rfl,hx,q⟩:=h;cases rx
  obtain⟨cP,r,ht,hz⟩:=I.list hx;have hlen:=r.length;refine⟨"list",_,slot_list_getitem.lookup,ht.isList.typeIs,?_⟩;refine wpAny_getItem_list_slice ht.isList hs pl pu .none (by simp) ?_ (by rw[bC]<;>omega);rw[a3O,<-hlen];refine⟨.ref s.heap.objs.size,_,I.laid (t':=s.toks) (o:=.lst (a7G xs lo hi)) (λb ob q=>ah _ q) (aG _) ?_,rfl,q _ (I.hok.fresh (aG _))⟩;exact⟨cx (a6e xs lo hi) hz,_,0,(r.drop (HT.sIx xs.length 0 lo)).take (HT.sIx xs.length xs.length hi-HT.sIx xs.length 0 lo),aF _ rfl⟩
def a5l:CallR X (.builtin "len") (λxs H Q=>∃p ys,xs=[.ref p]/\(SqL X.K H p ys\/SqT X.K H p ys)/\Q (.int ys.length) H):=by
  intro pins s Y H xs us Q I r h;obtain⟨p,ys,rfl,hq,q⟩:=h;obtain⟨u,rfl,rx⟩:=vals1 r;cases rx
  have hn:=a2y;rcases hq with hq|hq
  . obtain⟨cP,r',pl,hz⟩:=I.list hq
    have hlen:=r'.length;exact Calls.call_len_list pl.isList (by simp only[bC]<;>omega) ⟨.int ys.length,H,I.tok _,⟨s.toks+1,by rw[bC,hlen]⟩,q⟩
  . obtain⟨cP,r',pl,hz⟩:=I.tuple hq
    have hlen:=r'.length;exact len_tuple pl (by simp only[bC]<;>omega) ⟨.int ys.length,H,I.tok _,⟨s.toks+1,by rw[bC,hlen]⟩,q⟩
def a5m:CallR X (.builtin "len") (λxs H Q=>∃z,xs=[.str z]/\z.length<=aQ/\Q (.int z.length) H):=by
  intro pins s Y H xs us Q I r h;obtain⟨z,rfl,hz,q⟩:=h;obtain⟨u,rfl,t,rfl⟩:=vals1 r;have hn:=a2y;exact len_str (by omega) ⟨.int z.length,H,I.tok _,⟨_,rfl⟩,q⟩
def CallR.or(h:CallR X f r)(h':CallR X f r'):CallR X f (λxs H Q=>r xs H Q\/r' xs H Q):=by
  intro pins s Y H xs us Q I rs q;rcases q with q|q
  . exact h pins s Y H xs us Q I rs q
  . exact h' pins s Y H xs us Q I rs q
def a0t:CallR X (.type "list") (λxs H Q=>∃p ys,xs=[.ref p]/\(SqL X.K H p ys\/SqT X.K H p ys)/\∀l,H l=el->Q (.ref l) (upd H l (.lst ys))):=by
  intro pins s Y H xs us Q I r h;obtain⟨p,ys,rfl,hq,q⟩:=h;obtain⟨u,rfl,rx⟩:=vals1 r;cases rx
  have fin:∀(cP:List ai),Vals ys cP->ys.length<=aQ->∀(h':bL) (c':Nat),(∀b o',s.heap.get? b=cz o'->h'.get? b=cz o')->
      h'.get? s.heap.objs.size=cz {cls:=.type "list",dict:=el,data:=.seq cP.toArray c',slots:=#[]}->EP X pins Y Q (.ref s.heap.objs.size) {s with heap:=h'}:=λcP r' hz h' c' kp e=>
    ⟨.ref s.heap.objs.size,_,I.laid (t':=s.toks) kp (aG _) (show ObjOk X.prog X.w _ h' _ (.lst ys) from⟨hz,cP,c',r',e⟩),rfl,q _ (I.hok.fresh (aG _))⟩
  rcases hq with hq|hq
  . obtain⟨cP,r',pl,hz⟩:=I.list hq
    have hlen:=r'.length;obtain⟨o,ho,hc,n,hd⟩:=pl.isList;exact call_list_seq p (.inl rfl) ho hc hd (λh' c' kp e=>fin cP r' hz h' c' kp e) (by simp only[bC]<;>omega)
  . obtain⟨cP,r',pl,hz⟩:=I.tuple hq
    have hlen:=r'.length;obtain⟨o,ho,hc,n,hd⟩:=pl;exact call_list_seq p (.inr rfl) ho hc hd (λh' c' kp e=>fin cP r' hz h' c' kp e) (by simp only[bC]<;>omega)
def a3P:CallR X (.type "tuple") (λxs H Q=>∃p ys,xs=[.ref p]/\((SqL X.K H p ys/\∀l,H l=el->Q (.ref l) (upd H l (.tup ys)))\/(SqT X.K H p ys/\Q (.ref p) H))):=by
  intro pins s Y H xs us Q I r h;obtain⟨p,ys,rfl,h⟩:=h;obtain⟨u,rfl,rx⟩:=vals1 r;cases rx
  rcases h with⟨hq,q⟩|⟨hq,q⟩
  . obtain⟨cP,r',pl,hz⟩:=I.list hq
    have hlen:=r'.length;refine call_tuple_list pl.isList (λh' kp=>?_) (by simp only[bC]<;>omega);have I1:Inv X pins Y H {s with heap:=h'}:=I.kept (t':=s.toks) kp;have I2:Inv X pins Y (upd H h'.objs.size (.tup ys)) {s with heap:=h'.push {cls:=.type "tuple",data:=.seq cP.toArray}}:=
      I1.laid (t':=s.toks) (λb o e=>ah _ e) (aG _) (show ObjOk X.prog X.w _ _ _ (.tup ys) from⟨hz,cP,r',IsTup.new _ _⟩)
    exact⟨.ref h'.objs.size,_,I2,rfl,q _ (I1.hok.fresh (aG _))⟩
  . obtain⟨cP,r',pl,hz⟩:=I.tuple hq
    exact call_tuple_same pl ⟨.ref p,H,I,rfl,q⟩
def tyV(K:af)(T:String)(x:V)(H:Hp):Prop:=match x with
  |.str _=>T="str"
  |.int _=>T="int"
  |.ref p=>(T="list"/\∃xs,SqL K H p xs)\/(T="tuple"/\∃o,K.lookup p=cz o/\o.cls=.type "tuple"/\o.dict=el)\/
      (T="dict"/\((∃kvs,H p=cz (.dK kvs))\/∃kvs,H p=cz (.dT kvs)))\/(T="set"/\∃S n,H p=cz (.set S n))
  |_=>False
def b2f(I:Inv X pins Y H s)(r:RelV x v)(ty:tyV X.K T x H) :
    s.TypeIs v T/\∀a,v=.ref a->∃ob,s.heap.get? a=cz ob/\ob.dict=el:=by
  cases x with
  |str z=>
    obtain⟨t,rfl⟩:=r;cases (show T="str" from ty)
    exact⟨typeIs_str s z t,λ_ e=>nomatch e⟩
  |int i=>
    obtain⟨t,rfl⟩:=r;cases (show T="int" from ty)
    exact⟨typeIs_int s i t,λ_ e=>nomatch e⟩
  |ref p=>
    cases r
    rcases ty with⟨rfl,xs,hq⟩|⟨rfl,o,hk,hc,hd⟩|⟨rfl,hk⟩|⟨rfl,S,n,hk⟩
    . obtain⟨cP,_,pl,_⟩:=I.list hq
      refine⟨pl.isList.typeIs,λa e=>?_⟩;cases e
      obtain⟨o,n,e,c,hd,_⟩:=pl;exact⟨o,e,hd⟩
    . refine⟨⟨o,I.kIn p o hk,hc⟩,λa e=>?_⟩
      cases e
      exact⟨o,I.kIn _ o hk,hd⟩
    . have z:∃o,s.heap.get? p=cz o/\o.ExactDict:=by
        rcases hk with⟨kvs,hk⟩|⟨kvs,hk⟩
        . obtain⟨_,_,_,_,o,_,_,e,ex,_⟩:=I.hok p _ hk
          exact⟨o,e,ex⟩
        . obtain⟨_,_,_,_,o,_,_,e,ex,_⟩:=I.hok p _ hk
          exact⟨o,e,ex⟩
      obtain⟨o,e,ex⟩:=z;refine⟨⟨o,e,ex.1⟩,λa e2=>?_⟩;cases e2
      exact⟨o,e,ex.2.1⟩
    . obtain⟨o,_,_,_,e,ex,_⟩:=I.hok p _ hk
      refine⟨⟨o,e,ex.1⟩,λa e2=>?_⟩;cases e2
      exact⟨o,e,ex.2.1⟩
  |_=>exact cy ty
def c2o(K:af)(T:String)(r:V->List V->Hp->VK->Prop)(to:TE):TE:=λY H Q=>to Y H λx H1=>tyV K T x H1/\r x [] H1 Q
def tBM(K:af)(T:String)(r:V->List V->Hp->VK->Prop)(to:TE)(t:TA):TE:=λY H Q=>to Y H λx H1=>tyV K T x H1/\t Y H1 λxs H2=>r x xs H2 Q
variable {o e:Expr}{es:List Expr}{to:TE}{t:TA}{name:bt}{apos cH:eA}{T id:String}{r:V->List V->Hp->VK->Prop}
def b8m(pa:PlainAttrs T)(slot:Slot T name id)(wm:typeOf (.builtin id)=pure (.type "method_descriptor"))(hm:MtR X id r)(ho:PE X o to)
    (eX:dE o name X.env (bX o X.env)=bX o X.env:=by rfl) (eW:(apos.endLine==cH.line)=fx:=by rfl):PE X (.Call (.Attribute o name apos) [] [] cH) (c2o X.K T r to):=by
  intro pins s Y H Q I h;refine iG eX eW (thn (ho pins s Y H _ I h) λv s1 ⟨x,H1,I1,r1,ty,q1⟩=>?_);obtain⟨h1,h2⟩:=b2f I1 r1 ty;exact⟨T,id,pa,slot,wm,h1,h2,fq rfl (jk (hm pins s1 Y H1 x [] v [] Q I1 r1 .nil q1))⟩
def c0A(pa:PlainAttrs T)(slot:Slot T name id)(wm:typeOf (.builtin id)=pure (.type "method_descriptor"))(hm:MtR X id r)(ho:PE X o to)(ha:PA X (e::es) t)
    (eX:dE o name X.env (bX o X.env)=bX o X.env:=by rfl)
    (lW:((bY cH (ak (e::es) X.env)).all (λx=>!x.1)&&(rd cH (lj [] X.env)).all (λx=>x.1.isSome)
      && decide ((e::es).length+([]:List iZ).length+(if ([]:List iZ).isEmpty then 0 else 1)<30))=fx:=by rfl)
    (eW:(apos.endLine==cH.line)=fx:=by rfl) (hs:ak (e::es) X.env=(p4,bX e X.env)::ak es X.env:=by rfl) (iA:(bY cH (ak es X.env)).any (·.1)=p4:=by rfl) :
    PE X (.Call (.Attribute o name apos) (e::es) [] cH) (tBM X.K T r to t):=by
  intro pins s Y H Q I h;refine Du eX lW eW rfl (thn (ho pins s Y H _ I h) λv s1 ⟨x,H1,I1,r1,ty,q1⟩=>?_);obtain⟨h1,h2⟩:=b2f I1 r1 ty;refine⟨T,id,pa,slot,wm,h1,h2,?_⟩;have hA:=ha cH pins s1 Y H1 _ I1 q1;rw[hs]at hA ⊢;refine fq (by show (p4||(bY cH (ak es X.env)).any (·.1))=p4;rw[iA]<;>rfl) (jM ?_);exact thn hA λus s2 ⟨vs,H2,I2,r2,q2⟩=>hm pins s2 Y H2 x vs v us Q I2 r1 r2 q2
end
def MtM(X:Cx)(id:String)(r:V->List V->Hp->VK->Prop):Prop:=
  ∀(pins:List (aw×fm)) (s:aj) (Y:St) (H:Hp) (x:V) (xs:List V) (v:ai) (us:List ai) (Q:VK),Inv X pins Y H s->RelV x v->Vals xs us->r x xs H Q->
    az (aO X.prog X.w) X.A (call (.builtin id) (v::us)) (EP X pins Y Q) X.xe s
def Vals.one:∀{x:V} {us:List ai},Vals [x] us->∃u,us=[u]/\RelV x u
  |_,_,.cons r .nil=>⟨_,rfl,r⟩
def Vals.zero:∀{us:List ai},Vals [] us->us=[]
  |_,.nil=>rfl
section
variable {X:Cx}{pins:List (aw×fm)}{Y:St}{H:Hp}{s:aj}{l b:aw}{xs ys zs:List V}
def Inv.lset{cP its':List ai}(I:Inv X pins Y H s)(hH:H l=cz (.lst xs))
    (e:s.heap.get? l=cz {cls:=.type "list",data:=.seq cP.toArray n}) (hf:f cP.toArray=its'.toArray) (hv:Vals ys its') (hz:ys.length<=aQ) :
    Inv X pins Y (upd H l (.lst ys)) {s with heap:=s.heap.update l (ib f),toks:=t'}:=by
  have q:=PySem.IsL.update e f;rw[hf]at q;refine I.write (x:=l) (e:=l) (by rw[hH];exact trivial) (.inl rfl) (λb' u hb hu=>(dH s.heap (ib f) (dy hb)).trans hu) ⟨_,q⟩ ?_;exact⟨hz,its',_,hv,q⟩
def Inv.lnew(I:Inv X pins Y H s)(hv:Vals ys cP)(hz:ys.length<=aQ) :
    Inv X pins Y (upd H s.heap.objs.size (.lst ys)) {s with heap:=s.heap.push {cls:=.type "list",data:=.seq cP.toArray},toks:=t'}:=
  I.laid (λ_ _ q=>ah _ q) (aG _) ⟨hz,cP,0,hv,aF _ rfl⟩
theorem Inv.fresh(I:Inv X pins Y H s):H s.heap.objs.size=el:=I.hok.fresh (aG _)
def Inv.lstM(I:Inv X pins Y H s)(hH:H l=cz (.lst xs)):xs.length<=aQ/\∃(cP:List ai) (n:Nat),Vals xs cP/\xs.length=cP.length/\s.heap.get? l=cz {cls:=.type "list",data:=.seq cP.toArray n}:=by
  obtain⟨z,cP,n,r,e⟩:=I.hok l _ hH;exact⟨z,cP,n,r,r.length,e⟩
end
section
variable {X:Cx}
def b5m:V->List V->Hp->VK->Prop:=λx vs H Q=>∃l xs y,x=.ref l/\vs=[y]/\H l=cz (.lst xs)/\xs.length<aQ/\Q .non (upd H l (.lst (xs++[y])))
def a4i:MtM X "list.append" b5m:=by
  intro pins s Y H x vs v us Q I rx rv h;obtain⟨l,xs,y,rfl,rfl,hH,hz,q⟩:=h;cases rx
  obtain⟨u,rfl,ru⟩:=rv.one;obtain⟨z,cP,n,r,hl,e⟩:=I.lstM hH;refine xN F.slot_list_append ⟨_,e,rfl⟩ F.entry_list_append (F.args_list_append_2 _ _) (PySem.list_append l cP.toArray n u (by rw[bC];omega)) ⟨e,?_⟩;refine⟨.non,_,I.lset (its':=cP++[u]) hH e (by simp) (r.append (.cons ru .nil)) ?_,rfl,q⟩;rw[bh,vk];omega
end
end L2
namespace Att
open PySem.W PySem.Calls PyProof.Rows
def a2f:∀(ns:List Int) (vs:List ai),WellAll P h vs (ns.map WData.int)->IntsAre vs ns:=by
  intro ns
  induction ns with
  |nil=>
    intro vs w;rw[de]at w;cases w
    exact .nil
  |cons n ns ih=>
    intro vs w;rw[aA]at w;cases w with
    |cons a b=>
      cases a
      exact .cons _ _ (ih _ b)
def b0n{l:OpenLaw}(hn:l.most=cz n) 
    (lC:l.row.toRowW.claim.pre args=fx) (yb:WellAll P h vals args) :
    ∃a vs ns,vals=[aS a]/\args=[WData.list (ns.map WData.int)]/\h.get? a=cz {cls:=.type "list",data:=.seq vs.toArray}/\IntsAre vs ns/\ns.length<=n:=by
  have EL:WShape.hasAll [] args [.list .int]=fx:=(pre_splitW lC).1;have hc:l.pre.holds [] {args:=args}=fx:=(pre_splitW lC).2;obtain⟨d,r,rfl,h1,h2⟩:=hasAllW_cons EL;obtain rfl:=hasAllW_nil h2;obtain⟨xs,rfl,h3⟩:=hasW_list h1;obtain⟨ns,rfl⟩:=items_int h3;have hlen:ns.length<=n:=by
    unfold OpenLaw.pre at hc;have h4:(WTm.not (.lt (.lit (.int (n:Int))) (.len (.arg 0)))).holds [] {args:=[.list (ns.map .int)]}=fx:=by
      have h4:=(holds_andW hc).1;rw[hn]at h4;exact h4
    have h5:=condW_of h4 (w_not (w_lt w_lit (w_len_list (w_arg rfl))));rw[ao]at h5;refine Nat.le_of_not_lt λq=>?_
    have q':(n:Int)<((ns.length:Nat):Int):=by omega
    first
      | (rw[aE q']at h5;exact absurd h5 (by decide))
      | (simp at h5;omega)
  cases yb with
  |cons w1 w2=>
    cases w2
    cases w1 with
    |list ho oM=>exact⟨_,_,ns,rfl,rfl,ho,a2f ns _ oM,hlen⟩
def b0o(l:OpenLaw)(args:List WData):l.row.toRowW.claim.post args (.bool fx) args=fx:=
  postW_of (r:=l.row.toRowW) (X:=(fx==fx))
    (show WShape.has [] (.bool fx) .bool=fx by first|rfl|decide|simp[WShape.has,WShape.arms,WShape.armsAll])
    (show (WTm.eq .res (.lit (.bool fx))).value [] {args:=args,res:=cz (.bool fx),after:=args}=cz (.bool (fx==fx)) from w_eq_bool (w_res rfl) w_lit) rfl
def attach_call{l:OpenLaw}{d:DefRec}
    (hn:l.most=cz n) (wZ:d.params.defaults=[])
    (call:∀(w:bK) (s₀ s₁:aj) (mg mb:bt->Option ai) (fa:aw) (o:fm) (pm cd doc:ai) (a:aw) (vs:List ai) (ns:List Int),
      Ground q loose [] XP w s₀ mg mb s₁.heap->YP w s₁.heap->
      s₁.heap.get? fa=cz o->o.data=.func (docDef d.name d.params d.body d.scope pm cd doc)->s₁.heap.CodeRec cd d.name->mg d.name=cz (.ref fa)->
      s₁.heap.get? a=cz {cls:=.type "list",data:=.seq vs.toArray}->IntsAre vs ns->ns.length<=n->s₁.gens=#[]->
      gA (aO l.prog w) ou (.call (.ref fa) ⟨[.ref a],[]⟩) (λr s'=>r=.ok (.ret (.bool fx))/\OldK s₁.heap s'.heap/\s'.os=s₁.os/\jP s'.gens) s₁) :
    WalkO q loose XP YP l.row.toRowW d [] (λf vs=>AI f vs):=by
  intro w s₀ s₁ mg mb G rp fa o pm cd doc dV kV ho hd kL hD wG hg args vals as lC si HN yb HV;obtain rfl:dV=.none:=Dflts.none hD wZ;obtain rfl:kV=.none:=Dflts.noKw hD;obtain⟨a,vs,ns,rfl,rfl,uh,hints,hlen⟩:=b0n hn lC yb;refine enter_call (ff (call w s₀ s₁ mg mb fa o pm cd doc a vs ns G rp ho (fd_plain hd) kL wG uh hints hlen hg) λr s' hq=>?_);obtain⟨rfl,h2,h3,h4⟩:=hq;exact⟨.inl ⟨.bool fx,.bool fx,[],rfl,λ_=>rfl,.bool fx,b0o l _,λ_=>⟨iC,λ_ hm=>(nomatch hm)⟩⟩,h2,h3,h4⟩
section
variable {prog:br}{w:bK}{A:bB}{E:ai->aj->Prop}{s:aj}{K:Frag}
def ledger(h:bL)(L d:aw):List (aw×fm):=(aV h.objs.size).filterMap λa=>if a=L\/a=d then el else (h.get? a).map λo=>(a,o)
end
end Att
namespace L2
open PySem.Spec PyProof.Rows
theorem vals_ints:∀{vs:List ai} {ns:List Int},IntsAre vs ns->Vals (ns.map V.int) vs
  |_,_,.nil=>.nil
  |_,_,.cons n t h=>.cons ⟨t,rfl⟩ (vals_ints h)
abbrev KOf{K:af}{h:bL}(_:K.In h):af:=K
end L2
namespace L2
open PySem.Spec PyProof.Rows
def T1(s:fS):mi:=match s with
  |.FunctionDef _ a _ _ _ _ _ _ _ _=>a
  |_=>{posonlyargs:=[],args:=[],vararg:=el,kwonlyargs:=[],kw_defaults:=[],kwarg:=el,defaults:=[]}
def w9(s:fS):List fS:=match s with
  |.FunctionDef _ _ b _ _ _ _ _ _ _=>b
  |_=>[]
def i9(s:fS):gy:=match s with
  |.FunctionDef _ _ _ _ _ _ sc _ _ _=>sc
  |_=>{kind:=.function,names:=[],isGenerator:=p4,isCoroutine:=p4}
abbrev CX0:CXT:=λ_ _ _ _ _ _=>False
abbrev E0:XK:=λ_ _ _=>False
def c0B:a7F CX0 X E0:=λ_ _ _ _ _ _ _ h=>h.elim
structure Fun (K:af) (x qual:bt) (st:fS) (f:aw) (fd:dJ):Prop where
  ex:∃(oc:ai) (od:Option aw) (kV doc pm:ai) (an:Option aw) (gg ct:ai) (oW:Array (Option ai)),
    fd=gc x qual (T1 st) (w9 st) (i9 st) .none kV doc pm an gg ct/\K.lookup f=cz ⟨oc,od,.func fd,oW⟩/\mf K gg qual=fx
  kp:eY K (.ref f)=fx
section
variable {P:br}{w:bK}{K:af}{mg:bt->Option ai}{base:bL}
def Fun.ok{x qual:bt}{st:fS}{f:aw}{fd:dJ}{N ps:List bt}{k:Nat}{sp:Sp}(F:Fun K x qual st f fd)(S:FnScope N ps (i9 st))(len:∀vs H Q E,sp vs H Q E->vs.length=ps.length)
    (qR:∀(gg:ai) (A:bB) (outer:List n_) (s:aj) (H:Hp) (vs:List V) (Q:VK) (E:XK),Room k (A.deeper (ji qual (i9 st) s.heap.objs.size f gg))->sp vs H Q E->
      ∃t,PSs (a0e CX0 P w K mg base N qual (i9 st) f gg A outer s H E).nox (w9 st) t/\t {nx:=λ_ H'=>Q .non H',rt:=Q} (start N vs) H):FnOk P w K mg base CX0 (k+1) f fd ps sp:=by
  obtain⟨oc,od,kV,doc,pm,an,gg,ct,oW,rfl,lk,kL⟩:=F.ex;refine b2c lk kL S len λA outer s H vs Q E hr nq=>?_
  obtain⟨t,h,q⟩:=qR gg A outer s H vs Q E hr nq;exact⟨t,h.nox,q⟩
def Fun.binds{x qual:bt}{st:fS}{f:aw}{fd:dJ}{ps:List bt}(F:Fun K x qual st f fd)
    (h:∀(kV doc pm:ai) (an:Option aw) (gg ct:ai) (us:List ai),us.length=ps.length->q_ (gc x qual (T1 st) (w9 st) (i9 st) .none kV doc pm an gg ct) ⟨us,[]⟩=pure (ps.zip us)):Binds K fd ps []:=by
  obtain⟨oc,od,kV,doc,pm,an,gg,ct,oW,rfl,lk,kL⟩:=F.ex;exact .all (h kV doc pm an gg ct)
def b8n{x qual:bt}{st:fS}{f:aw}{oc:ai}{od an:Option aw}{oW:Array (Option ai)}{kV doc pm gg ct:ai}(l:K.lookup f=cz ⟨oc,od,.func (gc x qual (T1 st) (w9 st) (i9 st) .none kV doc pm an gg ct),oW⟩)
    (c:mf K gg qual=fx) (k:eY K (.ref f)=fx):Fun K x qual st f (gc x qual (T1 st) (w9 st) (i9 st) .none kV doc pm an gg ct):=⟨⟨oc,od,kV,doc,pm,an,gg,ct,oW,rfl,l,c⟩,k⟩
end
def a1h(h:n<=1000):n<aQ:=ip h (by decide)
section
variable {X:Cx}
def pv(i:Nat)(hN:X.N[i]?=cz x:=by rfl)(hv:autoParam (NmV X x) ZY._auto_1):PE X (.Name x pos) (b4W i):=A8 hN hv.1 hv.2.1 hv.2.2
end
def a3Q{A B:Prop}(h:B):if p4=fx then A else B:=by
  rw[aN bc];exact h
def a2z{A B:Prop}(h:A):if fx=fx then A else B:=by
  rw[aJ rfl];exact h
def Same(H H':Hp):Prop:=∀b o,H b=cz o->H' b=cz o
def Same.refl(H:Hp):Same H H:=λ_ _ h=>h
def Same.trans(a:Same H H1)(b:Same H1 H2):Same H H2:=λc o h=>b c o (a c o h)
def Same.free{H H':Hp}(e:Same H H'){l:aw}(h:H' l=Option.none):H l=Option.none:=by
  cases q:H l with
  |none=>rfl
  |some o=>
    rw[e l o q]at h;cases h
end L2
set_option maxHeartbeats 4000000
namespace L2
open PySem.Spec PyProof.Rows
def O3(X:Cx)(N:List bt)(scope:gy)(cl:List (bt×aw))(C:aw)(s:aj)(H:Hp)(fp:List aw):Cx:=
 {X with N:=N,s₀:=s,H₀:=H,env:=compEnvC scope cl C X.env,outer:=X.stack,ex:=fp,fn:=λ_=>p4,xe:=λ_ _=>False}
structure CompIn (X:Cx) (N:List bt) (scope:gy) (cl:List (bt×aw)) (τ:St->St):Prop where
 clos:pQ scope X.env=pure cl
 kind:scope.kind=.function
 ncell:∀y∈scope.names,y.2≠.cell
 names:∀y∈scope.names,y.2=.local->scope.names.lookup y.1=cz .local
 sub:∀x c,cl.lookup x=cz c->X.env.cells.lookup x=cz c
 has:∀y∈scope.names,y.2=.free->∃c,cl.lookup y.1=cz c
 tlen:∀Y,(τ Y).length=N.length
 tval:∀(Y:St) (i:Nat) (x:bt) (v:V),N[i]?=cz x->(τ Y)[i]?=cz (cz v)->∃j:Nat,X.N[j]?=cz x/\Y[j]?=cz (cz v)/\scope.names.lookup x=cz .free/\(X.env.kindOf x=cz .cell\/X.env.kindOf x=cz .free)
def a0u{scope:gy}(hn:∀y∈scope.names,y.2≠.cell)(h:(mr scope env).names.lookup x=cz .cell\/(mr scope env).names.lookup x=cz .free):∃y∈scope.names,y.1=x/\y.2=.free:=by
 have key:∀k,(mr scope env).names.lookup x=cz k->k=.cell\/k=.free->∃y∈scope.names,y.1=x/\y.2=.free:=λk e hk=>by
  have hm:=bW e;unfold mr at hm;obtain⟨⟨n,k'⟩,hy,e2⟩:=aR.mp hm
  dsimp only at e2
  by_cases hc:(k'==fA&&env.scope.kind==.function&&env.kindOf n==cz .cell)=fx
  ·rw[aJ hc]at e2;cases e2
   rw[av,av]at hc;exact⟨_,hy,rfl,by simpa using hc.1.1⟩
  ·rw[aN hc]at e2;cases e2
   rcases hk with rfl|rfl
   ·exact absurd rfl (hn _ hy)
   ·exact⟨_,hy,rfl,rfl⟩
 rcases h with h|h
 ·exact key _ h (.inl rfl)
 ·exact key _ h (.inr rfl)
def a5n{scope:gy}(h:scope.names.lookup x=cz .free):(mr scope env).names.lookup x=cz .cell\/(mr scope env).names.lookup x=cz .free:=by
 have key:∀names:List (bt×iX),names.lookup x=cz .free->
   (names.map λ(n,k)=>if (k==fA&&env.scope.kind==.function&&env.kindOf n==cz .cell) then (n,iX.cell) else (n,k)).lookup x=cz .cell\/
   (names.map λ(n,k)=>if (k==fA&&env.scope.kind==.function&&env.kindOf n==cz .cell) then (n,iX.cell) else (n,k)).lookup x=cz .free:=by
  intro names
  induction names with
  |nil=>intro h;cases h
  |cons z r ih=>
   obtain⟨n,k⟩:=z;intro h;rw[aA]
   dsimp only
   rw[fV]at h;cases hx:x==n with
   |true=>
    rw[hx]at h;have hk:k=.free:=by simpa using h
    subst hk;by_cases hc:(fA==fA&&env.scope.kind==.function&&env.kindOf n==cz .cell)=fx
    ·rw[aJ hc,fV,hx];exact .inl rfl
    ·rw[aN hc,fV,hx];exact .inr rfl
   |false=>
    rw[hx]at h;by_cases hc:(k==fA&&env.scope.kind==.function&&env.kindOf n==cz .cell)=fx
    ·rw[aJ hc,fV,hx];exact ih h
    ·rw[aN hc,fV,hx];exact ih h
 exact key _ h
structure Has (P:br) (w:bK) (K:af) (mg:bt->Option ai) (base:bL) (x:bt) (k:Nat) (ps:List bt) (sp:Sp):Prop where
 ex:∃f fd,FnOk P w K mg base CX0 k f fd ps sp/\Binds K fd ps []/\eY K (.ref f)=fx/\mg x=cz (.ref f)
def Has.up{P:br}{w:bK}{K:af}{mg:bt->Option ai}{base:bL}{x:bt}{j k:Nat}{ps:List bt}{sp:Sp}(h:Has P w K mg base x j ps sp)(l:j<=k):Has P w K mg base x k ps sp:=by
 obtain⟨f,fd,a,b⟩:=h.ex;exact⟨f,fd,a.mono l,b⟩
section
variable {X:Cx}{k:Nat}{ps:List bt}{sp:Sp}{x:bt}{p pos:eA}{e:Expr}{es:List Expr}{t:TA}
def a7H(h:Has X.prog X.w X.K X.mg X.base x k ps sp)(hr:Room k X.A)(ha:PA X (e::es) t)(hg:Gl X x:=by rfl)(lG:(x==("__debug__":bt))=p4:=by decide)
  (he:ak (e::es) X.env=(p4,bX e X.env)::ak es X.env:=by rfl) (fF:(bY pos (ak es X.env)).any (·.1)=p4:=by rfl):PE X (.Call (.Name x p) (e::es) [] pos) (b6X sp [] E0 t):=by
 obtain⟨f,fd,F,b,kp,m⟩:=h.ex;exact b5d F hr hg m kp b .nil c0B ha lG he fF
end
mutual
def Den(H:Hp):V->be->Prop
 |v,.none=>v=.non
 |v,.bool b=>v=.bl b
 |v,.int i=>v=.int i
 |v,.str x=>v=.str x
 |v,.list ds=>∃a xs,v=.ref a/\H a=cz (.lst xs)/\DenAll H xs ds
 |v,.tuple ds=>∃a xs,v=.ref a/\H a=cz (.tup xs)/\DenAll H xs ds
 |v,.dict kvs=>kvs=[]/\∃a,v=.ref a/\H a=cz (.dK [])
def DenAll(H:Hp):List V->List be->Prop
 |xs,[]=>xs=[]
 |xs,d::ds=>∃v r,xs=v::r/\Den H v d/\DenAll H r ds
end
mutual
theorem Den.mono{H H':Hp}(e:Same H H'):∀(d:be) {v:V},Den H v d->Den H' v d
 |.none,_,h=>by simpa only [Den]using h
 |.bool _,_,h=>by simpa only [Den]using h
 |.int _,_,h=>by simpa only [Den]using h
 |.str _,_,h=>by simpa only [Den]using h
 |.list ds,_,h=>by
  simp only[Den]at h ⊢;obtain⟨a,xs,h1,h2,h3⟩:=h;exact⟨a,xs,h1,e _ _ h2,DenAll.mono e ds h3⟩
 |.tuple ds,_,h=>by
  simp only[Den]at h ⊢;obtain⟨a,xs,h1,h2,h3⟩:=h;exact⟨a,xs,h1,e _ _ h2,DenAll.mono e ds h3⟩
 |.dict _,_,h=>by
  simp only[Den]at h ⊢;obtain⟨h0,a,h1,h2⟩:=h;exact⟨h0,a,h1,e _ _ h2⟩
theorem DenAll.mono{H H':Hp}(e:Same H H'):∀(ds:List be) {xs:List V},DenAll H xs ds->DenAll H' xs ds
 |[],_,h=>by simpa only [DenAll]using h
 |d::ds,_,h=>by
  simp only[DenAll]at h ⊢;obtain⟨v,r,h1,h2,h3⟩:=h;exact⟨v,r,h1,Den.mono e d h2,DenAll.mono e ds h3⟩
end
def Den.up{H H':Hp}{d:be}{v:V}(h:Den H v d)(e:Same H H'):Den H' v d:=Den.mono e d h
def DenAll.up{H H':Hp}{ds:List be}{xs:List V}(h:DenAll H xs ds)(e:Same H H'):DenAll H' xs ds:=DenAll.mono e ds h
section
variable {H:Hp}
def den_none:Den H .non .none:=by simp only[Den]
def den_bool{b:Bool}:Den H (.bl b) (.bool b):=by simp only[Den]
def den_int{i:Int}:Den H (.int i) (.int i):=by simp only[Den]
def den_str{x:bt}:Den H (.str x) (.str x):=by simp only[Den]
def den_list{a:aw}{xs:List V}{ds:List be}(h:H a=cz (.lst xs))(q:DenAll H xs ds):Den H (.ref a) (.list ds):=by
 simp only[Den];exact⟨a,xs,rfl,h,q⟩
def den_tup{a:aw}{xs:List V}{ds:List be}(h:H a=cz (.tup xs))(q:DenAll H xs ds):Den H (.ref a) (.tuple ds):=by
 simp only[Den];exact⟨a,xs,rfl,h,q⟩
def denAll_nil:DenAll H [] []:=by simp only[DenAll]
def denAll_cons{v:V}{d:be}{xs:List V}{ds:List be}(h:Den H v d)(q:DenAll H xs ds):DenAll H (v::xs) (d::ds):=by
 simp only[DenAll];exact⟨v,xs,rfl,h,q⟩
def Den.list_inv{v:V}{ds:List be}(h:Den H v (.list ds)):∃a xs,v=.ref a/\H a=cz (.lst xs)/\DenAll H xs ds:=by simpa only [Den]using h
def Den.tup_inv{v:V}{ds:List be}(h:Den H v (.tuple ds)):∃a xs,v=.ref a/\H a=cz (.tup xs)/\DenAll H xs ds:=by simpa only [Den]using h
def Den.int_inv{v:V}{i:Int}(h:Den H v (.int i)):v=.int i:=by simpa only [Den]using h
def DenAll.cons_inv{xs:List V}{d:be}{ds:List be}(h:DenAll H xs (d::ds)):∃v r,xs=v::r/\Den H v d/\DenAll H r ds:=by simpa only [DenAll]using h
def DenAll.nil_inv{xs:List V}(h:DenAll H xs []):xs=[]:=by simpa only [DenAll]using h
theorem DenAll.length:∀{ds:List be} {xs:List V},DenAll H xs ds->xs.length=ds.length
 |[],_,h=>by rw[h.nil_inv];rfl
 |d::ds,_,h=>by
  obtain⟨v,r,rfl,_,h⟩:=h.cons_inv;rw[bu,bu,DenAll.length h]
theorem DenAll.get:∀{ds:List be} {xs:List V} {i:Nat} {d:be},DenAll H xs ds->ds[i]?=cz d->∃v,xs[i]?=cz v/\Den H v d
 |[],_,i,d,_,e=>by simp at e
 |d0::ds,_,0,d,h,e=>by
  obtain⟨v,r,rfl,h1,_⟩:=h.cons_inv;have:d0=d:=by simpa using e
  subst this;exact⟨v,rfl,h1⟩
 |d0::ds,_,i+1,d,h,e=>by
  obtain⟨v,r,rfl,_,h1⟩:=h.cons_inv;obtain⟨u,h2,h3⟩:=DenAll.get (i:=i) h1 (by simpa using e);exact⟨u,by simpa using h2,h3⟩
def DenAll.getV{ds:List be}{xs:List V}{i:Nat}{v:V}(h:DenAll H xs ds)(e:xs[i]?=cz v):∃d,ds[i]?=cz d/\Den H v d:=by
 have hi:=(aP.mp e).1;rw[h.length]at hi;obtain⟨u,h1,h2⟩:=h.get (ay hi);rw[e]at h1;cases h1
 exact⟨_,ay hi,h2⟩
theorem DenAll.append:∀{ds:List be} {xs:List V} {es:List be} {ys:List V},DenAll H xs ds->DenAll H ys es->DenAll H (xs++ys) (ds++es)
 |[],_,_,_,h,q=>by rw[h.nil_inv];exact q
 |d::ds,_,_,_,h,q=>by
  obtain⟨v,r,rfl,h1,h2⟩:=h.cons_inv;exact denAll_cons h1 (DenAll.append h2 q)
end
mutual
theorem Den.reads{P:br}{w:bK}{H:Hp}{h:bL}(ok:HOk P w H h):∀(d:be) {v:V} {u:ai},d.canLay0=fx->Den H v d->RelV v u->∃as,Reads h u d as
 |.none,v,u,_,q,r=>by
  simp only[Den]at q;subst q;cases (show u=bZ from r)
  exact⟨_,.none⟩
 |.bool b,v,u,_,q,r=>by
  simp only[Den]at q;subst q;cases (show u=jx b from r)
  exact⟨_,.bool b⟩
 |.int i,v,u,_,q,r=>by
  simp only[Den]at q;subst q;obtain⟨t,rfl⟩:=r;exact⟨_,.int i t⟩
 |.str x,v,u,_,q,r=>by
  simp only[Den]at q;subst q;obtain⟨t,rfl⟩:=r;exact⟨_,.str x t⟩
 |.list ds,v,u,hl,q,r=>by
  simp only[Den]at q;obtain⟨a,xs,rfl,h1,h2⟩:=q;cases (show u=aS a from r)
  obtain⟨z,cP,n,rv,e⟩:=ok a _ h1;obtain⟨as,ra⟩:=DenAll.reads ok ds hl h2 rv;exact⟨_,.list e rfl rfl (by simpa using ra)⟩
 |.tuple ds,v,u,hl,q,r=>by
  simp only[Den]at q;obtain⟨a,xs,rfl,h1,h2⟩:=q;cases (show u=aS a from r)
  obtain⟨z,cP,rv,o,e,c,n,d⟩:=ok a _ h1;obtain⟨as,ra⟩:=DenAll.reads ok ds hl h2 rv;exact⟨_,.tuple e c d (by simpa using ra)⟩
 |.dict _,_,_,hl,_,_=>nomatch hl
theorem DenAll.reads{P:br}{w:bK}{H:Hp}{h:bL}(ok:HOk P w H h):∀(ds:List be) {xs:List V} {us:List ai},aU ds=fx->DenAll H xs ds->Vals xs us->∃as,jH h us ds as
 |[],xs,us,_,q,r=>by
  simp only[DenAll]at q;subst q;cases r
  exact⟨_,.nil⟩
 |d::ds,xs,us,hl,q,r=>by
  have qd:d.canLay0=fx/\aU ds=fx:=by simpa[aU]using hl
  simp only[DenAll]at q;obtain⟨v,rs,rfl,h1,h2⟩:=q;cases r with
  |cons r1 r2=>
   obtain⟨as,ra⟩:=Den.reads ok d qd.1 h1 r1;obtain⟨bs,rb⟩:=DenAll.reads ok ds qd.2 h2 r2;exact⟨_,.cons ra rb⟩
end
section
variable {X:Cx}
def tyD:be->String
 |.int _=>"int"
 |.bool _=>"bool"
 |.list _=>"list"
 |.tuple _=>"tuple"
 |.none=>"NoneType"
 |.str _=>"str"
 |.dict _=>"dict"
def Den.ty{K:af}{H:Hp}{v:V}:∀{d:be},Den H v d->TyOf K H v (.type (tyD d))
 |.none,h=>by simp only[Den]at h;subst h;exact .non
 |.bool _,h=>by simp only[Den]at h;subst h;exact .bl _
 |.int _,h=>by simp only[Den]at h;subst h;exact .int _
 |.str _,h=>by simp only[Den]at h;subst h;exact .str _
 |.list _,h=>by simp only[Den]at h;obtain⟨a,xs,rfl,h1,_⟩:=h;exact .lst h1
 |.tuple _,h=>by simp only[Den]at h;obtain⟨a,xs,rfl,h1,_⟩:=h;exact .tup h1
 |.dict _,h=>by simp only[Den]at h;obtain⟨_,a,rfl,h1⟩:=h;exact .dK h1
def call_listK(K:af)(h:X.K=K):CallR X (.type "list") (λxs H Q=>∃p ys,xs=[.ref p]/\(SqL K H p ys\/SqT K H p ys)/\∀l,H l=el->Q (.ref l) (upd H l (.lst ys))):=by
 subst h;exact a0t
def Inv.sysBelow(I:Inv X pins Y H s):cS<s.heap.objs.size:=by
 have h:ba<s.heap.objs.size:=(I.mod.glob.keeps I.bk).lt;exact fK (by decide) h
end
def j9(h:H p=el)(o:HO):Same H (upd H p o):=λb u q=>by rw[f8 (n9 q h)];exact q
def b2g(e:Same H H')(h:H p=el)(o:HO):Same H (upd H' p o):=λb u q=>by rw[f8 (n9 q h)];exact e b u q
def PTs(X:Cx)(ifs:List Expr)(tt:TT):Prop:=
 ∀(pins:List (aw×fm)) (s:aj) (Y:St) (H:Hp) (Q:Bool->Hp->Prop),Inv X pins Y H s->tt Y H Q->
  az (aO X.prog X.w) X.A (forIn ifs fx λc r=>if r=fx then do let ok <-rW c X.env (bX c X.env);pure (ee ok) else pure (ee r)) (TP X pins Y Q) X.xe s
def c2p:TT:=λ_ H Q=>Q fx H
def b5n:PTs X [] c2p:=λ_ _ Y H _ I h=>wpAny_tests_nil ⟨H,I,h⟩
def b5o(h:PT X c tt):PTs X [c] tt:=λpins s Y H Q I q=>wpAny_tests_one (h pins s Y H Q I q)
section
variable {prog:br}{w:bK}{A:bB}{R:xP->aj->Prop}{s:aj}
def a3R(I:Nat->aj->Prop)
  (turn:∀n s,I n s->az (aO prog w) A (fJ it) (λr s₁=>match r with
   |none=>R (.ok .next) s₁
   |some v=>az (aO prog w) A (mJ target it v) (λ_ s₂=>az (aO prog w) A (mC target env v) (λ_ s₃=>
     az (aO prog w) A (forIn ifs fx λc r=>if r=fx then do let ok <-rW c env (bX c env);pure (ee ok) else pure (ee r)) (λok qx=>
     if ok=fx then az (aO prog w) A (bX elt env) (λx s₄=>
      az (aO prog w) A (call (.builtin "list.append") [acc,x]) (λ_ s₅=>∃m,m<n/\I m s₅) (λ_ _=>False) s₄) (λ_ _=>False) qx
     else ∃m,m<n/\I m qx)
     (λ_ _=>False) s₃) (λ_ _=>False) s₂) (λ_ _=>False) s₁) (λ_ _=>False) s)
  (n:Nat) (h:I n s) :
  gA (aO prog w) A (.compLoop (.ListComp elt [⟨target,iter,ifs,0⟩] scope pos) 0 it acc env) R s:=by
 refine codeAny_loop rfl I (λn s hI=>?_) n h;show az _ _ ((compTurn (.ListComp elt [⟨target,iter,ifs,0⟩] scope pos) 0 it acc env).onRaise (λx=>do noteFrame x env;theTreesLotGoes x)) _ _ s;refine wpAny_noted ?_;rw[compTurn_list];refine ae (wpAny_standAt (ae (cK (turn n s hI) (λr s₁ h₁=>?_) λ_ _ h'=>h'.elim)));cases r with
 |none=>exact ag h₁
 |some v=>
  refine ae (cK h₁ (λ_ s₂ h₂=>?_) λ_ _ h'=>h'.elim);refine ae (cK h₂ (λ_ s₃ h₃=>ae (cK h₃ (λok qx oY=>?_) λ_ _ h'=>h'.elim)) λ_ _ h'=>h'.elim);cases ok with
  |false=>
   rw[aN bc]at oY;exact ae (ag (ag ⟨rfl,oY⟩))
  |true=>
   rw[aJ rfl]at oY;exact ae (ae (cK oY (λx s₄ h₄=>ae (cK h₄ (λ_ s₅ h₅=>ag (ag ⟨rfl,h₅⟩)) λ_ _ h'=>h'.elim)) λ_ _ h'=>h'.elim))
end
def a5o(wi:TI)(g:TG)(tt:TT)(te:TE)(τ:St->St):TE:=λY H Q=>wi Y H λJ H1=>∀D,H1 D=el->∃W:Nat->Nat->List V->St->Hp->Prop,(∃m,W 0 m [] (τ Y) (upd H1 D (.lst [])))/\
 ∀i m ys Y' H',W i m ys Y' H'->(J.stop i H'/\Q (.ref D) H')\/
  (J.go i H'/\∃(N:V->St->Hp->Prop) (NO:St->Hp->Prop),(∀y Y3 H4,N y Y3 H4->H4 D=cz (.lst ys)/\ys.length<aQ/\∃m',m'<m/\W (i+1) m' (ys++[y]) Y3 (upd H4 D (.lst (ys++[y]))))/\
   (∀Y3 H4,NO Y3 H4->∃m',m'<m/\W (i+1) m' ys Y3 H4)/\∀x H2,J.yld i H' x H2->g x Y' H2 λY3 H3=>tt Y3 H3 λb H4=>if b=fx then te Y3 H4 λy H5=>N y Y3 H5 else NO Y3 H4)
section
variable {X:Cx}{N:List bt}{scope:gy}{cl:List (bt×aw)}{τ:St->St}{elt tg iter:Expr}{ifs:List Expr}{pos:eA}{wi:TI}{g:TG}{tt:TT}{te:TE}
def a4j(hc:X.calm=fx)(hi:PI X tg iter wi)(C:CompIn X N scope cl τ)(hg:∀Cl s H fp,PG (O3 X N scope cl Cl s H fp) tg g)(ht:∀Cl s H fp,PTs (O3 X N scope cl Cl s H fp) ifs tt)(he:∀Cl s H fp,PE (O3 X N scope cl Cl s H fp) elt te)
  (I:Inv X pins Y H s) (h:a5o wi g tt te τ Y H R) {PP:ai->aw->xP->aj->Prop}
  (Gj:∀D Cl Hn s' o m,Inv X pins Y Hn s'->R (.ref D) Hn->a2w X pins Hn Cl->s'.heap.get? Cl=cz o->(∀v,o.data≠.cell v)->(∀h':bL,h'.get? Cl=cz o->h'.Ns Cl m)->PP (.ref D) Cl (.ok .next) s') :
  az (aO X.prog X.w) X.A (bX iter X.env) (λx s₁=>az (aO X.prog X.w) X.A (pF x) (λit s₂=>az (aO X.prog X.w) X.A (newList []) (λacc s₃=>
   az (aO X.prog X.w) X.A (newFunctionEnv scope X.env.globals cl [] X.env.qual el .none (cz X.env)) (λxM s₄=>
    gA (aO X.prog X.w) X.A (.compStart (.ListComp elt [⟨tg,iter,ifs,0⟩] scope pos) 0 it acc {xM with scope:=mr scope X.env}) (PP acc xM.locals) s₄) X.xe s₃) X.xe s₂) X.xe s₁) X.xe s:=by
 refine thn (hi pins s Y H _ I h) λx s1 h1=>thn h1 λzc s2 h2=>?_
 obtain⟨it,fp,tn,J,H2,rfl,I2,T,vC,f2,q⟩:=h2;refine dg (wpAny_newFunctionEnv C.ncell (by intro y hy;simp at hy) (λh₁ oE mU=>?_) C.kind)
 dsimp only at oE mU ⊢
 generalize Aq:s2.heap.push {cls:=.type "list",dict:=el,data:=.seq ([]:List ai).toArray}=G2 at oE mU ⊢;have hC:G2.objs.size=s2.heap.objs.size+1:=by rw[<-Aq,cL]
 have Cr:s2.heap.objs.size≠G2.objs.size:=by rw[hC];exact a_ (iT _)
 have uG:s2.heap.objs.size<=G2.objs.size:=by rw[hC];exact gL _
 have below:∀b,b<s2.heap.objs.size->b≠G2.objs.size:=λb hb=>by rw[hC];exact a_ (gz hb)
 have old:∀b o,s2.heap.get? b=cz o->h₁.get? b=cz o:=λb o e=>mU.extBut b o (below b (aB e)) (ah _ (Aq▸ah _ e))
 have kP:h₁.get? s2.heap.objs.size=cz {cls:=.type "list",dict:=el,data:=.seq ([]:List ai).toArray}:=mU.extBut _ _ Cr (ah _ (Aq▸aF _ rfl));have Az:∀b∈fp,b<s2.heap.objs.size:=λb hb=>by
  obtain⟨o,e,_⟩:=T.obj 0 _ vC b hb;exact aB e
 have Cq:H2 s2.heap.objs.size=el:=I2.hok.fresh (aG _);have Gx:H2 G2.objs.size=el:=I2.hok.fresh uG;generalize yz:G2.objs.size=Cl at *;have DE:∀b∈frs X.stack,b<s2.heap.objs.size:=λb hb=>by
  rcases aD.mp (I2.stkSub b hb) with e|hb
  ·rw[e];exact I2.lt
  ·obtain⟨_,o,ho,_⟩:=I2.funs.mem hb;exact aB ho
 have yV:(O3 X N scope cl Cl s2 H2 fp).Ok:=by
  refine⟨I2.ok.mod,C.kind,I2.ok.glob,I2.ok.blt,uG,λx y c e1 e2=>I2.ok.inj x y c (C.sub x c e1) (C.sub y c e2),λx hx=>?_,λx c hx _=>(nomatch hx),λz=>I2.ok.hd z,I2.ok.frames,.inl rfl,λb hb=>⟨below b (Az b hb),λx c e=>(f2 b hb).2.2.2.2.1 x c (C.sub x c e)⟩,
   I2.bs,cx I2.ok.bsz I2.sz,λb o e hb=>?_,λb hb z=>?_,I2.stack,I2.stkFree,I2.tabs⟩
  ·obtain⟨y,hy,rfl,ey⟩:=a0u C.ncell hx;exact C.has y hy ey
  ·rcases (f2 b hb).2.2.2.1 with z|z
   ·exact I2.ok.noex b o e z
   ·exact absurd (bb (aB e) (cx I2.ok.bsz z)) (cR _)
  ·rcases aD.mp (I2.stkSub b z) with e|e
   ·exact (f2 b hb).2.1 e
   ·exact (f2 b hb).2.2.1 e
 have I4:Inv (O3 X N scope cl Cl s2 H2 fp) pins (τ Y) (upd H2 s2.heap.objs.size (.lst [])) {s2 with heap:=h₁,toks:=s2.toks+([]:List (bt×ai)).length}:=by
  have lc:=I2.loc;obtain⟨m,hn,hl⟩:=lc;refine⟨yV,rfl,I2.bare,Un.laid old (aG _) Cq,⟨_,oE,λi x v e1 e2 e3=>?_⟩,λx c e=>?_,?_,λx c e=>?_,λp hp=>?_,I2.hok.laid old (aG _) ⟨cI _,[],_,.nil,kP⟩,C.tlen Y⟩
  ·obtain⟨j,j1,j2,j3,j4⟩:=C.tval Y i x v e1 e2;have kx:(mr scope X.env).names.lookup x=cz .cell\/(mr scope X.env).names.lookup x=cz .free:=a5n j3;obtain⟨y,hy,GH,ey⟩:=a0u C.ncell kx;obtain⟨c,pP⟩:=C.has y hy ey;rw[GH]at pP;have Ag:=C.sub x c pP;have hv:Vis X.env.scope x:=.inr j4;obtain⟨u,ru,lk⟩:=hl j x v j1 j2 hv;refine⟨u,ru,?_⟩;rcases lk with⟨k,_⟩|⟨k,c',e',z⟩
   ·rcases j4 with j4|j4
    ·rw[j4]at k;cases k
    ·rw[j4]at k;cases k
   ·rw[Ag]at e';cases e'
    obtain⟨o,ho,hd⟩:=z;exact .inr ⟨kx,c,pP,⟨o,old c o ho,hd⟩⟩
  ·obtain⟨v,o,ho,hd⟩:=I2.cell x c (C.sub x c e);exact⟨v,o,old c o ho,hd⟩
  ·show upd H2 s2.heap.objs.size (.lst []) Cl=el;rw[f8 (dy Cr)];exact Gx
  ·have n:=I2.freeC x c (C.sub x c e);obtain⟨v,o,ho,hd⟩:=I2.cell x c (C.sub x c e);rw[f8 (a_ (aB ho))];exact n
  ·obtain⟨e,n,ne,nf,d⟩:=I2.pin p hp;refine⟨old _ _ e,by rw[f8 (a_ (aB e))];exact n,below _ (aB e),λz=>?_,d⟩;rcases aD.mp (I2.stkSub p.1 z) with e'|e'
   ·exact ne e'
   ·exact nf e'
 have oy:∀{H':Hp},(∀b∈fp,H' b=el)->∀b∈fp,a2w (O3 X N scope cl Cl s2 H2 fp) pins H' b:=λhn b hb=>
  ⟨hn b hb,below b (Az b hb),yV.exfs b hb,.inl hb,(yV.exf b hb).2,(f2 b hb).2.2.2.2.2⟩
 obtain⟨W,⟨m0,w0⟩,turn⟩:=q s2.heap.objs.size Cq;have loop:∀s₃:aj,s₃={s2 with heap:=h₁,toks:=s2.toks+([]:List (bt×ai)).length}->
   gA (aO X.prog X.w) X.A (.compLoop (.ListComp elt [⟨tg,iter,ifs,0⟩] scope pos) 0 (.ref it) (.ref s2.heap.objs.size) (compEnvC scope cl Cl X.env)) (PP (.ref s2.heap.objs.size) Cl) s₃:=by
  rintro s₃ rfl;refine a3R (λn s'=>∃i ys Y' H',Inv (O3 X N scope cl Cl s2 H2 fp) pins Y' H' s'/\tn i s'.heap/\(∀b∈fp,H' b=el)/\W i n ys Y' H') ?_ m0
   ⟨0,[],τ Y,_,I4,T.keep _ _ _ vC λb hb o e=>old b o e,λb hb=>by rw[f8 (a_ (Az b hb))];exact (f2 b hb).1,w0⟩
  rintro n s3 ⟨i,ys,Y3,H3,I3,vB,xD,w3⟩;rcases turn i n ys Y3 H3 w3 with⟨stop,qn⟩|⟨go,NN,NO,hN,hO,step⟩
  ·refine thn (T.done (O3 X N scope cl Cl s2 H2 fp) rfl rfl rfl hc i pins s3 Y3 H3 _ I3 (oy xD) vB stop) λr s4 ⟨hr,I5⟩=>?_
   subst hr;have lc:=I5.loc;obtain⟨m,hn,_⟩:=lc;obtain⟨o,es,ep,ho,hd,jE⟩:=hn;have J5:Inv X pins Y H3 s4:=I2.call' (ch:=fp) I5.os I5.base I5.hok I5.bare λb hb=>⟨(f2 b hb).2.2.2.1,(f2 b hb).2.1,(f2 b hb).2.2.2.2.1,(f2 b hb).2.2.2.2.2⟩
   refine Gj _ Cl H3 s4 o m J5 qn (I2.fpOk uG I5.free) ho (λv z=>by rw[hd]at z;cases z) λh' e=>⟨o,es,ep,e,hd,jE⟩
  ·refine thn (T.item (O3 X N scope cl Cl s2 H2 fp) rfl rfl rfl hc i pins s3 Y3 H3 _ I3 (oy xD) vB go) λr s4 ⟨u,hr,h4⟩=>?_
   subst hr;refine thn h4 λ_ s5 ⟨x,H5,I5,r5,y5,rQ,Ay⟩=>?_
   have AM:=I5.pinned (oy Ay) (T.obj _ _ rQ);refine thn (hg Cl s2 H2 fp _ s5 Y3 H5 x u _ AM r5 (step x H5 y5)) λ_ s6 ⟨Y6,H6,I6,q6⟩=>?_
   refine thn (ht Cl s2 H2 fp _ s6 Y6 H6 _ I6 q6) λok DH ⟨Hs,yG,xY⟩=>?_
   cases ok with
   |false=>
    rw[aN bc]at xY ⊢;obtain⟨m',hm,w7⟩:=hO _ _ xY;refine⟨m',hm,i+1,ys,Y6,_,yG.unpinned,T.keep _ _ _ rQ λb hb o e=>(yG.pin (b,o) (ax _ (ax _ (E4 hb e)))).1,λb hb=>?_,w7⟩;obtain⟨o,e,d⟩:=T.obj _ _ rQ b hb;exact (yG.pin (b,o) (ax _ (ax _ (E4 hb e)))).2.1
   |true=>
    rw[aJ rfl]at xY ⊢;refine thn (he Cl s2 H2 fp _ DH Y6 Hs _ yG xY) λyv s7 ⟨y,H7,I7,r7,q7⟩=>?_
    obtain⟨DO,DN,m',hm,w7⟩:=hN _ _ _ q7;refine thn (a4i (X:=O3 X N scope cl Cl s2 H2 fp) _ s7 Y6 H7 (.ref s2.heap.objs.size) [y] (.ref s2.heap.objs.size) [yv] (λ_ H8=>H8=upd H7 s2.heap.objs.size (.lst (ys++[y]))) I7 rfl (.cons r7 .nil)
     ⟨_,ys,y,rfl,rfl,DO,DN,rfl⟩) λ_ s8 ⟨_,H8,I8,_,e8⟩=>?_
    subst e8;refine⟨m',hm,i+1,ys++[y],Y6,_,I8.unpinned,T.keep _ _ _ rQ λb hb o e=>(I8.pin (b,o) (ax _ (ax _ (E4 hb e)))).1,λb hb=>?_,w7⟩;obtain⟨o,e,d⟩:=T.obj _ _ rQ b hb;exact (I8.pin (b,o) (ax _ (ax _ (E4 hb e)))).2.1
 have DF:tn 0 h₁:=T.keep _ _ _ vC λb hb o e=>old b o e
 exact codeAny_compStart_list (loop _ rfl) (T.self X.A 0 {s2 with heap:=h₁,toks:=s2.toks+([]:List (bt×ai)).length} _ _ DF (loop _ rfl))
end
def A2(env:n_):List (bt×iX)->List (bt×aw)->List (bt×aw)
 |[],cs=>cs
 | (n,k)::r,cs=>A2 env r (if k==.free then (n,(env.cells.lookup n).getD 0)::cs else cs)
theorem V9{env:n_}:∀(names:List (bt×iX)) (cs:List (bt×aw)),(∀y∈names,y.2=.free->∃c,env.cells.lookup y.1=cz c)->
  (forIn names cs λ(x:bt×iX) (cs:List (bt×aw))=>(if x.2==.free then do let a <-cellOf env x.1;pure (ee ((x.1,a)::cs)) else pure (ee cs):Sem (ForInStep (List (bt×aw)))))=pure (A2 env names cs)
 |[],cs,_=>by rw[jL];rfl
 | (n,k)::r,cs,h=>by
  rw[jg]
  dsimp only
  by_cases hk:(k==fA)=fx
  ·obtain⟨c,hc⟩:=h (n,k) ar (by simpa using hk);rw[aJ hk];have e:cellOf env n=pure c:=by unfold cellOf;rw[hc]
   rw[e];have:=V9 r ((n,c)::cs) λy hy=>h y (au _ hy)
   have e2:A2 env ((n,k)::r) cs=A2 env r ((n,c)::cs):=by
    show A2 env r (if k==.free then (n,(env.cells.lookup n).getD 0)::cs else cs)=_;rw[aJ hk,hc];rfl
   rw[e2,<-this];simp only[pure_bind]
  ·rw[aN hk];have:=V9 r cs λy hy=>h y (au _ hy)
   have e2:A2 env ((n,k)::r) cs=A2 env r cs:=by
    show A2 env r (if k==.free then (n,(env.cells.lookup n).getD 0)::cs else cs)=_;rw[aN hk]
   rw[e2,<-this];simp only[pure_bind]
def a7I{scope:gy}{env:n_}(h:∀y∈scope.names,y.2=.free->∃c,env.cells.lookup y.1=cz c):pQ scope env=pure (A2 env scope.names []):=by
 have:=V9 scope.names [] h;rw[<-this];unfold pQ;simp
theorem a0f{env:n_}:∀(names:List (bt×iX)) (cs:List (bt×aw)),(∀y∈names,y.2=.free->∃c,env.cells.lookup y.1=cz c)->(∀p∈cs,env.cells.lookup p.1=cz p.2)->
  (∀p∈A2 env names cs,env.cells.lookup p.1=cz p.2)/\(∀p∈cs,p∈A2 env names cs)/\∀y∈names,y.2=.free->∃c,(y.1,c)∈A2 env names cs
 |[],cs,_,hc=>⟨hc,λ_ h=>h,λy hy=>(nomatch hy)⟩
 | (n,k)::r,cs,h,hc=>by
  by_cases hk:(k==fA)=fx
  ·obtain⟨c,e⟩:=h (n,k) ar (by simpa using hk);have e2:A2 env ((n,k)::r) cs=A2 env r ((n,c)::cs):=by
    show A2 env r (if k==.free then (n,(env.cells.lookup n).getD 0)::cs else cs)=_;rw[aJ hk,e];rfl
   rw[e2];obtain⟨a,b,d⟩:=a0f r ((n,c)::cs) (λy hy=>h y (au _ hy)) λp hp=>by
    rcases aD.mp hp with z|z
    ·rw[z];exact e
    ·exact hc p z
   refine⟨a,λp hp=>b p (au _ hp),λy hy hf=>?_⟩;rcases aD.mp hy with z|z
   ·rw[z];exact⟨c,b _ ar⟩
   ·exact d y z hf
  ·have e2:A2 env ((n,k)::r) cs=A2 env r cs:=by
    show A2 env r (if k==.free then (n,(env.cells.lookup n).getD 0)::cs else cs)=_;rw[aN hk]
   rw[e2];obtain⟨a,b,d⟩:=a0f r cs (λy hy=>h y (au _ hy)) hc;refine⟨a,b,λy hy hf=>?_⟩;rcases aD.mp hy with z|z
   ·rw[z]at hf;exact absurd (by simpa using hf) hk
   ·exact d y z hf
theorem Z4:∀{l:List (bt×aw)},(x,c)∈l->∃c',l.lookup x=cz c'
 |[],h=>nomatch h
 | (y,d)::l,h=>by
  rw[fV];cases e:x==y with
  |true=>exact⟨d,rfl⟩
  |false=>
   rcases aD.mp h with z|z
   ·cases z;simp at e
   ·exact Z4 z
def X8(scope:gy)(okind:bt->Option iX)(ys:List bt)(js:List Nat)(XN:List bt):Bool:=
 scope.kind==.function&&scope.names.all (λy=>y.2 !=.cell&&(y.2 !=.local||scope.names.lookup y.1==cz .local)&&(y.2 !=.free||(okind y.1==cz .cell||okind y.1==cz .free))) &&
 ys.length==js.length&&(ys.zip js).all λp=>XN[p.2]?==cz p.1&&scope.names.lookup p.1==cz .free&&(okind p.1==cz .cell||okind p.1==cz .free)
def a1i(tn:List bt)(js:List Nat):St->St:=λY=>aL tn.length el++js.map λj=>(Y[j]?).getD el
def a4k{X:Cx}{scope:gy}(ok:X.Ok)(h:X8 scope X.env.kindOf ys js X.N=fx):CompIn X (tn++ys) scope (A2 X.env scope.names []) (a1i tn js):=by
 unfold X8 at h;rw[av,av,av,bj,bj]at h;obtain⟨⟨⟨hk,ha⟩,hl⟩,hz⟩:=h;have mK:∀y∈scope.names,y.2≠.cell:=λy hy e=>by
  have:=ha y hy;rw[e]at this;simp at this
 have zN:∀y∈scope.names,y.2=.local->scope.names.lookup y.1=cz .local:=λy hy e=>by
  have:=ha y hy;rw[e]at this;simpa using this
 have lr:∀y∈scope.names,y.2=.free->∃c,X.env.cells.lookup y.1=cz c:=λy hy e=>by
  have:=ha y hy;rw[e]at this;refine ok.has y.1 ?_;simpa using this
 obtain⟨a,_,d⟩:=a0f scope.names [] lr λp hp=>(nomatch hp)
 refine⟨a7I lr,by simpa using hk,mK,zN,λx c e=>a _ (bW e),λy hy e=>?_,λY=>?_,λY i x v h1 h2=>?_⟩
 ·obtain⟨c,hc⟩:=d y hy e;exact Z4 hc
 ·have:ys.length=js.length:=by simpa using hl
  unfold a1i;simp[this]
 ·unfold a1i at h2;by_cases hi:i<tn.length
  ·rw[gY (by simpa using hi),tN]at h2
   split at h2<;>cases h2
  ·rw[eZ (by simpa using hi),gn,aY]at h2;rw[eZ (by lia)]at h1;cases hj:js[i-tn.length]? with
   |none=>rw[hj]at h2;cases h2
   |some j=>
    rw[hj]at h2;have h3:(Y[j]?).getD el=cz v:=by simpa using h2
    have lD:(x,j)∈ys.zip js:=by
     have hlen:=(aP.mp h1).1;have tm:=(aP.mp hj).1;rw[bU];refine⟨i-tn.length,?_⟩;rw[jV];exact⟨h1,hj⟩
    have:=hz _ lD;rw[av,av,ig]at this;obtain⟨⟨e1,e2⟩,e3⟩:=this;refine⟨j,by simpa using e1,?_,by simpa using e2,by simpa using e3⟩;cases q:Y[j]? with
    |none=>rw[q]at h3;cases h3
    |some o=>rw[q]at h3;have:o=cz v:=h3;rw[this]
section
variable {X:Cx}{tn ys:List bt}{js:List Nat}{scope:gy}{elt tg iter:Expr}{ifs:List Expr}{pos:eA}{wi:TI}{g:TG}{tt:TT}{te:TE}
def b2h(hc:X.calm=fx)(hi:PI X tg iter wi)(C:X8 scope X.env.kindOf ys js X.N=fx)(hg:∀cl Cl s H fp,PG (O3 X (tn++ys) scope cl Cl s H fp) tg g)(ht:∀cl Cl s H fp,PTs (O3 X (tn++ys) scope cl Cl s H fp) ifs tt)(he:∀cl Cl s H fp,PE (O3 X (tn++ys) scope cl Cl s H fp) elt te)
  (hs:∀x,eO iter X.env x=pure x:=by intro _;rfl):PE X (.ListComp elt [⟨tg,iter,ifs,0⟩] scope pos) (a5o wi g tt te (a1i tn js)):=by
 intro pins s Y H Q I h;have C:=a4k (tn:=tn) I.ok C;rw[eval_ListComp];refine yN (use:=el) rfl hs C.clos C.kind C.names (a4j hc hi C (hg _) (ht _) (he _) I h (PP:=λacc Cl=>compPost (aO X.prog X.w) X.A X.xe el (EP X pins Y Q) acc Cl) ?_);intro D Cl Hn s' o m I' hq F ho hd pd;refine⟨m,pd _ ho,λh' rA=>⟨.ref D,Hn,?_,rfl,hq⟩⟩;exact I'.turned (t':=s'.toks) (λb ob hb e=>(rA.2 b hb).trans e) F.1 F.2.1 F.2.2.2.1 F.2.2.2.2.1 F.2.2.2.2.2
def a6f{py rS:eA}(hc:X.calm=fx)(hN:X.N.Nodup)(hy:X.N[i]?=cz y)(hx:Loc X.env.scope y)(hi:PI X tg iter wi)(C:X8 scope X.env.kindOf ys js X.N=fx)
  (hg:∀cl Cl s H fp,PG (O3 X (tn++ys) scope cl Cl s H fp) tg g) (ht:∀cl Cl s H fp,PTs (O3 X (tn++ys) scope cl Cl s H fp) ifs tt) (he:∀cl Cl s H fp,PE (O3 X (tn++ys) scope cl Cl s H fp) elt te)
  (qF:fP (.ListComp elt [⟨tg,iter,ifs,0⟩] scope pos) (cz (.Name y py)) rS.line X.env=pure fx:=by rfl) (hs:∀x,eO iter X.env x=pure x:=by intro _;rfl)
  (hf:autoParam (X.fn y=fx\/X.env.scope.names.lookup y=cz .local) ZZ._auto_1) :
  PS X (.Assign [.Name y py] (.ListComp elt [⟨tg,iter,ifs,0⟩] scope pos) rS) (b7W (a5o wi g tt te (a1i tn js)) (Q4 i)):=by
 intro pins s Y H D I h;have C:=a4k (tn:=tn) I.ok C;rw[exec_Assign_Name_used _ _ _ _ qF];refine ae (wpAny_standAt (ae ?_));show az _ X.A (do let _ <-comprehension (.ListComp elt [⟨tg,iter,ifs,0⟩] scope pos) scope X.env _ (newList []) p4 (bX iter X.env) (cz (mC (.Name y py) X.env))) _ _ s;refine ae (cK (yN (use:=cz (mC (.Name y py) X.env)) (Q:=λ_ s'=>SP X pins D .next s') rfl hs C.clos C.kind C.names
  (a4j hc hi C (hg _) (ht _) (he _) I h (PP:=λacc Cl=>compPost (aO X.prog X.w) X.A X.xe (cz (mC (.Name y py) X.env)) (λ_ s'=>SP X pins D .next s') acc Cl) ?_)) (λ_ s' hq=>ag (ag hq)) λ_ _ e=>e)
 intro Dl Cl Hn s' o m I' hq F ho hd pd;have I1:=I'.pinned (fp:=[Cl]) (λb hb=>by rw[aq.mp hb];exact F) (λb hb=>by rw[aq.mp hb];exact⟨o,ho,hd⟩);show az _ X.A (mC (.Name y py) X.env (.ref Dl)) _ _ _;refine wpAny_assign_Name (a0r I1 hN hy hx (v:=.ref Dl) rfl (λs2 I2=>?_) hf);have e2:=(I2.pin (Cl,o) (ax _ (ax _ (E4 (aq.mpr rfl) ho)))).1;refine⟨m,pd _ e2,λh' rA=>⟨Y.set i (cz (.ref Dl)),Hn,?_,hq⟩⟩;exact I2.unpinned.turned (t':=s2.toks) (λb ob hb e=>(rA.2 b hb).trans e) F.1 F.2.1 F.2.2.2.1 F.2.2.2.2.1 F.2.2.2.2.2
end
end L2
namespace VS
open PySem.Spec L2
abbrev D:=be
mutual
def C6:D->Bool
 |.int _=>fx
 |.tuple ds=>q9 ds
 |.none|.bool _|.str _|.list _|.dict _=>p4
def q9:List D->Bool
 |[]=>fx
 |d::ds=>C6 d&&q9 ds
end
mutual
def hashD:D->Int
 |.int i=>kc i
 |.tuple ds=>reduceHash (et (B5 ds))
 |.none|.bool _|.str _|.list _|.dict _=>0
def B5:List D->List Int
 |[]=>[]
 |d::ds=>hashD d::B5 ds
end
mutual
def v5:D->Nat
 |.int _=>1
 |.tuple ds=>Q5 ds+1
 |.none|.bool _|.str _|.list _|.dict _=>0
def Q5:List D->Nat
 |[]=>0
 |d::ds=>v5 d+Q5 ds
end
mutual
theorem W1:∀d:D,C6 d=fx->d.canLay0=fx
 |.int _,_=>by simp only[cf]
 |.tuple ds,h=>by
  simp only[C6]at h;simp only[cf];exact a1G ds h
 |.none,h|.bool _,h|.str _,h|.list _,h|.dict _,h=>by simp only[C6]at h;cases h
theorem a1G:∀ds:List D,q9 ds=fx->aU ds=fx
 |[],_=>by simp only[aU]
 |d::ds,h=>by
  simp only[q9,av]at h;simp only[aU,av];exact⟨W1 d h.1,a1G ds h.2⟩
end
mutual
theorem B6:∀a b:D,C6 a=fx->C6 b=fx->(aH a b=fx↔a=b)
 |.int i,b,_,hb=>by
  cases b with
  |int j=>
   show (i==j)=fx↔_;rw[fM];exact⟨λe=>by rw[e],λe=>by injection e⟩
  |tuple ds=>simp[aH]
  |_=>simp only[C6]at hb;cases hb
 |.tuple xs,b,ha,hb=>by
  cases b with
  |int j=>simp[aH]
  |tuple ys=>
   simp only[C6]at ha hb;simp only[aH];rw[a1H xs ys ha hb];exact⟨λe=>by rw[e],λe=>by injection e⟩
  |_=>simp only[C6]at hb;cases hb
 |.none,b,h,_|.bool _,b,h,_|.str _,b,h,_|.list _,b,h,_|.dict _,b,h,_=>by simp only[C6]at h;cases h
theorem a1H:∀a b:List D,q9 a=fx->q9 b=fx->(cX a b=fx↔a=b)
 |[],[],_,_=>by simp[cX]
 |[],_::_,_,_=>by simp[cX]
 |_::_,[],_,_=>by simp[cX]
 |x::xs,y::ys,ha,hb=>by
  simp only[q9,av]at ha hb;simp only[cX,av];rw[B6 x y ha.1 hb.1,a1H xs ys ha.2 hb.2]
  constructor
  ·rintro⟨rfl,rfl⟩;rfl
  ·intro e;injection e with e1 e2;exact⟨e1,e2⟩
end
mutual
theorem a2A{h h':bL}{es ep}(ho:h.get? d=cz o)(hd:o.data=.dict es ep)(hs:cB d h h'):∀(k:D) {v:ai} {as:List aw},C6 k=fx->Reads h v k as->Reads h' v k as
 |.int _,_,_,_,r=>by cases r;exact .int _ _
 |.tuple ds,_,_,hk,r=>by
  simp only[C6]at hk;cases r with
  |@tuple a oo vs n _ as c1 c2 c3 c4=>
   have ik:a≠d:=by
    rintro rfl;obtain rfl:oo=o:=aK (c1.symm.trans ho);rw[hd]at c3;exact nomatch c3
   exact .tuple ((hs.2 a ik).trans c1) c2 c3 (Z5 ho hd hs ds hk c4)
 |.none,_,_,h,_|.bool _,_,_,h,_|.str _,_,_,h,_|.list _,_,_,h,_|.dict _,_,_,h,_=>by simp only[C6]at h;cases h
theorem Z5{h h':bL}{es ep}(ho:h.get? d=cz o)(hd:o.data=.dict es ep)(hs:cB d h h'):∀(ks:List D) {vs:List ai} {as:List aw},q9 ks=fx->jH h vs ks as->jH h' vs ks as
 |[],_,_,_,r=>by cases r;exact .nil
 |k::ks,_,_,hk,r=>by
  simp only[q9,av]at hk;cases r with
  |cons r1 r2=>exact .cons (a2A ho hd hs k hk.1 r1) (Z5 ho hd hs ks hk.2 r2)
end
section
variable {prog:br}{w:bK}{E:ai->aj->Prop}
mutual
theorem a2B:∀(k:D) {A:bB} {s:aj} {v:ai} {as:List aw} {Q:Int->aj->Prop},C6 k=fx->A.units+k.depth<cU->Reads s.heap v k as->Q (hashD k) {s with toks:=s.toks+v5 k}->az (aO prog w) A (pyHash v) Q E s
 |.int i,A,s,v,as,Q,_,_,r,h=>by
  cases r
  simp only[hashD,v5]at h;exact wpAny_pyHash_int h
 |.tuple ds,A,s,v,as,Q,hk,hu,r,h=>by
  simp only[C6]at hk;simp only[dG]at hu;simp only[hashD,v5]at h;cases r with
  |@tuple a o items n _ as ho hc hd hi=>
   have hT:s.TypeIs (.ref a) "tuple":=⟨o,ho,hc⟩;unfold pyHash
   first|unfold pyHashByItsType|skip
   first|refine ae (wpAny_cRoomFor_or (.inr (by lia)) ?_)|skip
   refine ae (dC hT lA.lookup ?_);show az _ _ (if (cz (pB "tuple.__hash__")==cz bZ)=fx then _ else _) Q E s;rw[aN (by rw[beq_builtin_none];exact bc)];refine ae (dC hT lA.lookup ?_);show az _ _ (callSpecialIfBoundUnlessNone? (.ref a) "__hash__" _ >>= _) Q E s;refine ae (wpAny_callSpecialIfBoundUnlessNone?_slot hT lA (bF lA hT F.entry_tuple_hash ?_ (F.args_tuple_hash_1 _)));show az _ _ (Builtin.Tuple.tupleItemsOf (.ref a) >>= _) _ _ s;refine ae (wpAny_tupleItemsOf ho hd ?_);refine ae ?_;rw[<-ni];refine a4l ds (A:=A.in1) (acc:=#[]) hk (by show A.units+1+_<_;lia) hi ?_;show az _ _ (retInt (et _)) _ _ _;simp only[Array.toList_append,cj];refine tS ?_;show az _ _ (if (decide (-(2:Int)^63<=et (B5 ds))&&decide (et (B5 ds)<2^63))=fx then _ else _) Q E _;unfold reduceHash at h;by_cases hr:(decide (-(2:Int)^63<=et (B5 ds))&&decide (et (B5 ds)<2^63))=fx
   ·rw[aJ hr];rw[aJ hr]at h;exact ag (by simpa[mP]using h)
   ·rw[aN hr];rw[aN hr]at h;exact ae (ef (ag (by simpa[mP]using h)))
 |.none,_,_,_,_,_,h,_,_,_|.bool _,_,_,_,_,_,h,_,_,_|.str _,_,_,_,_,_,h,_,_,_|.list _,_,_,_,_,_,h,_,_,_|.dict _,_,_,_,_,_,h,_,_,_=>by simp only[C6]at h;cases h
theorem a4l:∀(ks:List D) {A:bB} {s:aj} {vs:List ai} {as:List aw} {acc:Array Int} {Q:Array Int->aj->Prop},q9 ks=fx->A.units+cu ks<cU->jH s.heap vs ks as->Q (acc++(B5 ks).toArray) {s with toks:=s.toks+Q5 ks}->
  az (aO prog w) A (forIn vs acc λx r=>do let r1 <-pyHash x;pure kY;pure (ee (r.push r1))) Q E s
 |[],A,s,vs,as,acc,Q,_,_,r,h=>by
  cases r
  rw[jL];exact ag (by simpa[B5,Q5]using h)
 |k::ks,A,s,vs,as,acc,Q,hk,hu,r,h=>by
  simp only[q9,av]at hk;simp only[cu]at hu;cases r with
  |cons r1 r2=>
   rw[jg];refine ae (ae (a2B k hk.1 (by lia) r1 ?_));refine ae (ag (ag ?_));refine a4l ks (s:={s with toks:=s.toks+v5 k}) hk.2 (by lia) r2 ?_;simp only[B5,Q5]at h;have e:(acc.push (hashD k))++(B5 ks).toArray=acc++(hashD k::B5 ks).toArray:=by simp
   rw[e];simpa[mP]using h
end
end
section
variable {prog:br}{w:bK}{A:bB}{E:ai->aj->Prop}
mutual
theorem a4m:∀(k:D) (n:Nat) {s:aj} {v:ai} {as:List aw} {Q:Bool->aj->Prop},C6 k=fx->k.depth<=n->Reads s.heap v k as->Q fx s->az (aO prog w) A (eqIsQuiet n v) Q E s
 |.int i,n,s,v,as,Q,_,_,r,h=>by
  cases r
  rw[eqIsQuiet_byValue n (v:=.int i _) rfl];exact ag h
 |.tuple ds,0,s,v,as,Q,_,hn,_,_=>by simp only[dG]at hn;lia
 |.tuple ds,n+1,s,v,as,Q,hk,hn,r,h=>by
  simp only[C6]at hk;simp only[dG]at hn;cases r with
  |@tuple a o items m _ as ho hc hd hi=>
   have hT:s.TypeIs (.ref a) "tuple":=⟨o,ho,hc⟩;unfold eqIsQuiet;refine ae (dC hT F.slot_tuple_eq.lookup ?_);show az _ _ (v_ (.ref a) (.type "tuple") >>= _) _ _ s;refine ae (fB hT isSubtype_tuple_tuple ?_);simp only[kq,cV,fQ];refine ae (dO ho hd ?_);refine ae ?_;show az _ _ (forIn items _ _) _ _ s;rw[<-ni];refine wpAny_forIn_list _ (λrest r s'=>r.1=el/\s'=s/\∃ks bs,q9 ks=fx/\cu ks<=n/\(∀k∈ks,k∈ds)/\jH s.heap rest ks bs) _ ?_ ?_ _ _ ⟨rfl,rfl,ds,as,hk,by lia,λk hk=>hk,hi⟩
   ·rintro v rest r s' ⟨hr,rfl,ks,bs,k1,k2,k3,k4⟩;cases k4 with
    |@cons _ _ d' iN _ _ r1 r2=>
     simp only[q9,av]at k1;simp only[cu]at k2;refine ae (a4n ds n hk (by lia) d' (k3 d' ar) r1 ?_);simp only[kq,cV,fQ];exact ag ⟨rfl,rfl,_,_,k1.2,by lia,λk hk=>k3 k (au _ hk),r2⟩
   ·rintro⟨r1,r2⟩ s' ⟨hr,rfl,_⟩;simp only at hr;subst hr;exact ag h
 |.none,_,_,_,_,_,h,_,_,_|.bool _,_,_,_,_,_,h,_,_,_|.str _,_,_,_,_,_,h,_,_,_|.list _,_,_,_,_,_,h,_,_,_|.dict _,_,_,_,_,_,h,_,_,_=>by simp only[C6]at h;cases h
theorem a4n:∀(ds:List D) (n:Nat),q9 ds=fx->cu ds<=n->∀k∈ds,∀{s:aj} {v:ai} {as:List aw} {Q:Bool->aj->Prop},Reads s.heap v k as->Q fx s->az (aO prog w) A (eqIsQuiet n v) Q E s
 |[],n,_,_,k,hk,s,v,as,Q,r,h=>nomatch hk
 |d::ds,n,oq,hn,k,hk,s,v,as,Q,r,h=>by
  simp only[q9,av]at oq;simp only[cu]at hn;rcases aD.mp hk with e|hk
  ·rw[e]at r;exact a4m d n oq.1 (by lia) r h
  ·exact a4n ds n oq.2 (by lia) k hk r h
end
end
noncomputable def b0p:DecidableEq D:=λa b=>Classical.propDecidable (a=b)
noncomputable def b2i(prog:br)(w:bK):@HeapKind prog w D b0p:=
 letI:DecidableEq D:=b0p
 {
  is:=λh k a=>C6 k=fx/\k.depth<=7/\∃as,Reads h (.ref a) k as
  hash:=hashD
  draws:=v5
  room:=λA=>A.units+8<cU
  inj:=λ⟨hx,_,_,r⟩ ⟨_,_,_,r'⟩=>SeqAt.Reads.unique _ _ _ _ _ (W1 _ hx) r r'
  keeps:=λ⟨hx,hd,_,r⟩ ho lH hs=>⟨hx,hd,_,a2A ho lH hs _ hx r⟩
  pyHash:=λhu ⟨hx,hd,_,r⟩ h=>a2B _ hx (by lia) r h
  eqBool:=λ{A E s x y a b Q} hu ⟨hx,hd,_,r⟩ ⟨hy,lH,_,r'⟩ h=>by
   refine SeqAt.eqAt_reads x y A s _ _ _ _ r r' (W1 _ hx) (W1 _ hy) (by have:=pU x.depth y.depth;lia) _ _ _ _ ?_;have e:aH x y=@decide (x=y) (b0p x y):=by
    by_cases c:x=y
    ·rw[@aE _ (b0p x y) c];exact (B6 x y hx hy).mpr c
    ·rw[@aT _ (b0p x y) c];cases q:aH x y with
     |false=>rfl
     |true=>exact absurd ((B6 x y hx hy).mp q) c
   rw[e];exact h
  quiet:=λ⟨hx,hd,_,r⟩ h=>a4m _ 8 hx (by lia) r h
 }
def O7(e:D×V×V)(x:eQ):Prop:=x.hash=hashD e.1/\RelV e.2.1 x.key/\RelV e.2.2 x.val
def a0g:D->Bool
 |.tuple [.int 0]=>fx
 |_=>p4
def a6g:V->Bool
 |.non=>fx
 |_=>p4
def L4:List (D×V×V)->Bool
 |[]=>p4
 |e::_=>a0g e.1&&a6g e.2.2
def b8o:D->Bool
 |.none=>fx
 |_=>p4
def b2j:List (D×D)->Bool
 |[]=>p4
 |p::_=>a0g p.1&&b8o p.2
def c9(a:aw)(es:List (D×V×V)):HO:=.ext λh=>(a==cS)=p4/\es.length<=aQ/\(es.map (·.1)).Nodup/\∃o ents ep,h.get? a=cz o/\o.ExactDict/\o.data=.dict ents ep/\eU O7 es ents.toList/\(L4 es=p4->ep=es.length)
def Mu:HO->Prop
 |.lst _=>True
 |.dK _=>True
 |.ext _=>True
 |_=>False
abbrev MuO:={o:HO // Mu o}
def keyOk(kt:Bool)(k:D):Prop:=C6 k=fx/\k.depth<=7/\(kt=fx->∃ds,k=.tuple ds)/\(kt=p4->∃i,k=.int i)
end VS
namespace VS
open L2
mutual
def imm:be->Bool
 |.none=>fx
 |.bool _=>fx
 |.int _=>fx
 |.str _=>fx
 |.list _=>p4
 |.tuple ds=>g9 ds
 |.dict _=>p4
def g9:List be->Bool
 |[]=>fx
 |d::ds=>imm d&&g9 ds
end
def SqX(K:af)(H:Hp)(a:aw)(xs:List V):Prop:=
 Rd H a (.lst xs)\/∃(cP:List ai) (n:Nat),K.lookup a=cz {cls:=.type "list",data:=.seq cP.toArray n}/\cP.length<=aQ/\Vals xs cP
def SqX.l(h:SqX K H a xs):SqL K H a xs:=by
 rcases h with h|⟨cP,n,h1,h2,h3⟩
 ·exact .inl h
 ·exact .inr ⟨_,cP.toArray,n,h1,rfl,rfl,rfl,by simpa using h2,by simpa using h3⟩
theorem SqX.ok{X:Cx}(h:SqX X.K H a xs)(I:Inv X pins Y H s):xs.length<=aQ/\∃(cP:List ai) (n:Nat),Vals xs cP/\s.heap.get? a=cz {cls:=.type "list",data:=.seq cP.toArray n}:=by
 rcases h with h|⟨cP,n,h1,h2,h3⟩
 ·exact h.ok I.hok
 ·exact⟨by rw[h3.length];exact h2,cP,n,h3,I.kIn _ _ h1⟩
mutual
theorem W2:∀d:be,C6 d=fx->imm d=fx
 |.int _,_=>by simp only[imm]
 |.tuple ds,h=>by
  simp only[C6]at h;simp only[imm];exact a1I ds h
 |.none,h|.bool _,h|.str _,h|.list _,h|.dict _,h=>by simp only[C6]at h;cases h
theorem a1I:∀ds:List be,q9 ds=fx->g9 ds=fx
 |[],_=>by simp only[g9]
 |d::ds,h=>by
  simp only[q9,av]at h;simp only[g9,av];exact⟨W2 d h.1,a1I ds h.2⟩
end
mutual
def Den(K:af)(H:Hp):V->be->Prop
 |v,.none=>v=.non
 |v,.bool b=>v=.bl b
 |v,.int i=>v=.int i
 |v,.str x=>v=.str x
 |v,.list ds=>∃a xs,v=.ref a/\SqX K H a xs/\DenAll K H xs ds
 |v,.tuple ds=>∃a xs,v=.ref a/\SqT K H a xs/\DenAll K H xs ds
 |v,.dict kvs=>∃a es,v=.ref a/\H a=cz (c9 a es)/\DenKV K H es kvs
def DenAll(K:af)(H:Hp):List V->List be->Prop
 |xs,[]=>xs=[]
 |xs,d::ds=>∃v r,xs=v::r/\Den K H v d/\DenAll K H r ds
def DenKV(K:af)(H:Hp):List (be×V×V)->List (be×be)->Prop
 |es,[]=>es=[]
 |es,(k,d)::r=>∃e q,es=e::q/\e.1=k/\Den K H e.2.1 k/\Den K H e.2.2 d/\DenKV K H q r
end
def Rd.up(h:Rd H a u)(e:Same H H'):Rd H' a u:=by
 rcases h with h|⟨o,h⟩
 ·exact .inl (e _ _ h)
 ·exact .inr ⟨o,e _ _ h⟩
def T2(h:SqX K H a xs)(e:Same H H'):SqX K H' a xs:=h.imp (λq=>Rd.up q e) id
def b2k(h:SqL K H a xs)(e:Same H H'):SqL K H' a xs:=h.imp (λq=>Rd.up q e) id
def P9(h:SqT K H a xs)(e:Same H H'):SqT K H' a xs:=h.imp (λq=>Rd.up q e) id
mutual
theorem Den.mono{K:af}{H H':Hp}(e:Same H H'):∀(d:be) {v:V},Den K H v d->Den K H' v d
 |.none,_,h=>by simpa only [Den]using h
 |.bool _,_,h=>by simpa only [Den]using h
 |.int _,_,h=>by simpa only [Den]using h
 |.str _,_,h=>by simpa only [Den]using h
 |.list ds,_,h=>by
  simp only[Den]at h ⊢;obtain⟨a,xs,h1,h2,h3⟩:=h;exact⟨a,xs,h1,T2 h2 e,DenAll.mono e ds h3⟩
 |.tuple ds,_,h=>by
  simp only[Den]at h ⊢;obtain⟨a,xs,h1,h2,h3⟩:=h;exact⟨a,xs,h1,P9 h2 e,DenAll.mono e ds h3⟩
 |.dict kvs,_,h=>by
  simp only[Den]at h ⊢;obtain⟨a,es,h1,h2,h3⟩:=h;exact⟨a,es,h1,e _ _ h2,DenKV.mono e kvs h3⟩
theorem DenAll.mono{K:af}{H H':Hp}(e:Same H H'):∀(ds:List be) {xs:List V},DenAll K H xs ds->DenAll K H' xs ds
 |[],_,h=>by simpa only [DenAll]using h
 |d::ds,_,h=>by
  simp only[DenAll]at h ⊢;obtain⟨v,r,h1,h2,h3⟩:=h;exact⟨v,r,h1,Den.mono e d h2,DenAll.mono e ds h3⟩
theorem DenKV.mono(e:Same H H'):∀(kvs:List (be×be)) {es:List (be×V×V)},DenKV K H es kvs->DenKV K H' es kvs
 |[],_,h=>by simpa only [DenKV]using h
 | (k,d)::r,_,h=>by
  simp only[DenKV]at h ⊢;obtain⟨x,q,h1,h2,h3,h4,h5⟩:=h;exact⟨x,q,h1,h2,Den.mono e k h3,Den.mono e d h4,DenKV.mono e r h5⟩
end
section
variable {K:af}{H H':Hp}
def Den.up{d:be}{v:V}(h:Den K H v d)(e:Same H H'):Den K H' v d:=Den.mono e d h
def DenAll.up{ds:List be}{xs:List V}(h:DenAll K H xs ds)(e:Same H H'):DenAll K H' xs ds:=DenAll.mono e ds h
def den_none:Den K H .non .none:=by simp only[Den]
def den_bool{b:Bool}:Den K H (.bl b) (.bool b):=by simp only[Den]
def den_int{i:Int}:Den K H (.int i) (.int i):=by simp only[Den]
def den_str{x:bt}:Den K H (.str x) (.str x):=by simp only[Den]
def den_list{a:aw}{xs:List V}{ds:List be}(h:SqX K H a xs)(q:DenAll K H xs ds):Den K H (.ref a) (.list ds):=by
 simp only[Den];exact⟨a,xs,rfl,h,q⟩
def den_tup{a:aw}{xs:List V}{ds:List be}(h:SqT K H a xs)(q:DenAll K H xs ds):Den K H (.ref a) (.tuple ds):=by
 simp only[Den];exact⟨a,xs,rfl,h,q⟩
theorem a6h:∀{es:List (be×V×V)} {ds:List be},(∀e∈es,Den K H e.2.1 e.1)->DenAll K H (es.map (·.2.2)) ds->DenKV K H es ((es.map (·.1)).zip ds)
 |[],ds,_,h=>by
  cases ds with
  |nil=>simp only[de,C_,DenKV]
  |cons d ds=>simp only[DenAll]at h;obtain⟨v,r,h1,_⟩:=h;cases h1
 |e::es,ds,hk,h=>by
  cases ds with
  |nil=>simp only[DenAll]at h;cases h
  |cons d ds=>
   simp only[DenAll]at h;obtain⟨v,r,h1,h2,h3⟩:=h;cases h1
   simp only[aA,ei,DenKV];exact⟨e,es,rfl,rfl,hk e ar,h2,a6h (λe he=>hk e (au _ he)) h3⟩
def a1j(h:H a=cz (c9 a es))(hk:∀e∈es,Den K H e.2.1 e.1)(hv:DenAll K H (es.map (·.2.2)) ds):Den K H (.ref a) (.dict ((es.map (·.1)).zip ds)):=by
 simp only[Den];exact⟨a,es,rfl,h,a6h hk hv⟩
def denAll_nil:DenAll K H [] []:=by simp only[DenAll]
def denAll_cons{v:V}{d:be}{xs:List V}{ds:List be}(h:Den K H v d)(q:DenAll K H xs ds):DenAll K H (v::xs) (d::ds):=by
 simp only[DenAll];exact⟨v,xs,rfl,h,q⟩
def Den.list_inv{v:V}{ds:List be}(h:Den K H v (.list ds)):∃a xs,v=.ref a/\SqX K H a xs/\DenAll K H xs ds:=by simpa only [Den]using h
def Den.tup_inv{v:V}{ds:List be}(h:Den K H v (.tuple ds)):∃a xs,v=.ref a/\SqT K H a xs/\DenAll K H xs ds:=by simpa only [Den]using h
def Den.dict_inv(h:Den K H v (.dict kvs)):∃a es,v=.ref a/\H a=cz (c9 a es)/\DenKV K H es kvs:=by simpa only [Den]using h
theorem DenKV.keys:∀{kvs:List (be×be)} {es:List (be×V×V)},DenKV K H es kvs->es.map (·.1)=kvs.map (·.1)
 |[],_,h=>by simp only[DenKV]at h;rw[h];rfl
 | (k,d)::r,_,h=>by
  simp only[DenKV]at h;obtain⟨e,q,rfl,h1,_,_,h2⟩:=h;rw[aA,aA,DenKV.keys h2,h1]
theorem DenKV.vals:∀{kvs:List (be×be)} {es:List (be×V×V)},DenKV K H es kvs->DenAll K H (es.map (·.2.2)) (kvs.map (·.2))
 |[],_,h=>by simp only[DenKV]at h;rw[h];simp only[de,DenAll]
 | (k,d)::r,_,h=>by
  simp only[DenKV]at h;obtain⟨e,q,rfl,_,_,h1,h2⟩:=h;simp only[aA,DenAll];exact⟨_,_,rfl,h1,DenKV.vals h2⟩
theorem DenKV.kden:∀{kvs:List (be×be)} {es:List (be×V×V)},DenKV K H es kvs->∀e∈es,Den K H e.2.1 e.1
 |[],_,h,e,he=>by simp only[DenKV]at h;rw[h]at he;cases he
 | (k,d)::r,_,h,e,he=>by
  simp only[DenKV]at h;obtain⟨e0,q,rfl,h0,h1,_,h2⟩:=h;rcases aD.mp he with z|z
  ·subst z;rw[h0];exact h1
  ·exact DenKV.kden h2 e z
def Den.int_inv{v:V}{i:Int}(h:Den K H v (.int i)):v=.int i:=by simpa only [Den]using h
def Den.bool_inv(h:Den K H v (.bool b)):v=.bl b:=by simpa only [Den]using h
def Den.none_inv(h:Den K H v .none):v=.non:=by simpa only [Den]using h
def Den.str_inv(h:Den K H v (.str x)):v=.str x:=by simpa only [Den]using h
def DenAll.cons_inv{xs:List V}{d:be}{ds:List be}(h:DenAll K H xs (d::ds)):∃v r,xs=v::r/\Den K H v d/\DenAll K H r ds:=by simpa only [DenAll]using h
def DenAll.nil_inv{xs:List V}(h:DenAll K H xs []):xs=[]:=by simpa only [DenAll]using h
theorem DenAll.length:∀{ds:List be} {xs:List V},DenAll K H xs ds->xs.length=ds.length
 |[],_,h=>by rw[h.nil_inv];rfl
 |d::ds,_,h=>by
  obtain⟨v,r,rfl,_,h⟩:=h.cons_inv;rw[bu,bu,DenAll.length h]
theorem DenAll.get:∀{ds:List be} {xs:List V} {i:Nat} {d:be},DenAll K H xs ds->ds[i]?=cz d->∃v,xs[i]?=cz v/\Den K H v d
 |[],_,i,d,_,e=>by simp at e
 |d0::ds,_,0,d,h,e=>by
  obtain⟨v,r,rfl,h1,_⟩:=h.cons_inv;have:d0=d:=by simpa using e
  subst this;exact⟨v,rfl,h1⟩
 |d0::ds,_,i+1,d,h,e=>by
  obtain⟨v,r,rfl,_,h1⟩:=h.cons_inv;obtain⟨u,h2,h3⟩:=DenAll.get (i:=i) h1 (by simpa using e);exact⟨u,by simpa using h2,h3⟩
def DenAll.getV{ds:List be}{xs:List V}{i:Nat}{v:V}(h:DenAll K H xs ds)(e:xs[i]?=cz v):∃d,ds[i]?=cz d/\Den K H v d:=by
 have hi:=(aP.mp e).1;rw[h.length]at hi;obtain⟨u,h1,h2⟩:=h.get (ay hi);rw[e]at h1;cases h1
 exact⟨_,ay hi,h2⟩
theorem DenAll.append:∀{ds:List be} {xs:List V} {es:List be} {ys:List V},DenAll K H xs ds->DenAll K H ys es->DenAll K H (xs++ys) (ds++es)
 |[],_,_,_,h,q=>by rw[h.nil_inv];exact q
 |d::ds,_,_,_,h,q=>by
  obtain⟨v,r,rfl,h1,h2⟩:=h.cons_inv;exact denAll_cons h1 (DenAll.append h2 q)
theorem DenAll.take:∀{ds:List be} {xs:List V} (n:Nat),DenAll K H xs ds->DenAll K H (xs.take n) (ds.take n)
 |_,_,0,_=>by rw[List.take_zero,List.take_zero];exact denAll_nil
 |[],_,n+1,h=>by rw[h.nil_inv];exact denAll_nil
 |d::ds,_,n+1,h=>by
  obtain⟨v,r,rfl,h1,h2⟩:=h.cons_inv;exact denAll_cons h1 (DenAll.take n h2)
theorem DenAll.drop:∀{ds:List be} {xs:List V} (n:Nat),DenAll K H xs ds->DenAll K H (xs.drop n) (ds.drop n)
 |_,_,0,h=>h
 |[],_,n+1,h=>by rw[h.nil_inv];exact denAll_nil
 |d::ds,_,n+1,h=>by
  obtain⟨v,r,rfl,_,h2⟩:=h.cons_inv;exact DenAll.drop n h2
theorem DenAll.ints:∀(ns:List Int),DenAll K H (ns.map V.int) (ns.map aI)
 |[]=>denAll_nil
 |n::ns=>denAll_cons den_int (DenAll.ints ns)
end
def cut(H:Hp)(F:List aw):Hp:=λa=>if a∈F then el else H a
section
variable {H H':Hp}{F F':List aw}{a:aw}{o:HO}
def X9(h:a∉F):cut H F a=H a:=by unfold cut;rw[aN h]
def W3(h:a∈F):cut H F a=el:=by unfold cut;rw[aJ h]
def o9(h:cut H F a=cz o):a∉F/\H a=cz o:=by
 by_cases q:a∈F
 ·rw[W3 q]at h;cases h
 ·rw[X9 q]at h;exact⟨q,h⟩
def k6(h1:a∉F)(h2:H a=cz o):cut H F a=cz o:=by rw[X9 h1];exact h2
def i8:Same (cut H F) H:=λ_ _ h=>(o9 h).2
def K7(e:Same H H')(hF:∀a o,H a=cz o->a∈F'->a∈F):Same (cut H F) (cut H' F'):=λa o h=>by
 obtain⟨h1,h2⟩:=o9 h;exact k6 (λq=>h1 (hF a o h2 q)) (e _ _ h2)
def D4(e:Same H H'):Same (cut H F) (cut H' F):=K7 e λ_ _ _ q=>q
def D5(hF:∀a,a∈F'->a∈F):Same (cut H F) (cut H F'):=K7 (Same.refl H) λa _ _ q=>hF a q
def K4:cut H []=H:=by
 funext a
 exact X9 (by simp)
end
inductive Ty where
 |i|f|l (t:Ty)|tp (ts:List Ty)|d (kt:Bool) (t:Ty)
mutual
def Ty.shut:Ty->Bool
 |.i=>fx
 |.f=>p4
 |.l u=>u.shut
 |.tp us=>Ty.shutAll us
 |.d _ u=>u.shut
def Ty.shutAll:List Ty->Bool
 |[]=>fx
 |u::us=>u.shut&&Ty.shutAll us
end
def ListAll(R:V->be->List aw->Prop):List V->List be->List aw->Prop
 |xs,[],fp=>xs=[]/\fp=[]
 |xs,d::ds,fp=>∃v r f g,xs=v::r/\fp=f++g/\R v d f/\ListAll R r ds g
mutual
def Own(K:af)(H:Hp)(F:List aw):Ty->V->be->List aw->Prop
 |.i,v,d,fp=>fp=[]/\imm d=fx/\Den K (cut H F) v d
 |.f,v,d,fp=>fp=[]/\Den K (cut H F) v d
 |.l u,v,d,fp=>(fp=[]/\imm d=fx/\Den K (cut H F) v d)\/∃a xs ds fs,v=.ref a/\H a=cz (.lst xs)/\d=.list ds/\fp=a::fs/\ListAll (Own K H F u) xs ds fs
 |.tp us,v,d,fp=>(fp=[]/\(imm d=fx/\∀ds,d≠.tuple ds)/\Den K (cut H F) v d)\/∃a xs ds,v=.ref a/\H a=cz (.tup xs)/\a∉F/\d=.tuple ds/\OwnTs K H F us xs ds fp
 |.d kt u,v,d,fp=>∃a es ds fs,v=.ref a/\H a=cz (c9 a es)/\d=.dict ((es.map (·.1)).zip ds)/\fp=a::fs/\((es.map (·.1)).Nodup/\∀e∈es,keyOk kt e.1/\Den K (cut H F) e.2.1 e.1)/\ListAll (Own K H F u) (es.map (·.2.2)) ds fs
def OwnTs(K:af)(H:Hp)(F:List aw):List Ty->List V->List be->List aw->Prop
 |[],xs,ds,fp=>xs=[]/\ds=[]/\fp=[]
 |u::us,xs,ds,fp=>∃v r d e f g,xs=v::r/\ds=d::e/\fp=f++g/\Own K H F u v d f/\OwnTs K H F us r e g
end
section
variable {R R':V->be->List aw->Prop}
def n5:ListAll R [] [] []:=by simp only[ListAll];exact⟨trivial,trivial⟩
def m7(h:R v d f)(q:ListAll R xs ds g):ListAll R (v::xs) (d::ds) (f++g):=by
 simp only[ListAll];exact⟨v,xs,f,g,rfl,rfl,h,q⟩
def ListAll.nil_inv(h:ListAll R xs [] fp):xs=[]/\fp=[]:=by simpa only [ListAll]using h
def ListAll.cons_inv(h:ListAll R xs (d::ds) fp):∃v r f g,xs=v::r/\fp=f++g/\R v d f/\ListAll R r ds g:=by simpa only [ListAll]using h
theorem ListAll.length:∀{ds:List be} {xs:List V} {fp:List aw},ListAll R xs ds fp->xs.length=ds.length
 |[],_,_,h=>by rw[h.nil_inv.1];rfl
 |d::ds,_,_,h=>by
  obtain⟨v,r,f,g,rfl,_,_,h⟩:=h.cons_inv;rw[bu,bu,ListAll.length h]
theorem ListAll.imp:∀{ds:List be} {xs:List V} {fp:List aw},ListAll R xs ds fp->(∀v d f,(∀a∈f,a∈fp)->d∈ds->R v d f->R' v d f)->ListAll R' xs ds fp
 |[],_,_,h,_=>by obtain⟨rfl,rfl⟩:=h.nil_inv;exact n5
 |d::ds,_,_,h,q=>by
  obtain⟨v,r,f,g,rfl,rfl,h1,h2⟩:=h.cons_inv;exact m7 (q v d f (λa ha=>aM _ ha) ar h1) (ListAll.imp h2 λv d f' hf hd hR=>q v d f' (λa ha=>ax _ (hf a ha)) (au _ hd) hR)
theorem ListAll.append:∀{ds es:List be} {xs ys:List V} {fp gp:List aw},ListAll R xs ds fp->ListAll R ys es gp->ListAll R (xs++ys) (ds++es) (fp++gp)
 |[],_,_,_,_,_,h,q=>by obtain⟨rfl,rfl⟩:=h.nil_inv;exact q
 |d::ds,_,_,_,_,_,h,q=>by
  obtain⟨v,r,f,g,rfl,rfl,h1,h2⟩:=h.cons_inv;rw[bw];exact m7 h1 (ListAll.append h2 q)
theorem ListAll.at_:∀{ds:List be} {xs:List V} {fp:List aw} {k:Nat} {d:be},ListAll R xs ds fp->ds[k]?=cz d->
  ∃v f pre post,xs[k]?=cz v/\R v d f/\fp=pre++(f++post)/\ListAll R (xs.take k) (ds.take k) pre/\ListAll R (xs.drop (k+1)) (ds.drop (k+1)) post
 |[],_,_,k,d,_,e=>by simp at e
 |d0::ds,_,_,0,d,h,e=>by
  obtain⟨v,r,f,g,rfl,rfl,h1,h2⟩:=h.cons_inv;have:d0=d:=by simpa using e
  subst this;exact⟨v,f,[],g,rfl,h1,rfl,n5,h2⟩
 |d0::ds,_,_,k+1,d,h,e=>by
  obtain⟨v,r,f,g,rfl,rfl,h1,h2⟩:=h.cons_inv;obtain⟨u,f',pre,post,e1,e2,e3,e4,e5⟩:=ListAll.at_ (k:=k) h2 (by simpa using e);subst e3;exact⟨u,f',f++pre,post,by simpa using e1,e2,by rw[bw],m7 h1 e4,e5⟩
end
section
variable {K:af}{H H':Hp}{F F':List aw}
theorem ListAll.den(hR:∀v d f,R v d f->Den K H v d):∀{ds:List be} {xs:List V} {fp:List aw},ListAll R xs ds fp->DenAll K H xs ds
 |[],_,_,h=>by rw[h.nil_inv.1];exact denAll_nil
 |d::ds,_,_,h=>by
  obtain⟨v,r,f,g,rfl,_,h1,h2⟩:=h.cons_inv;exact denAll_cons (hR _ _ _ h1) (ListAll.den hR h2)
mutual
theorem Own.den:∀(u:Ty) {v:V} {d:be} {fp:List aw},Own K H F u v d fp->Den K H v d
 |.i,_,_,_,h=>by simp only[Own]at h;exact h.2.2.up i8
 |.f,_,_,_,h=>by simp only[Own]at h;exact h.2.up i8
 |.l u,_,_,_,h=>by
  simp only[Own]at h;rcases h with⟨_,_,h⟩|⟨a,xs,ds,fs,rfl,h1,rfl,_,h2⟩
  ·exact h.up i8
  ·exact den_list (.inl (.inl h1)) (ListAll.den (λv d f q=>Own.den u q) h2)
 |.tp us,_,_,_,h=>by
  simp only[Own]at h;rcases h with⟨_,_,h⟩|⟨a,xs,ds,rfl,h1,_,rfl,h2⟩
  ·exact h.up i8
  ·exact den_tup (SqT.of h1) (OwnTs.den us h2)
 |.d kt u,_,_,_,h=>by
  simp only[Own]at h;obtain⟨a,es,ds,fs,rfl,h1,rfl,_,h3,h2⟩:=h;exact a1j h1 (λe he=>(h3.2 e he).2.up i8) (ListAll.den (λv d f q=>Own.den u q) h2)
theorem OwnTs.den:∀(us:List Ty) {xs:List V} {ds:List be} {fp:List aw},OwnTs K H F us xs ds fp->DenAll K H xs ds
 |[],_,_,_,h=>by simp only[OwnTs]at h;obtain⟨rfl,rfl,_⟩:=h;exact denAll_nil
 |u::us,_,_,_,h=>by
  simp only[OwnTs]at h;obtain⟨v,r,d,e,f,g,rfl,rfl,_,h1,h2⟩:=h;exact denAll_cons (Own.den u h1) (OwnTs.den us h2)
end
mutual
theorem Own.frame(e:Same (cut H F) (cut H' F')):∀(u:Ty) {v:V} {d:be} {fp:List aw},Own K H F u v d fp->(∀a∈fp,H' a=H a)->Own K H' F' u v d fp
 |.i,_,_,_,h,_=>by simp only[Own]at h ⊢;exact⟨h.1,h.2.1,h.2.2.up e⟩
 |.f,_,_,_,h,_=>by simp only[Own]at h ⊢;exact⟨h.1,h.2.up e⟩
 |.l u,_,_,_,h,k=>by
  simp only[Own]at h ⊢;rcases h with⟨h1,h2,h⟩|⟨a,xs,ds,fs,rfl,h1,rfl,rfl,h2⟩
  ·exact .inl ⟨h1,h2,h.up e⟩
  ·exact .inr ⟨a,xs,ds,fs,rfl,(k a ar).trans h1,rfl,rfl,h2.imp λv d f hf _ q=>Own.frame e u q λb hb=>k b (au _ (hf b hb))⟩
 |.tp us,_,_,_,h,k=>by
  simp only[Own]at h ⊢;rcases h with⟨h1,h2,h⟩|⟨a,xs,ds,rfl,h1,h0,rfl,h2⟩
  ·exact .inl ⟨h1,h2,h.up e⟩
  obtain⟨h3,h4⟩:=o9 (e a _ (k6 h0 h1));exact .inr ⟨a,xs,ds,rfl,h4,h3,rfl,OwnTs.frame e us h2 k⟩
 |.d kt u,_,_,_,h,k=>by
  simp only[Own]at h ⊢;obtain⟨a,es,ds,fs,rfl,h1,rfl,rfl,h3,h2⟩:=h;exact⟨a,es,ds,fs,rfl,(k a ar).trans h1,rfl,rfl,⟨h3.1,λx hx=>⟨(h3.2 x hx).1,(h3.2 x hx).2.up e⟩⟩,h2.imp λv d f hf _ q=>Own.frame e u q λb hb=>k b (au _ (hf b hb))⟩
theorem OwnTs.frame(e:Same (cut H F) (cut H' F')):∀(us:List Ty) {xs:List V} {ds:List be} {fp:List aw},OwnTs K H F us xs ds fp->(∀a∈fp,H' a=H a)->OwnTs K H' F' us xs ds fp
 |[],_,_,_,h,_=>by simpa only [OwnTs]using h
 |u::us,_,_,_,h,k=>by
  simp only[OwnTs]at h ⊢;obtain⟨v,r,d,e',f,g,rfl,rfl,rfl,h1,h2⟩:=h;exact⟨v,r,d,e',f,g,rfl,rfl,rfl,Own.frame e u h1 λa ha=>k a (aM _ ha),OwnTs.frame e us h2 λa ha=>k a (ax _ ha)⟩
end
theorem ListAll.lst{u:Ty}{R:V->be->List aw->Prop}(hR:∀v d f,R v d f->∀a∈f,∃ys:MuO,H a=cz ys.1):∀{ds:List be} {xs:List V} {fp:List aw},ListAll R xs ds fp->∀a∈fp,∃ys:MuO,H a=cz ys.1
 |[],_,_,h,a,ha=>by rw[h.nil_inv.2]at ha;cases ha
 |d::ds,_,_,h,a,ha=>by
  obtain⟨v,r,f,g,rfl,rfl,h1,h2⟩:=h.cons_inv;rcases aC.mp ha with z|z
  ·exact hR _ _ _ h1 a z
  ·exact ListAll.lst (u:=u) hR h2 a z
mutual
theorem Own.lst:∀(u:Ty) {v:V} {d:be} {fp:List aw},Own K H F u v d fp->∀a∈fp,∃ys:MuO,H a=cz ys.1
 |.i,_,_,_,h,a,ha=>by simp only[Own]at h;rw[h.1]at ha;cases ha
 |.f,_,_,_,h,a,ha=>by simp only[Own]at h;rw[h.1]at ha;cases ha
 |.l u,_,_,_,h,b,hb=>by
  simp only[Own]at h;rcases h with⟨h1,_⟩|⟨a,xs,ds,fs,rfl,h1,rfl,rfl,h2⟩
  ·rw[h1]at hb;cases hb
  ·rcases aD.mp hb with z|z
   ·subst z;exact⟨⟨.lst xs,trivial⟩,h1⟩
   ·exact ListAll.lst (u:=u) (λv d f q=>Own.lst u q) h2 b z
 |.tp us,_,_,_,h,b,hb=>by
  simp only[Own]at h;rcases h with⟨h1,_⟩|⟨a,xs,ds,rfl,h1,_,rfl,h2⟩
  ·rw[h1]at hb;cases hb
  ·exact OwnTs.lst us h2 b hb
 |.d kt u,_,_,_,h,b,hb=>by
  simp only[Own]at h;obtain⟨a,es,ds,fs,rfl,h1,rfl,rfl,h3,h2⟩:=h;rcases aD.mp hb with z|z
  ·subst z;exact⟨⟨c9 b es,trivial⟩,h1⟩
  ·exact ListAll.lst (u:=u) (λv d f q=>Own.lst u q) h2 b z
theorem OwnTs.lst:∀(us:List Ty) {xs:List V} {ds:List be} {fp:List aw},OwnTs K H F us xs ds fp->∀a∈fp,∃ys:MuO,H a=cz ys.1
 |[],_,_,_,h,a,ha=>by simp only[OwnTs]at h;rw[h.2.2]at ha;cases ha
 |u::us,_,_,_,h,b,hb=>by
  simp only[OwnTs]at h;obtain⟨v,r,d,e,f,g,rfl,rfl,rfl,h1,h2⟩:=h;rcases aC.mp hb with z|z
  ·exact Own.lst u h1 b z
  ·exact OwnTs.lst us h2 b z
end
def b5p(h:SqT K H a xs)(hF:∀a∈F,∃ys:MuO,H a=cz ys.1):SqT K (cut H F) a xs:=by
 rcases h with (h|⟨o,h⟩)|h
 ·refine .inl (.inl (k6 (λq=>?_) h));obtain⟨⟨ys,my⟩,e⟩:=hF a q;rw[h]at e;have e':=aK e;rw[show ys=_ from e'.symm]at my;exact my
 ·refine .inl (.inr ⟨o,k6 (λq=>?_) h⟩);obtain⟨⟨ys,my⟩,e⟩:=hF a q;rw[h]at e;have e':=aK e;rw[show ys=_ from e'.symm]at my;exact my
 ·exact .inr h
mutual
theorem Den.imm_out(hF:∀a∈F,∃ys:MuO,H a=cz ys.1):∀(d:be) {v:V},imm d=fx->Den K H v d->Den K (cut H F) v d
 |.none,_,_,h=>by simpa only [Den]using h
 |.bool _,_,_,h=>by simpa only [Den]using h
 |.int _,_,_,h=>by simpa only [Den]using h
 |.str _,_,_,h=>by simpa only [Den]using h
 |.list ds,_,q,_=>by simp only[imm]at q;cases q
 |.tuple ds,_,q,h=>by
  simp only[imm]at q;obtain⟨a,xs,rfl,h1,h2⟩:=h.tup_inv;exact den_tup (b5p h1 hF) (DenAll.imm_out hF ds q h2)
 |.dict _,_,q,_=>by simp only[imm]at q;cases q
theorem DenAll.imm_out(hF:∀a∈F,∃ys:MuO,H a=cz ys.1):∀(ds:List be) {xs:List V},g9 ds=fx->DenAll K H xs ds->DenAll K (cut H F) xs ds
 |[],_,_,h=>by simpa only [DenAll]using h
 |d::ds,_,q,h=>by
  simp only[g9,av]at q;obtain⟨v,r,rfl,h1,h2⟩:=h.cons_inv;exact denAll_cons (Den.imm_out hF d q.1 h1) (DenAll.imm_out hF ds q.2 h2)
end
mutual
theorem Own.shut_out(hF:∀a∈F',∃ys:MuO,H a=cz ys.1):∀(u:Ty) {v:V} {d:be} {fp:List aw},u.shut=fx->Own K H F u v d fp->Own K H F' u v d fp
 |.i,_,_,_,_,h=>by simp only[Own]at h ⊢;exact⟨h.1,h.2.1,(h.2.2.up i8).imm_out hF _ h.2.1⟩
 |.f,_,_,_,q,h=>by simp only[Ty.shut]at q;cases q
 |.l u,_,_,_,q,h=>by
  simp only[Ty.shut]at q;simp only[Own]at h ⊢;rcases h with⟨h1,h2,h⟩|⟨a,xs,ds,fs,rfl,h1,rfl,rfl,h2⟩
  ·exact .inl ⟨h1,h2,(h.up i8).imm_out hF _ h2⟩
  ·exact .inr ⟨a,xs,ds,fs,rfl,h1,rfl,rfl,h2.imp λv d f _ _ z=>Own.shut_out hF u q z⟩
 |.tp us,_,_,_,q,h=>by
  simp only[Ty.shut]at q;simp only[Own]at h ⊢;rcases h with⟨h1,h2,h⟩|⟨a,xs,ds,rfl,h1,h0,rfl,h2⟩
  ·exact .inl ⟨h1,h2,(h.up i8).imm_out hF _ h2.1⟩
  refine .inr ⟨a,xs,ds,rfl,h1,λz=>?_,rfl,OwnTs.shut_out hF us q h2⟩;obtain⟨⟨ys,my⟩,e⟩:=hF a z;rw[h1]at e;have e':=aK e;rw[show ys=_ from e'.symm]at my;exact my
 |.d kt u,_,_,_,q,h=>by
  simp only[Ty.shut]at q;simp only[Own]at h ⊢;obtain⟨a,es,ds,fs,rfl,h1,rfl,rfl,h3,h2⟩:=h;exact⟨a,es,ds,fs,rfl,h1,rfl,rfl,⟨h3.1,λx hx=>⟨(h3.2 x hx).1,((h3.2 x hx).2.up i8).imm_out hF _ (W2 _ (h3.2 x hx).1.1)⟩⟩,h2.imp λv d f _ _ z=>Own.shut_out hF u q z⟩
theorem OwnTs.shut_out(hF:∀a∈F',∃ys:MuO,H a=cz ys.1):∀(us:List Ty) {xs:List V} {ds:List be} {fp:List aw},Ty.shutAll us=fx->OwnTs K H F us xs ds fp->OwnTs K H F' us xs ds fp
 |[],_,_,_,_,h=>by simpa only [OwnTs]using h
 |u::us,_,_,_,q,h=>by
  simp only[Ty.shutAll,av]at q;simp only[OwnTs]at h ⊢;obtain⟨v,r,d,e,f,g,rfl,rfl,rfl,h1,h2⟩:=h;exact⟨v,r,d,e,f,g,rfl,rfl,rfl,Own.shut_out hF u q.1 h1,OwnTs.shut_out hF us q.2 h2⟩
end
end
end VS
namespace VS
open PySem.Spec L2
open SeqAt in
def items_eqAt{A:bB}{s:aj}{us ws:Array ai}(ra:jH s.heap us.toList xs as)(rb:jH s.heap ws.toList ys bs)(ha:aU xs=fx)(hb:aU ys=fx)
  (hu:A.in1.units+min (cu xs) (cu ys)<cU):∀(k:Nat) (k1:k<us.size) (k2:k<ws.size),EqAt A.in1 s us[k] ws[k] (pairEq xs ys k):=λk k1 k2=>
 eqAt_readsAll xs ys A.in1 s us.toList ws.toList as bs ra rb ha hb hu k k1 k2
open SeqAt in
def a7J{A:bB}{s:aj}(ra:Reads s.heap a da as)(rb:Reads s.heap b db bs)(ha:da.canLay0=fx)(hb:db.canLay0=fx)
  (hu:A.units+min da.depth db.depth<cU):RcNeAt A s a b (!aH da db):=by
 have u0:=room_here hu;cases ra with
 |dict=>exact nomatch ha
 |none=>cases rb with
  |dict=>exact nomatch hb
  |none=>exact RcNeAt.none_none
  |bool y=>exact RcNeAt.none_bool y
  |int y v=>exact RcNeAt.none_int y v
  |str y v=>exact RcNeAt.none_str y v
  |list c1 c2 c3 c4=>exact RcNeAt.none_list ⟨_,c1,c2,_,c3⟩ u0
  |tuple c1 c2 c3 c4=>exact RcNeAt.none_tuple ⟨_,c1,c2,_,c3⟩ u0
 |bool x=>cases rb with
  |dict=>exact nomatch hb
  |none=>exact RcNeAt.bool_none x
  |bool y=>exact RcNeAt.bool_bool x y
  |int y v=>exact RcNeAt.bool_int x y v
  |str y v=>exact RcNeAt.bool_str x y v
  |list c1 c2 c3 c4=>exact RcNeAt.bool_list x ⟨_,c1,c2,_,c3⟩ u0
  |tuple c1 c2 c3 c4=>exact RcNeAt.bool_tuple x ⟨_,c1,c2,_,c3⟩ u0
 |int x t=>cases rb with
  |dict=>exact nomatch hb
  |none=>exact RcNeAt.int_none x t
  |bool y=>exact RcNeAt.int_bool x t y
  |int y v=>exact RcNeAt.int_int x t y v
  |str y v=>exact RcNeAt.int_str x t y v
  |list c1 c2 c3 c4=>exact RcNeAt.int_list x t ⟨_,c1,c2,_,c3⟩ u0
  |tuple c1 c2 c3 c4=>exact RcNeAt.int_tuple x t ⟨_,c1,c2,_,c3⟩ u0
 |str x t=>cases rb with
  |dict=>exact nomatch hb
  |none=>exact RcNeAt.str_none x t
  |bool y=>exact RcNeAt.str_bool x t y
  |int y v=>exact RcNeAt.str_int x t y v
  |str y v=>exact RcNeAt.str_str x t y v
  |list c1 c2 c3 c4=>exact RcNeAt.str_list x t ⟨_,c1,c2,_,c3⟩ u0
  |tuple c1 c2 c3 c4=>exact RcNeAt.str_tuple x t ⟨_,c1,c2,_,c3⟩ u0
 |@list la oa us na xs fa c1 c2 c3 c4=>
  have sa:s.heap.IsList la us:=⟨oa,c1,c2,na,c3⟩;cases rb with
  |dict=>exact nomatch hb
  |none=>exact RcNeAt.list_none sa u0
  |bool y=>exact RcNeAt.list_bool y sa u0
  |int y v=>exact RcNeAt.list_int y v sa u0
  |str y v=>exact RcNeAt.list_str y v sa u0
  |tuple e1 e2 e3 e4=>exact RcNeAt.list_tuple sa ⟨_,e1,e2,_,e3⟩ u0
  |@list lb ob ws nb ys fb e1 e2 e3 e4=>
   have sb:s.heap.IsList lb ws:=⟨ob,e1,e2,nb,e3⟩;have z1:us.size=xs.length:=by simpa using pC xs _ _ c4
   have z2:ws.size=ys.length:=by simpa using pC ys _ _ e4
   have pr:=items_eqAt c4 e4 ha hb (room_in hu);show RcNeAt A s (.ref la) (.ref lb) (!cX xs ys);by_cases z:us.size=ws.size
   ·rw[<-eqvAll_same_length (show xs.length=ys.length by lia),<-z1];exact RcNeAt.lists sa sb z u0 pr
   ·rw[eqvAll_other_length (show xs.length≠ys.length by lia)];exact RcNeAt.lists_lengths sa sb (bne_iff_ne.mpr z) u0
 |@tuple la oa us na xs fa c1 c2 c3 c4=>
  have sa:s.heap.IsTuple la us:=⟨oa,c1,c2,na,c3⟩;cases rb with
  |dict=>exact nomatch hb
  |none=>exact RcNeAt.tuple_none sa u0
  |bool y=>exact RcNeAt.tuple_bool y sa u0
  |int y v=>exact RcNeAt.tuple_int y v sa u0
  |str y v=>exact RcNeAt.tuple_str y v sa u0
  |list e1 e2 e3 e4=>exact RcNeAt.tuple_list sa ⟨_,e1,e2,_,e3⟩ u0
  |@tuple lb ob ws nb ys fb e1 e2 e3 e4=>
   have sb:s.heap.IsTuple lb ws:=⟨ob,e1,e2,nb,e3⟩;have z1:us.size=xs.length:=by simpa using pC xs _ _ c4
   have z2:ws.size=ys.length:=by simpa using pC ys _ _ e4
   have pr:=items_eqAt c4 e4 ha hb (room_in hu);show RcNeAt A s (.ref la) (.ref lb) (!cX xs ys);rw[<-eqvAll_eq xs ys,<-z1,<-z2];exact RcNeAt.tuples sa sb u0 pr
mutual
theorem Den.reads{X:Cx}{pins:List (aw×fm)}{Y:St}{H:Hp}{s:aj}(I:Inv X pins Y H s):∀(d:be) {v:V} {u:ai},d.canLay0=fx->Den X.K H v d->RelV v u->∃as,Reads s.heap u d as
 |.none,v,u,_,q,r=>by
  cases q.none_inv
  cases (show u=bZ from r)
  exact⟨_,.none⟩
 |.bool b,v,u,_,q,r=>by
  cases q.bool_inv
  cases (show u=jx b from r)
  exact⟨_,.bool b⟩
 |.int i,v,u,_,q,r=>by
  cases q.int_inv
  obtain⟨t,rfl⟩:=r;exact⟨_,.int i t⟩
 |.str x,v,u,_,q,r=>by
  cases q.str_inv
  obtain⟨t,rfl⟩:=r;exact⟨_,.str x t⟩
 |.list ds,v,u,hl,q,r=>by
  obtain⟨a,xs,rfl,h1,h2⟩:=q.list_inv;cases (show u=aS a from r)
  obtain⟨z,cP,n,rv,e⟩:=h1.ok I;obtain⟨as,ra⟩:=DenAll.reads I ds hl h2 rv;exact⟨_,.list e rfl rfl (by simpa using ra)⟩
 |.tuple ds,v,u,hl,q,r=>by
  obtain⟨a,xs,rfl,h1,h2⟩:=q.tup_inv;cases (show u=aS a from r)
  obtain⟨cP,rv,⟨o,e,c,n,d⟩,_⟩:=I.tuple h1;obtain⟨as,ra⟩:=DenAll.reads I ds hl h2 rv;exact⟨_,.tuple e c d (by simpa using ra)⟩
 |.dict _,_,_,hl,_,_=>nomatch hl
theorem DenAll.reads{X:Cx}{pins:List (aw×fm)}{Y:St}{H:Hp}{s:aj}(I:Inv X pins Y H s):∀(ds:List be) {xs:List V} {us:List ai},aU ds=fx->DenAll X.K H xs ds->Vals xs us->∃as,jH s.heap us ds as
 |[],xs,us,_,q,r=>by
  cases q.nil_inv
  cases r
  exact⟨_,.nil⟩
 |d::ds,xs,us,hl,q,r=>by
  have qd:d.canLay0=fx/\aU ds=fx:=by simpa[aU]using hl
  obtain⟨v,rs,rfl,h1,h2⟩:=q.cons_inv;cases r with
  |cons r1 r2=>
   obtain⟨as,ra⟩:=Den.reads I d qd.1 h1 r1;obtain⟨bs,rb⟩:=DenAll.reads I ds qd.2 h2 r2;exact⟨_,.cons ra rb⟩
end
def OpS(X:Cx)(f:ai->ai->Sem ai)(g:D->D->Option D):Prop:=
 ∃r,OpR X f r/\∀(x y:V) (H:Hp) (a b d:D) (Q:VK),Den X.K H x a->Den X.K H y b->g a b=cz d->(∀v,imm d=fx->(∀H',Den X.K H' v d)->Q v H)->r x y H Q
def a6i(X:Cx)(f:ai)(g:List D->Option D):Prop:=
 ∃r,CallR X f r/\∀(xs:List V) (H:Hp) (ds:List D) (d:D) (Q:VK),DenAll X.K H xs ds->g ds=cz d->(∀v,imm d=fx->(∀H',Den X.K H' v d)->Q v H)->r xs H Q
def d2I(p:Int->Int->Bool)(g:Int->Int->D):D->D->Option D
 |.int a,.int b=>if p a b then cz (g a b) else el
 |_,_=>el
def a2C(h:d2I p g a b=cz d):∃i j,a=.int i/\b=.int j/\p i j=fx/\d=g i j:=by
 cases a with
 |int i=>
  cases b with
  |int j=>
   have h':(if p i j=fx then cz (g i j) else el)=cz d:=h;by_cases c:p i j=fx
   ·rw[aJ c]at h';exact⟨i,j,rfl,rfl,c,(aK h').symm⟩
   ·rw[aN c]at h';cases h'
  |_=>cases h
 |_=>cases h
def pT:Int->Int->Bool:=λ_ _=>fx
abbrev y7:D->D->Option D:=d2I pT λa b=>.int (a+b)
abbrev a3S:D->D->Option D:=d2I pT λa b=>.int (a-b)
def b0q(a b:Int):Bool:=decide (a.natAbs<2^64)||decide (b.natAbs<2^64)
abbrev L9:D->D->Option D:=d2I b0q λa b=>.int (a*b)
def b8p(_ b:Int):Bool:=decide (0<b)
abbrev A9:D->D->Option D:=d2I b8p λa b=>.int (a % b)
def b5q(_ b:Int):Bool:=decide (0<b)&&decide (b<1073741824)
abbrev V5:D->D->Option D:=d2I b5q λa b=>.int (a / b)
def b5r(a b:Int):Bool:=decide (0<=b)&&decide (b<=1000000)&&decide (a.natAbs<2^64)
abbrev a2D:D->D->Option D:=d2I b5r λa b=>.int (a^b.toNat)
abbrev dLt:D->D->Option D:=d2I pT λa b=>.bool (decide (a<b))
abbrev dLe:D->D->Option D:=d2I pT λa b=>.bool (decide (a<=b))
abbrev dGt:D->D->Option D:=d2I pT λa b=>.bool (decide (b<a))
abbrev dGe:D->D->Option D:=d2I pT λa b=>.bool (decide (b<=a))
def b0r(neg:Bool)(a b:D):Option D:=if a.canLay0&&b.canLay0&&decide (a.depth<=450) then cz (.bool (neg !=aH a b)) else el
abbrev dEq:D->D->Option D:=b0r p4
abbrev dNe:D->D->Option D:=b0r fx
def isN:D->Bool
 |.none=>fx
 |_=>p4
def J8(neg:Bool)(a b:D):Option D:=if isN b then cz (.bool (neg !=isN a)) else el
def c2q(neg:Bool):D->D->Option D
 |.bool a,.bool b=>cz (.bool (neg !=(a==b)))
 |_,_=>el
section
variable {X:Cx}
def b5s{f:ai->ai->Sem ai}{C:Int->Int->Prop}{p:Int->Int->Bool}{g:Int->Int->Int}(ho:OpR X f (rI C λi j=>.int (g i j)))(hp:∀i j,p i j=fx->C i j):OpS X f (d2I p λa b=>.int (g a b)):=by
 refine⟨_,ho,λx y H a b d Q ha hb hg q=>?_⟩;obtain⟨i,j,rfl,rfl,c,rfl⟩:=a2C hg;exact⟨i,j,ha.int_inv,hb.int_inv,hp i j c,q _ (by simp only[imm]) λ_=>den_int⟩
def b6Z{f:ai->ai->Sem ai}{g:Int->Int->Int}(ho:OpR X f (rI0 λi j=>.int (g i j))):OpS X f (d2I pT λa b=>.int (g a b)):=by
 refine⟨_,ho,λx y H a b d Q ha hb hg q=>?_⟩;obtain⟨i,j,rfl,rfl,c,rfl⟩:=a2C hg;exact⟨i,j,ha.int_inv,hb.int_inv,q _ (by simp only[imm]) λ_=>den_int⟩
def b2l{f:ai->ai->Sem ai}{g:Int->Int->Bool}(ho:OpR X f (rI0 λi j=>.bl (g i j))):OpS X f (d2I pT λa b=>.bool (g a b)):=by
 refine⟨_,ho,λx y H a b d Q ha hb hg q=>?_⟩;obtain⟨i,j,rfl,rfl,c,rfl⟩:=a2C hg;exact⟨i,j,ha.int_inv,hb.int_inv,q _ (by simp only[imm]) λ_=>den_bool⟩
def z7:OpS X (eF .Add) y7:=b6Z b8a
def W4:OpS X (eF .Sub) a3S:=b6Z b8b
def L5:OpS X (eF .Mult) L9:=b5s b8c λi j h=>by
 unfold b0q at h;rw[ig]at h;rcases h with h|h
 ·have:=aX h;exact .inl ⟨by lia,by lia⟩
 ·have:=aX h;exact .inr ⟨by lia,by lia⟩
def u4:OpS X (eF .Mod) A9:=b5s b8d λi j h=>aX h
def L6:OpS X (eF .FloorDiv) V5:=b5s b5a λi j h=>by
 unfold b5q at h;rw[av]at h;exact⟨aX h.1,aX h.2⟩
def a1k:OpS X (eF .Pow) a2D:=b5s b8e λi j h=>by
 unfold b5r at h;rw[av,av]at h;exact⟨aX h.1.1,aX h.1.2,aX h.2⟩
def a4o:OpS X (bO .Lt) dLt:=b2l c0t
def a6j:OpS X (bO .LtE) dLe:=b2l c0u
def c0C:OpS X (bO .Gt) dGt:=b2l c0v
def b8q(K:af)(neg:Bool):R2:=λx y H Q=>∃d e,Den K H x d/\Den K H y e/\d.canLay0=fx/\e.canLay0=fx/\d.depth<=450/\Q (.bl (neg !=aH d e)) H
def b2m(hu:X.A.units+464<cU):OpR X (bO .Eq) (b8q X.K p4):=by
 intro pins s Y H x y v u Q I rx ry h;obtain⟨d,e,h1,h2,c1,c2,hd,q⟩:=h;obtain⟨as,ra⟩:=Den.reads I d c1 h1 rx;obtain⟨bs,rb⟩:=Den.reads I e c2 h2 ry;refine SeqAt.compareEq_reads ra rb c1 c2 (by have:=pU d.depth e.depth;lia) ?_;exact⟨.bl _,H,I,rfl,by simpa using q⟩
def b2n(hu:X.A.units+464<cU):OpR X (bO .NotEq) (b8q X.K fx):=by
 intro pins s Y H x y v u Q I rx ry h;obtain⟨d,e,h1,h2,c1,c2,hd,q⟩:=h;obtain⟨as,ra⟩:=Den.reads I d c1 h1 rx;obtain⟨bs,rb⟩:=Den.reads I e c2 h2 ry;refine a7J ra rb c1 c2 (by have:=pU d.depth e.depth;lia) _ _ _ _ ?_;exact⟨.bl _,H,I,rfl,by simpa using q⟩
def b2o(ho:OpR X f (b8q X.K neg)):OpS X f (b0r neg):=by
 refine⟨_,ho,λx y H a b d Q ha hb hg q=>?_⟩;unfold b0r at hg;by_cases c:(a.canLay0&&b.canLay0&&decide (a.depth<=450))=fx
 ·rw[aJ c]at hg;cases hg
  rw[av,av]at c;exact⟨a,b,ha,hb,c.1.1,c.1.2,aX c.2,q _ (by simp only[imm]) λ_=>den_bool⟩
 ·rw[aN c]at hg;cases hg
def os_eq(hu:X.A.units+464<cU):OpS X (bO .Eq) dEq:=b2o (b2m hu)
def c0D(hu:X.A.units+464<cU):OpS X (bO .NotEq) dNe:=b2o (b2n hu)
def a5p(h:Den K H x a):decide (x=V.non)=isN a:=by
 cases a with
 |none=>rw[h.none_inv];rfl
 |bool b=>rw[h.bool_inv];rfl
 |int b=>rw[h.int_inv];rfl
 |str b=>rw[h.str_inv];rfl
 |list ds=>obtain⟨a,xs,rfl,_⟩:=h.list_inv;rfl
 |tuple ds=>obtain⟨a,xs,rfl,_⟩:=h.tup_inv;rfl
 |dict kvs=>
  obtain⟨a,es,rfl,_⟩:=h.dict_inv;rfl
def a1l:OpS X (bO .Is) (J8 p4):=by
 refine⟨_,b8g,λx y H a b d Q ha hb hg q=>?_⟩;unfold J8 at hg;by_cases c:isN b=fx
 ·rw[aJ c]at hg;cases hg
  have e:=a5p hb;rw[c]at e;refine⟨aX e,?_⟩;rw[a5p ha];have:=q (.bl (p4 !=isN a)) (by simp only[imm]) λ_=>den_bool
  simpa using this
 ·rw[aN c]at hg;cases hg
def a5q:OpS X (bO .IsNot) (J8 fx):=by
 refine⟨_,b5b,λx y H a b d Q ha hb hg q=>?_⟩;unfold J8 at hg;by_cases c:isN b=fx
 ·rw[aJ c]at hg;cases hg
  have e:=a5p hb;rw[c]at e;refine⟨aX e,?_⟩;rw[a5p ha];have:=q (.bl (fx !=isN a)) (by simp only[imm]) λ_=>den_bool
  simpa using this
 ·rw[aN c]at hg;cases hg
end
inductive Md where
 |dead|own (u:Ty)|exc|keys (kt:Bool)|pin (v:V)|fn (Φ:Hp->V->Prop)
def ExcAt(a C:aw):HO:=.ext λh=>∃o,h.get? a=cz o/\o.cls=.ref C
def SlotR(K:af)(H:Hp)(F:List aw)(m:Md)(o:Option V)(d:D)(f:List aw):Prop:=
 match m with
 |.dead=>f=[]
 |.own u=>∃v,o=cz v/\Own K H F u v d f
 |.exc=>f=[]/\∃v,o=cz v/\((v=.non/\d=.none)\/∃a C n,v=.ref a/\d=.str n/\cut H F a=cz (ExcAt a C)/\bN K ba n=cz (cz (.ref C)))
 |.keys kt=>f=[]/\∃a es kvs,o=cz (.ref a)/\d=.dict kvs/\cut H F a=cz (c9 a es)/\es.map (·.1)=kvs.map (·.1)/\∀e∈es,keyOk kt e.1/\Den K (cut H F) e.2.1 e.1
 |.pin v=>f=[]/\o=cz v
 |.fn Φ=>f=[]/\∃v,o=cz v/\∀H',Same (cut H F) H'->Φ H' v
def StAll(K:af)(H:Hp)(F:List aw):List Md->List D->L2.St->List aw->Prop
 |[],U,Y,fp=>U=[]/\Y=[]/\fp=[]
 |m::M,U,Y,fp=>∃d U' o Y' f g,U=d::U'/\Y=o::Y'/\fp=f++g/\SlotR K H F m o d f/\StAll K H F M U' Y' g
section
variable {K:af}{H H':Hp}{F F':List aw}
theorem SlotR.frame(h:SlotR K H F m o d f)(e:Same (cut H F) (cut H' F'))(k:∀a∈f,H' a=H a):SlotR K H' F' m o d f:=by
 cases m with
 |dead=>exact h
 |own u=>
  obtain⟨v,rfl,h⟩:=h;exact⟨v,rfl,h.frame e u k⟩
 |exc=>
  obtain⟨h0,v,h1,h2⟩:=h;refine⟨h0,v,h1,h2.imp (λz=>z) λ⟨a,C,n,z1,z2,z3,z4⟩=>⟨a,C,n,z1,z2,e _ _ z3,z4⟩⟩
 |keys kt=>
  obtain⟨h0,a,es,kvs,h1,h2,h3,h4,h5⟩:=h;exact⟨h0,a,es,kvs,h1,h2,e _ _ h3,h4,λx hx=>⟨(h5 x hx).1,(h5 x hx).2.up e⟩⟩
 |pin v=>exact h
 |fn Φ=>obtain⟨h0,v,h1,h2⟩:=h;exact⟨h0,v,h1,λH2 e2=>h2 H2 (e.trans e2)⟩
def l9(h:SlotR K H F m o d f)(q:StAll K H F M U Y g):StAll K H F (m::M) (d::U) (o::Y) (f++g):=by
 simp only[StAll];exact⟨d,U,o,Y,f,g,rfl,rfl,rfl,h,q⟩
def N1:StAll K H F [] [] [] []:=by simp only[StAll];exact⟨trivial,trivial,trivial⟩
theorem StAll.frame:∀{M:List Md} {U:List D} {Y:L2.St} {fp:List aw},StAll K H F M U Y fp->Same (cut H F) (cut H' F')->(∀a∈fp,H' a=H a)->StAll K H' F' M U Y fp
 |[],_,_,_,h,_,_=>by simpa only [StAll]using h
 |m::M,_,_,_,h,e,k=>by
  simp only[StAll]at h;obtain⟨d,U,o,Y,f,g,rfl,rfl,rfl,h1,h2⟩:=h;exact l9 (h1.frame e λa ha=>k a (aM _ ha)) (StAll.frame h2 e λa ha=>k a (ax _ ha))
theorem StAll.len:∀{M:List Md} {U:List D} {Y:L2.St} {fp:List aw},StAll K H F M U Y fp->U.length=M.length/\Y.length=M.length
 |[],_,_,_,h=>by simp only[StAll]at h;obtain⟨rfl,rfl,_⟩:=h;exact⟨rfl,rfl⟩
 |m::M,_,_,_,h=>by
  simp only[StAll]at h;obtain⟨d,U,o,Y,f,g,rfl,rfl,rfl,_,h2⟩:=h;obtain⟨a,b⟩:=StAll.len h2;exact⟨by rw[bu,bu,a],by rw[bu,bu,b]⟩
theorem StAll.at_:∀{M:List Md} {U:List D} {Y:L2.St} {fp:List aw} {i:Nat} {m:Md},StAll K H F M U Y fp->M[i]?=cz m->
  ∃d o f pre post,U[i]?=cz d/\Y[i]?=cz o/\SlotR K H F m o d f/\fp=pre++(f++post)/\
   ∀(H':Hp) (F':List aw) (m':Md) (d':D) (o':Option V) (f':List aw),(∀a∈pre++post,H' a=H a)->Same (cut H F) (cut H' F')->SlotR K H' F' m' o' d' f'->
    StAll K H' F' (M.set i m') (U.set i d') (Y.set i o') (pre++(f'++post))
 |[],_,_,_,i,m,_,e=>by simp at e
 |m0::M,_,_,_,0,m,h,e=>by
  simp only[StAll]at h;obtain⟨d,U,o,Y,f,g,rfl,rfl,rfl,h1,h2⟩:=h;have:m0=m:=by simpa using e
  subst this;refine⟨d,o,f,[],g,rfl,rfl,h1,rfl,λH' F' m' d' o' f' k e' s=>?_⟩;show StAll K H' F' (m'::M) (d'::U) (o'::Y) (f'++g);exact l9 s (h2.frame e' k)
 |m0::M,_,_,_,i+1,m,h,e=>by
  simp only[StAll]at h;obtain⟨d,U,o,Y,f,g,rfl,rfl,rfl,h1,h2⟩:=h;obtain⟨d1,o1,f1,pre,post,e1,e2,e3,e4,e5⟩:=StAll.at_ (i:=i) h2 (by simpa using e);subst e4;refine⟨d1,o1,f1,f++pre,post,by simpa using e1,by simpa using e2,e3,by rw[bw],λH' F' m' d' o' f' k e' s=>?_⟩;rw[bw];refine l9 (h1.frame e' λa ha=>k a ?_) (e5 H' F' m' d' o' f' (λa ha=>k a ?_) e' s)
  ·rw[bw];exact aM _ ha
  ·rw[bw];exact ax _ ha
end
structure StE (K:af) (M:List Md) (U:List D) (Y:L2.St) (H P:Hp) (F:List aw):Prop where
 all:∃G,StAll K H F M U Y G/\∀a∈G,a∈F
 lst:∀a∈F,∃ys:MuO,H a=cz ys.1
 prot:Same P (cut H F)
structure StR (K:af) (M:List Md) (U:List D) (Y:L2.St) (H P:Hp) (F:List aw):Prop where
 all:∃G,StAll K H F M U Y G/\G.Nodup/\∀a∈G,a∈F
 lst:∀a∈F,∃ys:MuO,H a=cz ys.1
 prot:Same P (cut H F)
section
variable {K:af}{M:List Md}{U:List D}{Y:L2.St}{H H' P:Hp}{F:List aw}
def StR.toE(h:StR K M U Y H P F):StE K M U Y H P F:=⟨let⟨G,a,_,b⟩:=h.all;⟨G,a,b⟩,h.lst,h.prot⟩
def StE.keep(h:StE K M U Y H P F)(e:Same H H'):∀a∈F,H' a=H a:=λa ha=>by
 obtain⟨ys,q⟩:=h.lst a ha;rw[q,e _ _ q]
def StE.lst'(h:StE K M U Y H P F)(e:Same H H'):∀a∈F,∃ys:MuO,H' a=cz ys.1:=λa ha=>by
 obtain⟨ys,q⟩:=h.lst a ha;exact⟨ys,e _ _ q⟩
def a0v(e:Same H H')(hf:∀a∈fp,H a=el):Same (cut H F) (cut H' (fp++F)):=K7 e λa o ha kN=>by
 rcases aC.mp kN with z|z
 ·rw[hf a z]at ha;cases ha
 ·exact z
def StE.more(h:StE K M U Y H P F)(e:Same H H')(hf:∀a∈fp,H a=el)(hl:∀a∈fp,∃ys:MuO,H' a=cz ys.1):StE K M U Y H' P (fp++F):=by
 obtain⟨G,h1,h3⟩:=h.all;have hc:Same (cut H F) (cut H' (fp++F)):=a0v e hf;refine⟨⟨G,h1.frame hc λa ha=>h.keep e a (h3 a ha),λa ha=>ax _ (h3 a ha)⟩,λa ha=>?_,h.prot.trans hc⟩;rcases aC.mp ha with z|z
 ·exact hl a z
 ·exact h.lst' e a z
def StE.grow(h:StE K M U Y H P F)(e:Same H H'):StE K M U Y H' P F:=h.more (fp:=[]) e (λa ha=>(nomatch ha)) λa ha=>(nomatch ha)
theorem StR.more(h:StR K M U Y H P F)(e:Same H H')(hf:∀a∈fp,H a=el)(hl:∀a∈fp,∃ys:MuO,H' a=cz ys.1):StR K M U Y H' P (fp++F):=by
 obtain⟨G,h1,h2,h3⟩:=h.all;have S:=h.toE.more e hf hl;exact⟨⟨G,h1.frame (a0v e hf) λa ha=>h.toE.keep e a (h3 a ha),h2,λa ha=>ax _ (h3 a ha)⟩,S.lst,S.prot⟩
def StR.grow(h:StR K M U Y H P F)(e:Same H H'):StR K M U Y H' P F:=h.more (fp:=[]) e (λa ha=>(nomatch ha)) λa ha=>(nomatch ha)
def y9(h:U[i]?=cz d):U.getD i x=d:=by rw[aW,h];rfl
def StE.get(h:StE K M U Y H P F)(hm:M[i]?=cz (.own u)):∃v f,Y[i]?=cz (cz v)/\Own K H F u v (U.getD i .none) f/\∀a∈f,a∈F:=by
 obtain⟨G,h1,h3⟩:=h.all;obtain⟨d,o,f,pre,post,e1,e2,⟨v,rfl,q⟩,e4,_⟩:=h1.at_ hm;refine⟨v,f,e2,by rw[y9 e1];exact q,λa ha=>h3 a ?_⟩;rw[e4];exact ax _ (aM _ ha)
theorem StAll.pick(h:StAll K H F M U Y G)(hG:∀a∈G,a∈F):∀js:List Nat,∃G',StAll K H F (js.map λj=>M.getD j .dead) (js.map λj=>U.getD j .none) (js.map λj=>(Y[j]?).getD el) G'/\∀a∈G',a∈F
 |[]=>⟨[],N1,λa ha=>(nomatch ha)⟩
 |j::js=>by
  obtain⟨G',q,hq⟩:=StAll.pick h hG js;cases e:M[j]? with
  |none=>
   refine⟨[]++G',?_,λa ha=>hq a (by simpa using ha)⟩;have:M.getD j .dead=.dead:=by rw[aW,e];rfl
   rw[aA,aA,aA,this];exact l9 rfl q
  |some m=>
   obtain⟨d,o,f,pre,post,e1,e2,e3,e4,_⟩:=h.at_ e;refine⟨f++G',?_,λa ha=>?_⟩
   ·rw[aA,aA,aA,show M.getD j .dead=m by rw[aW,e];rfl,y9 e1,e2];exact l9 e3 q
   ·rcases aC.mp ha with z|z
    ·exact hG a (by rw[e4];exact ax _ (aM _ z))
    ·exact hq a z
def N2{pre f post:List aw}(h:(pre++(f++post)).Nodup):(pre++post).Nodup:=
 h.sublist (List.Sublist.append (Df _) (List.sublist_append_right _ _))
def mem_mid{pre f post:List aw}{a:aw}(h:a∈pre++post):a∈pre++(f++post):=by
 rcases aC.mp h with h|h
 ·exact aM _ h
 ·exact ax _ (ax _ h)
def a1m{pre f post:List aw}(h:(pre++post).Nodup)(hf:f.Nodup)(d:∀a∈f,a∉pre++post):(pre++(f++post)).Nodup:=by
 rw[bo]at h ⊢;obtain⟨h1,h2,h3⟩:=h;refine⟨h1,?_,λa ha b hb=>?_⟩
 ·rw[bo];exact⟨hf,h2,λa ha b hb e=>d a ha (e▸ax _ hb)⟩
 ·rcases aC.mp hb with z|z
  ·intro e;exact d b z (e▸aM _ ha)
  ·exact h3 a ha b z
def a5r{pre f post:List aw}{a:aw}(h:a∈pre++(f++post)):a∈f\/a∈pre++post:=by
 rcases aC.mp h with h|h
 ·exact .inr (aM _ h)
 ·rcases aC.mp h with h|h
  ·exact .inl h
  ·exact .inr (ax _ h)
def a4p{pre f post:List aw}(h:(pre++(f++post)).Nodup):∀a∈f,a∉pre++post:=λa ha z=>by
 rw[bo,bo]at h;rcases aC.mp z with z|z
 ·exact h.2.2 a z a (aM _ ha) rfl
 ·exact h.2.1.2.2 a ha a z rfl
theorem StR.set{H1:Hp}{i:Nat}{m:Md}{u:Ty}{v:V}{d:D}{fp:List aw}(h:StR K M U Y H P F)(hm:M[i]?=cz m)(e:Same H H1)(hv:Own K H1 (fp++F) u v d fp)(hn:fp.Nodup)(hf:∀a∈fp,H a=el) :
  StR K (M.set i (.own u)) (U.set i d) (Y.set i (cz v)) H1 P (fp++F):=by
 obtain⟨G,h1,h2,h3⟩:=h.all;have S:=h.more e hf (hv.lst u);obtain⟨d0,o,f,pre,post,e1,e2,e3,e4,e5⟩:=h1.at_ hm;have ja:=h2;rw[e4]at ja;have hG:∀a∈pre++post,a∈F:=λa ha=>h3 a (by rw[e4];exact mem_mid ha)
 have hc:Same (cut H F) (cut H1 (fp++F)):=K7 e λa o ha kN=>by
  rcases aC.mp kN with z|z
  ·rw[hf a z]at ha;cases ha
  ·exact z
 refine⟨⟨pre++(fp++post),e5 H1 _ (.own u) d (cz v) fp (λa ha=>h.toE.keep e a (hG a ha)) hc ⟨v,rfl,hv⟩,a1m (N2 ja) hn λa ha z=>?_,λa ha=>?_⟩,S.lst,S.prot⟩
 ·obtain⟨ys,q⟩:=h.lst a (hG a z);rw[hf a ha]at q;cases q
 ·rcases a5r ha with z|z
  ·exact aM _ z
  ·exact ax _ (hG a z)
def StR.kill{i:Nat}{m:Md}(h:StR K M U Y H P F)(hm:M[i]?=cz m)(d:D)(o:Option V):StR K (M.set i .dead) (U.set i d) (Y.set i o) H P F:=by
 obtain⟨G,h1,h2,h3⟩:=h.all;obtain⟨d0,o0,f,pre,post,e1,e2,e3,e4,e5⟩:=h1.at_ hm;rw[e4]at h2;exact⟨⟨pre++([]++post),e5 H F .dead d o [] (λ_ _=>rfl) (Same.refl _) rfl,N2 h2,λa ha=>h3 a (by rw[e4];exact mem_mid ha)⟩,h.lst,h.prot⟩
def set_same{α:Type}{l:List α}{i:Nat}{x:α}(h:l[i]?=cz x):l.set i x=l:=nZ λj=>by
 rw[List.getElem?_set]
 split
 ·next hj=>
  subst hj
  split
  ·exact h.symm
  ·next hh=>exact (eh (by lia)).symm
 ·rfl
theorem StR.dead{i:Nat}{m:Md}(h:StR K M U Y H P F)(hm:M[i]?=cz m):StR K (M.set i .dead) U Y H P F:=by
 obtain⟨G,h1,_⟩:=h.all;obtain⟨d0,o0,f,pre,post,e1,e2,_⟩:=h1.at_ hm;have:=h.kill hm d0 o0
 rwa[set_same e1,set_same e2]at this
def Own.freeze(h:Own K H F u v d fp)(hs:∀a∈F',a∈F)(hd:∀a∈fp,a∉F'):Own K H F' .f v d []:=by
 have key:∀(u:Ty) {v:V} {d:D} {fp:List aw},Own K H F u v d fp->(∀a∈fp,a∉F')->Den K (cut H F') v d:=by
  intro u;refine Ty.rec (motive_1:=λu=>∀{v:V} {d:D} {fp:List aw},Own K H F u v d fp->(∀a∈fp,a∉F')->Den K (cut H F') v d)
   (motive_2:=λus=>∀{xs:List V} {ds:List D} {fp:List aw},OwnTs K H F us xs ds fp->(∀a∈fp,a∉F')->DenAll K (cut H F') xs ds) ?_ ?_ ?_ ?_ ?_ ?_ ?_ u
  ·intro v d fp h _;simp only[Own]at h;exact h.2.2.up (D5 hs)
  ·intro v d fp h _;simp only[Own]at h;exact h.2.up (D5 hs)
  ·intro u ih v d fp h hd;simp only[Own]at h;rcases h with⟨_,_,h⟩|⟨a,xs,ds,fs,rfl,h1,rfl,rfl,h2⟩
   ·exact h.up (D5 hs)
   ·refine den_list (.inl (.inl (k6 (hd a ar) h1))) (ListAll.den (R:=λv d f=>Own K H F u v d f/\∀a∈f,a∉F') (λv d f q=>ih q.1 q.2) (h2.imp λv d f hf _ q=>⟨q,λb hb=>hd b (au _ (hf b hb))⟩))
  ·intro us ih v d fp h hd;simp only[Own]at h;rcases h with⟨_,_,h⟩|⟨a,xs,ds,rfl,h1,h0,rfl,h2⟩
   ·exact h.up (D5 hs)
   exact den_tup (SqT.of (k6 (λz=>h0 (hs a z)) h1)) (ih h2 hd)
  ·intro kt u ih v d fp h hd;simp only[Own]at h;obtain⟨a,es,ds,fs,rfl,h1,rfl,rfl,h3,h2⟩:=h;exact a1j (k6 (hd a ar) h1) (λe he=>(h3.2 e he).2.up (D5 hs)) (ListAll.den (R:=λv d f=>Own K H F u v d f/\∀a∈f,a∉F') (λv d f q=>ih q.1 q.2) (h2.imp λv d f hf _ q=>⟨q,λb hb=>hd b (au _ (hf b hb))⟩))
  ·intro xs ds fp h _;simp only[OwnTs]at h;obtain⟨rfl,rfl,_⟩:=h;exact denAll_nil
  ·intro u us En Em xs ds fp h hd;simp only[OwnTs]at h;obtain⟨v,r,d,e,f,g,rfl,rfl,rfl,h1,h2⟩:=h;exact denAll_cons (En h1 λa ha=>hd a (aM _ ha)) (Em h2 λa ha=>hd a (ax _ ha))
 simp only[Own];exact⟨trivial,key u h hd⟩
theorem StR.freeze{i:Nat}{u:Ty}(h:StR K M U Y H P F)(hm:M[i]?=cz (.own u)):∃F',StR K (M.set i (.own .f)) U Y H P F':=by
 obtain⟨G,h1,h2,h3⟩:=h.all;obtain⟨d,o,f,pre,post,e1,e2,⟨v,rfl,e3⟩,e4,e5⟩:=h1.at_ hm;rw[e4]at h2;have jt:∀a∈F.filter (λa=>decide (a∉f)),a∈F:=λa ha=>(bz.mp ha).1
 have ue:∀a∈f,a∉F.filter (λa=>decide (a∉f)):=λa ha z=>absurd ha (aX (bz.mp z).2)
 have hc:Same (cut H F) (cut H (F.filter (λa=>decide (a∉f)))):=D5 jt;have q:=e5 H _ (.own .f) d (cz v) [] (λ_ _=>rfl) hc ⟨v,rfl,e3.freeze jt ue⟩;rw[set_same e1,set_same e2]at q;refine⟨_,⟨_,q,N2 h2,λa ha=>bz.mpr ⟨h3 a (by rw[e4];exact mem_mid ha),aE λz=>a4p h2 a z ha⟩⟩,λa ha=>h.lst a (jt a ha),h.prot.trans hc⟩
end
inductive Cat where
 |new (u:Ty)|bor (u:Ty)|tmp
def ResR(K:af)(c:Cat)(H H':Hp)(F:List aw)(v:V)(d:D):Prop:=
 match c with
 |.new u=>∃fp,Own K H' (fp++F) u v d fp/\fp.Nodup/\∀a∈fp,H a=el
 |.bor u=>∃fp,Own K H' F u v d fp/\∀a∈fp,a∈F
 |.tmp=>Den K H' v d
section
variable {K:af}{c:Cat}{H H0 H' H1 H2:Hp}{F:List aw}{v:V}{d:D}
theorem ResR.den(r:ResR K c H H' F v d):Den K H' v d:=by
 cases c with
 |new u=>obtain⟨fp,h,_⟩:=r;exact h.den u
 |bor u=>obtain⟨fp,h,_⟩:=r;exact h.den u
 |tmp=>exact r
def Own.grow(h:Own K H1 F u v d fp)(e:Same H1 H2):Own K H2 F u v d fp:=
 h.frame (D4 e) u λa ha=>by obtain⟨ys,q⟩:=h.lst u a ha;rw[q,e _ _ q]
theorem ResR.up(r:ResR K c H H1 F v d)(e:Same H1 H2):ResR K c H H2 F v d:=by
 cases c with
 |new u=>obtain⟨fp,h,q⟩:=r;exact⟨fp,h.grow e,q⟩
 |bor u=>obtain⟨fp,h,q⟩:=r;exact⟨fp,h.grow e,q⟩
 |tmp=>exact Den.up r e
def ResR.early(r:ResR K c H H1 F v d)(e:Same H0 H):ResR K c H0 H1 F v d:=by
 cases c with
 |new u=>obtain⟨fp,h,n,q⟩:=r;exact⟨fp,h,n,λa ha=>e.free (q a ha)⟩
 |bor u=>exact r
 |tmp=>exact r
def B7(hi:imm d=fx)(hd:Den K H' v d)(hF:∀a∈F,∃ys:MuO,H' a=cz ys.1):ResR K (.new .i) H H' F v d:=by
 refine⟨[],?_,bg,λa ha=>(nomatch ha)⟩;simp only[Own,cj];exact⟨trivial,hi,hd.imm_out hF d hi⟩
def W5(h:Own K H F .i v d fp):fp=[]/\imm d=fx/\Den K (cut H F) v d:=by simpa only [Own]using h
def a9l(h:Own K H F .f v d fp):fp=[]/\Den K (cut H F) v d:=by simpa only [Own]using h
end
abbrev EvE:=List D->Option D
abbrev EvT:=List D->Option Bool
def spE(K:af)(M:List Md)(f:EvE)(c:Cat):TE:=λY H Q=>∃(U:List D) (P:Hp) (F:List aw) (d:D),StE K M U Y H P F/\f U=cz d/\∀v H',Same H H'->ResR K c H H' F v d->Q v H'
def PX(X:Cx)(M:List Md)(e:Expr)(f:EvE)(c:Cat):Prop:=PE X e (spE X.K M f c)
def PX.out{X:Cx}{M:List Md}{e:Expr}{f:EvE}{c:Cat}(h:PX X M e f c) :
  ∃t,PE X e t/\∀(U:List D) (Y:L2.St) (H P:Hp) (F:List aw) (d:D) (Q:VK),StE X.K M U Y H P F->f U=cz d->(∀v H',Same H H'->ResR X.K c H H' F v d->Q v H')->t Y H Q:=
 ⟨_,h,λU _ _ P F d _ S hf q=>⟨U,P,F,d,S,hf,q⟩⟩
def PX.mk{X:Cx}{M:List Md}{e:Expr}{f:EvE}{c:Cat}
  (h:∃t,PE X e t/\∀(U:List D) (Y:L2.St) (H P:Hp) (F:List aw) (d:D) (Q:VK),StE X.K M U Y H P F->f U=cz d->(∀v H',Same H H'->ResR X.K c H H' F v d->Q v H')->t Y H Q):PX X M e f c:=by
 obtain⟨t,p,q⟩:=h;exact λpins s Y H Q I ⟨U,P,F,d,S,hf,z⟩=>p pins s Y H Q I (q U Y H P F d Q S hf z)
def spT(K:af)(M:List Md)(g:EvT):TT:=λY H Q=>∃(U:List D) (P:Hp) (F:List aw) (b:Bool),StE K M U Y H P F/\g U=cz b/\∀H',Same H H'->Q b H'
def PTX(X:Cx)(M:List Md)(e:Expr)(g:EvT):Prop:=PT X e (spT X.K M g)
def PTX.out{X:Cx}{M:List Md}{e:Expr}{g:EvT}(h:PTX X M e g) :
  ∃t,PT X e t/\∀(U:List D) (Y:L2.St) (H P:Hp) (F:List aw) (b:Bool) (Q:Bool->Hp->Prop),StE X.K M U Y H P F->g U=cz b->(∀H',Same H H'->Q b H')->t Y H Q:=
 ⟨_,h,λU _ _ P F b _ S hf q=>⟨U,P,F,b,S,hf,q⟩⟩
def PTX.mk{X:Cx}{M:List Md}{e:Expr}{g:EvT}
  (h:∃t,PT X e t/\∀(U:List D) (Y:L2.St) (H P:Hp) (F:List aw) (b:Bool) (Q:Bool->Hp->Prop),StE X.K M U Y H P F->g U=cz b->(∀H',Same H H'->Q b H')->t Y H Q):PTX X M e g:=by
 obtain⟨t,p,q⟩:=h;exact λpins s Y H Q I ⟨U,P,F,d,S,hf,z⟩=>p pins s Y H Q I (q U Y H P F d Q S hf z)
def PWX(X:Cx)(M:List Md)(e:Expr)(g:EvT):Prop:=PW X e (spT X.K M g)
def PWX.out{X:Cx}{M:List Md}{e:Expr}{g:EvT}(h:PWX X M e g) :
  ∃t,PW X e t/\∀(U:List D) (Y:L2.St) (H P:Hp) (F:List aw) (b:Bool) (Q:Bool->Hp->Prop),StE X.K M U Y H P F->g U=cz b->(∀H',Same H H'->Q b H')->t Y H Q:=
 ⟨_,h,λU _ _ P F b _ S hf q=>⟨U,P,F,b,S,hf,q⟩⟩
def PWX.mk{X:Cx}{M:List Md}{e:Expr}{g:EvT}
  (h:∃t,PW X e t/\∀(U:List D) (Y:L2.St) (H P:Hp) (F:List aw) (b:Bool) (Q:Bool->Hp->Prop),StE X.K M U Y H P F->g U=cz b->(∀H',Same H H'->Q b H')->t Y H Q):PWX X M e g:=by
 obtain⟨t,p,q⟩:=h;exact λwhole pins s Y H Q I ⟨U,P,F,d,S,hf,z⟩=>p whole pins s Y H Q I (q U Y H P F d Q S hf z)
abbrev EvA:=List D->Option (List D)
def PAX(X:Cx)(M:List Md)(es:List Expr)(f:EvA):Prop:=
 ∃t,PA X es t/\∀(U:List D) (Y:L2.St) (H P:Hp) (F:List aw) (ds:List D) (Q:List V->Hp->Prop),StE X.K M U Y H P F->f U=cz ds->(∀vs H',Same H H'->DenAll X.K H' vs ds->Q vs H')->t Y H Q
def PAN(X:Cx)(M:List Md)(es:List Expr)(f:EvA)(us:List Ty):Prop:=
 ∃t,PA X es t/\∀(U:List D) (Y:L2.St) (H P:Hp) (F:List aw) (ds:List D) (Q:List V->Hp->Prop),StE X.K M U Y H P F->f U=cz ds->
  (∀vs H' fp,Same H H'->OwnTs X.K H' (fp++F) us vs ds fp->fp.Nodup->(∀a∈fp,H a=el)->Q vs H')->t Y H Q
noncomputable def b7(i:Nat):EvE:=λU=>cz (U.getD i .none)
noncomputable def eC(d:D):EvE:=λ_=>cz d
def e1(g:D->Option D)(a:EvE):EvE:=λU=>(a U).bind g
def e2(g:D->D->Option D)(a b:EvE):EvE:=λU=>(a U).bind λx=>(b U).bind λy=>g x y
def asB:D->Option Bool
 |.bool b=>cz b
 |_=>el
def a2E(a b:EvE):EvE:=λU=>(a U).bind λx=>(asB x).bind λk=>if k then b U else cz (.bool p4)
def eOr(a b:EvE):EvE:=λU=>(a U).bind λx=>(asB x).bind λk=>if k then cz (.bool fx) else b U
def b2p(a:EvE):EvE:=λU=>(a U).bind λx=>(asB x).bind λk=>cz (.bool !k)
def eIf(c:EvT)(a b:EvE):EvE:=λU=>(c U).bind λk=>if k then a U else b U
def eCh(g g':D->D->Option D)(a b c:EvE):EvE:=λU=>(a U).bind λx=>(b U).bind λy=>(g x y).bind λz=>(asB z).bind λk=>if k then (c U).bind λw=>g' y w else cz (.bool p4)
def tr:D->Option Bool
 |.none=>cz p4
 |.bool b=>cz b
 |.int i=>cz (i !=0)
 |.str x=>if x.length<=aQ then cz ((x.length:Int)!=0) else el
 |.list ds=>cz !ds.isEmpty
 |.tuple ds=>cz !ds.isEmpty
 |.dict _=>el
def tV(a:EvE):EvT:=λU=>(a U).bind tr
def tB(a:EvE):EvT:=λU=>(a U).bind asB
def tNo(a:EvT):EvT:=λU=>(a U).bind λk=>cz !k
def tAn(a b:EvT):EvT:=λU=>(a U).bind λk=>if k then b U else cz p4
def Z1(a b:EvT):EvT:=λU=>(a U).bind λk=>if k then cz fx else b U
def g8:List D->Option (List D):=λ_=>cz []
def b8(a:EvE)(r:List D->Option (List D)):List D->Option (List D):=λU=>(a U).bind λx=>(r U).bind λxs=>cz (x::xs)
def K8(h:asB d=cz k):d=.bool k:=by
 cases d with
 |bool b=>cases h;rfl
 |_=>cases h
def bnd{α β:Type}{o:Option α}{f:α->Option β}{b:β}(h:o.bind f=cz b):∃a,o=cz a/\f a=cz b:=tM.mp h
section
variable {X:Cx}{M:List Md}{a b e e':Expr}{es rest:List Expr}{f g fa fb fc:EvE}{ga gb:EvT}{c ca cb cc:Cat}{u:Ty}{us:List Ty}{pos:eA}
def PX.imp(h:PX X M e f c)(k:∀(K:af) (H H':Hp) (F:List aw) (v:V) (d:D),(∀a∈F,∃ys:MuO,H a=cz ys.1)->Same H H'->ResR K c H H' F v d->ResR K c' H H' F v d):PX X M e f c':=by
 obtain⟨t,p,q⟩:=h.out;exact .mk ⟨t,p,λU Y H P F d Q S hf z=>q U Y H P F d Q S hf λv H' e r=>z v H' e (k _ _ _ _ _ _ S.lst e r)⟩
def PX.newf(h:PX X M e f (.bor .f)):PX X M e f (.new .f):=h.imp λK H H' F v d _ _ ⟨fp,o,_⟩=>by
 obtain⟨rfl,_⟩:=a9l o;exact⟨[],o,bg,λa ha=>(nomatch ha)⟩
def PX.newi(h:PX X M e f (.bor .i)):PX X M e f (.new .i):=h.imp λK H H' F v d _ _ ⟨fp,o,_⟩=>by
 obtain⟨rfl,_⟩:=W5 o;exact⟨[],o,bg,λa ha=>(nomatch ha)⟩
def PX.itof(h:PX X M e f (.new .i)):PX X M e f (.new .f):=h.imp λK H H' F v d _ _ ⟨fp,o,n,z⟩=>by
 obtain⟨rfl,_,q⟩:=W5 o;refine⟨[],?_,n,z⟩;simp only[Own];exact⟨trivial,q⟩
def PX.itol(h:PX X M e f (.new .i)):PX X M e f (.new (.l u)):=h.imp λK H H' F v d _ _ ⟨fp,o,n,z⟩=>by
 obtain⟨rfl,w,q⟩:=W5 o;refine⟨[],?_,n,z⟩;simp only[Own];exact .inl ⟨trivial,w,q⟩
def PX.frz(h:PX X M e f (.new u)):PX X M e f (.new .f):=h.imp λK H H' F v d hF _ ⟨fp,o,n,z⟩=>by
 refine⟨[],o.freeze (λa ha=>ax _ (by simpa using ha)) (λa ha Gw=>?_),bg,λa ha=>(nomatch ha)⟩;obtain⟨ys,q⟩:=hF a (by simpa using Gw);rw[z a ha]at q;cases q
def a0h(i:Nat)(hN:X.N[i]?=cz x:=by rfl)(hv:autoParam (NmV X x) ZY._auto_1)(hm:M[i]?=cz (.own u):=by rfl):PX X M (.Name x pos) (b7 i) (.bor u):=by
 refine .mk ⟨_,A8 hN hv.1 hv.2.1 hv.2.2,λU Y H P F d Q S hf q=>?_⟩;cases hf
 obtain⟨v,fp,e,o,sub⟩:=S.get hm;exact⟨v,e,q v H (Same.refl _) ⟨fp,o,sub⟩⟩
def W6(h:PE X e (tC v))(hi:imm d=fx)(hd:∀H,Den X.K H v d):PX X M e (eC d) (.new .i):=by
 refine .mk ⟨_,h,λU Y H P F d' Q S hf q=>?_⟩;cases hf
 exact q v H (Same.refl _) (B7 hi (hd H) S.lst)
def c8{i j}:PX X M (.Constant (.int i) j pos) (eC (.int i)) (.new .i):=W6 b1K (by simp only[imm]) λ_=>den_int
def U8{k j}:PX X M (.Constant (.bool k) j pos) (eC (.bool k)) (.new .i):=W6 c0j (by simp only[imm]) λ_=>den_bool
def v9{j}:PX X M (.Constant .none j pos) (eC .none) (.new .i):=W6 b7K (by simp only[imm]) λ_=>den_none
def Q0{x j}:PX X M (.Constant (.str x) j pos) (eC (.str x)) (.new .i):=W6 b1L (by simp only[imm]) λ_=>den_str
def b5t(hm:∃t,X.mg x=cz (.int i t))(hg:Gl X x:=by rfl)(hd:(x==("__debug__":bt))=p4:=by decide):PX X M (.Name x pos) (eC (.int i)) (.new .i):=by
 obtain⟨t,hm⟩:=hm;exact W6 (a5h (v:=.int i) hg hm ⟨_,rfl⟩ hd) (by simp only[imm]) λ_=>den_int
def D7{g:D->D->Option D}{U:List D}{d:D}(h:e2 g fa fb U=cz d):∃x y,fa U=cz x/\fb U=cz y/\g x y=cz d:=by
 obtain⟨x,h1,h⟩:=bnd h;obtain⟨y,h2,h⟩:=bnd h;exact⟨x,y,h1,h2,h⟩
def j5{g:D->D->Option D}(ho:OpS X (eF op) g)(ha:PX X M a fa ca)(hb:PX X M b fb cb):PX X M (.BinOp a op b pos) (e2 g fa fb) (.new .i):=by
 obtain⟨r,hr,hs⟩:=ho;obtain⟨ta,pa,qa⟩:=ha.out;obtain⟨tb,pb,qb⟩:=hb.out;refine .mk ⟨_,b1V hr pa pb,λU Y H P F d Q S hf q=>?_⟩;obtain⟨x,y,h1,h2,h3⟩:=D7 hf;exact qa U Y H P F x _ S h1 λv H1 e1 r1=>qb U Y H1 P F y _ (S.grow e1) h2 λw H2 e2 r2=>hs v w H2 x y d Q (r1.den.up e2) r2.den h3 λz hi hd=>q z H2 (e1.trans e2) (B7 hi (hd H2) (S.lst' (e1.trans e2)))
def a5s{g:D->D->Option D}(ho:OpS X (bO op) g)(ha:PX X M a fa ca)(hb:PX X M b fb cb)(hm:autoParam (dP op b=p4) ZX._auto_1):PX X M (.Compare a [op] [b] pos) (e2 g fa fb) (.new .i):=by
 obtain⟨r,hr,hs⟩:=ho;obtain⟨ta,pa,qa⟩:=ha.out;obtain⟨tb,pb,qb⟩:=hb.out;refine .mk ⟨_,a9j hr pa pb hm,λU Y H P F d Q S hf q=>?_⟩;obtain⟨x,y,h1,h2,h3⟩:=D7 hf;exact qa U Y H P F x _ S h1 λv H1 e1 r1=>qb U Y H1 P F y _ (S.grow e1) h2 λw H2 e2 r2=>hs v w H2 x y d Q (r1.den.up e2) r2.den h3 λz hi hd=>q z H2 (e1.trans e2) (B7 hi (hd H2) (S.lst' (e1.trans e2)))
def l8{op:CmpOp}{g:D->D->Option D}(ho:OpS X (bO op) g)(ha:PX X M a fa ca)(hb:PX X M b fb cb)(hm:autoParam (dP op b=p4) ZX._auto_1):PTX X M (.Compare a [op] [b] pos) (tB (e2 g fa fb)):=by
 obtain⟨r,hr,hs⟩:=ho;obtain⟨ta,pa,qa⟩:=ha.out;obtain⟨tb,pb,qb⟩:=hb.out;refine .mk ⟨_,a2h hr pa pb hm,λU Y H P F k Q S hf q=>?_⟩;obtain⟨d,hf,hk⟩:=bnd hf;cases K8 hk
 obtain⟨x,y,h1,h2,h3⟩:=D7 hf;exact qa U Y H P F x _ S h1 λv H1 e1 r1=>qb U Y H1 P F y _ (S.grow e1) h2 λw H2 e2 r2=>hs v w H2 x y _ _ (r1.den.up e2) r2.den h3 λz hi hd=>⟨k,(hd H2).bool_inv,q H2 (e1.trans e2)⟩
def a6k{op pI:CmpOp}{g g':D->D->Option D}{c0:Expr}(ho:OpS X (bO op) g)(mV:OpS X (bO pI) g')(ha:PX X M a fa ca)(hb:PX X M b fb cb)(hc:PX X M c0 fc cc)(hm:Bm [op,pI] [b,c0]=p4:=by with_unfolding_all rfl) :
  PX X M (.Compare a [op,pI] [b,c0] pos) (eCh g g' fa fb fc) (.new .i):=by
 obtain⟨r,hr,hs⟩:=ho;obtain⟨r',wy,rA⟩:=mV;obtain⟨ta,pa,qa⟩:=ha.out;obtain⟨tb,pb,qb⟩:=hb.out;obtain⟨tc,pc,qc⟩:=hc.out;refine .mk ⟨_,b1Z hr wy pa pb pc hm,λU Y H P F d Q S hf q=>?_⟩;obtain⟨x,h1,hf⟩:=bnd hf;obtain⟨y,h2,hf⟩:=bnd hf;obtain⟨z,h3,hf⟩:=bnd hf;obtain⟨k,h4,hf⟩:=bnd hf;cases K8 h4
 refine qa U Y H P F x _ S h1 λv H1 e1 r1=>qb U Y H1 P F y _ (S.grow e1) h2 λw H2 e2 r2=>hs v w H2 x y _ _ (r1.den.up e2) r2.den h3 λz hi hd=>⟨k,(hd H2).bool_inv,?_⟩
 cases k with
 |false=>
  have jw:d=.bool p4:=(aK hf).symm;subst jw;exact a3Q (q _ H2 (e1.trans e2) (B7 (by simp only[imm]) den_bool (S.lst' (e1.trans e2))))
 |true=>
  obtain⟨w',h5,hf⟩:=bnd (show (fc U).bind (λw=>g' y w)=cz d from hf);exact a2z (qc U Y H2 P F w' _ (S.grow (e1.trans e2)) h5 λw3 H3 e3 r3=>rA w w3 H3 y w' d Q (r2.den.up e3) r3.den hf λz hi hd=>q z H3 ((e1.trans e2).trans e3) (B7 hi (hd H3) (S.lst' ((e1.trans e2).trans e3))))
def a4q{op pI:CmpOp}{g g':D->D->Option D}{c0:Expr}(ho:OpS X (bO op) g)(mV:OpS X (bO pI) g')(ha:PX X M a fa ca)(hb:PX X M b fb cb)(hc:PX X M c0 fc cc)(hm:Bm [op,pI] [b,c0]=p4:=by with_unfolding_all rfl) :
  PTX X M (.Compare a [op,pI] [b,c0] pos) (tB (eCh g g' fa fb fc)):=by
 obtain⟨r,hr,hs⟩:=ho;obtain⟨r',wy,rA⟩:=mV;obtain⟨ta,pa,qa⟩:=ha.out;obtain⟨tb,pb,qb⟩:=hb.out;obtain⟨tc,pc,qc⟩:=hc.out;refine .mk ⟨_,b2a hr wy pa pb pc hm,λU Y H P F k0 Q S hf q=>?_⟩;obtain⟨d,hf,hk⟩:=bnd hf;cases K8 hk
 obtain⟨x,h1,hf⟩:=bnd hf;obtain⟨y,h2,hf⟩:=bnd hf;obtain⟨z,h3,hf⟩:=bnd hf;obtain⟨k,h4,hf⟩:=bnd hf;cases K8 h4
 refine qa U Y H P F x _ S h1 λv H1 e1 r1=>qb U Y H1 P F y _ (S.grow e1) h2 λw H2 e2 r2=>hs v w H2 x y _ _ (r1.den.up e2) r2.den h3 λz hi hd=>⟨k,(hd H2).bool_inv,?_⟩
 cases k with
 |false=>
  have jw:k0=p4:=by injection (aK hf).symm
  subst jw;exact a3Q ⟨p4,rfl,q H2 (e1.trans e2)⟩
 |true=>
  obtain⟨w',h5,hf⟩:=bnd (show (fc U).bind (λw=>g' y w)=cz (.bool k0) from hf);exact a2z (qc U Y H2 P F w' _ (S.grow (e1.trans e2)) h5 λw3 H3 e3 r3=>rA w w3 H3 y w' _ _ (r2.den.up e3) r3.den hf λz hi hd=>⟨k0,(hd H3).bool_inv,q H3 ((e1.trans e2).trans e3)⟩)
def a1n(h:PX X M a f c):PX X M (.BoolOp op [a] pos) f c:=by
 obtain⟨t,p,q⟩:=h.out;exact .mk ⟨t,b7Q p,q⟩
def a0i(ha:PX X M a fa ca)(hb:PX X M (.BoolOp .And (b::rest) pos) fb (.new .i)):PX X M (.BoolOp .And (a::b::rest) pos) (a2E fa fb) (.new .i):=by
 obtain⟨ta,pa,qa⟩:=ha.out;obtain⟨tb,pb,qb⟩:=hb.out;refine .mk ⟨_,b7R pa pb,λU Y H P F d Q S hf q=>?_⟩;obtain⟨x,h1,hf⟩:=bnd hf;obtain⟨k,h2,hf⟩:=bnd hf;cases K8 h2
 refine qa U Y H P F _ _ S h1 λv H1 e1 r1=>⟨k,r1.den.bool_inv,?_⟩
 cases k with
 |false=>
  have jw:d=.bool p4:=(aK hf).symm;subst jw;exact a3Q (q _ H1 e1 (B7 (by simp only[imm]) den_bool (S.lst' e1)))
 |true=>exact a2z (qb U Y H1 P F d Q (S.grow e1) hf λw H2 e2 r2=>q w H2 (e1.trans e2) (r2.early e1))
def b2q(ha:PX X M a fa ca):PX X M (.UnaryOp .Not a pos) (b2p fa) (.new .i):=by
 obtain⟨ta,pa,qa⟩:=ha.out;refine .mk ⟨_,b7S pa,λU Y H P F d Q S hf q=>?_⟩;obtain⟨x,h1,hf⟩:=bnd hf;obtain⟨k,h2,hf⟩:=bnd hf;cases K8 h2
 cases hf
 exact qa U Y H P F _ _ S h1 λv H1 e1 r1=>⟨k,r1.den.bool_inv,q _ H1 e1 (B7 (by simp only[imm]) den_bool (S.lst' e1))⟩
def b8r:PX X M (.UnaryOp .USub (.Constant (.int i) j p) pos) (eC (.int (-i))) (.new .i):=by
 refine .mk ⟨_,c0r b8f b1K,λU Y H P F d Q S hf q=>?_⟩;cases hf
 exact⟨i,rfl,q _ H (Same.refl _) (B7 (by simp only[imm]) den_int S.lst)⟩
def b8s(h:Den K H v d)(ht:tr d=cz k):b8h K v H k:=by
 cases d with
 |none=>cases h.none_inv;cases ht;exact rfl
 |bool b=>cases h.bool_inv;cases ht;exact rfl
 |int i=>cases h.int_inv;cases ht;exact rfl
 |str x=>
  cases h.str_inv
  replace ht:(if x.length<=aQ then cz ((x.length:Int)!=0) else el)=cz k:=ht
  by_cases z:x.length<=aQ
  ·rw[aJ z]at ht;cases ht
   exact⟨z,rfl⟩
  ·rw[aN z]at ht;cases ht
 |list ds=>
  obtain⟨a,xs,rfl,h1,h2⟩:=h.list_inv;cases ht
  refine .inl ⟨xs,h1.l,?_⟩;have:=h2.length;cases xs<;>cases ds<;>simp_all
 |tuple ds=>
  obtain⟨a,xs,rfl,h1,h2⟩:=h.tup_inv;cases ht
  refine .inr (.inl ⟨xs,h1,?_⟩);have:=h2.length;cases xs<;>cases ds<;>simp_all
 |dict kvs=>cases ht
def r8(ha:PX X M a fa ca)(he:∀whole,rW a X.env whole=(do let v <-whole;standAt a.pos;om [v] (vA v)):=by intro _;rfl):PTX X M a (tV fa):=by
 obtain⟨ta,pa,qa⟩:=ha.out;refine .mk ⟨_,b2b pa he,λU Y H P F k Q S hf q=>?_⟩;obtain⟨x,h1,hf⟩:=bnd hf;exact qa U Y H P F _ _ S h1 λv H1 e1 r1=>⟨k,b8s r1.den hf,q H1 e1⟩
def A3(h:PTX X M a ga):PTX X M (.UnaryOp .Not a pos) (tNo ga):=by
 obtain⟨ta,pa,qa⟩:=h.out;refine .mk ⟨_,b7P pa,λU Y H P F k Q S hf q=>?_⟩;obtain⟨x,h1,hf⟩:=bnd hf;cases hf
 exact qa U Y H P F _ _ S h1 λH1 e1=>q H1 e1
theorem PWX.pt(h:PWX X M e ga):PTX X M e ga:=by
 obtain⟨t,p,q⟩:=h.out;exact .mk ⟨t,p.pt,q⟩
def a0w(h:PTX X M a ga):PWX X M (.BoolOp .And [a] pos) ga:=by
 obtain⟨t,p,q⟩:=h.out;exact .mk ⟨t,b4X p,q⟩
def a0x(h:PTX X M a ga):PWX X M (.BoolOp .Or [a] pos) ga:=by
 obtain⟨t,p,q⟩:=h.out;exact .mk ⟨t,b7N p,q⟩
def a2j(ha:PTX X M a ga)(hb:PWX X M (.BoolOp .And (b::rest) pos) gb):PWX X M (.BoolOp .And (a::b::rest) pos) (tAn ga gb):=by
 obtain⟨ta,pa,qa⟩:=ha.out;obtain⟨tb,pb,qb⟩:=hb.out;refine .mk ⟨_,b7O pa pb,λU Y H P F k Q S hf q=>?_⟩;obtain⟨x,h1,hf⟩:=bnd hf;refine qa U Y H P F _ _ S h1 λH1 e1=>?_
 cases x with
 |false=>cases hf;exact a3Q (q H1 e1)
 |true=>exact a2z (qb U Y H1 P F k Q (S.grow e1) hf λH2 e2=>q H2 (e1.trans e2))
def W7(ha:PTX X M a ga)(hb:PWX X M (.BoolOp .Or (b::rest) pos) gb):PWX X M (.BoolOp .Or (a::b::rest) pos) (Z1 ga gb):=by
 obtain⟨ta,pa,qa⟩:=ha.out;obtain⟨tb,pb,qb⟩:=hb.out;refine .mk ⟨_,c0k pa pb,λU Y H P F k Q S hf q=>?_⟩;obtain⟨x,h1,hf⟩:=bnd hf;refine qa U Y H P F _ _ S h1 λH1 e1=>?_
 cases x with
 |true=>cases hf;exact a2z (q H1 e1)
 |false=>exact a3Q (qb U Y H1 P F k Q (S.grow e1) hf λH2 e2=>q H2 (e1.trans e2))
def b2r{c0:Expr}(hc:PTX X M c0 ga)(ha:PX X M a fa c)(hb:PX X M b fb c):PX X M (.IfExp c0 a b pos) (eIf ga fa fb) c:=by
 obtain⟨tc,pc,qc⟩:=hc.out;obtain⟨ta,pa,qa⟩:=ha.out;obtain⟨tb,pb,qb⟩:=hb.out;refine .mk ⟨_,b1N pc pa pb,λU Y H P F d Q S hf q=>?_⟩;obtain⟨k,h1,hf⟩:=bnd hf;refine qc U Y H P F _ _ S h1 λH1 e1=>?_
 cases k with
 |true=>exact a2z (qa U Y H1 P F d Q (S.grow e1) hf λv H2 e2 r2=>q v H2 (e1.trans e2) (r2.early e1))
 |false=>exact a3Q (qb U Y H1 P F d Q (S.grow e1) hf λv H2 e2 r2=>q v H2 (e1.trans e2) (r2.early e1))
def l5:PAX X M [] g8:=⟨_,o5,λU Y H P F ds Q S hf q=>by cases hf;exact q [] H (Same.refl _) denAll_nil⟩
def e7{fr:List D->Option (List D)}(ha:PX X M a fa ca)(hr:PAX X M es fr)(hs:ak (a::es) X.env=(p4,bX a X.env)::ak es X.env:=by rfl):PAX X M (a::es) (b8 fa fr):=by
 obtain⟨ta,pa,qa⟩:=ha.out;obtain⟨tr,pr,qr⟩:=hr;refine⟨_,l7 pa pr hs,λU Y H P F ds Q S hf q=>?_⟩;obtain⟨x,h1,hf⟩:=bnd hf;obtain⟨xs,h2,hf⟩:=bnd hf;cases hf
 exact qa U Y H P F _ _ S h1 λv H1 e1 r1=>qr U Y H1 P F _ _ (S.grow e1) h2 λvs H2 e2 r2=>q (v::vs) H2 (e1.trans e2) (denAll_cons (r1.den.up e2) r2)
def m5:PAN X M [] g8 []:=⟨_,o5,λU Y H P F ds Q S hf q=>by
 cases hf
 refine q [] H [] (Same.refl _) ?_ bg λa ha=>(nomatch ha)
 simp only[OwnTs];exact⟨trivial,trivial,trivial⟩⟩
def j6{fr:List D->Option (List D)}(ha:PX X M a fa (.new u))(hr:PAN X M es fr us)(hs:ak (a::es) X.env=(p4,bX a X.env)::ak es X.env:=by rfl):PAN X M (a::es) (b8 fa fr) (u::us):=by
 obtain⟨ta,pa,qa⟩:=ha.out;obtain⟨tr,pr,qr⟩:=hr;refine⟨_,l7 pa pr hs,λU Y H P F ds Q S hf q=>?_⟩;obtain⟨x,h1,hf⟩:=bnd hf;obtain⟨xs,h2,hf⟩:=bnd hf;cases hf
 refine qa U Y H P F _ _ S h1 λv H1 e1 ⟨fp,o,n,fr⟩=>qr U Y H1 P (fp++F) _ _ (S.more e1 fr (o.lst u)) h2 λvs H2 gp e2 o2 n2 tG=>?_
 have hl:=o.lst u;have hc:Same (cut H1 (fp++F)) (cut H2 (fp++gp++F)):=K7 e2 λa o' ha kN=>by
  rw[bw]at kN;rcases aC.mp kN with z|z
  ·exact aM _ z
  ·rcases aC.mp z with z|z
   ·rw[tG a z]at ha;cases ha
   ·exact ax _ z
 have hd:∀a∈gp,a∉fp:=λa ha z=>by
  obtain⟨ys,q⟩:=hl a z;rw[tG a ha]at q;cases q
 refine q (v::vs) H2 (fp++gp) (e1.trans e2) ?_ ?_ λa ha=>?_
 ·simp only[OwnTs];refine⟨v,vs,x,xs,fp,gp,rfl,rfl,rfl,o.frame hc u λa ha=>?_,o2.frame (H:=H2) (D5 λa ha=>?_) us λ_ _=>rfl⟩
  ·obtain⟨ys,q⟩:=hl a ha;rw[q,e2 _ _ q]
  ·simp only[aC]at ha ⊢;rcases ha with (z|z)|z
   ·exact .inr (.inl z)
   ·exact .inl z
   ·exact .inr (.inr z)
 ·rw[bo];exact⟨n,n2,λa ha b hb e=>hd b hb (e▸ha)⟩
 ·rcases aC.mp ha with z|z
  ·exact fr a z
  ·exact e1.free (tG a z)
end
section
variable {K:af}{H H0 H1:Hp}{F fp:List aw}{vs:List V}{ds:List D}{p:aw}{u:Ty}{us:List Ty}
def b5u(hp:H p=el):Same (cut H (fp++F)) (cut (upd H p o) (p::fp++F)):=K7 (j9 hp o) λa u ha kN=>by
 rw[bA]at kN;rcases aD.mp kN with z|z
 ·subst z;rw[hp]at ha;cases ha
 ·exact z
theorem a4r:∀{n:Nat} {vs:List V} {ds:List D} {fp:List aw},OwnTs K H F (aL n u) vs ds fp->ListAll (Own K H F u) vs ds fp
 |0,_,_,_,h=>by
  simp only[hJ,OwnTs]at h;obtain⟨rfl,rfl,rfl⟩:=h;exact n5
 |n+1,_,_,_,h=>by
  simp only[jl,OwnTs]at h;obtain⟨v,r,d,e,f,g,rfl,rfl,rfl,h1,h2⟩:=h;exact m7 h1 (a4r h2)
theorem OwnTs.len:∀{us:List Ty} {vs:List V} {ds:List D} {fp:List aw},OwnTs K H F us vs ds fp->vs.length=us.length/\ds.length=us.length
 |[],_,_,_,h=>by simp only[OwnTs]at h;obtain⟨rfl,rfl,_⟩:=h;exact⟨rfl,rfl⟩
 |u::us,_,_,_,h=>by
  simp only[OwnTs]at h;obtain⟨v,r,d,e,f,g,rfl,rfl,rfl,_,h2⟩:=h;obtain⟨a,b⟩:=OwnTs.len h2;exact⟨by rw[bu,bu,a],by rw[bu,bu,b]⟩
def n6(e:Same (cut H F) (cut H1 F'))(h:ListAll (Own K H F u) vs ds fp)(k:∀a∈fp,H1 a=H a):ListAll (Own K H1 F' u) vs ds fp:=
 h.imp λv d f hf _ q=>q.frame e u λa ha=>k a (hf a ha)
def a2F(h:ListAll (Own K H1 (fp++F) u) vs ds fp)(hn:fp.Nodup)(hf:∀a∈fp,H a=el)(e:Same H H1)(hp:H1 p=el)(hl:∀a∈fp,∃ys:MuO,H1 a=cz ys.1):ResR K (.new (.l u)) H (upd H1 p (.lst vs)) F (.ref p) (.list ds):=by
 have BE:p∉fp:=λz=>by obtain⟨ys,q⟩:=hl p z;rw[hp]at q;cases q
 refine⟨p::fp,?_,bD.mpr ⟨BE,hn⟩,λa ha=>?_⟩
 ·simp only[Own];refine .inr ⟨p,vs,ds,fp,rfl,i7,rfl,rfl,n6 (b5u hp) h λa ha=>?_⟩;exact f8 λz=>BE (z▸ha)
 ·rcases aD.mp ha with z|z
  ·subst z;exact e.free hp
  ·exact hf a z
theorem ListAll.of_den:∀{vs:List V} {ds:List D},DenAll K H vs ds->(∀v d,d∈ds->Den K H v d->R v d [])->ListAll R vs ds []
 |_,[],h,_=>by rw[h.nil_inv];exact n5
 |_,d::ds,h,k=>by
  obtain⟨v,r,rfl,h1,h2⟩:=h.cons_inv;have:=m7 (f:=[]) (k v d ar h1) (ListAll.of_den h2 λv d hd=>k v d (au _ hd));exact this
theorem E5:∀{ds:List D} {d:D},g9 ds=fx->d∈ds->imm d=fx
 |[],d,_,h=>nomatch h
 |d0::ds,d,q,h=>by
  simp only[g9,av]at q;rcases aD.mp h with z|z
  ·rw[z];exact q.1
  ·exact E5 q.2 z
def N3(h:DenAll K H1 vs ds)(hi:g9 ds=fx)(e:Same H H1)(hp:H1 p=el)(hF:∀a∈F,∃ys:MuO,H1 a=cz ys.1):ResR K (.new (.l .i)) H (upd H1 p (.lst vs)) F (.ref p) (.list ds):=
 a2F (fp:=[]) (ListAll.of_den h λv d hd q=>by
  simp only[Own,cj];exact⟨trivial,E5 hi hd,q.imm_out hF d (E5 hi hd)⟩) bg (λa ha=>(nomatch ha)) e hp λa ha=>(nomatch ha)
def b0s(h:DenAll K (cut H1 F) vs ds)(e:Same H H1)(hp:H1 p=el):ResR K (.new (.l .f)) H (upd H1 p (.lst vs)) F (.ref p) (.list ds):=
 a2F (fp:=[]) (ListAll.of_den h λv d hd q=>by
  simp only[Own,cj];exact⟨trivial,q⟩) bg (λa ha=>(nomatch ha)) e hp λa ha=>(nomatch ha)
def a2G(h:DenAll K H1 vs ds)(hp:H1 p=el):Den K (upd H1 p (.tup vs)) (.ref p) (.tuple ds):=den_tup (SqT.of i7) (h.up (j9 hp _))
def b5v(h:g9 ds=fx):imm (.tuple ds)=fx:=by simpa only [imm]using h
end
def M3(f:EvA):EvE:=λU=>(f U).bind λds=>cz (.list ds)
def J9(f:EvA):EvE:=λU=>(f U).bind λds=>cz (.tuple ds)
def V6(d:D):Option D:=if imm d then cz d else el
def Q6(h:V6 d=cz e):e=d/\imm d=fx:=by
 unfold V6 at h;by_cases c:imm d=fx
 ·rw[aJ c]at h;exact⟨(aK h).symm,c⟩
 ·rw[aN c]at h;cases h
def b2s(d:D):Option D:=match d with
 |.list ds=>if g9 ds then cz d else el
 |_=>el
def a7K(h:b2s d=cz e):∃ds,d=.list ds/\e=.list ds/\g9 ds=fx:=by
 cases d with
 |list ds=>
  have h':(if g9 ds=fx then cz (ia ds) else el)=cz e:=h;by_cases c:g9 ds=fx
  ·rw[aJ c]at h';exact⟨ds,rfl,(aK h').symm,c⟩
  ·rw[aN c]at h';cases h'
 |_=>cases h
section
variable {X:Cx}{M:List Md}{a b e:Expr}{es:List Expr}{fa fb:EvE}{f:EvA}{c ca cb:Cat}{u:Ty}{us:List Ty}{pos:eA}
def B8(h:PAN X M es f (aL n u))(hn:n<=1000:=by decide):PX X M (.List es pos) (M3 f) (.new (.l u)):=by
 obtain⟨t,p,q⟩:=h;refine .mk ⟨_,b8j p,λU Y H P F d Q S hf k=>?_⟩;obtain⟨ds,h1,hf⟩:=bnd hf;cases hf
 refine q U Y H P F ds _ S h1 λvs H1 fp e o nd fr=>⟨?_,λx hx=>k (.ref x) _ (e.trans (j9 hx _)) (a2F (a4r o) nd fr e hx (o.lst _))⟩
 rw[o.len.1,gn];exact dZ (a1h hn)
def a2H(h:PAN X M es f us)(hn:us.length<=1000:=by decide):PX X M (.Tuple es j pos) (J9 f) (.new (.tp us)):=by
 obtain⟨t,p,q⟩:=h;refine .mk ⟨_,a7E p,λU Y H P F d Q S hf k=>?_⟩;obtain⟨ds,h1,hf⟩:=bnd hf;cases hf
 refine q U Y H P F ds _ S h1 λvs H1 fp e o nd fr=>⟨?_,λx hx=>k (.ref x) _ (e.trans (j9 hx _)) ⟨fp,?_,nd,fr⟩⟩
 ·rw[o.len.1];exact dZ (a1h hn)
 ·have Bq:x∉fp++F:=λz=>by
   rcases aC.mp z with z|z
   ·obtain⟨ys,q⟩:=o.lst _ x z;rw[hx]at q;cases q
   ·obtain⟨ys,q⟩:=S.lst' e x z;rw[hx]at q;cases q
  simp only[Own];refine .inr ⟨x,vs,ds,rfl,i7,Bq,rfl,o.frame (D4 (j9 hx _)) us λa ha=>?_⟩;exact f8 λz=>Bq (z▸aM _ ha)
theorem a6l:∀{n:Nat} {vs:List V} {ds:List D} {fp:List aw},OwnTs K H F (aL n .i) vs ds fp->g9 ds=fx
 |0,_,_,_,h=>by
  simp only[hJ,OwnTs]at h;obtain⟨rfl,rfl,rfl⟩:=h;simp only[g9]
 |n+1,_,_,_,h=>by
  simp only[jl,OwnTs]at h;obtain⟨v,r,d,e,f,g,rfl,rfl,rfl,h1,h2⟩:=h;simp only[g9,av];exact⟨(W5 h1).2.1,a6l h2⟩
def O8{j}(h:PAN X M es f (aL n .i))(hn:n<=1000:=by decide):PX X M (.Tuple es j pos) (J9 f) (.new .i):=by
 obtain⟨t,p,q⟩:=h;refine .mk ⟨_,a7E p,λU Y H P F d Q S hf k=>?_⟩;obtain⟨ds,h1,hf⟩:=bnd hf;cases hf
 refine q U Y H P F ds _ S h1 λvs H1 fp e o nd fr=>⟨?_,λx hx=>k (.ref x) _ (e.trans (j9 hx _)) (B7 (b5v (a6l o)) (a2G (o.den _) hx) (S.lst' (e.trans (j9 hx _))))⟩
 rw[o.len.1,gn];exact dZ (a1h hn)
def b0t(hr:∀U ds,r U=cz ds->ds.length=n)(h:b8 fa r U=cz ds):ds.length=n+1:=by
 obtain⟨x,_,h⟩:=bnd h;obtain⟨xs,h2,h⟩:=bnd h;cases h
 rw[bu,hr U xs h2]
def dIx:D->D->Option D
 |.list ds,.int k=>atI ds k
 |.tuple ds,.int k=>atI ds k
 |_,_=>el
def M4:D->D->Option D
 |.list ds,.int k=>atI ds k
 |_,_=>el
def w6(a b:D):Option D:=(dIx a b).bind V6
theorem DenAll.atI(h:DenAll K H vs ds)(e:L2.atI ds k=cz d):∃v j,L2.atI vs k=cz v/\ixN ds.length k=cz j/\vs[j]?=cz v/\ds[j]?=cz d/\Den K H v d:=by
 unfold L2.atI at e ⊢;obtain⟨j,e1,e2⟩:=bnd e;obtain⟨v,h1,h2⟩:=h.get e2;exact⟨v,j,by rw[h.length,e1];exact h1,e1,h1,e2,h2⟩
def c0E(K:af):R2:=λx y H Q=>c0y K x y H Q\/c0z K x y H Q
def a7L:IxR X (c0E X.K):=b5k.or b8l
def a9m(h:dIx x y=cz d):∃ds k,(x=.list ds\/x=.tuple ds)/\y=.int k/\L2.atI ds k=cz d:=by
 cases x with
 |list ds=>cases y with
  |int k=>exact⟨ds,k,.inl rfl,rfl,h⟩
  |_=>cases h
 |tuple ds=>cases y with
  |int k=>exact⟨ds,k,.inr rfl,rfl,h⟩
  |_=>cases h
 |_=>cases h
def c0F(hx:Den K H v x)(hy:Den K H w y)(h:dIx x y=cz d)(q:∀z,Den K H z d->Q z H):c0E K v w H Q:=by
 obtain⟨ds,k,e,rfl,h⟩:=a9m h;cases hy.int_inv
 rcases e with rfl|rfl
 ·obtain⟨a,xs,rfl,h1,h2⟩:=hx.list_inv;obtain⟨z,j,z1,z2,z3,z4,z5⟩:=h2.atI h;exact .inl ⟨a,xs,k,z,rfl,rfl,h1.l,z1,q z z5⟩
 ·obtain⟨a,xs,rfl,h1,h2⟩:=hx.tup_inv;obtain⟨z,j,z1,z2,z3,z4,z5⟩:=h2.atI h;exact .inr ⟨a,xs,k,z,rfl,rfl,h1,z1,q z z5⟩
def p7(ha:PX X M a fa ca)(hb:PX X M b fb cb)(hs:a2i b:=by exact λ_ _=>rfl):PX X M (.Subscript a b pos) (e2 w6 fa fb) (.new .i):=by
 obtain⟨ta,pa,qa⟩:=ha.out;obtain⟨tb,pb,qb⟩:=hb.out;refine .mk ⟨_,b2e a7L pa pb hs,λU Y H P F d Q S hf q=>?_⟩;obtain⟨x,y,h1,h2,h3⟩:=D7 hf;obtain⟨d',h3,h4⟩:=bnd h3;obtain⟨rfl,hi⟩:=Q6 h4;exact qa U Y H P F x _ S h1 λv H1 e1 r1=>qb U Y H1 P F y _ (S.grow e1) h2 λw H2 e2 r2=>c0F (r1.den.up e2) r2.den h3 λz hz=>q z H2 (e1.trans e2) (B7 hi hz (S.lst' (e1.trans e2)))
def u5(ha:PX X M a fa (.new .f))(hb:PX X M b fb cb)(hs:a2i b:=by exact λ_ _=>rfl):PX X M (.Subscript a b pos) (e2 dIx fa fb) (.new .f):=by
 obtain⟨ta,pa,qa⟩:=ha.out;obtain⟨tb,pb,qb⟩:=hb.out;refine .mk ⟨_,b2e a7L pa pb hs,λU Y H P F d Q S hf q=>?_⟩;obtain⟨x,y,h1,h2,h3⟩:=D7 hf;refine qa U Y H P F x _ S h1 λv H1 e1 ⟨fp,o,_,_⟩=>qb U Y H1 P F y _ (S.grow e1) h2 λw H2 e2 r2=>?_
 obtain⟨rfl,o⟩:=a9l o;have o2:Den X.K (cut H2 F) v x:=o.up (D4 e2);obtain⟨ds,k,e,rfl,h⟩:=a9m h3;have fin:∀z,Den X.K (cut H2 F) z d->Q z H2:=λz hz=>q z H2 (e1.trans e2) ⟨[],by simp only[Own,cj];exact⟨trivial,hz⟩,bg,λa ha=>(nomatch ha)⟩
 have ey:=r2.den.int_inv;rcases e with rfl|rfl
 ·obtain⟨a,xs,rfl,h1,h2⟩:=o2.list_inv;obtain⟨z,j,z1,z2,z3,z4,z5⟩:=h2.atI h;exact .inl ⟨a,xs,k,z,rfl,ey,(T2 h1 i8).l,z1,fin z z5⟩
 ·obtain⟨a,xs,rfl,h1,h2⟩:=o2.tup_inv;obtain⟨z,j,z1,z2,z3,z4,z5⟩:=h2.atI h;exact .inr ⟨a,xs,k,z,rfl,ey,P9 h1 i8,z1,fin z z5⟩
def L7(ha:PX X M a fa (.bor (.l u)))(hb:PX X M b fb cb)(hs:a2i b:=by exact λ_ _=>rfl):PX X M (.Subscript a b pos) (e2 M4 fa fb) (.bor u):=by
 obtain⟨ta,pa,qa⟩:=ha.out;obtain⟨tb,pb,qb⟩:=hb.out;refine .mk ⟨_,b2e a7L pa pb hs,λU Y H P F d Q S hf q=>?_⟩;obtain⟨x,y,h1,h2,h3⟩:=D7 hf;refine qa U Y H P F x _ S h1 λv H1 e1 ⟨fp,o,sub⟩=>qb U Y H1 P F y _ (S.grow e1) h2 λw H2 e2 r2=>?_
 have o2:=o.grow e2;cases x with
 |list ds=>
  cases y with
  |int k=>
   simp only[Own]at o2;rcases o2 with⟨_,hi,_⟩|⟨p,xs,iN,fs,rfl,p1,p2,rfl,p3⟩
   ·simp only[imm]at hi;cases hi
   ·cases p2
    have qW:(ixN ds.length k).bind (λj=>ds[j]?)=cz d:=h3;obtain⟨j,j1,j2⟩:=bnd qW;obtain⟨z,f,pre,post,z1,z2,z3,_,_⟩:=p3.at_ j2;refine .inl ⟨p,xs,k,z,rfl,r2.den.int_inv,.inl (.inl p1),?_,q z H2 (e1.trans e2) ⟨f,z2,λa ha=>sub a ?_⟩⟩
    ·unfold L2.atI;rw[p3.length,j1];exact z1
    ·rw[z3];exact au _ (ax _ (aM _ ha))
  |_=>cases h3
 |_=>cases h3
end
def eCl(g:List D->Option D)(f:EvA):EvE:=λU=>(f U).bind g
section
variable {X:Cx}{M:List Md}{a b e e0:Expr}{es:List Expr}{fa fb:EvE}{f:EvA}{c ca cb:Cat}{u:Ty}{us:List Ty}{pos p:eA}{x:bt}
def a7M{id:String}{g:List D->Option D}(hc:a6i X (.builtin id) g)(hm:X.mg x=el)(hv:fg x=cz (.builtin id))(h:PAX X M (e0::es) f)(hg:Gl X x:=by rfl)(hn:x≠"__name__":=by decide)(lG:(x==("__debug__":bt))=p4:=by decide)
  (he:ak (e0::es) X.env=(p4,bX e0 X.env)::ak es X.env:=by rfl) (fF:(bY pos (ak es X.env)).any (·.1)=p4:=by rfl):PX X M (.Call (.Name x p) (e0::es) [] pos) (eCl g f) (.new .i):=by
 obtain⟨r,hr,hs⟩:=hc;obtain⟨t,pa,qa⟩:=h;refine .mk ⟨_,N8 hr hg hm hv pa hn lG he fF,λU Y H P F d Q S hf q=>?_⟩;obtain⟨ds,h1,hf⟩:=bnd hf;exact qa U Y H P F ds _ S h1 λvs H1 e1 r1=>hs vs H1 ds d Q r1 hf λz hi hd=>q z H1 e1 (B7 hi (hd H1) (S.lst' e1))
def b8t(hc:a6i X (.type T) g)(hm:X.mg x=el)(hv:fg x=cz (.type T))(h:PAX X M (e0::es) f)(hg:Gl X x:=by rfl)(hn:x≠"__name__":=by decide)(lG:(x==("__debug__":bt))=p4:=by decide)
  (he:ak (e0::es) X.env=(p4,bX e0 X.env)::ak es X.env:=by rfl) (fF:(bY pos (ak es X.env)).any (·.1)=p4:=by rfl):PX X M (.Call (.Name x p) (e0::es) [] pos) (eCl g f) (.new .i):=by
 obtain⟨r,hr,hs⟩:=hc;obtain⟨t,pa,qa⟩:=h;refine .mk ⟨_,C5 hr hg hm hv pa hn lG he fF,λU Y H P F d Q S hf q=>?_⟩;obtain⟨ds,h1,hf⟩:=bnd hf;exact qa U Y H P F ds _ S h1 λvs H1 e1 r1=>hs vs H1 ds d Q r1 hf λz hi hd=>q z H1 e1 (B7 hi (hd H1) (S.lst' e1))
def T3(h:DenAll K H xs [d]):∃v,xs=[v]/\Den K H v d:=by
 obtain⟨v,r,rfl,h1,h2⟩:=h.cons_inv;cases h2.nil_inv
 exact⟨v,rfl,h1⟩
def a2k{K:af}{H:Hp}{xs:List V}{d e:D}(h:DenAll K H xs [d,e]):∃v w,xs=[v,w]/\Den K H v d/\Den K H w e:=by
 obtain⟨v,r,rfl,h1,h2⟩:=h.cons_inv;obtain⟨w,rfl,h3⟩:=T3 h2;exact⟨v,w,rfl,h1,h3⟩
def G6:List D->Option D
 |[.list ds]=>cz (.int ds.length)
 |[.tuple ds]=>cz (.int ds.length)
 |[.str x]=>if x.length<=aQ then cz (.int x.length) else el
 |_=>el
def b8u:a6i X (.builtin "len") G6:=by
 refine⟨_,a5l.or a5m,λxs H ds d Q hd hg q=>?_⟩
 match ds,hg with
 |[.list es],hg=>
  cases hg
  obtain⟨v,rfl,h⟩:=T3 hd;obtain⟨a,ys,rfl,h1,h2⟩:=h.list_inv;refine .inl ⟨a,ys,rfl,.inl h1.l,?_⟩;rw[h2.length];exact q _ (by simp only[imm]) λ_=>den_int
 |[.tuple es],hg=>
  cases hg
  obtain⟨v,rfl,h⟩:=T3 hd;obtain⟨a,ys,rfl,h1,h2⟩:=h.tup_inv;refine .inl ⟨a,ys,rfl,.inr h1,?_⟩;rw[h2.length];exact q _ (by simp only[imm]) λ_=>den_int
 |[.str x],hg=>
  have nJ:(if x.length<=aQ then cz (aI x.length) else el)=cz d:=hg;by_cases z:x.length<=aQ
  ·rw[aJ z]at nJ;cases nJ
   obtain⟨v,rfl,h⟩:=T3 hd;cases h.str_inv
   exact .inr ⟨x,rfl,z,q _ (by simp only[imm]) λ_=>den_int⟩
  ·rw[aN z]at nJ;cases nJ
 |[.none],hg|[.bool _],hg|[.int _],hg|[.dict _],hg=>cases hg
 |[],hg=>cases hg
 |d1::_::_,hg=>cases d1<;>cases hg
def b2t:List D->Option D
 |[.int i]=>cz (.int i)
 |[.bool k]=>cz (.int (if k then 1 else 0))
 |_=>el
def b8v:a6i X (.type "int") b2t:=by
 refine⟨_,b0k,λxs H ds d Q hd hg q=>?_⟩
 match ds,hg with
 |[.int i],hg=>
  cases hg
  obtain⟨v,rfl,h⟩:=T3 hd;cases h.int_inv
  exact .inl ⟨i,rfl,q _ (by simp only[imm]) λ_=>den_int⟩
 |[.bool i],hg=>
  cases hg
  obtain⟨v,rfl,h⟩:=T3 hd;cases h.bool_inv
  exact .inr ⟨i,rfl,q _ (by simp only[imm]) λ_=>den_int⟩
 |[.none],hg|[.str _],hg|[.dict _],hg|[.list _],hg|[.tuple _],hg=>cases hg
 |[],hg=>cases hg
 |d1::_::_,hg=>cases d1<;>cases hg
def a1J:List D->Option (List Bool)
 |[]=>cz []
 |.bool b::r=>(a1J r).map (b::·)
 |_=>el
theorem a2I:∀{ds:List D} {bs:List Bool} {xs:List V},a1J ds=cz bs->DenAll K H xs ds->xs=bs.map V.bl
 |[],bs,xs,h,q=>by cases h;rw[q.nil_inv];rfl
 |.bool b::r,bs,xs,h,q=>by
  have h':(a1J r).map (b::·)=cz bs:=h;obtain⟨cs,h1,rfl⟩:=dw.mp h';obtain⟨v,rs,rfl,h2,h3⟩:=q.cons_inv;cases h2.bool_inv
  rw[a2I h1 h3];rfl
 |.none::r,bs,xs,h,q|.int _::r,bs,xs,h,q|.str _::r,bs,xs,h,q|.list _::r,bs,xs,h,q|.tuple _::r,bs,xs,h,q|.dict _::r,bs,xs,h,q=>by cases h
def b0u:List D->Option D
 |[.list ds]=>(a1J ds).map λbs=>.bool (bs.all id)
 |_=>el
open PyProof.Rows in
def b0v(hc:X.calm=fx):CallR X (.builtin "all") (λxs H Q=>∃(p:aw) (bs:List Bool),xs=[.ref p]/\SqX X.K H p (bs.map V.bl)/\Q (.bl (bs.all id)) H):=by
 intro pins s Y H xs us Q I r h;obtain⟨p,bs,rfl,hp,q⟩:=h;obtain⟨u,rfl,rx⟩:=vals1 r;cases (show u=aS p from rx)
 obtain⟨hz,cP,n,rv,ho⟩:=hp.ok I;have hl:s.heap.IsList p cP.toArray:=⟨_,ho,rfl,_,rfl⟩;have hlen:bs.length=cP.length:=by have:=rv.length;simpa using this
 refine call_all_walk (lh hl ?_);have ik:p≠s.heap.objs.size:=a_ (aB ho);refine⟨s.heap.objs.size,[s.heap.objs.size,p],[s.heap.objs.size],_,_,_,λi=>(bs.getD i p4),rfl,Walks.list (A:=X.A.in1) (by simpa using I.ok.hd hc) s.heap.objs.size p ik cP.toArray,⟨⟨_,aF _ rfl,rfl,rfl⟩,hl.at λo e=>ah _ e⟩,?_,?_⟩
 ·intro i v s' Q' E' hP hQ;have hv:cP[i]?=cz v:=by simpa using hP
  have hi:i<bs.length:=by rw[hlen];exact (aP.mp hv).1
  obtain⟨u,hu,ru⟩:=rv.get (i:=i) (x:=.bl bs[i]) (by simp[hi]);rw[hv]at hu;cases hu
  cases (show v=jx bs[i] from ru)
  refine df ?_;have e:bs.getD i p4=bs[i]:=by simp[hi]
  have Cm:Q' (bs.getD i p4) s':=hQ;rw[e]at Cm;exact Cm
 ·intro h' tk hk;have e:(aV cP.toArray.size).all (λi=>bs.getD i p4)=bs.all id:=by
   rw[bC,<-hlen,fH,bj,bj]
   constructor
   ·intro z b hb;obtain⟨i,hi,rfl⟩:=gM.mp hb;have:=z i (cC.mpr hi);simpa[hi]using this
   ·intro z i hi;have mW:=cC.mp hi;have:=z bs[i] (dc mW);simpa[mW]using this
  rw[e];refine⟨.bl _,H,?_,rfl,q⟩;exact I.kept (t':=tk) λb o e=>hk b o (λz=>by
   have z':=aq.mp z;rw[z']at e;exact absurd (aB e) (cR _)) (ah _ e)
def b2u(hc:X.calm=fx):a6i X (.builtin "all") b0u:=by
 refine⟨_,b0v hc,λxs H ds d Q hd hg q=>?_⟩
 match ds,hg with
 |[.list es],hg=>
  have nJ:(a1J es).map (λbs=>cY (bs.all id))=cz d:=hg;obtain⟨bs,h1,rfl⟩:=dw.mp nJ;obtain⟨v,rfl,h⟩:=T3 hd;obtain⟨a,ys,rfl,h2,h3⟩:=h.list_inv;rw[a2I h1 h3]at h2;exact⟨a,bs,rfl,h2,q _ (by simp only[imm]) λ_=>den_bool⟩
 |[.none],hg|[.bool _],hg|[.str _],hg|[.dict _],hg|[.int _],hg|[.tuple _],hg=>cases hg
 |[],hg=>cases hg
 |d1::_::_,hg=>cases d1<;>cases hg
def tyD:D->String
 |.int _=>"int"
 |.bool _=>"bool"
 |.list _=>"list"
 |.tuple _=>"tuple"
 |.none=>"NoneType"
 |.str _=>"str"
 |.dict _=>"dict"
def Den.ty{K:af}{H:Hp}{v:V}:∀{d:D},Den K H v d->(∀ds,d≠.tuple ds)->(∀ds,d≠.list ds)->(∀ds,d≠.dict ds)->TyOf K H v (.type (tyD d))
 |.none,h,_,_,_=>by cases h.none_inv;exact .non
 |.bool _,h,_,_,_=>by cases h.bool_inv;exact .bl _
 |.int _,h,_,_,_=>by cases h.int_inv;exact .int _
 |.str _,h,_,_,_=>by cases h.str_inv;exact .str _
 |.list ds,h,_,q,_=>absurd rfl (q ds)
 |.tuple ds,h,q,_,_=>absurd rfl (q ds)
 |.dict ds,h,_,_,q=>absurd rfl (q ds)
def c0G(K:af)(T:String)(g:D->Bool):List V->Hp->VK->Prop:=λxs H Q=>∃x d,xs=[x,.ty T]/\Den K H x d/\Q (.bl (g d)) H
def a7N{pins:List (aw×fm)}{Y:L2.St}{H:Hp}{s:aj}{A:bB}{E:ai->aj->Prop}{Q:ai->aj->Prop}{cv:ai}{k:Bool}{a:aw}{xs:List V}(I:Inv X pins Y H s)(h:SqT X.K H a xs)(e:dh X.K (.type "tuple") cv=cz k)(hq:∀tk,Q (.bool k) {s with toks:=tk}) :
  az (aO X.prog X.w) A (call (.builtin "isinstance") [.ref a,cv]) Q E s:=by
 obtain⟨cP,_,⟨o,h1,h2,_⟩,_⟩:=I.tuple h;exact cF AK I.kIn ⟨o,h1,h2⟩ e (λz=>nomatch z) hq
def a7O{pins:List (aw×fm)}{Y:L2.St}{H:Hp}{s:aj}{A:bB}{E:ai->aj->Prop}{Q:ai->aj->Prop}{cv:ai}{k:Bool}{a:aw}{xs:List V}(I:Inv X pins Y H s)(h:SqX X.K H a xs)(e:dh X.K (.type "list") cv=cz k)(hq:∀tk,Q (.bool k) {s with toks:=tk}) :
  az (aO X.prog X.w) A (call (.builtin "isinstance") [.ref a,cv]) Q E s:=by
 obtain⟨_,cP,n,_,h1⟩:=h.ok I;exact cF nU I.kIn ⟨_,h1,rfl⟩ e (λz=>nomatch z) hq
def a7P{pins:List (aw×fm)}{Y:L2.St}{H:Hp}{s:aj}{A:bB}{E:ai->aj->Prop}{Q:ai->aj->Prop}{cv:ai}{k:Bool}{a:aw}{es:List (D×V×V)}(I:Inv X pins Y H s)(h:H a=cz (c9 a es))(e:dh X.K (.type "dict") cv=cz k)(hq:∀tk,Q (.bool k) {s with toks:=tk}) :
  az (aO X.prog X.w) A (call (.builtin "isinstance") [.ref a,cv]) Q E s:=by
 obtain⟨⟨_,_,_,o,ents,_,h1,h2,_⟩,_⟩:=(show ObjOk X.prog X.w H s.heap a (c9 a es) from I.hok a _ h);exact cF nV I.kIn ⟨o,h1,h2.1⟩ e (λz=>nomatch z) hq
def b0w{T:String}{g:D->Bool}(hf:∀(K:af) (d:D),dh K (.type (tyD d)) (.type T)=cz (g d)):CallR X (.builtin "isinstance") (c0G X.K T g):=by
 intro pins s Y H xs us Q I r h;obtain⟨x,d,rfl,hd,q⟩:=h;obtain⟨u,w',rfl,rx,ry⟩:=vals2 r;cases (show w'=dB T from ry)
 by_cases ht:(∀ds,d≠.tuple ds)/\(∀ds,d≠.list ds)/\(∀ds,d≠.dict ds)
 ·exact a4d I rx (hd.ty ht.1 ht.2.1 ht.2.2) (hf X.K d) λtk=>⟨.bl _,H,I.tok tk,rfl,q⟩
 ·cases d with
  |list ds=>
   obtain⟨a,ys,rfl,h1,_⟩:=hd.list_inv;cases (show u=aS a from rx)
   exact a7O I h1 (hf X.K (.list ds)) λtk=>⟨.bl _,H,I.tok tk,rfl,q⟩
  |tuple ds=>
   obtain⟨a,ys,rfl,h1,_⟩:=hd.tup_inv;cases (show u=aS a from rx)
   exact a7N I h1 (hf X.K (.tuple ds)) λtk=>⟨.bl _,H,I.tok tk,rfl,q⟩
  |dict ds=>
   simp only[Den]at hd;obtain⟨a,es,rfl,h1,_⟩:=hd;cases (show u=aS a from rx)
   exact a7P I h1 (hf X.K (.dict ds)) λtk=>⟨.bl _,H,I.tok tk,rfl,q⟩
  |_=>exact absurd ⟨(λds z=>by cases z),(λds z=>by cases z),(λds z=>by cases z)⟩ ht
def isInt:D->Bool
 |.int _=>fx
 |.bool _=>fx
 |_=>p4
def isBool:D->Bool
 |.bool _=>fx
 |_=>p4
def isList:D->Bool
 |.list _=>fx
 |_=>p4
def x8:D->Bool
 |.tuple _=>fx
 |_=>p4
def L8{g:D->Bool}(hf:∀(K:af) (d:D),dh K (.type (tyD d)) (.type T)=cz (g d))(hm:X.mg "isinstance"=el)(hy:X.mg y=el)(hb:fg y=cz (.type T))(h:PX X M a fa ca)
  (hg:Gl X "isinstance":=by rfl) (wN:Gl X y:=by rfl) (zE:y≠"__name__":=by decide) (wW:(y==("__debug__":bt))=p4:=by decide)
  (he:ak [a,.Name y py] X.env=(p4,bX a X.env)::ak [.Name y py] X.env:=by rfl) (kr:ak [.Name y py] X.env=(p4,bX (.Name y py) X.env)::ak [] X.env:=by rfl) (fF:(bY pos (ak [.Name y py] X.env)).any (·.1)=p4:=by rfl) :
  PX X M (.Call (.Name "isinstance" p) [a,.Name y py] [] pos) (e1 (λd=>cz (.bool (g d))) fa) (.new .i):=by
 obtain⟨ta,pa,qa⟩:=h.out;refine .mk ⟨_,N8 (b0w hf) hg hm PyProof.Rows.Boot.«isinstance» (l7 pa (l7 (a9h (v:=.ty T) wN hy hb rfl zE wW) o5 kr) he) (by decide) (by decide) he fF,λU Y H P F d Q S jw q=>?_⟩;obtain⟨x,h1,jw⟩:=bnd jw;cases jw
 exact qa U Y H P F x _ S h1 λv H1 e1 r1=>⟨v,x,rfl,r1.den,q _ H1 e1 (B7 (by simp only[imm]) den_bool (S.lst' e1))⟩
def a9n(K:af)(d:D):dh K (.type (tyD d)) (.type "int")=cz (isInt d):=by cases d<;>rfl
def a6m(K:af)(d:D):dh K (.type (tyD d)) (.type "bool")=cz (isBool d):=by cases d<;>rfl
def a6n(K:af)(d:D):dh K (.type (tyD d)) (.type "list")=cz (isList d):=by cases d<;>rfl
def N4(K:af)(d:D):dh K (.type (tyD d)) (.type "tuple")=cz (x8 d):=by cases d<;>rfl
end
def cutD(ds:List D)(lo hi:Option Int):List D:=(ds.drop (HT.sIx ds.length 0 lo)).take (HT.sIx ds.length ds.length hi-HT.sIx ds.length 0 lo)
abbrev EvO:=List D->Option (Option Int)
def oNo:EvO:=λ_=>cz el
def asI:D->Option Int
 |.int i=>cz i
 |_=>el
def oSo(a:EvE):EvO:=λU=>(a U).bind λd=>(asI d).bind λi=>cz (cz i)
def a2J(h:asI d=cz i):d=.int i:=by
 cases d with
 |int j=>cases h;rfl
 |_=>cases h
def asL:D->Option (List D)
 |.list ds=>cz ds
 |_=>el
def Q7(h:asL d=cz ds):d=.list ds:=by
 cases d with
 |list j=>cases h;rfl
 |_=>cases h
def asS:D->Option (List D)
 |.list ds=>cz ds
 |.tuple ds=>cz ds
 |_=>el
def POX(X:Cx)(M:List Md)(e:Option Expr)(f:EvO):Prop:=
 ∃t,PO X e t/\∀(U:List D) (Y:L2.St) (H P:Hp) (F:List aw) (o:Option Int) (Q:Option Int->Hp->Prop),StE X.K M U Y H P F->f U=cz o->(∀H',Same H H'->Q o H')->t Y H Q
def eSl(a:EvE)(lo hi:EvO):EvE:=λU=>(a U).bind λx=>(asL x).bind λds=>(lo U).bind λl=>(hi U).bind λh=>cz (.list (cutD ds l h))
def eI(a:EvE):EvE:=λU=>(a U).bind b2s
section
variable {X:Cx}{M:List Md}{a b e e0:Expr}{lo hi:Option Expr}{es:List Expr}{fa fb:EvE}{fl fh:EvO}{f:EvA}{c ca cb:Cat}{u:Ty}{us:List Ty}{pos p p2:eA}{x:bt}
def a6o:POX X M el oNo:=⟨_,b5g,λU Y H P F o Q S hf q=>by cases hf;exact q H (Same.refl _)⟩
def a6p(h:PX X M a fa ca):POX X M (cz a) (oSo fa):=by
 obtain⟨t,p,q⟩:=h.out;refine⟨_,b5h p,λU Y H P F o Q S hf k=>?_⟩;obtain⟨d,h1,sA⟩:=bnd hf;obtain⟨i,h2,sy⟩:=bnd sA;cases a2J h2
 cases sy
 exact q U Y H P F _ _ S h1 λv H1 e1 r1=>⟨i,r1.den.int_inv,k H1 e1⟩
structure MkL (X:Cx) (M:List Md) (e:Expr) (f:EvE) (A:Prop):Prop where
 run:∃t,PE X e t/\∀(U:List D) (Y:L2.St) (H P:Hp) (F:List aw) (d:D) (Q:VK),StE X.K M U Y H P F->f U=cz d->
  (∀vs ds H1 l,Same H H1->d=.list ds->DenAll X.K H1 vs ds->(A->DenAll X.K (cut H1 F) vs ds)->H1 l=el->Q (.ref l) (upd H1 l (.lst vs)))->t Y H Q
def MkL.fz{f:EvE}(h:MkL X M e f True):PX X M e f (.new (.l .f)):=by
 obtain⟨t,p,q⟩:=h.run;refine .mk ⟨t,p,λU Y H P F d Q S hf k=>q U Y H P F d Q S hf λvs ds H1 l e1 ed _ h1 hl=>?_⟩;subst ed;exact k _ _ (e1.trans (j9 hl _)) (b0s (h1 trivial) e1 hl)
theorem MkL.i{f:EvE}{A:Prop}(h:MkL X M e f A):PX X M e (eI f) (.new (.l .i)):=by
 obtain⟨t,p,q⟩:=h.run;refine .mk ⟨t,p,λU Y H P F d Q S hf k=>?_⟩;obtain⟨d',g1,hc⟩:=bnd hf;clear hf;obtain⟨es,rfl,rfl,hi⟩:=a7K hc;refine q U Y H P F _ Q S g1 λvs ds H1 l e1 ed h1 _ hl=>?_
 cases ed
 exact k _ _ (e1.trans (j9 hl _)) (N3 h1 hi e1 hl (S.lst' e1))
def frozen:Cat->Prop
 |.new .f=>True
 |.new .i=>True
 |_=>False
def G8(hc:frozen c)(r:ResR K c H H1 F v d):Den K (cut H1 F) v d:=by
 match c,hc with
 |.new .f,_=>
  obtain⟨fp,o,_⟩:=r;obtain⟨rfl,o⟩:=a9l o;exact o
 |.new .i,_=>
  obtain⟨fp,o,_⟩:=r;obtain⟨rfl,_,o⟩:=W5 o;exact o
def M5(r:ResR K c H H1 F v (.list ds)):∃a xs,v=.ref a/\SqX K H1 a xs/\DenAll K H1 xs ds/\(frozen c->DenAll K (cut H1 F) xs ds):=by
 by_cases hc:frozen c
 ·obtain⟨a,xs,rfl,k1,k2⟩:=(G8 hc r).list_inv;exact⟨a,xs,rfl,T2 k1 i8,k2.up i8,λ_=>k2⟩
 ·obtain⟨a,xs,rfl,k1,k2⟩:=r.den.list_inv;exact⟨a,xs,rfl,k1,k2,λh=>absurd h hc⟩
def b2v:SlR X (λx lo hi H Q=>∃a xs,x=.ref a/\SqX X.K H a xs/\∀p,H p=el->Q (.ref p) (upd H p (.lst (a7G xs lo hi)))):=by
 intro pins s Y H x v vl vu lo hi sl Q I rx hs pl pu ⟨a,xs,e,h,q⟩;exact b5l pins s Y H x v vl vu lo hi sl Q I rx hs pl pu ⟨a,xs,e,h.l,q⟩
def a9o(h:DenAll K H vs ds)(lo hi:Option Int):DenAll K H (a7G vs lo hi) (cutD ds lo hi):=by
 unfold a7G cutD;rw[h.length];exact (h.drop _).take _
def a6q(ha:PX X M a fa ca)(hl:POX X M lo fl)(hh:POX X M hi fh):MkL X M (.Subscript a (.Slice lo hi el p2) pos) (eSl fa fl fh) (frozen ca):=by
 obtain⟨ta,pa,qa⟩:=ha.out;obtain⟨tl,pl,ql⟩:=hl;obtain⟨th,ph,qh⟩:=hh;refine⟨_,b2d b2v pa pl ph,λU Y H P F d Q S hf q=>?_⟩;obtain⟨x,h1,sA⟩:=bnd hf;obtain⟨ds,h2,sy⟩:=bnd sA;cases Q7 h2
 obtain⟨l,h3,Aw⟩:=bnd sy;obtain⟨h,h4,ve⟩:=bnd Aw;cases ve
 refine qa U Y H P F _ _ S h1 λv H1 e1 r1=>ql U Y H1 P F l _ (S.grow e1) h3 λH2 e2=>qh U Y H2 P F h _ (S.grow (e1.trans e2)) h4 λH3 e3=>?_
 obtain⟨pp,xs,rfl,k1,k2,k3⟩:=M5 (r1.up (e2.trans e3));exact⟨pp,xs,rfl,k1,λz hz=>q _ _ H3 z ((e1.trans e2).trans e3) rfl (a9o k2 l h) (λhc=>a9o (k3 hc) l h) hz⟩
def a1K(a:EvE):EvE:=λU=>(a U).bind λd=>(asS d).bind λds=>cz (.list ds)
def a5t(hm:X.mg "list"=el)(ha:PX X M a fa ca)(hg:Gl X "list":=by rfl)(he:ak [a] X.env=(p4,bX a X.env)::ak [] X.env:=by rfl)(fF:(bY pos (ak [] X.env)).any (·.1)=p4:=by rfl) :
  MkL X M (.Call (.Name "list" p) [a] [] pos) (a1K fa) (frozen ca):=by
 obtain⟨ta,pa,qa⟩:=ha.out;refine⟨_,C5 a0t hg hm PyProof.Rows.Boot.«list» (l7 pa o5 he) (by decide) (by decide) he fF,λU Y H P F d Q S hf q=>?_⟩;obtain⟨x,h1,sA⟩:=bnd hf;obtain⟨ds,h2,sy⟩:=bnd sA;cases sy
 refine qa U Y H P F _ _ S h1 λv H1 e1 r1=>?_
 cases x with
 |list es=>
  cases h2
  obtain⟨pp,xs,rfl,k1,k2,k3⟩:=M5 r1;exact⟨pp,xs,rfl,.inl k1.l,λz hz=>q _ _ H1 z e1 rfl k2 k3 hz⟩
 |tuple es=>
  cases h2
  by_cases hc:frozen ca
  ·obtain⟨pp,xs,rfl,k1,k2⟩:=(G8 hc r1).tup_inv;exact⟨pp,xs,rfl,.inr (P9 k1 i8),λz hz=>q _ _ H1 z e1 rfl (k2.up i8) (λ_=>k2) hz⟩
  ·obtain⟨pp,xs,rfl,k1,k2⟩:=r1.den.tup_inv;exact⟨pp,xs,rfl,.inr k1,λz hz=>q _ _ H1 z e1 rfl k2 (λh=>absurd h hc) hz⟩
 |_=>cases h2
def U9(a:EvE):EvE:=λU=>(a U).bind λd=>(asS d).bind λds=>V6 (.tuple ds)
def a2K(hm:X.mg "tuple"=el)(ha:PX X M a fa ca)(hg:Gl X "tuple":=by rfl)(he:ak [a] X.env=(p4,bX a X.env)::ak [] X.env:=by rfl)(fF:(bY pos (ak [] X.env)).any (·.1)=p4:=by rfl) :
  PX X M (.Call (.Name "tuple" p) [a] [] pos) (U9 fa) (.new .i):=by
 obtain⟨ta,pa,qa⟩:=ha.out;refine .mk ⟨_,C5 a3P hg hm PyProof.Rows.Boot.«tuple» (l7 pa o5 he) (by decide) (by decide) he fF,λU Y H P F d Q S hf q=>?_⟩;obtain⟨x,h1,sA⟩:=bnd hf;obtain⟨ds,h2,sy⟩:=bnd sA;obtain⟨rfl,hi⟩:=Q6 sy;refine qa U Y H P F _ _ S h1 λv H1 e1 r1=>?_
 cases x with
 |list es=>
  cases h2
  obtain⟨pp,xs,rfl,k1,k2⟩:=r1.den.list_inv;exact⟨pp,xs,rfl,.inl ⟨k1.l,λz hz=>q _ _ (e1.trans (j9 hz _)) (B7 hi (a2G k2 hz) (S.lst' (e1.trans (j9 hz _))))⟩⟩
 |tuple es=>
  cases h2
  obtain⟨pp,xs,rfl,k1,k2⟩:=r1.den.tup_inv;exact⟨pp,xs,rfl,.inr ⟨k1,q _ _ e1 (B7 hi (den_tup k1 k2) (S.lst' e1))⟩⟩
 |_=>cases h2
def b5w:OpR X (eF .Add) (λx y H Q=>∃l b xs zs,x=.ref l/\y=.ref b/\SqX X.K H l xs/\SqX X.K H b zs/\xs.length+zs.length<=aQ/\∀p,H p=el->Q (.ref p) (upd H p (.lst (xs++zs)))):=by
 intro pins s Y H x y v u Q I rx ry h;obtain⟨l,b,xs,zs,rfl,rfl,hH,hB,hz,q⟩:=h;cases rx
 cases ry
 obtain⟨z,cP,n,r,e⟩:=hH.ok I;obtain⟨z2,rV,n2,r2,e2⟩:=hB.ok I;have hl:=r.length;have wJ:=r2.length;refine PySem.P.add_list e e2 ?_ (by rw[bC,bC];lia);have ea:cP.toArray++rV.toArray=(cP++rV).toArray:=by simp
 rw[ea];exact⟨.ref _,_,I.lnew (t':=s.toks) (r.append r2) (by rw[bh];lia),rfl,q _ I.fresh⟩
def a3T(a b:EvE):EvE:=λU=>(a U).bind λx=>(asL x).bind λds=>(b U).bind λy=>(asL y).bind λes=>if ds.length+es.length<=aQ then cz (.list (ds++es)) else el
def a7Q(ha:PX X M a fa ca)(hb:PX X M b fb cb):MkL X M (.BinOp a .Add b pos) (a3T fa fb) (frozen ca/\frozen cb):=by
 obtain⟨ta,pa,qa⟩:=ha.out;obtain⟨tb,pb,qb⟩:=hb.out;refine⟨_,b1V b5w pa pb,λU Y H P F d Q S hf q=>?_⟩;obtain⟨x,h1,sA⟩:=bnd hf;obtain⟨ds,h2,sy⟩:=bnd sA;cases Q7 h2
 obtain⟨y,h3,Aw⟩:=bnd sy;obtain⟨es,h4,ve⟩:=bnd Aw;cases Q7 h4
 by_cases hz:ds.length+es.length<=aQ
 ·rw[aJ hz]at ve;cases ve
  refine qa U Y H P F _ _ S h1 λv H1 e1 r1=>qb U Y H1 P F _ _ (S.grow e1) h3 λw H2 e2 r2=>?_
  obtain⟨pp,xs,rfl,k1,k2,k3⟩:=M5 (r1.up e2);obtain⟨qq,ys,rfl,j1,j2,j3⟩:=M5 r2;exact⟨pp,qq,xs,ys,rfl,rfl,k1,j1,by rw[k2.length,j2.length];exact hz,λz hz=>q _ _ H2 z (e1.trans e2) rfl (k2.append j2) (λhc=>(k3 hc.1).append (j3 hc.2)) hz⟩
 ·rw[aN hz]at ve;cases ve
def spD(K:af)(n:Nat)(m:List D->Option D)(u:Ty):Sp:=λvs H Q _=>∃ds d,vs.length=n/\DenAll K H vs ds/\m ds=cz d/\∀v H' fp,Same H H'->Own K H' fp u v d fp->fp.Nodup->(∀a∈fp,H a=el)->Q v H'
def a2l(W:Has X.prog X.w X.K X.mg X.base x k ps (spD X.K n m u))(hr:Room k X.A)(h:PAX X M (e0::es) f)(hu:u.shut=fx:=by rfl)(hl:(e0::es).length=n:=by rfl)(hfl:∀U ds,f U=cz ds->ds.length=(e0::es).length)
  (hg:Gl X x:=by rfl) (lG:(x==("__debug__":bt))=p4:=by decide) (he:ak (e0::es) X.env=(p4,bX e0 X.env)::ak es X.env:=by rfl) (fF:(bY pos (ak es X.env)).any (·.1)=p4:=by rfl) :
  PX X M (.Call (.Name x p) (e0::es) [] pos) (eCl m f) (.new u):=by
 obtain⟨t,pa,qa⟩:=h;refine .mk ⟨_,a7H W hr pa hg lG he fF,λU Y H P F d Q S hf q=>?_⟩;obtain⟨ds,h1,hf⟩:=bnd hf;refine qa U Y H P F ds _ S h1 λvs H1 e1 r1=>?_
 show spD X.K n m u (vs++[]) H1 Q E0;rw[bH];refine⟨ds,d,by rw[r1.length,hfl U ds h1,hl],r1,hf,λv H' fp e o nd fr=>q v H' (e1.trans e) ⟨fp,o.shut_out (λa ha=>?_) u hu,nd,λa ha=>e1.free (fr a ha)⟩⟩;rcases aC.mp ha with z|z
 ·exact o.lst u a z
 ·exact S.lst' (e1.trans e) a z
end
structure Walks (J:It) (Pr:Hp->Prop) (xs:List V):Prop where
 go:∀i H,Pr H->i<xs.length->J.go i H
 stop:∀i H,Pr H->xs.length<=i->J.stop i H
 yld:∀i H x H',Pr H->i<xs.length->J.yld i H x H'->H'=H/\xs[i]?=cz x
def a7R:Walks (Itl K a) (λH=>SqL K H a xs) xs where
 go:=λi H h hi=>⟨xs,xs[i],h,by simp[hi]⟩
 stop:=λi H h hi=>⟨xs,h,hi⟩
 yld:=λi H x H' h _ y=>⟨y.1,y.2 xs h⟩
def a6r:Walks (Itr lo n) (λ_=>True) ((aV n).map λ(k:Nat)=>V.int (lo+k)) where
 go:=λi H h hi=>by show i<n;simpa using hi
 stop:=λi H h hi=>by show n<=i;simpa using hi
 yld:=λi H x H' h hi y=>by
  obtain⟨e,y⟩:=y;refine⟨e,?_⟩;have mW:i<n:=by simpa using hi
  rw[y];simp[mW]
def PIX(X:Cx)(M:List Md)(tg iter:Expr)(f:EvA):Prop:=
 ∃wi,PI X tg iter wi/\∀(U:List D) (Y:L2.St) (H P:Hp) (F:List aw) (ds:List D) (R:It->Hp->Prop),StE X.K M U Y H P F->f U=cz ds->
  (∀J xs Pr H1,Same H H1->Walks J Pr xs->(∀H2,Same (cut H1 F) H2->Pr H2)->DenAll X.K (cut H1 F) xs ds->R J H1)->wi Y H R
def iL(a:EvE):EvA:=λU=>(a U).bind asL
def G9(lo:Int)(n:Nat):List D:=(aV n).map λ(k:Nat)=>.int (lo+k)
def iR(a:EvE):EvA:=λU=>(a U).bind λd=>(asI d).bind λn=>if -(2^62)<=n/\n<2^62 then cz (G9 0 n.toNat) else el
def iI(f:EvA):EvA:=λU=>(f U).bind λds=>if g9 ds then cz ds else el
section
variable {X:Cx}{M:List Md}{a b e tg iter:Expr}{fa fb:EvE}{f:EvA}{ca cb:Cat}{pos p:eA}
def A4(h:PX X M a fa ca)(hc:frozen ca:=by trivial):PIX X M tg a (iL fa):=by
 obtain⟨t,p,q⟩:=h.out;refine⟨_,b4Z p,λU Y H P F ds R S hf k=>?_⟩;obtain⟨d,h1,h2⟩:=bnd hf;cases Q7 h2
 refine q U Y H P F _ _ S h1 λv H1 e1 r1=>?_
 obtain⟨aa,xs,rfl,k1,k2⟩:=(G8 hc r1).list_inv;exact⟨aa,rfl,⟨xs,(T2 k1 i8).l⟩,k _ xs _ H1 e1 a7R (λH2 e2=>(T2 k1 e2).l) k2⟩
def a4s:DenAll K H ((aV n).map λ(k:Nat)=>V.int (lo+k)) (G9 lo n):=by
 have:∀l:List Nat,DenAll K H (l.map λ(k:Nat)=>V.int (lo+k)) (l.map λ(k:Nat)=>aI (lo+k)):=by
  intro l
  induction l with
  |nil=>exact denAll_nil
  |cons x l ih=>exact denAll_cons den_int ih
 exact this _
def F8(hm:X.mg "range"=el)(h:PX X M a fa ca)(hg:Gl X "range":=by rfl)(he:ak [a] X.env=[(p4,bX a X.env)]:=by rfl)(kr:ak [a] X.env=(p4,bX a X.env)::ak [] X.env:=by rfl) :
  PIX X M tg (.Call (.Name "range" p) [a] [] pos) (iR fa):=by
 obtain⟨t,p,q⟩:=h.out;refine⟨_,b0i hg hm (l7 p o5 kr) he,λU Y H P F ds R S hf k=>?_⟩;obtain⟨d,h1,g1⟩:=bnd hf;obtain⟨n,h2,g2⟩:=bnd g1;cases a2J h2
 by_cases c:-(2^62)<=n/\n<2^62
 ·rw[aJ c]at g2;cases g2
  exact q U Y H P F _ _ S h1 λv H1 e1 r1=>⟨n,by rw[r1.den.int_inv],c.1,c.2,k _ _ _ H1 e1 a6r (λ_ _=>trivial) a4s⟩
 ·rw[aN c]at g2;cases g2
def PIX.i(h:PIX X M tg iter f):PIX X M tg iter (iI f):=by
 obtain⟨wi,p,q⟩:=h;refine⟨wi,p,λU Y H P F ds R S hf k=>?_⟩;obtain⟨es,h1,g1⟩:=bnd hf;by_cases c:g9 es=fx
 ·rw[aJ c]at g1;cases g1
  exact q U Y H P F _ R S h1 k
 ·rw[aN c]at g1;cases g1
end
def TgR(K:af)(g:TG)(n:Nat)(pt:D->Option (List D)):Prop:=
 ∀(H Hc:Hp) (x:V) (d:D) (ds:List D) (Y:L2.St) (Q:L2.St->Hp->Prop),Same Hc H->Den K Hc x d->pt d=cz ds->n<=Y.length->(∀vs,DenAll K Hc vs ds->vs.length=n->Q (vs.map cz++Y.drop n) H)->g x Y H Q
def pt1(d:D):Option (List D):=cz [d]
def pt2:D->Option (List D)
 |.tuple [a,b]=>cz [a,b]
 |_=>el
def T4:TgR K (Q4 0) 1 pt1:=by
 intro H Hc x d ds Y Q e hd hp hn k;cases hp
 cases Y with
 |nil=>simp at hn
 |cons o Y=>exact k [x] (denAll_cons hd denAll_nil) rfl
def b5x:TgR K (b7V K 2 (a2u (Q4 0) (a2u (Q4 1) b4Y))) 2 pt2:=by
 intro H Hc x d ds Y Q e hd hp hn k
 match d,hp with
 |.tuple [a,b],hp=>
  cases hp
  obtain⟨aa,xs,rfl,h1,h2⟩:=hd.tup_inv;obtain⟨v,w,rfl,h3,h4⟩:=a2k h2
  match Y,hn with
  |o::o'::Y,_=>
   exact⟨aa,_,rfl,P9 h1 e,rfl,v,[w],rfl,w,[],rfl,rfl,k [v,w] (denAll_cons h3 (denAll_cons h4 denAll_nil)) rfl⟩
def O9(pt:D->Option (List D))(t:EvT)(g:EvE)(cs:List D):List D->Option (List D)
 |[]=>cz []
 |d::ds=>(pt d).bind λbs=>(t (bs++cs)).bind λk=>if k then (g (bs++cs)).bind λy=>(O9 pt t g cs ds).bind λys=>cz (y::ys) else O9 pt t g cs ds
def r9(fi:EvA)(js:List Nat)(pt:D->Option (List D))(t:EvT)(g:EvE):EvE:=λU=>(fi U).bind λds=>if ds.length<=1000000 then (O9 pt t g (js.map λj=>U.getD j .none) ds).bind λys=>cz (.list ys) else el
def tT:EvT:=λ_=>cz fx
def W8(m:Md)(n:Nat)(M:List Md)(js:List Nat):List Md:=aL n m++js.map λj=>M.getD j .dead
section
variable {K:af}{J:It}{Pr:Hp->Prop}{xs:List V}{Dl:aw}{g:TG}{tt:TT}{te:TE}{Y:L2.St}{H:Hp}{R:Hp->Prop}
def b0x(hw:Walks J Pr xs)(Pv:Nat->List V->L2.St->Hp->Prop)(h0:Pv 0 [] Y (upd H Dl (.lst [])))(hp:∀i ys Y H,Pv i ys Y H->Pr H)
  (hs:∀i x ys Y H,xs[i]?=cz x->Pv i ys Y H->g x Y H λY3 H3=>tt Y3 H3 λb H4=>if b=fx then te Y3 H4 λy H5=>H5 Dl=cz (.lst ys)/\ys.length<aQ/\Pv (i+1) (ys++[y]) Y3 (upd H5 Dl (.lst (ys++[y]))) else Pv (i+1) ys Y3 H4)
  (hd:∀ys Y H,Pv xs.length ys Y H->R H) :
  ∃W:Nat->Nat->List V->L2.St->Hp->Prop,(∃m,W 0 m [] Y (upd H Dl (.lst [])))/\∀i m ys Y' H',W i m ys Y' H'->(J.stop i H'/\R H')\/
   (J.go i H'/\∃(N:V->L2.St->Hp->Prop) (NO:L2.St->Hp->Prop),(∀y Y3 H4,N y Y3 H4->H4 Dl=cz (.lst ys)/\ys.length<aQ/\∃m',m'<m/\W (i+1) m' (ys++[y]) Y3 (upd H4 Dl (.lst (ys++[y]))))/\
    (∀Y3 H4,NO Y3 H4->∃m',m'<m/\W (i+1) m' ys Y3 H4)/\∀x H2,J.yld i H' x H2->g x Y' H2 λY3 H3=>tt Y3 H3 λb H4=>if b=fx then te Y3 H4 λy H5=>N y Y3 H5 else NO Y3 H4):=by
 refine⟨λi m ys Y H=>m=xs.length-i/\i<=xs.length/\Pv i ys Y H,⟨xs.length,by simp,cI _,h0⟩,?_⟩;rintro i m ys Y H ⟨rfl,hi,p⟩;have q:=hp i ys Y H p;by_cases gQ:i<xs.length
 ·refine .inr ⟨hw.go i H q gQ,λy Y3 H4=>H4 Dl=cz (.lst ys)/\ys.length<aQ/\Pv (i+1) (ys++[y]) Y3 (upd H4 Dl (.lst (ys++[y]))),λY3 H4=>Pv (i+1) ys Y3 H4,λy Y3 H4 ⟨r1,r2,r3⟩=>⟨r1,r2,xs.length-(i+1),by lia,rfl,gQ,r3⟩,λY3 H4 r3=>⟨xs.length-(i+1),by lia,rfl,gQ,r3⟩,λx H' y=>?_⟩;obtain⟨e,yy⟩:=hw.yld i H x H' q gQ y;subst e;exact hs i x ys Y _ yy p
 ·have e:i=xs.length:=by lia
  subst e;exact .inl ⟨hw.stop _ H q (aG _),hd ys Y H p⟩
end
def b2w{js:List Nat}(S:StE K M U Y H P F)(hm:m=.i\/m=.f)(hv:DenAll K (cut H F) vs bs)(hi:m=.i->g9 bs=fx)(hn:vs.length=n)
  (hY:Yb=vs.map cz++js.map λj=>(Y[j]?).getD el):StE K (W8 (.own m) n M js) (bs++js.map λj=>U.getD j .none) Yb H P F:=by
 obtain⟨G,h1,h3⟩:=S.all;obtain⟨G',q,hq⟩:=h1.pick h3 js;refine⟨⟨G',?_,hq⟩,S.lst,S.prot⟩;subst hY hn;unfold W8;have key:∀{vs:List V} {bs:List D},DenAll K (cut H F) vs bs->(m=.i->g9 bs=fx)->StAll K H F (aL vs.length (.own m)++js.map λj=>M.getD j .dead) (bs++js.map λj=>U.getD j .none) (vs.map cz++js.map λj=>(Y[j]?).getD el) G':=by
  intro vs
  induction vs with
  |nil=>
   intro bs h _;have hl:=h.length;have:bs=[]:=dR.mp (by simpa using hl.symm);subst this;exact q
  |cons v vs ih=>
   intro bs h hi;cases bs with
   |nil=>have:=h.length;simp at this
   |cons b bs=>
    obtain⟨v',r,e,h4,h5⟩:=h.cons_inv;cases e
    have:=l9 (K:=K) (H:=H) (F:=F) (m:=.own m) (d:=b) (o:=cz v) (f:=[]) ⟨v,rfl,by
     rcases hm with rfl|rfl
     ·have:=hi rfl;simp only[g9,av]at this;simp only[Own];exact⟨trivial,this.1,h4⟩
     ·simp only[Own];exact⟨trivial,h4⟩⟩ (ih h5 λe=>by have:=hi e;simp only[g9,av]at this;exact this.2)
    simpa[jl]using this
 exact key hv hi
def a7S(h:O9 pt t g cs (d::ds)=cz rs) :
  ∃bs k,pt d=cz bs/\t (bs++cs)=cz k/\((k=fx/\∃y ys,g (bs++cs)=cz y/\O9 pt t g cs ds=cz ys/\rs=y::ys)\/(k=p4/\O9 pt t g cs ds=cz rs)):=by
 simp only[O9]at h;obtain⟨bs,h1,g1⟩:=bnd h;obtain⟨k,h2,g2⟩:=bnd g1;refine⟨bs,k,h1,h2,?_⟩;cases k with
 |true=>
  rw[aJ rfl]at g2;obtain⟨y,h3,g3⟩:=bnd g2;obtain⟨ys,h4,g4⟩:=bnd g3;cases g4
  exact .inl ⟨rfl,y,ys,h3,h4,rfl⟩
 |false=>
  rw[aN bc]at g2;exact .inr ⟨rfl,g2⟩
section
variable {X:Cx}{M:List Md}{tn ys:List bt}{js:List Nat}{scope:gy}{elt tg iter:Expr}{ifs:List Expr}{pos:eA}{g:TG}{n:Nat}{pt:D->Option (List D)}{fi:EvA}{ft:EvT}{fe:EvE}{u m:Ty}
def a4t(hi:∀(U:List D) (Y:L2.St) (H P:Hp) (F:List aw) (ds:List D) (R:It->Hp->Prop),StE X.K M U Y H P F->fi U=cz ds->
   (∀J xs Pr H1,Same H H1->Walks J Pr xs->(∀H2,Same (cut H1 F) H2->Pr H2)->DenAll X.K (cut H1 F) xs ds->R J H1)->wi Y H R)
  (hg:TgR X.K g n pt) (hm:m=.i\/m=.f) (qH:m=.i->∀U ds,fi U=cz ds->∀d∈ds,∀bs,pt d=cz bs->g9 bs=fx) (wo:tn.length=n)
  (S:StE X.K M U Y H P F) (hf:r9 fi js pt ft fe U=cz d) (q:∀v H',Same H H'->ResR X.K (.new (.l u)) H H' F v d->Q v H') :
  a5o wi g (spT X.K (W8 (.own m) n M js) ft) (spE X.K (W8 (.own m) n M js) fe (.new u)) (a1i tn js) Y H Q:=by
 obtain⟨ds,h1,g1⟩:=bnd hf;by_cases hz:ds.length<=1000000
 ·rw[aJ hz]at g1;obtain⟨res,h2,g2⟩:=bnd g1;cases g2
  refine hi U Y H P F ds _ S h1 λJ xs Pr H1 e1 hw ud hx Dl hD=>?_
  have qD:=hx.length;have Ic:Dl∉F:=λz=>by obtain⟨zs,w⟩:=S.lst' e1 Dl z;rw[hD]at w;cases w
  refine b0x hw (λi ys Y' H'=>(∃os:L2.St,os.length=n/\Y'=os++js.map λj=>(Y[j]?).getD el)/\H' Dl=cz (.lst ys)/\Same H1 H'/\∃(fp:List aw) (zs rs:List D),ListAll (Own X.K H' (Dl::fp++F) u) ys zs fp/\fp.Nodup/\(∀a∈fp,H1 a=el)/\Dl∉fp/\
    O9 pt ft fe (js.map λj=>U.getD j .none) (ds.drop i)=cz rs/\res=zs++rs/\ys.length<=i) ?_ ?_ ?_ ?_
  ·exact⟨⟨_,by rw[gn];exact wo,rfl⟩,i7,j9 hD _,[],[],res,n5,bg,λa ha=>(nomatch ha),λh=>(nomatch h),h2,rfl,aG _⟩
  ·rintro i ys Y' H' ⟨_,_,e,_⟩;exact ud H' (i8.trans e)
  ·rintro i x ys Y' H' sU ⟨⟨os,ho,rfl⟩,vc,e2,fp,zs,rs,oM,ja,pO,qV,hc,qG,ya⟩;obtain⟨d,qP,_⟩:=hx.getV sU;have nr:i<ds.length:=(aP.mp qP).1;have lX:ds.drop i=d::ds.drop (i+1):=by
    rw[fE nr]
    congr 1;exact (aP.mp qP).2
   rw[lX]at hc;obtain⟨bs,k,BF,EZ,EY⟩:=a7S hc;have hfl:∀a∈Dl::fp,∃zs:MuO,H' a=cz zs.1:=λa ha=>by
    rcases aD.mp ha with z|z
    ·subst z;exact⟨⟨.lst ys,trivial⟩,vc⟩
    ·exact oM.lst (u:=u) (λv d f q=>q.lst u) a z
   have oI:∀a∈Dl::fp,H1 a=el:=λa ha=>by
    rcases aD.mp ha with z|z
    ·subst z;exact hD
    ·exact pO a z
   have S1:StE X.K M U Y H' P (Dl::fp++F):=(S.grow e1).more (fp:=Dl::fp) e2 oI hfl;have Ag:DenAll X.K (cut H' (Dl::fp++F)) xs ds:=hx.up (a0v (fp:=Dl::fp) e2 oI);obtain⟨d',wY,uv⟩:=Ag.getV sU;rw[qP]at wY;cases wY
   refine hg H' _ x d bs _ _ i8 uv BF (by rw[bh,ho];lia) λvs oZ yc=>?_
   rw[List.drop_append_of_le_length (by lia),List.drop_of_length_le (by lia),cj];have SB:StE X.K (W8 (.own m) n M js) (bs++js.map λj=>U.getD j .none) (vs.map cz++js.map λj=>(Y[j]?).getD el) H' P (Dl::fp++F):=
    b2w S1 hm oZ (λe=>qH e U ds h1 d (bx qP) bs BF) yc rfl
   refine⟨_,P,_,k,SB,EZ,λH3 e3=>?_⟩;rcases EY with⟨rfl,y,rest,EX,zy,rfl⟩|⟨rfl,zy⟩
   ·refine a2z ⟨_,P,_,y,SB.grow e3,EX,λv H4 e4 ⟨gp,o,nd,fr⟩=>?_⟩;have yA:=e3.trans e4;have BX:Dl∉gp:=λz=>by have w:=fr Dl z;rw[e3 _ _ vc]at w;cases w
    have FC:∀a∈gp,a∉fp:=λa ha z=>by
     obtain⟨zs,w⟩:=hfl a (au _ z);have w2:=fr a ha;rw[e3 _ _ w]at w2;cases w2
    have jt:∀a,a∈Dl::(fp++gp)++F->a∈gp++(Dl::fp++F):=λa ha=>by
     simp only[bA,aD,aC]at ha ⊢;rcases ha with z|(z|z)|z
     ·exact .inr (.inl z)
     ·exact .inr (.inr (.inl z))
     ·exact .inl z
     ·exact .inr (.inr (.inr z))
    have Aj:Same (cut H' (Dl::fp++F)) (cut (upd H4 Dl (.lst (ys++[v]))) (Dl::(fp++gp)++F)):=λa o' ha=>by
     obtain⟨n1,n2⟩:=o9 ha;have ik:a≠Dl:=λz=>n1 (by rw[z];exact aM _ ar)
     refine k6 (λz=>?_) (by rw[f8 ik];exact yA _ _ n2);rcases aC.mp (jt a z) with w|w
     ·have:=fr a w;rw[e3 _ _ n2]at this;cases this
     ·exact n1 w
    have FW:Same (cut H4 (gp++(Dl::fp++F))) (cut (upd H4 Dl (.lst (ys++[v]))) (Dl::(fp++gp)++F)):=λa o' ha=>by
     obtain⟨n1,n2⟩:=o9 ha;have ik:a≠Dl:=λz=>n1 (by rw[z];exact ax _ (aM _ ar))
     exact k6 (λz=>n1 (jt a z)) (by rw[f8 ik];exact n2)
    refine⟨yA _ _ vc,?_,⟨_,by rw[ao];exact yc,rfl⟩,i7,?_,fp++gp,zs++[y],rest,?_,?_,?_,?_,zy,by rw[qG,bw];rfl,by rw[bh];simp;lia⟩
    ·exact ip (cx ya (cx (dZ nr) hz)) (by rw[cE];decide)
    ·exact b2g (e2.trans yA) hD _
    ·refine (n6 Aj oM λa ha=>?_).append ?_
     ·rw[f8 (show a≠Dl from λz=>qV (z▸ha))];obtain⟨zs,w⟩:=hfl a (au _ ha);rw[w,yA _ _ w]
     ·have:=m7 (R:=Own X.K (upd H4 Dl (.lst (ys++[v]))) (Dl::(fp++gp)++F) u) (o.frame FW u λa ha=>f8 (λz=>BX (z▸ha))) n5
      rwa[bH]at this
    ·rw[bo];exact⟨ja,nd,λa ha b hb e=>FC b hb (e▸ha)⟩
    ·intro a ha;rcases aC.mp ha with z|z
     ·exact pO a z
     ·exact (e2.trans e3).free (fr a z)
    ·intro z;rcases aC.mp z with w|w
     ·exact qV w
     ·exact BX w
   ·refine a3Q ?_;have Aj:Same (cut H' (Dl::fp++F)) (cut H3 (Dl::fp++F)):=D4 e3;refine⟨⟨_,by rw[ao];exact yc,rfl⟩,e3 _ _ vc,e2.trans e3,fp,zs,rs,n6 Aj oM λa ha=>?_,ja,pO,qV,zy,qG,by lia⟩;obtain⟨zs,w⟩:=hfl a (au _ ha);rw[w,e3 _ _ w]
  ·rintro ys Y' H' ⟨_,vc,e2,fp,zs,rs,oM,ja,pO,qV,hc,qG,_⟩;rw[qD,kK]at hc;cases hc
   rw[bH]at qG;subst qG;refine q (.ref Dl) H' (e1.trans e2) ⟨Dl::fp,?_,bD.mpr ⟨qV,ja⟩,λa ha=>?_⟩
   ·simp only[Own];exact .inr ⟨Dl,ys,res,fp,rfl,vc,rfl,rfl,oM⟩
   ·rcases aD.mp ha with z|z
    ·subst z;exact e1.free hD
    ·exact e1.free (pO a z)
 ·rw[aN hz]at g1;cases g1
def a0y(hc:X.calm=fx)(hi:PIX X M tg iter fi)(C:X8 scope X.env.kindOf ys js X.N=fx)(hg:∀cl Cl s H fp,PG (O3 X (tn++ys) scope cl Cl s H fp) tg g)(wQ:TgR X.K g n pt)(hm:m=.i\/m=.f)
  (qH:m=.i->∀U ds,fi U=cz ds->∀d∈ds,∀bs,pt d=cz bs->g9 bs=fx) (wo:tn.length=n)
  (ht:∀cl Cl s H fp,PTs (O3 X (tn++ys) scope cl Cl s H fp) ifs (spT X.K (W8 (.own m) n M js) ft)) (he:∀cl Cl s H fp,PX (O3 X (tn++ys) scope cl Cl s H fp) (W8 (.own m) n M js) elt fe (.new u))
  (hs:∀x,eO iter X.env x=pure x:=by intro _;rfl):PX X M (.ListComp elt [⟨tg,iter,ifs,0⟩] scope pos) (r9 fi js pt ft fe) (.new (.l u)):=by
 obtain⟨wi,pi,qi⟩:=hi;exact .mk ⟨_,b2h (te:=spE X.K (W8 (.own m) n M js) fe (.new u)) hc pi C hg ht he hs,λU Y H P F d Q S hf q=>a4t qi wQ hm qH wo S hf q⟩
def Y0:∀{X':Cx} {M':List Md},PTs X' [] (spT X'.K M' tT):=λ{X' M'} pins s Y H Q I ⟨U,P,F,b,S,hb,q⟩=>by
 cases hb
 exact b5n pins s Y H Q I (q H (Same.refl _))
def b2x(h:PTX X' M' c f):PTs X' [c] (spT X'.K M' f):=b5o h
def a9p:(Ty.f=Ty.i)->∀(U ds:List D),fi U=cz ds->∀d∈ds,∀bs,pt d=cz bs->g9 bs=fx:=λh=>nomatch h
def a9q:(Ty.i=Ty.i)->∀(U ds:List D),iI fi U=cz ds->∀d∈ds,∀bs,pt1 d=cz bs->g9 bs=fx:=λ_ U ds h d hd bs hb=>by
 obtain⟨es,_,g1⟩:=bnd h;by_cases c:g9 es=fx
 ·rw[aJ c]at g1;cases g1
  cases hb
  simp only[g9,fN];exact E5 c hd
 ·rw[aN c]at g1;cases g1
def a0z(lo:Int)(n:Nat):g9 (G9 lo n)=fx:=by
 have:∀l:List Nat,g9 (l.map λ(k:Nat)=>aI (lo+k))=fx:=by
  intro l
  induction l with
  |nil=>simp only[de,g9]
  |cons x l ih=>simp only[aA,g9,imm,ih,gk]
 exact this _
def b7a:(Ty.i=Ty.i)->∀(U ds:List D),iR fa U=cz ds->∀d∈ds,∀bs,pt1 d=cz bs->g9 bs=fx:=λ_ U ds h d hd bs hb=>by
 obtain⟨x,h1,g1⟩:=bnd h;obtain⟨k,h2,g2⟩:=bnd g1
 split at g2
 ·cases g2
  cases hb
  simp only[g9,fN];exact E5 (a0z _ _) hd
 ·cases g2
end
section
variable {K:af}{H H' P:Hp}{F F':List aw}
theorem StAll.split:∀{A B:List Md} {U:List D} {Y:L2.St} {G:List aw},StAll K H F (A++B) U Y G->∃U1 U2 Y1 Y2 G1 G2,U=U1++U2/\Y=Y1++Y2/\G=G1++G2/\StAll K H F A U1 Y1 G1/\StAll K H F B U2 Y2 G2
 |[],B,U,Y,G,h=>⟨[],U,[],Y,[],G,rfl,rfl,rfl,N1,h⟩
 |m::A,B,_,_,_,h=>by
  simp only[bA,StAll]at h;obtain⟨d,U,o,Y,f,g,rfl,rfl,rfl,h1,h2⟩:=h;obtain⟨U1,U2,Y1,Y2,G1,G2,rfl,rfl,rfl,h3,h4⟩:=StAll.split h2;exact⟨d::U1,U2,o::Y1,Y2,f++G1,G2,rfl,rfl,by rw[bw],l9 h1 h3,h4⟩
theorem StAll.join:∀{A B:List Md} {U1 U2:List D} {Y1 Y2:L2.St} {G1 G2:List aw},StAll K H F A U1 Y1 G1->StAll K H F B U2 Y2 G2->StAll K H F (A++B) (U1++U2) (Y1++Y2) (G1++G2)
 |[],B,_,_,_,_,_,_,h,q=>by
  simp only[StAll]at h;obtain⟨rfl,rfl,rfl⟩:=h;exact q
 |m::A,B,_,_,_,_,_,_,h,q=>by
  simp only[StAll]at h;obtain⟨d,U,o,Y,f,g,rfl,rfl,rfl,h1,h2⟩:=h;rw[bw];exact l9 h1 (StAll.join h2 q)
def a6s{α:Type}{a b c d:List α}(h:a++b=c++d)(hl:a.length=c.length):a=c/\b=d:=List.append_inj h hl
def StAll.splitAt{A B:List Md}{U1 U2:List D}{Y1 Y2:L2.St}(h:StAll K H F (A++B) (U1++U2) (Y1++Y2) G)(hU:U1.length=A.length)(hY:Y1.length=A.length):∃G1 G2,G=G1++G2/\StAll K H F A U1 Y1 G1/\StAll K H F B U2 Y2 G2:=by
 obtain⟨r1,r2,s1,s2,G1,G2,e1,e2,e3,h1,h2⟩:=h.split;obtain⟨l1,l2⟩:=h1.len;obtain⟨rfl,rfl⟩:=a6s e1 (by lia);obtain⟨rfl,rfl⟩:=a6s e2 (by lia);exact⟨G1,G2,e3,h1,h2⟩
theorem a0A:∀{us:List Ty} {vs:List V} {ds:List D} {G:List aw},StAll K H F (us.map Md.own) ds (vs.map cz) G->OwnTs K H F us vs ds G
 |[],vs,ds,G,h=>by
  simp only[de,StAll]at h;obtain⟨rfl,e,rfl⟩:=h;have:vs=[]:=by simpa using e
  subst this;simp only[OwnTs];exact⟨trivial,trivial,trivial⟩
 |u::us,vs,ds,G,h=>by
  simp only[aA,StAll]at h;obtain⟨d,U,o,Y,f,g,rfl,e,rfl,⟨v,rfl,h1⟩,h2⟩:=h;cases vs with
  |nil=>simp at e
  |cons v' vs=>
   simp only[aA,IF,nW]at e;obtain⟨rfl,rfl⟩:=e;simp only[OwnTs];exact⟨v',vs,d,U,f,g,rfl,rfl,rfl,h1,a0A h2⟩
end
def Pend(K:af)(Mp:List Md)(Up:List D)(Yp:L2.St)(M:List Md)(U:List D)(Y:L2.St)(H P:Hp)(F:List aw):Prop:=
 Up.length=Mp.length/\Yp.length=Mp.length/\StR K (Mp++M) (Up++U) (Yp++Y) H P F
section
variable {K:af}{Mp M:List Md}{Up U:List D}{Yp Y:L2.St}{H H' P:Hp}{F:List aw}
def Pend.e(h:Pend K Mp Up Yp M U Y H P F):StE K M U Y H P F:=by
 obtain⟨l1,l2,S⟩:=h;obtain⟨G,h1,h2,h3⟩:=S.all;obtain⟨G1,G2,rfl,_,h4⟩:=h1.splitAt l1 l2;exact⟨⟨G2,h4,λa ha=>h3 a (ax _ ha)⟩,S.lst,S.prot⟩
theorem Pend.grow(h:Pend K Mp Up Yp M U Y H P F)(e:Same H H'):Pend K Mp Up Yp M U Y H' P F:=⟨h.1,h.2.1,h.2.2.grow e⟩
def Pend.new(h:Pend K Mp Up Yp M U Y H P F)(e:Same H H')(o:Own K H' (fp++F) u v d fp)(nd:fp.Nodup)(fr:∀a∈fp,H a=el):Pend K (Mp++[.own u]) (Up++[d]) (Yp++[cz v]) M U Y H' P (fp++F):=by
 obtain⟨l1,l2,S⟩:=h;refine⟨by simp[l1],by simp[l2],?_⟩;have S1:=S.more e fr (o.lst u);obtain⟨G,h1,h2,h3⟩:=S.all;obtain⟨G1,G2,rfl,h4,h5⟩:=h1.splitAt l1 l2;have hc:Same (cut H F) (cut H' (fp++F)):=a0v e fr;have k:∀a∈G1++G2,H' a=H a:=λa ha=>S.toE.keep e a (h3 a ha)
 have q:=(h4.frame hc λa ha=>k a (aM _ ha)).join ((l9 (m:=.own u) (d:=d) (o:=cz v) (f:=fp) ⟨v,rfl,o⟩ (h5.frame hc λa ha=>k a (ax _ ha))));refine⟨⟨G1++(fp++G2),by simpa using q,a1m h2 nd λa ha z=>?_,λa ha=>?_⟩,S1.lst,S1.prot⟩
 ·obtain⟨ys,w⟩:=S.lst a (h3 a z);rw[fr a ha]at w;cases w
 ·rcases a5r ha with z|z
  ·exact aM _ z
  ·exact ax _ (h3 a z)
def Pend.move(h:Pend K Mp Up Yp M U Y H P F)(hm:M[i]?=cz (.own u)):∃v,Y[i]?=cz (cz v)/\Pend K (Mp++[.own u]) (Up++[U.getD i .none]) (Yp++[cz v]) (M.set i .dead) U Y H P F:=by
 obtain⟨l1,l2,S⟩:=h;obtain⟨G,h1,h2,h3⟩:=S.all;obtain⟨G1,G2,rfl,h4,h5⟩:=h1.splitAt l1 l2;obtain⟨d,o,f,pre,post,e1,e2,⟨v,rfl,e3⟩,rfl,e5⟩:=h5.at_ hm;have q:=e5 H F .dead d (cz v) [] (λ_ _=>rfl) (Same.refl _) rfl;rw[set_same e1,set_same e2]at q;refine⟨v,e2,by simp[l1],by simp[l2],⟨⟨G1++(f++(pre++([]++post))),?_,?_,λa ha=>h3 a ?_⟩,S.lst,S.prot⟩⟩
 ·have:=h4.join (l9 (m:=.own u) (d:=d) (o:=cz v) (f:=f) ⟨v,rfl,e3⟩ q);rw[y9 e1];simpa using this
 ·rw[cj];refine (List.Perm.nodup_iff ?_).mp h2;refine vp G1 ?_;exact List.perm_append_comm_assoc pre f post
 ·simp only[aC,cj]at ha ⊢;rcases ha with z|z|z|z
  ·exact .inl z
  ·exact .inr (.inr (.inl z))
  ·exact .inr (.inl z)
  ·exact .inr (.inr (.inr z))
end
def PMX(X:Cx)(M:List Md)(e:Expr)(f:EvE)(u:Ty)(M1:List Md):Prop:=
 ∃t,PE X e t/\∀(Mp:List Md) (Up:List D) (Yp:L2.St) (U:List D) (Y:L2.St) (H P:Hp) (F:List aw) (d:D) (Q:VK),Pend X.K Mp Up Yp M U Y H P F->f U=cz d->
  (∀v H' F',Same H H'->Pend X.K (Mp++[.own u]) (Up++[d]) (Yp++[cz v]) M1 U Y H' P F'->Q v H')->t Y H Q
section
variable {X:Cx}{M M1 M2:List Md}{e:Expr}{es:List Expr}{f:EvE}{fa:EvA}{u:Ty}{us:List Ty}{pos:eA}
def b9(h:PX X M e f (.new u)):PMX X M e f u M:=by
 obtain⟨t,p,q⟩:=h.out;refine⟨t,p,λMp Up Yp U Y H P F d Q S hf k=>q U Y H P F d Q S.e hf λv H' e ⟨fp,o,nd,fr⟩=>k v H' _ e (S.new e o nd fr)⟩
def T5(i:Nat)(hN:X.N[i]?=cz x:=by rfl)(hv:autoParam (NmV X x) ZY._auto_1)(hm:M[i]?=cz (.own u):=by rfl):PMX X M (.Name x pos) (b7 i) u (M.set i .dead):=by
 refine⟨_,A8 hN hv.1 hv.2.1 hv.2.2,λMp Up Yp U Y H P F d Q S hf k=>?_⟩;cases hf
 obtain⟨v,e,S'⟩:=S.move hm;exact⟨v,e,k v H F (Same.refl _) S'⟩
end
def dAt:Ty->D->List Nat->Option (Ty×D)
 |u,d,[]=>cz (u,d)
 |.l u,.list ds,j::p=>(ds[j]?).bind λd=>dAt u d p
 |.tp us,.tuple ds,j::p=>(us[j]?).bind λu=>(ds[j]?).bind λd=>dAt u d p
 |_,_,_=>el
def a2L:D->List Nat->D->D
 |_,[],e=>e
 |.list ds,j::p,e=>.list (ds.set j (a2L (ds.getD j .none) p e))
 |.tuple ds,j::p,e=>.tuple (ds.set j (a2L (ds.getD j .none) p e))
 |d,_,_=>d
def wk(H:Hp):V->List Nat->V->Prop
 |v,[],w=>w=v
 |v,j::p,w=>∃a xs v1,v=.ref a/\(H a=cz (.lst xs)\/H a=cz (.tup xs))/\xs[j]?=cz v1/\wk H v1 p w
theorem b7b(e:Same H H'):∀{p:List Nat} {v w:V},wk H v p w->wk H' v p w
 |[],_,_,h=>h
 |j::p,_,_,h=>by
  obtain⟨a,xs,v1,h1,h2,h3,h4⟩:=h;exact⟨a,xs,v1,h1,h2.imp (e _ _) (e _ _),h3,b7b e h4⟩
section
variable {K:af}{H H':Hp}{F F':List aw}
theorem ListAll.zip:∀{ds:List D} {xs:List V} {fp:List aw} {j:Nat} {d:D},ListAll (Own K H F u) xs ds fp->ds[j]?=cz d->
  ∃v f pre post,xs[j]?=cz v/\Own K H F u v d f/\fp=pre++(f++post)/\
   ∀(H':Hp) (F':List aw) (v':V) (d':D) (f':List aw),(∀a∈pre++post,H' a=H a)->Same (cut H F) (cut H' F')->Own K H' F' u v' d' f'->ListAll (Own K H' F' u) (xs.set j v') (ds.set j d') (pre++(f'++post))
 |[],_,_,j,d,_,e=>by simp at e
 |d0::ds,_,_,0,d,h,e=>by
  obtain⟨v,r,f,g,rfl,rfl,h1,h2⟩:=h.cons_inv;have:d0=d:=by simpa using e
  subst this;refine⟨v,f,[],g,rfl,h1,rfl,λH' F' v' d' f' k e' o=>?_⟩;show ListAll (Own K H' F' u) (v'::r) (d'::ds) (f'++g);exact m7 o (n6 e' h2 k)
 |d0::ds,_,_,j+1,d,h,e=>by
  obtain⟨v,r,f,g,rfl,rfl,h1,h2⟩:=h.cons_inv;obtain⟨w,f',pre,post,e1,e2,e3,e4⟩:=ListAll.zip (j:=j) h2 (by simpa using e);subst e3;refine⟨w,f',f++pre,post,by simpa using e1,e2,by rw[bw],λH' F' v' d' g' k e' o=>?_⟩;rw[bw];refine m7 (h1.frame e' u λa ha=>k a ?_) (e4 H' F' v' d' g' (λa ha=>k a ?_) e' o)
  ·rw[bw];exact aM _ ha
  ·rw[bw];exact ax _ ha
theorem OwnTs.zip:∀{us:List Ty} {ds:List D} {xs:List V} {fp:List aw} {j:Nat} {u:Ty} {d:D},OwnTs K H F us xs ds fp->us[j]?=cz u->ds[j]?=cz d->
  ∃v f pre post,xs[j]?=cz v/\Own K H F u v d f/\fp=pre++(f++post)/\
   ∀(H':Hp) (F':List aw) (d':D) (f':List aw),(∀a∈pre++post,H' a=H a)->Same (cut H F) (cut H' F')->Own K H' F' u v d' f'->OwnTs K H' F' us xs (ds.set j d') (pre++(f'++post))
 |[],_,_,_,j,u,d,_,e,_=>by simp at e
 |u0::us,_,_,_,0,u,d,h,e,e'=>by
  simp only[OwnTs]at h;obtain⟨v,r,d0,ds,f,g,rfl,rfl,rfl,h1,h2⟩:=h;have:u0=u:=by simpa using e
  subst this;have:d0=d:=by simpa using e'
  subst this;refine⟨v,f,[],g,rfl,h1,rfl,λH' F' d' f' k e' o=>?_⟩;show OwnTs K H' F' (u0::us) (v::r) (d'::ds) (f'++g);simp only[OwnTs];exact⟨v,r,d',ds,f',g,rfl,rfl,rfl,o,h2.frame e' us k⟩
 |u0::us,_,_,_,j+1,u,d,h,e,e'=>by
  simp only[OwnTs]at h;obtain⟨v,r,d0,ds,f,g,rfl,rfl,rfl,h1,h2⟩:=h;obtain⟨w,f',pre,post,e1,e2,e3,e4⟩:=OwnTs.zip (j:=j) h2 (by simpa using e) (by simpa using e');subst e3;refine⟨w,f',f++pre,post,by simpa using e1,e2,by rw[bw],λH' F' d' g' k e' o=>?_⟩;rw[bw];show OwnTs K H' F' (u0::us) (v::r) (d0::ds.set j d') (f++(pre++(g'++post)));simp only[OwnTs];refine⟨v,r,d0,_,f,_,rfl,rfl,rfl,h1.frame e' u0 λa ha=>k a ?_,e4 H' F' d' g' (λa ha=>k a ?_) e' o⟩
  ·rw[bw];exact aM _ ha
  ·rw[bw];exact ax _ ha
theorem Own.path:∀(p:List Nat) {u t:Ty} {v w:V} {d:D} {fp:List aw} {ds:List D},Own K H F u v d fp->dAt u d p=cz (.l t,.list ds)->wk H v p w->
  ∃b xs fs pre post,w=.ref b/\H b=cz (.lst xs)/\fp=pre++((b::fs)++post)/\ListAll (Own K H F t) xs ds fs/\
   ∀(H':Hp) (F':List aw) (mG:List V) (iN:List D) (kD:List aw),(∀a∈pre++post,H' a=H a)->Same (cut H F) (cut H' F')->H' b=cz (.lst mG)->ListAll (Own K H' F' t) mG iN kD->
    Own K H' F' u v (a2L d p (.list iN)) (pre++((b::kD)++post))
 |[],u,t,v,w,d,fp,ds,h,hd,hw=>by
  have lH:cz (u,d)=cz (.l t,.list ds):=hd;cases lH
  have EA:w=v:=hw;subst EA;simp only[Own]at h;rcases h with⟨_,hi,_⟩|⟨a,xs,iN,fs,rfl,h1,h2,rfl,h3⟩
  ·simp only[imm]at hi;cases hi
  ·cases h2
   refine⟨a,xs,fs,[],[],rfl,h1,by simp,h3,λH' F' mG iN kD _ _ k o=>?_⟩;simp only[Own,a2L,cj,bH];exact .inr ⟨a,mG,iN,kD,rfl,k,rfl,rfl,o⟩
 |j::p,u,t,v,w,d,fp,ds,h,hd,hw=>by
  obtain⟨a0,vx,v1,rfl,sW,u_,hw⟩:=hw;cases u with
  |l u=>
   cases d with
   |list es=>
    have lH:(es[j]?).bind (λd=>dAt u d p)=cz (.l t,.list ds):=hd;obtain⟨d1,g1,g2⟩:=bnd lH;simp only[Own]at h;rcases h with⟨_,hi,_⟩|⟨a,xs,fC,fs,e0,h1,h2,rfl,h3⟩
    ·simp only[imm]at hi;cases hi
    ·cases h2
     cases e0
     have zf:vx=xs:=by rcases sW with z|z<;>rw[h1]at z<;>cases z;rfl
     subst zf;obtain⟨v2,f,pre,post,z1,z2,rfl,z4⟩:=h3.zip g1;rw[u_]at z1;cases z1
     obtain⟨b,ys,kD,mT,kA,rfl,q2,rfl,q4,q5⟩:=Own.path p z2 g2 hw;refine⟨b,ys,kD,a0::(pre++mT),kA++post,rfl,q2,by simp,q4,λH' F' mG iN Av k e' hb o=>?_⟩;have k1:∀a∈pre++post,H' a=H a:=λa ha=>k a (by simp only[aC,aD]at ha ⊢;rcases ha with z|z;exact .inl (.inr (.inl z));exact .inr (.inr z))
     have k2:∀a∈mT++kA,H' a=H a:=λa ha=>k a (by simp only[aC,aD]at ha ⊢;rcases ha with z|z;exact .inl (.inr (.inr z));exact .inr (.inl z))
     have o1:=q5 H' F' mG iN Av k2 e' hb o;have o2:=z4 H' F' _ _ _ k1 e' o1;rw[set_same u_]at o2;show Own K H' F' (.l u) (.ref a0) (.list (es.set j (a2L (es.getD j .none) p (.list iN)))) _;rw[y9 g1];simp only[Own];refine .inr ⟨a0,vx,_,_,rfl,(k a0 (by simp)).trans h1,rfl,?_,o2⟩;simp
   |_=>cases hd
  |tp us=>
   cases d with
   |tuple es=>
    have lH:(us[j]?).bind (λu=>(es[j]?).bind λd=>dAt u d p)=cz (.l t,.list ds):=hd;obtain⟨u1,g0,GC⟩:=bnd lH;obtain⟨d1,g1,g2⟩:=bnd GC;simp only[Own]at h;rcases h with⟨_,hi,_⟩|⟨a,xs,fC,e0,h1,h0,h2,h3⟩
    ·exact (hi.2 _ rfl).elim
    cases h2
    cases e0
    have zf:vx=xs:=by rcases sW with z|z<;>rw[h1]at z<;>cases z;rfl
    subst zf;obtain⟨v2,f,pre,post,z1,z2,rfl,z4⟩:=h3.zip g0 g1;rw[u_]at z1;cases z1
    obtain⟨b,ys,kD,mT,kA,rfl,q2,rfl,q4,q5⟩:=Own.path p z2 g2 hw;refine⟨b,ys,kD,pre++mT,kA++post,rfl,q2,by simp,q4,λH' F' mG iN Av k e' hb o=>?_⟩;have k1:∀a∈pre++post,H' a=H a:=λa ha=>k a (by simp only[aC]at ha ⊢;rcases ha with z|z;exact .inl (.inl z);exact .inr (.inr z))
    have k2:∀a∈mT++kA,H' a=H a:=λa ha=>k a (by simp only[aC]at ha ⊢;rcases ha with z|z;exact .inl (.inr z);exact .inr (.inl z))
    have o1:=q5 H' F' mG iN Av k2 e' hb o;have o2:=z4 H' F' _ _ k1 e' o1;show Own K H' F' (.tp us) (.ref a0) (.tuple (es.set j (a2L (es.getD j .none) p (.list iN)))) _;rw[y9 g1];obtain⟨n1,n2⟩:=o9 (e' a0 _ (k6 h0 h1));simp only[Own];refine .inr ⟨a0,vx,_,rfl,n2,n1,rfl,?_⟩;simpa using o2
   |_=>cases hd
  |i=>cases hd
  |f=>cases hd
  |d kt u=>cases hd
def Q8{N O:List aw}(h:O.Nodup)(k:∀a,N.count a<=O.count a):N.Nodup:=cJ.mpr λa=>cx (k a) (cJ.mp h a)
def Pend.put(h:Pend K ([]++[.own t]) ([]++[d]) ([]++[cz v]) M U Y H P F)(hm:M[i]?=cz (.own u))(h0:Y[i]?=cz (cz v0))(hd:dAt u (U.getD i .none) p=cz (.l t,.list ds))(hw:wk H v0 p w) :
  ∃b xs,w=.ref b/\H b=cz (.lst xs)/\xs.length=ds.length/\StR K M (U.set i (a2L (U.getD i .none) p (.list (ds++[d])))) Y (upd H b (.lst (xs++[v]))) P F/\
   ∀j,j<ds.length->StR K M (U.set i (a2L (U.getD i .none) p (.list (ds.set j d)))) Y (upd H b (.lst (xs.set j v))) P F:=by
 obtain⟨_,_,S⟩:=h;obtain⟨G,h1,h2,h3⟩:=S.all;have lZ:StAll K H F (.own t::M) (d::U) (cz v::Y) G:=by simpa using h1
 simp only[StAll]at lZ;obtain⟨d',U',o',Y',fv,G2,e1,e2,rfl,⟨v',e3,ov⟩,h5⟩:=lZ;cases e1
 cases e2
 cases e3
 obtain⟨dd,oo,f,pre,post,q1,q2,⟨v2,rfl,q3⟩,rfl,q5⟩:=h5.at_ hm;rw[h0]at q2;cases q2
 rw[y9 q1]at hd;obtain⟨b,xs,fs,mT,kA,rfl,r2,rfl,r4,r5⟩:=q3.path p hd hw;have xi:b∈F:=h3 b (by simp);have fO:∀o,Same (cut H F) (cut (upd H b o) F):=λo a o' ha=>by
  obtain⟨n1,n2⟩:=o9 ha;exact k6 n1 (by rw[f8 (show a≠b from λz=>n1 (z▸xi))];exact n2)
 have iH:∀a,a≠b\/(pre++post).count a=0/\(mT++kA).count a=0/\fs.count a=0/\fv.count a=0:=λa=>by
  by_cases e:a=b
  ·subst e;have:=cJ.mp h2 a;simp only[bp,bA,gO]at this ⊢;exact .inr ⟨by lia,by lia,by lia,by lia⟩
  ·exact .inl e
 have kk:∀(l:List aw) (o:HO),(∀a,a=b->l.count a=0)->∀a∈l,upd H b o a=H a:=λl o hc a ha=>f8 λz=>by
  have:=hc a z;rw[dN]at this;exact this ha
 have c1:∀a,a=b->(pre++post).count a=0:=λa e=>((iH a).resolve_left (λn=>n e)).1
 have c2:∀a,a=b->(mT++kA).count a=0:=λa e=>((iH a).resolve_left (λn=>n e)).2.1
 have c3:∀a,a=b->fs.count a=0:=λa e=>((iH a).resolve_left (λn=>n e)).2.2.1
 have c4:∀a,a=b->fv.count a=0:=λa e=>((iH a).resolve_left (λn=>n e)).2.2.2
 have fin:∀(mG:List V) (iN:List D) (kD:List aw),ListAll (Own K (upd H b (.lst mG)) F t) mG iN kD->(∀a,kD.count a<=fs.count a+fv.count a)->StR K M (U.set i (a2L dd p (.list iN))) Y (upd H b (.lst mG)) P F:=λmG iN kD ha oJ=>by
  have o1:=r5 (upd H b (.lst mG)) F mG iN kD (kk _ _ c2) (fO _) i7 ha;have q:=q5 (upd H b (.lst mG)) F (.own u) (a2L dd p (.list iN)) (cz v0) _ (kk _ _ c1) (fO _) ⟨v0,rfl,o1⟩;rw[set_same (l:=Y) h0,set_same (l:=M) hm]at q;refine⟨⟨_,q,Q8 h2 λa=>?_,λa ha=>?_⟩,λa ha=>?_,S.prot.trans (fO _)⟩
  ·have:=oJ a;simp only[bp,bA,dt];lia
  ·have hc:0<(fv++(pre++(mT++(b::fs++kA)++post))).count a:=by
    have h0:=dm.mpr ha;have:=oJ a;simp only[bp,bA,dt]at h0 ⊢;lia
   exact h3 a (dm.mp hc)
  ·by_cases e:a=b
   ·subst e;exact⟨⟨.lst mG,trivial⟩,i7⟩
   ·obtain⟨ys,y⟩:=S.lst a ha;exact⟨ys,by rw[f8 e];exact y⟩
 rw[y9 q1];refine⟨b,xs,rfl,r2,r4.length,fin (xs++[v]) (ds++[d]) (fs++fv) ?_ λa=>by rw[bp];exact aG _,λj hj=>?_⟩
 ·refine (n6 (fO _) r4 (kk _ _ c3)).append ?_;have:=m7 (R:=Own K (upd H b (.lst (xs++[v]))) F t) (ov.frame (fO _) t (kk _ _ c4)) n5
  rwa[bH]at this
 ·obtain⟨v3,f3,a1,a2,s1,s2,rfl,s4⟩:=r4.zip (ay hj);have c5:∀a,a=b->(a1++a2).count a=0:=λa e=>by have:=c3 a e;simp only[bp]at this ⊢;lia
  refine fin (xs.set j v) (ds.set j d) (a1++(fv++a2)) (s4 _ F v d fv (kk _ _ c5) (fO _) (ov.frame (fO _) t (kk _ _ c4))) λa=>?_
  simp only[bp];lia
end
inductive Out where
 |nx (U:List D)|rt (d:D)|bk (U:List D)|ct (U:List D)
abbrev EvS:=List D->Option Out
def EndsOk(K:af)(P:Hp)(u:Ty)(ML M:List Md)(D:Ends)(o:Out):Prop:=
 match o with
 |.nx U=>∀Y H F,StR K M U Y H P F->D.nx Y H
 |.rt d=>∀v H fp,Own K H fp u v d fp->fp.Nodup->(∀a∈fp,P a=el)->Same P H->D.rt v H
 |.bk U=>∀Y H F,StR K ML U Y H P F->D.bk Y H
 |.ct U=>∀Y H F,StR K ML U Y H P F->D.ct Y H
def spS(K:af)(u:Ty)(ML M:List Md)(g:EvS)(M':List Md):TS:=λD Y H=>∃(U:List VS.D) (P:Hp) (F:List aw) (o:Out),StR K M U Y H P F/\g U=cz o/\EndsOk K P u ML M' D o
def PSX(X:Cx)(u:Ty)(ML M:List Md)(st:fS)(g:EvS)(M':List Md):Prop:=PS X st (spS X.K u ML M g M')
def PSsX(X:Cx)(u:Ty)(ML M:List Md)(sts:List fS)(g:EvS)(M':List Md):Prop:=PSs X sts (spS X.K u ML M g M')
section
variable {X:Cx}{u:Ty}{ML M M':List Md}{st:fS}{sts:List fS}{g:EvS}
def PSX.mk(h:∃t,PS X st t/\∀(D:Ends) (U:List VS.D) (Y:L2.St) (H P:Hp) (F:List aw) (o:Out),StR X.K M U Y H P F->g U=cz o->EndsOk X.K P u ML M' D o->t D Y H):PSX X u ML M st g M':=by
 obtain⟨t,p,q⟩:=h;exact λpins s Y H D I ⟨U,P,F,o,S,hg,k⟩=>p pins s Y H D I (q D U Y H P F o S hg k)
def PSX.out(h:PSX X u ML M st g M'):∃t,PS X st t/\∀(D:Ends) (U:List VS.D) (Y:L2.St) (H P:Hp) (F:List aw) (o:Out),StR X.K M U Y H P F->g U=cz o->EndsOk X.K P u ML M' D o->t D Y H:=
 ⟨_,h,λ_ U _ _ P F o S hg k=>⟨U,P,F,o,S,hg,k⟩⟩
def PSsX.mk(h:∃t,PSs X sts t/\∀(D:Ends) (U:List VS.D) (Y:L2.St) (H P:Hp) (F:List aw) (o:Out),StR X.K M U Y H P F->g U=cz o->EndsOk X.K P u ML M' D o->t D Y H):PSsX X u ML M sts g M':=by
 obtain⟨t,p,q⟩:=h;exact λpins s Y H D I ⟨U,P,F,o,S,hg,k⟩=>p pins s Y H D I (q D U Y H P F o S hg k)
def PSsX.out(h:PSsX X u ML M sts g M'):∃t,PSs X sts t/\∀(D:Ends) (U:List VS.D) (Y:L2.St) (H P:Hp) (F:List aw) (o:Out),StR X.K M U Y H P F->g U=cz o->EndsOk X.K P u ML M' D o->t D Y H:=
 ⟨_,h,λ_ U _ _ P F o S hg k=>⟨U,P,F,o,S,hg,k⟩⟩
end
def Wk(M M1:List Md):Prop:=∀(K:af) (U:List D) (Y:L2.St) (H P:Hp) (F:List aw),StR K M U Y H P F->∃F',StR K M1 U Y H P F'
def m6:Wk M M:=λ_ _ _ _ _ F S=>⟨F,S⟩
def Wk.trans(a:Wk M M1)(b:Wk M1 M2):Wk M M2:=λK U Y H P F S=>by
 obtain⟨F1,S1⟩:=a K U Y H P F S;exact b K U Y H P F1 S1
def m3{M:List Md}(i:Nat)(h:M[i]?=cz m:=by rfl):Wk M (M.set i .dead):=λK U Y H P F S=>⟨F,S.dead h⟩
def E6{M:List Md}(i:Nat)(h:M[i]?=cz (.own u):=by rfl):Wk M (M.set i (.own .f)):=λK U Y H P F S=>S.freeze h
def p8:EvS:=λU=>cz (.nx U)
noncomputable def i5(a b:EvS):EvS:=λU=>(a U).bind λo=>match o with
 |.nx U'=>b U'
 |o=>cz o
noncomputable def k9(i:Nat)(f:EvE):EvS:=λU=>(f U).bind λd=>cz (.nx (U.set i d))
def asP:D->Option (D×D)
 |.tuple [a,b]=>cz (a,b)
 |_=>el
def V0(i j:Nat)(f:EvE):EvS:=λU=>(f U).bind λd=>(asP d).bind λp=>cz (.nx ((U.set i p.1).set j p.2))
noncomputable def m9(f:EvE):EvS:=λU=>(f U).bind λd=>cz (.rt d)
def sEx(f:EvE):EvS:=λU=>(f U).bind λ_=>cz (.nx U)
noncomputable def sIf(c:EvT)(a b:EvS):EvS:=λU=>(c U).bind λk=>if k then a U else b U
def sNo:EvS:=λ_=>el
def T6(set:List D->D->Option (List D))(g:EvS):List D->List D->Option Out
 |[],U=>cz (.nx U)
 |d::ds,U=>(set U d).bind λU1=>(g U1).bind λo=>match o with
  |.nx U'=>T6 set g ds U'
  |.ct U'=>T6 set g ds U'
  |.bk U'=>cz (.nx U')
  |.rt d=>cz (.rt d)
def E7(i:Nat):List D->D->Option (List D):=λU d=>cz (U.set i d)
def a6t(i j:Nat):List D->D->Option (List D):=λU d=>(asP d).bind λp=>cz ((U.set i p.1).set j p.2)
noncomputable def M6(fi:EvA)(set:List D->D->Option (List D))(g:EvS):EvS:=λU=>(fi U).bind λds=>T6 set g ds U
def whL(c:EvT)(g:EvS):Nat->List D->Option Out
 |0,_=>el
 |n+1,U=>(c U).bind λk=>if k then (g U).bind λo=>match o with
  |.nx U'=>whL c g n U'
  |.ct U'=>whL c g n U'
  |.bk U'=>cz (.nx U')
  |.rt d=>cz (.rt d)
  else cz (.nx U)
def sWh(n:List D->Nat)(c:EvT)(g:EvS):EvS:=λU=>whL c g (n U) U
section
variable {K:af}{M M1:List Md}{U:List D}{Y:L2.St}{H P:Hp}{F:List aw}
def StR.pend(S:StR K M U Y H P F):Pend K [] [] [] M U Y H P F:=⟨rfl,rfl,S⟩
def Pend.store(h:Pend K (Mp++[.own u]) (Up++[d]) (Yp++[cz v]) M U Y H P F)(lp:Up.length=Mp.length)(lq:Yp.length=Mp.length)(hm:M[i]?=cz m) :
  Pend K Mp Up Yp (M.set i (.own u)) (U.set i d) (Y.set i (cz v)) H P F:=by
 obtain⟨_,_,S⟩:=h;obtain⟨G,h1,h2,h3⟩:=S.all;obtain⟨G1,G2,rfl,h4,h5⟩:=h1.splitAt (by simp[lp]) (by simp[lq]);obtain⟨G3,G4,rfl,h6,h7⟩:=h4.splitAt lp lq;have h8:OwnTs K H F [u] [v] [d] G4:=a0A (us:=[u]) (vs:=[v]) h7;simp only[OwnTs]at h8;obtain⟨v',r,d',e,f,g,e1,e2,rfl,o,rfl,rfl,rfl⟩:=h8;cases e1
 cases e2
 obtain⟨d0,o0,f0,pre,post,q1,q2,q3,rfl,q5⟩:=h5.at_ hm;have q:=h6.join (q5 H F (.own u) d (cz v) f (λ_ _=>rfl) (Same.refl _) ⟨v,rfl,o⟩);refine⟨lp,lq,⟨⟨_,q,Q8 h2 λa=>?_,λa ha=>h3 a ?_⟩,S.lst,S.prot⟩⟩
 ·simp only[bp];lia
 ·simp only[aC,bH]at ha ⊢;rcases ha with z|z|z|z
  ·exact .inl (.inl z)
  ·exact .inr (.inl z)
  ·exact .inl (.inr z)
  ·exact .inr (.inr (.inr z))
def Pend.st(h:Pend K [] [] [] M U Y H P F):StR K M U Y H P F:=h.2.2
def Pend.one(h:Pend K ([]++[.own u]) ([]++[d]) ([]++[cz v]) M U Y H P F):∃fp,Own K H F u v d fp/\fp.Nodup/\∀a∈fp,a∈F:=by
 obtain⟨_,_,S⟩:=h;obtain⟨G,h1,h2,h3⟩:=S.all;obtain⟨G1,G2,rfl,h4,h5⟩:=h1.splitAt (A:=[]++[.own u]) (U1:=[]++[d]) (Y1:=[]++[cz v]) rfl rfl;have h8:OwnTs K H F [u] [v] [d] G1:=a0A (us:=[u]) (vs:=[v]) h4;simp only[OwnTs]at h8;obtain⟨v',r,d',e,f,g,e1,e2,rfl,o,rfl,rfl,rfl⟩:=h8;cases e1
 cases e2
 rw[bH]at h2 h3;exact⟨f,o,(bo.mp h2).1,λa ha=>h3 a (aM _ ha)⟩
def b7c(u u1 u2:Ty):Prop:=(u=.f/\u1=.f/\u2=.f)\/(u=.i/\u1=.i/\u2=.i)\/u=.tp [u1,u2]
def Pend.untup(h:Pend K ([]++[.own u]) ([]++[.tuple [d1,d2]]) ([]++[cz v]) M U Y H P F)(hp:b7c u u1 u2) :
  ∃a v1 v2,v=.ref a/\SqT K H a [v1,v2]/\Pend K ([.own u1]++[.own u2]) ([d1]++[d2]) ([cz v1]++[cz v2]) M U Y H P F:=by
 obtain⟨_,_,S⟩:=h;obtain⟨G,h1,h2,h3⟩:=S.all;obtain⟨G1,G2,rfl,h4,h5⟩:=h1.splitAt (A:=[]++[.own u]) (U1:=[]++[.tuple [d1,d2]]) (Y1:=[]++[cz v]) rfl rfl;have h8:OwnTs K H F [u] [v] [.tuple [d1,d2]] G1:=a0A (us:=[u]) (vs:=[v]) h4;simp only[OwnTs]at h8;obtain⟨v',r,d',e,f,g,e1,e2,rfl,o,rfl,rfl,rfl⟩:=h8;cases e1
 cases e2
 have key:∃a v1 v2 f1 f2,v=.ref a/\SqT K H a [v1,v2]/\f=f1++f2/\Own K H F u1 v1 d1 f1/\Own K H F u2 v2 d2 f2:=by
  rcases hp with⟨rfl,rfl,rfl⟩|⟨rfl,rfl,rfl⟩|rfl
  ·obtain⟨rfl,o'⟩:=a9l o;obtain⟨a,xs,rfl,k1,k2⟩:=o'.tup_inv;obtain⟨v1,v2,rfl,k3,k4⟩:=a2k k2;refine⟨a,v1,v2,[],[],rfl,P9 k1 i8,rfl,?_,?_⟩<;>simp only[Own]
   ·exact⟨trivial,k3⟩
   ·exact⟨trivial,k4⟩
  ·obtain⟨rfl,hi,o'⟩:=W5 o;obtain⟨a,xs,rfl,k1,k2⟩:=o'.tup_inv;obtain⟨v1,v2,rfl,k3,k4⟩:=a2k k2;simp only[imm,g9,av]at hi;refine⟨a,v1,v2,[],[],rfl,P9 k1 i8,rfl,?_,?_⟩<;>simp only[Own]
   ·exact⟨trivial,hi.1,k3⟩
   ·exact⟨trivial,hi.2.1,k4⟩
  ·simp only[Own,OwnTs]at o;rcases o with⟨_,hi,_⟩|⟨a,xs,ds,rfl,k1,_,e0,v1,r,Iu,e',f1,g1,rfl,e2,rfl,o1,v2,r2,Ir,Ip,f2,g2,rfl,e3,rfl,o2,rfl,rfl,rfl⟩
   ·exact (hi.2 _ rfl).elim
   cases e0
   cases e2
   cases e3
   exact⟨a,v1,v2,f1,f2,rfl,SqT.of k1,by simp,o1,o2⟩
 obtain⟨a,v1,v2,f1,f2,rfl,k1,rfl,o1,o2⟩:=key;refine⟨a,v1,v2,rfl,k1,rfl,rfl,⟨⟨f1++(f2++G2),?_,by simpa using h2,λa ha=>h3 a (by simpa using ha)⟩,S.lst,S.prot⟩⟩;exact l9 (m:=.own u1) ⟨v1,rfl,o1⟩ (l9 (m:=.own u2) ⟨v2,rfl,o2⟩ h5)
end
section
variable {X:Cx}{u t:Ty}{ML M M1 M2 M':List Md}{st:fS}{sts body Cz:List fS}{g g1 g2:EvS}{e tg iter:Expr}{f:EvE}{fc:EvT}{fi:EvA}{c:Cat}{pos:eA}
def EndsOk.pre{K:af}{P:Hp}{D:Ends}{o:Out}(h:EndsOk K P u ML M' D o)(hw:Wk M M'):EndsOk K P u ML M D o:=by
 cases o with
 |nx U=>exact λY H F S=>by obtain⟨F',S'⟩:=hw K U Y H P F S;exact h Y H F' S'
 |rt d=>exact h
 |bk U=>exact h
 |ct U=>exact h
def PSsX.weak(h:PSsX X u ML M1 sts g M2)(a:Wk M M1)(b:Wk M2 M'):PSsX X u ML M sts g M':=by
 obtain⟨t,p,q⟩:=h.out;refine .mk ⟨t,p,λD U Y H P F o S hg k=>?_⟩;obtain⟨F1,S1⟩:=a _ U Y H P F S;exact q D U Y H P F1 o S1 hg (k.pre b)
def PSX.weak(h:PSX X u ML M1 st g M2)(a:Wk M M1)(b:Wk M2 M'):PSX X u ML M st g M':=by
 obtain⟨t,p,q⟩:=h.out;refine .mk ⟨t,p,λD U Y H P F o S hg k=>?_⟩;obtain⟨F1,S1⟩:=a _ U Y H P F S;exact q D U Y H P F1 o S1 hg (k.pre b)
def m8:PSsX X u ML M [] p8 M:=.mk ⟨_,a5i,λD U Y H P F o S hg k=>by cases hg;exact k Y H F S⟩
def c7(h1:PSX X u ML M st g1 M1)(h2:PSsX X u ML M1 sts g2 M'):PSsX X u ML M (st::sts) (i5 g1 g2) M':=by
 obtain⟨t1,p1,q1⟩:=h1.out;obtain⟨t2,p2,q2⟩:=h2.out;refine .mk ⟨_,K6 p1 p2,λD U Y H P F o S hg k=>?_⟩;obtain⟨o1,h1,g1⟩:=bnd hg;refine q1 {D with nx:=t2 D} U Y H P F o1 S h1 ?_;cases o1 with
 |nx U'=>exact λY' H' F' S'=>q2 D U' Y' H' P F' o S' g1 k
 |rt d=>cases g1;exact k
 |bk U'=>cases g1;exact k
 |ct U'=>cases g1;exact k
def e6(h1:PSX X u ML M st g M1):PSsX X u ML M [st] g M1:=by
 obtain⟨t1,p1,q1⟩:=h1.out;exact .mk ⟨_,a9i p1,q1⟩
def j8(i:Nat)(hN:X.N.Nodup)(he:PMX X M e f t M1)(hi:X.N[i]?=cz x:=by rfl)(hx:autoParam (Loc X.env.scope x) ZW._auto_1)(hm:M1[i]?=cz m:=by rfl)
  (hs:fP e (cz (.Name x px)) pos.line X.env=pure p4:=by rfl) (hf:autoParam (X.fn x=fx\/X.env.scope.names.lookup x=cz .local) ZV._auto_1):PSX X u ML M (.Assign [.Name x px] e pos) (k9 i f) (M1.set i (.own t)):=by
 obtain⟨te,pe,qe⟩:=he;refine .mk ⟨_,b1S hN hi hx pe hs hf,λD U Y H P F o S hg k=>?_⟩;obtain⟨d,h1,g1⟩:=bnd hg;cases g1
 exact qe [] [] [] U Y H P F d _ S.pend h1 λv H' F' e S'=>k _ _ F' (S'.store rfl rfl hm).st
def a5u(i j:Nat){pt pk}(hN:X.N.Nodup)(hc:X.calm=fx)(he:PMX X M e f t M1)(hp:b7c t u1 u2)(hi:X.N[i]?=cz x:=by rfl)(hj:X.N[j]?=cz y:=by rfl)(hx:autoParam (Loc X.env.scope x) ZW._auto_1)
  (hy:autoParam (Loc X.env.scope y) ZW._auto_1) (oG:i≠j:=by decide) (uk:M1[i]?=cz m1:=by rfl) (zL:M1[j]?=cz m2:=by rfl)
  (FE:autoParam (X.fn x=fx\/X.env.scope.names.lookup x=cz .local) ZV._auto_1) (zX:autoParam (X.fn y=fx\/X.env.scope.names.lookup y=cz .local) ZV._auto_1)
  (hl:(gB [.Name x px,.Name y py] X.env).length=2:=by rfl) (oh:(gB [.Name x px,.Name y py] X.env).findIdx? (·.1)=el:=by rfl)
  (hg1:PGs X [.Name x px,.Name y py] (a2u (Q4 i) (a2u (Q4 j) b4Y)):=by exact u8 (B0 hN hi hx FE) (u8 (B0 hN hj hy zX) O6))
  (hs:oU [.Tuple [.Name x px,.Name y py] pk pt] e pos.line X.env=pure p4:=by rfl) (hw:oV [.Tuple [.Name x px,.Name y py] pk pt] e X.env=pure el:=by rfl)
  (h1:(gB [.Tuple [.Name x px,.Name y py] pk pt] X.env).map (·.2)=[mC (.Tuple [.Name x px,.Name y py] pk pt) X.env]:=by rfl) :
  PSX X u ML M (.Assign [.Tuple [.Name x px,.Name y py] pk pt] e pos) (V0 i j f) ((M1.set i (.own u1)).set j (.own u2)):=by
 obtain⟨te,pe,qe⟩:=he;refine .mk ⟨_,a7A pe (a2v hc hg1 hl oh) hs hw h1,λD U Y H P F o S hg k=>?_⟩;obtain⟨d,h1,g1⟩:=bnd hg;obtain⟨⟨d1,d2⟩,h2,g2⟩:=bnd g1;cases g2
 have hd:d=.tuple [d1,d2]:=by
  match d,h2 with
  |.tuple [a,b],h2=>cases h2;rfl
 subst hd;refine qe [] [] [] U Y H P F _ _ S.pend h1 λv H' F' e S'=>?_
 obtain⟨a,v1,v2,rfl,k1,S2⟩:=S'.untup hp;refine⟨a,_,rfl,k1,rfl,v1,[v2],rfl,v2,[],rfl,rfl,?_⟩;have S3:=S2.store (i:=j) rfl rfl zL;have zM:(M1.set j (.own u2))[i]?=cz m1:=by rw[dS (dy oG)];exact uk
 have S4:=(Pend.store (Mp:=[]) (Up:=[]) (Yp:=[]) (i:=i) S3 rfl rfl zM).st;rw[mQ _ _ (dy oG),mQ _ _ (dy oG),mQ _ _ (dy oG)]at S4;exact k _ _ F' S4
def k7(he:PMX X M e f u M1):PSX X u ML M (.Return (cz e) pos) (m9 f) M':=by
 obtain⟨te,pe,qe⟩:=he;refine .mk ⟨_,b1P pe,λD U Y H P F o S hg k=>?_⟩;obtain⟨d,h1,g1⟩:=bnd hg;cases g1
 refine qe [] [] [] U Y H P F d _ S.pend h1 λv H' F' e S'=>?_
 obtain⟨fp,o,nd,sub⟩:=S'.one;refine k v H' fp (o.frame (D5 sub) u λ_ _=>rfl) nd (λa ha=>?_) (S'.2.2.prot.trans i8);cases hP:P a with
 |none=>rfl
 |some o'=>
  have:=S'.2.2.prot _ _ hP;rw[W3 (sub a ha)]at this;cases this
def a2m(he:PX X M e f c)(hs:fP e el pos.line X.env=pure p4:=by rfl):PSX X u ML M (.Expr e pos) (sEx f) M:=by
 obtain⟨te,pe,qe⟩:=he.out;refine .mk ⟨_,a0s pe hs,λD U Y H P F o S hg k=>?_⟩;obtain⟨d,h1,g1⟩:=bnd hg;cases g1
 exact qe U Y H P F d _ S.toE h1 λv H' e _=>k Y H' F (S.grow e)
def o6(hc:PTX X M c0 fc)(ha:PSsX X u ML M body g1 M')(hb:PSsX X u ML M Cz g2 M'):PSX X u ML M (.If c0 body Cz pos) (sIf fc g1 g2) M':=by
 obtain⟨tc,pc,qc⟩:=hc.out;obtain⟨ta,pa,qa⟩:=ha.out;obtain⟨tb,pb,qb⟩:=hb.out;refine .mk ⟨_,b1Q pc pa pb,λD U Y H P F o S hg k=>?_⟩;obtain⟨b,h1,g1⟩:=bnd hg;refine qc U Y H P F b _ S.toE h1 λH1 e1=>?_
 cases b with
 |true=>exact a2z (qa D U Y H1 P F o (S.grow e1) g1 k)
 |false=>exact a3Q (qb D U Y H1 P F o (S.grow e1) g1 k)
def a6u:PSX X u ML M st sNo M':=.mk ⟨_,b1R,λD U Y H P F o S hg k=>by cases hg⟩
def b0y(K:af)(M MB:List Md)(g:TG)(set:List D->D->Option (List D))(m:D->Prop):Prop:=
 ∀(U:List D) (Y:L2.St) (H P:Hp) (F:List aw) (x:V) (d:D) (U':List D) (Q:L2.St->Hp->Prop),StR K M U Y H P F->Den K (cut H F) x d->m d->set U d=cz U'->(∀Y' F',StR K MB U' Y' H P F'->Q Y' H)->g x Y H Q
def mI(d:D):Prop:=imm d=fx
def mF(_:D):Prop:=True
def b2y(hm:M[i]?=cz m:=by rfl):b0y K M (M.set i (.own .f)) (Q4 i) (E7 i) mF:=by
 intro U Y H P F x d U' Q S hd _ hs q;cases hs
 exact q _ _ (S.set (u:=.f) (fp:=[]) hm (Same.refl _) (by simp only[Own,cj];exact⟨trivial,hd⟩) bg λa ha=>(nomatch ha))
def Q1(hm:M[i]?=cz m:=by rfl):b0y K M (M.set i (.own .i)) (Q4 i) (E7 i) mI:=by
 intro U Y H P F x d U' Q S hd hi hs q;cases hs
 exact q _ _ (S.set (u:=.i) (fp:=[]) hm (Same.refl _) (by simp only[Own,cj];exact⟨trivial,hi,hd⟩) bg λa ha=>(nomatch ha))
def a7T(hw:w=.f\/w=.i)(oG:i≠j:=by decide)(uk:M[i]?=cz m1:=by rfl)(zL:M[j]?=cz m2:=by rfl):b0y K M ((M.set i (.own w)).set j (.own w)) (b7V K 2 (a2u (Q4 i) (a2u (Q4 j) b4Y))) (a6t i j) (λd=>w=.i->imm d=fx):=by
 intro U Y H P F x d U' Q S hd hi hs q;obtain⟨⟨d1,d2⟩,h2,g2⟩:=bnd hs;cases g2
 have xb:d=.tuple [d1,d2]:=by
  match d,h2 with
  |.tuple [a,b],h2=>cases h2;rfl
 subst xb;obtain⟨a,xs,rfl,k1,k2⟩:=hd.tup_inv;obtain⟨v1,v2,rfl,k3,k4⟩:=a2k k2;refine⟨a,_,rfl,P9 k1 i8,rfl,v1,[v2],rfl,v2,[],rfl,rfl,?_⟩;have o1:Own K H ([]++F) w v1 d1 []:=by
  rcases hw with rfl|rfl
  ·simp only[Own,cj];exact⟨trivial,k3⟩
  ·have:=hi rfl;simp only[imm,g9,av]at this;simp only[Own,cj];exact⟨trivial,this.1,k3⟩
 have o2:Own K H ([]++([]++F)) w v2 d2 []:=by
  rcases hw with rfl|rfl
  ·simp only[Own,cj];exact⟨trivial,k4⟩
  ·have:=hi rfl;simp only[imm,g9,av]at this;simp only[Own,cj];exact⟨trivial,this.2.1,k4⟩
 have S1:=S.set uk (Same.refl _) o1 bg λa ha=>(nomatch ha)
 exact q _ _ (S1.set (i:=j) (m:=m2) (by rw[dS oG];exact zL) (Same.refl _) o2 bg λa ha=>(nomatch ha))
def K0{set:List D->D->Option (List D)}{m:D->Prop}(hc:X.calm=fx)(hp:kz (aO X.prog X.w) X.A X.env X.xe)(hi:PIX X M tg iter fi)(hg:PG X tg gt)(hs:b0y X.K M MB gt set m)(hm:∀U ds,fi U=cz ds->∀d∈ds,m d)(hb:PSsX X u M MB body g M)
  (hf:∀x,eO iter X.env x=pure x:=by intro _;rfl):PSX X u ML M (.For tg iter body [] pos) (M6 fi set g) M:=by
 obtain⟨wi,pi,qi⟩:=hi;obtain⟨tb,pb,qb⟩:=hb.out;refine .mk ⟨_,a7C hp hc pi hg pb hf,λD U Y H P F o S oH k=>?_⟩;obtain⟨ds,h1,g1⟩:=bnd oH;refine qi U Y H P F ds _ S.toE h1 λJ xs Pr H1 e1 hw ud hx=>?_
 have S1:=S.grow e1;have qD:=hx.length;refine⟨λi n Y' H'=>n=xs.length-i/\i<=xs.length/\∃U' F',StR X.K M U' Y' H' (cut H1 F) F'/\T6 set g (ds.drop i) U'=cz o,⟨xs.length,by simp,cI _,U,F,⟨S1.all,S1.lst,Same.refl _⟩,g1⟩,?_⟩;rintro i n Y' H' ⟨rfl,hi,U',F',S',hfl⟩;have ll:Same (cut H1 F) (cut H' F'):=S'.prot;have q:=ud H' (ll.trans i8);by_cases gQ:i<xs.length
 ·refine .inr ⟨hw.go i H' q gQ,λY2 H2=>∃U2 F2,StR X.K M U2 Y2 H2 (cut H1 F) F2/\T6 set g (ds.drop (i+1)) U2=cz o,λY2 H2 ⟨U2,F2,S2,h2⟩=>⟨xs.length-(i+1),by lia,rfl,gQ,U2,F2,S2,h2⟩,λx H2 hy=>?_⟩;obtain⟨rfl,sU⟩:=hw.yld i H' x H2 q gQ hy;have nr:i<ds.length:=by lia
  have lX:ds.drop i=ds[i]::ds.drop (i+1):=fE nr;rw[lX]at hfl;obtain⟨U1,uc,g2⟩:=bnd (show (set U' ds[i]).bind _=cz o from hfl);obtain⟨o1,hg1,g3⟩:=bnd g2;obtain⟨d',qP,uv⟩:=(hx.up ll).getV sU;have lH:d'=ds[i]:=by rw[ay nr]at qP;exact (aK qP).symm
  subst lH;refine hs U' Y' H2 (cut H1 F) F' x _ U1 _ S' uv (hm U ds h1 _ (dc nr)) uc λY3 F3 S3=>qb _ U1 Y3 H2 (cut H1 F) F3 o1 S3 hg1 ?_
  cases o1 with
  |nx U2=>exact λY4 H4 F4 S4=>⟨U2,F4,S4,g3⟩
  |ct U2=>exact λY4 H4 F4 S4=>⟨U2,F4,S4,g3⟩
  |bk U2=>
   have:o=.nx U2:=(aK g3).symm;subst this;exact λY4 H4 F4 S4=>k Y4 H4 F4 ⟨S4.all,S4.lst,S1.prot.trans S4.prot⟩
  |rt d=>
   have:o=.rt d:=(aK g3).symm;subst this;refine λv H4 fp o nd fr e=>k v H4 fp o nd (λa ha=>?_) (S1.prot.trans e)
   exact S1.prot.free (fr a ha)
 ·have e:i=xs.length:=by lia
  subst e;rw[qD,kK]at hfl;have:o=.nx U':=(aK hfl).symm;subst this;exact .inl ⟨hw.stop _ H' q (aG _),k Y' H' F' ⟨S'.all,S'.lst,S1.prot.trans S'.prot⟩⟩
def a2M(n:List D->Nat)(hp:kz (aO X.prog X.w) X.A X.env X.xe)(hc:PTX X M c0 fc)(hb:PSsX X u M M body g M):PSX X u ML M (.While c0 body [] pos) (sWh n fc g) M:=by
 obtain⟨tc,pc,qc⟩:=hc.out;obtain⟨tb,pb,qb⟩:=hb.out;refine .mk ⟨_,a6c hp pc pb,λD U Y H P F o S oH k=>?_⟩;refine⟨λn Y' H'=>∃U' F',StR X.K M U' Y' H' P F'/\whL fc g n U'=cz o,⟨n U,U,F,S,oH⟩,?_⟩;rintro n Y' H' ⟨U',F',S',hw⟩;cases n with
 |zero=>cases hw
 |succ n=>
  obtain⟨b,h1,g1⟩:=bnd (show (fc U').bind _=cz o from hw);refine qc U' Y' H' P F' b _ S'.toE h1 λH1 e1=>?_
  cases b with
  |true=>
   refine a2z ⟨λY2 H2=>∃U2 F2,StR X.K M U2 Y2 H2 P F2/\whL fc g n U2=cz o,λY2 H2 z=>⟨n,iT _,z⟩,?_⟩;obtain⟨o1,hg1,g3⟩:=bnd (show (g U').bind _=cz o from g1);refine qb _ U' Y' H1 P F' o1 (S'.grow e1) hg1 ?_;cases o1 with
   |nx U2=>exact λY4 H4 F4 S4=>⟨U2,F4,S4,g3⟩
   |ct U2=>exact λY4 H4 F4 S4=>⟨U2,F4,S4,g3⟩
   |bk U2=>
    have:o=.nx U2:=(aK g3).symm;subst this;exact λY4 H4 F4 S4=>k Y4 H4 F4 S4
   |rt d=>
    have:o=.rt d:=(aK g3).symm;subst this;exact k
  |false=>
   have:o=.nx U':=(aK g1).symm;subst this;exact a3Q (k Y' H1 F' (S'.grow e1))
end
abbrev EvP:=List D->Option (List Nat)
def PPX(X:Cx)(M:List Md)(e:Expr)(i:Nat)(f:EvP):Prop:=
 ∃t,PE X e t/\∀(U:List D) (Y:L2.St) (H P:Hp) (F:List aw) (p:List Nat) (Q:VK),StE X.K M U Y H P F->f U=cz p->(∀v v0 H',Same H H'->Y[i]?=cz (cz v0)->wk H' v0 p v->Q v H')->t Y H Q
def B1:EvP:=λ_=>cz []
def a9r(u:Ty)(d:D)(p:List Nat):Option (List D):=(dAt u d p).bind λtd=>match td with
 | (.l _,.list ds)=>cz ds
 | (.tp _,.tuple ds)=>cz ds
 |_=>el
section
variable {X:Cx}{u t w:Ty}{ML M M1 M':List Md}{e b pl:Expr}{f fb:EvE}{fp:EvP}{cb:Cat}{pos apos cH:eA}
def M7(i:Nat)(hN:X.N[i]?=cz x:=by rfl)(hv:autoParam (NmV X x) ZY._auto_1)(hm:M[i]?=cz (.own u):=by rfl):PPX X M (.Name x pos) i B1:=by
 refine⟨_,A8 hN hv.1 hv.2.1 hv.2.2,λU Y H P F p Q S hf k=>?_⟩;cases hf
 obtain⟨v,f,e,_⟩:=S.get hm;exact⟨v,e,k v v H (Same.refl _) e rfl⟩
def N9(i:Nat)(u:Ty)(fp:EvP)(fe:EvE):EvS:=λU=>(fp U).bind λp=>(a9r u (U.getD i .none) p).bind λds=>(fe U).bind λd=>if ds.length<1000000 then cz (.nx (U.set i (a2L (U.getD i .none) p (.list (ds++[d]))))) else el
def c0H(u:Ty)(fp:EvP)(t:Ty):Prop:=∀U p d td,fp U=cz p->dAt u d p=cz td->td.1=.l t
def a0B:c0H (.l t) B1 t:=λU p d td h1 h2=>by
 cases h1
 have kB:cz (Ty.l t,d)=cz td:=h2;cases kB
 rfl
def b5y{p:List Nat}{ds:List D}(ht:∀td,dAt u d p=cz td->td.1=.l t)(hi:a9r u d p=cz ds):dAt u d p=cz (.l t,.list ds):=by
 obtain⟨⟨t',d'⟩,h1,h2⟩:=bnd hi;have e:t'=.l t:=ht _ h1;subst e;cases d' with
 |list es=>cases h2;exact h1
 |_=>cases h2
def T7(i:Nat)(hp:PPX X M pl i fp)(he:PMX X M e f t M1)(ht:c0H u fp t)(hm:M[i]?=cz (.own u):=by rfl)(uk:M1[i]?=cz (.own u):=by rfl)
  (eX:dE pl "append" X.env (bX pl X.env)=bX pl X.env:=by rfl)
  (lW:((bY cH (ak [e] X.env)).all (λx=>!x.1)&&(rd cH (lj [] X.env)).all (λx=>x.1.isSome)
   && decide ([e].length+([]:List iZ).length+(if ([]:List iZ).isEmpty then 0 else 1)<30))=fx:=by rfl)
  (eW:(apos.endLine==cH.line)=fx:=by rfl) (hs:ak [e] X.env=(p4,bX e X.env)::ak [] X.env:=by rfl) (iA:(bY cH (ak [] X.env)).any (·.1)=p4:=by rfl)
  (qF:fP (.Call (.Attribute pl "append" apos) [e] [] cH) el pos.line X.env=pure p4:=by rfl) :
  PSX X w ML M (.Expr (.Call (.Attribute pl "append" apos) [e] [] cH) pos) (N9 i u fp f) M1:=by
 obtain⟨tp,pp,qp⟩:=hp;obtain⟨te,pe,qe⟩:=he;refine .mk ⟨_,a0s (c0A tK PySem.F.slot_list_append PySem.F.type_list_append a4i pp (l7 pe o5 hs) eX lW eW hs iA) qF,λD U Y H P F o S hg k=>?_⟩;obtain⟨p,h1,g1⟩:=bnd hg;obtain⟨ds,h2,g2⟩:=bnd g1;obtain⟨d,h3,g3⟩:=bnd g2;by_cases hz:ds.length<1000000
 ·rw[aJ hz]at g3;cases g3
  refine qp U Y H P F p _ S.toE h1 λv v0 H1 e1 Bt hw=>?_
  have S1:=S.grow e1;obtain⟨v',f',e',o,_⟩:=S1.toE.get hm;rw[Bt]at e';cases e'
  have Cb:=b5y (λtd z=>ht U p _ td h1 z) h2;obtain⟨b,xs,fs,pre,post,rfl,r2,_,_,_⟩:=o.path p Cb hw;refine⟨.inl ⟨rfl,xs,SqL.of r2⟩,qe [] [] [] U Y H1 P F d _ S1.pend h3 λv1 H2 F2 e2 S2=>?_⟩;obtain⟨b',mG,e',DK,hl,S3,_⟩:=S2.put uk Bt Cb (b7b e2 hw);cases e'
  refine⟨b,mG,v1,rfl,rfl,DK,?_,k Y _ F2 S3⟩;rw[hl];exact fK hz (by rw[cE];decide)
 ·rw[aN hz]at g3;cases g3
def a0j(i:Nat)(hN:X.N.Nodup)(hc:X.calm=fx)
  (hi:PIX X M tg iter fi) (C:X8 scope X.env.kindOf ys js X.N=fx) (hg:∀cl Cl s H fp,PG (O3 X (tn++ys) scope cl Cl s H fp) tg g) (wQ:TgR X.K g n pt) (Fm:mm=.i\/mm=.f)
  (qH:mm=.i->∀U ds,fi U=cz ds->∀d∈ds,∀bs,pt d=cz bs->g9 bs=fx) (wo:tn.length=n)
  (ht:∀cl Cl s H fp,PTs (O3 X (tn++ys) scope cl Cl s H fp) ifs (spT X.K (W8 (.own mm) n M js) ft)) (he:∀cl Cl s H fp,PX (O3 X (tn++ys) scope cl Cl s H fp) (W8 (.own mm) n M js) elt fe (.new t))
  (sU:X.N[i]?=cz x:=by rfl) (hx:autoParam (Loc X.env.scope x) ZW._auto_1) (hm:M[i]?=cz m:=by rfl)
  (qF:fP (.ListComp elt [⟨tg,iter,ifs,0⟩] scope cps) (cz (.Name x px)) pos.line X.env=pure fx:=by rfl) (hs:∀x,eO iter X.env x=pure x:=by intro _;rfl)
  (hf:autoParam (X.fn x=fx\/X.env.scope.names.lookup x=cz .local) ZV._auto_1) :
  PSX X w ML M (.Assign [.Name x px] (.ListComp elt [⟨tg,iter,ifs,0⟩] scope cps) pos) (k9 i (r9 fi js pt ft fe)) (M.set i (.own (.l t))):=by
 obtain⟨wi,pi,qi⟩:=hi;refine .mk ⟨_,a6f (te:=spE X.K (W8 (.own mm) n M js) fe (.new t)) hc hN sU hx pi C hg ht he qF hs hf,λD U Y H P F o S nJ k=>?_⟩;obtain⟨d,h1,g1⟩:=bnd nJ;cases g1
 exact a4t qi wQ Fm qH wo S.toE h1 λv H' e ⟨fp,o,nd,fr⟩=>k _ _ _ (S.set hm e o nd fr)
end
def argsOk:List Ty->List D->Bool
 |[],[]=>fx
 |.i::us,d::ds=>imm d&&argsOk us ds
 |.f::us,_::ds=>argsOk us ds
 |_,_=>p4
noncomputable def fnD(us:List Ty)(n:Nat)(g:EvS):List D->Option D:=λds=>if argsOk us ds then (g (ds++aL n .none)).bind λo=>match o with
 |.rt d=>cz d
 |_=>el
 else el
theorem P0:∀{us:List Ty} {vs:List V} {ds:List D},argsOk us ds=fx->DenAll K H vs ds->∀n,StAll K H [] (us.map .own++aL n .dead) (ds++aL n .none) (vs.map cz++aL n el) []
 |[],vs,[],_,hd,n=>by
  rw[hd.nil_inv]
  induction n with
  |zero=>exact N1
  |succ n ih=>exact l9 (K:=K) (H:=H) (F:=[]) (m:=.dead) (f:=[]) rfl ih
 |.i::us,vs,d::ds,h,hd,n=>by
  have h':imm d=fx/\argsOk us ds=fx:=by simpa[argsOk]using h
  obtain⟨v,r,rfl,h1,h2⟩:=hd.cons_inv;refine l9 (K:=K) (H:=H) (F:=[]) (m:=.own .i) (f:=[]) ⟨v,rfl,?_⟩ (P0 h'.2 h2 n);simp only[Own,K4];exact⟨trivial,h'.1,h1⟩
 |.f::us,vs,d::ds,h,hd,n=>by
  have h':argsOk us ds=fx:=by simpa[argsOk]using h
  obtain⟨v,r,rfl,h1,h2⟩:=hd.cons_inv;refine l9 (K:=K) (H:=H) (F:=[]) (m:=.own .f) (f:=[]) ⟨v,rfl,?_⟩ (P0 h' h2 n);simp only[Own,K4];exact⟨trivial,h1⟩
 |.l _::us,vs,d::ds,h,_,_=>by simp[argsOk]at h
 |.tp _::us,vs,d::ds,h,_,_=>by simp[argsOk]at h
 |.d _ _::us,vs,d::ds,h,_,_=>by simp[argsOk]at h
 |[],vs,d::ds,h,_,_=>by simp[argsOk]at h
 |.i::us,vs,[],h,_,_=>by simp[argsOk]at h
 |.f::us,vs,[],h,_,_=>by simp[argsOk]at h
 |.l _::us,vs,[],h,_,_=>by simp[argsOk]at h
 |.tp _::us,vs,[],h,_,_=>by simp[argsOk]at h
 |.d _ _::us,vs,[],h,_,_=>by simp[argsOk]at h
open PyProof.Rows in
def b5z{P:br}{w:bK}{K:af}{mg:bt->Option ai}{base:bL}{x:bt}{st:fS}{f:aw}{fd:dJ}{N ps:List bt}{k n:Nat}{us:List Ty}{u:Ty}{g:EvS}{M':List Md}(F:Fun K x x st f fd)(S:FnScope N ps (i9 st))(nj:us.length=ps.length)(hn:N.length=ps.length+n)
  (hb:∀(gg:ai) (A:bB) (outer:List n_) (s:aj) (H:Hp) (E:XK),Room k (A.deeper (ji x (i9 st) s.heap.objs.size f gg))->PSsX (a0e CX0 P w K mg base N x (i9 st) f gg A outer s H E).nox u [] (us.map .own++aL n .dead) (w9 st) g M') :
  FnOk P w K mg base CX0 (k+1) f fd ps (spD K ps.length (fnD us n g) u):=by
 refine F.ok S (λvs H Q E h=>?_) (λgg A outer s H vs Q E hr h=>?_)
 ·obtain⟨ds,d,hl,_⟩:=h;exact hl
 obtain⟨ds,d,hl,hd,hm,q⟩:=h;obtain⟨t,p,r⟩:=(hb gg A outer s H E hr).out;refine⟨t,p,?_⟩;unfold fnD at hm;by_cases ha:argsOk us ds=fx
 ·rw[aJ ha]at hm;obtain⟨o,h1,h2⟩:=bnd hm;cases o with
  |rt d'=>
   have kB:cz d'=cz d:=h2;cases kB
   have e:L2.start N vs=vs.map cz++aL n el:=by
    unfold L2.start;rw[show N.length-vs.length=n by lia]
   rw[e];refine r _ (ds++aL n iJ) _ H H [] (.rt d) ⟨⟨[],P0 ha hd n,bg,λa ha=>(nomatch ha)⟩,λa ha=>(nomatch ha),by rw[K4];exact Same.refl H⟩ h1 ?_;exact λv H' fp o nd fr e=>q v H' fp e o nd fr
  |_=>cases h2
 ·rw[aN ha]at hm;cases hm
end VS
namespace VS
open PySem.Spec L2 PyProof.Rows
def H9(K:af):List (bt×aw):=N7.filterMap λx=>(D0 K x).map λp=>(x,p)
def a1o:List aw->Bool
 |[]=>fx
 |a::r=>!r.contains a&&a1o r
def a2N(K:af)(names:List bt):Bool:=a1o ((H9 K).map (·.2))&&(H9 K).all λt=>(K.lookup t.2).isNone&&names.contains t.1
theorem a2O:∀{l:List (bt×aw)} {x y:bt} {p:aw},a1o (l.map (·.2))=fx->(x,p)∈l->(y,p)∈l->x=y
 |[],_,_,_,_,h,_=>(nomatch h)
 | (z,q)::l,x,y,p,h,h1,h2=>by
  have h':((l.map (·.2)).contains q=p4)/\a1o (l.map (·.2))=fx:=by simpa[a1o]using h
  have Be:∀w,(w,q)∉l:=λw hw=>by
   have:(l.map (·.2)).contains q=fx:=by
    rw[vo];exact aR.mpr ⟨(w,q),hw,rfl⟩
   rw[h'.1]at this;cases this
  rcases aD.mp h1 with e1|e1
  ·rcases aD.mp h2 with e2|e2
   ·cases e1;cases e2;rfl
   ·cases e1;exact absurd e2 (Be y)
  ·rcases aD.mp h2 with e2|e2
   ·cases e2;exact absurd e1 (Be x)
   ·exact a2O h'.2 e1 e2
def a1L{K:af}{x:bt}{p:aw}(hx:x∈N7)(h:D0 K x=cz p):(x,p)∈H9 K:=
 dM.mpr ⟨x,hx,by rw[h];rfl⟩
def E8{K:af}{x:bt}{p:aw}(h:(x,p)∈H9 K):x∈N7/\D0 K x=cz p:=by
 obtain⟨y,hy,e⟩:=dM.mp h;cases q:D0 K y with
 |none=>rw[q]at e;cases e
 |some r=>
  rw[q]at e;have e':(y,r)=(x,p):=aK e;cases e'
  exact⟨hy,q⟩
def a7U{K:af}(e:a5g K cd=cz p)(X:K.In h):∃c,cd=.ref c/\gK h c p:=by
 unfold a5g at e
 split at e
 ·rename_i c
  split at e
  ·rename_i n dd vs sl hc
   split at e
   ·rename_i hn
    split at e
    ·rename_i P' file tf flags tg uV text tt Ct Gy h7 h9 Gz
     split at e
     ·rename_i ik
      cases e
      have en:n="code":=by simpa using hn
      subst en;refine⟨c,rfl,_,vs,file,tf,flags,tg,uV,text,tt,X _ _ hc,rfl,rfl,Ct,?_,?_,?_,?_,?_,bne_iff_ne.mp ik⟩
      ·simp[eN,Ct]
      ·simp[eN,Gy]
      ·simp[eN,h7]
      ·simp[eN,h9]
      ·simp[eN,Gz]
     ·cases e
    ·cases e
   ·cases e
  ·cases e
 ·cases e
def a4u{K:af}{h:bL}(e:D0 K x=cz p)(X:K.In h)(G:h.Ns ba mg) :
  ∃f oc od fd sl c,mg x=cz (.ref f)/\K.lookup f=cz ⟨oc,od,.func fd,sl⟩/\fd.code=.ref c/\gK h c p:=by
 unfold D0 at e
 split at e
 ·rename_i f hf
  split at e
  ·rename_i oc od fd sl hl
   obtain⟨c,hc,hd⟩:=a7U e X;exact⟨f,oc,od,fd,sl,c,gj X G hf,hl,hc,hd⟩
  ·cases e
 ·cases e
def Tab0(K:af)(h:bL):Prop:=∀x∈N7,∀p,D0 K x=cz p->isCodeTable h p/\h.get? p=cz {cls:=.none,data:=.fields #[]}
def b5A{q:br}{loose:List bt}{yZ:ExcName->Option ai}{mg mb:bt->Option ai}{h:bL}{K:af}(T:Top q loose yZ mg mb h)(X:K.In h)(ok:a2N K ((recsOf q).map (·.name))=fx):Tab0 K h:=λx hx p e=>by
 have hm:=a1L hx e;have hn:((K.lookup p).isNone&&((recsOf q).map (·.name)).contains x)=fx:=by
  unfold a2N at ok;rw[av]at ok;exact bj.mp ok.2 _ hm
 rw[av,vo]at hn;obtain⟨d,hd,rfl⟩:=aR.mp hn.2;obtain⟨f,oc,od,fd,sl,c,h1,h2,h3,h4⟩:=a4u e X T.g;obtain⟨a,o,Cv,c',P',z1,z2,z3,z4,z5,z6⟩:=T.tab d hd;rw[h1]at z1;cases z1
 rw[X _ _ h2]at z2;cases z2
 have Dp:Data.func fd=Data.func Cv:=z3;cases Dp
 rw[h3]at z4;cases z4
 obtain⟨ob,vs,file,tf,flags,tg,uV,text,tt,y1,y2,y3,y4,_⟩:=h4;obtain⟨⟨HH,Hx,w1,w2,w3,w4⟩,w5⟩:=id z6;rw[y1]at w1;cases w1
 rw[y3]at w3;cases w3
 rw[y4]at w4;cases w4
 exact⟨z6.isCodeTable,w5⟩
def O4(K:af)(H:Hp):Hp:=λb=>match (H9 K).find? λt=>t.2==b with
 |some t=>cz (.tbl #[.str (V7 t.1) 0])
 |none=>H b
def b0z{K:af}{s₁:aj}{vs:List ai} 
  (KX:K.In s₁.heap) (pd:s₁.heap.Ns ba mg) (hb:s₁.heap.Ns kF mb) (Ga:∀x:bt,x≠"__name__"->mb x=fg x) (zO:s₁.heap.NoLimit) (hg:s₁.gens=#[])
  (FZ:∃bm ob,mg "__builtins__"=cz (.ref bm)/\bm≠kF/\s₁.heap.get? bm=cz ob/\ob.cls=.type "module"/\ob.dict=cz kF/\ob.data=.plain)
  (r_:Tab0 K s₁.heap) (pM:a2N K names=fx)
  (ha:s₁.heap.get? a=cz {cls:=.type "list",data:=.seq vs.toArray}) (hi:IntsAre vs ns) (hl:ns.length<=aQ) (hr:Room k ou)
  (F:∀base:bL,K.In base->base.Ns ba mg->FnOk P w K mg base CX k fa fd [x] sp) (nK:∀(s:aj) (u:ai),ox s fd ⟨[u],[]⟩ [(x,u)])
  (nq:∀H:Hp,SqX K H a (ns.map V.int)->sp [.ref a] H (λv _=>v=.bl fx) λ_ _ _=>False)
  (Ar:∀H e s',CX [] H s₁ (λ_ _ _=>False) e s'->False) :
  gA (aO P w) ou (.call (.ref fa) ⟨[.ref a],[]⟩) (λr s'=>r=.ok (.ret (.bool fx))/\OldK s₁.heap s'.heap/\s'.os=s₁.os/\jP s'.gens) s₁:=by
 have rv:=vals_ints hi;have za:=hi.length;have DZ:a1o ((H9 K).map (·.2))=fx:=by unfold a2N at pM;rw[av]at pM;exact pM.1
 have DY:∀t∈H9 K,K.lookup t.2=el:=λt ht=>by
  unfold a2N at pM;rw[av]at pM;have:=bj.mp pM.2 t ht;rw[av]at this;exact Option.isNone_iff_eq_none.mp this.1
 have core:∀H0:Hp,SqX K H0 a (ns.map V.int)->HOk P w H0 s₁.heap->(∀b u,H0 b=cz u->b=a/\∃o xs,u=.frz o (.lst xs))->(H0 a≠el->K.lookup a=el)->
   gA (aO P w) ou (.call (.ref fa) ⟨[.ref a],[]⟩) (λr s'=>r=.ok (.ret (.bool fx))/\OldK s₁.heap s'.heap/\s'.os=s₁.os/\jP s'.gens) s₁:=by
  intro H0 hS hok hA hK;have kS:∀b u,O4 K H0 b=cz u->(∃x,(x,b)∈H9 K/\u=.tbl #[.str (V7 x) 0])\/((∀x,(x,b)∉H9 K)/\H0 b=cz u):=λb u e=>by
   unfold O4 at e
   split at e
   ·rename_i t ht
    cases e
    have h1:=rM ht;have h2:t.2=b:=fM.mp (ID (p:=λt:bt×aw=>t.2==b) ht);refine .inl ⟨t.1,?_,rfl⟩;rw[<-h2];exact h1
   ·rename_i ht
    refine .inr ⟨λx hx=>?_,e⟩;have:=gd.mp ht _ hx;simp at this
  have tabAt:∀x p,(x,p)∈H9 K->O4 K H0 p=cz (.tbl #[.str (V7 x) 0]):=λx p hm=>by
   cases e:O4 K H0 p with
   |none=>
    unfold O4 at e
    split at e
    ·cases e
    ·rename_i ht
     have:=gd.mp ht _ hm;simp at this
   |some u=>
    rcases kS p u e with⟨y,hy,rfl⟩|⟨hn,_⟩
    ·rw[a2O DZ hm hy]
    ·exact absurd hm (hn x)
  have nA:∀x,(x,a)∉H9 K:=λx hx=>by
   have:=(r_ x (E8 hx).1 a (E8 hx).2).2;rw[ha]at this;cases this
  have CV:O4 K H0 a=H0 a:=by
   cases e:O4 K H0 a with
   |none=>
    unfold O4 at e
    split at e
    ·cases e
    ·exact e.symm
   |some u=>
    rcases kS a u e with⟨y,hy,_⟩|⟨_,h⟩
    ·exact absurd hy (nA y)
    ·exact h.symm
  have mX:SqX K (O4 K H0) a (ns.map V.int):=by
   rcases hS with (h|⟨o,h⟩)|h
   ·exact .inl (.inl (CV.trans h))
   ·exact .inl (.inr ⟨o,CV.trans h⟩)
   ·exact .inr h
  have qI:HOk P w (O4 K H0) s₁.heap:=λb u e=>by
   rcases kS b u e with⟨x,hx,rfl⟩|⟨hn,h⟩
   ·obtain⟨h1,h2⟩:=E8 hx;exact⟨#[],(r_ x h1 b h2).2,trivial,λpos cv z=>by cases z⟩
   ·obtain⟨rfl,o,xs,rfl⟩:=hA b u h;obtain⟨h1,h2⟩:=hok _ _ h;obtain⟨z,cP,n,r,e'⟩:=h2;exact⟨h1,z,cP,n,r,e'⟩
  have mY:∀{b:aw} {o:fm},s₁.heap.get? b=cz o->O4 K H0 b=el->(a5f s₁.heap (O4 K H0)).get? b=cz o:=λe n=>b1J e n
  have noT:∀{b:aw} {o:fm},s₁.heap.get? b=cz o->(∀ps,o.data≠.fields ps)->(∀cP n,o.data≠.seq cP n)->O4 K H0 b=el:=λ{b o} e d1 d2=>by
   cases q:O4 K H0 b with
   |none=>rfl
   |some u=>
    rcases kS b u q with⟨x,hx,rfl⟩|⟨hn,h⟩
    ·have:=(r_ x (E8 hx).1 b (E8 hx).2).2;rw[e]at this;cases this
     exact absurd rfl (d1 _)
    ·obtain⟨rfl,_⟩:=hA b u h;rw[ha]at e;cases e
     exact absurd rfl (d2 _ _)
  have xZ:∀{b:aw} {m:bt->Option ai},s₁.heap.Ns b m->(a5f s₁.heap (O4 K H0)).Ns b m:=λ{b m} ⟨o,es,ep,e,d,r⟩=>⟨o,es,ep,mY e (noT e (λps z=>by rw[d]at z;cases z) λcP n z=>by rw[d]at z;cases z),d,r⟩
  have Cn:K.In (a5f s₁.heap (O4 K H0)):=λb o e=>mY (KX b o e) (by
   cases q:O4 K H0 b with
   |none=>rfl
   |some u=>
    rcases kS b u q with⟨x,hx,rfl⟩|⟨hn,h⟩
    ·rw[DY _ hx]at e;cases e
    ·obtain⟨rfl,_⟩:=hA b u h;rw[hK (by rw[h];simp)]at e;cases e)
  have hM:Mod K mg (a5f s₁.heap (O4 K H0)):=⟨Cn,xZ pd,⟨mb,xZ hb,Ga⟩,let⟨mc,h1,h2⟩:=zO;⟨mc,xZ h1,h2⟩,
   let⟨bm,ob,b1,b2,b3,b4,b5,b6⟩:=FZ;⟨bm,ob,b1,b2,mY b3 (noT b3 (λps z=>by rw[b6]at z;cases z) λcP n z=>by rw[b6]at z;cases z),b4,b5,b6⟩⟩
  have e0:Env0 P w K mg (a5f s₁.heap (O4 K H0)) ou [] s₁ (O4 K H0):=⟨rfl,hM,λb o e=>b4U e,Nat.le_of_eq (b0f _ _),trivial,λb hb=>absurd (show b∈([]:List aw) from hb) (by simp),qI,.of_eq hg,
   λx hx p e=>⟨_,0,tabAt x p (a1L hx e),rfl⟩⟩
  refine ff ((F _ Cn (xZ pd)).run ou [] s₁ (O4 K H0) ⟨[.ref a],[]⟩ [.ref a] [.ref a] _ _ hr e0 (nK s₁ (.ref a)) (.cons rfl .nil) (nq _ mX)) λr s' h=>?_
  cases r with
  |error e=>exact (Ar _ e s' h).elim
  |ok fl=>
   cases fl with
   |next=>exact cy h
   |brk=>exact cy h
   |cont=>exact cy h
   |ret u=>
    obtain⟨v,H',os,bare,un,pL,r',q⟩:=h;have q':v=.bl fx:=q;subst q';obtain rfl:u=jx fx:=r';refine⟨rfl,⟨λb o e=>?_,λb o e=>un.there b o e (by simp)⟩,os,bare⟩;cases q:O4 K H0 b with
    |none=>exact .inl (un.keep b o e q (by intro z;exact absurd (show b∈([]:List aw) from z) (by simp)) (by simp))
    |some u=>
     rcases kS b u q with⟨x,hx,rfl⟩|⟨hn,h⟩
     ·obtain⟨t1,t2⟩:=r_ x (E8 hx).1 b (E8 hx).2;rw[e]at t2;cases t2
      obtain⟨more,e2⟩:=un.tbls b _ q;obtain⟨ps,e3,_⟩:=(show a4c H' s'.heap b _ from pL b _ e2);exact .inr (.inl ⟨t1,rfl,#[],ps,rfl,by simpa using e3⟩)
     ·obtain⟨rfl,ob,xs,rfl⟩:=hA b u h;have z2:=un.frzs b ob _ q;obtain⟨e1,_⟩:=qI b _ q;obtain⟨e2,_⟩:=pL b _ z2;rw[e]at e1;cases e1;exact .inl e2
 cases hk:K.lookup a with
 |some o=>
  have e:=KX a o hk;rw[ha]at e;cases e
  refine core (λ_=>el) (.inr ⟨vs,_,hk,by rw[za];exact hl,rv⟩) (λb u z=>by have z':(el:Option HO)=cz u:=z;cases z') (λb u z=>by have z':(el:Option HO)=cz u:=z;cases z') λz=>absurd rfl z
 |none=>
  refine core (λb=>if b=a then cz (.frz {cls:=.type "list",data:=.seq vs.toArray} (.lst (ns.map V.int))) else el) (.inl (.inr ⟨{cls:=.type "list",data:=.seq vs.toArray},aJ rfl⟩)) (λb u z=>?_) (λb u z=>?_) λ_=>hk
  ·by_cases hb:b=a
   ·have z':=(aJ hb).symm.trans z;cases z'
    subst hb;exact⟨ha,by rw[ao];exact hl,vs,_,rv,ha⟩
   ·have z':=(aN hb).symm.trans z;cases z'
  ·by_cases hb:b=a
   ·have z':=(aJ hb).symm.trans z;cases z'
    exact⟨hb,_,_,rfl⟩
   ·have z':=(aN hb).symm.trans z;cases z'
def b2z{l:pS}{XP:(bt->Option ai)->bL->Prop}{YP:bK->bL->Prop}{d:DefRec}{K:Params->af}{CX:bK->CXT}{sp:bK->Sp} 
  (hn:l.most=cz n) (Fj:n<=aQ) (wZ:d.params.defaults=[]) (hr:Room k ou)
  (hY:∀(w:bK) (h:bL),YP w h->(K w.params).In h) (hT:∀w:bK,a2N (K w.params) ((recsOf q).map (·.name))=fx)
  (F:∀(w:bK) (mg:bt->Option ai) (fa:aw) (h:bL),(K w.params).In h->h.Ns ba mg->mg d.name=cz (.ref fa)->
   ∃fd:dJ,(∀(s:aj) (u:ai),ox s fd ⟨[u],[]⟩ [(x,u)])/\
    ∀base:bL,(K w.params).In base->base.Ns ba mg->FnOk l.prog w (K w.params) mg base (CX w) k fa fd [x] (sp w))
  (nq:∀(w:bK) (H:Hp) (a:aw) (ns:List Int),ns.length<=n->SqX (K w.params) H a (ns.map V.int)->sp w [.ref a] H (λv _=>v=.bl fx) λ_ _ _=>False)
  (Ar:∀(w:bK) (H:Hp) (s:aj) (e:ai) (s':aj),CX w [] H s (λ_ _ _=>False) e s'->False) :
  PySem.W.WalkO q loose XP YP l.row.toRowW d [] (λf vs=>AI f vs):=by
 refine Att.attach_call hn wZ λw s₀ s₁ mg mb fa o pm cd doc a vs ns G rp ho hd kL wG uh hints hlen hg=>?_
 have KX:=hY w _ rp;obtain⟨fd,hb,hF⟩:=F w mg fa _ KX G.T.g wG;exact b0z KX G.T.g G.T.b G.T.builtins G.T.nolimit hg G.T.bmain (b5A G.T KX (hT w)) (hT w) uh hints (cx hlen Fj) hr hF hb (λH hS=>nq w H a ns hlen hS) λH e s'=>Ar w H s₁ e s'
def b0A{l:pS}{XP:(bt->Option ai)->bL->Prop}{YP:bK->bL->Prop}{d:DefRec}{K:Params->af}{m:List be->Option be}(hn:l.most=cz 63)(wZ:d.params.defaults=[])(hr:Room k ou)
  (hY:∀(w:bK) (h:bL),YP w h->(K w.params).In h) (hT:∀w:bK,a2N (K w.params) ((recsOf q).map (·.name))=fx)
  (F:∀(w:bK) (mg:bt->Option ai) (fa:aw) (h:bL),(K w.params).In h->h.Ns ba mg->mg d.name=cz (.ref fa)->
   ∃fd:dJ,(∀(s:aj) (u:ai),ox s fd ⟨[u],[]⟩ [(x,u)])/\
    ∀base:bL,(K w.params).In base->base.Ns ba mg->FnOk l.prog w (K w.params) mg base CX0 k fa fd [x] (spD (K w.params) 1 m .i))
  (hm:∀ns:List Int,ns.length<=63->m [.list (ns.map .int)]=cz (.bool fx)) :
  PySem.W.WalkO q loose XP YP l.row.toRowW d [] (λf vs=>AI f vs):=
 b2z (n:=63) (k:=k) (x:=x) (CX:=λ_=>CX0) (sp:=λw=>spD (K w.params) 1 m .i) hn (by decide) wZ hr hY hT F
  (λw H a ns hl hS=>⟨_,_,rfl,denAll_cons (den_list hS (DenAll.ints ns)) denAll_nil,hm ns hl,λv H' fp _ o _ _=>(W5 o).2.2.bool_inv⟩) λ_ _ _ _ _ z=>z
end VS
namespace VS
open PySem.Spec L2
def v6:∀(U ds:List D),g8 U=cz ds->ds.length=0:=λ_ _ h=>by cases h;rfl
def i6(hr:∀(U ds:List D),r U=cz ds->ds.length=n):∀(U ds:List D),b8 f r U=cz ds->ds.length=n+1:=λ_ _ h=>b0t hr h
def b5B:∀(U ds:List D),iI fi U=cz ds->∀d∈ds,mI d:=λU ds h d hd=>by
 have:=a9q rfl U ds h d hd [d] rfl;show imm d=fx;simpa only [g9,fN]using this
def a7V:∀(U ds:List D),iR fa U=cz ds->∀d∈ds,mI d:=λU ds h d hd=>by
 have:=b7a rfl U ds h d hd [d] rfl;show imm d=fx;simpa only [g9,fN]using this
def MkL.and(h:MkL X M e f A)(ha:A:=by exact⟨trivial,trivial⟩):MkL X M e f True:=by
 obtain⟨t,p,q⟩:=h.run;exact⟨t,p,λU Y H P F d Q S hf k=>q U Y H P F d Q S hf λvs ds H1 l e1 ed h1 h2 hl=>k vs ds H1 l e1 ed h1 (λ_=>h2 ha) hl⟩
end VS
namespace VS
open L2
section
variable {a b c:EvE}{U U':List D}{d x y:D}
def l1(g:D->Option D):Option D->Option D
 |some x=>g x
 |none=>el
def l2(g:D->D->Option D):Option D->Option D->Option D
 |some x,cz y=>g x y
 |_,_=>el
def lc(m:List D->Option D):Option (List D)->Option D
 |some xs=>m xs
 |none=>el
def b7d:Option D->Option (List D)->Option (List D)
 |some x,cz xs=>cz (x::xs)
 |_,_=>el
def lB:Option D->Option Bool
 |some d=>asB d
 |none=>el
def lT:Option D->Option Bool
 |some d=>tr d
 |none=>el
def c0I:Option Bool->Option Bool
 |some b=>cz !b
 |none=>el
def b8w:Option Bool->EvT->List D->Option Bool
 |some fx,b,U=>b U
 |some p4,_,_=>cz p4
 |none,_,_=>el
def orT:Option Bool->EvT->List D->Option Bool
 |some fx,_,_=>cz fx
 |some p4,b,U=>b U
 |none,_,_=>el
def b8x:Option D->EvE->List D->Option D
 |some (.bool fx),b,U=>b U
 |some (.bool p4),_,_=>cz (.bool p4)
 |_,_,_=>el
def orE:Option D->EvE->List D->Option D
 |some (.bool fx),_,_=>cz (.bool fx)
 |some (.bool p4),b,U=>b U
 |_,_,_=>el
def c0J:Option D->Option D
 |some (.bool b)=>cz (.bool !b)
 |_=>el
def b5C:Option Bool->EvE->EvE->List D->Option D
 |some fx,a,_,U=>a U
 |some p4,_,b,U=>b U
 |none,_,_,_=>el
def b8y:Option Bool->EvS->EvS->List D->Option Out
 |some fx,a,_,U=>a U
 |some p4,_,b,U=>b U
 |none,_,_,_=>el
def thn:Option Out->EvS->Option Out
 |some (.nx U),b=>b U
 |some (.rt d),_=>cz (.rt d)
 |some (.bk U),_=>cz (.bk U)
 |some (.ct U),_=>cz (.ct U)
 |none,_=>el
def b8z(i:Nat):Option D->List D->Option Out
 |some d,U=>cz (.nx (U.set i d))
 |none,_=>el
def retS:Option D->Option Out
 |some d=>cz (.rt d)
 |none=>el
def exS:Option D->List D->Option Out
 |some _,U=>cz (.nx U)
 |none,_=>el
def a6v(i j:Nat):Option D->List D->Option Out
 |some (.tuple [x,y]),U=>cz (.nx ((U.set i x).set j y))
 |_,_=>el
def c0K(set:List D->D->Option (List D))(g:EvS):Option (List D)->List D->Option Out
 |some ds,U=>T6 set g ds U
 |none,_=>el
def Z2:Option Out->Option D
 |some (.rt d)=>cz d
 |_=>el
def listE:Option (List D)->Option D
 |some ds=>cz (.list ds)
 |none=>el
def c0L:Option (List D)->Option D
 |some ds=>cz (.tuple ds)
 |none=>el
def c2r:l1 g (cz x)=g x:=rfl
def c2s:l2 g (cz x) (cz y)=g x y:=rfl
def c2t:lc m (cz xs)=m xs:=rfl
def b5D:b7d (cz x) (cz xs)=cz (x::xs):=rfl
def c2u:lB (cz (.bool k))=cz k:=rfl
def c2v:lT (cz d)=tr d:=rfl
def b8A:c0I (cz k)=cz !k:=rfl
def b8B:b8w (cz fx) t U=t U:=rfl
def b8C:b8w (cz p4) t U=cz p4:=rfl
def c0M:orT (cz fx) t U=cz fx:=rfl
def c0N:orT (cz p4) t U=t U:=rfl
def b8D:b8x (cz (.bool fx)) b U=b U:=rfl
def b8E:b8x (cz (.bool p4)) b U=cz (.bool p4):=rfl
def c0O:orE (cz (.bool fx)) b U=cz (.bool fx):=rfl
def c0P:orE (cz (.bool p4)) b U=b U:=rfl
def b8F:c0J (cz (.bool k))=cz (.bool !k):=rfl
def b8G:b5C (cz fx) a b U=a U:=rfl
def b8H:b5C (cz p4) a b U=b U:=rfl
def b8I:b8y (cz fx) s t U=s U:=rfl
def b8J:b8y (cz p4) s t U=t U:=rfl
def v7:thn (cz (.nx U)) s=s U:=rfl
def b8K:thn (cz (.rt d)) s=cz (.rt d):=rfl
def b8L:thn (cz (.bk U)) s=cz (.bk U):=rfl
def b8M:thn (cz (.ct U)) s=cz (.ct U):=rfl
def b2A:b8z i (cz d) U=cz (.nx (U.set i d)):=rfl
def b8N:retS (cz d)=cz (.rt d):=rfl
def c0Q:exS (cz d) U=cz (.nx U):=rfl
def b5E:a6v i j (cz (.tuple [x,y])) U=cz (.nx ((U.set i x).set j y)):=rfl
def b2B{set:List D->D->Option (List D)}:c0K set g (cz ds) U=T6 set g ds U:=rfl
def b8O:Z2 (cz (.rt d))=cz d:=rfl
def a9s:listE (cz ds)=cz (.list ds):=rfl
def b8P:c0L (cz ds)=cz (.tuple ds):=rfl
def v_var:b7 i U=cz (U.getD i .none):=rfl
def v_c:eC d U=cz d:=rfl
def v_1:e1 g a U=l1 g (a U):=by unfold e1;cases a U<;>rfl
def v_2:e2 g a b U=l2 g (a U) (b U):=by unfold e2;cases a U<;>cases b U<;>rfl
def c0R:eCl m f U=lc m (f U):=by unfold eCl;cases f U<;>rfl
def b2C:b8 a r U=b7d (a U) (r U):=by unfold b8;cases a U<;>cases r U<;>rfl
def b7e:g8 U=cz []:=rfl
def c2w:tB a U=lB (a U):=by unfold tB;cases a U<;>rfl
def c2x:tV a U=lT (a U):=by unfold tV;cases a U<;>rfl
def c0S:tNo t U=c0I (t U):=by unfold tNo;cases t U<;>rfl
def c0T:tAn s t U=b8w (s U) t U:=by
 unfold tAn;cases s U with
 |none=>rfl
 |some k=>cases k<;>rfl
def c0U:Z1 s t U=orT (s U) t U:=by
 unfold Z1;cases s U with
 |none=>rfl
 |some k=>cases k<;>rfl
def v_and:a2E a b U=b8x (a U) b U:=by
 unfold a2E;cases h:a U with
 |none=>rfl
 |some d=>cases d with
  |bool k=>cases k<;>rfl
  |_=>rfl
def v_or:eOr a b U=orE (a U) b U:=by
 unfold eOr;cases h:a U with
 |none=>rfl
 |some d=>cases d with
  |bool k=>cases k<;>rfl
  |_=>rfl
def v_not:b2p a U=c0J (a U):=by
 unfold b2p;cases h:a U with
 |none=>rfl
 |some d=>cases d<;>rfl
def c0V:eIf t a b U=b5C (t U) a b U:=by
 unfold eIf;cases t U with
 |none=>rfl
 |some k=>cases k<;>rfl
def b7f:M3 f U=listE (f U):=by unfold M3;cases f U<;>rfl
def b7g:J9 f U=c0L (f U):=by unfold J9;cases f U<;>rfl
def x9:i5 s t U=thn (s U) t:=by
 unfold i5;cases s U with
 |none=>rfl
 |some o=>cases o<;>rfl
def Z6:k9 i a U=b8z i (a U) U:=by unfold k9;cases a U<;>rfl
def c0W:m9 a U=retS (a U):=by unfold m9;cases a U<;>rfl
def c2y:sEx a U=exS (a U) U:=by unfold sEx;cases a U<;>rfl
def b8Q:p8 U=cz (.nx U):=rfl
def b2D:sIf t s s' U=b8y (t U) s s' U:=by
 unfold sIf;cases t U with
 |none=>rfl
 |some k=>cases k<;>rfl
def b7h{set:List D->D->Option (List D)}:M6 fi set g U=c0K set g (fi U) U:=by unfold M6;cases fi U<;>rfl
def a5v:V0 i j a U=a6v i j (a U) U:=by
 unfold V0;cases h:a U with
 |none=>rfl
 |some d=>
  match d with
  |.tuple [x,y]=>rfl
  |.tuple []=>rfl
  |.tuple [_]=>rfl
  |.tuple (_::_::_::_)=>rfl
  |.none=>rfl
  |.bool _=>rfl
  |.int _=>rfl
  |.str _=>rfl
  |.list _=>rfl
  |.dict _=>rfl
def E9(h:argsOk us ds=fx):fnD us n g ds=Z2 (g (ds++aL n .none)):=by
 unfold fnD;rw[aJ h];cases g (ds++aL n .none) with
 |none=>rfl
 |some o=>cases o<;>rfl
def v_add:y7 (.int i) (.int j)=cz (.int (i+j)):=rfl
def v_sub:a3S (.int i) (.int j)=cz (.int (i-j)):=rfl
def v_lt:dLt (.int i) (.int j)=cz (.bool (decide (i<j))):=rfl
def c2z:dLe (.int i) (.int j)=cz (.bool (decide (i<=j))):=rfl
def c2A:dGt (.int i) (.int j)=cz (.bool (decide (j<i))):=rfl
def c2B:dGe (.int i) (.int j)=cz (.bool (decide (j<=i))):=rfl
def v_mod(h:0<j):A9 (.int i) (.int j)=cz (.int (i % j)):=by
 show (if b8p i j=fx then _ else _)=_;rw[aJ (show b8p i j=fx from aE h)]
def v_div(h:0<j)(h':j<1073741824):V5 (.int i) (.int j)=cz (.int (i / j)):=by
 show (if b5q i j=fx then _ else _)=_;rw[aJ (by unfold b5q;rw[aE h,aE h'];rfl)]
def a1p{i j:Int}(h:i.natAbs<2^64):L9 (.int i) (.int j)=cz (.int (i*j)):=by
 show (if b0q i j=fx then _ else _)=_;rw[aJ (by unfold b0q;rw[aE h];rfl)]
def W9{i j:Int}(h:j.natAbs<2^64):L9 (.int i) (.int j)=cz (.int (i*j)):=by
 show (if b0q i j=fx then _ else _)=_;rw[aJ (by unfold b0q;rw[aE h,Bool.or_true])]
def v_pow(h:b5r i j=fx):a2D (.int i) (.int j)=cz (.int (i^j.toNat)):=by
 show (if b5r i j=fx then _ else _)=_;rw[aJ h]
def c0X:dEq (.int i) (.int j)=cz (.bool (decide (i=j))):=by
 show cz (cY (p4 !=aH (.int i) (.int j)))=_;have:aH (.int i) (.int j)=decide (i=j):=by
  show (i==j)=decide (i=j);exact iK i j
 rw[this];simp
def c0Y:dNe (.int i) (.int j)=cz (.bool (!decide (i=j))):=by
 show cz (cY (fx !=aH (.int i) (.int j)))=_;have:aH (.int i) (.int j)=decide (i=j):=by
  show (i==j)=decide (i=j);exact iK i j
 rw[this];simp
def b8R:G6 [.list ds]=cz (.int ds.length):=rfl
def b8S:G6 [.tuple ds]=cz (.int ds.length):=rfl
def c0Z:dIx (.list ds) (.int k)=atI ds k:=rfl
def c1a:dIx (.tuple ds) (.int k)=atI ds k:=rfl
def c1b:M4 (.list ds) (.int k)=atI ds k:=rfl
def c1c:w6 x y=l1 V6 (dIx x y):=by unfold w6;cases dIx x y<;>rfl
def a6w(h:imm d=fx):V6 d=cz d:=by unfold V6;rw[aJ h]
def c1d:c2q k (.bool i) (.bool j)=cz (.bool (k !=(i==j))):=rfl
def a0C:imm (.int i)=fx:=by simp only[imm]
def F9(ns:List Int):g9 (ns.map .int)=fx:=by
 induction ns with
 |nil=>simp only[de,g9]
 |cons n ns ih=>simp only[aA,g9,imm,ih,gk]
def a5w{α:Type}{xs:List α}(h0:0<=k)(h:k<(xs.length:Int)):atI xs k=cz (xs[k.toNat]'(by lia)):=by
 unfold L2.atI ixN;rw[aJ h0,aJ h];exact ay (by lia)
def b0B(i:Nat):D->Option D->List D->Option Out
 |.list ds,cz d,U=>if ds.length<1000000 then cz (.nx (U.set i (.list (ds++[d])))) else el
 |_,_,_=>el
def b2E:N9 i (.l t) B1 a U=b0B i (U.getD i .none) (a U) U:=by
 unfold N9 B1
 dsimp only[bS]
 cases h:U.getD i .none with
 |list ds=>
  cases a U with
  |none=>rfl
  |some d=>rfl
 |_=>cases a U<;>rfl
def b8T{ds:List D}(h:ds.length<1000000):b0B i (.list ds) (cz d) U=cz (.nx (U.set i (.list (ds++[d])))):=by
 show (if ds.length<1000000 then cz (Out.nx (U.set i (.list (ds++[d])))) else el)=_;rw[aJ h]
def a6x(h:a U=cz (.int n))(h0:0<=n)(h1:n<2^62):iR a U=cz (G9 0 n.toNat):=by
 unfold iR;rw[h];show (if -(2^62)<=n/\n<2^62 then cz (G9 0 n.toNat) else el)=_;rw[aJ ⟨by lia,h1⟩]
def a7W:(G9 lo n).length=n:=by unfold G9;simp
end
end VS
namespace VS
open PySem.Spec L2
noncomputable def fnN(us:List Ty)(n:Nat)(g:EvS):List D->Option D:=λds=>if argsOk us ds then (g (ds++aL n .none)).bind λo=>match o with
 |.rt d=>cz d
 |.nx _=>cz .none
 |_=>el
 else el
open PyProof.Rows in
def b2F{P:br}{w:bK}{K:af}{mg:bt->Option ai}{base:bL}{x:bt}{st:fS}{f:aw}{fd:dJ}{N ps:List bt}{k n:Nat}{us:List Ty}{u:Ty}{g:EvS}{M':List Md}(F:Fun K x x st f fd)(S:FnScope N ps (i9 st))(nj:us.length=ps.length)(hn:N.length=ps.length+n)
  (hb:∀(gg:ai) (A:bB) (outer:List n_) (s:aj) (H:Hp) (E:XK),Room k (A.deeper (ji x (i9 st) s.heap.objs.size f gg))->PSsX (a0e CX0 P w K mg base N x (i9 st) f gg A outer s H E).nox .i [] (us.map .own++aL n .dead) (w9 st) g M') (hu:u=.i:=by rfl) :
  FnOk P w K mg base CX0 (k+1) f fd ps (spD K ps.length (fnN us n g) u):=by
 subst hu;refine F.ok S (λvs H Q E h=>?_) (λgg A outer s H vs Q E hr h=>?_)
 ·obtain⟨ds,d,hl,_⟩:=h;exact hl
 obtain⟨ds,d,hl,hd,hm,q⟩:=h;obtain⟨t,p,r⟩:=(hb gg A outer s H E hr).out;refine⟨t,p,?_⟩;unfold fnN at hm;by_cases ha:argsOk us ds=fx
 ·rw[aJ ha]at hm;obtain⟨o,h1,h2⟩:=bnd hm;have e:L2.start N vs=vs.map cz++aL n el:=by
   unfold L2.start;rw[show N.length-vs.length=n by lia]
  have S0:StR K (us.map .own++aL n .dead) (ds++aL n iJ) (vs.map cz++aL n el) H H []:=⟨⟨[],P0 ha hd n,bg,λa ha=>(nomatch ha)⟩,λa ha=>(nomatch ha),by rw[K4];exact Same.refl H⟩;cases o with
  |rt d'=>
   have kB:cz d'=cz d:=h2;cases kB
   rw[e];exact r _ (ds++aL n iJ) _ H H [] (.rt d) S0 h1 λv H' fp o nd fr e=>q v H' fp e o nd fr
  |nx U=>
   have kB:cz iJ=cz d:=h2;cases kB
   rw[e];refine r _ (ds++aL n iJ) _ H H [] (.nx U) S0 h1 λY' H' F' S'=>?_
   refine q .non H' [] (S'.prot.trans i8) ?_ bg λa ha=>(nomatch ha)
   simp only[Own];exact⟨trivial,by simp only[imm],den_none⟩
  |_=>cases h2
 ·rw[aN ha]at hm;cases hm
def F5:∀{l:List α} {l':List β},eU R l l'->∀{j:Nat} {x:α},l[j]?=cz x->∃y,l'[j]?=cz y/\R x y:=by
 intro l l' h
 induction h with
 |nil=>intro j x e;simp at e
 |cons r _ ih=>
  intro j x e;cases j with
  |zero=>cases e;exact⟨_,rfl,r⟩
  |succ j=>exact ih (by simpa using e)
def a1M:∀{l:List α} {l':List β},eU R l l'->∀{j:Nat} {y:β},l'[j]?=cz y->∃x,l[j]?=cz x/\R x y:=by
 intro l l' h
 induction h with
 |nil=>intro j x e;simp at e
 |cons r _ ih=>
  intro j x e;cases j with
  |zero=>cases e;exact⟨_,rfl,r⟩
  |succ j=>exact ih (by simpa using e)
section
variable {X:Cx}{pins:List (aw×fm)}{Y:L2.St}{H:Hp}{s:aj}{A:bB}{E:ai->aj->Prop}{a:aw}{es:List (D×V×V)}{o:fm}{ents:Array eQ}{ep:Nat}{kt:Bool}{k:D}{kv:V}{key:ai}
def a1q(I:Inv X pins Y H s)(kk:keyOk kt k)(dk:Den X.K H kv k)(rk:RelV kv key):∃as,Reads s.heap key k as:=Den.reads I k (W1 _ kk.1) dk rk
def Y1(I:Inv X pins Y H s)(hu:A.units+10<cU)(kk:keyOk kt k)(dk:Den X.K H kv k)(rk:RelV kv key)(h:Q (hashD k) {s with toks:=s.toks+v5 k}):az (aO X.prog X.w) A (pyHash key) Q E s:=by
 obtain⟨as,r⟩:=a1q I kk dk rk;exact a2B k kk.1 (by have:=kk.2.1;lia) r h
def Y2(I:Inv X pins Y H s)(hu:A.units+10<cU)(ho:s.heap.get? a=cz o)(hd:o.data=.dict ents ep)(hp:eU O7 es ents.toList)(hn:(es.map (·.1)).Nodup)(hk:∀e∈es,keyOk kt e.1/\Den X.K H e.2.1 e.1)
  (kk:keyOk kt k) (dk:Den X.K H kv k) (rk:RelV kv key) (jY:(∀e∈es,e.1≠k)->Q el s) (jX:∀j e,es[j]?=cz e->e.1=k->Q (cz j) s) :
  az (aO X.prog X.w) A (dictFind a key (hashD k)) Q E s:=by
 cases kt with
 |false=>
  obtain⟨i,rfl⟩:=kk.2.2.2 rfl;cases dk.int_inv
  obtain⟨t,rfl⟩:=rk;have ent:∀(j:Nat) (x:eQ),ents.toList[j]?=cz x->∃e n u,es[j]?=cz e/\e.1=.int n/\x.key=.int n u/\x.hash=kc n:=λj x hx=>by
   obtain⟨e,he,h1,h2,_⟩:=a1M hp hx;obtain⟨k1,k2⟩:=hk e (bx he);obtain⟨n,en⟩:=k1.2.2.2 rfl;rw[en]at k2 h1;have e2:=k2.int_inv;rw[e2]at h2;obtain⟨u,sX⟩:=h2;exact⟨e,n,u,he,en,sX,by simpa[hashD]using h1⟩
  show az (aO X.prog X.w) A (dictFind a (.int i t) ((cW X.prog X.w).hash i)) Q E s;refine wpAny_dictFind_of (knd:=cW X.prog X.w) (k:=i) (by simp[cW,jF]) ho hd (λx hx=>?_) ?_
  ·obtain⟨j,hj⟩:=bU.mp (dU.mpr hx);obtain⟨e,n,u,_,_,h3,h4⟩:=ent j x hj;exact⟨n,by rw[h3];simp[cW,jF],h4⟩
  ·cases hf:ents.findIdx? λe=>(cW X.prog X.w).is i e.key with
   |none=>
    refine jY λe he f_=>?_
    obtain⟨j,hj⟩:=bU.mp he;obtain⟨x,hx,_⟩:=F5 hp hj;obtain⟨e',n,u,h1,h2,h3,_⟩:=ent j x hx;rw[hj]at h1;cases h1
    rw[f_]at h2;cases h2
    have:=Array.findIdx?_eq_none_iff.mp hf x (dU.mp (bx hx));rw[h3]at this;simp[cW,jF]at this
   |some j=>
    obtain⟨gQ,we,_⟩:=Array.findIdx?_eq_some_iff_getElem.mp hf;have hx:ents.toList[j]?=cz ents[j]:=by simp[gQ]
    obtain⟨e,n,u,h1,h2,h3,_⟩:=ent j _ hx;have se:n=i:=by
     rw[h3]at we;simpa[cW,jF]using we
    subst se;exact jX j e h1 h2
 |true=>
  obtain⟨ds,rfl⟩:=kk.2.2.1 rfl;obtain⟨p,vx,rfl,_,_⟩:=dk.tup_inv;cases (show key=aS p from rk)
  obtain⟨as,DJ⟩:=a1q I kk (dk) (show RelV (.ref p) (.ref p) from rfl);have build:∀{es:List (D×V×V)} {l:List eQ},eU O7 es l->(∀e∈es,keyOk fx e.1/\Den X.K H e.2.1 e.1)->∃xs:List (D×aw×ai),l=xs.map (λx=>(⟨hashD x.1,.ref x.2.1,x.2.2⟩:eQ))/\xs.map (·.1)=es.map (·.1)/\∀x∈xs,C6 x.1=fx/\x.1.depth<=7/\∃as,Reads s.heap (.ref x.2.1) x.1 as:=by
   intro es l hp
   induction hp with
   |nil=>exact λ_=>⟨[],rfl,rfl,λx hx=>(nomatch hx)⟩
   |@cons e x es l r _ ih=>
    intro hk;obtain⟨xs,i1,i2,i3⟩:=ih λe he=>hk e (au _ he)
    obtain⟨k1,k2⟩:=hk e ar;obtain⟨as,rr⟩:=a1q I k1 k2 r.2.1;obtain⟨ds,ed⟩:=k1.2.2.1 rfl;have:∃q,x.key=.ref q:=by
     rw[ed]at rr;cases Ez:x.key with
     |ref q=>exact⟨q,rfl⟩
     |_=>rw[Ez]at rr;cases rr
    obtain⟨q,hq⟩:=this;refine⟨(e.1,q,x.val)::xs,?_,by rw[aA,aA,i2],λy hy=>?_⟩
    ·rw[aA,<-i1]
     congr 1;obtain⟨xh,xk,xv⟩:=x;simp only at hq;rw[show xh=hashD e.1 from r.1,hq]
    ·rcases aD.mp hy with z|z
     ·subst z;exact⟨k1.1,k1.2.1,as,by rw[hq]at rr;exact rr⟩
     ·exact i3 y z
  obtain⟨xs,x1,x2,x3⟩:=build hp hk;have idx:∀(j:Nat) (kk:D),(∃p,xs[j]?=cz (kk,p))↔∃e,es[j]?=cz e/\e.1=kk:=λj kk=>by
   have:(xs.map (·.1))[j]?=(es.map (·.1))[j]?:=by rw[x2]
   rw[aY,aY]at this
   constructor
   ·rintro⟨q,hq⟩;rw[hq]at this;cases he:es[j]? with
    |none=>rw[he]at this;cases this
    |some e=>rw[he]at this;exact⟨e,rfl,(aK this).symm⟩
   ·rintro⟨e,he,hk⟩;rw[he]at this;cases hx:xs[j]? with
    |none=>rw[hx]at this;cases this
    |some x=>
     rw[hx]at this;have e1:x.1=e.1:=aK this;exact⟨x.2,by rw[<-hk,<-e1]⟩
  refine @wpAny_dictFind_heap X.prog X.w D b0p (b2i X.prog X.w) A E s a p o ents ep xs (.tuple ds) Q (by show A.units+8<cU;lia) ⟨kk.1,kk.2.1,as,DJ⟩ ho hd x1 x3 (by rw[x2];exact hn) (λh=>jY λe he f_=>?_) (λj q hj=>?_)
  ·obtain⟨j,hj⟩:=bU.mp he;obtain⟨q,hq⟩:=(idx j (.tuple ds)).mpr ⟨e,hj,f_⟩;exact h j q hq
  ·obtain⟨e,he,f_⟩:=(idx j (.tuple ds)).mp ⟨q,hj⟩;exact jX j e he f_
end
def u9(es:List (D×V×V))(k:D):Bool:=es.any λe=>aH e.1 k
def Q9(es:List (D×V×V))(k:D)(kv v:V):List (D×V×V):=if u9 es k then es.map λe=>if aH e.1 k then (e.1,e.2.1,v) else e else es++[(k,kv,v)]
section
variable {X:Cx}{pins:List (aw×fm)}{Y:L2.St}{H:Hp}{s:aj}{A:bB}{E:ai->aj->Prop}{a:aw}{es:List (D×V×V)}{kt:Bool}{k:D}{kv v:V}{key val:ai}
def a7X{x:D×V×V}(h:L4 (es++[x])=p4):L4 es=p4:=by
 cases es with
 |nil=>rfl
 |cons e es=>exact h
def a1r(I:Inv X pins Y H s)(h:H a=cz (c9 a es)):(a==cS)=p4/\es.length<=aQ/\(es.map (·.1)).Nodup/\∃o ents ep,s.heap.get? a=cz o/\o.ExactDict/\o.data=.dict ents ep/\eU O7 es ents.toList/\(L4 es=p4->ep=es.length):=
 (show ObjOk X.prog X.w H s.heap a (c9 a es) from I.hok a _ h).1
def b0C(I:Inv X pins Y H s)(h:H a=cz (c9 a es))(hL:L4 es=p4):(a==cS)=p4/\es.length<=aQ/\(es.map (·.1)).Nodup/\∃o ents,s.heap.get? a=cz o/\o.ExactDict/\o.data=.dict ents es.length/\eU O7 es ents.toList:=
 let⟨a1,a2,a3,o,ents,_,r1,r2,r3,r4,r5⟩:=a1r I h;⟨a1,a2,a3,o,ents,r1,r2,r5 hL▸r3,r4⟩
def o7(I:Inv X pins Y H s)(h:H a=cz (c9 a es)):(a==cS)=p4/\es.length<=aQ/\(es.map (·.1)).Nodup/\∃o ents ep,s.heap.get? a=cz o/\o.ExactDict/\o.data=.dict ents ep/\eU O7 es ents.toList:=
 let⟨a1,a2,a3,o,ents,ep,r1,r2,r3,r4,_⟩:=a1r I h;⟨a1,a2,a3,o,ents,ep,r1,r2,r3,r4⟩
def a2P(I:Inv X pins Y H s)(h:H a=cz (c9 a es)){o:fm}{ents:Array eQ}{ep:Nat}(h1:s.heap.get? a=cz o)(h3:o.data=.dict ents ep)(hL:L4 es=p4):ep=es.length:=by
 obtain⟨_,_,_,o',tH,g1,_,g3,_⟩:=b0C I h hL;rw[h1]at g1;cases g1
 rw[h3]at g3
 injection g3
def l6(I:Inv X pins Y H s)(h:H a=cz (c9 a es)):s.TypeIs (.ref a) "dict":=by
 obtain⟨_,_,_,o,ents,ep,h1,h2,_⟩:=o7 I h;exact⟨o,h1,h2.1⟩
def M8(I:Inv X pins Y H s)(h:H a=cz (c9 a es)):∀b,aS a=.ref b->∃ob,s.heap.get? b=cz ob/\ob.dict=el:=λb q=>by
 cases q
 obtain⟨_,_,_,o,ents,ep,h1,h2,_⟩:=o7 I h;exact⟨o,h1,h2.2.1⟩
def Y3{P:br}{w:bK}{H':Hp}{h':bL}(hs:(a==cS)=p4)(hl:es.length<=aQ)(hn:(es.map (·.1)).Nodup){o:fm}{ents:Array eQ}{ep:Nat}(h1:h'.get? a=cz o)(h2:o.ExactDict)(h3:o.data=.dict ents ep)(he:L4 es=p4->ep=es.length)(h4:eU O7 es ents.toList):ObjOk P w H' h' a (c9 a es):=
 ⟨⟨hs,hl,hn,o,ents,ep,h1,h2,h3,h4,he⟩,⟨o,h1⟩,λx1 x2 ⟨a1,a2,a3,o',tH,rF,b1,b2⟩ hk=>⟨a1,a2,a3,o',tH,rF,hk _ b1,b2⟩⟩
structure KeysAt (X:Cx) (H:Hp) (kt:Bool) (es:List (D×V×V)) (k:D) (kv:V):Prop where
 keys:∀e∈es,keyOk kt e.1/\Den X.K H e.2.1 e.1
 key:keyOk kt k
 den:Den X.K H kv k
def KeysAt.eqv(K:KeysAt X H kt es k kv){e:D×V×V}(he:e∈es):aH e.1 k=fx↔e.1=k:=B6 e.1 k (K.keys e he).1.1 K.key.1
def get_dict(I:Inv X pins Y H s)(hu:A.units+10<cU)(h:H a=cz (c9 a es))(K:KeysAt X H kt es k kv)(rk:RelV kv key) 
  (jY:u9 es k=p4->∀s',Inv X pins Y H s'->Q el s') (jX:∀e∈es,e.1=k->∀x s',Inv X pins Y H s'->RelV e.2.2 x->Q (cz x) s') :
  az (aO X.prog X.w) A (GX a key) Q E s:=by
 obtain⟨_,_,hn,o,ents,ep,h1,h2,h3,h4⟩:=o7 I h;unfold GX
 try with_reducible refine bJ ?_
 refine ae (Y1 I hu K.key K.den rk (ae (Y2 (s:={s with toks:=s.toks+v5 k}) (I.tok (s.toks+v5 k)) hu h1 h3 h4 hn K.keys K.key K.den rk ?_ ?_)))
 ·intro pN;refine ag (jY ?_ _ (I.tok _));unfold u9;rw[cA];exact λe he hq=>pN e he ((K.eqv he).mp hq)
 ·intro j e he f_;obtain⟨x,hx,r⟩:=F5 h4 he;refine ae (cD (s:={s with toks:=s.toks+v5 k}) h1 h3 ?_);have:ents[j]?=cz x:=by rw[<-cg];exact hx
  rw[this];exact ag (jX e (bx he) f_ _ _ (I.tok _) r.2.2)
def a2Q(hf:u9 es k=p4):Q9 es k kv v=es++[(k,kv,v)]:=by unfold Q9;rw[hf];rfl
def a7Y{α β:Type}{R:α->β->Prop}{l:List α}{l':List β}(h:eU R l l'){x:α}{y:β}(r:R x y):eU R (l++[x]) (l'++[y]):=by
 induction h with
 |nil=>exact .cons r .nil
 |cons q _ ih=>exact .cons q ih
def b0D(K:KeysAt X H kt es k kv)(hn:(es.map (·.1)).Nodup)(hf:u9 es k=p4):((es++[(k,kv,v)]).map (·.1)).Nodup:=by
 rw[aZ,bo];refine⟨hn,by simp,λx hx y hy e=>?_⟩;simp only[aA,de,aq]at hy;subst hy;subst e;obtain⟨e,he,rfl⟩:=aR.mp hx;unfold u9 at hf;rw[cA]at hf;exact hf e he ((K.eqv he).mpr rfl)
def a1s(I:Inv X pins Y H s)(h:H a=cz (c9 a es))(K:KeysAt X H kt es k kv)(rk:RelV kv key)(rv:RelV v val)(hl:es.length<aQ)(hf:u9 es k=p4){t':Nat}{o:fm}{ents:Array eQ}{ep:Nat}(h1:s.heap.get? a=cz o)(h2:o.ExactDict)(h3:o.data=.dict ents ep)(h4:eU O7 es ents.toList) :
  Inv X pins Y (upd H a (c9 a (es++[(k,kv,v)]))) {s with heap:=s.heap.update a (·.mapDictKeys (·.push ⟨hashD k,key,val⟩)),toks:=t'}:=by
 obtain⟨hs,_,hn,_⟩:=o7 I h;refine I.write (x:=a) (e:=a) (by rw[h];exact jG) (.inl rfl) (λb q hb z=>((bQ ..).2 b hb).trans z) ⟨_,bR _ h1 (iy (ic h3 _))⟩ ?_;refine Y3 hs (by simp;lia) (b0D K hn hf) (bR _ h1 (iy (ic h3 _))) (h2.mapDictKeys _) (ic h3 _) (λhL=>by rw[a2P I h h1 h3 (a7X hL),bh];rfl) ?_;have:=a7Y h4 (x:=(k,kv,v)) (y:=⟨hashD k,key,val⟩) ⟨rfl,rk,rv⟩;obtain⟨l⟩:=ents;simpa using this
def b0E(I:Inv X pins Y H s)(hu:A.units+10<cU)(h:H a=cz (c9 a es))(K:KeysAt X H kt es k kv)(rk:RelV kv key)(rv:RelV v val)(hl:es.length<aQ){Q:ai->aj->Prop}
  (jY:u9 es k=p4->∀s',Inv X pins Y (upd H a (c9 a (es++[(k,kv,v)]))) s'->Q val s') (jX:∀e∈es,e.1=k->∀x s',Inv X pins Y H s'->RelV e.2.2 x->Q x s') :
  az (aO X.prog X.w) A (xH a key val) Q E s:=by
 obtain⟨_,_,hn,o,ents,ep,h1,h2,h3,h4⟩:=o7 I h;have hsz:ents.size<=aQ:=by
  have:=dF h4;have e2:ents.toList.length=ents.size:=by simp
  lia
 unfold xH
 try with_reducible refine bJ ?_
 refine ae (Y1 I hu K.key K.den rk (ae (Y2 (s:={s with toks:=s.toks+v5 k}) (I.tok (s.toks+v5 k)) hu h1 h3 h4 hn K.keys K.key K.den rk ?_ ?_)))
 ·intro pN;have hf:u9 es k=p4:=by
   unfold u9;rw[cA];exact λe he hq=>pN e he ((K.eqv he).mp hq)
  refine ae (ef (ae (nv (hz:=hsz) (s:={s with toks:=s.toks+v5 k}) h1 h3 (ag (jY hf _ (a1s (t':=s.toks+v5 k) I h K rk rv hl hf h1 h2 h3 h4))))))
 ·intro j e he f_;obtain⟨x,hx,r⟩:=F5 h4 he;refine ae (cD (s:={s with toks:=s.toks+v5 k}) h1 h3 ?_);have:ents[j]?=cz x:=by rw[<-cg];exact hx
  rw[this];exact ae (ef (ag (jX e (bx he) f_ _ _ (I.tok (s.toks+v5 k)) r.2.2)))
def a7Z(hp:eU O7 es l)(hn:(es.map (·.1)).Nodup)(hk:∀e∈es,aH e.1 k=fx↔e.1=k)(rv:RelV v val):∀{j:Nat} {e:D×V×V},es[j]?=cz e->e.1=k->
  eU O7 (es.map λe=>if aH e.1 k then (e.1,e.2.1,v) else e) (l.modify j λx=>{x with val:=val}):=by
 induction hp with
 |nil=>intro j e he;simp at he
 |@cons e0 x es l r hp ih=>
  intro j e he f_;rw[aA,bD]at hn;have rC:∀e∈es,aH e.1 k=fx↔e.1=k:=λe he=>hk e (au _ he)
  cases j with
  |zero=>
   cases he
   have h0:aH e0.1 k=fx:=(hk _ ar).mpr f_;have jE:es.map (λe=>if aH e.1 k then (e.1,e.2.1,v) else e)=es:=by
    have:∀e'∈es,(if aH e'.1 k then (e'.1,e'.2.1,v) else e')=e':=λe' lF=>by
     rw[aN];intro q;exact hn.1 (by rw[f_,<-(rC e' lF).mp q];exact bE lF)
    rw[cM this,jz]
   rw[aA,aJ h0,jE];exact .cons ⟨r.1,r.2.1,rv⟩ hp
  |succ j=>
   have lF:es[j]?=cz e:=by simpa using he
   have ik:¬ aH e0.1 k=fx:=λq=>hn.1 (by rw[(hk _ ar).mp q,<-f_];exact bE (bx lF))
   rw[aA,aN ik];exact .cons r (ih hn.2 rC lF f_)
def a2R{es:List (D×V×V)}:(es.map λe=>if aH e.1 k then (e.1,e.2.1,v) else e).map (·.1)=es.map (·.1):=by
 rw[bG];refine cM λe _=>?_
 show (if aH e.1 k then (e.1,e.2.1,v) else e).1=e.1
 split<;>rfl
def a8a(K:KeysAt X H kt es k kv)(hk:a0g k=p4)(h:L4 (es.map λe=>if aH e.1 k then (e.1,e.2.1,v) else e)=p4):L4 es=p4:=by
 cases es with
 |nil=>rfl
 |cons e es=>
  by_cases c:aH e.1 k=fx
  ·show (a0g e.1&&a6g e.2.2)=p4;rw[(K.eqv ar).mp c,hk];rfl
  ·rw[aA,aN c]at h;exact h
def set_dict(I:Inv X pins Y H s)(hu:A.units+10<cU)(h:H a=cz (c9 a es))(K:KeysAt X H kt es k kv)(rk:RelV kv key)(rv:RelV v val)(hl:es.length<aQ)(hp:u9 es k=fx->a0g k=p4){Q:Unit->aj->Prop}
  (hQ:∀s',Inv X pins Y (upd H a (c9 a (Q9 es k kv v))) s'->Q () s'):az (aO X.prog X.w) A (GW a key val) Q E s:=by
 obtain⟨hs,_,hn,o,ents,ep,h1,h2,h3,h4⟩:=o7 I h;have hsz:ents.size<=aQ:=by
  have:=dF h4;have e2:ents.toList.length=ents.size:=by simp
  lia
 unfold GW
 try with_reducible refine bJ ?_
 refine ae (Y1 I hu K.key K.den rk ?_);unfold lI
 try with_reducible refine bJ ?_
 refine ae (Y2 (s:={s with toks:=s.toks+v5 k}) (I.tok (s.toks+v5 k)) hu h1 h3 h4 hn K.keys K.key K.den rk ?_ ?_)
 ·intro pN;have hf:u9 es k=p4:=by
   unfold u9;rw[cA];exact λe he hq=>pN e he ((K.eqv he).mp hq)
  rw[a2Q hf]at hQ;exact ae (ef (nv (hz:=hsz) (s:={s with toks:=s.toks+v5 k}) h1 h3 (hQ _ (a1s (t':=s.toks+v5 k) I h K rk rv hl hf h1 h2 h3 h4))))
 ·intro j e he f_;have hf:u9 es k=fx:=by
   unfold u9;rw[dA];exact⟨e,bx he,(K.eqv (bx he)).mpr f_⟩
  have rF:Q9 es k kv v=es.map λe=>if aH e.1 k then (e.1,e.2.1,v) else e:=by unfold Q9;rw[hf];rfl
  rw[rF]at hQ;refine ae (ef (ae (wpAny_updateDict (s:={s with toks:=s.toks+v5 k}) h1 h3 (wpAny_point (hQ _ ?_)))));refine I.write (x:=a) (e:=a) (t':=s.toks+v5 k) (by rw[h];exact jG) (.inl rfl) (λb q hb z=>((bQ ..).2 b hb).trans z) ⟨_,bR _ h1 (iy (sJ h3 _))⟩ ?_;refine Y3 hs (by rw[ao];lia) (by rw[a2R];exact hn) (bR _ h1 (iy (sJ h3 _))) (h2.mapDict _) (sJ h3 _) (λhL=>by rw[a2P I h h1 h3 (a8a K (hp hf) hL),ao]) ?_;have:=a7Z h4 hn (λe he=>K.eqv he) rv he f_;obtain⟨l⟩:=ents;simpa using this
end
def b2G(i:Expr):Prop:=∀ov iv,sR i p4 ov iv=operate [ov,iv] (qY ov iv)
open PyProof.Rows in
def c2C{prog:br}{w:bK}{A:bB}{E:ai->aj->Prop}{s:aj}{env:n_}{value slice:Expr}{pos:eA}{T id:String}{Q:ai->aj->Prop}
  (hl:mq (.type T) "__getitem__"=pure (cz (.builtin id))) (hs:b2G slice)
  (h:az (aO prog w) A (bX value env) (λo s₁=>az (aO prog w) A (bX slice env) (λi s₂=>s₂.TypeIs o T/\az (aO prog w) A (qY o i) Q E s₂) E s₁) E s) :
  az (aO prog w) A (bX (.Subscript value slice pos) env) Q E s:=by
 refine PyProof.Rows.Subscript_ (cK h (λo s₁ h₁=>cK h₁ (λi s₂ h₂=>?_) λ_ _ x=>x) λ_ _ x=>x);obtain⟨hT,h₂⟩:=h₂;unfold subscriptTail;refine ae ?_;rw[getitemInPython_of_ne hT.not_modules];refine ae (dC hT hl ?_);have fin:az (aO prog w) A (sR slice p4 o i) (λr s₃=>az (aO prog w) A (letTemporaryGo value o r >>= λ_=>pure r) Q E s₃) E s₂:=by
  rw[hs o i];exact wpAny_operating (cK h₂ (λr s₃ h₃=>ae (wpAny_letTemporaryGo (ag h₃))) λ_ _ x=>x)
 first
  |exact ag (ae fin)
  |exact ae (ag (ae fin))
  |exact ae fin
section
variable {X:Cx}{pins:List (aw×fm)}{Y:L2.St}{H:Hp}{s:aj}{A:bB}{E:ai->aj->Prop}{a:aw}{es:List (D×V×V)}{kt:Bool}{k:D}{kv v:V}{key val:ai}
def a8b(hu:A.units+12<cU)(I:Inv X pins Y H s)(h:H a=cz (c9 a es))(K:KeysAt X H kt es k kv)(rk:RelV kv key)(hh:u9 es k=fx)
  (hQ:∀e∈es,e.1=k->∀x s',Inv X pins Y H s'->RelV e.2.2 x->Q x s'):az (aO X.prog X.w) A (qY (.ref a) key) Q E s:=by
 have hT:=l6 I h;unfold qY
 try with_reducible refine bJ ?_
 refine ae (wpAny_sequenceKey hT (by decide) ?_);refine ae (bM (name:=cm "__getitem__") hT slot_dict_getitem (bF slot_dict_getitem hT entry_dict_getitem ?_ (args_dict_getitem _ _)));show az _ _ (GX a key >>= _) _ _ s;refine ae (get_dict (A:=A.in1) I (by show A.units+1+10<cU;lia) h K rk (λhf=>by rw[hh]at hf;cases hf) λe he f_ x s' I' r=>?_);exact ag ⟨x,rfl,ag (hQ e he f_ x s' I' r)⟩
def a1N(hu:A.units+12<cU)(I:Inv X pins Y H s)(h:H a=cz (c9 a es))(K:KeysAt X H kt es k kv)(rk:RelV kv key)
  (hQ:∀s',Inv X pins Y H s'->Q (u9 es k) s'):az (aO X.prog X.w) A (contains (.ref a) key) Q E s:=by
 have hT:=l6 I h;obtain⟨hd,_⟩:=o7 I h;unfold contains
 try with_reducible refine bJ ?_
 refine ae (dC hT slot_dict_contains.lookup ?_);show az _ _ (if (cz (pB "dict.__contains__")==cz bZ)=fx then _ else _) _ E s;rw[aN (by rw[beq_builtin_none];exact bc)];refine ae (wpAny_callSpecialUnlessNone?_slot (name:=cm "__contains__") hT slot_dict_contains (bF slot_dict_contains hT entry_dict_contains ?_ (args_dict_contains _ _)));show az _ _ (GX a key >>= _) _ _ s;refine ae (get_dict (A:=A.in1) I (by show A.units+1+10<cU;lia) h K rk (λhf s' I'=>?_) λe he f_ x s' I' r=>?_)
 ·rw[hf]at hQ;show az _ _ (Builtin.Dict.pendingKey? a key >>= _) _ _ _;exact ae (wpAny_pendingKey_other hd (ag ⟨_,rfl,df (hQ s' I')⟩))
 ·have hf:u9 es k=fx:=by
   unfold u9;rw[dA];exact⟨e,he,(K.eqv he).mpr f_⟩
  rw[hf]at hQ;show az _ _ (ret (.bool fx)) _ _ _;exact ag ⟨_,rfl,df (hQ s' I')⟩
def c1e(hu:A.units+12<cU)(I:Inv X pins Y H s)(h:H a=cz (c9 a es))(K:KeysAt X H kt es k kv)(rk:RelV kv key)
  (hQ:∀s',Inv X pins Y H s'->Q (.bool (u9 es k)) s'):az (aO X.prog X.w) A (bO .In key (.ref a)) Q E s:=by
 show az _ _ (do return .bool (<-contains (.ref a) key)) Q E s;exact ae (a1N hu I h K rk λs' I'=>ag (hQ s' I'))
def b2H(hu:A.units+12<cU)(I:Inv X pins Y H s)(h:H a=cz (c9 a es))(K:KeysAt X H kt es k kv)(rk:RelV kv key)
  (hQ:∀s',Inv X pins Y H s'->Q (.bool (!u9 es k)) s'):az (aO X.prog X.w) A (bO .NotIn key (.ref a)) Q E s:=by
 show az _ _ (do return .bool (!(<-contains (.ref a) key))) Q E s;exact ae (a1N hu I h K rk λs' I'=>ag (hQ s' I'))
def a8c(hu:A.units+12<cU)(I:Inv X pins Y H s)(h:H a=cz (c9 a es))(K:KeysAt X H kt es k kv)(rk:RelV kv key)(rv:RelV v val)(hl:es.length<aQ)(hp:u9 es k=fx->a0g k=p4)
  (hQ:∀s',Inv X pins Y (upd H a (c9 a (Q9 es k kv v))) s'->Q () s'):az (aO X.prog X.w) A (setItem (.ref a) key val) Q E s:=by
 have hT:=l6 I h;unfold setItem
 try with_reducible refine bJ ?_
 refine ae (wpAny_sequenceKey hT (by decide) ?_);refine ae (bM (name:=cm "__setitem__") hT slot_dict_setitem (bF slot_dict_setitem hT entry_dict_setitem ?_ (args_dict_setitem _ _ _)));show az _ _ (Builtin.Dict.notOrdered "__setitem__" ⟨[.ref a,key,val],[]⟩ >>= _) _ _ s;refine ae (fL hT ?_);show az _ _ (GW a key val >>= _) _ _ s;exact ae (set_dict (A:=A.in1) I (by show A.units+1+10<cU;lia) h K rk rv hl hp λs' I'=>ag ⟨.none,rfl,ag (hQ s' I')⟩)
def b8U(hu:A.units+12<cU)(I:Inv X pins Y H s)(h:H a=cz (c9 a es))(K:KeysAt X H kt es k kv)(rk:RelV kv key)
  (jY:u9 es k=p4->∀s',Inv X pins Y H s'->Q .none s') (jX:∀e∈es,e.1=k->∀x s',Inv X pins Y H s'->RelV e.2.2 x->Q x s'):az (aO X.prog X.w) A (call (.builtin "dict.get") [.ref a,key]) Q E s:=by
 have hT:=l6 I h;obtain⟨hd,_⟩:=o7 I h;refine bF F.slot_dict_get hT F.entry_dict_get ?_ (F.args_dict_get_2 _ _);show az _ _ (GX a key >>= _) _ _ s;refine ae (get_dict (A:=A.in1) I (by show A.units+1+10<cU;lia) h K rk (λhf s' I'=>?_) λe he f_ x s' I' r=>?_)
 ·show az _ _ (Builtin.Dict.missed a key >>= _) _ _ _;exact ae (wpAny_missed_other hd (ag ⟨.none,rfl,jY hf s' I'⟩))
 ·exact ag ⟨x,rfl,jX e he f_ x s' I' r⟩
def b5F(hu:A.units+12<cU)(I:Inv X pins Y H s)(h:H a=cz (c9 a es))(K:KeysAt X H kt es k kv)(rk:RelV kv key)(rv:RelV v val)(hl:es.length<aQ)
  (jY:u9 es k=p4->∀s',Inv X pins Y (upd H a (c9 a (es++[(k,kv,v)]))) s'->Q val s') (jX:∀e∈es,e.1=k->∀x s',Inv X pins Y H s'->RelV e.2.2 x->Q x s') :
  az (aO X.prog X.w) A (call (.builtin "dict.setdefault") [.ref a,key,val]) Q E s:=by
 have hT:=l6 I h;obtain⟨hd,_⟩:=o7 I h;refine bF F.slot_dict_setdefault hT F.entry_dict_setdefault ?_ (F.args_dict_setdefault_3 _ _ _);unfold Builtin.«dict.setdefault»;refine ae ?_;unfold Builtin.Dict.keyAndDefault;refine ae (fL hT ?_);show az _ _ (pure (a,key,cz val)) _ _ s;refine ag ?_;show az _ _ (if (a==cS)=fx then _ else (xH a key val >>= _)) _ _ s;rw[aN (by rw[hd];exact bc)];exact ae (b0E (A:=A.in1) I (by show A.units+1+10<cU;lia) h K rk rv hl (λhf s' I'=>ag ⟨_,rfl,jY hf s' I'⟩) λe he f_ x s' I' r=>ag ⟨_,rfl,jX e he f_ x s' I' r⟩)
def b8V(I:Inv X pins Y H s)(h:H a=cz (c9 a es))(hQ:∀t s',Inv X pins Y H s'->Q (.int es.length t) s'):az (aO X.prog X.w) A (call (.builtin "len") [.ref a]) Q E s:=by
 have hT:=l6 I h;obtain⟨hd,hl,_,o,ents,ep,h1,h2,h3,h4⟩:=o7 I h;have hsz:ents.size=es.length:=by
  have:=dF h4;have e2:ents.toList.length=ents.size:=by simp
  lia
 have qd:(es.length:Int)<2^63:=by
  have:aQ<2^62:=by decide
  lia
 refine lg kind_len plain_len entry_len (args_len1 _) ?_;unfold Builtin.«len»;refine ae (m:=oneArg "len" _) (ag ?_);refine ae (m:=callSpecial? (.ref a) (cm "__len__")) (bM (name:=cm "__len__") hT iF (bF iF hT F.entry_dict_len ?_ (F.args_dict_len_1 _)));show az _ _ (dictSize a >>= _) _ _ s;unfold dictSize;refine ae (ae (cD h1 h3 (ag ?_)));show az _ _ (yI a >>= _) _ _ s;refine ae (yK hd ?_);refine tS ?_;rw[Nat.add_zero,hsz];refine ae (bJ (ag ?_));refine ae (nz ?_);show az _ _ (if ((es.length:Nat):Int)<0 then _ else _) _ _ _;rw[aN (by lia)];show az _ _ (if ((es.length:Nat):Int)≥2^63 then _ else _) _ _ _;rw[aN (by lia)];exact ae (wpAny_mkInt (ag ⟨_,rfl,hQ _ _ (I.tok _)⟩))
end
def y8(kvs:List (D×D))(k:D):Bool:=kvs.any λp=>aH p.1 k
def I9(kvs:List (D×D))(k:D):Option D:=(kvs.find? λp=>aH p.1 k).map (·.2)
def v8(kvs:List (D×D))(k d:D):List (D×D):=if y8 kvs k then kvs.map λp=>if aH p.1 k then (p.1,d) else p else kvs++[(k,d)]
def p9(kt:Bool)(k:D):Bool:=C6 k&&decide (k.depth<=7)&&match k with
 |.tuple _=>kt
 |.int _=>!kt
 |_=>p4
def z0(h:p9 kt k=fx):keyOk kt k:=by
 unfold p9 at h;rw[av,av]at h;refine⟨h.1.1,aX h.1.2,λe=>?_,λe=>?_⟩
 ·subst e;cases k with
  |tuple ds=>exact⟨ds,rfl⟩
  |int i=>have:=h.2;simp at this
  |_=>have:=h.2;simp at this
 ·subst e;cases k with
  |int i=>exact⟨i,rfl⟩
  |tuple ds=>have:=h.2;simp at this
  |_=>have:=h.2;simp at this
def dIn(neg kt:Bool):D->D->Option D
 |k,.dict kvs=>if p9 kt k then cz (.bool (neg !=y8 kvs k)) else el
 |_,_=>el
def b2I:List D->Option D
 |[.dict kvs]=>cz (.int kvs.length)
 |_=>el
theorem B9:∀{es:List (D×V×V)} {ds:List D},ds.length=es.length->y8 ((es.map (·.1)).zip ds) k=u9 es k
 |[],ds,_=>by simp[y8,u9]
 |e::es,[],h=>by simp at h
 |e::es,d::ds,h=>by
  have ih:=B9 (k:=k) (es:=es) (ds:=ds) (by simpa using h);unfold y8 u9 at ih ⊢;simp only[aA,ei,kn,ih]
theorem a2S:∀{es:List (D×V×V)} {ds:List D} {j:Nat} {e:D×V×V} {d:D},ds.length=es.length->(∀e∈es,aH e.1 k=fx↔e.1=k)->(es.map (·.1)).Nodup->es[j]?=cz e->e.1=k->ds[j]?=cz d->I9 ((es.map (·.1)).zip ds) k=cz d
 |[],ds,j,e,d,_,_,_,he,_,_=>by simp at he
 |e0::es,[],j,e,d,h,_,_,_,_,_=>by simp at h
 |e0::es,d0::ds,0,e,d,h,hk,_,he,f_,hd=>by
  cases he
  cases hd
  have:aH e0.1 k=fx:=(hk _ ar).mpr f_;simp[I9,this]
 |e0::es,d0::ds,j+1,e,d,h,hk,hn,he,f_,hd=>by
  rw[aA,bD]at hn;have lF:es[j]?=cz e:=by simpa using he
  have lH:ds[j]?=cz d:=by simpa using hd
  have ih:=a2S (k:=k) (by simpa using h) (λe he=>hk e (au _ he)) hn.2 lF f_ lH;have ik:aH e0.1 k=p4:=by
   cases q:aH e0.1 k with
   |false=>rfl
   |true=>exact absurd (by rw[(hk _ ar).mp q,<-f_];exact bE (bx lF)) hn.1
  unfold I9 at ih ⊢;simp only[aA,ei,fG,ik];exact ih
def a4v(h:y8 kvs k=p4):I9 kvs k=el:=by
 unfold y8 at h;rw[cA]at h;unfold I9;rw[gd.mpr λp hp=>by simpa using h p hp];rfl
def a6y(h:I9 kvs k=cz d):y8 kvs k=fx:=by
 cases q:y8 kvs k with
 |true=>rfl
 |false=>rw[a4v q]at h;cases h
def a4w(h:y8 kvs k=p4):v8 kvs k d=kvs++[(k,d)]:=by unfold v8;rw[h];rfl
def X0{es:List (D×V×V)}{ds:List D}{k d:D}{kv v:V}(hl:ds.length=es.length):((es++[(k,kv,v)]).map (·.1)).zip (ds++[d])=(es.map (·.1)).zip ds++[(k,d)]:=by
 rw[aZ,IA (by rw[ao];exact hl.symm)];rfl
theorem P3{v:V}:∀{es:List (D×V×V)} {ds:List D} {j:Nat} {e:D×V×V},ds.length=es.length->(∀e∈es,aH e.1 k=fx↔e.1=k)->(es.map (·.1)).Nodup->es[j]?=cz e->e.1=k->
  ((es.map (·.1)).zip ds).map (λp=>if aH p.1 k then (p.1,d) else p)=(es.map (·.1)).zip (ds.set j d)
 |[],ds,j,e,_,_,_,he,_=>by simp at he
 |e0::es,[],j,e,h,_,_,_,_=>by simp at h
 |e0::es,d0::ds,0,e,h,hk,hn,he,f_=>by
  cases he
  rw[aA,bD]at hn;have h0:aH e0.1 k=fx:=(hk _ ar).mpr f_;have jE:((es.map (·.1)).zip ds).map (λp=>if aH p.1 k then (p.1,d) else p)=(es.map (·.1)).zip ds:=by
   have:∀p∈(es.map (·.1)).zip ds,(if aH p.1 k then (p.1,d) else p)=p:=λp hp=>by
    rw[aN];intro q;have hm:=(jf hp).1;obtain⟨e',lF,hq⟩:=aR.mp hm;have ES:e'.1=p.1:=hq;rw[<-ES]at q;exact hn.1 (by rw[f_,<-(hk e' (au _ lF)).mp q];exact bE lF)
   rw[cM this,jz]
  simp only[aA,ei,nh,aJ h0,jE]
 |e0::es,d0::ds,j+1,e,h,hk,hn,he,f_=>by
  rw[aA,bD]at hn;have lF:es[j]?=cz e:=by simpa using he
  have ih:=P3 (k:=k) (d:=d) (v:=v) (ds:=ds) (by simpa using h) (λe he=>hk e (au _ he)) hn.2 lF f_;have ik:¬ aH e0.1 k=fx:=λq=>hn.1 (by rw[(hk _ ar).mp q,<-f_];exact bE (bx lF))
  simp only[aA,ei,jI,aN ik,ih]
section
variable {K:af}{H:Hp}{F:List aw}
theorem Own.dict(h:Own K H F (.d kt u) v d fp):∃a es ds fs,v=.ref a/\H a=cz (c9 a es)/\d=.dict ((es.map (·.1)).zip ds)/\fp=a::fs/\(∀e∈es,keyOk kt e.1/\Den K (cut H F) e.2.1 e.1)/\ListAll (Own K H F u) (es.map (·.2.2)) ds fs/\ds.length=es.length/\(es.map (·.1)).Nodup:=by
 simp only[Own]at h;obtain⟨a,es,ds,fs,h1,h2,h3,h4,h5,h6⟩:=h;exact⟨a,es,ds,fs,h1,h2,h3,h4,h5.2,h6,by have:=h6.length;rw[ao]at this;exact this.symm,h5.1⟩
end
section
variable {X:Cx}{M:List Md}{a b e:Expr}{fa fb:EvE}{ca cb:Cat}{kt:Bool}{u:Ty}{pos:eA}
def keysAt(h:∀e∈es,keyOk kt e.1/\Den X.K (cut H F) e.2.1 e.1)(hk:p9 kt k=fx)(hd:Den X.K H kv k):KeysAt X H kt es k kv:=
 ⟨λe he=>⟨(h e he).1,(h e he).2.up i8⟩,z0 hk,hd⟩
def a8d(X:Cx)(neg:Bool):R2:=λx y H Q=>∃a es kt k,y=.ref a/\H a=cz (c9 a es)/\KeysAt X H kt es k x/\Q (.bl (neg !=u9 es k)) H
def b2J(hu:X.A.units+464<cU):OpR X (bO .In) (a8d X p4):=by
 intro pins s Y H x y v w Q I rx ry h;obtain⟨a,es,kt,k,rfl,hH,K,q⟩:=h;cases (show w=aS a from ry)
 exact c1e (by lia) I hH K rx λs' I'=>⟨.bl _,H,I',rfl,by simpa using q⟩
def a4x(hu:X.A.units+464<cU):OpR X (bO .NotIn) (a8d X fx):=by
 intro pins s Y H x y v w Q I rx ry h;obtain⟨a,es,kt,k,rfl,hH,K,q⟩:=h;cases (show w=aS a from ry)
 exact b2H (by lia) I hH K rx λs' I'=>⟨.bl _,H,I',rfl,by simpa using q⟩
def b2K(h:dIn neg kt k d=cz r):∃kvs,d=.dict kvs/\p9 kt k=fx/\r=.bool (neg !=y8 kvs k):=by
 cases d with
 |dict kvs=>
  have h':(if p9 kt k then cz (cY (neg !=y8 kvs k)) else el)=cz r:=h;by_cases c:p9 kt k=fx
  ·rw[aJ c]at h';exact⟨kvs,rfl,c,(aK h').symm⟩
  ·rw[aN c]at h';cases h'
 |_=>cases h
end
section
variable {X:Cx}{M:List Md}{a b e o:Expr}{es:List Expr}{fa fb:EvE}{ca cb:Cat}{kt:Bool}{u:Ty}{pos apos cH:eA}{to:TE}{t:TA}{name:bt}{id:String}{r:V->List V->Hp->VK->Prop}
def c2D(r:V->List V->Hp->VK->Prop)(to:TE)(t:TA):TE:=λY H Q=>to Y H λx H1=>(∃p es,x=.ref p/\H1 p=cz (c9 p es))/\t Y H1 λxs H2=>r x xs H2 Q
def a8e(slot:Slot "dict" name id)(wm:typeOf (.builtin id)=pure (.type "method_descriptor"))(hm:MtR X id r)(ho:PE X o to)(ha:PA X (e::es) t)
  (eX:dE o name X.env (bX o X.env)=bX o X.env:=by rfl)
  (lW:((bY cH (ak (e::es) X.env)).all (λx=>!x.1)&&(rd cH (lj [] X.env)).all (λx=>x.1.isSome)
   && decide ((e::es).length+([]:List iZ).length+(if ([]:List iZ).isEmpty then 0 else 1)<30))=fx:=by rfl)
  (eW:(apos.endLine==cH.line)=fx:=by rfl) (hs:ak (e::es) X.env=(p4,bX e X.env)::ak es X.env:=by rfl) (iA:(bY cH (ak es X.env)).any (·.1)=p4:=by rfl) :
  PE X (.Call (.Attribute o name apos) (e::es) [] cH) (c2D r to t):=by
 intro pins s Y H Q I h;refine Du eX lW eW rfl (L2.thn (ho pins s Y H _ I h) λv s1 ⟨x,H1,I1,r1,⟨p,Ij,ex,hH⟩,q1⟩=>?_);subst ex;obtain rfl:v=aS p:=r1;refine⟨"dict",id,iu,slot,wm,l6 I1 hH,M8 I1 hH,?_⟩;have hA:=ha cH pins s1 Y H1 _ I1 q1;rw[hs]at hA ⊢;refine fq (by show (p4||(bY cH (ak es X.env)).any (·.1))=p4;rw[iA]<;>rfl) (jM ?_);exact L2.thn hA λus s2 ⟨vs,H2,I2,r2,q2⟩=>hm pins s2 Y H2 (.ref p) vs (.ref p) us Q I2 rfl r2 q2
def b0F:CallR X (.builtin "len") (λxs H Q=>∃p es,xs=[V.ref p]/\H p=cz (c9 p es)/\Q (.int es.length) H):=by
 intro pins s Y H xs us Q I rv h;obtain⟨p,es,rfl,hH,q⟩:=h;obtain⟨w,rfl,rw⟩:=rv.one;cases (show w=aS p from rw)
 exact b8V I hH λt s' I'=>⟨.int es.length,H,I',⟨t,rfl⟩,q⟩
def a1O(h:bL)(hb:cS<h.objs.size):ObjOk P w H (h.push {cls:=.type "dict",data:=.dict #[]}) h.objs.size (c9 h.objs.size []):=
 Y3 (eH.mpr (dy (a_ hb))) (cI _) bg (aF _ rfl) ⟨rfl,rfl,rfl⟩ rfl (λ_=>rfl) .nil
def a6z:PE X (.Dict [] [] pos) (λ_ H Q=>∀p,H p=el->Q (.ref p) (upd H p (c9 p []))):=λpins s Y H Q I h=>
 wpAny_Dict_empty ⟨.ref s.heap.objs.size,_,I.laid (a:=s.heap.objs.size) (o:=c9 s.heap.objs.size []) (t':=s.toks) (λ_ _ q=>ah _ q) (aG _) (a1O s.heap I.sysBelow),rfl,h _ (I.hok.fresh (aG _))⟩
def a0D(kt:Bool)(u:Ty):PX X M (.Dict [] [] pos) (eC (.dict [])) (.new (.d kt u)):=by
 refine .mk ⟨_,a6z,λU Y H P F d Q S hf q=>?_⟩;cases hf
 intro p hp;refine q _ _ (j9 hp _) ⟨[p],?_,by simp,λa ha=>by rw[aq.mp ha];exact hp⟩;simp only[Own];exact⟨p,[],[],[],rfl,i7,rfl,rfl,⟨bg,λe he=>(nomatch he)⟩,n5⟩
end
section
variable {K:af}{H:Hp}{F:List aw}
theorem StE.dict(S:StE K M U Y H P F)(hm:M[i]?=cz (.own (.d kt u))) :
  ∃a es ds fs,Y[i]?=cz (cz (.ref a))/\H a=cz (c9 a es)/\U.getD i .none=.dict ((es.map (·.1)).zip ds)/\(∀e∈es,keyOk kt e.1/\Den K (cut H F) e.2.1 e.1)/\ListAll (Own K H F u) (es.map (·.2.2)) ds fs/\ds.length=es.length/\(es.map (·.1)).Nodup:=by
 obtain⟨v,f,h1,o,_⟩:=S.get hm;obtain⟨a,es,ds,fs,rfl,h2,h3,_,h5,h6,h7,h8⟩:=o.dict;exact⟨a,es,ds,fs,h1,h2,h3,h5,h6,h7,h8⟩
theorem a2T:∀{es:List (D×V×V)} {j:Nat} {e:D×V×V},(es.map (·.1)).Nodup->(∀e∈es,aH e.1 k=fx↔e.1=k)->es[j]?=cz e->e.1=k->(es.map λe=>if aH e.1 k then (e.1,e.2.1,v) else e).map (·.2.2)=(es.map (·.2.2)).set j v
 |[],j,e,_,_,hj,_=>by simp at hj
 |e0::es,0,e,hn,iM,hj,f_=>by
  rw[aA,bD]at hn;cases hj
  have jE:es.map (λe=>if aH e.1 k then (e.1,e.2.1,v) else e)=es:=by
   have:∀e'∈es,(if aH e'.1 k then (e'.1,e'.2.1,v) else e')=e':=λe' lF=>by
    rw[aN];intro q;exact hn.1 (by rw[f_,<-(iM e' (au _ lF)).mp q];exact bE lF)
   rw[cM this,jz]
  rw[aA,aJ ((iM _ ar).mpr f_),jE];rfl
 |e0::es,j+1,e,hn,iM,hj,f_=>by
  rw[aA,bD]at hn;have BU:es[j]?=cz e:=by simpa using hj
  have ik:¬ aH e0.1 k=fx:=λq=>hn.1 (by rw[(iM _ ar).mp q,<-f_];exact bE (bx BU))
  rw[aA,aN ik,aA,aA,jI,a2T hn.2 (λe he=>iM e (au _ he)) BU f_]
def Pend.dput(h:Pend K ([]++[.own u]) ([]++[d]) ([]++[cz v]) M U Y H P F)(hm:M[i]?=cz (.own (.d kt u)))(hk:keyOk kt k)(zR:Den K H kv k) :
  ∃a es ds fs,Y[i]?=cz (cz (.ref a))/\H a=cz (c9 a es)/\U.getD i .none=.dict ((es.map (·.1)).zip ds)/\(∀e∈es,keyOk kt e.1/\Den K (cut H F) e.2.1 e.1)/\ListAll (Own K H F u) (es.map (·.2.2)) ds fs/\ds.length=es.length/\(es.map (·.1)).Nodup/\
   StR K M (U.set i (.dict (v8 ((es.map (·.1)).zip ds) k d))) Y (upd H a (c9 a (Q9 es k kv v))) P F:=by
 obtain⟨_,_,S⟩:=h;obtain⟨G,h1,h2,h3⟩:=S.all;have lZ:StAll K H F (.own u::M) (d::U) (cz v::Y) G:=by simpa using h1
 simp only[StAll]at lZ;obtain⟨d',U',o',Y',fv,G2,e1,e2,rfl,⟨v',e3,ov⟩,h5⟩:=lZ;cases e1
 cases e2
 cases e3
 obtain⟨dd,oo,f,pre,post,q1,q2,⟨v2,rfl,q3⟩,rfl,q5⟩:=h5.at_ hm;obtain⟨a,es,ds,fs,rfl,r2,r3,rfl,r5,r6,hl,hn⟩:=q3.dict;have ot:a∈F:=h3 a (by simp);have fO:∀o,Same (cut H F) (cut (upd H a o) F):=λo b o' hb=>by
  obtain⟨n1,n2⟩:=o9 hb;exact k6 n1 (by rw[f8 (show b≠a from λz=>n1 (z▸ot))];exact n2)
 have cnt:∀b,b=a->(pre++post).count b=0/\fs.count b=0/\fv.count b=0:=λb e=>by
  subst e;have:=cJ.mp h2 b;simp only[bp,bA,gO]at this ⊢;exact⟨by lia,by lia,by lia⟩
 have kk:∀(l:List aw) (o:HO),(∀b,b=a->l.count b=0)->∀b∈l,upd H a o b=H b:=λl o hc b hb=>f8 λz=>by
  have:=hc b z;rw[dN]at this;exact this hb
 have wL:Den K (cut H F) kv k:=zR.imm_out S.lst k (W2 _ hk.1);have iM:∀e∈es,aH e.1 k=fx↔e.1=k:=λe he=>B6 e.1 k (r5 e he).1.1 hk.1
 have fin:∀(fC:List (D×V×V)) (iN:List D) (kD:List aw),(fC.map (·.1)).Nodup->(∀e∈fC,keyOk kt e.1/\Den K (cut H F) e.2.1 e.1)->ListAll (Own K (upd H a (c9 a fC)) F u) (fC.map (·.2.2)) iN kD->(∀b,kD.count b<=fs.count b+fv.count b)->
   StR K M (U.set i (.dict ((fC.map (·.1)).zip iN))) Y (upd H a (c9 a fC)) P F:=λfC iN kD se rC ha oJ=>by
  have o1:Own K (upd H a (c9 a fC)) F (.d kt u) (.ref a) (.dict ((fC.map (·.1)).zip iN)) (a::kD):=by
   simp only[Own];exact⟨a,fC,iN,kD,rfl,i7,rfl,rfl,⟨se,λe he=>⟨(rC e he).1,(rC e he).2.up (fO _)⟩⟩,ha⟩
  have q:=q5 (upd H a (c9 a fC)) F (.own (.d kt u)) (.dict ((fC.map (·.1)).zip iN)) (cz (.ref a)) _ (kk _ _ λb e=>(cnt b e).1) (fO _) ⟨_,rfl,o1⟩;rw[set_same (l:=Y) q2,set_same (l:=M) hm]at q;refine⟨⟨_,q,Q8 h2 λb=>?_,λb hb=>?_⟩,λb hb=>?_,S.prot.trans (fO _)⟩
  ·have:=oJ b;simp only[bp,bA,dt];lia
  ·have hc:0<(fv++(pre++(a::fs++post))).count b:=by
    have h0:=dm.mpr hb;have:=oJ b;simp only[bp,bA,dt]at h0 ⊢;lia
   exact h3 b (dm.mp hc)
  ·by_cases e:b=a
   ·subst e;exact⟨⟨c9 b fC,trivial⟩,i7⟩
   ·obtain⟨ys,y⟩:=S.lst b hb;exact⟨ys,by rw[f8 e];exact y⟩
 refine⟨a,es,ds,fs,q2,r2,by rw[y9 q1];exact r3,r5,r6,hl,hn,?_⟩;cases hf:u9 es k with
 |false=>
  rw[a2Q hf,a4w (by rw[B9 hl];exact hf),<-X0 (kv:=kv) (v:=v) hl];refine fin (es++[(k,kv,v)]) (ds++[d]) (fs++fv) ?_ ?_ ?_ λb=>by rw[bp];exact aG _
  ·rw[aZ,bo];refine⟨hn,by simp,λx hx y hy e=>?_⟩;simp only[aA,de,aq]at hy;subst hy;subst e;obtain⟨e,he,rfl⟩:=aR.mp hx;unfold u9 at hf;rw[cA]at hf;exact hf e he ((iM e he).mpr rfl)
  ·intro e he;rcases aC.mp he with z|z
   ·exact r5 e z
   ·rw[aq.mp z];exact⟨hk,wL⟩
  ·rw[aZ];refine (n6 (fO _) r6 (kk _ _ λb e=>(cnt b e).2.1)).append ?_;have:=m7 (R:=Own K (upd H a (c9 a (es++[(k,kv,v)]))) F u) (ov.frame (fO _) u (kk _ _ λb e=>(cnt b e).2.2)) n5
   rwa[bH]at this
 |true=>
  have hh:=hf;unfold u9 at hf;rw[dA]at hf;obtain⟨e,he,f_⟩:=hf;have qN:=(iM e he).mp f_;obtain⟨j,hj⟩:=bU.mp he;have uZ:j<ds.length:=by rw[hl];exact (aP.mp hj).1
  have oB:Q9 es k kv v=es.map λe=>if aH e.1 k then (e.1,e.2.1,v) else e:=by unfold Q9;rw[hh];rfl
  have nI:v8 ((es.map (·.1)).zip ds) k d=(es.map (·.1)).zip (ds.set j d):=by
   unfold v8;rw[B9 hl,hh];exact P3 (v:=v) hl iM hn hj qN
  have lV:(Q9 es k kv v).map (·.1)=es.map (·.1):=by rw[oB];exact a2R
  rw[nI,<-lV];obtain⟨w3,f3,a1,a2,s1,s2,qZ,s4⟩:=r6.zip (ay uZ);have qE:(Q9 es k kv v).map (·.2.2)=(es.map (·.2.2)).set j v:=by
   rw[oB];exact a2T hn iM hj qN
  refine fin (Q9 es k kv v) (ds.set j d) (a1++(fv++a2)) (by rw[lV];exact hn) ?_ ?_ λb=>by rw[qZ];simp only[bp];lia
  ·intro e' lF;rw[oB]at lF;obtain⟨e0,wV,rfl⟩:=aR.mp lF
   split
   ·exact r5 e0 wV
   ·exact r5 e0 wV
  ·rw[qE];have c5:∀b,b=a->(a1++a2).count b=0:=λb e=>by have:=(cnt b e).2.1;rw[qZ]at this;simp only[bp]at this ⊢;lia
   exact s4 _ F v d fv (kk _ _ c5) (fO _) (ov.frame (fO _) u (kk _ _ λb e=>(cnt b e).2.2))
end
def pOk(kvs:List (D×D))(k:D):Bool:=!(a0g k&&y8 kvs k)
def b5G{kvs:List (D×D)}{k:D}(h:y8 kvs k=p4):pOk kvs k=fx:=by unfold pOk;rw[h,Bool.and_false];rfl
def b0G{kvs:List (D×D)}{k:D}(h:a0g k=p4):pOk kvs k=fx:=by unfold pOk;rw[h];rfl
def P4(i:Nat)(kt:Bool)(fk fv:EvE):EvS:=λU=>(fv U).bind λd=>(fk U).bind λk=>match U.getD i .none with
 |.dict kvs=>if p9 kt k&&decide (kvs.length<1000000)&&pOk kvs k then cz (.nx (U.set i (.dict (v8 kvs k d)))) else el
 |_=>el
abbrev EvX:=List D->Option (D×List D)
def o8(kvs:List (D×D))(k d:D):List (D×D):=if y8 kvs k then kvs else kvs++[(k,d)]
section
variable {X:Cx}{M M1 ML:List Md}{e k v:Expr}{fk fe fv:EvE}{f:EvX}{ck:Cat}{kt:Bool}{u w:Ty}{pos apos cH gE:eA}
def b7i(X:Cx)(td ty tv:TE):TS:=λD Y H=>tv Y H λv H1=>td Y H1 λx H2=>ty Y H2 λy H3=>∃a es kt k,x=.ref a/\H3 a=cz (c9 a es)/\KeysAt X H3 kt es k y/\es.length<aQ/\(u9 es k=fx->a0g k=p4)/\D.nx Y (upd H3 a (c9 a (Q9 es k y v)))
def a9t(hu:X.A.units+464<cU)(ho:PE X o td)(hi:PE X k ty)(hv:PE X v tv)(hs:fP v (cz (.Subscript o k gE)) pos.line X.env=pure p4) :
  PS X (.Assign [.Subscript o k gE] v pos) (b7i X td ty tv):=by
 intro pins s Y H D I h;refine wpAny_Assign_Subscript (L2.thn (hv pins s Y H _ I h) λr s1 ⟨v,H1,I1,rv,q1⟩=>L2.thn (ho pins s1 Y H1 _ I1 q1) λu s2 ⟨x,H2,I2,rx,q2⟩=>L2.thn (hi pins s2 Y H2 _ I2 q2) λiv s3 ⟨y,H3,I3,ry,a,es,kt,k,ex,hH,K,hl,hp,q3⟩=>?_) hs;subst ex;obtain rfl:u=aS a:=rx;exact a8c (by lia) I3 hH K ry rv hl hp λs4 I4=>⟨Y,_,I4,q3⟩
def b2L{es:List (D×V×V)}{ds:List D}{k:D}(hl:ds.length=es.length)(h:pOk ((es.map (·.1)).zip ds) k=fx):u9 es k=fx->a0g k=p4:=λhE=>by
 unfold pOk at h;rw[B9 hl,hE]at h;cases c:a0g k with
 |false=>rfl
 |true=>rw[c]at h;cases h
def b2M{kt:Bool}{k:D}(hk:kt=p4)(h:p9 kt k=fx):a0g k=p4:=by
 subst hk;obtain⟨i,rfl⟩:=(z0 h).2.2.2 rfl;rfl
def a5x(i:Nat)(hu:X.A.units+464<cU)(hk:PX X M1 k fk ck)(hv:PMX X M v fv u M1)(hN:X.N[i]?=cz x:=by rfl)(oZ:autoParam (NmV X x) ZY._auto_1)(hm:M1[i]?=cz (.own (.d kt u)):=by rfl)(hs:fP v (cz (.Subscript (.Name x px) k gE)) pos.line X.env=pure p4:=by rfl) :
  PSX X w ML M (.Assign [.Subscript (.Name x px) k gE] v pos) (P4 i kt fk fv) M1:=by
 obtain⟨tv,pv,qv⟩:=hv;obtain⟨tk,pk,qk⟩:=hk.out;refine .mk ⟨_,a9t hu (A8 hN oZ.1 oZ.2.1 oZ.2.2) pk pv hs,λD U Y H P F o S hg kk=>?_⟩;obtain⟨d,h1,g1⟩:=bnd hg;obtain⟨y,h2,g2⟩:=bnd g1;refine qv [] [] [] U Y H P F d _ S.pend h1 λv1 H1 F1 e1 S1=>?_
 obtain⟨a,es,ds,fs,ha,hH,hU,_⟩:=S1.e.dict hm;rw[hU]at g2;have qg:(if (p9 kt y&&decide (((es.map (·.1)).zip ds).length<1000000)&&pOk ((es.map (·.1)).zip ds) y)=fx then cz (Out.nx (U.set i (.dict (v8 ((es.map (·.1)).zip ds) y d)))) else el)=cz o:=g2;by_cases c0:(p9 kt y&&decide (((es.map (·.1)).zip ds).length<1000000)&&pOk ((es.map (·.1)).zip ds) y)=fx
 ·rw[aJ c0]at qg;cases qg
  rw[av,av]at c0;have c:=c0.1;refine⟨_,ha,qk U Y H1 P F1 y _ S1.e h2 λkv H2 e2 r2=>?_⟩;obtain⟨a',fC,iN,kD,xp,Gv,pK,hK,_,qd,_,S3⟩:=(S1.grow e2).dput hm (z0 c.1) r2.den;rw[ha]at xp;cases xp
  rw[hU]at pK
  injection pK with pK
  refine⟨a,fC,kt,y,rfl,Gv,keysAt hK c.1 r2.den,?_,b2L qd (by rw[<-pK];exact c0.2),kk Y _ F1 (by rw[pK];exact S3)⟩;have hlen:((fC.map (·.1)).zip iN).length=fC.length:=by rw[d_,ao,qd,kZ]
  rw[<-hlen,<-pK];exact fK (aX c.2) (by rw[cE];decide)
 ·rw[aN c0]at qg;cases qg
def b8W(X:Cx):V->List V->Hp->VK->Prop:=λx xs H Q=>∃p es kt k y z,x=.ref p/\xs=[y,z]/\H p=cz (c9 p es)/\KeysAt X H kt es k y/\es.length<aQ/\(u9 es k=p4->Q z (upd H p (c9 p (es++[(k,y,z)]))))/\∀e∈es,e.1=k->Q e.2.2 H
def b5H(hu:X.A.units+464<cU):MtR X "dict.setdefault" (b8W X):=by
 intro pins s Y H x xs v us Q I rx rv h;obtain⟨p,es,kt,k,y,z,rfl,rfl,hH,K,hl,q1,q2⟩:=h;cases (show v=aS p from rx)
 obtain⟨w1,w2,rfl,r1,r2⟩:=vals2 rv;exact b5F (by lia) I hH K r1 r2 hl (λhf s' I'=>⟨z,_,I',r2,q1 hf⟩) λe he f_ x s' I' r'=>⟨e.2.2,H,I',r',q2 e he f_⟩
end
def intsOf:List D->Option (List Int)
 |[]=>cz []
 |.int i::r=>(intsOf r).map (i::·)
 |_=>el
theorem K9:∀{ds:List D} {is:List Int},intsOf ds=cz is->ds=is.map .int
 |[],is,h=>by cases h;rfl
 |.int i::r,is,h=>by
  obtain⟨js,h1,rfl⟩:=dw.mp (show (intsOf r).map (i::·)=cz is from h);rw[aA,<-K9 h1]
 |.none::_,_,h|.bool _::_,_,h|.str _::_,_,h|.list _::_,_,h|.tuple _::_,_,h|.dict _::_,_,h=>nomatch h
def a0k(is:List Int):intsOf (is.map .int)=cz is:=by
 induction is with
 |nil=>rfl
 |cons i is ih=>show (intsOf (is.map .int)).map (i::·)=_;rw[ih];rfl
section
variable {X:Cx}{M:List Md}{a b e tg:Expr}{fa fb:EvE}{ca cb:Cat}{pos p apos cH:eA}
def a5y(r:jH h us ds as):∀{j:Nat} {u:ai},us[j]?=cz u->∃d bs,ds[j]?=cz d/\Reads h u d bs:=by
 induction ds generalizing us as with
 |nil=>intro j u hu;cases r;simp at hu
 |cons d ds ih=>
  intro j u hu;cases r with
  |cons r1 r2=>
   cases j with
   |zero=>cases hu;exact⟨_,_,rfl,r1⟩
   |succ j=>exact ih r2 (by simpa using hu)
open Classical in
noncomputable def b5I(h:bL)(d:D)(u:ai):Bool:=decide (∃d' bs,Reads h u d' bs/\d'.canLay0=fx/\aH d' d=fx)
def a9u{d e:D}(r:Reads h u e bs)(hl:e.canLay0=fx):b5I h d u=aH e d:=by
 unfold b5I;cases q:aH e d with
 |true=>exact @aE _ (_) ⟨e,bs,r,hl,q⟩
 |false=>
  refine @aT _ (_) ?_;rintro⟨d',Hf,r1,r2,r3⟩;rw[SeqAt.Reads.unique d' e u _ _ r2 r1 r,q]at r3;cases r3
end
def a9v{X:Cx}{pins:List (aw×fm)}{Y:L2.St}{H:Hp}{s:aj}{h':bL}{t':Nat}{ch:List aw}{T:aw}{xs:List V}(I:Inv X pins Y H s)(k:∀b o,b∉ch->s.heap.get? b=cz o->h'.get? b=cz o)
  (hf:∀b∈ch,a2w X pins H b) (hT:s.heap.objs.size<=T) (new:ObjOk X.prog X.w (upd H T (.tup xs)) h' T (.tup xs)):Inv X pins Y (upd H T (.tup xs)) {s with heap:=h',toks:=t'}:=by
 have hn:H T=el:=I.hok.fresh hT;have neT:∀b o,s.heap.get? b=cz o->b≠T:=λb o e z=>absurd (bb (aB e) (by rw[z];exact hT)) (cR _)
 have qA:∀b u,H b=cz u->b∉ch:=λb u e hb=>by rw[(hf b hb).1]at e;cases e
 refine I.step (g':=s.gens) (d':=s.drawn) (ch:=ch) (λb hb=>⟨(hf b hb).2.2.2.1,(hf b hb).2.1,(hf b hb).2.2.2.2.1,(hf b hb).2.2.2.2.2⟩) (λb o _ _ hc e _=>k b o hc e) (λb o _ _ hc e _=>⟨o.slots,k b o hc e⟩) (λb o _ e n=>by rw[f8 (neT b o e)];exact n)
  (λb o hc e=>⟨o,k b o hc e⟩) (λb ys e=>by rw[f8 (n9 e hn)];exact e) (λb o u e=>by rw[f8 (n9 e hn)];exact e) (λb ps e=>⟨#[],by rw[f8 (n9 e hn),e];simp⟩) (λm hm=>?_) (λb u e=>?_) I.bare
 ·obtain⟨o,es,ep,ho,r⟩:=hm;exact⟨o,es,ep,k _ o (λhb=>(hf _ hb).2.1 rfl) ho,r⟩
 ·by_cases hb:b=T
  ·subst hb;rw[i7]at e;cases e;exact new
  ·rw[f8 hb]at e;refine (I.hok b u e).stay (λc v hc q=>k c v ?_ q) (λc q=>by rw[f8 (n9 q hn)];exact q) λc ys q=>by rw[f8 (n9 q hn)];exact q
   rcases hc with z|z
   ·rw[z];exact qA b u e
   ·exact qA c _ z
def a0E{X:Cx}{pins:List (aw×fm)}{Y:L2.St}{H:Hp}{s:aj}{h':bL}{t':Nat}{ch:List aw}(I:Inv X pins Y H s)(k:∀b o,b∉ch->s.heap.get? b=cz o->h'.get? b=cz o)
  (hf:∀b∈ch,a2w X pins H b):Inv X pins Y H {s with heap:=h',toks:=t'}:=by
 have qA:∀b u,H b=cz u->b∉ch:=λb u e hb=>by rw[(hf b hb).1]at e;cases e
 refine I.step (g':=s.gens) (d':=s.drawn) (ch:=ch) (λb hb=>⟨(hf b hb).2.2.2.1,(hf b hb).2.1,(hf b hb).2.2.2.2.1,(hf b hb).2.2.2.2.2⟩) (λb o _ _ hc e _=>k b o hc e) (λb o _ _ hc e _=>⟨o.slots,k b o hc e⟩) (λb o _ e n=>n)
  (λb o hc e=>⟨o,k b o hc e⟩) (λb ys e=>e) (λb o u e=>e) (λb ps e=>⟨#[],by rw[e];simp⟩) (λm hm=>?_) (λb u e=>?_) I.bare
 ·obtain⟨o,es,ep,ho,r⟩:=hm;exact⟨o,es,ep,k _ o (λhb=>(hf _ hb).2.1 rfl) ho,r⟩
 ·refine (I.hok b u e).stay (λc v hc q=>k c v ?_ q) (λc q=>q) λc ys q=>q
  rcases hc with z|z
  ·rw[z];exact qA b u e
  ·exact qA c _ z
def Ite(K:af)(a:aw):It:=
 ⟨λi H=>∃xs x,SqL K H a xs/\xs[i]?=cz x,λi H x H'=>∃T y,H T=el/\H'=upd H T (.tup [.int i,y])/\x=.ref T/\∀xs,SqL K H a xs->xs[i]?=cz y,λi H=>∃xs,SqL K H a xs/\xs.length<=i⟩
def b0H{P:br}{w:bK}{K:af}{elts:List Expr}{kk:Nat}{gE:eA}(a e it:aw)(FI:e≠it):Turn P w K (.Tuple elts kk gE) (Ite K a) [e,it] e (λi h=>(∃old,IsEnum h e it i old)/\h.IsListIter it a i) where
 mem:=by simp
 obj:=λi h st b hb=>by
  obtain⟨⟨old,he⟩,o,eo,c,d⟩:=st;rcases aD.mp hb with rfl|hb
  ·exact⟨_,he,λv z=>by cases z⟩
  ·cases aq.mp hb
   exact⟨o,eo,λv z=>by rw[d]at z;cases z⟩
 keep:=λi h h' st k=>by
  obtain⟨⟨old,he⟩,hit⟩:=st;exact⟨⟨old,k e (by simp) _ he⟩,hit.at λo x=>k it (by simp) o x⟩
 item:=by
  intro X hP hw hK hc i pins s Y H E I hf st hg;subst hP hw hK;obtain⟨xs,x,hq,hx⟩:=hg;obtain⟨cP,rv,p,hz⟩:=I.list hq;obtain⟨u,hu,ru⟩:=rv.get hx;obtain⟨⟨old,he⟩,hit⟩:=st;have hle:a≠e:=λz=>by
   obtain⟨o,eo,c,_⟩:=p.isList;rw[z,he]at eo;cases eo
   exact absurd (show dB "enumerate"=dB "list" from c) (by decide)
  have uY:a≠it:=λz=>by
   obtain⟨o,eo,c,_⟩:=p.isList;obtain⟨o2,GJ,c2,_⟩:=hit;rw[z,GJ]at eo;cases eo
   rw[c2]at c;exact absurd c (by decide)
  have W:=WalksT.enumerate (prog:=X.prog) (w:=X.w) (A:=X.A) (I.ok.hd hc) e it a FI hle uY cP.toArray;have nr:i<cP.toArray.size:=by
   have:=(aP.mp hu).1;simpa using this
  refine W.item i s _ E nr ⟨⟨old,he⟩,hit,p.isList⟩ λT vals h' tk hP hT ua xy hk=>⟨.ref T,rfl,W.go elts kk gE i T {s with heap:=h',toks:=tk} _ E xy λh2 wq yk=>?_⟩
  obtain⟨t,y,hy,rfl⟩:=hP;have ey:y=u:=by
   have h1:cP[i]?=cz y:=by simpa using hy
   rw[hu]at h1;exact (aK h1).symm
  subst ey;have xq:=W.apart i T h' xy;obtain⟨oT,eT,cT⟩:=ua;have hn:H T=el:=I.hok.fresh hT;have new:ObjOk X.prog X.w (upd H T (.tup [.int i,x])) h2 T (.tup [.int i,x]):=by
   refine⟨by rw[cE];show 2<=_;decide,[.int i t,y],?_,oT,yk T oT xq eT,cT⟩;exact .cons ⟨t,rfl⟩ (.cons ru .nil)
  refine⟨.ref T,upd H T (.tup [.int i,x]),a9v (s:=s) (t':=tk) I (λb o hb q=>yk b o hb (hk b o hb q)) hf hT new,rfl,⟨T,x,hn,rfl,rfl,λys Ew=>by rw[I.list_inj Ew hq];exact hx⟩,⟨wq.1,wq.2.1⟩,λb hb=>?_⟩;rw[f8 (λz=>xq (by rw[<-z];exact hb))];exact (hf b hb).1
 done:=by
  intro X hP hw hK hc i pins s Y H E I hf st hg;subst hP hw hK;obtain⟨xs,hq,hx⟩:=hg;obtain⟨cP,rv,p,hz⟩:=I.list hq;have hl:=rv.length;obtain⟨⟨old,he⟩,hit⟩:=st;exact wpAny_pyNext_enum_end (I.ok.hd hc) he hit p.isList (eM (by simp;lia)) λh' hx=>⟨rfl,a0E (t':=s.toks) I (λb o hb y=>hx b o (λz=>hb (by simp[z])) y) hf⟩
 self:=λ_ _ _ _ _ st h=>by
  obtain⟨⟨old,he⟩,_⟩:=st;exact wpAny_pyIter_enum he h
def O0:List D->Nat->List D
 |[],_=>[]
 |d::ds,k=>.tuple [.int k,d]::O0 ds (k+1)
def iEn(a:EvE):EvA:=λU=>(a U).bind λd=>(asL d).bind λds=>cz (O0 ds 0)
theorem a2U:∀(ds:List D) (k:Nat),(O0 ds k).length=ds.length
 |[],_=>rfl
 |d::ds,k=>by show (O0 ds (k+1)).length+1=_;rw[a2U ds];rfl
theorem a2V:∀(ds:List D) (k i:Nat) (d:D),ds[i]?=cz d->(O0 ds k)[i]?=cz (.tuple [.int ((k+i:Nat):Int),d])
 |[],_,i,d,h=>by simp at h
 |d0::ds,k,0,d,h=>by
  have:d0=d:=by simpa using h
  subst this;rfl
 |d0::ds,k,i+1,d,h=>by
  have:=a2V ds (k+1) i d (by simpa using h);show (O0 ds (k+1))[i]?=_;rw[this,mP,Nat.add_comm 1]
section
variable {X:Cx}{M ML:List Md}{a e iter:Expr}{elts:List Expr}{kk:Nat}{gE pos p:eA}{fa:EvE}{ca:Cat}{u:Ty}{body:List fS}{g:EvS}
def c2E(K:af)(ta:TA):TI:=λY H R=>ta Y H λvs H1=>∃a xs,vs=[.ref a]/\SqL K H1 a xs/\R (Ite K a) H1
open PyProof.Rows in
def b5J(hg:Gl X "enumerate")(hm:X.mg "enumerate"=el)(ha:PA X [a] ta)(hs:ak [a] X.env=[(p4,bX a X.env)]:=by rfl):PI X (.Tuple elts kk gE) (.Call (.Name "enumerate" p) [a] [] pos) (c2E X.K ta):=by
 intro pins s Y H R I h;refine Call_ (V8 I hg hm PyProof.Rows.Boot.«enumerate» (dW (L2.thn (ha pos pins s Y H _ I h) λus s1 ⟨vs,H1,I1,r1,q1⟩=>?_) hs rfl));obtain⟨l,xs,e,hq,q⟩:=q1;subst e;cases r1 with
 |cons r rr=>
  cases rr
  cases (show _=aS l from r)
  obtain⟨cP,rv,pl,hz⟩:=I1.list hq;refine call_enumerate_list pl.isList λh' he hit hsz hk=>?_
  refine wpAny_pyIter_enum he ?_;refine⟨s1.heap.objs.size+1,[s1.heap.objs.size+1,s1.heap.objs.size],_,_,H1,rfl,I1.kept (t':=s1.toks) hk,b0H l _ _ (Nat.succ_ne_self _),⟨⟨_,he⟩,hit⟩,λb hb=>?_,q⟩;have kM:s1.heap.objs.size<=b:=by
   rcases aD.mp hb with z|z
   ·rw[z];exact gL _
   ·rw[aq.mp z];exact aG _
  exact I1.fpOk kM (I1.hok.fresh kM)
def c1f(X:Cx)(M:List Md)(tg iter:Expr)(f:EvE):Prop:=
 ∃wi,PI X tg iter wi/\∀(U:List D) (Y:L2.St) (H P:Hp) (F:List aw) (ds:List D) (R:It->Hp->Prop),StE X.K M U Y H P F->f U=cz (.list ds)->
  (∀a xs H1,Same H H1->(∀H2,Same (cut H1 F) H2->SqL X.K H2 a xs)->DenAll X.K (cut H1 F) xs ds->R (Ite X.K a) H1)->wi Y H R
def c2F(hm:X.mg "enumerate"=el)(h:PX X M a fa ca)(hc:frozen ca:=by trivial)(hg:Gl X "enumerate":=by rfl)(he:ak [a] X.env=[(p4,bX a X.env)]:=by rfl)(kr:ak [a] X.env=(p4,bX a X.env)::ak [] X.env:=by rfl) :
  c1f X M (.Tuple elts kk gE) (.Call (.Name "enumerate" p) [a] [] pos) fa:=by
 obtain⟨t,p,q⟩:=h.out;refine⟨_,b5J hg hm (l7 p o5 kr) he,λU Y H P F ds R S hf k=>?_⟩;refine q U Y H P F _ _ S hf λv H1 e1 r1=>?_
 obtain⟨aa,xs,rfl,k1,k2⟩:=(G8 hc r1).list_inv;exact⟨aa,xs,rfl,(T2 k1 i8).l,k _ xs H1 e1 (λH2 e2=>(T2 k1 e2).l) k2⟩
def b8X(h:iI f U=cz ps):f U=cz ps:=by
 obtain⟨ds,h1,g1⟩:=bnd h;by_cases c:g9 ds=fx
 ·have:(if g9 ds=fx then cz ds else el)=cz ps:=g1;rw[aJ c]at this;rw[h1,this]
 ·have:(if g9 ds=fx then cz ds else el)=cz ps:=g1;rw[aN c]at this;cases this
def b5K{set:List D->D->Option (List D)}{m:D->Prop}(hc:X.calm=fx)(hp:kz (aO X.prog X.w) X.A X.env X.xe)(hi:c1f X M tg iter fa)(hg:PG X tg gt)(hs:b0y X.K M MB gt set m)(hm:∀U ds,fi U=cz ds->∀d∈ds,m d)(wR:∀{U ps},fi U=cz ps->iEn fa U=cz ps)(hb:PSsX X u M MB body g M)
  (hf:∀x,eO iter X.env x=pure x:=by intro _;rfl):PSX X u ML M (.For tg iter body [] pos) (M6 fi set g) M:=by
 obtain⟨wi,pi,qi⟩:=hi;obtain⟨tb,pb,qb⟩:=hb.out;refine .mk ⟨_,a7C hp hc pi hg pb hf,λD U Y H P F o S oH k=>?_⟩;obtain⟨ps,h1,g1⟩:=bnd oH;obtain⟨d0,h2,g2⟩:=bnd (wR h1);obtain⟨ds,h3,g3⟩:=bnd g2;cases Q7 h3
 have sZ:O0 ds 0=ps:=aK g3;refine qi U Y H P F ds _ S.toE h2 λa xs H1 e1 ud hx=>?_
 have S1:=S.grow e1;have qD:=hx.length;have fF:ps.length=ds.length:=by rw[<-sZ,a2U]
 refine⟨λi n Y' H'=>n=xs.length-i/\i<=xs.length/\∃U' F',StR X.K M U' Y' H' (cut H1 F) F'/\T6 set g (ps.drop i) U'=cz o,⟨xs.length,by simp,cI _,U,F,⟨S1.all,S1.lst,Same.refl _⟩,g1⟩,?_⟩;rintro i n Y' H' ⟨rfl,hi,U',F',S',hfl⟩;have ll:Same (cut H1 F) (cut H' F'):=S'.prot;have q:=ud H' (ll.trans i8);by_cases gQ:i<xs.length
 ·refine .inr ⟨⟨xs,xs[i],q,ay gQ⟩,λY2 H2=>∃U2 F2,StR X.K M U2 Y2 H2 (cut H1 F) F2/\T6 set g (ps.drop (i+1)) U2=cz o,λY2 H2 ⟨U2,F2,S2,h2⟩=>⟨xs.length-(i+1),by lia,rfl,gQ,U2,F2,S2,h2⟩,λx H2 hy=>?_⟩;obtain⟨T,y,hT,rfl,rfl,ze⟩:=hy;have sU:=ze xs q;have nr:i<ps.length:=by lia
  have lX:ps.drop i=ps[i]::ps.drop (i+1):=fE nr;rw[lX]at hfl;obtain⟨U1,uc,g4⟩:=bnd (show (set U' ps[i]).bind _=cz o from hfl);obtain⟨o1,hg1,g5⟩:=bnd g4;obtain⟨d',qP,uv⟩:=(hx.up ll).getV sU;have qH:ps[i]=.tuple [.int (i:Nat),d']:=by
   have:=a2V ds 0 i d' qP;rw[sZ,ay nr,Nat.zero_add]at this;exact aK this
  have nL:Same H' (upd H' T (.tup [.int i,y])):=j9 hT _;have S2:=S'.grow nL;have Am:T∉F':=λz=>by
   obtain⟨ys,e⟩:=S'.lst T z;rw[hT]at e;cases e
  have qQ:Den X.K (cut (upd H' T (.tup [.int i,y])) F') (.ref T) (.tuple [.int (i:Nat),d']):=by
   have mL:Same (cut H' F') (cut (upd H' T (.tup [.int i,y])) F'):=D4 nL;have hd2:=uv.up mL;have jN:cut (upd H' T (.tup [.int i,y])) F' T=cz (.tup [.int i,y]):=k6 Am i7;simp only[Den];exact⟨T,[.int i,y],rfl,SqT.of jN,denAll_cons den_int (denAll_cons hd2 denAll_nil)⟩
  rw[qH]at uc;refine hs U' Y' _ (cut H1 F) F' (.ref T) _ U1 _ S2 qQ (hm U ps h1 _ (by rw[<-qH];exact dc nr)) uc λY3 F3 S3=>qb _ U1 Y3 _ (cut H1 F) F3 o1 S3 hg1 ?_
  cases o1 with
  |nx U2=>exact λY4 H4 F4 S4=>⟨U2,F4,S4,g5⟩
  |ct U2=>exact λY4 H4 F4 S4=>⟨U2,F4,S4,g5⟩
  |bk U2=>
   have:o=.nx U2:=(aK g5).symm;subst this;exact λY4 H4 F4 S4=>k Y4 H4 F4 ⟨S4.all,S4.lst,S1.prot.trans S4.prot⟩
  |rt d=>
   have:o=.rt d:=(aK g5).symm;subst this;refine λv H4 fp o nd fr e=>k v H4 fp o nd (λa ha=>?_) (S1.prot.trans e)
   exact S1.prot.free (fr a ha)
 ·have e:i=xs.length:=by lia
  subst e;rw[qD,<-fF,kK]at hfl;have:o=.nx U':=(aK hfl).symm;subst this;exact .inl ⟨⟨xs,q,aG _⟩,k Y' H' F' ⟨S'.all,S'.lst,S1.prot.trans S'.prot⟩⟩
end
section
variable {X:Cx}{M:List Md}{a b:Expr}{fa fb:EvE}{ca cb:Cat}{pos p:eA}
def b2N:D->D->Option D
 |.tuple ds,.tuple es=>if (!ds.isEmpty&&decide (ds.length+es.length<=1000000))=fx then V6 (.tuple (ds++es)) else el
 |_,_=>el
def a8f(h:b2N x y=cz d):∃ds es,x=.tuple ds/\y=.tuple es/\ds≠[]/\ds.length+es.length<=1000000/\d=.tuple (ds++es)/\imm d=fx:=by
 cases x with
 |tuple ds=>
  cases y with
  |tuple es=>
   have h':(if (!ds.isEmpty&&decide (ds.length+es.length<=1000000))=fx then V6 (.tuple (ds++es)) else el)=cz d:=h;by_cases c:(!ds.isEmpty&&decide (ds.length+es.length<=1000000))=fx
   ·rw[aJ c]at h';obtain⟨e1,e2⟩:=Q6 h';rw[av]at c;exact⟨ds,es,rfl,rfl,λz=>by rw[z]at c;simp at c,aX c.2,e1,by rw[e1];exact e2⟩
   ·rw[aN c]at h';cases h'
  |_=>cases h
 |_=>cases h
end
def insI(n:Int):List Int->List Int
 |[]=>[n]
 |m::ms=>if n<=m then n::m::ms else m::insI n ms
def srt:List Int->List Int
 |[]=>[]
 |n::ns=>insI n (srt ns)
theorem insI_perm(n:Int):∀ms,(insI n ms).Perm (n::ms)
 |[]=>iB _
 |m::ms=>by
  unfold insI;by_cases c:n<=m
  ·rw[aJ c]
  ·rw[aN c];exact ((insI_perm n ms).cons m).trans (List.Perm.swap n m ms)
theorem v4:∀ns,(srt ns).Perm ns
 |[]=>iB _
 |n::ns=>(insI_perm n (srt ns)).trans ((v4 ns).cons n)
theorem a1P(n:Int):∀ms:List Int,ms.Pairwise (·<=·)->(insI n ms).Pairwise (·<=·)
 |[],_=>iw ..
 |m::ms,h=>by
  unfold insI;obtain⟨h1,h2⟩:=jK.mp h;by_cases c:n<=m
  ·rw[aJ c];refine jK.mpr ⟨λx hx=>?_,h⟩;rcases aD.mp hx with z|z
   ·rw[z];exact c
   ·have:=h1 x z;lia
  ·rw[aN c];refine jK.mpr ⟨λx hx=>?_,a1P n ms h2⟩;rcases aD.mp ((insI_perm n ms).mem_iff.mp hx) with z|z
   ·lia
   ·exact h1 x z
theorem T8:∀ns:List Int,(srt ns).Pairwise (·<=·)
 |[]=>iC
 |n::ns=>a1P n _ (T8 ns)
def a6A{a b:List Int}(hp:a.Perm b)(ha:a.Pairwise (·<=·)):a=srt b:=
 List.Perm.eq_of_pairwise (λx y _ _ h1 h2=>Int.le_antisymm h1 h2) ha (T8 b) (hp.trans (v4 b).symm)
theorem vals_ints:∀{vs:List ai} {ns:List Int},xQ vs ns->Vals (ns.map V.int) vs
 |_,_,.nil=>.nil
 |_,_,.cons n t r=>.cons ⟨t,rfl⟩ (vals_ints r)
theorem a4y:∀{ns:List Int} {vs:List ai},Vals (ns.map V.int) vs->xQ vs ns
 |[],vs,h=>by
  have h':Vals [] vs:=h;cases h'
  exact .nil
 |n::ns,vs,h=>by
  have h':Vals (V.int n::ns.map V.int) vs:=h;cases h' with
  |cons r rr=>
   obtain⟨t,rfl⟩:=r;exact .cons n t (a4y rr)
theorem b8Y:∀ns:List Int,g9 (ns.map aI)=fx
 |[]=>by simp only[de,g9]
 |n::ns=>by simp only[aA,g9,imm,b8Y ns,gk]
def dis(ns:List Int):List Int:=lM (λi=>ns.getD i 0) ns.length
end VS
namespace PySem
def Heap.IsValuesView.at{h g1:bL}{v d}(x:h.IsValuesView v d)(e:∀o,h.get? v=cz o->g1.get? v=cz o):g1.IsValuesView v d:=let⟨o,ho,r⟩:=x;⟨o,e _ ho,r⟩
theorem Heap.IsValuesView.push{h:bL}{v d}(x:h.IsValuesView v d)(o:fm):(h.push o).IsValuesView v d:=x.at λ_ e=>ah o e
section
variable {prog:br}{w:bK}{K:Type}[DecidableEq K]{knd:KeyKind prog w K}{A:bB}{E:ai->aj->Prop}{s:aj}
def b0I(hT:s.TypeIs (.ref d) "dict_values")(h:Q p4 s):az (aO prog w) A (gZ (.ref d)) Q E s:=by
 unfold gZ;refine ae (dC hT F.slot_dict_values_len.lookup ?_);generalize CC:("dict_values.__len__":String)=Eo
 wp_delta
 rw[show splitId Eo=cz ("dict_values","__len__") from by subst CC;decide +kernel];subst CC;refine ae (fB (T:="dict_values") (b:=fx) hT (by rw[nH];kernel_rfl) ?_);refine er (λqf=>absurd qf (by decide)) (λ_=>?_);refine er (λ_=>?_) (λqf=>absurd (by decide +kernel) qf);refine ae (ij hT ?_);exact ag h
def b2O(hh:A.handled=el)(hd:(d==cS)=p4)(hm:s.heap.DictAt knd d kvs ep)(hv:s.heap.IsValuesView v d)
  (hsz:kvs.length<=aQ) (L0:aw) (res:ai) (c₀:Nat) (zl:s.heap.get? L0=cz {cls:=.type "list",data:=.seq #[] c₀})
  (kR:∀g1 tq ac cq,(∀b o,b≠L0->s.heap.get? b=cz o->g1.get? b=cz o)->g1.get? L0=cz {cls:=.type "list",dict:=el,data:=.seq ac cq,slots:=#[]}->
   ItemsOf (λi v=>∃k,kvs[i]?=cz (k,v)) ac kvs.length->R (.ok (.ret res)) {s with heap:=g1,toks:=tq}) :
  az (aO prog w) A.in1 (dq (.ref L0) (.ref v) res)
   (λAA sq=>match AA with|.done f=>R (.ok f) sq|.again cq=>cq.quiet=fx/\gA (aO prog w) A cq R sq) (λe sq=>R (.error e) sq) s:=by
 have yu:L0≠d:=λe=>by
  obtain⟨o,es,ho,hx,kO,_⟩:=hm;rw[<-e,zl]at ho;cases ho
  cases kO
 have An:L0≠v:=λe=>by
  obtain⟨o,ho,hc,kO⟩:=hv;rw[<-e,zl]at ho;cases ho
  cases kO
 have Ck:L0≠s.heap.objs.size:=a_ (aB zl);have Ae:d≠s.heap.objs.size:=a_ hm.lt_size;have Gf:L0∉[s.heap.objs.size,d]:=λinn=>by
  rcases aD.mp inn with e|e
  ·exact Ck e
  ·exact yu (aq.mp e)
 have W:=(Walks.dictValues (prog:=prog) (w:=w) (knd:=knd) (A:=A.in1) hh s.heap.objs.size d Ae kvs ep).toS;have key:∀(h:bL) (c₁ tq:Nat),h.IsValIter s.heap.objs.size d 0 kvs.length ep->h.DictAt knd d kvs ep->(∀b o,b≠L0->s.heap.get? b=cz o->h.get? b=cz o)->
   h.get? L0=cz {cls:=.type "list",data:=.seq #[] c₁}->gA (aO prog w) A (.builtin "list.extend.loop" ⟨[.ref L0,.ref s.heap.objs.size,res],[]⟩) R {s with heap:=h,toks:=tq}:=by
  intro h c₁ tq hit xb hk vw;refine codeAny_extend_loopS W hsz L0 Gf res kvs.length 0 _ #[] c₁ rfl (cI _) ⟨hit,xb⟩ vw (ItemsOf.nil _) λsq ac cq BJ vt qS=>?_
  rw[Moved.eq_with BJ];refine kR sq.heap sq.toks ac cq (λb o nb e=>BJ.heap b o (λinn=>?_) (hk b o nb e)) vt qS;rcases aD.mp inn with e'|inn
  ·exact nb e'
  ·exact absurd (aB e) (by rw[aq.mp inn];exact cR _)
 unfold dq;refine ae (ij (T:="dict_values") hv.typeIs ?_);have h1:iE (.ref L0) (.ref v)=p4:=by simp[iE,An]
 have h2:(dB "dict_values" == dB "list")=p4:=by decide
 have h3:(dB "dict_values" == dB "tuple")=p4:=by decide
 simp only[h1,h2,h3,Bool.or_false,cV,fQ];refine ae (wpAny_pyIter_values hv hm ?_);refine ae (bJ (b0I ((hv.push _).typeIs) ?_));have vw:=ah {cls:=.type "dict_valueiterator",data:=.fields #[.ref d,.int 0 0,.int kvs.length 0,.int ep 0]} zl;have qK:(s.heap.push {cls:=.type "dict_valueiterator",data:=.fields #[.ref d,.int 0 0,.int kvs.length 0,.int ep 0]}).IsValIter s.heap.objs.size d 0 kvs.length ep:=⟨_,aF _ rfl,rfl,rfl⟩;refine er (λ_=>?_) (λ_=>ag ⟨fw F.plain_extend_loop _,key _ c₀ _ qK (hm.push _) (λb o _ e=>ah _ e) vw⟩);refine ae (ef ?_);refine ae ?_;show az _ _ (rO L0 (·.push .none) >>= λ_=>rO L0 (·.pop)) _ _ _;refine ae (jQ vw rfl ?_);have xV:=bR (ib (·.push bZ)) vw rfl;refine jQ (hz:=by seq_fits) xV rfl ?_;have Dm:=bR (ib (·.pop)) xV rfl;have rest:∀b o,b≠L0->(s.heap.push {cls:=.type "dict_valueiterator",data:=.fields #[.ref d,.int 0 0,.int kvs.length 0,.int ep 0]}).get? b=cz o->(((s.heap.push {cls:=.type "dict_valueiterator",data:=.fields #[.ref d,.int 0 0,.int kvs.length 0,.int ep 0]}).update L0 (ib (·.push bZ))).update L0 (ib (·.pop))).get? b=cz o:=λb o nb e=>(dH _ _ (dy nb)).trans ((dH _ _ (dy nb)).trans e)
 exact ag ⟨fw F.plain_extend_loop _,key _ _ _ (qK.at λo e=>rest _ o (dy Ck) e) ((hm.push _).at' λo e=>rest _ o (dy yu) e) (λb o nb e=>rest b o nb (ah _ e)) Dm⟩
def b0J(hh:A.handled=el)(hd:(d==cS)=p4)(hm:s.heap.DictAt knd d kvs ep)(hv:s.heap.IsValuesView v d)
  (hsz:kvs.length<=aQ) (L0:aw) (zl:s.heap.get? L0=cz {cls:=.type "list",data:=.seq #[]})
  (kR:∀g1 tq ac cq,(∀b o,b≠L0->s.heap.get? b=cz o->g1.get? b=cz o)->g1.get? L0=cz {cls:=.type "list",dict:=el,data:=.seq ac cq,slots:=#[]}->
   ItemsOf (λi v=>∃k,kvs[i]?=cz (k,v)) ac kvs.length->R (.ok (.ret .none)) {s with heap:=g1,toks:=tq}) :
  az (aO prog w) A.in1 (Builtin.«list.__init__» ⟨[.ref L0,.ref v],[]⟩)
   (λAA sq=>match AA with|.done f=>R (.ok f) sq|.again cq=>cq.quiet=fx/\gA (aO prog w) A cq R sq) (λe sq=>R (.error e) sq) s:=by
 have yu:L0≠d:=λe=>by
  obtain⟨o,es,ho,hx,kO,_⟩:=hm;rw[<-e,zl]at ho;cases ho
  cases kO
 have An:L0≠v:=λe=>by
  obtain⟨o,ho,hc,kO⟩:=hv;rw[<-e,zl]at ho;cases ho
  cases kO
 show az _ _ (do let old <-Ht (.ref L0);Builtin.List.listUpdate (.ref L0) (λ_=>#[]);letGo old.toList.reverse;dq (.ref L0) (.ref v) .none) _ _ s;refine ae ?_;unfold Ht;refine ae (dO zl rfl (ag ?_));show az _ _ (rO L0 (λ_=>#[]) >>= λ_=>letGo (#[]:Array ai).toList.reverse >>= λ_=>dq (.ref L0) (.ref v) .none) _ _ s;refine ae (jQ zl rfl ?_);have xV:=bR (ib (λ_=>(#[]:Array ai))) zl rfl;have rest:∀b o,b≠L0->s.heap.get? b=cz o->(s.heap.update L0 (ib (λ_=>(#[]:Array ai)))).get? b=cz o:=
  λb o nb e=>(dH _ _ (dy nb)).trans e
 refine ae (nz ?_);refine b2O hh hd (hm.at' λo e=>rest d o (dy yu) e) (hv.at λo e=>rest v o (dy An) e) hsz L0 .none _ xV λg1 tq ac cq hk vt qS=>?_
 exact kR g1 tq ac cq (λb o nb e=>hk b o nb (rest b o nb e)) vt qS
def a2W(hh:A.handled=el)(hd:(d==cS)=p4)(hm:s.heap.DictAt knd d kvs ep)(hv:s.heap.IsValuesView v d)
  (hsz:kvs.length<=aQ)
  (kQ:∀g1 tq ac cq,(∀b o,s.heap.get? b=cz o->g1.get? b=cz o)->
   g1.get? s.heap.objs.size=cz {cls:=.type "list",dict:=el,data:=.seq ac cq,slots:=#[]}->ItemsOf (λi v=>∃k,kvs[i]?=cz (k,v)) ac kvs.length->Q (.ref s.heap.objs.size) {s with heap:=g1,toks:=tq}) :
  az (aO prog w) A (call (.type "list") [.ref v]) Q E s:=by
 refine xO (Q₁:=λobj s₁=>obj=.ref s.heap.objs.size/\s₁={s with heap:=s.heap.push {cls:=.type "list",data:=.seq #[]}}) F.called_list (F.typeCall_list_1 _) F.entry_list_init
  (code_list_new _ ⟨rfl,rfl⟩) λobj s₁ h₁=>?_
 obtain⟨rfl,rfl⟩:=h₁;have zl:(s.heap.push {cls:=.type "list",data:=.seq #[]}).get? s.heap.objs.size=cz {cls:=.type "list",data:=.seq #[]}:=aF _ rfl;refine⟨⟨_,zl,rfl⟩,F.args_list_init_2 _ _,b0J (A:=A.in1) hh hd (hm.push _) (hv.push _) hsz _ zl λg1 tq ac cq hk vt qS=>?_⟩;exact⟨rfl,kQ g1 tq ac cq (λb o e=>hk b o (a_ (aB e)) (ah _ e)) vt qS⟩
end
end PySem
namespace VS
open PySem.Spec L2
theorem a0F:∀{xs:List V} {us:List ai},xs.length=us.length->(∀(i:Nat) (x:V) (u:ai),xs[i]?=cz x->us[i]?=cz u->RelV x u)->Vals xs us
 |[],[],_,_=>.nil
 |[],_::_,h,_=>by simp at h
 |_::_,[],h,_=>by simp at h
 |x::xs,u::us,hl,h=>.cons (h 0 x u rfl rfl) (a0F (by simpa using hl) λi x u h1 h2=>h (i+1) x u (by simpa using h1) (by simpa using h2))
def z8(es:List (D×V×V)):Prop:=∀e∈es,∃n,e.1=.int n/\e.2.1=.int n
def EKv(e:D×V×V)(kv:Int×ai):Prop:=e.1=.int kv.1/\e.2.1=.int kv.1/\RelV e.2.2 kv.2
def b0K(h:eU O7 es l):z8 es->∃kvs:List (Int×ai),Pairs (cW P w) l kvs/\eU EKv es kvs:=by
 induction h with
 |nil=>exact λ_=>⟨[],.nil,.nil⟩
 |@cons e x es l r _ ih=>
  intro hk;obtain⟨kvs,h1,h2⟩:=ih λe he=>hk e (au _ he)
  obtain⟨n,e1,e2⟩:=hk e ar;obtain⟨hh,ju,t_⟩:=r;rw[e2]at ju;obtain⟨t,ht⟩:=(show ∃t,x.key=md n t from ju);exact⟨(n,x.val)::kvs,.cons (by rw[ht];simp[cW,jF]) rfl h1,.cons ⟨e1,e2,t_⟩ h2⟩
def a6B(h:eU EKv es kvs):es.map (·.1)=(kvs.map (·.1)).map aI:=by
 induction h with
 |nil=>rfl
 |cons r _ ih=>rw[aA,aA,aA,ih,r.1]
section
variable {X:Cx}{M:List Md}{a o:Expr}{fa:EvE}{ca:Cat}{pos p apos cH:eA}
def T9(I:Inv X pins Y H s)(hH:H d=cz (c9 d es))(hk:z8 es) :
  ∃kvs ep,s.heap.DictAt (cW X.prog X.w) d kvs ep/\(d==cS)=p4/\es.length<=aQ/\eU EKv es kvs:=by
 obtain⟨h0,hl,hn,o,ents,ep,h1,h2,h3,h4⟩:=o7 I hH;obtain⟨kvs,p1,p2⟩:=b0K (P:=X.prog) (w:=X.w) h4 hk;refine⟨kvs,ep,⟨o,ents,h1,h2,h3,λx hx=>?_,p1,?_⟩,h0,hl,p2⟩
 ·obtain⟨j,hj⟩:=bU.mp (dU.mpr hx);obtain⟨e,he,hh,ju,_⟩:=a1M h4 hj;obtain⟨n,e1,e2⟩:=hk e (bx he);rw[e2]at ju;obtain⟨t,ht⟩:=(show ∃t,x.key=md n t from ju);exact⟨n,by rw[ht];simp[cW,jF],by rw[hh,e1];rfl⟩
 ·rw[a6B p2]at hn;exact xT aI (λa b h e=>h (by rw[e])) hn
def a4z(v d:aw):HO:=.ext λh=>h.IsValuesView v d
def b0L{h':bL}(h:h'.IsValuesView v d):ObjOk P w H' h' v (a4z v d):=
 ⟨h,let⟨o,ho,_⟩:=h;⟨o,ho⟩,λx1 x2 ⟨o,ho,r⟩ hk=>⟨o,hk _ ho,r⟩⟩
def b0M(ho:PE X o to)(eX:dE o "values" X.env (bX o X.env)=bX o X.env:=by rfl)(eW:(apos.endLine==cH.line)=fx:=by rfl) :
  PE X (.Call (.Attribute o "values" apos) [] [] cH) (λY H Q=>to Y H λx H1=>∃p es,x=.ref p/\H1 p=cz (c9 p es)/\z8 es/\∀l,H1 l=el->Q (.ref l) (upd H1 l (a4z l p))):=by
 intro pins s Y H Q I h;refine iG eX eW (L2.thn (ho pins s Y H _ I h) λv s1 ⟨x,H1,I1,r1,p,es,ex,hH,hk,q1⟩=>?_);subst ex;obtain rfl:v=aS p:=r1;obtain⟨kvs,ep,jN,h0,hl,hp⟩:=T9 I1 hH hk;refine⟨"dict","dict.values",iu,h_,sH,l6 I1 hH,M8 I1 hH,fq rfl (jk ?_)⟩;refine Hb h_ (l6 I1 hH) rL (rj _) (meets_dict_values (cW X.prog X.w) p h0) ⟨⟨kvs,jN.dictOf⟩,?_⟩;exact⟨.ref s1.heap.objs.size,_,I1.laid (a:=s1.heap.objs.size) (o:=a4z s1.heap.objs.size p) (t':=s1.toks) (λ_ _ q=>ah _ q) (aG _) (b0L ⟨_,aF _ rfl,rfl,rfl⟩),rfl,q1 _ (I1.hok.fresh (aG _))⟩
def a8g(hc:X.calm=fx):CallR X (.type "list") (λxs H Q=>∃v p es,xs=[.ref v]/\H v=cz (a4z v p)/\H p=cz (c9 p es)/\z8 es/\∀l,H l=el->Q (.ref l) (upd H l (.lst (es.map (·.2.2))))):=by
 intro pins s Y H xs us Q I rv h;obtain⟨v,p,es,rfl,hV,hH,hk,q⟩:=h;obtain⟨u,rfl,rx⟩:=vals1 rv;cases (show u=aS v from rx)
 obtain⟨kvs,ep,jN,h0,hl,hp⟩:=T9 I hH hk;have zh:s.heap.IsValuesView v p:=(show ObjOk X.prog X.w H s.heap v (a4z v p) from I.hok v _ hV).1;have hlen:=dF hp;refine a2W (knd:=cW X.prog X.w) (I.ok.hd hc) h0 jN zh (by lia) λg1 tq ac cq keep ho qS=>?_
 refine⟨.ref s.heap.objs.size,_,I.laid (t':=tq) keep (aG _) (show ObjOk X.prog X.w _ g1 _ (.lst (es.map (·.2.2))) from⟨by rw[ao];exact hl,ac.toList,cq,?_,by rw[gP];exact ho⟩),rfl,q _ (I.hok.fresh (aG _))⟩;refine a0F (by rw[ao];have z1:=qS.1;have z2:ac.toList.length=ac.size:=cN;lia) λi x u h1 h2=>?_
 rw[cg]at h2;obtain⟨k,h3⟩:=qS.2 i u h2;rw[aY]at h1;obtain⟨e,he,rfl⟩:=dw.mp h1;obtain⟨kv,g3,g4⟩:=F5 hp he;rw[h3]at g3;cases g3
 exact g4.2.2
def intKeyed(h:DenKV K H es kvs)(hk:kvs.all (λp=>p9 p4 p.1)=fx):z8 es:=λe he=>by
 have h1:e.1∈kvs.map (·.1):=by rw[<-h.keys];exact bE he
 obtain⟨kv,h2,h3⟩:=aR.mp h1;obtain⟨n,hn⟩:=(z0 (bj.mp hk kv h2)).2.2.2 rfl;have hd:=h.kden e he;rw[<-h3,hn]at hd;exact⟨n,by rw[<-h3,hn],hd.int_inv⟩
def a5z(a:EvE):EvE:=λU=>(a U).bind λd=>match d with
 |.dict kvs=>if kvs.all (λp=>p9 p4 p.1)&&g9 (kvs.map (·.2)) then cz (.list (kvs.map (·.2))) else el
 |_=>el
def b2P(hc:X.calm=fx)(hm:X.mg "list"=el)(ha:PX X M a fa ca)(hg:Gl X "list":=by rfl)(eX:dE a "values" X.env (bX a X.env)=bX a X.env:=by rfl)(eW:(apos.endLine==cH.line)=fx:=by rfl)
  (he:ak [.Call (.Attribute a "values" apos) [] [] cH] X.env=(p4,bX (.Call (.Attribute a "values" apos) [] [] cH) X.env)::ak [] X.env:=by rfl) (fF:(bY pos (ak [] X.env)).any (·.1)=p4:=by rfl) :
  PX X M (.Call (.Name "list" p) [.Call (.Attribute a "values" apos) [] [] cH] [] pos) (a5z fa) (.new (.l .i)):=by
 obtain⟨ta,pa,qa⟩:=ha.out;refine .mk ⟨_,C5 (a8g hc) hg hm PyProof.Rows.Boot.«list» (l7 (b0M pa eX eW) o5 he) (by decide) (by decide) he fF,λU Y H P F d Q S hf q=>?_⟩;obtain⟨x,h1,g1⟩:=bnd hf;cases x with
 |dict kvs=>
  have g2:(if kvs.all (λp=>p9 p4 p.1)&&g9 (kvs.map (·.2)) then cz (ia (kvs.map (·.2))) else el)=cz d:=g1;by_cases c:(kvs.all (λp=>p9 p4 p.1)&&g9 (kvs.map (·.2)))=fx
  ·rw[aJ c]at g2;cases g2
   rw[av]at c;refine qa U Y H P F _ _ S h1 λv H1 e1 r1=>?_
   obtain⟨pp,es,rfl,k1,k2⟩:=r1.den.dict_inv;have hk:=intKeyed k2 c.1;refine⟨pp,es,rfl,k1,hk,λy hy=>?_⟩;have e2:=j9 hy (a4z y pp);refine⟨y,pp,es,rfl,i7,e2 _ _ k1,hk,λz hz=>q _ _ ((e1.trans e2).trans (j9 hz _)) ?_⟩;exact N3 (k2.vals.up e2) c.2 (e1.trans e2) hz (S.lst' (e1.trans e2))
  ·rw[aN c]at g2;cases g2
 |_=>cases g1
end
def keysOk(kt:Bool)(kvs:List (D×D)):Bool:=kvs.all λp=>p9 kt p.1
def a5A(neg kt:Bool):D->D->Option D
 |k,.dict kvs=>if p9 kt k&&keysOk kt kvs then cz (.bool (neg !=y8 kvs k)) else el
 |_,_=>el
def a1t(kt:Bool):D->D->Option D
 |.dict kvs,k=>if p9 kt k&&keysOk kt kvs then I9 kvs k else el
 |_,_=>el
def a0G(kt:Bool):D->D->Option D
 |.dict kvs,k=>if p9 kt k&&keysOk kt kvs then cz ((I9 kvs k).getD .none) else el
 |_,_=>el
def Y4{kvs:List (D×D)}{es:List (D×V×V)}(h:es.map (·.1)=kvs.map (·.1)):y8 kvs k=u9 es k:=by
 have e1:y8 kvs k=(kvs.map (·.1)).any λx=>aH x k:=by unfold y8;rw[List.any_map];rfl
 have e2:u9 es k=(es.map (·.1)).any λx=>aH x k:=by unfold u9;rw[List.any_map];rfl
 rw[e1,e2,h]
def b2Q{X:Cx}(h:DenKV X.K H es kvs)(ho:keysOk kt kvs=fx)(hk:p9 kt k=fx)(hd:Den X.K H kv k):KeysAt X H kt es k kv:=by
 refine⟨λe he=>⟨?_,h.kden e he⟩,z0 hk,hd⟩;have hm:e.1∈kvs.map (·.1):=by rw[<-h.keys];exact bE he
 obtain⟨p,hp,e1⟩:=aR.mp hm;rw[<-e1];exact z0 (bj.mp ho p hp)
section
variable {X:Cx}{M:List Md}{a b:Expr}{fa fb:EvE}{ca cb:Cat}{kt:Bool}{pos:eA}
def a4A(h:a5A neg kt k d=cz r):∃kvs,d=.dict kvs/\p9 kt k=fx/\keysOk kt kvs=fx/\r=.bool (neg !=y8 kvs k):=by
 cases d with
 |dict kvs=>
  have h':(if p9 kt k&&keysOk kt kvs then cz (cY (neg !=y8 kvs k)) else el)=cz r:=h;by_cases c:(p9 kt k&&keysOk kt kvs)=fx
  ·rw[aJ c]at h';rw[av]at c;exact⟨kvs,rfl,c.1,c.2,(aK h').symm⟩
  ·rw[aN c]at h';cases h'
 |_=>cases h
def a6C(d1:Den X.K H2 v k)(d2:Den X.K H2 w d)(hr:a5A neg kt k d=cz r)(q:Q (.bl (match r with|.bool b=>b|_=>p4)) H2):a8d X neg v w H2 Q:=by
 obtain⟨kvs,rfl,hk,ho,rfl⟩:=a4A hr;obtain⟨p,es,rfl,hH,dk⟩:=d2.dict_inv;refine⟨p,es,kt,k,rfl,hH,b2Q dk ho hk d1,?_⟩;rw[<-Y4 dk.keys];exact q
def b8Z(ho:OpR X (bO op) (a8d X neg))(ha:PX X M a fa ca)(hb:PX X M b fb cb)(hm:autoParam (dP op b=p4) ZX._auto_1):PX X M (.Compare a [op] [b] pos) (e2 (a5A neg kt) fa fb) (.new .i):=by
 obtain⟨ta,pa,qa⟩:=ha.out;obtain⟨tb,pb,qb⟩:=hb.out;refine .mk ⟨_,a9j ho pa pb hm,λU Y H P F d Q S hf q=>?_⟩;obtain⟨x,y,h1,h2,h3⟩:=D7 hf;refine qa U Y H P F x _ S h1 λv H1 e1 r1=>qb U Y H1 P F y _ (S.grow e1) h2 λw H2 e2 r2=>a6C (r1.den.up e2) r2.den h3 ?_
 obtain⟨kvs,rfl,_,_,rfl⟩:=a4A h3;exact q _ H2 (e1.trans e2) (B7 (by simp only[imm]) den_bool (S.lst' (e1.trans e2)))
def b5L(ho:OpR X (bO op) (a8d X neg))(ha:PX X M a fa ca)(hb:PX X M b fb cb)(hm:autoParam (dP op b=p4) ZX._auto_1):PTX X M (.Compare a [op] [b] pos) (tB (e2 (a5A neg kt) fa fb)):=by
 obtain⟨ta,pa,qa⟩:=ha.out;obtain⟨tb,pb,qb⟩:=hb.out;refine .mk ⟨_,a2h ho pa pb hm,λU Y H P F k Q S hf q=>?_⟩;obtain⟨d,hf,hk⟩:=bnd hf;cases K8 hk
 obtain⟨x,y,h1,h2,h3⟩:=D7 hf;exact qa U Y H P F x _ S h1 λv H1 e1 r1=>qb U Y H1 P F y _ (S.grow e1) h2 λw H2 e2 r2=>a6C (r1.den.up e2) r2.den h3 ⟨k,rfl,q H2 (e1.trans e2)⟩
def b2R{es:List (D×V×V)}(hn:(es.map (·.1)).Nodup)(hk:∀e∈es,aH e.1 k=fx↔e.1=k)(h:DenKV K H es kvs)(he:e∈es)(f_:e.1=k):∃d,I9 kvs k=cz d/\Den K H e.2.2 d:=by
 obtain⟨j,hj⟩:=bU.mp he;have hl:kvs.length=es.length:=by have:=dY gN h.keys;simpa using this.symm
 have hz:kvs=(es.map (·.1)).zip (kvs.map (·.2)):=by
  rw[h.keys,List.zip_map',List.map_id'' (λp=>rfl)]
 obtain⟨p,hp⟩:∃p,kvs[j]?=cz p:=⟨_,ay (by rw[hl];exact (aP.mp hj).1)⟩;have hd:(kvs.map (·.2))[j]?=cz p.2:=by rw[aY,hp];rfl
 refine⟨p.2,?_,?_⟩
 ·rw[hz];exact a2S (by rw[ao];exact hl) hk hn hj f_ hd
 ·obtain⟨v,z1,z2⟩:=h.vals.get hd;rw[aY,hj]at z1;cases z1
  exact z2
def c1g(X:Cx)(td ty:TE):TE:=λY H Q=>td Y H λx H1=>ty Y H1 λy H2=>∃a es kt k,x=.ref a/\H2 a=cz (c9 a es)/\KeysAt X H2 kt es k y/\u9 es k=fx/\((es.map (·.1)).Nodup->∀e∈es,e.1=k->Q e.2.2 H2)
def b5M(hu:X.A.units+464<cU)(ho:PE X a td)(hi:PE X b ty)(hs:b2G b):PE X (.Subscript a b pos) (c1g X td ty):=by
 intro pins s Y H Q I h;refine c2C PySem.F.slot_dict_getitem.lookup hs (L2.thn (ho pins s Y H _ I h) λu s1 ⟨x,H1,I1,rx,q1⟩=>L2.thn (hi pins s1 Y H1 _ I1 q1) λiv s2 ⟨y,H2,I2,ry,p,es,kt,k,ex,hH,K,hh,q2⟩=>?_);subst ex;obtain rfl:u=aS p:=rx;have hn:=(o7 I2 hH).2.2.1;exact⟨l6 I2 hH,a8b (by lia) I2 hH K ry hh λe he f_ x s3 I3 r3=>⟨e.2.2,H2,I3,r3,q2 hn e he f_⟩⟩
def b0N(h:a1t kt d k=cz r):∃kvs,d=.dict kvs/\p9 kt k=fx/\keysOk kt kvs=fx/\I9 kvs k=cz r:=by
 cases d with
 |dict kvs=>
  have h':(if p9 kt k&&keysOk kt kvs then I9 kvs k else el)=cz r:=h;by_cases c:(p9 kt k&&keysOk kt kvs)=fx
  ·rw[aJ c]at h';rw[av]at c;exact⟨kvs,rfl,c.1,c.2,h'⟩
  ·rw[aN c]at h';cases h'
 |_=>cases h
def a5B(hu:X.A.units+464<cU)(ha:PX X M a fa (.new .f))(hb:PX X M b fb cb)(hs:b2G b:=by exact λ_ _=>rfl):PX X M (.Subscript a b pos) (e2 (a1t kt) fa fb) (.new .f):=by
 obtain⟨ta,pa,qa⟩:=ha.out;obtain⟨tb,pb,qb⟩:=hb.out;refine .mk ⟨_,b5M hu pa pb hs,λU Y H P F d Q S hf q=>?_⟩;obtain⟨x,y,h1,h2,h3⟩:=D7 hf;obtain⟨kvs,rfl,hk,hok,hg⟩:=b0N h3;refine qa U Y H P F _ _ S h1 λv H1 e1 ⟨fp,o,nd,fr⟩=>qb U Y H1 P F y _ (S.grow e1) h2 λw H2 e2 r2=>?_
 simp only[Own]at o;obtain⟨rfl,o⟩:=o;have o2:Den X.K (cut H2 F) v (.dict kvs):=o.up (K7 e2 λa o ha kN=>by simpa using kN);obtain⟨p,es,rfl,hH,dk⟩:=o2.dict_inv;have AG:DenKV X.K H2 es kvs:=DenKV.mono i8 kvs dk;have KK:=b2Q AG hok hk r2.den;refine⟨p,es,kt,y,rfl,i8 _ _ hH,KK,by rw[<-Y4 dk.keys];exact a6y hg,λhn e he f_=>?_⟩;obtain⟨d',g',dd⟩:=b2R hn (λe he=>KK.eqv he) dk he f_;rw[hg]at g';cases g'
 refine q _ H2 (e1.trans e2) ⟨[],?_,bg,λa ha=>(nomatch ha)⟩;simp only[Own];exact⟨trivial,dd⟩
def b9a(X:Cx):V->List V->Hp->VK->Prop:=λx xs H Q=>∃p es kt k y,x=.ref p/\xs=[y]/\H p=cz (c9 p es)/\KeysAt X H kt es k y/\(u9 es k=p4->Q .non H)/\((es.map (·.1)).Nodup->∀e∈es,e.1=k->Q e.2.2 H)
def b5N(hu:X.A.units+464<cU):MtR X "dict.get" (b9a X):=by
 intro pins s Y H x xs v us Q I rx rv h;obtain⟨p,es,kt,k,y,rfl,rfl,hH,K,q1,q2⟩:=h;cases (show v=aS p from rx)
 obtain⟨w,rfl,rw⟩:=rv.one;have hn:=(o7 I hH).2.2.1;exact b8U (by lia) I hH K rw (λhf s' I'=>⟨.non,H,I',rfl,q1 hf⟩) λe he f_ x s' I' r'=>⟨e.2.2,H,I',r',q2 hn e he f_⟩
def a8h(h:a0G kt d k=cz r):∃kvs,d=.dict kvs/\p9 kt k=fx/\keysOk kt kvs=fx/\r=(I9 kvs k).getD .none:=by
 cases d with
 |dict kvs=>
  have h':(if p9 kt k&&keysOk kt kvs then cz ((I9 kvs k).getD .none) else el)=cz r:=h;by_cases c:(p9 kt k&&keysOk kt kvs)=fx
  ·rw[aJ c]at h';rw[av]at c;exact⟨kvs,rfl,c.1,c.2,(aK h').symm⟩
  ·rw[aN c]at h';cases h'
 |_=>cases h
def a5C{apos cH:eA}(hu:X.A.units+464<cU)(ha:PX X M a fa (.new .f))(hb:PX X M b fb cb)(eX:dE a "get" X.env (bX a X.env)=bX a X.env:=by rfl)
  (lW:((bY cH (ak [b] X.env)).all (λx=>!x.1)&&(rd cH (lj [] X.env)).all (λx=>x.1.isSome)
   && decide (([b]:List Expr).length+([]:List iZ).length+(if ([]:List iZ).isEmpty then 0 else 1)<30))=fx:=by rfl)
  (eW:(apos.endLine==cH.line)=fx:=by rfl) (hs:ak [b] X.env=(p4,bX b X.env)::ak [] X.env:=by rfl) (iA:(bY cH (ak [] X.env)).any (·.1)=p4:=by rfl) :
  PX X M (.Call (.Attribute a "get" apos) [b] [] cH) (e2 (a0G kt) fa fb) (.new .f):=by
 obtain⟨ta,pa,qa⟩:=ha.out;obtain⟨tb,pb,qb⟩:=hb.out;refine .mk ⟨_,a8e PySem.F.slot_dict_get PySem.F.type_dict_get (b5N hu) pa (l7 pb o5 hs) eX lW eW hs iA,λU Y H P F d Q S hf q=>?_⟩;obtain⟨x,y,h1,h2,h3⟩:=D7 hf;obtain⟨kvs,rfl,hk,hok,rfl⟩:=a8h h3;refine qa U Y H P F _ _ S h1 λv H1 e1 ⟨fp,o,nd,fr⟩=>?_
 simp only[Own]at o;obtain⟨rfl,o⟩:=o;obtain⟨p,es,rfl,hH,dk⟩:=o.dict_inv;refine⟨⟨p,es,rfl,i8 _ _ hH⟩,qb U Y H1 P F y _ (S.grow e1) h2 λw H2 e2 r2=>?_⟩;have up:Same (cut H1 ([]++F)) (cut H2 F):=K7 e2 λa o ha kN=>by simpa using kN
 have CH:DenKV X.K (cut H2 F) es kvs:=DenKV.mono up kvs dk;have AG:DenKV X.K H2 es kvs:=DenKV.mono i8 kvs CH;have KK:=b2Q AG hok hk r2.den;refine⟨p,es,kt,y,w,rfl,rfl,e2 _ _ (i8 _ _ hH),KK,λhf=>?_,λhn e he f_=>?_⟩
 ·have:I9 kvs y=el:=a4v (by rw[Y4 dk.keys];exact hf);rw[this]at q;refine q .non H2 (e1.trans e2) ⟨[],?_,bg,λa ha=>(nomatch ha)⟩;simp only[Own];exact⟨trivial,den_none⟩
 ·obtain⟨d',g',dd⟩:=b2R hn (λe he=>KK.eqv he) CH he f_;rw[g']at q;refine q _ H2 (e1.trans e2) ⟨[],?_,bg,λa ha=>(nomatch ha)⟩;simp only[Own];exact⟨trivial,dd⟩
end
end VS
namespace VS
open PySem.Spec L2 PyProof.Rows
section
variable {X:Cx}{pins:List (aw×fm)}{Y:L2.St}{H:Hp}{s:aj}{A:bB}{E:ai->aj->Prop}{a:aw}{es:List (D×V×V)}{kt:Bool}{k:D}{kv v:V}{key val:ai}
def a8i{Q:ai->aj->Prop}(I:Inv X pins Y H s)(h:H a=cz (c9 a es))(hQ:∀t s',Inv X pins Y H s'->Q (.int es.length t) s'):az (aO X.prog X.w) A (Builtin.«len» ⟨[.ref a],[]⟩) (λfin s'=>∃r,fin=.done (.ret r)/\Q r s') E s:=by
 have hT:=l6 I h;obtain⟨hd,hl,_,o,ents,ep,h1,h2,h3,h4⟩:=o7 I h;have hsz:ents.size=es.length:=by
  have:=dF h4;have e2:ents.toList.length=ents.size:=by simp
  lia
 have qd:(es.length:Int)<2^63:=by
  have:aQ<2^62:=by decide
  lia
 unfold Builtin.«len»;refine ae (m:=oneArg "len" _) (ag ?_);refine ae (m:=callSpecial? (.ref a) (cm "__len__")) (bM (name:=cm "__len__") hT iF (bF iF hT F.entry_dict_len ?_ (F.args_dict_len_1 _)));show az _ _ (dictSize a >>= _) _ _ s;unfold dictSize;refine ae (ae (cD h1 h3 (ag ?_)));show az _ _ (yI a >>= _) _ _ s;refine ae (yK hd ?_);refine tS ?_;rw[Nat.add_zero,hsz];refine ae (bJ (ag ?_));refine ae (nz ?_);show az _ _ (if ((es.length:Nat):Int)<0 then _ else _) _ _ _;rw[aN (by lia)];show az _ _ (if ((es.length:Nat):Int)≥2^63 then _ else _) _ _ _;rw[aN (by lia)];exact ae (wpAny_mkInt (ag ⟨_,rfl,hQ _ _ (I.tok _)⟩))
def b0O{Q:Bool->aj->Prop}(I:Inv X pins Y H s)(h:H a=cz (c9 a es))(hQ:∀s',Inv X pins Y H s'->Q (!es.isEmpty) s'):az (aO X.prog X.w) A (vA (.ref a)) Q E s:=by
 have hT:=l6 I h;have ik:((es.length:Int)!=0)=!es.isEmpty:=by cases es<;>simp<;>lia
 have key:az (aO X.prog X.w) A (runValue (.builtin "len" ⟨[.ref a],[]⟩)) (λr s'=>(∃t,r=.int es.length t)/\Q (!es.isEmpty) s') E s:=by
  refine ny (dD entry_len ?_);rw[cZ plain_len _];exact cK (a8i (Q:=λr s'=>(∃t,r=.int es.length t)/\Q (!es.isEmpty) s') I h λt s' I'=>⟨⟨t,rfl⟩,hQ s' I'⟩)
   (λfin s' h'=>by obtain⟨r,rfl,hq⟩:=h';exact hq) λ_ _ e=>e
 unfold vA
 first
  |refine ae (AU (name:=cm "__bool__") hT noBool_dict ?_)
  |refine ae (ag (ae (AU (name:=cm "__bool__") hT noBool_dict ?_)))
 first
  |refine ae (dC (name:=cm "__len__") hT iF.lookup ?_)
  |refine ae (ag (ae (dC (name:=cm "__len__") hT iF.lookup ?_)))
 first
  |exact ae (cK key (λr s' h'=>by obtain⟨⟨t,rfl⟩,hq⟩:=h';exact ag (ik▸hq)) λ_ _ e=>e)
  |exact ae (ag (ae (cK key (λr s' h'=>by obtain⟨⟨t,rfl⟩,hq⟩:=h';exact ag (ik▸hq)) λ_ _ e=>e)))
end
section
variable {X:Cx}{M:List Md}{a:Expr}{ta:TE}{fa:EvE}{ca:Cat}
def b5O(ha:PE X a ta)(he:∀whole,rW a X.env whole=(do let v <-whole;standAt a.pos;om [v] (vA v))):PT X a (λY H Q=>ta Y H λx H'=>∃p es,x=.ref p/\H' p=cz (c9 p es)/\Q (!es.isEmpty) H'):=by
 intro pins s Y H Q I h;refine isTrue_plain (L2.thn (ha pins s Y H _ I h) λv s1 ⟨x,H1,I1,r1,p,es,ex,hH,q1⟩=>?_) (he _);subst ex;obtain rfl:v=aS p:=r1;exact b0O I1 hH λs' I'=>⟨H1,I',q1⟩
def trD:D->Option Bool
 |.dict kvs=>cz !kvs.isEmpty
 |_=>el
def tVD(a:EvE):EvT:=λU=>(a U).bind trD
def b2S(ha:PX X M a fa ca)(he:∀whole,rW a X.env whole=(do let v <-whole;standAt a.pos;om [v] (vA v)):=by intro _;rfl):PTX X M a (tVD fa):=by
 obtain⟨ta,pa,qa⟩:=ha.out;refine .mk ⟨_,b5O pa he,λU Y H P F k Q S hf q=>?_⟩;obtain⟨x,h1,hf⟩:=bnd hf;refine qa U Y H P F _ _ S h1 λv H1 e1 r1=>?_
 cases x with
 |dict kvs=>
  have jw:cz (!kvs.isEmpty)=cz k:=hf;cases jw
  obtain⟨p,es,rfl,hH,dk⟩:=r1.den.dict_inv;refine⟨p,es,rfl,hH,?_⟩;have hl:es.isEmpty=kvs.isEmpty:=by
   have:=dY gN dk.keys;rw[ao,ao]at this;cases es<;>cases kvs<;>simp_all
  rw[hl];exact q H1 e1
 |_=>cases hf
end
end VS
namespace VS
open PySem.Spec L2
section
variable {X:Cx}{pins:List (aw×fm)}{Y:L2.St}{H:Hp}{s:aj}{A:bB}{E:ai->aj->Prop}{a:aw}{es fs:List (D×V×V)}{k:D}{kv v:V}{key val:ai}{kt:Bool}{F:List aw}
theorem a1Q:∀{l:List α} {m:List β},eU R l m->∀{i:Nat} {x:α},l[i]?=cz x->∃y,m[i]?=cz y/\R x y
 |_,_,.nil,i,x,h=>by simp at h
 |_,_,.cons r t,0,x,h=>by
  cases h
  exact⟨_,rfl,r⟩
 |_,_,.cons r t,i+1,x,h=>by
  obtain⟨y,h1,h2⟩:=a1Q t (i:=i) (x:=x) (by simpa using h);exact⟨y,by simpa using h1,h2⟩
def a6D(I:Inv X pins Y H s)(hu:A.units+10<cU)(h:H a=cz (c9 a es))(K:KeysAt X H kt es k kv)(rk:RelV kv key)(rv:RelV v val)(hl:es.length<aQ)(pN:∀e∈es,e.1≠k) 
  (hQ:∀h',Inv X pins Y (upd H a (c9 a (es++[(k,kv,v)]))) {s with heap:=h'}->cB a s.heap h'->Q () {s with heap:=h'}):az (aO X.prog X.w) A (lI a key (hashD k) val) Q E s:=by
 obtain⟨hs,_,hn,o,ents,ep,h1,h2,h3,h4⟩:=o7 I h;have hsz:ents.size<=aQ:=by
  have:=dF h4;have e2:ents.toList.length=ents.size:=by simp
  lia
 have hf:u9 es k=p4:=by
  unfold u9;rw[cA];exact λe he hq=>pN e he ((K.eqv he).mp hq)
 unfold lI
 try with_reducible refine bJ ?_
 refine ae (Y2 I hu h1 h3 h4 hn K.keys K.key K.den rk ?_ ?_)
 ·intro _;exact ae (ef (nv (hz:=hsz) h1 h3 (hQ _ (a1s (t':=s.toks) I h K rk rv hl hf h1 h2 h3 h4) (bQ ..))))
 ·intro j e he f_;exact absurd f_ (pN e (bx he))
def b2T(I:Inv X pins Y H s)(hu:A.units+10<cU)(hd:H d=cz (c9 d es))(ho:H o=cz (c9 o fs))(tz:d≠o)(ik:es≠[])(Af:d∈F)
  (hk:∀e∈es++fs,keyOk kt e.1/\Den X.K (cut H F) e.2.1 e.1) (ja:((es++fs).map (·.1)).Nodup) (hsz:es.length+fs.length<=aQ) (hQ:∀s',Inv X pins Y (upd H d (c9 d (es++fs))) s'->Q () s') :
  az (aO X.prog X.w) A (i_ nm d o) Q E s:=by
 obtain⟨HX,_,hn,od,sC,Il,Fc,kL,xb,EV⟩:=o7 I hd;obtain⟨Fe,_,pN,oo,mO,Ik,yf,HY,qO,BD⟩:=o7 I ho;unfold i_;rw[aN (by simpa using tz)];unfold jo;rw[aN (by rw[Fe];exact bc)];refine ae (ag ?_);refine ae (cD yf qO ?_);have hlen:fs.length=mO.size:=by rw[dF BD];simp
 have Bv:∀o',Same (cut H F) (cut (upd H d o') F):=λo' c u hc=>by
  obtain⟨q1,q2⟩:=o9 hc;have ne:c≠d:=λz=>q1 (by rw[z];exact Af)
  exact k6 q1 (by rw[f8 ne];exact q2)
 have loop:az (aO X.prog X.w) A (do
   let xE <-dictEpoch o
   let l <-dictEntries o
   forIn [:l.size] kY λi (_:PUnit)=>(do
     let l' <-dictEntries o
     match l'[i]? with
      |some e=>do
       om [e.key,e.val] (lI d e.key e.hash e.val)
       let rF <-dictEpoch o
       if (rF !=xE)=fx then do
         (sQ (toString nm++toString ":source-changed-during-callback"):Sem PUnit)
         pure (ee kY)
        else pure (ee kY)
      |_=>do
       (sQ "internal:dict-merge":Sem PUnit)
       pure (ee kY):Sem (ForInStep PUnit))
   pure ()) Q E s:=by
  refine ae (jS yf qO ?_);refine ae (cD yf qO ?_);refine ae ?_;rw[Std.Legacy.Range.forIn_eq_forIn_range'];simp only[Std.Legacy.Range.size,Nat.sub_zero,Nat.add_sub_cancel,Nat.div_one];have start:Inv X pins Y (upd H d (c9 d (es++fs.take 0))) s:=by
   have e:upd H d (c9 d (es++fs.take 0))=H:=by
    funext c
    by_cases z:c=d
    ·rw[z,i7,hd];simp
    ·rw[f8 z]
   rw[e];exact I
  refine wpAny_forIn_list _
   (λrest _ s'=>∃i,rest=List.range' i (mO.size-i)/\i<=mO.size/\Inv X pins Y (upd H d (c9 d (es++fs.take i))) s'/\s'.heap.get? o=cz oo)
   _ ?_ ?_ _ _ ⟨0,by simp,cI _,start,yf⟩
  ·rintro x rest b s' ⟨i,hr,hi,I',ug⟩;have gQ:i<mO.size:=by
    rcases gS i mO.size with h|h
    ·exact h
    ·rw[Nat.sub_eq_zero_of_le h]at hr;simp at hr
   obtain⟨rfl,jE⟩:x=i/\rest=List.range' (i+1) (mO.size-(i+1)):=by
    have e:mO.size-i=(mO.size-(i+1))+1:=by lia
    rw[e,Hk]at hr
    injection hr with h1 h2
    exact⟨h1,h2⟩
   refine ae (cD ug qO ?_);rw[bP gQ];obtain⟨f,hf⟩:∃f,fs[x]?=cz f:=⟨fs[x]'(by rw[hlen];exact gQ),ay _⟩;obtain⟨y,hy,hh,rk,rv⟩:=a1Q BD hf;have ze:mO[x]=y:=by
    have:mO.toList[x]?=cz mO[x]:=by simp[gQ]
    rw[hy]at this;exact (aK this).symm
   show az _ _ (om [mO[x].key,mO[x].val] (lI d mO[x].key mO[x].hash mO[x].val) >>= _) _ _ _;rw[ze,hh];have ka:es++fs=(es++fs.take x)++f::fs.drop (x+1):=by
    have e1:fs=fs.take x++f::fs.drop (x+1):=by
     have qD:=(aP.mp hf);obtain⟨rY,sV⟩:=qD;rw[<-sV,<-fE rY,List.take_append_drop]
    rw[bw,<-e1]
   have KK:KeysAt X (upd H d (c9 d (es++fs.take x))) kt (es++fs.take x) f.1 f.2.1:=
    ⟨λe he=>⟨(hk e (by rw[ka];exact aM _ he)).1,((hk e (by rw[ka];exact aM _ he)).2.up (Bv _)).up i8⟩,
     (hk f (by rw[ka];simp)).1,((hk f (by rw[ka];simp)).2.up (Bv _)).up i8⟩
   have qJ:∀e∈es++fs.take x,e.1≠f.1:=λe he z=>by
    rw[ka,aZ,aA,bo]at ja;exact ja.2.2 e.1 (bE he) f.1 ar z
   have BM:(es++fs.take x).length<aQ:=by
    rw[bh,gU];lia
   refine ae (bJ (a6D (v:=f.2.2) I' hu i7 KK rk rv BM qJ λvd Di sb=>?_));have ti:vd.get? o=cz oo:=(sb.2 o (dy tz)).trans ug;refine ae (jS ti qO ?_);rw[aN (by simp)];refine ag ⟨x+1,jE,gQ,?_,ti⟩;rw[b4T,bw]at Di;have e2:fs.take (x+1)=fs.take x++[(f.1,f.2.1,f.2.2)]:=by rw[List.take_add_one,hf];rfl
   rw[e2];exact Di
  ·rintro b s' ⟨i,hr,hi,I',ug⟩;have kN:i=mO.size:=by
    rcases gS i mO.size with h|h
    ·have e:mO.size-i=(mO.size-(i+1))+1:=by lia
     rw[e,Hk]at hr;exact nomatch hr
    ·exact Nat.le_antisymm hi h
   rw[kN,<-hlen,oP]at I';exact ag (hQ s' I')
 dsimp only
 split
 ·refine ae (cD Fc xb ?_)
  split
  ·rename_i Ab
   have h0:sC=#[]:=Array.isEmpty_iff.mp Ab;have:=dF EV;rw[h0]at this;exact absurd (dR.mp (by simpa using this)) ik
  ·exact loop
 ·exact loop
def b0P(hu:A.units+12<cU)(I:Inv X pins Y H s)(hd:H d=cz (c9 d es))(ho:H o=cz (c9 o fs))(tz:d≠o)(ik:es≠[])(Af:d∈F)
  (hk:∀e∈es++fs,keyOk kt e.1/\Den X.K (cut H F) e.2.1 e.1) (ja:((es++fs).map (·.1)).Nodup) (hsz:es.length+fs.length<=aQ) (hQ:∀s',Inv X pins Y (upd H d (c9 d (es++fs))) s'->Q .none s') :
  az (aO X.prog X.w) A (call (.builtin "dict.update") [.ref d,.ref o]) Q E s:=by
 have hT:=l6 I hd;have uF:=l6 I ho;refine bF sI hT PySem.F.entry_dict_update ?_ (PySem.F.args_dict_update_2 _ _);unfold Builtin.«dict.update»;refine ae ?_;unfold lP;refine ae (fL hT ?_);show az _ _ (pure (d,[aS o])) _ _ s;refine ag ?_;show az _ _ (eR "dict.update" d (.ref o) [] .none) _ _ s;unfold eR;refine ae (ij uF ?_);rw[aN (by decide)];refine ae ?_;unfold Builtin.Dict.merge;refine ae ?_;unfold yH;refine ae (fB uF isSubtype_dict_dict ?_);simp only[kq,cV,fQ];refine ae (dC uF PySem.F.slot_dict_iter.lookup (ag ?_));simp only[eS,jr];refine ae (ag ?_);refine b2T (A:=A.in1) I (by show A.units+1+10<cU;lia) hd ho tz ik Af hk ja hsz λs' I'=>?_
 show az _ _ (AQ d [] >>= _) _ _ _;exact ae (ag (ag ⟨.none,rfl,hQ s' I'⟩))
end
section
variable {K:af}{M:List Md}{U:List D}{Y:L2.St}{H P:Hp}{F:List aw}{i j:Nat}{kt:Bool}{u:Ty}
def StR.update(oG:i≠j)(h:StR K M U Y H P F)(hi:M[i]?=cz (.own (.d kt u)))(hj:M[j]?=cz (.own (.d kt u))) :
  ∃F' a b es fs ds fC,Y[i]?=cz (cz (.ref a))/\Y[j]?=cz (cz (.ref b))/\a≠b/\U[i]?=cz (.dict ((es.map (·.1)).zip ds))/\U[j]?=cz (.dict ((fs.map (·.1)).zip fC))/\H a=cz (c9 a es)/\H b=cz (c9 b fs)/\a∈F'/\
   (∀e∈es++fs,keyOk kt e.1/\Den K (cut H F') e.2.1 e.1)/\ds.length=es.length/\fC.length=fs.length/\(es.map (·.1)).Nodup/\(fs.map (·.1)).Nodup/\
   (((es++fs).map (·.1)).Nodup->StR K (M.set j (.keys kt)) (U.set i (.dict (((es++fs).map (·.1)).zip (ds++fC)))) Y (upd H a (c9 a (es++fs))) P F'):=by
 obtain⟨G,h1,h2,h3⟩:=h.all;obtain⟨dj,oj,fj,qy,nG,CB,CA,⟨vj,rfl,Oj⟩,AF,GL⟩:=h1.at_ hj;obtain⟨b,fs,fC,gs,rfl,yw,rfl,rfl,yi,Gq,wI,zH⟩:=Oj.dict;rw[AF]at h2;have jt:∀x∈F.filter (λx=>decide (x≠b)),x∈F:=λx hx=>(bz.mp hx).1
 have xi:b∉F.filter (λx=>decide (x≠b)):=λhx=>absurd rfl (aX (bz.mp hx).2)
 have hc:Same (cut H F) (cut H (F.filter (λx=>decide (x≠b)))):=D5 jt;have vE:SlotR K H (F.filter (λx=>decide (x≠b))) (.keys kt) (cz (.ref b)) (.dict ((fs.map (·.1)).zip fC)) []:=
  ⟨rfl,b,fs,_,rfl,rfl,k6 xi yw,(oQ (by rw[ao,wI];exact aG _)).symm,λe he=>⟨(yi e he).1,(yi e he).2.up hc⟩⟩
 have q1:=GL H _ (.keys kt) _ (cz (.ref b)) [] (λ_ _=>rfl) hc vE;rw[set_same CB,set_same CA]at q1;have um:(M.set j (.keys kt))[i]?=cz (.own (.d kt u)):=by rw[dS (dy oG)];exact hi
 obtain⟨di,oi,f1,pG,mH,GP,CD,⟨vi,rfl,Oi⟩,GO,GN⟩:=q1.at_ um;obtain⟨a,es,ds,fi,rfl,yx,rfl,rfl,yj,Gr,sj,zI⟩:=Oi.dict;have uI:qy++nG=pG++((a::fi)++mH):=by simpa using GO
 have apart:=a4p h2;have lD:∀x∈qy++nG,x∈F:=λx hx=>h3 x (by rw[AF];exact mem_mid hx)
 have uE:a∈qy++nG:=by rw[uI];simp
 have qf:a≠b:=λz=>apart b ar (by rw[<-z];exact uE)
 have uV:∀x∈F,x≠b->x∈F.filter (λx=>decide (x≠b)):=λx hx hb=>bz.mpr ⟨hx,aE hb⟩
 have ot:a∈F.filter (λx=>decide (x≠b)):=uV a (lD a uE) qf;have oq:∀e∈es++fs,keyOk kt e.1/\Den K (cut H (F.filter (λx=>decide (x≠b)))) e.2.1 e.1:=λe he=>by
  rcases aC.mp he with z|z
  ·exact yj e z
  ·exact⟨(yi e z).1,(yi e z).2.up hc⟩
 refine⟨_,a,b,es,fs,ds,fC,CD,CA,qf,GP,CB,yx,yw,ot,oq,sj,wI,zI,zH,λja=>?_⟩;have mL:Same (cut H (F.filter (λx=>decide (x≠b)))) (cut (upd H a (c9 a (es++fs))) (F.filter (λx=>decide (x≠b)))):=λc o' yp=>by
  obtain⟨r1,r2⟩:=o9 yp;have ne:c≠a:=λz=>r1 (by rw[z];exact ot)
  exact k6 r1 (by rw[f8 ne];exact r2)
 have wD:(pG++((a::fi)++mH)).Nodup:=by rw[<-uI];exact N2 h2
 have xo:a∉fi++mH:=by
  have:=(bo.mp wD).2.1;rw[bA,bD]at this;exact this.1
 have xm:a∉pG:=λz=>(bo.mp wD).2.2 a z a (by simp) rfl
 have Ak:a∉gs:=λz=>apart a (au _ z) uE
 have own:Own K (upd H a (c9 a (es++fs))) (F.filter (λx=>decide (x≠b))) (.d kt u) (.ref a) (.dict (((es++fs).map (·.1)).zip (ds++fC))) (a::(fi++gs)):=by
  simp only[Own];refine⟨a,es++fs,ds++fC,fi++gs,rfl,i7,rfl,rfl,⟨ja,λe he=>⟨(oq e he).1,(oq e he).2.up mL⟩⟩,?_⟩;rw[aZ];refine ListAll.append (Gr.imp λv d f hf _ q=>q.frame mL u λx hx=>?_) (Gq.imp λv d f hf _ q=>q.frame (hc.trans mL) u λx hx=>?_)
  ·exact f8 λz=>xo (aM _ (by rw[<-z];exact hf x hx))
  ·exact f8 λz=>Ak (by rw[<-z];exact hf x hx)
 have q2:=GN _ _ (.own (.d kt u)) _ (cz (.ref a)) (a::(fi++gs)) (λx hx=>f8 λz=>by
  rcases aC.mp hx with y|y
  ·exact xm (by rw[<-z];exact y)
  ·exact xo (ax _ (by rw[<-z];exact y))) mL ⟨_,rfl,own⟩
 rw[set_same um,set_same CD]at q2;have wO:gs.Nodup:=by
  have:=(bo.mp h2).2.1;rw[bA,bD]at this;exact (bo.mp this.2).1
 have eG:pG++((a::(fi++gs))++mH)=(pG++(a::fi))++(gs++mH):=by simp
 have eP:qy++nG=(pG++(a::fi))++mH:=by rw[uI];simp
 refine⟨⟨_,q2,?_,λx hx=>?_⟩,λx hx=>?_,h.prot.trans (hc.trans mL)⟩
 ·rw[eG];exact a1m (by rw[<-eP];exact N2 h2) wO λx hx z=>apart x (au _ hx) (by rw[eP];exact z)
 ·rw[eG]at hx;rcases a5r hx with z|z
  ·have kM:x≠b:=λy=>by
    have:=(bo.mp h2).2.1;rw[bA,bD]at this;exact this.1 (aM _ (by rw[<-y];exact z))
   exact uV x (h3 x (by rw[AF];exact ax _ (aM _ (au _ z)))) kM
  ·have rz:x∈qy++nG:=by rw[eP];exact z
   exact uV x (lD x rz) λy=>apart b ar (by rw[<-y];exact rz)
 ·by_cases z:x=a
  ·rw[z];exact⟨⟨c9 a (es++fs),trivial⟩,i7⟩
  ·rw[f8 z];exact h.lst x (jt x hx)
end
def b0Q(i j:Nat):EvS:=λU=>match U.getD i .none,U.getD j .none with
 |.dict kvs,.dict more=>if !kvs.isEmpty&&(more.all λp=>!y8 kvs p.1)&&decide (kvs.length+more.length<=1000000) then cz (.nx (U.set i (.dict (kvs++more)))) else el
 |_,_=>el
section
variable {X:Cx}{w u:Ty}{ML M:List Md}{kt:Bool}{pos apos cH px py:eA}{x y:bt}
def c2G(X:Cx):V->List V->Hp->VK->Prop:=λz xs H Q=>∃p q es fs kt F,z=.ref p/\xs=[.ref q]/\H p=cz (c9 p es)/\H q=cz (c9 q fs)/\p≠q/\es≠[]/\p∈F/\(∀e∈es++fs,keyOk kt e.1/\Den X.K (cut H F) e.2.1 e.1)/\((es++fs).map (·.1)).Nodup/\es.length+fs.length<=aQ/\Q .non (upd H p (c9 p (es++fs)))
def b9b(hu:X.A.units+464<cU):MtR X "dict.update" (c2G X):=by
 intro pins s Y H z xs v us Q I rx rv h;obtain⟨p,q,es,fs,kt,F,rfl,rfl,hp,hq,EU,ik,EW,hk,ja,hsz,qq⟩:=h;cases (show v=aS p from rx)
 obtain⟨w,rfl,rw⟩:=rv.one;cases (show w=aS q from rw)
 exact b0P (by lia) I hp hq EU ik EW hk ja hsz λs' I'=>⟨.non,_,I',rfl,qq⟩
def b0R(i j:Nat)(oG:i≠j)(hu:X.A.units+464<cU)(hi:M[i]?=cz (.own (.d kt u)):=by rfl)(hj:M[j]?=cz (.own (.d kt u)):=by rfl)(Gn:X.N[i]?=cz x:=by rfl)(Gm:X.N[j]?=cz y:=by rfl)
  (ED:autoParam (Vis X.env.scope x) ZU._auto_1) (EC:autoParam (Vis X.env.scope y) ZU._auto_1)
  (qP:(x==("__debug__":bt))=p4:=by decide) (FT:(x==("__classdict__":bt))=p4:=by decide) (FK:(y==("__debug__":bt))=p4:=by decide) (FR:(y==("__classdict__":bt))=p4:=by decide)
  (eX:dE (.Name x px) "update" X.env (bX (.Name x px) X.env)=bX (.Name x px) X.env:=by rfl)
  (lW:((bY cH (ak [.Name y py] X.env)).all (λx=>!x.1)&&(rd cH (lj [] X.env)).all (λx=>x.1.isSome)
   && decide (([.Name y py]:List Expr).length+([]:List iZ).length+(if ([]:List iZ).isEmpty then 0 else 1)<30))=fx:=by rfl)
  (eW:(apos.endLine==cH.line)=fx:=by rfl) (hs:ak [.Name y py] X.env=(p4,bX (.Name y py) X.env)::ak [] X.env:=by rfl) (iA:(bY cH (ak [] X.env)).any (·.1)=p4:=by rfl)
  (qF:fP (.Call (.Attribute (.Name x px) "update" apos) [.Name y py] [] cH) el pos.line X.env=pure p4:=by rfl) :
  PSX X w ML M (.Expr (.Call (.Attribute (.Name x px) "update" apos) [.Name y py] [] cH) pos) (b0Q i j) (M.set j (.keys kt)):=by
 refine .mk ⟨_,a0s (a8e sI PySem.F.type_dict_update (b9b hu) (A8 Gn ED qP FT) (l7 (A8 Gm EC FK FR) o5 hs) eX lW eW hs iA) qF,λD U Y H P F o S hg k=>?_⟩;obtain⟨F',a,b,es,fs,ds,fC,s1,s2,qf,r1,r2,yx,yw,ot,oq,sj,wI,zI,zH,S'⟩:=S.update oG hi hj;unfold b0Q at hg;rw[y9 r1,y9 r2]at hg;have nJ:(if !((es.map (·.1)).zip ds).isEmpty&&(((fs.map (·.1)).zip fC).all λp=>!y8 ((es.map (·.1)).zip ds) p.1)&&decide (((es.map (·.1)).zip ds).length+((fs.map (·.1)).zip fC).length<=1000000) then cz (Out.nx (U.set i (.dict ((es.map (·.1)).zip ds++(fs.map (·.1)).zip fC)))) else el)=cz o:=hg
 split at nJ
 ·next c=>
  cases nJ
  rw[av,av]at c;obtain⟨⟨c1,c2⟩,c3⟩:=c;have l1:((es.map (·.1)).zip ds).length=es.length:=by rw[d_,ao,sj,kZ]
  have l2:((fs.map (·.1)).zip fC).length=fs.length:=by rw[d_,ao,wI,kZ]
  have He:=aX c3;rw[l1,l2]at He;have ik:es≠[]:=λz=>by rw[z]at c1;simp at c1
  have ja:((es++fs).map (·.1)).Nodup:=by
   rw[aZ,bo];refine⟨zI,zH,λp hp q hq z=>?_⟩;obtain⟨e,he,rfl⟩:=aR.mp hp;obtain⟨f,hf,rfl⟩:=aR.mp hq;obtain⟨n,hn⟩:=bU.mp hf;have gQ:n<fC.length:=by rw[wI];exact (aP.mp hn).1
   have hm:(f.1,fC[n])∈(fs.map (·.1)).zip fC:=by
    refine bU.mpr ⟨n,?_⟩;rw[jV];exact⟨by rw[aY,hn];rfl,ay gQ⟩
   have pN:=bj.mp c2 _ hm;have sd:y8 ((es.map (·.1)).zip ds) f.1=p4:=by simpa using pN
   rw[B9 sj]at sd;unfold u9 at sd;rw[cA]at sd;refine sd e he ?_;exact (B6 e.1 f.1 (oq e (aM _ he)).1.1 (oq f (ax _ hf)).1.1).mpr z
  have hz:aQ=16777216:=cE;refine⟨.ref a,s1,⟨a,es,rfl,yx⟩,.ref b,s2,⟨a,b,es,fs,kt,F',rfl,rfl,yx,yw,qf,ik,ot,oq,ja,by lia,?_⟩⟩;have S2:=S' ja;rw[aZ,IA (by rw[ao];exact sj.symm)]at S2;exact k Y _ F' S2
 ·cases nJ
end
def StE.getKeys(h:StE K M U Y H P F)(hm:M[j]?=cz (.keys kt)) :
  ∃a es kvs,Y[j]?=cz (cz (.ref a))/\U.getD j .none=.dict kvs/\H a=cz (c9 a es)/\es.map (·.1)=kvs.map (·.1)/\∀e∈es,keyOk kt e.1/\Den K H e.2.1 e.1:=by
 obtain⟨G,h1,h3⟩:=h.all;obtain⟨d,o,f,pre,post,e1,e2,⟨_,a,es,kvs,rfl,rfl,z1,z2,z3⟩,e4,_⟩:=h1.at_ hm;exact⟨a,es,kvs,e2,y9 e1,i8 _ _ z1,z2,λe he=>⟨(z3 e he).1,(z3 e he).2.up i8⟩⟩
section
variable {X:Cx}{M:List Md}{a:Expr}{fa:EvE}{ca:Cat}{kt:Bool}{pos py:eA}{y:bt}
def b5P(j:Nat)(ho:OpR X (bO op) (a8d X neg))(ha:PX X M a fa ca)(hj:M[j]?=cz (.keys kt):=by rfl)(hN:X.N[j]?=cz y:=by rfl)(hv:autoParam (NmV X y) ZY._auto_1)(hm:autoParam (dP op (.Name y py)=p4) ZX._auto_1):PTX X M (.Compare a [op] [.Name y py] pos) (tB (e2 (dIn neg kt) fa (b7 j))):=by
 obtain⟨ta,pa,qa⟩:=ha.out;refine .mk ⟨_,a2h ho pa (A8 hN hv.1 hv.2.1 hv.2.2) hm,λU Y H P F k Q S hf q=>?_⟩;obtain⟨d,hf,Fu⟩:=bnd hf;cases K8 Fu
 obtain⟨x,z,h1,h2,h3⟩:=D7 hf;cases h2
 refine qa U Y H P F x _ S h1 λv H1 e1 r1=>?_
 obtain⟨p,es,kvs,s1,hr,hH,hk,oq⟩:=(S.grow e1).getKeys hj;rw[hr]at h3;obtain⟨Ek,e3,Ft,e4⟩:=b2K h3;cases e3
 refine⟨.ref p,s1,p,es,kt,x,rfl,hH,⟨oq,z0 Ft,r1.den⟩,?_⟩;rw[<-Y4 hk];cases e4
 exact⟨_,rfl,q H1 e1⟩
end
def b2U(neg:Bool):D->D->Option D
 |y,.list ds=>if aU ds&&y.canLay0&&decide (y.depth<=450) then cz (.bool (neg !=ds.any λd=>aH d y)) else el
 |_,_=>el
def c1h(K:af)(neg:Bool):R2:=λx y H Q=>∃p ys ds d,y=.ref p/\SqX K H p ys/\DenAll K H ys ds/\Den K H x d/\aU ds=fx/\d.canLay0=fx/\d.depth<=450/\Q (.bl (neg !=ds.any λe=>aH e d)) H
def b9c:∀{l:List D} {e:D},aU l=fx->e∈l->e.canLay0=fx:=by
 intro l
 induction l with
 |nil=>intro e _ he;cases he
 |cons x l ih=>
  intro e hl he;simp only[aU,av]at hl;rcases aD.mp he with z|z
  ·rw[z];exact hl.1
  ·exact ih hl.2 z
section
variable {X:Cx}
def b0S{s:aj}:∀{ds:List D} {us:List ai} {as:List aw},jH s.heap us ds as->aU ds=fx->us.any (b5I s.heap d)=ds.any λe=>aH e d:=by
 intro ds
 induction ds with
 |nil=>intro us as r _;cases r;rfl
 |cons d0 ds ih=>
  intro us as r hl;simp only[aU,av]at hl;cases r with
  |cons r1 r2=>rw[kn,kn,ih r2 hl.2,a9u r1 hl.1]
def b9d(hu:X.A.units+464<cU):OpR X (bO .In) (c1h X.K p4):=by
 intro pins s Y H x y v u Q I rx ry h;obtain⟨p,ys,ds,d,rfl,hp,wX,hd,c1,c2,c3,q⟩:=h;cases (show u=aS p from ry)
 obtain⟨_,cP,n,xX,ho⟩:=hp.ok I;obtain⟨as,ra⟩:=DenAll.reads I ds c1 wX xX;obtain⟨bs,rb⟩:=Den.reads I d c2 hd rx;refine SeqAt.in_listAt (items:=cP.toArray) (b5I s.heap d) ⟨_,ho,rfl,n,rfl⟩ (λu sX=>?_) ⟨.bl _,H,I,rfl,?_⟩
 ·obtain⟨j,hj⟩:=bU.mp (show u∈cP by simpa using sX);obtain⟨e,Hf,he,re⟩:=a5y ra hj;have hle:=b9c c1 (bx he);rw[a9u re hle];exact SeqAt.eqAt_reads e d X.A.in1 s _ _ _ _ re rb hle c2 (by have:=Nat.min_le_right e.depth d.depth;show X.A.units+1+_<_;lia)
 ·rw[List.any_toArray,b0S ra c1];simpa using q
def b9e(ho:OpR X f (c1h X.K neg)):OpS X f (b2U neg):=by
 refine⟨_,ho,λx y H a b d Q ha hb hg q=>?_⟩;cases b with
 |list ds=>
  have nJ:(if aU ds&&a.canLay0&&decide (a.depth<=450) then cz (cY (neg !=ds.any λd=>aH d a)) else el)=cz d:=hg;by_cases c:(aU ds&&a.canLay0&&decide (a.depth<=450))=fx
  ·rw[aJ c]at nJ;cases nJ
   rw[av,av]at c;obtain⟨p,ys,rfl,k1,k2⟩:=hb.list_inv;exact⟨p,ys,ds,a,rfl,k1,k2,ha,c.1.1,c.1.2,aX c.2,q _ (by simp only[imm]) λ_=>den_bool⟩
  ·rw[aN c]at nJ;cases nJ
 |_=>cases hg
def b9f(hu:X.A.units+464<cU):OpS X (bO .In) (b2U p4):=b9e (b9d hu)
end
def frz:Md->Md
 |.own .i=>.own .i
 |.own _=>.own .f
 |m=>m
def b2V(h:SlotR K H F m o d f):SlotR K H [] (frz m) o d []:=by
 have hc:Same (cut H F) (cut H []):=λa x ha=>k6 (by simp) (i8 a x ha)
 have key:∀u:Ty,(∃v,o=cz v/\Own K H F u v d f)->SlotR K H [] (.own .f) o d []:=λu ⟨v,e,q⟩=>⟨v,e,by
  have hd:Den K H v d:=q.den;simp only[Own];exact⟨trivial,hd.up λa x ha=>k6 (by simp) ha⟩⟩
 cases m with
 |dead=>rfl
 |own u=>
  cases u with
  |i=>
   obtain⟨v,e,q⟩:=h;refine⟨v,e,?_⟩;simp only[Own]at q ⊢;exact⟨trivial,q.2.1,q.2.2.up hc⟩
  |f=>exact key _ h
  |l u=>exact key _ h
  |tp us=>exact key _ h
  |d kt u=>exact key _ h
 |exc=>obtain⟨_,h2⟩:=h.frame (H':=H) (F':=[]) hc λ_ _=>rfl;exact⟨rfl,h2⟩
 |keys kt=>obtain⟨_,h2⟩:=h.frame (H':=H) (F':=[]) hc λ_ _=>rfl;exact⟨rfl,h2⟩
 |pin v=>exact⟨rfl,h.2⟩
 |fn Φ=>obtain⟨_,h2⟩:=h.frame (H':=H) (F':=[]) hc λ_ _=>rfl;exact⟨rfl,h2⟩
theorem a4B:∀{M:List Md} {U:List D} {Y:L2.St} {G:List aw},StAll K H F M U Y G->StAll K H [] (M.map frz) U Y []
 |[],_,_,_,h=>by simp only[StAll]at h;obtain⟨rfl,rfl,_⟩:=h;exact N1
 |m::M,_,_,_,h=>by
  simp only[StAll]at h;obtain⟨d,U,o,Y,f,g,rfl,rfl,rfl,h1,h2⟩:=h;exact l9 (f:=[]) (g:=[]) (b2V h1) (a4B h2)
section
variable {X:Cx}{M ML:List Md}{u:Ty}{e:Expr}{f:EvE}{pos:eA}
def StR.free(S:StR K M U Y H P F)(hM:M.map frz=M):StR K M U Y H P []:=by
 obtain⟨G,h1,_,_⟩:=S.all;have:=a4B h1;rw[hM]at this;exact⟨⟨[],this,bg,λa ha=>(nomatch ha)⟩,λa ha=>(nomatch ha),S.prot.trans λa x ha=>k6 (by simp) (i8 a x ha)⟩
end
end VS
namespace PySem
def Heap.RawDict(hp:bL)(d:aw)(rows:Array eQ)(ep:Nat):Prop:=∃u,hp.get? d=cz u/\u.ExactDict/\u.data=.dict rows ep
section
variable {prog:br}{w:bK}{A:bB}{E:ai->aj->Prop}{sh:aj}{d it:aw}{rows:Array eQ}{ep i:Nat}
def Heap.RawDict.at{h h':bL}(x:h.RawDict d rows ep)(e:∀o,h.get? d=cz o->h'.get? d=cz o):h'.RawDict d rows ep:=let⟨u,hu,r⟩:=x;⟨u,e _ hu,r⟩
def Heap.RawDict.typeIs(x:sh.heap.RawDict d rows ep):sh.TypeIs (.ref d) "dict":=let⟨u,hu,r,_⟩:=x;⟨u,hu,r.1⟩
def b2W(h0:(d==cS)=p4)(hm:sh.heap.RawDict d rows ep)
  (q:Q (.ref sh.heap.objs.size) {sh with heap:=sh.heap.push {cls:=.type "dict_keyiterator",data:=.fields #[.ref d,.int 0 0,.int rows.size 0,.int ep 0]}}) :
  az (aO prog w) A (pF (.ref d)) Q E sh:=by
 obtain⟨u,hu,hx,kO⟩:=id hm;refine qw hm.typeIs sL (bF sL hm.typeIs F.entry_dict_iter ?_ (F.args_dict_iter_1 _));unfold Builtin.«dict.__iter__»;refine ae ?_;unfold Builtin.Dict.dictSlotNone;refine ae (fL hm.typeIs ?_);show az _ _ (pure (aS d)) _ _ sh;refine ag ?_;show az _ _ (jo d >>= _) _ _ sh;unfold jo;rw[aN (by rw[h0];exact bc)];refine ae (ag (ae (cD hu kO (ae (jS hu kO ?_)))));refine ae (dg (ag ⟨_,rfl,"dict_keyiterator",_,⟨_,aF _ rfl,rfl⟩,eV.lookup,?_⟩));simpa[c_]using q
def b2X(hI:sh.heap.IsKeyIter it d i rows.size ep)(hm:sh.heap.RawDict d rows ep)(hi:i<rows.size)
  (q:∀h',h'.IsKeyIter it d (i+1) rows.size ep->cB it sh.heap h'->Q (cz rows[i].key) {sh with heap:=h'}):az (aO prog w) A (fJ (.ref it)) Q E sh:=by
 obtain⟨x,hx,rX,ml⟩:=id hI;obtain⟨u,hu,_,o_⟩:=id hm;unfold fJ;refine ae (fu (bM (name:=cm "__next__") hI.typeIs eV (bF eV hI.typeIs tP ?_ (sM _))));refine ae (ag (ae (ae ?_)))
 first|refine ae (gq hI.typeIs (ag ?_))|refine ae (iz hI.typeIs (ag ?_))
 refine ae (iV hx ml ?_);simp only[show uO "dict_keyiterator"=p4 from by decide,cV,fQ];show az _ _ (if (aS d==bZ)=fx then _ else _) _ _ sh;rw[aN (show ¬ (aS d==bZ)=fx from bc)];refine ae (ag (ae (cD hu o_ ?_)));rw[aN (by simp)];refine ae (ag (ae (jS hu o_ ?_)));rw[aN (by simp)];refine ag ?_;simp only[show ¬ (i:Int)<0 from by lia,fQ,bI,bP hi];refine ae ?_
 first|refine ae (gq hI.typeIs (ag ?_))|refine ae (iz hI.typeIs (ag ?_))
 refine ae (Hw hI.typeIs ?_);show az _ _ (setField (.ref it) 1 (c_ ((i:Int)+1)) >>= _) _ _ sh;refine ae (eE hx ml (by simp) ?_);have tE:(sh.heap.update it (AL (·.setIfInBounds 1 (c_ ((i:Int)+1))))).IsKeyIter it d (i+1) rows.size ep:=
  ⟨_,bR _ hx (ng (gC ml _)),(ro ..).trans rX,by rw[gC ml];simp[c_]⟩
 refine ae (bJ ?_);refine ae (Hw (s:={sh with heap:=sh.heap.update it (AL (·.setIfInBounds 1 (c_ ((i:Int)+1))))}) tE.typeIs ?_);show az _ _ (pure rows[i].key) _ _ _;exact ag (ag ⟨_,rfl,ag (q _ tE (bQ ..))⟩)
def b2Y(hh:A.handled=el)(hI:sh.heap.IsKeyIter it d i rows.size ep)(hm:sh.heap.RawDict d rows ep)(hi:rows.size<=i)
  (q:∀h',tO it sh.heap h'->Q el {sh with heap:=h'}):az (aO prog w) A (fJ (.ref it)) Q E sh:=by
 obtain⟨x,hx,rX,ml⟩:=id hI;obtain⟨u,hu,_,o_⟩:=id hm;unfold fJ;refine ae (fu (bM (name:=cm "__next__") hI.typeIs eV (bF eV hI.typeIs tP ?_ (sM _))));refine ae (ag (ae (ae ?_)))
 first|refine ae (gq hI.typeIs (ag ?_))|refine ae (iz hI.typeIs (ag ?_))
 refine ae (iV hx ml ?_);simp only[show uO "dict_keyiterator"=p4 from by decide,cV,fQ];show az _ _ (if (aS d==bZ)=fx then _ else _) _ _ sh;rw[aN (show ¬ (aS d==bZ)=fx from bc)];refine ae (ag (ae (cD hu o_ ?_)));rw[aN (by simp)];refine ae (ag (ae (jS hu o_ ?_)));rw[aN (by simp)];refine ag ?_;simp only[show ¬ (i:Int)<0 from by lia,fQ,bI,eM hi];refine ae ?_
 first|refine ae (gq hI.typeIs (ag ?_))|refine ae (iz hI.typeIs (ag ?_))
 show az _ _ (setField (.ref it) 0 .none >>= _) _ _ sh;refine ae (eE hx ml (by simp) ?_);show az _ _ (Ec (.type "StopIteration") [] >>= _) _ _ _;refine ae ?_;simp only[Ec,newTuple];refine ae (dg ?_ (by size_fits));refine ae (m:=iW _ _) (sO (a:=bZ) (by first|rfl|(simp only[iW];rfl)) ?_);refine dg ?_ (by size_fits);simp only[raiseNew];refine ae (yM ?_);rw[show A.in1.handled=el from hh];refine ae (ag (wpAny_throw ?_));refine ae (fB (b:=fx) (T:="StopIteration") ⟨_,aF _ rfl,rfl⟩ vZ ?_);exact ag (q _ (((bQ ..).extBut.push _).push _))
def b0T(hh:A.handled=el)(ik:d≠it):Walks prog w A it [it,d] [it] rows.size (λi v=>∃e,rows[i]?=cz e/\v=e.key) (λi h=>h.IsKeyIter it d i rows.size ep/\h.RawDict d rows ep) where
 sub:=λb hb=>aD.mpr (.inl (aq.mp hb))
 frame:=λ_ _ _ st hk=>⟨st.1.at λo e=>hk it ar o e,st.2.at λo e=>hk d (au _ ar) o e⟩
 item:=λi s Q E hi st q=>b2X st.1 st.2 hi λh' hI hs=>q _ h' s.toks ⟨rows[i],bP hi,rfl⟩ ⟨hI,st.2.at λo e=>hs.extBut d o ik e⟩ λb o hb e=>hs.extBut b o (λz=>hb (by rw[z];exact aq.mpr rfl)) e
 done:=λs Q E st q=>b2Y hh st.1 st.2 (aG _) λh' he=>q h' s.toks λb o hb e=>he b o (λz=>hb (by rw[z];exact aq.mpr rfl)) e
 self:=λ_ _ _ _ st q=>wpAny_pyIter_keyiter st.1 q
def b5Q(h0:(d==cS)=p4):W.KdlSrc prog w "dict" d d rows.size (λi v=>∃e,rows[i]?=cz e/\v=e.key) (λh=>h.RawDict d rows ep) where
 type:=λ_ hm=>hm.typeIs
 there:=λh hm=>let⟨_,hu,_⟩:=hm;⟨aB hu,aB hu⟩
 keep:=λ_ _ hm hk=>hm.at λo e=>hk d (.inl rfl) o e
 notList:=by decide
 notTuple:=by decide
 hint:=λ_ _ s _ hm q=>W.kdl_hint_dict (Heap.RawDict.typeIs (sh:=s) hm) q
 iter:=λ_ _ hh hm=>⟨_,_,(λ_ _ q=>b2W h0 hm q),b0T hh (let⟨_,hu,_⟩:=hm;a_ (aB hu)),⟨⟨_,aF _ rfl,rfl,rfl⟩,hm.at λ_ e=>ah _ e⟩⟩
end
end PySem
namespace VS
open PySem.Spec L2
open PyProof.Rows (KeyOrd keyKind' keyLt')
section
variable {prog:br}{w:bK}{A:bB}{E:ai->aj->Prop}{sh:aj}{vs:List ai}{κ:rH}{O:KeyOrd}{key:Nat->O.α}
def Kept(h h':bL):Prop:=∀b o,h.get? b=cz o->h'.get? b=cz o
theorem Kept.push(x:Kept h h')(o:fm):Kept h (h'.push o):=λb u e=>ah _ (x b u e)
structure Sortable (prog:br) (w:bK) (A:bB) (h0:bL) (ks:List ai) (κ:rH) (O:KeyOrd) (key:Nat->O.α):Prop where
 kind:2<=ks.length->∀(s:aj) (E:ai->aj->Prop) (Q:rH->aj->Prop),Kept h0 s.heap->Q κ s->az (aO prog w) A (keyKind' ks.toArray) Q E s
 lt:∀(s:aj) (i j:Nat) (C:Bool->aj->Prop),Kept h0 s.heap->i<ks.length->j<ks.length->C (O.blt (key i) (key j)) s->az (aO prog w) A (keyLt' κ (ks.getD i bZ) (ks.getD j bZ)) C (λ_ _=>False) s
end
end VS
namespace VS
open PySem.Spec L2
def X1:∀{ns:List Int} {xs:List V},DenAll K H xs (ns.map .int)->xs=ns.map V.int:=by
 intro ns
 induction ns with
 |nil=>intro xs h;exact h.nil_inv
 |cons n ns ih=>
  intro xs h;obtain⟨v,r,rfl,h1,h2⟩:=h.cons_inv;rw[h1.int_inv,ih h2];rfl
section
variable {X:Cx}{pins:List (aw×fm)}{Y:L2.St}{H:Hp}{s:aj}
def a3U:∀{l:List α} {p:List Nat},p.Perm (aV l.length)->(p.map λi=>l.getD i d).Perm l:=by
 intro l p h;refine (h.map _).trans (List.Perm.of_eq ?_);refine nZ λi=>?_
 rw[aY];by_cases c:i<l.length
 ·rw[jm c,Iy,ay c,aW,ay c];rfl
 ·rw[eh (by simpa using c),eh (by simpa using c)];rfl
end
section
variable {X:Cx}{M:List Md}{a:Expr}{fa:EvE}{ca:Cat}{pos p:eA}
theorem a1R:∀{kvs:List (D×D)} {es:List (D×V×V)},DenKV K H es kvs->DenAll K H (es.map (·.2.1)) (kvs.map (·.1))
 |[],es,h=>by
  simp only[DenKV]at h;subst h;exact denAll_nil
 | (k,d)::r,es,h=>by
  simp only[DenKV]at h;obtain⟨e,q,rfl,h2,h3,h4,h5⟩:=h;exact denAll_cons h3 (a1R h5)
end
end VS
namespace VS
open PySem.Spec L2
section
variable {K:af}{H:Hp}{F:List aw}{kt:Bool}{u:Ty}
def R0(ot:a∈F)(o:HO):Same (cut H F) (cut (upd H a o) F):=λb o' hb=>by
 obtain⟨n1,n2⟩:=o9 hb;exact k6 n1 (by rw[f8 (show b≠a from λz=>n1 (z▸ot))];exact n2)
def b2Z(o:Own K H F (.d kt u) (.ref a) (.dict kvs) f)(sr:∀b∈f,b∈F)(ja:(fv++f).Nodup)(hk:keyOk kt k)(wL:Den K (cut H F) kv k)(ov:Own K H F u v d fv) :
  ∃es,H a=cz (c9 a es)/\(∀e∈es,keyOk kt e.1/\Den K (cut H F) e.2.1 e.1)/\es.length=kvs.length/\a∈f/\∃f',Own K (upd H a (c9 a (Q9 es k kv v))) F (.d kt u) (.ref a) (.dict (v8 kvs k d)) f'/\∀b,f'.count b<=f.count b+fv.count b:=by
 obtain⟨a',es,ds,fs,ea,r2,r3,rfl,r5,r6,hl,hn⟩:=o.dict;cases ea
 injection r3 with r3
 subst r3;have ot:a∈F:=sr a ar;have fO:∀o,Same (cut H F) (cut (upd H a o) F):=R0 ot;have cnt:fs.count a=0/\fv.count a=0:=by
  have:=cJ.mp ja a;simp only[bp,gO]at this;exact⟨by lia,by lia⟩
 have kk:∀(l:List aw) (o:HO),l.count a=0->∀b∈l,upd H a o b=H b:=λl o hc b hb=>f8 λz=>by
  subst z;rw[dN]at hc;exact hc hb
 have iM:∀e∈es,aH e.1 k=fx↔e.1=k:=λe he=>B6 e.1 k (r5 e he).1.1 hk.1
 have hlen:es.length=((es.map (·.1)).zip ds).length:=by rw[d_,ao,hl,kZ]
 refine⟨es,r2,r5,hlen,ar,?_⟩;have fin:∀(fC:List (D×V×V)) (iN:List D) (kD:List aw),(fC.map (·.1)).Nodup->(∀e∈fC,keyOk kt e.1/\Den K (cut H F) e.2.1 e.1)->ListAll (Own K (upd H a (c9 a fC)) F u) (fC.map (·.2.2)) iN kD->(∀b,kD.count b<=fs.count b+fv.count b)->
   ∃f',Own K (upd H a (c9 a fC)) F (.d kt u) (.ref a) (.dict ((fC.map (·.1)).zip iN)) f'/\∀b,f'.count b<=(a::fs).count b+fv.count b:=λfC iN kD se rC ha oJ=>by
  refine⟨a::kD,?_,λb=>?_⟩
  ·simp only[Own];exact⟨a,fC,iN,kD,rfl,i7,rfl,rfl,⟨se,λe he=>⟨(rC e he).1,(rC e he).2.up (fO _)⟩⟩,ha⟩
  ·have:=oJ b;simp only[dt];lia
 cases hf:u9 es k with
 |false=>
  rw[a2Q hf,a4w (by rw[B9 hl];exact hf),<-X0 (kv:=kv) (v:=v) hl];refine fin (es++[(k,kv,v)]) (ds++[d]) (fs++fv) ?_ ?_ ?_ λb=>by rw[bp];exact aG _
  ·rw[aZ,bo];refine⟨hn,by simp,λx hx y hy e=>?_⟩;simp only[aA,de,aq]at hy;subst hy;subst e;obtain⟨e,he,rfl⟩:=aR.mp hx;unfold u9 at hf;rw[cA]at hf;exact hf e he ((iM e he).mpr rfl)
  ·intro e he;rcases aC.mp he with z|z
   ·exact r5 e z
   ·rw[aq.mp z];exact⟨hk,wL⟩
  ·rw[aZ];refine (n6 (fO _) r6 (kk _ _ cnt.1)).append ?_;have:=m7 (R:=Own K (upd H a (c9 a (es++[(k,kv,v)]))) F u) (ov.frame (fO _) u (kk _ _ cnt.2)) n5
   rwa[bH]at this
 |true=>
  have hh:=hf;unfold u9 at hf;rw[dA]at hf;obtain⟨e,he,f_⟩:=hf;have qN:=(iM e he).mp f_;obtain⟨j,hj⟩:=bU.mp he;have uZ:j<ds.length:=by rw[hl];exact (aP.mp hj).1
  have oB:Q9 es k kv v=es.map λe=>if aH e.1 k then (e.1,e.2.1,v) else e:=by unfold Q9;rw[hh];rfl
  have nI:v8 ((es.map (·.1)).zip ds) k d=(es.map (·.1)).zip (ds.set j d):=by
   unfold v8;rw[B9 hl,hh];exact P3 (v:=v) hl iM hn hj qN
  have lV:(Q9 es k kv v).map (·.1)=es.map (·.1):=by rw[oB];exact a2R
  rw[nI,<-lV];obtain⟨w3,f3,a1,a2,s1,s2,qZ,s4⟩:=r6.zip (ay uZ);have qE:(Q9 es k kv v).map (·.2.2)=(es.map (·.2.2)).set j v:=by
   rw[oB];exact a2T hn iM hj qN
  refine fin (Q9 es k kv v) (ds.set j d) (a1++(fv++a2)) (by rw[lV];exact hn) ?_ ?_ λb=>by rw[qZ];simp only[bp];lia
  ·intro e' lF;rw[oB]at lF;obtain⟨e0,wV,rfl⟩:=aR.mp lF
   split
   ·exact r5 e0 wV
   ·exact r5 e0 wV
  ·rw[qE];have c5:(a1++a2).count a=0:=by have:=cnt.1;rw[qZ]at this;simp only[bp]at this ⊢;lia
   exact s4 _ F v d fv (kk _ _ c5) (fO _) (ov.frame (fO _) u (kk _ _ cnt.2))
def StR.dval(S:StR K M U Y H P F)(hm:M[i]?=cz (.own (.d kt u)))(hk:keyOk kt k) :
  ∃a0 es ds,Y[i]?=cz (cz (.ref a0))/\H a0=cz (c9 a0 es)/\U.getD i .none=.dict ((es.map (·.1)).zip ds)/\ds.length=es.length/\(∀e∈es,keyOk kt e.1/\Den K (cut H F) e.2.1 e.1)/\(es.map (·.1)).Nodup/\
   ∀e∈es,e.1=k->∃d f,I9 ((es.map (·.1)).zip ds) k=cz d/\Own K H F u e.2.2 d f/\f.Nodup/\(∀b∈f,b∈F)/\
    ∀(H':Hp) (a:aw) (o':MuO) (d':D) (f':List aw),Same H H'->a∈f->Own K (upd H' a o'.1) F u e.2.2 d' f'->(∀b,f'.count b<=f.count b)->StR K M (U.set i (.dict (v8 ((es.map (·.1)).zip ds) k d'))) Y (upd H' a o'.1) P F:=by
 obtain⟨G,h1,h2,h3⟩:=S.all;obtain⟨dd,oo,f,pre,post,q1,q2,⟨v2,rfl,q3⟩,rfl,q5⟩:=h1.at_ hm;obtain⟨a0,es,ds,fs,rfl,r2,r3,rfl,r5,r6,hl,hn⟩:=q3.dict;refine⟨a0,es,ds,q2,r2,by rw[y9 q1];exact r3,hl,r5,hn,λe he f_=>?_⟩;have iM:∀e∈es,aH e.1 k=fx↔e.1=k:=λe he=>B6 e.1 k (r5 e he).1.1 hk.1
 obtain⟨j,hj⟩:=bU.mp he;have uZ:j<ds.length:=by rw[hl];exact (aP.mp hj).1
 obtain⟨w3,f3,a1,a2,s1,s2,qZ,s4⟩:=r6.zip (ay uZ);have hw:w3=e.2.2:=by rw[aY,hj]at s1;exact (aK s1).symm
 subst hw;have cnt:∀b,b∈f3->(pre++post).count b=0/\b≠a0/\(a1++a2).count b=0/\f3.count b=1:=λb hb=>by
  have z:=cJ.mp h2 b;have z2:=dm.mpr hb;rw[qZ]at z;simp only[bp,bA,dt]at z ⊢;refine⟨by lia,λe=>?_,by lia,by lia⟩;subst e;simp only[eS,jr]at z;lia
 have sr:∀b∈f3,b∈F:=λb hb=>h3 b (by rw[qZ];simp[hb])
 refine⟨ds[j],f3,a2S hl iM hn hj f_ (ay uZ),s2,?_,sr,λH' a o' d' f' gr ha o hc=>?_⟩
 ·refine cJ.mpr λb=>?_
  by_cases c:b∈f3
  ·rw[(cnt b c).2.2.2];exact aG _
  ·rw[dN.mpr c];exact cI _
 ·obtain⟨c1,c2,c3,c4⟩:=cnt a ha;have ot:=sr a ha;have fO:Same (cut H F) (cut (upd H' a o'.1) F):=(D4 gr).trans (R0 ot _);have kk:∀(l:List aw),l.count a=0->(∀b∈l,b∈F)->∀b∈l,upd H' a o'.1 b=H b:=λl hc zP b hb=>by
   rw[f8 λz=>?_]
   ·exact S.toE.keep gr b (zP b hb)
   ·subst z;rw[dN]at hc;exact hc hb
  have nI:v8 ((es.map (·.1)).zip ds) k d'=(es.map (·.1)).zip (ds.set j d'):=by
   unfold v8;rw[B9 hl,show u9 es k=fx from dA.mpr ⟨e,he,(iM e he).mpr f_⟩];exact P3 (v:=V.non) hl iM hn hj f_
  have ub:(es.map (·.2.2)).set j e.2.2=es.map (·.2.2):=set_same (by rw[aY,hj];rfl);have o1:Own K (upd H' a o'.1) F (.d kt u) (.ref a0) (.dict ((es.map (·.1)).zip (ds.set j d'))) (a0::(a1++(f'++a2))):=by
   simp only[Own];refine⟨a0,es,ds.set j d',_,rfl,by rw[f8 (dy c2)];exact gr _ _ r2,rfl,rfl,⟨hn,λe he=>⟨(r5 e he).1,(r5 e he).2.up fO⟩⟩,?_⟩;have:=s4 (upd H' a o'.1) F e.2.2 d' f' (kk _ c3 λb hb=>h3 b (by rw[qZ];rcases aC.mp hb with z|z<;>simp[z])) fO o;rw[ub]at this;exact this
  have q:=q5 (upd H' a o'.1) F (.own (.d kt u)) (.dict ((es.map (·.1)).zip (ds.set j d'))) (cz (.ref a0)) _ (kk _ c1 λb hb=>h3 b (mem_mid hb)) fO ⟨_,rfl,o1⟩;rw[set_same (l:=Y) q2,set_same (l:=M) hm]at q;rw[nI];refine⟨⟨_,q,Q8 h2 λb=>?_,λb hb=>?_⟩,λb hb=>?_,S.prot.trans fO⟩
  ·have:=hc b;rw[qZ];simp only[bp,bA,dt];lia
  ·have hp:0<(pre++(a0::fs++post)).count b:=by
    have h0:=dm.mpr hb;have:=hc b;rw[qZ];simp only[bp,bA,dt]at h0 ⊢;lia
   exact h3 b (dm.mp hp)
  ·by_cases e:b=a
   ·subst e;exact⟨o',i7⟩
   ·obtain⟨ys,y⟩:=S.lst b hb;exact⟨ys,by rw[f8 e];exact gr _ _ y⟩
def Pend.dnew(h:Pend K ([]++[.own u]) ([]++[d]) ([]++[cz v]) M U Y H P F)(hm:M[i]?=cz (.own (.d kt u)))(hk:keyOk kt k)(zR:Den K H kv k) :
  ∃a0 es ds fv,Y[i]?=cz (cz (.ref a0))/\H a0=cz (c9 a0 es)/\U.getD i .none=.dict ((es.map (·.1)).zip ds)/\ds.length=es.length/\(∀e∈es,keyOk kt e.1/\Den K (cut H F) e.2.1 e.1)/\(es.map (·.1)).Nodup/\Own K H F u v d fv/\fv.Nodup/\(∀b∈fv,b∈F/\b≠a0)/\
   (u9 es k=p4->∀(H':Hp) (a:aw) (o':MuO) (d':D) (f':List aw),Same (upd H a0 (c9 a0 (es++[(k,kv,v)]))) H'->a∈fv->Own K (upd H' a o'.1) F u v d' f'->(∀b,f'.count b<=fv.count b)->
    StR K M (U.set i (.dict ((es.map (·.1)).zip ds++[(k,d')]))) Y (upd H' a o'.1) P F):=by
 obtain⟨_,_,S⟩:=h;obtain⟨G,h1,h2,h3⟩:=S.all;have lZ:StAll K H F (.own u::M) (d::U) (cz v::Y) G:=by simpa using h1
 simp only[StAll]at lZ;obtain⟨d0,U',HD,Y',fv,G2,e1,e2,rfl,⟨v',e3,ov⟩,h5⟩:=lZ;cases e1
 cases e2
 cases e3
 obtain⟨dd,oo,f,pre,post,q1,q2,⟨v2,rfl,q3⟩,rfl,q5⟩:=h5.at_ hm;obtain⟨a0,es,ds,fs,rfl,r2,r3,rfl,r5,r6,hl,hn⟩:=q3.dict;have Al:a0∈F:=h3 a0 (by simp);have wL:Den K (cut H F) kv k:=zR.imm_out S.lst k (W2 _ hk.1);have iM:∀e∈es,aH e.1 k=fx↔e.1=k:=λe he=>B6 e.1 k (r5 e he).1.1 hk.1
 have cnt:∀b,b∈fv->(pre++post).count b=0/\b≠a0/\fs.count b=0/\fv.count b=1:=λb hb=>by
  have z:=cJ.mp h2 b;have z2:=dm.mpr hb;simp only[bp,bA,dt]at z ⊢;refine⟨by lia,λe=>?_,by lia,by lia⟩;subst e;simp only[eS,jr]at z;lia
 have xK:(pre++post).count a0=0/\fs.count a0=0:=by
  have z:=cJ.mp h2 a0;simp only[bp,bA,gO]at z ⊢;exact⟨by lia,by lia⟩
 refine⟨a0,es,ds,fv,q2,r2,by rw[y9 q1];exact r3,hl,r5,hn,ov,?_,λb hb=>⟨h3 b (by simp[hb]),(cnt b hb).2.1⟩,λhf H' a o' d' f' gr ha o hc=>?_⟩
 ·refine cJ.mpr λb=>?_
  by_cases c:b∈fv
  ·rw[(cnt b c).2.2.2];exact aG _
  ·rw[dN.mpr c];exact cI _
 ·obtain⟨c1,c2,c3,c4⟩:=cnt a ha;have ot:a∈F:=h3 a (by simp[ha]);have fO:Same (cut H F) (cut (upd H' a o'.1) F):=((R0 Al _).trans (D4 gr)).trans (R0 ot _);have kk:∀(l:List aw),l.count a=0->l.count a0=0->(∀b∈l,b∈F)->∀b∈l,upd H' a o'.1 b=H b:=λl hc yq zP b hb=>by
   have n1:b≠a:=λz=>by subst z;rw[dN]at hc;exact hc hb
   have n0:b≠a0:=λz=>by subst z;rw[dN]at yq;exact yq hb
   rw[f8 n1];obtain⟨ys,q⟩:=S.lst b (zP b hb);rw[q];exact gr _ _ (by rw[f8 n0];exact q)
  have yj:upd H' a o'.1 a0=cz (c9 a0 (es++[(k,kv,v)])):=by rw[f8 (dy c2)];exact gr _ _ i7
  have o1:Own K (upd H' a o'.1) F (.d kt u) (.ref a0) (.dict (((es++[(k,kv,v)]).map (·.1)).zip (ds++[d']))) (a0::(fs++f')):=by
   simp only[Own];refine⟨a0,es++[(k,kv,v)],ds++[d'],_,rfl,yj,rfl,rfl,⟨?_,λe he=>?_⟩,?_⟩
   ·rw[aZ,bo];refine⟨hn,by simp,λx hx y hy e=>?_⟩;simp only[aA,de,aq]at hy;subst hy;subst e;obtain⟨e,he,rfl⟩:=aR.mp hx;unfold u9 at hf;rw[cA]at hf;exact hf e he ((iM e he).mpr rfl)
   ·rcases aC.mp he with z|z
    ·exact⟨(r5 e z).1,(r5 e z).2.up fO⟩
    ·rw[aq.mp z];exact⟨hk,wL.up fO⟩
   ·rw[aZ];refine (n6 fO r6 (kk _ c3 xK.2 λb hb=>h3 b (by simp[hb]))).append ?_;have:=m7 (R:=Own K (upd H' a o'.1) F u) o n5
    rwa[bH]at this
  rw[X0 (kv:=kv) (v:=v) hl]at o1;have q:=q5 (upd H' a o'.1) F (.own (.d kt u)) (.dict ((es.map (·.1)).zip ds++[(k,d')])) (cz (.ref a0)) _ (kk _ c1 xK.1 λb hb=>h3 b (ax _ (mem_mid hb))) fO ⟨_,rfl,o1⟩;rw[set_same (l:=Y) q2,set_same (l:=M) hm]at q;refine⟨⟨_,q,Q8 h2 λb=>?_,λb hb=>?_⟩,λb hb=>?_,S.prot.trans fO⟩
  ·have:=hc b;simp only[bp,bA,dt];lia
  ·have hp:0<(fv++(pre++(a0::fs++post))).count b:=by
    have h0:=dm.mpr hb;have:=hc b;simp only[bp,bA,dt]at h0 ⊢;lia
   exact h3 b (dm.mp hp)
  ·by_cases e:b=a
   ·subst e;exact⟨o',i7⟩
   ·by_cases e0:b=a0
    ·subst e0;exact⟨⟨c9 b (es++[(k,kv,v)]),trivial⟩,yj⟩
    ·obtain⟨ys,y⟩:=S.lst b hb;exact⟨ys,by rw[f8 e];exact gr _ _ (by rw[f8 e0];exact y)⟩
def StR.ded(S:StR K M U Y H P F)(hm:M[y]?=cz .dead)(v:Option V):StR K M U (Y.set y v) H P F:=by
 obtain⟨G,h1,h2,h3⟩:=S.all;obtain⟨dd,oo,f,pre,post,q1,q2,q3,rfl,q5⟩:=h1.at_ hm;have q:=q5 H F .dead dd v f (λ_ _=>rfl) (Same.refl _) q3;rw[set_same (l:=M) hm,set_same (l:=U) q1]at q;exact⟨⟨_,q,h2,h3⟩,S.lst,S.prot⟩
end
def b3a(h:H a=cz o):upd H a o=H:=funext λb=>by
 by_cases c:b=a
 ·rw[c,i7,h]
 ·rw[f8 c]
def a4C(hk:C6 k=fx)(h:y8 kvs k=p4):I9 (kvs++[(k,d)]) k=cz d:=by
 unfold I9;unfold y8 at h;rw[cA]at h;rw[List.find?_append,gd.mpr λp hp=>by simpa using h p hp];simp[(B6 k k hk hk).mpr rfl]
def a8j(hk:C6 k=fx)(h:y8 kvs k=p4):v8 (kvs++[(k,d)]) k d'=kvs++[(k,d')]:=by
 have hh:y8 (kvs++[(k,d)]) k=fx:=a6y (a4C hk h);unfold y8 at h;rw[cA]at h;unfold v8;rw[hh,aJ rfl,aZ]
 congr 1
 ·have:∀p∈kvs,(if aH p.1 k then (p.1,d') else p)=p:=λp hp=>aN (h p hp)
  rw[cM this,jz]
 ·simp[(B6 k k hk hk).mpr rfl]
section
variable {K:af}{H:Hp}{F:List aw}
def StR.relist(S:StR K M U Y H P F)(hm:M[i]?=cz (.own (.l .i)))(hs:Y[i]?=cz (cz (.ref b)))(hr:U.getD i .none=.list ds)(hd:DenAll K (cut H F) zs es)(hi:g9 es=fx) :
  StR K M (U.set i (.list es)) Y (upd H b (.lst zs)) P F:=by
 obtain⟨G,h1,h2,h3⟩:=S.all;obtain⟨dd,oo,f,pre,post,q1,q2,⟨v2,rfl,q3⟩,rfl,q5⟩:=h1.at_ hm;rw[hs]at q2;cases q2
 rw[y9 q1]at hr;subst hr;simp only[Own]at q3;rcases q3 with⟨_,hx,_⟩|⟨a,xs,iN,fs,ea,hH,_,rfl,hL⟩
 ·simp only[imm]at hx;cases hx
 cases ea
 have xi:b∈F:=h3 b (by simp);have cnt:(pre++post).count b=0:=by
  have z:=cJ.mp h2 b;simp only[bp,bA,gO]at z ⊢;lia
 have fO:Same (cut H F) (cut (upd H b (.lst zs)) F):=R0 xi _;have o1:Own K (upd H b (.lst zs)) F (.l .i) (.ref b) (.list es) [b]:=by
  simp only[Own];refine .inr ⟨b,zs,es,[],rfl,i7,rfl,rfl,ListAll.of_den (hd.up fO) λv d hx q=>?_⟩;simp only[Own];exact⟨trivial,E5 hi hx,q⟩
 have q:=q5 (upd H b (.lst zs)) F (.own (.l .i)) (.list es) (cz (.ref b)) [b] (λc hc=>f8 λz=>by subst z;rw[dN]at cnt;exact cnt hc) fO ⟨_,rfl,o1⟩;rw[set_same (l:=Y) hs,set_same (l:=M) hm]at q;refine⟨⟨_,q,Q8 h2 λc=>?_,λc hc=>h3 c ?_⟩,λc hc=>?_,S.prot.trans fO⟩
 ·simp only[bp,bA,dt,cj,List.count_nil];lia
 ·simp only[aC,aD,bA,cO,or_false]at hc ⊢;rcases hc with z|z|z
  ·exact .inl z
  ·exact .inr (.inl z)
  ·exact .inr (.inr (.inr (by simpa using z)))
 ·by_cases e:c=b
  ·subst e;exact⟨⟨.lst zs,trivial⟩,i7⟩
  ·obtain⟨ys,y⟩:=S.lst c hc;exact⟨ys,by rw[f8 e];exact y⟩
theorem a1S:∀{ds es:List D} {xs ys:List V},DenAll K H' xs ds->DenAll K H' ys es->DenAll K H' (xs++ys) (ds++es)
 |[],es,xs,ys,h,h'=>by rw[h.nil_inv];exact h'
 |d::ds,es,xs,ys,h,h'=>by
  obtain⟨v,r,rfl,h1,h2⟩:=h.cons_inv;exact denAll_cons h1 (a1S h2 h')
theorem a2X:∀{ds:List D} {xs:List V},DenAll K H' xs ds->DenAll K H' xs.reverse ds.reverse
 |[],xs,h=>by rw[h.nil_inv];exact denAll_nil
 |d::ds,xs,h=>by
  obtain⟨v,r,rfl,h1,h2⟩:=h.cons_inv;rw[nX,nX];exact a1S (a2X h2) (denAll_cons h1 denAll_nil)
def a8k:∀{ds:List D},g9 ds=fx->g9 ds.reverse=fx:=λ{ds} h=>by
 have key:∀l:List D,(∀d∈l,imm d=fx)->g9 l=fx:=by
  intro l
  induction l with
  |nil=>intro _;simp only[g9]
  |cons d l ih=>intro hl;simp only[g9,av];exact⟨hl d ar,ih λx hx=>hl x (au _ hx)⟩
 exact key _ λd hd=>E5 h (kI.mp hd)
end
def c2H:V->List V->Hp->VK->Prop:=λx vs H Q=>∃l xs,x=.ref l/\vs=[]/\H l=cz (.lst xs)/\Q .non (upd H l (.lst xs.reverse))
def b9g(i:Nat):EvS:=λU=>match U.getD i .none with
 |.list ds=>cz (.nx (U.set i (.list ds.reverse)))
 |_=>el
section
variable {X:Cx}{u w:Ty}{ML M M1:List Md}{e e2:Expr}{f:EvX}{f2:EvE}{c2:Cat}{pos apos cH:eA}{x:bt}{px:eA}
def b9h:MtM X "list.reverse" c2H:=by
 intro pins s Y H x vs v us Q I rx rv h;obtain⟨l,xs,rfl,rfl,hH,q⟩:=h;cases rx
 have nj:=rv.zero;subst nj;obtain⟨z,cP,n,r,hl,e⟩:=I.lstM hH;refine xN rJ ⟨_,e,rfl⟩ PySem.F.entry_list_reverse (PySem.F.args_list_reverse_1 _) (PySem.AutoSeq1.list_reverse_list_0 l cP.toArray n (by rw[bC];lia)) ⟨e,?_⟩;refine⟨.non,_,I.lset (its':=cP.reverse) (ys:=xs.reverse) hH e (by simp) ?_ (by rw[yF];exact z),rfl,q⟩;have qd:xs.reverse.length=cP.reverse.length:=by simp[hl]
 refine a0F qd λi x u h1 h2=>?_
 have hi:i<xs.length:=by have:=(aP.mp h1).1;simpa using this
 rw[vn hi]at h1;rw[vn (by lia)]at h2;obtain⟨u',sX,ru⟩:=r.get h1;rw[hl,h2]at sX;cases sX
 exact ru
def b9i(i:Nat)(hm:M[i]?=cz (.own (.l .i)):=by rfl)(hN:X.N[i]?=cz x:=by rfl)(hv:autoParam (NmV X x) ZY._auto_1)(eX:dE (.Name x px) "reverse" X.env (bX (.Name x px) X.env)=bX (.Name x px) X.env:=by rfl)(eW:(apos.endLine==cH.line)=fx:=by rfl)
  (qF:fP (.Call (.Attribute (.Name x px) "reverse" apos) [] [] cH) el pos.line X.env=pure p4:=by rfl) :
  PSX X w ML M (.Expr (.Call (.Attribute (.Name x px) "reverse" apos) [] [] cH) pos) (b9g i) M:=by
 refine .mk ⟨_,a0s (b8m tK rJ PySem.F.type_list_reverse b9h (A8 hN hv.1 hv.2.1 hv.2.2) eX eW) qF,λD U Y H P F o S hg k=>?_⟩;obtain⟨v,f,Bu,ov,hf⟩:=S.toE.get hm;unfold b9g at hg;cases hU:U.getD i .none with
 |list ds=>
  rw[hU]at hg ov;cases hg
  simp only[Own]at ov;rcases ov with⟨_,hi,_⟩|⟨a,xs,iN,fs,rfl,h1,h2,rfl,h3⟩
  ·simp only[imm]at hi;cases hi
  ·cases h2
   have qQ:DenAll X.K (cut H F) xs ds:=ListAll.den (R:=λv d f=>Own X.K H F .i v d f) (λv d f q=>(W5 q).2.2) h3;have Fw:g9 ds=fx:=by
    have:∀{ds:List VS.D} {xs:List V} {fs:List aw},ListAll (Own X.K H F .i) xs ds fs->g9 ds=fx:=by
     intro ds
     induction ds with
     |nil=>intro _ _ _;simp only[g9]
     |cons d ds ih=>
      intro xs fs h;obtain⟨v,r,f,g,_,_,q1,q2⟩:=h.cons_inv;simp only[g9,av];exact⟨(W5 q1).2.1,ih q2⟩
    exact this h3
   exact⟨_,Bu,.inl ⟨rfl,xs,SqL.of h1⟩,a,xs,rfl,rfl,h1,k Y _ F (S.relist hm Bu hU (a2X qQ) (a8k Fw))⟩
 |_=>rw[hU]at hg;cases hg
end
def b3b(z:aw)(j:Int):HO:=.ext λh=>∃t u v,IsRange h z 0 j 1 t u v
section
variable {X:Cx}{M ML:List Md}{a:Expr}{fa:EvE}{ca:Cat}{w:Ty}{pos gF p p2:eA}
def a6E:CallR X (.type "range") (λxs H Q=>∃j,xs=[.int j]/\∀z,H z=el->Q (.ref z) (upd H z (b3b z j))):=by
 intro pins s Y H xs us Q I rv h;obtain⟨j,rfl,q⟩:=h;obtain⟨u,rfl,rx⟩:=vals1 rv;obtain⟨t,rfl⟩:=rx;refine call_range_1 ⟨.ref s.heap.objs.size,_,I.laid (a:=s.heap.objs.size) (o:=b3b s.heap.objs.size j) (t':=s.toks+1+1) (λ_ _ q=>ah _ q) (aG _) ?_,rfl,q _ (I.hok.fresh (aG _))⟩;exact⟨⟨_,_,_,IsRange.new ..⟩,⟨_,aF _ rfl⟩,λx1 x2 ⟨t,u,v,ho⟩ hk=>⟨t,u,v,hk _ ho⟩⟩
def a8l(hc:X.calm=fx):CallR X (.type "list") (λxs H Q=>∃p j,xs=[.ref p]/\H p=cz (b3b p j)/\-(2^62)<=j/\j<=1000000/\∀l,H l=el->Q (.ref l) (upd H l (.lst ((aV j.toNat).map λ(k:Nat)=>V.int (0+k))))):=by
 intro pins s Y H xs us Q I rv h;obtain⟨p,j,rfl,hH,h1,h2,q⟩:=h;obtain⟨u,rfl,rx⟩:=vals1 rv;cases (show u=aS p from rx)
 obtain⟨t,u,v,hr⟩:=(show ObjOk X.prog X.w H s.heap p (b3b p j) from I.hok p _ hH).1;have hn:Dj 0 j 1=j.toNat:=by rw[rangeSize_one];split<;>lia
 refine call_list_range (n:=j.toNat) (I.ok.hd hc) hr (small_one (by decide) (by decide) h1 (by lia)) hn (by lia) λh' tk acc c hk ho kP=>?_
 have hz:aQ=16777216:=cE;refine⟨.ref s.heap.objs.size,_,I.laid (t':=tk) hk (aG _) (show ObjOk X.prog X.w _ h' _ (.lst ((aV j.toNat).map λ(k:Nat)=>V.int (0+k))) from⟨by rw[ao,eB];lia,acc.toList,c,?_,by rw[gP];exact ho⟩),rfl,q _ (I.hok.fresh (aG _))⟩;refine a0F (by rw[ao,eB,cN];exact kP.1.symm) λi x u g1 g2=>?_
 rw[cg]at g2;obtain⟨t',rfl⟩:=kP.2 i u g2;rw[aY]at g1;have hi:i<j.toNat:=by have:=(Array.getElem?_eq_some_iff.mp g2).1;rw[kP.1]at this;exact this
 rw[jm hi]at g1;cases g1
 exact⟨t',by simp⟩
def a1u(a:EvE):EvE:=λU=>(a U).bind λd=>(asI d).bind λn=>if -(2^62)<=n/\n<=1000000 then cz (.list (G9 0 n.toNat)) else el
def b3c(hc:X.calm=fx)(hm:X.mg "list"=el)(Fl:X.mg "range"=el)(ha:PX X M a fa ca)(hg:Gl X "list":=by rfl)(wQ:Gl X "range":=by rfl)(he:ak [a] X.env=(p4,bX a X.env)::ak [] X.env:=by rfl)(fF:(bY gF (ak [] X.env)).any (·.1)=p4:=by rfl)
  (kr:ak [.Call (.Name "range" p2) [a] [] gF] X.env=(p4,bX (.Call (.Name "range" p2) [a] [] gF) X.env)::ak [] X.env:=by rfl) (oD:(bY pos (ak [] X.env)).any (·.1)=p4:=by rfl) :
  PX X M (.Call (.Name "list" p) [.Call (.Name "range" p2) [a] [] gF] [] pos) (a1u fa) (.new (.l .i)):=by
 obtain⟨ta,pa,qa⟩:=ha.out;refine .mk ⟨_,C5 (a8l hc) hg hm PyProof.Rows.Boot.«list» (l7 (C5 a6E wQ Fl PyProof.Rows.boot_range (l7 pa o5 he) (by decide) (by decide) he fF) o5 kr) (by decide) (by decide) kr oD,λU Y H P F d Q S hf q=>?_⟩;obtain⟨x,h1,g1⟩:=bnd hf;obtain⟨n,h2,g2⟩:=bnd g1;cases a2J h2
 by_cases c:-(2^62)<=n/\n<=1000000
 ·rw[aJ c]at g2;cases g2
  refine qa U Y H P F _ _ S h1 λv H1 e1 r1=>⟨n,by rw[r1.den.int_inv],λz hz=>⟨z,n,rfl,i7,c.1,c.2,λl hl=>?_⟩⟩
  have e2:=e1.trans (j9 hz (b3b z n));exact q _ _ (e2.trans (j9 hl _)) (N3 a4s (a0z _ _) e2 hl (S.lst' e2))
 ·rw[aN c]at g2;cases g2
end
def b9j:∀{us:List α},us.length=1->∃a,us=[a]
 |[a],_=>⟨a,rfl⟩
def b3d:∀{us:List α},us.length=2->∃a b,us=[a,b]
 |[a,b],_=>⟨a,b,rfl⟩
def b9k:∀{us:List α},us.length=3->∃a b c,us=[a,b,c]
 |[a,b,c],_=>⟨a,b,c,rfl⟩
def c1i:∀{us:List α},us.length=4->∃a b c d,us=[a,b,c,d]
 |[a,b,c,d],_=>⟨a,b,c,d,rfl⟩
def c2I:∀{us:List α},us.length=5->∃a b c d e,us=[a,b,c,d,e]
 |[a,b,c,d,e],_=>⟨a,b,c,d,e,rfl⟩
def c2J:∀{us:List α},us.length=6->∃a b c d e f,us=[a,b,c,d,e,f]
 |[a,b,c,d,e,f],_=>⟨a,b,c,d,e,f,rfl⟩
end VS
namespace VS
open PySem.Spec L2
open PyProof.Rows (KeyOrd keyKind' keyLt')
section
variable {prog:br}{w:bK}{A:bB}{E:ai->aj->Prop}{sh:aj}{vs ks:List ai}{κ:rH}{O:KeyOrd}{key:Nat->O.α}{R:bL->Prop}
structure SortableR (prog:br) (w:bK) (A:bB) (R:bL->Prop) (ks:List ai) (κ:rH) (O:KeyOrd) (key:Nat->O.α):Prop where
 kind:2<=ks.length->∀(s:aj) (E:ai->aj->Prop) (Q:rH->aj->Prop),R s.heap->Q κ s->az (aO prog w) A (keyKind' ks.toArray) Q E s
 lt:∀(s:aj) (i j:Nat) (C:Bool->aj->Prop),R s.heap->i<ks.length->j<ks.length->C (O.blt (key i) (key j)) s->az (aO prog w) A (keyLt' κ (ks.getD i bZ) (ks.getD j bZ)) C (λ_ _=>False) s
end
end VS
namespace VS
open PySem.Spec L2
section
variable {X:Cx}{M:List Md}{tg a:Expr}{fa:EvE}{ca:Cat}
def b5R{K:af}{H:Hp}{d:D}(h:Den K H .non d):b8o d=fx:=by
 cases d<;>first|rfl|(simp[Den]at h)
def a6F{K:af}{H:Hp}{es:List (D×V×V)}{kvs:List (D×D)}(h:DenKV K H es kvs):L4 es=b2j kvs:=by
 cases kvs with
 |nil=>simp only[DenKV]at h;subst h;rfl
 |cons p r=>
  obtain⟨k,d⟩:=p;simp only[DenKV]at h;obtain⟨e,q,rfl,rfl,_,h4,_⟩:=h;show (a0g e.1&&a6g e.2.2)=(a0g e.1&&b8o d)
  congr 1;cases c:a6g e.2.2 with
  |true=>
   have:e.2.2=.non:=by
    revert c;cases e.2.2<;>first|(intro _;rfl)|(intro z;cases z)
   rw[this]at h4;exact (b5R h4).symm
  |false=>
   cases d with
   |none=>
    rw[h4.none_inv]at c;cases c
   |_=>rfl
end
def a6G(F:List aw)(H H2:Hp):Hp:=λa=>if a∈F then H a else H2 a
def a0H(h:a∈F):a6G F H H2 a=H a:=aJ h
def q8(h:a∉F):a6G F H H2 a=H2 a:=aN h
def b9l(sp:Sp):Sp:=λvs H Q E=>∃F:List aw,(∀a∈F,∃ys:MuO,H a=cz ys.1)/\sp vs (cut H F) (λv H2=>(∀a∈F,H2 a=el)->Q v (a6G F H H2)) E
section
variable {P:br}{w:bK}{K:af}{mg:bt->Option ai}{base:bL}{k:Nat}{f:aw}{fd:dJ}{ps:List bt}{sp:Sp}{H:Hp}{h:bL}{F:List aw}
def a1v(hF:∀a∈F,∃ys:MuO,H a=cz ys.1)(e:H b=cz o)(n:¬ Mu o):b∉F:=λz=>by
 obtain⟨ys,hy⟩:=hF b z;rw[e]at hy;cases hy
 exact n ys.2
def b9m(h:Pin a o):¬ Mu o:=by cases o<;>first|exact λz=>z|exact λ_=>h
def b5S(hk:HOk P w H h)(hF:∀a∈F,∃ys:MuO,H a=cz ys.1):HOk P w (cut H F) h:=λa o e=>by
 obtain⟨_,e'⟩:=o9 e;exact (hk a o e').stay (λb u _ q=>q) (λb q=>k6 (a1v hF q (λz=>z)) q) λb xs q=>k6 (a1v hF q (b9m xs.2)) q
def A5(n:H a=el):cut H F a=el:=by
 by_cases q:a∈F
 ·exact W3 q
 ·rw[X9 q];exact n
def a8m(F0:FnOk P w K mg base CX0 k f fd ps sp):FnOk P w K mg base CX0 k f fd ps (b9l sp) where
 len:=λvs H Q E ⟨F,_,hs⟩=>F0.len _ _ _ _ hs
 run:=λA outer s H args us vs Q E hr he hb hv ⟨F,hF,hs⟩=>by
  have lF:Env0 P w K mg base A outer s (cut H F):=⟨he.frames,he.mod,λb o e=>⟨(he.bs b o e).1,A5 (he.bs b o e).2⟩,he.bsz,he.funs,λb hb=>A5 (he.frf b hb),b5S he.hok hF,he.bare,λx hx p e=>let⟨qs,t,e1,e2⟩:=he.tabs x hx p e;⟨qs,t,k6 (a1v hF e1 (λz=>z)) e1,e2⟩⟩;refine ff (F0.run A outer s (cut H F) args us vs _ E hr lF hb hv hs) λr s' hq=>?_
  cases r with
  |error e=>exact hq
  |ok fl=>
   cases fl with
   |ret u=>
    obtain⟨v,H2,os,bare,un,pL,rv,q⟩:=(show CE outer P w (cut H F) s _ u s' from hq);have there:∀a∈F,∃o,s.heap.get? a=cz o:=λa ha=>by
     obtain⟨⟨ys,hm⟩,hy⟩:=hF a ha;have:=he.hok a _ hy;cases ys with
     |lst xs=>obtain⟨_,cP,n,r,e⟩:=this;exact⟨_,e⟩
     |dK kvs=>obtain⟨_,_,vs,_,ob,es,ep,e,_⟩:=this;exact⟨_,e⟩
     |ext φ=>obtain⟨_,e,_⟩:=this;exact e
     |_=>exact cy hm
    have Cp:∀a∈F,H2 a=el:=λa ha=>by
     obtain⟨o,ho⟩:=there a ha;exact un.free a o ho (W3 ha) (by simp)
    have Fi:∀{b:aw},H b=el->b∉F:=λ{b} n z=>by
     obtain⟨ys,hy⟩:=hF b z;rw[n]at hy;cases hy
    refine (show CE outer P w H s Q u s' from⟨v,a6G F H H2,os,bare,?_,?_,rv,q Cp⟩)
    ·refine⟨λb o q n hb hx=>un.keep b o q (A5 n) hb hx,λb o q n hb hx=>un.slot b o q (A5 n) hb hx,λb o q n hx=>?_,un.there,λb xs q=>?_,λb o u q=>?_,λb ps q=>?_⟩
     ·rw[q8 (Fi n)];exact un.free b o q (A5 n) hx
     ·have n:=a1v hF q (λz=>z);rw[q8 n];exact un.tups b xs (k6 n q)
     ·have n:=a1v hF q (λz=>z);rw[q8 n];exact un.frzs b o u (k6 n q)
     ·have n:=a1v hF q (λz=>z);rw[q8 n];exact un.tbls b ps (k6 n q)
    ·intro a o e;by_cases ha:a∈F
     ·rw[a0H ha]at e;have hk:∀u,s.heap.get? a=cz u->s'.heap.get? a=cz u:=λu q=>un.keep a u q (W3 ha) (λz=>by rw[he.frf a z]at e;cases e) (by simp)
      obtain⟨⟨ys,hm⟩,hy⟩:=hF a ha;have ho:=he.hok a _ hy;have eo:o=ys:=aK (e.symm.trans hy);rw[eo];cases ys with
      |lst xs=>obtain⟨z,cP,n,r,e⟩:=ho;exact⟨z,cP,n,r,hk _ e⟩
      |dK kvs=>obtain⟨z,y,vs,r,ob,es,ep,e,c⟩:=ho;exact⟨z,y,vs,r,ob,es,ep,hk _ e,c⟩
      |ext φ=>obtain⟨h1,⟨ob,h2⟩,h3⟩:=ho;exact⟨h3 _ _ h1 hk,⟨ob,hk _ h2⟩,h3⟩
      |_=>exact cy hm
     ·rw[q8 ha]at e;have kN:∀{b:aw} {o:HO},H2 b=cz o->a6G F H H2 b=cz o:=λ{b} {o} q=>by
       rw[q8 (λz=>by rw[Cp b z]at q;cases q)];exact q
      exact (pL a o e).stay (λb u _ q=>q) (λb q=>kN q) λb xs q=>kN q
   |next=>exact cy hq
   |brk=>exact cy hq
   |cont=>exact cy hq
end
section
variable {X:Cx}{M:List Md}{a e0:Expr}{es:List Expr}{fa:EvE}{f:EvA}{ca:Cat}{u:Ty}{x:bt}{p pos:eA}
def b0U(W:Has X.prog X.w X.K X.mg X.base x k ps sp):Has X.prog X.w X.K X.mg X.base x k ps (b9l sp):=by
 obtain⟨f,fd,F,b⟩:=W.ex;exact⟨f,fd,a8m F,b⟩
def PAF(X:Cx)(M:List Md)(es:List Expr)(f:EvA):Prop:=
 ∃t,PA X es t/\∀(U:List D) (Y:L2.St) (H P:Hp) (F:List aw) (ds:List D) (Q:List V->Hp->Prop),StE X.K M U Y H P F->f U=cz ds->(∀vs H',Same H H'->DenAll X.K (cut H' F) vs ds->Q vs H')->t Y H Q
def C7:PAF X M [] g8:=⟨_,o5,λU Y H P F ds Q S hf q=>by cases hf;exact q [] H (Same.refl _) denAll_nil⟩
def l0(ha:PX X M a fa ca)(hr:PAF X M es fr)(hc:frozen ca:=by trivial)(hs:ak (a::es) X.env=(p4,bX a X.env)::ak es X.env:=by rfl):PAF X M (a::es) (b8 fa fr):=by
 obtain⟨ta,pa,qa⟩:=ha.out;obtain⟨tr,pr,qr⟩:=hr;refine⟨_,l7 pa pr hs,λU Y H P F ds Q S hf q=>?_⟩;obtain⟨x,h1,hf⟩:=bnd hf;obtain⟨xs,h2,hf⟩:=bnd hf;cases hf
 exact qa U Y H P F _ _ S h1 λv H1 e1 r1=>qr U Y H1 P F _ _ (S.grow e1) h2 λvs H2 e2 r2=>q (v::vs) H2 (e1.trans e2) (denAll_cons ((G8 hc r1).up (D4 e2)) r2)
def z9(W:Has X.prog X.w X.K X.mg X.base x k ps (spD X.K n m u))(hr:Room k X.A)(h:PAF X M (e0::es) f)(hl:(e0::es).length=n:=by rfl)(hfl:∀U ds,f U=cz ds->ds.length=(e0::es).length)
  (hg:Gl X x:=by rfl) (lG:(x==("__debug__":bt))=p4:=by decide) (he:ak (e0::es) X.env=(p4,bX e0 X.env)::ak es X.env:=by rfl) (fF:(bY pos (ak es X.env)).any (·.1)=p4:=by rfl) :
  PX X M (.Call (.Name x p) (e0::es) [] pos) (eCl m f) (.new u):=by
 obtain⟨t,pa,qa⟩:=h;refine .mk ⟨_,a7H (b0U W) hr pa hg lG he fF,λU Y H P F d Q S hf q=>?_⟩;obtain⟨ds,h1,hf⟩:=bnd hf;refine qa U Y H P F ds _ S h1 λvs H1 e1 r1=>?_
 show b9l (spD X.K n m u) (vs++[]) H1 Q E0;rw[bH];refine⟨F,S.lst' e1,ds,d,by rw[r1.length,hfl U ds h1,hl],r1,hf,λv H2 fp e o nd fr hz=>q v (a6G F H1 H2) ?_ ?_⟩
 ·intro b o' hb;have xj:=e1 b o' hb;by_cases c:b∈F
  ·rw[a0H c];exact xj
  ·rw[q8 c];exact e b o' (k6 c xj)
 ·have sr:∀a∈fp,a∉F:=λa ha z=>by
   obtain⟨ys,hy⟩:=o.lst u a ha;rw[hz a z]at hy;cases hy
  refine⟨fp,Own.frame (λb o' hb=>?_) u o (λa ha=>q8 (sr a ha)),nd,λa ha=>?_⟩
  ·obtain⟨n1,n2⟩:=o9 hb;have n3:b∉F:=λz=>by rw[hz b z]at n2;cases n2
   exact k6 (λz=>(aC.mp z).elim n1 n3) (by rw[q8 n3];exact n2)
  ·have:=fr a ha;rw[X9 (sr a ha)]at this;exact e1.free this
end
def Junk(H:Hp)(C:List aw):Prop:=∀a∈C,∀u,H a=cz u->∃o,u=.frz o (.own a)
section
variable {K:af}{H H':Hp}{C F:List aw}
theorem Junk.cut(h:Junk H C):Junk (cut H F) C:=λa ha u e=>h a ha u (o9 e).2
def Junk.out(h:Junk H C)(e:H a=cz u)(n:∀o,u≠.frz o (.own a)):a∉C:=λz=>by
 obtain⟨o,q⟩:=h a z u e;exact n o q
def b3e(h:Junk H C)(q:SqX K H a xs):SqX K (VS.cut H C) a xs:=by
 rcases q with (q|⟨o,q⟩)|q
 ·exact .inl (.inl (k6 (h.out q λo z=>(nomatch z)) q))
 ·exact .inl (.inr ⟨o,k6 (h.out q λo z=>by cases z) q⟩)
 ·exact .inr q
def b3f(h:Junk H C)(q:SqT K H a xs):SqT K (VS.cut H C) a xs:=by
 rcases q with (q|⟨o,q⟩)|q
 ·exact .inl (.inl (k6 (h.out q λo z=>(nomatch z)) q))
 ·exact .inl (.inr ⟨o,k6 (h.out q λo z=>by cases z) q⟩)
 ·exact .inr q
def a2Y(h:Junk H C)(q:H a=cz (c9 a es)):VS.cut H C a=cz (c9 a es):=
 k6 (h.out q λo z=>by unfold c9 at z;cases z) q
mutual
theorem Den.junk(h:Junk H C):∀(d:be) {v:V},Den K H v d->Den K (VS.cut H C) v d
 |.none,_,q=>by simpa only [Den]using q
 |.bool _,_,q=>by simpa only [Den]using q
 |.int _,_,q=>by simpa only [Den]using q
 |.str _,_,q=>by simpa only [Den]using q
 |.list ds,_,q=>by
  obtain⟨a,xs,rfl,h1,h2⟩:=q.list_inv;exact den_list (b3e h h1) (DenAll.junk h ds h2)
 |.tuple ds,_,q=>by
  obtain⟨a,xs,rfl,h1,h2⟩:=q.tup_inv;exact den_tup (b3f h h1) (DenAll.junk h ds h2)
 |.dict kvs,_,q=>by
  obtain⟨a,es,rfl,h1,h2⟩:=q.dict_inv;simp only[Den];exact⟨a,es,rfl,a2Y h h1,DenKV.junk h kvs h2⟩
theorem DenAll.junk(h:Junk H C):∀(ds:List be) {xs:List V},DenAll K H xs ds->DenAll K (VS.cut H C) xs ds
 |[],_,q=>by simpa only [DenAll]using q
 |d::ds,_,q=>by
  obtain⟨v,r,rfl,h1,h2⟩:=q.cons_inv;exact denAll_cons (Den.junk h d h1) (DenAll.junk h ds h2)
theorem DenKV.junk(h:Junk H C):∀(kvs:List (be×be)) {es:List (be×V×V)},DenKV K H es kvs->DenKV K (VS.cut H C) es kvs
 |[],_,q=>by simpa only [DenKV]using q
 | (k,d)::r,_,q=>by
  simp only[DenKV]at q ⊢;obtain⟨x,es,h1,h2,h3,h4,h5⟩:=q;exact⟨x,es,h1,h2,Den.junk h k h3,Den.junk h d h4,DenKV.junk h r h5⟩
end
def b3g(a:aw):VS.cut (VS.cut H C) F a=VS.cut (VS.cut H F) C a:=by
 unfold VS.cut;by_cases h1:a∈F<;>by_cases h2:a∈C<;>simp[h1,h2]
def R1(h:Junk H C)(q:Den K (VS.cut H F) v d):Den K (VS.cut (VS.cut H C) F) v d:=
 (Den.junk h.cut d q).up λa o e=>by rw[b3g];exact e
mutual
theorem Own.junk(h:Junk H C):∀(u:Ty) {v:V} {d:be} {fp:List aw},Own K H F u v d fp->Own K (VS.cut H C) F u v d fp
 |.i,_,_,_,q=>by simp only[Own]at q ⊢;exact⟨q.1,q.2.1,R1 h q.2.2⟩
 |.f,_,_,_,q=>by simp only[Own]at q ⊢;exact⟨q.1,R1 h q.2⟩
 |.l u,_,_,_,q=>by
  simp only[Own]at q ⊢;rcases q with⟨h1,h2,q⟩|⟨a,xs,ds,fs,rfl,h1,rfl,rfl,h2⟩
  ·exact .inl ⟨h1,h2,R1 h q⟩
  ·exact .inr ⟨a,xs,ds,fs,rfl,k6 (h.out h1 λo z=>(nomatch z)) h1,rfl,rfl,h2.imp λv d f _ _ z=>Own.junk h u z⟩
 |.tp us,_,_,_,q=>by
  simp only[Own]at q ⊢;rcases q with⟨h1,h2,q⟩|⟨a,xs,ds,rfl,h1,h0,rfl,h2⟩
  ·exact .inl ⟨h1,h2,R1 h q⟩
  exact .inr ⟨a,xs,ds,rfl,k6 (h.out h1 λo z=>(nomatch z)) h1,h0,rfl,OwnTs.junk h us h2⟩
 |.d kt u,_,_,_,q=>by
  simp only[Own]at q ⊢;obtain⟨a,es,ds,fs,rfl,h1,rfl,rfl,h3,h2⟩:=q;exact⟨a,es,ds,fs,rfl,a2Y h h1,rfl,rfl,⟨h3.1,λx hx=>⟨(h3.2 x hx).1,R1 h (h3.2 x hx).2⟩⟩,h2.imp λv d f _ _ z=>Own.junk h u z⟩
theorem OwnTs.junk(h:Junk H C):∀(us:List Ty) {xs:List V} {ds:List be} {fp:List aw},OwnTs K H F us xs ds fp->OwnTs K (VS.cut H C) F us xs ds fp
 |[],_,_,_,q=>by simpa only [OwnTs]using q
 |u::us,_,_,_,q=>by
  simp only[OwnTs]at q ⊢;obtain⟨v,r,d,e,f,g,rfl,rfl,rfl,h1,h2⟩:=q;exact⟨v,r,d,e,f,g,rfl,rfl,rfl,Own.junk h u h1,OwnTs.junk h us h2⟩
end
def a6H(k:HOk P w H h)(j:Junk H C):HOk P w (VS.cut H C) h:=λa o e=>by
 obtain⟨na,e'⟩:=o9 e;refine (k a o e').stay (λb u _ q=>q) (λb q=>k6 (j.out q λo z=>(nomatch z)) q) λb u q=>k6 (λhb=>?_) q
 obtain⟨u,hu⟩:=u;obtain⟨ob,z⟩:=j b hb u q;subst z;have sX:b=a:=hu;exact na (sX▸hb)
def b0V(t:TabsIn K H)(j:Junk H C):TabsIn K (VS.cut H C):=λx hx p e=>by
 obtain⟨qs,t',e1,e2⟩:=t x hx p e;exact⟨qs,t',k6 (j.out e1 λo z=>(nomatch z)) e1,e2⟩
end
end VS
namespace VS
open PySem.Spec L2 PyProof.Rows
def FnV(P:br)(w:bK)(K:af)(mg:bt->Option ai)(base:bL)(k n:Nat)(u:Ty)(m:List D->Option D)(H:Hp)(v:V):Prop:=
 ∃fa fo,v=.ref fa/\H fa=cz (.frz fo (.own fa))/\(∃fd,fo.data=.func fd)/\
  ∀(A:bB) (outer:List n_) (s:aj) (us:List ai) (vs:List V) (Q:VK) (E:XK),Room k A->Env0 P w K mg base A outer s H->Vals vs us->spD K n m u vs H Q E->
   gA (aO P w) A (.call (.ref fa) ⟨us,[]⟩) (CR CX0 outer P w H s Q E) s
section
variable {X:Cx}{M:List Md}{a e0:Expr}{es:List Expr}{fa:EvE}{f:EvA}{ca:Cat}{u:Ty}{x:bt}{p pos:eA}
def b9n(X:Cx)(i k n:Nat)(u:Ty)(m:List D->Option D)(t:TA):TE:=λY H Q=>∃v,Y[i]?=cz (cz v)/\t Y H λvs H1=>FnV X.prog X.w X.K X.mg X.base k n u m H1 v/\spD X.K n m u vs H1 Q E0
def b3h(hr:Room k X.A)(ha:PA X (e0::es) t)(hN:X.N[i]?=cz x)(hv:Vis X.env.scope x)(hd:(x==("__debug__":bt))=p4)(kL:(x==("__classdict__":bt))=p4)
  (he:ak (e0::es) X.env=(p4,bX e0 X.env)::ak es X.env) (fF:(bY pos (ak es X.env)).any (·.1)=p4):PE X (.Call (.Name x p) (e0::es) [] pos) (b9n X i k n u m t):=by
 intro pins s Y H Q I ⟨v,e,h⟩;refine dX (L2.thn (A8 hN hv hd kL pins s Y H (λv' H'=>v'=v/\H'=H) I ⟨v,e,rfl,rfl⟩) λu1 s1 ⟨v',H',I1,r1,z1,z2⟩=>?_);subst z1;subst z2;rw[he];refine PySem.W.callWith_of (P:=λh=>∃fa fo fd,u1=.ref fa/\h.get? fa=cz fo/\fo.data=.func fd) (by show ((p4||(bY pos (ak es X.env)).any (·.1))||false)=p4;rw[fF];rfl) (λh ⟨fa,fo,fd,q1,q2,q3⟩=>?_) (jM ?_)
 ·subst q1;obtain⟨cls,dict,data,slots⟩:=fo;have DQ:data=.func fd:=q3;subst DQ;exact⟨.frame,.inl rfl,(Hh (part:=el) q2).andThen .now⟩
 ·have xp:=ha pos pins s1 Y H' _ I1 h;rw[he]at xp;refine L2.thn xp λus s2 ⟨vs,H2,I2,r2,⟨fa,fo,q1,q2,⟨fd,q3⟩,q4⟩,q5⟩=>⟨?_,?_⟩
  ·have yT:u1=.ref fa:=by rw[q1]at r1;exact r1
   exact⟨fa,fo,fd,yT,(I2.hok fa _ q2).1,q3⟩
  ·have yT:u1=.ref fa:=by rw[q1]at r1;exact r1
   subst yT;refine mo (ff (q4 X.A X.stack s2 us vs Q E0 hr I2.env0 r2 q5) λr s' hq=>?_);cases r with
   |error e=>exact cy hq
   |ok fl=>
    cases fl with
    |ret u=>exact I2.after hq
    |next=>exact cy hq
    |brk=>exact cy hq
    |cont=>exact cy hq
def StE.getF{K:af}{U:List D}{Y:L2.St}{H P:Hp}{F:List aw}{Φ:Hp->V->Prop}(h:StE K M U Y H P F){i:Nat}(hm:M[i]?=cz (.fn Φ)):∃v,Y[i]?=cz (cz v)/\∀H',Same (cut H F) H'->Φ H' v:=by
 obtain⟨G,h1,h3⟩:=h.all;obtain⟨d,o,f,pre,post,e1,e2,⟨_,v,rfl,q⟩,e4,_⟩:=h1.at_ hm;exact⟨v,e2,q⟩
def b3i(i:Nat){k n:Nat}{m:List D->Option D}(hr:Room k X.A)(h:PAX X M (e0::es) f)(hm:M[i]?=cz (.fn (FnV X.prog X.w X.K X.mg X.base k n u m)):=by rfl)(hu:u.shut=fx:=by rfl)(hl:(e0::es).length=n:=by rfl)(hfl:∀U ds,f U=cz ds->ds.length=(e0::es).length)
  (hN:X.N[i]?=cz x:=by rfl) (hv:autoParam (NmV X x) ZY._auto_1)
  (he:ak (e0::es) X.env=(p4,bX e0 X.env)::ak es X.env:=by rfl) (fF:(bY pos (ak es X.env)).any (·.1)=p4:=by rfl) :
  PX X M (.Call (.Name x p) (e0::es) [] pos) (eCl m f) (.new u):=by
 obtain⟨t,pa,qa⟩:=h;refine .mk ⟨_,b3h (i:=i) (n:=n) (m:=m) (u:=u) hr pa hN hv.1 hv.2.1 hv.2.2 he fF,λU Y H P F d Q S hf q=>?_⟩;obtain⟨ds,h1,hf⟩:=bnd hf;obtain⟨v,EG,EF⟩:=S.getF hm;refine⟨v,EG,qa U Y H P F ds _ S h1 λvs H1 e1 r1=>⟨EF H1 (i8.trans e1),?_⟩⟩;refine⟨ds,d,by rw[r1.length,hfl U ds h1,hl],r1,hf,λv H' fp e o nd fr=>q v H' (e1.trans e) ⟨fp,o.shut_out (λa ha=>?_) u hu,nd,λa ha=>e1.free (fr a ha)⟩⟩;rcases aC.mp ha with z|z
 ·exact o.lst u a z
 ·exact S.lst' (e1.trans e) a z
end
def spL(K:af)(n:Nat)(Φ:(List D->Option D)->Hp->V->Prop)(m:(List D->Option D)->List D->Option D)(u:Ty):Sp:=λvs H Q _=>∃rs v gm ds d,vs=rs++[v]/\rs.length=n/\DenAll K H rs ds/\(∀H',Same H H'->Φ gm H' v)/\m gm ds=cz d/\
 ∀v H' fp,Same H H'->Own K H' fp u v d fp->fp.Nodup->(∀a∈fp,H a=el)->Q v H'
def fnL(us:List Ty)(n:Nat)(g:(List D->Option D)->EvS):(List D->Option D)->List D->Option D:=λgm ds=>if argsOk us ds then (g gm (ds++(.none::aL n .none))).bind λo=>match o with
 |.rt d=>cz d
 |_=>el
 else el
theorem StAll.app{K:af}{H:Hp}{F:List aw}:∀{M1 M2:List Md} {U1 U2:List D} {Y1 Y2:L2.St} {f1 f2:List aw},StAll K H F M1 U1 Y1 f1->StAll K H F M2 U2 Y2 f2->StAll K H F (M1++M2) (U1++U2) (Y1++Y2) (f1++f2)
 |[],_,_,_,_,_,_,_,h,q=>by simp only[StAll]at h;obtain⟨rfl,rfl,rfl⟩:=h;exact q
 |m::M,_,_,_,_,_,_,_,h,q=>by
  simp only[StAll]at h;obtain⟨d,U,o,Y,f,g,rfl,rfl,rfl,h1,h2⟩:=h;rw[bw];exact l9 h1 (StAll.app h2 q)
theorem a1T{K:af}{H:Hp}{F:List aw}:∀n:Nat,StAll K H F (aL n .dead) (aL n .none) (aL n el) []
 |0=>N1
 |n+1=>l9 (f:=[]) (g:=[]) rfl (a1T n)
def b3j{P:br}{w:bK}{K:af}{mg:bt->Option ai}{base:bL}{x:bt}{st:fS}{f:aw}{fd:dJ}{N ps:List bt}{k n:Nat}{us:List Ty}{u:Ty}{Φ:(List D->Option D)->Hp->V->Prop}{g:(List D->Option D)->EvS}{M':(List D->Option D)->List Md}(F:Fun K x x st f fd)(S:FnScope N ps (i9 st))(nj:us.length+1=ps.length)(hn:N.length=ps.length+n)
  (hb:∀(gm:List D->Option D) (gg:ai) (A:bB) (outer:List n_) (s:aj) (H:Hp) (E:XK),Room k (A.deeper (ji x (i9 st) s.heap.objs.size f gg))->PSsX (a0e CX0 P w K mg base N x (i9 st) f gg A outer s H E).nox u [] (us.map .own++(.fn (Φ gm)::aL n .dead)) (w9 st) (g gm) (M' gm)) :
  FnOk P w K mg base CX0 (k+1) f fd ps (spL K us.length Φ (fnL us n g) u):=by
 refine F.ok S (λvs H Q E h=>?_) (λgg A outer s H vs Q E hr h=>?_)
 ·obtain⟨rs,v,gm,ds,d,rfl,hl,_⟩:=h;rw[bh,hl];exact nj
 obtain⟨rs,v,gm,ds,d,rfl,hl,hd,hΦ,hm,q⟩:=h;obtain⟨t,p,r⟩:=(hb gm gg A outer s H E hr).out;refine⟨t,p,?_⟩;unfold fnL at hm;by_cases ha:argsOk us ds=fx
 ·rw[aJ ha]at hm;obtain⟨o,h1,h2⟩:=bnd hm;cases o with
  |rt d'=>
   have kB:cz d'=cz d:=h2;cases kB
   have e:L2.start N (rs++[v])=rs.map cz++(cz v::aL n el):=by
    unfold L2.start;rw[show N.length-(rs++[v]).length=n by rw[bh,hl];show N.length-(us.length+1)=n;lia];simp
   rw[e];have h0:=P0 (K:=K) (H:=H) ha hd 0;simp only[hJ,bH]at h0;have oh:=h0.app (l9 (K:=K) (H:=H) (F:=[]) (m:=.fn (Φ gm)) (d:=iJ) (o:=cz v) (f:=[]) ⟨rfl,v,rfl,λH' e'=>hΦ H' (by rw[K4]at e';exact e')⟩ (a1T n));refine r _ _ _ H H [] (.rt d) ⟨⟨_,oh,bg,λa ha=>(nomatch ha)⟩,λa ha=>(nomatch ha),by rw[K4];exact Same.refl H⟩ h1 ?_;exact λv H' fp o nd fr e=>q v H' fp e o nd fr
  |_=>cases h2
 ·rw[aN ha]at hm;cases hm
section
variable {X:Cx}{M:List Md}{e0:Expr}{es:List Expr}{f:EvA}{u:Ty}{x y:bt}{p pv pos:eA}
def a5D:∀(U:List D) ds,g8 U=cz ds->ds.length=0:=λU ds h=>by cases h;rfl
def R4(h:∀U ds,fr U=cz ds->ds.length=n):∀U ds,b8 fa fr U=cz ds->ds.length=n+1:=λU ds q=>by
 obtain⟨x,h1,q⟩:=bnd q;obtain⟨xs,h2,q⟩:=bnd q;cases q
 rw[bu,h U xs h2]
def PAL(X:Cx)(M:List Md)(es:List Expr)(f:EvA)(Ψ:Hp->V->Prop):Prop:=
 ∃t,PA X es t/\∀(U:List D) (Y:L2.St) (H P:Hp) (F:List aw) (ds:List D) (Q:List V->Hp->Prop),StE X.K M U Y H P F->f U=cz ds->
  (∀vs v H',Same H H'->DenAll X.K H' vs ds->Ψ H' v->Q (vs++[v]) H')->t Y H Q
def R5(ha:PX X M a fa ca)(hr:PAL X M es fr Ψ)(hs:ak (a::es) X.env=(p4,bX a X.env)::ak es X.env:=by rfl):PAL X M (a::es) (b8 fa fr) Ψ:=by
 obtain⟨ta,pa,qa⟩:=ha.out;obtain⟨tr,pr,qr⟩:=hr;refine⟨_,l7 pa pr hs,λU Y H P F ds Q S hf q=>?_⟩;obtain⟨x,h1,hf⟩:=bnd hf;obtain⟨xs,h2,hf⟩:=bnd hf;cases hf
 exact qa U Y H P F _ _ S h1 λv H1 e1 r1=>qr U Y H1 P F _ _ (S.grow e1) h2 λvs w H2 e2 r2 hw=>q (v::vs) w H2 (e1.trans e2) (denAll_cons (r1.den.up e2) r2) hw
def a9w(i:Nat){Φ:Hp->V->Prop}(hm:M[i]?=cz (.fn Φ):=by rfl)(hN:X.N[i]?=cz y:=by rfl)(hv:autoParam (NmV X y) ZY._auto_1)
  (hs:ak [.Name y pv] X.env=(p4,bX (.Name y pv) X.env)::ak [] X.env:=by rfl):PAL X M [.Name y pv] g8 λH v=>∀H',Same H H'->Φ H' v:=by
 refine⟨_,l7 (A8 hN hv.1 hv.2.1 hv.2.2) o5 hs,λU Y H P F ds Q S hf q=>?_⟩;cases hf
 obtain⟨v,h1,h2⟩:=S.getF hm;exact⟨v,h1,q [] v H (Same.refl _) denAll_nil λH' e=>h2 H' (i8.trans e)⟩
def b0W(m:(List D->Option D)->List D->Option D)(gm:List D->Option D)(f:EvA):EvE:=λU=>(f U).bind (m gm)
def a4D(W:Has X.prog X.w X.K X.mg X.base x k ps (spL X.K n Φ m u))(hr:Room k X.A)(h:PAL X M (e0::es) f λH v=>∀H',Same H H'->Φ gm H' v)(hfl:∀U ds,f U=cz ds->ds.length=n)(hu:u.shut=fx:=by rfl)
  (hg:Gl X x:=by rfl) (lG:(x==("__debug__":bt))=p4:=by decide) (he:ak (e0::es) X.env=(p4,bX e0 X.env)::ak es X.env:=by rfl) (fF:(bY pos (ak es X.env)).any (·.1)=p4:=by rfl) :
  PX X M (.Call (.Name x p) (e0::es) [] pos) (b0W m gm f) (.new u):=by
 obtain⟨t,pa,qa⟩:=h;refine .mk ⟨_,a7H W hr pa hg lG he fF,λU Y H P F d Q S hf q=>?_⟩;obtain⟨ds,h1,hf⟩:=bnd hf;refine qa U Y H P F ds _ S h1 λvs v H1 e1 r1 hΦ=>?_
 show spL X.K n Φ m u ((vs++[v])++[]) H1 Q E0;rw[bH];refine⟨vs,v,gm,ds,d,rfl,by rw[r1.length];exact hfl U ds h1,r1,hΦ,hf,λv H' fp e o nd fr=>q v H' (e1.trans e) ⟨fp,o.shut_out (λa ha=>?_) u hu,nd,λa ha=>e1.free (fr a ha)⟩⟩;rcases aC.mp ha with z|z
 ·exact o.lst u a z
 ·exact S.lst' (e1.trans e) a z
end
def a6I:∀(l r:List ai),ku l->ku r->ku (l++r):=by
 intro l
 fun_induction ku l with
 |case1=>intro r _ h;exact h
 |case2 a t b u c rest ih=>intro r h1 h2;simp only[bA,ku];exact ih r h1 h2
 |case3=>intro r h;exact h.elim
def b0X:∀(l r:List ai),ku l->l_ pos (l++r)=cz cv->l_ pos l=cz cv\/l_ pos r=cz cv:=by
 intro l
 fun_induction ku l with
 |case1=>intro r _ h;exact .inr h
 |case2 a t b u c rest ih=>
  intro r h1 h2;simp only[bA,l_]at h2 ⊢
  split at h2
  ·rename_i hc
   rw[aJ hc];exact .inl h2
  ·rename_i hc
   rw[aN hc];exact ih r h1 h2
 |case3=>intro r h;exact h.elim
def LamO(q:bt)(params:mi)(body:Expr)(scope:gy)(clos:List (bt×aw))(H:Hp)(fa:aw):Prop:=
 ∃pm c' mB oc vs t b,H fa=cz (.frz (eD "<lambda>" q params body scope clos pm c' mB) (.own fa))/\H c'=cz (.frz oc (.own b))/\oc.data=.fields vs/\vs[1]?=cz (.str q t)
def LamO.up(h:LamO q params body scope clos H fa)(e:Same H H'):LamO q params body scope clos H' fa:=by
 obtain⟨pm,c',mB,oc,vs,t,b,h1,h2,h3⟩:=h;exact⟨pm,c',mB,oc,vs,t,b,e _ _ h1,e _ _ h2,h3⟩
def c1j(q:bt)(params:mi)(body:Expr)(scope:gy)(clos:List (bt×aw)):TE:=λ_ H Q=>∀fa H',Same H H'->LamO q params body scope clos H' fa->Q (.ref fa) H'
def b0Y{X:Cx}(hx:x∈N7)(hP:D0 X.K x=cz P)(hc:X.env.code=.ref c)(hd:gK X.base c P)(hq:X.env.qual++"<lambda>"=V7 x)
  (rD:pQ scope X.env=pure clos) (ux:defaultsOf params X.env=([],[])):PE X (.Lambda params body scope j_) (c1j (V7 x) params body scope clos):=by
 intro pins s Y H Q I h;refine PySem.W.kla_eval ux ?_;rw[hq];obtain⟨qs,t0,e1,e2⟩:=I.tabs x hx P hP;obtain⟨ps,xw,ht,hf⟩:=(show a4c H s.heap P qs from I.hok P _ e1);have wO:s.heap.Ns ba X.mg:=I.mod.glob.keeps I.bk;obtain⟨bm,ob,b1,b2,b3,b4,b5,b6⟩:=I.mod.bmain;have FD:ba≠P:=λq=>by
  obtain⟨o,es,ep,e,lH,_⟩:=wO;rw[q,xw]at e;cases e;cases lH
 have Gb:bm≠P:=λq=>by
  have e:=I.bk _ _ b3;rw[q,xw]at e;cases e;cases b4
 have Gc:bm≠ba:=λq=>by
  obtain⟨o,es,ep,e,lH,_⟩:=I.mod.glob;rw[q,e]at b3;cases b3;rw[lH]at b6;cases b6
 have hB:s.heap.BuiltinsAt X.mg P:=⟨bm,ob,b1,b2,Gc,Gb,I.bk _ _ b3,b4,b5,b6⟩;have hC:gK s.heap c P:=hd.keeps I.bk;cases hn:l_ j_ ps.toList with
 |some cv=>
  obtain⟨c',oc,vs,q,t,t',rfl,z2,z3,z4,z5⟩:=hf j_ cv hn;rw[e2]at z5;have Dn:sF (V7 x) t0=sF q t':=aK z5;cases Dn
  refine PySem.W.kla_makeFunctionHit (mg:=X.mg) rD I.ok.glob wO hc hC xw ht hn hB λmB h' tk hk hsz=>?_
  have oI:H h'.objs.size=el:=I.hok.fresh hsz;have I':=I.laid (a:=h'.objs.size) (o:=.frz (eD "<lambda>" (V7 x) params body scope clos ((X.mg "__name__").getD .none) c' mB) (.own h'.objs.size)) (t':=tk) (h':=h'.push (eD "<lambda>" (V7 x) params body scope clos ((X.mg "__name__").getD .none) c' mB)) (λb u e=>ah _ (hk b u e)) hsz ⟨aF _ rfl,_,aF _ rfl⟩;refine⟨.ref h'.objs.size,_,I',rfl,h _ _ (j9 oI _) ⟨_,c',mB,oc,vs,t,P,i7,?_,z3,z4⟩⟩;rw[f8 (n9 z2 oI)];exact z2
 |none=>
  refine PySem.W.kla_makeFunction (mg:=X.mg) rD I.ok.glob wO hc hC xw ht hn FD hB λc' mB h' tk Ey zU gQ zt By=>?_
  obtain⟨c2,oc,vs,t,rc,wC,Ca,oZ⟩:=zt;cases rc
  have Gi:P<s.heap.objs.size:=aB xw;have Ah:H c'=el:=I.hok.fresh zU;have BY:s.heap.objs.size<=h'.objs.size:=dZ (ip zU gQ);have oI:H h'.objs.size=el:=I.hok.fresh BY;have ik:c'≠h'.objs.size:=a_ gQ;have low:∀b u,H b=cz u->upd (upd H c' (.frz oc (.own P))) h'.objs.size (.frz (eD "<lambda>" (V7 x) params body scope clos ((X.mg "__name__").getD .none) c' mB) (.own h'.objs.size)) b=cz u:=λb u e=>by
   rw[f8 (n9 e oI),f8 (n9 e Ah)];exact e
  have y_:∀b,b<s.heap.objs.size->H b=el->upd (upd H c' (.frz oc (.own P))) h'.objs.size (.frz (eD "<lambda>" (V7 x) params body scope clos ((X.mg "__name__").getD .none) c' mB) (.own h'.objs.size)) b=el:=λb hb e=>by
   rw[f8 (a_ (bb hb BY)),f8 (a_ (bb hb zU))];exact e
  have kp:∀b o,b≠P->s.heap.get? b=cz o->(h'.push (eD "<lambda>" (V7 x) params body scope clos ((X.mg "__name__").getD .none) c' mB)).get? b=cz o:=λb o hb e=>ah _ (Ey b o hb e)
  have nP:∀b,H b=el->b≠P:=λb e z=>by rw[z,e1]at e;cases e
  have I':=I.un (t':=tk) (h':=h'.push (eD "<lambda>" (V7 x) params body scope clos ((X.mg "__name__").getD .none) c' mB)) (H':=upd (upd H c' (.frz oc (.own P))) h'.objs.size (.frz (eD "<lambda>" (V7 x) params body scope clos ((X.mg "__name__").getD .none) c' mB) (.own h'.objs.size)))
   ⟨λb o e n _ _=>kp b o (nP b n) e,λb o e n _ _=>⟨o.slots,kp b o (nP b n) e⟩,λb o e n _=>y_ b (aB e) n,λb o e _=>by
    by_cases hb:b=P
    ·exact⟨_,by rw[hb];exact ah _ By⟩
    ·exact⟨o,kp b o hb e⟩,λb xs e=>low b _ e,λb o u e=>low b _ e,λb Hz e=>⟨#[],by rw[low b _ e];simp⟩⟩ (λb u e=>by
    by_cases xj:b=h'.objs.size
    ·subst xj;rw[i7]at e;cases e
     exact⟨aF _ rfl,_,aF _ rfl⟩
    ·rw[f8 xj]at e;by_cases Cg:b=c'
     ·subst Cg;rw[i7]at e;cases e
      exact⟨ah _ wC,_,ah _ wC⟩
     ·rw[f8 Cg]at e;by_cases Cf:b=P
      ·subst Cf;rw[e1]at e;cases e
       refine⟨_,ah _ By,?_,λpos cv z=>?_⟩
       ·have:(ps++#[c_ j_.line,c_ j_.col,aS c']).toList=ps.toList++[c_ j_.line,c_ j_.col,aS c']:=by simp
        rw[this];exact a6I _ _ ht trivial
       ·have:(ps++#[c_ j_.line,c_ j_.col,aS c']).toList=ps.toList++[c_ j_.line,c_ j_.col,aS c']:=by simp
        rw[this]at z;rcases b0X _ _ ht z with z|z
        ·obtain⟨c3,D_,Dw,q3,t3,t4,y1,y2,y3,y4,y5⟩:=hf pos cv z;exact⟨c3,D_,Dw,q3,t3,t4,y1,low _ _ y2,y3,y4,y5⟩
        ·have z':cv=.ref c':=by
          simp only[c_,l_]at z
          split at z
          ·exact (aK z).symm
          ·cases z
         refine⟨c',oc,vs,V7 x,t,t0,z',?_,Ca,oZ,e2⟩;rw[f8 ik,i7]
      ·refine (I.hok b u e).stay (λd v lH q=>kp d v (λz=>?_) q) (λd q=>low _ _ q) λd v q=>low _ _ q
       rcases lH with z'|z'
       ·exact Cf (z'.symm.trans z)
       ·rw[z,e1]at z';cases z')
  refine⟨.ref h'.objs.size,_,I',rfl,h _ _ (λb u e=>low b u e) ⟨_,c',mB,oc,vs,t,P,i7,?_,Ca,oZ⟩⟩;rw[f8 ik,i7]
def a9x(P:br)(w:bK)(K:af)(mg:bt->Option ai)(base:bL)(N:List bt)(q:bt)(scope:gy)(f:aw)(cd:ai)(cl:List (bt×aw))(A:bB)(outer:List n_)(s:aj)(H:Hp):Cx where
 prog:=P
 w:=w
 K:=K
 mg:=mg
 base:=base
 A:=A.deeper (jy q scope s.heap.objs.size f cd cl)
 N:=N
 s₀:=s
 H₀:=H
 env:=jy q scope s.heap.objs.size f cd cl
 outer:=outer
 stack:=jy q scope s.heap.objs.size f cd cl::outer
 ex:=[]
 calm:=fx
 fn:=λ_=>p4
 pn:=[]
 xe:=λ_ _=>False
structure LamScope (N ps ys:List bt) (sc:gy) (cl:List (bt×aw)):Prop where
 kind:sc.kind=.function
 co:sc.isCoroutine=p4
 gen:sc.isGenerator=p4
 nd:N.Nodup
 pre:N=ps++ys
 par:∀x∈ps,sc.names.lookup x=cz .local
 fre:∀y∈ys,sc.names.lookup y=cz .free
 ncell:∀x∈sc.names,x.2≠.cell
 has:(sc.names.all λx=>x.2 !=.free||(cl.lookup x.1).isSome)=fx
def CellsIn(cl:List (bt×aw))(H:Hp):List bt->List V->Prop
 |[],vs=>vs=[]
 |y::ys,vs=>∃v r c ob uo,vs=v::r/\cl.lookup y=cz c/\H c=cz (.frz ob (.own c))/\ob.data=.cell (cz uo)/\RelV v uo/\CellsIn cl H ys r
section
variable {cl:List (bt×aw)}{H H':Hp}
theorem CellsIn.up(e:Same H H'):∀{ys:List bt} {vs:List V},CellsIn cl H ys vs->CellsIn cl H' ys vs
 |[],_,h=>h
 |y::ys,_,h=>by
  obtain⟨v,r,c,ob,uo,h1,h2,h3,h4,h5,h6⟩:=h;exact⟨v,r,c,ob,uo,h1,h2,e _ _ h3,h4,h5,CellsIn.up e h6⟩
theorem CellsIn.len:∀{ys:List bt} {vs:List V},CellsIn cl H ys vs->vs.length=ys.length
 |[],_,h=>by rw[show _=[] from h];rfl
 |y::ys,_,h=>by
  obtain⟨v,r,c,ob,uo,rfl,h2,h3,h4,h5,h6⟩:=h;rw[bu,bu,CellsIn.len h6]
theorem CellsIn.get:∀{ys:List bt} {vs:List V} {i:Nat} {y:bt} {v:V},CellsIn cl H ys vs->ys[i]?=cz y->vs[i]?=cz v->∃c ob uo,cl.lookup y=cz c/\H c=cz (.frz ob (.own c))/\ob.data=.cell (cz uo)/\RelV v uo
 |[],_,i,y,v,_,e,_=>by simp at e
 |y0::ys,_,0,y,v,h,e1,e2=>by
  obtain⟨v',r,c,ob,uo,rfl,h2,h3,h4,h5,h6⟩:=h;have GV:y0=y:=by simpa using e1
  have GU:v'=v:=by simpa using e2
  subst GV GU;exact⟨c,ob,uo,h2,h3,h4,h5⟩
 |y0::ys,_,i+1,y,v,h,e1,e2=>by
  obtain⟨v',r,c,ob,uo,rfl,h2,h3,h4,h5,h6⟩:=h;exact CellsIn.get h6 (by simpa using e1) (by simpa using e2)
end
def b3k(cl:List (bt×aw))(H:Hp):Prop:=∀y c,cl.lookup y=cz c->∃ob uo,H c=cz (.frz ob (.own c))/\ob.data=.cell uo
def fnE(us:List Ty)(rG:List D)(f:EvE):List D->Option D:=λds=>if argsOk us ds then f (ds++rG) else el
theorem b7j{K:af}{H:Hp}:∀{vs:List V} {ds:List D},DenAll K H vs ds->StAll K H [] (aL vs.length (.own .f)) ds (vs.map cz) []
 |_,[],h=>by rw[h.nil_inv];exact N1
 |_,d::ds,h=>by
  obtain⟨v,r,rfl,h1,h2⟩:=h.cons_inv;refine l9 (K:=K) (H:=H) (F:=[]) (m:=.own .f) (f:=[]) (g:=[]) ⟨v,rfl,?_⟩ (b7j h2);simp only[Own,K4];exact⟨trivial,h1⟩
theorem a1U:∀(ps:List α) (us:List β),((ps.zip us).map (·.1)).Sublist ps
 |[],_=>by rw[C_];exact Df _
 |p::ps,[]=>by rw[List.zip_nil_right];exact List.nil_sublist _
 |p::ps,u::us=>by rw[ei,aA];exact (a1U ps us).cons₂ p
def a2Z{ps:List bt}{us:List ai}:∀{i:Nat} {y:bt} {v:ai},ps.Nodup->ps[i]?=cz y->us[i]?=cz v->(ps.zip us).reverse.lookup y=cz v:=by
 intro i y v nd h1 h2;have hm:(y,v)∈(ps.zip us).reverse:=by
  rw[kI];exact bx (by rw[jV];exact⟨h1,h2⟩)
 have hk:(((ps.zip us).reverse).map (·.1)).Nodup:=by
  rw[Hl];have h0:((ps.zip us).map (·.1)).Nodup:=nd.sublist (a1U ps us);exact List.pairwise_reverse.mpr (h0.imp λz=>dy z)
 have key:∀l:List (bt×ai),(l.map (·.1)).Nodup->(y,v)∈l->l.lookup y=cz v:=by
  intro l
  induction l with
  |nil=>intro _ h;cases h
  |cons p l ih=>
   intro hn hm;rw[aA,bD]at hn;obtain⟨k,z⟩:=p;rcases aD.mp hm with e|e
   ·cases e;simp[List.lookup]
   ·have:(y==k)=p4:=by
     rw[eH];intro q;exact hn.1 (q▸aR.mpr ⟨_,e,rfl⟩)
    rw[fV,this];exact ih hn.2 e
 exact key _ hk hm
def b5T{P:br}{w:bK}{K:af}{mg:bt->Option ai}{base:bL}{k:Nat}{q:bt}{params:mi}{body:Expr}{scope:gy}{cl:List (bt×aw)}{N ps ys:List bt}{us:List Ty}{u:Ty}{f:EvE}{lQ:List V}{rG:List D}{H:Hp}{fa:aw}
  (L:LamO q params body scope cl H fa) (S:LamScope N ps ys scope cl) (ur:∀x y c,cl.lookup x=cz c->cl.lookup y=cz c->x=y) (hC:CellsIn cl H ys lQ) (yz:b3k cl H) (hD:DenAll K H lQ rG) (nj:us.length=ps.length)
  (nK:∀(pm:ai) (c:aw) (mB:ai) (us:List ai),us.length=ps.length->q_ (PySem.W.kla_fn "<lambda>" q params body scope cl pm (.ref c) mB) ⟨us,[]⟩=pure (ps.zip us))
  (hb:∀(c:aw) (A:bB) (outer:List n_) (s:aj) (H:Hp),Room k (A.deeper (jy q scope s.heap.objs.size fa (.ref c) cl))->PX (a9x P w K mg base N q scope fa (.ref c) cl A outer s H) (us.map .own++aL ys.length (.own .f)) body f (.new u)) :
  FnV P w K mg base (k+1) ps.length u (fnE us rG f) H (.ref fa):=by
 obtain⟨pm,c',mB,oc,Dx,t0,b0,l1,l2,l3,l4⟩:=L;refine⟨fa,_,rfl,l1,⟨_,rfl⟩,λA outer s as vs Q E hr e0 rv ⟨ds,d,hl,hd,hm,hq⟩=>?_⟩;obtain⟨C,memC,wa⟩:∃C:List aw,(∀c∈C,∃y,cl.lookup y=cz c)/\∀y c,cl.lookup y=cz c->c∈C:=
  ⟨(cl.map (·.1)).filterMap λy=>cl.lookup y,λc hc=>let⟨y,_,e⟩:=dM.mp hc;⟨y,e⟩,λy c e=>dM.mpr ⟨y,aR.mpr ⟨(y,c),bW e,rfl⟩,e⟩⟩
 have J:Junk H C:=λa ha u e=>by
  obtain⟨y,hy⟩:=memC a ha;obtain⟨ob,uo,h1,_⟩:=yz y a hy;rw[h1]at e;cases e
  exact⟨ob,rfl⟩
 have El:∀a∈C,∃u,H a=cz u:=λa ha=>by
  obtain⟨y,hy⟩:=memC a ha;obtain⟨ob,uo,h1,_⟩:=yz y a hy;exact⟨_,h1⟩
 have lim:s.heap.NoLimit:=e0.mod.nolimit.keeps λb o e=>(e0.bs b o e).1
 have ho:s.heap.get? fa=cz (eD "<lambda>" q params body scope cl pm c' mB):=(e0.hok fa _ l1).1;have FP:s.heap.CodeRec (.ref c') q:=⟨c',oc,Dx,t0,rfl,(e0.hok c' _ l2).1,l3,l4⟩;have tD:as.length=ps.length:=by rw[<-rv.length];exact hl
 have Ed:ps.Nodup:=by have:=S.nd;rw[S.pre]at this;exact this.sublist (List.sublist_append_left _ _)
 refine PySem.W.kla_callFunE hr.depth ho rfl S.co S.gen rfl FP ?_;rw[nK pm c' mB as tD];refine ag (wpAny_newFunctionEnv S.ncell (λy hy=>S.par _ (jf hy).1) (λh₁ pd BB=>⟨lim.fresh _ BB,?_⟩) S.kind);show gA _ _ (.expr body (jy q scope s.heap.objs.size fa (.ref c') cl)) _ _;have pf:∀b o,s.heap.get? b=cz o->h₁.get? b=cz o:=λb o e=>BB.extBut b o (a_ (aB e)) (ah _ e)
 have tX:∀b:aw,b∉(a9x P w K mg base N q scope fa (.ref c') cl A outer s (VS.cut H C)).ex:=λb z=>absurd (show b∈([]:List aw) from z) (by simp)
 have Fq:N.length=ps.length+ys.length:=by rw[S.pre,bh]
 have I:Inv (a9x P w K mg base N q scope fa (.ref c') cl A outer s (VS.cut H C)) [] (vs.map cz++lQ.map cz) (VS.cut H C) {s with heap:=h₁,toks:=s.toks+(ps.zip as).length}:=by
  refine⟨⟨e0.mod,S.kind,rfl,rfl,aG _,ur,λx hx=>?_,λx c hx _=>(nomatch hx),λ_=>hr.hd,bB.frames_deeper e0.frames,.inr ⟨rfl,rfl⟩,λb z=>absurd z (tX b),λb o e=>⟨(e0.bs b o e).1,A5 (e0.bs b o e).2⟩,e0.bsz,λb _ _=>tX b,λb z=>absurd z (tX b),e0.funs,λb hb=>A5 (e0.frf b hb),b0V e0.tabs J⟩,
   rfl,e0.bare,Un.kept pf,⟨_,pd,λi x v h1 h2 h3=>?_⟩,λx c e=>?_,A5 (e0.hok.fresh (aG _)),λx c e=>W3 (wa x c e),λp hp=>absurd (show p∈([]:List (aw×fm)) from hp) (by simp),(a6H e0.hok J).kept pf,?_⟩
  ·have rz:scope.names.lookup x=cz .cell\/scope.names.lookup x=cz .free:=hx;rcases rz with z|z
   ·exact absurd rfl (S.ncell _ (bW z))
   ·have w:=bj.mp S.has _ (bW z);rw[ig]at w;rcases w with w|w
    ·exact absurd (show (fA !=fA)=fx from w) (by decide)
    ·exact dI.mp w
  ·have lZ:(ps++ys)[i]?=cz x:=by rw[<-S.pre];exact h1
   by_cases hi:i<ps.length
   ·rw[gY hi]at lZ;rw[gY (by rw[ao,hl];exact hi),aY]at h2;have kB:vs[i]?=cz v:=by
     cases e:vs[i]? with
     |none=>rw[e]at h2;cases h2
     |some a=>rw[e]at h2;cases h2;rfl
    obtain⟨u',hu,r⟩:=rv.get kB;exact⟨u',r,.inl ⟨S.par x (bx lZ),a2Z Ed lZ hu⟩⟩
   ·rw[eZ (by lia)]at lZ;rw[eZ (by rw[ao,hl];lia),ao,aY,hl]at h2;have kB:lQ[i-ps.length]?=cz v:=by
     cases e:lQ[i-ps.length]? with
     |none=>rw[e]at h2;cases h2
     |some a=>rw[e]at h2;cases h2;rfl
    obtain⟨c,ob,uo,z1,z2,z3,z4⟩:=hC.get lZ kB;exact⟨uo,z4,.inr ⟨.inr (S.fre x (bx lZ)),c,z1,ob,pf c ob (e0.hok c _ z2).1,z3⟩⟩
  ·obtain⟨ob,uo,z1,z2⟩:=yz x c e;exact⟨uo,ob,pf c ob (e0.hok c _ z1).1,z2⟩
  ·show _=N.length;rw[bh,ao,ao,hl,hC.len,Fq]
 obtain⟨t,pt,qt⟩:=(hb c' A outer s (VS.cut H C) (hr.deeper _)).out;unfold fnE at hm;by_cases ha:argsOk us ds=fx
 ·rw[aJ ha]at hm;have Ae:DenAll K (VS.cut H C) vs ds:=DenAll.junk J ds hd;have FV:DenAll K (VS.cut H C) lQ rG:=DenAll.junk J rG hD;have h0:=P0 (K:=K) (H:=VS.cut H C) ha Ae 0;simp only[hJ,bH]at h0;have h1:=b7j FV;rw[hC.len]at h1;have SE:StE K (us.map .own++aL ys.length (.own .f)) (ds++rG) (vs.map cz++lQ.map cz) (VS.cut H C) (VS.cut H C) []:=⟨⟨_,h0.app h1,λa ha=>(nomatch ha)⟩,λa ha=>(nomatch ha),by rw[K4];exact Same.refl _⟩;refine PySem.W.kla_codeExpr (cK (pt [] _ _ (VS.cut H C) (λv H'=>Same (VS.cut H C) H'/\ResR K (.new u) (VS.cut H C) H' [] v d) I (qt (ds++rG) _ (VS.cut H C) (VS.cut H C) [] d _ SE hm λv H' e r=>⟨e,r⟩)) (λv s' hs=>?_) λe s' hs=>(show False from hs).elim);obtain⟨v',H',J',r',e',fp,o,nd,fr⟩:=hs;have pH:∀c∈C,H' c=el:=λc hc=>by
   obtain⟨y,hy⟩:=memC c hc;exact J'.freeC y c hy
  have inn:∀{b:aw} {o:HO},H' b=cz o->a6G C H H' b=cz o:=λ{b o} q=>by
   rw[q8 (λz=>by rw[pH b z]at q;cases q)];exact q
  have nC:∀{b:aw},H b=el->b∉C:=λ{b} n z=>by
   obtain⟨u,hu⟩:=El b z;rw[n]at hu;cases hu
  have Cu:∀a∈fp,a∉C:=λa ha z=>by
   obtain⟨ys,q⟩:=o.lst u a ha;rw[pH a z]at q;cases q
  refine (show CE outer P w H s Q v s' from⟨v',a6G C H H',J'.os,J'.bare,⟨λb o q n hb hx=>J'.base.keep b o q (A5 n) hb hx,λb o q n hb hx=>J'.base.slot b o q (A5 n) hb hx,λb o q n hx=>?_,J'.base.there,λb xs e=>?_,λb o u e=>?_,λb ps e=>?_⟩,λb o e=>?_,r',hq v' _ fp (λb o e=>?_) ?_ nd λa ha=>?_⟩)
  ·rw[q8 (nC n)];exact J'.base.free b o q (A5 n) hx
  ·have nb:=J.out e λo z=>(nomatch z)
   rw[q8 nb];exact J'.base.tups b xs (k6 nb e)
  ·by_cases hb:b∈C
   ·rw[a0H hb];exact e
   ·rw[q8 hb];exact J'.base.frzs b o u (k6 hb e)
  ·have nb:=J.out e λo z=>(nomatch z)
   obtain⟨more,z⟩:=J'.base.tbls b ps (k6 nb e);exact⟨more,by rw[q8 nb];exact z⟩
  ·by_cases hb:b∈C
   ·rw[a0H hb]at e;obtain⟨ob,rfl⟩:=J b hb o e;have z:=(e0.hok b _ e).1;have z':=J'.base.keep b ob z (W3 hb) (λy=>by rw[e0.frf b y]at e;cases e) (by intro y;exact absurd (show b∈([]:List aw) from y) (by simp));exact⟨z',_,z'⟩
   ·rw[q8 hb]at e;exact (J'.hok b o e).stay (λ_ _ _ q=>q) (λb q=>inn q) λb u q=>inn q
  ·by_cases hb:b∈C
   ·rw[a0H hb];exact e
   ·rw[q8 hb];exact e' b o (k6 hb e)
  ·refine Own.frame (λb o' hb=>?_) u o λa ha=>q8 (Cu a ha)
   obtain⟨n1,n2⟩:=o9 hb;exact k6 (λz=>n1 (aM _ z)) (inn n2)
  ·have:=fr a ha;rw[X9 (Cu a ha)]at this;exact this
 ·rw[aN ha]at hm;cases hm
def a9y(X:Cx)(cl:List (bt×aw)):List bt->List Nat->Prop
 |[],js=>js=[]
 |y::ys,js=>∃j r c,js=j::r/\X.N[j]?=cz y/\X.env.kindOf y=cz .cell/\X.env.cells.lookup y=cz c/\cl.lookup y=cz c/\a9y X cl ys r
def c1k(X:Cx)(cl:List (bt×aw)):Prop:=∀p∈cl,X.env.cells.lookup p.1=cz p.2/\X.fn p.1=fx
def b5U(Y:L2.St):List Nat->List V->Prop
 |[],vs=>vs=[]
 |j::js,vs=>∃v r,vs=v::r/\Y[j]?=cz (cz v)/\b5U Y js r
def b9o(X:Cx)(cl:List (bt×aw))(ys:List bt)(js:List Nat)(sp:Sp)(t:TA):TE:=λY H Q=>t Y H λvs H1=>∃lQ,b5U Y js lQ/\
 ∀(H2:Hp) (C:List aw),(∀x y c,cl.lookup x=cz c->cl.lookup y=cz c->x=y)->Same H1 H2->CellsIn cl H2 ys lQ->b3k cl H2->Junk H2 C->(∀b,b∉C->H2 b=H1 b)->(∀b∈C,H1 b=el)->sp vs H2 (λv H'=>Junk H' C->Q v (VS.cut H' C)) E0
theorem a6J{cl:List (bt×aw)}(I:Inv X pins Y H s)(h2:∀y c,cl.lookup y=cz c->∀ob,s.heap.get? c=cz ob->H2 c=cz (.frz ob (.own c))) :
  ∀{ys:List bt} {js:List Nat} {lQ:List V},a9y X cl ys js->b5U Y js lQ->CellsIn cl H2 ys lQ
 |[],js,lQ,h,q=>by
  rw[show js=[] from h]at q;exact q
 |y::ys,_,lQ,h,q=>by
  obtain⟨j,r,c,rfl,h1,h3,h4,h5,h6⟩:=h;obtain⟨v,rs,rfl,q1,q2⟩:=q;obtain⟨m,hn,hl⟩:=I.loc;obtain⟨u,ru,lk⟩:=hl j y v h1 q1 (.inr (.inl h3));rcases lk with⟨k,_⟩|⟨k,c',e',ob,z1,z2⟩
  ·rw[h3]at k;cases k
  ·rw[h4]at e';cases e'
   exact⟨v,rs,c,ob,u,rfl,h5,h2 y c h5 ob z1,z2,ru,a6J I h2 h6 q2⟩
section
variable {X:Cx}{k:Nat}{f:aw}{fd:dJ}{ps:List bt}{sp:Sp}{x:bt}{p pos:eA}{e:Expr}{es:List Expr}{t:TA}{cl:List (bt×aw)}{ys:List bt}{js:List Nat}
def b3l(F:FnOk X.prog X.w X.K X.mg X.base CX0 k f fd ps sp)(hr:Room k X.A)(hg:Gl X x)(hm:X.mg x=cz (.ref f))(hk:eY X.K (.ref f)=fx)(hb:Binds X.K fd ps [])(ha:PA X (e::es) t)(uz:a9y X cl ys js)(jt:c1k X cl)
  (lG:(x==("__debug__":bt))=p4) (he:ak (e::es) X.env=(p4,bX e X.env)::ak es X.env) (fF:(bY pos (ak es X.env)).any (·.1)=p4) :
  PE X (.Call (.Name x p) (e::es) [] pos) (b9o X cl ys js sp t):=by
 intro pins s0 Y H0 Q I0 h;refine dX (X7 I0 hg hm ?_ lG);refine nc (h₀:=X.base) I0.ok.mod.kin hk (L2.thn (ha pos pins s0 Y H0 _ I0 h) λus s ⟨vs,H,I,r,lQ,xf,q⟩=>⟨I.kIn,?_⟩) he fF;obtain⟨C,memC,wa⟩:∃C:List aw,(∀c∈C,∃y,cl.lookup y=cz c)/\∀y c,cl.lookup y=cz c->c∈C:=
  ⟨(cl.map (·.1)).filterMap λy=>cl.lookup y,λc hc=>let⟨y,_,e⟩:=dM.mp hc;⟨y,e⟩,λy c e=>dM.mpr ⟨y,aR.mpr ⟨(y,c),bW e,rfl⟩,e⟩⟩
 have pA:∀c∈C,∃y,X.env.cells.lookup y=cz c/\X.fn y=fx:=λc hc=>by
  obtain⟨y,hy⟩:=memC c hc;exact⟨y,jt _ (bW hy)⟩
 have pH:∀c∈C,H c=el:=λc hc=>by
  obtain⟨y,hy,_⟩:=pA c hc;exact I.freeC y c hy
 have mS:∀c∈C,∃ob v,s.heap.get? c=cz ob/\ob.data=.cell v:=λc hc=>by
  obtain⟨y,hy,_⟩:=pA c hc;obtain⟨v,ob,z1,z2⟩:=I.cell y c hy;exact⟨ob,v,z1,z2⟩
 have tw:∀c∈C,X.s₀.heap.objs.size<=c:=λc hc=>by
  obtain⟨y,hy,hf⟩:=pA c hc;exact I.ok.cab y c hf hy
 obtain⟨H2,qX,mM⟩:∃H2:Hp,(∀c∈C,∀ob,s.heap.get? c=cz ob->H2 c=cz (.frz ob (.own c)))/\∀b,b∉C->H2 b=H b:=
  ⟨λb=>if b∈C then (s.heap.get? b).map (λo=>HO.frz o (.own b)) else H b,λc hc ob z=>by show (if c∈C then _ else _)=_;rw[aJ hc,z];rfl,λb hb=>aN hb⟩
 have lS:Same H H2:=λb o e=>by
  rw[mM b (λz=>by rw[pH b z]at e;cases e)];exact e
 have J2:Junk H2 C:=λa hm u e=>by
  obtain⟨ob,v,z1,_⟩:=mS a hm;rw[qX a hm ob z1]at e;cases e
  exact⟨ob,rfl⟩
 have pL:HOk X.prog X.w H2 s.heap:=λb o e=>by
  by_cases hb:b∈C
  ·obtain⟨ob,v,z1,_⟩:=mS b hb;rw[qX b hb ob z1]at e;cases e
   exact⟨z1,_,z1⟩
  ·rw[mM b hb]at e;exact (I.hok b o e).stay (λ_ _ _ q=>q) (λb q=>lS _ _ q) λb u q=>lS _ _ q
 have e0:Env0 X.prog X.w X.K X.mg X.base X.A X.stack s H2:=by
  have z:=I.env0;refine⟨z.frames,z.mod,λb o e=>⟨(z.bs b o e).1,?_⟩,z.bsz,z.funs,λb hb=>?_,pL,z.bare,λx hx p e=>?_⟩
  ·rw[mM b λhc=>absurd (bb (aB e) (cx I.ok.bsz (tw b hc))) (cR _)];exact (z.bs b o e).2
  ·rw[mM b λhc=>?_]
   ·exact z.frf b hb
   ·rcases aD.mp (I.stkSub b hb) with e|e
    ·obtain⟨y,hy,_⟩:=pA b hc;exact I.cne y b hy e
    ·obtain⟨_,o,ho,_⟩:=I.ok.funs.mem e;exact absurd (bb (aB ho) (tw b hc)) (cR _)
  ·obtain⟨qs,t',e1,e2⟩:=z.tabs x hx p e;exact⟨qs,t',lS _ _ e1,e2⟩
 have nq:=q H2 C (λx y c z1 z2=>I.ok.inj x y c (jt _ (bW z1)).1 (jt _ (bW z2)).1) lS (a6J I (λy c hy ob z=>qX c (wa y c hy) ob z) uz xf) (λy c hy=>by
  obtain⟨ob,v,z1,z2⟩:=mS c (wa y c hy);exact⟨ob,v,qX c (wa y c hy) ob z1,z2⟩) J2 mM pH
 have r2:Vals vs (us++[]):=by rw[bH];exact r
 have hl:(us++[]).length=ps.length:=by rw[<-r2.length];exact F.len _ _ _ _ nq
 refine mo (ff (F.run X.A X.stack s H2 ⟨us,[]⟩ (us++[]) vs _ E0 hr e0 (hb s us I.kIn hl) r2 nq) λr s' hq=>?_);cases r with
 |error e=>exact cy hq
 |ok fl=>
  cases fl with
  |next=>exact cy hq
  |brk=>exact cy hq
  |cont=>exact cy hq
  |ret u=>
   obtain⟨v,H',os,bare,un,qI,rv,qv⟩:=(show CE X.stack X.prog X.w H2 s _ u s' from hq);have fz:∀c∈C,∃ob,s.heap.get? c=cz ob/\H' c=cz (.frz ob (.own c))/\s'.heap.get? c=cz ob:=λc hc=>by
    obtain⟨ob,v,z1,_⟩:=mS c hc;have z2:=un.frzs c ob _ (qX c hc ob z1);exact⟨ob,z1,z2,(qI c _ z2).1⟩
   have J':Junk H' C:=λa hm u e=>by
    obtain⟨ob,_,z,_⟩:=fz a hm;rw[z]at e;cases e
    exact⟨ob,rfl⟩
   have n2:∀b,H b=el->b∉C->H2 b=el:=λb n hb=>by rw[mM b hb];exact n
   have oC:∀b u,H b=cz u->b∉C:=λb u e z=>by rw[pH b z]at e;cases e
   have DB:Un (frs X.stack) [] H (VS.cut H' C) s.heap s'.heap:=by
    refine⟨λb o e n hb hx=>?_,λb o e n hb hx=>?_,λb o e n hx=>?_,un.there,λb xs e=>?_,λb o u e=>?_,λb ps e=>?_⟩
    ·by_cases hc:b∈C
     ·obtain⟨ob,z1,_,z3⟩:=fz b hc;rw[e]at z1;cases z1
      exact z3
     ·exact un.keep b o e (n2 b n hc) hb hx
    ·by_cases hc:b∈C
     ·obtain⟨ob,z1,_,z3⟩:=fz b hc;rw[e]at z1;cases z1
      exact⟨o.slots,z3⟩
     ·exact un.slot b o e (n2 b n hc) hb hx
    ·by_cases hc:b∈C
     ·exact W3 hc
     ·exact A5 (un.free b o e (n2 b n hc) hx)
    ·exact k6 (oC b _ e) (un.tups b xs (lS _ _ e))
    ·exact k6 (oC b _ e) (un.frzs b o u (lS _ _ e))
    ·obtain⟨more,z⟩:=un.tbls b ps (lS _ _ e);exact⟨more,k6 (oC b _ e) z⟩
   exact⟨v,VS.cut H' C,I.call' os DB (a6H qI J') bare (λb z=>absurd z (by simp)),rv,qv J'⟩
end
def Q2(scope:gy)(env:n_):List (bt×aw):=scope.names.foldl (λcs p=>if p.2==.free then (match env.cells.lookup p.1 with|some c=>(p.1,c)::cs|none=>cs) else cs) []
def a8n:∀p∈Q2 scope env,env.cells.lookup p.1=cz p.2:=by
 have key:∀(l:List (bt×iX)) (cs:List (bt×aw)),(∀p∈cs,env.cells.lookup p.1=cz p.2)->∀p∈l.foldl (λcs p=>if p.2==.free then (match env.cells.lookup p.1 with|some c=>(p.1,c)::cs|none=>cs) else cs) cs,env.cells.lookup p.1=cz p.2:=by
  intro l
  induction l with
  |nil=>intro cs h;exact h
  |cons a l ih=>
   intro cs h;rw[IC];refine ih _ λp hp=>?_
   split at hp
   ·split at hp
    ·rename_i c hc
     rcases aD.mp hp with e|e
     ·rw[e];exact hc
     ·exact h p e
    ·exact h p hp
   ·exact h p hp
 exact key _ _ λp hp=>(nomatch hp)
def b5V{X:Cx}(oI:∀x,X.fn x=fx:=by exact λ_=>rfl):c1k X (Q2 scope X.env):=λp hp=>⟨a8n p hp,oI _⟩
section
variable {X:Cx}{M:List Md}{e0:Expr}{es:List Expr}{f:EvA}{u uf:Ty}{x:bt}{p pos j_:eA}{params:mi}{body:Expr}{scope:gy}{ys:List bt}{js:List Nat}
def b5W(hx:y∈N7)(hP:D0 X.K y=cz P)(hc:X.env.code=.ref c)(hd:gK X.base c P)(hq:X.env.qual++"<lambda>"=V7 y)
  (rD:pQ scope X.env=pure (Q2 scope X.env):=by rfl) (ux:defaultsOf params X.env=([],[]):=by rfl) (hs:ak [.Lambda params body scope j_] X.env=(p4,bX (.Lambda params body scope j_) X.env)::ak [] X.env:=by rfl) :
  PAL X M [.Lambda params body scope j_] g8 λH v=>∃fa,v=.ref fa/\LamO (V7 y) params body scope (Q2 scope X.env) H fa:=by
 refine⟨_,l7 (b0Y hx hP hc hd hq rD ux) o5 hs,λU Y H P F ds Q S hf q=>?_⟩;cases hf
 exact λfa H' e L=>q [] (.ref fa) H' e denAll_nil ⟨fa,rfl,L⟩
def b9p(M:List Md):List Nat->Prop
 |[]=>True
 |j::js=>(∃w,M[j]?=cz (.own w))/\b9p M js
theorem a9z{K:af}{U:List D}{Y:L2.St}{H P:Hp}{F:List aw}(S:StE K M U Y H P F):∀{js:List Nat},b9p M js->∃lQ,b5U Y js lQ/\DenAll K H lQ (js.map λj=>U.getD j .none)
 |[],_=>⟨[],rfl,denAll_nil⟩
 |j::js,h=>by
  obtain⟨⟨w,hw⟩,h2⟩:=h;obtain⟨v,fp,e,o,_⟩:=S.get hw;obtain⟨lQ,q1,q2⟩:=a9z S h2;exact⟨v::lQ,⟨v,lQ,rfl,e,q1⟩,denAll_cons (o.den w) q2⟩
def b5X(m:(List D->Option D)->List D->Option D)(us:List Ty)(js:List Nat)(fb:EvE)(f:EvA):EvE:=λU=>(f U).bind (m (fnE us (js.map λj=>U.getD j .none) fb))
end
def b3m{P:br}{w:bK}{K:af}{mg:bt->Option ai}{base:bL}{x:bt}{st:fS}{f:aw}{fd:dJ}{N ps:List bt}{k n:Nat}{us:List Ty}{u:Ty}{g:EvS}{M':List Md}(F:Fun K x x st f fd)(S:FnScope N ps (i9 st))(nj:us.length=ps.length)(hn:N.length=ps.length+n)
  (hb:∀(A:bB) (outer:List n_) (s:aj) (H:Hp) (E:XK),Room k (A.deeper (ji x (i9 st) s.heap.objs.size f fd.code))->PSsX (a0e CX0 P w K mg base N x (i9 st) f fd.code A outer s H E).nox u [] (us.map .own++aL n .dead) (w9 st) g M') :
  FnOk P w K mg base CX0 (k+1) f fd ps (spD K ps.length (fnD us n g) u):=by
 obtain⟨oc,od,kV,doc,pm,an,gg,ct,oW,rfl,lk,kL⟩:=F.ex;refine b2c lk kL S (λvs H Q E ⟨ds,d,hl,_⟩=>hl) λA outer s H vs Q E hr ⟨ds,d,hl,hd,hm,q⟩=>?_
 obtain⟨t,p,r⟩:=(hb A outer s H E hr).out;refine⟨t,p.nox,?_⟩;unfold fnD at hm;by_cases ha:argsOk us ds=fx
 ·rw[aJ ha]at hm;obtain⟨o,h1,h2⟩:=bnd hm;cases o with
  |rt d'=>
   have kB:cz d'=cz d:=h2;cases kB
   have e:L2.start N vs=vs.map cz++aL n el:=by
    unfold L2.start;rw[show N.length-vs.length=n by lia]
   rw[e];refine r _ (ds++aL n iJ) _ H H [] (.rt d) ⟨⟨[],P0 ha hd n,bg,λa ha=>(nomatch ha)⟩,λa ha=>(nomatch ha),by rw[K4];exact Same.refl H⟩ h1 ?_;exact λv H' fp o nd fr e=>q v H' fp e o nd fr
  |_=>cases h2
 ·rw[aN ha]at hm;cases hm
def b3n{K:af}{base:bL}{fd:dJ}(e:(D0 K x).isSome=fx)(X:K.In base)(G:base.Ns ba mg)(a:bN K ba x=cz (cz (.ref f)))(l:K.lookup f=cz ⟨oc,od,.func fd,sl⟩) :
  ∃c p,fd.code=.ref c/\D0 K x=cz p/\gK base c p:=by
 obtain⟨p,hp⟩:=dI.mp e;obtain⟨f',HG,HF,Cv,uQ,c,h1,h2,h3,h4⟩:=a4u hp X G;have h5:=gj X G a;rw[h1]at h5;cases h5
 rw[l]at h2;cases h2
 exact⟨c,p,h3,hp,h4⟩
end VS
namespace VS
open PySem.Spec L2
def a5E:FnOk P w K mg base CX0 k f fd ps (spD K n (λ_=>el) u):=
 ⟨λ_ _ _ _ ⟨_,_,_,_,hm,_⟩=>(nomatch hm),λ_ _ _ _ _ _ _ _ _ _ _ _ _ ⟨_,_,_,_,hm,_⟩=>(nomatch hm)⟩
end VS
namespace VS
abbrev Up(xs:List Nat):Prop:=xs.Pairwise (· < ·)
def AtB(xs:List Nat)(j p:Nat):Prop:=p<=xs.length/\(∀i (h:i<xs.length),i<p->xs[i]<j)/\∀i (h:i<xs.length),p<=i->¬ xs[i]<j
def a4E(h:Up xs)(hk:k<xs.length)(hi:i<k):xs[i]<xs[k]:=List.pairwise_iff_getElem.mp h i k (by lia) hk hi
def AtB.uniq(a:AtB xs j p)(b:AtB xs j q):p=q:=by
 rcases Nat.lt_trichotomy p q with c|c|c
 ·exact absurd (b.2.1 p (by have:=b.1;lia) c) (a.2.2 p (by have:=b.1;lia) (aG _))
 ·exact c
 ·exact absurd (a.2.1 q (by have:=a.1;lia) c) (b.2.2 q (by have:=a.1;lia) (aG _))
def b3o{xs:Array Nat}(hs:Up xs.toList):∀(f lo hi:Nat),lo<=hi->hi<=xs.size->hi<=lo+f->(∀i (h:i<xs.toList.length),i<lo->xs.toList[i]<j)->(∀i (h:i<xs.toList.length),hi<=i->¬ xs.toList[i]<j)->
  AtB xs.toList j (rh xs j f lo hi):=by
 intro f
 induction f with
 |zero=>
  intro lo hi h1 h2 h3 a b;have e:lo=hi:=by lia
  subst e;rw[rh];exact⟨by simpa using h2,a,b⟩
 |succ f ih=>
  intro lo hi h1 h2 h3 a b;rw[rh];by_cases c:lo<hi
  ·rw[aJ c];have hm:(lo+hi) / 2<xs.size:=by lia
   have um:(lo+hi) / 2<xs.toList.length:=by simpa using hm
   have eg:xs.getD ((lo+hi) / 2) j=xs.toList[(lo+hi) / 2]:=by simp[Array.getD,hm]
   simp only[eg];by_cases d:xs.toList[(lo+hi) / 2]<j
   ·rw[aJ d];refine ih _ _ (by lia) h2 (by lia) (λi mW hl=>?_) b;rcases gS i ((lo+hi) / 2) with z|z
    ·exact fK (a4E hs um z) d
    ·have:i=(lo+hi) / 2:=by lia
     subst this;exact d
   ·rw[aN d];refine ih _ _ (by lia) (by lia) (by lia) a (λi mW hl=>?_);rcases gS ((lo+hi) / 2) i with z|z
    ·have:=a4E hs mW z;lia
    ·have:i=(lo+hi) / 2:=by lia
     subst this;exact d
  ·rw[aN c];have e:lo=hi:=by lia
   subst e;exact⟨by simpa using h2,a,b⟩
def below_at{xs:Array Nat}(hs:Up xs.toList)(j:Nat):AtB xs.toList j (eJ xs j):=by
 unfold eJ;exact b3o hs _ _ _ (cI _) (aG _) (by lia) (λi _ h=>by lia) (λi h h'=>by simp at h;lia)
def a8o{xs:Array Nat}(hs:Up xs.toList):eJ xs 0=0:=(below_at hs 0).uniq ⟨cI _,λ_ _ h=>by lia,λ_ _ _=>by lia⟩
def a8p{xs:Array Nat}(hs:Up xs.toList)(hi:i<xs.toList.length):eJ xs (xs.toList[i]+1)=i+1:=by
 refine (below_at hs _).uniq ⟨hi,λk hk h=>?_,λk hk h=>?_⟩
 ·rcases gS k i with z|z
  ·have:=a4E hs hi z;lia
  ·have:k=i:=by lia
   subst this;lia
 ·have:=a4E hs hk (show i<k by lia);lia
def b9q(hs:Up xs)(h:AtB xs j p)(hj:j∉xs):Up (xs.take p++j::xs.drop p):=by
 have h1:∀x∈xs.take p,x<j:=λx hx=>by
  obtain⟨i,hi,rfl⟩:=gM.mp hx;rw[gU]at hi;rw[Dc];exact h.2.1 i (by lia) (by lia)
 have h2:∀x∈xs.drop p,j<x:=λx hx=>by
  obtain⟨i,hi,rfl⟩:=gM.mp hx;rw[kJ]at hi;have z:=h.2.2 (p+i) (by lia) (by lia);rw[List.getElem_drop];have:xs[p+i]'(by lia)≠j:=λe=>hj (e▸dc _)
  lia
 rw[Up,iY,jK];refine⟨hs.take,⟨h2,hs.drop⟩,λa ha b hb=>?_⟩;rcases aD.mp hb with rfl|hb
 ·exact h1 a ha
 ·exact fK (h1 a ha) (h2 b hb)
def a6K{t:gI}(hs:Up t.place.toList)(h:∀i,t.slot j≠.live i):j∉t.place.toList:=λhj=>by
 obtain⟨i,hi,e⟩:=gM.mp hj;have hb:eJ t.place j=i:=by
  refine (below_at hs j).uniq ⟨dZ hi,λk hk z=>?_,λk hk z=>?_⟩
  ·have:=a4E hs hi z;lia
  ·rcases gS i k with y|y
   ·have:=a4E hs hk y;lia
   ·have:k=i:=by lia
    subst this;lia
 apply h i;have mW:i<t.place.size:=by simpa using hi
 have:t.place[i]?=cz j:=by rw[bP mW,<-e];simp
 simp only[gI.slot,hb,this,eS,jr]
def b3p{t:gI}:∀(f:Nat) (p:gI.Probe) (j:Nat) (d:Option Nat),(∀x,p.dummy=cz x->t.slot x=.dummy)->gI.probe.go t hs h f p=cz (.empty j d)->t.slot j=.empty/\∀x,d=cz x->t.slot x=.dummy:=by
 intro f
 induction f with
 |zero=>intro p j d _ e;cases e
 |succ f ih=>
  intro p j d hd e;rw[gI.probe.go]at e;have CW:∀q:gI.Probe,(t.advance q).dummy=q.dummy:=λq=>by unfold gI.advance;split<;>rfl
  split at e
  ·rename_i mw
   cases e
   exact⟨mw,hd⟩
  ·rename_i mw
   exact ih _ j d (λx hx=>by rw[CW]at hx;cases hx;exact mw) e
  ·split at e
   ·cases e
   ·exact ih _ j d (λx hx=>by rw[CW]at hx;exact hd x hx) e
def b3q{t:gI}(hs:Up t.place.toList)(e:t.freeSlot h=cz (j,b)):j∉t.place.toList:=by
 unfold gI.freeSlot at e
 split at e
 ·rename_i j' d hp
  unfold gI.probe at hp;obtain⟨h1,h2⟩:=b3p _ _ _ _ (λx hx=>by cases hx) hp;simp only[nW,Prod.mk.injEq]at e;obtain⟨rfl,_⟩:=e;cases d with
  |none=>exact a6K hs λi=>by rw[show t.slot ((el:Option Nat).getD j')=.empty from h1];simp
  |some x=>exact a6K hs λi=>by rw[show t.slot ((cz x:Option Nat).getD j')=.dummy from h2 x rfl];simp
 ·cases e
def b3r(n:Nat):Up (Array.range n).toList:=by rw[Array.toList_range];exact k_
def U0(t:gI)(n:Nat):Up (t.standIn n).place.toList:=b3r n
def b0Z{t:gI}(hs:Up t.place.toList)(es:Array (Int×ai))(h:Int)(x:ai):Up (layNew t es h x).2.1.place.toList/\(layNew t es h x).2.1.led=t.led:=by
 unfold layNew
 split
 ·rename_i slot wd e
  have hp:Up (t.put slot).1.place.toList:=by
   show Up (gI.insertAt t.place (eJ t.place slot) slot).toList;rw[gI.toList_insertAt];exact b9q hs (below_at hs slot) (b3q hs e)
  have hl:(t.put slot).1.led=t.led:=rfl
  dsimp only
  unfold gI.orStandIn
  split
  ·exact⟨hp,hl⟩
  ·exact⟨U0 _ _,hl⟩
 ·exact⟨U0 _ _,rfl⟩
def a5F(f:Nat->Option Nat):Up (((aV n).filterMap λj=>(f j).map (j,·)).map (·.1)):=by
 rw[Up,nY,List.pairwise_filterMap];refine k_.imp λ{a b} qf x hx y hy=>?_
 obtain⟨_,_,rfl⟩:=dw.mp hx;obtain⟨_,_,rfl⟩:=dw.mp hy;exact qf
def b3s(t:gI)(es:Array (Int×ai))(n:Nat):(Up t.place.toList->Up (nE t es n).2.1.place.toList)/\(nE t es n).2.1.led=t.led:=by
 unfold nE
 split
 ·rename_i t' order e
  unfold gI.relaid gI.laid at e;obtain⟨ow,_,e2⟩:=tM.mp e;simp only[Option.pure_def,nW,Prod.mk.injEq]at e2;obtain⟨rfl,_⟩:=e2
  dsimp only
  split
  ·refine⟨λ_=>?_,rfl⟩;rw[List.toList_toArray];exact a5F _
  ·exact⟨λ_=>U0 _ _,rfl⟩
 ·exact⟨λ_=>U0 _ _,rfl⟩
end VS
namespace VS
open PySem.Spec L2
open PyProof.Rows (step_dedup)
def iOf:ai->Int
 |.int n _=>n
 |_=>0
def EI(l:List (Int×ai))(ms:List Int):Prop:=(∀e∈l,∃n t,e.2=.int n t/\e.1=kc n)/\(l.map λe=>iOf e.2).Perm ms
def D8(w:bK)(o:fm)(es:Array (Int×ai))(ep:Nat)(t:gI)(P:Prop):Prop:=
 o.ExactSet/\o.data=.set es ep t/\t.fits es.size=fx/\Up t.place.toList/\t.led=!w.params.followText "set-order"/\es.size<jq/\P
abbrev a3a(w:bK)(o:fm)(es:Array (Int×ai))(ep:Nat)(t:gI)(ms:List Int):Prop:=D8 w o es ep t (EI es.toList ms)
def SetI(w:bK)(h:bL)(a:aw)(ms:List Int):Prop:=∃o es ep t,h.get? a=cz o/\a3a w o es ep t ms
def SetI.at{h h':bL}(x:SetI w h a ms)(k:∀o,h.get? a=cz o->h'.get? a=cz o):SetI w h' a ms:=let⟨o,es,ep,t,e,r⟩:=x;⟨o,es,ep,t,k _ e,r⟩
def EI.perm{l l':List (Int×ai)}(h:EI l ms)(p:l'.Perm l):EI l' ms:=⟨λe he=>h.1 e (p.mem_iff.mp he),(p.map _).trans h.2⟩
def EI.push{l l':List (Int×ai)}(h:EI l ms)(p:l'.Perm (l++[(kc n,.int n tk)])):EI l' (ms++[n]):=by
 refine EI.perm (l:=l++[(kc n,.int n tk)]) ⟨λe he=>?_,?_⟩ p
 ·rcases aC.mp he with z|z
  ·exact h.1 e z
  ·rw[aq]at z;subst z;exact⟨n,tk,rfl,rfl⟩
 ·rw[aZ];exact h.2.append (iB _)
def EI.len(h:EI l ms):l.length=ms.length:=by have:=h.2.length_eq;simpa using this
section
variable {prog:br}{w:bK}{A:bB}{E:ai->aj->Prop}{sh:aj}
def EI.elems(h:EI l ms):ElemsOf (cW prog w) l:=λe he=>by
 obtain⟨n,t,e1,e2⟩:=h.1 e he;rw[e1];exact⟨⟨n,pJ _ _ _ _,e2⟩,rfl⟩
def a4F{es fC:Array (Int×ai)}{t t':gI}(ho:sh.heap.get? a=cz o)(r:a3a w o es ep t ms)(f:t'.fits fC.size=fx)(u:Up t'.place.toList)(l:t'.led=t.led)(b:fC.size<jq)(e:EI fC.toList Ef) :
  (sh.heap.update a (xR fC t')).get? a=cz {o with data:=.set fC (ep+1) t'}/\a3a w {o with data:=.set fC (ep+1) t'} fC (ep+1) t' Ef:=by
 refine⟨?_,r.1,rfl,f,u,l.trans r.2.2.2.2.1,b,e⟩;have z:=bR (xR fC t') ho (by rw[putSet_of fC t' r.2.1];rfl)
 rwa[putSet_of fC t' r.2.1]at z
def add_int(hS:SetI w sh.heap a ms)(hr:ms.length+1<jq)
  (q:∀b h',cB a sh.heap h'->SetI w h' a (step_dedup ms n)->Q b {sh with heap:=h'}):az (aO prog w) A (setAddHashed a (.int n tk) (kc n)) Q E sh:=by
 obtain⟨o,es,ep,t,ho,r⟩:=hS;obtain⟨_,hd,hf,hu,hl,hb,he⟩:=id r;have B_:ElemsOf (cW prog w) es.toList:=he.elems;have hlen:es.size=ms.length:=by have:=he.len;simpa using this
 unfold setAddHashed setAddHashedIn;refine bJ (ae (gX ho hd hf ?_))
 dsimp only
 rw[byScan_of (knd:=cW prog w) (x:=.int n tk) rfl hb B_,aJ rfl];unfold setAddByScan;refine ae (ae (ef (ae (wpAny_setScan_of (knd:=cW prog w) (k:=n) (pJ _ _ _ _) ho hd hf B_ ?_))));cases hj:es.toList.findIdx? λe=>(cW prog w).is n e.2 with
 |some j=>
  dsimp only
  obtain⟨BS,uq,_⟩:=List.findIdx?_eq_some_iff_getElem.mp hj;have kN:ms.any (· == n)=fx:=by
   obtain⟨n',t',e1,_⟩:=he.1 _ (dc BS);rw[e1]at uq;have hn:n'=n:=(cW prog w).inj _ _ _ (pJ prog w n' t') uq;refine dA.mpr ⟨n,he.2.mem_iff.mp (aR.mpr ⟨_,dc BS,?_⟩),eS n⟩;rw[e1];exact hn
  refine ag (ag ?_);have z:=q p4 sh.heap (cB.refl a _) (by rw[step_dedup,aJ kN];exact⟨o,es,ep,t,ho,r⟩);exact z
 |none=>
  dsimp only
  have zG:¬ ms.any (· == n)=fx:=λc=>by
   obtain⟨x,h1,h2⟩:=dA.mp c;obtain⟨e,g1,g2⟩:=aR.mp (he.2.mem_iff.mpr h1);obtain⟨n',t',e1,_⟩:=he.1 _ g1;have z:=List.findIdx?_eq_none_iff.mp hj e g1;rw[e1]at z g2;have:n'=n:=(show n'=x from g2).trans (fM.mp h2);subst this;rw[pJ]at z;cases z
  have EM:step_dedup ms n=ms++[n]:=by rw[step_dedup,aN zG]
  rw[EM]at q;have p1:=layNew_perm t es (kc n) (.int n tk);have f1:=layNew_fits t es (kc n) (.int n tk);obtain⟨u1,l1⟩:=b0Z hu es (kc n) (.int n tk);generalize layNew t es (kc n) (.int n tk)=L at p1 f1 u1 l1 ⊢;obtain⟨kE,t1,wd,gv⟩:=L
  dsimp only at p1 f1 u1 l1 ⊢
  rw[Dk]at p1;have e1:EI kE.toList (ms++[n]):=he.push p1;have z1:kE.size=ms.length+1:=by have:=e1.len;simpa using this
  have b1:kE.size<jq:=by lia
  have gw:∀(b:Bool) (s1:aj) (Q':Unit->aj->Prop),Q' () s1->az (aO prog w) A (match b with|true=>rule "set.scan.the-table-gave-way" | false=>pure ()) Q' E s1:=λb s1 Q' hq=>by
   cases b<;>first|exact ag hq|exact ef hq
  refine ae (gw _ _ _ ?_);have tail:∀(g:Bool->Sem Unit),(∀(b:Bool) (s1:aj) (Q':Unit->aj->Prop),Q' () s1->az (aO prog w) A (g b) Q' E s1)->∀t2:gI,t2.fits kE.size=fx->Up t2.place.toList->t2.led=t.led->∀R:Option Bool->aj->Prop,
    (∀h',cB a sh.heap h'->SetI w h' a (ms++[n])->R (cz fx) {sh with heap:=h'})->
    az (aO prog w) A (storeSet a kE t2 >>= λ_=>if (!wd&&t2.tooFull)=fx then (g (nE t2 kE (hZ kE.size)).2.2 >>= λ_=>storeSet a (nE t2 kE (hZ kE.size)).1 (nE t2 kE (hZ kE.size)).2.1 >>= λ_=>pure (cz fx)) else pure (cz fx)) R E sh:=by
   intro g hg t2 f2 u2 l2 R hR;refine ae (wpAny_storeSet_of ho hd ?_ (lx b1));obtain⟨o2,r2⟩:=a4F (sh:=sh) ho r f2 u2 l2 b1 e1;have sb:=bQ sh.heap a (xR kE t2)
   split
   ·have p3:=relayAll_perm t2 kE (hZ kE.size);have f3:=relayAll_fits t2 kE (hZ kE.size);obtain⟨u3,l3⟩:=b3s t2 kE (hZ kE.size);generalize nE t2 kE (hZ kE.size)=R3 at p3 f3 u3 l3 ⊢;obtain⟨Cy,t3,g3⟩:=R3
    dsimp only at p3 f3 u3 l3 ⊢
    have e3:EI Cy.toList (ms++[n]):=e1.perm p3;have b3:Cy.size<jq:=by have:=e3.len;rw[bh,vk,cN]at this;lia
    refine ae (hg _ _ _ (ae (wpAny_storeSet_of o2 rfl ?_ (lx b3))));obtain⟨o4,r4⟩:=a4F (sh:={sh with heap:=sh.heap.update a (xR kE t2)}) o2 r2 f3 (u3 u2) l3 b3 e3;exact ag (hR _ (sb.trans (bQ _ a _)) ⟨_,_,_,_,o4,r4⟩)
   ·exact ag (hR _ sb ⟨_,_,_,_,o2,r2⟩)
  split
  ·refine ae ?_;rw[hashByValue_scannable 8 (x:=md n tk) rfl];refine ag ?_;refine tail _ ?_ _ ?_ ?_ ?_ _ λh' sb mX=>ag (q fx h' sb mX)
   ·intro b s1 Q' hq;cases b<;>first|exact ag hq|exact ef hq
   ·exact f1
   ·exact u1
   ·exact l1
  ·refine ae (ag ?_);rw[aJ rfl];refine tail _ ?_ _ f1 u1 l1 _ λh' sb mX=>ag (q fx h' sb mX)
   intro b s1 Q' hq;cases b<;>first|exact ag hq|exact ef hq
end
end VS
namespace VS
open PySem.Spec L2
open PyProof.Rows (firstMet firstMet_succ firstMet_length_le)
section
variable {prog:br}{w:bK}{A:bB}{E:ai->aj->Prop}{sh:aj}{R:xP->aj->Prop}{I:aw}{fp wr:List aw}{G:Array GenState->Array GenState->Prop}{n:Nat}{P:Nat->ai->Prop}{St:Nat->aj->Prop}
def b3t(Wk:WalksS prog w A.in1 I fp wr G n P St)(z:aw)(hz:z∉fp)(val:Nat->Int)(t_:∀i v,P i v->∃t,v=.int (val i) t)(hb:n+1<jq) :
  ∀(k i:Nat) (s:aj),n-i=k->i<=n->St i s->SetI w s.heap z (firstMet val i)->(∀s',Moved (z::wr) G s s'->SetI w s'.heap z (firstMet val n)->R (.ok (.ret .none)) s')->
   gA (aO prog w) A (.builtin "set.update.loop" ⟨[.ref z,.ref I],[]⟩) R s:=by
 have hw:z∉wr:=λh=>hz (Wk.sub _ h)
 have up:∀b∈wr,b∈z::wr:=λb h=>au _ h
 intro k
 induction k with
 |zero=>
  intro i s hk hi st hS hR;obtain rfl:i=n:=by lia
  refine dD (by exact mD) ?_;rw[cZ (by exact g_) _];show az _ A.in1 (fJ (aS I) >>= _) _ _ s;refine ae (Wk.done s _ _ st λs' m=>(show az _ A.in1 (ret bZ) _ _ s' from ag (hR s' (m.mono up) (hS.at λo e=>m.heap z o hw e))))
 |succ k ih=>
  intro i s hk hi st hS hR;have lt:i<n:=by lia
  refine dD (by exact mD) ?_;rw[cZ (by exact g_) _];show az _ A.in1 (fJ (aS I) >>= _) _ _ s;refine ae (Wk.item i s _ _ lt st λv s1 hP DG m=>?_);obtain⟨t,rfl⟩:=t_ i v hP;have xu:SetI w s1.heap z (firstMet val i):=hS.at λo e=>m.heap z o hw e
  show az _ A.in1 (om [md (val i) t] (setAdd z (.int (val i) t)) >>= λ_=>_) _ _ s1;refine ae (bJ ?_);unfold setAdd;refine bJ (ae ((cW prog w).pyHash (k:=val i) (by exact pJ _ _ _ _) ?_));have rm:(firstMet val i).length+1<jq:=by have:=firstMet_length_le val i;lia
  refine add_int (sh:={s1 with toks:=s1.toks+1}) (ms:=firstMet val i) xu rm λb h' sb xt=>?_
  rw[<-firstMet_succ]at xt;refine ag ⟨fw (by exact g_) _,ih (i+1) _ (by lia) lt (Wk.frame _ s1 _ _ DG (gL _) λc hc o e=>?_) xt λs2 m2 Ao=>?_⟩
  ·rw[sb.2 c (λx:c=z=>hz (x▸hc))];exact e
  ·refine hR s2 (Moved.trans Wk.gtrans ((m.mono up).then_heap (gL _) λc o hc e=>?_) m2) Ao;rw[sb.2 c (λx:c=z=>hc (x▸ar))];exact e
def a3V(w:bK):fm:={cls:=.type "set",dict:=el,data:=.set #[] 0 (.fresh 0 0 (!w.params.followText "set-order"))}
def b3u(w:bK):a3a w (a3V w) #[] 0 (.fresh 0 0 (!w.params.followText "set-order")) []:=⟨⟨rfl,rfl,rfl⟩,rfl,rfl,iC,rfl,by decide,λe he=>by simp at he,iB _⟩
def b5Y(a:ai)(h:Q (.ref sh.heap.objs.size) {sh with heap:=sh.heap.push (a3V w)}) :
  gA (aO prog w) A (.call (.builtin "set.__new__") ⟨[.type "set",a],[]⟩) (wants Q E) sh:=by
 refine codeAny_of_tree (show az _ A.in1 (sE "set.__new__" ⟨[.type "set",a],[]⟩ >>= λ_=>again (.builtin "set.__new__" ⟨[.type "set",a],[]⟩)) _ _ sh from ?_);refine ae (sO (by exact F.newCall_set_1 a) (ag ⟨fw (by exact F.plain_set_new) _,dD (by exact F.entry_set_new) ?_⟩));rw[cZ (by exact F.plain_set_new) _];unfold Builtin.«set.__new__»;unfold Builtin.Frozenset.newClass;have jt:=@sub_set_self;obtain⟨hp,g,d,tk,os⟩:=sh
 dsimp only
 wp_walk
 refine rN (ag (by
  dsimp only
  simp only[newObj];exact ae (wpAny_alloc (ag (ag h)))))
end
end VS
namespace VS
open PySem.Spec L2
open PyProof.Rows (firstMet IntsAre)
section
variable {prog:br}{w:bK}{A:bB}{E:ai->aj->Prop}{sh:aj}
def b1a(hh:A.handled=el)(hl:sh.heap.IsList l items)(hi:IntsAre items.toList ns)(hb:items.size+1<jq)
  (h:∀(h':bL) (tk:Nat),SetI w h' sh.heap.objs.size (firstMet (λi=>ns.getD i 0) items.size)->(∀b o,sh.heap.get? b=cz o->h'.get? b=cz o)->Q (.ref sh.heap.objs.size) {sh with heap:=h',toks:=tk}) :
  az (aO prog w) A (call (.type "set") [.ref l]) Q E sh:=by
 obtain⟨cl,tl,Fk⟩:=(by exact iq.mro);have g1:=(by exact iq.made);have g2:=(by exact iq.sub);refine mo (codeAny_of_tree (show az _ _ (callAny (.type "set") _) _ _ _ from ?_));refine ag ⟨Code.quiet_builtin _ (by decide +kernel),dD (by exact F.entry_type_call) ?_⟩;rw[bB.under_plain (by exact weight_type_call_type "set" [.ref l] []) rfl];have g3:=(by exact iq.notType);have g4:=(by exact iq.canCreate);have g5:=(by exact F.typeCall_set_1 (.ref l))
 repeat (any_goals first|assumption|wp_step)
 refine ff (b5Y (.ref l) (E:=E) (Q:=λv s1=>v=.ref sh.heap.objs.size/\s1={sh with heap:=sh.heap.push (a3V w)}) ⟨rfl,rfl⟩) λr s1 hr=>?_
 cases r with
 |error e=>exact hr
 |ok fl=>
  cases fl with
  |ret v=>
   obtain⟨rfl,rfl⟩:=hr;have hS:(sh.heap.push (a3V w)).get? sh.heap.objs.size=cz (a3V w):=aF _ rfl;have hT:jB {sh with heap:=sh.heap.push (a3V w)} (.ref sh.heap.objs.size) "set":=⟨_,hS,rfl⟩;have g6:=(by exact iq.init.lookup);have g7:=(by exact iq.init.bind (.ref sh.heap.objs.size))
   repeat (any_goals first|assumption|wp_step)
   refine ff (nN (R:=wants (λr s2=>r=.none/\∃h' tk,s2={sh with heap:=h',toks:=tk}/\SetI w h' sh.heap.objs.size (firstMet (λi=>ns.getD i 0) items.size)/\(∀b o,sh.heap.get? b=cz o->h'.get? b=cz o)) E) (by exact iq.init.plain) (by exact F.entry_set_init) (check_set_init_1 hT ?_)) λr2 s2 zu=>?_
   ·obtain⟨ol,BH,rD,nl,Ad⟩:=hl;obtain⟨oc,od,HE,os⟩:=ol;simp only at rD Ad;subst rD;subst Ad;have zA:(sh.heap.push (a3V w)).get? l=cz {cls:=.type "list",dict:=od,data:=.seq items nl,slots:=os}:=ah _ BH;have k1:=(by exact F.sub_list_set);have k2:=(by exact F.sub_list_frozenset);have k3:(dB "list" == dB "dict")=p4:=by decide +kernel
    have tu:(sh.heap.push (a3V w)).IsList l items:=⟨_,zA,rfl,nl,rfl⟩;unfold Builtin.«set.__init__» noKeywords;unfold Builtin.Frozenset.updateFrom;generalize Gk:pF=PI
    wp_walk
    subst Gk;refine lh tu (ae (ny ?_));have lt:l<sh.heap.objs.size:=aB BH;have Fx:A.in1.in1.in1.handled=el:=by simp[hh]
    have ne:l≠(sh.heap.push (a3V w)).objs.size:=by rw[cL];exact a_ (gz lt)
    have nf:sh.heap.objs.size∉[(sh.heap.push (a3V w)).objs.size,l]:=by
     rw[cL];simp only[aD,cO,or_false,not_or];exact⟨a_ (iT _),dz lt⟩
    have hv:∀(i:Nat) (v:ai),items[i]?=cz v->∃t,v=.int ((λi=>ns.getD i 0) i) t:=λi v e=>hi.int_at i v (by rw[cg];exact e)
    refine b3t ((Walks.list Fx _ l ne items).toS) sh.heap.objs.size nf (λi=>ns.getD i 0) hv hb (items.size-0) 0 _ rfl (cI _) ⟨⟨_,aF _ rfl,rfl,rfl⟩,tu.push _⟩ ⟨_,_,_,_,ah _ hS,b3u w⟩ λs' m mX=>?_
    obtain⟨h',g',d',tU,yU⟩:=s';have e1:g'=sh.gens:=m.gens;have e2:d'=sh.drawn:=m.drawn;have e3:yU=sh.os:=m.os;subst e1 e2 e3;show az _ _ _ _ _ _;refine ag (show az _ _ (ret bZ) _ _ _ from ag ⟨rfl,h',tU,rfl,mX,λb o e=>?_⟩);have lb:=aB e;refine m.heap b o ?_ (ah _ (ah _ e));simp only[aD,cO,or_false,not_or,cL];exact⟨a_ lb,a_ (gz lb)⟩
   ·cases r2 with
    |error e=>exact zu
    |ok GF=>
     cases GF with
     |ret r=>
      obtain⟨rfl,h',tk,rfl,mX,rC⟩:=zu
      repeat (any_goals first|assumption|wp_step)
      exact h _ _ mX rC
     |_=>exact zu.elim
  |_=>exact hr.elim
end
end VS
namespace PySem.F
def entry_set_iterA:xG table "set.__iter__"=cz Builtin.«frozenset.__iter__»:=xF (id':="frozenset.__iter__") (by kernel_rfl) rfl (by decide +kernel) (by kernel_rfl)
def slot_sit_next:Slot "set_iterator" "__next__" "set_iterator.__next__":=Slot.of (owner:="set_iterator") (n:="__next__") (by rw[jT,gR];kernel_rfl) (by decide +kernel) (by decide +kernel) (by decide +kernel) (by first|exact .inl (by decide +kernel)|exact .inr (by decide +kernel)) (by rw[nH];kernel_rfl)
def entry_sit_next:xG table "set_iterator.__next__"=cz Builtin.«set_iterator.__next__»:=entryFor_of_tree (by kernel_rfl)
def a4G:Manifest.owners.lookup (String.ofList ['r','o','t','a','r','e','t','i','_','t','e','s'].reverse)=cz Manifest.sig_set_iterator:=by kernel_rfl
def args_sit_next(a:ai):argsOk "set_iterator.__next__" ⟨[a],[]⟩:=by
 unfold argsOk;rw[signature?_of (id:="set_iterator.__next__") (n:=['_','_','t','x','e','n','_','_']) (o:=['r','o','t','a','r','e','t','i','_','t','e','s']) (by kernel_rfl) (by exact a4G)];kernel_rfl
def slot_sit_iter:Slot "set_iterator" "__iter__" "set_iterator.__iter__":=Slot.of (owner:="set_iterator") (n:="__iter__") (by rw[jT,gR];kernel_rfl) (by decide +kernel) (by decide +kernel) (by decide +kernel) (by first|exact .inl (by decide +kernel)|exact .inr (by decide +kernel)) (by rw[nH];kernel_rfl)
def args_sit_iter(a:ai):argsOk "set_iterator.__iter__" ⟨[a],[]⟩:=by
 unfold argsOk;rw[signature?_of (id:="set_iterator.__iter__") (n:=['_','_','r','e','t','i','_','_']) (o:=['r','o','t','a','r','e','t','i','_','t','e','s']) (by kernel_rfl) (by exact a4G)];kernel_rfl
def entry_sit_iter:xG table "set_iterator.__iter__"=cz Builtin.«dict_keyiterator.__iter__»:=xF (id':="dict_keyiterator.__iter__") (by kernel_rfl) rfl (by decide +kernel) (by kernel_rfl)
end PySem.F
namespace VS
open PySem.Spec L2
theorem a0l:∀{l:List α} {i:Nat} (h:i<l.length),(l[i]::l.eraseIdx i).Perm l
 |a::l,0,_=>by simp
 |a::l,i+1,h=>by
  have h':i<l.length:=by simpa using h
  simp only[List.getElem_cons_succ,List.eraseIdx_cons_succ];exact (List.Perm.swap a l[i] _).trans (List.Perm.cons a (a0l h'))
section
variable {M:Model}{A:bB}{E:ai->aj->Prop}{sh:aj}
def a8q(hn:n≠0)(q:∀i d,i<n->Q i {sh with drawn:=d}):az M A (choose src n) Q E sh:=λΓ p hΓ=>by
 show Sem.wp M Γ (.choose src n .pure) _ _ p sh;rw[Sem.wp_choose];exact⟨hn,by simpa using q _ _ (Nat.mod_lt _ (Nat.pos_of_ne_zero hn))⟩
def b3v:∀(n:Nat) (xs:List α) (sh:aj) (Q:List α->aj->Prop),n=xs.length->(∀ys d,ys.Perm xs->Q ys {sh with drawn:=d})->az M A (drawOrder n xs) Q E sh:=by
 intro n
 induction n with
 |zero=>
  intro xs sh Q e q;cases xs with
  |nil=>exact ag (q [] sh.drawn (iB _))
  |cons _ _=>cases e
 |succ n ih=>
  intro xs sh Q e q;cases xs with
  |nil=>cases e
  |cons x xs=>
   rw[drawOrder];refine ae (a8q (by simp) λi d hi=>?_)
   ·rw[ay hi]
    dsimp only
    refine ae (ih _ _ _ (by rw[xS,aJ hi];simp only[bu]at e ⊢;lia) λys d' hp=>?_);exact ag (q _ _ (by
     refine (List.Perm.cons _ hp).trans ?_;exact a0l hi))
   ·simp
def b5Z(next:Nat->Nat):∀(f k:Nat) (left:List α) (out:Array α),f=left.length->(DU next f k left out).toList.Perm (out.toList++left):=by
 intro f
 induction f with
 |zero=>
  intro k left out e;cases left with
  |nil=>simp[DU]
  |cons _ _=>cases e
 |succ f ih=>
  intro k left out e;have h0:0<left.length:=by lia
  have hm:next k % left.length<left.length:=Nat.mod_lt _ h0;rw[DU,ay hm]
  dsimp only
  refine (ih _ _ _ (by rw[xS,aJ hm];lia)).trans ?_;rw[Dk,bw];exact vp _ (a0l hm)
def b1b(next:Nat->Nat)(xs:Array α):(lU next xs).toList.Perm xs.toList:=by
 have:=b5Z next xs.size 0 xs.toList #[] (by simp);simpa[lU]using this
end
def SIt(h:bL)(it:aw)(first:ai)(i:Nat)(z:aw)(n ep:Nat):Prop:=∃o,h.get? it=cz o/\o.cls=.type "set_iterator"/\o.data=.fields #[first,.int i 0,.ref z,.int n 0,.int ep 0]
section
variable {prog:br}{w:bK}{A:bB}{E:ai->aj->Prop}{sh:aj}{it z:aw}{first:ai}{i n ep:Nat}{o:fm}{es:Array (Int×ai)}{t:gI}{ms:Prop}
def SIt.at{h h':bL}(x:SIt h it first i z n ep)(k:∀o,h.get? it=cz o->h'.get? it=cz o):SIt h' it first i z n ep:=let⟨o,e,r⟩:=x;⟨o,k _ e,r⟩
def SIt.typ(x:SIt sh.heap it first i z n ep):sh.TypeIs (.ref it) "set_iterator":=let⟨o,e,r,_⟩:=x;⟨o,e,r⟩
def SIt.put{h:bL}(hx:∃o,h.get? it=cz o/\o.cls=.type "set_iterator"/\o.data=.fields vs):∃o,(h.update it (AL (·.setIfInBounds j x))).get? it=cz o/\o.cls=.type "set_iterator"/\o.data=.fields (vs.setIfInBounds j x):=
 let⟨o,e,c,d⟩:=hx;⟨_,bR _ e (ng (gC d _)),(ro ..).trans c,gC d _⟩
def U1(q:Q (w.params.followText "set-order") sh):az (aO prog w) A setsByText Q E sh:=by
 unfold setsByText;exact ae (rN (ag q))
def a6L(ho:sh.heap.get? z=cz o)(r:D8 w o es ep t ms)(oK:w.params.followText "set-order"=p4)(hp:t.plain=fx\/es.size<=1)(mw:eJ t.place sl=i)
  (q:(∀h:i<es.size,∀nx,eJ t.place nx=i+1->Q (cz (es[i].2,nx)) sh)/\(¬ i<es.size->Q el sh)):az (aO prog w) A (uS z sl k rF) Q E sh:=by
 obtain⟨_,hd,hf,hu,hl,hb,he⟩:=id r;unfold uS;refine ae (gX ho hd hf (ae (U1 ?_)));rw[oK,aN bc];have Ac:¬ (!t.plain&&decide (es.size>1))=fx:=by
  rcases hp with c|c
  ·simp[c]
  ·simp;lia
 dsimp only
 refine er (λc=>absurd c Ac) λ_=>?_
 refine ae (show az _ _ (if (!t.led&&!es.isEmpty)=fx then _ else _) _ _ _ from ?_);rw[aN (by rw[hl,oK];simp)];refine ag ?_;have sZ:t.place.size=es.size:=by simp only[gI.fits,av,fM]at hf;exact hf.1
 rw[mw];by_cases c:i<es.size
 ·have c':i<t.place.size:=by lia
  rw[bP c,bP c'];refine ag (q.1 c _ ?_);have:=a8p hu (i:=i) (by simpa using c');simpa using this
 ·rw[eM (by lia)];exact ag (q.2 c)
def a9A(ho:sh.heap.get? z=cz o)(r:D8 w o es ep t ms)(oK:w.params.followText "set-order"=fx)
  (q:Q ((lU (w.params.setOrder z ep) es)[k]?.map λe=>(e.2,sl)) sh):az (aO prog w) A (uS z sl k ep) Q E sh:=by
 obtain⟨_,hd,hf,_⟩:=id r;unfold uS;refine ae (gX ho hd hf (ae (U1 ?_)));rw[oK,aJ rfl];rw[aN (by simp)];refine ae ?_;unfold setWalk;refine ae (gX ho hd hf (ae (U1 ?_)));rw[oK,aJ rfl];exact ae (rN (ag (ag q)))
def a6M{v:ai}{Φ:Nat->Prop}{Q:Option ai->aj->Prop}(hI:SIt sh.heap it first i z es.size ep)(ho:sh.heap.get? z=cz o)(r:D8 w o es ep t ms){sl:Nat}(z_:first=.int sl 0)
  (hn:∀(A':bB) (E':ai->aj->Prop) (Q':Option (ai×Nat)->aj->Prop),(∀nx,Φ nx->Q' (cz (v,nx)) sh)->az (aO prog w) A' (uS z sl i ep) Q' E' sh)
  (q:∀nx h',Φ nx->SIt h' it (.int nx 0) (i+1) z es.size ep->cB it sh.heap h'->Q (cz v) {sh with heap:=h'}):az (aO prog w) A (fJ (.ref it)) Q E sh:=by
 subst z_;obtain⟨x,hx,rX,ml⟩:=id hI;obtain⟨_,hd,hf,_⟩:=id r;unfold fJ;refine ae (fu (bM (name:=cm "__next__") hI.typ F.slot_sit_next (bF F.slot_sit_next hI.typ F.entry_sit_next ?_ (F.args_sit_next _))));unfold Builtin.«set_iterator.__next__»;refine ae (m:=vF "__next__" 0 _) (ag ?_);refine ae (iV hx ml ?_)
 dsimp only
 refine ae (ix ho hd hf ?_);rw[aN (by simp)];simp only[bI];refine ae (hn _ _ _ λnx e=>?_)
 dsimp only
 refine ae (eE hx ml (by simp) ?_);obtain⟨x1,rY,Cd,yo⟩:=SIt.put (it:=it) (x:=c_ (nx:Nat)) (j:=0) ⟨x,hx,rX,ml⟩;refine ae (eE rY yo (by simp) ?_);obtain⟨x2,sV,mL,hd2⟩:=SIt.put (it:=it) (x:=c_ ((i:Int)+1)) (j:=1) ⟨x1,rY,Cd,yo⟩;refine ag ⟨_,rfl,ag (q nx _ e ⟨x2,sV,mL,?_⟩ ((bQ ..).trans (bQ ..)))⟩;rw[hd2];simp[c_]
def a6N(hh:A.handled=el)(q:∀h',(∀b o,sh.heap.get? b=cz o->h'.get? b=cz o)->Q el {sh with heap:=h'}) :
  az (aO prog w) A.in1 (Ec (.type "StopIteration") [] >>= λe=>(raiseNew e:Sem PySem.Fin)) (λfin s'=>∃v,fin=Fin.done (Flow.ret v)/\az (aO prog w) A (pure (cz v)) Q E s') (λe s'=>az (aO prog w) A (v_ e (dB "StopIteration") >>= λb=>if b=fx then pure el else throw e) Q E s') sh:=by
 refine ae ?_;simp only[Ec,newTuple];refine ae (dg ?_ (by size_fits));refine ae (m:=iW _ _) (sO (a:=bZ) (by first|rfl|(simp only[iW];rfl)) ?_);refine dg ?_ (by size_fits);simp only[raiseNew];refine ae (yM ?_);rw[show A.in1.handled=el from hh];refine ae (ag (wpAny_throw ?_));refine ae (fB (b:=fx) (T:="StopIteration") ⟨_,aF _ rfl,rfl⟩ vZ ?_);exact ag (q _ λb o e=>ah _ (ah _ e))
def a9B{Q:Option ai->aj->Prop}(hh:A.handled=el)(hI:SIt sh.heap it first i z es.size ep)(ho:sh.heap.get? z=cz o)(r:D8 w o es ep t ms){sl:Nat}(z_:first=.int sl 0)
  (hn:∀(A':bB) (E':ai->aj->Prop) (Q':Option (ai×Nat)->aj->Prop),Q' el sh->az (aO prog w) A' (uS z sl i ep) Q' E' sh)
  (q:∀h',tO it sh.heap h'->Q el {sh with heap:=h'}):az (aO prog w) A (fJ (.ref it)) Q E sh:=by
 subst z_;obtain⟨x,hx,rX,ml⟩:=id hI;obtain⟨_,hd,hf,_⟩:=id r;unfold fJ;refine ae (fu (bM (name:=cm "__next__") hI.typ F.slot_sit_next (bF F.slot_sit_next hI.typ F.entry_sit_next ?_ (F.args_sit_next _))));unfold Builtin.«set_iterator.__next__»;refine ae (m:=vF "__next__" 0 _) (ag ?_);refine ae (iV hx ml ?_)
 dsimp only
 refine ae (ix ho hd hf ?_);rw[aN (by simp)];simp only[bI];refine ae (hn _ _ _ ?_)
 dsimp only
 refine ae (eE hx ml (by simp) ?_);exact a6N hh λh' k=>q h' λb o hb e=>k b o ((bQ ..).extBut b o hb e)
def b1c{ps:List Nat}(hI:SIt sh.heap it (.ref tp) i z es.size ep)(ho:sh.heap.get? z=cz o)(r:D8 w o es ep t ms)(ht:sh.heap.get? tp=cz {cls:=.type "tuple",data:=.seq (ps.map λi=>c_ (i:Nat)).toArray})(hp:ps[i]?=cz p)(gQ:p<es.size)
  (q:∀h',SIt h' it (.ref tp) (i+1) z es.size ep->cB it sh.heap h'->Q (cz es[p].2) {sh with heap:=h'}):az (aO prog w) A (fJ (.ref it)) Q E sh:=by
 obtain⟨x,hx,rX,ml⟩:=id hI;obtain⟨_,hd,hf,_⟩:=id r;unfold fJ;refine ae (fu (bM (name:=cm "__next__") hI.typ F.slot_sit_next (bF F.slot_sit_next hI.typ F.entry_sit_next ?_ (F.args_sit_next _))));unfold Builtin.«set_iterator.__next__»;refine ae (m:=vF "__next__" 0 _) (ag ?_);refine ae (iV hx ml ?_)
 dsimp only
 refine ae (ix ho hd hf ?_);rw[aN (by simp)];simp only[bI];refine ae ?_;unfold AY;refine ae (mn ht ?_);refine ag ?_;have e1:(ps.map λi=>c_ (i:Nat)).toArray[i]?=cz (c_ (p:Nat)):=by rw[vm,aY,hp];rfl
 dsimp only
 rw[e1];show az _ _ (setNextDrawn z (p:Int).toNat ep >>= λx=>setField (.ref it) 1 (c_ ((i:Int)+1)) >>= λ_=>ret x) _ _ _;refine ae ?_;unfold setNextDrawn;refine ae (gX ho hd hf ?_)
 dsimp only
 rw[aN (by simp),bI,bP gQ];refine ae (ag (ag ?_));refine ae (eE hx ml (by simp) ?_);obtain⟨x2,sV,mL,hd2⟩:=SIt.put (it:=it) (x:=c_ ((i:Int)+1)) (j:=1) ⟨x,hx,rX,ml⟩;refine ag ⟨_,rfl,ag (q _ ⟨x2,sV,mL,?_⟩ (bQ ..))⟩;rw[hd2];simp[c_]
def a5G{ps:List Nat}(hh:A.handled=el)(hI:SIt sh.heap it (.ref tp) i z es.size ep)(ho:sh.heap.get? z=cz o)(r:D8 w o es ep t ms)(ht:sh.heap.get? tp=cz {cls:=.type "tuple",data:=.seq (ps.map λi=>c_ (i:Nat)).toArray})(hp:ps[i]?=el)
  (q:∀h',tO it sh.heap h'->Q el {sh with heap:=h'}):az (aO prog w) A (fJ (.ref it)) Q E sh:=by
 obtain⟨x,hx,rX,ml⟩:=id hI;obtain⟨_,hd,hf,_⟩:=id r;unfold fJ;refine ae (fu (bM (name:=cm "__next__") hI.typ F.slot_sit_next (bF F.slot_sit_next hI.typ F.entry_sit_next ?_ (F.args_sit_next _))));unfold Builtin.«set_iterator.__next__»;refine ae (m:=vF "__next__" 0 _) (ag ?_);refine ae (iV hx ml ?_)
 dsimp only
 refine ae (ix ho hd hf ?_);rw[aN (by simp)];simp only[bI];refine ae ?_;unfold AY;refine ae (mn ht (ag ?_));have e1:(ps.map λi=>c_ (i:Nat)).toArray[i]?=el:=by rw[vm,aY,hp];rfl
 dsimp only
 rw[e1]
 dsimp only
 refine ae (eE hx ml (by simp) ?_);obtain⟨x1,rY,Cd,yo⟩:=SIt.put (it:=it) (x:=c_ 0) (j:=0) ⟨x,hx,rX,ml⟩;refine ae (eE rY yo (by simp) ?_);exact a6N hh λh' k=>q h' λb o hb e=>k b o (((bQ ..).trans (bQ ..)).extBut b o hb e)
def a3b(hI:SIt sh.heap it first i z n ep)(q:Q (.ref it) sh):az (aO prog w) A (pF (.ref it)) Q E sh:=
 qw hI.typ F.slot_sit_iter (bF F.slot_sit_iter hI.typ F.entry_sit_iter (show az _ _ (ret (.ref it)) _ _ sh from ag ⟨_,rfl,"set_iterator",_,hI.typ,F.slot_sit_next.lookup,q⟩) (F.args_sit_iter _))
end
section
variable {prog:br}{w:bK}{A:bB}{E:ai->aj->Prop}{sh:aj}{it z tp:aw}{ep:Nat}{o:fm}{es:Array (Int×ai)}{t:gI}{ms:Prop}
def b3w(hh:A.handled=el)(r:D8 w o es ep t ms)(oK:w.params.followText "set-order"=p4)(hp:t.plain=fx\/es.size<=1)(ne:z≠it) :
  me prog w A it [it,z] [it] (es.toList.map (·.2)).length (λi v=>(es.toList.map (·.2))[i]?=cz v) (λi h=>(∃sl:Nat,SIt h it (.int sl 0) i z es.size ep/\eJ t.place sl=i)/\h.get? z=cz o) where
 sub:=λb hb=>aD.mpr (.inl (aq.mp hb))
 frame:=λ_ _ _ st k=>let⟨⟨sl,a,b⟩,c⟩:=st;⟨⟨sl,a.at λo e=>k it ar o e,b⟩,k z (au _ ar) _ c⟩
 item:=λi s Q E hi st q=>by
  obtain⟨⟨sl,a,b⟩,c⟩:=st;have mW:i<es.size:=by simpa using hi
  exact a6M (Φ:=λnx=>eJ t.place nx=i+1) (v:=es[i].2) a c r rfl (λA' E' Q' q'=>a6L c r oK hp b ⟨λh nx uj=>q' nx uj,λh=>absurd mW h⟩) λnx h' uj tE sb=>
   q _ h' s.toks (by rw[aY,cg,bP mW];rfl) ⟨⟨nx,tE,uj⟩,sb.extBut z o ne c⟩ λb o hb e=>sb.extBut b o (λy=>hb (by rw[y];exact aq.mpr rfl)) e
 done:=λs Q E st q=>by
  obtain⟨⟨sl,a,b⟩,c⟩:=st;refine a9B hh a c r rfl (λA' E' Q' q'=>a6L c r oK hp b ⟨λh=>absurd h (by simp),λ_=>q'⟩) λh' he=>q h' s.toks λb o hb e=>he b o (λy=>hb (by rw[y];exact aq.mpr rfl)) e
 self:=λ_ _ _ _ st q=>let⟨⟨_,a,_⟩,_⟩:=st;a3b a q
def b6a(hh:A.handled=el)(r:D8 w o es ep t ms)(oK:w.params.followText "set-order"=fx)(ne:z≠it) :
  me prog w A it [it,z] [it] ((lU (w.params.setOrder z ep) es).toList.map (·.2)).length (λi v=>((lU (w.params.setOrder z ep) es).toList.map (·.2))[i]?=cz v) (λi h=>SIt h it (.int (0:Nat) 0) i z es.size ep/\h.get? z=cz o) where
 sub:=λb hb=>aD.mpr (.inl (aq.mp hb))
 frame:=λ_ _ _ st k=>let⟨a,c⟩:=st;⟨a.at λo e=>k it ar o e,k z (au _ ar) _ c⟩
 item:=λi s Q E hi st q=>by
  obtain⟨a,c⟩:=st;have mW:i<(lU (w.params.setOrder z ep) es).size:=by simpa using hi
  exact a6M (Φ:=λnx=>nx=0) (v:=(lU (w.params.setOrder z ep) es)[i].2) a c r rfl (λA' E' Q' q'=>a9A c r oK (by rw[bP mW];exact q' 0 rfl)) λnx h' uj tE sb=>
   q _ h' s.toks (by rw[aY,cg,bP mW];rfl) ⟨uj▸tE,sb.extBut z o ne c⟩ λb o hb e=>sb.extBut b o (λy=>hb (by rw[y];exact aq.mpr rfl)) e
 done:=λs Q E st q=>by
  obtain⟨a,c⟩:=st;refine a9B hh a c r rfl (λA' E' Q' q'=>a9A c r oK (by rw[eM (by simp)];exact q')) λh' he=>q h' s.toks λb o hb e=>he b o (λy=>hb (by rw[y];exact aq.mpr rfl)) e
 self:=λ_ _ _ _ st q=>a3b st.1 q
def b3x{ps:List Nat}(hh:A.handled=el)(r:D8 w o es ep t ms)(sZ:∀p∈ps,p<es.size)(ne:z≠it)(ne2:tp≠it) :
  me prog w A it [it,z,tp] [it] (ps.map λp=>(es.toList.map (·.2)).getD p .none).length (λi v=>(ps.map λp=>(es.toList.map (·.2)).getD p .none)[i]?=cz v) (λi h=>SIt h it (.ref tp) i z es.size ep/\h.get? z=cz o/\h.get? tp=cz {cls:=.type "tuple",data:=.seq (ps.map λi=>c_ (i:Nat)).toArray}) where
 sub:=λb hb=>aD.mpr (.inl (aq.mp hb))
 frame:=λ_ _ _ st k=>let⟨a,c,d⟩:=st;⟨a.at λo e=>k it ar o e,k z (au _ ar) _ c,k tp (au _ (au _ ar)) _ d⟩
 item:=λi s Q E hi st q=>by
  obtain⟨a,c,d⟩:=st;have mW:i<ps.length:=by simpa using hi
  have gQ:=sZ _ (dc mW);exact b1c (p:=ps[i]) a c r d (ay mW) gQ λh' tE sb=>
   q _ h' s.toks (by rw[aY,ay mW,Iy,aW,aY,cg,bP gQ];rfl) ⟨tE,sb.extBut z o ne c,sb.extBut tp _ ne2 d⟩ λb o hb e=>sb.extBut b o (λy=>hb (by rw[y];exact aq.mpr rfl)) e
 done:=λs Q E st q=>by
  obtain⟨a,c,d⟩:=st;exact a5G hh a c r d (eh (by simp)) λh' he=>q h' s.toks λb o hb e=>he b o (λy=>hb (by rw[y];exact aq.mpr rfl)) e
 self:=λ_ _ _ _ st q=>a3b st.1 q
def b3y(ho:sh.heap.get? z=cz o)(r:D8 w o es ep t ms)
  (q:∀(it:aw) (h':bL) (d:Drawn) (fp:List aw) (St:Nat->bL->Prop) (ord:List ai),ord.Perm (es.toList.map (·.2))->(∀A':bB,A'.handled=el->me prog w A' it fp [it] ord.length (λi v=>ord[i]?=cz v) St)->St 0 h'->sh.heap.objs.size<=it->(∀b∈fp,b=z\/sh.heap.objs.size<=b)->
   (∀b o,sh.heap.get? b=cz o->h'.get? b=cz o)->Q (.ref it) {sh with heap:=h',drawn:=d}):az (aO prog w) A (pF (.ref z)) Q E sh:=by
 obtain⟨hex,hd,hf,hu,hl,hb,he⟩:=id r;have hT:sh.TypeIs (.ref z) "set":=⟨o,ho,hex.1⟩;have lz:=aB ho;refine qw hT F.slot_set_iter (bF F.slot_set_iter hT F.entry_set_iterA ?_ (F.args_set_iter_1 _));unfold Builtin.«frozenset.__iter__» Builtin.Frozenset.slot0;refine ae (m:=vF "__iter__" 0 _ >>= _) (ae (ag (show az _ _ (pure z) _ _ _ from ag ?_)));unfold Builtin.Frozenset.sizeOf;refine ae (ae (ix ho hd hf (ag ?_)));unfold setDrawn;refine ae (ae (gX ho hd hf (ae (U1 (ag ?_)))))
 dsimp only
 have tail:∀(first:ai) (uR:aj),uR.heap.get? z=cz o->(∀o1:fm,o1={cls:=.type "set_iterator",data:=.fields #[first,.int (0:Nat) 0,.ref z,.int es.size 0,.int ep 0]}->Q (.ref uR.heap.objs.size) {uR with heap:=uR.heap.push o1})->
   az (aO prog w) A.in1 (setEpoch z >>= λe=>newFields "set_iterator" [first,c_ 0,.ref z,c_ es.size,c_ e] >>= λv=>ret v) (λfin s'=>∃v,fin=Fin.done (Flow.ret v)/\∃T' r,s'.TypeIs v T'/\mq (dB T') (cm "__next__")=pure (cz r)/\Q v s') E uR:=λfirst uR h1 q1=>by
  refine ae (wpAny_setEpoch_of h1 hd hf ?_);unfold newFields;refine ae (dg (ag ⟨_,rfl,"set_iterator",_,⟨_,aF _ rfl,rfl⟩,F.slot_sit_next.lookup,?_⟩));exact q1 _ (by simp[c_])
 refine er (λc=>?_) λc=>?_
 ·rw[av]at c;refine ae (b3v _ _ _ _ (by simp) λps d hp=>?_);have lD:∀p∈ps,p<es.size:=λp h=>cC.mp (hp.mem_iff.mp h)
  refine ae (vy ?_ (by rw[ao,hp.length_eq,eB];exact lx hb));refine tail _ _ (ah _ ho) λo1 e1=>?_
  refine q _ _ d [(sh.heap.push {cls:=.type "tuple",data:=.seq (ps.map λi=>c_ (i:Nat)).toArray}).objs.size,z,sh.heap.objs.size] _ _ ?_ (λA' hA=>b3x (ps:=ps) (tp:=sh.heap.objs.size) hA r lD ?_ ?_) ⟨⟨o1,aF _ (by rw[e1];rfl),by rw[e1],by rw[e1]⟩,ah _ (ah _ ho),ah _ (aF _ rfl)⟩ ?_ ?_ λb o e=>ah _ (ah _ e)
  ·exact a3U (l:=es.toList.map (·.2)) (by simpa using hp)
  ·rw[cL];exact a_ (gz lz)
  ·rw[cL];exact a_ (iT _)
  ·rw[cL];exact gL _
  ·intro b kM;rw[cL]at kM;simp only[aD,cO,or_false]at kM;rcases kM with rfl|rfl|rfl
   ·exact .inr (gL _)
   ·exact .inl rfl
   ·exact .inr (aG _)
 ·refine ae (ag (tail _ _ ho λo1 e1=>?_));have ym:∀b∈[sh.heap.objs.size,z],b=z\/sh.heap.objs.size<=b:=by
   intro b kM;simp only[aD,cO,or_false]at kM;rcases kM with rfl|rfl
   ·exact .inr (aG _)
   ·exact .inl rfl
  have hI:SIt (sh.heap.push o1) sh.heap.objs.size (.int (0:Nat) 0) 0 z es.size ep:=⟨o1,aF _ (by rw[e1];rfl),by rw[e1],by rw[e1];rfl⟩;have tZ:(sh.heap.push o1).get? z=cz o:=ah _ ho;cases oK:w.params.followText "set-order" with
  |true=>
   exact q _ _ sh.drawn [sh.heap.objs.size,z] _ _ ((b1b _ es).map _) (λA' hA=>b6a hA r oK (a_ lz)) ⟨hI,tZ⟩ (aG _) ym λb o e=>ah _ e
  |false=>
   have fF:t.plain=fx\/es.size<=1:=by
    rw[oK]at c;have c':¬ (!t.plain&&decide (es.size>1))=fx:=λz=>c (show (!false&&(!t.plain&&decide (es.size>1)))=fx from by rw[z];rfl)
    cases h:t.plain with
    |true=>exact .inl rfl
    |false=>
     rw[h]at c';simp at c';exact .inr (by lia)
   exact q _ _ sh.drawn [sh.heap.objs.size,z] _ _ (iB _) (λA' hA=>b3w hA r oK fF (a_ lz)) ⟨⟨0,hI,a8o hu⟩,tZ⟩ (aG _) ym λb o e=>ah _ e
def b3z(hT:sh.TypeIs (.ref z) "set")(h:Q p4 sh):az (aO prog w) A (gZ (.ref z)) Q E sh:=by
 unfold gZ;refine ae (dC hT (by exact PySem.F.slot_set_len.lookup) ?_);generalize BW:("set.__len__":String)=Ep
 wp_delta
 rw[show splitId Ep=cz ("set","__len__") from by subst BW;decide +kernel];subst BW;refine ae (fB (T:="set") (b:=fx) hT (by rw[nH];kernel_rfl) (er (λy=>absurd y (by decide)) λ_=>er (λ_=>?_) λy=>absurd (by decide +kernel) y));exact ae (ij hT (ag h))
end
end VS
namespace VS
open PySem.Spec L2
section
variable {prog:br}{w:bK}{A:bB}{E:ai->aj->Prop}{sh:aj}{z:aw}{ep:Nat}{o:fm}{es:Array (Int×ai)}{t:gI}{ms:Prop}
def a6O(hh:A.handled=el)(ho:sh.heap.get? z=cz o)(r:D8 w o es ep t ms)
  (q:∀(vs:List ai) (h':bL) (tk:Nat) (d:Drawn),vs.Perm (es.toList.map (·.2))->Kept sh.heap h'->sh.heap.objs.size<=h'.objs.size->Q vs {sh with heap:=h',toks:=tk,drawn:=d}):az (aO prog w) A (collect (.ref z)) Q E sh:=by
 have lz:=aB ho
 let L:fm:={cls:=.type "list",data:=.seq #[]}
 have zd:(sh.heap.push L).get? z=cz o:=ah _ ho;have Ge:jB {sh with heap:=sh.heap.push L} (.ref z) "set":=⟨o,zd,r.1.1⟩;have FX:es.size<=aQ:=lx r.2.2.2.2.2.1
 let S:aw:=sh.heap.objs.size
 have key:∀(it:aw) (fp:List aw) (St:Nat->bL->Prop) (ord:List ai) (d:Drawn) (W:∀A':bB,A'.handled=el->me prog w A' it fp [it] ord.length (λi v=>ord[i]?=cz v) St),ord.Perm (es.toList.map (·.2))->S∉fp->sh.heap.objs.size<=it->
   ∀(h:bL) (c1 tk:Nat),St 0 h->(∀b o,b≠S->(sh.heap.push L).get? b=cz o->h.get? b=cz o)->h.get? S=cz {cls:=.type "list",data:=.seq #[] c1}->
   gA (aO prog w) A (.builtin "list.extend.loop" ⟨[.ref S,.ref it,.ref S],[]⟩) (λg s'=>∃(h':bL) (tk:Nat) (d:Drawn) (acc:Array ai) (c:Nat),g=.ok (.ret (.ref S))/\s'={sh with heap:=h',toks:=tk,drawn:=d}/\h'.get? S=cz {cls:=.type "list",dict:=el,data:=.seq acc c,slots:=#[]}/\Q acc.toList {sh with heap:=h',toks:=tk,drawn:=d}) {sh with heap:=h,toks:=tk,drawn:=d}:=by
  intro it fp St ord d W hp nf hit h c1 tk st k hS;have hn:ord.length<=aQ:=by rw[hp.length_eq];simpa using FX
  refine PySem.codeAny_extend_loopS (W A.in1 (by simpa using hh)).toS hn S nf (.ref S) ord.length 0 _ #[] c1 rfl (cI _) st hS (ItemsOf.nil _) λs' acc c' m mX kP=>?_
  rw[Moved.eq_with m];refine⟨s'.heap,s'.toks,d,acc,c',rfl,rfl,mX,?_⟩;have e:acc.toList=ord:=by
   refine nZ λi=>?_
   rw[cg];by_cases c:i<ord.length
   ·obtain⟨x,hx⟩:∃x,acc[i]?=cz x:=⟨_,bP (by rw[kP.1];exact c)⟩;rw[hx];exact (kP.2 i x hx).symm
   ·rw[eM (by rw[kP.1];lia),eh (by lia)]
  rw[e];refine q ord s'.heap s'.toks d hp (λb o x=>m.heap b o (λhm=>?_) (k b o (a_ (aB x)) (ah _ x))) (dZ (aB mX));have lb:=aB x;rcases aD.mp hm with e'|e'
  ·exact absurd (e'▸lb) (cR _)
  ·exact absurd lb (by rw[aq.mp e'];exact Nat.not_lt.mpr hit)
 unfold collect;refine ae (ny (dD (by exact nu) ?_));rw[cZ (by exact qm) _];show az _ A.in1 (newList [] >>= λl=>again (.builtin "list.__iadd__" ⟨[l,.ref z],[]⟩)) _ _ sh;refine ae (dg (ag ⟨fw (by exact ir) _,dD (by exact pD) ?_⟩));rw[cZ (by exact ir) _];show az _ A.in1 (dq (.ref S) (.ref z) (.ref S)) _ _ {sh with heap:=sh.heap.push L};have Cj:S≠z:=dz lz;unfold dq;refine ae (ij (T:="set") Ge ?_);have h1:iE (.ref S) (.ref z)=p4:=by simp[iE,Cj]
 simp only[h1,show (dB "set" == dB "list")=p4 from by decide,show (dB "set" == dB "tuple")=p4 from by decide,Bool.or_false,cV,fQ];refine ae (b3y (sh:={sh with heap:=sh.heap.push L}) zd r λit h' d fp St ord hp W st hit ym k=>?_);have oF:sh.heap.objs.size<=it:=cx (by show _<=(sh.heap.push L).objs.size;rw[cL];exact gL _) hit;have nf:S∉fp:=λy=>by
  rcases ym S y with e|e
  ·exact Cj e
  ·have e':(sh.heap.push L).objs.size<=S:=e;rw[cL]at e';exact absurd e' (Nat.not_succ_le_self _)
 have xu:h'.get? S=cz {cls:=.type "list",data:=.seq #[] 0}:=k S _ (aF _ rfl);have tZ:h'.get? z=cz o:=k z _ zd;have last:∀(h2:bL) (c1:Nat),St 0 h2->(∀b o,b≠S->(sh.heap.push L).get? b=cz o->h2.get? b=cz o)->h2.get? S=cz {cls:=.type "list",data:=.seq #[] c1}->_:=λh2 c1 a b c=>ff (key it fp St ord d W hp nf oF h2 c1 sh.toks a b c) (R':=λr s'=>match r with
       |Except.ok (Flow.ret v)=>az (aO prog w) A (match v with|aS a=>load a >>= λu=>(match u.data with|Data.seq xs _=>pure xs.toList|_=>sQ "internal:collect")|_=>sQ "internal:collect") Q E s'
       |Except.ok _=>False
       |Except.error e=>E e s') λg s2 y=>by
  obtain⟨h3,tk,d3,acc,c,rfl,rfl,e1,qq⟩:=y;show az _ A (load S >>= _) _ _ _;exact ae (mn e1 (ag qq))
 refine ae (bJ (b3z ⟨o,tZ,r.1.1⟩ ?_));refine er (λ_=>?_) (λ_=>ag ⟨fw (by exact rK) _,last h' 0 st (λb o _ e=>k b o e) xu⟩);refine ae (ef (ae ?_));show az _ _ (rO S (·.push .none) >>= λ_=>rO S (·.pop)) _ _ _;refine ae (jQ xu rfl ?_);have xt:=bR (ib (·.push bZ)) xu rfl;refine jQ (hz:=by seq_fits) xt rfl ?_;have Ao:=bR (ib (·.pop)) xt rfl;refine ag ⟨fw (by exact rK) _,last _ _ ?_ (λb o hb e=>?_) Ao⟩
 ·exact (W A hh).frame 0 _ _ st λb hb o e=>by
   have Ce:S≠b:=λy=>nf (by rw[y];exact hb)
   exact (dH _ _ Ce).trans ((dH _ _ Ce).trans e)
 ·exact (dH _ _ (dy hb)).trans ((dH _ _ (dy hb)).trans (k b o e))
end
end VS
namespace VS
open PySem.Spec L2
open PyProof.Rows (slot_list_sort entry_list_sort args_list_sort kind_sorted plain_sorted entry_sorted args_sorted1 IntsAre)
section
variable {prog:br}{w:bK}{A:bB}{E:ai->aj->Prop}{sh:aj}{z:aw}{ep:Nat}{o:fm}{es:Array (Int×ai)}{t:gI}{ms:List Int}
def b6b(he:EI l ms){vs:List ai}(hp:vs.Perm (l.map (·.2))):(∀v∈vs,∃n tk,v=.int n tk)/\(vs.map iOf).Perm ms:=by
 refine⟨λv hv=>?_,(hp.map iOf).trans ?_⟩
 ·obtain⟨e,h1,rfl⟩:=aR.mp (hp.mem_iff.mp hv);obtain⟨n,tk,h2,_⟩:=he.1 e h1;exact⟨n,tk,h2⟩
 ·rw[bG];exact he.2
theorem a9C:∀{vs:List ai},(∀v∈vs,∃n tk,v=.int n tk)->IntsAre vs (vs.map iOf)
 |[],_=>.nil
 |v::vs,h=>by
  obtain⟨n,tk,rfl⟩:=h v ar;exact .cons n tk (a9C λx hx=>h x (au _ hx))
def a8r(hh:A.handled=el)(ho:sh.heap.get? z=cz o)(r:a3a w o es ep t ms)(Au:ms.length<64)
  (q:∀(vs:List ai) (h':bL) (tk e:Nat) (d:Drawn) (y:aw),IntsAre vs (srt ms)->Kept sh.heap h'->sh.heap.objs.size<=y->h'.get? y=cz (uT "list" vs.toArray e)->Q (.ref y) {sh with heap:=h',toks:=tk,drawn:=d}) :
  az (aO prog w) A (call (.builtin "sorted") [.ref z]) Q E sh:=by
 refine lg kind_sorted plain_sorted entry_sorted (args_sorted1 _) ?_;unfold Builtin.«sorted»;refine ae (m:=checkCount "sorted" 1 1 _) (ag ?_);refine ae (a6O (A:=A.in1) (by simpa using hh) ho r λvs h1 tk d hp k1 z1=>?_);obtain⟨i1,i2⟩:=b6b r.2.2.2.2.2.2 hp;have hl:vs.length<64:=by have:=i2.length_eq;rw[ao]at this;lia
 refine ae (wpAny_newList ?_ (by rw[cE];lia));have oL:(h1.push (uT "list" vs.toArray 0)).get? h1.objs.size=cz (uT "list" vs.toArray 0):=aF _ rfl;refine ae (bJ (bF slot_list_sort ⟨_,oL,rfl⟩ entry_list_sort (qu (s:={sh with heap:=h1.push (uT "list" vs.toArray 0),toks:=tk,drawn:=d}) oL (a9C i1) hl λout Eb a1 a2 a3=>⟨_,rfl,?_⟩) (args_list_sort _)));obtain⟨e,jN⟩:=rl (out:=out) oL;refine ag ⟨_,rfl,q out.toList _ tk e d h1.objs.size ?_ (λb u hb=>?_) z1 (by rw[gP];exact jN)⟩
 ·rw[<-a6A (a2.trans i2) a3];exact a1
 ·have kM:=k1.push (uT "list" vs.toArray 0) b u hb;have:=aB hb;exact (qo (a_ (bb (aB hb) z1)) (aB kM)).trans kM
end
section
variable {X:Cx}{M:List Md}{a:Expr}{fa:EvE}{ca:Cat}{pos gF p p2:eA}{pins:List (aw×fm)}{Y:L2.St}{H:Hp}{s:aj}
def b1d(I:Inv X pins Y H s)(d:Drawn):Inv X pins Y H {s with drawn:=d}:=⟨I.ok,I.os,I.bare,I.base,I.loc,I.cell,I.free,I.freeC,I.pin,I.hok,I.len⟩
def b1e(hc:X.calm=fx):CallR X (.type "set") (λxs H Q=>∃(p:aw) (ns:List Int),xs=[.ref p]/\SqX X.K H p (ns.map V.int)/\ns.length<4000/\∀z,H z=el->Q (.ref z) (upd H z (.ext λh=>SetI X.w h z (dis ns)))):=by
 intro pins s Y H xs us Q I rv h;obtain⟨p,ns,rfl,hp,hn,q⟩:=h;obtain⟨u,rfl,rx⟩:=vals1 rv;cases (show u=aS p from rx)
 obtain⟨_,cP,n,xX,ho⟩:=hp.ok I;have hl:s.heap.IsList p cP.toArray:=⟨_,ho,rfl,n,rfl⟩;have hlen:cP.length=ns.length:=by have:=xX.length;rw[ao]at this;exact this.symm
 refine b1a (ns:=ns) (I.ok.hd hc) hl (by simpa using a4y xX) (by rw[bC,hlen];unfold jq;lia) λh' tk hS hk=>?_
 have pO:H s.heap.objs.size=el:=I.hok.fresh (aG _);have hsz:cP.toArray.size=ns.length:=by rw[bC];exact hlen
 rw[hsz]at hS;exact⟨.ref s.heap.objs.size,_,I.laid (a:=s.heap.objs.size) (o:=.ext λh=>SetI X.w h s.heap.objs.size (dis ns)) (t':=tk) hk (aG _) ⟨hS,let⟨o,_,_,_,e,_⟩:=hS;⟨o,e⟩,λ_ _ x k=>x.at k⟩,rfl,q _ pO⟩
def a8s(hc:X.calm=fx):CallR X (.builtin "sorted") (λxs H Q=>∃p ms,xs=[V.ref p]/\H p=cz (.ext λh=>SetI X.w h p ms)/\ms.length<64/\∀z,H z=el->Q (.ref z) (upd H z (.lst ((srt ms).map V.int)))):=by
 intro pins s Y H xs us Q I rv h;obtain⟨p,ms,rfl,hH,Au,q⟩:=h;obtain⟨u,rfl,rx⟩:=vals1 rv;cases (show u=aS p from rx)
 obtain⟨⟨o,es,ep,t,ho,r⟩,_,_⟩:=(show (SetI X.w s.heap p ms)/\_/\_ from I.hok p _ hH);refine a8r (I.ok.hd hc) ho r Au λvs h' tk e d y hi hk hy hl=>?_
 have hn:H y=el:=I.hok.fresh hy;have mw:((srt ms).map V.int).length<=aQ:=by rw[ao,(v4 ms).length_eq,cE];lia
 exact⟨.ref y,_,b1d (I.laid (a:=y) (o:=.lst ((srt ms).map V.int)) (t':=tk) hk hy ⟨mw,vs,e,vals_ints hi,hl⟩) d,rfl,q _ hn⟩
def a0I(a:EvE):EvE:=λU=>(a U).bind λd=>(asL d).bind λds=>(intsOf ds).bind λns=>if ns.length<64 then cz (.list ((srt (dis ns)).map .int)) else el
def b9r(ns:List Int):(dis ns).length<=ns.length:=PyProof.Rows.firstMet_length_le _ _
def a8t(hc:X.calm=fx)(hm:X.mg "set"=el)(Fn:X.mg "sorted"=el)(ha:PX X M a fa ca)(hg:Gl X "set":=by rfl)(Fz:Gl X "sorted":=by rfl)(he:ak [a] X.env=(p4,bX a X.env)::ak [] X.env:=by rfl)(fF:(bY gF (ak [] X.env)).any (·.1)=p4:=by rfl)
  (kr:ak [.Call (.Name "set" p2) [a] [] gF] X.env=(p4,bX (.Call (.Name "set" p2) [a] [] gF) X.env)::ak [] X.env:=by rfl) (oD:(bY pos (ak [] X.env)).any (·.1)=p4:=by rfl) :
  PX X M (.Call (.Name "sorted" p) [.Call (.Name "set" p2) [a] [] gF] [] pos) (a0I fa) (.new (.l .i)):=by
 obtain⟨ta,pa,qa⟩:=ha.out;refine .mk ⟨_,N8 (a8s hc) Fz Fn PyProof.Rows.Boot.«sorted» (l7 (C5 (b1e hc) hg hm PyProof.Rows.Boot.«set» (l7 pa o5 he) (by decide) (by decide) he fF) o5 kr) (by decide) (by decide) kr oD,λU Y H P F d Q S hf q=>?_⟩;obtain⟨x,h1,g1⟩:=bnd hf;obtain⟨ds,h2,g2⟩:=bnd g1;obtain⟨ns,h3,g3⟩:=bnd g2;cases Q7 h2
 cases K9 h3
 by_cases c:ns.length<64
 ·rw[aJ c]at g3;cases g3
  refine qa U Y H P F _ _ S h1 λv H1 e1 r1=>?_
  obtain⟨pp,xs,rfl,k1,k2⟩:=r1.den.list_inv;cases X1 k2
  refine⟨pp,ns,rfl,k1,by lia,λz hz=>⟨z,_,rfl,i7,by have:=b9r ns;lia,λy hy=>?_⟩⟩;have e2:=e1.trans (j9 hz (.ext λh=>SetI X.w h z (dis ns)));refine q _ _ (e2.trans (j9 hy _)) (N3 ?_ (b8Y _) e2 hy (S.lst' e2));have:∀(H':Hp) (ms:List Int),DenAll X.K H' (ms.map V.int) (ms.map aI):=by
   intro H' ms
   induction ms with
   |nil=>exact denAll_nil
   |cons n ms ih=>exact denAll_cons den_int ih
  exact this _ _
 ·rw[aN c]at g3;cases g3
end
end VS
namespace VS
open PySem.Spec L2
section
variable {X:Cx}{M:List Md}{a b:Expr}{fa fb:EvE}{ca cb:Cat}{pos p:eA}
def b6c:OpR X (eF .Add) (λx y H Q=>∃a b ys,x=.ref a/\y=.ref b/\SqT X.K H a []/\SqT X.K H b ys/\Q (.ref b) H):=by
 intro pins s Y H x y v u Q I rx ry h;obtain⟨a,b,ys,rfl,rfl,ha,hb,q⟩:=h;cases rx
 cases ry
 obtain⟨cP,r1,p1,_⟩:=I.tuple ha;obtain⟨rV,r2,p2,_⟩:=I.tuple hb;cases r1
 obtain⟨⟨cls,dd,data,sl⟩,ho,hc,n,hd⟩:=id p1;obtain⟨⟨AH,yB,data2,vG⟩,ui,mL,n2,hd2⟩:=id p2;simp only at hc hd mL hd2;subst hc hd mL hd2;exact GY ⟨_,ho,rfl⟩ ⟨_,ui,rfl⟩ rT yQ kX kH (kj _ _) (PyProof.Rows.tuple_addW0 a b _ _ n n2 dd yB sl vG (by simp)) ⟨ho,ui,⟨.ref b,H,I,rfl,q⟩⟩
def a0J:D->D->Option D
 |.tuple [],.tuple es=>V6 (.tuple es)
 |x,y=>b2N x y
def b6d(ha:PX X M a fa ca)(hb:PX X M b fb cb):PX X M (.BinOp a .Add b pos) (e2 a0J fa fb) (.new .i):=by
 obtain⟨ta,pa,qa⟩:=ha.out;obtain⟨tb,pb,qb⟩:=hb.out;have DX:OpR X (eF .Add) (λx y H Q=>(∃a b ys,x=V.ref a/\y=V.ref b/\SqT X.K H a []/\SqT X.K H b ys/\Q (.ref b) H)\/b6Y X.K x y H Q):=λpins s Y H x y v u Q I rx ry h=>h.elim (λh=>b6c pins s Y H x y v u Q I rx ry h) λh=>b5i pins s Y H x y v u Q I rx ry h
 refine .mk ⟨_,b1V DX pa pb,λU Y H P F d Q S hf q=>?_⟩;obtain⟨x,y,h1,h2,h3⟩:=D7 hf;refine qa U Y H P F _ _ S h1 λv H1 e1 r1=>qb U Y H1 P F _ _ (S.grow e1) h2 λw H2 e2 r2=>?_
 by_cases c:∃es,x=.tuple []/\y=.tuple es
 ·obtain⟨es,rfl,rfl⟩:=c;obtain⟨rfl,hi⟩:=Q6 (show V6 (.tuple es)=cz d from h3);obtain⟨pp,xs,rfl,k1,k2⟩:=(r1.den.up e2).tup_inv;obtain⟨qq,ys,rfl,j1,j2⟩:=r2.den.tup_inv;cases k2.nil_inv
  exact .inl ⟨pp,qq,ys,rfl,rfl,k1,j1,q _ _ (e1.trans e2) (B7 hi (den_tup j1 j2) (S.lst' (e1.trans e2)))⟩
 ·have qW:b2N x y=cz d:=by
   unfold a0J at h3
   split at h3
   ·exact absurd ⟨_,rfl,rfl⟩ c
   ·exact h3
  obtain⟨ds,es,rfl,rfl,ik,hl,rfl,hi⟩:=a8f qW;obtain⟨pp,xs,rfl,k1,k2⟩:=(r1.den.up e2).tup_inv;obtain⟨qq,ys,rfl,j1,j2⟩:=r2.den.tup_inv;have xl:=k2.length;have yl:=j2.length;refine .inr ⟨pp,qq,xs,ys,rfl,rfl,k1,j1,λz=>ik (dR.mp (by rw[<-xl,z];rfl)),by rw[xl,yl,cE];lia,λz=>?_,λ_ z hz=>?_⟩
  ·have:es=[]:=dR.mp (by rw[<-yl,z];rfl);subst this;rw[bH]at hi q;exact q _ _ (e1.trans e2) (B7 hi (den_tup k1 k2) (S.lst' (e1.trans e2)))
  ·exact q _ _ ((e1.trans e2).trans (j9 hz _)) (B7 hi (a2G (k2.append j2) hz) (S.lst' ((e1.trans e2).trans (j9 hz _))))
end
end VS
namespace VS
open PySem.Spec
section
variable {prog:br}{w:bK}{A:bB}{E:ai->aj->Prop}{sh:aj}{o:aw}{rows:Array eQ}{ep:Nat}
theorem a4H:∀(l:List α),(∀e∈l,∀Q':ForInStep PUnit->aj->Prop,Q' (.yield ⟨⟩) sh->az (aO prog w) A (f e ⟨⟩) Q' E sh)->∀Q:PUnit->aj->Prop,Q ⟨⟩ sh->az (aO prog w) A (forIn l kY f) Q E sh
 |[],_,Q,q=>by rw[jL];exact ag q
 |e::l,h,Q,q=>by
  rw[jg];exact ae (h e ar _ (a4H l (λx hx=>h x (au _ hx)) Q q))
def a6P{id:String}{u:fm}{Q:Array eQ->aj->Prop}(hu:sh.heap.get? o=cz u)(o_:u.data=.dict rows ep)(ju:∀e∈rows,∃b,e.key=.ref b/\sh.TypeIs (.ref b) "tuple")(hd:∀e∈rows,¬ (rows.filter (·.hash==e.hash)).size>1)(q:Q rows sh) :
  az (aO prog w) A (uP id o) Q E sh:=by
 unfold uP;refine ae (cD hu o_ ?_);refine ae ?_;rw[<-ni];refine a4H rows.toList (λe he Q' q'=>?_) _ (ag q);obtain⟨b,hb,hT⟩:=ju e (dU.mp he);rw[hb];unfold Builtin.Dict.quietEq
 dsimp only
 refine ae (ae (dC hT F.slot_tuple_eq.lookup (ag ?_)));refine er (λ_=>er (λc=>absurd c (hd e (dU.mp he))) λ_=>ag q') λ_=>ag q'
def b1f(tz:d≠o)(h0:(o==cS)=p4)(hm:sh.heap.RawDict o rows ep)(uw:sh.heap.RawDict d #[] 0)(ik:rows.size≠0)(ju:∀e∈rows,∃b,e.key=.ref b/\sh.TypeIs (.ref b) "tuple")(hd:∀e∈rows,¬ (rows.filter (·.hash==e.hash)).size>1)(hz:rows.size<=aQ)
  (q:∀h',h'.RawDict d rows 1->cB d sh.heap h'->Q () {sh with heap:=h'}):az (aO prog w) A (i_ nm d o) Q E sh:=by
 obtain⟨u,hu,HK,o_⟩:=id hm;obtain⟨v,hv,EB,yd⟩:=id uw;unfold i_;rw[aN (by simpa using tz)]
 dsimp only
 unfold jo;rw[aN (by rw[h0];exact bc)];refine ae (ag (ae (cD hu o_ ?_)));have GG:(decide (rows.size<=8)&&rows.all λe=>(keyPart e.key).isSome)=p4:=by
  rw[Bool.and_eq_false_iff];refine .inr ?_;rw[Array.all_eq_false];obtain⟨b,hb,_⟩:=ju rows[0] (Array.getElem_mem _);exact⟨0,by lia,by rw[hb];simp[keyPart]⟩
 rw[GG,aJ (show (!false)=fx from rfl)];refine ae (cD hv yd ?_);rw[aJ (show (#[]:Array eQ).isEmpty=fx from rfl)];refine ae (a6P hu o_ ju hd ?_);rw[aJ (by simpa[Array.isEmpty]using ik)];refine ae (wpAny_updateDictKeysTo hv yd (ag (q _ ⟨_,bR _ hv (iy (ic yd _)),EB.mapDictKeys _,ic yd _⟩ (bQ ..))) (Nat.le_succ_of_le hz))
def a3c(h0:(o==cS)=p4)(hm:sh.heap.RawDict o rows ep)(ik:rows.size≠0)(ju:∀e∈rows,∃b,e.key=.ref b/\sh.TypeIs (.ref b) "tuple")(hd:∀e∈rows,¬ (rows.filter (·.hash==e.hash)).size>1)(hz:rows.size<=aQ)
  (q:∀h',h'.RawDict sh.heap.objs.size rows 1->(∀b u,sh.heap.get? b=cz u->h'.get? b=cz u)->Q (.ref sh.heap.objs.size) {sh with heap:=h'}):az (aO prog w) A (call (.type "dict") [.ref o]) Q E sh:=by
 refine xO (Q₁:=λv s1=>v=.ref sh.heap.objs.size/\s1={sh with heap:=sh.heap.push {cls:=.type "dict",data:=.dict #[]}}) F.kt_called_dict (F.kt_typeCall_dict_1 _) F.entry_dict_init (kt_code_dict_new _ ⟨rfl,rfl⟩) ?_;rintro v s1 ⟨rfl,rfl⟩;have hn:(sh.heap.push {cls:=.type "dict",data:=.dict #[]}).RawDict sh.heap.objs.size #[] 0:=⟨_,aF _ rfl,⟨rfl,rfl,rfl⟩,rfl⟩;have ho:(sh.heap.push {cls:=.type "dict",data:=.dict #[]}).RawDict o rows ep:=hm.at λ_ e=>ah _ e
 have xq:jB {sh with heap:=sh.heap.push {cls:=.type "dict",data:=.dict #[]}} (.ref sh.heap.objs.size) "dict":=Heap.RawDict.typeIs (sh:={sh with heap:=sh.heap.push {cls:=.type "dict",data:=.dict #[]}}) hn;have uF:jB {sh with heap:=sh.heap.push {cls:=.type "dict",data:=.dict #[]}} (.ref o) "dict":=Heap.RawDict.typeIs (sh:={sh with heap:=sh.heap.push {cls:=.type "dict",data:=.dict #[]}}) ho;have tz:sh.heap.objs.size≠o:=by
  obtain⟨_,hg,_⟩:=hm;exact λe=>absurd (aB hg) (by rw[e];exact cR _)
 refine⟨xq,F.args_dict_init_2 _ _,?_⟩;unfold Builtin.«dict.__init__» lP;refine ae (ae (fL xq (show az _ _ (pure (sh.heap.objs.size,[aS o])) _ _ _ from ag ?_)));show az _ _ (eR "dict.__init__" sh.heap.objs.size (aS o) [] bZ) _ _ _;unfold eR Builtin.Dict.merge yH;refine ae (ij uF ?_);rw[aN (by decide)];refine ae (ae (ae (fB uF isSubtype_dict_dict ?_)));simp only[kq,cV,fQ];refine ae (dC uF sL.lookup (ag ?_));simp only[eS,jr];refine ae (ag ?_);refine b1f tz h0 ho hn ik (λe he=>let⟨b,hb,u,hu,hc⟩:=ju e he;⟨b,hb,u,ah _ hu,hc⟩) hd hz λh' hr sb=>?_
 show az _ _ (AQ sh.heap.objs.size [] >>= λ_=>_) _ _ _;exact ae (ag (ag ⟨rfl,q h' hr λb u e=>sb.extBut b u (a_ (aB e)) (ah _ e)⟩))
end
end VS
namespace VS
open PySem.Spec L2
theorem a4I{f:α->Int}:∀{l:List α},(l.map f).Nodup->∀e∈l,(l.filter λx=>f x==f e).length<=1
 |a::l,h,e,he=>by
  rw[aA,bD]at h;have none_of:∀y,y∉l.map f->(l.filter λx=>f x==y)=[]:=λy hy=>uM.mpr λx hx c=>hy (aR.mpr ⟨x,hx,fM.mp c⟩)
  rcases aD.mp he with z|z
  ·subst z;rw[Ho,none_of _ h.1]
   split<;>simp
  ·rw[Ho];have ik:(f a==f e)=p4:=eH.mpr λc=>h.1 (by rw[c];exact aR.mpr ⟨e,z,rfl⟩)
   rw[ik];exact a4I h.2 e z
section
variable {X:Cx}
def a6Q:CallR X (.type "dict") (λxs H Q=>∃p es,xs=[V.ref p]/\H p=cz (c9 p es)/\es≠[]/\L4 es=fx/\(∀e∈es,∃b ys,e.2.1=.ref b/\SqT X.K H b ys)/\(es.map λe=>hashD e.1).Nodup/\∀z,H z=el->Q (.ref z) (upd H z (c9 z es))):=by
 intro pins s Y H xs us Q I rv h;obtain⟨p,es,rfl,hH,ik,hL,hk,hn,q⟩:=h;obtain⟨u,rfl,rx⟩:=vals1 rv;cases (show u=aS p from rx)
 obtain⟨h0,hl,ja,o,ents,ep,g1,g2,g3,g4⟩:=o7 I hH;have hsz:ents.size=es.length:=by rw[dF g4];exact cN.symm
 have lD:∀{es:List (D×V×V)} {l:List eQ},eU O7 es l->∀x∈l,∃e∈es,O7 e x:=by
  intro es l h
  induction h with
  |nil=>intro x hx;cases hx
  |cons r _ ih=>
   intro x hx;rcases aD.mp hx with z|z
   ·subst z;exact⟨_,ar,r⟩
   ·obtain⟨e,he,r'⟩:=ih x z;exact⟨e,au _ he,r'⟩
 have wM:∀{es:List (D×V×V)} {l:List eQ},eU O7 es l->l.map (·.hash)=es.map λe=>hashD e.1:=by
  intro es l h
  induction h with
  |nil=>rfl
  |cons r _ ih=>rw[aA,aA,ih,r.1]
 refine a3c (rows:=ents) h0 ⟨o,g1,g2,g3⟩ (by rw[hsz];exact λz=>ik (dR.mp z)) (λx hx=>?_) (λx hx=>?_) (by rw[hsz];exact hl) λh' hr Fs=>?_
 ·obtain⟨e,he,r⟩:=lD g4 x (dU.mpr hx);obtain⟨b,ys,e1,e2⟩:=hk e he;have r2:=r.2.1;rw[e1]at r2;obtain⟨cP,_,⟨ob,ho,hc,_⟩,_⟩:=I.tuple e2;exact⟨b,r2,ob,ho,hc⟩
 ·have z:=a4I (f:=λx:eQ=>x.hash) (l:=ents.toList) (by rw[wM g4];exact hn) x (dU.mpr hx);rw[<-Array.toList_filter,cN]at z;lia
 ·obtain⟨o',b1,b2,b3⟩:=hr;have pO:H s.heap.objs.size=el:=I.hok.fresh (aG _);have EJ:(s.heap.objs.size==cS)=p4:=eH.mpr (dy (a_ I.sysBelow));exact⟨.ref s.heap.objs.size,_,I.laid (a:=s.heap.objs.size) (o:=c9 s.heap.objs.size es) (t':=s.toks) Fs (aG _) (Y3 EJ hl ja b1 b2 b3 (λz=>by rw[hL]at z;cases z) g4),rfl,q _ pO⟩
end
def J0(kvs:List (D×D)):Bool:=keysOk fx kvs&&(!kvs.isEmpty&&(b2j kvs&&decide (kvs.map λp=>hashD p.1).Nodup))
def a5H(a:EvE):EvE:=λU=>(a U).bind λd=>match d with
 |.dict kvs=>if J0 kvs then cz (.dict kvs) else el
 |_=>el
theorem a6R:∀l:List (α×β),(l.map (·.1)).zip (l.map (·.2))=l
 |[]=>rfl
 |x::l=>by rw[aA,aA,ei,a6R l]
section
variable {X:Cx}{M:List Md}{a:Expr}{fa:EvE}{ca:Cat}{pos p:eA}
def b1g(hm:X.mg "dict"=el)(ha:PX X M a fa ca)(hc:frozen ca:=by trivial)(hg:Gl X "dict":=by rfl)(he:ak [a] X.env=(p4,bX a X.env)::ak [] X.env:=by rfl)(fF:(bY pos (ak [] X.env)).any (·.1)=p4:=by rfl) :
  PX X M (.Call (.Name "dict" p) [a] [] pos) (a5H fa) (.new (.d fx .f)):=by
 obtain⟨ta,pa,qa⟩:=ha.out;refine .mk ⟨_,C5 a6Q hg hm PyProof.Rows.Boot.«dict» (l7 pa o5 he) (by decide) (by decide) he fF,λU Y H P F d Q S hf q=>?_⟩;obtain⟨x,h1,g1⟩:=bnd hf;cases x with
 |dict kvs=>
  by_cases c:J0 kvs=fx
  ·have g2:(if J0 kvs then cz (be.dict kvs) else el)=cz d:=g1;rw[aJ c]at g2;cases g2
   simp only[J0,av,cG]at c;obtain⟨c1,c2,c3,c4⟩:=c;refine qa U Y H P F _ _ S h1 λv H1 e1 r1=>?_
   obtain⟨aa,es,rfl,k1,k2⟩:=(G8 hc r1).dict_inv;have kk:=k2.keys;have kd:=k2.kden;have ky:∀e∈es,keyOk fx e.1:=λe he=>by
    have:e.1∈kvs.map (·.1):=by rw[<-kk];exact aR.mpr ⟨e,he,rfl⟩
    obtain⟨pp,hp,e2⟩:=aR.mp this;rw[<-e2];exact z0 (bj.mp c1 pp hp)
   refine⟨aa,es,rfl,i8 _ _ k1,λz=>?_,by rw[a6F k2];exact c3,λe he=>?_,?_,λz hz=>?_⟩
   ·rw[z]at kk;cases kvs with
    |nil=>simp at c2
    |cons _ _=>cases kk
   ·obtain⟨ds,wX⟩:=(ky e he).2.2.1 rfl;have dd:=kd e he;rw[wX]at dd;obtain⟨b,xs,e2,e3,_⟩:=(dd.up i8).tup_inv;exact⟨b,xs,e2,e3⟩
   ·rw[show (es.map λe=>hashD e.1)=kvs.map λp=>hashD p.1 by
     have:=dY (List.map hashD) kk
     rwa[bG,bG]at this]
    exact c4
   ·have hs:Same (cut H1 F) (cut (upd H1 z (c9 z es)) ([z]++F)):=λb y hy=>by
     obtain⟨n1,n2⟩:=o9 hy;have hb:b≠z:=λw=>by rw[w,hz]at n2;cases n2
     refine k6 (λw=>?_) (by rw[f8 hb];exact n2);rcases aC.mp w with w|w
     ·exact hb (aq.mp w)
     ·exact n1 w
    refine q _ _ (e1.trans (j9 hz _)) ⟨[z],?_,bD.mpr ⟨λw=>(nomatch w),bg⟩,λb hb=>?_⟩
    ·simp only[Own];refine⟨z,es,kvs.map (·.2),[],rfl,i7,by rw[kk,a6R],rfl,⟨?_,λe he=>⟨ky e he,(kd e he).up hs⟩⟩,ListAll.of_den (k2.vals.up hs) λv d _ q=>⟨rfl,q⟩⟩;rw[kk];have c5:=c4;rw[List.Nodup,nY]at c5 ⊢;exact c5.imp λh e=>h (by rw[e])
    ·rw[aq.mp hb];cases hH:H z with
     |none=>rfl
     |some y=>rw[e1 _ _ hH]at hz;cases hz
  ·have g2:(if J0 kvs then cz (be.dict kvs) else el)=cz d:=g1;rw[aN c]at g2;cases g2
 |_=>cases g1
end
section
variable {X:Cx}{M:List Md}{e:Expr}{f:EvE}{u:Ty}{kt:Bool}
def a9D(h:PX X M e f (.new (.d kt u))):PX X M e f (.new (.d kt .f)):=h.imp λK H H' F v d hF _ ⟨fp,o,n,z⟩=>by
 simp only[Own]at o;obtain⟨a,es,ds,fs,rfl,ha,rfl,rfl,⟨k1,k2⟩,la⟩:=o;have jt:∀b∈[a]++F,b∈(a::fs)++F:=λb hb=>by
  rcases aC.mp hb with y|y
  ·rw[aq.mp y];simp
  ·exact ax _ y
 have ue:∀b∈fs,b∉[a]++F:=λb hb y=>by
  rcases aC.mp y with y|y
  ·rw[aq.mp y]at hb;exact (bD.mp n).1 hb
  ·obtain⟨ys,q⟩:=hF b y;rw[z b (au _ hb)]at q;cases q
 have key:∀{ds:List D} {xs:List V} {gs:List aw},ListAll (Own K H' ((a::fs)++F) u) xs ds gs->(∀b∈gs,b∈fs)->ListAll (Own K H' ([a]++F) .f) xs ds []:=by
  intro ds
  induction ds with
  |nil=>intro xs gs l _;obtain⟨rfl,rfl⟩:=l.nil_inv;exact n5
  |cons d ds ih=>
   intro xs gs l hs;obtain⟨v,r,f,g,rfl,rfl,l1,l2⟩:=l.cons_inv;exact m7 (f:=[]) (g:=[]) (l1.freeze jt λb hb=>ue b (hs b (aM _ hb))) (ih l2 λb hb=>hs b (ax _ hb))
 exact⟨[a],by simp only[Own];exact⟨a,es,ds,[],rfl,ha,rfl,rfl,⟨k1,λe he=>⟨(k2 e he).1,(k2 e he).2.up (D5 jt)⟩⟩,key la λ_ y=>y⟩,by simp,λb hb=>z b (by rw[aq.mp hb];exact ar)⟩
end
section
variable {X:Cx}{M ML M':List Md}{e:Expr}{f:EvE}{pos:eA}
def b6e(hM:M.map frz=M)(he:PX X M e f .tmp):PSX X .f ML M (.Return (cz e) pos) (m9 f) M':=by
 obtain⟨te,pe,qe⟩:=he.out;refine .mk ⟨_,b1P pe,λD U Y H P F o S hg k=>?_⟩;obtain⟨d,h1,g1⟩:=bnd hg;cases g1
 have S0:=S.free hM;refine qe U Y H P [] d _ S0.toE h1 λv H1 e1 hd=>?_
 refine k v H1 [] (by simp only[Own];exact⟨trivial,(show Den X.K H1 v d from hd).up λa x ha=>k6 (by simp) ha⟩) bg (λa ha=>(nomatch ha)) ((S0.prot.trans i8).trans e1)
end
section
variable {X:Cx}{M:List Md}{e0:Expr}{es:List Expr}{f:EvA}{uf:Ty}{x:bt}{p pos j_:eA}{params:mi}{body:Expr}{scope:gy}{ys:List bt}{js:List Nat}
def a6S{ps pl N:List bt}{us:List Ty} 
  (W:Has X.prog X.w X.K X.mg X.base x k ps (spL X.K n (λgm=>FnV X.prog X.w X.K X.mg X.base (kf+1) pl.length uf gm) m .f)) (hr:Room k X.A) (h:PAL X M (e0::es) f λH v=>∃fa,v=.ref fa/\LamO q params body scope (Q2 scope X.env) H fa)
  (uz:a9y X (Q2 scope X.env) ys js) (hM:b9p M js) (S:LamScope N pl ys scope (Q2 scope X.env)) (nj:us.length=pl.length)
  (nK:∀(pm:ai) (c:aw) (mB:ai) (us:List ai),us.length=pl.length->q_ (PySem.W.kla_fn "<lambda>" q params body scope (Q2 scope X.env) pm (.ref c) mB) ⟨us,[]⟩=pure (pl.zip us))
  (hb:∀(fa c:aw) (A:bB) (outer:List n_) (s:aj) (H:Hp),Room kf (A.deeper (jy q scope s.heap.objs.size fa (.ref c) (Q2 scope X.env)))->PX (a9x X.prog X.w X.K X.mg X.base N q scope fa (.ref c) (Q2 scope X.env) A outer s H) (us.map .own++aL ys.length (.own .f)) body fb (.new uf))
  (hfl:∀U ds,f U=cz ds->ds.length=n) (oI:∀x,X.fn x=fx:=by exact λ_=>rfl)
  (hg:Gl X x:=by rfl) (lG:(x==("__debug__":bt))=p4:=by decide) (he:ak (e0::es) X.env=(p4,bX e0 X.env)::ak es X.env:=by rfl) (fF:(bY pos (ak es X.env)).any (·.1)=p4:=by rfl) :
  PX X M (.Call (.Name x p) (e0::es) [] pos) (b5X m us js fb f) .tmp:=by
 obtain⟨t,pa,qa⟩:=h;obtain⟨Ih,fd,F,b,kp,Eg⟩:=W.ex;refine .mk ⟨_,b3l F hr hg Eg kp b pa uz (b5V oI) lG he fF,λU Y H P F d Q S' hf q=>?_⟩;obtain⟨ds,h1,hf⟩:=bnd hf;refine qa U Y H P F ds _ S' h1 λvs v H1 e1 r1 ⟨fa,hv,L⟩=>?_
 subst hv;obtain⟨lQ,c1,c2⟩:=a9z (S'.grow e1) hM;refine⟨lQ,c1,λH2 C ur s2 ci GZ J2 o2 n2=>?_⟩;refine⟨vs,.ref fa,_,ds,d,rfl,by rw[r1.length];exact hfl U ds h1,r1.up s2,λH' e'=>b5T (L.up (s2.trans e')) S ur (ci.up e') (λy c z=>let⟨ob,uo,w1,w2⟩:=GZ y c z;⟨ob,uo,e' _ _ w1,w2⟩) (c2.up (s2.trans e')) nj nK (hb fa),hf,λv H' fp e o nd fr J'=>?_⟩;have sm:Same H1 (VS.cut H' C):=λb o' hb=>k6 (λz=>by rw[n2 b z]at hb;cases hb) (e _ _ (s2 _ _ hb))
 exact q v (VS.cut H' C) (e1.trans sm) ((o.junk J' .f).den .f)
end
def Iti(a:aw)(es:List (D×V×V)):It:=
 ⟨λi H=>H a=cz (c9 a es)/\i<es.length,λi H x H'=>∃T e,H T=el/\H'=upd H T (.tup [e.2.1,e.2.2])/\x=.ref T/\es[i]?=cz e,λi H=>H a=cz (c9 a es)/\es.length<=i⟩
def a3d(hk:z8 es):L4 es=p4:=by
 cases es with
 |nil=>rfl
 |cons e es=>
  obtain⟨n,e1,_⟩:=hk e ar;show (a0g e.1&&a6g e.2.2)=p4;rw[e1];rfl
def G0(I:Inv X pins Y H s)(hH:H d=cz (c9 d es))(hk:z8 es) :
  ∃kvs,s.heap.DictAt (cW X.prog X.w) d kvs es.length/\(d==cS)=p4/\eU EKv es kvs/\kvs.length=es.length:=by
 obtain⟨kvs,ep,jN,h0,_,hp⟩:=T9 I hH hk;have he:ep=es.length:=by
  obtain⟨o,ents,g1,g2,g3,_⟩:=id jN;exact a2P I hH g1 g3 (a3d hk)
 subst he;exact⟨kvs,jN,h0,hp,(dF hp).symm⟩
def a8u(a it:aw)(es:List (D×V×V))(hk:z8 es):Turn P w K (.Tuple elts kk gE) (Iti a es) [it] it (λi h=>∃ok ov,IsItemIter h it a i es.length es.length ok ov) where
 mem:=by simp
 obj:=λi h st b hb=>by
  obtain⟨ok,ov,he⟩:=st;cases aq.mp hb
  exact⟨_,he,λv z=>by cases z⟩
 keep:=λi h h' st k=>by
  obtain⟨ok,ov,he⟩:=st;exact⟨ok,ov,k it (by simp) _ he⟩
 item:=by
  intro X hP hw hK hc i pins s Y H E I hf st hg;subst hP hw hK;obtain⟨hH,hi⟩:=hg;obtain⟨kvs,jN,h0,hp,hlen⟩:=G0 I hH hk;obtain⟨ok,ov,he⟩:=st;have hx:es[i]?=cz es[i]:=ay hi;obtain⟨⟨n,v⟩,zQ,g⟩:=F5 hp hx;rw[<-hlen]at he jN;refine wpAny_pyNext_items_item (knd:=cW X.prog X.w) he jN zQ λkey h' ju oF ua hsz keep=>⟨.ref s.heap.objs.size,rfl,wpAny_letOwnedTupleGo_items (s:={s with heap:=h'}) oF λh2 kr AZ=>?_⟩
  have hn:H s.heap.objs.size=el:=I.hok.fresh (aG _);have Ci:s.heap.objs.size≠it:=dz (aB he);obtain⟨t,rfl⟩:=rg ju;have new:ObjOk X.prog X.w (upd H s.heap.objs.size (.tup [es[i].2.1,es[i].2.2])) h2 s.heap.objs.size (.tup [es[i].2.1,es[i].2.2]):=
   ⟨by rw[cE];show 2<=_;decide,[.int n t,v],.cons (by rw[g.2.1];exact⟨t,rfl⟩) (.cons g.2.2 .nil),_,AZ.extBut _ _ Ci ua,rfl,_,rfl⟩
  refine⟨.ref s.heap.objs.size,upd H s.heap.objs.size (.tup [es[i].2.1,es[i].2.2]),a9v (s:=s) (t':=s.toks) (ch:=[it]) I (λb o hb q=>AZ.extBut b o (by simpa using hb) (keep b o (by simpa using hb) q)) hf (aG _) new,rfl,⟨_,es[i],hn,rfl,rfl,hx⟩,⟨_,_,by rw[hlen]at kr;exact kr⟩,λb hb=>?_⟩;rw[f8 (λz=>Ci (by rw[<-z];exact aq.mp hb))];exact (hf b hb).1
 done:=by
  intro X hP hw hK hc i pins s Y H E I hf st hg;subst hP hw hK;obtain⟨hH,hi⟩:=hg;obtain⟨kvs,jN,h0,hp,hlen⟩:=G0 I hH hk;obtain⟨ok,ov,he⟩:=st;rw[<-hlen]at he jN;exact wpAny_pyNext_items_end (knd:=cW X.prog X.w) (I.ok.hd hc) he jN (eh (by lia)) λh' hx=>⟨rfl,a0E (t':=s.toks) (ch:=[it]) I (λb o hb y=>hx b o (by simpa using hb) y) hf⟩
 self:=λ_ _ _ _ _ st h=>by
  obtain⟨ok,ov,he⟩:=st;exact PySem.W.kcp_self he h
section
variable {X:Cx}{M ML:List Md}{o iter:Expr}{elts:List Expr}{kk:Nat}{gE apos cH pos:eA}{fa:EvE}{ca:Cat}{u:Ty}{body:List fS}{g:EvS}
def c2K(to:TE):TI:=λY H R=>to Y H λx H1=>∃p es,x=.ref p/\H1 p=cz (c9 p es)/\z8 es/\R (Iti p es) H1
def b3A(ho:PE X o to)(eX:dE o "items" X.env (bX o X.env)=bX o X.env:=by rfl)(eW:(apos.endLine==cH.line)=fx:=by rfl):PI X (.Tuple elts kk gE) (.Call (.Attribute o "items" apos) [] [] cH) (c2K to):=by
 intro pins s Y H R I h;refine iG eX eW (L2.thn (ho pins s Y H _ I h) λv s1 ⟨x,H1,I1,r1,p,es,ex,hH,hk,q1⟩=>?_);subst ex;obtain rfl:v=aS p:=r1;obtain⟨kvs,jN,h0,hp,hlen⟩:=G0 I1 hH hk;refine⟨"dict","dict.items",iu,tJ,PySem.F.type_dict_items,l6 I1 hH,M8 I1 hH,fq rfl (jk ?_)⟩;refine Hb tJ (l6 I1 hH) PySem.F.entry_dict_items (PySem.F.args_dict_items_1 _) (meets_dict_items (cW X.prog X.w) p h0) ⟨⟨kvs,jN.dictOf⟩,?_⟩;refine wpAny_pyIter_items (knd:=cW X.prog X.w) ⟨_,aF _ rfl,rfl,rfl⟩ (jN.at λ_ e=>ah _ e) ?_;have hz:(s1.heap.push {cls:=.type "dict_items",data:=.fields #[.ref p]}).objs.size=s1.heap.objs.size+1:=cL ..;refine⟨_,[_],_,_,H1,rfl,I1.kept (t':=s1.toks) λb o e=>ah _ (ah _ e),a8u p _ es hk,⟨.none,.none,by rw[<-hlen];exact aF _ rfl⟩,λb hb=>?_,q1⟩;have e:=aq.mp hb;have kM:s1.heap.objs.size<=b:=by rw[e,hz];exact gL _
 exact I1.fpOk kM (I1.hok.fresh kM)
end
def a3e(p:D×D):D:=.tuple [p.1,p.2]
def iIt(a:EvE):EvA:=λU=>(a U).bind λd=>match d with
 |.dict kvs=>if keysOk p4 kvs then cz (kvs.map a3e) else el
 |_=>el
def a1V:∀{kvs:List (D×D)} {es:List (D×V×V)},DenKV K H es kvs->keysOk p4 kvs=fx->z8 es:=λ{kvs es} h hk e he=>by
 have hd:=h.kden e he;have hm:e.1∈kvs.map (·.1):=by rw[<-h.keys];exact bE he
 obtain⟨p,hp,zx⟩:=aR.mp hm;have h2:p9 p4 p.1=fx:=bj.mp hk p hp;rw[zx]at h2;cases hx:e.1 with
 |int n=>rw[hx]at hd;exact⟨n,rfl,by simpa only [Den]using hd⟩
 |_=>rw[hx]at h2;simp[p9]at h2
section
variable {X:Cx}{M ML:List Md}{o iter:Expr}{elts:List Expr}{kk:Nat}{gE apos cH pos:eA}{fa:EvE}{ca:Cat}{u:Ty}{body:List fS}{g:EvS}
def c1l(X:Cx)(M:List Md)(tg iter:Expr)(f:EvE):Prop:=
 ∃wi,PI X tg iter wi/\∀(U:List D) (Y:L2.St) (H P:Hp) (F:List aw) (kvs:List (D×D)) (R:It->Hp->Prop),StE X.K M U Y H P F->f U=cz (.dict kvs)->keysOk p4 kvs=fx->
  (∀a es H1,Same H H1->(∀H2,Same (cut H1 F) H2->H2 a=cz (c9 a es))->DenKV X.K (cut H1 F) es kvs->R (Iti a es) H1)->wi Y H R
def c2L(h:PX X M o fa ca)(hc:frozen ca:=by trivial)(eX:dE o "items" X.env (bX o X.env)=bX o X.env:=by rfl)(eW:(apos.endLine==cH.line)=fx:=by rfl):c1l X M (.Tuple elts kk gE) (.Call (.Attribute o "items" apos) [] [] cH) fa:=by
 obtain⟨t,p,q⟩:=h.out;refine⟨_,b3A p eX eW,λU Y H P F kvs R S hf hk k=>?_⟩;refine q U Y H P F _ _ S hf λv H1 e1 r1=>?_
 obtain⟨aa,es,rfl,k1,k2⟩:=(G8 hc r1).dict_inv;exact⟨aa,es,rfl,i8 _ _ k1,a1V k2 hk,k _ es H1 e1 (λH2 e2=>e2 _ _ k1) k2⟩
def b1h{K:af}{H:Hp}{kvs:List (D×D)}{es:List (D×V×V)}(h:DenKV K H es kvs){i:Nat}{e:D×V×V}(he:es[i]?=cz e):∃p,kvs[i]?=cz p/\Den K H e.2.1 p.1/\Den K H e.2.2 p.2:=by
 have h1:=h.kden e (bx he);have h2:(es.map (·.1))[i]?=cz e.1:=by rw[aY,he];rfl
 rw[h.keys,aY]at h2;obtain⟨p,hp,zx⟩:=dw.mp h2;obtain⟨d,hd,uv⟩:=h.vals.getV (show (es.map (·.2.2))[i]?=cz e.2.2 by rw[aY,he];rfl);rw[aY,hp]at hd;cases hd
 exact⟨p,hp,by rw[zx];exact h1,uv⟩
def b3B{fi:EvA}{tg:Expr}{MB:List Md}{gt:TG}{set:List D->D->Option (List D)}{m:D->Prop}(hc:X.calm=fx)(hp:kz (aO X.prog X.w) X.A X.env X.xe)(hi:c1l X M tg iter fa)(hg:PG X tg gt)(hs:b0y X.K M MB gt set m)(hm:∀U ds,fi U=cz ds->∀d∈ds,m d)(wR:∀{U ps},fi U=cz ps->iIt fa U=cz ps)(hb:PSsX X u M MB body g M)
  (hf:∀x,eO iter X.env x=pure x:=by intro _;rfl):PSX X u ML M (.For tg iter body [] pos) (M6 fi set g) M:=by
 obtain⟨wi,pi,qi⟩:=hi;obtain⟨tb,pb,qb⟩:=hb.out;refine .mk ⟨_,a7C hp hc pi hg pb hf,λD U Y H P F o S oH k=>?_⟩;obtain⟨ps,h1,g1⟩:=bnd oH;obtain⟨d0,h2,g2⟩:=bnd (wR h1);obtain⟨kvs,rfl⟩:∃kvs,d0=.dict kvs:=by
  cases d0 with
  |dict kvs=>exact⟨kvs,rfl⟩
  |_=>cases g2
 have g3:(if keysOk p4 kvs=fx then cz (kvs.map a3e) else el)=cz ps:=g2;have hk:keysOk p4 kvs=fx:=by
  by_cases c:keysOk p4 kvs=fx
  ·exact c
  ·rw[aN c]at g3;cases g3
 rw[aJ hk]at g3;have sZ:kvs.map a3e=ps:=aK g3;refine qi U Y H P F kvs _ S.toE h2 hk λa es H1 e1 ud hx=>?_
 have S1:=S.grow e1;have qD:es.length=kvs.length:=by have:=dY gN hx.keys;simpa using this
 have fF:ps.length=es.length:=by rw[<-sZ,ao,qD]
 refine⟨λi n Y' H'=>n=es.length-i/\i<=es.length/\∃U' F',StR X.K M U' Y' H' (cut H1 F) F'/\T6 set g (ps.drop i) U'=cz o,⟨es.length,by simp,cI _,U,F,⟨S1.all,S1.lst,Same.refl _⟩,g1⟩,?_⟩;rintro i n Y' H' ⟨rfl,hi,U',F',S',hfl⟩;have ll:Same (cut H1 F) (cut H' F'):=S'.prot;have q:=ud H' (ll.trans i8);by_cases gQ:i<es.length
 ·refine .inr ⟨⟨q,gQ⟩,λY2 H2=>∃U2 F2,StR X.K M U2 Y2 H2 (cut H1 F) F2/\T6 set g (ps.drop (i+1)) U2=cz o,λY2 H2 ⟨U2,F2,S2,h2⟩=>⟨es.length-(i+1),by lia,rfl,gQ,U2,F2,S2,h2⟩,λx H2 hy=>?_⟩;obtain⟨T,e,hT,rfl,rfl,he⟩:=hy;have nr:i<ps.length:=by lia
  have lX:ps.drop i=ps[i]::ps.drop (i+1):=fE nr;rw[lX]at hfl;obtain⟨U1,uc,g4⟩:=bnd (show (set U' ps[i]).bind _=cz o from hfl);obtain⟨o1,hg1,g5⟩:=bnd g4;obtain⟨pr,zv,dk,dv⟩:=b1h (DenKV.mono ll _ hx) he;have qH:ps[i]=a3e pr:=by
   have:ps[i]?=cz (a3e pr):=by rw[<-sZ,aY,zv];rfl
   rw[ay nr]at this;exact aK this
  have nL:Same H' (upd H' T (.tup [e.2.1,e.2.2])):=j9 hT _;have S2:=S'.grow nL;have Am:T∉F':=λz=>by
   obtain⟨ys,e⟩:=S'.lst T z;rw[hT]at e;cases e
  have qQ:Den X.K (cut (upd H' T (.tup [e.2.1,e.2.2])) F') (.ref T) (a3e pr):=by
   have mL:Same (cut H' F') (cut (upd H' T (.tup [e.2.1,e.2.2])) F'):=D4 nL;have jN:cut (upd H' T (.tup [e.2.1,e.2.2])) F' T=cz (.tup [e.2.1,e.2.2]):=k6 Am i7;exact den_tup (SqT.of jN) (denAll_cons (dk.up mL) (denAll_cons (dv.up mL) denAll_nil))
  rw[qH]at uc;refine hs U' Y' _ (cut H1 F) F' (.ref T) _ U1 _ S2 qQ (hm U ps h1 _ (by rw[<-qH];exact dc nr)) uc λY3 F3 S3=>qb _ U1 Y3 _ (cut H1 F) F3 o1 S3 hg1 ?_
  cases o1 with
  |nx U2=>exact λY4 H4 F4 S4=>⟨U2,F4,S4,g5⟩
  |ct U2=>exact λY4 H4 F4 S4=>⟨U2,F4,S4,g5⟩
  |bk U2=>
   have:o=.nx U2:=(aK g5).symm;subst this;exact λY4 H4 F4 S4=>k Y4 H4 F4 ⟨S4.all,S4.lst,S1.prot.trans S4.prot⟩
  |rt d=>
   have:o=.rt d:=(aK g5).symm;subst this;refine λv H4 fp o nd fr e=>k v H4 fp o nd (λa ha=>?_) (S1.prot.trans e)
   exact S1.prot.free (fr a ha)
 ·have e:i=es.length:=by lia
  subst e;rw[<-fF,kK]at hfl;have:o=.nx U':=(aK hfl).symm;subst this;exact .inl ⟨⟨q,aG _⟩,k Y' H' F' ⟨S'.all,S'.lst,S1.prot.trans S'.prot⟩⟩
end
end VS
namespace PySem
section
variable {prog:br}{w:bK}{A:bB}{E:ai->aj->Prop}{s:aj}
def a1W(h:Q (s.heap.get? a) s):az M A (loadIfAlive a) Q E s:=λ_ _ _=>h
def b3C:¬ (aS t==bZ)=fx:=bc
def a8v(hit:s.heap.IsTupleIter it t i)(ht:s.heap.IsTuple t vs)(hx:vs[i]?=cz x)
  (q:∀h',h'.IsTupleIter it t (i+1)->cB it s.heap h'->Q x {s with heap:=h'}):az (aO prog w) A (cw (.ref it)) Q E s:=by
 obtain⟨o,ho,hc,hd⟩:=id hit;obtain⟨u,hu,_,n,o_⟩:=ht;unfold cw;refine ae (bM (name:=cm "__next__") hit.typeIs ie (bF ie hit.typeIs vq ?_ (uN _)));show az _ _ (pw (.ref it) 0 >>= _) _ _ s;refine ae (cQ ho hd (x:=.ref t) rfl ?_);show az _ _ (ite ((aS t==bZ)=fx) _ _) _ _ s;rw[aN b3C];show az _ _ (pw (.ref it) 1 >>= _) _ _ s;refine ae (cQ ho hd (x:=.int i 0) rfl ?_);show az _ _ (AY (.ref t) >>= _) _ _ s;refine ae (dO hu o_ ?_);simp only[bI,hx];refine ae (eE ho hd (by simp) (ag ⟨x,rfl,ag (q _ ?_ (bQ ..))⟩));exact⟨_,bR _ ho (ng (gC hd _)),(ro ..).trans hc,by rw[gC hd];simp[c_]⟩
def b1i(hh:A.handled=el)(hit:s.heap.IsTupleIter it t i)(ht:s.heap.IsTuple t vs)(hx:vs[i]?=el)
  (q:∀h' e,tO it s.heap h'->(∃o,h'.get? e=cz o/\o.cls=.type "StopIteration")->E (.ref e) {s with heap:=h'}):az (aO prog w) A (cw (.ref it)) Q E s:=by
 obtain⟨o,ho,hc,hd⟩:=id hit;obtain⟨u,hu,_,n,o_⟩:=ht;unfold cw;refine ae (bM (name:=cm "__next__") hit.typeIs ie (bF ie hit.typeIs vq ?_ (uN _)));show az _ _ (pw (.ref it) 0 >>= _) _ _ s;refine ae (cQ ho hd (x:=.ref t) rfl ?_);show az _ _ (ite ((aS t==bZ)=fx) _ _) _ _ s;rw[aN b3C];show az _ _ (pw (.ref it) 1 >>= _) _ _ s;refine ae (cQ ho hd (x:=.int i 0) rfl ?_);show az _ _ (AY (.ref t) >>= _) _ _ s;refine ae (dO hu o_ ?_);simp only[bI,hx];refine ae (ef (ae (eE ho hd (by simp) ?_)));show az _ _ (Ec (.type "StopIteration") [] >>= _) _ _ _;simp only[Ec,newTuple];refine ae (ae (dg ?_ (by size_fits)));refine ae (m:=iW _ _) (sO (a:=bZ) (by first|rfl|(simp only[iW];rfl)) ?_);refine dg ?_ (by size_fits);simp only[raiseNew];refine ae (yM ?_)
 first|rw[show A.in1.handled=el from hh]|rw[hh]
 exact ae (ag (wpAny_throw (q _ _ (((bQ ..).extBut.push _).push _) ⟨_,aF _ rfl,rfl⟩)))
end
def Draws.tup{prog:br}{w:bK}{A:bB}(hh:A.handled=el)(it t:aw)(ik:t≠it)(vs:Array ai):Draws prog w A it [it,t] vs.size (λi v=>vs[i]?=cz v) (λi h=>h.IsTupleIter it t i/\h.IsTuple t vs) where
 live:=λ_ _ st=>let⟨o,ho,_⟩:=st.1;⟨o,ho⟩
 frame:=λ_ _ _ st hk=>⟨let⟨o,ho,r⟩:=st.1;⟨o,hk it (by simp) o ho,r⟩,let⟨o,ho,r⟩:=st.2;⟨o,hk t (by simp) o ho,r⟩⟩
 item:=λi s Q E hi st hQ=>a8v st.1 st.2 (x:=vs[i]) (by simp[hi]) λh' oF rA=>hQ _ h' s.toks (by simp[hi]) ⟨oF,st.2.extBut rA.extBut ik⟩ rA
 done:=λs Q E st hE=>b1i hh st.1 st.2 (by simp) hE
def a3f(h:bL)(z TI TO i1 i2:aw):Prop:=
 jA h TI (.ref i1) (.ref i2)/\(∃a b,jA h TO a b)/\(pE h z TI TO .none\/∃(T:aw) (f1:ai) (o:fm),T≠z/\T≠TO/\T≠i1/\T≠i2/\h.get? T=cz o/\h.get? z=cz {cls:=.type "zip",dict:=el,data:=.fields #[c_ T,f1,.bool p4,.ref TI,.ref TO],slots:=#[]})
structure ZApart (z TI TO i1 i2:aw) (fp1 fp2:List aw):Prop where
 TIz:TI≠z
 TOz:TO≠z
 TITO:TI≠TO
 i12:i1≠i2
 TI1:TI≠i1
 TI2:TI≠i2
 TO1:TO≠i1
 TO2:TO≠i2
 z1:z≠i1
 z2:z≠i2
 zf1:z∉fp1
 zf2:z∉fp2
 Of1:TO∉fp1
 Of2:TO∉fp2
 if2:i1∉fp2
 if1:i2∉fp1
section
variable {prog:br}{w:bK}{A:bB}{E:ai->aj->Prop}{s:aj}{z TI TO i1 i2:aw}{fp1 fp2:List aw}{n i:Nat}{P1 P2:Nat->ai->Prop}{St1 St2:Nat->bL->Prop}
def b1j{Q:ai->aj->Prop}(D1:Draws prog w A i1 fp1 n P1 St1)(D2:Draws prog w A i2 fp2 n P2 St2)(Z:ZApart z TI TO i1 i2 fp1 fp2)(hz:a3f s.heap z TI TO i1 i2)(hi:i<n)(s1:St1 i s.heap)(s2:St2 i s.heap)
  (q:∀T x y h' tk,P1 i x->P2 i y->s.heap.objs.size<=T->jA h' T x y->a3f h' z TI TO i1 i2->St1 (i+1) h'->St2 (i+1) h'->(∀c o,c≠z->c≠TO->c≠i1->c≠i2->s.heap.get? c=cz o->h'.get? c=cz o)->Q (.ref T) {s with heap:=h',toks:=tk}) :
  az (aO prog w) A (Builtin.«zip.__next__» ⟨[.ref z],[]⟩) (λfin s'=>∃v,fin=.done (.ret v)/\Q v s') E s:=by
 have uH:∀{h h':bL} {j:Nat},St1 j h->(∀b o,b≠z->b≠TO->b≠i2->h.get? b=cz o->h'.get? b=cz o)->St1 j h':=λst k=>D1.frame _ _ _ st λb hb o e=>k b o (λx=>Z.zf1 (x▸hb)) (λx=>Z.Of1 (x▸hb)) (λx=>Z.if1 (x▸hb)) e
 have tG:∀{h h':bL} {j:Nat},St2 j h->(∀b o,b≠z->b≠TO->b≠i1->h.get? b=cz o->h'.get? b=cz o)->St2 j h':=λst k=>D2.frame _ _ _ st λb hb o e=>k b o (λx=>Z.zf2 (x▸hb)) (λx=>Z.Of2 (x▸hb)) (λx=>Z.if2 (x▸hb)) e
 obtain⟨sv,⟨a,b,xr⟩,hz⟩:=hz;rcases hz with hz|⟨T0,f1,o0,t1,t2,t3,t4,yt,hz⟩
 ·show az _ _ (pw (.ref z) 2 >>= _) _ _ _;refine ae (cQ hz rfl (x:=.bool p4) rfl ?_);show az _ _ (pw (.ref z) 3 >>= _) _ _ _;refine ae (cQ hz rfl (x:=.ref TI) rfl (ae (dO sv rfl ?_)));show az _ _ (bV (.ref z) >>= _) _ _ _;unfold bV;refine ae (ae (cQ hz rfl (x:=.none) rfl (ag ?_)));simp only[jr];refine ae (ef (ae (cQ hz rfl (x:=.ref TO) rfl ?_)));refine ae (fI hz (by simp) λh₁ jD e₁=>ae ?_)
  replace jD:pE h₁ z TI TO .ellipsis:=jD
  simp only[Hj,IB,jg,jL];refine ae (ae (yL ?_));show az _ _ (cw (.ref i1) >>= _) _ _ _;refine ae (D1.item i _ _ _ hi (uH s1 λb o b1 _ _ e=>e₁.extBut _ _ b1 e) λx h₂ k₂ px g1 e₂=>ag ?_)
  replace e₂:cB i1 h₁ h₂:=e₂
  have qU:jA h₂ TO a b:=e₂.extBut _ _ Z.TO1 (e₁.extBut _ _ Z.TOz xr);refine ae (dO qU rfl (ae (wpAny_updateSeq_pair qU λh₃ oN e₃=>ae (nz (ag ?_)))))
  replace e₃:cB TO h₂ h₃:=e₃
  replace oN:jA h₃ TO x b:=oN
  have lR:∀c o,c≠z->c≠TO->c≠i1->s.heap.get? c=cz o->h₃.get? c=cz o:=λc o c1 c2 c3 e=>e₃.extBut _ _ c2 (e₂.extBut _ _ c3 (e₁.extBut _ _ c1 e))
  refine ae (ae (yL ?_));show az _ _ (cw (.ref i2) >>= _) _ _ _;refine ae (D2.item i _ _ _ hi (tG s2 λb o b1 b2 b3 e=>lR b o b1 b2 b3 e) λy h₄ k₄ py g2 e₄=>ag ?_)
  replace e₄:cB i2 h₃ h₄:=e₄
  have qT:jA h₄ TO x b:=e₄.extBut _ _ Z.TO2 oN;refine ae (dO qT rfl (ae (wpAny_updateSeq_pair qT λh₅ lY e₅=>ae (nz (ag (ag ?_))))))
  replace e₅:cB TO h₄ h₅:=e₅
  replace lY:jA h₅ TO x y:=lY
  refine ae (dO lY rfl (ae (vy ?_)));have sz:h₅.objs.size=s.heap.objs.size:=by rw[e₅.1,e₄.1,e₃.1,e₂.1,e₁.1]
  have sS:pE h₅ z TI TO .ellipsis:=e₅.extBut _ _ Z.TOz.symm (e₄.extBut _ _ Z.z2 (e₃.extBut _ _ Z.TOz.symm (e₂.extBut _ _ Z.z1 jD)));have sP:∀c o,c≠z->c≠TO->c≠i1->c≠i2->s.heap.get? c=cz o->h₅.get? c=cz o:=λc o c1 c2 c3 c4 e=>e₅.extBut _ _ c2 (e₄.extBut _ _ c4 (lR c o c1 c2 c3 e))
  show az _ _ (oS (.ref z) (.ref h₅.objs.size) >>= _) _ _ _;unfold oS;have wb:pE (h₅.push {cls:=.type "tuple",data:=.seq #[x,y]}) z TI TO .ellipsis:=ah _ sS;refine ae (ae (fI wb (by simp) λh₇ qC e₇=>?_))
  replace qC:pE h₇ z TI TO (c_ h₅.objs.size):=qC
  refine fI qC (by simp) λh₈ qB e₈=>ag ⟨_,rfl,?_⟩
  replace qB:pE h₈ z TI TO (c_ h₅.objs.size):=qB
  have nD:∀c o,c≠z->h₅.get? c=cz o->h₈.get? c=cz o:=λc o c1 e=>e₈.extBut _ _ c1 (e₇.extBut _ _ c1 (ah _ e))
  have yJ:z<h₅.objs.size:=aB sS;have Ej:i1<h₅.objs.size:=by
   obtain⟨o,ho⟩:=D1.live _ _ g1;rw[e₅.1,e₄.1,e₃.1];exact aB ho
  have Ei:i2<h₅.objs.size:=by
   obtain⟨o,ho⟩:=D2.live _ _ g2;rw[e₅.1];exact aB ho
  have hT:jA h₈ h₅.objs.size x y:=e₈.extBut _ _ (dz yJ) (e₇.extBut _ _ (dz yJ) (aF _ rfl));refine q h₅.objs.size x y h₈ k₄ px py (by rw[sz];exact aG _) hT ⟨nD _ _ Z.TIz (sP _ _ Z.TIz Z.TITO Z.TI1 Z.TI2 sv),⟨x,y,nD _ _ Z.TOz lY⟩,.inr ⟨h₅.objs.size,.bool p4,_,dz yJ,dz (aB lY),dz Ej,dz Ei,hT,qB⟩⟩ ?_ ?_ λc o c1 c2 c3 c4 e=>nD c o c1 (sP c o c1 c2 c3 c4 e)
  ·exact uH g1 λb o b1 b2 b3 e=>nD _ _ b1 (e₅.extBut _ _ b2 (e₄.extBut _ _ b3 (e₃.extBut _ _ b2 e)))
  ·exact tG g2 λb o b1 b2 b3 e=>nD _ _ b1 (e₅.extBut _ _ b2 e)
 ·show az _ _ (pw (.ref z) 2 >>= _) _ _ _;refine ae (cQ hz rfl (x:=.bool p4) rfl ?_);show az _ _ (pw (.ref z) 3 >>= _) _ _ _;refine ae (cQ hz rfl (x:=.ref TI) rfl (ae (dO sv rfl ?_)));show az _ _ (bV (.ref z) >>= _) _ _ _;unfold bV;refine ae (ae (cQ hz rfl (x:=c_ T0) rfl ?_));show az _ _ (loadIfAlive T0 >>= _) _ _ _;refine ae (a1W ?_);rw[yt];rw[aN (by simp)];refine cK (Q:=λb s'=>b=p4/\∃h₁ f,s'={s with heap:=h₁}/\h₁.get? z=cz {cls:=.type "zip",dict:=el,data:=.fields #[c_ T0,f,.bool p4,.ref TI,.ref TO],slots:=#[]}/\cB z s.heap h₁) ?_ (λb s' hb=>?_) λ_ _ e=>e
  ·refine ae (cQ hz rfl (x:=f1) rfl ?_);by_cases c:(f1 !=jx fx)=fx
   ·rw[aJ c];exact ae (fI hz (by simp) λh₁ jD e₁=>ag ⟨rfl,h₁,.bool fx,rfl,jD,e₁⟩)
   ·rw[aN c];exact ag ⟨rfl,s.heap,f1,rfl,hz,⟨rfl,λ_ _=>rfl⟩⟩
  ·obtain⟨rfl,h₁,f,rfl,jD,e₁⟩:=hb;simp only[cV,fQ];refine ae (ae (ae (bJ ?_)));show az _ _ (cw (.ref i1) >>= _) _ _ _;refine ae (D1.item i _ _ _ hi (uH s1 λb o b1 _ _ e=>e₁.extBut _ _ b1 e) λx h₂ k₂ px g1 e₂=>ag (ag ?_))
   replace e₂:cB i1 h₁ h₂:=e₂
   refine ae (ae (bJ ?_));show az _ _ (cw (.ref i2) >>= _) _ _ _;refine ae (D2.item i _ _ _ hi (tG s2 λb o b1 b2 b3 e=>e₂.extBut _ _ b3 (e₁.extBut _ _ b1 e)) λy h₃ k₃ py g2 e₃=>ag (ag (ag ?_)))
   replace e₃:cB i2 h₂ h₃:=e₃
   have sz:h₃.objs.size=s.heap.objs.size:=by rw[e₃.1,e₂.1,e₁.1]
   have lR:∀c o,c≠z->c≠i1->c≠i2->s.heap.get? c=cz o->h₃.get? c=cz o:=λc o c1 c3 c4 e=>e₃.extBut _ _ c4 (e₂.extBut _ _ c3 (e₁.extBut _ _ c1 e))
   have wc:=e₃.extBut _ _ Z.z2 (e₂.extBut _ _ Z.z1 jD);refine ae (vy (hsz:=by rw[cE];show 2<=_;decide) (ag ⟨_,rfl,?_⟩));refine q h₃.objs.size x y _ k₃ px py (by rw[sz];exact aG _) (aF _ rfl) ⟨ah _ (lR _ _ Z.TIz Z.TI1 Z.TI2 sv),⟨a,b,ah _ (lR _ _ Z.TOz Z.TO1 Z.TO2 xr)⟩,.inr ⟨T0,f,o0,t1,t2,t3,t4,ah _ (lR _ _ t1 t3 t4 yt),ah _ wc⟩⟩ ?_ ?_ λc o c1 c2 c3 c4 e=>ah _ (lR c o c1 c3 c4 e)
   ·exact uH g1 λb o b1 b2 b3 e=>ah _ (e₃.extBut _ _ b3 e)
   ·exact tG g2 λb o b1 b2 b3 e=>ah _ e
def b3D(D1:Draws prog w A i1 fp1 n P1 St1)(Z:ZApart z TI TO i1 i2 fp1 fp2)(hz:a3f s.heap z TI TO i1 i2)(s1:St1 n s.heap)
  (q:∀h' e,(∀c o,c≠z->c≠TO->c≠i1->c≠i2->s.heap.get? c=cz o->h'.get? c=cz o)->(∃o,h'.get? e=cz o/\o.cls=.type "StopIteration")->E (.ref e) {s with heap:=h'}) :
  az (aO prog w) A (Builtin.«zip.__next__» ⟨[.ref z],[]⟩) Q E s:=by
 have uH:∀{h h':bL} {j:Nat},St1 j h->(∀b o,b≠z->b≠TO->b≠i2->h.get? b=cz o->h'.get? b=cz o)->St1 j h':=λst k=>D1.frame _ _ _ st λb hb o e=>k b o (λx=>Z.zf1 (x▸hb)) (λx=>Z.Of1 (x▸hb)) (λx=>Z.if1 (x▸hb)) e
 obtain⟨sv,⟨a,b,xr⟩,hz⟩:=hz;rcases hz with hz|⟨T0,f1,o0,t1,t2,t3,t4,yt,hz⟩
 ·show az _ _ (pw (.ref z) 2 >>= _) _ _ _;refine ae (cQ hz rfl (x:=.bool p4) rfl ?_);show az _ _ (pw (.ref z) 3 >>= _) _ _ _;refine ae (cQ hz rfl (x:=.ref TI) rfl (ae (dO sv rfl ?_)));show az _ _ (bV (.ref z) >>= _) _ _ _;unfold bV;refine ae (ae (cQ hz rfl (x:=.none) rfl (ag ?_)));simp only[jr];refine ae (ef (ae (cQ hz rfl (x:=.ref TO) rfl ?_)));refine ae (fI hz (by simp) λh₁ jD e₁=>ae ?_)
  replace jD:pE h₁ z TI TO .ellipsis:=jD
  simp only[Hj,IB,jg,jL];refine ae (ae (yL ?_));show az _ _ (cw (.ref i1) >>= _) _ _ _;refine ae (D1.done _ _ _ (uH s1 λb o b1 _ _ e=>e₁.extBut _ _ b1 e) λh₂ e e₂ he=>?_);obtain⟨oe,zB,Cc⟩:=he;have sT:pE h₂ z TI TO .ellipsis:=e₂ _ _ Z.z1 jD;have FH:e≠z:=λx=>by subst x;rw[sT]at zB;cases zB;simp at Cc
  exact fI sT (by simp) λh₃ _ e₃=>q h₃ e (λc o c1 _ c3 _ x=>e₃.extBut _ _ c1 (e₂ _ _ c3 (e₁.extBut _ _ c1 x))) ⟨oe,e₃.extBut _ _ FH zB,Cc⟩
 ·show az _ _ (pw (.ref z) 2 >>= _) _ _ _;refine ae (cQ hz rfl (x:=.bool p4) rfl ?_);show az _ _ (pw (.ref z) 3 >>= _) _ _ _;refine ae (cQ hz rfl (x:=.ref TI) rfl (ae (dO sv rfl ?_)));show az _ _ (bV (.ref z) >>= _) _ _ _;unfold bV;refine ae (ae (cQ hz rfl (x:=c_ T0) rfl ?_));show az _ _ (loadIfAlive T0 >>= _) _ _ _;refine ae (a1W ?_);rw[yt,aN (by simp)];refine cK (Q:=λb s'=>b=p4/\∃h₁,s'={s with heap:=h₁}/\cB z s.heap h₁) ?_ (λb s' hb=>?_) λ_ _ e=>e
  ·refine ae (cQ hz rfl (x:=f1) rfl ?_);by_cases c:(f1 !=jx fx)=fx
   ·rw[aJ c];exact ae (fI hz (by simp) λh₁ _ e₁=>ag ⟨rfl,h₁,rfl,e₁⟩)
   ·rw[aN c];exact ag ⟨rfl,s.heap,rfl,⟨rfl,λ_ _=>rfl⟩⟩
  ·obtain⟨rfl,h₁,rfl,e₁⟩:=hb;simp only[cV,fQ];refine ae (ae (ae (bJ ?_)));show az _ _ (cw (.ref i1) >>= _) _ _ _;exact ae (D1.done _ _ _ (uH s1 λb o b1 _ _ e=>e₁.extBut _ _ b1 e) λh₂ e e₂ he=>q h₂ e (λc o c1 _ c3 _ x=>e₂ _ _ c3 (e₁.extBut _ _ c1 x)) he)
def b1k(D1:Draws prog w A.in1 i1 fp1 n P1 St1)(D2:Draws prog w A.in1 i2 fp2 n P2 St2)(Z:ZApart z TI TO i1 i2 fp1 fp2)(hz:a3f s.heap z TI TO i1 i2)(hi:i<n)(s1:St1 i s.heap)(s2:St2 i s.heap)
  (q:∀T x y h' tk,P1 i x->P2 i y->s.heap.objs.size<=T->jA h' T x y->a3f h' z TI TO i1 i2->St1 (i+1) h'->St2 (i+1) h'->(∀c o,c≠z->c≠TO->c≠i1->c≠i2->s.heap.get? c=cz o->h'.get? c=cz o)->Q (cz (.ref T)) {s with heap:=h',toks:=tk}) :
  az (aO prog w) A (fJ (.ref z)) Q E s:=by
 have hT:s.TypeIs (.ref z) "zip":=by
  rcases hz.2.2 with h|⟨_,_,_,_,_,_,_,_,h⟩
  ·exact⟨_,h,rfl⟩
  ·exact⟨_,h,rfl⟩
 unfold fJ;exact ae (fu (bM (name:=cm "__next__") hT mR (bF mR hT F.entry_zip_next
  (b1j D1 D2 Z hz hi s1 s2 λT x y h' tk a1 a2 a3 a4 a5 a6 a7 a8=>ag (q T x y h' tk a1 a2 a3 a4 a5 a6 a7 a8)) (F.args_zip_next_1 _))))
def b1l(D1:Draws prog w A.in1 i1 fp1 n P1 St1)(Z:ZApart z TI TO i1 i2 fp1 fp2)(hz:a3f s.heap z TI TO i1 i2)(s1:St1 n s.heap)
  (q:∀h',(∀c o,c≠z->c≠TO->c≠i1->c≠i2->s.heap.get? c=cz o->h'.get? c=cz o)->Q el {s with heap:=h'}):az (aO prog w) A (fJ (.ref z)) Q E s:=by
 have hT:s.TypeIs (.ref z) "zip":=by
  rcases hz.2.2 with h|⟨_,_,_,_,_,_,_,_,h⟩
  ·exact⟨_,h,rfl⟩
  ·exact⟨_,h,rfl⟩
 unfold fJ;refine ae (fu (bM (name:=cm "__next__") hT mR (bF mR hT F.entry_zip_next (b3D D1 Z hz s1 λh' e hk he=>?_) (F.args_zip_next_1 _))));obtain⟨o,ho,hc⟩:=he;exact ae (fB (T:="StopIteration") (b:=fx) ⟨o,ho,hc⟩ vZ (ag (q _ hk)))
end
namespace F
def entry_zip_ga:xG table "zip.__getattribute__"=cz Builtin.«object.__getattribute__»:=
 xF (id':="object.__getattribute__") (by kernel_rfl) (by first|rfl|decide +kernel) (by decide +kernel) (by kernel_rfl)
def lk_zip_keys:mq (.type "zip") "keys"=pure el:=by rw[jT,gR];kernel_rfl
def lk_zip_hook:mq (.type "zip") "__getattr__"=pure el:=by rw[jT,gR];kernel_rfl
end F
def b3E(a:aw)(vs:Array ai)(u:Tok):Meets (Builtin.«object.__getattribute__» ⟨[.ref a,.str "keys" u],[]⟩) (λA R s=>s.heap.get? a=cz {cls:=.type "zip",dict:=el,data:=.fields vs,slots:=#[]}/\raisesAttr (.ref a) "keys" A R s):=
 Meets.of_wp λprog w A R s hs=>by
  obtain⟨hp,g,d,tk,os⟩:=s;obtain⟨hx,hs⟩:=hs;have hT:(⟨hp,g,d,tk,os⟩:aj).TypeIs (.ref a) "zip":=⟨_,hx,rfl⟩;have f4:=F.lk_zip_keys
  repeat (any_goals (first|assumption|wp_step))
  exact wpAny_raiseAttrError hs.1 hs.2 (attrMsg_fits (by decide +kernel) (by size_fits))
def a8w{A:bB}{s:aj}(hA:A.handled=el)(hx:s.heap.get? a=cz {cls:=.type "zip",dict:=el,data:=.fields vs,slots:=#[]})
  (q:∀h' tk,(∀b o,s.heap.get? b=cz o->h'.get? b=cz o)->Q el {s with heap:=h',toks:=tk}):az (aO prog w) A (nM (.ref a) "keys") Q E s:=by
 obtain⟨hp,g,d,tk,os⟩:=s;have hT:∀tU,(⟨hp,g,d,tU,os⟩:aj).TypeIs (.ref a) "zip":=λ_=>⟨_,hx,rfl⟩
 have f1:=sub_AttributeError;have f3:=mh.lookup;have f4:=mh.bind (.ref a);have f5:=F.lk_zip_hook;unfold nM getAttrBy? getAttrBy
 repeat (any_goals (first|assumption|exact hT _|((with_reducible show az _ _ (call (pB "zip.__getattribute__") _ _) _ _ _);refine xN mh (hT _) F.entry_zip_ga (F.args_zip_getattribute_2 _ _) (b3E a vs _) ⟨hx,hA,λh' tU e rz=>?_⟩)|wp_step))
 obtain⟨t',u',he⟩:=rz.there;show az _ _ (kC _ _ _ _ _ _ _) _ _ _;unfold kC
 repeat (any_goals (first|assumption|wp_step))
 exact q _ _ rz.keeps
end PySem
namespace PySem.F
def entry_dict_update_loop:xG table "dict.update.loop"=cz Builtin.«dict.update.loop»:=entryFor_of_tree (by kernel_rfl)
def plain_dict_update_loop:plainId "dict.update.loop"=fx:=by decide +kernel
end PySem.F
namespace VS
open PySem.Spec L2
def ziE(ns ms:List Int):List (D×V×V):=(ns.zip ms).map λp=>(.int p.1,.int p.1,.int p.2)
def lE(ps:List (Int×V)):List (D×V×V):=ps.map λp=>(.int p.1,.int p.1,p.2)
structure UIt (X:Cx) (pins:List (aw×fm)) (Y:L2.St) (H:Hp) (A:bB) (d z:aw) (ps:List (Int×V)) (St:Nat->bL->Prop):Prop where
 nx:∀(i:Nat) (s:aj) (Q:Option ai->aj->Prop) (E:ai->aj->Prop) (hi:i<ps.length),Inv X pins Y (upd H d (c9 d (lE (ps.take i)))) s->St i s.heap->
  (∀T o x y n h' tk,h'.get? T=cz o->o.cls=.type "tuple"->o.data=.seq #[x,y] n->RelV (.int ps[i].1) x->RelV ps[i].2 y->Inv X pins Y (upd H d (c9 d (lE (ps.take i)))) {s with heap:=h',toks:=tk}->(∀h2,(∀b o,b≠d->h'.get? b=cz o->h2.get? b=cz o)->(∃o,h2.get? d=cz o)->St (i+1) h2)->Q (cz (.ref T)) {s with heap:=h',toks:=tk})->az (aO X.prog X.w) A (fJ (.ref z)) Q E s
 dn:∀(s:aj) (Q:Option ai->aj->Prop) (E:ai->aj->Prop),Inv X pins Y (upd H d (c9 d (lE ps))) s->St ps.length s.heap->(∀h',Inv X pins Y (upd H d (c9 d (lE ps))) {s with heap:=h'}->Q el {s with heap:=h'})->az (aO X.prog X.w) A (fJ (.ref z)) Q E s
section
variable {X:Cx}{pins:List (aw×fm)}{Y:L2.St}{H:Hp}{s:aj}{d z l:aw}{ps:List (Int×V)}
def c2M{A:bB}{R:xP->aj->Prop}{St:Nat->bL->Prop}(hu:A.units+20<cU)(ja:(ps.map (·.1)).Nodup)(hsz:ps.length<aQ)(W:UIt X pins Y H A.in1 d z ps St)(hR:∀s',Inv X pins Y (upd H d (c9 d (lE ps))) s'->R (.ok (.ret .none)) s'):∀(k i:Nat) (s:aj),ps.length-i=k->i<=ps.length->
   Inv X pins Y (upd H d (c9 d (lE (ps.take i)))) s->St i s.heap->gA (aO X.prog X.w) A (.builtin "dict.update.loop" ⟨[.ref d,.ref z,c_ i,.none],[]⟩) R s:=by
 intro k
 induction k with
 |zero=>
  intro i s hk hi I g;have e:i=ps.length:=by lia
  subst e;refine dD PySem.F.entry_dict_update_loop ?_;rw[cZ PySem.F.plain_dict_update_loop _];rw[oP]at I;show az _ A.in1 (fJ (.ref z) >>= _) _ _ s;exact ae (W.dn s _ _ I g λh' I'=>ae (ag (ag (hR _ I'))))
 |succ k ih=>
  intro i s hk hi I g;have gQ:i<ps.length:=by lia
  refine dD PySem.F.entry_dict_update_loop ?_;rw[cZ PySem.F.plain_dict_update_loop _];show az _ A.in1 (fJ (.ref z) >>= _) _ _ s;refine ae (W.nx i s _ _ gQ I g λT o x y n h' tk ho hc vb rk rv I1 g1=>?_);refine ae (bJ (ae (wpAny_tryCatch ?_)));unfold Builtin.Dict.pairItems;refine ae (ij (show jB {s with heap:=h',toks:=tk} (.ref T) "tuple" from⟨_,ho,hc⟩) ?_);rw[aJ (by decide)];refine ae (dO ho vb (ag ?_));show az _ _ (om _ (GW d _ _)) _ _ _;refine bJ ?_;unfold GW
  try with_reducible refine bJ ?_
  have BZ:∀e∈lE (ps.take i),∃p∈ps.take i,e=(aI p.1,V.int p.1,p.2):=λe he=>by
   obtain⟨p,hp,rfl⟩:=aR.mp he;exact⟨p,hp,rfl⟩
  have K:KeysAt X (upd H d (c9 d (lE (ps.take i)))) p4 (lE (ps.take i)) (.int ps[i].1) (.int ps[i].1):=⟨λe he=>by
   obtain⟨p,_,rfl⟩:=BZ e he;exact⟨z0 rfl,den_int⟩,z0 rfl,den_int⟩
  have pN:∀e∈lE (ps.take i),e.1≠aI ps[i].1:=λe he h=>by
   obtain⟨p,hp,rfl⟩:=BZ e he
   injection h with h
   obtain⟨j,hj,e2⟩:=gM.mp hp;rw[gU]at hj;rw[Dc]at e2;have uq:j<ps.length:=by lia
   have:=(List.getElem?_inj (l:=ps.map (·.1)) (by simpa using uq) ja).mp (show (ps.map (·.1))[j]?=(ps.map (·.1))[i]? by rw[aY,aY,ay uq,ay gQ,e2];exact dY cz h);lia
  have tm:(lE (ps.take i)).length=i:=by unfold lE;rw[ao,gU];lia
  have uj:lE (ps.take i)++[(.int ps[i].1,.int ps[i].1,ps[i].2)]=lE (ps.take (i+1)):=by
   unfold lE;rw[List.take_succ_eq_append_getElem gQ,aZ];rfl
  refine ae (Y1 I1 (by show A.units+1+10<_;lia) K.key K.den rk ?_);refine a6D (s:={s with heap:=h',toks:=tk+v5 (aI ps[i].1)}) (I1.tok _) (by show A.units+1+10<_;lia) i7 K rk rv (by rw[tm];lia) pN λh2 I2 sb=>?_
  rw[uj,show upd (upd H d (c9 d (lE (ps.take i)))) d (c9 d (lE (ps.take (i+1))))=upd H d (c9 d (lE (ps.take (i+1)))) from funext λb=>by unfold upd;split<;>rfl]at I2;refine ag ⟨fw PySem.F.plain_dict_update_loop _,?_⟩;exact ih (i+1) {s with heap:=h2,toks:=tk+v5 (aI ps[i].1)} (by lia) gQ I2 (g1 h2 (λb o hb e=>sb.extBut b o hb e) (by
   obtain⟨_,_,_,o,_,_,h1,_⟩:=o7 I2 i7;exact⟨o,h1⟩))
def a4J(hu:X.A.units+40<cU)(I:Inv X pins Y H s)(ja:(ps.map (·.1)).Nodup)(hsz:ps.length<aQ)(ho:s.heap.get? l=cz o)(hT:o.cls=.type T)(ik:(dB T !=dB "dict")=fx)
  (nk:∀(A:bB) (s1:aj) (Q:Option ai->aj->Prop) (E:ai->aj->Prop),A.handled=X.A.handled->s1.heap.get? l=cz o->(∀h' tk,(∀b o,s1.heap.get? b=cz o->h'.get? b=cz o)->Q el {s1 with heap:=h',toks:=tk})->az (aO X.prog X.w) A (nM (.ref l) "keys") Q E s1)
  (it:∀(A:bB) (s1:aj) (Q:ai->aj->Prop) (E:ai->aj->Prop),A.handled=X.A.handled->(∀b o,s.heap.get? b=cz o->s1.heap.get? b=cz o)->s.heap.objs.size<s1.heap.objs.size->Inv X pins Y (upd H s.heap.objs.size (c9 s.heap.objs.size [])) s1->(∀z h' St,(∀A:bB,A.handled=X.A.handled->UIt X pins Y H A s.heap.objs.size z ps St)->St 0 h'->(∀b o,s1.heap.get? b=cz o->h'.get? b=cz o)->Q (.ref z) {s1 with heap:=h'})->az (aO X.prog X.w) A (pF (.ref l)) Q E s1)
  (q:∀d,H d=el->Q (.ref d) (upd H d (c9 d (lE ps)))):az (aO X.prog X.w) X.A (call (.type "dict") [.ref l]) (EP X pins Y Q) X.xe s:=by
 refine xO (Q₁:=λobj s₁=>obj=.ref s.heap.objs.size/\s₁={s with heap:=s.heap.push {cls:=.type "dict",data:=.dict #[]}}) PySem.F.kt_called_dict (PySem.F.kt_typeCall_dict_1 _) PySem.F.entry_dict_init (kt_code_dict_new _ ⟨rfl,rfl⟩) ?_;rintro obj s₁ ⟨rfl,rfl⟩;have qJ:(s.heap.push {cls:=.type "dict",data:=.dict #[]}).DictOf (cW X.prog X.w) s.heap.objs.size []:=bL.DictOf.new s.heap;refine⟨qJ.typeIs,PySem.F.args_dict_init_2 _ _,?_⟩;have uw:H s.heap.objs.size=el:=I.hok.fresh (aG _);have I0:Inv X pins Y (upd H s.heap.objs.size (c9 s.heap.objs.size [])) {s with heap:=s.heap.push {cls:=.type "dict",data:=.dict #[]}}:=I.laid (a:=s.heap.objs.size) (o:=c9 s.heap.objs.size []) (t':=s.toks) (λ_ _ q=>ah _ q) (aG _) (a1O s.heap I.sysBelow);have BI:(s.heap.push {cls:=.type "dict",data:=.dict #[]}).get? l=cz o:=ah _ ho;unfold Builtin.«dict.__init__»;refine ae ?_;unfold lP;refine ae (fL qJ.typeIs ?_);show az _ _ (pure (s.heap.objs.size,[aS l])) _ _ _;refine ag ?_;show az _ _ (eR "dict.__init__" s.heap.objs.size (.ref l) [] .none) _ _ _;unfold eR;refine ae (ij (T:=T) ⟨_,BI,hT⟩ ?_);rw[aJ ik];refine ae (nk _ _ _ _ rfl BI λh2 tk up=>?_);rw[aJ (show (el:Option ai).isNone=fx from rfl)];have I1:Inv X pins Y (upd H s.heap.objs.size (c9 s.heap.objs.size [])) {s with heap:=h2,toks:=tk}:=I0.kept (t':=tk) up;have gQ:s.heap.objs.size<h2.objs.size:=by
  obtain⟨o',mV,_⟩:=(show jB {s with heap:=s.heap.push {cls:=.type "dict",data:=.dict #[]}} (.ref s.heap.objs.size) "dict" from qJ.typeIs);exact aB (up _ _ mV)
 refine ae (ef (ae (it _ _ _ _ rfl (λb o e=>up _ _ (ah _ e)) gQ I1 λz h' St W g pY=>ag ⟨fw PySem.F.plain_dict_update_loop _,?_⟩)));exact c2M (A:=X.A.in1) (by show X.A.units+1+20<_;lia) ja hsz (W _ rfl) (λs' I'=>⟨rfl,.ref s.heap.objs.size,_,I',rfl,q _ uw⟩) ps.length 0 _ rfl (cI _) (I1.kept (t':=tk) pY) g
end
end VS
namespace PySem
abbrev a9E(h:bL)(l1:aw):bL:=h.push {cls:=.type "tuple_iterator",data:=.fields #[.ref l1,.int 0 0]}
abbrev a9F(h:bL)(l1 l2:aw):bL:=(a9E h l1).push {cls:=.type "tuple_iterator",data:=.fields #[.ref l2,.int 0 0]}
abbrev a9G(h:bL)(l1 l2:aw):bL:=(a9F h l1 l2).push {cls:=.type "tuple",data:=.seq #[.ref h.objs.size,.ref (a9E h l1).objs.size]}
abbrev a9H(h:bL)(l1 l2:aw):bL:=(a9G h l1 l2).push {cls:=.type "tuple",data:=.seq #[.none,.none]}
abbrev a4K(h:bL)(l1 l2:aw):bL:=(a9H h l1 l2).push {cls:=.type "zip",data:=.fields #[.none,.bool p4,.bool p4,.ref (a9F h l1 l2).objs.size,.ref (a9G h l1 l2).objs.size]}
def a8x(l1 l2:aw)(xs ys:Array ai):Meets (Builtin.«zip.__new__» ⟨[.type "zip",.ref l1,.ref l2],[]⟩) (λ_ R s=>s.heap.IsTuple l1 xs/\s.heap.IsTuple l2 ys/\R (.ok (.ret (.ref (a9H s.heap l1 l2).objs.size))) {s with heap:=a4K s.heap l1 l2}):=
 .of_wp λprog w A R s h=>by
  obtain⟨hp,g,d,tk,os⟩:=s;obtain⟨tu,wJ,h⟩:=h;have jt:=sub_zip;have Gu:bL.IsTuple (aj.heap ⟨hp,g,d,tk,os⟩) l1 xs:=tu;have Gs:bL.IsTuple (aj.heap ⟨hp.push {cls:=.type "tuple_iterator",data:=.fields #[.ref l1,.int 0 0]},g,d,tk,os⟩) l2 ys:=bL.IsTuple.push wJ _
  wp_walk using wpAny_pyIter_tuple Gu,wpAny_pyIter_tuple Gs
  exact⟨_,rfl,h⟩
section
variable {prog:br}{w:bK}{A:bB}{E:ai->aj->Prop}{s:aj}
def b1m(tu:s.heap.IsTuple l1 xs)(wJ:s.heap.IsTuple l2 ys)
  (q:∀h',pE h' (s.heap.objs.size+4) (s.heap.objs.size+2) (s.heap.objs.size+3) .none->jA h' (s.heap.objs.size+2) (.ref s.heap.objs.size) (.ref (s.heap.objs.size+1))->jA h' (s.heap.objs.size+3) .none .none->h'.IsTupleIter s.heap.objs.size l1 0->h'.IsTupleIter (s.heap.objs.size+1) l2 0->
   (∀c o,s.heap.get? c=cz o->h'.get? c=cz o)->Q (.ref (s.heap.objs.size+4)) {s with heap:=h'}):az (aO prog w) A (call (.type "zip") [.ref l1,.ref l2]) Q E s:=by
 refine callType_new F.called_zip (by decide) (F.typeCall_zip_2 _ _) (F.newCall_zip_2 _ _) (λobj=>F.args_object_init_3 obj _ _) F.entry_zip_new (a8x l1 l2 xs ys) ⟨tu,wJ,?_⟩;have z1:(a9E s.heap l1).objs.size=s.heap.objs.size+1:=cL ..;have z2:(a9F s.heap l1 l2).objs.size=s.heap.objs.size+2:=by rw[cL,z1]
 have z3:(a9G s.heap l1 l2).objs.size=s.heap.objs.size+3:=by rw[cL,z2]
 have z4:(a9H s.heap l1 l2).objs.size=s.heap.objs.size+4:=by rw[cL,z3]
 have up:∀{h:bL} {o:fm} {c:aw} {u:fm},h.get? c=cz u->(h.push o).get? c=cz u:=λe=>ah _ e
 have g5:(a4K s.heap l1 l2).get? (a9H s.heap l1 l2).objs.size=cz _:=aF _ rfl;have g4:(a4K s.heap l1 l2).get? (a9G s.heap l1 l2).objs.size=cz _:=up (aF _ rfl);have g3:(a4K s.heap l1 l2).get? (a9F s.heap l1 l2).objs.size=cz _:=up (up (aF _ rfl));have g2:(a4K s.heap l1 l2).get? (a9E s.heap l1).objs.size=cz _:=up (up (up (aF _ rfl)));have g1:(a4K s.heap l1 l2).get? s.heap.objs.size=cz _:=up (up (up (up (aF _ rfl))));show _/\_;rw[z2,z3,z4]at g5;rw[z1,z2]at g3;rw[z3]at g4;rw[z1]at g2;rw[z4];exact⟨⟨_,g5,rfl⟩,q _ g5 g3 g4 ⟨_,g1,rfl,rfl⟩ ⟨_,g2,rfl,rfl⟩ λc o x=>up (up (up (up (up x))))⟩
end
end PySem
namespace VS
open PySem.Spec L2
section
variable {X:Cx}{pins:List (aw×fm)}{Y:L2.St}{H:Hp}{s:aj}{z TI TO i1 i2:aw}{fp1 fp2:List aw}{St1 St2:Nat->bL->Prop}{ns ms:List Int}
def b3F(hc:X.calm=fx)(hu:X.A.units+40<cU)(I:Inv X pins Y H s)
  (D1:∀A:bB,A.handled=el->Draws X.prog X.w A i1 fp1 ns.length (λi v=>∃t,v=.int (ns.getD i 0) t) St1) (D2:∀A:bB,A.handled=el->Draws X.prog X.w A i2 fp2 ns.length (λi v=>∃t,v=.int (ms.getD i 0) t) St2) (Z:ZApart z TI TO i1 i2 fp1 fp2)
  (hl:ms.length=ns.length) (ja:ns.Nodup) (hsz:ns.length<aQ) (gQ:∀b∈[z,TI,TO,i1,i2]++fp1++fp2,b<s.heap.objs.size) (hf:∀b∈[z,TO,i1,i2],a2w X pins H b) (hz:pE s.heap z TI TO .none) (sv:jA s.heap TI (.ref i1) (.ref i2)) (xr:jA s.heap TO .none .none) (g1:St1 0 s.heap) (g2:St2 0 s.heap)
  (q:∀d,H d=el->Q (.ref d) (upd H d (c9 d (ziE ns ms)))):az (aO X.prog X.w) X.A (call (.type "dict") [.ref z]) (EP X pins Y Q) X.xe s:=by
 have hh:X.A.handled=el:=I.ok.hd hc;have nd:∀b∈[z,TI,TO,i1,i2]++fp1++fp2,b≠s.heap.objs.size:=λb hb e=>absurd (gQ b hb) (by rw[e];exact cR _)
 have zl:∀b∈[z,TO,i1,i2],b≠s.heap.objs.size:=λb hb=>nd b (by
  simp only[aD,cO,or_false]at hb;rcases hb with rfl|rfl|rfl|rfl<;>simp)
 have pl:((ns.zip ms).map λp=>(p.1,V.int p.2)).length=ns.length:=by rw[ao,d_];lia
 have pe:lE ((ns.zip ms).map λp=>(p.1,V.int p.2))=ziE ns ms:=by unfold lE ziE;rw[bG];rfl
 have pk:((ns.zip ms).map λp=>(p.1,V.int p.2)).map (·.1)=ns:=by rw[bG];exact oQ (by lia)
 refine a4J (ps:=(ns.zip ms).map λp=>(p.1,V.int p.2)) (T:="zip") hu I (by rw[pk];exact ja) (by rw[pl];exact hsz) hz rfl (by decide) (λA s1 Q E hA h1 q=>a8w (hA.trans hh) h1 q) (λA s1 Q E hA up _ I1 q=>?_) λd hd=>by rw[pe];exact q d hd
 have tZ:pE s1.heap z TI TO .none:=up _ _ hz;refine wpAny_pyIter_zip tZ (q z s1.heap (λi h=>a3f h z TI TO i1 i2/\St1 i h/\St2 i h) (λA hA=>⟨λi s2 Q E hi I g q=>?_,λs2 Q E I g q=>?_⟩) ⟨⟨up _ _ sv,⟨_,_,up _ _ xr⟩,.inl tZ⟩,(D1 X.A hh).frame _ _ _ g1 λb _ o e=>up b o e,(D2 X.A hh).frame _ _ _ g2 λb _ o e=>up b o e⟩ λ_ _ e=>e)
 ·rw[pl]at hi;refine b1k (D1 A.in1 (hA.trans hh)) (D2 A.in1 (hA.trans hh)) Z g.1 hi g.2.1 g.2.2 λT x y h' tk px py hT Gd Eu tF qg up=>?_
  obtain⟨tx,rfl⟩:=px;obtain⟨ty,rfl⟩:=py;have jN:ns.getD i 0=ns[i]:=by rw[aW,ay hi];rfl
  have uD:ms.getD i 0=ms[i]:=by rw[aW,ay (by lia)];rfl
  refine q T _ _ _ _ h' tk Gd rfl rfl ⟨tx,by rw[gW,Hm,jN]⟩ (by rw[gW,Hm,uD];exact⟨ty,rfl⟩) (a0E (t':=tk) (ch:=[z,TO,i1,i2]) I (λb o hb e=>up b o (λq=>hb (by simp[q])) (λq=>hb (by simp[q])) (λq=>hb (by simp[q])) (λq=>hb (by simp[q])) e) λb hb=>⟨by rw[f8 (zl b hb)];exact (hf b hb).1,(hf b hb).2⟩) λh2 pY hd=>?_
  refine⟨?_,(D1 A (hA.trans hh)).frame _ _ _ tF λb hb o e=>pY b o (nd b (by simp[hb])) e,(D2 A (hA.trans hh)).frame _ _ _ qg λb hb o e=>pY b o (nd b (by simp[hb])) e⟩;obtain⟨a1,⟨p,q,a2⟩,a3⟩:=Eu;refine⟨pY _ _ (nd TI (by simp)) a1,⟨p,q,pY _ _ (nd TO (by simp)) a2⟩,?_⟩;rcases a3 with a3|⟨T0,f1,o0,t1,t2,t3,t4,t5,t6⟩
  ·exact .inl (pY _ _ (nd z (by simp)) a3)
  ·by_cases c:T0=s.heap.objs.size
   ·subst c;obtain⟨o',mV⟩:=hd;exact .inr ⟨_,f1,o',t1,t2,t3,t4,mV,pY _ _ (nd z (by simp)) t6⟩
   ·exact .inr ⟨T0,f1,o0,t1,t2,t3,t4,pY _ _ c t5,pY _ _ (nd z (by simp)) t6⟩
 ·rw[pl]at g;exact b1l (D1 A.in1 (hA.trans hh)) Z g.1 g.2.1 λh' up=>q h' (a0E (t':=s2.toks) (ch:=[z,TO,i1,i2]) I (λb o hb e=>up b o (λq=>hb (by simp[q])) (λq=>hb (by simp[q])) (λq=>hb (by simp[q])) (λq=>hb (by simp[q])) e) λb hb=>⟨by rw[f8 (zl b hb)];exact (hf b hb).1,(hf b hb).2⟩)
end
end VS
namespace PySem
def Draws.imp(D:Draws prog w A it fp n P St)(h:∀i v,i<n->P i v->P' i v):Draws prog w A it fp n P' St:=
 ⟨D.live,D.frame,λi s Q E hi st q=>D.item i s Q E hi st λx h' tk p=>q x h' tk (h i x hi p),D.done⟩
def b3G:fg "zip"=cz (.type "zip"):=by kernel_rfl
end PySem
namespace VS
open PySem.Spec L2
def SqI(K:af)(H:Hp)(l:Bool)(a:aw)(ns:List Int):Prop:=if l then SqL K H a (ns.map V.int) else SqT K H a (ns.map V.int)
def a2n{ns:List Int}(h:Vals (ns.map V.int) cP):cP.length=ns.length/\∀(i:Nat) (v:ai),cP[i]?=cz v->∃t,v=.int (ns.getD i 0) t:=by
 refine⟨by rw[<-h.length,ao],λi v hv=>?_⟩;have hi:i<ns.length:=by rw[<-ao (f:=V.int),h.length];exact (aP.mp hv).1
 obtain⟨u,hu,r⟩:=h.get (show (ns.map V.int)[i]?=cz (V.int (ns.getD i 0)) by rw[aY,ay hi,aW,ay hi];rfl);rw[hv]at hu;cases hu
 exact r
section
variable {X:Cx}{M:List Md}{a b:Expr}{fa fb:EvE}{ca cb:Cat}{pos gF p p2:eA}
def tDZ(X:Cx)(l:Bool)(t:TA):TE:=λY H Q=>t Y H λxs H1=>∃u v ns ms,xs=[.ref u,.ref v]/\SqI X.K H1 l u ns/\SqI X.K H1 l v ms/\ms.length=ns.length/\ns.Nodup/\ns.length<aQ/\∀d,H1 d=el->Q (.ref d) (upd H1 d (c9 d (ziE ns ms)))
def a8y(hc:X.calm=fx)(hu:X.A.units+40<cU)(zK:X.mg "dict"=el)(zJ:X.mg "zip"=el)(ha:PA X [a,b] t)(zV:Gl X "dict":=by rfl)(zS:Gl X "zip":=by rfl)
  (he:ak [a,b] X.env=(p4,bX a X.env)::ak [b] X.env:=by rfl) (fF:(bY gF (ak [b] X.env)).any (·.1)=p4:=by rfl)
  (kr:ak [.Call (.Name "zip" p2) [a,b] [] gF] X.env=(p4,bX (.Call (.Name "zip" p2) [a,b] [] gF) X.env)::ak [] X.env:=by rfl) (oD:(bY pos (ak [] X.env)).any (·.1)=p4:=by rfl) :
  PE X (.Call (.Name "dict" p) [.Call (.Name "zip" p2) [a,b] [] gF] [] pos) (tDZ X l t):=by
 intro pins s Y H Q I h;refine dX (V8 I zV zK PyProof.Rows.Boot.«dict» ?_ (by decide) (by decide));refine dW ?_ kr oD;rw[kr];show az _ _ (spliced ((p4,bX (.Call (.Name "zip" p2) [a,b] [] gF) X.env)::bY pos (ak [] X.env))) _ _ s;refine Calls.spliced_cons ?_;refine dX (V8 I zS zJ b3G ?_ (by decide) (by decide));refine dW (L2.thn (ha gF pins s Y H _ I h) λus s1 ⟨xs,H1,I1,r1,q1⟩=>?_) he fF;obtain⟨u,v,ns,ms,rfl,BA,Bz,hl,ja,hsz,q⟩:=q1;cases r1 with
 |cons r rr=>
  cases rr with
  |cons r' DI=>
   cases DI
   cases (show _=aS u from r)
   cases (show _=aS v from r')
   have fin:∀(h':bL) (fp1 fp2:List aw) (St1 St2:Nat->bL->Prop),pE h' (s1.heap.objs.size+4) (s1.heap.objs.size+2) (s1.heap.objs.size+3) .none->jA h' (s1.heap.objs.size+2) (.ref s1.heap.objs.size) (.ref (s1.heap.objs.size+1))->jA h' (s1.heap.objs.size+3) .none .none->(∀c o,s1.heap.get? c=cz o->h'.get? c=cz o)->
     (∀A:bB,A.handled=el->Draws X.prog X.w A s1.heap.objs.size fp1 ns.length (λi v=>∃t,v=.int (ns.getD i 0) t) St1)->(∀A:bB,A.handled=el->Draws X.prog X.w A (s1.heap.objs.size+1) fp2 ns.length (λi v=>∃t,v=.int (ms.getD i 0) t) St2)->
     (∀b:Nat,b∈fp1->b<=s1.heap.objs.size)->(∀b:Nat,b∈fp2->b<s1.heap.objs.size\/b=s1.heap.objs.size+1)->St1 0 h'->St2 0 h'->
     az (aO X.prog X.w) X.A (spliced (bY pos (ak [] X.env))) (λvs s2=>az (aO X.prog X.w) X.A (call (.type "dict") (.ref (s1.heap.objs.size+4)::vs)) (EP X pins Y Q) X.xe s2) X.xe {s1 with heap:=h'}:=by
    intro h' fp1 fp2 St1 St2 z1 z2 z3 keep D1 D2 f1 f2 g1 g2;refine Calls.spliced_nil ?_;have I2:Inv X pins Y H1 {s1 with heap:=h'}:=I1.kept (t':=s1.toks) keep;have Et:s1.heap.objs.size+4<h'.objs.size:=aB z1;refine b3F (X:=X) (ns:=ns) (ms:=ms) (z:=s1.heap.objs.size+4) (TI:=s1.heap.objs.size+2) (TO:=s1.heap.objs.size+3) (i1:=s1.heap.objs.size) (i2:=s1.heap.objs.size+1) (fp1:=fp1) (fp2:=fp2) (St1:=St1) (St2:=St2) hc hu I2 D1 D2 ?_ hl ja hsz (λb hb=>?_) (λb hb=>?_) z1 z2 z3 g1 g2 q
    ·have n1:∀k,1<=k->s1.heap.objs.size+k∉fp1:=λk hk hb=>by have:=f1 _ hb;lia
     have n2:∀k,k≠1->s1.heap.objs.size+k∉fp2:=λk hk hb=>by rcases f2 _ hb with z|z<;>lia
     have ne:∀i j:Nat,i≠j->(s1.heap.objs.size+i:Nat)≠s1.heap.objs.size+j:=λi j h=>by lia
     exact⟨ne 2 4 (by lia),ne 3 4 (by lia),ne 2 3 (by lia),ne 0 1 (by lia),ne 2 0 (by lia),ne 2 1 (by lia),ne 3 0 (by lia),ne 3 1 (by lia),ne 4 0 (by lia),ne 4 1 (by lia),n1 4 (by lia),n2 4 (by lia),n1 3 (by lia),n2 3 (by lia),n2 0 (by lia),n1 1 (by lia)⟩
    ·have hk:∀k:Nat,k<=4->s1.heap.objs.size+k<h'.objs.size:=λk hk=>ip (Nat.add_le_add_left hk _) Et
     show b<h'.objs.size;rcases aC.mp hb with hb|hb
     ·rcases aC.mp hb with hb|hb
      ·simp only[aD,cO,or_false]at hb;rcases hb with rfl|rfl|rfl|rfl|rfl
       ·exact hk 4 (by decide)
       ·exact hk 2 (by decide)
       ·exact hk 3 (by decide)
       ·exact hk 0 (by decide)
       ·exact hk 1 (by decide)
      ·exact ip (f1 _ hb) (hk 0 (by decide))
     ·rcases f2 _ hb with z|z
      ·exact fK z (hk 0 (by decide))
      ·rw[z];exact hk 1 (by decide)
    ·have kM:s1.heap.objs.size<=b:=by
      simp only[aD,cO,or_false]at hb;rcases hb with rfl|rfl|rfl|rfl
      ·exact oO _ _
      ·exact oO _ _
      ·exact aG _
      ·exact oO _ _
     exact I1.fpOk kM (I1.hok.fresh kM)
   cases l with
   |true=>
    obtain⟨t1,v1,p1,_⟩:=I1.list (show SqL X.K H1 u (ns.map V.int) from BA);obtain⟨t2,v2,vJ,_⟩:=I1.list (show SqL X.K H1 v (ms.map V.int) from Bz);obtain⟨l1,e1⟩:=a2n v1;obtain⟨l2,e2⟩:=a2n v2;have lu:(u:Nat)<s1.heap.objs.size:=by obtain⟨o,ho,_⟩:=p1.isList;exact aB ho
    have lv:(v:Nat)<s1.heap.objs.size:=by obtain⟨o,ho,_⟩:=vJ.isList;exact aB ho
    refine call_zip_2 p1.isList vJ.isList λh' z1 z2 z3 y1 y2 _ keep=>?_
    refine fin h' [s1.heap.objs.size,u] [s1.heap.objs.size+1,v] _ _ z1 z2 z3 keep (λA hA=>(show ns.length=t1.toArray.size by simp[l1])▸(Draws.list (prog:=X.prog) (w:=X.w) (A:=A) hA s1.heap.objs.size u (a_ lu) t1.toArray).imp λi v _ h=>e1 i v (by simpa using h)) (λA hA=>(show ns.length=t2.toArray.size by simp[l2,hl])▸(Draws.list (prog:=X.prog) (w:=X.w) (A:=A) hA (s1.heap.objs.size+1) v (a_ (gz lv)) t2.toArray).imp λi v _ h=>e2 i v (by simpa using h)) (λb hb=>?_) (λb hb=>?_) ⟨y1,p1.isList.at λo e=>keep _ o e⟩ ⟨y2,vJ.isList.at λo e=>keep _ o e⟩
    ·simp only[aD,cO,or_false]at hb;rcases hb with hb|hb
     ·rw[hb];exact aG _
     ·rw[hb];exact dZ lu
    ·simp only[aD,cO,or_false]at hb;rcases hb with hb|hb
     ·exact .inr hb
     ·rw[hb];exact .inl lv
   |false=>
    obtain⟨t1,v1,p1,_⟩:=I1.tuple (show SqT X.K H1 u (ns.map V.int) from BA);obtain⟨t2,v2,vJ,_⟩:=I1.tuple (show SqT X.K H1 v (ms.map V.int) from Bz);obtain⟨l1,e1⟩:=a2n v1;obtain⟨l2,e2⟩:=a2n v2;have q1:s1.heap.IsTuple u t1.toArray:=p1;have q2:s1.heap.IsTuple v t2.toArray:=vJ;have lu:(u:Nat)<s1.heap.objs.size:=by obtain⟨o,ho,_⟩:=q1;exact aB ho
    have lv:(v:Nat)<s1.heap.objs.size:=by obtain⟨o,ho,_⟩:=q2;exact aB ho
    refine b1m q1 q2 λh' z1 z2 z3 y1 y2 keep=>?_
    refine fin h' [s1.heap.objs.size,u] [s1.heap.objs.size+1,v] _ _ z1 z2 z3 keep (λA hA=>(show ns.length=t1.toArray.size by simp[l1])▸(Draws.tup (prog:=X.prog) (w:=X.w) (A:=A) hA s1.heap.objs.size u (a_ lu) t1.toArray).imp λi v _ h=>e1 i v (by simpa using h)) (λA hA=>(show ns.length=t2.toArray.size by simp[l2,hl])▸(Draws.tup (prog:=X.prog) (w:=X.w) (A:=A) hA (s1.heap.objs.size+1) v (a_ (gz lv)) t2.toArray).imp λi v _ h=>e2 i v (by simpa using h)) (λb hb=>?_) (λb hb=>?_) ⟨y1,let⟨o,ho,r⟩:=q1;⟨o,keep _ o ho,r⟩⟩ ⟨y2,let⟨o,ho,r⟩:=q2;⟨o,keep _ o ho,r⟩⟩
    ·simp only[aD,cO,or_false]at hb;rcases hb with hb|hb
     ·rw[hb];exact aG _
     ·rw[hb];exact dZ lu
    ·simp only[aD,cO,or_false]at hb;rcases hb with hb|hb
     ·exact .inr hb
     ·rw[hb];exact .inl lv
end
def b6f(l:Bool):D->Option (List Int)
 |.list ds=>if l then intsOf ds else el
 |.tuple ds=>if l then el else intsOf ds
 |_=>el
def a9I(ns ms:List Int):Bool:=decide (ms.length=ns.length)&&(decide ns.Nodup&&decide (ns.length<1000000))
def ziD(ns ms:List Int):List (D×D):=(ns.zip ms).map λp=>(.int p.1,.int p.2)
def L3(l:Bool)(fa fb:EvE):EvE:=λU=>(fa U).bind λd=>(fb U).bind λe=>(b6f l d).bind λns=>(b6f l e).bind λms=>if a9I ns ms then cz (.dict (ziD ns ms)) else el
theorem a0K(h:∀m,R (V.int m) (.int m) []):∀ms:List Int,ListAll R (ms.map V.int) (ms.map aI) []
 |[]=>n5
 |m::ms=>m7 (f:=[]) (h m) (a0K h ms)
theorem a0L:∀{ns ms:List Int},ms.length=ns.length->(ziE ns ms).map (·.1)=ns.map aI/\(ziE ns ms).map (·.2.2)=ms.map V.int
 |[],[],_=>⟨rfl,rfl⟩
 |[],_::_,h=>by simp at h
 |_::_,[],h=>by simp at h
 |n::ns,m::ms,h=>by
  obtain⟨h1,h2⟩:=a0L (ns:=ns) (ms:=ms) (by simpa using h);exact⟨dY (aI n::·) h1,dY (V.int m::·) h2⟩
theorem a9J:∀{ns ms:List Int},ms.length=ns.length->ziD ns ms=(ns.map aI).zip (ms.map .int)
 |[],[],_=>rfl
 |[],_::_,h=>by simp at h
 |_::_,[],h=>by simp at h
 |n::ns,m::ms,h=>by
  have:=a9J (ns:=ns) (ms:=ms) (by simpa using h);exact dY ((aI n,aI m)::·) this
section
variable {X:Cx}{M:List Md}{a b:Expr}{fa fb:EvE}{ca cb:Cat}{pos gF p p2:eA}{K:af}{H H':Hp}{F:List aw}
def a6T(h:b6f l d=cz ns)(hd:Den K (cut H F) v d):∃u,v=.ref u/\∀H',Same (cut H F) H'->SqI K H' l u ns:=by
 cases d with
 |list ds=>
  cases l with
  |true=>
   have e:=K9 (show intsOf ds=cz ns from h);subst e;obtain⟨u,xs,rfl,k1,k2⟩:=hd.list_inv;rw[X1 k2]at k1;exact⟨u,rfl,λH' s=>(T2 k1 s).l⟩
  |false=>cases h
 |tuple ds=>
  cases l with
  |false=>
   have e:=K9 (show intsOf ds=cz ns from h);subst e;obtain⟨u,xs,rfl,k1,k2⟩:=hd.tup_inv;rw[X1 k2]at k1;exact⟨u,rfl,λH' s=>P9 k1 s⟩
  |true=>cases h
 |_=>cases h
def a3g(l:Bool)(hc:X.calm=fx)(hu:X.A.units+464<cU)(zK:X.mg "dict"=el)(zJ:X.mg "zip"=el)(ha:PX X M a fa ca)(hb:PX X M b fb cb)(Ai:frozen ca:=by trivial)(FU:frozen cb:=by trivial)(zV:Gl X "dict":=by rfl)(zS:Gl X "zip":=by rfl)
  (he:ak [a,b] X.env=(p4,bX a X.env)::ak [b] X.env:=by rfl) (FJ:ak [b] X.env=(p4,bX b X.env)::ak [] X.env:=by rfl) (fF:(bY gF (ak [b] X.env)).any (·.1)=p4:=by rfl)
  (kr:ak [.Call (.Name "zip" p2) [a,b] [] gF] X.env=(p4,bX (.Call (.Name "zip" p2) [a,b] [] gF) X.env)::ak [] X.env:=by rfl) (oD:(bY pos (ak [] X.env)).any (·.1)=p4:=by rfl) :
  PX X M (.Call (.Name "dict" p) [.Call (.Name "zip" p2) [a,b] [] gF] [] pos) (L3 l fa fb) (.new (.d p4 .i)):=by
 obtain⟨ta,pa,qa⟩:=ha.out;obtain⟨tb,pb,qb⟩:=hb.out;refine .mk ⟨_,a8y (l:=l) hc (by lia) zK zJ (l7 pa (l7 pb o5 FJ) he) zV zS he fF kr oD,λU Y H P F d Q S hf q=>?_⟩;obtain⟨x,h1,g1⟩:=bnd hf;obtain⟨y,h2,g2⟩:=bnd g1;obtain⟨ns,h3,g3⟩:=bnd g2;obtain⟨ms,h4,g4⟩:=bnd g3;by_cases c:a9I ns ms=fx
 ·rw[aJ c]at g4;cases g4
  simp only[a9I,av,cG]at c;obtain⟨c1,c2,c3⟩:=c;refine qa U Y H P F _ _ S h1 λv H1 e1 r1=>?_
  obtain⟨u,rfl,su⟩:=a6T h3 (G8 Ai r1);refine qb U Y H1 P F _ _ (S.grow e1) h2 λw H2 e2 r2=>?_
  obtain⟨u2,rfl,sw⟩:=a6T h4 (G8 FU r2);refine⟨u,u2,ns,ms,rfl,su H2 (i8.trans e2),sw H2 i8,c1,c2,fK c3 (by rw[cE];decide),λz hz=>?_⟩;refine q _ _ ((e1.trans e2).trans (j9 hz _)) ⟨[z],?_,bD.mpr ⟨λw=>(nomatch w),bg⟩,λb hb=>?_⟩
  ·simp only[Own];refine⟨z,ziE ns ms,ms.map .int,[],rfl,i7,?_,rfl,⟨?_,λe he=>?_⟩,?_⟩
   ·rw[(a0L c1).1,a9J c1]
   ·rw[(a0L c1).1];exact Dg _ (λx y h e=>h (by injection e)) c2
   ·obtain⟨pr,_,rfl⟩:=aR.mp he;exact⟨z0 rfl,den_int⟩
   ·rw[(a0L c1).2];exact a0K (λm=>⟨rfl,a0C,den_int⟩) ms
  ·rw[aq.mp hb];cases hH:H z with
   |none=>rfl
   |some y=>rw[e2 _ _ (e1 _ _ hH)]at hz;cases hz
 ·rw[aN c]at g4;cases g4
end
def a3h(i:Nat)(kt kt2:Bool)(fk fj fr fv:EvE):EvS:=λU=>(fk U).bind λk=>match U.getD i .none with
 |.dict kvs=>if p9 kt k&&decide (kvs.length<1000000) then
   (fj (U.set i (.dict (o8 kvs k (.dict []))))).bind λj=>match I9 (o8 kvs k (.dict [])) k with
    |some (.dict oA)=>if p9 kt2 j&&decide (oA.length<1000000) then
      if y8 oA j then (fr (U.set i (.dict (o8 kvs k (.dict []))))).bind λd=>cz (.rt d)
      else (fv (U.set i (.dict (o8 kvs k (.dict []))))).bind λd=>cz (.nx ((U.set i (.dict (o8 kvs k (.dict [])))).set i (.dict (v8 (o8 kvs k (.dict [])) k (.dict (v8 oA j d))))))
     else el
    |_=>el
  else el
 |_=>el
section
variable {X:Cx}{M M' M2 ML:List Md}{k j j2 v:Expr}{fk fj fr fv:EvE}{ret:fS}{xJ tY Ba:eA}{kt kt2:Bool}{w:Ty}{pos apos cH gE gF mz:eA}
def b3H(i y:Nat)(hu:X.A.units+464<cU)(Gp:X.N.Nodup)(hk:PX X M k fk (.new .i))(hj:PX X M j fj (.new .i))(uq:PX X M j2 fj (.new .i))(zr:PSX X w ML M ret (m9 fr) M2)(hv:PX X M v fv (.new .i))(jE:PSsX X w ML M sts g M')(yk:kt2=p4:=by rfl)
  (hN:X.N[i]?=cz x:=by rfl) (Ap:X.N[y]?=cz yn:=by rfl) (hm:M[i]?=cz (.own (.d kt (.d kt2 .i))):=by rfl) (wF:M[y]?=cz .dead:=by rfl)
  (oZ:autoParam (NmV X x) ZY._auto_1)
  (uW:autoParam (NmV X yn) ZY._auto_1)
  (Fp:autoParam (Loc X.env.scope yn) ZW._auto_1) (zX:autoParam (X.fn yn=fx\/X.env.scope.names.lookup yn=cz .local) ZV._auto_1)
  (eX:dE (.Name x px) "setdefault" X.env (bX (.Name x px) X.env)=bX (.Name x px) X.env:=by rfl)
  (lW:((bY cH (ak [k,.Dict [] [] mz] X.env)).all (λx=>!x.1)&&(rd cH (lj [] X.env)).all (λx=>x.1.isSome)
   && decide (([k,.Dict [] [] mz]:List Expr).length+([]:List iZ).length+(if ([]:List iZ).isEmpty then 0 else 1)<30))=fx:=by rfl)
  (eW:(apos.endLine==cH.line)=fx:=by rfl) (hs:ak [k,.Dict [] [] mz] X.env=(p4,bX k X.env)::ak [.Dict [] [] mz] X.env:=by rfl) (EN:ak [.Dict [] [] mz] X.env=(p4,bX (.Dict [] [] mz) X.env)::ak [] X.env:=by rfl)
  (iA:(bY cH (ak [.Dict [] [] mz] X.env)).any (·.1)=p4:=by rfl)
  (qF:fP (.Call (.Attribute (.Name x px) "setdefault" apos) [k,.Dict [] [] mz] [] cH) (cz (.Name yn pz)) pos.line X.env=pure p4:=by rfl)
  (zo:fP v (cz (.Subscript (.Name yn py) j2 gE)) gF.line X.env=pure p4:=by rfl) (Fo:autoParam (dP .In (.Name yn Ba)=p4) ZX._auto_1) :
  PSsX X w ML M (.Assign [.Name yn pz] (.Call (.Attribute (.Name x px) "setdefault" apos) [k,.Dict [] [] mz] [] cH) pos::.If (.Compare j [.In] [.Name yn Ba] xJ) [ret] [] tY::.Assign [.Subscript (.Name yn py) j2 gE] v gF::sts) (i5 (a3h i kt kt2 fk fj fr fv) g) M':=by
 obtain⟨tk,pk,qk⟩:=hk.out;obtain⟨tj,pj,qj⟩:=hj.out;obtain⟨DC,DT,DM⟩:=uq.out;obtain⟨tt,pt,qt⟩:=zr.out;obtain⟨tv,pv,qv⟩:=hv.out;obtain⟨tr,pr,qr⟩:=jE.out;refine .mk ⟨_,K6 (b1S Gp Ap Fp (a8e PySem.F.slot_dict_setdefault PySem.F.type_dict_setdefault (b5H hu) (A8 hN oZ.1 oZ.2.1 oZ.2.2) (l7 pk (l7 a6z o5 EN) hs) eX lW eW hs iA) qF zX) (K6 (b1Q (a2h (b2J hu) pj (A8 Ap uW.1 uW.2.1 uW.2.2) Fo) (K6 pt a5i) a5i) (K6 (a9t hu (A8 Ap uW.1 uW.2.1 uW.2.2) DT pv zo) pr)),λD U Y H P F o S hg kk=>?_⟩;obtain⟨o1,h1,g1⟩:=bnd hg;obtain⟨y0,Ex,h1⟩:=bnd h1;obtain⟨a,es,ds,fs,ha,hH,hU,_⟩:=S.toE.dict hm;rw[hU]at h1
 let kvs:List (VS.D×VS.D):=(es.map (·.1)).zip ds
 have lZ:(if (p9 kt y0&&decide (kvs.length<1000000))=fx then (fj (U.set i (.dict (o8 kvs y0 (.dict []))))).bind λj=>match I9 (o8 kvs y0 (.dict [])) y0 with
    |some (.dict oA)=>if p9 kt2 j&&decide (oA.length<1000000) then
      if y8 oA j then (fr (U.set i (.dict (o8 kvs y0 (.dict []))))).bind λd=>cz (Out.rt d)
      else (fv (U.set i (.dict (o8 kvs y0 (.dict []))))).bind λd=>cz (Out.nx ((U.set i (.dict (o8 kvs y0 (.dict [])))).set i (.dict (v8 (o8 kvs y0 (.dict [])) y0 (.dict (v8 oA j d))))))
     else el
    |_=>el
  else el)=cz o1:=h1
 by_cases c:(p9 kt y0&&decide (kvs.length<1000000))=fx
 ·rw[aJ c]at lZ;obtain⟨j0,u_,lZ⟩:=bnd lZ;rw[av]at c;have nr:i<U.length:=by
   obtain⟨G,q1,_⟩:=S.all;obtain⟨d0,_,_,_,_,z1,_⟩:=q1.at_ hm;exact (aP.mp z1).1
  have HW:i≠y:=λz=>by
   subst z;rw[hm]at wF;cases wF
  have ya:y<Y.length:=by
   obtain⟨G,q1,_⟩:=S.all;obtain⟨_,_,_,_,_,_,z1,_⟩:=q1.at_ wF;exact (aP.mp z1).1
  have fin:∀(H1:Hp) (F1:List aw) (v1:V) (d1:VS.D) (f1:List aw),StR X.K M (U.set i (.dict (o8 kvs y0 (.dict [])))) Y H1 P F1->I9 (o8 kvs y0 (.dict [])) y0=cz d1->Own X.K H1 F1 (.d kt2 .i) v1 d1 f1->f1.Nodup->(∀b∈f1,b∈F1)->
    (∀(H':Hp) (a:aw) (o':MuO) (d':VS.D) (f':List aw),Same H1 H'->a∈f1->Own X.K (upd H' a o'.1) F1 (.d kt2 .i) v1 d' f'->(∀b,f'.count b<=f1.count b)->StR X.K M (U.set i (.dict (v8 (o8 kvs y0 (.dict [])) y0 d'))) Y (upd H' a o'.1) P F1)->
    (c0o (b1X (tOp (a8d X p4) tj (b4W y))) (b7T tt b1O) b1O) {D with nx:=(b7T (b7i X (b4W y) DC tv) tr) D} (Y.set y (cz v1)) H1:=by
   intro H1 F1 v1 d1 f1 S1 FA ow ja sr cl;have S2:=S1.ded wF (cz v1);show tj (Y.set y (cz v1)) H1 _;refine qj _ _ H1 P F1 j0 _ S2.toE u_ λjv H2 e2 r2=>⟨v1,eL ya,?_⟩
   rw[FA]at lZ;obtain⟨a1,kE,vg,Ie,GI,GS,GR,Io,GK,Im,tu,HU⟩:=(ow.grow e2).dict;subst GI;subst GR;have kB:(if (p9 kt2 j0&&decide (((kE.map (·.1)).zip vg).length<1000000))=fx then
      if y8 ((kE.map (·.1)).zip vg) j0 then (fr (U.set i (.dict (o8 kvs y0 (.dict []))))).bind λd=>cz (Out.rt d)
      else (fv (U.set i (.dict (o8 kvs y0 (.dict []))))).bind λd=>cz (Out.nx ((U.set i (.dict (o8 kvs y0 (.dict [])))).set i (.dict (v8 (o8 kvs y0 (.dict [])) y0 (.dict (v8 ((kE.map (·.1)).zip vg) j0 d))))))
     else el)=cz o1:=lZ
   by_cases c2:(p9 kt2 j0&&decide (((kE.map (·.1)).zip vg).length<1000000))=fx
   ·rw[aJ c2]at kB;rw[av]at c2;have S3:=S2.grow e2;refine⟨a1,kE,kt2,j0,rfl,GS,keysAt GK c2.1 r2.den,_,rfl,?_⟩;rw[Bool.false_bne,<-B9 tu];cases Co:y8 ((kE.map (·.1)).zip vg) j0 with
    |true=>
     rw[Co,aJ rfl]at kB;obtain⟨dr,Ac,qW⟩:=bnd kB;cases qW
     have:o=.rt dr:=(aK g1).symm;subst this;rw[aJ rfl];exact qt _ _ _ H2 P F1 (.rt dr) S3 (show (fr _).bind _=_ by rw[Ac];rfl) kk
    |false=>
     rw[Co]at kB;simp only[cV,fQ]at kB ⊢;obtain⟨d0,FN,qW⟩:=bnd kB;cases qW
     show tv (Y.set y (cz (.ref a1))) H2 _;refine qv _ _ H2 P F1 d0 _ S3.toE FN λvv H3 e3 r3=>⟨.ref a1,eL ya,DM _ _ H3 P F1 j0 _ (S3.grow e3).toE u_ λBo H4 e4 r4=>?_⟩
     have S4:=S3.grow (e3.trans e4);obtain⟨xC,DV,_⟩:=r3;obtain⟨rfl,im,dv⟩:=W5 DV;have DW:Own X.K H4 F1 .i vv d0 []:=by
      simp only[Own];exact⟨trivial,im,dv.up (D4 e4)⟩
     have Fv:Den X.K (cut H4 F1) Bo j0:=r4.den.imm_out S4.lst j0 (W2 _ (z0 c2.1).1);obtain⟨fC,z1,z2,z3,z4,f',o',Ah⟩:=b2Z (fv:=[]) (ow.grow (e2.trans (e3.trans e4))) sr (by simpa using ja) (z0 c2.1) Fv DW;refine⟨a1,fC,kt2,j0,rfl,z1,keysAt z2 c2.1 r4.den,by rw[z3];exact fK (aX c2.2) (by rw[cE];decide),λ_=>b2M yk c2.1,?_⟩;have S5:=(cl H4 a1 ⟨c9 a1 (Q9 fC j0 Bo vv),trivial⟩ _ f' (e2.trans (e3.trans e4)) z4 o' λb=>by have:=Ah b;simpa using this).ded wF (cz (.ref a1));refine qr D _ _ _ P F1 o S5 ?_ kk;have g2:g ((U.set i (.dict (o8 kvs y0 (.dict [])))).set i (.dict (v8 (o8 kvs y0 (.dict [])) y0 (.dict (v8 ((kE.map (·.1)).zip vg) j0 d0)))))=cz o:=g1;rw[uK]at g2;exact g2
   ·rw[aN c2]at kB;cases kB
  refine⟨.ref a,ha,⟨a,es,rfl,hH⟩,qk U Y H P F y0 _ S.toE Ex λkv H1 w1 r1=>λz hz=>?_⟩;have w2:Same H1 (upd H1 z (c9 z [])):=j9 hz _;have S2:=S.grow (w1.trans w2);have sD:Den X.K (upd H1 z (c9 z [])) kv y0:=r1.den.up w2;have wg:C6 y0=fx:=(z0 c.1).1;have BL:∀{fC:List (VS.D×V×V)} {iN:List VS.D},U.getD i .none=.dict ((fC.map (·.1)).zip iN)->iN.length=fC.length->kvs=(fC.map (·.1)).zip iN/\fC.length<aQ:=λ{fC iN} hq hl=>by
   rw[hU]at hq
   injection hq with hq
   refine⟨hq,?_⟩;have e3:((fC.map (·.1)).zip iN).length=fC.length:=by rw[d_,ao,hl,kZ]
   rw[<-e3,<-hq];exact fK (aX c.2) (by rw[cE];decide)
  cases hK:y8 kvs y0 with
  |true=>
   have sC:o8 kvs y0 (.dict [])=kvs:=by unfold o8;rw[hK];rfl
   have eU:U.set i (.dict kvs)=U:=set_same (by rw[<-hU,aW,ay nr];rfl);obtain⟨a0,fC,iN,t1,t2,t3,t4,t5,t6,t7⟩:=S2.dval (k:=y0) hm (z0 c.1);rw[ha]at t1;cases t1
   obtain⟨ek,hsz⟩:=BL t3 t4;refine⟨a,fC,kt,y0,kv,.ref z,rfl,rfl,t2,keysAt t5 c.1 sD,hsz,λhf=>?_,λe he f_=>?_⟩
   ·rw[ek,B9 t4,hf]at hK;cases hK
   ·obtain⟨d1,f1,x1,x2,x3,x4,x5⟩:=t7 e he f_;refine fin _ F e.2.2 d1 f1 (by rw[sC,eU];exact S2) (by rw[sC,ek];exact x1) x2 x3 x4 λH' a' o' d' f' tF qg xB Ax=>?_
    rw[sC,ek];exact x5 H' a' o' d' f' tF qg xB Ax
  |false=>
   have oz:Own X.K (upd H1 z (c9 z [])) ([z]++F) (.d kt2 .i) (.ref z) (.dict []) [z]:=by
    simp only[Own];exact⟨z,[],[],[],rfl,i7,rfl,rfl,⟨bg,λe he=>(nomatch he)⟩,n5⟩
   have P1:=(S.grow w1).pend.new w2 oz (by simp) λb hb=>by rw[aq.mp hb];exact hz
   have sC:o8 kvs y0 (.dict [])=kvs++[(y0,.dict [])]:=by unfold o8;rw[hK];rfl
   obtain⟨a0,fC,iN,xC,t1,t2,t3,t4,t5,t6,t7,t8,t9,DD⟩:=P1.dnew (k:=y0) (kv:=kv) hm (z0 c.1) sD;rw[ha]at t1;cases t1
   obtain⟨ek,hsz⟩:=BL t3 t4;have hE:u9 fC y0=p4:=by rw[<-B9 t4,<-ek];exact hK
   refine⟨a,fC,kt,y0,kv,.ref z,rfl,rfl,t2,keysAt t5 c.1 sD,hsz,λhf=>?_,λe he f_=>?_⟩
   ·obtain⟨z',_,_,kD,ez,zz,_,GQ,_⟩:=t7.dict;cases ez
    have Bp:z∈xC:=by rw[GQ];exact ar
    have Es:z≠a:=(t9 z Bp).2;have ot:a∈[z]++F:=by
     obtain⟨_,_,PS⟩:=P1;have:=PS.lst;obtain⟨v0,f0,tF,qg,xB⟩:=S.toE.get hm;rw[ha]at tF;cases tF
     obtain⟨a9,_,_,_,e9,_,_,f9,_⟩:=qg.dict;cases e9
     exact ax _ (xB a (by rw[f9];exact ar))
    have key:=DD hf;have vK:Own X.K (upd (upd H1 z (c9 z [])) a (c9 a (fC++[(y0,kv,.ref z)]))) ([z]++F) (.d kt2 .i) (.ref z) (.dict []) xC:=t7.frame (R0 ot _) _ λb hb=>f8 (t9 b hb).2
    have sY:upd (upd (upd H1 z (c9 z [])) a (c9 a (fC++[(y0,kv,.ref z)]))) z (c9 z [])=upd (upd H1 z (c9 z [])) a (c9 a (fC++[(y0,kv,.ref z)])):=b3a (by rw[f8 Es,i7]);refine fin _ ([z]++F) (.ref z) (.dict []) xC ?_ (by rw[sC];exact a4C wg hK) vK t8 (λb hb=>(t9 b hb).1) λH' a' o' d' f' tF qg xB Ax=>?_
    ·have:=key _ z ⟨c9 z [],trivial⟩ (.dict []) xC (Same.refl _) Bp (by rw[sY];exact vK) λb=>aG _
     rw[sY,<-ek,<-sC]at this;exact this
    ·rw[sC,a8j wg hK,ek];exact key H' a' o' d' f' tF qg xB Ax
   ·exact absurd ((KeysAt.eqv (keysAt t5 c.1 sD) he).mpr f_) (by
     unfold u9 at hE;rw[cA]at hE;exact hE e he)
 ·rw[aN c]at lZ;cases lZ
end
def ItV(a:aw)(es:List (D×V×V)):It:=
 ⟨λi H=>H a=cz (c9 a es)/\i<es.length,λi H x H'=>H'=H/\∃e,es[i]?=cz e/\x=e.2.2,λi H=>H a=cz (c9 a es)/\es.length<=i⟩
def b1n(a it:aw)(es:List (D×V×V))(hk:z8 es):Turn P w K tg (ItV a es) [it] it (λi h=>h.IsValIter it a i es.length es.length) where
 mem:=by simp
 obj:=λi h st b hb=>by
  cases aq.mp hb
  obtain⟨o,e,c,d⟩:=st;exact⟨o,e,λv z=>by rw[d]at z;cases z⟩
 keep:=λi h h' st k=>let⟨o,e,r⟩:=st;⟨o,k it (by simp) o e,r⟩
 item:=by
  intro X hP hw hK hc i pins s Y H E I hf st hg;subst hP hw hK;obtain⟨hH,hi⟩:=hg;obtain⟨kvs,jN,h0,hp,hlen⟩:=G0 I hH hk;have hx:es[i]?=cz es[i]:=ay hi;obtain⟨⟨n,v⟩,zQ,g⟩:=F5 hp hx;obtain⟨f0,f1,f2,f3,f4,f5⟩:=hf it (by simp);rw[<-hlen]at st jN;refine wpAny_pyNext_values_item (knd:=cW X.prog X.w) st jN zQ λh' rR sb=>?_
  have I1:Inv X pins Y H {s with heap:=h'}:=I.turned (t':=s.toks) (λb o hb e=>(sb.2 b hb).trans e) f0 f1 f3 f4 f5;rw[hlen]at rR;obtain⟨o,e,c,d⟩:=id rR;exact⟨v,rfl,b1T (s:={s with heap:=h'}) e c d (by decide) ⟨es[i].2.2,H,I1,g.2.2,⟨rfl,es[i],hx,rfl⟩,rR,λb hb=>(hf b hb).1⟩⟩
 done:=by
  intro X hP hw hK hc i pins s Y H E I hf st hg;subst hP hw hK;obtain⟨hH,hi⟩:=hg;obtain⟨kvs,jN,h0,hp,hlen⟩:=G0 I hH hk;obtain⟨f0,f1,f2,f3,f4,f5⟩:=hf it (by simp);rw[<-hlen]at st jN;exact wpAny_pyNext_values_end (knd:=cW X.prog X.w) (I.ok.hd hc) st jN (eh (by lia)) λh' eb=>⟨rfl,I.turned (t':=s.toks) (λb o hb e=>eb b o hb e) f0 f1 f3 f4 f5⟩
 self:=λ_ _ _ _ _ st h=>wpAny_pyIter_valiter st h
section
variable {X:Cx}{M:List Md}{tg o:Expr}{fa:EvE}{ca:Cat}{apos cH:eA}
def c2N(to:TE):TI:=λY H R=>to Y H λx H1=>∃p es,x=.ref p/\H1 p=cz (c9 p es)/\z8 es/\R (ItV p es) H1
def b6g(ho:PE X o to)(eX:dE o "values" X.env (bX o X.env)=bX o X.env:=by rfl)(eW:(apos.endLine==cH.line)=fx:=by rfl):PI X tg (.Call (.Attribute o "values" apos) [] [] cH) (c2N to):=by
 intro pins s Y H R I h;refine iG eX eW (L2.thn (ho pins s Y H _ I h) λv s1 ⟨x,H1,I1,r1,p,es,ex,hH,hk,q1⟩=>?_);subst ex;obtain rfl:v=aS p:=r1;obtain⟨kvs,jN,h0,hp,hlen⟩:=G0 I1 hH hk;refine⟨"dict","dict.values",iu,h_,sH,l6 I1 hH,M8 I1 hH,fq rfl (jk ?_)⟩;refine Hb h_ (l6 I1 hH) rL (rj _) (meets_dict_values (cW X.prog X.w) p h0) ⟨⟨kvs,jN.dictOf⟩,?_⟩;refine wpAny_pyIter_values (knd:=cW X.prog X.w) ⟨_,aF _ rfl,rfl,rfl⟩ (jN.at λ_ e=>ah _ e) ?_;have hz:(s1.heap.push {cls:=.type "dict_values",data:=.fields #[.ref p]}).objs.size=s1.heap.objs.size+1:=cL ..;refine⟨_,[_],_,_,H1,rfl,I1.kept (t':=s1.toks) λb o e=>ah _ (ah _ e),b1n p _ es hk,⟨_,aF _ rfl,rfl,by rw[hlen];rfl⟩,λb hb=>?_,q1⟩;have e:=aq.mp hb;have kM:s1.heap.objs.size<=b:=by rw[e,hz];exact gL _
 exact I1.fpOk kM (I1.hok.fresh kM)
def a8z:Walks (ItV p es) (λH=>H p=cz (c9 p es)) (es.map (·.2.2)) where
 go:=λi H h hi=>⟨h,by simpa using hi⟩
 stop:=λi H h hi=>⟨h,by simpa using hi⟩
 yld:=λi H x H' h hi y=>by
  obtain⟨e,r,hr,rfl⟩:=y;exact⟨e,by rw[aY,hr];rfl⟩
def iVa(a:EvE):EvA:=λU=>(a U).bind λd=>match d with
 |.dict kvs=>if keysOk p4 kvs then cz (kvs.map (·.2)) else el
 |_=>el
def b3I(h:PX X M o fa ca)(hc:frozen ca:=by trivial)(eX:dE o "values" X.env (bX o X.env)=bX o X.env:=by rfl)(eW:(apos.endLine==cH.line)=fx:=by rfl):PIX X M tg (.Call (.Attribute o "values" apos) [] [] cH) (iVa fa):=by
 obtain⟨t,p,q⟩:=h.out;refine⟨_,b6g p eX eW,λU Y H P F ds R S hf k=>?_⟩;obtain⟨d,h1,h2⟩:=bnd hf;cases d with
 |dict kvs=>
  have kB:(if keysOk p4 kvs then cz (kvs.map (·.2)) else el)=cz ds:=h2;by_cases c:keysOk p4 kvs=fx
  ·rw[aJ c]at kB;cases kB
   refine q U Y H P F _ _ S h1 λv H1 e1 r1=>?_
   obtain⟨aa,es,rfl,k1,k2⟩:=(G8 hc r1).dict_inv;exact⟨aa,es,rfl,i8 _ _ k1,a1V k2 c,k _ _ _ H1 e1 a8z (λH2 e2=>e2 _ _ k1) k2.vals⟩
  ·rw[aN c]at kB;cases kB
 |_=>cases h2
end
def eIm(f:EvE):EvE:=λU=>(f U).bind V6
section
variable {X:Cx}{M:List Md}{e:Expr}{f:EvE}{c:Cat}
def a5I(h:PX X M e f c):PX X M e (eIm f) (.new .i):=by
 obtain⟨t,p,q⟩:=h.out;refine .mk ⟨t,p,λU Y H P F d Q S hf k=>?_⟩;obtain⟨x,h1,h2⟩:=bnd hf;obtain⟨rfl,hi⟩:=Q6 h2;exact q U Y H P F _ Q S h1 λv H' e r=>k v H' e (B7 hi r.den (S.lst' e))
def b7k(h:f U=cz d)(hi:imm d=fx):eIm f U=cz d:=by
 unfold eIm;rw[h,bS];unfold V6;rw[aJ hi]
end
section
variable {X:Cx}{M:List Md}{a:Expr}{fa:EvE}{ca:Cat}{pos p:eA}
def call_listK(hc:X.calm=fx):CallR X (.type "list") (λxs H Q=>∃p es,xs=[.ref p]/\H p=cz (c9 p es)/\∀l,H l=el->Q (.ref l) (upd H l (.lst (es.map (·.2.1))))):=by
 intro pins s Y H xs us Q I rv h;obtain⟨p,es,rfl,hH,q⟩:=h;obtain⟨u,rfl,rx⟩:=vals1 rv;cases (show u=aS p from rx)
 obtain⟨h0,hl,_,o,ents,ep,r1,r2,r3,hp,_⟩:=a1r I hH;have hlen:=dF hp;have hz:ents.size=es.length:=by rw[hlen,cN]
 refine W.kdl_call (b5Q (ep:=ep) h0) (I.ok.hd hc) ⟨o,r1,r2,r3⟩ (by lia) λg1 tq ac cq keep ho qS=>?_
 refine⟨.ref s.heap.objs.size,_,I.laid (t':=tq) keep (aG _) (show ObjOk X.prog X.w _ g1 _ (.lst (es.map (·.2.1))) from⟨by rw[ao];exact hl,ac.toList,cq,?_,by rw[gP];exact ho⟩),rfl,q _ (I.hok.fresh (aG _))⟩;refine a0F (by rw[ao];have z1:=qS.1;have z2:ac.toList.length=ac.size:=cN;lia) λi x u h1 h2=>?_
 rw[cg]at h2;obtain⟨e',h3,rfl⟩:=qS.2 i u h2;rw[aY]at h1;obtain⟨e,he,rfl⟩:=dw.mp h1;obtain⟨kv,g3,g4⟩:=F5 hp he;rw[cg,h3]at g3;cases g3
 exact g4.2.1
def a8A(a:EvE):EvE:=λU=>(a U).bind λd=>match d with
 |.dict kvs=>if g9 (kvs.map (·.1)) then cz (.list (kvs.map (·.1))) else el
 |_=>el
def b3J(hc:X.calm=fx)(hm:X.mg "list"=el)(ha:PX X M a fa ca)(hg:Gl X "list":=by rfl)(he:ak [a] X.env=(p4,bX a X.env)::ak [] X.env:=by rfl)(fF:(bY pos (ak [] X.env)).any (·.1)=p4:=by rfl) :
  PX X M (.Call (.Name "list" p) [a] [] pos) (a8A fa) (.new (.l .i)):=by
 obtain⟨ta,pa,qa⟩:=ha.out;refine .mk ⟨_,C5 (call_listK hc) hg hm PyProof.Rows.Boot.«list» (l7 pa o5 he) (by decide) (by decide) he fF,λU Y H P F d Q S hf q=>?_⟩;obtain⟨x,h1,g1⟩:=bnd hf;cases x with
 |dict kvs=>
  have g2:(if g9 (kvs.map (·.1)) then cz (ia (kvs.map (·.1))) else el)=cz d:=g1;by_cases c:g9 (kvs.map (·.1))=fx
  ·rw[aJ c]at g2;cases g2
   refine qa U Y H P F _ _ S h1 λv H1 e1 r1=>?_
   obtain⟨pp,es,rfl,k1,k2⟩:=r1.den.dict_inv;exact⟨pp,es,rfl,k1,λz hz=>q _ _ (e1.trans (j9 hz _)) (N3 (a1R k2) c e1 hz (S.lst' e1))⟩
  ·rw[aN c]at g2;cases g2
 |_=>cases g1
def b3K(hm:X.mg "len"=el)(ha:PX X M a fa ca)(hg:Gl X "len":=by rfl)(he:ak [a] X.env=(p4,bX a X.env)::ak [] X.env:=by rfl)(fF:(bY pos (ak [] X.env)).any (·.1)=p4:=by rfl) :
  PX X M (.Call (.Name "len" p) [a] [] pos) (eCl b2I (b8 fa g8)) (.new .i):=by
 obtain⟨ta,pa,qa⟩:=ha.out;refine .mk ⟨_,N8 b0F hg hm PySem.boot_len (l7 pa o5 he) (by decide) (by decide) he fF,λU Y H P F d Q S hf q=>?_⟩;obtain⟨xs,h1,h2⟩:=bnd hf;obtain⟨x,h3,h4⟩:=bnd h1;obtain⟨mG,h5,h6⟩:=bnd h4;cases h5
 cases h6
 have hx:∃kvs,x=.dict kvs/\d=.int kvs.length:=by
  cases x with
  |dict kvs=>cases h2;exact⟨kvs,rfl,rfl⟩
  |_=>cases h2
 obtain⟨kvs,rfl,rfl⟩:=hx;refine qa U Y H P F _ _ S h3 λv H1 e1 r1=>?_
 obtain⟨pp,es,rfl,k1,k2⟩:=r1.den.dict_inv;have hlen:kvs.length=es.length:=by have:=dY gN k2.keys;simpa using this.symm
 refine⟨pp,es,rfl,k1,?_⟩;rw[<-hlen];exact q _ _ e1 (B7 a0C den_int (S.lst' e1))
end
def noT(d:D):Option D:=if imm d&&!x8 d then cz d else el
end VS
namespace VS
open PySem.Spec L2
open PyProof.Rows (slot_list_sort entry_list_sort args_list_sort kind_sorted plain_sorted entry_sorted args_sorted1 IntsAre)
def b1o{kvs:List (Int×ai)}:∀{vs:List ai},vs.length=kvs.length->(∀(i:Nat) (v:ai),vs[i]?=cz v->∃k x,kvs[i]?=cz (k,x)/\(cW prog w).is k v=fx)->IntsAre vs (kvs.map (·.1)):=by
 induction kvs with
 |nil=>
  intro vs hl _;cases dR.mp hl
  exact .nil
 |cons p kvs ih=>
  intro vs hl h;cases vs with
  |nil=>cases hl
  |cons v vs=>
   obtain⟨k,x,e1,e2⟩:=h 0 v rfl;cases e1
   obtain⟨t,rfl⟩:=rg e2;exact .cons _ _ (ih (by simpa using hl) λi u hu=>h (i+1) u (by simpa using hu))
def a8B{A:bB}{sh:aj}(hh:A.handled=el)(h0:(d==cS)=p4)(hm:sh.heap.DictAt (cW prog w) d kvs ep)(hz:kvs.length<=aQ)
  (q:∀(h':bL) (tk:Nat) (vs:List ai),Kept sh.heap h'->sh.heap.objs.size<=h'.objs.size->vs.length=kvs.length->IntsAre vs (kvs.map (·.1))->Q vs {sh with heap:=h',toks:=tk}):az (aO prog w) A (collect (.ref d)) Q E sh:=by
 have hd:d<sh.heap.objs.size:=hm.lt_size;unfold collect;refine ae (ny (dD nu ?_));rw[cZ qm _];show az _ A.in1 (newList [] >>= λl=>again (.builtin "list.__iadd__" ⟨[l,.ref d],[]⟩)) _ _ sh;refine ae (dg (ag ⟨fw ir _,dD pD ?_⟩));rw[cZ ir _];show az _ A.in1 (dq (.ref sh.heap.objs.size) (.ref d) (.ref sh.heap.objs.size)) _ _ _;refine cK (W.kdl_extend (A:=A) (s:={sh with heap:=sh.heap.push {cls:=.type "list",data:=.seq ([]:List ai).toArray}})
  (R:=λ(g:xP) (s':aj)=>∃(h':bL) (tk:Nat) (acc:Array ai) (c:Nat),g=.ok (.ret (.ref sh.heap.objs.size))/\s'={sh with heap:=h',toks:=tk}/\
   h'.get? sh.heap.objs.size=cz {cls:=.type "list",dict:=el,data:=.seq acc c,slots:=#[]}/\Q acc.toList {sh with heap:=h',toks:=tk})
  (W.kdl_dict (knd:=cW prog w) (kvs:=kvs) (ep:=ep) h0) hh (hm.push _) sh.heap.objs.size (dz hd) (dz hd) (.ref sh.heap.objs.size) 0 (aF _ rfl)
  (λh' tk acc c hk hS kP=>⟨h',tk,acc,c,rfl,rfl,hS,q h' tk _ (λb o x=>hk b o (a_ (aB x)) (ah _ x)) (dZ (aB hS)) (by rw[cN];exact kP.1)
   (b1o (prog:=prog) (w:=w) (by rw[cN];exact kP.1) λi v hv=>kP.2 i v (by rw[<-cg];exact hv))⟩) hz) (λg s' x=>?_) λe s' x=>?_
 ·cases g with
  |done f=>
   obtain⟨h',tk,acc,c,e,rfl,hS,qq⟩:=x;cases e
   show az _ A (load sh.heap.objs.size >>= _) _ _ _;exact ae (mn hS (ag qq))
  |again c₁=>
   refine⟨x.1,ff x.2 λg s₂ y=>?_⟩;obtain⟨h',tk,acc,c,rfl,rfl,hS,qq⟩:=y;show az _ A (load sh.heap.objs.size >>= _) _ _ _;exact ae (mn hS (ag qq))
 ·obtain⟨_,_,_,_,e',_⟩:=x;cases e'
section
variable {X:Cx}{M:List Md}{a:Expr}{fa:EvE}{ca:Cat}{pos p:eA}
def a6U(hc:X.calm=fx):CallR X (.builtin "sorted") (λxs H Q=>∃p es ns,xs=[.ref p]/\H p=cz (c9 p es)/\z8 es/\es.map (·.1)=ns.map aI/\ns.length<64/\∀z,H z=el->Q (.ref z) (upd H z (.lst ((srt ns).map V.int)))):=by
 intro pins s Y H xs us Q I rv h;obtain⟨p,es,ns,rfl,hH,hk,hn,Au,q⟩:=h;obtain⟨u,rfl,rx⟩:=vals1 rv;cases (show u=aS p from rx)
 obtain⟨kvs,ep,jN,h0,hl,hp⟩:=T9 I hH hk;have hlen:=dF hp;have pd:kvs.map (·.1)=ns:=(List.map_inj_right (f:=aI) λx y e=>by cases e;rfl).mp ((a6B hp).symm.trans hn);have BQ:kvs.length=ns.length:=by rw[<-pd,ao]
 refine lg kind_sorted plain_sorted entry_sorted (args_sorted1 _) ?_;unfold Builtin.«sorted»;refine ae (m:=checkCount "sorted" 1 1 _) (ag ?_);refine ae (a8B (A:=X.A.in1) (by simpa using I.ok.hd hc) h0 jN (by rw[cE];lia) λh1 tk vs k1 z1 yc hI=>?_);rw[pd]at hI;refine ae (wpAny_newList ?_ (by rw[cE];lia));have oL:(h1.push (uT "list" vs.toArray 0)).get? h1.objs.size=cz (uT "list" vs.toArray 0):=aF _ rfl;refine ae (bJ (bF slot_list_sort ⟨_,oL,rfl⟩ entry_list_sort (qu (s:={s with heap:=h1.push (uT "list" vs.toArray 0),toks:=tk}) oL hI (by lia) λout Eb a1 a2 a3=>⟨_,rfl,?_⟩) (args_list_sort _)));obtain⟨e,uD⟩:=rl (out:=out) oL;have pO:H h1.objs.size=el:=I.hok.fresh z1;rw[a6A a2 a3]at a1;have mw:((srt ns).map V.int).length<=aQ:=by rw[ao,(v4 ns).length_eq,cE];lia
 refine ag ⟨_,rfl,.ref h1.objs.size,_,I.laid (a:=h1.objs.size) (o:=.lst ((srt ns).map V.int)) (t':=tk) (λb u hb=>?_) z1 ⟨mw,out.toList,e,vals_ints a1,by rw[gP];exact uD⟩,rfl,q _ pO⟩;have kM:=ah (uT "list" vs.toArray 0) (k1 b u hb);exact (qo (a_ (bb (aB hb) z1)) (aB kM)).trans kM
def D9(a:EvE):EvE:=λU=>(a U).bind λd=>match d with
 |.dict kvs=>(intsOf (kvs.map (·.1))).bind λns=>if ns.length<64 then cz (.list ((srt ns).map .int)) else el
 |_=>el
def a1w(hc:X.calm=fx)(hm:X.mg "sorted"=el)(ha:PX X M a fa ca)(hg:Gl X "sorted":=by rfl)(he:ak [a] X.env=(p4,bX a X.env)::ak [] X.env:=by rfl)(fF:(bY pos (ak [] X.env)).any (·.1)=p4:=by rfl) :
  PX X M (.Call (.Name "sorted" p) [a] [] pos) (D9 fa) (.new (.l .i)):=by
 obtain⟨ta,pa,qa⟩:=ha.out;refine .mk ⟨_,N8 (a6U hc) hg hm PyProof.Rows.Boot.«sorted» (l7 pa o5 he) (by decide) (by decide) he fF,λU Y H P F d Q S hf q=>?_⟩;obtain⟨x,h1,g1⟩:=bnd hf;cases x with
 |dict kvs=>
  obtain⟨ns,h2,g2⟩:=bnd (show (intsOf (kvs.map (·.1))).bind _=cz d from g1);by_cases c:ns.length<64
  ·rw[aJ c]at g2;cases g2
   have oq:=K9 h2;refine qa U Y H P F _ _ S h1 λv H1 e1 r1=>?_
   obtain⟨pp,es,rfl,k1,k2⟩:=r1.den.dict_inv;have hk:=intKeyed k2 (by
    rw[bj];intro p hp;have:p.1∈ns.map aI:=by rw[<-oq];exact bE hp
    obtain⟨n,_,e⟩:=aR.mp this;rw[<-e];rfl)
   refine⟨pp,es,ns,rfl,k1,hk,by rw[k2.keys];exact oq,c,λz hz=>q _ _ (e1.trans (j9 hz _)) (N3 ?_ (b8Y _) e1 hz (S.lst' e1))⟩;have:∀ms:List Int,DenAll X.K H1 (ms.map V.int) (ms.map aI):=DenAll.ints;exact this _
  ·rw[aN c]at g2;cases g2
 |_=>cases g1
end
end VS
namespace PySem
def a5J:mq (.type "list") "keys"=pure el:=by rw[jT,gR];kernel_rfl
def a6V{A:bB}{s:aj}(hA:A.handled=el)(hx:s.heap.get? a=cz o)(hc:o.cls=.type "list")(kO:o.data=.seq xs k)(hd:o.dict=el)
  (q:∀h' tk,(∀b o,s.heap.get? b=cz o->h'.get? b=cz o)->Q el {s with heap:=h',toks:=tk}):az (aO prog w) A (nM (.ref a) "keys") Q E s:=by
 obtain⟨c,Iq,dat,sl⟩:=o;simp only at hc kO hd;subst hc kO hd;obtain⟨hp,g,d,tk,os⟩:=s;have hT:∀tU,(⟨hp,g,d,tU,os⟩:aj).TypeIs (.ref a) "list":=λ_=>⟨_,hx,rfl⟩
 have f1:=sub_AttributeError;have f3:=lN.lookup;have f4:=lN.bind (.ref a);have f5:=am_list_getattr_none;unfold nM getAttrBy? getAttrBy
 repeat (any_goals (first|assumption|exact hT _|((with_reducible show az _ _ (call (pB "list.__getattribute__") _ _) _ _ _);refine xN lN (hT _) am_entry_list_getattribute (F.args_list_getattribute_2 _ _) (meets_getattribute_miss_list a xs k sl "keys" _ a5J (by decide)) ⟨hx,hA,λh' tU e rz=>?_⟩)|wp_step))
 obtain⟨t',u',he⟩:=rz.there;show az _ _ (kC _ _ _ _ _ _ _) _ _ _;unfold kC
 repeat (any_goals (first|assumption|wp_step))
 exact q _ _ rz.keeps
end PySem
namespace VS
open PySem.Spec L2
section
variable {X:Cx}{pins:List (aw×fm)}{Y:L2.St}{H:Hp}{s:aj}{l:aw}{ps:List (Int×V)}{xs:List V}
def a8C(hc:X.calm=fx)(hu:X.A.units+40<cU)(I:Inv X pins Y H s)(ja:(ps.map (·.1)).Nodup)(hsz:ps.length<aQ)(hl:SqL X.K H l xs)(hlen:xs.length=ps.length)
  (hx:∀i (h:i<ps.length),∃b,xs[i]?=cz (.ref b)/\SqT X.K H b [.int ps[i].1,ps[i].2]) (q:∀d,H d=el->Q (.ref d) (upd H d (c9 d (lE ps)))):az (aO X.prog X.w) X.A (call (.type "dict") [.ref l]) (EP X pins Y Q) X.xe s:=by
 have hh:X.A.handled=el:=I.ok.hd hc;have uw:H s.heap.objs.size=el:=I.hok.fresh (aG _);obtain⟨cP,v1,⟨o,n,ho,pP,lH,vb⟩,_⟩:=I.list hl;refine a4J hu I ja hsz ho pP (by decide) (λA s1 Q E hA h1 q=>a6V (hA.trans hh) h1 pP vb lH q) (λA s1 Q E hA up gQ I1 q=>?_) q;have p1:PlainL s1.heap l cP.toArray:=⟨o,n,up _ _ ho,pP,lH,vb⟩;have hf:=λo'=>I1.fpOk (b:=s1.heap.objs.size) (H':=upd H s.heap.objs.size o') (aG _) (by rw[f8 (dz gQ)];have:=I1.hok.fresh (aG s1.heap.objs.size);rwa[f8 (dz gQ)]at this)
 have tn:∀{es:List (D×V×V)} {s2:aj} {h':bL},Inv X pins Y (upd H s.heap.objs.size (c9 s.heap.objs.size es)) s2->(∀b o,b≠s1.heap.objs.size->s2.heap.get? b=cz o->h'.get? b=cz o)->Inv X pins Y (upd H s.heap.objs.size (c9 s.heap.objs.size es)) {s2 with heap:=h'}:=λ{_ s2 _} I up=>a0E (t':=s2.toks) (ch:=[s1.heap.objs.size]) I (λb o hb e=>up b o (λq=>hb (by simp[q])) e) λb hb=>by rw[aq.mp hb];exact hf _
 refine lh p1.isList (q _ _ (λi h=>h.IsListIter s1.heap.objs.size l i) (λA hA=>⟨λi s2 Q E hi I g q=>?_,λs2 Q E I g q=>?_⟩) ⟨_,aF _ rfl,rfl,rfl⟩ λ_ _ e=>ah _ e)
 ·obtain⟨b,hb,hT⟩:=hx i hi;obtain⟨cP,v1,p1,_⟩:=I.list (b2k hl (j9 uw _));obtain⟨w,hw,vH⟩:=v1.get hb;cases (show w=aS b from vH)
  refine Dt g p1.isList (x:=.ref b) (by simpa using hw) λh' oF up=>?_
  have I2:=tn (h':=h') I λb o hb e=>up.extBut b o hb e
  obtain⟨vs,v2,⟨o,ho,hc,n,vb⟩,_⟩:=I2.tuple (P9 hT (j9 uw _));cases v2 with
  |cons rk v2=>
   cases v2 with
   |cons rv v2=>
    cases v2
    exact q b o _ _ n h' s2.toks ho hc vb rk rv I2 λh2 pY _=>oF.at λo e=>pY _ o (dz gQ) e
 ·obtain⟨cP,v1,p1,_⟩:=I.list (b2k hl (j9 uw _));exact Hu (hA.trans hh) g p1.isList (by have:=v1.length;simp;lia) λh' up=>q h' (tn I λb o hb e=>up b o hb e)
end
def prs:List D->Option (List (Int×D))
 |[]=>cz []
 |.tuple [.int k,v]::t=>(prs t).bind λq=>cz ((k,v)::q)
 |_=>el
def a9K(ps:List (Int×D)):Bool:=decide (ps.map (·.1)).Nodup&&decide (ps.length<1000000)
def U2(fa:EvE):EvE:=λU=>(fa U).bind λd=>match d with
 |.list ds=>(prs ds).bind λps=>if a9K ps then cz (.dict (ps.map λp=>(.int p.1,p.2))) else el
 |_=>el
def b6h:∀{ds:List D} {ps:List (Int×D)} {xs:List V},prs ds=cz ps->DenAll K H xs ds->∃vs:List (Int×V),vs.map (·.1)=ps.map (·.1)/\xs.length=vs.length/\DenAll K H (vs.map (·.2)) (ps.map (·.2))/\∀i (h:i<vs.length),∃b,xs[i]?=cz (.ref b)/\SqT K H b [.int vs[i].1,vs[i].2]:=by
 intro ds
 induction ds with
 |nil=>
  intro ps xs h hd;cases h
  simp only[DenAll]at hd;subst hd;exact⟨[],rfl,rfl,denAll_nil,λi h=>(nomatch h)⟩
 |cons d ds ih=>
  intro ps xs h hd;unfold prs at h
  split at h
  ·cases ‹_::_=[]›
  ·next k v t e=>
   cases e
   obtain⟨q,h1,h2⟩:=bnd h;cases h2
   simp only[DenAll]at hd;obtain⟨x,r,rfl,hx,hr⟩:=hd;obtain⟨vs,a1,a2,a3,a4⟩:=ih h1 hr;obtain⟨b,ys,rfl,hb,hy⟩:=hx.tup_inv;simp only[DenAll]at hy;obtain⟨y1,r1,rfl,hk,y2,r2,rfl,hv,rfl⟩:=hy;cases hk.int_inv
   refine⟨(k,y2)::vs,by simp[a1],by simp[a2],denAll_cons hv a3,λi h=>?_⟩;cases i with
   |zero=>exact⟨b,rfl,hb⟩
   |succ i=>exact a4 i (Nat.lt_of_succ_lt_succ h)
  ·cases h
section
variable {X:Cx}{M:List Md}{a:Expr}{fa:EvE}{ca:Cat}{pos p:eA}
def tDL(X:Cx)(t:TA):TE:=λY H Q=>t Y H λys H1=>∃u xs ps,ys=[.ref u]/\SqL X.K H1 u xs/\(ps.map (·.1)).Nodup/\ps.length<aQ/\xs.length=ps.length/\(∀i (h:i<ps.length),∃b,xs[i]?=cz (.ref b)/\SqT X.K H1 b [.int ps[i].1,ps[i].2])/\∀d,H1 d=el->Q (.ref d) (upd H1 d (c9 d (lE ps)))
def b3L(hc:X.calm=fx)(hu:X.A.units+40<cU)(hm:X.mg "dict"=el)(ha:PA X [a] t)(hg:Gl X "dict":=by rfl)
  (he:ak [a] X.env=(p4,bX a X.env)::ak [] X.env:=by rfl) (fF:(bY pos (ak [] X.env)).any (·.1)=p4:=by rfl) :
  PE X (.Call (.Name "dict" p) [a] [] pos) (tDL X t):=by
 intro pins s Y H Q I h;refine dX (V8 I hg hm PyProof.Rows.Boot.«dict» ?_ (by decide) (by decide));refine dW (L2.thn (ha pos pins s Y H _ I h) λus s1 ⟨xs,H1,I1,r1,q1⟩=>?_) he fF;obtain⟨u,xs,ps,rfl,h1,h2,h3,h4,h5,q⟩:=q1;cases r1 with
 |cons r rr=>
  cases rr
  cases (show _=aS u from r)
  exact a8C hc hu I1 h2 h3 h1 h4 h5 q
def a3i(hc:X.calm=fx)(hu:X.A.units+464<cU)(hm:X.mg "dict"=el)(ha:PX X M a fa ca)(Ai:frozen ca:=by trivial)(hg:Gl X "dict":=by rfl)
  (he:ak [a] X.env=(p4,bX a X.env)::ak [] X.env:=by rfl) (fF:(bY pos (ak [] X.env)).any (·.1)=p4:=by rfl) :
  PX X M (.Call (.Name "dict" p) [a] [] pos) (U2 fa) (.new .f):=by
 obtain⟨ta,pa,qa⟩:=ha.out;refine .mk ⟨_,b3L hc (by lia) hm (l7 pa o5 he) hg he fF,λU Y H P F d Q S hf q=>?_⟩;obtain⟨x,h1,g1⟩:=bnd hf;cases x with
 |list ds=>
  obtain⟨ps,h2,g2⟩:=bnd (show (prs ds).bind _=cz d from g1);by_cases c:a9K ps=fx
  ·rw[aJ c]at g2;cases g2
   simp only[a9K,av,cG]at c;obtain⟨c1,c2⟩:=c;refine qa U Y H P F _ _ S h1 λv H1 e1 r1=>?_
   have dn:=G8 Ai r1;obtain⟨u,xs,rfl,k1,k2⟩:=dn.list_inv;obtain⟨vs,a1,a2,a3,a4⟩:=b6h h2 k2;have lv:vs.length=ps.length:=by simpa using dY gN a1
   refine⟨u,xs,vs,rfl,(T2 k1 i8).l,by rw[a1];exact c1,by rw[lv];exact fK c2 (by rw[cE];decide),a2,λi h=>?_,λz hz=>?_⟩
   ·obtain⟨b,h3,h4⟩:=a4 i h;exact⟨b,h3,P9 h4 i8⟩
   ·have hs:Same (cut H1 F) (cut (upd H1 z (c9 z (lE vs))) ([]++F)):=λb y hy=>by
     obtain⟨n1,n2⟩:=o9 hy;have hb:b≠z:=λw=>by rw[w,hz]at n2;cases n2
     exact k6 n1 (by rw[f8 hb];exact n2)
    refine q _ _ (e1.trans (j9 hz _)) ⟨[],?_,bg,λb hb=>(nomatch hb)⟩;simp only[Own];refine⟨trivial,?_⟩;have zF:z∉([]++F:List aw):=λw=>by
     obtain⟨ys,q⟩:=S.lst z w;rw[e1 _ _ q]at hz;cases hz
    have:=a1j (K:=X.K) (H:=cut (upd H1 z (c9 z (lE vs))) ([]++F)) (a:=z) (es:=lE vs) (ds:=ps.map (·.2)) (k6 zF i7) (λe he=>by
     obtain⟨pr,_,rfl⟩:=aR.mp he;exact den_int) (by rw[show (lE vs).map (·.2.2)=vs.map (·.2) by unfold lE;rw[bG];rfl];exact a3.up hs)
    rwa[show ((lE vs).map (·.1)).zip (ps.map (·.2))=ps.map λp=>(aI p.1,p.2) by
     have:(lE vs).map (·.1)=ps.map λp=>aI p.1:=by
      have:=dY (List.map aI) a1;rw[bG,bG]at this;unfold lE;rw[bG];exact this
     rw[this,List.zip_map']]at this
  ·rw[aN c]at g2;cases g2
 |_=>cases g1
end
end VS
namespace VS
open PySem.Spec L2 PyProof.Rows
def ObjOk.has(x:ObjOk P w H h a o):∃u,h.get? a=cz u:=by
 cases o with
 |lst xs=>obtain⟨_,_,_,_,e⟩:=x;exact⟨_,e⟩
 |tup xs=>obtain⟨_,_,_,ob,e,_⟩:=x;exact⟨_,e⟩
 |dK kvs=>obtain⟨_,_,_,_,o,_,_,e,_⟩:=x;exact⟨_,e⟩
 |dT kvs=>obtain⟨_,_,_,_,o,_,_,e,_⟩:=x;exact⟨_,e⟩
 |set S n=>obtain⟨o,_,_,_,e,_⟩:=x;exact⟨_,e⟩
 |ins C dx fs=>obtain⟨_,_,_,e,_⟩:=x;exact⟨_,e⟩
 |own y=>exact x
 |xd fs=>obtain⟨_,⟨_,_,_,e,_⟩,_⟩:=x;exact⟨_,e⟩
 |rng lo hi=>obtain⟨_,_,_,e⟩:=x;exact⟨_,e⟩
 |frz ob u=>obtain⟨e,_⟩:=x;exact⟨_,e⟩
 |tbl ps=>obtain⟨_,e,_⟩:=(show a4c H h a ps from x);exact⟨_,e⟩
 |met f y=>exact⟨_,(show h.get? a=cz _ from x)⟩
 |ext φ=>obtain⟨_,e,_⟩:=x;exact e
def a8D{h h':bL}(x:HOk P w H h)(k:∀b u v,H b=cz v->h.get? b=cz u->h'.get? b=cz u):HOk P w H h':=λa o e=>
 ObjOk.stay (x a o e) (λb u hb q=>by
  rcases hb with rfl|hb
  ·exact k _ u _ e q
  ·exact k b u _ hb q) (λ_ q=>q) λ_ _ q=>q
structure Fly (P:br) (w:bK) (outer:List n_) (H:Hp) (s:aj) (a C t:aw) (H':Hp) (B h':bL):Prop where
 un:Un (frs outer) [] H H' s.heap h'
 hok:HOk P w H' h'
 na:H' a=el
 new:s.heap.get? a=el
 fl:ko B outer a (.ref C) (.ref t) h'
 c1:∀b u,H' b=cz u->∃o,B.get? b=cz o
 c2:∀b o,s.heap.get? b=cz o->H b=el->b∉frs outer->B.get? b=cz o
 c3:∀b o,s.heap.get? b=cz o->b∉frs outer->∃o',B.get? b=cz o'
section
variable {P:br}{w:bK}{outer:List n_}{H H':Hp}{s:aj}{a C t:aw}{B h' vd:bL}
def Fly.step(x:Fly P w outer H s a C t H' B h')(fl:ko B outer a (.ref C) (.ref t) vd)(up:h'.UpToSlots vd):Fly P w outer H s a C t H' B vd:=by
 have slot:∀b o,s.heap.get? b=cz o->H b=el->b∈frs outer->∃sl,vd.get? b=cz {o with slots:=sl}:=λb o q n hb=>by
  obtain⟨sl,e1⟩:=x.un.slot b o q n hb (by simp);obtain⟨_,o',e2,hd⟩:=x.fl.2.2.1.mem hb;rw[e1]at e2;cases e2
  obtain⟨uQ,e3⟩:=up b _ e1 hd;exact⟨uQ,e3⟩
 refine⟨⟨λb o q n hb _=>fl.1 b o (x.c2 b o q n hb),λb o q n hb _=>slot b o q n hb,x.un.free,λb o q _=>?_,x.un.tups,x.un.frzs,x.un.tbls⟩,a8D x.hok λb u v hv q=>?_,x.na,x.new,fl,x.c1,x.c2,x.c3⟩
 ·by_cases hb:b∈frs outer
  ·obtain⟨_,o',e2,_⟩:=fl.2.2.1.mem hb;exact⟨o',e2⟩
  ·obtain⟨o',e⟩:=x.c3 b o q hb;exact⟨o',fl.1 b o' e⟩
 ·obtain⟨o,e⟩:=x.c1 b v hv;have:=x.fl.1 b o e;rw[q]at this;cases this
  exact fl.1 b u e
end
def CXR(P:br)(w:bK):CXT:=λouter H s E e s'=>∃(a C t:aw) (H':Hp) (B:bL),e=.ref a/\s'.os=s.os/\jP s'.gens/\Fly P w outer H s a C t H' B s'.heap/\E (.ref C) el H'
section
variable {X:Cx}{pins:List (aw×fm)}{Y:L2.St}{H:Hp}{s:aj}
def b3M(I:Inv X pins Y H s)(oh:X.stack=X.env::X.outer)(hex:X.ex=[])(mk:bL.MadeExcOf s.heap h1 a (.ref C) args)(hB:B=gi s.heap (frs X.stack))
  (fl:ko B X.outer a (.ref C) (.ref t) h2) (up:h1.UpToSlots h2):Fly X.prog X.w X.outer X.H₀ X.s₀ a C t H B h2:=by
 subst hB;have oX:∀b,b∉X.ex:=λb hb=>by rw[hex]at hb;cases hb
 have sub:∀b,b∉frs X.outer->(∃o,X.s₀.heap.get? b=cz o)->b∉frs X.stack:=λb hb ⟨o,ho⟩ z=>by
  rcases aD.mp (I.stkSub b z) with e|e
  ·have:=aB ho;rw[e]at this;exact absurd (bb this I.ok.above) (cR _)
  ·exact hb e
 have inB:∀b o,s.heap.get? b=cz o->b∉frs X.stack->(gi s.heap (frs X.stack)).get? b=cz o:=λb o e hb=>yE _ e hb
 have Bf:∀b v,H b=cz v->b∉frs X.stack:=λb v e z=>by rw[I.stkFree b z]at e;cases e
 have c2:∀b o,X.s₀.heap.get? b=cz o->X.H₀ b=el->b∉frs X.outer->(gi s.heap (frs X.stack)).get? b=cz o:=λb o q n hb=>
  inB b o (I.base.keep b o q n hb (oX b)) (sub b hb ⟨o,q⟩)
 have c3:∀b o,X.s₀.heap.get? b=cz o->b∉frs X.outer->∃o',(gi s.heap (frs X.stack)).get? b=cz o':=λb o q hb=>by
  obtain⟨o',e⟩:=I.base.there b o q (oX b);exact⟨o',inB b o' e (sub b hb ⟨o,q⟩)⟩
 have c1:∀b u,H b=cz u->∃o,(gi s.heap (frs X.stack)).get? b=cz o:=λb u e=>by
  obtain⟨o,ho⟩:=ObjOk.has (I.hok b u e);exact⟨o,inB b o ho (Bf b u e)⟩
 have mem:∀b,b∈frs X.outer->b∈frs X.stack:=λb hb=>by
  rw[oh];unfold frs;rw[hX]
  split
  ·exact hb
  ·exact au _ hb
 refine⟨⟨λb o q n hb _=>fl.1 b o (c2 b o q n hb),λb o q n hb _=>?_,λb o q n _=>I.base.free b o q n (oX b),λb o q _=>?_,I.base.tups,I.base.frzs,I.base.tbls⟩,a8D I.hok λb u v hv q=>?_,?_,?_,fl,c1,c2,c3⟩
 ·obtain⟨sl,e1⟩:=I.base.slot b o q n hb (oX b);obtain⟨_,o',e2,hd⟩:=I.stack.mem (mem b hb);rw[e1]at e2;cases e2
  obtain⟨yP,e4⟩:=up b _ (mk.keeps b _ e1) hd;exact⟨yP,e4⟩
 ·by_cases hb:b∈frs X.outer
  ·obtain⟨_,o',e2,_⟩:=fl.2.2.1.mem hb;exact⟨o',e2⟩
  ·obtain⟨o',e⟩:=c3 b o q hb;exact⟨o',fl.1 b o' e⟩
 ·exact fl.1 b u (inB b u q (Bf b v hv))
 ·cases q:H a with
  |none=>rfl
  |some u=>
   obtain⟨o,ho⟩:=ObjOk.has (I.hok a u q);rw[mk.new]at ho;cases ho
 ·cases q:X.s₀.heap.get? a with
  |none=>rfl
  |some o=>
   obtain⟨o',e⟩:=I.base.there a o q (oX a);rw[mk.new]at e;cases e
def b9s(I:Inv X pins Y H s)(oh:X.stack=X.env::X.outer)(hex:X.ex=[])(x:Fly X.prog X.w X.stack H s a C t H' B h1)
  (fl:ko B X.outer a (.ref C) (.ref t) h2) (up:h1.UpToSlots h2):Fly X.prog X.w X.outer X.H₀ X.s₀ a C t H' B h2:=by
 have oX:∀b,b∉X.ex:=λb hb=>by rw[hex]at hb;cases hb
 have sub:∀b,b∉frs X.outer->(∃o,X.s₀.heap.get? b=cz o)->b∉frs X.stack:=λb hb ⟨o,ho⟩ z=>by
  rcases aD.mp (I.stkSub b z) with e|e
  ·have:=aB ho;rw[e]at this;exact absurd (bb this I.ok.above) (cR _)
  ·exact hb e
 have mem:∀b,b∈frs X.outer->b∈frs X.stack:=λb hb=>by
  rw[oh];unfold frs;rw[hX]
  split
  ·exact hb
  ·exact au _ hb
 have c2:∀b o,X.s₀.heap.get? b=cz o->X.H₀ b=el->b∉frs X.outer->B.get? b=cz o:=λb o q n hb=>
  x.c2 b o (I.base.keep b o q n hb (oX b)) (I.base.free b o q n (oX b)) (sub b hb ⟨o,q⟩)
 have c3:∀b o,X.s₀.heap.get? b=cz o->b∉frs X.outer->∃o',B.get? b=cz o':=λb o q hb=>by
  obtain⟨o',e⟩:=I.base.there b o q (oX b);exact x.c3 b o' e (sub b hb ⟨o,q⟩)
 refine⟨⟨λb o q n hb _=>fl.1 b o (c2 b o q n hb),λb o q n hb _=>?_,λb o q n _=>?_,λb o q _=>?_,λb xs q=>x.un.tups b xs (I.base.tups b xs q),λb o u q=>x.un.frzs b o u (I.base.frzs b o u q),λb ps q=>?_⟩,a8D x.hok λb u v hv q=>?_,x.na,?_,fl,x.c1,c2,c3⟩
 ·obtain⟨sl,e1⟩:=I.base.slot b o q n hb (oX b);obtain⟨vG,e2⟩:=x.un.slot b _ e1 (I.base.free b o q n (oX b)) (mem b hb) (by simp);obtain⟨_,o',e3,hd⟩:=x.fl.2.2.1.mem (mem b hb);rw[e2]at e3;cases e3
  obtain⟨yP,e4⟩:=up b _ e2 hd;exact⟨yP,e4⟩
 ·obtain⟨o',e1⟩:=I.base.there b o q (oX b);exact x.un.free b o' e1 (I.base.free b o q n (oX b)) (by simp)
 ·by_cases hb:b∈frs X.outer
  ·obtain⟨_,o',e2,_⟩:=fl.2.2.1.mem hb;exact⟨o',e2⟩
  ·obtain⟨o',e⟩:=c3 b o q hb;exact⟨o',fl.1 b o' e⟩
 ·obtain⟨m1,e1⟩:=I.base.tbls b ps q;obtain⟨m2,e2⟩:=x.un.tbls b _ e1;exact⟨m1++m2,by rw[e2,AR]⟩
 ·obtain⟨o,e⟩:=x.c1 b v hv;have:=x.fl.1 b o e;rw[q]at this;cases this
  exact fl.1 b u e
 ·cases q:X.s₀.heap.get? a with
  |none=>rfl
  |some o=>
   obtain⟨o',e⟩:=I.base.there a o q (oX a);rw[x.new]at e;cases e
end
abbrev Wsh:=bt->L2.St->Hp->Prop
abbrev EvR:=List D->Option bt
def Tk(X:Cx)(W:Wsh):Prop:=∀(pins:List (aw×fm)) (Y:L2.St) (H:Hp) (s:aj) (n:bt) (C a t:aw) (H':Hp) (B:bL) (s':aj),Inv X pins Y H s->bN X.K ba n=cz (cz (.ref C))->
 s'.os=s.os->jP s'.gens->Fly X.prog X.w X.stack H s a C t H' B s'.heap->Same H H'->W n Y H->X.xe (.ref a) s'
structure XeL (X:Cx) (E:XK):Prop where
 xe:X.xe=λe s'=>az (aO X.prog X.w) X.A (leaving X.env e) (λ_ tW=>CXR X.prog X.w X.outer X.H₀ X.s₀ E e tW) (λe' tW=>CXR X.prog X.w X.outer X.H₀ X.s₀ E e' tW) s'
 stk:X.stack=X.env::X.outer
 ex:X.ex=[]
 fr:X.env.frame=cz X.env.locals
 calm:X.calm=fx
def wE(K:af)(E:XK):Wsh:=λn _ H=>∀C H',bN K ba n=cz (cz (.ref C))->Same H H'->E (.ref C) el H'
section
variable {X:Cx}{E:XK}
def b9t(h:XeL X E):Tk X (wE X.K E):=by
 intro pins Y H s n C a t H' B s' I hn ho hb x e q;rw[h.xe];have fr:=I.ok.frames;rw[h.stk]at fr;have x':=x;rw[h.stk]at x';refine wpAny_leaves_onW fr h.fr x'.fl λh2 fl up=>?_
 exact⟨a,C,t,H',B,rfl,ho.trans I.os,hb,b9s I h.stk h.ex x fl up,q C H' hn e⟩
def b3N(K:af)(n:bt)(C:aw):Prop:=bN K ba n=cz (cz (.ref C))/\sG K C [.type "ValueError",.type "Exception",.type "BaseException",.type "object"] "ValueError.__new__"=fx
def b3O{K:af}(X:K.In h)(e:b3N K n C):∃bm N nm q bs hdct sn sub ab col dd k0 k1 k2 k3 k5 mN,h.get? C=cz (excClassObj nm q C N bs bm hdct sn sub ab col dd k0 k1 k2 k3 k5 "ValueError.__new__")/\h.Ns N mN/\mN "__init__"=el/\OwnTail h [.type "ValueError",.type "Exception",.type "BaseException",.type "object"] bm:=by
 have q:=e.2;unfold sG at q
 split at q
 ·rename_i dd cd sl ho
  split at q
  ·rename_i C' bm k0 k1 k2 k3 n k5 hm hs
   simp only[av,fM,jZ]at q;obtain⟨⟨⟨⟨⟨rfl,rfl⟩,xa⟩,ht⟩,hok⟩,rB⟩:=q;obtain⟨nm,bs,mro,ns,qn,hd,sn,sub,ab,col,del⟩:=cd
   dsimp only at hm xa hok rB
   subst hm xa;have mw:sl=#[k0,k1,k2,k3,cz (.builtin "ValueError.__new__"),k5]:=by
    obtain⟨l⟩:=sl;simp only at hs;rw[hs]
   subst mw;exact⟨bm,ns,nm,qn,bs,hd,sn,sub,ab,col,dd,k0,k1,k2,k3,k5,_,X _ _ ho,.of_isNs (PySem.W.isNs_of_in X hok),PySem.W.nsMap_none_of_in X hok rB,PySem.W.tail_of_in X ht⟩
  ·cases q
 ·cases q
variable {W:Wsh}{M:List Md}{r r1 r2:EvR}
def tR(K:af)(W:Wsh)(M:List Md)(r:EvR)(Y:L2.St)(H:Hp):Prop:=∃(U:List D) (P:Hp) (F:List aw) (n:bt),StR K M U Y H P F/\r U=cz n/\∀Y' H' F',StR K M U Y' H' P F'->W n Y' H'
def PER(X:Cx)(W:Wsh)(M:List Md)(e:Expr)(r:EvR):Prop:=PE X e λY H _=>tR X.K W M r Y H
def PSR(X:Cx)(W:Wsh)(M:List Md)(st:fS)(r:EvR):Prop:=PS X st λ_ Y H=>tR X.K W M r Y H
def b1p(X:Cx)(W:Wsh)(M:List Md)(sts:List fS)(r:EvR):Prop:=PSs X sts λ_ Y H=>tR X.K W M r Y H
theorem tR.grow{K:af}{Y:L2.St}{H H1:Hp}{U:List D}{P:Hp}{F:List aw}{n:bt}(S:StR K M U Y H P F)(h:r U=cz n)(q:∀Y' H' F',StR K M U Y' H' P F'->W n Y' H')(e:Same H H1):tR K W M r Y H1:=
 ⟨U,P,F,n,S.grow e,h,q⟩
def a6W{j np cp cH pos}(h:XeL X E)(hk:b3N X.K x C)(hg:Gl X x:=by rfl)(hd:(x==("__debug__":bt))=p4:=by decide)
  (he:ak [.Constant (.str msg) j cp] X.env=(p4,bX (.Constant (.str msg) j cp) X.env)::ak [] X.env:=by rfl) :
  PSR X (wE X.K E) M (.Raise (cz (.Call (.Name x np) [.Constant (.str msg) j cp] [] cH)) el pos) (λ_=>cz x):=by
 intro pins s Y H D I ⟨U,P,F,n,S,hr,q⟩;cases hr
 have hm:X.mg x=cz (.ref C):=gj I.mod.kin I.mod.glob hk.1;obtain⟨bm,N,nm,qn,bs,hdct,sn,sub,ab,col,dd,k0,k1,k2,k3,k5,mN,hC,hN,rB,T⟩:=b3O I.mod.kin hk;refine wpAny_Raise_call_subT (C:=C) (nm:=nm) (q:=qn) (N:=N) (bs:=bs) (bm:=bm) (hdct:=hdct) (sn:=sn) (sub:=sub) (ab:=ab) (col:=col) (dd:=dd) (k0:=k0) (k1:=k1) (k2:=k2) (k3:=k3) (k5:=k5)
  PySem.F.excBase_ValueError (mN:=mN) (T.hasType (by decide)) (I.ok.hd h.calm) (by rw[he];rfl) rB (X7 I hg hm ⟨rfl,?_⟩ hd)
 have pa:=l7 (X:=X) (b1L (x:=msg) (j:=j) (pos:=cp)) o5 he;have go:=pa cH pins s Y H (λvs H'=>vs.length=1/\H'=H) I ⟨rfl,rfl⟩;rw[he]at go ⊢;refine jM (cK go (λus s2 ⟨vs,H2,I2,r2,hl,e2⟩=>?_) λ_ _ y=>y);subst e2;have lu:us.length=1:=by rw[<-r2.length];exact hl
 refine⟨rfl,by show us.length<=aQ;rw[lu,cE];decide,I2.bk _ _ hC,hN.keeps I2.bk,T.keeps I2.bk,λh' a mk=>?_⟩;rw[h.xe];have fr:=I2.ok.frames;rw[h.stk]at fr;have FG:=PySem.W.funFrames_hide (as:=frs X.stack) I2.stack λenv he b hb=>dM.mpr ⟨env,he,hb⟩
 have wU:=FG;rw[h.stk]at wU;refine wpAny_leaves_madeW (base:=gi s2.heap (frs X.stack)) (h:=s2.heap) fr h.fr (λb o z=>AJ _ z) (by rw[h.stk];exact wU) mk λh2 t fl _ _ up=>?_
 exact⟨a,C,t,H2,_,rfl,I2.os,I2.bare,b3M I2 h.stk h.ex mk rfl fl up,q Y H2 F S C H2 hk.1 (Same.refl H2)⟩
def rIf(fc:EvT)(r1 r2:EvR):EvR:=λU=>(fc U).bind λb=>if b then r1 U else r2 U
def rNo:EvR:=λ_=>el
def b7l:b1p X W M sts rNo:=λ_ _ _ _ _ _ ⟨_,_,_,_,_,h,_⟩=>nomatch h
def b7m{pos}(hc:PTX X M c0 fc)(ha:b1p X W M a r1)(hb:b1p X W M b r2):PSR X W M (.If c0 a b pos) (rIf fc r1 r2):=by
 obtain⟨tc,pc,qc⟩:=hc.out;intro pins s Y H D I ⟨U,P,F,n,S,hr,q⟩;refine b1Q pc ha hb pins s Y H D I ?_;obtain⟨k,h1,h2⟩:=bnd hr;refine qc U Y H P F k _ S.toE h1 λH1 e1=>?_
 cases k with
 |true=>exact a2z (tR.grow S h2 q e1)
 |false=>exact a3Q (tR.grow S h2 q e1)
def rOr(r1 r2:EvR):EvR:=λU=>match r1 U with
 |some n=>cz n
 |none=>r2 U
def Y5{st:fS}{rest:List fS}(h:PSR X W M st r):b1p X W M (st::rest) r:=
 K6 (t:=λ_ Y H=>tR X.K W M r Y H) (u:=λ_ _ _=>False) h λ_ _ _ _ _ _ z=>z.elim
def spR(K:af)(n:Nat)(r:List D->Option bt):Sp:=λvs H _ E=>∃ds x,vs.length=n/\DenAll K H vs ds/\r ds=cz x/\wE K E x [] H
structure HasR (P:br) (w:bK) (K:af) (mg:bt->Option ai) (base:bL) (x:bt) (k:Nat) (ps:List bt) (sp:Sp):Prop where
 ex:∃f fd,FnOk P w K mg base (CXR P w) k f fd ps sp/\Binds K fd ps []/\eY K (.ref f)=fx/\mg x=cz (.ref f)
def HasR.up{P:br}{w:bK}{K:af}{mg:bt->Option ai}{base:bL}{x:bt}{j k:Nat}{ps:List bt}{sp:Sp}(h:HasR P w K mg base x j ps sp)(l:j<=k):HasR P w K mg base x k ps sp:=by
 obtain⟨f,fd,a,b⟩:=h.ex;exact⟨f,fd,a.mono l,b⟩
def rCl(rf:List D->Option bt)(f:EvA):EvR:=λU=>(f U).bind rf
def a6X(hT:Tk X W)(h:HasR X.prog X.w X.K X.mg X.base x k ps (spR X.K n rf))(hr:Room k X.A)(ha:PAX X M (e0::es) f)(hl:(e0::es).length=n:=by rfl)(hfl:∀U ds,f U=cz ds->ds.length=(e0::es).length)
  (hg:Gl X x:=by rfl) (lG:(x==("__debug__":bt))=p4:=by decide) (he:ak (e0::es) X.env=(p4,bX e0 X.env)::ak es X.env:=by rfl) (fF:(bY pos (ak es X.env)).any (·.1)=p4:=by rfl) :
  PER X W M (.Call (.Name x p) (e0::es) [] pos) (rCl rf f):=by
 obtain⟨fa,fd,FF,b,kp,m⟩:=h.ex;obtain⟨t,pa,qa⟩:=ha;intro pins s Y H Q I ⟨U,P,F,y,S,hf,q⟩;obtain⟨ds,h1,h2⟩:=bnd hf;refine dX (X7 I hg m ?_ lG);have go:=pa pos pins s Y H (λvs H1=>DenAll X.K H1 vs ds/\Same H H1) I (qa U Y H P F ds _ S.toE h1 λvs H1 e1 r1=>⟨r1,e1⟩);refine nc (h₀:=X.base) I.ok.mod.kin kp (L2.thn go λus s1 ⟨vs,H1,I1,r,r1,e1⟩=>⟨I1.kIn,?_⟩) he fF;have lv:vs.length=ps.length:=by
  have:=FF.len vs H1 (λ_ _=>True) (λ_ _ _=>True) ⟨ds,y,by rw[r1.length,hfl U ds h1,hl],r1,h2,λ_ _ _ _=>trivial⟩;exact this
 have lu:(us++[]).length=ps.length:=by rw[bH,<-r.length];exact lv
 refine mo (ff (FF.run X.A X.stack s1 H1 ⟨us,[]⟩ us vs (λ_ _=>False) (λc _ H'=>∃C,c=.ref C/\bN X.K ba y=cz (cz (.ref C))/\Same H1 H') hr I1.env0 (by have:=b s1 us I1.kIn lu;rwa[bH]at this) r ⟨ds,y,by rw[r1.length,hfl U ds h1,hl],r1,h2,λC H' hn hs=>⟨C,rfl,hn,hs⟩⟩) λrr s' hq=>?_);cases rr with
 |error e=>
  obtain⟨a,C,t,H',B,rfl,ho,hb,x,C',ec,hn,hs⟩:=hq;cases ec
  exact hT pins Y H1 s1 y C a t H' B s' I1 hn ho hb x hs (q Y H1 F (S.grow e1))
 |ok fl=>
  cases fl with
  |ret u=>
   obtain⟨_,_,_,_,_,_,_,z⟩:=hq;exact z.elim
  |next=>exact cy hq
  |brk=>exact cy hq
  |cont=>exact cy hq
def b6i{pos:eA}(h:PER X W M e r)(hs:fP e el pos.line X.env=pure p4:=by rfl):PSR X W M (.Expr e pos) r:=a0s (te:=λY H _=>tR X.K W M r Y H) h hs
def b9u{i:Nat}{x:bt}{px pos:eA}{e:Expr}(hN:X.N.Nodup)(h:PER X W M e r)(hi:X.N[i]?=cz x:=by rfl)(hx:autoParam (Loc X.env.scope x) ZW._auto_1)
  (hs:oU [.Name x px] e pos.line X.env=pure p4:=by rfl) (hw:oV [.Name x px] e X.env=pure el:=by rfl) (h1:(gB [.Name x px] X.env).map (·.2)=[mC (.Name x px) X.env]:=by rfl)
  (hf:autoParam (X.fn x=fx\/X.env.scope.names.lookup x=cz .local) ZV._auto_1):PSR X W M (.Assign [.Name x px] e pos) r:=
 a7A (te:=λY H _=>tR X.K W M r Y H) h (B0 hN hi hx hf) hs hw h1
end
def fnR(us:List Ty)(n:Nat)(r:EvR):List D->Option bt:=λds=>if argsOk us ds then r (ds++aL n .none) else el
def Inv.unbound{h':bL}(I:Inv X pins Y H s)(hN:X.N.Nodup)(hi:X.N[j]?=cz x)(hn:s.heap.Ns X.env.locals m)
  (hl:∀(i:Nat) (x:bt) (v:V),X.N[i]?=cz x->Y[i]?=cz (cz v)->Vis X.env.scope x->∃u,RelV v u/\Look X.env s.heap m x u)
  (se:h'.Ns X.env.locals (λy=>if y=x then u else m y)) (hs:cB X.env.locals s.heap h'):Inv X pins (Y.set j el) H {s with heap:=h',toks:=tk}:=by
 have cne:=I.cne;have sk:j<Y.length:=by rw[I.len];exact (aP.mp hi).1
 have tracked:HOk X.prog X.w H h':=λb ob e=>by
  refine (I.hok b ob e).stay (λc w' hc q=>(hs.2 c ?_).trans q) (λ_ q=>q) λ_ _ q=>q
  rintro rfl;have lr:=I.free;rcases hc with rfl|hc
  ·rw[lr]at e;cases e
  ·rw[lr]at hc;cases hc
 refine⟨I.ok,I.os,I.bare,⟨λb o e n hb hx=>?_,λb o e n hb hx=>?_,I.base.free,λb o e hx=>?_,I.base.tups,I.base.frzs,I.base.tbls⟩,⟨_,se,λi y v' e1 e2 e3=>?_⟩,λy c e=>?_,I.free,I.freeC,λp hp=>?_,tracked,by simpa using I.len⟩
 ·exact (hs.2 b (a_ (bb (aB e) I.ok.above))).trans (I.base.keep b o e n hb hx)
 ·obtain⟨sl,e1⟩:=I.base.slot b o e n hb hx;exact⟨sl,(hs.2 b (a_ (bb (aB e) I.ok.above))).trans e1⟩
 ·obtain⟨o',e1⟩:=I.base.there b o e hx;exact⟨o',(hs.2 b (a_ (bb (aB e) I.ok.above))).trans e1⟩
 ·by_cases hj:i=j
  ·subst hj;rw[eL sk]at e2;cases e2
  ·rw[dS (dy hj)]at e2;obtain⟨u',r',q⟩:=hl i y v' e1 e2 e3;refine⟨u',r',?_⟩;rcases q with⟨k,e⟩|⟨k,c,e,z⟩
   ·refine .inl ⟨k,?_⟩;have:y≠x:=λe=>hj (a2t hN e1 (e▸hi))
    simp[this,e]
   ·exact .inr ⟨k,c,e,z.sameBut hs (cne y c e)⟩
 ·obtain⟨w',z⟩:=I.cell y c e;exact⟨w',z.sameBut hs (cne y c e)⟩
 ·obtain⟨e,n,ne,nf,d⟩:=I.pin p hp;exact⟨(hs.2 p.1 ne).trans e,n,ne,nf,d⟩
abbrev Cx.hand(X:Cx)(a:aw)(E:ai->aj->Prop):Cx:={X with A:=X.A.mark (cz (.ref a)),calm:=p4,xe:=E}
theorem Inv.hand(I:Inv X pins Y H s)(a:aw)(E:ai->aj->Prop):Inv (Cx.hand X a E) pins Y H s:=
 let ok:=I.ok
 ⟨⟨ok.mod,ok.kind,ok.glob,ok.blt,ok.above,ok.inj,ok.has,ok.cab,λz=>(nomatch z),ok.frames,ok.stk,ok.exf,ok.bs,ok.bsz,ok.noex,ok.exfs,ok.funs,ok.frf,ok.tabs⟩,I.os,I.bare,I.base,I.loc,I.cell,I.free,I.freeC,I.pin,I.hok,I.len⟩
def Inv.unhand{X:Cx}(ok:X.Ok)(I:Inv (Cx.hand X a E) pins Y H s):Inv X pins Y H s:=
 ⟨ok,I.os,I.bare,I.base,I.loc,I.cell,I.free,I.freeC,I.pin,I.hok,I.len⟩
abbrev Cx.trial(X:Cx)(pn:List (aw×fm))(E:ai->aj->Prop):Cx:={X with pn:=pn,xe:=E}
theorem Inv.trial(I:Inv X pins Y H s)(E:ai->aj->Prop):Inv (Cx.trial X (X.pn++pins) E) [] Y H s:=
 let ok:=I.ok
 ⟨⟨ok.mod,ok.kind,ok.glob,ok.blt,ok.above,ok.inj,ok.has,ok.cab,ok.hd,ok.frames,ok.stk,ok.exf,ok.bs,ok.bsz,ok.noex,ok.exfs,ok.funs,ok.frf,ok.tabs⟩,I.os,I.bare,I.base,I.loc,I.cell,I.free,I.freeC,λp hp=>I.pin p (by simpa using hp),I.hok,I.len⟩
def Inv.untrial{X:Cx}(ok:X.Ok)(I:Inv (Cx.trial X (X.pn++pins) E) qz Y H s):Inv X pins Y H s:=
 ⟨ok,I.os,I.bare,I.base,I.loc,I.cell,I.free,I.freeC,λp hp=>I.pin p (aM _ hp),I.hok,I.len⟩
section
variable {K:af}{M:List Md}{U:List D}{Y:L2.St}{H P:Hp}{F:List aw}
def StR.setExc(h:StR K M U Y H P F)(hm:M[i]?=cz m)(hv:SlotR K H F .exc (cz v) d []):StR K (M.set i .exc) (U.set i d) (Y.set i (cz v)) H P F:=by
 obtain⟨G,h1,h2,h3⟩:=h.all;obtain⟨d0,o0,f,pre,post,e1,e2,e3,e4,e5⟩:=h1.at_ hm;rw[e4]at h2;exact⟨⟨pre++([]++post),e5 H F .exc d (cz v) [] (λ_ _=>rfl) (Same.refl _) hv,N2 h2,λa ha=>h3 a (by rw[e4];exact mem_mid ha)⟩,h.lst,h.prot⟩
end
def a6Y(L:List bt)(i j:Nat)(g:EvS)(r:EvR):EvS:=λU=>match r U with
 |some n=>if L.contains n then cz (.nx ((U.set j .none).set i (.str n))) else el
 |none=>(g U).bind λo=>match o with
  |.nx U'=>(match U'.getD i (.bool fx) with|.none=>cz (.nx U')|_=>el)
  |_=>el
def a3j(K:af)(C0:aw)(n:bt):Bool:=match bN K ba n with
 |some (cz (.ref C))=>PySem.W.exmOne K (.ref C) (.ref C0)==cz fx
 |_=>p4
def a3k{s s':aj}(I:Inv X pins Y H s)(ho:s'.os=s.os)(hb:jP s'.gens)(x:Fly X.prog X.w X.stack H s a C t H' B h6) :
  Inv X pins Y (upd H' a (ExcAt a C)) {s' with heap:=h6}:=by
 have nt:∀c u,H' c=cz u->c≠a:=λc u q z=>by rw[z,x.na]at q;cases q
 refine I.call' (s':={s' with heap:=h6}) ho ⟨x.un.keep,x.un.slot,λb o q n hx=>?_,x.un.there,λb xs q=>?_,λb o u q=>?_,λb ps q=>?_⟩ (λb u q=>?_) hb λb z=>(nomatch z)
 ·rw[f8 (λz=>by rw[z,x.new]at q;cases q)];exact x.un.free b o q n hx
 ·have q':=x.un.tups b xs q;rw[f8 (nt b _ q')];exact q'
 ·have q':=x.un.frzs b o u q;rw[f8 (nt b _ q')];exact q'
 ·obtain⟨mm,q'⟩:=x.un.tbls b ps q;exact⟨mm,by rw[f8 (nt b _ q')];exact q'⟩
 ·by_cases uC:b=a
  ·subst uC;rw[i7]at q;cases q
   obtain⟨ob,h1,h2⟩:=x.fl.there;exact⟨⟨ob,h1,h2⟩,⟨ob,h1⟩,λh1 h2 ⟨o,e1,e2⟩ k=>⟨o,k o e1,e2⟩⟩
  ·rw[f8 uC]at q;exact (x.hok b u q).stay (λ_ _ _ z=>z) (λc z=>by rw[f8 (nt c _ z)];exact z) λc xs z=>by rw[f8 (nt c _ z)];exact z
def b9v{X:Cx}{L:List bt}{np px py apos mx pos:eA}(i j:Nat)
  (oh:X.stack=X.env::X.outer) (pO:X.env.frame=cz X.env.locals) (hN:X.N.Nodup) (oG:i≠j)
  (hb:PSsX X.nox u ML M body g M) (hr:∀pn E W,Tk (Cx.trial X pn E) W->b1p (Cx.trial X pn E) W M body r)
  (sW:bN X.K ba x0=cz (cz (.ref C0))) (hL:L.all (a3j X.K C0)=fx)
  (hi:X.N[i]?=cz cn:=by rfl) (hj:X.N[j]?=cz en:=by rfl) (uY:X.env.scope.names.lookup cn=cz .local:=by rfl) (yh:X.env.scope.names.lookup en=cz .local:=by rfl)
  (p_:M[i]?=cz (.own .i):=by rfl) (BK:M[j]?=cz mj:=by rfl)
  (hg:Gl X x0:=by rfl) (hd:(x0==("__debug__":bt))=p4:=by decide) (FL:(en==("__debug__":bt))=p4:=by decide) (kL:(en==("__classdict__":bt))=p4:=by decide)
  (hs:oU [.Name cn px] (.Name en py) apos.line X.env=pure p4:=by rfl) (hw:oV [.Name cn px] (.Name en py) X.env=pure el:=by rfl) (h1:(gB [.Name cn px] X.env).map (·.2)=[mC (.Name cn px) X.env]:=by rfl) :
  PSX X u ML M (.Try body [.ExceptHandler (cz (.Name x0 np)) (cz en) [.Assign [.Name cn px] (.Name en py) apos] mx] [] [] pos) (a6Y L i j g r) ((M.set j .dead).set i .exc):=by
 intro pins s Y H D I ⟨U,P,F,o,S,oH,k⟩;refine wpAny_Try_except ?_;unfold a6Y at oH;cases zq:r U with
 |none=>
  rw[zq]at oH;obtain⟨o1,h2,h3⟩:=bnd oH;cases o1 with
  |nx U'=>
   have qW:(match U'.getD i (.bool fx) with|.none=>cz (Out.nx U')|_=>el)=cz o:=h3
   split at qW
   ·next rB=>
    cases qW
    have run:=hb pins s Y H {nx:=λY' H'=>∃F',StR X.K M U' Y' H' P F',rt:=λ_ _=>False} (I.wish _) ⟨U,P,F,.nx U',S,h2,λY' H' F' S'=>⟨F',S'⟩⟩;refine cK run (λf s1 h=>?_) λ_ _ z=>z.elim
    cases f with
    |next=>
     obtain⟨Y',H',I',F',S'⟩:=h;refine jR ⟨Y',H',I'.unwish,?_⟩;have S2:=S'.dead BK;have sf:(M.set j .dead)[i]?=cz (.own .i):=by rw[dS (dy oG)];exact p_
     obtain⟨v,f,e1,o1,_⟩:=S2.toE.get sf;have hU:U'[i]?=cz .none:=by
      rw[aW]at rB;cases q:U'[i]? with
      |none=>rw[q]at rB;cases rB
      |some d=>rw[q]at rB;exact dY cz rB
     rw[y9 hU]at o1;have o2:Own X.K H' F' .i v .none f:=o1;have hv:v=.non:=((W5 o2).2.2).none_inv;subst hv;have S3:=S2.setExc sf (v:=.non) (d:=.none) ⟨rfl,.non,rfl,.inl ⟨rfl,rfl⟩⟩;rw[set_same hU,set_same e1]at S3;exact k Y' H' F' S3
    |brk=>obtain⟨_,_,_,z⟩:=h;exact z.elim
    |cont=>obtain⟨_,_,_,z⟩:=h;exact z.elim
    |ret w=>obtain⟨_,_,_,_,_,z⟩:=h;exact z.elim
   ·cases qW
  |rt d=>cases h3
  |bk U'=>cases h3
  |ct U'=>cases h3
 |some n=>
  rw[zq]at oH;have so:(if L.contains n=fx then cz (Out.nx ((U.set j .none).set i (.str n))) else el)=cz o:=oH;by_cases hc:L.contains n=fx
  ·rw[aJ hc]at so;cases so
   have lD:n∈L:=by simpa using hc
   have hex:∃C,bN X.K ba n=cz (cz (.ref C))/\PySem.W.exmOne X.K (.ref C) (.ref C0)=cz fx:=by
    have:=bj.mp hL n lD;unfold a3j at this
    split at this
    ·next C hC=>exact⟨C,hC,fM.mp this⟩
    ·cases this
   let E1:ai->aj->Prop:=λe s1=>∃(Y1:L2.St) (H1:Hp) (s0:aj) (C a t:aw) (H2:Hp) (B:bL) (F1:List aw),e=.ref a/\Inv X pins Y1 H1 s0/\bN X.K ba n=cz (cz (.ref C))/\s1.os=s0.os/\jP s1.gens/\Fly X.prog X.w X.stack H1 s0 a C t H2 B s1.heap/\Same H1 H2/\StR X.K M U Y1 H1 P F1
   have tk:Tk (Cx.trial X (X.pn++pins) E1) (λn' Y1 H1=>n'=n/\∃F1,StR X.K M U Y1 H1 P F1):=λqz Y1 H1 s0 n' C a t H2 B s1 I0 hn ye uC x e ⟨Fg,F1,S1⟩=>by
    subst Fg;exact⟨Y1,H1,s0,C,a,t,H2,B,F1,rfl,Inv.untrial I.ok I0,hn,ye,uC,x,e,S1⟩
   have run:=hr (X.pn++pins) E1 _ tk [] s Y H {nx:=λ_ _=>False,rt:=λ_ _=>False} (Inv.trial I E1) ⟨U,P,F,n,S,zq,λY' H' F' S'=>⟨rfl,F',S'⟩⟩;refine cK run (λf s1 h=>?_) λe s1 h=>?_
   ·cases f with
    |next=>obtain⟨_,_,_,z⟩:=h;exact z.elim
    |brk=>obtain⟨_,_,_,z⟩:=h;exact z.elim
    |cont=>obtain⟨_,_,_,z⟩:=h;exact z.elim
    |ret w=>obtain⟨_,_,_,_,_,z⟩:=h;exact z.elim
   obtain⟨Y1,H1,s0,C,a,t,H2,B,F1,rfl,I0,hn,ye,uC,x,CG,S1⟩:=h;obtain⟨C',Cs,Aa⟩:=hex;rw[hn]at Cs;cases Cs
   have fr:=I0.ok.frames;rw[oh]at fr;have x':=x;rw[oh]at x';refine wpAny_looks_onW fr pO x'.fl λh4 held DA=>?_
   refine wpAny_landsW held λh5 AE Dz=>?_
   have AD:ko B X.stack a (.ref C) (.ref t) h5:=by rw[oh];exact AE
   have x5:=x.step AD (DA.trans Dz);have I5:=a3k (s':=s1) I0 ye uC x5;have Hr:Inv (Cx.hand X a (notedBy (aO X.prog X.w) (X.A.mark (cz (.ref a))) X.env (cameBackBy (aO X.prog X.w) X.A X.env X.xe))) pins Y1 (upd H2 a (ExcAt a C)) {s1 with heap:=h5}:=Inv.hand I5 a _;have wH:X.mg x0=cz (.ref C0):=gj I.mod.kin I.mod.glob sW;obtain⟨ob,Fd,zD⟩:=AE.there;refine wpAny_handleBy_cons (codeAny_handlers_test (X7 Hr hg wH ?_ hd)) (by intro q;cases q);have LT:PySem.W.Looks (aO X.prog X.w) h5 (typeOf (.ref a)) (.ref C):=zD▸(Hh Fd).andThen .now;refine (PySem.W.exm_one I5.kIn LT Aa).here ?_;refine codeAny_handlers_suite_as ?_;refine lands_againW AE λh6 GD Dy=>?_
   have AB:ko B X.stack a (.ref C) (.ref t) h6:=by rw[oh];exact GD
   have x6:=x5.step AB Dy;have I6:=a3k (s':=s1) I0 ye uC x6;refine a0r I6 hN hj (.inl yh) (v:=.ref a) (u:=.ref a) rfl (λs7 I7=>?_) (.inr yh);have yR:=a9i (X:=Cx.hand X a λ_ _=>False) (a7A (A8 (i:=j) hj (.inl yh) FL kL) (B0 (i:=i) hN hi (.inl uY) (.inr uY)) hs hw h1) pins s7 (Y1.set j (cz (.ref a))) (upd H2 a (ExcAt a C))
    {nx:=λY' H'=>Y'=(Y1.set j (cz (.ref a))).set i (cz (.ref a))/\H'=upd H2 a (ExcAt a C),rt:=λ_ _=>False} (Inv.hand I7 a _) ⟨.ref a,by
     rw[eL];rw[I0.len];exact (aP.mp hj).1,rfl,rfl⟩
   refine cK yR (λf s8 h=>?_) λ_ _ z=>z.elim
   cases f with
   |next=>
    obtain⟨Y8,H8,I8,e8,e9⟩:=h;subst e8 e9;have Dh:=Inv.unhand I0.ok I8;obtain⟨m,pd,sg⟩:=id Dh.loc;have uy:(X.env.scope.kind==.class||(X.env.scope.kind==.module&&X.env.locals !=X.env.globals))=p4:=by rw[I0.ok.kind];rfl
    refine wpAny_nameGoes_keeps yh pd uy λh9 v Ea sb=>?_
    have FQ:((Y1.set j (cz (V.ref a))).set i (cz (V.ref a))).set j el=(Y1.set j el).set i (cz (V.ref a)):=by
     rw[mQ _ _ oG,uK]
    refine⟨_,_,Inv.unbound Dh hN hj pd sg Ea sb,?_⟩;rw[FQ];have eu:Same H2 (upd H2 a (ExcAt a C)):=λb o q=>by
     rw[f8 (λz=>by rw[z,x.na]at q;cases q)];exact q
    have nF:a∉F1:=λz=>by
     obtain⟨ys,q⟩:=S1.lst a z;have:=CG _ _ q;rw[x.na]at this;cases this
    have S3:=(S1.grow (CG.trans eu)).kill BK .none el;have sf:(M.set j .dead)[i]?=cz (.own .i):=by rw[dS (dy oG)];exact p_
    exact k _ _ _ (S3.setExc sf (v:=.ref a) (d:=.str n) ⟨rfl,.ref a,rfl,.inr ⟨a,C,n,rfl,rfl,k6 nF i7,hn⟩⟩)
   |brk=>obtain⟨_,_,_,z⟩:=h;exact z.elim
   |cont=>obtain⟨_,_,_,z⟩:=h;exact z.elim
   |ret w=>obtain⟨_,_,_,_,_,z⟩:=h;exact z.elim
  ·rw[aN hc]at so;cases so
end VS
namespace PySem.W
open PySem.Spec PySem.Calls PyProof.Rows Builtin Builtin.ObjectAttr Builtin.Getset_descriptor
section
variable {prog:br}{w:bK}{A:bB}{E:ai->aj->Prop}{s:aj}{K:Frag}{a C:aw}{o:fm}
def X2{h:bL}(hx:h.get? a=cz o)(hc:o.cls=.ref C):Looks M h (typeOf (.ref a)) (.ref C):=hc▸(Looks.ld hx).andThen .now
def a3W(X:K.In s.heap)(hx:s.heap.get? a=cz o)(hc:o.cls=.ref C)(hm:mroIn K C (.type "object")=cz fx)
  (h:R (.ok (.ret (.ref C))) s):gA (aO prog w) A (.call (.builtin "getset_descriptor.__get__") ⟨[.builtin "object.__class__",.ref a,tp],[]⟩) R s:=by
 obtain⟨hh,g,dr,t,os⟩:=s;have L0:=X2 (M:=aO prog w) hx hc;have L1:=looks_mroIn (M:=aO prog w) X hm;refine nN KF.slot_gs.plain KF.entry_gs (KF.slot_gs.check _ _ _ _ _ _ _ _ KF.type_class (KF.args_gs _ _ _) ?_);unfold Builtin.«getset_descriptor.__get__» descrGet;rw[dga_obj];refine ae (ag ?_);unfold descrGetter descrCheckInstance descrNameAndClass v_;simp only[KF.owner_class]
 repeat lk
 refine⟨Code.quiet_builtin _ (by decide +kernel),dD KF.entry_class ?_⟩;unfold Builtin.«object.__class__» shownTypeOf
 repeat lk
 exact h
def b1q(X:K.In s.heap)(hx:s.heap.get? a=cz o)(hc:o.cls=.ref C)(hb:subIn K (.ref C) (.type "BaseException")=cz fx)(hq:Q () s) :
  az M A (sE "BaseException.__getattribute__" ⟨[.ref a,vM],[]⟩) Q E s:=by
 obtain⟨hh,g,dr,t,os⟩:=s;have L0:=X2 (M:=M) hx hc;have L1:=looks_subIn (M:=M) X hb;have hk:builtinKind "BaseException.__getattribute__"=cz .slot:=by decide +kernel
 have ka:splitId "BaseException.__getattribute__"=cz ("BaseException","__getattribute__"):=by decide +kernel
 have ha:=F.args_bexc_ga (.ref a) vM;simp only[sE,hk,ka];refine ae ?_;unfold v_;refine ae (L0.at ?_);refine L1.at ?_
 repeat (any_goals (first|assumption|wp_step))
def b1r(X:K.In s.heap)(hx:s.heap.get? a=cz o)(hc:o.cls=.ref C)(ha:findIn K (.ref C) "__class__"=cz (cz (.builtin "object.__class__")))
  (hm:mroIn K C (.type "object")=cz fx) (hq:Q (.done (.ret (.ref C))) s) :
  az (aO prog w) A (Builtin.«object.__getattribute__» ⟨[.ref a,.str "__class__" tk],[]⟩) Q E s:=by
 obtain⟨hh,g,dr,t,os⟩:=s;have L0:=X2 (M:=aO prog w) hx hc;have L1:=looks_findIn (M:=aO prog w) X ha;have Ia:(⟨hh,g,dr,t,os⟩:aj).TypeIs (.builtin "object.__class__") "getset_descriptor":=IG;have f5:=IG;have f6:=F.slot_gs_get.lookup;have f7:=F.slot_gs_set.lookup
 repeat (any_goals (first|assumption|(with_reducible refine wpAny_loadPart_at hx ?_;rw[hc])|with_reducible refine Looks.at L1 ?_|wp_step))
 refine a3W X hx hc hm ?_
 repeat (any_goals (first|assumption|wp_step))
def a3l(X:K.In s.heap)(hx:s.heap.get? a=cz o)(hc:o.cls=.ref C)(zW:findIn K (.ref C) "__getattribute__"=cz (cz (.builtin "BaseException.__getattribute__")))
  (zT:findIn K (.ref C) "__getattr__"=cz el) (ha:findIn K (.ref C) "__class__"=cz (cz (.builtin "object.__class__"))) (hm:mroIn K C (.type "object")=cz fx) (hb:subIn K (.ref C) (.type "BaseException")=cz fx)
  (h:Q (cz (.ref C)) {s with toks:=s.toks+1}):az (aO prog w) A (nM (.ref a) "__class__") Q E s:=by
 obtain⟨hh,g,dr,t,os⟩:=s;have L0:=X2 (M:=aO prog w) hx hc;have L1:=looks_findIn (M:=aO prog w) X zW;have L2:=looks_findIn (M:=aO prog w) X zT;have f3:=tL.ga.bind (.ref a);unfold nM getAttrBy? getAttrBy;refine ae (wpAny_mkText (ae (fu (bJ (ae (L0.at (ae (L1.at ?_))))))));show az _ _ (getAttrByItsOwn _ _ _ _ _ _) _ _ _;unfold getAttrByItsOwn hookBefore;refine ae (L2.at (ae (fu (bJ ?_))));show az _ _ (boundAndCalled _ _ _) _ _ _;unfold boundAndCalled;rw[f3];refine ae (ag ?_);refine mo (nN tL.ga.plain F.entry_bexc_ga (b1q X hx hc hb (b1r X hx hc ha hm ?_)));exact handed_on rfl (ag h)
def kitx_exc(rD:(clsIn K C).isSome=fx)(zW:findIn K (.ref C) "__getattribute__"=cz (cz (.builtin "BaseException.__getattribute__")))
  (zT:findIn K (.ref C) "__getattr__"=cz el) (ha:findIn K (.ref C) "__class__"=cz (cz (.builtin "object.__class__"))) (hm:mroIn K C (.type "object")=cz fx) (hb:subIn K (.ref C) (.type "BaseException")=cz fx) :
  KitX K (.ref a) (.ref C) (λh=>∃o,h.get? a=cz o/\o.cls=.ref C) where
 ty:=λ_ _ _ ⟨_,h1,h2⟩=>X2 h1 h2
 it:=λ_ _ X _=>by
  obtain⟨G_,uA⟩:=dI.mp rD;unfold clsIn at uA
  split at uA
  ·rename_i c' d' Ha uQ ho
   intro A' Q' E' s' k q;unfold isType loadHead;exact ae (wpAny_loadPart (k _ _ (X _ _ ho)) (ag q))
  ·cases uA
 ne:=λh tp dd cP n sl X zk=>by
  obtain⟨G_,uA⟩:=dI.mp rD;refine Bool.eq_false_iff.mpr λq=>?_
  have e:C=tp:=aS.inj (fM.mp q);subst e;unfold clsIn at uA
  split at uA
  ·rename_i c' d' Ha uQ ho
   have z:=(X _ _ ho).symm.trans zk;cases z
  ·cases uA
 ca:=λX ⟨_,h1,h2⟩ k=>a3l X h1 h2 zW zT ha hm hb k
end
end PySem.W
namespace VS
open PySem.Spec L2 PyProof.Rows
def b3P(K:af)(n:bt):Bool:=match bN K ba n with
 |some (cz (.ref C))=>(PySem.W.clsIn K C).isSome&&fT K (.ref C) "__getattribute__" == cz (cz (.builtin "BaseException.__getattribute__"))&&fT K (.ref C) "__getattr__" == cz el
   && fT K (.ref C) "__class__" == cz (cz (.builtin "object.__class__"))&&PySem.W.mroIn K C (.type "object")==cz fx&&PySem.W.subIn K (.ref C) (.type "BaseException")==cz fx
 |_=>p4
def b9w(K:af)(c:ai)(f:bt->Bool)(n:bt):Bool:=match bN K ba n with
 |some (cz (.ref C))=>dh K (.ref C) c==cz (f n)
 |_=>p4
def a2g(L:List bt)(i:Nat)(f:bt->Bool):EvE:=λU=>match U.getD i (.bool fx) with
 |.none=>cz (.bool p4)
 |.str n=>if L.contains n then cz (.bool (f n)) else el
 |_=>el
def StE.getExc{K:af}{M:List Md}{U:List D}{Y:L2.St}{H P:Hp}{F:List aw}{i:Nat}(h:StE K M U Y H P F)(hm:M[i]?=cz .exc) :
  ∃v,Y[i]?=cz (cz v)/\((v=.non/\U.getD i (.bool fx)=.none)\/∃a C n,v=.ref a/\U.getD i (.bool fx)=.str n/\H a=cz (ExcAt a C)/\bN K ba n=cz (cz (.ref C))):=by
 obtain⟨G,h1,h3⟩:=h.all;obtain⟨d,o,f,pre,post,e1,e2,⟨_,v,rfl,q⟩,e4,_⟩:=h1.at_ hm;refine⟨v,e2,?_⟩;rw[y9 e1];exact q.imp (λz=>z) λ⟨a,C,n,z1,z2,z3,z4⟩=>⟨a,C,n,z1,z2,i8 _ _ z3,z4⟩
structure ExcN (K:af) (c:ai) (L:List bt) (f:bt->Bool):Prop where
 ok:L.all (λn=>b3P K n&&b9w K c f n)=fx
 non:dh K (.type "NoneType") c=cz p4
def c2O(K:af)(L:List bt)(f:bt->Bool)(cv:V):List V->Hp->VK->Prop:=λvs H Q=>∃x b,vs=[x,cv]/\((x=.non/\b=p4)\/∃a C n,x=.ref a/\H a=cz (ExcAt a C)/\bN K ba n=cz (cz (.ref C))/\n∈L/\b=f n)/\Q (.bl b) H
def b3Q{X:Cx}(xf:∀u,RelV cv u->u=c)(hN:ExcN X.K c L f):CallR X (.builtin "isinstance") (c2O X.K L f cv):=by
 intro pins s Y H xs us Q I r ⟨x,b,e,hx,q⟩;subst e;cases r with
 |cons r1 r2=>
  cases r2 with
  |cons r2 r3=>
   cases r3
   cases xf _ r2
   rcases hx with⟨rfl,rfl⟩|⟨a,C,n,rfl,ha,hn,hm,rfl⟩
   ·exact a4d I r1 .non hN.non λtk=>⟨.bl p4,H,I.tok tk,rfl,q⟩
   ·have k:=bj.mp hN.ok n hm;rw[av]at k;have k1:=k.1;have k2:=k.2;unfold b3P at k1;unfold b9w at k2;rw[hn]at k1 k2;simp only[av,fM]at k1 k2;obtain⟨⟨⟨⟨⟨y1,y2⟩,y3⟩,y4⟩,y5⟩,y6⟩:=k1;cases (show _=aS a from r1)
    exact cF (PySem.W.kitx_exc y1 y2 y3 y4 y5 y6) I.kIn (I.hok a _ ha).1 k2 (λz=>nomatch z) λtk=>⟨.bl (f n),H,I.tok tk,rfl,q⟩
section
variable {X:Cx}{M:List Md}{L:List bt}{f:bt->Bool}{x y:bt}{px py p pos:eA}
def a3m(i:Nat){cv:V}{c:ai}(xf:∀u,RelV cv u->u=c)(hN:ExcN X.K c L f)(hm:X.mg "isinstance"=el)(hc:PE X (.Name y py) (tC cv))
  (sx:X.N[i]?=cz x) (hv:Vis X.env.scope x) (p_:M[i]?=cz .exc) (hd:(x==("__debug__":bt))=p4) (kL:(x==("__classdict__":bt))=p4)
  (hg:Gl X "isinstance") (he:ak [.Name x px,.Name y py] X.env=(p4,bX (.Name x px) X.env)::ak [.Name y py] X.env) (kr:ak [.Name y py] X.env=(p4,bX (.Name y py) X.env)::ak [] X.env) (fF:(bY pos (ak [.Name y py] X.env)).any (·.1)=p4) :
  PX X M (.Call (.Name "isinstance" p) [.Name x px,.Name y py] [] pos) (a2g L i f) (.new .i):=by
 refine .mk ⟨_,N8 (b3Q xf hN) hg hm PyProof.Rows.Boot.«isinstance» (l7 (A8 sx hv hd kL) (l7 hc o5 kr) he) (by decide) (by decide) he fF,λU Y H P F d Q S jw q=>?_⟩;obtain⟨v,e,hx⟩:=S.getExc p_;have fin:∀b,d=.bool b->Q (.bl b) H:=λb hb=>by
  subst hb;exact q _ H (Same.refl H) (B7 (by simp only[imm]) den_bool (S.lst' (Same.refl H)))
 unfold a2g at jw;rcases hx with⟨rfl,hU⟩|⟨a,C,n,rfl,hU,ha,hn⟩
 ·rw[hU]at jw;cases jw
  exact⟨.non,e,⟨.non,p4,rfl,.inl ⟨rfl,rfl⟩,fin p4 rfl⟩⟩
 ·rw[hU]at jw;by_cases hl:L.contains n=fx
  ·have qL:(if L.contains n=fx then cz (cY (f n)) else el)=cz d:=jw;rw[aJ hl]at qL;cases qL
   exact⟨.ref a,e,⟨.ref a,f n,rfl,.inr ⟨a,C,n,rfl,ha,hn,by simpa using hl,rfl⟩,fin _ rfl⟩⟩
  ·have qL:(if L.contains n=fx then cz (cY (f n)) else el)=cz d:=jw;rw[aN hl]at qL;cases qL
def a8E(i:Nat)(hN:ExcN X.K (.ref C) L f)(hm:X.mg "isinstance"=el)(hy:X.mg y=cz (.ref C))(p_:M[i]?=cz .exc:=by rfl)
  (sx:X.N[i]?=cz x:=by rfl) (hv:autoParam (Vis X.env.scope x) ZU._auto_1) (hd:(x==("__debug__":bt))=p4:=by decide) (kL:(x==("__classdict__":bt))=p4:=by decide)
  (hg:Gl X "isinstance":=by rfl) (wN:Gl X y:=by rfl) (wW:(y==("__debug__":bt))=p4:=by decide)
  (he:ak [.Name x px,.Name y py] X.env=(p4,bX (.Name x px) X.env)::ak [.Name y py] X.env:=by rfl) (kr:ak [.Name y py] X.env=(p4,bX (.Name y py) X.env)::ak [] X.env:=by rfl) (fF:(bY pos (ak [.Name y py] X.env)).any (·.1)=p4:=by rfl) :
  PX X M (.Call (.Name "isinstance" p) [.Name x px,.Name y py] [] pos) (a2g L i f) (.new .i):=
 a3m i (cv:=.ref C) (λu r=>r) hN hm (a5h wN hy rfl wW) sx hv p_ hd kL hg he kr fF
def b9x(i:Nat)(hN:ExcN X.K (.type T) L f)(hm:X.mg "isinstance"=el)(hy:X.mg y=el)(hb:fg y=cz (.type T))(p_:M[i]?=cz .exc:=by rfl)
  (sx:X.N[i]?=cz x:=by rfl) (hv:autoParam (Vis X.env.scope x) ZU._auto_1) (hd:(x==("__debug__":bt))=p4:=by decide) (kL:(x==("__classdict__":bt))=p4:=by decide)
  (hg:Gl X "isinstance":=by rfl) (wN:Gl X y:=by rfl) (zE:y≠"__name__":=by decide) (wW:(y==("__debug__":bt))=p4:=by decide)
  (he:ak [.Name x px,.Name y py] X.env=(p4,bX (.Name x px) X.env)::ak [.Name y py] X.env:=by rfl) (kr:ak [.Name y py] X.env=(p4,bX (.Name y py) X.env)::ak [] X.env:=by rfl) (fF:(bY pos (ak [.Name y py] X.env)).any (·.1)=p4:=by rfl) :
  PX X M (.Call (.Name "isinstance" p) [.Name x px,.Name y py] [] pos) (a2g L i f) (.new .i):=
 a3m i (cv:=.ty T) (λu r=>r) hN hm (a9h wN hy hb rfl zE wW) sx hv p_ hd kL hg he kr fF
def b3R(i:Nat):EvE:=λU=>match U.getD i (.bool fx) with
 |.none=>cz (.bool fx)
 |.str _=>cz (.bool p4)
 |_=>el
def b3S(i:Nat){j pos'}(p_:M[i]?=cz .exc:=by rfl)(sx:X.N[i]?=cz x:=by rfl)(hv:autoParam (NmV X x) ZY._auto_1) :
  PTX X M (.Compare (.Name x px) [.Is] [.Constant .none j pos'] pos) (tV (b3R i)):=by
 refine .mk ⟨_,b7M (b7L (A8 sx hv.1 hv.2.1 hv.2.2)),λU Y H P F b Q S jw q=>?_⟩;obtain⟨v,e,hx⟩:=S.getExc p_;unfold tV b3R at jw;rcases hx with⟨rfl,hU⟩|⟨a,C,n,rfl,hU,ha,hn⟩
 ·rw[hU]at jw;cases jw
  exact⟨.non,e,fx,rfl,q H (Same.refl H)⟩
 ·rw[hU]at jw;cases jw
  exact⟨.ref a,e,p4,rfl,q H (Same.refl H)⟩
end
def c1m(K:af)(cs:List aw)(f:bt->Bool)(n:bt):Bool:=match bN K ba n with
 |some (cz (.ref C))=>PySem.W.kitAny K (.ref C) (cs.map aS)==cz (f n)
 |_=>p4
structure ExcT (K:af) (cs:List aw) (L:List bt) (f:bt->Bool):Prop where
 ok:L.all (λn=>b3P K n&&c1m K cs f n)=fx
 non:PySem.W.kitAny K (.type "NoneType") (cs.map aS)=cz p4
def tAC(vs:List V):TA:=λ_ H Q=>Q vs H
theorem a4L:∀{cs:List aw} {us:List ai},Vals (cs.map V.ref) us->us=cs.map aS
 |[],us,h=>by
  have h':Vals [] us:=h;cases h'
  rfl
 |c::cs,us,h=>by
  have h':Vals (V.ref c::cs.map V.ref) us:=h;cases h' with
  |cons r t=>
   cases (show _=aS c from r)
   rw[a4L t];rfl
def c2P(K:af)(L:List bt)(f:bt->Bool)(cs:List aw):List V->Hp->VK->Prop:=λvs H Q=>∃x b tp,vs=[x,.ref tp]/\H tp=cz (.tup (cs.map V.ref))/\((x=.non/\b=p4)\/∃a C n,x=.ref a/\H a=cz (ExcAt a C)/\bN K ba n=cz (cz (.ref C))/\n∈L/\b=f n)/\Q (.bl b) H
def b3T{X:Cx}(hN:ExcT X.K cs L f):CallR X (.builtin "isinstance") (c2P X.K L f cs):=by
 intro pins s Y H xs us Q I r ⟨x,b,tp,e,zk,hx,q⟩;subst e;cases r with
 |cons r1 r2=>
  cases r2 with
  |cons r2 r3=>
   cases r3
   cases (show _=aS tp from r2)
   obtain⟨cP,rv,⟨⟨cls,dd,dat,sl⟩,ho,hc,n,hd⟩,_⟩:=I.tuple (SqT.of zk);cases a4L rv
   have pP:cls=dB "tuple":=hc;have lH:dat=.seq (cs.map aS).toArray n:=hd;subst pP;subst lH;rcases hx with⟨rfl,rfl⟩|⟨a,C,n,rfl,ha,hn,hm,rfl⟩
   ·cases (show _=bZ from r1)
    exact Iw CZ I.kIn trivial ho hN.non (λz=>nomatch z) λtk=>⟨.bl p4,H,I.tok tk,rfl,q⟩
   ·have k:=bj.mp hN.ok n hm;rw[av]at k;have k1:=k.1;have k2:=k.2;unfold b3P at k1;unfold c1m at k2;rw[hn]at k1 k2;simp only[av,fM]at k1 k2;obtain⟨⟨⟨⟨⟨y1,y2⟩,y3⟩,y4⟩,y5⟩,y6⟩:=k1;cases (show _=aS a from r1)
    exact Iw (PySem.W.kitx_exc y1 y2 y3 y4 y5 y6) I.kIn (I.hok a _ ha).1 ho k2 (λz=>nomatch z) λtk=>⟨.bl (f n),H,I.tok tk,rfl,q⟩
section
variable {X:Cx}{M:List Md}{L:List bt}{f:bt->Bool}{x y:bt}{px py p pos gE:eA}{cs:List aw}{es:List Expr}{vs:List V}{c:aw}
def a9L:PA X [] (tAC []):=o5
def D6(hm:X.mg y=cz (.ref c))(hr:PA X es (tAC vs))(hg:Gl X y:=by rfl)(hd:(y==("__debug__":bt))=p4:=by decide)(hs:ak (.Name y py::es) X.env=(p4,bX (.Name y py) X.env)::ak es X.env:=by rfl):PA X (.Name y py::es) (tAC (.ref c::vs)):=
 l7 (a5h (v:=.ref c) hg hm rfl hd) hr hs
def a9M(i:Nat){j}(hN:ExcT X.K cs L f)(FO:PA X es (tAC (cs.map V.ref)))(hm:X.mg "isinstance"=el)(hsz:cs.length<=1000:=by exact vh rfl)
  (sx:X.N[i]?=cz x:=by rfl) (hv:autoParam (Vis X.env.scope x) ZU._auto_1) (p_:M[i]?=cz .exc:=by rfl) (hd:(x==("__debug__":bt))=p4:=by decide) (kL:(x==("__classdict__":bt))=p4:=by decide)
  (hg:Gl X "isinstance":=by rfl) (he:ak [.Name x px,.Tuple es j gE] X.env=(p4,bX (.Name x px) X.env)::ak [.Tuple es j gE] X.env:=by rfl) (kr:ak [.Tuple es j gE] X.env=(p4,bX (.Tuple es j gE) X.env)::ak [] X.env:=by rfl) (fF:(bY pos (ak [.Tuple es j gE] X.env)).any (·.1)=p4:=by rfl) :
  PX X M (.Call (.Name "isinstance" p) [.Name x px,.Tuple es j gE] [] pos) (a2g L i f) (.new .i):=by
 refine .mk ⟨_,N8 (b3T hN) hg hm PyProof.Rows.Boot.«isinstance» (l7 (A8 sx hv hd kL) (l7 (a7E FO) o5 kr) he) (by decide) (by decide) he fF,λU Y H P F d Q S jw q=>?_⟩;obtain⟨v,e,hx⟩:=S.getExc p_;have mw:(cs.map V.ref).length<=aQ:=by rw[ao,cE];lia
 have fin:∀b z,d=.bool b->H z=el->Q (.bl b) (upd H z (.tup (cs.map V.ref))):=λb z hb hz=>by
  subst hb;exact q _ _ (j9 hz _) (B7 (by simp only[imm]) den_bool (S.lst' (j9 hz _)))
 unfold a2g at jw;rcases hx with⟨rfl,hU⟩|⟨a,C,n,rfl,hU,ha,hn⟩
 ·rw[hU]at jw;cases jw
  exact⟨.non,e,mw,λz hz=>⟨.non,p4,z,rfl,i7,.inl ⟨rfl,rfl⟩,fin p4 z rfl hz⟩⟩
 ·rw[hU]at jw;by_cases hl:L.contains n=fx
  ·have qL:(if L.contains n=fx then cz (cY (f n)) else el)=cz d:=jw;rw[aJ hl]at qL;cases qL
   exact⟨.ref a,e,mw,λz hz=>⟨.ref a,f n,z,rfl,i7,.inr ⟨a,C,n,rfl,j9 hz _ _ _ ha,hn,by simpa using hl,rfl⟩,fin _ z rfl hz⟩⟩
  ·have qL:(if L.contains n=fx then cz (cY (f n)) else el)=cz d:=jw;rw[aN hl]at qL;cases qL
end
section
variable {X:Cx}{E:XK}{W:Wsh}{M M':List Md}{r r1 r2:EvR}
def tQ(K:af)(W:Wsh)(M:List Md)(r:EvR)(Y:L2.St)(H:Hp):Prop:=∃(U:List D) (P:Hp) (F:List aw) (n:bt),StR K M U Y H P F/\r U=cz n/\∀M' U' Y' H' F',StR K M' U' Y' H' P F'->W n Y' H'
def a5K(X:Cx)(W:Wsh)(M:List Md)(sts:List fS)(r:EvR):Prop:=PSs X sts λ_ Y H=>tQ X.K W M r Y H
def b3U(h:b1p X W M sts r):a5K X W M sts r:=λpins s Y H D I ⟨U,P,F,n,S,hr,q⟩=>h pins s Y H D I ⟨U,P,F,n,S,hr,λY' H' F' S'=>q M U Y' H' F' S'⟩
def a1X(f:EvS)(r:EvR):EvR:=λU=>(f U).bind λo=>match o with
 |.nx U'=>r U'
 |_=>el
def a5L{u:Ty}{ML:List Md}{st:fS}{rest:List fS}{f:EvS}(h1:PSX X u ML M st f M')(h:a5K X W M' rest r):a5K X W M (st::rest) (a1X f r):=by
 intro pins s Y H D I ⟨U,P,F,n,S,hr,q⟩;obtain⟨o,h2,h3⟩:=bnd hr;cases o with
 |nx U'=>exact K6 (t:=spS X.K u ML M f M') (u:=λ_ Y H=>tQ X.K W M' r Y H) h1 h pins s Y H D I ⟨U,P,F,.nx U',S,h2,λY' H' F' S'=>⟨U',P,F',n,S',h3,q⟩⟩
 |_=>cases h3
def c1n(h1:a5K X W M sts r1)(h2:a5K X W M sts r2):a5K X W M sts (rOr r1 r2):=by
 intro pins s Y H D I ⟨U,P,F,n,S,hr,q⟩;unfold rOr at hr
 split at hr
 ·next m hm=>
  cases hr
  exact h1 pins s Y H D I ⟨U,P,F,n,S,hm,q⟩
 ·exact h2 pins s Y H D I ⟨U,P,F,n,S,hr,q⟩
def a3X(c:EvT)(g:EvS)(r:EvR):Nat->EvR
 |0,_=>el
 |n+1,U=>(c U).bind λk=>if k then (match r U with
  |some x=>cz x
  |none=>(g U).bind λo=>match o with
   |.nx U'=>a3X c g r n U'
   |_=>el) else el
def rWh(n:List D->Nat)(c:EvT)(g:EvS)(r:EvR):EvR:=λU=>a3X c g r (n U) U
def b3V{u:Ty}{c0:Expr}{fc:EvT}{g:EvS}{body rest:List fS}{pos:eA}(n:List D->Nat)(hp:kz (aO X.prog X.w) X.A X.env X.xe)(hc:PTX X M c0 fc)(hb:PSsX X u M M body g M)(hr:a5K X W M body r):a5K X W M (.While c0 body [] pos::rest) (rWh n fc g r):=by
 obtain⟨tc,pc,qc⟩:=hc.out;obtain⟨tb,pb,qb⟩:=hb.out;have FY:PSs X body λD Y H=>tb D Y H\/tQ X.K W M r Y H:=λpins s Y H D I h=>h.elim (pb pins s Y H D I) (hr pins s Y H D I)
 refine K6 (t:=λ_ Y H=>tQ X.K W M (rWh n fc g r) Y H) (u:=λ_ _ _=>False) (λpins s Y H D I ⟨U,P,F,y,S,oH,q⟩=>a6c hp pc FY pins s Y H D I ?_) λ_ _ _ _ _ _ z=>z.elim
 refine⟨λm Y' H'=>∃U' F',StR X.K M U' Y' H' P F'/\a3X fc g r m U'=cz y,⟨n U,U,F,S,oH⟩,?_⟩;rintro m Y' H' ⟨U',F',S',hw⟩;cases m with
 |zero=>cases hw
 |succ m=>
  obtain⟨b,h1,g1⟩:=bnd (show (fc U').bind _=cz y from hw);refine qc U' Y' H' P F' b _ S'.toE h1 λH1 e1=>?_
  cases b with
  |true=>
   refine a2z ?_;rw[aJ rfl]at g1
   split at g1
   ·next x hx=>
    cases g1
    exact⟨λ_ _=>False,λ_ _ z=>z.elim,.inr ⟨U',P,F',y,S'.grow e1,hx,q⟩⟩
   ·refine⟨λY2 H2=>∃U2 F2,StR X.K M U2 Y2 H2 P F2/\a3X fc g r m U2=cz y,λY2 H2 z=>⟨m,iT _,z⟩,.inl ?_⟩;obtain⟨o1,hg1,g3⟩:=bnd g1;refine qb _ U' Y' H1 P F' o1 (S'.grow e1) hg1 ?_;cases o1 with
    |nx U2=>exact λY4 H4 F4 S4=>⟨U2,F4,S4,g3⟩
    |_=>cases g3
  |false=>cases g1
def XeL.passes(h:XeL X E):kz (aO X.prog X.w) X.A X.env X.xe:=by
 rw[h.xe];exact kz.leaving
end
end VS
namespace L2
def Has.u(h:Has P w K mg base x i ps sp)(l:i<=j:=by decide):Has P w K mg base x j ps sp:=h.up l
end L2
namespace VS
open PySem.Spec PyProof.Rows L2
structure DP (K:af) (mg:bt->Option ai) (x:bt) (st:fS):Prop where
 ex:∃f fd,Fun K x x st f fd/\bN K ba x=cz (cz (.ref f))/\mg x=cz (.ref f)
section
variable {P:br}{w:bK}{K:af}{mg:bt->Option ai}{base h:bL}{x:bt}{st:fS}{N ps:List bt}{k n:Nat}{us:List Ty}{u wt:Ty}{g:EvS}{sp:Sp}
def c1o{f:aw}{oc:ai}{od an:Option aw}{oW:Array (Option ai)}{kV doc pm gg ct:ai}(X:K.In h)(G:h.Ns ba mg)(a:bN K ba x=cz (cz (.ref f)))(l:K.lookup f=cz ⟨oc,od,.func (gc x x (T1 st) (w9 st) (i9 st) .none kV doc pm an gg ct),oW⟩)
  (c:mf K gg x=fx) (k:eY K (.ref f)=fx):DP K mg x st:=⟨_,_,b8n l c k,a,gj X G a⟩
def c2Q(X:K.In h)(G:h.Ns ba mg)(a:bN K ba x=cz (cz (.int i t))):∃t,mg x=cz (.int i t):=⟨t,gj X G a⟩
abbrev BBy(x:bt)(st:fS)(ps:List bt):Prop:=∀(kV doc pm:ai) (an:Option aw) (gg ct:ai) (us:List ai),us.length=ps.length->q_ (gc x x (T1 st) (w9 st) (i9 st) .none kV doc pm an gg ct) ⟨us,[]⟩=pure (ps.zip us)
def n4(d:DP K mg x st)(h:∀f fd,Fun K x x st f fd->FnOk P w K mg base CX0 k f fd ps sp)(b:BBy x st ps:=by intro _ _ _ _ _ _ us hl;first|(obtain⟨_,rfl⟩:=b9j hl;rfl)|(obtain⟨_,_,rfl⟩:=b3d hl;rfl)|(obtain⟨_,_,_,rfl⟩:=b9k hl;rfl)|(obtain⟨_,_,_,_,rfl⟩:=c1i hl;rfl)|(obtain⟨_,_,_,_,_,rfl⟩:=c2I hl;rfl)|(obtain⟨_,_,_,_,_,_,rfl⟩:=c2J hl;rfl)):Has P w K mg base x k ps sp:=by
 obtain⟨f,fd,F,a,m⟩:=d.ex;exact⟨f,fd,h f fd F,F.binds b,F.kp,m⟩
def b6j(d:DP K mg x st)(h:∀f fd,Fun K x x st f fd->bN K ba x=cz (cz (.ref f))->FnOk P w K mg base CX0 k f fd ps sp)(b:BBy x st ps:=by intro _ _ _ _ _ _ us hl;first|(obtain⟨_,rfl⟩:=b9j hl;rfl)|(obtain⟨_,_,rfl⟩:=b3d hl;rfl)|(obtain⟨_,_,_,rfl⟩:=b9k hl;rfl)):Has P w K mg base x k ps sp:=by
 obtain⟨f,fd,F,a,m⟩:=d.ex;exact⟨f,fd,h f fd F a,F.binds b,F.kp,m⟩
def fnF(F:Fun K x x st f fd)(N:List bt)(hb:∀(S:FnScope N ps (i9 st)) (gg:ai) (A:bB) (outer:List n_) (s:aj) (H:Hp) (E:XK),Room k (A.deeper (ji x (i9 st) s.heap.objs.size f gg))->PSsX (a0e CX0 P w K mg base N x (i9 st) f gg A outer s H E).nox u [] (us.map .own++aL n .dead) (w9 st) g [])
  (S:FnScope N ps (i9 st):=by exact⟨rfl,rfl,rfl,by decide +kernel,rfl,by decide +kernel,by decide +kernel⟩) (nj:us.length=ps.length:=by rfl) (hn:N.length=ps.length+n:=by rfl):FnOk P w K mg base CX0 (k+1) f fd ps (spD K ps.length (fnD us n g) u):=b5z F S nj hn (hb S)
def b9y(F:Fun K x x st f fd)(N:List bt)(M':List Md)(hb:∀(S:FnScope N ps (i9 st)) (gg:ai) (A:bB) (outer:List n_) (s:aj) (H:Hp) (E:XK),Room k (A.deeper (ji x (i9 st) s.heap.objs.size f gg))->PSsX (a0e CX0 P w K mg base N x (i9 st) f gg A outer s H E).nox .i [] (us.map .own++aL n .dead) (w9 st) g M')
  (S:FnScope N ps (i9 st):=by exact⟨rfl,rfl,rfl,by decide +kernel,rfl,by decide +kernel,by decide +kernel⟩) (nj:us.length=ps.length:=by rfl) (hn:N.length=ps.length+n:=by rfl):FnOk P w K mg base CX0 (k+1) f fd ps (spD K ps.length (fnN us n g) .i):=b2F F S nj hn (hb S)
def c1p{Φ:(List D->Option D)->Hp->V->Prop}{g:(List D->Option D)->EvS}(F:Fun K x x st f fd)(N:List bt)(hb:∀(S:FnScope N ps (i9 st)) (gm:List D->Option D) (gg:ai) (A:bB) (outer:List n_) (s:aj) (H:Hp) (E:XK),Room k (A.deeper (ji x (i9 st) s.heap.objs.size f gg))->PSsX (a0e CX0 P w K mg base N x (i9 st) f gg A outer s H E).nox u [] (us.map .own++(.fn (Φ gm)::aL n .dead)) (w9 st) (g gm) [])
  (S:FnScope N ps (i9 st):=by exact⟨rfl,rfl,rfl,by decide +kernel,rfl,by decide +kernel,by decide +kernel⟩) (nj:us.length+1=ps.length:=by rfl) (hn:N.length=ps.length+n:=by rfl) (hj:j=us.length:=by rfl):FnOk P w K mg base CX0 (k+1) f fd ps (spL K j Φ (fnL us n g) u):=hj▸b3j (M':=λ_=>[]) F S nj hn (hb S)
def c2R(F:Fun K x x st f fd)(N:List bt)(lt:(D0 K x).isSome=fx)(X:K.In base)(G:base.Ns ba mg)(a:bN K ba x=cz (cz (.ref f)))(hb:∀(S:FnScope N ps (i9 st)) (c:aw) (p:aw) (hc:fd.code=.ref c) (hp:D0 K x=cz p) (hd:gK base c p) (A:bB) (outer:List n_) (s:aj) (H:Hp) (E:XK),Room k (A.deeper (ji x (i9 st) s.heap.objs.size f fd.code))->PSsX (a0e CX0 P w K mg base N x (i9 st) f fd.code A outer s H E).nox u [] (us.map .own++aL n .dead) (w9 st) g [])
  (S:FnScope N ps (i9 st):=by exact⟨rfl,rfl,rfl,by decide +kernel,rfl,by decide +kernel,by decide +kernel⟩) (nj:us.length=ps.length:=by rfl) (hn:N.length=ps.length+n:=by rfl):FnOk P w K mg base CX0 (k+1) f fd ps (spD K ps.length (fnD us n g) u):=by
 obtain⟨oc,od,kV,doc,pm,an,gg,ct,oW,e,lk,kL⟩:=F.ex;obtain⟨c,p,h1,h2,h3⟩:=b3n lt X G a lk;exact b3m F S nj hn (hb S c p h1 h2 h3)
def b9z(zZ:mg x=cz (.ref fa))(d:DP K mg x st)(h:∀base:bL,K.In base->base.Ns ba mg->∀fd,Fun K x x st fa fd->FnOk P w K mg base CX0 k fa fd [p] sp)(b:∀(kV doc pm:ai) (an:Option aw) (gg ct v:ai),q_ (gc x x (T1 st) (w9 st) (i9 st) .none kV doc pm an gg ct) ⟨[v],[]⟩=pure [(p,v)]:=by intros;rfl) :
  ∃fd:dJ,(∀(s:aj) (v:ai),ox s fd ⟨[v],[]⟩ [(p,v)])/\∀base:bL,K.In base->base.Ns ba mg->FnOk P w K mg base CX0 k fa fd [p] sp:=by
 obtain⟨f,fd,F,a,m⟩:=d.ex;rw[zZ]at m;cases m
 refine⟨fd,λs v=>?_,λbase X G=>h base X G fd F⟩;obtain⟨oc,od,kV,doc,pm,an,gg,ct,oW,rfl,lk,kL⟩:=F.ex;exact .of_eq (b kV doc pm an gg ct v)
end
section
variable {X:Cx}{M:List Md}{e e0:Expr}{es:List Expr}{fe:EvE}{f:EvA}{c:Cat}{u:Ty}{pos p:eA}{x:bt}
abbrev mdF:Md:=.own .f
abbrev mdI:Md:=.own .i
abbrev mdD:Md:=.dead
def c6(i:Nat)(hN:X.N[i]?=cz x:=by rfl)(hv:autoParam (NmV X x) ZY._auto_1)(hm:M[i]?=cz (.own .f):=by rfl):PX X M (.Name x pos) (b7 i) (.bor .f):=a0h i hN hv hm
def i4(i:Nat)(hN:X.N[i]?=cz x:=by rfl)(hv:autoParam (NmV X x) ZY._auto_1)(hm:M[i]?=cz (.own .i):=by rfl):PX X M (.Name x pos) (b7 i) (.bor .i):=a0h i hN hv hm
def J1(i:Nat)(hN:X.N[i]?=cz x:=by rfl)(hv:autoParam (NmV X x) ZY._auto_1)(hm:M[i]?=cz (.own (.l .i)):=by rfl):PX X M (.Name x pos) (b7 i) (.bor (.l .i)):=a0h i hN hv hm
def B2(i:Nat)(hN:X.N.Nodup)(hi:X.N[i]?=cz x:=by rfl)(hx:autoParam (Loc X.env.scope x) ZW._auto_1)(hf:autoParam (X.fn x=fx\/X.env.scope.names.lookup x=cz .local) ZZ._auto_1):PG X (.Name x pos) (Q4 i):=B0 hN hi hx hf
def F6(hm:X.mg "len"=el)(h:PX X M e fe c)(hg:Gl X "len":=by rfl)(he:ak [e] X.env=(p4,bX e X.env)::ak [] X.env:=by rfl)(fF:(bY pos (ak [] X.env)).any (·.1)=p4:=by rfl):PX X M (.Call (.Name "len" p) [e] [] pos) (eCl G6 (b8 fe g8)) (.new .i):=a7M b8u hm PySem.boot_len (e7 h l5 he) hg (by decide) (by decide) he fF
def A0(W:Has X.prog X.w X.K X.mg X.base x k ps (spD X.K n m u))(hr:Room k X.A)(h:PAX X M (e0::es) f)(hu:u.shut=fx:=by rfl)(hl:(e0::es).length=n:=by rfl)(hfl:∀U ds,f U=cz ds->ds.length=(e0::es).length:=by first|exact i6 v6|exact i6 (i6 v6)|exact i6 (i6 (i6 v6))|exact i6 (i6 (i6 (i6 v6)))|exact i6 (i6 (i6 (i6 (i6 v6)))))
  (hg:Gl X x:=by rfl) (lG:(x==("__debug__":bt))=p4:=by decide) (he:ak (e0::es) X.env=(p4,bX e0 X.env)::ak es X.env:=by rfl) (fF:(bY pos (ak es X.env)).any (·.1)=p4:=by rfl) :
  PX X M (.Call (.Name x p) (e0::es) [] pos) (eCl m f) (.new u):=a2l W hr h hu hl hfl hg lG he fF
def D3(hu:X.A.units+464<cU:=by exact Room.units (by assumption)):OpS X (bO .Eq) dEq:=os_eq hu
def X3(hu:X.A.units+464<cU:=by exact Room.units (by assumption)):OpS X (bO .NotEq) dNe:=c0D hu
end
section
variable {P:br}{w:bK}{K:af}{mg:bt->Option ai}{base h:bL}{x:bt}{st:fS}{N ps:List bt}{k n:Nat}{us:List Ty}{sp:Sp}
def HasR.u(h:HasR P w K mg base x i ps sp)(l:i<=j:=by decide):HasR P w K mg base x j ps sp:=h.up l
def c2S(a:bN K ba x=cz (cz (.ref C)))(b:sG K C [.type "ValueError",.type "Exception",.type "BaseException",.type "object"] "ValueError.__new__"=fx):∃C,b3N K x C:=⟨C,a,b⟩
def c2T{L:List bt}(a:bN K ba x=cz (cz (.ref C)))(b:L.all (a3j K C)=fx):∃C,bN K ba x=cz (cz (.ref C))/\L.all (a3j K C)=fx:=⟨C,a,b⟩
def c1q{L:List bt}(X:K.In h)(G:h.Ns ba mg)(a:bN K ba x=cz (cz (.ref C)))(b:L.all (λn=>b3P K n&&b9w K (.ref C) f n)=fx)(c:dh K (.type "NoneType") (.ref C)=cz p4):∃C,mg x=cz (.ref C)/\ExcN K (.ref C) L f:=⟨C,gj X G a,b,c⟩
def a9N(d:DP K mg x st)(h:∀f fd,Fun K x x st f fd->FnOk P w K mg base (CXR P w) k f fd ps sp)(b:BBy x st ps:=by intro _ _ _ _ _ _ us hl;first|(obtain⟨_,rfl⟩:=b9j hl;rfl)|(obtain⟨_,_,rfl⟩:=b3d hl;rfl)|(obtain⟨_,_,_,rfl⟩:=b9k hl;rfl)|(obtain⟨_,_,_,_,rfl⟩:=c1i hl;rfl)):HasR P w K mg base x k ps sp:=by
 obtain⟨f,fd,F,a,m⟩:=d.ex;exact⟨f,fd,h f fd F,F.binds b,F.kp,m⟩
end
section
variable {P:br}{w:bK}{K:af}{mg:bt->Option ai}{base h:bL}{x:bt}{st:fS}{N ps:List bt}{k n:Nat}{us:List Ty}
def c1r(F:Fun K x x st f fd)(N:List bt)
  (hb:∀(S:FnScope N ps (i9 st)) (E:XK) (gg:ai) (A:bB) (outer:List n_) (s:aj) (H:Hp),let X:=a0e (CXR P w) P w K mg base N x (i9 st) f gg A outer s H E;XeL X E->Room k X.A->a5K X (wE K E) (us.map .own++aL n .dead) (w9 st) r)
  (S:FnScope N ps (i9 st):=by exact⟨rfl,rfl,rfl,by decide +kernel,rfl,by decide +kernel,by decide +kernel⟩) (nj:us.length=ps.length:=by rfl) (hn:N.length=ps.length+n:=by rfl):FnOk P w K mg base (CXR P w) (k+1) f fd ps (spR K ps.length (fnR us n r)):=by
 obtain⟨oc,od,kV,doc,pm,an,gg,ct,oW,rfl,lk,kL⟩:=F.ex;refine b2c lk kL S (λvs H Q E h=>?_) λA outer s H vs Q E hr nq=>?_
 ·obtain⟨ds,d,hl,_⟩:=h;exact hl
 obtain⟨ds,y,hl,hd,hm,q⟩:=nq;refine⟨_,hb S E gg A outer s H ⟨rfl,rfl,rfl,rfl,rfl⟩ hr,?_⟩;unfold fnR at hm;by_cases ha:argsOk us ds=fx
 ·rw[aJ ha]at hm;have e:L2.start N vs=vs.map cz++aL n el:=by
   unfold L2.start;rw[show N.length-vs.length=n by lia]
  rw[e];refine⟨ds++aL n iJ,H,[],y,⟨⟨[],P0 ha hd n,bg,λa ha=>(nomatch ha)⟩,λa ha=>(nomatch ha),by rw[K4];exact Same.refl H⟩,hm,λM' U' Y' H' F' S' C H2 hC e2=>q C H2 hC ((S'.prot.trans i8).trans e2)⟩
 ·rw[aN ha]at hm;cases hm
end
end VS
namespace VS
open L2
section
variable {a b c:EvE}{U:List D}{d x y:D}
def chE(g':D->D->Option D):Option D->Option D->EvE->List D->Option D
 |some (.bool fx),cz y,c,U=>l2 g' (cz y) (c U)
 |some (.bool p4),cz _,_,_=>cz (.bool p4)
 |_,_,_,_=>el
def c2U:eCh g g' a b c U=chE g' (l2 g (a U) (b U)) (b U) c U:=by
 unfold eCh;cases a U with
 |none=>rfl
 |some x=>
  cases b U with
  |none=>rfl
  |some y=>
   show (g x y).bind _=chE g' (g x y) (cz y) c U;cases g x y with
   |none=>rfl
   |some z=>
    cases z with
    |bool k=>
     cases k with
     |false=>rfl
     |true=>cases h:c U<;>simp[chE,asB,h,l2]
    |_=>rfl
def c1s:chE g' (cz (.bool fx)) (cz y) c U=l2 g' (cz y) (c U):=rfl
def c1t:chE g' (cz (.bool p4)) (cz y) c U=cz (.bool p4):=rfl
def c2V:(fx==fx)=fx:=rfl
def c2W:(fx==p4)=p4:=rfl
def c2X:(p4==fx)=p4:=rfl
def c2Y:(p4==p4)=fx:=rfl
def c2Z:(fx !=fx)=p4:=rfl
def c3a:(fx !=p4)=fx:=rfl
def c3b:(p4 !=fx)=fx:=rfl
def c3c:(p4 !=p4)=p4:=rfl
def trB:tr (.bool k)=cz k:=rfl
def c1u:asB (.bool k)=cz k:=rfl
def b3W:isN .none=fx:=rfl
def b6k:isN (.int i)=p4:=rfl
def b3X:isN (.bool i)=p4:=rfl
def b3Y:isN (.list ds)=p4:=rfl
def b6l:isN (.tuple ds)=p4:=rfl
def b9A:J8 k x .none=cz (.bool (k !=isN x)):=rfl
def b1s:isInt (.int i)=fx:=rfl
def a8F:isInt (.bool i)=fx:=rfl
def a8G:isInt .none=p4:=rfl
def a8H:isInt (.list ds)=p4:=rfl
def b1t:isInt (.tuple ds)=p4:=rfl
def b1u:isInt (.str s)=p4:=rfl
def a8I:isInt (.dict s)=p4:=rfl
def a8J:isBool (.int i)=p4:=rfl
def a6Z:isBool (.bool i)=fx:=rfl
def a7a:isBool .none=p4:=rfl
def a7b:isBool (.list ds)=p4:=rfl
def a8K:isBool (.tuple ds)=p4:=rfl
def a8L:isBool (.str s)=p4:=rfl
def a7c:isBool (.dict s)=p4:=rfl
def isList_list:isList (.list ds)=fx:=rfl
def isList_int:isList (.int i)=p4:=rfl
def a7d:isList .none=p4:=rfl
def isList_bool:isList (.bool i)=p4:=rfl
def a8M:isList (.tuple ds)=p4:=rfl
def isList_str:isList (.str s)=p4:=rfl
def isList_dict:isList (.dict s)=p4:=rfl
def a7e:x8 (.tuple ds)=fx:=rfl
def isTuple_list:x8 (.list ds)=p4:=rfl
def isTuple_int:x8 (.int i)=p4:=rfl
def lIs:Option D->Option D
 |some d=>b2s d
 |none=>el
def a9O:eI a U=lIs (a U):=by unfold eI;cases a U<;>rfl
def a7f(h:g9 ds=fx):lIs (cz (.list ds))=cz (.list ds):=by
 show (if g9 ds=fx then cz (ia ds) else el)=_;rw[aJ h]
def b3Z:Option D->Option D
 |some (.list ds)=>cz (.list ds)
 |some (.tuple ds)=>cz (.list ds)
 |_=>el
def a9P:a1K a U=b3Z (a U):=by
 unfold a1K;cases a U with
 |none=>rfl
 |some d=>cases d<;>rfl
def c1v:b3Z (cz (.list ds))=cz (.list ds):=rfl
def c1w:b3Z (cz (.tuple ds))=cz (.list ds):=rfl
def lL:Option D->Option (List D)
 |some d=>asL d
 |none=>el
def b6m:iL a U=lL (a U):=by unfold iL;cases a U<;>rfl
def c1x:lL (cz (.list ds))=cz ds:=rfl
def lII:Option (List D)->Option (List D)
 |some ds=>if g9 ds then cz ds else el
 |none=>el
def c1y:iI f U=lII (f U):=by unfold iI;cases f U<;>rfl
def a7g(h:f U=cz ds)(hi:g9 ds=fx):iI f U=cz ds:=by rw[c1y,h];show (if g9 ds=fx then cz ds else el)=_;rw[aJ hi]
def Q3{ds:List D}(h:ds.length<1000000):b0B i (.list ds) (cz d) U=cz (.nx (U.set i (.list (ds++[d])))):=b8T h
def b9B:E7 i U d=cz (U.set i d):=rfl
def b9C:a6t i j U (.tuple [x,y])=cz ((U.set i x).set j y):=rfl
def c1z:pt1 d=cz [d]:=rfl
def c1A:pt2 (.tuple [x,y])=cz [x,y]:=rfl
def c3d:tT U=cz fx:=rfl
end
def a2o(P:List D->Prop)(h1:∃U,o=cz (.nx U)/\P U)(h2:∀U,P U->Z2 (s U)=R):Z2 (thn o s)=R:=by
 obtain⟨U,rfl,h⟩:=h1;exact h2 U h
def R6{R:Option D->Prop}(P:List D->Prop)(h1:∃U,o=cz (.nx U)/\P U)(h2:∀U,P U->R (Z2 (s U))):R (Z2 (thn o s)):=by
 obtain⟨U,rfl,h⟩:=h1;exact h2 U h
theorem a7h(f:D->D):∀{ds:List D},(∀d∈ds,∃bs,pt d=cz bs/\g (bs++cs)=cz (f d))->O9 pt tT g cs ds=cz (ds.map f)
 |[],_=>rfl
 |d::ds,h=>by
  obtain⟨bs,h1,h2⟩:=h d ar;have ih:=a7h f (ds:=ds) λe he=>h e (au _ he)
  show (pt d).bind _=_;rw[h1];show (g (bs++cs)).bind _=_;rw[h2];show (O9 pt tT g cs ds).bind _=_;rw[ih];rfl
def b9D{js:List Nat}(f:D->D)(hf:fi U=cz ds)(hl:ds.length<=1000000)(h:∀d∈ds,∃bs,pt d=cz bs/\g (bs++js.map λj=>U.getD j .none)=cz (f d)) :
  r9 fi js pt tT g U=cz (.list (ds.map f)):=by
 unfold r9;rw[hf];show (if ds.length<=1000000 then _ else el)=_;rw[aJ hl,a7h f h];rfl
theorem u6(f:α->D)(h:∀x,imm (f x)=fx):∀xs:List α,g9 (xs.map f)=fx
 |[]=>by simp only[de,g9]
 |x::xs=>by simp only[aA,g9,h x,u6 f h xs,gk]
end VS
namespace Prog
open L2 VS
abbrev iD(ns:List Int):D:=.list (ns.map .int)
end Prog
namespace VS
open L2
mutual
theorem eqv_refl:∀d:D,d.canLay0=fx->aH d d=fx
 |.none,_=>by simp[aH]
 |.bool b,_=>by simp[aH]
 |.int i,_=>by simp[aH]
 |.str x,_=>by simp[aH]
 |.list xs,h=>by
  simp only[cf]at h;simp only[aH];exact eqvAll_refl xs h
 |.tuple xs,h=>by
  simp only[cf]at h;simp only[aH];exact eqvAll_refl xs h
 |.dict _,h=>by simp[cf]at h
theorem eqvAll_refl:∀xs:List D,aU xs=fx->cX xs xs=fx
 |[],_=>by simp only[cX]
 |x::xs,h=>by
  simp only[aU,av]at h;simp only[cX,av];exact⟨eqv_refl x h.1,eqvAll_refl xs h.2⟩
end
def b7n{a b:D}(ha:a.canLay0=fx)(hb:b.canLay0=fx)(hd:a.depth<=450):dEq a b=cz (.bool (aH a b)):=by
 unfold dEq b0r;rw[ha,hb,aE hd];simp
def b7o{a b:D}(ha:a.canLay0=fx)(hb:b.canLay0=fx)(hd:a.depth<=450):dNe a b=cz (.bool (!aH a b)):=by
 unfold dNe b0r;rw[ha,hb,aE hd];simp
def b7p{a:D}(ha:a.canLay0=fx)(hd:a.depth<=450):dEq a a=cz (.bool fx):=by rw[b7n ha ha hd,eqv_refl a ha]
def c1B{a:D}(ha:a.canLay0=fx)(hd:a.depth<=450):dNe a a=cz (.bool p4):=by rw[b7o ha ha hd,eqv_refl a ha];rfl
theorem a0M(f:α->D)(h:∀x,(f x).canLay0=fx):∀xs:List α,aU (xs.map f)=fx
 |[]=>by simp only[de,aU]
 |x::xs=>by simp only[aA,aU,h x,a0M f h xs,gk]
theorem R7(f:α->D)(n:Nat)(h:∀x,(f x).depth<=n):∀xs:List α,cu (xs.map f)<=n
 |[]=>by simp only[de,cu];exact cI _
 |x::xs=>by
  simp only[aA,cu];exact Nat.max_le.mpr ⟨h x,R7 f n h xs⟩
def a5M:(aI i).canLay0=fx:=by simp only[cf]
def N5:(aI i).depth=0:=by simp only[dG]
def lay_ints(ns:List Int):(ia (ns.map .int)).canLay0=fx:=by
 simp only[cf];exact a0M _ (λ_=>a5M) ns
def a8N(ns:List Int):(ia (ns.map .int)).depth<=1:=by
 simp only[dG];have:=R7 aI 0 (λx=>by rw[N5];exact aG _) ns;lia
theorem a3n:∀(xs ys:List Int),cX (xs.map aI) (ys.map aI)=decide (xs=ys)
 |[],[]=>by simp[cX]
 |[],_::_=>by simp[cX]
 |_::_,[]=>by simp[cX]
 |x::xs,y::ys=>by
  have:aH (.int x) (.int y)=decide (x=y):=by
   show (x==y)=decide (x=y);exact iK x y
  simp only[aA,cX,this,a3n xs ys,IF];by_cases h1:x=y<;>by_cases h2:xs=ys<;>simp[h1,h2]
def b7q{xs ys:List Int}:dEq (.list (xs.map .int)) (.list (ys.map .int))=cz (.bool (decide (xs=ys))):=by
 rw[b7n (lay_ints _) (lay_ints _) (cx (a8N _) (by decide))];simp only[aH,a3n]
def c1C:Option D->Option D->Option D
 |some (.list ds),cz (.list es)=>if ds.length+es.length<=aQ then cz (.list (ds++es)) else el
 |_,_=>el
def b4a:a3T a b U=c1C (a U) (b U):=by
 unfold a3T;cases a U with
 |none=>rfl
 |some x=>
  cases x with
  |list ds=>
   cases b U with
   |none=>rfl
   |some y=>cases y<;>rfl
  |_=>cases b U<;>rfl
def a8O{ds es:List D}(h:ds.length+es.length<=16777216):c1C (cz (.list ds)) (cz (.list es))=cz (.list (ds++es)):=by
 show (if ds.length+es.length<=aQ then _ else _)=_;rw[aJ (show ds.length+es.length<=aQ from h)]
def lSl:Option D->Option (Option Int)->Option (Option Int)->Option D
 |some (.list ds),cz l,cz h=>cz (.list (cutD ds l h))
 |_,_,_=>el
def c1D:eSl a lo hi U=lSl (a U) (lo U) (hi U):=by
 unfold eSl;cases a U with
 |none=>rfl
 |some x=>
  cases x with
  |list ds=>
   cases lo U with
   |none=>rfl
   |some y=>cases hi U<;>rfl
  |_=>cases lo U<;>cases hi U<;>rfl
def b7r:lSl (cz (.list ds)) (cz l) (cz h)=cz (.list (cutD ds l h)):=rfl
def b7s:oNo U=cz el:=rfl
def lO:Option D->Option (Option Int)
 |some (.int i)=>cz (cz i)
 |_=>el
def b7t:oSo a U=lO (a U):=by
 unfold oSo;cases a U with
 |none=>rfl
 |some x=>cases x<;>rfl
def c1E:lO (cz (.int i))=cz (cz i):=rfl
def b9E{ds:List D}{k:Int}(h0:0<=k)(h1:k<=ds.length):cutD ds el (cz k)=ds.take k.toNat:=by
 unfold cutD HT.sIx
 dsimp only
 rw[aN (by lia),List.drop_zero,Nat.sub_zero,pV (by lia)]
def b9F{ds:List D}{k:Int}(h0:0<=k)(h1:k<=ds.length):cutD ds (cz k) el=ds.drop k.toNat:=by
 unfold cutD HT.sIx;simp only[aN (show ¬ k<0 by lia),pV (show k.toNat<=ds.length by lia)];exact List.take_of_length_le (by rw[kJ];exact aG _)
theorem a4M(f:α->Bool):∀xs:List α,a1J (xs.map λx=>cY (f x))=cz (xs.map f)
 |[]=>rfl
 |x::xs=>by
  show (a1J (xs.map λx=>cY (f x))).map (f x::·)=_;rw[a4M f xs];rfl
def v_all(f:α->Bool)(xs:List α):b0u [.list (xs.map λx=>cY (f x))]=cz (.bool (xs.all f)):=by
 show (a1J (xs.map λx=>cY (f x))).map (λbs=>cY (bs.all id))=_;rw[a4M];simp[List.all_map]
def a2p{xs:List Int}:lIs (cz (.list (xs.map .int)))=cz (.list (xs.map .int)):=a7f (F9 _)
def c1F{xs:List Int}{k:Int}(h0:0<=k)(h1:k<=xs.length):lSl (cz (.list (xs.map .int))) (cz el) (cz (cz k))=cz (.list ((xs.take k.toNat).map .int)):=by
 rw[b7r,b9E h0 (by simpa using h1),List.map_take]
def c1G:Option D->Option D
 |some (.list ds)=>V6 (.tuple ds)
 |some (.tuple ds)=>V6 (.tuple ds)
 |_=>el
def a8P:U9 a U=c1G (a U):=by
 unfold U9;cases a U with
 |none=>rfl
 |some d=>cases d<;>rfl
def a3o{xs:List Int}:c1G (cz (.list (xs.map .int)))=cz (.tuple (xs.map .int)):=a6w (by simp only[imm];exact F9 xs)
def a2q:aH (.int x) (.int y)=decide (x=y):=by
 show (x==y)=decide (x=y);exact iK x y
def at0{α:Type}{x:α}{xs:List α}:L2.atI (x::xs) 0=cz x:=by
 unfold L2.atI ixN;rw[aJ (by decide),aJ (by simp only[bu];lia)];rfl
def at1{α:Type}{x y:α}{xs:List α}:L2.atI (x::y::xs) 1=cz y:=by
 unfold L2.atI ixN;rw[aJ (by decide),aJ (by simp only[bu];lia)];rfl
def R8{enc:α->D}{set:List D->D->Option (List D)}{xs:List α}(I:List α->List D->Prop)(h0:I [] U)
  (step:∀pre x post,xs=pre++x::post->∀U,I pre U->∃U1 U2,set U (enc x)=cz U1/\g U1=cz (.nx U2)/\I (pre++[x]) U2) :
  ∃U',T6 set g (xs.map enc) U=cz (.nx U')/\I xs U':=by
 have key:∀(post pre:List α) (U:List D),xs=pre++post->I pre U->∃U',T6 set g (post.map enc) U=cz (.nx U')/\I xs U':=by
  intro post
  induction post with
  |nil=>
   intro pre U e h;rw[bH]at e;subst e;exact⟨U,rfl,h⟩
  |cons x post ih=>
   intro pre U e h;obtain⟨U1,U2,h1,h2,h3⟩:=step pre x post e U h;obtain⟨U',h4,h5⟩:=ih (pre++[x]) U2 (by rw[e,bw];rfl) h3;refine⟨U',?_,h5⟩;show (set U (enc x)).bind _=_;rw[h1];show (g U1).bind _=_;rw[h2];exact h4
 exact key xs [] U rfl h0
def a1x:G9 0 n=(aV n).map λ(k:Nat)=>aI k:=by
 unfold G9;refine cM λk _=>?_
 show aI (0+(k:Int))=.int k;rw[Int.zero_add]
def a1Y(h:aV n=pre++x::post):x=pre.length/\x<n/\pre=aV x:=by
 have hx:(aV n)[pre.length]?=cz x:=by rw[h];simp
 have gQ:pre.length<n:=by have:=dY gN h;simp at this;lia
 rw[jm gQ]at hx;have e:x=pre.length:=(aK hx).symm;refine⟨e,by lia,?_⟩;have:=dY (List.take pre.length) h;rw[List.take_append_of_le_length (aG _),oP,List.take_range,pV (by lia)]at this;rw[e,this]
def F7{set:List D->D->Option (List D)}(I:Nat->List D->Prop)(h0:I 0 U)
  (step:∀k,k<n->∀U,I k U->∃U1 U2,set U (.int k)=cz U1/\g U1=cz (.nx U2)/\I (k+1) U2) :
  ∃U',T6 set g (G9 0 n) U=cz (.nx U')/\I n U':=by
 rw[a1x];obtain⟨U',h1,h2⟩:=R8 (enc:=λ(k:Nat)=>aI k) (set:=set) (g:=g) (xs:=aV n) (U:=U) (λpre U=>I pre.length U) h0 λpre x post e U h=>by
  obtain⟨e1,e2,_⟩:=a1Y e;subst e1;obtain⟨U1,U2,a,b,c⟩:=step pre.length e2 U h;exact⟨U1,U2,a,b,by rw[bh];exact c⟩
 rw[eB]at h2;exact⟨U',h1,h2⟩
def big:Int:=10^60
def b4b:1000<big:=by decide
abbrev m4:=List (List (Int×Int))
def stD(p:Int×Int):D:=.tuple [.int p.1,.int p.2]
def rwD(r:List (Int×Int)):D:=.list (r.map stD)
def rowAt(m:m4)(s:Int):List (Int×Int):=m.getD s.toNat []
def stp(m:m4)(s a:Int):Int×Int:=(rowAt m s).getD a.toNat (0,0)
structure WF (m:m4) (k:Nat):Prop where
 pos:0<m.length
 le:m.length<=30
 k1:1<=k
 k5:k<=5
 rows:∀r∈m,r.length=k
 next:∀r∈m,∀p∈r,0<=p.2/\p.2<(m.length:Int)
def a4N{m:m4}{s:Int}(h0:0<=s)(h1:s<m.length):rowAt m s∈m:=by
 unfold rowAt;rw[aW,ay (by lia)];exact dc _
def WF.row{m:m4}{k:Nat}(w:WF m k){s:Int}(h0:0<=s)(h1:s<m.length):(rowAt m s).length=k:=w.rows _ (a4N h0 h1)
def b6n{m:m4}{k:Nat}(w:WF m k){s a:Int}(h0:0<=s)(h1:s<m.length)(h2:0<=a)(h3:a<k):stp m s a∈rowAt m s:=by
 have:=w.row h0 h1;unfold stp;rw[aW,ay (by lia)];exact dc _
def WF.nx{m:m4}{k:Nat}(w:WF m k){s a:Int}(h0:0<=s)(h1:s<m.length)(h2:0<=a)(h3:a<k):0<=(stp m s a).2/\(stp m s a).2<(m.length:Int):=w.next _ (a4N h0 h1) _ (b6n w h0 h1 h2 h3)
def b6o{m:m4}{s:Int}(h0:0<=s)(h1:s<m.length):L2.atI (m.map rwD) s=cz (rwD (rowAt m s)):=by
 rw[a5w h0 (by rw[ao];exact h1),gW];unfold rowAt;rw[aW,ay (by lia)];rfl
def c1H{r:List (Int×Int)}{a:Int}(h0:0<=a)(h1:a<r.length):dIx (rwD r) (.int a)=cz (stD (r.getD a.toNat (0,0))):=by
 show L2.atI (r.map stD) a=_;rw[a5w h0 (by rw[ao];exact h1),gW,aW,ay (by lia)];rfl
def c1I:dIx (stD p) (.int 0)=cz (.int p.1):=rfl
def c1J:dIx (stD p) (.int 1)=cz (.int p.2):=rfl
def a8Q:imm (stD p)=fx:=by unfold stD;simp only[imm,g9,gk]
def b9G:V6 (stD p)=cz (stD p):=a6w a8Q
def b6p:V6 (.int i)=cz (.int i):=a6w a0C
def c1K:G6 [rwD r]=cz (.int r.length):=by
 show cz (aI ((r.map stD).length:Nat))=_;rw[ao]
def b6q:a6v i j (cz (stD p)) U=cz (.nx ((U.set i (.int p.1)).set j (.int p.2))):=rfl
def b9H(p:Int×Int):(stD p).canLay0=fx:=by unfold stD;simp[cf,aU]
def b9I(r:List (Int×Int)):(rwD r).canLay0=fx:=by unfold rwD;simp only[cf];exact a0M _ b9H r
def b4c(m:m4):(ia (m.map rwD)).canLay0=fx:=by simp only[cf];exact a0M _ b9I m
def b4d(p:Int×Int):(stD p).depth<=1:=by unfold stD;simp[dG,cu]
def b4e(r:List (Int×Int)):(rwD r).depth<=2:=by
 unfold rwD;simp only[dG];have:=R7 stD 1 b4d r;lia
def a8R(m:m4):(ia (m.map rwD)).depth<=450:=by
 simp only[dG];have:=R7 rwD 2 b4e m;lia
def b9J:Option Out->Option D
 |some (.rt d)=>cz d
 |some (.nx _)=>cz .none
 |_=>el
def b4f(h:argsOk us ds=fx):fnN us n g ds=b9J (g (ds++aL n .none)):=by
 unfold fnN;rw[aJ h];cases g (ds++aL n .none) with
 |none=>rfl
 |some o=>cases o<;>rfl
def a5N:b9J (cz (.nx U))=cz .none:=rfl
def a5O:b9J (cz (.rt d))=cz d:=rfl
def b9K:b3Z (cz (rwD r))=cz (rwD r):=rfl
def c1L:lIs (cz (rwD r))=cz (rwD r):=a7f (u6 _ (λ_=>a8Q) r)
def b4g{m:m4}(h:a U=cz (.list (m.map rwD)))(hl:m.length<=1000):r9 (iL a) [] pt1 tT (eI (a1K (b7 0))) U=cz (.list (m.map rwD)):=by
 rw[b9D (ds:=m.map rwD) id]
 ·rw[List.map_id]
 ·rw[b6m,h];rfl
 ·rw[ao];lia
 ·intro d hd;obtain⟨r,_,rfl⟩:=aR.mp hd;refine⟨_,rfl,?_⟩;show eI (a1K (b7 0)) [rwD r]=cz (rwD r);rw[a9O,a9P];show lIs (b3Z (cz (rwD r)))=_;rw[b9K,c1L]
end VS
namespace Prog
open L2 VS
def top(i:Nat):fS:=PySem.Challenge.pw_probewell_k42_where_one_began.main.body.getD i (.Pass ⟨0,0,0,0⟩)
def Lx:List bt:=["NoState","Unfit"]
structure Bn (K:af) (mg:bt->Option ai):Prop where
 d0:DP K mg "_law_cell_at" (top 41)
 d1:DP K mg "_law_cells" (top 42)
 d2:DP K mg "_law_copied" (top 45)
 d3:DP K mg "_law_answer" (top 44)
 d4:DP K mg "_law_machine" (top 46)
 d5:DP K mg "_law_set" (top 47)
 d6:DP K mg "need_few_states" (top 25)
 d7:DP K mg "is_list_up_to" (top 22)
 d8:DP K mg "is_whole" (top 18)
 d9:DP K mg "is_below" (top 19)
 d10:DP K mg "is_set" (top 27)
 d11:DP K mg "need_set" (top 26)
 d12:DP K mg "sets_of" (top 28)
 d13:DP K mg "least_telling" (top 37)
 d14:DP K mg "found_in_round" (top 16)
 d15:DP K mg "found_in_rounds" (top 15)
 d16:DP K mg "asks_of" (top 21)
 d17:DP K mg "parted_by" (top 39)
 d18:DP K mg "sets_behind" (top 38)
 d19:DP K mg "least_asks" (top 36)
 d20:DP K mg "grown" (top 35)
 d21:DP K mg "tree_of_set" (top 34)
 d22:DP K mg "tree_of" (top 32)
 d23:DP K mg "_law_shown" (top 51)
 d24:DP K mg "_law_whole" (top 43)
 d25:DP K mg "_law_is_tree" (top 50)
 d26:DP K mg "need_state" (top 30)
 d27:DP K mg "began" (top 33)
 d28:DP K mg "_law_told" (top 52)
 d29:DP K mg "_law_branch" (top 48)
 d30:DP K mg "_law_leaf" (top 49)
 d31:DP K mg "law" (top 53)
 ValueError_:mg "ValueError"=el
 all_:mg "all"=el
 bool_:mg "bool"=el
 dict_:mg "dict"=el
 enumerate_:mg "enumerate"=el
 int_:mg "int"=el
 isinstance_:mg "isinstance"=el
 len_:mg "len"=el
 list_:mg "list"=el
 range_:mg "range"=el
 set_:mg "set"=el
 sorted_:mg "sorted"=el
 tuple_:mg "tuple"=el
 zip_:mg "zip"=el
 MOST_FOR_SETS_:∃t,mg "MOST_FOR_SETS"=cz (.int 7 t)
 r_NoState:∃C,b3N K "NoState" C
 r_Unfit:∃C,b3N K "Unfit" C
 pe:∃C,bN K ba "ProbeError"=cz (cz (.ref C))/\Lx.all (a3j K C)=fx
 i_NoState:∃C,mg "NoState"=cz (.ref C)/\ExcN K (.ref C) Lx (λn=>n=="NoState")
 i_Unfit:∃C,mg "Unfit"=cz (.ref C)/\ExcN K (.ref C) Lx (λn=>n=="Unfit")
 i_ValueError:ExcN K (.type "ValueError") Lx (λ_=>fx)
 t_0:∃C0 C1 C2 C3 C4,mg "NoMachine"=cz (.ref C0)/\mg "NoProbe"=cz (.ref C1)/\mg "NoAnswers"=cz (.ref C2)/\mg "NoSize"=cz (.ref C3)/\mg "TooMuch"=cz (.ref C4)/\ExcT K [C0,C1,C2,C3,C4] Lx (λ_=>p4)
 t_1:∃C0 C1 C2 C3 C4,mg "Unsteady"=cz (.ref C0)/\mg "Ended"=cz (.ref C1)/\mg "NoText"=cz (.ref C2)/\mg "NoRow"=cz (.ref C3)/\mg "NoName"=cz (.ref C4)/\ExcT K [C0,C1,C2,C3,C4] Lx (λ_=>p4)
structure Bk (P:br) (w:bK) (K:af) (mg:bt->Option ai) (base:bL):Prop extends Bn K mg
variable {P:br}{w:bK}{K:af}{mg:bt->Option ai}{base:bL}
abbrev HB(_:Bk P w K mg base):=Has P w K mg base
abbrev HR(_:Bk P w K mg base):=HasR P w K mg base
def c3e:(["_law_t","_law_many","_law_rows","_law_cell"]:List bt).Nodup:=by decide +kernel
def c3f:(["state","states"]:List bt).Nodup:=by decide +kernel
def c3g:(["held","state"]:List bt).Nodup:=by decide +kernel
def c3h:(["part","found"]:List bt).Nodup:=by decide +kernel
def c3i:(["thing","newer"]:List bt).Nodup:=by decide +kernel
def c3j:(["part"]:List bt).Nodup:=by decide +kernel
def c1M:(["_law_answer_here","_law_rest"]:List bt).Nodup:=by decide +kernel
def c3k:(["_law_row"]:List bt).Nodup:=by decide +kernel
def b_law_cell_at:EvS:=(i5 (sIf (tB (e2 dLt (b7 1) (eCl G6 (b8 (b7 0) g8)))) (m9 (e2 w6 (b7 0) (b7 1))) p8) (m9 (eC (.int 0))))
def m_law_cell_at:=fnD [.f,.i] 0 b_law_cell_at
abbrev Z7(B:Bk P w K mg base)(k:Nat):=HB B "_law_cell_at" k ["_law_script","_law_k"] (spD K 2 m_law_cell_at .i)
def ok_law_cell_at(B:Bk P w K mg base):Z7 B 1:=
 n4 B.d0 λ_ _ F=>fnF F ["_law_script","_law_k"] λ_ _ _ _ _ _ _ _=>by exact c7 (o6 (l8 a4o (i4 1) (F6 B.len_ (c6 0))) (e6 (k7 (b9 (p7 (c6 0) (i4 1))))) m8) (e6 (k7 (b9 c8)))
def b_law_cells:EvS:=(i5 (k9 2 (M3 g8)) (i5 (k9 3 (eC (.int 48271))) (i5 (M6 (iR (b7 1)) (E7 4) (i5 (k9 5 (e2 A9 (eCl m_law_cell_at (b8 (b7 0) (b8 (b7 4) g8))) (e2 a2D (eC (.int 10)) (eC (.int 64))))) (i5 (k9 3 (e2 A9 (e2 y7 (e2 y7 (e2 y7 (e2 L9 (b7 3) (eC (.int 69621))) (e2 L9 (b7 5) (eC (.int 40014)))) (e2 L9 (b7 4) (b7 4))) (eC (.int 1))) (eC (.int 2147483563)))) (sIf (tB (e2 dLt (b7 4) (eCl G6 (b8 (b7 0) g8)))) (N9 2 (.l .i) B1 (b7 5)) (N9 2 (.l .i) B1 (b7 3)))))) (m9 (b7 2)))))
def m_law_cells:=fnD [.f,.i] 4 b_law_cells
abbrev X4(B:Bk P w K mg base)(k:Nat):=HB B "_law_cells" k ["_law_script","_law_many"] (spD K 2 m_law_cells (.l .i))
def ok_law_cells(B:Bk P w K mg base)(iS:Z7 B 1):X4 B 2:=
 n4 B.d1 λ_ _ F=>fnF F ["_law_script","_law_many","_law_found","_law_number","_law_k","_law_cell"] λsc _ _ _ _ _ _ hr=>by exact c7 (j8 2 sc.nd (b9 (B8 (n:=0) m5))) (c7 (j8 3 sc.nd (b9 c8)) (c7 (K0 rfl b_ (F8 B.range_ (i4 1)) (B2 4 sc.nd) Q1 a7V (PSsX.weak (c7 (j8 5 sc.nd (b9 (j5 u4 (A0 iS hr (e7 (c6 0) (e7 (i4 4) l5))) (j5 a1k c8 c8)))) (c7 (j8 3 sc.nd (b9 (j5 u4 (j5 z7 (j5 z7 (j5 z7 (j5 L5 (i4 3) c8) (j5 L5 (i4 5) c8)) (j5 L5 (i4 4) (i4 4))) c8) c8))) (e6 (o6 (l8 a4o (i4 4) (F6 B.len_ (c6 0))) (e6 (T7 2 (M7 2) (b9 (PX.newi (i4 5))) a0B)) (e6 (T7 2 (M7 2) (b9 (PX.newi (i4 3))) a0B)))))) m6 ((m3 4).trans (m3 5)))) (e6 (k7 (T5 2)))))
def b_law_copied:EvS:=(i5 (k9 3 (M3 g8)) (i5 (M6 (iR (b7 1)) (E7 4) (sIf (tB (e2 dLt (b7 4) (b7 2))) (N9 3 (.l .i) B1 (e2 A9 (e2 y7 (b7 4) (e2 V5 (e2 w6 (b7 0) (eC (.int 0))) (eC (.int 1000)))) (b7 2))) (N9 3 (.l .i) B1 (e2 A9 (e2 w6 (b7 0) (e2 y7 (eC (.int 3)) (b7 4))) (b7 2))))) (i5 (sIf (tB (e2 dEq (e2 A9 (e2 V5 (e2 w6 (b7 0) (eC (.int 1))) (eC (.int 20))) (eC (.int 2))) (eC (.int 1)))) (b9g 3) p8) (m9 (b7 3)))))
def m_law_copied:=fnD [.f,.i,.i] 2 b_law_copied
abbrev a0N(B:Bk P w K mg base)(k:Nat):=HB B "_law_copied" k ["_law_xs","_law_n","_law_many"] (spD K 3 m_law_copied (.l .i))
def ok_law_copied(B:Bk P w K mg base):a0N B 1:=
 n4 B.d2 λ_ _ F=>fnF F ["_law_xs","_law_n","_law_many","_law_rows","_law_s"] λsc _ _ _ _ _ _ hr=>by exact c7 (j8 3 sc.nd (b9 (B8 (n:=0) m5))) (c7 (K0 rfl b_ (F8 B.range_ (i4 1)) (B2 4 sc.nd) Q1 a7V (PSsX.weak (e6 (o6 (l8 a4o (i4 4) (i4 2)) (e6 (T7 3 (M7 3) (b9 (j5 u4 (j5 z7 (i4 4) (j5 L6 (p7 (c6 0) c8) c8)) (i4 2))) a0B)) (e6 (T7 3 (M7 3) (b9 (j5 u4 (p7 (c6 0) (j5 z7 c8 (i4 4))) (i4 2))) a0B)))) m6 (m3 4))) (c7 (o6 (l8 D3 (j5 u4 (j5 L6 (p7 (c6 0) c8) c8) c8) c8) (e6 (b9i 3)) m8) (e6 (k7 (T5 3)))))
def b_law_answer:EvS:=(i5 (k9 2 (e2 a3S (e2 A9 (e2 V5 (e2 w6 (b7 1) (eC (.int 2))) (eC (.int 1000))) (e2 a3S (e2 L9 (eC (.int 2)) (e2 a2D (eC (.int 10)) (eC (.int 60)))) (eC (.int 2)))) (e2 a3S (e2 a2D (eC (.int 10)) (eC (.int 60))) (eC (.int 1))))) (i5 (sIf (tB (e2 dEq (e2 A9 (e2 V5 (e2 w6 (b7 1) (eC (.int 1))) (eC (.int 5))) (eC (.int 4))) (eC (.int 1)))) (m9 (e2 y7 (b7 2) (e2 A9 (b7 0) (eC (.int 2))))) p8) (i5 (sIf (tB (e2 dEq (e2 A9 (e2 V5 (e2 w6 (b7 1) (eC (.int 1))) (eC (.int 5))) (eC (.int 4))) (eC (.int 2)))) (m9 (e2 a3S (e2 A9 (b7 0) (eC (.int 3))) (eC (.int 1)))) p8) (i5 (sIf (tB (e2 dEq (e2 A9 (e2 V5 (e2 w6 (b7 1) (eC (.int 1))) (eC (.int 5))) (eC (.int 4))) (eC (.int 3)))) (m9 (e2 a3S (e2 A9 (b7 0) (e2 a3S (e2 L9 (eC (.int 2)) (e2 a2D (eC (.int 10)) (eC (.int 60)))) (eC (.int 1)))) (e2 a3S (e2 a2D (eC (.int 10)) (eC (.int 60))) (eC (.int 1))))) p8) (m9 (e2 A9 (b7 0) (eC (.int 2))))))))
def m_law_answer:=fnD [.i,.f] 1 b_law_answer
abbrev a0O(B:Bk P w K mg base)(k:Nat):=HB B "_law_answer" k ["_law_number","_law_xs"] (spD K 2 m_law_answer .i)
def ok_law_answer(B:Bk P w K mg base):a0O B 1:=
 n4 B.d3 λ_ _ F=>fnF F ["_law_number","_law_xs","_law_low"] λsc _ _ _ _ _ _ hr=>by exact c7 (j8 2 sc.nd (b9 (j5 W4 (j5 u4 (j5 L6 (p7 (c6 1) c8) c8) (j5 W4 (j5 L5 c8 (j5 a1k c8 c8)) c8)) (j5 W4 (j5 a1k c8 c8) c8)))) (c7 (o6 (l8 D3 (j5 u4 (j5 L6 (p7 (c6 1) c8) c8) c8) c8) (e6 (k7 (b9 (j5 z7 (i4 2) (j5 u4 (i4 0) c8))))) m8) (c7 (o6 (l8 D3 (j5 u4 (j5 L6 (p7 (c6 1) c8) c8) c8) c8) (e6 (k7 (b9 (j5 W4 (j5 u4 (i4 0) c8) c8)))) m8) (c7 (o6 (l8 D3 (j5 u4 (j5 L6 (p7 (c6 1) c8) c8) c8) c8) (e6 (k7 (b9 (j5 W4 (j5 u4 (i4 0) (j5 W4 (j5 L5 c8 (j5 a1k c8 c8)) c8)) (j5 W4 (j5 a1k c8 c8) c8))))) m8) (e6 (k7 (b9 (j5 u4 (i4 0) c8)))))))
def b_law_machine:EvS:=(i5 (k9 3 (eCl m_law_cells (b8 (b7 0) (b8 (eC (.int 3)) g8)))) (i5 (k9 4 (e2 y7 (eC (.int 1)) (e2 A9 (e2 M4 (b7 3) (eC (.int 0))) (b7 1)))) (i5 (sIf (tB (e2 dEq (e2 A9 (e2 V5 (e2 M4 (b7 3) (eC (.int 0))) (b7 1)) (eC (.int 8))) (eC (.int 3)))) (k9 4 (e2 y7 (eC (.int 1)) (e2 A9 (e2 V5 (e2 M4 (b7 3) (eC (.int 0))) (e2 L9 (eC (.int 8)) (b7 1))) (b7 2)))) p8) (i5 (k9 5 (e2 y7 (eC (.int 1)) (e2 A9 (e2 M4 (b7 3) (eC (.int 1))) (eC (.int 5))))) (i5 (k9 6 (b7 4)) (i5 (sIf (tB (e2 dEq (e2 A9 (e2 M4 (b7 3) (eC (.int 2))) (eC (.int 4))) (eC (.int 3)))) (k9 6 (e2 y7 (eC (.int 1)) (e2 A9 (e2 V5 (e2 M4 (b7 3) (eC (.int 2))) (eC (.int 4))) (b7 4)))) p8) (i5 (k9 7 (eCl m_law_cells (b8 (b7 0) (b8 (e2 y7 (e2 y7 (eC (.int 3)) (b7 4)) (e2 L9 (e2 L9 (eC (.int 2)) (b7 4)) (b7 5))) g8)))) (i5 (k9 8 (eCl m_law_copied (b8 (b7 7) (b8 (b7 4) (b8 (b7 6) g8))))) (i5 (k9 9 (M3 g8)) (i5 (M6 (iR (b7 4)) (E7 10) (i5 (k9 11 (M3 g8)) (i5 (M6 (iR (b7 5)) (E7 12) (i5 (k9 13 (e2 M4 (b7 7) (e2 y7 (e2 y7 (e2 y7 (eC (.int 3)) (b7 4)) (e2 L9 (e2 M4 (b7 8) (b7 10)) (b7 5))) (b7 12)))) (i5 (k9 14 (r9 (iR (b7 4)) [6,8,13] pt1 (tB (e2 dEq (e2 M4 (b7 2) (b7 0)) (e2 A9 (b7 3) (b7 1)))) (b7 0))) (i5 (k9 15 (e2 M4 (b7 7) (e2 y7 (e2 y7 (e2 y7 (e2 y7 (eC (.int 3)) (b7 4)) (e2 L9 (b7 4) (b7 5))) (e2 L9 (b7 10) (b7 5))) (b7 12)))) (N9 11 (.l .i) B1 (J9 (b8 (eCl m_law_answer (b8 (e2 V5 (b7 13) (b7 6)) (b8 (b7 7) g8))) (b8 (e2 M4 (b7 14) (e2 A9 (b7 15) (eCl G6 (b8 (b7 14) g8)))) g8)))))))) (N9 9 (.l (.l .i)) B1 (b7 11))))) (m9 (b7 9))))))))))))
def m_law_machine:=fnD [.f,.i,.i] 13 b_law_machine
abbrev Z8(B:Bk P w K mg base)(k:Nat):=HB B "_law_machine" k ["_law_script","_law_small","_law_large"] (spD K 3 m_law_machine (.l (.l .i)))
def ok_law_machine(B:Bk P w K mg base)(fR:X4 B 2)(jc:a0N B 2)(je:a0O B 2):Z8 B 3:=
 n4 B.d4 λ_ _ F=>fnF F ["_law_script","_law_small","_law_large","_law_first","_law_n","_law_asks","_law_many","_law_xs","_law_rows","_law_table","_law_s","_law_row","_law_a","_law_cell","_law_copies","_law_pick"] λsc _ _ _ _ _ _ hr=>by exact c7 (j8 3 sc.nd (b9 (A0 fR hr (e7 (c6 0) (e7 c8 l5))))) (c7 (j8 4 sc.nd (b9 (j5 z7 c8 (j5 u4 (L7 (J1 3) c8) (i4 1))))) (c7 (o6 (l8 D3 (j5 u4 (j5 L6 (L7 (J1 3) c8) (i4 1)) c8) c8) (e6 (j8 4 sc.nd (b9 (j5 z7 c8 (j5 u4 (j5 L6 (L7 (J1 3) c8) (j5 L5 c8 (i4 1))) (i4 2)))))) m8) (c7 (j8 5 sc.nd (b9 (j5 z7 c8 (j5 u4 (L7 (J1 3) c8) c8)))) (c7 (j8 6 sc.nd (b9 (PX.newi (i4 4)))) (c7 (o6 (l8 D3 (j5 u4 (L7 (J1 3) c8) c8) c8) (e6 (j8 6 sc.nd (b9 (j5 z7 c8 (j5 u4 (j5 L6 (L7 (J1 3) c8) c8) (i4 4)))))) m8) (c7 (j8 7 sc.nd (b9 (A0 fR hr (e7 (c6 0) (e7 (j5 z7 (j5 z7 c8 (i4 4)) (j5 L5 (j5 L5 c8 (i4 4)) (i4 5))) l5))))) (c7 (j8 8 sc.nd (b9 (A0 jc hr (e7 (J1 7) (e7 (i4 4) (e7 (i4 6) l5)))))) (c7 (j8 9 sc.nd (b9 (B8 (n:=0) m5))) (c7 (K0 rfl b_ (F8 B.range_ (i4 4)) (B2 10 sc.nd) Q1 a7V (PSsX.weak (c7 (j8 11 sc.nd (b9 (B8 (n:=0) m5))) (c7 (K0 rfl b_ (F8 B.range_ (i4 5)) (B2 12 sc.nd) Q1 a7V (PSsX.weak (c7 (j8 13 sc.nd (b9 (PX.newi (L7 (J1 7) (j5 z7 (j5 z7 (j5 z7 c8 (i4 4)) (j5 L5 (L7 (J1 8) (i4 10)) (i4 5))) (i4 12)))))) (c7 (a0j 14 sc.nd rfl (tn:=["_law_t"]) (ys:=["_law_many","_law_rows","_law_cell"]) (F8 B.range_ (i4 4)) rfl (λ_ _ _ _ _=>B0 (i:=0) c3e rfl (eK rfl) (.inr rfl)) T4 (.inl rfl) b7a rfl (λ_ _ _ _ _=>b2x (l8 D3 (L7 (J1 2) (i4 0)) (j5 u4 (i4 3) (i4 1)))) (λ_ _ _ _ _=>(PX.newi (i4 0)))) (c7 (j8 15 sc.nd (b9 (PX.newi (L7 (J1 7) (j5 z7 (j5 z7 (j5 z7 (j5 z7 c8 (i4 4)) (j5 L5 (i4 4) (i4 5))) (j5 L5 (i4 10) (i4 5))) (i4 12)))))) (e6 (T7 11 (M7 11) (b9 (O8 (n:=2) (j6 (A0 je hr (e7 (j5 L6 (i4 13) (i4 6)) (e7 (J1 7) l5))) (j6 (PX.newi (L7 (J1 14) (j5 u4 (i4 15) (F6 B.len_ (J1 14))))) m5)))) a0B))))) m6 ((((m3 12).trans (m3 13)).trans (m3 14)).trans (m3 15)))) (e6 (T7 9 (M7 9) (T5 11) a0B)))) m6 (m3 10))) (e6 (k7 (T5 9))))))))))))
def b_law_set:EvS:=(i5 (k9 2 (M3 g8)) (i5 (M6 (iR (b7 1)) (E7 3) (i5 (sIf (tB (e2 dEq (e2 A9 (b7 0) (eC (.int 2))) (eC (.int 1)))) (N9 2 (.l .i) B1 (b7 3)) p8) (k9 0 (e2 V5 (b7 0) (eC (.int 2)))))) (i5 (sIf (tB (e2 dEq (b7 2) (M3 g8))) (m9 (M3 (b8 (e2 a3S (b7 1) (eC (.int 1))) g8))) p8) (m9 (b7 2)))))
def m_law_set:=fnD [.i,.i] 2 b_law_set
abbrev a4O(B:Bk P w K mg base)(k:Nat):=HB B "_law_set" k ["_law_cell","_law_n"] (spD K 2 m_law_set (.l .i))
def ok_law_set(B:Bk P w K mg base):a4O B 1:=
 n4 B.d5 λ_ _ F=>fnF F ["_law_cell","_law_n","_law_some","_law_s"] λsc _ _ _ _ _ _ hr=>by exact c7 (j8 2 sc.nd (b9 (B8 (n:=0) (u:=.i) m5))) (c7 (K0 rfl b_ (F8 B.range_ (i4 1)) (B2 3 sc.nd) Q1 a7V (PSsX.weak (c7 (o6 (l8 D3 (j5 u4 (i4 0) c8) c8) (e6 (T7 2 (u:=(.l .i)) (M7 2 (u:=(.l .i))) (b9 (PX.newi (i4 3))) a0B)) m8) (e6 (j8 0 sc.nd (b9 (j5 L6 (i4 0) c8))))) m6 (m3 3))) (c7 (o6 (l8 D3 (J1 2) (B8 (n:=0) (u:=.i) m5)) (e6 (k7 (b9 (B8 (n:=1) (u:=.i) (j6 (u:=.i) (j5 W4 (i4 1) c8) m5))))) m8) (e6 (k7 (T5 2 (u:=(.l .i)))))))
def P5:EvS:=(sIf (tB (e2 dGt (eCl G6 (b8 (b7 0) g8)) (eC (.int 7)))) sNo p8)
def B3:=fnN [.f] 0 P5
abbrev P6(B:Bk P w K mg base)(k:Nat):=HB B "need_few_states" k ["machine"] (spD K 1 B3 .i)
def a0m(B:Bk P w K mg base):P6 B 1:=
 n4 B.d6 λ_ _ F=>b9y F ["machine"] [.own .f] λ_ _ _ _ _ _ _ _=>by exact e6 (o6 (l8 c0C (F6 B.len_ (c6 0)) (b5t B.MOST_FOR_SETS_)) (e6 (a6u)) m8)
def V1:EvS:=(m9 (a2E (e1 (λd=>cz (.bool (isList d))) (b7 0)) (eCh dLe dLe (eC (.int 1)) (eCl G6 (b8 (b7 0) g8)) (b7 1))))
def E2:=fnD [.f,.i] 0 V1
abbrev V2(B:Bk P w K mg base)(k:Nat):=HB B "is_list_up_to" k ["thing","most"] (spD K 2 E2 .i)
def a1y(B:Bk P w K mg base):V2 B 1:=
 n4 B.d7 λ_ _ F=>fnF F ["thing","most"] λ_ _ _ _ _ _ _ _=>by exact e6 (k7 (b9 (a0i (L8 a6n B.isinstance_ B.list_ PyProof.Rows.Boot.«list» (c6 0)) (a1n (a6k a6j a6j c8 (F6 B.len_ (c6 0)) (i4 1))))))
def a3p:EvS:=(m9 (a2E (e1 (λd=>cz (.bool (isInt d))) (b7 0)) (b2p (e1 (λd=>cz (.bool (isBool d))) (b7 0)))))
def O1:=fnD [.f] 0 a3p
abbrev a3q(B:Bk P w K mg base)(k:Nat):=HB B "is_whole" k ["thing"] (spD K 1 O1 .i)
def a7i(B:Bk P w K mg base):a3q B 1:=
 n4 B.d8 λ_ _ F=>fnF F ["thing"] λ_ _ _ _ _ _ _ _=>by exact e6 (k7 (b9 (a0i (L8 a9n B.isinstance_ B.int_ PyProof.Rows.Boot.«int» (c6 0)) (a1n (b2q (L8 a6m B.isinstance_ B.bool_ PyProof.Rows.Boot.«bool» (c6 0)))))))
def a0n:EvS:=(m9 (a2E (eCl O1 (b8 (b7 0) g8)) (eCh dLe dLt (eC (.int 0)) (b7 0) (b7 1))))
def p5:=fnD [.f,.i] 0 a0n
abbrev U3(B:Bk P w K mg base)(k:Nat):=HB B "is_below" k ["thing","bound"] (spD K 2 p5 .i)
def a7j(B:Bk P w K mg base)(ki:a3q B 1):U3 B 2:=
 n4 B.d9 λ_ _ F=>fnF F ["thing","bound"] λ_ _ _ _ _ _ _ hr=>by exact e6 (k7 (b9 (a0i (A0 ki hr (e7 (c6 0) l5)) (a1n (a6k a6j a4o c8 (c6 0) (i4 1))))))
def a7k:EvS:=(m9 (a2E (eCl E2 (b8 (b7 0) (b8 (b7 1) g8))) (a2E (eCl b0u (b8 (r9 (iI (iL (b7 0))) [1] pt1 tT (eCl p5 (b8 (b7 0) (b8 (b7 1) g8)))) g8)) (e2 dEq (b7 0) (a0I (b7 0))))))
def a0P:=fnD [.f,.i] 0 a7k
abbrev a7l(B:Bk P w K mg base)(k:Nat):=HB B "is_set" k ["thing","states"] (spD K 2 a0P .i)
def b1v(B:Bk P w K mg base)(il:V2 B 2)(fD:U3 B 2):a7l B 3:=
 n4 B.d10 λ_ _ F=>fnF F ["thing","states"] λ_ _ _ _ _ _ _ hr=>by exact e6 (k7 (b9 (a0i (A0 il hr (e7 (c6 0) (e7 (i4 1) l5))) (a0i (a7M (b2u rfl) B.all_ PyProof.Rows.Boot.«all» (e7 (a0y rfl (tn:=["state"]) (ys:=["states"]) (PIX.i (A4 (PX.newf (c6 0)))) rfl (λ_ _ _ _ _=>B0 (i:=0) c3f rfl (eK rfl) (.inr rfl)) T4 (.inl rfl) a9q rfl (λ_ _ _ _ _=>Y0) (λ_ _ _ _ _=>(A0 fD hr (e7 (i4 0) (e7 (i4 1) l5))))) l5)) (a1n (a5s D3 (c6 0) (a8t rfl B.set_ B.sorted_ (c6 0))))))))
def a3r:EvS:=(sIf (tNo (tV (eCl a0P (b8 (b7 1) (b8 (eCl G6 (b8 (b7 0) g8)) g8))))) sNo p8)
def U4:=fnN [.f,.f] 0 a3r
abbrev a3s(B:Bk P w K mg base)(k:Nat):=HB B "need_set" k ["machine","thing"] (spD K 2 U4 .i)
def a7m(B:Bk P w K mg base)(ma:a7l B 3):a3s B 4:=
 n4 B.d11 λ_ _ F=>b9y F ["machine","thing"] [.own .f,.own .f] λ_ _ _ _ _ _ _ hr=>by exact e6 (o6 (A3 (r8 (A0 ma hr (e7 (c6 1) (e7 (F6 B.len_ (c6 0)) l5))))) (e6 (a6u)) m8)
def a4P:EvS:=(i5 (k9 1 (M3 (b8 (J9 g8) g8))) (i5 (M6 (iR (b7 0)) (E7 2) (k9 1 (eI (a3T (b7 1) (r9 (iI (iL (b7 1))) [2] pt1 tT (e2 a0J (b7 0) (J9 (b8 (b7 1) g8)))))))) (m9 (eI (eSl (b7 1) (oSo (eC (.int 1))) oNo)))))
def Y6:=fnD [.i] 2 a4P
abbrev a4Q(B:Bk P w K mg base)(k:Nat):=HB B "sets_of" k ["states"] (spD K 1 Y6 (.l .i))
def a8S(B:Bk P w K mg base):a4Q B 1:=
 n4 B.d12 λ_ _ F=>fnF F ["states","found","state"] λsc _ _ _ _ _ _ _=>by exact c7 (j8 1 sc.nd (b9 (B8 (n:=1) (j6 (O8 (n:=0) m5) m5)))) (c7 (K0 rfl b_ (F8 B.range_ (i4 0)) (B2 2 sc.nd) Q1 a7V (PSsX.weak (e6 (PSX.weak (j8 1 sc.nd (b9 (MkL.i (a7Q (PX.newf (c6 1)) (a0y rfl (tn:=["held"]) (ys:=["state"]) (m:=.i) (PIX.i (A4 (PX.newf (c6 1)))) rfl (λ_ _ _ _ _=>B0 (i:=0) c3g rfl (eK rfl) (.inr rfl)) T4 (.inl rfl) a9q rfl (λ_ _ _ _ _=>Y0) (λ_ _ _ _ _=>(b6d (i4 0) (O8 (n:=1) (j6 (PX.newi (i4 1)) m5))))))))) (E6 1) m6)) m6 (m3 2))) (e6 (k7 (b9 (MkL.i (a6q (J1 1) (a6p c8) a6o))))))
def V3:EvS:=(i5 (M6 (iEn (b7 0)) (a6t 2 3) (sIf (tAn (tB (e2 (J8 fx) (b7 3) (eC .none))) (tV (eCl b0u (b8 (r9 (iL (b7 3)) [1] pt1 tT (e2 (a5A p4 fx) (b7 0) (b7 1))) g8)))) (m9 (eIm (b7 2))) p8)) (m9 (eC .none)))
def u7:=fnD [.f,.f] 2 V3
abbrev V4(B:Bk P w K mg base)(k:Nat):=HB B "least_telling" k ["behind","found"] (spD K 2 u7 .i)
def a1z(B:Bk P w K mg base):V4 B 1:=
 n4 B.d13 λ_ _ F=>fnF F ["behind","found","ask","parts"] λsc _ _ _ _ _ _ hr=>by exact c7 (b5K (fi:=(iEn (b7 0))) rfl b_ (c2F B.enumerate_ (PX.newf (c6 0))) (a2v rfl (u8 (B2 2 sc.nd) (u8 (B2 3 sc.nd) O6))) (a7T (.inl rfl)) (λ_ _ _ _ _ e=>nomatch e) (λh=>h) (PSsX.weak (e6 (o6 (PWX.pt (a2j (l8 a5q (c6 3) v9) (a0w (r8 (a7M (b2u rfl) B.all_ PyProof.Rows.Boot.«all» (e7 (a0y rfl (tn:=["part"]) (ys:=["found"]) (A4 (PX.newf (c6 3))) rfl (λ_ _ _ _ _=>B0 (i:=0) c3h rfl (eK rfl) (.inr rfl)) T4 (.inr rfl) a9p rfl (λ_ _ _ _ _=>Y0) (λ_ _ _ _ _=>(b8Z (b2J (by exact hr.units)) (c6 0) (c6 1)))) l5)))))) (e6 (k7 (b9 (a5I (PX.newf (c6 2)))))) m8)) m6 ((m3 2).trans (m3 3)))) (e6 (k7 (b9 v9)))
def K1:(List D->Option D)->EvS:=λgm=>(i5 (k9 3 (eC (.dict []))) (i5 (M6 (iI (iL (b7 1))) (E7 4) (i5 (k9 5 (eCl gm (b8 (b7 4) (b8 (b7 0) g8)))) (sIf (tB (e2 (J8 fx) (b7 5) (eC .none))) (P4 3 fx (b7 4) (b7 5)) p8))) (m9 (b7 3))))
def p6:=fnL [.f,.f] 3 K1
abbrev R9(B:Bk P w K mg base)(k:Nat):=HB B "found_in_round" k ["found","left","tell"] (spL K 2 (λgm=>FnV P w K mg base 2 2 .i gm) p6 (.d fx .i))
def a0Q(B:Bk P w K mg base):R9 B 3:=
 n4 B.d14 λ_ _ F=>c1p F ["found","left","tell","newer","thing","told"] λsc gm _ _ _ _ _ _ hr=>by exact c7 (j8 3 sc.nd (b9 (a0D fx .i))) (c7 (K0 rfl b_ (PIX.i (A4 (PX.newf (c6 1)))) (B2 4 sc.nd) Q1 b5B (PSsX.weak (c7 (j8 5 sc.nd (b9 (b3i 2 (k:=2) (n:=2) (m:=gm) (hr.mono (by decide)) (e7 (i4 4) (e7 (c6 0) l5)) (hfl:=(i6 (i6 v6)))))) (e6 (o6 (l8 a5q (i4 5) v9) (e6 (a5x 3 (kt:=fx) (by exact hr.units) (i4 4) (b9 (PX.newi (i4 5))))) m8))) m6 ((m3 4).trans (m3 5)))) (e6 (k7 (T5 3))))
def J3:(List D->Option D)->EvS:=λgm=>(i5 (k9 3 (a5H (b7 0))) (i5 (k9 4 (b0W p6 gm (b8 (b7 3) (b8 (b7 1) g8)))) (i5 (sWh (λ_=>1000000) (tVD (b7 4)) (i5 (b0Q 3 4) (i5 (k9 1 (r9 (iI (iL (b7 1))) [4] pt1 (tB (e2 (dIn fx fx) (b7 0) (b7 1))) (b7 0))) (k9 4 (b0W p6 gm (b8 (b7 3) (b8 (b7 1) g8))))))) (m9 (b7 3)))))
def s9:=fnL [.f,.f] 2 J3
abbrev P7(B:Bk P w K mg base)(k:Nat):=HB B "found_in_rounds" k ["outset","left","tell"] (spL K 2 (λgm=>FnV P w K mg base 2 2 .i gm) s9 .f)
def a0o(B:Bk P w K mg base)(fZ:R9 B 3):P7 B 4:=
 n4 B.d15 λ_ _ F=>c1p F ["outset","left","tell","found","newer"] λsc gm _ _ _ _ _ _ hr=>by exact c7 (j8 3 sc.nd (b9 (b1g B.dict_ (PX.newf (c6 0))))) (c7 (j8 4 sc.nd (b9 (a9D (a4D (gm:=gm) fZ hr (R5 (a0h 3) (R5 (c6 1) (a9w 2))) (hfl:=(R4 (R4 a5D))))))) (c7 (a2M (λ_=>1000000) b_ (b2S (a0h 4)) (PSsX.weak (c7 (b0R 3 4 (by decide) (by exact hr.units)) (c7 (a0j 1 sc.nd rfl (tn:=["thing"]) (ys:=["newer"]) (PIX.i (A4 (PX.newf (c6 1)))) rfl (λ_ _ _ _ _=>B0 (i:=0) c3i rfl (eK rfl) (.inr rfl)) T4 (.inl rfl) a9q rfl (λ_ _ _ _ _=>b2x (b5P 1 (a4x (by exact hr.units)) (i4 0))) (λ_ _ _ _ _=>(PX.newi (i4 0)))) (e6 (j8 4 sc.nd (b9 (a9D (a4D (gm:=gm) fZ hr (R5 (a0h 3) (R5 (J1 1) (a9w 2))) (hfl:=(R4 (R4 a5D)))))))))) m6 (E6 1))) (e6 (PSX.weak (k7 (b9 (PX.newf (c6 3)))) (E6 3) m6))))
def a4R:EvS:=(m9 (eCl G6 (b8 (e2 dIx (b7 0) (eC (.int 0))) g8)))
def S6:=fnD [.f] 0 a4R
abbrev a4S(B:Bk P w K mg base)(k:Nat):=HB B "asks_of" k ["machine"] (spD K 1 S6 .i)
def a8T(B:Bk P w K mg base):a4S B 1:=
 n4 B.d16 λ_ _ F=>fnF F ["machine"] λ_ _ _ _ _ _ _ _=>by exact e6 (k7 (b9 (F6 B.len_ (u5 (PX.newf (c6 0)) c8))))
def a1Z:EvS:=(i5 (k9 3 (eC (.dict []))) (i5 (M6 (iI (iIt (b7 1))) (a6t 4 5) (i5 (k9 6 (e2 w6 (e2 dIx (b7 0) (b7 4)) (b7 2))) (i5 (a3h 3 p4 p4 (e2 w6 (b7 6) (eC (.int 0))) (e2 w6 (b7 6) (eC (.int 1))) (eC .none) (b7 5)) p8))) (m9 (b7 3))))
def A1:=fnD [.f,.f,.i] 5 a1Z
abbrev X5(B:Bk P w K mg base)(k:Nat):=HB B "parted_by" k ["machine","begun","ask"] (spD K 3 A1 .f)
def a5P(B:Bk P w K mg base):X5 B 1:=
 n4 B.d17 λ_ _ F=>fnF F ["machine","begun","ask","found","state","start","step","part"] λsc _ _ _ _ _ _ hr=>by exact c7 (j8 3 sc.nd (b9 (a0D p4 (.d p4 .i)))) (c7 (b3B (fi:=(iI (iIt (b7 1)))) rfl b_ (c2L (PX.newf (c6 1))) (a2v rfl (u8 (B2 4 sc.nd) (u8 (B2 5 sc.nd) O6))) (a7T (.inr rfl)) (λU ds h d hd _=>b5B U ds h d hd) b8X (PSsX.weak (M2:=[mdF,mdF,mdI,.own (.d p4 (.d p4 .i)),mdI,mdI,mdI,mdD]) (c7 (j8 6 sc.nd (b9 (p7 (u5 (PX.newf (c6 0)) (i4 4)) (i4 2)))) (b3H 3 7 (kt2:=p4) (fr:=(eC .none)) (by exact hr.units) sc.nd (p7 (i4 6) c8) (p7 (i4 6) c8) (p7 (i4 6) c8) (M2:=[mdF,mdF,mdI,.own (.d p4 (.d p4 .i)),mdI,mdI,mdI,mdD]) (k7 (b9 (PX.itof v9))) (PX.newi (i4 5)) m8)) m6 (((m3 4).trans (m3 5)).trans (m3 6)))) (e6 (PSX.weak (k7 (b9 (PX.newf (c6 3)))) (E6 3) m6)))
def Z9:EvS:=(i5 (k9 2 (M3 g8)) (i5 (M6 (iR (eCl S6 (b8 (b7 0) g8))) (E7 3) (i5 (k9 4 (eCl A1 (b8 (b7 0) (b8 (L3 p4 (b7 1) (b7 1)) (b8 (b7 3) g8))))) (N9 2 (.l .f) B1 (eIf (tB (e2 (J8 p4) (b7 4) (eC .none))) (eC .none) (r9 (iVa (b7 4)) [] pt1 tT (U9 (D9 (b7 0)))))))) (m9 (b7 2))))
def A6:=fnD [.f,.i] 3 Z9
abbrev a0a(B:Bk P w K mg base)(k:Nat):=HB B "sets_behind" k ["machine","states"] (spD K 2 A6 (.l .f))
def a3t(B:Bk P w K mg base)(kW:a4S B 1)(gu:X5 B 1):a0a B 2:=
 n4 B.d18 λ_ _ F=>fnF F ["machine","states","found","ask","parts"] λsc _ _ _ _ _ _ hr=>by exact c7 (j8 2 sc.nd (b9 (B8 (n:=0) m5))) (c7 (K0 rfl b_ (F8 B.range_ (A0 kW hr (e7 (c6 0) l5))) (B2 3 sc.nd) Q1 a7V (PSsX.weak (c7 (j8 4 sc.nd (b9 (by exact z9 gu hr (l0 (PX.newf (c6 0)) (l0 (PX.frz (a3g p4 rfl (by exact hr.units) B.dict_ B.zip_ (PX.newi (i4 1)) (PX.newi (i4 1)))) (l0 (PX.newi (i4 3)) (C7)))) (hfl:=(i6 (i6 (i6 v6))))))) (e6 (T7 2 (M7 2) (b9 (PX.frz (b2r (l8 a1l (c6 4) v9) (PX.itol v9) (by exact a0y rfl (tn:=["part"]) (ys:=[]) (m:=.f) (b3I (PX.newf (c6 4))) rfl (λ_ _ _ _ _=>B0 (i:=0) c3j rfl (eK rfl) (.inr rfl)) T4 (.inr rfl) a9p rfl (λ_ _ _ _ _=>Y0) (λ_ _ _ _ _=>(a2K B.tuple_ (a1w rfl B.sorted_ (c6 0)))))))) a0B))) m6 ((m3 3).trans (m3 4)))) (e6 (k7 (T5 2))))
def a0R:EvS:=(i5 (k9 1 (eC (.dict []))) (i5 (k9 2 (eC (.dict []))) (i5 (M6 (iI (iL (eCl Y6 (b8 (eCl G6 (b8 (b7 0) g8)) g8)))) (E7 3) (sIf (tB (e2 dEq (eCl G6 (b8 (b7 3) g8)) (eC (.int 1)))) (P4 1 fx (b7 3) (eC .none)) (P4 2 fx (b7 3) (eCl A6 (b8 (b7 0) (b8 (b7 3) g8)))))) (m9 (b5X s9 [.i,.f] [2] (eCl u7 (b8 (e2 (a1t fx) (b7 2) (b7 0)) (b8 (b7 1) g8))) (b8 (b7 1) (b8 (a8A (b7 2)) g8)))))))
def J4:=fnD [.f] 3 a0R
abbrev a0S(B:Bk P w K mg base)(k:Nat):=HB B "least_asks" k ["machine"] (spD K 1 J4 .f)
def a3Y(B:Bk P w K mg base)(kT:a4Q B 4)(gH:P7 B 4)(iP:a0a B 4)(lK:V4 B 1)(LT:(D0 K "least_asks").isSome=fx)(KB:K.In base)(GB:base.Ns ba mg):a0S B 5:=
 b6j B.d19 λ_ _ F a=>c2R F ["machine","outset","behind","states"] LT KB GB a λsc _ _ xg xx xc A outer s H _ hr=>by exact c7 (j8 1 sc.nd (b9 (a0D fx .i))) (c7 (j8 2 sc.nd (b9 (a0D fx (.l .f)))) (c7 (K0 rfl b_ (PIX.i (A4 (PX.frz (A0 kT hr (e7 (F6 B.len_ (c6 0)) l5))))) (B2 3 sc.nd) Q1 b5B (PSsX.weak (e6 (o6 (l8 D3 (F6 B.len_ (i4 3)) c8) (e6 (a5x 1 (by exact hr.units) (i4 3) (b9 v9))) (e6 (a5x 2 (by exact hr.units) (i4 3) (b9 (by exact z9 iP hr (l0 (PX.newf (c6 0)) (l0 (PX.newi (i4 3)) (C7))) (hfl:=(i6 (i6 v6))))))))) m6 (m3 3))) (e6 (PSX.weak (b6e rfl (by exact a6S (kf:=1) (uf:=.i) (N:=["states","found","behind"]) (pl:=["states","found"]) (ys:=["behind"]) gH hr (R5 (c6 1) (R5 (b3J rfl B.list_ (c6 2)) (b5W (by decide) xx xg xc rfl))) ⟨_,_,_,rfl,rfl,rfl,rfl,rfl,rfl⟩ ⟨⟨_,rfl⟩,trivial⟩ (by exact⟨rfl,rfl,rfl,by decide +kernel,rfl,by decide +kernel,by decide +kernel,by decide +kernel,rfl⟩) rfl (λ_ _ _ us hl=>by obtain⟨_,_,rfl⟩:=VS.b3d hl;rfl) (λfa c A outer s H hr=>A0 lK hr (e7 (a5B (by exact hr.units) (PX.newf (c6 2)) (i4 0)) (e7 (c6 1) l5))) (hfl:=(R4 (R4 a5D))))) ((E6 1).trans (E6 2)) m6))))
def a5Q(rc:List D->Option D):EvS:=(i5 (sIf (tB (e2 dEq (eCl b2I (b8 (b7 2) g8)) (eC (.int 1)))) (m9 (e2 w6 (a5z (b7 2)) (eC (.int 0)))) p8) (i5 (k9 3 (e2 (a1t fx) (b7 1) (U9 (D9 (b7 2))))) (i5 (k9 4 (eCl A1 (b8 (b7 0) (b8 (b7 2) (b8 (b7 3) g8))))) (i5 (k9 5 (M3 g8)) (i5 (M6 (iI (iL (D9 (b7 4)))) (E7 6) (N9 5 (.l .f) B1 (J9 (b8 (b7 6) (b8 (eCl rc (b8 (b7 0) (b8 (b7 1) (b8 (e2 (a1t p4) (b7 4) (b7 6)) g8)))) g8))))) (m9 (J9 (b8 (b7 3) (b8 (b7 5) g8)))))))))
def M9:Nat->List D->Option D
 |0=>λ_=>el
 |n+1=>fnD [.f,.f,.f] 4 (a5Q (M9 n))
abbrev b6r(B:Bk P w K mg base)(k:Nat):=HB B "grown" k ["machine","asks","begun"] (spD K 3 (M9 121) .f)
def b4h(B:Bk P w K mg base)(nO:X5 B 1):∀n:Nat,Has P w K mg base "grown" (2+n) ["machine","asks","begun"] (spD K 3 (M9 n) .f):=by
 intro n
 induction n with
 |zero=>exact n4 B.d20 λ_ _ _=>a5E
 |succ n kG=>
  have gu:=nO.up (show 1<=2+n by lia);exact n4 B.d20 λ_ _ F=>fnF F ["machine","asks","begun","ask","parts","branches","answer"] λsc _ _ _ _ _ _ hr=>by exact c7 (o6 (l8 D3 (b3K B.len_ (c6 2)) c8) (e6 (k7 (b9 (PX.itof (p7 (b2P rfl B.list_ (c6 2)) c8))))) m8) (c7 (j8 3 sc.nd (b9 (a5B (kt:=fx) (by exact hr.units) (PX.newf (c6 1)) (a2K B.tuple_ (a1w rfl B.sorted_ (c6 2)))))) (c7 (j8 4 sc.nd (b9 (by exact z9 gu hr (l0 (PX.newf (c6 0)) (l0 (PX.newf (c6 2)) (l0 (PX.newf (c6 3)) (C7)))) (hfl:=(i6 (i6 (i6 v6))))))) (c7 (j8 5 sc.nd (b9 (B8 (n:=0) m5))) (c7 (K0 rfl b_ (PIX.i (A4 (PX.frz (a1w rfl B.sorted_ (c6 4))))) (B2 6 sc.nd) Q1 b5B (PSsX.weak (e6 (T7 5 (M7 5) (b9 (PX.frz (a2H (j6 (PX.newi (i4 6)) (j6 (by exact z9 kG hr (l0 (PX.newf (c6 0)) (l0 (PX.newf (c6 1)) (l0 (a5B (kt:=p4) (by exact hr.units) (PX.newf (c6 4)) (i4 6)) (C7)))) (hfl:=(i6 (i6 (i6 v6))))) m5))))) a0B)) m6 (m3 6))) (e6 (PSX.weak (k7 (b9 (PX.frz (a2H (j6 (PX.newf (c6 3)) (j6 (PX.newf (c6 5)) m5)))))) (E6 5) m6))))))
def a0b:EvS:=(i5 (k9 2 (eCl J4 (b8 (b7 0) g8))) (i5 (sIf (tB (e2 (a5A fx fx) (U9 (b7 1)) (b7 2))) (m9 (eC .none)) p8) (m9 (eCl (M9 121) (b8 (b7 0) (b8 (b7 2) (b8 (L3 fx (b7 1) (b7 1)) g8)))))))
def A7:=fnD [.f,.f] 1 a0b
abbrev a0c(B:Bk P w K mg base)(k:Nat):=HB B "tree_of_set" k ["machine","states"] (spD K 2 A7 .f)
def a3u(B:Bk P w K mg base)(jb:a0S B 123)(kG:b6r B 123):a0c B 124:=
 n4 B.d21 λ_ _ F=>fnF F ["machine","states","asks"] λsc _ _ _ _ _ _ hr=>by exact c7 (j8 2 sc.nd (b9 (by exact z9 jb hr (l0 (PX.newf (c6 0)) (C7)) (hfl:=(i6 v6))))) (c7 (o6 (b5L (a4x (by exact hr.units)) (a2K B.tuple_ (c6 1)) (c6 2)) (e6 (k7 (b9 (PX.itof v9)))) m8) (e6 (k7 (b9 (by exact z9 kG hr (l0 (PX.newf (c6 0)) (l0 (PX.newf (c6 2)) (l0 (PX.frz (a3g fx rfl (by exact hr.units) B.dict_ B.zip_ (PX.newf (c6 1)) (PX.newf (c6 1)))) (C7)))) (hfl:=(i6 (i6 (i6 v6)))))))))
def a4T:EvS:=(i5 (sEx (eCl B3 (b8 (b7 0) g8))) (i5 (sEx (eCl U4 (b8 (b7 0) (b8 (b7 1) g8)))) (m9 (eCl A7 (b8 (b7 0) (b8 (b7 1) g8))))))
def K2:=fnD [.f,.f] 0 a4T
abbrev a4U(B:Bk P w K mg base)(k:Nat):=HB B "tree_of" k ["machine","states"] (spD K 2 K2 .f)
def a8U(B:Bk P w K mg base)(gG:P6 B 124)(ke:a3s B 124)(iO:a0c B 124):a4U B 125:=
 n4 B.d22 λ_ _ F=>fnF F ["machine","states"] λ_ _ _ _ _ _ _ hr=>by exact c7 (a2m (A0 gG hr (e7 (c6 0) l5))) (c7 (a2m (A0 ke hr (e7 (c6 0) (e7 (c6 1) l5)))) (e6 (k7 (b9 (by exact z9 iO hr (l0 (PX.newf (c6 0)) (l0 (PX.newf (c6 1)) (C7))) (hfl:=(i6 (i6 v6))))))))
def b_law_shown(rc:List D->Option D):EvS:=(i5 (sIf (tV (e1 (λd=>cz (.bool (x8 d))) (b7 0))) (m9 (M3 (b8 (eIm (e2 dIx (b7 0) (eC (.int 0)))) (b8 (r9 (iL (e2 dIx (b7 0) (eC (.int 1)))) [] pt2 tT (J9 (b8 (eIm (b7 0)) (b8 (eCl rc (b8 (b7 1) g8)) g8)))) g8)))) p8) (m9 (eIm (b7 0))))
def m_law_shown:Nat->List D->Option D
 |0=>λ_=>el
 |n+1=>fnD [.f] 0 (b_law_shown (m_law_shown n))
def G5:Nat->Ty
 |0=>.i
 |n+1=>(.l (.l (.tp [.i,(G5 n)])))
theorem C8:∀n,(G5 n).shut=fx
 |0=>rfl
 |n+1=>by simp[G5,Ty.shut,Ty.shutAll,C8 n]
abbrev a7n(B:Bk P w K mg base)(k:Nat):=HB B "_law_shown" k ["_law_one"] (spD K 1 (m_law_shown 121) (G5 121))
def ok_law_shown(B:Bk P w K mg base):∀n:Nat,Has P w K mg base "_law_shown" (n+1) ["_law_one"] (spD K 1 (m_law_shown n) (G5 n)):=by
 intro n
 induction n with
 |zero=>exact n4 B.d23 λ_ _ _=>a5E
 |succ n gx=>exact n4 B.d23 λ_ _ F=>fnF F ["_law_one"] λ_ _ _ _ _ _ _ hr=>by exact c7 (o6 (r8 (L8 N4 B.isinstance_ B.tuple_ PyProof.Rows.Boot.«tuple» (c6 0))) (e6 (k7 (b9 (B8 (n:=2) (j6 (PX.itol (a5I (u5 (PX.newf (c6 0)) c8))) (j6 (a0y rfl (tn:=["_law_answer_here","_law_rest"]) (ys:=[]) (m:=.f) (A4 (u5 (PX.newf (c6 0)) c8)) rfl (λ_ _ _ _ _=>a2v rfl (u8 (B0 (i:=0) c1M rfl (eK rfl) (.inr rfl)) (u8 (B0 (i:=1) c1M rfl (eK rfl) (.inr rfl)) O6))) b5x (.inr rfl) a9p rfl (λ_ _ _ _ _=>Y0) (λ_ _ _ _ _=>(a2H (hn:=vh rfl) (j6 (a5I (PX.newf (c6 0))) (j6 (a2l (hu:=C8 _) gx hr (e7 (c6 1) l5) (hfl:=(i6 v6))) m5))))) m5)))))) m8) (e6 (k7 (b9 (PX.itol (a5I (PX.newf (c6 0)))))))
def b_law_whole:EvS:=(m9 (a2E (e1 (λd=>cz (.bool (isInt d))) (b7 0)) (b2p (e1 (λd=>cz (.bool (isBool d))) (b7 0)))))
def m_law_whole:=fnD [.f] 0 b_law_whole
abbrev X6(B:Bk P w K mg base)(k:Nat):=HB B "_law_whole" k ["_law_found"] (spD K 1 m_law_whole .i)
def ok_law_whole(B:Bk P w K mg base):X6 B 1:=
 n4 B.d24 λ_ _ F=>fnF F ["_law_found"] λ_ _ _ _ _ _ _ _=>by exact e6 (k7 (b9 (a0i (L8 a9n B.isinstance_ B.int_ PyProof.Rows.Boot.«int» (c6 0)) (a1n (b2q (L8 a6m B.isinstance_ B.bool_ PyProof.Rows.Boot.«bool» (c6 0)))))))
def b_law_is_tree(rc:List D->Option D):EvS:=(i5 (sIf (tNo (tV (e1 (λd=>cz (.bool (x8 d))) (b7 0)))) (m9 (eCl m_law_whole (b8 (b7 0) g8))) p8) (i5 (sIf (Z1 (tB (e2 dNe (eCl G6 (b8 (b7 0) g8)) (eC (.int 2)))) (Z1 (tNo (tV (eCl m_law_whole (b8 (e2 dIx (b7 0) (eC (.int 0))) g8)))) (tNo (tB (eCh dLe dLt (eC (.int 0)) (e2 dIx (b7 0) (eC (.int 0))) (b7 1)))))) (m9 (eC (.bool p4))) p8) (i5 (sIf (tNo (tV (e1 (λd=>cz (.bool (isList d))) (e2 dIx (b7 0) (eC (.int 1)))))) (m9 (eC (.bool p4))) p8) (i5 (M6 (iL (e2 dIx (b7 0) (eC (.int 1)))) (E7 2) (sIf (Z1 (tNo (tV (e1 (λd=>cz (.bool (x8 d))) (b7 2)))) (Z1 (tB (e2 dNe (eCl G6 (b8 (b7 2) g8)) (eC (.int 2)))) (tNo (tV (eCl rc (b8 (e2 dIx (b7 2) (eC (.int 1))) (b8 (b7 1) g8))))))) (m9 (eC (.bool p4))) p8)) (m9 (e2 dNe (e2 dIx (b7 0) (eC (.int 1))) (M3 g8)))))))
def m_law_is_tree:Nat->List D->Option D
 |0=>λ_=>el
 |n+1=>fnD [.f,.i] 1 (b_law_is_tree (m_law_is_tree n))
abbrev a3Z(B:Bk P w K mg base)(k:Nat):=HB B "_law_is_tree" k ["_law_one","_law_asks"] (spD K 2 (m_law_is_tree 121) .i)
def ok_law_is_tree(B:Bk P w K mg base)(nQ:X6 B 1):∀n:Nat,Has P w K mg base "_law_is_tree" (2+n) ["_law_one","_law_asks"] (spD K 2 (m_law_is_tree n) .i):=by
 intro n
 induction n with
 |zero=>exact n4 B.d25 λ_ _ _=>a5E
 |succ n gh=>
  have fy:=nQ.up (show 1<=2+n by lia);exact n4 B.d25 λ_ _ F=>fnF F ["_law_one","_law_asks","_law_pair"] λsc _ _ _ _ _ _ hr=>by exact c7 (o6 (A3 (r8 (L8 N4 B.isinstance_ B.tuple_ PyProof.Rows.Boot.«tuple» (c6 0)))) (e6 (k7 (b9 (A0 fy hr (e7 (c6 0) l5))))) m8) (c7 (o6 (PWX.pt (W7 (l8 X3 (F6 B.len_ (c6 0)) c8) (W7 (A3 (r8 (A0 fy hr (e7 (u5 (PX.newf (c6 0)) c8) l5)))) (a0x (A3 (a4q a6j a4o c8 (u5 (PX.newf (c6 0)) c8) (i4 1))))))) (e6 (k7 (b9 U8))) m8) (c7 (o6 (A3 (r8 (L8 a6n B.isinstance_ B.list_ PyProof.Rows.Boot.«list» (u5 (PX.newf (c6 0)) c8)))) (e6 (k7 (b9 U8))) m8) (c7 (K0 rfl b_ (A4 (u5 (PX.newf (c6 0)) c8)) (B2 2 sc.nd) b2y (λ_ _ _ _ _=>trivial) (PSsX.weak (e6 (o6 (PWX.pt (W7 (A3 (r8 (L8 N4 B.isinstance_ B.tuple_ PyProof.Rows.Boot.«tuple» (c6 2)))) (W7 (l8 X3 (F6 B.len_ (c6 2)) c8) (a0x (A3 (r8 (A0 gh hr (e7 (u5 (PX.newf (c6 2)) c8) (e7 (i4 1) l5))))))))) (e6 (k7 (b9 U8))) m8)) m6 (m3 2))) (e6 (k7 (b9 (a5s X3 (u5 (PX.newf (c6 0)) c8) (B8 (n:=0) (u:=.i) m5))))))))
def a0T:EvS:=(sIf (tNo (tV (eCl p5 (b8 (b7 1) (b8 (eCl G6 (b8 (b7 0) g8)) g8))))) sNo p8)
def J6:=fnN [.f,.f] 0 a0T
abbrev U5(B:Bk P w K mg base)(k:Nat):=HB B "need_state" k ["machine","thing"] (spD K 2 J6 .i)
def a4a(B:Bk P w K mg base)(fD:U3 B 2):U5 B 3:=
 n4 B.d26 λ_ _ F=>b9y F ["machine","thing"] [.own .f,.own .f] λ_ _ _ _ _ _ _ hr=>by exact e6 (o6 (A3 (r8 (A0 fD hr (e7 (c6 1) (e7 (F6 B.len_ (c6 0)) l5))))) (e6 (a6u)) m8)
def a0d:EvR:=(rIf (tNo (tV (eCl p5 (b8 (b7 1) (b8 (eCl G6 (b8 (b7 0) g8)) g8))))) (λ_=>cz "NoState") rNo)
def C9:=fnR [.f,.f] 0 a0d
abbrev U6(B:Bk P w K mg base)(k:Nat):=HR B "need_state" k ["machine","thing"] (spR K 2 C9)
def a3v(B:Bk P w K mg base)(fD:U3 B 2):U6 B 3:=
 a9N B.d26 λ_ _ F=>c1r F ["machine","thing"] λ_ _ _ _ _ _ _ L hr=>by
 obtain⟨_,oR⟩:=B.r_NoState;exact b3U (Y5 (b7m (A3 (r8 (A0 fD hr (e7 (c6 1) (e7 (F6 B.len_ (c6 0)) l5))))) (Y5 (a6W L oR)) (b7l)))
def a9Q:EvS:=(i5 (sEx (eCl J6 (b8 (b7 1) (b8 (b7 2) g8)))) (i5 (sWh (λ_=>1000000) (tV (e1 (λd=>cz (.bool (x8 d))) (b7 0))) (i5 (k9 3 (e2 w6 (e2 dIx (b7 1) (b7 2)) (e2 dIx (b7 0) (eC (.int 0))))) (i5 (k9 0 (e2 (a0G p4) (U2 (e2 dIx (b7 0) (eC (.int 1)))) (e2 w6 (b7 3) (eC (.int 0))))) (i5 (sIf (tB (e2 (J8 p4) (b7 0) (eC .none))) sNo p8) (k9 2 (e2 w6 (b7 3) (eC (.int 1)))))))) (m9 (b7 0))))
def Y7:=fnD [.f,.f,.f] 1 a9Q
abbrev a9R(B:Bk P w K mg base)(k:Nat):=HB B "began" k ["found","machine","state"] (spD K 3 Y7 .f)
def b4i(B:Bk P w K mg base)(fY:U5 B 3)(gJ:U6 B 3):a9R B 4:=
 n4 B.d27 λ_ _ F=>fnF F ["found","machine","state","step"] λsc _ _ _ _ _ _ hr=>by exact c7 (a2m (A0 fY hr (e7 (c6 1) (e7 (c6 2) l5)))) (c7 (a2M (λ_=>1000000) b_ (r8 (L8 N4 B.isinstance_ B.tuple_ PyProof.Rows.Boot.«tuple» (c6 0))) (PSsX.weak (c7 (j8 3 sc.nd (b9 (p7 (u5 (PX.newf (c6 1)) (c6 2)) (u5 (PX.newf (c6 0)) c8)))) (c7 (j8 0 sc.nd (b9 (a5C (by exact hr.units) (a3i rfl (by exact hr.units) B.dict_ (u5 (PX.newf (c6 0)) c8)) (p7 (i4 3) c8)))) (c7 (o6 (l8 a1l (c6 0) v9) (e6 (a6u)) m8) (e6 (j8 2 sc.nd (b9 (PX.itof (p7 (i4 3) c8)))))))) m6 (m3 3))) (e6 (k7 (b9 (PX.newf (c6 0))))))
def a3w:EvR:=(rOr (rCl C9 (b8 (b7 1) (b8 (b7 2) g8))) (a1X (sEx (eCl J6 (b8 (b7 1) (b8 (b7 2) g8)))) (rWh (λ_=>1000000) (tV (e1 (λd=>cz (.bool (x8 d))) (b7 0))) (i5 (k9 3 (e2 w6 (e2 dIx (b7 1) (b7 2)) (e2 dIx (b7 0) (eC (.int 0))))) (i5 (k9 0 (e2 (a0G p4) (U2 (e2 dIx (b7 0) (eC (.int 1)))) (e2 w6 (b7 3) (eC (.int 0))))) (i5 (sIf (tB (e2 (J8 p4) (b7 0) (eC .none))) sNo p8) (k9 2 (e2 w6 (b7 3) (eC (.int 1))))))) (a1X (k9 3 (e2 w6 (e2 dIx (b7 1) (b7 2)) (e2 dIx (b7 0) (eC (.int 0))))) (a1X (k9 0 (e2 (a0G p4) (U2 (e2 dIx (b7 0) (eC (.int 1)))) (e2 w6 (b7 3) (eC (.int 0))))) (rIf (tB (e2 (J8 p4) (b7 0) (eC .none))) (λ_=>cz "Unfit") rNo))))))
def K5:=fnR [.f,.f,.f] 1 a3w
abbrev a9S(B:Bk P w K mg base)(k:Nat):=HR B "began" k ["found","machine","state"] (spR K 3 K5)
def b1w(B:Bk P w K mg base)(fY:U5 B 3)(gJ:U6 B 3):a9S B 4:=
 a9N B.d27 λ_ _ F=>c1r F ["found","machine","state","step"] λsc _ _ _ _ _ _ L hr=>by
 obtain⟨_,rq⟩:=B.r_Unfit;exact c1n (b3U (Y5 (b6i (a6X (b9t L) gJ hr (e7 (c6 1) (e7 (c6 2) l5)) (hfl:=(i6 (i6 v6))))))) (a5L (u:=.f) (ML:=[]) (a2m (A0 fY hr (e7 (c6 1) (e7 (c6 2) l5)))) (b3V (u:=.f) (λ_=>1000000) L.passes (r8 (L8 N4 B.isinstance_ B.tuple_ PyProof.Rows.Boot.«tuple» (c6 0))) (PSsX.weak (c7 (j8 3 sc.nd (b9 (p7 (u5 (PX.newf (c6 1)) (c6 2)) (u5 (PX.newf (c6 0)) c8)))) (c7 (j8 0 sc.nd (b9 (a5C (by exact hr.units) (a3i rfl (by exact hr.units) B.dict_ (u5 (PX.newf (c6 0)) c8)) (p7 (i4 3) c8)))) (c7 (o6 (l8 a1l (c6 0) v9) (e6 (a6u)) m8) (e6 (j8 2 sc.nd (b9 (PX.itof (p7 (i4 3) c8)))))))) m6 (m3 3)) (a5L (u:=.f) (ML:=[]) (j8 3 sc.nd (b9 (p7 (u5 (PX.newf (c6 1)) (c6 2)) (u5 (PX.newf (c6 0)) c8)))) (a5L (u:=.f) (ML:=[]) (j8 0 sc.nd (b9 (a5C (by exact hr.units) (a3i rfl (by exact hr.units) B.dict_ (u5 (PX.newf (c6 0)) c8)) (p7 (i4 3) c8)))) (b3U (Y5 (b7m (l8 a1l (c6 0) v9) (Y5 (a6W L rq)) (b7l))))))))
def b_law_told:EvS:=(i5 (k9 3 (eC .none)) (i5 (k9 4 (eC .none)) (i5 (a6Y Lx 3 5 (k9 4 (eCl Y7 (b8 (b7 0) (b8 (b7 1) (b8 (b7 2) g8))))) (rCl K5 (b8 (b7 0) (b8 (b7 1) (b8 (b7 2) g8))))) (i5 (sIf (tV (b3R 3)) (m9 (J9 (b8 (eC (.str "told")) (b8 (b7 4) g8)))) p8) (i5 (sIf (Z1 (tNo (tV (a2g Lx 3 λ_=>fx))) (tV (a2g Lx 3 (λ_=>p4)))) (m9 (J9 (b8 (eC (.str "other")) (b8 (eC .none) g8)))) p8) (i5 (sIf (tV (a2g Lx 3 (λ_=>p4))) (m9 (J9 (b8 (eC (.str "other")) (b8 (eC .none) g8)))) p8) (i5 (sIf (tB (e2 dEq (a2g Lx 3 λn=>n=="Unfit") (a2g Lx 3 λn=>n=="NoState"))) (m9 (J9 (b8 (eC (.str "other")) (b8 (eC .none) g8)))) p8) (m9 (J9 (b8 (e2 w6 (M3 (b8 (eC (.str "unfit")) (b8 (eC (.str "state")) g8))) (eCl b2t (b8 (a2g Lx 3 λn=>n=="NoState") g8))) (b8 (eC .none) g8)))))))))))
def m_law_told:=fnD [.f,.f,.f] 3 b_law_told
abbrev a3x(B:Bk P w K mg base)(k:Nat):=HB B "_law_told" k ["_law_found","_law_table","_law_state"] (spD K 3 m_law_told .f)
def ok_law_told(B:Bk P w K mg base)(mZ:a9R B 4)(m_:a9S B 4):a3x B 5:=
 n4 B.d28 λ_ _ F=>fnF F ["_law_found","_law_table","_law_state","_law_kept","_law_told_here","e"] λsc _ _ _ _ _ _ hr=>by
 obtain⟨C0,EP,ET⟩:=B.pe;obtain⟨CS,CQ,CP,CO,CN,vX,vW,vV,vU,vT,AO⟩:=B.t_0;obtain⟨CM,CL,CK,CJ,CI,vS,vR,vQ,vP,vO,AN⟩:=B.t_1;obtain⟨_,jh⟩:=B.i_NoState;obtain⟨_,og⟩:=B.i_Unfit;have mE:=B.i_ValueError;exact c7 (j8 3 sc.nd (b9 v9)) (c7 (j8 4 sc.nd (b9 (PX.itof v9))) (c7 (b9v (M:=[mdF,mdF,mdF,mdI,mdF,mdD]) (L:=Lx) 3 5 rfl rfl sc.nd (by decide) (e6 (j8 4 sc.nd (b9 (by exact z9 mZ hr (l0 (PX.newf (c6 0)) (l0 (PX.newf (c6 1)) (l0 (PX.newf (c6 2)) (C7)))) (hfl:=(i6 (i6 (i6 v6)))))))) (λpn EE W T=>Y5 (b9u (i:=4) sc.nd (a6X T m_ hr (e7 (c6 0) (e7 (c6 1) (e7 (c6 2) l5))) (hfl:=(i6 (i6 (i6 v6))))))) EP ET) (c7 (o6 (b3S 3) (e6 (k7 (b9 (PX.frz (a2H (j6 Q0 (j6 (PX.newf (c6 4)) m5))))))) m8) (c7 (o6 (PWX.pt (W7 (A3 (r8 (b9x 3 (f:=λ_=>fx) (L:=Lx) mE B.isinstance_ B.ValueError_ PyProof.Rows.Boot.«ValueError»))) (a0x (r8 (a9M 3 (f:=λ_=>p4) (L:=Lx) AO (D6 vX (D6 vW (D6 vV (D6 vU (D6 vT (a9L)))))) B.isinstance_))))) (e6 (k7 (b9 (PX.itof (O8 (n:=2) (j6 Q0 (j6 v9 m5))))))) m8) (c7 (o6 (r8 (a9M 3 (f:=λ_=>p4) (L:=Lx) AN (D6 vS (D6 vR (D6 vQ (D6 vP (D6 vO (a9L)))))) B.isinstance_)) (e6 (k7 (b9 (PX.itof (O8 (n:=2) (j6 Q0 (j6 v9 m5))))))) m8) (c7 (o6 (l8 D3 (a8E 3 (f:=λn=>n=="Unfit") (L:=Lx) og.2 B.isinstance_ og.1) (a8E 3 (f:=λn=>n=="NoState") (L:=Lx) jh.2 B.isinstance_ jh.1)) (e6 (k7 (b9 (PX.itof (O8 (n:=2) (j6 Q0 (j6 v9 m5))))))) m8) (e6 (k7 (b9 (PX.itof (O8 (n:=2) (j6 (p7 (B8 (n:=2) (j6 Q0 (j6 Q0 m5))) (b8t b8v B.int_ PyProof.Rows.Boot.«int» (e7 (a8E 3 (f:=λn=>n=="NoState") (L:=Lx) jh.2 B.isinstance_ jh.1) l5))) (j6 v9 m5)))))))))))))
def b_law_branch:EvS:=(i5 (M6 (iL (b7 0)) (a6t 2 3) (sIf (tB (e2 dEq (b7 2) (b7 1))) (m9 (J9 (b8 (eC (.bool fx)) (b8 (b7 3) g8)))) p8)) (m9 (J9 (b8 (eC (.bool p4)) (b8 (eC .none) g8)))))
def m_law_branch:=fnD [.f,.i] 2 b_law_branch
abbrev a0U(B:Bk P w K mg base)(k:Nat):=HB B "_law_branch" k ["_law_branches","_law_answer_here"] (spD K 2 m_law_branch .f)
def ok_law_branch(B:Bk P w K mg base):a0U B 1:=
 n4 B.d29 λ_ _ F=>fnF F ["_law_branches","_law_answer_here","_law_told_here","_law_rest"] λsc _ _ _ _ _ _ hr=>by exact c7 (K0 rfl b_ (A4 (PX.newf (c6 0))) (a2v rfl (u8 (B2 2 sc.nd) (u8 (B2 3 sc.nd) O6))) (a7T (w:=.f) (.inl rfl)) (λ_ _ _ _ _ e=>nomatch e) (PSsX.weak (e6 (o6 (l8 D3 (c6 2) (i4 1)) (e6 (k7 (b9 (PX.frz (a2H (j6 U8 (j6 (PX.newf (c6 3)) m5))))))) m8)) m6 ((m3 2).trans (m3 3)))) (e6 (k7 (b9 (PX.itof (O8 (n:=2) (j6 U8 (j6 v9 m5)))))))
def b_law_leaf:EvS:=(i5 (sWh (λ_=>1000000) (tV (e1 (λd=>cz (.bool (x8 d))) (b7 1))) (i5 (V0 3 2 (e2 w6 (e2 dIx (b7 0) (b7 2)) (e2 dIx (b7 1) (eC (.int 0))))) (i5 (V0 4 1 (eCl m_law_branch (b8 (e2 dIx (b7 1) (eC (.int 1))) (b8 (b7 3) g8)))) (sIf (tNo (tV (b7 4))) (m9 (eC .none)) p8)))) (m9 (b7 1)))
def m_law_leaf:=fnD [.f,.f,.f] 2 b_law_leaf
abbrev a3y(B:Bk P w K mg base)(k:Nat):=HB B "_law_leaf" k ["_law_table","_law_one","_law_state"] (spD K 3 m_law_leaf .f)
def ok_law_leaf(B:Bk P w K mg base)(jd:a0U B 1):a3y B 2:=
 n4 B.d30 λ_ _ F=>fnF F ["_law_table","_law_one","_law_state","_law_answer_here","_law_there"] λsc _ _ _ _ _ _ hr=>by exact c7 (a2M (λ_=>1000000) b_ (r8 (L8 N4 B.isinstance_ B.tuple_ PyProof.Rows.Boot.«tuple» (c6 1))) (PSsX.weak (c7 (a5u 3 2 (u1:=.i) (u2:=.i) sc.nd rfl (b9 (p7 (u5 (PX.newf (c6 0)) (c6 2)) (u5 (PX.newf (c6 1)) c8))) (.inr (.inl ⟨rfl,rfl,rfl⟩)) (hg1:=u8 (B2 3 sc.nd) (u8 (B2 2 sc.nd) O6))) (c7 (a5u 4 1 (u1:=.f) (u2:=.f) sc.nd rfl (b9 (by exact z9 jd hr (l0 (u5 (PX.newf (c6 1)) c8) (l0 (PX.newi (i4 3)) (C7))) (hfl:=(i6 (i6 v6))))) (.inl ⟨rfl,rfl,rfl⟩) (hg1:=u8 (B2 4 sc.nd) (u8 (B2 1 sc.nd) O6))) (e6 (o6 (A3 (r8 (c6 4))) (e6 (k7 (b9 (PX.itof v9)))) m8)))) m6 (((E6 2).trans (m3 3)).trans (m3 4)))) (e6 (k7 (b9 (PX.newf (c6 1)))))
def b_law:EvS:=(i5 (k9 1 (eCl m_law_machine (b8 (b7 0) (b8 (eC (.int 5)) (b8 (eC (.int 7)) g8))))) (i5 (k9 2 (eCl G6 (b8 (b7 1) g8))) (i5 (k9 3 (eCl m_law_cells (b8 (b7 0) (b8 (eC (.int 5)) g8)))) (i5 (k9 4 (eCl m_law_set (b8 (e2 A9 (e2 L9 (e2 M4 (b7 3) (eC (.int 3))) (eC (.int 48271))) (eC (.int 1000000007))) (b8 (b7 2) g8)))) (i5 (k9 5 (r9 (iL (b7 1)) [] pt1 tT (eI (a1K (b7 0))))) (i5 (k9 6 (eCl K2 (b8 (b7 5) (b8 (eI (a1K (b7 4))) g8)))) (i5 (sIf (tB (e2 (J8 p4) (b7 6) (eC .none))) (i5 (k9 4 (M3 (b8 (e2 w6 (b7 4) (eC (.int 0))) g8))) (k9 6 (eCl K2 (b8 (b7 5) (b8 (eI (a1K (b7 4))) g8))))) p8) (i5 (sIf (tNo (tV (eCl (m_law_is_tree 121) (b8 (b7 6) (b8 (eCl G6 (b8 (e2 dIx (b7 1) (eC (.int 0))) g8)) g8))))) (m9 (eC (.bool p4))) p8) (i5 (k9 7 (eCl (m_law_shown 121) (b8 (b7 6) g8))) (i5 (k9 8 (M3 (b8 (b7 2) (b8 (eC (.int (-1))) (b8 (eC (.bool fx)) (b8 (eC (.bool p4)) (b8 (eC .none) (b8 (eC (.str "0")) (b8 (M3 (b8 (eC (.int 0)) g8)) (b8 (e2 y7 (b7 2) (e2 a2D (eC (.int 10)) (eC (.int 20)))) g8)))))))))) (i5 (M6 (iL (a3T (a3T (a1u (b7 2)) (M3 (b8 (e2 dIx (b7 8) (e2 A9 (e2 w6 (b7 3) (eC (.int 4))) (eC (.int 8)))) (b8 (e2 dIx (b7 8) (e2 A9 (e2 V5 (e2 w6 (b7 3) (eC (.int 4))) (eC (.int 8))) (eC (.int 8)))) g8)))) (eI (eSl (b7 4) oNo (oSo (eC (.int 1))))))) (E7 9) (i5 (V0 10 11 (eCl m_law_told (b8 (b7 6) (b8 (b7 5) (b8 (b7 9) g8))))) (sIf (Z1 (tNo (tV (eCl m_law_whole (b8 (b7 9) g8)))) (tNo (tB (eCh dLe dLt (eC (.int 0)) (b7 9) (b7 2))))) (sIf (tB (e2 dNe (b7 10) (eC (.str "state")))) (m9 (eC (.bool p4))) p8) (i5 (k9 12 (eCl m_law_leaf (b8 (b7 1) (b8 (b7 6) (b8 (b7 9) g8))))) (i5 (sIf (tAn (tB (e2 (J8 p4) (b7 12) (eC .none))) (tB (e2 dNe (b7 10) (eC (.str "unfit"))))) (m9 (eC (.bool p4))) p8) (i5 (sIf (tAn (tB (e2 (J8 fx) (b7 12) (eC .none))) (Z1 (tB (e2 dNe (b7 10) (eC (.str "told")))) (Z1 (tNo (tV (eCl m_law_whole (b8 (b7 11) g8)))) (tB (e2 dNe (b7 11) (b7 12)))))) (m9 (eC (.bool p4))) p8) (sIf (tAn (tB (e2 (b2U p4) (b7 9) (b7 4))) (tB (e2 dNe (b7 11) (b7 9)))) (m9 (eC (.bool p4))) p8))))))) (m9 (a2E (e2 dEq (b7 5) (b7 1)) (e2 dEq (eCl (m_law_shown 121) (b8 (b7 6) g8)) (b7 7)))))))))))))))
def m_law:=fnD [.f] 12 b_law
def ok_law(B:Bk P w K mg base)(fR:X4 B 125)(iQ:Z8 B 125)(kU:a4O B 125)(jO:a4U B 125)(gx:a7n B 125)(fy:X6 B 125)(gh:a3Z B 125)(kg:a3x B 125)(kh:a3y B 125)(F:Fun K "law" "law" (top 53) f fd):FnOk P w K mg base CX0 126 f fd ["_law_script"] (spD K 1 m_law .i):=
 fnF F ["_law_script","_law_table","_law_n","_law_xs","_law_some","_law_handed","_law_found","_law_shown_here","_law_wrong","_law_state","_law_word","_law_told_here","_law_due"] λsc _ _ _ _ _ _ hr=>by exact c7 (j8 1 (t:=(.l (.l .i))) sc.nd (b9 (A0 iQ hr (e7 (c6 0) (e7 c8 (e7 c8 l5)))))) (c7 (j8 2 (t:=.i) sc.nd (b9 (F6 B.len_ (a0h 1)))) (c7 (j8 3 (t:=(.l .i)) sc.nd (b9 (A0 fR hr (e7 (c6 0) (e7 c8 l5))))) (c7 (j8 4 (t:=(.l .i)) sc.nd (b9 (A0 kU hr (e7 (j5 u4 (j5 L5 (L7 (J1 3) c8) c8) c8) (e7 (i4 2) l5))))) (c7 (PSX.weak (a0j 5 (t:=(.l .i)) sc.nd rfl (tn:=["_law_row"]) (ys:=[]) (A4 (PX.newf (c6 1))) rfl (λ_ _ _ _ _=>B0 (i:=0) c3k rfl (eK rfl) (.inr rfl)) T4 (.inr rfl) a9p rfl (λ_ _ _ _ _=>Y0) (λ_ _ _ _ _=>(MkL.i (a5t B.list_ (PX.newf (c6 0)))))) (E6 1) m6) (c7 (PSX.weak (j8 6 (t:=.f) sc.nd (b9 (by exact z9 jO hr (l0 (PX.newf (c6 5)) (l0 (PX.frz (MkL.i (a5t B.list_ (PX.newf (c6 4))))) (C7))) (hfl:=(i6 (i6 v6)))))) (((E6 3).trans (E6 4)).trans (E6 5)) m6) (c7 (o6 (l8 a1l (c6 6) v9) (PSsX.weak (c7 (j8 4 (t:=(.l .i)) sc.nd (b9 (B8 (n:=1) (j6 (p7 (c6 4) c8) m5)))) (e6 (j8 6 (t:=.f) sc.nd (b9 (by exact z9 jO hr (l0 (PX.newf (c6 5)) (l0 (PX.frz (MkL.i (a5t B.list_ (J1 4)))) (C7))) (hfl:=(i6 (i6 v6)))))))) m6 (E6 4)) m8) (c7 (o6 (A3 (r8 (A0 gh hr (e7 (c6 6) (e7 (F6 B.len_ (u5 (PX.newf (c6 1)) c8)) l5))))) (e6 (k7 (b9 U8))) m8) (c7 (j8 7 (t:=(G5 121)) sc.nd (b9 (a2l (hu:=C8 _) gx hr (e7 (c6 6) l5) (hfl:=(i6 v6))))) (c7 (PSX.weak (j8 8 (t:=(.l (.l .i))) sc.nd (b9 (B8 (n:=8) (j6 (PX.itol (PX.newi (i4 2))) (j6 (PX.itol (b8r)) (j6 (PX.itol U8) (j6 (PX.itol U8) (j6 (PX.itol v9) (j6 (PX.itol Q0) (j6 (B8 (n:=1) (j6 c8 m5)) (j6 (PX.itol (j5 z7 (i4 2) (j5 a1k c8 c8))) m5))))))))))) (E6 7) m6) (c7 (PSX.weak (K0 rfl b_ (A4 (PX.frz ((MkL.fz (MkL.and (a7Q (PX.frz ((MkL.fz (MkL.and (a7Q (PX.frz (b3c rfl B.list_ B.range_ (i4 2))) (PX.frz (B8 (n:=2) (j6 (u5 (PX.newf (c6 8)) (j5 u4 (p7 (c6 3) c8) c8)) (j6 (u5 (PX.newf (c6 8)) (j5 u4 (j5 L6 (p7 (c6 3) c8) c8) c8)) m5))))))))) (PX.frz (MkL.i (a6q (PX.newf (c6 4)) a6o (a6p c8)))))))))) (B2 9 sc.nd) b2y (λ_ _ _ _ _=>trivial) (PSsX.weak (c7 (a5u 10 11 (t:=.f) (u1:=.f) (u2:=.f) sc.nd rfl (b9 (by exact z9 kg hr (l0 (PX.newf (c6 6)) (l0 (PX.newf (c6 5)) (l0 (PX.newf (c6 9)) (C7)))) (hfl:=(i6 (i6 (i6 v6)))))) (.inl ⟨rfl,rfl,rfl⟩) (hg1:=u8 (B2 10 sc.nd) (u8 (B2 11 sc.nd) O6))) (e6 (o6 (PWX.pt (W7 (A3 (r8 (A0 fy hr (e7 (c6 9) l5)))) (a0x (A3 (a4q a6j a4o c8 (c6 9) (i4 2)))))) (e6 (o6 (l8 X3 (c6 10) Q0) (e6 (k7 (b9 U8))) m8)) (PSsX.weak (c7 (j8 12 (t:=.f) sc.nd (b9 (by exact z9 kh hr (l0 (PX.newf (c6 1)) (l0 (PX.newf (c6 6)) (l0 (PX.newf (c6 9)) (C7)))) (hfl:=(i6 (i6 (i6 v6))))))) (c7 (o6 (PWX.pt (a2j (l8 a1l (c6 12) v9) (a0w (l8 X3 (c6 10) Q0)))) (e6 (k7 (b9 U8))) m8) (c7 (o6 (PWX.pt (a2j (l8 a5q (c6 12) v9) (a0w (PWX.pt (W7 (l8 X3 (c6 10) Q0) (W7 (A3 (r8 (A0 fy hr (e7 (c6 11) l5)))) (a0x (l8 X3 (c6 11) (c6 12))))))))) (e6 (k7 (b9 U8))) m8) (e6 (o6 (PWX.pt (a2j (l8 (b9f (by exact hr.units)) (c6 9) (c6 4)) (a0w (l8 X3 (c6 11) (c6 9))))) (e6 (k7 (b9 U8))) m8))))) m6 (m3 12))))) m6 (((m3 9).trans (m3 10)).trans (m3 11)))) (E6 8) m6) (e6 (k7 (b9 (a0i (a5s D3 (c6 5) (c6 1)) (a1n (a5s D3 (a2l (hu:=C8 _) gx hr (e7 (c6 6) l5) (hfl:=(i6 v6))) (c6 7)))))))))))))))))
end Prog
namespace VS
open L2
abbrev Ky:=List (Int×Int)
def snoc_ind{P:List α->Prop}(h0:P [])(h1:∀l x,P l->P (l++[x]))(l:List α):P l:=by
 have h:∀r:List α,P r.reverse:=by
  intro r
  induction r with
  |nil=>exact h0
  |cons x r ih=>rw[nX];exact h1 _ _ ih
 have:=h l.reverse
 rwa[List.reverse_reverse]at this
def c3l(seen:List Ky)(x:Ky):List Ky:=if x∈seen then seen else seen++[x]
def ded(ks:List Ky):List Ky:=ks.foldl c3l []
def c3m(ks:List Ky):List Int:=ks.map λx=>(((ded ks).idxOf x:Nat):Int)
def rn(r:Ky)(ls:List Int):Ky:=r.map λp=>(p.1,ls.getD p.2.toNat 0)
def lvl(m:m4):Nat->List Int
 |0=>m.map λ_=>0
 |d+1=>c3m (m.map λr=>rn r (lvl m d))
def kf(m:m4):Nat->Ky->Ky
 |0,_=>[]
 |d+1,r=>rn r (lvl m d)
def cls(m:m4)(d:Nat):Nat:=(ded (m.map (kf m d))).length
def lv(m:m4)(d:Nat)(s:Int):Int:=(lvl m d).getD s.toNat 0
def fp:Ky->Ky->Nat
 |x::xs,y::ys=>if x=y then fp xs ys+1 else 0
 |_,_=>0
def fa(m:m4)(d:Nat)(s t:Int):Int:=(fp (rn (rowAt m s) (lvl m d)) (rn (rowAt m t) (lvl m d)):Nat)
theorem a9T{I:Nat->List D->Prop}{Q:List D->Prop}(B:Nat)(step:∀j U,I j U->j<=B/\((c U=cz p4/\Q U)\/(c U=cz fx/\∃U',g U=cz (.nx U')/\I (j+1) U'))):∀n j U,I j U->B<n+j->∃U',whL c g n U=cz (.nx U')/\Q U'
 |0,j,U,h,hn=>absurd (step j U h).1 (by lia)
 |n+1,j,U,h,hn=>by
  rcases (step j U h).2 with⟨e,q⟩|⟨e,U',e2,h2⟩
  ·refine⟨U,?_,q⟩;show (c U).bind _=_;rw[e];rfl
  ·obtain⟨U2,e3,q⟩:=a9T B step n (j+1) U' h2 (by lia);refine⟨U2,?_,q⟩;show (c U).bind _=_;rw[e];show (g U).bind _=_;rw[e2];exact e3
def b6s:sWh (λ_=>n) c g U=whL c g n U:=rfl
theorem a1A(p:α->Bool)(f:α->D):∀{xs:List α},(∀x∈xs,∃bs,pt (enc x)=cz bs/\t (bs++cs)=cz (p x)/\(p x=fx->g (bs++cs)=cz (f x)))->O9 pt t g cs (xs.map enc)=cz ((xs.filter p).map f)
 |[],_=>rfl
 |x::xs,h=>by
  obtain⟨bs,h1,h2,h3⟩:=h x ar;have ih:=a1A p f (xs:=xs) λe he=>h e (au _ he)
  show (pt (enc x)).bind _=_;rw[h1];show (t (bs++cs)).bind _=_;rw[h2];cases c:p x with
  |true=>
   rw[fW c];show (g (bs++cs)).bind _=_;rw[h3 c];show (O9 pt t g cs (xs.map enc)).bind _=_;rw[ih];rfl
  |false=>
   rw[fX (by rw[c];decide)];exact ih
def b6t{js:List Nat}(p:Nat->Bool)(f:Nat->D)(hf:fi U=cz (G9 0 n))(hl:n<=1000000)(h:∀k:Nat,k<n->t (.int k::js.map λj=>U.getD j .none)=cz (p k)/\(p k=fx->g (.int k::js.map λj=>U.getD j .none)=cz (f k))) :
  r9 fi js pt1 t g U=cz (.list (((aV n).filter p).map f)):=by
 unfold r9;rw[hf];show (if (G9 0 n).length<=1000000 then _ else el)=_;rw[aJ (by rw[a7W];exact hl),a1x,a1A (enc:=λ(k:Nat)=>aI k) p f]
 ·rfl
 ·intro x hx;have:=h x (cC.mp hx);exact⟨[.int x],rfl,this.1,this.2⟩
def b1x{l:List Int}(h:i<l.length):l.getD i 0∈l:=by
 rw[aW,ay h];exact dc _
theorem a4V(f:α->D):∀{xs:List α},(∀x∈xs,∃bs,pt (enc x)=cz bs/\g (bs++cs)=cz (f x))->O9 pt tT g cs (xs.map enc)=cz (xs.map f)
 |[],_=>rfl
 |x::xs,h=>by
  obtain⟨bs,h1,h2⟩:=h x ar;have ih:=a4V f (xs:=xs) λe he=>h e (au _ he)
  show (pt (enc x)).bind _=_;rw[h1];show (g (bs++cs)).bind _=_;rw[h2];show (O9 pt tT g cs (xs.map enc)).bind _=_;rw[ih];rfl
def a0V{js:List Nat}{xs:List α}(f:α->D)(hf:fi U=cz (xs.map enc))(hl:xs.length<=1000000)(h:∀x∈xs,∃bs,pt (enc x)=cz bs/\g (bs++js.map λj=>U.getD j .none)=cz (f x)) :
  r9 fi js pt tT g U=cz (.list (xs.map f)):=by
 unfold r9;rw[hf];show (if (xs.map enc).length<=1000000 then _ else el)=_;rw[aJ (by rw[ao];exact hl),a4V f h];rfl
def c3n(h:a U=cz (.list ds)):iEn a U=cz (O0 ds 0):=by
 unfold iEn;rw[h];rfl
section
variable {β α:Type}[DecidableEq β]
def dd1(W:List (β×α))(c:β×α):List (β×α):=if c.1∈W.map (·.1) then W else W++[c]
def dd(W C:List (β×α)):List (β×α):=C.foldl dd1 W
variable {W C C':List (β×α)}{c:β×α}{t:β}
end
def a2a{n:Nat}:∀{l:List Int},l.Nodup->(∀x∈l,0<=x/\x<(n:Int))->l.length<=n:=by
 induction n with
 |zero=>
  intro l _ h;cases l with
  |nil=>exact aG _
  |cons x l=>have:=h x (by simp);lia
 |succ n ih=>
  intro l hd h;have h1:=ih (l:=l.erase (n:Int)) (hd.erase _) λx hx=>by
   have h2:=(List.Nodup.mem_erase_iff hd).mp hx;have:=h x h2.2;have:=h2.1;lia
  have h2:=List.length_erase (a:=(n:Int)) (l:=l);by_cases c:(n:Int)∈l
  ·rw[aJ c]at h2;lia
  ·rw[aN c]at h2;lia
def wl:List Int->List Int->Prop
 |a::p,b::q=>a<b\/(a=b/\wl p q)
 |_,_=>False
def bf(p q:List Int):Prop:=p.length<q.length\/(p.length=q.length/\wl p q)
abbrev b1y:=List (Int×List Int)
def c1N(m:m4)(k:Nat)(e:Int×List Int):b1y:=(aV k).map λ(a:Nat)=>((stp m e.1 a).2,e.2++[(a:Int)])
abbrev W0:b1y:=[(0,[])]
abbrev Sor(W:b1y):Prop:=W.Pairwise λa b=>bf a.2 b.2
structure Met (m:m4) (k:Nat) (dn W:b1y):Prop where
 eq:W=dd W0 (dn.flatMap (c1N m k))
 pre:∃nw,W=dn++nw
 sor:Sor W
 ql:∀e∈W,e.2.length<=dn.length
structure AllMet (m:m4) (k:Nat) (W:b1y):Prop where
 eq:W=dd W0 (W.flatMap (c1N m k))
 sor:Sor W
 range:∀e∈W,0<=e.1/\e.1<(m.length:Int)
 ql:∀e∈W,e.2.length<=W.length
section
variable {α:Type}
def kvD(enc:α->D)(W:List (Int×α)):List (D×D):=W.map λe=>(aI e.1,enc e.2)
variable {enc:α->D}{W:List (Int×α)}{t:Int}{x:α}
def a9U:(kvD enc W).length=W.length:=ao ..
def b6u{V:List (Int×α)}:kvD enc (W++V)=kvD enc W++kvD enc V:=aZ ..
def a5R:y8 (kvD enc W) (.int t)=decide (t∈W.map (·.1)):=by
 induction W with
 |nil=>rfl
 |cons e W ih=>
  show (aH (.int e.1) (.int t)||y8 (kvD enc W) (.int t))=_;rw[a2q,ih];by_cases h1:e.1=t
  ·simp[h1]
  ·have h2:t≠e.1:=λz=>h1 z.symm
   simp[h1,h2]
def b4j(h:t∉W.map (·.1)):v8 (kvD enc W) (.int t) (enc x)=kvD enc (W++[(t,x)]):=by
 unfold v8;rw[a5R,aT h,b6u];rfl
def dKey_i{t:Int}:p9 p4 (.int t)=fx:=rfl
def a9V:(kvD enc W).all (λp=>p9 p4 p.1)=fx:=by
 unfold kvD;rw[List.all_map,bj];exact λe _=>dKey_i
def b4k:(kvD enc W).map (·.1)=(W.map (·.1)).map aI:=by unfold kvD;rw[bG,bG];rfl
def b4l:(kvD enc W).map (·.2)=(W.map (·.2)).map enc:=by unfold kvD;rw[bG,bG];rfl
end
def b9L(hv:fv U=cz d)(hk:fk U=cz k)(hd:U.getD i .none=.dict kvs)(hK:p9 kt k=fx)(hl:kvs.length<1000000)(hp:pOk kvs k=fx:=by exact b0G rfl) :
  P4 i kt fk fv U=cz (.nx (U.set i (.dict (v8 kvs k d)))):=by
 unfold P4;rw[hv];show (fk U).bind _=_;rw[hk];show (match U.getD i .none with|.dict kvs=>_|_=>_)=_;rw[hd];show (if _ then _ else _)=_;rw[aJ (by rw[hK,aE hl,hp];rfl)]
def b6v(h:a U=cz (.dict (kvD aI W))):a5z a U=cz (.list ((W.map (·.2)).map .int)):=by
 unfold a5z;rw[h];show (if _ then _ else _)=_;rw[aJ (by rw[a9V,b4l,u6 _ (λ_=>a0C)];rfl),b4l]
section
variable {β:Type}[DecidableEq β]
abbrev a4W(β:Type):=List (β×List Int)
def b7u(nx:β->Nat->β)(k:Nat)(e:β×List Int):a4W β:=(aV k).map λ(a:Nat)=>(nx e.1 a,e.2++[(a:Int)])
abbrev WB(s:β):a4W β:=[(s,[])]
abbrev c1O(W:a4W β):Prop:=W.Pairwise λa b=>bf a.2 b.2
variable {nx:β->Nat->β}{k:Nat}{s:β}
structure MetB (nx:β->Nat->β) (k:Nat) (s:β) (P:β->Prop) (dn W:a4W β):Prop where
 eq:W=dd (WB s) (dn.flatMap (b7u nx k))
 pre:∃nw,W=dn++nw
 sor:c1O W
 ql:∀e∈W,e.2.length<=dn.length
 ok:∀e∈W,P e.1
structure AllB (nx:β->Nat->β) (k:Nat) (s:β) (P:β->Prop) (W:a4W β):Prop where
 eq:W=dd (WB s) (W.flatMap (b7u nx k))
 sor:c1O W
 ql:∀e∈W,e.2.length<=W.length
 ok:∀e∈W,P e.1
end
section
variable {β α:Type}[DecidableEq β]
structure KeyB (kt:Bool) (key:β->D):Prop where
 eqv:∀a b,aH (key a) (key b)=decide (a=b)
 ok:∀a,p9 kt (key a)=fx
 im:∀a,imm (key a)=fx
variable {key:β->D}{enc:α->D}{W:List (β×α)}{t:β}{x:α}{kt:Bool}
end
def b7v(h:argsOk us ds=fx):fnL us n g gm ds=Z2 (g gm (ds++(.none::aL n .none))):=by
 unfold fnL;rw[aJ h];cases g gm (ds++(.none::aL n .none)) with
 |none=>rfl
 |some o=>cases o<;>rfl
def c1P(h:f U=cz ds):b5X m us js fb f U=m (fnE us (js.map λj=>U.getD j .none) fb) ds:=by
 unfold b5X;rw[h];rfl
def c1Q(h:argsOk us ds=fx):fnE us rG f ds=f (ds++rG):=aJ h
def b7w(h:f U=cz ds):b0W m gm f U=m gm ds:=by
 unfold b0W;rw[h];rfl
abbrev PW:=List ((Int×Int)×List Int)
def O2{ns:List Int}{j:Int}(a:0<=j)(b:j<ns.length):L2.atI (ns.map aI) j=cz (.int (ns.getD j.toNat 0)):=by
 rw[a5w a (by rw[ao];exact b),gW];rw[aW,ay (by lia)];rfl
def b6w{js:List Nat}{xs:List α}(p:α->Bool)(f:α->D)(hf:fi U=cz (xs.map enc))(hl:xs.length<=1000000)(h:∀x∈xs,∃bs,pt (enc x)=cz bs/\t (bs++js.map λj=>U.getD j .none)=cz (p x)/\(p x=fx->g (bs++js.map λj=>U.getD j .none)=cz (f x))) :
  r9 fi js pt t g U=cz (.list ((xs.filter p).map f)):=by
 unfold r9;rw[hf];show (if (xs.map enc).length<=1000000 then _ else el)=_;rw[aJ (by rw[ao];exact hl),a1A p f h];rfl
def a4X{α:Type}{enc:α->D}{set:List D->D->Option (List D)}{g:EvS}{xs:List α}{U:List D}(I:List α->List D->Prop)(R:D->Prop)(h0:I [] U)
  (step:∀pre x post,xs=pre++x::post->∀U,I pre U->∃U1,set U (enc x)=cz U1/\((∃U2,g U1=cz (.nx U2)/\I (pre++[x]) U2)\/∃d,g U1=cz (.rt d)/\R d)) :
  (∃U',T6 set g (xs.map enc) U=cz (.nx U')/\I xs U')\/∃d,T6 set g (xs.map enc) U=cz (.rt d)/\R d:=by
 have key:∀(post pre:List α) (U:List D),xs=pre++post->I pre U->(∃U',T6 set g (post.map enc) U=cz (.nx U')/\I xs U')\/∃d,T6 set g (post.map enc) U=cz (.rt d)/\R d:=by
  intro post
  induction post with
  |nil=>
   intro pre U e h;rw[bH]at e;subst e;exact .inl ⟨U,rfl,h⟩
  |cons x post ih=>
   intro pre U e h;obtain⟨U1,h1,h2⟩:=step pre x post e U h;rcases h2 with⟨U2,h2,h3⟩|⟨d,h2,h3⟩
   ·rcases ih (pre++[x]) U2 (by rw[e,bw];rfl) h3 with⟨U',h4,h5⟩|⟨d,h4,h5⟩
    ·refine .inl ⟨U',?_,h5⟩;show (set U (enc x)).bind _=_;rw[h1];show (g U1).bind _=_;rw[h2];exact h4
    ·refine .inr ⟨d,?_,h5⟩;show (set U (enc x)).bind _=_;rw[h1];show (g U1).bind _=_;rw[h2];exact h4
   ·refine .inr ⟨d,?_,h3⟩;show (set U (enc x)).bind _=_;rw[h1];show (g U1).bind _=_;rw[h2];rfl
 exact key xs [] U rfl h0
end VS
namespace Prog
open L2 VS
abbrev GA:=List (List Int×List Int)
def k8(a:List Int):D:=.tuple (a.map .int)
def a1B(e:Int)(es:List Int):List Int:=if e∈es then es else es++[e]
def a0W(a b:List Int):aH (k8 a) (k8 b)=decide (a=b):=by
 unfold k8;simp only[aH];exact a3n a b
theorem a2b:∀a:List Int,q9 (a.map aI)=fx
 |[]=>by simp only[de,q9]
 |n::a=>by simp only[aA,q9,C6,a2b a,gk]
def a8V(a:List Int):(k8 a).depth<=7:=by
 unfold k8;simp only[dG];have:=R7 aI 0 (λ_=>by rw[N5];exact aG _) a;lia
def b1z(a:List Int):C6 (k8 a)=fx:=by
 unfold k8;simp only[C6];exact a2b a
def S7(a:List Int):p9 fx (k8 a)=fx:=by
 unfold p9;rw[b1z,aE (a8V a)];rfl
def dKey_i(e:Int):p9 p4 (.int e)=fx:=by
 unfold p9;rw[show C6 (.int e)=fx by simp only[C6],show (aI e).depth=0 from N5];rfl
def a7o:x∈a1B e es↔x∈es\/x=e:=by
 unfold a1B;by_cases c:e∈es
 ·rw[aJ c];exact⟨.inl,λh=>h.elim id λz=>z▸c⟩
 ·rw[aN c,aC,aq]
structure DdOk (f:Int->List Int×Int) (ss:List Int) (dd:GA):Prop where
 nd:(dd.map (·.1)).Nodup
 keys:∀a,a∈dd.map (·.1)↔∃s∈ss,(f s).1=a
 mem:∀q∈dd,∀e,e∈q.2↔∃s∈ss,f s=(q.1,e)
 nd2:∀q∈dd,q.2.Nodup
 len:dd.length<=ss.length
 b3d:∀q∈dd,q.2.length<=ss.length
end Prog
local macro_rules | `(tactic| walk_at "ev")=>`(tactic| simp -implicitDefEqProofs (disch:=first | omega | assumption | decide) only [VS.v_var,VS.v_c,VS.v_1,VS.v_2,VS.c0R,VS.b2C,VS.b7e,VS.c2w,VS.c2x,VS.c0S,VS.c0T,VS.c0U,VS.v_and,VS.v_or,VS.v_not,VS.c0V,VS.b7f,VS.b7g,VS.x9,VS.Z6,VS.c0W,VS.c2y,VS.b8Q,VS.b2D,VS.b7h,VS.a5v,VS.c2r,VS.c2s,VS.c2t,VS.b5D,VS.c2u,VS.c2v,VS.b8A,VS.b8B,VS.b8C,VS.c0M,VS.c0N,VS.b8D,VS.b8E,VS.c0O,VS.c0P,VS.b8F,VS.b8G,VS.b8H,VS.b8I,VS.b8J,VS.v7,VS.b8K,VS.b8L,VS.b8M,VS.b2A,VS.b8N,VS.c0Q,VS.b5E,VS.b2B,VS.b8O,VS.a9s,VS.b8P,VS.v_add,VS.v_sub,VS.v_lt,VS.c2z,VS.c2A,VS.c2B,VS.c0X,VS.c0Y,VS.b8R,VS.b8S,VS.c0Z,VS.c1a,VS.c1b,VS.c1c,VS.c1d,VS.b2E,VS.v_mod,VS.v_div,VS.c2U,VS.c1s,VS.c1t,VS.trB,VS.c1u,VS.b9A,VS.b3W,VS.b6k,VS.b3X,VS.b3Y,VS.b6l,VS.b1s,VS.a8F,VS.a8G,VS.a8H,VS.b1t,VS.b1u,VS.a8I,VS.a8J,VS.a6Z,VS.a7a,VS.a7b,VS.a8K,VS.a8L,VS.a7c,VS.isList_list,VS.isList_int,VS.a7d,VS.isList_bool,VS.a8M,VS.isList_str,VS.isList_dict,VS.a7e,VS.isTuple_list,VS.isTuple_int,VS.a9O,VS.a7f,VS.a9P,VS.c1v,VS.c1w,VS.b6m,VS.c1x,VS.a7g,VS.Q3,VS.b9B,VS.b9C,VS.c1z,VS.c1A,VS.c3d,VS.at0,VS.at1,VS.c1I,VS.c1J,VS.b9G,VS.b6p,VS.c1K,VS.b6q,List.getD_cons_zero,List.getD_cons_succ,nh,jI,jl,hJ,bA,cj,bH,kq,Bool.not_false,iU,fN,Bool.false_and,Bool.and_false,VS.c2V,VS.c2W,VS.c2X,VS.c2Y,VS.c2Z,VS.c3a,VS.c3b,VS.c3c,decide_true,decide_false,ao,aA,de])
namespace Prog
open L2 VS
def j7(g:List Int->D)(l:List (List Int)):List (D×D):=l.map λp=>(k8 p,g p)
def a7p(p:List Int)(l:List (List Int)):List (List Int):=if p∈l then l else l++[p]
section
variable {g:List Int->D}{l:List (List Int)}{a:List Int}
def a3z:(j7 g l).length=l.length:=ao ..
theorem N6(a:List Int):∀l:List (List Int),y8 (j7 g l) (k8 a)=decide (a∈l)
 |[]=>rfl
 |q::l=>by
  have ih:=N6 a l;unfold y8 j7 at ih ⊢;rw[aA,kn,ih,a0W,fH];simp only[ig,cG,aD];exact or_congr_left eq_comm
theorem a4Y:∀{l:List (List Int)},a∈l->I9 (j7 g l) (k8 a)=cz (g a)
 |[],h=>nomatch h
 |q::l,h=>by
  by_cases c:q=a
  ·unfold I9 j7;rw[aA,fG,a0W,aE c];subst c;rfl
  ·have ih:=a4Y (l:=l) ((aD.mp h).resolve_left λz=>c z.symm);unfold I9 j7 at ih ⊢;rw[aA,fG,a0W,aT c];exact ih
def b4m:v8 (j7 g l) (k8 a) (g a)=j7 g (a7p a l):=by
 unfold v8 a7p;rw[N6];by_cases c:a∈l
 ·rw[aE c,aJ rfl,aJ c];unfold j7;rw[bG];refine cM λx _=>?_
  show (if aH (k8 x) (k8 a)=fx then (k8 x,g a) else (k8 x,g x))=(k8 x,g x);rw[a0W];by_cases e:x=a
  ·rw[aE e,aJ rfl,e]
  ·rw[aT e,aN bc]
 ·rw[aT c,aN c,aN bc];unfold j7;rw[aZ];rfl
def a2c(l:List (List Int)):keysOk fx (j7 g l)=fx:=by
 unfold keysOk j7;rw[bj];intro p hp;obtain⟨q,_,rfl⟩:=aR.mp hp;exact S7 q
def b1A:(j7 g l).map (·.1)=l.map k8:=by unfold j7;rw[bG];rfl
def b7x:a5A neg fx (k8 a) (.dict (j7 g l))=cz (.bool (neg !=decide (a∈l))):=by
 show (if p9 fx (k8 a)&&keysOk fx (j7 g l) then cz (cY (neg !=y8 (j7 g l) (k8 a))) else el)=_;rw[S7,a2c,N6];rfl
def b7y(h:a∈l):a1t fx (.dict (j7 g l)) (k8 a)=cz (g a):=by
 show (if p9 fx (k8 a)&&keysOk fx (j7 g l) then I9 (j7 g l) (k8 a) else el)=_;rw[S7,a2c,a4Y h];rfl
def a5S(hv:fv U=cz (g a))(hk:fk U=cz (k8 a))(hd:U.getD i .none=.dict (j7 g l))(hl:l.length<1000000)(hp:a∉l):P4 i fx fk fv U=cz (.nx (U.set i (.dict (j7 g (a7p a l))))):=by
 rw[b9L hv hk hd (S7 a) (by rw[a3z];exact hl) (b5G (by rw[N6];exact aT hp)),b4m]
end
end Prog
namespace VS
open L2
section
variable {β:Type}[DecidableEq β]{nx:β->Nat->β}{k:Nat}{s:β}{P:β->Prop}{W:a4W β}
def c1R(nx:β->Nat->β)(b:β)(p:List Int):β:=p.foldl (λb a=>nx b a.toNat) b
end
def b4n(Y:List Int)(v x:Int):x∈dQ Y v↔x∈Y\/x=v:=by
 unfold dQ
 split
 ·rename_i h
  refine⟨.inl,λz=>z.elim id λe=>?_⟩;obtain⟨y,h1,h2⟩:=dA.mp h;rw[e,<-fM.mp h2];exact h1
 ·simp
def b6x{Y:List Int}(v:Int)(h:Y.Nodup):(dQ Y v).Nodup:=by
 unfold dQ
 split
 ·exact h
 ·rename_i c
  refine bo.mpr ⟨h,by simp,λa ha b hb=>?_⟩;rw[aq.mp hb];rintro rfl;exact c (dA.mpr ⟨a,ha,eS a⟩)
theorem a3A:∀(l Y:List Int),(∀x,x∈l.foldl dQ Y↔x∈Y\/x∈l)/\(Y.Nodup->(l.foldl dQ Y).Nodup)
 |[],Y=>⟨λx=>by simp,id⟩
 |v::l,Y=>by
  obtain⟨h1,h2⟩:=a3A l (dQ Y v);refine⟨λx=>?_,λh=>h2 (b6x v h)⟩;rw[IC,h1,b4n,aD]
  constructor
  ·rintro ((a|a)|a)
   ·exact .inl a
   ·exact .inr (.inl a)
   ·exact .inr (.inr a)
  ·rintro (a|a|a)
   ·exact .inl (.inl a)
   ·exact .inl (.inr a)
   ·exact .inr a
def a3B(ns:List Int):(aV ns.length).map (λi=>ns.getD i 0)=ns:=by
 refine List.ext_getElem (by simp) λi h1 h2=>?_
 simp[aW,ay h2]
def b6y:x∈dis ns↔x∈ns:=by
 unfold dis lM;rw[a3B,(a3A ns []).1];simp
def b9M(ns:List Int):(dis ns).Nodup:=by
 unfold dis lM;exact (a3A _ []).2 bg
abbrev Inc(b:List Int):Prop:=b.Pairwise (· < ·)
def a0X(ns:List Int):List Int:=srt (dis ns)
def S8:x∈a0X ns↔x∈ns:=by unfold a0X;rw[(v4 _).mem_iff,b6y]
def S9(ns:List Int):Inc (a0X ns):=by
 have h1:=T8 (dis ns);have h2:(srt (dis ns)).Nodup:=(v4 _).nodup_iff.mpr (b9M ns);exact (h1.and h2).imp λ{a b} h=>by have:=h.1;have:=h.2;lia
def a1C(ha:Inc a)(hb:Inc b)(h:∀x,x∈a↔x∈b):a=b:=by
 have hp:a.Perm b:=(jJ (ha.imp λh=>by lia) (hb.imp λh=>by lia)).mpr h;exact hp.eq_of_pairwise (le:=(· < ·)) (λ_ _ _ _ h h'=>by lia) ha hb
def b1B(hb:Inc b):a0X b=b:=a1C (S9 b) hb λx=>S8
def nxS(m:m4)(b:List Int)(a:Nat):List Int:=a0X (b.map λs=>(stp m s a).2)
def SetK(m:m4)(b:List Int):Prop:=Inc b/\b≠[]/\∀s∈b,0<=s/\s<(m.length:Int)
theorem b4o[DecidableEq α]:∀{l L:List α},l.Nodup->(∀x∈l,x∈L)->l.length<=L.length
 |[],_,_,_=>cI _
 |a::l,L,hn,h=>by
  rw[bD]at hn;have ha:=h a ar;have:=b4o (l:=l) (L:=L.erase a) hn.2 λx hx=>(List.mem_erase_of_ne (show x≠a from λe=>hn.1 (e▸hx))).mpr (h x (au _ hx))
  rw[List.length_erase_of_mem ha]at this;have:=uL ha;rw[bu];lia
structure Gat (m:m4) (k:Nat) (b:List Int) (o:Option (List Int)):Prop where
 ok:∀q,o=cz q->(∀a∈q,0<=a/\a<(k:Int))/\(c1R (nxS m) b q).length=1
 least:∀p,(∀a∈p,0<=a/\a<(k:Int))->(c1R (nxS m) b p).length=1->∃q,o=cz q/\(q=p\/bf q p)
end VS
namespace Prog
open L2 VS
def toA(m:m4)(a:Nat)(L:List Int)(x:Int):List Int:=(L.filter λs=>decide ((stp m s a).1=x)).map λs=>(stp m s a).2
def prt(m:m4)(a:Nat)(S:List Int)(x:Int):List Int:=a0X (toA m a S x)
def O5(m:m4)(a:Nat)(S:List Int):Bool:=decide (S.map λs=>stp m s a).Nodup
theorem a3C{α β:Type}{f:α->β}:∀{l:List α},(l.map f).Nodup->∀{x y:α},x∈l->y∈l->f x=f y->x=y
 |[],_,_,_,h,_,_=>nomatch h
 |z::l,hn,x,y,hx,hy,e=>by
  rw[aA,bD]at hn;rcases aD.mp hx with h1|h1
  ·rcases aD.mp hy with h2|h2
   ·rw[h1,h2]
   ·exact absurd (by rw[<-h1,e];exact bE h2) hn.1
  ·rcases aD.mp hy with h2|h2
   ·exact absurd (by rw[<-h2,<-e];exact bE h1) hn.1
   ·exact a3C hn.2 h1 h2 e
theorem a4Z{α β:Type}{f:α->β}:∀{l:List α},l.Nodup->(∀x∈l,∀y∈l,f x=f y->x=y)->(l.map f).Nodup
 |[],_,_=>bg
 |z::l,hn,h=>by
  rw[bD]at hn;rw[aA,bD];refine⟨λq=>?_,a4Z hn.2 λx hx y hy=>h x (au _ hx) y (au _ hy)⟩;obtain⟨y,hy,e⟩:=aR.mp q;exact hn.1 (h z ar y (au _ hy) e.symm▸hy)
section
variable {m:m4}{k a:Nat}{S L:List Int}{x y:Int}
def a2r:y∈toA m a S x↔∃s∈S,stp m s a=(x,y):=by
 unfold toA;rw[aR]
 constructor
 ·rintro⟨s,hs,rfl⟩;have:=bz.mp hs;exact⟨s,this.1,by rw[<-aX this.2]⟩
 ·rintro⟨s,hs,e⟩;exact⟨s,bz.mpr ⟨hs,by rw[e];exact aE rfl⟩,by rw[e]⟩
def a2s:y∈prt m a S x↔∃s∈S,stp m s a=(x,y):=by unfold prt;rw[S8,a2r]
def b6z:Inc (prt m a S x):=S9 _
def a8W(h:(S.map λs=>stp m s a).Nodup):(toA m a S x).Nodup:=by
 have hn:S.Nodup:=xT _ (λa b q e=>q (by rw[e])) h;unfold toA;refine a4Z (hn.filter _) λs hs t ht e=>a3C h (bz.mp hs).1 (bz.mp ht).1 ?_
 have h1:=aX (bz.mp hs).2;have h2:=aX (bz.mp ht).2;exact Prod.ext (by rw[h1,h2]) e
def a5a(h:L.Perm S):O5 m a L=O5 m a S:=by
 unfold O5;rw[fH,cG,cG];exact (h.map _).nodup_iff
theorem SetK.prt(w:WF m k)(h:SetK m S)(ha:a<k)(hs:s∈S):SetK m (prt m a S (stp m s a).1):=by
 refine⟨b6z,λe=>?_,λy hy=>?_⟩
 ·have:(stp m s a).2∈Prog.prt m a S (stp m s a).1:=a2s.mpr ⟨s,hs,rfl⟩;rw[e]at this;cases this
 ·obtain⟨t,ht,e⟩:=a2s.mp hy;have:=h.2.2 t ht;have:=w.nx this.1 this.2 (a:=(a:Int)) (by lia) (by lia);rw[e]at this;exact this
def a9W(h:L.Nodup):srt L=a0X L:=by
 refine a1C ?_ (S9 L) λx=>by rw[S8,(v4 L).mem_iff]
 have h2:(srt L).Nodup:=(v4 L).nodup_iff.mpr h;exact ((T8 L).and h2).imp λ{a b} h=>by have:=h.1;have:=h.2;lia
end
def tst(T:List Int->Bool)(m:m4)(a:Nat)(S:List Int):Bool:=O5 m a S&&S.all λs=>T (prt m a S (stp m s a).1)
def tb(m:m4)(k:Nat):Nat->List Int->Bool
 |0,S=>decide (S.length=1)
 |d+1,S=>tb m k d S||(aV k).any λa=>tst (tb m k d) m a S
def lta(m:m4)(k d:Nat)(S:List Int):Option Nat:=(aV k).find? λa=>tst (tb m k d) m a S
section
variable {m:m4}{k d e:Nat}{S:List Int}
def b7z(h:tb m k d S=fx):tb m k (d+1) S=fx:=by show (tb m k d S||_)=fx;rw[h];rfl
def a0Y(h:tb m k d S=fx)(hl:d<=e):tb m k e S=fx:=by
 induction hl with
 |refl=>exact h
 |step _ ih=>exact b7z ih
def a0Z:tb m k (d+1) S=(tb m k d S||(lta m k d S).isSome):=by
 show (tb m k d S||_)=_
 congr 1;unfold lta;rw[fH,dA,Dd]
def a7q(h:lta m k d S=cz a):a<k/\tst (tb m k d) m a S=fx:=by
 unfold lta at h;exact⟨cC.mp (rM h),ID (p:=λa=>tst (tb m k d) m a S) h⟩
def n8(m:m4)(k:Nat)(S:List Int):D:=if S.length=1 then .none else match (aV 200).find? λe=>(lta m k e S).isSome with
 |some e=>match lta m k e S with
  |some a=>.int a
  |none=>.none
 |none=>.none
def a5T(h1:S.length≠1)(h2:tb m k d S=p4)(h3:lta m k d S=cz a)(hd:d<200):n8 m k S=.int a:=by
 have hf:((aV 200).find? λe=>(lta m k e S).isSome)=cz d:=by
  rw[km];refine⟨by rw[h3];rfl,cC.mpr hd,λj hj=>?_⟩;cases x:lta m k j S with
  |none=>rfl
  |some b=>
   have:tb m k (j+1) S=fx:=by rw[a0Z,x,Bool.or_comm];rfl
   have:=a0Y this (show j+1<=d by lia);rw[h2]at this;cases this
 unfold n8;rw[aN h1,hf];show (match lta m k d S with|some a=>aI a|none=>.none)=_;rw[h3]
theorem b4p:∀(j:Nat),j<=200->tb m k j S=fx->S.length≠1->∃e a,e<j/\a<k/\n8 m k S=.int (a:Nat)/\tst (tb m k e) m a S=fx
 |0,_,h,h1=>absurd (aX h) h1
 |j+1,hj,h,h1=>by
  cases x:tb m k j S with
  |true=>
   obtain⟨e,a,q1,q2⟩:=b4p j (by lia) x h1;exact⟨e,a,by lia,q2⟩
  |false=>
   rw[a0Z,x,sN]at h;obtain⟨a,ha⟩:=dI.mp h;have:=a7q ha;exact⟨j,a,by lia,this.1,a5T h1 x ha (by lia),this.2⟩
end
def lfS(m:m4)(k:Nat)(A:List (List Int))(d:Nat):List (List Int):=A.filter λS=>!tb m k d S
def nwS(m:m4)(k:Nat)(A:List (List Int))(d:Nat):List (List Int):=(lfS m k A d).filter λS=>(lta m k d S).isSome
def kdS(m:m4)(k:Nat)(A:List (List Int)):Nat->List (List Int)
 |0=>A.filter λS=>decide (S.length=1)
 |d+1=>kdS m k A d++nwS m k A d
section
variable {m:m4}{k:Nat}{A:List (List Int)}{d:Nat}{S:List Int}
def U7:S∈lfS m k A d↔S∈A/\tb m k d S=p4:=by
 unfold lfS;rw[bz,jZ]
def a1a:S∈nwS m k A d↔S∈A/\tb m k d S=p4/\(lta m k d S).isSome=fx:=by
 unfold nwS;rw[bz,U7,and_assoc]
theorem E3:∀{d:Nat},S∈kdS m k A d↔S∈A/\tb m k d S=fx
 |0=>by show S∈A.filter _↔_;rw[bz];rfl
 |d+1=>by
  show S∈kdS m k A d++nwS m k A d↔_;rw[aC,E3 (d:=d),a1a,a0Z,ig]
  constructor
  ·rintro (⟨q1,q2⟩|⟨q1,q2,q3⟩)
   ·exact⟨q1,.inl q2⟩
   ·exact⟨q1,.inr q3⟩
  ·rintro⟨q1,q2⟩;cases x:tb m k d S with
   |true=>exact .inl ⟨q1,rfl⟩
   |false=>exact .inr ⟨q1,rfl,q2.resolve_left (by rw[x];decide)⟩
theorem b4q(hA:A.Nodup):∀d,(kdS m k A d).Nodup
 |0=>hA.filter _
 |d+1=>by
  show (kdS m k A d++nwS m k A d).Nodup;rw[bo];refine⟨b4q hA d,(hA.filter _).filter _,λx hx y hy e=>?_⟩;subst e;have h1:=(E3.mp hx).2;rw[(a1a.mp hy).2.1]at h1;cases h1
def a7r:(lfS m k A d).filter (λS=>!decide (S∈nwS m k A d))=lfS m k A (d+1):=by
 have e:∀S∈lfS m k A d,(!decide (S∈nwS m k A d))=!tb m k (d+1) S:=by
  intro S hS;have h:=U7.mp hS
  congr 1;rw[fH,cG,a1a,a0Z,h.2,sN];exact⟨λq=>q.2.2,λq=>⟨h.1,rfl,q⟩⟩
 rw[De e];unfold lfS;rw[List.filter_filter];refine De λS _=>?_
 cases x:tb m k d S with
 |true=>rw[b7z x];rfl
 |false=>simp
def b4r(h:nwS m k A d≠[]):(lfS m k A (d+1)).length<(lfS m k A d).length:=by
 rw[<-a7r];obtain⟨x,hx⟩:=jW _ h;exact List.length_filter_lt_length_iff_exists.mpr ⟨x,(bz.mp hx).1,by rw[aE hx];decide⟩
def b6A(h:nwS m k A d=[])(hS:S∈A)(ha:a<k)(ht:tst (tb m k d) m a S=fx):tb m k d S=fx:=by
 cases x:tb m k d S with
 |true=>rfl
 |false=>
  have:S∈nwS m k A d:=a1a.mpr ⟨hS,x,by unfold lta;rw[Dd];exact⟨a,cC.mpr ha,ht⟩⟩;rw[h]at this;cases this
end
def G7(g:Int->D)(ks:List Int):List (D×D):=ks.map λx=>(aI x,g x)
section
variable {g h:Int->D}{ks:List Int}{x:Int}
def b6B:G7 g ks=kvD g (ks.map λx=>(x,x)):=by unfold G7 kvD;rw[bG];rfl
def b1C:(G7 g ks).map (·.1)=ks.map aI:=by unfold G7;rw[bG];rfl
def b4s:(G7 g ks).length=ks.length:=ao ..
def a5b:y8 (G7 g ks) (.int x)=decide (x∈ks):=by rw[b6B,a5R,bG];congr 2;exact jz ks
def a5c:x∈ks->I9 (G7 g ks) (.int x)=cz (g x):=by
 induction ks with
 |nil=>intro h;cases h
 |cons y ks ih=>
  intro hx;unfold I9 G7 at ih ⊢;rw[aA,fG];show Option.map _ (match aH (.int y) (.int x) with|true=>_|false=>_)=_;rw[a2q];by_cases c:y=x
  ·rw[aE c,c];rfl
  ·rw[aT c];exact ih ((aD.mp hx).resolve_left λz=>c z.symm)
def a2d:keysOk p4 (G7 g ks)=fx:=by
 unfold keysOk G7;rw[bj];intro p hp;obtain⟨q,_,rfl⟩:=aR.mp hp;exact dKey_i q
def b1D(hx:x∉ks->g x=h x):o8 (G7 g ks) (.int x) (h x)=G7 g (a1B x ks):=by
 unfold o8 a1B;rw[a5b];by_cases c:x∈ks
 ·rw[aE c,aJ rfl,aJ c]
 ·rw[aT c,aN bc,aN c,<-hx c];unfold G7;rw[aZ];rfl
def b4t(hx:x∈ks)(hh:∀y,y≠x->h y=g y):v8 (G7 g ks) (.int x) (h x)=G7 h ks:=by
 unfold v8;rw[a5b,aE hx,aJ rfl];unfold G7;rw[bG];refine cM λy _=>?_
 show (if aH (.int y) (.int x)=fx then (aI y,h x) else (aI y,g y))=(aI y,h y);rw[a2q];by_cases c:y=x
 ·rw[aE c,aJ rfl,c]
 ·rw[aT c,aN bc,hh y c]
def b9N(hx:x∈ks):a1t p4 (.dict (G7 g ks)) (.int x)=cz (g x):=by
 show (if p9 p4 (.int x)&&keysOk p4 (G7 g ks) then I9 (G7 g ks) (.int x) else el)=_;rw[dKey_i,a2d,a5c hx];rfl
def a3D{es:List Int}(ha:a U=cz (.dict kvs))(he:kvs.map (·.1)=es.map aI)(hl:es.length<60):D9 a U=cz (iD (srt es)):=by
 unfold D9;rw[ha,bS];show (intsOf (kvs.map (·.1))).bind _=_;rw[he,a0k,bS,aJ (by lia)]
def b6C(hn:ks.Nodup):(a1B x ks).Nodup:=by
 unfold a1B;by_cases c:x∈ks
 ·rw[aJ c];exact hn
 ·rw[aN c,bo];exact⟨hn,by simp,λy hy z hz e=>c (by rw[aq]at hz;rw[<-hz,<-e];exact hy)⟩
end
def ddE(l:List Int):List Int:=l.foldl (λacc x=>a1B x acc) []
def a3E(l:List Int)(x:Int):ddE (l++[x])=a1B x (ddE l):=by unfold ddE;rw[List.foldl_append];rfl
def a5U(l:List Int):y∈ddE l↔y∈l:=by
 induction l using snoc_ind with
 |h0=>exact⟨λh=>(nomatch h),λh=>(nomatch h)⟩
 |h1 l x ih=>rw[a3E,a7o,ih,aC,aq]
def b4u(l:List Int):(ddE l).Nodup:=by
 induction l using snoc_ind with
 |h0=>exact bg
 |h1 l x ih=>rw[a3E];exact b6C ih
def b6D(l:List Int):(ddE l).length<=l.length:=b4o (b4u l) λx hx=>(a5U l).mp hx
abbrev BG:=List (Int×Int)
def gp(m:m4)(a:Nat)(B:BG)(x:Int):BG:=(B.filter λp=>decide ((stp m p.1 a).1=x)).map λp=>((stp m p.1 a).2,p.2)
def anL(m:m4)(a:Nat)(B:BG):List Int:=ddE (B.map λp=>(stp m p.1 a).1)
def bgD(B:BG):D:=.dict (kvD aI B)
def ptD(m:m4)(a:Nat)(B:BG):D:=.dict (G7 (λx=>bgD (gp m a B x)) (anL m a B))
section
variable {m:m4}{a:Nat}{B:BG}{x y:Int}
def Y8:(gp m a B x).map (·.1)=toA m a (B.map (·.1)) x:=by
 unfold gp toA;rw[bG,List.filter_map,bG];rfl
def b9O:y∈(gp m a B x).map (·.1)↔(x,y)∈B.map λp=>stp m p.1 a:=by
 rw[Y8,a2r,aR]
 constructor
 ·rintro⟨s,hs,e⟩;obtain⟨p,hp,rfl⟩:=aR.mp hs;exact⟨p,hp,e⟩
 ·rintro⟨p,hp,e⟩;exact⟨p.1,bE hp,e⟩
def a9X(p:Int×Int):gp m a (B++[p]) x=if (stp m p.1 a).1=x then gp m a B x++[((stp m p.1 a).2,p.2)] else gp m a B x:=by
 unfold gp;rw[gf,aZ];by_cases c:(stp m p.1 a).1=x
 ·rw[aJ c,fW (by exact aE c)];rfl
 ·rw[aN c,fX (by rw[aT c];exact bc)];simp
def b6E(h:x∉anL m a B):gp m a B x=[]:=by
 unfold gp;rw[uM.mpr λp hp c=>h ((a5U _).mpr (aR.mpr ⟨p,hp,aX c⟩))];rfl
def b4v(p:Int×Int):anL m a (B++[p])=a1B (stp m p.1 a).1 (anL m a B):=by unfold anL;rw[aZ];exact a3E _ _
def b7A:(gp m a B x).length<=B.length:=by unfold gp;rw[ao];exact e_ _ _
def a1D:(anL m a B).length<=B.length:=by have:=b6D (B.map λp=>(stp m p.1 a).1);rw[ao]at this;exact this
def Y9:x∈anL m a B↔∃p∈B,(stp m p.1 a).1=x:=by unfold anL;rw[a5U,aR]
def b6F{U:List D}{p:Int×Int}(hd:U.getD i .none=ptD m a B)(hk:fk U=cz (.int (stp m p.1 a).1))(hj:∀x,fj (U.set i x)=cz (.int (stp m p.1 a).2))(hr:∀x,fr (U.set i x)=cz .none)(hv:∀x,fv (U.set i x)=cz (.int p.2))(hl:B.length<1000) :
  a3h i p4 p4 fk fj fr fv U=if stp m p.1 a∈B.map (λp=>stp m p.1 a) then cz (.rt .none) else cz (.nx (U.set i (ptD m a (B++[p])))):=by
 have hg:=b7A (m:=m) (a:=a) (B:=B) (x:=(stp m p.1 a).1);have ha:=a1D (m:=m) (a:=a) (B:=B);have e1:o8 (G7 (λx=>bgD (gp m a B x)) (anL m a B)) (.int (stp m p.1 a).1) (.dict [])=G7 (λx=>bgD (gp m a B x)) (a1B (stp m p.1 a).1 (anL m a B)):=
  b1D (h:=λ_=>bgD []) λq=>by show bgD (gp m a B _)=_;rw[b6E q]
 have kN:(stp m p.1 a).1∈a1B (stp m p.1 a).1 (anL m a B):=a7o.mpr (.inr rfl);unfold a3h;rw[hk,bS,hd];unfold ptD;show (if p9 p4 (.int (stp m p.1 a).1)&&decide ((G7 (λx=>bgD (gp m a B x)) (anL m a B)).length<1000000) then _ else el)=_;rw[dKey_i,b4s,aE (by lia),iU,aJ rfl,hj,bS,e1,a5c kN];show (if p9 p4 (.int (stp m p.1 a).2)&&decide ((kvD aI (gp m a B (stp m p.1 a).1)).length<1000000) then _ else el)=_;rw[dKey_i,a9U,aE (by lia),iU,aJ rfl,a5R];have hm:((stp m p.1 a).2∈(gp m a B (stp m p.1 a).1).map (·.1))↔stp m p.1 a∈B.map (λp=>stp m p.1 a):=b9O;by_cases c:stp m p.1 a∈B.map (λp=>stp m p.1 a)
 ·rw[aE (hm.mpr c),aJ rfl,aJ c,hr];rfl
 ·have hn:=λz=>c (hm.mp z)
  rw[aT hn,aN bc,aN c,hv,bS,b4j (enc:=aI) hn,uK];have e2:v8 (G7 (λx=>bgD (gp m a B x)) (a1B (stp m p.1 a).1 (anL m a B))) (.int (stp m p.1 a).1) (bgD (gp m a (B++[p]) (stp m p.1 a).1))=G7 (λx=>bgD (gp m a (B++[p]) x)) (a1B (stp m p.1 a).1 (anL m a B)):=b4t (h:=λx=>bgD (gp m a (B++[p]) x)) kN λy hy=>by
   show bgD (gp m a (B++[p]) y)=bgD (gp m a B y);rw[a9X,aN λz=>hy z.symm]
  rw[a9X,aJ rfl]at e2;rw[b4v,<-e2];rfl
end
def lev(m:m4)(k:Nat)(S:List Int):Nat:=((aV 200).find? λe=>tb m k e S).getD 0
section
variable {m:m4}{k d e a:Nat}{S:List Int}
def a3F(h:tb m k d S=fx)(hd:d<200):tb m k (lev m k S) S=fx/\lev m k S<=d/\∀e<lev m k S,tb m k e S=p4:=by
 cases x:(aV 200).find? λe=>tb m k e S with
 |none=>exact absurd h (gd.mp x d (cC.mpr hd))
 |some j=>
  have hl:lev m k S=j:=by unfold lev;rw[x];rfl
  rw[hl];rw[km]at x;obtain⟨x1,x2,x3⟩:=x;have x4:∀e<j,tb m k e S=p4:=λe he=>by
   have:=x3 e he
   rwa[jZ]at this
  refine⟨x1,?_,x4⟩;by_cases c:j<=d
  ·exact c
  ·rw[x4 d (by lia)]at h;cases h
def a8X(h:tb m k d S=fx)(hd:d<200):lev m k S<=d:=(a3F h hd).2.1
def b9P(h:tb m k d S=fx)(hd:d<200):tb m k e S=fx↔lev m k S<=e:=by
 obtain⟨h1,h2,h3⟩:=a3F h hd;refine⟨λz=>?_,λz=>a0Y h1 z⟩;by_cases c:lev m k S<=e
 ·exact c
 ·rw[h3 e (by lia)]at z;cases z
def b4w(h:tb m k d S=fx)(hd:d<200):lev m k S=0↔S.length=1:=by
 have:=b9P (e:=0) h hd;rw[Nat.le_zero]at this;rw[<-this];exact decide_eq_true_iff
def b6G(h:tb m k d S=fx)(hd:d<200)(h1:S.length≠1):∃e a,lev m k S=e+1/\lta m k e S=cz a/\n8 m k S=.int (a:Nat):=by
 obtain⟨z1,z2,z3⟩:=a3F h hd;have h0:lev m k S≠0:=λz=>h1 ((b4w h hd).mp z)
 obtain⟨e,he⟩:∃e,lev m k S=e+1:=⟨lev m k S-1,by lia⟩;rw[he]at z1 z2 z3;have hf:=z3 e (by lia);rw[a0Z,hf,sN]at z1;obtain⟨a,ha⟩:=dI.mp z1;exact⟨e,a,he,ha,a5T h1 hf ha (by lia)⟩
end
def b4x(m:m4)(k:Nat)(S:List Int):Nat:=match n8 m k S with
 |.int a=>a.toNat
 |_=>0
def a9Y(h:n8 m k S=.int (a:Nat)):b4x m k S=a:=by
 unfold b4x;rw[h];rfl
def gT(m:m4)(k:Nat):Nat->BG->D
 |0,_=>.none
 |f+1,B=>if B.length=1 then .int (B.getD 0 (0,0)).2 else .tuple [.int (b4x m k (a0X (B.map (·.1))):Nat),.list ((srt (anL m (b4x m k (a0X (B.map (·.1)))) B)).map λx=>.tuple [.int x,gT m k f (gp m (b4x m k (a0X (B.map (·.1)))) B x)])]
structure KB (m:m4) (k:Nat) (B:BG) (S:List Int):Prop where
 set:SetK m S
 mem:∀s,s∈B.map (·.1)↔s∈S
 nd:(B.map (·.1)).Nodup
 told:tb m k 140 S=fx
section
variable {m:m4}{k:Nat}{B:BG}{S:List Int}
def KB.perm(h:KB m k B S):(B.map (·.1)).Perm S:=(jJ h.nd (h.set.1.imp λz=>by lia)).mpr h.mem
def KB.len(h:KB m k B S):B.length=S.length:=by have:=h.perm.length_eq;rw[ao]at this;exact this
def KB.setEq(h:KB m k B S):a0X (B.map (·.1))=S:=a1C (S9 _) h.set.1 λx=>by rw[S8];exact h.mem x
def KB.part(w:WF m k)(h:KB m k B S)(ha:a<k)(ht:tst (tb m k e) m a S=fx)(he:e<=140)(hx:x∈anL m a B):KB m k (gp m a B x) (prt m a S x)/\lev m k (prt m a S x)<=e:=by
 obtain⟨p,hp,wz⟩:=Y9.mp hx;have wB:p.1∈S:=(h.mem p.1).mp (bE hp);unfold tst at ht;rw[av]at ht;have pq:((B.map (·.1)).map λs=>stp m s a).Nodup:=aX (by rw[<-a5a (m:=m) (a:=a) h.perm]at ht;exact ht.1);have h1:tb m k e (prt m a S x)=fx:=by rw[<-wz];exact bj.mp ht.2 p.1 wB
 refine⟨⟨by rw[<-wz];exact SetK.prt w h.set ha wB,λs=>?_,by rw[Y8];exact a8W pq,a0Y h1 he⟩,a8X h1 (by lia)⟩;rw[Y8,a2r,a2s];exact⟨λ⟨q,hq,z⟩=>⟨q,(h.mem q).mp hq,z⟩,λ⟨q,hq,z⟩=>⟨q,(h.mem q).mpr hq,z⟩⟩
def KB.ind(w:WF m k){P:BG->List Int->Prop}(h1:∀(p:Int×Int) (S:List Int),KB m k [p] S->S.length=1->P [p] S)
  (h2:∀(B:BG) (S:List Int) (e a:Nat),KB m k B S->S.length≠1->lev m k S=e+1->lta m k e S=cz a->n8 m k S=.int (a:Nat)->a<k->e<140->(∀x∈anL m a B,KB m k (gp m a B x) (prt m a S x)/\lev m k (prt m a S x)<=e/\P (gp m a B x) (prt m a S x))->P B S) :
  ∀{B:BG} {S:List Int},KB m k B S->P B S:=by
 have key:∀(j:Nat) (B:BG) (S:List Int),lev m k S=j->KB m k B S->P B S:=by
  intro j
  induction j using Iz with
  |_ j ih=>
   intro B S hj h;by_cases c:S.length=1
   ·obtain⟨p,rfl⟩:∃p,B=[p]:=by
     match B,h.len.trans c with
     |[p],_=>exact⟨p,rfl⟩
    exact h1 p S h c
   ·obtain⟨e,a,he,ha,jU⟩:=b6G h.told (by lia) c;have hle:=a8X h.told (by lia);obtain⟨a1,a2⟩:=a7q ha;refine h2 B S e a h c he ha jU a1 (by lia) λx hx=>?_
    obtain⟨p1,p2⟩:=h.part w a1 a2 (by lia) hx;exact⟨p1,p2,ih _ (by lia) _ _ rfl p1⟩
 exact λ{B S} h=>key _ B S rfl h
def a5V:gT m k (f+1) [p]=.int p.2:=rfl
def b6H(h:KB m k B S)(hS:S.length≠1)(jU:n8 m k S=.int (a:Nat)):gT m k (f+1) B=.tuple [.int (a:Nat),.list ((srt (anL m a B)).map λx=>.tuple [.int x,gT m k f (gp m a B x)])]:=by
 show (if B.length=1 then _ else _)=_;rw[aN (by rw[h.len];exact hS),h.setEq,a9Y jU]
end
def J7(S:List Int):imm (k8 S)=fx:=by unfold k8;simp only[imm];exact F9 S
def a8Y(w:WF m k):S6 [.list (m.map rwD)]=cz (.int k):=by
 unfold S6;rw[E9 (by simp[VS.argsOk])];unfold a4R;have hp:=w.pos;walk_at "ev";rw[b6o (by lia) (by lia)];walk_at "ev";rw[w.row (by lia) (by lia)]
def c1S(h:f U=cz (bgD B)):iIt f U=cz (B.map stD):=by
 unfold iIt;rw[h,bS];show (if keysOk p4 (kvD aI B) then cz ((kvD aI B).map a3e) else el)=_;rw[aJ (show keysOk p4 (kvD aI B)=fx from a9V)];unfold kvD;rw[bG];rfl
def a7s{B:BG}{p:Int×Int}:O5 m a ((B++[p]).map (·.1))=(O5 m a (B.map (·.1))&&!decide (stp m p.1 a∈B.map λp=>stp m p.1 a)):=by
 unfold O5;rw[fH,av,cG,cG,bG,bG,aZ,bo,jZ,decide_eq_false_iff_not]
 constructor
 ·rintro⟨h1,_,h3⟩;exact⟨h1,λz=>h3 _ z _ (aq.mpr rfl) rfl⟩
 ·rintro⟨h1,h2⟩;exact⟨h1,by simp,λx hx y hy e=>h2 (by have:=aq.mp hy;subst this;subst e;exact hx)⟩
def b4y{B C:BG}(h:O5 m a ((B++C).map (·.1))=fx):O5 m a (B.map (·.1))=fx:=by
 unfold O5 at h ⊢;rw[cG]at h ⊢;rw[aZ,aZ]at h;exact (bo.mp h).1
section
variable {m:m4}{k:Nat}(w:WF m k){a:Nat}(ha:a<k)
include w ha
theorem a1b(hB:∀p∈B,0<=p.1/\p.1<(m.length:Int))(hl:B.length<1000):A1 [.list (m.map rwD),bgD B,.int a]=cz (if O5 m a (B.map (·.1)) then ptD m a B else .none):=by
 unfold A1;rw[E9 (by simp[VS.argsOk,imm])];unfold a1Z;walk_at "ev";rw[a7g (c1S (B:=B) (by walk_at "ev")) (u6 _ (λ_=>a8Q) _)];walk_at "ev";rcases a4X (enc:=stD) (set:=a6t 4 5) (xs:=B) (g:=(i5 (k9 6 (e2 w6 (e2 dIx (b7 0) (b7 4)) (b7 2))) (i5 (a3h 3 p4 p4 (e2 w6 (b7 6) (eC (.int 0))) (e2 w6 (b7 6) (eC (.int 1))) (eC .none) (b7 5)) p8))) (U:=[.list (m.map rwD),bgD B,.int a,.dict [],.none,.none,.none,.none])
   (λpre U=>O5 m a (pre.map (·.1))=fx/\∃x y z,U=[.list (m.map rwD),bgD B,.int a,ptD m a pre,x,y,z,.none]) (λr=>r=.none/\O5 m a (B.map (·.1))=p4) ⟨rfl,_,_,_,rfl⟩ (by
    rintro pre p post e U ⟨hf,x,y,z,rfl⟩;have hp:=hB p (by rw[e];simp);have hr:=w.row hp.1 hp.2;have fF:pre.length<1000:=by rw[e,bh]at hl;lia
    refine⟨[.list (m.map rwD),bgD B,.int a,ptD m a pre,.int p.1,.int p.2,z,.none],rfl,?_⟩;have hc:k9 6 (e2 w6 (e2 dIx (b7 0) (b7 4)) (b7 2)) [.list (m.map rwD),bgD B,.int a,ptD m a pre,.int p.1,.int p.2,z,.none]=cz (.nx [.list (m.map rwD),bgD B,.int a,ptD m a pre,.int p.1,.int p.2,stD (stp m p.1 a),.none]):=by
     walk_at "ev";rw[b6o hp.1 hp.2];walk_at "ev";rw[c1H (by lia) (by lia)];walk_at "ev";rfl
    have hs:=b6F (m:=m) (a:=a) (B:=pre) (p:=p) (i:=3) (fk:=e2 w6 (b7 6) (eC (.int 0))) (fj:=e2 w6 (b7 6) (eC (.int 1))) (fr:=eC .none) (fv:=b7 5) (U:=[.list (m.map rwD),bgD B,.int a,ptD m a pre,.int p.1,.int p.2,stD (stp m p.1 a),.none]) rfl rfl (λ_=>rfl) (λ_=>rfl) (λ_=>rfl) fF;rw[x9,hc,v7,x9,hs];by_cases c:stp m p.1 a∈pre.map λp=>stp m p.1 a
    ·rw[aJ c];refine .inr ⟨_,rfl,rfl,?_⟩;cases x:O5 m a (B.map (·.1)) with
     |false=>rfl
     |true=>
      have e2:B=(pre++[p])++post:=by rw[e];simp
      rw[e2]at x;have:=b4y x;rw[a7s,aE c,hf]at this;cases this
    ·rw[aN c];refine .inl ⟨_,rfl,?_,_,_,_,rfl⟩;rw[a7s,aT c,hf];rfl) with⟨U',g1,hf,x,y,z,rfl⟩|⟨r,g1,rfl,hf⟩
 ·rw[g1];walk_at "ev";rw[aJ hf]
 ·rw[g1];walk_at "ev";rw[aN (by rw[hf];exact bc)]
end
def bhD(m:m4)(a:Nat)(S:List Int):D:=if O5 m a S then .list ((anL m a (S.zip S)).map λx=>k8 (prt m a S x)) else .none
def N0(S:List Int):(S.zip S).map (·.1)=S:=by rw[oQ (aG _)]
def a3G(h:f U=cz (if l then iD S else k8 S))(hn:S.Nodup)(hl:S.length<1000):L3 l f f U=cz (bgD (S.zip S)):=by
 have hq:b6f l (if l then iD S else k8 S)=cz S:=by cases l<;>exact a0k S
 unfold L3;rw[h,bS,bS,hq,bS,bS,aJ]
 ·rfl
 ·unfold a9I;rw[aE rfl,aE hn,aE (by lia)];rfl
def c1T(h:f U=cz (.dict (G7 g ks))):iVa f U=cz (ks.map g):=by
 unfold iVa;rw[h,bS];show (if keysOk p4 (G7 g ks) then cz ((G7 g ks).map (·.2)) else el)=_;rw[aJ a2d];unfold G7;rw[bG];rfl
section
variable {m:m4}{k:Nat}(w:WF m k)
include w
theorem a3H(hS:SetK m S)(hl:S.length<=30):A6 [.list (m.map rwD),k8 S]=cz (.list ((aV k).map λ(a:Nat)=>bhD m a S)):=by
 have BR:=w.k5;have mx:=w.pos;have ja:S.Nodup:=hS.1.imp λh=>by lia
 unfold A6;rw[E9 (by simp[VS.argsOk,J7])];unfold Z9;walk_at "ev";rw[show iR (eCl S6 (b8 (b7 0) g8)) [.list (m.map rwD),k8 S,.list [],.none,.none]=cz (G9 0 k) by
  rw[a6x (n:=k) (by walk_at "ev";exact a8Y w) (by lia) (by lia),bI]]
 walk_at "ev";refine a2o (λU=>∃x y,U=[.list (m.map rwD),k8 S,.list ((aV k).map λ(a:Nat)=>bhD m a S),x,y]) ?_ ?_
 ·obtain⟨U',g1,x,y,rfl⟩:=F7 (n:=k) (set:=E7 3) (g:=(i5 (k9 4 (eCl A1 (b8 (b7 0) (b8 (L3 p4 (b7 1) (b7 1)) (b8 (b7 3) g8))))) (N9 2 (.l .f) B1 (eIf (tB (e2 (J8 p4) (b7 4) (eC .none))) (eC .none) (r9 (iVa (b7 4)) [] pt1 tT (U9 (D9 (b7 0)))))))) (U:=[.list (m.map rwD),k8 S,.list [],.none,.none])
   (λj U=>∃x y,U=[.list (m.map rwD),k8 S,.list ((aV j).map λ(a:Nat)=>bhD m a S),x,y]) ⟨_,_,rfl⟩ (by
    rintro a ha U ⟨x,y,rfl⟩;have hp:=a1b w ha (B:=S.zip S) (λp hp=>hS.2.2 p.1 (by have:=bE (f:=Prod.fst) hp;rw[N0]at this;exact this)) (by rw[d_];lia);rw[N0]at hp;have hc:k9 4 (eCl A1 (b8 (b7 0) (b8 (L3 p4 (b7 1) (b7 1)) (b8 (b7 3) g8)))) [.list (m.map rwD),k8 S,.list ((aV a).map λ(a:Nat)=>bhD m a S),.int a,y]=cz (.nx [.list (m.map rwD),k8 S,.list ((aV a).map λ(a:Nat)=>bhD m a S),.int a,if O5 m a S then ptD m a (S.zip S) else .none]):=by
     walk_at "ev";rw[a3G (l:=p4) (S:=S) (by rfl) ja (by lia)];walk_at "ev";rw[hp];rfl
    refine⟨_,[.list (m.map rwD),k8 S,.list ((aV (a+1)).map λ(a:Nat)=>bhD m a S),.int a,if O5 m a S then ptD m a (S.zip S) else .none],rfl,?_,_,_,rfl⟩;show (i5 (k9 4 (eCl A1 (b8 (b7 0) (b8 (L3 p4 (b7 1) (b7 1)) (b8 (b7 3) g8))))) (N9 2 (.l .f) B1 (eIf (tB (e2 (J8 p4) (b7 4) (eC .none))) (eC .none) (r9 (iVa (b7 4)) [] pt1 tT (U9 (D9 (b7 0))))))) [.list (m.map rwD),k8 S,.list ((aV a).map λ(a:Nat)=>bhD m a S),.int a,y]=_;rw[x9,hc,v7];have hv:eIf (tB (e2 (J8 p4) (b7 4) (eC .none))) (eC .none) (r9 (iVa (b7 4)) [] pt1 tT (U9 (D9 (b7 0)))) [.list (m.map rwD),k8 S,.list ((aV a).map λ(a:Nat)=>bhD m a S),.int a,if O5 m a S then ptD m a (S.zip S) else .none]=cz (bhD m a S):=by
     cases hf:O5 m a S with
     |false=>
      unfold bhD;rw[hf];rfl
     |true=>
      have jw:(S.map λs=>stp m s a).Nodup:=aX hf;rw[c0V];show b5C (lT (cz (.bool p4))) _ _ _=_;have tD:=a1D (m:=m) (a:=a) (B:=S.zip S);rw[d_]at tD;show (r9 (iVa (b7 4)) [] pt1 tT (U9 (D9 (b7 0)))) [.list (m.map rwD),k8 S,.list ((aV a).map λ(a:Nat)=>bhD m a S),.int a,ptD m a (S.zip S)]=_;rw[a0V (enc:=λx=>bgD (gp m a (S.zip S) x)) (xs:=anL m a (S.zip S)) (λx=>k8 (prt m a S x)) (by exact c1T rfl) (by lia) (λx _=>⟨_,rfl,?_⟩)]
      ·unfold bhD;rw[hf];rfl
      ·have hg:=b7A (m:=m) (a:=a) (B:=S.zip S) (x:=x);rw[d_]at hg;rw[a8P];rw[a3D (kvs:=kvD aI (gp m a (S.zip S) x)) (es:=(gp m a (S.zip S) x).map (·.1)) rfl b4k (by rw[ao];lia),Y8,N0,a9W (a8W jw)];exact a3o
    rw[b2E,hv];show b0B 2 (.list _) (cz (bhD m a S)) _=_;rw[Q3 (by rw[ao,eB];lia),List.range_succ,aZ];rfl)
  exact⟨_,g1,_,_,rfl⟩
 ·rintro U ⟨x,y,rfl⟩;walk_at "ev"
end
def optN:Option Nat->D
 |none=>.none
 |some a=>.int a
def tsl(m:m4)(l:List (List Int))(a:Nat)(S:List Int):Bool:=O5 m a S&&(anL m a (S.zip S)).all λx=>decide (prt m a S x∈l)
theorem a2e:∀(l:List D) (j:Nat),O0 l j=(aV l.length).map λ(s:Nat)=>kl [.int ((j+s:Nat):Int),l.getD s .none]
 |[],j=>rfl
 |d::l,j=>by
  show kl [.int j,d]::O0 l (j+1)=_;rw[a2e l,bu,List.range_succ_eq_map,aA,bG]
  congr 1;refine cM λs _=>?_
  show kl [.int ((j+1+s:Nat):Int),_]=kl [.int ((j+(s+1):Nat):Int),_];rw[show j+1+s=j+(s+1) by lia];rfl
def a7t(f:Nat->D)(k:Nat):O0 ((aV k).map f) 0=(aV k).map λ(a:Nat)=>kl [.int (a:Int),f a]:=by
 rw[a2e,ao,eB];refine cM λa ha=>?_
 rw[Nat.zero_add,aW,aY,jm (cC.mp ha)];rfl
def a1E{S:List Int}(hk:k<=5)(hl:S.length<=30):u7 [.list ((aV k).map λ(a:Nat)=>bhD m a S),.dict (j7 g l)]=cz (optN ((aV k).find? λa=>tsl m l a S)):=by
 unfold u7;rw[E9 (by simp[VS.argsOk])];unfold V3;walk_at "ev";rw[c3n (ds:=(aV k).map λ(a:Nat)=>bhD m a S) (by walk_at "ev"),a7t];walk_at "ev";rcases a4X (enc:=λ(a:Nat)=>kl [.int (a:Int),bhD m a S]) (set:=a6t 2 3) (xs:=aV k) (g:=(sIf (tAn (tB (e2 (J8 fx) (b7 3) (eC .none))) (tV (eCl b0u (b8 (r9 (iL (b7 3)) [1] pt1 tT (e2 (a5A p4 fx) (b7 0) (b7 1))) g8)))) (m9 (eIm (b7 2))) p8)) (U:=[.list ((aV k).map λ(a:Nat)=>bhD m a S),.dict (j7 g l),.none,.none])
   (λpre U=>(∀b∈pre,tsl m l b S=p4)/\∃x y,U=[.list ((aV k).map λ(a:Nat)=>bhD m a S),.dict (j7 g l),x,y]) (λr=>r=optN ((aV k).find? λa=>tsl m l a S)) ⟨λb hb=>(nomatch hb),_,_,rfl⟩ (by
    rintro pre a post e U ⟨hb,x,y,rfl⟩;obtain⟨r1,r2,r3⟩:=a1Y e;refine⟨[.list ((aV k).map λ(a:Nat)=>bhD m a S),.dict (j7 g l),.int a,bhD m a S],rfl,?_⟩;have ht:(tAn (tB (e2 (J8 fx) (b7 3) (eC .none))) (tV (eCl b0u (b8 (r9 (iL (b7 3)) [1] pt1 tT (e2 (a5A p4 fx) (b7 0) (b7 1))) g8)))) [.list ((aV k).map λ(a:Nat)=>bhD m a S),.dict (j7 g l),.int a,bhD m a S]=cz (tsl m l a S):=by
     unfold tsl;cases hf:O5 m a S with
     |false=>
      have:bhD m a S=.none:=by unfold bhD;rw[hf];rfl
      rw[this];rfl
     |true=>
      have F_:bhD m a S=.list ((anL m a (S.zip S)).map λx=>k8 (prt m a S x)):=by unfold bhD;rw[hf];rfl
      have tD:=a1D (m:=m) (a:=a) (B:=S.zip S);rw[d_]at tD;rw[F_];walk_at "ev";rw[a0V (enc:=λx=>k8 (prt m a S x)) (xs:=anL m a (S.zip S)) (λx=>cY ((λx=>decide (prt m a S x∈l)) x)) (by walk_at "ev") (by lia) (λx _=>⟨_,rfl,?_⟩)]
      ·walk_at "ev";rw[v_all (λx=>decide (prt m a S x∈l))];rfl
      ·walk_at "ev";rw[b7x];simp
    rw[b2D,ht];cases x:tsl m l a S with
    |false=>exact .inl ⟨_,rfl,λb kM=>(aC.mp kM).elim (hb b) λq=>by rw[aq.mp q];exact x,_,_,rfl⟩
    |true=>
     refine .inr ⟨.int a,rfl,?_⟩;have:((aV k).find? λa=>tsl m l a S)=cz a:=by
      rw[km];refine⟨x,cC.mpr r2,λj hj=>?_⟩;rw[hb j (by rw[r3];exact cC.mpr hj)];rfl
     rw[this];rfl) with⟨U',g1,hb,x,y,rfl⟩|⟨r,g1,rfl⟩
 ·rw[g1];walk_at "ev";rw[gd.mpr λa ha=>by rw[hb a ha];exact bc];rfl
 ·rw[g1];walk_at "ev"
def b9Q:dIn neg fx (k8 a) (.dict (j7 g l))=cz (.bool (neg !=decide (a∈l))):=by
 show (if p9 fx (k8 a) then cz (cY (neg !=y8 (j7 g l) (k8 a))) else el)=_;rw[S7,N6];rfl
def b9R(h:a U=cz (.dict (j7 g l))):tVD a U=cz !l.isEmpty:=by
 unfold tVD;rw[h];cases l<;>rfl
def b9S{U:List D}(hi:U.getD i .none=.dict (j7 g l))(hj:U.getD j .none=.dict (j7 g l'))(ik:l≠[])(hd:∀p∈l',p∉l)(hl:l.length+l'.length<=1000000):b0Q i j U=cz (.nx (U.set i (.dict (j7 g (l++l'))))):=by
 unfold b0Q;rw[hi,hj];show (if !(j7 g l).isEmpty&&((j7 g l').all λp=>!y8 (j7 g l) p.1)&&decide ((j7 g l).length+(j7 g l').length<=1000000) then _ else el)=_;rw[aJ]
 ·unfold j7;rw[aZ]
 ·rw[a3z,a3z,aE hl,fN,av]
  constructor
  ·cases l with
   |nil=>exact absurd rfl ik
   |cons _ _=>rfl
  ·rw[bj];intro p hp;unfold j7 at hp;obtain⟨q,hq,rfl⟩:=aR.mp hp;rw[N6,aT (hd q hq)];rfl
def a1c{l L:List (List Int)}{f:List Int->Option Nat}(hg:∀S∈L,gm [k8 S,.dict (j7 g l)]=cz (optN (f S)))(hv:∀S∈L,∀a,f S=cz a->g S=.int a)(hn:L.Nodup)(hl:L.length<=1000):p6 gm [.dict (j7 g l),.list (L.map k8)]=cz (.dict (j7 g (L.filter λS=>(f S).isSome))):=by
 unfold p6;rw[b7v (by simp[VS.argsOk])];show Z2 (K1 gm [.dict (j7 g l),.list (L.map k8),.none,.none,.none,.none])=_;unfold K1;walk_at "ev";rw[a7g (ds:=L.map k8) (by walk_at "ev") (u6 _ J7 _)];walk_at "ev";refine a2o (λU=>∃x y,U=[.dict (j7 g l),.list (L.map k8),.none,.dict (j7 g (L.filter λS=>(f S).isSome)),x,y]) ?_ ?_
 ·obtain⟨U',g1,x,y,rfl⟩:=R8 (enc:=k8) (set:=E7 4) (xs:=L) (g:=(i5 (k9 5 (eCl gm (b8 (b7 4) (b8 (b7 0) g8)))) (sIf (tB (e2 (J8 fx) (b7 5) (eC .none))) (P4 3 fx (b7 4) (b7 5)) p8))) (U:=[.dict (j7 g l),.list (L.map k8),.none,.dict [],.none,.none])
   (λpre U=>∃x y,U=[.dict (j7 g l),.list (L.map k8),.none,.dict (j7 g (pre.filter λS=>(f S).isSome)),x,y]) ⟨_,_,rfl⟩ (by
    rintro pre S post e U ⟨x,y,rfl⟩;have hS:S∈L:=by rw[e];simp
    have hp:=hg S hS;have lC:S∉pre:=by
     rw[e]at hn;have:=bo.mp hn;exact λz=>this.2.2 S z S ar rfl
    have hlen:(pre.filter λS=>(f S).isSome).length<1000000:=by
     have h1:=e_ (λS=>(f S).isSome) pre;have h2:pre.length<=L.length:=by rw[e];simp
     lia
    have hc:k9 5 (eCl gm (b8 (b7 4) (b8 (b7 0) g8))) [.dict (j7 g l),.list (L.map k8),.none,.dict (j7 g (pre.filter λS=>(f S).isSome)),k8 S,y]=cz (.nx [.dict (j7 g l),.list (L.map k8),.none,.dict (j7 g (pre.filter λS=>(f S).isSome)),k8 S,optN (f S)]):=by
     walk_at "ev";rw[hp];walk_at "ev"
    refine⟨_,[.dict (j7 g l),.list (L.map k8),.none,.dict (j7 g ((pre++[S]).filter λS=>(f S).isSome)),k8 S,optN (f S)],rfl,?_,_,_,rfl⟩;show (i5 (k9 5 (eCl gm (b8 (b7 4) (b8 (b7 0) g8)))) (sIf (tB (e2 (J8 fx) (b7 5) (eC .none))) (P4 3 fx (b7 4) (b7 5)) p8)) [.dict (j7 g l),.list (L.map k8),.none,.dict (j7 g (pre.filter λS=>(f S).isSome)),k8 S,y]=_;rw[x9,hc,v7,gf];cases x:f S with
    |none=>
     rw[fX (by rw[x];exact bc),IE,bH];rfl
    |some a=>
     rw[fW (by rw[x];rfl),IE];show P4 3 fx (b7 4) (b7 5) [.dict (j7 g l),.list (L.map k8),.none,.dict (j7 g (pre.filter λS=>(f S).isSome)),k8 S,.int a]=_;rw[a5S (g:=g) (a:=S) (l:=pre.filter λS=>(f S).isSome) (by rw[hv S hS a x];rfl) rfl rfl hlen λz=>lC (bz.mp z).1];unfold a7p;rw[aN λz=>lC (bz.mp z).1];rfl)
  exact⟨_,g1,_,_,rfl⟩
 ·rintro U ⟨x,y,rfl⟩;walk_at "ev"
section
variable {m:m4}{k:Nat}{A:List (List Int)}(hA:A.Nodup)(xA:A.length<=150)(h1:kdS m k A 0≠[])(hok:J0 (j7 (n8 m k) (kdS m k A 0))=fx)
include hA xA h1 hok
theorem a0p(Fy:∀d,d<=150->∀S∈lfS m k A d,gm [k8 S,.dict (j7 (n8 m k) (kdS m k A d))]=cz (optN (lta m k d S))):∃d,s9 gm [.dict (j7 (n8 m k) (kdS m k A 0)),.list ((lfS m k A 0).map k8)]=cz (.dict (j7 (n8 m k) (kdS m k A d)))/\nwS m k A d=[]/\d<=(lfS m k A 0).length:=by
 have yg:∀d,(lfS m k A d).length<=150:=λd=>cx (e_ _ _) xA
 have BQ:∀d,(kdS m k A d).length<=150:=λd=>cx (b4o (b4q hA d) λx hx=>(E3.mp hx).1) xA
 have round:∀d,d<=150->p6 gm [.dict (j7 (n8 m k) (kdS m k A d)),.list ((lfS m k A d).map k8)]=cz (.dict (j7 (n8 m k) (nwS m k A d))):=λd hd=>a1c (f:=lta m k d) (Fy d hd) (λS hS a ha=>by
  have mX:=U7.mp hS;exact a5T (λz=>by have:=a0Y (show tb m k 0 S=fx from aE z) (cI d);rw[mX.2]at this;cases this) mX.2 ha (by lia)) (hA.filter _) (by have:=yg d;lia)
 have hu:s9 gm [.dict (j7 (n8 m k) (kdS m k A 0)),.list ((lfS m k A 0).map k8)]=Z2 (J3 gm [.dict (j7 (n8 m k) (kdS m k A 0)),.list ((lfS m k A 0).map k8),.none,.none,.none]):=by
  unfold s9;rw[b7v (by simp[VS.argsOk])];rfl
 rw[hu];unfold J3;walk_at "ev";rw[show a5H (b7 0) [.dict (j7 (n8 m k) (kdS m k A 0)),.list ((lfS m k A 0).map k8),.none,.none,.none]=cz (.dict (j7 (n8 m k) (kdS m k A 0))) by
  show (if J0 (j7 (n8 m k) (kdS m k A 0)) then cz (be.dict (j7 (n8 m k) (kdS m k A 0))) else el)=_;rw[aJ hok]]
 walk_at "ev";rw[b7w (ds:=[.dict (j7 (n8 m k) (kdS m k A 0)),.list ((lfS m k A 0).map k8)]) (by walk_at "ev"),round 0 (by lia)];walk_at "ev";obtain⟨U',g1,d,x,y,oh,hd,rfl⟩:=a9T (c:=(tVD (b7 4))) (g:=(i5 (b0Q 3 4) (i5 (k9 1 (r9 (iI (iL (b7 1))) [4] pt1 (tB (e2 (dIn fx fx) (b7 0) (b7 1))) (b7 0))) (k9 4 (b0W p6 gm (b8 (b7 3) (b8 (b7 1) g8)))))))
  (I:=λd U=>d+(lfS m k A d).length<=(lfS m k A 0).length/\U=[.dict (j7 (n8 m k) (kdS m k A 0)),.list ((lfS m k A d).map k8),.none,.dict (j7 (n8 m k) (kdS m k A d)),.dict (j7 (n8 m k) (nwS m k A d))])
  (Q:=λU=>∃d x y,nwS m k A d=[]/\d<=(lfS m k A 0).length/\U=[.dict (j7 (n8 m k) (kdS m k A 0)),x,.none,.dict (j7 (n8 m k) (kdS m k A d)),y]) 1000 (by
   rintro d U ⟨hd,rfl⟩;have h0:=yg 0;refine⟨by lia,?_⟩;have ht:tVD (b7 4) [.dict (j7 (n8 m k) (kdS m k A 0)),.list ((lfS m k A d).map k8),.none,.dict (j7 (n8 m k) (kdS m k A d)),.dict (j7 (n8 m k) (nwS m k A d))]=cz !(nwS m k A d).isEmpty:=b9R rfl;by_cases hV:nwS m k A d=[]
   ·refine .inl ⟨by rw[ht,hV];rfl,d,_,_,hV,by lia,rfl⟩
   ·have wJ:=b4r hV;refine .inr ⟨by rw[ht];cases e:nwS m k A d with|nil=>exact absurd e hV|cons _ _=>rfl,[.dict (j7 (n8 m k) (kdS m k A 0)),.list ((lfS m k A (d+1)).map k8),.none,.dict (j7 (n8 m k) (kdS m k A (d+1))),.dict (j7 (n8 m k) (nwS m k A (d+1)))],?_,by lia,rfl⟩;have hu:=b9S (i:=3) (j:=4) (U:=[.dict (j7 (n8 m k) (kdS m k A 0)),.list ((lfS m k A d).map k8),.none,.dict (j7 (n8 m k) (kdS m k A d)),.dict (j7 (n8 m k) (nwS m k A d))]) (g:=n8 m k) (l:=kdS m k A d) (l':=nwS m k A d) rfl rfl (λz=>by
      obtain⟨S,hS⟩:=jW _ h1;have q:=E3.mp hS;have:S∈kdS m k A d:=E3.mpr ⟨q.1,a0Y q.2 (cI _)⟩;rw[z]at this;cases this) (λp hp hk=>by
      have h2:=(E3.mp hk).2;rw[(a1a.mp hp).2.1]at h2;cases h2) (by have:=BQ d;have:=yg d;have:=e_ (λS=>(lta m k d S).isSome) (lfS m k A d);unfold nwS;lia)
    have hc:r9 (iI (iL (b7 1))) [4] pt1 (tB (e2 (dIn fx fx) (b7 0) (b7 1))) (b7 0) [.dict (j7 (n8 m k) (kdS m k A 0)),.list ((lfS m k A d).map k8),.none,.dict (j7 (n8 m k) (kdS m k A d++nwS m k A d)),.dict (j7 (n8 m k) (nwS m k A d))]=cz (.list ((lfS m k A (d+1)).map k8)):=by
     rw[b6w (enc:=k8) (xs:=lfS m k A d) (λS=>!decide (S∈nwS m k A d)) k8 ?_ (by have:=yg d;lia),a7r]
     ·intro S hS;refine⟨_,rfl,?_,λ_=>rfl⟩;show tB (e2 (dIn fx fx) (b7 0) (b7 1)) [k8 S,.dict (j7 (n8 m k) (nwS m k A d))]=_;walk_at "ev";rw[b9Q];cases decide (S∈nwS m k A d)<;>rfl
     ·rw[a7g (ds:=(lfS m k A d).map k8) (by walk_at "ev") (u6 _ J7 _)]
    rw[x9,hu];walk_at "ev";rw[hc];walk_at "ev";rw[b7w (ds:=[.dict (j7 (n8 m k) (kdS m k A (d+1))),.list ((lfS m k A (d+1)).map k8)]) (by walk_at "ev";rfl),round (d+1) (by lia)];walk_at "ev";rfl) 1000000 0 [.dict (j7 (n8 m k) (kdS m k A 0)),.list ((lfS m k A 0).map k8),.none,.dict (j7 (n8 m k) (kdS m k A 0)),.dict (j7 (n8 m k) (nwS m k A 0))] ⟨by lia,rfl⟩ (by lia)
 rw[b6s,g1];walk_at "ev";exact⟨d,rfl,oh,hd⟩
end
end Prog
local macro_rules | `(tactic| walk_at "evn")=>`(tactic| first | (walk_at "ev";repeat (simp -implicitDefEqProofs (disch:=first | omega | assumption | decide) only [VS.a5N,VS.a5O];try walk_at "ev")) | (simp -implicitDefEqProofs (disch:=first | omega | assumption | decide) only [VS.a5N,VS.a5O];repeat (first | walk_at "ev" | simp -implicitDefEqProofs (disch:=first | omega | assumption | decide) only [VS.a5N,VS.a5O])))
namespace VS
open L2
def B4:Nat->List (List Int)
 |0=>[[]]
 |j+1=>B4 j++(B4 j).map λS=>S++[(j:Int)]
def sts(n:Nat):List (List Int):=(B4 n).drop 1
theorem K3:∀{j:Nat} {S:List Int},S∈B4 j↔S.Pairwise (· < ·)/\∀s∈S,0<=s/\s<(j:Int)
 |0,S=>by
  show S∈[[]]↔_;rw[aq]
  constructor
  ·rintro rfl;exact⟨iC,λs hs=>(nomatch hs)⟩
  ·rintro⟨_,h⟩;cases S with
   |nil=>rfl
   |cons s r=>have:=h s ar;lia
 |j+1,S=>by
  show S∈B4 j++(B4 j).map _↔_;rw[aC,aR]
  constructor
  ·rintro (h|⟨T,h,rfl⟩)
   ·have:=K3.mp h;exact⟨this.1,λs hs=>by have:=this.2 s hs;lia⟩
   ·have:=K3.mp h;refine⟨iY.mpr ⟨this.1,by simp,λa ha b hb=>?_⟩,λs hs=>?_⟩
    ·have:=this.2 a ha;rw[aq]at hb;lia
    ·rcases aC.mp hs with z|z
     ·have:=this.2 s z;lia
     ·rw[aq]at z;lia
  ·rintro⟨h1,h2⟩;by_cases c:(j:Int)∈S
   ·refine .inr ⟨S.filter λs=>decide (s<(j:Int)),K3.mpr ⟨h1.filter _,λs hs=>?_⟩,?_⟩
    ·have:=bz.mp hs;exact⟨(h2 s this.1).1,aX this.2⟩
    ·refine a1C (iY.mpr ⟨h1.filter _,by simp,λa ha b hb=>?_⟩) h1 λx=>?_
     ·rw[aq]at hb;rw[hb];exact aX (bz.mp ha).2
     ·rw[aC,bz,aq,cG]
      constructor
      ·rintro (z|z)
       ·exact z.1
       ·rw[z];exact c
      ·intro z;have:=h2 x z;by_cases e:x=j
       ·exact .inr e
       ·exact .inl ⟨z,by lia⟩
   ·refine .inl (K3.mpr ⟨h1,λs hs=>⟨(h2 s hs).1,?_⟩⟩);have:=h2 s hs;have:s≠(j:Int):=λe=>c (e▸hs)
    lia
theorem a0q:∀n,B4 n=[]::sts n
 |0=>rfl
 |n+1=>by
  unfold sts;show B4 n++_=[]::List.drop 1 (B4 n++_);rw[a0q n];rfl
theorem a3I:∀n,n<8->(B4 n).Nodup
 |0,_=>by show [[]].Nodup;simp
 |j+1,h=>by
  show (B4 j++(B4 j).map _).Nodup;have ih:=a3I j (by lia);rw[bo];refine⟨ih,?_,λx hx y hy e=>?_⟩
  ·exact Dg _ (λa b qf e=>qf (List.append_cancel_right e)) ih
  ·obtain⟨T,_,rfl⟩:=aR.mp hy;have:=(K3.mp hx).2 (j:Int) (by rw[e];simp);lia
theorem a1F:∀n,(B4 n).length=2^n
 |0=>rfl
 |j+1=>by
  show (B4 j++(B4 j).map _).length=_;rw[bh,ao,a1F j,Nat.pow_succ];lia
def a7u(h:n<=7):(B4 n).length<=128:=by
 rw[a1F];exact Nat.pow_le_pow_right (by decide) h
def b6I:∀n,n<8->(sts n).length<=127:=λn h=>by
 have:=a7u (n:=n) (by lia);unfold sts;rw[kJ];lia
def c1U:∀n,n<8->((sts n).filter λS=>!decide (S.length=1)).length<=120:=by decide +kernel
def b9T(h:n<=7):(sts n).Nodup:=by
 have:=a3I n (by lia);rw[a0q]at this;exact (bD.mp this).2
def Z0{m:m4}(h:m.length<=7):S∈sts m.length↔SetK m S:=by
 have hn:=a3I m.length (by lia);have h1:=K3 (j:=m.length) (S:=S);rw[a0q]at hn h1;rw[aD]at h1
 constructor
 ·intro q;have:=h1.mp (.inr q);exact⟨this.1,λe=>(bD.mp hn).1 (e▸q),this.2⟩
 ·rintro⟨q1,q2,q3⟩;exact (h1.mpr ⟨q1,q3⟩).resolve_left q2
end VS
namespace Prog
open L2 VS
theorem a3J:∀{l:List α},(∀a∈l,p a=q a)->l.find? p=l.find? q
 |[],_=>rfl
 |x::l,h=>by
  rw[fG,fG,h x ar,a3J λa ha=>h a (au _ ha)]
def SetK.len(h:SetK m b):b.length<=m.length:=a2a (h.1.imp λz=>by lia) h.2.2
def b6J{a b:List Int}(h:a.length+b.length<=1000000):a0J (.tuple (a.map .int)) (.tuple (b.map .int))=cz (.tuple ((a++b).map .int)):=by
 cases a with
 |nil=>exact a6w (by simp only[imm];exact F9 _)
 |cons x a=>
  show (if (!(((x::a).map aI)).isEmpty&&decide (((x::a).map aI).length+(b.map aI).length<=1000000))=fx then V6 (.tuple ((x::a).map .int++b.map .int)) else el)=_;rw[aJ (by rw[ao,ao,aE h];rfl),<-aZ];exact a6w (by simp only[imm];exact F9 _)
def b1E{S:List Int}(h:S.length<1000):a0J (k8 S) (.tuple [.int j])=cz (k8 (S++[j])):=b6J (a:=S) (b:=[j]) (by simp;lia)
def b6K:∀n,n<8->1<=n->J0 (j7 (λ_=>.none) ((sts n).filter λS=>decide (S.length=1)))=fx:=by decide +kernel
def b4z:∀n,n<8->1<=n->((sts n).filter λS=>decide (S.length=1))≠[]:=by decide +kernel
def b6L(h:n<8)(h1:1<=n):J0 (j7 (n8 m k) (kdS m k (sts n) 0))=fx:=by
 have:j7 (n8 m k) (kdS m k (sts n) 0)=j7 (λ_=>.none) ((sts n).filter λS=>decide (S.length=1)):=by
  unfold j7 kdS;refine cM λS hS=>?_
  rw[show n8 m k S=.none from aJ (aX (bz.mp hS).2)]
 rw[this];exact b6K n h h1
def a8Z(n:Nat)(h:n<=7):Y6 [.int n]=cz (.list ((sts n).map k8)):=by
 unfold Y6;rw[E9 (by simp[VS.argsOk,imm])];unfold a4P;walk_at "ev";rw[a6x (n:=n) (by walk_at "ev") (by lia) (by lia),bI];walk_at "ev";refine a2o (λU=>∃x,U=[.int n,.list ((B4 n).map k8),x]) ?_ ?_
 ·obtain⟨U',g1,x,rfl⟩:=F7 (n:=n) (set:=E7 2) (g:=(k9 1 (eI (a3T (b7 1) (r9 (iI (iL (b7 1))) [2] pt1 tT (e2 a0J (b7 0) (J9 (b8 (b7 1) g8)))))))) (U:=[.int n,.list [.tuple []],.none])
   (λj U=>∃x,U=[.int n,.list ((B4 j).map k8),x]) ⟨_,rfl⟩ (by
    rintro j hj U ⟨x,rfl⟩;have hl:=a7u (n:=j) (by lia);refine⟨_,[.int n,.list ((B4 (j+1)).map k8),.int j],rfl,?_,_,rfl⟩;show (k9 1 (eI (a3T (b7 1) (r9 (iI (iL (b7 1))) [2] pt1 tT (e2 a0J (b7 0) (J9 (b8 (b7 1) g8))))))) [.int n,.list ((B4 j).map k8),.int j]=_;have hc:(r9 (iI (iL (b7 1))) [2] pt1 tT (e2 a0J (b7 0) (J9 (b8 (b7 1) g8)))) [.int n,.list ((B4 j).map k8),.int j]=cz (.list (((B4 j).map λS=>S++[(j:Int)]).map k8)):=by
     rw[a0V (enc:=k8) (xs:=B4 j) (λS=>k8 (S++[(j:Int)])) (a7g (by walk_at "ev") (u6 _ J7 _)) (by lia) λS hS=>⟨_,rfl,?_⟩]
     ·rw[bG];rfl
     ·have hm:=K3.mp hS;have mw:=a2a (n:=j) (hm.1.imp λz=>by lia) hm.2;show e2 a0J (b7 0) (J9 (b8 (b7 1) g8)) [k8 S,.int j]=_;walk_at "ev";exact b1E (by lia)
    rw[Z6,a9O,b4a,hc];walk_at "ev";rw[a8O (by rw[ao,ao,ao];lia),<-aZ,a7f (u6 _ J7 _)];rfl)
  exact⟨_,g1,_,rfl⟩
 ·rintro U ⟨x,rfl⟩;have hl:0<(B4 n).length:=by rw[a1F];exact Nat.pow_pos (by decide)
  walk_at "ev";rw[c1D];walk_at "ev";rw[b7t,b7s];walk_at "ev";rw[c1E,b7r,b9F (by lia) (by rw[ao];lia),show (1:Int).toNat=1 from rfl,<-List.map_drop,a7f (u6 _ J7 _)];rfl
def bvD(m:m4)(k:Nat)(S:List Int):D:=.list ((aV k).map λ(a:Nat)=>bhD m a S)
section
variable {m:m4}{k:Nat}(w:WF m k)(h5:m.length<=7)
include w h5
theorem b9U(ha:a<k)(hS:SetK m S):tsl m (kdS m k (sts m.length) d) a S=tst (tb m k d) m a S:=by
 unfold tsl tst
 congr 1;rw[fH,bj,bj];have key:∀s∈S,(decide (prt m a S (stp m s a).1∈kdS m k (sts m.length) d)=fx↔tb m k d (prt m a S (stp m s a).1)=fx):=λs hs=>by
  rw[cG,E3,Z0 h5];exact⟨λq=>q.2,λq=>⟨SetK.prt w hS ha hs,q⟩⟩
 constructor
 ·intro q s hs;refine (key s hs).mp (q _ (Y9.mpr ?_));have:s∈(S.zip S).map (·.1):=by rw[N0];exact hs
  obtain⟨p,hp,rfl⟩:=aR.mp this;exact⟨p,hp,rfl⟩
 ·intro q x hx;obtain⟨p,hp,rfl⟩:=Y9.mp hx;have hs:p.1∈S:=by have:=bE (f:=Prod.fst) hp;rw[N0]at this;exact this
  exact (key p.1 hs).mpr (q p.1 hs)
theorem SetK.le5(hS:SetK m S):S.length<=7:=cx (SetK.len hS) h5
theorem a4b:∃d,J4 [.list (m.map rwD)]=cz (.dict (j7 (n8 m k) (kdS m k (sts m.length) d)))/\nwS m k (sts m.length) d=[]/\d<=120:=by
 have mx:=w.pos;have BR:=w.k5;have xA:=b6I m.length (by lia);have hA:=b9T h5;obtain⟨d,r1,r2,r3⟩:=a0p (m:=m) (k:=k) hA (by lia) (b4z m.length (by lia) mx) (b6L (by lia) mx) (gm:=fnE [.i,.f] ([2].map λj=>([.list (m.map rwD),.dict (j7 (n8 m k) (kdS m k (sts m.length) 0)),.dict (j7 (bvD m k) (lfS m k (sts m.length) 0)),.none]:List D).getD j .none) (eCl u7 (b8 (e2 (a1t fx) (b7 2) (b7 0)) (b8 (b7 1) g8)))) (λd hd S hS=>by
  have mX:=U7.mp hS;have hK:=(Z0 h5).mp mX.1;rw[c1Q (by simp[VS.argsOk,J7])];show eCl u7 (b8 (e2 (a1t fx) (b7 2) (b7 0)) (b8 (b7 1) g8)) [k8 S,.dict (j7 (n8 m k) (kdS m k (sts m.length) d)),.dict (j7 (bvD m k) (lfS m k (sts m.length) 0))]=_;walk_at "ev";rw[b7y (U7.mpr ⟨mX.1,by cases x:tb m k 0 S with|false=>rfl|true=>have:=a0Y x (cI d);rw[mX.2]at this;cases this⟩)];walk_at "ev";have mw:=SetK.le5 w h5 hK;rw[show bvD m k S=.list ((aV k).map λ(a:Nat)=>bhD m a S) from rfl,a1E BR (by lia)];unfold lta;rw[a3J λa ha=>b9U w h5 (cC.mp ha) hK])
 refine⟨d,?_,r2,cx r3 (c1U m.length (by lia))⟩;unfold J4;rw[E9 (by simp[VS.argsOk])];unfold a0R;walk_at "ev";rw[a7g (ds:=(sts m.length).map k8) (by walk_at "ev";rw[a8Z _ h5];walk_at "ev") (u6 _ J7 _)];walk_at "ev";refine a2o (λU=>∃x,U=[.list (m.map rwD),.dict (j7 (n8 m k) (kdS m k (sts m.length) 0)),.dict (j7 (bvD m k) (lfS m k (sts m.length) 0)),x]) ?_ ?_
 ·obtain⟨U',g1,x,rfl⟩:=R8 (enc:=k8) (set:=E7 3) (xs:=sts m.length) (g:=(sIf (tB (e2 dEq (eCl G6 (b8 (b7 3) g8)) (eC (.int 1)))) (P4 1 fx (b7 3) (eC .none)) (P4 2 fx (b7 3) (eCl A6 (b8 (b7 0) (b8 (b7 3) g8)))))) (U:=[.list (m.map rwD),.dict [],.dict [],.none])
   (λpre U=>∃x,U=[.list (m.map rwD),.dict (j7 (n8 m k) (kdS m k pre 0)),.dict (j7 (bvD m k) (lfS m k pre 0)),x]) ⟨_,rfl⟩ (by
    rintro pre S post e U ⟨x,rfl⟩;have Gg:S∈sts m.length:=by rw[e];simp
    have hK:=(Z0 h5).mp Gg;have mw:=SetK.le5 w h5 hK;have lC:S∉pre:=by
     rw[e]at hA;have:=bo.mp hA;exact λz=>this.2.2 S z S ar rfl
    have fF:pre.length<=127:=by rw[e,bh]at xA;lia
    have l1:(kdS m k pre 0).length<=pre.length:=e_ _ _;have l2:(lfS m k pre 0).length<=pre.length:=e_ _ _;refine⟨_,[.list (m.map rwD),.dict (j7 (n8 m k) (kdS m k (pre++[S]) 0)),.dict (j7 (bvD m k) (lfS m k (pre++[S]) 0)),k8 S],rfl,?_,_,rfl⟩;show (sIf (tB (e2 dEq (eCl G6 (b8 (b7 3) g8)) (eC (.int 1)))) (P4 1 fx (b7 3) (eC .none)) (P4 2 fx (b7 3) (eCl A6 (b8 (b7 0) (b8 (b7 3) g8))))) [.list (m.map rwD),.dict (j7 (n8 m k) (kdS m k pre 0)),.dict (j7 (bvD m k) (lfS m k pre 0)),k8 S]=_;have hlen:G6 [k8 S]=cz (.int S.length):=by show cz (aI ((S.map aI).length:Nat))=_;rw[ao]
    walk_at "ev";rw[hlen];walk_at "ev";by_cases c:S.length=1
    ·rw[aE (show (S.length:Int)=1 by lia)];walk_at "ev";rw[a5S (g:=n8 m k) (a:=S) (l:=kdS m k pre 0) (by rw[show n8 m k S=.none from aJ c];rfl) rfl rfl (by lia) λz=>lC (E3.mp z).1];have e1:kdS m k (pre++[S]) 0=a7p S (kdS m k pre 0):=by
      unfold a7p;rw[aN λz=>lC (E3.mp z).1];unfold kdS;rw[gf,fW (by exact aE c)];rfl
     have e2:lfS m k (pre++[S]) 0=lfS m k pre 0:=by
      unfold lfS;rw[gf,fX (by show ¬ (!decide (S.length=1))=fx;rw[aE c];decide)];simp
     rw[e1,e2];rfl
    ·rw[aT (show ¬ (S.length:Int)=1 by lia)];walk_at "ev";rw[a5S (g:=bvD m k) (a:=S) (l:=lfS m k pre 0) (by walk_at "ev";rw[a3H w hK (by lia)];rfl) rfl rfl (by lia) λz=>lC (U7.mp z).1];have e1:kdS m k (pre++[S]) 0=kdS m k pre 0:=by
      unfold kdS;rw[gf,fX (by rw[aT c];decide)];simp
     have e2:lfS m k (pre++[S]) 0=a7p S (lfS m k pre 0):=by
      unfold a7p;rw[aN λz=>lC (U7.mp z).1];unfold lfS;rw[gf,fW (by show (!decide (S.length=1))=fx;rw[aT c];rfl)];rfl
     rw[e1,e2];rfl)
  exact⟨_,g1,_,rfl⟩
 ·rintro U ⟨x,rfl⟩;walk_at "ev";have sg:a8A (b7 2) [.list (m.map rwD),.dict (j7 (n8 m k) (kdS m k (sts m.length) 0)),.dict (j7 (bvD m k) (lfS m k (sts m.length) 0)),x]=cz (.list ((lfS m k (sts m.length) 0).map k8)):=by
   show (if g9 ((j7 (bvD m k) (lfS m k (sts m.length) 0)).map (·.1)) then cz (ia ((j7 (bvD m k) (lfS m k (sts m.length) 0)).map (·.1))) else el)=_;rw[b1A,aJ (u6 _ J7 _)]
  rw[c1P (ds:=[.dict (j7 (n8 m k) (kdS m k (sts m.length) 0)),.list ((lfS m k (sts m.length) 0).map k8)]) (by walk_at "ev";rw[sg];walk_at "ev")];rw[show s9 (fnE [.i,.f] (List.map (λj=>([.list (m.map rwD),.dict (j7 (n8 m k) (kdS m k (sts m.length) 0)),.dict (j7 (bvD m k) (lfS m k (sts m.length) 0)),x]:List D).getD j .none) [2]) (eCl u7 (b8 (e2 (a1t fx) (b7 2) (b7 0)) (b8 (b7 1) g8)))) [.dict (j7 (n8 m k) (kdS m k (sts m.length) 0)),.list ((lfS m k (sts m.length) 0).map k8)]=_ from r1];walk_at "ev"
end
def a7v{m:m4}(h7:m.length<=7):B3 [.list (m.map rwD)]=cz .none:=by
 unfold B3;rw[b4f (by simp[VS.argsOk])];unfold P5;walk_at "evn";rw[aT (show ¬ (7:Int)<m.length by lia)];walk_at "evn"
end Prog
namespace VS
open L2
def b1F{ns:List Int}(h:a U=cz (.list (ns.map .int)))(hl:ns.length<64):a0I a U=cz (.list ((a0X ns).map .int)):=by
 unfold a0I;rw[h];show (intsOf (ns.map .int)).bind _=_;rw[a0k];show (if ns.length<64 then _ else el)=_;rw[aJ hl];rfl
def In(m:m4)(b:List Int):Prop:=Inc b/\∀s∈b,0<=s/\s<(m.length:Int)
def two{b:List Int}(h:1<b.length):∃s t r,b=s::t::r:=by
 match b,h with
 |s::t::r,_=>exact⟨s,t,r,rfl⟩
def a5W{b:List Int}(h:j<b.length):L2.atI (b.map aI) (j:Int)=cz (.int (b.getD j 0)):=by
 have:=O2 (ns:=b) (j:=(j:Int)) (by lia) (by lia)
 rwa[bI]at this
def b6M(h:a U=cz (.int n))(hn:n<=1000):a1u a U=cz (.list (((aV n).map λ(s:Nat)=>(s:Int)).map .int)):=by
 unfold a1u;rw[h,bS];show (cz (n:Int)).bind _=_;rw[bS,aJ ⟨by lia,by lia⟩,bI,a1x];rw[bG];rfl
end VS
namespace Prog
open L2 VS
abbrev LGA(m:m4)(k d:Nat)(B:BG)(t:List D):List D:=.list (m.map rwD)::.dict (j7 (n8 m k) (kdS m k (sts m.length) d))::bgD B::t
section
variable {m:m4}{k:Nat}(w:WF m k)(h5:m.length<=7){d:Nat}(hd:d<=120)
include w h5 hd
theorem b4A:∀(j:Nat),j<=d->∀(B:BG) (S:List Int),SetK m S->(∀s,s∈B.map (·.1)↔s∈S)->(B.map (·.1)).Nodup->tb m k j S=fx->∀f,j<f->M9 f (LGA m k d B [])=cz (gT m k f B):=by
 intro j
 induction j using Iz with
 |_ j ih=>
  intro hj B S hS hB hn ht f hf;obtain⟨f,rfl⟩:∃q,f=q+1:=⟨f-1,by lia⟩;have mw:=SetK.le5 w h5 hS;have s_:(B.map (·.1)).Perm S:=(jJ hn (hS.1.imp λh=>by lia)).mpr hB;have As:B.length=S.length:=by have:=s_.length_eq;rw[ao]at this;exact this
  have hu:M9 (f+1) (LGA m k d B [])=Z2 (a5Q (M9 f) (LGA m k d B [.none,.none,.none,.none])):=by
   show fnD _ _ _ _=_;rw[E9 (by simp[VS.argsOk])];rfl
  rw[hu];unfold a5Q;have hlen:b2I [bgD B]=cz (.int B.length):=by show cz (aI ((kvD aI B).length:Nat))=_;rw[a9U]
  walk_at "ev";rw[hlen];walk_at "ev";by_cases c:S.length=1
  ·rw[aE (show (B.length:Int)=1 by lia)];obtain⟨p,rfl⟩:∃p,B=[p]:=by
    match B,As.trans c with
    |[p],_=>exact⟨p,rfl⟩
   walk_at "ev";rw[b6v (W:=[p]) rfl];rfl
  ·rw[aT (show ¬ (B.length:Int)=1 by lia)];walk_at "ev";obtain⟨e,a,he,ha,jU,rZ⟩:=b4p j (by lia) ht c;have ju:U9 (D9 (b7 2)) (LGA m k d B [.none,.none,.none,.none])=cz (k8 S):=by
    rw[a8P,a3D (kvs:=kvD aI B) (es:=B.map (·.1)) rfl b4k (by rw[ao];lia),a9W hn,show a0X (B.map (·.1))=S from a1C (S9 _) hS.1 λx=>by rw[S8];exact hB x];exact a3o
   have kN:S∈kdS m k (sts m.length) d:=E3.mpr ⟨(Z0 h5).mpr hS,a0Y ht hj⟩;rw[ju];walk_at "ev";rw[b7y kN,jU];walk_at "ev";unfold tst at rZ;rw[av]at rZ;have pq:O5 m a (B.map (·.1))=fx:=by rw[a5a s_];exact rZ.1
   rw[a1b w ha (λp hp=>hS.2.2 p.1 ((hB p.1).mp (bE hp))) (by lia),aJ pq];walk_at "ev";have tD:=a1D (m:=m) (a:=a) (B:=B);have zp:D9 (b7 4) (LGA m k d B [.int a,ptD m a B,.list [],.none])=cz (iD (srt (anL m a B))):=a3D (kvs:=G7 (λx=>bgD (gp m a B x)) (anL m a B)) rfl b1C (by lia);rw[a7g (ds:=(srt (anL m a B)).map .int) (by rw[b6m,zp];rfl) (F9 _)];walk_at "ev";have uu:((B.map (·.1)).map λs=>stp m s a).Nodup:=aX pq;obtain⟨U',g1,x,rfl⟩:=R8 (enc:=aI) (set:=E7 6) (xs:=srt (anL m a B)) (g:=(N9 5 (.l .f) B1 (J9 (b8 (b7 6) (b8 (eCl (M9 f) (b8 (b7 0) (b8 (b7 1) (b8 (e2 (a1t p4) (b7 4) (b7 6)) g8)))) g8))))) (U:=(LGA m k d B [.int a,ptD m a B,.list [],.none]))
    (λpre U=>∃x:D,U=(LGA m k d B [.int a,ptD m a B,.list (pre.map λx=>.tuple [.int x,gT m k f (gp m a B x)]),x])) ⟨_,rfl⟩ (by
     rintro pre x post e9 U ⟨y,rfl⟩;have hx:x∈anL m a B:=(v4 _).mem_iff.mp (by rw[e9];simp);obtain⟨p,hp,wz⟩:=Y9.mp hx;have wB:p.1∈S:=(hB p.1).mp (bE hp);have fF:pre.length<=31:=by
      have h1:=dY gN e9;rw[(v4 _).length_eq,bh]at h1;lia
     have zm:=ih e he (by lia) (gp m a B x) (prt m a S x) (by rw[<-wz];exact SetK.prt w hS ha wB) (λs=>by
      rw[Y8,a2r,a2s];exact⟨λ⟨q,hq,z⟩=>⟨q,(hB q).mp hq,z⟩,λ⟨q,hq,z⟩=>⟨q,(hB q).mpr hq,z⟩⟩) (by rw[Y8];exact a8W uu) (by rw[<-wz];exact bj.mp rZ.2 p.1 wB) f (by lia)
     rw[aZ];generalize wX:(pre.map λx=>(.tuple [.int x,gT m k f (gp m a B x)]:D))=ds;have Ad:ds.length=pre.length:=by rw[<-wX,ao]
     refine⟨_,(LGA m k d B [.int a,ptD m a B,.list (ds++[.tuple [.int x,gT m k f (gp m a B x)]]),.int x]),rfl,?_,_,rfl⟩;have hv:J9 (b8 (b7 6) (b8 (eCl (M9 f) (b8 (b7 0) (b8 (b7 1) (b8 (e2 (a1t p4) (b7 4) (b7 6)) g8)))) g8)) (LGA m k d B [.int a,ptD m a B,.list ds,.int x])=cz (.tuple [.int x,gT m k f (gp m a B x)]):=by
      walk_at "ev";rw[show a1t p4 (ptD m a B) (.int x)=cz (bgD (gp m a B x)) from b9N hx];walk_at "ev";rw[zm];walk_at "ev"
     show N9 5 (.l .f) B1 _ (LGA m k d B [.int a,ptD m a B,.list ds,.int x])=_;rw[b2E,hv];show b0B 5 (.list ds) (cz (.tuple [.int x,gT m k f (gp m a B x)])) _=_;rw[Q3 (by lia)];rfl)
   rw[g1];walk_at "ev";have ub:a0X (B.map (·.1))=S:=a1C (S9 _) hS.1 λx=>by rw[S8];exact hB x
   show _=cz (if B.length=1 then _ else _);rw[aN (by lia),ub,a9Y jU]
theorem a7w(sj:J4 [.list (m.map rwD)]=cz (.dict (j7 (n8 m k) (kdS m k (sts m.length) d))))(hS:SetK m S):A7 [.list (m.map rwD),iD S]=cz (if S∈kdS m k (sts m.length) d then gT m k 121 (S.zip S) else .none):=by
 have mw:=SetK.le5 w h5 hS;have ja:S.Nodup:=hS.1.imp λh=>by lia
 unfold A7;rw[E9 (by simp[VS.argsOk])];unfold a0b;walk_at "ev";rw[sj];walk_at "ev";rw[show U9 (b7 1) [.list (m.map rwD),iD S,.dict (j7 (n8 m k) (kdS m k (sts m.length) d))]=cz (k8 S) by rw[a8P];exact a3o];walk_at "ev";rw[b7x];by_cases c:S∈kdS m k (sts m.length) d
 ·rw[aE c,aJ c];walk_at "ev";rw[a3G (l:=fx) (S:=S) rfl ja (by lia)];walk_at "ev";rw[b4A w h5 hd d (aG _) (S.zip S) S hS (λs=>by rw[N0]) (by rw[N0];exact ja) (E3.mp c).2 121 (by lia)];rfl
 ·rw[aT c,aN c];walk_at "ev"
end
def c1V{s:Int}:O1 [.int s]=cz (.bool fx):=by
 unfold O1;rw[E9 (by simp[VS.argsOk])];unfold a3p;walk_at "ev"
def a9Z(h0:0<=s)(h1:s<(n:Int)):p5 [.int s,.int n]=cz (.bool fx):=by
 unfold p5;rw[E9 (by simp[VS.argsOk,imm])];unfold a0n;walk_at "ev";rw[c1V];walk_at "ev";rw[aE h0];walk_at "ev";rw[aE h1]
def b1G{m:m4}(h7:m.length<=7)(hb:SetK m b):a0P [.list (b.map .int),.int m.length]=cz (.bool fx):=by
 have H_:=SetK.len hb;have mx:0<b.length:=List.length_pos_iff.mpr hb.2.1;unfold a0P;rw[E9 (by simp[VS.argsOk,imm])];unfold a7k;walk_at "ev";rw[show E2 [.list (b.map .int),.int m.length]=cz (.bool fx) by
  unfold E2;rw[E9 (by simp[VS.argsOk,imm])];unfold V1;walk_at "ev";rw[aE (show (1:Int)<=b.length by lia)];walk_at "ev";rw[aE (show (b.length:Int)<=m.length by lia)]]
 walk_at "ev";rw[a0V (enc:=aI) (xs:=b) (λs=>cY ((λ_=>fx) s)) (a7g (by walk_at "ev") (u6 _ (λ_=>a0C) _)) (by lia) (λs hs=>⟨_,rfl,?_⟩)]
 ·walk_at "ev";rw[v_all (λ_=>fx) b,bj.mpr (λ_ _=>rfl)];walk_at "ev";rw[b1F (ns:=b) (by walk_at "ev") (by lia),b1B hb.1];walk_at "ev";rw[show dEq (.list (b.map .int)) (.list (b.map .int))=_ from b7q (xs:=b) (ys:=b),aE rfl];walk_at "ev"
 ·have:=hb.2.2 s hs;walk_at "ev";exact a9Z this.1 this.2
def a9a{m:m4}(h7:m.length<=7)(hS:SetK m S):K2 [.list (m.map rwD),iD S]=A7 [.list (m.map rwD),iD S]:=by
 unfold K2;rw[E9 (by simp[VS.argsOk])];unfold a4T;walk_at "ev";rw[a7v h7];walk_at "ev";rw[show U4 [.list (m.map rwD),.list (S.map .int)]=cz .none by
  unfold U4;rw[b4f (by simp[VS.argsOk])];unfold a3r;walk_at "evn";rw[b1G h7 hS];walk_at "evn"]
 walk_at "ev";cases A7 [.list (m.map rwD),.list (S.map .int)]<;>rfl
section
variable {m:m4}{k:Nat}(w:WF m k)
include w
theorem b6N(hc:0<=c):∃s,m_law_set [.int c,.int m.length]=cz (.list (s.map .int))/\SetK m s:=by
 have mx:=w.pos;have hle:=w.le;unfold m_law_set;rw[E9 (by simp[VS.argsOk,imm])];unfold b_law_set;walk_at "ev";rw[a6x (n:=m.length) (by walk_at "ev") (by lia) (by lia),bI];walk_at "ev";refine R6 (R:=λo=>∃s,o=cz (.list (s.map .int))/\SetK m s) (λU=>∃(c:Int) (s:List Int) (x:D),In m s/\U=[.int c,.int m.length,.list (s.map .int),x]) ?_ ?_
 ·obtain⟨U',g1,c',s,x,pP,hI,gQ,mw,rfl⟩:=F7 (n:=m.length) (set:=E7 3) (g:=(i5 (sIf (tB (e2 dEq (e2 A9 (b7 0) (eC (.int 2))) (eC (.int 1)))) (N9 2 (.l .i) B1 (b7 3)) p8) (k9 0 (e2 V5 (b7 0) (eC (.int 2)))))) (U:=[.int c,.int m.length,.list [],.none])
   (λj U=>∃(c:Int) (s:List Int) (x:D),0<=c/\Inc s/\(∀t∈s,0<=t/\t<(j:Int))/\s.length<=j/\U=[.int c,.int m.length,.list (s.map .int),x]) ⟨c,[],_,hc,iC,λt ht=>(nomatch ht),aG _,rfl⟩ (by
    rintro j hj U ⟨c,s,x,hc,hI,gQ,mw,rfl⟩;by_cases h:c % 2=1
    ·refine⟨_,[.int (c / 2),.int m.length,.list ((s++[(j:Int)]).map .int),.int j],rfl,?_,c / 2,s++[(j:Int)],_,by lia,?_,?_,by rw[bh];simp;lia,rfl⟩
     ·walk_at "ev";rw[aE h];walk_at "ev";rw[Q3 (by rw[ao];lia),aZ];walk_at "ev"
     ·refine iY.mpr ⟨hI,iw _ _,λa ha b hb=>?_⟩;rw[aq.mp hb];exact (gQ a ha).2
     ·intro t ht;rcases aC.mp ht with z|z
      ·have:=gQ t z;lia
      ·rw[aq.mp z];lia
    ·refine⟨_,[.int (c / 2),.int m.length,.list (s.map .int),.int j],rfl,?_,c / 2,s,_,by lia,hI,λt ht=>by have:=gQ t ht;lia,by lia,rfl⟩;walk_at "ev";rw[aT h];walk_at "ev")
  exact⟨_,g1,c',s,x,⟨hI,gQ⟩,rfl⟩
 ·rintro U ⟨c,s,x,hI,rfl⟩;cases s with
  |nil=>
   refine⟨[(m.length:Int)-1],?_,iw _ _,by simp,λt ht=>by rw[aq.mp ht];lia⟩;walk_at "ev";rw[show dEq (.list []) (.list [])=cz (.bool fx) from rfl];walk_at "ev"
  |cons s0 s=>
   refine⟨s0::s,?_,hI.1,by simp,hI.2⟩;walk_at "ev";rw[show dEq (.list (.int s0::s.map .int)) (.list [])=cz (.bool (decide ((s0::s)=[]))) from b7q (xs:=s0::s) (ys:=[]),aT (by simp)];walk_at "ev"
end
def a1d(v:Int):m_law_whole [.int v]=cz (.bool fx):=by
 unfold m_law_whole;rw[E9 (by simp[VS.argsOk])];unfold b_law_whole;walk_at "ev"
def brD(p:Int×D):D:=.tuple [.int p.1,p.2]
def ndD(a:Nat)(l:List (Int×D)):D:=.tuple [.int (a:Nat),.list (l.map brD)]
def b0a(h:KB m k B S)(hS:S.length≠1)(jU:n8 m k S=.int (a:Nat)):gT m k (f+1) B=ndD a ((srt (anL m a B)).map λx=>(x,gT m k f (gp m a B x))):=by
 rw[b6H h hS jU];unfold ndD;rw[bG];rfl
theorem a9b:∀{l:List (Int×D)},(∀p∈l,p.2.canLay0=fx)->aU (l.map brD)=fx
 |[],_=>rfl
 |p::l,h=>by simp only[aA,aU,brD,cf,h p ar,iU,fN,a9b λq hq=>h q (au _ hq)]
theorem a3K:∀{l:List (Int×D)},(∀p∈l,p.2.depth<=n)->cu (l.map brD)<=n+1
 |[],_=>cI _
 |p::l,h=>by
  have h1:=h p ar;have h2:=a3K λq hq=>h q (au _ hq)
  simp only[aA,cu,brD,dG]at h2 ⊢;lia
def b9V(w:WF m k)(h:KB m k B S):∀f,lev m k S<f->(gT m k f B).canLay0=fx/\(gT m k f B).depth<=3*lev m k S:=by
 refine KB.ind w (P:=λB S=>∀f,lev m k S<f->(gT m k f B).canLay0=fx/\(gT m k f B).depth<=3*lev m k S) (λp S h hS f hf=>?_) (λB S e a h hS he _ jU _ _ hp f hf=>?_) h
 ·obtain⟨f,rfl⟩:∃q,f=q+1:=⟨f-1,by lia⟩;rw[a5V];exact⟨a5M,by rw[N5];lia⟩
 ·obtain⟨f,rfl⟩:∃q,f=q+1:=⟨f-1,by lia⟩;have key:∀p∈(srt (anL m a B)).map λx=>(x,gT m k f (gp m a B x)),p.2.canLay0=fx/\p.2.depth<=3*e:=λp zw=>by
   obtain⟨x,hx,rfl⟩:=aR.mp zw;obtain⟨_,q2,q3⟩:=hp x ((v4 _).mem_iff.mp hx);obtain⟨z1,z2⟩:=q3 f (by lia);exact⟨z1,cx z2 (by lia)⟩
  have hd:=a3K λp hp=>(key p hp).2
  rw[b0a h hS jU,he];unfold ndD;simp only[cf,aU,dG,cu,a9b λp hp=>(key p hp).1,gk];exact⟨trivial,by lia⟩
abbrev b6O(rc:List D->Option D):EvS:=(sIf (Z1 (tNo (tV (e1 (λd=>cz (.bool (x8 d))) (b7 2)))) (Z1 (tB (e2 dNe (eCl G6 (b8 (b7 2) g8)) (eC (.int 2)))) (tNo (tV (eCl rc (b8 (e2 dIx (b7 2) (eC (.int 1))) (b8 (b7 1) g8))))))) (m9 (eC (.bool p4))) p8)
def a5X(ha:a<k)(ik:l≠[])(si:(ndD a l).canLay0=fx)(w_:(ndD a l).depth<=450)(h:∀p∈l,m_law_is_tree f [p.2,.int k]=cz (.bool fx)):m_law_is_tree (f+1) [ndD a l,.int k]=cz (.bool fx):=by
 have hT:x8 (ndD a l)=fx:=rfl;have h2:G6 [ndD a l]=cz (.int 2):=rfl;have h0:dIx (ndD a l) (.int 0)=cz (.int (a:Nat)):=rfl;have h1:dIx (ndD a l) (.int 1)=cz (.list (l.map brD)):=rfl;have h3:decide ((0:Int)<=(a:Nat))=fx:=aE (by lia);have h4:decide (((a:Nat):Int)<(k:Nat))=fx:=aE (by lia);have hq:dNe (.list (l.map brD)) (.list [])=cz (.bool fx):=by
  unfold ndD at si w_;simp only[cf,aU,fN,iU,dG,cu]at si w_;rw[b7o (by simp only[cf];exact si) (by simp only[cf,aU]) (by simp only[dG];lia)];cases l with
  |nil=>exact absurd rfl ik
  |cons y ys=>simp only[aA,aH,cX,Bool.not_false]
 show fnD _ _ _ _=_;rw[E9 (by simp[VS.argsOk,imm])];unfold b_law_is_tree;generalize ndD a l=T at hT h2 h0 h1;have main:=R8 (enc:=brD) (set:=E7 2) (xs:=l) (g:=b6O (m_law_is_tree f)) (U:=[T,.int k,.none]) (λ_ U=>∃x,U=[T,.int k,x]) ⟨_,rfl⟩ (by
  rintro pre p post e U ⟨x,rfl⟩;refine⟨_,[T,.int k,brD p],rfl,?_,_,rfl⟩;show b6O (m_law_is_tree f) [T,.int k,brD p]=_;have hp:=h p (by rw[e];simp);have b1:dIx (brD p) (.int 1)=cz p.2:=rfl;have b2:G6 [brD p]=cz (.int 2):=rfl;have bT:x8 (brD p)=fx:=rfl;unfold b6O;generalize brD p=R at b1 b2 bT
  repeat (first|rw[bT]|rw[b2]|rw[b1]|rw[hp]|walk_at "ev"))
 obtain⟨U',g1,x,rfl⟩:=main;unfold b6O at g1
 repeat (first|rw[hT]|rw[h2]|rw[h0]|rw[a1d]|rw[h3]|rw[h4]|rw[h1]|rw[g1]|rw[hq]|walk_at "ev")
def a7x:m_law_is_tree (f+1) [.int i,.int k]=cz (.bool fx):=by
 show fnD _ _ _ _=_;rw[E9 (by simp[VS.argsOk,imm])];unfold b_law_is_tree
 repeat (first|rw[a1d]|walk_at "ev")
section
variable {m:m4}{k:Nat}{B:BG}{S:List Int}
def a9c(w:WF m k)(h:KB m k B S):∀f f',lev m k S<f->lev m k S<f'->lev m k S<=120->m_law_is_tree f' [gT m k f B,.int k]=cz (.bool fx):=by
 refine KB.ind w (P:=λB S=>∀f f',lev m k S<f->lev m k S<f'->lev m k S<=120->m_law_is_tree f' [gT m k f B,.int k]=cz (.bool fx)) (λp S h hS f f' hf jw h4=>?_) (λB S e a h hS he ha jU hk kr hp f f' hf jw h4=>?_) h
 ·obtain⟨f,rfl⟩:∃q,f=q+1:=⟨f-1,by lia⟩;obtain⟨f',rfl⟩:∃q,f'=q+1:=⟨f'-1,by lia⟩;rw[a5V];exact a7x
 ·obtain⟨f,rfl⟩:∃q,f=q+1:=⟨f-1,by lia⟩;obtain⟨f',rfl⟩:∃q,f'=q+1:=⟨f'-1,by lia⟩;obtain⟨l1,l2⟩:=b9V w h (f+1) (by lia);rw[b0a h hS jU]at l1 l2 ⊢;have hB:B≠[]:=λz=>by
   have:=h.len;rw[z]at this;exact h.set.2.1 (dR.mp this.symm)
  obtain⟨p0,E_⟩:=jW B hB;have sW:=(v4 (anL m a B)).mem_iff.mpr (Y9.mpr ⟨p0,E_,rfl⟩);refine a5X hk (λz=>?_) l1 (by lia) λq hq=>?_
  ·rw[List.map_eq_nil_iff]at z;rw[z]at sW;cases sW
  ·obtain⟨x,hx,rfl⟩:=aR.mp hq;obtain⟨_,q2,q3⟩:=hp x ((v4 _).mem_iff.mp hx);exact q3 f f' (by lia) (by lia) (by lia)
end
def a9d{l:List (Int×D)}(hl:l.length<=30)(h:∀p∈l,∃d,m_law_shown f [p.2]=cz d):m_law_shown (f+1) [ndD a l]=cz (.list [.int (a:Nat),.list ((l.map λp=>(p.1,(m_law_shown f [p.2]).getD .none)).map brD)]):=by
 have hT:x8 (ndD a l)=fx:=rfl;have h0:dIx (ndD a l) (.int 0)=cz (.int (a:Nat)):=rfl;have h1:dIx (ndD a l) (.int 1)=cz (.list (l.map brD)):=rfl;show fnD _ _ _ _=_;rw[E9 (by simp[VS.argsOk])];unfold b_law_shown;generalize ndD a l=T at hT h0 h1;have hc:r9 (iL (e2 dIx (b7 0) (eC (.int 1)))) [] pt2 tT (J9 (b8 (eIm (b7 0)) (b8 (eCl (m_law_shown f) (b8 (b7 1) g8)) g8))) [T]=cz (.list ((l.map λp=>(p.1,(m_law_shown f [p.2]).getD .none)).map brD)):=by
  rw[a0V (enc:=brD) (xs:=l) (λp=>brD (p.1,(m_law_shown f [p.2]).getD .none)) (by walk_at "ev";rw[h1];rfl) (by lia) λp hp=>⟨[.int p.1,p.2],rfl,?_⟩,bG]
  ·rfl
  ·obtain⟨d,hd⟩:=h p hp;show J9 (b8 (eIm (b7 0)) (b8 (eCl (m_law_shown f) (b8 (b7 1) g8)) g8)) [.int p.1,p.2]=_;rw[b7g,b2C,b7k (d:=.int p.1) rfl (by simp only[imm])];walk_at "ev";rw[hd];rfl
 have hi:eIm (e2 dIx (b7 0) (eC (.int 0))) [T]=cz (.int (a:Nat)):=b7k (by show dIx T (.int 0)=_;exact h0) (by simp only[imm])
 repeat (first|rw[hT]|rw[hi]|rw[hc]|walk_at "ev")
def shown_int:m_law_shown (f+1) [.int i]=cz (.int i):=by
 show fnD _ _ _ _=_;rw[E9 (by simp[VS.argsOk])];unfold b_law_shown;walk_at "ev";rfl
section
variable {m:m4}{k:Nat}{B:BG}{S:List Int}
def b4B(w:WF m k)(h:KB m k B S):∀f f',lev m k S<f->lev m k S<f'->∃d,m_law_shown f' [gT m k f B]=cz d/\d.canLay0=fx/\d.depth<=3*lev m k S:=by
 refine KB.ind w (P:=λB S=>∀f f',lev m k S<f->lev m k S<f'->∃d,m_law_shown f' [gT m k f B]=cz d/\d.canLay0=fx/\d.depth<=3*lev m k S) (λp S h hS f f' hf jw=>?_) (λB S e a h hS he ha jU hk kr hp f f' hf jw=>?_) h
 ·obtain⟨f,rfl⟩:∃q,f=q+1:=⟨f-1,by lia⟩;obtain⟨f',rfl⟩:∃q,f'=q+1:=⟨f'-1,by lia⟩;rw[a5V];exact⟨_,shown_int,a5M,by rw[N5];lia⟩
 ·obtain⟨f,rfl⟩:∃q,f=q+1:=⟨f-1,by lia⟩;obtain⟨f',rfl⟩:∃q,f'=q+1:=⟨f'-1,by lia⟩;have tD:=a1D (m:=m) (a:=a) (B:=B);have As:=h.len;have:=SetK.len h.set;have:=w.le;have key:∀p∈(srt (anL m a B)).map λx=>(x,gT m k f (gp m a B x)),∃d,m_law_shown f' [p.2]=cz d/\d.canLay0=fx/\d.depth<=3*e:=λp zw=>by
   obtain⟨x,hx,rfl⟩:=aR.mp zw;obtain⟨_,q2,q3⟩:=hp x ((v4 _).mem_iff.mp hx);obtain⟨d,z1,z2,z3⟩:=q3 f f' (by lia) (by lia);exact⟨d,z1,z2,cx z3 (by lia)⟩
  rw[b0a h hS jU,he];refine⟨_,a9d (by rw[ao,(v4 _).length_eq];lia) λp hp=>by obtain⟨d,z,_⟩:=key p hp;exact⟨d,z⟩,?_,?_⟩
  ·simp only[cf,aU,fN,iU];refine a9b λq hq=>?_
   obtain⟨p,hp,rfl⟩:=aR.mp hq;obtain⟨d,z1,z2,_⟩:=key p hp;rw[z1];exact z2
  ·have hd:=a3K (n:=3*e) (l:=((srt (anL m a B)).map λx=>(x,gT m k f (gp m a B x))).map λp=>(p.1,(m_law_shown f' [p.2]).getD .none)) λq hq=>by
    obtain⟨p,hp,rfl⟩:=aR.mp hq;obtain⟨d,z1,_,z3⟩:=key p hp;rw[z1];exact z3
   simp only[dG,cu];lia
end
def lkp(l:List (Int×D))(x:Int):Option D:=(l.find? λp=>p.1==x).map (·.2)
def a1e:lkp (p::l) x=if p.1=x then cz p.2 else lkp l x:=by
 unfold lkp;rw[fG];by_cases c:p.1=x
 ·rw[aJ c,show (p.1==x)=fx from fM.mpr c];rfl
 ·rw[aN c,show (p.1==x)=p4 from eH.mpr c]
theorem b4C{g:Int->D}:∀{ks:List Int},x∈ks->lkp (ks.map λx=>(x,g x)) x=cz (g x)
 |k::ks,h=>by
  rw[aA,a1e];by_cases c:k=x
  ·rw[aJ c,c]
  ·rw[aN c];exact b4C ((aD.mp h).resolve_left λz=>c z.symm)
theorem b0b{g:Int->D}:∀{ks:List Int},x∉ks->lkp (ks.map λx=>(x,g x)) x=el
 |[],_=>rfl
 |k::ks,h=>by
  rw[aA,a1e,aN λz=>h (by rw[<-z];exact ar)];exact b0b λz=>h (au _ z)
theorem a7y:∀{l:List (Int×D)},I9 (l.map λp=>(aI p.1,p.2)) (.int x)=lkp l x
 |[]=>rfl
 |p::l=>by
  have ih:=a7y (x:=x) (l:=l);unfold I9 at ih ⊢;rw[aA,fG,a1e];by_cases c:p.1=x
  ·rw[aJ c,show aH (aI p.1) (.int x)=fx by simp only[aH,c,eS]];rfl
  ·rw[aN c,show aH (aI p.1) (.int x)=p4 by simp only[aH];exact eH.mpr c];exact ih
theorem b4D:∀{l:List (Int×D)},prs (l.map brD)=cz l
 |[]=>rfl
 |p::l=>by
  show (prs (l.map brD)).bind _=_;rw[b4D];rfl
def b9W{l:List (Int×D)}{x:Int}(hn:(l.map (·.1)).Nodup)(hl:l.length<1000000){fa fb:EvE}{U:List D}(ha:fa U=cz (.list (l.map brD)))(hb:fb U=cz (.int x)):e2 (a0G p4) (U2 fa) fb U=cz ((lkp l x).getD .none):=by
 have h1:U2 fa U=cz (.dict (l.map λp=>(aI p.1,p.2))):=by
  unfold U2;rw[ha,bS];show (prs (l.map brD)).bind _=_;rw[b4D,bS,aJ (by unfold a9K;rw[aE hn,aE hl];rfl)]
 rw[v_2,h1,hb];show a0G p4 (.dict (l.map λp=>(aI p.1,p.2))) (.int x)=_;show (if p9 p4 (.int x)&&keysOk p4 (l.map λp=>(aI p.1,p.2)) then _ else _)=_;rw[aJ (by
  rw[av];refine⟨rfl,bj.mpr λq hq=>?_⟩;obtain⟨p,_,rfl⟩:=aR.mp hq;rfl),a7y]
abbrev a9e:EvS:=(sIf (tB (e2 dEq (b7 2) (b7 1))) (m9 (J9 (b8 (eC (.bool fx)) (b8 (b7 3) g8)))) p8)
theorem b0c:∀(l:List (Int×D)) (y z:D),∃y' z',T6 (a6t 2 3) a9e (l.map brD) [L,.int x,y,z]=cz (match lkp l x with|some t=>.rt (.tuple [.bool fx,t])|none=>.nx [L,.int x,y',z'])
 |[],y,z=>⟨y,z,rfl⟩
 |p::l,y,z=>by
  obtain⟨y',z',h⟩:=b0c (L:=L) (x:=x) l (.int p.1) p.2;refine⟨y',z',?_⟩;show (a9e [L,.int x,.int p.1,p.2]).bind _=_;rw[a1e];by_cases c:p.1=x
  ·rw[aJ c,show a9e [L,.int x,.int p.1,p.2]=cz (.rt (.tuple [.bool fx,p.2])) by
    unfold a9e
    repeat (first|rw[aE c]|walk_at "ev")]
   rfl
  ·rw[aN c,show a9e [L,.int x,.int p.1,p.2]=cz (.nx [L,.int x,.int p.1,p.2]) by
    unfold a9e
    repeat (first|rw[aT c]|walk_at "ev")]
   exact h
def a5d{l:List (Int×D)}:m_law_branch [.list (l.map brD),.int x]=cz (match lkp l x with|some t=>.tuple [.bool fx,t]|none=>.tuple [.bool p4,.none]):=by
 obtain⟨y',z',h⟩:=b0c (L:=.list (l.map brD)) (x:=x) l .none .none;unfold a9e at h;unfold m_law_branch;rw[E9 (by simp[VS.argsOk,imm])];unfold b_law_branch;cases c:lkp l x with
 |none=>
  rw[c]at h
  repeat (first|rw[h]|walk_at "ev")
 |some t=>
  rw[c]at h
  repeat (first|rw[h]|walk_at "ev")
abbrev SB(m:m4)(t s x:D):List D:=[t,.list (m.map rwD),s,x]
abbrev SL(m:m4)(t s y z:D):List D:=[.list (m.map rwD),t,s,y,z]
abbrev b4E:EvE:=e2 w6 (e2 dIx (b7 1) (b7 2)) (e2 dIx (b7 0) (eC (.int 0)))
abbrev b4F:EvE:=e2 (a0G p4) (U2 (e2 dIx (b7 0) (eC (.int 1)))) (e2 w6 (b7 3) (eC (.int 0)))
abbrev a5Y:EvT:=(tV (e1 (λd=>cz (.bool (x8 d))) (b7 0)))
abbrev a1f:EvS:=(i5 (k9 3 (e2 w6 (e2 dIx (b7 1) (b7 2)) (e2 dIx (b7 0) (eC (.int 0))))) (i5 (k9 0 (e2 (a0G p4) (U2 (e2 dIx (b7 0) (eC (.int 1)))) (e2 w6 (b7 3) (eC (.int 0))))) (i5 (sIf (tB (e2 (J8 p4) (b7 0) (eC .none))) sNo p8) (k9 2 (e2 w6 (b7 3) (eC (.int 1)))))))
abbrev a5Z:EvR:=a1X (k9 3 b4E) (a1X (k9 0 b4F) (rIf (tB (e2 (J8 p4) (b7 0) (eC .none))) (λ_=>cz "Unfit") rNo))
abbrev a3L:EvT:=(tV (e1 (λd=>cz (.bool (x8 d))) (b7 1)))
abbrev Z3:EvS:=(i5 (V0 3 2 (e2 w6 (e2 dIx (b7 0) (b7 2)) (e2 dIx (b7 1) (eC (.int 0))))) (i5 (V0 4 1 (eCl m_law_branch (b8 (e2 dIx (b7 1) (eC (.int 1))) (b8 (b7 3) g8)))) (sIf (tNo (tV (b7 4))) (m9 (eC .none)) p8)))
def WB(m:m4)(t:D)(s:Int)(n:Nat)(o:Option Int):Prop:=∀N x,n<N->match o with
 |some v=>(∃s' x',whL a5Y a1f N (SB m t (.int s) x)=cz (.nx (SB m (.int v) s' x')))/\a3X a5Y a1f a5Z N (SB m t (.int s) x)=el
 |none=>a3X a5Y a1f a5Z N (SB m t (.int s) x)=cz ("Unfit":bt)
def WL(m:m4)(t:D)(s:Int)(n:Nat)(o:Option Int):Prop:=∀N y z,n<N->match o with
 |some v=>∃a b c,whL a3L Z3 N (SL m t (.int s) y z)=cz (.nx (SL m (.int v) a b c))
 |none=>whL a3L Z3 N (SL m t (.int s) y z)=cz (.rt .none)
section
variable {m:m4}{k:Nat}(w:WF m k){a:Nat}(ha:a<k){l:List (Int×D)}(hn:(l.map (·.1)).Nodup)(hl:l.length<1000000){s:Int}(h0:0<=s)(h1:s<m.length)
include w ha h0 h1
theorem b4G(hf:f U=cz (.list (m.map rwD)))(hg:g U=cz (.int s))(hh:h U=cz (.int (a:Nat))):e2 w6 (e2 dIx f g) h U=cz (stD (stp m s a)):=by
 have hr:=w.row h0 h1;rw[v_2,v_2,hf,hg,hh];walk_at "ev";rw[b6o h0 h1];walk_at "ev";rw[c1H (by lia) (by lia)];walk_at "ev";rfl
theorem b4H(l:List (Int×D))(x:D):k9 3 b4E (SB m (ndD a l) (.int s) x)=cz (.nx (SB m (ndD a l) (.int s) (stD (stp m s a)))):=by
 have e:b4E (SB m (ndD a l) (.int s) x)=cz (stD (stp m s a)):=b4G w ha h0 h1 rfl rfl rfl;rw[Z6,e];rfl
include hn hl
theorem b4I(ht:(lkp l (stp m s a).1).getD .none=t):k9 0 b4F (SB m (ndD a l) (.int s) (stD (stp m s a)))=cz (.nx (SB m t (.int s) (stD (stp m s a)))):=by
 have e:b4F (SB m (ndD a l) (.int s) (stD (stp m s a)))=cz ((lkp l (stp m s a).1).getD .none):=b9W hn hl rfl rfl;rw[Z6,e,ht];rfl
theorem WB.node_some(ht:lkp l (stp m s a).1=cz t)(hN:isN t=p4)(h:WB m t (stp m s a).2 n o):WB m (ndD a l) s (n+1) o:=by
 intro N x gQ;obtain⟨N,rfl⟩:∃q,N=q+1:=⟨N-1,by lia⟩;have q:=h N (stD (stp m s a)) (by lia);have q1:=b4H w ha h0 h1 l x;have q2:=b4I w ha hn hl h0 h1 (t:=t) (by rw[ht];rfl);have q3:tB (e2 (J8 p4) (b7 0) (eC .none)) (SB m t (.int s) (stD (stp m s a)))=cz p4:=by
  repeat (first|rw[hN]|walk_at "ev")
 have hg:a1f (SB m (ndD a l) (.int s) x)=cz (.nx (SB m t (.int (stp m s a).2) (stD (stp m s a)))):=by
  unfold a1f;rw[x9,q1,v7,x9,q2,v7,x9,b2D,q3];walk_at "ev"
 have hr:a5Z (SB m (ndD a l) (.int s) x)=el:=by
  show (k9 3 b4E _).bind _=_;rw[q1];show (k9 0 b4F _).bind _=_;rw[q2,bS];unfold rIf;show (tB (e2 (J8 p4) (b7 0) (eC .none)) _).bind _=_;rw[q3];rfl
 have hw:whL a5Y a1f (N+1) (SB m (ndD a l) (.int s) x)=whL a5Y a1f N (SB m t (.int (stp m s a).2) (stD (stp m s a))):=by
  show (a1f (SB m (ndD a l) (.int s) x)).bind _=_;rw[hg];rfl
 have hv:a3X a5Y a1f a5Z (N+1) (SB m (ndD a l) (.int s) x)=a3X a5Y a1f a5Z N (SB m t (.int (stp m s a).2) (stD (stp m s a))):=by
  show (match a5Z (SB m (ndD a l) (.int s) x) with|some x=>cz x|none=>(a1f (SB m (ndD a l) (.int s) x)).bind _)=_;rw[hr,hg];rfl
 cases o with
 |some v=>exact⟨by rw[hw];exact q.1,by rw[hv];exact q.2⟩
 |none=>exact hv.trans q
theorem WB.node_none(ht:lkp l (stp m s a).1=el):WB m (ndD a l) s n el:=by
 intro N x gQ;obtain⟨N,rfl⟩:∃q,N=q+1:=⟨N-1,by lia⟩;have q1:=b4H w ha h0 h1 l x;have q2:=b4I w ha hn hl h0 h1 (t:=.none) (by rw[ht];rfl);have hr:a5Z (SB m (ndD a l) (.int s) x)=cz ("Unfit":bt):=by
  show (k9 3 b4E _).bind _=_;rw[q1];show (k9 0 b4F _).bind _=_;rw[q2];rfl
 show (match a5Z (SB m (ndD a l) (.int s) x) with|some x=>cz x|none=>(a1f (SB m (ndD a l) (.int s) x)).bind _)=_;rw[hr]
omit hn hl in
theorem WL.node(h:(lkp l (stp m s a).1=el/\o=el)\/∃t,lkp l (stp m s a).1=cz t/\WL m t (stp m s a).2 n o):WL m (ndD a l) s (n+1) o:=by
 intro N y z gQ;obtain⟨N,rfl⟩:∃q,N=q+1:=⟨N-1,by lia⟩;have q1:V0 3 2 (e2 w6 (e2 dIx (b7 0) (b7 2)) (e2 dIx (b7 1) (eC (.int 0)))) (SL m (ndD a l) (.int s) y z)=cz (.nx (SL m (ndD a l) (.int (stp m s a).2) (.int (stp m s a).1) z)):=by
  rw[a5v,b4G w ha h0 h1 rfl rfl rfl];rfl
 have q2:V0 4 1 (eCl m_law_branch (b8 (e2 dIx (b7 1) (eC (.int 1))) (b8 (b7 3) g8))) (SL m (ndD a l) (.int (stp m s a).2) (.int (stp m s a).1) z)=a6v 4 1 (m_law_branch [.list (l.map brD),.int (stp m s a).1]) (SL m (ndD a l) (.int (stp m s a).2) (.int (stp m s a).1) z):=by
  rw[a5v];rfl
 have hw:whL a3L Z3 (N+1) (SL m (ndD a l) (.int s) y z)=(Z3 (SL m (ndD a l) (.int s) y z)).bind λo=>match o with
  |.nx U'=>whL a3L Z3 N U'
  |.ct U'=>whL a3L Z3 N U'
  |.bk U'=>cz (.nx U')
  |.rt d=>cz (.rt d):=rfl
 rcases h with⟨h2,rfl⟩|⟨t,h2,h3⟩
 ·show whL a3L Z3 (N+1) _=_;rw[hw,show Z3 (SL m (ndD a l) (.int s) y z)=cz (.rt .none) by
   unfold Z3;rw[x9,q1,v7,x9,q2,a5d,h2];rfl]
  rfl
 ·have hg:Z3 (SL m (ndD a l) (.int s) y z)=cz (.nx (SL m t (.int (stp m s a).2) (.int (stp m s a).1) (.bool fx))):=by
   unfold Z3;rw[x9,q1,v7,x9,q2,a5d,h2];rfl
  have q:=h3 N (.int (stp m s a).1) (.bool fx) (by lia);have Bs:whL a3L Z3 (N+1) (SL m (ndD a l) (.int s) y z)=whL a3L Z3 N (SL m t (.int (stp m s a).2) (.int (stp m s a).1) (.bool fx)):=by
   rw[hw,hg];rfl
  cases o with
  |some v=>
   show ∃a' b' c',whL a3L Z3 (N+1) (SL m (ndD a l) (.int s) y z)=_;rw[Bs];exact q
  |none=>exact Bs.trans q
end
theorem WB.int:WB m (.int v) s n (cz v):=by
 intro N x gQ;obtain⟨N,rfl⟩:∃q,N=q+1:=⟨N-1,by lia⟩;exact⟨⟨_,_,rfl⟩,rfl⟩
theorem WL.int:WL m (.int v) s n (cz v):=by
 intro N y z gQ;obtain⟨N,rfl⟩:∃q,N=q+1:=⟨N-1,by lia⟩;exact⟨_,_,_,rfl⟩
def b4J:isN (gT m k (f+1) B)=p4:=by
 show isN (if _ then _ else _)=p4
 split<;>rfl
def b6P(w:WF m k)(h:KB m k B S):∀f,lev m k S<f->∀s:Int,0<=s->s<m.length->∃o,WB m (gT m k f B) s (lev m k S) o/\WL m (gT m k f B) s (lev m k S) o/\∀p∈B,p.1=s->o=cz p.2:=by
 refine KB.ind w (P:=λB S=>∀f,lev m k S<f->∀s:Int,0<=s->s<m.length->∃o,WB m (gT m k f B) s (lev m k S) o/\WL m (gT m k f B) s (lev m k S) o/\∀p∈B,p.1=s->o=cz p.2) (λp S h hS f hf s h0 h1=>?_) (λB S e a h hS he ha jU hk kr hp f hf s h0 h1=>?_) h
 ·obtain⟨f,rfl⟩:∃q,f=q+1:=⟨f-1,by lia⟩;rw[a5V];exact⟨cz p.2,WB.int,WL.int,λq hq _=>by rw[aq.mp hq]⟩
 ·obtain⟨f,rfl⟩:∃q,f=q+1:=⟨f-1,by lia⟩;have tD:=a1D (m:=m) (a:=a) (B:=B);have As:=h.len;have:=SetK.len h.set;have:=w.le;have nq:=v4 (anL m a B);have lV:((srt (anL m a B)).map λx=>(x,gT m k f (gp m a B x))).map (·.1)=srt (anL m a B):=by rw[bG];exact List.map_id _
  have hn:(((srt (anL m a B)).map λx=>(x,gT m k f (gp m a B x))).map (·.1)).Nodup:=by rw[lV];exact nq.nodup_iff.mpr (b4u _)
  have hl:((srt (anL m a B)).map λx=>(x,gT m k f (gp m a B x))).length<1000000:=by rw[ao,nq.length_eq];lia
  rw[b0a h hS jU,he];by_cases c:(stp m s a).1∈anL m a B
  ·obtain⟨_,q2,q3⟩:=hp _ c;have hx:=w.nx h0 h1 (show (0:Int)<=(a:Nat) by lia) (show ((a:Nat):Int)<k by lia);have sg:=b4C (g:=λx=>gT m k f (gp m a B x)) (nq.mem_iff.mpr c);obtain⟨o,z1,z2,z3⟩:=q3 f (by lia) (stp m s a).2 hx.1 hx.2;obtain⟨f',rfl⟩:∃q,f=q+1:=⟨f-1,by lia⟩;have Dr:WB m (gT m k (f'+1) (gp m a B (stp m s a).1)) (stp m s a).2 e o:=λN x hN=>z1 N x (by lia)
   have Dq:WL m (gT m k (f'+1) (gp m a B (stp m s a).1)) (stp m s a).2 e o:=λN x y hN=>z2 N x y (by lia)
   refine⟨o,WB.node_some w hk hn hl h0 h1 sg b4J Dr,WL.node w hk h0 h1 (.inr ⟨_,sg,Dq⟩),λp hp e=>?_⟩;refine z3 ((stp m s a).2,p.2) ?_ rfl;unfold gp;exact aR.mpr ⟨p,bz.mpr ⟨hp,aE (by rw[e])⟩,by rw[e]⟩
  ·have sg:=b0b (g:=λx=>gT m k f (gp m a B x)) λz=>c (nq.mem_iff.mp z)
   refine⟨el,WB.node_none w hk hn hl h0 h1 sg,WL.node w hk h0 h1 (.inl ⟨sg,rfl⟩),λp hp e=>?_⟩;exact absurd (Y9.mpr ⟨p,hp,by rw[e]⟩) c
end Prog
namespace VS
open L2
def b4K(h:argsOk us ds=fx):fnR us n r ds=r (ds++aL n .none):=aJ h
def c1W(h:fc U=cz b):rIf fc r1 r2 U=if b then r1 U else r2 U:=by unfold rIf;rw[h];rfl
def b9X(h:r1 U=cz n):rOr r1 r2 U=cz n:=by unfold rOr;rw[h]
def b9Y(h:r1 U=el):rOr r1 r2 U=r2 U:=by unfold rOr;rw[h]
def b4L{L:List bt}(h:r U=cz n)(hc:L.contains n=fx):a6Y L i j g r U=cz (.nx ((U.set j .none).set i (.str n))):=by
 unfold a6Y;rw[h];exact aJ hc
def b9Z(h:r U=el)(hg:g U=cz (.nx U'))(hi:U'.getD i (.bool fx)=.none):a6Y L i j g r U=cz (.nx U'):=by
 unfold a6Y;rw[h];show (g U).bind _=_;rw[hg];show (match U'.getD i (.bool fx) with|.none=>cz (Out.nx U')|_=>el)=_;rw[hi]
end VS
namespace VS
def b6Q(h:f U=cz (.nx U')):a1X f r U=r U':=by unfold a1X;rw[h];rfl
def c1X:rWh (λ_=>n) c g r U=a3X c g r n U:=rfl
end VS
namespace Prog
open L2 VS
section
variable {m:m4}{x t:D}
def b0d(h:p5 [x,.int m.length]=cz (.bool fx)):J6 [.list (m.map rwD),x]=cz .none:=by
 unfold J6;rw[b4f (by simp[VS.argsOk])];unfold a0T
 repeat (first|rw[h]|walk_at "evn")
def b7B(h:p5 [x,.int m.length]=cz (.bool b)):C9 [.list (m.map rwD),x]=if b then el else cz ("NoState":bt):=by
 unfold C9;rw[b4K (by simp[VS.argsOk])];unfold a0d;rw[c1W (b:=!b) (by repeat (first|rw[h]|walk_at "ev"))];cases b<;>rfl
abbrev b7C:EvS:=a6Y Lx 3 5 (k9 4 (eCl Y7 (b8 (b7 0) (b8 (b7 1) (b8 (b7 2) g8))))) (rCl K5 (b8 (b7 0) (b8 (b7 1) (b8 (b7 2) g8))))
def a6a(h:b7C [t,.list (m.map rwD),x,.none,.none,.none]=cz (.nx U))(h2:∃y z,(U=[t,.list (m.map rwD),x,.none,y,z]/\u=.tuple [.str "told",y])\/(U=[t,.list (m.map rwD),x,.str "Unfit",y,z]/\u=.tuple [.str "unfit",.none])\/(U=[t,.list (m.map rwD),x,.str "NoState",y,z]/\u=.tuple [.str "state",.none])):m_law_told [t,.list (m.map rwD),x]=cz u:=by
 unfold m_law_told;rw[E9 (by simp[VS.argsOk])];unfold b_law_told;show Z2 (i5 (k9 3 (eC .none)) (i5 (k9 4 (eC .none)) (i5 b7C _)) [t,.list (m.map rwD),x,.none,.none,.none])=_;rw[x9,show k9 3 (eC .none) [t,.list (m.map rwD),x,.none,.none,.none]=cz (.nx [t,.list (m.map rwD),x,.none,.none,.none]) from rfl,v7,x9,show k9 4 (eC .none) [t,.list (m.map rwD),x,.none,.none,.none]=cz (.nx [t,.list (m.map rwD),x,.none,.none,.none]) from rfl,v7,x9,h,v7];obtain⟨y,z,⟨rfl,rfl⟩|⟨rfl,rfl⟩|⟨rfl,rfl⟩⟩:=h2<;>rfl
def b4M(h:p5 [x,.int m.length]=cz (.bool p4)):m_law_told [t,.list (m.map rwD),x]=cz (.tuple [.str "state",.none]):=by
 have hr:K5 [t,.list (m.map rwD),x]=cz ("NoState":bt):=by
  unfold K5;rw[b4K (by simp[VS.argsOk])];unfold a3w;refine b9X ?_;show C9 [.list (m.map rwD),x]=_;rw[b7B h];rfl
 exact a6a (b4L (show K5 [t,.list (m.map rwD),x]=_ from hr) rfl) ⟨_,_,.inr (.inr ⟨rfl,rfl⟩)⟩
def a3M(h:p5 [x,.int m.length]=cz (.bool fx)):K5 [t,.list (m.map rwD),x]=a3X a5Y a1f a5Z 1000000 [t,.list (m.map rwD),x,.none]:=by
 unfold K5;rw[b4K (by simp[VS.argsOk])];unfold a3w;rw[b9Y (by show C9 [.list (m.map rwD),x]=_;rw[b7B h];rfl),b6Q (U':=[t,.list (m.map rwD),x,.none]) (by repeat (first|rw[b0d h]|walk_at "ev")),c1X]
def b6R(h:p5 [.int s,.int m.length]=cz (.bool fx))(hw:WB m t s n o)(hn:n<1000000):m_law_told [t,.list (m.map rwD),.int s]=cz (match o with|some v=>.tuple [.str "told",.int v]|none=>.tuple [.str "unfit",.none]):=by
 have q:=hw 1000000 .none hn;cases o with
 |none=>exact a6a (b4L (show K5 [t,.list (m.map rwD),.int s]=_ by rw[a3M h];exact q) rfl) ⟨_,_,.inr (.inl ⟨rfl,rfl⟩)⟩
 |some v=>
  obtain⟨⟨s',x',q1⟩,q2⟩:=q;have hb:Y7 [t,.list (m.map rwD),.int s]=cz (.int v):=by
   unfold a5Y a1f at q1;unfold Y7;rw[E9 (by simp[VS.argsOk])];unfold a9Q
   repeat (first|rw[b0d h]|rw[b6s,q1]|walk_at "ev")
  exact a6a (U:=[t,.list (m.map rwD),.int s,.none,.int v,.none]) (b9Z (show K5 [t,.list (m.map rwD),.int s]=_ by rw[a3M h];exact q2) (by rw[Z6,c0R];show b8z 4 (Y7 [t,.list (m.map rwD),.int s]) _=_;rw[hb];rfl) rfl) ⟨_,_,.inl ⟨rfl,rfl⟩⟩
def b6S(hw:WL m t s n o)(hn:n<1000000):m_law_leaf [.list (m.map rwD),t,.int s]=cz (match o with|some v=>.int v|none=>.none):=by
 have q:=hw 1000000 .none .none hn;cases o with
 |none=>
  unfold a3L Z3 at q;unfold m_law_leaf;rw[E9 (by simp[VS.argsOk])];unfold b_law_leaf
  repeat (first|rw[b6s,q]|walk_at "ev")
 |some v=>
  obtain⟨a,b,c,q⟩:=q;unfold a3L Z3 at q;unfold m_law_leaf;rw[E9 (by simp[VS.argsOk])];unfold b_law_leaf
  repeat (first|rw[b6s,q]|walk_at "ev")
end
end Prog
local macro_rules | `(tactic| walk_at "evm")=>`(tactic| first | (walk_at "ev";repeat (simp -implicitDefEqProofs (disch:=first | omega | assumption | decide) only [VS.a1p,VS.W9,VS.O2];try walk_at "ev")) | (simp -implicitDefEqProofs (disch:=first | omega | assumption | decide) only [VS.a1p,VS.W9,VS.O2];repeat (first | walk_at "ev" | simp -implicitDefEqProofs (disch:=first | omega | assumption | decide) only [VS.a1p,VS.W9,VS.O2])))
namespace Prog
open L2 VS
abbrev M0(ns:List Int)(sm la:Nat)(fi:List Int)(n k q:Nat)(xs rows:List Int)(t:List D):List D:=.list (ns.map .int)::.int sm::.int la::.list (fi.map .int)::.int n::.int k::.int q::.list (xs.map .int)::.list (rows.map .int)::t
abbrev b4N:EvS:=(i5 (k9 13 (e2 M4 (b7 7) (e2 y7 (e2 y7 (e2 y7 (eC (.int 3)) (b7 4)) (e2 L9 (e2 M4 (b7 8) (b7 10)) (b7 5))) (b7 12)))) (i5 (k9 14 (r9 (iR (b7 4)) [6,8,13] pt1 (tB (e2 dEq (e2 M4 (b7 2) (b7 0)) (e2 A9 (b7 3) (b7 1)))) (b7 0))) (i5 (k9 15 (e2 M4 (b7 7) (e2 y7 (e2 y7 (e2 y7 (e2 y7 (eC (.int 3)) (b7 4)) (e2 L9 (b7 4) (b7 5))) (e2 L9 (b7 10) (b7 5))) (b7 12)))) (N9 11 (.l .i) B1 (J9 (b8 (eCl m_law_answer (b8 (e2 V5 (b7 13) (b7 6)) (b8 (b7 7) g8))) (b8 (e2 M4 (b7 14) (e2 A9 (b7 15) (eCl G6 (b8 (b7 14) g8)))) g8)))))))
abbrev c0a:EvS:=(i5 (k9 11 (M3 g8)) (i5 (M6 (iR (b7 5)) (E7 12) b4N) (N9 9 (.l (.l .i)) B1 (b7 11))))
abbrev c0b:EvS:=(sIf (tB (e2 dLt (b7 4) (b7 2))) (N9 3 (.l .i) B1 (e2 A9 (e2 y7 (b7 4) (e2 V5 (e2 w6 (b7 0) (eC (.int 0))) (eC (.int 1000)))) (b7 2))) (N9 3 (.l .i) B1 (e2 A9 (e2 w6 (b7 0) (e2 y7 (eC (.int 3)) (b7 4))) (b7 2))))
local macro_rules | `(tactic| walk_at "ev1")=>`(tactic| simp -implicitDefEqProofs only [VS.x9,VS.Z6,VS.b7f,VS.b7e,VS.a9s,VS.b2A,VS.v7,nh,jI])
def P8:Int:=10^64
def b4O:1000<P8:=by decide
def a9f(ns:List Int)(k:Int)(h0:0<=k):∃c:Int,m_law_cell_at [.list (ns.map .int),.int k]=cz (.int c):=by
 unfold m_law_cell_at;rw[E9 (by simp[VS.argsOk,imm])];unfold b_law_cell_at;walk_at "evm";by_cases c:k<(ns.length:Int)
 ·rw[aE c];walk_at "evm";exact⟨_,rfl⟩
 ·rw[aT c];walk_at "evm";exact⟨_,rfl⟩
def a3N(ns:List Int)(n:Nat)(h1:n<=1000):∃xs:List Int,m_law_cells [.list (ns.map .int),.int n]=cz (.list (xs.map .int))/\xs.length=n/\∀x∈xs,0<=x:=by
 unfold m_law_cells;rw[E9 (by simp[VS.argsOk,imm])];unfold b_law_cells;walk_at "evm";rw[a6x (n:=n) (by walk_at "evm") (by lia) (by lia),bI];walk_at "evm";refine R6 (R:=λo=>∃xs:List Int,o=cz (.list (xs.map .int))/\xs.length=n/\∀x∈xs,0<=x) (λU=>∃(xs:List Int) (q:Int) (y z:D),xs.length=n/\(∀x∈xs,0<=x)/\U=[.list (ns.map .int),.int n,.list (xs.map .int),.int q,y,z]) ?_ ?_
 ·obtain⟨U',g1,xs,q,y,z,e1,e2,e3,rfl⟩:=F7 (n:=n) (set:=E7 4) (g:=(i5 (k9 5 (e2 A9 (eCl m_law_cell_at (b8 (b7 0) (b8 (b7 4) g8))) (e2 a2D (eC (.int 10)) (eC (.int 64))))) (i5 (k9 3 (e2 A9 (e2 y7 (e2 y7 (e2 y7 (e2 L9 (b7 3) (eC (.int 69621))) (e2 L9 (b7 5) (eC (.int 40014)))) (e2 L9 (b7 4) (b7 4))) (eC (.int 1))) (eC (.int 2147483563)))) (sIf (tB (e2 dLt (b7 4) (eCl G6 (b8 (b7 0) g8)))) (N9 2 (.l .i) B1 (b7 5)) (N9 2 (.l .i) B1 (b7 3)))))) (U:=[.list (ns.map .int),.int n,.list [],.int 48271,.none,.none])
   (λj U=>∃(xs:List Int) (q:Int) (y z:D),xs.length=j/\(∀x∈xs,0<=x)/\0<=q/\U=[.list (ns.map .int),.int n,.list (xs.map .int),.int q,y,z]) ⟨[],48271,_,_,rfl,λx hx=>(nomatch hx),by decide,rfl⟩ (by
    rintro j hj U ⟨xs,q,y,z,e1,e2,e3,rfl⟩;obtain⟨c,hc⟩:=a9f ns j (by lia);have hq:=du (q*69621+c % P8*40014+(j:Int)*j+1) (show (2147483563:Int)≠0 by decide);have hp:=b4O;have yq:=du c (show P8≠0 by lia);have CF:(10^(64:Int).toNat:Int)=P8:=by decide
    by_cases cl:(j:Int)<ns.length
    ·refine⟨_,[.list (ns.map .int),.int n,.list ((xs++[c % P8]).map .int),.int ((q*69621+c % P8*40014+(j:Int)*j+1) % 2147483563),.int j,.int (c % P8)],rfl,?_,xs++[c % P8],_,_,_,by rw[bh,e1];rfl,?_,hq,rfl⟩
     ·walk_at "evm";rw[hc,v_pow (i:=10) (j:=64) (by decide),CF];generalize P8=T at hp;walk_at "evm";rw[aE cl];walk_at "evm";rw[Q3 (by rw[ao];lia),aZ];rfl
     ·intro x hx;rcases aC.mp hx with z|z
      ·exact e2 x z
      ·rw[aq.mp z];exact yq
    ·refine⟨_,[.list (ns.map .int),.int n,.list ((xs++[(q*69621+c % P8*40014+(j:Int)*j+1) % 2147483563]).map .int),.int ((q*69621+c % P8*40014+(j:Int)*j+1) % 2147483563),.int j,.int (c % P8)],rfl,?_,xs++[(q*69621+c % P8*40014+(j:Int)*j+1) % 2147483563],_,_,_,by rw[bh,e1];rfl,?_,hq,rfl⟩
     ·walk_at "evm";rw[hc,v_pow (i:=10) (j:=64) (by decide),CF];generalize P8=T at hp;walk_at "evm";rw[aT cl];walk_at "evm";rw[Q3 (by rw[ao];lia),aZ];rfl
     ·intro x hx;rcases aC.mp hx with z|z
      ·exact e2 x z
      ·rw[aq.mp z];exact hq)
  exact⟨_,g1,xs,q,y,z,e1,e2,rfl⟩
 ·rintro U ⟨xs,q,y,z,e1,e2,rfl⟩;walk_at "evm";exact⟨xs,rfl,e1,e2⟩
def b0e{xs:List Int}(h:∀x∈xs,0<=x)(i:Nat):0<=xs.getD i 0:=by
 rw[aW];cases e:xs[i]? with
 |none=>exact Int.le_refl _
 |some y=>exact h y (bx e)
def b4P:a2D (.int 10) (.int 60)=cz (.int big):=by rw[v_pow (i:=10) (j:=60) (by decide)];rfl
local macro_rules | `(tactic| walk_at "evq")=>`(tactic| first | (walk_at "ev";repeat (simp -implicitDefEqProofs (disch:=first | omega | assumption | decide) only [Prog.b4P,VS.a1p,VS.W9,VS.O2];try walk_at "ev")) | (simp -implicitDefEqProofs (disch:=first | omega | assumption | decide) only [Prog.b4P,VS.a1p,VS.W9,VS.O2];repeat (first | walk_at "ev" | simp -implicitDefEqProofs (disch:=first | omega | assumption | decide) only [Prog.b4P,VS.a1p,VS.W9,VS.O2])))
def b1H(q:Int)(xs:List Int)(h:3<=xs.length):∃v:Int,m_law_answer [.int q,.list (xs.map .int)]=cz (.int v):=by
 have Hd:=b4b;unfold m_law_answer;rw[E9 (by simp[VS.argsOk,imm])];unfold b_law_answer;walk_at "evq";generalize decide (xs.getD (1:Int).toNat 0 / 5 % 4=1)=b1;cases b1 with
 |true=>
  walk_at "evq";exact⟨_,rfl⟩
 |false=>
  walk_at "evq";generalize decide (xs.getD (1:Int).toNat 0 / 5 % 4=2)=b2;cases b2 with
  |true=>
   walk_at "evq";exact⟨_,rfl⟩
  |false=>
   walk_at "evq";generalize decide (xs.getD (1:Int).toNat 0 / 5 % 4=3)=b3;cases b3 with
   |true=>
    walk_at "evq";exact⟨_,rfl⟩
   |false=>
    walk_at "evq";exact⟨_,rfl⟩
def b1I(xs:List Int)(n q:Nat)(h:3+n<=xs.length)(q1:1<=q)(qn:q<=n)(yY:n<=30)(hx:∀x∈xs,0<=x) :
  ∃rows:List Int,m_law_copied [.list (xs.map .int),.int n,.int q]=cz (.list (rows.map .int))/\rows.length=n/\(∀r∈rows,0<=r/\r<(q:Int))/\∀c:Int,0<=c->c<q->c∈rows:=by
 unfold m_law_copied;rw[E9 (by simp[VS.argsOk,imm])];unfold b_law_copied;walk_at "evq";rw[a6x (n:=n) (by walk_at "evq") (by lia) (by lia),bI];walk_at "evq"
 let o:Int:=xs.getD (0:Int).toNat 0 / 1000
 refine R6 (R:=λe=>∃rows:List Int,e=cz (.list (rows.map .int))/\rows.length=n/\(∀r∈rows,0<=r/\r<(q:Int))/\∀c:Int,0<=c->c<q->c∈rows) (λU=>∃(rows:List Int) (x:D),rows.length=n/\(∀r∈rows,0<=r/\r<(q:Int))/\(∀i:Nat,i<q->((i:Int)+o) % q∈rows)/\U=[.list (xs.map .int),.int n,.int q,.list (rows.map .int),x]) ?_ ?_
 ·obtain⟨U',h1,rows,x,h2,h3,h4,rfl⟩:=F7 (n:=n) (set:=E7 4) (g:=c0b) (U:=[.list (xs.map .int),.int n,.int q,.list [],.none])
   (λj U=>∃(rows:List Int) (x:D),rows.length=j/\(∀r∈rows,0<=r/\r<(q:Int))/\(∀i:Nat,i<q->i<j->((i:Int)+o) % q∈rows)/\U=[.list (xs.map .int),.int n,.int q,.list (rows.map .int),x])
   ⟨[],_,rfl,λr hr=>(nomatch hr),λi _ hi=>absurd hi (Nat.not_lt_zero _),rfl⟩ (by
    rintro j hj U ⟨rows,x,h2,h3,h4,rfl⟩;have put:∀v:Int,(j<q->v=((j:Int)+o) % q)->0<=v->v<(q:Int)->c0b [.list (xs.map .int),.int n,.int q,.list (rows.map .int),.int j]=cz (.nx [.list (xs.map .int),.int n,.int q,.list ((rows++[v]).map .int),.int j])->
      ∃U1 U2,E7 4 [.list (xs.map .int),.int n,.int q,.list (rows.map .int),x] (.int j)=cz U1/\c0b U1=cz (.nx U2)/\∃(rows:List Int) (x:D),rows.length=j+1/\(∀r∈rows,0<=r/\r<(q:Int))/\(∀i:Nat,i<q->i<j+1->((i:Int)+o) % q∈rows)/\U2=[.list (xs.map .int),.int n,.int q,.list (rows.map .int),x]:=by
     intro v hv v0 v1 hg;refine⟨_,_,rfl,hg,rows++[v],_,by rw[bh,h2];rfl,λr hr=>?_,λi hi oG=>?_,rfl⟩
     ·rcases aC.mp hr with z|z
      ·exact h3 r z
      ·rw[aq.mp z];exact⟨v0,v1⟩
     ·rcases gS i j with z|z
      ·exact aM _ (h4 i hi z)
      ·have e:i=j:=by lia
       subst e;rw[<-hv hi];simp
    by_cases c:(j:Int)<q
    ·refine put (((j:Int)+o) % q) (λ_=>rfl) (du _ (by lia)) (ej _ (by lia)) ?_;walk_at "evq";rw[aE c];walk_at "evq";rw[Q3 (by rw[ao];lia),aZ];rfl
    ·refine put (xs.getD (3+(j:Int)).toNat 0 % q) (λz=>by lia) (du _ (by lia)) (ej _ (by lia)) ?_;walk_at "evq";rw[aT c];walk_at "evq";rw[Q3 (by rw[ao];lia),aZ];rfl)
  exact⟨_,h1,rows,x,h2,h3,λi hi=>h4 i hi (by lia),rfl⟩
 ·rintro U ⟨rows,x,h2,h3,h4,rfl⟩;have AV:∀c:Int,0<=c->c<q->c∈rows:=λc c0 c1=>by
   have h:=h4 ((c-o) % q).toNat (by have:=ej (c-o) (show (0:Int)<q by lia);have:=du (c-o) (show (q:Int)≠0 by lia);lia);rw[jn (du (c-o) (by lia)),Int.emod_add_emod,Int.sub_add_cancel,Int.emod_eq_of_lt c0 c1]at h;exact h
  walk_at "evq";generalize decide (xs.getD (1:Int).toNat 0 / 20 % 2=1)=b;cases b with
  |false=>
   walk_at "evq";exact⟨rows,rfl,h2,h3,AV⟩
  |true=>
   walk_at "evq";show ∃r,Z2 (thn (cz (.nx [.list (xs.map .int),.int n,.int q,.list (rows.map .int).reverse,x])) _)=_/\_;walk_at "evq";refine⟨rows.reverse,by rw[Hl],by rw[yF];exact h2,λr hr=>h3 r (kI.mp hr),λc c0 c1=>kI.mpr (AV c c0 c1)⟩
def a9g(ns:List Int)(sm la Bd:Nat)(s1:1<=sm)(hB:Bd<=7)(s2:sm<=Bd)(l1:1<=la)(l2:la<=Bd):∃(m:m4) (k:Nat),m_law_machine [.list (ns.map .int),.int sm,.int la]=cz (.list (m.map rwD))/\WF m k/\m.length<=Bd:=by
 unfold m_law_machine;rw[E9 (by simp[VS.argsOk,imm])];unfold b_law_machine;walk_at "evm";obtain⟨fi,wR,HI,Bb⟩:=a3N ns 3 (by lia);have zY:m_law_cells [.list (ns.map .int),.int 3]=cz (.list (fi.map .int)):=wR;rw[zY];walk_at "evm";have f0:0<=fi.getD (0:Int).toNat 0:=b0e Bb _;have f1:0<=fi.getD (1:Int).toNat 0:=b0e Bb _;have q0:=du (fi.getD (0:Int).toNat 0) (show (sm:Int)≠0 by lia);have q1:=ej (fi.getD (0:Int).toNat 0) (show (0:Int)<sm by lia);refine R6 (R:=λo=>∃(m:m4) (k:Nat),o=cz (.list (m.map rwD))/\WF m k/\m.length<=Bd) (λU=>∃n:Nat,1<=n/\n<=Bd/\U=[.list (ns.map .int),.int sm,.int la,.list (fi.map .int),.int n,.none,.none,.none,.none,.none,.none,.none,.none,.none,.none,.none]) ?_ ?_
 ·cases decide (fi.getD (0:Int).toNat 0 / (sm:Int) % 8=3) with
  |true=>
   have r0:=du (fi.getD (0:Int).toNat 0 / (8*(sm:Int))) (show (la:Int)≠0 by lia);have r1:=ej (fi.getD (0:Int).toNat 0 / (8*(sm:Int))) (show (0:Int)<la by lia);refine⟨_,(by walk_at "evm";exact rfl),(1+fi.getD (0:Int).toNat 0 / (8*(sm:Int)) % la).toNat,by lia,by lia,?_⟩;rw[jn (by lia)]
  |false=>
   refine⟨_,(by walk_at "evm";exact rfl),(1+fi.getD (0:Int).toNat 0 % (sm:Int)).toNat,by lia,by lia,?_⟩;rw[jn (by lia)]
 rintro U ⟨n,n1,nB,rfl⟩;have yY:n<=30:=by lia
 walk_at "evm";obtain⟨k,hk,k1,k5⟩:∃k:Nat,1+fi.getD (1:Int).toNat 0 % 5=(k:Int)/\1<=k/\k<=5:=⟨(1+fi.getD (1:Int).toNat 0 % 5).toNat,by lia,by lia,by lia⟩;rw[hk];refine R6 (R:=λo=>∃(m:m4) (k:Nat),o=cz (.list (m.map rwD))/\WF m k/\m.length<=Bd) (λU=>∃q:Nat,1<=q/\q<=n/\U=[.list (ns.map .int),.int sm,.int la,.list (fi.map .int),.int n,.int k,.int q,.none,.none,.none,.none,.none,.none,.none,.none,.none]) ?_ ?_
 ·cases decide (fi.getD (2:Int).toNat 0 % 4=3) with
  |true=>
   have r0:=du (fi.getD (2:Int).toNat 0 / 4) (show (n:Int)≠0 by lia);have r1:=ej (fi.getD (2:Int).toNat 0 / 4) (show (0:Int)<n by lia);refine⟨_,(by walk_at "evm";exact rfl),(1+fi.getD (2:Int).toNat 0 / 4 % n).toNat,by lia,by lia,?_⟩;rw[jn (by lia)]
  |false=>
   exact⟨_,(by walk_at "evm"),n,n1,aG _,rfl⟩
 rintro U ⟨q,DL,qn,rfl⟩;walk_at "evm";have HS:n*k<=30*5:=Nat.mul_le_mul yY k5;obtain⟨xs,zg,Eh,DR⟩:=a3N ns (3+n+2*n*k) (by rw[Nat.mul_assoc];lia);have ec:(3+(n:Int)+2*(n:Int)*(k:Int))=((3+n+2*n*k:Nat):Int):=by rw[pX,pX,ly,ly];rfl
 rw[ec,zg];have en:(2:Int)*(n:Int)*(k:Int)=(n:Int)*k+(n:Int)*k:=by rw[Int.mul_assoc,Int.two_mul]
 have BM:(xs.length:Int)=3+n+((n:Int)*k+(n:Int)*k):=by rw[Eh,<-ec,en]
 have Fh:0<=(n:Int)*(k:Int):=Int.mul_nonneg (by lia) (by lia);walk_at "evm";obtain⟨rows,wu,Bi,vI,vD⟩:=b1I xs n q (by lia) DL qn yY DR;rw[wu];walk_at "evm";rw[a6x (n:=n) (by walk_at "evm") (by lia) (by lia),bI];walk_at "evm";have Hd:=b4b;have row:∀s:Nat,s<n->∀(tab:D) (y z u v:D),∃(r:List (Int×Int)) (x' y' z' u':D),r.length=k/\(∀p∈r,0<=p.2/\p.2<(n:Int))/\
   (M6 (iR (b7 5)) (E7 12) b4N) (M0 ns sm la fi n k q xs rows [tab,.int s,.list [],y,z,u,v])=cz (.nx (M0 ns sm la fi n k q xs rows [tab,.int s,rwD r,x',y',z',u'])):=by
  intro s hs tab y z u v;walk_at "evm";rw[a6x (n:=k) (by walk_at "evm") (by lia) (by lia),bI];walk_at "evm";obtain⟨U',h1,r,x',y',z',u',h2,h3,rfl⟩:=F7 (n:=k) (set:=E7 12) (g:=b4N)
   (U:=(M0 ns sm la fi n k q xs rows [tab,.int s,.list [],y,z,u,v]))
   (λj U=>∃(r:List (Int×Int)) (x' y' z' u':D),r.length=j/\(∀p∈r,0<=p.2/\p.2<(n:Int))/\U=(M0 ns sm la fi n k q xs rows [tab,.int s,rwD r,x',y',z',u']))
   ⟨[],y,z,u,v,rfl,λp hp=>(nomatch hp),rfl⟩ (by
    rintro j hj U ⟨r,x',y',z',u',hr,hp,rfl⟩;have bound:∀i:Int,0<=i->i<n->0<=i*(k:Int)/\i*(k:Int)+j<(n:Int)*k:=λi i0 i1=>by
     refine⟨Int.mul_nonneg i0 (by lia),?_⟩;have h1:(i.toNat+1)*k<=n*k:=Nat.mul_le_mul_right k (by lia);have h2:i.toNat*k+j<n*k:=by rw[Nat.add_mul,Nat.one_mul]at h1;lia
     have h3:((i.toNat:Nat):Int)=i:=by lia
     have h4:((i.toNat*k+j:Nat):Int)<((n*k:Nat):Int):=by exact_mod_cast h2
     rw[pX,ly,ly,h3]at h4;exact h4
    have BC:0<=rows.getD s 0/\rows.getD s 0<(q:Int):=by
     have hm:rows.getD s 0∈rows:=b1x (by lia);exact vI _ hm
    obtain⟨b0,b1⟩:=bound (rows.getD s 0) BC.1 (by lia);obtain⟨d0,d1⟩:=bound s (by lia) (by lia);have BV:e2 M4 (b7 8) (b7 10) (M0 ns sm la fi n k q xs rows [tab,.int s,rwD r,.int j,y',z',u'])=cz (.int (rows.getD s 0)):=by
     walk_at "evm";rw[bI]
    generalize HM:rows.getD s 0=rr at BC b0 b1 BV
    let cell:Int:=xs.getD (3+(n:Int)+rr*k+j).toNat 0
    have mK:e2 M4 (b7 7) (e2 y7 (e2 y7 (e2 y7 (eC (.int 3)) (b7 4)) (e2 L9 (e2 M4 (b7 8) (b7 10)) (b7 5))) (b7 12)) (M0 ns sm la fi n k q xs rows [tab,.int s,rwD r,.int j,y',z',u'])=cz (.int cell):=by
     rw[v_2,v_2,v_2,v_2,v_2,BV];walk_at "evm";rfl
    have wH:=du cell (show (q:Int)≠0 by lia);have uk:=ej cell (show (0:Int)<q by lia)
    let room:List Nat:=(aV n).filter λ(t:Nat)=>decide (rows.getD t 0=cell % q)
    have wx:(r9 (iR (b7 4)) [6,8,13] pt1 (tB (e2 dEq (e2 M4 (b7 2) (b7 0)) (e2 A9 (b7 3) (b7 1)))) (b7 0)) (M0 ns sm la fi n k q xs rows [tab,.int s,rwD r,.int j,.int cell,z',u'])=cz (.list (room.map λ(t:Nat)=>aI t)):=by
     refine b6t (n:=n) (λ(t:Nat)=>decide (rows.getD t 0=cell % q)) (λt=>.int t) (by rw[a6x (n:=n) (by walk_at "evm") (by lia) (by lia)];rfl) (by lia) (λt ht=>⟨?_,λ_=>rfl⟩);show tB _ [.int t,.int q,.list (rows.map .int),.int cell]=_;walk_at "evm";rw[bI]
    have hl:0<room.length:=by
     obtain⟨t,ht⟩:=bU.mp (vD (cell % q) wH uk);have HL:=(aP.mp ht).1;have:t∈room:=by
      show t∈(aV n).filter _;rw[bz];refine⟨cC.mpr (by lia),aE ?_⟩;rw[aW,ht];rfl
     exact uL this
    let pick:Int:=xs.getD (3+(n:Int)+(n:Int)*k+(s:Int)*k+j).toNat 0
    have wA:e2 M4 (b7 7) (e2 y7 (e2 y7 (e2 y7 (e2 y7 (eC (.int 3)) (b7 4)) (e2 L9 (b7 4) (b7 5))) (e2 L9 (b7 10) (b7 5))) (b7 12)) (M0 ns sm la fi n k q xs rows [tab,.int s,rwD r,.int j,.int cell,.list (room.map λ(t:Nat)=>aI t),u'])=cz (.int pick):=by
     walk_at "evm";rfl
    obtain⟨v,hv⟩:=b1H (cell / q) xs (by lia);have g0:=du pick (show (room.length:Int)≠0 by lia);have g1:=ej pick (show (0:Int)<room.length by lia);obtain⟨t,EH,zm,zi⟩:∃t:Int,0<=t/\t<(n:Int)/\L2.atI (room.map λ(t:Nat)=>aI t) (pick % (room.length:Int))=cz (.int t):=by
     rw[a5w g0 (by rw[ao];exact g1),gW];have lD:room[(pick % (room.length:Int)).toNat]'(by lia)∈(aV n).filter λ(t:Nat)=>decide (rows.getD t 0=cell % q):=dc _
     have:=cC.mp (bz.mp lD).1;exact⟨_,by lia,by lia,rfl⟩
    have hb:b4N (M0 ns sm la fi n k q xs rows [tab,.int s,rwD r,.int j,y',z',u'])=cz (.nx (M0 ns sm la fi n k q xs rows [tab,.int s,rwD (r++[(v,t)]),.int j,.int cell,.list (room.map λ(t:Nat)=>aI t),.int pick])):=by
     unfold b4N;rw[x9,Z6,mK];show thn (cz (.nx (M0 ns sm la fi n k q xs rows [tab,.int s,rwD r,.int j,.int cell,z',u']))) _=_;rw[v7,x9,Z6,wx];show thn (cz (.nx (M0 ns sm la fi n k q xs rows [tab,.int s,rwD r,.int j,.int cell,.list (room.map λ(t:Nat)=>aI t),u']))) _=_;rw[v7,x9,Z6,wA];show thn (cz (.nx (M0 ns sm la fi n k q xs rows [tab,.int s,rwD r,.int j,.int cell,.list (room.map λ(t:Nat)=>aI t),.int pick]))) _=_;rw[v7];generalize HZ:cell=cc at hv;generalize HP:pick=pp at zi;generalize HQ:room=oo at zi hl;walk_at "evm";rw[hv,zi];walk_at "evm";show b0B 11 (.list (r.map stD)) _ _=_;rw[Q3 (by rw[ao];lia)];unfold rwD;rw[aZ];rfl
    refine⟨_,_,rfl,hb,r++[(v,t)],_,_,_,_,by rw[bh,hr];rfl,?_,rfl⟩;intro p Fb;rcases aC.mp Fb with z|z
    ·exact hp p z
    ·rw[aq.mp z];exact⟨EH,zm⟩)
  exact⟨r,x',y',z',u',h2,h3,h1⟩
 refine R6 (R:=λo=>∃(m:m4) (k:Nat),o=cz (.list (m.map rwD))/\WF m k/\m.length<=Bd) (λU=>∃(m:m4) (a b c d e f:D),m.length=n/\(∀r∈m,r.length=k/\∀p∈r,0<=p.2/\p.2<(n:Int))/\U=(M0 ns sm la fi n k q xs rows [.list (m.map rwD),a,b,c,d,e,f])) ?_ ?_
 ·obtain⟨U',h1,m,a,b,c,d,e,f,h2,h3,rfl⟩:=F7 (n:=n) (set:=E7 10) (g:=c0a)
   (U:=(M0 ns sm la fi n k q xs rows [.list [],.none,.none,.none,.none,.none,.none]))
   (λj U=>∃(m:m4) (a b c d e f:D),m.length=j/\(∀r∈m,r.length=k/\∀p∈r,0<=p.2/\p.2<(n:Int))/\U=(M0 ns sm la fi n k q xs rows [.list (m.map rwD),a,b,c,d,e,f]))
   ⟨[],_,_,_,_,_,_,rfl,λp hp=>(nomatch hp),rfl⟩ (by
    rintro j hj U ⟨m,a,b,c,d,e,f,h2,h3,rfl⟩;obtain⟨r,x',y',z',u',r1,r2,r3⟩:=row j hj (.list (m.map rwD)) c d e f;refine⟨_,(M0 ns sm la fi n k q xs rows [.list ((m++[r]).map rwD),.int j,rwD r,x',y',z',u']),rfl,?_,m++[r],_,_,_,_,_,_,by rw[bh,h2];rfl,?_,rfl⟩
    ·show c0a (M0 ns sm la fi n k q xs rows [.list (m.map rwD),.int j,b,c,d,e,f])=_;unfold c0a;rw[x9,Z6];show thn (cz (.nx (M0 ns sm la fi n k q xs rows [.list (m.map rwD),.int j,.list [],c,d,e,f]))) _=_;rw[v7,x9,r3,v7];walk_at "evm";rw[Q3 (by rw[ao];lia)];walk_at "evm";rw[aZ];rfl
    ·intro r' wy;rcases aC.mp wy with z|z
     ·exact h3 r' z
     ·rw[aq.mp z];exact⟨r1,r2⟩)
  exact⟨_,h1,m,a,b,c,d,e,f,h2,h3,rfl⟩
 ·rintro U ⟨m,a,b,c,d,e,f,h2,h3,rfl⟩;walk_at "evm";exact⟨m,k,rfl,⟨by lia,by lia,k1,k5,λr hr=>(h3 r hr).1,λr hr p hp=>by rw[h2];exact (h3 r hr).2 p hp⟩,by lia⟩
abbrev LV(ns:List Int)(m:m4)(xs S:List Int)(T sh W:D)(t:List D):List D:=.list (ns.map .int)::.list (m.map rwD)::.int m.length::.list (xs.map .int)::iD S::.list (m.map rwD)::T::sh::W::t
section
variable {m:m4}{k:Nat}
theorem c0c(w:WF m k)(h5:m.length<=7)(qM:nwS m k (sts m.length) d=[]):∀(n:Nat) {S:List Int},SetK m S->tb m k (d+n) S=fx->tb m k d S=fx
 |0,S,_,h=>h
 |n+1,S,hS,h=>by
  have h':(tb m k (d+n) S||(aV k).any λa=>tst (tb m k (d+n)) m a S)=fx:=h;rcases Bool.or_eq_true_iff.mp h' with q|q
  ·exact c0c w h5 qM n hS q
  ·obtain⟨a,ha,q⟩:=dA.mp q;have hk:=cC.mp ha;refine b6A qM ((Z0 h5).mpr hS) hk ?_;unfold tst at q ⊢;rw[av]at q ⊢;exact⟨q.1,bj.mpr λs hs=>c0c w h5 qM n (SetK.prt w hS hk hs) (bj.mp q.2 s hs)⟩
end
def tlT(m:m4)(k:Nat)(S:List Int):D:=if tb m k 140 S then gT m k 121 (S.zip S) else .none
theorem KB.zip(hS:SetK m S)(h:tb m k 140 S=fx):KB m k (S.zip S) S:=⟨hS,λs=>by rw[N0],by rw[N0];exact hS.1.imp λz=>by lia,h⟩
def b6T(w:WF m k):SetK m ((aV m.length).map λ(j:Nat)=>(j:Int)):=by
 have mx:=w.pos;refine⟨?_,λe=>?_,λs hs=>?_⟩
 ·exact nY.mpr (k_.imp λh=>by lia)
 ·have:=dY gN e;rw[ao,eB,pW]at this;lia
 ·obtain⟨j,hj,rfl⟩:=aR.mp hs;have:=cC.mp hj;lia
theorem any_ints(e:Int):∀es:List Int,((es.map aI).any λd=>aH d (.int e))=decide (e∈es)
 |[]=>rfl
 |x::es=>by
  rw[aA,kn,any_ints e es,a2q,fH];simp only[ig,cG,aD];exact or_congr_left eq_comm
def b7D:b2U p4 (.int e) (iD es)=cz (.bool (decide (e∈es))):=by
 show (if (aU (es.map .int)&&(aI e).canLay0&&decide ((aI e).depth<=450))=fx then _ else el)=_;rw[a0M _ (λx=>by simp only[cf]) es,show (aI e).canLay0=fx by simp only[cf],N5,any_ints];cases decide (e∈es)<;>rfl
def BadX(n:Nat)(x:D):Prop:=(∃s:Int,x=.int s/\¬ (0<=s/\s<n))\/(O1 [x]=cz (.bool p4)/\m_law_whole [x]=cz (.bool p4))
def BadX.below(h:BadX n x):p5 [x,.int n]=cz (.bool p4):=by
 unfold p5;rw[E9 (by simp[VS.argsOk,imm])];unfold a0n;rcases h with⟨s,rfl,hs⟩|⟨h,_⟩
 ·have c2:0<=s->decide (s<(n:Int))=p4:=λc=>aT λz=>hs ⟨c,z⟩
  by_cases c:0<=s<;>repeat (first|rw[c1V]|rw[aE c]|rw[c2 c]|rw[aT c]|walk_at "ev")
 ·repeat (first|rw[h]|walk_at "ev")
def wrD(n:Nat):D:=.list [.int n,.int (-1),.bool fx,.bool p4,.none,.str "0",.list [.int 0],.int (n+10^20)]
def b4Q(j:Int):∃x,dIx (wrD n) (.int (j % 8))=cz x/\BadX n x:=by
 have hj:j % 8=0\/j % 8=1\/j % 8=2\/j % 8=3\/j % 8=4\/j % 8=5\/j % 8=6\/j % 8=7:=by lia
 rcases hj with h|h|h|h|h|h|h|h<;>rw[h]<;>first|exact⟨_,rfl,.inl ⟨_,rfl,by lia⟩⟩|exact⟨_,rfl,.inr ⟨rfl,rfl⟩⟩
abbrev f_w:EvS:=(i5 (V0 10 11 (eCl m_law_told (b8 (b7 6) (b8 (b7 5) (b8 (b7 9) g8))))) (sIf (Z1 (tNo (tV (eCl m_law_whole (b8 (b7 9) g8)))) (tNo (tB (eCh dLe dLt (eC (.int 0)) (b7 9) (b7 2))))) (sIf (tB (e2 dNe (b7 10) (eC (.str "state")))) (m9 (eC (.bool p4))) p8) (i5 (k9 12 (eCl m_law_leaf (b8 (b7 1) (b8 (b7 6) (b8 (b7 9) g8))))) (i5 (sIf (tAn (tB (e2 (J8 p4) (b7 12) (eC .none))) (tB (e2 dNe (b7 10) (eC (.str "unfit"))))) (m9 (eC (.bool p4))) p8) (i5 (sIf (tAn (tB (e2 (J8 fx) (b7 12) (eC .none))) (Z1 (tB (e2 dNe (b7 10) (eC (.str "told")))) (Z1 (tNo (tV (eCl m_law_whole (b8 (b7 11) g8)))) (tB (e2 dNe (b7 11) (b7 12)))))) (m9 (eC (.bool p4))) p8) (sIf (tAn (tB (e2 (b2U p4) (b7 9) (b7 4))) (tB (e2 dNe (b7 11) (b7 9)))) (m9 (eC (.bool p4))) p8))))))
section
variable {ns:List Int}{m:m4}{xs S:List Int}{T sh W:D}
def a6b(h:m_law_told [T,.list (m.map rwD),x]=cz (.tuple [a,b])):V0 10 11 (eCl m_law_told (b8 (b7 6) (b8 (b7 5) (b8 (b7 9) g8)))) (LV ns m xs S T sh W [x,y,z,u])=cz (.nx (LV ns m xs S T sh W [x,a,b,u])):=by
 rw[a5v];show a6v 10 11 (m_law_told [T,.list (m.map rwD),x]) _=_;rw[h];rfl
def ne_str(h:be.strOk a=fx):dNe (.str a) (.str a)=cz (.bool p4):=c1B (by simp only[cf];exact h) (by simp only[dG];lia)
def b7E:dNe (.str "state") (.str "state")=cz (.bool p4):=ne_str (by decide +kernel)
def c1Y:dNe (.str "told") (.str "told")=cz (.bool p4):=ne_str (by decide +kernel)
def c1Z:dNe (.str "unfit") (.str "unfit")=cz (.bool p4):=ne_str (by decide +kernel)
def b4R(h:BadX m.length x):f_w (LV ns m xs S T sh W [x,y,z,u])=cz (.nx (LV ns m xs S T sh W [x,.str "state",.none,u])):=by
 unfold f_w;rw[x9,a6b (b4M h.below),v7];rcases h with⟨s,rfl,hs⟩|⟨_,hw⟩
 ·have c2:0<=s->decide (s<(m.length:Int))=p4:=λc=>aT λz=>hs ⟨c,z⟩
  by_cases c:0<=s<;>repeat (first|rw[a1d]|rw[aE c]|rw[c2 c]|rw[aT c]|rw[b7E]|walk_at "ev")
 ·repeat (first|rw[hw]|rw[b7E]|walk_at "ev")
def b6U{s:Int}{y z u:D}{n:Nat}{o:Option Int}(h0:0<=s)(h1:s<m.length)(hB:WB m T s n o)(hL:WL m T s n o)(hn:n<1000000)(hS:s∈S->o=cz s):∃a b c,f_w (LV ns m xs S T sh W [.int s,y,z,u])=cz (.nx (LV ns m xs S T sh W [.int s,a,b,c])):=by
 have BO:=b6S hL hn;have Bw:=b6R (a9Z h0 h1) hB hn;have c1:=aE h0;have c2:=aE h1;unfold f_w;cases o with
 |some v=>
  have zh:decide (v=v)=fx:=aE rfl;refine⟨.str "told",.int v,.int v,?_⟩;rw[x9,a6b Bw,v7];have oZ:s∈S->decide (v=s)=fx:=λc=>aE (aK (hS c))
  by_cases c:s∈S<;>repeat (first|rw[a1d]|rw[c1]|rw[c2]|rw[BO]|rw[c1Y]|rw[zh]|rw[b7D]|rw[aE c]|rw[aT c]|rw[oZ c]|walk_at "ev")
 |none=>
  have kN:decide (s∈S)=p4:=aT λc=>by cases hS c
  refine⟨.str "unfit",.none,.none,?_⟩;rw[x9,a6b Bw,v7]
  repeat (first|rw[a1d]|rw[c1]|rw[c2]|rw[BO]|rw[c1Z]|rw[b7D]|rw[kN]|walk_at "ev")
end
abbrev LP(ns:List Int)(m:m4)(xs S:List Int)(t:List D):List D:=.list (ns.map .int)::.list (m.map rwD)::.int m.length::.list (xs.map .int)::iD S::.list (m.map rwD)::t
theorem a7z:∀S:List Int,S.zip S=S.map λs=>(s,s)
 |[]=>rfl
 |s::S=>by rw[ei,aA,a7z S]
abbrev c0d:EvE:=M3 (b8 (b7 2) (b8 (eC (.int (-1))) (b8 (eC (.bool fx)) (b8 (eC (.bool p4)) (b8 (eC .none) (b8 (eC (.str "0")) (b8 (M3 (b8 (eC (.int 0)) g8)) (b8 (e2 y7 (b7 2) (e2 a2D (eC (.int 10)) (eC (.int 20)))) g8))))))))
abbrev c0e:EvE:=M3 (b8 (e2 dIx (b7 8) (e2 A9 (e2 w6 (b7 3) (eC (.int 4))) (eC (.int 8)))) (b8 (e2 dIx (b7 8) (e2 A9 (e2 V5 (e2 w6 (b7 3) (eC (.int 4))) (eC (.int 8))) (eC (.int 8)))) g8))
abbrev c0f:EvE:=eI (eSl (b7 4) oNo (oSo (eC (.int 1))))
abbrev c0g:EvE:=a3T (a3T (a1u (b7 2)) c0e) c0f
abbrev b4S:EvS:=(i5 (sIf (tNo (tV (eCl (m_law_is_tree 121) (b8 (b7 6) (b8 (eCl G6 (b8 (e2 dIx (b7 1) (eC (.int 0))) g8)) g8))))) (m9 (eC (.bool p4))) p8) (i5 (k9 7 (eCl (m_law_shown 121) (b8 (b7 6) g8))) (i5 (k9 8 c0d) (i5 (M6 (iL c0g) (E7 9) f_w) (m9 (a2E (e2 dEq (b7 5) (b7 1)) (e2 dEq (eCl (m_law_shown 121) (b8 (b7 6) g8)) (b7 7))))))))
def b6V(w:WF m k)(h7:m.length<=7){xs S:List Int}(hS:SetK m S)(h:tb m k 140 S=fx)(hl:lev m k S<=120)(hx:xs.length=5):Z2 (b4S (LP ns m xs S [gT m k 121 (S.zip S),.none,.none,.none,.none,.none,.none]))=cz (.bool fx):=by
 have hb:=KB.zip hS h;have mx:=w.pos;have hit:=a9c w hb 121 121 (by lia) (by lia) hl;obtain⟨t,z1,z2,z3⟩:=b4B w hb 121 121 (by lia) (by lia);have z4:dEq t t=cz (.bool fx):=b7p z2 (by lia);have heq:dEq (.list (m.map rwD)) (.list (m.map rwD))=cz (.bool fx):=b7p (b4c m) (a8R m);have Br:=b6P w hb 121 (by lia);have hR:=b6T w;have BP:∀U:List D,U.getD 2 .none=.int m.length->a1u (b7 2) U=cz (iD ((aV m.length).map λ(j:Nat)=>(j:Int))):=λU hU=>b6M (by show cz (U.getD 2 .none)=_;rw[hU]) (by lia)
 generalize Gh:((aV m.length).map λ(j:Nat)=>(j:Int))=R at hR BP;have Ib:R.length<=7:=by rw[<-Gh,ao,eB];lia
 obtain⟨s0,S',uX⟩:∃s0 S',S=s0::S':=by
  cases S with
  |nil=>exact absurd rfl hS.2.1
  |cons s0 S'=>exact⟨s0,S',rfl⟩
 have wH:=hS.2.2 s0 (by rw[uX];exact ar);obtain⟨x1,rY,b1⟩:=b4Q (n:=m.length) (xs.getD 4 0);obtain⟨x2,sV,b2⟩:=b4Q (n:=m.length) (xs.getD 4 0 / 8);have yr:L2.atI (xs.map aI) 4=cz (.int (xs.getD 4 0)):=a5W (j:=4) (by lia);have ER:L2.atI (m.map rwD) 0=cz (rwD (rowAt m 0)):=b6o (by lia) (by lia);have EO:(rowAt m 0).length=k:=w.row (by lia) (by lia);have Er:∀{s:Int},s∈S->(s,s)∈S.zip S:=λ{s} hs=>by rw[a7z];exact aR.mpr ⟨s,hs,rfl⟩
 generalize gT m k 121 (S.zip S)=T at hit z1 Br;have s1:(sIf (tNo (tV (eCl (m_law_is_tree 121) (b8 (b7 6) (b8 (eCl G6 (b8 (e2 dIx (b7 1) (eC (.int 0))) g8)) g8))))) (m9 (eC (.bool p4))) p8) (LP ns m xs S [T,.none,.none,.none,.none,.none,.none])=cz (.nx (LP ns m xs S [T,.none,.none,.none,.none,.none,.none])):=by
  repeat (first|rw[ER]|rw[EO]|rw[hit]|walk_at "ev")
 have s2:k9 7 (eCl (m_law_shown 121) (b8 (b7 6) g8)) (LP ns m xs S [T,.none,.none,.none,.none,.none,.none])=cz (.nx (LP ns m xs S [T,t,.none,.none,.none,.none,.none])):=by
  repeat (first|rw[z1]|walk_at "ev")
 have s3:k9 8 c0d (LP ns m xs S [T,t,.none,.none,.none,.none,.none])=cz (.nx (LP ns m xs S [T,t,wrD m.length,.none,.none,.none,.none])):=by
  unfold c0d
  repeat (first|rw[v_pow (i:=10) (j:=20) (by decide)]|walk_at "ev")
  rfl
 generalize hW:wrD m.length=W at rY sV s3;have uY:c0g (LP ns m xs S [T,t,W,.none,.none,.none,.none])=cz (.list (R.map .int++[x1,x2]++[.int s0])):=by
  have q1:c0f (LP ns m xs S [T,t,W,.none,.none,.none,.none])=cz (.list [.int s0]):=by
   unfold c0f;rw[a9O,c1D]
   try walk_at "ev"
   rw[b7s,b7t]
   try walk_at "ev"
   rw[c1E,c1F (by lia) (by rw[uX,bu];lia),a2p,uX];rfl
  have q2:c0e (LP ns m xs S [T,t,W,.none,.none,.none,.none])=cz (.list [x1,x2]):=by
   unfold c0e
   repeat (first|rw[yr]|rw[rY]|rw[sV]|walk_at "ev")
  unfold c0g;rw[b4a,b4a,BP _ rfl,q1,q2,a8O (by rw[ao];simp only[bu,pW];lia),a8O (by rw[bh,ao];simp only[bu,pW];lia)]
 have main:=R8 (enc:=λx:D=>x) (set:=E7 9) (g:=f_w) (xs:=R.map .int++[x1,x2]++[.int s0]) (U:=(LP ns m xs S [T,t,W,.none,.none,.none,.none]))
  (λ_ U=>∃x y z u,U=(LP ns m xs S [T,t,W,x,y,z,u])) ⟨_,_,_,_,rfl⟩ (by
   rintro pre x post e U ⟨x',y,z,u,rfl⟩;have hx:(∃s:Int,x=.int s/\0<=s/\s<m.length)\/BadX m.length x:=by
    have hm:x∈R.map aI++[x1,x2]++[.int s0]:=by rw[e];simp
    simp only[aC,aD,cO,or_false]at hm;rcases hm with (hm|rfl|rfl)|rfl
    ·obtain⟨s,hs,rfl⟩:=aR.mp hm;exact .inl ⟨s,rfl,hR.2.2 s hs⟩
    ·exact .inr b1
    ·exact .inr b2
    ·exact .inl ⟨s0,rfl,wH⟩
   rcases hx with⟨s,rfl,h0,h1⟩|hx
   ·obtain⟨o,o1,o2,o3⟩:=Br s h0 h1;obtain⟨a,b,c,hb⟩:=b6U (ns:=ns) (xs:=xs) (S:=S) (sh:=t) (W:=W) (y:=y) (z:=z) (u:=u) h0 h1 o1 o2 (by lia) λhs=>o3 (s,s) (Er hs) rfl
    exact⟨_,_,rfl,hb,_,_,_,_,rfl⟩
   ·exact⟨_,_,rfl,b4R hx,_,_,_,_,rfl⟩)
 obtain⟨U',g1,x,y,z,u,rfl⟩:=main;rw[jz]at g1;unfold b4S;show Z2 (i5 _ (i5 _ (i5 _ (i5 (M6 _ _ f_w) _))) (LP ns m xs S [T,.none,.none,.none,.none,.none,.none]))=_;rw[x9,s1,v7,x9,s2,v7,x9,s3,v7,x9,b7h,b6m,uY,c1x,b2B,g1,v7]
 repeat (first|rw[z1]|rw[z4]|rw[heq]|walk_at "ev")
def law_true(ns:List Int)(_:ns.length<=63):m_law [.list (ns.map .int)]=cz (.bool fx):=by
 obtain⟨m,k,hm,w,h7⟩:=a9g ns 5 7 7 (by lia) (by lia) (by lia) (by lia) (by lia);have um:m_law_machine [.list (ns.map .int),.int 5,.int 7]=cz (.list (m.map rwD)):=hm;obtain⟨xs,zg,qD,sW⟩:=a3N ns 5 (by lia);have wj:m_law_cells [.list (ns.map .int),.int 5]=cz (.list (xs.map .int)):=zg;have mx:=w.pos;have yb:=w.le;obtain⟨S,BN,hS⟩:=b6N (m:=m) w (c:=xs.getD 3 0*48271 % 1000000007) (du _ (by decide));obtain⟨d,sj,qM,hd⟩:=a4b w h7;have st:∀{S:List Int},SetK m S->∀e,d<=e->tb m k e S=tb m k d S:=λ{S} hS e he=>by
  cases q:tb m k d S with
  |true=>exact a0Y q he
  |false=>
   cases q2:tb m k e S with
   |false=>rfl
   |true=>
    rw[show e=d+(e-d) by lia]at q2;rw[c0c w h7 qM _ hS q2]at q;cases q
 have h4:∀{S:List Int},SetK m S->tb m k 140 S=fx->lev m k S<=120:=λ{S} hS h=>by
  rw[st hS 140 (by lia)]at h;have:=a8X h (by lia);lia
 have zj:∀S,SetK m S->K2 [.list (m.map rwD),iD S]=cz (tlT m k S):=λS hS=>by
  rw[a9a (by lia) hS,a7w w h7 (by lia) sj hS];unfold tlT;have:S∈kdS m k (sts m.length) d↔tb m k 140 S=fx:=by
   rw[E3,st hS 140 (by lia)];exact⟨λz=>z.2,λz=>⟨(Z0 h7).mpr hS,z⟩⟩
  by_cases c:tb m k 140 S=fx
  ·rw[aJ (this.mpr c),aJ c]
  ·rw[aN λz=>c (this.mp z),aN c]
 obtain⟨s0,S',uX⟩:∃s0 S',S=s0::S':=by
  cases S with
  |nil=>exact absurd rfl hS.2.1
  |cons s0 S'=>exact⟨s0,S',rfl⟩
 have h1:SetK m [s0]:=⟨iw _ _,by simp,λt ht=>by rw[aq.mp ht];exact hS.2.2 s0 (by rw[uX];exact ar)⟩;have Al:L2.atI (S.map aI) 0=cz (.int s0):=by rw[uX];exact a5W (j:=0) (by simp)
 have yr:L2.atI (xs.map aI) 3=cz (.int (xs.getD 3 0)):=a5W (j:=3) (by lia);have tl:∀{Q:List Int},SetK m Q->tb m k 140 Q=fx->Z2 (b4S (LP ns m xs Q [gT m k 121 (Q.zip Q),.none,.none,.none,.none,.none,.none]))=cz (.bool fx):=λhQ hq=>b6V w h7 hQ hq (h4 hQ hq) qD
 have EK:lIs (cz (.list [.int s0]))=cz (.list [.int s0]):=a2p (xs:=[s0]);unfold m_law;rw[E9 (by simp[VS.argsOk])];unfold b_law;show Z2 (i5 _ (i5 _ (i5 _ (i5 _ (i5 _ (i5 _ (i5 _ b4S)))))) [.list (ns.map .int),.none,.none,.none,.none,.none,.none,.none,.none,.none,.none,.none,.none])=_;generalize b4S=F at tl ⊢;cases q:tb m k 140 S with
 |true=>
  have hT:=zj S hS;unfold tlT at hT;rw[aJ q]at hT
  repeat (first|rw[um]|rw[wj]|rw[yr]|rw[W9 (i:=xs.getD 3 0) (j:=48271) (by decide)]|rw[BN]|rw[b4g (m:=m) (by walk_at "ev") (by lia)]|rw[a2p]|rw[hT]|rw[b4J (f:=120)]|walk_at "ev")
  exact tl hS q
 |false=>
  have hT:=zj S hS;unfold tlT at hT;rw[aN (by rw[q];exact bc)]at hT;have q1:tb m k 140 [s0]=fx:=a0Y (d:=0) (aE rfl) (by lia);have hU:K2 [.list (m.map rwD),.list [.int s0]]=cz (gT m k 121 ([s0].zip [s0])):=(zj [s0] h1).trans (dY cz (aJ q1))
  repeat (first|rw[um]|rw[wj]|rw[yr]|rw[W9 (i:=xs.getD 3 0) (j:=48271) (by decide)]|rw[BN]|rw[b4g (m:=m) (by walk_at "ev") (by lia)]|rw[a2p]|rw[hT]|rw[Al]|rw[EK]|rw[hU]|walk_at "ev")
  exact tl h1 q1
def c0h{l:pS}{w:bK}{K:af}{mg:bt->Option ai}{fa:aw}(zZ:mg "law"=cz (.ref fa))(b:Bn K mg)(mv:(D0 K "least_asks").isSome=fx)
  : ∃fd:dJ,(∀(s:aj) (v:ai),ox s fd ⟨[v],[]⟩ [("_law_script",v)])/\∀base:bL,K.In base->base.Ns ba mg->FnOk l.prog w K mg base CX0 126 fa fd ["_law_script"] (spD K 1 m_law .i):=b9z zZ b.d31 λbase KB GB fd F=>by
 have B:Bk l.prog w K mg base:=⟨b⟩;have iS:=ok_law_cell_at B;have fR:=ok_law_cells B iS.u;have jc:=ok_law_copied B;have je:=ok_law_answer B;have iQ:=ok_law_machine B fR.u jc.u je.u;have kU:=ok_law_set B;have gG:=a0m B;have il:=a1y B;have ki:=a7i B;have fD:=a7j B ki.u;have ma:=b1v B il.u fD.u;have ke:=a7m B ma.u;have kT:=a8S B;have lJ:=a1z B;have fZ:=a0Q B;have gH:=a0o B fZ.u;have kW:=a8T B;have gu:=a5P B;have iP:=a3t B kW.u gu.u;have jb:=a3Y B kT.u gH.u iP.u lJ.u mv KB GB;have kG:=b4h B gu.u 121;have iO:=a3u B jb.u kG.u;have jO:=a8U B gG.u ke.u iO.u;have gx:=ok_law_shown B 121;have fy:=ok_law_whole B;have gh:=ok_law_is_tree B fy.u 121;have gJ:=a3v B fD.u;have fY:=a4a B fD.u;have m_:=b1w B fY.u gJ.u;have mZ:=b4i B fY.u gJ.u;have kg:=ok_law_told B mZ.u m_.u;have jd:=ok_law_branch B;have kh:=ok_law_leaf B jd.u;exact ok_law B fR.u iQ.u kU.u jO.u gx.u fy.u gh.u kg.u kh.u F
end Prog
namespace PySem.W.Fast
def tw14432604498367921478:=0
def tw15249300324933608516:=0
def tw17781489654142271388:=0
def tw5913061816207594399:=0
def tw17943807153184811115:=0
def tw8684329959365444634:=0
def tw8647864077025856517:=0
def tw2968297658327500229:=0
def tw15901361685377282179:=0
def tw17162616471869056497:=0
def tw4293390564096190825:=0
def tw6897499668074534105:=0
def tw5820632852772500194:=0
def tw16988690095814900653:=0
def tw46302779106266413:=0
def tw12129674596722940212:=0
def tw1077765361362947158:=0
def tw4825816429843605581:=0
def tw3554593494809707116:=0
def tw13032024733683297052:=0
def tw12638054444082972821:=0
def tw12366441636022690460:=0
def tw8334945707053744323:=0
def tw4373319220578674792:=0
def tw16282295995689215727:=0
def tw10575732332700192440:=0
def tw2477107616827312506:=0
def tw10628040166522760053:=0
def tw10128608451030615406:=0
def tw1618670466301685686:=0
def tw17513027080459707789:=0
def tw8095594005427945774:=0
def tw13809495387280779207:=0
def tw5731163724148035975:=0
def tw11166226609183436401:=0
def tw791752797215652419:=0
def tw12865605095060420156:=0
def tw4231288692856253579:=0
def tw10046617154530633876:=0
def tw1092116329645779110:=0
end PySem.W.Fast
end
open PySem.W PyProof.Rows
set_option maxRecDepth 100000 in
set_option maxHeartbeats 0 in
theorem PySem.Challenge.cw_probewell_k42_where_one_began_holds : PySem.Challenge.rw_probewell_k42_where_one_began.Holds := by
 w_on;o_law;k_head;(case hw=>w_witness2)
 k_fill
 refine VS.b0A (k:=126) (x:="_law_script") (m:=Prog.m_law) (l:=PySem.Challenge.rw_probewell_k42_where_one_began) rfl rfl ⟨rfl,by decide,by decide⟩ (fun w h rp=>by first|exact PySem.W.kIn_of rp|exact PySem.W.km_in_of rp) (fun w=>by kernel_rfl) ?F Prog.law_true
 case F=>
  intro w mg fa h KX G hmg
  refine' Prog.c0h hmg ?b ?_
  case b=>
   constructor
   iterate 32 (refine' VS.c1o KX G ?a ?l ?c ?k;(case a=>k_is);(case l=>k_is);(case c=>k_is);(case k=>k_is))
   iterate 14 (refine' PySem.W.mg_none_of KX G ?_;k_is)
   iterate 1 (refine' VS.c2Q KX G ?a;(case a=>k_is))
   iterate 2 (refine' VS.c2S ?a ?b;(case a=>k_is);(case b=>kernel_rfl))
   (refine' VS.c2T ?a ?b;(case a=>k_is);(case b=>kernel_rfl))
   (refine' VS.c1q KX G ?a ?b ?c;(case a=>k_is);(case b=>kernel_rfl);(case c=>kernel_rfl))
   (refine' VS.c1q KX G ?a ?b ?c;(case a=>k_is);(case b=>kernel_rfl);(case c=>kernel_rfl))
   (refine' ⟨?b,?c⟩;(case b=>kernel_rfl);(case c=>kernel_rfl))
   iterate 2 exact⟨_,_,_,_,_,PySem.W.mg_of KX G (by k_is),PySem.W.mg_of KX G (by k_is),PySem.W.mg_of KX G (by k_is),PySem.W.mg_of KX G (by k_is),PySem.W.mg_of KX G (by k_is),by kernel_rfl,by kernel_rfl⟩
  kernel_rfl
