import PyProof.Rows.All
import Wide.All
import OpenK.AllK
import PySem.Challenge.RW_probewell_k43_branches_of_a_tree
set_option Elab.async false
set_option linter.all false
set_option maxRecDepth 100000
set_option compiler.extract_closed false
set_option bootstrap.genMatcherCode false
noncomputable section
open Option renaming some->cz,none->el
open Bool renaming true->p4,false->rp
open PySem renaming wpAny_bind->ab,wpAny_pure->ae,Value->ai,Shared->ar,Addr->av,starEach->ax,wpAny->aD,sizeLine->aP,model->aT,PyData->bc,Program->bw,Around->bC,wpAny_call_entry->bD,Str->bH,wpAny_callSpecial?_slot->bI,wpAny_holding->bK,mainGlobals->bL,World->bO,compareOp->bQ,Heap->bR,mem_of_lookup->bZ,eval->cy,wpAny_dictEntries->cA,backTo->cB,wpAny_field->cL,sizeLine_eq->cM,sysModules->cN,intKind->cQ,rawInt->cV,attributeBase->cZ,wpAny_mono->c_,wpAny_newObj_type->de,cLine->dq,wpAny_specialOf->du,FuncData->dB,wpAny_truthy_bool->dD,wpAny_seqItems->dG,codeAny_builtin->dJ,wpAny_rule->dQ,foldedSetIterable->dR,wpAny_ite_split->d_,behindInMarks->et,wpAny_setField->eA,binaryOp->eF,Pos->eM,DictEntry->eQ,Paired->eS,plainId_quiet->eY,wpAny_isInstance->ff,wpAny_setField_rec->fm,wpAny_Call_Name_kw->fq,wpAny_notOrdered_dict->fA,Obj->fD,swapsWith->fE,codeAny_mono->fG,pyNext->fP,assignEach->fQ,wpAny_typeNameOfWhole_keyiter->f_,Scope->gd,bootBuiltins->gh,wpAny_passesOwn->gj,SetTable->gq,wpAny_attempt->gB,wpAny_setState_of->gF,codeAny->gH,wpAny_typeOf->gY,Stmt->g_,wpAny_setEntries_of->ib,wpAny_typeNameOf_keyiter->ie,wpAny_Call_method0_late->iw,wpAny_fieldsOf->iK,firstArgMember->iM,NameKind->iO,Keyword->iQ,builtinLookup_eq_fast->jd,evalArgs_none->je,scanBound->jk,IsPair->jt,sliceBounds->ju,wpAny_updateSeq->jF,wpAny_dictEpoch->jG,hashInt->jL,TriplesOk->jU,builtinsNs->jY,keywordEach->kF,fits_of_scanBound->kJ,dictSetHashed->kO,pickOrder->lh,codeAmong->lE,ReadsAll->lG,Walks->lH,PassesOwn->lJ,Arguments->lM,wpAny_load->lQ,relabel->lR,wpAny_execs_nil->md,typeLookup_type->me,letOwnedTupleGo->mh,wpAny_updateDictKeys->mN,wpAny_runValue->mO,wpAny_letGo->mP,relayAll->mR,isSubtype_type->mT,assign->ng,IsZip->nD,holding->nG,callerA->nJ,BindsTo->nK,field->om,Env->ox,typeLookup->oA,intKind_is->oG,closureFor->oQ,wpAny_pyIter_slot->pD,wpAny_pyIter_list->pE,getItem->qo,bindArgs->qu,backToKw->qw,wpAny_askSetting->qT,updateSeq->qU,pyIter->qY,noFill_tuple_add->qZ,isTrue->rd,wpAny_of_eq->rU,unsupported->rX,subscripted->rY,wpAny_ret_mkInt->sL,setNext->ua,wpAny_newTuple->uG,wpAny_call->uH,truthy->uJ,slotArgs->uO,isSubtype_stop->uX,entryFor_alias->wg,entryFor->wj,dictSetDefault->wm,call_meets->wy,callType_codes->wz,wpAny_pendingCount_other->xI,wpAny_onRaise->xJ,wpAny_handled->xK,wpAny_comprehension_free->xM,swapsWithSole->xO,swappedStores->xP,seq_tuple_add->xQ,call->zE,wpAny_callSpecial?_none->zM,seqItems?->zR,lastMarks->Ad,bindL->By,bindC->Bz,wpAny_Call_method_late->BV,newExc->CB,dictSet->Fs,concat_meets->Ft,call_meetsIn->Fv,Result->Fy,wpAny_isOneOf_keyiter->FL
open PySem.W renaming Frag->af,kia_one->cJ,kitOne->ei,kla_obj->eu,keepIn->fK,fnOf->fS,CodeHd->gu,nsIn->gD,envX->jr,findIn->jA,mg_of->jQ,codeIn->lI,methodObj->nk,kitx_list->nq,kitx_dict->nr,instObj->oR,OpenLaw->oS,lookIn->qz,cellsFrom_some->tS,kitx_tuple->zF,callWith_K->zG,specialIn->BC,plainGet->Fz
open PySem.Heap renaming get?_push_of_some->ag,get?_push_size->aE,lt_size->aF,get?_update_self->bS,SameBut->cD,size_push->cH,get?_update_other->dA,ExtBut->sI
open List renaming length_map->ah,mem_cons_self->aj,mem_cons_of_mem->ak,mem_singleton->ao,mem_append_right->aq,getElem?_eq_getElem->au,map_cons->ay,mem_append->az,mem_append_left->aA,mem_cons->aC,map_append->aM,replicate->aN,getElem?_eq_some_iff->aO,range->aQ,mem_map->aR,getD_eq_getElem?_getD->aU,length_append->aV,getElem?_map->aX,count_append->aZ,nodup_append->bb,append_assoc->be,cons_append->bh,all_eq_true->bj,size_toArray->bo,nodup_nil->bp,nodup_cons->br,mem_map_of_mem->bt,mem_filter->bx,append_nil->bz,mem_of_getElem?->bA,length_cons->bB,map_map->bG,mem_iff_getElem?->bJ,map_congr_left->bU,mem_range->cg,nodup_iff_count->cn,not_mem_nil->cu,nil_append->cw,any_eq_false->cx,map_nil->cE,count_pos_iff->cO,count_cons->cS,getElem_mem->cW,any_eq_true->cX,length_zip->dh,count_eq_zero->dF,drop_eq_getElem_cons->dP,getElem?_eq_none->dU,zip_cons_cons->dW,mem_filterMap->dX,length_take->dY,getElem?_set_ne->ej,length_eq_zero_iff->er,getElem?_append_right->eV,length_filter_le->eW,length_range->fw,count_cons_self->fy,lookup_cons->fL,filter_cons_of_pos->fM,filter_cons_of_neg->fN,find?_eq_none->fT,filter_append->fU,of_mem_zip->fW,length_replicate->fZ,mem_iff_getElem->gy,length->gz,getElem?_zip_eq_some->gI,getElem?_append_left->gJ,replicate_zero->gN,find?_range_eq_some->gU,find?_cons->gX,pairwise_singleton->ia,getElem?_set_self->ij,drop_length->iH,set_comm->iJ,pairwise_append->iP,forIn_cons->iY,replicate_succ->jf,length_pos_iff->jg,getElem?_range->jh,set_cons_succ->jB,perm_ext_iff_of_nodup->jC,pairwise_cons->jD,forIn_nil->jE,take_length->kc,mem_reverse->ke,length_drop->kg,getElem_map->kh,pairwise_lt_range->kC,map_id'->kD,length_singleton->kW,filterMap_cons->ma,sum_cons->mr,set_cons_zero->mH,take_succ_eq_append_getElem->nu,reverse_cons->nv,pairwise_map->ny,ext_getElem?->nz,zip_append->oV,sum_append->oW,foldl_cons->oX,mem_of_find?_eq_some->qR,exists_mem_of_ne_nil->qS,getElem?_replicate->sG,eraseIdx_cons_succ->sH,length_pos_of_mem->tU,filter_eq_nil_iff->tW,getElem?_toArray->uy,getElem?_reverse->uz,dropLast_eq_take->uA,contains_iff_mem->uB,length_eraseIdx->wC,length_reverse->xC,zip_nil_left->BD,getElem_take->BE,find?_isSome->BF,filter_congr->BH,zipIdx_cons->FC,range'_succ->FD,map_reverse->FE,map_fst_zip->FF,filter_cons->FG,zipIdx_nil->GP,find?_some->GQ,filter_nil->GR
open Bool renaming and_eq_true->aw,false_ne_true->aS,false_eq_true->cP,and_self->ef,eq_iff_iff->fX,and_true->fY,beq_eq_decide_eq->iz,or_eq_true->iZ,not_eq_true'->jI,true_and->jS,not_true->jT,false_or->rS,or_eq_true_iff->xG
open Nat renaming le_refl->aB,ne_of_lt->ba,lt_of_lt_of_le->bu,le_trans->bV,zero_le->b_,lt_irrefl->dg,le_of_lt->dC,ne_of_gt->ee,lt_trans->fu,lt_succ_of_lt->gf,le_succ->gx,lt_or_ge->gE,lt_of_le_of_lt->hU,lt_succ_self->ka,min_self->kB,add_assoc->mq,le_add_right->nX,min_le_left->oU,strongRecOn->GL,min_eq_left->GN,le_antisymm->GO
open Option.some renaming inj->aH,injEq->nt
open PySem.PyData renaming int->aJ,eqv->aK,canLayAll0->bg,depthAll->bM,canLay0->cC,eqvAll->cR,depth->dy,bool->dE,list->dM,none->gQ,tuple->hJ
open PySem.Value renaming ref->a_,none->cj,type->dS,int->jo,bool->jq,isInt->jy,isInt_shape->qx,str->rK,builtin->zD
open Int renaming toNat_natCast->bE,emod_nonneg->dm,emod_lt_of_pos->dZ,toNat_of_nonneg->ji,natCast_mul->kK,natCast_add->oY
open Option renaming bind_some->bF,map_eq_some_iff->dt,isSome_iff_exists->fC,bind_eq_some_iff->sF,getD_none->FA,map_some->GK
open Array renaming getElem?_eq_getElem->bN,getElem?_toList->bX,length_toList->cI,mem_toList_iff->dI,getElem?_eq_none->eN,getD_eq_getD_getElem?->eO,toArray_toList->gA,forIn_toList->mJ,toList_push->BM
open PySem.Heap.SameBut renaming update->bP
open PySem.PassesOwn renaming never->bW
open PySem.Builtin.SmallTypes renaming ownedTupleIsFree->bY,nextOf->cm,ownedTupleHandOut->nY
open PySem.Str renaming ofString->cf
open False renaming elim->cG
open PySem.Around renaming under_plainId->cU
open Ne renaming symm->dc
open PySem.Builtin.List renaming listExtendWith->df,listLengthHint->gK,listSameRef->ip,listItems->FJ
open PySem.Paired renaming length->dw
open PyProof.Rows renaming step_dedup->dH,callWith_type1->eL,envOfC->jb,firstMet->kU,entry_proto_collect'->mM,entry_list_iadd'->ou,AllBare->oy,sortedHeap_old->pB,list_sort_tree->pC,sortedHeap_at->qB,SortKind->qM,seqObj->ub,IntsAre->wA
open ForInStep renaming yield->dO
open PySem.Builtin.Tuple renaming tupleHashOf->eh
open PySem.SetTable renaming below->eH,grown->gO
open PySem.Builtin.Dict renaming updateFrom->eR,mergeDict->iS,showsAll->jj,selfAndRest->kX,entriesForEmpty->tZ,readDirectly->xE,pendingCount->xF,addKeywords->zJ
open PySem.F renaming slot_dict_keyiterator_next->eU,slot_dict_values->gP,slot_tuple_iterator_next->gW,called_set->hW,plain_list_iadd->hX,plainAttrs_list->hZ,plainAttrs_dict->h_,slot_dict_len->iq,args_tuple_add_2->jR,entry_tuple_add->j_,slot_tuple_add->kz,slot_tuple_hash->kL,slot_zip_getattribute->lK,slot_zip_next->mv,plain_proto_collect->pA,args_dict_values_1->qA,slot_list_reverse->qN,slot_dict_getitem->qO,plain_extend_loop->qP,entry_dict_values->qQ,type_list_append->rL,type_dict_values->rM,slot_list_append->rN,slot_dict_update->rO,slot_dict_iter->rQ,args_dict_keyiterator_next_1->rR,slot_dict_items->sE,entry_dict_keyiterator_next->sJ,args_tuple_iterator_next_1->tX,entry_tuple_iterator_next->uD
open PySem.Calls renaming callWith_builtin->eX,call_function_entry->kE,evalArgs_plain->nE,Name_function_global->wF
open PySem.NameKind renaming free->e_
open Or renaming inl->fg,inr->iX
open PySem.Obj renaming data_mapFields->gi,mapSeq->gR,data_mapDictKeys->gS,isFreed_of_dict->ic,isFreed_of_fields->mG,cls_mapFields->qC,data_mapDict->rP,putSet->wB,mapFields->zH
open PyProof.Rows.F renaming plain_set_update_loop->gM,entry_set_update_loop->l_
open List.Perm renaming refl->ik,append_left->uC
open List.Pairwise renaming nil->il,of_map->wD,map->BJ
open True renaming intro->jz
open PUnit renaming unit->kA
open PySem.Shared renaming TypeIs->kT
open Sum renaming inr->ni,inl->nj
open PySem.SeqAt.ReadsAll renaming length->ot
open PySem.SetTable.below renaming go->qy
open PySem.Builtin.Dict_items renaming ownsTuple->tY
open List.Sublist renaming refl->BI
open PySem.Builtin.Range renaming rangeSize->BL
open PySem.pickOrder renaming go->Cs
open List.cons renaming injEq->GS
def aG:=@if_pos
def aI:=@decide_eq_true
def aL:=@if_neg
def aW:=@of_decide_eq_true
def aY:=@decide_eq_false
def cY:=@decide_eq_true_eq
def eE:=@congrArg
def fF:=@if_false
def fH:=@beq_self_eq_true
def gL:=@beq_eq_false_iff_ne
def jl:=@if_true
def kn:=@beq_iff_eq
def ZZ(h:True:=by first|exact .inl rfl|exact .inr rfl|assumption):True:=h
def ZY(h:True:=by first|exact⟨.inl rfl,by decide,by decide⟩|exact⟨.inr (.inl rfl),by decide,by decide⟩|exact⟨.inr (.inr rfl),by decide,by decide⟩):True:=h
def ZX(h:True:=by first|exact Z9 _|with_unfolding_all rfl):True:=h
def ZW(h:True:=by first|exact fg rfl|exact iX rfl):True:=h
def ZV(h:True:=by first|exact .inl rfl|exact .inr rfl):True:=h
namespace L2
open PySem PySem.Spec PyProof.Rows
abbrev Key:=Sum Int bH
def b5q:Key->ai->Bool
  |.inl k,v=>jy k v
  |.inr x,v=>ai.isStrOf x v
def b9O(w:bO):Key->Int
  |.inl k=>jL k
  |.inr x=>hashStr w x
def w8:∀{k:Key} {v:ai},b5q k v=p4->(∃i t,k=nj i/\v=jo i t)\/(∃x t,k=ni x/\v=rK x t)
  |.inl i,v,h=>by
    obtain⟨t,e⟩:=qx (k:=i) (v:=v) h;exact .inl ⟨i,t,rfl,e⟩
  |.inr x,v,h=>by
    obtain⟨t,e⟩:=ai.isStrOf_shape (x:=x) (v:=v) h;exact .inr ⟨x,t,rfl,e⟩
def b5Q(a b:Int):decide ((nj a:Key)=nj b)=(a==b):=by
  by_cases e:a=b
  . subst e;simp
  . have h:¬ (nj a:Key)=nj b:=λq=>e (nj.inj q)
    rw[aY h];exact (gL.mpr e).symm
def b5R(a b:bH):decide ((ni a:Key)=ni b)=decide (a=b):=by
  by_cases e:a=b
  . subst e;simp
  . have h:¬ (ni a:Key)=ni b:=λq=>e (ni.inj q)
    rw[aY h,aY e]
def b5S(a:Int)(b:bH):decide ((nj a:Key)=ni b)=rp:=aY (λq=>nomatch q)
def b5T(a:bH)(b:Int):decide ((ni a:Key)=nj b)=rp:=aY (λq=>nomatch q)
def a4I(prog:bw)(w:bO):PySem.KeyKind prog w Key where
  is:=b5q
  hash:=b9O w
  inj:=λv a b ha hb=>by
    rcases w8 ha with⟨i,t,rfl,rfl⟩|⟨x,t,rfl,rfl⟩
    . rcases w8 hb with⟨j,u,rfl,e⟩|⟨y,u,rfl,e⟩
      . injection e with e1 _;rw[e1]
      . exact nomatch e
    . rcases w8 hb with⟨j,u,rfl,e⟩|⟨y,u,rfl,e⟩
      . exact nomatch e
      . injection e with e1 _;rw[e1]
  byValue:=λk v h=>by
    rcases w8 h with⟨i,t,rfl,rfl⟩|⟨x,t,rfl,rfl⟩<;>rfl
  pyHash:=λhv h=>by
    rcases w8 hv with⟨i,t,rfl,rfl⟩|⟨x,t,rfl,rfl⟩
    . exact wpAny_pyHash_int h
    . exact wpAny_pyHash_str h
  eqBool:=λhu hv h=>by
    rcases w8 hu with⟨i,t,rfl,rfl⟩|⟨x,t,rfl,rfl⟩
    . rcases w8 hv with⟨j,u,rfl,rfl⟩|⟨y,u,rfl,rfl⟩
      . rw[b5Q]at h;exact wpAny_eqBool_int h
      . rw[b5S]at h;exact SeqAt.EqAt.int_str i t y u _ _ _ _ h
    . rcases w8 hv with⟨j,u,rfl,rfl⟩|⟨y,u,rfl,rfl⟩
      . rw[b5T]at h;exact SeqAt.EqAt.str_int x t j u _ _ _ _ h
      . rw[b5R]at h;exact wpAny_eqBool_str h
  «strs»:=λk x t v h=>by
    rcases w8 h with⟨i,u,rfl,e⟩|⟨y,u,rfl,e⟩
    . exact nomatch e
    . injection e with e1 _
      subst e1;cases v<;>rfl
inductive V where
  |non|bl (b:Bool)|int (i:Int)|str (x:bH)|byt (b:Array UInt8)|flt (b:UInt64)|ref (a:av)|ty (n:String)
  deriving DecidableEq
def RelV:V->ai->Prop
  |.non,u=>u=cj
  |.bl b,u=>u=jq b
  |.int i,u=>∃t,u=jo i t
  |.str x,u=>∃t,u=rK x t
  |.byt b,u=>∃t,u=ai.bytes b t
  |.flt b,u=>∃t,u=ai.float b t
  |.ref a,u=>u=a_ a
  |.ty n,u=>u=dS n
abbrev Vals:List V->List ai->Prop:=eS RelV
theorem Vals.length{xs:List V}{us:List ai}(r:Vals xs us):xs.length=us.length:=dw r
theorem Vals.get:∀{xs:List V} {us:List ai} {i:Nat} {x:V},Vals xs us->xs[i]?=cz x->∃u,us[i]?=cz u/\RelV x u
  |_,_,_,_,.nil,e=>by simp at e
  |_,_,0,_,.cons r _,e=>by simp at e;subst e;exact⟨_,rfl,r⟩
  |_,_,i+1,x,.cons _ t,e=>by
    obtain⟨u,h1,h2⟩:=Vals.get (i:=i) (x:=x) t (by simpa using e);exact⟨u,by simpa using h1,h2⟩
theorem Vals.append:∀{xs ys:List V} {us ws:List ai},Vals xs us->Vals ys ws->Vals (xs++ys) (us++ws)
  |_,_,_,_,.nil,s=>s
  |_,_,_,_,.cons r t,s=>.cons r (Vals.append t s)
theorem Vals.take:∀{xs:List V} {us:List ai} (n:Nat),Vals xs us->Vals (xs.take n) (us.take n)
  |_,_,0,_=>.nil
  |_,_,_+1,.nil=>.nil
  |_,_,n+1,.cons r t=>.cons r (Vals.take n t)
theorem Vals.drop:∀{xs:List V} {us:List ai} (n:Nat),Vals xs us->Vals (xs.drop n) (us.drop n)
  |_,_,0,r=>r
  |_,_,_+1,.nil=>.nil
  |_,_,n+1,.cons _ t=>Vals.drop n t
def b5U:Option V->Option ai->Prop
  |some v,cz u=>RelV v u
  |none,el=>True
  |_,_=>False
def KV{κ:Type}:List (κ×V)->List (κ×ai)->Prop:=eS λ(p:κ×V) (q:κ×ai)=>p.1=q.1/\RelV p.2 q.2
def kV:Key->V
  |.inl i=>.int i
  |.inr x=>.str x
inductive HO where
  |lst (xs:List V)
  |tup (xs:List V)
  |dK (kvs:List (Key×V))|dT (kvs:List (List Key×V))
  |set (S:Int->Bool) (n:Nat)
  |ins (C dx:av) (fs:List (bH×V))
  |own (x:av)
  |xd (fs:List (bH×V))
  |met (f x:av)
  |rng (lo hi:Int)
  |frz (o:fD) (u:HO)
  |tbl (ps:Array ai)
  |ext (φ:bR->Prop)
abbrev Hp:=av->Option HO
def upd(H:Hp)(a:av)(o:HO):Hp:=λb=>if b=a then cz o else H b
def i4{H:Hp}{a:av}{o:HO}:upd H a o a=cz o:=by unfold upd;rw[aG rfl]
def f6{H:Hp}{a b:av}{o:HO}(h:b≠a):upd H a o b=H b:=by unfold upd;rw[aL h]
def b3o:upd (upd H a o) a u=upd H a u:=by
  funext b;unfold upd;split<;>rfl
def n8{H:Hp}{a b:av}{o:HO}(h:H a=cz o)(h':H b=el):a≠b:=by
  intro e;subst e;rw[h]at h';cases h'
def Pin(a:av):HO->Prop
  |.tup _=>True
  |.frz _ (.own b)=>b=a
  |_=>False
abbrev b8e(a:av):={u:HO // Pin a u}
def a5x(H:Hp)(h:bR)(a:av)(qs:Array ai):Prop:=
  ∃ps:Array ai,h.get? a=cz {cls:=.none,data:=.fields ps}/\jU ps.toList/\∀(pos:eM) (cv:ai),lE pos ps.toList=cz cv->
    ∃c' oc vs q t t',cv=.ref c'/\H c'=cz (.frz oc (.own a))/\oc.data=.fields vs/\vs[1]?=cz (.str q t)/\qs[0]?=cz (.str q t')
section
variable (P:bw)(w:bO)
def ObjOk(H:Hp)(h:bR)(a:av):HO->Prop
  |.lst xs=>xs.length<=aP/\∃(cK:List ai) (n:Nat),Vals xs cK/\h.get? a=cz {cls:=.type "list",data:=.seq cK.toArray n}
  |.tup xs=>xs.length<=aP/\∃cK:List ai,Vals xs cK/\IsTup h a cK.toArray
  |.dK kvs=>kvs.length<=aP/\(a==cN)=rp/\∃vs,KV kvs vs/\h.DictOf (a4I P w) a vs
  |.dT kvs=>kvs.length<=aP/\(a==cN)=rp/\∃xs:List (List Key×av×ai),
      eS (λ(p:List Key×V) (q:List Key×av×ai)=>p.1=q.1/\H q.2.1=cz (.tup (p.1.map kV))/\RelV p.2 q.2.2) kvs xs/\
      ∃o es ep,h.get? a=cz o/\o.ExactDict/\o.data=.dict es ep/\es.toList=xs.map (entryOfKey (tupleKind (a4I P w)))/\(xs.map (·.1)).Nodup
  |.set S n=>h.SetOf (cQ P w) a S n
  |.ins C dx fs=>H dx=cz (.own a)/\fs.length<=1000/\dx≠a/\h.get? a=cz (oR C dx)/\
      ∃mA,h.Ns1 dx mA/\(∀f,b5U (fs.lookup f) (mA f))/\PySem.Within mA (fs.map (·.1))
  |.own _=>∃o,h.get? a=cz o
  |.xd fs=>∃mA,h.Ns1 a mA/\∀f,b5U (fs.lookup f) (mA f)
  |.rng lo hi=>∃t u v,h.get? a=cz {cls:=.type "range",data:=.fields #[.int lo t,.int hi u,.int 1 v]}
  |.frz o u=>h.get? a=cz o/\ObjOk H h a u
  |.tbl ps=>a5x H h a ps
  |.met f x=>h.get? a=cz (nk (.ref f) (.ref x))
  |.ext φ=>φ h/\(∃o,h.get? a=cz o)/\∀h1 h2:bR,φ h1->(∀o,h1.get? a=cz o->h2.get? a=cz o)->φ h2
def HOk(H:Hp)(h:bR):Prop:=∀a o,H a=cz o->ObjOk P w H h a o
end
section
variable {P:bw}{w:bO}{H H':Hp}{h h':bR}{a:av}{o:HO}
theorem ObjOk.lt(x:ObjOk P w H h a o):a<h.objs.size:=by
  cases o with
  |lst xs=>obtain⟨_,_,_,_,e⟩:=x;exact aF e
  |tup xs=>obtain⟨_,_,_,p⟩:=x;exact p.lt
  |dK kvs=>obtain⟨_,_,_,_,o,_,_,e,_⟩:=x;exact aF e
  |dT kvs=>obtain⟨_,_,_,_,o,_,_,e,_⟩:=x;exact aF e
  |set S n=>obtain⟨o,_,_,_,e,_⟩:=x;exact aF e
  |ins C dx fs=>obtain⟨_,_,_,e,_⟩:=x;exact aF e
  |own y=>obtain⟨_,e⟩:=x;exact aF e
  |xd fs=>obtain⟨_,⟨_,_,_,e,_⟩,_⟩:=x;exact aF e
  |rng lo hi=>obtain⟨_,_,_,e⟩:=x;exact aF e
  |frz ob u=>obtain⟨e,_⟩:=x;exact aF e
  |tbl ps=>obtain⟨_,e,_⟩:=(show a5x H h a ps from x);exact aF e
  |met f y=>exact aF (show h.get? a=cz _ from x)
  |ext φ=>obtain⟨_,⟨_,e⟩,_⟩:=x;exact aF e
theorem Paired.mapP:∀{l₁:List α} {l₂:List β},eS F l₁ l₂->(∀a b,F a b->G a b)->eS G l₁ l₂
  |_,_,.nil,_=>.nil
  |_,_,.cons r t,f=>.cons (f _ _ r) (Paired.mapP t f)
def ObjOk.stay(x:ObjOk P w H h a o)(k:∀b u,(b=a\/H b=cz (.own a))->h.get? b=cz u->h'.get? b=cz u)
    (ho:∀b,H b=cz (.own a)->H' b=cz (.own a)) (ht:∀b (u:b8e a),H b=cz u.1->H' b=cz u.1):ObjOk P w H' h' a o:=by
  induction o with
  |lst xs=>obtain⟨z,cK,n,r,e⟩:=x;exact⟨z,cK,n,r,k _ _ (.inl rfl) e⟩
  |tup xs=>obtain⟨z,cK,r,ob,e,c⟩:=x;exact⟨z,cK,r,ob,k _ _ (.inl rfl) e,c⟩
  |dK kvs=>obtain⟨z,y,vs,r,ob,es,ep,e,c⟩:=x;exact⟨z,y,vs,r,ob,es,ep,k _ _ (.inl rfl) e,c⟩
  |dT kvs=>
    obtain⟨z,y,xs,r,ob,es,ep,e,c⟩:=x;exact⟨z,y,xs,Paired.mapP r λp q z=>⟨z.1,ht _ ⟨.tup _,trivial⟩ z.2.1,z.2.2⟩,ob,es,ep,k _ _ (.inl rfl) e,c⟩
  |set S n=>obtain⟨ob,es,ep,t,e,c⟩:=x;exact⟨ob,es,ep,t,k _ _ (.inl rfl) e,c⟩
  |ins C dx fs=>
    obtain⟨d,z,ne,e,mA,⟨od,es,ep,e2,c⟩,r⟩:=x;exact⟨ho _ d,z,ne,k _ _ (.inl rfl) e,mA,⟨od,es,ep,k _ _ (.inr d) e2,c⟩,r⟩
  |own y=>obtain⟨ob,e⟩:=x;exact⟨ob,k _ _ (.inl rfl) e⟩
  |xd fs=>obtain⟨mA,⟨od,es,ep,e,c⟩,r⟩:=x;exact⟨mA,⟨od,es,ep,k _ _ (.inl rfl) e,c⟩,r⟩
  |rng lo hi=>obtain⟨t,u,v,e⟩:=x;exact⟨t,u,v,k _ _ (.inl rfl) e⟩
  |frz ob u ih=>obtain⟨e,q⟩:=x;exact⟨k _ _ (.inl rfl) e,ih q⟩
  |tbl ps=>
    obtain⟨qs,e,t,f⟩:=(show a5x H h a ps from x);refine⟨qs,k a _ (.inl rfl) e,t,λpos cv z=>?_⟩;obtain⟨c,oc,vs,q,t1,t2,z1,z2,z3,z4,z5⟩:=f pos cv z;exact⟨c,oc,vs,q,t1,t2,z1,ht c ⟨.frz _ (.own a),rfl⟩ z2,z3,z4,z5⟩
  |met f y=>
    have e:h.get? a=cz (nk (.ref f) (.ref y)):=x;show h'.get? a=cz (nk (.ref f) (.ref y));exact k a _ (.inl rfl) e
  |ext φ=>obtain⟨p,⟨o,e⟩,st⟩:=x;exact⟨st _ _ p λo q=>k _ _ (.inl rfl) q,⟨o,k _ _ (.inl rfl) e⟩,st⟩
theorem HOk.lt(x:HOk P w H h)(e:H a=cz o):a<h.objs.size:=(x a o e).lt
def HOk.fresh(x:HOk P w H h)(e:h.objs.size<=a):H a=el:=by
  cases q:H a with
  |none=>rfl
  |some u=>exact absurd (bu (x.lt q) e) (dg _)
def HOk.kept(x:HOk P w H h)(k:∀b u,h.get? b=cz u->h'.get? b=cz u):HOk P w H h':=λa o e=>
  (x a o e).stay (λb u _ q=>k b u q) (λ_ q=>q) λ_ _ q=>q
def HOk.laid(x:HOk P w H h)(k:∀b u,h.get? b=cz u->h'.get? b=cz u)(hp:h.objs.size<=a)(new:ObjOk P w (upd H a o) h' a o):HOk P w (upd H a o) h':=λb u e=>by
  have hn:=x.fresh hp;by_cases hb:b=a
  . subst hb;rw[i4]at e;cases e;exact new
  . rw[f6 hb]at e
    exact (x b u e).stay (λc v _ q=>k c v q) (λc q=>by rw[f6 (n8 q hn)];exact q) λc xs q=>by rw[f6 (n8 q hn)];exact q
end
def Rd(H:Hp)(a:av)(u:HO):Prop:=H a=cz u\/∃o,H a=cz (.frz o u)
def Rd.ok{P:bw}{w:bO}{H:Hp}{h:bR}{a:av}{u:HO}(r:Rd H a u)(x:HOk P w H h):ObjOk P w H h a u:=by
  rcases r with r|⟨o,r⟩
  . exact x a u r
  . obtain⟨_,q⟩:=x a _ r
    exact q
def Mut:Option HO->Prop
  |some (.lst _)=>True
  |some (.dK _)=>True
  |some (.dT _)=>True
  |some (.set _ _)=>True
  |some (.ins _ _ _)=>True
  |some (.ext _)=>True
  |_=>False
section
variable {P:bw}{w:bO}{H:Hp}{h h':bR}{x e:av}{o':HO}
def HOk.write(ok:HOk P w H h)(mu:Mut (H x))(he:e=x\/H e=cz (.own x))(k:∀b u,b≠e->h.get? b=cz u->h'.get? b=cz u)(um:∃u,h'.get? e=cz u)
    (new:ObjOk P w (upd H x o') h' x o'):HOk P w (upd H x o') h':=λb u q=>by
  have uU:∀c y,H c=cz (.own y)->c≠x:=λc y r z=>by subst z;rw[r]at mu;exact mu
  have xW:∀{bq:av} c (u:b8e bq),H c=cz u.1->c≠x:=λ{bq} c u r z=>by subst z;rw[r]at mu;obtain⟨u,hu⟩:=u;cases u<;>first|exact hu|exact mu
  by_cases hb:b=x
  . subst hb;rw[i4]at q;cases q;exact new
  . rw[f6 hb]at q
    by_cases tK:b=e
    . have q':H b=cz (.own x):=by
        rcases he with z|z
        . exact absurd (tK.trans z) hb
        . rw[tK];exact z
      rw[q]at q';cases q';obtain⟨v,hv⟩:=um;exact⟨v,by rw[tK];exact hv⟩
    . refine (ok b u q).stay (λc v hc r=>k c v ?_ r) (λc r=>by rw[f6 (uU c b r)];exact r) λc xs r=>by rw[f6 (xW c xs r)];exact r
      rcases hc with rfl|hc
      . exact tK
      . rintro rfl
        rcases he with z|z
        . exact uU c b hc z
        . rw[hc]at z;cases z;exact hb rfl
end
structure Un (fs ex:List av) (H H':Hp) (h h':bR):Prop where
  keep:∀b o,h.get? b=cz o->H b=el->b∉fs->b∉ex->h'.get? b=cz o
  slot:∀b o,h.get? b=cz o->H b=el->b∈fs->b∉ex->∃sl,h'.get? b=cz {o with slots:=sl}
  free:∀b o,h.get? b=cz o->H b=el->b∉ex->H' b=el
  there:∀b o,h.get? b=cz o->b∉ex->∃o',h'.get? b=cz o'
  tups:∀b xs,H b=cz (.tup xs)->H' b=cz (.tup xs)
  frzs:∀b o u,H b=cz (.frz o u)->H' b=cz (.frz o u)
  tbls:∀b ps,H b=cz (.tbl ps)->∃more,H' b=cz (.tbl (ps++more))
section
variable {fs jW ex Gx:List av}{H H1 H2:Hp}{h h1 h2 h':bR}{a x e:av}{o:HO}
def Un.any(u:Un fs ex H H1 h h1)(q:h.get? b=cz ob)(n:H b=el)(hx:b∉ex):∃sl,h1.get? b=cz {ob with slots:=sl}:=by
  by_cases hb:b∈fs
  . exact u.slot b ob q n hb hx
  . exact⟨ob.slots,u.keep b ob q n hb hx⟩
def Un.kept(k:∀b u,h.get? b=cz u->h'.get? b=cz u):Un fs ex H H h h':=
  ⟨λb ob q _ _ _=>k b ob q,λb ob q _ _ _=>⟨ob.slots,k b ob q⟩,λ_ _ _ n _=>n,λb ob q _=>⟨ob,k b ob q⟩,λ_ _ q=>q,λ_ _ _ q=>q,λ_ ps q=>⟨#[],by rw[q];simp⟩⟩
def Un.refl:Un fs ex H H h h:=Un.kept λ_ _ q=>q
def Un.laid(k:∀b u,h.get? b=cz u->h'.get? b=cz u)(hp:h.objs.size<=a)(hn:H a=el):Un fs ex H (upd H a o) h h' where
  keep:=λb u q _ _ _=>k b u q
  slot:=λb u q _ _ _=>⟨u.slots,k b u q⟩
  free:=λb u q n _=>by rw[f6 (ba (bu (aF q) hp))];exact n
  there:=λb u q _=>⟨u,k b u q⟩
  tups:=λb xs q=>by rw[f6 (n8 q hn)];exact q
  frzs:=λb u xs q=>by rw[f6 (n8 q hn)];exact q
  tbls:=λb ps q=>⟨#[],by rw[f6 (n8 q hn),q];simp⟩
def Un.write(mu:Mut (H x))(he:e=x\/H e=cz (.own x))(k:∀b u,b≠e->h.get? b=cz u->h'.get? b=cz u)(um:∃u,h'.get? e=cz u):Un fs ex H (upd H x o) h h':=by
  have hx:∀b,H b=el->b≠x:=λb n z=>by subst z;rw[n]at mu;exact mu
  have hb:∀b,H b=el->b≠e:=λb n z=>by
    subst z;rcases he with r|r
    . exact hx b n r
    . rw[n]at r;cases r
  have hm:∀b u,H b=cz u->¬ Mut (cz u)->b≠x:=λb u q nm z=>by subst z;rw[q]at mu;exact nm mu
  refine⟨λb u q n _ _=>k b u (hb b n) q,λb u q n _ _=>⟨u.slots,k b u (hb b n) q⟩,λb u q n _=>by rw[f6 (hx b n)];exact n,λb u q _=>?_,
    λb xs q=>by rw[f6 (hm b _ q λz=>z)];exact q,λb u xs q=>by rw[f6 (hm b _ q λz=>z)];exact q,λb ps q=>⟨#[],by rw[f6 (hm b _ q λz=>z),q];simp⟩⟩
  by_cases tK:b=e
  . subst tK;exact um
  . exact⟨u,k b u tK q⟩
end
def trk(h:bR)(H:Hp):List av:=(aQ h.objs.size).filter λa=>(H a).isSome
def a4J(h:bR)(H:Hp):bR:=PySem.W.hideAll h (trk h H)
def a8Y(h:bR)(H:Hp):(a4J h H).objs.size=h.objs.size:=PySem.W.hideAll_size _ _
def b0B{h:bR}(e:h.get? b=cz o)(n:H b=el):(a4J h H).get? b=cz o:=
  PySem.W.hideAll_get _ e λhm=>by
    have q:(H b).isSome=p4:=(bx.mp hm).2;rw[n]at q;simp at q
def b3p(e:(a4J h H).get? b=cz o):h.get? b=cz o/\H b=el:=by
  have e':h.get? b=cz o:=PySem.W.of_hideAll (trk h H) e;refine⟨e',?_⟩;cases q:H b with
  |none=>rfl
  |some x=>
    have hm:b∈trk h H:=bx.mpr ⟨cg.mpr (aF e'),by simp[q]⟩;have z:(a4J h H).get? b=el:=PySem.W.hideAll_none (trk h H) hm;rw[z]at e;cases e
def b3q(g h:bR)(L:av):List (av×fD):=(aQ h.objs.size).filterMap λa=>if a=L\/(g.get? a).isSome=p4 then el else (h.get? a).map λo=>(a,o)
def rest(g h:bR)(L d:av):List (av×fD):=(b3q g h L).filter λp=>decide (p.1≠d)
def M7:List bH:=["ways_by_state","joins_by_pair","compare","first_gathering","least_asks"]
def V0(x:bH):bH:=x++".<locals>." ++ "<lambda>"
def a4K(K:af)(cd:ai):Option av:=match cd with
  |.ref c=>(match K.lookup c with
    |some ⟨.type n,_,.fields vs,_⟩=>if n=="code" then
        (match (vs[11]?:Option ai),(vs[18]?:Option ai),(vs[7]?:Option ai),(vs[9]?:Option ai),(vs[10]?:Option ai) with
        |some (.ref P),cz (.str _ _),cz (.int _ _),cz (.bool _),cz (.int _ _)=>if c !=P then cz P else el
        |_,_,_,_,_=>el) else el
    |_=>el)
  |_=>el
def C3(K:af)(x:bH):Option av:=match gD K bL x with
  |some (cz (.ref f))=>(match K.lookup f with
    |some ⟨_,_,.func fd,_⟩=>a4K K fd.code
    |_=>el)
  |_=>el
def TabsIn(K:af)(H:Hp):Prop:=∀x∈M7,∀p,C3 K x=cz p->∃qs t,H p=cz (.tbl qs)/\qs[0]?=cz (.str (V0 x) t)
def TabsIn.un{K:af}{fs ex:List av}{H H':Hp}{h h':bR}(a:TabsIn K H)(u:Un fs ex H H' h h'):TabsIn K H':=λx hx p e=>by
  obtain⟨qs,t,e1,e2⟩:=a x hx p e;obtain⟨more,e3⟩:=u.tbls p qs e1;refine⟨_,t,e3,?_⟩;have hz:0<qs.size:=by
    rcases gE 0 qs.size with z|z
    . exact z
    . rw[eN (by omega)]at e2;cases e2
  rw[Array.getElem?_append_left hz];exact e2
structure Mod (K:af) (mg:bH->Option ai) (base:bR):Prop where
  kin:K.In base
  glob:base.Ns bL mg
  blt:∃mb,base.Ns jY mb/\∀x:bH,x≠"__name__"->mb x=gh x
  nolimit:base.NoLimit
  bmain:∃bm ob,mg "__builtins__"=cz (.ref bm)/\bm≠jY/\base.get? bm=cz ob/\ob.cls=.type "module"/\ob.dict=cz jY/\ob.data=.plain
structure Cx where
  prog:bw
  w:bO
  K:af
  mg:bH->Option ai
  base:bR
  A:bC
  N:List bH
  s₀:ar
  H₀:Hp
  env:ox
  outer:List ox
  stack:List ox
  ex:List av
  fn:bH->Bool
  calm:Bool
  pn:List (av×fD)
  xe:ai->ar->Prop
def frs(l:List ox):List av:=l.filterMap (·.frame)
abbrev Cx.fs(X:Cx):List av:=frs X.outer
def Vis(sc:gd)(x:bH):Prop:=sc.names.lookup x=cz .local\/sc.names.lookup x=cz .cell\/sc.names.lookup x=cz .free
abbrev NmV(X:Cx)(x:bH):Prop:=Vis X.env.scope x/\(x==("__debug__":bH))=rp/\(x==("__classdict__":bH))=rp
def Loc(sc:gd)(x:bH):Prop:=sc.names.lookup x=cz .local\/sc.names.lookup x=cz .cell
def Look(env:ox)(h:bR)(m:bH->Option ai)(x:bH)(u:ai):Prop:=
  (env.kindOf x=cz .local/\m x=cz u)\/((env.kindOf x=cz .cell\/env.kindOf x=cz .free)/\∃c,env.cells.lookup x=cz c/\h.IsCell c (cz u))
structure Cx.Ok (X:Cx):Prop where
  mod:Mod X.K X.mg X.base
  kind:X.env.scope.kind=.function
  glob:X.env.globals=bL
  blt:X.env.builtins=jY
  above:X.s₀.heap.objs.size<=X.env.locals
  inj:∀x y c,X.env.cells.lookup x=cz c->X.env.cells.lookup y=cz c->x=y
  has:∀x,(X.env.kindOf x=cz .cell\/X.env.kindOf x=cz .free)->∃c,X.env.cells.lookup x=cz c
  cab:∀x c,X.fn x=p4->X.env.cells.lookup x=cz c->X.s₀.heap.objs.size<=c
  hd:X.calm=p4->X.A.handled=el
  frames:X.A.frames=cz X.stack
  stk:X.stack=X.outer\/(X.stack=X.env::X.outer/\X.env.frame=cz X.env.locals)
  exf:∀b∈X.ex,b≠X.env.locals/\∀x c,X.env.cells.lookup x=cz c->c≠b
  bs:∀b o,X.base.get? b=cz o->X.s₀.heap.get? b=cz o/\X.H₀ b=el
  bsz:X.base.objs.size<=X.s₀.heap.objs.size
  noex:∀b o,X.base.get? b=cz o->b∉X.ex
  exfs:∀b∈X.ex,b∉X.fs
  funs:X.s₀.heap.FunFrames X.base X.outer
  frf:∀b∈X.fs,X.H₀ b=el
  tabs:TabsIn X.K X.H₀
structure Inv (X:Cx) (pins:List (av×fD)) (Y:List (Option V)) (H:Hp) (s:ar):Prop where
  ok:X.Ok
  os:s.os=X.s₀.os
  bare:oy s.gens
  base:Un X.fs X.ex X.H₀ H X.s₀.heap s.heap
  loc:∃m,s.heap.Ns X.env.locals m/\∀(i:Nat) (x:bH) (v:V),X.N[i]?=cz x->Y[i]?=cz (cz v)->Vis X.env.scope x->∃u,RelV v u/\Look X.env s.heap m x u
  cell:∀x c,X.env.cells.lookup x=cz c->∃v,s.heap.IsCell c v
  free:H X.env.locals=el
  freeC:∀x c,X.env.cells.lookup x=cz c->H c=el
  pin:∀p∈X.pn++pins,s.heap.get? p.1=cz p.2/\H p.1=el/\p.1≠X.env.locals/\p.1∉X.fs/\∀v,p.2.data≠.cell v
  hok:HOk X.prog X.w H s.heap
  len:Y.length=X.N.length
section
variable {X:Cx}{pins:List (av×fD)}{Y:List (Option V)}{H H':Hp}{s:ar}{h':bR}
def Cx.Ok.nofr(ok:X.Ok)(e:X.base.get? b=cz o):b∉X.fs:=λhb=>by
  have:=(ok.funs.mem hb).1;rw[e]at this;cases this
theorem Inv.bs(I:Inv X pins Y H s):∀b o,X.base.get? b=cz o->s.heap.get? b=cz o/\H b=el:=λb o e=>
  ⟨I.base.keep b o (I.ok.bs b o e).1 (I.ok.bs b o e).2 (I.ok.nofr e) (I.ok.noex b o e),I.base.free b o (I.ok.bs b o e).1 (I.ok.bs b o e).2 (I.ok.noex b o e)⟩
theorem Inv.tabs(I:Inv X pins Y H s):TabsIn X.K H:=I.ok.tabs.un I.base
def Inv.bk(I:Inv X pins Y H s):∀b o,X.base.get? b=cz o->s.heap.get? b=cz o:=λb o e=>(I.bs b o e).1
theorem Inv.mod(I:Inv X pins Y H s):Mod X.K X.mg X.base:=I.ok.mod
def Inv.kIn(I:Inv X pins Y H s):X.K.In s.heap:=I.ok.mod.kin.keeps I.bk
theorem Inv.lt(I:Inv X pins Y H s):X.env.locals<s.heap.objs.size:=let⟨_,hn,_⟩:=I.loc;hn.lt
def Inv.sz(I:Inv X pins Y H s):X.s₀.heap.objs.size<=s.heap.objs.size:=bV I.ok.above (dC I.lt)
def Inv.nofs(I:Inv X pins Y H s)(h:s.heap.objs.size<=a):a∉X.fs:=λhb=>by
  obtain⟨_,o,ho,_⟩:=I.ok.funs.mem hb;exact absurd (bu (aF ho) (bV I.sz h)) (dg _)
def Inv.cne(I:Inv X pins Y H s):∀x c,X.env.cells.lookup x=cz c->c≠X.env.locals:=λx c e z=>by
  obtain⟨v,o,ho,hd⟩:=I.cell x c e;obtain⟨m,⟨o',es,ep,mW,lP,_⟩,_⟩:=I.loc;rw[z,mW]at ho;cases ho;rw[lP]at hd;cases hd
theorem Inv.funs(I:Inv X pins Y H s):s.heap.FunFrames X.base X.outer:=by
  have all:∀(l:List ox),(∀b∈frs l,b∈X.fs)->X.s₀.heap.FunFrames X.base l->s.heap.FunFrames X.base l:=by
    intro l
    induction l with
    |nil=>intro _ _;trivial
    |cons env r ih=>
      intro hs hl;obtain⟨hk,⟨L,o,hf,hn,ho,hd⟩,hr⟩:=hl;have hL:L∈X.fs:=hs L (by unfold frs;rw[ma,hf];exact aj);obtain⟨sl,e⟩:=I.base.slot L o ho (I.ok.frf L hL) hL λz=>I.ok.exfs L z hL
      exact⟨hk,⟨L,_,hf,hn,e,hd⟩,ih (λb hb=>hs b (by unfold frs;rw[ma,hf];exact ak _ hb)) hr⟩
  exact all X.outer (λ_ hb=>hb) I.ok.funs
theorem Inv.stack(I:Inv X pins Y H s):s.heap.FunFrames X.base X.stack:=by
  rcases I.ok.stk with e|⟨e,hf⟩
  . rw[e];exact I.funs
  . rw[e]
    obtain⟨m,hn,_⟩:=I.loc;refine .cons (by rw[I.ok.kind];decide) hf hn ?_ I.funs;exact bR.get?_none_of_le (bV I.ok.bsz I.ok.above)
def Inv.stkSub(I:Inv X pins Y H s):∀b∈frs X.stack,b∈X.env.locals::X.fs:=λb hb=>by
  rcases I.ok.stk with e|⟨e,hf⟩
  . rw[e]at hb;exact ak _ hb
  . rw[e]at hb
    unfold frs at hb;rw[ma,hf]at hb;exact hb
def Inv.stkFree(I:Inv X pins Y H s):∀b∈frs X.stack,H b=el:=λb hb=>by
  rcases aC.mp (I.stkSub b hb) with e|hb
  . rw[e];exact I.free
  . obtain⟨_,o,ho,_⟩:=I.ok.funs.mem hb
    exact I.base.free b o ho (I.ok.frf b hb) λz=>I.ok.exfs b z hb
def Inv.step{g':Array GenState}{t':Nat}{d':Drawn}{ch:List av}(I:Inv X pins Y H s)
    (qJ:∀b∈ch,(b∈X.ex\/X.s₀.heap.objs.size<=b)/\b≠X.env.locals/\(∀x c,X.env.cells.lookup x=cz c->c≠b)/\∀p∈X.pn++pins,p.1≠b)
    (keep:∀b o,b≠X.env.locals->b∉X.fs->b∉ch->s.heap.get? b=cz o->H b=el->h'.get? b=cz o)
    (slot:∀b o,b≠X.env.locals->b∈X.fs->b∉ch->s.heap.get? b=cz o->H b=el->∃sl,h'.get? b=cz {o with slots:=sl}) (free:∀b o,b∉ch->s.heap.get? b=cz o->H b=el->H' b=el)
    (there:∀b o,b∉ch->s.heap.get? b=cz o->∃o',h'.get? b=cz o')
    (tups:∀b xs,H b=cz (.tup xs)->H' b=cz (.tup xs)) (frzs:∀b o u,H b=cz (.frz o u)->H' b=cz (.frz o u)) (tbls:∀b ps,H b=cz (.tbl ps)->∃more,H' b=cz (.tbl (ps++more)))
    (ns:∀m,s.heap.Ns X.env.locals m->h'.Ns X.env.locals m) (hok:HOk X.prog X.w H' h') (hg:oy g') :
    Inv X pins Y H' {s with heap:=h',gens:=g',drawn:=d',toks:=t'}:=by
  have zZ:∀b o,X.s₀.heap.get? b=cz o->b≠X.env.locals:=λb o e=>ba (bu (aF e) I.ok.above)
  have wM:∀b o,X.s₀.heap.get? b=cz o->b∉X.ex->b∉ch:=λb o e hx hb=>by
    rcases (qJ b hb).1 with z|z
    . exact hx z
    . exact absurd (bu (aF e) z) (dg _)
  have cellK:∀x c,X.env.cells.lookup x=cz c->∀v,s.heap.IsCell c v->h'.IsCell c v:=λx c e v ⟨o,ho,hd⟩=>by
    have pH:c∉ch:=λz=>(qJ c z).2.2.1 x c e rfl
    by_cases hc:c∈X.fs
    . obtain⟨sl,q⟩:=slot c o (I.cne x c e) hc pH ho (I.freeC x c e)
      exact⟨_,q,hd⟩
    . exact⟨o,keep c o (I.cne x c e) hc pH ho (I.freeC x c e),hd⟩
  refine⟨I.ok,I.os,hg,⟨λb o e n hb hx=>?_,λb o e n hb hx=>?_,λb o e n hx=>?_,λb o e hx=>?_,λb xs e=>tups b xs (I.base.tups b xs e),λb o xs e=>frzs b o xs (I.base.frzs b o xs e),λb ps e=>?_⟩,?_,λx c e=>?_,?_,λx c e=>?_,λp hp=>?_,hok,I.len⟩
  . exact keep b o (zZ b o e) hb (wM b o e hx) (I.base.keep b o e n hb hx) (I.base.free b o e n hx)
  . obtain⟨sl,e1⟩:=I.base.slot b o e n hb hx
    obtain⟨zQ,e2⟩:=slot b _ (zZ b o e) hb (wM b o e hx) e1 (I.base.free b o e n hx);exact⟨zQ,e2⟩
  . obtain⟨o',e1⟩:=I.base.there b o e hx
    exact free b o' (wM b o e hx) e1 (I.base.free b o e n hx)
  . obtain⟨o',e1⟩:=I.base.there b o e hx
    exact there b o' (wM b o e hx) e1
  . obtain⟨m1,e1⟩:=I.base.tbls b ps e
    obtain⟨m2,e2⟩:=tbls b _ e1;exact⟨m1++m2,by rw[e2,Array.append_assoc]⟩
  . obtain⟨m,hn,hl⟩:=I.loc
    refine⟨m,ns m hn,λi x v e1 e2 e3=>?_⟩;obtain⟨u,r,l⟩:=hl i x v e1 e2 e3;refine⟨u,r,?_⟩;rcases l with l|⟨k,c,e,z⟩
    . exact .inl l
    . exact .inr ⟨k,c,e,cellK x c e _ z⟩
  . obtain⟨v,z⟩:=I.cell x c e
    exact⟨v,cellK x c e v z⟩
  . obtain⟨m,⟨o,_,_,ho,_⟩,_⟩:=I.loc
    exact free _ o (λz=>(qJ _ z).2.1 rfl) ho I.free
  . obtain⟨v,o,ho,hd⟩:=I.cell x c e
    exact free c o (λz=>(qJ c z).2.2.1 x c e rfl) ho (I.freeC x c e)
  . obtain⟨e,n,ne,nf,d⟩:=I.pin p hp
    have pH:p.1∉ch:=λz=>(qJ p.1 z).2.2.2 p hp rfl
    exact⟨keep p.1 p.2 ne nf pH e n,free p.1 p.2 pH e n,ne,nf,d⟩
def Inv.un(I:Inv X pins Y H s)(u:Un X.fs [] H H' s.heap h')(hok:HOk X.prog X.w H' h'):Inv X pins Y H' {s with heap:=h',toks:=t'}:=by
  obtain⟨m,⟨o,es,ep,ho,r⟩,_⟩:=id I.loc;obtain⟨sl,hL⟩:=u.any ho I.free (by simp);exact I.step (g':=s.gens) (d':=s.drawn) (ch:=[]) (λ_ z=>nomatch z) (λb o _ hb _ e n=>u.keep b o e n hb (by simp)) (λb o _ hb _ e n=>u.slot b o e n hb (by simp)) (λb o _ e n=>u.free b o e n (by simp)) (λb o _ e=>u.there b o e (by simp)) u.tups u.frzs u.tbls (λm' hm=>by
    obtain⟨o',eJ,qK,mW,r'⟩:=hm;rw[ho]at mW;cases mW;exact⟨_,eJ,qK,hL,r'⟩) hok I.bare
def Inv.call(I:Inv X pins Y H s)(u:Un (frs X.stack) ch H H' s.heap h')(hok:HOk X.prog X.w H' h')(hg:oy g')
    (qJ:∀b∈ch,(b∈X.ex\/X.s₀.heap.objs.size<=b)/\b≠X.env.locals/\(∀x c,X.env.cells.lookup x=cz c->c≠b)/\∀p∈X.pn++pins,p.1≠b) :
    Inv X pins Y H' {s with heap:=h',gens:=g',drawn:=d',toks:=t'}:=by
  obtain⟨m,⟨o,es,ep,ho,r⟩,_⟩:=id I.loc;obtain⟨sl,hL⟩:=u.any ho I.free λz=>(qJ _ z).2.1 rfl
  exact I.step (ch:=ch) qJ (λb o hL hb hc e n=>u.keep b o e n (λz=>(aC.mp (I.stkSub b z)).elim hL hb) hc) (λb o _ _ hc e n=>u.any e n hc) (λb o hc e n=>u.free b o e n hc) (λb o hc e=>u.there b o e hc) u.tups u.frzs u.tbls (λm' hm=>by
    obtain⟨o',eJ,qK,mW,r'⟩:=hm;rw[ho]at mW;cases mW;exact⟨_,eJ,qK,hL,r'⟩) hok hg
def Inv.turned(I:Inv X pins Y H s)(k:∀b o,b≠it->s.heap.get? b=cz o->h'.get? b=cz o)(hn:H it=el)(hL:it≠X.env.locals)
    (h1:it∈X.ex\/X.s₀.heap.objs.size<=it) (h2:∀x c,X.env.cells.lookup x=cz c->c≠it) (h3:∀p∈X.pn++pins,p.1≠it):Inv X pins Y H {s with heap:=h',toks:=t'}:=by
  have zX:∀b u,H b=cz u->b≠it:=λb u e z=>by rw[z,hn]at e;cases e
  refine I.step (g':=s.gens) (d':=s.drawn) (ch:=[it]) (λb hb=>?_) (λb o _ _ hc e _=>k b o (λz=>hc (by simp[z])) e) (λb o _ _ hc e _=>⟨o.slots,k b o (λz=>hc (by simp[z])) e⟩) (λ_ _ _ _ n=>n)
    (λb o hc e=>⟨o,k b o (λz=>hc (by simp[z])) e⟩) (λ_ _ e=>e) (λ_ _ _ e=>e) (λb ps e=>⟨#[],by rw[e];simp⟩) (λm hm=>?_) (λb u e=>?_) I.bare
  . have e:b=it:=by simpa using hb
    subst e;exact⟨h1,hL,h2,h3⟩
  . obtain⟨o,es,ep,ho,r⟩:=hm
    exact⟨o,es,ep,k _ o (dc hL) ho,r⟩
  . refine (I.hok b u e).stay (λc v hc q=>k c v ?_ q) (λ_ q=>q) λ_ _ q=>q
    rcases hc with z|z
    . rw[z];exact zX b u e
    . exact zX c _ z
def Inv.tok(I:Inv X pins Y H s)(t:Nat):Inv X pins Y H {s with toks:=t}:=I.un (h':=s.heap) (t':=t) Un.refl I.hok
theorem Inv.kept(I:Inv X pins Y H s)(k:∀b u,s.heap.get? b=cz u->h'.get? b=cz u):Inv X pins Y H {s with heap:=h',toks:=t'}:=I.un (Un.kept k) (I.hok.kept k)
theorem Inv.laid{a:av}{o:HO}{t':Nat}(I:Inv X pins Y H s)(k:∀b u,s.heap.get? b=cz u->h'.get? b=cz u)(hp:s.heap.objs.size<=a)(new:ObjOk X.prog X.w (upd H a o) h' a o) :
    Inv X pins Y (upd H a o) {s with heap:=h',toks:=t'}:=I.un (Un.laid k hp (I.hok.fresh hp)) (I.hok.laid k hp new)
theorem Inv.write(I:Inv X pins Y H s)(mu:Mut (H x))(he:e=x\/H e=cz (.own x))(k:∀b u,b≠e->s.heap.get? b=cz u->h'.get? b=cz u)(um:∃u,h'.get? e=cz u)
    (new:ObjOk X.prog X.w (upd H x o) h' x o):Inv X pins Y (upd H x o) {s with heap:=h',toks:=t'}:=I.un (Un.write mu he k um) (I.hok.write mu he k um new)
def Inv.pins_of(I:Inv X pins Y H s)(h:∀p∈uR,s.heap.get? p.1=cz p.2/\H p.1=el/\p.1≠X.env.locals/\p.1∉X.fs/\∀v,p.2.data≠.cell v):Inv X uR Y H s:=
  ⟨I.ok,I.os,I.bare,I.base,I.loc,I.cell,I.free,I.freeC,λp hp=>(az.mp hp).elim (λz=>I.pin p (aA _ z)) (h p),I.hok,I.len⟩
def a5y{N:List bH}(hN:N.Nodup){i j:Nat}{x:bH}(a:N[i]?=cz x)(b:N[j]?=cz x):i=j:=by
  obtain⟨h1,e1⟩:=aO.mp a;obtain⟨h2,e2⟩:=aO.mp b;exact (List.getElem_inj hN).mp (e1.trans e2.symm)
def a8Z{M:Model}{A:bC}{E:ai->ar->Prop}{i:Nat}{x:bH}{v:V}{u:ai}{Q:Unit->ar->Prop}(I:Inv X pins Y H s)(hN:X.N.Nodup)(hi:X.N[i]?=cz x)(hx:Loc X.env.scope x)(r:RelV v u)
    (h:∀s',Inv X pins (Y.set i (cz v)) H s'->(∃a,cD a s.heap s'.heap/\(a=X.env.locals\/X.env.cells.lookup x=cz a))->Q () s') (hf:autoParam (X.fn x=p4\/X.env.scope.names.lookup x=cz .local) ZZ._auto_1):aD M A (storeName X.env x u) Q E s:=by
  obtain⟨m,hn,hl⟩:=id I.loc;have ze:(X.env.scope.kind==.class||(X.env.scope.kind==.module&&X.env.locals !=X.env.globals))=rp:=by rw[I.ok.kind];rfl
  have vE:i<Y.length:=by rw[I.len];exact (aO.mp hi).1
  have cne:=I.cne;have tracked:∀{a:av} {h':bR},(∃o,s.heap.get? a=cz o/\H a=el)->cD a s.heap h'->HOk X.prog X.w H h':=λ{a h'} ha hs b ob e=>by
    obtain⟨_,_,mY⟩:=ha;refine (I.hok b ob e).stay (λc w' hc q=>(hs.2 c ?_).trans q) (λ_ q=>q) λ_ _ q=>q
    rintro rfl;rcases hc with rfl|hc
    . rw[mY]at e;cases e
    . rw[mY]at hc;cases hc
  rcases hx with hk|hk
  . refine wpAny_storeName_local hk hn (λh' sZ hs=>?_) ze
    obtain⟨oL,_,_,Dw,_⟩:=id hn;refine h _ ⟨I.ok,I.os,I.bare,⟨λb o e n hb hx=>?_,λb o e n hb hx=>?_,I.base.free,λb o e hx=>?_,I.base.tups,I.base.frzs,I.base.tbls⟩,⟨_,sZ,λj y v' e1 e2 e3=>?_⟩,λy c e=>?_,I.free,I.freeC,λp hp=>?_,tracked ⟨oL,Dw,I.free⟩ hs,by simpa using I.len⟩ ⟨_,hs,.inl rfl⟩
    . exact (hs.2 b (ba (bu (aF e) I.ok.above))).trans (I.base.keep b o e n hb hx)
    . obtain⟨sl,e1⟩:=I.base.slot b o e n hb hx
      exact⟨sl,(hs.2 b (ba (bu (aF e) I.ok.above))).trans e1⟩
    . obtain⟨o',e1⟩:=I.base.there b o e hx
      exact⟨o',(hs.2 b (ba (bu (aF e) I.ok.above))).trans e1⟩
    . by_cases hj:j=i
      . subst hj
        rw[hi]at e1;cases e1;rw[ij vE]at e2;cases e2
        exact⟨u,r,.inl ⟨hk,by simp⟩⟩
      . rw[ej (dc hj)]at e2
        obtain⟨u',r',q⟩:=hl j y v' e1 e2 e3;refine⟨u',r',?_⟩;rcases q with⟨k,e⟩|⟨k,c,e,z⟩
        . refine .inl ⟨k,?_⟩
          have:y≠x:=λe=>hj (a5y hN e1 (e▸hi))
          simp[this,e]
        . exact .inr ⟨k,c,e,z.sameBut hs (cne y c e)⟩
    . obtain⟨w',z⟩:=I.cell y c e
      exact⟨w',z.sameBut hs (cne y c e)⟩
    . obtain⟨e,n,ne,nf,d⟩:=I.pin p hp
      exact⟨(hs.2 p.1 ne).trans e,n,ne,nf,d⟩
  . have nR:X.fn x=p4:=by
      rcases hf with z|z
      . exact z
      . rw[z]at hk;cases hk
    obtain⟨c,hc⟩:=I.ok.has x (.inl hk);obtain⟨w',z⟩:=I.cell x c hc;refine wpAny_storeName_cell I.ok.kind hk hc z (λh' tJ hs=>?_);obtain⟨oc,vw,yC⟩:=id z;refine h {s with heap:=h'} ⟨I.ok,I.os,I.bare,⟨λb o e n hb hx=>?_,λb o e n hb hx=>?_,I.base.free,λb o e hx=>?_,I.base.tups,I.base.frzs,I.base.tbls⟩,⟨m,hn.sameBut hs (dc (cne x c hc)),λj y v' e1 e2 e3=>?_⟩,λy c' e=>?_,I.free,I.freeC,λp hp=>?_,tracked ⟨oc,vw,I.freeC x c hc⟩ hs,by simpa using I.len⟩ ⟨c,hs,.inr hc⟩
    . exact (hs.2 b (ba (bu (aF e) (I.ok.cab x c nR hc)))).trans (I.base.keep b o e n hb hx)
    . obtain⟨sl,e1⟩:=I.base.slot b o e n hb hx
      exact⟨sl,(hs.2 b (ba (bu (aF e) (I.ok.cab x c nR hc)))).trans e1⟩
    . obtain⟨o',e1⟩:=I.base.there b o e hx
      exact⟨o',(hs.2 b (ba (bu (aF e) (I.ok.cab x c nR hc)))).trans e1⟩
    . by_cases hj:j=i
      . subst hj
        rw[hi]at e1;cases e1;rw[ij vE]at e2;cases e2
        exact⟨u,r,.inr ⟨.inl hk,c,hc,tJ⟩⟩
      . rw[ej (dc hj)]at e2
        obtain⟨u',r',q⟩:=hl j y v' e1 e2 e3;refine⟨u',r',?_⟩;rcases q with q|⟨k,c',e,z'⟩
        . exact .inl q
        . refine .inr ⟨k,c',e,z'.sameBut hs ?_⟩
          rintro rfl;exact hj (a5y hN e1 (I.ok.inj _ _ _ e hc▸hi))
    . by_cases xg:c'=c
      . subst xg;exact⟨_,tJ⟩
      . obtain⟨w2,z2⟩:=I.cell y c' e
        exact⟨w2,z2.sameBut hs xg⟩
    . obtain⟨e,n,ne,nf,d⟩:=I.pin p hp
      refine⟨(hs.2 p.1 ?_).trans e,n,ne,nf,d⟩;intro q;rw[q,vw]at e;have q':oc=p.2:=aH e;exact d w' (by rw[<-q'];exact yC)
def a2n(I:Inv X pins Y H s)(hN:X.N.Nodup)(hi:X.N[i]?=cz x)(hx:Loc X.env.scope x)(r:RelV v u)
    (h:∀s',Inv X pins (Y.set i (cz v)) H s'->Q () s') (hf:autoParam (X.fn x=p4\/X.env.scope.names.lookup x=cz .local) ZZ._auto_1):aD M A (storeName X.env x u) Q E s:=
  a8Z I hN hi hx r (λs' I' _=>h s' I') hf
def Inv.call'{s':ar}(I:Inv X pins Y H s)(ho:s'.os=s.os)(u:Un (frs X.stack) ch H H' s.heap s'.heap)(hok:HOk X.prog X.w H' s'.heap)(hg:oy s'.gens)
    (qJ:∀b∈ch,(b∈X.ex\/X.s₀.heap.objs.size<=b)/\b≠X.env.locals/\(∀x c,X.env.cells.lookup x=cz c->c≠b)/\∀p∈X.pn++pins,p.1≠b):Inv X pins Y H' s':=by
  obtain⟨h',g',d',t',o'⟩:=s';have e:o'=s.os:=ho;subst e;exact I.call (g':=g') (t':=t') (d':=d') u hok hg qJ
end
abbrev XK:=ai->Option av->Hp->Prop
abbrev St:=List (Option V)
abbrev VK:=V->Hp->Prop
abbrev TE:=St->Hp->VK->Prop
abbrev TT:=St->Hp->(Bool->Hp->Prop)->Prop
abbrev TA:=St->Hp->(List V->Hp->Prop)->Prop
structure Ends where
  nx:St->Hp->Prop
  rt:VK
  bk:St->Hp->Prop:=λ_ _=>False
  ct:St->Hp->Prop:=λ_ _=>False
abbrev TS:=Ends->St->Hp->Prop
def EP(X:Cx)(pins:List (av×fD))(Y:St)(Q:VK)(u:ai)(s':ar):Prop:=∃v H',Inv X pins Y H' s'/\RelV v u/\Q v H'
def TP(X:Cx)(pins:List (av×fD))(Y:St)(Q:Bool->Hp->Prop)(b:Bool)(s':ar):Prop:=∃H',Inv X pins Y H' s'/\Q b H'
def AP(X:Cx)(pins:List (av×fD))(Y:St)(Q:List V->Hp->Prop)(us:List ai)(s':ar):Prop:=∃vs H',Inv X pins Y H' s'/\Vals vs us/\Q vs H'
def SP(X:Cx)(pins:List (av×fD))(D:Ends)(f:Flow)(s':ar):Prop:=
  match f with
  |.next=>∃Y' H',Inv X pins Y' H' s'/\D.nx Y' H'
  |.brk=>∃Y' H',Inv X pins Y' H' s'/\D.bk Y' H'
  |.cont=>∃Y' H',Inv X pins Y' H' s'/\D.ct Y' H'
  |.ret u=>∃v Y' H',Inv X pins Y' H' s'/\RelV v u/\D.rt v H'
def PE(X:Cx)(e:Expr)(t:TE):Prop:=
  ∀(pins:List (av×fD)) (s:ar) (Y:St) (H:Hp) (Q:VK),Inv X pins Y H s->t Y H Q->aD (aT X.prog X.w) X.A (cy e X.env) (EP X pins Y Q) X.xe s
def PT(X:Cx)(e:Expr)(t:TT):Prop:=
  ∀(pins:List (av×fD)) (s:ar) (Y:St) (H:Hp) (Q:Bool->Hp->Prop),Inv X pins Y H s->t Y H Q->aD (aT X.prog X.w) X.A (rd e X.env (cy e X.env)) (TP X pins Y Q) X.xe s
def PW(X:Cx)(e:Expr)(t:TT):Prop:=
  ∀(whole:Sem ai) (pins:List (av×fD)) (s:ar) (Y:St) (H:Hp) (Q:Bool->Hp->Prop),Inv X pins Y H s->t Y H Q->aD (aT X.prog X.w) X.A (rd e X.env whole) (TP X pins Y Q) X.xe s
def PW.pt(h:PW X e t):PT X e t:=h _
def PA(X:Cx)(es:List Expr)(t:TA):Prop:=
  ∀(pos:eM) (pins:List (av×fD)) (s:ar) (Y:St) (H:Hp) (Q:List V->Hp->Prop),Inv X pins Y H s->t Y H Q->aD (aT X.prog X.w) X.A (spliced (cB pos (ax es X.env))) (AP X pins Y Q) X.xe s
def PS(X:Cx)(st:g_)(t:TS):Prop:=
  ∀(pins:List (av×fD)) (s:ar) (Y:St) (H:Hp) (D:Ends),Inv X pins Y H s->t D Y H->aD (aT X.prog X.w) X.A (exec st X.env) (SP X pins D) X.xe s
def PSs(X:Cx)(st:List g_)(t:TS):Prop:=
  ∀(pins:List (av×fD)) (s:ar) (Y:St) (H:Hp) (D:Ends),Inv X pins Y H s->t D Y H->aD (aT X.prog X.w) X.A (execs st X.env) (SP X pins D) X.xe s
def thn{α:Type}{t:Sem α}{Q Q':α->ar->Prop}{M:Model}{A:bC}{E:ai->ar->Prop}{s:ar}(h:aD M A t Q E s)(hQ:∀a s,Q a s->Q' a s):aD M A t Q' E s:=c_ h hQ λ_ _ x=>x
section
variable {X:Cx}
def b3r(i:Nat):TE:=λY H Q=>∃v,Y[i]?=cz (cz v)/\Q v H
def tC(v:V):TE:=λ_ H Q=>Q v H
def C4(hN:X.N[i]?=cz x)(hv:Vis X.env.scope x)(hd:(x==("__debug__":bH))=rp:=by decide)(nI:(x==("__classdict__":bH))=rp:=by decide):PE X (.Name x pos) (b3r i):=by
  intro pins s Y H Q I h;obtain⟨v,e,h⟩:=h;obtain⟨m,hn,hl⟩:=I.loc;obtain⟨u,r,l⟩:=hl i x v hN e hv;have fin:EP X pins Y Q u s:=⟨v,H,I,r,h⟩;rcases l with⟨hk,hm⟩|⟨hk,c,hc,mj⟩
  . exact wpAny_Name (wpAny_loadName_local I.ok.kind hk hn hm fin) hd
  . rcases hk with hk|hk
    . exact wpAny_Name (wpAny_loadName_cell I.ok.kind hk hc mj fin) hd
    . exact wpAny_Name (wpAny_loadName_free I.ok.kind hk hc mj fin nI) hd
def b5V{i j pos}:PE X (.Constant (.int i) j pos) (tC (.int i)):=λ_ _ _ H _ I h=>wpAny_Constant_int ⟨.int i,H,I.tok _,⟨_,rfl⟩,h⟩
def b8f{b j pos}:PE X (.Constant (.bool b) j pos) (tC (.bl b)):=λ_ _ _ H _ I h=>Constant_bool ⟨.bl b,H,I,rfl,h⟩
def b5W{j pos}:PE X (.Constant .none j pos) (tC .non):=λ_ _ _ H _ I h=>Constant_none ⟨.non,H,I,rfl,h⟩
def Gl(X:Cx)(x:bH):Prop:=X.env.kindOf x=cz .globalImplicit
def a4L(I:Inv X pins Y H s)(hg:Gl X x)(hm:X.mg x=cz u)(h:Q u s)
    (hd:(x==("__debug__":bH))=rp:=by decide):aD (aT X.prog X.w) X.A (cy (.Name x pos) X.env) Q E s:=
  wF I.ok.kind hg (Calls.loadGlobal_global (by rw[I.ok.glob];exact I.mod.glob.keeps I.bk) hm h) hd
def Z8(I:Inv X pins Y H s)(hg:Gl X x)(hm:X.mg x=el)(hv:gh x=cz u)(h:Q u s)
    (hn:x≠"__name__":=by decide) (hd:(x==("__debug__":bH))=rp:=by decide):aD (aT X.prog X.w) X.A (cy (.Name x pos) X.env) Q E s:=by
  obtain⟨mb,h1,h2⟩:=I.mod.blt;exact wF I.ok.kind hg (Calls.loadGlobal_builtin (by rw[I.ok.glob];exact I.mod.glob.keeps I.bk) hm (by rw[I.ok.blt];exact h1.keeps I.bk) ((h2 x hn).trans hv) h) hd
def b3s(hg:Gl X x)(hm:X.mg x=cz u)(r:RelV v u)(hd:(x==("__debug__":bH))=rp:=by decide):PE X (.Name x pos) (tC v):=
  λ_ _ _ H _ I h=>a4L I hg hm ⟨v,H,I,r,h⟩ hd
def b3t(hg:Gl X x)(hm:X.mg x=el)(hv:gh x=cz u)(r:RelV v u)(hn:x≠"__name__":=by decide)(hd:(x==("__debug__":bH))=rp:=by decide):PE X (.Name x pos) (tC v):=
  λ_ _ _ H _ I h=>Z8 I hg hm hv ⟨v,H,I,r,h⟩ hn hd
variable {a b:Expr}{ta tb:TE}{pos:eM}
def tB(t:TE):TT:=λY H Q=>t Y H λx H1=>∃c,x=.bl c/\Q c H1
variable {tA wI:TT}{rest:List Expr}
def b9P(t u:TT):TT:=λY H Q=>t Y H λc H1=>if c=p4 then u Y H1 Q else Q rp H1
def tOr(t u:TT):TT:=λY H Q=>t Y H λc H1=>if c=p4 then Q p4 H1 else u Y H1 Q
def b9Q(t:TT):TT:=λY H Q=>t Y H λc H1=>Q (!c) H1
def b3u(ha:PT X a tA):PW X (.BoolOp .And [a] pos) tA:=by
  intro wh pins s Y H Q I h;refine isTrue_and (thn (ha pins s Y H Q I h) λc s1 e=>?_);cases c with
  |true=>exact isTrue_and_nil e
  |false=>exact e
def b5X(ha:PT X a tA):PW X (.BoolOp .Or [a] pos) tA:=by
  intro wh pins s Y H Q I h;refine isTrue_or (thn (ha pins s Y H Q I h) λc s1 e=>?_);cases c with
  |false=>exact isTrue_or_nil e
  |true=>exact e
def b5Y(ha:PT X a tA)(hb:PW X (.BoolOp .And (b::rest) pos) wI):PW X (.BoolOp .And (a::b::rest) pos) (b9P tA wI):=by
  intro wh pins s Y H Q I h;refine isTrue_and (thn (ha pins s Y H _ I h) λc s1 ⟨H1,I1,q1⟩=>?_);cases c with
  |true=>exact hb wh pins s1 Y H1 Q I1 q1
  |false=>exact⟨H1,I1,q1⟩
def b8g(ha:PT X a tA)(hb:PW X (.BoolOp .Or (b::rest) pos) wI):PW X (.BoolOp .Or (a::b::rest) pos) (tOr tA wI):=by
  intro wh pins s Y H Q I h;refine isTrue_or (thn (ha pins s Y H _ I h) λc s1 ⟨H1,I1,q1⟩=>?_);cases c with
  |true=>exact⟨H1,I1,q1⟩
  |false=>exact hb wh pins s1 Y H1 Q I1 q1
def b5Z(ha:PT X a tA):PT X (.UnaryOp .Not a pos) (b9Q tA):=by
  intro pins s Y H Q I h;exact isTrue_not (ha pins s Y H (λc H1=>Q (!c) H1) I h)
def b8h(ta tb:TE):TE:=λY H Q=>ta Y H λx H1=>∃c,x=.bl c/\if c=p4 then tb Y H1 Q else Q (.bl rp) H1
def b8i(ta:TE):TE:=λY H Q=>ta Y H λx H1=>∃c,x=.bl c/\Q (.bl (!c)) H1
def b6a{op}(h:PE X a t):PE X (.BoolOp op [a] pos) t:=λpins s Y H Q I hw=>BoolOp_one (h pins s Y H Q I hw)
def b6b(ha:PE X a ta)(hb:PE X (.BoolOp .And (b::rest) pos) tb):PE X (.BoolOp .And (a::b::rest) pos) (b8h ta tb):=by
  intro pins s Y H Q I h;refine BoolOp_and (thn (ha pins s Y H _ I h) λv s1 ⟨x,H1,I1,r1,q1⟩=>?_);obtain⟨c,rfl,q1⟩:=q1;cases r1
  refine dD ?_;cases c with
  |true=>exact hb pins s1 Y H1 Q I1 q1
  |false=>exact⟨.bl rp,H1,I1,rfl,q1⟩
def b6c(ha:PE X a ta):PE X (.UnaryOp .Not a pos) (b8i ta):=by
  intro pins s Y H Q I h;refine UnaryOp_ (thn (ha pins s Y H _ I h) λv s1 ⟨x,H1,I1,r1,q1⟩=>?_);obtain⟨c,rfl,q1⟩:=q1;cases r1
  exact not_of (dD ⟨.bl (!c),H1,I1,rfl,q1⟩)
def tIf(t:TT)(ta tb:TE):TE:=λY H Q=>t Y H λc H1=>if c=p4 then ta Y H1 Q else tb Y H1 Q
def b0C{c:Expr}(hc:PT X c tA)(ha:PE X a ta)(hb:PE X b tb):PE X (.IfExp c a b pos) (tIf tA ta tb):=by
  intro pins s Y H Q I h;refine wpAny_IfExp (thn (hc pins s Y H _ I h) λd s1 ⟨H1,I1,q1⟩=>?_);cases d with
  |true=>exact ha pins s1 Y H1 Q I1 q1
  |false=>exact hb pins s1 Y H1 Q I1 q1
end
def SqL(K:af)(H:Hp)(a:av)(xs:List V):Prop:=
  Rd H a (.lst xs)\/
    ∃(o:fD) (cK:Array ai) (n:Nat),K.lookup a=cz o/\o.cls=.type "list"/\o.dict=el/\o.data=.seq cK n/\cK.size<=aP/\Vals xs cK.toList
def SqT(K:af)(H:Hp)(a:av)(xs:List V):Prop:=
  Rd H a (.tup xs)\/
    ∃(o:fD) (cK:Array ai) (n:Nat),K.lookup a=cz o/\o.cls=.type "tuple"/\o.data=.seq cK n/\cK.size<=aP/\Vals xs cK.toList
def b9R:ai->Option V
  |.none=>cz .non
  |.bool b=>cz (.bl b)
  |.int i _=>cz (.int i)
  |.str x _=>cz (.str x)
  |.bytes b _=>cz (.byt b)
  |.float b _=>cz (.flt b)
  |.ref a=>cz (.ref a)
  |.type n=>cz (.ty n)
  |_=>el
def RelV.abs(r:RelV x u):b9R u=cz x:=by
  cases x with
  |non=>cases r;rfl
  |bl _=>cases r;rfl
  |int _=>obtain⟨t,rfl⟩:=r;rfl
  |str _=>obtain⟨t,rfl⟩:=r;rfl
  |byt _=>obtain⟨t,rfl⟩:=r;rfl
  |flt _=>obtain⟨t,rfl⟩:=r;rfl
  |ref _=>cases r;rfl
  |ty _=>cases r;rfl
def RelV.inj(r:RelV x u)(q:RelV y u):x=y:=aH (r.abs.symm.trans q.abs)
theorem Vals.inj:∀{xs ys:List V} {us:List ai},Vals xs us->Vals ys us->xs=ys
  |_,_,_,.nil,.nil=>rfl
  |_,_,_,.cons r t,.cons r' t'=>by rw[r.inj r',Vals.inj t t']
section
variable {X:Cx}{pins:List (av×fD)}{Y:St}{H:Hp}{s:ar}{a:av}{xs ys:List V}
def SqL.of{K:af}(h:H a=cz (.lst xs)):SqL K H a xs:=.inl (.inl h)
def SqT.of{K:af}(h:H a=cz (.tup xs)):SqT K H a xs:=.inl (.inl h)
def Inv.list(I:Inv X pins Y H s)(h:SqL X.K H a xs):∃cK:List ai,Vals xs cK/\PlainL s.heap a cK.toArray/\xs.length<=aP:=by
  rcases h with h|⟨o,cK,n,hk,hc,hd,hs,hz,r⟩
  . obtain⟨z,cK,n,r,e⟩:=h.ok I.hok
    exact⟨cK,r,⟨_,n,e,rfl,rfl,rfl⟩,z⟩
  . refine⟨cK.toList,r,⟨o,n,I.kIn a o hk,hc,hd,by simpa using hs⟩,?_⟩
    have e:=r.length;simp only[cI]at e;omega
def Inv.tuple(I:Inv X pins Y H s)(h:SqT X.K H a xs):∃cK:List ai,Vals xs cK/\IsTup s.heap a cK.toArray/\xs.length<=aP:=by
  rcases h with h|⟨o,cK,n,hk,hc,hs,hz,r⟩
  . obtain⟨z,cK,r,p⟩:=h.ok I.hok
    exact⟨cK,r,p,z⟩
  . refine⟨cK.toList,r,⟨o,I.kIn a o hk,hc,n,by simpa using hs⟩,?_⟩
    have e:=r.length;simp only[cI]at e;omega
def Inv.list_inj(I:Inv X pins Y H s)(h:SqL X.K H a xs)(h':SqL X.K H a ys):xs=ys:=by
  obtain⟨cK,r,⟨o,n,e,_,_,d⟩,_⟩:=I.list h;obtain⟨its',r',⟨o',n',e',_,_,d'⟩,_⟩:=I.list h';rw[e]at e';cases e';rw[d]at d'
  injection d' with d1 _
  have:cK=its':=by simpa using eE Array.toList d1
  subst this;exact r.inj r'
end
abbrev Cx.wish(X:Cx)(E:ai->ar->Prop):Cx:={X with xe:=E}
abbrev Cx.nox(X:Cx):Cx:=X.wish λ_ _=>False
theorem Cx.Ok.wish{X:Cx}(ok:X.Ok)(E:ai->ar->Prop):(X.wish E).Ok:=
  ⟨ok.mod,ok.kind,ok.glob,ok.blt,ok.above,ok.inj,ok.has,ok.cab,ok.hd,ok.frames,ok.stk,ok.exf,ok.bs,ok.bsz,ok.noex,ok.exfs,ok.funs,ok.frf,ok.tabs⟩
def Cx.Ok.unwish{X:Cx}(ok:(X.wish E).Ok):X.Ok:=
  ⟨ok.mod,ok.kind,ok.glob,ok.blt,ok.above,ok.inj,ok.has,ok.cab,ok.hd,ok.frames,ok.stk,ok.exf,ok.bs,ok.bsz,ok.noex,ok.exfs,ok.funs,ok.frf,ok.tabs⟩
section
variable {X:Cx}{pins:List (av×fD)}{Y:St}{H:Hp}{s:ar}{E:ai->ar->Prop}
theorem Inv.wish(I:Inv X pins Y H s)(E:ai->ar->Prop):Inv (X.wish E) pins Y H s:=⟨I.ok.wish E,I.os,I.bare,I.base,I.loc,I.cell,I.free,I.freeC,I.pin,I.hok,I.len⟩
theorem Inv.unwish(I:Inv (X.wish E) pins Y H s):Inv X pins Y H s:=⟨I.ok.unwish,I.os,I.bare,I.base,I.loc,I.cell,I.free,I.freeC,I.pin,I.hok,I.len⟩
theorem SP.unwish(h:SP (X.wish E) pins D f s'):SP X pins D f s':=by
  cases f with
  |next=>obtain⟨Y',H',I,q⟩:=h;exact⟨Y',H',I.unwish,q⟩
  |brk=>obtain⟨Y',H',I,q⟩:=h;exact⟨Y',H',I.unwish,q⟩
  |cont=>obtain⟨Y',H',I,q⟩:=h;exact⟨Y',H',I.unwish,q⟩
  |ret u=>obtain⟨v,Y',H',I,r,q⟩:=h;exact⟨v,Y',H',I.unwish,r,q⟩
theorem PSs.nox{st:List g_}{t:TS}(h:PSs X.nox st t):PSs X st t:=λpins s Y H D I hw=>
  c_ (h pins s Y H D (I.wish _) hw) (λ_ _ q=>q.unwish) λ_ _ z=>cG z
end
section
variable {X:Cx}{st:g_}{rest:List g_}{t u:TS}{e:Expr}{te:TE}{pos:eM}
def b0D:TS:=λD Y H=>D.nx Y H
def b6d(t u:TS):TS:=λD Y H=>t {D with nx:=u D} Y H
def a2a:PSs X [] b0D:=λ_ _ Y H _ I h=>md ⟨Y,H,I,h⟩
def V1(h1:PS X st t)(h2:PSs X rest u):PSs X (st::rest) (b6d t u):=by
  intro pins s Y H D I h;refine wpAny_execs_cons (thn (h1 pins s Y H {D with nx:=u D} I h) λf s1 q=>?_);cases f with
  |next=>
    obtain⟨Y',H',I',q⟩:=q;exact h2 pins s1 Y' H' D I' q
  |ret v=>exact q
  |brk=>exact q
  |cont=>exact q
def a4M(h1:PS X st t):PSs X [st] t:=by
  intro pins s Y H D I h;refine wpAny_execs_cons (thn (h1 pins s Y H D I h) λf s1 q=>?_);cases f with
  |next=>exact md q
  |ret v=>exact q
  |brk=>exact q
  |cont=>exact q
def Inv.quiet{pins:List (av×fD)}{Y:St}{H:Hp}{s:ar}(I:Inv X pins Y H s):interactive X.env=rp:=by simp[interactive,I.ok.kind]
def b8j(te:TE):TS:=λD Y H=>te Y H λ_ H1=>D.nx Y H1
def a0n(he:PE X e te)(hs:fE e el pos.line X.env=pure rp:=by rfl):PS X (.Expr e pos) (b8j te):=by
  intro pins s Y H D I h;exact wpAny_Expr_any (thn (he pins s Y H _ I h) λv s1 ⟨x,H1,I1,r1,q1⟩=>⟨Y,H1,I1,q1⟩) I.quiet hs
def b9S(te:TE):TS:=λD Y H=>te Y H D.rt
def a6N(he:PE X e te):PS X (.Return (cz e) pos) (b9S te):=by
  intro pins s Y H D I h;exact wpAny_Return_some (thn (he pins s Y H _ I h) λv s1 ⟨x,H1,I1,r1,q1⟩=>⟨x,Y,H1,I1,r1,q1⟩)
def b8k(c:TT)(t u:TS):TS:=λD Y H=>c Y H λb H1=>if b=p4 then t D Y H1 else u D Y H1
def b0E{c:Expr}{a b:List g_}{tc:TT}(hc:PT X c tc)(ha:PSs X a t)(hb:PSs X b u):PS X (.If c a b pos) (b8k tc t u):=by
  intro pins s Y H D I h;refine wpAny_If (thn (hc pins s Y H _ I h) λd s1 ⟨H1,I1,q1⟩=>?_);cases d with
  |true=>exact ha pins s1 Y H1 D I1 q1
  |false=>exact hb pins s1 Y H1 D I1 q1
def b6e:TS:=λ_ _ _=>False
def b0F:PS X st b6e:=λ_ _ _ _ _ _ h=>h.elim
end
abbrev TG:=V->St->Hp->(St->Hp->Prop)->Prop
abbrev TGs:=List V->St->Hp->(St->Hp->Prop)->Prop
def PG(X:Cx)(target:Expr)(t:TG):Prop:=
  ∀(pins:List (av×fD)) (s:ar) (Y:St) (H:Hp) (v:V) (u:ai) (Q:St->Hp->Prop),Inv X pins Y H s->RelV v u->t v Y H Q->
    aD (aT X.prog X.w) X.A (ng target X.env u) (λ_ s'=>∃Y' H',Inv X pins Y' H' s'/\Q Y' H') X.xe s
def PGs(X:Cx)(ts:List Expr)(t:TGs):Prop:=
  ∀(pins:List (av×fD)) (s:ar) (Y:St) (H:Hp) (vs:List V) (us:List ai) (Q:St->Hp->Prop),Inv X pins Y H s->Vals vs us->t vs Y H Q->
    aD (aT X.prog X.w) X.A (assignInOrder ((fQ ts X.env).map (·.2)) us) (λ_ s'=>∃Y' H',Inv X pins Y' H' s'/\Q Y' H') X.xe s
section
variable {X:Cx}{pos:eM}
def J9(i:Nat):TG:=λv Y H Q=>Q (Y.set i (cz v)) H
def w9(hN:X.N.Nodup)(hi:X.N[i]?=cz x)(hx:Loc X.env.scope x)(hf:autoParam (X.fn x=p4\/X.env.scope.names.lookup x=cz .local) ZZ._auto_1):PG X (.Name x pos) (J9 i):=by
  intro pins s Y H v u Q I r h;exact wpAny_assign_Name (a2n I hN hi hx r (λs' I'=>⟨_,H,I',h⟩) hf)
def a9a:TGs:=λvs Y H Q=>vs=[]/\Q Y H
def V2(t:TG)(u:TGs):TGs:=λvs Y H Q=>∃v r,vs=v::r/\t v Y H λY' H'=>u r Y' H' Q
def F5:PGs X [] a9a:=by
  intro pins s Y H vs us Q I r h;obtain⟨e,h⟩:=h;subst e;cases r
  exact assignInOrder_nil ⟨Y,H,I,h⟩
def m9{e:Expr}{es:List Expr}{t:TG}{u:TGs}(h1:PG X e t)(h2:PGs X es u)
    (hs:(fQ (e::es) X.env).map (·.2)=ng e X.env::(fQ es X.env).map (·.2):=by rfl):PGs X (e::es) (V2 t u):=by
  intro pins s Y H vs us Q I r h;obtain⟨v,vr,e1,h⟩:=h;subst e1;cases r with
  |cons r rr=>
    rw[hs];refine assignInOrder_cons (thn (h1 pins s Y H _ _ _ I r h) λ_ s1 ⟨Y1,H1,I1,q1⟩=>?_);exact h2 pins s1 Y1 H1 _ _ Q I1 rr q1
def b3v(K:af)(n:Nat)(t:TGs):TG:=λv Y H Q=>∃a xs,v=.ref a/\SqT K H a xs/\xs.length=n/\t xs Y H Q
def R6(hc:X.calm=p4)(h:PGs X es t)
    (hn:(fQ es X.env).length=n:=by rfl) (pL:(fQ es X.env).findIdx? (·.1)=el:=by rfl):PG X (.Tuple es k pos) (b3v X.K n t):=by
  intro pins s Y H v u Q I r hw;obtain⟨a,xs,e1,hq,hl,hw⟩:=hw;subst e1;cases r
  obtain⟨cK,rv,ht,hz⟩:=I.tuple hq;refine assign_Tuple_tuple (I.ok.hd hc) ht (by simp[hn,<-hl,rv.length]) pL λh' hx=>?_
  have I1:Inv X pins Y H {s with heap:=h'}:=I.kept (t':=s.toks) λb o e=>hx b o (ba (aF e)) e
  exact h pins _ Y H xs _ Q I1 (by simpa using rv) hw
def b6f(te:TE)(g:TG):TS:=λD Y H=>te Y H λx H1=>g x Y H1 D.nx
def b0G{tg e:Expr}{te:TE}{g:TG}(he:PE X e te)(hg:PG X tg g)(hs:xO [tg] e pos.line X.env=pure rp:=by rfl)(hw:xP [tg] e X.env=pure el:=by rfl)
    (h1:(fQ [tg] X.env).map (·.2)=[ng tg X.env]:=by rfl):PS X (.Assign [tg] e pos) (b6f te g):=by
  intro pins s Y H D I h;refine wpAny_Assign_stores (thn (he pins s Y H _ I h) λv s1 ⟨x,H1,I1,r1,q1⟩=>?_) hs hw;rw[h1];exact thn (hg pins s1 Y H1 x v _ I1 r1 q1) λ_ s2 q=>q
def b0H{i:Nat}{x:bH}{e:Expr}{te:TE}{pos':eM}(hN:X.N.Nodup)(hi:X.N[i]?=cz x)(hx:Loc X.env.scope x)(he:PE X e te)(hs:fE e (cz (.Name x pos')) pos.line X.env=pure rp:=by rfl)(hf:autoParam (X.fn x=p4\/X.env.scope.names.lookup x=cz .local) ZZ._auto_1) :
    PS X (.Assign [.Name x pos'] e pos) (b6f te (J9 i)):=by
  intro pins s Y H D I h;refine wpAny_Assign_Name (thn (he pins s Y H _ I h) λv s1 ⟨y,H1,I1,r1,q1⟩=>?_) hs;exact a2n I1 hN hi hx r1 (λs2 I2=>⟨_,H1,I2,q1⟩) hf
def b6g(c:TT)(tb:TS):TS:=λD Y H=>∃W:Nat->St->Hp->Prop,(∃m,W m Y H)/\∀m Y H,W m Y H->
  c Y H λb H1=>if b=p4 then ∃N:St->Hp->Prop,(∀Y' H',N Y' H'->∃m',m'<m/\W m' Y' H')/\tb {D with nx:=N,ct:=N,bk:=D.nx} Y H1 else D.nx Y H1
def b0I{c:Expr}{body:List g_}{tc:TT}{tb:TS}(hp:lJ (aT X.prog X.w) X.A X.env X.xe)(hc:PT X c tc)(hb:PSs X body tb):PS X (.While c body [] pos) (b6g tc tb):=by
  intro pins s Y H D I h;obtain⟨W,⟨m0,w0⟩,turn⟩:=h;refine wpAny_While (codeAny_whileLoop (λn s'=>∃Y' H',Inv X pins Y' H' s'/\W n Y' H') ?_ m0 ⟨Y,H,I,w0⟩);rintro n s1 ⟨Y1,H1,I1,w1⟩;refine gj hp (thn (hc pins s1 Y1 H1 _ I1 (turn n Y1 H1 w1)) λb s2 ⟨H2,I2,q2⟩=>?_);cases b with
  |true=>
    obtain⟨N,hN,q2⟩:=q2;rw[aG rfl];refine gj hp (thn (hb pins s2 Y1 H2 _ I2 q2) λf s3 q3=>?_);cases f with
    |next=>
      obtain⟨Y3,H3,I3,n3⟩:=q3;obtain⟨m',hm,w3⟩:=hN Y3 H3 n3;exact⟨m',hm,Y3,H3,I3,w3⟩
    |cont=>
      obtain⟨Y3,H3,I3,n3⟩:=q3;obtain⟨m',hm,w3⟩:=hN Y3 H3 n3;exact⟨m',hm,Y3,H3,I3,w3⟩
    |brk=>exact q3
    |ret v=>exact q3
  |false=>
    rw[aL aS];exact md ⟨Y1,H2,I2,q2⟩
end
structure It where
  go:Nat->Hp->Prop
  yld:Nat->Hp->V->Hp->Prop
  stop:Nat->Hp->Prop
def a0o(X:Cx)(pins:List (av×fD))(H:Hp)(b:av):Prop:=
  H b=el/\b≠X.env.locals/\b∉X.fs/\(b∈X.ex\/X.s₀.heap.objs.size<=b)/\(∀x c,X.env.cells.lookup x=cz c->c≠b)/\∀p∈X.pn++pins,p.1≠b
def Inv.fpOk(I:Inv X pins Y H s)(hb:s.heap.objs.size<=b)(hn:H' b=el):a0o X pins H' b:=by
  refine⟨hn,ee (bu I.lt hb),I.nofs hb,.inr (bV I.sz hb),λx c e z=>?_,λp hp z=>?_⟩
  . obtain⟨v,q⟩:=I.cell x c e
    exact absurd (bu q.lt (by rw[z];exact hb)) (dg _)
  . exact absurd (bu (aF (I.pin p hp).1) (by rw[z];exact hb)) (dg _)
structure Turn (P:bw) (w:bO) (K:af) (tg:Expr) (J:It) (fp:List av) (it:av) (tn:Nat->bR->Prop):Prop where
  mem:it∈fp
  obj:∀i h,tn i h->∀b∈fp,∃o,h.get? b=cz o/\∀v,o.data≠.cell v
  keep:∀i h h',tn i h->(∀b∈fp,∀o,h.get? b=cz o->h'.get? b=cz o)->tn i h'
  item:∀(X:Cx),X.prog=P->X.w=w->X.K=K->X.calm=p4->∀(i:Nat) (pins:List (av×fD)) (s:ar) (Y:St) (H:Hp) (E:ai->ar->Prop),Inv X pins Y H s->(∀b∈fp,a0o X pins H b)->tn i s.heap->J.go i H->
    aD (aT P w) X.A (fP (.ref it)) (λr s1=>∃u,r=cz u/\
      aD (aT P w) X.A (mh tg (.ref it) u) (λ_ s2=>∃x H',Inv X pins Y H' s2/\RelV x u/\J.yld i H x H'/\tn (i+1) s2.heap/\∀b∈fp,H' b=el) E s1) E s
  done:∀(X:Cx),X.prog=P->X.w=w->X.K=K->X.calm=p4->∀(i:Nat) (pins:List (av×fD)) (s:ar) (Y:St) (H:Hp) (E:ai->ar->Prop),Inv X pins Y H s->(∀b∈fp,a0o X pins H b)->tn i s.heap->J.stop i H->
    aD (aT P w) X.A (fP (.ref it)) (λr s1=>r=el/\Inv X pins Y H s1) E s
  self:∀(A:bC) (i:Nat) (s:ar) (Q:ai->ar->Prop) (E:ai->ar->Prop),tn i s.heap->Q (.ref it) s->aD (aT P w) A (qY (.ref it)) Q E s
abbrev TI:=St->Hp->(It->Hp->Prop)->Prop
def PIE(X:Cx)(pins:List (av×fD))(Y:St)(tg:Expr)(R:It->Hp->Prop)(yc:ai)(s2:ar):Prop:=
  ∃(it:av) (fp:List av) (tn:Nat->bR->Prop) (J:It) (H':Hp),yc=.ref it/\Inv X pins Y H' s2/\Turn X.prog X.w X.K tg J fp it tn/\tn 0 s2.heap/\(∀b∈fp,a0o X pins H' b)/\R J H'
def PI(X:Cx)(tg iter:Expr)(wi:TI):Prop:=
  ∀(pins:List (av×fD)) (s:ar) (Y:St) (H:Hp) (R:It->Hp->Prop),Inv X pins Y H s->wi Y H R->
    aD (aT X.prog X.w) X.A (cy iter X.env) (λv s1=>aD (aT X.prog X.w) X.A (qY v) (PIE X pins Y tg R) X.xe s1) X.xe s
def b0J{s:ar}(ho:s.heap.get? it=cz o)(hc:o.cls=.type n)(hd:o.data=.fields vs)
    (hn:["enumerate","zip","dict_itemiterator","dict_reverseitemiterator","odict_iterator","itertools.zip_longest","itertools.pairwise"].contains n=rp) (hQ:Q () s):aD M A (mh tg (.ref it) u) Q E s:=by
  unfold mh;cases tg<;>first
    |exact ae hQ
    | (cases u<;>first
        |exact ae hQ
        | (refine ab (lQ ho ?_)
           rw[hc,hd];show aD M A (if (["enumerate","zip","dict_itemiterator","dict_reverseitemiterator","odict_iterator","itertools.zip_longest","itertools.pairwise"].contains n&&vs[0]?==cz (cV _))=p4 then _ else _) Q E s;rw[aL (by intro h;rw[hn,Bool.false_and]at h;cases h)];exact ae hQ))
def Itl(K:af)(a:av):It:=
  ⟨λi H=>∃xs x,SqL K H a xs/\xs[i]?=cz x,λi H x H'=>H'=H/\∀xs,SqL K H a xs->xs[i]?=cz x,λi H=>∃xs,SqL K H a xs/\xs.length<=i⟩
def Itr(lo:Int)(n:Nat):It:=⟨λi _=>i<n,λi H x H'=>H'=H/\x=.int (lo+i),λi _=>n<=i⟩
def a9b{P:bw}{w:bO}{K:af}{tg:Expr}(a it:av):Turn P w K tg (Itl K a) [it] it (λi h=>h.IsListIter it a i) where
  mem:=by simp
  obj:=λi h st b hb=>by
    have e:b=it:=by simpa using hb
    subst e;obtain⟨o,e,c,d⟩:=st;exact⟨o,e,λv z=>by rw[d]at z;cases z⟩
  keep:=λi h h' st k=>st.at λo e=>k it (by simp) o e
  item:=by
    intro X hP hw hK hc i pins s Y H E I hf st hg;subst hP hw hK;obtain⟨xs,x,hq,hx⟩:=hg;obtain⟨cK,rv,p,hz⟩:=I.list hq;obtain⟨u,hu,ru⟩:=rv.get hx;obtain⟨f0,f1,f2,f3,f4,f5⟩:=hf it (by simp);refine wpAny_pyNext_list_item st p.isList (x:=u) (by simpa using hu) λh' qX sb=>?_
    have I1:Inv X pins Y H {s with heap:=h'}:=I.turned (t':=s.toks) (λb o hb e=>(sb.2 b hb).trans e) f0 f1 f3 f4 f5;obtain⟨o,e,c,d⟩:=id qX;exact⟨u,rfl,b0J (s:={s with heap:=h'}) e c d (by decide) ⟨x,H,I1,ru,⟨rfl,λys hy=>by rw[I.list_inj hy hq];exact hx⟩,qX,λb hb=>(hf b hb).1⟩⟩
  done:=by
    intro X hP hw hK hc i pins s Y H E I hf st hg;subst hP hw hK;obtain⟨xs,hq,hx⟩:=hg;obtain⟨cK,rv,p,hz⟩:=I.list hq;obtain⟨f0,f1,f2,f3,f4,f5⟩:=hf it (by simp);have hl:=rv.length;exact wpAny_pyNext_list_end (I.ok.hd hc) st p.isList (by simp;omega) λh' eb=>⟨rfl,I.turned (t':=s.toks) (λb o hb e=>eb b o hb e) f0 f1 f3 f4 f5⟩
  self:=λ_ _ _ _ _ st h=>wpAny_pyIter_listiter st h
def a6O{P:bw}{w:bO}{K:af}{tg:Expr}(it:av)(lo:Int)(n:Nat):Turn P w K tg (Itr lo n) [it] it (λi h=>IsRangeIter h it (lo+(i:Nat)*1) ((n:Int)-(i:Nat)) 1) where
  mem:=by simp
  obj:=λi h st b hb=>by
    have e:b=it:=by simpa using hb
    subst e;exact⟨_,st,λv z=>by
      have z':Data.fields _=Data.cell v:=z;cases z'⟩
  keep:=λi h h' st k=>k it (by simp) _ st
  item:=by
    intro X hP hw hK hc i pins s Y H E I hf st hg;subst hP hw hK;obtain⟨f0,f1,f2,f3,f4,f5⟩:=hf it (by simp);have W:=Walks.range (prog:=X.prog) (w:=X.w) (I.ok.hd hc) it lo 1 n;refine W.item i s _ _ hg st λv h' tk hv qX kk=>?_
    obtain⟨t,rfl⟩:=hv;have I1:Inv X pins Y H {s with heap:=h',toks:=tk}:=I.turned (λb o hb e=>kk b o (by simpa using hb) e) f0 f1 f3 f4 f5;refine⟨_,rfl,b0J (s:={s with heap:=h',toks:=tk}) (n:="range_iterator") qX rfl rfl (by decide) ⟨.int (lo+i),H,I1,⟨t,?_⟩,⟨rfl,rfl⟩,qX,λb hb=>(hf b hb).1⟩⟩;rw[Int.mul_one]
  done:=by
    intro X hP hw hK hc i pins s Y H E I hf st hg;subst hP hw hK;obtain⟨f0,f1,f2,f3,f4,f5⟩:=hf it (by simp);exact wpAny_pyNext_range_end (I.ok.hd hc) st (by have:n<=i:=hg;omega) λh' eb=>⟨rfl,I.turned (t':=s.toks) (λb o hb e=>eb b o hb e) f0 f1 f3 f4 f5⟩
  self:=λ_ _ _ _ _ st h=>wpAny_pyIter_rangeiter st h
section
variable {X:Cx}{tg:Expr}
def b8l(K:af)(tl:TE):TI:=λY H R=>tl Y H λx H1=>∃a,x=.ref a/\(∃xs,SqL K H1 a xs)/\R (Itl K a) H1
def a8h{l:Expr}{tl:TE}(hl:PE X l tl):PI X tg l (b8l X.K tl):=by
  intro pins s Y H R I h;refine thn (hl pins s Y H _ I h) λv s1 ⟨x,H1,I1,r1,q1⟩=>?_
  obtain⟨a,e,⟨xs,hq⟩,q⟩:=q1;subst e;cases r1
  obtain⟨cK,rv,p,hz⟩:=I1.list hq;refine pE p.isList ?_;refine⟨s1.heap.objs.size,[s1.heap.objs.size],_,_,H1,rfl,I1.kept (t':=s1.toks) λb o e=>ag _ e,a9b a _,⟨_,aE _ rfl,rfl,rfl⟩,λb hb=>?_,q⟩;have e:b=s1.heap.objs.size:=by simpa using hb
  subst e;exact I1.fpOk (aB _) (I1.hok.fresh (aB _))
def b0K{pins:List (av×fD)}{Y:St}{H:Hp}{s:ar}{R:It->Hp->Prop}{E:ai->ar->Prop}{lo hi:Int}{t u v:Tok}{tk:Nat}(I:Inv X pins Y H s)(h1:-(2^62)<=lo)(h2:lo<2^62)(h3:-(2^62)<=hi)(h4:hi<2^62)
    (q:R (Itr lo (hi-lo).toNat) H):aD (aT X.prog X.w) X.A (qY (.ref s.heap.objs.size)) (PIE X pins Y tg R) E {s with heap:=s.heap.push {cls:=.type "range",data:=.fields #[.int lo t,.int hi u,.int 1 v]},toks:=tk}:=by
  refine wpAny_pyIter_range (IsRange.new ..) (small_one h1 h2 h3 h4) ?_;have I1:Inv X pins Y H {s with heap:=s.heap.push {cls:=.type "range",data:=.fields #[.int lo t,.int hi u,.int 1 v]},toks:=tk}:=I.kept λb o e=>ag _ e
  refine⟨(s.heap.push {cls:=.type "range",data:=.fields #[.int lo t,.int hi u,.int 1 v]}).objs.size,[(s.heap.push {cls:=.type "range",data:=.fields #[.int lo t,.int hi u,.int 1 v]}).objs.size],_,_,H,rfl,
    I1.kept (t':=tk) λb o e=>ag _ e,a6O _ lo (hi-lo).toNat,?_,λb hb=>?_,q⟩
  . have e1:lo+((0:Nat):Int)*1=lo:=by simp
    have e2:(((hi-lo).toNat:Nat):Int)-((0:Nat):Int)=BL lo hi 1:=by rw[rangeSize_one];split<;>omega
    show IsRangeIter _ _ (lo+((0:Nat):Int)*1) ((((hi-lo).toNat:Nat):Int)-((0:Nat):Int)) 1;rw[e1,e2];exact aE _ rfl
  . have e:b=(s.heap.push {cls:=.type "range",data:=.fields #[.int lo t,.int hi u,.int 1 v]}).objs.size:=by simpa using hb
    subst e;exact I1.fpOk (aB _) (I1.hok.fresh (aB _))
def b8m(ta:TA):TI:=λY H R=>ta Y H λvs H1=>∃j:Int,vs=[.int j]/\-(2^62)<=j/\j<2^62/\R (Itr 0 j.toNat) H1
def a9c{a:Expr}{ta:TA}{p pos:eM}(hg:Gl X "range")(hm:X.mg "range"=el)(ha:PA X [a] ta)(hs:ax [a] X.env=[(rp,cy a X.env)]:=by rfl):PI X tg (.Call (.Name "range" p) [a] [] pos) (b8m ta):=by
  intro pins s Y H R I h;refine Call_ (Z8 I hg hm boot_range (eL (thn (ha pos pins s Y H _ I h) λus s1 ⟨vs,H1,I1,r1,q1⟩=>?_) hs rfl));obtain⟨j,e,q1,q2,q⟩:=q1;subst e;cases r1 with
  |cons r rr=>
    cases rr
    obtain⟨t,rfl⟩:=r;exact call_range_1 (b0K I1 (by omega) (by omega) q1 q2 (by simpa using q))
def b9T(wi:TI)(g:TG)(tb:TS):TS:=λD Y H=>wi Y H λJ H1=>∃W:Nat->Nat->St->Hp->Prop,(∃m,W 0 m Y H1)/\∀i m Y H,W i m Y H->
  (J.stop i H/\D.nx Y H)\/(J.go i H/\∃N:St->Hp->Prop,(∀Y' H',N Y' H'->∃m',m'<m/\W (i+1) m' Y' H')/\∀x H',J.yld i H x H'->g x Y H' λY2 H2=>tb {D with nx:=N,ct:=N,bk:=D.nx} Y2 H2)
def a4N(fp:List av)(h:bR):List (av×fD):=fp.filterMap λb=>(h.get? b).map λo=>(b,o)
def D8{h:bR}(hb:b∈fp)(e:h.get? b=cz o):(b,o)∈a4N fp h:=dX.mpr ⟨b,hb,by rw[e];rfl⟩
def a9d(hp:p∈a4N fp h):p.1∈fp/\h.get? p.1=cz p.2:=by
  obtain⟨b,hb,e⟩:=dX.mp hp;cases q:h.get? b with
  |none=>rw[q]at e;cases e
  |some o=>
    rw[q]at e;have e':(b,o)=p:=aH e;subst e';exact⟨hb,q⟩
def Inv.pinned(I:Inv X pins Y H s)(hf:∀b∈fp,a0o X pins H b)(ho:∀b∈fp,∃o,s.heap.get? b=cz o/\∀v,o.data≠.cell v):Inv X (pins++a4N fp s.heap) Y H s:=
  I.pins_of λp hp=>(az.mp hp).elim (λz=>I.pin p (aq _ z)) λz=>by
    obtain⟨hb,e⟩:=a9d z;obtain⟨f0,f1,f2,_⟩:=hf p.1 hb;obtain⟨o,e',d⟩:=ho p.1 hb;rw[e]at e';cases e';exact⟨e,f0,f1,f2,d⟩
def Inv.unpinned(I:Inv X (pins++pl) Y H s):Inv X pins Y H s:=I.pins_of λp hp=>I.pin p (aq _ (aA _ hp))
def a4O(hp:lJ (aT X.prog X.w) X.A X.env X.xe)(hc:X.calm=p4)(hi:PI X tg iter wi)(hg:PG X tg g)(hb:PSs X body tb)
    (hs:∀x,dR iter X.env x=pure x:=by intro _;rfl):PS X (.For tg iter body [] pos) (b9T wi g tb):=by
  intro pins s Y H D I h;refine wpAny_For (thn (hi pins s Y H _ I h) λv s1 h1=>thn h1 λyc s2 h2=>?_) hs;obtain⟨it,fp,tn,J,H2,e,I2,T,uL,f2,W,⟨m0,w0⟩,turn⟩:=h2;subst e;have nL:∀{H':Hp},(∀b∈fp,H' b=el)->∀b∈fp,a0o X pins H' b:=λhn b hb=>⟨hn b hb,(f2 b hb).2⟩
  refine codeAny_forLoop_any (λn s'=>∃i Y' H',Inv X pins Y' H' s'/\tn i s'.heap/\(∀b∈fp,H' b=el)/\W i n Y' H') ?_ m0 ⟨0,Y,H2,I2,uL,λb hb=>(f2 b hb).1,w0⟩;rintro n s3 ⟨i,Y3,H3,I3,uK,wc,w3⟩;rcases turn i n Y3 H3 w3 with⟨stop,qn⟩|⟨go,N,hN,step⟩
  . refine gj hp (thn (T.done X rfl rfl rfl hc i pins s3 Y3 H3 X.xe I3 (nL wc) uK stop) λr s4 ⟨hr,I4⟩=>?_)
    subst hr;exact md ⟨Y3,H3,I4,qn⟩
  . refine gj hp (thn (T.item X rfl rfl rfl hc i pins s3 Y3 H3 X.xe I3 (nL wc) uK go) λr s4 ⟨u,hr,h4⟩=>?_)
    subst hr;refine gj hp (thn h4 λ_ s5 ⟨x,H5,I5,r5,y5,qW,zx⟩=>?_);have zI:=I5.pinned (nL zx) (T.obj _ _ qW);refine gj hp (thn (hg _ s5 Y3 H5 x u _ zI r5 (step x H5 y5)) λ_ s6 ⟨Y6,H6,I6,q6⟩=>?_);refine gj hp (thn (hb _ s6 Y6 H6 _ I6 q6) λf s7 q7=>?_);have again:∀{Y7:St} {H7:Hp},Inv X (pins++a4N fp s5.heap) Y7 H7 s7->N Y7 H7->∃m,m<n/\∃i Y' H',Inv X pins Y' H' s7/\tn i s7.heap/\(∀b∈fp,H' b=el)/\W i m Y' H':=λ{Y7 H7} I7 n7=>by
      obtain⟨m',hm,w7⟩:=hN Y7 H7 n7;refine⟨m',hm,i+1,Y7,H7,I7.unpinned,T.keep _ _ _ qW λb hb o e=>(I7.pin (b,o) (aq _ (aq _ (D8 hb e)))).1,λb hb=>?_,w7⟩;obtain⟨o,e,d⟩:=T.obj _ _ qW b hb;exact (I7.pin (b,o) (aq _ (aq _ (D8 hb e)))).2.1
    cases f with
    |next=>obtain⟨Y7,H7,I7,n7⟩:=q7;exact again I7 n7
    |cont=>obtain⟨Y7,H7,I7,n7⟩:=q7;exact again I7 n7
    |brk=>obtain⟨Y7,H7,I7,q7⟩:=q7;exact⟨Y7,H7,I7.unpinned,q7⟩
    |ret v=>obtain⟨x7,Y7,H7,I7,r7,q7⟩:=q7;exact⟨x7,Y7,H7,I7.unpinned,r7,q7⟩
end
abbrev R2:=V->V->Hp->VK->Prop
def OpR(X:Cx)(f:ai->ai->Sem ai)(r:R2):Prop:=
  ∀(pins:List (av×fD)) (s:ar) (Y:St) (H:Hp) (x y:V) (v u:ai) (Q:VK),Inv X pins Y H s->RelV x v->RelV y u->r x y H Q->
    aD (aT X.prog X.w) X.A (f v u) (EP X pins Y Q) X.xe s
def CallR(X:Cx)(f:ai)(r:List V->Hp->VK->Prop):Prop:=
  ∀(pins:List (av×fD)) (s:ar) (Y:St) (H:Hp) (xs:List V) (us:List ai) (Q:VK),Inv X pins Y H s->Vals xs us->r xs H Q->
    aD (aT X.prog X.w) X.A (call f us) (EP X pins Y Q) X.xe s
def b9U(X:Cx)(r:V->Hp->(Bool->Hp->Prop)->Prop):Prop:=
  ∀(pins:List (av×fD)) (s:ar) (Y:St) (H:Hp) (x:V) (v:ai) (Q:Bool->Hp->Prop),Inv X pins Y H s->RelV x v->r x H Q->
    aD (aT X.prog X.w) X.A (uJ v) (TP X pins Y Q) X.xe s
def tOp(r:R2)(ta tb:TE):TE:=λY H Q=>ta Y H λx H1=>tb Y H1 λy H2=>r x y H2 Q
def rI(C:Int->Int->Prop)(g:Int->Int->V):R2:=λx y H Q=>∃i j,x=.int i/\y=.int j/\C i j/\Q (g i j) H
def rI0(g:Int->Int->V):R2:=λx y H Q=>∃i j,x=.int i/\y=.int j/\Q (g i j) H
section
variable {X:Cx}{a b c:Expr}{ta tb tc:TE}{pos:eM}
def b6h(ha:PE X a ta)(hb:PE X b tb){pins:List (av×fD)}{s:ar}{Y:St}{H:Hp}{R:V->V->Hp->Prop}(I:Inv X pins Y H s)
    (h:ta Y H λx H1=>tb Y H1 λy H2=>R x y H2) {Q:ai->ar->Prop} {f:ai->ai->Sem ai}
    (hf:∀v u s2 x y H2,Inv X pins Y H2 s2->RelV x v->RelV y u->R x y H2->aD (aT X.prog X.w) X.A (f v u) Q X.xe s2) :
    aD (aT X.prog X.w) X.A (cy a X.env) (λv s₁=>aD (aT X.prog X.w) X.A (cy b X.env) (λu s₂=>aD (aT X.prog X.w) X.A (f v u) Q X.xe s₂) X.xe s₁) X.xe s:=by
  refine thn (ha pins s Y H _ I h) λv s1 ⟨x,H1,I1,r1,q1⟩=>?_
  refine thn (hb pins s1 Y H1 _ I1 q1) λu s2 ⟨y,H2,I2,r2,q2⟩=>?_
  exact hf v u s2 x y H2 I2 r1 r2 q2
def b0L{op:Operator}{r:R2}(ho:OpR X (eF op) r)(ha:PE X a ta)(hb:PE X b tb):PE X (.BinOp a op b pos) (tOp r ta tb):=by
  intro pins s Y H Q I h;exact wpAny_BinOp (b6h ha hb I h λv u s2 x y H2 I2 rx ry q=>ho pins s2 Y H2 x y v u Q I2 rx ry q)
def opI{f:ai->ai->Sem ai}{C:Int->Int->Prop}{g:Int->Int->Int}
    (rule:∀(i j:Int) (t u:Tok) (s:ar) (Q:ai->ar->Prop) (E:ai->ar->Prop),C i j->Q (.int (g i j) s.toks) {s with toks:=s.toks+1}->aD (aT X.prog X.w) X.A (f (.int i t) (.int j u)) Q E s) :
    OpR X f (rI C λi j=>.int (g i j)):=by
  intro pins s Y H x y v u Q I rx ry h;obtain⟨i,j,rfl,rfl,hc,q⟩:=h;obtain⟨t,rfl⟩:=rx;obtain⟨t',rfl⟩:=ry;exact rule i j t t' s _ _ hc ⟨.int (g i j),H,I.tok _,⟨_,rfl⟩,q⟩
def b8n{f:ai->ai->Sem ai}{g:Int->Int->Int}
    (rule:∀(i j:Int) (t u:Tok) (s:ar) (Q:ai->ar->Prop) (E:ai->ar->Prop),Q (.int (g i j) s.toks) {s with toks:=s.toks+1}->aD (aT X.prog X.w) X.A (f (.int i t) (.int j u)) Q E s) :
    OpR X f (rI0 λi j=>.int (g i j)):=by
  intro pins s Y H x y v u Q I rx ry h;obtain⟨i,j,rfl,rfl,q⟩:=h;obtain⟨t,rfl⟩:=rx;obtain⟨t',rfl⟩:=ry;exact rule i j t t' s _ _ ⟨.int (g i j),H,I.tok _,⟨_,rfl⟩,q⟩
def b6i{f:ai->ai->Sem ai}{g:Int->Int->Bool}
    (rule:∀(i j:Int) (t u:Tok) (s:ar) (Q:ai->ar->Prop) (E:ai->ar->Prop),Q (.bool (g i j)) s->aD (aT X.prog X.w) X.A (f (.int i t) (.int j u)) Q E s) :
    OpR X f (rI0 λi j=>.bl (g i j)):=by
  intro pins s Y H x y v u Q I rx ry h;obtain⟨i,j,rfl,rfl,q⟩:=h;obtain⟨t,rfl⟩:=rx;obtain⟨t',rfl⟩:=ry;exact rule i j t t' s _ _ ⟨.bl (g i j),H,I,rfl,q⟩
def b9V(i j:Int):Prop:=0<j/\j<1073741824
def b9W(i j:Int):Prop:=0<=j/\j<=1000000/\i.natAbs<2^64
def CMul(i j:Int):Prop:=(-(2^64)<i/\i<2^64)\/(-(2^64)<j/\j<2^64)
def CMul.ok{i j:Int}(h:CMul i j):IntMulOk i j:=by
  rcases h with⟨h1,h2⟩|⟨h1,h2⟩
  . exact .of_left (intBits_le_64 h1 h2)
  . exact .of_right (intBits_le_64 h1 h2)
def b6j:OpR X (eF .Add) (rI0 λi j=>.int (i+j)):=b8n λ_ _ _ _ _ _ _ q=>add_int q
def b6k:OpR X (eF .Sub) (rI0 λi j=>.int (i-j)):=b8n λ_ _ _ _ _ _ _ q=>sub_int q
def b6l:OpR X (eF .Mult) (rI CMul λi j=>.int (i*j)):=opI λ_ _ _ _ _ _ _ hc q=>mul_int q hc.ok
def b3w:OpR X (eF .FloorDiv) (rI b9V λi j=>.int (i / j)):=opI λi j _ _ _ _ _ hc q=>by
  have h1:(0:Int)<j:=hc.1;have h2:j<1073741824:=hc.2;exact floordiv_int (by omega) (by rw[Int.fdiv_eq_ediv_of_nonneg i (by omega)];exact q) (.inl (PyProof.noPylong_small (by omega)))
def b6m:OpR X (eF .Mod) (rI (λ_ j=>0<j) λi j=>.int (i % j)):=opI λi j _ _ _ _ _ hc q=>by
  have h1:(0:Int)<j:=hc;exact mod_int' (by omega) (by rw[Int.fmod_eq_emod_of_nonneg i (by omega)];exact q)
def b6n:OpR X (eF .Pow) (rI b9W λi j=>.int (i^j.toNat)):=opI λ_ _ _ _ _ _ _ hc q=>pow_int_small hc.1 hc.2.1 hc.2.2 q
def b0M(I:Inv X pins Y H s)(q:Q (.bl k) H)(e:k=k'):EP X pins Y Q (.bool k') s:=by
  subst e;exact⟨.bl k,H,I,rfl,q⟩
def b8o:OpR X (bQ .Lt) (rI0 λi j=>.bl (decide (i<j))):=b6i λ_ _ _ _ _ _ _ q=>lt_int q
def b8p:OpR X (bQ .LtE) (rI0 λi j=>.bl (decide (i<=j))):=b6i λ_ _ _ _ _ _ _ q=>le_int q
def b8q:OpR X (bQ .Gt) (rI0 λi j=>.bl (decide (j<i))):=b6i λ_ _ _ _ _ _ _ q=>gt_int q
def b6o:OpR X (bQ .Is) (λx y H Q=>y=.non/\Q (.bl (decide (x=.non))) H):=by
  intro pins s Y H x y v u Q I rx ry h;obtain⟨rfl,q⟩:=h;cases ry
  refine is_none_gen (b0M I q ?_);cases x<;>first
    | (cases rx;rfl)
    | (obtain⟨t,rfl⟩:=rx;rfl)
def b3x:OpR X (bQ .IsNot) (λx y H Q=>y=.non/\Q (.bl (!decide (x=.non))) H):=by
  intro pins s Y H x y v u Q I rx ry h;obtain⟨rfl,q⟩:=h;cases ry
  refine isnot_none_gen (b0M I q ?_);cases x<;>first
    | (cases rx;rfl)
    | (obtain⟨t,rfl⟩:=rx;rfl)
def Z9(b:Expr)(h:op≠.In:=by decide)(h2:op≠.NotIn:=by decide):et op b=rp:=by
  have e1:(op==CmpOp.In)=rp:=by cases op<;>first|rfl|exact absurd rfl h
  have e2:(op==CmpOp.NotIn)=rp:=by cases op<;>first|rfl|exact absurd rfl h2
  cases b<;>simp[et,e1,e2]
def a8i{op:CmpOp}{r:R2}(ho:OpR X (bQ op) r)(ha:PE X a ta)(hb:PE X b tb)(hm:et op b=rp):PE X (.Compare a [op] [b] pos) (tOp r ta tb):=by
  intro pins s Y H Q I h;exact wpAny_Compare1 (b6h ha hb I h λv u s2 x y H2 I2 rx ry q=>ho pins s2 Y H2 x y v u Q I2 rx ry q) hm
def b0N(t:TE):TT:=λY H Q=>t Y H λx H'=>∃k,x=.bl k/\Q k H'
def a0p(ho:OpR X (bQ op) r)(ha:PE X a ta)(hb:PE X b tb)(hm:et op b=rp):PT X (.Compare a [op] [b] pos) (b0N (tOp r ta tb)):=by
  intro pins s Y H Q I h;refine wpAny_isTrue_Compare1 (thn (ha pins s Y H _ I h) λv s1 ⟨x,H1,I1,r1,q1⟩=>thn (hb pins s1 Y H1 _ I1 q1) λu s2 ⟨y,H2,I2,r2,q2⟩=>
    thn (ho pins s2 Y H2 x y v u _ I2 r1 r2 q2) λc s3 ⟨z,H3,I3,r3,k,e,q3⟩=>?_) hm
  subst e;cases r3
  exact dD ⟨H3,I3,q3⟩
def b0O(r r':R2)(ta tb tc:TE):TE:=λY H Q=>ta Y H λx H1=>tb Y H1 λy H2=>r x y H2 λz H3=>∃k,z=.bl k/\
  (if k=p4 then tc Y H3 λw' H4=>r' y w' H4 Q else Q (.bl rp) H3)
def b0P(ho:OpR X (bQ op) r)(mW:OpR X (bQ oF) r')(ha:PE X a ta)(hb:PE X b tb)(hc:PE X c tc)
    (hm:Ad [op,oF] [b,c]=rp:=by with_unfolding_all rfl):PE X (.Compare a [op,oF] [b,c] pos) (b0O r r' ta tb tc):=by
  intro pins s Y H Q I h;refine Compare_chain (thn (ha pins s Y H _ I h) λv s1 ⟨x,H1,I1,r1,q1⟩=>chain_link (thn (hb pins s1 Y H1 _ I1 q1) λu s2 ⟨y,H2,I2,r2,q2⟩=>
    thn (ho pins s2 Y H2 x y v u _ I2 r1 r2 q2) λd s3 ⟨z,H3,I3,r3,k,e,q3⟩=>?_)) hm
  subst e;cases r3
  refine dD ?_;cases k with
  |false=>exact ite_ff ⟨.bl rp,H3,I3,rfl,q3⟩
  |true=>exact ite_tt (chain_last (thn (hc pins s3 Y H3 _ I3 q3) λw' s4 ⟨z',H4,I4,r4,q4⟩=>mW pins s4 Y H4 y z' u w' Q I4 r2 r4 q4))
def b0Q(ho:OpR X (bQ op) r)(mW:OpR X (bQ oF) r')(ha:PE X a ta)(hb:PE X b tb)(hc:PE X c tc)
    (hm:Ad [op,oF] [b,c]=rp:=by with_unfolding_all rfl):PT X (.Compare a [op,oF] [b,c] pos) (b0N (b0O r r' ta tb tc)):=by
  intro pins s Y H Q I h;refine isTrue_chain (thn (ha pins s Y H _ I h) λv s1 ⟨x,H1,I1,r1,q1⟩=>test_link (thn (hb pins s1 Y H1 _ I1 q1) λu s2 ⟨y,H2,I2,r2,q2⟩=>
    thn (ho pins s2 Y H2 x y v u _ I2 r1 r2 q2) λd s3 ⟨z,H3,I3,r3,k,e,q3⟩=>?_)) hm
  subst e;cases r3
  refine dD ?_;cases k with
  |false=>
    obtain⟨k',e',q'⟩:=q3;cases e'
    exact ite_ff ⟨H3,I3,q'⟩
  |true=>
    refine ite_tt (test_last (thn (hc pins s3 Y H3 _ I3 q3) λw' s4 ⟨z',H4,I4,r4,q4⟩=>thn (mW pins s4 Y H4 y z' u w' _ I4 r2 r4 q4) λd' s5 ⟨z2,H5,I5,r5,k2,e2,q5⟩=>?_));subst e2;cases r5
    exact dD ⟨H5,I5,q5⟩
def b6p(K:af)(x:V)(H:Hp)(k:Bool):Prop:=
  match x with
  |.non=>k=rp
  |.bl b=>k=b
  |.int i=>k=(i !=0)
  |.str y=>y.length<=aP/\k=((y.length:Int)!=0)
  |.byt y=>y.size<=aP/\k=((y.size:Int)!=0)
  |.ref p=>(∃xs,SqL K H p xs/\k=!xs.isEmpty)\/(∃xs,SqT K H p xs/\k=!xs.isEmpty)\/∃kvs,H p=cz (.dK kvs)/\k=!kvs.isEmpty
  |_=>False
def a6P{κ:Type}{kvs:List (κ×V)}{vs:List (κ×ai)}(r:KV kvs vs):(!vs.isEmpty)=!kvs.isEmpty:=by
  cases r<;>rfl
def a2o{xs:List V}{cK:List ai}(r:Vals xs cK):(!cK.toArray.isEmpty)=!xs.isEmpty:=by
  cases r<;>simp
def a2p:(aP:Nat)<2^63:=by rw[cM];decide
def b6q:b9U X (λx H Q=>∃k,b6p X.K x H k/\Q k H):=by
  intro pins s Y H x v Q I rx h;obtain⟨k,e,q⟩:=h;have hl:=a2p;have hs:aP=16777216:=cM;cases x with
  |non=>
    cases rx
    have e':k=rp:=e;subst e';exact truthy_none ⟨H,I,q⟩
  |bl b=>
    cases rx
    have e':k=b:=e;subst e';exact dD ⟨H,I,q⟩
  |int i=>
    obtain⟨t,rfl⟩:=rx;have e':k=(i !=0):=e;subst e';exact PySem.P.truthy_int ⟨H,I,q⟩
  |str y=>
    obtain⟨t,rfl⟩:=rx;obtain⟨hy,e'⟩:y.length<=aP/\k=((y.length:Int)!=0):=e;subst e';exact PySem.P.truthy_str (by omega) ⟨H,I.tok _,q⟩
  |byt y=>
    obtain⟨t,rfl⟩:=rx;obtain⟨hy,e'⟩:y.size<=aP/\k=((y.size:Int)!=0):=e;subst e';exact PySem.W.truthy_bytes (by omega) ⟨H,I.tok _,q⟩
  |ref p=>
    cases rx
    have e':(∃xs,SqL X.K H p xs/\k=!xs.isEmpty)\/(∃xs,SqT X.K H p xs/\k=!xs.isEmpty)\/∃kvs,H p=cz (.dK kvs)/\k=!kvs.isEmpty:=e;rcases e' with⟨xs,hx,e'⟩|⟨xs,hx,e'⟩|⟨kvs,hx,e'⟩
    . subst e'
      obtain⟨cK,r,pl,hz⟩:=I.list hx;have hlen:=r.length;exact wpAny_truthy_list pl.isList (by simp only[bo];omega) ⟨H,I.tok _,by rw[a2o r];exact q⟩
    . subst e'
      obtain⟨cK,r,pl,hz⟩:=I.tuple hx;have hlen:=r.length;exact truthy_tuple pl (by simp only[bo];omega) ⟨H,I.tok _,by rw[a2o r];exact q⟩
    . subst e'
      obtain⟨hz,hS,vs,r,m⟩:kvs.length<=aP/\(p==cN)=rp/\∃vs,KV kvs vs/\s.heap.DictOf (a4I X.prog X.w) p vs:=I.hok p _ hx;have hlen:kvs.length=vs.length:=dw r;exact wpAny_truthy_dict hS m (by omega) ⟨H,I.tok _,by rw[a6P r];exact q⟩
  |_=>exact (show False from e).elim
def b0R(ha:PE X a ta)(he:∀whole,rd a X.env whole=(do let v <-whole;standAt a.pos;nG [v] (uJ v))) :
    PT X a (λY H Q=>ta Y H λx H'=>∃k,b6p X.K x H' k/\Q k H'):=by
  intro pins s Y H Q I h;exact isTrue_plain (thn (ha pins s Y H _ I h) λv s1 ⟨x,H1,I1,r1,q1⟩=>b6q pins s1 Y H1 x v Q I1 r1 q1) (he _)
def vals1(r:Vals [x] us):∃u,us=[u]/\RelV x u:=by
  cases r with
  |cons r1 r2=>cases r2;exact⟨_,rfl,r1⟩
def vals2(r:Vals [x,y] us):∃u w',us=[u,w']/\RelV x u/\RelV y w':=by
  cases r with
  |cons r1 r2=>
    cases r2 with
    |cons r3 r4=>cases r4;exact⟨_,_,rfl,r1,r3⟩
end
structure ObjM (h:bR) (x dx C:av) (mA:bH->Option ai):Prop where
  obj:h.get? x=cz (oR C dx)
  ns:h.Ns1 dx mA
  ne:dx≠x
def a9e{h:bR}(n:h.Ns1 dx mA):∃od,h.get? dx=cz od/\∀name,qz name od=cz (mA name):=by
  obtain⟨o,es,ep,ho,hd,hk,_,hm⟩:=n;refine⟨o,ho,λname=>?_⟩;have e:=hm name;unfold nsFind findBy at e;rw[<-Array.find?_toList]at e;unfold qz;rw[hd]
  dsimp only
  split
  . rename_i y q
    rw[q]at e;exact eE cz e
  . rename_i q
    rw[q]at e;have a:es.toList.any (·.refKey)=rp:=by
      rw[cx];intro y hy;obtain⟨z,t,jn⟩:=hk y (dI.mp hy);simp[eQ.refKey,jn]
    have a':¬ es.toList.any (·.refKey)=p4:=by rw[a];exact aS
    rw[aL a'];exact eE cz e
def ObjM.look(I:ObjM h x dx C mA):∃od,PySem.W.InstAt h x (oR C dx) C (cz od)/\∀name,qz name od=cz (mA name):=
  let⟨od,ho,hl⟩:=a9e I.ns
  ⟨od,⟨I.obj,rfl,rfl,ho⟩,hl⟩
section
variable {P:bw}{w:bO}{H H':Hp}{h h':bR}{a C dx:av}{fs jW:List (bH×V)}
def b3y(hok:HOk P w H h)(e:H a=cz (.ins C dx fs)):∃mA,ObjM h a dx C mA/\(∀f,b5U (fs.lookup f) (mA f))/\PySem.Within mA (fs.map (·.1))/\fs.length<=1000/\H dx=cz (.own a):=by
  obtain⟨d,z,ne,ob,mA,n,r,q⟩:=(show ObjOk P w H h a (.ins C dx fs) from hok a _ e);exact⟨mA,⟨ob,n,ne⟩,r,q,z,d⟩
end
structure Cls (K:af) (C:av):Prop where
  pg:Fz K C bH.empty=p4
  hd:PySem.W.hasDictIn K C=p4
  po:PySem.W.plainOver K C=p4
  sa:jA K (.ref C) "__setattr__"=cz (cz (.builtin "object.__setattr__"))
def Cls.get{K:af}{C:av}(c:Cls K C)(f:bH):Fz K C f=p4:=c.pg
structure Con (K:af) (C:av) (f:bH) (v:V) (u:ai):Prop where
  at_:jA K (.ref C) f=cz (cz u)
  rel:RelV v u
  get:BC K u "__get__"=cz el
  cp:PySem.W.copiedNames.contains f=rp
structure Meth (K:af) (C:av) (m:bH) (f:av):Prop where
  at_:jA K (.ref C) m=cz (cz (.ref f))
  fn:PySem.W.isFn K (.ref f)=p4
  kp:fK K (.ref f)=p4
section
variable {X:Cx}{pins:List (av×fD)}{Y:St}{H:Hp}{s:ar}{A:bC}{E:ai->ar->Prop}{Q:ai->ar->Prop}{c:ai}{b:Bool}
inductive TyOf (K:af) (H:Hp):V->ai->Prop where
  |non:TyOf K H .non (.type "NoneType")
  |bl (x:Bool):TyOf K H (.bl x) (.type "bool")
  |int (i:Int):TyOf K H (.int i) (.type "int")
  |str (x:bH):TyOf K H (.str x) (.type "str")
  |flt (x:UInt64):TyOf K H (.flt x) (.type "float")
  |lst {a:av} {xs:List V} (e:H a=cz (.lst xs)):TyOf K H (.ref a) (.type "list")
  |frz {a:av} {o:fD} {xs:List V} (e:H a=cz (.frz o (.lst xs))):TyOf K H (.ref a) (.type "list")
  |tup {a:av} {xs:List V} (e:H a=cz (.tup xs)):TyOf K H (.ref a) (.type "tuple")
  |dK {a:av} {kvs:List (Key×V)} (e:H a=cz (.dK kvs)):TyOf K H (.ref a) (.type "dict")
  |dT {a:av} {kvs:List (List Key×V)} (e:H a=cz (.dT kvs)):TyOf K H (.ref a) (.type "dict")
  |ins {a C dx:av} {fs:List (bH×V)} (e:H a=cz (.ins C dx fs)) (cl:Cls K C) (ha:jA K (.ref C) "__class__"=cz (cz (.builtin "object.__class__")))
      (hn:BC K (.builtin "object.__class__") "__get__"=cz (cz (.builtin "getset_descriptor.__get__"))) (Am:PySem.W.takesIn K (.builtin "object.__class__")=cz p4)
      (hm:PySem.W.mroIn K C (.type "object")=cz p4):TyOf K H (.ref a) (.ref C)
def a9f(I:Inv X pins Y H s)(rx:RelV x u)(ty:TyOf X.K H x t)(e:ei X.K t c=cz b)(h:∀tk,Q (.bool b) {s with toks:=tk}) :
    aD (aT X.prog X.w) A (call (.builtin "isinstance") [u,c]) Q E s:=by
  cases ty with
  |non=>cases (show u=cj from rx);exact cJ PySem.W.kitx_none I.kIn jz e (λz=>nomatch z) h
  |bl y=>cases (show u=jq y from rx);exact cJ PySem.W.kitx_bool I.kIn jz e (λz=>nomatch z) h
  |int i=>obtain⟨t,q⟩:=(show ∃t,u=jo i t from rx);cases q;exact cJ PySem.W.kitx_int I.kIn jz e (λz=>nomatch z) h
  |str y=>obtain⟨t,q⟩:=(show ∃t,u=rK y t from rx);cases q;exact cJ PySem.W.kitx_str I.kIn jz e (λz=>nomatch z) h
  |flt y=>obtain⟨t,q⟩:=(show ∃t,u=ai.float y t from rx);cases q;exact cJ PySem.W.kitx_float I.kIn jz e (λz=>nomatch z) h
  |@lst a xs ea=>
    cases (show u=a_ a from rx)
    obtain⟨_,_,n,_,h1⟩:=(show ObjOk X.prog X.w H s.heap a (.lst xs) from I.hok a _ ea);exact cJ nq I.kIn ⟨_,h1,rfl⟩ e (λz=>nomatch z) h
  |@frz a ob xs ea=>
    cases (show u=a_ a from rx)
    obtain⟨_,_,_,n,_,h1⟩:=(show ObjOk X.prog X.w H s.heap a (.frz ob (.lst xs)) from I.hok a _ ea);exact cJ nq I.kIn ⟨_,h1,rfl⟩ e (λz=>nomatch z) h
  |@tup a xs ea=>
    cases (show u=a_ a from rx)
    obtain⟨_,_,_,p⟩:=(show ObjOk X.prog X.w H s.heap a (.tup xs) from I.hok a _ ea);obtain⟨o,h1,h2,_⟩:=p;exact cJ zF I.kIn ⟨o,h1,h2⟩ e (λz=>nomatch z) h
  |@dK a kvs ea=>
    cases (show u=a_ a from rx)
    obtain⟨_,_,vs,_,p⟩:=(show ObjOk X.prog X.w H s.heap a (.dK kvs) from I.hok a _ ea);obtain⟨o,es,ep,h1,h2,_⟩:=p;exact cJ nr I.kIn ⟨o,h1,h2.1⟩ e (λz=>nomatch z) h
  |@dT a kvs ea=>
    cases (show u=a_ a from rx)
    obtain⟨_,_,xs,_,o,es,ep,h1,h2,_⟩:=(show ObjOk X.prog X.w H s.heap a (.dT kvs) from I.hok a _ ea);exact cJ nr I.kIn ⟨o,h1,h2.1⟩ e (λz=>nomatch z) h
  |@ins a C dx fs ea cl ha hn Am hm=>
    cases (show u=a_ a from rx)
    obtain⟨mA,O,_⟩:=b3y I.hok ea;obtain⟨od,J,_⟩:=O.look;exact cJ (PySem.W.kitx_own (cl.get _) cl.hd ha hn Am hm) I.kIn J e (λz=>nomatch z) h
end
structure Room (k:Nat) (A:bC):Prop where
  hd:A.handled=el
  dp:A.depth+3*k+5<recursionLimit
  un:A.units+16*k+500<dq
def Room.mono(r:Room k A)(h:j<=k):Room j A:=⟨r.hd,by have:=r.dp;omega,by have:=r.un;omega⟩
theorem Room.deeper(r:Room (k+1) A)(env:ox):Room k (A.deeper env):=
  ⟨r.hd,by have:=r.dp;show A.depth+1+3*k+5<_;omega,by have:=r.un;show A.units+3+16*k+500<_;omega⟩
theorem Room.depth(r:Room k A):A.depth<recursionLimit:=by have:=r.dp;omega
theorem Room.units(r:Room k A):A.units+464<dq:=by have:=r.un;omega
def b9X:TA:=λ_ H Q=>Q [] H
def b8r(ta:TE)(tr:TA):TA:=λY H Q=>ta Y H λx H1=>tr Y H1 λxs H2=>Q (x::xs) H2
section
variable {X:Cx}{e:Expr}{es:List Expr}{te:TE}{t:TA}{pos:eM}
def s9:PA X [] b9X:=λ_ _ _ _ H Q I h=>Calls.spliced_nil ⟨[],H,I,.nil,h⟩
def m5(ha:PE X e te)(hr:PA X es t)(hs:ax (e::es) X.env=(rp,cy e X.env)::ax es X.env:=by rfl):PA X (e::es) (b8r te t):=by
  intro pos pins s Y H Q I h;rw[hs];show aD _ _ (spliced ((rp,cy e X.env)::cB pos (ax es X.env))) _ _ s;refine Calls.spliced_cons (thn (ha pins s Y H _ I h) λu s1 ⟨x,H1,I1,r1,q1⟩=>?_);exact thn (hr pos pins s1 Y H1 _ I1 q1) λus s2 ⟨xs,H2,I2,r2,q2⟩=>⟨x::xs,H2,I2,.cons r1 r2,q2⟩
def b9Y(t:TA):TE:=λY H Q=>t Y H λxs H1=>xs.length<=aP/\∀p,H1 p=el->Q (.ref p) (upd H1 p (.tup xs))
def b9Z(t:TA):TE:=λY H Q=>t Y H λxs H1=>xs.length<=aP/\∀p,H1 p=el->Q (.ref p) (upd H1 p (.lst xs))
def a6Q{x1}(h:PA X es t):PE X (.Tuple es x1 pos) (b9Y t):=by
  intro pins s Y H Q I hq;refine wpAny_Tuple_spliced (thn (h pos pins s Y H _ I hq) λus s1 ⟨xs,H1,I1,r,z,q⟩=>⟨by rw[<-r.length];exact z,?_⟩);have hf:H1 s1.heap.objs.size=el:=I1.hok.fresh (aB _);refine⟨.ref s1.heap.objs.size,upd H1 s1.heap.objs.size (.tup xs),I1.laid (t':=s1.toks) (λb u e=>ag _ e) (aB _) ?_,rfl,q _ hf⟩;exact⟨z,us,r,⟨_,aE _ rfl,rfl,_,rfl⟩⟩
def b6r(h:PA X es t):PE X (.List es pos) (b9Z t):=by
  intro pins s Y H Q I hq;refine wpAny_List_spliced (thn (h pos pins s Y H _ I hq) λus s1 ⟨xs,H1,I1,r,z,q⟩=>⟨by rw[<-r.length];exact z,?_⟩);have hf:H1 s1.heap.objs.size=el:=I1.hok.fresh (aB _);refine⟨.ref s1.heap.objs.size,upd H1 s1.heap.objs.size (.lst xs),I1.laid (t':=s1.toks) (λb u e=>ag _ e) (aB _) ?_,rfl,q _ hf⟩;exact⟨z,us,0,r,aE _ rfl⟩
end
abbrev Sp:=List V->Hp->VK->XK->Prop
abbrev CXT:=List ox->Hp->ar->XK->ai->ar->Prop
structure Env0 (P:bw) (w:bO) (K:af) (mg:bH->Option ai) (base:bR) (A:bC) (outer:List ox) (s:ar) (H:Hp):Prop where
  frames:A.frames=cz outer
  mod:Mod K mg base
  bs:∀b o,base.get? b=cz o->s.heap.get? b=cz o/\H b=el
  bsz:base.objs.size<=s.heap.objs.size
  funs:s.heap.FunFrames base outer
  frf:∀b∈frs outer,H b=el
  hok:HOk P w H s.heap
  bare:oy s.gens
  tabs:TabsIn K H
def CE(outer:List ox)(P:bw)(w:bO)(H:Hp)(s:ar)(Q:VK)(u:ai)(s':ar):Prop:=
  ∃v H',s'.os=s.os/\oy s'.gens/\Un (frs outer) [] H H' s.heap s'.heap/\HOk P w H' s'.heap/\RelV v u/\Q v H'
def CR(CX:CXT)(outer:List ox)(P:bw)(w:bO)(H:Hp)(s:ar)(Q:VK)(E:XK)(r:Fy)(s':ar):Prop:=
  match r with
  |.ok (.ret u)=>CE outer P w H s Q u s'
  |.ok _=>False
  |.error e=>CX outer H s E e s'
structure FnOk (P:bw) (w:bO) (K:af) (mg:bH->Option ai) (base:bR) (CX:CXT) (k:Nat) (f:av) (fd:dB) (ps:List bH) (sp:Sp):Prop where
  len:∀vs H Q E,sp vs H Q E->vs.length=ps.length
  run:∀(A:bC) (outer:List ox) (s:ar) (H:Hp) (args:Args) (us:List ai) (vs:List V) (Q:VK) (E:XK),Room k A->Env0 P w K mg base A outer s H->nK s fd args (ps.zip us)->Vals vs us->sp vs H Q E->
    gH (aT P w) A (.call (.ref f) args) (CR CX outer P w H s Q E) s
theorem FnOk.mono{P:bw}{w:bO}{K:af}{mg:bH->Option ai}{base:bR}{CX:CXT}{j k:Nat}{f:av}{fd:dB}{ps:List bH}{sp:Sp}(F:FnOk P w K mg base CX j f fd ps sp)(h:j<=k) :
    FnOk P w K mg base CX k f fd ps sp:=⟨F.len,λA outer s H args us vs Q E hr=>F.run A outer s H args us vs Q E (hr.mono h)⟩
section
variable {X:Cx}{pins:List (av×fD)}{Y:St}{H:Hp}{s s':ar}
def Inv.env0(I:Inv X pins Y H s):Env0 X.prog X.w X.K X.mg X.base X.A X.stack s H:=
  ⟨I.ok.frames,I.ok.mod,I.bs,bV I.ok.bsz I.sz,I.stack,I.stkFree,I.hok,I.bare,I.tabs⟩
def Inv.after(I:Inv X pins Y H s)(h:CE X.stack X.prog X.w H s Q u s'):EP X pins Y Q u s':=by
  obtain⟨v,H',os,bare,un,hok,r,q⟩:=h;obtain⟨hh,g,d,t,xU⟩:=s';obtain rfl:xU=s.os:=os;exact⟨v,H',I.call (h':=hh) (g':=g) (d':=d) (t':=t) (ch:=[]) un hok bare (λb z=>absurd z (by simp)),r,q⟩
end
def b5r(sp:Sp)(sD:List V)(E:XK)(t:TA):TE:=λY H Q=>t Y H λvs H1=>sp (vs++sD) H1 Q E
def Binds(K:af)(fd:dB)(ps:List bH)(ds:List ai):Prop:=
  ∀(s:ar) (us:List ai),K.In s.heap->(us++ds).length=ps.length->nK s fd ⟨us,[]⟩ (ps.zip (us++ds))
def Binds.all{K:af}{fd:dB}{ps:List bH}(h:∀us:List ai,us.length=ps.length->qu fd ⟨us,[]⟩=pure (ps.zip us)):Binds K fd ps []:=λs us _ hl=>by
  rw[bz]at hl ⊢;exact .of_eq (h us hl)
def a6R(CX:CXT)(X:Cx)(E:XK):Prop:=∀(pins:List (av×fD)) (Y:St) (H:Hp) (s:ar) (e:ai) (s':ar),Inv X pins Y H s->CX X.stack H s E e s'->X.xe e s'
section
variable {X:Cx}{CX:CXT}{k:Nat}{f C:av}{fd:dB}{ps:List bH}{sp:Sp}{sD:List V}{ds:List ai}{E:XK}{x m:bH}{p pos apos:eM}{e o:Expr}{es:List Expr}{ta:TE}{t:TA}
def b6s(F:FnOk X.prog X.w X.K X.mg X.base CX k f fd ps sp)(hr:Room k X.A)(hb:Binds X.K fd ps ds)(hd:Vals sD ds)(hx:a6R CX X E)
    (I:Inv X pins Y H s) (r:Vals vs us) (h:sp (vs++sD) H Q E):aD (aT X.prog X.w) X.A (call (.ref f) us) (EP X pins Y Q) X.xe s:=by
  have r2:Vals (vs++sD) (us++ds):=r.append hd;have hl:(us++ds).length=ps.length:=by rw[<-r2.length];exact F.len _ _ _ _ h
  refine uH (fG (F.run X.A X.stack s H ⟨us,[]⟩ (us++ds) (vs++sD) Q E hr I.env0 (hb s us I.kIn hl) r2 h) λr s' hq=>?_);cases r with
  |error e=>exact hx pins Y H s e s' I hq
  |ok fl=>
    cases fl with
    |ret u=>exact I.after hq
    |next=>exact cG hq
    |brk=>exact cG hq
    |cont=>exact cG hq
def b3z(F:FnOk X.prog X.w X.K X.mg X.base CX k f fd ps sp)(hr:Room k X.A)(hg:Gl X x)(hm:X.mg x=cz (.ref f))(hk:fK X.K (.ref f)=p4)(hb:Binds X.K fd ps ds)(hd:Vals sD ds)(hx:a6R CX X E)
    (ha:PA X (e::es) t) (lW:(x==("__debug__":bH))=rp:=by decide) (he:ax (e::es) X.env=(rp,cy e X.env)::ax es X.env:=by rfl) (fV:(cB pos (ax es X.env)).any (·.1)=rp:=by rfl) :
    PE X (.Call (.Name x p) (e::es) [] pos) (b5r sp sD E t):=by
  intro pins s Y H Q I h;refine fq (a4L I hg hm ?_ lW);refine zG (h₀:=X.base) I.ok.mod.kin hk (thn (ha pos pins s Y H _ I h) λus s1 ⟨vs,H1,I1,r,q⟩=>⟨I1.kIn,?_⟩) he fV;exact b6s F hr hb hd hx I1 r q
structure Mk (K:af) (C f:av):Prop where
  makes:PySem.W.makesIn K C=p4
  init:jA K (.ref C) "__init__"=cz (cz (.ref f))
  fn:PySem.W.isFn K (.ref f)=p4
  kp:fK K (.ref C)=p4
end
section
variable {X:Cx}{CX:CXT}{k:Nat}{f C:av}{fd:dB}{ps ks:List bH}{sp:Sp}{E:XK}{x m:bH}{p pos apos uW:eM}{e o:Expr}{es:List Expr}{FZ:List iQ}{te ta:TE}{t tk:TA}{nm:Option bH}
structure KBinds (K:af) (fd:dB) (ps ks:List bH) (g:List ai->List ai->List ai) (gV:List V->List V->List V):Prop where
  to:∀(s:ar) (us ws:List ai),K.In s.heap->(g us ws).length=ps.length->nK s fd ⟨us,ks.zip ws⟩ (ps.zip (g us ws))
  rel:∀{vs:List V} {us:List ai} {zs:List V} {ws:List ai},Vals vs us->Vals zs ws->Vals (gV vs zs) (g us ws)
variable {g:List ai->List ai->List ai}{gV:List V->List V->List V}
end
structure FnScope (N P:List bH) (sc:gd):Prop where
  kind:sc.kind=.function
  co:sc.isCoroutine=rp
  gen:sc.isGenerator=rp
  nd:N.Nodup
  pre:N.take P.length=P
  par:∀x∈P,sc.names.lookup x=cz .local\/sc.names.lookup x=cz .cell
  nofree:∀y∈sc.names,y.2≠.free
theorem a3N{kindOf:bH->Option iO}{x:bH}:∀{binds:List (bH×ai)} {m:bH->Option ai},(∀v,(x,v)∉binds)->By kindOf binds m x=m x
  |[],_,_=>rfl
  | (n,v)::r,m,h=>by
    unfold By;rw[a3N λw hw=>h w (ak _ hw)]
    split
    . have:x≠n:=by rintro rfl;exact h v aj
      simp[this]
    . rfl
theorem a3O{kindOf:bH->Option iO}{x:bH}:∀{binds:List (bH×ai)} {m:bH->Option ai},(∀v,(x,v)∉binds)->Bz kindOf binds m x=m x
  |[],_,_=>rfl
  | (n,v)::r,m,h=>by
    unfold Bz;rw[a3O λw hw=>h w (ak _ hw)]
    split
    . rfl
    . have:x≠n:=by rintro rfl;exact h v aj
      simp[this]
theorem a3P{kindOf:bH->Option iO}{x:bH}{v:ai}:∀{P:List bH} {vs:List ai} {i:Nat} {m:bH->Option ai},P.Nodup->P[i]?=cz x->vs[i]?=cz v->kindOf x=cz .local->
    By kindOf (P.zip vs) m x=cz v
  |[],_,_,_,_,h,_,_=>by simp at h
  |_::_,[],_,_,_,_,h,_=>by simp at h
  |p::P,w::vs,0,m,nd,h1,h2,hk=>by
    simp at h1 h2;subst h1;subst h2
    show By kindOf ((p,w)::P.zip vs) m p=_;unfold By;rw[a3N λv hv=>(br.mp nd).1 (fW hv).1,aG hk];simp
  |p::P,w::vs,i+1,m,nd,h1,h2,hk=>by
    show By kindOf ((p,w)::P.zip vs) m x=_;unfold By;exact a3P (i:=i) (br.mp nd).2 (by simpa using h1) (by simpa using h2) hk
theorem a3Q{kindOf:bH->Option iO}{x:bH}{v:ai}:∀{P:List bH} {vs:List ai} {i:Nat} {m:bH->Option ai},P.Nodup->P[i]?=cz x->vs[i]?=cz v->kindOf x≠cz .local->
    Bz kindOf (P.zip vs) m x=cz v
  |[],_,_,_,_,h,_,_=>by simp at h
  |_::_,[],_,_,_,_,h,_=>by simp at h
  |p::P,w::vs,0,m,nd,h1,h2,hk=>by
    simp at h1 h2;subst h1;subst h2
    show Bz kindOf ((p,w)::P.zip vs) m p=_;unfold Bz;rw[a3O λv hv=>(br.mp nd).1 (fW hv).1,aL hk];simp
  |p::P,w::vs,i+1,m,nd,h1,h2,hk=>by
    show Bz kindOf ((p,w)::P.zip vs) m x=_;unfold Bz;exact a3Q (i:=i) (br.mp nd).2 (by simpa using h1) (by simpa using h2) hk
def start(N:List bH)(vs:List V):St:=vs.map cz++aN (N.length-vs.length) el
def a0q(CX:CXT)(P:bw)(w:bO)(K:af)(mg:bH->Option ai)(base:bR)(N:List bH)(qual:bH)(scope:gd)(f:av)(cd:ai)(A:bC)(outer:List ox)(s:ar)(H:Hp)(E:XK):Cx where
  prog:=P
  w:=w
  K:=K
  mg:=mg
  base:=base
  A:=A.deeper (jb qual scope s.heap.objs.size f cd)
  N:=N
  s₀:=s
  H₀:=H
  env:=jb qual scope s.heap.objs.size f cd
  outer:=outer
  stack:=jb qual scope s.heap.objs.size f cd::outer
  ex:=[]
  calm:=p4
  fn:=λ_=>p4
  pn:=[]
  xe:=λe s'=>aD (aT P w) (A.deeper (jb qual scope s.heap.objs.size f cd)) (leaving (jb qual scope s.heap.objs.size f cd) e) (λ_ xR=>CX outer H s E e xR) (λe' xR=>CX outer H s E e' xR) s'
def a5z{sc:gd}(h:sc.names.lookup x=cz .cell):∃c,(cellsFrom n sc.names []).lookup x=cz c:=by
  have q:=tS sc.names n [] (.inl h);exact fC.mp q
def a9g{CX:CXT}{P:bw}{w:bO}{K:af}{mg:bH->Option ai}{base:bR}{N ps:List bH}{qual:bH}{scope:gd}{f:av}{cd:ai}{A:bC}{outer:List ox}{s s1:ar}{H:Hp}{E:XK}{us:List ai}{vs:List V}
    (S:FnScope N ps scope) (hd:A.handled=el) (e0:Env0 P w K mg base A outer s H) (hl:vs.length=ps.length) (r:Vals vs us)
    (x:InCallC s s.heap.objs.size (By (jb qual scope s.heap.objs.size f cd).kindOf (ps.zip us) λ_=>el) (cellsFrom (s.heap.objs.size+1) scope.names []) (Bz (jb qual scope s.heap.objs.size f cd).kindOf (ps.zip us) λ_=>el) s1) :
    Inv (a0q CX P w K mg base N qual scope f cd A outer s H E) [] (start N vs) H s1:=by
  have fV:ps.length<=N.length:=by have:=eE gz S.pre;rw[dY]at this;omega
  obtain⟨h1,tk,rfl,hk⟩:=x.done;have sM:∀b:av,b∉(a0q CX P w K mg base N qual scope f cd A outer s H E).ex:=λb z=>absurd (show b∈([]:List av) from z) (by simp)
  refine⟨⟨e0.mod,S.kind,rfl,rfl,aB _,λy z c h1 h2=>?_,λy hy=>?_,λy c _ h=>?_,λ_=>hd,bC.frames_deeper e0.frames,.inr ⟨rfl,rfl⟩,λb z=>absurd z (sM b),e0.bs,e0.bsz,λb _ _=>sM b,λb z=>absurd z (sM b),e0.funs,e0.frf,e0.tabs⟩,
    rfl,e0.bare,Un.kept hk,⟨_,x.toInCall.ns,λi y v h1 h2 h3=>?_⟩,λy c h=>⟨_,x.cell y c h⟩,e0.hok.fresh (aB _),λy c h=>?_,λp hp=>absurd (show p∈([]:List (av×fD)) from hp) (by simp),e0.hok.kept hk,?_⟩
  . exact name_of_addr x.apart (bZ h1) (bZ h2)
  . have hy:scope.names.lookup y=cz .cell\/scope.names.lookup y=cz .free:=hy
    rcases hy with hy|hy
    . exact a5z hy
    . exact absurd rfl (S.nofree _ (bZ hy))
  . exact dC (x.above y c (bZ h))
  . have hi:i<vs.length:=by
      unfold start at h2;by_cases hi:i<vs.length
      . exact hi
      . rw[eV (by simpa using hi)]at h2
        rw[sG]at h2
        split at h2<;>cases h2
    have ha:vs[i]?=cz v:=by
      unfold start at h2;rw[gJ (by simpa using hi),aX]at h2;cases e:vs[i]? with
      |none=>rw[e]at h2;cases h2
      |some a=>rw[e]at h2;cases h2;rfl
    obtain⟨u,hu,rv⟩:=r.get ha;have hp:ps[i]?=cz y:=by
      rw[<-S.pre,List.getElem?_take_of_lt (by omega)];exact h1
    have z_:ps.Nodup:=by rw[<-S.pre];exact S.nd.sublist (List.take_sublist _ _)
    refine⟨u,rv,?_⟩;rcases S.par y (bA hp) with k|k
    . exact .inl ⟨k,a3P z_ hp hu k⟩
    . obtain⟨c,e⟩:=a5z (n:=s.heap.objs.size+1) k
      refine .inr ⟨.inl k,c,e,?_⟩;have q:=x.cell y c e;rw[a3Q z_ hp hu (by show scope.names.lookup y≠_;rw[k];decide)]at q;exact q
  . exact e0.hok.fresh (dC (x.above y c (bZ h)))
  . unfold start
    show _=N.length;rw[aV,ah,fZ];omega
def b5s{CX:CXT}{P:bw}{w:bO}{K:af}{mg:bH->Option ai}{base:bR}{k:Nat}{f:av}{name qual:bH}{params:lM}{body:List g_}{scope:gd}{dV kV doc pm gg ct oc:ai}{an od:Option av}
    {oE:Array (Option ai)} {N ps:List bH} {sp:Sp} (lk:K.lookup f=cz ⟨oc,od,.func (fS name qual params body scope dV kV doc pm an gg ct),oE⟩) (nI:lI K gg qual=p4) (S:FnScope N ps scope)
    (len:∀vs H Q E,sp vs H Q E->vs.length=ps.length)
    (pZ:∀(A:bC) (outer:List ox) (s:ar) (H:Hp) (vs:List V) (Q:VK) (E:XK),Room k (A.deeper (jb qual scope s.heap.objs.size f gg))->sp vs H Q E->
      ∃t,PSs (a0q CX P w K mg base N qual scope f gg A outer s H E) body t/\t {nx:=λ_ H'=>Q .non H',rt:=Q} (start N vs) H) :
    FnOk P w K mg base CX (k+1) f (fS name qual params body scope dV kV doc pm an gg ct) ps sp:=by
  refine⟨len,λA outer s H args us vs Q E hr e0 hb r pM=>?_⟩;have hl:=len _ _ _ _ pM;have KX:K.In s.heap:=e0.mod.kin.keeps λb o e=>(e0.bs b o e).1
  have lim:s.heap.NoLimit:=e0.mod.nolimit.keeps λb o e=>(e0.bs b o e).1
  have vC:∀y∈ps.zip us,scope.names.lookup y.1=cz .local\/(scope.names.lookup y.1=cz .cell/\((cellsFrom (s.heap.objs.size+1) scope.names []).lookup y.1).isSome=p4):=λ⟨n,v⟩ hy=>by
    rcases S.par n (fW hy).1 with q|q
    . exact .inl q
    . exact .inr ⟨q,tS _ _ _ (.inl q)⟩
  refine codeAny_call_function hr.depth (KX _ _ lk) rfl S.co S.gen rfl (PySem.W.codeRec_of KX nI) (hb _ _ _ _ ?_);refine wpAny_newFunctionEnv_cells S.kind vC λenv he s1 x=>?_
  subst he;refine⟨lim.keeps x.toInCall.keep,codeAny_func ?_⟩;obtain⟨t,ht,hq⟩:=pZ A outer s H vs Q E (hr.deeper _) pM;have I:Inv (a0q CX P w K mg base N qual scope f gg A outer s H E) [] (start N vs) H s1:=a9g S hr.hd e0 hl r x;refine c_ (ht [] s1 (start N vs) H _ I hq) (λfl s' hs=>?_) λe s' hs=>hs
  have fin:∀{Y':St} {H':Hp} {v:V} {u:ai},Inv (a0q CX P w K mg base N qual scope f gg A outer s H E) [] Y' H' s'->RelV v u->Q v H'->CE outer P w H s Q u s':=
    λ{Y' H' v u} J rv q=>⟨v,H',J.os,J.bare,J.base,J.hok,rv,q⟩
  cases fl with
  |ret u=>
    obtain⟨v,Y',H',J,rv,q⟩:=hs;exact fin J rv q
  |next=>
    obtain⟨Y',H',J,q⟩:=hs;exact fin (v:=V.non) (u:=cj) J rfl q
  |brk=>
    obtain⟨_,_,_,q⟩:=hs;exact cG q
  |cont=>
    obtain⟨_,_,_,q⟩:=hs;exact cG q
section
variable {X:Cx}{x:bH}{p pos:eM}{e:Expr}{es:List Expr}{t:TA}{id T:String}{r:List V->Hp->VK->Prop}
def tCB(r:List V->Hp->VK->Prop)(t:TA):TE:=λY H Q=>t Y H λvs H1=>r vs H1 Q
def V3(hc:CallR X (.builtin id) r)(hg:Gl X x)(hm:X.mg x=el)(hv:gh x=cz (.builtin id))(ha:PA X (e::es) t)(hn:x≠"__name__":=by decide)(lW:(x==("__debug__":bH))=rp:=by decide)
    (he:ax (e::es) X.env=(rp,cy e X.env)::ax es X.env:=by rfl) (fV:(cB pos (ax es X.env)).any (·.1)=rp:=by rfl):PE X (.Call (.Name x p) (e::es) [] pos) (tCB r t):=by
  intro pins s Y H Q I h;refine fq (Z8 I hg hm hv ?_ hn lW);exact PyProof.Rows.callWith_builtin1 (thn (ha pos pins s Y H _ I h) λus s1 ⟨vs,H1,I1,r1,q1⟩=>hc pins s1 Y H1 vs us Q I1 r1 q1) he fV
def E5(hc:CallR X (.type T) r)(hg:Gl X x)(hm:X.mg x=el)(hv:gh x=cz (.type T))(ha:PA X (e::es) t)(hn:x≠"__name__":=by decide)(lW:(x==("__debug__":bH))=rp:=by decide)
    (he:ax (e::es) X.env=(rp,cy e X.env)::ax es X.env:=by rfl) (fV:(cB pos (ax es X.env)).any (·.1)=rp:=by rfl):PE X (.Call (.Name x p) (e::es) [] pos) (tCB r t):=by
  intro pins s Y H Q I h;refine fq (Z8 I hg hm hv ?_ hn lW);exact eL (thn (ha pos pins s Y H _ I h) λus s1 ⟨vs,H1,I1,r1,q1⟩=>hc pins s1 Y H1 vs us Q I1 r1 q1) he fV
end
end L2
namespace HT
open PySem PyProof.Rows
section
variable {prog:bw}{w:bO}{A:bC}{E:ai->ar->Prop}{s:ar}
def b3A{vs ws:List ai}(ht:IsTup s.heap t vs.toArray)(hb:IsTup s.heap b ws.toArray)(hv:vs≠[])
    (h1:ws=[]->Q (.ref t) s) (h2:ws≠[]->Q (.ref s.heap.objs.size) {s with heap:=s.heap.push {cls:=.type "tuple",data:=.seq (vs++ws).toArray}})
    (hsz:vs.length+ws.length<=aP):aD (aT prog w) A (eF .Add (.ref t) (.ref b)) Q E s:=by
  obtain⟨⟨cls,dd,data,sl⟩,ho,hc,n,hd⟩:=id ht;obtain⟨⟨zC,xy,data2,wJ⟩,sX,ml,n2,hd2⟩:=id hb;simp only at hc hd ml hd2;subst hc hd ml hd2;have e:vs.toArray++ws.toArray=(vs++ws).toArray:=by simp
  by_cases hw:ws=[]
  . exact Ft ⟨_,ho,rfl⟩ ⟨_,sX,rfl⟩ qZ xQ kz j_ (jR _ _)
      (tuple_addW1 t b vs.toArray ws.toArray n n2 dd xy sl wJ (by simpa using hv) (by simp[hw])) ⟨ho,sX,h1 hw⟩
  . refine Ft ⟨_,ho,rfl⟩ ⟨_,sX,rfl⟩ qZ xQ kz j_ (jR _ _)
      (tuple_addW2 t b vs.toArray ws.toArray n n2 dd xy sl wJ (by simpa using hv) (by simpa using hw) (by rw[bo,bo];exact hsz)) ⟨ho,sX,?_⟩
    rw[e];exact h2 hw
def sIx(n d:Nat):Option Int->Nat
  |none=>d
  |some v=>if v<0 then (v+(n:Int)).toNat else min v.toNat n
end
end HT
namespace L2
open PySem PySem.Spec PyProof.Rows
abbrev TO:=St->Hp->(Option Int->Hp->Prop)->Prop
def PO(X:Cx)(e:Option Expr)(t:TO):Prop:=
  ∀(pins:List (av×fD)) (s:ar) (Y:St) (H:Hp) (Q:Option Int->Hp->Prop),Inv X pins Y H s->t Y H Q->
    aD (aT X.prog X.w) X.A (evalPart e X.env) (λu s'=>∃o H',Inv X pins Y H' s'/\IsPart u o/\Q o H') X.xe s
def b3B:TO:=λ_ H Q=>Q el H
def b8s(t:TE):TO:=λY H Q=>t Y H λx H1=>∃i,x=.int i/\Q (cz i) H1
section
variable {X:Cx}{e:Expr}{te:TE}{lo hi:Option Expr}{tl th:TO}{pos p2:eM}
def b3C:PO X el b3B:=by
  intro pins s Y H Q I h;rw[evalPart_none];exact ae ⟨el,H,I,.none,h⟩
def b3D(h:PE X e te):PO X (cz e) (b8s te):=by
  intro pins s Y H Q I hw;rw[evalPart_some];refine thn (h pins s Y H _ I hw) λu s1 ⟨x,H1,I1,r1,q1⟩=>?_
  obtain⟨i,rfl,q⟩:=q1;obtain⟨t,rfl⟩:=r1;exact⟨cz i,H1,I1,.int i t,q⟩
def SlR(X:Cx)(r:V->Option Int->Option Int->Hp->VK->Prop):Prop:=
  ∀(pins:List (av×fD)) (s:ar) (Y:St) (H:Hp) (x:V) (v vl vu:ai) (lo hi:Option Int) (sl:av) (Q:VK),Inv X pins Y H s->RelV x v->s.heap.IsSliceOf sl vl vu .none->IsPart vl lo->IsPart vu hi->r x lo hi H Q->
    ∃T id,oA (.type T) "__getitem__"=pure (cz (.builtin id))/\s.TypeIs v T/\aD (aT X.prog X.w) X.A (qo v (.ref sl)) (EP X pins Y Q) X.xe s
def tSl(r:V->Option Int->Option Int->Hp->VK->Prop)(te:TE)(tl th:TO):TE:=λY H Q=>te Y H λx H1=>tl Y H1 λl H2=>th Y H2 λu H3=>r x l u H3 Q
def b0S(hr:SlR X r)(he:PE X e te)(hl:PO X lo tl)(hu:PO X hi th):PE X (.Subscript e (.Slice lo hi el p2) pos) (tSl r te tl th):=by
  intro pins s Y H Q I h;refine Subscript_ (thn (he pins s Y H _ I h) λv s1 ⟨x,H1,I1,r1,q1⟩=>?_);refine wpAny_Slice (thn (hl pins s1 Y H1 _ I1 q1) λvl s2 ⟨l,H2,I2,pl,q2⟩=>thn (hu pins s2 Y H2 _ I2 q2) λvu s3 ⟨u,H3,I3,pu,q3⟩=>?_);rw[evalPart_none];refine ae ?_;have I4:Inv X pins Y H3 {s3 with heap:=s3.heap.push {cls:=.type "slice",data:=.fields #[vl,vu,.none]}}:=I3.kept (t':=s3.toks) λb ob q=>ag _ q
  obtain⟨T,id,hT,ht,hg⟩:=hr pins {s3 with heap:=s3.heap.push {cls:=.type "slice",data:=.fields #[vl,vu,.none]}} Y H3 x v vl vu l u s3.heap.objs.size Q I4 r1 (bR.IsSliceOf.new ..) pl pu q3;show aD (aT X.prog X.w) X.A (subscriptTail e (.Slice lo hi el p2) v (.ref s3.heap.objs.size)) (EP X pins Y Q) X.xe {s3 with heap:=s3.heap.push {cls:=.type "slice",data:=.fields #[vl,vu,.none]}};exact tail_any (ops:=[.ref s3.heap.objs.size,v]) ht hT hg (by with_unfolding_all rfl)
def a6S(xs:List V)(lo hi:Option Int):List V:=(xs.drop (HT.sIx xs.length 0 lo)).take (HT.sIx xs.length xs.length hi-HT.sIx xs.length 0 lo)
def a5A(xs:List V)(lo hi:Option Int):(a6S xs lo hi).length<=xs.length:=by
  unfold a6S;rw[dY,kg];omega
def b5t(K:af):R2:=λx y H Q=>∃a b xs ys,x=.ref a/\y=.ref b/\SqT K H a xs/\SqT K H b ys/\xs≠[]/\xs.length+ys.length<=aP/\
  (ys=[]->Q (.ref a) H)/\(ys≠[]->∀p,H p=el->Q (.ref p) (upd H p (.tup (xs++ys))))
def Vals.nil_iff(r:Vals xs us):us=[]↔xs=[]:=by
  cases r with
  |nil=>simp
  |cons _ _=>simp
def b3E:OpR X (eF .Add) (b5t X.K):=by
  intro pins s Y H x y v u Q I rx ry h;obtain⟨a,b,xs,ys,rfl,rfl,ha,hb,hx,hz,q1,q2⟩:=h;cases rx
  cases ry
  obtain⟨cK,r1,p1,_⟩:=I.tuple ha;obtain⟨q_,r2,p2,_⟩:=I.tuple hb;refine HT.b3A p1 p2 (λz=>hx (r1.nil_iff.mp z)) (λz=>⟨.ref a,H,I,rfl,q1 (r2.nil_iff.mp z)⟩) (λz=>?_) (by rw[<-r1.length,<-r2.length];exact hz);refine⟨.ref s.heap.objs.size,_,I.laid (t':=s.toks) (o:=.tup (xs++ys)) (λb ob q=>ag _ q) (aB _) ?_,rfl,q2 (λw=>z (r2.nil_iff.mpr w)) _ (I.hok.fresh (aB _))⟩;exact⟨by rw[aV];exact hz,_,r1.append r2,IsTup.new _ _⟩
end
def ixN(n:Nat)(i:Int):Option Nat:=if 0<=i then (if i<n then cz i.toNat else el) else if -(n:Int)<=i then cz (i+n).toNat else el
def atI{α:Type}(xs:List α)(i:Int):Option α:=(ixN xs.length i).bind λj=>xs[j]?
def a8j(h:ixN n i=cz j):seqIndex? i n=cz j/\j<n/\-(n:Int)<=i/\i<n:=by
  unfold ixN at h;by_cases h0:0<=i
  . rw[aG h0]at h
    by_cases h1:i<n
    . rw[aG h1]at h
      have e:i.toNat=j:=aH h;exact⟨by rw[seqIndex_of h0 h1,e],by omega,by omega,h1⟩
    . rw[aL h1]at h;cases h
  . rw[aL h0]at h
    by_cases h1:-(n:Int)<=i
    . rw[aG h1]at h
      have e:(i+n).toNat=j:=aH h;exact⟨by rw[seqIndex_neg (by omega) h1,e],by omega,h1,by omega⟩
    . rw[aL h1]at h;cases h
def a8k{α:Type}{xs:List α}{i:Int}{v:α}(h:atI xs i=cz v):∃j,seqIndex? i xs.length=cz j/\xs[j]?=cz v/\j<xs.length/\-(xs.length:Int)<=i/\i<xs.length:=by
  unfold atI at h;cases e:ixN xs.length i with
  |none=>rw[e]at h;cases h
  |some j=>
    rw[e]at h;obtain⟨h1,h2,h3,h4⟩:=a8j e;exact⟨j,h1,h,h2,h3,h4⟩
def a0r(b:Expr):Prop:=∀o i,rY b rp o i=operate [o,i] (qo o i)
def IxR(X:Cx)(r:R2):Prop:=
  ∀(value slice:Expr) (pins:List (av×fD)) (s:ar) (Y:St) (H:Hp) (x y:V) (v u:ai) (Q:VK),Inv X pins Y H s->RelV x v->RelV y u->r x y H Q->
    rY slice rp v u=operate [v,u] (qo v u)->aD (aT X.prog X.w) X.A (subscriptTail value slice v u) (EP X pins Y Q) X.xe s
def MtR(X:Cx)(id:String)(r:V->List V->Hp->VK->Prop):Prop:=
  ∀(pins:List (av×fD)) (s:ar) (Y:St) (H:Hp) (x:V) (xs:List V) (v:ai) (us:List ai) (Q:VK),Inv X pins Y H s->RelV x v->Vals xs us->r x xs H Q->
    aD (aT X.prog X.w) X.A (call (.builtin id) (v::us)) (EP X pins Y Q) X.xe s
section
variable {X:Cx}{a b:Expr}{ta tb:TE}{pos:eM}
def IxR.or(h:IxR X r)(h':IxR X r'):IxR X (λx y H Q=>r x y H Q\/r' x y H Q):=by
  intro value slice pins s Y H x y v u Q I rx ry q hs;rcases q with q|q
  . exact h value slice pins s Y H x y v u Q I rx ry q hs
  . exact h' value slice pins s Y H x y v u Q I rx ry q hs
def a8l(hr:IxR X r)(ha:PE X a ta)(hb:PE X b tb)(hs:a0r b):PE X (.Subscript a b pos) (tOp r ta tb):=by
  intro pins s Y H Q I h;exact Subscript_ (b6h ha hb I h λv u s2 x y H2 I2 rx ry q=>hr a b pins s2 Y H2 x y v u Q I2 rx ry q (hs _ _))
def b8t(K:af):R2:=λx y H Q=>∃p xs i v,x=.ref p/\y=.int i/\SqL K H p xs/\atI xs i=cz v/\Q v H
def b8u(K:af):R2:=λx y H Q=>∃p xs i v,x=.ref p/\y=.int i/\SqT K H p xs/\atI xs i=cz v/\Q v H
def b3F:IxR X (b8t X.K):=by
  intro value slice pins s Y H x y v u Q I rx ry h hs;obtain⟨p,xs,i,z,rfl,rfl,hq,he,q⟩:=h;cases rx
  obtain⟨t,rfl⟩:=ry;obtain⟨cK,r,pl,hz⟩:=I.list hq;obtain⟨j,h1,h2,h3,h4,h5⟩:=a8k he;obtain⟨w,ew,xS⟩:=r.get h2;have hl:=r.length;have hn:=a2p;have fin:EP X pins Y Q w s:=⟨z,H,I,xS,q⟩;by_cases h0:0<=i
  . have hj:i.toNat=j:=by
      rw[seqIndex_of h0 h5]at h1;exact aH h1
    exact item_listR pl.isList h0 (by omega) (by rw[hj];simpa using ew) fin hs
  . have hj:(i+(cK.toArray.size:Int)).toNat=j:=by
      rw[seqIndex_neg (by omega) h4]at h1;rw[bo,<-hl];exact aH h1
    exact subscriptTail_builtinR (x:=w) pl.isList.typeIs slot_list_getitem.lookup
      (wpAny_getItem_list_neg (Q:=λr s'=>r=w/\EP X pins Y Q r s') pl.isList (by omega) (by rw[bo]<;>omega) (by omega) (by rw[hj];simpa using ew) ⟨rfl,fin⟩) hs
def b6t:IxR X (b8u X.K):=by
  intro value slice pins s Y H x y v u Q I rx ry h hs;obtain⟨p,xs,i,z,rfl,rfl,hq,he,q⟩:=h;cases rx
  obtain⟨t,rfl⟩:=ry;obtain⟨cK,r,pl,hz⟩:=I.tuple hq;obtain⟨j,h1,h2,h3,h4,h5⟩:=a8k he;obtain⟨w,ew,xS⟩:=r.get h2;have hl:=r.length;have hn:=a2p;have fin:EP X pins Y Q w s:=⟨z,H,I,xS,q⟩;exact subscriptTail_builtinR (x:=w) pl.typeIs slot_tuple_getitem.lookup
    (getItem_tuple (j:=j) (Q:=λr s'=>r=w/\EP X pins Y Q r s') pl (by omega) (by omega) (by rw[bo,<-hl];exact h1) (by simpa using ew) ⟨rfl,fin⟩) hs
def a4P(lo hi:Option Int)(n:Nat):(ju lo hi el n).1=((HT.sIx n 0 lo:Nat):Int)/\(ju lo hi el n).2.1=((HT.sIx n n hi:Nat):Int)/\(ju lo hi el n).2.2=1:=by
  refine⟨?_,?_,rfl⟩
  . cases lo with
    |none=>simp[ju,HT.sIx]
    |some i=>
      simp only[ju,HT.sIx,FA,show (1:Int)>0 by decide,jl];by_cases h:i<0
      . simp only[h,jl]<;>omega
      . simp only[h,fF]<;>omega
  . cases hi with
    |none=>simp[ju,HT.sIx]
    |some i=>
      simp only[ju,HT.sIx,FA,show (1:Int)>0 by decide,jl];by_cases h:i<0
      . simp only[h,jl]<;>omega
      . simp only[h,fF]<;>omega
def a3z(cK:List ai)(lo hi:Option Int):slicePick cK.toArray lo hi el=((cK.drop (HT.sIx cK.length 0 lo)).take (HT.sIx cK.length cK.length hi-HT.sIx cK.length 0 lo)).toArray:=by
  obtain⟨h1,h2,h3⟩:=a4P lo hi cK.toArray.size;unfold slicePick;rw[h1,h2,h3];simp only[sliceRange_one,pick_run,bo]<;>rfl
def c0a(K:af):V->Option Int->Option Int->Hp->VK->Prop:=λx lo hi H Q=>∃a xs,x=.ref a/\SqL K H a xs/\∀p,H p=el->Q (.ref p) (upd H p (.lst (a6S xs lo hi)))
def b3G:SlR X (c0a X.K):=by
  intro pins s Y H x v vl vu lo hi sl Q I rx hs pl pu h;obtain⟨a,xs,rfl,hx,q⟩:=h;cases rx
  obtain⟨cK,r,ht,hz⟩:=I.list hx;have hlen:=r.length;refine⟨"list",_,slot_list_getitem.lookup,ht.isList.typeIs,?_⟩;refine wpAny_getItem_list_slice ht.isList hs pl pu .none (by simp) ?_ (by rw[bo]<;>omega);rw[a3z,<-hlen];refine⟨.ref s.heap.objs.size,_,I.laid (t':=s.toks) (o:=.lst (a6S xs lo hi)) (λb ob q=>ag _ q) (aB _) ?_,rfl,q _ (I.hok.fresh (aB _))⟩;exact⟨bV (a5A xs lo hi) hz,_,0,(r.drop (HT.sIx xs.length 0 lo)).take (HT.sIx xs.length xs.length hi-HT.sIx xs.length 0 lo),aE _ rfl⟩
def a4Q:CallR X (.builtin "len") (λxs H Q=>∃p ys,xs=[.ref p]/\(SqL X.K H p ys\/SqT X.K H p ys)/\Q (.int ys.length) H):=by
  intro pins s Y H xs us Q I r h;obtain⟨p,ys,rfl,hq,q⟩:=h;obtain⟨u,rfl,rx⟩:=vals1 r;cases rx
  have hn:=a2p;rcases hq with hq|hq
  . obtain⟨cK,r',pl,hz⟩:=I.list hq
    have hlen:=r'.length;exact Calls.call_len_list pl.isList (by simp only[bo]<;>omega) ⟨.int ys.length,H,I.tok _,⟨s.toks+1,by rw[bo,hlen]⟩,q⟩
  . obtain⟨cK,r',pl,hz⟩:=I.tuple hq
    have hlen:=r'.length;exact len_tuple pl (by simp only[bo]<;>omega) ⟨.int ys.length,H,I.tok _,⟨s.toks+1,by rw[bo,hlen]⟩,q⟩
def a4R:CallR X (.builtin "len") (λxs H Q=>∃z,xs=[.str z]/\z.length<=aP/\Q (.int z.length) H):=by
  intro pins s Y H xs us Q I r h;obtain⟨z,rfl,hz,q⟩:=h;obtain⟨u,rfl,t,rfl⟩:=vals1 r;have hn:=a2p;exact len_str (by omega) ⟨.int z.length,H,I.tok _,⟨_,rfl⟩,q⟩
def CallR.or(h:CallR X f r)(h':CallR X f r'):CallR X f (λxs H Q=>r xs H Q\/r' xs H Q):=by
  intro pins s Y H xs us Q I rs q;rcases q with q|q
  . exact h pins s Y H xs us Q I rs q
  . exact h' pins s Y H xs us Q I rs q
def a0s:CallR X (.type "list") (λxs H Q=>∃p ys,xs=[.ref p]/\(SqL X.K H p ys\/SqT X.K H p ys)/\∀l,H l=el->Q (.ref l) (upd H l (.lst ys))):=by
  intro pins s Y H xs us Q I r h;obtain⟨p,ys,rfl,hq,q⟩:=h;obtain⟨u,rfl,rx⟩:=vals1 r;cases rx
  have fin:∀(cK:List ai),Vals ys cK->ys.length<=aP->∀(h':bR) (c':Nat),(∀b o',s.heap.get? b=cz o'->h'.get? b=cz o')->
      h'.get? s.heap.objs.size=cz {cls:=.type "list",dict:=el,data:=.seq cK.toArray c',slots:=#[]}->EP X pins Y Q (.ref s.heap.objs.size) {s with heap:=h'}:=λcK r' hz h' c' kp e=>
    ⟨.ref s.heap.objs.size,_,I.laid (t':=s.toks) kp (aB _) (show ObjOk X.prog X.w _ h' _ (.lst ys) from⟨hz,cK,c',r',e⟩),rfl,q _ (I.hok.fresh (aB _))⟩
  rcases hq with hq|hq
  . obtain⟨cK,r',pl,hz⟩:=I.list hq
    have hlen:=r'.length;obtain⟨o,ho,hc,n,hd⟩:=pl.isList;exact call_list_seq p (.inl rfl) ho hc hd (λh' c' kp e=>fin cK r' hz h' c' kp e) (by simp only[bo]<;>omega)
  . obtain⟨cK,r',pl,hz⟩:=I.tuple hq
    have hlen:=r'.length;obtain⟨o,ho,hc,n,hd⟩:=pl;exact call_list_seq p (.inr rfl) ho hc hd (λh' c' kp e=>fin cK r' hz h' c' kp e) (by simp only[bo]<;>omega)
def a3A:CallR X (.type "tuple") (λxs H Q=>∃p ys,xs=[.ref p]/\((SqL X.K H p ys/\∀l,H l=el->Q (.ref l) (upd H l (.tup ys)))\/(SqT X.K H p ys/\Q (.ref p) H))):=by
  intro pins s Y H xs us Q I r h;obtain⟨p,ys,rfl,h⟩:=h;obtain⟨u,rfl,rx⟩:=vals1 r;cases rx
  rcases h with⟨hq,q⟩|⟨hq,q⟩
  . obtain⟨cK,r',pl,hz⟩:=I.list hq
    have hlen:=r'.length;refine call_tuple_list pl.isList (λh' kp=>?_) (by simp only[bo]<;>omega);have I1:Inv X pins Y H {s with heap:=h'}:=I.kept (t':=s.toks) kp;have I2:Inv X pins Y (upd H h'.objs.size (.tup ys)) {s with heap:=h'.push {cls:=.type "tuple",data:=.seq cK.toArray}}:=
      I1.laid (t':=s.toks) (λb o e=>ag _ e) (aB _) (show ObjOk X.prog X.w _ _ _ (.tup ys) from⟨hz,cK,r',IsTup.new _ _⟩)
    exact⟨.ref h'.objs.size,_,I2,rfl,q _ (I1.hok.fresh (aB _))⟩
  . obtain⟨cK,r',pl,hz⟩:=I.tuple hq
    exact call_tuple_same pl ⟨.ref p,H,I,rfl,q⟩
def tyV(K:af)(T:String)(x:V)(H:Hp):Prop:=match x with
  |.str _=>T="str"
  |.int _=>T="int"
  |.ref p=>(T="list"/\∃xs,SqL K H p xs)\/(T="tuple"/\∃o,K.lookup p=cz o/\o.cls=.type "tuple"/\o.dict=el)\/
      (T="dict"/\((∃kvs,H p=cz (.dK kvs))\/∃kvs,H p=cz (.dT kvs)))\/(T="set"/\∃S n,H p=cz (.set S n))
  |_=>False
def b0T(I:Inv X pins Y H s)(r:RelV x v)(ty:tyV X.K T x H) :
    s.TypeIs v T/\∀a,v=.ref a->∃ob,s.heap.get? a=cz ob/\ob.dict=el:=by
  cases x with
  |str z=>
    obtain⟨t,rfl⟩:=r;cases (show T="str" from ty)
    exact⟨typeIs_str s z t,λ_ e=>nomatch e⟩
  |int i=>
    obtain⟨t,rfl⟩:=r;cases (show T="int" from ty)
    exact⟨typeIs_int s i t,λ_ e=>nomatch e⟩
  |ref p=>
    cases r
    rcases ty with⟨rfl,xs,hq⟩|⟨rfl,o,hk,hc,hd⟩|⟨rfl,hk⟩|⟨rfl,S,n,hk⟩
    . obtain⟨cK,_,pl,_⟩:=I.list hq
      refine⟨pl.isList.typeIs,λa e=>?_⟩;cases e
      obtain⟨o,n,e,c,hd,_⟩:=pl;exact⟨o,e,hd⟩
    . refine⟨⟨o,I.kIn p o hk,hc⟩,λa e=>?_⟩
      cases e
      exact⟨o,I.kIn _ o hk,hd⟩
    . have z:∃o,s.heap.get? p=cz o/\o.ExactDict:=by
        rcases hk with⟨kvs,hk⟩|⟨kvs,hk⟩
        . obtain⟨_,_,_,_,o,_,_,e,ex,_⟩:=I.hok p _ hk
          exact⟨o,e,ex⟩
        . obtain⟨_,_,_,_,o,_,_,e,ex,_⟩:=I.hok p _ hk
          exact⟨o,e,ex⟩
      obtain⟨o,e,ex⟩:=z;refine⟨⟨o,e,ex.1⟩,λa e2=>?_⟩;cases e2
      exact⟨o,e,ex.2.1⟩
    . obtain⟨o,_,_,_,e,ex,_⟩:=I.hok p _ hk
      refine⟨⟨o,e,ex.1⟩,λa e2=>?_⟩;cases e2
      exact⟨o,e,ex.2.1⟩
  |_=>exact cG ty
def c0b(K:af)(T:String)(r:V->List V->Hp->VK->Prop)(to:TE):TE:=λY H Q=>to Y H λx H1=>tyV K T x H1/\r x [] H1 Q
def tBM(K:af)(T:String)(r:V->List V->Hp->VK->Prop)(to:TE)(t:TA):TE:=λY H Q=>to Y H λx H1=>tyV K T x H1/\t Y H1 λxs H2=>r x xs H2 Q
variable {o e:Expr}{es:List Expr}{to:TE}{t:TA}{name:bH}{apos cF:eM}{T id:String}{r:V->List V->Hp->VK->Prop}
def b0U(pa:PlainAttrs T)(slot:Slot T name id)(ve:typeOf (.builtin id)=pure (.type "method_descriptor"))(hm:MtR X id r)(ho:PE X o to)
    (eD:cZ o name X.env (cy o X.env)=cy o X.env:=by rfl) (eB:(apos.endLine==cF.line)=p4:=by rfl):PE X (.Call (.Attribute o name apos) [] [] cF) (c0b X.K T r to):=by
  intro pins s Y H Q I h;refine iw eD eB (thn (ho pins s Y H _ I h) λv s1 ⟨x,H1,I1,r1,ty,q1⟩=>?_);obtain⟨h1,h2⟩:=b0T I1 r1 ty;exact⟨T,id,pa,slot,ve,h1,h2,eX rfl (je (hm pins s1 Y H1 x [] v [] Q I1 r1 .nil q1))⟩
def b5u(pa:PlainAttrs T)(slot:Slot T name id)(ve:typeOf (.builtin id)=pure (.type "method_descriptor"))(hm:MtR X id r)(ho:PE X o to)(ha:PA X (e::es) t)
    (eD:cZ o name X.env (cy o X.env)=cy o X.env:=by rfl)
    (lr:((cB cF (ax (e::es) X.env)).all (λx=>!x.1)&&(qw cF (kF [] X.env)).all (λx=>x.1.isSome)
      && decide ((e::es).length+([]:List iQ).length+(if ([]:List iQ).isEmpty then 0 else 1)<30))=p4:=by rfl)
    (eB:(apos.endLine==cF.line)=p4:=by rfl) (hs:ax (e::es) X.env=(rp,cy e X.env)::ax es X.env:=by rfl) (ig:(cB cF (ax es X.env)).any (·.1)=rp:=by rfl) :
    PE X (.Call (.Attribute o name apos) (e::es) [] cF) (tBM X.K T r to t):=by
  intro pins s Y H Q I h;refine BV eD lr eB rfl (thn (ho pins s Y H _ I h) λv s1 ⟨x,H1,I1,r1,ty,q1⟩=>?_);obtain⟨h1,h2⟩:=b0T I1 r1 ty;refine⟨T,id,pa,slot,ve,h1,h2,?_⟩;have hA:=ha cF pins s1 Y H1 _ I1 q1;rw[hs]at hA ⊢;refine eX (by show (rp||(cB cF (ax es X.env)).any (·.1))=rp;rw[ig]<;>rfl) (nE ?_);exact thn hA λus s2 ⟨vs,H2,I2,r2,q2⟩=>hm pins s2 Y H2 x vs v us Q I2 r1 r2 q2
end
def MtM(X:Cx)(id:String)(r:V->List V->Hp->VK->Prop):Prop:=
  ∀(pins:List (av×fD)) (s:ar) (Y:St) (H:Hp) (x:V) (xs:List V) (v:ai) (us:List ai) (Q:VK),Inv X pins Y H s->RelV x v->Vals xs us->r x xs H Q->
    aD (aT X.prog X.w) X.A (call (.builtin id) (v::us)) (EP X pins Y Q) X.xe s
def Vals.one:∀{x:V} {us:List ai},Vals [x] us->∃u,us=[u]/\RelV x u
  |_,_,.cons r .nil=>⟨_,rfl,r⟩
def Vals.zero:∀{us:List ai},Vals [] us->us=[]
  |_,.nil=>rfl
theorem Vals.dropLast(h:Vals xs us):Vals xs.dropLast us.dropLast:=by
  induction h with
  |nil=>exact .nil
  |cons r t ih=>
    cases t with
    |nil=>exact .nil
    |cons q t'=>exact .cons r ih
def a6T(l:List α):l.eraseIdx (l.length-1)=l.dropLast:=by
  induction l with
  |nil=>rfl
  |cons a r ih=>
    cases r with
    |nil=>rfl
    |cons b r=>
      have e:(a::b::r).length-1=((b::r).length-1)+1:=by
        have h1:(a::b::r).length=r.length+2:=rfl;have h2:(b::r).length=r.length+1:=rfl;omega
      rw[e,sH,ih]
      all_goals rfl
section
variable {X:Cx}{pins:List (av×fD)}{Y:St}{H:Hp}{s:ar}{l b:av}{xs ys zs:List V}
def Inv.lset{cK its':List ai}(I:Inv X pins Y H s)(hH:H l=cz (.lst xs))
    (e:s.heap.get? l=cz {cls:=.type "list",data:=.seq cK.toArray n}) (hf:f cK.toArray=its'.toArray) (hv:Vals ys its') (hz:ys.length<=aP) :
    Inv X pins Y (upd H l (.lst ys)) {s with heap:=s.heap.update l (gR f),toks:=t'}:=by
  have q:=PySem.IsL.update e f;rw[hf]at q;refine I.write (x:=l) (e:=l) (by rw[hH];exact trivial) (.inl rfl) (λb' u hb hu=>(dA s.heap (gR f) (dc hb)).trans hu) ⟨_,q⟩ ?_;exact⟨hz,its',_,hv,q⟩
def Inv.lnew(I:Inv X pins Y H s)(hv:Vals ys cK)(hz:ys.length<=aP) :
    Inv X pins Y (upd H s.heap.objs.size (.lst ys)) {s with heap:=s.heap.push {cls:=.type "list",data:=.seq cK.toArray},toks:=t'}:=
  I.laid (λ_ _ q=>ag _ q) (aB _) ⟨hz,cK,0,hv,aE _ rfl⟩
theorem Inv.fresh(I:Inv X pins Y H s):H s.heap.objs.size=el:=I.hok.fresh (aB _)
def Inv.lstM(I:Inv X pins Y H s)(hH:H l=cz (.lst xs)):xs.length<=aP/\∃(cK:List ai) (n:Nat),Vals xs cK/\xs.length=cK.length/\s.heap.get? l=cz {cls:=.type "list",data:=.seq cK.toArray n}:=by
  obtain⟨z,cK,n,r,e⟩:=I.hok l _ hH;exact⟨z,cK,n,r,r.length,e⟩
end
section
variable {X:Cx}
def b3H:V->List V->Hp->VK->Prop:=λx vs H Q=>∃l xs y,x=.ref l/\vs=[y]/\H l=cz (.lst xs)/\xs.length<aP/\Q .non (upd H l (.lst (xs++[y])))
def a1g:MtM X "list.append" b3H:=by
  intro pins s Y H x vs v us Q I rx rv h;obtain⟨l,xs,y,rfl,rfl,hH,hz,q⟩:=h;cases rx
  obtain⟨u,rfl,ru⟩:=rv.one;obtain⟨z,cK,n,r,hl,e⟩:=I.lstM hH;refine wy F.slot_list_append ⟨_,e,rfl⟩ F.entry_list_append (F.args_list_append_2 _ _) (PySem.list_append l cK.toArray n u (by rw[bo];omega)) ⟨e,?_⟩;refine⟨.non,_,I.lset (its':=cK++[u]) hH e (by simp) (r.append (.cons ru .nil)) ?_,rfl,q⟩;rw[aV,kW];omega
def c0c:V->List V->Hp->VK->Prop:=λx vs H Q=>∃l xs y,x=.ref l/\vs=[]/\H l=cz (.lst xs)/\xs[xs.length-1]?=cz y/\Q y (upd H l (.lst xs.dropLast))
def b6u:MtM X "list.pop" c0c:=by
  intro pins s Y H x vs v us Q I rx rv h;obtain⟨l,xs,y,rfl,rfl,hH,hy,q⟩:=h;cases rx
  have mz:=rv.zero;subst mz;obtain⟨z,cK,n,r,hl,e⟩:=I.lstM hH;obtain⟨u,hu,ru⟩:=r.get hy;have CW:cK.toArray[cK.toArray.size-1]?=cz u:=by
    show cK.toArray[cK.length-1]?=cz u;rw[<-bX,<-hl];exact hu
  refine wy F.slot_list_pop ⟨_,e,rfl⟩ F.entry_list_pop (F.args_list_pop_1 _) (MeetsSeq.list_pop_last l cK.toArray n u CW (by rw[bo];omega)) ⟨e,?_⟩;refine⟨y,_,I.lset (its':=cK.dropLast) hH e ?_ r.dropLast ?_,ru,q⟩
  . show cK.toArray.eraseIdxIfInBounds (cK.toArray.size-1)=cK.dropLast.toArray
    rw[bo,List.eraseIdxIfInBounds_toArray,a6T]
  . rw[List.length_dropLast]
    omega
end
end L2
namespace Att
open PySem PySem.W PySem.Calls PyProof.Rows
def a1Z:∀(ns:List Int) (vs:List ai),WellAll P h vs (ns.map WData.int)->IntsAre vs ns:=by
  intro ns
  induction ns with
  |nil=>
    intro vs w;rw[cE]at w;cases w
    exact .nil
  |cons n ns ih=>
    intro vs w;rw[ay]at w;cases w with
    |cons a b=>
      cases a
      exact .cons _ _ (ih _ b)
def a9h{l:OpenLaw}(hn:l.most=cz n) 
    (kM:l.row.toRowW.claim.pre args=p4) (wO:WellAll P h vals args) :
    ∃a vs ns,vals=[a_ a]/\args=[WData.list (ns.map WData.int)]/\h.get? a=cz {cls:=.type "list",data:=.seq vs.toArray}/\IntsAre vs ns/\ns.length<=n:=by
  have wW:WShape.hasAll [] args [.list .int]=p4:=(pre_splitW kM).1;have hc:l.pre.holds [] {args:=args}=p4:=(pre_splitW kM).2;obtain⟨d,r,rfl,h1,h2⟩:=hasAllW_cons wW;obtain rfl:=hasAllW_nil h2;obtain⟨xs,rfl,h3⟩:=hasW_list h1;obtain⟨ns,rfl⟩:=items_int h3;have hlen:ns.length<=n:=by
    unfold OpenLaw.pre at hc;have h4:(WTm.not (.lt (.lit (.int (n:Int))) (.len (.arg 0)))).holds [] {args:=[.list (ns.map .int)]}=p4:=by
      have h4:=(holds_andW hc).1;rw[hn]at h4;exact h4
    have h5:=condW_of h4 (w_not (w_lt w_lit (w_len_list (w_arg rfl))));rw[ah]at h5;refine Nat.le_of_not_lt λq=>?_
    have q':(n:Int)<((ns.length:Nat):Int):=by omega
    first
      | (rw[aI q']at h5;exact absurd h5 (by decide))
      | (simp at h5;omega)
  cases wO with
  |cons w1 w2=>
    cases w2
    cases w1 with
    |list ho iC=>exact⟨_,_,ns,rfl,rfl,ho,a1Z ns _ iC,hlen⟩
def a9i(l:OpenLaw)(args:List WData):l.row.toRowW.claim.post args (.bool p4) args=p4:=
  postW_of (r:=l.row.toRowW) (X:=(p4==p4))
    (show WShape.has [] (.bool p4) .bool=p4 by first|rfl|decide|simp[WShape.has,WShape.arms,WShape.armsAll])
    (show (WTm.eq .res (.lit (.bool p4))).value [] {args:=args,res:=cz (.bool p4),after:=args}=cz (.bool (p4==p4)) from w_eq_bool (w_res rfl) w_lit) rfl
def attach_call{l:OpenLaw}{d:DefRec}
    (hn:l.most=cz n) (vN:d.params.defaults=[])
    (call:∀(w:bO) (s₀ s₁:ar) (mg mb:bH->Option ai) (fa:av) (o:fD) (pm cd doc:ai) (a:av) (vs:List ai) (ns:List Int),
      Ground q loose [] XP w s₀ mg mb s₁.heap->YP w s₁.heap->
      s₁.heap.get? fa=cz o->o.data=.func (docDef d.name d.params d.body d.scope pm cd doc)->s₁.heap.CodeRec cd d.name->mg d.name=cz (.ref fa)->
      s₁.heap.get? a=cz {cls:=.type "list",data:=.seq vs.toArray}->IntsAre vs ns->ns.length<=n->s₁.gens=#[]->
      gH (aT l.prog w) nJ (.call (.ref fa) ⟨[.ref a],[]⟩) (λr s'=>r=.ok (.ret (.bool p4))/\OldK s₁.heap s'.heap/\s'.os=s₁.os/\oy s'.gens) s₁) :
    WalkO q loose XP YP l.row.toRowW d [] (λf vs=>zE f vs):=by
  intro w s₀ s₁ mg mb G xn fa o pm cd doc dV kV ho hd nI hD vz hg args vals as kM DM Ge wO Gi;obtain rfl:dV=.none:=Dflts.none hD vN;obtain rfl:kV=.none:=Dflts.noKw hD;obtain⟨a,vs,ns,rfl,rfl,sW,hints,hlen⟩:=a9h hn kM wO;refine enter_call (fG (call w s₀ s₁ mg mb fa o pm cd doc a vs ns G xn ho (fd_plain hd) nI vz sW hints hlen hg) λr s' hq=>?_);obtain⟨rfl,h2,h3,h4⟩:=hq;exact⟨.inl ⟨.bool p4,.bool p4,[],rfl,λ_=>rfl,.bool p4,a9i l _,λ_=>⟨il,λ_ hm=>(nomatch hm)⟩⟩,h2,h3,h4⟩
section
variable {prog:bw}{w:bO}{A:bC}{E:ai->ar->Prop}{s:ar}{K:Frag}
def ledger(h:bR)(L d:av):List (av×fD):=(aQ h.objs.size).filterMap λa=>if a=L\/a=d then el else (h.get? a).map λo=>(a,o)
end
end Att
namespace L2
open PySem PySem.Spec PyProof.Rows
theorem vals_ints:∀{vs:List ai} {ns:List Int},IntsAre vs ns->Vals (ns.map V.int) vs
  |_,_,.nil=>.nil
  |_,_,.cons n t h=>.cons ⟨t,rfl⟩ (vals_ints h)
abbrev KOf{K:af}{h:bR}(_:K.In h):af:=K
end L2
namespace L2
open PySem PySem.Spec PyProof.Rows
def R7(s:g_):lM:=match s with
  |.FunctionDef _ a _ _ _ _ _ _ _ _=>a
  |_=>{posonlyargs:=[],args:=[],vararg:=el,kwonlyargs:=[],kw_defaults:=[],kwarg:=el,defaults:=[]}
def y7(s:g_):List g_:=match s with
  |.FunctionDef _ _ b _ _ _ _ _ _ _=>b
  |_=>[]
def i9(s:g_):gd:=match s with
  |.FunctionDef _ _ _ _ _ _ sc _ _ _=>sc
  |_=>{kind:=.function,names:=[],isGenerator:=rp,isCoroutine:=rp}
abbrev CX0:CXT:=λ_ _ _ _ _ _=>False
abbrev E0:XK:=λ_ _ _=>False
def b8v:a6R CX0 X E0:=λ_ _ _ _ _ _ _ h=>h.elim
structure Fun (K:af) (x qual:bH) (st:g_) (f:av) (fd:dB):Prop where
  ex:∃(oc:ai) (od:Option av) (kV doc pm:ai) (an:Option av) (gg ct:ai) (oE:Array (Option ai)),
    fd=fS x qual (R7 st) (y7 st) (i9 st) .none kV doc pm an gg ct/\K.lookup f=cz ⟨oc,od,.func fd,oE⟩/\lI K gg qual=p4
  kp:fK K (.ref f)=p4
section
variable {P:bw}{w:bO}{K:af}{mg:bH->Option ai}{base:bR}
def Fun.ok{x qual:bH}{st:g_}{f:av}{fd:dB}{N ps:List bH}{k:Nat}{sp:Sp}(F:Fun K x qual st f fd)(S:FnScope N ps (i9 st))(len:∀vs H Q E,sp vs H Q E->vs.length=ps.length)
    (pZ:∀(gg:ai) (A:bC) (outer:List ox) (s:ar) (H:Hp) (vs:List V) (Q:VK) (E:XK),Room k (A.deeper (jb qual (i9 st) s.heap.objs.size f gg))->sp vs H Q E->
      ∃t,PSs (a0q CX0 P w K mg base N qual (i9 st) f gg A outer s H E).nox (y7 st) t/\t {nx:=λ_ H'=>Q .non H',rt:=Q} (start N vs) H):FnOk P w K mg base CX0 (k+1) f fd ps sp:=by
  obtain⟨oc,od,kV,doc,pm,an,gg,ct,oE,rfl,lk,nI⟩:=F.ex;refine b5s lk nI S len λA outer s H vs Q E hr pM=>?_
  obtain⟨t,h,q⟩:=pZ gg A outer s H vs Q E hr pM;exact⟨t,h.nox,q⟩
def Fun.binds{x qual:bH}{st:g_}{f:av}{fd:dB}{ps:List bH}(F:Fun K x qual st f fd)
    (h:∀(kV doc pm:ai) (an:Option av) (gg ct:ai) (us:List ai),us.length=ps.length->qu (fS x qual (R7 st) (y7 st) (i9 st) .none kV doc pm an gg ct) ⟨us,[]⟩=pure (ps.zip us)):Binds K fd ps []:=by
  obtain⟨oc,od,kV,doc,pm,an,gg,ct,oE,rfl,lk,nI⟩:=F.ex;exact .all (h kV doc pm an gg ct)
def b6v{x qual:bH}{st:g_}{f:av}{oc:ai}{od an:Option av}{oE:Array (Option ai)}{kV doc pm gg ct:ai}(l:K.lookup f=cz ⟨oc,od,.func (fS x qual (R7 st) (y7 st) (i9 st) .none kV doc pm an gg ct),oE⟩)
    (c:lI K gg qual=p4) (k:fK K (.ref f)=p4):Fun K x qual st f (fS x qual (R7 st) (y7 st) (i9 st) .none kV doc pm an gg ct):=⟨⟨oc,od,kV,doc,pm,an,gg,ct,oE,rfl,l,c⟩,k⟩
end
def X2(h:n<=1000):n<aP:=hU h (by decide)
section
variable {X:Cx}
def pv(i:Nat)(hN:X.N[i]?=cz x:=by rfl)(hv:autoParam (NmV X x) ZY._auto_1):PE X (.Name x pos) (b3r i):=C4 hN hv.1 hv.2.1 hv.2.2
end
def a3B{A B:Prop}(h:B):if rp=p4 then A else B:=by
  rw[aL aS];exact h
def a3C{A B:Prop}(h:A):if p4=p4 then A else B:=by
  rw[aG rfl];exact h
def Same(H H':Hp):Prop:=∀b o,H b=cz o->H' b=cz o
def Same.refl(H:Hp):Same H H:=λ_ _ h=>h
def Same.trans(a:Same H H1)(b:Same H1 H2):Same H H2:=λc o h=>b c o (a c o h)
def Same.free{H H':Hp}(e:Same H H'){l:av}(h:H' l=Option.none):H l=Option.none:=by
  cases q:H l with
  |none=>rfl
  |some o=>
    rw[e l o q]at h;cases h
end L2
set_option maxHeartbeats 4000000
namespace L2
open PySem PySem.Spec PyProof.Rows
def O1(X:Cx)(N:List bH)(scope:gd)(cl:List (bH×av))(C:av)(s:ar)(H:Hp)(fp:List av):Cx:=
 {X with N:=N,s₀:=s,H₀:=H,env:=compEnvC scope cl C X.env,outer:=X.stack,ex:=fp,fn:=λ_=>rp,xe:=λ_ _=>False}
structure CompIn (X:Cx) (N:List bH) (scope:gd) (cl:List (bH×av)) (τ:St->St):Prop where
 clos:oQ scope X.env=pure cl
 kind:scope.kind=.function
 ncell:∀y∈scope.names,y.2≠.cell
 names:∀y∈scope.names,y.2=.local->scope.names.lookup y.1=cz .local
 sub:∀x c,cl.lookup x=cz c->X.env.cells.lookup x=cz c
 has:∀y∈scope.names,y.2=.free->∃c,cl.lookup y.1=cz c
 tlen:∀Y,(τ Y).length=N.length
 tval:∀(Y:St) (i:Nat) (x:bH) (v:V),N[i]?=cz x->(τ Y)[i]?=cz (cz v)->∃j:Nat,X.N[j]?=cz x/\Y[j]?=cz (cz v)/\scope.names.lookup x=cz .free/\(X.env.kindOf x=cz .cell\/X.env.kindOf x=cz .free)
def a0t{scope:gd}(hn:∀y∈scope.names,y.2≠.cell)(h:(lR scope env).names.lookup x=cz .cell\/(lR scope env).names.lookup x=cz .free):∃y∈scope.names,y.1=x/\y.2=.free:=by
 have key:∀k,(lR scope env).names.lookup x=cz k->k=.cell\/k=.free->∃y∈scope.names,y.1=x/\y.2=.free:=λk e hk=>by
  have hm:=bZ e;unfold lR at hm;obtain⟨⟨n,k'⟩,hy,e2⟩:=aR.mp hm
  dsimp only at e2
  by_cases hc:(k'==e_&&env.scope.kind==.function&&env.kindOf n==cz .cell)=p4
  ·rw[aG hc]at e2;cases e2
   rw[aw,aw]at hc;exact⟨_,hy,rfl,by simpa using hc.1.1⟩
  ·rw[aL hc]at e2;cases e2
   rcases hk with rfl|rfl
   ·exact absurd rfl (hn _ hy)
   ·exact⟨_,hy,rfl,rfl⟩
 rcases h with h|h
 ·exact key _ h (.inl rfl)
 ·exact key _ h (.inr rfl)
def a4S{scope:gd}(h:scope.names.lookup x=cz .free):(lR scope env).names.lookup x=cz .cell\/(lR scope env).names.lookup x=cz .free:=by
 have key:∀names:List (bH×iO),names.lookup x=cz .free->
   (names.map λ(n,k)=>if (k==e_&&env.scope.kind==.function&&env.kindOf n==cz .cell) then (n,iO.cell) else (n,k)).lookup x=cz .cell\/
   (names.map λ(n,k)=>if (k==e_&&env.scope.kind==.function&&env.kindOf n==cz .cell) then (n,iO.cell) else (n,k)).lookup x=cz .free:=by
  intro names
  induction names with
  |nil=>intro h;cases h
  |cons z r ih=>
   obtain⟨n,k⟩:=z;intro h;rw[ay]
   dsimp only
   rw[fL]at h;cases hx:x==n with
   |true=>
    rw[hx]at h;have hk:k=.free:=by simpa using h
    subst hk;by_cases hc:(e_==e_&&env.scope.kind==.function&&env.kindOf n==cz .cell)=p4
    ·rw[aG hc,fL,hx];exact .inl rfl
    ·rw[aL hc,fL,hx];exact .inr rfl
   |false=>
    rw[hx]at h;by_cases hc:(k==e_&&env.scope.kind==.function&&env.kindOf n==cz .cell)=p4
    ·rw[aG hc,fL,hx];exact ih h
    ·rw[aL hc,fL,hx];exact ih h
 exact key _ h
structure Has (P:bw) (w:bO) (K:af) (mg:bH->Option ai) (base:bR) (x:bH) (k:Nat) (ps:List bH) (sp:Sp):Prop where
 ex:∃f fd,FnOk P w K mg base CX0 k f fd ps sp/\Binds K fd ps []/\fK K (.ref f)=p4/\mg x=cz (.ref f)
def Has.up{P:bw}{w:bO}{K:af}{mg:bH->Option ai}{base:bR}{x:bH}{j k:Nat}{ps:List bH}{sp:Sp}(h:Has P w K mg base x j ps sp)(l:j<=k):Has P w K mg base x k ps sp:=by
 obtain⟨f,fd,a,b⟩:=h.ex;exact⟨f,fd,a.mono l,b⟩
section
variable {X:Cx}{k:Nat}{ps:List bH}{sp:Sp}{x:bH}{p pos:eM}{e:Expr}{es:List Expr}{t:TA}
def a6U(h:Has X.prog X.w X.K X.mg X.base x k ps sp)(hr:Room k X.A)(ha:PA X (e::es) t)(hg:Gl X x:=by rfl)(lW:(x==("__debug__":bH))=rp:=by decide)
  (he:ax (e::es) X.env=(rp,cy e X.env)::ax es X.env:=by rfl) (fV:(cB pos (ax es X.env)).any (·.1)=rp:=by rfl):PE X (.Call (.Name x p) (e::es) [] pos) (b5r sp [] E0 t):=by
 obtain⟨f,fd,F,b,kp,m⟩:=h.ex;exact b3z F hr hg m kp b .nil b8v ha lW he fV
end
mutual
def Den(H:Hp):V->bc->Prop
 |v,.none=>v=.non
 |v,.bool b=>v=.bl b
 |v,.int i=>v=.int i
 |v,.str x=>v=.str x
 |v,.list ds=>∃a xs,v=.ref a/\H a=cz (.lst xs)/\DenAll H xs ds
 |v,.tuple ds=>∃a xs,v=.ref a/\H a=cz (.tup xs)/\DenAll H xs ds
 |v,.dict kvs=>kvs=[]/\∃a,v=.ref a/\H a=cz (.dK [])
def DenAll(H:Hp):List V->List bc->Prop
 |xs,[]=>xs=[]
 |xs,d::ds=>∃v r,xs=v::r/\Den H v d/\DenAll H r ds
end
mutual
theorem Den.mono{H H':Hp}(e:Same H H'):∀(d:bc) {v:V},Den H v d->Den H' v d
 |.none,_,h=>by simpa only [Den]using h
 |.bool _,_,h=>by simpa only [Den]using h
 |.int _,_,h=>by simpa only [Den]using h
 |.str _,_,h=>by simpa only [Den]using h
 |.list ds,_,h=>by
  simp only[Den]at h ⊢;obtain⟨a,xs,h1,h2,h3⟩:=h;exact⟨a,xs,h1,e _ _ h2,DenAll.mono e ds h3⟩
 |.tuple ds,_,h=>by
  simp only[Den]at h ⊢;obtain⟨a,xs,h1,h2,h3⟩:=h;exact⟨a,xs,h1,e _ _ h2,DenAll.mono e ds h3⟩
 |.dict _,_,h=>by
  simp only[Den]at h ⊢;obtain⟨h0,a,h1,h2⟩:=h;exact⟨h0,a,h1,e _ _ h2⟩
theorem DenAll.mono{H H':Hp}(e:Same H H'):∀(ds:List bc) {xs:List V},DenAll H xs ds->DenAll H' xs ds
 |[],_,h=>by simpa only [DenAll]using h
 |d::ds,_,h=>by
  simp only[DenAll]at h ⊢;obtain⟨v,r,h1,h2,h3⟩:=h;exact⟨v,r,h1,Den.mono e d h2,DenAll.mono e ds h3⟩
end
def Den.up{H H':Hp}{d:bc}{v:V}(h:Den H v d)(e:Same H H'):Den H' v d:=Den.mono e d h
def DenAll.up{H H':Hp}{ds:List bc}{xs:List V}(h:DenAll H xs ds)(e:Same H H'):DenAll H' xs ds:=DenAll.mono e ds h
section
variable {H:Hp}
def den_none:Den H .non .none:=by simp only[Den]
def den_bool{b:Bool}:Den H (.bl b) (.bool b):=by simp only[Den]
def den_int{i:Int}:Den H (.int i) (.int i):=by simp only[Den]
def den_list{a:av}{xs:List V}{ds:List bc}(h:H a=cz (.lst xs))(q:DenAll H xs ds):Den H (.ref a) (.list ds):=by
 simp only[Den];exact⟨a,xs,rfl,h,q⟩
def den_tup{a:av}{xs:List V}{ds:List bc}(h:H a=cz (.tup xs))(q:DenAll H xs ds):Den H (.ref a) (.tuple ds):=by
 simp only[Den];exact⟨a,xs,rfl,h,q⟩
def denAll_nil:DenAll H [] []:=by simp only[DenAll]
def denAll_cons{v:V}{d:bc}{xs:List V}{ds:List bc}(h:Den H v d)(q:DenAll H xs ds):DenAll H (v::xs) (d::ds):=by
 simp only[DenAll];exact⟨v,xs,rfl,h,q⟩
def Den.list_inv{v:V}{ds:List bc}(h:Den H v (.list ds)):∃a xs,v=.ref a/\H a=cz (.lst xs)/\DenAll H xs ds:=by simpa only [Den]using h
def Den.tup_inv{v:V}{ds:List bc}(h:Den H v (.tuple ds)):∃a xs,v=.ref a/\H a=cz (.tup xs)/\DenAll H xs ds:=by simpa only [Den]using h
def Den.int_inv{v:V}{i:Int}(h:Den H v (.int i)):v=.int i:=by simpa only [Den]using h
def DenAll.cons_inv{xs:List V}{d:bc}{ds:List bc}(h:DenAll H xs (d::ds)):∃v r,xs=v::r/\Den H v d/\DenAll H r ds:=by simpa only [DenAll]using h
def DenAll.nil_inv{xs:List V}(h:DenAll H xs []):xs=[]:=by simpa only [DenAll]using h
theorem DenAll.length:∀{ds:List bc} {xs:List V},DenAll H xs ds->xs.length=ds.length
 |[],_,h=>by rw[h.nil_inv];rfl
 |d::ds,_,h=>by
  obtain⟨v,r,rfl,_,h⟩:=h.cons_inv;rw[bB,bB,DenAll.length h]
theorem DenAll.get:∀{ds:List bc} {xs:List V} {i:Nat} {d:bc},DenAll H xs ds->ds[i]?=cz d->∃v,xs[i]?=cz v/\Den H v d
 |[],_,i,d,_,e=>by simp at e
 |d0::ds,_,0,d,h,e=>by
  obtain⟨v,r,rfl,h1,_⟩:=h.cons_inv;have:d0=d:=by simpa using e
  subst this;exact⟨v,rfl,h1⟩
 |d0::ds,_,i+1,d,h,e=>by
  obtain⟨v,r,rfl,_,h1⟩:=h.cons_inv;obtain⟨u,h2,h3⟩:=DenAll.get (i:=i) h1 (by simpa using e);exact⟨u,by simpa using h2,h3⟩
def DenAll.getV{ds:List bc}{xs:List V}{i:Nat}{v:V}(h:DenAll H xs ds)(e:xs[i]?=cz v):∃d,ds[i]?=cz d/\Den H v d:=by
 have hi:=(aO.mp e).1;rw[h.length]at hi;obtain⟨u,h1,h2⟩:=h.get (au hi);rw[e]at h1;cases h1
 exact⟨_,au hi,h2⟩
theorem DenAll.append:∀{ds:List bc} {xs:List V} {es:List bc} {ys:List V},DenAll H xs ds->DenAll H ys es->DenAll H (xs++ys) (ds++es)
 |[],_,_,_,h,q=>by rw[h.nil_inv];exact q
 |d::ds,_,_,_,h,q=>by
  obtain⟨v,r,rfl,h1,h2⟩:=h.cons_inv;exact denAll_cons h1 (DenAll.append h2 q)
end
mutual
theorem Den.reads{P:bw}{w:bO}{H:Hp}{h:bR}(ok:HOk P w H h):∀(d:bc) {v:V} {u:ai},d.canLay0=p4->Den H v d->RelV v u->∃as,Reads h u d as
 |.none,v,u,_,q,r=>by
  simp only[Den]at q;subst q;cases (show u=cj from r)
  exact⟨_,.none⟩
 |.bool b,v,u,_,q,r=>by
  simp only[Den]at q;subst q;cases (show u=jq b from r)
  exact⟨_,.bool b⟩
 |.int i,v,u,_,q,r=>by
  simp only[Den]at q;subst q;obtain⟨t,rfl⟩:=r;exact⟨_,.int i t⟩
 |.str x,v,u,_,q,r=>by
  simp only[Den]at q;subst q;obtain⟨t,rfl⟩:=r;exact⟨_,.str x t⟩
 |.list ds,v,u,hl,q,r=>by
  simp only[Den]at q;obtain⟨a,xs,rfl,h1,h2⟩:=q;cases (show u=a_ a from r)
  obtain⟨z,cK,n,rv,e⟩:=ok a _ h1;obtain⟨as,ra⟩:=DenAll.reads ok ds hl h2 rv;exact⟨_,.list e rfl rfl (by simpa using ra)⟩
 |.tuple ds,v,u,hl,q,r=>by
  simp only[Den]at q;obtain⟨a,xs,rfl,h1,h2⟩:=q;cases (show u=a_ a from r)
  obtain⟨z,cK,rv,o,e,c,n,d⟩:=ok a _ h1;obtain⟨as,ra⟩:=DenAll.reads ok ds hl h2 rv;exact⟨_,.tuple e c d (by simpa using ra)⟩
 |.dict _,_,_,hl,_,_=>nomatch hl
theorem DenAll.reads{P:bw}{w:bO}{H:Hp}{h:bR}(ok:HOk P w H h):∀(ds:List bc) {xs:List V} {us:List ai},bg ds=p4->DenAll H xs ds->Vals xs us->∃as,lG h us ds as
 |[],xs,us,_,q,r=>by
  simp only[DenAll]at q;subst q;cases r
  exact⟨_,.nil⟩
 |d::ds,xs,us,hl,q,r=>by
  have pd:d.canLay0=p4/\bg ds=p4:=by simpa[bg]using hl
  simp only[DenAll]at q;obtain⟨v,rs,rfl,h1,h2⟩:=q;cases r with
  |cons r1 r2=>
   obtain⟨as,ra⟩:=Den.reads ok d pd.1 h1 r1;obtain⟨bs,rb⟩:=DenAll.reads ok ds pd.2 h2 r2;exact⟨_,.cons ra rb⟩
end
section
variable {X:Cx}
def tyD:bc->String
 |.int _=>"int"
 |.bool _=>"bool"
 |.list _=>"list"
 |.tuple _=>"tuple"
 |.none=>"NoneType"
 |.str _=>"str"
 |.dict _=>"dict"
def Den.ty{K:af}{H:Hp}{v:V}:∀{d:bc},Den H v d->TyOf K H v (.type (tyD d))
 |.none,h=>by simp only[Den]at h;subst h;exact .non
 |.bool _,h=>by simp only[Den]at h;subst h;exact .bl _
 |.int _,h=>by simp only[Den]at h;subst h;exact .int _
 |.str _,h=>by simp only[Den]at h;subst h;exact .str _
 |.list _,h=>by simp only[Den]at h;obtain⟨a,xs,rfl,h1,_⟩:=h;exact .lst h1
 |.tuple _,h=>by simp only[Den]at h;obtain⟨a,xs,rfl,h1,_⟩:=h;exact .tup h1
 |.dict _,h=>by simp only[Den]at h;obtain⟨_,a,rfl,h1⟩:=h;exact .dK h1
def call_listK(K:af)(h:X.K=K):CallR X (.type "list") (λxs H Q=>∃p ys,xs=[.ref p]/\(SqL K H p ys\/SqT K H p ys)/\∀l,H l=el->Q (.ref l) (upd H l (.lst ys))):=by
 subst h;exact a0s
def Inv.sysBelow(I:Inv X pins Y H s):cN<s.heap.objs.size:=by
 have h:bL<s.heap.objs.size:=(I.mod.glob.keeps I.bk).lt;exact fu (by decide) h
end
def k6(h:H p=el)(o:HO):Same H (upd H p o):=λb u q=>by rw[f6 (n8 q h)];exact q
def b0V(e:Same H H')(h:H p=el)(o:HO):Same H (upd H' p o):=λb u q=>by rw[f6 (n8 q h)];exact e b u q
def PTs(X:Cx)(ifs:List Expr)(tt:TT):Prop:=
 ∀(pins:List (av×fD)) (s:ar) (Y:St) (H:Hp) (Q:Bool->Hp->Prop),Inv X pins Y H s->tt Y H Q->
  aD (aT X.prog X.w) X.A (forIn ifs p4 λc r=>if r=p4 then do let ok <-rd c X.env (cy c X.env);pure (dO ok) else pure (dO r)) (TP X pins Y Q) X.xe s
def c0d:TT:=λ_ H Q=>Q p4 H
def b3I:PTs X [] c0d:=λ_ _ Y H _ I h=>wpAny_tests_nil ⟨H,I,h⟩
def b3J(h:PT X c tt):PTs X [c] tt:=λpins s Y H Q I q=>wpAny_tests_one (h pins s Y H Q I q)
section
variable {prog:bw}{w:bO}{A:bC}{R:Fy->ar->Prop}{s:ar}
def a3D(I:Nat->ar->Prop)
  (turn:∀n s,I n s->aD (aT prog w) A (fP it) (λr s₁=>match r with
   |none=>R (.ok .next) s₁
   |some v=>aD (aT prog w) A (mh target it v) (λ_ s₂=>aD (aT prog w) A (ng target env v) (λ_ s₃=>
     aD (aT prog w) A (forIn ifs p4 λc r=>if r=p4 then do let ok <-rd c env (cy c env);pure (dO ok) else pure (dO r)) (λok pF=>
     if ok=p4 then aD (aT prog w) A (cy elt env) (λx s₄=>
      aD (aT prog w) A (call (.builtin "list.append") [acc,x]) (λ_ s₅=>∃m,m<n/\I m s₅) (λ_ _=>False) s₄) (λ_ _=>False) pF
     else ∃m,m<n/\I m pF)
     (λ_ _=>False) s₃) (λ_ _=>False) s₂) (λ_ _=>False) s₁) (λ_ _=>False) s)
  (n:Nat) (h:I n s) :
  gH (aT prog w) A (.compLoop (.ListComp elt [⟨target,iter,ifs,0⟩] scope pos) 0 it acc env) R s:=by
 refine codeAny_loop rfl I (λn s hI=>?_) n h;show aD _ _ ((compTurn (.ListComp elt [⟨target,iter,ifs,0⟩] scope pos) 0 it acc env).onRaise (λx=>do noteFrame x env;theTreesLotGoes x)) _ _ s;refine wpAny_noted ?_;rw[compTurn_list];refine ab (wpAny_standAt (ab (c_ (turn n s hI) (λr s₁ h₁=>?_) λ_ _ h'=>h'.elim)));cases r with
 |none=>exact ae h₁
 |some v=>
  refine ab (c_ h₁ (λ_ s₂ h₂=>?_) λ_ _ h'=>h'.elim);refine ab (c_ h₂ (λ_ s₃ h₃=>ab (c_ h₃ (λok pF nZ=>?_) λ_ _ h'=>h'.elim)) λ_ _ h'=>h'.elim);cases ok with
  |false=>
   rw[aL aS]at nZ;exact ab (ae (ae ⟨rfl,nZ⟩))
  |true=>
   rw[aG rfl]at nZ;exact ab (ab (c_ nZ (λx s₄ h₄=>ab (c_ h₄ (λ_ s₅ h₅=>ae (ae ⟨rfl,h₅⟩)) λ_ _ h'=>h'.elim)) λ_ _ h'=>h'.elim))
end
def a4T(wi:TI)(g:TG)(tt:TT)(te:TE)(τ:St->St):TE:=λY H Q=>wi Y H λJ H1=>∀D,H1 D=el->∃W:Nat->Nat->List V->St->Hp->Prop,(∃m,W 0 m [] (τ Y) (upd H1 D (.lst [])))/\
 ∀i m ys Y' H',W i m ys Y' H'->(J.stop i H'/\Q (.ref D) H')\/
  (J.go i H'/\∃(N:V->St->Hp->Prop) (NO:St->Hp->Prop),(∀y Y3 H4,N y Y3 H4->H4 D=cz (.lst ys)/\ys.length<aP/\∃m',m'<m/\W (i+1) m' (ys++[y]) Y3 (upd H4 D (.lst (ys++[y]))))/\
   (∀Y3 H4,NO Y3 H4->∃m',m'<m/\W (i+1) m' ys Y3 H4)/\∀x H2,J.yld i H' x H2->g x Y' H2 λY3 H3=>tt Y3 H3 λb H4=>if b=p4 then te Y3 H4 λy H5=>N y Y3 H5 else NO Y3 H4)
section
variable {X:Cx}{N:List bH}{scope:gd}{cl:List (bH×av)}{τ:St->St}{elt tg iter:Expr}{ifs:List Expr}{pos:eM}{wi:TI}{g:TG}{tt:TT}{te:TE}
def a3R(hc:X.calm=p4)(hi:PI X tg iter wi)(C:CompIn X N scope cl τ)(hg:∀Cl s H fp,PG (O1 X N scope cl Cl s H fp) tg g)(ht:∀Cl s H fp,PTs (O1 X N scope cl Cl s H fp) ifs tt)(he:∀Cl s H fp,PE (O1 X N scope cl Cl s H fp) elt te)
  (I:Inv X pins Y H s) (h:a4T wi g tt te τ Y H R) {PP:ai->av->Fy->ar->Prop}
  (EF:∀D Cl Hn s' o m,Inv X pins Y Hn s'->R (.ref D) Hn->a0o X pins Hn Cl->s'.heap.get? Cl=cz o->(∀v,o.data≠.cell v)->(∀h':bR,h'.get? Cl=cz o->h'.Ns Cl m)->PP (.ref D) Cl (.ok .next) s') :
  aD (aT X.prog X.w) X.A (cy iter X.env) (λx s₁=>aD (aT X.prog X.w) X.A (qY x) (λit s₂=>aD (aT X.prog X.w) X.A (newList []) (λacc s₃=>
   aD (aT X.prog X.w) X.A (newFunctionEnv scope X.env.globals cl [] X.env.qual el .none (cz X.env)) (λwx s₄=>
    gH (aT X.prog X.w) X.A (.compStart (.ListComp elt [⟨tg,iter,ifs,0⟩] scope pos) 0 it acc {wx with scope:=lR scope X.env}) (PP acc wx.locals) s₄) X.xe s₃) X.xe s₂) X.xe s₁) X.xe s:=by
 refine thn (hi pins s Y H _ I h) λx s1 h1=>thn h1 λyc s2 h2=>?_
 obtain⟨it,fp,tn,J,H2,rfl,I2,T,uL,f2,q⟩:=h2;refine de (wpAny_newFunctionEnv C.ncell (by intro y hy;simp at hy) (λh₁ nQ mB=>?_) C.kind)
 dsimp only at nQ mB ⊢
 generalize zp:s2.heap.push {cls:=.type "list",dict:=el,data:=.seq ([]:List ai).toArray}=G2 at nQ mB ⊢;have hC:G2.objs.size=s2.heap.objs.size+1:=by rw[<-zp,cH]
 have Bi:s2.heap.objs.size≠G2.objs.size:=by rw[hC];exact ba (ka _)
 have tO:s2.heap.objs.size<=G2.objs.size:=by rw[hC];exact gx _
 have below:∀b,b<s2.heap.objs.size->b≠G2.objs.size:=λb hb=>by rw[hC];exact ba (gf hb)
 have old:∀b o,s2.heap.get? b=cz o->h₁.get? b=cz o:=λb o e=>mB.extBut b o (below b (aF e)) (ag _ (zp▸ag _ e))
 have kl:h₁.get? s2.heap.objs.size=cz {cls:=.type "list",dict:=el,data:=.seq ([]:List ai).toArray}:=mB.extBut _ _ Bi (ag _ (zp▸aE _ rfl));have zy:∀b∈fp,b<s2.heap.objs.size:=λb hb=>by
  obtain⟨o,e,_⟩:=T.obj 0 _ uL b hb;exact aF e
 have Bh:H2 s2.heap.objs.size=el:=I2.hok.fresh (aB _);have ES:H2 G2.objs.size=el:=I2.hok.fresh tO;generalize xu:G2.objs.size=Cl at *;have Cb:∀b∈frs X.stack,b<s2.heap.objs.size:=λb hb=>by
  rcases aC.mp (I2.stkSub b hb) with e|hb
  ·rw[e];exact I2.lt
  ·obtain⟨_,o,ho,_⟩:=I2.funs.mem hb;exact aF ho
 have xV:(O1 X N scope cl Cl s2 H2 fp).Ok:=by
  refine⟨I2.ok.mod,C.kind,I2.ok.glob,I2.ok.blt,tO,λx y c e1 e2=>I2.ok.inj x y c (C.sub x c e1) (C.sub y c e2),λx hx=>?_,λx c hx _=>(nomatch hx),λz=>I2.ok.hd z,I2.ok.frames,.inl rfl,λb hb=>⟨below b (zy b hb),λx c e=>(f2 b hb).2.2.2.2.1 x c (C.sub x c e)⟩,
   I2.bs,bV I2.ok.bsz I2.sz,λb o e hb=>?_,λb hb z=>?_,I2.stack,I2.stkFree,I2.tabs⟩
  ·obtain⟨y,hy,rfl,ey⟩:=a0t C.ncell hx;exact C.has y hy ey
  ·rcases (f2 b hb).2.2.2.1 with z|z
   ·exact I2.ok.noex b o e z
   ·exact absurd (bu (aF e) (bV I2.ok.bsz z)) (dg _)
  ·rcases aC.mp (I2.stkSub b z) with e|e
   ·exact (f2 b hb).2.1 e
   ·exact (f2 b hb).2.2.1 e
 have I4:Inv (O1 X N scope cl Cl s2 H2 fp) pins (τ Y) (upd H2 s2.heap.objs.size (.lst [])) {s2 with heap:=h₁,toks:=s2.toks+([]:List (bH×ai)).length}:=by
  have lc:=I2.loc;obtain⟨m,hn,hl⟩:=lc;refine⟨xV,rfl,I2.bare,Un.laid old (aB _) Bh,⟨_,nQ,λi x v e1 e2 e3=>?_⟩,λx c e=>?_,?_,λx c e=>?_,λp hp=>?_,I2.hok.laid old (aB _) ⟨b_ _,[],_,.nil,kl⟩,C.tlen Y⟩
  ·obtain⟨j,j1,j2,j3,j4⟩:=C.tval Y i x v e1 e2;have kx:(lR scope X.env).names.lookup x=cz .cell\/(lR scope X.env).names.lookup x=cz .free:=a4S j3;obtain⟨y,hy,EZ,ey⟩:=a0t C.ncell kx;obtain⟨c,tJ⟩:=C.has y hy ey;rw[EZ]at tJ;have zc:=C.sub x c tJ;have hv:Vis X.env.scope x:=.inr j4;obtain⟨u,ru,lk⟩:=hl j x v j1 j2 hv;refine⟨u,ru,?_⟩;rcases lk with⟨k,_⟩|⟨k,c',e',z⟩
   ·rcases j4 with j4|j4
    ·rw[j4]at k;cases k
    ·rw[j4]at k;cases k
   ·rw[zc]at e';cases e'
    obtain⟨o,ho,hd⟩:=z;exact .inr ⟨kx,c,tJ,⟨o,old c o ho,hd⟩⟩
  ·obtain⟨v,o,ho,hd⟩:=I2.cell x c (C.sub x c e);exact⟨v,o,old c o ho,hd⟩
  ·show upd H2 s2.heap.objs.size (.lst []) Cl=el;rw[f6 (dc Bi)];exact ES
  ·have n:=I2.freeC x c (C.sub x c e);obtain⟨v,o,ho,hd⟩:=I2.cell x c (C.sub x c e);rw[f6 (ba (aF ho))];exact n
  ·obtain⟨e,n,ne,nf,d⟩:=I2.pin p hp;refine⟨old _ _ e,by rw[f6 (ba (aF e))];exact n,below _ (aF e),λz=>?_,d⟩;rcases aC.mp (I2.stkSub p.1 z) with e'|e'
   ·exact ne e'
   ·exact nf e'
 have nL:∀{H':Hp},(∀b∈fp,H' b=el)->∀b∈fp,a0o (O1 X N scope cl Cl s2 H2 fp) pins H' b:=λhn b hb=>
  ⟨hn b hb,below b (zy b hb),xV.exfs b hb,.inl hb,(xV.exf b hb).2,(f2 b hb).2.2.2.2.2⟩
 obtain⟨W,⟨m0,w0⟩,turn⟩:=q s2.heap.objs.size Bh;have loop:∀s₃:ar,s₃={s2 with heap:=h₁,toks:=s2.toks+([]:List (bH×ai)).length}->
   gH (aT X.prog X.w) X.A (.compLoop (.ListComp elt [⟨tg,iter,ifs,0⟩] scope pos) 0 (.ref it) (.ref s2.heap.objs.size) (compEnvC scope cl Cl X.env)) (PP (.ref s2.heap.objs.size) Cl) s₃:=by
  rintro s₃ rfl;refine a3D (λn s'=>∃i ys Y' H',Inv (O1 X N scope cl Cl s2 H2 fp) pins Y' H' s'/\tn i s'.heap/\(∀b∈fp,H' b=el)/\W i n ys Y' H') ?_ m0
   ⟨0,[],τ Y,_,I4,T.keep _ _ _ uL λb hb o e=>old b o e,λb hb=>by rw[f6 (ba (zy b hb))];exact (f2 b hb).1,w0⟩
  rintro n s3 ⟨i,ys,Y3,H3,I3,uK,wc,w3⟩;rcases turn i n ys Y3 H3 w3 with⟨stop,qn⟩|⟨go,NN,NO,hN,hO,step⟩
  ·refine thn (T.done (O1 X N scope cl Cl s2 H2 fp) rfl rfl rfl hc i pins s3 Y3 H3 _ I3 (nL wc) uK stop) λr s4 ⟨hr,I5⟩=>?_
   subst hr;have lc:=I5.loc;obtain⟨m,hn,_⟩:=lc;obtain⟨o,es,ep,ho,hd,jx⟩:=hn;have J5:Inv X pins Y H3 s4:=I2.call' (ch:=fp) I5.os I5.base I5.hok I5.bare λb hb=>⟨(f2 b hb).2.2.2.1,(f2 b hb).2.1,(f2 b hb).2.2.2.2.1,(f2 b hb).2.2.2.2.2⟩
   refine EF _ Cl H3 s4 o m J5 qn (I2.fpOk tO I5.free) ho (λv z=>by rw[hd]at z;cases z) λh' e=>⟨o,es,ep,e,hd,jx⟩
  ·refine thn (T.item (O1 X N scope cl Cl s2 H2 fp) rfl rfl rfl hc i pins s3 Y3 H3 _ I3 (nL wc) uK go) λr s4 ⟨u,hr,h4⟩=>?_
   subst hr;refine thn h4 λ_ s5 ⟨x,H5,I5,r5,y5,qW,zx⟩=>?_
   have zI:=I5.pinned (nL zx) (T.obj _ _ qW);refine thn (hg Cl s2 H2 fp _ s5 Y3 H5 x u _ zI r5 (step x H5 y5)) λ_ s6 ⟨Y6,H6,I6,q6⟩=>?_
   refine thn (ht Cl s2 H2 fp _ s6 Y6 H6 _ I6 q6) λok Ce ⟨FI,xD,wK⟩=>?_
   cases ok with
   |false=>
    rw[aL aS]at wK ⊢;obtain⟨m',hm,w7⟩:=hO _ _ wK;refine⟨m',hm,i+1,ys,Y6,_,xD.unpinned,T.keep _ _ _ qW λb hb o e=>(xD.pin (b,o) (aq _ (aq _ (D8 hb e)))).1,λb hb=>?_,w7⟩;obtain⟨o,e,d⟩:=T.obj _ _ qW b hb;exact (xD.pin (b,o) (aq _ (aq _ (D8 hb e)))).2.1
   |true=>
    rw[aG rfl]at wK ⊢;refine thn (he Cl s2 H2 fp _ Ce Y6 FI _ xD wK) λyv s7 ⟨y,H7,I7,r7,q7⟩=>?_
    obtain⟨Cn,Cm,m',hm,w7⟩:=hN _ _ _ q7;refine thn (a1g (X:=O1 X N scope cl Cl s2 H2 fp) _ s7 Y6 H7 (.ref s2.heap.objs.size) [y] (.ref s2.heap.objs.size) [yv] (λ_ H8=>H8=upd H7 s2.heap.objs.size (.lst (ys++[y]))) I7 rfl (.cons r7 .nil)
     ⟨_,ys,y,rfl,rfl,Cn,Cm,rfl⟩) λ_ s8 ⟨_,H8,I8,_,e8⟩=>?_
    subst e8;refine⟨m',hm,i+1,ys++[y],Y6,_,I8.unpinned,T.keep _ _ _ qW λb hb o e=>(I8.pin (b,o) (aq _ (aq _ (D8 hb e)))).1,λb hb=>?_,w7⟩;obtain⟨o,e,d⟩:=T.obj _ _ qW b hb;exact (I8.pin (b,o) (aq _ (aq _ (D8 hb e)))).2.1
 have Cc:tn 0 h₁:=T.keep _ _ _ uL λb hb o e=>old b o e
 exact codeAny_compStart_list (loop _ rfl) (T.self X.A 0 {s2 with heap:=h₁,toks:=s2.toks+([]:List (bH×ai)).length} _ _ Cc (loop _ rfl))
end
def A0(env:ox):List (bH×iO)->List (bH×av)->List (bH×av)
 |[],cs=>cs
 | (n,k)::r,cs=>A0 env r (if k==.free then (n,(env.cells.lookup n).getD 0)::cs else cs)
theorem V4{env:ox}:∀(names:List (bH×iO)) (cs:List (bH×av)),(∀y∈names,y.2=.free->∃c,env.cells.lookup y.1=cz c)->
  (forIn names cs λ(x:bH×iO) (cs:List (bH×av))=>(if x.2==.free then do let a <-cellOf env x.1;pure (dO ((x.1,a)::cs)) else pure (dO cs):Sem (ForInStep (List (bH×av)))))=pure (A0 env names cs)
 |[],cs,_=>by rw[jE];rfl
 | (n,k)::r,cs,h=>by
  rw[iY]
  dsimp only
  by_cases hk:(k==e_)=p4
  ·obtain⟨c,hc⟩:=h (n,k) aj (by simpa using hk);rw[aG hk];have e:cellOf env n=pure c:=by unfold cellOf;rw[hc]
   rw[e];have:=V4 r ((n,c)::cs) λy hy=>h y (ak _ hy)
   have e2:A0 env ((n,k)::r) cs=A0 env r ((n,c)::cs):=by
    show A0 env r (if k==.free then (n,(env.cells.lookup n).getD 0)::cs else cs)=_;rw[aG hk,hc];rfl
   rw[e2,<-this];simp only[pure_bind]
  ·rw[aL hk];have:=V4 r cs λy hy=>h y (ak _ hy)
   have e2:A0 env ((n,k)::r) cs=A0 env r cs:=by
    show A0 env r (if k==.free then (n,(env.cells.lookup n).getD 0)::cs else cs)=_;rw[aL hk]
   rw[e2,<-this];simp only[pure_bind]
def a6V{scope:gd}{env:ox}(h:∀y∈scope.names,y.2=.free->∃c,env.cells.lookup y.1=cz c):oQ scope env=pure (A0 env scope.names []):=by
 have:=V4 scope.names [] h;rw[<-this];unfold oQ;simp
theorem a0a{env:ox}:∀(names:List (bH×iO)) (cs:List (bH×av)),(∀y∈names,y.2=.free->∃c,env.cells.lookup y.1=cz c)->(∀p∈cs,env.cells.lookup p.1=cz p.2)->
  (∀p∈A0 env names cs,env.cells.lookup p.1=cz p.2)/\(∀p∈cs,p∈A0 env names cs)/\∀y∈names,y.2=.free->∃c,(y.1,c)∈A0 env names cs
 |[],cs,_,hc=>⟨hc,λ_ h=>h,λy hy=>(nomatch hy)⟩
 | (n,k)::r,cs,h,hc=>by
  by_cases hk:(k==e_)=p4
  ·obtain⟨c,e⟩:=h (n,k) aj (by simpa using hk);have e2:A0 env ((n,k)::r) cs=A0 env r ((n,c)::cs):=by
    show A0 env r (if k==.free then (n,(env.cells.lookup n).getD 0)::cs else cs)=_;rw[aG hk,e];rfl
   rw[e2];obtain⟨a,b,d⟩:=a0a r ((n,c)::cs) (λy hy=>h y (ak _ hy)) λp hp=>by
    rcases aC.mp hp with z|z
    ·rw[z];exact e
    ·exact hc p z
   refine⟨a,λp hp=>b p (ak _ hp),λy hy hf=>?_⟩;rcases aC.mp hy with z|z
   ·rw[z];exact⟨c,b _ aj⟩
   ·exact d y z hf
  ·have e2:A0 env ((n,k)::r) cs=A0 env r cs:=by
    show A0 env r (if k==.free then (n,(env.cells.lookup n).getD 0)::cs else cs)=_;rw[aL hk]
   rw[e2];obtain⟨a,b,d⟩:=a0a r cs (λy hy=>h y (ak _ hy)) hc;refine⟨a,b,λy hy hf=>?_⟩;rcases aC.mp hy with z|z
   ·rw[z]at hf;exact absurd (by simpa using hf) hk
   ·exact d y z hf
theorem Y9:∀{l:List (bH×av)},(x,c)∈l->∃c',l.lookup x=cz c'
 |[],h=>nomatch h
 | (y,d)::l,h=>by
  rw[fL];cases e:x==y with
  |true=>exact⟨d,rfl⟩
  |false=>
   rcases aC.mp h with z|z
   ·cases z;simp at e
   ·exact Y9 z
def X3(scope:gd)(okind:bH->Option iO)(ys:List bH)(js:List Nat)(XN:List bH):Bool:=
 scope.kind==.function&&scope.names.all (λy=>y.2 !=.cell&&(y.2 !=.local||scope.names.lookup y.1==cz .local)&&(y.2 !=.free||(okind y.1==cz .cell||okind y.1==cz .free))) &&
 ys.length==js.length&&(ys.zip js).all λp=>XN[p.2]?==cz p.1&&scope.names.lookup p.1==cz .free&&(okind p.1==cz .cell||okind p.1==cz .free)
def a1h(tn:List bH)(js:List Nat):St->St:=λY=>aN tn.length el++js.map λj=>(Y[j]?).getD el
def a3S{X:Cx}{scope:gd}(ok:X.Ok)(h:X3 scope X.env.kindOf ys js X.N=p4):CompIn X (tn++ys) scope (A0 X.env scope.names []) (a1h tn js):=by
 unfold X3 at h;rw[aw,aw,aw,bj,bj]at h;obtain⟨⟨⟨hk,ha⟩,hl⟩,hz⟩:=h;have mj:∀y∈scope.names,y.2≠.cell:=λy hy e=>by
  have:=ha y hy;rw[e]at this;simp at this
 have yI:∀y∈scope.names,y.2=.local->scope.names.lookup y.1=cz .local:=λy hy e=>by
  have:=ha y hy;rw[e]at this;simpa using this
 have mY:∀y∈scope.names,y.2=.free->∃c,X.env.cells.lookup y.1=cz c:=λy hy e=>by
  have:=ha y hy;rw[e]at this;refine ok.has y.1 ?_;simpa using this
 obtain⟨a,_,d⟩:=a0a scope.names [] mY λp hp=>(nomatch hp)
 refine⟨a6V mY,by simpa using hk,mj,yI,λx c e=>a _ (bZ e),λy hy e=>?_,λY=>?_,λY i x v h1 h2=>?_⟩
 ·obtain⟨c,hc⟩:=d y hy e;exact Y9 hc
 ·have:ys.length=js.length:=by simpa using hl
  unfold a1h;simp[this]
 ·unfold a1h at h2;by_cases hi:i<tn.length
  ·rw[gJ (by simpa using hi),sG]at h2
   split at h2<;>cases h2
  ·rw[eV (by simpa using hi),fZ,aX]at h2;rw[eV (by lia)]at h1;cases hj:js[i-tn.length]? with
   |none=>rw[hj]at h2;cases h2
   |some j=>
    rw[hj]at h2;have h3:(Y[j]?).getD el=cz v:=by simpa using h2
    have kj:(x,j)∈ys.zip js:=by
     have hlen:=(aO.mp h1).1;have AF:=(aO.mp hj).1;rw[bJ];refine⟨i-tn.length,?_⟩;rw[gI];exact⟨h1,hj⟩
    have:=hz _ kj;rw[aw,aw,iZ]at this;obtain⟨⟨e1,e2⟩,e3⟩:=this;refine⟨j,by simpa using e1,?_,by simpa using e2,by simpa using e3⟩;cases q:Y[j]? with
    |none=>rw[q]at h3;cases h3
    |some o=>rw[q]at h3;have:o=cz v:=h3;rw[this]
section
variable {X:Cx}{tn ys:List bH}{js:List Nat}{scope:gd}{elt tg iter:Expr}{ifs:List Expr}{pos:eM}{wi:TI}{g:TG}{tt:TT}{te:TE}
def b0W(hc:X.calm=p4)(hi:PI X tg iter wi)(C:X3 scope X.env.kindOf ys js X.N=p4)(hg:∀cl Cl s H fp,PG (O1 X (tn++ys) scope cl Cl s H fp) tg g)(ht:∀cl Cl s H fp,PTs (O1 X (tn++ys) scope cl Cl s H fp) ifs tt)(he:∀cl Cl s H fp,PE (O1 X (tn++ys) scope cl Cl s H fp) elt te)
  (hs:∀x,dR iter X.env x=pure x:=by intro _;rfl):PE X (.ListComp elt [⟨tg,iter,ifs,0⟩] scope pos) (a4T wi g tt te (a1h tn js)):=by
 intro pins s Y H Q I h;have C:=a3S (tn:=tn) I.ok C;rw[eval_ListComp];refine xM (use:=el) rfl hs C.clos C.kind C.names (a3R hc hi C (hg _) (ht _) (he _) I h (PP:=λacc Cl=>compPost (aT X.prog X.w) X.A X.xe el (EP X pins Y Q) acc Cl) ?_);intro D Cl Hn s' o m I' hq F ho hd og;refine⟨m,og _ ho,λh' qG=>⟨.ref D,Hn,?_,rfl,hq⟩⟩;exact I'.turned (t':=s'.toks) (λb ob hb e=>(qG.2 b hb).trans e) F.1 F.2.1 F.2.2.2.1 F.2.2.2.2.1 F.2.2.2.2.2
def a5B{py mx:eM}(hc:X.calm=p4)(hN:X.N.Nodup)(hy:X.N[i]?=cz y)(hx:Loc X.env.scope y)(hi:PI X tg iter wi)(C:X3 scope X.env.kindOf ys js X.N=p4)
  (hg:∀cl Cl s H fp,PG (O1 X (tn++ys) scope cl Cl s H fp) tg g) (ht:∀cl Cl s H fp,PTs (O1 X (tn++ys) scope cl Cl s H fp) ifs tt) (he:∀cl Cl s H fp,PE (O1 X (tn++ys) scope cl Cl s H fp) elt te)
  (oI:fE (.ListComp elt [⟨tg,iter,ifs,0⟩] scope pos) (cz (.Name y py)) mx.line X.env=pure p4:=by rfl) (hs:∀x,dR iter X.env x=pure x:=by intro _;rfl)
  (hf:autoParam (X.fn y=p4\/X.env.scope.names.lookup y=cz .local) ZZ._auto_1) :
  PS X (.Assign [.Name y py] (.ListComp elt [⟨tg,iter,ifs,0⟩] scope pos) mx) (b6f (a4T wi g tt te (a1h tn js)) (J9 i)):=by
 intro pins s Y H D I h;have C:=a3S (tn:=tn) I.ok C;rw[exec_Assign_Name_used _ _ _ _ oI];refine ab (wpAny_standAt (ab ?_));show aD _ X.A (do let _ <-comprehension (.ListComp elt [⟨tg,iter,ifs,0⟩] scope pos) scope X.env _ (newList []) rp (cy iter X.env) (cz (ng (.Name y py) X.env))) _ _ s;refine ab (c_ (xM (use:=cz (ng (.Name y py) X.env)) (Q:=λ_ s'=>SP X pins D .next s') rfl hs C.clos C.kind C.names
  (a3R hc hi C (hg _) (ht _) (he _) I h (PP:=λacc Cl=>compPost (aT X.prog X.w) X.A X.xe (cz (ng (.Name y py) X.env)) (λ_ s'=>SP X pins D .next s') acc Cl) ?_)) (λ_ s' hq=>ae (ae hq)) λ_ _ e=>e)
 intro Dl Cl Hn s' o m I' hq F ho hd og;have I1:=I'.pinned (fp:=[Cl]) (λb hb=>by rw[ao.mp hb];exact F) (λb hb=>by rw[ao.mp hb];exact⟨o,ho,hd⟩);show aD _ X.A (ng (.Name y py) X.env (.ref Dl)) _ _ _;refine wpAny_assign_Name (a2n I1 hN hy hx (v:=.ref Dl) rfl (λs2 I2=>?_) hf);have e2:=(I2.pin (Cl,o) (aq _ (aq _ (D8 (ao.mpr rfl) ho)))).1;refine⟨m,og _ e2,λh' qG=>⟨Y.set i (cz (.ref Dl)),Hn,?_,hq⟩⟩;exact I2.unpinned.turned (t':=s2.toks) (λb ob hb e=>(qG.2 b hb).trans e) F.1 F.2.1 F.2.2.2.1 F.2.2.2.2.1 F.2.2.2.2.2
end
end L2
namespace VS
open PySem PySem.Spec L2
abbrev D:=bc
mutual
def B9:D->Bool
 |.int _=>p4
 |.tuple ds=>r8 ds
 |.none|.bool _|.str _|.list _|.dict _=>rp
def r8:List D->Bool
 |[]=>p4
 |d::ds=>B9 d&&r8 ds
end
mutual
def hashD:D->Int
 |.int i=>jL i
 |.tuple ds=>reduceHash (eh (B5 ds))
 |.none|.bool _|.str _|.list _|.dict _=>0
def B5:List D->List Int
 |[]=>[]
 |d::ds=>hashD d::B5 ds
end
mutual
def u5:D->Nat
 |.int _=>1
 |.tuple ds=>Q1 ds+1
 |.none|.bool _|.str _|.list _|.dict _=>0
def Q1:List D->Nat
 |[]=>0
 |d::ds=>u5 d+Q1 ds
end
mutual
theorem V5:∀d:D,B9 d=p4->d.canLay0=p4
 |.int _,_=>by simp only[cC]
 |.tuple ds,h=>by
  simp only[B9]at h;simp only[cC];exact a1A ds h
 |.none,h|.bool _,h|.str _,h|.list _,h|.dict _,h=>by simp only[B9]at h;cases h
theorem a1A:∀ds:List D,r8 ds=p4->bg ds=p4
 |[],_=>by simp only[bg]
 |d::ds,h=>by
  simp only[r8,aw]at h;simp only[bg,aw];exact⟨V5 d h.1,a1A ds h.2⟩
end
mutual
theorem B6:∀a b:D,B9 a=p4->B9 b=p4->(aK a b=p4↔a=b)
 |.int i,b,_,hb=>by
  cases b with
  |int j=>
   show (i==j)=p4↔_;rw[kn];exact⟨λe=>by rw[e],λe=>by injection e⟩
  |tuple ds=>simp[aK]
  |_=>simp only[B9]at hb;cases hb
 |.tuple xs,b,ha,hb=>by
  cases b with
  |int j=>simp[aK]
  |tuple ys=>
   simp only[B9]at ha hb;simp only[aK];rw[a1B xs ys ha hb];exact⟨λe=>by rw[e],λe=>by injection e⟩
  |_=>simp only[B9]at hb;cases hb
 |.none,b,h,_|.bool _,b,h,_|.str _,b,h,_|.list _,b,h,_|.dict _,b,h,_=>by simp only[B9]at h;cases h
theorem a1B:∀a b:List D,r8 a=p4->r8 b=p4->(cR a b=p4↔a=b)
 |[],[],_,_=>by simp[cR]
 |[],_::_,_,_=>by simp[cR]
 |_::_,[],_,_=>by simp[cR]
 |x::xs,y::ys,ha,hb=>by
  simp only[r8,aw]at ha hb;simp only[cR,aw];rw[B6 x y ha.1 hb.1,a1B xs ys ha.2 hb.2]
  constructor
  ·rintro⟨rfl,rfl⟩;rfl
  ·intro e;injection e with e1 e2;exact⟨e1,e2⟩
end
mutual
theorem a2q{h h':bR}{es ep}(ho:h.get? d=cz o)(hd:o.data=.dict es ep)(hs:cD d h h'):∀(k:D) {v:ai} {as:List av},B9 k=p4->Reads h v k as->Reads h' v k as
 |.int _,_,_,_,r=>by cases r;exact .int _ _
 |.tuple ds,_,_,hk,r=>by
  simp only[B9]at hk;cases r with
  |@tuple a oo vs n _ as c1 c2 c3 c4=>
   have gC:a≠d:=by
    rintro rfl;obtain rfl:oo=o:=aH (c1.symm.trans ho);rw[hd]at c3;exact nomatch c3
   exact .tuple ((hs.2 a gC).trans c1) c2 c3 (Z0 ho hd hs ds hk c4)
 |.none,_,_,h,_|.bool _,_,_,h,_|.str _,_,_,h,_|.list _,_,_,h,_|.dict _,_,_,h,_=>by simp only[B9]at h;cases h
theorem Z0{h h':bR}{es ep}(ho:h.get? d=cz o)(hd:o.data=.dict es ep)(hs:cD d h h'):∀(ks:List D) {vs:List ai} {as:List av},r8 ks=p4->lG h vs ks as->lG h' vs ks as
 |[],_,_,_,r=>by cases r;exact .nil
 |k::ks,_,_,hk,r=>by
  simp only[r8,aw]at hk;cases r with
  |cons r1 r2=>exact .cons (a2q ho hd hs k hk.1 r1) (Z0 ho hd hs ks hk.2 r2)
end
section
variable {prog:bw}{w:bO}{E:ai->ar->Prop}
mutual
theorem a2r:∀(k:D) {A:bC} {s:ar} {v:ai} {as:List av} {Q:Int->ar->Prop},B9 k=p4->A.units+k.depth<dq->Reads s.heap v k as->Q (hashD k) {s with toks:=s.toks+u5 k}->aD (aT prog w) A (pyHash v) Q E s
 |.int i,A,s,v,as,Q,_,_,r,h=>by
  cases r
  simp only[hashD,u5]at h;exact wpAny_pyHash_int h
 |.tuple ds,A,s,v,as,Q,hk,hu,r,h=>by
  simp only[B9]at hk;simp only[dy]at hu;simp only[hashD,u5]at h;cases r with
  |@tuple a o items n _ as ho hc hd hi=>
   have hT:s.TypeIs (.ref a) "tuple":=⟨o,ho,hc⟩;unfold pyHash
   first|unfold pyHashByItsType|skip
   first|refine ab (wpAny_cRoomFor_or (.inr (by lia)) ?_)|skip
   refine ab (du hT kL.lookup ?_);show aD _ _ (if (cz (zD "tuple.__hash__")==cz cj)=p4 then _ else _) Q E s;rw[aL (by rw[beq_builtin_none];exact aS)];refine ab (du hT kL.lookup ?_);show aD _ _ (callSpecialIfBoundUnlessNone? (.ref a) "__hash__" _ >>= _) Q E s;refine ab (wpAny_callSpecialIfBoundUnlessNone?_slot hT kL (bD kL hT F.entry_tuple_hash ?_ (F.args_tuple_hash_1 _)));show aD _ _ (Builtin.Tuple.tupleItemsOf (.ref a) >>= _) _ _ s;refine ab (wpAny_tupleItemsOf ho hd ?_);refine ab ?_;rw[<-mJ];refine a3T ds (A:=A.in1) (acc:=#[]) hk (by show A.units+1+_<_;lia) hi ?_;show aD _ _ (retInt (eh _)) _ _ _;simp only[Array.toList_append,cw];refine sL ?_;show aD _ _ (if (decide (-(2:Int)^63<=eh (B5 ds))&&decide (eh (B5 ds)<2^63))=p4 then _ else _) Q E _;unfold reduceHash at h;by_cases hr:(decide (-(2:Int)^63<=eh (B5 ds))&&decide (eh (B5 ds)<2^63))=p4
   ·rw[aG hr];rw[aG hr]at h;exact ae (by simpa[mq]using h)
   ·rw[aL hr];rw[aL hr]at h;exact ab (dQ (ae (by simpa[mq]using h)))
 |.none,_,_,_,_,_,h,_,_,_|.bool _,_,_,_,_,_,h,_,_,_|.str _,_,_,_,_,_,h,_,_,_|.list _,_,_,_,_,_,h,_,_,_|.dict _,_,_,_,_,_,h,_,_,_=>by simp only[B9]at h;cases h
theorem a3T:∀(ks:List D) {A:bC} {s:ar} {vs:List ai} {as:List av} {acc:Array Int} {Q:Array Int->ar->Prop},r8 ks=p4->A.units+bM ks<dq->lG s.heap vs ks as->Q (acc++(B5 ks).toArray) {s with toks:=s.toks+Q1 ks}->
  aD (aT prog w) A (forIn vs acc λx r=>do let r1 <-pyHash x;pure kA;pure (dO (r.push r1))) Q E s
 |[],A,s,vs,as,acc,Q,_,_,r,h=>by
  cases r
  rw[jE];exact ae (by simpa[B5,Q1]using h)
 |k::ks,A,s,vs,as,acc,Q,hk,hu,r,h=>by
  simp only[r8,aw]at hk;simp only[bM]at hu;cases r with
  |cons r1 r2=>
   rw[iY];refine ab (ab (a2r k hk.1 (by lia) r1 ?_));refine ab (ae (ae ?_));refine a3T ks (s:={s with toks:=s.toks+u5 k}) hk.2 (by lia) r2 ?_;simp only[B5,Q1]at h;have e:(acc.push (hashD k))++(B5 ks).toArray=acc++(hashD k::B5 ks).toArray:=by simp
   rw[e];simpa[mq]using h
end
end
section
variable {prog:bw}{w:bO}{A:bC}{E:ai->ar->Prop}
mutual
theorem a3U:∀(k:D) (n:Nat) {s:ar} {v:ai} {as:List av} {Q:Bool->ar->Prop},B9 k=p4->k.depth<=n->Reads s.heap v k as->Q p4 s->aD (aT prog w) A (eqIsQuiet n v) Q E s
 |.int i,n,s,v,as,Q,_,_,r,h=>by
  cases r
  rw[eqIsQuiet_byValue n (v:=.int i _) rfl];exact ae h
 |.tuple ds,0,s,v,as,Q,_,hn,_,_=>by simp only[dy]at hn;lia
 |.tuple ds,n+1,s,v,as,Q,hk,hn,r,h=>by
  simp only[B9]at hk;simp only[dy]at hn;cases r with
  |@tuple a o items m _ as ho hc hd hi=>
   have hT:s.TypeIs (.ref a) "tuple":=⟨o,ho,hc⟩;unfold eqIsQuiet;refine ab (du hT F.slot_tuple_eq.lookup ?_);show aD _ _ (isInstance (.ref a) (.type "tuple") >>= _) _ _ s;refine ab (ff hT isSubtype_tuple_tuple ?_);simp only[jT,cP,fF];refine ab (dG ho hd ?_);refine ab ?_;show aD _ _ (forIn items _ _) _ _ s;rw[<-mJ];refine wpAny_forIn_list _ (λrest r s'=>r.1=el/\s'=s/\∃ks bs,r8 ks=p4/\bM ks<=n/\(∀k∈ks,k∈ds)/\lG s.heap rest ks bs) _ ?_ ?_ _ _ ⟨rfl,rfl,ds,as,hk,by lia,λk hk=>hk,hi⟩
   ·rintro v rest r s' ⟨hr,rfl,ks,bs,k1,k2,k3,k4⟩;cases k4 with
    |@cons _ _ d' iu _ _ r1 r2=>
     simp only[r8,aw]at k1;simp only[bM]at k2;refine ab (a3V ds n hk (by lia) d' (k3 d' aj) r1 ?_);simp only[jT,cP,fF];exact ae ⟨rfl,rfl,_,_,k1.2,by lia,λk hk=>k3 k (ak _ hk),r2⟩
   ·rintro⟨r1,r2⟩ s' ⟨hr,rfl,_⟩;simp only at hr;subst hr;exact ae h
 |.none,_,_,_,_,_,h,_,_,_|.bool _,_,_,_,_,_,h,_,_,_|.str _,_,_,_,_,_,h,_,_,_|.list _,_,_,_,_,_,h,_,_,_|.dict _,_,_,_,_,_,h,_,_,_=>by simp only[B9]at h;cases h
theorem a3V:∀(ds:List D) (n:Nat),r8 ds=p4->bM ds<=n->∀k∈ds,∀{s:ar} {v:ai} {as:List av} {Q:Bool->ar->Prop},Reads s.heap v k as->Q p4 s->aD (aT prog w) A (eqIsQuiet n v) Q E s
 |[],n,_,_,k,hk,s,v,as,Q,r,h=>nomatch hk
 |d::ds,n,nH,hn,k,hk,s,v,as,Q,r,h=>by
  simp only[r8,aw]at nH;simp only[bM]at hn;rcases aC.mp hk with e|hk
  ·rw[e]at r;exact a3U d n nH.1 (by lia) r h
  ·exact a3V ds n nH.2 (by lia) k hk r h
end
end
noncomputable def a9j:DecidableEq D:=λa b=>Classical.propDecidable (a=b)
noncomputable def b0X(prog:bw)(w:bO):@HeapKind prog w D a9j:=
 letI:DecidableEq D:=a9j
 {
  is:=λh k a=>B9 k=p4/\k.depth<=7/\∃as,Reads h (.ref a) k as
  hash:=hashD
  draws:=u5
  room:=λA=>A.units+8<dq
  inj:=λ⟨hx,_,_,r⟩ ⟨_,_,_,r'⟩=>SeqAt.Reads.unique _ _ _ _ _ (V5 _ hx) r r'
  keeps:=λ⟨hx,hd,_,r⟩ ho lP hs=>⟨hx,hd,_,a2q ho lP hs _ hx r⟩
  pyHash:=λhu ⟨hx,hd,_,r⟩ h=>a2r _ hx (by lia) r h
  eqBool:=λ{A E s x y a b Q} hu ⟨hx,hd,_,r⟩ ⟨hy,lP,_,r'⟩ h=>by
   refine SeqAt.eqAt_reads x y A s _ _ _ _ r r' (V5 _ hx) (V5 _ hy) (by have:=oU x.depth y.depth;lia) _ _ _ _ ?_;have e:aK x y=@decide (x=y) (a9j x y):=by
    by_cases c:x=y
    ·rw[@aI _ (a9j x y) c];exact (B6 x y hx hy).mpr c
    ·rw[@aY _ (a9j x y) c];cases q:aK x y with
     |false=>rfl
     |true=>exact absurd ((B6 x y hx hy).mp q) c
   rw[e];exact h
  quiet:=λ⟨hx,hd,_,r⟩ h=>a3U _ 8 hx (by lia) r h
 }
def O4(e:D×V×V)(x:eQ):Prop:=x.hash=hashD e.1/\RelV e.2.1 x.key/\RelV e.2.2 x.val
def a0b:D->Bool
 |.tuple [.int 0]=>p4
 |_=>rp
def a5C:V->Bool
 |.non=>p4
 |_=>rp
def K5:List (D×V×V)->Bool
 |[]=>rp
 |e::_=>a0b e.1&&a5C e.2.2
def b6w:D->Bool
 |.none=>p4
 |_=>rp
def b0Y:List (D×D)->Bool
 |[]=>rp
 |p::_=>a0b p.1&&b6w p.2
def e6(a:av)(es:List (D×V×V)):HO:=.ext λh=>(a==cN)=rp/\es.length<=aP/\(es.map (·.1)).Nodup/\∃o ents ep,h.get? a=cz o/\o.ExactDict/\o.data=.dict ents ep/\eS O4 es ents.toList/\(K5 es=rp->ep=es.length)
def Mu:HO->Prop
 |.lst _=>True
 |.dK _=>True
 |.ext _=>True
 |_=>False
abbrev MuO:={o:HO // Mu o}
def keyOk(kt:Bool)(k:D):Prop:=B9 k=p4/\k.depth<=7/\(kt=p4->∃ds,k=.tuple ds)/\(kt=rp->∃i,k=.int i)
end VS
namespace VS
open PySem L2
mutual
def imm:bc->Bool
 |.none=>p4
 |.bool _=>p4
 |.int _=>p4
 |.str _=>p4
 |.list _=>rp
 |.tuple ds=>g8 ds
 |.dict _=>rp
def g8:List bc->Bool
 |[]=>p4
 |d::ds=>imm d&&g8 ds
end
def SqX(K:af)(H:Hp)(a:av)(xs:List V):Prop:=
 Rd H a (.lst xs)\/∃(cK:List ai) (n:Nat),K.lookup a=cz {cls:=.type "list",data:=.seq cK.toArray n}/\cK.length<=aP/\Vals xs cK
def SqX.l(h:SqX K H a xs):SqL K H a xs:=by
 rcases h with h|⟨cK,n,h1,h2,h3⟩
 ·exact .inl h
 ·exact .inr ⟨_,cK.toArray,n,h1,rfl,rfl,rfl,by simpa using h2,by simpa using h3⟩
theorem SqX.ok{X:Cx}(h:SqX X.K H a xs)(I:Inv X pins Y H s):xs.length<=aP/\∃(cK:List ai) (n:Nat),Vals xs cK/\s.heap.get? a=cz {cls:=.type "list",data:=.seq cK.toArray n}:=by
 rcases h with h|⟨cK,n,h1,h2,h3⟩
 ·exact h.ok I.hok
 ·exact⟨by rw[h3.length];exact h2,cK,n,h3,I.kIn _ _ h1⟩
mutual
theorem V6:∀d:bc,B9 d=p4->imm d=p4
 |.int _,_=>by simp only[imm]
 |.tuple ds,h=>by
  simp only[B9]at h;simp only[imm];exact a1C ds h
 |.none,h|.bool _,h|.str _,h|.list _,h|.dict _,h=>by simp only[B9]at h;cases h
theorem a1C:∀ds:List bc,r8 ds=p4->g8 ds=p4
 |[],_=>by simp only[g8]
 |d::ds,h=>by
  simp only[r8,aw]at h;simp only[g8,aw];exact⟨V6 d h.1,a1C ds h.2⟩
end
mutual
def Den(K:af)(H:Hp):V->bc->Prop
 |v,.none=>v=.non
 |v,.bool b=>v=.bl b
 |v,.int i=>v=.int i
 |v,.str x=>v=.str x
 |v,.list ds=>∃a xs,v=.ref a/\SqX K H a xs/\DenAll K H xs ds
 |v,.tuple ds=>∃a xs,v=.ref a/\SqT K H a xs/\DenAll K H xs ds
 |v,.dict kvs=>∃a es,v=.ref a/\H a=cz (e6 a es)/\DenKV K H es kvs
def DenAll(K:af)(H:Hp):List V->List bc->Prop
 |xs,[]=>xs=[]
 |xs,d::ds=>∃v r,xs=v::r/\Den K H v d/\DenAll K H r ds
def DenKV(K:af)(H:Hp):List (bc×V×V)->List (bc×bc)->Prop
 |es,[]=>es=[]
 |es,(k,d)::r=>∃e q,es=e::q/\e.1=k/\Den K H e.2.1 k/\Den K H e.2.2 d/\DenKV K H q r
end
def Rd.up(h:Rd H a u)(e:Same H H'):Rd H' a u:=by
 rcases h with h|⟨o,h⟩
 ·exact .inl (e _ _ h)
 ·exact .inr ⟨o,e _ _ h⟩
def V7(h:SqX K H a xs)(e:Same H H'):SqX K H' a xs:=h.imp (λq=>Rd.up q e) id
def P5(h:SqT K H a xs)(e:Same H H'):SqT K H' a xs:=h.imp (λq=>Rd.up q e) id
mutual
theorem Den.mono{K:af}{H H':Hp}(e:Same H H'):∀(d:bc) {v:V},Den K H v d->Den K H' v d
 |.none,_,h=>by simpa only [Den]using h
 |.bool _,_,h=>by simpa only [Den]using h
 |.int _,_,h=>by simpa only [Den]using h
 |.str _,_,h=>by simpa only [Den]using h
 |.list ds,_,h=>by
  simp only[Den]at h ⊢;obtain⟨a,xs,h1,h2,h3⟩:=h;exact⟨a,xs,h1,V7 h2 e,DenAll.mono e ds h3⟩
 |.tuple ds,_,h=>by
  simp only[Den]at h ⊢;obtain⟨a,xs,h1,h2,h3⟩:=h;exact⟨a,xs,h1,P5 h2 e,DenAll.mono e ds h3⟩
 |.dict kvs,_,h=>by
  simp only[Den]at h ⊢;obtain⟨a,es,h1,h2,h3⟩:=h;exact⟨a,es,h1,e _ _ h2,DenKV.mono e kvs h3⟩
theorem DenAll.mono{K:af}{H H':Hp}(e:Same H H'):∀(ds:List bc) {xs:List V},DenAll K H xs ds->DenAll K H' xs ds
 |[],_,h=>by simpa only [DenAll]using h
 |d::ds,_,h=>by
  simp only[DenAll]at h ⊢;obtain⟨v,r,h1,h2,h3⟩:=h;exact⟨v,r,h1,Den.mono e d h2,DenAll.mono e ds h3⟩
theorem DenKV.mono(e:Same H H'):∀(kvs:List (bc×bc)) {es:List (bc×V×V)},DenKV K H es kvs->DenKV K H' es kvs
 |[],_,h=>by simpa only [DenKV]using h
 | (k,d)::r,_,h=>by
  simp only[DenKV]at h ⊢;obtain⟨x,q,h1,h2,h3,h4,h5⟩:=h;exact⟨x,q,h1,h2,Den.mono e k h3,Den.mono e d h4,DenKV.mono e r h5⟩
end
section
variable {K:af}{H H':Hp}
def Den.up{d:bc}{v:V}(h:Den K H v d)(e:Same H H'):Den K H' v d:=Den.mono e d h
def DenAll.up{ds:List bc}{xs:List V}(h:DenAll K H xs ds)(e:Same H H'):DenAll K H' xs ds:=DenAll.mono e ds h
def den_none:Den K H .non .none:=by simp only[Den]
def den_bool{b:Bool}:Den K H (.bl b) (.bool b):=by simp only[Den]
def den_int{i:Int}:Den K H (.int i) (.int i):=by simp only[Den]
def den_list{a:av}{xs:List V}{ds:List bc}(h:SqX K H a xs)(q:DenAll K H xs ds):Den K H (.ref a) (.list ds):=by
 simp only[Den];exact⟨a,xs,rfl,h,q⟩
def den_tup{a:av}{xs:List V}{ds:List bc}(h:SqT K H a xs)(q:DenAll K H xs ds):Den K H (.ref a) (.tuple ds):=by
 simp only[Den];exact⟨a,xs,rfl,h,q⟩
theorem a5D:∀{es:List (bc×V×V)} {ds:List bc},(∀e∈es,Den K H e.2.1 e.1)->DenAll K H (es.map (·.2.2)) ds->DenKV K H es ((es.map (·.1)).zip ds)
 |[],ds,_,h=>by
  cases ds with
  |nil=>simp only[cE,BD,DenKV]
  |cons d ds=>simp only[DenAll]at h;obtain⟨v,r,h1,_⟩:=h;cases h1
 |e::es,ds,hk,h=>by
  cases ds with
  |nil=>simp only[DenAll]at h;cases h
  |cons d ds=>
   simp only[DenAll]at h;obtain⟨v,r,h1,h2,h3⟩:=h;cases h1
   simp only[ay,dW,DenKV];exact⟨e,es,rfl,rfl,hk e aj,h2,a5D (λe he=>hk e (ak _ he)) h3⟩
def a3W(h:H a=cz (e6 a es))(hk:∀e∈es,Den K H e.2.1 e.1)(hv:DenAll K H (es.map (·.2.2)) ds):Den K H (.ref a) (.dict ((es.map (·.1)).zip ds)):=by
 simp only[Den];exact⟨a,es,rfl,h,a5D hk hv⟩
def denAll_nil:DenAll K H [] []:=by simp only[DenAll]
def denAll_cons{v:V}{d:bc}{xs:List V}{ds:List bc}(h:Den K H v d)(q:DenAll K H xs ds):DenAll K H (v::xs) (d::ds):=by
 simp only[DenAll];exact⟨v,xs,rfl,h,q⟩
def Den.list_inv{v:V}{ds:List bc}(h:Den K H v (.list ds)):∃a xs,v=.ref a/\SqX K H a xs/\DenAll K H xs ds:=by simpa only [Den]using h
def Den.tup_inv{v:V}{ds:List bc}(h:Den K H v (.tuple ds)):∃a xs,v=.ref a/\SqT K H a xs/\DenAll K H xs ds:=by simpa only [Den]using h
def Den.dict_inv(h:Den K H v (.dict kvs)):∃a es,v=.ref a/\H a=cz (e6 a es)/\DenKV K H es kvs:=by simpa only [Den]using h
theorem DenKV.keys:∀{kvs:List (bc×bc)} {es:List (bc×V×V)},DenKV K H es kvs->es.map (·.1)=kvs.map (·.1)
 |[],_,h=>by simp only[DenKV]at h;rw[h];rfl
 | (k,d)::r,_,h=>by
  simp only[DenKV]at h;obtain⟨e,q,rfl,h1,_,_,h2⟩:=h;rw[ay,ay,DenKV.keys h2,h1]
theorem DenKV.vals:∀{kvs:List (bc×bc)} {es:List (bc×V×V)},DenKV K H es kvs->DenAll K H (es.map (·.2.2)) (kvs.map (·.2))
 |[],_,h=>by simp only[DenKV]at h;rw[h];simp only[cE,DenAll]
 | (k,d)::r,_,h=>by
  simp only[DenKV]at h;obtain⟨e,q,rfl,_,_,h1,h2⟩:=h;simp only[ay,DenAll];exact⟨_,_,rfl,h1,DenKV.vals h2⟩
theorem DenKV.kden:∀{kvs:List (bc×bc)} {es:List (bc×V×V)},DenKV K H es kvs->∀e∈es,Den K H e.2.1 e.1
 |[],_,h,e,he=>by simp only[DenKV]at h;rw[h]at he;cases he
 | (k,d)::r,_,h,e,he=>by
  simp only[DenKV]at h;obtain⟨e0,q,rfl,h0,h1,_,h2⟩:=h;rcases aC.mp he with z|z
  ·subst z;rw[h0];exact h1
  ·exact DenKV.kden h2 e z
def Den.int_inv{v:V}{i:Int}(h:Den K H v (.int i)):v=.int i:=by simpa only [Den]using h
def Den.bool_inv(h:Den K H v (.bool b)):v=.bl b:=by simpa only [Den]using h
def Den.none_inv(h:Den K H v .none):v=.non:=by simpa only [Den]using h
def Den.str_inv(h:Den K H v (.str x)):v=.str x:=by simpa only [Den]using h
def DenAll.cons_inv{xs:List V}{d:bc}{ds:List bc}(h:DenAll K H xs (d::ds)):∃v r,xs=v::r/\Den K H v d/\DenAll K H r ds:=by simpa only [DenAll]using h
def DenAll.nil_inv{xs:List V}(h:DenAll K H xs []):xs=[]:=by simpa only [DenAll]using h
theorem DenAll.length:∀{ds:List bc} {xs:List V},DenAll K H xs ds->xs.length=ds.length
 |[],_,h=>by rw[h.nil_inv];rfl
 |d::ds,_,h=>by
  obtain⟨v,r,rfl,_,h⟩:=h.cons_inv;rw[bB,bB,DenAll.length h]
theorem DenAll.get:∀{ds:List bc} {xs:List V} {i:Nat} {d:bc},DenAll K H xs ds->ds[i]?=cz d->∃v,xs[i]?=cz v/\Den K H v d
 |[],_,i,d,_,e=>by simp at e
 |d0::ds,_,0,d,h,e=>by
  obtain⟨v,r,rfl,h1,_⟩:=h.cons_inv;have:d0=d:=by simpa using e
  subst this;exact⟨v,rfl,h1⟩
 |d0::ds,_,i+1,d,h,e=>by
  obtain⟨v,r,rfl,_,h1⟩:=h.cons_inv;obtain⟨u,h2,h3⟩:=DenAll.get (i:=i) h1 (by simpa using e);exact⟨u,by simpa using h2,h3⟩
def DenAll.getV{ds:List bc}{xs:List V}{i:Nat}{v:V}(h:DenAll K H xs ds)(e:xs[i]?=cz v):∃d,ds[i]?=cz d/\Den K H v d:=by
 have hi:=(aO.mp e).1;rw[h.length]at hi;obtain⟨u,h1,h2⟩:=h.get (au hi);rw[e]at h1;cases h1
 exact⟨_,au hi,h2⟩
theorem DenAll.append:∀{ds:List bc} {xs:List V} {es:List bc} {ys:List V},DenAll K H xs ds->DenAll K H ys es->DenAll K H (xs++ys) (ds++es)
 |[],_,_,_,h,q=>by rw[h.nil_inv];exact q
 |d::ds,_,_,_,h,q=>by
  obtain⟨v,r,rfl,h1,h2⟩:=h.cons_inv;exact denAll_cons h1 (DenAll.append h2 q)
theorem DenAll.take:∀{ds:List bc} {xs:List V} (n:Nat),DenAll K H xs ds->DenAll K H (xs.take n) (ds.take n)
 |_,_,0,_=>by rw[List.take_zero,List.take_zero];exact denAll_nil
 |[],_,n+1,h=>by rw[h.nil_inv];exact denAll_nil
 |d::ds,_,n+1,h=>by
  obtain⟨v,r,rfl,h1,h2⟩:=h.cons_inv;exact denAll_cons h1 (DenAll.take n h2)
theorem DenAll.drop:∀{ds:List bc} {xs:List V} (n:Nat),DenAll K H xs ds->DenAll K H (xs.drop n) (ds.drop n)
 |_,_,0,h=>h
 |[],_,n+1,h=>by rw[h.nil_inv];exact denAll_nil
 |d::ds,_,n+1,h=>by
  obtain⟨v,r,rfl,_,h2⟩:=h.cons_inv;exact DenAll.drop n h2
theorem DenAll.ints:∀(ns:List Int),DenAll K H (ns.map V.int) (ns.map aJ)
 |[]=>denAll_nil
 |n::ns=>denAll_cons den_int (DenAll.ints ns)
end
def cut(H:Hp)(F:List av):Hp:=λa=>if a∈F then el else H a
section
variable {H H':Hp}{F F':List av}{a:av}{o:HO}
def X4(h:a∉F):cut H F a=H a:=by unfold cut;rw[aL h]
def V8(h:a∈F):cut H F a=el:=by unfold cut;rw[aG h]
def o6(h:cut H F a=cz o):a∉F/\H a=cz o:=by
 by_cases q:a∈F
 ·rw[V8 q]at h;cases h
 ·rw[X4 q]at h;exact⟨q,h⟩
def j6(h1:a∉F)(h2:H a=cz o):cut H F a=cz o:=by rw[X4 h1];exact h2
def i7:Same (cut H F) H:=λ_ _ h=>(o6 h).2
def M8(e:Same H H')(hF:∀a o,H a=cz o->a∈F'->a∈F):Same (cut H F) (cut H' F'):=λa o h=>by
 obtain⟨h1,h2⟩:=o6 h;exact j6 (λq=>h1 (hF a o h2 q)) (e _ _ h2)
def x0(e:Same H H'):Same (cut H F) (cut H' F):=M8 e λ_ _ _ q=>q
def C8(hF:∀a,a∈F'->a∈F):Same (cut H F) (cut H F'):=M8 (Same.refl H) λa _ _ q=>hF a q
def K8:cut H []=H:=by
 funext a
 exact X4 (by simp)
end
inductive Ty where
 |i|f|l (t:Ty)|tp (ts:List Ty)|d (kt:Bool) (t:Ty)
mutual
def Ty.shut:Ty->Bool
 |.i=>p4
 |.f=>rp
 |.l u=>u.shut
 |.tp us=>Ty.shutAll us
 |.d _ u=>u.shut
def Ty.shutAll:List Ty->Bool
 |[]=>p4
 |u::us=>u.shut&&Ty.shutAll us
end
def ListAll(R:V->bc->List av->Prop):List V->List bc->List av->Prop
 |xs,[],fp=>xs=[]/\fp=[]
 |xs,d::ds,fp=>∃v r f g,xs=v::r/\fp=f++g/\R v d f/\ListAll R r ds g
mutual
def Own(K:af)(H:Hp)(F:List av):Ty->V->bc->List av->Prop
 |.i,v,d,fp=>fp=[]/\imm d=p4/\Den K (cut H F) v d
 |.f,v,d,fp=>fp=[]/\Den K (cut H F) v d
 |.l u,v,d,fp=>(fp=[]/\imm d=p4/\Den K (cut H F) v d)\/∃a xs ds fs,v=.ref a/\H a=cz (.lst xs)/\d=.list ds/\fp=a::fs/\ListAll (Own K H F u) xs ds fs
 |.tp us,v,d,fp=>(fp=[]/\(imm d=p4/\∀ds,d≠.tuple ds)/\Den K (cut H F) v d)\/∃a xs ds,v=.ref a/\H a=cz (.tup xs)/\a∉F/\d=.tuple ds/\OwnTs K H F us xs ds fp
 |.d kt u,v,d,fp=>∃a es ds fs,v=.ref a/\H a=cz (e6 a es)/\d=.dict ((es.map (·.1)).zip ds)/\fp=a::fs/\((es.map (·.1)).Nodup/\∀e∈es,keyOk kt e.1/\Den K (cut H F) e.2.1 e.1)/\ListAll (Own K H F u) (es.map (·.2.2)) ds fs
def OwnTs(K:af)(H:Hp)(F:List av):List Ty->List V->List bc->List av->Prop
 |[],xs,ds,fp=>xs=[]/\ds=[]/\fp=[]
 |u::us,xs,ds,fp=>∃v r d e f g,xs=v::r/\ds=d::e/\fp=f++g/\Own K H F u v d f/\OwnTs K H F us r e g
end
section
variable {R R':V->bc->List av->Prop}
def m7:ListAll R [] [] []:=by simp only[ListAll];exact⟨trivial,trivial⟩
def m4(h:R v d f)(q:ListAll R xs ds g):ListAll R (v::xs) (d::ds) (f++g):=by
 simp only[ListAll];exact⟨v,xs,f,g,rfl,rfl,h,q⟩
def ListAll.nil_inv(h:ListAll R xs [] fp):xs=[]/\fp=[]:=by simpa only [ListAll]using h
def ListAll.cons_inv(h:ListAll R xs (d::ds) fp):∃v r f g,xs=v::r/\fp=f++g/\R v d f/\ListAll R r ds g:=by simpa only [ListAll]using h
theorem ListAll.length:∀{ds:List bc} {xs:List V} {fp:List av},ListAll R xs ds fp->xs.length=ds.length
 |[],_,_,h=>by rw[h.nil_inv.1];rfl
 |d::ds,_,_,h=>by
  obtain⟨v,r,f,g,rfl,_,_,h⟩:=h.cons_inv;rw[bB,bB,ListAll.length h]
theorem ListAll.imp:∀{ds:List bc} {xs:List V} {fp:List av},ListAll R xs ds fp->(∀v d f,(∀a∈f,a∈fp)->d∈ds->R v d f->R' v d f)->ListAll R' xs ds fp
 |[],_,_,h,_=>by obtain⟨rfl,rfl⟩:=h.nil_inv;exact m7
 |d::ds,_,_,h,q=>by
  obtain⟨v,r,f,g,rfl,rfl,h1,h2⟩:=h.cons_inv;exact m4 (q v d f (λa ha=>aA _ ha) aj h1) (ListAll.imp h2 λv d f' hf hd hR=>q v d f' (λa ha=>aq _ (hf a ha)) (ak _ hd) hR)
theorem ListAll.append:∀{ds es:List bc} {xs ys:List V} {fp gp:List av},ListAll R xs ds fp->ListAll R ys es gp->ListAll R (xs++ys) (ds++es) (fp++gp)
 |[],_,_,_,_,_,h,q=>by obtain⟨rfl,rfl⟩:=h.nil_inv;exact q
 |d::ds,_,_,_,_,_,h,q=>by
  obtain⟨v,r,f,g,rfl,rfl,h1,h2⟩:=h.cons_inv;rw[be];exact m4 h1 (ListAll.append h2 q)
theorem ListAll.at_:∀{ds:List bc} {xs:List V} {fp:List av} {k:Nat} {d:bc},ListAll R xs ds fp->ds[k]?=cz d->
  ∃v f pre post,xs[k]?=cz v/\R v d f/\fp=pre++(f++post)/\ListAll R (xs.take k) (ds.take k) pre/\ListAll R (xs.drop (k+1)) (ds.drop (k+1)) post
 |[],_,_,k,d,_,e=>by simp at e
 |d0::ds,_,_,0,d,h,e=>by
  obtain⟨v,r,f,g,rfl,rfl,h1,h2⟩:=h.cons_inv;have:d0=d:=by simpa using e
  subst this;exact⟨v,f,[],g,rfl,h1,rfl,m7,h2⟩
 |d0::ds,_,_,k+1,d,h,e=>by
  obtain⟨v,r,f,g,rfl,rfl,h1,h2⟩:=h.cons_inv;obtain⟨u,f',pre,post,e1,e2,e3,e4,e5⟩:=ListAll.at_ (k:=k) h2 (by simpa using e);subst e3;exact⟨u,f',f++pre,post,by simpa using e1,e2,by rw[be],m4 h1 e4,e5⟩
end
section
variable {K:af}{H H':Hp}{F F':List av}
theorem ListAll.den(hR:∀v d f,R v d f->Den K H v d):∀{ds:List bc} {xs:List V} {fp:List av},ListAll R xs ds fp->DenAll K H xs ds
 |[],_,_,h=>by rw[h.nil_inv.1];exact denAll_nil
 |d::ds,_,_,h=>by
  obtain⟨v,r,f,g,rfl,_,h1,h2⟩:=h.cons_inv;exact denAll_cons (hR _ _ _ h1) (ListAll.den hR h2)
mutual
theorem Own.den:∀(u:Ty) {v:V} {d:bc} {fp:List av},Own K H F u v d fp->Den K H v d
 |.i,_,_,_,h=>by simp only[Own]at h;exact h.2.2.up i7
 |.f,_,_,_,h=>by simp only[Own]at h;exact h.2.up i7
 |.l u,_,_,_,h=>by
  simp only[Own]at h;rcases h with⟨_,_,h⟩|⟨a,xs,ds,fs,rfl,h1,rfl,_,h2⟩
  ·exact h.up i7
  ·exact den_list (.inl (.inl h1)) (ListAll.den (λv d f q=>Own.den u q) h2)
 |.tp us,_,_,_,h=>by
  simp only[Own]at h;rcases h with⟨_,_,h⟩|⟨a,xs,ds,rfl,h1,_,rfl,h2⟩
  ·exact h.up i7
  ·exact den_tup (SqT.of h1) (OwnTs.den us h2)
 |.d kt u,_,_,_,h=>by
  simp only[Own]at h;obtain⟨a,es,ds,fs,rfl,h1,rfl,_,h3,h2⟩:=h;exact a3W h1 (λe he=>(h3.2 e he).2.up i7) (ListAll.den (λv d f q=>Own.den u q) h2)
theorem OwnTs.den:∀(us:List Ty) {xs:List V} {ds:List bc} {fp:List av},OwnTs K H F us xs ds fp->DenAll K H xs ds
 |[],_,_,_,h=>by simp only[OwnTs]at h;obtain⟨rfl,rfl,_⟩:=h;exact denAll_nil
 |u::us,_,_,_,h=>by
  simp only[OwnTs]at h;obtain⟨v,r,d,e,f,g,rfl,rfl,_,h1,h2⟩:=h;exact denAll_cons (Own.den u h1) (OwnTs.den us h2)
end
mutual
theorem Own.frame(e:Same (cut H F) (cut H' F')):∀(u:Ty) {v:V} {d:bc} {fp:List av},Own K H F u v d fp->(∀a∈fp,H' a=H a)->Own K H' F' u v d fp
 |.i,_,_,_,h,_=>by simp only[Own]at h ⊢;exact⟨h.1,h.2.1,h.2.2.up e⟩
 |.f,_,_,_,h,_=>by simp only[Own]at h ⊢;exact⟨h.1,h.2.up e⟩
 |.l u,_,_,_,h,k=>by
  simp only[Own]at h ⊢;rcases h with⟨h1,h2,h⟩|⟨a,xs,ds,fs,rfl,h1,rfl,rfl,h2⟩
  ·exact .inl ⟨h1,h2,h.up e⟩
  ·exact .inr ⟨a,xs,ds,fs,rfl,(k a aj).trans h1,rfl,rfl,h2.imp λv d f hf _ q=>Own.frame e u q λb hb=>k b (ak _ (hf b hb))⟩
 |.tp us,_,_,_,h,k=>by
  simp only[Own]at h ⊢;rcases h with⟨h1,h2,h⟩|⟨a,xs,ds,rfl,h1,h0,rfl,h2⟩
  ·exact .inl ⟨h1,h2,h.up e⟩
  obtain⟨h3,h4⟩:=o6 (e a _ (j6 h0 h1));exact .inr ⟨a,xs,ds,rfl,h4,h3,rfl,OwnTs.frame e us h2 k⟩
 |.d kt u,_,_,_,h,k=>by
  simp only[Own]at h ⊢;obtain⟨a,es,ds,fs,rfl,h1,rfl,rfl,h3,h2⟩:=h;exact⟨a,es,ds,fs,rfl,(k a aj).trans h1,rfl,rfl,⟨h3.1,λx hx=>⟨(h3.2 x hx).1,(h3.2 x hx).2.up e⟩⟩,h2.imp λv d f hf _ q=>Own.frame e u q λb hb=>k b (ak _ (hf b hb))⟩
theorem OwnTs.frame(e:Same (cut H F) (cut H' F')):∀(us:List Ty) {xs:List V} {ds:List bc} {fp:List av},OwnTs K H F us xs ds fp->(∀a∈fp,H' a=H a)->OwnTs K H' F' us xs ds fp
 |[],_,_,_,h,_=>by simpa only [OwnTs]using h
 |u::us,_,_,_,h,k=>by
  simp only[OwnTs]at h ⊢;obtain⟨v,r,d,e',f,g,rfl,rfl,rfl,h1,h2⟩:=h;exact⟨v,r,d,e',f,g,rfl,rfl,rfl,Own.frame e u h1 λa ha=>k a (aA _ ha),OwnTs.frame e us h2 λa ha=>k a (aq _ ha)⟩
end
theorem ListAll.lst{u:Ty}{R:V->bc->List av->Prop}(hR:∀v d f,R v d f->∀a∈f,∃ys:MuO,H a=cz ys.1):∀{ds:List bc} {xs:List V} {fp:List av},ListAll R xs ds fp->∀a∈fp,∃ys:MuO,H a=cz ys.1
 |[],_,_,h,a,ha=>by rw[h.nil_inv.2]at ha;cases ha
 |d::ds,_,_,h,a,ha=>by
  obtain⟨v,r,f,g,rfl,rfl,h1,h2⟩:=h.cons_inv;rcases az.mp ha with z|z
  ·exact hR _ _ _ h1 a z
  ·exact ListAll.lst (u:=u) hR h2 a z
mutual
theorem Own.lst:∀(u:Ty) {v:V} {d:bc} {fp:List av},Own K H F u v d fp->∀a∈fp,∃ys:MuO,H a=cz ys.1
 |.i,_,_,_,h,a,ha=>by simp only[Own]at h;rw[h.1]at ha;cases ha
 |.f,_,_,_,h,a,ha=>by simp only[Own]at h;rw[h.1]at ha;cases ha
 |.l u,_,_,_,h,b,hb=>by
  simp only[Own]at h;rcases h with⟨h1,_⟩|⟨a,xs,ds,fs,rfl,h1,rfl,rfl,h2⟩
  ·rw[h1]at hb;cases hb
  ·rcases aC.mp hb with z|z
   ·subst z;exact⟨⟨.lst xs,trivial⟩,h1⟩
   ·exact ListAll.lst (u:=u) (λv d f q=>Own.lst u q) h2 b z
 |.tp us,_,_,_,h,b,hb=>by
  simp only[Own]at h;rcases h with⟨h1,_⟩|⟨a,xs,ds,rfl,h1,_,rfl,h2⟩
  ·rw[h1]at hb;cases hb
  ·exact OwnTs.lst us h2 b hb
 |.d kt u,_,_,_,h,b,hb=>by
  simp only[Own]at h;obtain⟨a,es,ds,fs,rfl,h1,rfl,rfl,h3,h2⟩:=h;rcases aC.mp hb with z|z
  ·subst z;exact⟨⟨e6 b es,trivial⟩,h1⟩
  ·exact ListAll.lst (u:=u) (λv d f q=>Own.lst u q) h2 b z
theorem OwnTs.lst:∀(us:List Ty) {xs:List V} {ds:List bc} {fp:List av},OwnTs K H F us xs ds fp->∀a∈fp,∃ys:MuO,H a=cz ys.1
 |[],_,_,_,h,a,ha=>by simp only[OwnTs]at h;rw[h.2.2]at ha;cases ha
 |u::us,_,_,_,h,b,hb=>by
  simp only[OwnTs]at h;obtain⟨v,r,d,e,f,g,rfl,rfl,rfl,h1,h2⟩:=h;rcases az.mp hb with z|z
  ·exact Own.lst u h1 b z
  ·exact OwnTs.lst us h2 b z
end
def b3K(h:SqT K H a xs)(hF:∀a∈F,∃ys:MuO,H a=cz ys.1):SqT K (cut H F) a xs:=by
 rcases h with (h|⟨o,h⟩)|h
 ·refine .inl (.inl (j6 (λq=>?_) h));obtain⟨⟨ys,my⟩,e⟩:=hF a q;rw[h]at e;have e':=aH e;rw[show ys=_ from e'.symm]at my;exact my
 ·refine .inl (.inr ⟨o,j6 (λq=>?_) h⟩);obtain⟨⟨ys,my⟩,e⟩:=hF a q;rw[h]at e;have e':=aH e;rw[show ys=_ from e'.symm]at my;exact my
 ·exact .inr h
mutual
theorem Den.imm_out(hF:∀a∈F,∃ys:MuO,H a=cz ys.1):∀(d:bc) {v:V},imm d=p4->Den K H v d->Den K (cut H F) v d
 |.none,_,_,h=>by simpa only [Den]using h
 |.bool _,_,_,h=>by simpa only [Den]using h
 |.int _,_,_,h=>by simpa only [Den]using h
 |.str _,_,_,h=>by simpa only [Den]using h
 |.list ds,_,q,_=>by simp only[imm]at q;cases q
 |.tuple ds,_,q,h=>by
  simp only[imm]at q;obtain⟨a,xs,rfl,h1,h2⟩:=h.tup_inv;exact den_tup (b3K h1 hF) (DenAll.imm_out hF ds q h2)
 |.dict _,_,q,_=>by simp only[imm]at q;cases q
theorem DenAll.imm_out(hF:∀a∈F,∃ys:MuO,H a=cz ys.1):∀(ds:List bc) {xs:List V},g8 ds=p4->DenAll K H xs ds->DenAll K (cut H F) xs ds
 |[],_,_,h=>by simpa only [DenAll]using h
 |d::ds,_,q,h=>by
  simp only[g8,aw]at q;obtain⟨v,r,rfl,h1,h2⟩:=h.cons_inv;exact denAll_cons (Den.imm_out hF d q.1 h1) (DenAll.imm_out hF ds q.2 h2)
end
mutual
theorem Own.shut_out(hF:∀a∈F',∃ys:MuO,H a=cz ys.1):∀(u:Ty) {v:V} {d:bc} {fp:List av},u.shut=p4->Own K H F u v d fp->Own K H F' u v d fp
 |.i,_,_,_,_,h=>by simp only[Own]at h ⊢;exact⟨h.1,h.2.1,(h.2.2.up i7).imm_out hF _ h.2.1⟩
 |.f,_,_,_,q,h=>by simp only[Ty.shut]at q;cases q
 |.l u,_,_,_,q,h=>by
  simp only[Ty.shut]at q;simp only[Own]at h ⊢;rcases h with⟨h1,h2,h⟩|⟨a,xs,ds,fs,rfl,h1,rfl,rfl,h2⟩
  ·exact .inl ⟨h1,h2,(h.up i7).imm_out hF _ h2⟩
  ·exact .inr ⟨a,xs,ds,fs,rfl,h1,rfl,rfl,h2.imp λv d f _ _ z=>Own.shut_out hF u q z⟩
 |.tp us,_,_,_,q,h=>by
  simp only[Ty.shut]at q;simp only[Own]at h ⊢;rcases h with⟨h1,h2,h⟩|⟨a,xs,ds,rfl,h1,h0,rfl,h2⟩
  ·exact .inl ⟨h1,h2,(h.up i7).imm_out hF _ h2.1⟩
  refine .inr ⟨a,xs,ds,rfl,h1,λz=>?_,rfl,OwnTs.shut_out hF us q h2⟩;obtain⟨⟨ys,my⟩,e⟩:=hF a z;rw[h1]at e;have e':=aH e;rw[show ys=_ from e'.symm]at my;exact my
 |.d kt u,_,_,_,q,h=>by
  simp only[Ty.shut]at q;simp only[Own]at h ⊢;obtain⟨a,es,ds,fs,rfl,h1,rfl,rfl,h3,h2⟩:=h;exact⟨a,es,ds,fs,rfl,h1,rfl,rfl,⟨h3.1,λx hx=>⟨(h3.2 x hx).1,((h3.2 x hx).2.up i7).imm_out hF _ (V6 _ (h3.2 x hx).1.1)⟩⟩,h2.imp λv d f _ _ z=>Own.shut_out hF u q z⟩
theorem OwnTs.shut_out(hF:∀a∈F',∃ys:MuO,H a=cz ys.1):∀(us:List Ty) {xs:List V} {ds:List bc} {fp:List av},Ty.shutAll us=p4->OwnTs K H F us xs ds fp->OwnTs K H F' us xs ds fp
 |[],_,_,_,_,h=>by simpa only [OwnTs]using h
 |u::us,_,_,_,q,h=>by
  simp only[Ty.shutAll,aw]at q;simp only[OwnTs]at h ⊢;obtain⟨v,r,d,e,f,g,rfl,rfl,rfl,h1,h2⟩:=h;exact⟨v,r,d,e,f,g,rfl,rfl,rfl,Own.shut_out hF u q.1 h1,OwnTs.shut_out hF us q.2 h2⟩
end
end
end VS
namespace VS
open PySem PySem.Spec L2
open SeqAt in
def items_eqAt{A:bC}{s:ar}{us ws:Array ai}(ra:lG s.heap us.toList xs as)(rb:lG s.heap ws.toList ys bs)(ha:bg xs=p4)(hb:bg ys=p4)
  (hu:A.in1.units+min (bM xs) (bM ys)<dq):∀(k:Nat) (k1:k<us.size) (k2:k<ws.size),EqAt A.in1 s us[k] ws[k] (pairEq xs ys k):=λk k1 k2=>
 eqAt_readsAll xs ys A.in1 s us.toList ws.toList as bs ra rb ha hb hu k k1 k2
open SeqAt in
def a6W{A:bC}{s:ar}(ra:Reads s.heap a da as)(rb:Reads s.heap b db bs)(ha:da.canLay0=p4)(hb:db.canLay0=p4)
  (hu:A.units+min da.depth db.depth<dq):RcNeAt A s a b (!aK da db):=by
 have u0:=room_here hu;cases ra with
 |dict=>exact nomatch ha
 |none=>cases rb with
  |dict=>exact nomatch hb
  |none=>exact RcNeAt.none_none
  |bool y=>exact RcNeAt.none_bool y
  |int y v=>exact RcNeAt.none_int y v
  |str y v=>exact RcNeAt.none_str y v
  |list c1 c2 c3 c4=>exact RcNeAt.none_list ⟨_,c1,c2,_,c3⟩ u0
  |tuple c1 c2 c3 c4=>exact RcNeAt.none_tuple ⟨_,c1,c2,_,c3⟩ u0
 |bool x=>cases rb with
  |dict=>exact nomatch hb
  |none=>exact RcNeAt.bool_none x
  |bool y=>exact RcNeAt.bool_bool x y
  |int y v=>exact RcNeAt.bool_int x y v
  |str y v=>exact RcNeAt.bool_str x y v
  |list c1 c2 c3 c4=>exact RcNeAt.bool_list x ⟨_,c1,c2,_,c3⟩ u0
  |tuple c1 c2 c3 c4=>exact RcNeAt.bool_tuple x ⟨_,c1,c2,_,c3⟩ u0
 |int x t=>cases rb with
  |dict=>exact nomatch hb
  |none=>exact RcNeAt.int_none x t
  |bool y=>exact RcNeAt.int_bool x t y
  |int y v=>exact RcNeAt.int_int x t y v
  |str y v=>exact RcNeAt.int_str x t y v
  |list c1 c2 c3 c4=>exact RcNeAt.int_list x t ⟨_,c1,c2,_,c3⟩ u0
  |tuple c1 c2 c3 c4=>exact RcNeAt.int_tuple x t ⟨_,c1,c2,_,c3⟩ u0
 |str x t=>cases rb with
  |dict=>exact nomatch hb
  |none=>exact RcNeAt.str_none x t
  |bool y=>exact RcNeAt.str_bool x t y
  |int y v=>exact RcNeAt.str_int x t y v
  |str y v=>exact RcNeAt.str_str x t y v
  |list c1 c2 c3 c4=>exact RcNeAt.str_list x t ⟨_,c1,c2,_,c3⟩ u0
  |tuple c1 c2 c3 c4=>exact RcNeAt.str_tuple x t ⟨_,c1,c2,_,c3⟩ u0
 |@list la oa us na xs fa c1 c2 c3 c4=>
  have sa:s.heap.IsList la us:=⟨oa,c1,c2,na,c3⟩;cases rb with
  |dict=>exact nomatch hb
  |none=>exact RcNeAt.list_none sa u0
  |bool y=>exact RcNeAt.list_bool y sa u0
  |int y v=>exact RcNeAt.list_int y v sa u0
  |str y v=>exact RcNeAt.list_str y v sa u0
  |tuple e1 e2 e3 e4=>exact RcNeAt.list_tuple sa ⟨_,e1,e2,_,e3⟩ u0
  |@list lb ob ws nb ys fb e1 e2 e3 e4=>
   have sb:s.heap.IsList lb ws:=⟨ob,e1,e2,nb,e3⟩;have z1:us.size=xs.length:=by simpa using ot xs _ _ c4
   have z2:ws.size=ys.length:=by simpa using ot ys _ _ e4
   have pr:=items_eqAt c4 e4 ha hb (room_in hu);show RcNeAt A s (.ref la) (.ref lb) (!cR xs ys);by_cases z:us.size=ws.size
   ·rw[<-eqvAll_same_length (show xs.length=ys.length by lia),<-z1];exact RcNeAt.lists sa sb z u0 pr
   ·rw[eqvAll_other_length (show xs.length≠ys.length by lia)];exact RcNeAt.lists_lengths sa sb (bne_iff_ne.mpr z) u0
 |@tuple la oa us na xs fa c1 c2 c3 c4=>
  have sa:s.heap.IsTuple la us:=⟨oa,c1,c2,na,c3⟩;cases rb with
  |dict=>exact nomatch hb
  |none=>exact RcNeAt.tuple_none sa u0
  |bool y=>exact RcNeAt.tuple_bool y sa u0
  |int y v=>exact RcNeAt.tuple_int y v sa u0
  |str y v=>exact RcNeAt.tuple_str y v sa u0
  |list e1 e2 e3 e4=>exact RcNeAt.tuple_list sa ⟨_,e1,e2,_,e3⟩ u0
  |@tuple lb ob ws nb ys fb e1 e2 e3 e4=>
   have sb:s.heap.IsTuple lb ws:=⟨ob,e1,e2,nb,e3⟩;have z1:us.size=xs.length:=by simpa using ot xs _ _ c4
   have z2:ws.size=ys.length:=by simpa using ot ys _ _ e4
   have pr:=items_eqAt c4 e4 ha hb (room_in hu);show RcNeAt A s (.ref la) (.ref lb) (!cR xs ys);rw[<-eqvAll_eq xs ys,<-z1,<-z2];exact RcNeAt.tuples sa sb u0 pr
mutual
theorem Den.reads{X:Cx}{pins:List (av×fD)}{Y:St}{H:Hp}{s:ar}(I:Inv X pins Y H s):∀(d:bc) {v:V} {u:ai},d.canLay0=p4->Den X.K H v d->RelV v u->∃as,Reads s.heap u d as
 |.none,v,u,_,q,r=>by
  cases q.none_inv
  cases (show u=cj from r)
  exact⟨_,.none⟩
 |.bool b,v,u,_,q,r=>by
  cases q.bool_inv
  cases (show u=jq b from r)
  exact⟨_,.bool b⟩
 |.int i,v,u,_,q,r=>by
  cases q.int_inv
  obtain⟨t,rfl⟩:=r;exact⟨_,.int i t⟩
 |.str x,v,u,_,q,r=>by
  cases q.str_inv
  obtain⟨t,rfl⟩:=r;exact⟨_,.str x t⟩
 |.list ds,v,u,hl,q,r=>by
  obtain⟨a,xs,rfl,h1,h2⟩:=q.list_inv;cases (show u=a_ a from r)
  obtain⟨z,cK,n,rv,e⟩:=h1.ok I;obtain⟨as,ra⟩:=DenAll.reads I ds hl h2 rv;exact⟨_,.list e rfl rfl (by simpa using ra)⟩
 |.tuple ds,v,u,hl,q,r=>by
  obtain⟨a,xs,rfl,h1,h2⟩:=q.tup_inv;cases (show u=a_ a from r)
  obtain⟨cK,rv,⟨o,e,c,n,d⟩,_⟩:=I.tuple h1;obtain⟨as,ra⟩:=DenAll.reads I ds hl h2 rv;exact⟨_,.tuple e c d (by simpa using ra)⟩
 |.dict _,_,_,hl,_,_=>nomatch hl
theorem DenAll.reads{X:Cx}{pins:List (av×fD)}{Y:St}{H:Hp}{s:ar}(I:Inv X pins Y H s):∀(ds:List bc) {xs:List V} {us:List ai},bg ds=p4->DenAll X.K H xs ds->Vals xs us->∃as,lG s.heap us ds as
 |[],xs,us,_,q,r=>by
  cases q.nil_inv
  cases r
  exact⟨_,.nil⟩
 |d::ds,xs,us,hl,q,r=>by
  have pd:d.canLay0=p4/\bg ds=p4:=by simpa[bg]using hl
  obtain⟨v,rs,rfl,h1,h2⟩:=q.cons_inv;cases r with
  |cons r1 r2=>
   obtain⟨as,ra⟩:=Den.reads I d pd.1 h1 r1;obtain⟨bs,rb⟩:=DenAll.reads I ds pd.2 h2 r2;exact⟨_,.cons ra rb⟩
end
def OpS(X:Cx)(f:ai->ai->Sem ai)(g:D->D->Option D):Prop:=
 ∃r,OpR X f r/\∀(x y:V) (H:Hp) (a b d:D) (Q:VK),Den X.K H x a->Den X.K H y b->g a b=cz d->(∀v,imm d=p4->(∀H',Den X.K H' v d)->Q v H)->r x y H Q
def b0Z(X:Cx)(f:ai)(g:List D->Option D):Prop:=
 ∃r,CallR X f r/\∀(xs:List V) (H:Hp) (ds:List D) (d:D) (Q:VK),DenAll X.K H xs ds->g ds=cz d->(∀v,imm d=p4->(∀H',Den X.K H' v d)->Q v H)->r xs H Q
def d2I(p:Int->Int->Bool)(g:Int->Int->D):D->D->Option D
 |.int a,.int b=>if p a b then cz (g a b) else el
 |_,_=>el
def a2s(h:d2I p g a b=cz d):∃i j,a=.int i/\b=.int j/\p i j=p4/\d=g i j:=by
 cases a with
 |int i=>
  cases b with
  |int j=>
   have h':(if p i j=p4 then cz (g i j) else el)=cz d:=h;by_cases c:p i j=p4
   ·rw[aG c]at h';exact⟨i,j,rfl,rfl,c,(aH h').symm⟩
   ·rw[aL c]at h';cases h'
  |_=>cases h
 |_=>cases h
def pT:Int->Int->Bool:=λ_ _=>p4
abbrev z7:D->D->Option D:=d2I pT λa b=>.int (a+b)
abbrev a3E:D->D->Option D:=d2I pT λa b=>.int (a-b)
def a9k(a b:Int):Bool:=decide (a.natAbs<2^64)||decide (b.natAbs<2^64)
abbrev K9:D->D->Option D:=d2I a9k λa b=>.int (a*b)
def b6x(_ b:Int):Bool:=decide (0<b)
abbrev C5:D->D->Option D:=d2I b6x λa b=>.int (a % b)
def b3L(_ b:Int):Bool:=decide (0<b)&&decide (b<1073741824)
abbrev Y8:D->D->Option D:=d2I b3L λa b=>.int (a / b)
def b3M(a b:Int):Bool:=decide (0<=b)&&decide (b<=1000000)&&decide (a.natAbs<2^64)
abbrev a4U:D->D->Option D:=d2I b3M λa b=>.int (a^b.toNat)
abbrev dLt:D->D->Option D:=d2I pT λa b=>.bool (decide (a<b))
abbrev dLe:D->D->Option D:=d2I pT λa b=>.bool (decide (a<=b))
abbrev dGt:D->D->Option D:=d2I pT λa b=>.bool (decide (b<a))
abbrev dGe:D->D->Option D:=d2I pT λa b=>.bool (decide (b<=a))
def a9l(neg:Bool)(a b:D):Option D:=if a.canLay0&&b.canLay0&&decide (a.depth<=450) then cz (.bool (neg !=aK a b)) else el
abbrev dEq:D->D->Option D:=a9l rp
abbrev dNe:D->D->Option D:=a9l p4
def isN:D->Bool
 |.none=>p4
 |_=>rp
def E9(neg:Bool)(a b:D):Option D:=if isN b then cz (.bool (neg !=isN a)) else el
def c0e(neg:Bool):D->D->Option D
 |.bool a,.bool b=>cz (.bool (neg !=(a==b)))
 |_,_=>el
section
variable {X:Cx}
def b3N{f:ai->ai->Sem ai}{C:Int->Int->Prop}{p:Int->Int->Bool}{g:Int->Int->Int}(ho:OpR X f (rI C λi j=>.int (g i j)))(hp:∀i j,p i j=p4->C i j):OpS X f (d2I p λa b=>.int (g a b)):=by
 refine⟨_,ho,λx y H a b d Q ha hb hg q=>?_⟩;obtain⟨i,j,rfl,rfl,c,rfl⟩:=a2s hg;exact⟨i,j,ha.int_inv,hb.int_inv,hp i j c,q _ (by simp only[imm]) λ_=>den_int⟩
def b5v{f:ai->ai->Sem ai}{g:Int->Int->Int}(ho:OpR X f (rI0 λi j=>.int (g i j))):OpS X f (d2I pT λa b=>.int (g a b)):=by
 refine⟨_,ho,λx y H a b d Q ha hb hg q=>?_⟩;obtain⟨i,j,rfl,rfl,c,rfl⟩:=a2s hg;exact⟨i,j,ha.int_inv,hb.int_inv,q _ (by simp only[imm]) λ_=>den_int⟩
def b1a{f:ai->ai->Sem ai}{g:Int->Int->Bool}(ho:OpR X f (rI0 λi j=>.bl (g i j))):OpS X f (d2I pT λa b=>.bool (g a b)):=by
 refine⟨_,ho,λx y H a b d Q ha hb hg q=>?_⟩;obtain⟨i,j,rfl,rfl,c,rfl⟩:=a2s hg;exact⟨i,j,ha.int_inv,hb.int_inv,q _ (by simp only[imm]) λ_=>den_bool⟩
def A1:OpS X (eF .Add) z7:=b5v b6j
def V9:OpS X (eF .Sub) a3E:=b5v b6k
def K6:OpS X (eF .Mult) K9:=b3N b6l λi j h=>by
 unfold a9k at h;rw[iZ]at h;rcases h with h|h
 ·have:=aW h;exact .inl ⟨by lia,by lia⟩
 ·have:=aW h;exact .inr ⟨by lia,by lia⟩
def v7:OpS X (eF .Mod) C5:=b3N b6m λi j h=>aW h
def M9:OpS X (eF .FloorDiv) Y8:=b3N b3w λi j h=>by
 unfold b3L at h;rw[aw]at h;exact⟨aW h.1,aW h.2⟩
def a2t:OpS X (eF .Pow) a4U:=b3N b6n λi j h=>by
 unfold b3M at h;rw[aw,aw]at h;exact⟨aW h.1.1,aW h.1.2,aW h.2⟩
def a5E:OpS X (bQ .Lt) dLt:=b1a b8o
def a8m:OpS X (bQ .LtE) dLe:=b1a b8p
def b8w:OpS X (bQ .Gt) dGt:=b1a b8q
def b6y(K:af)(neg:Bool):R2:=λx y H Q=>∃d e,Den K H x d/\Den K H y e/\d.canLay0=p4/\e.canLay0=p4/\d.depth<=450/\Q (.bl (neg !=aK d e)) H
def b1b(hu:X.A.units+464<dq):OpR X (bQ .Eq) (b6y X.K rp):=by
 intro pins s Y H x y v u Q I rx ry h;obtain⟨d,e,h1,h2,c1,c2,hd,q⟩:=h;obtain⟨as,ra⟩:=Den.reads I d c1 h1 rx;obtain⟨bs,rb⟩:=Den.reads I e c2 h2 ry;refine SeqAt.compareEq_reads ra rb c1 c2 (by have:=oU d.depth e.depth;lia) ?_;exact⟨.bl _,H,I,rfl,by simpa using q⟩
def b1c(hu:X.A.units+464<dq):OpR X (bQ .NotEq) (b6y X.K p4):=by
 intro pins s Y H x y v u Q I rx ry h;obtain⟨d,e,h1,h2,c1,c2,hd,q⟩:=h;obtain⟨as,ra⟩:=Den.reads I d c1 h1 rx;obtain⟨bs,rb⟩:=Den.reads I e c2 h2 ry;refine a6W ra rb c1 c2 (by have:=oU d.depth e.depth;lia) _ _ _ _ ?_;exact⟨.bl _,H,I,rfl,by simpa using q⟩
def b1d(ho:OpR X f (b6y X.K neg)):OpS X f (a9l neg):=by
 refine⟨_,ho,λx y H a b d Q ha hb hg q=>?_⟩;unfold a9l at hg;by_cases c:(a.canLay0&&b.canLay0&&decide (a.depth<=450))=p4
 ·rw[aG c]at hg;cases hg
  rw[aw,aw]at c;exact⟨a,b,ha,hb,c.1.1,c.1.2,aW c.2,q _ (by simp only[imm]) λ_=>den_bool⟩
 ·rw[aL c]at hg;cases hg
def os_eq(hu:X.A.units+464<dq):OpS X (bQ .Eq) dEq:=b1d (b1b hu)
def b8x(hu:X.A.units+464<dq):OpS X (bQ .NotEq) dNe:=b1d (b1c hu)
def a4V(h:Den K H x a):decide (x=V.non)=isN a:=by
 cases a with
 |none=>rw[h.none_inv];rfl
 |bool b=>rw[h.bool_inv];rfl
 |int b=>rw[h.int_inv];rfl
 |str b=>rw[h.str_inv];rfl
 |list ds=>obtain⟨a,xs,rfl,_⟩:=h.list_inv;rfl
 |tuple ds=>obtain⟨a,xs,rfl,_⟩:=h.tup_inv;rfl
 |dict kvs=>
  obtain⟨a,es,rfl,_⟩:=h.dict_inv;rfl
def a6X:OpS X (bQ .Is) (E9 rp):=by
 refine⟨_,b6o,λx y H a b d Q ha hb hg q=>?_⟩;unfold E9 at hg;by_cases c:isN b=p4
 ·rw[aG c]at hg;cases hg
  have e:=a4V hb;rw[c]at e;refine⟨aW e,?_⟩;rw[a4V ha];have:=q (.bl (rp !=isN a)) (by simp only[imm]) λ_=>den_bool
  simpa using this
 ·rw[aL c]at hg;cases hg
def a2b:OpS X (bQ .IsNot) (E9 p4):=by
 refine⟨_,b3x,λx y H a b d Q ha hb hg q=>?_⟩;unfold E9 at hg;by_cases c:isN b=p4
 ·rw[aG c]at hg;cases hg
  have e:=a4V hb;rw[c]at e;refine⟨aW e,?_⟩;rw[a4V ha];have:=q (.bl (p4 !=isN a)) (by simp only[imm]) λ_=>den_bool
  simpa using this
 ·rw[aL c]at hg;cases hg
end
inductive Md where
 |dead|own (u:Ty)|exc|keys (kt:Bool)|pin (v:V)|fn (Φ:Hp->V->Prop)
def ExcAt(a C:av):HO:=.ext λh=>∃o,h.get? a=cz o/\o.cls=.ref C
def SlotR(K:af)(H:Hp)(F:List av)(m:Md)(o:Option V)(d:D)(f:List av):Prop:=
 match m with
 |.dead=>f=[]
 |.own u=>∃v,o=cz v/\Own K H F u v d f
 |.exc=>f=[]/\∃v,o=cz v/\((v=.non/\d=.none)\/∃a C n,v=.ref a/\d=.str n/\cut H F a=cz (ExcAt a C)/\gD K bL n=cz (cz (.ref C)))
 |.keys kt=>f=[]/\∃a es kvs,o=cz (.ref a)/\d=.dict kvs/\cut H F a=cz (e6 a es)/\es.map (·.1)=kvs.map (·.1)/\∀e∈es,keyOk kt e.1/\Den K (cut H F) e.2.1 e.1
 |.pin v=>f=[]/\o=cz v
 |.fn Φ=>f=[]/\∃v,o=cz v/\∀H',Same (cut H F) H'->Φ H' v
def StAll(K:af)(H:Hp)(F:List av):List Md->List D->L2.St->List av->Prop
 |[],U,Y,fp=>U=[]/\Y=[]/\fp=[]
 |m::M,U,Y,fp=>∃d U' o Y' f g,U=d::U'/\Y=o::Y'/\fp=f++g/\SlotR K H F m o d f/\StAll K H F M U' Y' g
section
variable {K:af}{H H':Hp}{F F':List av}
theorem SlotR.frame(h:SlotR K H F m o d f)(e:Same (cut H F) (cut H' F'))(k:∀a∈f,H' a=H a):SlotR K H' F' m o d f:=by
 cases m with
 |dead=>exact h
 |own u=>
  obtain⟨v,rfl,h⟩:=h;exact⟨v,rfl,h.frame e u k⟩
 |exc=>
  obtain⟨h0,v,h1,h2⟩:=h;refine⟨h0,v,h1,h2.imp (λz=>z) λ⟨a,C,n,z1,z2,z3,z4⟩=>⟨a,C,n,z1,z2,e _ _ z3,z4⟩⟩
 |keys kt=>
  obtain⟨h0,a,es,kvs,h1,h2,h3,h4,h5⟩:=h;exact⟨h0,a,es,kvs,h1,h2,e _ _ h3,h4,λx hx=>⟨(h5 x hx).1,(h5 x hx).2.up e⟩⟩
 |pin v=>exact h
 |fn Φ=>obtain⟨h0,v,h1,h2⟩:=h;exact⟨h0,v,h1,λH2 e2=>h2 H2 (e.trans e2)⟩
def k7(h:SlotR K H F m o d f)(q:StAll K H F M U Y g):StAll K H F (m::M) (d::U) (o::Y) (f++g):=by
 simp only[StAll];exact⟨d,U,o,Y,f,g,rfl,rfl,rfl,h,q⟩
def L8:StAll K H F [] [] [] []:=by simp only[StAll];exact⟨trivial,trivial,trivial⟩
theorem StAll.frame:∀{M:List Md} {U:List D} {Y:L2.St} {fp:List av},StAll K H F M U Y fp->Same (cut H F) (cut H' F')->(∀a∈fp,H' a=H a)->StAll K H' F' M U Y fp
 |[],_,_,_,h,_,_=>by simpa only [StAll]using h
 |m::M,_,_,_,h,e,k=>by
  simp only[StAll]at h;obtain⟨d,U,o,Y,f,g,rfl,rfl,rfl,h1,h2⟩:=h;exact k7 (h1.frame e λa ha=>k a (aA _ ha)) (StAll.frame h2 e λa ha=>k a (aq _ ha))
theorem StAll.len:∀{M:List Md} {U:List D} {Y:L2.St} {fp:List av},StAll K H F M U Y fp->U.length=M.length/\Y.length=M.length
 |[],_,_,_,h=>by simp only[StAll]at h;obtain⟨rfl,rfl,_⟩:=h;exact⟨rfl,rfl⟩
 |m::M,_,_,_,h=>by
  simp only[StAll]at h;obtain⟨d,U,o,Y,f,g,rfl,rfl,rfl,_,h2⟩:=h;obtain⟨a,b⟩:=StAll.len h2;exact⟨by rw[bB,bB,a],by rw[bB,bB,b]⟩
theorem StAll.at_:∀{M:List Md} {U:List D} {Y:L2.St} {fp:List av} {i:Nat} {m:Md},StAll K H F M U Y fp->M[i]?=cz m->
  ∃d o f pre post,U[i]?=cz d/\Y[i]?=cz o/\SlotR K H F m o d f/\fp=pre++(f++post)/\
   ∀(H':Hp) (F':List av) (m':Md) (d':D) (o':Option V) (f':List av),(∀a∈pre++post,H' a=H a)->Same (cut H F) (cut H' F')->SlotR K H' F' m' o' d' f'->
    StAll K H' F' (M.set i m') (U.set i d') (Y.set i o') (pre++(f'++post))
 |[],_,_,_,i,m,_,e=>by simp at e
 |m0::M,_,_,_,0,m,h,e=>by
  simp only[StAll]at h;obtain⟨d,U,o,Y,f,g,rfl,rfl,rfl,h1,h2⟩:=h;have:m0=m:=by simpa using e
  subst this;refine⟨d,o,f,[],g,rfl,rfl,h1,rfl,λH' F' m' d' o' f' k e' s=>?_⟩;show StAll K H' F' (m'::M) (d'::U) (o'::Y) (f'++g);exact k7 s (h2.frame e' k)
 |m0::M,_,_,_,i+1,m,h,e=>by
  simp only[StAll]at h;obtain⟨d,U,o,Y,f,g,rfl,rfl,rfl,h1,h2⟩:=h;obtain⟨d1,o1,f1,pre,post,e1,e2,e3,e4,e5⟩:=StAll.at_ (i:=i) h2 (by simpa using e);subst e4;refine⟨d1,o1,f1,f++pre,post,by simpa using e1,by simpa using e2,e3,by rw[be],λH' F' m' d' o' f' k e' s=>?_⟩;rw[be];refine k7 (h1.frame e' λa ha=>k a ?_) (e5 H' F' m' d' o' f' (λa ha=>k a ?_) e' s)
  ·rw[be];exact aA _ ha
  ·rw[be];exact aq _ ha
end
structure StE (K:af) (M:List Md) (U:List D) (Y:L2.St) (H P:Hp) (F:List av):Prop where
 all:∃G,StAll K H F M U Y G/\∀a∈G,a∈F
 lst:∀a∈F,∃ys:MuO,H a=cz ys.1
 prot:Same P (cut H F)
structure StR (K:af) (M:List Md) (U:List D) (Y:L2.St) (H P:Hp) (F:List av):Prop where
 all:∃G,StAll K H F M U Y G/\G.Nodup/\∀a∈G,a∈F
 lst:∀a∈F,∃ys:MuO,H a=cz ys.1
 prot:Same P (cut H F)
section
variable {K:af}{M:List Md}{U:List D}{Y:L2.St}{H H' P:Hp}{F:List av}
def StR.toE(h:StR K M U Y H P F):StE K M U Y H P F:=⟨let⟨G,a,_,b⟩:=h.all;⟨G,a,b⟩,h.lst,h.prot⟩
def StE.keep(h:StE K M U Y H P F)(e:Same H H'):∀a∈F,H' a=H a:=λa ha=>by
 obtain⟨ys,q⟩:=h.lst a ha;rw[q,e _ _ q]
def StE.lst'(h:StE K M U Y H P F)(e:Same H H'):∀a∈F,∃ys:MuO,H' a=cz ys.1:=λa ha=>by
 obtain⟨ys,q⟩:=h.lst a ha;exact⟨ys,e _ _ q⟩
def a0u(e:Same H H')(hf:∀a∈fp,H a=el):Same (cut H F) (cut H' (fp++F)):=M8 e λa o ha ki=>by
 rcases az.mp ki with z|z
 ·rw[hf a z]at ha;cases ha
 ·exact z
def StE.more(h:StE K M U Y H P F)(e:Same H H')(hf:∀a∈fp,H a=el)(hl:∀a∈fp,∃ys:MuO,H' a=cz ys.1):StE K M U Y H' P (fp++F):=by
 obtain⟨G,h1,h3⟩:=h.all;have hc:Same (cut H F) (cut H' (fp++F)):=a0u e hf;refine⟨⟨G,h1.frame hc λa ha=>h.keep e a (h3 a ha),λa ha=>aq _ (h3 a ha)⟩,λa ha=>?_,h.prot.trans hc⟩;rcases az.mp ha with z|z
 ·exact hl a z
 ·exact h.lst' e a z
def StE.grow(h:StE K M U Y H P F)(e:Same H H'):StE K M U Y H' P F:=h.more (fp:=[]) e (λa ha=>(nomatch ha)) λa ha=>(nomatch ha)
theorem StR.more(h:StR K M U Y H P F)(e:Same H H')(hf:∀a∈fp,H a=el)(hl:∀a∈fp,∃ys:MuO,H' a=cz ys.1):StR K M U Y H' P (fp++F):=by
 obtain⟨G,h1,h2,h3⟩:=h.all;have S:=h.toE.more e hf hl;exact⟨⟨G,h1.frame (a0u e hf) λa ha=>h.toE.keep e a (h3 a ha),h2,λa ha=>aq _ (h3 a ha)⟩,S.lst,S.prot⟩
def StR.grow(h:StR K M U Y H P F)(e:Same H H'):StR K M U Y H' P F:=h.more (fp:=[]) e (λa ha=>(nomatch ha)) λa ha=>(nomatch ha)
def A2(h:U[i]?=cz d):U.getD i x=d:=by rw[aU,h];rfl
def StE.get(h:StE K M U Y H P F)(hm:M[i]?=cz (.own u)):∃v f,Y[i]?=cz (cz v)/\Own K H F u v (U.getD i .none) f/\∀a∈f,a∈F:=by
 obtain⟨G,h1,h3⟩:=h.all;obtain⟨d,o,f,pre,post,e1,e2,⟨v,rfl,q⟩,e4,_⟩:=h1.at_ hm;refine⟨v,f,e2,by rw[A2 e1];exact q,λa ha=>h3 a ?_⟩;rw[e4];exact aq _ (aA _ ha)
theorem StAll.pick(h:StAll K H F M U Y G)(hG:∀a∈G,a∈F):∀js:List Nat,∃G',StAll K H F (js.map λj=>M.getD j .dead) (js.map λj=>U.getD j .none) (js.map λj=>(Y[j]?).getD el) G'/\∀a∈G',a∈F
 |[]=>⟨[],L8,λa ha=>(nomatch ha)⟩
 |j::js=>by
  obtain⟨G',q,hq⟩:=StAll.pick h hG js;cases e:M[j]? with
  |none=>
   refine⟨[]++G',?_,λa ha=>hq a (by simpa using ha)⟩;have:M.getD j .dead=.dead:=by rw[aU,e];rfl
   rw[ay,ay,ay,this];exact k7 rfl q
  |some m=>
   obtain⟨d,o,f,pre,post,e1,e2,e3,e4,_⟩:=h.at_ e;refine⟨f++G',?_,λa ha=>?_⟩
   ·rw[ay,ay,ay,show M.getD j .dead=m by rw[aU,e];rfl,A2 e1,e2];exact k7 e3 q
   ·rcases az.mp ha with z|z
    ·exact hG a (by rw[e4];exact aq _ (aA _ z))
    ·exact hq a z
def L9{pre f post:List av}(h:(pre++(f++post)).Nodup):(pre++post).Nodup:=
 h.sublist (List.Sublist.append (BI _) (List.sublist_append_right _ _))
def mem_mid{pre f post:List av}{a:av}(h:a∈pre++post):a∈pre++(f++post):=by
 rcases az.mp h with h|h
 ·exact aA _ h
 ·exact aq _ (aq _ h)
def X5{pre f post:List av}(h:(pre++post).Nodup)(hf:f.Nodup)(d:∀a∈f,a∉pre++post):(pre++(f++post)).Nodup:=by
 rw[bb]at h ⊢;obtain⟨h1,h2,h3⟩:=h;refine⟨h1,?_,λa ha b hb=>?_⟩
 ·rw[bb];exact⟨hf,h2,λa ha b hb e=>d a ha (e▸aq _ hb)⟩
 ·rcases az.mp hb with z|z
  ·intro e;exact d b z (e▸aA _ ha)
  ·exact h3 a ha b z
def a2c{pre f post:List av}{a:av}(h:a∈pre++(f++post)):a∈f\/a∈pre++post:=by
 rcases az.mp h with h|h
 ·exact .inr (aA _ h)
 ·rcases az.mp h with h|h
  ·exact .inl h
  ·exact .inr (aq _ h)
def a1i{pre f post:List av}(h:(pre++(f++post)).Nodup):∀a∈f,a∉pre++post:=λa ha z=>by
 rw[bb,bb]at h;rcases az.mp z with z|z
 ·exact h.2.2 a z a (aA _ ha) rfl
 ·exact h.2.1.2.2 a ha a z rfl
theorem StR.set{H1:Hp}{i:Nat}{m:Md}{u:Ty}{v:V}{d:D}{fp:List av}(h:StR K M U Y H P F)(hm:M[i]?=cz m)(e:Same H H1)(hv:Own K H1 (fp++F) u v d fp)(hn:fp.Nodup)(hf:∀a∈fp,H a=el) :
  StR K (M.set i (.own u)) (U.set i d) (Y.set i (cz v)) H1 P (fp++F):=by
 obtain⟨G,h1,h2,h3⟩:=h.all;have S:=h.more e hf (hv.lst u);obtain⟨d0,o,f,pre,post,e1,e2,e3,e4,e5⟩:=h1.at_ hm;have i_:=h2;rw[e4]at i_;have hG:∀a∈pre++post,a∈F:=λa ha=>h3 a (by rw[e4];exact mem_mid ha)
 have hc:Same (cut H F) (cut H1 (fp++F)):=M8 e λa o ha ki=>by
  rcases az.mp ki with z|z
  ·rw[hf a z]at ha;cases ha
  ·exact z
 refine⟨⟨pre++(fp++post),e5 H1 _ (.own u) d (cz v) fp (λa ha=>h.toE.keep e a (hG a ha)) hc ⟨v,rfl,hv⟩,X5 (L9 i_) hn λa ha z=>?_,λa ha=>?_⟩,S.lst,S.prot⟩
 ·obtain⟨ys,q⟩:=h.lst a (hG a z);rw[hf a ha]at q;cases q
 ·rcases a2c ha with z|z
  ·exact aA _ z
  ·exact aq _ (hG a z)
def StR.kill{i:Nat}{m:Md}(h:StR K M U Y H P F)(hm:M[i]?=cz m)(d:D)(o:Option V):StR K (M.set i .dead) (U.set i d) (Y.set i o) H P F:=by
 obtain⟨G,h1,h2,h3⟩:=h.all;obtain⟨d0,o0,f,pre,post,e1,e2,e3,e4,e5⟩:=h1.at_ hm;rw[e4]at h2;exact⟨⟨pre++([]++post),e5 H F .dead d o [] (λ_ _=>rfl) (Same.refl _) rfl,L9 h2,λa ha=>h3 a (by rw[e4];exact mem_mid ha)⟩,h.lst,h.prot⟩
def set_same{α:Type}{l:List α}{i:Nat}{x:α}(h:l[i]?=cz x):l.set i x=l:=nz λj=>by
 rw[List.getElem?_set]
 split
 ·next hj=>
  subst hj
  split
  ·exact h.symm
  ·next hh=>exact (dU (by lia)).symm
 ·rfl
theorem StR.dead{i:Nat}{m:Md}(h:StR K M U Y H P F)(hm:M[i]?=cz m):StR K (M.set i .dead) U Y H P F:=by
 obtain⟨G,h1,_⟩:=h.all;obtain⟨d0,o0,f,pre,post,e1,e2,_⟩:=h1.at_ hm;have:=h.kill hm d0 o0
 rwa[set_same e1,set_same e2]at this
def Own.freeze(h:Own K H F u v d fp)(hs:∀a∈F',a∈F)(hd:∀a∈fp,a∉F'):Own K H F' .f v d []:=by
 have key:∀(u:Ty) {v:V} {d:D} {fp:List av},Own K H F u v d fp->(∀a∈fp,a∉F')->Den K (cut H F') v d:=by
  intro u;refine Ty.rec (motive_1:=λu=>∀{v:V} {d:D} {fp:List av},Own K H F u v d fp->(∀a∈fp,a∉F')->Den K (cut H F') v d)
   (motive_2:=λus=>∀{xs:List V} {ds:List D} {fp:List av},OwnTs K H F us xs ds fp->(∀a∈fp,a∉F')->DenAll K (cut H F') xs ds) ?_ ?_ ?_ ?_ ?_ ?_ ?_ u
  ·intro v d fp h _;simp only[Own]at h;exact h.2.2.up (C8 hs)
  ·intro v d fp h _;simp only[Own]at h;exact h.2.up (C8 hs)
  ·intro u ih v d fp h hd;simp only[Own]at h;rcases h with⟨_,_,h⟩|⟨a,xs,ds,fs,rfl,h1,rfl,rfl,h2⟩
   ·exact h.up (C8 hs)
   ·refine den_list (.inl (.inl (j6 (hd a aj) h1))) (ListAll.den (R:=λv d f=>Own K H F u v d f/\∀a∈f,a∉F') (λv d f q=>ih q.1 q.2) (h2.imp λv d f hf _ q=>⟨q,λb hb=>hd b (ak _ (hf b hb))⟩))
  ·intro us ih v d fp h hd;simp only[Own]at h;rcases h with⟨_,_,h⟩|⟨a,xs,ds,rfl,h1,h0,rfl,h2⟩
   ·exact h.up (C8 hs)
   exact den_tup (SqT.of (j6 (λz=>h0 (hs a z)) h1)) (ih h2 hd)
  ·intro kt u ih v d fp h hd;simp only[Own]at h;obtain⟨a,es,ds,fs,rfl,h1,rfl,rfl,h3,h2⟩:=h;exact a3W (j6 (hd a aj) h1) (λe he=>(h3.2 e he).2.up (C8 hs)) (ListAll.den (R:=λv d f=>Own K H F u v d f/\∀a∈f,a∉F') (λv d f q=>ih q.1 q.2) (h2.imp λv d f hf _ q=>⟨q,λb hb=>hd b (ak _ (hf b hb))⟩))
  ·intro xs ds fp h _;simp only[OwnTs]at h;obtain⟨rfl,rfl,_⟩:=h;exact denAll_nil
  ·intro u us CN CM xs ds fp h hd;simp only[OwnTs]at h;obtain⟨v,r,d,e,f,g,rfl,rfl,rfl,h1,h2⟩:=h;exact denAll_cons (CN h1 λa ha=>hd a (aA _ ha)) (CM h2 λa ha=>hd a (aq _ ha))
 simp only[Own];exact⟨trivial,key u h hd⟩
theorem StR.freeze{i:Nat}{u:Ty}(h:StR K M U Y H P F)(hm:M[i]?=cz (.own u)):∃F',StR K (M.set i (.own .f)) U Y H P F':=by
 obtain⟨G,h1,h2,h3⟩:=h.all;obtain⟨d,o,f,pre,post,e1,e2,⟨v,rfl,e3⟩,e4,e5⟩:=h1.at_ hm;rw[e4]at h2;have jm:∀a∈F.filter (λa=>decide (a∉f)),a∈F:=λa ha=>(bx.mp ha).1
 have sU:∀a∈f,a∉F.filter (λa=>decide (a∉f)):=λa ha z=>absurd ha (aW (bx.mp z).2)
 have hc:Same (cut H F) (cut H (F.filter (λa=>decide (a∉f)))):=C8 jm;have q:=e5 H _ (.own .f) d (cz v) [] (λ_ _=>rfl) hc ⟨v,rfl,e3.freeze jm sU⟩;rw[set_same e1,set_same e2]at q;refine⟨_,⟨_,q,L9 h2,λa ha=>bx.mpr ⟨h3 a (by rw[e4];exact mem_mid ha),aI λz=>a1i h2 a z ha⟩⟩,λa ha=>h.lst a (jm a ha),h.prot.trans hc⟩
end
inductive Cat where
 |new (u:Ty)|bor (u:Ty)|tmp
def ResR(K:af)(c:Cat)(H H':Hp)(F:List av)(v:V)(d:D):Prop:=
 match c with
 |.new u=>∃fp,Own K H' (fp++F) u v d fp/\fp.Nodup/\∀a∈fp,H a=el
 |.bor u=>∃fp,Own K H' F u v d fp/\∀a∈fp,a∈F
 |.tmp=>Den K H' v d
section
variable {K:af}{c:Cat}{H H0 H' H1 H2:Hp}{F:List av}{v:V}{d:D}
theorem ResR.den(r:ResR K c H H' F v d):Den K H' v d:=by
 cases c with
 |new u=>obtain⟨fp,h,_⟩:=r;exact h.den u
 |bor u=>obtain⟨fp,h,_⟩:=r;exact h.den u
 |tmp=>exact r
def Own.grow(h:Own K H1 F u v d fp)(e:Same H1 H2):Own K H2 F u v d fp:=
 h.frame (x0 e) u λa ha=>by obtain⟨ys,q⟩:=h.lst u a ha;rw[q,e _ _ q]
theorem ResR.up(r:ResR K c H H1 F v d)(e:Same H1 H2):ResR K c H H2 F v d:=by
 cases c with
 |new u=>obtain⟨fp,h,q⟩:=r;exact⟨fp,h.grow e,q⟩
 |bor u=>obtain⟨fp,h,q⟩:=r;exact⟨fp,h.grow e,q⟩
 |tmp=>exact Den.up r e
def ResR.early(r:ResR K c H H1 F v d)(e:Same H0 H):ResR K c H0 H1 F v d:=by
 cases c with
 |new u=>obtain⟨fp,h,n,q⟩:=r;exact⟨fp,h,n,λa ha=>e.free (q a ha)⟩
 |bor u=>exact r
 |tmp=>exact r
def E6(hi:imm d=p4)(hd:Den K H' v d)(hF:∀a∈F,∃ys:MuO,H' a=cz ys.1):ResR K (.new .i) H H' F v d:=by
 refine⟨[],?_,bp,λa ha=>(nomatch ha)⟩;simp only[Own,cw];exact⟨trivial,hi,hd.imm_out hF d hi⟩
def Q2(h:Own K H F .i v d fp):fp=[]/\imm d=p4/\Den K (cut H F) v d:=by simpa only [Own]using h
def a8n(h:Own K H F .f v d fp):fp=[]/\Den K (cut H F) v d:=by simpa only [Own]using h
end
abbrev EvE:=List D->Option D
abbrev EvT:=List D->Option Bool
def spE(K:af)(M:List Md)(f:EvE)(c:Cat):TE:=λY H Q=>∃(U:List D) (P:Hp) (F:List av) (d:D),StE K M U Y H P F/\f U=cz d/\∀v H',Same H H'->ResR K c H H' F v d->Q v H'
def PX(X:Cx)(M:List Md)(e:Expr)(f:EvE)(c:Cat):Prop:=PE X e (spE X.K M f c)
def PX.out{X:Cx}{M:List Md}{e:Expr}{f:EvE}{c:Cat}(h:PX X M e f c) :
  ∃t,PE X e t/\∀(U:List D) (Y:L2.St) (H P:Hp) (F:List av) (d:D) (Q:VK),StE X.K M U Y H P F->f U=cz d->(∀v H',Same H H'->ResR X.K c H H' F v d->Q v H')->t Y H Q:=
 ⟨_,h,λU _ _ P F d _ S hf q=>⟨U,P,F,d,S,hf,q⟩⟩
def PX.mk{X:Cx}{M:List Md}{e:Expr}{f:EvE}{c:Cat}
  (h:∃t,PE X e t/\∀(U:List D) (Y:L2.St) (H P:Hp) (F:List av) (d:D) (Q:VK),StE X.K M U Y H P F->f U=cz d->(∀v H',Same H H'->ResR X.K c H H' F v d->Q v H')->t Y H Q):PX X M e f c:=by
 obtain⟨t,p,q⟩:=h;exact λpins s Y H Q I ⟨U,P,F,d,S,hf,z⟩=>p pins s Y H Q I (q U Y H P F d Q S hf z)
def spT(K:af)(M:List Md)(g:EvT):TT:=λY H Q=>∃(U:List D) (P:Hp) (F:List av) (b:Bool),StE K M U Y H P F/\g U=cz b/\∀H',Same H H'->Q b H'
def PTX(X:Cx)(M:List Md)(e:Expr)(g:EvT):Prop:=PT X e (spT X.K M g)
def PTX.out{X:Cx}{M:List Md}{e:Expr}{g:EvT}(h:PTX X M e g) :
  ∃t,PT X e t/\∀(U:List D) (Y:L2.St) (H P:Hp) (F:List av) (b:Bool) (Q:Bool->Hp->Prop),StE X.K M U Y H P F->g U=cz b->(∀H',Same H H'->Q b H')->t Y H Q:=
 ⟨_,h,λU _ _ P F b _ S hf q=>⟨U,P,F,b,S,hf,q⟩⟩
def PTX.mk{X:Cx}{M:List Md}{e:Expr}{g:EvT}
  (h:∃t,PT X e t/\∀(U:List D) (Y:L2.St) (H P:Hp) (F:List av) (b:Bool) (Q:Bool->Hp->Prop),StE X.K M U Y H P F->g U=cz b->(∀H',Same H H'->Q b H')->t Y H Q):PTX X M e g:=by
 obtain⟨t,p,q⟩:=h;exact λpins s Y H Q I ⟨U,P,F,d,S,hf,z⟩=>p pins s Y H Q I (q U Y H P F d Q S hf z)
def PWX(X:Cx)(M:List Md)(e:Expr)(g:EvT):Prop:=PW X e (spT X.K M g)
def PWX.out{X:Cx}{M:List Md}{e:Expr}{g:EvT}(h:PWX X M e g) :
  ∃t,PW X e t/\∀(U:List D) (Y:L2.St) (H P:Hp) (F:List av) (b:Bool) (Q:Bool->Hp->Prop),StE X.K M U Y H P F->g U=cz b->(∀H',Same H H'->Q b H')->t Y H Q:=
 ⟨_,h,λU _ _ P F b _ S hf q=>⟨U,P,F,b,S,hf,q⟩⟩
def PWX.mk{X:Cx}{M:List Md}{e:Expr}{g:EvT}
  (h:∃t,PW X e t/\∀(U:List D) (Y:L2.St) (H P:Hp) (F:List av) (b:Bool) (Q:Bool->Hp->Prop),StE X.K M U Y H P F->g U=cz b->(∀H',Same H H'->Q b H')->t Y H Q):PWX X M e g:=by
 obtain⟨t,p,q⟩:=h;exact λwhole pins s Y H Q I ⟨U,P,F,d,S,hf,z⟩=>p whole pins s Y H Q I (q U Y H P F d Q S hf z)
abbrev EvA:=List D->Option (List D)
def PAX(X:Cx)(M:List Md)(es:List Expr)(f:EvA):Prop:=
 ∃t,PA X es t/\∀(U:List D) (Y:L2.St) (H P:Hp) (F:List av) (ds:List D) (Q:List V->Hp->Prop),StE X.K M U Y H P F->f U=cz ds->(∀vs H',Same H H'->DenAll X.K H' vs ds->Q vs H')->t Y H Q
def PAN(X:Cx)(M:List Md)(es:List Expr)(f:EvA)(us:List Ty):Prop:=
 ∃t,PA X es t/\∀(U:List D) (Y:L2.St) (H P:Hp) (F:List av) (ds:List D) (Q:List V->Hp->Prop),StE X.K M U Y H P F->f U=cz ds->
  (∀vs H' fp,Same H H'->OwnTs X.K H' (fp++F) us vs ds fp->fp.Nodup->(∀a∈fp,H a=el)->Q vs H')->t Y H Q
noncomputable def b7(i:Nat):EvE:=λU=>cz (U.getD i .none)
noncomputable def eC(d:D):EvE:=λ_=>cz d
def e1(g:D->Option D)(a:EvE):EvE:=λU=>(a U).bind g
def e2(g:D->D->Option D)(a b:EvE):EvE:=λU=>(a U).bind λx=>(b U).bind λy=>g x y
def asB:D->Option Bool
 |.bool b=>cz b
 |_=>el
def a3F(a b:EvE):EvE:=λU=>(a U).bind λx=>(asB x).bind λk=>if k then b U else cz (.bool rp)
def eOr(a b:EvE):EvE:=λU=>(a U).bind λx=>(asB x).bind λk=>if k then cz (.bool p4) else b U
def b1e(a:EvE):EvE:=λU=>(a U).bind λx=>(asB x).bind λk=>cz (.bool !k)
def eIf(c:EvT)(a b:EvE):EvE:=λU=>(c U).bind λk=>if k then a U else b U
def eCh(g g':D->D->Option D)(a b c:EvE):EvE:=λU=>(a U).bind λx=>(b U).bind λy=>(g x y).bind λz=>(asB z).bind λk=>if k then (c U).bind λw=>g' y w else cz (.bool rp)
def tr:D->Option Bool
 |.none=>cz rp
 |.bool b=>cz b
 |.int i=>cz (i !=0)
 |.str x=>if x.length<=aP then cz ((x.length:Int)!=0) else el
 |.list ds=>cz !ds.isEmpty
 |.tuple ds=>cz !ds.isEmpty
 |.dict _=>el
def tV(a:EvE):EvT:=λU=>(a U).bind tr
def tB(a:EvE):EvT:=λU=>(a U).bind asB
def tNo(a:EvT):EvT:=λU=>(a U).bind λk=>cz !k
def tAn(a b:EvT):EvT:=λU=>(a U).bind λk=>if k then b U else cz rp
def C9(a b:EvT):EvT:=λU=>(a U).bind λk=>if k then cz p4 else b U
def c9:List D->Option (List D):=λ_=>cz []
def b8(a:EvE)(r:List D->Option (List D)):List D->Option (List D):=λU=>(a U).bind λx=>(r U).bind λxs=>cz (x::xs)
def F6(h:asB d=cz k):d=.bool k:=by
 cases d with
 |bool b=>cases h;rfl
 |_=>cases h
def bnd{α β:Type}{o:Option α}{f:α->Option β}{b:β}(h:o.bind f=cz b):∃a,o=cz a/\f a=cz b:=sF.mp h
section
variable {X:Cx}{M:List Md}{a b e e':Expr}{es rest:List Expr}{f g fa fb fc:EvE}{ga gb:EvT}{c ca cb cc:Cat}{u:Ty}{us:List Ty}{pos:eM}
def PX.imp(h:PX X M e f c)(k:∀(K:af) (H H':Hp) (F:List av) (v:V) (d:D),(∀a∈F,∃ys:MuO,H a=cz ys.1)->Same H H'->ResR K c H H' F v d->ResR K c' H H' F v d):PX X M e f c':=by
 obtain⟨t,p,q⟩:=h.out;exact .mk ⟨t,p,λU Y H P F d Q S hf z=>q U Y H P F d Q S hf λv H' e r=>z v H' e (k _ _ _ _ _ _ S.lst e r)⟩
def PX.newf(h:PX X M e f (.bor .f)):PX X M e f (.new .f):=h.imp λK H H' F v d _ _ ⟨fp,o,_⟩=>by
 obtain⟨rfl,_⟩:=a8n o;exact⟨[],o,bp,λa ha=>(nomatch ha)⟩
def PX.newi(h:PX X M e f (.bor .i)):PX X M e f (.new .i):=h.imp λK H H' F v d _ _ ⟨fp,o,_⟩=>by
 obtain⟨rfl,_⟩:=Q2 o;exact⟨[],o,bp,λa ha=>(nomatch ha)⟩
def PX.itof(h:PX X M e f (.new .i)):PX X M e f (.new .f):=h.imp λK H H' F v d _ _ ⟨fp,o,n,z⟩=>by
 obtain⟨rfl,_,q⟩:=Q2 o;refine⟨[],?_,n,z⟩;simp only[Own];exact⟨trivial,q⟩
def PX.itol(h:PX X M e f (.new .i)):PX X M e f (.new (.l u)):=h.imp λK H H' F v d _ _ ⟨fp,o,n,z⟩=>by
 obtain⟨rfl,w,q⟩:=Q2 o;refine⟨[],?_,n,z⟩;simp only[Own];exact .inl ⟨trivial,w,q⟩
def PX.frz(h:PX X M e f (.new u)):PX X M e f (.new .f):=h.imp λK H H' F v d hF _ ⟨fp,o,n,z⟩=>by
 refine⟨[],o.freeze (λa ha=>aq _ (by simpa using ha)) (λa ha ur=>?_),bp,λa ha=>(nomatch ha)⟩;obtain⟨ys,q⟩:=hF a (by simpa using ur);rw[z a ha]at q;cases q
def A3(i:Nat)(hN:X.N[i]?=cz x:=by rfl)(hv:autoParam (NmV X x) ZY._auto_1)(hm:M[i]?=cz (.own u):=by rfl):PX X M (.Name x pos) (b7 i) (.bor u):=by
 refine .mk ⟨_,C4 hN hv.1 hv.2.1 hv.2.2,λU Y H P F d Q S hf q=>?_⟩;cases hf
 obtain⟨v,fp,e,o,sub⟩:=S.get hm;exact⟨v,e,q v H (Same.refl _) ⟨fp,o,sub⟩⟩
def a0v(h:PE X e (tC v))(hi:imm d=p4)(hd:∀H,Den X.K H v d):PX X M e (eC d) (.new .i):=by
 refine .mk ⟨_,h,λU Y H P F d' Q S hf q=>?_⟩;cases hf
 exact q v H (Same.refl _) (E6 hi (hd H) S.lst)
def c7{i j}:PX X M (.Constant (.int i) j pos) (eC (.int i)) (.new .i):=a0v b5V (by simp only[imm]) λ_=>den_int
def U4{k j}:PX X M (.Constant (.bool k) j pos) (eC (.bool k)) (.new .i):=a0v b8f (by simp only[imm]) λ_=>den_bool
def J3{j}:PX X M (.Constant .none j pos) (eC .none) (.new .i):=a0v b5W (by simp only[imm]) λ_=>den_none
def b3O(hm:∃t,X.mg x=cz (.int i t))(hg:Gl X x:=by rfl)(hd:(x==("__debug__":bH))=rp:=by decide):PX X M (.Name x pos) (eC (.int i)) (.new .i):=by
 obtain⟨t,hm⟩:=hm;exact a0v (b3s (v:=.int i) hg hm ⟨_,rfl⟩ hd) (by simp only[imm]) λ_=>den_int
def C0{g:D->D->Option D}{U:List D}{d:D}(h:e2 g fa fb U=cz d):∃x y,fa U=cz x/\fb U=cz y/\g x y=cz d:=by
 obtain⟨x,h1,h⟩:=bnd h;obtain⟨y,h2,h⟩:=bnd h;exact⟨x,y,h1,h2,h⟩
def i8{g:D->D->Option D}(ho:OpS X (eF op) g)(ha:PX X M a fa ca)(hb:PX X M b fb cb):PX X M (.BinOp a op b pos) (e2 g fa fb) (.new .i):=by
 obtain⟨r,hr,hs⟩:=ho;obtain⟨ta,pa,qa⟩:=ha.out;obtain⟨tb,pb,qb⟩:=hb.out;refine .mk ⟨_,b0L hr pa pb,λU Y H P F d Q S hf q=>?_⟩;obtain⟨x,y,h1,h2,h3⟩:=C0 hf;exact qa U Y H P F x _ S h1 λv H1 e1 r1=>qb U Y H1 P F y _ (S.grow e1) h2 λw H2 e2 r2=>hs v w H2 x y d Q (r1.den.up e2) r2.den h3 λz hi hd=>q z H2 (e1.trans e2) (E6 hi (hd H2) (S.lst' (e1.trans e2)))
def a6Y{g:D->D->Option D}(ho:OpS X (bQ op) g)(ha:PX X M a fa ca)(hb:PX X M b fb cb)(hm:autoParam (et op b=rp) ZX._auto_1):PX X M (.Compare a [op] [b] pos) (e2 g fa fb) (.new .i):=by
 obtain⟨r,hr,hs⟩:=ho;obtain⟨ta,pa,qa⟩:=ha.out;obtain⟨tb,pb,qb⟩:=hb.out;refine .mk ⟨_,a8i hr pa pb hm,λU Y H P F d Q S hf q=>?_⟩;obtain⟨x,y,h1,h2,h3⟩:=C0 hf;exact qa U Y H P F x _ S h1 λv H1 e1 r1=>qb U Y H1 P F y _ (S.grow e1) h2 λw H2 e2 r2=>hs v w H2 x y d Q (r1.den.up e2) r2.den h3 λz hi hd=>q z H2 (e1.trans e2) (E6 hi (hd H2) (S.lst' (e1.trans e2)))
def l7{op:CmpOp}{g:D->D->Option D}(ho:OpS X (bQ op) g)(ha:PX X M a fa ca)(hb:PX X M b fb cb)(hm:autoParam (et op b=rp) ZX._auto_1):PTX X M (.Compare a [op] [b] pos) (tB (e2 g fa fb)):=by
 obtain⟨r,hr,hs⟩:=ho;obtain⟨ta,pa,qa⟩:=ha.out;obtain⟨tb,pb,qb⟩:=hb.out;refine .mk ⟨_,a0p hr pa pb hm,λU Y H P F k Q S hf q=>?_⟩;obtain⟨d,hf,hk⟩:=bnd hf;cases F6 hk
 obtain⟨x,y,h1,h2,h3⟩:=C0 hf;exact qa U Y H P F x _ S h1 λv H1 e1 r1=>qb U Y H1 P F y _ (S.grow e1) h2 λw H2 e2 r2=>hs v w H2 x y _ _ (r1.den.up e2) r2.den h3 λz hi hd=>⟨k,(hd H2).bool_inv,q H2 (e1.trans e2)⟩
def a5F{op oF:CmpOp}{g g':D->D->Option D}{c0:Expr}(ho:OpS X (bQ op) g)(mW:OpS X (bQ oF) g')(ha:PX X M a fa ca)(hb:PX X M b fb cb)(hc:PX X M c0 fc cc)(hm:Ad [op,oF] [b,c0]=rp:=by with_unfolding_all rfl) :
  PX X M (.Compare a [op,oF] [b,c0] pos) (eCh g g' fa fb fc) (.new .i):=by
 obtain⟨r,hr,hs⟩:=ho;obtain⟨r',vn,qG⟩:=mW;obtain⟨ta,pa,qa⟩:=ha.out;obtain⟨tb,pb,qb⟩:=hb.out;obtain⟨tc,pc,qc⟩:=hc.out;refine .mk ⟨_,b0P hr vn pa pb pc hm,λU Y H P F d Q S hf q=>?_⟩;obtain⟨x,h1,hf⟩:=bnd hf;obtain⟨y,h2,hf⟩:=bnd hf;obtain⟨z,h3,hf⟩:=bnd hf;obtain⟨k,h4,hf⟩:=bnd hf;cases F6 h4
 refine qa U Y H P F x _ S h1 λv H1 e1 r1=>qb U Y H1 P F y _ (S.grow e1) h2 λw H2 e2 r2=>hs v w H2 x y _ _ (r1.den.up e2) r2.den h3 λz hi hd=>⟨k,(hd H2).bool_inv,?_⟩
 cases k with
 |false=>
  have mZ:d=.bool rp:=(aH hf).symm;subst mZ;exact a3B (q _ H2 (e1.trans e2) (E6 (by simp only[imm]) den_bool (S.lst' (e1.trans e2))))
 |true=>
  obtain⟨w',h5,hf⟩:=bnd (show (fc U).bind (λw=>g' y w)=cz d from hf);exact a3C (qc U Y H2 P F w' _ (S.grow (e1.trans e2)) h5 λw3 H3 e3 r3=>qG w w3 H3 y w' d Q (r2.den.up e3) r3.den hf λz hi hd=>q z H3 ((e1.trans e2).trans e3) (E6 hi (hd H3) (S.lst' ((e1.trans e2).trans e3))))
def a9m{op oF:CmpOp}{g g':D->D->Option D}{c0:Expr}(ho:OpS X (bQ op) g)(mW:OpS X (bQ oF) g')(ha:PX X M a fa ca)(hb:PX X M b fb cb)(hc:PX X M c0 fc cc)(hm:Ad [op,oF] [b,c0]=rp:=by with_unfolding_all rfl) :
  PTX X M (.Compare a [op,oF] [b,c0] pos) (tB (eCh g g' fa fb fc)):=by
 obtain⟨r,hr,hs⟩:=ho;obtain⟨r',vn,qG⟩:=mW;obtain⟨ta,pa,qa⟩:=ha.out;obtain⟨tb,pb,qb⟩:=hb.out;obtain⟨tc,pc,qc⟩:=hc.out;refine .mk ⟨_,b0Q hr vn pa pb pc hm,λU Y H P F k0 Q S hf q=>?_⟩;obtain⟨d,hf,hk⟩:=bnd hf;cases F6 hk
 obtain⟨x,h1,hf⟩:=bnd hf;obtain⟨y,h2,hf⟩:=bnd hf;obtain⟨z,h3,hf⟩:=bnd hf;obtain⟨k,h4,hf⟩:=bnd hf;cases F6 h4
 refine qa U Y H P F x _ S h1 λv H1 e1 r1=>qb U Y H1 P F y _ (S.grow e1) h2 λw H2 e2 r2=>hs v w H2 x y _ _ (r1.den.up e2) r2.den h3 λz hi hd=>⟨k,(hd H2).bool_inv,?_⟩
 cases k with
 |false=>
  have mZ:k0=rp:=by injection (aH hf).symm
  subst mZ;exact a3B ⟨rp,rfl,q H2 (e1.trans e2)⟩
 |true=>
  obtain⟨w',h5,hf⟩:=bnd (show (fc U).bind (λw=>g' y w)=cz (.bool k0) from hf);exact a3C (qc U Y H2 P F w' _ (S.grow (e1.trans e2)) h5 λw3 H3 e3 r3=>qG w w3 H3 y w' _ _ (r2.den.up e3) r3.den hf λz hi hd=>⟨k0,(hd H3).bool_inv,q H3 ((e1.trans e2).trans e3)⟩)
def a1j(h:PX X M a f c):PX X M (.BoolOp op [a] pos) f c:=by
 obtain⟨t,p,q⟩:=h.out;exact .mk ⟨t,b6a p,q⟩
def a0c(ha:PX X M a fa ca)(hb:PX X M (.BoolOp .And (b::rest) pos) fb (.new .i)):PX X M (.BoolOp .And (a::b::rest) pos) (a3F fa fb) (.new .i):=by
 obtain⟨ta,pa,qa⟩:=ha.out;obtain⟨tb,pb,qb⟩:=hb.out;refine .mk ⟨_,b6b pa pb,λU Y H P F d Q S hf q=>?_⟩;obtain⟨x,h1,hf⟩:=bnd hf;obtain⟨k,h2,hf⟩:=bnd hf;cases F6 h2
 refine qa U Y H P F _ _ S h1 λv H1 e1 r1=>⟨k,r1.den.bool_inv,?_⟩
 cases k with
 |false=>
  have mZ:d=.bool rp:=(aH hf).symm;subst mZ;exact a3B (q _ H1 e1 (E6 (by simp only[imm]) den_bool (S.lst' e1)))
 |true=>exact a3C (qb U Y H1 P F d Q (S.grow e1) hf λw H2 e2 r2=>q w H2 (e1.trans e2) (r2.early e1))
def b1f(ha:PX X M a fa ca):PX X M (.UnaryOp .Not a pos) (b1e fa) (.new .i):=by
 obtain⟨ta,pa,qa⟩:=ha.out;refine .mk ⟨_,b6c pa,λU Y H P F d Q S hf q=>?_⟩;obtain⟨x,h1,hf⟩:=bnd hf;obtain⟨k,h2,hf⟩:=bnd hf;cases F6 h2
 cases hf
 exact qa U Y H P F _ _ S h1 λv H1 e1 r1=>⟨k,r1.den.bool_inv,q _ H1 e1 (E6 (by simp only[imm]) den_bool (S.lst' e1))⟩
def b6z(h:Den K H v d)(ht:tr d=cz k):b6p K v H k:=by
 cases d with
 |none=>cases h.none_inv;cases ht;exact rfl
 |bool b=>cases h.bool_inv;cases ht;exact rfl
 |int i=>cases h.int_inv;cases ht;exact rfl
 |str x=>
  cases h.str_inv
  replace ht:(if x.length<=aP then cz ((x.length:Int)!=0) else el)=cz k:=ht
  by_cases z:x.length<=aP
  ·rw[aG z]at ht;cases ht
   exact⟨z,rfl⟩
  ·rw[aL z]at ht;cases ht
 |list ds=>
  obtain⟨a,xs,rfl,h1,h2⟩:=h.list_inv;cases ht
  refine .inl ⟨xs,h1.l,?_⟩;have:=h2.length;cases xs<;>cases ds<;>simp_all
 |tuple ds=>
  obtain⟨a,xs,rfl,h1,h2⟩:=h.tup_inv;cases ht
  refine .inr (.inl ⟨xs,h1,?_⟩);have:=h2.length;cases xs<;>cases ds<;>simp_all
 |dict kvs=>cases ht
def C1(ha:PX X M a fa ca)(he:∀whole,rd a X.env whole=(do let v <-whole;standAt a.pos;nG [v] (uJ v)):=by intro _;rfl):PTX X M a (tV fa):=by
 obtain⟨ta,pa,qa⟩:=ha.out;refine .mk ⟨_,b0R pa he,λU Y H P F k Q S hf q=>?_⟩;obtain⟨x,h1,hf⟩:=bnd hf;exact qa U Y H P F _ _ S h1 λv H1 e1 r1=>⟨k,b6z r1.den hf,q H1 e1⟩
def F7(h:PTX X M a ga):PTX X M (.UnaryOp .Not a pos) (tNo ga):=by
 obtain⟨ta,pa,qa⟩:=h.out;refine .mk ⟨_,b5Z pa,λU Y H P F k Q S hf q=>?_⟩;obtain⟨x,h1,hf⟩:=bnd hf;cases hf
 exact qa U Y H P F _ _ S h1 λH1 e1=>q H1 e1
theorem PWX.pt(h:PWX X M e ga):PTX X M e ga:=by
 obtain⟨t,p,q⟩:=h.out;exact .mk ⟨t,p.pt,q⟩
def a0w(h:PTX X M a ga):PWX X M (.BoolOp .And [a] pos) ga:=by
 obtain⟨t,p,q⟩:=h.out;exact .mk ⟨t,b3u p,q⟩
def a0x(h:PTX X M a ga):PWX X M (.BoolOp .Or [a] pos) ga:=by
 obtain⟨t,p,q⟩:=h.out;exact .mk ⟨t,b5X p,q⟩
def a2d(ha:PTX X M a ga)(hb:PWX X M (.BoolOp .And (b::rest) pos) gb):PWX X M (.BoolOp .And (a::b::rest) pos) (tAn ga gb):=by
 obtain⟨ta,pa,qa⟩:=ha.out;obtain⟨tb,pb,qb⟩:=hb.out;refine .mk ⟨_,b5Y pa pb,λU Y H P F k Q S hf q=>?_⟩;obtain⟨x,h1,hf⟩:=bnd hf;refine qa U Y H P F _ _ S h1 λH1 e1=>?_
 cases x with
 |false=>cases hf;exact a3B (q H1 e1)
 |true=>exact a3C (qb U Y H1 P F k Q (S.grow e1) hf λH2 e2=>q H2 (e1.trans e2))
def R8(ha:PTX X M a ga)(hb:PWX X M (.BoolOp .Or (b::rest) pos) gb):PWX X M (.BoolOp .Or (a::b::rest) pos) (C9 ga gb):=by
 obtain⟨ta,pa,qa⟩:=ha.out;obtain⟨tb,pb,qb⟩:=hb.out;refine .mk ⟨_,b8g pa pb,λU Y H P F k Q S hf q=>?_⟩;obtain⟨x,h1,hf⟩:=bnd hf;refine qa U Y H P F _ _ S h1 λH1 e1=>?_
 cases x with
 |true=>cases hf;exact a3C (q H1 e1)
 |false=>exact a3B (qb U Y H1 P F k Q (S.grow e1) hf λH2 e2=>q H2 (e1.trans e2))
def b1g{c0:Expr}(hc:PTX X M c0 ga)(ha:PX X M a fa c)(hb:PX X M b fb c):PX X M (.IfExp c0 a b pos) (eIf ga fa fb) c:=by
 obtain⟨tc,pc,qc⟩:=hc.out;obtain⟨ta,pa,qa⟩:=ha.out;obtain⟨tb,pb,qb⟩:=hb.out;refine .mk ⟨_,b0C pc pa pb,λU Y H P F d Q S hf q=>?_⟩;obtain⟨k,h1,hf⟩:=bnd hf;refine qc U Y H P F _ _ S h1 λH1 e1=>?_
 cases k with
 |true=>exact a3C (qa U Y H1 P F d Q (S.grow e1) hf λv H2 e2 r2=>q v H2 (e1.trans e2) (r2.early e1))
 |false=>exact a3B (qb U Y H1 P F d Q (S.grow e1) hf λv H2 e2 r2=>q v H2 (e1.trans e2) (r2.early e1))
def l6:PAX X M [] c9:=⟨_,s9,λU Y H P F ds Q S hf q=>by cases hf;exact q [] H (Same.refl _) denAll_nil⟩
def f7{fr:List D->Option (List D)}(ha:PX X M a fa ca)(hr:PAX X M es fr)(hs:ax (a::es) X.env=(rp,cy a X.env)::ax es X.env:=by rfl):PAX X M (a::es) (b8 fa fr):=by
 obtain⟨ta,pa,qa⟩:=ha.out;obtain⟨tr,pr,qr⟩:=hr;refine⟨_,m5 pa pr hs,λU Y H P F ds Q S hf q=>?_⟩;obtain⟨x,h1,hf⟩:=bnd hf;obtain⟨xs,h2,hf⟩:=bnd hf;cases hf
 exact qa U Y H P F _ _ S h1 λv H1 e1 r1=>qr U Y H1 P F _ _ (S.grow e1) h2 λvs H2 e2 r2=>q (v::vs) H2 (e1.trans e2) (denAll_cons (r1.den.up e2) r2)
def n4:PAN X M [] c9 []:=⟨_,s9,λU Y H P F ds Q S hf q=>by
 cases hf
 refine q [] H [] (Same.refl _) ?_ bp λa ha=>(nomatch ha)
 simp only[OwnTs];exact⟨trivial,trivial,trivial⟩⟩
def m3{fr:List D->Option (List D)}(ha:PX X M a fa (.new u))(hr:PAN X M es fr us)(hs:ax (a::es) X.env=(rp,cy a X.env)::ax es X.env:=by rfl):PAN X M (a::es) (b8 fa fr) (u::us):=by
 obtain⟨ta,pa,qa⟩:=ha.out;obtain⟨tr,pr,qr⟩:=hr;refine⟨_,m5 pa pr hs,λU Y H P F ds Q S hf q=>?_⟩;obtain⟨x,h1,hf⟩:=bnd hf;obtain⟨xs,h2,hf⟩:=bnd hf;cases hf
 refine qa U Y H P F _ _ S h1 λv H1 e1 ⟨fp,o,n,fr⟩=>qr U Y H1 P (fp++F) _ _ (S.more e1 fr (o.lst u)) h2 λvs H2 gp e2 o2 n2 sy=>?_
 have hl:=o.lst u;have hc:Same (cut H1 (fp++F)) (cut H2 (fp++gp++F)):=M8 e2 λa o' ha ki=>by
  rw[be]at ki;rcases az.mp ki with z|z
  ·exact aA _ z
  ·rcases az.mp z with z|z
   ·rw[sy a z]at ha;cases ha
   ·exact aq _ z
 have hd:∀a∈gp,a∉fp:=λa ha z=>by
  obtain⟨ys,q⟩:=hl a z;rw[sy a ha]at q;cases q
 refine q (v::vs) H2 (fp++gp) (e1.trans e2) ?_ ?_ λa ha=>?_
 ·simp only[OwnTs];refine⟨v,vs,x,xs,fp,gp,rfl,rfl,rfl,o.frame hc u λa ha=>?_,o2.frame (H:=H2) (C8 λa ha=>?_) us λ_ _=>rfl⟩
  ·obtain⟨ys,q⟩:=hl a ha;rw[q,e2 _ _ q]
  ·simp only[az]at ha ⊢;rcases ha with (z|z)|z
   ·exact .inr (.inl z)
   ·exact .inl z
   ·exact .inr (.inr z)
 ·rw[bb];exact⟨n,n2,λa ha b hb e=>hd b hb (e▸ha)⟩
 ·rcases az.mp ha with z|z
  ·exact fr a z
  ·exact e1.free (sy a z)
end
section
variable {K:af}{H H0 H1:Hp}{F fp:List av}{vs:List V}{ds:List D}{p:av}{u:Ty}{us:List Ty}
def b3P(hp:H p=el):Same (cut H (fp++F)) (cut (upd H p o) (p::fp++F)):=M8 (k6 hp o) λa u ha ki=>by
 rw[bh]at ki;rcases aC.mp ki with z|z
 ·subst z;rw[hp]at ha;cases ha
 ·exact z
theorem a3X:∀{n:Nat} {vs:List V} {ds:List D} {fp:List av},OwnTs K H F (aN n u) vs ds fp->ListAll (Own K H F u) vs ds fp
 |0,_,_,_,h=>by
  simp only[gN,OwnTs]at h;obtain⟨rfl,rfl,rfl⟩:=h;exact m7
 |n+1,_,_,_,h=>by
  simp only[jf,OwnTs]at h;obtain⟨v,r,d,e,f,g,rfl,rfl,rfl,h1,h2⟩:=h;exact m4 h1 (a3X h2)
theorem OwnTs.len:∀{us:List Ty} {vs:List V} {ds:List D} {fp:List av},OwnTs K H F us vs ds fp->vs.length=us.length/\ds.length=us.length
 |[],_,_,_,h=>by simp only[OwnTs]at h;obtain⟨rfl,rfl,_⟩:=h;exact⟨rfl,rfl⟩
 |u::us,_,_,_,h=>by
  simp only[OwnTs]at h;obtain⟨v,r,d,e,f,g,rfl,rfl,rfl,_,h2⟩:=h;obtain⟨a,b⟩:=OwnTs.len h2;exact⟨by rw[bB,bB,a],by rw[bB,bB,b]⟩
def l9(e:Same (cut H F) (cut H1 F'))(h:ListAll (Own K H F u) vs ds fp)(k:∀a∈fp,H1 a=H a):ListAll (Own K H1 F' u) vs ds fp:=
 h.imp λv d f hf _ q=>q.frame e u λa ha=>k a (hf a ha)
def a5G(h:ListAll (Own K H1 (fp++F) u) vs ds fp)(hn:fp.Nodup)(hf:∀a∈fp,H a=el)(e:Same H H1)(hp:H1 p=el)(hl:∀a∈fp,∃ys:MuO,H1 a=cz ys.1):ResR K (.new (.l u)) H (upd H1 p (.lst vs)) F (.ref p) (.list ds):=by
 have Aw:p∉fp:=λz=>by obtain⟨ys,q⟩:=hl p z;rw[hp]at q;cases q
 refine⟨p::fp,?_,br.mpr ⟨Aw,hn⟩,λa ha=>?_⟩
 ·simp only[Own];refine .inr ⟨p,vs,ds,fp,rfl,i4,rfl,rfl,l9 (b3P hp) h λa ha=>?_⟩;exact f6 λz=>Aw (z▸ha)
 ·rcases aC.mp ha with z|z
  ·subst z;exact e.free hp
  ·exact hf a z
theorem ListAll.of_den:∀{vs:List V} {ds:List D},DenAll K H vs ds->(∀v d,d∈ds->Den K H v d->R v d [])->ListAll R vs ds []
 |_,[],h,_=>by rw[h.nil_inv];exact m7
 |_,d::ds,h,k=>by
  obtain⟨v,r,rfl,h1,h2⟩:=h.cons_inv;have:=m4 (f:=[]) (k v d aj h1) (ListAll.of_den h2 λv d hd=>k v d (ak _ hd));exact this
theorem D9:∀{ds:List D} {d:D},g8 ds=p4->d∈ds->imm d=p4
 |[],d,_,h=>nomatch h
 |d0::ds,d,q,h=>by
  simp only[g8,aw]at q;rcases aC.mp h with z|z
  ·rw[z];exact q.1
  ·exact D9 q.2 z
def M3(h:DenAll K H1 vs ds)(hi:g8 ds=p4)(e:Same H H1)(hp:H1 p=el)(hF:∀a∈F,∃ys:MuO,H1 a=cz ys.1):ResR K (.new (.l .i)) H (upd H1 p (.lst vs)) F (.ref p) (.list ds):=
 a5G (fp:=[]) (ListAll.of_den h λv d hd q=>by
  simp only[Own,cw];exact⟨trivial,D9 hi hd,q.imm_out hF d (D9 hi hd)⟩) bp (λa ha=>(nomatch ha)) e hp λa ha=>(nomatch ha)
def a2u(h:DenAll K H1 vs ds)(hp:H1 p=el):Den K (upd H1 p (.tup vs)) (.ref p) (.tuple ds):=den_tup (SqT.of i4) (h.up (k6 hp _))
def b3Q(h:g8 ds=p4):imm (.tuple ds)=p4:=by simpa only [imm]using h
end
def J4(f:EvA):EvE:=λU=>(f U).bind λds=>cz (.list ds)
def B1(f:EvA):EvE:=λU=>(f U).bind λds=>cz (.tuple ds)
def R9(d:D):Option D:=if imm d then cz d else el
def Q3(h:R9 d=cz e):e=d/\imm d=p4:=by
 unfold R9 at h;by_cases c:imm d=p4
 ·rw[aG c]at h;exact⟨(aH h).symm,c⟩
 ·rw[aL c]at h;cases h
def b1h(d:D):Option D:=match d with
 |.list ds=>if g8 ds then cz d else el
 |_=>el
def a6Z(h:b1h d=cz e):∃ds,d=.list ds/\e=.list ds/\g8 ds=p4:=by
 cases d with
 |list ds=>
  have h':(if g8 ds=p4 then cz (dM ds) else el)=cz e:=h;by_cases c:g8 ds=p4
  ·rw[aG c]at h';exact⟨ds,rfl,(aH h').symm,c⟩
  ·rw[aL c]at h';cases h'
 |_=>cases h
section
variable {X:Cx}{M:List Md}{a b e:Expr}{es:List Expr}{fa fb:EvE}{f:EvA}{c ca cb:Cat}{u:Ty}{us:List Ty}{pos:eM}
def C6(h:PAN X M es f (aN n u))(hn:n<=1000:=by decide):PX X M (.List es pos) (J4 f) (.new (.l u)):=by
 obtain⟨t,p,q⟩:=h;refine .mk ⟨_,b6r p,λU Y H P F d Q S hf k=>?_⟩;obtain⟨ds,h1,hf⟩:=bnd hf;cases hf
 refine q U Y H P F ds _ S h1 λvs H1 fp e o nd fr=>⟨?_,λx hx=>k (.ref x) _ (e.trans (k6 hx _)) (a5G (a3X o) nd fr e hx (o.lst _))⟩
 rw[o.len.1,fZ];exact dC (X2 hn)
def a4W(h:PAN X M es f us)(hn:us.length<=1000:=by decide):PX X M (.Tuple es j pos) (B1 f) (.new (.tp us)):=by
 obtain⟨t,p,q⟩:=h;refine .mk ⟨_,a6Q p,λU Y H P F d Q S hf k=>?_⟩;obtain⟨ds,h1,hf⟩:=bnd hf;cases hf
 refine q U Y H P F ds _ S h1 λvs H1 fp e o nd fr=>⟨?_,λx hx=>k (.ref x) _ (e.trans (k6 hx _)) ⟨fp,?_,nd,fr⟩⟩
 ·rw[o.len.1];exact dC (X2 hn)
 ·have Ah:x∉fp++F:=λz=>by
   rcases az.mp z with z|z
   ·obtain⟨ys,q⟩:=o.lst _ x z;rw[hx]at q;cases q
   ·obtain⟨ys,q⟩:=S.lst' e x z;rw[hx]at q;cases q
  simp only[Own];refine .inr ⟨x,vs,ds,rfl,i4,Ah,rfl,o.frame (x0 (k6 hx _)) us λa ha=>?_⟩;exact f6 λz=>Ah (z▸aA _ ha)
theorem a5H:∀{n:Nat} {vs:List V} {ds:List D} {fp:List av},OwnTs K H F (aN n .i) vs ds fp->g8 ds=p4
 |0,_,_,_,h=>by
  simp only[gN,OwnTs]at h;obtain⟨rfl,rfl,rfl⟩:=h;simp only[g8]
 |n+1,_,_,_,h=>by
  simp only[jf,OwnTs]at h;obtain⟨v,r,d,e,f,g,rfl,rfl,rfl,h1,h2⟩:=h;simp only[g8,aw];exact⟨(Q2 h1).2.1,a5H h2⟩
def X6{j}(h:PAN X M es f (aN n .i))(hn:n<=1000:=by decide):PX X M (.Tuple es j pos) (B1 f) (.new .i):=by
 obtain⟨t,p,q⟩:=h;refine .mk ⟨_,a6Q p,λU Y H P F d Q S hf k=>?_⟩;obtain⟨ds,h1,hf⟩:=bnd hf;cases hf
 refine q U Y H P F ds _ S h1 λvs H1 fp e o nd fr=>⟨?_,λx hx=>k (.ref x) _ (e.trans (k6 hx _)) (E6 (b3Q (a5H o)) (a2u (o.den _) hx) (S.lst' (e.trans (k6 hx _))))⟩
 rw[o.len.1,fZ];exact dC (X2 hn)
def a9n(hr:∀U ds,r U=cz ds->ds.length=n)(h:b8 fa r U=cz ds):ds.length=n+1:=by
 obtain⟨x,_,h⟩:=bnd h;obtain⟨xs,h2,h⟩:=bnd h;cases h
 rw[bB,hr U xs h2]
def dIx:D->D->Option D
 |.list ds,.int k=>atI ds k
 |.tuple ds,.int k=>atI ds k
 |_,_=>el
def N0:D->D->Option D
 |.list ds,.int k=>atI ds k
 |_,_=>el
def B4(a b:D):Option D:=(dIx a b).bind R9
theorem DenAll.atI(h:DenAll K H vs ds)(e:L2.atI ds k=cz d):∃v j,L2.atI vs k=cz v/\ixN ds.length k=cz j/\vs[j]?=cz v/\ds[j]?=cz d/\Den K H v d:=by
 unfold L2.atI at e ⊢;obtain⟨j,e1,e2⟩:=bnd e;obtain⟨v,h1,h2⟩:=h.get e2;exact⟨v,j,by rw[h.length,e1];exact h1,e1,h1,e2,h2⟩
def b8y(K:af):R2:=λx y H Q=>b8t K x y H Q\/b8u K x y H Q
def a4X:IxR X (b8y X.K):=b3F.or b6t
def a8o(h:dIx x y=cz d):∃ds k,(x=.list ds\/x=.tuple ds)/\y=.int k/\L2.atI ds k=cz d:=by
 cases x with
 |list ds=>cases y with
  |int k=>exact⟨ds,k,.inl rfl,rfl,h⟩
  |_=>cases h
 |tuple ds=>cases y with
  |int k=>exact⟨ds,k,.inr rfl,rfl,h⟩
  |_=>cases h
 |_=>cases h
def b8z(hx:Den K H v x)(hy:Den K H w y)(h:dIx x y=cz d)(q:∀z,Den K H z d->Q z H):b8y K v w H Q:=by
 obtain⟨ds,k,e,rfl,h⟩:=a8o h;cases hy.int_inv
 rcases e with rfl|rfl
 ·obtain⟨a,xs,rfl,h1,h2⟩:=hx.list_inv;obtain⟨z,j,z1,z2,z3,z4,z5⟩:=h2.atI h;exact .inl ⟨a,xs,k,z,rfl,rfl,h1.l,z1,q z z5⟩
 ·obtain⟨a,xs,rfl,h1,h2⟩:=hx.tup_inv;obtain⟨z,j,z1,z2,z3,z4,z5⟩:=h2.atI h;exact .inr ⟨a,xs,k,z,rfl,rfl,h1,z1,q z z5⟩
def B2(ha:PX X M a fa ca)(hb:PX X M b fb cb)(hs:a0r b:=by exact λ_ _=>rfl):PX X M (.Subscript a b pos) (e2 B4 fa fb) (.new .i):=by
 obtain⟨ta,pa,qa⟩:=ha.out;obtain⟨tb,pb,qb⟩:=hb.out;refine .mk ⟨_,a8l a4X pa pb hs,λU Y H P F d Q S hf q=>?_⟩;obtain⟨x,y,h1,h2,h3⟩:=C0 hf;obtain⟨d',h3,h4⟩:=bnd h3;obtain⟨rfl,hi⟩:=Q3 h4;exact qa U Y H P F x _ S h1 λv H1 e1 r1=>qb U Y H1 P F y _ (S.grow e1) h2 λw H2 e2 r2=>b8z (r1.den.up e2) r2.den h3 λz hz=>q z H2 (e1.trans e2) (E6 hi hz (S.lst' (e1.trans e2)))
def F8(ha:PX X M a fa (.new .f))(hb:PX X M b fb cb)(hs:a0r b:=by exact λ_ _=>rfl):PX X M (.Subscript a b pos) (e2 dIx fa fb) (.new .f):=by
 obtain⟨ta,pa,qa⟩:=ha.out;obtain⟨tb,pb,qb⟩:=hb.out;refine .mk ⟨_,a8l a4X pa pb hs,λU Y H P F d Q S hf q=>?_⟩;obtain⟨x,y,h1,h2,h3⟩:=C0 hf;refine qa U Y H P F x _ S h1 λv H1 e1 ⟨fp,o,_,_⟩=>qb U Y H1 P F y _ (S.grow e1) h2 λw H2 e2 r2=>?_
 obtain⟨rfl,o⟩:=a8n o;have o2:Den X.K (cut H2 F) v x:=o.up (x0 e2);obtain⟨ds,k,e,rfl,h⟩:=a8o h3;have fin:∀z,Den X.K (cut H2 F) z d->Q z H2:=λz hz=>q z H2 (e1.trans e2) ⟨[],by simp only[Own,cw];exact⟨trivial,hz⟩,bp,λa ha=>(nomatch ha)⟩
 have ey:=r2.den.int_inv;rcases e with rfl|rfl
 ·obtain⟨a,xs,rfl,h1,h2⟩:=o2.list_inv;obtain⟨z,j,z1,z2,z3,z4,z5⟩:=h2.atI h;exact .inl ⟨a,xs,k,z,rfl,ey,(V7 h1 i7).l,z1,fin z z5⟩
 ·obtain⟨a,xs,rfl,h1,h2⟩:=o2.tup_inv;obtain⟨z,j,z1,z2,z3,z4,z5⟩:=h2.atI h;exact .inr ⟨a,xs,k,z,rfl,ey,P5 h1 i7,z1,fin z z5⟩
def N1(ha:PX X M a fa (.bor (.l u)))(hb:PX X M b fb cb)(hs:a0r b:=by exact λ_ _=>rfl):PX X M (.Subscript a b pos) (e2 N0 fa fb) (.bor u):=by
 obtain⟨ta,pa,qa⟩:=ha.out;obtain⟨tb,pb,qb⟩:=hb.out;refine .mk ⟨_,a8l a4X pa pb hs,λU Y H P F d Q S hf q=>?_⟩;obtain⟨x,y,h1,h2,h3⟩:=C0 hf;refine qa U Y H P F x _ S h1 λv H1 e1 ⟨fp,o,sub⟩=>qb U Y H1 P F y _ (S.grow e1) h2 λw H2 e2 r2=>?_
 have o2:=o.grow e2;cases x with
 |list ds=>
  cases y with
  |int k=>
   simp only[Own]at o2;rcases o2 with⟨_,hi,_⟩|⟨p,xs,iu,fs,rfl,p1,p2,rfl,p3⟩
   ·simp only[imm]at hi;cases hi
   ·cases p2
    have tP:(ixN ds.length k).bind (λj=>ds[j]?)=cz d:=h3;obtain⟨j,j1,j2⟩:=bnd tP;obtain⟨z,f,pre,post,z1,z2,z3,_,_⟩:=p3.at_ j2;refine .inl ⟨p,xs,k,z,rfl,r2.den.int_inv,.inl (.inl p1),?_,q z H2 (e1.trans e2) ⟨f,z2,λa ha=>sub a ?_⟩⟩
    ·unfold L2.atI;rw[p3.length,j1];exact z1
    ·rw[z3];exact ak _ (aq _ (aA _ ha))
  |_=>cases h3
 |_=>cases h3
end
def eCl(g:List D->Option D)(f:EvA):EvE:=λU=>(f U).bind g
section
variable {X:Cx}{M:List Md}{a b e e0:Expr}{es:List Expr}{fa fb:EvE}{f:EvA}{c ca cb:Cat}{u:Ty}{us:List Ty}{pos p:eM}{x:bH}
def a7a{id:String}{g:List D->Option D}(hc:b0Z X (.builtin id) g)(hm:X.mg x=el)(hv:gh x=cz (.builtin id))(h:PAX X M (e0::es) f)(hg:Gl X x:=by rfl)(hn:x≠"__name__":=by decide)(lW:(x==("__debug__":bH))=rp:=by decide)
  (he:ax (e0::es) X.env=(rp,cy e0 X.env)::ax es X.env:=by rfl) (fV:(cB pos (ax es X.env)).any (·.1)=rp:=by rfl):PX X M (.Call (.Name x p) (e0::es) [] pos) (eCl g f) (.new .i):=by
 obtain⟨r,hr,hs⟩:=hc;obtain⟨t,pa,qa⟩:=h;refine .mk ⟨_,V3 hr hg hm hv pa hn lW he fV,λU Y H P F d Q S hf q=>?_⟩;obtain⟨ds,h1,hf⟩:=bnd hf;exact qa U Y H P F ds _ S h1 λvs H1 e1 r1=>hs vs H1 ds d Q r1 hf λz hi hd=>q z H1 e1 (E6 hi (hd H1) (S.lst' e1))
def a0y(h:DenAll K H xs [d]):∃v,xs=[v]/\Den K H v d:=by
 obtain⟨v,r,rfl,h1,h2⟩:=h.cons_inv;cases h2.nil_inv
 exact⟨v,rfl,h1⟩
def a0z{K:af}{H:Hp}{xs:List V}{d e:D}(h:DenAll K H xs [d,e]):∃v w,xs=[v,w]/\Den K H v d/\Den K H w e:=by
 obtain⟨v,r,rfl,h1,h2⟩:=h.cons_inv;obtain⟨w,rfl,h3⟩:=a0y h2;exact⟨v,w,rfl,h1,h3⟩
def v8:List D->Option D
 |[.list ds]=>cz (.int ds.length)
 |[.tuple ds]=>cz (.int ds.length)
 |[.str x]=>if x.length<=aP then cz (.int x.length) else el
 |_=>el
def b6A:b0Z X (.builtin "len") v8:=by
 refine⟨_,a4Q.or a4R,λxs H ds d Q hd hg q=>?_⟩
 match ds,hg with
 |[.list es],hg=>
  cases hg
  obtain⟨v,rfl,h⟩:=a0y hd;obtain⟨a,ys,rfl,h1,h2⟩:=h.list_inv;refine .inl ⟨a,ys,rfl,.inl h1.l,?_⟩;rw[h2.length];exact q _ (by simp only[imm]) λ_=>den_int
 |[.tuple es],hg=>
  cases hg
  obtain⟨v,rfl,h⟩:=a0y hd;obtain⟨a,ys,rfl,h1,h2⟩:=h.tup_inv;refine .inl ⟨a,ys,rfl,.inr h1,?_⟩;rw[h2.length];exact q _ (by simp only[imm]) λ_=>den_int
 |[.str x],hg=>
  have pf:(if x.length<=aP then cz (aJ x.length) else el)=cz d:=hg;by_cases z:x.length<=aP
  ·rw[aG z]at pf;cases pf
   obtain⟨v,rfl,h⟩:=a0y hd;cases h.str_inv
   exact .inr ⟨x,rfl,z,q _ (by simp only[imm]) λ_=>den_int⟩
  ·rw[aL z]at pf;cases pf
 |[.none],hg|[.bool _],hg|[.int _],hg|[.dict _],hg=>cases hg
 |[],hg=>cases hg
 |d1::_::_,hg=>cases d1<;>cases hg
def a1D:List D->Option (List Bool)
 |[]=>cz []
 |.bool b::r=>(a1D r).map (b::·)
 |_=>el
theorem a2v:∀{ds:List D} {bs:List Bool} {xs:List V},a1D ds=cz bs->DenAll K H xs ds->xs=bs.map V.bl
 |[],bs,xs,h,q=>by cases h;rw[q.nil_inv];rfl
 |.bool b::r,bs,xs,h,q=>by
  have h':(a1D r).map (b::·)=cz bs:=h;obtain⟨cs,h1,rfl⟩:=dt.mp h';obtain⟨v,rs,rfl,h2,h3⟩:=q.cons_inv;cases h2.bool_inv
  rw[a2v h1 h3];rfl
 |.none::r,bs,xs,h,q|.int _::r,bs,xs,h,q|.str _::r,bs,xs,h,q|.list _::r,bs,xs,h,q|.tuple _::r,bs,xs,h,q|.dict _::r,bs,xs,h,q=>by cases h
def a9o:List D->Option D
 |[.list ds]=>(a1D ds).map λbs=>.bool (bs.all id)
 |_=>el
open PyProof.Rows in
def a9p(hc:X.calm=p4):CallR X (.builtin "all") (λxs H Q=>∃(p:av) (bs:List Bool),xs=[.ref p]/\SqX X.K H p (bs.map V.bl)/\Q (.bl (bs.all id)) H):=by
 intro pins s Y H xs us Q I r h;obtain⟨p,bs,rfl,hp,q⟩:=h;obtain⟨u,rfl,rx⟩:=vals1 r;cases (show u=a_ p from rx)
 obtain⟨hz,cK,n,rv,ho⟩:=hp.ok I;have hl:s.heap.IsList p cK.toArray:=⟨_,ho,rfl,_,rfl⟩;have hlen:bs.length=cK.length:=by have:=rv.length;simpa using this
 refine call_all_walk (pE hl ?_);have gC:p≠s.heap.objs.size:=ba (aF ho);refine⟨s.heap.objs.size,[s.heap.objs.size,p],[s.heap.objs.size],_,_,_,λi=>(bs.getD i rp),rfl,Walks.list (A:=X.A.in1) (by simpa using I.ok.hd hc) s.heap.objs.size p gC cK.toArray,⟨⟨_,aE _ rfl,rfl,rfl⟩,hl.at λo e=>ag _ e⟩,?_,?_⟩
 ·intro i v s' Q' E' hP hQ;have hv:cK[i]?=cz v:=by simpa using hP
  have hi:i<bs.length:=by rw[hlen];exact (aO.mp hv).1
  obtain⟨u,hu,ru⟩:=rv.get (i:=i) (x:=.bl bs[i]) (by simp[hi]);rw[hv]at hu;cases hu
  cases (show v=jq bs[i] from ru)
  refine dD ?_;have e:bs.getD i rp=bs[i]:=by simp[hi]
  have Bb:Q' (bs.getD i rp) s':=hQ;rw[e]at Bb;exact Bb
 ·intro h' tk hk;have e:(aQ cK.toArray.size).all (λi=>bs.getD i rp)=bs.all id:=by
   rw[bo,<-hlen,fX,bj,bj]
   constructor
   ·intro z b hb;obtain⟨i,hi,rfl⟩:=gy.mp hb;have:=z i (cg.mpr hi);simpa[hi]using this
   ·intro z i hi;have mC:=cg.mp hi;have:=z bs[i] (cW mC);simpa[mC]using this
  rw[e];refine⟨.bl _,H,?_,rfl,q⟩;exact I.kept (t':=tk) λb o e=>hk b o (λz=>by
   have z':=ao.mp z;rw[z']at e;exact absurd (aF e) (dg _)) (ag _ e)
def b1i(hc:X.calm=p4):b0Z X (.builtin "all") a9o:=by
 refine⟨_,a9p hc,λxs H ds d Q hd hg q=>?_⟩
 match ds,hg with
 |[.list es],hg=>
  have pf:(a1D es).map (λbs=>dE (bs.all id))=cz d:=hg;obtain⟨bs,h1,rfl⟩:=dt.mp pf;obtain⟨v,rfl,h⟩:=a0y hd;obtain⟨a,ys,rfl,h2,h3⟩:=h.list_inv;rw[a2v h1 h3]at h2;exact⟨a,bs,rfl,h2,q _ (by simp only[imm]) λ_=>den_bool⟩
 |[.none],hg|[.bool _],hg|[.str _],hg|[.dict _],hg|[.int _],hg|[.tuple _],hg=>cases hg
 |[],hg=>cases hg
 |d1::_::_,hg=>cases d1<;>cases hg
def tyD:D->String
 |.int _=>"int"
 |.bool _=>"bool"
 |.list _=>"list"
 |.tuple _=>"tuple"
 |.none=>"NoneType"
 |.str _=>"str"
 |.dict _=>"dict"
def Den.ty{K:af}{H:Hp}{v:V}:∀{d:D},Den K H v d->(∀ds,d≠.tuple ds)->(∀ds,d≠.list ds)->(∀ds,d≠.dict ds)->TyOf K H v (.type (tyD d))
 |.none,h,_,_,_=>by cases h.none_inv;exact .non
 |.bool _,h,_,_,_=>by cases h.bool_inv;exact .bl _
 |.int _,h,_,_,_=>by cases h.int_inv;exact .int _
 |.str _,h,_,_,_=>by cases h.str_inv;exact .str _
 |.list ds,h,_,q,_=>absurd rfl (q ds)
 |.tuple ds,h,q,_,_=>absurd rfl (q ds)
 |.dict ds,h,_,_,q=>absurd rfl (q ds)
def b8A(K:af)(T:String)(g:D->Bool):List V->Hp->VK->Prop:=λxs H Q=>∃x d,xs=[x,.ty T]/\Den K H x d/\Q (.bl (g d)) H
def a7b{pins:List (av×fD)}{Y:L2.St}{H:Hp}{s:ar}{A:bC}{E:ai->ar->Prop}{Q:ai->ar->Prop}{cv:ai}{k:Bool}{a:av}{xs:List V}(I:Inv X pins Y H s)(h:SqT X.K H a xs)(e:ei X.K (.type "tuple") cv=cz k)(hq:∀tk,Q (.bool k) {s with toks:=tk}) :
  aD (aT X.prog X.w) A (call (.builtin "isinstance") [.ref a,cv]) Q E s:=by
 obtain⟨cK,_,⟨o,h1,h2,_⟩,_⟩:=I.tuple h;exact cJ zF I.kIn ⟨o,h1,h2⟩ e (λz=>nomatch z) hq
def a7c{pins:List (av×fD)}{Y:L2.St}{H:Hp}{s:ar}{A:bC}{E:ai->ar->Prop}{Q:ai->ar->Prop}{cv:ai}{k:Bool}{a:av}{xs:List V}(I:Inv X pins Y H s)(h:SqX X.K H a xs)(e:ei X.K (.type "list") cv=cz k)(hq:∀tk,Q (.bool k) {s with toks:=tk}) :
  aD (aT X.prog X.w) A (call (.builtin "isinstance") [.ref a,cv]) Q E s:=by
 obtain⟨_,cK,n,_,h1⟩:=h.ok I;exact cJ nq I.kIn ⟨_,h1,rfl⟩ e (λz=>nomatch z) hq
def a7d{pins:List (av×fD)}{Y:L2.St}{H:Hp}{s:ar}{A:bC}{E:ai->ar->Prop}{Q:ai->ar->Prop}{cv:ai}{k:Bool}{a:av}{es:List (D×V×V)}(I:Inv X pins Y H s)(h:H a=cz (e6 a es))(e:ei X.K (.type "dict") cv=cz k)(hq:∀tk,Q (.bool k) {s with toks:=tk}) :
  aD (aT X.prog X.w) A (call (.builtin "isinstance") [.ref a,cv]) Q E s:=by
 obtain⟨⟨_,_,_,o,ents,_,h1,h2,_⟩,_⟩:=(show ObjOk X.prog X.w H s.heap a (e6 a es) from I.hok a _ h);exact cJ nr I.kIn ⟨o,h1,h2.1⟩ e (λz=>nomatch z) hq
def a9q{T:String}{g:D->Bool}(hf:∀(K:af) (d:D),ei K (.type (tyD d)) (.type T)=cz (g d)):CallR X (.builtin "isinstance") (b8A X.K T g):=by
 intro pins s Y H xs us Q I r h;obtain⟨x,d,rfl,hd,q⟩:=h;obtain⟨u,w',rfl,rx,ry⟩:=vals2 r;cases (show w'=dS T from ry)
 by_cases ht:(∀ds,d≠.tuple ds)/\(∀ds,d≠.list ds)/\(∀ds,d≠.dict ds)
 ·exact a9f I rx (hd.ty ht.1 ht.2.1 ht.2.2) (hf X.K d) λtk=>⟨.bl _,H,I.tok tk,rfl,q⟩
 ·cases d with
  |list ds=>
   obtain⟨a,ys,rfl,h1,_⟩:=hd.list_inv;cases (show u=a_ a from rx)
   exact a7c I h1 (hf X.K (.list ds)) λtk=>⟨.bl _,H,I.tok tk,rfl,q⟩
  |tuple ds=>
   obtain⟨a,ys,rfl,h1,_⟩:=hd.tup_inv;cases (show u=a_ a from rx)
   exact a7b I h1 (hf X.K (.tuple ds)) λtk=>⟨.bl _,H,I.tok tk,rfl,q⟩
  |dict ds=>
   simp only[Den]at hd;obtain⟨a,es,rfl,h1,_⟩:=hd;cases (show u=a_ a from rx)
   exact a7d I h1 (hf X.K (.dict ds)) λtk=>⟨.bl _,H,I.tok tk,rfl,q⟩
  |_=>exact absurd ⟨(λds z=>by cases z),(λds z=>by cases z),(λds z=>by cases z)⟩ ht
def isInt:D->Bool
 |.int _=>p4
 |.bool _=>p4
 |_=>rp
def isBool:D->Bool
 |.bool _=>p4
 |_=>rp
def isList:D->Bool
 |.list _=>p4
 |_=>rp
def p9:D->Bool
 |.tuple _=>p4
 |_=>rp
def P6{g:D->Bool}(hf:∀(K:af) (d:D),ei K (.type (tyD d)) (.type T)=cz (g d))(hm:X.mg "isinstance"=el)(hy:X.mg y=el)(hb:gh y=cz (.type T))(h:PX X M a fa ca)
  (hg:Gl X "isinstance":=by rfl) (DV:Gl X y:=by rfl) (Dx:y≠"__name__":=by decide) (Ee:(y==("__debug__":bH))=rp:=by decide)
  (he:ax [a,.Name y py] X.env=(rp,cy a X.env)::ax [.Name y py] X.env:=by rfl) (mi:ax [.Name y py] X.env=(rp,cy (.Name y py) X.env)::ax [] X.env:=by rfl) (fV:(cB pos (ax [.Name y py] X.env)).any (·.1)=rp:=by rfl) :
  PX X M (.Call (.Name "isinstance" p) [a,.Name y py] [] pos) (e1 (λd=>cz (.bool (g d))) fa) (.new .i):=by
 obtain⟨ta,pa,qa⟩:=h.out;refine .mk ⟨_,V3 (a9q hf) hg hm PyProof.Rows.Boot.«isinstance» (m5 pa (m5 (b3t (v:=.ty T) DV hy hb rfl Dx Ee) s9 mi) he) (by decide) (by decide) he fV,λU Y H P F d Q S mZ q=>?_⟩;obtain⟨x,h1,mZ⟩:=bnd mZ;cases mZ
 exact qa U Y H P F x _ S h1 λv H1 e1 r1=>⟨v,x,rfl,r1.den,q _ H1 e1 (E6 (by simp only[imm]) den_bool (S.lst' e1))⟩
def a8p(K:af)(d:D):ei K (.type (tyD d)) (.type "int")=cz (isInt d):=by cases d<;>rfl
def a5I(K:af)(d:D):ei K (.type (tyD d)) (.type "bool")=cz (isBool d):=by cases d<;>rfl
def a5J(K:af)(d:D):ei K (.type (tyD d)) (.type "list")=cz (isList d):=by cases d<;>rfl
def X7(K:af)(d:D):ei K (.type (tyD d)) (.type "tuple")=cz (p9 d):=by cases d<;>rfl
end
def cutD(ds:List D)(lo hi:Option Int):List D:=(ds.drop (HT.sIx ds.length 0 lo)).take (HT.sIx ds.length ds.length hi-HT.sIx ds.length 0 lo)
abbrev EvO:=List D->Option (Option Int)
def oNo:EvO:=λ_=>cz el
def asI:D->Option Int
 |.int i=>cz i
 |_=>el
def oSo(a:EvE):EvO:=λU=>(a U).bind λd=>(asI d).bind λi=>cz (cz i)
def a0A(h:asI d=cz i):d=.int i:=by
 cases d with
 |int j=>cases h;rfl
 |_=>cases h
def asL:D->Option (List D)
 |.list ds=>cz ds
 |_=>el
def N2(h:asL d=cz ds):d=.list ds:=by
 cases d with
 |list j=>cases h;rfl
 |_=>cases h
def asS:D->Option (List D)
 |.list ds=>cz ds
 |.tuple ds=>cz ds
 |_=>el
def POX(X:Cx)(M:List Md)(e:Option Expr)(f:EvO):Prop:=
 ∃t,PO X e t/\∀(U:List D) (Y:L2.St) (H P:Hp) (F:List av) (o:Option Int) (Q:Option Int->Hp->Prop),StE X.K M U Y H P F->f U=cz o->(∀H',Same H H'->Q o H')->t Y H Q
def eSl(a:EvE)(lo hi:EvO):EvE:=λU=>(a U).bind λx=>(asL x).bind λds=>(lo U).bind λl=>(hi U).bind λh=>cz (.list (cutD ds l h))
def eI(a:EvE):EvE:=λU=>(a U).bind b1h
section
variable {X:Cx}{M:List Md}{a b e e0:Expr}{lo hi:Option Expr}{es:List Expr}{fa fb:EvE}{fl fh:EvO}{f:EvA}{c ca cb:Cat}{u:Ty}{us:List Ty}{pos p p2:eM}{x:bH}
def b1j:POX X M el oNo:=⟨_,b3C,λU Y H P F o Q S hf q=>by cases hf;exact q H (Same.refl _)⟩
def b1k(h:PX X M a fa ca):POX X M (cz a) (oSo fa):=by
 obtain⟨t,p,q⟩:=h.out;refine⟨_,b3D p,λU Y H P F o Q S hf k=>?_⟩;obtain⟨d,h1,rG⟩:=bnd hf;obtain⟨i,h2,rF⟩:=bnd rG;cases a0A h2
 cases rF
 exact q U Y H P F _ _ S h1 λv H1 e1 r1=>⟨i,r1.den.int_inv,k H1 e1⟩
structure MkL (X:Cx) (M:List Md) (e:Expr) (f:EvE) (A:Prop):Prop where
 run:∃t,PE X e t/\∀(U:List D) (Y:L2.St) (H P:Hp) (F:List av) (d:D) (Q:VK),StE X.K M U Y H P F->f U=cz d->
  (∀vs ds H1 l,Same H H1->d=.list ds->DenAll X.K H1 vs ds->(A->DenAll X.K (cut H1 F) vs ds)->H1 l=el->Q (.ref l) (upd H1 l (.lst vs)))->t Y H Q
theorem MkL.i{f:EvE}{A:Prop}(h:MkL X M e f A):PX X M e (eI f) (.new (.l .i)):=by
 obtain⟨t,p,q⟩:=h.run;refine .mk ⟨t,p,λU Y H P F d Q S hf k=>?_⟩;obtain⟨d',g1,hc⟩:=bnd hf;clear hf;obtain⟨es,rfl,rfl,hi⟩:=a6Z hc;refine q U Y H P F _ Q S g1 λvs ds H1 l e1 ed h1 _ hl=>?_
 cases ed
 exact k _ _ (e1.trans (k6 hl _)) (M3 h1 hi e1 hl (S.lst' e1))
def frozen:Cat->Prop
 |.new .f=>True
 |.new .i=>True
 |_=>False
def J8(hc:frozen c)(r:ResR K c H H1 F v d):Den K (cut H1 F) v d:=by
 match c,hc with
 |.new .f,_=>
  obtain⟨fp,o,_⟩:=r;obtain⟨rfl,o⟩:=a8n o;exact o
 |.new .i,_=>
  obtain⟨fp,o,_⟩:=r;obtain⟨rfl,_,o⟩:=Q2 o;exact o
def L1(r:ResR K c H H1 F v (.list ds)):∃a xs,v=.ref a/\SqX K H1 a xs/\DenAll K H1 xs ds/\(frozen c->DenAll K (cut H1 F) xs ds):=by
 by_cases hc:frozen c
 ·obtain⟨a,xs,rfl,k1,k2⟩:=(J8 hc r).list_inv;exact⟨a,xs,rfl,V7 k1 i7,k2.up i7,λ_=>k2⟩
 ·obtain⟨a,xs,rfl,k1,k2⟩:=r.den.list_inv;exact⟨a,xs,rfl,k1,k2,λh=>absurd h hc⟩
def b1l:SlR X (λx lo hi H Q=>∃a xs,x=.ref a/\SqX X.K H a xs/\∀p,H p=el->Q (.ref p) (upd H p (.lst (a6S xs lo hi)))):=by
 intro pins s Y H x v vl vu lo hi sl Q I rx hs pl pu ⟨a,xs,e,h,q⟩;exact b3G pins s Y H x v vl vu lo hi sl Q I rx hs pl pu ⟨a,xs,e,h.l,q⟩
def a8q(h:DenAll K H vs ds)(lo hi:Option Int):DenAll K H (a6S vs lo hi) (cutD ds lo hi):=by
 unfold a6S cutD;rw[h.length];exact (h.drop _).take _
def b1m(ha:PX X M a fa ca)(hl:POX X M lo fl)(hh:POX X M hi fh):MkL X M (.Subscript a (.Slice lo hi el p2) pos) (eSl fa fl fh) (frozen ca):=by
 obtain⟨ta,pa,qa⟩:=ha.out;obtain⟨tl,pl,ql⟩:=hl;obtain⟨th,ph,qh⟩:=hh;refine⟨_,b0S b1l pa pl ph,λU Y H P F d Q S hf q=>?_⟩;obtain⟨x,h1,rG⟩:=bnd hf;obtain⟨ds,h2,rF⟩:=bnd rG;cases N2 h2
 obtain⟨l,h3,zu⟩:=bnd rF;obtain⟨h,h4,uv⟩:=bnd zu;cases uv
 refine qa U Y H P F _ _ S h1 λv H1 e1 r1=>ql U Y H1 P F l _ (S.grow e1) h3 λH2 e2=>qh U Y H2 P F h _ (S.grow (e1.trans e2)) h4 λH3 e3=>?_
 obtain⟨pp,xs,rfl,k1,k2,k3⟩:=L1 (r1.up (e2.trans e3));exact⟨pp,xs,rfl,k1,λz hz=>q _ _ H3 z ((e1.trans e2).trans e3) rfl (a8q k2 l h) (λhc=>a8q (k3 hc) l h) hz⟩
def Z1(a:EvE):EvE:=λU=>(a U).bind λd=>(asS d).bind λds=>cz (.list ds)
def a8r(hm:X.mg "list"=el)(ha:PX X M a fa ca)(hg:Gl X "list":=by rfl)(he:ax [a] X.env=(rp,cy a X.env)::ax [] X.env:=by rfl)(fV:(cB pos (ax [] X.env)).any (·.1)=rp:=by rfl) :
  MkL X M (.Call (.Name "list" p) [a] [] pos) (Z1 fa) (frozen ca):=by
 obtain⟨ta,pa,qa⟩:=ha.out;refine⟨_,E5 a0s hg hm PyProof.Rows.Boot.«list» (m5 pa s9 he) (by decide) (by decide) he fV,λU Y H P F d Q S hf q=>?_⟩;obtain⟨x,h1,rG⟩:=bnd hf;obtain⟨ds,h2,rF⟩:=bnd rG;cases rF
 refine qa U Y H P F _ _ S h1 λv H1 e1 r1=>?_
 cases x with
 |list es=>
  cases h2
  obtain⟨pp,xs,rfl,k1,k2,k3⟩:=L1 r1;exact⟨pp,xs,rfl,.inl k1.l,λz hz=>q _ _ H1 z e1 rfl k2 k3 hz⟩
 |tuple es=>
  cases h2
  by_cases hc:frozen ca
  ·obtain⟨pp,xs,rfl,k1,k2⟩:=(J8 hc r1).tup_inv;exact⟨pp,xs,rfl,.inr (P5 k1 i7),λz hz=>q _ _ H1 z e1 rfl (k2.up i7) (λ_=>k2) hz⟩
  ·obtain⟨pp,xs,rfl,k1,k2⟩:=r1.den.tup_inv;exact⟨pp,xs,rfl,.inr k1,λz hz=>q _ _ H1 z e1 rfl k2 (λh=>absurd h hc) hz⟩
 |_=>cases h2
def U5(a:EvE):EvE:=λU=>(a U).bind λd=>(asS d).bind λds=>R9 (.tuple ds)
def a2w(hm:X.mg "tuple"=el)(ha:PX X M a fa ca)(hg:Gl X "tuple":=by rfl)(he:ax [a] X.env=(rp,cy a X.env)::ax [] X.env:=by rfl)(fV:(cB pos (ax [] X.env)).any (·.1)=rp:=by rfl) :
  PX X M (.Call (.Name "tuple" p) [a] [] pos) (U5 fa) (.new .i):=by
 obtain⟨ta,pa,qa⟩:=ha.out;refine .mk ⟨_,E5 a3A hg hm PyProof.Rows.Boot.«tuple» (m5 pa s9 he) (by decide) (by decide) he fV,λU Y H P F d Q S hf q=>?_⟩;obtain⟨x,h1,rG⟩:=bnd hf;obtain⟨ds,h2,rF⟩:=bnd rG;obtain⟨rfl,hi⟩:=Q3 rF;refine qa U Y H P F _ _ S h1 λv H1 e1 r1=>?_
 cases x with
 |list es=>
  cases h2
  obtain⟨pp,xs,rfl,k1,k2⟩:=r1.den.list_inv;exact⟨pp,xs,rfl,.inl ⟨k1.l,λz hz=>q _ _ (e1.trans (k6 hz _)) (E6 hi (a2u k2 hz) (S.lst' (e1.trans (k6 hz _))))⟩⟩
 |tuple es=>
  cases h2
  obtain⟨pp,xs,rfl,k1,k2⟩:=r1.den.tup_inv;exact⟨pp,xs,rfl,.inr ⟨k1,q _ _ e1 (E6 hi (den_tup k1 k2) (S.lst' e1))⟩⟩
 |_=>cases h2
def b3R:OpR X (eF .Add) (λx y H Q=>∃l b xs zs,x=.ref l/\y=.ref b/\SqX X.K H l xs/\SqX X.K H b zs/\xs.length+zs.length<=aP/\∀p,H p=el->Q (.ref p) (upd H p (.lst (xs++zs)))):=by
 intro pins s Y H x y v u Q I rx ry h;obtain⟨l,b,xs,zs,rfl,rfl,hH,hB,hz,q⟩:=h;cases rx
 cases ry
 obtain⟨z,cK,n,r,e⟩:=hH.ok I;obtain⟨z2,q_,n2,r2,e2⟩:=hB.ok I;have hl:=r.length;have vB:=r2.length;refine PySem.P.add_list e e2 ?_ (by rw[bo,bo];lia);have ea:cK.toArray++q_.toArray=(cK++q_).toArray:=by simp
 rw[ea];exact⟨.ref _,_,I.lnew (t':=s.toks) (r.append r2) (by rw[aV];lia),rfl,q _ I.fresh⟩
def a9r(a b:EvE):EvE:=λU=>(a U).bind λx=>(asL x).bind λds=>(b U).bind λy=>(asL y).bind λes=>if ds.length+es.length<=aP then cz (.list (ds++es)) else el
def b6B(ha:PX X M a fa ca)(hb:PX X M b fb cb):MkL X M (.BinOp a .Add b pos) (a9r fa fb) (frozen ca/\frozen cb):=by
 obtain⟨ta,pa,qa⟩:=ha.out;obtain⟨tb,pb,qb⟩:=hb.out;refine⟨_,b0L b3R pa pb,λU Y H P F d Q S hf q=>?_⟩;obtain⟨x,h1,rG⟩:=bnd hf;obtain⟨ds,h2,rF⟩:=bnd rG;cases N2 h2
 obtain⟨y,h3,zu⟩:=bnd rF;obtain⟨es,h4,uv⟩:=bnd zu;cases N2 h4
 by_cases hz:ds.length+es.length<=aP
 ·rw[aG hz]at uv;cases uv
  refine qa U Y H P F _ _ S h1 λv H1 e1 r1=>qb U Y H1 P F _ _ (S.grow e1) h3 λw H2 e2 r2=>?_
  obtain⟨pp,xs,rfl,k1,k2,k3⟩:=L1 (r1.up e2);obtain⟨qq,ys,rfl,j1,j2,j3⟩:=L1 r2;exact⟨pp,qq,xs,ys,rfl,rfl,k1,j1,by rw[k2.length,j2.length];exact hz,λz hz=>q _ _ H2 z (e1.trans e2) rfl (k2.append j2) (λhc=>(k3 hc.1).append (j3 hc.2)) hz⟩
 ·rw[aL hz]at uv;cases uv
def spD(K:af)(n:Nat)(m:List D->Option D)(u:Ty):Sp:=λvs H Q _=>∃ds d,vs.length=n/\DenAll K H vs ds/\m ds=cz d/\∀v H' fp,Same H H'->Own K H' fp u v d fp->fp.Nodup->(∀a∈fp,H a=el)->Q v H'
def X8(W:Has X.prog X.w X.K X.mg X.base x k ps (spD X.K n m u))(hr:Room k X.A)(h:PAX X M (e0::es) f)(hu:u.shut=p4:=by rfl)(hl:(e0::es).length=n:=by rfl)(hfl:∀U ds,f U=cz ds->ds.length=(e0::es).length)
  (hg:Gl X x:=by rfl) (lW:(x==("__debug__":bH))=rp:=by decide) (he:ax (e0::es) X.env=(rp,cy e0 X.env)::ax es X.env:=by rfl) (fV:(cB pos (ax es X.env)).any (·.1)=rp:=by rfl) :
  PX X M (.Call (.Name x p) (e0::es) [] pos) (eCl m f) (.new u):=by
 obtain⟨t,pa,qa⟩:=h;refine .mk ⟨_,a6U W hr pa hg lW he fV,λU Y H P F d Q S hf q=>?_⟩;obtain⟨ds,h1,hf⟩:=bnd hf;refine qa U Y H P F ds _ S h1 λvs H1 e1 r1=>?_
 show spD X.K n m u (vs++[]) H1 Q E0;rw[bz];refine⟨ds,d,by rw[r1.length,hfl U ds h1,hl],r1,hf,λv H' fp e o nd fr=>q v H' (e1.trans e) ⟨fp,o.shut_out (λa ha=>?_) u hu,nd,λa ha=>e1.free (fr a ha)⟩⟩;rcases az.mp ha with z|z
 ·exact o.lst u a z
 ·exact S.lst' (e1.trans e) a z
end
structure Walks (J:It) (Pr:Hp->Prop) (xs:List V):Prop where
 go:∀i H,Pr H->i<xs.length->J.go i H
 stop:∀i H,Pr H->xs.length<=i->J.stop i H
 yld:∀i H x H',Pr H->i<xs.length->J.yld i H x H'->H'=H/\xs[i]?=cz x
def S6:Walks (Itl K a) (λH=>SqL K H a xs) xs where
 go:=λi H h hi=>⟨xs,xs[i],h,by simp[hi]⟩
 stop:=λi H h hi=>⟨xs,h,hi⟩
 yld:=λi H x H' h _ y=>⟨y.1,y.2 xs h⟩
def a5K:Walks (Itr lo n) (λ_=>True) ((aQ n).map λ(k:Nat)=>V.int (lo+k)) where
 go:=λi H h hi=>by show i<n;simpa using hi
 stop:=λi H h hi=>by show n<=i;simpa using hi
 yld:=λi H x H' h hi y=>by
  obtain⟨e,y⟩:=y;refine⟨e,?_⟩;have mC:i<n:=by simpa using hi
  rw[y];simp[mC]
def PIX(X:Cx)(M:List Md)(tg iter:Expr)(f:EvA):Prop:=
 ∃wi,PI X tg iter wi/\∀(U:List D) (Y:L2.St) (H P:Hp) (F:List av) (ds:List D) (R:It->Hp->Prop),StE X.K M U Y H P F->f U=cz ds->
  (∀J xs Pr H1,Same H H1->Walks J Pr xs->(∀H2,Same (cut H1 F) H2->Pr H2)->DenAll X.K (cut H1 F) xs ds->R J H1)->wi Y H R
def iL(a:EvE):EvA:=λU=>(a U).bind asL
def E1(lo:Int)(n:Nat):List D:=(aQ n).map λ(k:Nat)=>.int (lo+k)
def iR(a:EvE):EvA:=λU=>(a U).bind λd=>(asI d).bind λn=>if -(2^62)<=n/\n<2^62 then cz (E1 0 n.toNat) else el
def iI(f:EvA):EvA:=λU=>(f U).bind λds=>if g8 ds then cz ds else el
section
variable {X:Cx}{M:List Md}{a b e tg iter:Expr}{fa fb:EvE}{f:EvA}{ca cb:Cat}{pos p:eM}
def v9(h:PX X M a fa ca)(hc:frozen ca:=by trivial):PIX X M tg a (iL fa):=by
 obtain⟨t,p,q⟩:=h.out;refine⟨_,a8h p,λU Y H P F ds R S hf k=>?_⟩;obtain⟨d,h1,h2⟩:=bnd hf;cases N2 h2
 refine q U Y H P F _ _ S h1 λv H1 e1 r1=>?_
 obtain⟨aa,xs,rfl,k1,k2⟩:=(J8 hc r1).list_inv;exact⟨aa,rfl,⟨xs,(V7 k1 i7).l⟩,k _ xs _ H1 e1 S6 (λH2 e2=>(V7 k1 e2).l) k2⟩
def a3Y:DenAll K H ((aQ n).map λ(k:Nat)=>V.int (lo+k)) (E1 lo n):=by
 have:∀l:List Nat,DenAll K H (l.map λ(k:Nat)=>V.int (lo+k)) (l.map λ(k:Nat)=>aJ (lo+k)):=by
  intro l
  induction l with
  |nil=>exact denAll_nil
  |cons x l ih=>exact denAll_cons den_int ih
 exact this _
def E7(hm:X.mg "range"=el)(h:PX X M a fa ca)(hg:Gl X "range":=by rfl)(he:ax [a] X.env=[(rp,cy a X.env)]:=by rfl)(mi:ax [a] X.env=(rp,cy a X.env)::ax [] X.env:=by rfl) :
  PIX X M tg (.Call (.Name "range" p) [a] [] pos) (iR fa):=by
 obtain⟨t,p,q⟩:=h.out;refine⟨_,a9c hg hm (m5 p s9 mi) he,λU Y H P F ds R S hf k=>?_⟩;obtain⟨d,h1,g1⟩:=bnd hf;obtain⟨n,h2,g2⟩:=bnd g1;cases a0A h2
 by_cases c:-(2^62)<=n/\n<2^62
 ·rw[aG c]at g2;cases g2
  exact q U Y H P F _ _ S h1 λv H1 e1 r1=>⟨n,by rw[r1.den.int_inv],c.1,c.2,k _ _ _ H1 e1 a5K (λ_ _=>trivial) a3Y⟩
 ·rw[aL c]at g2;cases g2
def PIX.i(h:PIX X M tg iter f):PIX X M tg iter (iI f):=by
 obtain⟨wi,p,q⟩:=h;refine⟨wi,p,λU Y H P F ds R S hf k=>?_⟩;obtain⟨es,h1,g1⟩:=bnd hf;by_cases c:g8 es=p4
 ·rw[aG c]at g1;cases g1
  exact q U Y H P F _ R S h1 k
 ·rw[aL c]at g1;cases g1
end
def TgR(K:af)(g:TG)(n:Nat)(pt:D->Option (List D)):Prop:=
 ∀(H Hc:Hp) (x:V) (d:D) (ds:List D) (Y:L2.St) (Q:L2.St->Hp->Prop),Same Hc H->Den K Hc x d->pt d=cz ds->n<=Y.length->(∀vs,DenAll K Hc vs ds->vs.length=n->Q (vs.map cz++Y.drop n) H)->g x Y H Q
def pt1(d:D):Option (List D):=cz [d]
def pt2:D->Option (List D)
 |.tuple [a,b]=>cz [a,b]
 |_=>el
def O5:TgR K (J9 0) 1 pt1:=by
 intro H Hc x d ds Y Q e hd hp hn k;cases hp
 cases Y with
 |nil=>simp at hn
 |cons o Y=>exact k [x] (denAll_cons hd denAll_nil) rfl
def a8s:TgR K (b3v K 2 (V2 (J9 0) (V2 (J9 1) a9a))) 2 pt2:=by
 intro H Hc x d ds Y Q e hd hp hn k
 match d,hp with
 |.tuple [a,b],hp=>
  cases hp
  obtain⟨aa,xs,rfl,h1,h2⟩:=hd.tup_inv;obtain⟨v,w,rfl,h3,h4⟩:=a0z h2
  match Y,hn with
  |o::o'::Y,_=>
   exact⟨aa,_,rfl,P5 h1 e,rfl,v,[w],rfl,w,[],rfl,rfl,k [v,w] (denAll_cons h3 (denAll_cons h4 denAll_nil)) rfl⟩
def O6(pt:D->Option (List D))(t:EvT)(g:EvE)(cs:List D):List D->Option (List D)
 |[]=>cz []
 |d::ds=>(pt d).bind λbs=>(t (bs++cs)).bind λk=>if k then (g (bs++cs)).bind λy=>(O6 pt t g cs ds).bind λys=>cz (y::ys) else O6 pt t g cs ds
def n6(fi:EvA)(js:List Nat)(pt:D->Option (List D))(t:EvT)(g:EvE):EvE:=λU=>(fi U).bind λds=>if ds.length<=1000000 then (O6 pt t g (js.map λj=>U.getD j .none) ds).bind λys=>cz (.list ys) else el
def tT:EvT:=λ_=>cz p4
def W1(m:Md)(n:Nat)(M:List Md)(js:List Nat):List Md:=aN n m++js.map λj=>M.getD j .dead
section
variable {K:af}{J:It}{Pr:Hp->Prop}{xs:List V}{Dl:av}{g:TG}{tt:TT}{te:TE}{Y:L2.St}{H:Hp}{R:Hp->Prop}
def a9s(hw:Walks J Pr xs)(Pv:Nat->List V->L2.St->Hp->Prop)(h0:Pv 0 [] Y (upd H Dl (.lst [])))(hp:∀i ys Y H,Pv i ys Y H->Pr H)
  (hs:∀i x ys Y H,xs[i]?=cz x->Pv i ys Y H->g x Y H λY3 H3=>tt Y3 H3 λb H4=>if b=p4 then te Y3 H4 λy H5=>H5 Dl=cz (.lst ys)/\ys.length<aP/\Pv (i+1) (ys++[y]) Y3 (upd H5 Dl (.lst (ys++[y]))) else Pv (i+1) ys Y3 H4)
  (hd:∀ys Y H,Pv xs.length ys Y H->R H) :
  ∃W:Nat->Nat->List V->L2.St->Hp->Prop,(∃m,W 0 m [] Y (upd H Dl (.lst [])))/\∀i m ys Y' H',W i m ys Y' H'->(J.stop i H'/\R H')\/
   (J.go i H'/\∃(N:V->L2.St->Hp->Prop) (NO:L2.St->Hp->Prop),(∀y Y3 H4,N y Y3 H4->H4 Dl=cz (.lst ys)/\ys.length<aP/\∃m',m'<m/\W (i+1) m' (ys++[y]) Y3 (upd H4 Dl (.lst (ys++[y]))))/\
    (∀Y3 H4,NO Y3 H4->∃m',m'<m/\W (i+1) m' ys Y3 H4)/\∀x H2,J.yld i H' x H2->g x Y' H2 λY3 H3=>tt Y3 H3 λb H4=>if b=p4 then te Y3 H4 λy H5=>N y Y3 H5 else NO Y3 H4):=by
 refine⟨λi m ys Y H=>m=xs.length-i/\i<=xs.length/\Pv i ys Y H,⟨xs.length,by simp,b_ _,h0⟩,?_⟩;rintro i m ys Y H ⟨rfl,hi,p⟩;have q:=hp i ys Y H p;by_cases gG:i<xs.length
 ·refine .inr ⟨hw.go i H q gG,λy Y3 H4=>H4 Dl=cz (.lst ys)/\ys.length<aP/\Pv (i+1) (ys++[y]) Y3 (upd H4 Dl (.lst (ys++[y]))),λY3 H4=>Pv (i+1) ys Y3 H4,λy Y3 H4 ⟨r1,r2,r3⟩=>⟨r1,r2,xs.length-(i+1),by lia,rfl,gG,r3⟩,λY3 H4 r3=>⟨xs.length-(i+1),by lia,rfl,gG,r3⟩,λx H' y=>?_⟩;obtain⟨e,yy⟩:=hw.yld i H x H' q gG y;subst e;exact hs i x ys Y _ yy p
 ·have e:i=xs.length:=by lia
  subst e;exact .inl ⟨hw.stop _ H q (aB _),hd ys Y H p⟩
end
def b1n{js:List Nat}(S:StE K M U Y H P F)(hm:m=.i\/m=.f)(hv:DenAll K (cut H F) vs bs)(hi:m=.i->g8 bs=p4)(hn:vs.length=n)
  (hY:Yb=vs.map cz++js.map λj=>(Y[j]?).getD el):StE K (W1 (.own m) n M js) (bs++js.map λj=>U.getD j .none) Yb H P F:=by
 obtain⟨G,h1,h3⟩:=S.all;obtain⟨G',q,hq⟩:=h1.pick h3 js;refine⟨⟨G',?_,hq⟩,S.lst,S.prot⟩;subst hY hn;unfold W1;have key:∀{vs:List V} {bs:List D},DenAll K (cut H F) vs bs->(m=.i->g8 bs=p4)->StAll K H F (aN vs.length (.own m)++js.map λj=>M.getD j .dead) (bs++js.map λj=>U.getD j .none) (vs.map cz++js.map λj=>(Y[j]?).getD el) G':=by
  intro vs
  induction vs with
  |nil=>
   intro bs h _;have hl:=h.length;have:bs=[]:=er.mp (by simpa using hl.symm);subst this;exact q
  |cons v vs ih=>
   intro bs h hi;cases bs with
   |nil=>have:=h.length;simp at this
   |cons b bs=>
    obtain⟨v',r,e,h4,h5⟩:=h.cons_inv;cases e
    have:=k7 (K:=K) (H:=H) (F:=F) (m:=.own m) (d:=b) (o:=cz v) (f:=[]) ⟨v,rfl,by
     rcases hm with rfl|rfl
     ·have:=hi rfl;simp only[g8,aw]at this;simp only[Own];exact⟨trivial,this.1,h4⟩
     ·simp only[Own];exact⟨trivial,h4⟩⟩ (ih h5 λe=>by have:=hi e;simp only[g8,aw]at this;exact this.2)
    simpa[jf]using this
 exact key hv hi
def a7e(h:O6 pt t g cs (d::ds)=cz rs) :
  ∃bs k,pt d=cz bs/\t (bs++cs)=cz k/\((k=p4/\∃y ys,g (bs++cs)=cz y/\O6 pt t g cs ds=cz ys/\rs=y::ys)\/(k=rp/\O6 pt t g cs ds=cz rs)):=by
 simp only[O6]at h;obtain⟨bs,h1,g1⟩:=bnd h;obtain⟨k,h2,g2⟩:=bnd g1;refine⟨bs,k,h1,h2,?_⟩;cases k with
 |true=>
  rw[aG rfl]at g2;obtain⟨y,h3,g3⟩:=bnd g2;obtain⟨ys,h4,g4⟩:=bnd g3;cases g4
  exact .inl ⟨rfl,y,ys,h3,h4,rfl⟩
 |false=>
  rw[aL aS]at g2;exact .inr ⟨rfl,g2⟩
section
variable {X:Cx}{M:List Md}{tn ys:List bH}{js:List Nat}{scope:gd}{elt tg iter:Expr}{ifs:List Expr}{pos:eM}{g:TG}{n:Nat}{pt:D->Option (List D)}{fi:EvA}{ft:EvT}{fe:EvE}{u m:Ty}
def a3Z(hi:∀(U:List D) (Y:L2.St) (H P:Hp) (F:List av) (ds:List D) (R:It->Hp->Prop),StE X.K M U Y H P F->fi U=cz ds->
   (∀J xs Pr H1,Same H H1->Walks J Pr xs->(∀H2,Same (cut H1 F) H2->Pr H2)->DenAll X.K (cut H1 F) xs ds->R J H1)->wi Y H R)
  (hg:TgR X.K g n pt) (hm:m=.i\/m=.f) (pO:m=.i->∀U ds,fi U=cz ds->∀d∈ds,∀bs,pt d=cz bs->g8 bs=p4) (vg:tn.length=n)
  (S:StE X.K M U Y H P F) (hf:n6 fi js pt ft fe U=cz d) (q:∀v H',Same H H'->ResR X.K (.new (.l u)) H H' F v d->Q v H') :
  a4T wi g (spT X.K (W1 (.own m) n M js) ft) (spE X.K (W1 (.own m) n M js) fe (.new u)) (a1h tn js) Y H Q:=by
 obtain⟨ds,h1,g1⟩:=bnd hf;by_cases hz:ds.length<=1000000
 ·rw[aG hz]at g1;obtain⟨res,h2,g2⟩:=bnd g1;cases g2
  refine hi U Y H P F ds _ S h1 λJ xs Pr H1 e1 hw sT hx Dl hD=>?_
  have o_:=hx.length;have Gs:Dl∉F:=λz=>by obtain⟨zs,w⟩:=S.lst' e1 Dl z;rw[hD]at w;cases w
  refine a9s hw (λi ys Y' H'=>(∃os:L2.St,os.length=n/\Y'=os++js.map λj=>(Y[j]?).getD el)/\H' Dl=cz (.lst ys)/\Same H1 H'/\∃(fp:List av) (zs rs:List D),ListAll (Own X.K H' (Dl::fp++F) u) ys zs fp/\fp.Nodup/\(∀a∈fp,H1 a=el)/\Dl∉fp/\
    O6 pt ft fe (js.map λj=>U.getD j .none) (ds.drop i)=cz rs/\res=zs++rs/\ys.length<=i) ?_ ?_ ?_ ?_
  ·exact⟨⟨_,by rw[fZ];exact vg,rfl⟩,i4,k6 hD _,[],[],res,m7,bp,λa ha=>(nomatch ha),λh=>(nomatch h),h2,rfl,aB _⟩
  ·rintro i ys Y' H' ⟨_,_,e,_⟩;exact sT H' (i7.trans e)
  ·rintro i x ys Y' H' qD ⟨⟨os,ho,rfl⟩,uu,e2,fp,zs,rs,iC,i_,pU,qg,hc,pN,wN⟩;obtain⟨d,pY,_⟩:=hx.getV qD;have lV:i<ds.length:=(aO.mp pY).1;have ly:ds.drop i=d::ds.drop (i+1):=by
    rw[dP lV]
    congr 1;exact (aO.mp pY).2
   rw[ly]at hc;obtain⟨bs,k,Ax,Ds,Dr⟩:=a7e hc;have hfl:∀a∈Dl::fp,∃zs:MuO,H' a=cz zs.1:=λa ha=>by
    rcases aC.mp ha with z|z
    ·subst z;exact⟨⟨.lst ys,trivial⟩,uu⟩
    ·exact iC.lst (u:=u) (λv d f q=>q.lst u) a z
   have nR:∀a∈Dl::fp,H1 a=el:=λa ha=>by
    rcases aC.mp ha with z|z
    ·subst z;exact hD
    ·exact pU a z
   have S1:StE X.K M U Y H' P (Dl::fp++F):=(S.grow e1).more (fp:=Dl::fp) e2 nR hfl;have zc:DenAll X.K (cut H' (Dl::fp++F)) xs ds:=hx.up (a0u (fp:=Dl::fp) e2 nR);obtain⟨d',vM,tE⟩:=zc.getV qD;rw[pY]at vM;cases vM
   refine hg H' _ x d bs _ _ i7 tE Ax (by rw[aV,ho];lia) λvs nF wQ=>?_
   rw[List.drop_append_of_le_length (by lia),List.drop_of_length_le (by lia),cw];have SB:StE X.K (W1 (.own m) n M js) (bs++js.map λj=>U.getD j .none) (vs.map cz++js.map λj=>(Y[j]?).getD el) H' P (Dl::fp++F):=
    b1n S1 hm nF (λe=>pO e U ds h1 d (bA pY) bs Ax) wQ rfl
   refine⟨_,P,_,k,SB,Ds,λH3 e3=>?_⟩;rcases Dr with⟨rfl,y,rest,Dq,yz,rfl⟩|⟨rfl,yz⟩
   ·refine a3C ⟨_,P,_,y,SB.grow e3,Dq,λv H4 e4 ⟨gp,o,nd,fr⟩=>?_⟩;have xx:=e3.trans e4;have AL:Dl∉gp:=λz=>by have w:=fr Dl z;rw[e3 _ _ uu]at w;cases w
    have DY:∀a∈gp,a∉fp:=λa ha z=>by
     obtain⟨zs,w⟩:=hfl a (ak _ z);have w2:=fr a ha;rw[e3 _ _ w]at w2;cases w2
    have jm:∀a,a∈Dl::(fp++gp)++F->a∈gp++(Dl::fp++F):=λa ha=>by
     simp only[bh,aC,az]at ha ⊢;rcases ha with z|(z|z)|z
     ·exact .inr (.inl z)
     ·exact .inr (.inr (.inl z))
     ·exact .inl z
     ·exact .inr (.inr (.inr z))
    have zg:Same (cut H' (Dl::fp++F)) (cut (upd H4 Dl (.lst (ys++[v]))) (Dl::(fp++gp)++F)):=λa o' ha=>by
     obtain⟨n1,n2⟩:=o6 ha;have gC:a≠Dl:=λz=>n1 (by rw[z];exact aA _ aj)
     refine j6 (λz=>?_) (by rw[f6 gC];exact xx _ _ n2);rcases az.mp (jm a z) with w|w
     ·have:=fr a w;rw[e3 _ _ n2]at this;cases this
     ·exact n1 w
    have Eo:Same (cut H4 (gp++(Dl::fp++F))) (cut (upd H4 Dl (.lst (ys++[v]))) (Dl::(fp++gp)++F)):=λa o' ha=>by
     obtain⟨n1,n2⟩:=o6 ha;have gC:a≠Dl:=λz=>n1 (by rw[z];exact aq _ (aA _ aj))
     exact j6 (λz=>n1 (jm a z)) (by rw[f6 gC];exact n2)
    refine⟨xx _ _ uu,?_,⟨_,by rw[ah];exact wQ,rfl⟩,i4,?_,fp++gp,zs++[y],rest,?_,?_,?_,?_,yz,by rw[pN,be];rfl,by rw[aV];simp;lia⟩
    ·exact hU (bV wN (bV (dC lV) hz)) (by rw[cM];decide)
    ·exact b0V (e2.trans xx) hD _
    ·refine (l9 zg iC λa ha=>?_).append ?_
     ·rw[f6 (show a≠Dl from λz=>qg (z▸ha))];obtain⟨zs,w⟩:=hfl a (ak _ ha);rw[w,xx _ _ w]
     ·have:=m4 (R:=Own X.K (upd H4 Dl (.lst (ys++[v]))) (Dl::(fp++gp)++F) u) (o.frame Eo u λa ha=>f6 (λz=>AL (z▸ha))) m7
      rwa[bz]at this
    ·rw[bb];exact⟨i_,nd,λa ha b hb e=>DY b hb (e▸ha)⟩
    ·intro a ha;rcases az.mp ha with z|z
     ·exact pU a z
     ·exact (e2.trans e3).free (fr a z)
    ·intro z;rcases az.mp z with w|w
     ·exact qg w
     ·exact AL w
   ·refine a3B ?_;have zg:Same (cut H' (Dl::fp++F)) (cut H3 (Dl::fp++F)):=x0 e3;refine⟨⟨_,by rw[ah];exact wQ,rfl⟩,e3 _ _ uu,e2.trans e3,fp,zs,rs,l9 zg iC λa ha=>?_,i_,pU,qg,yz,pN,by lia⟩;obtain⟨zs,w⟩:=hfl a (ak _ ha);rw[w,e3 _ _ w]
  ·rintro ys Y' H' ⟨_,uu,e2,fp,zs,rs,iC,i_,pU,qg,hc,pN,_⟩;rw[o_,iH]at hc;cases hc
   rw[bz]at pN;subst pN;refine q (.ref Dl) H' (e1.trans e2) ⟨Dl::fp,?_,br.mpr ⟨qg,i_⟩,λa ha=>?_⟩
   ·simp only[Own];exact .inr ⟨Dl,ys,res,fp,rfl,uu,rfl,rfl,iC⟩
   ·rcases aC.mp ha with z|z
    ·subst z;exact e1.free hD
    ·exact e1.free (pU a z)
 ·rw[aL hz]at g1;cases g1
def S7(hc:X.calm=p4)(hi:PIX X M tg iter fi)(C:X3 scope X.env.kindOf ys js X.N=p4)(hg:∀cl Cl s H fp,PG (O1 X (tn++ys) scope cl Cl s H fp) tg g)(vI:TgR X.K g n pt)(hm:m=.i\/m=.f)
  (pO:m=.i->∀U ds,fi U=cz ds->∀d∈ds,∀bs,pt d=cz bs->g8 bs=p4) (vg:tn.length=n)
  (ht:∀cl Cl s H fp,PTs (O1 X (tn++ys) scope cl Cl s H fp) ifs (spT X.K (W1 (.own m) n M js) ft)) (he:∀cl Cl s H fp,PX (O1 X (tn++ys) scope cl Cl s H fp) (W1 (.own m) n M js) elt fe (.new u))
  (hs:∀x,dR iter X.env x=pure x:=by intro _;rfl):PX X M (.ListComp elt [⟨tg,iter,ifs,0⟩] scope pos) (n6 fi js pt ft fe) (.new (.l u)):=by
 obtain⟨wi,pi,qi⟩:=hi;exact .mk ⟨_,b0W (te:=spE X.K (W1 (.own m) n M js) fe (.new u)) hc pi C hg ht he hs,λU Y H P F d Q S hf q=>a3Z qi vI hm pO vg S hf q⟩
def O7:∀{X':Cx} {M':List Md},PTs X' [] (spT X'.K M' tT):=λ{X' M'} pins s Y H Q I ⟨U,P,F,b,S,hb,q⟩=>by
 cases hb
 exact b3I pins s Y H Q I (q H (Same.refl _))
def b1o(h:PTX X' M' c f):PTs X' [c] (spT X'.K M' f):=b3J h
def a5L:(Ty.f=Ty.i)->∀(U ds:List D),fi U=cz ds->∀d∈ds,∀bs,pt d=cz bs->g8 bs=p4:=λh=>nomatch h
def a5M:(Ty.i=Ty.i)->∀(U ds:List D),iI fi U=cz ds->∀d∈ds,∀bs,pt1 d=cz bs->g8 bs=p4:=λ_ U ds h d hd bs hb=>by
 obtain⟨es,_,g1⟩:=bnd h;by_cases c:g8 es=p4
 ·rw[aG c]at g1;cases g1
  cases hb
  simp only[g8,fY];exact D9 c hd
 ·rw[aL c]at g1;cases g1
def a0B(lo:Int)(n:Nat):g8 (E1 lo n)=p4:=by
 have:∀l:List Nat,g8 (l.map λ(k:Nat)=>aJ (lo+k))=p4:=by
  intro l
  induction l with
  |nil=>simp only[cE,g8]
  |cons x l ih=>simp only[ay,g8,imm,ih,ef]
 exact this _
def b5w:(Ty.i=Ty.i)->∀(U ds:List D),iR fa U=cz ds->∀d∈ds,∀bs,pt1 d=cz bs->g8 bs=p4:=λ_ U ds h d hd bs hb=>by
 obtain⟨x,h1,g1⟩:=bnd h;obtain⟨k,h2,g2⟩:=bnd g1
 split at g2
 ·cases g2
  cases hb
  simp only[g8,fY];exact D9 (a0B _ _) hd
 ·cases g2
end
section
variable {K:af}{H H' P:Hp}{F F':List av}
theorem StAll.split:∀{A B:List Md} {U:List D} {Y:L2.St} {G:List av},StAll K H F (A++B) U Y G->∃U1 U2 Y1 Y2 G1 G2,U=U1++U2/\Y=Y1++Y2/\G=G1++G2/\StAll K H F A U1 Y1 G1/\StAll K H F B U2 Y2 G2
 |[],B,U,Y,G,h=>⟨[],U,[],Y,[],G,rfl,rfl,rfl,L8,h⟩
 |m::A,B,_,_,_,h=>by
  simp only[bh,StAll]at h;obtain⟨d,U,o,Y,f,g,rfl,rfl,rfl,h1,h2⟩:=h;obtain⟨U1,U2,Y1,Y2,G1,G2,rfl,rfl,rfl,h3,h4⟩:=StAll.split h2;exact⟨d::U1,U2,o::Y1,Y2,f++G1,G2,rfl,rfl,by rw[be],k7 h1 h3,h4⟩
theorem StAll.join:∀{A B:List Md} {U1 U2:List D} {Y1 Y2:L2.St} {G1 G2:List av},StAll K H F A U1 Y1 G1->StAll K H F B U2 Y2 G2->StAll K H F (A++B) (U1++U2) (Y1++Y2) (G1++G2)
 |[],B,_,_,_,_,_,_,h,q=>by
  simp only[StAll]at h;obtain⟨rfl,rfl,rfl⟩:=h;exact q
 |m::A,B,_,_,_,_,_,_,h,q=>by
  simp only[StAll]at h;obtain⟨d,U,o,Y,f,g,rfl,rfl,rfl,h1,h2⟩:=h;rw[be];exact k7 h1 (StAll.join h2 q)
def a5N{α:Type}{a b c d:List α}(h:a++b=c++d)(hl:a.length=c.length):a=c/\b=d:=List.append_inj h hl
def StAll.splitAt{A B:List Md}{U1 U2:List D}{Y1 Y2:L2.St}(h:StAll K H F (A++B) (U1++U2) (Y1++Y2) G)(hU:U1.length=A.length)(hY:Y1.length=A.length):∃G1 G2,G=G1++G2/\StAll K H F A U1 Y1 G1/\StAll K H F B U2 Y2 G2:=by
 obtain⟨r1,r2,s1,s2,G1,G2,e1,e2,e3,h1,h2⟩:=h.split;obtain⟨l1,l2⟩:=h1.len;obtain⟨rfl,rfl⟩:=a5N e1 (by lia);obtain⟨rfl,rfl⟩:=a5N e2 (by lia);exact⟨G1,G2,e3,h1,h2⟩
theorem W2:∀{us:List Ty} {vs:List V} {ds:List D} {G:List av},StAll K H F (us.map Md.own) ds (vs.map cz) G->OwnTs K H F us vs ds G
 |[],vs,ds,G,h=>by
  simp only[cE,StAll]at h;obtain⟨rfl,e,rfl⟩:=h;have:vs=[]:=by simpa using e
  subst this;simp only[OwnTs];exact⟨trivial,trivial,trivial⟩
 |u::us,vs,ds,G,h=>by
  simp only[ay,StAll]at h;obtain⟨d,U,o,Y,f,g,rfl,e,rfl,⟨v,rfl,h1⟩,h2⟩:=h;cases vs with
  |nil=>simp at e
  |cons v' vs=>
   simp only[ay,GS,nt]at e;obtain⟨rfl,rfl⟩:=e;simp only[OwnTs];exact⟨v',vs,d,U,f,g,rfl,rfl,rfl,h1,W2 h2⟩
end
def Pend(K:af)(Mp:List Md)(Up:List D)(Yp:L2.St)(M:List Md)(U:List D)(Y:L2.St)(H P:Hp)(F:List av):Prop:=
 Up.length=Mp.length/\Yp.length=Mp.length/\StR K (Mp++M) (Up++U) (Yp++Y) H P F
section
variable {K:af}{Mp M:List Md}{Up U:List D}{Yp Y:L2.St}{H H' P:Hp}{F:List av}
def Pend.e(h:Pend K Mp Up Yp M U Y H P F):StE K M U Y H P F:=by
 obtain⟨l1,l2,S⟩:=h;obtain⟨G,h1,h2,h3⟩:=S.all;obtain⟨G1,G2,rfl,_,h4⟩:=h1.splitAt l1 l2;exact⟨⟨G2,h4,λa ha=>h3 a (aq _ ha)⟩,S.lst,S.prot⟩
theorem Pend.grow(h:Pend K Mp Up Yp M U Y H P F)(e:Same H H'):Pend K Mp Up Yp M U Y H' P F:=⟨h.1,h.2.1,h.2.2.grow e⟩
def Pend.new(h:Pend K Mp Up Yp M U Y H P F)(e:Same H H')(o:Own K H' (fp++F) u v d fp)(nd:fp.Nodup)(fr:∀a∈fp,H a=el):Pend K (Mp++[.own u]) (Up++[d]) (Yp++[cz v]) M U Y H' P (fp++F):=by
 obtain⟨l1,l2,S⟩:=h;refine⟨by simp[l1],by simp[l2],?_⟩;have S1:=S.more e fr (o.lst u);obtain⟨G,h1,h2,h3⟩:=S.all;obtain⟨G1,G2,rfl,h4,h5⟩:=h1.splitAt l1 l2;have hc:Same (cut H F) (cut H' (fp++F)):=a0u e fr;have k:∀a∈G1++G2,H' a=H a:=λa ha=>S.toE.keep e a (h3 a ha)
 have q:=(h4.frame hc λa ha=>k a (aA _ ha)).join ((k7 (m:=.own u) (d:=d) (o:=cz v) (f:=fp) ⟨v,rfl,o⟩ (h5.frame hc λa ha=>k a (aq _ ha))));refine⟨⟨G1++(fp++G2),by simpa using q,X5 h2 nd λa ha z=>?_,λa ha=>?_⟩,S1.lst,S1.prot⟩
 ·obtain⟨ys,w⟩:=S.lst a (h3 a z);rw[fr a ha]at w;cases w
 ·rcases a2c ha with z|z
  ·exact aA _ z
  ·exact aq _ (h3 a z)
def Pend.move(h:Pend K Mp Up Yp M U Y H P F)(hm:M[i]?=cz (.own u)):∃v,Y[i]?=cz (cz v)/\Pend K (Mp++[.own u]) (Up++[U.getD i .none]) (Yp++[cz v]) (M.set i .dead) U Y H P F:=by
 obtain⟨l1,l2,S⟩:=h;obtain⟨G,h1,h2,h3⟩:=S.all;obtain⟨G1,G2,rfl,h4,h5⟩:=h1.splitAt l1 l2;obtain⟨d,o,f,pre,post,e1,e2,⟨v,rfl,e3⟩,rfl,e5⟩:=h5.at_ hm;have q:=e5 H F .dead d (cz v) [] (λ_ _=>rfl) (Same.refl _) rfl;rw[set_same e1,set_same e2]at q;refine⟨v,e2,by simp[l1],by simp[l2],⟨⟨G1++(f++(pre++([]++post))),?_,?_,λa ha=>h3 a ?_⟩,S.lst,S.prot⟩⟩
 ·have:=h4.join (k7 (m:=.own u) (d:=d) (o:=cz v) (f:=f) ⟨v,rfl,e3⟩ q);rw[A2 e1];simpa using this
 ·rw[cw];refine (List.Perm.nodup_iff ?_).mp h2;refine uC G1 ?_;exact List.perm_append_comm_assoc pre f post
 ·simp only[az,cw]at ha ⊢;rcases ha with z|z|z|z
  ·exact .inl z
  ·exact .inr (.inr (.inl z))
  ·exact .inr (.inl z)
  ·exact .inr (.inr (.inr z))
end
def PMX(X:Cx)(M:List Md)(e:Expr)(f:EvE)(u:Ty)(M1:List Md):Prop:=
 ∃t,PE X e t/\∀(Mp:List Md) (Up:List D) (Yp:L2.St) (U:List D) (Y:L2.St) (H P:Hp) (F:List av) (d:D) (Q:VK),Pend X.K Mp Up Yp M U Y H P F->f U=cz d->
  (∀v H' F',Same H H'->Pend X.K (Mp++[.own u]) (Up++[d]) (Yp++[cz v]) M1 U Y H' P F'->Q v H')->t Y H Q
def PMA(X:Cx)(M:List Md)(es:List Expr)(f:EvA)(us:List Ty)(M1:List Md):Prop:=
 ∃t,PA X es t/\∀(Mp:List Md) (Up:List D) (Yp:L2.St) (U:List D) (Y:L2.St) (H P:Hp) (F:List av) (ds:List D) (Q:List V->Hp->Prop),Pend X.K Mp Up Yp M U Y H P F->f U=cz ds->
  (∀vs H' F',vs.length=us.length->ds.length=us.length->Same H H'->Pend X.K (Mp++us.map .own) (Up++ds) (Yp++vs.map cz) M1 U Y H' P F'->Q vs H')->t Y H Q
section
variable {X:Cx}{M M1 M2:List Md}{e:Expr}{es:List Expr}{f:EvE}{fa:EvA}{u:Ty}{us:List Ty}{pos:eM}
def b9(h:PX X M e f (.new u)):PMX X M e f u M:=by
 obtain⟨t,p,q⟩:=h.out;refine⟨t,p,λMp Up Yp U Y H P F d Q S hf k=>q U Y H P F d Q S.e hf λv H' e ⟨fp,o,nd,fr⟩=>k v H' _ e (S.new e o nd fr)⟩
def O8(i:Nat)(hN:X.N[i]?=cz x:=by rfl)(hv:autoParam (NmV X x) ZY._auto_1)(hm:M[i]?=cz (.own u):=by rfl):PMX X M (.Name x pos) (b7 i) u (M.set i .dead):=by
 refine⟨_,C4 hN hv.1 hv.2.1 hv.2.2,λMp Up Yp U Y H P F d Q S hf k=>?_⟩;cases hf
 obtain⟨v,e,S'⟩:=S.move hm;exact⟨v,e,k v H F (Same.refl _) S'⟩
def b3S:PMA X M [] c9 [] M:=⟨_,s9,λMp Up Yp U Y H P F ds Q S hf k=>by
 cases hf
 exact k [] H F rfl rfl (Same.refl _) (by simpa using S)⟩
def a5O(h:PMX X M e f u M1)(hr:PMA X M1 es fa us M2)(hs:ax (e::es) X.env=(rp,cy e X.env)::ax es X.env:=by rfl):PMA X M (e::es) (b8 f fa) (u::us) M2:=by
 obtain⟨t,p,q⟩:=h;obtain⟨tr,pr,qr⟩:=hr;refine⟨_,m5 p pr hs,λMp Up Yp U Y H P F ds Q S hf k=>?_⟩;obtain⟨x,h1,g1⟩:=bnd hf;obtain⟨xs,h2,g2⟩:=bnd g1;cases g2
 refine q Mp Up Yp U Y H P F x _ S h1 λv H1 F1 e1 S1=>qr _ _ _ U Y H1 P F1 xs _ S1 h2 λvs H2 F2 l1 l2 e2 S2=>k (v::vs) H2 F2 (by simp[l1]) (by simp[l2]) (e1.trans e2) ?_
 simpa using S2
def Pend.pack{us:List Ty}{vs:List V}(h:Pend K (Mp++us.map .own) (Up++ds) (Yp++vs.map cz) M U Y H P F)
  (lp:Up.length=Mp.length) (lq:Yp.length=Mp.length) (l1:vs.length=us.length) (l2:ds.length=us.length) (hp:H p=el)
  (mk:∀G,OwnTs K H F us vs ds G->G.Nodup->(∀a∈G,a∈F)->∃sA F',(∀a,a∈F'↔a∈sA\/a∈F)/\(∀a∈sA,a=p\/a∈G)/\sA.Nodup/\Own K (upd H p o) F' u (.ref p) d sA/\(p∈sA->∃ys,o=.lst ys)) :
  ∃F',Pend K (Mp++[.own u]) (Up++[d]) (Yp++[cz (.ref p)]) M U Y (upd H p o) P F':=by
 obtain⟨_,_,S⟩:=h;obtain⟨G,h1,h2,h3⟩:=S.all;obtain⟨G1,G2,rfl,h4,h5⟩:=h1.splitAt (by simp[lp,l2]) (by simp[lq,l1]);obtain⟨G3,G4,rfl,h6,h7⟩:=h4.splitAt lp lq;have DB:G4.Nodup:=by rw[bb]at h2;exact (bb.mp h2.1).2.1
 obtain⟨sA,F',ur,sk,i_,own,fV⟩:=mk G4 (W2 h7) DB λa ha=>h3 a (aA _ (aq _ ha))
 have wX:p∉F:=λz=>by obtain⟨ys,w⟩:=S.lst p z;rw[hp]at w;cases w
 have hc:Same (cut H F) (cut (upd H p o) F'):=λa o' ha=>by
  obtain⟨n1,n2⟩:=o6 ha;have gC:a≠p:=λz=>by rw[z,hp]at n2;cases n2
  refine j6 (λz=>?_) (by rw[f6 gC];exact n2);rcases (ur a).mp z with w|w
  ·rcases sk a w with y|y
   ·exact gC y
   ·exact n1 (h3 a (aA _ (aq _ y)))
  ·exact n1 w
 have k:∀a∈F,upd H p o a=H a:=λa ha=>f6 λz=>wX (z▸ha)
 have q:=(h6.frame hc λa ha=>k a (h3 a (aA _ (aA _ ha)))).join (k7 (m:=.own u) (d:=d) (o:=cz (.ref p)) (f:=sA) ⟨_,rfl,own⟩ (h5.frame hc λa ha=>k a (h3 a (aq _ ha))));refine⟨F',by simp[lp],by simp[lq],⟨⟨G3++(sA++G2),by simpa using q,X5 ?_ i_ λa ha z=>?_,λa ha=>?_⟩,λa ha=>?_,S.prot.trans hc⟩⟩
 ·rw[be]at h2;exact L9 h2
 ·rcases sk a ha with w|w
  ·subst w;exact wX (h3 a (by
    rcases az.mp z with y|y
    ·exact aA _ (aA _ y)
    ·exact aq _ y))
  ·rw[be]at h2;exact a1i h2 a w z
 ·rcases a2c ha with z|z
  ·exact (ur a).mpr (.inl z)
  ·refine (ur a).mpr (.inr (h3 a ?_));rcases az.mp z with y|y
   ·exact aA _ (aA _ y)
   ·exact aq _ y
 ·rcases (ur a).mp ha with z|z
  ·rcases sk a z with w|w
   ·subst w;obtain⟨ys,rfl⟩:=fV z;exact⟨⟨.lst ys,trivial⟩,i4⟩
   ·have ki:=h3 a (aA _ (aq _ w));obtain⟨ys,y⟩:=S.lst a ki;exact⟨ys,by rw[k a ki];exact y⟩
  ·obtain⟨ys,y⟩:=S.lst a z;exact⟨ys,by rw[k a z];exact y⟩
def b3T{j}(h:PMA X M es fa us M1)(hn:us.length<=1000:=by decide):PMX X M (.Tuple es j pos) (B1 fa) (.tp us) M1:=by
 obtain⟨t,p,q⟩:=h;refine⟨_,a6Q p,λMp Up Yp U Y H P F d Q S hf k=>?_⟩;obtain⟨ds,h1,g1⟩:=bnd hf;cases g1
 refine q Mp Up Yp U Y H P F ds _ S h1 λvs H1 F1 l1 l2 e1 S1=>⟨by rw[l1];exact dC (X2 hn),λx hx=>?_⟩
 have yh:x∉F1:=λz=>by obtain⟨ys,w⟩:=S1.2.2.lst x z;rw[hx]at w;cases w
 obtain⟨F2,S2⟩:=S1.pack (o:=.tup vs) (u:=.tp us) (d:=.tuple ds) S.1 S.2.1 l1 l2 hx λG o nd sub=>by
  refine⟨G,F1,λa=>⟨λz=>.inr z,λz=>z.elim (sub a) id⟩,λa ha=>.inr ha,nd,?_,λz=>absurd (sub x z) yh⟩;simp only[Own];refine .inr ⟨x,vs,ds,rfl,i4,yh,rfl,o.frame (x0 (k6 hx _)) us λa ha=>f6 λz=>yh (z▸sub a ha)⟩
 exact k _ _ F2 (e1.trans (k6 hx _)) S2
end
def dAt:Ty->D->List Nat->Option (Ty×D)
 |u,d,[]=>cz (u,d)
 |.l u,.list ds,j::p=>(ds[j]?).bind λd=>dAt u d p
 |.tp us,.tuple ds,j::p=>(us[j]?).bind λu=>(ds[j]?).bind λd=>dAt u d p
 |_,_,_=>el
def a2x:D->List Nat->D->D
 |_,[],e=>e
 |.list ds,j::p,e=>.list (ds.set j (a2x (ds.getD j .none) p e))
 |.tuple ds,j::p,e=>.tuple (ds.set j (a2x (ds.getD j .none) p e))
 |d,_,_=>d
def wk(H:Hp):V->List Nat->V->Prop
 |v,[],w=>w=v
 |v,j::p,w=>∃a xs v1,v=.ref a/\(H a=cz (.lst xs)\/H a=cz (.tup xs))/\xs[j]?=cz v1/\wk H v1 p w
theorem b1p(e:Same H H'):∀{p:List Nat} {v w:V},wk H v p w->wk H' v p w
 |[],_,_,h=>h
 |j::p,_,_,h=>by
  obtain⟨a,xs,v1,h1,h2,h3,h4⟩:=h;exact⟨a,xs,v1,h1,h2.imp (e _ _) (e _ _),h3,b1p e h4⟩
theorem a8t:∀{p:List Nat} {v w:V},wk H v p w->w=.ref a->(H a=cz (.lst xs)\/H a=cz (.tup xs))->xs[j]?=cz w'->wk H v (p++[j]) w'
 |[],v,w,h,e,h1,h2=>by
  have h':w=v:=h;subst h';exact⟨a,xs,w',e,h1,h2,rfl⟩
 |k::p,v,w,h,e,h1,h2=>by
  obtain⟨a',kZ,v1,q1,q2,q3,q4⟩:=h;exact⟨a',kZ,v1,q1,q2,q3,a8t q4 e h1 h2⟩
section
variable {K:af}{H H':Hp}{F F':List av}
theorem ListAll.zip:∀{ds:List D} {xs:List V} {fp:List av} {j:Nat} {d:D},ListAll (Own K H F u) xs ds fp->ds[j]?=cz d->
  ∃v f pre post,xs[j]?=cz v/\Own K H F u v d f/\fp=pre++(f++post)/\
   ∀(H':Hp) (F':List av) (v':V) (d':D) (f':List av),(∀a∈pre++post,H' a=H a)->Same (cut H F) (cut H' F')->Own K H' F' u v' d' f'->ListAll (Own K H' F' u) (xs.set j v') (ds.set j d') (pre++(f'++post))
 |[],_,_,j,d,_,e=>by simp at e
 |d0::ds,_,_,0,d,h,e=>by
  obtain⟨v,r,f,g,rfl,rfl,h1,h2⟩:=h.cons_inv;have:d0=d:=by simpa using e
  subst this;refine⟨v,f,[],g,rfl,h1,rfl,λH' F' v' d' f' k e' o=>?_⟩;show ListAll (Own K H' F' u) (v'::r) (d'::ds) (f'++g);exact m4 o (l9 e' h2 k)
 |d0::ds,_,_,j+1,d,h,e=>by
  obtain⟨v,r,f,g,rfl,rfl,h1,h2⟩:=h.cons_inv;obtain⟨w,f',pre,post,e1,e2,e3,e4⟩:=ListAll.zip (j:=j) h2 (by simpa using e);subst e3;refine⟨w,f',f++pre,post,by simpa using e1,e2,by rw[be],λH' F' v' d' g' k e' o=>?_⟩;rw[be];refine m4 (h1.frame e' u λa ha=>k a ?_) (e4 H' F' v' d' g' (λa ha=>k a ?_) e' o)
  ·rw[be];exact aA _ ha
  ·rw[be];exact aq _ ha
theorem OwnTs.zip:∀{us:List Ty} {ds:List D} {xs:List V} {fp:List av} {j:Nat} {u:Ty} {d:D},OwnTs K H F us xs ds fp->us[j]?=cz u->ds[j]?=cz d->
  ∃v f pre post,xs[j]?=cz v/\Own K H F u v d f/\fp=pre++(f++post)/\
   ∀(H':Hp) (F':List av) (d':D) (f':List av),(∀a∈pre++post,H' a=H a)->Same (cut H F) (cut H' F')->Own K H' F' u v d' f'->OwnTs K H' F' us xs (ds.set j d') (pre++(f'++post))
 |[],_,_,_,j,u,d,_,e,_=>by simp at e
 |u0::us,_,_,_,0,u,d,h,e,e'=>by
  simp only[OwnTs]at h;obtain⟨v,r,d0,ds,f,g,rfl,rfl,rfl,h1,h2⟩:=h;have:u0=u:=by simpa using e
  subst this;have:d0=d:=by simpa using e'
  subst this;refine⟨v,f,[],g,rfl,h1,rfl,λH' F' d' f' k e' o=>?_⟩;show OwnTs K H' F' (u0::us) (v::r) (d'::ds) (f'++g);simp only[OwnTs];exact⟨v,r,d',ds,f',g,rfl,rfl,rfl,o,h2.frame e' us k⟩
 |u0::us,_,_,_,j+1,u,d,h,e,e'=>by
  simp only[OwnTs]at h;obtain⟨v,r,d0,ds,f,g,rfl,rfl,rfl,h1,h2⟩:=h;obtain⟨w,f',pre,post,e1,e2,e3,e4⟩:=OwnTs.zip (j:=j) h2 (by simpa using e) (by simpa using e');subst e3;refine⟨w,f',f++pre,post,by simpa using e1,e2,by rw[be],λH' F' d' g' k e' o=>?_⟩;rw[be];show OwnTs K H' F' (u0::us) (v::r) (d0::ds.set j d') (f++(pre++(g'++post)));simp only[OwnTs];refine⟨v,r,d0,_,f,_,rfl,rfl,rfl,h1.frame e' u0 λa ha=>k a ?_,e4 H' F' d' g' (λa ha=>k a ?_) e' o⟩
  ·rw[be];exact aA _ ha
  ·rw[be];exact aq _ ha
theorem Own.path:∀(p:List Nat) {u t:Ty} {v w:V} {d:D} {fp:List av} {ds:List D},Own K H F u v d fp->dAt u d p=cz (.l t,.list ds)->wk H v p w->
  ∃b xs fs pre post,w=.ref b/\H b=cz (.lst xs)/\fp=pre++((b::fs)++post)/\ListAll (Own K H F t) xs ds fs/\
   ∀(H':Hp) (F':List av) (kZ:List V) (iu:List D) (jW:List av),(∀a∈pre++post,H' a=H a)->Same (cut H F) (cut H' F')->H' b=cz (.lst kZ)->ListAll (Own K H' F' t) kZ iu jW->
    Own K H' F' u v (a2x d p (.list iu)) (pre++((b::jW)++post))
 |[],u,t,v,w,d,fp,ds,h,hd,hw=>by
  have lP:cz (u,d)=cz (.l t,.list ds):=hd;cases lP
  have yi:w=v:=hw;subst yi;simp only[Own]at h;rcases h with⟨_,hi,_⟩|⟨a,xs,iu,fs,rfl,h1,h2,rfl,h3⟩
  ·simp only[imm]at hi;cases hi
  ·cases h2
   refine⟨a,xs,fs,[],[],rfl,h1,by simp,h3,λH' F' kZ iu jW _ _ k o=>?_⟩;simp only[Own,a2x,cw,bz];exact .inr ⟨a,kZ,iu,jW,rfl,k,rfl,rfl,o⟩
 |j::p,u,t,v,w,d,fp,ds,h,hd,hw=>by
  obtain⟨a0,rT,v1,rfl,ug,rz,hw⟩:=hw;cases u with
  |l u=>
   cases d with
   |list es=>
    have lP:(es[j]?).bind (λd=>dAt u d p)=cz (.l t,.list ds):=hd;obtain⟨d1,g1,g2⟩:=bnd lP;simp only[Own]at h;rcases h with⟨_,hi,_⟩|⟨a,xs,eJ,fs,e0,h1,h2,rfl,h3⟩
    ·simp only[imm]at hi;cases hi
    ·cases h2
     cases e0
     have sO:rT=xs:=by rcases ug with z|z<;>rw[h1]at z<;>cases z;rfl
     subst sO;obtain⟨v2,f,pre,post,z1,z2,rfl,z4⟩:=h3.zip g1;rw[rz]at z1;cases z1
     obtain⟨b,ys,jW,lS,jH,rfl,q2,rfl,q4,q5⟩:=Own.path p z2 g2 hw;refine⟨b,ys,jW,a0::(pre++lS),jH++post,rfl,q2,by simp,q4,λH' F' kZ iu zt k e' hb o=>?_⟩;have k1:∀a∈pre++post,H' a=H a:=λa ha=>k a (by simp only[az,aC]at ha ⊢;rcases ha with z|z;exact .inl (.inr (.inl z));exact .inr (.inr z))
     have k2:∀a∈lS++jH,H' a=H a:=λa ha=>k a (by simp only[az,aC]at ha ⊢;rcases ha with z|z;exact .inl (.inr (.inr z));exact .inr (.inl z))
     have o1:=q5 H' F' kZ iu zt k2 e' hb o;have o2:=z4 H' F' _ _ _ k1 e' o1;rw[set_same rz]at o2;show Own K H' F' (.l u) (.ref a0) (.list (es.set j (a2x (es.getD j .none) p (.list iu)))) _;rw[A2 g1];simp only[Own];refine .inr ⟨a0,rT,_,_,rfl,(k a0 (by simp)).trans h1,rfl,?_,o2⟩;simp
   |_=>cases hd
  |tp us=>
   cases d with
   |tuple es=>
    have lP:(us[j]?).bind (λu=>(es[j]?).bind λd=>dAt u d p)=cz (.l t,.list ds):=hd;obtain⟨u1,g0,zw⟩:=bnd lP;obtain⟨d1,g1,g2⟩:=bnd zw;simp only[Own]at h;rcases h with⟨_,hi,_⟩|⟨a,xs,eJ,e0,h1,h0,h2,h3⟩
    ·exact (hi.2 _ rfl).elim
    cases h2
    cases e0
    have sO:rT=xs:=by rcases ug with z|z<;>rw[h1]at z<;>cases z;rfl
    subst sO;obtain⟨v2,f,pre,post,z1,z2,rfl,z4⟩:=h3.zip g0 g1;rw[rz]at z1;cases z1
    obtain⟨b,ys,jW,lS,jH,rfl,q2,rfl,q4,q5⟩:=Own.path p z2 g2 hw;refine⟨b,ys,jW,pre++lS,jH++post,rfl,q2,by simp,q4,λH' F' kZ iu zt k e' hb o=>?_⟩;have k1:∀a∈pre++post,H' a=H a:=λa ha=>k a (by simp only[az]at ha ⊢;rcases ha with z|z;exact .inl (.inl z);exact .inr (.inr z))
    have k2:∀a∈lS++jH,H' a=H a:=λa ha=>k a (by simp only[az]at ha ⊢;rcases ha with z|z;exact .inl (.inr z);exact .inr (.inl z))
    have o1:=q5 H' F' kZ iu zt k2 e' hb o;have o2:=z4 H' F' _ _ k1 e' o1;show Own K H' F' (.tp us) (.ref a0) (.tuple (es.set j (a2x (es.getD j .none) p (.list iu)))) _;rw[A2 g1];obtain⟨n1,n2⟩:=o6 (e' a0 _ (j6 h0 h1));simp only[Own];refine .inr ⟨a0,rT,_,rfl,n2,n1,rfl,?_⟩;simpa using o2
   |_=>cases hd
  |i=>cases hd
  |f=>cases hd
  |d kt u=>cases hd
def N3{N O:List av}(h:O.Nodup)(k:∀a,N.count a<=O.count a):N.Nodup:=cn.mpr λa=>bV (k a) (cn.mp h a)
def Pend.put(h:Pend K ([]++[.own t]) ([]++[d]) ([]++[cz v]) M U Y H P F)(hm:M[i]?=cz (.own u))(h0:Y[i]?=cz (cz v0))(hd:dAt u (U.getD i .none) p=cz (.l t,.list ds))(hw:wk H v0 p w) :
  ∃b xs,w=.ref b/\H b=cz (.lst xs)/\xs.length=ds.length/\StR K M (U.set i (a2x (U.getD i .none) p (.list (ds++[d])))) Y (upd H b (.lst (xs++[v]))) P F/\
   ∀j,j<ds.length->StR K M (U.set i (a2x (U.getD i .none) p (.list (ds.set j d)))) Y (upd H b (.lst (xs.set j v))) P F:=by
 obtain⟨_,_,S⟩:=h;obtain⟨G,h1,h2,h3⟩:=S.all;have lC:StAll K H F (.own t::M) (d::U) (cz v::Y) G:=by simpa using h1
 simp only[StAll]at lC;obtain⟨d',U',o',Y',fv,G2,e1,e2,rfl,⟨v',e3,ov⟩,h5⟩:=lC;cases e1
 cases e2
 cases e3
 obtain⟨dd,oo,f,pre,post,q1,q2,⟨v2,rfl,q3⟩,rfl,q5⟩:=h5.at_ hm;rw[h0]at q2;cases q2
 rw[A2 q1]at hd;obtain⟨b,xs,fs,lS,jH,rfl,r2,rfl,r4,r5⟩:=q3.path p hd hw;have sr:b∈F:=h3 b (by simp);have eK:∀o,Same (cut H F) (cut (upd H b o) F):=λo a o' ha=>by
  obtain⟨n1,n2⟩:=o6 ha;exact j6 n1 (by rw[f6 (show a≠b from λz=>n1 (z▸sr))];exact n2)
 have ix:∀a,a≠b\/(pre++post).count a=0/\(lS++jH).count a=0/\fs.count a=0/\fv.count a=0:=λa=>by
  by_cases e:a=b
  ·subst e;have:=cn.mp h2 a;simp only[aZ,bh,fy]at this ⊢;exact .inr ⟨by lia,by lia,by lia,by lia⟩
  ·exact .inl e
 have kk:∀(l:List av) (o:HO),(∀a,a=b->l.count a=0)->∀a∈l,upd H b o a=H a:=λl o hc a ha=>f6 λz=>by
  have:=hc a z;rw[dF]at this;exact this ha
 have c1:∀a,a=b->(pre++post).count a=0:=λa e=>((ix a).resolve_left (λn=>n e)).1
 have c2:∀a,a=b->(lS++jH).count a=0:=λa e=>((ix a).resolve_left (λn=>n e)).2.1
 have c3:∀a,a=b->fs.count a=0:=λa e=>((ix a).resolve_left (λn=>n e)).2.2.1
 have c4:∀a,a=b->fv.count a=0:=λa e=>((ix a).resolve_left (λn=>n e)).2.2.2
 have fin:∀(kZ:List V) (iu:List D) (jW:List av),ListAll (Own K (upd H b (.lst kZ)) F t) kZ iu jW->(∀a,jW.count a<=fs.count a+fv.count a)->StR K M (U.set i (a2x dd p (.list iu))) Y (upd H b (.lst kZ)) P F:=λkZ iu jW ha nT=>by
  have o1:=r5 (upd H b (.lst kZ)) F kZ iu jW (kk _ _ c2) (eK _) i4 ha;have q:=q5 (upd H b (.lst kZ)) F (.own u) (a2x dd p (.list iu)) (cz v0) _ (kk _ _ c1) (eK _) ⟨v0,rfl,o1⟩;rw[set_same (l:=Y) h0,set_same (l:=M) hm]at q;refine⟨⟨_,q,N3 h2 λa=>?_,λa ha=>?_⟩,λa ha=>?_,S.prot.trans (eK _)⟩
  ·have:=nT a;simp only[aZ,bh,cS];lia
  ·have hc:0<(fv++(pre++(lS++(b::fs++jH)++post))).count a:=by
    have h0:=cO.mpr ha;have:=nT a;simp only[aZ,bh,cS]at h0 ⊢;lia
   exact h3 a (cO.mp hc)
  ·by_cases e:a=b
   ·subst e;exact⟨⟨.lst kZ,trivial⟩,i4⟩
   ·obtain⟨ys,y⟩:=S.lst a ha;exact⟨ys,by rw[f6 e];exact y⟩
 rw[A2 q1];refine⟨b,xs,rfl,r2,r4.length,fin (xs++[v]) (ds++[d]) (fs++fv) ?_ λa=>by rw[aZ];exact aB _,λj hj=>?_⟩
 ·refine (l9 (eK _) r4 (kk _ _ c3)).append ?_;have:=m4 (R:=Own K (upd H b (.lst (xs++[v]))) F t) (ov.frame (eK _) t (kk _ _ c4)) m7
  rwa[bz]at this
 ·obtain⟨v3,f3,a1,a2,s1,s2,rfl,s4⟩:=r4.zip (au hj);have c5:∀a,a=b->(a1++a2).count a=0:=λa e=>by have:=c3 a e;simp only[aZ]at this ⊢;lia
  refine fin (xs.set j v) (ds.set j d) (a1++(fv++a2)) (s4 _ F v d fv (kk _ _ c5) (eK _) (ov.frame (eK _) t (kk _ _ c4))) λa=>?_
  simp only[aZ];lia
end
inductive Out where
 |nx (U:List D)|rt (d:D)|bk (U:List D)|ct (U:List D)
abbrev EvS:=List D->Option Out
def EndsOk(K:af)(P:Hp)(u:Ty)(ML M:List Md)(D:Ends)(o:Out):Prop:=
 match o with
 |.nx U=>∀Y H F,StR K M U Y H P F->D.nx Y H
 |.rt d=>∀v H fp,Own K H fp u v d fp->fp.Nodup->(∀a∈fp,P a=el)->Same P H->D.rt v H
 |.bk U=>∀Y H F,StR K ML U Y H P F->D.bk Y H
 |.ct U=>∀Y H F,StR K ML U Y H P F->D.ct Y H
def spS(K:af)(u:Ty)(ML M:List Md)(g:EvS)(M':List Md):TS:=λD Y H=>∃(U:List VS.D) (P:Hp) (F:List av) (o:Out),StR K M U Y H P F/\g U=cz o/\EndsOk K P u ML M' D o
def PSX(X:Cx)(u:Ty)(ML M:List Md)(st:g_)(g:EvS)(M':List Md):Prop:=PS X st (spS X.K u ML M g M')
def PSsX(X:Cx)(u:Ty)(ML M:List Md)(sts:List g_)(g:EvS)(M':List Md):Prop:=PSs X sts (spS X.K u ML M g M')
section
variable {X:Cx}{u:Ty}{ML M M':List Md}{st:g_}{sts:List g_}{g:EvS}
def PSX.mk(h:∃t,PS X st t/\∀(D:Ends) (U:List VS.D) (Y:L2.St) (H P:Hp) (F:List av) (o:Out),StR X.K M U Y H P F->g U=cz o->EndsOk X.K P u ML M' D o->t D Y H):PSX X u ML M st g M':=by
 obtain⟨t,p,q⟩:=h;exact λpins s Y H D I ⟨U,P,F,o,S,hg,k⟩=>p pins s Y H D I (q D U Y H P F o S hg k)
def PSX.out(h:PSX X u ML M st g M'):∃t,PS X st t/\∀(D:Ends) (U:List VS.D) (Y:L2.St) (H P:Hp) (F:List av) (o:Out),StR X.K M U Y H P F->g U=cz o->EndsOk X.K P u ML M' D o->t D Y H:=
 ⟨_,h,λ_ U _ _ P F o S hg k=>⟨U,P,F,o,S,hg,k⟩⟩
def PSsX.mk(h:∃t,PSs X sts t/\∀(D:Ends) (U:List VS.D) (Y:L2.St) (H P:Hp) (F:List av) (o:Out),StR X.K M U Y H P F->g U=cz o->EndsOk X.K P u ML M' D o->t D Y H):PSsX X u ML M sts g M':=by
 obtain⟨t,p,q⟩:=h;exact λpins s Y H D I ⟨U,P,F,o,S,hg,k⟩=>p pins s Y H D I (q D U Y H P F o S hg k)
def PSsX.out(h:PSsX X u ML M sts g M'):∃t,PSs X sts t/\∀(D:Ends) (U:List VS.D) (Y:L2.St) (H P:Hp) (F:List av) (o:Out),StR X.K M U Y H P F->g U=cz o->EndsOk X.K P u ML M' D o->t D Y H:=
 ⟨_,h,λ_ U _ _ P F o S hg k=>⟨U,P,F,o,S,hg,k⟩⟩
end
def Wk(M M1:List Md):Prop:=∀(K:af) (U:List D) (Y:L2.St) (H P:Hp) (F:List av),StR K M U Y H P F->∃F',StR K M1 U Y H P F'
def m8:Wk M M:=λ_ _ _ _ _ F S=>⟨F,S⟩
def Wk.trans(a:Wk M M1)(b:Wk M1 M2):Wk M M2:=λK U Y H P F S=>by
 obtain⟨F1,S1⟩:=a K U Y H P F S;exact b K U Y H P F1 S1
def k8{M:List Md}(i:Nat)(h:M[i]?=cz m:=by rfl):Wk M (M.set i .dead):=λK U Y H P F S=>⟨F,S.dead h⟩
def N4{M:List Md}(i:Nat)(h:M[i]?=cz (.own u):=by rfl):Wk M (M.set i (.own .f)):=λK U Y H P F S=>S.freeze h
def m6:EvS:=λU=>cz (.nx U)
noncomputable def g9(a b:EvS):EvS:=λU=>(a U).bind λo=>match o with
 |.nx U'=>b U'
 |o=>cz o
noncomputable def l0(i:Nat)(f:EvE):EvS:=λU=>(f U).bind λd=>cz (.nx (U.set i d))
def asP:D->Option (D×D)
 |.tuple [a,b]=>cz (a,b)
 |_=>el
def a4a(i j:Nat)(f:EvE):EvS:=λU=>(f U).bind λd=>(asP d).bind λp=>cz (.nx ((U.set i p.1).set j p.2))
noncomputable def l5(f:EvE):EvS:=λU=>(f U).bind λd=>cz (.rt d)
def sEx(f:EvE):EvS:=λU=>(f U).bind λ_=>cz (.nx U)
noncomputable def sIf(c:EvT)(a b:EvS):EvS:=λU=>(c U).bind λk=>if k then a U else b U
def sNo:EvS:=λ_=>el
def N5(set:List D->D->Option (List D))(g:EvS):List D->List D->Option Out
 |[],U=>cz (.nx U)
 |d::ds,U=>(set U d).bind λU1=>(g U1).bind λo=>match o with
  |.nx U'=>N5 set g ds U'
  |.ct U'=>N5 set g ds U'
  |.bk U'=>cz (.nx U')
  |.rt d=>cz (.rt d)
def D0(i:Nat):List D->D->Option (List D):=λU d=>cz (U.set i d)
def L3(i j:Nat):List D->D->Option (List D):=λU d=>(asP d).bind λp=>cz ((U.set i p.1).set j p.2)
noncomputable def D3(fi:EvA)(set:List D->D->Option (List D))(g:EvS):EvS:=λU=>(fi U).bind λds=>N5 set g ds U
def whL(c:EvT)(g:EvS):Nat->List D->Option Out
 |0,_=>el
 |n+1,U=>(c U).bind λk=>if k then (g U).bind λo=>match o with
  |.nx U'=>whL c g n U'
  |.ct U'=>whL c g n U'
  |.bk U'=>cz (.nx U')
  |.rt d=>cz (.rt d)
  else cz (.nx U)
def sWh(n:List D->Nat)(c:EvT)(g:EvS):EvS:=λU=>whL c g (n U) U
section
variable {K:af}{M M1:List Md}{U:List D}{Y:L2.St}{H P:Hp}{F:List av}
def StR.pend(S:StR K M U Y H P F):Pend K [] [] [] M U Y H P F:=⟨rfl,rfl,S⟩
def Pend.store(h:Pend K (Mp++[.own u]) (Up++[d]) (Yp++[cz v]) M U Y H P F)(lp:Up.length=Mp.length)(lq:Yp.length=Mp.length)(hm:M[i]?=cz m) :
  Pend K Mp Up Yp (M.set i (.own u)) (U.set i d) (Y.set i (cz v)) H P F:=by
 obtain⟨_,_,S⟩:=h;obtain⟨G,h1,h2,h3⟩:=S.all;obtain⟨G1,G2,rfl,h4,h5⟩:=h1.splitAt (by simp[lp]) (by simp[lq]);obtain⟨G3,G4,rfl,h6,h7⟩:=h4.splitAt lp lq;have h8:OwnTs K H F [u] [v] [d] G4:=W2 (us:=[u]) (vs:=[v]) h7;simp only[OwnTs]at h8;obtain⟨v',r,d',e,f,g,e1,e2,rfl,o,rfl,rfl,rfl⟩:=h8;cases e1
 cases e2
 obtain⟨d0,o0,f0,pre,post,q1,q2,q3,rfl,q5⟩:=h5.at_ hm;have q:=h6.join (q5 H F (.own u) d (cz v) f (λ_ _=>rfl) (Same.refl _) ⟨v,rfl,o⟩);refine⟨lp,lq,⟨⟨_,q,N3 h2 λa=>?_,λa ha=>h3 a ?_⟩,S.lst,S.prot⟩⟩
 ·simp only[aZ];lia
 ·simp only[az,bz]at ha ⊢;rcases ha with z|z|z|z
  ·exact .inl (.inl z)
  ·exact .inr (.inl z)
  ·exact .inl (.inr z)
  ·exact .inr (.inr (.inr z))
def Pend.st(h:Pend K [] [] [] M U Y H P F):StR K M U Y H P F:=h.2.2
def Pend.one(h:Pend K ([]++[.own u]) ([]++[d]) ([]++[cz v]) M U Y H P F):∃fp,Own K H F u v d fp/\fp.Nodup/\∀a∈fp,a∈F:=by
 obtain⟨_,_,S⟩:=h;obtain⟨G,h1,h2,h3⟩:=S.all;obtain⟨G1,G2,rfl,h4,h5⟩:=h1.splitAt (A:=[]++[.own u]) (U1:=[]++[d]) (Y1:=[]++[cz v]) rfl rfl;have h8:OwnTs K H F [u] [v] [d] G1:=W2 (us:=[u]) (vs:=[v]) h4;simp only[OwnTs]at h8;obtain⟨v',r,d',e,f,g,e1,e2,rfl,o,rfl,rfl,rfl⟩:=h8;cases e1
 cases e2
 rw[bz]at h2 h3;exact⟨f,o,(bb.mp h2).1,λa ha=>h3 a (aA _ ha)⟩
def b1q(u u1 u2:Ty):Prop:=(u=.f/\u1=.f/\u2=.f)\/(u=.i/\u1=.i/\u2=.i)\/u=.tp [u1,u2]
def Pend.untup(h:Pend K ([]++[.own u]) ([]++[.tuple [d1,d2]]) ([]++[cz v]) M U Y H P F)(hp:b1q u u1 u2) :
  ∃a v1 v2,v=.ref a/\SqT K H a [v1,v2]/\Pend K ([.own u1]++[.own u2]) ([d1]++[d2]) ([cz v1]++[cz v2]) M U Y H P F:=by
 obtain⟨_,_,S⟩:=h;obtain⟨G,h1,h2,h3⟩:=S.all;obtain⟨G1,G2,rfl,h4,h5⟩:=h1.splitAt (A:=[]++[.own u]) (U1:=[]++[.tuple [d1,d2]]) (Y1:=[]++[cz v]) rfl rfl;have h8:OwnTs K H F [u] [v] [.tuple [d1,d2]] G1:=W2 (us:=[u]) (vs:=[v]) h4;simp only[OwnTs]at h8;obtain⟨v',r,d',e,f,g,e1,e2,rfl,o,rfl,rfl,rfl⟩:=h8;cases e1
 cases e2
 have key:∃a v1 v2 f1 f2,v=.ref a/\SqT K H a [v1,v2]/\f=f1++f2/\Own K H F u1 v1 d1 f1/\Own K H F u2 v2 d2 f2:=by
  rcases hp with⟨rfl,rfl,rfl⟩|⟨rfl,rfl,rfl⟩|rfl
  ·obtain⟨rfl,o'⟩:=a8n o;obtain⟨a,xs,rfl,k1,k2⟩:=o'.tup_inv;obtain⟨v1,v2,rfl,k3,k4⟩:=a0z k2;refine⟨a,v1,v2,[],[],rfl,P5 k1 i7,rfl,?_,?_⟩<;>simp only[Own]
   ·exact⟨trivial,k3⟩
   ·exact⟨trivial,k4⟩
  ·obtain⟨rfl,hi,o'⟩:=Q2 o;obtain⟨a,xs,rfl,k1,k2⟩:=o'.tup_inv;obtain⟨v1,v2,rfl,k3,k4⟩:=a0z k2;simp only[imm,g8,aw]at hi;refine⟨a,v1,v2,[],[],rfl,P5 k1 i7,rfl,?_,?_⟩<;>simp only[Own]
   ·exact⟨trivial,hi.1,k3⟩
   ·exact⟨trivial,hi.2.1,k4⟩
  ·simp only[Own,OwnTs]at o;rcases o with⟨_,hi,_⟩|⟨a,xs,ds,rfl,k1,_,e0,v1,r,GI,e',f1,g1,rfl,e2,rfl,o1,v2,r2,GH,GG,f2,g2,rfl,e3,rfl,o2,rfl,rfl,rfl⟩
   ·exact (hi.2 _ rfl).elim
   cases e0
   cases e2
   cases e3
   exact⟨a,v1,v2,f1,f2,rfl,SqT.of k1,by simp,o1,o2⟩
 obtain⟨a,v1,v2,f1,f2,rfl,k1,rfl,o1,o2⟩:=key;refine⟨a,v1,v2,rfl,k1,rfl,rfl,⟨⟨f1++(f2++G2),?_,by simpa using h2,λa ha=>h3 a (by simpa using ha)⟩,S.lst,S.prot⟩⟩;exact k7 (m:=.own u1) ⟨v1,rfl,o1⟩ (k7 (m:=.own u2) ⟨v2,rfl,o2⟩ h5)
end
section
variable {X:Cx}{u t:Ty}{ML M M1 M2 M':List Md}{st:g_}{sts body Bs:List g_}{g g1 g2:EvS}{e tg iter:Expr}{f:EvE}{fc:EvT}{fi:EvA}{c:Cat}{pos:eM}
def EndsOk.pre{K:af}{P:Hp}{D:Ends}{o:Out}(h:EndsOk K P u ML M' D o)(hw:Wk M M'):EndsOk K P u ML M D o:=by
 cases o with
 |nx U=>exact λY H F S=>by obtain⟨F',S'⟩:=hw K U Y H P F S;exact h Y H F' S'
 |rt d=>exact h
 |bk U=>exact h
 |ct U=>exact h
def PSsX.weak(h:PSsX X u ML M1 sts g M2)(a:Wk M M1)(b:Wk M2 M'):PSsX X u ML M sts g M':=by
 obtain⟨t,p,q⟩:=h.out;refine .mk ⟨t,p,λD U Y H P F o S hg k=>?_⟩;obtain⟨F1,S1⟩:=a _ U Y H P F S;exact q D U Y H P F1 o S1 hg (k.pre b)
def PSX.weak(h:PSX X u ML M1 st g M2)(a:Wk M M1)(b:Wk M2 M'):PSX X u ML M st g M':=by
 obtain⟨t,p,q⟩:=h.out;refine .mk ⟨t,p,λD U Y H P F o S hg k=>?_⟩;obtain⟨F1,S1⟩:=a _ U Y H P F S;exact q D U Y H P F1 o S1 hg (k.pre b)
def o7:PSsX X u ML M [] m6 M:=.mk ⟨_,a2a,λD U Y H P F o S hg k=>by cases hg;exact k Y H F S⟩
def c6(h1:PSX X u ML M st g1 M1)(h2:PSsX X u ML M1 sts g2 M'):PSsX X u ML M (st::sts) (g9 g1 g2) M':=by
 obtain⟨t1,p1,q1⟩:=h1.out;obtain⟨t2,p2,q2⟩:=h2.out;refine .mk ⟨_,V1 p1 p2,λD U Y H P F o S hg k=>?_⟩;obtain⟨o1,h1,g1⟩:=bnd hg;refine q1 {D with nx:=t2 D} U Y H P F o1 S h1 ?_;cases o1 with
 |nx U'=>exact λY' H' F' S'=>q2 D U' Y' H' P F' o S' g1 k
 |rt d=>cases g1;exact k
 |bk U'=>cases g1;exact k
 |ct U'=>cases g1;exact k
def e7(h1:PSX X u ML M st g M1):PSsX X u ML M [st] g M1:=by
 obtain⟨t1,p1,q1⟩:=h1.out;exact .mk ⟨_,a4M p1,q1⟩
def j8(i:Nat)(hN:X.N.Nodup)(he:PMX X M e f t M1)(hi:X.N[i]?=cz x:=by rfl)(hx:autoParam (Loc X.env.scope x) ZW._auto_1)(hm:M1[i]?=cz m:=by rfl)
  (hs:fE e (cz (.Name x px)) pos.line X.env=pure rp:=by rfl) (hf:autoParam (X.fn x=p4\/X.env.scope.names.lookup x=cz .local) ZV._auto_1):PSX X u ML M (.Assign [.Name x px] e pos) (l0 i f) (M1.set i (.own t)):=by
 obtain⟨te,pe,qe⟩:=he;refine .mk ⟨_,b0H hN hi hx pe hs hf,λD U Y H P F o S hg k=>?_⟩;obtain⟨d,h1,g1⟩:=bnd hg;cases g1
 exact qe [] [] [] U Y H P F d _ S.pend h1 λv H' F' e S'=>k _ _ F' (S'.store rfl rfl hm).st
def b3U(i j:Nat){pt pk}(hN:X.N.Nodup)(hc:X.calm=p4)(he:PMX X M e f t M1)(hp:b1q t u1 u2)(hi:X.N[i]?=cz x:=by rfl)(hj:X.N[j]?=cz y:=by rfl)(hx:autoParam (Loc X.env.scope x) ZW._auto_1)
  (hy:autoParam (Loc X.env.scope y) ZW._auto_1) (mK:i≠j:=by decide) (oP:M1[i]?=cz m1:=by rfl) (ro:M1[j]?=cz m2:=by rfl)
  (yU:autoParam (X.fn x=p4\/X.env.scope.names.lookup x=cz .local) ZV._auto_1) (vJ:autoParam (X.fn y=p4\/X.env.scope.names.lookup y=cz .local) ZV._auto_1)
  (hl:(fQ [.Name x px,.Name y py] X.env).length=2:=by rfl) (pL:(fQ [.Name x px,.Name y py] X.env).findIdx? (·.1)=el:=by rfl)
  (hg1:PGs X [.Name x px,.Name y py] (V2 (J9 i) (V2 (J9 j) a9a)):=by exact m9 (w9 hN hi hx yU) (m9 (w9 hN hj hy vJ) F5))
  (hs:xO [.Tuple [.Name x px,.Name y py] pk pt] e pos.line X.env=pure rp:=by rfl) (hw:xP [.Tuple [.Name x px,.Name y py] pk pt] e X.env=pure el:=by rfl)
  (h1:(fQ [.Tuple [.Name x px,.Name y py] pk pt] X.env).map (·.2)=[ng (.Tuple [.Name x px,.Name y py] pk pt) X.env]:=by rfl) :
  PSX X u ML M (.Assign [.Tuple [.Name x px,.Name y py] pk pt] e pos) (a4a i j f) ((M1.set i (.own u1)).set j (.own u2)):=by
 obtain⟨te,pe,qe⟩:=he;refine .mk ⟨_,b0G pe (R6 hc hg1 hl pL) hs hw h1,λD U Y H P F o S hg k=>?_⟩;obtain⟨d,h1,g1⟩:=bnd hg;obtain⟨⟨d1,d2⟩,h2,g2⟩:=bnd g1;cases g2
 have hd:d=.tuple [d1,d2]:=by
  match d,h2 with
  |.tuple [a,b],h2=>cases h2;rfl
 subst hd;refine qe [] [] [] U Y H P F _ _ S.pend h1 λv H' F' e S'=>?_
 obtain⟨a,v1,v2,rfl,k1,S2⟩:=S'.untup hp;refine⟨a,_,rfl,k1,rfl,v1,[v2],rfl,v2,[],rfl,rfl,?_⟩;have S3:=S2.store (i:=j) rfl rfl ro;have s_:(M1.set j (.own u2))[i]?=cz m1:=by rw[ej (dc mK)];exact oP
 have S4:=(Pend.store (Mp:=[]) (Up:=[]) (Yp:=[]) (i:=i) S3 rfl rfl s_).st;rw[iJ _ _ (dc mK),iJ _ _ (dc mK),iJ _ _ (dc mK)]at S4;exact k _ _ F' S4
def j7(he:PMX X M e f u M1):PSX X u ML M (.Return (cz e) pos) (l5 f) M':=by
 obtain⟨te,pe,qe⟩:=he;refine .mk ⟨_,a6N pe,λD U Y H P F o S hg k=>?_⟩;obtain⟨d,h1,g1⟩:=bnd hg;cases g1
 refine qe [] [] [] U Y H P F d _ S.pend h1 λv H' F' e S'=>?_
 obtain⟨fp,o,nd,sub⟩:=S'.one;refine k v H' fp (o.frame (C8 sub) u λ_ _=>rfl) nd (λa ha=>?_) (S'.2.2.prot.trans i7);cases hP:P a with
 |none=>rfl
 |some o'=>
  have:=S'.2.2.prot _ _ hP;rw[V8 (sub a ha)]at this;cases this
def a4Y(he:PX X M e f c)(hs:fE e el pos.line X.env=pure rp:=by rfl):PSX X u ML M (.Expr e pos) (sEx f) M:=by
 obtain⟨te,pe,qe⟩:=he.out;refine .mk ⟨_,a0n pe hs,λD U Y H P F o S hg k=>?_⟩;obtain⟨d,h1,g1⟩:=bnd hg;cases g1
 exact qe U Y H P F d _ S.toE h1 λv H' e _=>k Y H' F (S.grow e)
def u9(hc:PTX X M c0 fc)(ha:PSsX X u ML M body g1 M')(hb:PSsX X u ML M Bs g2 M'):PSX X u ML M (.If c0 body Bs pos) (sIf fc g1 g2) M':=by
 obtain⟨tc,pc,qc⟩:=hc.out;obtain⟨ta,pa,qa⟩:=ha.out;obtain⟨tb,pb,qb⟩:=hb.out;refine .mk ⟨_,b0E pc pa pb,λD U Y H P F o S hg k=>?_⟩;obtain⟨b,h1,g1⟩:=bnd hg;refine qc U Y H P F b _ S.toE h1 λH1 e1=>?_
 cases b with
 |true=>exact a3C (qa D U Y H1 P F o (S.grow e1) g1 k)
 |false=>exact a3B (qb D U Y H1 P F o (S.grow e1) g1 k)
def b5x:PSX X u ML M st sNo M':=.mk ⟨_,b0F,λD U Y H P F o S hg k=>by cases hg⟩
def a9t(K:af)(M MB:List Md)(g:TG)(set:List D->D->Option (List D))(m:D->Prop):Prop:=
 ∀(U:List D) (Y:L2.St) (H P:Hp) (F:List av) (x:V) (d:D) (U':List D) (Q:L2.St->Hp->Prop),StR K M U Y H P F->Den K (cut H F) x d->m d->set U d=cz U'->(∀Y' F',StR K MB U' Y' H P F'->Q Y' H)->g x Y H Q
def mI(d:D):Prop:=imm d=p4
def mF(_:D):Prop:=True
def b1r(hm:M[i]?=cz m:=by rfl):a9t K M (M.set i (.own .f)) (J9 i) (D0 i) mF:=by
 intro U Y H P F x d U' Q S hd _ hs q;cases hs
 exact q _ _ (S.set (u:=.f) (fp:=[]) hm (Same.refl _) (by simp only[Own,cw];exact⟨trivial,hd⟩) bp λa ha=>(nomatch ha))
def P7(hm:M[i]?=cz m:=by rfl):a9t K M (M.set i (.own .i)) (J9 i) (D0 i) mI:=by
 intro U Y H P F x d U' Q S hd hi hs q;cases hs
 exact q _ _ (S.set (u:=.i) (fp:=[]) hm (Same.refl _) (by simp only[Own,cw];exact⟨trivial,hi,hd⟩) bp λa ha=>(nomatch ha))
def a4Z(hw:w=.f\/w=.i)(mK:i≠j:=by decide)(oP:M[i]?=cz m1:=by rfl)(ro:M[j]?=cz m2:=by rfl):a9t K M ((M.set i (.own w)).set j (.own w)) (b3v K 2 (V2 (J9 i) (V2 (J9 j) a9a))) (L3 i j) (λd=>w=.i->imm d=p4):=by
 intro U Y H P F x d U' Q S hd hi hs q;obtain⟨⟨d1,d2⟩,h2,g2⟩:=bnd hs;cases g2
 have tG:d=.tuple [d1,d2]:=by
  match d,h2 with
  |.tuple [a,b],h2=>cases h2;rfl
 subst tG;obtain⟨a,xs,rfl,k1,k2⟩:=hd.tup_inv;obtain⟨v1,v2,rfl,k3,k4⟩:=a0z k2;refine⟨a,_,rfl,P5 k1 i7,rfl,v1,[v2],rfl,v2,[],rfl,rfl,?_⟩;have o1:Own K H ([]++F) w v1 d1 []:=by
  rcases hw with rfl|rfl
  ·simp only[Own,cw];exact⟨trivial,k3⟩
  ·have:=hi rfl;simp only[imm,g8,aw]at this;simp only[Own,cw];exact⟨trivial,this.1,k3⟩
 have o2:Own K H ([]++([]++F)) w v2 d2 []:=by
  rcases hw with rfl|rfl
  ·simp only[Own,cw];exact⟨trivial,k4⟩
  ·have:=hi rfl;simp only[imm,g8,aw]at this;simp only[Own,cw];exact⟨trivial,this.2.1,k4⟩
 have S1:=S.set oP (Same.refl _) o1 bp λa ha=>(nomatch ha)
 exact q _ _ (S1.set (i:=j) (m:=m2) (by rw[ej mK];exact ro) (Same.refl _) o2 bp λa ha=>(nomatch ha))
def F9{set:List D->D->Option (List D)}{m:D->Prop}(hc:X.calm=p4)(hp:lJ (aT X.prog X.w) X.A X.env X.xe)(hi:PIX X M tg iter fi)(hg:PG X tg gt)(hs:a9t X.K M MB gt set m)(hm:∀U ds,fi U=cz ds->∀d∈ds,m d)(hb:PSsX X u M MB body g M)
  (hf:∀x,dR iter X.env x=pure x:=by intro _;rfl):PSX X u ML M (.For tg iter body [] pos) (D3 fi set g) M:=by
 obtain⟨wi,pi,qi⟩:=hi;obtain⟨tb,pb,qb⟩:=hb.out;refine .mk ⟨_,a4O hp hc pi hg pb hf,λD U Y H P F o S rA k=>?_⟩;obtain⟨ds,h1,g1⟩:=bnd rA;refine qi U Y H P F ds _ S.toE h1 λJ xs Pr H1 e1 hw sT hx=>?_
 have S1:=S.grow e1;have o_:=hx.length;refine⟨λi n Y' H'=>n=xs.length-i/\i<=xs.length/\∃U' F',StR X.K M U' Y' H' (cut H1 F) F'/\N5 set g (ds.drop i) U'=cz o,⟨xs.length,by simp,b_ _,U,F,⟨S1.all,S1.lst,Same.refl _⟩,g1⟩,?_⟩;rintro i n Y' H' ⟨rfl,hi,U',F',S',hfl⟩;have kH:Same (cut H1 F) (cut H' F'):=S'.prot;have q:=sT H' (kH.trans i7);by_cases gG:i<xs.length
 ·refine .inr ⟨hw.go i H' q gG,λY2 H2=>∃U2 F2,StR X.K M U2 Y2 H2 (cut H1 F) F2/\N5 set g (ds.drop (i+1)) U2=cz o,λY2 H2 ⟨U2,F2,S2,h2⟩=>⟨xs.length-(i+1),by lia,rfl,gG,U2,F2,S2,h2⟩,λx H2 hy=>?_⟩;obtain⟨rfl,qD⟩:=hw.yld i H' x H2 q gG hy;have lV:i<ds.length:=by lia
  have ly:ds.drop i=ds[i]::ds.drop (i+1):=dP lV;rw[ly]at hfl;obtain⟨U1,qF,g2⟩:=bnd (show (set U' ds[i]).bind _=cz o from hfl);obtain⟨o1,hg1,g3⟩:=bnd g2;obtain⟨d',pY,tE⟩:=(hx.up kH).getV qD;have lP:d'=ds[i]:=by rw[au lV]at pY;exact (aH pY).symm
  subst lP;refine hs U' Y' H2 (cut H1 F) F' x _ U1 _ S' tE (hm U ds h1 _ (cW lV)) qF λY3 F3 S3=>qb _ U1 Y3 H2 (cut H1 F) F3 o1 S3 hg1 ?_
  cases o1 with
  |nx U2=>exact λY4 H4 F4 S4=>⟨U2,F4,S4,g3⟩
  |ct U2=>exact λY4 H4 F4 S4=>⟨U2,F4,S4,g3⟩
  |bk U2=>
   have:o=.nx U2:=(aH g3).symm;subst this;exact λY4 H4 F4 S4=>k Y4 H4 F4 ⟨S4.all,S4.lst,S1.prot.trans S4.prot⟩
  |rt d=>
   have:o=.rt d:=(aH g3).symm;subst this;refine λv H4 fp o nd fr e=>k v H4 fp o nd (λa ha=>?_) (S1.prot.trans e)
   exact S1.prot.free (fr a ha)
 ·have e:i=xs.length:=by lia
  subst e;rw[o_,iH]at hfl;have:o=.nx U':=(aH hfl).symm;subst this;exact .inl ⟨hw.stop _ H' q (aB _),k Y' H' F' ⟨S'.all,S'.lst,S1.prot.trans S'.prot⟩⟩
def a5P(n:List D->Nat)(hp:lJ (aT X.prog X.w) X.A X.env X.xe)(hc:PTX X M c0 fc)(hb:PSsX X u M M body g M):PSX X u ML M (.While c0 body [] pos) (sWh n fc g) M:=by
 obtain⟨tc,pc,qc⟩:=hc.out;obtain⟨tb,pb,qb⟩:=hb.out;refine .mk ⟨_,b0I hp pc pb,λD U Y H P F o S rA k=>?_⟩;refine⟨λn Y' H'=>∃U' F',StR X.K M U' Y' H' P F'/\whL fc g n U'=cz o,⟨n U,U,F,S,rA⟩,?_⟩;rintro n Y' H' ⟨U',F',S',hw⟩;cases n with
 |zero=>cases hw
 |succ n=>
  obtain⟨b,h1,g1⟩:=bnd (show (fc U').bind _=cz o from hw);refine qc U' Y' H' P F' b _ S'.toE h1 λH1 e1=>?_
  cases b with
  |true=>
   refine a3C ⟨λY2 H2=>∃U2 F2,StR X.K M U2 Y2 H2 P F2/\whL fc g n U2=cz o,λY2 H2 z=>⟨n,ka _,z⟩,?_⟩;obtain⟨o1,hg1,g3⟩:=bnd (show (g U').bind _=cz o from g1);refine qb _ U' Y' H1 P F' o1 (S'.grow e1) hg1 ?_;cases o1 with
   |nx U2=>exact λY4 H4 F4 S4=>⟨U2,F4,S4,g3⟩
   |ct U2=>exact λY4 H4 F4 S4=>⟨U2,F4,S4,g3⟩
   |bk U2=>
    have:o=.nx U2:=(aH g3).symm;subst this;exact λY4 H4 F4 S4=>k Y4 H4 F4 S4
   |rt d=>
    have:o=.rt d:=(aH g3).symm;subst this;exact k
  |false=>
   have:o=.nx U':=(aH g1).symm;subst this;exact a3B (k Y' H1 F' (S'.grow e1))
end
abbrev EvP:=List D->Option (List Nat)
def PPX(X:Cx)(M:List Md)(e:Expr)(i:Nat)(f:EvP):Prop:=
 ∃t,PE X e t/\∀(U:List D) (Y:L2.St) (H P:Hp) (F:List av) (p:List Nat) (Q:VK),StE X.K M U Y H P F->f U=cz p->(∀v v0 H',Same H H'->Y[i]?=cz (cz v0)->wk H' v0 p v->Q v H')->t Y H Q
def o8:EvP:=λ_=>cz []
def a0C(u:Ty)(d:D)(p:List Nat):Option (List D):=(dAt u d p).bind λtd=>match td with
 | (.l _,.list ds)=>cz ds
 | (.tp _,.tuple ds)=>cz ds
 |_=>el
def pIx(i:Nat)(u:Ty)(fp:EvP)(fb:EvE):EvP:=λU=>(fp U).bind λp=>(a0C u (U.getD i .none) p).bind λds=>(fb U).bind λy=>(asI y).bind λk=>(ixN ds.length k).bind λj=>cz (p++[j])
section
variable {K:af}{H:Hp}{F:List av}
theorem Own.sub:∀(p:List Nat) {u t:Ty} {v w:V} {d d':D} {fp:List av},Own K H F u v d fp->dAt u d p=cz (t,d')->wk H v p w->∃f',Own K H F t w d' f'
 |[],u,t,v,w,d,d',fp,h,hd,hw=>by
  have lP:cz (u,d)=cz (t,d'):=hd;cases lP
  have yi:w=v:=hw;subst yi;exact⟨fp,h⟩
 |j::p,u,t,v,w,d,d',fp,h,hd,hw=>by
  obtain⟨a0,rT,v1,rfl,ug,rz,hw⟩:=hw;cases u with
  |l u=>
   cases d with
   |list es=>
    obtain⟨d1,g1,g2⟩:=bnd (show (es[j]?).bind (λd=>dAt u d p)=cz (t,d') from hd);simp only[Own]at h;rcases h with⟨_,hi,_⟩|⟨a,xs,eJ,fs,e0,h1,h2,rfl,h3⟩
    ·simp only[imm]at hi;cases hi
    ·cases h2
     cases e0
     have sO:rT=xs:=by rcases ug with z|z<;>rw[h1]at z<;>cases z;rfl
     subst sO;obtain⟨v2,f,pre,post,z1,z2,rfl,_⟩:=h3.zip g1;rw[rz]at z1;cases z1
     exact Own.sub p z2 g2 hw
   |_=>cases hd
  |tp us=>
   cases d with
   |tuple es=>
    obtain⟨u1,g0,zw⟩:=bnd (show (us[j]?).bind (λu=>(es[j]?).bind λd=>dAt u d p)=cz (t,d') from hd);obtain⟨d1,g1,g2⟩:=bnd zw;simp only[Own]at h;rcases h with⟨_,hi,_⟩|⟨a,xs,eJ,e0,h1,h0,h2,h3⟩
    ·exact (hi.2 _ rfl).elim
    cases h2
    cases e0
    have sO:rT=xs:=by rcases ug with z|z<;>rw[h1]at z<;>cases z;rfl
    subst sO;obtain⟨v2,f,pre,post,z1,z2,rfl,_⟩:=h3.zip g0 g1;rw[rz]at z1;cases z1
    exact Own.sub p z2 g2 hw
   |_=>cases hd
  |i=>cases hd
  |f=>cases hd
  |d kt u=>cases hd
def b1s{fp p}(h:Own K H F u v d fp)(hi:a0C u d p=cz ds)(hw:wk H v p w):∃a xs,w=.ref a/\(H a=cz (.lst xs)\/H a=cz (.tup xs))/\xs.length=ds.length:=by
 obtain⟨⟨t,d'⟩,h1,h2⟩:=bnd hi;obtain⟨f',o⟩:=h.sub p h1 hw
 match t,d',h2 with
 |.l t,.list es,h2=>
  cases h2
  simp only[Own]at o;rcases o with⟨_,hi,_⟩|⟨a,xs,eJ,fs,e0,h1,h2,rfl,h3⟩
  ·simp only[imm]at hi;cases hi
  ·cases h2
   exact⟨a,xs,e0,.inl h1,h3.length⟩
 |.tp us,.tuple es,h2=>
  cases h2
  simp only[Own]at o;rcases o with⟨_,hi,_⟩|⟨a,xs,eJ,e0,h1,h0,h2,h3⟩
  ·exact (hi.2 _ rfl).elim
  cases h2
  exact⟨a,xs,e0,.inr h1,by rw[h3.len.1,h3.len.2]⟩
end
section
variable {X:Cx}{u t w:Ty}{ML M M1 M':List Md}{e b pl:Expr}{f fb:EvE}{fp:EvP}{cb:Cat}{pos apos cF:eM}
def G0(i:Nat)(hN:X.N[i]?=cz x:=by rfl)(hv:autoParam (NmV X x) ZY._auto_1)(hm:M[i]?=cz (.own u):=by rfl):PPX X M (.Name x pos) i o8:=by
 refine⟨_,C4 hN hv.1 hv.2.1 hv.2.2,λU Y H P F p Q S hf k=>?_⟩;cases hf
 obtain⟨v,f,e,_⟩:=S.get hm;exact⟨v,e,k v v H (Same.refl _) e rfl⟩
def b6C(h:PPX X M pl i fp)(hb:PX X M b fb cb)(hm:M[i]?=cz (.own u):=by rfl)(hs:a0r b:=by exact λ_ _=>rfl):PPX X M (.Subscript pl b pos) i (pIx i u fp fb):=by
 obtain⟨ta,pa,qa⟩:=h;obtain⟨tb,pb,qb⟩:=hb.out;refine⟨_,a8l a4X pa pb hs,λU Y H P F p Q S hf k=>?_⟩;obtain⟨p0,h1,g1⟩:=bnd hf;obtain⟨ds,h2,g2⟩:=bnd g1;obtain⟨y,h3,g3⟩:=bnd g2;obtain⟨kk,h4,g4⟩:=bnd g3;cases a0A h4
 obtain⟨j,h5,g5⟩:=bnd g4;cases g5
 refine qa U Y H P F p0 _ S h1 λv v0 H1 e1 vd hw=>qb U Y H1 P F _ _ (S.grow e1) h3 λwv H2 e2 r2=>?_
 obtain⟨v',f',e',o,_⟩:=(S.grow (e1.trans e2)).get hm;rw[vd]at e';cases e'
 have Ai:=b1p e2 hw;obtain⟨a,xs,rfl,hh,hl⟩:=b1s o h2 Ai;have hj:j<ds.length:=by
  obtain⟨_,z,_,_⟩:=a8j h5;exact z
 obtain⟨xj,hx⟩:∃xj,xs[j]?=cz xj:=⟨_,au (by lia)⟩;have ja:L2.atI xs kk=cz xj:=by unfold L2.atI;rw[hl,h5];exact hx
 have fin:=k xj v0 H2 (e1.trans e2) vd (a8t Ai rfl hh hx);rcases hh with hh|hh
 ·exact .inl ⟨a,xs,kk,_,rfl,r2.den.int_inv,.inl (.inl hh),ja,fin⟩
 ·exact .inr ⟨a,xs,kk,_,rfl,r2.den.int_inv,.inl (.inl hh),ja,fin⟩
def A5(i:Nat)(u:Ty)(fp:EvP)(fe:EvE):EvS:=λU=>(fp U).bind λp=>(a0C u (U.getD i .none) p).bind λds=>(fe U).bind λd=>if ds.length<1000000 then cz (.nx (U.set i (a2x (U.getD i .none) p (.list (ds++[d]))))) else el
def b6D(u:Ty)(fp:EvP)(t:Ty):Prop:=∀U p d td,fp U=cz p->dAt u d p=cz td->td.1=.l t
def Z2:b6D (.l t) o8 t:=λU p d td h1 h2=>by
 cases h1
 have jV:cz (Ty.l t,d)=cz td:=h2;cases jV
 rfl
def b8B{i:Nat}{us:List Ty}{k:Nat}(h:us[k]?=cz (.l t))(D_:∀U,fb U=cz (.int k)):b6D (.tp us) (pIx i (.tp us) o8 fb) t:=λU p d td h1 h2=>by
 obtain⟨p0,k1,g1⟩:=bnd h1;cases k1
 obtain⟨ds,k2,g2⟩:=bnd g1;obtain⟨y,k3,g3⟩:=bnd g2;rw[D_ U]at k3;cases k3
 obtain⟨kk,k4,g4⟩:=bnd g3;cases k4
 obtain⟨j,k5,g5⟩:=bnd g4;cases g5
 have hj:j=k:=by
  unfold ixN at k5;rw[aG (by lia)]at k5
  split at k5
  ·have:=aH k5;lia
  ·cases k5
 subst hj;cases d with
 |tuple es=>
  obtain⟨u1,z0,BR⟩:=bnd (show (us[j]?).bind (λu=>(es[j]?).bind λd=>dAt u d [])=cz td from h2);obtain⟨d1,z1,z2⟩:=bnd BR;rw[h]at z0;cases z0
  have BQ:cz (Ty.l t,d1)=cz td:=z2;cases BQ
  rfl
 |_=>cases h2
def b3V{p:List Nat}{ds:List D}(ht:∀td,dAt u d p=cz td->td.1=.l t)(hi:a0C u d p=cz ds):dAt u d p=cz (.l t,.list ds):=by
 obtain⟨⟨t',d'⟩,h1,h2⟩:=bnd hi;have e:t'=.l t:=ht _ h1;subst e;cases d' with
 |list es=>cases h2;exact h1
 |_=>cases h2
def N6(i:Nat)(hp:PPX X M pl i fp)(he:PMX X M e f t M1)(ht:b6D u fp t)(hm:M[i]?=cz (.own u):=by rfl)(oP:M1[i]?=cz (.own u):=by rfl)
  (eD:cZ pl "append" X.env (cy pl X.env)=cy pl X.env:=by rfl)
  (lr:((cB cF (ax [e] X.env)).all (λx=>!x.1)&&(qw cF (kF [] X.env)).all (λx=>x.1.isSome)
   && decide ([e].length+([]:List iQ).length+(if ([]:List iQ).isEmpty then 0 else 1)<30))=p4:=by rfl)
  (eB:(apos.endLine==cF.line)=p4:=by rfl) (hs:ax [e] X.env=(rp,cy e X.env)::ax [] X.env:=by rfl) (ig:(cB cF (ax [] X.env)).any (·.1)=rp:=by rfl)
  (oI:fE (.Call (.Attribute pl "append" apos) [e] [] cF) el pos.line X.env=pure rp:=by rfl) :
  PSX X w ML M (.Expr (.Call (.Attribute pl "append" apos) [e] [] cF) pos) (A5 i u fp f) M1:=by
 obtain⟨tp,pp,qp⟩:=hp;obtain⟨te,pe,qe⟩:=he;refine .mk ⟨_,a0n (b5u hZ rN rL a1g pp (m5 pe s9 hs) eD lr eB hs ig) oI,λD U Y H P F o S hg k=>?_⟩;obtain⟨p,h1,g1⟩:=bnd hg;obtain⟨ds,h2,g2⟩:=bnd g1;obtain⟨d,h3,g3⟩:=bnd g2;by_cases hz:ds.length<1000000
 ·rw[aG hz]at g3;cases g3
  refine qp U Y H P F p _ S.toE h1 λv v0 H1 e1 vd hw=>?_
  have S1:=S.grow e1;obtain⟨v',f',e',o,_⟩:=S1.toE.get hm;rw[vd]at e';cases e'
  have AR:=b3V (λtd z=>ht U p _ td h1 z) h2;obtain⟨b,xs,fs,pre,post,rfl,r2,_,_,_⟩:=o.path p AR hw;refine⟨.inl ⟨rfl,xs,SqL.of r2⟩,qe [] [] [] U Y H1 P F d _ S1.pend h3 λv1 H2 F2 e2 S2=>?_⟩;obtain⟨b',kZ,e',Ci,hl,S3,_⟩:=S2.put oP vd AR (b1p e2 hw);cases e'
  refine⟨b,kZ,v1,rfl,rfl,Ci,?_,k Y _ F2 S3⟩;rw[hl];exact fu hz (by rw[cM];decide)
 ·rw[aL hz]at g3;cases g3
def a0d(i:Nat)(hN:X.N.Nodup)(hc:X.calm=p4)
  (hi:PIX X M tg iter fi) (C:X3 scope X.env.kindOf ys js X.N=p4) (hg:∀cl Cl s H fp,PG (O1 X (tn++ys) scope cl Cl s H fp) tg g) (vI:TgR X.K g n pt) (DF:mm=.i\/mm=.f)
  (pO:mm=.i->∀U ds,fi U=cz ds->∀d∈ds,∀bs,pt d=cz bs->g8 bs=p4) (vg:tn.length=n)
  (ht:∀cl Cl s H fp,PTs (O1 X (tn++ys) scope cl Cl s H fp) ifs (spT X.K (W1 (.own mm) n M js) ft)) (he:∀cl Cl s H fp,PX (O1 X (tn++ys) scope cl Cl s H fp) (W1 (.own mm) n M js) elt fe (.new t))
  (qD:X.N[i]?=cz x:=by rfl) (hx:autoParam (Loc X.env.scope x) ZW._auto_1) (hm:M[i]?=cz m:=by rfl)
  (oI:fE (.ListComp elt [⟨tg,iter,ifs,0⟩] scope cps) (cz (.Name x px)) pos.line X.env=pure p4:=by rfl) (hs:∀x,dR iter X.env x=pure x:=by intro _;rfl)
  (hf:autoParam (X.fn x=p4\/X.env.scope.names.lookup x=cz .local) ZV._auto_1) :
  PSX X w ML M (.Assign [.Name x px] (.ListComp elt [⟨tg,iter,ifs,0⟩] scope cps) pos) (l0 i (n6 fi js pt ft fe)) (M.set i (.own (.l t))):=by
 obtain⟨wi,pi,qi⟩:=hi;refine .mk ⟨_,a5B (te:=spE X.K (W1 (.own mm) n M js) fe (.new t)) hc hN qD hx pi C hg ht he oI hs hf,λD U Y H P F o S pf k=>?_⟩;obtain⟨d,h1,g1⟩:=bnd pf;cases g1
 exact a3Z qi vI DF pO vg S.toE h1 λv H' e ⟨fp,o,nd,fr⟩=>k _ _ _ (S.set hm e o nd fr)
end
def argsOk:List Ty->List D->Bool
 |[],[]=>p4
 |.i::us,d::ds=>imm d&&argsOk us ds
 |.f::us,_::ds=>argsOk us ds
 |_,_=>rp
noncomputable def fnD(us:List Ty)(n:Nat)(g:EvS):List D->Option D:=λds=>if argsOk us ds then (g (ds++aN n .none)).bind λo=>match o with
 |.rt d=>cz d
 |_=>el
 else el
theorem S8:∀{us:List Ty} {vs:List V} {ds:List D},argsOk us ds=p4->DenAll K H vs ds->∀n,StAll K H [] (us.map .own++aN n .dead) (ds++aN n .none) (vs.map cz++aN n el) []
 |[],vs,[],_,hd,n=>by
  rw[hd.nil_inv]
  induction n with
  |zero=>exact L8
  |succ n ih=>exact k7 (K:=K) (H:=H) (F:=[]) (m:=.dead) (f:=[]) rfl ih
 |.i::us,vs,d::ds,h,hd,n=>by
  have h':imm d=p4/\argsOk us ds=p4:=by simpa[argsOk]using h
  obtain⟨v,r,rfl,h1,h2⟩:=hd.cons_inv;refine k7 (K:=K) (H:=H) (F:=[]) (m:=.own .i) (f:=[]) ⟨v,rfl,?_⟩ (S8 h'.2 h2 n);simp only[Own,K8];exact⟨trivial,h'.1,h1⟩
 |.f::us,vs,d::ds,h,hd,n=>by
  have h':argsOk us ds=p4:=by simpa[argsOk]using h
  obtain⟨v,r,rfl,h1,h2⟩:=hd.cons_inv;refine k7 (K:=K) (H:=H) (F:=[]) (m:=.own .f) (f:=[]) ⟨v,rfl,?_⟩ (S8 h' h2 n);simp only[Own,K8];exact⟨trivial,h1⟩
 |.l _::us,vs,d::ds,h,_,_=>by simp[argsOk]at h
 |.tp _::us,vs,d::ds,h,_,_=>by simp[argsOk]at h
 |.d _ _::us,vs,d::ds,h,_,_=>by simp[argsOk]at h
 |[],vs,d::ds,h,_,_=>by simp[argsOk]at h
 |.i::us,vs,[],h,_,_=>by simp[argsOk]at h
 |.f::us,vs,[],h,_,_=>by simp[argsOk]at h
 |.l _::us,vs,[],h,_,_=>by simp[argsOk]at h
 |.tp _::us,vs,[],h,_,_=>by simp[argsOk]at h
 |.d _ _::us,vs,[],h,_,_=>by simp[argsOk]at h
open PyProof.Rows in
def b3W{P:bw}{w:bO}{K:af}{mg:bH->Option ai}{base:bR}{x:bH}{st:g_}{f:av}{fd:dB}{N ps:List bH}{k n:Nat}{us:List Ty}{u:Ty}{g:EvS}{M':List Md}(F:Fun K x x st f fd)(S:FnScope N ps (i9 st))(mz:us.length=ps.length)(hn:N.length=ps.length+n)
  (hb:∀(gg:ai) (A:bC) (outer:List ox) (s:ar) (H:Hp) (E:XK),Room k (A.deeper (jb x (i9 st) s.heap.objs.size f gg))->PSsX (a0q CX0 P w K mg base N x (i9 st) f gg A outer s H E).nox u [] (us.map .own++aN n .dead) (y7 st) g M') :
  FnOk P w K mg base CX0 (k+1) f fd ps (spD K ps.length (fnD us n g) u):=by
 refine F.ok S (λvs H Q E h=>?_) (λgg A outer s H vs Q E hr h=>?_)
 ·obtain⟨ds,d,hl,_⟩:=h;exact hl
 obtain⟨ds,d,hl,hd,hm,q⟩:=h;obtain⟨t,p,r⟩:=(hb gg A outer s H E hr).out;refine⟨t,p,?_⟩;unfold fnD at hm;by_cases ha:argsOk us ds=p4
 ·rw[aG ha]at hm;obtain⟨o,h1,h2⟩:=bnd hm;cases o with
  |rt d'=>
   have jV:cz d'=cz d:=h2;cases jV
   have e:L2.start N vs=vs.map cz++aN n el:=by
    unfold L2.start;rw[show N.length-vs.length=n by lia]
   rw[e];refine r _ (ds++aN n gQ) _ H H [] (.rt d) ⟨⟨[],S8 ha hd n,bp,λa ha=>(nomatch ha)⟩,λa ha=>(nomatch ha),by rw[K8];exact Same.refl H⟩ h1 ?_;exact λv H' fp o nd fr e=>q v H' fp e o nd fr
  |_=>cases h2
 ·rw[aL ha]at hm;cases hm
end VS
namespace VS
open PySem PySem.Spec L2 PyProof.Rows
def G5(K:af):List (bH×av):=M7.filterMap λx=>(C3 K x).map λp=>(x,p)
def a1k:List av->Bool
 |[]=>p4
 |a::r=>!r.contains a&&a1k r
def a2y(K:af)(names:List bH):Bool:=a1k ((G5 K).map (·.2))&&(G5 K).all λt=>(K.lookup t.2).isNone&&names.contains t.1
theorem a2z:∀{l:List (bH×av)} {x y:bH} {p:av},a1k (l.map (·.2))=p4->(x,p)∈l->(y,p)∈l->x=y
 |[],_,_,_,_,h,_=>(nomatch h)
 | (z,q)::l,x,y,p,h,h1,h2=>by
  have h':((l.map (·.2)).contains q=rp)/\a1k (l.map (·.2))=p4:=by simpa[a1k]using h
  have zY:∀w,(w,q)∉l:=λw hw=>by
   have:(l.map (·.2)).contains q=p4:=by
    rw[uB];exact aR.mpr ⟨(w,q),hw,rfl⟩
   rw[h'.1]at this;cases this
  rcases aC.mp h1 with e1|e1
  ·rcases aC.mp h2 with e2|e2
   ·cases e1;cases e2;rfl
   ·cases e1;exact absurd e2 (zY y)
  ·rcases aC.mp h2 with e2|e2
   ·cases e2;exact absurd e1 (zY x)
   ·exact a2z h'.2 e1 e2
def a1E{K:af}{x:bH}{p:av}(hx:x∈M7)(h:C3 K x=cz p):(x,p)∈G5 K:=
 dX.mpr ⟨x,hx,by rw[h];rfl⟩
def E2{K:af}{x:bH}{p:av}(h:(x,p)∈G5 K):x∈M7/\C3 K x=cz p:=by
 obtain⟨y,hy,e⟩:=dX.mp h;cases q:C3 K y with
 |none=>rw[q]at e;cases e
 |some r=>
  rw[q]at e;have e':(y,r)=(x,p):=aH e;cases e'
  exact⟨hy,q⟩
def a7f{K:af}(e:a4K K cd=cz p)(X:K.In h):∃c,cd=.ref c/\gu h c p:=by
 unfold a4K at e
 split at e
 ·rename_i c
  split at e
  ·rename_i n dd vs sl hc
   split at e
   ·rename_i hn
    split at e
    ·rename_i P' file tf flags tg ud text tt Bl ET h7 h9 EU
     split at e
     ·rename_i gC
      cases e
      have en:n="code":=by simpa using hn
      subst en;refine⟨c,rfl,_,vs,file,tf,flags,tg,ud,text,tt,X _ _ hc,rfl,rfl,Bl,?_,?_,?_,?_,?_,bne_iff_ne.mp gC⟩
      ·simp[eO,Bl]
      ·simp[eO,ET]
      ·simp[eO,h7]
      ·simp[eO,h9]
      ·simp[eO,EU]
     ·cases e
    ·cases e
   ·cases e
  ·cases e
 ·cases e
def a4b{K:af}{h:bR}(e:C3 K x=cz p)(X:K.In h)(G:h.Ns bL mg) :
  ∃f oc od fd sl c,mg x=cz (.ref f)/\K.lookup f=cz ⟨oc,od,.func fd,sl⟩/\fd.code=.ref c/\gu h c p:=by
 unfold C3 at e
 split at e
 ·rename_i f hf
  split at e
  ·rename_i oc od fd sl hl
   obtain⟨c,hc,hd⟩:=a7f e X;exact⟨f,oc,od,fd,sl,c,jQ X G hf,hl,hc,hd⟩
  ·cases e
 ·cases e
def Tab0(K:af)(h:bR):Prop:=∀x∈M7,∀p,C3 K x=cz p->isCodeTable h p/\h.get? p=cz {cls:=.none,data:=.fields #[]}
def b3X{q:bw}{loose:List bH}{xZ:ExcName->Option ai}{mg mb:bH->Option ai}{h:bR}{K:af}(T:Top q loose xZ mg mb h)(X:K.In h)(ok:a2y K ((recsOf q).map (·.name))=p4):Tab0 K h:=λx hx p e=>by
 have hm:=a1E hx e;have hn:((K.lookup p).isNone&&((recsOf q).map (·.name)).contains x)=p4:=by
  unfold a2y at ok;rw[aw]at ok;exact bj.mp ok.2 _ hm
 rw[aw,uB]at hn;obtain⟨d,hd,rfl⟩:=aR.mp hn.2;obtain⟨f,oc,od,fd,sl,c,h1,h2,h3,h4⟩:=a4b e X T.g;obtain⟨a,o,Bp,c',P',z1,z2,z3,z4,z5,z6⟩:=T.tab d hd;rw[h1]at z1;cases z1
 rw[X _ _ h2]at z2;cases z2
 have BP:Data.func fd=Data.func Bp:=z3;cases BP
 rw[h3]at z4;cases z4
 obtain⟨ob,vs,file,tf,flags,tg,ud,text,tt,y1,y2,y3,y4,_⟩:=h4;obtain⟨⟨FX,FN,w1,w2,w3,w4⟩,w5⟩:=id z6;rw[y1]at w1;cases w1
 rw[y3]at w3;cases w3
 rw[y4]at w4;cases w4
 exact⟨z6.isCodeTable,w5⟩
def O2(K:af)(H:Hp):Hp:=λb=>match (G5 K).find? λt=>t.2==b with
 |some t=>cz (.tbl #[.str (V0 t.1) 0])
 |none=>H b
def a9u{K:af}{s₁:ar}{vs:List ai} 
  (KX:K.In s₁.heap) (og:s₁.heap.Ns bL mg) (hb:s₁.heap.Ns jY mb) (Et:∀x:bH,x≠"__name__"->mb x=gh x) (yJ:s₁.heap.NoLimit) (hg:s₁.gens=#[])
  (Er:∃bm ob,mg "__builtins__"=cz (.ref bm)/\bm≠jY/\s₁.heap.get? bm=cz ob/\ob.cls=.type "module"/\ob.dict=cz jY/\ob.data=.plain)
  (rj:Tab0 K s₁.heap) (oM:a2y K names=p4)
  (ha:s₁.heap.get? a=cz {cls:=.type "list",data:=.seq vs.toArray}) (hi:IntsAre vs ns) (hl:ns.length<=aP) (hr:Room k nJ)
  (F:∀base:bR,K.In base->base.Ns bL mg->FnOk P w K mg base CX k fa fd [x] sp) (m_:∀(s:ar) (u:ai),nK s fd ⟨[u],[]⟩ [(x,u)])
  (pM:∀H:Hp,SqX K H a (ns.map V.int)->sp [.ref a] H (λv _=>v=.bl p4) λ_ _ _=>False)
  (zq:∀H e s',CX [] H s₁ (λ_ _ _=>False) e s'->False) :
  gH (aT P w) nJ (.call (.ref fa) ⟨[.ref a],[]⟩) (λr s'=>r=.ok (.ret (.bool p4))/\OldK s₁.heap s'.heap/\s'.os=s₁.os/\oy s'.gens) s₁:=by
 have rv:=vals_ints hi;have ya:=hi.length;have Cy:a1k ((G5 K).map (·.2))=p4:=by unfold a2y at oM;rw[aw]at oM;exact oM.1
 have Cw:∀t∈G5 K,K.lookup t.2=el:=λt ht=>by
  unfold a2y at oM;rw[aw]at oM;have:=bj.mp oM.2 t ht;rw[aw]at this;exact Option.isNone_iff_eq_none.mp this.1
 have core:∀H0:Hp,SqX K H0 a (ns.map V.int)->HOk P w H0 s₁.heap->(∀b u,H0 b=cz u->b=a/\∃o xs,u=.frz o (.lst xs))->(H0 a≠el->K.lookup a=el)->
   gH (aT P w) nJ (.call (.ref fa) ⟨[.ref a],[]⟩) (λr s'=>r=.ok (.ret (.bool p4))/\OldK s₁.heap s'.heap/\s'.os=s₁.os/\oy s'.gens) s₁:=by
  intro H0 hS hok hA hK;have km:∀b u,O2 K H0 b=cz u->(∃x,(x,b)∈G5 K/\u=.tbl #[.str (V0 x) 0])\/((∀x,(x,b)∉G5 K)/\H0 b=cz u):=λb u e=>by
   unfold O2 at e
   split at e
   ·rename_i t ht
    cases e
    have h1:=qR ht;have h2:t.2=b:=kn.mp (GQ (p:=λt:bH×av=>t.2==b) ht);refine .inl ⟨t.1,?_,rfl⟩;rw[<-h2];exact h1
   ·rename_i ht
    refine .inr ⟨λx hx=>?_,e⟩;have:=fT.mp ht _ hx;simp at this
  have tabAt:∀x p,(x,p)∈G5 K->O2 K H0 p=cz (.tbl #[.str (V0 x) 0]):=λx p hm=>by
   cases e:O2 K H0 p with
   |none=>
    unfold O2 at e
    split at e
    ·cases e
    ·rename_i ht
     have:=fT.mp ht _ hm;simp at this
   |some u=>
    rcases km p u e with⟨y,hy,rfl⟩|⟨hn,_⟩
    ·rw[a2z Cy hm hy]
    ·exact absurd hm (hn x)
  have nA:∀x,(x,a)∉G5 K:=λx hx=>by
   have:=(rj x (E2 hx).1 a (E2 hx).2).2;rw[ha]at this;cases this
  have BA:O2 K H0 a=H0 a:=by
   cases e:O2 K H0 a with
   |none=>
    unfold O2 at e
    split at e
    ·cases e
    ·exact e.symm
   |some u=>
    rcases km a u e with⟨y,hy,_⟩|⟨_,h⟩
    ·exact absurd hy (nA y)
    ·exact h.symm
  have mD:SqX K (O2 K H0) a (ns.map V.int):=by
   rcases hS with (h|⟨o,h⟩)|h
   ·exact .inl (.inl (BA.trans h))
   ·exact .inl (.inr ⟨o,BA.trans h⟩)
   ·exact .inr h
  have pP:HOk P w (O2 K H0) s₁.heap:=λb u e=>by
   rcases km b u e with⟨x,hx,rfl⟩|⟨hn,h⟩
   ·obtain⟨h1,h2⟩:=E2 hx;exact⟨#[],(rj x h1 b h2).2,trivial,λpos cv z=>by cases z⟩
   ·obtain⟨rfl,o,xs,rfl⟩:=hA b u h;obtain⟨h1,h2⟩:=hok _ _ h;obtain⟨z,cK,n,r,e'⟩:=h2;exact⟨h1,z,cK,n,r,e'⟩
  have mE:∀{b:av} {o:fD},s₁.heap.get? b=cz o->O2 K H0 b=el->(a4J s₁.heap (O2 K H0)).get? b=cz o:=λe n=>b0B e n
  have noT:∀{b:av} {o:fD},s₁.heap.get? b=cz o->(∀ps,o.data≠.fields ps)->(∀cK n,o.data≠.seq cK n)->O2 K H0 b=el:=λ{b o} e d1 d2=>by
   cases q:O2 K H0 b with
   |none=>rfl
   |some u=>
    rcases km b u q with⟨x,hx,rfl⟩|⟨hn,h⟩
    ·have:=(rj x (E2 hx).1 b (E2 hx).2).2;rw[e]at this;cases this
     exact absurd rfl (d1 _)
    ·obtain⟨rfl,_⟩:=hA b u h;rw[ha]at e;cases e
     exact absurd rfl (d2 _ _)
  have wL:∀{b:av} {m:bH->Option ai},s₁.heap.Ns b m->(a4J s₁.heap (O2 K H0)).Ns b m:=λ{b m} ⟨o,es,ep,e,d,r⟩=>⟨o,es,ep,mE e (noT e (λps z=>by rw[d]at z;cases z) λcK n z=>by rw[d]at z;cases z),d,r⟩
  have Bc:K.In (a4J s₁.heap (O2 K H0)):=λb o e=>mE (KX b o e) (by
   cases q:O2 K H0 b with
   |none=>rfl
   |some u=>
    rcases km b u q with⟨x,hx,rfl⟩|⟨hn,h⟩
    ·rw[Cw _ hx]at e;cases e
    ·obtain⟨rfl,_⟩:=hA b u h;rw[hK (by rw[h];simp)]at e;cases e)
  have hM:Mod K mg (a4J s₁.heap (O2 K H0)):=⟨Bc,wL og,⟨mb,wL hb,Et⟩,let⟨mc,h1,h2⟩:=yJ;⟨mc,wL h1,h2⟩,
   let⟨bm,ob,b1,b2,b3,b4,b5,b6⟩:=Er;⟨bm,ob,b1,b2,mE b3 (noT b3 (λps z=>by rw[b6]at z;cases z) λcK n z=>by rw[b6]at z;cases z),b4,b5,b6⟩⟩
  have e0:Env0 P w K mg (a4J s₁.heap (O2 K H0)) nJ [] s₁ (O2 K H0):=⟨rfl,hM,λb o e=>b3p e,Nat.le_of_eq (a8Y _ _),trivial,λb hb=>absurd (show b∈([]:List av) from hb) (by simp),pP,.of_eq hg,
   λx hx p e=>⟨_,0,tabAt x p (a1E hx e),rfl⟩⟩
  refine fG ((F _ Bc (wL og)).run nJ [] s₁ (O2 K H0) ⟨[.ref a],[]⟩ [.ref a] [.ref a] _ _ hr e0 (m_ s₁ (.ref a)) (.cons rfl .nil) (pM _ mD)) λr s' h=>?_
  cases r with
  |error e=>exact (zq _ e s' h).elim
  |ok fl=>
   cases fl with
   |next=>exact cG h
   |brk=>exact cG h
   |cont=>exact cG h
   |ret u=>
    obtain⟨v,H',os,bare,un,oK,r',q⟩:=h;have q':v=.bl p4:=q;subst q';obtain rfl:u=jq p4:=r';refine⟨rfl,⟨λb o e=>?_,λb o e=>un.there b o e (by simp)⟩,os,bare⟩;cases q:O2 K H0 b with
    |none=>exact .inl (un.keep b o e q (by intro z;exact absurd (show b∈([]:List av) from z) (by simp)) (by simp))
    |some u=>
     rcases km b u q with⟨x,hx,rfl⟩|⟨hn,h⟩
     ·obtain⟨t1,t2⟩:=rj x (E2 hx).1 b (E2 hx).2;rw[e]at t2;cases t2
      obtain⟨more,e2⟩:=un.tbls b _ q;obtain⟨ps,e3,_⟩:=(show a5x H' s'.heap b _ from oK b _ e2);exact .inr (.inl ⟨t1,rfl,#[],ps,rfl,by simpa using e3⟩)
     ·obtain⟨rfl,ob,xs,rfl⟩:=hA b u h;have z2:=un.frzs b ob _ q;obtain⟨e1,_⟩:=pP b _ q;obtain⟨e2,_⟩:=oK b _ z2;rw[e]at e1;cases e1;exact .inl e2
 cases hk:K.lookup a with
 |some o=>
  have e:=KX a o hk;rw[ha]at e;cases e
  refine core (λ_=>el) (.inr ⟨vs,_,hk,by rw[ya];exact hl,rv⟩) (λb u z=>by have z':(el:Option HO)=cz u:=z;cases z') (λb u z=>by have z':(el:Option HO)=cz u:=z;cases z') λz=>absurd rfl z
 |none=>
  refine core (λb=>if b=a then cz (.frz {cls:=.type "list",data:=.seq vs.toArray} (.lst (ns.map V.int))) else el) (.inl (.inr ⟨{cls:=.type "list",data:=.seq vs.toArray},aG rfl⟩)) (λb u z=>?_) (λb u z=>?_) λ_=>hk
  ·by_cases hb:b=a
   ·have z':=(aG hb).symm.trans z;cases z'
    subst hb;exact⟨ha,by rw[ah];exact hl,vs,_,rv,ha⟩
   ·have z':=(aL hb).symm.trans z;cases z'
  ·by_cases hb:b=a
   ·have z':=(aG hb).symm.trans z;cases z'
    exact⟨hb,_,_,rfl⟩
   ·have z':=(aL hb).symm.trans z;cases z'
def b1t{l:oS}{XP:(bH->Option ai)->bR->Prop}{YP:bO->bR->Prop}{d:DefRec}{K:Params->af}{CX:bO->CXT}{sp:bO->Sp} 
  (hn:l.most=cz n) (DC:n<=aP) (vN:d.params.defaults=[]) (hr:Room k nJ)
  (hY:∀(w:bO) (h:bR),YP w h->(K w.params).In h) (hT:∀w:bO,a2y (K w.params) ((recsOf q).map (·.name))=p4)
  (F:∀(w:bO) (mg:bH->Option ai) (fa:av) (h:bR),(K w.params).In h->h.Ns bL mg->mg d.name=cz (.ref fa)->
   ∃fd:dB,(∀(s:ar) (u:ai),nK s fd ⟨[u],[]⟩ [(x,u)])/\
    ∀base:bR,(K w.params).In base->base.Ns bL mg->FnOk l.prog w (K w.params) mg base (CX w) k fa fd [x] (sp w))
  (pM:∀(w:bO) (H:Hp) (a:av) (ns:List Int),ns.length<=n->SqX (K w.params) H a (ns.map V.int)->sp w [.ref a] H (λv _=>v=.bl p4) λ_ _ _=>False)
  (zq:∀(w:bO) (H:Hp) (s:ar) (e:ai) (s':ar),CX w [] H s (λ_ _ _=>False) e s'->False) :
  PySem.W.WalkO q loose XP YP l.row.toRowW d [] (λf vs=>zE f vs):=by
 refine Att.attach_call hn vN λw s₀ s₁ mg mb fa o pm cd doc a vs ns G xn ho hd nI vz sW hints hlen hg=>?_
 have KX:=hY w _ xn;obtain⟨fd,hb,hF⟩:=F w mg fa _ KX G.T.g vz;exact a9u KX G.T.g G.T.b G.T.builtins G.T.nolimit hg G.T.bmain (b3X G.T KX (hT w)) (hT w) sW hints (bV hlen DC) hr hF hb (λH hS=>pM w H a ns hlen hS) λH e s'=>zq w H s₁ e s'
def a9v{l:oS}{XP:(bH->Option ai)->bR->Prop}{YP:bO->bR->Prop}{d:DefRec}{K:Params->af}{m:List bc->Option bc}(hn:l.most=cz 63)(vN:d.params.defaults=[])(hr:Room k nJ)
  (hY:∀(w:bO) (h:bR),YP w h->(K w.params).In h) (hT:∀w:bO,a2y (K w.params) ((recsOf q).map (·.name))=p4)
  (F:∀(w:bO) (mg:bH->Option ai) (fa:av) (h:bR),(K w.params).In h->h.Ns bL mg->mg d.name=cz (.ref fa)->
   ∃fd:dB,(∀(s:ar) (u:ai),nK s fd ⟨[u],[]⟩ [(x,u)])/\
    ∀base:bR,(K w.params).In base->base.Ns bL mg->FnOk l.prog w (K w.params) mg base CX0 k fa fd [x] (spD (K w.params) 1 m .i))
  (hm:∀ns:List Int,ns.length<=63->m [.list (ns.map .int)]=cz (.bool p4)) :
  PySem.W.WalkO q loose XP YP l.row.toRowW d [] (λf vs=>zE f vs):=
 b1t (n:=63) (k:=k) (x:=x) (CX:=λ_=>CX0) (sp:=λw=>spD (K w.params) 1 m .i) hn (by decide) vN hr hY hT F
  (λw H a ns hl hS=>⟨_,_,rfl,denAll_cons (den_list hS (DenAll.ints ns)) denAll_nil,hm ns hl,λv H' fp _ o _ _=>(Q2 o).2.2.bool_inv⟩) λ_ _ _ _ _ z=>z
end VS
namespace VS
open PySem PySem.Spec L2
def u6:∀(U ds:List D),c9 U=cz ds->ds.length=0:=λ_ _ h=>by cases h;rfl
def i5(hr:∀(U ds:List D),r U=cz ds->ds.length=n):∀(U ds:List D),b8 f r U=cz ds->ds.length=n+1:=λ_ _ h=>a9n hr h
def b1u:∀(U ds:List D),iI fi U=cz ds->∀d∈ds,mI d:=λU ds h d hd=>by
 have:=a5M rfl U ds h d hd [d] rfl;show imm d=p4;simpa only [g8,fY]using this
def a7g:∀(U ds:List D),iR fa U=cz ds->∀d∈ds,mI d:=λU ds h d hd=>by
 have:=b5w rfl U ds h d hd [d] rfl;show imm d=p4;simpa only [g8,fY]using this
end VS
namespace VS
open PySem L2
section
variable {a b c:EvE}{U U':List D}{d x y:D}
def l1(g:D->Option D):Option D->Option D
 |some x=>g x
 |none=>el
def l2(g:D->D->Option D):Option D->Option D->Option D
 |some x,cz y=>g x y
 |_,_=>el
def lc(m:List D->Option D):Option (List D)->Option D
 |some xs=>m xs
 |none=>el
def b5y:Option D->Option (List D)->Option (List D)
 |some x,cz xs=>cz (x::xs)
 |_,_=>el
def lB:Option D->Option Bool
 |some d=>asB d
 |none=>el
def lT:Option D->Option Bool
 |some d=>tr d
 |none=>el
def b8C:Option Bool->Option Bool
 |some b=>cz !b
 |none=>el
def b6E:Option Bool->EvT->List D->Option Bool
 |some p4,b,U=>b U
 |some rp,_,_=>cz rp
 |none,_,_=>el
def orT:Option Bool->EvT->List D->Option Bool
 |some p4,_,_=>cz p4
 |some rp,b,U=>b U
 |none,_,_=>el
def b6F:Option D->EvE->List D->Option D
 |some (.bool p4),b,U=>b U
 |some (.bool rp),_,_=>cz (.bool rp)
 |_,_,_=>el
def orE:Option D->EvE->List D->Option D
 |some (.bool p4),_,_=>cz (.bool p4)
 |some (.bool rp),b,U=>b U
 |_,_,_=>el
def b8D:Option D->Option D
 |some (.bool b)=>cz (.bool !b)
 |_=>el
def b3Y:Option Bool->EvE->EvE->List D->Option D
 |some p4,a,_,U=>a U
 |some rp,_,b,U=>b U
 |none,_,_,_=>el
def b6G:Option Bool->EvS->EvS->List D->Option Out
 |some p4,a,_,U=>a U
 |some rp,_,b,U=>b U
 |none,_,_,_=>el
def thn:Option Out->EvS->Option Out
 |some (.nx U),b=>b U
 |some (.rt d),_=>cz (.rt d)
 |some (.bk U),_=>cz (.bk U)
 |some (.ct U),_=>cz (.ct U)
 |none,_=>el
def b8E(i:Nat):Option D->List D->Option Out
 |some d,U=>cz (.nx (U.set i d))
 |none,_=>el
def retS:Option D->Option Out
 |some d=>cz (.rt d)
 |none=>el
def exS:Option D->List D->Option Out
 |some _,U=>cz (.nx U)
 |none,_=>el
def b1v(i j:Nat):Option D->List D->Option Out
 |some (.tuple [x,y]),U=>cz (.nx ((U.set i x).set j y))
 |_,_=>el
def b8F(set:List D->D->Option (List D))(g:EvS):Option (List D)->List D->Option Out
 |some ds,U=>N5 set g ds U
 |none,_=>el
def a2A:Option Out->Option D
 |some (.rt d)=>cz d
 |_=>el
def listE:Option (List D)->Option D
 |some ds=>cz (.list ds)
 |none=>el
def b8G:Option (List D)->Option D
 |some ds=>cz (.tuple ds)
 |none=>el
def c0f:l1 g (cz x)=g x:=rfl
def c0g:l2 g (cz x) (cz y)=g x y:=rfl
def c0h:lc m (cz xs)=m xs:=rfl
def b3Z:b5y (cz x) (cz xs)=cz (x::xs):=rfl
def c0i:lB (cz (.bool k))=cz k:=rfl
def c0j:lT (cz d)=tr d:=rfl
def b6H:b8C (cz k)=cz !k:=rfl
def b6I:b6E (cz p4) t U=t U:=rfl
def b6J:b6E (cz rp) t U=cz rp:=rfl
def b8H:orT (cz p4) t U=cz p4:=rfl
def b8I:orT (cz rp) t U=t U:=rfl
def b6K:b6F (cz (.bool p4)) b U=b U:=rfl
def b6L:b6F (cz (.bool rp)) b U=cz (.bool rp):=rfl
def b8J:orE (cz (.bool p4)) b U=cz (.bool p4):=rfl
def b8K:orE (cz (.bool rp)) b U=b U:=rfl
def b6M:b8D (cz (.bool k))=cz (.bool !k):=rfl
def b6N:b3Y (cz p4) a b U=a U:=rfl
def b6O:b3Y (cz rp) a b U=b U:=rfl
def b6P:b6G (cz p4) s t U=s U:=rfl
def b6Q:b6G (cz rp) s t U=t U:=rfl
def w6:thn (cz (.nx U)) s=s U:=rfl
def b6R:thn (cz (.rt d)) s=cz (.rt d):=rfl
def b6S:thn (cz (.bk U)) s=cz (.bk U):=rfl
def b6T:thn (cz (.ct U)) s=cz (.ct U):=rfl
def b1w:b8E i (cz d) U=cz (.nx (U.set i d)):=rfl
def b6U:retS (cz d)=cz (.rt d):=rfl
def b8L:exS (cz d) U=cz (.nx U):=rfl
def b4a:b1v i j (cz (.tuple [x,y])) U=cz (.nx ((U.set i x).set j y)):=rfl
def b6V{set:List D->D->Option (List D)}:b8F set g (cz ds) U=N5 set g ds U:=rfl
def b6W:a2A (cz (.rt d))=cz d:=rfl
def a8u:listE (cz ds)=cz (.list ds):=rfl
def b6X:b8G (cz ds)=cz (.tuple ds):=rfl
def v_var:b7 i U=cz (U.getD i .none):=rfl
def v_c:eC d U=cz d:=rfl
def v_1:e1 g a U=l1 g (a U):=by unfold e1;cases a U<;>rfl
def v_2:e2 g a b U=l2 g (a U) (b U):=by unfold e2;cases a U<;>cases b U<;>rfl
def c0k:eCl m f U=lc m (f U):=by unfold eCl;cases f U<;>rfl
def b1x:b8 a r U=b5y (a U) (r U):=by unfold b8;cases a U<;>cases r U<;>rfl
def b5z:c9 U=cz []:=rfl
def c0l:tB a U=lB (a U):=by unfold tB;cases a U<;>rfl
def c0m:tV a U=lT (a U):=by unfold tV;cases a U<;>rfl
def b8M:tNo t U=b8C (t U):=by unfold tNo;cases t U<;>rfl
def b8N:tAn s t U=b6E (s U) t U:=by
 unfold tAn;cases s U with
 |none=>rfl
 |some k=>cases k<;>rfl
def b8O:C9 s t U=orT (s U) t U:=by
 unfold C9;cases s U with
 |none=>rfl
 |some k=>cases k<;>rfl
def v_and:a3F a b U=b6F (a U) b U:=by
 unfold a3F;cases h:a U with
 |none=>rfl
 |some d=>cases d with
  |bool k=>cases k<;>rfl
  |_=>rfl
def v_or:eOr a b U=orE (a U) b U:=by
 unfold eOr;cases h:a U with
 |none=>rfl
 |some d=>cases d with
  |bool k=>cases k<;>rfl
  |_=>rfl
def v_not:b1e a U=b8D (a U):=by
 unfold b1e;cases h:a U with
 |none=>rfl
 |some d=>cases d<;>rfl
def b8P:eIf t a b U=b3Y (t U) a b U:=by
 unfold eIf;cases t U with
 |none=>rfl
 |some k=>cases k<;>rfl
def b5A:J4 f U=listE (f U):=by unfold J4;cases f U<;>rfl
def b5B:B1 f U=b8G (f U):=by unfold B1;cases f U<;>rfl
def A6:g9 s t U=thn (s U) t:=by
 unfold g9;cases s U with
 |none=>rfl
 |some o=>cases o<;>rfl
def a2B:l0 i a U=b8E i (a U) U:=by unfold l0;cases a U<;>rfl
def b8Q:l5 a U=retS (a U):=by unfold l5;cases a U<;>rfl
def c0n:sEx a U=exS (a U) U:=by unfold sEx;cases a U<;>rfl
def b6Y:m6 U=cz (.nx U):=rfl
def a5Q:sIf t s s' U=b6G (t U) s s' U:=by
 unfold sIf;cases t U with
 |none=>rfl
 |some k=>cases k<;>rfl
def b1y{set:List D->D->Option (List D)}:D3 fi set g U=b8F set g (fi U) U:=by unfold D3;cases fi U<;>rfl
def b6Z:a4a i j a U=b1v i j (a U) U:=by
 unfold a4a;cases h:a U with
 |none=>rfl
 |some d=>
  match d with
  |.tuple [x,y]=>rfl
  |.tuple []=>rfl
  |.tuple [_]=>rfl
  |.tuple (_::_::_::_)=>rfl
  |.none=>rfl
  |.bool _=>rfl
  |.int _=>rfl
  |.str _=>rfl
  |.list _=>rfl
  |.dict _=>rfl
def J0(h:argsOk us ds=p4):fnD us n g ds=a2A (g (ds++aN n .none)):=by
 unfold fnD;rw[aG h];cases g (ds++aN n .none) with
 |none=>rfl
 |some o=>cases o<;>rfl
def v_add:z7 (.int i) (.int j)=cz (.int (i+j)):=rfl
def v_sub:a3E (.int i) (.int j)=cz (.int (i-j)):=rfl
def v_lt:dLt (.int i) (.int j)=cz (.bool (decide (i<j))):=rfl
def c0o:dLe (.int i) (.int j)=cz (.bool (decide (i<=j))):=rfl
def c0p:dGt (.int i) (.int j)=cz (.bool (decide (j<i))):=rfl
def c0q:dGe (.int i) (.int j)=cz (.bool (decide (j<=i))):=rfl
def v_mod(h:0<j):C5 (.int i) (.int j)=cz (.int (i % j)):=by
 show (if b6x i j=p4 then _ else _)=_;rw[aG (show b6x i j=p4 from aI h)]
def v_div(h:0<j)(h':j<1073741824):Y8 (.int i) (.int j)=cz (.int (i / j)):=by
 show (if b3L i j=p4 then _ else _)=_;rw[aG (by unfold b3L;rw[aI h,aI h'];rfl)]
def a1l{i j:Int}(h:i.natAbs<2^64):K9 (.int i) (.int j)=cz (.int (i*j)):=by
 show (if a9k i j=p4 then _ else _)=_;rw[aG (by unfold a9k;rw[aI h];rfl)]
def a0e{i j:Int}(h:j.natAbs<2^64):K9 (.int i) (.int j)=cz (.int (i*j)):=by
 show (if a9k i j=p4 then _ else _)=_;rw[aG (by unfold a9k;rw[aI h,Bool.or_true])]
def v_pow(h:b3M i j=p4):a4U (.int i) (.int j)=cz (.int (i^j.toNat)):=by
 show (if b3M i j=p4 then _ else _)=_;rw[aG h]
def b8R:dEq (.int i) (.int j)=cz (.bool (decide (i=j))):=by
 show cz (dE (rp !=aK (.int i) (.int j)))=_;have:aK (.int i) (.int j)=decide (i=j):=by
  show (i==j)=decide (i=j);exact iz i j
 rw[this];simp
def b8S:dNe (.int i) (.int j)=cz (.bool (!decide (i=j))):=by
 show cz (dE (p4 !=aK (.int i) (.int j)))=_;have:aK (.int i) (.int j)=decide (i=j):=by
  show (i==j)=decide (i=j);exact iz i j
 rw[this];simp
def b7a:v8 [.list ds]=cz (.int ds.length):=rfl
def b7b:v8 [.tuple ds]=cz (.int ds.length):=rfl
def b8T:dIx (.list ds) (.int k)=atI ds k:=rfl
def b8U:dIx (.tuple ds) (.int k)=atI ds k:=rfl
def b8V:N0 (.list ds) (.int k)=atI ds k:=rfl
def b8W:B4 x y=l1 R9 (dIx x y):=by unfold B4;cases dIx x y<;>rfl
def a4c(h:imm d=p4):R9 d=cz d:=by unfold R9;rw[aG h]
def b8X:c0e k (.bool i) (.bool j)=cz (.bool (k !=(i==j))):=rfl
def a0D:imm (.int i)=p4:=by simp only[imm]
def B7(ns:List Int):g8 (ns.map .int)=p4:=by
 induction ns with
 |nil=>simp only[cE,g8]
 |cons n ns ih=>simp only[ay,g8,imm,ih,ef]
def a5a{α:Type}{xs:List α}(h0:0<=k)(h:k<(xs.length:Int)):atI xs k=cz (xs[k.toNat]'(by lia)):=by
 unfold L2.atI ixN;rw[aG h0,aG h];exact au (by lia)
def a9w(i:Nat):D->Option D->List D->Option Out
 |.list ds,cz d,U=>if ds.length<1000000 then cz (.nx (U.set i (.list (ds++[d])))) else el
 |_,_,_=>el
def b1z:A5 i (.l t) o8 a U=a9w i (U.getD i .none) (a U) U:=by
 unfold A5 o8
 dsimp only[bF]
 cases h:U.getD i .none with
 |list ds=>
  cases a U with
  |none=>rfl
  |some d=>rfl
 |_=>cases a U<;>rfl
def b7c{ds:List D}(h:ds.length<1000000):a9w i (.list ds) (cz d) U=cz (.nx (U.set i (.list (ds++[d])))):=by
 show (if ds.length<1000000 then cz (Out.nx (U.set i (.list (ds++[d])))) else el)=_;rw[aG h]
def a5R(h:a U=cz (.int n))(h0:0<=n)(h1:n<2^62):iR a U=cz (E1 0 n.toNat):=by
 unfold iR;rw[h];show (if -(2^62)<=n/\n<2^62 then cz (E1 0 n.toNat) else el)=_;rw[aG ⟨by lia,h1⟩]
def a7h:(E1 lo n).length=n:=by unfold E1;simp
end
end VS
namespace VS
open PySem PySem.Spec L2
noncomputable def fnN(us:List Ty)(n:Nat)(g:EvS):List D->Option D:=λds=>if argsOk us ds then (g (ds++aN n .none)).bind λo=>match o with
 |.rt d=>cz d
 |.nx _=>cz .none
 |_=>el
 else el
open PyProof.Rows in
def b1A{P:bw}{w:bO}{K:af}{mg:bH->Option ai}{base:bR}{x:bH}{st:g_}{f:av}{fd:dB}{N ps:List bH}{k n:Nat}{us:List Ty}{u:Ty}{g:EvS}{M':List Md}(F:Fun K x x st f fd)(S:FnScope N ps (i9 st))(mz:us.length=ps.length)(hn:N.length=ps.length+n)
  (hb:∀(gg:ai) (A:bC) (outer:List ox) (s:ar) (H:Hp) (E:XK),Room k (A.deeper (jb x (i9 st) s.heap.objs.size f gg))->PSsX (a0q CX0 P w K mg base N x (i9 st) f gg A outer s H E).nox .i [] (us.map .own++aN n .dead) (y7 st) g M') (hu:u=.i:=by rfl) :
  FnOk P w K mg base CX0 (k+1) f fd ps (spD K ps.length (fnN us n g) u):=by
 subst hu;refine F.ok S (λvs H Q E h=>?_) (λgg A outer s H vs Q E hr h=>?_)
 ·obtain⟨ds,d,hl,_⟩:=h;exact hl
 obtain⟨ds,d,hl,hd,hm,q⟩:=h;obtain⟨t,p,r⟩:=(hb gg A outer s H E hr).out;refine⟨t,p,?_⟩;unfold fnN at hm;by_cases ha:argsOk us ds=p4
 ·rw[aG ha]at hm;obtain⟨o,h1,h2⟩:=bnd hm;have e:L2.start N vs=vs.map cz++aN n el:=by
   unfold L2.start;rw[show N.length-vs.length=n by lia]
  have S0:StR K (us.map .own++aN n .dead) (ds++aN n gQ) (vs.map cz++aN n el) H H []:=⟨⟨[],S8 ha hd n,bp,λa ha=>(nomatch ha)⟩,λa ha=>(nomatch ha),by rw[K8];exact Same.refl H⟩;cases o with
  |rt d'=>
   have jV:cz d'=cz d:=h2;cases jV
   rw[e];exact r _ (ds++aN n gQ) _ H H [] (.rt d) S0 h1 λv H' fp o nd fr e=>q v H' fp e o nd fr
  |nx U=>
   have jV:cz gQ=cz d:=h2;cases jV
   rw[e];refine r _ (ds++aN n gQ) _ H H [] (.nx U) S0 h1 λY' H' F' S'=>?_
   refine q .non H' [] (S'.prot.trans i7) ?_ bp λa ha=>(nomatch ha)
   simp only[Own];exact⟨trivial,by simp only[imm],den_none⟩
  |_=>cases h2
 ·rw[aL ha]at hm;cases hm
def E3:∀{l:List α} {l':List β},eS R l l'->∀{j:Nat} {x:α},l[j]?=cz x->∃y,l'[j]?=cz y/\R x y:=by
 intro l l' h
 induction h with
 |nil=>intro j x e;simp at e
 |cons r _ ih=>
  intro j x e;cases j with
  |zero=>cases e;exact⟨_,rfl,r⟩
  |succ j=>exact ih (by simpa using e)
def a1F:∀{l:List α} {l':List β},eS R l l'->∀{j:Nat} {y:β},l'[j]?=cz y->∃x,l[j]?=cz x/\R x y:=by
 intro l l' h
 induction h with
 |nil=>intro j x e;simp at e
 |cons r _ ih=>
  intro j x e;cases j with
  |zero=>cases e;exact⟨_,rfl,r⟩
  |succ j=>exact ih (by simpa using e)
section
variable {X:Cx}{pins:List (av×fD)}{Y:L2.St}{H:Hp}{s:ar}{A:bC}{E:ai->ar->Prop}{a:av}{es:List (D×V×V)}{o:fD}{ents:Array eQ}{ep:Nat}{kt:Bool}{k:D}{kv:V}{key:ai}
def a1m(I:Inv X pins Y H s)(kk:keyOk kt k)(dk:Den X.K H kv k)(rk:RelV kv key):∃as,Reads s.heap key k as:=Den.reads I k (V5 _ kk.1) dk rk
def X9(I:Inv X pins Y H s)(hu:A.units+10<dq)(kk:keyOk kt k)(dk:Den X.K H kv k)(rk:RelV kv key)(h:Q (hashD k) {s with toks:=s.toks+u5 k}):aD (aT X.prog X.w) A (pyHash key) Q E s:=by
 obtain⟨as,r⟩:=a1m I kk dk rk;exact a2r k kk.1 (by have:=kk.2.1;lia) r h
def Y0(I:Inv X pins Y H s)(hu:A.units+10<dq)(ho:s.heap.get? a=cz o)(hd:o.data=.dict ents ep)(hp:eS O4 es ents.toList)(hn:(es.map (·.1)).Nodup)(hk:∀e∈es,keyOk kt e.1/\Den X.K H e.2.1 e.1)
  (kk:keyOk kt k) (dk:Den X.K H kv k) (rk:RelV kv key) (kI:(∀e∈es,e.1≠k)->Q el s) (kG:∀j e,es[j]?=cz e->e.1=k->Q (cz j) s) :
  aD (aT X.prog X.w) A (dictFind a key (hashD k)) Q E s:=by
 cases kt with
 |false=>
  obtain⟨i,rfl⟩:=kk.2.2.2 rfl;cases dk.int_inv
  obtain⟨t,rfl⟩:=rk;have ent:∀(j:Nat) (x:eQ),ents.toList[j]?=cz x->∃e n u,es[j]?=cz e/\e.1=.int n/\x.key=.int n u/\x.hash=jL n:=λj x hx=>by
   obtain⟨e,he,h1,h2,_⟩:=a1F hp hx;obtain⟨k1,k2⟩:=hk e (bA he);obtain⟨n,en⟩:=k1.2.2.2 rfl;rw[en]at k2 h1;have e2:=k2.int_inv;rw[e2]at h2;obtain⟨u,ui⟩:=h2;exact⟨e,n,u,he,en,ui,by simpa[hashD]using h1⟩
  show aD (aT X.prog X.w) A (dictFind a (.int i t) ((cQ X.prog X.w).hash i)) Q E s;refine wpAny_dictFind_of (knd:=cQ X.prog X.w) (k:=i) (by simp[cQ,jy]) ho hd (λx hx=>?_) ?_
  ·obtain⟨j,hj⟩:=bJ.mp (dI.mpr hx);obtain⟨e,n,u,_,_,h3,h4⟩:=ent j x hj;exact⟨n,by rw[h3];simp[cQ,jy],h4⟩
  ·cases hf:ents.findIdx? λe=>(cQ X.prog X.w).is i e.key with
   |none=>
    refine kI λe he fO=>?_
    obtain⟨j,hj⟩:=bJ.mp he;obtain⟨x,hx,_⟩:=E3 hp hj;obtain⟨e',n,u,h1,h2,h3,_⟩:=ent j x hx;rw[hj]at h1;cases h1
    rw[fO]at h2;cases h2
    have:=Array.findIdx?_eq_none_iff.mp hf x (dI.mp (bA hx));rw[h3]at this;simp[cQ,jy]at this
   |some j=>
    obtain⟨gG,va,_⟩:=Array.findIdx?_eq_some_iff_getElem.mp hf;have hx:ents.toList[j]?=cz ents[j]:=by simp[gG]
    obtain⟨e,n,u,h1,h2,h3,_⟩:=ent j _ hx;have sZ:n=i:=by
     rw[h3]at va;simpa[cQ,jy]using va
    subst sZ;exact kG j e h1 h2
 |true=>
  obtain⟨ds,rfl⟩:=kk.2.2.1 rfl;obtain⟨p,rT,rfl,_,_⟩:=dk.tup_inv;cases (show key=a_ p from rk)
  obtain⟨as,Cg⟩:=a1m I kk (dk) (show RelV (.ref p) (.ref p) from rfl);have build:∀{es:List (D×V×V)} {l:List eQ},eS O4 es l->(∀e∈es,keyOk p4 e.1/\Den X.K H e.2.1 e.1)->∃xs:List (D×av×ai),l=xs.map (λx=>(⟨hashD x.1,.ref x.2.1,x.2.2⟩:eQ))/\xs.map (·.1)=es.map (·.1)/\∀x∈xs,B9 x.1=p4/\x.1.depth<=7/\∃as,Reads s.heap (.ref x.2.1) x.1 as:=by
   intro es l hp
   induction hp with
   |nil=>exact λ_=>⟨[],rfl,rfl,λx hx=>(nomatch hx)⟩
   |@cons e x es l r _ ih=>
    intro hk;obtain⟨xs,i1,i2,i3⟩:=ih λe he=>hk e (ak _ he)
    obtain⟨k1,k2⟩:=hk e aj;obtain⟨as,rr⟩:=a1m I k1 k2 r.2.1;obtain⟨ds,ed⟩:=k1.2.2.1 rfl;have:∃q,x.key=.ref q:=by
     rw[ed]at rr;cases CZ:x.key with
     |ref q=>exact⟨q,rfl⟩
     |_=>rw[CZ]at rr;cases rr
    obtain⟨q,hq⟩:=this;refine⟨(e.1,q,x.val)::xs,?_,by rw[ay,ay,i2],λy hy=>?_⟩
    ·rw[ay,<-i1]
     congr 1;obtain⟨xh,xk,xv⟩:=x;simp only at hq;rw[show xh=hashD e.1 from r.1,hq]
    ·rcases aC.mp hy with z|z
     ·subst z;exact⟨k1.1,k1.2.1,as,by rw[hq]at rr;exact rr⟩
     ·exact i3 y z
  obtain⟨xs,x1,x2,x3⟩:=build hp hk;have idx:∀(j:Nat) (kk:D),(∃p,xs[j]?=cz (kk,p))↔∃e,es[j]?=cz e/\e.1=kk:=λj kk=>by
   have:(xs.map (·.1))[j]?=(es.map (·.1))[j]?:=by rw[x2]
   rw[aX,aX]at this
   constructor
   ·rintro⟨q,hq⟩;rw[hq]at this;cases he:es[j]? with
    |none=>rw[he]at this;cases this
    |some e=>rw[he]at this;exact⟨e,rfl,(aH this).symm⟩
   ·rintro⟨e,he,hk⟩;rw[he]at this;cases hx:xs[j]? with
    |none=>rw[hx]at this;cases this
    |some x=>
     rw[hx]at this;have e1:x.1=e.1:=aH this;exact⟨x.2,by rw[<-hk,<-e1]⟩
  refine @wpAny_dictFind_heap X.prog X.w D a9j (b0X X.prog X.w) A E s a p o ents ep xs (.tuple ds) Q (by show A.units+8<dq;lia) ⟨kk.1,kk.2.1,as,Cg⟩ ho hd x1 x3 (by rw[x2];exact hn) (λh=>kI λe he fO=>?_) (λj q hj=>?_)
  ·obtain⟨j,hj⟩:=bJ.mp he;obtain⟨q,hq⟩:=(idx j (.tuple ds)).mpr ⟨e,hj,fO⟩;exact h j q hq
  ·obtain⟨e,he,fO⟩:=(idx j (.tuple ds)).mp ⟨q,hj⟩;exact kG j e he fO
end
def u7(es:List (D×V×V))(k:D):Bool:=es.any λe=>aK e.1 k
def Q4(es:List (D×V×V))(k:D)(kv v:V):List (D×V×V):=if u7 es k then es.map λe=>if aK e.1 k then (e.1,e.2.1,v) else e else es++[(k,kv,v)]
section
variable {X:Cx}{pins:List (av×fD)}{Y:L2.St}{H:Hp}{s:ar}{A:bC}{E:ai->ar->Prop}{a:av}{es:List (D×V×V)}{kt:Bool}{k:D}{kv v:V}{key val:ai}
def a7i{x:D×V×V}(h:K5 (es++[x])=rp):K5 es=rp:=by
 cases es with
 |nil=>rfl
 |cons e es=>exact h
def a1n(I:Inv X pins Y H s)(h:H a=cz (e6 a es)):(a==cN)=rp/\es.length<=aP/\(es.map (·.1)).Nodup/\∃o ents ep,s.heap.get? a=cz o/\o.ExactDict/\o.data=.dict ents ep/\eS O4 es ents.toList/\(K5 es=rp->ep=es.length):=
 (show ObjOk X.prog X.w H s.heap a (e6 a es) from I.hok a _ h).1
def a9x(I:Inv X pins Y H s)(h:H a=cz (e6 a es))(hL:K5 es=rp):(a==cN)=rp/\es.length<=aP/\(es.map (·.1)).Nodup/\∃o ents,s.heap.get? a=cz o/\o.ExactDict/\o.data=.dict ents es.length/\eS O4 es ents.toList:=
 let⟨a1,a2,a3,o,ents,_,r1,r2,r3,r4,r5⟩:=a1n I h;⟨a1,a2,a3,o,ents,r1,r2,r5 hL▸r3,r4⟩
def q8(I:Inv X pins Y H s)(h:H a=cz (e6 a es)):(a==cN)=rp/\es.length<=aP/\(es.map (·.1)).Nodup/\∃o ents ep,s.heap.get? a=cz o/\o.ExactDict/\o.data=.dict ents ep/\eS O4 es ents.toList:=
 let⟨a1,a2,a3,o,ents,ep,r1,r2,r3,r4,_⟩:=a1n I h;⟨a1,a2,a3,o,ents,ep,r1,r2,r3,r4⟩
def a2C(I:Inv X pins Y H s)(h:H a=cz (e6 a es)){o:fD}{ents:Array eQ}{ep:Nat}(h1:s.heap.get? a=cz o)(h3:o.data=.dict ents ep)(hL:K5 es=rp):ep=es.length:=by
 obtain⟨_,_,_,o',sC,g1,_,g3,_⟩:=a9x I h hL;rw[h1]at g1;cases g1
 rw[h3]at g3
 injection g3
def j9(I:Inv X pins Y H s)(h:H a=cz (e6 a es)):s.TypeIs (.ref a) "dict":=by
 obtain⟨_,_,_,o,ents,ep,h1,h2,_⟩:=q8 I h;exact⟨o,h1,h2.1⟩
def L4(I:Inv X pins Y H s)(h:H a=cz (e6 a es)):∀b,a_ a=.ref b->∃ob,s.heap.get? b=cz ob/\ob.dict=el:=λb q=>by
 cases q
 obtain⟨_,_,_,o,ents,ep,h1,h2,_⟩:=q8 I h;exact⟨o,h1,h2.2.1⟩
def Y1{P:bw}{w:bO}{H':Hp}{h':bR}(hs:(a==cN)=rp)(hl:es.length<=aP)(hn:(es.map (·.1)).Nodup){o:fD}{ents:Array eQ}{ep:Nat}(h1:h'.get? a=cz o)(h2:o.ExactDict)(h3:o.data=.dict ents ep)(he:K5 es=rp->ep=es.length)(h4:eS O4 es ents.toList):ObjOk P w H' h' a (e6 a es):=
 ⟨⟨hs,hl,hn,o,ents,ep,h1,h2,h3,h4,he⟩,⟨o,h1⟩,λx1 x2 ⟨a1,a2,a3,o',sC,qK,b1,b2⟩ hk=>⟨a1,a2,a3,o',sC,qK,hk _ b1,b2⟩⟩
structure KeysAt (X:Cx) (H:Hp) (kt:Bool) (es:List (D×V×V)) (k:D) (kv:V):Prop where
 keys:∀e∈es,keyOk kt e.1/\Den X.K H e.2.1 e.1
 key:keyOk kt k
 den:Den X.K H kv k
def KeysAt.eqv(K:KeysAt X H kt es k kv){e:D×V×V}(he:e∈es):aK e.1 k=p4↔e.1=k:=B6 e.1 k (K.keys e he).1.1 K.key.1
def get_dict(I:Inv X pins Y H s)(hu:A.units+10<dq)(h:H a=cz (e6 a es))(K:KeysAt X H kt es k kv)(rk:RelV kv key) 
  (kI:u7 es k=rp->∀s',Inv X pins Y H s'->Q el s') (kG:∀e∈es,e.1=k->∀x s',Inv X pins Y H s'->RelV e.2.2 x->Q (cz x) s') :
  aD (aT X.prog X.w) A (dictGet a key) Q E s:=by
 obtain⟨_,_,hn,o,ents,ep,h1,h2,h3,h4⟩:=q8 I h;unfold dictGet
 try with_reducible refine bK ?_
 refine ab (X9 I hu K.key K.den rk (ab (Y0 (s:={s with toks:=s.toks+u5 k}) (I.tok (s.toks+u5 k)) hu h1 h3 h4 hn K.keys K.key K.den rk ?_ ?_)))
 ·intro oN;refine ae (kI ?_ _ (I.tok _));unfold u7;rw[cx];exact λe he hq=>oN e he ((K.eqv he).mp hq)
 ·intro j e he fO;obtain⟨x,hx,r⟩:=E3 h4 he;refine ab (cA (s:={s with toks:=s.toks+u5 k}) h1 h3 ?_);have:ents[j]?=cz x:=by rw[<-bX];exact hx
  rw[this];exact ae (kG e (bA he) fO _ _ (I.tok _) r.2.2)
def a2D(hf:u7 es k=rp):Q4 es k kv v=es++[(k,kv,v)]:=by unfold Q4;rw[hf];rfl
def a7j{α β:Type}{R:α->β->Prop}{l:List α}{l':List β}(h:eS R l l'){x:α}{y:β}(r:R x y):eS R (l++[x]) (l'++[y]):=by
 induction h with
 |nil=>exact .cons r .nil
 |cons q _ ih=>exact .cons q ih
def a9y(K:KeysAt X H kt es k kv)(hn:(es.map (·.1)).Nodup)(hf:u7 es k=rp):((es++[(k,kv,v)]).map (·.1)).Nodup:=by
 rw[aM,bb];refine⟨hn,by simp,λx hx y hy e=>?_⟩;simp only[ay,cE,ao]at hy;subst hy;subst e;obtain⟨e,he,rfl⟩:=aR.mp hx;unfold u7 at hf;rw[cx]at hf;exact hf e he ((K.eqv he).mpr rfl)
def a1o(I:Inv X pins Y H s)(h:H a=cz (e6 a es))(K:KeysAt X H kt es k kv)(rk:RelV kv key)(rv:RelV v val)(hl:es.length<aP)(hf:u7 es k=rp){t':Nat}{o:fD}{ents:Array eQ}{ep:Nat}(h1:s.heap.get? a=cz o)(h2:o.ExactDict)(h3:o.data=.dict ents ep)(h4:eS O4 es ents.toList) :
  Inv X pins Y (upd H a (e6 a (es++[(k,kv,v)]))) {s with heap:=s.heap.update a (·.mapDictKeys (·.push ⟨hashD k,key,val⟩)),toks:=t'}:=by
 obtain⟨hs,_,hn,_⟩:=q8 I h;refine I.write (x:=a) (e:=a) (by rw[h];exact jz) (.inl rfl) (λb q hb z=>((bP ..).2 b hb).trans z) ⟨_,bS _ h1 (ic (gS h3 _))⟩ ?_;refine Y1 hs (by simp;lia) (a9y K hn hf) (bS _ h1 (ic (gS h3 _))) (h2.mapDictKeys _) (gS h3 _) (λhL=>by rw[a2C I h h1 h3 (a7i hL),aV];rfl) ?_;have:=a7j h4 (x:=(k,kv,v)) (y:=⟨hashD k,key,val⟩) ⟨rfl,rk,rv⟩;obtain⟨l⟩:=ents;simpa using this
def a9z(I:Inv X pins Y H s)(hu:A.units+10<dq)(h:H a=cz (e6 a es))(K:KeysAt X H kt es k kv)(rk:RelV kv key)(rv:RelV v val)(hl:es.length<aP){Q:ai->ar->Prop}
  (kI:u7 es k=rp->∀s',Inv X pins Y (upd H a (e6 a (es++[(k,kv,v)]))) s'->Q val s') (kG:∀e∈es,e.1=k->∀x s',Inv X pins Y H s'->RelV e.2.2 x->Q x s') :
  aD (aT X.prog X.w) A (wm a key val) Q E s:=by
 obtain⟨_,_,hn,o,ents,ep,h1,h2,h3,h4⟩:=q8 I h;have hsz:ents.size<=aP:=by
  have:=dw h4;have e2:ents.toList.length=ents.size:=by simp
  lia
 unfold wm
 try with_reducible refine bK ?_
 refine ab (X9 I hu K.key K.den rk (ab (Y0 (s:={s with toks:=s.toks+u5 k}) (I.tok (s.toks+u5 k)) hu h1 h3 h4 hn K.keys K.key K.den rk ?_ ?_)))
 ·intro oN;have hf:u7 es k=rp:=by
   unfold u7;rw[cx];exact λe he hq=>oN e he ((K.eqv he).mp hq)
  refine ab (dQ (ab (mN (hz:=hsz) (s:={s with toks:=s.toks+u5 k}) h1 h3 (ae (kI hf _ (a1o (t':=s.toks+u5 k) I h K rk rv hl hf h1 h2 h3 h4))))))
 ·intro j e he fO;obtain⟨x,hx,r⟩:=E3 h4 he;refine ab (cA (s:={s with toks:=s.toks+u5 k}) h1 h3 ?_);have:ents[j]?=cz x:=by rw[<-bX];exact hx
  rw[this];exact ab (dQ (ae (kG e (bA he) fO _ _ (I.tok (s.toks+u5 k)) r.2.2)))
def a7k(hp:eS O4 es l)(hn:(es.map (·.1)).Nodup)(hk:∀e∈es,aK e.1 k=p4↔e.1=k)(rv:RelV v val):∀{j:Nat} {e:D×V×V},es[j]?=cz e->e.1=k->
  eS O4 (es.map λe=>if aK e.1 k then (e.1,e.2.1,v) else e) (l.modify j λx=>{x with val:=val}):=by
 induction hp with
 |nil=>intro j e he;simp at he
 |@cons e0 x es l r hp ih=>
  intro j e he fO;rw[ay,br]at hn;have qH:∀e∈es,aK e.1 k=p4↔e.1=k:=λe he=>hk e (ak _ he)
  cases j with
  |zero=>
   cases he
   have h0:aK e0.1 k=p4:=(hk _ aj).mpr fO;have jx:es.map (λe=>if aK e.1 k then (e.1,e.2.1,v) else e)=es:=by
    have:∀e'∈es,(if aK e'.1 k then (e'.1,e'.2.1,v) else e')=e':=λe' kN=>by
     rw[aL];intro q;exact hn.1 (by rw[fO,<-(qH e' kN).mp q];exact bt kN)
    rw[bU this,kD]
   rw[ay,aG h0,jx];exact .cons ⟨r.1,r.2.1,rv⟩ hp
  |succ j=>
   have kN:es[j]?=cz e:=by simpa using he
   have gC:¬ aK e0.1 k=p4:=λq=>hn.1 (by rw[(hk _ aj).mp q,<-fO];exact bt (bA kN))
   rw[ay,aL gC];exact .cons r (ih hn.2 qH kN fO)
def a2E{es:List (D×V×V)}:(es.map λe=>if aK e.1 k then (e.1,e.2.1,v) else e).map (·.1)=es.map (·.1):=by
 rw[bG];refine bU λe _=>?_
 show (if aK e.1 k then (e.1,e.2.1,v) else e).1=e.1
 split<;>rfl
def a7l(K:KeysAt X H kt es k kv)(hk:a0b k=rp)(h:K5 (es.map λe=>if aK e.1 k then (e.1,e.2.1,v) else e)=rp):K5 es=rp:=by
 cases es with
 |nil=>rfl
 |cons e es=>
  by_cases c:aK e.1 k=p4
  ·show (a0b e.1&&a5C e.2.2)=rp;rw[(K.eqv aj).mp c,hk];rfl
  ·rw[ay,aL c]at h;exact h
def set_dict(I:Inv X pins Y H s)(hu:A.units+10<dq)(h:H a=cz (e6 a es))(K:KeysAt X H kt es k kv)(rk:RelV kv key)(rv:RelV v val)(hl:es.length<aP)(hp:u7 es k=p4->a0b k=rp){Q:Unit->ar->Prop}
  (hQ:∀s',Inv X pins Y (upd H a (e6 a (Q4 es k kv v))) s'->Q () s'):aD (aT X.prog X.w) A (Fs a key val) Q E s:=by
 obtain⟨hs,_,hn,o,ents,ep,h1,h2,h3,h4⟩:=q8 I h;have hsz:ents.size<=aP:=by
  have:=dw h4;have e2:ents.toList.length=ents.size:=by simp
  lia
 unfold Fs
 try with_reducible refine bK ?_
 refine ab (X9 I hu K.key K.den rk ?_);unfold kO
 try with_reducible refine bK ?_
 refine ab (Y0 (s:={s with toks:=s.toks+u5 k}) (I.tok (s.toks+u5 k)) hu h1 h3 h4 hn K.keys K.key K.den rk ?_ ?_)
 ·intro oN;have hf:u7 es k=rp:=by
   unfold u7;rw[cx];exact λe he hq=>oN e he ((K.eqv he).mp hq)
  rw[a2D hf]at hQ;exact ab (dQ (mN (hz:=hsz) (s:={s with toks:=s.toks+u5 k}) h1 h3 (hQ _ (a1o (t':=s.toks+u5 k) I h K rk rv hl hf h1 h2 h3 h4))))
 ·intro j e he fO;have hf:u7 es k=p4:=by
   unfold u7;rw[cX];exact⟨e,bA he,(K.eqv (bA he)).mpr fO⟩
  have qK:Q4 es k kv v=es.map λe=>if aK e.1 k then (e.1,e.2.1,v) else e:=by unfold Q4;rw[hf];rfl
  rw[qK]at hQ;refine ab (dQ (ab (wpAny_updateDict (s:={s with toks:=s.toks+u5 k}) h1 h3 (wpAny_point (hQ _ ?_)))));refine I.write (x:=a) (e:=a) (t':=s.toks+u5 k) (by rw[h];exact jz) (.inl rfl) (λb q hb z=>((bP ..).2 b hb).trans z) ⟨_,bS _ h1 (ic (rP h3 _))⟩ ?_;refine Y1 hs (by rw[ah];lia) (by rw[a2E];exact hn) (bS _ h1 (ic (rP h3 _))) (h2.mapDict _) (rP h3 _) (λhL=>by rw[a2C I h h1 h3 (a7l K (hp hf) hL),ah]) ?_;have:=a7k h4 hn (λe he=>K.eqv he) rv he fO;obtain⟨l⟩:=ents;simpa using this
end
def a4d(i:Expr):Prop:=∀ov iv,rY i rp ov iv=operate [ov,iv] (qo ov iv)
open PyProof.Rows in
def b8Y{prog:bw}{w:bO}{A:bC}{E:ai->ar->Prop}{s:ar}{env:ox}{value slice:Expr}{pos:eM}{T id:String}{Q:ai->ar->Prop}
  (hl:oA (.type T) "__getitem__"=pure (cz (.builtin id))) (hs:a4d slice)
  (h:aD (aT prog w) A (cy value env) (λo s₁=>aD (aT prog w) A (cy slice env) (λi s₂=>s₂.TypeIs o T/\aD (aT prog w) A (qo o i) Q E s₂) E s₁) E s) :
  aD (aT prog w) A (cy (.Subscript value slice pos) env) Q E s:=by
 refine PyProof.Rows.Subscript_ (c_ h (λo s₁ h₁=>c_ h₁ (λi s₂ h₂=>?_) λ_ _ x=>x) λ_ _ x=>x);obtain⟨hT,h₂⟩:=h₂;unfold subscriptTail;refine ab ?_;rw[getitemInPython_of_ne hT.not_modules];refine ab (du hT hl ?_);have fin:aD (aT prog w) A (rY slice rp o i) (λr s₃=>aD (aT prog w) A (letTemporaryGo value o r >>= λ_=>pure r) Q E s₃) E s₂:=by
  rw[hs o i];exact wpAny_operating (c_ h₂ (λr s₃ h₃=>ab (wpAny_letTemporaryGo (ae h₃))) λ_ _ x=>x)
 first
  |exact ae (ab fin)
  |exact ab (ae (ab fin))
  |exact ab fin
section
variable {X:Cx}{pins:List (av×fD)}{Y:L2.St}{H:Hp}{s:ar}{A:bC}{E:ai->ar->Prop}{a:av}{es:List (D×V×V)}{kt:Bool}{k:D}{kv v:V}{key val:ai}
def a2F(hu:A.units+12<dq)(I:Inv X pins Y H s)(h:H a=cz (e6 a es))(K:KeysAt X H kt es k kv)(rk:RelV kv key)(hh:u7 es k=p4)
  (hQ:∀e∈es,e.1=k->∀x s',Inv X pins Y H s'->RelV e.2.2 x->Q x s'):aD (aT X.prog X.w) A (qo (.ref a) key) Q E s:=by
 have hT:=j9 I h;unfold qo
 try with_reducible refine bK ?_
 refine ab (wpAny_sequenceKey hT (by decide) ?_);refine ab (bI (name:=cf "__getitem__") hT slot_dict_getitem (bD slot_dict_getitem hT entry_dict_getitem ?_ (args_dict_getitem _ _)));show aD _ _ (dictGet a key >>= _) _ _ s;refine ab (get_dict (A:=A.in1) I (by show A.units+1+10<dq;lia) h K rk (λhf=>by rw[hh]at hf;cases hf) λe he fO x s' I' r=>?_);exact ae ⟨x,rfl,ae (hQ e he fO x s' I' r)⟩
def a1G(hu:A.units+12<dq)(I:Inv X pins Y H s)(h:H a=cz (e6 a es))(K:KeysAt X H kt es k kv)(rk:RelV kv key)
  (hQ:∀s',Inv X pins Y H s'->Q (u7 es k) s'):aD (aT X.prog X.w) A (contains (.ref a) key) Q E s:=by
 have hT:=j9 I h;obtain⟨hd,_⟩:=q8 I h;unfold contains
 try with_reducible refine bK ?_
 refine ab (du hT slot_dict_contains.lookup ?_);show aD _ _ (if (cz (zD "dict.__contains__")==cz cj)=p4 then _ else _) _ E s;rw[aL (by rw[beq_builtin_none];exact aS)];refine ab (wpAny_callSpecialUnlessNone?_slot (name:=cf "__contains__") hT slot_dict_contains (bD slot_dict_contains hT entry_dict_contains ?_ (args_dict_contains _ _)));show aD _ _ (dictGet a key >>= _) _ _ s;refine ab (get_dict (A:=A.in1) I (by show A.units+1+10<dq;lia) h K rk (λhf s' I'=>?_) λe he fO x s' I' r=>?_)
 ·rw[hf]at hQ;show aD _ _ (Builtin.Dict.pendingKey? a key >>= _) _ _ _;exact ab (wpAny_pendingKey_other hd (ae ⟨_,rfl,dD (hQ s' I')⟩))
 ·have hf:u7 es k=p4:=by
   unfold u7;rw[cX];exact⟨e,he,(K.eqv he).mpr fO⟩
  rw[hf]at hQ;show aD _ _ (ret (.bool p4)) _ _ _;exact ae ⟨_,rfl,dD (hQ s' I')⟩
def b8Z(hu:A.units+12<dq)(I:Inv X pins Y H s)(h:H a=cz (e6 a es))(K:KeysAt X H kt es k kv)(rk:RelV kv key)
  (hQ:∀s',Inv X pins Y H s'->Q (.bool (u7 es k)) s'):aD (aT X.prog X.w) A (bQ .In key (.ref a)) Q E s:=by
 show aD _ _ (do return .bool (<-contains (.ref a) key)) Q E s;exact ab (a1G hu I h K rk λs' I'=>ae (hQ s' I'))
def b1B(hu:A.units+12<dq)(I:Inv X pins Y H s)(h:H a=cz (e6 a es))(K:KeysAt X H kt es k kv)(rk:RelV kv key)
  (hQ:∀s',Inv X pins Y H s'->Q (.bool (!u7 es k)) s'):aD (aT X.prog X.w) A (bQ .NotIn key (.ref a)) Q E s:=by
 show aD _ _ (do return .bool (!(<-contains (.ref a) key))) Q E s;exact ab (a1G hu I h K rk λs' I'=>ae (hQ s' I'))
def a7m(hu:A.units+12<dq)(I:Inv X pins Y H s)(h:H a=cz (e6 a es))(K:KeysAt X H kt es k kv)(rk:RelV kv key)(rv:RelV v val)(hl:es.length<aP)(hp:u7 es k=p4->a0b k=rp)
  (hQ:∀s',Inv X pins Y (upd H a (e6 a (Q4 es k kv v))) s'->Q () s'):aD (aT X.prog X.w) A (setItem (.ref a) key val) Q E s:=by
 have hT:=j9 I h;unfold setItem
 try with_reducible refine bK ?_
 refine ab (wpAny_sequenceKey hT (by decide) ?_);refine ab (bI (name:=cf "__setitem__") hT slot_dict_setitem (bD slot_dict_setitem hT entry_dict_setitem ?_ (args_dict_setitem _ _ _)));show aD _ _ (Builtin.Dict.notOrdered "__setitem__" ⟨[.ref a,key,val],[]⟩ >>= _) _ _ s;refine ab (fA hT ?_);show aD _ _ (Fs a key val >>= _) _ _ s;exact ab (set_dict (A:=A.in1) I (by show A.units+1+10<dq;lia) h K rk rv hl hp λs' I'=>ae ⟨.none,rfl,ae (hQ s' I')⟩)
def b4b(hu:A.units+12<dq)(I:Inv X pins Y H s)(h:H a=cz (e6 a es))(K:KeysAt X H kt es k kv)(rk:RelV kv key)(rv:RelV v val)(hl:es.length<aP)
  (kI:u7 es k=rp->∀s',Inv X pins Y (upd H a (e6 a (es++[(k,kv,v)]))) s'->Q val s') (kG:∀e∈es,e.1=k->∀x s',Inv X pins Y H s'->RelV e.2.2 x->Q x s') :
  aD (aT X.prog X.w) A (call (.builtin "dict.setdefault") [.ref a,key,val]) Q E s:=by
 have hT:=j9 I h;obtain⟨hd,_⟩:=q8 I h;refine bD F.slot_dict_setdefault hT F.entry_dict_setdefault ?_ (F.args_dict_setdefault_3 _ _ _);unfold Builtin.«dict.setdefault»;refine ab ?_;unfold Builtin.Dict.keyAndDefault;refine ab (fA hT ?_);show aD _ _ (pure (a,key,cz val)) _ _ s;refine ae ?_;show aD _ _ (if (a==cN)=p4 then _ else (wm a key val >>= _)) _ _ s;rw[aL (by rw[hd];exact aS)];exact ab (a9z (A:=A.in1) I (by show A.units+1+10<dq;lia) h K rk rv hl (λhf s' I'=>ae ⟨_,rfl,kI hf s' I'⟩) λe he fO x s' I' r=>ae ⟨_,rfl,kG e he fO x s' I' r⟩)
def b7d(I:Inv X pins Y H s)(h:H a=cz (e6 a es))(hQ:∀t s',Inv X pins Y H s'->Q (.int es.length t) s'):aD (aT X.prog X.w) A (call (.builtin "len") [.ref a]) Q E s:=by
 have hT:=j9 I h;obtain⟨hd,hl,_,o,ents,ep,h1,h2,h3,h4⟩:=q8 I h;have hsz:ents.size=es.length:=by
  have:=dw h4;have e2:ents.toList.length=ents.size:=by simp
  lia
 have pd:(es.length:Int)<2^63:=by
  have:aP<2^62:=by decide
  lia
 refine kE kind_len plain_len entry_len (args_len1 _) ?_;unfold Builtin.«len»;refine ab (m:=oneArg "len" _) (ae ?_);refine ab (m:=callSpecial? (.ref a) (cf "__len__")) (bI (name:=cf "__len__") hT iq (bD iq hT F.entry_dict_len ?_ (F.args_dict_len_1 _)));show aD _ _ (dictSize a >>= _) _ _ s;unfold dictSize;refine ab (ab (cA h1 h3 (ae ?_)));show aD _ _ (xF a >>= _) _ _ s;refine ab (xI hd ?_);refine sL ?_;rw[Nat.add_zero,hsz];refine ab (bK (ae ?_));refine ab (mP ?_);show aD _ _ (if ((es.length:Nat):Int)<0 then _ else _) _ _ _;rw[aL (by lia)];show aD _ _ (if ((es.length:Nat):Int)≥2^63 then _ else _) _ _ _;rw[aL (by lia)];exact ab (wpAny_mkInt (ae ⟨_,rfl,hQ _ _ (I.tok _)⟩))
end
def y6(kvs:List (D×D))(k:D):Bool:=kvs.any λp=>aK p.1 k
def D4(kvs:List (D×D))(k:D):Option D:=(kvs.find? λp=>aK p.1 k).map (·.2)
def p6(kvs:List (D×D))(k d:D):List (D×D):=if y6 kvs k then kvs.map λp=>if aK p.1 k then (p.1,d) else p else kvs++[(k,d)]
def o9(kt:Bool)(k:D):Bool:=B9 k&&decide (k.depth<=7)&&match k with
 |.tuple _=>kt
 |.int _=>!kt
 |_=>rp
def x6(h:o9 kt k=p4):keyOk kt k:=by
 unfold o9 at h;rw[aw,aw]at h;refine⟨h.1.1,aW h.1.2,λe=>?_,λe=>?_⟩
 ·subst e;cases k with
  |tuple ds=>exact⟨ds,rfl⟩
  |int i=>have:=h.2;simp at this
  |_=>have:=h.2;simp at this
 ·subst e;cases k with
  |int i=>exact⟨i,rfl⟩
  |tuple ds=>have:=h.2;simp at this
  |_=>have:=h.2;simp at this
def dIn(neg kt:Bool):D->D->Option D
 |k,.dict kvs=>if o9 kt k then cz (.bool (neg !=y6 kvs k)) else el
 |_,_=>el
def a7n(kt:Bool):D->D->Option D
 |.dict kvs,k=>if o9 kt k then D4 kvs k else el
 |_,_=>el
def b1C:List D->Option D
 |[.dict kvs]=>cz (.int kvs.length)
 |_=>el
theorem x8:∀{es:List (D×V×V)} {ds:List D},ds.length=es.length->y6 ((es.map (·.1)).zip ds) k=u7 es k
 |[],ds,_=>by simp[y6,u7]
 |e::es,[],h=>by simp at h
 |e::es,d::ds,h=>by
  have ih:=x8 (k:=k) (es:=es) (ds:=ds) (by simpa using h);unfold y6 u7 at ih ⊢;simp only[ay,dW,List.any_cons,ih]
theorem a0E:∀{es:List (D×V×V)} {ds:List D} {j:Nat} {e:D×V×V} {d:D},ds.length=es.length->(∀e∈es,aK e.1 k=p4↔e.1=k)->(es.map (·.1)).Nodup->es[j]?=cz e->e.1=k->ds[j]?=cz d->D4 ((es.map (·.1)).zip ds) k=cz d
 |[],ds,j,e,d,_,_,_,he,_,_=>by simp at he
 |e0::es,[],j,e,d,h,_,_,_,_,_=>by simp at h
 |e0::es,d0::ds,0,e,d,h,hk,_,he,fO,hd=>by
  cases he
  cases hd
  have:aK e0.1 k=p4:=(hk _ aj).mpr fO;simp[D4,this]
 |e0::es,d0::ds,j+1,e,d,h,hk,hn,he,fO,hd=>by
  rw[ay,br]at hn;have kN:es[j]?=cz e:=by simpa using he
  have lP:ds[j]?=cz d:=by simpa using hd
  have ih:=a0E (k:=k) (by simpa using h) (λe he=>hk e (ak _ he)) hn.2 kN fO lP;have gC:aK e0.1 k=rp:=by
   cases q:aK e0.1 k with
   |false=>rfl
   |true=>exact absurd (by rw[(hk _ aj).mp q,<-fO];exact bt (bA kN)) hn.1
  unfold D4 at ih ⊢;simp only[ay,dW,gX,gC];exact ih
def a9A(h:y6 kvs k=rp):D4 kvs k=el:=by
 unfold y6 at h;rw[cx]at h;unfold D4;rw[fT.mpr λp hp=>by simpa using h p hp];rfl
def a0F(h:D4 kvs k=cz d):y6 kvs k=p4:=by
 cases q:y6 kvs k with
 |true=>rfl
 |false=>rw[a9A q]at h;cases h
def a4e(h:y6 kvs k=rp):p6 kvs k d=kvs++[(k,d)]:=by unfold p6;rw[h];rfl
def W3{es:List (D×V×V)}{ds:List D}{k d:D}{kv v:V}(hl:ds.length=es.length):((es++[(k,kv,v)]).map (·.1)).zip (ds++[d])=(es.map (·.1)).zip ds++[(k,d)]:=by
 rw[aM,oV (by rw[ah];exact hl.symm)];rfl
theorem O9{v:V}:∀{es:List (D×V×V)} {ds:List D} {j:Nat} {e:D×V×V},ds.length=es.length->(∀e∈es,aK e.1 k=p4↔e.1=k)->(es.map (·.1)).Nodup->es[j]?=cz e->e.1=k->
  ((es.map (·.1)).zip ds).map (λp=>if aK p.1 k then (p.1,d) else p)=(es.map (·.1)).zip (ds.set j d)
 |[],ds,j,e,_,_,_,he,_=>by simp at he
 |e0::es,[],j,e,h,_,_,_,_=>by simp at h
 |e0::es,d0::ds,0,e,h,hk,hn,he,fO=>by
  cases he
  rw[ay,br]at hn;have h0:aK e0.1 k=p4:=(hk _ aj).mpr fO;have jx:((es.map (·.1)).zip ds).map (λp=>if aK p.1 k then (p.1,d) else p)=(es.map (·.1)).zip ds:=by
   have:∀p∈(es.map (·.1)).zip ds,(if aK p.1 k then (p.1,d) else p)=p:=λp hp=>by
    rw[aL];intro q;have hm:=(fW hp).1;obtain⟨e',kN,hq⟩:=aR.mp hm;have vo:e'.1=p.1:=hq;rw[<-vo]at q;exact hn.1 (by rw[fO,<-(hk e' (ak _ kN)).mp q];exact bt kN)
   rw[bU this,kD]
  simp only[ay,dW,mH,aG h0,jx]
 |e0::es,d0::ds,j+1,e,h,hk,hn,he,fO=>by
  rw[ay,br]at hn;have kN:es[j]?=cz e:=by simpa using he
  have ih:=O9 (k:=k) (d:=d) (v:=v) (ds:=ds) (by simpa using h) (λe he=>hk e (ak _ he)) hn.2 kN fO;have gC:¬ aK e0.1 k=p4:=λq=>hn.1 (by rw[(hk _ aj).mp q,<-fO];exact bt (bA kN))
  simp only[ay,dW,jB,aL gC,ih]
section
variable {K:af}{H:Hp}{F:List av}
theorem Own.dict(h:Own K H F (.d kt u) v d fp):∃a es ds fs,v=.ref a/\H a=cz (e6 a es)/\d=.dict ((es.map (·.1)).zip ds)/\fp=a::fs/\(∀e∈es,keyOk kt e.1/\Den K (cut H F) e.2.1 e.1)/\ListAll (Own K H F u) (es.map (·.2.2)) ds fs/\ds.length=es.length/\(es.map (·.1)).Nodup:=by
 simp only[Own]at h;obtain⟨a,es,ds,fs,h1,h2,h3,h4,h5,h6⟩:=h;exact⟨a,es,ds,fs,h1,h2,h3,h4,h5.2,h6,by have:=h6.length;rw[ah]at this;exact this.symm,h5.1⟩
end
section
variable {X:Cx}{M:List Md}{a b e:Expr}{fa fb:EvE}{ca cb:Cat}{kt:Bool}{u:Ty}{pos:eM}
def keysAt(h:∀e∈es,keyOk kt e.1/\Den X.K (cut H F) e.2.1 e.1)(hk:o9 kt k=p4)(hd:Den X.K H kv k):KeysAt X H kt es k kv:=
 ⟨λe he=>⟨(h e he).1,(h e he).2.up i7⟩,x6 hk,hd⟩
def a3G(X:Cx)(neg:Bool):R2:=λx y H Q=>∃a es kt k,y=.ref a/\H a=cz (e6 a es)/\KeysAt X H kt es k x/\Q (.bl (neg !=u7 es k)) H
def b1D(hu:X.A.units+464<dq):OpR X (bQ .In) (a3G X rp):=by
 intro pins s Y H x y v w Q I rx ry h;obtain⟨a,es,kt,k,rfl,hH,K,q⟩:=h;cases (show w=a_ a from ry)
 exact b8Z (by lia) I hH K rx λs' I'=>⟨.bl _,H,I',rfl,by simpa using q⟩
def a1p(hu:X.A.units+464<dq):OpR X (bQ .NotIn) (a3G X p4):=by
 intro pins s Y H x y v w Q I rx ry h;obtain⟨a,es,kt,k,rfl,hH,K,q⟩:=h;cases (show w=a_ a from ry)
 exact b1B (by lia) I hH K rx λs' I'=>⟨.bl _,H,I',rfl,by simpa using q⟩
def a5S(h:dIn neg kt k d=cz r):∃kvs,d=.dict kvs/\o9 kt k=p4/\r=.bool (neg !=y6 kvs k):=by
 cases d with
 |dict kvs=>
  have h':(if o9 kt k then cz (dE (neg !=y6 kvs k)) else el)=cz r:=h;by_cases c:o9 kt k=p4
  ·rw[aG c]at h';exact⟨kvs,rfl,c,(aH h').symm⟩
  ·rw[aL c]at h';cases h'
 |_=>cases h
def b4c(ho:OpR X (bQ op) (a3G X neg))(ha:PX X M a fa ca)(hb:PX X M b fb (.bor (.d kt u)))(S:StE X.K M U Y H P F)(e1:Same H H1)(e2:Same H1 H2)
  (r1:ResR X.K ca H H1 F v k) (r2:ResR X.K (.bor (.d kt u)) H1 H2 F w d) (hr:dIn neg kt k d=cz r) (q:Q (.bl (match r with|.bool b=>b|_=>rp)) H2):a3G X neg v w H2 Q:=by
 obtain⟨kvs,rfl,hk,rfl⟩:=a5S hr;obtain⟨fp,o,_⟩:=r2;obtain⟨p,es,ds,fs,rfl,hH,hd,_,h5,_,hl,_⟩:=o.dict;cases hd
 refine⟨p,es,kt,k,rfl,hH,keysAt h5 hk (r1.den.up e2),?_⟩;rw[<-x8 hl];exact q
def b7e(ho:OpR X (bQ op) (a3G X neg))(ha:PX X M a fa ca)(hb:PX X M b fb (.bor (.d kt u)))(hm:autoParam (et op b=rp) ZX._auto_1):PTX X M (.Compare a [op] [b] pos) (tB (e2 (dIn neg kt) fa fb)):=by
 obtain⟨ta,pa,qa⟩:=ha.out;obtain⟨tb,pb,qb⟩:=hb.out;refine .mk ⟨_,a0p ho pa pb hm,λU Y H P F k Q S hf q=>?_⟩;obtain⟨d,hf,hk⟩:=bnd hf;cases F6 hk
 obtain⟨x,y,h1,h2,h3⟩:=C0 hf;exact qa U Y H P F x _ S h1 λv H1 e1 r1=>qb U Y H1 P F y _ (S.grow e1) h2 λw H2 e2 r2=>b4c ho ha hb S e1 e2 r1 r2 h3 ⟨k,rfl,q H2 (e1.trans e2)⟩
def c0r(X:Cx)(td ty:TE):TE:=λY H Q=>td Y H λx H1=>ty Y H1 λy H2=>∃a es kt k,x=.ref a/\H2 a=cz (e6 a es)/\KeysAt X H2 kt es k y/\u7 es k=p4/\∀e∈es,e.1=k->Q e.2.2 H2
def b1E(hu:X.A.units+464<dq)(ho:PE X a td)(hi:PE X b ty)(hs:a4d b):PE X (.Subscript a b pos) (c0r X td ty):=by
 intro pins s Y H Q I h;refine b8Y qO.lookup hs (L2.thn (ho pins s Y H _ I h) λu s1 ⟨x,H1,I1,rx,q1⟩=>L2.thn (hi pins s1 Y H1 _ I1 q1) λiv s2 ⟨y,H2,I2,ry,p,es,kt,k,ex,hH,K,hh,q2⟩=>?_);subst ex;obtain rfl:u=a_ p:=rx;exact⟨j9 I2 hH,a2F (by lia) I2 hH K ry hh λe he fO x s3 I3 r3=>⟨e.2.2,H2,I3,r3,q2 e he fO⟩⟩
def a9B(h:a7n kt d k=cz r):∃kvs,d=.dict kvs/\o9 kt k=p4/\D4 kvs k=cz r:=by
 cases d with
 |dict kvs=>
  have h':(if o9 kt k then D4 kvs k else el)=cz r:=h;by_cases c:o9 kt k=p4
  ·rw[aG c]at h';exact⟨kvs,rfl,c,h'⟩
  ·rw[aL c]at h';cases h'
 |_=>cases h
def b7f{es:List (D×V×V)}{ds:List D}{e:D×V×V}(h6:ListAll (Own X.K H F u) (es.map (·.2.2)) ds fs)(hl:ds.length=es.length)(hn:(es.map (·.1)).Nodup)(K:KeysAt X H kt es k kv)(he:e∈es)(fO:e.1=k) :
  ∃(j:Nat) (d:D) (f:List av),es[j]?=cz e/\ds[j]?=cz d/\D4 ((es.map (·.1)).zip ds) k=cz d/\Own X.K H F u e.2.2 d f/\∀x∈f,x∈fs:=by
 obtain⟨j,hj⟩:=bJ.mp he;have gG:j<ds.length:=by rw[hl];exact (aO.mp hj).1
 obtain⟨w,f,pre,post,z1,z2,z3,_⟩:=h6.at_ (au gG);rw[aX,hj]at z1;cases z1
 refine⟨j,ds[j],f,hj,au gG,a0E hl (λe he=>K.eqv he) hn hj fO (au gG),z2,λx hx=>?_⟩;rw[z3];exact aq _ (aA _ hx)
end
section
variable {X:Cx}{M:List Md}{a b e o:Expr}{es:List Expr}{fa fb:EvE}{ca cb:Cat}{kt:Bool}{u:Ty}{pos apos cF:eM}{to:TE}{t:TA}{name:bH}{id:String}{r:V->List V->Hp->VK->Prop}
def b7g(hu:X.A.units+464<dq)(ha:PX X M a fa (.bor (.d kt u)))(hb:PX X M b fb cb)(hs:a4d b:=by exact λ_ _=>rfl):PX X M (.Subscript a b pos) (e2 (a7n kt) fa fb) (.bor u):=by
 obtain⟨ta,pa,qa⟩:=ha.out;obtain⟨tb,pb,qb⟩:=hb.out;refine .mk ⟨_,b1E hu pa pb hs,λU Y H P F d Q S hf q=>?_⟩;obtain⟨x,y,h1,h2,h3⟩:=C0 hf;obtain⟨kvs,rfl,hk,hg⟩:=a9B h3;refine qa U Y H P F _ _ S h1 λv H1 e1 ⟨fp,o,sub⟩=>qb U Y H1 P F y _ (S.grow e1) h2 λw H2 e2 r2=>?_
 obtain⟨p,es,ds,fs,rfl,hH,hd,rfl,h5,h6,hl,hn⟩:=(o.grow e2).dict;cases hd
 have K:=keysAt (X:=X) h5 hk r2.den;refine⟨p,es,kt,y,rfl,hH,K,by rw[<-x8 hl];exact a0F hg,λe he fO=>?_⟩;obtain⟨j,d',f,_,_,g',o',s'⟩:=b7f h6 hl hn K he fO;rw[hg]at g';cases g'
 exact q _ H2 (e1.trans e2) ⟨f,o',λx hx=>sub x (ak _ (s' x hx))⟩
def c0s(r:V->List V->Hp->VK->Prop)(to:TE)(t:TA):TE:=λY H Q=>to Y H λx H1=>(∃p es,x=.ref p/\H1 p=cz (e6 p es))/\t Y H1 λxs H2=>r x xs H2 Q
def b1F(slot:Slot "dict" name id)(ve:typeOf (.builtin id)=pure (.type "method_descriptor"))(hm:MtR X id r)(ho:PE X o to)(ha:PA X (e::es) t)
  (eD:cZ o name X.env (cy o X.env)=cy o X.env:=by rfl)
  (lr:((cB cF (ax (e::es) X.env)).all (λx=>!x.1)&&(qw cF (kF [] X.env)).all (λx=>x.1.isSome)
   && decide ((e::es).length+([]:List iQ).length+(if ([]:List iQ).isEmpty then 0 else 1)<30))=p4:=by rfl)
  (eB:(apos.endLine==cF.line)=p4:=by rfl) (hs:ax (e::es) X.env=(rp,cy e X.env)::ax es X.env:=by rfl) (ig:(cB cF (ax es X.env)).any (·.1)=rp:=by rfl) :
  PE X (.Call (.Attribute o name apos) (e::es) [] cF) (c0s r to t):=by
 intro pins s Y H Q I h;refine BV eD lr eB rfl (L2.thn (ho pins s Y H _ I h) λv s1 ⟨x,H1,I1,r1,⟨p,Gy,ex,hH⟩,q1⟩=>?_);subst ex;obtain rfl:v=a_ p:=r1;refine⟨"dict",id,h_,slot,ve,j9 I1 hH,L4 I1 hH,?_⟩;have hA:=ha cF pins s1 Y H1 _ I1 q1;rw[hs]at hA ⊢;refine eX (by show (rp||(cB cF (ax es X.env)).any (·.1))=rp;rw[ig]<;>rfl) (nE ?_);exact L2.thn hA λus s2 ⟨vs,H2,I2,r2,q2⟩=>hm pins s2 Y H2 (.ref p) vs (.ref p) us Q I2 rfl r2 q2
def a9C:CallR X (.builtin "len") (λxs H Q=>∃p es,xs=[V.ref p]/\H p=cz (e6 p es)/\Q (.int es.length) H):=by
 intro pins s Y H xs us Q I rv h;obtain⟨p,es,rfl,hH,q⟩:=h;obtain⟨w,rfl,rw⟩:=rv.one;cases (show w=a_ p from rw)
 exact b7d I hH λt s' I'=>⟨.int es.length,H,I',⟨t,rfl⟩,q⟩
def a1H(h:bR)(hb:cN<h.objs.size):ObjOk P w H (h.push {cls:=.type "dict",data:=.dict #[]}) h.objs.size (e6 h.objs.size []):=
 Y1 (gL.mpr (dc (ba hb))) (b_ _) bp (aE _ rfl) ⟨rfl,rfl,rfl⟩ rfl (λ_=>rfl) .nil
def a5T:PE X (.Dict [] [] pos) (λ_ H Q=>∀p,H p=el->Q (.ref p) (upd H p (e6 p []))):=λpins s Y H Q I h=>
 wpAny_Dict_empty ⟨.ref s.heap.objs.size,_,I.laid (a:=s.heap.objs.size) (o:=e6 s.heap.objs.size []) (t':=s.toks) (λ_ _ q=>ag _ q) (aB _) (a1H s.heap I.sysBelow),rfl,h _ (I.hok.fresh (aB _))⟩
def W4(kt:Bool)(u:Ty):PX X M (.Dict [] [] pos) (eC (.dict [])) (.new (.d kt u)):=by
 refine .mk ⟨_,a5T,λU Y H P F d Q S hf q=>?_⟩;cases hf
 intro p hp;refine q _ _ (k6 hp _) ⟨[p],?_,by simp,λa ha=>by rw[ao.mp ha];exact hp⟩;simp only[Own];exact⟨p,[],[],[],rfl,i4,rfl,rfl,⟨bp,λe he=>(nomatch he)⟩,m7⟩
end
section
variable {K:af}{H:Hp}{F:List av}
theorem StE.dict(S:StE K M U Y H P F)(hm:M[i]?=cz (.own (.d kt u))) :
  ∃a es ds fs,Y[i]?=cz (cz (.ref a))/\H a=cz (e6 a es)/\U.getD i .none=.dict ((es.map (·.1)).zip ds)/\(∀e∈es,keyOk kt e.1/\Den K (cut H F) e.2.1 e.1)/\ListAll (Own K H F u) (es.map (·.2.2)) ds fs/\ds.length=es.length/\(es.map (·.1)).Nodup:=by
 obtain⟨v,f,h1,o,_⟩:=S.get hm;obtain⟨a,es,ds,fs,rfl,h2,h3,_,h5,h6,h7,h8⟩:=o.dict;exact⟨a,es,ds,fs,h1,h2,h3,h5,h6,h7,h8⟩
theorem a2G:∀{es:List (D×V×V)} {j:Nat} {e:D×V×V},(es.map (·.1)).Nodup->(∀e∈es,aK e.1 k=p4↔e.1=k)->es[j]?=cz e->e.1=k->(es.map λe=>if aK e.1 k then (e.1,e.2.1,v) else e).map (·.2.2)=(es.map (·.2.2)).set j v
 |[],j,e,_,_,hj,_=>by simp at hj
 |e0::es,0,e,hn,iA,hj,fO=>by
  rw[ay,br]at hn;cases hj
  have jx:es.map (λe=>if aK e.1 k then (e.1,e.2.1,v) else e)=es:=by
   have:∀e'∈es,(if aK e'.1 k then (e'.1,e'.2.1,v) else e')=e':=λe' kN=>by
    rw[aL];intro q;exact hn.1 (by rw[fO,<-(iA e' (ak _ kN)).mp q];exact bt kN)
   rw[bU this,kD]
  rw[ay,aG ((iA _ aj).mpr fO),jx];rfl
 |e0::es,j+1,e,hn,iA,hj,fO=>by
  rw[ay,br]at hn;have AI:es[j]?=cz e:=by simpa using hj
  have gC:¬ aK e0.1 k=p4:=λq=>hn.1 (by rw[(iA _ aj).mp q,<-fO];exact bt (bA AI))
  rw[ay,aL gC,ay,ay,jB,a2G hn.2 (λe he=>iA e (ak _ he)) AI fO]
def Pend.dput(h:Pend K ([]++[.own u]) ([]++[d]) ([]++[cz v]) M U Y H P F)(hm:M[i]?=cz (.own (.d kt u)))(hk:keyOk kt k)(yO:Den K H kv k) :
  ∃a es ds fs,Y[i]?=cz (cz (.ref a))/\H a=cz (e6 a es)/\U.getD i .none=.dict ((es.map (·.1)).zip ds)/\(∀e∈es,keyOk kt e.1/\Den K (cut H F) e.2.1 e.1)/\ListAll (Own K H F u) (es.map (·.2.2)) ds fs/\ds.length=es.length/\(es.map (·.1)).Nodup/\
   StR K M (U.set i (.dict (p6 ((es.map (·.1)).zip ds) k d))) Y (upd H a (e6 a (Q4 es k kv v))) P F:=by
 obtain⟨_,_,S⟩:=h;obtain⟨G,h1,h2,h3⟩:=S.all;have lC:StAll K H F (.own u::M) (d::U) (cz v::Y) G:=by simpa using h1
 simp only[StAll]at lC;obtain⟨d',U',o',Y',fv,G2,e1,e2,rfl,⟨v',e3,ov⟩,h5⟩:=lC;cases e1
 cases e2
 cases e3
 obtain⟨dd,oo,f,pre,post,q1,q2,⟨v2,rfl,q3⟩,rfl,q5⟩:=h5.at_ hm;obtain⟨a,es,ds,fs,rfl,r2,r3,rfl,r5,r6,hl,hn⟩:=q3.dict;have mL:a∈F:=h3 a (by simp);have eK:∀o,Same (cut H F) (cut (upd H a o) F):=λo b o' hb=>by
  obtain⟨n1,n2⟩:=o6 hb;exact j6 n1 (by rw[f6 (show b≠a from λz=>n1 (z▸mL))];exact n2)
 have cnt:∀b,b=a->(pre++post).count b=0/\fs.count b=0/\fv.count b=0:=λb e=>by
  subst e;have:=cn.mp h2 b;simp only[aZ,bh,fy]at this ⊢;exact⟨by lia,by lia,by lia⟩
 have kk:∀(l:List av) (o:HO),(∀b,b=a->l.count b=0)->∀b∈l,upd H a o b=H b:=λl o hc b hb=>f6 λz=>by
  have:=hc b z;rw[dF]at this;exact this hb
 have vD:Den K (cut H F) kv k:=yO.imm_out S.lst k (V6 _ hk.1);have iA:∀e∈es,aK e.1 k=p4↔e.1=k:=λe he=>B6 e.1 k (r5 e he).1.1 hk.1
 have fin:∀(eJ:List (D×V×V)) (iu:List D) (jW:List av),(eJ.map (·.1)).Nodup->(∀e∈eJ,keyOk kt e.1/\Den K (cut H F) e.2.1 e.1)->ListAll (Own K (upd H a (e6 a eJ)) F u) (eJ.map (·.2.2)) iu jW->(∀b,jW.count b<=fs.count b+fv.count b)->
   StR K M (U.set i (.dict ((eJ.map (·.1)).zip iu))) Y (upd H a (e6 a eJ)) P F:=λeJ iu jW sZ qH ha nT=>by
  have o1:Own K (upd H a (e6 a eJ)) F (.d kt u) (.ref a) (.dict ((eJ.map (·.1)).zip iu)) (a::jW):=by
   simp only[Own];exact⟨a,eJ,iu,jW,rfl,i4,rfl,rfl,⟨sZ,λe he=>⟨(qH e he).1,(qH e he).2.up (eK _)⟩⟩,ha⟩
  have q:=q5 (upd H a (e6 a eJ)) F (.own (.d kt u)) (.dict ((eJ.map (·.1)).zip iu)) (cz (.ref a)) _ (kk _ _ λb e=>(cnt b e).1) (eK _) ⟨_,rfl,o1⟩;rw[set_same (l:=Y) q2,set_same (l:=M) hm]at q;refine⟨⟨_,q,N3 h2 λb=>?_,λb hb=>?_⟩,λb hb=>?_,S.prot.trans (eK _)⟩
  ·have:=nT b;simp only[aZ,bh,cS];lia
  ·have hc:0<(fv++(pre++(a::fs++post))).count b:=by
    have h0:=cO.mpr hb;have:=nT b;simp only[aZ,bh,cS]at h0 ⊢;lia
   exact h3 b (cO.mp hc)
  ·by_cases e:b=a
   ·subst e;exact⟨⟨e6 b eJ,trivial⟩,i4⟩
   ·obtain⟨ys,y⟩:=S.lst b hb;exact⟨ys,by rw[f6 e];exact y⟩
 refine⟨a,es,ds,fs,q2,r2,by rw[A2 q1];exact r3,r5,r6,hl,hn,?_⟩;cases hf:u7 es k with
 |false=>
  rw[a2D hf,a4e (by rw[x8 hl];exact hf),<-W3 (kv:=kv) (v:=v) hl];refine fin (es++[(k,kv,v)]) (ds++[d]) (fs++fv) ?_ ?_ ?_ λb=>by rw[aZ];exact aB _
  ·rw[aM,bb];refine⟨hn,by simp,λx hx y hy e=>?_⟩;simp only[ay,cE,ao]at hy;subst hy;subst e;obtain⟨e,he,rfl⟩:=aR.mp hx;unfold u7 at hf;rw[cx]at hf;exact hf e he ((iA e he).mpr rfl)
  ·intro e he;rcases az.mp he with z|z
   ·exact r5 e z
   ·rw[ao.mp z];exact⟨hk,vD⟩
  ·rw[aM];refine (l9 (eK _) r6 (kk _ _ λb e=>(cnt b e).2.1)).append ?_;have:=m4 (R:=Own K (upd H a (e6 a (es++[(k,kv,v)]))) F u) (ov.frame (eK _) u (kk _ _ λb e=>(cnt b e).2.2)) m7
   rwa[bz]at this
 |true=>
  have hh:=hf;unfold u7 at hf;rw[cX]at hf;obtain⟨e,he,fO⟩:=hf;have pW:=(iA e he).mp fO;obtain⟨j,hj⟩:=bJ.mp he;have uk:j<ds.length:=by rw[hl];exact (aO.mp hj).1
  have nN:Q4 es k kv v=es.map λe=>if aK e.1 k then (e.1,e.2.1,v) else e:=by unfold Q4;rw[hh];rfl
  have mU:p6 ((es.map (·.1)).zip ds) k d=(es.map (·.1)).zip (ds.set j d):=by
   unfold p6;rw[x8 hl,hh];exact O9 (v:=v) hl iA hn hj pW
  have mX:(Q4 es k kv v).map (·.1)=es.map (·.1):=by rw[nN];exact a2E
  rw[mU,<-mX];obtain⟨w3,f3,a1,a2,s1,s2,pw,s4⟩:=r6.zip (au uk);have pK:(Q4 es k kv v).map (·.2.2)=(es.map (·.2.2)).set j v:=by
   rw[nN];exact a2G hn iA hj pW
  refine fin (Q4 es k kv v) (ds.set j d) (a1++(fv++a2)) (by rw[mX];exact hn) ?_ ?_ λb=>by rw[pw];simp only[aZ];lia
  ·intro e' kN;rw[nN]at kN;obtain⟨e0,tD,rfl⟩:=aR.mp kN
   split
   ·exact r5 e0 tD
   ·exact r5 e0 tD
  ·rw[pK];have c5:∀b,b=a->(a1++a2).count b=0:=λb e=>by have:=(cnt b e).2.1;rw[pw]at this;simp only[aZ]at this ⊢;lia
   exact s4 _ F v d fv (kk _ _ c5) (eK _) (ov.frame (eK _) u (kk _ _ λb e=>(cnt b e).2.2))
end
def pOk(kvs:List (D×D))(k:D):Bool:=!(a0b k&&y6 kvs k)
def b4d{kvs:List (D×D)}{k:D}(h:y6 kvs k=rp):pOk kvs k=p4:=by unfold pOk;rw[h,Bool.and_false];rfl
def a9D{kvs:List (D×D)}{k:D}(h:a0b k=rp):pOk kvs k=p4:=by unfold pOk;rw[h];rfl
def J1(i:Nat)(kt:Bool)(fk fv:EvE):EvS:=λU=>(fv U).bind λd=>(fk U).bind λk=>match U.getD i .none with
 |.dict kvs=>if o9 kt k&&decide (kvs.length<1000000)&&pOk kvs k then cz (.nx (U.set i (.dict (p6 kvs k d)))) else el
 |_=>el
abbrev EvX:=List D->Option (D×List D)
def p5(kvs:List (D×D))(k d:D):List (D×D):=if y6 kvs k then kvs else kvs++[(k,d)]
def PXE(X:Cx)(M:List Md)(e:Expr)(f:EvX)(u:Ty)(M1:List Md):Prop:=
 ∃t,PE X e t/\∀(U:List D) (Y:L2.St) (H P:Hp) (F:List av) (d:D) (U':List D) (Q:VK),StR X.K M U Y H P F->f U=cz (d,U')->
  (∀v H' F',Pend X.K ([]++[.own u]) ([]++[d]) ([]++[cz v]) M1 U' Y H' P F'->Q v H')->t Y H Q
section
variable {X:Cx}{M M1 ML:List Md}{e k v:Expr}{fk fe fv:EvE}{f:EvX}{ck:Cat}{kt:Bool}{u w:Ty}{pos apos cF ir:eM}
def b5C(X:Cx)(td ty tv:TE):TS:=λD Y H=>tv Y H λv H1=>td Y H1 λx H2=>ty Y H2 λy H3=>∃a es kt k,x=.ref a/\H3 a=cz (e6 a es)/\KeysAt X H3 kt es k y/\es.length<aP/\(u7 es k=p4->a0b k=rp)/\D.nx Y (upd H3 a (e6 a (Q4 es k y v)))
def a8v(hu:X.A.units+464<dq)(ho:PE X o td)(hi:PE X k ty)(hv:PE X v tv)(hs:fE v (cz (.Subscript o k ir)) pos.line X.env=pure rp) :
  PS X (.Assign [.Subscript o k ir] v pos) (b5C X td ty tv):=by
 intro pins s Y H D I h;refine wpAny_Assign_Subscript (L2.thn (hv pins s Y H _ I h) λr s1 ⟨v,H1,I1,rv,q1⟩=>L2.thn (ho pins s1 Y H1 _ I1 q1) λu s2 ⟨x,H2,I2,rx,q2⟩=>L2.thn (hi pins s2 Y H2 _ I2 q2) λiv s3 ⟨y,H3,I3,ry,a,es,kt,k,ex,hH,K,hl,hp,q3⟩=>?_) hs;subst ex;obtain rfl:u=a_ a:=rx;exact a7m (by lia) I3 hH K ry rv hl hp λs4 I4=>⟨Y,_,I4,q3⟩
def b1G{es:List (D×V×V)}{ds:List D}{k:D}(hl:ds.length=es.length)(h:pOk ((es.map (·.1)).zip ds) k=p4):u7 es k=p4->a0b k=rp:=λhE=>by
 unfold pOk at h;rw[x8 hl,hE]at h;cases c:a0b k with
 |false=>rfl
 |true=>rw[c]at h;cases h
def b1H{kt:Bool}{k:D}(hk:kt=rp)(h:o9 kt k=p4):a0b k=rp:=by
 subst hk;obtain⟨i,rfl⟩:=(x6 h).2.2.2 rfl;rfl
def a2e(i:Nat)(hu:X.A.units+464<dq)(hk:PX X M1 k fk ck)(hv:PMX X M v fv u M1)(hN:X.N[i]?=cz x:=by rfl)(nF:autoParam (NmV X x) ZY._auto_1)(hm:M1[i]?=cz (.own (.d kt u)):=by rfl)(hs:fE v (cz (.Subscript (.Name x px) k ir)) pos.line X.env=pure rp:=by rfl) :
  PSX X w ML M (.Assign [.Subscript (.Name x px) k ir] v pos) (J1 i kt fk fv) M1:=by
 obtain⟨tv,pv,qv⟩:=hv;obtain⟨tk,pk,qk⟩:=hk.out;refine .mk ⟨_,a8v hu (C4 hN nF.1 nF.2.1 nF.2.2) pk pv hs,λD U Y H P F o S hg kk=>?_⟩;obtain⟨d,h1,g1⟩:=bnd hg;obtain⟨y,h2,g2⟩:=bnd g1;refine qv [] [] [] U Y H P F d _ S.pend h1 λv1 H1 F1 e1 S1=>?_
 obtain⟨a,es,ds,fs,ha,hH,hU,_⟩:=S1.e.dict hm;rw[hU]at g2;have lD:(if (o9 kt y&&decide (((es.map (·.1)).zip ds).length<1000000)&&pOk ((es.map (·.1)).zip ds) y)=p4 then cz (Out.nx (U.set i (.dict (p6 ((es.map (·.1)).zip ds) y d)))) else el)=cz o:=g2;by_cases c0:(o9 kt y&&decide (((es.map (·.1)).zip ds).length<1000000)&&pOk ((es.map (·.1)).zip ds) y)=p4
 ·rw[aG c0]at lD;cases lD
  rw[aw,aw]at c0;have c:=c0.1;refine⟨_,ha,qk U Y H1 P F1 y _ S1.e h2 λkv H2 e2 r2=>?_⟩;obtain⟨a',eJ,iu,jW,rD,ER,oH,hK,_,pd,_,S3⟩:=(S1.grow e2).dput hm (x6 c.1) r2.den;rw[ha]at rD;cases rD
  rw[hU]at oH
  injection oH with oH
  refine⟨a,eJ,kt,y,rfl,ER,keysAt hK c.1 r2.den,?_,b1G pd (by rw[<-oH];exact c0.2),kk Y _ F1 (by rw[oH];exact S3)⟩;have hlen:((eJ.map (·.1)).zip iu).length=eJ.length:=by rw[dh,ah,pd,kB]
  rw[<-hlen,<-oH];exact fu (aW c.2) (by rw[cM];decide)
 ·rw[aL c0]at lD;cases lD
def b7h(X:Cx):V->List V->Hp->VK->Prop:=λx xs H Q=>∃p es kt k y z,x=.ref p/\xs=[y,z]/\H p=cz (e6 p es)/\KeysAt X H kt es k y/\es.length<aP/\(u7 es k=rp->Q z (upd H p (e6 p (es++[(k,y,z)]))))/\∀e∈es,e.1=k->Q e.2.2 H
def b4e(hu:X.A.units+464<dq):MtR X "dict.setdefault" (b7h X):=by
 intro pins s Y H x xs v us Q I rx rv h;obtain⟨p,es,kt,k,y,z,rfl,rfl,hH,K,hl,q1,q2⟩:=h;cases (show v=a_ p from rx)
 obtain⟨w1,w2,rfl,r1,r2⟩:=vals2 rv;exact b4b (by lia) I hH K r1 r2 hl (λhf s' I'=>⟨z,_,I',r2,q1 hf⟩) λe he fO x s' I' r'=>⟨e.2.2,H,I',r',q2 e he fO⟩
end
def intsOf:List D->Option (List Int)
 |[]=>cz []
 |.int i::r=>(intsOf r).map (i::·)
 |_=>el
theorem K0:∀{ds:List D} {is:List Int},intsOf ds=cz is->ds=is.map .int
 |[],is,h=>by cases h;rfl
 |.int i::r,is,h=>by
  obtain⟨js,h1,rfl⟩:=dt.mp (show (intsOf r).map (i::·)=cz is from h);rw[ay,<-K0 h1]
 |.none::_,_,h|.bool _::_,_,h|.str _::_,_,h|.list _::_,_,h|.tuple _::_,_,h|.dict _::_,_,h=>nomatch h
def a0f(is:List Int):intsOf (is.map .int)=cz is:=by
 induction is with
 |nil=>rfl
 |cons i is ih=>show (intsOf (is.map .int)).map (i::·)=_;rw[ih];rfl
def a8w{X:Cx}{pins:List (av×fD)}{Y:L2.St}{H:Hp}{s:ar}{h':bR}{t':Nat}{ch:List av}{T:av}{xs:List V}(I:Inv X pins Y H s)(k:∀b o,b∉ch->s.heap.get? b=cz o->h'.get? b=cz o)
  (hf:∀b∈ch,a0o X pins H b) (hT:s.heap.objs.size<=T) (new:ObjOk X.prog X.w (upd H T (.tup xs)) h' T (.tup xs)):Inv X pins Y (upd H T (.tup xs)) {s with heap:=h',toks:=t'}:=by
 have hn:H T=el:=I.hok.fresh hT;have neT:∀b o,s.heap.get? b=cz o->b≠T:=λb o e z=>absurd (bu (aF e) (by rw[z];exact hT)) (dg _)
 have pH:∀b u,H b=cz u->b∉ch:=λb u e hb=>by rw[(hf b hb).1]at e;cases e
 refine I.step (g':=s.gens) (d':=s.drawn) (ch:=ch) (λb hb=>⟨(hf b hb).2.2.2.1,(hf b hb).2.1,(hf b hb).2.2.2.2.1,(hf b hb).2.2.2.2.2⟩) (λb o _ _ hc e _=>k b o hc e) (λb o _ _ hc e _=>⟨o.slots,k b o hc e⟩) (λb o _ e n=>by rw[f6 (neT b o e)];exact n)
  (λb o hc e=>⟨o,k b o hc e⟩) (λb ys e=>by rw[f6 (n8 e hn)];exact e) (λb o u e=>by rw[f6 (n8 e hn)];exact e) (λb ps e=>⟨#[],by rw[f6 (n8 e hn),e];simp⟩) (λm hm=>?_) (λb u e=>?_) I.bare
 ·obtain⟨o,es,ep,ho,r⟩:=hm;exact⟨o,es,ep,k _ o (λhb=>(hf _ hb).2.1 rfl) ho,r⟩
 ·by_cases hb:b=T
  ·subst hb;rw[i4]at e;cases e;exact new
  ·rw[f6 hb]at e;refine (I.hok b u e).stay (λc v hc q=>k c v ?_ q) (λc q=>by rw[f6 (n8 q hn)];exact q) λc ys q=>by rw[f6 (n8 q hn)];exact q
   rcases hc with z|z
   ·rw[z];exact pH b u e
   ·exact pH c _ z
def a2f{X:Cx}{pins:List (av×fD)}{Y:L2.St}{H:Hp}{s:ar}{h':bR}{t':Nat}{ch:List av}(I:Inv X pins Y H s)(k:∀b o,b∉ch->s.heap.get? b=cz o->h'.get? b=cz o)
  (hf:∀b∈ch,a0o X pins H b):Inv X pins Y H {s with heap:=h',toks:=t'}:=by
 have pH:∀b u,H b=cz u->b∉ch:=λb u e hb=>by rw[(hf b hb).1]at e;cases e
 refine I.step (g':=s.gens) (d':=s.drawn) (ch:=ch) (λb hb=>⟨(hf b hb).2.2.2.1,(hf b hb).2.1,(hf b hb).2.2.2.2.1,(hf b hb).2.2.2.2.2⟩) (λb o _ _ hc e _=>k b o hc e) (λb o _ _ hc e _=>⟨o.slots,k b o hc e⟩) (λb o _ e n=>n)
  (λb o hc e=>⟨o,k b o hc e⟩) (λb ys e=>e) (λb o u e=>e) (λb ps e=>⟨#[],by rw[e];simp⟩) (λm hm=>?_) (λb u e=>?_) I.bare
 ·obtain⟨o,es,ep,ho,r⟩:=hm;exact⟨o,es,ep,k _ o (λhb=>(hf _ hb).2.1 rfl) ho,r⟩
 ·refine (I.hok b u e).stay (λc v hc q=>k c v ?_ q) (λc q=>q) λc ys q=>q
  rcases hc with z|z
  ·rw[z];exact pH b u e
  ·exact pH c _ z
def Ite(K:af)(a:av):It:=
 ⟨λi H=>∃xs x,SqL K H a xs/\xs[i]?=cz x,λi H x H'=>∃T y,H T=el/\H'=upd H T (.tup [.int i,y])/\x=.ref T/\∀xs,SqL K H a xs->xs[i]?=cz y,λi H=>∃xs,SqL K H a xs/\xs.length<=i⟩
def a9E{P:bw}{w:bO}{K:af}{elts:List Expr}{kk:Nat}{ir:eM}(a e it:av)(Eb:e≠it):Turn P w K (.Tuple elts kk ir) (Ite K a) [e,it] e (λi h=>(∃old,IsEnum h e it i old)/\h.IsListIter it a i) where
 mem:=by simp
 obj:=λi h st b hb=>by
  obtain⟨⟨old,he⟩,o,eo,c,d⟩:=st;rcases aC.mp hb with rfl|hb
  ·exact⟨_,he,λv z=>by cases z⟩
  ·cases ao.mp hb
   exact⟨o,eo,λv z=>by rw[d]at z;cases z⟩
 keep:=λi h h' st k=>by
  obtain⟨⟨old,he⟩,hit⟩:=st;exact⟨⟨old,k e (by simp) _ he⟩,hit.at λo x=>k it (by simp) o x⟩
 item:=by
  intro X hP hw hK hc i pins s Y H E I hf st hg;subst hP hw hK;obtain⟨xs,x,hq,hx⟩:=hg;obtain⟨cK,rv,p,hz⟩:=I.list hq;obtain⟨u,hu,ru⟩:=rv.get hx;obtain⟨⟨old,he⟩,hit⟩:=st;have hle:a≠e:=λz=>by
   obtain⟨o,eo,c,_⟩:=p.isList;rw[z,he]at eo;cases eo
   exact absurd (show dS "enumerate"=dS "list" from c) (by decide)
  have DL:a≠it:=λz=>by
   obtain⟨o,eo,c,_⟩:=p.isList;obtain⟨o2,Fc,c2,_⟩:=hit;rw[z,Fc]at eo;cases eo
   rw[c2]at c;exact absurd c (by decide)
  have W:=WalksT.enumerate (prog:=X.prog) (w:=X.w) (A:=X.A) (I.ok.hd hc) e it a Eb hle DL cK.toArray;have lV:i<cK.toArray.size:=by
   have:=(aO.mp hu).1;simpa using this
  refine W.item i s _ E lV ⟨⟨old,he⟩,hit,p.isList⟩ λT vals h' tk hP hT sQ vZ hk=>⟨.ref T,rfl,W.go elts kk ir i T {s with heap:=h',toks:=tk} _ E vZ λh2 vh xb=>?_⟩
  obtain⟨t,y,hy,rfl⟩:=hP;have ey:y=u:=by
   have h1:cK[i]?=cz y:=by simpa using hy
   rw[hu]at h1;exact (aH h1).symm
  subst ey;have vT:=W.apart i T h' vZ;obtain⟨oT,eT,cT⟩:=sQ;have hn:H T=el:=I.hok.fresh hT;have new:ObjOk X.prog X.w (upd H T (.tup [.int i,x])) h2 T (.tup [.int i,x]):=by
   refine⟨by rw[cM];show 2<=_;decide,[.int i t,y],?_,oT,xb T oT vT eT,cT⟩;exact .cons ⟨t,rfl⟩ (.cons ru .nil)
  refine⟨.ref T,upd H T (.tup [.int i,x]),a8w (s:=s) (t':=tk) I (λb o hb q=>xb b o hb (hk b o hb q)) hf hT new,rfl,⟨T,x,hn,rfl,rfl,λys CU=>by rw[I.list_inj CU hq];exact hx⟩,⟨vh.1,vh.2.1⟩,λb hb=>?_⟩;rw[f6 (λz=>vT (by rw[<-z];exact hb))];exact (hf b hb).1
 done:=by
  intro X hP hw hK hc i pins s Y H E I hf st hg;subst hP hw hK;obtain⟨xs,hq,hx⟩:=hg;obtain⟨cK,rv,p,hz⟩:=I.list hq;have hl:=rv.length;obtain⟨⟨old,he⟩,hit⟩:=st;exact wpAny_pyNext_enum_end (I.ok.hd hc) he hit p.isList (eN (by simp;lia)) λh' hx=>⟨rfl,a2f (t':=s.toks) I (λb o hb y=>hx b o (λz=>hb (by simp[z])) y) hf⟩
 self:=λ_ _ _ _ _ st h=>by
  obtain⟨⟨old,he⟩,_⟩:=st;exact wpAny_pyIter_enum he h
def N7:List D->Nat->List D
 |[],_=>[]
 |d::ds,k=>.tuple [.int k,d]::N7 ds (k+1)
def iEn(a:EvE):EvA:=λU=>(a U).bind λd=>(asL d).bind λds=>cz (N7 ds 0)
theorem a2H:∀(ds:List D) (k:Nat),(N7 ds k).length=ds.length
 |[],_=>rfl
 |d::ds,k=>by show (N7 ds (k+1)).length+1=_;rw[a2H ds];rfl
theorem a2I:∀(ds:List D) (k i:Nat) (d:D),ds[i]?=cz d->(N7 ds k)[i]?=cz (.tuple [.int ((k+i:Nat):Int),d])
 |[],_,i,d,h=>by simp at h
 |d0::ds,k,0,d,h=>by
  have:d0=d:=by simpa using h
  subst this;rfl
 |d0::ds,k,i+1,d,h=>by
  have:=a2I ds (k+1) i d (by simpa using h);show (N7 ds (k+1))[i]?=_;rw[this,mq,Nat.add_comm 1]
section
variable {X:Cx}{M ML:List Md}{a e iter:Expr}{elts:List Expr}{kk:Nat}{ir pos p:eM}{fa:EvE}{ca:Cat}{u:Ty}{body:List g_}{g:EvS}
def c0t(K:af)(ta:TA):TI:=λY H R=>ta Y H λvs H1=>∃a xs,vs=[.ref a]/\SqL K H1 a xs/\R (Ite K a) H1
open PyProof.Rows in
def b4f(hg:Gl X "enumerate")(hm:X.mg "enumerate"=el)(ha:PA X [a] ta)(hs:ax [a] X.env=[(rp,cy a X.env)]:=by rfl):PI X (.Tuple elts kk ir) (.Call (.Name "enumerate" p) [a] [] pos) (c0t X.K ta):=by
 intro pins s Y H R I h;refine Call_ (Z8 I hg hm PyProof.Rows.Boot.«enumerate» (eL (L2.thn (ha pos pins s Y H _ I h) λus s1 ⟨vs,H1,I1,r1,q1⟩=>?_) hs rfl));obtain⟨l,xs,e,hq,q⟩:=q1;subst e;cases r1 with
 |cons r rr=>
  cases rr
  cases (show _=a_ l from r)
  obtain⟨cK,rv,pl,hz⟩:=I1.list hq;refine call_enumerate_list pl.isList λh' he hit hsz hk=>?_
  refine wpAny_pyIter_enum he ?_;refine⟨s1.heap.objs.size+1,[s1.heap.objs.size+1,s1.heap.objs.size],_,_,H1,rfl,I1.kept (t':=s1.toks) hk,a9E l _ _ (Nat.succ_ne_self _),⟨⟨_,he⟩,hit⟩,λb hb=>?_,q⟩;have jK:s1.heap.objs.size<=b:=by
   rcases aC.mp hb with z|z
   ·rw[z];exact gx _
   ·rw[ao.mp z];exact aB _
  exact I1.fpOk jK (I1.hok.fresh jK)
def b9a(X:Cx)(M:List Md)(tg iter:Expr)(f:EvE):Prop:=
 ∃wi,PI X tg iter wi/\∀(U:List D) (Y:L2.St) (H P:Hp) (F:List av) (ds:List D) (R:It->Hp->Prop),StE X.K M U Y H P F->f U=cz (.list ds)->
  (∀a xs H1,Same H H1->(∀H2,Same (cut H1 F) H2->SqL X.K H2 a xs)->DenAll X.K (cut H1 F) xs ds->R (Ite X.K a) H1)->wi Y H R
def c0u(hm:X.mg "enumerate"=el)(h:PX X M a fa ca)(hc:frozen ca:=by trivial)(hg:Gl X "enumerate":=by rfl)(he:ax [a] X.env=[(rp,cy a X.env)]:=by rfl)(mi:ax [a] X.env=(rp,cy a X.env)::ax [] X.env:=by rfl) :
  b9a X M (.Tuple elts kk ir) (.Call (.Name "enumerate" p) [a] [] pos) fa:=by
 obtain⟨t,p,q⟩:=h.out;refine⟨_,b4f hg hm (m5 p s9 mi) he,λU Y H P F ds R S hf k=>?_⟩;refine q U Y H P F _ _ S hf λv H1 e1 r1=>?_
 obtain⟨aa,xs,rfl,k1,k2⟩:=(J8 hc r1).list_inv;exact⟨aa,xs,rfl,(V7 k1 i7).l,k _ xs H1 e1 (λH2 e2=>(V7 k1 e2).l) k2⟩
def b7i(h:iI f U=cz ps):f U=cz ps:=by
 obtain⟨ds,h1,g1⟩:=bnd h;by_cases c:g8 ds=p4
 ·have:(if g8 ds=p4 then cz ds else el)=cz ps:=g1;rw[aG c]at this;rw[h1,this]
 ·have:(if g8 ds=p4 then cz ds else el)=cz ps:=g1;rw[aL c]at this;cases this
def b4g{set:List D->D->Option (List D)}{m:D->Prop}(hc:X.calm=p4)(hp:lJ (aT X.prog X.w) X.A X.env X.xe)(hi:b9a X M tg iter fa)(hg:PG X tg gt)(hs:a9t X.K M MB gt set m)(hm:∀U ds,fi U=cz ds->∀d∈ds,m d)(vK:∀{U ps},fi U=cz ps->iEn fa U=cz ps)(hb:PSsX X u M MB body g M)
  (hf:∀x,dR iter X.env x=pure x:=by intro _;rfl):PSX X u ML M (.For tg iter body [] pos) (D3 fi set g) M:=by
 obtain⟨wi,pi,qi⟩:=hi;obtain⟨tb,pb,qb⟩:=hb.out;refine .mk ⟨_,a4O hp hc pi hg pb hf,λD U Y H P F o S rA k=>?_⟩;obtain⟨ps,h1,g1⟩:=bnd rA;obtain⟨d0,h2,g2⟩:=bnd (vK h1);obtain⟨ds,h3,g3⟩:=bnd g2;cases N2 h3
 have se:N7 ds 0=ps:=aH g3;refine qi U Y H P F ds _ S.toE h2 λa xs H1 e1 sT hx=>?_
 have S1:=S.grow e1;have o_:=hx.length;have fV:ps.length=ds.length:=by rw[<-se,a2H]
 refine⟨λi n Y' H'=>n=xs.length-i/\i<=xs.length/\∃U' F',StR X.K M U' Y' H' (cut H1 F) F'/\N5 set g (ps.drop i) U'=cz o,⟨xs.length,by simp,b_ _,U,F,⟨S1.all,S1.lst,Same.refl _⟩,g1⟩,?_⟩;rintro i n Y' H' ⟨rfl,hi,U',F',S',hfl⟩;have kH:Same (cut H1 F) (cut H' F'):=S'.prot;have q:=sT H' (kH.trans i7);by_cases gG:i<xs.length
 ·refine .inr ⟨⟨xs,xs[i],q,au gG⟩,λY2 H2=>∃U2 F2,StR X.K M U2 Y2 H2 (cut H1 F) F2/\N5 set g (ps.drop (i+1)) U2=cz o,λY2 H2 ⟨U2,F2,S2,h2⟩=>⟨xs.length-(i+1),by lia,rfl,gG,U2,F2,S2,h2⟩,λx H2 hy=>?_⟩;obtain⟨T,y,hT,rfl,rfl,ye⟩:=hy;have qD:=ye xs q;have lV:i<ps.length:=by lia
  have ly:ps.drop i=ps[i]::ps.drop (i+1):=dP lV;rw[ly]at hfl;obtain⟨U1,qF,g4⟩:=bnd (show (set U' ps[i]).bind _=cz o from hfl);obtain⟨o1,hg1,g5⟩:=bnd g4;obtain⟨d',pY,tE⟩:=(hx.up kH).getV qD;have pO:ps[i]=.tuple [.int (i:Nat),d']:=by
   have:=a2I ds 0 i d' pY;rw[se,au lV,Nat.zero_add]at this;exact aH this
  have nc:Same H' (upd H' T (.tup [.int i,y])):=k6 hT _;have S2:=S'.grow nc;have zj:T∉F':=λz=>by
   obtain⟨ys,e⟩:=S'.lst T z;rw[hT]at e;cases e
  have nS:Den X.K (cut (upd H' T (.tup [.int i,y])) F') (.ref T) (.tuple [.int (i:Nat),d']):=by
   have ml:Same (cut H' F') (cut (upd H' T (.tup [.int i,y])) F'):=x0 nc;have hd2:=tE.up ml;have ja:cut (upd H' T (.tup [.int i,y])) F' T=cz (.tup [.int i,y]):=j6 zj i4;simp only[Den];exact⟨T,[.int i,y],rfl,SqT.of ja,denAll_cons den_int (denAll_cons hd2 denAll_nil)⟩
  rw[pO]at qF;refine hs U' Y' _ (cut H1 F) F' (.ref T) _ U1 _ S2 nS (hm U ps h1 _ (by rw[<-pO];exact cW lV)) qF λY3 F3 S3=>qb _ U1 Y3 _ (cut H1 F) F3 o1 S3 hg1 ?_
  cases o1 with
  |nx U2=>exact λY4 H4 F4 S4=>⟨U2,F4,S4,g5⟩
  |ct U2=>exact λY4 H4 F4 S4=>⟨U2,F4,S4,g5⟩
  |bk U2=>
   have:o=.nx U2:=(aH g5).symm;subst this;exact λY4 H4 F4 S4=>k Y4 H4 F4 ⟨S4.all,S4.lst,S1.prot.trans S4.prot⟩
  |rt d=>
   have:o=.rt d:=(aH g5).symm;subst this;refine λv H4 fp o nd fr e=>k v H4 fp o nd (λa ha=>?_) (S1.prot.trans e)
   exact S1.prot.free (fr a ha)
 ·have e:i=xs.length:=by lia
  subst e;rw[o_,<-fV,iH]at hfl;have:o=.nx U':=(aH hfl).symm;subst this;exact .inl ⟨⟨xs,q,aB _⟩,k Y' H' F' ⟨S'.all,S'.lst,S1.prot.trans S'.prot⟩⟩
end
section
variable {X:Cx}{M:List Md}{a b:Expr}{fa fb:EvE}{ca cb:Cat}{pos p:eM}
def b1I:D->D->Option D
 |.tuple ds,.tuple es=>if (!ds.isEmpty&&decide (ds.length+es.length<=1000000))=p4 then R9 (.tuple (ds++es)) else el
 |_,_=>el
def a7o(h:b1I x y=cz d):∃ds es,x=.tuple ds/\y=.tuple es/\ds≠[]/\ds.length+es.length<=1000000/\d=.tuple (ds++es)/\imm d=p4:=by
 cases x with
 |tuple ds=>
  cases y with
  |tuple es=>
   have h':(if (!ds.isEmpty&&decide (ds.length+es.length<=1000000))=p4 then R9 (.tuple (ds++es)) else el)=cz d:=h;by_cases c:(!ds.isEmpty&&decide (ds.length+es.length<=1000000))=p4
   ·rw[aG c]at h';obtain⟨e1,e2⟩:=Q3 h';rw[aw]at c;exact⟨ds,es,rfl,rfl,λz=>by rw[z]at c;simp at c,aW c.2,e1,by rw[e1];exact e2⟩
   ·rw[aL c]at h';cases h'
  |_=>cases h
 |_=>cases h
end
def insI(n:Int):List Int->List Int
 |[]=>[n]
 |m::ms=>if n<=m then n::m::ms else m::insI n ms
def srt:List Int->List Int
 |[]=>[]
 |n::ns=>insI n (srt ns)
theorem insI_perm(n:Int):∀ms,(insI n ms).Perm (n::ms)
 |[]=>ik _
 |m::ms=>by
  unfold insI;by_cases c:n<=m
  ·rw[aG c]
  ·rw[aL c];exact ((insI_perm n ms).cons m).trans (List.Perm.swap n m ms)
theorem o3:∀ns,(srt ns).Perm ns
 |[]=>ik _
 |n::ns=>(insI_perm n (srt ns)).trans ((o3 ns).cons n)
theorem a1I(n:Int):∀ms:List Int,ms.Pairwise (·<=·)->(insI n ms).Pairwise (·<=·)
 |[],_=>ia ..
 |m::ms,h=>by
  unfold insI;obtain⟨h1,h2⟩:=jD.mp h;by_cases c:n<=m
  ·rw[aG c];refine jD.mpr ⟨λx hx=>?_,h⟩;rcases aC.mp hx with z|z
   ·rw[z];exact c
   ·have:=h1 x z;lia
  ·rw[aL c];refine jD.mpr ⟨λx hx=>?_,a1I n ms h2⟩;rcases aC.mp ((insI_perm n ms).mem_iff.mp hx) with z|z
   ·lia
   ·exact h1 x z
theorem S9:∀ns:List Int,(srt ns).Pairwise (·<=·)
 |[]=>il
 |n::ns=>a1I n _ (S9 ns)
def a5U{a b:List Int}(hp:a.Perm b)(ha:a.Pairwise (·<=·)):a=srt b:=
 List.Perm.eq_of_pairwise (λx y _ _ h1 h2=>Int.le_antisymm h1 h2) ha (S9 b) (hp.trans (o3 b).symm)
theorem vals_ints:∀{vs:List ai} {ns:List Int},wA vs ns->Vals (ns.map V.int) vs
 |_,_,.nil=>.nil
 |_,_,.cons n t r=>.cons ⟨t,rfl⟩ (vals_ints r)
theorem a4f:∀{ns:List Int} {vs:List ai},Vals (ns.map V.int) vs->wA vs ns
 |[],vs,h=>by
  have h':Vals [] vs:=h;cases h'
  exact .nil
 |n::ns,vs,h=>by
  have h':Vals (V.int n::ns.map V.int) vs:=h;cases h' with
  |cons r rr=>
   obtain⟨t,rfl⟩:=r;exact .cons n t (a4f rr)
theorem b7j:∀ns:List Int,g8 (ns.map aJ)=p4
 |[]=>by simp only[cE,g8]
 |n::ns=>by simp only[ay,g8,imm,b7j ns,ef]
def dis(ns:List Int):List Int:=kU (λi=>ns.getD i 0) ns.length
end VS
namespace PySem
def Heap.IsValuesView.at{h g1:bR}{v d}(x:h.IsValuesView v d)(e:∀o,h.get? v=cz o->g1.get? v=cz o):g1.IsValuesView v d:=let⟨o,ho,r⟩:=x;⟨o,e _ ho,r⟩
theorem Heap.IsValuesView.push{h:bR}{v d}(x:h.IsValuesView v d)(o:fD):(h.push o).IsValuesView v d:=x.at λ_ e=>ag o e
section
variable {prog:bw}{w:bO}{K:Type}[DecidableEq K]{knd:KeyKind prog w K}{A:bC}{E:ai->ar->Prop}{s:ar}
def a9F(hT:s.TypeIs (.ref d) "dict_values")(h:Q rp s):aD (aT prog w) A (gK (.ref d)) Q E s:=by
 unfold gK;refine ab (du hT F.slot_dict_values_len.lookup ?_);generalize Bv:("dict_values.__len__":String)=CO
 wp_delta
 rw[show splitId CO=cz ("dict_values","__len__") from by subst Bv;decide +kernel];subst Bv;refine ab (ff (T:="dict_values") (b:=p4) hT (by rw[mT];kernel_rfl) ?_);refine d_ (λpq=>absurd pq (by decide)) (λ_=>?_);refine d_ (λ_=>?_) (λpq=>absurd (by decide +kernel) pq);refine ab (gY hT ?_);exact ae h
def b1J(hh:A.handled=el)(hd:(d==cN)=rp)(hm:s.heap.DictAt knd d kvs ep)(hv:s.heap.IsValuesView v d)
  (hsz:kvs.length<=aP) (L0:av) (res:ai) (c₀:Nat) (zl:s.heap.get? L0=cz {cls:=.type "list",data:=.seq #[] c₀})
  (kR:∀g1 tq ac cq,(∀b o,b≠L0->s.heap.get? b=cz o->g1.get? b=cz o)->g1.get? L0=cz {cls:=.type "list",dict:=el,data:=.seq ac cq,slots:=#[]}->
   ItemsOf (λi v=>∃k,kvs[i]?=cz (k,v)) ac kvs.length->R (.ok (.ret res)) {s with heap:=g1,toks:=tq}) :
  aD (aT prog w) A.in1 (df (.ref L0) (.ref v) res)
   (λzA sq=>match zA with|.done f=>R (.ok f) sq|.again cq=>cq.quiet=p4/\gH (aT prog w) A cq R sq) (λe sq=>R (.error e) sq) s:=by
 have xp:L0≠d:=λe=>by
  obtain⟨o,es,ho,hx,lX,_⟩:=hm;rw[<-e,zl]at ho;cases ho
  cases lX
 have zk:L0≠v:=λe=>by
  obtain⟨o,ho,hc,lX⟩:=hv;rw[<-e,zl]at ho;cases ho
  cases lX
 have A_:L0≠s.heap.objs.size:=ba (aF zl);have za:d≠s.heap.objs.size:=ba hm.lt_size;have EB:L0∉[s.heap.objs.size,d]:=λinn=>by
  rcases aC.mp inn with e|e
  ·exact A_ e
  ·exact xp (ao.mp e)
 have W:=(Walks.dictValues (prog:=prog) (w:=w) (knd:=knd) (A:=A.in1) hh s.heap.objs.size d za kvs ep).toS;have key:∀(h:bR) (c₁ tq:Nat),h.IsValIter s.heap.objs.size d 0 kvs.length ep->h.DictAt knd d kvs ep->(∀b o,b≠L0->s.heap.get? b=cz o->h.get? b=cz o)->
   h.get? L0=cz {cls:=.type "list",data:=.seq #[] c₁}->gH (aT prog w) A (.builtin "list.extend.loop" ⟨[.ref L0,.ref s.heap.objs.size,res],[]⟩) R {s with heap:=h,toks:=tq}:=by
  intro h c₁ tq hit tG hk uF;refine codeAny_extend_loopS W hsz L0 EB res kvs.length 0 _ #[] c₁ rfl (b_ _) ⟨hit,tG⟩ uF (ItemsOf.nil _) λsq ac cq AA uE p_=>?_
  rw[Moved.eq_with AA];refine kR sq.heap sq.toks ac cq (λb o nb e=>AA.heap b o (λinn=>?_) (hk b o nb e)) uE p_;rcases aC.mp inn with e'|inn
  ·exact nb e'
  ·exact absurd (aF e) (by rw[ao.mp inn];exact dg _)
 unfold df;refine ab (gY (T:="dict_values") hv.typeIs ?_);have h1:ip (.ref L0) (.ref v)=rp:=by simp[ip,zk]
 have h2:(dS "dict_values" == dS "list")=rp:=by decide
 have h3:(dS "dict_values" == dS "tuple")=rp:=by decide
 simp only[h1,h2,h3,Bool.or_false,cP,fF];refine ab (wpAny_pyIter_values hv hm ?_);refine ab (bK (a9F ((hv.push _).typeIs) ?_));have uF:=ag {cls:=.type "dict_valueiterator",data:=.fields #[.ref d,.int 0 0,.int kvs.length 0,.int ep 0]} zl;have pR:(s.heap.push {cls:=.type "dict_valueiterator",data:=.fields #[.ref d,.int 0 0,.int kvs.length 0,.int ep 0]}).IsValIter s.heap.objs.size d 0 kvs.length ep:=⟨_,aE _ rfl,rfl,rfl⟩;refine d_ (λ_=>?_) (λ_=>ae ⟨eY F.plain_extend_loop _,key _ c₀ _ pR (hm.push _) (λb o _ e=>ag _ e) uF⟩);refine ab (dQ ?_);refine ab ?_;show aD _ _ (qU L0 (·.push .none) >>= λ_=>qU L0 (·.pop)) _ _ _;refine ab (jF uF rfl ?_);have wG:=bS (gR (·.push cj)) uF rfl;refine jF (hz:=by seq_fits) wG rfl ?_;have BN:=bS (gR (·.pop)) wG rfl;have rest:∀b o,b≠L0->(s.heap.push {cls:=.type "dict_valueiterator",data:=.fields #[.ref d,.int 0 0,.int kvs.length 0,.int ep 0]}).get? b=cz o->(((s.heap.push {cls:=.type "dict_valueiterator",data:=.fields #[.ref d,.int 0 0,.int kvs.length 0,.int ep 0]}).update L0 (gR (·.push cj))).update L0 (gR (·.pop))).get? b=cz o:=λb o nb e=>(dA _ _ (dc nb)).trans ((dA _ _ (dc nb)).trans e)
 exact ae ⟨eY F.plain_extend_loop _,key _ _ _ (pR.at λo e=>rest _ o (dc A_) e) ((hm.push _).at' λo e=>rest _ o (dc xp) e) (λb o nb e=>rest b o nb (ag _ e)) BN⟩
def a9G(hh:A.handled=el)(hd:(d==cN)=rp)(hm:s.heap.DictAt knd d kvs ep)(hv:s.heap.IsValuesView v d)
  (hsz:kvs.length<=aP) (L0:av) (zl:s.heap.get? L0=cz {cls:=.type "list",data:=.seq #[]})
  (kR:∀g1 tq ac cq,(∀b o,b≠L0->s.heap.get? b=cz o->g1.get? b=cz o)->g1.get? L0=cz {cls:=.type "list",dict:=el,data:=.seq ac cq,slots:=#[]}->
   ItemsOf (λi v=>∃k,kvs[i]?=cz (k,v)) ac kvs.length->R (.ok (.ret .none)) {s with heap:=g1,toks:=tq}) :
  aD (aT prog w) A.in1 (Builtin.«list.__init__» ⟨[.ref L0,.ref v],[]⟩)
   (λzA sq=>match zA with|.done f=>R (.ok f) sq|.again cq=>cq.quiet=p4/\gH (aT prog w) A cq R sq) (λe sq=>R (.error e) sq) s:=by
 have xp:L0≠d:=λe=>by
  obtain⟨o,es,ho,hx,lX,_⟩:=hm;rw[<-e,zl]at ho;cases ho
  cases lX
 have zk:L0≠v:=λe=>by
  obtain⟨o,ho,hc,lX⟩:=hv;rw[<-e,zl]at ho;cases ho
  cases lX
 show aD _ _ (do let old <-FJ (.ref L0);Builtin.List.listUpdate (.ref L0) (λ_=>#[]);letGo old.toList.reverse;df (.ref L0) (.ref v) .none) _ _ s;refine ab ?_;unfold FJ;refine ab (dG zl rfl (ae ?_));show aD _ _ (qU L0 (λ_=>#[]) >>= λ_=>letGo (#[]:Array ai).toList.reverse >>= λ_=>df (.ref L0) (.ref v) .none) _ _ s;refine ab (jF zl rfl ?_);have wG:=bS (gR (λ_=>(#[]:Array ai))) zl rfl;have rest:∀b o,b≠L0->s.heap.get? b=cz o->(s.heap.update L0 (gR (λ_=>(#[]:Array ai)))).get? b=cz o:=
  λb o nb e=>(dA _ _ (dc nb)).trans e
 refine ab (mP ?_);refine b1J hh hd (hm.at' λo e=>rest d o (dc xp) e) (hv.at λo e=>rest v o (dc zk) e) hsz L0 .none _ wG λg1 tq ac cq hk uE p_=>?_
 exact kR g1 tq ac cq (λb o nb e=>hk b o nb (rest b o nb e)) uE p_
def a2J(hh:A.handled=el)(hd:(d==cN)=rp)(hm:s.heap.DictAt knd d kvs ep)(hv:s.heap.IsValuesView v d)
  (hsz:kvs.length<=aP)
  (kQ:∀g1 tq ac cq,(∀b o,s.heap.get? b=cz o->g1.get? b=cz o)->
   g1.get? s.heap.objs.size=cz {cls:=.type "list",dict:=el,data:=.seq ac cq,slots:=#[]}->ItemsOf (λi v=>∃k,kvs[i]?=cz (k,v)) ac kvs.length->Q (.ref s.heap.objs.size) {s with heap:=g1,toks:=tq}) :
  aD (aT prog w) A (call (.type "list") [.ref v]) Q E s:=by
 refine wz (Q₁:=λobj s₁=>obj=.ref s.heap.objs.size/\s₁={s with heap:=s.heap.push {cls:=.type "list",data:=.seq #[]}}) F.called_list (F.typeCall_list_1 _) F.entry_list_init
  (code_list_new _ ⟨rfl,rfl⟩) λobj s₁ h₁=>?_
 obtain⟨rfl,rfl⟩:=h₁;have zl:(s.heap.push {cls:=.type "list",data:=.seq #[]}).get? s.heap.objs.size=cz {cls:=.type "list",data:=.seq #[]}:=aE _ rfl;refine⟨⟨_,zl,rfl⟩,F.args_list_init_2 _ _,a9G (A:=A.in1) hh hd (hm.push _) (hv.push _) hsz _ zl λg1 tq ac cq hk uE p_=>?_⟩;exact⟨rfl,kQ g1 tq ac cq (λb o e=>hk b o (ba (aF e)) (ag _ e)) uE p_⟩
end
end PySem
namespace VS
open PySem PySem.Spec L2
theorem a0G:∀{xs:List V} {us:List ai},xs.length=us.length->(∀(i:Nat) (x:V) (u:ai),xs[i]?=cz x->us[i]?=cz u->RelV x u)->Vals xs us
 |[],[],_,_=>.nil
 |[],_::_,h,_=>by simp at h
 |_::_,[],h,_=>by simp at h
 |x::xs,u::us,hl,h=>.cons (h 0 x u rfl rfl) (a0G (by simpa using hl) λi x u h1 h2=>h (i+1) x u (by simpa using h1) (by simpa using h2))
def y8(es:List (D×V×V)):Prop:=∀e∈es,∃n,e.1=.int n/\e.2.1=.int n
def EKv(e:D×V×V)(kv:Int×ai):Prop:=e.1=.int kv.1/\e.2.1=.int kv.1/\RelV e.2.2 kv.2
def a9H(h:eS O4 es l):y8 es->∃kvs:List (Int×ai),Pairs (cQ P w) l kvs/\eS EKv es kvs:=by
 induction h with
 |nil=>exact λ_=>⟨[],.nil,.nil⟩
 |@cons e x es l r _ ih=>
  intro hk;obtain⟨kvs,h1,h2⟩:=ih λe he=>hk e (ak _ he)
  obtain⟨n,e1,e2⟩:=hk e aj;obtain⟨hh,jn,sP⟩:=r;rw[e2]at jn;obtain⟨t,ht⟩:=(show ∃t,x.key=jo n t from jn);exact⟨(n,x.val)::kvs,.cons (by rw[ht];simp[cQ,jy]) rfl h1,.cons ⟨e1,e2,sP⟩ h2⟩
def a5V(h:eS EKv es kvs):es.map (·.1)=(kvs.map (·.1)).map aJ:=by
 induction h with
 |nil=>rfl
 |cons r _ ih=>rw[ay,ay,ay,ih,r.1]
section
variable {X:Cx}{M:List Md}{a o:Expr}{fa:EvE}{ca:Cat}{pos p apos cF:eM}
def T3(I:Inv X pins Y H s)(hH:H d=cz (e6 d es))(hk:y8 es) :
  ∃kvs ep,s.heap.DictAt (cQ X.prog X.w) d kvs ep/\(d==cN)=rp/\es.length<=aP/\eS EKv es kvs:=by
 obtain⟨h0,hl,hn,o,ents,ep,h1,h2,h3,h4⟩:=q8 I hH;obtain⟨kvs,p1,p2⟩:=a9H (P:=X.prog) (w:=X.w) h4 hk;refine⟨kvs,ep,⟨o,ents,h1,h2,h3,λx hx=>?_,p1,?_⟩,h0,hl,p2⟩
 ·obtain⟨j,hj⟩:=bJ.mp (dI.mpr hx);obtain⟨e,he,hh,jn,_⟩:=a1F h4 hj;obtain⟨n,e1,e2⟩:=hk e (bA he);rw[e2]at jn;obtain⟨t,ht⟩:=(show ∃t,x.key=jo n t from jn);exact⟨n,by rw[ht];simp[cQ,jy],by rw[hh,e1];rfl⟩
 ·rw[a5V p2]at hn;exact wD aJ (λa b h e=>h (by rw[e])) hn
def a4g(v d:av):HO:=.ext λh=>h.IsValuesView v d
def a9I{h':bR}(h:h'.IsValuesView v d):ObjOk P w H' h' v (a4g v d):=
 ⟨h,let⟨o,ho,_⟩:=h;⟨o,ho⟩,λx1 x2 ⟨o,ho,r⟩ hk=>⟨o,hk _ ho,r⟩⟩
def a9J(ho:PE X o to)(eD:cZ o "values" X.env (cy o X.env)=cy o X.env:=by rfl)(eB:(apos.endLine==cF.line)=p4:=by rfl) :
  PE X (.Call (.Attribute o "values" apos) [] [] cF) (λY H Q=>to Y H λx H1=>∃p es,x=.ref p/\H1 p=cz (e6 p es)/\y8 es/\∀l,H1 l=el->Q (.ref l) (upd H1 l (a4g l p))):=by
 intro pins s Y H Q I h;refine iw eD eB (L2.thn (ho pins s Y H _ I h) λv s1 ⟨x,H1,I1,r1,p,es,ex,hH,hk,q1⟩=>?_);subst ex;obtain rfl:v=a_ p:=r1;obtain⟨kvs,ep,ja,h0,hl,hp⟩:=T3 I1 hH hk;refine⟨"dict","dict.values",h_,gP,rM,j9 I1 hH,L4 I1 hH,eX rfl (je ?_)⟩;refine Fv gP (j9 I1 hH) qQ (qA _) (meets_dict_values (cQ X.prog X.w) p h0) ⟨⟨kvs,ja.dictOf⟩,?_⟩;exact⟨.ref s1.heap.objs.size,_,I1.laid (a:=s1.heap.objs.size) (o:=a4g s1.heap.objs.size p) (t':=s1.toks) (λ_ _ q=>ag _ q) (aB _) (a9I ⟨_,aE _ rfl,rfl,rfl⟩),rfl,q1 _ (I1.hok.fresh (aB _))⟩
def a7p(hc:X.calm=p4):CallR X (.type "list") (λxs H Q=>∃v p es,xs=[.ref v]/\H v=cz (a4g v p)/\H p=cz (e6 p es)/\y8 es/\∀l,H l=el->Q (.ref l) (upd H l (.lst (es.map (·.2.2))))):=by
 intro pins s Y H xs us Q I rv h;obtain⟨v,p,es,rfl,hV,hH,hk,q⟩:=h;obtain⟨u,rfl,rx⟩:=vals1 rv;cases (show u=a_ v from rx)
 obtain⟨kvs,ep,ja,h0,hl,hp⟩:=T3 I hH hk;have Dc:s.heap.IsValuesView v p:=(show ObjOk X.prog X.w H s.heap v (a4g v p) from I.hok v _ hV).1;have hlen:=dw hp;refine a2J (knd:=cQ X.prog X.w) (I.ok.hd hc) h0 ja Dc (by lia) λg1 tq ac cq keep ho p_=>?_
 refine⟨.ref s.heap.objs.size,_,I.laid (t':=tq) keep (aB _) (show ObjOk X.prog X.w _ g1 _ (.lst (es.map (·.2.2))) from⟨by rw[ah];exact hl,ac.toList,cq,?_,by rw[gA];exact ho⟩),rfl,q _ (I.hok.fresh (aB _))⟩;refine a0G (by rw[ah];have z1:=p_.1;have z2:ac.toList.length=ac.size:=cI;lia) λi x u h1 h2=>?_
 rw[bX]at h2;obtain⟨k,h3⟩:=p_.2 i u h2;rw[aX]at h1;obtain⟨e,he,rfl⟩:=dt.mp h1;obtain⟨kv,g3,g4⟩:=E3 hp he;rw[h3]at g3;cases g3
 exact g4.2.2
def intKeyed(h:DenKV K H es kvs)(hk:kvs.all (λp=>o9 rp p.1)=p4):y8 es:=λe he=>by
 have h1:e.1∈kvs.map (·.1):=by rw[<-h.keys];exact bt he
 obtain⟨kv,h2,h3⟩:=aR.mp h1;obtain⟨n,hn⟩:=(x6 (bj.mp hk kv h2)).2.2.2 rfl;have hd:=h.kden e he;rw[<-h3,hn]at hd;exact⟨n,by rw[<-h3,hn],hd.int_inv⟩
def a5b(a:EvE):EvE:=λU=>(a U).bind λd=>match d with
 |.dict kvs=>if kvs.all (λp=>o9 rp p.1)&&g8 (kvs.map (·.2)) then cz (.list (kvs.map (·.2))) else el
 |_=>el
def b1K(hc:X.calm=p4)(hm:X.mg "list"=el)(ha:PX X M a fa ca)(hg:Gl X "list":=by rfl)(eD:cZ a "values" X.env (cy a X.env)=cy a X.env:=by rfl)(eB:(apos.endLine==cF.line)=p4:=by rfl)
  (he:ax [.Call (.Attribute a "values" apos) [] [] cF] X.env=(rp,cy (.Call (.Attribute a "values" apos) [] [] cF) X.env)::ax [] X.env:=by rfl) (fV:(cB pos (ax [] X.env)).any (·.1)=rp:=by rfl) :
  PX X M (.Call (.Name "list" p) [.Call (.Attribute a "values" apos) [] [] cF] [] pos) (a5b fa) (.new (.l .i)):=by
 obtain⟨ta,pa,qa⟩:=ha.out;refine .mk ⟨_,E5 (a7p hc) hg hm PyProof.Rows.Boot.«list» (m5 (a9J pa eD eB) s9 he) (by decide) (by decide) he fV,λU Y H P F d Q S hf q=>?_⟩;obtain⟨x,h1,g1⟩:=bnd hf;cases x with
 |dict kvs=>
  have g2:(if kvs.all (λp=>o9 rp p.1)&&g8 (kvs.map (·.2)) then cz (dM (kvs.map (·.2))) else el)=cz d:=g1;by_cases c:(kvs.all (λp=>o9 rp p.1)&&g8 (kvs.map (·.2)))=p4
  ·rw[aG c]at g2;cases g2
   rw[aw]at c;refine qa U Y H P F _ _ S h1 λv H1 e1 r1=>?_
   obtain⟨pp,es,rfl,k1,k2⟩:=r1.den.dict_inv;have hk:=intKeyed k2 c.1;refine⟨pp,es,rfl,k1,hk,λy hy=>?_⟩;have e2:=k6 hy (a4g y pp);refine⟨y,pp,es,rfl,i4,e2 _ _ k1,hk,λz hz=>q _ _ ((e1.trans e2).trans (k6 hz _)) ?_⟩;exact M3 (k2.vals.up e2) c.2 (e1.trans e2) hz (S.lst' (e1.trans e2))
  ·rw[aL c]at g2;cases g2
 |_=>cases g1
end
def keysOk(kt:Bool)(kvs:List (D×D)):Bool:=kvs.all λp=>o9 kt p.1
def a5c(neg kt:Bool):D->D->Option D
 |k,.dict kvs=>if o9 kt k&&keysOk kt kvs then cz (.bool (neg !=y6 kvs k)) else el
 |_,_=>el
def O3(kt:Bool):D->D->Option D
 |.dict kvs,k=>if o9 kt k&&keysOk kt kvs then D4 kvs k else el
 |_,_=>el
def a1q{kvs:List (D×D)}{es:List (D×V×V)}(h:es.map (·.1)=kvs.map (·.1)):y6 kvs k=u7 es k:=by
 have e1:y6 kvs k=(kvs.map (·.1)).any λx=>aK x k:=by unfold y6;rw[List.any_map];rfl
 have e2:u7 es k=(es.map (·.1)).any λx=>aK x k:=by unfold u7;rw[List.any_map];rfl
 rw[e1,e2,h]
def b5D{X:Cx}(h:DenKV X.K H es kvs)(ho:keysOk kt kvs=p4)(hk:o9 kt k=p4)(hd:Den X.K H kv k):KeysAt X H kt es k kv:=by
 refine⟨λe he=>⟨?_,h.kden e he⟩,x6 hk,hd⟩;have hm:e.1∈kvs.map (·.1):=by rw[<-h.keys];exact bt he
 obtain⟨p,hp,e1⟩:=aR.mp hm;rw[<-e1];exact x6 (bj.mp ho p hp)
section
variable {X:Cx}{M:List Md}{a b:Expr}{fa fb:EvE}{ca cb:Cat}{kt:Bool}{pos:eM}
def a4h(h:a5c neg kt k d=cz r):∃kvs,d=.dict kvs/\o9 kt k=p4/\keysOk kt kvs=p4/\r=.bool (neg !=y6 kvs k):=by
 cases d with
 |dict kvs=>
  have h':(if o9 kt k&&keysOk kt kvs then cz (dE (neg !=y6 kvs k)) else el)=cz r:=h;by_cases c:(o9 kt k&&keysOk kt kvs)=p4
  ·rw[aG c]at h';rw[aw]at c;exact⟨kvs,rfl,c.1,c.2,(aH h').symm⟩
  ·rw[aL c]at h';cases h'
 |_=>cases h
def a5W(d1:Den X.K H2 v k)(d2:Den X.K H2 w d)(hr:a5c neg kt k d=cz r)(q:Q (.bl (match r with|.bool b=>b|_=>rp)) H2):a3G X neg v w H2 Q:=by
 obtain⟨kvs,rfl,hk,ho,rfl⟩:=a4h hr;obtain⟨p,es,rfl,hH,dk⟩:=d2.dict_inv;refine⟨p,es,kt,k,rfl,hH,b5D dk ho hk d1,?_⟩;rw[<-a1q dk.keys];exact q
def b7k(ho:OpR X (bQ op) (a3G X neg))(ha:PX X M a fa ca)(hb:PX X M b fb cb)(hm:autoParam (et op b=rp) ZX._auto_1):PX X M (.Compare a [op] [b] pos) (e2 (a5c neg kt) fa fb) (.new .i):=by
 obtain⟨ta,pa,qa⟩:=ha.out;obtain⟨tb,pb,qb⟩:=hb.out;refine .mk ⟨_,a8i ho pa pb hm,λU Y H P F d Q S hf q=>?_⟩;obtain⟨x,y,h1,h2,h3⟩:=C0 hf;refine qa U Y H P F x _ S h1 λv H1 e1 r1=>qb U Y H1 P F y _ (S.grow e1) h2 λw H2 e2 r2=>a5W (r1.den.up e2) r2.den h3 ?_
 obtain⟨kvs,rfl,_,_,rfl⟩:=a4h h3;exact q _ H2 (e1.trans e2) (E6 (by simp only[imm]) den_bool (S.lst' (e1.trans e2)))
def b4h(ho:OpR X (bQ op) (a3G X neg))(ha:PX X M a fa ca)(hb:PX X M b fb cb)(hm:autoParam (et op b=rp) ZX._auto_1):PTX X M (.Compare a [op] [b] pos) (tB (e2 (a5c neg kt) fa fb)):=by
 obtain⟨ta,pa,qa⟩:=ha.out;obtain⟨tb,pb,qb⟩:=hb.out;refine .mk ⟨_,a0p ho pa pb hm,λU Y H P F k Q S hf q=>?_⟩;obtain⟨d,hf,hk⟩:=bnd hf;cases F6 hk
 obtain⟨x,y,h1,h2,h3⟩:=C0 hf;exact qa U Y H P F x _ S h1 λv H1 e1 r1=>qb U Y H1 P F y _ (S.grow e1) h2 λw H2 e2 r2=>a5W (r1.den.up e2) r2.den h3 ⟨k,rfl,q H2 (e1.trans e2)⟩
def b7l{es:List (D×V×V)}(hn:(es.map (·.1)).Nodup)(hk:∀e∈es,aK e.1 k=p4↔e.1=k)(h:DenKV K H es kvs)(he:e∈es)(fO:e.1=k):∃d,D4 kvs k=cz d/\Den K H e.2.2 d:=by
 obtain⟨j,hj⟩:=bJ.mp he;have hl:kvs.length=es.length:=by have:=eE gz h.keys;simpa using this.symm
 have hz:kvs=(es.map (·.1)).zip (kvs.map (·.2)):=by
  rw[h.keys,List.zip_map',List.map_id'' (λp=>rfl)]
 obtain⟨p,hp⟩:∃p,kvs[j]?=cz p:=⟨_,au (by rw[hl];exact (aO.mp hj).1)⟩;have hd:(kvs.map (·.2))[j]?=cz p.2:=by rw[aX,hp];rfl
 refine⟨p.2,?_,?_⟩
 ·rw[hz];exact a0E (by rw[ah];exact hl) hk hn hj fO hd
 ·obtain⟨v,z1,z2⟩:=h.vals.get hd;rw[aX,hj]at z1;cases z1
  exact z2
def b9b(X:Cx)(td ty:TE):TE:=λY H Q=>td Y H λx H1=>ty Y H1 λy H2=>∃a es kt k,x=.ref a/\H2 a=cz (e6 a es)/\KeysAt X H2 kt es k y/\u7 es k=p4/\((es.map (·.1)).Nodup->∀e∈es,e.1=k->Q e.2.2 H2)
def b4i(hu:X.A.units+464<dq)(ho:PE X a td)(hi:PE X b ty)(hs:a4d b):PE X (.Subscript a b pos) (b9b X td ty):=by
 intro pins s Y H Q I h;refine b8Y qO.lookup hs (L2.thn (ho pins s Y H _ I h) λu s1 ⟨x,H1,I1,rx,q1⟩=>L2.thn (hi pins s1 Y H1 _ I1 q1) λiv s2 ⟨y,H2,I2,ry,p,es,kt,k,ex,hH,K,hh,q2⟩=>?_);subst ex;obtain rfl:u=a_ p:=rx;have hn:=(q8 I2 hH).2.2.1;exact⟨j9 I2 hH,a2F (by lia) I2 hH K ry hh λe he fO x s3 I3 r3=>⟨e.2.2,H2,I3,r3,q2 hn e he fO⟩⟩
def a9K(h:O3 kt d k=cz r):∃kvs,d=.dict kvs/\o9 kt k=p4/\keysOk kt kvs=p4/\D4 kvs k=cz r:=by
 cases d with
 |dict kvs=>
  have h':(if o9 kt k&&keysOk kt kvs then D4 kvs k else el)=cz r:=h;by_cases c:(o9 kt k&&keysOk kt kvs)=p4
  ·rw[aG c]at h';rw[aw]at c;exact⟨kvs,rfl,c.1,c.2,h'⟩
  ·rw[aL c]at h';cases h'
 |_=>cases h
def a2g(hu:X.A.units+464<dq)(ha:PX X M a fa (.new .f))(hb:PX X M b fb cb)(hs:a4d b:=by exact λ_ _=>rfl):PX X M (.Subscript a b pos) (e2 (O3 kt) fa fb) (.new .f):=by
 obtain⟨ta,pa,qa⟩:=ha.out;obtain⟨tb,pb,qb⟩:=hb.out;refine .mk ⟨_,b4i hu pa pb hs,λU Y H P F d Q S hf q=>?_⟩;obtain⟨x,y,h1,h2,h3⟩:=C0 hf;obtain⟨kvs,rfl,hk,hok,hg⟩:=a9K h3;refine qa U Y H P F _ _ S h1 λv H1 e1 ⟨fp,o,nd,fr⟩=>qb U Y H1 P F y _ (S.grow e1) h2 λw H2 e2 r2=>?_
 simp only[Own]at o;obtain⟨rfl,o⟩:=o;have o2:Den X.K (cut H2 F) v (.dict kvs):=o.up (M8 e2 λa o ha ki=>by simpa using ki);obtain⟨p,es,rfl,hH,dk⟩:=o2.dict_inv;have Fq:DenKV X.K H2 es kvs:=DenKV.mono i7 kvs dk;have KK:=b5D Fq hok hk r2.den;refine⟨p,es,kt,y,rfl,i7 _ _ hH,KK,by rw[<-a1q dk.keys];exact a0F hg,λhn e he fO=>?_⟩;obtain⟨d',g',dd⟩:=b7l hn (λe he=>KK.eqv he) dk he fO;rw[hg]at g';cases g'
 refine q _ H2 (e1.trans e2) ⟨[],?_,bp,λa ha=>(nomatch ha)⟩;simp only[Own];exact⟨trivial,dd⟩
end
end VS
namespace VS
open PySem PySem.Spec L2 PyProof.Rows
section
variable {X:Cx}{pins:List (av×fD)}{Y:L2.St}{H:Hp}{s:ar}{A:bC}{E:ai->ar->Prop}{a:av}{es:List (D×V×V)}{kt:Bool}{k:D}{kv v:V}{key val:ai}
def a7q{Q:ai->ar->Prop}(I:Inv X pins Y H s)(h:H a=cz (e6 a es))(hQ:∀t s',Inv X pins Y H s'->Q (.int es.length t) s'):aD (aT X.prog X.w) A (Builtin.«len» ⟨[.ref a],[]⟩) (λfin s'=>∃r,fin=.done (.ret r)/\Q r s') E s:=by
 have hT:=j9 I h;obtain⟨hd,hl,_,o,ents,ep,h1,h2,h3,h4⟩:=q8 I h;have hsz:ents.size=es.length:=by
  have:=dw h4;have e2:ents.toList.length=ents.size:=by simp
  lia
 have pd:(es.length:Int)<2^63:=by
  have:aP<2^62:=by decide
  lia
 unfold Builtin.«len»;refine ab (m:=oneArg "len" _) (ae ?_);refine ab (m:=callSpecial? (.ref a) (cf "__len__")) (bI (name:=cf "__len__") hT iq (bD iq hT F.entry_dict_len ?_ (F.args_dict_len_1 _)));show aD _ _ (dictSize a >>= _) _ _ s;unfold dictSize;refine ab (ab (cA h1 h3 (ae ?_)));show aD _ _ (xF a >>= _) _ _ s;refine ab (xI hd ?_);refine sL ?_;rw[Nat.add_zero,hsz];refine ab (bK (ae ?_));refine ab (mP ?_);show aD _ _ (if ((es.length:Nat):Int)<0 then _ else _) _ _ _;rw[aL (by lia)];show aD _ _ (if ((es.length:Nat):Int)≥2^63 then _ else _) _ _ _;rw[aL (by lia)];exact ab (wpAny_mkInt (ae ⟨_,rfl,hQ _ _ (I.tok _)⟩))
def a9L{Q:Bool->ar->Prop}(I:Inv X pins Y H s)(h:H a=cz (e6 a es))(hQ:∀s',Inv X pins Y H s'->Q (!es.isEmpty) s'):aD (aT X.prog X.w) A (uJ (.ref a)) Q E s:=by
 have hT:=j9 I h;have gC:((es.length:Int)!=0)=!es.isEmpty:=by cases es<;>simp<;>lia
 have key:aD (aT X.prog X.w) A (runValue (.builtin "len" ⟨[.ref a],[]⟩)) (λr s'=>(∃t,r=.int es.length t)/\Q (!es.isEmpty) s') E s:=by
  refine mO (dJ entry_len ?_);rw[cU plain_len _];exact c_ (a7q (Q:=λr s'=>(∃t,r=.int es.length t)/\Q (!es.isEmpty) s') I h λt s' I'=>⟨⟨t,rfl⟩,hQ s' I'⟩)
   (λfin s' h'=>by obtain⟨r,rfl,hq⟩:=h';exact hq) λ_ _ e=>e
 unfold uJ
 first
  |refine ab (zM (name:=cf "__bool__") hT noBool_dict ?_)
  |refine ab (ae (ab (zM (name:=cf "__bool__") hT noBool_dict ?_)))
 first
  |refine ab (du (name:=cf "__len__") hT iq.lookup ?_)
  |refine ab (ae (ab (du (name:=cf "__len__") hT iq.lookup ?_)))
 first
  |exact ab (c_ key (λr s' h'=>by obtain⟨⟨t,rfl⟩,hq⟩:=h';exact ae (gC▸hq)) λ_ _ e=>e)
  |exact ab (ae (ab (c_ key (λr s' h'=>by obtain⟨⟨t,rfl⟩,hq⟩:=h';exact ae (gC▸hq)) λ_ _ e=>e)))
end
section
variable {X:Cx}{M:List Md}{a:Expr}{ta:TE}{fa:EvE}{ca:Cat}
def b4j(ha:PE X a ta)(he:∀whole,rd a X.env whole=(do let v <-whole;standAt a.pos;nG [v] (uJ v))):PT X a (λY H Q=>ta Y H λx H'=>∃p es,x=.ref p/\H' p=cz (e6 p es)/\Q (!es.isEmpty) H'):=by
 intro pins s Y H Q I h;refine isTrue_plain (L2.thn (ha pins s Y H _ I h) λv s1 ⟨x,H1,I1,r1,p,es,ex,hH,q1⟩=>?_) (he _);subst ex;obtain rfl:v=a_ p:=r1;exact a9L I1 hH λs' I'=>⟨H1,I',q1⟩
def trD:D->Option Bool
 |.dict kvs=>cz !kvs.isEmpty
 |_=>el
def tVD(a:EvE):EvT:=λU=>(a U).bind trD
def b1L(ha:PX X M a fa ca)(he:∀whole,rd a X.env whole=(do let v <-whole;standAt a.pos;nG [v] (uJ v)):=by intro _;rfl):PTX X M a (tVD fa):=by
 obtain⟨ta,pa,qa⟩:=ha.out;refine .mk ⟨_,b4j pa he,λU Y H P F k Q S hf q=>?_⟩;obtain⟨x,h1,hf⟩:=bnd hf;refine qa U Y H P F _ _ S h1 λv H1 e1 r1=>?_
 cases x with
 |dict kvs=>
  have mZ:cz (!kvs.isEmpty)=cz k:=hf;cases mZ
  obtain⟨p,es,rfl,hH,dk⟩:=r1.den.dict_inv;refine⟨p,es,rfl,hH,?_⟩;have hl:es.isEmpty=kvs.isEmpty:=by
   have:=eE gz dk.keys;rw[ah,ah]at this;cases es<;>cases kvs<;>simp_all
  rw[hl];exact q H1 e1
 |_=>cases hf
end
end VS
namespace VS
open PySem PySem.Spec L2
section
variable {X:Cx}{pins:List (av×fD)}{Y:L2.St}{H:Hp}{s:ar}{A:bC}{E:ai->ar->Prop}{a:av}{es fs:List (D×V×V)}{k:D}{kv v:V}{key val:ai}{kt:Bool}{F:List av}
theorem a1J:∀{l:List α} {m:List β},eS R l m->∀{i:Nat} {x:α},l[i]?=cz x->∃y,m[i]?=cz y/\R x y
 |_,_,.nil,i,x,h=>by simp at h
 |_,_,.cons r t,0,x,h=>by
  cases h
  exact⟨_,rfl,r⟩
 |_,_,.cons r t,i+1,x,h=>by
  obtain⟨y,h1,h2⟩:=a1J t (i:=i) (x:=x) (by simpa using h);exact⟨y,by simpa using h1,h2⟩
def a5X(I:Inv X pins Y H s)(hu:A.units+10<dq)(h:H a=cz (e6 a es))(K:KeysAt X H kt es k kv)(rk:RelV kv key)(rv:RelV v val)(hl:es.length<aP)(oN:∀e∈es,e.1≠k) 
  (hQ:∀h',Inv X pins Y (upd H a (e6 a (es++[(k,kv,v)]))) {s with heap:=h'}->cD a s.heap h'->Q () {s with heap:=h'}):aD (aT X.prog X.w) A (kO a key (hashD k) val) Q E s:=by
 obtain⟨hs,_,hn,o,ents,ep,h1,h2,h3,h4⟩:=q8 I h;have hsz:ents.size<=aP:=by
  have:=dw h4;have e2:ents.toList.length=ents.size:=by simp
  lia
 have hf:u7 es k=rp:=by
  unfold u7;rw[cx];exact λe he hq=>oN e he ((K.eqv he).mp hq)
 unfold kO
 try with_reducible refine bK ?_
 refine ab (Y0 I hu h1 h3 h4 hn K.keys K.key K.den rk ?_ ?_)
 ·intro _;exact ab (dQ (mN (hz:=hsz) h1 h3 (hQ _ (a1o (t':=s.toks) I h K rk rv hl hf h1 h2 h3 h4) (bP ..))))
 ·intro j e he fO;exact absurd fO (oN e (bA he))
def b1M(I:Inv X pins Y H s)(hu:A.units+10<dq)(hd:H d=cz (e6 d es))(ho:H o=cz (e6 o fs))(so:d≠o)(gC:es≠[])(zb:d∈F)
  (hk:∀e∈es++fs,keyOk kt e.1/\Den X.K (cut H F) e.2.1 e.1) (i_:((es++fs).map (·.1)).Nodup) (hsz:es.length+fs.length<=aP) (hQ:∀s',Inv X pins Y (upd H d (e6 d (es++fs))) s'->Q () s') :
  aD (aT X.prog X.w) A (iS nm d o) Q E s:=by
 obtain⟨Gm,_,hn,od,rH,GC,Du,nI,tG,Dp⟩:=q8 I hd;obtain⟨Dv,_,oN,oo,mo,Gz,wY,Gn,pX,Av⟩:=q8 I ho;unfold iS;rw[aL (by simpa using so)];unfold jj;rw[aL (by rw[Dv];exact aS)];refine ab (ae ?_);refine ab (cA wY pX ?_);have hlen:fs.length=mo.size:=by rw[dw Av];simp
 have Ak:∀o',Same (cut H F) (cut (upd H d o') F):=λo' c u hc=>by
  obtain⟨q1,q2⟩:=o6 hc;have ne:c≠d:=λz=>q1 (by rw[z];exact zb)
  exact j6 q1 (by rw[f6 ne];exact q2)
 have loop:aD (aT X.prog X.w) A (do
   let we <-dictEpoch o
   let l <-dictEntries o
   forIn [:l.size] kA λi (_:PUnit)=>(do
     let l' <-dictEntries o
     match l'[i]? with
      |some e=>do
       nG [e.key,e.val] (kO d e.key e.hash e.val)
       let qK <-dictEpoch o
       if (qK !=we)=p4 then do
         (rX (toString nm++toString ":source-changed-during-callback"):Sem PUnit)
         pure (dO kA)
        else pure (dO kA)
      |_=>do
       (rX "internal:dict-merge":Sem PUnit)
       pure (dO kA):Sem (ForInStep PUnit))
   pure ()) Q E s:=by
  refine ab (jG wY pX ?_);refine ab (cA wY pX ?_);refine ab ?_;rw[Std.Legacy.Range.forIn_eq_forIn_range'];simp only[Std.Legacy.Range.size,Nat.sub_zero,Nat.add_sub_cancel,Nat.div_one];have start:Inv X pins Y (upd H d (e6 d (es++fs.take 0))) s:=by
   have e:upd H d (e6 d (es++fs.take 0))=H:=by
    funext c
    by_cases z:c=d
    ·rw[z,i4,hd];simp
    ·rw[f6 z]
   rw[e];exact I
  refine wpAny_forIn_list _
   (λrest _ s'=>∃i,rest=List.range' i (mo.size-i)/\i<=mo.size/\Inv X pins Y (upd H d (e6 d (es++fs.take i))) s'/\s'.heap.get? o=cz oo)
   _ ?_ ?_ _ _ ⟨0,by simp,b_ _,start,wY⟩
  ·rintro x rest b s' ⟨i,hr,hi,I',sV⟩;have gG:i<mo.size:=by
    rcases gE i mo.size with h|h
    ·exact h
    ·rw[Nat.sub_eq_zero_of_le h]at hr;simp at hr
   obtain⟨rfl,jx⟩:x=i/\rest=List.range' (i+1) (mo.size-(i+1)):=by
    have e:mo.size-i=(mo.size-(i+1))+1:=by lia
    rw[e,FD]at hr
    injection hr with h1 h2
    exact⟨h1,h2⟩
   refine ab (cA sV pX ?_);rw[bN gG];obtain⟨f,hf⟩:∃f,fs[x]?=cz f:=⟨fs[x]'(by rw[hlen];exact gG),au _⟩;obtain⟨y,hy,hh,rk,rv⟩:=a1J Av hf;have ye:mo[x]=y:=by
    have:mo.toList[x]?=cz mo[x]:=by simp[gG]
    rw[hy]at this;exact (aH this).symm
   show aD _ _ (nG [mo[x].key,mo[x].val] (kO d mo[x].key mo[x].hash mo[x].val) >>= _) _ _ _;rw[ye,hh];have lj:es++fs=(es++fs.take x)++f::fs.drop (x+1):=by
    have e1:fs=fs.take x++f::fs.drop (x+1):=by
     have o_:=(aO.mp hf);obtain⟨ue,vc⟩:=o_;rw[<-vc,<-dP ue,List.take_append_drop]
    rw[be,<-e1]
   have KK:KeysAt X (upd H d (e6 d (es++fs.take x))) kt (es++fs.take x) f.1 f.2.1:=
    ⟨λe he=>⟨(hk e (by rw[lj];exact aA _ he)).1,((hk e (by rw[lj];exact aA _ he)).2.up (Ak _)).up i7⟩,
     (hk f (by rw[lj];simp)).1,((hk f (by rw[lj];simp)).2.up (Ak _)).up i7⟩
   have oO:∀e∈es++fs.take x,e.1≠f.1:=λe he z=>by
    rw[lj,aM,ay,bb]at i_;exact i_.2.2 e.1 (bt he) f.1 aj z
   have AD:(es++fs.take x).length<aP:=by
    rw[aV,dY];lia
   refine ab (bK (a5X (v:=f.2.2) I' hu i4 KK rk rv AD oO λEW BK sb=>?_));have sg:EW.get? o=cz oo:=(sb.2 o (dc so)).trans sV;refine ab (jG sg pX ?_);rw[aL (by simp)];refine ae ⟨x+1,jx,gG,?_,sg⟩;rw[b3o,be]at BK;have e2:fs.take (x+1)=fs.take x++[(f.1,f.2.1,f.2.2)]:=by rw[List.take_add_one,hf];rfl
   rw[e2];exact BK
  ·rintro b s' ⟨i,hr,hi,I',sV⟩;have ki:i=mo.size:=by
    rcases gE i mo.size with h|h
    ·have e:mo.size-i=(mo.size-(i+1))+1:=by lia
     rw[e,FD]at hr;exact nomatch hr
    ·exact GO hi h
   rw[ki,<-hlen,kc]at I';exact ae (hQ s' I')
 dsimp only
 split
 ·refine ab (cA Du tG ?_)
  split
  ·rename_i yY
   have h0:rH=#[]:=Array.isEmpty_iff.mp yY;have:=dw Dp;rw[h0]at this;exact absurd (er.mp (by simpa using this)) gC
  ·exact loop
 ·exact loop
def a9M(hu:A.units+12<dq)(I:Inv X pins Y H s)(hd:H d=cz (e6 d es))(ho:H o=cz (e6 o fs))(so:d≠o)(gC:es≠[])(zb:d∈F)
  (hk:∀e∈es++fs,keyOk kt e.1/\Den X.K (cut H F) e.2.1 e.1) (i_:((es++fs).map (·.1)).Nodup) (hsz:es.length+fs.length<=aP) (hQ:∀s',Inv X pins Y (upd H d (e6 d (es++fs))) s'->Q .none s') :
  aD (aT X.prog X.w) A (call (.builtin "dict.update") [.ref d,.ref o]) Q E s:=by
 have hT:=j9 I hd;have tN:=j9 I ho;refine bD rO hT PySem.F.entry_dict_update ?_ (PySem.F.args_dict_update_2 _ _);unfold Builtin.«dict.update»;refine ab ?_;unfold kX;refine ab (fA hT ?_);show aD _ _ (pure (d,[a_ o])) _ _ s;refine ae ?_;show aD _ _ (eR "dict.update" d (.ref o) [] .none) _ _ s;unfold eR;refine ab (gY tN ?_);rw[aL (by decide)];refine ab ?_;unfold Builtin.Dict.merge;refine ab ?_;unfold xE;refine ab (ff tN isSubtype_dict_dict ?_);simp only[jT,cP,fF];refine ab (du tN PySem.F.slot_dict_iter.lookup (ae ?_));simp only[fH,jl];refine ab (ae ?_);refine b1M (A:=A.in1) I (by show A.units+1+10<dq;lia) hd ho so gC zb hk i_ hsz λs' I'=>?_
 show aD _ _ (zJ d [] >>= _) _ _ _;exact ab (ae (ae ⟨.none,rfl,hQ s' I'⟩))
end
section
variable {K:af}{M:List Md}{U:List D}{Y:L2.St}{H P:Hp}{F:List av}{i j:Nat}{kt:Bool}{u:Ty}
def StR.update(mK:i≠j)(h:StR K M U Y H P F)(hi:M[i]?=cz (.own (.d kt u)))(hj:M[j]?=cz (.own (.d kt u))) :
  ∃F' a b es fs ds eJ,Y[i]?=cz (cz (.ref a))/\Y[j]?=cz (cz (.ref b))/\a≠b/\U[i]?=cz (.dict ((es.map (·.1)).zip ds))/\U[j]?=cz (.dict ((fs.map (·.1)).zip eJ))/\H a=cz (e6 a es)/\H b=cz (e6 b fs)/\a∈F'/\
   (∀e∈es++fs,keyOk kt e.1/\Den K (cut H F') e.2.1 e.1)/\ds.length=es.length/\eJ.length=fs.length/\(es.map (·.1)).Nodup/\(fs.map (·.1)).Nodup/\
   (((es++fs).map (·.1)).Nodup->StR K (M.set j (.keys kt)) (U.set i (.dict (((es++fs).map (·.1)).zip (ds++eJ)))) Y (upd H a (e6 a (es++fs))) P F'):=by
 obtain⟨G,h1,h2,h3⟩:=h.all;obtain⟨dj,oj,fj,pG,mS,Bu,Bt,⟨vj,rfl,Oj⟩,zB,Fe⟩:=h1.at_ hj;obtain⟨b,fs,eJ,gs,rfl,xr,rfl,rfl,w_,EL,vA,yE⟩:=Oj.dict;rw[zB]at h2;have jm:∀x∈F.filter (λx=>decide (x≠b)),x∈F:=λx hx=>(bx.mp hx).1
 have sr:b∉F.filter (λx=>decide (x≠b)):=λhx=>absurd rfl (aW (bx.mp hx).2)
 have hc:Same (cut H F) (cut H (F.filter (λx=>decide (x≠b)))):=C8 jm;have uN:SlotR K H (F.filter (λx=>decide (x≠b))) (.keys kt) (cz (.ref b)) (.dict ((fs.map (·.1)).zip eJ)) []:=
  ⟨rfl,b,fs,_,rfl,rfl,j6 sr xr,(FF (by rw[ah,vA];exact aB _)).symm,λe he=>⟨(w_ e he).1,(w_ e he).2.up hc⟩⟩
 have q1:=Fe H _ (.keys kt) _ (cz (.ref b)) [] (λ_ _=>rfl) hc uN;rw[set_same Bu,set_same Bt]at q1;have uj:(M.set j (.keys kt))[i]?=cz (.own (.d kt u)):=by rw[ej (dc mK)];exact hi
 obtain⟨di,oi,f1,oB,mf,Fh,Bw,⟨vi,rfl,Oi⟩,Fg,Ff⟩:=q1.at_ uj;obtain⟨a,es,ds,fi,rfl,xt,rfl,rfl,xa,EM,rq,yF⟩:=Oi.dict;have tR:pG++mS=oB++((a::fi)++mf):=by simpa using Fg
 have apart:=a1i h2;have kj:∀x∈pG++mS,x∈F:=λx hx=>h3 x (by rw[zB];exact mem_mid hx)
 have tM:a∈pG++mS:=by rw[tR];simp
 have pq:a≠b:=λz=>apart b aj (by rw[<-z];exact tM)
 have ud:∀x∈F,x≠b->x∈F.filter (λx=>decide (x≠b)):=λx hx hb=>bx.mpr ⟨hx,aI hb⟩
 have mL:a∈F.filter (λx=>decide (x≠b)):=ud a (kj a tM) pq;have nH:∀e∈es++fs,keyOk kt e.1/\Den K (cut H (F.filter (λx=>decide (x≠b)))) e.2.1 e.1:=λe he=>by
  rcases az.mp he with z|z
  ·exact xa e z
  ·exact⟨(w_ e z).1,(w_ e z).2.up hc⟩
 refine⟨_,a,b,es,fs,ds,eJ,Bw,Bt,pq,Fh,Bu,xt,xr,mL,nH,rq,vA,yF,yE,λi_=>?_⟩;have ml:Same (cut H (F.filter (λx=>decide (x≠b)))) (cut (upd H a (e6 a (es++fs))) (F.filter (λx=>decide (x≠b)))):=λc o' xg=>by
  obtain⟨r1,r2⟩:=o6 xg;have ne:c≠a:=λz=>r1 (by rw[z];exact mL)
  exact j6 r1 (by rw[f6 ne];exact r2)
 have vx:(oB++((a::fi)++mf)).Nodup:=by rw[<-tR];exact L9 h2
 have vS:a∉fi++mf:=by
  have:=(bb.mp vx).2.1;rw[bh,br]at this;exact this.1
 have vR:a∉oB:=λz=>(bb.mp vx).2.2 a z a (by simp) rfl
 have zi:a∉gs:=λz=>apart a (ak _ z) tM
 have own:Own K (upd H a (e6 a (es++fs))) (F.filter (λx=>decide (x≠b))) (.d kt u) (.ref a) (.dict (((es++fs).map (·.1)).zip (ds++eJ))) (a::(fi++gs)):=by
  simp only[Own];refine⟨a,es++fs,ds++eJ,fi++gs,rfl,i4,rfl,rfl,⟨i_,λe he=>⟨(nH e he).1,(nH e he).2.up ml⟩⟩,?_⟩;rw[aM];refine ListAll.append (EM.imp λv d f hf _ q=>q.frame ml u λx hx=>?_) (EL.imp λv d f hf _ q=>q.frame (hc.trans ml) u λx hx=>?_)
  ·exact f6 λz=>vS (aA _ (by rw[<-z];exact hf x hx))
  ·exact f6 λz=>zi (by rw[<-z];exact hf x hx)
 have q2:=Ff _ _ (.own (.d kt u)) _ (cz (.ref a)) (a::(fi++gs)) (λx hx=>f6 λz=>by
  rcases az.mp hx with y|y
  ·exact vR (by rw[<-z];exact y)
  ·exact vS (aq _ (by rw[<-z];exact y))) ml ⟨_,rfl,own⟩
 rw[set_same uj,set_same Bw]at q2;have vH:gs.Nodup:=by
  have:=(bb.mp h2).2.1;rw[bh,br]at this;exact (bb.mp this.2).1
 have eG:oB++((a::(fi++gs))++mf)=(oB++(a::fi))++(gs++mf):=by simp
 have eP:pG++mS=(oB++(a::fi))++mf:=by rw[tR];simp
 refine⟨⟨_,q2,?_,λx hx=>?_⟩,λx hx=>?_,h.prot.trans (hc.trans ml)⟩
 ·rw[eG];exact X5 (by rw[<-eP];exact L9 h2) vH λx hx z=>apart x (ak _ hx) (by rw[eP];exact z)
 ·rw[eG]at hx;rcases a2c hx with z|z
  ·have jK:x≠b:=λy=>by
    have:=(bb.mp h2).2.1;rw[bh,br]at this;exact this.1 (aA _ (by rw[<-y];exact z))
   exact ud x (h3 x (by rw[zB];exact aq _ (aA _ (ak _ z)))) jK
  ·have rh:x∈pG++mS:=by rw[eP];exact z
   exact ud x (kj x rh) λy=>apart b aj (by rw[<-y];exact rh)
 ·by_cases z:x=a
  ·rw[z];exact⟨⟨e6 a (es++fs),trivial⟩,i4⟩
  ·rw[f6 z];exact h.lst x (jm x hx)
end
def a9N(i j:Nat):EvS:=λU=>match U.getD i .none,U.getD j .none with
 |.dict kvs,.dict more=>if !kvs.isEmpty&&(more.all λp=>!y6 kvs p.1)&&decide (kvs.length+more.length<=1000000) then cz (.nx (U.set i (.dict (kvs++more)))) else el
 |_,_=>el
section
variable {X:Cx}{w u:Ty}{ML M:List Md}{kt:Bool}{pos apos cF px py:eM}{x y:bH}
def c0v(X:Cx):V->List V->Hp->VK->Prop:=λz xs H Q=>∃p q es fs kt F,z=.ref p/\xs=[.ref q]/\H p=cz (e6 p es)/\H q=cz (e6 q fs)/\p≠q/\es≠[]/\p∈F/\(∀e∈es++fs,keyOk kt e.1/\Den X.K (cut H F) e.2.1 e.1)/\((es++fs).map (·.1)).Nodup/\es.length+fs.length<=aP/\Q .non (upd H p (e6 p (es++fs)))
def b7m(hu:X.A.units+464<dq):MtR X "dict.update" (c0v X):=by
 intro pins s Y H z xs v us Q I rx rv h;obtain⟨p,q,es,fs,kt,F,rfl,rfl,hp,hq,Dn,gC,wX,hk,i_,hsz,qq⟩:=h;cases (show v=a_ p from rx)
 obtain⟨w,rfl,rw⟩:=rv.one;cases (show w=a_ q from rw)
 exact a9M (by lia) I hp hq Dn gC wX hk i_ hsz λs' I'=>⟨.non,_,I',rfl,qq⟩
def a9O(i j:Nat)(mK:i≠j)(hu:X.A.units+464<dq)(hi:M[i]?=cz (.own (.d kt u)):=by rfl)(hj:M[j]?=cz (.own (.d kt u)):=by rfl)(EJ:X.N[i]?=cz x:=by rfl)(EH:X.N[j]?=cz y:=by rfl)
  (De:Vis X.env.scope x:=by first|exact fg rfl|exact iX (fg rfl)|exact iX (iX rfl)) (Dd:Vis X.env.scope y:=by first|exact fg rfl|exact iX (fg rfl)|exact iX (iX rfl))
  (pY:(x==("__debug__":bH))=rp:=by decide) (Ek:(x==("__classdict__":bH))=rp:=by decide) (Ef:(y==("__debug__":bH))=rp:=by decide) (Ej:(y==("__classdict__":bH))=rp:=by decide)
  (eD:cZ (.Name x px) "update" X.env (cy (.Name x px) X.env)=cy (.Name x px) X.env:=by rfl)
  (lr:((cB cF (ax [.Name y py] X.env)).all (λx=>!x.1)&&(qw cF (kF [] X.env)).all (λx=>x.1.isSome)
   && decide (([.Name y py]:List Expr).length+([]:List iQ).length+(if ([]:List iQ).isEmpty then 0 else 1)<30))=p4:=by rfl)
  (eB:(apos.endLine==cF.line)=p4:=by rfl) (hs:ax [.Name y py] X.env=(rp,cy (.Name y py) X.env)::ax [] X.env:=by rfl) (ig:(cB cF (ax [] X.env)).any (·.1)=rp:=by rfl)
  (oI:fE (.Call (.Attribute (.Name x px) "update" apos) [.Name y py] [] cF) el pos.line X.env=pure rp:=by rfl) :
  PSX X w ML M (.Expr (.Call (.Attribute (.Name x px) "update" apos) [.Name y py] [] cF) pos) (a9N i j) (M.set j (.keys kt)):=by
 refine .mk ⟨_,a0n (b1F rO PySem.F.type_dict_update (b7m hu) (C4 EJ De pY Ek) (m5 (C4 EH Dd Ef Ej) s9 hs) eD lr eB hs ig) oI,λD U Y H P F o S hg k=>?_⟩;obtain⟨F',a,b,es,fs,ds,eJ,s1,s2,pq,r1,r2,xt,xr,mL,nH,rq,vA,yF,yE,S'⟩:=S.update mK hi hj;unfold a9N at hg;rw[A2 r1,A2 r2]at hg;have pf:(if !((es.map (·.1)).zip ds).isEmpty&&(((fs.map (·.1)).zip eJ).all λp=>!y6 ((es.map (·.1)).zip ds) p.1)&&decide (((es.map (·.1)).zip ds).length+((fs.map (·.1)).zip eJ).length<=1000000) then cz (Out.nx (U.set i (.dict ((es.map (·.1)).zip ds++(fs.map (·.1)).zip eJ)))) else el)=cz o:=hg
 split at pf
 ·next c=>
  cases pf
  rw[aw,aw]at c;obtain⟨⟨c1,c2⟩,c3⟩:=c;have l1:((es.map (·.1)).zip ds).length=es.length:=by rw[dh,ah,rq,kB]
  have l2:((fs.map (·.1)).zip eJ).length=fs.length:=by rw[dh,ah,vA,kB]
  have Fx:=aW c3;rw[l1,l2]at Fx;have gC:es≠[]:=λz=>by rw[z]at c1;simp at c1
  have i_:((es++fs).map (·.1)).Nodup:=by
   rw[aM,bb];refine⟨yF,yE,λp hp q hq z=>?_⟩;obtain⟨e,he,rfl⟩:=aR.mp hp;obtain⟨f,hf,rfl⟩:=aR.mp hq;obtain⟨n,hn⟩:=bJ.mp hf;have gG:n<eJ.length:=by rw[vA];exact (aO.mp hn).1
   have hm:(f.1,eJ[n])∈(fs.map (·.1)).zip eJ:=by
    refine bJ.mpr ⟨n,?_⟩;rw[gI];exact⟨by rw[aX,hn];rfl,au gG⟩
   have oN:=bj.mp c2 _ hm;have rl:y6 ((es.map (·.1)).zip ds) f.1=rp:=by simpa using oN
   rw[x8 rq]at rl;unfold u7 at rl;rw[cx]at rl;refine rl e he ?_;exact (B6 e.1 f.1 (nH e (aA _ he)).1.1 (nH f (aq _ hf)).1.1).mpr z
  have hz:aP=16777216:=cM;refine⟨.ref a,s1,⟨a,es,rfl,xt⟩,.ref b,s2,⟨a,b,es,fs,kt,F',rfl,rfl,xt,xr,pq,gC,mL,nH,i_,by lia,?_⟩⟩;have S2:=S' i_;rw[aM,oV (by rw[ah];exact rq.symm)]at S2;exact k Y _ F' S2
 ·cases pf
end
def StE.getKeys(h:StE K M U Y H P F)(hm:M[j]?=cz (.keys kt)) :
  ∃a es kvs,Y[j]?=cz (cz (.ref a))/\U.getD j .none=.dict kvs/\H a=cz (e6 a es)/\es.map (·.1)=kvs.map (·.1)/\∀e∈es,keyOk kt e.1/\Den K H e.2.1 e.1:=by
 obtain⟨G,h1,h3⟩:=h.all;obtain⟨d,o,f,pre,post,e1,e2,⟨_,a,es,kvs,rfl,rfl,z1,z2,z3⟩,e4,_⟩:=h1.at_ hm;exact⟨a,es,kvs,e2,A2 e1,i7 _ _ z1,z2,λe he=>⟨(z3 e he).1,(z3 e he).2.up i7⟩⟩
section
variable {X:Cx}{M:List Md}{a:Expr}{fa:EvE}{ca:Cat}{kt:Bool}{pos py:eM}{y:bH}
def b4k(j:Nat)(ho:OpR X (bQ op) (a3G X neg))(ha:PX X M a fa ca)(hj:M[j]?=cz (.keys kt):=by rfl)(hN:X.N[j]?=cz y:=by rfl)(hv:autoParam (NmV X y) ZY._auto_1)(hm:autoParam (et op (.Name y py)=rp) ZX._auto_1):PTX X M (.Compare a [op] [.Name y py] pos) (tB (e2 (dIn neg kt) fa (b7 j))):=by
 obtain⟨ta,pa,qa⟩:=ha.out;refine .mk ⟨_,a0p ho pa (C4 hN hv.1 hv.2.1 hv.2.2) hm,λU Y H P F k Q S hf q=>?_⟩;obtain⟨d,hf,yQ⟩:=bnd hf;cases F6 yQ
 obtain⟨x,z,h1,h2,h3⟩:=C0 hf;cases h2
 refine qa U Y H P F x _ S h1 λv H1 e1 r1=>?_
 obtain⟨p,es,kvs,s1,hr,hH,hk,nH⟩:=(S.grow e1).getKeys hj;rw[hr]at h3;obtain⟨CK,e3,DQ,e4⟩:=a5S h3;cases e3
 refine⟨.ref p,s1,p,es,kt,x,rfl,hH,⟨nH,x6 DQ,r1.den⟩,?_⟩;rw[<-a1q hk];cases e4
 exact⟨_,rfl,q H1 e1⟩
end
def frz:Md->Md
 |.own .i=>.own .i
 |.own _=>.own .f
 |m=>m
def b1N(h:SlotR K H F m o d f):SlotR K H [] (frz m) o d []:=by
 have hc:Same (cut H F) (cut H []):=λa x ha=>j6 (by simp) (i7 a x ha)
 have key:∀u:Ty,(∃v,o=cz v/\Own K H F u v d f)->SlotR K H [] (.own .f) o d []:=λu ⟨v,e,q⟩=>⟨v,e,by
  have hd:Den K H v d:=q.den;simp only[Own];exact⟨trivial,hd.up λa x ha=>j6 (by simp) ha⟩⟩
 cases m with
 |dead=>rfl
 |own u=>
  cases u with
  |i=>
   obtain⟨v,e,q⟩:=h;refine⟨v,e,?_⟩;simp only[Own]at q ⊢;exact⟨trivial,q.2.1,q.2.2.up hc⟩
  |f=>exact key _ h
  |l u=>exact key _ h
  |tp us=>exact key _ h
  |d kt u=>exact key _ h
 |exc=>obtain⟨_,h2⟩:=h.frame (H':=H) (F':=[]) hc λ_ _=>rfl;exact⟨rfl,h2⟩
 |keys kt=>obtain⟨_,h2⟩:=h.frame (H':=H) (F':=[]) hc λ_ _=>rfl;exact⟨rfl,h2⟩
 |pin v=>exact⟨rfl,h.2⟩
 |fn Φ=>obtain⟨_,h2⟩:=h.frame (H':=H) (F':=[]) hc λ_ _=>rfl;exact⟨rfl,h2⟩
theorem a4i:∀{M:List Md} {U:List D} {Y:L2.St} {G:List av},StAll K H F M U Y G->StAll K H [] (M.map frz) U Y []
 |[],_,_,_,h=>by simp only[StAll]at h;obtain⟨rfl,rfl,_⟩:=h;exact L8
 |m::M,_,_,_,h=>by
  simp only[StAll]at h;obtain⟨d,U,o,Y,f,g,rfl,rfl,rfl,h1,h2⟩:=h;exact k7 (f:=[]) (g:=[]) (b1N h1) (a4i h2)
section
variable {X:Cx}{M ML:List Md}{u:Ty}{e:Expr}{f:EvE}{pos:eM}
def StR.free(S:StR K M U Y H P F)(hM:M.map frz=M):StR K M U Y H P []:=by
 obtain⟨G,h1,_,_⟩:=S.all;have:=a4i h1;rw[hM]at this;exact⟨⟨[],this,bp,λa ha=>(nomatch ha)⟩,λa ha=>(nomatch ha),S.prot.trans λa x ha=>j6 (by simp) (i7 a x ha)⟩
end
end VS
namespace PySem
def Heap.RawDict(hp:bR)(d:av)(rows:Array eQ)(ep:Nat):Prop:=∃u,hp.get? d=cz u/\u.ExactDict/\u.data=.dict rows ep
section
variable {prog:bw}{w:bO}{A:bC}{E:ai->ar->Prop}{sh:ar}{d it:av}{rows:Array eQ}{ep i:Nat}
def Heap.RawDict.at{h h':bR}(x:h.RawDict d rows ep)(e:∀o,h.get? d=cz o->h'.get? d=cz o):h'.RawDict d rows ep:=let⟨u,hu,r⟩:=x;⟨u,e _ hu,r⟩
def Heap.RawDict.typeIs(x:sh.heap.RawDict d rows ep):sh.TypeIs (.ref d) "dict":=let⟨u,hu,r,_⟩:=x;⟨u,hu,r.1⟩
def b1O(h0:(d==cN)=rp)(hm:sh.heap.RawDict d rows ep)
  (q:Q (.ref sh.heap.objs.size) {sh with heap:=sh.heap.push {cls:=.type "dict_keyiterator",data:=.fields #[.ref d,.int 0 0,.int rows.size 0,.int ep 0]}}) :
  aD (aT prog w) A (qY (.ref d)) Q E sh:=by
 obtain⟨u,hu,hx,lX⟩:=id hm;refine pD hm.typeIs rQ (bD rQ hm.typeIs F.entry_dict_iter ?_ (F.args_dict_iter_1 _));unfold Builtin.«dict.__iter__»;refine ab ?_;unfold Builtin.Dict.dictSlotNone;refine ab (fA hm.typeIs ?_);show aD _ _ (pure (a_ d)) _ _ sh;refine ae ?_;show aD _ _ (jj d >>= _) _ _ sh;unfold jj;rw[aL (by rw[h0];exact aS)];refine ab (ae (ab (cA hu lX (ab (jG hu lX ?_)))));refine ab (de (ae ⟨_,rfl,"dict_keyiterator",_,⟨_,aE _ rfl,rfl⟩,eU.lookup,?_⟩));simpa[cV]using q
def b1P(hI:sh.heap.IsKeyIter it d i rows.size ep)(hm:sh.heap.RawDict d rows ep)(hi:i<rows.size)
  (q:∀h',h'.IsKeyIter it d (i+1) rows.size ep->cD it sh.heap h'->Q (cz rows[i].key) {sh with heap:=h'}):aD (aT prog w) A (fP (.ref it)) Q E sh:=by
 obtain⟨x,hx,rg,lN⟩:=id hI;obtain⟨u,hu,_,n_⟩:=id hm;unfold fP;refine ab (gB (bI (name:=cf "__next__") hI.typeIs eU (bD eU hI.typeIs sJ ?_ (rR _))));refine ab (ae (ab (ab ?_)))
 first|refine ab (f_ hI.typeIs (ae ?_))|refine ab (ie hI.typeIs (ae ?_))
 refine ab (iK hx lN ?_);simp only[show tY "dict_keyiterator"=rp from by decide,cP,fF];show aD _ _ (if (a_ d==cj)=p4 then _ else _) _ _ sh;rw[aL (show ¬ (a_ d==cj)=p4 from aS)];refine ab (ae (ab (cA hu n_ ?_)));rw[aL (by simp)];refine ab (ae (ab (jG hu n_ ?_)));rw[aL (by simp)];refine ae ?_;simp only[show ¬ (i:Int)<0 from by lia,fF,bE,bN hi];refine ab ?_
 first|refine ab (f_ hI.typeIs (ae ?_))|refine ab (ie hI.typeIs (ae ?_))
 refine ab (FL hI.typeIs ?_);show aD _ _ (setField (.ref it) 1 (cV ((i:Int)+1)) >>= _) _ _ sh;refine ab (eA hx lN (by simp) ?_);have sv:(sh.heap.update it (zH (·.setIfInBounds 1 (cV ((i:Int)+1))))).IsKeyIter it d (i+1) rows.size ep:=
  ⟨_,bS _ hx (mG (gi lN _)),(qC ..).trans rg,by rw[gi lN];simp[cV]⟩
 refine ab (bK ?_);refine ab (FL (s:={sh with heap:=sh.heap.update it (zH (·.setIfInBounds 1 (cV ((i:Int)+1))))}) sv.typeIs ?_);show aD _ _ (pure rows[i].key) _ _ _;exact ae (ae ⟨_,rfl,ae (q _ sv (bP ..))⟩)
def b1Q(hh:A.handled=el)(hI:sh.heap.IsKeyIter it d i rows.size ep)(hm:sh.heap.RawDict d rows ep)(hi:rows.size<=i)
  (q:∀h',sI it sh.heap h'->Q el {sh with heap:=h'}):aD (aT prog w) A (fP (.ref it)) Q E sh:=by
 obtain⟨x,hx,rg,lN⟩:=id hI;obtain⟨u,hu,_,n_⟩:=id hm;unfold fP;refine ab (gB (bI (name:=cf "__next__") hI.typeIs eU (bD eU hI.typeIs sJ ?_ (rR _))));refine ab (ae (ab (ab ?_)))
 first|refine ab (f_ hI.typeIs (ae ?_))|refine ab (ie hI.typeIs (ae ?_))
 refine ab (iK hx lN ?_);simp only[show tY "dict_keyiterator"=rp from by decide,cP,fF];show aD _ _ (if (a_ d==cj)=p4 then _ else _) _ _ sh;rw[aL (show ¬ (a_ d==cj)=p4 from aS)];refine ab (ae (ab (cA hu n_ ?_)));rw[aL (by simp)];refine ab (ae (ab (jG hu n_ ?_)));rw[aL (by simp)];refine ae ?_;simp only[show ¬ (i:Int)<0 from by lia,fF,bE,eN hi];refine ab ?_
 first|refine ab (f_ hI.typeIs (ae ?_))|refine ab (ie hI.typeIs (ae ?_))
 show aD _ _ (setField (.ref it) 0 .none >>= _) _ _ sh;refine ab (eA hx lN (by simp) ?_);show aD _ _ (CB (.type "StopIteration") [] >>= _) _ _ _;refine ab ?_;simp only[CB,newTuple];refine ab (de ?_ (by size_fits));refine ab (m:=iM _ _) (rU (a:=cj) (by first|rfl|(simp only[iM];rfl)) ?_);refine de ?_ (by size_fits);simp only[raiseNew];refine ab (xK ?_);rw[show A.in1.handled=el from hh];refine ab (ae (wpAny_throw ?_));refine ab (ff (b:=p4) (T:="StopIteration") ⟨_,aE _ rfl,rfl⟩ uX ?_);exact ae (q _ (((bP ..).extBut.push _).push _))
def a9P(hh:A.handled=el)(gC:d≠it):Walks prog w A it [it,d] [it] rows.size (λi v=>∃e,rows[i]?=cz e/\v=e.key) (λi h=>h.IsKeyIter it d i rows.size ep/\h.RawDict d rows ep) where
 sub:=λb hb=>aC.mpr (.inl (ao.mp hb))
 frame:=λ_ _ _ st hk=>⟨st.1.at λo e=>hk it aj o e,st.2.at λo e=>hk d (ak _ aj) o e⟩
 item:=λi s Q E hi st q=>b1P st.1 st.2 hi λh' hI hs=>q _ h' s.toks ⟨rows[i],bN hi,rfl⟩ ⟨hI,st.2.at λo e=>hs.extBut d o gC e⟩ λb o hb e=>hs.extBut b o (λz=>hb (by rw[z];exact ao.mpr rfl)) e
 done:=λs Q E st q=>b1Q hh st.1 st.2 (aB _) λh' he=>q h' s.toks λb o hb e=>he b o (λz=>hb (by rw[z];exact ao.mpr rfl)) e
 self:=λ_ _ _ _ st q=>wpAny_pyIter_keyiter st.1 q
def b4l(h0:(d==cN)=rp):W.KdlSrc prog w "dict" d d rows.size (λi v=>∃e,rows[i]?=cz e/\v=e.key) (λh=>h.RawDict d rows ep) where
 type:=λ_ hm=>hm.typeIs
 there:=λh hm=>let⟨_,hu,_⟩:=hm;⟨aF hu,aF hu⟩
 keep:=λ_ _ hm hk=>hm.at λo e=>hk d (.inl rfl) o e
 notList:=by decide
 notTuple:=by decide
 hint:=λ_ _ s _ hm q=>W.kdl_hint_dict (Heap.RawDict.typeIs (sh:=s) hm) q
 iter:=λ_ _ hh hm=>⟨_,_,(λ_ _ q=>b1O h0 hm q),a9P hh (let⟨_,hu,_⟩:=hm;ba (aF hu)),⟨⟨_,aE _ rfl,rfl,rfl⟩,hm.at λ_ e=>ag _ e⟩⟩
end
end PySem
namespace VS
open PySem PySem.Spec L2
open PyProof.Rows (KeyOrd keyKind' keyLt')
section
variable {prog:bw}{w:bO}{A:bC}{E:ai->ar->Prop}{sh:ar}{vs:List ai}{κ:qM}{O:KeyOrd}{key:Nat->O.α}
def Kept(h h':bR):Prop:=∀b o,h.get? b=cz o->h'.get? b=cz o
theorem Kept.push(x:Kept h h')(o:fD):Kept h (h'.push o):=λb u e=>ag _ (x b u e)
structure Sortable (prog:bw) (w:bO) (A:bC) (h0:bR) (ks:List ai) (κ:qM) (O:KeyOrd) (key:Nat->O.α):Prop where
 kind:2<=ks.length->∀(s:ar) (E:ai->ar->Prop) (Q:qM->ar->Prop),Kept h0 s.heap->Q κ s->aD (aT prog w) A (keyKind' ks.toArray) Q E s
 lt:∀(s:ar) (i j:Nat) (C:Bool->ar->Prop),Kept h0 s.heap->i<ks.length->j<ks.length->C (O.blt (key i) (key j)) s->aD (aT prog w) A (keyLt' κ (ks.getD i cj) (ks.getD j cj)) C (λ_ _=>False) s
end
end VS
namespace VS
open PySem PySem.Spec L2
def W5:∀{ns:List Int} {xs:List V},DenAll K H xs (ns.map .int)->xs=ns.map V.int:=by
 intro ns
 induction ns with
 |nil=>intro xs h;exact h.nil_inv
 |cons n ns ih=>
  intro xs h;obtain⟨v,r,rfl,h1,h2⟩:=h.cons_inv;rw[h1.int_inv,ih h2];rfl
section
variable {X:Cx}{pins:List (av×fD)}{Y:L2.St}{H:Hp}{s:ar}
def a3H:∀{l:List α} {p:List Nat},p.Perm (aQ l.length)->(p.map λi=>l.getD i d).Perm l:=by
 intro l p h;refine (h.map _).trans (List.Perm.of_eq ?_);refine nz λi=>?_
 rw[aX];by_cases c:i<l.length
 ·rw[jh c,GK,au c,aU,au c];rfl
 ·rw[dU (by simpa using c),dU (by simpa using c)];rfl
end
section
variable {X:Cx}{M:List Md}{a:Expr}{fa:EvE}{ca:Cat}{pos p:eM}
theorem a1K:∀{kvs:List (D×D)} {es:List (D×V×V)},DenKV K H es kvs->DenAll K H (es.map (·.2.1)) (kvs.map (·.1))
 |[],es,h=>by
  simp only[DenKV]at h;subst h;exact denAll_nil
 | (k,d)::r,es,h=>by
  simp only[DenKV]at h;obtain⟨e,q,rfl,h2,h3,h4,h5⟩:=h;exact denAll_cons h3 (a1K h5)
end
end VS
namespace VS
open PySem PySem.Spec L2
section
variable {K:af}{H:Hp}{F:List av}{kt:Bool}{u:Ty}
def K1(mL:a∈F)(o:HO):Same (cut H F) (cut (upd H a o) F):=λb o' hb=>by
 obtain⟨n1,n2⟩:=o6 hb;exact j6 n1 (by rw[f6 (show b≠a from λz=>n1 (z▸mL))];exact n2)
def b1R(o:Own K H F (.d kt u) (.ref a) (.dict kvs) f)(rB:∀b∈f,b∈F)(i_:(fv++f).Nodup)(hk:keyOk kt k)(vD:Den K (cut H F) kv k)(ov:Own K H F u v d fv) :
  ∃es,H a=cz (e6 a es)/\(∀e∈es,keyOk kt e.1/\Den K (cut H F) e.2.1 e.1)/\es.length=kvs.length/\a∈f/\∃f',Own K (upd H a (e6 a (Q4 es k kv v))) F (.d kt u) (.ref a) (.dict (p6 kvs k d)) f'/\∀b,f'.count b<=f.count b+fv.count b:=by
 obtain⟨a',es,ds,fs,ea,r2,r3,rfl,r5,r6,hl,hn⟩:=o.dict;cases ea
 injection r3 with r3
 subst r3;have mL:a∈F:=rB a aj;have eK:∀o,Same (cut H F) (cut (upd H a o) F):=K1 mL;have cnt:fs.count a=0/\fv.count a=0:=by
  have:=cn.mp i_ a;simp only[aZ,fy]at this;exact⟨by lia,by lia⟩
 have kk:∀(l:List av) (o:HO),l.count a=0->∀b∈l,upd H a o b=H b:=λl o hc b hb=>f6 λz=>by
  subst z;rw[dF]at hc;exact hc hb
 have iA:∀e∈es,aK e.1 k=p4↔e.1=k:=λe he=>B6 e.1 k (r5 e he).1.1 hk.1
 have hlen:es.length=((es.map (·.1)).zip ds).length:=by rw[dh,ah,hl,kB]
 refine⟨es,r2,r5,hlen,aj,?_⟩;have fin:∀(eJ:List (D×V×V)) (iu:List D) (jW:List av),(eJ.map (·.1)).Nodup->(∀e∈eJ,keyOk kt e.1/\Den K (cut H F) e.2.1 e.1)->ListAll (Own K (upd H a (e6 a eJ)) F u) (eJ.map (·.2.2)) iu jW->(∀b,jW.count b<=fs.count b+fv.count b)->
   ∃f',Own K (upd H a (e6 a eJ)) F (.d kt u) (.ref a) (.dict ((eJ.map (·.1)).zip iu)) f'/\∀b,f'.count b<=(a::fs).count b+fv.count b:=λeJ iu jW sZ qH ha nT=>by
  refine⟨a::jW,?_,λb=>?_⟩
  ·simp only[Own];exact⟨a,eJ,iu,jW,rfl,i4,rfl,rfl,⟨sZ,λe he=>⟨(qH e he).1,(qH e he).2.up (eK _)⟩⟩,ha⟩
  ·have:=nT b;simp only[cS];lia
 cases hf:u7 es k with
 |false=>
  rw[a2D hf,a4e (by rw[x8 hl];exact hf),<-W3 (kv:=kv) (v:=v) hl];refine fin (es++[(k,kv,v)]) (ds++[d]) (fs++fv) ?_ ?_ ?_ λb=>by rw[aZ];exact aB _
  ·rw[aM,bb];refine⟨hn,by simp,λx hx y hy e=>?_⟩;simp only[ay,cE,ao]at hy;subst hy;subst e;obtain⟨e,he,rfl⟩:=aR.mp hx;unfold u7 at hf;rw[cx]at hf;exact hf e he ((iA e he).mpr rfl)
  ·intro e he;rcases az.mp he with z|z
   ·exact r5 e z
   ·rw[ao.mp z];exact⟨hk,vD⟩
  ·rw[aM];refine (l9 (eK _) r6 (kk _ _ cnt.1)).append ?_;have:=m4 (R:=Own K (upd H a (e6 a (es++[(k,kv,v)]))) F u) (ov.frame (eK _) u (kk _ _ cnt.2)) m7
   rwa[bz]at this
 |true=>
  have hh:=hf;unfold u7 at hf;rw[cX]at hf;obtain⟨e,he,fO⟩:=hf;have pW:=(iA e he).mp fO;obtain⟨j,hj⟩:=bJ.mp he;have uk:j<ds.length:=by rw[hl];exact (aO.mp hj).1
  have nN:Q4 es k kv v=es.map λe=>if aK e.1 k then (e.1,e.2.1,v) else e:=by unfold Q4;rw[hh];rfl
  have mU:p6 ((es.map (·.1)).zip ds) k d=(es.map (·.1)).zip (ds.set j d):=by
   unfold p6;rw[x8 hl,hh];exact O9 (v:=v) hl iA hn hj pW
  have mX:(Q4 es k kv v).map (·.1)=es.map (·.1):=by rw[nN];exact a2E
  rw[mU,<-mX];obtain⟨w3,f3,a1,a2,s1,s2,pw,s4⟩:=r6.zip (au uk);have pK:(Q4 es k kv v).map (·.2.2)=(es.map (·.2.2)).set j v:=by
   rw[nN];exact a2G hn iA hj pW
  refine fin (Q4 es k kv v) (ds.set j d) (a1++(fv++a2)) (by rw[mX];exact hn) ?_ ?_ λb=>by rw[pw];simp only[aZ];lia
  ·intro e' kN;rw[nN]at kN;obtain⟨e0,tD,rfl⟩:=aR.mp kN
   split
   ·exact r5 e0 tD
   ·exact r5 e0 tD
  ·rw[pK];have c5:(a1++a2).count a=0:=by have:=cnt.1;rw[pw]at this;simp only[aZ]at this ⊢;lia
   exact s4 _ F v d fv (kk _ _ c5) (eK _) (ov.frame (eK _) u (kk _ _ cnt.2))
def StR.dval(S:StR K M U Y H P F)(hm:M[i]?=cz (.own (.d kt u)))(hk:keyOk kt k) :
  ∃a0 es ds,Y[i]?=cz (cz (.ref a0))/\H a0=cz (e6 a0 es)/\U.getD i .none=.dict ((es.map (·.1)).zip ds)/\ds.length=es.length/\(∀e∈es,keyOk kt e.1/\Den K (cut H F) e.2.1 e.1)/\(es.map (·.1)).Nodup/\
   ∀e∈es,e.1=k->∃d f,D4 ((es.map (·.1)).zip ds) k=cz d/\Own K H F u e.2.2 d f/\f.Nodup/\(∀b∈f,b∈F)/\
    ∀(H':Hp) (a:av) (o':MuO) (d':D) (f':List av),Same H H'->a∈f->Own K (upd H' a o'.1) F u e.2.2 d' f'->(∀b,f'.count b<=f.count b)->StR K M (U.set i (.dict (p6 ((es.map (·.1)).zip ds) k d'))) Y (upd H' a o'.1) P F:=by
 obtain⟨G,h1,h2,h3⟩:=S.all;obtain⟨dd,oo,f,pre,post,q1,q2,⟨v2,rfl,q3⟩,rfl,q5⟩:=h1.at_ hm;obtain⟨a0,es,ds,fs,rfl,r2,r3,rfl,r5,r6,hl,hn⟩:=q3.dict;refine⟨a0,es,ds,q2,r2,by rw[A2 q1];exact r3,hl,r5,hn,λe he fO=>?_⟩;have iA:∀e∈es,aK e.1 k=p4↔e.1=k:=λe he=>B6 e.1 k (r5 e he).1.1 hk.1
 obtain⟨j,hj⟩:=bJ.mp he;have uk:j<ds.length:=by rw[hl];exact (aO.mp hj).1
 obtain⟨w3,f3,a1,a2,s1,s2,pw,s4⟩:=r6.zip (au uk);have hw:w3=e.2.2:=by rw[aX,hj]at s1;exact (aH s1).symm
 subst hw;have cnt:∀b,b∈f3->(pre++post).count b=0/\b≠a0/\(a1++a2).count b=0/\f3.count b=1:=λb hb=>by
  have z:=cn.mp h2 b;have z2:=cO.mpr hb;rw[pw]at z;simp only[aZ,bh,cS]at z ⊢;refine⟨by lia,λe=>?_,by lia,by lia⟩;subst e;simp only[fH,jl]at z;lia
 have rB:∀b∈f3,b∈F:=λb hb=>h3 b (by rw[pw];simp[hb])
 refine⟨ds[j],f3,a0E hl iA hn hj fO (au uk),s2,?_,rB,λH' a o' d' f' gr ha o hc=>?_⟩
 ·refine cn.mpr λb=>?_
  by_cases c:b∈f3
  ·rw[(cnt b c).2.2.2];exact aB _
  ·rw[dF.mpr c];exact b_ _
 ·obtain⟨c1,c2,c3,c4⟩:=cnt a ha;have mL:=rB a ha;have eK:Same (cut H F) (cut (upd H' a o'.1) F):=(x0 gr).trans (K1 mL _);have kk:∀(l:List av),l.count a=0->(∀b∈l,b∈F)->∀b∈l,upd H' a o'.1 b=H b:=λl hc yM b hb=>by
   rw[f6 λz=>?_]
   ·exact S.toE.keep gr b (yM b hb)
   ·subst z;rw[dF]at hc;exact hc hb
  have mU:p6 ((es.map (·.1)).zip ds) k d'=(es.map (·.1)).zip (ds.set j d'):=by
   unfold p6;rw[x8 hl,show u7 es k=p4 from cX.mpr ⟨e,he,(iA e he).mpr fO⟩];exact O9 (v:=V.non) hl iA hn hj fO
  have oJ:(es.map (·.2.2)).set j e.2.2=es.map (·.2.2):=set_same (by rw[aX,hj];rfl);have o1:Own K (upd H' a o'.1) F (.d kt u) (.ref a0) (.dict ((es.map (·.1)).zip (ds.set j d'))) (a0::(a1++(f'++a2))):=by
   simp only[Own];refine⟨a0,es,ds.set j d',_,rfl,by rw[f6 (dc c2)];exact gr _ _ r2,rfl,rfl,⟨hn,λe he=>⟨(r5 e he).1,(r5 e he).2.up eK⟩⟩,?_⟩;have:=s4 (upd H' a o'.1) F e.2.2 d' f' (kk _ c3 λb hb=>h3 b (by rw[pw];rcases az.mp hb with z|z<;>simp[z])) eK o;rw[oJ]at this;exact this
  have q:=q5 (upd H' a o'.1) F (.own (.d kt u)) (.dict ((es.map (·.1)).zip (ds.set j d'))) (cz (.ref a0)) _ (kk _ c1 λb hb=>h3 b (mem_mid hb)) eK ⟨_,rfl,o1⟩;rw[set_same (l:=Y) q2,set_same (l:=M) hm]at q;rw[mU];refine⟨⟨_,q,N3 h2 λb=>?_,λb hb=>?_⟩,λb hb=>?_,S.prot.trans eK⟩
  ·have:=hc b;rw[pw];simp only[aZ,bh,cS];lia
  ·have hp:0<(pre++(a0::fs++post)).count b:=by
    have h0:=cO.mpr hb;have:=hc b;rw[pw];simp only[aZ,bh,cS]at h0 ⊢;lia
   exact h3 b (cO.mp hp)
  ·by_cases e:b=a
   ·subst e;exact⟨o',i4⟩
   ·obtain⟨ys,y⟩:=S.lst b hb;exact⟨ys,by rw[f6 e];exact gr _ _ y⟩
def Pend.dnew(h:Pend K ([]++[.own u]) ([]++[d]) ([]++[cz v]) M U Y H P F)(hm:M[i]?=cz (.own (.d kt u)))(hk:keyOk kt k)(yO:Den K H kv k) :
  ∃a0 es ds fv,Y[i]?=cz (cz (.ref a0))/\H a0=cz (e6 a0 es)/\U.getD i .none=.dict ((es.map (·.1)).zip ds)/\ds.length=es.length/\(∀e∈es,keyOk kt e.1/\Den K (cut H F) e.2.1 e.1)/\(es.map (·.1)).Nodup/\Own K H F u v d fv/\fv.Nodup/\(∀b∈fv,b∈F/\b≠a0)/\
   (u7 es k=rp->∀(H':Hp) (a:av) (o':MuO) (d':D) (f':List av),Same (upd H a0 (e6 a0 (es++[(k,kv,v)]))) H'->a∈fv->Own K (upd H' a o'.1) F u v d' f'->(∀b,f'.count b<=fv.count b)->
    StR K M (U.set i (.dict ((es.map (·.1)).zip ds++[(k,d')]))) Y (upd H' a o'.1) P F):=by
 obtain⟨_,_,S⟩:=h;obtain⟨G,h1,h2,h3⟩:=S.all;have lC:StAll K H F (.own u::M) (d::U) (cz v::Y) G:=by simpa using h1
 simp only[StAll]at lC;obtain⟨d0,U',FT,Y',fv,G2,e1,e2,rfl,⟨v',e3,ov⟩,h5⟩:=lC;cases e1
 cases e2
 cases e3
 obtain⟨dd,oo,f,pre,post,q1,q2,⟨v2,rfl,q3⟩,rfl,q5⟩:=h5.at_ hm;obtain⟨a0,es,ds,fs,rfl,r2,r3,rfl,r5,r6,hl,hn⟩:=q3.dict;have Ez:a0∈F:=h3 a0 (by simp);have vD:Den K (cut H F) kv k:=yO.imm_out S.lst k (V6 _ hk.1);have iA:∀e∈es,aK e.1 k=p4↔e.1=k:=λe he=>B6 e.1 k (r5 e he).1.1 hk.1
 have cnt:∀b,b∈fv->(pre++post).count b=0/\b≠a0/\fs.count b=0/\fv.count b=1:=λb hb=>by
  have z:=cn.mp h2 b;have z2:=cO.mpr hb;simp only[aZ,bh,cS]at z ⊢;refine⟨by lia,λe=>?_,by lia,by lia⟩;subst e;simp only[fH,jl]at z;lia
 have wu:(pre++post).count a0=0/\fs.count a0=0:=by
  have z:=cn.mp h2 a0;simp only[aZ,bh,fy]at z ⊢;exact⟨by lia,by lia⟩
 refine⟨a0,es,ds,fv,q2,r2,by rw[A2 q1];exact r3,hl,r5,hn,ov,?_,λb hb=>⟨h3 b (by simp[hb]),(cnt b hb).2.1⟩,λhf H' a o' d' f' gr ha o hc=>?_⟩
 ·refine cn.mpr λb=>?_
  by_cases c:b∈fv
  ·rw[(cnt b c).2.2.2];exact aB _
  ·rw[dF.mpr c];exact b_ _
 ·obtain⟨c1,c2,c3,c4⟩:=cnt a ha;have mL:a∈F:=h3 a (by simp[ha]);have eK:Same (cut H F) (cut (upd H' a o'.1) F):=((K1 Ez _).trans (x0 gr)).trans (K1 mL _);have kk:∀(l:List av),l.count a=0->l.count a0=0->(∀b∈l,b∈F)->∀b∈l,upd H' a o'.1 b=H b:=λl hc xi yM b hb=>by
   have n1:b≠a:=λz=>by subst z;rw[dF]at hc;exact hc hb
   have n0:b≠a0:=λz=>by subst z;rw[dF]at xi;exact xi hb
   rw[f6 n1];obtain⟨ys,q⟩:=S.lst b (yM b hb);rw[q];exact gr _ _ (by rw[f6 n0];exact q)
  have xa:upd H' a o'.1 a0=cz (e6 a0 (es++[(k,kv,v)])):=by rw[f6 (dc c2)];exact gr _ _ i4
  have o1:Own K (upd H' a o'.1) F (.d kt u) (.ref a0) (.dict (((es++[(k,kv,v)]).map (·.1)).zip (ds++[d']))) (a0::(fs++f')):=by
   simp only[Own];refine⟨a0,es++[(k,kv,v)],ds++[d'],_,rfl,xa,rfl,rfl,⟨?_,λe he=>?_⟩,?_⟩
   ·rw[aM,bb];refine⟨hn,by simp,λx hx y hy e=>?_⟩;simp only[ay,cE,ao]at hy;subst hy;subst e;obtain⟨e,he,rfl⟩:=aR.mp hx;unfold u7 at hf;rw[cx]at hf;exact hf e he ((iA e he).mpr rfl)
   ·rcases az.mp he with z|z
    ·exact⟨(r5 e z).1,(r5 e z).2.up eK⟩
    ·rw[ao.mp z];exact⟨hk,vD.up eK⟩
   ·rw[aM];refine (l9 eK r6 (kk _ c3 wu.2 λb hb=>h3 b (by simp[hb]))).append ?_;have:=m4 (R:=Own K (upd H' a o'.1) F u) o m7
    rwa[bz]at this
  rw[W3 (kv:=kv) (v:=v) hl]at o1;have q:=q5 (upd H' a o'.1) F (.own (.d kt u)) (.dict ((es.map (·.1)).zip ds++[(k,d')])) (cz (.ref a0)) _ (kk _ c1 wu.1 λb hb=>h3 b (aq _ (mem_mid hb))) eK ⟨_,rfl,o1⟩;rw[set_same (l:=Y) q2,set_same (l:=M) hm]at q;refine⟨⟨_,q,N3 h2 λb=>?_,λb hb=>?_⟩,λb hb=>?_,S.prot.trans eK⟩
  ·have:=hc b;simp only[aZ,bh,cS];lia
  ·have hp:0<(fv++(pre++(a0::fs++post))).count b:=by
    have h0:=cO.mpr hb;have:=hc b;simp only[aZ,bh,cS]at h0 ⊢;lia
   exact h3 b (cO.mp hp)
  ·by_cases e:b=a
   ·subst e;exact⟨o',i4⟩
   ·by_cases e0:b=a0
    ·subst e0;exact⟨⟨e6 b (es++[(k,kv,v)]),trivial⟩,xa⟩
    ·obtain⟨ys,y⟩:=S.lst b hb;exact⟨ys,by rw[f6 e];exact gr _ _ (by rw[f6 e0];exact y)⟩
def StR.ded(S:StR K M U Y H P F)(hm:M[y]?=cz .dead)(v:Option V):StR K M U (Y.set y v) H P F:=by
 obtain⟨G,h1,h2,h3⟩:=S.all;obtain⟨dd,oo,f,pre,post,q1,q2,q3,rfl,q5⟩:=h1.at_ hm;have q:=q5 H F .dead dd v f (λ_ _=>rfl) (Same.refl _) q3;rw[set_same (l:=M) hm,set_same (l:=U) q1]at q;exact⟨⟨_,q,h2,h3⟩,S.lst,S.prot⟩
end
def b1S(h:H a=cz o):upd H a o=H:=funext λb=>by
 by_cases c:b=a
 ·rw[c,i4,h]
 ·rw[f6 c]
def a4j(hk:B9 k=p4)(h:y6 kvs k=rp):D4 (kvs++[(k,d)]) k=cz d:=by
 unfold D4;unfold y6 at h;rw[cx]at h;rw[List.find?_append,fT.mpr λp hp=>by simpa using h p hp];simp[(B6 k k hk hk).mpr rfl]
def a7r(hk:B9 k=p4)(h:y6 kvs k=rp):p6 (kvs++[(k,d)]) k d'=kvs++[(k,d')]:=by
 have hh:y6 (kvs++[(k,d)]) k=p4:=a0F (a4j hk h);unfold y6 at h;rw[cx]at h;unfold p6;rw[hh,aG rfl,aM]
 congr 1
 ·have:∀p∈kvs,(if aK p.1 k then (p.1,d') else p)=p:=λp hp=>aL (h p hp)
  rw[bU this,kD]
 ·simp[(B6 k k hk hk).mpr rfl]
section
variable {K:af}{H:Hp}{F:List av}
def StR.relist(S:StR K M U Y H P F)(hm:M[i]?=cz (.own (.l .i)))(hs:Y[i]?=cz (cz (.ref b)))(hr:U.getD i .none=.list ds)(hd:DenAll K (cut H F) zs es)(hi:g8 es=p4) :
  StR K M (U.set i (.list es)) Y (upd H b (.lst zs)) P F:=by
 obtain⟨G,h1,h2,h3⟩:=S.all;obtain⟨dd,oo,f,pre,post,q1,q2,⟨v2,rfl,q3⟩,rfl,q5⟩:=h1.at_ hm;rw[hs]at q2;cases q2
 rw[A2 q1]at hr;subst hr;simp only[Own]at q3;rcases q3 with⟨_,hx,_⟩|⟨a,xs,iu,fs,ea,hH,_,rfl,hL⟩
 ·simp only[imm]at hx;cases hx
 cases ea
 have sr:b∈F:=h3 b (by simp);have cnt:(pre++post).count b=0:=by
  have z:=cn.mp h2 b;simp only[aZ,bh,fy]at z ⊢;lia
 have eK:Same (cut H F) (cut (upd H b (.lst zs)) F):=K1 sr _;have o1:Own K (upd H b (.lst zs)) F (.l .i) (.ref b) (.list es) [b]:=by
  simp only[Own];refine .inr ⟨b,zs,es,[],rfl,i4,rfl,rfl,ListAll.of_den (hd.up eK) λv d hx q=>?_⟩;simp only[Own];exact⟨trivial,D9 hi hx,q⟩
 have q:=q5 (upd H b (.lst zs)) F (.own (.l .i)) (.list es) (cz (.ref b)) [b] (λc hc=>f6 λz=>by subst z;rw[dF]at cnt;exact cnt hc) eK ⟨_,rfl,o1⟩;rw[set_same (l:=Y) hs,set_same (l:=M) hm]at q;refine⟨⟨_,q,N3 h2 λc=>?_,λc hc=>h3 c ?_⟩,λc hc=>?_,S.prot.trans eK⟩
 ·simp only[aZ,bh,cS,cw,List.count_nil];lia
 ·simp only[az,aC,bh,cu,or_false]at hc ⊢;rcases hc with z|z|z
  ·exact .inl z
  ·exact .inr (.inl z)
  ·exact .inr (.inr (.inr (by simpa using z)))
 ·by_cases e:c=b
  ·subst e;exact⟨⟨.lst zs,trivial⟩,i4⟩
  ·obtain⟨ys,y⟩:=S.lst c hc;exact⟨ys,by rw[f6 e];exact y⟩
theorem a1L:∀{ds es:List D} {xs ys:List V},DenAll K H' xs ds->DenAll K H' ys es->DenAll K H' (xs++ys) (ds++es)
 |[],es,xs,ys,h,h'=>by rw[h.nil_inv];exact h'
 |d::ds,es,xs,ys,h,h'=>by
  obtain⟨v,r,rfl,h1,h2⟩:=h.cons_inv;exact denAll_cons h1 (a1L h2 h')
theorem a2K:∀{ds:List D} {xs:List V},DenAll K H' xs ds->DenAll K H' xs.reverse ds.reverse
 |[],xs,h=>by rw[h.nil_inv];exact denAll_nil
 |d::ds,xs,h=>by
  obtain⟨v,r,rfl,h1,h2⟩:=h.cons_inv;rw[nv,nv];exact a1L (a2K h2) (denAll_cons h1 denAll_nil)
def a7s:∀{ds:List D},g8 ds=p4->g8 ds.reverse=p4:=λ{ds} h=>by
 have key:∀l:List D,(∀d∈l,imm d=p4)->g8 l=p4:=by
  intro l
  induction l with
  |nil=>intro _;simp only[g8]
  |cons d l ih=>intro hl;simp only[g8,aw];exact⟨hl d aj,ih λx hx=>hl x (ak _ hx)⟩
 exact key _ λd hd=>D9 h (ke.mp hd)
end
def c0w:V->List V->Hp->VK->Prop:=λx vs H Q=>∃l xs,x=.ref l/\vs=[]/\H l=cz (.lst xs)/\Q .non (upd H l (.lst xs.reverse))
def b7n(i:Nat):EvS:=λU=>match U.getD i .none with
 |.list ds=>cz (.nx (U.set i (.list ds.reverse)))
 |_=>el
section
variable {X:Cx}{u w:Ty}{ML M M1:List Md}{e e2:Expr}{f:EvX}{f2:EvE}{c2:Cat}{pos apos cF:eM}{x:bH}{px:eM}
def b7o:MtM X "list.reverse" c0w:=by
 intro pins s Y H x vs v us Q I rx rv h;obtain⟨l,xs,rfl,rfl,hH,q⟩:=h;cases rx
 have mz:=rv.zero;subst mz;obtain⟨z,cK,n,r,hl,e⟩:=I.lstM hH;refine wy qN ⟨_,e,rfl⟩ PySem.F.entry_list_reverse (PySem.F.args_list_reverse_1 _) (PySem.AutoSeq1.list_reverse_list_0 l cK.toArray n (by rw[bo];lia)) ⟨e,?_⟩;refine⟨.non,_,I.lset (its':=cK.reverse) (ys:=xs.reverse) hH e (by simp) ?_ (by rw[xC];exact z),rfl,q⟩;have pd:xs.reverse.length=cK.reverse.length:=by simp[hl]
 refine a0G pd λi x u h1 h2=>?_
 have hi:i<xs.length:=by have:=(aO.mp h1).1;simpa using this
 rw[uz hi]at h1;rw[uz (by lia)]at h2;obtain⟨u',ui,ru⟩:=r.get h1;rw[hl,h2]at ui;cases ui
 exact ru
def b7p(i:Nat)(hm:M[i]?=cz (.own (.l .i)):=by rfl)(hN:X.N[i]?=cz x:=by rfl)(hv:autoParam (NmV X x) ZY._auto_1)(eD:cZ (.Name x px) "reverse" X.env (cy (.Name x px) X.env)=cy (.Name x px) X.env:=by rfl)(eB:(apos.endLine==cF.line)=p4:=by rfl)
  (oI:fE (.Call (.Attribute (.Name x px) "reverse" apos) [] [] cF) el pos.line X.env=pure rp:=by rfl) :
  PSX X w ML M (.Expr (.Call (.Attribute (.Name x px) "reverse" apos) [] [] cF) pos) (b7n i) M:=by
 refine .mk ⟨_,a0n (b0U hZ qN PySem.F.type_list_reverse b7o (C4 hN hv.1 hv.2.1 hv.2.2) eD eB) oI,λD U Y H P F o S hg k=>?_⟩;obtain⟨v,f,Aj,ov,hf⟩:=S.toE.get hm;unfold b7n at hg;cases hU:U.getD i .none with
 |list ds=>
  rw[hU]at hg ov;cases hg
  simp only[Own]at ov;rcases ov with⟨_,hi,_⟩|⟨a,xs,iu,fs,rfl,h1,h2,rfl,h3⟩
  ·simp only[imm]at hi;cases hi
  ·cases h2
   have nS:DenAll X.K (cut H F) xs ds:=ListAll.den (R:=λv d f=>Own X.K H F .i v d f) (λv d f q=>(Q2 q).2.2) h3;have vF:g8 ds=p4:=by
    have:∀{ds:List VS.D} {xs:List V} {fs:List av},ListAll (Own X.K H F .i) xs ds fs->g8 ds=p4:=by
     intro ds
     induction ds with
     |nil=>intro _ _ _;simp only[g8]
     |cons d ds ih=>
      intro xs fs h;obtain⟨v,r,f,g,_,_,q1,q2⟩:=h.cons_inv;simp only[g8,aw];exact⟨(Q2 q1).2.1,ih q2⟩
    exact this h3
   exact⟨_,Aj,.inl ⟨rfl,xs,SqL.of h1⟩,a,xs,rfl,rfl,h1,k Y _ F (S.relist hm Aj hU (a2K nS) (a7s vF))⟩
 |_=>rw[hU]at hg;cases hg
end
def b1T(z:av)(j:Int):HO:=.ext λh=>∃t u v,IsRange h z 0 j 1 t u v
section
variable {X:Cx}{M ML:List Md}{a:Expr}{fa:EvE}{ca:Cat}{w:Ty}{pos gk p p2:eM}
def a5Y:CallR X (.type "range") (λxs H Q=>∃j,xs=[.int j]/\∀z,H z=el->Q (.ref z) (upd H z (b1T z j))):=by
 intro pins s Y H xs us Q I rv h;obtain⟨j,rfl,q⟩:=h;obtain⟨u,rfl,rx⟩:=vals1 rv;obtain⟨t,rfl⟩:=rx;refine call_range_1 ⟨.ref s.heap.objs.size,_,I.laid (a:=s.heap.objs.size) (o:=b1T s.heap.objs.size j) (t':=s.toks+1+1) (λ_ _ q=>ag _ q) (aB _) ?_,rfl,q _ (I.hok.fresh (aB _))⟩;exact⟨⟨_,_,_,IsRange.new ..⟩,⟨_,aE _ rfl⟩,λx1 x2 ⟨t,u,v,ho⟩ hk=>⟨t,u,v,hk _ ho⟩⟩
def a7t(hc:X.calm=p4):CallR X (.type "list") (λxs H Q=>∃p j,xs=[.ref p]/\H p=cz (b1T p j)/\-(2^62)<=j/\j<=1000000/\∀l,H l=el->Q (.ref l) (upd H l (.lst ((aQ j.toNat).map λ(k:Nat)=>V.int (0+k))))):=by
 intro pins s Y H xs us Q I rv h;obtain⟨p,j,rfl,hH,h1,h2,q⟩:=h;obtain⟨u,rfl,rx⟩:=vals1 rv;cases (show u=a_ p from rx)
 obtain⟨t,u,v,hr⟩:=(show ObjOk X.prog X.w H s.heap p (b1T p j) from I.hok p _ hH).1;have hn:BL 0 j 1=j.toNat:=by rw[rangeSize_one];split<;>lia
 refine call_list_range (n:=j.toNat) (I.ok.hd hc) hr (small_one (by decide) (by decide) h1 (by lia)) hn (by lia) λh' tk acc c hk ho kl=>?_
 have hz:aP=16777216:=cM;refine⟨.ref s.heap.objs.size,_,I.laid (t':=tk) hk (aB _) (show ObjOk X.prog X.w _ h' _ (.lst ((aQ j.toNat).map λ(k:Nat)=>V.int (0+k))) from⟨by rw[ah,fw];lia,acc.toList,c,?_,by rw[gA];exact ho⟩),rfl,q _ (I.hok.fresh (aB _))⟩;refine a0G (by rw[ah,fw,cI];exact kl.1.symm) λi x u g1 g2=>?_
 rw[bX]at g2;obtain⟨t',rfl⟩:=kl.2 i u g2;rw[aX]at g1;have hi:i<j.toNat:=by have:=(Array.getElem?_eq_some_iff.mp g2).1;rw[kl.1]at this;exact this
 rw[jh hi]at g1;cases g1
 exact⟨t',by simp⟩
def P8(a:EvE):EvE:=λU=>(a U).bind λd=>(asI d).bind λn=>if -(2^62)<=n/\n<=1000000 then cz (.list (E1 0 n.toNat)) else el
def a0H(hc:X.calm=p4)(hm:X.mg "list"=el)(DE:X.mg "range"=el)(ha:PX X M a fa ca)(hg:Gl X "list":=by rfl)(vI:Gl X "range":=by rfl)(he:ax [a] X.env=(rp,cy a X.env)::ax [] X.env:=by rfl)(fV:(cB gk (ax [] X.env)).any (·.1)=rp:=by rfl)
  (mi:ax [.Call (.Name "range" p2) [a] [] gk] X.env=(rp,cy (.Call (.Name "range" p2) [a] [] gk) X.env)::ax [] X.env:=by rfl) (nO:(cB pos (ax [] X.env)).any (·.1)=rp:=by rfl) :
  PX X M (.Call (.Name "list" p) [.Call (.Name "range" p2) [a] [] gk] [] pos) (P8 fa) (.new (.l .i)):=by
 obtain⟨ta,pa,qa⟩:=ha.out;refine .mk ⟨_,E5 (a7t hc) hg hm PyProof.Rows.Boot.«list» (m5 (E5 a5Y vI DE PyProof.Rows.boot_range (m5 pa s9 he) (by decide) (by decide) he fV) s9 mi) (by decide) (by decide) mi nO,λU Y H P F d Q S hf q=>?_⟩;obtain⟨x,h1,g1⟩:=bnd hf;obtain⟨n,h2,g2⟩:=bnd g1;cases a0A h2
 by_cases c:-(2^62)<=n/\n<=1000000
 ·rw[aG c]at g2;cases g2
  refine qa U Y H P F _ _ S h1 λv H1 e1 r1=>⟨n,by rw[r1.den.int_inv],λz hz=>⟨z,n,rfl,i4,c.1,c.2,λl hl=>?_⟩⟩
  have e2:=e1.trans (k6 hz (b1T z n));exact q _ _ (e2.trans (k6 hl _)) (M3 a3Y (a0B _ _) e2 hl (S.lst' e2))
 ·rw[aL c]at g2;cases g2
end
def b9c:∀{us:List α},us.length=1->∃a,us=[a]
 |[a],_=>⟨a,rfl⟩
def b4m:∀{us:List α},us.length=2->∃a b,us=[a,b]
 |[a,b],_=>⟨a,b,rfl⟩
def b9d:∀{us:List α},us.length=3->∃a b c,us=[a,b,c]
 |[a,b,c],_=>⟨a,b,c,rfl⟩
def c0x:∀{us:List α},us.length=4->∃a b c d,us=[a,b,c,d]
 |[a,b,c,d],_=>⟨a,b,c,d,rfl⟩
def c0y:∀{us:List α},us.length=5->∃a b c d e,us=[a,b,c,d,e]
 |[a,b,c,d,e],_=>⟨a,b,c,d,e,rfl⟩
def c0z:∀{us:List α},us.length=6->∃a b c d e f,us=[a,b,c,d,e,f]
 |[a,b,c,d,e,f],_=>⟨a,b,c,d,e,f,rfl⟩
def a4k(i:Nat)(kt:Bool)(fk fe:EvE):EvS:=λU=>(fk U).bind λk=>(fe U).bind λd=>match U.getD i .none with
 |.dict kvs=>if o9 kt k then match D4 kvs k with
   |some (.list es)=>if es.length<1000000 then cz (.nx (U.set i (.dict (p6 kvs k (.list (es++[d])))))) else el
   |_=>el
  else el
 |_=>el
section
variable {X:Cx}{M ML:List Md}{i j:Nat}{u t w:Ty}{k e:Expr}{fk fe:EvE}{kt:Bool}{x:bH}{px mx pos apos cF xX:eM}{sts:List g_}{g:List D->D->Option D}{sl:List Nat}
def b4n(i:Nat)(hu:X.A.units+464<dq)(hk:PX X M k fk ck)(he:PX X M e fe (.new .i))(ll:a4d k:=by exact λ_ _=>rfl)(hm:M[i]?=cz (.own (.d kt (.l .i))):=by rfl)(hN:X.N[i]?=cz x:=by rfl)(hv:autoParam (NmV X x) ZY._auto_1)
  (eD:cZ (.Subscript (.Name x px) k mx) "append" X.env (cy (.Subscript (.Name x px) k mx) X.env)=cy (.Subscript (.Name x px) k mx) X.env:=by rfl)
  (lr:((cB cF (ax [e] X.env)).all (λx=>!x.1)&&(qw cF (kF [] X.env)).all (λx=>x.1.isSome)
   && decide ([e].length+([]:List iQ).length+(if ([]:List iQ).isEmpty then 0 else 1)<30))=p4:=by rfl)
  (eB:(apos.endLine==cF.line)=p4:=by rfl) (hs:ax [e] X.env=(rp,cy e X.env)::ax [] X.env:=by rfl) (ig:(cB cF (ax [] X.env)).any (·.1)=rp:=by rfl)
  (oI:fE (.Call (.Attribute (.Subscript (.Name x px) k mx) "append" apos) [e] [] cF) el pos.line X.env=pure rp:=by rfl) :
  PSX X w ML M (.Expr (.Call (.Attribute (.Subscript (.Name x px) k mx) "append" apos) [e] [] cF) pos) (a4k i kt fk fe) M:=by
 obtain⟨tk,pk,qk⟩:=hk.out;obtain⟨te,pe,qe⟩:=he.out;refine .mk ⟨_,a0n (b5u hZ rN rL a1g (b1E hu (C4 hN hv.1 hv.2.1 hv.2.2) pk ll) (m5 pe s9 hs) eD lr eB hs ig) oI,λD U Y H P F o S hg kk=>?_⟩;obtain⟨k0,yQ,g1⟩:=bnd hg;obtain⟨dv,tD,g2⟩:=bnd g1;obtain⟨a,es,ds,fs,ha,hH,hU,_⟩:=S.toE.dict hm;rw[hU]at g2;have lD:(if o9 kt k0=p4 then (match D4 ((es.map (·.1)).zip ds) k0 with
   |some (.list eJ)=>if eJ.length<1000000 then cz (Out.nx (U.set i (.dict (p6 ((es.map (·.1)).zip ds) k0 (.list (eJ++[dv])))))) else el
   |_=>el) else el)=cz o:=g2
 by_cases c:o9 kt k0=p4
 ·rw[aG c]at lD;cases qI:D4 ((es.map (·.1)).zip ds) k0 with
  |none=>rw[qI]at lD;cases lD
  |some d1=>
   rw[qI]at lD;cases d1 with
   |list xs=>
    have g3:(if xs.length<1000000 then cz (Out.nx (U.set i (.dict (p6 ((es.map (·.1)).zip ds) k0 (.list (xs++[dv])))))) else el)=cz o:=lD;by_cases hz:xs.length<1000000
    ·rw[aG hz]at g3;cases g3
     refine⟨.ref a,ha,qk U Y H P F k0 _ S.toE yQ λkv H1 w1 r1=>?_⟩;have S1:=S.grow w1;obtain⟨a0,eJ,iu,t1,t2,t3,t4,t5,t6,t7⟩:=S1.dval (k:=k0) hm (x6 c);rw[ha]at t1;cases t1
     rw[hU]at t3
     injection t3 with t3
     rw[t3]at qI;refine⟨a,eJ,kt,k0,rfl,t2,keysAt t5 c r1.den,by rw[<-x8 t4];exact a0F qI,λe9 Ed fO=>?_⟩;obtain⟨d2,f2,x1,x2,x3,x4,x5⟩:=t7 e9 Ed fO;rw[qI]at x1;cases x1
     simp only[Own]at x2;rcases x2 with⟨_,hi,_⟩|⟨b,vs,kZ,gs,eb,hb,E_,rfl,iC⟩
     ·simp only[imm]at hi;cases hi
     cases E_
     have iC:ListAll (Own X.K H1 F .i) vs xs gs:=by
      have e9:(Own X.K H1 F .i)=λx zL BU=>BU=[]/\imm zL=p4/\Den X.K (cut H1 F) x zL:=by
       funext x y z
       simp only[Own]
      rw[e9];exact iC
     have sr:b∈F:=x4 b aj;have hsz:vs.length=xs.length:=iC.length;rw[eb];refine⟨.inl ⟨rfl,vs,SqL.of hb⟩,qe U Y H1 P F dv _ S1.toE tD λv1 H2 e2 ⟨fp,o1,nd,fr⟩=>?_⟩;obtain⟨rfl,im,Fn⟩:=Q2 o1;refine⟨b,vs,v1,rfl,rfl,e2 _ _ hb,by rw[hsz];exact fu hz (by rw[cM];decide),?_⟩;have eK:Same (cut H1 F) (cut (upd H2 b (.lst (vs++[v1]))) F):=(x0 e2).trans (K1 sr _);have kp:∀b'∈gs,upd H2 b (.lst (vs++[v1])) b'=H1 b':=λb' jK=>by
      have gC:b'≠b:=λz=>by subst z;exact (br.mp x3).1 jK
      rw[f6 gC];exact S1.toE.keep e2 b' (x4 b' (ak _ jK))
     have ow:Own X.K (upd H2 b (.lst (vs++[v1]))) F (.l .i) (.ref b) (.list (xs++[dv])) (b::(gs++[])):=by
      simp only[Own];refine .inr ⟨b,vs++[v1],xs++[dv],gs++[],rfl,i4,rfl,rfl,(l9 eK iC kp).append ?_⟩;have ov:Own X.K (upd H2 b (.lst (vs++[v1]))) F .i v1 dv []:=by
       simp only[Own];exact⟨trivial,im,Fn.up (K1 sr _)⟩
      exact m4 (R:=Own X.K (upd H2 b (.lst (vs++[v1]))) F .i) ov m7
     have fin:=x5 H2 b ⟨.lst (vs++[v1]),trivial⟩ (.list (xs++[dv])) (b::(gs++[])) e2 aj (by rw[eb];exact ow) λb'=>by rw[bz];exact aB _
     rw[<-t3]at fin;exact kk Y _ F fin
    ·rw[aL hz]at g3;cases g3
   |_=>cases lD
 ·rw[aL c]at lD;cases lD
end
def b1U{K:af}{H:Hp}{F:List av}{t:Ty}{v:V}{ds:List D}{fp:List av}(h:Own K H F (.l t) v (.list ds) fp):∃a xs fs,v=.ref a/\H a=cz (.lst xs)/\fp=a::fs/\ListAll (Own K H F t) xs ds fs:=by
 rw[Own]at h;rcases h with⟨_,hi,_⟩|⟨a,xs,iu,fs,rfl,h1,h2,rfl,h3⟩
 ·simp only[imm]at hi;cases hi
 ·cases h2;exact⟨a,xs,fs,rfl,h1,rfl,h3⟩
end VS
namespace VS
open PySem PySem.Spec L2
open PyProof.Rows (KeyOrd keyKind' keyLt')
section
variable {prog:bw}{w:bO}{A:bC}{E:ai->ar->Prop}{sh:ar}{vs ks:List ai}{κ:qM}{O:KeyOrd}{key:Nat->O.α}{R:bR->Prop}
structure SortableR (prog:bw) (w:bO) (A:bC) (R:bR->Prop) (ks:List ai) (κ:qM) (O:KeyOrd) (key:Nat->O.α):Prop where
 kind:2<=ks.length->∀(s:ar) (E:ai->ar->Prop) (Q:qM->ar->Prop),R s.heap->Q κ s->aD (aT prog w) A (keyKind' ks.toArray) Q E s
 lt:∀(s:ar) (i j:Nat) (C:Bool->ar->Prop),R s.heap->i<ks.length->j<ks.length->C (O.blt (key i) (key j)) s->aD (aT prog w) A (keyLt' κ (ks.getD i cj) (ks.getD j cj)) C (λ_ _=>False) s
end
end VS
namespace VS
open PySem PySem.Spec L2
section
variable {X:Cx}{M:List Md}{tg a:Expr}{fa:EvE}{ca:Cat}
def b4o{K:af}{H:Hp}{d:D}(h:Den K H .non d):b6w d=p4:=by
 cases d<;>first|rfl|(simp[Den]at h)
def a5Z{K:af}{H:Hp}{es:List (D×V×V)}{kvs:List (D×D)}(h:DenKV K H es kvs):K5 es=b0Y kvs:=by
 cases kvs with
 |nil=>simp only[DenKV]at h;subst h;rfl
 |cons p r=>
  obtain⟨k,d⟩:=p;simp only[DenKV]at h;obtain⟨e,q,rfl,rfl,_,h4,_⟩:=h;show (a0b e.1&&a5C e.2.2)=(a0b e.1&&b6w d)
  congr 1;cases c:a5C e.2.2 with
  |true=>
   have:e.2.2=.non:=by
    revert c;cases e.2.2<;>first|(intro _;rfl)|(intro z;cases z)
   rw[this]at h4;exact (b4o h4).symm
  |false=>
   cases d with
   |none=>
    rw[h4.none_inv]at c;cases c
   |_=>rfl
end
def a6a(F:List av)(H H2:Hp):Hp:=λa=>if a∈F then H a else H2 a
def a0I(h:a∈F):a6a F H H2 a=H a:=aG h
def q9(h:a∉F):a6a F H H2 a=H2 a:=aL h
def b7q(sp:Sp):Sp:=λvs H Q E=>∃F:List av,(∀a∈F,∃ys:MuO,H a=cz ys.1)/\sp vs (cut H F) (λv H2=>(∀a∈F,H2 a=el)->Q v (a6a F H H2)) E
section
variable {P:bw}{w:bO}{K:af}{mg:bH->Option ai}{base:bR}{k:Nat}{f:av}{fd:dB}{ps:List bH}{sp:Sp}{H:Hp}{h:bR}{F:List av}
def a1r(hF:∀a∈F,∃ys:MuO,H a=cz ys.1)(e:H b=cz o)(n:¬ Mu o):b∉F:=λz=>by
 obtain⟨ys,hy⟩:=hF b z;rw[e]at hy;cases hy
 exact n ys.2
def b7r(h:Pin a o):¬ Mu o:=by cases o<;>first|exact λz=>z|exact λ_=>h
def b4p(hk:HOk P w H h)(hF:∀a∈F,∃ys:MuO,H a=cz ys.1):HOk P w (cut H F) h:=λa o e=>by
 obtain⟨_,e'⟩:=o6 e;exact (hk a o e').stay (λb u _ q=>q) (λb q=>j6 (a1r hF q (λz=>z)) q) λb xs q=>j6 (a1r hF q (b7r xs.2)) q
def A7(n:H a=el):cut H F a=el:=by
 by_cases q:a∈F
 ·exact V8 q
 ·rw[X4 q];exact n
def a7u(F0:FnOk P w K mg base CX0 k f fd ps sp):FnOk P w K mg base CX0 k f fd ps (b7q sp) where
 len:=λvs H Q E ⟨F,_,hs⟩=>F0.len _ _ _ _ hs
 run:=λA outer s H args us vs Q E hr he hb hv ⟨F,hF,hs⟩=>by
  have kN:Env0 P w K mg base A outer s (cut H F):=⟨he.frames,he.mod,λb o e=>⟨(he.bs b o e).1,A7 (he.bs b o e).2⟩,he.bsz,he.funs,λb hb=>A7 (he.frf b hb),b4p he.hok hF,he.bare,λx hx p e=>let⟨qs,t,e1,e2⟩:=he.tabs x hx p e;⟨qs,t,j6 (a1r hF e1 (λz=>z)) e1,e2⟩⟩;refine fG (F0.run A outer s (cut H F) args us vs _ E hr kN hb hv hs) λr s' hq=>?_
  cases r with
  |error e=>exact hq
  |ok fl=>
   cases fl with
   |ret u=>
    obtain⟨v,H2,os,bare,un,oK,rv,q⟩:=(show CE outer P w (cut H F) s _ u s' from hq);have there:∀a∈F,∃o,s.heap.get? a=cz o:=λa ha=>by
     obtain⟨⟨ys,hm⟩,hy⟩:=hF a ha;have:=he.hok a _ hy;cases ys with
     |lst xs=>obtain⟨_,cK,n,r,e⟩:=this;exact⟨_,e⟩
     |dK kvs=>obtain⟨_,_,vs,_,ob,es,ep,e,_⟩:=this;exact⟨_,e⟩
     |ext φ=>obtain⟨_,e,_⟩:=this;exact e
     |_=>exact cG hm
    have Bg:∀a∈F,H2 a=el:=λa ha=>by
     obtain⟨o,ho⟩:=there a ha;exact un.free a o ho (V8 ha) (by simp)
    have DA:∀{b:av},H b=el->b∉F:=λ{b} n z=>by
     obtain⟨ys,hy⟩:=hF b z;rw[n]at hy;cases hy
    refine (show CE outer P w H s Q u s' from⟨v,a6a F H H2,os,bare,?_,?_,rv,q Bg⟩)
    ·refine⟨λb o q n hb hx=>un.keep b o q (A7 n) hb hx,λb o q n hb hx=>un.slot b o q (A7 n) hb hx,λb o q n hx=>?_,un.there,λb xs q=>?_,λb o u q=>?_,λb ps q=>?_⟩
     ·rw[q9 (DA n)];exact un.free b o q (A7 n) hx
     ·have n:=a1r hF q (λz=>z);rw[q9 n];exact un.tups b xs (j6 n q)
     ·have n:=a1r hF q (λz=>z);rw[q9 n];exact un.frzs b o u (j6 n q)
     ·have n:=a1r hF q (λz=>z);rw[q9 n];exact un.tbls b ps (j6 n q)
    ·intro a o e;by_cases ha:a∈F
     ·rw[a0I ha]at e;have hk:∀u,s.heap.get? a=cz u->s'.heap.get? a=cz u:=λu q=>un.keep a u q (V8 ha) (λz=>by rw[he.frf a z]at e;cases e) (by simp)
      obtain⟨⟨ys,hm⟩,hy⟩:=hF a ha;have ho:=he.hok a _ hy;have eo:o=ys:=aH (e.symm.trans hy);rw[eo];cases ys with
      |lst xs=>obtain⟨z,cK,n,r,e⟩:=ho;exact⟨z,cK,n,r,hk _ e⟩
      |dK kvs=>obtain⟨z,y,vs,r,ob,es,ep,e,c⟩:=ho;exact⟨z,y,vs,r,ob,es,ep,hk _ e,c⟩
      |ext φ=>obtain⟨h1,⟨ob,h2⟩,h3⟩:=ho;exact⟨h3 _ _ h1 hk,⟨ob,hk _ h2⟩,h3⟩
      |_=>exact cG hm
     ·rw[q9 ha]at e;have ki:∀{b:av} {o:HO},H2 b=cz o->a6a F H H2 b=cz o:=λ{b} {o} q=>by
       rw[q9 (λz=>by rw[Bg b z]at q;cases q)];exact q
      exact (oK a o e).stay (λb u _ q=>q) (λb q=>ki q) λb xs q=>ki q
   |next=>exact cG hq
   |brk=>exact cG hq
   |cont=>exact cG hq
end
section
variable {X:Cx}{M:List Md}{a e0:Expr}{es:List Expr}{fa:EvE}{f:EvA}{ca:Cat}{u:Ty}{x:bH}{p pos:eM}
def a9Q(W:Has X.prog X.w X.K X.mg X.base x k ps sp):Has X.prog X.w X.K X.mg X.base x k ps (b7q sp):=by
 obtain⟨f,fd,F,b⟩:=W.ex;exact⟨f,fd,a7u F,b⟩
def PAF(X:Cx)(M:List Md)(es:List Expr)(f:EvA):Prop:=
 ∃t,PA X es t/\∀(U:List D) (Y:L2.St) (H P:Hp) (F:List av) (ds:List D) (Q:List V->Hp->Prop),StE X.K M U Y H P F->f U=cz ds->(∀vs H',Same H H'->DenAll X.K (cut H' F) vs ds->Q vs H')->t Y H Q
def C2:PAF X M [] c9:=⟨_,s9,λU Y H P F ds Q S hf q=>by cases hf;exact q [] H (Same.refl _) denAll_nil⟩
def k9(ha:PX X M a fa ca)(hr:PAF X M es fr)(hc:frozen ca:=by trivial)(hs:ax (a::es) X.env=(rp,cy a X.env)::ax es X.env:=by rfl):PAF X M (a::es) (b8 fa fr):=by
 obtain⟨ta,pa,qa⟩:=ha.out;obtain⟨tr,pr,qr⟩:=hr;refine⟨_,m5 pa pr hs,λU Y H P F ds Q S hf q=>?_⟩;obtain⟨x,h1,hf⟩:=bnd hf;obtain⟨xs,h2,hf⟩:=bnd hf;cases hf
 exact qa U Y H P F _ _ S h1 λv H1 e1 r1=>qr U Y H1 P F _ _ (S.grow e1) h2 λvs H2 e2 r2=>q (v::vs) H2 (e1.trans e2) (denAll_cons ((J8 hc r1).up (x0 e2)) r2)
def y9(W:Has X.prog X.w X.K X.mg X.base x k ps (spD X.K n m u))(hr:Room k X.A)(h:PAF X M (e0::es) f)(hl:(e0::es).length=n:=by rfl)(hfl:∀U ds,f U=cz ds->ds.length=(e0::es).length)
  (hg:Gl X x:=by rfl) (lW:(x==("__debug__":bH))=rp:=by decide) (he:ax (e0::es) X.env=(rp,cy e0 X.env)::ax es X.env:=by rfl) (fV:(cB pos (ax es X.env)).any (·.1)=rp:=by rfl) :
  PX X M (.Call (.Name x p) (e0::es) [] pos) (eCl m f) (.new u):=by
 obtain⟨t,pa,qa⟩:=h;refine .mk ⟨_,a6U (a9Q W) hr pa hg lW he fV,λU Y H P F d Q S hf q=>?_⟩;obtain⟨ds,h1,hf⟩:=bnd hf;refine qa U Y H P F ds _ S h1 λvs H1 e1 r1=>?_
 show b7q (spD X.K n m u) (vs++[]) H1 Q E0;rw[bz];refine⟨F,S.lst' e1,ds,d,by rw[r1.length,hfl U ds h1,hl],r1,hf,λv H2 fp e o nd fr hz=>q v (a6a F H1 H2) ?_ ?_⟩
 ·intro b o' hb;have vQ:=e1 b o' hb;by_cases c:b∈F
  ·rw[a0I c];exact vQ
  ·rw[q9 c];exact e b o' (j6 c vQ)
 ·have rB:∀a∈fp,a∉F:=λa ha z=>by
   obtain⟨ys,hy⟩:=o.lst u a ha;rw[hz a z]at hy;cases hy
  refine⟨fp,Own.frame (λb o' hb=>?_) u o (λa ha=>q9 (rB a ha)),nd,λa ha=>?_⟩
  ·obtain⟨n1,n2⟩:=o6 hb;have n3:b∉F:=λz=>by rw[hz b z]at n2;cases n2
   exact j6 (λz=>(az.mp z).elim n1 n3) (by rw[q9 n3];exact n2)
  ·have:=fr a ha;rw[X4 (rB a ha)]at this;exact e1.free this
end
def Junk(H:Hp)(C:List av):Prop:=∀a∈C,∀u,H a=cz u->∃o,u=.frz o (.own a)
section
variable {K:af}{H H':Hp}{C F:List av}
theorem Junk.cut(h:Junk H C):Junk (cut H F) C:=λa ha u e=>h a ha u (o6 e).2
def Junk.out(h:Junk H C)(e:H a=cz u)(n:∀o,u≠.frz o (.own a)):a∉C:=λz=>by
 obtain⟨o,q⟩:=h a z u e;exact n o q
def b1V(h:Junk H C)(q:SqX K H a xs):SqX K (VS.cut H C) a xs:=by
 rcases q with (q|⟨o,q⟩)|q
 ·exact .inl (.inl (j6 (h.out q λo z=>(nomatch z)) q))
 ·exact .inl (.inr ⟨o,j6 (h.out q λo z=>by cases z) q⟩)
 ·exact .inr q
def b1W(h:Junk H C)(q:SqT K H a xs):SqT K (VS.cut H C) a xs:=by
 rcases q with (q|⟨o,q⟩)|q
 ·exact .inl (.inl (j6 (h.out q λo z=>(nomatch z)) q))
 ·exact .inl (.inr ⟨o,j6 (h.out q λo z=>by cases z) q⟩)
 ·exact .inr q
def a2L(h:Junk H C)(q:H a=cz (e6 a es)):VS.cut H C a=cz (e6 a es):=
 j6 (h.out q λo z=>by unfold e6 at z;cases z) q
mutual
theorem Den.junk(h:Junk H C):∀(d:bc) {v:V},Den K H v d->Den K (VS.cut H C) v d
 |.none,_,q=>by simpa only [Den]using q
 |.bool _,_,q=>by simpa only [Den]using q
 |.int _,_,q=>by simpa only [Den]using q
 |.str _,_,q=>by simpa only [Den]using q
 |.list ds,_,q=>by
  obtain⟨a,xs,rfl,h1,h2⟩:=q.list_inv;exact den_list (b1V h h1) (DenAll.junk h ds h2)
 |.tuple ds,_,q=>by
  obtain⟨a,xs,rfl,h1,h2⟩:=q.tup_inv;exact den_tup (b1W h h1) (DenAll.junk h ds h2)
 |.dict kvs,_,q=>by
  obtain⟨a,es,rfl,h1,h2⟩:=q.dict_inv;simp only[Den];exact⟨a,es,rfl,a2L h h1,DenKV.junk h kvs h2⟩
theorem DenAll.junk(h:Junk H C):∀(ds:List bc) {xs:List V},DenAll K H xs ds->DenAll K (VS.cut H C) xs ds
 |[],_,q=>by simpa only [DenAll]using q
 |d::ds,_,q=>by
  obtain⟨v,r,rfl,h1,h2⟩:=q.cons_inv;exact denAll_cons (Den.junk h d h1) (DenAll.junk h ds h2)
theorem DenKV.junk(h:Junk H C):∀(kvs:List (bc×bc)) {es:List (bc×V×V)},DenKV K H es kvs->DenKV K (VS.cut H C) es kvs
 |[],_,q=>by simpa only [DenKV]using q
 | (k,d)::r,_,q=>by
  simp only[DenKV]at q ⊢;obtain⟨x,es,h1,h2,h3,h4,h5⟩:=q;exact⟨x,es,h1,h2,Den.junk h k h3,Den.junk h d h4,DenKV.junk h r h5⟩
end
def b1X(a:av):VS.cut (VS.cut H C) F a=VS.cut (VS.cut H F) C a:=by
 unfold VS.cut;by_cases h1:a∈F<;>by_cases h2:a∈C<;>simp[h1,h2]
def Q5(h:Junk H C)(q:Den K (VS.cut H F) v d):Den K (VS.cut (VS.cut H C) F) v d:=
 (Den.junk h.cut d q).up λa o e=>by rw[b1X];exact e
mutual
theorem Own.junk(h:Junk H C):∀(u:Ty) {v:V} {d:bc} {fp:List av},Own K H F u v d fp->Own K (VS.cut H C) F u v d fp
 |.i,_,_,_,q=>by simp only[Own]at q ⊢;exact⟨q.1,q.2.1,Q5 h q.2.2⟩
 |.f,_,_,_,q=>by simp only[Own]at q ⊢;exact⟨q.1,Q5 h q.2⟩
 |.l u,_,_,_,q=>by
  simp only[Own]at q ⊢;rcases q with⟨h1,h2,q⟩|⟨a,xs,ds,fs,rfl,h1,rfl,rfl,h2⟩
  ·exact .inl ⟨h1,h2,Q5 h q⟩
  ·exact .inr ⟨a,xs,ds,fs,rfl,j6 (h.out h1 λo z=>(nomatch z)) h1,rfl,rfl,h2.imp λv d f _ _ z=>Own.junk h u z⟩
 |.tp us,_,_,_,q=>by
  simp only[Own]at q ⊢;rcases q with⟨h1,h2,q⟩|⟨a,xs,ds,rfl,h1,h0,rfl,h2⟩
  ·exact .inl ⟨h1,h2,Q5 h q⟩
  exact .inr ⟨a,xs,ds,rfl,j6 (h.out h1 λo z=>(nomatch z)) h1,h0,rfl,OwnTs.junk h us h2⟩
 |.d kt u,_,_,_,q=>by
  simp only[Own]at q ⊢;obtain⟨a,es,ds,fs,rfl,h1,rfl,rfl,h3,h2⟩:=q;exact⟨a,es,ds,fs,rfl,a2L h h1,rfl,rfl,⟨h3.1,λx hx=>⟨(h3.2 x hx).1,Q5 h (h3.2 x hx).2⟩⟩,h2.imp λv d f _ _ z=>Own.junk h u z⟩
theorem OwnTs.junk(h:Junk H C):∀(us:List Ty) {xs:List V} {ds:List bc} {fp:List av},OwnTs K H F us xs ds fp->OwnTs K (VS.cut H C) F us xs ds fp
 |[],_,_,_,q=>by simpa only [OwnTs]using q
 |u::us,_,_,_,q=>by
  simp only[OwnTs]at q ⊢;obtain⟨v,r,d,e,f,g,rfl,rfl,rfl,h1,h2⟩:=q;exact⟨v,r,d,e,f,g,rfl,rfl,rfl,Own.junk h u h1,OwnTs.junk h us h2⟩
end
def a6b(k:HOk P w H h)(j:Junk H C):HOk P w (VS.cut H C) h:=λa o e=>by
 obtain⟨na,e'⟩:=o6 e;refine (k a o e').stay (λb u _ q=>q) (λb q=>j6 (j.out q λo z=>(nomatch z)) q) λb u q=>j6 (λhb=>?_) q
 obtain⟨u,hu⟩:=u;obtain⟨ob,z⟩:=j b hb u q;subst z;have ui:b=a:=hu;exact na (ui▸hb)
def a9R(t:TabsIn K H)(j:Junk H C):TabsIn K (VS.cut H C):=λx hx p e=>by
 obtain⟨qs,t',e1,e2⟩:=t x hx p e;exact⟨qs,t',j6 (j.out e1 λo z=>(nomatch z)) e1,e2⟩
end
end VS
namespace VS
open PySem PySem.Spec L2 PyProof.Rows
def FnV(P:bw)(w:bO)(K:af)(mg:bH->Option ai)(base:bR)(k n:Nat)(u:Ty)(m:List D->Option D)(H:Hp)(v:V):Prop:=
 ∃fa fo,v=.ref fa/\H fa=cz (.frz fo (.own fa))/\(∃fd,fo.data=.func fd)/\
  ∀(A:bC) (outer:List ox) (s:ar) (us:List ai) (vs:List V) (Q:VK) (E:XK),Room k A->Env0 P w K mg base A outer s H->Vals vs us->spD K n m u vs H Q E->
   gH (aT P w) A (.call (.ref fa) ⟨us,[]⟩) (CR CX0 outer P w H s Q E) s
section
variable {X:Cx}{M:List Md}{a e0:Expr}{es:List Expr}{fa:EvE}{f:EvA}{ca:Cat}{u:Ty}{x:bH}{p pos:eM}
def b7s(X:Cx)(i k n:Nat)(u:Ty)(m:List D->Option D)(t:TA):TE:=λY H Q=>∃v,Y[i]?=cz (cz v)/\t Y H λvs H1=>FnV X.prog X.w X.K X.mg X.base k n u m H1 v/\spD X.K n m u vs H1 Q E0
def b1Y(hr:Room k X.A)(ha:PA X (e0::es) t)(hN:X.N[i]?=cz x)(hv:Vis X.env.scope x)(hd:(x==("__debug__":bH))=rp)(nI:(x==("__classdict__":bH))=rp)
  (he:ax (e0::es) X.env=(rp,cy e0 X.env)::ax es X.env) (fV:(cB pos (ax es X.env)).any (·.1)=rp):PE X (.Call (.Name x p) (e0::es) [] pos) (b7s X i k n u m t):=by
 intro pins s Y H Q I ⟨v,e,h⟩;refine fq (L2.thn (C4 hN hv hd nI pins s Y H (λv' H'=>v'=v/\H'=H) I ⟨v,e,rfl,rfl⟩) λu1 s1 ⟨v',H',I1,r1,z1,z2⟩=>?_);subst z1;subst z2;rw[he];refine PySem.W.callWith_of (P:=λh=>∃fa fo fd,u1=.ref fa/\h.get? fa=cz fo/\fo.data=.func fd) (by show ((rp||(cB pos (ax es X.env)).any (·.1))||false)=rp;rw[fV];rfl) (λh ⟨fa,fo,fd,q1,q2,q3⟩=>?_) (nE ?_)
 ·subst q1;obtain⟨cls,dict,data,slots⟩:=fo;have Co:data=.func fd:=q3;subst Co;exact⟨.frame,.inl rfl,(PySem.W.Looks.ld (part:=el) q2).andThen .now⟩
 ·have rD:=ha pos pins s1 Y H' _ I1 h;rw[he]at rD;refine L2.thn rD λus s2 ⟨vs,H2,I2,r2,⟨fa,fo,q1,q2,⟨fd,q3⟩,q4⟩,q5⟩=>⟨?_,?_⟩
  ·have xT:u1=.ref fa:=by rw[q1]at r1;exact r1
   exact⟨fa,fo,fd,xT,(I2.hok fa _ q2).1,q3⟩
  ·have xT:u1=.ref fa:=by rw[q1]at r1;exact r1
   subst xT;refine uH (fG (q4 X.A X.stack s2 us vs Q E0 hr I2.env0 r2 q5) λr s' hq=>?_);cases r with
   |error e=>exact cG hq
   |ok fl=>
    cases fl with
    |ret u=>exact I2.after hq
    |next=>exact cG hq
    |brk=>exact cG hq
    |cont=>exact cG hq
def StE.getF{K:af}{U:List D}{Y:L2.St}{H P:Hp}{F:List av}{Φ:Hp->V->Prop}(h:StE K M U Y H P F){i:Nat}(hm:M[i]?=cz (.fn Φ)):∃v,Y[i]?=cz (cz v)/\∀H',Same (cut H F) H'->Φ H' v:=by
 obtain⟨G,h1,h3⟩:=h.all;obtain⟨d,o,f,pre,post,e1,e2,⟨_,v,rfl,q⟩,e4,_⟩:=h1.at_ hm;exact⟨v,e2,q⟩
def b1Z(i:Nat){k n:Nat}{m:List D->Option D}(hr:Room k X.A)(h:PAX X M (e0::es) f)(hm:M[i]?=cz (.fn (FnV X.prog X.w X.K X.mg X.base k n u m)):=by rfl)(hu:u.shut=p4:=by rfl)(hl:(e0::es).length=n:=by rfl)(hfl:∀U ds,f U=cz ds->ds.length=(e0::es).length)
  (hN:X.N[i]?=cz x:=by rfl) (hv:autoParam (NmV X x) ZY._auto_1)
  (he:ax (e0::es) X.env=(rp,cy e0 X.env)::ax es X.env:=by rfl) (fV:(cB pos (ax es X.env)).any (·.1)=rp:=by rfl) :
  PX X M (.Call (.Name x p) (e0::es) [] pos) (eCl m f) (.new u):=by
 obtain⟨t,pa,qa⟩:=h;refine .mk ⟨_,b1Y (i:=i) (n:=n) (m:=m) (u:=u) hr pa hN hv.1 hv.2.1 hv.2.2 he fV,λU Y H P F d Q S hf q=>?_⟩;obtain⟨ds,h1,hf⟩:=bnd hf;obtain⟨v,Dg,Df⟩:=S.getF hm;refine⟨v,Dg,qa U Y H P F ds _ S h1 λvs H1 e1 r1=>⟨Df H1 (i7.trans e1),?_⟩⟩;refine⟨ds,d,by rw[r1.length,hfl U ds h1,hl],r1,hf,λv H' fp e o nd fr=>q v H' (e1.trans e) ⟨fp,o.shut_out (λa ha=>?_) u hu,nd,λa ha=>e1.free (fr a ha)⟩⟩;rcases az.mp ha with z|z
 ·exact o.lst u a z
 ·exact S.lst' (e1.trans e) a z
end
def spL(K:af)(n:Nat)(Φ:(List D->Option D)->Hp->V->Prop)(m:(List D->Option D)->List D->Option D)(u:Ty):Sp:=λvs H Q _=>∃rs v gm ds d,vs=rs++[v]/\rs.length=n/\DenAll K H rs ds/\(∀H',Same H H'->Φ gm H' v)/\m gm ds=cz d/\
 ∀v H' fp,Same H H'->Own K H' fp u v d fp->fp.Nodup->(∀a∈fp,H a=el)->Q v H'
def fnL(us:List Ty)(n:Nat)(g:(List D->Option D)->EvS):(List D->Option D)->List D->Option D:=λgm ds=>if argsOk us ds then (g gm (ds++(.none::aN n .none))).bind λo=>match o with
 |.rt d=>cz d
 |_=>el
 else el
theorem StAll.app{K:af}{H:Hp}{F:List av}:∀{M1 M2:List Md} {U1 U2:List D} {Y1 Y2:L2.St} {f1 f2:List av},StAll K H F M1 U1 Y1 f1->StAll K H F M2 U2 Y2 f2->StAll K H F (M1++M2) (U1++U2) (Y1++Y2) (f1++f2)
 |[],_,_,_,_,_,_,_,h,q=>by simp only[StAll]at h;obtain⟨rfl,rfl,rfl⟩:=h;exact q
 |m::M,_,_,_,_,_,_,_,h,q=>by
  simp only[StAll]at h;obtain⟨d,U,o,Y,f,g,rfl,rfl,rfl,h1,h2⟩:=h;rw[be];exact k7 h1 (StAll.app h2 q)
theorem a1M{K:af}{H:Hp}{F:List av}:∀n:Nat,StAll K H F (aN n .dead) (aN n .none) (aN n el) []
 |0=>L8
 |n+1=>k7 (f:=[]) (g:=[]) rfl (a1M n)
def b2a{P:bw}{w:bO}{K:af}{mg:bH->Option ai}{base:bR}{x:bH}{st:g_}{f:av}{fd:dB}{N ps:List bH}{k n:Nat}{us:List Ty}{u:Ty}{Φ:(List D->Option D)->Hp->V->Prop}{g:(List D->Option D)->EvS}{M':(List D->Option D)->List Md}(F:Fun K x x st f fd)(S:FnScope N ps (i9 st))(mz:us.length+1=ps.length)(hn:N.length=ps.length+n)
  (hb:∀(gm:List D->Option D) (gg:ai) (A:bC) (outer:List ox) (s:ar) (H:Hp) (E:XK),Room k (A.deeper (jb x (i9 st) s.heap.objs.size f gg))->PSsX (a0q CX0 P w K mg base N x (i9 st) f gg A outer s H E).nox u [] (us.map .own++(.fn (Φ gm)::aN n .dead)) (y7 st) (g gm) (M' gm)) :
  FnOk P w K mg base CX0 (k+1) f fd ps (spL K us.length Φ (fnL us n g) u):=by
 refine F.ok S (λvs H Q E h=>?_) (λgg A outer s H vs Q E hr h=>?_)
 ·obtain⟨rs,v,gm,ds,d,rfl,hl,_⟩:=h;rw[aV,hl];exact mz
 obtain⟨rs,v,gm,ds,d,rfl,hl,hd,hΦ,hm,q⟩:=h;obtain⟨t,p,r⟩:=(hb gm gg A outer s H E hr).out;refine⟨t,p,?_⟩;unfold fnL at hm;by_cases ha:argsOk us ds=p4
 ·rw[aG ha]at hm;obtain⟨o,h1,h2⟩:=bnd hm;cases o with
  |rt d'=>
   have jV:cz d'=cz d:=h2;cases jV
   have e:L2.start N (rs++[v])=rs.map cz++(cz v::aN n el):=by
    unfold L2.start;rw[show N.length-(rs++[v]).length=n by rw[aV,hl];show N.length-(us.length+1)=n;lia];simp
   rw[e];have h0:=S8 (K:=K) (H:=H) ha hd 0;simp only[gN,bz]at h0;have pL:=h0.app (k7 (K:=K) (H:=H) (F:=[]) (m:=.fn (Φ gm)) (d:=gQ) (o:=cz v) (f:=[]) ⟨rfl,v,rfl,λH' e'=>hΦ H' (by rw[K8]at e';exact e')⟩ (a1M n));refine r _ _ _ H H [] (.rt d) ⟨⟨_,pL,bp,λa ha=>(nomatch ha)⟩,λa ha=>(nomatch ha),by rw[K8];exact Same.refl H⟩ h1 ?_;exact λv H' fp o nd fr e=>q v H' fp e o nd fr
  |_=>cases h2
 ·rw[aL ha]at hm;cases hm
section
variable {X:Cx}{M:List Md}{e0:Expr}{es:List Expr}{f:EvA}{u:Ty}{x y:bH}{p pv pos:eM}
def a5d:∀(U:List D) ds,c9 U=cz ds->ds.length=0:=λU ds h=>by cases h;rfl
def Q6(h:∀U ds,fr U=cz ds->ds.length=n):∀U ds,b8 fa fr U=cz ds->ds.length=n+1:=λU ds q=>by
 obtain⟨x,h1,q⟩:=bnd q;obtain⟨xs,h2,q⟩:=bnd q;cases q
 rw[bB,h U xs h2]
def PAL(X:Cx)(M:List Md)(es:List Expr)(f:EvA)(Ψ:Hp->V->Prop):Prop:=
 ∃t,PA X es t/\∀(U:List D) (Y:L2.St) (H P:Hp) (F:List av) (ds:List D) (Q:List V->Hp->Prop),StE X.K M U Y H P F->f U=cz ds->
  (∀vs v H',Same H H'->DenAll X.K H' vs ds->Ψ H' v->Q (vs++[v]) H')->t Y H Q
def Q7(ha:PX X M a fa ca)(hr:PAL X M es fr Ψ)(hs:ax (a::es) X.env=(rp,cy a X.env)::ax es X.env:=by rfl):PAL X M (a::es) (b8 fa fr) Ψ:=by
 obtain⟨ta,pa,qa⟩:=ha.out;obtain⟨tr,pr,qr⟩:=hr;refine⟨_,m5 pa pr hs,λU Y H P F ds Q S hf q=>?_⟩;obtain⟨x,h1,hf⟩:=bnd hf;obtain⟨xs,h2,hf⟩:=bnd hf;cases hf
 exact qa U Y H P F _ _ S h1 λv H1 e1 r1=>qr U Y H1 P F _ _ (S.grow e1) h2 λvs w H2 e2 r2 hw=>q (v::vs) w H2 (e1.trans e2) (denAll_cons (r1.den.up e2) r2) hw
def a8x(i:Nat){Φ:Hp->V->Prop}(hm:M[i]?=cz (.fn Φ):=by rfl)(hN:X.N[i]?=cz y:=by rfl)(hv:autoParam (NmV X y) ZY._auto_1)
  (hs:ax [.Name y pv] X.env=(rp,cy (.Name y pv) X.env)::ax [] X.env:=by rfl):PAL X M [.Name y pv] c9 λH v=>∀H',Same H H'->Φ H' v:=by
 refine⟨_,m5 (C4 hN hv.1 hv.2.1 hv.2.2) s9 hs,λU Y H P F ds Q S hf q=>?_⟩;cases hf
 obtain⟨v,h1,h2⟩:=S.getF hm;exact⟨v,h1,q [] v H (Same.refl _) denAll_nil λH' e=>h2 H' (i7.trans e)⟩
def a9S(m:(List D->Option D)->List D->Option D)(gm:List D->Option D)(f:EvA):EvE:=λU=>(f U).bind (m gm)
def a4l(W:Has X.prog X.w X.K X.mg X.base x k ps (spL X.K n Φ m u))(hr:Room k X.A)(h:PAL X M (e0::es) f λH v=>∀H',Same H H'->Φ gm H' v)(hfl:∀U ds,f U=cz ds->ds.length=n)(hu:u.shut=p4:=by rfl)
  (hg:Gl X x:=by rfl) (lW:(x==("__debug__":bH))=rp:=by decide) (he:ax (e0::es) X.env=(rp,cy e0 X.env)::ax es X.env:=by rfl) (fV:(cB pos (ax es X.env)).any (·.1)=rp:=by rfl) :
  PX X M (.Call (.Name x p) (e0::es) [] pos) (a9S m gm f) (.new u):=by
 obtain⟨t,pa,qa⟩:=h;refine .mk ⟨_,a6U W hr pa hg lW he fV,λU Y H P F d Q S hf q=>?_⟩;obtain⟨ds,h1,hf⟩:=bnd hf;refine qa U Y H P F ds _ S h1 λvs v H1 e1 r1 hΦ=>?_
 show spL X.K n Φ m u ((vs++[v])++[]) H1 Q E0;rw[bz];refine⟨vs,v,gm,ds,d,rfl,by rw[r1.length];exact hfl U ds h1,r1,hΦ,hf,λv H' fp e o nd fr=>q v H' (e1.trans e) ⟨fp,o.shut_out (λa ha=>?_) u hu,nd,λa ha=>e1.free (fr a ha)⟩⟩;rcases az.mp ha with z|z
 ·exact o.lst u a z
 ·exact S.lst' (e1.trans e) a z
end
def a6c:∀(l r:List ai),jU l->jU r->jU (l++r):=by
 intro l
 fun_induction jU l with
 |case1=>intro r _ h;exact h
 |case2 a t b u c rest ih=>intro r h1 h2;simp only[bh,jU];exact ih r h1 h2
 |case3=>intro r h;exact h.elim
def a9T:∀(l r:List ai),jU l->lE pos (l++r)=cz cv->lE pos l=cz cv\/lE pos r=cz cv:=by
 intro l
 fun_induction jU l with
 |case1=>intro r _ h;exact .inr h
 |case2 a t b u c rest ih=>
  intro r h1 h2;simp only[bh,lE]at h2 ⊢
  split at h2
  ·rename_i hc
   rw[aG hc];exact .inl h2
  ·rename_i hc
   rw[aL hc];exact ih r h1 h2
 |case3=>intro r h;exact h.elim
def LamO(q:bH)(params:lM)(body:Expr)(scope:gd)(clos:List (bH×av))(H:Hp)(fa:av):Prop:=
 ∃pm c' lZ oc vs t b,H fa=cz (.frz (eu "<lambda>" q params body scope clos pm c' lZ) (.own fa))/\H c'=cz (.frz oc (.own b))/\oc.data=.fields vs/\vs[1]?=cz (.str q t)
def LamO.up(h:LamO q params body scope clos H fa)(e:Same H H'):LamO q params body scope clos H' fa:=by
 obtain⟨pm,c',lZ,oc,vs,t,b,h1,h2,h3⟩:=h;exact⟨pm,c',lZ,oc,vs,t,b,e _ _ h1,e _ _ h2,h3⟩
def b9e(q:bH)(params:lM)(body:Expr)(scope:gd)(clos:List (bH×av)):TE:=λ_ H Q=>∀fa H',Same H H'->LamO q params body scope clos H' fa->Q (.ref fa) H'
def a9U{X:Cx}(hx:x∈M7)(hP:C3 X.K x=cz P)(hc:X.env.code=.ref c)(hd:gu X.base c P)(hq:X.env.qual++"<lambda>"=V0 x)
  (tH:oQ scope X.env=pure clos) (tF:defaultsOf params X.env=([],[])):PE X (.Lambda params body scope jJ) (b9e (V0 x) params body scope clos):=by
 intro pins s Y H Q I h;refine PySem.W.kla_eval tF ?_;rw[hq];obtain⟨qs,t0,e1,e2⟩:=I.tabs x hx P hP;obtain⟨ps,vX,ht,hf⟩:=(show a5x H s.heap P qs from I.hok P _ e1);have vH:s.heap.Ns bL X.mg:=I.mod.glob.keeps I.bk;obtain⟨bm,ob,b1,b2,b3,b4,b5,b6⟩:=I.mod.bmain;have DZ:bL≠P:=λq=>by
  obtain⟨o,es,ep,e,lP,_⟩:=vH;rw[q,vX]at e;cases e;cases lP
 have Eu:bm≠P:=λq=>by
  have e:=I.bk _ _ b3;rw[q,vX]at e;cases e;cases b4
 have Ew:bm≠bL:=λq=>by
  obtain⟨o,es,ep,e,lP,_⟩:=I.mod.glob;rw[q,e]at b3;cases b3;rw[lP]at b6;cases b6
 have hB:s.heap.BuiltinsAt X.mg P:=⟨bm,ob,b1,b2,Ew,Eu,I.bk _ _ b3,b4,b5,b6⟩;have hC:gu s.heap c P:=hd.keeps I.bk;cases hn:lE jJ ps.toList with
 |some cv=>
  obtain⟨c',oc,vs,q,t,t',rfl,z2,z3,z4,z5⟩:=hf jJ cv hn;rw[e2]at z5;have BO:rK (V0 x) t0=rK q t':=aH z5;cases BO
  refine PySem.W.kla_makeFunctionHit (mg:=X.mg) tH I.ok.glob vH hc hC vX ht hn hB λlZ h' tk hk hsz=>?_
  have nR:H h'.objs.size=el:=I.hok.fresh hsz;have I':=I.laid (a:=h'.objs.size) (o:=.frz (eu "<lambda>" (V0 x) params body scope clos ((X.mg "__name__").getD .none) c' lZ) (.own h'.objs.size)) (t':=tk) (h':=h'.push (eu "<lambda>" (V0 x) params body scope clos ((X.mg "__name__").getD .none) c' lZ)) (λb u e=>ag _ (hk b u e)) hsz ⟨aE _ rfl,_,aE _ rfl⟩;refine⟨.ref h'.objs.size,_,I',rfl,h _ _ (k6 nR _) ⟨_,c',lZ,oc,vs,t,P,i4,?_,z3,z4⟩⟩;rw[f6 (n8 z2 nR)];exact z2
 |none=>
  refine PySem.W.kla_makeFunction (mg:=X.mg) tH I.ok.glob vH hc hC vX ht hn DZ hB λc' lZ h' tk CY yS gG yr An=>?_
  obtain⟨c2,oc,vs,t,rc,vw,AQ,nF⟩:=yr;cases rc
  have EE:P<s.heap.objs.size:=aF vX;have zd:H c'=el:=I.hok.fresh yS;have AM:s.heap.objs.size<=h'.objs.size:=dC (hU yS gG);have nR:H h'.objs.size=el:=I.hok.fresh AM;have gC:c'≠h'.objs.size:=ba gG;have low:∀b u,H b=cz u->upd (upd H c' (.frz oc (.own P))) h'.objs.size (.frz (eu "<lambda>" (V0 x) params body scope clos ((X.mg "__name__").getD .none) c' lZ) (.own h'.objs.size)) b=cz u:=λb u e=>by
   rw[f6 (n8 e nR),f6 (n8 e zd)];exact e
  have x_:∀b,b<s.heap.objs.size->H b=el->upd (upd H c' (.frz oc (.own P))) h'.objs.size (.frz (eu "<lambda>" (V0 x) params body scope clos ((X.mg "__name__").getD .none) c' lZ) (.own h'.objs.size)) b=el:=λb hb e=>by
   rw[f6 (ba (bu hb AM)),f6 (ba (bu hb yS))];exact e
  have kp:∀b o,b≠P->s.heap.get? b=cz o->(h'.push (eu "<lambda>" (V0 x) params body scope clos ((X.mg "__name__").getD .none) c' lZ)).get? b=cz o:=λb o hb e=>ag _ (CY b o hb e)
  have nP:∀b,H b=el->b≠P:=λb e z=>by rw[z,e1]at e;cases e
  have I':=I.un (t':=tk) (h':=h'.push (eu "<lambda>" (V0 x) params body scope clos ((X.mg "__name__").getD .none) c' lZ)) (H':=upd (upd H c' (.frz oc (.own P))) h'.objs.size (.frz (eu "<lambda>" (V0 x) params body scope clos ((X.mg "__name__").getD .none) c' lZ) (.own h'.objs.size)))
   ⟨λb o e n _ _=>kp b o (nP b n) e,λb o e n _ _=>⟨o.slots,kp b o (nP b n) e⟩,λb o e n _=>x_ b (aF e) n,λb o e _=>by
    by_cases hb:b=P
    ·exact⟨_,by rw[hb];exact ag _ An⟩
    ·exact⟨o,kp b o hb e⟩,λb xs e=>low b _ e,λb o u e=>low b _ e,λb FP e=>⟨#[],by rw[low b _ e];simp⟩⟩ (λb u e=>by
    by_cases vQ:b=h'.objs.size
    ·subst vQ;rw[i4]at e;cases e
     exact⟨aE _ rfl,_,aE _ rfl⟩
    ·rw[f6 vQ]at e;by_cases xm:b=c'
     ·subst xm;rw[i4]at e;cases e
      exact⟨ag _ vw,_,ag _ vw⟩
     ·rw[f6 xm]at e;by_cases AW:b=P
      ·subst AW;rw[e1]at e;cases e
       refine⟨_,ag _ An,?_,λpos cv z=>?_⟩
       ·have:(ps++#[cV jJ.line,cV jJ.col,a_ c']).toList=ps.toList++[cV jJ.line,cV jJ.col,a_ c']:=by simp
        rw[this];exact a6c _ _ ht trivial
       ·have:(ps++#[cV jJ.line,cV jJ.col,a_ c']).toList=ps.toList++[cV jJ.line,cV jJ.col,a_ c']:=by simp
        rw[this]at z;rcases a9T _ _ ht z with z|z
        ·obtain⟨c3,Cz,BX,q3,t3,t4,y1,y2,y3,y4,y5⟩:=hf pos cv z;exact⟨c3,Cz,BX,q3,t3,t4,y1,low _ _ y2,y3,y4,y5⟩
        ·have z':cv=.ref c':=by
          simp only[cV,lE]at z
          split at z
          ·exact (aH z).symm
          ·cases z
         refine⟨c',oc,vs,V0 x,t,t0,z',?_,AQ,nF,e2⟩;rw[f6 gC,i4]
      ·refine (I.hok b u e).stay (λd v lP q=>kp d v (λz=>?_) q) (λd q=>low _ _ q) λd v q=>low _ _ q
       rcases lP with z'|z'
       ·exact AW (z'.symm.trans z)
       ·rw[z,e1]at z';cases z')
  refine⟨.ref h'.objs.size,_,I',rfl,h _ _ (λb u e=>low b u e) ⟨_,c',lZ,oc,vs,t,P,i4,?_,AQ,nF⟩⟩;rw[f6 gC,i4]
def a8y(P:bw)(w:bO)(K:af)(mg:bH->Option ai)(base:bR)(N:List bH)(q:bH)(scope:gd)(f:av)(cd:ai)(cl:List (bH×av))(A:bC)(outer:List ox)(s:ar)(H:Hp):Cx where
 prog:=P
 w:=w
 K:=K
 mg:=mg
 base:=base
 A:=A.deeper (jr q scope s.heap.objs.size f cd cl)
 N:=N
 s₀:=s
 H₀:=H
 env:=jr q scope s.heap.objs.size f cd cl
 outer:=outer
 stack:=jr q scope s.heap.objs.size f cd cl::outer
 ex:=[]
 calm:=p4
 fn:=λ_=>rp
 pn:=[]
 xe:=λ_ _=>False
structure LamScope (N ps ys:List bH) (sc:gd) (cl:List (bH×av)):Prop where
 kind:sc.kind=.function
 co:sc.isCoroutine=rp
 gen:sc.isGenerator=rp
 nd:N.Nodup
 pre:N=ps++ys
 par:∀x∈ps,sc.names.lookup x=cz .local
 fre:∀y∈ys,sc.names.lookup y=cz .free
 ncell:∀x∈sc.names,x.2≠.cell
 has:(sc.names.all λx=>x.2 !=.free||(cl.lookup x.1).isSome)=p4
def CellsIn(cl:List (bH×av))(H:Hp):List bH->List V->Prop
 |[],vs=>vs=[]
 |y::ys,vs=>∃v r c ob uo,vs=v::r/\cl.lookup y=cz c/\H c=cz (.frz ob (.own c))/\ob.data=.cell (cz uo)/\RelV v uo/\CellsIn cl H ys r
section
variable {cl:List (bH×av)}{H H':Hp}
theorem CellsIn.up(e:Same H H'):∀{ys:List bH} {vs:List V},CellsIn cl H ys vs->CellsIn cl H' ys vs
 |[],_,h=>h
 |y::ys,_,h=>by
  obtain⟨v,r,c,ob,uo,h1,h2,h3,h4,h5,h6⟩:=h;exact⟨v,r,c,ob,uo,h1,h2,e _ _ h3,h4,h5,CellsIn.up e h6⟩
theorem CellsIn.len:∀{ys:List bH} {vs:List V},CellsIn cl H ys vs->vs.length=ys.length
 |[],_,h=>by rw[show _=[] from h];rfl
 |y::ys,_,h=>by
  obtain⟨v,r,c,ob,uo,rfl,h2,h3,h4,h5,h6⟩:=h;rw[bB,bB,CellsIn.len h6]
theorem CellsIn.get:∀{ys:List bH} {vs:List V} {i:Nat} {y:bH} {v:V},CellsIn cl H ys vs->ys[i]?=cz y->vs[i]?=cz v->∃c ob uo,cl.lookup y=cz c/\H c=cz (.frz ob (.own c))/\ob.data=.cell (cz uo)/\RelV v uo
 |[],_,i,y,v,_,e,_=>by simp at e
 |y0::ys,_,0,y,v,h,e1,e2=>by
  obtain⟨v',r,c,ob,uo,rfl,h2,h3,h4,h5,h6⟩:=h;have Fm:y0=y:=by simpa using e1
  have Fl:v'=v:=by simpa using e2
  subst Fm Fl;exact⟨c,ob,uo,h2,h3,h4,h5⟩
 |y0::ys,_,i+1,y,v,h,e1,e2=>by
  obtain⟨v',r,c,ob,uo,rfl,h2,h3,h4,h5,h6⟩:=h;exact CellsIn.get h6 (by simpa using e1) (by simpa using e2)
end
def b2b(cl:List (bH×av))(H:Hp):Prop:=∀y c,cl.lookup y=cz c->∃ob uo,H c=cz (.frz ob (.own c))/\ob.data=.cell uo
def fnE(us:List Ty)(qL:List D)(f:EvE):List D->Option D:=λds=>if argsOk us ds then f (ds++qL) else el
theorem b5E{K:af}{H:Hp}:∀{vs:List V} {ds:List D},DenAll K H vs ds->StAll K H [] (aN vs.length (.own .f)) ds (vs.map cz) []
 |_,[],h=>by rw[h.nil_inv];exact L8
 |_,d::ds,h=>by
  obtain⟨v,r,rfl,h1,h2⟩:=h.cons_inv;refine k7 (K:=K) (H:=H) (F:=[]) (m:=.own .f) (f:=[]) (g:=[]) ⟨v,rfl,?_⟩ (b5E h2);simp only[Own,K8];exact⟨trivial,h1⟩
theorem a1N:∀(ps:List α) (us:List β),((ps.zip us).map (·.1)).Sublist ps
 |[],_=>by rw[BD];exact BI _
 |p::ps,[]=>by rw[List.zip_nil_right];exact List.nil_sublist _
 |p::ps,u::us=>by rw[dW,ay];exact (a1N ps us).cons₂ p
def a2M{ps:List bH}{us:List ai}:∀{i:Nat} {y:bH} {v:ai},ps.Nodup->ps[i]?=cz y->us[i]?=cz v->(ps.zip us).reverse.lookup y=cz v:=by
 intro i y v nd h1 h2;have hm:(y,v)∈(ps.zip us).reverse:=by
  rw[ke];exact bA (by rw[gI];exact⟨h1,h2⟩)
 have hk:(((ps.zip us).reverse).map (·.1)).Nodup:=by
  rw[FE];have h0:((ps.zip us).map (·.1)).Nodup:=nd.sublist (a1N ps us);exact List.pairwise_reverse.mpr (h0.imp λz=>dc z)
 have key:∀l:List (bH×ai),(l.map (·.1)).Nodup->(y,v)∈l->l.lookup y=cz v:=by
  intro l
  induction l with
  |nil=>intro _ h;cases h
  |cons p l ih=>
   intro hn hm;rw[ay,br]at hn;obtain⟨k,z⟩:=p;rcases aC.mp hm with e|e
   ·cases e;simp[List.lookup]
   ·have:(y==k)=rp:=by
     rw[gL];intro q;exact hn.1 (q▸aR.mpr ⟨_,e,rfl⟩)
    rw[fL,this];exact ih hn.2 e
 exact key _ hk hm
def b4q{P:bw}{w:bO}{K:af}{mg:bH->Option ai}{base:bR}{k:Nat}{q:bH}{params:lM}{body:Expr}{scope:gd}{cl:List (bH×av)}{N ps ys:List bH}{us:List Ty}{u:Ty}{f:EvE}{kY:List V}{qL:List D}{H:Hp}{fa:av}
  (L:LamO q params body scope cl H fa) (S:LamScope N ps ys scope cl) (tu:∀x y c,cl.lookup x=cz c->cl.lookup y=cz c->x=y) (hC:CellsIn cl H ys kY) (xu:b2b cl H) (hD:DenAll K H kY qL) (mz:us.length=ps.length)
  (m_:∀(pm:ai) (c:av) (lZ:ai) (us:List ai),us.length=ps.length->qu (PySem.W.kla_fn "<lambda>" q params body scope cl pm (.ref c) lZ) ⟨us,[]⟩=pure (ps.zip us))
  (hb:∀(c:av) (A:bC) (outer:List ox) (s:ar) (H:Hp),Room k (A.deeper (jr q scope s.heap.objs.size fa (.ref c) cl))->PX (a8y P w K mg base N q scope fa (.ref c) cl A outer s H) (us.map .own++aN ys.length (.own .f)) body f (.new u)) :
  FnV P w K mg base (k+1) ps.length u (fnE us qL f) H (.ref fa):=by
 obtain⟨pm,c',lZ,oc,BY,t0,b0,l1,l2,l3,l4⟩:=L;refine⟨fa,_,rfl,l1,⟨_,rfl⟩,λA outer s as vs Q E hr e0 rv ⟨ds,d,hl,hd,hm,hq⟩=>?_⟩;obtain⟨C,memC,uY⟩:∃C:List av,(∀c∈C,∃y,cl.lookup y=cz c)/\∀y c,cl.lookup y=cz c->c∈C:=
  ⟨(cl.map (·.1)).filterMap λy=>cl.lookup y,λc hc=>let⟨y,_,e⟩:=dX.mp hc;⟨y,e⟩,λy c e=>dX.mpr ⟨y,aR.mpr ⟨(y,c),bZ e,rfl⟩,e⟩⟩
 have J:Junk H C:=λa ha u e=>by
  obtain⟨y,hy⟩:=memC a ha;obtain⟨ob,uo,h1,_⟩:=xu y a hy;rw[h1]at e;cases e
  exact⟨ob,rfl⟩
 have CL:∀a∈C,∃u,H a=cz u:=λa ha=>by
  obtain⟨y,hy⟩:=memC a ha;obtain⟨ob,uo,h1,_⟩:=xu y a hy;exact⟨_,h1⟩
 have lim:s.heap.NoLimit:=e0.mod.nolimit.keeps λb o e=>(e0.bs b o e).1
 have ho:s.heap.get? fa=cz (eu "<lambda>" q params body scope cl pm c' lZ):=(e0.hok fa _ l1).1;have Ei:s.heap.CodeRec (.ref c') q:=⟨c',oc,BY,t0,rfl,(e0.hok c' _ l2).1,l3,l4⟩;have rC:as.length=ps.length:=by rw[<-rv.length];exact hl
 have CC:ps.Nodup:=by have:=S.nd;rw[S.pre]at this;exact this.sublist (List.sublist_append_left _ _)
 refine PySem.W.kla_callFunE hr.depth ho rfl S.co S.gen rfl Ei ?_;rw[m_ pm c' lZ as rC];refine ae (wpAny_newFunctionEnv S.ncell (λy hy=>S.par _ (fW hy).1) (λh₁ og Ar=>⟨lim.fresh _ Ar,?_⟩) S.kind);show gH _ _ (.expr body (jr q scope s.heap.objs.size fa (.ref c') cl)) _ _;have oh:∀b o,s.heap.get? b=cz o->h₁.get? b=cz o:=λb o e=>Ar.extBut b o (ba (aF e)) (ag _ e)
 have sM:∀b:av,b∉(a8y P w K mg base N q scope fa (.ref c') cl A outer s (VS.cut H C)).ex:=λb z=>absurd (show b∈([]:List av) from z) (by simp)
 have DN:N.length=ps.length+ys.length:=by rw[S.pre,aV]
 have I:Inv (a8y P w K mg base N q scope fa (.ref c') cl A outer s (VS.cut H C)) [] (vs.map cz++kY.map cz) (VS.cut H C) {s with heap:=h₁,toks:=s.toks+(ps.zip as).length}:=by
  refine⟨⟨e0.mod,S.kind,rfl,rfl,aB _,tu,λx hx=>?_,λx c hx _=>(nomatch hx),λ_=>hr.hd,bC.frames_deeper e0.frames,.inr ⟨rfl,rfl⟩,λb z=>absurd z (sM b),λb o e=>⟨(e0.bs b o e).1,A7 (e0.bs b o e).2⟩,e0.bsz,λb _ _=>sM b,λb z=>absurd z (sM b),e0.funs,λb hb=>A7 (e0.frf b hb),a9R e0.tabs J⟩,
   rfl,e0.bare,Un.kept oh,⟨_,og,λi x v h1 h2 h3=>?_⟩,λx c e=>?_,A7 (e0.hok.fresh (aB _)),λx c e=>V8 (uY x c e),λp hp=>absurd (show p∈([]:List (av×fD)) from hp) (by simp),(a6b e0.hok J).kept oh,?_⟩
  ·have rh:scope.names.lookup x=cz .cell\/scope.names.lookup x=cz .free:=hx;rcases rh with z|z
   ·exact absurd rfl (S.ncell _ (bZ z))
   ·have w:=bj.mp S.has _ (bZ z);rw[iZ]at w;rcases w with w|w
    ·exact absurd (show (e_ !=e_)=p4 from w) (by decide)
    ·exact fC.mp w
  ·have lC:(ps++ys)[i]?=cz x:=by rw[<-S.pre];exact h1
   by_cases hi:i<ps.length
   ·rw[gJ hi]at lC;rw[gJ (by rw[ah,hl];exact hi),aX]at h2;have jV:vs[i]?=cz v:=by
     cases e:vs[i]? with
     |none=>rw[e]at h2;cases h2
     |some a=>rw[e]at h2;cases h2;rfl
    obtain⟨u',hu,r⟩:=rv.get jV;exact⟨u',r,.inl ⟨S.par x (bA lC),a2M CC lC hu⟩⟩
   ·rw[eV (by lia)]at lC;rw[eV (by rw[ah,hl];lia),ah,aX,hl]at h2;have jV:kY[i-ps.length]?=cz v:=by
     cases e:kY[i-ps.length]? with
     |none=>rw[e]at h2;cases h2
     |some a=>rw[e]at h2;cases h2;rfl
    obtain⟨c,ob,uo,z1,z2,z3,z4⟩:=hC.get lC jV;exact⟨uo,z4,.inr ⟨.inr (S.fre x (bA lC)),c,z1,ob,oh c ob (e0.hok c _ z2).1,z3⟩⟩
  ·obtain⟨ob,uo,z1,z2⟩:=xu x c e;exact⟨uo,ob,oh c ob (e0.hok c _ z1).1,z2⟩
  ·show _=N.length;rw[aV,ah,ah,hl,hC.len,DN]
 obtain⟨t,pt,qt⟩:=(hb c' A outer s (VS.cut H C) (hr.deeper _)).out;unfold fnE at hm;by_cases ha:argsOk us ds=p4
 ·rw[aG ha]at hm;have za:DenAll K (VS.cut H C) vs ds:=DenAll.junk J ds hd;have En:DenAll K (VS.cut H C) kY qL:=DenAll.junk J qL hD;have h0:=S8 (K:=K) (H:=VS.cut H C) ha za 0;simp only[gN,bz]at h0;have h1:=b5E En;rw[hC.len]at h1;have SE:StE K (us.map .own++aN ys.length (.own .f)) (ds++qL) (vs.map cz++kY.map cz) (VS.cut H C) (VS.cut H C) []:=⟨⟨_,h0.app h1,λa ha=>(nomatch ha)⟩,λa ha=>(nomatch ha),by rw[K8];exact Same.refl _⟩;refine PySem.W.kla_codeExpr (c_ (pt [] _ _ (VS.cut H C) (λv H'=>Same (VS.cut H C) H'/\ResR K (.new u) (VS.cut H C) H' [] v d) I (qt (ds++qL) _ (VS.cut H C) (VS.cut H C) [] d _ SE hm λv H' e r=>⟨e,r⟩)) (λv s' hs=>?_) λe s' hs=>(show False from hs).elim);obtain⟨v',H',J',r',e',fp,o,nd,fr⟩:=hs;have oD:∀c∈C,H' c=el:=λc hc=>by
   obtain⟨y,hy⟩:=memC c hc;exact J'.freeC y c hy
  have inn:∀{b:av} {o:HO},H' b=cz o->a6a C H H' b=cz o:=λ{b o} q=>by
   rw[q9 (λz=>by rw[oD b z]at q;cases q)];exact q
  have nC:∀{b:av},H b=el->b∉C:=λ{b} n z=>by
   obtain⟨u,hu⟩:=CL b z;rw[n]at hu;cases hu
  have Bo:∀a∈fp,a∉C:=λa ha z=>by
   obtain⟨ys,q⟩:=o.lst u a ha;rw[oD a z]at q;cases q
  refine (show CE outer P w H s Q v s' from⟨v',a6a C H H',J'.os,J'.bare,⟨λb o q n hb hx=>J'.base.keep b o q (A7 n) hb hx,λb o q n hb hx=>J'.base.slot b o q (A7 n) hb hx,λb o q n hx=>?_,J'.base.there,λb xs e=>?_,λb o u e=>?_,λb ps e=>?_⟩,λb o e=>?_,r',hq v' _ fp (λb o e=>?_) ?_ nd λa ha=>?_⟩)
  ·rw[q9 (nC n)];exact J'.base.free b o q (A7 n) hx
  ·have nb:=J.out e λo z=>(nomatch z)
   rw[q9 nb];exact J'.base.tups b xs (j6 nb e)
  ·by_cases hb:b∈C
   ·rw[a0I hb];exact e
   ·rw[q9 hb];exact J'.base.frzs b o u (j6 hb e)
  ·have nb:=J.out e λo z=>(nomatch z)
   obtain⟨more,z⟩:=J'.base.tbls b ps (j6 nb e);exact⟨more,by rw[q9 nb];exact z⟩
  ·by_cases hb:b∈C
   ·rw[a0I hb]at e;obtain⟨ob,rfl⟩:=J b hb o e;have z:=(e0.hok b _ e).1;have z':=J'.base.keep b ob z (V8 hb) (λy=>by rw[e0.frf b y]at e;cases e) (by intro y;exact absurd (show b∈([]:List av) from y) (by simp));exact⟨z',_,z'⟩
   ·rw[q9 hb]at e;exact (J'.hok b o e).stay (λ_ _ _ q=>q) (λb q=>inn q) λb u q=>inn q
  ·by_cases hb:b∈C
   ·rw[a0I hb];exact e
   ·rw[q9 hb];exact e' b o (j6 hb e)
  ·refine Own.frame (λb o' hb=>?_) u o λa ha=>q9 (Bo a ha)
   obtain⟨n1,n2⟩:=o6 hb;exact j6 (λz=>n1 (aA _ z)) (inn n2)
  ·have:=fr a ha;rw[X4 (Bo a ha)]at this;exact this
 ·rw[aL ha]at hm;cases hm
def a8z(X:Cx)(cl:List (bH×av)):List bH->List Nat->Prop
 |[],js=>js=[]
 |y::ys,js=>∃j r c,js=j::r/\X.N[j]?=cz y/\X.env.kindOf y=cz .cell/\X.env.cells.lookup y=cz c/\cl.lookup y=cz c/\a8z X cl ys r
def b9f(X:Cx)(cl:List (bH×av)):Prop:=∀p∈cl,X.env.cells.lookup p.1=cz p.2/\X.fn p.1=p4
def b4r(Y:L2.St):List Nat->List V->Prop
 |[],vs=>vs=[]
 |j::js,vs=>∃v r,vs=v::r/\Y[j]?=cz (cz v)/\b4r Y js r
def b7t(X:Cx)(cl:List (bH×av))(ys:List bH)(js:List Nat)(sp:Sp)(t:TA):TE:=λY H Q=>t Y H λvs H1=>∃kY,b4r Y js kY/\
 ∀(H2:Hp) (C:List av),(∀x y c,cl.lookup x=cz c->cl.lookup y=cz c->x=y)->Same H1 H2->CellsIn cl H2 ys kY->b2b cl H2->Junk H2 C->(∀b,b∉C->H2 b=H1 b)->(∀b∈C,H1 b=el)->sp vs H2 (λv H'=>Junk H' C->Q v (VS.cut H' C)) E0
theorem a6d{cl:List (bH×av)}(I:Inv X pins Y H s)(h2:∀y c,cl.lookup y=cz c->∀ob,s.heap.get? c=cz ob->H2 c=cz (.frz ob (.own c))) :
  ∀{ys:List bH} {js:List Nat} {kY:List V},a8z X cl ys js->b4r Y js kY->CellsIn cl H2 ys kY
 |[],js,kY,h,q=>by
  rw[show js=[] from h]at q;exact q
 |y::ys,_,kY,h,q=>by
  obtain⟨j,r,c,rfl,h1,h3,h4,h5,h6⟩:=h;obtain⟨v,rs,rfl,q1,q2⟩:=q;obtain⟨m,hn,hl⟩:=I.loc;obtain⟨u,ru,lk⟩:=hl j y v h1 q1 (.inr (.inl h3));rcases lk with⟨k,_⟩|⟨k,c',e',ob,z1,z2⟩
  ·rw[h3]at k;cases k
  ·rw[h4]at e';cases e'
   exact⟨v,rs,c,ob,u,rfl,h5,h2 y c h5 ob z1,z2,ru,a6d I h2 h6 q2⟩
section
variable {X:Cx}{k:Nat}{f:av}{fd:dB}{ps:List bH}{sp:Sp}{x:bH}{p pos:eM}{e:Expr}{es:List Expr}{t:TA}{cl:List (bH×av)}{ys:List bH}{js:List Nat}
def b2c(F:FnOk X.prog X.w X.K X.mg X.base CX0 k f fd ps sp)(hr:Room k X.A)(hg:Gl X x)(hm:X.mg x=cz (.ref f))(hk:fK X.K (.ref f)=p4)(hb:Binds X.K fd ps [])(ha:PA X (e::es) t)(tI:a8z X cl ys js)(jm:b9f X cl)
  (lW:(x==("__debug__":bH))=rp) (he:ax (e::es) X.env=(rp,cy e X.env)::ax es X.env) (fV:(cB pos (ax es X.env)).any (·.1)=rp) :
  PE X (.Call (.Name x p) (e::es) [] pos) (b7t X cl ys js sp t):=by
 intro pins s0 Y H0 Q I0 h;refine fq (a4L I0 hg hm ?_ lW);refine zG (h₀:=X.base) I0.ok.mod.kin hk (L2.thn (ha pos pins s0 Y H0 _ I0 h) λus s ⟨vs,H,I,r,kY,Eh,q⟩=>⟨I.kIn,?_⟩) he fV;obtain⟨C,memC,uY⟩:∃C:List av,(∀c∈C,∃y,cl.lookup y=cz c)/\∀y c,cl.lookup y=cz c->c∈C:=
  ⟨(cl.map (·.1)).filterMap λy=>cl.lookup y,λc hc=>let⟨y,_,e⟩:=dX.mp hc;⟨y,e⟩,λy c e=>dX.mpr ⟨y,aR.mpr ⟨(y,c),bZ e,rfl⟩,e⟩⟩
 have oq:∀c∈C,∃y,X.env.cells.lookup y=cz c/\X.fn y=p4:=λc hc=>by
  obtain⟨y,hy⟩:=memC c hc;exact⟨y,jm _ (bZ hy)⟩
 have oD:∀c∈C,H c=el:=λc hc=>by
  obtain⟨y,hy,_⟩:=oq c hc;exact I.freeC y c hy
 have mw:∀c∈C,∃ob v,s.heap.get? c=cz ob/\ob.data=.cell v:=λc hc=>by
  obtain⟨y,hy,_⟩:=oq c hc;obtain⟨v,ob,z1,z2⟩:=I.cell y c hy;exact⟨ob,v,z1,z2⟩
 have sj:∀c∈C,X.s₀.heap.objs.size<=c:=λc hc=>by
  obtain⟨y,hy,hf⟩:=oq c hc;exact I.ok.cab y c hf hy
 obtain⟨H2,qm,mn⟩:∃H2:Hp,(∀c∈C,∀ob,s.heap.get? c=cz ob->H2 c=cz (.frz ob (.own c)))/\∀b,b∉C->H2 b=H b:=
  ⟨λb=>if b∈C then (s.heap.get? b).map (λo=>HO.frz o (.own b)) else H b,λc hc ob z=>by show (if c∈C then _ else _)=_;rw[aG hc,z];rfl,λb hb=>aL hb⟩
 have lg:Same H H2:=λb o e=>by
  rw[mn b (λz=>by rw[oD b z]at e;cases e)];exact e
 have J2:Junk H2 C:=λa hm u e=>by
  obtain⟨ob,v,z1,_⟩:=mw a hm;rw[qm a hm ob z1]at e;cases e
  exact⟨ob,rfl⟩
 have oK:HOk X.prog X.w H2 s.heap:=λb o e=>by
  by_cases hb:b∈C
  ·obtain⟨ob,v,z1,_⟩:=mw b hb;rw[qm b hb ob z1]at e;cases e
   exact⟨z1,_,z1⟩
  ·rw[mn b hb]at e;exact (I.hok b o e).stay (λ_ _ _ q=>q) (λb q=>lg _ _ q) λb u q=>lg _ _ q
 have e0:Env0 X.prog X.w X.K X.mg X.base X.A X.stack s H2:=by
  have z:=I.env0;refine⟨z.frames,z.mod,λb o e=>⟨(z.bs b o e).1,?_⟩,z.bsz,z.funs,λb hb=>?_,oK,z.bare,λx hx p e=>?_⟩
  ·rw[mn b λhc=>absurd (bu (aF e) (bV I.ok.bsz (sj b hc))) (dg _)];exact (z.bs b o e).2
  ·rw[mn b λhc=>?_]
   ·exact z.frf b hb
   ·rcases aC.mp (I.stkSub b hb) with e|e
    ·obtain⟨y,hy,_⟩:=oq b hc;exact I.cne y b hy e
    ·obtain⟨_,o,ho,_⟩:=I.ok.funs.mem e;exact absurd (bu (aF ho) (sj b hc)) (dg _)
  ·obtain⟨qs,t',e1,e2⟩:=z.tabs x hx p e;exact⟨qs,t',lg _ _ e1,e2⟩
 have pM:=q H2 C (λx y c z1 z2=>I.ok.inj x y c (jm _ (bZ z1)).1 (jm _ (bZ z2)).1) lg (a6d I (λy c hy ob z=>qm c (uY y c hy) ob z) tI Eh) (λy c hy=>by
  obtain⟨ob,v,z1,z2⟩:=mw c (uY y c hy);exact⟨ob,v,qm c (uY y c hy) ob z1,z2⟩) J2 mn oD
 have r2:Vals vs (us++[]):=by rw[bz];exact r
 have hl:(us++[]).length=ps.length:=by rw[<-r2.length];exact F.len _ _ _ _ pM
 refine uH (fG (F.run X.A X.stack s H2 ⟨us,[]⟩ (us++[]) vs _ E0 hr e0 (hb s us I.kIn hl) r2 pM) λr s' hq=>?_);cases r with
 |error e=>exact cG hq
 |ok fl=>
  cases fl with
  |next=>exact cG hq
  |brk=>exact cG hq
  |cont=>exact cG hq
  |ret u=>
   obtain⟨v,H',os,bare,un,pP,rv,qv⟩:=(show CE X.stack X.prog X.w H2 s _ u s' from hq);have fz:∀c∈C,∃ob,s.heap.get? c=cz ob/\H' c=cz (.frz ob (.own c))/\s'.heap.get? c=cz ob:=λc hc=>by
    obtain⟨ob,v,z1,_⟩:=mw c hc;have z2:=un.frzs c ob _ (qm c hc ob z1);exact⟨ob,z1,z2,(pP c _ z2).1⟩
   have J':Junk H' C:=λa hm u e=>by
    obtain⟨ob,_,z,_⟩:=fz a hm;rw[z]at e;cases e
    exact⟨ob,rfl⟩
   have n2:∀b,H b=el->b∉C->H2 b=el:=λb n hb=>by rw[mn b hb];exact n
   have oC:∀b u,H b=cz u->b∉C:=λb u e z=>by rw[oD b z]at e;cases e
   have BZ:Un (frs X.stack) [] H (VS.cut H' C) s.heap s'.heap:=by
    refine⟨λb o e n hb hx=>?_,λb o e n hb hx=>?_,λb o e n hx=>?_,un.there,λb xs e=>?_,λb o u e=>?_,λb ps e=>?_⟩
    ·by_cases hc:b∈C
     ·obtain⟨ob,z1,_,z3⟩:=fz b hc;rw[e]at z1;cases z1
      exact z3
     ·exact un.keep b o e (n2 b n hc) hb hx
    ·by_cases hc:b∈C
     ·obtain⟨ob,z1,_,z3⟩:=fz b hc;rw[e]at z1;cases z1
      exact⟨o.slots,z3⟩
     ·exact un.slot b o e (n2 b n hc) hb hx
    ·by_cases hc:b∈C
     ·exact V8 hc
     ·exact A7 (un.free b o e (n2 b n hc) hx)
    ·exact j6 (oC b _ e) (un.tups b xs (lg _ _ e))
    ·exact j6 (oC b _ e) (un.frzs b o u (lg _ _ e))
    ·obtain⟨more,z⟩:=un.tbls b ps (lg _ _ e);exact⟨more,j6 (oC b _ e) z⟩
   exact⟨v,VS.cut H' C,I.call' os BZ (a6b pP J') bare (λb z=>absurd z (by simp)),rv,qv J'⟩
end
def P9(scope:gd)(env:ox):List (bH×av):=scope.names.foldl (λcs p=>if p.2==.free then (match env.cells.lookup p.1 with|some c=>(p.1,c)::cs|none=>cs) else cs) []
def a7v:∀p∈P9 scope env,env.cells.lookup p.1=cz p.2:=by
 have key:∀(l:List (bH×iO)) (cs:List (bH×av)),(∀p∈cs,env.cells.lookup p.1=cz p.2)->∀p∈l.foldl (λcs p=>if p.2==.free then (match env.cells.lookup p.1 with|some c=>(p.1,c)::cs|none=>cs) else cs) cs,env.cells.lookup p.1=cz p.2:=by
  intro l
  induction l with
  |nil=>intro cs h;exact h
  |cons a l ih=>
   intro cs h;rw[oX];refine ih _ λp hp=>?_
   split at hp
   ·split at hp
    ·rename_i c hc
     rcases aC.mp hp with e|e
     ·rw[e];exact hc
     ·exact h p e
    ·exact h p hp
   ·exact h p hp
 exact key _ _ λp hp=>(nomatch hp)
def b4s{X:Cx}(nR:∀x,X.fn x=p4:=by exact λ_=>rfl):b9f X (P9 scope X.env):=λp hp=>⟨a7v p hp,nR _⟩
section
variable {X:Cx}{M:List Md}{e0:Expr}{es:List Expr}{f:EvA}{u uf:Ty}{x:bH}{p pos jJ:eM}{params:lM}{body:Expr}{scope:gd}{ys:List bH}{js:List Nat}
def b4t(hx:y∈M7)(hP:C3 X.K y=cz P)(hc:X.env.code=.ref c)(hd:gu X.base c P)(hq:X.env.qual++"<lambda>"=V0 y)
  (tH:oQ scope X.env=pure (P9 scope X.env):=by rfl) (tF:defaultsOf params X.env=([],[]):=by rfl) (hs:ax [.Lambda params body scope jJ] X.env=(rp,cy (.Lambda params body scope jJ) X.env)::ax [] X.env:=by rfl) :
  PAL X M [.Lambda params body scope jJ] c9 λH v=>∃fa,v=.ref fa/\LamO (V0 y) params body scope (P9 scope X.env) H fa:=by
 refine⟨_,m5 (a9U hx hP hc hd hq tH tF) s9 hs,λU Y H P F ds Q S hf q=>?_⟩;cases hf
 exact λfa H' e L=>q [] (.ref fa) H' e denAll_nil ⟨fa,rfl,L⟩
def b7u(M:List Md):List Nat->Prop
 |[]=>True
 |j::js=>(∃w,M[j]?=cz (.own w))/\b7u M js
theorem a8A{K:af}{U:List D}{Y:L2.St}{H P:Hp}{F:List av}(S:StE K M U Y H P F):∀{js:List Nat},b7u M js->∃kY,b4r Y js kY/\DenAll K H kY (js.map λj=>U.getD j .none)
 |[],_=>⟨[],rfl,denAll_nil⟩
 |j::js,h=>by
  obtain⟨⟨w,hw⟩,h2⟩:=h;obtain⟨v,fp,e,o,_⟩:=S.get hw;obtain⟨kY,q1,q2⟩:=a8A S h2;exact⟨v::kY,⟨v,kY,rfl,e,q1⟩,denAll_cons (o.den w) q2⟩
def b4u(m:(List D->Option D)->List D->Option D)(us:List Ty)(js:List Nat)(fb:EvE)(f:EvA):EvE:=λU=>(f U).bind (m (fnE us (js.map λj=>U.getD j .none) fb))
end
def b2d{P:bw}{w:bO}{K:af}{mg:bH->Option ai}{base:bR}{x:bH}{st:g_}{f:av}{fd:dB}{N ps:List bH}{k n:Nat}{us:List Ty}{u:Ty}{g:EvS}{M':List Md}(F:Fun K x x st f fd)(S:FnScope N ps (i9 st))(mz:us.length=ps.length)(hn:N.length=ps.length+n)
  (hb:∀(A:bC) (outer:List ox) (s:ar) (H:Hp) (E:XK),Room k (A.deeper (jb x (i9 st) s.heap.objs.size f fd.code))->PSsX (a0q CX0 P w K mg base N x (i9 st) f fd.code A outer s H E).nox u [] (us.map .own++aN n .dead) (y7 st) g M') :
  FnOk P w K mg base CX0 (k+1) f fd ps (spD K ps.length (fnD us n g) u):=by
 obtain⟨oc,od,kV,doc,pm,an,gg,ct,oE,rfl,lk,nI⟩:=F.ex;refine b5s lk nI S (λvs H Q E ⟨ds,d,hl,_⟩=>hl) λA outer s H vs Q E hr ⟨ds,d,hl,hd,hm,q⟩=>?_
 obtain⟨t,p,r⟩:=(hb A outer s H E hr).out;refine⟨t,p.nox,?_⟩;unfold fnD at hm;by_cases ha:argsOk us ds=p4
 ·rw[aG ha]at hm;obtain⟨o,h1,h2⟩:=bnd hm;cases o with
  |rt d'=>
   have jV:cz d'=cz d:=h2;cases jV
   have e:L2.start N vs=vs.map cz++aN n el:=by
    unfold L2.start;rw[show N.length-vs.length=n by lia]
   rw[e];refine r _ (ds++aN n gQ) _ H H [] (.rt d) ⟨⟨[],S8 ha hd n,bp,λa ha=>(nomatch ha)⟩,λa ha=>(nomatch ha),by rw[K8];exact Same.refl H⟩ h1 ?_;exact λv H' fp o nd fr e=>q v H' fp e o nd fr
  |_=>cases h2
 ·rw[aL ha]at hm;cases hm
def b2e{K:af}{base:bR}{fd:dB}(e:(C3 K x).isSome=p4)(X:K.In base)(G:base.Ns bL mg)(a:gD K bL x=cz (cz (.ref f)))(l:K.lookup f=cz ⟨oc,od,.func fd,sl⟩) :
  ∃c p,fd.code=.ref c/\C3 K x=cz p/\gu base c p:=by
 obtain⟨p,hp⟩:=fC.mp e;obtain⟨f',FW,FV,Bp,zQ,c,h1,h2,h3,h4⟩:=a4b hp X G;have h5:=jQ X G a;rw[h1]at h5;cases h5
 rw[l]at h2;cases h2
 exact⟨c,p,h3,hp,h4⟩
end VS
namespace VS
open PySem PySem.Spec L2
def a8B:FnOk P w K mg base CX0 k f fd ps (spD K n (λ_=>el) u):=
 ⟨λ_ _ _ _ ⟨_,_,_,_,hm,_⟩=>(nomatch hm),λ_ _ _ _ _ _ _ _ _ _ _ _ _ ⟨_,_,_,_,hm,_⟩=>(nomatch hm)⟩
end VS
namespace VS
open PySem
abbrev Up(xs:List Nat):Prop:=xs.Pairwise (· < ·)
def AtB(xs:List Nat)(j p:Nat):Prop:=p<=xs.length/\(∀i (h:i<xs.length),i<p->xs[i]<j)/\∀i (h:i<xs.length),p<=i->¬ xs[i]<j
def a4m(h:Up xs)(hk:k<xs.length)(hi:i<k):xs[i]<xs[k]:=List.pairwise_iff_getElem.mp h i k (by lia) hk hi
def AtB.uniq(a:AtB xs j p)(b:AtB xs j q):p=q:=by
 rcases Nat.lt_trichotomy p q with c|c|c
 ·exact absurd (b.2.1 p (by have:=b.1;lia) c) (a.2.2 p (by have:=b.1;lia) (aB _))
 ·exact c
 ·exact absurd (a.2.1 q (by have:=a.1;lia) c) (b.2.2 q (by have:=a.1;lia) (aB _))
def b2f{xs:Array Nat}(hs:Up xs.toList):∀(f lo hi:Nat),lo<=hi->hi<=xs.size->hi<=lo+f->(∀i (h:i<xs.toList.length),i<lo->xs.toList[i]<j)->(∀i (h:i<xs.toList.length),hi<=i->¬ xs.toList[i]<j)->
  AtB xs.toList j (qy xs j f lo hi):=by
 intro f
 induction f with
 |zero=>
  intro lo hi h1 h2 h3 a b;have e:lo=hi:=by lia
  subst e;rw[qy];exact⟨by simpa using h2,a,b⟩
 |succ f ih=>
  intro lo hi h1 h2 h3 a b;rw[qy];by_cases c:lo<hi
  ·rw[aG c];have hm:(lo+hi) / 2<xs.size:=by lia
   have uj:(lo+hi) / 2<xs.toList.length:=by simpa using hm
   have eg:xs.getD ((lo+hi) / 2) j=xs.toList[(lo+hi) / 2]:=by simp[Array.getD,hm]
   simp only[eg];by_cases d:xs.toList[(lo+hi) / 2]<j
   ·rw[aG d];refine ih _ _ (by lia) h2 (by lia) (λi mC hl=>?_) b;rcases gE i ((lo+hi) / 2) with z|z
    ·exact fu (a4m hs uj z) d
    ·have:i=(lo+hi) / 2:=by lia
     subst this;exact d
   ·rw[aL d];refine ih _ _ (by lia) (by lia) (by lia) a (λi mC hl=>?_);rcases gE ((lo+hi) / 2) i with z|z
    ·have:=a4m hs mC z;lia
    ·have:i=(lo+hi) / 2:=by lia
     subst this;exact d
  ·rw[aL c];have e:lo=hi:=by lia
   subst e;exact⟨by simpa using h2,a,b⟩
def below_at{xs:Array Nat}(hs:Up xs.toList)(j:Nat):AtB xs.toList j (eH xs j):=by
 unfold eH;exact b2f hs _ _ _ (b_ _) (aB _) (by lia) (λi _ h=>by lia) (λi h h'=>by simp at h;lia)
def a7w{xs:Array Nat}(hs:Up xs.toList):eH xs 0=0:=(below_at hs 0).uniq ⟨b_ _,λ_ _ h=>by lia,λ_ _ _=>by lia⟩
def a7x{xs:Array Nat}(hs:Up xs.toList)(hi:i<xs.toList.length):eH xs (xs.toList[i]+1)=i+1:=by
 refine (below_at hs _).uniq ⟨hi,λk hk h=>?_,λk hk h=>?_⟩
 ·rcases gE k i with z|z
  ·have:=a4m hs hi z;lia
  ·have:k=i:=by lia
   subst this;lia
 ·have:=a4m hs hk (show i<k by lia);lia
def b7v(hs:Up xs)(h:AtB xs j p)(hj:j∉xs):Up (xs.take p++j::xs.drop p):=by
 have h1:∀x∈xs.take p,x<j:=λx hx=>by
  obtain⟨i,hi,rfl⟩:=gy.mp hx;rw[dY]at hi;rw[BE];exact h.2.1 i (by lia) (by lia)
 have h2:∀x∈xs.drop p,j<x:=λx hx=>by
  obtain⟨i,hi,rfl⟩:=gy.mp hx;rw[kg]at hi;have z:=h.2.2 (p+i) (by lia) (by lia);rw[List.getElem_drop];have:xs[p+i]'(by lia)≠j:=λe=>hj (e▸cW _)
  lia
 rw[Up,iP,jD];refine⟨hs.take,⟨h2,hs.drop⟩,λa ha b hb=>?_⟩;rcases aC.mp hb with rfl|hb
 ·exact h1 a ha
 ·exact fu (h1 a ha) (h2 b hb)
def a6e{t:gq}(hs:Up t.place.toList)(h:∀i,t.slot j≠.live i):j∉t.place.toList:=λhj=>by
 obtain⟨i,hi,e⟩:=gy.mp hj;have hb:eH t.place j=i:=by
  refine (below_at hs j).uniq ⟨dC hi,λk hk z=>?_,λk hk z=>?_⟩
  ·have:=a4m hs hi z;lia
  ·rcases gE i k with y|y
   ·have:=a4m hs hk y;lia
   ·have:k=i:=by lia
    subst this;lia
 apply h i;have mC:i<t.place.size:=by simpa using hi
 have:t.place[i]?=cz j:=by rw[bN mC,<-e];simp
 simp only[gq.slot,hb,this,fH,jl]
def b2g{t:gq}:∀(f:Nat) (p:gq.Probe) (j:Nat) (d:Option Nat),(∀x,p.dummy=cz x->t.slot x=.dummy)->gq.probe.go t hs h f p=cz (.empty j d)->t.slot j=.empty/\∀x,d=cz x->t.slot x=.dummy:=by
 intro f
 induction f with
 |zero=>intro p j d _ e;cases e
 |succ f ih=>
  intro p j d hd e;rw[gq.probe.go]at e;have BB:∀q:gq.Probe,(t.advance q).dummy=q.dummy:=λq=>by unfold gq.advance;split<;>rfl
  split at e
  ·rename_i ll
   cases e
   exact⟨ll,hd⟩
  ·rename_i ll
   exact ih _ j d (λx hx=>by rw[BB]at hx;cases hx;exact ll) e
  ·split at e
   ·cases e
   ·exact ih _ j d (λx hx=>by rw[BB]at hx;exact hd x hx) e
def b2h{t:gq}(hs:Up t.place.toList)(e:t.freeSlot h=cz (j,b)):j∉t.place.toList:=by
 unfold gq.freeSlot at e
 split at e
 ·rename_i j' d hp
  unfold gq.probe at hp;obtain⟨h1,h2⟩:=b2g _ _ _ _ (λx hx=>by cases hx) hp;simp only[nt,Prod.mk.injEq]at e;obtain⟨rfl,_⟩:=e;cases d with
  |none=>exact a6e hs λi=>by rw[show t.slot ((el:Option Nat).getD j')=.empty from h1];simp
  |some x=>exact a6e hs λi=>by rw[show t.slot ((cz x:Option Nat).getD j')=.dummy from h2 x rfl];simp
 ·cases e
def b2i(n:Nat):Up (Array.range n).toList:=by rw[Array.toList_range];exact kC
def T4(t:gq)(n:Nat):Up (t.standIn n).place.toList:=b2i n
def a9V{t:gq}(hs:Up t.place.toList)(es:Array (Int×ai))(h:Int)(x:ai):Up (layNew t es h x).2.1.place.toList/\(layNew t es h x).2.1.led=t.led:=by
 unfold layNew
 split
 ·rename_i slot wd e
  have hp:Up (t.put slot).1.place.toList:=by
   show Up (gq.insertAt t.place (eH t.place slot) slot).toList;rw[gq.toList_insertAt];exact b7v hs (below_at hs slot) (b2h hs e)
  have hl:(t.put slot).1.led=t.led:=rfl
  dsimp only
  unfold gq.orStandIn
  split
  ·exact⟨hp,hl⟩
  ·exact⟨T4 _ _,hl⟩
 ·exact⟨T4 _ _,rfl⟩
def a5e(f:Nat->Option Nat):Up (((aQ n).filterMap λj=>(f j).map (j,·)).map (·.1)):=by
 rw[Up,ny,List.pairwise_filterMap];refine kC.imp λ{a b} pq x hx y hy=>?_
 obtain⟨_,_,rfl⟩:=dt.mp hx;obtain⟨_,_,rfl⟩:=dt.mp hy;exact pq
def b2j(t:gq)(es:Array (Int×ai))(n:Nat):(Up t.place.toList->Up (mR t es n).2.1.place.toList)/\(mR t es n).2.1.led=t.led:=by
 unfold mR
 split
 ·rename_i t' order e
  unfold gq.relaid gq.laid at e;obtain⟨ow,_,e2⟩:=sF.mp e;simp only[Option.pure_def,nt,Prod.mk.injEq]at e2;obtain⟨rfl,_⟩:=e2
  dsimp only
  split
  ·refine⟨λ_=>?_,rfl⟩;rw[List.toList_toArray];exact a5e _
  ·exact⟨λ_=>T4 _ _,rfl⟩
 ·exact⟨λ_=>T4 _ _,rfl⟩
end VS
namespace VS
open PySem PySem.Spec L2
open PyProof.Rows (step_dedup)
def iOf:ai->Int
 |.int n _=>n
 |_=>0
def EI(l:List (Int×ai))(ms:List Int):Prop:=(∀e∈l,∃n t,e.2=.int n t/\e.1=jL n)/\(l.map λe=>iOf e.2).Perm ms
def D5(w:bO)(o:fD)(es:Array (Int×ai))(ep:Nat)(t:gq)(P:Prop):Prop:=
 o.ExactSet/\o.data=.set es ep t/\t.fits es.size=p4/\Up t.place.toList/\t.led=!w.params.followText "set-order"/\es.size<jk/\P
abbrev a2N(w:bO)(o:fD)(es:Array (Int×ai))(ep:Nat)(t:gq)(ms:List Int):Prop:=D5 w o es ep t (EI es.toList ms)
def SetI(w:bO)(h:bR)(a:av)(ms:List Int):Prop:=∃o es ep t,h.get? a=cz o/\a2N w o es ep t ms
def SetI.at{h h':bR}(x:SetI w h a ms)(k:∀o,h.get? a=cz o->h'.get? a=cz o):SetI w h' a ms:=let⟨o,es,ep,t,e,r⟩:=x;⟨o,es,ep,t,k _ e,r⟩
def EI.perm{l l':List (Int×ai)}(h:EI l ms)(p:l'.Perm l):EI l' ms:=⟨λe he=>h.1 e (p.mem_iff.mp he),(p.map _).trans h.2⟩
def EI.push{l l':List (Int×ai)}(h:EI l ms)(p:l'.Perm (l++[(jL n,.int n tk)])):EI l' (ms++[n]):=by
 refine EI.perm (l:=l++[(jL n,.int n tk)]) ⟨λe he=>?_,?_⟩ p
 ·rcases az.mp he with z|z
  ·exact h.1 e z
  ·rw[ao]at z;subst z;exact⟨n,tk,rfl,rfl⟩
 ·rw[aM];exact h.2.append (ik _)
def EI.len(h:EI l ms):l.length=ms.length:=by have:=h.2.length_eq;simpa using this
section
variable {prog:bw}{w:bO}{A:bC}{E:ai->ar->Prop}{sh:ar}
def EI.elems(h:EI l ms):ElemsOf (cQ prog w) l:=λe he=>by
 obtain⟨n,t,e1,e2⟩:=h.1 e he;rw[e1];exact⟨⟨n,oG _ _ _ _,e2⟩,rfl⟩
def a4n{es eJ:Array (Int×ai)}{t t':gq}(ho:sh.heap.get? a=cz o)(r:a2N w o es ep t ms)(f:t'.fits eJ.size=p4)(u:Up t'.place.toList)(l:t'.led=t.led)(b:eJ.size<jk)(e:EI eJ.toList CF) :
  (sh.heap.update a (wB eJ t')).get? a=cz {o with data:=.set eJ (ep+1) t'}/\a2N w {o with data:=.set eJ (ep+1) t'} eJ (ep+1) t' CF:=by
 refine⟨?_,r.1,rfl,f,u,l.trans r.2.2.2.2.1,b,e⟩;have z:=bS (wB eJ t') ho (by rw[putSet_of eJ t' r.2.1];rfl)
 rwa[putSet_of eJ t' r.2.1]at z
def add_int(hS:SetI w sh.heap a ms)(hr:ms.length+1<jk)
  (q:∀b h',cD a sh.heap h'->SetI w h' a (step_dedup ms n)->Q b {sh with heap:=h'}):aD (aT prog w) A (setAddHashed a (.int n tk) (jL n)) Q E sh:=by
 obtain⟨o,es,ep,t,ho,r⟩:=hS;obtain⟨_,hd,hf,hu,hl,hb,he⟩:=id r;have AO:ElemsOf (cQ prog w) es.toList:=he.elems;have hlen:es.size=ms.length:=by have:=he.len;simpa using this
 unfold setAddHashed setAddHashedIn;refine bK (ab (gF ho hd hf ?_))
 dsimp only
 rw[byScan_of (knd:=cQ prog w) (x:=.int n tk) rfl hb AO,aG rfl];unfold setAddByScan;refine ab (ab (dQ (ab (wpAny_setScan_of (knd:=cQ prog w) (k:=n) (oG _ _ _ _) ho hd hf AO ?_))));cases hj:es.toList.findIdx? λe=>(cQ prog w).is n e.2 with
 |some j=>
  dsimp only
  obtain⟨AH,tm,_⟩:=List.findIdx?_eq_some_iff_getElem.mp hj;have ki:ms.any (· == n)=p4:=by
   obtain⟨n',t',e1,_⟩:=he.1 _ (cW AH);rw[e1]at tm;have hn:n'=n:=(cQ prog w).inj _ _ _ (oG prog w n' t') tm;refine cX.mpr ⟨n,he.2.mem_iff.mp (aR.mpr ⟨_,cW AH,?_⟩),fH n⟩;rw[e1];exact hn
  refine ae (ae ?_);have z:=q rp sh.heap (cD.refl a _) (by rw[step_dedup,aG ki];exact⟨o,es,ep,t,ho,r⟩);exact z
 |none=>
  dsimp only
  have yD:¬ ms.any (· == n)=p4:=λc=>by
   obtain⟨x,h1,h2⟩:=cX.mp c;obtain⟨e,g1,g2⟩:=aR.mp (he.2.mem_iff.mpr h1);obtain⟨n',t',e1,_⟩:=he.1 _ g1;have z:=List.findIdx?_eq_none_iff.mp hj e g1;rw[e1]at z g2;have:n'=n:=(show n'=x from g2).trans (kn.mp h2);subst this;rw[oG]at z;cases z
  have Dj:step_dedup ms n=ms++[n]:=by rw[step_dedup,aL yD]
  rw[Dj]at q;have p1:=layNew_perm t es (jL n) (.int n tk);have f1:=layNew_fits t es (jL n) (.int n tk);obtain⟨u1,l1⟩:=a9V hu es (jL n) (.int n tk);generalize layNew t es (jL n) (.int n tk)=L at p1 f1 u1 l1 ⊢;obtain⟨jX,t1,wd,gv⟩:=L
  dsimp only at p1 f1 u1 l1 ⊢
  rw[BM]at p1;have e1:EI jX.toList (ms++[n]):=he.push p1;have z1:jX.size=ms.length+1:=by have:=e1.len;simpa using this
  have b1:jX.size<jk:=by lia
  have gw:∀(b:Bool) (s1:ar) (Q':Unit->ar->Prop),Q' () s1->aD (aT prog w) A (match b with|true=>rule "set.scan.the-table-gave-way" | false=>pure ()) Q' E s1:=λb s1 Q' hq=>by
   cases b<;>first|exact ae hq|exact dQ hq
  refine ab (gw _ _ _ ?_);have tail:∀(g:Bool->Sem Unit),(∀(b:Bool) (s1:ar) (Q':Unit->ar->Prop),Q' () s1->aD (aT prog w) A (g b) Q' E s1)->∀t2:gq,t2.fits jX.size=p4->Up t2.place.toList->t2.led=t.led->∀R:Option Bool->ar->Prop,
    (∀h',cD a sh.heap h'->SetI w h' a (ms++[n])->R (cz p4) {sh with heap:=h'})->
    aD (aT prog w) A (storeSet a jX t2 >>= λ_=>if (!wd&&t2.tooFull)=p4 then (g (mR t2 jX (gO jX.size)).2.2 >>= λ_=>storeSet a (mR t2 jX (gO jX.size)).1 (mR t2 jX (gO jX.size)).2.1 >>= λ_=>pure (cz p4)) else pure (cz p4)) R E sh:=by
   intro g hg t2 f2 u2 l2 R hR;refine ab (wpAny_storeSet_of ho hd ?_ (kJ b1));obtain⟨o2,r2⟩:=a4n (sh:=sh) ho r f2 u2 l2 b1 e1;have sb:=bP sh.heap a (wB jX t2)
   split
   ·have p3:=relayAll_perm t2 jX (gO jX.size);have f3:=relayAll_fits t2 jX (gO jX.size);obtain⟨u3,l3⟩:=b2j t2 jX (gO jX.size);generalize mR t2 jX (gO jX.size)=R3 at p3 f3 u3 l3 ⊢;obtain⟨Br,t3,g3⟩:=R3
    dsimp only at p3 f3 u3 l3 ⊢
    have e3:EI Br.toList (ms++[n]):=e1.perm p3;have b3:Br.size<jk:=by have:=e3.len;rw[aV,kW,cI]at this;lia
    refine ab (hg _ _ _ (ab (wpAny_storeSet_of o2 rfl ?_ (kJ b3))));obtain⟨o4,r4⟩:=a4n (sh:={sh with heap:=sh.heap.update a (wB jX t2)}) o2 r2 f3 (u3 u2) l3 b3 e3;exact ae (hR _ (sb.trans (bP _ a _)) ⟨_,_,_,_,o4,r4⟩)
   ·exact ae (hR _ sb ⟨_,_,_,_,o2,r2⟩)
  split
  ·refine ab ?_;rw[hashByValue_scannable 8 (x:=jo n tk) rfl];refine ae ?_;refine tail _ ?_ _ ?_ ?_ ?_ _ λh' sb mD=>ae (q p4 h' sb mD)
   ·intro b s1 Q' hq;cases b<;>first|exact ae hq|exact dQ hq
   ·exact f1
   ·exact u1
   ·exact l1
  ·refine ab (ae ?_);rw[aG rfl];refine tail _ ?_ _ f1 u1 l1 _ λh' sb mD=>ae (q p4 h' sb mD)
   intro b s1 Q' hq;cases b<;>first|exact ae hq|exact dQ hq
end
end VS
namespace VS
open PySem PySem.Spec L2
open PyProof.Rows (firstMet firstMet_succ firstMet_length_le)
section
variable {prog:bw}{w:bO}{A:bC}{E:ai->ar->Prop}{sh:ar}{R:Fy->ar->Prop}{I:av}{fp wr:List av}{G:Array GenState->Array GenState->Prop}{n:Nat}{P:Nat->ai->Prop}{St:Nat->ar->Prop}
def b2k(Wk:WalksS prog w A.in1 I fp wr G n P St)(z:av)(hz:z∉fp)(val:Nat->Int)(sP:∀i v,P i v->∃t,v=.int (val i) t)(hb:n+1<jk) :
  ∀(k i:Nat) (s:ar),n-i=k->i<=n->St i s->SetI w s.heap z (firstMet val i)->(∀s',Moved (z::wr) G s s'->SetI w s'.heap z (firstMet val n)->R (.ok (.ret .none)) s')->
   gH (aT prog w) A (.builtin "set.update.loop" ⟨[.ref z,.ref I],[]⟩) R s:=by
 have hw:z∉wr:=λh=>hz (Wk.sub _ h)
 have up:∀b∈wr,b∈z::wr:=λb h=>ak _ h
 intro k
 induction k with
 |zero=>
  intro i s hk hi st hS hR;obtain rfl:i=n:=by lia
  refine dJ (by exact l_) ?_;rw[cU (by exact gM) _];show aD _ A.in1 (fP (a_ I) >>= _) _ _ s;refine ab (Wk.done s _ _ st λs' m=>(show aD _ A.in1 (ret cj) _ _ s' from ae (hR s' (m.mono up) (hS.at λo e=>m.heap z o hw e))))
 |succ k ih=>
  intro i s hk hi st hS hR;have lt:i<n:=by lia
  refine dJ (by exact l_) ?_;rw[cU (by exact gM) _];show aD _ A.in1 (fP (a_ I) >>= _) _ _ s;refine ab (Wk.item i s _ _ lt st λv s1 hP Cd m=>?_);obtain⟨t,rfl⟩:=sP i v hP;have vW:SetI w s1.heap z (firstMet val i):=hS.at λo e=>m.heap z o hw e
  show aD _ A.in1 (nG [jo (val i) t] (setAdd z (.int (val i) t)) >>= λ_=>_) _ _ s1;refine ab (bK ?_);unfold setAdd;refine bK (ab ((cQ prog w).pyHash (k:=val i) (by exact oG _ _ _ _) ?_));have rm:(firstMet val i).length+1<jk:=by have:=firstMet_length_le val i;lia
  refine add_int (sh:={s1 with toks:=s1.toks+1}) (ms:=firstMet val i) vW rm λb h' sb vV=>?_
  rw[<-firstMet_succ]at vV;refine ae ⟨eY (by exact gM) _,ih (i+1) _ (by lia) lt (Wk.frame _ s1 _ _ Cd (gx _) λc hc o e=>?_) vV λs2 m2 zm=>?_⟩
  ·rw[sb.2 c (λx:c=z=>hz (x▸hc))];exact e
  ·refine hR s2 (Moved.trans Wk.gtrans ((m.mono up).then_heap (gx _) λc o hc e=>?_) m2) zm;rw[sb.2 c (λx:c=z=>hc (x▸aj))];exact e
def a3I(w:bO):fD:={cls:=.type "set",dict:=el,data:=.set #[] 0 (.fresh 0 0 (!w.params.followText "set-order"))}
def b2l(w:bO):a2N w (a3I w) #[] 0 (.fresh 0 0 (!w.params.followText "set-order")) []:=⟨⟨rfl,rfl,rfl⟩,rfl,rfl,il,rfl,by decide,λe he=>by simp at he,ik _⟩
def b4v(a:ai)(h:Q (.ref sh.heap.objs.size) {sh with heap:=sh.heap.push (a3I w)}) :
  gH (aT prog w) A (.call (.builtin "set.__new__") ⟨[.type "set",a],[]⟩) (wants Q E) sh:=by
 refine codeAny_of_tree (show aD _ A.in1 (checkBuiltinCall "set.__new__" ⟨[.type "set",a],[]⟩ >>= λ_=>again (.builtin "set.__new__" ⟨[.type "set",a],[]⟩)) _ _ sh from ?_);refine ab (rU (by exact F.newCall_set_1 a) (ae ⟨eY (by exact F.plain_set_new) _,dJ (by exact F.entry_set_new) ?_⟩));rw[cU (by exact F.plain_set_new) _];unfold Builtin.«set.__new__»;unfold Builtin.Frozenset.newClass;have jm:=@sub_set_self;obtain⟨hp,g,d,tk,os⟩:=sh
 dsimp only
 wp_walk
 refine qT (ae (by
  dsimp only
  simp only[newObj];exact ab (wpAny_alloc (ae (ae h)))))
end
end VS
namespace VS
open PySem PySem.Spec L2
open PyProof.Rows (firstMet IntsAre)
section
variable {prog:bw}{w:bO}{A:bC}{E:ai->ar->Prop}{sh:ar}
def a9W(hh:A.handled=el)(hl:sh.heap.IsList l items)(hi:IntsAre items.toList ns)(hb:items.size+1<jk)
  (h:∀(h':bR) (tk:Nat),SetI w h' sh.heap.objs.size (firstMet (λi=>ns.getD i 0) items.size)->(∀b o,sh.heap.get? b=cz o->h'.get? b=cz o)->Q (.ref sh.heap.objs.size) {sh with heap:=h',toks:=tk}) :
  aD (aT prog w) A (call (.type "set") [.ref l]) Q E sh:=by
 obtain⟨cl,tl,DD⟩:=(by exact hW.mro);have g1:=(by exact hW.made);have g2:=(by exact hW.sub);refine uH (codeAny_of_tree (show aD _ _ (callAny (.type "set") _) _ _ _ from ?_));refine ae ⟨Code.quiet_builtin _ (by decide +kernel),dJ (by exact F.entry_type_call) ?_⟩;rw[bC.under_plain (by exact weight_type_call_type "set" [.ref l] []) rfl];have g3:=(by exact hW.notType);have g4:=(by exact hW.canCreate);have g5:=(by exact F.typeCall_set_1 (.ref l))
 repeat (any_goals first|assumption|wp_step)
 refine fG (b4v (.ref l) (E:=E) (Q:=λv s1=>v=.ref sh.heap.objs.size/\s1={sh with heap:=sh.heap.push (a3I w)}) ⟨rfl,rfl⟩) λr s1 hr=>?_
 cases r with
 |error e=>exact hr
 |ok fl=>
  cases fl with
  |ret v=>
   obtain⟨rfl,rfl⟩:=hr;have hS:(sh.heap.push (a3I w)).get? sh.heap.objs.size=cz (a3I w):=aE _ rfl;have hT:kT {sh with heap:=sh.heap.push (a3I w)} (.ref sh.heap.objs.size) "set":=⟨_,hS,rfl⟩;have g6:=(by exact hW.init.lookup);have g7:=(by exact hW.init.bind (.ref sh.heap.objs.size))
   repeat (any_goals first|assumption|wp_step)
   refine fG (codeAny_call_builtin (R:=wants (λr s2=>r=.none/\∃h' tk,s2={sh with heap:=h',toks:=tk}/\SetI w h' sh.heap.objs.size (firstMet (λi=>ns.getD i 0) items.size)/\(∀b o,sh.heap.get? b=cz o->h'.get? b=cz o)) E) (by exact hW.init.plain) (by exact F.entry_set_init) (check_set_init_1 hT ?_)) λr2 s2 yt=>?_
   ·obtain⟨ol,Ay,tH,nl,xf⟩:=hl;obtain⟨oc,od,FU,os⟩:=ol;simp only at tH xf;subst tH;subst xf;have yA:(sh.heap.push (a3I w)).get? l=cz {cls:=.type "list",dict:=od,data:=.seq items nl,slots:=os}:=ag _ Ay;have k1:=(by exact F.sub_list_set);have k2:=(by exact F.sub_list_frozenset);have k3:(dS "list" == dS "dict")=rp:=by decide +kernel
    have si:(sh.heap.push (a3I w)).IsList l items:=⟨_,yA,rfl,nl,rfl⟩;unfold Builtin.«set.__init__» noKeywords;unfold Builtin.Frozenset.updateFrom;generalize EG:qY=PI
    wp_walk
    subst EG;refine pE si (ab (mO ?_));have lt:l<sh.heap.objs.size:=aF Ay;have DU:A.in1.in1.in1.handled=el:=by simp[hh]
    have ne:l≠(sh.heap.push (a3I w)).objs.size:=by rw[cH];exact ba (gf lt)
    have nf:sh.heap.objs.size∉[(sh.heap.push (a3I w)).objs.size,l]:=by
     rw[cH];simp only[aC,cu,or_false,not_or];exact⟨ba (ka _),ee lt⟩
    have hv:∀(i:Nat) (v:ai),items[i]?=cz v->∃t,v=.int ((λi=>ns.getD i 0) i) t:=λi v e=>hi.int_at i v (by rw[bX];exact e)
    refine b2k ((Walks.list DU _ l ne items).toS) sh.heap.objs.size nf (λi=>ns.getD i 0) hv hb (items.size-0) 0 _ rfl (b_ _) ⟨⟨_,aE _ rfl,rfl,rfl⟩,si.push _⟩ ⟨_,_,_,_,ag _ hS,b2l w⟩ λs' m mD=>?_
    obtain⟨h',g',d',wH,xU⟩:=s';have e1:g'=sh.gens:=m.gens;have e2:d'=sh.drawn:=m.drawn;have e3:xU=sh.os:=m.os;subst e1 e2 e3;show aD _ _ _ _ _ _;refine ae (show aD _ _ (ret cj) _ _ _ from ae ⟨rfl,h',wH,rfl,mD,λb o e=>?_⟩);have lb:=aF e;refine m.heap b o ?_ (ag _ (ag _ e));simp only[aC,cu,or_false,not_or,cH];exact⟨ba lb,ba (gf lb)⟩
   ·cases r2 with
    |error e=>exact yt
    |ok EX=>
     cases EX with
     |ret r=>
      obtain⟨rfl,h',tk,rfl,mD,qH⟩:=yt
      repeat (any_goals first|assumption|wp_step)
      exact h _ _ mD qH
     |_=>exact yt.elim
  |_=>exact hr.elim
end
end VS
namespace PySem.F
def entry_set_iterA:wj table "set.__iter__"=cz Builtin.«frozenset.__iter__»:=wg (id':="frozenset.__iter__") (by kernel_rfl) rfl (by decide +kernel) (by kernel_rfl)
def slot_sit_next:Slot "set_iterator" "__next__" "set_iterator.__next__":=Slot.of (owner:="set_iterator") (n:="__next__") (by rw[me,jd];kernel_rfl) (by decide +kernel) (by decide +kernel) (by decide +kernel) (by first|exact .inl (by decide +kernel)|exact .inr (by decide +kernel)) (by rw[mT];kernel_rfl)
def entry_sit_next:wj table "set_iterator.__next__"=cz Builtin.«set_iterator.__next__»:=entryFor_of_tree (by kernel_rfl)
def a4o:Manifest.owners.lookup (String.ofList ['r','o','t','a','r','e','t','i','_','t','e','s'].reverse)=cz Manifest.sig_set_iterator:=by kernel_rfl
def args_sit_next(a:ai):argsOk "set_iterator.__next__" ⟨[a],[]⟩:=by
 unfold argsOk;rw[signature?_of (id:="set_iterator.__next__") (n:=['_','_','t','x','e','n','_','_']) (o:=['r','o','t','a','r','e','t','i','_','t','e','s']) (by kernel_rfl) (by exact a4o)];kernel_rfl
def slot_sit_iter:Slot "set_iterator" "__iter__" "set_iterator.__iter__":=Slot.of (owner:="set_iterator") (n:="__iter__") (by rw[me,jd];kernel_rfl) (by decide +kernel) (by decide +kernel) (by decide +kernel) (by first|exact .inl (by decide +kernel)|exact .inr (by decide +kernel)) (by rw[mT];kernel_rfl)
def args_sit_iter(a:ai):argsOk "set_iterator.__iter__" ⟨[a],[]⟩:=by
 unfold argsOk;rw[signature?_of (id:="set_iterator.__iter__") (n:=['_','_','r','e','t','i','_','_']) (o:=['r','o','t','a','r','e','t','i','_','t','e','s']) (by kernel_rfl) (by exact a4o)];kernel_rfl
def entry_sit_iter:wj table "set_iterator.__iter__"=cz Builtin.«dict_keyiterator.__iter__»:=wg (id':="dict_keyiterator.__iter__") (by kernel_rfl) rfl (by decide +kernel) (by kernel_rfl)
end PySem.F
namespace VS
open PySem PySem.Spec L2
theorem a0g:∀{l:List α} {i:Nat} (h:i<l.length),(l[i]::l.eraseIdx i).Perm l
 |a::l,0,_=>by simp
 |a::l,i+1,h=>by
  have h':i<l.length:=by simpa using h
  simp only[List.getElem_cons_succ,sH];exact (List.Perm.swap a l[i] _).trans (List.Perm.cons a (a0g h'))
section
variable {M:Model}{A:bC}{E:ai->ar->Prop}{sh:ar}
def a7y(hn:n≠0)(q:∀i d,i<n->Q i {sh with drawn:=d}):aD M A (choose src n) Q E sh:=λΓ p hΓ=>by
 show Sem.wp M Γ (.choose src n .pure) _ _ p sh;rw[Sem.wp_choose];exact⟨hn,by simpa using q _ _ (Nat.mod_lt _ (Nat.pos_of_ne_zero hn))⟩
def b2m:∀(n:Nat) (xs:List α) (sh:ar) (Q:List α->ar->Prop),n=xs.length->(∀ys d,ys.Perm xs->Q ys {sh with drawn:=d})->aD M A (drawOrder n xs) Q E sh:=by
 intro n
 induction n with
 |zero=>
  intro xs sh Q e q;cases xs with
  |nil=>exact ae (q [] sh.drawn (ik _))
  |cons _ _=>cases e
 |succ n ih=>
  intro xs sh Q e q;cases xs with
  |nil=>cases e
  |cons x xs=>
   rw[drawOrder];refine ab (a7y (by simp) λi d hi=>?_)
   ·rw[au hi]
    dsimp only
    refine ab (ih _ _ _ (by rw[wC,aG hi];simp only[bB]at e ⊢;lia) λys d' hp=>?_);exact ae (q _ _ (by
     refine (List.Perm.cons _ hp).trans ?_;exact a0g hi))
   ·simp
def b4w(next:Nat->Nat):∀(f k:Nat) (left:List α) (out:Array α),f=left.length->(Cs next f k left out).toList.Perm (out.toList++left):=by
 intro f
 induction f with
 |zero=>
  intro k left out e;cases left with
  |nil=>simp[Cs]
  |cons _ _=>cases e
 |succ f ih=>
  intro k left out e;have h0:0<left.length:=by lia
  have hm:next k % left.length<left.length:=Nat.mod_lt _ h0;rw[Cs,au hm]
  dsimp only
  refine (ih _ _ _ (by rw[wC,aG hm];lia)).trans ?_;rw[BM,be];exact uC _ (a0g hm)
def a9X(next:Nat->Nat)(xs:Array α):(lh next xs).toList.Perm xs.toList:=by
 have:=b4w next xs.size 0 xs.toList #[] (by simp);simpa[lh]using this
end
def SIt(h:bR)(it:av)(first:ai)(i:Nat)(z:av)(n ep:Nat):Prop:=∃o,h.get? it=cz o/\o.cls=.type "set_iterator"/\o.data=.fields #[first,.int i 0,.ref z,.int n 0,.int ep 0]
section
variable {prog:bw}{w:bO}{A:bC}{E:ai->ar->Prop}{sh:ar}{it z:av}{first:ai}{i n ep:Nat}{o:fD}{es:Array (Int×ai)}{t:gq}{ms:Prop}
def SIt.at{h h':bR}(x:SIt h it first i z n ep)(k:∀o,h.get? it=cz o->h'.get? it=cz o):SIt h' it first i z n ep:=let⟨o,e,r⟩:=x;⟨o,k _ e,r⟩
def SIt.typ(x:SIt sh.heap it first i z n ep):sh.TypeIs (.ref it) "set_iterator":=let⟨o,e,r,_⟩:=x;⟨o,e,r⟩
def SIt.put{h:bR}(hx:∃o,h.get? it=cz o/\o.cls=.type "set_iterator"/\o.data=.fields vs):∃o,(h.update it (zH (·.setIfInBounds j x))).get? it=cz o/\o.cls=.type "set_iterator"/\o.data=.fields (vs.setIfInBounds j x):=
 let⟨o,e,c,d⟩:=hx;⟨_,bS _ e (mG (gi d _)),(qC ..).trans c,gi d _⟩
def T5(q:Q (w.params.followText "set-order") sh):aD (aT prog w) A setsByText Q E sh:=by
 unfold setsByText;exact ab (qT (ae q))
def a6f(ho:sh.heap.get? z=cz o)(r:D5 w o es ep t ms)(nU:w.params.followText "set-order"=rp)(hp:t.plain=p4\/es.size<=1)(ll:eH t.place sl=i)
  (q:(∀h:i<es.size,∀nx,eH t.place nx=i+1->Q (cz (es[i].2,nx)) sh)/\(¬ i<es.size->Q el sh)):aD (aT prog w) A (ua z sl k qK) Q E sh:=by
 obtain⟨_,hd,hf,hu,hl,hb,he⟩:=id r;unfold ua;refine ab (gF ho hd hf (ab (T5 ?_)));rw[nU,aL aS];have vL:¬ (!t.plain&&decide (es.size>1))=p4:=by
  rcases hp with c|c
  ·simp[c]
  ·simp;lia
 dsimp only
 refine d_ (λc=>absurd c vL) λ_=>?_
 refine ab (show aD _ _ (if (!t.led&&!es.isEmpty)=p4 then _ else _) _ _ _ from ?_);rw[aL (by rw[hl,nU];simp)];refine ae ?_;have se:t.place.size=es.size:=by simp only[gq.fits,aw,kn]at hf;exact hf.1
 rw[ll];by_cases c:i<es.size
 ·have c':i<t.place.size:=by lia
  rw[bN c,bN c'];refine ae (q.1 c _ ?_);have:=a7x hu (i:=i) (by simpa using c');simpa using this
 ·rw[eN (by lia)];exact ae (q.2 c)
def a8C(ho:sh.heap.get? z=cz o)(r:D5 w o es ep t ms)(nU:w.params.followText "set-order"=p4)
  (q:Q ((lh (w.params.setOrder z ep) es)[k]?.map λe=>(e.2,sl)) sh):aD (aT prog w) A (ua z sl k ep) Q E sh:=by
 obtain⟨_,hd,hf,_⟩:=id r;unfold ua;refine ab (gF ho hd hf (ab (T5 ?_)));rw[nU,aG rfl];rw[aL (by simp)];refine ab ?_;unfold setWalk;refine ab (gF ho hd hf (ab (T5 ?_)));rw[nU,aG rfl];exact ab (qT (ae (ae q)))
def a6g{v:ai}{Φ:Nat->Prop}{Q:Option ai->ar->Prop}(hI:SIt sh.heap it first i z es.size ep)(ho:sh.heap.get? z=cz o)(r:D5 w o es ep t ms){sl:Nat}(yX:first=.int sl 0)
  (hn:∀(A':bC) (E':ai->ar->Prop) (Q':Option (ai×Nat)->ar->Prop),(∀nx,Φ nx->Q' (cz (v,nx)) sh)->aD (aT prog w) A' (ua z sl i ep) Q' E' sh)
  (q:∀nx h',Φ nx->SIt h' it (.int nx 0) (i+1) z es.size ep->cD it sh.heap h'->Q (cz v) {sh with heap:=h'}):aD (aT prog w) A (fP (.ref it)) Q E sh:=by
 subst yX;obtain⟨x,hx,rg,lN⟩:=id hI;obtain⟨_,hd,hf,_⟩:=id r;unfold fP;refine ab (gB (bI (name:=cf "__next__") hI.typ F.slot_sit_next (bD F.slot_sit_next hI.typ F.entry_sit_next ?_ (F.args_sit_next _))));unfold Builtin.«set_iterator.__next__»;refine ab (m:=uO "__next__" 0 _) (ae ?_);refine ab (iK hx lN ?_)
 dsimp only
 refine ab (ib ho hd hf ?_);rw[aL (by simp)];simp only[bE];refine ab (hn _ _ _ λnx e=>?_)
 dsimp only
 refine ab (eA hx lN (by simp) ?_);obtain⟨x1,ue,AU,uq⟩:=SIt.put (it:=it) (x:=cV (nx:Nat)) (j:=0) ⟨x,hx,rg,lN⟩;refine ab (eA ue uq (by simp) ?_);obtain⟨x2,vc,ml,hd2⟩:=SIt.put (it:=it) (x:=cV ((i:Int)+1)) (j:=1) ⟨x1,ue,AU,uq⟩;refine ae ⟨_,rfl,ae (q nx _ e ⟨x2,vc,ml,?_⟩ ((bP ..).trans (bP ..)))⟩;rw[hd2];simp[cV]
def a6h(hh:A.handled=el)(q:∀h',(∀b o,sh.heap.get? b=cz o->h'.get? b=cz o)->Q el {sh with heap:=h'}) :
  aD (aT prog w) A.in1 (CB (.type "StopIteration") [] >>= λe=>(raiseNew e:Sem PySem.Fin)) (λfin s'=>∃v,fin=Fin.done (Flow.ret v)/\aD (aT prog w) A (pure (cz v)) Q E s') (λe s'=>aD (aT prog w) A (isInstance e (dS "StopIteration") >>= λb=>if b=p4 then pure el else throw e) Q E s') sh:=by
 refine ab ?_;simp only[CB,newTuple];refine ab (de ?_ (by size_fits));refine ab (m:=iM _ _) (rU (a:=cj) (by first|rfl|(simp only[iM];rfl)) ?_);refine de ?_ (by size_fits);simp only[raiseNew];refine ab (xK ?_);rw[show A.in1.handled=el from hh];refine ab (ae (wpAny_throw ?_));refine ab (ff (b:=p4) (T:="StopIteration") ⟨_,aE _ rfl,rfl⟩ uX ?_);exact ae (q _ λb o e=>ag _ (ag _ e))
def a8D{Q:Option ai->ar->Prop}(hh:A.handled=el)(hI:SIt sh.heap it first i z es.size ep)(ho:sh.heap.get? z=cz o)(r:D5 w o es ep t ms){sl:Nat}(yX:first=.int sl 0)
  (hn:∀(A':bC) (E':ai->ar->Prop) (Q':Option (ai×Nat)->ar->Prop),Q' el sh->aD (aT prog w) A' (ua z sl i ep) Q' E' sh)
  (q:∀h',sI it sh.heap h'->Q el {sh with heap:=h'}):aD (aT prog w) A (fP (.ref it)) Q E sh:=by
 subst yX;obtain⟨x,hx,rg,lN⟩:=id hI;obtain⟨_,hd,hf,_⟩:=id r;unfold fP;refine ab (gB (bI (name:=cf "__next__") hI.typ F.slot_sit_next (bD F.slot_sit_next hI.typ F.entry_sit_next ?_ (F.args_sit_next _))));unfold Builtin.«set_iterator.__next__»;refine ab (m:=uO "__next__" 0 _) (ae ?_);refine ab (iK hx lN ?_)
 dsimp only
 refine ab (ib ho hd hf ?_);rw[aL (by simp)];simp only[bE];refine ab (hn _ _ _ ?_)
 dsimp only
 refine ab (eA hx lN (by simp) ?_);exact a6h hh λh' k=>q h' λb o hb e=>k b o ((bP ..).extBut b o hb e)
def a9Y{ps:List Nat}(hI:SIt sh.heap it (.ref tp) i z es.size ep)(ho:sh.heap.get? z=cz o)(r:D5 w o es ep t ms)(ht:sh.heap.get? tp=cz {cls:=.type "tuple",data:=.seq (ps.map λi=>cV (i:Nat)).toArray})(hp:ps[i]?=cz p)(gG:p<es.size)
  (q:∀h',SIt h' it (.ref tp) (i+1) z es.size ep->cD it sh.heap h'->Q (cz es[p].2) {sh with heap:=h'}):aD (aT prog w) A (fP (.ref it)) Q E sh:=by
 obtain⟨x,hx,rg,lN⟩:=id hI;obtain⟨_,hd,hf,_⟩:=id r;unfold fP;refine ab (gB (bI (name:=cf "__next__") hI.typ F.slot_sit_next (bD F.slot_sit_next hI.typ F.entry_sit_next ?_ (F.args_sit_next _))));unfold Builtin.«set_iterator.__next__»;refine ab (m:=uO "__next__" 0 _) (ae ?_);refine ab (iK hx lN ?_)
 dsimp only
 refine ab (ib ho hd hf ?_);rw[aL (by simp)];simp only[bE];refine ab ?_;unfold zR;refine ab (lQ ht ?_);refine ae ?_;have e1:(ps.map λi=>cV (i:Nat)).toArray[i]?=cz (cV (p:Nat)):=by rw[uy,aX,hp];rfl
 dsimp only
 rw[e1];show aD _ _ (setNextDrawn z (p:Int).toNat ep >>= λx=>setField (.ref it) 1 (cV ((i:Int)+1)) >>= λ_=>ret x) _ _ _;refine ab ?_;unfold setNextDrawn;refine ab (gF ho hd hf ?_)
 dsimp only
 rw[aL (by simp),bE,bN gG];refine ab (ae (ae ?_));refine ab (eA hx lN (by simp) ?_);obtain⟨x2,vc,ml,hd2⟩:=SIt.put (it:=it) (x:=cV ((i:Int)+1)) (j:=1) ⟨x,hx,rg,lN⟩;refine ae ⟨_,rfl,ae (q _ ⟨x2,vc,ml,?_⟩ (bP ..))⟩;rw[hd2];simp[cV]
def a5f{ps:List Nat}(hh:A.handled=el)(hI:SIt sh.heap it (.ref tp) i z es.size ep)(ho:sh.heap.get? z=cz o)(r:D5 w o es ep t ms)(ht:sh.heap.get? tp=cz {cls:=.type "tuple",data:=.seq (ps.map λi=>cV (i:Nat)).toArray})(hp:ps[i]?=el)
  (q:∀h',sI it sh.heap h'->Q el {sh with heap:=h'}):aD (aT prog w) A (fP (.ref it)) Q E sh:=by
 obtain⟨x,hx,rg,lN⟩:=id hI;obtain⟨_,hd,hf,_⟩:=id r;unfold fP;refine ab (gB (bI (name:=cf "__next__") hI.typ F.slot_sit_next (bD F.slot_sit_next hI.typ F.entry_sit_next ?_ (F.args_sit_next _))));unfold Builtin.«set_iterator.__next__»;refine ab (m:=uO "__next__" 0 _) (ae ?_);refine ab (iK hx lN ?_)
 dsimp only
 refine ab (ib ho hd hf ?_);rw[aL (by simp)];simp only[bE];refine ab ?_;unfold zR;refine ab (lQ ht (ae ?_));have e1:(ps.map λi=>cV (i:Nat)).toArray[i]?=el:=by rw[uy,aX,hp];rfl
 dsimp only
 rw[e1]
 dsimp only
 refine ab (eA hx lN (by simp) ?_);obtain⟨x1,ue,AU,uq⟩:=SIt.put (it:=it) (x:=cV 0) (j:=0) ⟨x,hx,rg,lN⟩;refine ab (eA ue uq (by simp) ?_);exact a6h hh λh' k=>q h' λb o hb e=>k b o (((bP ..).trans (bP ..)).extBut b o hb e)
def a2O(hI:SIt sh.heap it first i z n ep)(q:Q (.ref it) sh):aD (aT prog w) A (qY (.ref it)) Q E sh:=
 pD hI.typ F.slot_sit_iter (bD F.slot_sit_iter hI.typ F.entry_sit_iter (show aD _ _ (ret (.ref it)) _ _ sh from ae ⟨_,rfl,"set_iterator",_,hI.typ,F.slot_sit_next.lookup,q⟩) (F.args_sit_iter _))
end
section
variable {prog:bw}{w:bO}{A:bC}{E:ai->ar->Prop}{sh:ar}{it z tp:av}{ep:Nat}{o:fD}{es:Array (Int×ai)}{t:gq}{ms:Prop}
def b2n(hh:A.handled=el)(r:D5 w o es ep t ms)(nU:w.params.followText "set-order"=rp)(hp:t.plain=p4\/es.size<=1)(ne:z≠it) :
  lH prog w A it [it,z] [it] (es.toList.map (·.2)).length (λi v=>(es.toList.map (·.2))[i]?=cz v) (λi h=>(∃sl:Nat,SIt h it (.int sl 0) i z es.size ep/\eH t.place sl=i)/\h.get? z=cz o) where
 sub:=λb hb=>aC.mpr (.inl (ao.mp hb))
 frame:=λ_ _ _ st k=>let⟨⟨sl,a,b⟩,c⟩:=st;⟨⟨sl,a.at λo e=>k it aj o e,b⟩,k z (ak _ aj) _ c⟩
 item:=λi s Q E hi st q=>by
  obtain⟨⟨sl,a,b⟩,c⟩:=st;have mC:i<es.size:=by simpa using hi
  exact a6g (Φ:=λnx=>eH t.place nx=i+1) (v:=es[i].2) a c r rfl (λA' E' Q' q'=>a6f c r nU hp b ⟨λh nx sY=>q' nx sY,λh=>absurd mC h⟩) λnx h' sY sv sb=>
   q _ h' s.toks (by rw[aX,bX,bN mC];rfl) ⟨⟨nx,sv,sY⟩,sb.extBut z o ne c⟩ λb o hb e=>sb.extBut b o (λy=>hb (by rw[y];exact ao.mpr rfl)) e
 done:=λs Q E st q=>by
  obtain⟨⟨sl,a,b⟩,c⟩:=st;refine a8D hh a c r rfl (λA' E' Q' q'=>a6f c r nU hp b ⟨λh=>absurd h (by simp),λ_=>q'⟩) λh' he=>q h' s.toks λb o hb e=>he b o (λy=>hb (by rw[y];exact ao.mpr rfl)) e
 self:=λ_ _ _ _ st q=>let⟨⟨_,a,_⟩,_⟩:=st;a2O a q
def b4x(hh:A.handled=el)(r:D5 w o es ep t ms)(nU:w.params.followText "set-order"=p4)(ne:z≠it) :
  lH prog w A it [it,z] [it] ((lh (w.params.setOrder z ep) es).toList.map (·.2)).length (λi v=>((lh (w.params.setOrder z ep) es).toList.map (·.2))[i]?=cz v) (λi h=>SIt h it (.int (0:Nat) 0) i z es.size ep/\h.get? z=cz o) where
 sub:=λb hb=>aC.mpr (.inl (ao.mp hb))
 frame:=λ_ _ _ st k=>let⟨a,c⟩:=st;⟨a.at λo e=>k it aj o e,k z (ak _ aj) _ c⟩
 item:=λi s Q E hi st q=>by
  obtain⟨a,c⟩:=st;have mC:i<(lh (w.params.setOrder z ep) es).size:=by simpa using hi
  exact a6g (Φ:=λnx=>nx=0) (v:=(lh (w.params.setOrder z ep) es)[i].2) a c r rfl (λA' E' Q' q'=>a8C c r nU (by rw[bN mC];exact q' 0 rfl)) λnx h' sY sv sb=>
   q _ h' s.toks (by rw[aX,bX,bN mC];rfl) ⟨sY▸sv,sb.extBut z o ne c⟩ λb o hb e=>sb.extBut b o (λy=>hb (by rw[y];exact ao.mpr rfl)) e
 done:=λs Q E st q=>by
  obtain⟨a,c⟩:=st;refine a8D hh a c r rfl (λA' E' Q' q'=>a8C c r nU (by rw[eN (by simp)];exact q')) λh' he=>q h' s.toks λb o hb e=>he b o (λy=>hb (by rw[y];exact ao.mpr rfl)) e
 self:=λ_ _ _ _ st q=>a2O st.1 q
def b2o{ps:List Nat}(hh:A.handled=el)(r:D5 w o es ep t ms)(se:∀p∈ps,p<es.size)(ne:z≠it)(ne2:tp≠it) :
  lH prog w A it [it,z,tp] [it] (ps.map λp=>(es.toList.map (·.2)).getD p .none).length (λi v=>(ps.map λp=>(es.toList.map (·.2)).getD p .none)[i]?=cz v) (λi h=>SIt h it (.ref tp) i z es.size ep/\h.get? z=cz o/\h.get? tp=cz {cls:=.type "tuple",data:=.seq (ps.map λi=>cV (i:Nat)).toArray}) where
 sub:=λb hb=>aC.mpr (.inl (ao.mp hb))
 frame:=λ_ _ _ st k=>let⟨a,c,d⟩:=st;⟨a.at λo e=>k it aj o e,k z (ak _ aj) _ c,k tp (ak _ (ak _ aj)) _ d⟩
 item:=λi s Q E hi st q=>by
  obtain⟨a,c,d⟩:=st;have mC:i<ps.length:=by simpa using hi
  have gG:=se _ (cW mC);exact a9Y (p:=ps[i]) a c r d (au mC) gG λh' sv sb=>
   q _ h' s.toks (by rw[aX,au mC,GK,aU,aX,bX,bN gG];rfl) ⟨sv,sb.extBut z o ne c,sb.extBut tp _ ne2 d⟩ λb o hb e=>sb.extBut b o (λy=>hb (by rw[y];exact ao.mpr rfl)) e
 done:=λs Q E st q=>by
  obtain⟨a,c,d⟩:=st;exact a5f hh a c r d (dU (by simp)) λh' he=>q h' s.toks λb o hb e=>he b o (λy=>hb (by rw[y];exact ao.mpr rfl)) e
 self:=λ_ _ _ _ st q=>a2O st.1 q
def b2p(ho:sh.heap.get? z=cz o)(r:D5 w o es ep t ms)
  (q:∀(it:av) (h':bR) (d:Drawn) (fp:List av) (St:Nat->bR->Prop) (ord:List ai),ord.Perm (es.toList.map (·.2))->(∀A':bC,A'.handled=el->lH prog w A' it fp [it] ord.length (λi v=>ord[i]?=cz v) St)->St 0 h'->sh.heap.objs.size<=it->(∀b∈fp,b=z\/sh.heap.objs.size<=b)->
   (∀b o,sh.heap.get? b=cz o->h'.get? b=cz o)->Q (.ref it) {sh with heap:=h',drawn:=d}):aD (aT prog w) A (qY (.ref z)) Q E sh:=by
 obtain⟨hex,hd,hf,hu,hl,hb,he⟩:=id r;have hT:sh.TypeIs (.ref z) "set":=⟨o,ho,hex.1⟩;have lz:=aF ho;refine pD hT F.slot_set_iter (bD F.slot_set_iter hT F.entry_set_iterA ?_ (F.args_set_iter_1 _));unfold Builtin.«frozenset.__iter__» Builtin.Frozenset.slot0;refine ab (m:=uO "__iter__" 0 _ >>= _) (ab (ae (show aD _ _ (pure z) _ _ _ from ae ?_)));unfold Builtin.Frozenset.sizeOf;refine ab (ab (ib ho hd hf (ae ?_)));unfold setDrawn;refine ab (ab (gF ho hd hf (ab (T5 (ae ?_)))))
 dsimp only
 have tail:∀(first:ai) (t_:ar),t_.heap.get? z=cz o->(∀o1:fD,o1={cls:=.type "set_iterator",data:=.fields #[first,.int (0:Nat) 0,.ref z,.int es.size 0,.int ep 0]}->Q (.ref t_.heap.objs.size) {t_ with heap:=t_.heap.push o1})->
   aD (aT prog w) A.in1 (setEpoch z >>= λe=>newFields "set_iterator" [first,cV 0,.ref z,cV es.size,cV e] >>= λv=>ret v) (λfin s'=>∃v,fin=Fin.done (Flow.ret v)/\∃T' r,s'.TypeIs v T'/\oA (dS T') (cf "__next__")=pure (cz r)/\Q v s') E t_:=λfirst t_ h1 q1=>by
  refine ab (wpAny_setEpoch_of h1 hd hf ?_);unfold newFields;refine ab (de (ae ⟨_,rfl,"set_iterator",_,⟨_,aE _ rfl,rfl⟩,F.slot_sit_next.lookup,?_⟩));exact q1 _ (by simp[cV])
 refine d_ (λc=>?_) λc=>?_
 ·rw[aw]at c;refine ab (b2m _ _ _ _ (by simp) λps d hp=>?_);have kj:∀p∈ps,p<es.size:=λp h=>cg.mp (hp.mem_iff.mp h)
  refine ab (uG ?_ (by rw[ah,hp.length_eq,fw];exact kJ hb));refine tail _ _ (ag _ ho) λo1 e1=>?_
  refine q _ _ d [(sh.heap.push {cls:=.type "tuple",data:=.seq (ps.map λi=>cV (i:Nat)).toArray}).objs.size,z,sh.heap.objs.size] _ _ ?_ (λA' hA=>b2o (ps:=ps) (tp:=sh.heap.objs.size) hA r kj ?_ ?_) ⟨⟨o1,aE _ (by rw[e1];rfl),by rw[e1],by rw[e1]⟩,ag _ (ag _ ho),ag _ (aE _ rfl)⟩ ?_ ?_ λb o e=>ag _ (ag _ e)
  ·exact a3H (l:=es.toList.map (·.2)) (by simpa using hp)
  ·rw[cH];exact ba (gf lz)
  ·rw[cH];exact ba (ka _)
  ·rw[cH];exact gx _
  ·intro b jK;rw[cH]at jK;simp only[aC,cu,or_false]at jK;rcases jK with rfl|rfl|rfl
   ·exact .inr (gx _)
   ·exact .inl rfl
   ·exact .inr (aB _)
 ·refine ab (ae (tail _ _ ho λo1 e1=>?_));have sk:∀b∈[sh.heap.objs.size,z],b=z\/sh.heap.objs.size<=b:=by
   intro b jK;simp only[aC,cu,or_false]at jK;rcases jK with rfl|rfl
   ·exact .inr (aB _)
   ·exact .inl rfl
  have hI:SIt (sh.heap.push o1) sh.heap.objs.size (.int (0:Nat) 0) 0 z es.size ep:=⟨o1,aE _ (by rw[e1];rfl),by rw[e1],by rw[e1];rfl⟩;have sN:(sh.heap.push o1).get? z=cz o:=ag _ ho;cases nU:w.params.followText "set-order" with
  |true=>
   exact q _ _ sh.drawn [sh.heap.objs.size,z] _ _ ((a9X _ es).map _) (λA' hA=>b4x hA r nU (ba lz)) ⟨hI,sN⟩ (aB _) sk λb o e=>ag _ e
  |false=>
   have fV:t.plain=p4\/es.size<=1:=by
    rw[nU]at c;have c':¬ (!t.plain&&decide (es.size>1))=p4:=λz=>c (show (!false&&(!t.plain&&decide (es.size>1)))=p4 from by rw[z];rfl)
    cases h:t.plain with
    |true=>exact .inl rfl
    |false=>
     rw[h]at c';simp at c';exact .inr (by lia)
   exact q _ _ sh.drawn [sh.heap.objs.size,z] _ _ (ik _) (λA' hA=>b2n hA r nU fV (ba lz)) ⟨⟨0,hI,a7w hu⟩,sN⟩ (aB _) sk λb o e=>ag _ e
def b2q(hT:sh.TypeIs (.ref z) "set")(h:Q rp sh):aD (aT prog w) A (gK (.ref z)) Q E sh:=by
 unfold gK;refine ab (du hT (by exact PySem.F.slot_set_len.lookup) ?_);generalize AK:("set.__len__":String)=CP
 wp_delta
 rw[show splitId CP=cz ("set","__len__") from by subst AK;decide +kernel];subst AK;refine ab (ff (T:="set") (b:=p4) hT (by rw[mT];kernel_rfl) (d_ (λy=>absurd y (by decide)) λ_=>d_ (λ_=>?_) λy=>absurd (by decide +kernel) y));exact ab (gY hT (ae h))
end
end VS
namespace VS
open PySem PySem.Spec L2
section
variable {prog:bw}{w:bO}{A:bC}{E:ai->ar->Prop}{sh:ar}{z:av}{ep:Nat}{o:fD}{es:Array (Int×ai)}{t:gq}{ms:Prop}
def a6i(hh:A.handled=el)(ho:sh.heap.get? z=cz o)(r:D5 w o es ep t ms)
  (q:∀(vs:List ai) (h':bR) (tk:Nat) (d:Drawn),vs.Perm (es.toList.map (·.2))->Kept sh.heap h'->sh.heap.objs.size<=h'.objs.size->Q vs {sh with heap:=h',toks:=tk,drawn:=d}):aD (aT prog w) A (collect (.ref z)) Q E sh:=by
 have lz:=aF ho
 let L:fD:={cls:=.type "list",data:=.seq #[]}
 have yd:(sh.heap.push L).get? z=cz o:=ag _ ho;have EA:kT {sh with heap:=sh.heap.push L} (.ref z) "set":=⟨o,yd,r.1.1⟩;have Ep:es.size<=aP:=kJ r.2.2.2.2.2.1
 let S:av:=sh.heap.objs.size
 have key:∀(it:av) (fp:List av) (St:Nat->bR->Prop) (ord:List ai) (d:Drawn) (W:∀A':bC,A'.handled=el->lH prog w A' it fp [it] ord.length (λi v=>ord[i]?=cz v) St),ord.Perm (es.toList.map (·.2))->S∉fp->sh.heap.objs.size<=it->
   ∀(h:bR) (c1 tk:Nat),St 0 h->(∀b o,b≠S->(sh.heap.push L).get? b=cz o->h.get? b=cz o)->h.get? S=cz {cls:=.type "list",data:=.seq #[] c1}->
   gH (aT prog w) A (.builtin "list.extend.loop" ⟨[.ref S,.ref it,.ref S],[]⟩) (λg s'=>∃(h':bR) (tk:Nat) (d:Drawn) (acc:Array ai) (c:Nat),g=.ok (.ret (.ref S))/\s'={sh with heap:=h',toks:=tk,drawn:=d}/\h'.get? S=cz {cls:=.type "list",dict:=el,data:=.seq acc c,slots:=#[]}/\Q acc.toList {sh with heap:=h',toks:=tk,drawn:=d}) {sh with heap:=h,toks:=tk,drawn:=d}:=by
  intro it fp St ord d W hp nf hit h c1 tk st k hS;have hn:ord.length<=aP:=by rw[hp.length_eq];simpa using Ep
  refine PySem.codeAny_extend_loopS (W A.in1 (by simpa using hh)).toS hn S nf (.ref S) ord.length 0 _ #[] c1 rfl (b_ _) st hS (ItemsOf.nil _) λs' acc c' m mD kl=>?_
  rw[Moved.eq_with m];refine⟨s'.heap,s'.toks,d,acc,c',rfl,rfl,mD,?_⟩;have e:acc.toList=ord:=by
   refine nz λi=>?_
   rw[bX];by_cases c:i<ord.length
   ·obtain⟨x,hx⟩:∃x,acc[i]?=cz x:=⟨_,bN (by rw[kl.1];exact c)⟩;rw[hx];exact (kl.2 i x hx).symm
   ·rw[eN (by rw[kl.1];lia),dU (by lia)]
  rw[e];refine q ord s'.heap s'.toks d hp (λb o x=>m.heap b o (λhm=>?_) (k b o (ba (aF x)) (ag _ x))) (dC (aF mD));have lb:=aF x;rcases aC.mp hm with e'|e'
  ·exact absurd (e'▸lb) (dg _)
  ·exact absurd lb (by rw[ao.mp e'];exact Nat.not_lt.mpr hit)
 unfold collect;refine ab (mO (dJ (by exact mM) ?_));rw[cU (by exact pA) _];show aD _ A.in1 (newList [] >>= λl=>again (.builtin "list.__iadd__" ⟨[l,.ref z],[]⟩)) _ _ sh;refine ab (de (ae ⟨eY (by exact hX) _,dJ (by exact ou) ?_⟩));rw[cU (by exact hX) _];show aD _ A.in1 (df (.ref S) (.ref z) (.ref S)) _ _ {sh with heap:=sh.heap.push L};have AZ:S≠z:=ee lz;unfold df;refine ab (gY (T:="set") EA ?_);have h1:ip (.ref S) (.ref z)=rp:=by simp[ip,AZ]
 simp only[h1,show (dS "set" == dS "list")=rp from by decide,show (dS "set" == dS "tuple")=rp from by decide,Bool.or_false,cP,fF];refine ab (b2p (sh:={sh with heap:=sh.heap.push L}) yd r λit h' d fp St ord hp W st hit sk k=>?_);have pS:sh.heap.objs.size<=it:=bV (by show _<=(sh.heap.push L).objs.size;rw[cH];exact gx _) hit;have nf:S∉fp:=λy=>by
  rcases sk S y with e|e
  ·exact AZ e
  ·have e':(sh.heap.push L).objs.size<=S:=e;rw[cH]at e';exact absurd e' (Nat.not_succ_le_self _)
 have vW:h'.get? S=cz {cls:=.type "list",data:=.seq #[] 0}:=k S _ (aE _ rfl);have sN:h'.get? z=cz o:=k z _ yd;have last:∀(h2:bR) (c1:Nat),St 0 h2->(∀b o,b≠S->(sh.heap.push L).get? b=cz o->h2.get? b=cz o)->h2.get? S=cz {cls:=.type "list",data:=.seq #[] c1}->_:=λh2 c1 a b c=>fG (key it fp St ord d W hp nf pS h2 c1 sh.toks a b c) (R':=λr s'=>match r with
       |Except.ok (Flow.ret v)=>aD (aT prog w) A (match v with|a_ a=>load a >>= λu=>(match u.data with|Data.seq xs _=>pure xs.toList|_=>rX "internal:collect")|_=>rX "internal:collect") Q E s'
       |Except.ok _=>False
       |Except.error e=>E e s') λg s2 y=>by
  obtain⟨h3,tk,d3,acc,c,rfl,rfl,e1,qq⟩:=y;show aD _ A (load S >>= _) _ _ _;exact ab (lQ e1 (ae qq))
 refine ab (bK (b2q ⟨o,sN,r.1.1⟩ ?_));refine d_ (λ_=>?_) (λ_=>ae ⟨eY (by exact qP) _,last h' 0 st (λb o _ e=>k b o e) vW⟩);refine ab (dQ (ab ?_));show aD _ _ (qU S (·.push .none) >>= λ_=>qU S (·.pop)) _ _ _;refine ab (jF vW rfl ?_);have vV:=bS (gR (·.push cj)) vW rfl;refine jF (hz:=by seq_fits) vV rfl ?_;have zm:=bS (gR (·.pop)) vV rfl;refine ae ⟨eY (by exact qP) _,last _ _ ?_ (λb o hb e=>?_) zm⟩
 ·exact (W A hh).frame 0 _ _ st λb hb o e=>by
   have AV:S≠b:=λy=>nf (by rw[y];exact hb)
   exact (dA _ _ AV).trans ((dA _ _ AV).trans e)
 ·exact (dA _ _ (dc hb)).trans ((dA _ _ (dc hb)).trans (k b o e))
end
end VS
namespace VS
open PySem PySem.Spec L2
open PyProof.Rows (slot_list_sort entry_list_sort args_list_sort kind_sorted plain_sorted entry_sorted args_sorted1 IntsAre)
section
variable {prog:bw}{w:bO}{A:bC}{E:ai->ar->Prop}{sh:ar}{z:av}{ep:Nat}{o:fD}{es:Array (Int×ai)}{t:gq}{ms:List Int}
def b4y(he:EI l ms){vs:List ai}(hp:vs.Perm (l.map (·.2))):(∀v∈vs,∃n tk,v=.int n tk)/\(vs.map iOf).Perm ms:=by
 refine⟨λv hv=>?_,(hp.map iOf).trans ?_⟩
 ·obtain⟨e,h1,rfl⟩:=aR.mp (hp.mem_iff.mp hv);obtain⟨n,tk,h2,_⟩:=he.1 e h1;exact⟨n,tk,h2⟩
 ·rw[bG];exact he.2
theorem a8E:∀{vs:List ai},(∀v∈vs,∃n tk,v=.int n tk)->IntsAre vs (vs.map iOf)
 |[],_=>.nil
 |v::vs,h=>by
  obtain⟨n,tk,rfl⟩:=h v aj;exact .cons n tk (a8E λx hx=>h x (ak _ hx))
def a7z(hh:A.handled=el)(ho:sh.heap.get? z=cz o)(r:a2N w o es ep t ms)(zr:ms.length<64)
  (q:∀(vs:List ai) (h':bR) (tk e:Nat) (d:Drawn) (y:av),IntsAre vs (srt ms)->Kept sh.heap h'->sh.heap.objs.size<=y->h'.get? y=cz (ub "list" vs.toArray e)->Q (.ref y) {sh with heap:=h',toks:=tk,drawn:=d}) :
  aD (aT prog w) A (call (.builtin "sorted") [.ref z]) Q E sh:=by
 refine kE kind_sorted plain_sorted entry_sorted (args_sorted1 _) ?_;unfold Builtin.«sorted»;refine ab (m:=checkCount "sorted" 1 1 _) (ae ?_);refine ab (a6i (A:=A.in1) (by simpa using hh) ho r λvs h1 tk d hp k1 z1=>?_);obtain⟨i1,i2⟩:=b4y r.2.2.2.2.2.2 hp;have hl:vs.length<64:=by have:=i2.length_eq;rw[ah]at this;lia
 refine ab (wpAny_newList ?_ (by rw[cM];lia));have oL:(h1.push (ub "list" vs.toArray 0)).get? h1.objs.size=cz (ub "list" vs.toArray 0):=aE _ rfl;refine ab (bK (bD slot_list_sort ⟨_,oL,rfl⟩ entry_list_sort (pC (s:={sh with heap:=h1.push (ub "list" vs.toArray 0),toks:=tk,drawn:=d}) oL (a8E i1) hl λout CA a1 a2 a3=>⟨_,rfl,?_⟩) (args_list_sort _)));obtain⟨e,ja⟩:=qB (out:=out) oL;refine ae ⟨_,rfl,q out.toList _ tk e d h1.objs.size ?_ (λb u hb=>?_) z1 (by rw[gA];exact ja)⟩
 ·rw[<-a5U (a2.trans i2) a3];exact a1
 ·have jK:=k1.push (ub "list" vs.toArray 0) b u hb;have:=aF hb;exact (pB (ba (bu (aF hb) z1)) (aF jK)).trans jK
end
section
variable {X:Cx}{M:List Md}{a:Expr}{fa:EvE}{ca:Cat}{pos gk p p2:eM}{pins:List (av×fD)}{Y:L2.St}{H:Hp}{s:ar}
def a9Z(I:Inv X pins Y H s)(d:Drawn):Inv X pins Y H {s with drawn:=d}:=⟨I.ok,I.os,I.bare,I.base,I.loc,I.cell,I.free,I.freeC,I.pin,I.hok,I.len⟩
def b0a(hc:X.calm=p4):CallR X (.type "set") (λxs H Q=>∃(p:av) (ns:List Int),xs=[.ref p]/\SqX X.K H p (ns.map V.int)/\ns.length<4000/\∀z,H z=el->Q (.ref z) (upd H z (.ext λh=>SetI X.w h z (dis ns)))):=by
 intro pins s Y H xs us Q I rv h;obtain⟨p,ns,rfl,hp,hn,q⟩:=h;obtain⟨u,rfl,rx⟩:=vals1 rv;cases (show u=a_ p from rx)
 obtain⟨_,cK,n,zT,ho⟩:=hp.ok I;have hl:s.heap.IsList p cK.toArray:=⟨_,ho,rfl,n,rfl⟩;have hlen:cK.length=ns.length:=by have:=zT.length;rw[ah]at this;exact this.symm
 refine a9W (ns:=ns) (I.ok.hd hc) hl (by simpa using a4f zT) (by rw[bo,hlen];unfold jk;lia) λh' tk hS hk=>?_
 have pU:H s.heap.objs.size=el:=I.hok.fresh (aB _);have hsz:cK.toArray.size=ns.length:=by rw[bo];exact hlen
 rw[hsz]at hS;exact⟨.ref s.heap.objs.size,_,I.laid (a:=s.heap.objs.size) (o:=.ext λh=>SetI X.w h s.heap.objs.size (dis ns)) (t':=tk) hk (aB _) ⟨hS,let⟨o,_,_,_,e,_⟩:=hS;⟨o,e⟩,λ_ _ x k=>x.at k⟩,rfl,q _ pU⟩
def a7A(hc:X.calm=p4):CallR X (.builtin "sorted") (λxs H Q=>∃p ms,xs=[V.ref p]/\H p=cz (.ext λh=>SetI X.w h p ms)/\ms.length<64/\∀z,H z=el->Q (.ref z) (upd H z (.lst ((srt ms).map V.int)))):=by
 intro pins s Y H xs us Q I rv h;obtain⟨p,ms,rfl,hH,zr,q⟩:=h;obtain⟨u,rfl,rx⟩:=vals1 rv;cases (show u=a_ p from rx)
 obtain⟨⟨o,es,ep,t,ho,r⟩,_,_⟩:=(show (SetI X.w s.heap p ms)/\_/\_ from I.hok p _ hH);refine a7z (I.ok.hd hc) ho r zr λvs h' tk e d y hi hk hy hl=>?_
 have hn:H y=el:=I.hok.fresh hy;have ll:((srt ms).map V.int).length<=aP:=by rw[ah,(o3 ms).length_eq,cM];lia
 exact⟨.ref y,_,a9Z (I.laid (a:=y) (o:=.lst ((srt ms).map V.int)) (t':=tk) hk hy ⟨ll,vs,e,vals_ints hi,hl⟩) d,rfl,q _ hn⟩
def a0J(a:EvE):EvE:=λU=>(a U).bind λd=>(asL d).bind λds=>(intsOf ds).bind λns=>if ns.length<64 then cz (.list ((srt (dis ns)).map .int)) else el
def b7w(ns:List Int):(dis ns).length<=ns.length:=PyProof.Rows.firstMet_length_le _ _
def a7B(hc:X.calm=p4)(hm:X.mg "set"=el)(DG:X.mg "sorted"=el)(ha:PX X M a fa ca)(hg:Gl X "set":=by rfl)(xc:Gl X "sorted":=by rfl)(he:ax [a] X.env=(rp,cy a X.env)::ax [] X.env:=by rfl)(fV:(cB gk (ax [] X.env)).any (·.1)=rp:=by rfl)
  (mi:ax [.Call (.Name "set" p2) [a] [] gk] X.env=(rp,cy (.Call (.Name "set" p2) [a] [] gk) X.env)::ax [] X.env:=by rfl) (nO:(cB pos (ax [] X.env)).any (·.1)=rp:=by rfl) :
  PX X M (.Call (.Name "sorted" p) [.Call (.Name "set" p2) [a] [] gk] [] pos) (a0J fa) (.new (.l .i)):=by
 obtain⟨ta,pa,qa⟩:=ha.out;refine .mk ⟨_,V3 (a7A hc) xc DG PyProof.Rows.Boot.«sorted» (m5 (E5 (b0a hc) hg hm PyProof.Rows.Boot.«set» (m5 pa s9 he) (by decide) (by decide) he fV) s9 mi) (by decide) (by decide) mi nO,λU Y H P F d Q S hf q=>?_⟩;obtain⟨x,h1,g1⟩:=bnd hf;obtain⟨ds,h2,g2⟩:=bnd g1;obtain⟨ns,h3,g3⟩:=bnd g2;cases N2 h2
 cases K0 h3
 by_cases c:ns.length<64
 ·rw[aG c]at g3;cases g3
  refine qa U Y H P F _ _ S h1 λv H1 e1 r1=>?_
  obtain⟨pp,xs,rfl,k1,k2⟩:=r1.den.list_inv;cases W5 k2
  refine⟨pp,ns,rfl,k1,by lia,λz hz=>⟨z,_,rfl,i4,by have:=b7w ns;lia,λy hy=>?_⟩⟩;have e2:=e1.trans (k6 hz (.ext λh=>SetI X.w h z (dis ns)));refine q _ _ (e2.trans (k6 hy _)) (M3 ?_ (b7j _) e2 hy (S.lst' e2));have:∀(H':Hp) (ms:List Int),DenAll X.K H' (ms.map V.int) (ms.map aJ):=by
   intro H' ms
   induction ms with
   |nil=>exact denAll_nil
   |cons n ms ih=>exact denAll_cons den_int ih
  exact this _ _
 ·rw[aL c]at g3;cases g3
end
end VS
namespace VS
open PySem PySem.Spec L2
section
variable {X:Cx}{M:List Md}{a b:Expr}{fa fb:EvE}{ca cb:Cat}{pos p:eM}
def b4z:OpR X (eF .Add) (λx y H Q=>∃a b ys,x=.ref a/\y=.ref b/\SqT X.K H a []/\SqT X.K H b ys/\Q (.ref b) H):=by
 intro pins s Y H x y v u Q I rx ry h;obtain⟨a,b,ys,rfl,rfl,ha,hb,q⟩:=h;cases rx
 cases ry
 obtain⟨cK,r1,p1,_⟩:=I.tuple ha;obtain⟨q_,r2,p2,_⟩:=I.tuple hb;cases r1
 obtain⟨⟨cls,dd,data,sl⟩,ho,hc,n,hd⟩:=id p1;obtain⟨⟨zC,xy,data2,wJ⟩,sX,ml,n2,hd2⟩:=id p2;simp only at hc hd ml hd2;subst hc hd ml hd2;exact Ft ⟨_,ho,rfl⟩ ⟨_,sX,rfl⟩ qZ xQ kz j_ (jR _ _) (PyProof.Rows.tuple_addW0 a b _ _ n n2 dd xy sl wJ (by simp)) ⟨ho,sX,⟨.ref b,H,I,rfl,q⟩⟩
def a0K:D->D->Option D
 |.tuple [],.tuple es=>R9 (.tuple es)
 |x,y=>b1I x y
def b4A(ha:PX X M a fa ca)(hb:PX X M b fb cb):PX X M (.BinOp a .Add b pos) (e2 a0K fa fb) (.new .i):=by
 obtain⟨ta,pa,qa⟩:=ha.out;obtain⟨tb,pb,qb⟩:=hb.out;have Cv:OpR X (eF .Add) (λx y H Q=>(∃a b ys,x=V.ref a/\y=V.ref b/\SqT X.K H a []/\SqT X.K H b ys/\Q (.ref b) H)\/b5t X.K x y H Q):=λpins s Y H x y v u Q I rx ry h=>h.elim (λh=>b4z pins s Y H x y v u Q I rx ry h) λh=>b3E pins s Y H x y v u Q I rx ry h
 refine .mk ⟨_,b0L Cv pa pb,λU Y H P F d Q S hf q=>?_⟩;obtain⟨x,y,h1,h2,h3⟩:=C0 hf;refine qa U Y H P F _ _ S h1 λv H1 e1 r1=>qb U Y H1 P F _ _ (S.grow e1) h2 λw H2 e2 r2=>?_
 by_cases c:∃es,x=.tuple []/\y=.tuple es
 ·obtain⟨es,rfl,rfl⟩:=c;obtain⟨rfl,hi⟩:=Q3 (show R9 (.tuple es)=cz d from h3);obtain⟨pp,xs,rfl,k1,k2⟩:=(r1.den.up e2).tup_inv;obtain⟨qq,ys,rfl,j1,j2⟩:=r2.den.tup_inv;cases k2.nil_inv
  exact .inl ⟨pp,qq,ys,rfl,rfl,k1,j1,q _ _ (e1.trans e2) (E6 hi (den_tup j1 j2) (S.lst' (e1.trans e2)))⟩
 ·have tP:b1I x y=cz d:=by
   unfold a0K at h3
   split at h3
   ·exact absurd ⟨_,rfl,rfl⟩ c
   ·exact h3
  obtain⟨ds,es,rfl,rfl,gC,hl,rfl,hi⟩:=a7o tP;obtain⟨pp,xs,rfl,k1,k2⟩:=(r1.den.up e2).tup_inv;obtain⟨qq,ys,rfl,j1,j2⟩:=r2.den.tup_inv;have xl:=k2.length;have yl:=j2.length;refine .inr ⟨pp,qq,xs,ys,rfl,rfl,k1,j1,λz=>gC (er.mp (by rw[<-xl,z];rfl)),by rw[xl,yl,cM];lia,λz=>?_,λ_ z hz=>?_⟩
  ·have:es=[]:=er.mp (by rw[<-yl,z];rfl);subst this;rw[bz]at hi q;exact q _ _ (e1.trans e2) (E6 hi (den_tup k1 k2) (S.lst' (e1.trans e2)))
  ·exact q _ _ ((e1.trans e2).trans (k6 hz _)) (E6 hi (a2u (k2.append j2) hz) (S.lst' ((e1.trans e2).trans (k6 hz _))))
end
end VS
namespace VS
open PySem PySem.Spec
section
variable {prog:bw}{w:bO}{A:bC}{E:ai->ar->Prop}{sh:ar}{o:av}{rows:Array eQ}{ep:Nat}
theorem a4p:∀(l:List α),(∀e∈l,∀Q':ForInStep PUnit->ar->Prop,Q' (.yield ⟨⟩) sh->aD (aT prog w) A (f e ⟨⟩) Q' E sh)->∀Q:PUnit->ar->Prop,Q ⟨⟩ sh->aD (aT prog w) A (forIn l kA f) Q E sh
 |[],_,Q,q=>by rw[jE];exact ae q
 |e::l,h,Q,q=>by
  rw[iY];exact ab (h e aj _ (a4p l (λx hx=>h x (ak _ hx)) Q q))
def a6j{id:String}{u:fD}{Q:Array eQ->ar->Prop}(hu:sh.heap.get? o=cz u)(n_:u.data=.dict rows ep)(jn:∀e∈rows,∃b,e.key=.ref b/\sh.TypeIs (.ref b) "tuple")(hd:∀e∈rows,¬ (rows.filter (·.hash==e.hash)).size>1)(q:Q rows sh) :
  aD (aT prog w) A (tZ id o) Q E sh:=by
 unfold tZ;refine ab (cA hu n_ ?_);refine ab ?_;rw[<-mJ];refine a4p rows.toList (λe he Q' q'=>?_) _ (ae q);obtain⟨b,hb,hT⟩:=jn e (dI.mp he);rw[hb];unfold Builtin.Dict.quietEq
 dsimp only
 refine ab (ab (du hT F.slot_tuple_eq.lookup (ae ?_)));refine d_ (λ_=>d_ (λc=>absurd c (hd e (dI.mp he))) λ_=>ae q') λ_=>ae q'
def b0b(so:d≠o)(h0:(o==cN)=rp)(hm:sh.heap.RawDict o rows ep)(y_:sh.heap.RawDict d #[] 0)(gC:rows.size≠0)(jn:∀e∈rows,∃b,e.key=.ref b/\sh.TypeIs (.ref b) "tuple")(hd:∀e∈rows,¬ (rows.filter (·.hash==e.hash)).size>1)(hz:rows.size<=aP)
  (q:∀h',h'.RawDict d rows 1->cD d sh.heap h'->Q () {sh with heap:=h'}):aD (aT prog w) A (iS nm d o) Q E sh:=by
 obtain⟨u,hu,Gc,n_⟩:=id hm;obtain⟨v,hv,C_,wR⟩:=id y_;unfold iS;rw[aL (by simpa using so)]
 dsimp only
 unfold jj;rw[aL (by rw[h0];exact aS)];refine ab (ae (ab (cA hu n_ ?_)));have EY:(decide (rows.size<=8)&&rows.all λe=>(keyPart e.key).isSome)=rp:=by
  rw[Bool.and_eq_false_iff];refine .inr ?_;rw[Array.all_eq_false];obtain⟨b,hb,_⟩:=jn rows[0] (Array.getElem_mem _);exact⟨0,by lia,by rw[hb];simp[keyPart]⟩
 rw[EY,aG (show (!false)=p4 from rfl)];refine ab (cA hv wR ?_);rw[aG (show (#[]:Array eQ).isEmpty=p4 from rfl)];refine ab (a6j hu n_ jn hd ?_);rw[aG (by simpa[Array.isEmpty]using gC)];refine ab (wpAny_updateDictKeysTo hv wR (ae (q _ ⟨_,bS _ hv (ic (gS wR _)),C_.mapDictKeys _,gS wR _⟩ (bP ..))) (Nat.le_succ_of_le hz))
def a2P(h0:(o==cN)=rp)(hm:sh.heap.RawDict o rows ep)(gC:rows.size≠0)(jn:∀e∈rows,∃b,e.key=.ref b/\sh.TypeIs (.ref b) "tuple")(hd:∀e∈rows,¬ (rows.filter (·.hash==e.hash)).size>1)(hz:rows.size<=aP)
  (q:∀h',h'.RawDict sh.heap.objs.size rows 1->(∀b u,sh.heap.get? b=cz u->h'.get? b=cz u)->Q (.ref sh.heap.objs.size) {sh with heap:=h'}):aD (aT prog w) A (call (.type "dict") [.ref o]) Q E sh:=by
 refine wz (Q₁:=λv s1=>v=.ref sh.heap.objs.size/\s1={sh with heap:=sh.heap.push {cls:=.type "dict",data:=.dict #[]}}) F.kt_called_dict (F.kt_typeCall_dict_1 _) F.entry_dict_init (kt_code_dict_new _ ⟨rfl,rfl⟩) ?_;rintro v s1 ⟨rfl,rfl⟩;have hn:(sh.heap.push {cls:=.type "dict",data:=.dict #[]}).RawDict sh.heap.objs.size #[] 0:=⟨_,aE _ rfl,⟨rfl,rfl,rfl⟩,rfl⟩;have ho:(sh.heap.push {cls:=.type "dict",data:=.dict #[]}).RawDict o rows ep:=hm.at λ_ e=>ag _ e
 have vT:kT {sh with heap:=sh.heap.push {cls:=.type "dict",data:=.dict #[]}} (.ref sh.heap.objs.size) "dict":=Heap.RawDict.typeIs (sh:={sh with heap:=sh.heap.push {cls:=.type "dict",data:=.dict #[]}}) hn;have tN:kT {sh with heap:=sh.heap.push {cls:=.type "dict",data:=.dict #[]}} (.ref o) "dict":=Heap.RawDict.typeIs (sh:={sh with heap:=sh.heap.push {cls:=.type "dict",data:=.dict #[]}}) ho;have so:sh.heap.objs.size≠o:=by
  obtain⟨_,hg,_⟩:=hm;exact λe=>absurd (aF hg) (by rw[e];exact dg _)
 refine⟨vT,F.args_dict_init_2 _ _,?_⟩;unfold Builtin.«dict.__init__» kX;refine ab (ab (fA vT (show aD _ _ (pure (sh.heap.objs.size,[a_ o])) _ _ _ from ae ?_)));show aD _ _ (eR "dict.__init__" sh.heap.objs.size (a_ o) [] cj) _ _ _;unfold eR Builtin.Dict.merge xE;refine ab (gY tN ?_);rw[aL (by decide)];refine ab (ab (ab (ff tN isSubtype_dict_dict ?_)));simp only[jT,cP,fF];refine ab (du tN rQ.lookup (ae ?_));simp only[fH,jl];refine ab (ae ?_);refine b0b so h0 ho hn gC (λe he=>let⟨b,hb,u,hu,hc⟩:=jn e he;⟨b,hb,u,ag _ hu,hc⟩) hd hz λh' hr sb=>?_
 show aD _ _ (zJ sh.heap.objs.size [] >>= λ_=>_) _ _ _;exact ab (ae (ae ⟨rfl,q h' hr λb u e=>sb.extBut b u (ba (aF e)) (ag _ e)⟩))
end
end VS
namespace VS
open PySem PySem.Spec L2
theorem a4q{f:α->Int}:∀{l:List α},(l.map f).Nodup->∀e∈l,(l.filter λx=>f x==f e).length<=1
 |a::l,h,e,he=>by
  rw[ay,br]at h;have none_of:∀y,y∉l.map f->(l.filter λx=>f x==y)=[]:=λy hy=>tW.mpr λx hx c=>hy (aR.mpr ⟨x,hx,kn.mp c⟩)
  rcases aC.mp he with z|z
  ·subst z;rw[FG,none_of _ h.1]
   split<;>simp
  ·rw[FG];have gC:(f a==f e)=rp:=gL.mpr λc=>h.1 (by rw[c];exact aR.mpr ⟨e,z,rfl⟩)
   rw[gC];exact a4q h.2 e z
section
variable {X:Cx}
def a6k:CallR X (.type "dict") (λxs H Q=>∃p es,xs=[V.ref p]/\H p=cz (e6 p es)/\es≠[]/\K5 es=p4/\(∀e∈es,∃b ys,e.2.1=.ref b/\SqT X.K H b ys)/\(es.map λe=>hashD e.1).Nodup/\∀z,H z=el->Q (.ref z) (upd H z (e6 z es))):=by
 intro pins s Y H xs us Q I rv h;obtain⟨p,es,rfl,hH,gC,hL,hk,hn,q⟩:=h;obtain⟨u,rfl,rx⟩:=vals1 rv;cases (show u=a_ p from rx)
 obtain⟨h0,hl,i_,o,ents,ep,g1,g2,g3,g4⟩:=q8 I hH;have hsz:ents.size=es.length:=by rw[dw g4];exact cI.symm
 have kj:∀{es:List (D×V×V)} {l:List eQ},eS O4 es l->∀x∈l,∃e∈es,O4 e x:=by
  intro es l h
  induction h with
  |nil=>intro x hx;cases hx
  |cons r _ ih=>
   intro x hx;rcases aC.mp hx with z|z
   ·subst z;exact⟨_,aj,r⟩
   ·obtain⟨e,he,r'⟩:=ih x z;exact⟨e,ak _ he,r'⟩
 have vG:∀{es:List (D×V×V)} {l:List eQ},eS O4 es l->l.map (·.hash)=es.map λe=>hashD e.1:=by
  intro es l h
  induction h with
  |nil=>rfl
  |cons r _ ih=>rw[ay,ay,ih,r.1]
 refine a2P (rows:=ents) h0 ⟨o,g1,g2,g3⟩ (by rw[hsz];exact λz=>gC (er.mp z)) (λx hx=>?_) (λx hx=>?_) (by rw[hsz];exact hl) λh' hr DO=>?_
 ·obtain⟨e,he,r⟩:=kj g4 x (dI.mpr hx);obtain⟨b,ys,e1,e2⟩:=hk e he;have r2:=r.2.1;rw[e1]at r2;obtain⟨cK,_,⟨ob,ho,hc,_⟩,_⟩:=I.tuple e2;exact⟨b,r2,ob,ho,hc⟩
 ·have z:=a4q (f:=λx:eQ=>x.hash) (l:=ents.toList) (by rw[vG g4];exact hn) x (dI.mpr hx);rw[<-Array.toList_filter,cI]at z;lia
 ·obtain⟨o',b1,b2,b3⟩:=hr;have pU:H s.heap.objs.size=el:=I.hok.fresh (aB _);have sS:(s.heap.objs.size==cN)=rp:=gL.mpr (dc (ba I.sysBelow));exact⟨.ref s.heap.objs.size,_,I.laid (a:=s.heap.objs.size) (o:=e6 s.heap.objs.size es) (t':=s.toks) DO (aB _) (Y1 sS hl i_ b1 b2 b3 (λz=>by rw[hL]at z;cases z) g4),rfl,q _ pU⟩
end
def G6(kvs:List (D×D)):Bool:=keysOk p4 kvs&&(!kvs.isEmpty&&(b0Y kvs&&decide (kvs.map λp=>hashD p.1).Nodup))
def a5g(a:EvE):EvE:=λU=>(a U).bind λd=>match d with
 |.dict kvs=>if G6 kvs then cz (.dict kvs) else el
 |_=>el
theorem a6l:∀l:List (α×β),(l.map (·.1)).zip (l.map (·.2))=l
 |[]=>rfl
 |x::l=>by rw[ay,ay,dW,a6l l]
section
variable {X:Cx}{M:List Md}{a:Expr}{fa:EvE}{ca:Cat}{pos p:eM}
def b0c(hm:X.mg "dict"=el)(ha:PX X M a fa ca)(hc:frozen ca:=by trivial)(hg:Gl X "dict":=by rfl)(he:ax [a] X.env=(rp,cy a X.env)::ax [] X.env:=by rfl)(fV:(cB pos (ax [] X.env)).any (·.1)=rp:=by rfl) :
  PX X M (.Call (.Name "dict" p) [a] [] pos) (a5g fa) (.new (.d p4 .f)):=by
 obtain⟨ta,pa,qa⟩:=ha.out;refine .mk ⟨_,E5 a6k hg hm PyProof.Rows.Boot.«dict» (m5 pa s9 he) (by decide) (by decide) he fV,λU Y H P F d Q S hf q=>?_⟩;obtain⟨x,h1,g1⟩:=bnd hf;cases x with
 |dict kvs=>
  by_cases c:G6 kvs=p4
  ·have g2:(if G6 kvs then cz (bc.dict kvs) else el)=cz d:=g1;rw[aG c]at g2;cases g2
   simp only[G6,aw,cY]at c;obtain⟨c1,c2,c3,c4⟩:=c;refine qa U Y H P F _ _ S h1 λv H1 e1 r1=>?_
   obtain⟨aa,es,rfl,k1,k2⟩:=(J8 hc r1).dict_inv;have kk:=k2.keys;have kd:=k2.kden;have ky:∀e∈es,keyOk p4 e.1:=λe he=>by
    have:e.1∈kvs.map (·.1):=by rw[<-kk];exact aR.mpr ⟨e,he,rfl⟩
    obtain⟨pp,hp,e2⟩:=aR.mp this;rw[<-e2];exact x6 (bj.mp c1 pp hp)
   refine⟨aa,es,rfl,i7 _ _ k1,λz=>?_,by rw[a5Z k2];exact c3,λe he=>?_,?_,λz hz=>?_⟩
   ·rw[z]at kk;cases kvs with
    |nil=>simp at c2
    |cons _ _=>cases kk
   ·obtain⟨ds,yZ⟩:=(ky e he).2.2.1 rfl;have dd:=kd e he;rw[yZ]at dd;obtain⟨b,xs,e2,e3,_⟩:=(dd.up i7).tup_inv;exact⟨b,xs,e2,e3⟩
   ·rw[show (es.map λe=>hashD e.1)=kvs.map λp=>hashD p.1 by
     have:=eE (List.map hashD) kk
     rwa[bG,bG]at this]
    exact c4
   ·have hs:Same (cut H1 F) (cut (upd H1 z (e6 z es)) ([z]++F)):=λb y hy=>by
     obtain⟨n1,n2⟩:=o6 hy;have hb:b≠z:=λw=>by rw[w,hz]at n2;cases n2
     refine j6 (λw=>?_) (by rw[f6 hb];exact n2);rcases az.mp w with w|w
     ·exact hb (ao.mp w)
     ·exact n1 w
    refine q _ _ (e1.trans (k6 hz _)) ⟨[z],?_,br.mpr ⟨λw=>(nomatch w),bp⟩,λb hb=>?_⟩
    ·simp only[Own];refine⟨z,es,kvs.map (·.2),[],rfl,i4,by rw[kk,a6l],rfl,⟨?_,λe he=>⟨ky e he,(kd e he).up hs⟩⟩,ListAll.of_den (k2.vals.up hs) λv d _ q=>⟨rfl,q⟩⟩;rw[kk];have c5:=c4;rw[List.Nodup,ny]at c5 ⊢;exact c5.imp λh e=>h (by rw[e])
    ·rw[ao.mp hb];cases hH:H z with
     |none=>rfl
     |some y=>rw[e1 _ _ hH]at hz;cases hz
  ·have g2:(if G6 kvs then cz (bc.dict kvs) else el)=cz d:=g1;rw[aL c]at g2;cases g2
 |_=>cases g1
end
section
variable {X:Cx}{M:List Md}{e:Expr}{f:EvE}{u:Ty}{kt:Bool}
def a8F(h:PX X M e f (.new (.d kt u))):PX X M e f (.new (.d kt .f)):=h.imp λK H H' F v d hF _ ⟨fp,o,n,z⟩=>by
 simp only[Own]at o;obtain⟨a,es,ds,fs,rfl,ha,rfl,rfl,⟨k1,k2⟩,la⟩:=o;have jm:∀b∈[a]++F,b∈(a::fs)++F:=λb hb=>by
  rcases az.mp hb with y|y
  ·rw[ao.mp y];simp
  ·exact aq _ y
 have sU:∀b∈fs,b∉[a]++F:=λb hb y=>by
  rcases az.mp y with y|y
  ·rw[ao.mp y]at hb;exact (br.mp n).1 hb
  ·obtain⟨ys,q⟩:=hF b y;rw[z b (ak _ hb)]at q;cases q
 have key:∀{ds:List D} {xs:List V} {gs:List av},ListAll (Own K H' ((a::fs)++F) u) xs ds gs->(∀b∈gs,b∈fs)->ListAll (Own K H' ([a]++F) .f) xs ds []:=by
  intro ds
  induction ds with
  |nil=>intro xs gs l _;obtain⟨rfl,rfl⟩:=l.nil_inv;exact m7
  |cons d ds ih=>
   intro xs gs l hs;obtain⟨v,r,f,g,rfl,rfl,l1,l2⟩:=l.cons_inv;exact m4 (f:=[]) (g:=[]) (l1.freeze jm λb hb=>sU b (hs b (aA _ hb))) (ih l2 λb hb=>hs b (aq _ hb))
 exact⟨[a],by simp only[Own];exact⟨a,es,ds,[],rfl,ha,rfl,rfl,⟨k1,λe he=>⟨(k2 e he).1,(k2 e he).2.up (C8 jm)⟩⟩,key la λ_ y=>y⟩,by simp,λb hb=>z b (by rw[ao.mp hb];exact aj)⟩
end
section
variable {X:Cx}{M ML M':List Md}{e:Expr}{f:EvE}{pos:eM}
def b4B(hM:M.map frz=M)(he:PX X M e f .tmp):PSX X .f ML M (.Return (cz e) pos) (l5 f) M':=by
 obtain⟨te,pe,qe⟩:=he.out;refine .mk ⟨_,a6N pe,λD U Y H P F o S hg k=>?_⟩;obtain⟨d,h1,g1⟩:=bnd hg;cases g1
 have S0:=S.free hM;refine qe U Y H P [] d _ S0.toE h1 λv H1 e1 hd=>?_
 refine k v H1 [] (by simp only[Own];exact⟨trivial,(show Den X.K H1 v d from hd).up λa x ha=>j6 (by simp) ha⟩) bp (λa ha=>(nomatch ha)) ((S0.prot.trans i7).trans e1)
end
section
variable {X:Cx}{M:List Md}{e0:Expr}{es:List Expr}{f:EvA}{uf:Ty}{x:bH}{p pos jJ:eM}{params:lM}{body:Expr}{scope:gd}{ys:List bH}{js:List Nat}
def a6m{ps pl N:List bH}{us:List Ty} 
  (W:Has X.prog X.w X.K X.mg X.base x k ps (spL X.K n (λgm=>FnV X.prog X.w X.K X.mg X.base (kf+1) pl.length uf gm) m .f)) (hr:Room k X.A) (h:PAL X M (e0::es) f λH v=>∃fa,v=.ref fa/\LamO q params body scope (P9 scope X.env) H fa)
  (tI:a8z X (P9 scope X.env) ys js) (hM:b7u M js) (S:LamScope N pl ys scope (P9 scope X.env)) (mz:us.length=pl.length)
  (m_:∀(pm:ai) (c:av) (lZ:ai) (us:List ai),us.length=pl.length->qu (PySem.W.kla_fn "<lambda>" q params body scope (P9 scope X.env) pm (.ref c) lZ) ⟨us,[]⟩=pure (pl.zip us))
  (hb:∀(fa c:av) (A:bC) (outer:List ox) (s:ar) (H:Hp),Room kf (A.deeper (jr q scope s.heap.objs.size fa (.ref c) (P9 scope X.env)))->PX (a8y X.prog X.w X.K X.mg X.base N q scope fa (.ref c) (P9 scope X.env) A outer s H) (us.map .own++aN ys.length (.own .f)) body fb (.new uf))
  (hfl:∀U ds,f U=cz ds->ds.length=n) (nR:∀x,X.fn x=p4:=by exact λ_=>rfl)
  (hg:Gl X x:=by rfl) (lW:(x==("__debug__":bH))=rp:=by decide) (he:ax (e0::es) X.env=(rp,cy e0 X.env)::ax es X.env:=by rfl) (fV:(cB pos (ax es X.env)).any (·.1)=rp:=by rfl) :
  PX X M (.Call (.Name x p) (e0::es) [] pos) (b4u m us js fb f) .tmp:=by
 obtain⟨t,pa,qa⟩:=h;obtain⟨Gw,fd,F,b,kp,CG⟩:=W.ex;refine .mk ⟨_,b2c F hr hg CG kp b pa tI (b4s nR) lW he fV,λU Y H P F d Q S' hf q=>?_⟩;obtain⟨ds,h1,hf⟩:=bnd hf;refine qa U Y H P F ds _ S' h1 λvs v H1 e1 r1 ⟨fa,hv,L⟩=>?_
 subst hv;obtain⟨kY,c1,c2⟩:=a8A (S'.grow e1) hM;refine⟨kY,c1,λH2 C tu s2 ci Fu J2 o2 n2=>?_⟩;refine⟨vs,.ref fa,_,ds,d,rfl,by rw[r1.length];exact hfl U ds h1,r1.up s2,λH' e'=>b4q (L.up (s2.trans e')) S tu (ci.up e') (λy c z=>let⟨ob,uo,w1,w2⟩:=Fu y c z;⟨ob,uo,e' _ _ w1,w2⟩) (c2.up (s2.trans e')) mz m_ (hb fa),hf,λv H' fp e o nd fr J'=>?_⟩;have sm:Same H1 (VS.cut H' C):=λb o' hb=>j6 (λz=>by rw[n2 b z]at hb;cases hb) (e _ _ (s2 _ _ hb))
 exact q v (VS.cut H' C) (e1.trans sm) ((o.junk J' .f).den .f)
end
def Iti(a:av)(es:List (D×V×V)):It:=
 ⟨λi H=>H a=cz (e6 a es)/\i<es.length,λi H x H'=>∃T e,H T=el/\H'=upd H T (.tup [e.2.1,e.2.2])/\x=.ref T/\es[i]?=cz e,λi H=>H a=cz (e6 a es)/\es.length<=i⟩
def a2Q(hk:y8 es):K5 es=rp:=by
 cases es with
 |nil=>rfl
 |cons e es=>
  obtain⟨n,e1,_⟩:=hk e aj;show (a0b e.1&&a5C e.2.2)=rp;rw[e1];rfl
def E8(I:Inv X pins Y H s)(hH:H d=cz (e6 d es))(hk:y8 es) :
  ∃kvs,s.heap.DictAt (cQ X.prog X.w) d kvs es.length/\(d==cN)=rp/\eS EKv es kvs/\kvs.length=es.length:=by
 obtain⟨kvs,ep,ja,h0,_,hp⟩:=T3 I hH hk;have he:ep=es.length:=by
  obtain⟨o,ents,g1,g2,g3,_⟩:=id ja;exact a2C I hH g1 g3 (a2Q hk)
 subst he;exact⟨kvs,ja,h0,hp,(dw hp).symm⟩
def a7C(a it:av)(es:List (D×V×V))(hk:y8 es):Turn P w K (.Tuple elts kk ir) (Iti a es) [it] it (λi h=>∃ok ov,IsItemIter h it a i es.length es.length ok ov) where
 mem:=by simp
 obj:=λi h st b hb=>by
  obtain⟨ok,ov,he⟩:=st;cases ao.mp hb
  exact⟨_,he,λv z=>by cases z⟩
 keep:=λi h h' st k=>by
  obtain⟨ok,ov,he⟩:=st;exact⟨ok,ov,k it (by simp) _ he⟩
 item:=by
  intro X hP hw hK hc i pins s Y H E I hf st hg;subst hP hw hK;obtain⟨hH,hi⟩:=hg;obtain⟨kvs,ja,h0,hp,hlen⟩:=E8 I hH hk;obtain⟨ok,ov,he⟩:=st;have hx:es[i]?=cz es[i]:=au hi;obtain⟨⟨n,v⟩,yN,g⟩:=E3 hp hx;rw[<-hlen]at he ja;refine wpAny_pyNext_items_item (knd:=cQ X.prog X.w) he ja yN λkey h' jn pS sQ hsz keep=>⟨.ref s.heap.objs.size,rfl,wpAny_letOwnedTupleGo_items (s:={s with heap:=h'}) pS λh2 mi zS=>?_⟩
  have hn:H s.heap.objs.size=el:=I.hok.fresh (aB _);have AY:s.heap.objs.size≠it:=ee (aF he);obtain⟨t,rfl⟩:=qx jn;have new:ObjOk X.prog X.w (upd H s.heap.objs.size (.tup [es[i].2.1,es[i].2.2])) h2 s.heap.objs.size (.tup [es[i].2.1,es[i].2.2]):=
   ⟨by rw[cM];show 2<=_;decide,[.int n t,v],.cons (by rw[g.2.1];exact⟨t,rfl⟩) (.cons g.2.2 .nil),_,zS.extBut _ _ AY sQ,rfl,_,rfl⟩
  refine⟨.ref s.heap.objs.size,upd H s.heap.objs.size (.tup [es[i].2.1,es[i].2.2]),a8w (s:=s) (t':=s.toks) (ch:=[it]) I (λb o hb q=>zS.extBut b o (by simpa using hb) (keep b o (by simpa using hb) q)) hf (aB _) new,rfl,⟨_,es[i],hn,rfl,rfl,hx⟩,⟨_,_,by rw[hlen]at mi;exact mi⟩,λb hb=>?_⟩;rw[f6 (λz=>AY (by rw[<-z];exact ao.mp hb))];exact (hf b hb).1
 done:=by
  intro X hP hw hK hc i pins s Y H E I hf st hg;subst hP hw hK;obtain⟨hH,hi⟩:=hg;obtain⟨kvs,ja,h0,hp,hlen⟩:=E8 I hH hk;obtain⟨ok,ov,he⟩:=st;rw[<-hlen]at he ja;exact wpAny_pyNext_items_end (knd:=cQ X.prog X.w) (I.ok.hd hc) he ja (dU (by lia)) λh' hx=>⟨rfl,a2f (t':=s.toks) (ch:=[it]) I (λb o hb y=>hx b o (by simpa using hb) y) hf⟩
 self:=λ_ _ _ _ _ st h=>by
  obtain⟨ok,ov,he⟩:=st;exact PySem.W.kcp_self he h
section
variable {X:Cx}{M ML:List Md}{o iter:Expr}{elts:List Expr}{kk:Nat}{ir apos cF pos:eM}{fa:EvE}{ca:Cat}{u:Ty}{body:List g_}{g:EvS}
def c0A(to:TE):TI:=λY H R=>to Y H λx H1=>∃p es,x=.ref p/\H1 p=cz (e6 p es)/\y8 es/\R (Iti p es) H1
def b2r(ho:PE X o to)(eD:cZ o "items" X.env (cy o X.env)=cy o X.env:=by rfl)(eB:(apos.endLine==cF.line)=p4:=by rfl):PI X (.Tuple elts kk ir) (.Call (.Attribute o "items" apos) [] [] cF) (c0A to):=by
 intro pins s Y H R I h;refine iw eD eB (L2.thn (ho pins s Y H _ I h) λv s1 ⟨x,H1,I1,r1,p,es,ex,hH,hk,q1⟩=>?_);subst ex;obtain rfl:v=a_ p:=r1;obtain⟨kvs,ja,h0,hp,hlen⟩:=E8 I1 hH hk;refine⟨"dict","dict.items",h_,sE,PySem.F.type_dict_items,j9 I1 hH,L4 I1 hH,eX rfl (je ?_)⟩;refine Fv sE (j9 I1 hH) PySem.F.entry_dict_items (PySem.F.args_dict_items_1 _) (meets_dict_items (cQ X.prog X.w) p h0) ⟨⟨kvs,ja.dictOf⟩,?_⟩;refine wpAny_pyIter_items (knd:=cQ X.prog X.w) ⟨_,aE _ rfl,rfl,rfl⟩ (ja.at λ_ e=>ag _ e) ?_;have hz:(s1.heap.push {cls:=.type "dict_items",data:=.fields #[.ref p]}).objs.size=s1.heap.objs.size+1:=cH ..;refine⟨_,[_],_,_,H1,rfl,I1.kept (t':=s1.toks) λb o e=>ag _ (ag _ e),a7C p _ es hk,⟨.none,.none,by rw[<-hlen];exact aE _ rfl⟩,λb hb=>?_,q1⟩;have e:=ao.mp hb;have jK:s1.heap.objs.size<=b:=by rw[e,hz];exact gx _
 exact I1.fpOk jK (I1.hok.fresh jK)
end
def a2R(p:D×D):D:=.tuple [p.1,p.2]
def iIt(a:EvE):EvA:=λU=>(a U).bind λd=>match d with
 |.dict kvs=>if keysOk rp kvs then cz (kvs.map a2R) else el
 |_=>el
def a1O:∀{kvs:List (D×D)} {es:List (D×V×V)},DenKV K H es kvs->keysOk rp kvs=p4->y8 es:=λ{kvs es} h hk e he=>by
 have hd:=h.kden e he;have hm:e.1∈kvs.map (·.1):=by rw[<-h.keys];exact bt he
 obtain⟨p,hp,yx⟩:=aR.mp hm;have h2:o9 rp p.1=p4:=bj.mp hk p hp;rw[yx]at h2;cases hx:e.1 with
 |int n=>rw[hx]at hd;exact⟨n,rfl,by simpa only [Den]using hd⟩
 |_=>rw[hx]at h2;simp[o9]at h2
section
variable {X:Cx}{M ML:List Md}{o iter:Expr}{elts:List Expr}{kk:Nat}{ir apos cF pos:eM}{fa:EvE}{ca:Cat}{u:Ty}{body:List g_}{g:EvS}
def b9g(X:Cx)(M:List Md)(tg iter:Expr)(f:EvE):Prop:=
 ∃wi,PI X tg iter wi/\∀(U:List D) (Y:L2.St) (H P:Hp) (F:List av) (kvs:List (D×D)) (R:It->Hp->Prop),StE X.K M U Y H P F->f U=cz (.dict kvs)->keysOk rp kvs=p4->
  (∀a es H1,Same H H1->(∀H2,Same (cut H1 F) H2->H2 a=cz (e6 a es))->DenKV X.K (cut H1 F) es kvs->R (Iti a es) H1)->wi Y H R
def c0B(h:PX X M o fa ca)(hc:frozen ca:=by trivial)(eD:cZ o "items" X.env (cy o X.env)=cy o X.env:=by rfl)(eB:(apos.endLine==cF.line)=p4:=by rfl):b9g X M (.Tuple elts kk ir) (.Call (.Attribute o "items" apos) [] [] cF) fa:=by
 obtain⟨t,p,q⟩:=h.out;refine⟨_,b2r p eD eB,λU Y H P F kvs R S hf hk k=>?_⟩;refine q U Y H P F _ _ S hf λv H1 e1 r1=>?_
 obtain⟨aa,es,rfl,k1,k2⟩:=(J8 hc r1).dict_inv;exact⟨aa,es,rfl,i7 _ _ k1,a1O k2 hk,k _ es H1 e1 (λH2 e2=>e2 _ _ k1) k2⟩
def b0d{K:af}{H:Hp}{kvs:List (D×D)}{es:List (D×V×V)}(h:DenKV K H es kvs){i:Nat}{e:D×V×V}(he:es[i]?=cz e):∃p,kvs[i]?=cz p/\Den K H e.2.1 p.1/\Den K H e.2.2 p.2:=by
 have h1:=h.kden e (bA he);have h2:(es.map (·.1))[i]?=cz e.1:=by rw[aX,he];rfl
 rw[h.keys,aX]at h2;obtain⟨p,hp,yx⟩:=dt.mp h2;obtain⟨d,hd,tE⟩:=h.vals.getV (show (es.map (·.2.2))[i]?=cz e.2.2 by rw[aX,he];rfl);rw[aX,hp]at hd;cases hd
 exact⟨p,hp,by rw[yx];exact h1,tE⟩
def b2s{fi:EvA}{tg:Expr}{MB:List Md}{gt:TG}{set:List D->D->Option (List D)}{m:D->Prop}(hc:X.calm=p4)(hp:lJ (aT X.prog X.w) X.A X.env X.xe)(hi:b9g X M tg iter fa)(hg:PG X tg gt)(hs:a9t X.K M MB gt set m)(hm:∀U ds,fi U=cz ds->∀d∈ds,m d)(vK:∀{U ps},fi U=cz ps->iIt fa U=cz ps)(hb:PSsX X u M MB body g M)
  (hf:∀x,dR iter X.env x=pure x:=by intro _;rfl):PSX X u ML M (.For tg iter body [] pos) (D3 fi set g) M:=by
 obtain⟨wi,pi,qi⟩:=hi;obtain⟨tb,pb,qb⟩:=hb.out;refine .mk ⟨_,a4O hp hc pi hg pb hf,λD U Y H P F o S rA k=>?_⟩;obtain⟨ps,h1,g1⟩:=bnd rA;obtain⟨d0,h2,g2⟩:=bnd (vK h1);obtain⟨kvs,rfl⟩:∃kvs,d0=.dict kvs:=by
  cases d0 with
  |dict kvs=>exact⟨kvs,rfl⟩
  |_=>cases g2
 have g3:(if keysOk rp kvs=p4 then cz (kvs.map a2R) else el)=cz ps:=g2;have hk:keysOk rp kvs=p4:=by
  by_cases c:keysOk rp kvs=p4
  ·exact c
  ·rw[aL c]at g3;cases g3
 rw[aG hk]at g3;have se:kvs.map a2R=ps:=aH g3;refine qi U Y H P F kvs _ S.toE h2 hk λa es H1 e1 sT hx=>?_
 have S1:=S.grow e1;have o_:es.length=kvs.length:=by have:=eE gz hx.keys;simpa using this
 have fV:ps.length=es.length:=by rw[<-se,ah,o_]
 refine⟨λi n Y' H'=>n=es.length-i/\i<=es.length/\∃U' F',StR X.K M U' Y' H' (cut H1 F) F'/\N5 set g (ps.drop i) U'=cz o,⟨es.length,by simp,b_ _,U,F,⟨S1.all,S1.lst,Same.refl _⟩,g1⟩,?_⟩;rintro i n Y' H' ⟨rfl,hi,U',F',S',hfl⟩;have kH:Same (cut H1 F) (cut H' F'):=S'.prot;have q:=sT H' (kH.trans i7);by_cases gG:i<es.length
 ·refine .inr ⟨⟨q,gG⟩,λY2 H2=>∃U2 F2,StR X.K M U2 Y2 H2 (cut H1 F) F2/\N5 set g (ps.drop (i+1)) U2=cz o,λY2 H2 ⟨U2,F2,S2,h2⟩=>⟨es.length-(i+1),by lia,rfl,gG,U2,F2,S2,h2⟩,λx H2 hy=>?_⟩;obtain⟨T,e,hT,rfl,rfl,he⟩:=hy;have lV:i<ps.length:=by lia
  have ly:ps.drop i=ps[i]::ps.drop (i+1):=dP lV;rw[ly]at hfl;obtain⟨U1,qF,g4⟩:=bnd (show (set U' ps[i]).bind _=cz o from hfl);obtain⟨o1,hg1,g5⟩:=bnd g4;obtain⟨pr,yu,dk,dv⟩:=b0d (DenKV.mono kH _ hx) he;have pO:ps[i]=a2R pr:=by
   have:ps[i]?=cz (a2R pr):=by rw[<-se,aX,yu];rfl
   rw[au lV]at this;exact aH this
  have nc:Same H' (upd H' T (.tup [e.2.1,e.2.2])):=k6 hT _;have S2:=S'.grow nc;have zj:T∉F':=λz=>by
   obtain⟨ys,e⟩:=S'.lst T z;rw[hT]at e;cases e
  have nS:Den X.K (cut (upd H' T (.tup [e.2.1,e.2.2])) F') (.ref T) (a2R pr):=by
   have ml:Same (cut H' F') (cut (upd H' T (.tup [e.2.1,e.2.2])) F'):=x0 nc;have ja:cut (upd H' T (.tup [e.2.1,e.2.2])) F' T=cz (.tup [e.2.1,e.2.2]):=j6 zj i4;exact den_tup (SqT.of ja) (denAll_cons (dk.up ml) (denAll_cons (dv.up ml) denAll_nil))
  rw[pO]at qF;refine hs U' Y' _ (cut H1 F) F' (.ref T) _ U1 _ S2 nS (hm U ps h1 _ (by rw[<-pO];exact cW lV)) qF λY3 F3 S3=>qb _ U1 Y3 _ (cut H1 F) F3 o1 S3 hg1 ?_
  cases o1 with
  |nx U2=>exact λY4 H4 F4 S4=>⟨U2,F4,S4,g5⟩
  |ct U2=>exact λY4 H4 F4 S4=>⟨U2,F4,S4,g5⟩
  |bk U2=>
   have:o=.nx U2:=(aH g5).symm;subst this;exact λY4 H4 F4 S4=>k Y4 H4 F4 ⟨S4.all,S4.lst,S1.prot.trans S4.prot⟩
  |rt d=>
   have:o=.rt d:=(aH g5).symm;subst this;refine λv H4 fp o nd fr e=>k v H4 fp o nd (λa ha=>?_) (S1.prot.trans e)
   exact S1.prot.free (fr a ha)
 ·have e:i=es.length:=by lia
  subst e;rw[<-fV,iH]at hfl;have:o=.nx U':=(aH hfl).symm;subst this;exact .inl ⟨⟨q,aB _⟩,k Y' H' F' ⟨S'.all,S'.lst,S1.prot.trans S'.prot⟩⟩
end
end VS
namespace PySem
section
variable {prog:bw}{w:bO}{A:bC}{E:ai->ar->Prop}{s:ar}
def a1P(h:Q (s.heap.get? a) s):aD M A (loadIfAlive a) Q E s:=λ_ _ _=>h
def b2t:¬ (a_ t==cj)=p4:=aS
def a7D(hit:s.heap.IsTupleIter it t i)(ht:s.heap.IsTuple t vs)(hx:vs[i]?=cz x)
  (q:∀h',h'.IsTupleIter it t (i+1)->cD it s.heap h'->Q x {s with heap:=h'}):aD (aT prog w) A (cm (.ref it)) Q E s:=by
 obtain⟨o,ho,hc,hd⟩:=id hit;obtain⟨u,hu,_,n,n_⟩:=ht;unfold cm;refine ab (bI (name:=cf "__next__") hit.typeIs gW (bD gW hit.typeIs uD ?_ (tX _)));show aD _ _ (om (.ref it) 0 >>= _) _ _ s;refine ab (cL ho hd (x:=.ref t) rfl ?_);show aD _ _ (ite ((a_ t==cj)=p4) _ _) _ _ s;rw[aL b2t];show aD _ _ (om (.ref it) 1 >>= _) _ _ s;refine ab (cL ho hd (x:=.int i 0) rfl ?_);show aD _ _ (zR (.ref t) >>= _) _ _ s;refine ab (dG hu n_ ?_);simp only[bE,hx];refine ab (eA ho hd (by simp) (ae ⟨x,rfl,ae (q _ ?_ (bP ..))⟩));exact⟨_,bS _ ho (mG (gi hd _)),(qC ..).trans hc,by rw[gi hd];simp[cV]⟩
def b0e(hh:A.handled=el)(hit:s.heap.IsTupleIter it t i)(ht:s.heap.IsTuple t vs)(hx:vs[i]?=el)
  (q:∀h' e,sI it s.heap h'->(∃o,h'.get? e=cz o/\o.cls=.type "StopIteration")->E (.ref e) {s with heap:=h'}):aD (aT prog w) A (cm (.ref it)) Q E s:=by
 obtain⟨o,ho,hc,hd⟩:=id hit;obtain⟨u,hu,_,n,n_⟩:=ht;unfold cm;refine ab (bI (name:=cf "__next__") hit.typeIs gW (bD gW hit.typeIs uD ?_ (tX _)));show aD _ _ (om (.ref it) 0 >>= _) _ _ s;refine ab (cL ho hd (x:=.ref t) rfl ?_);show aD _ _ (ite ((a_ t==cj)=p4) _ _) _ _ s;rw[aL b2t];show aD _ _ (om (.ref it) 1 >>= _) _ _ s;refine ab (cL ho hd (x:=.int i 0) rfl ?_);show aD _ _ (zR (.ref t) >>= _) _ _ s;refine ab (dG hu n_ ?_);simp only[bE,hx];refine ab (dQ (ab (eA ho hd (by simp) ?_)));show aD _ _ (CB (.type "StopIteration") [] >>= _) _ _ _;simp only[CB,newTuple];refine ab (ab (de ?_ (by size_fits)));refine ab (m:=iM _ _) (rU (a:=cj) (by first|rfl|(simp only[iM];rfl)) ?_);refine de ?_ (by size_fits);simp only[raiseNew];refine ab (xK ?_)
 first|rw[show A.in1.handled=el from hh]|rw[hh]
 exact ab (ae (wpAny_throw (q _ _ (((bP ..).extBut.push _).push _) ⟨_,aE _ rfl,rfl⟩)))
end
def Draws.tup{prog:bw}{w:bO}{A:bC}(hh:A.handled=el)(it t:av)(gC:t≠it)(vs:Array ai):Draws prog w A it [it,t] vs.size (λi v=>vs[i]?=cz v) (λi h=>h.IsTupleIter it t i/\h.IsTuple t vs) where
 live:=λ_ _ st=>let⟨o,ho,_⟩:=st.1;⟨o,ho⟩
 frame:=λ_ _ _ st hk=>⟨let⟨o,ho,r⟩:=st.1;⟨o,hk it (by simp) o ho,r⟩,let⟨o,ho,r⟩:=st.2;⟨o,hk t (by simp) o ho,r⟩⟩
 item:=λi s Q E hi st hQ=>a7D st.1 st.2 (x:=vs[i]) (by simp[hi]) λh' pS qG=>hQ _ h' s.toks (by simp[hi]) ⟨pS,st.2.extBut qG.extBut gC⟩ qG
 done:=λs Q E st hE=>b0e hh st.1 st.2 (by simp) hE
def a2S(h:bR)(z TI TO i1 i2:av):Prop:=
 jt h TI (.ref i1) (.ref i2)/\(∃a b,jt h TO a b)/\(nD h z TI TO .none\/∃(T:av) (f1:ai) (o:fD),T≠z/\T≠TO/\T≠i1/\T≠i2/\h.get? T=cz o/\h.get? z=cz {cls:=.type "zip",dict:=el,data:=.fields #[cV T,f1,.bool rp,.ref TI,.ref TO],slots:=#[]})
structure ZApart (z TI TO i1 i2:av) (fp1 fp2:List av):Prop where
 TIz:TI≠z
 TOz:TO≠z
 TITO:TI≠TO
 i12:i1≠i2
 TI1:TI≠i1
 TI2:TI≠i2
 TO1:TO≠i1
 TO2:TO≠i2
 z1:z≠i1
 z2:z≠i2
 zf1:z∉fp1
 zf2:z∉fp2
 Of1:TO∉fp1
 Of2:TO∉fp2
 if2:i1∉fp2
 if1:i2∉fp1
section
variable {prog:bw}{w:bO}{A:bC}{E:ai->ar->Prop}{s:ar}{z TI TO i1 i2:av}{fp1 fp2:List av}{n i:Nat}{P1 P2:Nat->ai->Prop}{St1 St2:Nat->bR->Prop}
def b0f{Q:ai->ar->Prop}(D1:Draws prog w A i1 fp1 n P1 St1)(D2:Draws prog w A i2 fp2 n P2 St2)(Z:ZApart z TI TO i1 i2 fp1 fp2)(hz:a2S s.heap z TI TO i1 i2)(hi:i<n)(s1:St1 i s.heap)(s2:St2 i s.heap)
  (q:∀T x y h' tk,P1 i x->P2 i y->s.heap.objs.size<=T->jt h' T x y->a2S h' z TI TO i1 i2->St1 (i+1) h'->St2 (i+1) h'->(∀c o,c≠z->c≠TO->c≠i1->c≠i2->s.heap.get? c=cz o->h'.get? c=cz o)->Q (.ref T) {s with heap:=h',toks:=tk}) :
  aD (aT prog w) A (Builtin.«zip.__next__» ⟨[.ref z],[]⟩) (λfin s'=>∃v,fin=.done (.ret v)/\Q v s') E s:=by
 have tQ:∀{h h':bR} {j:Nat},St1 j h->(∀b o,b≠z->b≠TO->b≠i2->h.get? b=cz o->h'.get? b=cz o)->St1 j h':=λst k=>D1.frame _ _ _ st λb hb o e=>k b o (λx=>Z.zf1 (x▸hb)) (λx=>Z.Of1 (x▸hb)) (λx=>Z.if1 (x▸hb)) e
 have sy:∀{h h':bR} {j:Nat},St2 j h->(∀b o,b≠z->b≠TO->b≠i1->h.get? b=cz o->h'.get? b=cz o)->St2 j h':=λst k=>D2.frame _ _ _ st λb hb o e=>k b o (λx=>Z.zf2 (x▸hb)) (λx=>Z.Of2 (x▸hb)) (λx=>Z.if2 (x▸hb)) e
 obtain⟨rE,⟨a,b,vU⟩,hz⟩:=hz;rcases hz with hz|⟨T0,f1,o0,t1,t2,t3,t4,xo,hz⟩
 ·show aD _ _ (om (.ref z) 2 >>= _) _ _ _;refine ab (cL hz rfl (x:=.bool rp) rfl ?_);show aD _ _ (om (.ref z) 3 >>= _) _ _ _;refine ab (cL hz rfl (x:=.ref TI) rfl (ab (dG rE rfl ?_)));show aD _ _ (bY (.ref z) >>= _) _ _ _;unfold bY;refine ab (ab (cL hz rfl (x:=.none) rfl (ae ?_)));simp only[jl];refine ab (dQ (ab (cL hz rfl (x:=.ref TO) rfl ?_)));refine ab (fm hz (by simp) λh₁ jw e₁=>ab ?_)
  replace jw:nD h₁ z TI TO .ellipsis:=jw
  simp only[FC,GP,iY,jE];refine ab (ab (xJ ?_));show aD _ _ (cm (.ref i1) >>= _) _ _ _;refine ab (D1.item i _ _ _ hi (tQ s1 λb o b1 _ _ e=>e₁.extBut _ _ b1 e) λx h₂ k₂ px g1 e₂=>ae ?_)
  replace e₂:cD i1 h₁ h₂:=e₂
  have qf:jt h₂ TO a b:=e₂.extBut _ _ Z.TO1 (e₁.extBut _ _ Z.TOz vU);refine ab (dG qf rfl (ab (wpAny_updateSeq_pair qf λh₃ nV e₃=>ab (mP (ae ?_)))))
  replace e₃:cD TO h₂ h₃:=e₃
  replace nV:jt h₃ TO x b:=nV
  have k_:∀c o,c≠z->c≠TO->c≠i1->s.heap.get? c=cz o->h₃.get? c=cz o:=λc o c1 c2 c3 e=>e₃.extBut _ _ c2 (e₂.extBut _ _ c3 (e₁.extBut _ _ c1 e))
  refine ab (ab (xJ ?_));show aD _ _ (cm (.ref i2) >>= _) _ _ _;refine ab (D2.item i _ _ _ hi (sy s2 λb o b1 b2 b3 e=>k_ b o b1 b2 b3 e) λy h₄ k₄ py g2 e₄=>ae ?_)
  replace e₄:cD i2 h₃ h₄:=e₄
  have qd:jt h₄ TO x b:=e₄.extBut _ _ Z.TO2 nV;refine ab (dG qd rfl (ab (wpAny_updateSeq_pair qd λh₅ lA e₅=>ab (mP (ae (ae ?_))))))
  replace e₅:cD TO h₄ h₅:=e₅
  replace lA:jt h₅ TO x y:=lA
  refine ab (dG lA rfl (ab (uG ?_)));have sz:h₅.objs.size=s.heap.objs.size:=by rw[e₅.1,e₄.1,e₃.1,e₂.1,e₁.1]
  have rZ:nD h₅ z TI TO .ellipsis:=e₅.extBut _ _ Z.TOz.symm (e₄.extBut _ _ Z.z2 (e₃.extBut _ _ Z.TOz.symm (e₂.extBut _ _ Z.z1 jw)));have rV:∀c o,c≠z->c≠TO->c≠i1->c≠i2->s.heap.get? c=cz o->h₅.get? c=cz o:=λc o c1 c2 c3 c4 e=>e₅.extBut _ _ c2 (e₄.extBut _ _ c4 (k_ c o c1 c2 c3 e))
  show aD _ _ (nY (.ref z) (.ref h₅.objs.size) >>= _) _ _ _;unfold nY;have uZ:nD (h₅.push {cls:=.type "tuple",data:=.seq #[x,y]}) z TI TO .ellipsis:=ag _ rZ;refine ab (ab (fm uZ (by simp) λh₇ pJ e₇=>?_))
  replace pJ:nD h₇ z TI TO (cV h₅.objs.size):=pJ
  refine fm pJ (by simp) λh₈ pI e₈=>ae ⟨_,rfl,?_⟩
  replace pI:nD h₈ z TI TO (cV h₅.objs.size):=pI
  have mQ:∀c o,c≠z->h₅.get? c=cz o->h₈.get? c=cz o:=λc o c1 e=>e₈.extBut _ _ c1 (e₇.extBut _ _ c1 (ag _ e))
  have xH:z<h₅.objs.size:=aF rZ;have CJ:i1<h₅.objs.size:=by
   obtain⟨o,ho⟩:=D1.live _ _ g1;rw[e₅.1,e₄.1,e₃.1];exact aF ho
  have CI:i2<h₅.objs.size:=by
   obtain⟨o,ho⟩:=D2.live _ _ g2;rw[e₅.1];exact aF ho
  have hT:jt h₈ h₅.objs.size x y:=e₈.extBut _ _ (ee xH) (e₇.extBut _ _ (ee xH) (aE _ rfl));refine q h₅.objs.size x y h₈ k₄ px py (by rw[sz];exact aB _) hT ⟨mQ _ _ Z.TIz (rV _ _ Z.TIz Z.TITO Z.TI1 Z.TI2 rE),⟨x,y,mQ _ _ Z.TOz lA⟩,.inr ⟨h₅.objs.size,.bool rp,_,ee xH,ee (aF lA),ee CJ,ee CI,hT,pI⟩⟩ ?_ ?_ λc o c1 c2 c3 c4 e=>mQ c o c1 (rV c o c1 c2 c3 c4 e)
  ·exact tQ g1 λb o b1 b2 b3 e=>mQ _ _ b1 (e₅.extBut _ _ b2 (e₄.extBut _ _ b3 (e₃.extBut _ _ b2 e)))
  ·exact sy g2 λb o b1 b2 b3 e=>mQ _ _ b1 (e₅.extBut _ _ b2 e)
 ·show aD _ _ (om (.ref z) 2 >>= _) _ _ _;refine ab (cL hz rfl (x:=.bool rp) rfl ?_);show aD _ _ (om (.ref z) 3 >>= _) _ _ _;refine ab (cL hz rfl (x:=.ref TI) rfl (ab (dG rE rfl ?_)));show aD _ _ (bY (.ref z) >>= _) _ _ _;unfold bY;refine ab (ab (cL hz rfl (x:=cV T0) rfl ?_));show aD _ _ (loadIfAlive T0 >>= _) _ _ _;refine ab (a1P ?_);rw[xo];rw[aL (by simp)];refine c_ (Q:=λb s'=>b=rp/\∃h₁ f,s'={s with heap:=h₁}/\h₁.get? z=cz {cls:=.type "zip",dict:=el,data:=.fields #[cV T0,f,.bool rp,.ref TI,.ref TO],slots:=#[]}/\cD z s.heap h₁) ?_ (λb s' hb=>?_) λ_ _ e=>e
  ·refine ab (cL hz rfl (x:=f1) rfl ?_);by_cases c:(f1 !=jq p4)=p4
   ·rw[aG c];exact ab (fm hz (by simp) λh₁ jw e₁=>ae ⟨rfl,h₁,.bool p4,rfl,jw,e₁⟩)
   ·rw[aL c];exact ae ⟨rfl,s.heap,f1,rfl,hz,⟨rfl,λ_ _=>rfl⟩⟩
  ·obtain⟨rfl,h₁,f,rfl,jw,e₁⟩:=hb;simp only[cP,fF];refine ab (ab (ab (bK ?_)));show aD _ _ (cm (.ref i1) >>= _) _ _ _;refine ab (D1.item i _ _ _ hi (tQ s1 λb o b1 _ _ e=>e₁.extBut _ _ b1 e) λx h₂ k₂ px g1 e₂=>ae (ae ?_))
   replace e₂:cD i1 h₁ h₂:=e₂
   refine ab (ab (bK ?_));show aD _ _ (cm (.ref i2) >>= _) _ _ _;refine ab (D2.item i _ _ _ hi (sy s2 λb o b1 b2 b3 e=>e₂.extBut _ _ b3 (e₁.extBut _ _ b1 e)) λy h₃ k₃ py g2 e₃=>ae (ae (ae ?_)))
   replace e₃:cD i2 h₂ h₃:=e₃
   have sz:h₃.objs.size=s.heap.objs.size:=by rw[e₃.1,e₂.1,e₁.1]
   have k_:∀c o,c≠z->c≠i1->c≠i2->s.heap.get? c=cz o->h₃.get? c=cz o:=λc o c1 c3 c4 e=>e₃.extBut _ _ c4 (e₂.extBut _ _ c3 (e₁.extBut _ _ c1 e))
   have u_:=e₃.extBut _ _ Z.z2 (e₂.extBut _ _ Z.z1 jw);refine ab (uG (hsz:=by rw[cM];show 2<=_;decide) (ae ⟨_,rfl,?_⟩));refine q h₃.objs.size x y _ k₃ px py (by rw[sz];exact aB _) (aE _ rfl) ⟨ag _ (k_ _ _ Z.TIz Z.TI1 Z.TI2 rE),⟨a,b,ag _ (k_ _ _ Z.TOz Z.TO1 Z.TO2 vU)⟩,.inr ⟨T0,f,o0,t1,t2,t3,t4,ag _ (k_ _ _ t1 t3 t4 xo),ag _ u_⟩⟩ ?_ ?_ λc o c1 c2 c3 c4 e=>ag _ (k_ c o c1 c3 c4 e)
   ·exact tQ g1 λb o b1 b2 b3 e=>ag _ (e₃.extBut _ _ b3 e)
   ·exact sy g2 λb o b1 b2 b3 e=>ag _ e
def b2u(D1:Draws prog w A i1 fp1 n P1 St1)(Z:ZApart z TI TO i1 i2 fp1 fp2)(hz:a2S s.heap z TI TO i1 i2)(s1:St1 n s.heap)
  (q:∀h' e,(∀c o,c≠z->c≠TO->c≠i1->c≠i2->s.heap.get? c=cz o->h'.get? c=cz o)->(∃o,h'.get? e=cz o/\o.cls=.type "StopIteration")->E (.ref e) {s with heap:=h'}) :
  aD (aT prog w) A (Builtin.«zip.__next__» ⟨[.ref z],[]⟩) Q E s:=by
 have tQ:∀{h h':bR} {j:Nat},St1 j h->(∀b o,b≠z->b≠TO->b≠i2->h.get? b=cz o->h'.get? b=cz o)->St1 j h':=λst k=>D1.frame _ _ _ st λb hb o e=>k b o (λx=>Z.zf1 (x▸hb)) (λx=>Z.Of1 (x▸hb)) (λx=>Z.if1 (x▸hb)) e
 obtain⟨rE,⟨a,b,vU⟩,hz⟩:=hz;rcases hz with hz|⟨T0,f1,o0,t1,t2,t3,t4,xo,hz⟩
 ·show aD _ _ (om (.ref z) 2 >>= _) _ _ _;refine ab (cL hz rfl (x:=.bool rp) rfl ?_);show aD _ _ (om (.ref z) 3 >>= _) _ _ _;refine ab (cL hz rfl (x:=.ref TI) rfl (ab (dG rE rfl ?_)));show aD _ _ (bY (.ref z) >>= _) _ _ _;unfold bY;refine ab (ab (cL hz rfl (x:=.none) rfl (ae ?_)));simp only[jl];refine ab (dQ (ab (cL hz rfl (x:=.ref TO) rfl ?_)));refine ab (fm hz (by simp) λh₁ jw e₁=>ab ?_)
  replace jw:nD h₁ z TI TO .ellipsis:=jw
  simp only[FC,GP,iY,jE];refine ab (ab (xJ ?_));show aD _ _ (cm (.ref i1) >>= _) _ _ _;refine ab (D1.done _ _ _ (tQ s1 λb o b1 _ _ e=>e₁.extBut _ _ b1 e) λh₂ e e₂ he=>?_);obtain⟨oe,yB,AS⟩:=he;have r_:nD h₂ z TI TO .ellipsis:=e₂ _ _ Z.z1 jw;have Ea:e≠z:=λx=>by subst x;rw[r_]at yB;cases yB;simp at AS
  exact fm r_ (by simp) λh₃ _ e₃=>q h₃ e (λc o c1 _ c3 _ x=>e₃.extBut _ _ c1 (e₂ _ _ c3 (e₁.extBut _ _ c1 x))) ⟨oe,e₃.extBut _ _ Ea yB,AS⟩
 ·show aD _ _ (om (.ref z) 2 >>= _) _ _ _;refine ab (cL hz rfl (x:=.bool rp) rfl ?_);show aD _ _ (om (.ref z) 3 >>= _) _ _ _;refine ab (cL hz rfl (x:=.ref TI) rfl (ab (dG rE rfl ?_)));show aD _ _ (bY (.ref z) >>= _) _ _ _;unfold bY;refine ab (ab (cL hz rfl (x:=cV T0) rfl ?_));show aD _ _ (loadIfAlive T0 >>= _) _ _ _;refine ab (a1P ?_);rw[xo,aL (by simp)];refine c_ (Q:=λb s'=>b=rp/\∃h₁,s'={s with heap:=h₁}/\cD z s.heap h₁) ?_ (λb s' hb=>?_) λ_ _ e=>e
  ·refine ab (cL hz rfl (x:=f1) rfl ?_);by_cases c:(f1 !=jq p4)=p4
   ·rw[aG c];exact ab (fm hz (by simp) λh₁ _ e₁=>ae ⟨rfl,h₁,rfl,e₁⟩)
   ·rw[aL c];exact ae ⟨rfl,s.heap,rfl,⟨rfl,λ_ _=>rfl⟩⟩
  ·obtain⟨rfl,h₁,rfl,e₁⟩:=hb;simp only[cP,fF];refine ab (ab (ab (bK ?_)));show aD _ _ (cm (.ref i1) >>= _) _ _ _;exact ab (D1.done _ _ _ (tQ s1 λb o b1 _ _ e=>e₁.extBut _ _ b1 e) λh₂ e e₂ he=>q h₂ e (λc o c1 _ c3 _ x=>e₂ _ _ c3 (e₁.extBut _ _ c1 x)) he)
def b0g(D1:Draws prog w A.in1 i1 fp1 n P1 St1)(D2:Draws prog w A.in1 i2 fp2 n P2 St2)(Z:ZApart z TI TO i1 i2 fp1 fp2)(hz:a2S s.heap z TI TO i1 i2)(hi:i<n)(s1:St1 i s.heap)(s2:St2 i s.heap)
  (q:∀T x y h' tk,P1 i x->P2 i y->s.heap.objs.size<=T->jt h' T x y->a2S h' z TI TO i1 i2->St1 (i+1) h'->St2 (i+1) h'->(∀c o,c≠z->c≠TO->c≠i1->c≠i2->s.heap.get? c=cz o->h'.get? c=cz o)->Q (cz (.ref T)) {s with heap:=h',toks:=tk}) :
  aD (aT prog w) A (fP (.ref z)) Q E s:=by
 have hT:s.TypeIs (.ref z) "zip":=by
  rcases hz.2.2 with h|⟨_,_,_,_,_,_,_,_,h⟩
  ·exact⟨_,h,rfl⟩
  ·exact⟨_,h,rfl⟩
 unfold fP;exact ab (gB (bI (name:=cf "__next__") hT mv (bD mv hT F.entry_zip_next
  (b0f D1 D2 Z hz hi s1 s2 λT x y h' tk a1 a2 a3 a4 a5 a6 a7 a8=>ae (q T x y h' tk a1 a2 a3 a4 a5 a6 a7 a8)) (F.args_zip_next_1 _))))
def b0h(D1:Draws prog w A.in1 i1 fp1 n P1 St1)(Z:ZApart z TI TO i1 i2 fp1 fp2)(hz:a2S s.heap z TI TO i1 i2)(s1:St1 n s.heap)
  (q:∀h',(∀c o,c≠z->c≠TO->c≠i1->c≠i2->s.heap.get? c=cz o->h'.get? c=cz o)->Q el {s with heap:=h'}):aD (aT prog w) A (fP (.ref z)) Q E s:=by
 have hT:s.TypeIs (.ref z) "zip":=by
  rcases hz.2.2 with h|⟨_,_,_,_,_,_,_,_,h⟩
  ·exact⟨_,h,rfl⟩
  ·exact⟨_,h,rfl⟩
 unfold fP;refine ab (gB (bI (name:=cf "__next__") hT mv (bD mv hT F.entry_zip_next (b2u D1 Z hz s1 λh' e hk he=>?_) (F.args_zip_next_1 _))));obtain⟨o,ho,hc⟩:=he;exact ab (ff (T:="StopIteration") (b:=p4) ⟨o,ho,hc⟩ uX (ae (q _ hk)))
end
namespace F
def entry_zip_ga:wj table "zip.__getattribute__"=cz Builtin.«object.__getattribute__»:=
 wg (id':="object.__getattribute__") (by kernel_rfl) (by first|rfl|decide +kernel) (by decide +kernel) (by kernel_rfl)
def lk_zip_keys:oA (.type "zip") "keys"=pure el:=by rw[me,jd];kernel_rfl
def lk_zip_hook:oA (.type "zip") "__getattr__"=pure el:=by rw[me,jd];kernel_rfl
end F
def b2v(a:av)(vs:Array ai)(u:Tok):Meets (Builtin.«object.__getattribute__» ⟨[.ref a,.str "keys" u],[]⟩) (λA R s=>s.heap.get? a=cz {cls:=.type "zip",dict:=el,data:=.fields vs,slots:=#[]}/\raisesAttr (.ref a) "keys" A R s):=
 Meets.of_wp λprog w A R s hs=>by
  obtain⟨hp,g,d,tk,os⟩:=s;obtain⟨hx,hs⟩:=hs;have hT:(⟨hp,g,d,tk,os⟩:ar).TypeIs (.ref a) "zip":=⟨_,hx,rfl⟩;have f4:=F.lk_zip_keys
  repeat (any_goals (first|assumption|wp_step))
  exact wpAny_raiseAttrError hs.1 hs.2 (attrMsg_fits (by decide +kernel) (by size_fits))
def a7E{A:bC}{s:ar}(hA:A.handled=el)(hx:s.heap.get? a=cz {cls:=.type "zip",dict:=el,data:=.fields vs,slots:=#[]})
  (q:∀h' tk,(∀b o,s.heap.get? b=cz o->h'.get? b=cz o)->Q el {s with heap:=h',toks:=tk}):aD (aT prog w) A (getAttr? (.ref a) "keys") Q E s:=by
 obtain⟨hp,g,d,tk,os⟩:=s;have hT:∀wH,(⟨hp,g,d,wH,os⟩:ar).TypeIs (.ref a) "zip":=λ_=>⟨_,hx,rfl⟩
 have f1:=sub_AttributeError;have f3:=lK.lookup;have f4:=lK.bind (.ref a);have f5:=F.lk_zip_hook;unfold getAttr? getAttrBy? getAttrBy
 repeat (any_goals (first|assumption|exact hT _|((with_reducible show aD _ _ (call (zD "zip.__getattribute__") _ _) _ _ _);refine wy lK (hT _) F.entry_zip_ga (F.args_zip_getattribute_2 _ _) (b2v a vs _) ⟨hx,hA,λh' wH e rh=>?_⟩)|wp_step))
 obtain⟨t',u',he⟩:=rh.there;show aD _ _ (getattributeRaised _ _ _ _ _ _ _) _ _ _;unfold getattributeRaised
 repeat (any_goals (first|assumption|wp_step))
 trace_state
 exact q _ _ rh.keeps
end PySem
namespace PySem.F
def entry_dict_update_loop:wj table "dict.update.loop"=cz Builtin.«dict.update.loop»:=entryFor_of_tree (by kernel_rfl)
def plain_dict_update_loop:plainId "dict.update.loop"=p4:=by decide +kernel
end PySem.F
namespace VS
open PySem PySem.Spec L2
def ziE(ns ms:List Int):List (D×V×V):=(ns.zip ms).map λp=>(.int p.1,.int p.1,.int p.2)
section
variable {X:Cx}{pins:List (av×fD)}{Y:L2.St}{H:Hp}{A:bC}{d z TI TO i1 i2:av}{fp1 fp2:List av}{St1 St2:Nat->bR->Prop}{ns ms:List Int}
def b2w(hu:A.units+20<dq)
  (D1:Draws X.prog X.w A.in1.in1 i1 fp1 ns.length (λi v=>∃t,v=.int (ns.getD i 0) t) St1) (D2:Draws X.prog X.w A.in1.in1 i2 fp2 ns.length (λi v=>∃t,v=.int (ms.getD i 0) t) St2) (Z:ZApart z TI TO i1 i2 fp1 fp2)
  (hl:ms.length=ns.length) (i_:ns.Nodup) (hsz:ns.length<aP) (dz:d∉[z,TI,TO,i1,i2]++fp1++fp2):∀(k i:Nat) (s:ar),ns.length-i=k->i<=ns.length->
   Inv X pins Y (upd H d (e6 d (ziE (ns.take i) (ms.take i)))) s->(∀b∈[z,TO,i1,i2],a0o X pins (upd H d (e6 d [])) b)->a2S s.heap z TI TO i1 i2->St1 i s.heap->St2 i s.heap->
   (∀s',Inv X pins Y (upd H d (e6 d (ziE ns ms))) s'->R (.ok (.ret .none)) s')->gH (aT X.prog X.w) A (.builtin "dict.update.loop" ⟨[.ref d,.ref z,cV i,.none],[]⟩) R s:=by
 have dn:∀b,b∈[z,TI,TO,i1,i2]++fp1++fp2->b≠d:=λb hb e=>dz (e▸hb)
 have Bm:∀{o o':HO} {b:av},b≠d->a0o X pins (upd H d o) b->a0o X pins (upd H d o') b:=λhb h=>⟨by rw[f6 hb];have:=h.1;rwa[f6 hb]at this,h.2⟩
 intro k
 induction k with
 |zero=>
  intro i s hk hi I hf hz g1 g2 hR;have e:i=ns.length:=by lia
  subst e;refine dJ PySem.F.entry_dict_update_loop ?_;rw[cU PySem.F.plain_dict_update_loop _];show aD _ A.in1 (fP (.ref z) >>= _) _ _ s;refine ab (b0h D1 Z hz g1 λh' up=>?_);rw[kc,<-hl,kc]at I;refine ab (ae (ae (hR _ ?_)));exact a2f (t':=s.toks) (ch:=[z,TO,i1,i2]) I (λb o hb e=>up b o (λq=>hb (by simp[q])) (λq=>hb (by simp[q])) (λq=>hb (by simp[q])) (λq=>hb (by simp[q])) e) λb hb=>Bm (dn b (by
   simp only[aC,cu,or_false]at hb;rcases hb with rfl|rfl|rfl|rfl<;>simp)) (hf b hb)
 |succ k ih=>
  intro i s hk hi I hf hz g1 g2 hR;have gG:i<ns.length:=by lia
  refine dJ PySem.F.entry_dict_update_loop ?_;rw[cU PySem.F.plain_dict_update_loop _];show aD _ A.in1 (fP (.ref z) >>= _) _ _ s;refine ab (b0g D1 D2 Z hz gG g1 g2 λT x y h' tk px py hT AX CT sx lD up=>?_);obtain⟨tx,rfl⟩:=px;obtain⟨ty,rfl⟩:=py;have I1:Inv X pins Y (upd H d (e6 d (ziE (ns.take i) (ms.take i)))) {s with heap:=h',toks:=tk}:=a2f (t':=tk) (ch:=[z,TO,i1,i2]) I (λb o hb e=>up b o (λq=>hb (by simp[q])) (λq=>hb (by simp[q])) (λq=>hb (by simp[q])) (λq=>hb (by simp[q])) e) λb hb=>Bm (dn b (by
   simp only[aC,cu,or_false]at hb;rcases hb with rfl|rfl|rfl|rfl<;>simp)) (hf b hb)
  refine ab (bK (ab (wpAny_tryCatch ?_)));unfold Builtin.Dict.pairItems;refine ab (gY (show kT {s with heap:=h',toks:=tk} (.ref T) "tuple" from⟨_,AX,rfl⟩) ?_);rw[aG (by decide)];refine ab (dG AX rfl (ae ?_));show aD _ _ (nG _ (Fs d (.int (ns.getD i 0) tx) (.int (ms.getD i 0) ty))) _ _ _;refine bK ?_;unfold Fs
  try with_reducible refine bK ?_
  have kk:keyOk rp (aJ (ns.getD i 0)):=x6 rfl;have AN:∀e∈ziE (ns.take i) (ms.take i),∃n m,n∈ns.take i/\e=(aJ n,V.int n,V.int m):=λe he=>by
   obtain⟨p,hp,rfl⟩:=aR.mp he;exact⟨p.1,p.2,(fW hp).1,rfl⟩
  have K:KeysAt X (upd H d (e6 d (ziE (ns.take i) (ms.take i)))) rp (ziE (ns.take i) (ms.take i)) (.int (ns.getD i 0)) (.int (ns.getD i 0)):=⟨λe he=>by
   obtain⟨n,m,_,rfl⟩:=AN e he;exact⟨x6 rfl,den_int⟩,kk,den_int⟩
  have ja:ns.getD i 0=ns[i]:=by rw[aU,au gG];rfl
  have tL:ms.getD i 0=ms[i]:=by rw[aU,au (by lia)];rfl
  have oN:∀e∈ziE (ns.take i) (ms.take i),e.1≠aJ (ns.getD i 0):=λe he h=>by
   obtain⟨n,m,hn,rfl⟩:=AN e he
   injection h with h
   obtain⟨j,hj,e2⟩:=gy.mp hn;rw[dY]at hj;rw[BE,h,ja]at e2;have tm:j<ns.length:=by lia
   have:=(List.getElem?_inj tm i_).mp (show ns[j]?=ns[i]? by rw[au tm,au gG,e2]);lia
  have hlen:(ziE (ns.take i) (ms.take i)).length=i:=by unfold ziE;rw[ah,dh,dY,dY];lia
  have sY:ziE (ns.take i) (ms.take i)++[(.int (ns.getD i 0),.int (ns.getD i 0),.int (ms.getD i 0))]=ziE (ns.take (i+1)) (ms.take (i+1)):=by
   unfold ziE;rw[nu gG,nu (show i<ms.length by lia),oV (by rw[dY,dY];lia),aM,ja,tL];rfl
  have rk:RelV (V.int (ns.getD i 0)) (jo (ns.getD i 0) tx):=⟨tx,rfl⟩;have rv:RelV (V.int (ms.getD i 0)) (jo (ms.getD i 0) ty):=⟨ty,rfl⟩;refine ab (X9 I1 (by show A.units+1+10<_;lia) K.key K.den rk ?_);refine a5X (s:={s with heap:=h',toks:=tk+u5 (aJ (ns.getD i 0))}) (I1.tok _) (by show A.units+1+10<_;lia) i4 K rk rv (by rw[hlen];lia) oN λh2 I2 sb=>?_
  rw[sY,show upd (upd H d (e6 d (ziE (ns.take i) (ms.take i)))) d (e6 d (ziE (ns.take (i+1)) (ms.take (i+1))))=upd H d (e6 d (ziE (ns.take (i+1)) (ms.take (i+1)))) from funext λb=>by unfold upd;split<;>rfl]at I2;have rW:∀b o,b≠d->h'.get? b=cz o->h2.get? b=cz o:=λb o hb e=>sb.extBut b o hb e
  refine ae ⟨eY PySem.F.plain_dict_update_loop _,?_⟩;have:=ih (i+1) {s with heap:=h2,toks:=tk+u5 (aJ (ns.getD i 0))} (by lia) gG I2 hf ?_ (D1.frame _ _ _ sx λb hb o e=>rW b o (dn b (by simp[hb])) e) (D2.frame _ _ _ lD λb hb o e=>rW b o (dn b (by simp[hb])) e) hR
  ·exact this
  ·obtain⟨a1,⟨p,q,a2⟩,a3⟩:=CT;refine⟨rW _ _ (dn TI (by simp)) a1,⟨p,q,rW _ _ (dn TO (by simp)) a2⟩,?_⟩;rcases a3 with a3|⟨T0,f1,o0,t1,t2,t3,t4,t5,t6⟩
   ·exact .inl (rW _ _ (dn z (by simp)) a3)
   ·by_cases c:T0=d
    ·subst c;obtain⟨o',mW⟩:∃o',h2.get? T0=cz o':=by
      obtain⟨_,_,_,o,_,_,h1,_⟩:=q8 I2 i4;exact⟨o,h1⟩
     exact .inr ⟨T0,f1,o',t1,t2,t3,t4,mW,rW _ _ (dn z (by simp)) t6⟩
    ·exact .inr ⟨T0,f1,o0,t1,t2,t3,t4,rW _ _ c t5,rW _ _ (dn z (by simp)) t6⟩
end
end VS
namespace PySem
abbrev a8G(h:bR)(l1:av):bR:=h.push {cls:=.type "tuple_iterator",data:=.fields #[.ref l1,.int 0 0]}
abbrev a8H(h:bR)(l1 l2:av):bR:=(a8G h l1).push {cls:=.type "tuple_iterator",data:=.fields #[.ref l2,.int 0 0]}
abbrev a8I(h:bR)(l1 l2:av):bR:=(a8H h l1 l2).push {cls:=.type "tuple",data:=.seq #[.ref h.objs.size,.ref (a8G h l1).objs.size]}
abbrev a8J(h:bR)(l1 l2:av):bR:=(a8I h l1 l2).push {cls:=.type "tuple",data:=.seq #[.none,.none]}
abbrev a4r(h:bR)(l1 l2:av):bR:=(a8J h l1 l2).push {cls:=.type "zip",data:=.fields #[.none,.bool rp,.bool rp,.ref (a8H h l1 l2).objs.size,.ref (a8I h l1 l2).objs.size]}
def a7F(l1 l2:av)(xs ys:Array ai):Meets (Builtin.«zip.__new__» ⟨[.type "zip",.ref l1,.ref l2],[]⟩) (λ_ R s=>s.heap.IsTuple l1 xs/\s.heap.IsTuple l2 ys/\R (.ok (.ret (.ref (a8J s.heap l1 l2).objs.size))) {s with heap:=a4r s.heap l1 l2}):=
 .of_wp λprog w A R s h=>by
  obtain⟨hp,g,d,tk,os⟩:=s;obtain⟨si,vB,h⟩:=h;have jm:=sub_zip;have EO:bR.IsTuple (ar.heap ⟨hp,g,d,tk,os⟩) l1 xs:=si;have EN:bR.IsTuple (ar.heap ⟨hp.push {cls:=.type "tuple_iterator",data:=.fields #[.ref l1,.int 0 0]},g,d,tk,os⟩) l2 ys:=bR.IsTuple.push vB _
  wp_walk using wpAny_pyIter_tuple EO,wpAny_pyIter_tuple EN
  exact⟨_,rfl,h⟩
section
variable {prog:bw}{w:bO}{A:bC}{E:ai->ar->Prop}{s:ar}
def b0i(si:s.heap.IsTuple l1 xs)(vB:s.heap.IsTuple l2 ys)
  (q:∀h',nD h' (s.heap.objs.size+4) (s.heap.objs.size+2) (s.heap.objs.size+3) .none->jt h' (s.heap.objs.size+2) (.ref s.heap.objs.size) (.ref (s.heap.objs.size+1))->jt h' (s.heap.objs.size+3) .none .none->h'.IsTupleIter s.heap.objs.size l1 0->h'.IsTupleIter (s.heap.objs.size+1) l2 0->
   (∀c o,s.heap.get? c=cz o->h'.get? c=cz o)->Q (.ref (s.heap.objs.size+4)) {s with heap:=h'}):aD (aT prog w) A (call (.type "zip") [.ref l1,.ref l2]) Q E s:=by
 refine callType_new F.called_zip (by decide) (F.typeCall_zip_2 _ _) (F.newCall_zip_2 _ _) (λobj=>F.args_object_init_3 obj _ _) F.entry_zip_new (a7F l1 l2 xs ys) ⟨si,vB,?_⟩;have z1:(a8G s.heap l1).objs.size=s.heap.objs.size+1:=cH ..;have z2:(a8H s.heap l1 l2).objs.size=s.heap.objs.size+2:=by rw[cH,z1]
 have z3:(a8I s.heap l1 l2).objs.size=s.heap.objs.size+3:=by rw[cH,z2]
 have z4:(a8J s.heap l1 l2).objs.size=s.heap.objs.size+4:=by rw[cH,z3]
 have up:∀{h:bR} {o:fD} {c:av} {u:fD},h.get? c=cz u->(h.push o).get? c=cz u:=λe=>ag _ e
 have g5:(a4r s.heap l1 l2).get? (a8J s.heap l1 l2).objs.size=cz _:=aE _ rfl;have g4:(a4r s.heap l1 l2).get? (a8I s.heap l1 l2).objs.size=cz _:=up (aE _ rfl);have g3:(a4r s.heap l1 l2).get? (a8H s.heap l1 l2).objs.size=cz _:=up (up (aE _ rfl));have g2:(a4r s.heap l1 l2).get? (a8G s.heap l1).objs.size=cz _:=up (up (up (aE _ rfl)));have g1:(a4r s.heap l1 l2).get? s.heap.objs.size=cz _:=up (up (up (up (aE _ rfl))));show _/\_;rw[z2,z3,z4]at g5;rw[z1,z2]at g3;rw[z3]at g4;rw[z1]at g2;rw[z4];exact⟨⟨_,g5,rfl⟩,q _ g5 g3 g4 ⟨_,g1,rfl,rfl⟩ ⟨_,g2,rfl,rfl⟩ λc o x=>up (up (up (up (up x))))⟩
end
end PySem
namespace VS
open PySem PySem.Spec L2
section
variable {X:Cx}{pins:List (av×fD)}{Y:L2.St}{H:Hp}{s:ar}{z TI TO i1 i2:av}{fp1 fp2:List av}{St1 St2:Nat->bR->Prop}{ns ms:List Int}
def b2x(hc:X.calm=p4)(hu:X.A.units+40<dq)(I:Inv X pins Y H s)
  (D1:∀A:bC,A.handled=el->Draws X.prog X.w A i1 fp1 ns.length (λi v=>∃t,v=.int (ns.getD i 0) t) St1) (D2:∀A:bC,A.handled=el->Draws X.prog X.w A i2 fp2 ns.length (λi v=>∃t,v=.int (ms.getD i 0) t) St2) (Z:ZApart z TI TO i1 i2 fp1 fp2)
  (hl:ms.length=ns.length) (i_:ns.Nodup) (hsz:ns.length<aP) (gG:∀b∈[z,TI,TO,i1,i2]++fp1++fp2,b<s.heap.objs.size) (hf:∀b∈[z,TO,i1,i2],a0o X pins H b) (hz:nD s.heap z TI TO .none) (rE:jt s.heap TI (.ref i1) (.ref i2)) (vU:jt s.heap TO .none .none) (g1:St1 0 s.heap) (g2:St2 0 s.heap)
  (q:∀d,H d=el->Q (.ref d) (upd H d (e6 d (ziE ns ms)))):aD (aT X.prog X.w) X.A (call (.type "dict") [.ref z]) (EP X pins Y Q) X.xe s:=by
 have hh:X.A.handled=el:=I.ok.hd hc;refine wz (Q₁:=λobj s₁=>obj=.ref s.heap.objs.size/\s₁={s with heap:=s.heap.push {cls:=.type "dict",data:=.dict #[]}}) PySem.F.kt_called_dict (PySem.F.kt_typeCall_dict_1 _) PySem.F.entry_dict_init (kt_code_dict_new _ ⟨rfl,rfl⟩) ?_;rintro obj s₁ ⟨rfl,rfl⟩;have oO:(s.heap.push {cls:=.type "dict",data:=.dict #[]}).DictOf (cQ X.prog X.w) s.heap.objs.size []:=bR.DictOf.new s.heap;refine⟨oO.typeIs,PySem.F.args_dict_init_2 _ _,?_⟩;have sN:nD (s.heap.push {cls:=.type "dict",data:=.dict #[]}) z TI TO .none:=ag _ hz;unfold Builtin.«dict.__init__»;refine ab ?_;unfold kX;refine ab (fA oO.typeIs ?_);show aD _ _ (pure (s.heap.objs.size,[a_ z])) _ _ _;refine ae ?_;show aD _ _ (eR "dict.__init__" s.heap.objs.size (.ref z) [] .none) _ _ _;unfold eR;refine ab (gY (T:="zip") ⟨_,sN,rfl⟩ ?_);rw[aG (by decide)];refine ab (a7E hh sN λh2 tk up=>?_);rw[aG (show (el:Option ai).isNone=p4 from rfl)];have keep:∀b o,s.heap.get? b=cz o->h2.get? b=cz o:=λb o e=>up b o (ag _ e)
 have Ag:nD h2 z TI TO .none:=keep _ _ hz;refine ab (dQ (ab (wpAny_pyIter_zip Ag (ae ⟨eY PySem.F.plain_dict_update_loop _,?_⟩))));have y_:H s.heap.objs.size=el:=I.hok.fresh (aB _);have nd:∀b∈[z,TI,TO,i1,i2]++fp1++fp2,b≠s.heap.objs.size:=λb hb e=>absurd (gG b hb) (by rw[e];exact dg _)
 have I0:Inv X pins Y (upd H s.heap.objs.size (e6 s.heap.objs.size [])) {s with heap:=s.heap.push {cls:=.type "dict",data:=.dict #[]}}:=I.laid (a:=s.heap.objs.size) (o:=e6 s.heap.objs.size []) (t':=s.toks) (λ_ _ q=>ag _ q) (aB _) (a1H s.heap I.sysBelow);have I1:Inv X pins Y (upd H s.heap.objs.size (e6 s.heap.objs.size [])) {s with heap:=h2,toks:=tk}:=I0.kept (t':=tk) up;refine b2w (X:=X) (pins:=pins) (Y:=Y) (H:=H) (A:=X.A.in1) (d:=s.heap.objs.size) (z:=z) (ns:=ns) (ms:=ms) (by show X.A.units+1+20<_;lia) (D1 _ hh) (D2 _ hh) Z hl i_ hsz (λhb=>nd _ hb rfl) ns.length 0 {s with heap:=h2,toks:=tk} rfl (b_ _) I1 (λb hb=>?_) ⟨keep _ _ rE,⟨_,_,keep _ _ vU⟩,.inl Ag⟩
  ((D1 _ hh).frame _ _ _ g1 λb _ o e=>keep b o e) ((D2 _ hh).frame _ _ _ g2 λb _ o e=>keep b o e) λs' I'=>⟨rfl,.ref s.heap.objs.size,_,I',rfl,q _ y_⟩
 have xm:b∈[z,TI,TO,i1,i2]++fp1++fp2:=by
  simp only[aC,cu,or_false]at hb;rcases hb with rfl|rfl|rfl|rfl<;>simp
 exact⟨by rw[f6 (nd b xm)];exact (hf b hb).1,(hf b hb).2⟩
end
end VS
namespace PySem
def Draws.imp(D:Draws prog w A it fp n P St)(h:∀i v,i<n->P i v->P' i v):Draws prog w A it fp n P' St:=
 ⟨D.live,D.frame,λi s Q E hi st q=>D.item i s Q E hi st λx h' tk p=>q x h' tk (h i x hi p),D.done⟩
def b2y:gh "zip"=cz (.type "zip"):=by kernel_rfl
end PySem
namespace VS
open PySem PySem.Spec L2
def SqI(K:af)(H:Hp)(l:Bool)(a:av)(ns:List Int):Prop:=if l then SqL K H a (ns.map V.int) else SqT K H a (ns.map V.int)
def a2h{ns:List Int}(h:Vals (ns.map V.int) cK):cK.length=ns.length/\∀(i:Nat) (v:ai),cK[i]?=cz v->∃t,v=.int (ns.getD i 0) t:=by
 refine⟨by rw[<-h.length,ah],λi v hv=>?_⟩;have hi:i<ns.length:=by rw[<-ah (f:=V.int),h.length];exact (aO.mp hv).1
 obtain⟨u,hu,r⟩:=h.get (show (ns.map V.int)[i]?=cz (V.int (ns.getD i 0)) by rw[aX,au hi,aU,au hi];rfl);rw[hv]at hu;cases hu
 exact r
section
variable {X:Cx}{M:List Md}{a b:Expr}{fa fb:EvE}{ca cb:Cat}{pos gk p p2:eM}
def tDZ(X:Cx)(l:Bool)(t:TA):TE:=λY H Q=>t Y H λxs H1=>∃u v ns ms,xs=[.ref u,.ref v]/\SqI X.K H1 l u ns/\SqI X.K H1 l v ms/\ms.length=ns.length/\ns.Nodup/\ns.length<aP/\∀d,H1 d=el->Q (.ref d) (upd H1 d (e6 d (ziE ns ms)))
def a7G(hc:X.calm=p4)(hu:X.A.units+40<dq)(yH:X.mg "dict"=el)(yG:X.mg "zip"=el)(ha:PA X [a,b] t)(yT:Gl X "dict":=by rfl)(yR:Gl X "zip":=by rfl)
  (he:ax [a,b] X.env=(rp,cy a X.env)::ax [b] X.env:=by rfl) (fV:(cB gk (ax [b] X.env)).any (·.1)=rp:=by rfl)
  (mi:ax [.Call (.Name "zip" p2) [a,b] [] gk] X.env=(rp,cy (.Call (.Name "zip" p2) [a,b] [] gk) X.env)::ax [] X.env:=by rfl) (nO:(cB pos (ax [] X.env)).any (·.1)=rp:=by rfl) :
  PE X (.Call (.Name "dict" p) [.Call (.Name "zip" p2) [a,b] [] gk] [] pos) (tDZ X l t):=by
 intro pins s Y H Q I h;refine fq (Z8 I yT yH PyProof.Rows.Boot.«dict» ?_ (by decide) (by decide));refine eL ?_ mi nO;rw[mi];show aD _ _ (spliced ((rp,cy (.Call (.Name "zip" p2) [a,b] [] gk) X.env)::cB pos (ax [] X.env))) _ _ s;refine Calls.spliced_cons ?_;refine fq (Z8 I yR yG b2y ?_ (by decide) (by decide));refine eL (L2.thn (ha gk pins s Y H _ I h) λus s1 ⟨xs,H1,I1,r1,q1⟩=>?_) he fV;obtain⟨u,v,ns,ms,rfl,Aq,Ap,hl,i_,hsz,q⟩:=q1;cases r1 with
 |cons r rr=>
  cases rr with
  |cons r' Cf=>
   cases Cf
   cases (show _=a_ u from r)
   cases (show _=a_ v from r')
   have fin:∀(h':bR) (fp1 fp2:List av) (St1 St2:Nat->bR->Prop),nD h' (s1.heap.objs.size+4) (s1.heap.objs.size+2) (s1.heap.objs.size+3) .none->jt h' (s1.heap.objs.size+2) (.ref s1.heap.objs.size) (.ref (s1.heap.objs.size+1))->jt h' (s1.heap.objs.size+3) .none .none->(∀c o,s1.heap.get? c=cz o->h'.get? c=cz o)->
     (∀A:bC,A.handled=el->Draws X.prog X.w A s1.heap.objs.size fp1 ns.length (λi v=>∃t,v=.int (ns.getD i 0) t) St1)->(∀A:bC,A.handled=el->Draws X.prog X.w A (s1.heap.objs.size+1) fp2 ns.length (λi v=>∃t,v=.int (ms.getD i 0) t) St2)->
     (∀b:Nat,b∈fp1->b<=s1.heap.objs.size)->(∀b:Nat,b∈fp2->b<s1.heap.objs.size\/b=s1.heap.objs.size+1)->St1 0 h'->St2 0 h'->
     aD (aT X.prog X.w) X.A (spliced (cB pos (ax [] X.env))) (λvs s2=>aD (aT X.prog X.w) X.A (call (.type "dict") (.ref (s1.heap.objs.size+4)::vs)) (EP X pins Y Q) X.xe s2) X.xe {s1 with heap:=h'}:=by
    intro h' fp1 fp2 St1 St2 z1 z2 z3 keep D1 D2 f1 f2 g1 g2;refine Calls.spliced_nil ?_;have I2:Inv X pins Y H1 {s1 with heap:=h'}:=I1.kept (t':=s1.toks) keep;have CS:s1.heap.objs.size+4<h'.objs.size:=aF z1;refine b2x (X:=X) (ns:=ns) (ms:=ms) (z:=s1.heap.objs.size+4) (TI:=s1.heap.objs.size+2) (TO:=s1.heap.objs.size+3) (i1:=s1.heap.objs.size) (i2:=s1.heap.objs.size+1) (fp1:=fp1) (fp2:=fp2) (St1:=St1) (St2:=St2) hc hu I2 D1 D2 ?_ hl i_ hsz (λb hb=>?_) (λb hb=>?_) z1 z2 z3 g1 g2 q
    ·have n1:∀k,1<=k->s1.heap.objs.size+k∉fp1:=λk hk hb=>by have:=f1 _ hb;lia
     have n2:∀k,k≠1->s1.heap.objs.size+k∉fp2:=λk hk hb=>by rcases f2 _ hb with z|z<;>lia
     have ne:∀i j:Nat,i≠j->(s1.heap.objs.size+i:Nat)≠s1.heap.objs.size+j:=λi j h=>by lia
     exact⟨ne 2 4 (by lia),ne 3 4 (by lia),ne 2 3 (by lia),ne 0 1 (by lia),ne 2 0 (by lia),ne 2 1 (by lia),ne 3 0 (by lia),ne 3 1 (by lia),ne 4 0 (by lia),ne 4 1 (by lia),n1 4 (by lia),n2 4 (by lia),n1 3 (by lia),n2 3 (by lia),n2 0 (by lia),n1 1 (by lia)⟩
    ·have hk:∀k:Nat,k<=4->s1.heap.objs.size+k<h'.objs.size:=λk hk=>hU (Nat.add_le_add_left hk _) CS
     show b<h'.objs.size;rcases az.mp hb with hb|hb
     ·rcases az.mp hb with hb|hb
      ·simp only[aC,cu,or_false]at hb;rcases hb with rfl|rfl|rfl|rfl|rfl
       ·exact hk 4 (by decide)
       ·exact hk 2 (by decide)
       ·exact hk 3 (by decide)
       ·exact hk 0 (by decide)
       ·exact hk 1 (by decide)
      ·exact hU (f1 _ hb) (hk 0 (by decide))
     ·rcases f2 _ hb with z|z
      ·exact fu z (hk 0 (by decide))
      ·rw[z];exact hk 1 (by decide)
    ·have jK:s1.heap.objs.size<=b:=by
      simp only[aC,cu,or_false]at hb;rcases hb with rfl|rfl|rfl|rfl
      ·exact nX _ _
      ·exact nX _ _
      ·exact aB _
      ·exact nX _ _
     exact I1.fpOk jK (I1.hok.fresh jK)
   cases l with
   |true=>
    obtain⟨t1,v1,p1,_⟩:=I1.list (show SqL X.K H1 u (ns.map V.int) from Aq);obtain⟨t2,v2,uS,_⟩:=I1.list (show SqL X.K H1 v (ms.map V.int) from Ap);obtain⟨l1,e1⟩:=a2h v1;obtain⟨l2,e2⟩:=a2h v2;have lu:(u:Nat)<s1.heap.objs.size:=by obtain⟨o,ho,_⟩:=p1.isList;exact aF ho
    have lv:(v:Nat)<s1.heap.objs.size:=by obtain⟨o,ho,_⟩:=uS.isList;exact aF ho
    refine call_zip_2 p1.isList uS.isList λh' z1 z2 z3 y1 y2 _ keep=>?_
    refine fin h' [s1.heap.objs.size,u] [s1.heap.objs.size+1,v] _ _ z1 z2 z3 keep (λA hA=>(show ns.length=t1.toArray.size by simp[l1])▸(Draws.list (prog:=X.prog) (w:=X.w) (A:=A) hA s1.heap.objs.size u (ba lu) t1.toArray).imp λi v _ h=>e1 i v (by simpa using h)) (λA hA=>(show ns.length=t2.toArray.size by simp[l2,hl])▸(Draws.list (prog:=X.prog) (w:=X.w) (A:=A) hA (s1.heap.objs.size+1) v (ba (gf lv)) t2.toArray).imp λi v _ h=>e2 i v (by simpa using h)) (λb hb=>?_) (λb hb=>?_) ⟨y1,p1.isList.at λo e=>keep _ o e⟩ ⟨y2,uS.isList.at λo e=>keep _ o e⟩
    ·simp only[aC,cu,or_false]at hb;rcases hb with hb|hb
     ·rw[hb];exact aB _
     ·rw[hb];exact dC lu
    ·simp only[aC,cu,or_false]at hb;rcases hb with hb|hb
     ·exact .inr hb
     ·rw[hb];exact .inl lv
   |false=>
    obtain⟨t1,v1,p1,_⟩:=I1.tuple (show SqT X.K H1 u (ns.map V.int) from Aq);obtain⟨t2,v2,uS,_⟩:=I1.tuple (show SqT X.K H1 v (ms.map V.int) from Ap);obtain⟨l1,e1⟩:=a2h v1;obtain⟨l2,e2⟩:=a2h v2;have q1:s1.heap.IsTuple u t1.toArray:=p1;have q2:s1.heap.IsTuple v t2.toArray:=uS;have lu:(u:Nat)<s1.heap.objs.size:=by obtain⟨o,ho,_⟩:=q1;exact aF ho
    have lv:(v:Nat)<s1.heap.objs.size:=by obtain⟨o,ho,_⟩:=q2;exact aF ho
    refine b0i q1 q2 λh' z1 z2 z3 y1 y2 keep=>?_
    refine fin h' [s1.heap.objs.size,u] [s1.heap.objs.size+1,v] _ _ z1 z2 z3 keep (λA hA=>(show ns.length=t1.toArray.size by simp[l1])▸(Draws.tup (prog:=X.prog) (w:=X.w) (A:=A) hA s1.heap.objs.size u (ba lu) t1.toArray).imp λi v _ h=>e1 i v (by simpa using h)) (λA hA=>(show ns.length=t2.toArray.size by simp[l2,hl])▸(Draws.tup (prog:=X.prog) (w:=X.w) (A:=A) hA (s1.heap.objs.size+1) v (ba (gf lv)) t2.toArray).imp λi v _ h=>e2 i v (by simpa using h)) (λb hb=>?_) (λb hb=>?_) ⟨y1,let⟨o,ho,r⟩:=q1;⟨o,keep _ o ho,r⟩⟩ ⟨y2,let⟨o,ho,r⟩:=q2;⟨o,keep _ o ho,r⟩⟩
    ·simp only[aC,cu,or_false]at hb;rcases hb with hb|hb
     ·rw[hb];exact aB _
     ·rw[hb];exact dC lu
    ·simp only[aC,cu,or_false]at hb;rcases hb with hb|hb
     ·exact .inr hb
     ·rw[hb];exact .inl lv
end
def b4C(l:Bool):D->Option (List Int)
 |.list ds=>if l then intsOf ds else el
 |.tuple ds=>if l then el else intsOf ds
 |_=>el
def a8K(ns ms:List Int):Bool:=decide (ms.length=ns.length)&&(decide ns.Nodup&&decide (ns.length<1000000))
def ziD(ns ms:List Int):List (D×D):=(ns.zip ms).map λp=>(.int p.1,.int p.2)
def K2(l:Bool)(fa fb:EvE):EvE:=λU=>(fa U).bind λd=>(fb U).bind λe=>(b4C l d).bind λns=>(b4C l e).bind λms=>if a8K ns ms then cz (.dict (ziD ns ms)) else el
theorem a0L(h:∀m,R (V.int m) (.int m) []):∀ms:List Int,ListAll R (ms.map V.int) (ms.map aJ) []
 |[]=>m7
 |m::ms=>m4 (f:=[]) (h m) (a0L h ms)
theorem a0M:∀{ns ms:List Int},ms.length=ns.length->(ziE ns ms).map (·.1)=ns.map aJ/\(ziE ns ms).map (·.2.2)=ms.map V.int
 |[],[],_=>⟨rfl,rfl⟩
 |[],_::_,h=>by simp at h
 |_::_,[],h=>by simp at h
 |n::ns,m::ms,h=>by
  obtain⟨h1,h2⟩:=a0M (ns:=ns) (ms:=ms) (by simpa using h);exact⟨eE (aJ n::·) h1,eE (V.int m::·) h2⟩
theorem a8L:∀{ns ms:List Int},ms.length=ns.length->ziD ns ms=(ns.map aJ).zip (ms.map .int)
 |[],[],_=>rfl
 |[],_::_,h=>by simp at h
 |_::_,[],h=>by simp at h
 |n::ns,m::ms,h=>by
  have:=a8L (ns:=ns) (ms:=ms) (by simpa using h);exact eE ((aJ n,aJ m)::·) this
section
variable {X:Cx}{M:List Md}{a b:Expr}{fa fb:EvE}{ca cb:Cat}{pos gk p p2:eM}{K:af}{H H':Hp}{F:List av}
def a6n(h:b4C l d=cz ns)(hd:Den K (cut H F) v d):∃u,v=.ref u/\∀H',Same (cut H F) H'->SqI K H' l u ns:=by
 cases d with
 |list ds=>
  cases l with
  |true=>
   have e:=K0 (show intsOf ds=cz ns from h);subst e;obtain⟨u,xs,rfl,k1,k2⟩:=hd.list_inv;rw[W5 k2]at k1;exact⟨u,rfl,λH' s=>(V7 k1 s).l⟩
  |false=>cases h
 |tuple ds=>
  cases l with
  |false=>
   have e:=K0 (show intsOf ds=cz ns from h);subst e;obtain⟨u,xs,rfl,k1,k2⟩:=hd.tup_inv;rw[W5 k2]at k1;exact⟨u,rfl,λH' s=>P5 k1 s⟩
  |true=>cases h
 |_=>cases h
def a2T(l:Bool)(hc:X.calm=p4)(hu:X.A.units+464<dq)(yH:X.mg "dict"=el)(yG:X.mg "zip"=el)(ha:PX X M a fa ca)(hb:PX X M b fb cb)(Em:frozen ca:=by trivial)(El:frozen cb:=by trivial)(yT:Gl X "dict":=by rfl)(yR:Gl X "zip":=by rfl)
  (he:ax [a,b] X.env=(rp,cy a X.env)::ax [b] X.env:=by rfl) (Ec:ax [b] X.env=(rp,cy b X.env)::ax [] X.env:=by rfl) (fV:(cB gk (ax [b] X.env)).any (·.1)=rp:=by rfl)
  (mi:ax [.Call (.Name "zip" p2) [a,b] [] gk] X.env=(rp,cy (.Call (.Name "zip" p2) [a,b] [] gk) X.env)::ax [] X.env:=by rfl) (nO:(cB pos (ax [] X.env)).any (·.1)=rp:=by rfl) :
  PX X M (.Call (.Name "dict" p) [.Call (.Name "zip" p2) [a,b] [] gk] [] pos) (K2 l fa fb) (.new (.d rp .i)):=by
 obtain⟨ta,pa,qa⟩:=ha.out;obtain⟨tb,pb,qb⟩:=hb.out;refine .mk ⟨_,a7G (l:=l) hc (by lia) yH yG (m5 pa (m5 pb s9 Ec) he) yT yR he fV mi nO,λU Y H P F d Q S hf q=>?_⟩;obtain⟨x,h1,g1⟩:=bnd hf;obtain⟨y,h2,g2⟩:=bnd g1;obtain⟨ns,h3,g3⟩:=bnd g2;obtain⟨ms,h4,g4⟩:=bnd g3;by_cases c:a8K ns ms=p4
 ·rw[aG c]at g4;cases g4
  simp only[a8K,aw,cY]at c;obtain⟨c1,c2,c3⟩:=c;refine qa U Y H P F _ _ S h1 λv H1 e1 r1=>?_
  obtain⟨u,rfl,su⟩:=a6n h3 (J8 Em r1);refine qb U Y H1 P F _ _ (S.grow e1) h2 λw H2 e2 r2=>?_
  obtain⟨u2,rfl,sw⟩:=a6n h4 (J8 El r2);refine⟨u,u2,ns,ms,rfl,su H2 (i7.trans e2),sw H2 i7,c1,c2,fu c3 (by rw[cM];decide),λz hz=>?_⟩;refine q _ _ ((e1.trans e2).trans (k6 hz _)) ⟨[z],?_,br.mpr ⟨λw=>(nomatch w),bp⟩,λb hb=>?_⟩
  ·simp only[Own];refine⟨z,ziE ns ms,ms.map .int,[],rfl,i4,?_,rfl,⟨?_,λe he=>?_⟩,?_⟩
   ·rw[(a0M c1).1,a8L c1]
   ·rw[(a0M c1).1];exact BJ _ (λx y h e=>h (by injection e)) c2
   ·obtain⟨pr,_,rfl⟩:=aR.mp he;exact⟨x6 rfl,den_int⟩
   ·rw[(a0M c1).2];exact a0L (λm=>⟨rfl,a0D,den_int⟩) ms
  ·rw[ao.mp hb];cases hH:H z with
   |none=>rfl
   |some y=>rw[e2 _ _ (e1 _ _ hH)]at hz;cases hz
 ·rw[aL c]at g4;cases g4
end
def a2U(i:Nat)(kt kt2:Bool)(fk fj fr fv:EvE):EvS:=λU=>(fk U).bind λk=>match U.getD i .none with
 |.dict kvs=>if o9 kt k&&decide (kvs.length<1000000) then
   (fj (U.set i (.dict (p5 kvs k (.dict []))))).bind λj=>match D4 (p5 kvs k (.dict [])) k with
    |some (.dict nM)=>if o9 kt2 j&&decide (nM.length<1000000) then
      if y6 nM j then (fr (U.set i (.dict (p5 kvs k (.dict []))))).bind λd=>cz (.rt d)
      else (fv (U.set i (.dict (p5 kvs k (.dict []))))).bind λd=>cz (.nx ((U.set i (.dict (p5 kvs k (.dict [])))).set i (.dict (p6 (p5 kvs k (.dict [])) k (.dict (p6 nM j d))))))
     else el
    |_=>el
  else el
 |_=>el
section
variable {X:Cx}{M M' M2 ML:List Md}{k j j2 v:Expr}{fk fj fr fv:EvE}{ret:g_}{wq rf zV:eM}{kt kt2:Bool}{w:Ty}{pos apos cF ir gk lY:eM}
def b2z(i y:Nat)(hu:X.A.units+464<dq)(EK:X.N.Nodup)(hk:PX X M k fk (.new .i))(hj:PX X M j fj (.new .i))(tm:PX X M j2 fj (.new .i))(yq:PSX X w ML M ret (l5 fr) M2)(hv:PX X M v fv (.new .i))(jx:PSsX X w ML M sts g M')(xb:kt2=rp:=by rfl)
  (hN:X.N[i]?=cz x:=by rfl) (zo:X.N[y]?=cz yn:=by rfl) (hm:M[i]?=cz (.own (.d kt (.d kt2 .i))):=by rfl) (vy:M[y]?=cz .dead:=by rfl)
  (nF:autoParam (NmV X x) ZY._auto_1)
  (uh:autoParam (NmV X yn) ZY._auto_1)
  (DJ:autoParam (Loc X.env.scope yn) ZW._auto_1) (vJ:autoParam (X.fn yn=p4\/X.env.scope.names.lookup yn=cz .local) ZV._auto_1)
  (eD:cZ (.Name x px) "setdefault" X.env (cy (.Name x px) X.env)=cy (.Name x px) X.env:=by rfl)
  (lr:((cB cF (ax [k,.Dict [] [] lY] X.env)).all (λx=>!x.1)&&(qw cF (kF [] X.env)).all (λx=>x.1.isSome)
   && decide (([k,.Dict [] [] lY]:List Expr).length+([]:List iQ).length+(if ([]:List iQ).isEmpty then 0 else 1)<30))=p4:=by rfl)
  (eB:(apos.endLine==cF.line)=p4:=by rfl) (hs:ax [k,.Dict [] [] lY] X.env=(rp,cy k X.env)::ax [.Dict [] [] lY] X.env:=by rfl) (yp:ax [.Dict [] [] lY] X.env=(rp,cy (.Dict [] [] lY) X.env)::ax [] X.env:=by rfl)
  (ig:(cB cF (ax [.Dict [] [] lY] X.env)).any (·.1)=rp:=by rfl)
  (oI:fE (.Call (.Attribute (.Name x px) "setdefault" apos) [k,.Dict [] [] lY] [] cF) (cz (.Name yn pz)) pos.line X.env=pure rp:=by rfl)
  (ym:fE v (cz (.Subscript (.Name yn py) j2 ir)) gk.line X.env=pure rp:=by rfl) (DH:autoParam (et .In (.Name yn zV)=rp) ZX._auto_1) :
  PSsX X w ML M (.Assign [.Name yn pz] (.Call (.Attribute (.Name x px) "setdefault" apos) [k,.Dict [] [] lY] [] cF) pos::.If (.Compare j [.In] [.Name yn zV] wq) [ret] [] rf::.Assign [.Subscript (.Name yn py) j2 ir] v gk::sts) (g9 (a2U i kt kt2 fk fj fr fv) g) M':=by
 obtain⟨tk,pk,qk⟩:=hk.out;obtain⟨tj,pj,qj⟩:=hj.out;obtain⟨B_,Cr,Ck⟩:=tm.out;obtain⟨tt,pt,qt⟩:=yq.out;obtain⟨tv,pv,qv⟩:=hv.out;obtain⟨tr,pr,qr⟩:=jx.out;refine .mk ⟨_,V1 (b0H EK zo DJ (b1F PySem.F.slot_dict_setdefault PySem.F.type_dict_setdefault (b4e hu) (C4 hN nF.1 nF.2.1 nF.2.2) (m5 pk (m5 a5T s9 yp) hs) eD lr eB hs ig) oI vJ) (V1 (b0E (a0p (b1D hu) pj (C4 zo uh.1 uh.2.1 uh.2.2) DH) (V1 pt a2a) a2a) (V1 (a8v hu (C4 zo uh.1 uh.2.1 uh.2.2) Cr pv ym) pr)),λD U Y H P F o S hg kk=>?_⟩;obtain⟨o1,h1,g1⟩:=bnd hg;obtain⟨y0,CV,h1⟩:=bnd h1;obtain⟨a,es,ds,fs,ha,hH,hU,_⟩:=S.toE.dict hm;rw[hU]at h1
 let kvs:List (VS.D×VS.D):=(es.map (·.1)).zip ds
 have lC:(if (o9 kt y0&&decide (kvs.length<1000000))=p4 then (fj (U.set i (.dict (p5 kvs y0 (.dict []))))).bind λj=>match D4 (p5 kvs y0 (.dict [])) y0 with
    |some (.dict nM)=>if o9 kt2 j&&decide (nM.length<1000000) then
      if y6 nM j then (fr (U.set i (.dict (p5 kvs y0 (.dict []))))).bind λd=>cz (Out.rt d)
      else (fv (U.set i (.dict (p5 kvs y0 (.dict []))))).bind λd=>cz (Out.nx ((U.set i (.dict (p5 kvs y0 (.dict [])))).set i (.dict (p6 (p5 kvs y0 (.dict [])) y0 (.dict (p6 nM j d))))))
     else el
    |_=>el
  else el)=cz o1:=h1
 by_cases c:(o9 kt y0&&decide (kvs.length<1000000))=p4
 ·rw[aG c]at lC;obtain⟨j0,rz,lC⟩:=bnd lC;rw[aw]at c;have lV:i<U.length:=by
   obtain⟨G,q1,_⟩:=S.all;obtain⟨d0,_,_,_,_,z1,_⟩:=q1.at_ hm;exact (aO.mp z1).1
  have Gk:i≠y:=λz=>by
   subst z;rw[hm]at vy;cases vy
  have wN:y<Y.length:=by
   obtain⟨G,q1,_⟩:=S.all;obtain⟨_,_,_,_,_,_,z1,_⟩:=q1.at_ vy;exact (aO.mp z1).1
  have fin:∀(H1:Hp) (F1:List av) (v1:V) (d1:VS.D) (f1:List av),StR X.K M (U.set i (.dict (p5 kvs y0 (.dict [])))) Y H1 P F1->D4 (p5 kvs y0 (.dict [])) y0=cz d1->Own X.K H1 F1 (.d kt2 .i) v1 d1 f1->f1.Nodup->(∀b∈f1,b∈F1)->
    (∀(H':Hp) (a:av) (o':MuO) (d':VS.D) (f':List av),Same H1 H'->a∈f1->Own X.K (upd H' a o'.1) F1 (.d kt2 .i) v1 d' f'->(∀b,f'.count b<=f1.count b)->StR X.K M (U.set i (.dict (p6 (p5 kvs y0 (.dict [])) y0 d'))) Y (upd H' a o'.1) P F1)->
    (b8k (b0N (tOp (a3G X rp) tj (b3r y))) (b6d tt b0D) b0D) {D with nx:=(b6d (b5C X (b3r y) B_ tv) tr) D} (Y.set y (cz v1)) H1:=by
   intro H1 F1 v1 d1 f1 S1 qI ow i_ rB cl;have S2:=S1.ded vy (cz v1);show tj (Y.set y (cz v1)) H1 _;refine qj _ _ H1 P F1 j0 _ S2.toE rz λjv H2 e2 r2=>⟨v1,ij wN,?_⟩
   rw[qI]at lC;obtain⟨a1,jX,ux,Gu,Fb,Fk,Fj,GF,Fd,GD,si,Gh⟩:=(ow.grow e2).dict;subst Fb;subst Fj;have jV:(if (o9 kt2 j0&&decide (((jX.map (·.1)).zip ux).length<1000000))=p4 then
      if y6 ((jX.map (·.1)).zip ux) j0 then (fr (U.set i (.dict (p5 kvs y0 (.dict []))))).bind λd=>cz (Out.rt d)
      else (fv (U.set i (.dict (p5 kvs y0 (.dict []))))).bind λd=>cz (Out.nx ((U.set i (.dict (p5 kvs y0 (.dict [])))).set i (.dict (p6 (p5 kvs y0 (.dict [])) y0 (.dict (p6 ((jX.map (·.1)).zip ux) j0 d))))))
     else el)=cz o1:=lC
   by_cases c2:(o9 kt2 j0&&decide (((jX.map (·.1)).zip ux).length<1000000))=p4
   ·rw[aG c2]at jV;rw[aw]at c2;have S3:=S2.grow e2;refine⟨a1,jX,kt2,j0,rfl,Fk,keysAt Fd c2.1 r2.den,_,rfl,?_⟩;rw[Bool.false_bne,<-x8 si];cases Be:y6 ((jX.map (·.1)).zip ux) j0 with
    |true=>
     rw[Be,aG rfl]at jV;obtain⟨dr,vL,tP⟩:=bnd jV;cases tP
     have:o=.rt dr:=(aH g1).symm;subst this;rw[aG rfl];exact qt _ _ _ H2 P F1 (.rt dr) S3 (show (fr _).bind _=_ by rw[vL];rfl) kk
    |false=>
     rw[Be]at jV;simp only[cP,fF]at jV ⊢;obtain⟨d0,Eg,tP⟩:=bnd jV;cases tP
     show tv (Y.set y (cz (.ref a1))) H2 _;refine qv _ _ H2 P F1 d0 _ S3.toE Eg λvv H3 e3 r3=>⟨.ref a1,ij wN,Ck _ _ H3 P F1 j0 _ (S3.grow e3).toE rz λAe H4 e4 r4=>?_⟩
     have S4:=S3.grow (e3.trans e4);obtain⟨wb,Ct,_⟩:=r3;obtain⟨rfl,im,dv⟩:=Q2 Ct;have Cu:Own X.K H4 F1 .i vv d0 []:=by
      simp only[Own];exact⟨trivial,im,dv.up (x0 e4)⟩
     have DR:Den X.K (cut H4 F1) Ae j0:=r4.den.imm_out S4.lst j0 (V6 _ (x6 c2.1).1);obtain⟨eJ,z1,z2,z3,z4,f',o',zd⟩:=b1R (fv:=[]) (ow.grow (e2.trans (e3.trans e4))) rB (by simpa using i_) (x6 c2.1) DR Cu;refine⟨a1,eJ,kt2,j0,rfl,z1,keysAt z2 c2.1 r4.den,by rw[z3];exact fu (aW c2.2) (by rw[cM];decide),λ_=>b1H xb c2.1,?_⟩;have S5:=(cl H4 a1 ⟨e6 a1 (Q4 eJ j0 Ae vv),trivial⟩ _ f' (e2.trans (e3.trans e4)) z4 o' λb=>by have:=zd b;simpa using this).ded vy (cz (.ref a1));refine qr D _ _ _ P F1 o S5 ?_ kk;have g2:g ((U.set i (.dict (p5 kvs y0 (.dict [])))).set i (.dict (p6 (p5 kvs y0 (.dict [])) y0 (.dict (p6 ((jX.map (·.1)).zip ux) j0 d0)))))=cz o:=g1;rw[List.set_set]at g2;exact g2
   ·rw[aL c2]at jV;cases jV
  refine⟨.ref a,ha,⟨a,es,rfl,hH⟩,qk U Y H P F y0 _ S.toE CV λkv H1 w1 r1=>λz hz=>?_⟩;have w2:Same H1 (upd H1 z (e6 z [])):=k6 hz _;have S2:=S.grow (w1.trans w2);have rJ:Den X.K (upd H1 z (e6 z [])) kv y0:=r1.den.up w2;have vb:B9 y0=p4:=(x6 c.1).1;have AB:∀{eJ:List (VS.D×V×V)} {iu:List VS.D},U.getD i .none=.dict ((eJ.map (·.1)).zip iu)->iu.length=eJ.length->kvs=(eJ.map (·.1)).zip iu/\eJ.length<aP:=λ{eJ iu} hq hl=>by
   rw[hU]at hq
   injection hq with hq
   refine⟨hq,?_⟩;have e3:((eJ.map (·.1)).zip iu).length=eJ.length:=by rw[dh,ah,hl,kB]
   rw[<-e3,<-hq];exact fu (aW c.2) (by rw[cM];decide)
  cases hK:y6 kvs y0 with
  |true=>
   have rH:p5 kvs y0 (.dict [])=kvs:=by unfold p5;rw[hK];rfl
   have eU:U.set i (.dict kvs)=U:=set_same (by rw[<-hU,aU,au lV];rfl);obtain⟨a0,eJ,iu,t1,t2,t3,t4,t5,t6,t7⟩:=S2.dval (k:=y0) hm (x6 c.1);rw[ha]at t1;cases t1
   obtain⟨ek,hsz⟩:=AB t3 t4;refine⟨a,eJ,kt,y0,kv,.ref z,rfl,rfl,t2,keysAt t5 c.1 rJ,hsz,λhf=>?_,λe he fO=>?_⟩
   ·rw[ek,x8 t4,hf]at hK;cases hK
   ·obtain⟨d1,f1,x1,x2,x3,x4,x5⟩:=t7 e he fO;refine fin _ F e.2.2 d1 f1 (by rw[rH,eU];exact S2) (by rw[rH,ek];exact x1) x2 x3 x4 λH' a' o' d' f' sx lD wa zv=>?_
    rw[rH,ek];exact x5 H' a' o' d' f' sx lD wa zv
  |false=>
   have oz:Own X.K (upd H1 z (e6 z [])) ([z]++F) (.d kt2 .i) (.ref z) (.dict []) [z]:=by
    simp only[Own];exact⟨z,[],[],[],rfl,i4,rfl,rfl,⟨bp,λe he=>(nomatch he)⟩,m7⟩
   have P1:=(S.grow w1).pend.new w2 oz (by simp) λb hb=>by rw[ao.mp hb];exact hz
   have rH:p5 kvs y0 (.dict [])=kvs++[(y0,.dict [])]:=by unfold p5;rw[hK];rfl
   obtain⟨a0,eJ,iu,wb,t1,t2,t3,t4,t5,t6,t7,t8,t9,Ca⟩:=P1.dnew (k:=y0) (kv:=kv) hm (x6 c.1) rJ;rw[ha]at t1;cases t1
   obtain⟨ek,hsz⟩:=AB t3 t4;have hE:u7 eJ y0=rp:=by rw[<-x8 t4,<-ek];exact hK
   refine⟨a,eJ,kt,y0,kv,.ref z,rfl,rfl,t2,keysAt t5 c.1 rJ,hsz,λhf=>?_,λe he fO=>?_⟩
   ·obtain⟨z',_,_,jW,ez,zz,_,Fi,_⟩:=t7.dict;cases ez
    have Af:z∈wb:=by rw[Fi];exact aj
    have CQ:z≠a:=(t9 z Af).2;have mL:a∈[z]++F:=by
     obtain⟨_,_,PS⟩:=P1;have:=PS.lst;obtain⟨v0,f0,sx,lD,wa⟩:=S.toE.get hm;rw[ha]at sx;cases sx
     obtain⟨a9,_,_,_,e9,_,_,f9,_⟩:=lD.dict;cases e9
     exact aq _ (wa a (by rw[f9];exact aj))
    have key:=Ca hf;have uT:Own X.K (upd (upd H1 z (e6 z [])) a (e6 a (eJ++[(y0,kv,.ref z)]))) ([z]++F) (.d kt2 .i) (.ref z) (.dict []) wb:=t7.frame (K1 mL _) _ λb hb=>f6 (t9 b hb).2
    have sd:upd (upd (upd H1 z (e6 z [])) a (e6 a (eJ++[(y0,kv,.ref z)]))) z (e6 z [])=upd (upd H1 z (e6 z [])) a (e6 a (eJ++[(y0,kv,.ref z)])):=b1S (by rw[f6 CQ,i4]);refine fin _ ([z]++F) (.ref z) (.dict []) wb ?_ (by rw[rH];exact a4j vb hK) uT t8 (λb hb=>(t9 b hb).1) λH' a' o' d' f' sx lD wa zv=>?_
    ·have:=key _ z ⟨e6 z [],trivial⟩ (.dict []) wb (Same.refl _) Af (by rw[sd];exact uT) λb=>aB _
     rw[sd,<-ek,<-rH]at this;exact this
    ·rw[rH,a7r vb hK,ek];exact key H' a' o' d' f' sx lD wa zv
   ·exact absurd ((KeysAt.eqv (keysAt t5 c.1 rJ) he).mpr fO) (by
     unfold u7 at hE;rw[cx]at hE;exact hE e he)
 ·rw[aL c]at lC;cases lC
end
def ItV(a:av)(es:List (D×V×V)):It:=
 ⟨λi H=>H a=cz (e6 a es)/\i<es.length,λi H x H'=>H'=H/\∃e,es[i]?=cz e/\x=e.2.2,λi H=>H a=cz (e6 a es)/\es.length<=i⟩
def b0j(a it:av)(es:List (D×V×V))(hk:y8 es):Turn P w K tg (ItV a es) [it] it (λi h=>h.IsValIter it a i es.length es.length) where
 mem:=by simp
 obj:=λi h st b hb=>by
  cases ao.mp hb
  obtain⟨o,e,c,d⟩:=st;exact⟨o,e,λv z=>by rw[d]at z;cases z⟩
 keep:=λi h h' st k=>let⟨o,e,r⟩:=st;⟨o,k it (by simp) o e,r⟩
 item:=by
  intro X hP hw hK hc i pins s Y H E I hf st hg;subst hP hw hK;obtain⟨hH,hi⟩:=hg;obtain⟨kvs,ja,h0,hp,hlen⟩:=E8 I hH hk;have hx:es[i]?=cz es[i]:=au hi;obtain⟨⟨n,v⟩,yN,g⟩:=E3 hp hx;obtain⟨f0,f1,f2,f3,f4,f5⟩:=hf it (by simp);rw[<-hlen]at st ja;refine wpAny_pyNext_values_item (knd:=cQ X.prog X.w) st ja yN λh' qX sb=>?_
  have I1:Inv X pins Y H {s with heap:=h'}:=I.turned (t':=s.toks) (λb o hb e=>(sb.2 b hb).trans e) f0 f1 f3 f4 f5;rw[hlen]at qX;obtain⟨o,e,c,d⟩:=id qX;exact⟨v,rfl,b0J (s:={s with heap:=h'}) e c d (by decide) ⟨es[i].2.2,H,I1,g.2.2,⟨rfl,es[i],hx,rfl⟩,qX,λb hb=>(hf b hb).1⟩⟩
 done:=by
  intro X hP hw hK hc i pins s Y H E I hf st hg;subst hP hw hK;obtain⟨hH,hi⟩:=hg;obtain⟨kvs,ja,h0,hp,hlen⟩:=E8 I hH hk;obtain⟨f0,f1,f2,f3,f4,f5⟩:=hf it (by simp);rw[<-hlen]at st ja;exact wpAny_pyNext_values_end (knd:=cQ X.prog X.w) (I.ok.hd hc) st ja (dU (by lia)) λh' eb=>⟨rfl,I.turned (t':=s.toks) (λb o hb e=>eb b o hb e) f0 f1 f3 f4 f5⟩
 self:=λ_ _ _ _ _ st h=>wpAny_pyIter_valiter st h
section
variable {X:Cx}{M:List Md}{tg o:Expr}{fa:EvE}{ca:Cat}{apos cF:eM}
def c0C(to:TE):TI:=λY H R=>to Y H λx H1=>∃p es,x=.ref p/\H1 p=cz (e6 p es)/\y8 es/\R (ItV p es) H1
def b4D(ho:PE X o to)(eD:cZ o "values" X.env (cy o X.env)=cy o X.env:=by rfl)(eB:(apos.endLine==cF.line)=p4:=by rfl):PI X tg (.Call (.Attribute o "values" apos) [] [] cF) (c0C to):=by
 intro pins s Y H R I h;refine iw eD eB (L2.thn (ho pins s Y H _ I h) λv s1 ⟨x,H1,I1,r1,p,es,ex,hH,hk,q1⟩=>?_);subst ex;obtain rfl:v=a_ p:=r1;obtain⟨kvs,ja,h0,hp,hlen⟩:=E8 I1 hH hk;refine⟨"dict","dict.values",h_,gP,rM,j9 I1 hH,L4 I1 hH,eX rfl (je ?_)⟩;refine Fv gP (j9 I1 hH) qQ (qA _) (meets_dict_values (cQ X.prog X.w) p h0) ⟨⟨kvs,ja.dictOf⟩,?_⟩;refine wpAny_pyIter_values (knd:=cQ X.prog X.w) ⟨_,aE _ rfl,rfl,rfl⟩ (ja.at λ_ e=>ag _ e) ?_;have hz:(s1.heap.push {cls:=.type "dict_values",data:=.fields #[.ref p]}).objs.size=s1.heap.objs.size+1:=cH ..;refine⟨_,[_],_,_,H1,rfl,I1.kept (t':=s1.toks) λb o e=>ag _ (ag _ e),b0j p _ es hk,⟨_,aE _ rfl,rfl,by rw[hlen];rfl⟩,λb hb=>?_,q1⟩;have e:=ao.mp hb;have jK:s1.heap.objs.size<=b:=by rw[e,hz];exact gx _
 exact I1.fpOk jK (I1.hok.fresh jK)
def a7H:Walks (ItV p es) (λH=>H p=cz (e6 p es)) (es.map (·.2.2)) where
 go:=λi H h hi=>⟨h,by simpa using hi⟩
 stop:=λi H h hi=>⟨h,by simpa using hi⟩
 yld:=λi H x H' h hi y=>by
  obtain⟨e,r,hr,rfl⟩:=y;exact⟨e,by rw[aX,hr];rfl⟩
def iVa(a:EvE):EvA:=λU=>(a U).bind λd=>match d with
 |.dict kvs=>if keysOk rp kvs then cz (kvs.map (·.2)) else el
 |_=>el
def b2A(h:PX X M o fa ca)(hc:frozen ca:=by trivial)(eD:cZ o "values" X.env (cy o X.env)=cy o X.env:=by rfl)(eB:(apos.endLine==cF.line)=p4:=by rfl):PIX X M tg (.Call (.Attribute o "values" apos) [] [] cF) (iVa fa):=by
 obtain⟨t,p,q⟩:=h.out;refine⟨_,b4D p eD eB,λU Y H P F ds R S hf k=>?_⟩;obtain⟨d,h1,h2⟩:=bnd hf;cases d with
 |dict kvs=>
  have jV:(if keysOk rp kvs then cz (kvs.map (·.2)) else el)=cz ds:=h2;by_cases c:keysOk rp kvs=p4
  ·rw[aG c]at jV;cases jV
   refine q U Y H P F _ _ S h1 λv H1 e1 r1=>?_
   obtain⟨aa,es,rfl,k1,k2⟩:=(J8 hc r1).dict_inv;exact⟨aa,es,rfl,i7 _ _ k1,a1O k2 c,k _ _ _ H1 e1 a7H (λH2 e2=>e2 _ _ k1) k2.vals⟩
  ·rw[aL c]at jV;cases jV
 |_=>cases h2
end
def eIm(f:EvE):EvE:=λU=>(f U).bind R9
section
variable {X:Cx}{M:List Md}{e:Expr}{f:EvE}{c:Cat}
def a2V(h:PX X M e f c):PX X M e (eIm f) (.new .i):=by
 obtain⟨t,p,q⟩:=h.out;refine .mk ⟨t,p,λU Y H P F d Q S hf k=>?_⟩;obtain⟨x,h1,h2⟩:=bnd hf;obtain⟨rfl,hi⟩:=Q3 h2;exact q U Y H P F _ Q S h1 λv H' e r=>k v H' e (E6 hi r.den (S.lst' e))
def b2B(h:f U=cz d)(hi:imm d=p4):eIm f U=cz d:=by
 unfold eIm;rw[h,bF];unfold R9;rw[aG hi]
end
section
variable {X:Cx}{M:List Md}{a:Expr}{fa:EvE}{ca:Cat}{pos p:eM}
def call_listK(hc:X.calm=p4):CallR X (.type "list") (λxs H Q=>∃p es,xs=[.ref p]/\H p=cz (e6 p es)/\∀l,H l=el->Q (.ref l) (upd H l (.lst (es.map (·.2.1))))):=by
 intro pins s Y H xs us Q I rv h;obtain⟨p,es,rfl,hH,q⟩:=h;obtain⟨u,rfl,rx⟩:=vals1 rv;cases (show u=a_ p from rx)
 obtain⟨h0,hl,_,o,ents,ep,r1,r2,r3,hp,_⟩:=a1n I hH;have hlen:=dw hp;have hz:ents.size=es.length:=by rw[hlen,cI]
 refine W.kdl_call (b4l (ep:=ep) h0) (I.ok.hd hc) ⟨o,r1,r2,r3⟩ (by lia) λg1 tq ac cq keep ho p_=>?_
 refine⟨.ref s.heap.objs.size,_,I.laid (t':=tq) keep (aB _) (show ObjOk X.prog X.w _ g1 _ (.lst (es.map (·.2.1))) from⟨by rw[ah];exact hl,ac.toList,cq,?_,by rw[gA];exact ho⟩),rfl,q _ (I.hok.fresh (aB _))⟩;refine a0G (by rw[ah];have z1:=p_.1;have z2:ac.toList.length=ac.size:=cI;lia) λi x u h1 h2=>?_
 rw[bX]at h2;obtain⟨e',h3,rfl⟩:=p_.2 i u h2;rw[aX]at h1;obtain⟨e,he,rfl⟩:=dt.mp h1;obtain⟨kv,g3,g4⟩:=E3 hp he;rw[bX,h3]at g3;cases g3
 exact g4.2.1
def a7I(a:EvE):EvE:=λU=>(a U).bind λd=>match d with
 |.dict kvs=>if g8 (kvs.map (·.1)) then cz (.list (kvs.map (·.1))) else el
 |_=>el
def b2C(hc:X.calm=p4)(hm:X.mg "list"=el)(ha:PX X M a fa ca)(hg:Gl X "list":=by rfl)(he:ax [a] X.env=(rp,cy a X.env)::ax [] X.env:=by rfl)(fV:(cB pos (ax [] X.env)).any (·.1)=rp:=by rfl) :
  PX X M (.Call (.Name "list" p) [a] [] pos) (a7I fa) (.new (.l .i)):=by
 obtain⟨ta,pa,qa⟩:=ha.out;refine .mk ⟨_,E5 (call_listK hc) hg hm PyProof.Rows.Boot.«list» (m5 pa s9 he) (by decide) (by decide) he fV,λU Y H P F d Q S hf q=>?_⟩;obtain⟨x,h1,g1⟩:=bnd hf;cases x with
 |dict kvs=>
  have g2:(if g8 (kvs.map (·.1)) then cz (dM (kvs.map (·.1))) else el)=cz d:=g1;by_cases c:g8 (kvs.map (·.1))=p4
  ·rw[aG c]at g2;cases g2
   refine qa U Y H P F _ _ S h1 λv H1 e1 r1=>?_
   obtain⟨pp,es,rfl,k1,k2⟩:=r1.den.dict_inv;exact⟨pp,es,rfl,k1,λz hz=>q _ _ (e1.trans (k6 hz _)) (M3 (a1K k2) c e1 hz (S.lst' e1))⟩
  ·rw[aL c]at g2;cases g2
 |_=>cases g1
def b2D(hm:X.mg "len"=el)(ha:PX X M a fa ca)(hg:Gl X "len":=by rfl)(he:ax [a] X.env=(rp,cy a X.env)::ax [] X.env:=by rfl)(fV:(cB pos (ax [] X.env)).any (·.1)=rp:=by rfl) :
  PX X M (.Call (.Name "len" p) [a] [] pos) (eCl b1C (b8 fa c9)) (.new .i):=by
 obtain⟨ta,pa,qa⟩:=ha.out;refine .mk ⟨_,V3 a9C hg hm PySem.boot_len (m5 pa s9 he) (by decide) (by decide) he fV,λU Y H P F d Q S hf q=>?_⟩;obtain⟨xs,h1,h2⟩:=bnd hf;obtain⟨x,h3,h4⟩:=bnd h1;obtain⟨kZ,h5,h6⟩:=bnd h4;cases h5
 cases h6
 have hx:∃kvs,x=.dict kvs/\d=.int kvs.length:=by
  cases x with
  |dict kvs=>cases h2;exact⟨kvs,rfl,rfl⟩
  |_=>cases h2
 obtain⟨kvs,rfl,rfl⟩:=hx;refine qa U Y H P F _ _ S h3 λv H1 e1 r1=>?_
 obtain⟨pp,es,rfl,k1,k2⟩:=r1.den.dict_inv;have hlen:kvs.length=es.length:=by have:=eE gz k2.keys;simpa using this.symm
 refine⟨pp,es,rfl,k1,?_⟩;rw[<-hlen];exact q _ _ e1 (E6 a0D den_int (S.lst' e1))
end
def a5h(i:Nat):EvX:=λU=>match U.getD i .none with
 |.list ds=>ds.getLast?.bind λd=>cz (d,U.set i (.list ds.dropLast))
 |_=>el
def noT(d:D):Option D:=if imm d&&!p9 d then cz d else el
def eNT(f:EvE):EvE:=λU=>(f U).bind noT
def b2E(h:noT d=cz d'):d'=d/\imm d=p4/\∀ds,d≠.tuple ds:=by
 unfold noT at h
 split at h
 ·next c=>
  rw[aw]at c;exact⟨(aH h).symm,c.1,λds e=>by rw[e]at c;exact absurd c.2 aS⟩
 ·cases h
section
variable {X:Cx}{M ML:List Md}{e:Expr}{f:EvE}{c:Cat}{t w:Ty}{us:List Ty}{pos apos cF px:eM}
def a8M(h:PX X M e f c):PX X M e (eNT f) (.new (.tp us)):=by
 obtain⟨tt,p,q⟩:=h.out;refine .mk ⟨tt,p,λU Y H P F d Q S hf k=>?_⟩;obtain⟨x,h1,h2⟩:=bnd hf;obtain⟨rfl,hi,hn⟩:=b2E h2;refine q U Y H P F _ Q S h1 λv H' e r=>k v H' e ?_
 obtain⟨fp,o,n,z⟩:=(E6 hi r.den (S.lst' e):ResR X.K (.new .i) H H' F v d);obtain⟨rfl,w,q⟩:=Q2 o;refine⟨[],?_,n,z⟩;simp only[Own];exact .inl ⟨trivial,⟨hi,hn⟩,q⟩
def b9h(h:f U=cz d)(hd:noT d=cz d):eNT f U=cz d:=by
 unfold eNT;rw[h,bF,hd]
def StR.pop(S:StR K M U Y H P F)(hm:M[i]?=cz (.own (.l t)))(hU:U.getD i .none=.list ds)(hd:ds.getLast?=cz d) :
  ∃a xs y,Y[i]?=cz (cz (.ref a))/\H a=cz (.lst xs)/\xs[xs.length-1]?=cz y/\Pend K ([]++[.own t]) ([]++[d]) ([]++[cz y]) M (U.set i (.list ds.dropLast)) Y (upd H a (.lst xs.dropLast)) P F:=by
 obtain⟨G,h1,h2,h3⟩:=S.all;obtain⟨d0,o,f,pre,post,q1,q2,⟨v2,rfl,q3⟩,rfl,q5⟩:=h1.at_ hm;rw[A2 q1]at hU;subst hU;obtain⟨a,xs,fs,rfl,ha,rfl,iC⟩:=b1U q3;have hl:=iC.length;rw[List.getLast?_eq_getElem?]at hd;have gG:ds.length-1<ds.length:=(aO.mp hd).1;obtain⟨y,f',p',r',e1,e2,rfl,e4,e5⟩:=iC.at_ hd;have vL:ds.drop (ds.length-1+1)=[]:=List.drop_eq_nil_of_le (by lia);rw[vL]at e5;obtain⟨_,rfl⟩:=e5.nil_inv;have mL:a∈F:=h3 a (by simp);have eK:Same (cut H F) (cut (upd H a (.lst xs.dropLast)) F):=λb o' hb=>by
  obtain⟨n1,n2⟩:=o6 hb;exact j6 n1 (by rw[f6 (show b≠a from λz=>n1 (z▸mL))];exact n2)
 have hc:=cn.mp h2 a;have c0:∀l:List av,l.count a=0->∀b∈l,upd H a (.lst xs.dropLast) b=H b:=λl Gj b hb=>f6 λz=>by
  subst z;have:=cO.mpr hb;lia
 simp only[aZ,fy,bh,bz]at hc;have o1:Own K (upd H a (.lst xs.dropLast)) F t y d f':=e2.frame eK t (c0 f' (by lia));have o2:Own K (upd H a (.lst xs.dropLast)) F (.l t) (.ref a) (.list ds.dropLast) (a::p'):=by
  rw[Own];refine .inr ⟨a,xs.dropLast,ds.dropLast,p',rfl,i4,rfl,rfl,?_⟩;have q:=l9 eK e4 (c0 p' (by lia))
  rwa[<-hl,<-uA,hl,<-uA]at q
 have q:=q5 (upd H a (.lst xs.dropLast)) F (.own (.l t)) (.list ds.dropLast) (cz (.ref a)) (a::p') (c0 (pre++post) (by rw[aZ];lia)) eK ⟨_,rfl,o2⟩;rw[set_same (l:=Y) q2,set_same (l:=M) hm]at q;refine⟨a,xs,y,q2,ha,by rw[hl];exact e1,rfl,rfl,⟨⟨_,k7 (m:=.own t) ⟨y,rfl,o1⟩ q,N3 h2 λb=>?_,λb hb=>h3 b ?_⟩,λb hb=>?_,S.prot.trans eK⟩⟩
 ·simp only[aZ,bh,cS,bz];lia
 ·simp only[az,aC,bz,bh]at hb ⊢;rcases hb with z|z|z|z|z<;>simp[z]
 ·by_cases e:b=a
  ·subst e;exact⟨⟨.lst xs.dropLast,trivial⟩,i4⟩
  ·obtain⟨ys,y⟩:=S.lst b hb;exact⟨ys,by rw[f6 e];exact y⟩
def b4E(i:Nat)(hN:X.N[i]?=cz x:=by rfl)(nF:autoParam (NmV X x) ZY._auto_1)(hm:M[i]?=cz (.own (.l t)):=by rfl)(eD:cZ (.Name x px) "pop" X.env (cy (.Name x px) X.env)=cy (.Name x px) X.env:=by rfl)(eB:(apos.endLine==cF.line)=p4:=by rfl) :
  PXE X M (.Call (.Attribute (.Name x px) "pop" apos) [] [] cF) (a5h i) t M:=by
 refine⟨_,b0U hZ PySem.F.slot_list_pop PySem.F.type_list_pop b6u (C4 hN nF.1 nF.2.1 nF.2.2) eD eB,λU Y H P F d U' Q S hg k=>?_⟩;unfold a5h at hg;cases hU:U.getD i .none with
 |list ds=>
  rw[hU]at hg;obtain⟨d1,h1,g1⟩:=bnd (show (ds.getLast?.bind λd=>cz (d,U.set i (.list ds.dropLast)))=cz (d,U') from hg);cases g1
  obtain⟨a,xs,y,hv,ha,hy,q⟩:=S.pop hm hU h1;exact⟨_,hv,.inl ⟨rfl,xs,SqL.of ha⟩,a,xs,y,rfl,rfl,ha,hy,k y _ F q⟩
 |_=>rw[hU]at hg;cases hg
end
end VS
namespace VS
open PySem PySem.Spec L2
open PyProof.Rows (slot_list_sort entry_list_sort args_list_sort kind_sorted plain_sorted entry_sorted args_sorted1 IntsAre)
def b0k{kvs:List (Int×ai)}:∀{vs:List ai},vs.length=kvs.length->(∀(i:Nat) (v:ai),vs[i]?=cz v->∃k x,kvs[i]?=cz (k,x)/\(cQ prog w).is k v=p4)->IntsAre vs (kvs.map (·.1)):=by
 induction kvs with
 |nil=>
  intro vs hl _;cases er.mp hl
  exact .nil
 |cons p kvs ih=>
  intro vs hl h;cases vs with
  |nil=>cases hl
  |cons v vs=>
   obtain⟨k,x,e1,e2⟩:=h 0 v rfl;cases e1
   obtain⟨t,rfl⟩:=qx e2;exact .cons _ _ (ih (by simpa using hl) λi u hu=>h (i+1) u (by simpa using hu))
def a7J{A:bC}{sh:ar}(hh:A.handled=el)(h0:(d==cN)=rp)(hm:sh.heap.DictAt (cQ prog w) d kvs ep)(hz:kvs.length<=aP)
  (q:∀(h':bR) (tk:Nat) (vs:List ai),Kept sh.heap h'->sh.heap.objs.size<=h'.objs.size->vs.length=kvs.length->IntsAre vs (kvs.map (·.1))->Q vs {sh with heap:=h',toks:=tk}):aD (aT prog w) A (collect (.ref d)) Q E sh:=by
 have hd:d<sh.heap.objs.size:=hm.lt_size;unfold collect;refine ab (mO (dJ mM ?_));rw[cU pA _];show aD _ A.in1 (newList [] >>= λl=>again (.builtin "list.__iadd__" ⟨[l,.ref d],[]⟩)) _ _ sh;refine ab (de (ae ⟨eY hX _,dJ ou ?_⟩));rw[cU hX _];show aD _ A.in1 (df (.ref sh.heap.objs.size) (.ref d) (.ref sh.heap.objs.size)) _ _ _;refine c_ (W.kdl_extend (A:=A) (s:={sh with heap:=sh.heap.push {cls:=.type "list",data:=.seq ([]:List ai).toArray}})
  (R:=λ(g:Fy) (s':ar)=>∃(h':bR) (tk:Nat) (acc:Array ai) (c:Nat),g=.ok (.ret (.ref sh.heap.objs.size))/\s'={sh with heap:=h',toks:=tk}/\
   h'.get? sh.heap.objs.size=cz {cls:=.type "list",dict:=el,data:=.seq acc c,slots:=#[]}/\Q acc.toList {sh with heap:=h',toks:=tk})
  (W.kdl_dict (knd:=cQ prog w) (kvs:=kvs) (ep:=ep) h0) hh (hm.push _) sh.heap.objs.size (ee hd) (ee hd) (.ref sh.heap.objs.size) 0 (aE _ rfl)
  (λh' tk acc c hk hS kl=>⟨h',tk,acc,c,rfl,rfl,hS,q h' tk _ (λb o x=>hk b o (ba (aF x)) (ag _ x)) (dC (aF hS)) (by rw[cI];exact kl.1)
   (b0k (prog:=prog) (w:=w) (by rw[cI];exact kl.1) λi v hv=>kl.2 i v (by rw[<-bX];exact hv))⟩) hz) (λg s' x=>?_) λe s' x=>?_
 ·cases g with
  |done f=>
   obtain⟨h',tk,acc,c,e,rfl,hS,qq⟩:=x;cases e
   show aD _ A (load sh.heap.objs.size >>= _) _ _ _;exact ab (lQ hS (ae qq))
  |again c₁=>
   refine⟨x.1,fG x.2 λg s₂ y=>?_⟩;obtain⟨h',tk,acc,c,rfl,rfl,hS,qq⟩:=y;show aD _ A (load sh.heap.objs.size >>= _) _ _ _;exact ab (lQ hS (ae qq))
 ·obtain⟨_,_,_,_,e',_⟩:=x;cases e'
section
variable {X:Cx}{M:List Md}{a:Expr}{fa:EvE}{ca:Cat}{pos p:eM}
def a6o(hc:X.calm=p4):CallR X (.builtin "sorted") (λxs H Q=>∃p es ns,xs=[.ref p]/\H p=cz (e6 p es)/\y8 es/\es.map (·.1)=ns.map aJ/\ns.length<64/\∀z,H z=el->Q (.ref z) (upd H z (.lst ((srt ns).map V.int)))):=by
 intro pins s Y H xs us Q I rv h;obtain⟨p,es,ns,rfl,hH,hk,hn,zr,q⟩:=h;obtain⟨u,rfl,rx⟩:=vals1 rv;cases (show u=a_ p from rx)
 obtain⟨kvs,ep,ja,h0,hl,hp⟩:=T3 I hH hk;have hlen:=dw hp;have og:kvs.map (·.1)=ns:=(List.map_inj_right (f:=aJ) λx y e=>by cases e;rfl).mp ((a5V hp).symm.trans hn);have AG:kvs.length=ns.length:=by rw[<-og,ah]
 refine kE kind_sorted plain_sorted entry_sorted (args_sorted1 _) ?_;unfold Builtin.«sorted»;refine ab (m:=checkCount "sorted" 1 1 _) (ae ?_);refine ab (a7J (A:=X.A.in1) (by simpa using I.ok.hd hc) h0 ja (by rw[cM];lia) λh1 tk vs k1 z1 wQ hI=>?_);rw[og]at hI;refine ab (wpAny_newList ?_ (by rw[cM];lia));have oL:(h1.push (ub "list" vs.toArray 0)).get? h1.objs.size=cz (ub "list" vs.toArray 0):=aE _ rfl;refine ab (bK (bD slot_list_sort ⟨_,oL,rfl⟩ entry_list_sort (pC (s:={s with heap:=h1.push (ub "list" vs.toArray 0),toks:=tk}) oL hI (by lia) λout CA a1 a2 a3=>⟨_,rfl,?_⟩) (args_list_sort _)));obtain⟨e,tL⟩:=qB (out:=out) oL;have pU:H h1.objs.size=el:=I.hok.fresh z1;rw[a5U a2 a3]at a1;have ll:((srt ns).map V.int).length<=aP:=by rw[ah,(o3 ns).length_eq,cM];lia
 refine ae ⟨_,rfl,.ref h1.objs.size,_,I.laid (a:=h1.objs.size) (o:=.lst ((srt ns).map V.int)) (t':=tk) (λb u hb=>?_) z1 ⟨ll,out.toList,e,vals_ints a1,by rw[gA];exact tL⟩,rfl,q _ pU⟩;have jK:=ag (ub "list" vs.toArray 0) (k1 b u hb);exact (pB (ba (bu (aF hb) z1)) (aF jK)).trans jK
def u8(a:EvE):EvE:=λU=>(a U).bind λd=>match d with
 |.dict kvs=>(intsOf (kvs.map (·.1))).bind λns=>if ns.length<64 then cz (.list ((srt ns).map .int)) else el
 |_=>el
def Y2(hc:X.calm=p4)(hm:X.mg "sorted"=el)(ha:PX X M a fa ca)(hg:Gl X "sorted":=by rfl)(he:ax [a] X.env=(rp,cy a X.env)::ax [] X.env:=by rfl)(fV:(cB pos (ax [] X.env)).any (·.1)=rp:=by rfl) :
  PX X M (.Call (.Name "sorted" p) [a] [] pos) (u8 fa) (.new (.l .i)):=by
 obtain⟨ta,pa,qa⟩:=ha.out;refine .mk ⟨_,V3 (a6o hc) hg hm PyProof.Rows.Boot.«sorted» (m5 pa s9 he) (by decide) (by decide) he fV,λU Y H P F d Q S hf q=>?_⟩;obtain⟨x,h1,g1⟩:=bnd hf;cases x with
 |dict kvs=>
  obtain⟨ns,h2,g2⟩:=bnd (show (intsOf (kvs.map (·.1))).bind _=cz d from g1);by_cases c:ns.length<64
  ·rw[aG c]at g2;cases g2
   have nH:=K0 h2;refine qa U Y H P F _ _ S h1 λv H1 e1 r1=>?_
   obtain⟨pp,es,rfl,k1,k2⟩:=r1.den.dict_inv;have hk:=intKeyed k2 (by
    rw[bj];intro p hp;have:p.1∈ns.map aJ:=by rw[<-nH];exact bt hp
    obtain⟨n,_,e⟩:=aR.mp this;rw[<-e];rfl)
   refine⟨pp,es,ns,rfl,k1,hk,by rw[k2.keys];exact nH,c,λz hz=>q _ _ (e1.trans (k6 hz _)) (M3 ?_ (b7j _) e1 hz (S.lst' e1))⟩;have:∀ms:List Int,DenAll X.K H1 (ms.map V.int) (ms.map aJ):=DenAll.ints;exact this _
  ·rw[aL c]at g2;cases g2
 |_=>cases g1
end
end VS
namespace VS
open PySem PySem.Spec L2
def W6(i j:Nat)(f:EvX):EvS:=λU=>(f U).bind λq=>(asP q.1).bind λp=>cz (.nx ((q.2.set i p.1).set j p.2))
section
variable {X:Cx}{M M1 ML:List Md}{e iter tg c0 re:Expr}{f:EvE}{fx:EvX}{fc:EvT}{t u u1 u2:Ty}{pos uP rf:eM}
def b2F(i j:Nat){pt pk}(hN:X.N.Nodup)(hc:X.calm=p4)(he:PXE X M e fx t M1)(hp:b1q t u1 u2)(hi:X.N[i]?=cz x:=by rfl)(hj:X.N[j]?=cz y:=by rfl)(hx:autoParam (Loc X.env.scope x) ZW._auto_1)
  (hy:autoParam (Loc X.env.scope y) ZW._auto_1) (mK:i≠j:=by decide) (oP:M1[i]?=cz m1:=by rfl) (ro:M1[j]?=cz m2:=by rfl)
  (yU:autoParam (X.fn x=p4\/X.env.scope.names.lookup x=cz .local) ZV._auto_1) (vJ:autoParam (X.fn y=p4\/X.env.scope.names.lookup y=cz .local) ZV._auto_1)
  (hl:(fQ [.Name x px,.Name y py] X.env).length=2:=by rfl) (pL:(fQ [.Name x px,.Name y py] X.env).findIdx? (·.1)=el:=by rfl)
  (hg1:PGs X [.Name x px,.Name y py] (V2 (J9 i) (V2 (J9 j) a9a)):=by exact m9 (w9 hN hi hx yU) (m9 (w9 hN hj hy vJ) F5))
  (hs:xO [.Tuple [.Name x px,.Name y py] pk pt] e pos.line X.env=pure rp:=by rfl) (hw:xP [.Tuple [.Name x px,.Name y py] pk pt] e X.env=pure el:=by rfl)
  (h1:(fQ [.Tuple [.Name x px,.Name y py] pk pt] X.env).map (·.2)=[ng (.Tuple [.Name x px,.Name y py] pk pt) X.env]:=by rfl) :
  PSX X u ML M (.Assign [.Tuple [.Name x px,.Name y py] pk pt] e pos) (W6 i j fx) ((M1.set i (.own u1)).set j (.own u2)):=by
 obtain⟨te,pe,qe⟩:=he;refine .mk ⟨_,b0G pe (R6 hc hg1 hl pL) hs hw h1,λD U Y H P F o S hg k=>?_⟩;obtain⟨⟨d,U'⟩,h1,g1⟩:=bnd hg;obtain⟨⟨d1,d2⟩,h2,g2⟩:=bnd g1;cases g2
 have hd:d=.tuple [d1,d2]:=by
  match d,h2 with
  |.tuple [a,b],h2=>cases h2;rfl
 subst hd;refine qe U Y H P F _ U' _ S h1 λv H' F' S'=>?_
 obtain⟨a,v1,v2,rfl,k1,S2⟩:=S'.untup hp;refine⟨a,_,rfl,k1,rfl,v1,[v2],rfl,v2,[],rfl,rfl,?_⟩;have S3:=S2.store (i:=j) rfl rfl ro;have s_:(M1.set j (.own u2))[i]?=cz m1:=by rw[ej (dc mK)];exact oP
 have S4:=(Pend.store (Mp:=[]) (Up:=[]) (Yp:=[]) (i:=i) S3 rfl rfl s_).st;rw[iJ _ _ (dc mK),iJ _ _ (dc mK),iJ _ _ (dc mK)]at S4;exact k _ _ F' S4
def b0l(i j:Nat)(hc:X.calm=p4)(hp:lJ (aT X.prog X.w) X.A X.env X.xe)(hi:PX X M iter f (.bor (.l .i)))(hg:PG X tg (b3v X.K 2 (V2 (J9 i) (V2 (J9 j) a9a))))(ht:PTX X ((M.set i (.own .i)).set j (.own .i)) c0 fc)(hr:PX X ((M.set i (.own .i)).set j (.own .i)) re (eC .none) (.new .i))
  (mK:i≠j:=by decide) (oP:M[i]?=cz .dead:=by rfl) (ro:M[j]?=cz .dead:=by rfl) (hu:u=.f:=by rfl) (hf:∀x,dR iter X.env x=pure x:=by intro _;rfl) :
  PSX X u ML M (.For tg iter [.If c0 [.Return (cz re) uP] [] rf] [] pos) (D3 (iL f) (L3 i j) (sIf fc (l5 (eC .none)) m6)) M:=by
 subst hu;obtain⟨ti,pi,qi⟩:=hi.out;obtain⟨tc,pc,qc⟩:=ht.out;obtain⟨tr,pr,qr⟩:=hr.out;refine .mk ⟨_,a4O hp hc (a8h pi) hg (a4M (b0E pc (a4M (a6N pr)) a2a)) hf,λD U Y H P F o S rA k=>?_⟩;obtain⟨ds,h1,g1⟩:=bnd rA;obtain⟨d0,h0,EV⟩:=bnd (show (f U).bind _=cz ds from h1);cases N2 EV
 refine qi U Y H P F (.list ds) _ S.toE h0 λv H1 e1 ⟨fp,ow,sub⟩=>?_
 obtain⟨a,xs,fs,rfl,Bf,rfl,iC⟩:=b1U ow;have o_:xs.length=ds.length:=iC.length;refine⟨a,rfl,⟨xs,SqL.of Bf⟩,?_⟩;refine⟨λn mm Y' H'=>mm=xs.length-n/\n<=xs.length/\Same H1 H'/\∃U',StR X.K M U' Y' H' P F/\N5 (L3 i j) (sIf fc (l5 (eC .none)) m6) (ds.drop n) U'=cz o,⟨xs.length,by simp,b_ _,Same.refl _,U,S.grow e1,g1⟩,?_⟩;rintro n mm Y' H' ⟨rfl,hn,sS,U',S',hfl⟩;have rD:H' a=cz (.lst xs):=sS _ _ Bf;by_cases gG:n<xs.length
 ·refine .inr ⟨S6.go n H' (SqL.of rD) gG,λY2 H2=>Same H1 H2/\∃U2,StR X.K M U2 Y2 H2 P F/\N5 (L3 i j) (sIf fc (l5 (eC .none)) m6) (ds.drop (n+1)) U2=cz o,λY2 H2 ⟨yp,U2,S2,h2⟩=>⟨xs.length-(n+1),by lia,rfl,gG,yp,U2,S2,h2⟩,λx H2 hy=>?_⟩;obtain⟨rfl,qD⟩:=S6.yld n H' x H2 (SqL.of rD) gG hy;have lV:n<ds.length:=by lia
  rw[dP lV]at hfl;obtain⟨U1,qF,g2⟩:=bnd (show (L3 i j U' ds[n]).bind _=cz o from hfl);obtain⟨o1,hg1,g3⟩:=bnd g2;obtain⟨v',f',pre,post,z1,z2,pw,_⟩:=iC.zip (au lV);rw[qD]at z1;cases z1
  generalize ds[n]=dn at qF z2;obtain⟨⟨d1,d2⟩,h2,lD⟩:=bnd qF;cases lD
  have tG:dn=.tuple [d1,d2]:=by
   match dn,h2 with
   |.tuple [a,b],h2=>cases h2;rfl
  subst tG;obtain⟨_,vF,nS⟩:=Q2 z2;simp only[imm,g8,aw]at vF;obtain⟨a2,FK,rfl,k1,k2⟩:=nS.tup_inv;obtain⟨v1,v2,rfl,k3,k4⟩:=a0z k2;have Fp:Own X.K H2 F .i v1 d1 []:=by simp only[Own];exact⟨trivial,vF.1,k3.up (x0 sS)⟩
  have Fo:Own X.K H2 F .i v2 d2 []:=by simp only[Own];exact⟨trivial,vF.2.1,k4.up (x0 sS)⟩
  refine⟨a2,_,rfl,P5 (P5 k1 i7) sS,rfl,v1,[v2],rfl,v2,[],rfl,rfl,?_⟩;have T1:=S'.set (i:=i) (fp:=[]) oP (Same.refl _) Fp bp λa ha=>(nomatch ha)
  have T2:=T1.set (i:=j) (m:=.dead) (fp:=[]) (by rw[ej mK];exact ro) (Same.refl _) Fo bp λa ha=>(nomatch ha)
  obtain⟨b,hb,g4⟩:=bnd (show (fc ((U'.set i d1).set j d2)).bind _=cz o1 from hg1);refine qc _ _ H2 P F b _ T2.toE hb λH3 e3=>?_
  cases b with
  |true=>
   have g5:(cz (Out.rt gQ))=cz o1:=g4;cases g5
   have g6:(cz (Out.rt gQ))=cz o:=g3;cases g6
   refine a3C (qr _ _ H3 P F .none _ (T2.grow e3).toE rfl λv4 H4 e4 r4=>?_);cases r4.den.none_inv
   exact k _ H4 [] (by simp only[Own];exact⟨trivial,den_none⟩) bp (λa ha=>(nomatch ha)) (((S'.prot.trans i7).trans e3).trans e4)
  |false=>
   have g5:(cz (Out.nx ((U'.set i d1).set j d2)))=cz o1:=g4;cases g5
   have U1:=S'.kill oP d1 (cz v1);rw[set_same (l:=M) oP]at U1;have U2:=U1.kill ro d2 (cz v2);rw[set_same (l:=M) ro]at U2;exact a3B ⟨sS.trans e3,_,U2.grow e3,g3⟩
 ·have e:n=xs.length:=by lia
  subst e;rw[o_,iH]at hfl;have:o=.nx U':=(aH hfl).symm;subst this;exact .inl ⟨S6.stop _ H' (SqL.of rD) (aB _),k Y' H' F S'⟩
end
end VS
namespace L2
open PySem
def Has.u(h:Has P w K mg base x i ps sp)(l:i<=j:=by decide):Has P w K mg base x j ps sp:=h.up l
end L2
namespace VS
open PySem PySem.Spec PyProof.Rows L2
structure DP (K:af) (mg:bH->Option ai) (x:bH) (st:g_):Prop where
 ex:∃f fd,Fun K x x st f fd/\gD K bL x=cz (cz (.ref f))/\mg x=cz (.ref f)
section
variable {P:bw}{w:bO}{K:af}{mg:bH->Option ai}{base h:bR}{x:bH}{st:g_}{N ps:List bH}{k n:Nat}{us:List Ty}{u wt:Ty}{g:EvS}{sp:Sp}
def b9i{f:av}{oc:ai}{od an:Option av}{oE:Array (Option ai)}{kV doc pm gg ct:ai}(X:K.In h)(G:h.Ns bL mg)(a:gD K bL x=cz (cz (.ref f)))(l:K.lookup f=cz ⟨oc,od,.func (fS x x (R7 st) (y7 st) (i9 st) .none kV doc pm an gg ct),oE⟩)
  (c:lI K gg x=p4) (k:fK K (.ref f)=p4):DP K mg x st:=⟨_,_,b6v l c k,a,jQ X G a⟩
def c0D(X:K.In h)(G:h.Ns bL mg)(a:gD K bL x=cz (cz (.int i t))):∃t,mg x=cz (.int i t):=⟨t,jQ X G a⟩
abbrev BBy(x:bH)(st:g_)(ps:List bH):Prop:=∀(kV doc pm:ai) (an:Option av) (gg ct:ai) (us:List ai),us.length=ps.length->qu (fS x x (R7 st) (y7 st) (i9 st) .none kV doc pm an gg ct) ⟨us,[]⟩=pure (ps.zip us)
def n9(d:DP K mg x st)(h:∀f fd,Fun K x x st f fd->FnOk P w K mg base CX0 k f fd ps sp)(b:BBy x st ps:=by intro _ _ _ _ _ _ us hl;first|(obtain⟨_,rfl⟩:=b9c hl;rfl)|(obtain⟨_,_,rfl⟩:=b4m hl;rfl)|(obtain⟨_,_,_,rfl⟩:=b9d hl;rfl)|(obtain⟨_,_,_,_,rfl⟩:=c0x hl;rfl)|(obtain⟨_,_,_,_,_,rfl⟩:=c0y hl;rfl)|(obtain⟨_,_,_,_,_,_,rfl⟩:=c0z hl;rfl)):Has P w K mg base x k ps sp:=by
 obtain⟨f,fd,F,a,m⟩:=d.ex;exact⟨f,fd,h f fd F,F.binds b,F.kp,m⟩
def b4F(d:DP K mg x st)(h:∀f fd,Fun K x x st f fd->gD K bL x=cz (cz (.ref f))->FnOk P w K mg base CX0 k f fd ps sp)(b:BBy x st ps:=by intro _ _ _ _ _ _ us hl;first|(obtain⟨_,rfl⟩:=b9c hl;rfl)|(obtain⟨_,_,rfl⟩:=b4m hl;rfl)|(obtain⟨_,_,_,rfl⟩:=b9d hl;rfl)):Has P w K mg base x k ps sp:=by
 obtain⟨f,fd,F,a,m⟩:=d.ex;exact⟨f,fd,h f fd F a,F.binds b,F.kp,m⟩
def fnF(F:Fun K x x st f fd)(N:List bH)(hb:∀(S:FnScope N ps (i9 st)) (gg:ai) (A:bC) (outer:List ox) (s:ar) (H:Hp) (E:XK),Room k (A.deeper (jb x (i9 st) s.heap.objs.size f gg))->PSsX (a0q CX0 P w K mg base N x (i9 st) f gg A outer s H E).nox u [] (us.map .own++aN n .dead) (y7 st) g [])
  (S:FnScope N ps (i9 st):=by exact⟨rfl,rfl,rfl,by decide +kernel,rfl,by decide +kernel,by decide +kernel⟩) (mz:us.length=ps.length:=by rfl) (hn:N.length=ps.length+n:=by rfl):FnOk P w K mg base CX0 (k+1) f fd ps (spD K ps.length (fnD us n g) u):=b3W F S mz hn (hb S)
def b9j(F:Fun K x x st f fd)(N:List bH)(M':List Md)(hb:∀(S:FnScope N ps (i9 st)) (gg:ai) (A:bC) (outer:List ox) (s:ar) (H:Hp) (E:XK),Room k (A.deeper (jb x (i9 st) s.heap.objs.size f gg))->PSsX (a0q CX0 P w K mg base N x (i9 st) f gg A outer s H E).nox .i [] (us.map .own++aN n .dead) (y7 st) g M')
  (S:FnScope N ps (i9 st):=by exact⟨rfl,rfl,rfl,by decide +kernel,rfl,by decide +kernel,by decide +kernel⟩) (mz:us.length=ps.length:=by rfl) (hn:N.length=ps.length+n:=by rfl):FnOk P w K mg base CX0 (k+1) f fd ps (spD K ps.length (fnN us n g) .i):=b1A F S mz hn (hb S)
def b9k{Φ:(List D->Option D)->Hp->V->Prop}{g:(List D->Option D)->EvS}(F:Fun K x x st f fd)(N:List bH)(hb:∀(S:FnScope N ps (i9 st)) (gm:List D->Option D) (gg:ai) (A:bC) (outer:List ox) (s:ar) (H:Hp) (E:XK),Room k (A.deeper (jb x (i9 st) s.heap.objs.size f gg))->PSsX (a0q CX0 P w K mg base N x (i9 st) f gg A outer s H E).nox u [] (us.map .own++(.fn (Φ gm)::aN n .dead)) (y7 st) (g gm) [])
  (S:FnScope N ps (i9 st):=by exact⟨rfl,rfl,rfl,by decide +kernel,rfl,by decide +kernel,by decide +kernel⟩) (mz:us.length+1=ps.length:=by rfl) (hn:N.length=ps.length+n:=by rfl) (hj:j=us.length:=by rfl):FnOk P w K mg base CX0 (k+1) f fd ps (spL K j Φ (fnL us n g) u):=hj▸b2a (M':=λ_=>[]) F S mz hn (hb S)
def c0E(F:Fun K x x st f fd)(N:List bH)(lt:(C3 K x).isSome=p4)(X:K.In base)(G:base.Ns bL mg)(a:gD K bL x=cz (cz (.ref f)))(hb:∀(S:FnScope N ps (i9 st)) (c:av) (p:av) (hc:fd.code=.ref c) (hp:C3 K x=cz p) (hd:gu base c p) (A:bC) (outer:List ox) (s:ar) (H:Hp) (E:XK),Room k (A.deeper (jb x (i9 st) s.heap.objs.size f fd.code))->PSsX (a0q CX0 P w K mg base N x (i9 st) f fd.code A outer s H E).nox u [] (us.map .own++aN n .dead) (y7 st) g [])
  (S:FnScope N ps (i9 st):=by exact⟨rfl,rfl,rfl,by decide +kernel,rfl,by decide +kernel,by decide +kernel⟩) (mz:us.length=ps.length:=by rfl) (hn:N.length=ps.length+n:=by rfl):FnOk P w K mg base CX0 (k+1) f fd ps (spD K ps.length (fnD us n g) u):=by
 obtain⟨oc,od,kV,doc,pm,an,gg,ct,oE,e,lk,nI⟩:=F.ex;obtain⟨c,p,h1,h2,h3⟩:=b2e lt X G a lk;exact b2d F S mz hn (hb S c p h1 h2 h3)
def b7x(yW:mg x=cz (.ref fa))(d:DP K mg x st)(h:∀base:bR,K.In base->base.Ns bL mg->∀fd,Fun K x x st fa fd->FnOk P w K mg base CX0 k fa fd [p] sp)(b:∀(kV doc pm:ai) (an:Option av) (gg ct v:ai),qu (fS x x (R7 st) (y7 st) (i9 st) .none kV doc pm an gg ct) ⟨[v],[]⟩=pure [(p,v)]:=by intros;rfl) :
  ∃fd:dB,(∀(s:ar) (v:ai),nK s fd ⟨[v],[]⟩ [(p,v)])/\∀base:bR,K.In base->base.Ns bL mg->FnOk P w K mg base CX0 k fa fd [p] sp:=by
 obtain⟨f,fd,F,a,m⟩:=d.ex;rw[yW]at m;cases m
 refine⟨fd,λs v=>?_,λbase X G=>h base X G fd F⟩;obtain⟨oc,od,kV,doc,pm,an,gg,ct,oE,rfl,lk,nI⟩:=F.ex;exact .of_eq (b kV doc pm an gg ct v)
end
section
variable {X:Cx}{M:List Md}{e e0:Expr}{es:List Expr}{fe:EvE}{f:EvA}{c:Cat}{u:Ty}{pos p:eM}{x:bH}
abbrev mdF:Md:=.own .f
abbrev mdI:Md:=.own .i
abbrev mdD:Md:=.dead
def c8(i:Nat)(hN:X.N[i]?=cz x:=by rfl)(hv:autoParam (NmV X x) ZY._auto_1)(hm:M[i]?=cz (.own .f):=by rfl):PX X M (.Name x pos) (b7 i) (.bor .f):=A3 i hN hv hm
def f8(i:Nat)(hN:X.N[i]?=cz x:=by rfl)(hv:autoParam (NmV X x) ZY._auto_1)(hm:M[i]?=cz (.own .i):=by rfl):PX X M (.Name x pos) (b7 i) (.bor .i):=A3 i hN hv hm
def K3(i:Nat)(hN:X.N[i]?=cz x:=by rfl)(hv:autoParam (NmV X x) ZY._auto_1)(hm:M[i]?=cz (.own (.l .i)):=by rfl):PX X M (.Name x pos) (b7 i) (.bor (.l .i)):=A3 i hN hv hm
def z8(i:Nat)(hN:X.N.Nodup)(hi:X.N[i]?=cz x:=by rfl)(hx:autoParam (Loc X.env.scope x) ZW._auto_1)(hf:autoParam (X.fn x=p4\/X.env.scope.names.lookup x=cz .local) ZZ._auto_1):PG X (.Name x pos) (J9 i):=w9 hN hi hx hf
def C7(hm:X.mg "len"=el)(h:PX X M e fe c)(hg:Gl X "len":=by rfl)(he:ax [e] X.env=(rp,cy e X.env)::ax [] X.env:=by rfl)(fV:(cB pos (ax [] X.env)).any (·.1)=rp:=by rfl):PX X M (.Call (.Name "len" p) [e] [] pos) (eCl v8 (b8 fe c9)) (.new .i):=a7a b6A hm PySem.boot_len (f7 h l6 he) hg (by decide) (by decide) he fV
def A8(W:Has X.prog X.w X.K X.mg X.base x k ps (spD X.K n m u))(hr:Room k X.A)(h:PAX X M (e0::es) f)(hu:u.shut=p4:=by rfl)(hl:(e0::es).length=n:=by rfl)(hfl:∀U ds,f U=cz ds->ds.length=(e0::es).length:=by first|exact i5 u6|exact i5 (i5 u6)|exact i5 (i5 (i5 u6))|exact i5 (i5 (i5 (i5 u6)))|exact i5 (i5 (i5 (i5 (i5 u6)))))
  (hg:Gl X x:=by rfl) (lW:(x==("__debug__":bH))=rp:=by decide) (he:ax (e0::es) X.env=(rp,cy e0 X.env)::ax es X.env:=by rfl) (fV:(cB pos (ax es X.env)).any (·.1)=rp:=by rfl) :
  PX X M (.Call (.Name x p) (e0::es) [] pos) (eCl m f) (.new u):=X8 W hr h hu hl hfl hg lW he fV
def B8(hu:X.A.units+464<dq:=by exact Room.units (by assumption)):OpS X (bQ .Eq) dEq:=os_eq hu
def W7(hu:X.A.units+464<dq:=by exact Room.units (by assumption)):OpS X (bQ .NotEq) dNe:=b8x hu
end
end VS
namespace VS
open PySem L2
section
variable {a b c:EvE}{U:List D}{d x y:D}
def chE(g':D->D->Option D):Option D->Option D->EvE->List D->Option D
 |some (.bool p4),cz y,c,U=>l2 g' (cz y) (c U)
 |some (.bool rp),cz _,_,_=>cz (.bool rp)
 |_,_,_,_=>el
def c0F:eCh g g' a b c U=chE g' (l2 g (a U) (b U)) (b U) c U:=by
 unfold eCh;cases a U with
 |none=>rfl
 |some x=>
  cases b U with
  |none=>rfl
  |some y=>
   show (g x y).bind _=chE g' (g x y) (cz y) c U;cases g x y with
   |none=>rfl
   |some z=>
    cases z with
    |bool k=>
     cases k with
     |false=>rfl
     |true=>cases h:c U<;>simp[chE,asB,h,l2]
    |_=>rfl
def b9l:chE g' (cz (.bool p4)) (cz y) c U=l2 g' (cz y) (c U):=rfl
def b9m:chE g' (cz (.bool rp)) (cz y) c U=cz (.bool rp):=rfl
def c0G:(p4==p4)=p4:=rfl
def c0H:(p4==rp)=rp:=rfl
def c0I:(rp==p4)=rp:=rfl
def c0J:(rp==rp)=p4:=rfl
def c0K:(p4 !=p4)=rp:=rfl
def c0L:(p4 !=rp)=p4:=rfl
def c0M:(rp !=p4)=p4:=rfl
def c0N:(rp !=rp)=rp:=rfl
def trB:tr (.bool k)=cz k:=rfl
def b9n:asB (.bool k)=cz k:=rfl
def b2G:isN .none=p4:=rfl
def b4G:isN (.int i)=rp:=rfl
def b2H:isN (.bool i)=rp:=rfl
def b2I:isN (.list ds)=rp:=rfl
def b4H:isN (.tuple ds)=rp:=rfl
def b7y:E9 k x .none=cz (.bool (k !=isN x)):=rfl
def b0m:isInt (.int i)=p4:=rfl
def a7K:isInt (.bool i)=p4:=rfl
def a7L:isInt .none=rp:=rfl
def a7M:isInt (.list ds)=rp:=rfl
def b0n:isInt (.tuple ds)=rp:=rfl
def b0o:isInt (.str s)=rp:=rfl
def a7N:isInt (.dict s)=rp:=rfl
def a7O:isBool (.int i)=rp:=rfl
def a6p:isBool (.bool i)=p4:=rfl
def a6q:isBool .none=rp:=rfl
def a6r:isBool (.list ds)=rp:=rfl
def a7P:isBool (.tuple ds)=rp:=rfl
def a7Q:isBool (.str s)=rp:=rfl
def a6s:isBool (.dict s)=rp:=rfl
def isList_list:isList (.list ds)=p4:=rfl
def isList_int:isList (.int i)=rp:=rfl
def a6t:isList .none=rp:=rfl
def isList_bool:isList (.bool i)=rp:=rfl
def a7R:isList (.tuple ds)=rp:=rfl
def isList_str:isList (.str s)=rp:=rfl
def isList_dict:isList (.dict s)=rp:=rfl
def a6u:p9 (.tuple ds)=p4:=rfl
def isTuple_list:p9 (.list ds)=rp:=rfl
def isTuple_int:p9 (.int i)=rp:=rfl
def lIs:Option D->Option D
 |some d=>b1h d
 |none=>el
def b2J:eI a U=lIs (a U):=by unfold eI;cases a U<;>rfl
def a6v(h:g8 ds=p4):lIs (cz (.list ds))=cz (.list ds):=by
 show (if g8 ds=p4 then cz (dM ds) else el)=_;rw[aG h]
def b2K:Option D->Option D
 |some (.list ds)=>cz (.list ds)
 |some (.tuple ds)=>cz (.list ds)
 |_=>el
def a8N:Z1 a U=b2K (a U):=by
 unfold Z1;cases a U with
 |none=>rfl
 |some d=>cases d<;>rfl
def b9o:b2K (cz (.list ds))=cz (.list ds):=rfl
def b9p:b2K (cz (.tuple ds))=cz (.list ds):=rfl
def lL:Option D->Option (List D)
 |some d=>asL d
 |none=>el
def b7z:iL a U=lL (a U):=by unfold iL;cases a U<;>rfl
def c0O:lL (cz (.list ds))=cz ds:=rfl
def lII:Option (List D)->Option (List D)
 |some ds=>if g8 ds then cz ds else el
 |none=>el
def b9q:iI f U=lII (f U):=by unfold iI;cases f U<;>rfl
def a3J(h:f U=cz ds)(hi:g8 ds=p4):iI f U=cz ds:=by rw[b9q,h];show (if g8 ds=p4 then cz ds else el)=_;rw[aG hi]
def N8{ds:List D}(h:ds.length<1000000):a9w i (.list ds) (cz d) U=cz (.nx (U.set i (.list (ds++[d])))):=b7c h
def b7A:D0 i U d=cz (U.set i d):=rfl
def b7B:L3 i j U (.tuple [x,y])=cz ((U.set i x).set j y):=rfl
def b9r:pt1 d=cz [d]:=rfl
def b9s:pt2 (.tuple [x,y])=cz [x,y]:=rfl
def c0P:tT U=cz p4:=rfl
end
def a2i(P:List D->Prop)(h1:∃U,o=cz (.nx U)/\P U)(h2:∀U,P U->a2A (s U)=R):a2A (thn o s)=R:=by
 obtain⟨U,rfl,h⟩:=h1;exact h2 U h
def Q8{R:Option D->Prop}(P:List D->Prop)(h1:∃U,o=cz (.nx U)/\P U)(h2:∀U,P U->R (a2A (s U))):R (a2A (thn o s)):=by
 obtain⟨U,rfl,h⟩:=h1;exact h2 U h
theorem a6w(f:D->D):∀{ds:List D},(∀d∈ds,∃bs,pt d=cz bs/\g (bs++cs)=cz (f d))->O6 pt tT g cs ds=cz (ds.map f)
 |[],_=>rfl
 |d::ds,h=>by
  obtain⟨bs,h1,h2⟩:=h d aj;have ih:=a6w f (ds:=ds) λe he=>h e (ak _ he)
  show (pt d).bind _=_;rw[h1];show (g (bs++cs)).bind _=_;rw[h2];show (O6 pt tT g cs ds).bind _=_;rw[ih];rfl
def b7C{js:List Nat}(f:D->D)(hf:fi U=cz ds)(hl:ds.length<=1000000)(h:∀d∈ds,∃bs,pt d=cz bs/\g (bs++js.map λj=>U.getD j .none)=cz (f d)) :
  n6 fi js pt tT g U=cz (.list (ds.map f)):=by
 unfold n6;rw[hf];show (if ds.length<=1000000 then _ else el)=_;rw[aG hl,a6w f h];rfl
theorem p7(f:α->D)(h:∀x,imm (f x)=p4):∀xs:List α,g8 (xs.map f)=p4
 |[]=>by simp only[cE,g8]
 |x::xs=>by simp only[ay,g8,h x,p7 f h xs,ef]
end VS
namespace Prog
open PySem L2 VS
abbrev iD(ns:List Int):D:=.list (ns.map .int)
end Prog
namespace VS
open PySem L2
mutual
theorem eqv_refl:∀d:D,d.canLay0=p4->aK d d=p4
 |.none,_=>by simp[aK]
 |.bool b,_=>by simp[aK]
 |.int i,_=>by simp[aK]
 |.str x,_=>by simp[aK]
 |.list xs,h=>by
  simp only[cC]at h;simp only[aK];exact eqvAll_refl xs h
 |.tuple xs,h=>by
  simp only[cC]at h;simp only[aK];exact eqvAll_refl xs h
 |.dict _,h=>by simp[cC]at h
theorem eqvAll_refl:∀xs:List D,bg xs=p4->cR xs xs=p4
 |[],_=>by simp only[cR]
 |x::xs,h=>by
  simp only[bg,aw]at h;simp only[cR,aw];exact⟨eqv_refl x h.1,eqvAll_refl xs h.2⟩
end
def b5F{a b:D}(ha:a.canLay0=p4)(hb:b.canLay0=p4)(hd:a.depth<=450):dEq a b=cz (.bool (aK a b)):=by
 unfold dEq a9l;rw[ha,hb,aI hd];simp
def b5G{a b:D}(ha:a.canLay0=p4)(hb:b.canLay0=p4)(hd:a.depth<=450):dNe a b=cz (.bool (!aK a b)):=by
 unfold dNe a9l;rw[ha,hb,aI hd];simp
def b5H{a:D}(ha:a.canLay0=p4)(hd:a.depth<=450):dEq a a=cz (.bool p4):=by rw[b5F ha ha hd,eqv_refl a ha]
def a6x{a:D}(ha:a.canLay0=p4)(hd:a.depth<=450):dNe a a=cz (.bool rp):=by rw[b5G ha ha hd,eqv_refl a ha];rfl
theorem a0N(f:α->D)(h:∀x,(f x).canLay0=p4):∀xs:List α,bg (xs.map f)=p4
 |[]=>by simp only[cE,bg]
 |x::xs=>by simp only[ay,bg,h x,a0N f h xs,ef]
theorem M4(f:α->D)(n:Nat)(h:∀x,(f x).depth<=n):∀xs:List α,bM (xs.map f)<=n
 |[]=>by simp only[cE,bM];exact b_ _
 |x::xs=>by
  simp only[ay,bM];exact Nat.max_le.mpr ⟨h x,M4 f n h xs⟩
def a2j:(aJ i).canLay0=p4:=by simp only[cC]
def M5:(aJ i).depth=0:=by simp only[dy]
def lay_ints(ns:List Int):(dM (ns.map .int)).canLay0=p4:=by
 simp only[cC];exact a0N _ (λ_=>a2j) ns
def a0h(ns:List Int):(dM (ns.map .int)).depth<=1:=by
 simp only[dy];have:=M4 aJ 0 (λx=>by rw[M5];exact aB _) ns;lia
theorem a2W:∀(xs ys:List Int),cR (xs.map aJ) (ys.map aJ)=decide (xs=ys)
 |[],[]=>by simp[cR]
 |[],_::_=>by simp[cR]
 |_::_,[]=>by simp[cR]
 |x::xs,y::ys=>by
  have:aK (.int x) (.int y)=decide (x=y):=by
   show (x==y)=decide (x=y);exact iz x y
  simp only[ay,cR,this,a2W xs ys,GS];by_cases h1:x=y<;>by_cases h2:xs=ys<;>simp[h1,h2]
def b5I{xs ys:List Int}:dEq (.list (xs.map .int)) (.list (ys.map .int))=cz (.bool (decide (xs=ys))):=by
 rw[b5F (lay_ints _) (lay_ints _) (bV (a0h _) (by decide))];simp only[aK,a2W]
def b9t:Option D->Option D->Option D
 |some (.list ds),cz (.list es)=>if ds.length+es.length<=aP then cz (.list (ds++es)) else el
 |_,_=>el
def b9u:a9r a b U=b9t (a U) (b U):=by
 unfold a9r;cases a U with
 |none=>rfl
 |some x=>
  cases x with
  |list ds=>
   cases b U with
   |none=>rfl
   |some y=>cases y<;>rfl
  |_=>cases b U<;>rfl
def b7D{ds es:List D}(h:ds.length+es.length<=16777216):b9t (cz (.list ds)) (cz (.list es))=cz (.list (ds++es)):=by
 show (if ds.length+es.length<=aP then _ else _)=_;rw[aG (show ds.length+es.length<=aP from h)]
def lSl:Option D->Option (Option Int)->Option (Option Int)->Option D
 |some (.list ds),cz l,cz h=>cz (.list (cutD ds l h))
 |_,_,_=>el
def c0Q:eSl a lo hi U=lSl (a U) (lo U) (hi U):=by
 unfold eSl;cases a U with
 |none=>rfl
 |some x=>
  cases x with
  |list ds=>
   cases lo U with
   |none=>rfl
   |some y=>cases hi U<;>rfl
  |_=>cases lo U<;>cases hi U<;>rfl
def b9v:lSl (cz (.list ds)) (cz l) (cz h)=cz (.list (cutD ds l h)):=rfl
def b9w:oNo U=cz el:=rfl
def lO:Option D->Option (Option Int)
 |some (.int i)=>cz (cz i)
 |_=>el
def b9x:oSo a U=lO (a U):=by
 unfold oSo;cases a U with
 |none=>rfl
 |some x=>cases x<;>rfl
def c0R:lO (cz (.int i))=cz (cz i):=rfl
def b7E{ds:List D}{k:Int}(h0:0<=k)(h1:k<=ds.length):cutD ds (cz k) el=ds.drop k.toNat:=by
 unfold cutD HT.sIx;simp only[aL (show ¬ k<0 by lia),GN (show k.toNat<=ds.length by lia)];exact List.take_of_length_le (by rw[kg];exact aB _)
theorem a4s(f:α->Bool):∀xs:List α,a1D (xs.map λx=>dE (f x))=cz (xs.map f)
 |[]=>rfl
 |x::xs=>by
  show (a1D (xs.map λx=>dE (f x))).map (f x::·)=_;rw[a4s f xs];rfl
def v_all(f:α->Bool)(xs:List α):a9o [.list (xs.map λx=>dE (f x))]=cz (.bool (xs.all f)):=by
 show (a1D (xs.map λx=>dE (f x))).map (λbs=>dE (bs.all id))=_;rw[a4s];simp[List.all_map]
def b4I{xs:List Int}:lIs (cz (.list (xs.map .int)))=cz (.list (xs.map .int)):=a6v (B7 _)
def b9y:Option D->Option D
 |some (.list ds)=>R9 (.tuple ds)
 |some (.tuple ds)=>R9 (.tuple ds)
 |_=>el
def a7S:U5 a U=b9y (a U):=by
 unfold U5;cases a U with
 |none=>rfl
 |some d=>cases d<;>rfl
def a2X{xs:List Int}:b9y (cz (.list (xs.map .int)))=cz (.tuple (xs.map .int)):=a4c (by simp only[imm];exact B7 xs)
def a5i:aK (.int x) (.int y)=decide (x=y):=by
 show (x==y)=decide (x=y);exact iz x y
def at0{α:Type}{x:α}{xs:List α}:L2.atI (x::xs) 0=cz x:=by
 unfold L2.atI ixN;rw[aG (by decide),aG (by simp only[bB];lia)];rfl
def at1{α:Type}{x y:α}{xs:List α}:L2.atI (x::y::xs) 1=cz y:=by
 unfold L2.atI ixN;rw[aG (by decide),aG (by simp only[bB];lia)];rfl
def G7{enc:α->D}{set:List D->D->Option (List D)}{xs:List α}(I:List α->List D->Prop)(h0:I [] U)
  (step:∀pre x post,xs=pre++x::post->∀U,I pre U->∃U1 U2,set U (enc x)=cz U1/\g U1=cz (.nx U2)/\I (pre++[x]) U2) :
  ∃U',N5 set g (xs.map enc) U=cz (.nx U')/\I xs U':=by
 have key:∀(post pre:List α) (U:List D),xs=pre++post->I pre U->∃U',N5 set g (post.map enc) U=cz (.nx U')/\I xs U':=by
  intro post
  induction post with
  |nil=>
   intro pre U e h;rw[bz]at e;subst e;exact⟨U,rfl,h⟩
  |cons x post ih=>
   intro pre U e h;obtain⟨U1,U2,h1,h2,h3⟩:=step pre x post e U h;obtain⟨U',h4,h5⟩:=ih (pre++[x]) U2 (by rw[e,be];rfl) h3;refine⟨U',?_,h5⟩;show (set U (enc x)).bind _=_;rw[h1];show (g U1).bind _=_;rw[h2];exact h4
 exact key xs [] U rfl h0
def Y3:E1 0 n=(aQ n).map λ(k:Nat)=>aJ k:=by
 unfold E1;refine bU λk _=>?_
 show aJ (0+(k:Int))=.int k;rw[Int.zero_add]
def a1Q(h:aQ n=pre++x::post):x=pre.length/\x<n/\pre=aQ x:=by
 have hx:(aQ n)[pre.length]?=cz x:=by rw[h];simp
 have gG:pre.length<n:=by have:=eE gz h;simp at this;lia
 rw[jh gG]at hx;have e:x=pre.length:=(aH hx).symm;refine⟨e,by lia,?_⟩;have:=eE (List.take pre.length) h;rw[List.take_append_of_le_length (aB _),kc,List.take_range,GN (by lia)]at this;rw[e,this]
def E4{set:List D->D->Option (List D)}(I:Nat->List D->Prop)(h0:I 0 U)
  (step:∀k,k<n->∀U,I k U->∃U1 U2,set U (.int k)=cz U1/\g U1=cz (.nx U2)/\I (k+1) U2) :
  ∃U',N5 set g (E1 0 n) U=cz (.nx U')/\I n U':=by
 rw[Y3];obtain⟨U',h1,h2⟩:=G7 (enc:=λ(k:Nat)=>aJ k) (set:=set) (g:=g) (xs:=aQ n) (U:=U) (λpre U=>I pre.length U) h0 λpre x post e U h=>by
  obtain⟨e1,e2,_⟩:=a1Q e;subst e1;obtain⟨U1,U2,a,b,c⟩:=step pre.length e2 U h;exact⟨U1,U2,a,b,by rw[aV];exact c⟩
 rw[fw]at h2;exact⟨U',h1,h2⟩
def big:Int:=10^60
def b2L:1000<big:=by decide
abbrev l8:=List (List (Int×Int))
def stD(p:Int×Int):D:=.tuple [.int p.1,.int p.2]
def rwD(r:List (Int×Int)):D:=.list (r.map stD)
def rowAt(m:l8)(s:Int):List (Int×Int):=m.getD s.toNat []
def stp(m:l8)(s a:Int):Int×Int:=(rowAt m s).getD a.toNat (0,0)
structure WF (m:l8) (k:Nat):Prop where
 pos:0<m.length
 le:m.length<=30
 k1:1<=k
 k5:k<=5
 rows:∀r∈m,r.length=k
 next:∀r∈m,∀p∈r,0<=p.2/\p.2<(m.length:Int)
def a4t{m:l8}{s:Int}(h0:0<=s)(h1:s<m.length):rowAt m s∈m:=by
 unfold rowAt;rw[aU,au (by lia)];exact cW _
def WF.row{m:l8}{k:Nat}(w:WF m k){s:Int}(h0:0<=s)(h1:s<m.length):(rowAt m s).length=k:=w.rows _ (a4t h0 h1)
def b4J{m:l8}{k:Nat}(w:WF m k){s a:Int}(h0:0<=s)(h1:s<m.length)(h2:0<=a)(h3:a<k):stp m s a∈rowAt m s:=by
 have:=w.row h0 h1;unfold stp;rw[aU,au (by lia)];exact cW _
def WF.nx{m:l8}{k:Nat}(w:WF m k){s a:Int}(h0:0<=s)(h1:s<m.length)(h2:0<=a)(h3:a<k):0<=(stp m s a).2/\(stp m s a).2<(m.length:Int):=w.next _ (a4t h0 h1) _ (b4J w h0 h1 h2 h3)
def b4K{m:l8}{s:Int}(h0:0<=s)(h1:s<m.length):L2.atI (m.map rwD) s=cz (rwD (rowAt m s)):=by
 rw[a5a h0 (by rw[ah];exact h1),kh];unfold rowAt;rw[aU,au (by lia)];rfl
def b9z{r:List (Int×Int)}{a:Int}(h0:0<=a)(h1:a<r.length):dIx (rwD r) (.int a)=cz (stD (r.getD a.toNat (0,0))):=by
 show L2.atI (r.map stD) a=_;rw[a5a h0 (by rw[ah];exact h1),kh,aU,au (by lia)];rfl
def b9A:dIx (stD p) (.int 0)=cz (.int p.1):=rfl
def b9B:dIx (stD p) (.int 1)=cz (.int p.2):=rfl
def a7T:imm (stD p)=p4:=by unfold stD;simp only[imm,g8,ef]
def b7F:R9 (stD p)=cz (stD p):=a4c a7T
def b4L:R9 (.int i)=cz (.int i):=a4c a0D
def b9C:v8 [rwD r]=cz (.int r.length):=by
 show cz (aJ ((r.map stD).length:Nat))=_;rw[ah]
def b4M:b1v i j (cz (stD p)) U=cz (.nx ((U.set i (.int p.1)).set j (.int p.2))):=rfl
def b7G(p:Int×Int):(stD p).canLay0=p4:=by unfold stD;simp[cC,bg]
def b7H(r:List (Int×Int)):(rwD r).canLay0=p4:=by unfold rwD;simp only[cC];exact a0N _ b7G r
def a6y(m:l8):(dM (m.map rwD)).canLay0=p4:=by simp only[cC];exact a0N _ b7H m
def b2M(p:Int×Int):(stD p).depth<=1:=by unfold stD;simp[dy,bM]
def b2N(r:List (Int×Int)):(rwD r).depth<=2:=by
 unfold rwD;simp only[dy];have:=M4 stD 1 b2M r;lia
def a2Y(m:l8):(dM (m.map rwD)).depth<=450:=by
 simp only[dy];have:=M4 rwD 2 b2N m;lia
def b7I:Option Out->Option D
 |some (.rt d)=>cz d
 |some (.nx _)=>cz .none
 |_=>el
def b5J(h:argsOk us ds=p4):fnN us n g ds=b7I (g (ds++aN n .none)):=by
 unfold fnN;rw[aG h];cases g (ds++aN n .none) with
 |none=>rfl
 |some o=>cases o<;>rfl
def a5j:b7I (cz (.nx U))=cz .none:=rfl
def a5k:b7I (cz (.rt d))=cz d:=rfl
def b7J:b2K (cz (rwD r))=cz (rwD r):=rfl
def b9D:lIs (cz (rwD r))=cz (rwD r):=a6v (p7 _ (λ_=>a7T) r)
def b7K{m:l8}(h:a U=cz (.list (m.map rwD)))(hl:m.length<=1000):n6 (iL a) [] pt1 tT (eI (Z1 (b7 0))) U=cz (.list (m.map rwD)):=by
 rw[b7C (ds:=m.map rwD) id]
 ·rw[List.map_id]
 ·rw[b7z,h];rfl
 ·rw[ah];lia
 ·intro d hd;obtain⟨r,_,rfl⟩:=aR.mp hd;refine⟨_,rfl,?_⟩;show eI (Z1 (b7 0)) [rwD r]=cz (rwD r);rw[b2J,a8N];show lIs (b2K (cz (rwD r)))=_;rw[b7J,b9D]
end VS
namespace Prog
open PySem L2 VS
def top(i:Nat):g_:=PySem.Challenge.pw_probewell_k43_branches_of_a_tree.main.body.getD i (.Pass ⟨0,0,0,0⟩)
structure Bn (K:af) (mg:bH->Option ai):Prop where
 d0:DP K mg "_law_cell_at" (top 30)
 d1:DP K mg "_law_cells" (top 31)
 d2:DP K mg "_law_copied" (top 34)
 d3:DP K mg "_law_answer" (top 33)
 d4:DP K mg "_law_machine" (top 35)
 d5:DP K mg "_law_set" (top 36)
 d6:DP K mg "need_few_states" (top 15)
 d7:DP K mg "sets_of" (top 19)
 d8:DP K mg "least_telling" (top 26)
 d9:DP K mg "found_in_round" (top 6)
 d10:DP K mg "found_in_rounds" (top 5)
 d11:DP K mg "asks_of" (top 11)
 d12:DP K mg "parted_by" (top 28)
 d13:DP K mg "sets_behind" (top 27)
 d14:DP K mg "least_asks" (top 25)
 d15:DP K mg "grown" (top 24)
 d16:DP K mg "tree_of_set" (top 23)
 d17:DP K mg "all_states" (top 18)
 d18:DP K mg "tree" (top 22)
 d19:DP K mg "is_list_up_to" (top 12)
 d20:DP K mg "is_whole" (top 8)
 d21:DP K mg "is_below" (top 9)
 d22:DP K mg "is_set" (top 17)
 d23:DP K mg "need_set" (top 16)
 d24:DP K mg "tree_of" (top 21)
 d25:DP K mg "_law_shown" (top 40)
 d26:DP K mg "_law_led" (top 37)
 d27:DP K mg "_law_whole" (top 32)
 d28:DP K mg "_law_node" (top 38)
 d29:DP K mg "_law_tells" (top 39)
 d30:DP K mg "law" (top 41)
 all_:mg "all"=el
 bool_:mg "bool"=el
 dict_:mg "dict"=el
 enumerate_:mg "enumerate"=el
 int_:mg "int"=el
 isinstance_:mg "isinstance"=el
 len_:mg "len"=el
 list_:mg "list"=el
 range_:mg "range"=el
 set_:mg "set"=el
 sorted_:mg "sorted"=el
 tuple_:mg "tuple"=el
 zip_:mg "zip"=el
 MOST_FOR_SETS_:∃t,mg "MOST_FOR_SETS"=cz (.int 7 t)
structure Bk (P:bw) (w:bO) (K:af) (mg:bH->Option ai) (base:bR):Prop extends Bn K mg
variable {P:bw}{w:bO}{K:af}{mg:bH->Option ai}{base:bR}
abbrev HB(_:Bk P w K mg base):=Has P w K mg base
def c0S:(["_law_t","_law_many","_law_rows","_law_cell"]:List bH).Nodup:=by decide +kernel
def c0T:(["held","state"]:List bH).Nodup:=by decide +kernel
def c0U:(["part","found"]:List bH).Nodup:=by decide +kernel
def c0V:(["thing","newer"]:List bH).Nodup:=by decide +kernel
def c0W:(["part"]:List bH).Nodup:=by decide +kernel
def c0X:(["state","states"]:List bH).Nodup:=by decide +kernel
def b4N:(["_law_answer_here","_law_rest"]:List bH).Nodup:=by decide +kernel
def c0Y:(["_law_s"]:List bH).Nodup:=by decide +kernel
def c0Z:(["_law_row"]:List bH).Nodup:=by decide +kernel
def b_law_cell_at:EvS:=(g9 (sIf (tB (e2 dLt (b7 1) (eCl v8 (b8 (b7 0) c9)))) (l5 (e2 B4 (b7 0) (b7 1))) m6) (l5 (eC (.int 0))))
def m_law_cell_at:=fnD [.f,.i] 0 b_law_cell_at
abbrev Z3(B:Bk P w K mg base)(k:Nat):=HB B "_law_cell_at" k ["_law_script","_law_k"] (spD K 2 m_law_cell_at .i)
def ok_law_cell_at(B:Bk P w K mg base):Z3 B 1:=
 n9 B.d0 λ_ _ F=>fnF F ["_law_script","_law_k"] λ_ _ _ _ _ _ _ _=>by exact c6 (u9 (l7 a5E (f8 1) (C7 B.len_ (c8 0))) (e7 (j7 (b9 (B2 (c8 0) (f8 1))))) o7) (e7 (j7 (b9 c7)))
def b_law_cells:EvS:=(g9 (l0 2 (J4 c9)) (g9 (l0 3 (eC (.int 48271))) (g9 (D3 (iR (b7 1)) (D0 4) (g9 (l0 5 (e2 C5 (eCl m_law_cell_at (b8 (b7 0) (b8 (b7 4) c9))) (e2 a4U (eC (.int 10)) (eC (.int 64))))) (g9 (l0 3 (e2 C5 (e2 z7 (e2 z7 (e2 z7 (e2 K9 (b7 3) (eC (.int 69621))) (e2 K9 (b7 5) (eC (.int 40014)))) (e2 K9 (b7 4) (b7 4))) (eC (.int 1))) (eC (.int 2147483563)))) (sIf (tB (e2 dLt (b7 4) (eCl v8 (b8 (b7 0) c9)))) (A5 2 (.l .i) o8 (b7 5)) (A5 2 (.l .i) o8 (b7 3)))))) (l5 (b7 2)))))
def m_law_cells:=fnD [.f,.i] 4 b_law_cells
abbrev W8(B:Bk P w K mg base)(k:Nat):=HB B "_law_cells" k ["_law_script","_law_many"] (spD K 2 m_law_cells (.l .i))
def ok_law_cells(B:Bk P w K mg base)(iG:Z3 B 1):W8 B 2:=
 n9 B.d1 λ_ _ F=>fnF F ["_law_script","_law_many","_law_found","_law_number","_law_k","_law_cell"] λsc _ _ _ _ _ _ hr=>by exact c6 (j8 2 sc.nd (b9 (C6 (n:=0) n4))) (c6 (j8 3 sc.nd (b9 c7)) (c6 (F9 rfl bW (E7 B.range_ (f8 1)) (z8 4 sc.nd) P7 a7g (PSsX.weak (c6 (j8 5 sc.nd (b9 (i8 v7 (A8 iG hr (f7 (c8 0) (f7 (f8 4) l6))) (i8 a2t c7 c7)))) (c6 (j8 3 sc.nd (b9 (i8 v7 (i8 A1 (i8 A1 (i8 A1 (i8 K6 (f8 3) c7) (i8 K6 (f8 5) c7)) (i8 K6 (f8 4) (f8 4))) c7) c7))) (e7 (u9 (l7 a5E (f8 4) (C7 B.len_ (c8 0))) (e7 (N6 2 (G0 2) (b9 (PX.newi (f8 5))) Z2)) (e7 (N6 2 (G0 2) (b9 (PX.newi (f8 3))) Z2)))))) m8 ((k8 4).trans (k8 5)))) (e7 (j7 (O8 2)))))
def b_law_copied:EvS:=(g9 (l0 3 (J4 c9)) (g9 (D3 (iR (b7 1)) (D0 4) (sIf (tB (e2 dLt (b7 4) (b7 2))) (A5 3 (.l .i) o8 (e2 C5 (e2 z7 (b7 4) (e2 Y8 (e2 B4 (b7 0) (eC (.int 0))) (eC (.int 1000)))) (b7 2))) (A5 3 (.l .i) o8 (e2 C5 (e2 B4 (b7 0) (e2 z7 (eC (.int 3)) (b7 4))) (b7 2))))) (g9 (sIf (tB (e2 dEq (e2 C5 (e2 Y8 (e2 B4 (b7 0) (eC (.int 1))) (eC (.int 20))) (eC (.int 2))) (eC (.int 1)))) (b7n 3) m6) (l5 (b7 3)))))
def m_law_copied:=fnD [.f,.i,.i] 2 b_law_copied
abbrev a0O(B:Bk P w K mg base)(k:Nat):=HB B "_law_copied" k ["_law_xs","_law_n","_law_many"] (spD K 3 m_law_copied (.l .i))
def ok_law_copied(B:Bk P w K mg base):a0O B 1:=
 n9 B.d2 λ_ _ F=>fnF F ["_law_xs","_law_n","_law_many","_law_rows","_law_s"] λsc _ _ _ _ _ _ hr=>by exact c6 (j8 3 sc.nd (b9 (C6 (n:=0) n4))) (c6 (F9 rfl bW (E7 B.range_ (f8 1)) (z8 4 sc.nd) P7 a7g (PSsX.weak (e7 (u9 (l7 a5E (f8 4) (f8 2)) (e7 (N6 3 (G0 3) (b9 (i8 v7 (i8 A1 (f8 4) (i8 M9 (B2 (c8 0) c7) c7)) (f8 2))) Z2)) (e7 (N6 3 (G0 3) (b9 (i8 v7 (B2 (c8 0) (i8 A1 c7 (f8 4))) (f8 2))) Z2)))) m8 (k8 4))) (c6 (u9 (l7 B8 (i8 v7 (i8 M9 (B2 (c8 0) c7) c7) c7) c7) (e7 (b7p 3)) o7) (e7 (j7 (O8 3)))))
def b_law_answer:EvS:=(g9 (l0 2 (e2 a3E (e2 C5 (e2 Y8 (e2 B4 (b7 1) (eC (.int 2))) (eC (.int 1000))) (e2 a3E (e2 K9 (eC (.int 2)) (e2 a4U (eC (.int 10)) (eC (.int 60)))) (eC (.int 2)))) (e2 a3E (e2 a4U (eC (.int 10)) (eC (.int 60))) (eC (.int 1))))) (g9 (sIf (tB (e2 dEq (e2 C5 (e2 Y8 (e2 B4 (b7 1) (eC (.int 1))) (eC (.int 5))) (eC (.int 4))) (eC (.int 1)))) (l5 (e2 z7 (b7 2) (e2 C5 (b7 0) (eC (.int 2))))) m6) (g9 (sIf (tB (e2 dEq (e2 C5 (e2 Y8 (e2 B4 (b7 1) (eC (.int 1))) (eC (.int 5))) (eC (.int 4))) (eC (.int 2)))) (l5 (e2 a3E (e2 C5 (b7 0) (eC (.int 3))) (eC (.int 1)))) m6) (g9 (sIf (tB (e2 dEq (e2 C5 (e2 Y8 (e2 B4 (b7 1) (eC (.int 1))) (eC (.int 5))) (eC (.int 4))) (eC (.int 3)))) (l5 (e2 a3E (e2 C5 (b7 0) (e2 a3E (e2 K9 (eC (.int 2)) (e2 a4U (eC (.int 10)) (eC (.int 60)))) (eC (.int 1)))) (e2 a3E (e2 a4U (eC (.int 10)) (eC (.int 60))) (eC (.int 1))))) m6) (l5 (e2 C5 (b7 0) (eC (.int 2))))))))
def m_law_answer:=fnD [.i,.f] 1 b_law_answer
abbrev a0P(B:Bk P w K mg base)(k:Nat):=HB B "_law_answer" k ["_law_number","_law_xs"] (spD K 2 m_law_answer .i)
def ok_law_answer(B:Bk P w K mg base):a0P B 1:=
 n9 B.d3 λ_ _ F=>fnF F ["_law_number","_law_xs","_law_low"] λsc _ _ _ _ _ _ hr=>by exact c6 (j8 2 sc.nd (b9 (i8 V9 (i8 v7 (i8 M9 (B2 (c8 1) c7) c7) (i8 V9 (i8 K6 c7 (i8 a2t c7 c7)) c7)) (i8 V9 (i8 a2t c7 c7) c7)))) (c6 (u9 (l7 B8 (i8 v7 (i8 M9 (B2 (c8 1) c7) c7) c7) c7) (e7 (j7 (b9 (i8 A1 (f8 2) (i8 v7 (f8 0) c7))))) o7) (c6 (u9 (l7 B8 (i8 v7 (i8 M9 (B2 (c8 1) c7) c7) c7) c7) (e7 (j7 (b9 (i8 V9 (i8 v7 (f8 0) c7) c7)))) o7) (c6 (u9 (l7 B8 (i8 v7 (i8 M9 (B2 (c8 1) c7) c7) c7) c7) (e7 (j7 (b9 (i8 V9 (i8 v7 (f8 0) (i8 V9 (i8 K6 c7 (i8 a2t c7 c7)) c7)) (i8 V9 (i8 a2t c7 c7) c7))))) o7) (e7 (j7 (b9 (i8 v7 (f8 0) c7)))))))
def b_law_machine:EvS:=(g9 (l0 3 (eCl m_law_cells (b8 (b7 0) (b8 (eC (.int 3)) c9)))) (g9 (l0 4 (e2 z7 (eC (.int 1)) (e2 C5 (e2 N0 (b7 3) (eC (.int 0))) (b7 1)))) (g9 (sIf (tB (e2 dEq (e2 C5 (e2 Y8 (e2 N0 (b7 3) (eC (.int 0))) (b7 1)) (eC (.int 8))) (eC (.int 3)))) (l0 4 (e2 z7 (eC (.int 1)) (e2 C5 (e2 Y8 (e2 N0 (b7 3) (eC (.int 0))) (e2 K9 (eC (.int 8)) (b7 1))) (b7 2)))) m6) (g9 (l0 5 (e2 z7 (eC (.int 1)) (e2 C5 (e2 N0 (b7 3) (eC (.int 1))) (eC (.int 5))))) (g9 (l0 6 (b7 4)) (g9 (sIf (tB (e2 dEq (e2 C5 (e2 N0 (b7 3) (eC (.int 2))) (eC (.int 4))) (eC (.int 3)))) (l0 6 (e2 z7 (eC (.int 1)) (e2 C5 (e2 Y8 (e2 N0 (b7 3) (eC (.int 2))) (eC (.int 4))) (b7 4)))) m6) (g9 (l0 7 (eCl m_law_cells (b8 (b7 0) (b8 (e2 z7 (e2 z7 (eC (.int 3)) (b7 4)) (e2 K9 (e2 K9 (eC (.int 2)) (b7 4)) (b7 5))) c9)))) (g9 (l0 8 (eCl m_law_copied (b8 (b7 7) (b8 (b7 4) (b8 (b7 6) c9))))) (g9 (l0 9 (J4 c9)) (g9 (D3 (iR (b7 4)) (D0 10) (g9 (l0 11 (J4 c9)) (g9 (D3 (iR (b7 5)) (D0 12) (g9 (l0 13 (e2 N0 (b7 7) (e2 z7 (e2 z7 (e2 z7 (eC (.int 3)) (b7 4)) (e2 K9 (e2 N0 (b7 8) (b7 10)) (b7 5))) (b7 12)))) (g9 (l0 14 (n6 (iR (b7 4)) [6,8,13] pt1 (tB (e2 dEq (e2 N0 (b7 2) (b7 0)) (e2 C5 (b7 3) (b7 1)))) (b7 0))) (g9 (l0 15 (e2 N0 (b7 7) (e2 z7 (e2 z7 (e2 z7 (e2 z7 (eC (.int 3)) (b7 4)) (e2 K9 (b7 4) (b7 5))) (e2 K9 (b7 10) (b7 5))) (b7 12)))) (A5 11 (.l .i) o8 (B1 (b8 (eCl m_law_answer (b8 (e2 Y8 (b7 13) (b7 6)) (b8 (b7 7) c9))) (b8 (e2 N0 (b7 14) (e2 C5 (b7 15) (eCl v8 (b8 (b7 14) c9)))) c9)))))))) (A5 9 (.l (.l .i)) o8 (b7 11))))) (l5 (b7 9))))))))))))
def m_law_machine:=fnD [.f,.i,.i] 13 b_law_machine
abbrev Z4(B:Bk P w K mg base)(k:Nat):=HB B "_law_machine" k ["_law_script","_law_small","_law_large"] (spD K 3 m_law_machine (.l (.l .i)))
def ok_law_machine(B:Bk P w K mg base)(fJ:W8 B 2)(iU:a0O B 2)(iV:a0P B 2):Z4 B 3:=
 n9 B.d4 λ_ _ F=>fnF F ["_law_script","_law_small","_law_large","_law_first","_law_n","_law_asks","_law_many","_law_xs","_law_rows","_law_table","_law_s","_law_row","_law_a","_law_cell","_law_copies","_law_pick"] λsc _ _ _ _ _ _ hr=>by exact c6 (j8 3 sc.nd (b9 (A8 fJ hr (f7 (c8 0) (f7 c7 l6))))) (c6 (j8 4 sc.nd (b9 (i8 A1 c7 (i8 v7 (N1 (K3 3) c7) (f8 1))))) (c6 (u9 (l7 B8 (i8 v7 (i8 M9 (N1 (K3 3) c7) (f8 1)) c7) c7) (e7 (j8 4 sc.nd (b9 (i8 A1 c7 (i8 v7 (i8 M9 (N1 (K3 3) c7) (i8 K6 c7 (f8 1))) (f8 2)))))) o7) (c6 (j8 5 sc.nd (b9 (i8 A1 c7 (i8 v7 (N1 (K3 3) c7) c7)))) (c6 (j8 6 sc.nd (b9 (PX.newi (f8 4)))) (c6 (u9 (l7 B8 (i8 v7 (N1 (K3 3) c7) c7) c7) (e7 (j8 6 sc.nd (b9 (i8 A1 c7 (i8 v7 (i8 M9 (N1 (K3 3) c7) c7) (f8 4)))))) o7) (c6 (j8 7 sc.nd (b9 (A8 fJ hr (f7 (c8 0) (f7 (i8 A1 (i8 A1 c7 (f8 4)) (i8 K6 (i8 K6 c7 (f8 4)) (f8 5))) l6))))) (c6 (j8 8 sc.nd (b9 (A8 iU hr (f7 (K3 7) (f7 (f8 4) (f7 (f8 6) l6)))))) (c6 (j8 9 sc.nd (b9 (C6 (n:=0) n4))) (c6 (F9 rfl bW (E7 B.range_ (f8 4)) (z8 10 sc.nd) P7 a7g (PSsX.weak (c6 (j8 11 sc.nd (b9 (C6 (n:=0) n4))) (c6 (F9 rfl bW (E7 B.range_ (f8 5)) (z8 12 sc.nd) P7 a7g (PSsX.weak (c6 (j8 13 sc.nd (b9 (PX.newi (N1 (K3 7) (i8 A1 (i8 A1 (i8 A1 c7 (f8 4)) (i8 K6 (N1 (K3 8) (f8 10)) (f8 5))) (f8 12)))))) (c6 (a0d 14 sc.nd rfl (tn:=["_law_t"]) (ys:=["_law_many","_law_rows","_law_cell"]) (E7 B.range_ (f8 4)) rfl (λ_ _ _ _ _=>w9 (i:=0) c0S rfl (fg rfl) (.inr rfl)) O5 (.inl rfl) b5w rfl (λ_ _ _ _ _=>b1o (l7 B8 (N1 (K3 2) (f8 0)) (i8 v7 (f8 3) (f8 1)))) (λ_ _ _ _ _=>(PX.newi (f8 0)))) (c6 (j8 15 sc.nd (b9 (PX.newi (N1 (K3 7) (i8 A1 (i8 A1 (i8 A1 (i8 A1 c7 (f8 4)) (i8 K6 (f8 4) (f8 5))) (i8 K6 (f8 10) (f8 5))) (f8 12)))))) (e7 (N6 11 (G0 11) (b9 (X6 (n:=2) (m3 (A8 iV hr (f7 (i8 M9 (f8 13) (f8 6)) (f7 (K3 7) l6))) (m3 (PX.newi (N1 (K3 14) (i8 v7 (f8 15) (C7 B.len_ (K3 14))))) n4)))) Z2))))) m8 ((((k8 12).trans (k8 13)).trans (k8 14)).trans (k8 15)))) (e7 (N6 9 (G0 9) (O8 11) Z2)))) m8 (k8 10))) (e7 (j7 (O8 9))))))))))))
def b_law_set:EvS:=(g9 (l0 2 (J4 c9)) (g9 (D3 (iR (b7 1)) (D0 3) (g9 (sIf (tB (e2 dEq (e2 C5 (b7 0) (eC (.int 2))) (eC (.int 1)))) (A5 2 (.l .i) o8 (b7 3)) m6) (l0 0 (e2 Y8 (b7 0) (eC (.int 2)))))) (g9 (sIf (tB (e2 dEq (b7 2) (J4 c9))) (l5 (J4 (b8 (e2 a3E (b7 1) (eC (.int 1))) c9))) m6) (l5 (b7 2)))))
def m_law_set:=fnD [.i,.i] 2 b_law_set
abbrev a4u(B:Bk P w K mg base)(k:Nat):=HB B "_law_set" k ["_law_cell","_law_n"] (spD K 2 m_law_set (.l .i))
def ok_law_set(B:Bk P w K mg base):a4u B 1:=
 n9 B.d5 λ_ _ F=>fnF F ["_law_cell","_law_n","_law_some","_law_s"] λsc _ _ _ _ _ _ hr=>by exact c6 (j8 2 sc.nd (b9 (C6 (n:=0) (u:=.i) n4))) (c6 (F9 rfl bW (E7 B.range_ (f8 1)) (z8 3 sc.nd) P7 a7g (PSsX.weak (c6 (u9 (l7 B8 (i8 v7 (f8 0) c7) c7) (e7 (N6 2 (u:=(.l .i)) (G0 2 (u:=(.l .i))) (b9 (PX.newi (f8 3))) Z2)) o7) (e7 (j8 0 sc.nd (b9 (i8 M9 (f8 0) c7))))) m8 (k8 3))) (c6 (u9 (l7 B8 (K3 2) (C6 (n:=0) (u:=.i) n4)) (e7 (j7 (b9 (C6 (n:=1) (u:=.i) (m3 (u:=.i) (i8 V9 (f8 1) c7) n4))))) o7) (e7 (j7 (O8 2 (u:=(.l .i)))))))
def P0:EvS:=(sIf (tB (e2 dGt (eCl v8 (b8 (b7 0) c9)) (eC (.int 7)))) sNo m6)
def x9:=fnN [.f] 0 P0
abbrev G8(B:Bk P w K mg base)(k:Nat):=HB B "need_few_states" k ["machine"] (spD K 1 x9 .i)
def a0i(B:Bk P w K mg base):G8 B 1:=
 n9 B.d6 λ_ _ F=>b9j F ["machine"] [.own .f] λ_ _ _ _ _ _ _ _=>by exact e7 (u9 (l7 b8w (C7 B.len_ (c8 0)) (b3O B.MOST_FOR_SETS_)) (e7 (b5x)) o7)
def a4v:EvS:=(g9 (l0 1 (J4 (b8 (B1 c9) c9))) (g9 (D3 (iR (b7 0)) (D0 2) (l0 1 (eI (a9r (b7 1) (n6 (iI (iL (b7 1))) [2] pt1 tT (e2 a0K (b7 0) (B1 (b8 (b7 1) c9)))))))) (l5 (eI (eSl (b7 1) (oSo (eC (.int 1))) oNo)))))
def Y4:=fnD [.i] 2 a4v
abbrev a4w(B:Bk P w K mg base)(k:Nat):=HB B "sets_of" k ["states"] (spD K 1 Y4 (.l .i))
def a7U(B:Bk P w K mg base):a4w B 1:=
 n9 B.d7 λ_ _ F=>fnF F ["states","found","state"] λsc _ _ _ _ _ _ _=>by exact c6 (j8 1 sc.nd (b9 (C6 (n:=1) (m3 (X6 (n:=0) n4) n4)))) (c6 (F9 rfl bW (E7 B.range_ (f8 0)) (z8 2 sc.nd) P7 a7g (PSsX.weak (e7 (PSX.weak (j8 1 sc.nd (b9 (MkL.i (b6B (PX.newf (c8 1)) (S7 rfl (tn:=["held"]) (ys:=["state"]) (m:=.i) (PIX.i (v9 (PX.newf (c8 1)))) rfl (λ_ _ _ _ _=>w9 (i:=0) c0T rfl (fg rfl) (.inr rfl)) O5 (.inl rfl) a5M rfl (λ_ _ _ _ _=>O7) (λ_ _ _ _ _=>(b4A (f8 0) (X6 (n:=1) (m3 (PX.newi (f8 1)) n4))))))))) (N4 1) m8)) m8 (k8 2))) (e7 (j7 (b9 (MkL.i (b1m (K3 1) (b1k c7) b1j))))))
def U6:EvS:=(g9 (D3 (iEn (b7 0)) (L3 2 3) (sIf (tAn (tB (e2 (E9 p4) (b7 3) (eC .none))) (tV (eCl a9o (b8 (n6 (iL (b7 3)) [1] pt1 tT (e2 (a5c rp p4) (b7 0) (b7 1))) c9)))) (l5 (eIm (b7 2))) m6)) (l5 (eC .none)))
def u4:=fnD [.f,.f] 2 U6
abbrev U7(B:Bk P w K mg base)(k:Nat):=HB B "least_telling" k ["behind","found"] (spD K 2 u4 .i)
def a1s(B:Bk P w K mg base):U7 B 1:=
 n9 B.d8 λ_ _ F=>fnF F ["behind","found","ask","parts"] λsc _ _ _ _ _ _ hr=>by exact c6 (b4g (fi:=(iEn (b7 0))) rfl bW (c0u B.enumerate_ (PX.newf (c8 0))) (R6 rfl (m9 (z8 2 sc.nd) (m9 (z8 3 sc.nd) F5))) (a4Z (.inl rfl)) (λ_ _ _ _ _ e=>nomatch e) (λh=>h) (PSsX.weak (e7 (u9 (PWX.pt (a2d (l7 a2b (c8 3) J3) (a0w (C1 (a7a (b1i rfl) B.all_ PyProof.Rows.Boot.«all» (f7 (S7 rfl (tn:=["part"]) (ys:=["found"]) (v9 (PX.newf (c8 3))) rfl (λ_ _ _ _ _=>w9 (i:=0) c0U rfl (fg rfl) (.inr rfl)) O5 (.inr rfl) a5L rfl (λ_ _ _ _ _=>O7) (λ_ _ _ _ _=>(b7k (b1D (by exact hr.units)) (c8 0) (c8 1)))) l6)))))) (e7 (j7 (b9 (a2V (PX.newf (c8 2)))))) o7)) m8 ((k8 2).trans (k8 3)))) (e7 (j7 (b9 J3)))
def J6:(List D->Option D)->EvS:=λgm=>(g9 (l0 3 (eC (.dict []))) (g9 (D3 (iI (iL (b7 1))) (D0 4) (g9 (l0 5 (eCl gm (b8 (b7 4) (b8 (b7 0) c9)))) (sIf (tB (e2 (E9 p4) (b7 5) (eC .none))) (J1 3 p4 (b7 4) (b7 5)) m6))) (l5 (b7 3))))
def p8:=fnL [.f,.f] 3 J6
abbrev Q9(B:Bk P w K mg base)(k:Nat):=HB B "found_in_round" k ["found","left","tell"] (spL K 2 (λgm=>FnV P w K mg base 2 2 .i gm) p8 (.d p4 .i))
def a0Q(B:Bk P w K mg base):Q9 B 3:=
 n9 B.d9 λ_ _ F=>b9k F ["found","left","tell","newer","thing","told"] λsc gm _ _ _ _ _ _ hr=>by exact c6 (j8 3 sc.nd (b9 (W4 p4 .i))) (c6 (F9 rfl bW (PIX.i (v9 (PX.newf (c8 1)))) (z8 4 sc.nd) P7 b1u (PSsX.weak (c6 (j8 5 sc.nd (b9 (b1Z 2 (k:=2) (n:=2) (m:=gm) (hr.mono (by decide)) (f7 (f8 4) (f7 (c8 0) l6)) (hfl:=(i5 (i5 u6)))))) (e7 (u9 (l7 a2b (f8 5) J3) (e7 (a2e 3 (kt:=p4) (by exact hr.units) (f8 4) (b9 (PX.newi (f8 5))))) o7))) m8 ((k8 4).trans (k8 5)))) (e7 (j7 (O8 3))))
def G9:(List D->Option D)->EvS:=λgm=>(g9 (l0 3 (a5g (b7 0))) (g9 (l0 4 (a9S p8 gm (b8 (b7 3) (b8 (b7 1) c9)))) (g9 (sWh (λ_=>1000000) (tVD (b7 4)) (g9 (a9N 3 4) (g9 (l0 1 (n6 (iI (iL (b7 1))) [4] pt1 (tB (e2 (dIn p4 p4) (b7 0) (b7 1))) (b7 0))) (l0 4 (a9S p8 gm (b8 (b7 3) (b8 (b7 1) c9))))))) (l5 (b7 3)))))
def r9:=fnL [.f,.f] 2 G9
abbrev P3(B:Bk P w K mg base)(k:Nat):=HB B "found_in_rounds" k ["outset","left","tell"] (spL K 2 (λgm=>FnV P w K mg base 2 2 .i gm) r9 .f)
def a0j(B:Bk P w K mg base)(fR:Q9 B 3):P3 B 4:=
 n9 B.d10 λ_ _ F=>b9k F ["outset","left","tell","found","newer"] λsc gm _ _ _ _ _ _ hr=>by exact c6 (j8 3 sc.nd (b9 (b0c B.dict_ (PX.newf (c8 0))))) (c6 (j8 4 sc.nd (b9 (a8F (a4l (gm:=gm) fR hr (Q7 (A3 3) (Q7 (c8 1) (a8x 2))) (hfl:=(Q6 (Q6 a5d))))))) (c6 (a5P (λ_=>1000000) bW (b1L (A3 4)) (PSsX.weak (c6 (a9O 3 4 (by decide) (by exact hr.units)) (c6 (a0d 1 sc.nd rfl (tn:=["thing"]) (ys:=["newer"]) (PIX.i (v9 (PX.newf (c8 1)))) rfl (λ_ _ _ _ _=>w9 (i:=0) c0V rfl (fg rfl) (.inr rfl)) O5 (.inl rfl) a5M rfl (λ_ _ _ _ _=>b1o (b4k 1 (a1p (by exact hr.units)) (f8 0))) (λ_ _ _ _ _=>(PX.newi (f8 0)))) (e7 (j8 4 sc.nd (b9 (a8F (a4l (gm:=gm) fR hr (Q7 (A3 3) (Q7 (K3 1) (a8x 2))) (hfl:=(Q6 (Q6 a5d)))))))))) m8 (N4 1))) (e7 (PSX.weak (j7 (b9 (PX.newf (c8 3)))) (N4 3) m8))))
def a4x:EvS:=(l5 (eCl v8 (b8 (e2 dIx (b7 0) (eC (.int 0))) c9)))
def R0:=fnD [.f] 0 a4x
abbrev a4y(B:Bk P w K mg base)(k:Nat):=HB B "asks_of" k ["machine"] (spD K 1 R0 .i)
def a7V(B:Bk P w K mg base):a4y B 1:=
 n9 B.d11 λ_ _ F=>fnF F ["machine"] λ_ _ _ _ _ _ _ _=>by exact e7 (j7 (b9 (C7 B.len_ (F8 (PX.newf (c8 0)) c7))))
def a1R:EvS:=(g9 (l0 3 (eC (.dict []))) (g9 (D3 (iI (iIt (b7 1))) (L3 4 5) (g9 (l0 6 (e2 B4 (e2 dIx (b7 0) (b7 4)) (b7 2))) (g9 (a2U 3 rp rp (e2 B4 (b7 6) (eC (.int 0))) (e2 B4 (b7 6) (eC (.int 1))) (eC .none) (b7 5)) m6))) (l5 (b7 3))))
def z9:=fnD [.f,.f,.i] 5 a1R
abbrev W9(B:Bk P w K mg base)(k:Nat):=HB B "parted_by" k ["machine","begun","ask"] (spD K 3 z9 .f)
def a5l(B:Bk P w K mg base):W9 B 1:=
 n9 B.d12 λ_ _ F=>fnF F ["machine","begun","ask","found","state","start","step","part"] λsc _ _ _ _ _ _ hr=>by exact c6 (j8 3 sc.nd (b9 (W4 rp (.d rp .i)))) (c6 (b2s (fi:=(iI (iIt (b7 1)))) rfl bW (c0B (PX.newf (c8 1))) (R6 rfl (m9 (z8 4 sc.nd) (m9 (z8 5 sc.nd) F5))) (a4Z (.inr rfl)) (λU ds h d hd _=>b1u U ds h d hd) b7i (PSsX.weak (M2:=[mdF,mdF,mdI,.own (.d rp (.d rp .i)),mdI,mdI,mdI,mdD]) (c6 (j8 6 sc.nd (b9 (B2 (F8 (PX.newf (c8 0)) (f8 4)) (f8 2)))) (b2z 3 7 (kt2:=rp) (fr:=(eC .none)) (by exact hr.units) sc.nd (B2 (f8 6) c7) (B2 (f8 6) c7) (B2 (f8 6) c7) (M2:=[mdF,mdF,mdI,.own (.d rp (.d rp .i)),mdI,mdI,mdI,mdD]) (j7 (b9 (PX.itof J3))) (PX.newi (f8 5)) o7)) m8 (((k8 4).trans (k8 5)).trans (k8 6)))) (e7 (PSX.weak (j7 (b9 (PX.newf (c8 3)))) (N4 3) m8)))
def Z5:EvS:=(g9 (l0 2 (J4 c9)) (g9 (D3 (iR (eCl R0 (b8 (b7 0) c9))) (D0 3) (g9 (l0 4 (eCl z9 (b8 (b7 0) (b8 (K2 rp (b7 1) (b7 1)) (b8 (b7 3) c9))))) (A5 2 (.l .f) o8 (eIf (tB (e2 (E9 rp) (b7 4) (eC .none))) (eC .none) (n6 (iVa (b7 4)) [] pt1 tT (U5 (u8 (b7 0)))))))) (l5 (b7 2))))
def A9:=fnD [.f,.i] 3 Z5
abbrev Z6(B:Bk P w K mg base)(k:Nat):=HB B "sets_behind" k ["machine","states"] (spD K 2 A9 (.l .f))
def a2Z(B:Bk P w K mg base)(ku:a4y B 1)(gc:W9 B 1):Z6 B 2:=
 n9 B.d13 λ_ _ F=>fnF F ["machine","states","found","ask","parts"] λsc _ _ _ _ _ _ hr=>by exact c6 (j8 2 sc.nd (b9 (C6 (n:=0) n4))) (c6 (F9 rfl bW (E7 B.range_ (A8 ku hr (f7 (c8 0) l6))) (z8 3 sc.nd) P7 a7g (PSsX.weak (c6 (j8 4 sc.nd (b9 (by exact y9 gc hr (k9 (PX.newf (c8 0)) (k9 (PX.frz (a2T rp rfl (by exact hr.units) B.dict_ B.zip_ (PX.newi (f8 1)) (PX.newi (f8 1)))) (k9 (PX.newi (f8 3)) (C2)))) (hfl:=(i5 (i5 (i5 u6))))))) (e7 (N6 2 (G0 2) (b9 (PX.frz (b1g (l7 a6X (c8 4) J3) (PX.itol J3) (by exact S7 rfl (tn:=["part"]) (ys:=[]) (m:=.f) (b2A (PX.newf (c8 4))) rfl (λ_ _ _ _ _=>w9 (i:=0) c0W rfl (fg rfl) (.inr rfl)) O5 (.inr rfl) a5L rfl (λ_ _ _ _ _=>O7) (λ_ _ _ _ _=>(a2w B.tuple_ (Y2 rfl B.sorted_ (c8 0)))))))) Z2))) m8 ((k8 3).trans (k8 4)))) (e7 (j7 (O8 2))))
def a0R:EvS:=(g9 (l0 1 (eC (.dict []))) (g9 (l0 2 (eC (.dict []))) (g9 (D3 (iI (iL (eCl Y4 (b8 (eCl v8 (b8 (b7 0) c9)) c9)))) (D0 3) (sIf (tB (e2 dEq (eCl v8 (b8 (b7 3) c9)) (eC (.int 1)))) (J1 1 p4 (b7 3) (eC .none)) (J1 2 p4 (b7 3) (eCl A9 (b8 (b7 0) (b8 (b7 3) c9)))))) (l5 (b4u r9 [.i,.f] [2] (eCl u4 (b8 (e2 (O3 p4) (b7 2) (b7 0)) (b8 (b7 1) c9))) (b8 (b7 1) (b8 (a7I (b7 2)) c9)))))))
def H9:=fnD [.f] 3 a0R
abbrev a0S(B:Bk P w K mg base)(k:Nat):=HB B "least_asks" k ["machine"] (spD K 1 H9 .f)
def a3K(B:Bk P w K mg base)(ko:a4w B 4)(gn:P3 B 4)(iE:Z6 B 4)(kS:U7 B 1)(LT:(C3 K "least_asks").isSome=p4)(KB:K.In base)(GB:base.Ns bL mg):a0S B 5:=
 b4F B.d14 λ_ _ F a=>c0E F ["machine","outset","behind","states"] LT KB GB a λsc _ _ vP vY vO A outer s H _ hr=>by exact c6 (j8 1 sc.nd (b9 (W4 p4 .i))) (c6 (j8 2 sc.nd (b9 (W4 p4 (.l .f)))) (c6 (F9 rfl bW (PIX.i (v9 (PX.frz (A8 ko hr (f7 (C7 B.len_ (c8 0)) l6))))) (z8 3 sc.nd) P7 b1u (PSsX.weak (e7 (u9 (l7 B8 (C7 B.len_ (f8 3)) c7) (e7 (a2e 1 (by exact hr.units) (f8 3) (b9 J3))) (e7 (a2e 2 (by exact hr.units) (f8 3) (b9 (by exact y9 iE hr (k9 (PX.newf (c8 0)) (k9 (PX.newi (f8 3)) (C2))) (hfl:=(i5 (i5 u6))))))))) m8 (k8 3))) (e7 (PSX.weak (b4B rfl (by exact a6m (kf:=1) (uf:=.i) (N:=["states","found","behind"]) (pl:=["states","found"]) (ys:=["behind"]) gn hr (Q7 (c8 1) (Q7 (b2C rfl B.list_ (c8 2)) (b4t (by decide) vY vP vO rfl))) ⟨_,_,_,rfl,rfl,rfl,rfl,rfl,rfl⟩ ⟨⟨_,rfl⟩,trivial⟩ (by exact⟨rfl,rfl,rfl,by decide +kernel,rfl,by decide +kernel,by decide +kernel,by decide +kernel,rfl⟩) rfl (λ_ _ _ us hl=>by obtain⟨_,_,rfl⟩:=VS.b4m hl;rfl) (λfa c A outer s H hr=>A8 kS hr (f7 (a2g (by exact hr.units) (PX.newf (c8 2)) (f8 0)) (f7 (c8 1) l6))) (hfl:=(Q6 (Q6 a5d))))) ((N4 1).trans (N4 2)) m8))))
def a5m(rc:List D->Option D):EvS:=(g9 (sIf (tB (e2 dEq (eCl b1C (b8 (b7 2) c9)) (eC (.int 1)))) (l5 (eNT (e2 B4 (a5b (b7 2)) (eC (.int 0))))) m6) (g9 (l0 3 (e2 (O3 p4) (b7 1) (U5 (u8 (b7 2))))) (g9 (l0 4 (eCl z9 (b8 (b7 0) (b8 (b7 2) (b8 (b7 3) c9))))) (g9 (l0 5 (J4 c9)) (g9 (D3 (iI (iL (u8 (b7 4)))) (D0 6) (A5 5 (.l .f) o8 (B1 (b8 (b7 6) (b8 (eCl rc (b8 (b7 0) (b8 (b7 1) (b8 (e2 (O3 rp) (b7 4) (b7 6)) c9)))) c9))))) (l5 (B1 (b8 (eIm (b7 3)) (b8 (b7 5) c9)))))))))
def L5:Nat->List D->Option D
 |0=>λ_=>el
 |n+1=>fnD [.f,.f,.f] 4 (a5m (L5 n))
abbrev b4O(B:Bk P w K mg base)(k:Nat):=HB B "grown" k ["machine","asks","begun"] (spD K 3 (L5 121) (.tp [.i,(.l .f)]))
def b2O(B:Bk P w K mg base)(nh:W9 B 1):∀n:Nat,Has P w K mg base "grown" (2+n) ["machine","asks","begun"] (spD K 3 (L5 n) (.tp [.i,(.l .f)])):=by
 intro n
 induction n with
 |zero=>exact n9 B.d15 λ_ _ _=>a8B
 |succ n jZ=>
  have gc:=nh.up (show 1<=2+n by lia);exact n9 B.d15 λ_ _ F=>fnF F ["machine","asks","begun","ask","parts","branches","answer"] λsc _ _ _ _ _ _ hr=>by exact c6 (u9 (l7 B8 (b2D B.len_ (c8 2)) c7) (e7 (j7 (b9 (a8M (B2 (b1K rfl B.list_ (c8 2)) c7))))) o7) (c6 (j8 3 sc.nd (b9 (a2g (kt:=p4) (by exact hr.units) (PX.newf (c8 1)) (a2w B.tuple_ (Y2 rfl B.sorted_ (c8 2)))))) (c6 (j8 4 sc.nd (b9 (by exact y9 gc hr (k9 (PX.newf (c8 0)) (k9 (PX.newf (c8 2)) (k9 (PX.newf (c8 3)) (C2)))) (hfl:=(i5 (i5 (i5 u6))))))) (c6 (j8 5 sc.nd (b9 (C6 (n:=0) n4))) (c6 (F9 rfl bW (PIX.i (v9 (PX.frz (Y2 rfl B.sorted_ (c8 4))))) (z8 6 sc.nd) P7 b1u (PSsX.weak (e7 (N6 5 (G0 5) (b9 (PX.frz (a4W (m3 (PX.newi (f8 6)) (m3 (by exact y9 jZ hr (k9 (PX.newf (c8 0)) (k9 (PX.newf (c8 1)) (k9 (a2g (kt:=rp) (by exact hr.units) (PX.newf (c8 4)) (f8 6)) (C2)))) (hfl:=(i5 (i5 (i5 u6))))) n4))))) Z2)) m8 (k8 6))) (e7 (j7 (b3T (a5O (b9 (a2V (PX.newf (c8 3)))) (a5O (O8 5) (b3S))))))))))
def Z7:EvS:=(g9 (l0 2 (eCl H9 (b8 (b7 0) c9))) (g9 (sIf (tB (e2 (a5c p4 p4) (U5 (b7 1)) (b7 2))) (l5 (eNT (eC .none))) m6) (l5 (eCl (L5 121) (b8 (b7 0) (b8 (b7 2) (b8 (K2 p4 (b7 1) (b7 1)) c9)))))))
def o5:=fnD [.f,.f] 1 Z7
abbrev Q0(B:Bk P w K mg base)(k:Nat):=HB B "tree_of_set" k ["machine","states"] (spD K 2 o5 (.tp [.i,(.l .f)]))
def a3a(B:Bk P w K mg base)(iT:a0S B 123)(jZ:b4O B 123):Q0 B 124:=
 n9 B.d16 λ_ _ F=>fnF F ["machine","states","asks"] λsc _ _ _ _ _ _ hr=>by exact c6 (j8 2 sc.nd (b9 (by exact y9 iT hr (k9 (PX.newf (c8 0)) (C2)) (hfl:=(i5 u6))))) (c6 (u9 (b4h (a1p (by exact hr.units)) (a2w B.tuple_ (c8 1)) (c8 2)) (e7 (j7 (b9 (a8M J3)))) o7) (e7 (j7 (b9 (by exact y9 jZ hr (k9 (PX.newf (c8 0)) (k9 (PX.newf (c8 2)) (k9 (PX.frz (a2T p4 rfl (by exact hr.units) B.dict_ B.zip_ (PX.newf (c8 1)) (PX.newf (c8 1)))) (C2)))) (hfl:=(i5 (i5 (i5 u6)))))))))
def a0T:EvS:=(l5 (P8 (eCl v8 (b8 (b7 0) c9))))
def L6:=fnD [.f] 0 a0T
abbrev a0U(B:Bk P w K mg base)(k:Nat):=HB B "all_states" k ["machine"] (spD K 1 L6 (.l .i))
def a3L(B:Bk P w K mg base):a0U B 1:=
 n9 B.d17 λ_ _ F=>fnF F ["machine"] λ_ _ _ _ _ _ _ _=>by exact e7 (j7 (b9 (a0H rfl B.list_ B.range_ (C7 B.len_ (c8 0)))))
def b2P:EvS:=(g9 (sEx (eCl x9 (b8 (b7 0) c9))) (l5 (eCl o5 (b8 (b7 0) (b8 (eCl L6 (b8 (b7 0) c9)) c9)))))
def a3b:=fnD [.f] 0 b2P
abbrev b2Q(B:Bk P w K mg base)(k:Nat):=HB B "tree" k ["machine"] (spD K 1 a3b (.tp [.i,(.l .f)]))
def b4P(B:Bk P w K mg base)(dN:G8 B 124)(fB:Q0 B 124)(iW:a0U B 124):b2Q B 125:=
 n9 B.d18 λ_ _ F=>fnF F ["machine"] λ_ _ _ _ _ _ _ hr=>by exact c6 (a4Y (A8 dN hr (f7 (c8 0) l6))) (e7 (j7 (b9 (by exact y9 fB hr (k9 (PX.newf (c8 0)) (k9 (PX.frz (A8 iW hr (f7 (c8 0) l6))) (C2))) (hfl:=(i5 (i5 u6)))))))
def U8:EvS:=(l5 (a3F (e1 (λd=>cz (.bool (isList d))) (b7 0)) (eCh dLe dLe (eC (.int 1)) (eCl v8 (b8 (b7 0) c9)) (b7 1))))
def D6:=fnD [.f,.i] 0 U8
abbrev U9(B:Bk P w K mg base)(k:Nat):=HB B "is_list_up_to" k ["thing","most"] (spD K 2 D6 .i)
def a1t(B:Bk P w K mg base):U9 B 1:=
 n9 B.d19 λ_ _ F=>fnF F ["thing","most"] λ_ _ _ _ _ _ _ _=>by exact e7 (j7 (b9 (a0c (P6 a5J B.isinstance_ B.list_ PyProof.Rows.Boot.«list» (c8 0)) (a1j (a5F a8m a8m c7 (C7 B.len_ (c8 0)) (f8 1))))))
def a3c:EvS:=(l5 (a3F (e1 (λd=>cz (.bool (isInt d))) (b7 0)) (b1e (e1 (λd=>cz (.bool (isBool d))) (b7 0)))))
def T6:=fnD [.f] 0 a3c
abbrev a3d(B:Bk P w K mg base)(k:Nat):=HB B "is_whole" k ["thing"] (spD K 1 T6 .i)
def a6z(B:Bk P w K mg base):a3d B 1:=
 n9 B.d20 λ_ _ F=>fnF F ["thing"] λ_ _ _ _ _ _ _ _=>by exact e7 (j7 (b9 (a0c (P6 a8p B.isinstance_ B.int_ PyProof.Rows.Boot.«int» (c8 0)) (a1j (b1f (P6 a5I B.isinstance_ B.bool_ PyProof.Rows.Boot.«bool» (c8 0)))))))
def a3e:EvS:=(l5 (a3F (eCl T6 (b8 (b7 0) c9)) (eCh dLe dLt (eC (.int 0)) (b7 0) (b7 1))))
def T7:=fnD [.f,.i] 0 a3e
abbrev a3f(B:Bk P w K mg base)(k:Nat):=HB B "is_below" k ["thing","bound"] (spD K 2 T7 .i)
def a6A(B:Bk P w K mg base)(jO:a3d B 1):a3f B 2:=
 n9 B.d21 λ_ _ F=>fnF F ["thing","bound"] λ_ _ _ _ _ _ _ hr=>by exact e7 (j7 (b9 (a0c (A8 jO hr (f7 (c8 0) l6)) (a1j (a5F a8m a5E c7 (c8 0) (f8 1))))))
def a6B:EvS:=(l5 (a3F (eCl D6 (b8 (b7 0) (b8 (b7 1) c9))) (a3F (eCl a9o (b8 (n6 (iI (iL (b7 0))) [1] pt1 tT (eCl T7 (b8 (b7 0) (b8 (b7 1) c9)))) c9)) (e2 dEq (b7 0) (a0J (b7 0))))))
def a0V:=fnD [.f,.i] 0 a6B
abbrev a6C(B:Bk P w K mg base)(k:Nat):=HB B "is_set" k ["thing","states"] (spD K 2 a0V .i)
def b0p(B:Bk P w K mg base)(gZ:U9 B 2)(jP:a3f B 2):a6C B 3:=
 n9 B.d22 λ_ _ F=>fnF F ["thing","states"] λ_ _ _ _ _ _ _ hr=>by exact e7 (j7 (b9 (a0c (A8 gZ hr (f7 (c8 0) (f7 (f8 1) l6))) (a0c (a7a (b1i rfl) B.all_ PyProof.Rows.Boot.«all» (f7 (S7 rfl (tn:=["state"]) (ys:=["states"]) (PIX.i (v9 (PX.newf (c8 0)))) rfl (λ_ _ _ _ _=>w9 (i:=0) c0X rfl (fg rfl) (.inr rfl)) O5 (.inl rfl) a5M rfl (λ_ _ _ _ _=>O7) (λ_ _ _ _ _=>(A8 jP hr (f7 (f8 0) (f7 (f8 1) l6))))) l6)) (a1j (a6Y B8 (c8 0) (a7B rfl B.set_ B.sorted_ (c8 0))))))))
def a3g:EvS:=(sIf (tNo (tV (eCl a0V (b8 (b7 1) (b8 (eCl v8 (b8 (b7 0) c9)) c9))))) sNo m6)
def T8:=fnN [.f,.f] 0 a3g
abbrev a3h(B:Bk P w K mg base)(k:Nat):=HB B "need_set" k ["machine","thing"] (spD K 2 T8 .i)
def a6D(B:Bk P w K mg base)(lF:a6C B 3):a3h B 4:=
 n9 B.d23 λ_ _ F=>b9j F ["machine","thing"] [.own .f,.own .f] λ_ _ _ _ _ _ _ hr=>by exact e7 (u9 (F7 (C1 (A8 lF hr (f7 (c8 1) (f7 (C7 B.len_ (c8 0)) l6))))) (e7 (b5x)) o7)
def a4z:EvS:=(g9 (sEx (eCl x9 (b8 (b7 0) c9))) (g9 (sEx (eCl T8 (b8 (b7 0) (b8 (b7 1) c9)))) (l5 (eCl o5 (b8 (b7 0) (b8 (b7 1) c9))))))
def v5:=fnD [.f,.f] 0 a4z
abbrev a4A(B:Bk P w K mg base)(k:Nat):=HB B "tree_of" k ["machine","states"] (spD K 2 v5 (.tp [.i,(.l .f)]))
def a7W(B:Bk P w K mg base)(dN:G8 B 124)(fB:Q0 B 124)(jM:a3h B 124):a4A B 125:=
 n9 B.d24 λ_ _ F=>fnF F ["machine","states"] λ_ _ _ _ _ _ _ hr=>by exact c6 (a4Y (A8 dN hr (f7 (c8 0) l6))) (c6 (a4Y (A8 jM hr (f7 (c8 0) (f7 (c8 1) l6)))) (e7 (j7 (b9 (by exact y9 fB hr (k9 (PX.newf (c8 0)) (k9 (PX.newf (c8 1)) (C2))) (hfl:=(i5 (i5 u6))))))))
def b_law_shown(rc:List D->Option D):EvS:=(g9 (sIf (tV (e1 (λd=>cz (.bool (p9 d))) (b7 0))) (l5 (J4 (b8 (eIm (e2 dIx (b7 0) (eC (.int 0)))) (b8 (n6 (iL (e2 dIx (b7 0) (eC (.int 1)))) [] pt2 tT (B1 (b8 (eIm (b7 0)) (b8 (eCl rc (b8 (b7 1) c9)) c9)))) c9)))) m6) (l5 (eIm (b7 0))))
def m_law_shown:Nat->List D->Option D
 |0=>λ_=>el
 |n+1=>fnD [.f] 0 (b_law_shown (m_law_shown n))
def K4:Nat->Ty
 |0=>.i
 |n+1=>(.l (.l (.tp [.i,(K4 n)])))
theorem v6:∀n,(K4 n).shut=p4
 |0=>rfl
 |n+1=>by simp[K4,Ty.shut,Ty.shutAll,v6 n]
abbrev a6E(B:Bk P w K mg base)(k:Nat):=HB B "_law_shown" k ["_law_one"] (spD K 1 (m_law_shown 121) (K4 121))
def ok_law_shown(B:Bk P w K mg base):∀n:Nat,Has P w K mg base "_law_shown" (n+1) ["_law_one"] (spD K 1 (m_law_shown n) (K4 n)):=by
 intro n
 induction n with
 |zero=>exact n9 B.d25 λ_ _ _=>a8B
 |succ n eZ=>exact n9 B.d25 λ_ _ F=>fnF F ["_law_one"] λ_ _ _ _ _ _ _ hr=>by exact c6 (u9 (C1 (P6 X7 B.isinstance_ B.tuple_ PyProof.Rows.Boot.«tuple» (c8 0))) (e7 (j7 (b9 (C6 (n:=2) (m3 (PX.itol (a2V (F8 (PX.newf (c8 0)) c7))) (m3 (S7 rfl (tn:=["_law_answer_here","_law_rest"]) (ys:=[]) (m:=.f) (v9 (F8 (PX.newf (c8 0)) c7)) rfl (λ_ _ _ _ _=>R6 rfl (m9 (w9 (i:=0) b4N rfl (fg rfl) (.inr rfl)) (m9 (w9 (i:=1) b4N rfl (fg rfl) (.inr rfl)) F5))) a8s (.inr rfl) a5L rfl (λ_ _ _ _ _=>O7) (λ_ _ _ _ _=>(a4W (hn:=Nat.le_of_ble_eq_true rfl) (m3 (a2V (PX.newf (c8 0))) (m3 (X8 (hu:=v6 _) eZ hr (f7 (c8 1) l6) (hfl:=(i5 u6))) n4))))) n4)))))) o7) (e7 (j7 (b9 (PX.itol (a2V (PX.newf (c8 0)))))))
def b_law_led:EvS:=(g9 (l0 3 (eC (.dict []))) (g9 (D3 (iI (iL (b7 1))) (L3 4 5) (g9 (a4a 6 7 (e2 B4 (e2 dIx (b7 0) (b7 5)) (b7 2))) (g9 (sIf (tB (e2 (dIn p4 rp) (b7 6) (b7 3))) (J1 3 rp (b7 6) (J4 c9)) m6) (g9 (D3 (iL (e2 (a7n rp) (b7 3) (b7 6))) (L3 8 9) (sIf (tB (e2 dEq (b7 9) (b7 7))) (l5 (eC .none)) m6)) (a4k 3 rp (b7 6) (B1 (b8 (b7 4) (b8 (b7 7) c9)))))))) (l5 (b7 3))))
def m_law_led:=fnD [.f,.f,.i] 7 b_law_led
abbrev a4B(B:Bk P w K mg base)(k:Nat):=HB B "_law_led" k ["_law_table","_law_pairs","_law_ask"] (spD K 3 m_law_led .f)
def ok_law_led(B:Bk P w K mg base):a4B B 1:=
 n9 B.d26 λ_ _ F=>fnF F ["_law_table","_law_pairs","_law_ask","_law_came","_law_start","_law_now","_law_answer_here","_law_to","_law_other","_law_place"] λsc _ _ _ _ _ _ hr=>by exact c6 (j8 3 sc.nd (b9 (W4 rp (.l .i)))) (c6 (F9 rfl bW (PIX.i (v9 (PX.newf (c8 1)))) (R6 rfl (m9 (z8 4 sc.nd) (m9 (z8 5 sc.nd) F5))) (a4Z (w:=.i) (.inr rfl)) (λU ds h d hd _=>b1u U ds h d hd) (PSsX.weak (c6 (b3U 6 7 (u1:=.i) (u2:=.i) sc.nd rfl (b9 (B2 (F8 (PX.newf (c8 0)) (f8 5)) (f8 2))) (.inr (.inl ⟨rfl,rfl,rfl⟩)) (hg1:=m9 (z8 6 sc.nd) (m9 (z8 7 sc.nd) F5))) (c6 (u9 (b7e (kt:=rp) (a1p (by exact hr.units)) (f8 6) (A3 3)) (e7 (a2e 3 (kt:=rp) (by exact hr.units) (f8 6) (b9 (C6 (n:=0) n4)))) o7) (c6 (b0l 8 9 rfl bW (b7g (kt:=rp) (by exact hr.units) (A3 3) (f8 6)) (R6 rfl (m9 (z8 8 sc.nd) (m9 (z8 9 sc.nd) F5))) (l7 B8 (f8 9) (f8 7)) J3) (e7 (b4n 3 (kt:=rp) (by exact hr.units) (f8 6) (X6 (n:=2) (m3 (PX.newi (f8 4)) (m3 (PX.newi (f8 7)) n4)))))))) m8 ((((k8 4).trans (k8 5)).trans (k8 6)).trans (k8 7)))) (e7 (PSX.weak (j7 (b9 (PX.newf (c8 3)))) (N4 3) m8)))
def b_law_whole:EvS:=(l5 (a3F (e1 (λd=>cz (.bool (isInt d))) (b7 0)) (b1e (e1 (λd=>cz (.bool (isBool d))) (b7 0)))))
def m_law_whole:=fnD [.f] 0 b_law_whole
abbrev X0(B:Bk P w K mg base)(k:Nat):=HB B "_law_whole" k ["_law_found"] (spD K 1 m_law_whole .i)
def ok_law_whole(B:Bk P w K mg base):X0 B 1:=
 n9 B.d27 λ_ _ F=>fnF F ["_law_found"] λ_ _ _ _ _ _ _ _=>by exact e7 (j7 (b9 (a0c (P6 a8p B.isinstance_ B.int_ PyProof.Rows.Boot.«int» (c8 0)) (a1j (b1f (P6 a5I B.isinstance_ B.bool_ PyProof.Rows.Boot.«bool» (c8 0)))))))
def b_law_node:EvS:=(g9 (sIf (C9 (tNo (tV (e1 (λd=>cz (.bool (p9 d))) (b7 0)))) (C9 (tB (e2 dNe (eCl v8 (b8 (b7 0) c9)) (eC (.int 2)))) (C9 (tNo (tV (eCl m_law_whole (b8 (e2 dIx (b7 0) (eC (.int 0))) c9)))) (tNo (tB (eCh dLe dLt (eC (.int 0)) (e2 dIx (b7 0) (eC (.int 0))) (b7 1))))))) (l5 (eC (.bool rp))) m6) (g9 (sIf (tNo (tV (e1 (λd=>cz (.bool (isList d))) (e2 dIx (b7 0) (eC (.int 1)))))) (l5 (eC (.bool rp))) m6) (g9 (D3 (iL (e2 dIx (b7 0) (eC (.int 1)))) (D0 2) (sIf (C9 (tNo (tV (e1 (λd=>cz (.bool (p9 d))) (b7 2)))) (C9 (tB (e2 dNe (eCl v8 (b8 (b7 2) c9)) (eC (.int 2)))) (tNo (tV (eCl m_law_whole (b8 (e2 dIx (b7 2) (eC (.int 0))) c9)))))) (l5 (eC (.bool rp))) m6)) (l5 (eC (.bool p4))))))
def m_law_node:=fnD [.f,.i] 1 b_law_node
abbrev a3i(B:Bk P w K mg base)(k:Nat):=HB B "_law_node" k ["_law_one","_law_asks"] (spD K 2 m_law_node .i)
def ok_law_node(B:Bk P w K mg base)(fI:X0 B 1):a3i B 2:=
 n9 B.d28 λ_ _ F=>fnF F ["_law_one","_law_asks","_law_pair"] λsc _ _ _ _ _ _ hr=>by exact c6 (u9 (PWX.pt (R8 (F7 (C1 (P6 X7 B.isinstance_ B.tuple_ PyProof.Rows.Boot.«tuple» (c8 0)))) (R8 (l7 W7 (C7 B.len_ (c8 0)) c7) (R8 (F7 (C1 (A8 fI hr (f7 (F8 (PX.newf (c8 0)) c7) l6)))) (a0x (F7 (a9m a8m a5E c7 (F8 (PX.newf (c8 0)) c7) (f8 1)))))))) (e7 (j7 (b9 U4))) o7) (c6 (u9 (F7 (C1 (P6 a5J B.isinstance_ B.list_ PyProof.Rows.Boot.«list» (F8 (PX.newf (c8 0)) c7)))) (e7 (j7 (b9 U4))) o7) (c6 (F9 rfl bW (v9 (F8 (PX.newf (c8 0)) c7)) (z8 2 sc.nd) b1r (λ_ _ _ _ _=>trivial) (PSsX.weak (e7 (u9 (PWX.pt (R8 (F7 (C1 (P6 X7 B.isinstance_ B.tuple_ PyProof.Rows.Boot.«tuple» (c8 2)))) (R8 (l7 W7 (C7 B.len_ (c8 2)) c7) (a0x (F7 (C1 (A8 fI hr (f7 (F8 (PX.newf (c8 2)) c7) l6)))))))) (e7 (j7 (b9 U4))) o7)) m8 (k8 2))) (e7 (j7 (b9 U4)))))
def b_law_tells:EvS:=(g9 (l0 3 (J4 (b8 (B1 (b8 (b7 1) (b8 (n6 (iI (iL (b7 2))) [] pt1 tT (B1 (b8 (b7 0) (b8 (b7 0) c9)))) c9))) c9))) (g9 (sWh (λ_=>1000000) (tB (e2 dNe (b7 3) (J4 c9))) (g9 (W6 4 5 (a5h 3)) (sIf (tB (e2 dEq (eCl v8 (b8 (b7 5) c9)) (eC (.int 1)))) (sIf (C9 (tNo (tV (eCl m_law_whole (b8 (b7 4) c9)))) (tB (e2 dNe (b7 4) (e2 B4 (e2 B4 (b7 5) (eC (.int 0))) (eC (.int 0)))))) (l5 (eC (.bool rp))) m6) (g9 (sIf (tNo (tV (eCl m_law_node (b8 (b7 4) (b8 (eCl v8 (b8 (e2 dIx (b7 0) (eC (.int 0))) c9)) c9))))) (l5 (eC (.bool rp))) m6) (g9 (l0 6 (eCl m_law_led (b8 (b7 0) (b8 (b7 5) (b8 (e2 dIx (b7 4) (eC (.int 0))) c9))))) (g9 (sIf (C9 (tB (e2 (E9 rp) (b7 6) (eC .none))) (tB (e2 dNe (n6 (iL (e2 dIx (b7 4) (eC (.int 1)))) [] pt2 tT (b7 0)) (u8 (b7 6))))) (l5 (eC (.bool rp))) m6) (D3 (iL (e2 dIx (b7 4) (eC (.int 1)))) (L3 7 8) (A5 3 (.l .f) o8 (B1 (b8 (b7 8) (b8 (e2 (O3 rp) (b7 6) (b7 7)) c9))))))))))) (l5 (eC (.bool p4)))))
def m_law_tells:=fnD [.f,.f,.f] 6 b_law_tells
abbrev a1S(B:Bk P w K mg base)(k:Nat):=HB B "_law_tells" k ["_law_table","_law_found","_law_some"] (spD K 3 m_law_tells .i)
def ok_law_tells(B:Bk P w K mg base)(kr:a4B B 2)(fI:X0 B 2)(jN:a3i B 2):a1S B 3:=
 n9 B.d29 λ_ _ F=>fnF F ["_law_table","_law_found","_law_some","_law_places","_law_one","_law_pairs","_law_came","_law_answer_here","_law_rest"] λsc _ _ _ _ _ _ hr=>by exact c6 (j8 3 sc.nd (b9 (C6 (n:=1) (u:=.f) (m3 (u:=.f) (PX.frz (a4W (m3 (u:=.f) (PX.newf (c8 1)) (m3 (u:=(.l .i)) (S7 rfl (tn:=["_law_s"]) (ys:=[]) (m:=.i) (PIX.i (v9 (PX.newf (c8 2)))) rfl (λ_ _ _ _ _=>w9 (i:=0) c0Y rfl (fg rfl) (.inr rfl)) O5 (.inl rfl) a5M rfl (λ_ _ _ _ _=>O7) (λ_ _ _ _ _=>(X6 (n:=2) (m3 (u:=.i) (PX.newi (f8 0)) (m3 (u:=.i) (PX.newi (f8 0)) n4))))) n4)))) n4)))) (c6 (a5P (λ_=>1000000) bW (l7 W7 (A3 3 (u:=(.l .f))) (C6 (n:=0) (u:=.i) n4)) (PSsX.weak (c6 (b2F 4 5 (u1:=.f) (u2:=.f) sc.nd rfl (b4E 3) (.inl ⟨rfl,rfl,rfl⟩) (hg1:=m9 (z8 4 sc.nd) (m9 (z8 5 sc.nd) F5))) (e7 (u9 (l7 B8 (C7 B.len_ (c8 5)) c7) (e7 (u9 (PWX.pt (R8 (F7 (C1 (A8 fI hr (f7 (c8 4) l6)))) (a0x (l7 W7 (c8 4) (B2 (B2 (c8 5) c7) c7))))) (e7 (j7 (b9 U4))) o7)) (PSsX.weak (c6 (u9 (F7 (C1 (A8 jN hr (f7 (c8 4) (f7 (C7 B.len_ (F8 (PX.newf (c8 0)) c7)) l6))))) (e7 (j7 (b9 U4))) o7) (c6 (j8 6 sc.nd (b9 (by exact y9 (u:=.f) kr hr (k9 (PX.newf (c8 0)) (k9 (PX.newf (c8 5)) (k9 (F8 (PX.newf (c8 4)) c7) (C2)))) (hfl:=(i5 (i5 (i5 u6))))))) (c6 (u9 (PWX.pt (R8 (l7 a6X (c8 6) J3) (a0x (l7 W7 (S7 rfl (tn:=["_law_answer_here","_law_rest"]) (ys:=[]) (m:=.f) (v9 (F8 (PX.newf (c8 4)) c7)) rfl (λ_ _ _ _ _=>R6 rfl (m9 (w9 (i:=0) b4N rfl (fg rfl) (.inr rfl)) (m9 (w9 (i:=1) b4N rfl (fg rfl) (.inr rfl)) F5))) a8s (.inr rfl) a5L rfl (λ_ _ _ _ _=>O7) (λ_ _ _ _ _=>(PX.newf (c8 0)))) (Y2 rfl B.sorted_ (c8 6)))))) (e7 (j7 (b9 U4))) o7) (e7 (F9 rfl bW (v9 (F8 (PX.newf (c8 4)) c7)) (R6 rfl (m9 (z8 7 sc.nd) (m9 (z8 8 sc.nd) F5))) (a4Z (w:=.f) (.inl rfl)) (λ_ _ _ _ _ e=>nomatch e) (PSsX.weak (e7 (N6 3 (u:=(.l .f)) (G0 3 (u:=(.l .f))) (b9 (PX.frz (a4W (m3 (u:=.f) (PX.newf (c8 8)) (m3 (u:=.f) (a2g (kt:=rp) (by exact hr.units) (PX.newf (c8 6)) (c8 7)) n4))))) Z2)) m8 ((k8 7).trans (k8 8)))))))) m8 (k8 6))))) m8 ((k8 4).trans (k8 5)))) (e7 (j7 (b9 U4))))
def b_law:EvS:=(g9 (l0 1 (eCl m_law_machine (b8 (b7 0) (b8 (eC (.int 5)) (b8 (eC (.int 7)) c9))))) (g9 (l0 2 (eCl v8 (b8 (b7 1) c9))) (g9 (l0 3 (eCl m_law_set (b8 (e2 C5 (e2 K9 (e2 B4 (eCl m_law_cells (b8 (b7 0) (b8 (eC (.int 4)) c9))) (eC (.int 3))) (eC (.int 48271))) (eC (.int 1000000007))) (b8 (b7 2) c9)))) (g9 (l0 4 (n6 (iL (b7 1)) [] pt1 tT (eI (Z1 (b7 0))))) (g9 (D3 (iL (J4 (b8 (b7 3) (b8 (P8 (b7 2)) (b8 (J4 (b8 (e2 B4 (b7 3) (eC (.int 0))) c9)) c9))))) (D0 5) (g9 (l0 6 (eI (Z1 (b7 5)))) (g9 (l0 7 (eCl v5 (b8 (b7 4) (b8 (b7 6) c9)))) (g9 (sIf (C9 (tB (e2 dNe (b7 4) (b7 1))) (C9 (tB (e2 dNe (b7 6) (b7 5))) (tAn (tB (e2 (E9 rp) (b7 7) (eC .none))) (tB (e2 dEq (eCl v8 (b8 (b7 5) c9)) (eC (.int 1))))))) (l5 (eC (.bool rp))) m6) (g9 (sIf (tAn (tB (e2 (E9 p4) (b7 7) (eC .none))) (tNo (tV (eCl m_law_tells (b8 (b7 1) (b8 (b7 7) (b8 (b7 5) c9))))))) (l5 (eC (.bool rp))) m6) (g9 (l0 8 (eCl (m_law_shown 121) (b8 (b7 7) c9))) (g9 (sIf (tV (e1 (λd=>cz (.bool (p9 d))) (b7 7))) (A5 7 (.tp [.i,(.l .f)]) (pIx 7 (.tp [.i,(.l .f)]) o8 (eC (.int 1))) (B1 (b8 (eC (.int 0)) (b8 (eC (.int 0)) c9)))) m6) (sIf (tB (e2 dNe (eCl (m_law_shown 121) (b8 (eCl v5 (b8 (b7 4) (b8 (b7 6) c9))) c9)) (b7 8))) (l5 (eC (.bool rp))) m6)))))))) (g9 (l0 9 (eCl a3b (b8 (b7 4) c9))) (g9 (sIf (tAn (tB (e2 (E9 p4) (b7 9) (eC .none))) (tNo (tV (eCl m_law_tells (b8 (b7 1) (b8 (b7 9) (b8 (P8 (b7 2)) c9))))))) (l5 (eC (.bool rp))) m6) (l5 (a3F (e2 dEq (eCl (m_law_shown 121) (b8 (b7 9) c9)) (eCl (m_law_shown 121) (b8 (eCl v5 (b8 (b7 4) (b8 (P8 (b7 2)) c9))) c9))) (e2 dEq (b7 4) (b7 1)))))))))))
def m_law:=fnD [.f] 9 b_law
def ok_law(B:Bk P w K mg base)(fJ:W8 B 125)(iF:Z4 B 125)(kq:a4u B 125)(nW:b2Q B 125)(iN:a4A B 125)(eZ:a6E B 125)(iy:a1S B 125)(F:Fun K "law" "law" (top 41) f fd):FnOk P w K mg base CX0 126 f fd ["_law_script"] (spD K 1 m_law .i):=
 fnF F ["_law_script","_law_table","_law_n","_law_some","_law_handed","_law_one","_law_asked","_law_found","_law_shown_here","_law_whole_here"] λsc _ _ _ _ _ _ hr=>by exact c6 (j8 1 sc.nd (b9 (A8 iF hr (f7 (c8 0) (f7 c7 (f7 c7 l6)))))) (c6 (j8 2 sc.nd (b9 (C7 B.len_ (A3 1)))) (c6 (j8 3 sc.nd (b9 (A8 kq hr (f7 (i8 v7 (i8 K6 (B2 (A8 fJ hr (f7 (c8 0) (f7 c7 l6))) c7) c7) c7) (f7 (f8 2) l6))))) (c6 (PSX.weak (a0d 4 sc.nd rfl (tn:=["_law_row"]) (ys:=[]) (v9 (PX.newf (c8 1))) rfl (λ_ _ _ _ _=>w9 (i:=0) c0Z rfl (fg rfl) (.inr rfl)) O5 (.inr rfl) a5L rfl (λ_ _ _ _ _=>O7) (λ_ _ _ _ _=>(MkL.i (a8r B.list_ (PX.newf (c8 0)))))) (N4 1) m8) (c6 (PSX.weak (F9 rfl bW (v9 (PX.frz (C6 (n:=3) (m3 (PX.newf (c8 3)) (m3 (PX.frz (a0H rfl B.list_ B.range_ (f8 2))) (m3 (PX.frz (C6 (n:=1) (m3 (B2 (c8 3) c7) n4))) n4)))))) (z8 5 sc.nd) b1r (λ_ _ _ _ _=>trivial) (PSsX.weak (c6 (j8 6 sc.nd (b9 (MkL.i (a8r B.list_ (PX.newf (c8 5)))))) (c6 (PSX.weak (j8 7 sc.nd (b9 (by exact y9 iN hr (k9 (PX.newf (c8 4)) (k9 (PX.newf (c8 6)) (C2))) (hfl:=(i5 (i5 u6)))))) (N4 6) m8) (c6 (u9 (PWX.pt (R8 (l7 W7 (c8 4) (c8 1)) (R8 (l7 W7 (c8 6) (c8 5)) (a0x (PWX.pt (a2d (l7 a6X (A3 7) J3) (a0w (l7 B8 (C7 B.len_ (c8 5)) c7)))))))) (e7 (j7 (b9 U4))) o7) (c6 (u9 (PWX.pt (a2d (l7 a2b (A3 7) J3) (a0w (F7 (C1 (A8 iy hr (f7 (c8 1) (f7 (A3 7) (f7 (c8 5) l6))))))))) (e7 (j7 (b9 U4))) o7) (c6 (j8 8 sc.nd (b9 (X8 (hu:=v6 _) eZ hr (f7 (A3 7) l6) (hfl:=(i5 u6))))) (c6 (u9 (C1 (P6 X7 B.isinstance_ B.tuple_ PyProof.Rows.Boot.«tuple» (A3 7))) (e7 (N6 7 (b6C (G0 7) c7) (b9 (PX.itof (X6 (n:=2) (m3 c7 (m3 c7 n4))))) (b8B (k:=1) rfl λ_=>rfl))) o7) (e7 (u9 (l7 W7 (X8 (hu:=v6 _) eZ hr (f7 (by exact y9 iN hr (k9 (PX.newf (c8 4)) (k9 (PX.newf (c8 6)) (C2))) (hfl:=(i5 (i5 u6)))) l6) (hfl:=(i5 u6))) (A3 8)) (e7 (j7 (b9 U4))) o7)))))))) m8 ((((k8 5).trans (k8 6)).trans (k8 7)).trans (k8 8)))) ((N4 3).trans (N4 4)) m8) (c6 (j8 9 sc.nd (b9 (by exact y9 nW hr (k9 (PX.newf (c8 4)) (C2)) (hfl:=(i5 u6))))) (c6 (u9 (PWX.pt (a2d (l7 a2b (A3 9) J3) (a0w (F7 (C1 (A8 iy hr (f7 (c8 1) (f7 (A3 9) (f7 (a0H rfl B.list_ B.range_ (f8 2)) l6))))))))) (e7 (j7 (b9 U4))) o7) (e7 (j7 (b9 (a0c (a6Y B8 (X8 (hu:=v6 _) eZ hr (f7 (A3 9) l6) (hfl:=(i5 u6))) (X8 (hu:=v6 _) eZ hr (f7 (by exact y9 iN hr (k9 (PX.newf (c8 4)) (k9 (PX.frz (a0H rfl B.list_ B.range_ (f8 2))) (C2))) (hfl:=(i5 (i5 u6)))) l6) (hfl:=(i5 u6)))) (a1j (a6Y B8 (c8 4) (c8 1)))))))))))))
end Prog
namespace VS
open PySem L2
abbrev Ky:=List (Int×Int)
def snoc_ind{P:List α->Prop}(h0:P [])(h1:∀l x,P l->P (l++[x]))(l:List α):P l:=by
 have h:∀r:List α,P r.reverse:=by
  intro r
  induction r with
  |nil=>exact h0
  |cons x r ih=>rw[nv];exact h1 _ _ ih
 have:=h l.reverse
 rwa[List.reverse_reverse]at this
def c1a(seen:List Ky)(x:Ky):List Ky:=if x∈seen then seen else seen++[x]
def ded(ks:List Ky):List Ky:=ks.foldl c1a []
def c1b(ks:List Ky):List Int:=ks.map λx=>(((ded ks).idxOf x:Nat):Int)
def rn(r:Ky)(ls:List Int):Ky:=r.map λp=>(p.1,ls.getD p.2.toNat 0)
def lvl(m:l8):Nat->List Int
 |0=>m.map λ_=>0
 |d+1=>c1b (m.map λr=>rn r (lvl m d))
def kf(m:l8):Nat->Ky->Ky
 |0,_=>[]
 |d+1,r=>rn r (lvl m d)
def cls(m:l8)(d:Nat):Nat:=(ded (m.map (kf m d))).length
def lv(m:l8)(d:Nat)(s:Int):Int:=(lvl m d).getD s.toNat 0
def fp:Ky->Ky->Nat
 |x::xs,y::ys=>if x=y then fp xs ys+1 else 0
 |_,_=>0
def fa(m:l8)(d:Nat)(s t:Int):Int:=(fp (rn (rowAt m s) (lvl m d)) (rn (rowAt m t) (lvl m d)):Nat)
theorem a5n{I:Nat->List D->Prop}{Q:List D->Prop}(B:Nat)(step:∀j U,I j U->j<=B/\((c U=cz rp/\Q U)\/(c U=cz p4/\∃U',g U=cz (.nx U')/\I (j+1) U'))):∀n j U,I j U->B<n+j->∃U',whL c g n U=cz (.nx U')/\Q U'
 |0,j,U,h,hn=>absurd (step j U h).1 (by lia)
 |n+1,j,U,h,hn=>by
  rcases (step j U h).2 with⟨e,q⟩|⟨e,U',e2,h2⟩
  ·refine⟨U,?_,q⟩;show (c U).bind _=_;rw[e];rfl
  ·obtain⟨U2,e3,q⟩:=a5n B step n (j+1) U' h2 (by lia);refine⟨U2,?_,q⟩;show (c U).bind _=_;rw[e];show (g U).bind _=_;rw[e2];exact e3
def b9E:sWh (λ_=>n) c g U=whL c g n U:=rfl
def c1c(x:Ky):D:=.tuple (x.map stD)
def dz:List Ky->Nat->List (D×D)
 |[],_=>[]
 |x::xs,i=>(c1c x,.int i)::dz xs (i+1)
theorem a1u(p:α->Bool)(f:α->D):∀{xs:List α},(∀x∈xs,∃bs,pt (enc x)=cz bs/\t (bs++cs)=cz (p x)/\(p x=p4->g (bs++cs)=cz (f x)))->O6 pt t g cs (xs.map enc)=cz ((xs.filter p).map f)
 |[],_=>rfl
 |x::xs,h=>by
  obtain⟨bs,h1,h2,h3⟩:=h x aj;have ih:=a1u p f (xs:=xs) λe he=>h e (ak _ he)
  show (pt (enc x)).bind _=_;rw[h1];show (t (bs++cs)).bind _=_;rw[h2];cases c:p x with
  |true=>
   rw[fM c];show (g (bs++cs)).bind _=_;rw[h3 c];show (O6 pt t g cs (xs.map enc)).bind _=_;rw[ih];rfl
  |false=>
   rw[fN (by rw[c];decide)];exact ih
def b4Q{js:List Nat}(p:Nat->Bool)(f:Nat->D)(hf:fi U=cz (E1 0 n))(hl:n<=1000000)(h:∀k:Nat,k<n->t (.int k::js.map λj=>U.getD j .none)=cz (p k)/\(p k=p4->g (.int k::js.map λj=>U.getD j .none)=cz (f k))) :
  n6 fi js pt1 t g U=cz (.list (((aQ n).filter p).map f)):=by
 unfold n6;rw[hf];show (if (E1 0 n).length<=1000000 then _ else el)=_;rw[aG (by rw[a7h];exact hl),Y3,a1u (enc:=λ(k:Nat)=>aJ k) p f]
 ·rfl
 ·intro x hx;have:=h x (cg.mp hx);exact⟨[.int x],rfl,this.1,this.2⟩
def b0q{l:List Int}(h:i<l.length):l.getD i 0∈l:=by
 rw[aU,au h];exact cW _
theorem a4C(f:α->D):∀{xs:List α},(∀x∈xs,∃bs,pt (enc x)=cz bs/\g (bs++cs)=cz (f x))->O6 pt tT g cs (xs.map enc)=cz (xs.map f)
 |[],_=>rfl
 |x::xs,h=>by
  obtain⟨bs,h1,h2⟩:=h x aj;have ih:=a4C f (xs:=xs) λe he=>h e (ak _ he)
  show (pt (enc x)).bind _=_;rw[h1];show (g (bs++cs)).bind _=_;rw[h2];show (O6 pt tT g cs (xs.map enc)).bind _=_;rw[ih];rfl
def T9{js:List Nat}{xs:List α}(f:α->D)(hf:fi U=cz (xs.map enc))(hl:xs.length<=1000000)(h:∀x∈xs,∃bs,pt (enc x)=cz bs/\g (bs++js.map λj=>U.getD j .none)=cz (f x)) :
  n6 fi js pt tT g U=cz (.list (xs.map f)):=by
 unfold n6;rw[hf];show (if (xs.map enc).length<=1000000 then _ else el)=_;rw[aG (by rw[ah];exact hl),a4C f h];rfl
def c1d(h:a U=cz (.list ds)):iEn a U=cz (N7 ds 0):=by
 unfold iEn;rw[h];rfl
section
variable {β α:Type}[DecidableEq β]
def dd1(W:List (β×α))(c:β×α):List (β×α):=if c.1∈W.map (·.1) then W else W++[c]
def dd(W C:List (β×α)):List (β×α):=C.foldl dd1 W
variable {W C C':List (β×α)}{c:β×α}{t:β}
end
def a1T{n:Nat}:∀{l:List Int},l.Nodup->(∀x∈l,0<=x/\x<(n:Int))->l.length<=n:=by
 induction n with
 |zero=>
  intro l _ h;cases l with
  |nil=>exact aB _
  |cons x l=>have:=h x (by simp);lia
 |succ n ih=>
  intro l hd h;have h1:=ih (l:=l.erase (n:Int)) (hd.erase _) λx hx=>by
   have h2:=(List.Nodup.mem_erase_iff hd).mp hx;have:=h x h2.2;have:=h2.1;lia
  have h2:=List.length_erase (a:=(n:Int)) (l:=l);by_cases c:(n:Int)∈l
  ·rw[aG c]at h2;lia
  ·rw[aL c]at h2;lia
def wl:List Int->List Int->Prop
 |a::p,b::q=>a<b\/(a=b/\wl p q)
 |_,_=>False
def bf(p q:List Int):Prop:=p.length<q.length\/(p.length=q.length/\wl p q)
abbrev b0r:=List (Int×List Int)
def b9F(m:l8)(k:Nat)(e:Int×List Int):b0r:=(aQ k).map λ(a:Nat)=>((stp m e.1 a).2,e.2++[(a:Int)])
abbrev W0:b0r:=[(0,[])]
abbrev Sor(W:b0r):Prop:=W.Pairwise λa b=>bf a.2 b.2
structure Met (m:l8) (k:Nat) (dn W:b0r):Prop where
 eq:W=dd W0 (dn.flatMap (b9F m k))
 pre:∃nw,W=dn++nw
 sor:Sor W
 ql:∀e∈W,e.2.length<=dn.length
structure AllMet (m:l8) (k:Nat) (W:b0r):Prop where
 eq:W=dd W0 (W.flatMap (b9F m k))
 sor:Sor W
 range:∀e∈W,0<=e.1/\e.1<(m.length:Int)
 ql:∀e∈W,e.2.length<=W.length
section
variable {α:Type}
def kvD(enc:α->D)(W:List (Int×α)):List (D×D):=W.map λe=>(aJ e.1,enc e.2)
variable {enc:α->D}{W:List (Int×α)}{t:Int}{x:α}
def a8O:(kvD enc W).length=W.length:=ah ..
def b4R{V:List (Int×α)}:kvD enc (W++V)=kvD enc W++kvD enc V:=aM ..
def a5o:y6 (kvD enc W) (.int t)=decide (t∈W.map (·.1)):=by
 induction W with
 |nil=>rfl
 |cons e W ih=>
  show (aK (.int e.1) (.int t)||y6 (kvD enc W) (.int t))=_;rw[a5i,ih];by_cases h1:e.1=t
  ·simp[h1]
  ·have h2:t≠e.1:=λz=>h1 z.symm
   simp[h1,h2]
def b2R(h:t∉W.map (·.1)):p6 (kvD enc W) (.int t) (enc x)=kvD enc (W++[(t,x)]):=by
 unfold p6;rw[a5o,aY h,b4R];rfl
def dKey_i{t:Int}:o9 rp (.int t)=p4:=rfl
def a8P:(kvD enc W).all (λp=>o9 rp p.1)=p4:=by
 unfold kvD;rw[List.all_map,bj];exact λe _=>dKey_i
def b2S:(kvD enc W).map (·.1)=(W.map (·.1)).map aJ:=by unfold kvD;rw[bG,bG];rfl
def b2T:(kvD enc W).map (·.2)=(W.map (·.2)).map enc:=by unfold kvD;rw[bG,bG];rfl
end
def b2U(hv:fv U=cz d)(hk:fk U=cz k)(hd:U.getD i .none=.dict kvs)(hK:o9 kt k=p4)(hl:kvs.length<1000000)(hp:pOk kvs k=p4:=by exact a9D rfl) :
  J1 i kt fk fv U=cz (.nx (U.set i (.dict (p6 kvs k d)))):=by
 unfold J1;rw[hv];show (fk U).bind _=_;rw[hk];show (match U.getD i .none with|.dict kvs=>_|_=>_)=_;rw[hd];show (if _ then _ else _)=_;rw[aG (by rw[hK,aI hl,hp];rfl)]
def b4S(h:a U=cz (.dict (kvD aJ W))):a5b a U=cz (.list ((W.map (·.2)).map .int)):=by
 unfold a5b;rw[h];show (if _ then _ else _)=_;rw[aG (by rw[a8P,b2T,p7 _ (λ_=>a0D)];rfl),b2T]
section
variable {β:Type}[DecidableEq β]
abbrev a4D(β:Type):=List (β×List Int)
def b5K(nx:β->Nat->β)(k:Nat)(e:β×List Int):a4D β:=(aQ k).map λ(a:Nat)=>(nx e.1 a,e.2++[(a:Int)])
abbrev WB(s:β):a4D β:=[(s,[])]
abbrev b9G(W:a4D β):Prop:=W.Pairwise λa b=>bf a.2 b.2
variable {nx:β->Nat->β}{k:Nat}{s:β}
structure MetB (nx:β->Nat->β) (k:Nat) (s:β) (P:β->Prop) (dn W:a4D β):Prop where
 eq:W=dd (WB s) (dn.flatMap (b5K nx k))
 pre:∃nw,W=dn++nw
 sor:b9G W
 ql:∀e∈W,e.2.length<=dn.length
 ok:∀e∈W,P e.1
structure AllB (nx:β->Nat->β) (k:Nat) (s:β) (P:β->Prop) (W:a4D β):Prop where
 eq:W=dd (WB s) (W.flatMap (b5K nx k))
 sor:b9G W
 ql:∀e∈W,e.2.length<=W.length
 ok:∀e∈W,P e.1
end
section
variable {β α:Type}[DecidableEq β]
structure KeyB (kt:Bool) (key:β->D):Prop where
 eqv:∀a b,aK (key a) (key b)=decide (a=b)
 ok:∀a,o9 kt (key a)=p4
 im:∀a,imm (key a)=p4
variable {key:β->D}{enc:α->D}{W:List (β×α)}{t:β}{x:α}{kt:Bool}
end
def b5L(h:argsOk us ds=p4):fnL us n g gm ds=a2A (g gm (ds++(.none::aN n .none))):=by
 unfold fnL;rw[aG h];cases g gm (ds++(.none::aN n .none)) with
 |none=>rfl
 |some o=>cases o<;>rfl
def b9H(h:f U=cz ds):b4u m us js fb f U=m (fnE us (js.map λj=>U.getD j .none) fb) ds:=by
 unfold b4u;rw[h];rfl
def b9I(h:argsOk us ds=p4):fnE us qL f ds=f (ds++qL):=aG h
def b5M(h:f U=cz ds):a9S m gm f U=m gm ds:=by
 unfold a9S;rw[h];rfl
abbrev PW:=List ((Int×Int)×List Int)
def N9{ns:List Int}{j:Int}(a:0<=j)(b:j<ns.length):L2.atI (ns.map aJ) j=cz (.int (ns.getD j.toNat 0)):=by
 rw[a5a a (by rw[ah];exact b),kh];rw[aU,au (by lia)];rfl
def b4T{js:List Nat}{xs:List α}(p:α->Bool)(f:α->D)(hf:fi U=cz (xs.map enc))(hl:xs.length<=1000000)(h:∀x∈xs,∃bs,pt (enc x)=cz bs/\t (bs++js.map λj=>U.getD j .none)=cz (p x)/\(p x=p4->g (bs++js.map λj=>U.getD j .none)=cz (f x))) :
  n6 fi js pt t g U=cz (.list ((xs.filter p).map f)):=by
 unfold n6;rw[hf];show (if (xs.map enc).length<=1000000 then _ else el)=_;rw[aG (by rw[ah];exact hl),a1u p f h];rfl
def a4E{α:Type}{enc:α->D}{set:List D->D->Option (List D)}{g:EvS}{xs:List α}{U:List D}(I:List α->List D->Prop)(R:D->Prop)(h0:I [] U)
  (step:∀pre x post,xs=pre++x::post->∀U,I pre U->∃U1,set U (enc x)=cz U1/\((∃U2,g U1=cz (.nx U2)/\I (pre++[x]) U2)\/∃d,g U1=cz (.rt d)/\R d)) :
  (∃U',N5 set g (xs.map enc) U=cz (.nx U')/\I xs U')\/∃d,N5 set g (xs.map enc) U=cz (.rt d)/\R d:=by
 have key:∀(post pre:List α) (U:List D),xs=pre++post->I pre U->(∃U',N5 set g (post.map enc) U=cz (.nx U')/\I xs U')\/∃d,N5 set g (post.map enc) U=cz (.rt d)/\R d:=by
  intro post
  induction post with
  |nil=>
   intro pre U e h;rw[bz]at e;subst e;exact .inl ⟨U,rfl,h⟩
  |cons x post ih=>
   intro pre U e h;obtain⟨U1,h1,h2⟩:=step pre x post e U h;rcases h2 with⟨U2,h2,h3⟩|⟨d,h2,h3⟩
   ·rcases ih (pre++[x]) U2 (by rw[e,be];rfl) h3 with⟨U',h4,h5⟩|⟨d,h4,h5⟩
    ·refine .inl ⟨U',?_,h5⟩;show (set U (enc x)).bind _=_;rw[h1];show (g U1).bind _=_;rw[h2];exact h4
    ·refine .inr ⟨d,?_,h5⟩;show (set U (enc x)).bind _=_;rw[h1];show (g U1).bind _=_;rw[h2];exact h4
   ·refine .inr ⟨d,?_,h3⟩;show (set U (enc x)).bind _=_;rw[h1];show (g U1).bind _=_;rw[h2];rfl
 exact key xs [] U rfl h0
end VS
namespace Prog
open PySem L2 VS
abbrev GA:=List (List Int×List Int)
def j5(a:List Int):D:=.tuple (a.map .int)
def U0(e:Int)(es:List Int):List Int:=if e∈es then es else es++[e]
def a0W(a b:List Int):aK (j5 a) (j5 b)=decide (a=b):=by
 unfold j5;simp only[aK];exact a2W a b
theorem a1U:∀a:List Int,r8 (a.map aJ)=p4
 |[]=>by simp only[cE,r8]
 |n::a=>by simp only[ay,r8,B9,a1U a,ef]
def a7X(a:List Int):(j5 a).depth<=7:=by
 unfold j5;simp only[dy];have:=M4 aJ 0 (λ_=>by rw[M5];exact aB _) a;lia
def b0s(a:List Int):B9 (j5 a)=p4:=by
 unfold j5;simp only[B9];exact a1U a
def R1(a:List Int):o9 p4 (j5 a)=p4:=by
 unfold o9;rw[b0s,aI (a7X a)];rfl
def dKey_i(e:Int):o9 rp (.int e)=p4:=by
 unfold o9;rw[show B9 (.int e)=p4 by simp only[B9],show (aJ e).depth=0 from M5];rfl
def a3j:x∈U0 e es↔x∈es\/x=e:=by
 unfold U0;by_cases c:e∈es
 ·rw[aG c];exact⟨.inl,λh=>h.elim id λz=>z▸c⟩
 ·rw[aL c,az,ao]
structure DdOk (f:Int->List Int×Int) (ss:List Int) (dd:GA):Prop where
 nd:(dd.map (·.1)).Nodup
 keys:∀a,a∈dd.map (·.1)↔∃s∈ss,(f s).1=a
 mem:∀q∈dd,∀e,e∈q.2↔∃s∈ss,f s=(q.1,e)
 nd2:∀q∈dd,q.2.Nodup
 len:dd.length<=ss.length
 b4m:∀q∈dd,q.2.length<=ss.length
end Prog
local macro_rules | `(tactic| walk_at "ev")=>`(tactic| simp -implicitDefEqProofs (disch:=first | omega | assumption | decide) only [VS.v_var,VS.v_c,VS.v_1,VS.v_2,VS.c0k,VS.b1x,VS.b5z,VS.c0l,VS.c0m,VS.b8M,VS.b8N,VS.b8O,VS.v_and,VS.v_or,VS.v_not,VS.b8P,VS.b5A,VS.b5B,VS.A6,VS.a2B,VS.b8Q,VS.c0n,VS.b6Y,VS.a5Q,VS.b1y,VS.b6Z,VS.c0f,VS.c0g,VS.c0h,VS.b3Z,VS.c0i,VS.c0j,VS.b6H,VS.b6I,VS.b6J,VS.b8H,VS.b8I,VS.b6K,VS.b6L,VS.b8J,VS.b8K,VS.b6M,VS.b6N,VS.b6O,VS.b6P,VS.b6Q,VS.w6,VS.b6R,VS.b6S,VS.b6T,VS.b1w,VS.b6U,VS.b8L,VS.b4a,VS.b6V,VS.b6W,VS.a8u,VS.b6X,VS.v_add,VS.v_sub,VS.v_lt,VS.c0o,VS.c0p,VS.c0q,VS.b8R,VS.b8S,VS.b7a,VS.b7b,VS.b8T,VS.b8U,VS.b8V,VS.b8W,VS.b8X,VS.b1z,VS.v_mod,VS.v_div,VS.c0F,VS.b9l,VS.b9m,VS.trB,VS.b9n,VS.b7y,VS.b2G,VS.b4G,VS.b2H,VS.b2I,VS.b4H,VS.b0m,VS.a7K,VS.a7L,VS.a7M,VS.b0n,VS.b0o,VS.a7N,VS.a7O,VS.a6p,VS.a6q,VS.a6r,VS.a7P,VS.a7Q,VS.a6s,VS.isList_list,VS.isList_int,VS.a6t,VS.isList_bool,VS.a7R,VS.isList_str,VS.isList_dict,VS.a6u,VS.isTuple_list,VS.isTuple_int,VS.b2J,VS.a6v,VS.a8N,VS.b9o,VS.b9p,VS.b7z,VS.c0O,VS.a3J,VS.N8,VS.b7A,VS.b7B,VS.b9r,VS.b9s,VS.c0P,VS.at0,VS.at1,VS.b9A,VS.b9B,VS.b7F,VS.b4L,VS.b9C,VS.b4M,List.getD_cons_zero,List.getD_cons_succ,mH,jB,jf,gN,bh,cw,bz,jT,Bool.not_false,jS,fY,Bool.false_and,Bool.and_false,VS.c0G,VS.c0H,VS.c0I,VS.c0J,VS.c0K,VS.c0L,VS.c0M,VS.c0N,decide_true,decide_false,ah,ay,cE])
namespace Prog
open PySem L2 VS
def i6(g:List Int->D)(l:List (List Int)):List (D×D):=l.map λp=>(j5 p,g p)
def a6F(p:List Int)(l:List (List Int)):List (List Int):=if p∈l then l else l++[p]
section
variable {g:List Int->D}{l:List (List Int)}{a:List Int}
def a3k:(i6 g l).length=l.length:=ah ..
theorem M6(a:List Int):∀l:List (List Int),y6 (i6 g l) (j5 a)=decide (a∈l)
 |[]=>rfl
 |q::l=>by
  have ih:=M6 a l;unfold y6 i6 at ih ⊢;rw[ay,List.any_cons,ih,a0W,fX];simp only[iZ,cY,aC];exact or_congr_left eq_comm
theorem a4F:∀{l:List (List Int)},a∈l->D4 (i6 g l) (j5 a)=cz (g a)
 |[],h=>nomatch h
 |q::l,h=>by
  by_cases c:q=a
  ·unfold D4 i6;rw[ay,gX,a0W,aI c];subst c;rfl
  ·have ih:=a4F (l:=l) ((aC.mp h).resolve_left λz=>c z.symm);unfold D4 i6 at ih ⊢;rw[ay,gX,a0W,aY c];exact ih
def b2V:p6 (i6 g l) (j5 a) (g a)=i6 g (a6F a l):=by
 unfold p6 a6F;rw[M6];by_cases c:a∈l
 ·rw[aI c,aG rfl,aG c];unfold i6;rw[bG];refine bU λx _=>?_
  show (if aK (j5 x) (j5 a)=p4 then (j5 x,g a) else (j5 x,g x))=(j5 x,g x);rw[a0W];by_cases e:x=a
  ·rw[aI e,aG rfl,e]
  ·rw[aY e,aL aS]
 ·rw[aY c,aL c,aL aS];unfold i6;rw[aM];rfl
def a1V(l:List (List Int)):keysOk p4 (i6 g l)=p4:=by
 unfold keysOk i6;rw[bj];intro p hp;obtain⟨q,_,rfl⟩:=aR.mp hp;exact R1 q
def b0t:(i6 g l).map (·.1)=l.map j5:=by unfold i6;rw[bG];rfl
def b5N:a5c neg p4 (j5 a) (.dict (i6 g l))=cz (.bool (neg !=decide (a∈l))):=by
 show (if o9 p4 (j5 a)&&keysOk p4 (i6 g l) then cz (dE (neg !=y6 (i6 g l) (j5 a))) else el)=_;rw[R1,a1V,M6];rfl
def b5O(h:a∈l):O3 p4 (.dict (i6 g l)) (j5 a)=cz (g a):=by
 show (if o9 p4 (j5 a)&&keysOk p4 (i6 g l) then D4 (i6 g l) (j5 a) else el)=_;rw[R1,a1V,a4F h];rfl
def a5p(hv:fv U=cz (g a))(hk:fk U=cz (j5 a))(hd:U.getD i .none=.dict (i6 g l))(hl:l.length<1000000)(hp:a∉l):J1 i p4 fk fv U=cz (.nx (U.set i (.dict (i6 g (a6F a l))))):=by
 rw[b2U hv hk hd (R1 a) (by rw[a3k];exact hl) (b4d (by rw[M6];exact aY hp)),b2V]
end
end Prog
namespace VS
open PySem L2
section
variable {β:Type}[DecidableEq β]{nx:β->Nat->β}{k:Nat}{s:β}{P:β->Prop}{W:a4D β}
def b9J(nx:β->Nat->β)(b:β)(p:List Int):β:=p.foldl (λb a=>nx b a.toNat) b
end
def b2W(Y:List Int)(v x:Int):x∈dH Y v↔x∈Y\/x=v:=by
 unfold dH
 split
 ·rename_i h
  refine⟨.inl,λz=>z.elim id λe=>?_⟩;obtain⟨y,h1,h2⟩:=cX.mp h;rw[e,<-kn.mp h2];exact h1
 ·simp
def b4U{Y:List Int}(v:Int)(h:Y.Nodup):(dH Y v).Nodup:=by
 unfold dH
 split
 ·exact h
 ·rename_i c
  refine bb.mpr ⟨h,by simp,λa ha b hb=>?_⟩;rw[ao.mp hb];rintro rfl;exact c (cX.mpr ⟨a,ha,fH a⟩)
theorem a3l:∀(l Y:List Int),(∀x,x∈l.foldl dH Y↔x∈Y\/x∈l)/\(Y.Nodup->(l.foldl dH Y).Nodup)
 |[],Y=>⟨λx=>by simp,id⟩
 |v::l,Y=>by
  obtain⟨h1,h2⟩:=a3l l (dH Y v);refine⟨λx=>?_,λh=>h2 (b4U v h)⟩;rw[oX,h1,b2W,aC]
  constructor
  ·rintro ((a|a)|a)
   ·exact .inl a
   ·exact .inr (.inl a)
   ·exact .inr (.inr a)
  ·rintro (a|a|a)
   ·exact .inl (.inl a)
   ·exact .inl (.inr a)
   ·exact .inr a
def a3m(ns:List Int):(aQ ns.length).map (λi=>ns.getD i 0)=ns:=by
 refine List.ext_getElem (by simp) λi h1 h2=>?_
 simp[aU,au h2]
def b4V:x∈dis ns↔x∈ns:=by
 unfold dis kU;rw[a3m,(a3l ns []).1];simp
def b7L(ns:List Int):(dis ns).Nodup:=by
 unfold dis kU;exact (a3l _ []).2 bp
abbrev Inc(b:List Int):Prop:=b.Pairwise (· < ·)
def a0k(ns:List Int):List Int:=srt (dis ns)
def R4:x∈a0k ns↔x∈ns:=by unfold a0k;rw[(o3 _).mem_iff,b4V]
def R5(ns:List Int):Inc (a0k ns):=by
 have h1:=S9 (dis ns);have h2:(srt (dis ns)).Nodup:=(o3 _).nodup_iff.mpr (b7L ns);exact (h1.and h2).imp λ{a b} h=>by have:=h.1;have:=h.2;lia
def a1v(ha:Inc a)(hb:Inc b)(h:∀x,x∈a↔x∈b):a=b:=by
 have hp:a.Perm b:=(jC (ha.imp λh=>by lia) (hb.imp λh=>by lia)).mpr h;exact hp.eq_of_pairwise (le:=(· < ·)) (λ_ _ _ _ h h'=>by lia) ha hb
def b0u(hb:Inc b):a0k b=b:=a1v (R5 b) hb λx=>R4
def nxS(m:l8)(b:List Int)(a:Nat):List Int:=a0k (b.map λs=>(stp m s a).2)
def SetK(m:l8)(b:List Int):Prop:=Inc b/\b≠[]/\∀s∈b,0<=s/\s<(m.length:Int)
theorem b2X[DecidableEq α]:∀{l L:List α},l.Nodup->(∀x∈l,x∈L)->l.length<=L.length
 |[],_,_,_=>b_ _
 |a::l,L,hn,h=>by
  rw[br]at hn;have ha:=h a aj;have:=b2X (l:=l) (L:=L.erase a) hn.2 λx hx=>(List.mem_erase_of_ne (show x≠a from λe=>hn.1 (e▸hx))).mpr (h x (ak _ hx))
  rw[List.length_erase_of_mem ha]at this;have:=tU ha;rw[bB];lia
structure Gat (m:l8) (k:Nat) (b:List Int) (o:Option (List Int)):Prop where
 ok:∀q,o=cz q->(∀a∈q,0<=a/\a<(k:Int))/\(b9J (nxS m) b q).length=1
 least:∀p,(∀a∈p,0<=a/\a<(k:Int))->(b9J (nxS m) b p).length=1->∃q,o=cz q/\(q=p\/bf q p)
end VS
namespace Prog
open PySem L2 VS
def toA(m:l8)(a:Nat)(L:List Int)(x:Int):List Int:=(L.filter λs=>decide ((stp m s a).1=x)).map λs=>(stp m s a).2
def prt(m:l8)(a:Nat)(S:List Int)(x:Int):List Int:=a0k (toA m a S x)
def K7(m:l8)(a:Nat)(S:List Int):Bool:=decide (S.map λs=>stp m s a).Nodup
theorem a3n{α β:Type}{f:α->β}:∀{l:List α},(l.map f).Nodup->∀{x y:α},x∈l->y∈l->f x=f y->x=y
 |[],_,_,_,h,_,_=>nomatch h
 |z::l,hn,x,y,hx,hy,e=>by
  rw[ay,br]at hn;rcases aC.mp hx with h1|h1
  ·rcases aC.mp hy with h2|h2
   ·rw[h1,h2]
   ·exact absurd (by rw[<-h1,e];exact bt h2) hn.1
  ·rcases aC.mp hy with h2|h2
   ·exact absurd (by rw[<-h2,<-e];exact bt h1) hn.1
   ·exact a3n hn.2 h1 h2 e
theorem a4G{α β:Type}{f:α->β}:∀{l:List α},l.Nodup->(∀x∈l,∀y∈l,f x=f y->x=y)->(l.map f).Nodup
 |[],_,_=>bp
 |z::l,hn,h=>by
  rw[br]at hn;rw[ay,br];refine⟨λq=>?_,a4G hn.2 λx hx y hy=>h x (ak _ hx) y (ak _ hy)⟩;obtain⟨y,hy,e⟩:=aR.mp q;exact hn.1 (h z aj y (ak _ hy) e.symm▸hy)
section
variable {m:l8}{k a:Nat}{S L:List Int}{x y:Int}
def a2k:y∈toA m a S x↔∃s∈S,stp m s a=(x,y):=by
 unfold toA;rw[aR]
 constructor
 ·rintro⟨s,hs,rfl⟩;have:=bx.mp hs;exact⟨s,this.1,by rw[<-aW this.2]⟩
 ·rintro⟨s,hs,e⟩;exact⟨s,bx.mpr ⟨hs,by rw[e];exact aI rfl⟩,by rw[e]⟩
def a2l:y∈prt m a S x↔∃s∈S,stp m s a=(x,y):=by unfold prt;rw[R4,a2k]
def b4W:Inc (prt m a S x):=R5 _
def a7Y(h:(S.map λs=>stp m s a).Nodup):(toA m a S x).Nodup:=by
 have hn:S.Nodup:=wD _ (λa b q e=>q (by rw[e])) h;unfold toA;refine a4G (hn.filter _) λs hs t ht e=>a3n h (bx.mp hs).1 (bx.mp ht).1 ?_
 have h1:=aW (bx.mp hs).2;have h2:=aW (bx.mp ht).2;exact Prod.ext (by rw[h1,h2]) e
def a1w(h:L.Perm S):K7 m a L=K7 m a S:=by
 unfold K7;rw[fX,cY,cY];exact (h.map _).nodup_iff
theorem SetK.prt(w:WF m k)(h:SetK m S)(ha:a<k)(hs:s∈S):SetK m (prt m a S (stp m s a).1):=by
 refine⟨b4W,λe=>?_,λy hy=>?_⟩
 ·have:(stp m s a).2∈Prog.prt m a S (stp m s a).1:=a2l.mpr ⟨s,hs,rfl⟩;rw[e]at this;cases this
 ·obtain⟨t,ht,e⟩:=a2l.mp hy;have:=h.2.2 t ht;have:=w.nx this.1 this.2 (a:=(a:Int)) (by lia) (by lia);rw[e]at this;exact this
def a8Q(h:L.Nodup):srt L=a0k L:=by
 refine a1v ?_ (R5 L) λx=>by rw[R4,(o3 L).mem_iff]
 have h2:(srt L).Nodup:=(o3 L).nodup_iff.mpr h;exact ((S9 L).and h2).imp λ{a b} h=>by have:=h.1;have:=h.2;lia
end
def tst(T:List Int->Bool)(m:l8)(a:Nat)(S:List Int):Bool:=K7 m a S&&S.all λs=>T (prt m a S (stp m s a).1)
def tb(m:l8)(k:Nat):Nat->List Int->Bool
 |0,S=>decide (S.length=1)
 |d+1,S=>tb m k d S||(aQ k).any λa=>tst (tb m k d) m a S
def lta(m:l8)(k d:Nat)(S:List Int):Option Nat:=(aQ k).find? λa=>tst (tb m k d) m a S
section
variable {m:l8}{k d e:Nat}{S:List Int}
def b5P(h:tb m k d S=p4):tb m k (d+1) S=p4:=by show (tb m k d S||_)=p4;rw[h];rfl
def a0X(h:tb m k d S=p4)(hl:d<=e):tb m k e S=p4:=by
 induction hl with
 |refl=>exact h
 |step _ ih=>exact b5P ih
def a0Y:tb m k (d+1) S=(tb m k d S||(lta m k d S).isSome):=by
 show (tb m k d S||_)=_
 congr 1;unfold lta;rw[fX,cX,BF]
def a3o(h:lta m k d S=cz a):a<k/\tst (tb m k d) m a S=p4:=by
 unfold lta at h;exact⟨cg.mp (qR h),GQ (p:=λa=>tst (tb m k d) m a S) h⟩
def n5(m:l8)(k:Nat)(S:List Int):D:=if S.length=1 then .none else match (aQ 200).find? λe=>(lta m k e S).isSome with
 |some e=>match lta m k e S with
  |some a=>.int a
  |none=>.none
 |none=>.none
def a5q(h1:S.length≠1)(h2:tb m k d S=rp)(h3:lta m k d S=cz a)(hd:d<200):n5 m k S=.int a:=by
 have hf:((aQ 200).find? λe=>(lta m k e S).isSome)=cz d:=by
  rw[gU];refine⟨by rw[h3];rfl,cg.mpr hd,λj hj=>?_⟩;cases x:lta m k j S with
  |none=>rfl
  |some b=>
   have:tb m k (j+1) S=p4:=by rw[a0Y,x,Bool.or_comm];rfl
   have:=a0X this (show j+1<=d by lia);rw[h2]at this;cases this
 unfold n5;rw[aL h1,hf];show (match lta m k d S with|some a=>aJ a|none=>.none)=_;rw[h3]
theorem b2Y:∀(j:Nat),j<=200->tb m k j S=p4->S.length≠1->∃e a,e<j/\a<k/\n5 m k S=.int (a:Nat)/\tst (tb m k e) m a S=p4
 |0,_,h,h1=>absurd (aW h) h1
 |j+1,hj,h,h1=>by
  cases x:tb m k j S with
  |true=>
   obtain⟨e,a,q1,q2⟩:=b2Y j (by lia) x h1;exact⟨e,a,by lia,q2⟩
  |false=>
   rw[a0Y,x,rS]at h;obtain⟨a,ha⟩:=fC.mp h;have:=a3o ha;exact⟨j,a,by lia,this.1,a5q h1 x ha (by lia),this.2⟩
end
def lfS(m:l8)(k:Nat)(A:List (List Int))(d:Nat):List (List Int):=A.filter λS=>!tb m k d S
def nwS(m:l8)(k:Nat)(A:List (List Int))(d:Nat):List (List Int):=(lfS m k A d).filter λS=>(lta m k d S).isSome
def kdS(m:l8)(k:Nat)(A:List (List Int)):Nat->List (List Int)
 |0=>A.filter λS=>decide (S.length=1)
 |d+1=>kdS m k A d++nwS m k A d
section
variable {m:l8}{k:Nat}{A:List (List Int)}{d:Nat}{S:List Int}
def U3:S∈lfS m k A d↔S∈A/\tb m k d S=rp:=by
 unfold lfS;rw[bx,jI]
def a0Z:S∈nwS m k A d↔S∈A/\tb m k d S=rp/\(lta m k d S).isSome=p4:=by
 unfold nwS;rw[bx,U3,and_assoc]
theorem D7:∀{d:Nat},S∈kdS m k A d↔S∈A/\tb m k d S=p4
 |0=>by show S∈A.filter _↔_;rw[bx];rfl
 |d+1=>by
  show S∈kdS m k A d++nwS m k A d↔_;rw[az,D7 (d:=d),a0Z,a0Y,iZ]
  constructor
  ·rintro (⟨q1,q2⟩|⟨q1,q2,q3⟩)
   ·exact⟨q1,.inl q2⟩
   ·exact⟨q1,.inr q3⟩
  ·rintro⟨q1,q2⟩;cases x:tb m k d S with
   |true=>exact .inl ⟨q1,rfl⟩
   |false=>exact .inr ⟨q1,rfl,q2.resolve_left (by rw[x];decide)⟩
theorem b2Z(hA:A.Nodup):∀d,(kdS m k A d).Nodup
 |0=>hA.filter _
 |d+1=>by
  show (kdS m k A d++nwS m k A d).Nodup;rw[bb];refine⟨b2Z hA d,(hA.filter _).filter _,λx hx y hy e=>?_⟩;subst e;have h1:=(D7.mp hx).2;rw[(a0Z.mp hy).2.1]at h1;cases h1
def a6G:(lfS m k A d).filter (λS=>!decide (S∈nwS m k A d))=lfS m k A (d+1):=by
 have e:∀S∈lfS m k A d,(!decide (S∈nwS m k A d))=!tb m k (d+1) S:=by
  intro S hS;have h:=U3.mp hS
  congr 1;rw[fX,cY,a0Z,a0Y,h.2,rS];exact⟨λq=>q.2.2,λq=>⟨h.1,rfl,q⟩⟩
 rw[BH e];unfold lfS;rw[List.filter_filter];refine BH λS _=>?_
 cases x:tb m k d S with
 |true=>rw[b5P x];rfl
 |false=>simp
def b3a(h:nwS m k A d≠[]):(lfS m k A (d+1)).length<(lfS m k A d).length:=by
 rw[<-a6G];obtain⟨x,hx⟩:=qS _ h;exact List.length_filter_lt_length_iff_exists.mpr ⟨x,(bx.mp hx).1,by rw[aI hx];decide⟩
def b4X(h:nwS m k A d=[])(hS:S∈A)(ha:a<k)(ht:tst (tb m k d) m a S=p4):tb m k d S=p4:=by
 cases x:tb m k d S with
 |true=>rfl
 |false=>
  have:S∈nwS m k A d:=a0Z.mpr ⟨hS,x,by unfold lta;rw[BF];exact⟨a,cg.mpr ha,ht⟩⟩;rw[h]at this;cases this
end
def A4(g:Int->D)(ks:List Int):List (D×D):=ks.map λx=>(aJ x,g x)
section
variable {g h:Int->D}{ks:List Int}{x:Int}
def b4Y:A4 g ks=kvD g (ks.map λx=>(x,x)):=by unfold A4 kvD;rw[bG];rfl
def a4H:(A4 g ks).map (·.1)=ks.map aJ:=by unfold A4;rw[bG];rfl
def a6H:(A4 g ks).length=ks.length:=ah ..
def Y5:y6 (A4 g ks) (.int x)=decide (x∈ks):=by rw[b4Y,a5o,bG];congr 2;exact kD ks
def a1x:x∈ks->D4 (A4 g ks) (.int x)=cz (g x):=by
 induction ks with
 |nil=>intro h;cases h
 |cons y ks ih=>
  intro hx;unfold D4 A4 at ih ⊢;rw[ay,gX];show Option.map _ (match aK (.int y) (.int x) with|true=>_|false=>_)=_;rw[a5i];by_cases c:y=x
  ·rw[aI c,c];rfl
  ·rw[aY c];exact ih ((aC.mp hx).resolve_left λz=>c z.symm)
def a1W:keysOk rp (A4 g ks)=p4:=by
 unfold keysOk A4;rw[bj];intro p hp;obtain⟨q,_,rfl⟩:=aR.mp hp;exact dKey_i q
def b0v(hx:x∉ks->g x=h x):p5 (A4 g ks) (.int x) (h x)=A4 g (U0 x ks):=by
 unfold p5 U0;rw[Y5];by_cases c:x∈ks
 ·rw[aI c,aG rfl,aG c]
 ·rw[aY c,aL aS,aL c,<-hx c];unfold A4;rw[aM];rfl
def a6I(hx:x∈ks)(hh:∀y,y≠x->h y=g y):p6 (A4 g ks) (.int x) (h x)=A4 h ks:=by
 unfold p6;rw[Y5,aI hx,aG rfl];unfold A4;rw[bG];refine bU λy _=>?_
 show (if aK (.int y) (.int x)=p4 then (aJ y,h x) else (aJ y,g y))=(aJ y,h y);rw[a5i];by_cases c:y=x
 ·rw[aI c,aG rfl,c]
 ·rw[aY c,aL aS,hh y c]
def b3b(hx:x∈ks):O3 rp (.dict (A4 g ks)) (.int x)=cz (g x):=by
 show (if o9 rp (.int x)&&keysOk rp (A4 g ks) then D4 (A4 g ks) (.int x) else el)=_;rw[dKey_i,a1W,a1x hx];rfl
def a1a{es:List Int}(ha:a U=cz (.dict kvs))(he:kvs.map (·.1)=es.map aJ)(hl:es.length<60):u8 a U=cz (iD (srt es)):=by
 unfold u8;rw[ha,bF];show (intsOf (kvs.map (·.1))).bind _=_;rw[he,a0f,bF,aG (by lia)]
def b4Z(hn:ks.Nodup):(U0 x ks).Nodup:=by
 unfold U0;by_cases c:x∈ks
 ·rw[aG c];exact hn
 ·rw[aL c,bb];exact⟨hn,by simp,λy hy z hz e=>c (by rw[ao]at hz;rw[<-hz,<-e];exact hy)⟩
end
def ddE(l:List Int):List Int:=l.foldl (λacc x=>U0 x acc) []
def a3p(l:List Int)(x:Int):ddE (l++[x])=U0 x (ddE l):=by unfold ddE;rw[List.foldl_append];rfl
def a5r(l:List Int):y∈ddE l↔y∈l:=by
 induction l using snoc_ind with
 |h0=>exact⟨λh=>(nomatch h),λh=>(nomatch h)⟩
 |h1 l x ih=>rw[a3p,a3j,ih,az,ao]
def b3c(l:List Int):(ddE l).Nodup:=by
 induction l using snoc_ind with
 |h0=>exact bp
 |h1 l x ih=>rw[a3p];exact b4Z ih
def b5a(l:List Int):(ddE l).length<=l.length:=b2X (b3c l) λx hx=>(a5r l).mp hx
abbrev BG:=List (Int×Int)
def gp(m:l8)(a:Nat)(B:BG)(x:Int):BG:=(B.filter λp=>decide ((stp m p.1 a).1=x)).map λp=>((stp m p.1 a).2,p.2)
def anL(m:l8)(a:Nat)(B:BG):List Int:=ddE (B.map λp=>(stp m p.1 a).1)
def bgD(B:BG):D:=.dict (kvD aJ B)
def ptD(m:l8)(a:Nat)(B:BG):D:=.dict (A4 (λx=>bgD (gp m a B x)) (anL m a B))
section
variable {m:l8}{a:Nat}{B:BG}{x y:Int}
def Y6:(gp m a B x).map (·.1)=toA m a (B.map (·.1)) x:=by
 unfold gp toA;rw[bG,List.filter_map,bG];rfl
def b3d:y∈(gp m a B x).map (·.1)↔(x,y)∈B.map λp=>stp m p.1 a:=by
 rw[Y6,a2k,aR]
 constructor
 ·rintro⟨s,hs,e⟩;obtain⟨p,hp,rfl⟩:=aR.mp hs;exact⟨p,hp,e⟩
 ·rintro⟨p,hp,e⟩;exact⟨p.1,bt hp,e⟩
def a1b(p:Int×Int):gp m a (B++[p]) x=if (stp m p.1 a).1=x then gp m a B x++[((stp m p.1 a).2,p.2)] else gp m a B x:=by
 unfold gp;rw[fU,aM];by_cases c:(stp m p.1 a).1=x
 ·rw[aG c,fM (by exact aI c)];rfl
 ·rw[aL c,fN (by rw[aY c];exact aS)];simp
def a5s(h:x∉anL m a B):gp m a B x=[]:=by
 unfold gp;rw[tW.mpr λp hp c=>h ((a5r _).mpr (aR.mpr ⟨p,hp,aW c⟩))];rfl
def a3q(p:Int×Int):anL m a (B++[p])=U0 (stp m p.1 a).1 (anL m a B):=by unfold anL;rw[aM];exact a3p _ _
def a8R:(gp m a B x).length<=B.length:=by unfold gp;rw[ah];exact eW _ _
def X1:(anL m a B).length<=B.length:=by have:=b5a (B.map λp=>(stp m p.1 a).1);rw[ah]at this;exact this
def a1c:x∈anL m a B↔∃p∈B,(stp m p.1 a).1=x:=by unfold anL;rw[a5r,aR]
def b5b{U:List D}{p:Int×Int}(hd:U.getD i .none=ptD m a B)(hk:fk U=cz (.int (stp m p.1 a).1))(hj:∀x,fj (U.set i x)=cz (.int (stp m p.1 a).2))(hr:∀x,fr (U.set i x)=cz .none)(hv:∀x,fv (U.set i x)=cz (.int p.2))(hl:B.length<1000) :
  a2U i rp rp fk fj fr fv U=if stp m p.1 a∈B.map (λp=>stp m p.1 a) then cz (.rt .none) else cz (.nx (U.set i (ptD m a (B++[p])))):=by
 have hg:=a8R (m:=m) (a:=a) (B:=B) (x:=(stp m p.1 a).1);have ha:=X1 (m:=m) (a:=a) (B:=B);have e1:p5 (A4 (λx=>bgD (gp m a B x)) (anL m a B)) (.int (stp m p.1 a).1) (.dict [])=A4 (λx=>bgD (gp m a B x)) (U0 (stp m p.1 a).1 (anL m a B)):=
  b0v (h:=λ_=>bgD []) λq=>by show bgD (gp m a B _)=_;rw[a5s q]
 have ki:(stp m p.1 a).1∈U0 (stp m p.1 a).1 (anL m a B):=a3j.mpr (.inr rfl);unfold a2U;rw[hk,bF,hd];unfold ptD;show (if o9 rp (.int (stp m p.1 a).1)&&decide ((A4 (λx=>bgD (gp m a B x)) (anL m a B)).length<1000000) then _ else el)=_;rw[dKey_i,a6H,aI (by lia),jS,aG rfl,hj,bF,e1,a1x ki];show (if o9 rp (.int (stp m p.1 a).2)&&decide ((kvD aJ (gp m a B (stp m p.1 a).1)).length<1000000) then _ else el)=_;rw[dKey_i,a8O,aI (by lia),jS,aG rfl,a5o];have hm:((stp m p.1 a).2∈(gp m a B (stp m p.1 a).1).map (·.1))↔stp m p.1 a∈B.map (λp=>stp m p.1 a):=b3d;by_cases c:stp m p.1 a∈B.map (λp=>stp m p.1 a)
 ·rw[aI (hm.mpr c),aG rfl,aG c,hr];rfl
 ·have hn:=λz=>c (hm.mp z)
  rw[aY hn,aL aS,aL c,hv,bF,b2R (enc:=aJ) hn,List.set_set];have e2:p6 (A4 (λx=>bgD (gp m a B x)) (U0 (stp m p.1 a).1 (anL m a B))) (.int (stp m p.1 a).1) (bgD (gp m a (B++[p]) (stp m p.1 a).1))=A4 (λx=>bgD (gp m a (B++[p]) x)) (U0 (stp m p.1 a).1 (anL m a B)):=a6I (h:=λx=>bgD (gp m a (B++[p]) x)) ki λy hy=>by
   show bgD (gp m a (B++[p]) y)=bgD (gp m a B y);rw[a1b,aL λz=>hy z.symm]
  rw[a1b,aG rfl]at e2;rw[a3q,<-e2];rfl
end
def lev(m:l8)(k:Nat)(S:List Int):Nat:=((aQ 200).find? λe=>tb m k e S).getD 0
section
variable {m:l8}{k d e a:Nat}{S:List Int}
def a3r(h:tb m k d S=p4)(hd:d<200):tb m k (lev m k S) S=p4/\lev m k S<=d/\∀e<lev m k S,tb m k e S=rp:=by
 cases x:(aQ 200).find? λe=>tb m k e S with
 |none=>exact absurd h (fT.mp x d (cg.mpr hd))
 |some j=>
  have hl:lev m k S=j:=by unfold lev;rw[x];rfl
  rw[hl];rw[gU]at x;obtain⟨x1,x2,x3⟩:=x;have x4:∀e<j,tb m k e S=rp:=λe he=>by
   have:=x3 e he
   rwa[jI]at this
  refine⟨x1,?_,x4⟩;by_cases c:j<=d
  ·exact c
  ·rw[x4 d (by lia)]at h;cases h
def a5t(h:tb m k d S=p4)(hd:d<200):lev m k S<=d:=(a3r h hd).2.1
def a5u(h:tb m k d S=p4)(hd:d<200):tb m k e S=p4↔lev m k S<=e:=by
 obtain⟨h1,h2,h3⟩:=a3r h hd;refine⟨λz=>?_,λz=>a0X h1 z⟩;by_cases c:lev m k S<=e
 ·exact c
 ·rw[h3 e (by lia)]at z;cases z
def b3e(h:tb m k d S=p4)(hd:d<200):lev m k S=0↔S.length=1:=by
 have:=a5u (e:=0) h hd;rw[Nat.le_zero]at this;rw[<-this];exact decide_eq_true_iff
def a2m(h:tb m k d S=p4)(hd:d<200)(h1:S.length≠1):∃e a,lev m k S=e+1/\lta m k e S=cz a/\n5 m k S=.int (a:Nat):=by
 obtain⟨z1,z2,z3⟩:=a3r h hd;have h0:lev m k S≠0:=λz=>h1 ((b3e h hd).mp z)
 obtain⟨e,he⟩:∃e,lev m k S=e+1:=⟨lev m k S-1,by lia⟩;rw[he]at z1 z2 z3;have hf:=z3 e (by lia);rw[a0Y,hf,rS]at z1;obtain⟨a,ha⟩:=fC.mp z1;exact⟨e,a,he,ha,a5q h1 hf ha (by lia)⟩
def mxl(l:List Nat):Nat:=l.foldl max 0
def b7M:mxl l<=q↔∀x∈l,x<=q:=by
 have key:∀(l:List Nat) (b:Nat),l.foldl max b<=q↔b<=q/\∀x∈l,x<=q:=by
  intro l
  induction l with
  |nil=>intro b;simp
  |cons y l ih=>
   intro b;rw[oX,ih,List.forall_mem_cons]
   constructor
   ·rintro⟨z1,z2⟩;exact⟨by lia,by lia,z2⟩
   ·rintro⟨z1,z2,z3⟩;exact⟨by lia,z3⟩
 unfold mxl;rw[key];simp
def plv(m:l8)(k a:Nat)(S:List Int):Nat:=mxl ((anL m a (S.zip S)).map λx=>lev m k (prt m a S x))
def a8S:x∈anL m a (S.zip S)↔∃s∈S,(stp m s a).1=x:=by
 rw[a1c]
 constructor
 ·rintro⟨p,hp,z⟩;exact⟨p.1,by have:=fW (show (p.1,p.2)∈S.zip S from hp);exact this.1,z⟩
 ·rintro⟨s,hs,z⟩;refine⟨(s,s),?_,z⟩;obtain⟨j,hj⟩:=bJ.mp hs;refine bJ.mpr ⟨j,?_⟩;rw[gI];exact⟨hj,hj⟩
def a5v{D:Nat}(hD:D<200)(h:tst (tb m k D) m a S=p4):tst (tb m k e) m a S=p4↔plv m k a S<=e:=by
 unfold tst at h ⊢;rw[aw]at h ⊢;unfold plv;rw[b7M]
 constructor
 ·rintro⟨_,z⟩ q hq;obtain⟨x,hx,rfl⟩:=aR.mp hq;obtain⟨s,hs,rfl⟩:=a8S.mp hx;exact (a5u (bj.mp h.2 s hs) hD).mp (bj.mp z s hs)
 ·intro z;refine⟨h.1,bj.mpr λs hs=>?_⟩;exact (a5u (bj.mp h.2 s hs) hD).mpr (z _ (aR.mpr ⟨_,a8S.mpr ⟨s,hs,rfl⟩,rfl⟩))
def b7N{D:Nat}(hD:D<199)(ha:a<k)(h:tst (tb m k D) m a S=p4):tb m k (D+1) S=p4/\lev m k S<=plv m k a S+1:=by
 have up:∀e,tst (tb m k e) m a S=p4->tb m k (e+1) S=p4:=λe z=>by
  show (tb m k e S||(aQ k).any λa=>tst (tb m k e) m a S)=p4;exact xG.mpr (.inr (cX.mpr ⟨a,cg.mpr ha,z⟩))
 have h1:=up D h;refine⟨h1,?_⟩;exact (a5u h1 (by lia)).mp (up _ ((a5v (by lia) h).mpr (aB _)))
def b5c(h:tb m k d S=p4)(hd:d<199)(he:lev m k S=e+1)(ha:lta m k e S=cz a):a<k/\tst (tb m k e) m a S=p4/\plv m k a S=e/\∀b<a,tst (tb m k 150) m b S=p4->e<plv m k b S:=by
 obtain⟨a1,a2⟩:=a3o ha;have hle:=a5t h (by lia);refine⟨a1,a2,GO ((a5v (by lia) a2).mp a2) ?_,λb hb z=>?_⟩
 ·have:=(b7N (by lia) a1 a2).2;lia
 ·unfold lta at ha;rw[gU]at ha;have:=ha.2.2 b hb;rw[jI]at this;by_cases c:plv m k b S<=e
  ·have z2:=(a5v (e:=e) (by lia) z).mpr c;rw[this]at z2;cases z2
  ·lia
end
def b3f(m:l8)(k:Nat)(S:List Int):Nat:=match n5 m k S with
 |.int a=>a.toNat
 |_=>0
def a8T(h:n5 m k S=.int (a:Nat)):b3f m k S=a:=by
 unfold b3f;rw[h];rfl
def gT(m:l8)(k:Nat):Nat->BG->D
 |0,_=>.none
 |f+1,B=>if B.length=1 then .int (B.getD 0 (0,0)).2 else .tuple [.int (b3f m k (a0k (B.map (·.1))):Nat),.list ((srt (anL m (b3f m k (a0k (B.map (·.1)))) B)).map λx=>.tuple [.int x,gT m k f (gp m (b3f m k (a0k (B.map (·.1)))) B x)])]
structure KB (m:l8) (k:Nat) (B:BG) (S:List Int):Prop where
 set:SetK m S
 mem:∀s,s∈B.map (·.1)↔s∈S
 nd:(B.map (·.1)).Nodup
 told:tb m k 140 S=p4
section
variable {m:l8}{k:Nat}{B:BG}{S:List Int}
def KB.perm(h:KB m k B S):(B.map (·.1)).Perm S:=(jC h.nd (h.set.1.imp λz=>by lia)).mpr h.mem
def KB.len(h:KB m k B S):B.length=S.length:=by have:=h.perm.length_eq;rw[ah]at this;exact this
def KB.setEq(h:KB m k B S):a0k (B.map (·.1))=S:=a1v (R5 _) h.set.1 λx=>by rw[R4];exact h.mem x
def KB.part(w:WF m k)(h:KB m k B S)(ha:a<k)(ht:tst (tb m k e) m a S=p4)(he:e<=140)(hx:x∈anL m a B):KB m k (gp m a B x) (prt m a S x)/\lev m k (prt m a S x)<=e:=by
 obtain⟨p,hp,vp⟩:=a1c.mp hx;have vt:p.1∈S:=(h.mem p.1).mp (bt hp);unfold tst at ht;rw[aw]at ht;have lx:((B.map (·.1)).map λs=>stp m s a).Nodup:=aW (by rw[<-a1w (m:=m) (a:=a) h.perm]at ht;exact ht.1);have h1:tb m k e (prt m a S x)=p4:=by rw[<-vp];exact bj.mp ht.2 p.1 vt
 refine⟨⟨by rw[<-vp];exact SetK.prt w h.set ha vt,λs=>?_,by rw[Y6];exact a7Y lx,a0X h1 he⟩,a5t h1 (by lia)⟩;rw[Y6,a2k,a2l];exact⟨λ⟨q,hq,z⟩=>⟨q,(h.mem q).mp hq,z⟩,λ⟨q,hq,z⟩=>⟨q,(h.mem q).mpr hq,z⟩⟩
def KB.ind(w:WF m k){P:BG->List Int->Prop}(h1:∀(p:Int×Int) (S:List Int),KB m k [p] S->S.length=1->P [p] S)
  (h2:∀(B:BG) (S:List Int) (e a:Nat),KB m k B S->S.length≠1->lev m k S=e+1->lta m k e S=cz a->n5 m k S=.int (a:Nat)->a<k->e<140->(∀x∈anL m a B,KB m k (gp m a B x) (prt m a S x)/\lev m k (prt m a S x)<=e/\P (gp m a B x) (prt m a S x))->P B S) :
  ∀{B:BG} {S:List Int},KB m k B S->P B S:=by
 have key:∀(j:Nat) (B:BG) (S:List Int),lev m k S=j->KB m k B S->P B S:=by
  intro j
  induction j using GL with
  |_ j ih=>
   intro B S hj h;by_cases c:S.length=1
   ·obtain⟨p,rfl⟩:∃p,B=[p]:=by
     match B,h.len.trans c with
     |[p],_=>exact⟨p,rfl⟩
    exact h1 p S h c
   ·obtain⟨e,a,he,ha,iB⟩:=a2m h.told (by lia) c;have hle:=a5t h.told (by lia);obtain⟨a1,a2⟩:=a3o ha;refine h2 B S e a h c he ha iB a1 (by lia) λx hx=>?_
    obtain⟨p1,p2⟩:=h.part w a1 a2 (by lia) hx;exact⟨p1,p2,ih _ (by lia) _ _ rfl p1⟩
 exact λ{B S} h=>key _ B S rfl h
def a7Z:gT m k (f+1) [p]=.int p.2:=rfl
def a1d(h:KB m k B S)(hS:S.length≠1)(iB:n5 m k S=.int (a:Nat)):gT m k (f+1) B=.tuple [.int (a:Nat),.list ((srt (anL m a B)).map λx=>.tuple [.int x,gT m k f (gp m a B x)])]:=by
 show (if B.length=1 then _ else _)=_;rw[aL (by rw[h.len];exact hS),h.setEq,a8T iB]
def b5d(w:WF m k)(h:KB m k B S):∀f f',lev m k S<f->lev m k S<f'->gT m k f B=gT m k f' B:=by
 refine KB.ind w (P:=λB S=>∀f f',lev m k S<f->lev m k S<f'->gT m k f B=gT m k f' B) (λp S _ _ f f' hf mZ=>?_) (λB S e a h hS he _ iB _ _ hp f f' hf mZ=>?_) h
 ·obtain⟨f,rfl⟩:∃q,f=q+1:=⟨f-1,by lia⟩;obtain⟨f',rfl⟩:∃q,f'=q+1:=⟨f'-1,by lia⟩;rfl
 ·obtain⟨f,rfl⟩:∃q,f=q+1:=⟨f-1,by lia⟩;obtain⟨f',rfl⟩:∃q,f'=q+1:=⟨f'-1,by lia⟩;rw[a1d h hS iB,a1d h hS iB]
  congr 4;refine bU λx hx=>?_
  obtain⟨_,q2,q3⟩:=hp x ((o3 _).mem_iff.mp hx);rw[q3 f f' (by lia) (by lia)]
end
def I9(S:List Int):imm (j5 S)=p4:=by unfold j5;simp only[imm];exact B7 S
def a8a(w:WF m k):R0 [.list (m.map rwD)]=cz (.int k):=by
 unfold R0;rw[J0 (by simp[VS.argsOk])];unfold a4x;have hp:=w.pos;walk_at "ev";rw[b4K (by lia) (by lia)];walk_at "ev";rw[w.row (by lia) (by lia)]
def b9K(h:f U=cz (bgD B)):iIt f U=cz (B.map stD):=by
 unfold iIt;rw[h,bF];show (if keysOk rp (kvD aJ B) then cz ((kvD aJ B).map a2R) else el)=_;rw[aG (show keysOk rp (kvD aJ B)=p4 from a8P)];unfold kvD;rw[bG];rfl
def a3s{B:BG}{p:Int×Int}:K7 m a ((B++[p]).map (·.1))=(K7 m a (B.map (·.1))&&!decide (stp m p.1 a∈B.map λp=>stp m p.1 a)):=by
 unfold K7;rw[fX,aw,cY,cY,bG,bG,aM,bb,jI,decide_eq_false_iff_not]
 constructor
 ·rintro⟨h1,_,h3⟩;exact⟨h1,λz=>h3 _ z _ (ao.mpr rfl) rfl⟩
 ·rintro⟨h1,h2⟩;exact⟨h1,by simp,λx hx y hy e=>h2 (by have:=ao.mp hy;subst this;subst e;exact hx)⟩
def a6J{B C:BG}(h:K7 m a ((B++C).map (·.1))=p4):K7 m a (B.map (·.1))=p4:=by
 unfold K7 at h ⊢;rw[cY]at h ⊢;rw[aM,aM]at h;exact (bb.mp h).1
section
variable {m:l8}{k:Nat}(w:WF m k){a:Nat}(ha:a<k)
include w ha
theorem a1e(hB:∀p∈B,0<=p.1/\p.1<(m.length:Int))(hl:B.length<1000):z9 [.list (m.map rwD),bgD B,.int a]=cz (if K7 m a (B.map (·.1)) then ptD m a B else .none):=by
 unfold z9;rw[J0 (by simp[VS.argsOk,imm])];unfold a1R;walk_at "ev";rw[a3J (b9K (B:=B) (by walk_at "ev")) (p7 _ (λ_=>a7T) _)];walk_at "ev";rcases a4E (enc:=stD) (set:=L3 4 5) (xs:=B) (g:=(g9 (l0 6 (e2 B4 (e2 dIx (b7 0) (b7 4)) (b7 2))) (g9 (a2U 3 rp rp (e2 B4 (b7 6) (eC (.int 0))) (e2 B4 (b7 6) (eC (.int 1))) (eC .none) (b7 5)) m6))) (U:=[.list (m.map rwD),bgD B,.int a,.dict [],.none,.none,.none,.none])
   (λpre U=>K7 m a (pre.map (·.1))=p4/\∃x y z,U=[.list (m.map rwD),bgD B,.int a,ptD m a pre,x,y,z,.none]) (λr=>r=.none/\K7 m a (B.map (·.1))=rp) ⟨rfl,_,_,_,rfl⟩ (by
    rintro pre p post e U ⟨hf,x,y,z,rfl⟩;have hp:=hB p (by rw[e];simp);have hr:=w.row hp.1 hp.2;have fV:pre.length<1000:=by rw[e,aV]at hl;lia
    refine⟨[.list (m.map rwD),bgD B,.int a,ptD m a pre,.int p.1,.int p.2,z,.none],rfl,?_⟩;have hc:l0 6 (e2 B4 (e2 dIx (b7 0) (b7 4)) (b7 2)) [.list (m.map rwD),bgD B,.int a,ptD m a pre,.int p.1,.int p.2,z,.none]=cz (.nx [.list (m.map rwD),bgD B,.int a,ptD m a pre,.int p.1,.int p.2,stD (stp m p.1 a),.none]):=by
     walk_at "ev";rw[b4K hp.1 hp.2];walk_at "ev";rw[b9z (by lia) (by lia)];walk_at "ev";rfl
    have hs:=b5b (m:=m) (a:=a) (B:=pre) (p:=p) (i:=3) (fk:=e2 B4 (b7 6) (eC (.int 0))) (fj:=e2 B4 (b7 6) (eC (.int 1))) (fr:=eC .none) (fv:=b7 5) (U:=[.list (m.map rwD),bgD B,.int a,ptD m a pre,.int p.1,.int p.2,stD (stp m p.1 a),.none]) rfl rfl (λ_=>rfl) (λ_=>rfl) (λ_=>rfl) fV;rw[A6,hc,w6,A6,hs];by_cases c:stp m p.1 a∈pre.map λp=>stp m p.1 a
    ·rw[aG c];refine .inr ⟨_,rfl,rfl,?_⟩;cases x:K7 m a (B.map (·.1)) with
     |false=>rfl
     |true=>
      have e2:B=(pre++[p])++post:=by rw[e];simp
      rw[e2]at x;have:=a6J x;rw[a3s,aI c,hf]at this;cases this
    ·rw[aL c];refine .inl ⟨_,rfl,?_,_,_,_,rfl⟩;rw[a3s,aY c,hf];rfl) with⟨U',g1,hf,x,y,z,rfl⟩|⟨r,g1,rfl,hf⟩
 ·rw[g1];walk_at "ev";rw[aG hf]
 ·rw[g1];walk_at "ev";rw[aL (by rw[hf];exact aS)]
end
def bhD(m:l8)(a:Nat)(S:List Int):D:=if K7 m a S then .list ((anL m a (S.zip S)).map λx=>j5 (prt m a S x)) else .none
def L7(S:List Int):(S.zip S).map (·.1)=S:=by rw[FF (aB _)]
def a3t(h:f U=cz (if l then iD S else j5 S))(hn:S.Nodup)(hl:S.length<1000):K2 l f f U=cz (bgD (S.zip S)):=by
 have hq:b4C l (if l then iD S else j5 S)=cz S:=by cases l<;>exact a0f S
 unfold K2;rw[h,bF,bF,hq,bF,bF,aG]
 ·rfl
 ·unfold a8K;rw[aI rfl,aI hn,aI (by lia)];rfl
def b9L(h:f U=cz (.dict (A4 g ks))):iVa f U=cz (ks.map g):=by
 unfold iVa;rw[h,bF];show (if keysOk rp (A4 g ks) then cz ((A4 g ks).map (·.2)) else el)=_;rw[aG a1W];unfold A4;rw[bG];rfl
section
variable {m:l8}{k:Nat}(w:WF m k)
include w
theorem a3u(hS:SetK m S)(hl:S.length<=30):A9 [.list (m.map rwD),j5 S]=cz (.list ((aQ k).map λ(a:Nat)=>bhD m a S)):=by
 have yP:=w.k5;have mV:=w.pos;have i_:S.Nodup:=hS.1.imp λh=>by lia
 unfold A9;rw[J0 (by simp[VS.argsOk,I9])];unfold Z5;walk_at "ev";rw[show iR (eCl R0 (b8 (b7 0) c9)) [.list (m.map rwD),j5 S,.list [],.none,.none]=cz (E1 0 k) by
  rw[a5R (n:=k) (by walk_at "ev";exact a8a w) (by lia) (by lia),bE]]
 walk_at "ev";refine a2i (λU=>∃x y,U=[.list (m.map rwD),j5 S,.list ((aQ k).map λ(a:Nat)=>bhD m a S),x,y]) ?_ ?_
 ·obtain⟨U',g1,x,y,rfl⟩:=E4 (n:=k) (set:=D0 3) (g:=(g9 (l0 4 (eCl z9 (b8 (b7 0) (b8 (K2 rp (b7 1) (b7 1)) (b8 (b7 3) c9))))) (A5 2 (.l .f) o8 (eIf (tB (e2 (E9 rp) (b7 4) (eC .none))) (eC .none) (n6 (iVa (b7 4)) [] pt1 tT (U5 (u8 (b7 0)))))))) (U:=[.list (m.map rwD),j5 S,.list [],.none,.none])
   (λj U=>∃x y,U=[.list (m.map rwD),j5 S,.list ((aQ j).map λ(a:Nat)=>bhD m a S),x,y]) ⟨_,_,rfl⟩ (by
    rintro a ha U ⟨x,y,rfl⟩;have hp:=a1e w ha (B:=S.zip S) (λp hp=>hS.2.2 p.1 (by have:=bt (f:=Prod.fst) hp;rw[L7]at this;exact this)) (by rw[dh];lia);rw[L7]at hp;have hc:l0 4 (eCl z9 (b8 (b7 0) (b8 (K2 rp (b7 1) (b7 1)) (b8 (b7 3) c9)))) [.list (m.map rwD),j5 S,.list ((aQ a).map λ(a:Nat)=>bhD m a S),.int a,y]=cz (.nx [.list (m.map rwD),j5 S,.list ((aQ a).map λ(a:Nat)=>bhD m a S),.int a,if K7 m a S then ptD m a (S.zip S) else .none]):=by
     walk_at "ev";rw[a3t (l:=rp) (S:=S) (by rfl) i_ (by lia)];walk_at "ev";rw[hp];rfl
    refine⟨_,[.list (m.map rwD),j5 S,.list ((aQ (a+1)).map λ(a:Nat)=>bhD m a S),.int a,if K7 m a S then ptD m a (S.zip S) else .none],rfl,?_,_,_,rfl⟩;show (g9 (l0 4 (eCl z9 (b8 (b7 0) (b8 (K2 rp (b7 1) (b7 1)) (b8 (b7 3) c9))))) (A5 2 (.l .f) o8 (eIf (tB (e2 (E9 rp) (b7 4) (eC .none))) (eC .none) (n6 (iVa (b7 4)) [] pt1 tT (U5 (u8 (b7 0))))))) [.list (m.map rwD),j5 S,.list ((aQ a).map λ(a:Nat)=>bhD m a S),.int a,y]=_;rw[A6,hc,w6];have hv:eIf (tB (e2 (E9 rp) (b7 4) (eC .none))) (eC .none) (n6 (iVa (b7 4)) [] pt1 tT (U5 (u8 (b7 0)))) [.list (m.map rwD),j5 S,.list ((aQ a).map λ(a:Nat)=>bhD m a S),.int a,if K7 m a S then ptD m a (S.zip S) else .none]=cz (bhD m a S):=by
     cases hf:K7 m a S with
     |false=>
      unfold bhD;rw[hf];rfl
     |true=>
      have mZ:(S.map λs=>stp m s a).Nodup:=aW hf;rw[b8P];show b3Y (lT (cz (.bool rp))) _ _ _=_;have rC:=X1 (m:=m) (a:=a) (B:=S.zip S);rw[dh]at rC;show (n6 (iVa (b7 4)) [] pt1 tT (U5 (u8 (b7 0)))) [.list (m.map rwD),j5 S,.list ((aQ a).map λ(a:Nat)=>bhD m a S),.int a,ptD m a (S.zip S)]=_;rw[T9 (enc:=λx=>bgD (gp m a (S.zip S) x)) (xs:=anL m a (S.zip S)) (λx=>j5 (prt m a S x)) (by exact b9L rfl) (by lia) (λx _=>⟨_,rfl,?_⟩)]
      ·unfold bhD;rw[hf];rfl
      ·have hg:=a8R (m:=m) (a:=a) (B:=S.zip S) (x:=x);rw[dh]at hg;rw[a7S];rw[a1a (kvs:=kvD aJ (gp m a (S.zip S) x)) (es:=(gp m a (S.zip S) x).map (·.1)) rfl b2S (by rw[ah];lia),Y6,L7,a8Q (a7Y mZ)];exact a2X
    rw[b1z,hv];show a9w 2 (.list _) (cz (bhD m a S)) _=_;rw[N8 (by rw[ah,fw];lia),List.range_succ,aM];rfl)
  exact⟨_,g1,_,_,rfl⟩
 ·rintro U ⟨x,y,rfl⟩;walk_at "ev"
end
def optN:Option Nat->D
 |none=>.none
 |some a=>.int a
def tsl(m:l8)(l:List (List Int))(a:Nat)(S:List Int):Bool:=K7 m a S&&(anL m a (S.zip S)).all λx=>decide (prt m a S x∈l)
theorem a1X:∀(l:List D) (j:Nat),N7 l j=(aQ l.length).map λ(s:Nat)=>hJ [.int ((j+s:Nat):Int),l.getD s .none]
 |[],j=>rfl
 |d::l,j=>by
  show hJ [.int j,d]::N7 l (j+1)=_;rw[a1X l,bB,List.range_succ_eq_map,ay,bG]
  congr 1;refine bU λs _=>?_
  show hJ [.int ((j+1+s:Nat):Int),_]=hJ [.int ((j+(s+1):Nat):Int),_];rw[show j+1+s=j+(s+1) by lia];rfl
def a6K(f:Nat->D)(k:Nat):N7 ((aQ k).map f) 0=(aQ k).map λ(a:Nat)=>hJ [.int (a:Int),f a]:=by
 rw[a1X,ah,fw];refine bU λa ha=>?_
 rw[Nat.zero_add,aU,aX,jh (cg.mp ha)];rfl
def a1y{S:List Int}(hk:k<=5)(hl:S.length<=30):u4 [.list ((aQ k).map λ(a:Nat)=>bhD m a S),.dict (i6 g l)]=cz (optN ((aQ k).find? λa=>tsl m l a S)):=by
 unfold u4;rw[J0 (by simp[VS.argsOk])];unfold U6;walk_at "ev";rw[c1d (ds:=(aQ k).map λ(a:Nat)=>bhD m a S) (by walk_at "ev"),a6K];walk_at "ev";rcases a4E (enc:=λ(a:Nat)=>hJ [.int (a:Int),bhD m a S]) (set:=L3 2 3) (xs:=aQ k) (g:=(sIf (tAn (tB (e2 (E9 p4) (b7 3) (eC .none))) (tV (eCl a9o (b8 (n6 (iL (b7 3)) [1] pt1 tT (e2 (a5c rp p4) (b7 0) (b7 1))) c9)))) (l5 (eIm (b7 2))) m6)) (U:=[.list ((aQ k).map λ(a:Nat)=>bhD m a S),.dict (i6 g l),.none,.none])
   (λpre U=>(∀b∈pre,tsl m l b S=rp)/\∃x y,U=[.list ((aQ k).map λ(a:Nat)=>bhD m a S),.dict (i6 g l),x,y]) (λr=>r=optN ((aQ k).find? λa=>tsl m l a S)) ⟨λb hb=>(nomatch hb),_,_,rfl⟩ (by
    rintro pre a post e U ⟨hb,x,y,rfl⟩;obtain⟨r1,r2,r3⟩:=a1Q e;refine⟨[.list ((aQ k).map λ(a:Nat)=>bhD m a S),.dict (i6 g l),.int a,bhD m a S],rfl,?_⟩;have ht:(tAn (tB (e2 (E9 p4) (b7 3) (eC .none))) (tV (eCl a9o (b8 (n6 (iL (b7 3)) [1] pt1 tT (e2 (a5c rp p4) (b7 0) (b7 1))) c9)))) [.list ((aQ k).map λ(a:Nat)=>bhD m a S),.dict (i6 g l),.int a,bhD m a S]=cz (tsl m l a S):=by
     unfold tsl;cases hf:K7 m a S with
     |false=>
      have:bhD m a S=.none:=by unfold bhD;rw[hf];rfl
      rw[this];rfl
     |true=>
      have Es:bhD m a S=.list ((anL m a (S.zip S)).map λx=>j5 (prt m a S x)):=by unfold bhD;rw[hf];rfl
      have rC:=X1 (m:=m) (a:=a) (B:=S.zip S);rw[dh]at rC;rw[Es];walk_at "ev";rw[T9 (enc:=λx=>j5 (prt m a S x)) (xs:=anL m a (S.zip S)) (λx=>dE ((λx=>decide (prt m a S x∈l)) x)) (by walk_at "ev") (by lia) (λx _=>⟨_,rfl,?_⟩)]
      ·walk_at "ev";rw[v_all (λx=>decide (prt m a S x∈l))];rfl
      ·walk_at "ev";rw[b5N];simp
    rw[a5Q,ht];cases x:tsl m l a S with
    |false=>exact .inl ⟨_,rfl,λb jK=>(az.mp jK).elim (hb b) λq=>by rw[ao.mp q];exact x,_,_,rfl⟩
    |true=>
     refine .inr ⟨.int a,rfl,?_⟩;have:((aQ k).find? λa=>tsl m l a S)=cz a:=by
      rw[gU];refine⟨x,cg.mpr r2,λj hj=>?_⟩;rw[hb j (by rw[r3];exact cg.mpr hj)];rfl
     rw[this];rfl) with⟨U',g1,hb,x,y,rfl⟩|⟨r,g1,rfl⟩
 ·rw[g1];walk_at "ev";rw[fT.mpr λa ha=>by rw[hb a ha];exact aS];rfl
 ·rw[g1];walk_at "ev"
def b7O:dIn neg p4 (j5 a) (.dict (i6 g l))=cz (.bool (neg !=decide (a∈l))):=by
 show (if o9 p4 (j5 a) then cz (dE (neg !=y6 (i6 g l) (j5 a))) else el)=_;rw[R1,M6];rfl
def b7P(h:a U=cz (.dict (i6 g l))):tVD a U=cz !l.isEmpty:=by
 unfold tVD;rw[h];cases l<;>rfl
def b7Q{U:List D}(hi:U.getD i .none=.dict (i6 g l))(hj:U.getD j .none=.dict (i6 g l'))(gC:l≠[])(hd:∀p∈l',p∉l)(hl:l.length+l'.length<=1000000):a9N i j U=cz (.nx (U.set i (.dict (i6 g (l++l'))))):=by
 unfold a9N;rw[hi,hj];show (if !(i6 g l).isEmpty&&((i6 g l').all λp=>!y6 (i6 g l) p.1)&&decide ((i6 g l).length+(i6 g l').length<=1000000) then _ else el)=_;rw[aG]
 ·unfold i6;rw[aM]
 ·rw[a3k,a3k,aI hl,fY,aw]
  constructor
  ·cases l with
   |nil=>exact absurd rfl gC
   |cons _ _=>rfl
  ·rw[bj];intro p hp;unfold i6 at hp;obtain⟨q,hq,rfl⟩:=aR.mp hp;rw[M6,aY (hd q hq)];rfl
def a1f{l L:List (List Int)}{f:List Int->Option Nat}(hg:∀S∈L,gm [j5 S,.dict (i6 g l)]=cz (optN (f S)))(hv:∀S∈L,∀a,f S=cz a->g S=.int a)(hn:L.Nodup)(hl:L.length<=1000):p8 gm [.dict (i6 g l),.list (L.map j5)]=cz (.dict (i6 g (L.filter λS=>(f S).isSome))):=by
 unfold p8;rw[b5L (by simp[VS.argsOk])];show a2A (J6 gm [.dict (i6 g l),.list (L.map j5),.none,.none,.none,.none])=_;unfold J6;walk_at "ev";rw[a3J (ds:=L.map j5) (by walk_at "ev") (p7 _ I9 _)];walk_at "ev";refine a2i (λU=>∃x y,U=[.dict (i6 g l),.list (L.map j5),.none,.dict (i6 g (L.filter λS=>(f S).isSome)),x,y]) ?_ ?_
 ·obtain⟨U',g1,x,y,rfl⟩:=G7 (enc:=j5) (set:=D0 4) (xs:=L) (g:=(g9 (l0 5 (eCl gm (b8 (b7 4) (b8 (b7 0) c9)))) (sIf (tB (e2 (E9 p4) (b7 5) (eC .none))) (J1 3 p4 (b7 4) (b7 5)) m6))) (U:=[.dict (i6 g l),.list (L.map j5),.none,.dict [],.none,.none])
   (λpre U=>∃x y,U=[.dict (i6 g l),.list (L.map j5),.none,.dict (i6 g (pre.filter λS=>(f S).isSome)),x,y]) ⟨_,_,rfl⟩ (by
    rintro pre S post e U ⟨x,y,rfl⟩;have hS:S∈L:=by rw[e];simp
    have hp:=hg S hS;have kM:S∉pre:=by
     rw[e]at hn;have:=bb.mp hn;exact λz=>this.2.2 S z S aj rfl
    have hlen:(pre.filter λS=>(f S).isSome).length<1000000:=by
     have h1:=eW (λS=>(f S).isSome) pre;have h2:pre.length<=L.length:=by rw[e];simp
     lia
    have hc:l0 5 (eCl gm (b8 (b7 4) (b8 (b7 0) c9))) [.dict (i6 g l),.list (L.map j5),.none,.dict (i6 g (pre.filter λS=>(f S).isSome)),j5 S,y]=cz (.nx [.dict (i6 g l),.list (L.map j5),.none,.dict (i6 g (pre.filter λS=>(f S).isSome)),j5 S,optN (f S)]):=by
     walk_at "ev";rw[hp];walk_at "ev"
    refine⟨_,[.dict (i6 g l),.list (L.map j5),.none,.dict (i6 g ((pre++[S]).filter λS=>(f S).isSome)),j5 S,optN (f S)],rfl,?_,_,_,rfl⟩;show (g9 (l0 5 (eCl gm (b8 (b7 4) (b8 (b7 0) c9)))) (sIf (tB (e2 (E9 p4) (b7 5) (eC .none))) (J1 3 p4 (b7 4) (b7 5)) m6)) [.dict (i6 g l),.list (L.map j5),.none,.dict (i6 g (pre.filter λS=>(f S).isSome)),j5 S,y]=_;rw[A6,hc,w6,fU];cases x:f S with
    |none=>
     rw[fN (by rw[x];exact aS),GR,bz];rfl
    |some a=>
     rw[fM (by rw[x];rfl),GR];show J1 3 p4 (b7 4) (b7 5) [.dict (i6 g l),.list (L.map j5),.none,.dict (i6 g (pre.filter λS=>(f S).isSome)),j5 S,.int a]=_;rw[a5p (g:=g) (a:=S) (l:=pre.filter λS=>(f S).isSome) (by rw[hv S hS a x];rfl) rfl rfl hlen λz=>kM (bx.mp z).1];unfold a6F;rw[aL λz=>kM (bx.mp z).1];rfl)
  exact⟨_,g1,_,_,rfl⟩
 ·rintro U ⟨x,y,rfl⟩;walk_at "ev"
section
variable {m:l8}{k:Nat}{A:List (List Int)}(hA:A.Nodup)(v_:A.length<=150)(h1:kdS m k A 0≠[])(hok:G6 (i6 (n5 m k) (kdS m k A 0))=p4)
include hA v_ h1 hok
theorem a0l(DW:∀d,d<=150->∀S∈lfS m k A d,gm [j5 S,.dict (i6 (n5 m k) (kdS m k A d))]=cz (optN (lta m k d S))):∃d,r9 gm [.dict (i6 (n5 m k) (kdS m k A 0)),.list ((lfS m k A 0).map j5)]=cz (.dict (i6 (n5 m k) (kdS m k A d)))/\nwS m k A d=[]/\d<=(lfS m k A 0).length:=by
 have wZ:∀d,(lfS m k A d).length<=150:=λd=>bV (eW _ _) v_
 have AG:∀d,(kdS m k A d).length<=150:=λd=>bV (b2X (b2Z hA d) λx hx=>(D7.mp hx).1) v_
 have round:∀d,d<=150->p8 gm [.dict (i6 (n5 m k) (kdS m k A d)),.list ((lfS m k A d).map j5)]=cz (.dict (i6 (n5 m k) (nwS m k A d))):=λd hd=>a1f (f:=lta m k d) (DW d hd) (λS hS a ha=>by
  have mD:=U3.mp hS;exact a5q (λz=>by have:=a0X (show tb m k 0 S=p4 from aI z) (b_ d);rw[mD.2]at this;cases this) mD.2 ha (by lia)) (hA.filter _) (by have:=wZ d;lia)
 have hu:r9 gm [.dict (i6 (n5 m k) (kdS m k A 0)),.list ((lfS m k A 0).map j5)]=a2A (G9 gm [.dict (i6 (n5 m k) (kdS m k A 0)),.list ((lfS m k A 0).map j5),.none,.none,.none]):=by
  unfold r9;rw[b5L (by simp[VS.argsOk])];rfl
 rw[hu];unfold G9;walk_at "ev";rw[show a5g (b7 0) [.dict (i6 (n5 m k) (kdS m k A 0)),.list ((lfS m k A 0).map j5),.none,.none,.none]=cz (.dict (i6 (n5 m k) (kdS m k A 0))) by
  show (if G6 (i6 (n5 m k) (kdS m k A 0)) then cz (bc.dict (i6 (n5 m k) (kdS m k A 0))) else el)=_;rw[aG hok]]
 walk_at "ev";rw[b5M (ds:=[.dict (i6 (n5 m k) (kdS m k A 0)),.list ((lfS m k A 0).map j5)]) (by walk_at "ev"),round 0 (by lia)];walk_at "ev";obtain⟨U',g1,d,x,y,pL,hd,rfl⟩:=a5n (c:=(tVD (b7 4))) (g:=(g9 (a9N 3 4) (g9 (l0 1 (n6 (iI (iL (b7 1))) [4] pt1 (tB (e2 (dIn p4 p4) (b7 0) (b7 1))) (b7 0))) (l0 4 (a9S p8 gm (b8 (b7 3) (b8 (b7 1) c9)))))))
  (I:=λd U=>d+(lfS m k A d).length<=(lfS m k A 0).length/\U=[.dict (i6 (n5 m k) (kdS m k A 0)),.list ((lfS m k A d).map j5),.none,.dict (i6 (n5 m k) (kdS m k A d)),.dict (i6 (n5 m k) (nwS m k A d))])
  (Q:=λU=>∃d x y,nwS m k A d=[]/\d<=(lfS m k A 0).length/\U=[.dict (i6 (n5 m k) (kdS m k A 0)),x,.none,.dict (i6 (n5 m k) (kdS m k A d)),y]) 1000 (by
   rintro d U ⟨hd,rfl⟩;have h0:=wZ 0;refine⟨by lia,?_⟩;have ht:tVD (b7 4) [.dict (i6 (n5 m k) (kdS m k A 0)),.list ((lfS m k A d).map j5),.none,.dict (i6 (n5 m k) (kdS m k A d)),.dict (i6 (n5 m k) (nwS m k A d))]=cz !(nwS m k A d).isEmpty:=b7P rfl;by_cases hV:nwS m k A d=[]
   ·refine .inl ⟨by rw[ht,hV];rfl,d,_,_,hV,by lia,rfl⟩
   ·have vB:=b3a hV;refine .inr ⟨by rw[ht];cases e:nwS m k A d with|nil=>exact absurd e hV|cons _ _=>rfl,[.dict (i6 (n5 m k) (kdS m k A 0)),.list ((lfS m k A (d+1)).map j5),.none,.dict (i6 (n5 m k) (kdS m k A (d+1))),.dict (i6 (n5 m k) (nwS m k A (d+1)))],?_,by lia,rfl⟩;have hu:=b7Q (i:=3) (j:=4) (U:=[.dict (i6 (n5 m k) (kdS m k A 0)),.list ((lfS m k A d).map j5),.none,.dict (i6 (n5 m k) (kdS m k A d)),.dict (i6 (n5 m k) (nwS m k A d))]) (g:=n5 m k) (l:=kdS m k A d) (l':=nwS m k A d) rfl rfl (λz=>by
      obtain⟨S,hS⟩:=qS _ h1;have q:=D7.mp hS;have:S∈kdS m k A d:=D7.mpr ⟨q.1,a0X q.2 (b_ _)⟩;rw[z]at this;cases this) (λp hp hk=>by
      have h2:=(D7.mp hk).2;rw[(a0Z.mp hp).2.1]at h2;cases h2) (by have:=AG d;have:=wZ d;have:=eW (λS=>(lta m k d S).isSome) (lfS m k A d);unfold nwS;lia)
    have hc:n6 (iI (iL (b7 1))) [4] pt1 (tB (e2 (dIn p4 p4) (b7 0) (b7 1))) (b7 0) [.dict (i6 (n5 m k) (kdS m k A 0)),.list ((lfS m k A d).map j5),.none,.dict (i6 (n5 m k) (kdS m k A d++nwS m k A d)),.dict (i6 (n5 m k) (nwS m k A d))]=cz (.list ((lfS m k A (d+1)).map j5)):=by
     rw[b4T (enc:=j5) (xs:=lfS m k A d) (λS=>!decide (S∈nwS m k A d)) j5 ?_ (by have:=wZ d;lia),a6G]
     ·intro S hS;refine⟨_,rfl,?_,λ_=>rfl⟩;show tB (e2 (dIn p4 p4) (b7 0) (b7 1)) [j5 S,.dict (i6 (n5 m k) (nwS m k A d))]=_;walk_at "ev";rw[b7O];cases decide (S∈nwS m k A d)<;>rfl
     ·rw[a3J (ds:=(lfS m k A d).map j5) (by walk_at "ev") (p7 _ I9 _)]
    rw[A6,hu];walk_at "ev";rw[hc];walk_at "ev";rw[b5M (ds:=[.dict (i6 (n5 m k) (kdS m k A (d+1))),.list ((lfS m k A (d+1)).map j5)]) (by walk_at "ev";rfl),round (d+1) (by lia)];walk_at "ev";rfl) 1000000 0 [.dict (i6 (n5 m k) (kdS m k A 0)),.list ((lfS m k A 0).map j5),.none,.dict (i6 (n5 m k) (kdS m k A 0)),.dict (i6 (n5 m k) (nwS m k A 0))] ⟨by lia,rfl⟩ (by lia)
 rw[b9E,g1];walk_at "ev";exact⟨d,rfl,pL,hd⟩
end
end Prog
local macro_rules | `(tactic| walk_at "evn")=>`(tactic| first | (walk_at "ev";repeat (simp -implicitDefEqProofs (disch:=first | omega | assumption | decide) only [VS.a5j,VS.a5k];try walk_at "ev")) | (simp -implicitDefEqProofs (disch:=first | omega | assumption | decide) only [VS.a5j,VS.a5k];repeat (first | walk_at "ev" | simp -implicitDefEqProofs (disch:=first | omega | assumption | decide) only [VS.a5j,VS.a5k])))
namespace VS
open PySem L2
def B3:Nat->List (List Int)
 |0=>[[]]
 |j+1=>B3 j++(B3 j).map λS=>S++[(j:Int)]
def sts(n:Nat):List (List Int):=(B3 n).drop 1
theorem J7:∀{j:Nat} {S:List Int},S∈B3 j↔S.Pairwise (· < ·)/\∀s∈S,0<=s/\s<(j:Int)
 |0,S=>by
  show S∈[[]]↔_;rw[ao]
  constructor
  ·rintro rfl;exact⟨il,λs hs=>(nomatch hs)⟩
  ·rintro⟨_,h⟩;cases S with
   |nil=>rfl
   |cons s r=>have:=h s aj;lia
 |j+1,S=>by
  show S∈B3 j++(B3 j).map _↔_;rw[az,aR]
  constructor
  ·rintro (h|⟨T,h,rfl⟩)
   ·have:=J7.mp h;exact⟨this.1,λs hs=>by have:=this.2 s hs;lia⟩
   ·have:=J7.mp h;refine⟨iP.mpr ⟨this.1,by simp,λa ha b hb=>?_⟩,λs hs=>?_⟩
    ·have:=this.2 a ha;rw[ao]at hb;lia
    ·rcases az.mp hs with z|z
     ·have:=this.2 s z;lia
     ·rw[ao]at z;lia
  ·rintro⟨h1,h2⟩;by_cases c:(j:Int)∈S
   ·refine .inr ⟨S.filter λs=>decide (s<(j:Int)),J7.mpr ⟨h1.filter _,λs hs=>?_⟩,?_⟩
    ·have:=bx.mp hs;exact⟨(h2 s this.1).1,aW this.2⟩
    ·refine a1v (iP.mpr ⟨h1.filter _,by simp,λa ha b hb=>?_⟩) h1 λx=>?_
     ·rw[ao]at hb;rw[hb];exact aW (bx.mp ha).2
     ·rw[az,bx,ao,cY]
      constructor
      ·rintro (z|z)
       ·exact z.1
       ·rw[z];exact c
      ·intro z;have:=h2 x z;by_cases e:x=j
       ·exact .inr e
       ·exact .inl ⟨z,by lia⟩
   ·refine .inl (J7.mpr ⟨h1,λs hs=>⟨(h2 s hs).1,?_⟩⟩);have:=h2 s hs;have:s≠(j:Int):=λe=>c (e▸hs)
    lia
theorem a0m:∀n,B3 n=[]::sts n
 |0=>rfl
 |n+1=>by
  unfold sts;show B3 n++_=[]::List.drop 1 (B3 n++_);rw[a0m n];rfl
theorem a3v:∀n,n<8->(B3 n).Nodup
 |0,_=>by show [[]].Nodup;simp
 |j+1,h=>by
  show (B3 j++(B3 j).map _).Nodup;have ih:=a3v j (by lia);rw[bb];refine⟨ih,?_,λx hx y hy e=>?_⟩
  ·exact BJ _ (λa b pq e=>pq (List.append_cancel_right e)) ih
  ·obtain⟨T,_,rfl⟩:=aR.mp hy;have:=(J7.mp hx).2 (j:Int) (by rw[e];simp);lia
theorem a1z:∀n,(B3 n).length=2^n
 |0=>rfl
 |j+1=>by
  show (B3 j++(B3 j).map _).length=_;rw[aV,ah,a1z j,Nat.pow_succ];lia
def a6L(h:n<=7):(B3 n).length<=128:=by
 rw[a1z];exact Nat.pow_le_pow_right (by decide) h
def b5e:∀n,n<8->(sts n).length<=127:=λn h=>by
 have:=a6L (n:=n) (by lia);unfold sts;rw[kg];lia
def b9M:∀n,n<8->((sts n).filter λS=>!decide (S.length=1)).length<=120:=by decide +kernel
def b7R(h:n<=7):(sts n).Nodup:=by
 have:=a3v n (by lia);rw[a0m]at this;exact (br.mp this).2
def Y7{m:l8}(h:m.length<=7):S∈sts m.length↔SetK m S:=by
 have hn:=a3v m.length (by lia);have h1:=J7 (j:=m.length) (S:=S);rw[a0m]at hn h1;rw[aC]at h1
 constructor
 ·intro q;have:=h1.mp (.inr q);exact⟨this.1,λe=>(br.mp hn).1 (e▸q),this.2⟩
 ·rintro⟨q1,q2,q3⟩;exact (h1.mpr ⟨q1,q3⟩).resolve_left q2
end VS
namespace Prog
open PySem L2 VS
theorem a3w:∀{l:List α},(∀a∈l,p a=q a)->l.find? p=l.find? q
 |[],_=>rfl
 |x::l,h=>by
  rw[gX,gX,h x aj,a3w λa ha=>h a (ak _ ha)]
def SetK.len(h:SetK m b):b.length<=m.length:=a1T (h.1.imp λz=>by lia) h.2.2
def b5f{a b:List Int}(h:a.length+b.length<=1000000):a0K (.tuple (a.map .int)) (.tuple (b.map .int))=cz (.tuple ((a++b).map .int)):=by
 cases a with
 |nil=>exact a4c (by simp only[imm];exact B7 _)
 |cons x a=>
  show (if (!(((x::a).map aJ)).isEmpty&&decide (((x::a).map aJ).length+(b.map aJ).length<=1000000))=p4 then R9 (.tuple ((x::a).map .int++b.map .int)) else el)=_;rw[aG (by rw[ah,ah,aI h];rfl),<-aM];exact a4c (by simp only[imm];exact B7 _)
def b0w{S:List Int}(h:S.length<1000):a0K (j5 S) (.tuple [.int j])=cz (j5 (S++[j])):=b5f (a:=S) (b:=[j]) (by simp;lia)
def b5g:∀n,n<8->1<=n->G6 (i6 (λ_=>.none) ((sts n).filter λS=>decide (S.length=1)))=p4:=by decide +kernel
def b3g:∀n,n<8->1<=n->((sts n).filter λS=>decide (S.length=1))≠[]:=by decide +kernel
def b5h(h:n<8)(h1:1<=n):G6 (i6 (n5 m k) (kdS m k (sts n) 0))=p4:=by
 have:i6 (n5 m k) (kdS m k (sts n) 0)=i6 (λ_=>.none) ((sts n).filter λS=>decide (S.length=1)):=by
  unfold i6 kdS;refine bU λS hS=>?_
  rw[show n5 m k S=.none from aG (aW (bx.mp hS).2)]
 rw[this];exact b5g n h h1
def a8b(n:Nat)(h:n<=7):Y4 [.int n]=cz (.list ((sts n).map j5)):=by
 unfold Y4;rw[J0 (by simp[VS.argsOk,imm])];unfold a4v;walk_at "ev";rw[a5R (n:=n) (by walk_at "ev") (by lia) (by lia),bE];walk_at "ev";refine a2i (λU=>∃x,U=[.int n,.list ((B3 n).map j5),x]) ?_ ?_
 ·obtain⟨U',g1,x,rfl⟩:=E4 (n:=n) (set:=D0 2) (g:=(l0 1 (eI (a9r (b7 1) (n6 (iI (iL (b7 1))) [2] pt1 tT (e2 a0K (b7 0) (B1 (b8 (b7 1) c9)))))))) (U:=[.int n,.list [.tuple []],.none])
   (λj U=>∃x,U=[.int n,.list ((B3 j).map j5),x]) ⟨_,rfl⟩ (by
    rintro j hj U ⟨x,rfl⟩;have hl:=a6L (n:=j) (by lia);refine⟨_,[.int n,.list ((B3 (j+1)).map j5),.int j],rfl,?_,_,rfl⟩;show (l0 1 (eI (a9r (b7 1) (n6 (iI (iL (b7 1))) [2] pt1 tT (e2 a0K (b7 0) (B1 (b8 (b7 1) c9))))))) [.int n,.list ((B3 j).map j5),.int j]=_;have hc:(n6 (iI (iL (b7 1))) [2] pt1 tT (e2 a0K (b7 0) (B1 (b8 (b7 1) c9)))) [.int n,.list ((B3 j).map j5),.int j]=cz (.list (((B3 j).map λS=>S++[(j:Int)]).map j5)):=by
     rw[T9 (enc:=j5) (xs:=B3 j) (λS=>j5 (S++[(j:Int)])) (a3J (by walk_at "ev") (p7 _ I9 _)) (by lia) λS hS=>⟨_,rfl,?_⟩]
     ·rw[bG];rfl
     ·have hm:=J7.mp hS;have ll:=a1T (n:=j) (hm.1.imp λz=>by lia) hm.2;show e2 a0K (b7 0) (B1 (b8 (b7 1) c9)) [j5 S,.int j]=_;walk_at "ev";exact b0w (by lia)
    rw[a2B,b2J,b9u,hc];walk_at "ev";rw[b7D (by rw[ah,ah,ah];lia),<-aM,a6v (p7 _ I9 _)];rfl)
  exact⟨_,g1,_,rfl⟩
 ·rintro U ⟨x,rfl⟩;have hl:0<(B3 n).length:=by rw[a1z];exact Nat.pow_pos (by decide)
  walk_at "ev";rw[c0Q];walk_at "ev";rw[b9x,b9w];walk_at "ev";rw[c0R,b9v,b7E (by lia) (by rw[ah];lia),show (1:Int).toNat=1 from rfl,<-List.map_drop,a6v (p7 _ I9 _)];rfl
def bvD(m:l8)(k:Nat)(S:List Int):D:=.list ((aQ k).map λ(a:Nat)=>bhD m a S)
section
variable {m:l8}{k:Nat}(w:WF m k)(h5:m.length<=7)
include w h5
theorem b7S(ha:a<k)(hS:SetK m S):tsl m (kdS m k (sts m.length) d) a S=tst (tb m k d) m a S:=by
 unfold tsl tst
 congr 1;rw[fX,bj,bj];have key:∀s∈S,(decide (prt m a S (stp m s a).1∈kdS m k (sts m.length) d)=p4↔tb m k d (prt m a S (stp m s a).1)=p4):=λs hs=>by
  rw[cY,D7,Y7 h5];exact⟨λq=>q.2,λq=>⟨SetK.prt w hS ha hs,q⟩⟩
 constructor
 ·intro q s hs;refine (key s hs).mp (q _ (a1c.mpr ?_));have:s∈(S.zip S).map (·.1):=by rw[L7];exact hs
  obtain⟨p,hp,rfl⟩:=aR.mp this;exact⟨p,hp,rfl⟩
 ·intro q x hx;obtain⟨p,hp,rfl⟩:=a1c.mp hx;have hs:p.1∈S:=by have:=bt (f:=Prod.fst) hp;rw[L7]at this;exact this
  exact (key p.1 hs).mpr (q p.1 hs)
theorem SetK.le5(hS:SetK m S):S.length<=7:=bV (SetK.len hS) h5
theorem a3M:∃d,H9 [.list (m.map rwD)]=cz (.dict (i6 (n5 m k) (kdS m k (sts m.length) d)))/\nwS m k (sts m.length) d=[]/\d<=120:=by
 have mV:=w.pos;have yP:=w.k5;have v_:=b5e m.length (by lia);have hA:=b7R h5;obtain⟨d,r1,r2,r3⟩:=a0l (m:=m) (k:=k) hA (by lia) (b3g m.length (by lia) mV) (b5h (by lia) mV) (gm:=fnE [.i,.f] ([2].map λj=>([.list (m.map rwD),.dict (i6 (n5 m k) (kdS m k (sts m.length) 0)),.dict (i6 (bvD m k) (lfS m k (sts m.length) 0)),.none]:List D).getD j .none) (eCl u4 (b8 (e2 (O3 p4) (b7 2) (b7 0)) (b8 (b7 1) c9)))) (λd hd S hS=>by
  have mD:=U3.mp hS;have hK:=(Y7 h5).mp mD.1;rw[b9I (by simp[VS.argsOk,I9])];show eCl u4 (b8 (e2 (O3 p4) (b7 2) (b7 0)) (b8 (b7 1) c9)) [j5 S,.dict (i6 (n5 m k) (kdS m k (sts m.length) d)),.dict (i6 (bvD m k) (lfS m k (sts m.length) 0))]=_;walk_at "ev";rw[b5O (U3.mpr ⟨mD.1,by cases x:tb m k 0 S with|false=>rfl|true=>have:=a0X x (b_ d);rw[mD.2]at this;cases this⟩)];walk_at "ev";have ll:=SetK.le5 w h5 hK;rw[show bvD m k S=.list ((aQ k).map λ(a:Nat)=>bhD m a S) from rfl,a1y yP (by lia)];unfold lta;rw[a3w λa ha=>b7S w h5 (cg.mp ha) hK])
 refine⟨d,?_,r2,bV r3 (b9M m.length (by lia))⟩;unfold H9;rw[J0 (by simp[VS.argsOk])];unfold a0R;walk_at "ev";rw[a3J (ds:=(sts m.length).map j5) (by walk_at "ev";rw[a8b _ h5];walk_at "ev") (p7 _ I9 _)];walk_at "ev";refine a2i (λU=>∃x,U=[.list (m.map rwD),.dict (i6 (n5 m k) (kdS m k (sts m.length) 0)),.dict (i6 (bvD m k) (lfS m k (sts m.length) 0)),x]) ?_ ?_
 ·obtain⟨U',g1,x,rfl⟩:=G7 (enc:=j5) (set:=D0 3) (xs:=sts m.length) (g:=(sIf (tB (e2 dEq (eCl v8 (b8 (b7 3) c9)) (eC (.int 1)))) (J1 1 p4 (b7 3) (eC .none)) (J1 2 p4 (b7 3) (eCl A9 (b8 (b7 0) (b8 (b7 3) c9)))))) (U:=[.list (m.map rwD),.dict [],.dict [],.none])
   (λpre U=>∃x,U=[.list (m.map rwD),.dict (i6 (n5 m k) (kdS m k pre 0)),.dict (i6 (bvD m k) (lfS m k pre 0)),x]) ⟨_,rfl⟩ (by
    rintro pre S post e U ⟨x,rfl⟩;have EC:S∈sts m.length:=by rw[e];simp
    have hK:=(Y7 h5).mp EC;have ll:=SetK.le5 w h5 hK;have kM:S∉pre:=by
     rw[e]at hA;have:=bb.mp hA;exact λz=>this.2.2 S z S aj rfl
    have fV:pre.length<=127:=by rw[e,aV]at v_;lia
    have l1:(kdS m k pre 0).length<=pre.length:=eW _ _;have l2:(lfS m k pre 0).length<=pre.length:=eW _ _;refine⟨_,[.list (m.map rwD),.dict (i6 (n5 m k) (kdS m k (pre++[S]) 0)),.dict (i6 (bvD m k) (lfS m k (pre++[S]) 0)),j5 S],rfl,?_,_,rfl⟩;show (sIf (tB (e2 dEq (eCl v8 (b8 (b7 3) c9)) (eC (.int 1)))) (J1 1 p4 (b7 3) (eC .none)) (J1 2 p4 (b7 3) (eCl A9 (b8 (b7 0) (b8 (b7 3) c9))))) [.list (m.map rwD),.dict (i6 (n5 m k) (kdS m k pre 0)),.dict (i6 (bvD m k) (lfS m k pre 0)),j5 S]=_;have hlen:v8 [j5 S]=cz (.int S.length):=by show cz (aJ ((S.map aJ).length:Nat))=_;rw[ah]
    walk_at "ev";rw[hlen];walk_at "ev";by_cases c:S.length=1
    ·rw[aI (show (S.length:Int)=1 by lia)];walk_at "ev";rw[a5p (g:=n5 m k) (a:=S) (l:=kdS m k pre 0) (by rw[show n5 m k S=.none from aG c];rfl) rfl rfl (by lia) λz=>kM (D7.mp z).1];have e1:kdS m k (pre++[S]) 0=a6F S (kdS m k pre 0):=by
      unfold a6F;rw[aL λz=>kM (D7.mp z).1];unfold kdS;rw[fU,fM (by exact aI c)];rfl
     have e2:lfS m k (pre++[S]) 0=lfS m k pre 0:=by
      unfold lfS;rw[fU,fN (by show ¬ (!decide (S.length=1))=p4;rw[aI c];decide)];simp
     rw[e1,e2];rfl
    ·rw[aY (show ¬ (S.length:Int)=1 by lia)];walk_at "ev";rw[a5p (g:=bvD m k) (a:=S) (l:=lfS m k pre 0) (by walk_at "ev";rw[a3u w hK (by lia)];rfl) rfl rfl (by lia) λz=>kM (U3.mp z).1];have e1:kdS m k (pre++[S]) 0=kdS m k pre 0:=by
      unfold kdS;rw[fU,fN (by rw[aY c];decide)];simp
     have e2:lfS m k (pre++[S]) 0=a6F S (lfS m k pre 0):=by
      unfold a6F;rw[aL λz=>kM (U3.mp z).1];unfold lfS;rw[fU,fM (by show (!decide (S.length=1))=p4;rw[aY c];rfl)];rfl
     rw[e1,e2];rfl)
  exact⟨_,g1,_,rfl⟩
 ·rintro U ⟨x,rfl⟩;walk_at "ev";have DK:a7I (b7 2) [.list (m.map rwD),.dict (i6 (n5 m k) (kdS m k (sts m.length) 0)),.dict (i6 (bvD m k) (lfS m k (sts m.length) 0)),x]=cz (.list ((lfS m k (sts m.length) 0).map j5)):=by
   show (if g8 ((i6 (bvD m k) (lfS m k (sts m.length) 0)).map (·.1)) then cz (dM ((i6 (bvD m k) (lfS m k (sts m.length) 0)).map (·.1))) else el)=_;rw[b0t,aG (p7 _ I9 _)]
  rw[b9H (ds:=[.dict (i6 (n5 m k) (kdS m k (sts m.length) 0)),.list ((lfS m k (sts m.length) 0).map j5)]) (by walk_at "ev";rw[DK];walk_at "ev")];rw[show r9 (fnE [.i,.f] (List.map (λj=>([.list (m.map rwD),.dict (i6 (n5 m k) (kdS m k (sts m.length) 0)),.dict (i6 (bvD m k) (lfS m k (sts m.length) 0)),x]:List D).getD j .none) [2]) (eCl u4 (b8 (e2 (O3 p4) (b7 2) (b7 0)) (b8 (b7 1) c9)))) [.dict (i6 (n5 m k) (kdS m k (sts m.length) 0)),.list ((lfS m k (sts m.length) 0).map j5)]=_ from r1];walk_at "ev"
end
def a1Y{m:l8}(h7:m.length<=7):x9 [.list (m.map rwD)]=cz .none:=by
 unfold x9;rw[b5J (by simp[VS.argsOk])];unfold P0;walk_at "evn";rw[aY (show ¬ (7:Int)<m.length by lia)];walk_at "evn"
end Prog
namespace VS
open PySem L2
def b0x{ns:List Int}(h:a U=cz (.list (ns.map .int)))(hl:ns.length<64):a0J a U=cz (.list ((a0k ns).map .int)):=by
 unfold a0J;rw[h];show (intsOf (ns.map .int)).bind _=_;rw[a0f];show (if ns.length<64 then _ else el)=_;rw[aG hl];rfl
def In(m:l8)(b:List Int):Prop:=Inc b/\∀s∈b,0<=s/\s<(m.length:Int)
def two{b:List Int}(h:1<b.length):∃s t r,b=s::t::r:=by
 match b,h with
 |s::t::r,_=>exact⟨s,t,r,rfl⟩
def a8U{b:List Int}(h:j<b.length):L2.atI (b.map aJ) (j:Int)=cz (.int (b.getD j 0)):=by
 have:=N9 (ns:=b) (j:=(j:Int)) (by lia) (by lia)
 rwa[bE]at this
def b5i(h:a U=cz (.int n))(hn:n<=1000):P8 a U=cz (.list (((aQ n).map λ(s:Nat)=>(s:Int)).map .int)):=by
 unfold P8;rw[h,bF];show (cz (n:Int)).bind _=_;rw[bF,aG ⟨by lia,by lia⟩,bE,Y3];rw[bG];rfl
end VS
namespace Prog
open PySem L2 VS
abbrev LGA(m:l8)(k d:Nat)(B:BG)(t:List D):List D:=.list (m.map rwD)::.dict (i6 (n5 m k) (kdS m k (sts m.length) d))::bgD B::t
section
variable {m:l8}{k:Nat}(w:WF m k)(h5:m.length<=7){d:Nat}(hd:d<=120)
include w h5 hd
theorem b3h:∀(j:Nat),j<=d->∀(B:BG) (S:List Int),SetK m S->(∀s,s∈B.map (·.1)↔s∈S)->(B.map (·.1)).Nodup->tb m k j S=p4->∀f,j<f->L5 f (LGA m k d B [])=cz (gT m k f B):=by
 intro j
 induction j using GL with
 |_ j ih=>
  intro hj B S hS hB hn ht f hf;obtain⟨f,rfl⟩:∃q,f=q+1:=⟨f-1,by lia⟩;have ll:=SetK.le5 w h5 hS;have sf:(B.map (·.1)).Perm S:=(jC hn (hS.1.imp λh=>by lia)).mpr hB;have xw:B.length=S.length:=by have:=sf.length_eq;rw[ah]at this;exact this
  have hu:L5 (f+1) (LGA m k d B [])=a2A (a5m (L5 f) (LGA m k d B [.none,.none,.none,.none])):=by
   show fnD _ _ _ _=_;rw[J0 (by simp[VS.argsOk])];rfl
  rw[hu];unfold a5m;have hlen:b1C [bgD B]=cz (.int B.length):=by show cz (aJ ((kvD aJ B).length:Nat))=_;rw[a8O]
  walk_at "ev";rw[hlen];walk_at "ev";by_cases c:S.length=1
  ·rw[aI (show (B.length:Int)=1 by lia)];obtain⟨p,rfl⟩:∃p,B=[p]:=by
    match B,xw.trans c with
    |[p],_=>exact⟨p,rfl⟩
   walk_at "ev";rw[b9h (d:=.int p.2) (by walk_at "ev";rw[b4S (W:=[p]) rfl];rfl) rfl];rfl
  ·rw[aY (show ¬ (B.length:Int)=1 by lia)];walk_at "ev";obtain⟨e,a,he,ha,iB,ri⟩:=b2Y j (by lia) ht c;have jn:U5 (u8 (b7 2)) (LGA m k d B [.none,.none,.none,.none])=cz (j5 S):=by
    rw[a7S,a1a (kvs:=kvD aJ B) (es:=B.map (·.1)) rfl b2S (by rw[ah];lia),a8Q hn,show a0k (B.map (·.1))=S from a1v (R5 _) hS.1 λx=>by rw[R4];exact hB x];exact a2X
   have ki:S∈kdS m k (sts m.length) d:=D7.mpr ⟨(Y7 h5).mpr hS,a0X ht hj⟩;rw[jn];walk_at "ev";rw[b5O ki,iB];walk_at "ev";unfold tst at ri;rw[aw]at ri;have lx:K7 m a (B.map (·.1))=p4:=by rw[a1w sf];exact ri.1
   rw[a1e w ha (λp hp=>hS.2.2 p.1 ((hB p.1).mp (bt hp))) (by lia),aG lx];walk_at "ev";have rC:=X1 (m:=m) (a:=a) (B:=B);have sR:u8 (b7 4) (LGA m k d B [.int a,ptD m a B,.list [],.none])=cz (iD (srt (anL m a B))):=a1a (kvs:=A4 (λx=>bgD (gp m a B x)) (anL m a B)) rfl a4H (by lia);rw[a3J (ds:=(srt (anL m a B)).map .int) (by rw[b7z,sR];rfl) (B7 _)];walk_at "ev";have tz:((B.map (·.1)).map λs=>stp m s a).Nodup:=aW lx;obtain⟨U',g1,x,rfl⟩:=G7 (enc:=aJ) (set:=D0 6) (xs:=srt (anL m a B)) (g:=(A5 5 (.l .f) o8 (B1 (b8 (b7 6) (b8 (eCl (L5 f) (b8 (b7 0) (b8 (b7 1) (b8 (e2 (O3 rp) (b7 4) (b7 6)) c9)))) c9))))) (U:=(LGA m k d B [.int a,ptD m a B,.list [],.none]))
    (λpre U=>∃x:D,U=(LGA m k d B [.int a,ptD m a B,.list (pre.map λx=>.tuple [.int x,gT m k f (gp m a B x)]),x])) ⟨_,rfl⟩ (by
     rintro pre x post e9 U ⟨y,rfl⟩;have hx:x∈anL m a B:=(o3 _).mem_iff.mp (by rw[e9];simp);obtain⟨p,hp,vp⟩:=a1c.mp hx;have vt:p.1∈S:=(hB p.1).mp (bt hp);have fV:pre.length<=31:=by
      have h1:=eE gz e9;rw[(o3 _).length_eq,aV]at h1;lia
     have qE:=ih e he (by lia) (gp m a B x) (prt m a S x) (by rw[<-vp];exact SetK.prt w hS ha vt) (λs=>by
      rw[Y6,a2k,a2l];exact⟨λ⟨q,hq,z⟩=>⟨q,(hB q).mp hq,z⟩,λ⟨q,hq,z⟩=>⟨q,(hB q).mpr hq,z⟩⟩) (by rw[Y6];exact a7Y tz) (by rw[<-vp];exact bj.mp ri.2 p.1 vt) f (by lia)
     rw[aM];generalize yZ:(pre.map λx=>(.tuple [.int x,gT m k f (gp m a B x)]:D))=ds;have xf:ds.length=pre.length:=by rw[<-yZ,ah]
     refine⟨_,(LGA m k d B [.int a,ptD m a B,.list (ds++[.tuple [.int x,gT m k f (gp m a B x)]]),.int x]),rfl,?_,_,rfl⟩;have hv:B1 (b8 (b7 6) (b8 (eCl (L5 f) (b8 (b7 0) (b8 (b7 1) (b8 (e2 (O3 rp) (b7 4) (b7 6)) c9)))) c9)) (LGA m k d B [.int a,ptD m a B,.list ds,.int x])=cz (.tuple [.int x,gT m k f (gp m a B x)]):=by
      walk_at "ev";rw[show O3 rp (ptD m a B) (.int x)=cz (bgD (gp m a B x)) from b3b hx];walk_at "ev";rw[qE];walk_at "ev"
     show A5 5 (.l .f) o8 _ (LGA m k d B [.int a,ptD m a B,.list ds,.int x])=_;rw[b1z,hv];show a9w 5 (.list ds) (cz (.tuple [.int x,gT m k f (gp m a B x)])) _=_;rw[N8 (by lia)];rfl)
   rw[g1];walk_at "ev";rw[b2B (d:=.int a) rfl (by simp only[imm])];walk_at "ev";have oJ:a0k (B.map (·.1))=S:=a1v (R5 _) hS.1 λx=>by rw[R4];exact hB x
   show _=cz (if B.length=1 then _ else _);rw[aL (by lia),oJ,a8T iB]
theorem a6M(rq:H9 [.list (m.map rwD)]=cz (.dict (i6 (n5 m k) (kdS m k (sts m.length) d))))(hS:SetK m S):o5 [.list (m.map rwD),iD S]=cz (if S∈kdS m k (sts m.length) d then gT m k 121 (S.zip S) else .none):=by
 have ll:=SetK.le5 w h5 hS;have i_:S.Nodup:=hS.1.imp λh=>by lia
 unfold o5;rw[J0 (by simp[VS.argsOk])];unfold Z7;walk_at "ev";rw[rq];walk_at "ev";rw[show U5 (b7 1) [.list (m.map rwD),iD S,.dict (i6 (n5 m k) (kdS m k (sts m.length) d))]=cz (j5 S) by rw[a7S];exact a2X];walk_at "ev";rw[b5N];by_cases c:S∈kdS m k (sts m.length) d
 ·rw[aI c,aG c];walk_at "ev";rw[a3t (l:=p4) (S:=S) rfl i_ (by lia)];walk_at "ev";rw[b3h w h5 hd d (aB _) (S.zip S) S hS (λs=>by rw[L7]) (by rw[L7];exact i_) (D7.mp c).2 121 (by lia)];rfl
 ·rw[aY c,aL c];walk_at "ev";rfl
end
def b5j(h0:0<=s)(h1:s<(n:Int)):T7 [.int s,.int n]=cz (.bool p4):=by
 unfold T7;rw[J0 (by simp[VS.argsOk,imm])];unfold a3e;walk_at "ev";rw[show T6 [.int s]=cz (.bool p4) by
  unfold T6;rw[J0 (by simp[VS.argsOk])];unfold a3c;walk_at "ev"]
 walk_at "ev";rw[aI h0];walk_at "ev";rw[aI h1]
def b0y{m:l8}(h7:m.length<=7)(hb:SetK m b):a0V [.list (b.map .int),.int m.length]=cz (.bool p4):=by
 have Gq:=SetK.len hb;have mV:0<b.length:=jg.mpr hb.2.1;unfold a0V;rw[J0 (by simp[VS.argsOk,imm])];unfold a6B;walk_at "ev";rw[show D6 [.list (b.map .int),.int m.length]=cz (.bool p4) by
  unfold D6;rw[J0 (by simp[VS.argsOk,imm])];unfold U8;walk_at "ev";rw[aI (show (1:Int)<=b.length by lia)];walk_at "ev";rw[aI (show (b.length:Int)<=m.length by lia)]]
 walk_at "ev";rw[T9 (enc:=aJ) (xs:=b) (λs=>dE ((λ_=>p4) s)) (a3J (by walk_at "ev") (p7 _ (λ_=>a0D) _)) (by lia) (λs hs=>⟨_,rfl,?_⟩)]
 ·walk_at "ev";rw[v_all (λ_=>p4) b,bj.mpr (λ_ _=>rfl)];walk_at "ev";rw[b0x (ns:=b) (by walk_at "ev") (by lia),b0u hb.1];walk_at "ev";rw[show dEq (.list (b.map .int)) (.list (b.map .int))=_ from b5I (xs:=b) (ys:=b),aI rfl];walk_at "ev"
 ·have:=hb.2.2 s hs;walk_at "ev";exact b5j this.1 this.2
def a8c{m:l8}(h7:m.length<=7)(hS:SetK m S):v5 [.list (m.map rwD),iD S]=o5 [.list (m.map rwD),iD S]:=by
 unfold v5;rw[J0 (by simp[VS.argsOk])];unfold a4z;walk_at "ev";rw[a1Y h7];walk_at "ev";rw[show T8 [.list (m.map rwD),.list (S.map .int)]=cz .none by
  unfold T8;rw[b5J (by simp[VS.argsOk])];unfold a3g;walk_at "evn";rw[b0y h7 hS];walk_at "evn"]
 walk_at "ev";cases o5 [.list (m.map rwD),.list (S.map .int)]<;>rfl
def prS(p:Int×Int):D:=.tuple [.int p.2,.int p.1]
def a8V(p:Int×Int):imm (prS p)=p4:=by unfold prS;simp only[imm,g8,ef]
abbrev LC(m:l8)(a:Nat)(B pre:BG)(t:List D):List D:=.list (m.map rwD)::.list (B.map prS)::.int (a:Nat)::.dict (A4 (λx=>.list ((gp m a pre x).map prS)) (anL m a pre))::t
abbrev LI(m:l8)(a:Nat)(B pre:BG)(p:Int×Int)(t:List D):List D:=.list (m.map rwD)::.list (B.map prS)::.int (a:Nat)::.dict (A4 (λx=>.list ((gp m a pre x).map prS)) (U0 (stp m p.1 a).1 (anL m a pre)))::t
def b5k(hk:fk U=cz k)(he:fe U=cz d)(hd:U.getD i .none=.dict kvs)(hK:o9 kt k=p4)(hg:D4 kvs k=cz (.list es))(hl:es.length<1000000) :
  a4k i kt fk fe U=cz (.nx (U.set i (.dict (p6 kvs k (.list (es++[d])))))):=by
 unfold a4k;rw[hk,bF,he,bF,hd];show (if o9 kt k=p4 then _ else _)=_;rw[aG hK,hg];show (if es.length<1000000 then _ else _)=_;rw[aG hl]
def lpD(m:l8)(a:Nat)(B:BG):D:=.dict (A4 (λx=>.list ((gp m a B x).map prS)) (anL m a B))
abbrev b7T:EvS:=(g9 (a4a 6 7 (e2 B4 (e2 dIx (b7 0) (b7 5)) (b7 2))) (g9 (sIf (tB (e2 (dIn p4 rp) (b7 6) (b7 3))) (J1 3 rp (b7 6) (J4 c9)) m6) (g9 (D3 (iL (e2 (a7n rp) (b7 3) (b7 6))) (L3 8 9) (sIf (tB (e2 dEq (b7 9) (b7 7))) (l5 (eC .none)) m6)) (a4k 3 rp (b7 6) (B1 (b8 (b7 4) (b8 (b7 7) c9)))))))
section
variable {m:l8}{k:Nat}(w:WF m k){a:Nat}(ha:a<k){B:BG}(hB:∀p∈B,0<=p.1/\p.1<(m.length:Int))(ll:B.length<=30)
include w ha hB ll
theorem b7U(lx:K7 m a (B.map (·.1))=p4):m_law_led [.list (m.map rwD),.list (B.map prS),.int (a:Nat)]=cz (lpD m a B):=by
 unfold m_law_led;rw[J0 (by simp[VS.argsOk,imm])];unfold b_law_led;walk_at "ev";rw[a3J (ds:=B.map prS) (by rfl) (p7 _ a8V _)];walk_at "ev";obtain⟨U',g1,x,y,z,u,v,t,rfl⟩:=G7 (enc:=prS) (set:=L3 4 5) (xs:=B) (g:=b7T) (U:=[.list (m.map rwD),.list (B.map prS),.int (a:Nat),.dict [],.none,.none,.none,.none,.none,.none])
   (λpre U=>∃x y z u v t,U=(LC m a B pre [x,y,z,u,v,t])) ⟨_,_,_,_,_,_,rfl⟩ (by
    rintro pre p post e U ⟨x,y,z,u,v,t,rfl⟩;have hs:=hB p (by rw[e];simp);have hr:=w.row hs.1 hs.2;have fV:pre.length<=30:=by rw[e,aV]at ll;lia
    have xc:=a8R (m:=m) (a:=a) (B:=pre) (x:=(stp m p.1 a).1);have xf:=X1 (m:=m) (a:=a) (B:=pre);have oO:stp m p.1 a∉pre.map λp=>stp m p.1 a:=λq=>by
     rw[e,show pre++p::post=(pre++[p])++post by simp]at lx;have h2:=a6J lx;rw[a3s,aI q]at h2;simp at h2
    have hc:a4a 6 7 (e2 B4 (e2 dIx (b7 0) (b7 5)) (b7 2)) (LC m a B pre [.int p.2,.int p.1,z,u,v,t])=cz (.nx (LC m a B pre [.int p.2,.int p.1,.int (stp m p.1 a).1,.int (stp m p.1 a).2,v,t])):=by
     walk_at "ev";rw[b4K hs.1 hs.2];walk_at "ev";rw[b9z (by lia) (by lia)];walk_at "ev";rfl
    have hi:(sIf (tB (e2 (dIn p4 rp) (b7 6) (b7 3))) (J1 3 rp (b7 6) (J4 c9)) m6) (LC m a B pre [.int p.2,.int p.1,.int (stp m p.1 a).1,.int (stp m p.1 a).2,v,t])=cz (.nx (LI m a B pre p [.int p.2,.int p.1,.int (stp m p.1 a).1,.int (stp m p.1 a).2,v,t])):=by
     rw[a5Q];have ki:dIn p4 rp (.int (stp m p.1 a).1) (.dict (A4 (λx=>.list ((gp m a pre x).map prS)) (anL m a pre)))=cz (.bool !decide ((stp m p.1 a).1∈anL m a pre)):=by
      show (if o9 rp (.int (stp m p.1 a).1) then cz (dE (p4 !=y6 _ _)) else el)=_;rw[dKey_i,Y5];cases decide ((stp m p.1 a).1∈anL m a pre)<;>rfl
     walk_at "ev";rw[ki];walk_at "ev";by_cases c:(stp m p.1 a).1∈anL m a pre
     ·rw[aI c];unfold LI U0;rw[aG c];rfl
     ·rw[aY c];show J1 3 rp (b7 6) (J4 c9) (LC m a B pre [.int p.2,.int p.1,.int (stp m p.1 a).1,.int (stp m p.1 a).2,v,t])=_;rw[b2U (kt:=rp) (k:=.int (stp m p.1 a).1) (d:=.list []) (kvs:=A4 (λx=>.list ((gp m a pre x).map prS)) (anL m a pre)) rfl rfl rfl (dKey_i _) (by rw[a6H];lia)];unfold LI U0 p6;rw[aL c,Y5,aY c,aL aS];unfold A4;rw[aM];show _=cz (Out.nx [_,_,_,.dict (_++[(aJ (stp m p.1 a).1,.list ((gp m a pre (stp m p.1 a).1).map prS))]),_,_,_,_,_,_]);rw[a5s c];rfl
    have kj:(stp m p.1 a).1∈U0 (stp m p.1 a).1 (anL m a pre):=a3j.mpr (.inr rfl);have qI:=a1x (g:=λx=>dM ((gp m a pre x).map prS)) kj;have pQ:∃v' t',(D3 (iL (e2 (a7n rp) (b7 3) (b7 6))) (L3 8 9) (sIf (tB (e2 dEq (b7 9) (b7 7))) (l5 (eC .none)) m6)) (LI m a B pre p [.int p.2,.int p.1,.int (stp m p.1 a).1,.int (stp m p.1 a).2,v,t])=cz (.nx (LI m a B pre p [.int p.2,.int p.1,.int (stp m p.1 a).1,.int (stp m p.1 a).2,v',t'])):=by
     have DS:iL (e2 (a7n rp) (b7 3) (b7 6)) (LI m a B pre p [.int p.2,.int p.1,.int (stp m p.1 a).1,.int (stp m p.1 a).2,v,t])=cz ((gp m a pre (stp m p.1 a).1).map prS):=by
      walk_at "ev";rw[show a7n rp (.dict (A4 (λx=>.list ((gp m a pre x).map prS)) (U0 (stp m p.1 a).1 (anL m a pre)))) (.int (stp m p.1 a).1)=cz (.list ((gp m a pre (stp m p.1 a).1).map prS)) by
       show (if o9 rp (.int (stp m p.1 a).1) then D4 _ _ else el)=_;rw[dKey_i,aG rfl,qI]]
      walk_at "ev"
     obtain⟨U',g1,v',t',rfl⟩:=G7 (enc:=prS) (set:=L3 8 9) (xs:=gp m a pre (stp m p.1 a).1) (g:=(sIf (tB (e2 dEq (b7 9) (b7 7))) (l5 (eC .none)) m6)) (U:=(LI m a B pre p [.int p.2,.int p.1,.int (stp m p.1 a).1,.int (stp m p.1 a).2,v,t]))
      (λ_ U=>∃v t,U=(LI m a B pre p [.int p.2,.int p.1,.int (stp m p.1 a).1,.int (stp m p.1 a).2,v,t])) ⟨_,_,rfl⟩ (by
       rintro lS q jH e' U ⟨v,t,rfl⟩;refine⟨_,(LI m a B pre p [.int p.2,.int p.1,.int (stp m p.1 a).1,.int (stp m p.1 a).2,.int q.2,.int q.1]),rfl,?_,_,_,rfl⟩;show (sIf (tB (e2 dEq (b7 9) (b7 7))) (l5 (eC .none)) m6) (LI m a B pre p [.int p.2,.int p.1,.int (stp m p.1 a).1,.int (stp m p.1 a).2,.int q.2,.int q.1])=_;have hq:q.1≠(stp m p.1 a).2:=λz=>by
        have hm:(stp m p.1 a).2∈(gp m a pre (stp m p.1 a).1).map (·.1):=by rw[e',aM,ay,z];simp
        exact oO (show ((stp m p.1 a).1,(stp m p.1 a).2)∈_ from b3d.mp hm)
       walk_at "ev";rw[aY hq];walk_at "ev")
     refine⟨v',t',?_⟩;rw[b1y,DS];exact g1
    obtain⟨v',t',pQ⟩:=pQ;refine⟨(LC m a B pre [.int p.2,.int p.1,z,u,v,t]),[.list (m.map rwD),.list (B.map prS),.int (a:Nat),.dict (A4 (λx=>.list ((gp m a (pre++[p]) x).map prS)) (anL m a (pre++[p]))),.int p.2,.int p.1,.int (stp m p.1 a).1,.int (stp m p.1 a).2,v',t'],rfl,?_,_,_,_,_,_,_,rfl⟩;unfold b7T;rw[A6,hc,w6,A6,hi,w6,A6,pQ,w6];show a4k 3 rp (b7 6) (B1 (b8 (b7 4) (b8 (b7 7) c9))) (LI m a B pre p [.int p.2,.int p.1,.int (stp m p.1 a).1,.int (stp m p.1 a).2,v',t'])=_;rw[b5k (kt:=rp) (k:=.int (stp m p.1 a).1) (d:=prS ((stp m p.1 a).2,p.2)) (es:=(gp m a pre (stp m p.1 a).1).map prS) rfl rfl rfl (dKey_i _) qI (by rw[ah];lia)];have e2:=a6I (g:=λx=>dM ((gp m a pre x).map prS)) (h:=λx=>dM ((gp m a (pre++[p]) x).map prS)) kj (λy hy=>by
     show dM ((gp m a (pre++[p]) y).map prS)=.list ((gp m a pre y).map prS);rw[a1b,aL λz=>hy z.symm])
    rw[a3q,<-e2,a1b,aG rfl,aM];rfl)
 have g1:N5 (L3 4 5) b7T (B.map prS) [.list (m.map rwD),.list (B.map prS),.int (a:Nat),.dict [],.none,.none,.none,.none,.none,.none]=_:=g1;rw[g1];walk_at "ev";rfl
end
section
variable {m:l8}{k:Nat}(w:WF m k)
include w
theorem b5l(hc:0<=c):∃s,m_law_set [.int c,.int m.length]=cz (.list (s.map .int))/\SetK m s:=by
 have mV:=w.pos;have hle:=w.le;unfold m_law_set;rw[J0 (by simp[VS.argsOk,imm])];unfold b_law_set;walk_at "ev";rw[a5R (n:=m.length) (by walk_at "ev") (by lia) (by lia),bE];walk_at "ev";refine Q8 (R:=λo=>∃s,o=cz (.list (s.map .int))/\SetK m s) (λU=>∃(c:Int) (s:List Int) (x:D),In m s/\U=[.int c,.int m.length,.list (s.map .int),x]) ?_ ?_
 ·obtain⟨U',g1,c',s,x,tJ,hI,gG,ll,rfl⟩:=E4 (n:=m.length) (set:=D0 3) (g:=(g9 (sIf (tB (e2 dEq (e2 C5 (b7 0) (eC (.int 2))) (eC (.int 1)))) (A5 2 (.l .i) o8 (b7 3)) m6) (l0 0 (e2 Y8 (b7 0) (eC (.int 2)))))) (U:=[.int c,.int m.length,.list [],.none])
   (λj U=>∃(c:Int) (s:List Int) (x:D),0<=c/\Inc s/\(∀t∈s,0<=t/\t<(j:Int))/\s.length<=j/\U=[.int c,.int m.length,.list (s.map .int),x]) ⟨c,[],_,hc,il,λt ht=>(nomatch ht),aB _,rfl⟩ (by
    rintro j hj U ⟨c,s,x,hc,hI,gG,ll,rfl⟩;by_cases h:c % 2=1
    ·refine⟨_,[.int (c / 2),.int m.length,.list ((s++[(j:Int)]).map .int),.int j],rfl,?_,c / 2,s++[(j:Int)],_,by lia,?_,?_,by rw[aV];simp;lia,rfl⟩
     ·walk_at "ev";rw[aI h];walk_at "ev";rw[N8 (by rw[ah];lia),aM];walk_at "ev"
     ·refine iP.mpr ⟨hI,ia _ _,λa ha b hb=>?_⟩;rw[ao.mp hb];exact (gG a ha).2
     ·intro t ht;rcases az.mp ht with z|z
      ·have:=gG t z;lia
      ·rw[ao.mp z];lia
    ·refine⟨_,[.int (c / 2),.int m.length,.list (s.map .int),.int j],rfl,?_,c / 2,s,_,by lia,hI,λt ht=>by have:=gG t ht;lia,by lia,rfl⟩;walk_at "ev";rw[aY h];walk_at "ev")
  exact⟨_,g1,c',s,x,⟨hI,gG⟩,rfl⟩
 ·rintro U ⟨c,s,x,hI,rfl⟩;cases s with
  |nil=>
   refine⟨[(m.length:Int)-1],?_,ia _ _,by simp,λt ht=>by rw[ao.mp ht];lia⟩;walk_at "ev";rw[show dEq (.list []) (.list [])=cz (.bool p4) from rfl];walk_at "ev"
  |cons s0 s=>
   refine⟨s0::s,?_,hI.1,by simp,hI.2⟩;walk_at "ev";rw[show dEq (.list (.int s0::s.map .int)) (.list [])=cz (.bool (decide ((s0::s)=[]))) from b5I (xs:=s0::s) (ys:=[]),aY (by simp)];walk_at "ev"
end
def b5m{m:l8}(h7:m.length<=7):a3b [.list (m.map rwD)]=o5 [.list (m.map rwD),iD ((aQ m.length).map λ(j:Nat)=>(j:Int))]:=by
 unfold a3b;rw[J0 (by simp[VS.argsOk])];unfold b2P;walk_at "ev";rw[a1Y h7];walk_at "ev";rw[show L6 [.list (m.map rwD)]=cz (iD ((aQ m.length).map λ(j:Nat)=>(j:Int))) by
  unfold L6;rw[J0 (by simp[VS.argsOk])];unfold a0T;walk_at "ev";rw[show P8 (eCl v8 (b8 (b7 0) c9)) [.list (m.map rwD)]=cz (iD ((aQ m.length).map λ(j:Nat)=>(j:Int))) by
   unfold P8;walk_at "ev";show (if -(2^62)<=(m.length:Int)/\(m.length:Int)<=1000000 then cz (dM (E1 0 (m.length:Int).toNat)) else el)=_;rw[aG ⟨by lia,by lia⟩,bE,Y3];unfold iD;rw[bG];rfl]
  walk_at "ev"]
 walk_at "ev";cases o5 [.list (m.map rwD),iD ((aQ m.length).map λ(j:Nat)=>(j:Int))]<;>rfl
def a5w(v:Int):m_law_whole [.int v]=cz (.bool p4):=by
 unfold m_law_whole;rw[J0 (by simp[VS.argsOk])];unfold b_law_whole;walk_at "ev"
def brD(p:Int×D):D:=.tuple [.int p.1,p.2]
def ndD(a:Nat)(l:List (Int×D)):D:=.tuple [.int (a:Nat),.list (l.map brD)]
def b5n(ha:a<k):m_law_node [ndD a l,.int k]=cz (.bool p4):=by
 have hT:p9 (ndD a l)=p4:=rfl;have h2:v8 [ndD a l]=cz (.int 2):=rfl;have h0:dIx (ndD a l) (.int 0)=cz (.int (a:Nat)):=rfl;have h1:dIx (ndD a l) (.int 1)=cz (.list (l.map brD)):=rfl;have h3:decide ((0:Int)<=(a:Nat))=p4:=aI (by lia);have h4:decide (((a:Nat):Int)<(k:Nat))=p4:=aI (by lia);unfold m_law_node;rw[J0 (by simp[VS.argsOk,imm])];unfold b_law_node;generalize ndD a l=T at hT h2 h0 h1;have main:=G7 (enc:=brD) (set:=D0 2) (xs:=l) (g:=(sIf (C9 (tNo (tV (e1 (λd=>cz (.bool (p9 d))) (b7 2)))) (C9 (tB (e2 dNe (eCl v8 (b8 (b7 2) c9)) (eC (.int 2)))) (tNo (tV (eCl m_law_whole (b8 (e2 dIx (b7 2) (eC (.int 0))) c9)))))) (l5 (eC (.bool rp))) m6)) (U:=[T,.int k,.none]) (λ_ U=>∃x,U=[T,.int k,x]) ⟨_,rfl⟩ (by
  rintro pre p post e U ⟨x,rfl⟩;refine⟨_,[T,.int k,brD p],rfl,?_,_,rfl⟩;show (sIf (C9 (tNo (tV (e1 (λd=>cz (.bool (p9 d))) (b7 2)))) (C9 (tB (e2 dNe (eCl v8 (b8 (b7 2) c9)) (eC (.int 2)))) (tNo (tV (eCl m_law_whole (b8 (e2 dIx (b7 2) (eC (.int 0))) c9)))))) (l5 (eC (.bool rp))) m6) [T,.int k,brD p]=_;have b0:dIx (brD p) (.int 0)=cz (.int p.1):=rfl;have b2:v8 [brD p]=cz (.int 2):=rfl;have bT:p9 (brD p)=p4:=rfl;generalize brD p=R at b0 b2 bT
  repeat (first|rw[bT]|rw[b2]|rw[b0]|rw[a5w]|walk_at "ev"))
 obtain⟨U',g1,x,rfl⟩:=main;have g1:N5 (D0 2) (sIf (C9 (tNo (tV (e1 (λd=>cz (.bool (p9 d))) (b7 2)))) (C9 (tB (e2 dNe (eCl v8 (b8 (b7 2) c9)) (eC (.int 2)))) (tNo (tV (eCl m_law_whole (b8 (e2 dIx (b7 2) (eC (.int 0))) c9)))))) (l5 (eC (.bool rp))) m6) (l.map brD) [T,.int k,.none]=_:=g1
 repeat (first|rw[hT]|rw[h2]|rw[h0]|rw[a5w]|rw[h3]|rw[h4]|rw[h1]|rw[g1]|walk_at "ev")
def b3i(h:KB m k B S)(hS:S.length≠1)(iB:n5 m k S=.int (a:Nat)):gT m k (f+1) B=ndD a ((srt (anL m a B)).map λx=>(x,gT m k f (gp m a B x))):=by
 rw[a1d h hS iB];unfold ndD;rw[bG];rfl
theorem a8d:∀{l:List (Int×D)},(∀p∈l,p.2.canLay0=p4)->bg (l.map brD)=p4
 |[],_=>rfl
 |p::l,h=>by simp only[ay,bg,brD,cC,h p aj,jS,fY,a8d λq hq=>h q (ak _ hq)]
theorem a3x:∀{l:List (Int×D)},(∀p∈l,p.2.depth<=n)->bM (l.map brD)<=n+1
 |[],_=>b_ _
 |p::l,h=>by
  have h1:=h p aj;have h2:=a3x λq hq=>h q (ak _ hq)
  simp only[ay,bM,brD,dy]at h2 ⊢;lia
def b7V(w:WF m k)(h:KB m k B S):∀f,lev m k S<f->(gT m k f B).canLay0=p4/\(gT m k f B).depth<=3*lev m k S:=by
 refine KB.ind w (P:=λB S=>∀f,lev m k S<f->(gT m k f B).canLay0=p4/\(gT m k f B).depth<=3*lev m k S) (λp S h hS f hf=>?_) (λB S e a h hS he _ iB _ _ hp f hf=>?_) h
 ·obtain⟨f,rfl⟩:∃q,f=q+1:=⟨f-1,by lia⟩;rw[a7Z];exact⟨a2j,by rw[M5];lia⟩
 ·obtain⟨f,rfl⟩:∃q,f=q+1:=⟨f-1,by lia⟩;have key:∀p∈(srt (anL m a B)).map λx=>(x,gT m k f (gp m a B x)),p.2.canLay0=p4/\p.2.depth<=3*e:=λp yw=>by
   obtain⟨x,hx,rfl⟩:=aR.mp yw;obtain⟨_,q2,q3⟩:=hp x ((o3 _).mem_iff.mp hx);obtain⟨z1,z2⟩:=q3 f (by lia);exact⟨z1,bV z2 (by lia)⟩
  have hd:=a3x λp hp=>(key p hp).2
  rw[b3i h hS iB,he];unfold ndD;simp only[cC,bg,dy,bM,a8d λp hp=>(key p hp).1,ef];exact⟨trivial,by lia⟩
abbrev sB(B:BG):List Int:=a0k (B.map (·.1))
def plD(m:l8)(k:Nat)(B:BG):D:=.tuple [gT m k 121 B,.list (B.map prS)]
def Pl(m:l8)(k:Nat)(B:BG):Prop:=KB m k B (sB B)/\lev m k (sB B)<=120
def wt(m:l8)(k:Nat)(B:BG):Nat:=B.length*(lev m k (sB B)+1)
def b7W(B:BG):((anL m a B).map λx=>(gp m a B x).length).sum=B.length:=by
 have one:∀{l:List Int} {c:Int} {f g:Int->Nat},l.Nodup->c∈l->g c=f c+1->(∀x,x≠c->g x=f x)->(l.map g).sum=(l.map f).sum+1:=by
  intro l c f g
  induction l with
  |nil=>intro _ h;cases h
  |cons y l ih=>
   intro hn hc h1 h2;rw[br]at hn;simp only[ay,mr];by_cases e:y=c
   ·subst e;rw[h1,bU λx hx=>h2 x λz=>hn.1 (z▸hx)];lia
   ·rw[h2 y e,ih hn.2 ((aC.mp hc).resolve_left λz=>e z.symm) h1 h2];lia
 induction B using snoc_ind with
 |h0=>rfl
 |h1 B p ih=>
  rw[a3q,aV,kW,<-ih];have hg:∀x,(gp m a (B++[p]) x).length=if (stp m p.1 a).1=x then (gp m a B x).length+1 else (gp m a B x).length:=λx=>by
   rw[a1b]
   split
   ·rw[aV];rfl
   ·rfl
  unfold U0;by_cases c:(stp m p.1 a).1∈anL m a B
  ·rw[aG c];exact one (b3c _) c (by rw[hg,aG rfl]) λx hx=>by rw[hg,aL λz=>hx z.symm]
  ·have hc:(anL m a B).map (λx=>(gp m a (B++[p]) x).length)=(anL m a B).map λx=>(gp m a B x).length:=bU λx hx=>by rw[hg,aL λz=>c (by rw[z];exact hx)]
   rw[aL c,aM,oW,hc,ay,cE,hg,aG rfl,a5s c];rfl
section
variable {m:l8}{k:Nat}(w:WF m k)
include w
theorem Pl.parts(h:Pl m k B)(hB:B.length≠1):∃a,a<k/\K7 m a (B.map (·.1))=p4/\gT m k 121 B=ndD a ((srt (anL m a B)).map λx=>(x,gT m k 121 (gp m a B x)))/\(∀x∈anL m a B,Pl m k (gp m a B x))/\((srt (anL m a B)).map λx=>wt m k (gp m a B x)).sum+1<=wt m k B:=by
 obtain⟨h,hl⟩:=h;have hS:(sB B).length≠1:=by rw[<-h.len];exact hB
 obtain⟨e,a,he,ha,iB⟩:=a2m h.told (by lia) hS;obtain⟨a1,a2,a3,_⟩:=b5c h.told (by lia) he ha;have hf:K7 m a (sB B)=p4:=by unfold tst at a2;rw[aw]at a2;exact a2.1
 have hp:∀x∈anL m a B,KB m k (gp m a B x) (sB (gp m a B x))/\lev m k (sB (gp m a B x))<=e:=λx hx=>by
  obtain⟨p1,p2⟩:=h.part w a1 a2 (by lia) hx;have:=p1.setEq;unfold sB;rw[this];exact⟨p1,p2⟩
 refine⟨a,a1,by rw[a1w h.perm];exact hf,?_,λx hx=>⟨(hp x hx).1,by have:=(hp x hx).2;lia⟩,?_⟩
 ·rw[show gT m k 121 B=_ from b3i (f:=120) h hS iB];refine eE (ndD a) (bU λx hx=>?_);obtain⟨p1,p2⟩:=hp x ((o3 _).mem_iff.mp hx);rw[b5d w p1 120 121 (by lia) (by lia)]
 ·have h1:((srt (anL m a B)).map λx=>wt m k (gp m a B x)).sum=((anL m a B).map λx=>wt m k (gp m a B x)).sum:=((o3 (anL m a B)).map _).sum_nat;have h2:∀{l:List Int},(∀x∈l,x∈anL m a B)->(l.map λx=>wt m k (gp m a B x)).sum<=(l.map λx=>(gp m a B x).length).sum*(e+1):=by
   intro l
   induction l with
   |nil=>intro _;exact b_ _
   |cons y l ih=>
    intro hx;have q1:=ih λx rh=>hx x (ak _ rh)
    have q2:wt m k (gp m a B y)<=(gp m a B y).length*(e+1):=Nat.mul_le_mul_left _ (by have:=(hp y (hx y aj)).2;lia);simp only[ay,mr,Nat.add_mul];lia
  have h3:=h2 λx hx=>hx
  rw[b7W]at h3;have h4:1<=B.length:=by rw[h.len];exact jg.mpr h.set.2.1
  have h5:wt m k B=B.length*(e+1)+B.length:=by unfold wt;rw[he,Nat.mul_add,Nat.mul_one]
  rw[h1,h5];lia
end
def b7X(w:WF m k)(h:Pl m k B):(plD m k B).canLay0=p4/\(plD m k B).depth<=362:=by
 obtain⟨h,hl⟩:=h;obtain⟨h1,h2⟩:=b7V w h 121 (by lia);have h3:bg (B.map prS)=p4:=a0N _ (λp=>by simp[prS,cC,bg]) B;have h4:bM (B.map prS)<=1:=M4 _ 1 (λp=>by simp[prS,dy,bM]) B;unfold plD;simp only[cC,bg,dy,bM,h1,h3,ef];exact⟨trivial,by lia⟩
def b5o(w:WF m k){q:List BG}(h:∀B∈q,Pl m k B):dNe (.list (q.map (plD m k))) (.list [])=cz (.bool !q.isEmpty):=by
 have h1:bg (q.map (plD m k))=p4/\bM (q.map (plD m k))<=362:=by
  induction q with
  |nil=>exact⟨rfl,b_ _⟩
  |cons B q ih=>
   obtain⟨z1,z2⟩:=ih λB hB=>h B (ak _ hB)
   obtain⟨y1,y2⟩:=b7X w (h B aj);simp only[ay,bg,bM,z1,y1,ef];exact⟨trivial,Nat.max_le.mpr ⟨y2,z2⟩⟩
 rw[b5G (by simp only[cC];exact h1.1) (by simp[cC,bg]) (by simp only[dy];have:=h1.2;lia)];cases q<;>simp[aK,cR]
def b7Y{U ds:List D}(h:U.getD l .none=.list (ds++[.tuple [x,y]])):W6 i j (a5h l) U=cz (.nx (((U.set l (.list ds)).set i x).set j y)):=by
 unfold W6 a5h;rw[h];show ((ds++[hJ [x,y]]).getLast?.bind _).bind _=_;rw[List.getLast?_concat,bF,List.dropLast_concat];rfl
section
variable {m:l8}{k:Nat}(w:WF m k){F0 O0:D}
include w
theorem b3j{B0:BG}(h0:Pl m k B0)(Bj:B0.length<=7):∃x y z u v,whL (tB (e2 dNe (b7 3) (J4 c9))) (g9 (W6 4 5 (a5h 3)) (sIf (tB (e2 dEq (eCl v8 (b8 (b7 5) c9)) (eC (.int 1)))) (sIf (C9 (tNo (tV (eCl m_law_whole (b8 (b7 4) c9)))) (tB (e2 dNe (b7 4) (e2 B4 (e2 B4 (b7 5) (eC (.int 0))) (eC (.int 0)))))) (l5 (eC (.bool rp))) m6) (g9 (sIf (tNo (tV (eCl m_law_node (b8 (b7 4) (b8 (eCl v8 (b8 (e2 dIx (b7 0) (eC (.int 0))) c9)) c9))))) (l5 (eC (.bool rp))) m6) (g9 (l0 6 (eCl m_law_led (b8 (b7 0) (b8 (b7 5) (b8 (e2 dIx (b7 4) (eC (.int 0))) c9))))) (g9 (sIf (C9 (tB (e2 (E9 rp) (b7 6) (eC .none))) (tB (e2 dNe (n6 (iL (e2 dIx (b7 4) (eC (.int 1)))) [] pt2 tT (b7 0)) (u8 (b7 6))))) (l5 (eC (.bool rp))) m6) (D3 (iL (e2 dIx (b7 4) (eC (.int 1)))) (L3 7 8) (A5 3 (.l .f) o8 (B1 (b8 (b7 8) (b8 (e2 (O3 rp) (b7 6) (b7 7)) c9)))))))))) 1000000 [.list (m.map rwD),F0,O0,.list [plD m k B0],.none,.none,.none,.none,.none]=cz (.nx [.list (m.map rwD),F0,O0,.list [],x,y,z,u,v]):=by
 have mV:=w.pos;have yP:=w.k5;have e0:(rowAt m 0).length=k:=w.row (by lia) (by lia);have Gb:wt m k B0<=7*121:=Nat.mul_le_mul Bj (by have:=h0.2;lia);obtain⟨U',g1,x,y,z,u,v,rfl⟩:=a5n (c:=(tB (e2 dNe (b7 3) (J4 c9)))) (g:=(g9 (W6 4 5 (a5h 3)) (sIf (tB (e2 dEq (eCl v8 (b8 (b7 5) c9)) (eC (.int 1)))) (sIf (C9 (tNo (tV (eCl m_law_whole (b8 (b7 4) c9)))) (tB (e2 dNe (b7 4) (e2 B4 (e2 B4 (b7 5) (eC (.int 0))) (eC (.int 0)))))) (l5 (eC (.bool rp))) m6) (g9 (sIf (tNo (tV (eCl m_law_node (b8 (b7 4) (b8 (eCl v8 (b8 (e2 dIx (b7 0) (eC (.int 0))) c9)) c9))))) (l5 (eC (.bool rp))) m6) (g9 (l0 6 (eCl m_law_led (b8 (b7 0) (b8 (b7 5) (b8 (e2 dIx (b7 4) (eC (.int 0))) c9))))) (g9 (sIf (C9 (tB (e2 (E9 rp) (b7 6) (eC .none))) (tB (e2 dNe (n6 (iL (e2 dIx (b7 4) (eC (.int 1)))) [] pt2 tT (b7 0)) (u8 (b7 6))))) (l5 (eC (.bool rp))) m6) (D3 (iL (e2 dIx (b7 4) (eC (.int 1)))) (L3 7 8) (A5 3 (.l .f) o8 (B1 (b8 (b7 8) (b8 (e2 (O3 rp) (b7 6) (b7 7)) c9))))))))))) (I:=λj U=>∃(q:List BG) (x y z u v:D),(∀B∈q,Pl m k B/\B.length<=7)/\j+(q.map (wt m k)).sum<=1000/\U=[.list (m.map rwD),F0,O0,.list (q.map (plD m k)),x,y,z,u,v])
  (Q:=λU=>∃x y z u v:D,U=[.list (m.map rwD),F0,O0,.list [],x,y,z,u,v]) 1000 (by
   rintro j U ⟨q,x,y,z,u,v,hq,hj,rfl⟩;refine⟨by lia,?_⟩;have ht:(tB (e2 dNe (b7 3) (J4 c9))) [.list (m.map rwD),F0,O0,.list (q.map (plD m k)),x,y,z,u,v]=cz !q.isEmpty:=by
    walk_at "ev";rw[b5o w λB hB=>(hq B hB).1];rfl
   rcases List.eq_nil_or_concat q with rfl|⟨q',B,rfl⟩
   ·exact .inl ⟨ht,x,y,z,u,v,rfl⟩
   ·rw[List.concat_eq_append]at ht hq hj ⊢;obtain⟨hP,xw⟩:=hq B (by simp);have vo:∀B∈q',Pl m k B/\B.length<=7:=λB hB=>hq B (by simp[hB])
    have xq:=hP.1;simp only[aM,ay,cE,oW,mr,List.sum_nil]at hj;refine .inr ⟨by rw[ht];cases q'<;>rfl,?_⟩;have hp:W6 4 5 (a5h 3) [.list (m.map rwD),F0,O0,.list ((q'++[B]).map (plD m k)),x,y,z,u,v]=cz (.nx [.list (m.map rwD),F0,O0,.list (q'.map (plD m k)),gT m k 121 B,.list (B.map prS),z,u,v]):=by
     rw[b7Y (ds:=q'.map (plD m k)) (x:=gT m k 121 B) (y:=.list (B.map prS)) (by rw[aM];rfl)];rfl
    rw[A6,hp,w6];have Ga:1<=wt m k B:=Nat.mul_pos (by rw[xq.len];exact jg.mpr xq.set.2.1) (Nat.succ_pos _);by_cases c:B.length=1
    ·obtain⟨p,rfl⟩:∃p,B=[p]:=by
      match B,c with
      |[p],_=>exact⟨p,rfl⟩
     refine⟨_,?_,q',.int p.2,.list ([p].map prS),z,u,v,vo,by lia,rfl⟩;rw[a7Z];have hn:dNe (.int p.2) (.int p.2)=cz (.bool rp):=a6x a2j (by rw[M5];lia);have hl:v8 [.list ([p].map prS)]=cz (.int 1):=rfl;have hi:dIx (.list ([p].map prS)) (.int 0)=cz (prS p):=rfl;have DT:dIx (prS p) (.int 0)=cz (.int p.2):=rfl;have zf:R9 (prS p)=cz (prS p):=a4c (a8V p);generalize dM ([p].map prS)=R at hl hi ⊢
     repeat (first|rw[a5w]|rw[hl]|rw[hi]|rw[zf]|rw[DT]|rw[hn]|walk_at "ev")
    ·obtain⟨a,ha,hf,hT,Dm,yo⟩:=Pl.parts w hP c;have pL:∀p∈B,0<=p.1/\p.1<(m.length:Int):=λp hp=>xq.set.2.2 p.1 ((xq.mem p.1).mp (bt hp))
     have rC:=X1 (m:=m) (a:=a) (B:=B);have Gr:(srt (anL m a B)).length<=7:=by rw[(o3 _).length_eq];lia
     rw[hT];generalize hl:((srt (anL m a B)).map λx=>(x,gT m k 121 (gp m a B x)))=l;have h1:dIx (ndD a l) (.int 1)=cz (.list (l.map brD)):=rfl;have h2:dIx (ndD a l) (.int 0)=cz (.int (a:Nat)):=rfl;have hn:=b5n (l:=l) ha;generalize ndD a l=T at h1 h2 hn;have hlen:v8 [.list (B.map prS)]=cz (.int B.length):=by show cz (aJ ((B.map prS).length:Nat))=_;rw[ah]
     have uq:decide ((B.length:Int)=1)=rp:=aY (by lia);have Az:(sIf (tNo (tV (eCl m_law_node (b8 (b7 4) (b8 (eCl v8 (b8 (e2 dIx (b7 0) (eC (.int 0))) c9)) c9))))) (l5 (eC (.bool rp))) m6) [.list (m.map rwD),F0,O0,.list (q'.map (plD m k)),T,.list (B.map prS),z,u,v]=cz (.nx [.list (m.map rwD),F0,O0,.list (q'.map (plD m k)),T,.list (B.map prS),z,u,v]):=by
      walk_at "ev";rw[b4K (by decide) (by lia)];walk_at "ev";rw[e0,hn];walk_at "ev"
     have yK:l0 6 (eCl m_law_led (b8 (b7 0) (b8 (b7 5) (b8 (e2 dIx (b7 4) (eC (.int 0))) c9)))) [.list (m.map rwD),F0,O0,.list (q'.map (plD m k)),T,.list (B.map prS),z,u,v]=cz (.nx [.list (m.map rwD),F0,O0,.list (q'.map (plD m k)),T,.list (B.map prS),lpD m a B,u,v]):=by
      walk_at "ev";rw[h2];walk_at "ev";rw[b7U w ha pL (by lia) hf];walk_at "ev"
     have sR:u8 (b7 6) [.list (m.map rwD),F0,O0,.list (q'.map (plD m k)),T,.list (B.map prS),lpD m a B,u,v]=cz (iD (srt (anL m a B))):=a1a (kvs:=A4 (λx=>.list ((gp m a B x).map prS)) (anL m a B)) rfl a4H (by lia);have zh:(n6 (iL (e2 dIx (b7 4) (eC (.int 1)))) [] pt2 tT (b7 0)) [.list (m.map rwD),F0,O0,.list (q'.map (plD m k)),T,.list (B.map prS),lpD m a B,u,v]=cz (iD (srt (anL m a B))):=by
      rw[T9 (enc:=brD) (xs:=l) (λp=>aJ p.1) (by walk_at "ev";rw[h1];rfl) (by rw[<-hl,ah];lia) λp _=>⟨_,rfl,rfl⟩,<-hl];unfold iD;rw[bG];rfl
     have zf:(sIf (C9 (tB (e2 (E9 rp) (b7 6) (eC .none))) (tB (e2 dNe (n6 (iL (e2 dIx (b7 4) (eC (.int 1)))) [] pt2 tT (b7 0)) (u8 (b7 6))))) (l5 (eC (.bool rp))) m6) [.list (m.map rwD),F0,O0,.list (q'.map (plD m k)),T,.list (B.map prS),lpD m a B,u,v]=cz (.nx [.list (m.map rwD),F0,O0,.list (q'.map (plD m k)),T,.list (B.map prS),lpD m a B,u,v]):=by
      have Dy:isN (lpD m a B)=rp:=rfl;have gC:dNe (iD (srt (anL m a B))) (iD (srt (anL m a B)))=cz (.bool rp):=a6x (lay_ints _) (bV (a0h _) (by decide));walk_at "ev";rw[Dy];walk_at "ev";rw[zh,sR];walk_at "ev";rw[gC];walk_at "ev"
     have tw:∃u' v',(D3 (iL (e2 dIx (b7 4) (eC (.int 1)))) (L3 7 8) (A5 3 (.l .f) o8 (B1 (b8 (b7 8) (b8 (e2 (O3 rp) (b7 6) (b7 7)) c9))))) [.list (m.map rwD),F0,O0,.list (q'.map (plD m k)),T,.list (B.map prS),lpD m a B,u,v]=cz (.nx [.list (m.map rwD),F0,O0,.list ((q'++(srt (anL m a B)).map λx=>gp m a B x).map (plD m k)),T,.list (B.map prS),lpD m a B,u',v']):=by
      have Au:q'.length<=1000:=by
       have key:∀{q:List BG},(∀B∈q,Pl m k B/\B.length<=7)->q.length<=(q.map (wt m k)).sum:=by
        intro q
        induction q with
        |nil=>intro _;exact b_ _
        |cons C q ih=>
         intro h;have z1:=ih λB hB=>h B (ak _ hB)
         have z2:=(h C aj).1.1;have z3:1<=wt m k C:=Nat.mul_pos (by rw[z2.len];exact jg.mpr z2.set.2.1) (Nat.succ_pos _);simp only[bB,ay,mr];lia
       have:=key vo;lia
      obtain⟨U',g1,u',v',rfl⟩:=G7 (enc:=λx=>brD (x,gT m k 121 (gp m a B x))) (set:=L3 7 8) (xs:=srt (anL m a B)) (g:=(A5 3 (.l .f) o8 (B1 (b8 (b7 8) (b8 (e2 (O3 rp) (b7 6) (b7 7)) c9))))) (U:=[.list (m.map rwD),F0,O0,.list (q'.map (plD m k)),T,.list (B.map prS),lpD m a B,u,v])
       (λpre U=>∃u v,U=[.list (m.map rwD),F0,O0,.list ((q'++pre.map λx=>gp m a B x).map (plD m k)),T,.list (B.map prS),lpD m a B,u,v]) ⟨_,_,by rw[cE,bz]⟩ (by
        rintro pre x post e U ⟨u,v,rfl⟩;have hx:x∈anL m a B:=(o3 _).mem_iff.mp (by rw[e];simp);have fV:pre.length<=7:=by have:=eE gz e;rw[aV]at this;lia
        refine⟨_,[.list (m.map rwD),F0,O0,.list ((q'++(pre++[x]).map λx=>gp m a B x).map (plD m k)),T,.list (B.map prS),lpD m a B,.int x,gT m k 121 (gp m a B x)],rfl,?_,_,_,rfl⟩;rw[aM (l₁:=pre),<-be,aM (l₂:=[x].map _)];generalize xc:(q'++pre.map λx=>gp m a B x)=g;have DX:g.length<=1100:=by rw[<-xc,aV,ah];lia
        show (A5 3 (.l .f) o8 (B1 (b8 (b7 8) (b8 (e2 (O3 rp) (b7 6) (b7 7)) c9)))) [.list (m.map rwD),F0,O0,.list (g.map (plD m k)),T,.list (B.map prS),lpD m a B,.int x,gT m k 121 (gp m a B x)]=_;walk_at "ev";rw[show O3 rp (lpD m a B) (.int x)=cz (.list ((gp m a B x).map prS)) from b3b hx];walk_at "ev";rw[N8 (by rw[ah];lia)];rfl)
      refine⟨u',v',?_⟩;rw[b1y,show iL (e2 dIx (b7 4) (eC (.int 1))) [.list (m.map rwD),F0,O0,.list (q'.map (plD m k)),T,.list (B.map prS),lpD m a B,u,v]=cz ((srt (anL m a B)).map λx=>brD (x,gT m k 121 (gp m a B x))) by
       walk_at "ev";rw[h1,<-hl,bG];rfl]
      exact g1
     obtain⟨u',v',tw⟩:=tw;refine⟨[.list (m.map rwD),F0,O0,.list ((q'++(srt (anL m a B)).map λx=>gp m a B x).map (plD m k)),T,.list (B.map prS),lpD m a B,u',v'],?_,q'++(srt (anL m a B)).map λx=>gp m a B x,T,.list (B.map prS),lpD m a B,u',v',λC hC=>?_,?_,rfl⟩
     ·rw[a5Q,show (tB (e2 dEq (eCl v8 (b8 (b7 5) c9)) (eC (.int 1)))) [.list (m.map rwD),F0,O0,.list (q'.map (plD m k)),T,.list (B.map prS),z,u,v]=cz rp by
       walk_at "ev";rw[uq]]
      show g9 (sIf (tNo (tV (eCl m_law_node (b8 (b7 4) (b8 (eCl v8 (b8 (e2 dIx (b7 0) (eC (.int 0))) c9)) c9))))) (l5 (eC (.bool rp))) m6) (g9 (l0 6 (eCl m_law_led (b8 (b7 0) (b8 (b7 5) (b8 (e2 dIx (b7 4) (eC (.int 0))) c9))))) (g9 (sIf (C9 (tB (e2 (E9 rp) (b7 6) (eC .none))) (tB (e2 dNe (n6 (iL (e2 dIx (b7 4) (eC (.int 1)))) [] pt2 tT (b7 0)) (u8 (b7 6))))) (l5 (eC (.bool rp))) m6) (D3 (iL (e2 dIx (b7 4) (eC (.int 1)))) (L3 7 8) (A5 3 (.l .f) o8 (B1 (b8 (b7 8) (b8 (e2 (O3 rp) (b7 6) (b7 7)) c9))))))) [.list (m.map rwD),F0,O0,.list (q'.map (plD m k)),T,.list (B.map prS),z,u,v]=_;rw[A6,Az,w6,A6,yK,w6,A6,zf,w6,tw]
     ·rcases az.mp hC with hC|hC
      ·exact vo C hC
      ·obtain⟨x,hx,rfl⟩:=aR.mp hC;exact⟨Dm x ((o3 _).mem_iff.mp hx),bV a8R xw⟩
     ·rw[aM,oW,bG];have:((srt (anL m a B)).map (wt m k ∘ λx=>gp m a B x)).sum+1<=wt m k B:=yo;lia) 1000000 0 [.list (m.map rwD),F0,O0,.list [plD m k B0],.none,.none,.none,.none,.none] ⟨[B0],_,_,_,_,_,λB hB=>by rw[ao.mp hB];exact⟨h0,Bj⟩,by simp;lia,rfl⟩ (by lia)
 exact⟨x,y,z,u,v,g1⟩
end
def a8e{l:List (Int×D)}(hl:l.length<=30)(h:∀p∈l,∃d,m_law_shown f [p.2]=cz d):m_law_shown (f+1) [ndD a l]=cz (.list [.int (a:Nat),.list ((l.map λp=>(p.1,(m_law_shown f [p.2]).getD .none)).map brD)]):=by
 have hT:p9 (ndD a l)=p4:=rfl;have h0:dIx (ndD a l) (.int 0)=cz (.int (a:Nat)):=rfl;have h1:dIx (ndD a l) (.int 1)=cz (.list (l.map brD)):=rfl;show fnD _ _ _ _=_;rw[J0 (by simp[VS.argsOk])];unfold b_law_shown;generalize ndD a l=T at hT h0 h1;have hc:n6 (iL (e2 dIx (b7 0) (eC (.int 1)))) [] pt2 tT (B1 (b8 (eIm (b7 0)) (b8 (eCl (m_law_shown f) (b8 (b7 1) c9)) c9))) [T]=cz (.list ((l.map λp=>(p.1,(m_law_shown f [p.2]).getD .none)).map brD)):=by
  rw[T9 (enc:=brD) (xs:=l) (λp=>brD (p.1,(m_law_shown f [p.2]).getD .none)) (by walk_at "ev";rw[h1];rfl) (by lia) λp hp=>⟨[.int p.1,p.2],rfl,?_⟩,bG]
  ·rfl
  ·obtain⟨d,hd⟩:=h p hp;show B1 (b8 (eIm (b7 0)) (b8 (eCl (m_law_shown f) (b8 (b7 1) c9)) c9)) [.int p.1,p.2]=_;rw[b5B,b1x,b2B (d:=.int p.1) rfl (by simp only[imm])];walk_at "ev";rw[hd];rfl
 have hi:eIm (e2 dIx (b7 0) (eC (.int 0))) [T]=cz (.int (a:Nat)):=b2B (by show dIx T (.int 0)=_;exact h0) (by simp only[imm])
 repeat (first|rw[hT]|rw[hi]|rw[hc]|walk_at "ev")
def shown_int:m_law_shown (f+1) [.int i]=cz (.int i):=by
 show fnD _ _ _ _=_;rw[J0 (by simp[VS.argsOk])];unfold b_law_shown;walk_at "ev";rfl
section
variable {m:l8}{k:Nat}{B:BG}{S:List Int}
def b3k(w:WF m k)(h:KB m k B S):∀f f',lev m k S<f->lev m k S<f'->∃d,m_law_shown f' [gT m k f B]=cz d/\d.canLay0=p4/\d.depth<=3*lev m k S:=by
 refine KB.ind w (P:=λB S=>∀f f',lev m k S<f->lev m k S<f'->∃d,m_law_shown f' [gT m k f B]=cz d/\d.canLay0=p4/\d.depth<=3*lev m k S) (λp S h hS f f' hf mZ=>?_) (λB S e a h hS he ha iB hk mi hp f f' hf mZ=>?_) h
 ·obtain⟨f,rfl⟩:∃q,f=q+1:=⟨f-1,by lia⟩;obtain⟨f',rfl⟩:∃q,f'=q+1:=⟨f'-1,by lia⟩;rw[a7Z];exact⟨_,shown_int,a2j,by rw[M5];lia⟩
 ·obtain⟨f,rfl⟩:∃q,f=q+1:=⟨f-1,by lia⟩;obtain⟨f',rfl⟩:∃q,f'=q+1:=⟨f'-1,by lia⟩;have rC:=X1 (m:=m) (a:=a) (B:=B);have xw:=h.len;have:=SetK.len h.set;have:=w.le;have key:∀p∈(srt (anL m a B)).map λx=>(x,gT m k f (gp m a B x)),∃d,m_law_shown f' [p.2]=cz d/\d.canLay0=p4/\d.depth<=3*e:=λp yw=>by
   obtain⟨x,hx,rfl⟩:=aR.mp yw;obtain⟨_,q2,q3⟩:=hp x ((o3 _).mem_iff.mp hx);obtain⟨d,z1,z2,z3⟩:=q3 f f' (by lia) (by lia);exact⟨d,z1,z2,bV z3 (by lia)⟩
  rw[b3i h hS iB,he];refine⟨_,a8e (by rw[ah,(o3 _).length_eq];lia) λp hp=>by obtain⟨d,z,_⟩:=key p hp;exact⟨d,z⟩,?_,?_⟩
  ·simp only[cC,bg,fY,jS];refine a8d λq hq=>?_
   obtain⟨p,hp,rfl⟩:=aR.mp hq;obtain⟨d,z1,z2,_⟩:=key p hp;rw[z1];exact z2
  ·have hd:=a3x (n:=3*e) (l:=((srt (anL m a B)).map λx=>(x,gT m k f (gp m a B x))).map λp=>(p.1,(m_law_shown f' [p.2]).getD .none)) λq hq=>by
    obtain⟨p,hp,rfl⟩:=aR.mp hq;obtain⟨d,z1,_,z3⟩:=key p hp;rw[z1];exact z3
   simp only[dy,bM];lia
end
end Prog
local macro_rules | `(tactic| walk_at "evm")=>`(tactic| first | (walk_at "ev";repeat (simp -implicitDefEqProofs (disch:=first | omega | assumption | decide) only [VS.a1l,VS.a0e,VS.N9];try walk_at "ev")) | (simp -implicitDefEqProofs (disch:=first | omega | assumption | decide) only [VS.a1l,VS.a0e,VS.N9];repeat (first | walk_at "ev" | simp -implicitDefEqProofs (disch:=first | omega | assumption | decide) only [VS.a1l,VS.a0e,VS.N9])))
namespace Prog
open PySem L2 VS
abbrev M0(ns:List Int)(sm la:Nat)(fi:List Int)(n k q:Nat)(xs rows:List Int)(t:List D):List D:=.list (ns.map .int)::.int sm::.int la::.list (fi.map .int)::.int n::.int k::.int q::.list (xs.map .int)::.list (rows.map .int)::t
abbrev b3l:EvS:=(g9 (l0 13 (e2 N0 (b7 7) (e2 z7 (e2 z7 (e2 z7 (eC (.int 3)) (b7 4)) (e2 K9 (e2 N0 (b7 8) (b7 10)) (b7 5))) (b7 12)))) (g9 (l0 14 (n6 (iR (b7 4)) [6,8,13] pt1 (tB (e2 dEq (e2 N0 (b7 2) (b7 0)) (e2 C5 (b7 3) (b7 1)))) (b7 0))) (g9 (l0 15 (e2 N0 (b7 7) (e2 z7 (e2 z7 (e2 z7 (e2 z7 (eC (.int 3)) (b7 4)) (e2 K9 (b7 4) (b7 5))) (e2 K9 (b7 10) (b7 5))) (b7 12)))) (A5 11 (.l .i) o8 (B1 (b8 (eCl m_law_answer (b8 (e2 Y8 (b7 13) (b7 6)) (b8 (b7 7) c9))) (b8 (e2 N0 (b7 14) (e2 C5 (b7 15) (eCl v8 (b8 (b7 14) c9)))) c9)))))))
abbrev b7Z:EvS:=(g9 (l0 11 (J4 c9)) (g9 (D3 (iR (b7 5)) (D0 12) b3l) (A5 9 (.l (.l .i)) o8 (b7 11))))
abbrev b8a:EvS:=(sIf (tB (e2 dLt (b7 4) (b7 2))) (A5 3 (.l .i) o8 (e2 C5 (e2 z7 (b7 4) (e2 Y8 (e2 B4 (b7 0) (eC (.int 0))) (eC (.int 1000)))) (b7 2))) (A5 3 (.l .i) o8 (e2 C5 (e2 B4 (b7 0) (e2 z7 (eC (.int 3)) (b7 4))) (b7 2))))
local macro_rules | `(tactic| walk_at "ev1")=>`(tactic| simp -implicitDefEqProofs only [VS.A6,VS.a2B,VS.b5A,VS.b5z,VS.a8u,VS.b1w,VS.w6,mH,jB])
def P4:Int:=10^64
def b3m:1000<P4:=by decide
def a8f(ns:List Int)(k:Int)(h0:0<=k):∃c:Int,m_law_cell_at [.list (ns.map .int),.int k]=cz (.int c):=by
 unfold m_law_cell_at;rw[J0 (by simp[VS.argsOk,imm])];unfold b_law_cell_at;walk_at "evm";by_cases c:k<(ns.length:Int)
 ·rw[aI c];walk_at "evm";exact⟨_,rfl⟩
 ·rw[aY c];walk_at "evm";exact⟨_,rfl⟩
def a3y(ns:List Int)(n:Nat)(h1:n<=1000):∃xs:List Int,m_law_cells [.list (ns.map .int),.int n]=cz (.list (xs.map .int))/\xs.length=n/\∀x∈xs,0<=x:=by
 unfold m_law_cells;rw[J0 (by simp[VS.argsOk,imm])];unfold b_law_cells;walk_at "evm";rw[a5R (n:=n) (by walk_at "evm") (by lia) (by lia),bE];walk_at "evm";refine Q8 (R:=λo=>∃xs:List Int,o=cz (.list (xs.map .int))/\xs.length=n/\∀x∈xs,0<=x) (λU=>∃(xs:List Int) (q:Int) (y z:D),xs.length=n/\(∀x∈xs,0<=x)/\U=[.list (ns.map .int),.int n,.list (xs.map .int),.int q,y,z]) ?_ ?_
 ·obtain⟨U',g1,xs,q,y,z,e1,e2,e3,rfl⟩:=E4 (n:=n) (set:=D0 4) (g:=(g9 (l0 5 (e2 C5 (eCl m_law_cell_at (b8 (b7 0) (b8 (b7 4) c9))) (e2 a4U (eC (.int 10)) (eC (.int 64))))) (g9 (l0 3 (e2 C5 (e2 z7 (e2 z7 (e2 z7 (e2 K9 (b7 3) (eC (.int 69621))) (e2 K9 (b7 5) (eC (.int 40014)))) (e2 K9 (b7 4) (b7 4))) (eC (.int 1))) (eC (.int 2147483563)))) (sIf (tB (e2 dLt (b7 4) (eCl v8 (b8 (b7 0) c9)))) (A5 2 (.l .i) o8 (b7 5)) (A5 2 (.l .i) o8 (b7 3)))))) (U:=[.list (ns.map .int),.int n,.list [],.int 48271,.none,.none])
   (λj U=>∃(xs:List Int) (q:Int) (y z:D),xs.length=j/\(∀x∈xs,0<=x)/\0<=q/\U=[.list (ns.map .int),.int n,.list (xs.map .int),.int q,y,z]) ⟨[],48271,_,_,rfl,λx hx=>(nomatch hx),by decide,rfl⟩ (by
    rintro j hj U ⟨xs,q,y,z,e1,e2,e3,rfl⟩;obtain⟨c,hc⟩:=a8f ns j (by lia);have hq:=dm (q*69621+c % P4*40014+(j:Int)*j+1) (show (2147483563:Int)≠0 by decide);have hp:=b3m;have xi:=dm c (show P4≠0 by lia);have Bx:(10^(64:Int).toNat:Int)=P4:=by decide
    by_cases cl:(j:Int)<ns.length
    ·refine⟨_,[.list (ns.map .int),.int n,.list ((xs++[c % P4]).map .int),.int ((q*69621+c % P4*40014+(j:Int)*j+1) % 2147483563),.int j,.int (c % P4)],rfl,?_,xs++[c % P4],_,_,_,by rw[aV,e1];rfl,?_,hq,rfl⟩
     ·walk_at "evm";rw[hc,v_pow (i:=10) (j:=64) (by decide),Bx];generalize P4=T at hp;walk_at "evm";rw[aI cl];walk_at "evm";rw[N8 (by rw[ah];lia),aM];rfl
     ·intro x hx;rcases az.mp hx with z|z
      ·exact e2 x z
      ·rw[ao.mp z];exact xi
    ·refine⟨_,[.list (ns.map .int),.int n,.list ((xs++[(q*69621+c % P4*40014+(j:Int)*j+1) % 2147483563]).map .int),.int ((q*69621+c % P4*40014+(j:Int)*j+1) % 2147483563),.int j,.int (c % P4)],rfl,?_,xs++[(q*69621+c % P4*40014+(j:Int)*j+1) % 2147483563],_,_,_,by rw[aV,e1];rfl,?_,hq,rfl⟩
     ·walk_at "evm";rw[hc,v_pow (i:=10) (j:=64) (by decide),Bx];generalize P4=T at hp;walk_at "evm";rw[aY cl];walk_at "evm";rw[N8 (by rw[ah];lia),aM];rfl
     ·intro x hx;rcases az.mp hx with z|z
      ·exact e2 x z
      ·rw[ao.mp z];exact hq)
  exact⟨_,g1,xs,q,y,z,e1,e2,rfl⟩
 ·rintro U ⟨xs,q,y,z,e1,e2,rfl⟩;walk_at "evm";exact⟨xs,rfl,e1,e2⟩
def a8W{xs:List Int}(h:∀x∈xs,0<=x)(i:Nat):0<=xs.getD i 0:=by
 rw[aU];cases e:xs[i]? with
 |none=>exact Int.le_refl _
 |some y=>exact h y (bA e)
def b3n:a4U (.int 10) (.int 60)=cz (.int big):=by rw[v_pow (i:=10) (j:=60) (by decide)];rfl
local macro_rules | `(tactic| walk_at "evq")=>`(tactic| first | (walk_at "ev";repeat (simp -implicitDefEqProofs (disch:=first | omega | assumption | decide) only [Prog.b3n,VS.a1l,VS.a0e,VS.N9];try walk_at "ev")) | (simp -implicitDefEqProofs (disch:=first | omega | assumption | decide) only [Prog.b3n,VS.a1l,VS.a0e,VS.N9];repeat (first | walk_at "ev" | simp -implicitDefEqProofs (disch:=first | omega | assumption | decide) only [Prog.b3n,VS.a1l,VS.a0e,VS.N9])))
def b0z(q:Int)(xs:List Int)(h:3<=xs.length):∃v:Int,m_law_answer [.int q,.list (xs.map .int)]=cz (.int v):=by
 have Fw:=b2L;unfold m_law_answer;rw[J0 (by simp[VS.argsOk,imm])];unfold b_law_answer;walk_at "evq";generalize decide (xs.getD (1:Int).toNat 0 / 5 % 4=1)=b1;cases b1 with
 |true=>
  walk_at "evq";exact⟨_,rfl⟩
 |false=>
  walk_at "evq";generalize decide (xs.getD (1:Int).toNat 0 / 5 % 4=2)=b2;cases b2 with
  |true=>
   walk_at "evq";exact⟨_,rfl⟩
  |false=>
   walk_at "evq";generalize decide (xs.getD (1:Int).toNat 0 / 5 % 4=3)=b3;cases b3 with
   |true=>
    walk_at "evq";exact⟨_,rfl⟩
   |false=>
    walk_at "evq";exact⟨_,rfl⟩
def b0A(xs:List Int)(n q:Nat)(h:3+n<=xs.length)(q1:1<=q)(qn:q<=n)(xY:n<=30)(hx:∀x∈xs,0<=x) :
  ∃rows:List Int,m_law_copied [.list (xs.map .int),.int n,.int q]=cz (.list (rows.map .int))/\rows.length=n/\(∀r∈rows,0<=r/\r<(q:Int))/\∀c:Int,0<=c->c<q->c∈rows:=by
 unfold m_law_copied;rw[J0 (by simp[VS.argsOk,imm])];unfold b_law_copied;walk_at "evq";rw[a5R (n:=n) (by walk_at "evq") (by lia) (by lia),bE];walk_at "evq"
 let o:Int:=xs.getD (0:Int).toNat 0 / 1000
 refine Q8 (R:=λe=>∃rows:List Int,e=cz (.list (rows.map .int))/\rows.length=n/\(∀r∈rows,0<=r/\r<(q:Int))/\∀c:Int,0<=c->c<q->c∈rows) (λU=>∃(rows:List Int) (x:D),rows.length=n/\(∀r∈rows,0<=r/\r<(q:Int))/\(∀i:Nat,i<q->((i:Int)+o) % q∈rows)/\U=[.list (xs.map .int),.int n,.int q,.list (rows.map .int),x]) ?_ ?_
 ·obtain⟨U',h1,rows,x,h2,h3,h4,rfl⟩:=E4 (n:=n) (set:=D0 4) (g:=b8a) (U:=[.list (xs.map .int),.int n,.int q,.list [],.none])
   (λj U=>∃(rows:List Int) (x:D),rows.length=j/\(∀r∈rows,0<=r/\r<(q:Int))/\(∀i:Nat,i<q->i<j->((i:Int)+o) % q∈rows)/\U=[.list (xs.map .int),.int n,.int q,.list (rows.map .int),x])
   ⟨[],_,rfl,λr hr=>(nomatch hr),λi _ hi=>absurd hi (Nat.not_lt_zero _),rfl⟩ (by
    rintro j hj U ⟨rows,x,h2,h3,h4,rfl⟩;have put:∀v:Int,(j<q->v=((j:Int)+o) % q)->0<=v->v<(q:Int)->b8a [.list (xs.map .int),.int n,.int q,.list (rows.map .int),.int j]=cz (.nx [.list (xs.map .int),.int n,.int q,.list ((rows++[v]).map .int),.int j])->
      ∃U1 U2,D0 4 [.list (xs.map .int),.int n,.int q,.list (rows.map .int),x] (.int j)=cz U1/\b8a U1=cz (.nx U2)/\∃(rows:List Int) (x:D),rows.length=j+1/\(∀r∈rows,0<=r/\r<(q:Int))/\(∀i:Nat,i<q->i<j+1->((i:Int)+o) % q∈rows)/\U2=[.list (xs.map .int),.int n,.int q,.list (rows.map .int),x]:=by
     intro v hv v0 v1 hg;refine⟨_,_,rfl,hg,rows++[v],_,by rw[aV,h2];rfl,λr hr=>?_,λi hi mK=>?_,rfl⟩
     ·rcases az.mp hr with z|z
      ·exact h3 r z
      ·rw[ao.mp z];exact⟨v0,v1⟩
     ·rcases gE i j with z|z
      ·exact aA _ (h4 i hi z)
      ·have e:i=j:=by lia
       subst e;rw[<-hv hi];simp
    by_cases c:(j:Int)<q
    ·refine put (((j:Int)+o) % q) (λ_=>rfl) (dm _ (by lia)) (dZ _ (by lia)) ?_;walk_at "evq";rw[aI c];walk_at "evq";rw[N8 (by rw[ah];lia),aM];rfl
    ·refine put (xs.getD (3+(j:Int)).toNat 0 % q) (λz=>by lia) (dm _ (by lia)) (dZ _ (by lia)) ?_;walk_at "evq";rw[aY c];walk_at "evq";rw[N8 (by rw[ah];lia),aM];rfl)
  exact⟨_,h1,rows,x,h2,h3,λi hi=>h4 i hi (by lia),rfl⟩
 ·rintro U ⟨rows,x,h2,h3,h4,rfl⟩;have zN:∀c:Int,0<=c->c<q->c∈rows:=λc c0 c1=>by
   have h:=h4 ((c-o) % q).toNat (by have:=dZ (c-o) (show (0:Int)<q by lia);have:=dm (c-o) (show (q:Int)≠0 by lia);lia);rw[ji (dm (c-o) (by lia)),Int.emod_add_emod,Int.sub_add_cancel,Int.emod_eq_of_lt c0 c1]at h;exact h
  walk_at "evq";generalize decide (xs.getD (1:Int).toNat 0 / 20 % 2=1)=b;cases b with
  |false=>
   walk_at "evq";exact⟨rows,rfl,h2,h3,zN⟩
  |true=>
   walk_at "evq";show ∃r,a2A (thn (cz (.nx [.list (xs.map .int),.int n,.int q,.list (rows.map .int).reverse,x])) _)=_/\_;walk_at "evq";refine⟨rows.reverse,by rw[FE],by rw[xC];exact h2,λr hr=>h3 r (ke.mp hr),λc c0 c1=>ke.mpr (zN c c0 c1)⟩
def a8g(ns:List Int)(sm la Bd:Nat)(s1:1<=sm)(hB:Bd<=7)(s2:sm<=Bd)(l1:1<=la)(l2:la<=Bd):∃(m:l8) (k:Nat),m_law_machine [.list (ns.map .int),.int sm,.int la]=cz (.list (m.map rwD))/\WF m k/\m.length<=Bd:=by
 unfold m_law_machine;rw[J0 (by simp[VS.argsOk,imm])];unfold b_law_machine;walk_at "evm";obtain⟨fi,vK,FY,zW⟩:=a3y ns 3 (by lia);have yV:m_law_cells [.list (ns.map .int),.int 3]=cz (.list (fi.map .int)):=vK;rw[yV];walk_at "evm";have f0:0<=fi.getD (0:Int).toNat 0:=a8W zW _;have f1:0<=fi.getD (1:Int).toNat 0:=a8W zW _;have q0:=dm (fi.getD (0:Int).toNat 0) (show (sm:Int)≠0 by lia);have q1:=dZ (fi.getD (0:Int).toNat 0) (show (0:Int)<sm by lia);refine Q8 (R:=λo=>∃(m:l8) (k:Nat),o=cz (.list (m.map rwD))/\WF m k/\m.length<=Bd) (λU=>∃n:Nat,1<=n/\n<=Bd/\U=[.list (ns.map .int),.int sm,.int la,.list (fi.map .int),.int n,.none,.none,.none,.none,.none,.none,.none,.none,.none,.none,.none]) ?_ ?_
 ·cases decide (fi.getD (0:Int).toNat 0 / (sm:Int) % 8=3) with
  |true=>
   have r0:=dm (fi.getD (0:Int).toNat 0 / (8*(sm:Int))) (show (la:Int)≠0 by lia);have r1:=dZ (fi.getD (0:Int).toNat 0 / (8*(sm:Int))) (show (0:Int)<la by lia);refine⟨_,(by walk_at "evm";exact rfl),(1+fi.getD (0:Int).toNat 0 / (8*(sm:Int)) % la).toNat,by lia,by lia,?_⟩;rw[ji (by lia)]
  |false=>
   refine⟨_,(by walk_at "evm";exact rfl),(1+fi.getD (0:Int).toNat 0 % (sm:Int)).toNat,by lia,by lia,?_⟩;rw[ji (by lia)]
 rintro U ⟨n,n1,nB,rfl⟩;have xY:n<=30:=by lia
 walk_at "evm";obtain⟨k,hk,k1,k5⟩:∃k:Nat,1+fi.getD (1:Int).toNat 0 % 5=(k:Int)/\1<=k/\k<=5:=⟨(1+fi.getD (1:Int).toNat 0 % 5).toNat,by lia,by lia,by lia⟩;rw[hk];refine Q8 (R:=λo=>∃(m:l8) (k:Nat),o=cz (.list (m.map rwD))/\WF m k/\m.length<=Bd) (λU=>∃q:Nat,1<=q/\q<=n/\U=[.list (ns.map .int),.int sm,.int la,.list (fi.map .int),.int n,.int k,.int q,.none,.none,.none,.none,.none,.none,.none,.none,.none]) ?_ ?_
 ·cases decide (fi.getD (2:Int).toNat 0 % 4=3) with
  |true=>
   have r0:=dm (fi.getD (2:Int).toNat 0 / 4) (show (n:Int)≠0 by lia);have r1:=dZ (fi.getD (2:Int).toNat 0 / 4) (show (0:Int)<n by lia);refine⟨_,(by walk_at "evm";exact rfl),(1+fi.getD (2:Int).toNat 0 / 4 % n).toNat,by lia,by lia,?_⟩;rw[ji (by lia)]
  |false=>
   exact⟨_,(by walk_at "evm"),n,n1,aB _,rfl⟩
 rintro U ⟨q,Cj,qn,rfl⟩;walk_at "evm";have Az:n*k<=30*5:=Nat.mul_le_mul xY k5;obtain⟨xs,yg,CH,Cp⟩:=a3y ns (3+n+2*n*k) (by rw[Nat.mul_assoc];lia);have ec:(3+(n:Int)+2*(n:Int)*(k:Int))=((3+n+2*n*k:Nat):Int):=by rw[oY,oY,kK,kK];rfl
 rw[ec,yg];have en:(2:Int)*(n:Int)*(k:Int)=(n:Int)*k+(n:Int)*k:=by rw[Int.mul_assoc,Int.two_mul]
 have AD:(xs.length:Int)=3+n+((n:Int)*k+(n:Int)*k):=by rw[CH,<-ec,en]
 have Dz:0<=(n:Int)*(k:Int):=Int.mul_nonneg (by lia) (by lia);walk_at "evm";obtain⟨rows,vk,Aa,uQ,uM⟩:=b0A xs n q (by lia) Cj qn xY Cp;rw[vk];walk_at "evm";rw[a5R (n:=n) (by walk_at "evm") (by lia) (by lia),bE];walk_at "evm";have Fw:=b2L;have row:∀s:Nat,s<n->∀(tab:D) (y z u v:D),∃(r:List (Int×Int)) (x' y' z' u':D),r.length=k/\(∀p∈r,0<=p.2/\p.2<(n:Int))/\
   (D3 (iR (b7 5)) (D0 12) b3l) (M0 ns sm la fi n k q xs rows [tab,.int s,.list [],y,z,u,v])=cz (.nx (M0 ns sm la fi n k q xs rows [tab,.int s,rwD r,x',y',z',u'])):=by
  intro s hs tab y z u v;walk_at "evm";rw[a5R (n:=k) (by walk_at "evm") (by lia) (by lia),bE];walk_at "evm";obtain⟨U',h1,r,x',y',z',u',h2,h3,rfl⟩:=E4 (n:=k) (set:=D0 12) (g:=b3l)
   (U:=(M0 ns sm la fi n k q xs rows [tab,.int s,.list [],y,z,u,v]))
   (λj U=>∃(r:List (Int×Int)) (x' y' z' u':D),r.length=j/\(∀p∈r,0<=p.2/\p.2<(n:Int))/\U=(M0 ns sm la fi n k q xs rows [tab,.int s,rwD r,x',y',z',u']))
   ⟨[],y,z,u,v,rfl,λp hp=>(nomatch hp),rfl⟩ (by
    rintro j hj U ⟨r,x',y',z',u',hr,hp,rfl⟩;have bound:∀i:Int,0<=i->i<n->0<=i*(k:Int)/\i*(k:Int)+j<(n:Int)*k:=λi i0 i1=>by
     refine⟨Int.mul_nonneg i0 (by lia),?_⟩;have h1:(i.toNat+1)*k<=n*k:=Nat.mul_le_mul_right k (by lia);have h2:i.toNat*k+j<n*k:=by rw[Nat.add_mul,Nat.one_mul]at h1;lia
     have h3:((i.toNat:Nat):Int)=i:=by lia
     have h4:((i.toNat*k+j:Nat):Int)<((n*k:Nat):Int):=by exact_mod_cast h2
     rw[oY,kK,kK,h3]at h4;exact h4
    have As:0<=rows.getD s 0/\rows.getD s 0<(q:Int):=by
     have hm:rows.getD s 0∈rows:=b0q (by lia);exact uQ _ hm
    obtain⟨b0,b1⟩:=bound (rows.getD s 0) As.1 (by lia);obtain⟨d0,d1⟩:=bound s (by lia) (by lia);have AJ:e2 N0 (b7 8) (b7 10) (M0 ns sm la fi n k q xs rows [tab,.int s,rwD r,.int j,y',z',u'])=cz (.int (rows.getD s 0)):=by
     walk_at "evm";rw[bE]
    generalize Gd:rows.getD s 0=rr at As b0 b1 AJ
    let cell:Int:=xs.getD (3+(n:Int)+rr*k+j).toNat 0
    have mj:e2 N0 (b7 7) (e2 z7 (e2 z7 (e2 z7 (eC (.int 3)) (b7 4)) (e2 K9 (e2 N0 (b7 8) (b7 10)) (b7 5))) (b7 12)) (M0 ns sm la fi n k q xs rows [tab,.int s,rwD r,.int j,y',z',u'])=cz (.int cell):=by
     rw[v_2,v_2,v_2,v_2,v_2,AJ];walk_at "evm";rfl
    have DI:=dm cell (show (q:Int)≠0 by lia);have oP:=dZ cell (show (0:Int)<q by lia)
    let room:List Nat:=(aQ n).filter λ(t:Nat)=>decide (rows.getD t 0=cell % q)
    have vm:(n6 (iR (b7 4)) [6,8,13] pt1 (tB (e2 dEq (e2 N0 (b7 2) (b7 0)) (e2 C5 (b7 3) (b7 1)))) (b7 0)) (M0 ns sm la fi n k q xs rows [tab,.int s,rwD r,.int j,.int cell,z',u'])=cz (.list (room.map λ(t:Nat)=>aJ t)):=by
     refine b4Q (n:=n) (λ(t:Nat)=>decide (rows.getD t 0=cell % q)) (λt=>.int t) (by rw[a5R (n:=n) (by walk_at "evm") (by lia) (by lia)];rfl) (by lia) (λt ht=>⟨?_,λ_=>rfl⟩);show tB _ [.int t,.int q,.list (rows.map .int),.int cell]=_;walk_at "evm";rw[bE]
    have hl:0<room.length:=by
     obtain⟨t,ht⟩:=bJ.mp (uM (cell % q) DI oP);have wV:=(aO.mp ht).1;have:t∈room:=by
      show t∈(aQ n).filter _;rw[bx];refine⟨cg.mpr (by lia),aI ?_⟩;rw[aU,ht];rfl
     exact tU this
    let pick:Int:=xs.getD (3+(n:Int)+(n:Int)*k+(s:Int)*k+j).toNat 0
    have vq:e2 N0 (b7 7) (e2 z7 (e2 z7 (e2 z7 (e2 z7 (eC (.int 3)) (b7 4)) (e2 K9 (b7 4) (b7 5))) (e2 K9 (b7 10) (b7 5))) (b7 12)) (M0 ns sm la fi n k q xs rows [tab,.int s,rwD r,.int j,.int cell,.list (room.map λ(t:Nat)=>aJ t),u'])=cz (.int pick):=by
     walk_at "evm";rfl
    obtain⟨v,hv⟩:=b0z (cell / q) xs (by lia);have g0:=dm pick (show (room.length:Int)≠0 by lia);have g1:=dZ pick (show (0:Int)<room.length by lia);obtain⟨t,Di,qE,yj⟩:∃t:Int,0<=t/\t<(n:Int)/\L2.atI (room.map λ(t:Nat)=>aJ t) (pick % (room.length:Int))=cz (.int t):=by
     rw[a5a g0 (by rw[ah];exact g1),kh];have kj:room[(pick % (room.length:Int)).toNat]'(by lia)∈(aQ n).filter λ(t:Nat)=>decide (rows.getD t 0=cell % q):=cW _
     have:=cg.mp (bx.mp kj).1;exact⟨_,by lia,by lia,rfl⟩
    have hb:b3l (M0 ns sm la fi n k q xs rows [tab,.int s,rwD r,.int j,y',z',u'])=cz (.nx (M0 ns sm la fi n k q xs rows [tab,.int s,rwD (r++[(v,t)]),.int j,.int cell,.list (room.map λ(t:Nat)=>aJ t),.int pick])):=by
     unfold b3l;rw[A6,a2B,mj];show thn (cz (.nx (M0 ns sm la fi n k q xs rows [tab,.int s,rwD r,.int j,.int cell,z',u']))) _=_;rw[w6,A6,a2B,vm];show thn (cz (.nx (M0 ns sm la fi n k q xs rows [tab,.int s,rwD r,.int j,.int cell,.list (room.map λ(t:Nat)=>aJ t),u']))) _=_;rw[w6,A6,a2B,vq];show thn (cz (.nx (M0 ns sm la fi n k q xs rows [tab,.int s,rwD r,.int j,.int cell,.list (room.map λ(t:Nat)=>aJ t),.int pick]))) _=_;rw[w6];generalize Gp:cell=cc at hv;generalize Gf:pick=pp at yj;generalize Gg:room=oo at yj hl;walk_at "evm";rw[hv,yj];walk_at "evm";show a9w 11 (.list (r.map stD)) _ _=_;rw[N8 (by rw[ah];lia)];unfold rwD;rw[aM];rfl
    refine⟨_,_,rfl,hb,r++[(v,t)],_,_,_,_,by rw[aV,hr];rfl,?_,rfl⟩;intro p Dt;rcases az.mp Dt with z|z
    ·exact hp p z
    ·rw[ao.mp z];exact⟨Di,qE⟩)
  exact⟨r,x',y',z',u',h2,h3,h1⟩
 refine Q8 (R:=λo=>∃(m:l8) (k:Nat),o=cz (.list (m.map rwD))/\WF m k/\m.length<=Bd) (λU=>∃(m:l8) (a b c d e f:D),m.length=n/\(∀r∈m,r.length=k/\∀p∈r,0<=p.2/\p.2<(n:Int))/\U=(M0 ns sm la fi n k q xs rows [.list (m.map rwD),a,b,c,d,e,f])) ?_ ?_
 ·obtain⟨U',h1,m,a,b,c,d,e,f,h2,h3,rfl⟩:=E4 (n:=n) (set:=D0 10) (g:=b7Z)
   (U:=(M0 ns sm la fi n k q xs rows [.list [],.none,.none,.none,.none,.none,.none]))
   (λj U=>∃(m:l8) (a b c d e f:D),m.length=j/\(∀r∈m,r.length=k/\∀p∈r,0<=p.2/\p.2<(n:Int))/\U=(M0 ns sm la fi n k q xs rows [.list (m.map rwD),a,b,c,d,e,f]))
   ⟨[],_,_,_,_,_,_,rfl,λp hp=>(nomatch hp),rfl⟩ (by
    rintro j hj U ⟨m,a,b,c,d,e,f,h2,h3,rfl⟩;obtain⟨r,x',y',z',u',r1,r2,r3⟩:=row j hj (.list (m.map rwD)) c d e f;refine⟨_,(M0 ns sm la fi n k q xs rows [.list ((m++[r]).map rwD),.int j,rwD r,x',y',z',u']),rfl,?_,m++[r],_,_,_,_,_,_,by rw[aV,h2];rfl,?_,rfl⟩
    ·show b7Z (M0 ns sm la fi n k q xs rows [.list (m.map rwD),.int j,b,c,d,e,f])=_;unfold b7Z;rw[A6,a2B];show thn (cz (.nx (M0 ns sm la fi n k q xs rows [.list (m.map rwD),.int j,.list [],c,d,e,f]))) _=_;rw[w6,A6,r3,w6];walk_at "evm";rw[N8 (by rw[ah];lia)];walk_at "evm";rw[aM];rfl
    ·intro r' vn;rcases az.mp vn with z|z
     ·exact h3 r' z
     ·rw[ao.mp z];exact⟨r1,r2⟩)
  exact⟨_,h1,m,a,b,c,d,e,f,h2,h3,rfl⟩
 ·rintro U ⟨m,a,b,c,d,e,f,h2,h3,rfl⟩;walk_at "evm";exact⟨m,k,rfl,⟨by lia,by lia,k1,k5,λr hr=>(h3 r hr).1,λr hr p hp=>by rw[h2];exact (h3 r hr).2 p hp⟩,by lia⟩
end Prog
namespace VS
open PySem L2
def b8b{U:List D}(h:U.getD i .none=.tuple [t,.list bs])(he:fe U=cz d)(hl:bs.length<1000000):A5 i (.tp [.i,.l .f]) (pIx i (.tp [.i,.l .f]) o8 (eC (.int 1))) fe U=cz (.nx (U.set i (.tuple [t,.list (bs++[d])]))):=by
 have hp:pIx i (.tp [.i,.l .f]) o8 (eC (.int 1)) U=cz [1]:=by
  unfold pIx;show (a0C (.tp [.i,.l .f]) (U.getD i .none) []).bind _=_;rw[h];rfl
 unfold A5;rw[hp,bF,h];show (cz bs).bind _=_;rw[bF,he,bF,aG hl];rfl
end VS
namespace Prog
open PySem L2 VS
abbrev LV(ns:List Int)(m:l8)(S:List Int)(t:List D):List D:=.list (ns.map .int)::.list (m.map rwD)::.int m.length::iD S::.list (m.map rwD)::t
section
variable {m:l8}{k:Nat}
theorem b8c(w:WF m k)(h5:m.length<=7)(pV:nwS m k (sts m.length) d=[]):∀(n:Nat) {S:List Int},SetK m S->tb m k (d+n) S=p4->tb m k d S=p4
 |0,S,_,h=>h
 |n+1,S,hS,h=>by
  have h':(tb m k (d+n) S||(aQ k).any λa=>tst (tb m k (d+n)) m a S)=p4:=h;rcases xG.mp h' with q|q
  ·exact b8c w h5 pV n hS q
  ·obtain⟨a,ha,q⟩:=cX.mp q;have hk:=cg.mp ha;refine b4X pV ((Y7 h5).mpr hS) hk ?_;unfold tst at q ⊢;rw[aw]at q ⊢;exact⟨q.1,bj.mpr λs hs=>b8c w h5 pV n (SetK.prt w hS hk hs) (bj.mp q.2 s hs)⟩
end
def tlT(m:l8)(k:Nat)(S:List Int):D:=if tb m k 140 S then gT m k 121 (S.zip S) else .none
theorem KB.zip(hS:SetK m S)(h:tb m k 140 S=p4):KB m k (S.zip S) S:=⟨hS,λs=>by rw[L7],by rw[L7];exact hS.1.imp λz=>by lia,h⟩
theorem a8X:∀S:List Int,(S.zip S).map prS=S.map λs=>.tuple [.int s,.int s]
 |[]=>rfl
 |s::S=>by rw[dW,ay,ay,a8X S];rfl
abbrev b9N:EvS:=(g9 (l0 6 (eI (Z1 (b7 5)))) (g9 (l0 7 (eCl v5 (b8 (b7 4) (b8 (b7 6) c9)))) (g9 (sIf (C9 (tB (e2 dNe (b7 4) (b7 1))) (C9 (tB (e2 dNe (b7 6) (b7 5))) (tAn (tB (e2 (E9 rp) (b7 7) (eC .none))) (tB (e2 dEq (eCl v8 (b8 (b7 5) c9)) (eC (.int 1))))))) (l5 (eC (.bool rp))) m6) (g9 (sIf (tAn (tB (e2 (E9 p4) (b7 7) (eC .none))) (tNo (tV (eCl m_law_tells (b8 (b7 1) (b8 (b7 7) (b8 (b7 5) c9))))))) (l5 (eC (.bool rp))) m6) (g9 (l0 8 (eCl (m_law_shown 121) (b8 (b7 7) c9))) (g9 (sIf (tV (e1 (λd=>cz (.bool (p9 d))) (b7 7))) (A5 7 (.tp [.i,(.l .f)]) (pIx 7 (.tp [.i,(.l .f)]) o8 (eC (.int 1))) (B1 (b8 (eC (.int 0)) (b8 (eC (.int 0)) c9)))) m6) (sIf (tB (e2 dNe (eCl (m_law_shown 121) (b8 (eCl v5 (b8 (b7 4) (b8 (b7 6) c9))) c9)) (b7 8))) (l5 (eC (.bool rp))) m6)))))))
def tells_eq(w:WF m k)(h7:m.length<=7)(hS:SetK m S)(h:tb m k 140 S=p4)(hl:lev m k S<=120):m_law_tells [.list (m.map rwD),gT m k 121 (S.zip S),iD S]=cz (.bool p4):=by
 have ll:=SetK.len hS;have hb:=KB.zip hS h;have hP:Pl m k (S.zip S):=by
  unfold Pl sB;rw[hb.setEq];exact⟨hb,hl⟩
 have hz:(S.zip S).length<=7:=by rw[dh];lia
 obtain⟨x,y,z,u,v,g⟩:=b3j w (F0:=gT m k 121 (S.zip S)) (O0:=iD S) hP hz;unfold m_law_tells;rw[J0 (by simp[VS.argsOk])];unfold b_law_tells;walk_at "ev";rw[T9 (enc:=aJ) (xs:=S) (λs=>hJ [.int s,.int s]) (a3J (by rfl) (B7 _)) (by lia) λs _=>⟨_,rfl,rfl⟩,<-a8X];walk_at "ev";have g:whL (tB (e2 dNe (b7 3) (J4 c9))) (g9 (W6 4 5 (a5h 3)) (sIf (tB (e2 dEq (eCl v8 (b8 (b7 5) c9)) (eC (.int 1)))) (sIf (C9 (tNo (tV (eCl m_law_whole (b8 (b7 4) c9)))) (tB (e2 dNe (b7 4) (e2 B4 (e2 B4 (b7 5) (eC (.int 0))) (eC (.int 0)))))) (l5 (eC (.bool rp))) m6) (g9 (sIf (tNo (tV (eCl m_law_node (b8 (b7 4) (b8 (eCl v8 (b8 (e2 dIx (b7 0) (eC (.int 0))) c9)) c9))))) (l5 (eC (.bool rp))) m6) (g9 (l0 6 (eCl m_law_led (b8 (b7 0) (b8 (b7 5) (b8 (e2 dIx (b7 4) (eC (.int 0))) c9))))) (g9 (sIf (C9 (tB (e2 (E9 rp) (b7 6) (eC .none))) (tB (e2 dNe (n6 (iL (e2 dIx (b7 4) (eC (.int 1)))) [] pt2 tT (b7 0)) (u8 (b7 6))))) (l5 (eC (.bool rp))) m6) (D3 (iL (e2 dIx (b7 4) (eC (.int 1)))) (L3 7 8) (A5 3 (.l .f) o8 (B1 (b8 (b7 8) (b8 (e2 (O3 rp) (b7 6) (b7 7)) c9)))))))))) 1000000 [.list (m.map rwD),gT m k 121 (S.zip S),iD S,.list [.tuple [gT m k 121 (S.zip S),.list ((S.zip S).map prS)]],.none,.none,.none,.none,.none]=_:=g;rw[b9E,g];walk_at "ev"
def b5p(w:WF m k):SetK m ((aQ m.length).map λ(j:Nat)=>(j:Int)):=by
 have mV:=w.pos;refine⟨?_,λe=>?_,λs hs=>?_⟩
 ·exact ny.mpr (kC.imp λh=>by lia)
 ·have:=eE gz e;rw[ah,fw,List.length_nil]at this;lia
 ·obtain⟨j,hj,rfl⟩:=aR.mp hs;have:=cg.mp hj;lia
def law_true(ns:List Int)(_:ns.length<=63):m_law [.list (ns.map .int)]=cz (.bool p4):=by
 obtain⟨m,k,hm,w,h7⟩:=a8g ns 5 7 7 (by lia) (by lia) (by lia) (by lia) (by lia);have uj:m_law_machine [.list (ns.map .int),.int 5,.int 7]=cz (.list (m.map rwD)):=hm;obtain⟨xs,yg,o_,ug⟩:=a3y ns 4 (by lia);have yf:m_law_cells [.list (ns.map .int),.int 4]=cz (.list (xs.map .int)):=yg;have mV:=w.pos;have wO:=w.le;obtain⟨S,AE,hS⟩:=b5l (m:=m) w (c:=xs.getD 3 0*48271 % 1000000007) (dm _ (by decide));obtain⟨d,rq,pV,hd⟩:=a3M w h7;have st:∀{S:List Int},SetK m S->∀e,d<=e->tb m k e S=tb m k d S:=λ{S} hS e he=>by
  cases q:tb m k d S with
  |true=>exact a0X q he
  |false=>
   cases q2:tb m k e S with
   |false=>rfl
   |true=>
    rw[show e=d+(e-d) by lia]at q2;rw[b8c w h7 pV _ hS q2]at q;cases q
 have h4:∀{S:List Int},SetK m S->tb m k 140 S=p4->lev m k S<=120:=λ{S} hS h=>by
  rw[st hS 140 (by lia)]at h;have:=a5t h (by lia);lia
 have Al:∀S,SetK m S->o5 [.list (m.map rwD),iD S]=cz (tlT m k S):=λS hS=>by
  rw[a6M w h7 (by lia) rq hS];unfold tlT;have:S∈kdS m k (sts m.length) d↔tb m k 140 S=p4:=by
   rw[D7,st hS 140 (by lia)];exact⟨λz=>z.2,λz=>⟨(Y7 h7).mpr hS,z⟩⟩
  by_cases c:tb m k 140 S=p4
  ·rw[aG (this.mpr c),aG c]
  ·rw[aL λz=>c (this.mp z),aL c]
 have wU:∀S,SetK m S->v5 [.list (m.map rwD),iD S]=cz (tlT m k S):=λS hS=>by rw[a8c (by lia) hS,Al S hS]
 have wV:∀{S:List Int},SetK m S->(tlT m k S=.none/\S.length≠1)\/(isN (tlT m k S)=rp/\m_law_tells [.list (m.map rwD),tlT m k S,iD S]=cz (.bool p4)):=λ{S} hS=>by
  cases q:tb m k 140 S with
  |false=>
   refine .inl ⟨aL (by rw[q];exact aS),λz=>?_⟩;rw[a0X (d:=0) (aI z) (by lia)]at q;cases q
  |true=>
   have hT:tlT m k S=gT m k 121 (S.zip S):=aG q;rw[hT];refine .inr ⟨?_,tells_eq w h7 hS q (h4 hS q)⟩;by_cases c:S.length=1
   ·match S,c with
    |[s],_=>rfl
   ·obtain⟨e,a,he,ha,iB⟩:=a2m q (by lia) c;rw[show gT m k 121 (S.zip S)=_ from a1d (KB.zip hS q) c iB];rfl
 have wW:∀{S:List Int},SetK m S->∃t,m_law_shown 121 [tlT m k S]=cz t/\dNe t t=cz (.bool rp)/\dEq t t=cz (.bool p4):=λ{S} hS=>by
  cases q:tb m k 140 S with
  |false=>
   have hT:tlT m k S=.none:=aL (by rw[q];exact aS);rw[hT];exact⟨.none,rfl,rfl,rfl⟩
  |true=>
   have hT:tlT m k S=gT m k 121 (S.zip S):=aG q;have hl:=h4 hS q;obtain⟨t,z1,z2,z3⟩:=b3k w (KB.zip hS q) 121 121 (by lia) (by lia);rw[hT];exact⟨t,z1,a6x z2 (by lia),b5H z2 (by lia)⟩
 have Ex:∀{S:List Int},SetK m S->∀U:List D,U.getD 7 .none=tlT m k S->∃z,(sIf (tV (e1 (λd=>cz (.bool (p9 d))) (b7 7))) (A5 7 (.tp [.i,(.l .f)]) (pIx 7 (.tp [.i,(.l .f)]) o8 (eC (.int 1))) (B1 (b8 (eC (.int 0)) (b8 (eC (.int 0)) c9)))) m6) U=cz (.nx (U.set 7 z)):=λ{S} hS U hU=>by
  have oJ:∀z,U.getD 7 .none=z->U.set 7 z=U:=λz e=>by
   by_cases c:7<U.length
   ·refine set_same ?_;rw[<-e,aU,au c];rfl
   ·exact List.set_eq_of_length_le (by lia)
  have Dh:tV (e1 (λd=>cz (.bool (p9 d))) (b7 7)) U=cz (p9 (tlT m k S)):=by
   show ((cz (U.getD 7 .none)).bind λd=>cz (dE (p9 d))).bind tr=_;rw[hU];rfl
  rw[a5Q,Dh];cases q:tb m k 140 S with
  |false=>
   have hT:tlT m k S=.none:=aL (by rw[q];exact aS);refine⟨.none,?_⟩;rw[hT,oJ _ (by rw[hU,hT])];rfl
  |true=>
   have hT:tlT m k S=gT m k 121 (S.zip S):=aG q;by_cases c:S.length=1
   ·match S,c with
    |[s],_=>
     refine⟨.int s,?_⟩;rw[hT,oJ (.int s) (by rw[hU,hT];rfl)];rfl
   ·obtain⟨e,a,he,ha,iB⟩:=a2m q (by lia) c;have rC:=X1 (m:=m) (a:=a) (B:=S.zip S);have ll:=SetK.len hS;have F_:(S.zip S).length<=S.length:=by rw[dh];lia
    rw[a1d (KB.zip hS q) c iB]at hT;refine⟨.tuple [.int (a:Nat),.list (((srt (anL m a (S.zip S))).map λx=>.tuple [.int x,gT m k 120 (gp m a (S.zip S) x)])++[.tuple [.int 0,.int 0]])],?_⟩;rw[hT];show A5 7 _ _ _ U=_;rw[b8b (t:=.int (a:Nat)) (bs:=(srt (anL m a (S.zip S))).map λx=>.tuple [.int x,gT m k 120 (gp m a (S.zip S) x)]) (d:=.tuple [.int 0,.int 0]) (by rw[hU,hT]) rfl (by rw[ah,(o3 _).length_eq];lia)]
 have gC:dNe (.list (m.map rwD)) (.list (m.map rwD))=cz (.bool rp):=a6x (a6y m) (a2Y m);have heq:dEq (.list (m.map rwD)) (.list (m.map rwD))=cz (.bool p4):=b5H (a6y m) (a2Y m);have og:∀R:List Int,dNe (iD R) (iD R)=cz (.bool rp):=λR=>a6x (lay_ints R) (bV (a0h R) (by decide))
 have hR:=b5p w;generalize Ba:((aQ m.length).map λ(j:Nat)=>(j:Int))=R at hR;have yL:∀U:List D,U.getD 2 .none=.int m.length->P8 (b7 2) U=cz (iD R):=λU hU=>by rw[<-Ba];exact b5i (by show cz (U.getD 2 .none)=_;rw[hU]) (by lia)
 obtain⟨s0,S',rfl⟩:∃s0 S',S=s0::S':=by
  cases S with
  |nil=>exact absurd rfl hS.2.1
  |cons s0 S'=>exact⟨s0,S',rfl⟩
 have h1:SetK m [s0]:=⟨ia _ _,by simp,λt ht=>by rw[ao.mp ht];exact hS.2.2 s0 aj⟩;have iC:∀Q∈[s0::S',R,[s0]],SetK m Q:=λQ hQ=>by
  simp only[aC,cu,or_false]at hQ;rcases hQ with rfl|rfl|rfl<;>assumption
 generalize ED:s0::S'=S at hS AE iC;have main:=G7 (enc:=iD) (set:=D0 5) (g:=b9N) (xs:=[S,R,[s0]]) (U:=(LV ns m S [.none,.none,.none,.none,.none]))
  (λ_ U=>∃x y z u,U=(LV ns m S [x,y,z,u,.none])) ⟨_,_,_,_,rfl⟩ (by
   rintro pre Q post e U ⟨x,y,z,u,rfl⟩;have hQ:=iC Q (by rw[e];simp);obtain⟨t,qE,Ao,yk⟩:=wW hQ;have s1:l0 6 (eI (Z1 (b7 5))) (LV ns m S [iD Q,y,z,u,.none])=cz (.nx (LV ns m S [iD Q,iD Q,z,u,.none])):=by
    walk_at "ev";rw[b4I];walk_at "ev"
   have s2:l0 7 (eCl v5 (b8 (b7 4) (b8 (b7 6) c9))) (LV ns m S [iD Q,iD Q,z,u,.none])=cz (.nx (LV ns m S [iD Q,iD Q,tlT m k Q,u,.none])):=by
    walk_at "ev";rw[wU Q hQ];walk_at "ev"
   have hlen:v8 [iD Q]=cz (.int Q.length):=by show cz (aJ ((Q.map aJ).length:Nat))=_;rw[ah]
   have s3:(sIf (C9 (tB (e2 dNe (b7 4) (b7 1))) (C9 (tB (e2 dNe (b7 6) (b7 5))) (tAn (tB (e2 (E9 rp) (b7 7) (eC .none))) (tB (e2 dEq (eCl v8 (b8 (b7 5) c9)) (eC (.int 1))))))) (l5 (eC (.bool rp))) m6) (LV ns m S [iD Q,iD Q,tlT m k Q,u,.none])=cz (.nx (LV ns m S [iD Q,iD Q,tlT m k Q,u,.none])):=by
    rcases wV hQ with⟨z1,z2⟩|⟨z1,z2⟩
    ·have Au:decide ((Q.length:Int)=1)=rp:=aY (by lia);rw[z1]
     repeat (first|rw[gC]|rw[og]|rw[Au]|walk_at "ev")
    ·repeat (first|rw[gC]|rw[og]|rw[z1]|walk_at "ev")
   have s4:(sIf (tAn (tB (e2 (E9 p4) (b7 7) (eC .none))) (tNo (tV (eCl m_law_tells (b8 (b7 1) (b8 (b7 7) (b8 (b7 5) c9))))))) (l5 (eC (.bool rp))) m6) (LV ns m S [iD Q,iD Q,tlT m k Q,u,.none])=cz (.nx (LV ns m S [iD Q,iD Q,tlT m k Q,u,.none])):=by
    rcases wV hQ with⟨z1,z2⟩|⟨z1,z2⟩
    ·rw[z1];walk_at "ev"
    ·repeat (first|rw[z1]|rw[z2]|walk_at "ev")
   have s5:l0 8 (eCl (m_law_shown 121) (b8 (b7 7) c9)) (LV ns m S [iD Q,iD Q,tlT m k Q,u,.none])=cz (.nx (LV ns m S [iD Q,iD Q,tlT m k Q,t,.none])):=by
    walk_at "ev";rw[qE];walk_at "ev"
   obtain⟨z',s6⟩:=Ex hQ (LV ns m S [iD Q,iD Q,tlT m k Q,t,.none]) rfl;have s7:(sIf (tB (e2 dNe (eCl (m_law_shown 121) (b8 (eCl v5 (b8 (b7 4) (b8 (b7 6) c9))) c9)) (b7 8))) (l5 (eC (.bool rp))) m6) (LV ns m S [iD Q,iD Q,z',t,.none])=cz (.nx (LV ns m S [iD Q,iD Q,z',t,.none])):=by
    repeat (first|rw[wU Q hQ]|rw[qE]|rw[Ao]|walk_at "ev")
   refine⟨(LV ns m S [iD Q,y,z,u,.none]),(LV ns m S [iD Q,iD Q,z',t,.none]),rfl,?_,_,_,_,_,rfl⟩;unfold b9N;rw[A6,s1,w6,A6,s2,w6,A6,s3,w6,A6,s4,w6,A6,s5,w6,A6,s6,w6];exact s7)
 obtain⟨U',g1,x,y,z,u,rfl⟩:=main;have g1:N5 (D0 5) (g9 (l0 6 (eI (Z1 (b7 5)))) (g9 (l0 7 (eCl v5 (b8 (b7 4) (b8 (b7 6) c9)))) (g9 (sIf (C9 (tB (e2 dNe (b7 4) (b7 1))) (C9 (tB (e2 dNe (b7 6) (b7 5))) (tAn (tB (e2 (E9 rp) (b7 7) (eC .none))) (tB (e2 dEq (eCl v8 (b8 (b7 5) c9)) (eC (.int 1))))))) (l5 (eC (.bool rp))) m6) (g9 (sIf (tAn (tB (e2 (E9 p4) (b7 7) (eC .none))) (tNo (tV (eCl m_law_tells (b8 (b7 1) (b8 (b7 7) (b8 (b7 5) c9))))))) (l5 (eC (.bool rp))) m6) (g9 (l0 8 (eCl (m_law_shown 121) (b8 (b7 7) c9))) (g9 (sIf (tV (e1 (λd=>cz (.bool (p9 d))) (b7 7))) (A5 7 (.tp [.i,(.l .f)]) (pIx 7 (.tp [.i,(.l .f)]) o8 (eC (.int 1))) (B1 (b8 (eC (.int 0)) (b8 (eC (.int 0)) c9)))) m6) (sIf (tB (e2 dNe (eCl (m_law_shown 121) (b8 (eCl v5 (b8 (b7 4) (b8 (b7 6) c9))) c9)) (b7 8))) (l5 (eC (.bool rp))) m6))))))) [iD S,iD R,.list [.int s0]] (LV ns m S [.none,.none,.none,.none,.none])=_:=g1;have Dk:L2.atI (S.map aJ) 0=cz (.int s0):=by rw[<-ED];exact a8U (j:=0) (by simp)
 obtain⟨t,qE,Ao,yk⟩:=wW hR;have Ey:L2.atI (xs.map aJ) 3=cz (.int (xs.getD 3 0)):=a8U (j:=3) (by lia);have vf:a3b [.list (m.map rwD)]=cz (tlT m k R):=by rw[b5m h7,Ba];exact Al R hR
 unfold m_law;rw[J0 (by simp[VS.argsOk])];unfold b_law
 repeat (first|rw[uj]|rw[yf]|rw[Ey]|rw[a0e (i:=xs.getD 3 0) (j:=48271) (by decide)]|rw[AE]|rw[b7K (m:=m) (by walk_at "ev") (by lia)]|rw[yL _ rfl]|rw[Dk]|rw[g1]|rw[vf]|walk_at "ev")
 rcases wV hR with⟨z1,z2⟩|⟨z1,z2⟩
 ·rw[z1]at qE
  repeat (first|rw[z1]|rw[qE]|rw[yL _ rfl]|rw[wU R hR]|rw[yk]|rw[heq]|walk_at "ev")
 ·repeat (first|rw[z1]|rw[yL _ rfl]|rw[z2]|rw[qE]|rw[wU R hR]|rw[yk]|rw[heq]|walk_at "ev")
def b8d{l:oS}{w:bO}{K:af}{mg:bH->Option ai}{fa:av}(yW:mg "law"=cz (.ref fa))(b:Bn K mg)(lU:(C3 K "least_asks").isSome=p4)
  : ∃fd:dB,(∀(s:ar) (v:ai),nK s fd ⟨[v],[]⟩ [("_law_script",v)])/\∀base:bR,K.In base->base.Ns bL mg->FnOk l.prog w K mg base CX0 126 fa fd ["_law_script"] (spD K 1 m_law .i):=b7x yW b.d30 λbase KB GB fd F=>by
 have B:Bk l.prog w K mg base:=⟨b⟩;have iG:=ok_law_cell_at B;have fJ:=ok_law_cells B iG.u;have iU:=ok_law_copied B;have iV:=ok_law_answer B;have iF:=ok_law_machine B fJ.u iU.u iV.u;have kq:=ok_law_set B;have dN:=a0i B;have ko:=a7U B;have kP:=a1s B;have fR:=a0Q B;have gn:=a0j B fR.u;have ku:=a7V B;have gc:=a5l B;have iE:=a2Z B ku.u gc.u;have iT:=a3K B ko.u gn.u iE.u kP.u lU KB GB;have jZ:=b2O B gc.u 121;have fB:=a3a B iT.u jZ.u;have iW:=a3L B;have nW:=b4P B dN.u fB.u iW.u;have gZ:=a1t B;have jO:=a6z B;have jP:=a6A B jO.u;have lF:=b0p B gZ.u jP.u;have jM:=a6D B lF.u;have iN:=a7W B dN.u fB.u jM.u;have eZ:=ok_law_shown B 121;have kr:=ok_law_led B;have fI:=ok_law_whole B;have jN:=ok_law_node B fI.u;have iy:=ok_law_tells B kr.u fI.u jN.u;exact ok_law B fJ.u iF.u kq.u nW.u iN.u eZ.u iy.u F
end Prog
namespace PySem.W.Fast
def tw3519574582664510688:=0
def tw2076561652268040172:=0
def tw12723569460871037398:=0
def tw9229204022369148604:=0
def tw14684532847312957356:=0
def tw1910979045271671569:=0
def tw15674497110197595439:=0
def tw7758588125411785871:=0
def tw15986927095058434674:=0
def tw11739810078084039131:=0
def tw8662121507176648656:=0
def tw15731237130666091416:=0
def tw8682780432175857033:=0
def tw2991512836021023689:=0
def tw12654005998591811295:=0
def tw13813332623345982348:=0
def tw4425656341934352042:=0
def tw10576781484037740069:=0
def tw2638307906677465290:=0
def tw17050708429288528546:=0
def tw11344176286163675339:=0
def tw17159989218837951637:=0
def tw2899091627597788636:=0
def tw7234366458084958315:=0
def tw2586565742000217089:=0
def tw14310481711032867712:=0
def tw12500736638645496777:=0
def tw4139456988020342087:=0
def tw18194084091083815779:=0
def tw179926452704308804:=0
def tw6411652357927928585:=0
def tw73724493908087984:=0
def tw15263952721326531420:=0
def tw8096042318085173859:=0
def tw17593992700477271231:=0
def tw15668016808276177109:=0
def tw6867859963330913980:=0
def tw13255919729997112791:=0
def tw14236087758236861052:=0
def tw12672692272543567306:=0
def tw12702062300780764352:=0
def tw7009340851973254420:=0
def tw11320146590238023130:=0
def tw13436265170207614903:=0
def tw15776707033181597894:=0
def tw555384701679085813:=0
def tw391271325548405274:=0
def tw12358126247998241514:=0
def tw10612936827489175125:=0
def tw97155750716721950:=0
def tw13727593461982207570:=0
def tw16109070293777332341:=0
def tw1922045949319811555:=0
def tw9139057992387116501:=0
def tw5601305571616198888:=0
def tw6415925005144730014:=0
def tw4642297862299456598:=0
def tw5876422885230742796:=0
def tw4441884105409514490:=0
def tw10203697902080417141:=0
def tw13691285616159981730:=0
def tw5316732460860438908:=0
def tw13805560980363415788:=0
def tw8880466300288942868:=0
def tw7820996764222343383:=0
def tw15299307961752299788:=0
def tw8786157127678461538:=0
def tw13271939660411192981:=0
def tw11404248854691658997:=0
def tw10247232266822792217:=0
def tw12729716360685337231:=0
def tw1162836418665640998:=0
def tw7158434184670039855:=0
def tw10980980548871496708:=0
def tw3800265846750914942:=0
def tw15680153991538091536:=0
def tw13422617674853419351:=0
def tw1656539645704324399:=0
def tw15889728541807319177:=0
def tw13051600122144531434:=0
def tw14293227360979736532:=0
def tw11947924926895208282:=0
def tw15796171714735123002:=0
def tw1701385701352126807:=0
def tw9577420359267190643:=0
def tw8776651469388687717:=0
def tw5273515403756605083:=0
def tw165145725557234506:=0
def tw11303403821361378835:=0
def tw3089470113504580775:=0
def tw2249602929645320513:=0
def tw6176043739525402176:=0
def tw10967366774820708612:=0
def tw5840604946968541502:=0
def tw14168154885763952966:=0
def tw2643936673098094462:=0
def tw9542996856663834183:=0
def tw3228544658161913193:=0
def tw14660242562999335021:=0
end PySem.W.Fast
end
open PySem PySem.W PyProof.Rows
set_option maxRecDepth 100000 in
set_option maxHeartbeats 0 in
theorem PySem.Challenge.cw_probewell_k43_branches_of_a_tree_holds : PySem.Challenge.rw_probewell_k43_branches_of_a_tree.Holds := by
 w_on;o_law;k_head;(case hw=>w_witness2)
 k_fill
 refine VS.a9v (k:=126) (x:="_law_script") (m:=Prog.m_law) (l:=PySem.Challenge.rw_probewell_k43_branches_of_a_tree) rfl rfl ⟨rfl,by decide,by decide⟩ (fun w h xn=>by first|exact PySem.W.kIn_of xn|exact PySem.W.km_in_of xn) (fun w=>by kernel_rfl) ?F Prog.law_true
 case F=>
  intro w mg fa h KX G hmg
  refine' Prog.b8d hmg ?b ?_
  case b=>
   constructor
   iterate 31 (refine' VS.b9i KX G ?a ?l ?c ?k;(case a=>k_is);(case l=>k_is);(case c=>k_is);(case k=>k_is))
   iterate 13 (refine' PySem.W.mg_none_of KX G ?_;k_is)
   iterate 1 (refine' VS.c0D KX G ?a;(case a=>k_is))
  kernel_rfl
