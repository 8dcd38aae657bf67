import PyProof.Rows.All
import Wide.All
import OpenK.AllK
import Wide.FinOn
import Lean
import PyProof.EqAt
import PyProof.EqKinds
import PyProof.TupleCall
import KE.KLam
import PyProof.WalksEnum
import PyProof.EnumMake
import PyProof.Rows.SortWalk
import PyProof.Rows.SetFrom
import PyProof.SetRoads
import PyProof.DictTable
import PyProof.ListRange
import PyProof.DictWalks
import PyProof.DictUpdate
import KE.KSortTup
import KE.KDictSum
import KE.KSortKey
import KE.KDictOf
import PyProof.DictItemsLoops
import KE.KPairComp
import PyProof.ZipIter
import PyProof.Draws
import PyProof.IsiBase
import PyProof.AttrMiss
import KE.KDictList
import PyProof.TupleOfGen
import PySem.Challenge.RW_probewell_k44_least_depths
set_option Elab.async false
set_option linter.all false
set_option maxRecDepth 100000
set_option compiler.extract_closed false
set_option bootstrap.genMatcherCode false
noncomputable section
open Option renaming some->cz,none->el
open Bool renaming true->p4,false->rp
open PySem renaming wpAny_bind->ab,wpAny_pure->ae,Value->aj,Shared->ar,Addr->aw,starEach->ax,wpAny->aD,sizeLine->aV,model->aX,PyData->bh,Program->bz,wpAny_call_entry->bB,Str->bC,Around->bD,wpAny_callSpecial?_slot->bH,World->bI,compareOp->bJ,wpAny_holding->bL,mainGlobals->bM,Heap->bQ,mem_of_lookup->bX,eval->cn,backTo->cx,wpAny_dictEntries->cC,wpAny_field->cQ,sizeLine_eq->cR,cLine->cS,sysModules->cU,intKind->cX,attributeBase->cY,rawInt->de,wpAny_mono->dg,wpAny_newObj_type->dh,wpAny_specialOf->dy,FuncData->dD,wpAny_truthy_bool->dG,wpAny_seqItems->dI,codeAny_builtin->dN,wpAny_rule->dR,wpAny_ite_split->ee,behindInMarks->eK,wpAny_setField->eN,binaryOp->eO,Pos->eS,foldedSetIterable->eW,DictEntry->eX,Paired->eZ,plainId_quiet->fw,wpAny_isInstance->fA,swapsWith->fB,wpAny_setField_rec->fE,wpAny_Call_Name_kw->fF,wpAny_notOrdered_dict->fI,Obj->fM,codeAny_mono->fP,pyNext->fT,wpAny_typeNameOfWhole_keyiter->gf,Scope->gh,bootBuiltins->gn,Keyword->gu,wpAny_passesOwn->gx,SetTable->gB,wpAny_attempt->gG,wpAny_setState_of->gK,codeAny->gL,wpAny_typeOf->hU,Stmt->hZ,numAt->ib,wpAny_setEntries_of->ij,wpAny_typeNameOf_keyiter->ir,assignEach->iB,wpAny_Call_method0_late->iC,keywordEach->iF,wpAny_fieldsOf->iY,firstArgMember->iZ,ReadsAll->i_,NameKind->ja,builtinLookup_eq_fast->jn,evalArgs_none->jo,scanBound->ju,IsPair->jz,sliceBounds->jA,wpAny_updateSeq->jN,wpAny_dictEpoch->jO,hashInt->j_,TriplesOk->km,builtinsNs->kr,fits_of_scanBound->kX,dictSetHashed->ll,pickOrder->lI,codeAmong->lR,backToKw->lS,Walks->lV,Arguments->lZ,wpAny_load->ma,relabel->md,wpAny_execs_nil->mr,typeLookup_type->mv,letOwnedTupleGo->mw,wpAny_updateDictKeys->mZ,wpAny_runValue->m_,wpAny_letGo->nc,relayAll->nh,isSubtype_type->ni,IsZip->nR,holding->nU,callerA->nW,PassesOwn->nX,BindsTo->nY,field->oG,Env->oM,wpAny_pyIter_tuple->oO,typeLookup->oP,intKind_is->oV,closureFor->pd,call_meets->pf,assign->pq,wpAny_pyIter_slot->pO,wpAny_pyIter_list->pP,intItems->pS,getItem->qM,bindArgs->qO,wpAny_askSetting->rB,updateSeq->rC,pyIter->rG,noFill_tuple_add->rH,isTrue->rJ,wpAny_of_eq->sC,unsupported->sF,subscripted->sG,wpAny_ret_mkInt->tw,setNext->uC,argBest->uW,wpAny_newTuple->vf,wpAny_call->vg,truthy->vk,slotArgs->vp,isSubtype_stop->vC,entryFor_alias->wW,entryFor->wX,dictSetDefault->xa,callType_codes->xi,wpAny_pendingCount_other->ym,wpAny_onRaise->yo,wpAny_handled->yp,wpAny_comprehension_free->yq,seq_tuple_add->yt,call->Ao,wpAny_callSpecial?_none->Ay,seqItems?->AE,lastMarks->AU,bindL->Cg,bindC->Ci,wpAny_Call_method_late->CC,newExc->Dm,dictSet->FW,dictGet->FX,concat_meets->FY,call_meetsIn->F_,Result->Gd,wpAny_isOneOf_keyiter->Gv
open PySem.W renaming Frag->af,kia_one->cO,kitOne->eA,kla_obj->eL,keepIn->fR,fnOf->fV,CodeHd->gC,nsIn->gH,envX->jy,findIn->jH,mg_of->kh,codeIn->lW,methodObj->nI,kitx_list->nJ,kitx_dict->nK,instObj->pw,OpenLaw->pA,lookIn->qR,cellsFrom_some->uu,kitx_tuple->Ap,callWith_K->Aq,specialIn->Cm,plainGet->Ge
open PySem.Heap renaming get?_push_of_some->ag,get?_push_size->aH,lt_size->aI,get?_update_self->bS,SameBut->cD,size_push->cM,get?_update_other->dC,ExtBut->tm
open List renaming mem_cons_self->ah,mem_cons_of_mem->ai,getElem?_eq_getElem->ao,mem_singleton->aq,length_map->au,map_cons->av,mem_append_right->ay,mem_cons->az,mem_append->aB,mem_append_left->aJ,getD_eq_getElem?_getD->aN,mem_map->aO,range->aQ,replicate->aR,all_eq_true->aT,getElem?_eq_some_iff->aU,map_append->aW,getElem?_map->a_,length_append->ba,nodup_append->bb,length_cons->be,mem_filter->bg,count_append->bj,mem_of_getElem?->bo,cons_append->bp,size_toArray->br,nodup_cons->bt,nodup_nil->bu,mem_map_of_mem->bw,append_assoc->bx,mem_iff_getElem?->bE,map_map->bF,append_nil->bK,mem_range->bO,map_congr_left->bY,nil_append->b_,any_eq_false->cu,map_nil->cB,not_mem_nil->cG,getElem_mem->cH,nodup_iff_count->cJ,any_eq_true->cP,length_zip->cZ,count_cons->c_,count_pos_iff->dm,count_eq_zero->dH,getElem?_eq_none->dW,zip_cons_cons->dX,mem_filterMap->dY,length_take->dZ,sum_cons->eh,mem_iff_getElem->eB,length->eD,length_range->eE,length_eq_zero_iff->eF,filter_cons_of_pos->eH,filter_cons_of_neg->eJ,getElem?_append_right->ff,find?_eq_none->fg,length_filter_le->fq,drop_eq_getElem_cons->fC,of_mem_zip->fD,getElem?_set_ne->fH,lookup_cons->fS,filter_append->fW,find?_cons->fZ,length_replicate->gd,perm_ext_iff_of_nodup->gE,count_cons_self->gF,getElem_map->gJ,getElem?_zip_eq_some->gM,getElem?_append_left->gN,replicate_zero->gR,find?_range_eq_some->gZ,findIdx?_eq_some_iff_getElem->iq,getElem?_set_self->iu,forIn_cons->jh,replicate_succ->jq,set_cons_succ->jI,pairwise_cons->jJ,forIn_nil->jK,mem_of_find?_eq_some->jR,sublist_append_left->kj,take_length->kB,mem_reverse->kC,drop_length->kD,map_id'->kS,zip_append->kY,pairwise_append->lX,getElem?_range->mn,filterMap_cons->mo,any_cons->mE,set_cons_zero->mU,take_succ_eq_append_getElem->nM,reverse_cons->nN,pairwise_map->nO,ext_getElem?->nQ,foldl_cons->pD,find?_some->pE,exists_mem_of_ne_nil->rA,set_comm->sv,getElem?_replicate->s_,pairwise_lt_range->uv,length_pos_of_mem->uw,filter_eq_nil_iff->ux,length_singleton->uX,getElem?_toArray->uY,getElem?_reverse->uZ,contains_iff_mem->u_,length_eraseIdx->xp,map_eq_nil_iff->yc,length_reverse->yd,length_pos_iff->ye,getElem_range->As,zip_nil_left->Cn,getElem_take->Co,foldl_append->Cp,flatMap_cons->Cq,find?_isSome->Cr,filter_congr->Cs,zipIdx_cons->Gi,range'_succ->Gj,mem_flatMap->Gk,map_reverse->Gm,map_fst_zip->Gn,length_drop->Gp,filter_cons->Gq,zipIdx_nil->Hr,filter_nil->Hs,filter_map->Ht
open Bool renaming and_eq_true->ak,false_ne_true->aY,false_eq_true->cW,and_true->dE,true_and->dO,eq_iff_iff->eM,and_self->hJ,beq_eq_decide_eq->iM,or_eq_true->ji,not_eq_true'->jX,not_true->kl,and_false->qV,false_or->sA,or_eq_true_iff->yi
open PySem.PyData renaming eqv->aC,int->aF,canLayAll0->aM,depthAll->bV,eqvAll->cy,canLay0->cL,bool->dw,tuple->dB,depth->dU,list->gi,none->iK
open Nat renaming le_refl->aE,ne_of_lt->bc,lt_of_lt_of_le->bA,le_trans->cA,zero_le->cI,lt_irrefl->dt,le_of_lt->dP,ne_of_gt->ef,lt_trans->fG,lt_succ_of_lt->gj,le_succ->gD,lt_or_ge->gI,lt_of_le_of_lt->h_,lt_succ_self->kA,min_self->kP,add_assoc->mD,le_add_right->ox,min_le_left->pB,le_antisymm->pC,min_le_right->Gh,strongRecOn->Hq
open Option.some renaming inj->aK,injEq->nL
open PySem.Value renaming ref->aZ,none->cj,type->dS,int->iJ,bool->jx,isInt->jF,isInt_shape->qP,str->si,builtin->An
open Array renaming getElem?_eq_getElem->bG,getElem?_toList->bZ,length_toList->cg,mem_toList_iff->dM,getElem?_eq_none->eU,getD_eq_getD_getElem?->eV,toArray_toList->jc,forIn_toList->mV,toList_push->Cv
open PySem.PassesOwn renaming never->bN
open PySem.Heap.SameBut renaming update->bP
open Or renaming inl->bR,inr->bT
open Int renaming toNat_natCast->bU,emod_nonneg->dF,emod_lt_of_pos->d_,toNat_of_nonneg->jr,natCast_mul->kZ,le_refl->oK,natCast_add->pF
open PySem.Builtin.SmallTypes renaming ownedTupleIsFree->bW,nextOf->cm,ownedTupleHandOut->oy
open PySem.Str renaming ofString->cf
open Option renaming bind_some->cF,map_eq_some_iff->cV,isSome_iff_exists->fL,bind_eq_some_iff->sZ,getD_some->Gf,getD_none->Gg,map_some->Ho
open False renaming elim->cK
open PySem.Paired renaming length->cN
open PySem.Around renaming under_plainId->dc
open PySem.Builtin.List renaming listExtendWith->dq,listLengthHint->gO,listSameRef->ix,listTooLong->lC,listItems->Gu
open Ne renaming symm->dA
open PyProof.Rows renaming step_dedup->dJ,callWith_type1->eR,envOfC->jl,firstMet->lA,entry_proto_collect'->mY,entry_list_iadd'->oJ,AllBare->oN,sortedHeap_old->pM,list_sort_tree->pN,sortedHeap_at->qT,SortKind->rj,seqObj->uD,IntsAre->xj
open ForInStep renaming yield->dQ
open PySem.Builtin.Tuple renaming tupleHashOf->ei
open PySem.SetTable renaming below->eQ,grown->gU
open PySem.Builtin.Dict renaming updateFrom->eY,mergeDict->jb,showsAll->jt,selfAndRest->lD,entriesForEmpty->uA,readDirectly->yg,pendingCount->yh,addKeywords->Av
open PySem.F renaming slot_dict_keyiterator_next->e_,slot_dict_values->gW,slot_tuple_iterator_next->g_,called_set->ia,plain_list_iadd->ic,plainAttrs_list->ie,plainAttrs_dict->ig,slot_dict_len->iz,args_tuple_add_2->ki,entry_tuple_add->kz,slot_tuple_add->kN,slot_tuple_hash->k_,slot_zip_getattribute->lY,slot_zip_next->mG,plain_proto_collect->pL,args_dict_values_1->qS,slot_list_reverse->rl,slot_dict_getitem->ro,plain_extend_loop->rq,entry_dict_values->rz,type_dict_values->sk,slot_dict_update->so,slot_dict_iter->sx,args_dict_keyiterator_next_1->sy,slot_list_index->sX,slot_dict_items->sY,entry_dict_keyiterator_next->tu,args_tuple_iterator_next_1->uy,entry_tuple_iterator_next->vb
open PySem.Calls renaming callWith_builtin->fu,call_function_entry->kT,evalArgs_plain->nS,Name_function_global->xr
open PySem.NameKind renaming free->fy
open PySem.Obj renaming data_mapFields->gq,mapSeq->gX,data_mapDictKeys->gY,isFreed_of_dict->ip,isFreed_of_fields->mT,cls_mapFields->qU,data_mapDict->sr,putSet->xo,mapFields->Ar
open PyProof.Rows.F renaming plain_set_update_loop->gQ,entry_set_update_loop->ml
open List.Perm renaming refl->iw,append_left->va
open True renaming intro->jG
open List.Sublist renaming refl->jV
open List.Pairwise renaming nil->jW,of_map->xq,map->Ct
open PUnit renaming unit->kO
open PySem.Shared renaming TypeIs->ly
open Sum renaming inr->nG,inl->nH
open PySem.SeqAt.ReadsAll renaming length->oI
open PySem.SetTable.below renaming go->qQ
open PySem.SeqAt renaming eqAt_reads->sj
open PySem.Builtin.Dict_items renaming ownsTuple->uz
open Prod renaming fst->xm
open PySem.pickOrder renaming go->Df
open List.cons renaming injEq->Hu
def aA:=@decide_eq_true
def aG:=@if_pos
def aL:=@if_neg
def aP:=@of_decide_eq_true
def aS:=@decide_eq_false
def df:=@decide_eq_true_eq
def du:=@congrArg
def fO:=@if_false
def fQ:=@beq_self_eq_true
def gP:=@beq_eq_false_iff_ne
def iX:=@if_true
def kI:=@beq_iff_eq
namespace L2
open PySem PySem.Spec PyProof.Rows
abbrev Key:=Sum Int bC
def b6i:Key->aj->Bool
  |.inl k,v=>jF k v
  |.inr x,v=>aj.isStrOf x v
def c0R(w:bI):Key->Int
  |.inl k=>j_ k
  |.inr x=>hashStr w x
def v8:∀{k:Key} {v:aj},b6i k v=p4->(∃i t,k=nH i/\v=iJ i t)\/(∃x t,k=nG x/\v=si x t)
  |.inl i,v,h=>by
    obtain⟨t,e⟩:=qP (k:=i) (v:=v) h;exact .inl ⟨i,t,rfl,e⟩
  |.inr x,v,h=>by
    obtain⟨t,e⟩:=aj.isStrOf_shape (x:=x) (v:=v) h;exact .inr ⟨x,t,rfl,e⟩
def b6H(a b:Int):decide ((nH a:Key)=nH b)=(a==b):=by
  by_cases e:a=b
  · subst e;simp
  · have h:¬ (nH a:Key)=nH b:=λq=>e (nH.inj q)
    rw[aS h];exact (gP.mpr e).symm
def b6I(a b:bC):decide ((nG a:Key)=nG b)=decide (a=b):=by
  by_cases e:a=b
  · subst e;simp
  · have h:¬ (nG a:Key)=nG b:=λq=>e (nG.inj q)
    rw[aS h,aS e]
def b6J(a:Int)(b:bC):decide ((nH a:Key)=nG b)=rp:=aS (λq=>nomatch q)
def b6K(a:bC)(b:Int):decide ((nG a:Key)=nH b)=rp:=aS (λq=>nomatch q)
def a4V(prog:bz)(w:bI):PySem.KeyKind prog w Key where
  is:=b6i
  hash:=c0R w
  inj:=λv a b ha hb=>by
    rcases v8 ha with⟨i,t,rfl,rfl⟩|⟨x,t,rfl,rfl⟩
    · rcases v8 hb with⟨j,u,rfl,e⟩|⟨y,u,rfl,e⟩
      · injection e with e1 _;rw[e1]
      · exact nomatch e
    · rcases v8 hb with⟨j,u,rfl,e⟩|⟨y,u,rfl,e⟩
      · exact nomatch e
      · injection e with e1 _;rw[e1]
  byValue:=λk v h=>by
    rcases v8 h with⟨i,t,rfl,rfl⟩|⟨x,t,rfl,rfl⟩<;>rfl
  pyHash:=λhv h=>by
    rcases v8 hv with⟨i,t,rfl,rfl⟩|⟨x,t,rfl,rfl⟩
    · exact wpAny_pyHash_int h
    · exact wpAny_pyHash_str h
  eqBool:=λhu hv h=>by
    rcases v8 hu with⟨i,t,rfl,rfl⟩|⟨x,t,rfl,rfl⟩
    · rcases v8 hv with⟨j,u,rfl,rfl⟩|⟨y,u,rfl,rfl⟩
      · rw[b6H]at h;exact wpAny_eqBool_int h
      · rw[b6J]at h;exact SeqAt.EqAt.int_str i t y u _ _ _ _ h
    · rcases v8 hv with⟨j,u,rfl,rfl⟩|⟨y,u,rfl,rfl⟩
      · rw[b6K]at h;exact SeqAt.EqAt.str_int x t j u _ _ _ _ h
      · rw[b6I]at h;exact wpAny_eqBool_str h
  «strs»:=λk x t v h=>by
    rcases v8 h with⟨i,u,rfl,e⟩|⟨y,u,rfl,e⟩
    · exact nomatch e
    · injection e with e1 _
      subst e1;cases v<;>rfl
inductive V where
  |non|bl (b:Bool)|int (i:Int)|str (x:bC)|byt (b:Array UInt8)|flt (b:UInt64)|ref (a:aw)|ty (n:String)
  deriving DecidableEq
def RelV:V->aj->Prop
  |.non,u=>u=cj
  |.bl b,u=>u=jx b
  |.int i,u=>∃t,u=iJ i t
  |.str x,u=>∃t,u=si x t
  |.byt b,u=>∃t,u=aj.bytes b t
  |.flt b,u=>∃t,u=aj.float b t
  |.ref a,u=>u=aZ a
  |.ty n,u=>u=dS n
abbrev Vals:List V->List aj->Prop:=eZ RelV
theorem Vals.length{xs:List V}{us:List aj}(r:Vals xs us):xs.length=us.length:=cN r
theorem Vals.get:∀{xs:List V} {us:List aj} {i:Nat} {x:V},Vals xs us->xs[i]?=cz x->∃u,us[i]?=cz u/\RelV x u
  |_,_,_,_,.nil,e=>by simp at e
  |_,_,0,_,.cons r _,e=>by simp at e;subst e;exact⟨_,rfl,r⟩
  |_,_,i+1,x,.cons _ t,e=>by
    obtain⟨u,h1,h2⟩:=Vals.get (i:=i) (x:=x) t (by simpa using e);exact⟨u,by simpa using h1,h2⟩
theorem Vals.append:∀{xs ys:List V} {us ws:List aj},Vals xs us->Vals ys ws->Vals (xs++ys) (us++ws)
  |_,_,_,_,.nil,s=>s
  |_,_,_,_,.cons r t,s=>.cons r (Vals.append t s)
theorem Vals.take:∀{xs:List V} {us:List aj} (n:Nat),Vals xs us->Vals (xs.take n) (us.take n)
  |_,_,0,_=>.nil
  |_,_,_+1,.nil=>.nil
  |_,_,n+1,.cons r t=>.cons r (Vals.take n t)
theorem Vals.drop:∀{xs:List V} {us:List aj} (n:Nat),Vals xs us->Vals (xs.drop n) (us.drop n)
  |_,_,0,r=>r
  |_,_,_+1,.nil=>.nil
  |_,_,n+1,.cons _ t=>Vals.drop n t
def b6L:Option V->Option aj->Prop
  |some v,cz u=>RelV v u
  |none,el=>True
  |_,_=>False
def KV{κ:Type}:List (κ×V)->List (κ×aj)->Prop:=eZ λ(p:κ×V) (q:κ×aj)=>p.1=q.1/\RelV p.2 q.2
def kV:Key->V
  |.inl i=>.int i
  |.inr x=>.str x
inductive HO where
  |lst (xs:List V)
  |tup (xs:List V)
  |dK (kvs:List (Key×V))|dT (kvs:List (List Key×V))
  |set (S:Int->Bool) (n:Nat)
  |ins (C dx:aw) (fs:List (bC×V))
  |own (x:aw)
  |xd (fs:List (bC×V))
  |met (f x:aw)
  |rng (lo hi:Int)
  |frz (o:fM) (u:HO)
  |tbl (ps:Array aj)
  |ext (φ:bQ->Prop)
abbrev Hp:=aw->Option HO
def upd(H:Hp)(a:aw)(o:HO):Hp:=λb=>if b=a then cz o else H b
def i7{H:Hp}{a:aw}{o:HO}:upd H a o a=cz o:=by unfold upd;rw[aG rfl]
def f8{H:Hp}{a b:aw}{o:HO}(h:b≠a):upd H a o b=H b:=by unfold upd;rw[aL h]
def b4f:upd (upd H a o) a u=upd H a u:=by
  funext b;unfold upd;split<;>rfl
def o3{H:Hp}{a b:aw}{o:HO}(h:H a=cz o)(h':H b=el):a≠b:=by
  intro e;subst e;rw[h]at h';cases h'
def Pin(a:aw):HO->Prop
  |.tup _=>True
  |.frz _ (.own b)=>b=a
  |_=>False
abbrev b9c(a:aw):={u:HO // Pin a u}
def a5T(H:Hp)(h:bQ)(a:aw)(qs:Array aj):Prop:=
  ∃ps:Array aj,h.get? a=cz {cls:=.none,data:=.fields ps}/\km ps.toList/\∀(pos:eS) (cv:aj),lR pos ps.toList=cz cv->
    ∃c' oc vs q t t',cv=.ref c'/\H c'=cz (.frz oc (.own a))/\oc.data=.fields vs/\vs[1]?=cz (.str q t)/\qs[0]?=cz (.str q t')
section
variable (P:bz)(w:bI)
def ObjOk(H:Hp)(h:bQ)(a:aw):HO->Prop
  |.lst xs=>xs.length<=aV/\∃(cE:List aj) (n:Nat),Vals xs cE/\h.get? a=cz {cls:=.type "list",data:=.seq cE.toArray n}
  |.tup xs=>xs.length<=aV/\∃cE:List aj,Vals xs cE/\IsTup h a cE.toArray
  |.dK kvs=>kvs.length<=aV/\(a==cU)=rp/\∃vs,KV kvs vs/\h.DictOf (a4V P w) a vs
  |.dT kvs=>kvs.length<=aV/\(a==cU)=rp/\∃xs:List (List Key×aw×aj),
      eZ (λ(p:List Key×V) (q:List Key×aw×aj)=>p.1=q.1/\H q.2.1=cz (.tup (p.1.map kV))/\RelV p.2 q.2.2) kvs xs/\
      ∃o es ep,h.get? a=cz o/\o.ExactDict/\o.data=.dict es ep/\es.toList=xs.map (entryOfKey (tupleKind (a4V P w)))/\(xs.map (·.1)).Nodup
  |.set S n=>h.SetOf (cX P w) a S n
  |.ins C dx fs=>H dx=cz (.own a)/\fs.length<=1000/\dx≠a/\h.get? a=cz (pw C dx)/\
      ∃mA,h.Ns1 dx mA/\(∀f,b6L (fs.lookup f) (mA f))/\PySem.Within mA (fs.map (·.1))
  |.own _=>∃o,h.get? a=cz o
  |.xd fs=>∃mA,h.Ns1 a mA/\∀f,b6L (fs.lookup f) (mA f)
  |.rng lo hi=>∃t u v,h.get? a=cz {cls:=.type "range",data:=.fields #[.int lo t,.int hi u,.int 1 v]}
  |.frz o u=>h.get? a=cz o/\ObjOk H h a u
  |.tbl ps=>a5T H h a ps
  |.met f x=>h.get? a=cz (nI (.ref f) (.ref x))
  |.ext φ=>φ h/\(∃o,h.get? a=cz o)/\∀h1 h2:bQ,φ h1->(∀o,h1.get? a=cz o->h2.get? a=cz o)->φ h2
def HOk(H:Hp)(h:bQ):Prop:=∀a o,H a=cz o->ObjOk P w H h a o
end
section
variable {P:bz}{w:bI}{H H':Hp}{h h':bQ}{a:aw}{o:HO}
theorem ObjOk.lt(x:ObjOk P w H h a o):a<h.objs.size:=by
  cases o with
  |lst xs=>obtain⟨_,_,_,_,e⟩:=x;exact aI e
  |tup xs=>obtain⟨_,_,_,p⟩:=x;exact p.lt
  |dK kvs=>obtain⟨_,_,_,_,o,_,_,e,_⟩:=x;exact aI e
  |dT kvs=>obtain⟨_,_,_,_,o,_,_,e,_⟩:=x;exact aI e
  |set S n=>obtain⟨o,_,_,_,e,_⟩:=x;exact aI e
  |ins C dx fs=>obtain⟨_,_,_,e,_⟩:=x;exact aI e
  |own y=>obtain⟨_,e⟩:=x;exact aI e
  |xd fs=>obtain⟨_,⟨_,_,_,e,_⟩,_⟩:=x;exact aI e
  |rng lo hi=>obtain⟨_,_,_,e⟩:=x;exact aI e
  |frz ob u=>obtain⟨e,_⟩:=x;exact aI e
  |tbl ps=>obtain⟨_,e,_⟩:=(show a5T H h a ps from x);exact aI e
  |met f y=>exact aI (show h.get? a=cz _ from x)
  |ext φ=>obtain⟨_,⟨_,e⟩,_⟩:=x;exact aI e
theorem Paired.mapP:∀{l₁:List α} {l₂:List β},eZ F l₁ l₂->(∀a b,F a b->G a b)->eZ G l₁ l₂
  |_,_,.nil,_=>.nil
  |_,_,.cons r t,f=>.cons (f _ _ r) (Paired.mapP t f)
def ObjOk.stay(x:ObjOk P w H h a o)(k:∀b u,(b=a\/H b=cz (.own a))->h.get? b=cz u->h'.get? b=cz u)
    (ho:∀b,H b=cz (.own a)->H' b=cz (.own a)) (ht:∀b (u:b9c a),H b=cz u.1->H' b=cz u.1):ObjOk P w H' h' a o:=by
  induction o with
  |lst xs=>obtain⟨z,cE,n,r,e⟩:=x;exact⟨z,cE,n,r,k _ _ (.inl rfl) e⟩
  |tup xs=>obtain⟨z,cE,r,ob,e,c⟩:=x;exact⟨z,cE,r,ob,k _ _ (.inl rfl) e,c⟩
  |dK kvs=>obtain⟨z,y,vs,r,ob,es,ep,e,c⟩:=x;exact⟨z,y,vs,r,ob,es,ep,k _ _ (.inl rfl) e,c⟩
  |dT kvs=>
    obtain⟨z,y,xs,r,ob,es,ep,e,c⟩:=x;exact⟨z,y,xs,Paired.mapP r λp q z=>⟨z.1,ht _ ⟨.tup _,trivial⟩ z.2.1,z.2.2⟩,ob,es,ep,k _ _ (.inl rfl) e,c⟩
  |set S n=>obtain⟨ob,es,ep,t,e,c⟩:=x;exact⟨ob,es,ep,t,k _ _ (.inl rfl) e,c⟩
  |ins C dx fs=>
    obtain⟨d,z,ne,e,mA,⟨od,es,ep,e2,c⟩,r⟩:=x;exact⟨ho _ d,z,ne,k _ _ (.inl rfl) e,mA,⟨od,es,ep,k _ _ (.inr d) e2,c⟩,r⟩
  |own y=>obtain⟨ob,e⟩:=x;exact⟨ob,k _ _ (.inl rfl) e⟩
  |xd fs=>obtain⟨mA,⟨od,es,ep,e,c⟩,r⟩:=x;exact⟨mA,⟨od,es,ep,k _ _ (.inl rfl) e,c⟩,r⟩
  |rng lo hi=>obtain⟨t,u,v,e⟩:=x;exact⟨t,u,v,k _ _ (.inl rfl) e⟩
  |frz ob u ih=>obtain⟨e,q⟩:=x;exact⟨k _ _ (.inl rfl) e,ih q⟩
  |tbl ps=>
    obtain⟨qs,e,t,f⟩:=(show a5T H h a ps from x);refine⟨qs,k a _ (.inl rfl) e,t,λpos cv z=>?_⟩;obtain⟨c,oc,vs,q,t1,t2,z1,z2,z3,z4,z5⟩:=f pos cv z;exact⟨c,oc,vs,q,t1,t2,z1,ht c ⟨.frz _ (.own a),rfl⟩ z2,z3,z4,z5⟩
  |met f y=>
    have e:h.get? a=cz (nI (.ref f) (.ref y)):=x;show h'.get? a=cz (nI (.ref f) (.ref y));exact k a _ (.inl rfl) e
  |ext φ=>obtain⟨p,⟨o,e⟩,st⟩:=x;exact⟨st _ _ p λo q=>k _ _ (.inl rfl) q,⟨o,k _ _ (.inl rfl) e⟩,st⟩
theorem HOk.lt(x:HOk P w H h)(e:H a=cz o):a<h.objs.size:=(x a o e).lt
def HOk.fresh(x:HOk P w H h)(e:h.objs.size<=a):H a=el:=by
  cases q:H a with
  |none=>rfl
  |some u=>exact absurd (bA (x.lt q) e) (dt _)
def HOk.kept(x:HOk P w H h)(k:∀b u,h.get? b=cz u->h'.get? b=cz u):HOk P w H h':=λa o e=>
  (x a o e).stay (λb u _ q=>k b u q) (λ_ q=>q) λ_ _ q=>q
def HOk.laid(x:HOk P w H h)(k:∀b u,h.get? b=cz u->h'.get? b=cz u)(hp:h.objs.size<=a)(new:ObjOk P w (upd H a o) h' a o):HOk P w (upd H a o) h':=λb u e=>by
  have hn:=x.fresh hp;by_cases hb:b=a
  · subst hb;rw[i7]at e;cases e;exact new
  · rw[f8 hb]at e
    exact (x b u e).stay (λc v _ q=>k c v q) (λc q=>by rw[f8 (o3 q hn)];exact q) λc xs q=>by rw[f8 (o3 q hn)];exact q
end
def Rd(H:Hp)(a:aw)(u:HO):Prop:=H a=cz u\/∃o,H a=cz (.frz o u)
def Rd.ok{P:bz}{w:bI}{H:Hp}{h:bQ}{a:aw}{u:HO}(r:Rd H a u)(x:HOk P w H h):ObjOk P w H h a u:=by
  rcases r with r|⟨o,r⟩
  · exact x a u r
  · obtain⟨_,q⟩:=x a _ r
    exact q
def Mut:Option HO->Prop
  |some (.lst _)=>True
  |some (.dK _)=>True
  |some (.dT _)=>True
  |some (.set _ _)=>True
  |some (.ins _ _ _)=>True
  |some (.ext _)=>True
  |_=>False
section
variable {P:bz}{w:bI}{H:Hp}{h h':bQ}{x e:aw}{o':HO}
def HOk.write(ok:HOk P w H h)(mu:Mut (H x))(he:e=x\/H e=cz (.own x))(k:∀b u,b≠e->h.get? b=cz u->h'.get? b=cz u)(uM:∃u,h'.get? e=cz u)
    (new:ObjOk P w (upd H x o') h' x o'):HOk P w (upd H x o') h':=λb u q=>by
  have vy:∀c y,H c=cz (.own y)->c≠x:=λc y r z=>by subst z;rw[r]at mu;exact mu
  have yD:∀{bq:aw} c (u:b9c bq),H c=cz u.1->c≠x:=λ{bq} c u r z=>by subst z;rw[r]at mu;obtain⟨u,hu⟩:=u;cases u<;>first|exact hu|exact mu
  by_cases hb:b=x
  · subst hb;rw[i7]at q;cases q;exact new
  · rw[f8 hb]at q
    by_cases uh:b=e
    · have q':H b=cz (.own x):=by
        rcases he with z|z
        · exact absurd (uh.trans z) hb
        · rw[uh];exact z
      rw[q]at q';cases q';obtain⟨v,hv⟩:=uM;exact⟨v,by rw[uh];exact hv⟩
    · refine (ok b u q).stay (λc v hc r=>k c v ?_ r) (λc r=>by rw[f8 (vy c b r)];exact r) λc xs r=>by rw[f8 (yD c xs r)];exact r
      rcases hc with rfl|hc
      · exact uh
      · rintro rfl
        rcases he with z|z
        · exact vy c b hc z
        · rw[hc]at z;cases z;exact hb rfl
end
structure Un (fs ex:List aw) (H H':Hp) (h h':bQ):Prop where
  keep:∀b o,h.get? b=cz o->H b=el->b∉fs->b∉ex->h'.get? b=cz o
  slot:∀b o,h.get? b=cz o->H b=el->b∈fs->b∉ex->∃sl,h'.get? b=cz {o with slots:=sl}
  free:∀b o,h.get? b=cz o->H b=el->b∉ex->H' b=el
  there:∀b o,h.get? b=cz o->b∉ex->∃o',h'.get? b=cz o'
  tups:∀b xs,H b=cz (.tup xs)->H' b=cz (.tup xs)
  frzs:∀b o u,H b=cz (.frz o u)->H' b=cz (.frz o u)
  tbls:∀b ps,H b=cz (.tbl ps)->∃more,H' b=cz (.tbl (ps++more))
section
variable {fs ko ex Hd:List aw}{H H1 H2:Hp}{h h1 h2 h':bQ}{a x e:aw}{o:HO}
def Un.any(u:Un fs ex H H1 h h1)(q:h.get? b=cz ob)(n:H b=el)(hx:b∉ex):∃sl,h1.get? b=cz {ob with slots:=sl}:=by
  by_cases hb:b∈fs
  · exact u.slot b ob q n hb hx
  · exact⟨ob.slots,u.keep b ob q n hb hx⟩
def Un.kept(k:∀b u,h.get? b=cz u->h'.get? b=cz u):Un fs ex H H h h':=
  ⟨λb ob q _ _ _=>k b ob q,λb ob q _ _ _=>⟨ob.slots,k b ob q⟩,λ_ _ _ n _=>n,λb ob q _=>⟨ob,k b ob q⟩,λ_ _ q=>q,λ_ _ _ q=>q,λ_ ps q=>⟨#[],by rw[q];simp⟩⟩
def Un.refl:Un fs ex H H h h:=Un.kept λ_ _ q=>q
def Un.laid(k:∀b u,h.get? b=cz u->h'.get? b=cz u)(hp:h.objs.size<=a)(hn:H a=el):Un fs ex H (upd H a o) h h' where
  keep:=λb u q _ _ _=>k b u q
  slot:=λb u q _ _ _=>⟨u.slots,k b u q⟩
  free:=λb u q n _=>by rw[f8 (bc (bA (aI q) hp))];exact n
  there:=λb u q _=>⟨u,k b u q⟩
  tups:=λb xs q=>by rw[f8 (o3 q hn)];exact q
  frzs:=λb u xs q=>by rw[f8 (o3 q hn)];exact q
  tbls:=λb ps q=>⟨#[],by rw[f8 (o3 q hn),q];simp⟩
def Un.write(mu:Mut (H x))(he:e=x\/H e=cz (.own x))(k:∀b u,b≠e->h.get? b=cz u->h'.get? b=cz u)(uM:∃u,h'.get? e=cz u):Un fs ex H (upd H x o) h h':=by
  have hx:∀b,H b=el->b≠x:=λb n z=>by subst z;rw[n]at mu;exact mu
  have hb:∀b,H b=el->b≠e:=λb n z=>by
    subst z;rcases he with r|r
    · exact hx b n r
    · rw[n]at r;cases r
  have hm:∀b u,H b=cz u->¬ Mut (cz u)->b≠x:=λb u q nm z=>by subst z;rw[q]at mu;exact nm mu
  refine⟨λb u q n _ _=>k b u (hb b n) q,λb u q n _ _=>⟨u.slots,k b u (hb b n) q⟩,λb u q n _=>by rw[f8 (hx b n)];exact n,λb u q _=>?_,
    λb xs q=>by rw[f8 (hm b _ q λz=>z)];exact q,λb u xs q=>by rw[f8 (hm b _ q λz=>z)];exact q,λb ps q=>⟨#[],by rw[f8 (hm b _ q λz=>z),q];simp⟩⟩
  by_cases uh:b=e
  · subst uh;exact uM
  · exact⟨u,k b u uh q⟩
end
def trk(h:bQ)(H:Hp):List aw:=(aQ h.objs.size).filter λa=>(H a).isSome
def a4W(h:bQ)(H:Hp):bQ:=PySem.W.hideAll h (trk h H)
def a9K(h:bQ)(H:Hp):(a4W h H).objs.size=h.objs.size:=PySem.W.hideAll_size _ _
def b1t{h:bQ}(e:h.get? b=cz o)(n:H b=el):(a4W h H).get? b=cz o:=
  PySem.W.hideAll_get _ e λhm=>by
    have q:(H b).isSome=p4:=(bg.mp hm).2;rw[n]at q;simp at q
def b4g(e:(a4W h H).get? b=cz o):h.get? b=cz o/\H b=el:=by
  have e':h.get? b=cz o:=PySem.W.of_hideAll (trk h H) e;refine⟨e',?_⟩;cases q:H b with
  |none=>rfl
  |some x=>
    have hm:b∈trk h H:=bg.mpr ⟨bO.mpr (aI e'),by simp[q]⟩;have z:(a4W h H).get? b=el:=PySem.W.hideAll_none (trk h H) hm;rw[z]at e;cases e
def b4h(g h:bQ)(L:aw):List (aw×fM):=(aQ h.objs.size).filterMap λa=>if a=L\/(g.get? a).isSome=p4 then el else (h.get? a).map λo=>(a,o)
def rest(g h:bQ)(L d:aw):List (aw×fM):=(b4h g h L).filter λp=>decide (p.1≠d)
def M9:List bC:=["ways_by_state","joins_by_pair","compare","first_gathering","least_asks"]
def V6(x:bC):bC:=x++".<locals>." ++ "<lambda>"
def a4X(K:af)(cd:aj):Option aw:=match cd with
  |.ref c=>(match K.lookup c with
    |some ⟨.type n,_,.fields vs,_⟩=>if n=="code" then
        (match (vs[11]?:Option aj),(vs[18]?:Option aj),(vs[7]?:Option aj),(vs[9]?:Option aj),(vs[10]?:Option aj) with
        |some (.ref P),cz (.str _ _),cz (.int _ _),cz (.bool _),cz (.int _ _)=>if c !=P then cz P else el
        |_,_,_,_,_=>el) else el
    |_=>el)
  |_=>el
def C6(K:af)(x:bC):Option aw:=match gH K bM x with
  |some (cz (.ref f))=>(match K.lookup f with
    |some ⟨_,_,.func fd,_⟩=>a4X K fd.code
    |_=>el)
  |_=>el
def TabsIn(K:af)(H:Hp):Prop:=∀x∈M9,∀p,C6 K x=cz p->∃qs t,H p=cz (.tbl qs)/\qs[0]?=cz (.str (V6 x) t)
def TabsIn.un{K:af}{fs ex:List aw}{H H':Hp}{h h':bQ}(a:TabsIn K H)(u:Un fs ex H H' h h'):TabsIn K H':=λx hx p e=>by
  obtain⟨qs,t,e1,e2⟩:=a x hx p e;obtain⟨more,e3⟩:=u.tbls p qs e1;refine⟨_,t,e3,?_⟩;have hz:0<qs.size:=by
    rcases gI 0 qs.size with z|z
    · exact z
    · rw[eU (by omega)]at e2;cases e2
  rw[Array.getElem?_append_left hz];exact e2
structure Mod (K:af) (mg:bC->Option aj) (base:bQ):Prop where
  kin:K.In base
  glob:base.Ns bM mg
  blt:∃mb,base.Ns kr mb/\∀x:bC,x≠"__name__"->mb x=gn x
  nolimit:base.NoLimit
  bmain:∃bm ob,mg "__builtins__"=cz (.ref bm)/\bm≠kr/\base.get? bm=cz ob/\ob.cls=.type "module"/\ob.dict=cz kr/\ob.data=.plain
structure Cx where
  prog:bz
  w:bI
  K:af
  mg:bC->Option aj
  base:bQ
  A:bD
  N:List bC
  s₀:ar
  H₀:Hp
  env:oM
  outer:List oM
  stack:List oM
  ex:List aw
  fn:bC->Bool
  calm:Bool
  pn:List (aw×fM)
  xe:aj->ar->Prop
def frs(l:List oM):List aw:=l.filterMap (·.frame)
abbrev Cx.fs(X:Cx):List aw:=frs X.outer
def Vis(sc:gh)(x:bC):Prop:=sc.names.lookup x=cz .local\/sc.names.lookup x=cz .cell\/sc.names.lookup x=cz .free
def Loc(sc:gh)(x:bC):Prop:=sc.names.lookup x=cz .local\/sc.names.lookup x=cz .cell
def Look(env:oM)(h:bQ)(m:bC->Option aj)(x:bC)(u:aj):Prop:=
  (env.kindOf x=cz .local/\m x=cz u)\/((env.kindOf x=cz .cell\/env.kindOf x=cz .free)/\∃c,env.cells.lookup x=cz c/\h.IsCell c (cz u))
structure Cx.Ok (X:Cx):Prop where
  mod:Mod X.K X.mg X.base
  kind:X.env.scope.kind=.function
  glob:X.env.globals=bM
  blt:X.env.builtins=kr
  above:X.s₀.heap.objs.size<=X.env.locals
  inj:∀x y c,X.env.cells.lookup x=cz c->X.env.cells.lookup y=cz c->x=y
  has:∀x,(X.env.kindOf x=cz .cell\/X.env.kindOf x=cz .free)->∃c,X.env.cells.lookup x=cz c
  cab:∀x c,X.fn x=p4->X.env.cells.lookup x=cz c->X.s₀.heap.objs.size<=c
  hd:X.calm=p4->X.A.handled=el
  frames:X.A.frames=cz X.stack
  stk:X.stack=X.outer\/(X.stack=X.env::X.outer/\X.env.frame=cz X.env.locals)
  exf:∀b∈X.ex,b≠X.env.locals/\∀x c,X.env.cells.lookup x=cz c->c≠b
  bs:∀b o,X.base.get? b=cz o->X.s₀.heap.get? b=cz o/\X.H₀ b=el
  bsz:X.base.objs.size<=X.s₀.heap.objs.size
  noex:∀b o,X.base.get? b=cz o->b∉X.ex
  exfs:∀b∈X.ex,b∉X.fs
  funs:X.s₀.heap.FunFrames X.base X.outer
  frf:∀b∈X.fs,X.H₀ b=el
  tabs:TabsIn X.K X.H₀
structure Inv (X:Cx) (pins:List (aw×fM)) (Y:List (Option V)) (H:Hp) (s:ar):Prop where
  ok:X.Ok
  os:s.os=X.s₀.os
  bare:oN s.gens
  base:Un X.fs X.ex X.H₀ H X.s₀.heap s.heap
  loc:∃m,s.heap.Ns X.env.locals m/\∀(i:Nat) (x:bC) (v:V),X.N[i]?=cz x->Y[i]?=cz (cz v)->Vis X.env.scope x->∃u,RelV v u/\Look X.env s.heap m x u
  cell:∀x c,X.env.cells.lookup x=cz c->∃v,s.heap.IsCell c v
  free:H X.env.locals=el
  freeC:∀x c,X.env.cells.lookup x=cz c->H c=el
  pin:∀p∈X.pn++pins,s.heap.get? p.1=cz p.2/\H p.1=el/\p.1≠X.env.locals/\p.1∉X.fs/\∀v,p.2.data≠.cell v
  hok:HOk X.prog X.w H s.heap
  len:Y.length=X.N.length
section
variable {X:Cx}{pins:List (aw×fM)}{Y:List (Option V)}{H H':Hp}{s:ar}{h':bQ}
def Cx.Ok.nofr(ok:X.Ok)(e:X.base.get? b=cz o):b∉X.fs:=λhb=>by
  have:=(ok.funs.mem hb).1;rw[e]at this;cases this
theorem Inv.bs(I:Inv X pins Y H s):∀b o,X.base.get? b=cz o->s.heap.get? b=cz o/\H b=el:=λb o e=>
  ⟨I.base.keep b o (I.ok.bs b o e).1 (I.ok.bs b o e).2 (I.ok.nofr e) (I.ok.noex b o e),I.base.free b o (I.ok.bs b o e).1 (I.ok.bs b o e).2 (I.ok.noex b o e)⟩
theorem Inv.tabs(I:Inv X pins Y H s):TabsIn X.K H:=I.ok.tabs.un I.base
def Inv.bk(I:Inv X pins Y H s):∀b o,X.base.get? b=cz o->s.heap.get? b=cz o:=λb o e=>(I.bs b o e).1
theorem Inv.mod(I:Inv X pins Y H s):Mod X.K X.mg X.base:=I.ok.mod
def Inv.kIn(I:Inv X pins Y H s):X.K.In s.heap:=I.ok.mod.kin.keeps I.bk
theorem Inv.lt(I:Inv X pins Y H s):X.env.locals<s.heap.objs.size:=let⟨_,hn,_⟩:=I.loc;hn.lt
def Inv.sz(I:Inv X pins Y H s):X.s₀.heap.objs.size<=s.heap.objs.size:=cA I.ok.above (dP I.lt)
def Inv.nofs(I:Inv X pins Y H s)(h:s.heap.objs.size<=a):a∉X.fs:=λhb=>by
  obtain⟨_,o,ho,_⟩:=I.ok.funs.mem hb;exact absurd (bA (aI ho) (cA I.sz h)) (dt _)
def Inv.cne(I:Inv X pins Y H s):∀x c,X.env.cells.lookup x=cz c->c≠X.env.locals:=λx c e z=>by
  obtain⟨v,o,ho,hd⟩:=I.cell x c e;obtain⟨m,⟨o',es,ep,nq,lE,_⟩,_⟩:=I.loc;rw[z,nq]at ho;cases ho;rw[lE]at hd;cases hd
theorem Inv.funs(I:Inv X pins Y H s):s.heap.FunFrames X.base X.outer:=by
  have all:∀(l:List oM),(∀b∈frs l,b∈X.fs)->X.s₀.heap.FunFrames X.base l->s.heap.FunFrames X.base l:=by
    intro l
    induction l with
    |nil=>intro _ _;trivial
    |cons env r ih=>
      intro hs hl;obtain⟨hk,⟨L,o,hf,hn,ho,hd⟩,hr⟩:=hl;have hL:L∈X.fs:=hs L (by unfold frs;rw[mo,hf];exact ah);obtain⟨sl,e⟩:=I.base.slot L o ho (I.ok.frf L hL) hL λz=>I.ok.exfs L z hL
      exact⟨hk,⟨L,_,hf,hn,e,hd⟩,ih (λb hb=>hs b (by unfold frs;rw[mo,hf];exact ai _ hb)) hr⟩
  exact all X.outer (λ_ hb=>hb) I.ok.funs
theorem Inv.stack(I:Inv X pins Y H s):s.heap.FunFrames X.base X.stack:=by
  rcases I.ok.stk with e|⟨e,hf⟩
  · rw[e];exact I.funs
  · rw[e]
    obtain⟨m,hn,_⟩:=I.loc;refine .cons (by rw[I.ok.kind];decide) hf hn ?_ I.funs;exact bQ.get?_none_of_le (cA I.ok.bsz I.ok.above)
def Inv.stkSub(I:Inv X pins Y H s):∀b∈frs X.stack,b∈X.env.locals::X.fs:=λb hb=>by
  rcases I.ok.stk with e|⟨e,hf⟩
  · rw[e]at hb;exact ai _ hb
  · rw[e]at hb
    unfold frs at hb;rw[mo,hf]at hb;exact hb
def Inv.stkFree(I:Inv X pins Y H s):∀b∈frs X.stack,H b=el:=λb hb=>by
  rcases az.mp (I.stkSub b hb) with e|hb
  · rw[e];exact I.free
  · obtain⟨_,o,ho,_⟩:=I.ok.funs.mem hb
    exact I.base.free b o ho (I.ok.frf b hb) λz=>I.ok.exfs b z hb
def Inv.step{g':Array GenState}{t':Nat}{d':Drawn}{ch:List aw}(I:Inv X pins Y H s)
    (rd:∀b∈ch,(b∈X.ex\/X.s₀.heap.objs.size<=b)/\b≠X.env.locals/\(∀x c,X.env.cells.lookup x=cz c->c≠b)/\∀p∈X.pn++pins,p.1≠b)
    (keep:∀b o,b≠X.env.locals->b∉X.fs->b∉ch->s.heap.get? b=cz o->H b=el->h'.get? b=cz o)
    (slot:∀b o,b≠X.env.locals->b∈X.fs->b∉ch->s.heap.get? b=cz o->H b=el->∃sl,h'.get? b=cz {o with slots:=sl}) (free:∀b o,b∉ch->s.heap.get? b=cz o->H b=el->H' b=el)
    (there:∀b o,b∉ch->s.heap.get? b=cz o->∃o',h'.get? b=cz o')
    (tups:∀b xs,H b=cz (.tup xs)->H' b=cz (.tup xs)) (frzs:∀b o u,H b=cz (.frz o u)->H' b=cz (.frz o u)) (tbls:∀b ps,H b=cz (.tbl ps)->∃more,H' b=cz (.tbl (ps++more)))
    (ns:∀m,s.heap.Ns X.env.locals m->h'.Ns X.env.locals m) (hok:HOk X.prog X.w H' h') (hg:oN g') :
    Inv X pins Y H' {s with heap:=h',gens:=g',drawn:=d',toks:=t'}:=by
  have AN:∀b o,X.s₀.heap.get? b=cz o->b≠X.env.locals:=λb o e=>bc (bA (aI e) I.ok.above)
  have xB:∀b o,X.s₀.heap.get? b=cz o->b∉X.ex->b∉ch:=λb o e hx hb=>by
    rcases (rd b hb).1 with z|z
    · exact hx z
    · exact absurd (bA (aI e) z) (dt _)
  have cellK:∀x c,X.env.cells.lookup x=cz c->∀v,s.heap.IsCell c v->h'.IsCell c v:=λx c e v ⟨o,ho,hd⟩=>by
    have pR:c∉ch:=λz=>(rd c z).2.2.1 x c e rfl
    by_cases hc:c∈X.fs
    · obtain⟨sl,q⟩:=slot c o (I.cne x c e) hc pR ho (I.freeC x c e)
      exact⟨_,q,hd⟩
    · exact⟨o,keep c o (I.cne x c e) hc pR ho (I.freeC x c e),hd⟩
  refine⟨I.ok,I.os,hg,⟨λb o e n hb hx=>?_,λb o e n hb hx=>?_,λb o e n hx=>?_,λb o e hx=>?_,λb xs e=>tups b xs (I.base.tups b xs e),λb o xs e=>frzs b o xs (I.base.frzs b o xs e),λb ps e=>?_⟩,?_,λx c e=>?_,?_,λx c e=>?_,λp hp=>?_,hok,I.len⟩
  · exact keep b o (AN b o e) hb (xB b o e hx) (I.base.keep b o e n hb hx) (I.base.free b o e n hx)
  · obtain⟨sl,e1⟩:=I.base.slot b o e n hb hx
    obtain⟨AD,e2⟩:=slot b _ (AN b o e) hb (xB b o e hx) e1 (I.base.free b o e n hx);exact⟨AD,e2⟩
  · obtain⟨o',e1⟩:=I.base.there b o e hx
    exact free b o' (xB b o e hx) e1 (I.base.free b o e n hx)
  · obtain⟨o',e1⟩:=I.base.there b o e hx
    exact there b o' (xB b o e hx) e1
  · obtain⟨m1,e1⟩:=I.base.tbls b ps e
    obtain⟨m2,e2⟩:=tbls b _ e1;exact⟨m1++m2,by rw[e2,Array.append_assoc]⟩
  · obtain⟨m,hn,hl⟩:=I.loc
    refine⟨m,ns m hn,λi x v e1 e2 e3=>?_⟩;obtain⟨u,r,l⟩:=hl i x v e1 e2 e3;refine⟨u,r,?_⟩;rcases l with l|⟨k,c,e,z⟩
    · exact .inl l
    · exact .inr ⟨k,c,e,cellK x c e _ z⟩
  · obtain⟨v,z⟩:=I.cell x c e
    exact⟨v,cellK x c e v z⟩
  · obtain⟨m,⟨o,_,_,ho,_⟩,_⟩:=I.loc
    exact free _ o (λz=>(rd _ z).2.1 rfl) ho I.free
  · obtain⟨v,o,ho,hd⟩:=I.cell x c e
    exact free c o (λz=>(rd c z).2.2.1 x c e rfl) ho (I.freeC x c e)
  · obtain⟨e,n,ne,nf,d⟩:=I.pin p hp
    have pR:p.1∉ch:=λz=>(rd p.1 z).2.2.2 p hp rfl
    exact⟨keep p.1 p.2 ne nf pR e n,free p.1 p.2 pR e n,ne,nf,d⟩
def Inv.un(I:Inv X pins Y H s)(u:Un X.fs [] H H' s.heap h')(hok:HOk X.prog X.w H' h'):Inv X pins Y H' {s with heap:=h',toks:=t'}:=by
  obtain⟨m,⟨o,es,ep,ho,r⟩,_⟩:=id I.loc;obtain⟨sl,hL⟩:=u.any ho I.free (by simp);exact I.step (g':=s.gens) (d':=s.drawn) (ch:=[]) (λ_ z=>nomatch z) (λb o _ hb _ e n=>u.keep b o e n hb (by simp)) (λb o _ hb _ e n=>u.slot b o e n hb (by simp)) (λb o _ e n=>u.free b o e n (by simp)) (λb o _ e=>u.there b o e (by simp)) u.tups u.frzs u.tbls (λm' hm=>by
    obtain⟨o',fm,rg,nq,r'⟩:=hm;rw[ho]at nq;cases nq;exact⟨_,fm,rg,hL,r'⟩) hok I.bare
def Inv.call(I:Inv X pins Y H s)(u:Un (frs X.stack) ch H H' s.heap h')(hok:HOk X.prog X.w H' h')(hg:oN g')
    (rd:∀b∈ch,(b∈X.ex\/X.s₀.heap.objs.size<=b)/\b≠X.env.locals/\(∀x c,X.env.cells.lookup x=cz c->c≠b)/\∀p∈X.pn++pins,p.1≠b) :
    Inv X pins Y H' {s with heap:=h',gens:=g',drawn:=d',toks:=t'}:=by
  obtain⟨m,⟨o,es,ep,ho,r⟩,_⟩:=id I.loc;obtain⟨sl,hL⟩:=u.any ho I.free λz=>(rd _ z).2.1 rfl
  exact I.step (ch:=ch) rd (λb o hL hb hc e n=>u.keep b o e n (λz=>(az.mp (I.stkSub b z)).elim hL hb) hc) (λb o _ _ hc e n=>u.any e n hc) (λb o hc e n=>u.free b o e n hc) (λb o hc e=>u.there b o e hc) u.tups u.frzs u.tbls (λm' hm=>by
    obtain⟨o',fm,rg,nq,r'⟩:=hm;rw[ho]at nq;cases nq;exact⟨_,fm,rg,hL,r'⟩) hok hg
def Inv.turned(I:Inv X pins Y H s)(k:∀b o,b≠it->s.heap.get? b=cz o->h'.get? b=cz o)(hn:H it=el)(hL:it≠X.env.locals)
    (h1:it∈X.ex\/X.s₀.heap.objs.size<=it) (h2:∀x c,X.env.cells.lookup x=cz c->c≠it) (h3:∀p∈X.pn++pins,p.1≠it):Inv X pins Y H {s with heap:=h',toks:=t'}:=by
  have AL:∀b u,H b=cz u->b≠it:=λb u e z=>by rw[z,hn]at e;cases e
  refine I.step (g':=s.gens) (d':=s.drawn) (ch:=[it]) (λb hb=>?_) (λb o _ _ hc e _=>k b o (λz=>hc (by simp[z])) e) (λb o _ _ hc e _=>⟨o.slots,k b o (λz=>hc (by simp[z])) e⟩) (λ_ _ _ _ n=>n)
    (λb o hc e=>⟨o,k b o (λz=>hc (by simp[z])) e⟩) (λ_ _ e=>e) (λ_ _ _ e=>e) (λb ps e=>⟨#[],by rw[e];simp⟩) (λm hm=>?_) (λb u e=>?_) I.bare
  · have e:b=it:=by simpa using hb
    subst e;exact⟨h1,hL,h2,h3⟩
  · obtain⟨o,es,ep,ho,r⟩:=hm
    exact⟨o,es,ep,k _ o (dA hL) ho,r⟩
  · refine (I.hok b u e).stay (λc v hc q=>k c v ?_ q) (λ_ q=>q) λ_ _ q=>q
    rcases hc with z|z
    · rw[z];exact AL b u e
    · exact AL c _ z
def Inv.tok(I:Inv X pins Y H s)(t:Nat):Inv X pins Y H {s with toks:=t}:=I.un (h':=s.heap) (t':=t) Un.refl I.hok
theorem Inv.kept(I:Inv X pins Y H s)(k:∀b u,s.heap.get? b=cz u->h'.get? b=cz u):Inv X pins Y H {s with heap:=h',toks:=t'}:=I.un (Un.kept k) (I.hok.kept k)
theorem Inv.laid{a:aw}{o:HO}{t':Nat}(I:Inv X pins Y H s)(k:∀b u,s.heap.get? b=cz u->h'.get? b=cz u)(hp:s.heap.objs.size<=a)(new:ObjOk X.prog X.w (upd H a o) h' a o) :
    Inv X pins Y (upd H a o) {s with heap:=h',toks:=t'}:=I.un (Un.laid k hp (I.hok.fresh hp)) (I.hok.laid k hp new)
theorem Inv.write(I:Inv X pins Y H s)(mu:Mut (H x))(he:e=x\/H e=cz (.own x))(k:∀b u,b≠e->s.heap.get? b=cz u->h'.get? b=cz u)(uM:∃u,h'.get? e=cz u)
    (new:ObjOk X.prog X.w (upd H x o) h' x o):Inv X pins Y (upd H x o) {s with heap:=h',toks:=t'}:=I.un (Un.write mu he k uM) (I.hok.write mu he k uM new)
def Inv.pins_of(I:Inv X pins Y H s)(h:∀p∈vt,s.heap.get? p.1=cz p.2/\H p.1=el/\p.1≠X.env.locals/\p.1∉X.fs/\∀v,p.2.data≠.cell v):Inv X vt Y H s:=
  ⟨I.ok,I.os,I.bare,I.base,I.loc,I.cell,I.free,I.freeC,λp hp=>(aB.mp hp).elim (λz=>I.pin p (aJ _ z)) (h p),I.hok,I.len⟩
def a5U{N:List bC}(hN:N.Nodup){i j:Nat}{x:bC}(a:N[i]?=cz x)(b:N[j]?=cz x):i=j:=by
  obtain⟨h1,e1⟩:=aU.mp a;obtain⟨h2,e2⟩:=aU.mp b;exact (List.getElem_inj hN).mp (e1.trans e2.symm)
def a9L{M:Model}{A:bD}{E:aj->ar->Prop}{i:Nat}{x:bC}{v:V}{u:aj}{Q:Unit->ar->Prop}(I:Inv X pins Y H s)(hN:X.N.Nodup)(hi:X.N[i]?=cz x)(hx:Loc X.env.scope x)(r:RelV v u)
    (h:∀s',Inv X pins (Y.set i (cz v)) H s'->(∃a,cD a s.heap s'.heap/\(a=X.env.locals\/X.env.cells.lookup x=cz a))->Q () s') (hf:X.fn x=p4\/X.env.scope.names.lookup x=cz .local:=by first|exact .inl rfl|exact .inr rfl|assumption):aD M A (storeName X.env x u) Q E s:=by
  obtain⟨m,hn,hl⟩:=id I.loc;have zQ:(X.env.scope.kind==.class||(X.env.scope.kind==.module&&X.env.locals !=X.env.globals))=rp:=by rw[I.ok.kind];rfl
  have wg:i<Y.length:=by rw[I.len];exact (aU.mp hi).1
  have cne:=I.cne;have tracked:∀{a:aw} {h':bQ},(∃o,s.heap.get? a=cz o/\H a=el)->cD a s.heap h'->HOk X.prog X.w H h':=λ{a h'} ha hs b ob e=>by
    obtain⟨_,_,nv⟩:=ha;refine (I.hok b ob e).stay (λc w' hc q=>(hs.2 c ?_).trans q) (λ_ q=>q) λ_ _ q=>q
    rintro rfl;rcases hc with rfl|hc
    · rw[nv]at e;cases e
    · rw[nv]at hc;cases hc
  rcases hx with hk|hk
  · refine wpAny_storeName_local hk hn (λh' tQ hs=>?_) zQ
    obtain⟨oL,_,_,Ei,_⟩:=id hn;refine h _ ⟨I.ok,I.os,I.bare,⟨λb o e n hb hx=>?_,λb o e n hb hx=>?_,I.base.free,λb o e hx=>?_,I.base.tups,I.base.frzs,I.base.tbls⟩,⟨_,tQ,λj y v' e1 e2 e3=>?_⟩,λy c e=>?_,I.free,I.freeC,λp hp=>?_,tracked ⟨oL,Ei,I.free⟩ hs,by simpa using I.len⟩ ⟨_,hs,.inl rfl⟩
    · exact (hs.2 b (bc (bA (aI e) I.ok.above))).trans (I.base.keep b o e n hb hx)
    · obtain⟨sl,e1⟩:=I.base.slot b o e n hb hx
      exact⟨sl,(hs.2 b (bc (bA (aI e) I.ok.above))).trans e1⟩
    · obtain⟨o',e1⟩:=I.base.there b o e hx
      exact⟨o',(hs.2 b (bc (bA (aI e) I.ok.above))).trans e1⟩
    · by_cases hj:j=i
      · subst hj
        rw[hi]at e1;cases e1;rw[iu wg]at e2;cases e2
        exact⟨u,r,.inl ⟨hk,by simp⟩⟩
      · rw[fH (dA hj)]at e2
        obtain⟨u',r',q⟩:=hl j y v' e1 e2 e3;refine⟨u',r',?_⟩;rcases q with⟨k,e⟩|⟨k,c,e,z⟩
        · refine .inl ⟨k,?_⟩
          have:y≠x:=λe=>hj (a5U hN e1 (e▸hi))
          simp[this,e]
        · exact .inr ⟨k,c,e,z.sameBut hs (cne y c e)⟩
    · obtain⟨w',z⟩:=I.cell y c e
      exact⟨w',z.sameBut hs (cne y c e)⟩
    · obtain⟨e,n,ne,nf,d⟩:=I.pin p hp
      exact⟨(hs.2 p.1 ne).trans e,n,ne,nf,d⟩
  · have om:X.fn x=p4:=by
      rcases hf with z|z
      · exact z
      · rw[z]at hk;cases hk
    obtain⟨c,hc⟩:=I.ok.has x (.inl hk);obtain⟨w',z⟩:=I.cell x c hc;refine wpAny_storeName_cell I.ok.kind hk hc z (λh' uQ hs=>?_);obtain⟨oc,vW,za⟩:=id z;refine h {s with heap:=h'} ⟨I.ok,I.os,I.bare,⟨λb o e n hb hx=>?_,λb o e n hb hx=>?_,I.base.free,λb o e hx=>?_,I.base.tups,I.base.frzs,I.base.tbls⟩,⟨m,hn.sameBut hs (dA (cne x c hc)),λj y v' e1 e2 e3=>?_⟩,λy c' e=>?_,I.free,I.freeC,λp hp=>?_,tracked ⟨oc,vW,I.freeC x c hc⟩ hs,by simpa using I.len⟩ ⟨c,hs,.inr hc⟩
    · exact (hs.2 b (bc (bA (aI e) (I.ok.cab x c om hc)))).trans (I.base.keep b o e n hb hx)
    · obtain⟨sl,e1⟩:=I.base.slot b o e n hb hx
      exact⟨sl,(hs.2 b (bc (bA (aI e) (I.ok.cab x c om hc)))).trans e1⟩
    · obtain⟨o',e1⟩:=I.base.there b o e hx
      exact⟨o',(hs.2 b (bc (bA (aI e) (I.ok.cab x c om hc)))).trans e1⟩
    · by_cases hj:j=i
      · subst hj
        rw[hi]at e1;cases e1;rw[iu wg]at e2;cases e2
        exact⟨u,r,.inr ⟨.inl hk,c,hc,uQ⟩⟩
      · rw[fH (dA hj)]at e2
        obtain⟨u',r',q⟩:=hl j y v' e1 e2 e3;refine⟨u',r',?_⟩;rcases q with q|⟨k,c',e,z'⟩
        · exact .inl q
        · refine .inr ⟨k,c',e,z'.sameBut hs ?_⟩
          rintro rfl;exact hj (a5U hN e1 (I.ok.inj _ _ _ e hc▸hi))
    · by_cases uP:c'=c
      · subst uP;exact⟨_,uQ⟩
      · obtain⟨w2,z2⟩:=I.cell y c' e
        exact⟨w2,z2.sameBut hs uP⟩
    · obtain⟨e,n,ne,nf,d⟩:=I.pin p hp
      refine⟨(hs.2 p.1 ?_).trans e,n,ne,nf,d⟩;intro q;rw[q,vW]at e;have q':oc=p.2:=aK e;exact d w' (by rw[<-q'];exact za)
def a0y(I:Inv X pins Y H s)(hN:X.N.Nodup)(hi:X.N[i]?=cz x)(hx:Loc X.env.scope x)(r:RelV v u)
    (h:∀s',Inv X pins (Y.set i (cz v)) H s'->Q () s') (hf:X.fn x=p4\/X.env.scope.names.lookup x=cz .local:=by first|exact .inl rfl|exact .inr rfl|assumption):aD M A (storeName X.env x u) Q E s:=
  a9L I hN hi hx r (λs' I' _=>h s' I') hf
def Inv.call'{s':ar}(I:Inv X pins Y H s)(ho:s'.os=s.os)(u:Un (frs X.stack) ch H H' s.heap s'.heap)(hok:HOk X.prog X.w H' s'.heap)(hg:oN s'.gens)
    (rd:∀b∈ch,(b∈X.ex\/X.s₀.heap.objs.size<=b)/\b≠X.env.locals/\(∀x c,X.env.cells.lookup x=cz c->c≠b)/\∀p∈X.pn++pins,p.1≠b):Inv X pins Y H' s':=by
  obtain⟨h',g',d',t',o'⟩:=s';have e:o'=s.os:=ho;subst e;exact I.call (g':=g') (t':=t') (d':=d') u hok hg rd
end
abbrev XK:=aj->Option aw->Hp->Prop
abbrev St:=List (Option V)
abbrev VK:=V->Hp->Prop
abbrev TE:=St->Hp->VK->Prop
abbrev TT:=St->Hp->(Bool->Hp->Prop)->Prop
abbrev TA:=St->Hp->(List V->Hp->Prop)->Prop
structure Ends where
  nx:St->Hp->Prop
  rt:VK
  bk:St->Hp->Prop:=λ_ _=>False
  ct:St->Hp->Prop:=λ_ _=>False
abbrev TS:=Ends->St->Hp->Prop
def EP(X:Cx)(pins:List (aw×fM))(Y:St)(Q:VK)(u:aj)(s':ar):Prop:=∃v H',Inv X pins Y H' s'/\RelV v u/\Q v H'
def TP(X:Cx)(pins:List (aw×fM))(Y:St)(Q:Bool->Hp->Prop)(b:Bool)(s':ar):Prop:=∃H',Inv X pins Y H' s'/\Q b H'
def AP(X:Cx)(pins:List (aw×fM))(Y:St)(Q:List V->Hp->Prop)(us:List aj)(s':ar):Prop:=∃vs H',Inv X pins Y H' s'/\Vals vs us/\Q vs H'
def SP(X:Cx)(pins:List (aw×fM))(D:Ends)(f:Flow)(s':ar):Prop:=
  match f with
  |.next=>∃Y' H',Inv X pins Y' H' s'/\D.nx Y' H'
  |.brk=>∃Y' H',Inv X pins Y' H' s'/\D.bk Y' H'
  |.cont=>∃Y' H',Inv X pins Y' H' s'/\D.ct Y' H'
  |.ret u=>∃v Y' H',Inv X pins Y' H' s'/\RelV v u/\D.rt v H'
def PE(X:Cx)(e:Expr)(t:TE):Prop:=
  ∀(pins:List (aw×fM)) (s:ar) (Y:St) (H:Hp) (Q:VK),Inv X pins Y H s->t Y H Q->aD (aX X.prog X.w) X.A (cn e X.env) (EP X pins Y Q) X.xe s
def PT(X:Cx)(e:Expr)(t:TT):Prop:=
  ∀(pins:List (aw×fM)) (s:ar) (Y:St) (H:Hp) (Q:Bool->Hp->Prop),Inv X pins Y H s->t Y H Q->aD (aX X.prog X.w) X.A (rJ e X.env (cn e X.env)) (TP X pins Y Q) X.xe s
def PW(X:Cx)(e:Expr)(t:TT):Prop:=
  ∀(whole:Sem aj) (pins:List (aw×fM)) (s:ar) (Y:St) (H:Hp) (Q:Bool->Hp->Prop),Inv X pins Y H s->t Y H Q->aD (aX X.prog X.w) X.A (rJ e X.env whole) (TP X pins Y Q) X.xe s
def PW.pt(h:PW X e t):PT X e t:=h _
def PA(X:Cx)(es:List Expr)(t:TA):Prop:=
  ∀(pos:eS) (pins:List (aw×fM)) (s:ar) (Y:St) (H:Hp) (Q:List V->Hp->Prop),Inv X pins Y H s->t Y H Q->aD (aX X.prog X.w) X.A (spliced (cx pos (ax es X.env))) (AP X pins Y Q) X.xe s
def PS(X:Cx)(st:hZ)(t:TS):Prop:=
  ∀(pins:List (aw×fM)) (s:ar) (Y:St) (H:Hp) (D:Ends),Inv X pins Y H s->t D Y H->aD (aX X.prog X.w) X.A (exec st X.env) (SP X pins D) X.xe s
def PSs(X:Cx)(st:List hZ)(t:TS):Prop:=
  ∀(pins:List (aw×fM)) (s:ar) (Y:St) (H:Hp) (D:Ends),Inv X pins Y H s->t D Y H->aD (aX X.prog X.w) X.A (execs st X.env) (SP X pins D) X.xe s
def thn{α:Type}{t:Sem α}{Q Q':α->ar->Prop}{M:Model}{A:bD}{E:aj->ar->Prop}{s:ar}(h:aD M A t Q E s)(hQ:∀a s,Q a s->Q' a s):aD M A t Q' E s:=dg h hQ λ_ _ x=>x
section
variable {X:Cx}
def b4i(i:Nat):TE:=λY H Q=>∃v,Y[i]?=cz (cz v)/\Q v H
def tC(v:V):TE:=λ_ H Q=>Q v H
def C7(hN:X.N[i]?=cz x)(hv:Vis X.env.scope x)(hd:(x==("__debug__":bC))=rp:=by decide)(iG:(x==("__classdict__":bC))=rp:=by decide):PE X (.Name x pos) (b4i i):=by
  intro pins s Y H Q I h;obtain⟨v,e,h⟩:=h;obtain⟨m,hn,hl⟩:=I.loc;obtain⟨u,r,l⟩:=hl i x v hN e hv;have fin:EP X pins Y Q u s:=⟨v,H,I,r,h⟩;rcases l with⟨hk,hm⟩|⟨hk,c,hc,kW⟩
  · exact wpAny_Name (wpAny_loadName_local I.ok.kind hk hn hm fin) hd
  · rcases hk with hk|hk
    · exact wpAny_Name (wpAny_loadName_cell I.ok.kind hk hc kW fin) hd
    · exact wpAny_Name (wpAny_loadName_free I.ok.kind hk hc kW fin iG) hd
def b6M{i j pos}:PE X (.Constant (.int i) j pos) (tC (.int i)):=λ_ _ _ H _ I h=>wpAny_Constant_int ⟨.int i,H,I.tok _,⟨_,rfl⟩,h⟩
def b9d{b j pos}:PE X (.Constant (.bool b) j pos) (tC (.bl b)):=λ_ _ _ H _ I h=>Constant_bool ⟨.bl b,H,I,rfl,h⟩
def b6N{j pos}:PE X (.Constant .none j pos) (tC .non):=λ_ _ _ H _ I h=>Constant_none ⟨.non,H,I,rfl,h⟩
def Gl(X:Cx)(x:bC):Prop:=X.env.kindOf x=cz .globalImplicit
def a4Y(I:Inv X pins Y H s)(hg:Gl X x)(hm:X.mg x=cz u)(h:Q u s)
    (hd:(x==("__debug__":bC))=rp:=by decide):aD (aX X.prog X.w) X.A (cn (.Name x pos) X.env) Q E s:=
  xr I.ok.kind hg (Calls.loadGlobal_global (by rw[I.ok.glob];exact I.mod.glob.keeps I.bk) hm h) hd
def a0i(I:Inv X pins Y H s)(hg:Gl X x)(hm:X.mg x=el)(hv:gn x=cz u)(h:Q u s)
    (hn:x≠"__name__":=by decide) (hd:(x==("__debug__":bC))=rp:=by decide):aD (aX X.prog X.w) X.A (cn (.Name x pos) X.env) Q E s:=by
  obtain⟨mb,h1,h2⟩:=I.mod.blt;exact xr I.ok.kind hg (Calls.loadGlobal_builtin (by rw[I.ok.glob];exact I.mod.glob.keeps I.bk) hm (by rw[I.ok.blt];exact h1.keeps I.bk) ((h2 x hn).trans hv) h) hd
def b4j(hg:Gl X x)(hm:X.mg x=cz u)(r:RelV v u)(hd:(x==("__debug__":bC))=rp:=by decide):PE X (.Name x pos) (tC v):=
  λ_ _ _ H _ I h=>a4Y I hg hm ⟨v,H,I,r,h⟩ hd
def b4k(hg:Gl X x)(hm:X.mg x=el)(hv:gn x=cz u)(r:RelV v u)(hn:x≠"__name__":=by decide)(hd:(x==("__debug__":bC))=rp:=by decide):PE X (.Name x pos) (tC v):=
  λ_ _ _ H _ I h=>a0i I hg hm hv ⟨v,H,I,r,h⟩ hn hd
variable {a b:Expr}{ta tb:TE}{pos:eS}
def tB(t:TE):TT:=λY H Q=>t Y H λx H1=>∃c,x=.bl c/\Q c H1
variable {tA xw:TT}{rest:List Expr}
def c0S(t u:TT):TT:=λY H Q=>t Y H λc H1=>if c=p4 then u Y H1 Q else Q rp H1
def tOr(t u:TT):TT:=λY H Q=>t Y H λc H1=>if c=p4 then Q p4 H1 else u Y H1 Q
def c0T(t:TT):TT:=λY H Q=>t Y H λc H1=>Q (!c) H1
def b4l(ha:PT X a tA):PW X (.BoolOp .And [a] pos) tA:=by
  intro wh pins s Y H Q I h;refine isTrue_and (thn (ha pins s Y H Q I h) λc s1 e=>?_);cases c with
  |true=>exact isTrue_and_nil e
  |false=>exact e
def b6O(ha:PT X a tA):PW X (.BoolOp .Or [a] pos) tA:=by
  intro wh pins s Y H Q I h;refine isTrue_or (thn (ha pins s Y H Q I h) λc s1 e=>?_);cases c with
  |false=>exact isTrue_or_nil e
  |true=>exact e
def b6P(ha:PT X a tA)(hb:PW X (.BoolOp .And (b::rest) pos) xw):PW X (.BoolOp .And (a::b::rest) pos) (c0S tA xw):=by
  intro wh pins s Y H Q I h;refine isTrue_and (thn (ha pins s Y H _ I h) λc s1 ⟨H1,I1,q1⟩=>?_);cases c with
  |true=>exact hb wh pins s1 Y H1 Q I1 q1
  |false=>exact⟨H1,I1,q1⟩
def b9e(ha:PT X a tA)(hb:PW X (.BoolOp .Or (b::rest) pos) xw):PW X (.BoolOp .Or (a::b::rest) pos) (tOr tA xw):=by
  intro wh pins s Y H Q I h;refine isTrue_or (thn (ha pins s Y H _ I h) λc s1 ⟨H1,I1,q1⟩=>?_);cases c with
  |true=>exact⟨H1,I1,q1⟩
  |false=>exact hb wh pins s1 Y H1 Q I1 q1
def b6Q(ha:PT X a tA):PT X (.UnaryOp .Not a pos) (c0T tA):=by
  intro pins s Y H Q I h;exact isTrue_not (ha pins s Y H (λc H1=>Q (!c) H1) I h)
def b9f(ta tb:TE):TE:=λY H Q=>ta Y H λx H1=>∃c,x=.bl c/\if c=p4 then tb Y H1 Q else Q (.bl rp) H1
def b9g(ta:TE):TE:=λY H Q=>ta Y H λx H1=>∃c,x=.bl c/\Q (.bl (!c)) H1
def b6R{op}(h:PE X a t):PE X (.BoolOp op [a] pos) t:=λpins s Y H Q I hw=>BoolOp_one (h pins s Y H Q I hw)
def b6S(ha:PE X a ta)(hb:PE X (.BoolOp .And (b::rest) pos) tb):PE X (.BoolOp .And (a::b::rest) pos) (b9f ta tb):=by
  intro pins s Y H Q I h;refine BoolOp_and (thn (ha pins s Y H _ I h) λv s1 ⟨x,H1,I1,r1,q1⟩=>?_);obtain⟨c,rfl,q1⟩:=q1;cases r1
  refine dG ?_;cases c with
  |true=>exact hb pins s1 Y H1 Q I1 q1
  |false=>exact⟨.bl rp,H1,I1,rfl,q1⟩
def b6T(ha:PE X a ta):PE X (.UnaryOp .Not a pos) (b9g ta):=by
  intro pins s Y H Q I h;refine UnaryOp_ (thn (ha pins s Y H _ I h) λv s1 ⟨x,H1,I1,r1,q1⟩=>?_);obtain⟨c,rfl,q1⟩:=q1;cases r1
  exact not_of (dG ⟨.bl (!c),H1,I1,rfl,q1⟩)
def tIf(t:TT)(ta tb:TE):TE:=λY H Q=>t Y H λc H1=>if c=p4 then ta Y H1 Q else tb Y H1 Q
def b1u{c:Expr}(hc:PT X c tA)(ha:PE X a ta)(hb:PE X b tb):PE X (.IfExp c a b pos) (tIf tA ta tb):=by
  intro pins s Y H Q I h;refine wpAny_IfExp (thn (hc pins s Y H _ I h) λd s1 ⟨H1,I1,q1⟩=>?_);cases d with
  |true=>exact ha pins s1 Y H1 Q I1 q1
  |false=>exact hb pins s1 Y H1 Q I1 q1
end
def SqL(K:af)(H:Hp)(a:aw)(xs:List V):Prop:=
  Rd H a (.lst xs)\/
    ∃(o:fM) (cE:Array aj) (n:Nat),K.lookup a=cz o/\o.cls=.type "list"/\o.dict=el/\o.data=.seq cE n/\cE.size<=aV/\Vals xs cE.toList
def SqT(K:af)(H:Hp)(a:aw)(xs:List V):Prop:=
  Rd H a (.tup xs)\/
    ∃(o:fM) (cE:Array aj) (n:Nat),K.lookup a=cz o/\o.cls=.type "tuple"/\o.data=.seq cE n/\cE.size<=aV/\Vals xs cE.toList
def c0U:aj->Option V
  |.none=>cz .non
  |.bool b=>cz (.bl b)
  |.int i _=>cz (.int i)
  |.str x _=>cz (.str x)
  |.bytes b _=>cz (.byt b)
  |.float b _=>cz (.flt b)
  |.ref a=>cz (.ref a)
  |.type n=>cz (.ty n)
  |_=>el
def RelV.abs(r:RelV x u):c0U u=cz x:=by
  cases x with
  |non=>cases r;rfl
  |bl _=>cases r;rfl
  |int _=>obtain⟨t,rfl⟩:=r;rfl
  |str _=>obtain⟨t,rfl⟩:=r;rfl
  |byt _=>obtain⟨t,rfl⟩:=r;rfl
  |flt _=>obtain⟨t,rfl⟩:=r;rfl
  |ref _=>cases r;rfl
  |ty _=>cases r;rfl
def RelV.inj(r:RelV x u)(q:RelV y u):x=y:=aK (r.abs.symm.trans q.abs)
theorem Vals.inj:∀{xs ys:List V} {us:List aj},Vals xs us->Vals ys us->xs=ys
  |_,_,_,.nil,.nil=>rfl
  |_,_,_,.cons r t,.cons r' t'=>by rw[r.inj r',Vals.inj t t']
section
variable {X:Cx}{pins:List (aw×fM)}{Y:St}{H:Hp}{s:ar}{a:aw}{xs ys:List V}
def SqL.of{K:af}(h:H a=cz (.lst xs)):SqL K H a xs:=.inl (.inl h)
def SqT.of{K:af}(h:H a=cz (.tup xs)):SqT K H a xs:=.inl (.inl h)
def Inv.list(I:Inv X pins Y H s)(h:SqL X.K H a xs):∃cE:List aj,Vals xs cE/\PlainL s.heap a cE.toArray/\xs.length<=aV:=by
  rcases h with h|⟨o,cE,n,hk,hc,hd,hs,hz,r⟩
  · obtain⟨z,cE,n,r,e⟩:=h.ok I.hok
    exact⟨cE,r,⟨_,n,e,rfl,rfl,rfl⟩,z⟩
  · refine⟨cE.toList,r,⟨o,n,I.kIn a o hk,hc,hd,by simpa using hs⟩,?_⟩
    have e:=r.length;simp only[cg]at e;omega
def Inv.tuple(I:Inv X pins Y H s)(h:SqT X.K H a xs):∃cE:List aj,Vals xs cE/\IsTup s.heap a cE.toArray/\xs.length<=aV:=by
  rcases h with h|⟨o,cE,n,hk,hc,hs,hz,r⟩
  · obtain⟨z,cE,r,p⟩:=h.ok I.hok
    exact⟨cE,r,p,z⟩
  · refine⟨cE.toList,r,⟨o,I.kIn a o hk,hc,n,by simpa using hs⟩,?_⟩
    have e:=r.length;simp only[cg]at e;omega
def Inv.list_inj(I:Inv X pins Y H s)(h:SqL X.K H a xs)(h':SqL X.K H a ys):xs=ys:=by
  obtain⟨cE,r,⟨o,n,e,_,_,d⟩,_⟩:=I.list h;obtain⟨its',r',⟨o',n',e',_,_,d'⟩,_⟩:=I.list h';rw[e]at e';cases e';rw[d]at d'
  injection d' with d1 _
  have:cE=its':=by simpa using du Array.toList d1
  subst this;exact r.inj r'
def Inv.tuple_inj(I:Inv X pins Y H s)(h:SqT X.K H a xs)(h':SqT X.K H a ys):xs=ys:=by
  obtain⟨cE,r,⟨o,e,_,n,d⟩,_⟩:=I.tuple h;obtain⟨its',r',⟨o',e',_,n',d'⟩,_⟩:=I.tuple h';rw[e]at e';cases e';rw[d]at d'
  injection d' with d1 _
  have:cE=its':=by simpa using du Array.toList d1
  subst this;exact r.inj r'
end
abbrev Cx.wish(X:Cx)(E:aj->ar->Prop):Cx:={X with xe:=E}
abbrev Cx.nox(X:Cx):Cx:=X.wish λ_ _=>False
theorem Cx.Ok.wish{X:Cx}(ok:X.Ok)(E:aj->ar->Prop):(X.wish E).Ok:=
  ⟨ok.mod,ok.kind,ok.glob,ok.blt,ok.above,ok.inj,ok.has,ok.cab,ok.hd,ok.frames,ok.stk,ok.exf,ok.bs,ok.bsz,ok.noex,ok.exfs,ok.funs,ok.frf,ok.tabs⟩
def Cx.Ok.unwish{X:Cx}(ok:(X.wish E).Ok):X.Ok:=
  ⟨ok.mod,ok.kind,ok.glob,ok.blt,ok.above,ok.inj,ok.has,ok.cab,ok.hd,ok.frames,ok.stk,ok.exf,ok.bs,ok.bsz,ok.noex,ok.exfs,ok.funs,ok.frf,ok.tabs⟩
section
variable {X:Cx}{pins:List (aw×fM)}{Y:St}{H:Hp}{s:ar}{E:aj->ar->Prop}
theorem Inv.wish(I:Inv X pins Y H s)(E:aj->ar->Prop):Inv (X.wish E) pins Y H s:=⟨I.ok.wish E,I.os,I.bare,I.base,I.loc,I.cell,I.free,I.freeC,I.pin,I.hok,I.len⟩
theorem Inv.unwish(I:Inv (X.wish E) pins Y H s):Inv X pins Y H s:=⟨I.ok.unwish,I.os,I.bare,I.base,I.loc,I.cell,I.free,I.freeC,I.pin,I.hok,I.len⟩
theorem SP.unwish(h:SP (X.wish E) pins D f s'):SP X pins D f s':=by
  cases f with
  |next=>obtain⟨Y',H',I,q⟩:=h;exact⟨Y',H',I.unwish,q⟩
  |brk=>obtain⟨Y',H',I,q⟩:=h;exact⟨Y',H',I.unwish,q⟩
  |cont=>obtain⟨Y',H',I,q⟩:=h;exact⟨Y',H',I.unwish,q⟩
  |ret u=>obtain⟨v,Y',H',I,r,q⟩:=h;exact⟨v,Y',H',I.unwish,r,q⟩
theorem PSs.nox{st:List hZ}{t:TS}(h:PSs X.nox st t):PSs X st t:=λpins s Y H D I hw=>
  dg (h pins s Y H D (I.wish _) hw) (λ_ _ q=>q.unwish) λ_ _ z=>cK z
end
section
variable {X:Cx}{st:hZ}{rest:List hZ}{t u:TS}{e:Expr}{te:TE}{pos:eS}
def b1v:TS:=λD Y H=>D.nx Y H
def b6U(t u:TS):TS:=λD Y H=>t {D with nx:=u D} Y H
def a4Z:PSs X [] b1v:=λ_ _ Y H _ I h=>mr ⟨Y,H,I,h⟩
def V7(h1:PS X st t)(h2:PSs X rest u):PSs X (st::rest) (b6U t u):=by
  intro pins s Y H D I h;refine wpAny_execs_cons (thn (h1 pins s Y H {D with nx:=u D} I h) λf s1 q=>?_);cases f with
  |next=>
    obtain⟨Y',H',I',q⟩:=q;exact h2 pins s1 Y' H' D I' q
  |ret v=>exact q
  |brk=>exact q
  |cont=>exact q
def b4m(h1:PS X st t):PSs X [st] t:=by
  intro pins s Y H D I h;refine wpAny_execs_cons (thn (h1 pins s Y H D I h) λf s1 q=>?_);cases f with
  |next=>exact mr q
  |ret v=>exact q
  |brk=>exact q
  |cont=>exact q
def Inv.quiet{pins:List (aw×fM)}{Y:St}{H:Hp}{s:ar}(I:Inv X pins Y H s):interactive X.env=rp:=by simp[interactive,I.ok.kind]
def b9h(te:TE):TS:=λD Y H=>te Y H λ_ H1=>D.nx Y H1
def a0z(he:PE X e te)(hs:fB e el pos.line X.env=pure rp:=by rfl):PS X (.Expr e pos) (b9h te):=by
  intro pins s Y H D I h;exact wpAny_Expr_any (thn (he pins s Y H _ I h) λv s1 ⟨x,H1,I1,r1,q1⟩=>⟨Y,H1,I1,q1⟩) I.quiet hs
def c0V(te:TE):TS:=λD Y H=>te Y H D.rt
def b1w(he:PE X e te):PS X (.Return (cz e) pos) (c0V te):=by
  intro pins s Y H D I h;exact wpAny_Return_some (thn (he pins s Y H _ I h) λv s1 ⟨x,H1,I1,r1,q1⟩=>⟨x,Y,H1,I1,r1,q1⟩)
def b9i(c:TT)(t u:TS):TS:=λD Y H=>c Y H λb H1=>if b=p4 then t D Y H1 else u D Y H1
def b6j{c:Expr}{a b:List hZ}{tc:TT}(hc:PT X c tc)(ha:PSs X a t)(hb:PSs X b u):PS X (.If c a b pos) (b9i tc t u):=by
  intro pins s Y H D I h;refine wpAny_If (thn (hc pins s Y H _ I h) λd s1 ⟨H1,I1,q1⟩=>?_);cases d with
  |true=>exact ha pins s1 Y H1 D I1 q1
  |false=>exact hb pins s1 Y H1 D I1 q1
def b6V:TS:=λ_ _ _=>False
def b1x:PS X st b6V:=λ_ _ _ _ _ _ h=>h.elim
end
abbrev TG:=V->St->Hp->(St->Hp->Prop)->Prop
abbrev TGs:=List V->St->Hp->(St->Hp->Prop)->Prop
def PG(X:Cx)(target:Expr)(t:TG):Prop:=
  ∀(pins:List (aw×fM)) (s:ar) (Y:St) (H:Hp) (v:V) (u:aj) (Q:St->Hp->Prop),Inv X pins Y H s->RelV v u->t v Y H Q->
    aD (aX X.prog X.w) X.A (pq target X.env u) (λ_ s'=>∃Y' H',Inv X pins Y' H' s'/\Q Y' H') X.xe s
def PGs(X:Cx)(ts:List Expr)(t:TGs):Prop:=
  ∀(pins:List (aw×fM)) (s:ar) (Y:St) (H:Hp) (vs:List V) (us:List aj) (Q:St->Hp->Prop),Inv X pins Y H s->Vals vs us->t vs Y H Q->
    aD (aX X.prog X.w) X.A (assignInOrder ((iB ts X.env).map (·.2)) us) (λ_ s'=>∃Y' H',Inv X pins Y' H' s'/\Q Y' H') X.xe s
abbrev TIp:=V->V->Hp->VK->Prop
def PIp(X:Cx)(op:Operator)(t:TIp):Prop:=
  ∀(pins:List (aw×fM)) (s:ar) (Y:St) (H:Hp) (x y:V) (v u:aj) (Q:VK),Inv X pins Y H s->RelV x v->RelV y u->t x y H Q->
    aD (aX X.prog X.w) X.A (inplaceOp op v u) (EP X pins Y Q) X.xe s
section
variable {X:Cx}{pos:eS}
def Q5(i:Nat):TG:=λv Y H Q=>Q (Y.set i (cz v)) H
def p5(hN:X.N.Nodup)(hi:X.N[i]?=cz x)(hx:Loc X.env.scope x)(hf:X.fn x=p4\/X.env.scope.names.lookup x=cz .local:=by first|exact .inl rfl|exact .inr rfl|assumption):PG X (.Name x pos) (Q5 i):=by
  intro pins s Y H v u Q I r h;exact wpAny_assign_Name (a0y I hN hi hx r (λs' I'=>⟨_,H,I',h⟩) hf)
def b4n:TGs:=λvs Y H Q=>vs=[]/\Q Y H
def a2E(t:TG)(u:TGs):TGs:=λvs Y H Q=>∃v r,vs=v::r/\t v Y H λY' H'=>u r Y' H' Q
def K7:PGs X [] b4n:=by
  intro pins s Y H vs us Q I r h;obtain⟨e,h⟩:=h;subst e;cases r
  exact assignInOrder_nil ⟨Y,H,I,h⟩
def p6{e:Expr}{es:List Expr}{t:TG}{u:TGs}(h1:PG X e t)(h2:PGs X es u)
    (hs:(iB (e::es) X.env).map (·.2)=pq e X.env::(iB es X.env).map (·.2):=by rfl):PGs X (e::es) (a2E t u):=by
  intro pins s Y H vs us Q I r h;obtain⟨v,vr,e1,h⟩:=h;subst e1;cases r with
  |cons r rr=>
    rw[hs];refine assignInOrder_cons (thn (h1 pins s Y H _ _ _ I r h) λ_ s1 ⟨Y1,H1,I1,q1⟩=>?_);exact h2 pins s1 Y1 H1 _ _ Q I1 rr q1
def b6W(K:af)(n:Nat)(t:TGs):TG:=λv Y H Q=>∃a xs,v=.ref a/\SqT K H a xs/\xs.length=n/\t xs Y H Q
def V8(hc:X.calm=p4)(h:PGs X es t)
    (hn:(iB es X.env).length=n:=by rfl) (rP:(iB es X.env).findIdx? (·.1)=el:=by rfl):PG X (.Tuple es k pos) (b6W X.K n t):=by
  intro pins s Y H v u Q I r hw;obtain⟨a,xs,e1,hq,hl,hw⟩:=hw;subst e1;cases r
  obtain⟨cE,rv,ht,hz⟩:=I.tuple hq;refine assign_Tuple_tuple (I.ok.hd hc) ht (by simp[hn,<-hl,rv.length]) rP λh' hx=>?_
  have I1:Inv X pins Y H {s with heap:=h'}:=I.kept (t':=s.toks) λb o e=>hx b o (bc (aI e)) e
  exact h pins _ Y H xs _ Q I1 (by simpa using rv) hw
def b6X(te:TE)(g:TG):TS:=λD Y H=>te Y H λx H1=>g x Y H1 D.nx
def b6Y{tg e:Expr}{te:TE}{g:TG}(he:PE X e te)(hg:PG X tg g)(hs:swapsWithSole [tg] e pos.line X.env=pure rp:=by rfl)(hw:swappedStores [tg] e X.env=pure el:=by rfl)
    (h1:(iB [tg] X.env).map (·.2)=[pq tg X.env]:=by rfl):PS X (.Assign [tg] e pos) (b6X te g):=by
  intro pins s Y H D I h;refine wpAny_Assign_stores (thn (he pins s Y H _ I h) λv s1 ⟨x,H1,I1,r1,q1⟩=>?_) hs hw;rw[h1];exact thn (hg pins s1 Y H1 x v _ I1 r1 q1) λ_ s2 q=>q
def b1y{i:Nat}{x:bC}{e:Expr}{te:TE}{pos':eS}(hN:X.N.Nodup)(hi:X.N[i]?=cz x)(hx:Loc X.env.scope x)(he:PE X e te)(hs:fB e (cz (.Name x pos')) pos.line X.env=pure rp:=by rfl)(hf:X.fn x=p4\/X.env.scope.names.lookup x=cz .local:=by first|exact .inl rfl|exact .inr rfl|assumption) :
    PS X (.Assign [.Name x pos'] e pos) (b6X te (Q5 i)):=by
  intro pins s Y H D I h;refine wpAny_Assign_Name (thn (he pins s Y H _ I h) λv s1 ⟨y,H1,I1,r1,q1⟩=>?_) hs;exact a0y I1 hN hi hx r1 (λs2 I2=>⟨_,H1,I2,q1⟩) hf
def c0W(i:Nat)(te:TE)(ti:TIp):TS:=λD Y H=>∃x,Y[i]?=cz (cz x)/\te Y H λy H1=>ti x y H1 λz H2=>D.nx (Y.set i (cz z)) H2
def b6Z{i:Nat}{x:bC}{e:Expr}{te:TE}{op:Operator}{ti:TIp}{pos':eS}(hN:X.N.Nodup)(hi:X.N[i]?=cz x)(hx:Loc X.env.scope x)(he:PE X e te)(ho:PIp X op ti)(hf:X.fn x=p4\/X.env.scope.names.lookup x=cz .local:=by first|exact .inl rfl|exact .inr rfl|assumption) :
    PS X (.AugAssign (.Name x pos') op e pos) (c0W i te ti):=by
  intro pins s Y H D I h;obtain⟨v,e1,h⟩:=h;obtain⟨m,hn,hl⟩:=I.loc;have CH:Vis X.env.scope x:=by rcases hx with k|k;exact .inl k;exact .inr (.inl k)
  obtain⟨u,r,l⟩:=hl i x v hi e1 CH;refine wpAny_AugAssign_Name ?_;have go:aD (aX X.prog X.w) X.A (cn e X.env) (λw s₂=>aD (aX X.prog X.w) X.A (inplaceOp op u w) (λr s₃=>aD (aX X.prog X.w) X.A (storeName X.env x r) (λ_=>SP X pins D .next) X.xe s₃) X.xe s₂) X.xe s:=by
    refine thn (he pins s Y H _ I h) λw s1 ⟨y,H1,I1,r1,q1⟩=>?_
    refine thn (ho pins s1 Y H1 v y u w _ I1 r r1 q1) λz s2 ⟨zv,H2,I2,r2,q2⟩=>?_
    exact a0y I2 hN hi hx r2 (λs3 I3=>⟨_,H2,I3,q2⟩) hf
  rcases l with⟨hk,hm⟩|⟨hk,c,hc,kW⟩
  · exact wpAny_loadName_local I.ok.kind hk hn hm go
  · rcases hk with hk|hk
    · exact wpAny_loadName_cell I.ok.kind hk hc kW go
    · rcases hx with k|k
      · have:X.env.scope.names.lookup x=cz .free:=hk
        rw[k]at this;cases this
      · have:X.env.scope.names.lookup x=cz .free:=hk
        rw[k]at this;cases this
def ipI(f:Int->Int->Int):TIp:=λx y H Q=>∃i j,x=.int i/\y=.int j/\Q (.int (f i j)) H
def b7a:PIp X .Add (ipI λi j=>i+j):=by
  intro pins s Y H x y v u Q I r1 r2 h;obtain⟨i,j,e1,e2,q⟩:=h;subst e1;subst e2;obtain⟨t,rfl⟩:=r1;obtain⟨t',rfl⟩:=r2;exact iadd_int ⟨.int _,H,I.tok _,⟨_,rfl⟩,q⟩
def b7b(c:TT)(tb:TS):TS:=λD Y H=>∃W:Nat->St->Hp->Prop,(∃m,W m Y H)/\∀m Y H,W m Y H->
  c Y H λb H1=>if b=p4 then ∃N:St->Hp->Prop,(∀Y' H',N Y' H'->∃m',m'<m/\W m' Y' H')/\tb {D with nx:=N,ct:=N,bk:=D.nx} Y H1 else D.nx Y H1
def b1z{c:Expr}{body:List hZ}{tc:TT}{tb:TS}(hp:nX (aX X.prog X.w) X.A X.env X.xe)(hc:PT X c tc)(hb:PSs X body tb):PS X (.While c body [] pos) (b7b tc tb):=by
  intro pins s Y H D I h;obtain⟨W,⟨m0,w0⟩,turn⟩:=h;refine wpAny_While (codeAny_whileLoop (λn s'=>∃Y' H',Inv X pins Y' H' s'/\W n Y' H') ?_ m0 ⟨Y,H,I,w0⟩);rintro n s1 ⟨Y1,H1,I1,w1⟩;refine gx hp (thn (hc pins s1 Y1 H1 _ I1 (turn n Y1 H1 w1)) λb s2 ⟨H2,I2,q2⟩=>?_);cases b with
  |true=>
    obtain⟨N,hN,q2⟩:=q2;rw[aG rfl];refine gx hp (thn (hb pins s2 Y1 H2 _ I2 q2) λf s3 q3=>?_);cases f with
    |next=>
      obtain⟨Y3,H3,I3,n3⟩:=q3;obtain⟨m',hm,w3⟩:=hN Y3 H3 n3;exact⟨m',hm,Y3,H3,I3,w3⟩
    |cont=>
      obtain⟨Y3,H3,I3,n3⟩:=q3;obtain⟨m',hm,w3⟩:=hN Y3 H3 n3;exact⟨m',hm,Y3,H3,I3,w3⟩
    |brk=>exact q3
    |ret v=>exact q3
  |false=>
    rw[aL aY];exact mr ⟨Y1,H2,I2,q2⟩
end
structure It where
  go:Nat->Hp->Prop
  yld:Nat->Hp->V->Hp->Prop
  stop:Nat->Hp->Prop
def a0A(X:Cx)(pins:List (aw×fM))(H:Hp)(b:aw):Prop:=
  H b=el/\b≠X.env.locals/\b∉X.fs/\(b∈X.ex\/X.s₀.heap.objs.size<=b)/\(∀x c,X.env.cells.lookup x=cz c->c≠b)/\∀p∈X.pn++pins,p.1≠b
def Inv.fpOk(I:Inv X pins Y H s)(hb:s.heap.objs.size<=b)(hn:H' b=el):a0A X pins H' b:=by
  refine⟨hn,ef (bA I.lt hb),I.nofs hb,.inr (cA I.sz hb),λx c e z=>?_,λp hp z=>?_⟩
  · obtain⟨v,q⟩:=I.cell x c e
    exact absurd (bA q.lt (by rw[z];exact hb)) (dt _)
  · exact absurd (bA (aI (I.pin p hp).1) (by rw[z];exact hb)) (dt _)
structure Turn (P:bz) (w:bI) (K:af) (tg:Expr) (J:It) (fp:List aw) (it:aw) (tn:Nat->bQ->Prop):Prop where
  mem:it∈fp
  obj:∀i h,tn i h->∀b∈fp,∃o,h.get? b=cz o/\∀v,o.data≠.cell v
  keep:∀i h h',tn i h->(∀b∈fp,∀o,h.get? b=cz o->h'.get? b=cz o)->tn i h'
  item:∀(X:Cx),X.prog=P->X.w=w->X.K=K->X.calm=p4->∀(i:Nat) (pins:List (aw×fM)) (s:ar) (Y:St) (H:Hp) (E:aj->ar->Prop),Inv X pins Y H s->(∀b∈fp,a0A X pins H b)->tn i s.heap->J.go i H->
    aD (aX P w) X.A (fT (.ref it)) (λr s1=>∃u,r=cz u/\
      aD (aX P w) X.A (mw tg (.ref it) u) (λ_ s2=>∃x H',Inv X pins Y H' s2/\RelV x u/\J.yld i H x H'/\tn (i+1) s2.heap/\∀b∈fp,H' b=el) E s1) E s
  done:∀(X:Cx),X.prog=P->X.w=w->X.K=K->X.calm=p4->∀(i:Nat) (pins:List (aw×fM)) (s:ar) (Y:St) (H:Hp) (E:aj->ar->Prop),Inv X pins Y H s->(∀b∈fp,a0A X pins H b)->tn i s.heap->J.stop i H->
    aD (aX P w) X.A (fT (.ref it)) (λr s1=>r=el/\Inv X pins Y H s1) E s
  self:∀(A:bD) (i:Nat) (s:ar) (Q:aj->ar->Prop) (E:aj->ar->Prop),tn i s.heap->Q (.ref it) s->aD (aX P w) A (rG (.ref it)) Q E s
abbrev TI:=St->Hp->(It->Hp->Prop)->Prop
def PIE(X:Cx)(pins:List (aw×fM))(Y:St)(tg:Expr)(R:It->Hp->Prop)(yL:aj)(s2:ar):Prop:=
  ∃(it:aw) (fp:List aw) (tn:Nat->bQ->Prop) (J:It) (H':Hp),yL=.ref it/\Inv X pins Y H' s2/\Turn X.prog X.w X.K tg J fp it tn/\tn 0 s2.heap/\(∀b∈fp,a0A X pins H' b)/\R J H'
def PI(X:Cx)(tg iter:Expr)(wi:TI):Prop:=
  ∀(pins:List (aw×fM)) (s:ar) (Y:St) (H:Hp) (R:It->Hp->Prop),Inv X pins Y H s->wi Y H R->
    aD (aX X.prog X.w) X.A (cn iter X.env) (λv s1=>aD (aX X.prog X.w) X.A (rG v) (PIE X pins Y tg R) X.xe s1) X.xe s
def a5V{s:ar}(ho:s.heap.get? it=cz o)(hc:o.cls=.type n)(hd:o.data=.fields vs)
    (hn:["enumerate","zip","dict_itemiterator","dict_reverseitemiterator","odict_iterator","itertools.zip_longest","itertools.pairwise"].contains n=rp) (hQ:Q () s):aD M A (mw tg (.ref it) u) Q E s:=by
  unfold mw;cases tg<;>first
    |exact ae hQ
    | (cases u<;>first
        |exact ae hQ
        | (refine ab (ma ho ?_)
           rw[hc,hd];show aD M A (if (["enumerate","zip","dict_itemiterator","dict_reverseitemiterator","odict_iterator","itertools.zip_longest","itertools.pairwise"].contains n&&vs[0]?==cz (de _))=p4 then _ else _) Q E s;rw[aL (by intro h;rw[hn,Bool.false_and]at h;cases h)];exact ae hQ))
def Itl(K:af)(a:aw):It:=
  ⟨λi H=>∃xs x,SqL K H a xs/\xs[i]?=cz x,λi H x H'=>H'=H/\∀xs,SqL K H a xs->xs[i]?=cz x,λi H=>∃xs,SqL K H a xs/\xs.length<=i⟩
def Itt(K:af)(a:aw):It:=
  ⟨λi H=>∃xs x,SqT K H a xs/\xs[i]?=cz x,λi H x H'=>H'=H/\∀xs,SqT K H a xs->xs[i]?=cz x,λi H=>∃xs,SqT K H a xs/\xs.length<=i⟩
def Itr(lo:Int)(n:Nat):It:=⟨λi _=>i<n,λi H x H'=>H'=H/\x=.int (lo+i),λi _=>n<=i⟩
def a9M{P:bz}{w:bI}{K:af}{tg:Expr}(a it:aw):Turn P w K tg (Itl K a) [it] it (λi h=>h.IsListIter it a i) where
  mem:=by simp
  obj:=λi h st b hb=>by
    have e:b=it:=by simpa using hb
    subst e;obtain⟨o,e,c,d⟩:=st;exact⟨o,e,λv z=>by rw[d]at z;cases z⟩
  keep:=λi h h' st k=>st.at λo e=>k it (by simp) o e
  item:=by
    intro X hP hw hK hc i pins s Y H E I hf st hg;subst hP hw hK;obtain⟨xs,x,hq,hx⟩:=hg;obtain⟨cE,rv,p,hz⟩:=I.list hq;obtain⟨u,hu,ru⟩:=rv.get hx;obtain⟨f0,f1,f2,f3,f4,f5⟩:=hf it (by simp);refine wpAny_pyNext_list_item st p.isList (x:=u) (by simpa using hu) λh' nT sb=>?_
    have I1:Inv X pins Y H {s with heap:=h'}:=I.turned (t':=s.toks) (λb o hb e=>(sb.2 b hb).trans e) f0 f1 f3 f4 f5;obtain⟨o,e,c,d⟩:=id nT;exact⟨u,rfl,a5V (s:={s with heap:=h'}) e c d (by decide) ⟨x,H,I1,ru,⟨rfl,λys hy=>by rw[I.list_inj hy hq];exact hx⟩,nT,λb hb=>(hf b hb).1⟩⟩
  done:=by
    intro X hP hw hK hc i pins s Y H E I hf st hg;subst hP hw hK;obtain⟨xs,hq,hx⟩:=hg;obtain⟨cE,rv,p,hz⟩:=I.list hq;obtain⟨f0,f1,f2,f3,f4,f5⟩:=hf it (by simp);have hl:=rv.length;exact wpAny_pyNext_list_end (I.ok.hd hc) st p.isList (by simp;omega) λh' eb=>⟨rfl,I.turned (t':=s.toks) (λb o hb e=>eb b o hb e) f0 f1 f3 f4 f5⟩
  self:=λ_ _ _ _ _ st h=>wpAny_pyIter_listiter st h
def a7u{P:bz}{w:bI}{K:af}{tg:Expr}(a it:aw):Turn P w K tg (Itt K a) [it] it (λi h=>h.IsTupleIter it a i) where
  mem:=by simp
  obj:=λi h st b hb=>by
    have e:b=it:=by simpa using hb
    subst e;obtain⟨o,e,c,d⟩:=st;exact⟨o,e,λv z=>by rw[d]at z;cases z⟩
  keep:=λi h h' st k=>st.at λo e=>k it (by simp) o e
  item:=by
    intro X hP hw hK hc i pins s Y H E I hf st hg;subst hP hw hK;obtain⟨xs,x,hq,hx⟩:=hg;obtain⟨cE,rv,p,hz⟩:=I.tuple hq;obtain⟨u,hu,ru⟩:=rv.get hx;obtain⟨f0,f1,f2,f3,f4,f5⟩:=hf it (by simp);refine wpAny_pyNext_tuple_item st (show s.heap.IsTuple a cE.toArray from p) (x:=u) (by simpa using hu) λh' nT sb=>?_
    have I1:Inv X pins Y H {s with heap:=h'}:=I.turned (t':=s.toks) (λb o hb e=>(sb.2 b hb).trans e) f0 f1 f3 f4 f5;obtain⟨o,e,c,d⟩:=id nT;exact⟨u,rfl,a5V (s:={s with heap:=h'}) e c d (by decide) ⟨x,H,I1,ru,⟨rfl,λys hy=>by rw[I.tuple_inj hy hq];exact hx⟩,nT,λb hb=>(hf b hb).1⟩⟩
  done:=by
    intro X hP hw hK hc i pins s Y H E I hf st hg;subst hP hw hK;obtain⟨xs,hq,hx⟩:=hg;obtain⟨cE,rv,p,hz⟩:=I.tuple hq;obtain⟨f0,f1,f2,f3,f4,f5⟩:=hf it (by simp);have hl:=rv.length;exact wpAny_pyNext_tuple_end (I.ok.hd hc) st (show s.heap.IsTuple a cE.toArray from p) (by simp;omega) λh' eb=>⟨rfl,I.turned (t':=s.toks) (λb o hb e=>eb b o hb e) f0 f1 f3 f4 f5⟩
  self:=λ_ _ _ _ _ st h=>wpAny_pyIter_tupleiter st h
def a7v{P:bz}{w:bI}{K:af}{tg:Expr}(it:aw)(lo:Int)(n:Nat):Turn P w K tg (Itr lo n) [it] it (λi h=>IsRangeIter h it (lo+(i:Nat)*1) ((n:Int)-(i:Nat)) 1) where
  mem:=by simp
  obj:=λi h st b hb=>by
    have e:b=it:=by simpa using hb
    subst e;exact⟨_,st,λv z=>by
      have z':Data.fields _=Data.cell v:=z;cases z'⟩
  keep:=λi h h' st k=>k it (by simp) _ st
  item:=by
    intro X hP hw hK hc i pins s Y H E I hf st hg;subst hP hw hK;obtain⟨f0,f1,f2,f3,f4,f5⟩:=hf it (by simp);have W:=Walks.range (prog:=X.prog) (w:=X.w) (I.ok.hd hc) it lo 1 n;refine W.item i s _ _ hg st λv h' tk hv nT kk=>?_
    obtain⟨t,rfl⟩:=hv;have I1:Inv X pins Y H {s with heap:=h',toks:=tk}:=I.turned (λb o hb e=>kk b o (by simpa using hb) e) f0 f1 f3 f4 f5;refine⟨_,rfl,a5V (s:={s with heap:=h',toks:=tk}) (n:="range_iterator") nT rfl rfl (by decide) ⟨.int (lo+i),H,I1,⟨t,?_⟩,⟨rfl,rfl⟩,nT,λb hb=>(hf b hb).1⟩⟩;rw[Int.mul_one]
  done:=by
    intro X hP hw hK hc i pins s Y H E I hf st hg;subst hP hw hK;obtain⟨f0,f1,f2,f3,f4,f5⟩:=hf it (by simp);exact wpAny_pyNext_range_end (I.ok.hd hc) st (by have:n<=i:=hg;omega) λh' eb=>⟨rfl,I.turned (t':=s.toks) (λb o hb e=>eb b o hb e) f0 f1 f3 f4 f5⟩
  self:=λ_ _ _ _ _ st h=>wpAny_pyIter_rangeiter st h
section
variable {X:Cx}{tg:Expr}
def b9j(K:af)(tl:TE):TI:=λY H R=>tl Y H λx H1=>∃a,x=.ref a/\(∃xs,SqL K H1 a xs)/\R (Itl K a) H1
def c0X(K:af)(tl:TE):TI:=λY H R=>tl Y H λx H1=>∃a,x=.ref a/\(∃xs,SqT K H1 a xs)/\R (Itt K a) H1
def b4o{l:Expr}{tl:TE}(hl:PE X l tl):PI X tg l (b9j X.K tl):=by
  intro pins s Y H R I h;refine thn (hl pins s Y H _ I h) λv s1 ⟨x,H1,I1,r1,q1⟩=>?_
  obtain⟨a,e,⟨xs,hq⟩,q⟩:=q1;subst e;cases r1
  obtain⟨cE,rv,p,hz⟩:=I1.list hq;refine pP p.isList ?_;refine⟨s1.heap.objs.size,[s1.heap.objs.size],_,_,H1,rfl,I1.kept (t':=s1.toks) λb o e=>ag _ e,a9M a _,⟨_,aH _ rfl,rfl,rfl⟩,λb hb=>?_,q⟩;have e:b=s1.heap.objs.size:=by simpa using hb
  subst e;exact I1.fpOk (aE _) (I1.hok.fresh (aE _))
def b7c(hl:PE X l tl):PI X tg l (c0X X.K tl):=by
  intro pins s Y H R I h;refine thn (hl pins s Y H _ I h) λv s1 ⟨x,H1,I1,r1,q1⟩=>?_
  obtain⟨a,e,⟨xs,hq⟩,q⟩:=q1;subst e;cases r1
  obtain⟨cE,rv,p,hz⟩:=I1.tuple hq;refine oO (show s1.heap.IsTuple a cE.toArray from p) ?_;refine⟨s1.heap.objs.size,[s1.heap.objs.size],_,_,H1,rfl,I1.kept (t':=s1.toks) λb o e=>ag _ e,a7u a _,⟨_,aH _ rfl,rfl,rfl⟩,λb hb=>?_,q⟩;have e:b=s1.heap.objs.size:=by simpa using hb
  subst e;exact I1.fpOk (aE _) (I1.hok.fresh (aE _))
def b1A{pins:List (aw×fM)}{Y:St}{H:Hp}{s:ar}{R:It->Hp->Prop}{E:aj->ar->Prop}{lo hi:Int}{t u v:Tok}{tk:Nat}(I:Inv X pins Y H s)(h1:-(2^62)<=lo)(h2:lo<2^62)(h3:-(2^62)<=hi)(h4:hi<2^62)
    (q:R (Itr lo (hi-lo).toNat) H):aD (aX X.prog X.w) X.A (rG (.ref s.heap.objs.size)) (PIE X pins Y tg R) E {s with heap:=s.heap.push {cls:=.type "range",data:=.fields #[.int lo t,.int hi u,.int 1 v]},toks:=tk}:=by
  refine wpAny_pyIter_range (IsRange.new ..) (small_one h1 h2 h3 h4) ?_;have I1:Inv X pins Y H {s with heap:=s.heap.push {cls:=.type "range",data:=.fields #[.int lo t,.int hi u,.int 1 v]},toks:=tk}:=I.kept λb o e=>ag _ e
  refine⟨(s.heap.push {cls:=.type "range",data:=.fields #[.int lo t,.int hi u,.int 1 v]}).objs.size,[(s.heap.push {cls:=.type "range",data:=.fields #[.int lo t,.int hi u,.int 1 v]}).objs.size],_,_,H,rfl,
    I1.kept (t':=tk) λb o e=>ag _ e,a7v _ lo (hi-lo).toNat,?_,λb hb=>?_,q⟩
  · have e1:lo+((0:Nat):Int)*1=lo:=by simp
    have e2:(((hi-lo).toNat:Nat):Int)-((0:Nat):Int)=Builtin.Range.rangeSize lo hi 1:=by rw[rangeSize_one];split<;>omega
    show IsRangeIter _ _ (lo+((0:Nat):Int)*1) ((((hi-lo).toNat:Nat):Int)-((0:Nat):Int)) 1;rw[e1,e2];exact aH _ rfl
  · have e:b=(s.heap.push {cls:=.type "range",data:=.fields #[.int lo t,.int hi u,.int 1 v]}).objs.size:=by simpa using hb
    subst e;exact I1.fpOk (aE _) (I1.hok.fresh (aE _))
def b9k(ta:TA):TI:=λY H R=>ta Y H λvs H1=>∃j:Int,vs=[.int j]/\-(2^62)<=j/\j<2^62/\R (Itr 0 j.toNat) H1
def a9N{a:Expr}{ta:TA}{p pos:eS}(hg:Gl X "range")(hm:X.mg "range"=el)(ha:PA X [a] ta)(hs:ax [a] X.env=[(rp,cn a X.env)]:=by rfl):PI X tg (.Call (.Name "range" p) [a] [] pos) (b9k ta):=by
  intro pins s Y H R I h;refine Call_ (a0i I hg hm boot_range (eR (thn (ha pos pins s Y H _ I h) λus s1 ⟨vs,H1,I1,r1,q1⟩=>?_) hs rfl));obtain⟨j,e,q1,q2,q⟩:=q1;subst e;cases r1 with
  |cons r rr=>
    cases rr
    obtain⟨t,rfl⟩:=r;exact call_range_1 (b1A I1 (by omega) (by omega) q1 q2 (by simpa using q))
def c0Y(wi:TI)(g:TG)(tb:TS):TS:=λD Y H=>wi Y H λJ H1=>∃W:Nat->Nat->St->Hp->Prop,(∃m,W 0 m Y H1)/\∀i m Y H,W i m Y H->
  (J.stop i H/\D.nx Y H)\/(J.go i H/\∃N:St->Hp->Prop,(∀Y' H',N Y' H'->∃m',m'<m/\W (i+1) m' Y' H')/\∀x H',J.yld i H x H'->g x Y H' λY2 H2=>tb {D with nx:=N,ct:=N,bk:=D.nx} Y2 H2)
def a5a(fp:List aw)(h:bQ):List (aw×fM):=fp.filterMap λb=>(h.get? b).map λo=>(b,o)
def E4{h:bQ}(hb:b∈fp)(e:h.get? b=cz o):(b,o)∈a5a fp h:=dY.mpr ⟨b,hb,by rw[e];rfl⟩
def a9O(hp:p∈a5a fp h):p.1∈fp/\h.get? p.1=cz p.2:=by
  obtain⟨b,hb,e⟩:=dY.mp hp;cases q:h.get? b with
  |none=>rw[q]at e;cases e
  |some o=>
    rw[q]at e;have e':(b,o)=p:=aK e;subst e';exact⟨hb,q⟩
def Inv.pinned(I:Inv X pins Y H s)(hf:∀b∈fp,a0A X pins H b)(ho:∀b∈fp,∃o,s.heap.get? b=cz o/\∀v,o.data≠.cell v):Inv X (pins++a5a fp s.heap) Y H s:=
  I.pins_of λp hp=>(aB.mp hp).elim (λz=>I.pin p (ay _ z)) λz=>by
    obtain⟨hb,e⟩:=a9O z;obtain⟨f0,f1,f2,_⟩:=hf p.1 hb;obtain⟨o,e',d⟩:=ho p.1 hb;rw[e]at e';cases e';exact⟨e,f0,f1,f2,d⟩
def Inv.unpinned(I:Inv X (pins++pl) Y H s):Inv X pins Y H s:=I.pins_of λp hp=>I.pin p (ay _ (aJ _ hp))
def a7w(hp:nX (aX X.prog X.w) X.A X.env X.xe)(hc:X.calm=p4)(hi:PI X tg iter wi)(hg:PG X tg g)(hb:PSs X body tb)
    (hs:∀x,eW iter X.env x=pure x:=by intro _;rfl):PS X (.For tg iter body [] pos) (c0Y wi g tb):=by
  intro pins s Y H D I h;refine wpAny_For (thn (hi pins s Y H _ I h) λv s1 h1=>thn h1 λyL s2 h2=>?_) hs;obtain⟨it,fp,tn,J,H2,e,I2,T,rF,f2,W,⟨m0,w0⟩,turn⟩:=h2;subst e;have nZ:∀{H':Hp},(∀b∈fp,H' b=el)->∀b∈fp,a0A X pins H' b:=λhn b hb=>⟨hn b hb,(f2 b hb).2⟩
  refine codeAny_forLoop_any (λn s'=>∃i Y' H',Inv X pins Y' H' s'/\tn i s'.heap/\(∀b∈fp,H' b=el)/\W i n Y' H') ?_ m0 ⟨0,Y,H2,I2,rF,λb hb=>(f2 b hb).1,w0⟩;rintro n s3 ⟨i,Y3,H3,I3,vm,wU,w3⟩;rcases turn i n Y3 H3 w3 with⟨stop,qn⟩|⟨go,N,hN,step⟩
  · refine gx hp (thn (T.done X rfl rfl rfl hc i pins s3 Y3 H3 X.xe I3 (nZ wU) vm stop) λr s4 ⟨hr,I4⟩=>?_)
    subst hr;exact mr ⟨Y3,H3,I4,qn⟩
  · refine gx hp (thn (T.item X rfl rfl rfl hc i pins s3 Y3 H3 X.xe I3 (nZ wU) vm go) λr s4 ⟨u,hr,h4⟩=>?_)
    subst hr;refine gx hp (thn h4 λ_ s5 ⟨x,H5,I5,r5,y5,rE,Ac⟩=>?_);have Au:=I5.pinned (nZ Ac) (T.obj _ _ rE);refine gx hp (thn (hg _ s5 Y3 H5 x u _ Au r5 (step x H5 y5)) λ_ s6 ⟨Y6,H6,I6,q6⟩=>?_);refine gx hp (thn (hb _ s6 Y6 H6 _ I6 q6) λf s7 q7=>?_);have again:∀{Y7:St} {H7:Hp},Inv X (pins++a5a fp s5.heap) Y7 H7 s7->N Y7 H7->∃m,m<n/\∃i Y' H',Inv X pins Y' H' s7/\tn i s7.heap/\(∀b∈fp,H' b=el)/\W i m Y' H':=λ{Y7 H7} I7 n7=>by
      obtain⟨m',hm,w7⟩:=hN Y7 H7 n7;refine⟨m',hm,i+1,Y7,H7,I7.unpinned,T.keep _ _ _ rE λb hb o e=>(I7.pin (b,o) (ay _ (ay _ (E4 hb e)))).1,λb hb=>?_,w7⟩;obtain⟨o,e,d⟩:=T.obj _ _ rE b hb;exact (I7.pin (b,o) (ay _ (ay _ (E4 hb e)))).2.1
    cases f with
    |next=>obtain⟨Y7,H7,I7,n7⟩:=q7;exact again I7 n7
    |cont=>obtain⟨Y7,H7,I7,n7⟩:=q7;exact again I7 n7
    |brk=>obtain⟨Y7,H7,I7,q7⟩:=q7;exact⟨Y7,H7,I7.unpinned,q7⟩
    |ret v=>obtain⟨x7,Y7,H7,I7,r7,q7⟩:=q7;exact⟨x7,Y7,H7,I7.unpinned,r7,q7⟩
end
abbrev R2:=V->V->Hp->VK->Prop
def OpR(X:Cx)(f:aj->aj->Sem aj)(r:R2):Prop:=
  ∀(pins:List (aw×fM)) (s:ar) (Y:St) (H:Hp) (x y:V) (v u:aj) (Q:VK),Inv X pins Y H s->RelV x v->RelV y u->r x y H Q->
    aD (aX X.prog X.w) X.A (f v u) (EP X pins Y Q) X.xe s
def CallR(X:Cx)(f:aj)(r:List V->Hp->VK->Prop):Prop:=
  ∀(pins:List (aw×fM)) (s:ar) (Y:St) (H:Hp) (xs:List V) (us:List aj) (Q:VK),Inv X pins Y H s->Vals xs us->r xs H Q->
    aD (aX X.prog X.w) X.A (call f us) (EP X pins Y Q) X.xe s
def c0Z(X:Cx)(r:V->Hp->(Bool->Hp->Prop)->Prop):Prop:=
  ∀(pins:List (aw×fM)) (s:ar) (Y:St) (H:Hp) (x:V) (v:aj) (Q:Bool->Hp->Prop),Inv X pins Y H s->RelV x v->r x H Q->
    aD (aX X.prog X.w) X.A (vk v) (TP X pins Y Q) X.xe s
def tOp(r:R2)(ta tb:TE):TE:=λY H Q=>ta Y H λx H1=>tb Y H1 λy H2=>r x y H2 Q
def rI(C:Int->Int->Prop)(g:Int->Int->V):R2:=λx y H Q=>∃i j,x=.int i/\y=.int j/\C i j/\Q (g i j) H
def rI0(g:Int->Int->V):R2:=λx y H Q=>∃i j,x=.int i/\y=.int j/\Q (g i j) H
section
variable {X:Cx}{a b c:Expr}{ta tb tc:TE}{pos:eS}
def b7d(ha:PE X a ta)(hb:PE X b tb){pins:List (aw×fM)}{s:ar}{Y:St}{H:Hp}{R:V->V->Hp->Prop}(I:Inv X pins Y H s)
    (h:ta Y H λx H1=>tb Y H1 λy H2=>R x y H2) {Q:aj->ar->Prop} {f:aj->aj->Sem aj}
    (hf:∀v u s2 x y H2,Inv X pins Y H2 s2->RelV x v->RelV y u->R x y H2->aD (aX X.prog X.w) X.A (f v u) Q X.xe s2) :
    aD (aX X.prog X.w) X.A (cn a X.env) (λv s₁=>aD (aX X.prog X.w) X.A (cn b X.env) (λu s₂=>aD (aX X.prog X.w) X.A (f v u) Q X.xe s₂) X.xe s₁) X.xe s:=by
  refine thn (ha pins s Y H _ I h) λv s1 ⟨x,H1,I1,r1,q1⟩=>?_
  refine thn (hb pins s1 Y H1 _ I1 q1) λu s2 ⟨y,H2,I2,r2,q2⟩=>?_
  exact hf v u s2 x y H2 I2 r1 r2 q2
def b1B{op:Operator}{r:R2}(ho:OpR X (eO op) r)(ha:PE X a ta)(hb:PE X b tb):PE X (.BinOp a op b pos) (tOp r ta tb):=by
  intro pins s Y H Q I h;exact wpAny_BinOp (b7d ha hb I h λv u s2 x y H2 I2 rx ry q=>ho pins s2 Y H2 x y v u Q I2 rx ry q)
def opI{f:aj->aj->Sem aj}{C:Int->Int->Prop}{g:Int->Int->Int}
    (rule:∀(i j:Int) (t u:Tok) (s:ar) (Q:aj->ar->Prop) (E:aj->ar->Prop),C i j->Q (.int (g i j) s.toks) {s with toks:=s.toks+1}->aD (aX X.prog X.w) X.A (f (.int i t) (.int j u)) Q E s) :
    OpR X f (rI C λi j=>.int (g i j)):=by
  intro pins s Y H x y v u Q I rx ry h;obtain⟨i,j,rfl,rfl,hc,q⟩:=h;obtain⟨t,rfl⟩:=rx;obtain⟨t',rfl⟩:=ry;exact rule i j t t' s _ _ hc ⟨.int (g i j),H,I.tok _,⟨_,rfl⟩,q⟩
def b9l{f:aj->aj->Sem aj}{g:Int->Int->Int}
    (rule:∀(i j:Int) (t u:Tok) (s:ar) (Q:aj->ar->Prop) (E:aj->ar->Prop),Q (.int (g i j) s.toks) {s with toks:=s.toks+1}->aD (aX X.prog X.w) X.A (f (.int i t) (.int j u)) Q E s) :
    OpR X f (rI0 λi j=>.int (g i j)):=by
  intro pins s Y H x y v u Q I rx ry h;obtain⟨i,j,rfl,rfl,q⟩:=h;obtain⟨t,rfl⟩:=rx;obtain⟨t',rfl⟩:=ry;exact rule i j t t' s _ _ ⟨.int (g i j),H,I.tok _,⟨_,rfl⟩,q⟩
def b7e{f:aj->aj->Sem aj}{g:Int->Int->Bool}
    (rule:∀(i j:Int) (t u:Tok) (s:ar) (Q:aj->ar->Prop) (E:aj->ar->Prop),Q (.bool (g i j)) s->aD (aX X.prog X.w) X.A (f (.int i t) (.int j u)) Q E s) :
    OpR X f (rI0 λi j=>.bl (g i j)):=by
  intro pins s Y H x y v u Q I rx ry h;obtain⟨i,j,rfl,rfl,q⟩:=h;obtain⟨t,rfl⟩:=rx;obtain⟨t',rfl⟩:=ry;exact rule i j t t' s _ _ ⟨.bl (g i j),H,I,rfl,q⟩
def c1a(i j:Int):Prop:=0<j/\j<1073741824
def c1b(i j:Int):Prop:=0<=j/\j<=1000000/\i.natAbs<2^64
def CMul(i j:Int):Prop:=(-(2^64)<i/\i<2^64)\/(-(2^64)<j/\j<2^64)
def CMul.ok{i j:Int}(h:CMul i j):IntMulOk i j:=by
  rcases h with⟨h1,h2⟩|⟨h1,h2⟩
  · exact .of_left (intBits_le_64 h1 h2)
  · exact .of_right (intBits_le_64 h1 h2)
def b7f:OpR X (eO .Add) (rI0 λi j=>.int (i+j)):=b9l λ_ _ _ _ _ _ _ q=>add_int q
def b7g:OpR X (eO .Sub) (rI0 λi j=>.int (i-j)):=b9l λ_ _ _ _ _ _ _ q=>sub_int q
def b7h:OpR X (eO .Mult) (rI CMul λi j=>.int (i*j)):=opI λ_ _ _ _ _ _ _ hc q=>mul_int q hc.ok
def b4p:OpR X (eO .FloorDiv) (rI c1a λi j=>.int (i / j)):=opI λi j _ _ _ _ _ hc q=>by
  have h1:(0:Int)<j:=hc.1;have h2:j<1073741824:=hc.2;exact floordiv_int (by omega) (by rw[Int.fdiv_eq_ediv_of_nonneg i (by omega)];exact q) (.inl (PyProof.noPylong_small (by omega)))
def b7i:OpR X (eO .Mod) (rI (λ_ j=>0<j) λi j=>.int (i % j)):=opI λi j _ _ _ _ _ hc q=>by
  have h1:(0:Int)<j:=hc;exact mod_int' (by omega) (by rw[Int.fmod_eq_emod_of_nonneg i (by omega)];exact q)
def b7j:OpR X (eO .Pow) (rI c1b λi j=>.int (i^j.toNat)):=opI λ_ _ _ _ _ _ _ hc q=>pow_int_small hc.1 hc.2.1 hc.2.2 q
def b1C(I:Inv X pins Y H s)(q:Q (.bl k) H)(e:k=k'):EP X pins Y Q (.bool k') s:=by
  subst e;exact⟨.bl k,H,I,rfl,q⟩
def b9m:OpR X (bJ .Lt) (rI0 λi j=>.bl (decide (i<j))):=b7e λ_ _ _ _ _ _ _ q=>lt_int q
def b9n:OpR X (bJ .LtE) (rI0 λi j=>.bl (decide (i<=j))):=b7e λ_ _ _ _ _ _ _ q=>le_int q
def b9o:OpR X (bJ .Gt) (rI0 λi j=>.bl (decide (j<i))):=b7e λ_ _ _ _ _ _ _ q=>gt_int q
def b7k:OpR X (bJ .Is) (λx y H Q=>y=.non/\Q (.bl (decide (x=.non))) H):=by
  intro pins s Y H x y v u Q I rx ry h;obtain⟨rfl,q⟩:=h;cases ry
  refine is_none_gen (b1C I q ?_);cases x<;>first
    | (cases rx;rfl)
    | (obtain⟨t,rfl⟩:=rx;rfl)
def b4q:OpR X (bJ .IsNot) (λx y H Q=>y=.non/\Q (.bl (!decide (x=.non))) H):=by
  intro pins s Y H x y v u Q I rx ry h;obtain⟨rfl,q⟩:=h;cases ry
  refine isnot_none_gen (b1C I q ?_);cases x<;>first
    | (cases rx;rfl)
    | (obtain⟨t,rfl⟩:=rx;rfl)
def a0j(b:Expr)(h:op≠.In:=by decide)(h2:op≠.NotIn:=by decide):eK op b=rp:=by
  have e1:(op==CmpOp.In)=rp:=by cases op<;>first|rfl|exact absurd rfl h
  have e2:(op==CmpOp.NotIn)=rp:=by cases op<;>first|rfl|exact absurd rfl h2
  cases b<;>simp[eK,e1,e2]
def a8S{op:CmpOp}{r:R2}(ho:OpR X (bJ op) r)(ha:PE X a ta)(hb:PE X b tb)(hm:eK op b=rp):PE X (.Compare a [op] [b] pos) (tOp r ta tb):=by
  intro pins s Y H Q I h;exact wpAny_Compare1 (b7d ha hb I h λv u s2 x y H2 I2 rx ry q=>ho pins s2 Y H2 x y v u Q I2 rx ry q) hm
def b1D(t:TE):TT:=λY H Q=>t Y H λx H'=>∃k,x=.bl k/\Q k H'
def a0B(ho:OpR X (bJ op) r)(ha:PE X a ta)(hb:PE X b tb)(hm:eK op b=rp):PT X (.Compare a [op] [b] pos) (b1D (tOp r ta tb)):=by
  intro pins s Y H Q I h;refine wpAny_isTrue_Compare1 (thn (ha pins s Y H _ I h) λv s1 ⟨x,H1,I1,r1,q1⟩=>thn (hb pins s1 Y H1 _ I1 q1) λu s2 ⟨y,H2,I2,r2,q2⟩=>
    thn (ho pins s2 Y H2 x y v u _ I2 r1 r2 q2) λc s3 ⟨z,H3,I3,r3,k,e,q3⟩=>?_) hm
  subst e;cases r3
  exact dG ⟨H3,I3,q3⟩
def b1E(r r':R2)(ta tb tc:TE):TE:=λY H Q=>ta Y H λx H1=>tb Y H1 λy H2=>r x y H2 λz H3=>∃k,z=.bl k/\
  (if k=p4 then tc Y H3 λw' H4=>r' y w' H4 Q else Q (.bl rp) H3)
def b1F(ho:OpR X (bJ op) r)(nq:OpR X (bJ oU) r')(ha:PE X a ta)(hb:PE X b tb)(hc:PE X c tc)
    (hm:AU [op,oU] [b,c]=rp:=by with_unfolding_all rfl):PE X (.Compare a [op,oU] [b,c] pos) (b1E r r' ta tb tc):=by
  intro pins s Y H Q I h;refine Compare_chain (thn (ha pins s Y H _ I h) λv s1 ⟨x,H1,I1,r1,q1⟩=>chain_link (thn (hb pins s1 Y H1 _ I1 q1) λu s2 ⟨y,H2,I2,r2,q2⟩=>
    thn (ho pins s2 Y H2 x y v u _ I2 r1 r2 q2) λd s3 ⟨z,H3,I3,r3,k,e,q3⟩=>?_)) hm
  subst e;cases r3
  refine dG ?_;cases k with
  |false=>exact ite_ff ⟨.bl rp,H3,I3,rfl,q3⟩
  |true=>exact ite_tt (chain_last (thn (hc pins s3 Y H3 _ I3 q3) λw' s4 ⟨z',H4,I4,r4,q4⟩=>nq pins s4 Y H4 y z' u w' Q I4 r2 r4 q4))
def b1G(ho:OpR X (bJ op) r)(nq:OpR X (bJ oU) r')(ha:PE X a ta)(hb:PE X b tb)(hc:PE X c tc)
    (hm:AU [op,oU] [b,c]=rp:=by with_unfolding_all rfl):PT X (.Compare a [op,oU] [b,c] pos) (b1D (b1E r r' ta tb tc)):=by
  intro pins s Y H Q I h;refine isTrue_chain (thn (ha pins s Y H _ I h) λv s1 ⟨x,H1,I1,r1,q1⟩=>test_link (thn (hb pins s1 Y H1 _ I1 q1) λu s2 ⟨y,H2,I2,r2,q2⟩=>
    thn (ho pins s2 Y H2 x y v u _ I2 r1 r2 q2) λd s3 ⟨z,H3,I3,r3,k,e,q3⟩=>?_)) hm
  subst e;cases r3
  refine dG ?_;cases k with
  |false=>
    obtain⟨k',e',q'⟩:=q3;cases e'
    exact ite_ff ⟨H3,I3,q'⟩
  |true=>
    refine ite_tt (test_last (thn (hc pins s3 Y H3 _ I3 q3) λw' s4 ⟨z',H4,I4,r4,q4⟩=>thn (nq pins s4 Y H4 y z' u w' _ I4 r2 r4 q4) λd' s5 ⟨z2,H5,I5,r5,k2,e2,q5⟩=>?_));subst e2;cases r5
    exact dG ⟨H5,I5,q5⟩
def b7l(K:af)(x:V)(H:Hp)(k:Bool):Prop:=
  match x with
  |.non=>k=rp
  |.bl b=>k=b
  |.int i=>k=(i !=0)
  |.str y=>y.length<=aV/\k=((y.length:Int)!=0)
  |.byt y=>y.size<=aV/\k=((y.size:Int)!=0)
  |.ref p=>(∃xs,SqL K H p xs/\k=!xs.isEmpty)\/(∃xs,SqT K H p xs/\k=!xs.isEmpty)\/∃kvs,H p=cz (.dK kvs)/\k=!kvs.isEmpty
  |_=>False
def a7x{κ:Type}{kvs:List (κ×V)}{vs:List (κ×aj)}(r:KV kvs vs):(!vs.isEmpty)=!kvs.isEmpty:=by
  cases r<;>rfl
def a2F{xs:List V}{cE:List aj}(r:Vals xs cE):(!cE.toArray.isEmpty)=!xs.isEmpty:=by
  cases r<;>simp
def a2G:(aV:Nat)<2^63:=by rw[cR];decide
def b7m:c0Z X (λx H Q=>∃k,b7l X.K x H k/\Q k H):=by
  intro pins s Y H x v Q I rx h;obtain⟨k,e,q⟩:=h;have hl:=a2G;have hs:aV=16777216:=cR;cases x with
  |non=>
    cases rx
    have e':k=rp:=e;subst e';exact truthy_none ⟨H,I,q⟩
  |bl b=>
    cases rx
    have e':k=b:=e;subst e';exact dG ⟨H,I,q⟩
  |int i=>
    obtain⟨t,rfl⟩:=rx;have e':k=(i !=0):=e;subst e';exact PySem.P.truthy_int ⟨H,I,q⟩
  |str y=>
    obtain⟨t,rfl⟩:=rx;obtain⟨hy,e'⟩:y.length<=aV/\k=((y.length:Int)!=0):=e;subst e';exact PySem.P.truthy_str (by omega) ⟨H,I.tok _,q⟩
  |byt y=>
    obtain⟨t,rfl⟩:=rx;obtain⟨hy,e'⟩:y.size<=aV/\k=((y.size:Int)!=0):=e;subst e';exact PySem.W.truthy_bytes (by omega) ⟨H,I.tok _,q⟩
  |ref p=>
    cases rx
    have e':(∃xs,SqL X.K H p xs/\k=!xs.isEmpty)\/(∃xs,SqT X.K H p xs/\k=!xs.isEmpty)\/∃kvs,H p=cz (.dK kvs)/\k=!kvs.isEmpty:=e;rcases e' with⟨xs,hx,e'⟩|⟨xs,hx,e'⟩|⟨kvs,hx,e'⟩
    · subst e'
      obtain⟨cE,r,pl,hz⟩:=I.list hx;have hlen:=r.length;exact wpAny_truthy_list pl.isList (by simp only[br];omega) ⟨H,I.tok _,by rw[a2F r];exact q⟩
    · subst e'
      obtain⟨cE,r,pl,hz⟩:=I.tuple hx;have hlen:=r.length;exact truthy_tuple pl (by simp only[br];omega) ⟨H,I.tok _,by rw[a2F r];exact q⟩
    · subst e'
      obtain⟨hz,hS,vs,r,m⟩:kvs.length<=aV/\(p==cU)=rp/\∃vs,KV kvs vs/\s.heap.DictOf (a4V X.prog X.w) p vs:=I.hok p _ hx;have hlen:kvs.length=vs.length:=cN r;exact wpAny_truthy_dict hS m (by omega) ⟨H,I.tok _,by rw[a7x r];exact q⟩
  |_=>exact (show False from e).elim
def b1H(ha:PE X a ta)(he:∀whole,rJ a X.env whole=(do let v <-whole;standAt a.pos;nU [v] (vk v))) :
    PT X a (λY H Q=>ta Y H λx H'=>∃k,b7l X.K x H' k/\Q k H'):=by
  intro pins s Y H Q I h;exact isTrue_plain (thn (ha pins s Y H _ I h) λv s1 ⟨x,H1,I1,r1,q1⟩=>b7m pins s1 Y H1 x v Q I1 r1 q1) (he _)
def vals1(r:Vals [x] us):∃u,us=[u]/\RelV x u:=by
  cases r with
  |cons r1 r2=>cases r2;exact⟨_,rfl,r1⟩
def vals2(r:Vals [x,y] us):∃u w',us=[u,w']/\RelV x u/\RelV y w':=by
  cases r with
  |cons r1 r2=>
    cases r2 with
    |cons r3 r4=>cases r4;exact⟨_,_,rfl,r1,r3⟩
def a9P(hc:X.calm=p4):CallR X (.builtin "max") (λxs H Q=>∃i j,xs=[.int i,.int j]/\Q (.int (if j>i then j else i)) H):=by
  intro pins s Y H xs us Q I r h;obtain⟨i,j,rfl,q⟩:=h;obtain⟨u,w',rfl,⟨t,rfl⟩,⟨t',rfl⟩⟩:=vals2 r;refine max_two_ints (I.ok.hd hc) λh' tk k=>⟨_,H,I.kept k,?_,q⟩
  by_cases hj:j>i
  · rw[aG hj,aG hj];exact⟨_,rfl⟩
  · rw[aL hj,aL hj];exact⟨_,rfl⟩
end
structure ObjM (h:bQ) (x dx C:aw) (mA:bC->Option aj):Prop where
  obj:h.get? x=cz (pw C dx)
  ns:h.Ns1 dx mA
  ne:dx≠x
def a9Q{h:bQ}(n:h.Ns1 dx mA):∃od,h.get? dx=cz od/\∀name,qR name od=cz (mA name):=by
  obtain⟨o,es,ep,ho,hd,hk,_,hm⟩:=n;refine⟨o,ho,λname=>?_⟩;have e:=hm name;unfold nsFind findBy at e;rw[<-Array.find?_toList]at e;unfold qR;rw[hd]
  dsimp only
  split
  · rename_i y q
    rw[q]at e;exact du cz e
  · rename_i q
    rw[q]at e;have a:es.toList.any (·.refKey)=rp:=by
      rw[cu];intro y hy;obtain⟨z,t,iA⟩:=hk y (dM.mp hy);simp[eX.refKey,iA]
    have a':¬ es.toList.any (·.refKey)=p4:=by rw[a];exact aY
    rw[aL a'];exact du cz e
def ObjM.look(I:ObjM h x dx C mA):∃od,PySem.W.InstAt h x (pw C dx) C (cz od)/\∀name,qR name od=cz (mA name):=
  let⟨od,ho,hl⟩:=a9Q I.ns
  ⟨od,⟨I.obj,rfl,rfl,ho⟩,hl⟩
section
variable {P:bz}{w:bI}{H H':Hp}{h h':bQ}{a C dx:aw}{fs ko:List (bC×V)}
def b4r(hok:HOk P w H h)(e:H a=cz (.ins C dx fs)):∃mA,ObjM h a dx C mA/\(∀f,b6L (fs.lookup f) (mA f))/\PySem.Within mA (fs.map (·.1))/\fs.length<=1000/\H dx=cz (.own a):=by
  obtain⟨d,z,ne,ob,mA,n,r,q⟩:=(show ObjOk P w H h a (.ins C dx fs) from hok a _ e);exact⟨mA,⟨ob,n,ne⟩,r,q,z,d⟩
end
structure Cls (K:af) (C:aw):Prop where
  pg:Ge K C bC.empty=p4
  hd:PySem.W.hasDictIn K C=p4
  po:PySem.W.plainOver K C=p4
  sa:jH K (.ref C) "__setattr__"=cz (cz (.builtin "object.__setattr__"))
def Cls.get{K:af}{C:aw}(c:Cls K C)(f:bC):Ge K C f=p4:=c.pg
structure Con (K:af) (C:aw) (f:bC) (v:V) (u:aj):Prop where
  at_:jH K (.ref C) f=cz (cz u)
  rel:RelV v u
  get:Cm K u "__get__"=cz el
  cp:PySem.W.copiedNames.contains f=rp
structure Meth (K:af) (C:aw) (m:bC) (f:aw):Prop where
  at_:jH K (.ref C) m=cz (cz (.ref f))
  fn:PySem.W.isFn K (.ref f)=p4
  kp:fR K (.ref f)=p4
section
variable {X:Cx}{pins:List (aw×fM)}{Y:St}{H:Hp}{s:ar}{A:bD}{E:aj->ar->Prop}{Q:aj->ar->Prop}{c:aj}{b:Bool}
inductive TyOf (K:af) (H:Hp):V->aj->Prop where
  |non:TyOf K H .non (.type "NoneType")
  |bl (x:Bool):TyOf K H (.bl x) (.type "bool")
  |int (i:Int):TyOf K H (.int i) (.type "int")
  |str (x:bC):TyOf K H (.str x) (.type "str")
  |flt (x:UInt64):TyOf K H (.flt x) (.type "float")
  |lst {a:aw} {xs:List V} (e:H a=cz (.lst xs)):TyOf K H (.ref a) (.type "list")
  |frz {a:aw} {o:fM} {xs:List V} (e:H a=cz (.frz o (.lst xs))):TyOf K H (.ref a) (.type "list")
  |tup {a:aw} {xs:List V} (e:H a=cz (.tup xs)):TyOf K H (.ref a) (.type "tuple")
  |dK {a:aw} {kvs:List (Key×V)} (e:H a=cz (.dK kvs)):TyOf K H (.ref a) (.type "dict")
  |dT {a:aw} {kvs:List (List Key×V)} (e:H a=cz (.dT kvs)):TyOf K H (.ref a) (.type "dict")
  |ins {a C dx:aw} {fs:List (bC×V)} (e:H a=cz (.ins C dx fs)) (cl:Cls K C) (ha:jH K (.ref C) "__class__"=cz (cz (.builtin "object.__class__")))
      (hn:Cm K (.builtin "object.__class__") "__get__"=cz (cz (.builtin "getset_descriptor.__get__"))) (Bc:PySem.W.takesIn K (.builtin "object.__class__")=cz p4)
      (hm:PySem.W.mroIn K C (.type "object")=cz p4):TyOf K H (.ref a) (.ref C)
def a9R(I:Inv X pins Y H s)(rx:RelV x u)(ty:TyOf X.K H x t)(e:eA X.K t c=cz b)(h:∀tk,Q (.bool b) {s with toks:=tk}) :
    aD (aX X.prog X.w) A (call (.builtin "isinstance") [u,c]) Q E s:=by
  cases ty with
  |non=>cases (show u=cj from rx);exact cO PySem.W.kitx_none I.kIn jG e (λz=>nomatch z) h
  |bl y=>cases (show u=jx y from rx);exact cO PySem.W.kitx_bool I.kIn jG e (λz=>nomatch z) h
  |int i=>obtain⟨t,q⟩:=(show ∃t,u=iJ i t from rx);cases q;exact cO PySem.W.kitx_int I.kIn jG e (λz=>nomatch z) h
  |str y=>obtain⟨t,q⟩:=(show ∃t,u=si y t from rx);cases q;exact cO PySem.W.kitx_str I.kIn jG e (λz=>nomatch z) h
  |flt y=>obtain⟨t,q⟩:=(show ∃t,u=aj.float y t from rx);cases q;exact cO PySem.W.kitx_float I.kIn jG e (λz=>nomatch z) h
  |@lst a xs ea=>
    cases (show u=aZ a from rx)
    obtain⟨_,_,n,_,h1⟩:=(show ObjOk X.prog X.w H s.heap a (.lst xs) from I.hok a _ ea);exact cO nJ I.kIn ⟨_,h1,rfl⟩ e (λz=>nomatch z) h
  |@frz a ob xs ea=>
    cases (show u=aZ a from rx)
    obtain⟨_,_,_,n,_,h1⟩:=(show ObjOk X.prog X.w H s.heap a (.frz ob (.lst xs)) from I.hok a _ ea);exact cO nJ I.kIn ⟨_,h1,rfl⟩ e (λz=>nomatch z) h
  |@tup a xs ea=>
    cases (show u=aZ a from rx)
    obtain⟨_,_,_,p⟩:=(show ObjOk X.prog X.w H s.heap a (.tup xs) from I.hok a _ ea);obtain⟨o,h1,h2,_⟩:=p;exact cO Ap I.kIn ⟨o,h1,h2⟩ e (λz=>nomatch z) h
  |@dK a kvs ea=>
    cases (show u=aZ a from rx)
    obtain⟨_,_,vs,_,p⟩:=(show ObjOk X.prog X.w H s.heap a (.dK kvs) from I.hok a _ ea);obtain⟨o,es,ep,h1,h2,_⟩:=p;exact cO nK I.kIn ⟨o,h1,h2.1⟩ e (λz=>nomatch z) h
  |@dT a kvs ea=>
    cases (show u=aZ a from rx)
    obtain⟨_,_,xs,_,o,es,ep,h1,h2,_⟩:=(show ObjOk X.prog X.w H s.heap a (.dT kvs) from I.hok a _ ea);exact cO nK I.kIn ⟨o,h1,h2.1⟩ e (λz=>nomatch z) h
  |@ins a C dx fs ea cl ha hn Bc hm=>
    cases (show u=aZ a from rx)
    obtain⟨mA,O,_⟩:=b4r I.hok ea;obtain⟨od,J,_⟩:=O.look;exact cO (PySem.W.kitx_own (cl.get _) cl.hd ha hn Bc hm) I.kIn J e (λz=>nomatch z) h
end
structure Room (k:Nat) (A:bD):Prop where
  hd:A.handled=el
  dp:A.depth+3*k+5<recursionLimit
  un:A.units+16*k+200<cS
def Room.mono(r:Room k A)(h:j<=k):Room j A:=⟨r.hd,by have:=r.dp;omega,by have:=r.un;omega⟩
theorem Room.deeper(r:Room (k+1) A)(env:oM):Room k (A.deeper env):=
  ⟨r.hd,by have:=r.dp;show A.depth+1+3*k+5<_;omega,by have:=r.un;show A.units+3+16*k+200<_;omega⟩
theorem Room.depth(r:Room k A):A.depth<recursionLimit:=by have:=r.dp;omega
theorem Room.units(r:Room k A):A.units+164<cS:=by have:=r.un;omega
def c1c:TA:=λ_ H Q=>Q [] H
def b9p(ta:TE)(tr:TA):TA:=λY H Q=>ta Y H λx H1=>tr Y H1 λxs H2=>Q (x::xs) H2
section
variable {X:Cx}{e:Expr}{es:List Expr}{te:TE}{t:TA}{pos:eS}
def u7:PA X [] c1c:=λ_ _ _ _ H Q I h=>Calls.spliced_nil ⟨[],H,I,.nil,h⟩
def m7(ha:PE X e te)(hr:PA X es t)(hs:ax (e::es) X.env=(rp,cn e X.env)::ax es X.env:=by rfl):PA X (e::es) (b9p te t):=by
  intro pos pins s Y H Q I h;rw[hs];show aD _ _ (spliced ((rp,cn e X.env)::cx pos (ax es X.env))) _ _ s;refine Calls.spliced_cons (thn (ha pins s Y H _ I h) λu s1 ⟨x,H1,I1,r1,q1⟩=>?_);exact thn (hr pos pins s1 Y H1 _ I1 q1) λus s2 ⟨xs,H2,I2,r2,q2⟩=>⟨x::xs,H2,I2,.cons r1 r2,q2⟩
def c1d(t:TA):TE:=λY H Q=>t Y H λxs H1=>xs.length<=aV/\∀p,H1 p=el->Q (.ref p) (upd H1 p (.tup xs))
def c1e(t:TA):TE:=λY H Q=>t Y H λxs H1=>xs.length<=aV/\∀p,H1 p=el->Q (.ref p) (upd H1 p (.lst xs))
def b1I{x1}(h:PA X es t):PE X (.Tuple es x1 pos) (c1d t):=by
  intro pins s Y H Q I hq;refine wpAny_Tuple_spliced (thn (h pos pins s Y H _ I hq) λus s1 ⟨xs,H1,I1,r,z,q⟩=>⟨by rw[<-r.length];exact z,?_⟩);have hf:H1 s1.heap.objs.size=el:=I1.hok.fresh (aE _);refine⟨.ref s1.heap.objs.size,upd H1 s1.heap.objs.size (.tup xs),I1.laid (t':=s1.toks) (λb u e=>ag _ e) (aE _) ?_,rfl,q _ hf⟩;exact⟨z,us,r,⟨_,aH _ rfl,rfl,_,rfl⟩⟩
def b7n(h:PA X es t):PE X (.List es pos) (c1e t):=by
  intro pins s Y H Q I hq;refine wpAny_List_spliced (thn (h pos pins s Y H _ I hq) λus s1 ⟨xs,H1,I1,r,z,q⟩=>⟨by rw[<-r.length];exact z,?_⟩);have hf:H1 s1.heap.objs.size=el:=I1.hok.fresh (aE _);refine⟨.ref s1.heap.objs.size,upd H1 s1.heap.objs.size (.lst xs),I1.laid (t':=s1.toks) (λb u e=>ag _ e) (aE _) ?_,rfl,q _ hf⟩;exact⟨z,us,0,r,aH _ rfl⟩
end
abbrev Sp:=List V->Hp->VK->XK->Prop
abbrev CXT:=List oM->Hp->ar->XK->aj->ar->Prop
structure Env0 (P:bz) (w:bI) (K:af) (mg:bC->Option aj) (base:bQ) (A:bD) (outer:List oM) (s:ar) (H:Hp):Prop where
  frames:A.frames=cz outer
  mod:Mod K mg base
  bs:∀b o,base.get? b=cz o->s.heap.get? b=cz o/\H b=el
  bsz:base.objs.size<=s.heap.objs.size
  funs:s.heap.FunFrames base outer
  frf:∀b∈frs outer,H b=el
  hok:HOk P w H s.heap
  bare:oN s.gens
  tabs:TabsIn K H
def CE(outer:List oM)(P:bz)(w:bI)(H:Hp)(s:ar)(Q:VK)(u:aj)(s':ar):Prop:=
  ∃v H',s'.os=s.os/\oN s'.gens/\Un (frs outer) [] H H' s.heap s'.heap/\HOk P w H' s'.heap/\RelV v u/\Q v H'
def CR(CX:CXT)(outer:List oM)(P:bz)(w:bI)(H:Hp)(s:ar)(Q:VK)(E:XK)(r:Gd)(s':ar):Prop:=
  match r with
  |.ok (.ret u)=>CE outer P w H s Q u s'
  |.ok _=>False
  |.error e=>CX outer H s E e s'
structure FnOk (P:bz) (w:bI) (K:af) (mg:bC->Option aj) (base:bQ) (CX:CXT) (k:Nat) (f:aw) (fd:dD) (ps:List bC) (sp:Sp):Prop where
  len:∀vs H Q E,sp vs H Q E->vs.length=ps.length
  run:∀(A:bD) (outer:List oM) (s:ar) (H:Hp) (args:Args) (us:List aj) (vs:List V) (Q:VK) (E:XK),Room k A->Env0 P w K mg base A outer s H->nY s fd args (ps.zip us)->Vals vs us->sp vs H Q E->
    gL (aX P w) A (.call (.ref f) args) (CR CX outer P w H s Q E) s
theorem FnOk.mono{P:bz}{w:bI}{K:af}{mg:bC->Option aj}{base:bQ}{CX:CXT}{j k:Nat}{f:aw}{fd:dD}{ps:List bC}{sp:Sp}(F:FnOk P w K mg base CX j f fd ps sp)(h:j<=k) :
    FnOk P w K mg base CX k f fd ps sp:=⟨F.len,λA outer s H args us vs Q E hr=>F.run A outer s H args us vs Q E (hr.mono h)⟩
section
variable {X:Cx}{pins:List (aw×fM)}{Y:St}{H:Hp}{s s':ar}
def Inv.env0(I:Inv X pins Y H s):Env0 X.prog X.w X.K X.mg X.base X.A X.stack s H:=
  ⟨I.ok.frames,I.ok.mod,I.bs,cA I.ok.bsz I.sz,I.stack,I.stkFree,I.hok,I.bare,I.tabs⟩
def Inv.after(I:Inv X pins Y H s)(h:CE X.stack X.prog X.w H s Q u s'):EP X pins Y Q u s':=by
  obtain⟨v,H',os,bare,un,hok,r,q⟩:=h;obtain⟨hh,g,d,t,yB⟩:=s';obtain rfl:yB=s.os:=os;exact⟨v,H',I.call (h':=hh) (g':=g) (d':=d) (t':=t) (ch:=[]) un hok bare (λb z=>absurd z (by simp)),r,q⟩
end
def b6k(sp:Sp)(sW:List V)(E:XK)(t:TA):TE:=λY H Q=>t Y H λvs H1=>sp (vs++sW) H1 Q E
def Binds(K:af)(fd:dD)(ps:List bC)(ds:List aj):Prop:=
  ∀(s:ar) (us:List aj),K.In s.heap->(us++ds).length=ps.length->nY s fd ⟨us,[]⟩ (ps.zip (us++ds))
def Binds.all{K:af}{fd:dD}{ps:List bC}(h:∀us:List aj,us.length=ps.length->qO fd ⟨us,[]⟩=pure (ps.zip us)):Binds K fd ps []:=λs us _ hl=>by
  rw[bK]at hl ⊢;exact .of_eq (h us hl)
def a7y(CX:CXT)(X:Cx)(E:XK):Prop:=∀(pins:List (aw×fM)) (Y:St) (H:Hp) (s:ar) (e:aj) (s':ar),Inv X pins Y H s->CX X.stack H s E e s'->X.xe e s'
section
variable {X:Cx}{CX:CXT}{k:Nat}{f C:aw}{fd:dD}{ps:List bC}{sp:Sp}{sW:List V}{ds:List aj}{E:XK}{x m:bC}{p pos apos:eS}{e o:Expr}{es:List Expr}{ta:TE}{t:TA}
def b7o(F:FnOk X.prog X.w X.K X.mg X.base CX k f fd ps sp)(hr:Room k X.A)(hb:Binds X.K fd ps ds)(hd:Vals sW ds)(hx:a7y CX X E)
    (I:Inv X pins Y H s) (r:Vals vs us) (h:sp (vs++sW) H Q E):aD (aX X.prog X.w) X.A (call (.ref f) us) (EP X pins Y Q) X.xe s:=by
  have r2:Vals (vs++sW) (us++ds):=r.append hd;have hl:(us++ds).length=ps.length:=by rw[<-r2.length];exact F.len _ _ _ _ h
  refine vg (fP (F.run X.A X.stack s H ⟨us,[]⟩ (us++ds) (vs++sW) Q E hr I.env0 (hb s us I.kIn hl) r2 h) λr s' hq=>?_);cases r with
  |error e=>exact hx pins Y H s e s' I hq
  |ok fl=>
    cases fl with
    |ret u=>exact I.after hq
    |next=>exact cK hq
    |brk=>exact cK hq
    |cont=>exact cK hq
def b4s(F:FnOk X.prog X.w X.K X.mg X.base CX k f fd ps sp)(hr:Room k X.A)(hg:Gl X x)(hm:X.mg x=cz (.ref f))(hk:fR X.K (.ref f)=p4)(hb:Binds X.K fd ps ds)(hd:Vals sW ds)(hx:a7y CX X E)
    (ha:PA X (e::es) t) (lN:(x==("__debug__":bC))=rp:=by decide) (he:ax (e::es) X.env=(rp,cn e X.env)::ax es X.env:=by rfl) (f_:(cx pos (ax es X.env)).any (·.1)=rp:=by rfl) :
    PE X (.Call (.Name x p) (e::es) [] pos) (b6k sp sW E t):=by
  intro pins s Y H Q I h;refine fF (a4Y I hg hm ?_ lN);refine Aq (h₀:=X.base) I.ok.mod.kin hk (thn (ha pos pins s Y H _ I h) λus s1 ⟨vs,H1,I1,r,q⟩=>⟨I1.kIn,?_⟩) he f_;exact b7o F hr hb hd hx I1 r q
structure Mk (K:af) (C f:aw):Prop where
  makes:PySem.W.makesIn K C=p4
  init:jH K (.ref C) "__init__"=cz (cz (.ref f))
  fn:PySem.W.isFn K (.ref f)=p4
  kp:fR K (.ref C)=p4
end
section
variable {X:Cx}{CX:CXT}{k:Nat}{f C:aw}{fd:dD}{ps ks:List bC}{sp:Sp}{E:XK}{x m:bC}{p pos apos vB:eS}{e o:Expr}{es:List Expr}{GK:List gu}{te ta:TE}{t tk:TA}{nm:Option bC}
structure KBinds (K:af) (fd:dD) (ps ks:List bC) (g:List aj->List aj->List aj) (gV:List V->List V->List V):Prop where
  to:∀(s:ar) (us ws:List aj),K.In s.heap->(g us ws).length=ps.length->nY s fd ⟨us,ks.zip ws⟩ (ps.zip (g us ws))
  rel:∀{vs:List V} {us:List aj} {zs:List V} {ws:List aj},Vals vs us->Vals zs ws->Vals (gV vs zs) (g us ws)
variable {g:List aj->List aj->List aj}{gV:List V->List V->List V}
end
structure FnScope (N P:List bC) (sc:gh):Prop where
  kind:sc.kind=.function
  co:sc.isCoroutine=rp
  gen:sc.isGenerator=rp
  nd:N.Nodup
  pre:N.take P.length=P
  par:∀x∈P,sc.names.lookup x=cz .local\/sc.names.lookup x=cz .cell
  nofree:∀y∈sc.names,y.2≠.free
theorem a3Y{kindOf:bC->Option ja}{x:bC}:∀{binds:List (bC×aj)} {m:bC->Option aj},(∀v,(x,v)∉binds)->Cg kindOf binds m x=m x
  |[],_,_=>rfl
  | (n,v)::r,m,h=>by
    unfold Cg;rw[a3Y λw hw=>h w (ai _ hw)]
    split
    · have:x≠n:=by rintro rfl;exact h v ah
      simp[this]
    · rfl
theorem a3Z{kindOf:bC->Option ja}{x:bC}:∀{binds:List (bC×aj)} {m:bC->Option aj},(∀v,(x,v)∉binds)->Ci kindOf binds m x=m x
  |[],_,_=>rfl
  | (n,v)::r,m,h=>by
    unfold Ci;rw[a3Z λw hw=>h w (ai _ hw)]
    split
    · rfl
    · have:x≠n:=by rintro rfl;exact h v ah
      simp[this]
theorem a4a{kindOf:bC->Option ja}{x:bC}{v:aj}:∀{P:List bC} {vs:List aj} {i:Nat} {m:bC->Option aj},P.Nodup->P[i]?=cz x->vs[i]?=cz v->kindOf x=cz .local->
    Cg kindOf (P.zip vs) m x=cz v
  |[],_,_,_,_,h,_,_=>by simp at h
  |_::_,[],_,_,_,_,h,_=>by simp at h
  |p::P,w::vs,0,m,nd,h1,h2,hk=>by
    simp at h1 h2;subst h1;subst h2
    show Cg kindOf ((p,w)::P.zip vs) m p=_;unfold Cg;rw[a3Y λv hv=>(bt.mp nd).1 (fD hv).1,aG hk];simp
  |p::P,w::vs,i+1,m,nd,h1,h2,hk=>by
    show Cg kindOf ((p,w)::P.zip vs) m x=_;unfold Cg;exact a4a (i:=i) (bt.mp nd).2 (by simpa using h1) (by simpa using h2) hk
theorem a4b{kindOf:bC->Option ja}{x:bC}{v:aj}:∀{P:List bC} {vs:List aj} {i:Nat} {m:bC->Option aj},P.Nodup->P[i]?=cz x->vs[i]?=cz v->kindOf x≠cz .local->
    Ci kindOf (P.zip vs) m x=cz v
  |[],_,_,_,_,h,_,_=>by simp at h
  |_::_,[],_,_,_,_,h,_=>by simp at h
  |p::P,w::vs,0,m,nd,h1,h2,hk=>by
    simp at h1 h2;subst h1;subst h2
    show Ci kindOf ((p,w)::P.zip vs) m p=_;unfold Ci;rw[a3Z λv hv=>(bt.mp nd).1 (fD hv).1,aL hk];simp
  |p::P,w::vs,i+1,m,nd,h1,h2,hk=>by
    show Ci kindOf ((p,w)::P.zip vs) m x=_;unfold Ci;exact a4b (i:=i) (bt.mp nd).2 (by simpa using h1) (by simpa using h2) hk
def start(N:List bC)(vs:List V):St:=vs.map cz++aR (N.length-vs.length) el
def a0C(CX:CXT)(P:bz)(w:bI)(K:af)(mg:bC->Option aj)(base:bQ)(N:List bC)(qual:bC)(scope:gh)(f:aw)(cd:aj)(A:bD)(outer:List oM)(s:ar)(H:Hp)(E:XK):Cx where
  prog:=P
  w:=w
  K:=K
  mg:=mg
  base:=base
  A:=A.deeper (jl qual scope s.heap.objs.size f cd)
  N:=N
  s₀:=s
  H₀:=H
  env:=jl qual scope s.heap.objs.size f cd
  outer:=outer
  stack:=jl qual scope s.heap.objs.size f cd::outer
  ex:=[]
  calm:=p4
  fn:=λ_=>p4
  pn:=[]
  xe:=λe s'=>aD (aX P w) (A.deeper (jl qual scope s.heap.objs.size f cd)) (leaving (jl qual scope s.heap.objs.size f cd) e) (λ_ yu=>CX outer H s E e yu) (λe' yu=>CX outer H s E e' yu) s'
def a5W{sc:gh}(h:sc.names.lookup x=cz .cell):∃c,(cellsFrom n sc.names []).lookup x=cz c:=by
  have q:=uu sc.names n [] (.inl h);exact fL.mp q
def a9S{CX:CXT}{P:bz}{w:bI}{K:af}{mg:bC->Option aj}{base:bQ}{N ps:List bC}{qual:bC}{scope:gh}{f:aw}{cd:aj}{A:bD}{outer:List oM}{s s1:ar}{H:Hp}{E:XK}{us:List aj}{vs:List V}
    (S:FnScope N ps scope) (hd:A.handled=el) (e0:Env0 P w K mg base A outer s H) (hl:vs.length=ps.length) (r:Vals vs us)
    (x:InCallC s s.heap.objs.size (Cg (jl qual scope s.heap.objs.size f cd).kindOf (ps.zip us) λ_=>el) (cellsFrom (s.heap.objs.size+1) scope.names []) (Ci (jl qual scope s.heap.objs.size f cd).kindOf (ps.zip us) λ_=>el) s1) :
    Inv (a0C CX P w K mg base N qual scope f cd A outer s H E) [] (start N vs) H s1:=by
  have f_:ps.length<=N.length:=by have:=du eD S.pre;rw[dZ]at this;omega
  obtain⟨h1,tk,rfl,hk⟩:=x.done;have tz:∀b:aw,b∉(a0C CX P w K mg base N qual scope f cd A outer s H E).ex:=λb z=>absurd (show b∈([]:List aw) from z) (by simp)
  refine⟨⟨e0.mod,S.kind,rfl,rfl,aE _,λy z c h1 h2=>?_,λy hy=>?_,λy c _ h=>?_,λ_=>hd,bD.frames_deeper e0.frames,.inr ⟨rfl,rfl⟩,λb z=>absurd z (tz b),e0.bs,e0.bsz,λb _ _=>tz b,λb z=>absurd z (tz b),e0.funs,e0.frf,e0.tabs⟩,
    rfl,e0.bare,Un.kept hk,⟨_,x.toInCall.ns,λi y v h1 h2 h3=>?_⟩,λy c h=>⟨_,x.cell y c h⟩,e0.hok.fresh (aE _),λy c h=>?_,λp hp=>absurd (show p∈([]:List (aw×fM)) from hp) (by simp),e0.hok.kept hk,?_⟩
  · exact name_of_addr x.apart (bX h1) (bX h2)
  · have hy:scope.names.lookup y=cz .cell\/scope.names.lookup y=cz .free:=hy
    rcases hy with hy|hy
    · exact a5W hy
    · exact absurd rfl (S.nofree _ (bX hy))
  · exact dP (x.above y c (bX h))
  · have hi:i<vs.length:=by
      unfold start at h2;by_cases hi:i<vs.length
      · exact hi
      · rw[ff (by simpa using hi)]at h2
        rw[s_]at h2
        split at h2<;>cases h2
    have ha:vs[i]?=cz v:=by
      unfold start at h2;rw[gN (by simpa using hi),a_]at h2;cases e:vs[i]? with
      |none=>rw[e]at h2;cases h2
      |some a=>rw[e]at h2;cases h2;rfl
    obtain⟨u,hu,rv⟩:=r.get ha;have hp:ps[i]?=cz y:=by
      rw[<-S.pre,List.getElem?_take_of_lt (by omega)];exact h1
    have AO:ps.Nodup:=by rw[<-S.pre];exact S.nd.sublist (List.take_sublist _ _)
    refine⟨u,rv,?_⟩;rcases S.par y (bo hp) with k|k
    · exact .inl ⟨k,a4a AO hp hu k⟩
    · obtain⟨c,e⟩:=a5W (n:=s.heap.objs.size+1) k
      refine .inr ⟨.inl k,c,e,?_⟩;have q:=x.cell y c e;rw[a4b AO hp hu (by show scope.names.lookup y≠_;rw[k];decide)]at q;exact q
  · exact e0.hok.fresh (dP (x.above y c (bX h)))
  · unfold start
    show _=N.length;rw[ba,au,gd];omega
def b6l{CX:CXT}{P:bz}{w:bI}{K:af}{mg:bC->Option aj}{base:bQ}{k:Nat}{f:aw}{name qual:bC}{params:lZ}{body:List hZ}{scope:gh}{dV kV doc pm gk ct oc:aj}{an od:Option aw}
    {oS:Array (Option aj)} {N ps:List bC} {sp:Sp} (lk:K.lookup f=cz ⟨oc,od,.func (fV name qual params body scope dV kV doc pm an gk ct),oS⟩) (iG:lW K gk qual=p4) (S:FnScope N ps scope)
    (len:∀vs H Q E,sp vs H Q E->vs.length=ps.length)
    (qD:∀(A:bD) (outer:List oM) (s:ar) (H:Hp) (vs:List V) (Q:VK) (E:XK),Room k (A.deeper (jl qual scope s.heap.objs.size f gk))->sp vs H Q E->
      ∃t,PSs (a0C CX P w K mg base N qual scope f gk A outer s H E) body t/\t {nx:=λ_ H'=>Q .non H',rt:=Q} (start N vs) H) :
    FnOk P w K mg base CX (k+1) f (fV name qual params body scope dV kV doc pm an gk ct) ps sp:=by
  refine⟨len,λA outer s H args us vs Q E hr e0 hb r pX=>?_⟩;have hl:=len _ _ _ _ pX;have KX:K.In s.heap:=e0.mod.kin.keeps λb o e=>(e0.bs b o e).1
  have lim:s.heap.NoLimit:=e0.mod.nolimit.keeps λb o e=>(e0.bs b o e).1
  have wc:∀y∈ps.zip us,scope.names.lookup y.1=cz .local\/(scope.names.lookup y.1=cz .cell/\((cellsFrom (s.heap.objs.size+1) scope.names []).lookup y.1).isSome=p4):=λ⟨n,v⟩ hy=>by
    rcases S.par n (fD hy).1 with q|q
    · exact .inl q
    · exact .inr ⟨q,uu _ _ _ (.inl q)⟩
  refine codeAny_call_function hr.depth (KX _ _ lk) rfl S.co S.gen rfl (PySem.W.codeRec_of KX iG) (hb _ _ _ _ ?_);refine wpAny_newFunctionEnv_cells S.kind wc λenv he s1 x=>?_
  subst he;refine⟨lim.keeps x.toInCall.keep,codeAny_func ?_⟩;obtain⟨t,ht,hq⟩:=qD A outer s H vs Q E (hr.deeper _) pX;have I:Inv (a0C CX P w K mg base N qual scope f gk A outer s H E) [] (start N vs) H s1:=a9S S hr.hd e0 hl r x;refine dg (ht [] s1 (start N vs) H _ I hq) (λfl s' hs=>?_) λe s' hs=>hs
  have fin:∀{Y':St} {H':Hp} {v:V} {u:aj},Inv (a0C CX P w K mg base N qual scope f gk A outer s H E) [] Y' H' s'->RelV v u->Q v H'->CE outer P w H s Q u s':=
    λ{Y' H' v u} J rv q=>⟨v,H',J.os,J.bare,J.base,J.hok,rv,q⟩
  cases fl with
  |ret u=>
    obtain⟨v,Y',H',J,rv,q⟩:=hs;exact fin J rv q
  |next=>
    obtain⟨Y',H',J,q⟩:=hs;exact fin (v:=V.non) (u:=cj) J rfl q
  |brk=>
    obtain⟨_,_,_,q⟩:=hs;exact cK q
  |cont=>
    obtain⟨_,_,_,q⟩:=hs;exact cK q
section
variable {X:Cx}{x:bC}{p pos:eS}{e:Expr}{es:List Expr}{t:TA}{id T:String}{r:List V->Hp->VK->Prop}
def tCB(r:List V->Hp->VK->Prop)(t:TA):TE:=λY H Q=>t Y H λvs H1=>r vs H1 Q
def V9(hc:CallR X (.builtin id) r)(hg:Gl X x)(hm:X.mg x=el)(hv:gn x=cz (.builtin id))(ha:PA X (e::es) t)(hn:x≠"__name__":=by decide)(lN:(x==("__debug__":bC))=rp:=by decide)
    (he:ax (e::es) X.env=(rp,cn e X.env)::ax es X.env:=by rfl) (f_:(cx pos (ax es X.env)).any (·.1)=rp:=by rfl):PE X (.Call (.Name x p) (e::es) [] pos) (tCB r t):=by
  intro pins s Y H Q I h;refine fF (a0i I hg hm hv ?_ hn lN);exact PyProof.Rows.callWith_builtin1 (thn (ha pos pins s Y H _ I h) λus s1 ⟨vs,H1,I1,r1,q1⟩=>hc pins s1 Y H1 vs us Q I1 r1 q1) he f_
def M3(hc:CallR X (.type T) r)(hg:Gl X x)(hm:X.mg x=el)(hv:gn x=cz (.type T))(ha:PA X (e::es) t)(hn:x≠"__name__":=by decide)(lN:(x==("__debug__":bC))=rp:=by decide)
    (he:ax (e::es) X.env=(rp,cn e X.env)::ax es X.env:=by rfl) (f_:(cx pos (ax es X.env)).any (·.1)=rp:=by rfl):PE X (.Call (.Name x p) (e::es) [] pos) (tCB r t):=by
  intro pins s Y H Q I h;refine fF (a0i I hg hm hv ?_ hn lN);exact eR (thn (ha pos pins s Y H _ I h) λus s1 ⟨vs,H1,I1,r1,q1⟩=>hc pins s1 Y H1 vs us Q I1 r1 q1) he f_
end
end L2
namespace HT
open PySem PyProof.Rows
section
variable {prog:bz}{w:bI}{A:bD}{E:aj->ar->Prop}{s:ar}
def b4t{vs ws:List aj}(ht:IsTup s.heap t vs.toArray)(hb:IsTup s.heap b ws.toArray)(hv:vs≠[])
    (h1:ws=[]->Q (.ref t) s) (h2:ws≠[]->Q (.ref s.heap.objs.size) {s with heap:=s.heap.push {cls:=.type "tuple",data:=.seq (vs++ws).toArray}})
    (hsz:vs.length+ws.length<=aV):aD (aX prog w) A (eO .Add (.ref t) (.ref b)) Q E s:=by
  obtain⟨⟨cls,dd,data,sl⟩,ho,hc,n,hd⟩:=id ht;obtain⟨⟨Al,x_,data2,xx⟩,tO,lj,n2,hd2⟩:=id hb;simp only at hc hd lj hd2;subst hc hd lj hd2;have e:vs.toArray++ws.toArray=(vs++ws).toArray:=by simp
  by_cases hw:ws=[]
  · exact FY ⟨_,ho,rfl⟩ ⟨_,tO,rfl⟩ rH yt kN kz (ki _ _)
      (tuple_addW1 t b vs.toArray ws.toArray n n2 dd x_ sl xx (by simpa using hv) (by simp[hw])) ⟨ho,tO,h1 hw⟩
  · refine FY ⟨_,ho,rfl⟩ ⟨_,tO,rfl⟩ rH yt kN kz (ki _ _)
      (tuple_addW2 t b vs.toArray ws.toArray n n2 dd x_ sl xx (by simpa using hv) (by simpa using hw) (by rw[br,br];exact hsz)) ⟨ho,tO,?_⟩
    rw[e];exact h2 hw
def sIx(n d:Nat):Option Int->Nat
  |none=>d
  |some v=>if v<0 then (v+(n:Int)).toNat else min v.toNat n
end
end HT
namespace L2
open PySem PySem.Spec PyProof.Rows
abbrev TO:=St->Hp->(Option Int->Hp->Prop)->Prop
def PO(X:Cx)(e:Option Expr)(t:TO):Prop:=
  ∀(pins:List (aw×fM)) (s:ar) (Y:St) (H:Hp) (Q:Option Int->Hp->Prop),Inv X pins Y H s->t Y H Q->
    aD (aX X.prog X.w) X.A (evalPart e X.env) (λu s'=>∃o H',Inv X pins Y H' s'/\IsPart u o/\Q o H') X.xe s
def b4u:TO:=λ_ H Q=>Q el H
def b9q(t:TE):TO:=λY H Q=>t Y H λx H1=>∃i,x=.int i/\Q (cz i) H1
section
variable {X:Cx}{e:Expr}{te:TE}{lo hi:Option Expr}{tl th:TO}{pos p2:eS}
def b4v:PO X el b4u:=by
  intro pins s Y H Q I h;rw[evalPart_none];exact ae ⟨el,H,I,.none,h⟩
def b4w(h:PE X e te):PO X (cz e) (b9q te):=by
  intro pins s Y H Q I hw;rw[evalPart_some];refine thn (h pins s Y H _ I hw) λu s1 ⟨x,H1,I1,r1,q1⟩=>?_
  obtain⟨i,rfl,q⟩:=q1;obtain⟨t,rfl⟩:=r1;exact⟨cz i,H1,I1,.int i t,q⟩
def SlR(X:Cx)(r:V->Option Int->Option Int->Hp->VK->Prop):Prop:=
  ∀(pins:List (aw×fM)) (s:ar) (Y:St) (H:Hp) (x:V) (v vl vu:aj) (lo hi:Option Int) (sl:aw) (Q:VK),Inv X pins Y H s->RelV x v->s.heap.IsSliceOf sl vl vu .none->IsPart vl lo->IsPart vu hi->r x lo hi H Q->
    ∃T id,oP (.type T) "__getitem__"=pure (cz (.builtin id))/\s.TypeIs v T/\aD (aX X.prog X.w) X.A (qM v (.ref sl)) (EP X pins Y Q) X.xe s
def tSl(r:V->Option Int->Option Int->Hp->VK->Prop)(te:TE)(tl th:TO):TE:=λY H Q=>te Y H λx H1=>tl Y H1 λl H2=>th Y H2 λu H3=>r x l u H3 Q
def b1J(hr:SlR X r)(he:PE X e te)(hl:PO X lo tl)(hu:PO X hi th):PE X (.Subscript e (.Slice lo hi el p2) pos) (tSl r te tl th):=by
  intro pins s Y H Q I h;refine Subscript_ (thn (he pins s Y H _ I h) λv s1 ⟨x,H1,I1,r1,q1⟩=>?_);refine wpAny_Slice (thn (hl pins s1 Y H1 _ I1 q1) λvl s2 ⟨l,H2,I2,pl,q2⟩=>thn (hu pins s2 Y H2 _ I2 q2) λvu s3 ⟨u,H3,I3,pu,q3⟩=>?_);rw[evalPart_none];refine ae ?_;have I4:Inv X pins Y H3 {s3 with heap:=s3.heap.push {cls:=.type "slice",data:=.fields #[vl,vu,.none]}}:=I3.kept (t':=s3.toks) λb ob q=>ag _ q
  obtain⟨T,id,hT,ht,hg⟩:=hr pins {s3 with heap:=s3.heap.push {cls:=.type "slice",data:=.fields #[vl,vu,.none]}} Y H3 x v vl vu l u s3.heap.objs.size Q I4 r1 (bQ.IsSliceOf.new ..) pl pu q3;show aD (aX X.prog X.w) X.A (subscriptTail e (.Slice lo hi el p2) v (.ref s3.heap.objs.size)) (EP X pins Y Q) X.xe {s3 with heap:=s3.heap.push {cls:=.type "slice",data:=.fields #[vl,vu,.none]}};exact tail_any (ops:=[.ref s3.heap.objs.size,v]) ht hT hg (by with_unfolding_all rfl)
def a7z(xs:List V)(lo hi:Option Int):List V:=(xs.drop (HT.sIx xs.length 0 lo)).take (HT.sIx xs.length xs.length hi-HT.sIx xs.length 0 lo)
def a5X(xs:List V)(lo hi:Option Int):(a7z xs lo hi).length<=xs.length:=by
  unfold a7z;rw[dZ,Gp];omega
def b6m(K:af):R2:=λx y H Q=>∃a b xs ys,x=.ref a/\y=.ref b/\SqT K H a xs/\SqT K H b ys/\xs≠[]/\xs.length+ys.length<=aV/\
  (ys=[]->Q (.ref a) H)/\(ys≠[]->∀p,H p=el->Q (.ref p) (upd H p (.tup (xs++ys))))
def Vals.nil_iff(r:Vals xs us):us=[]↔xs=[]:=by
  cases r with
  |nil=>simp
  |cons _ _=>simp
def b4x:OpR X (eO .Add) (b6m X.K):=by
  intro pins s Y H x y v u Q I rx ry h;obtain⟨a,b,xs,ys,rfl,rfl,ha,hb,hx,hz,q1,q2⟩:=h;cases rx
  cases ry
  obtain⟨cE,r1,p1,_⟩:=I.tuple ha;obtain⟨mK,r2,p2,_⟩:=I.tuple hb;refine HT.b4t p1 p2 (λz=>hx (r1.nil_iff.mp z)) (λz=>⟨.ref a,H,I,rfl,q1 (r2.nil_iff.mp z)⟩) (λz=>?_) (by rw[<-r1.length,<-r2.length];exact hz);refine⟨.ref s.heap.objs.size,_,I.laid (t':=s.toks) (o:=.tup (xs++ys)) (λb ob q=>ag _ q) (aE _) ?_,rfl,q2 (λw=>z (r2.nil_iff.mpr w)) _ (I.hok.fresh (aE _))⟩;exact⟨by rw[ba];exact hz,_,r1.append r2,IsTup.new _ _⟩
end
def ixN(n:Nat)(i:Int):Option Nat:=if 0<=i then (if i<n then cz i.toNat else el) else if -(n:Int)<=i then cz (i+n).toNat else el
def atI{α:Type}(xs:List α)(i:Int):Option α:=(ixN xs.length i).bind λj=>xs[j]?
def b4y(h:ixN n i=cz j):seqIndex? i n=cz j/\j<n/\-(n:Int)<=i/\i<n:=by
  unfold ixN at h;by_cases h0:0<=i
  · rw[aG h0]at h
    by_cases h1:i<n
    · rw[aG h1]at h
      have e:i.toNat=j:=aK h;exact⟨by rw[seqIndex_of h0 h1,e],by omega,by omega,h1⟩
    · rw[aL h1]at h;cases h
  · rw[aL h0]at h
    by_cases h1:-(n:Int)<=i
    · rw[aG h1]at h
      have e:(i+n).toNat=j:=aK h;exact⟨by rw[seqIndex_neg (by omega) h1,e],by omega,h1,by omega⟩
    · rw[aL h1]at h;cases h
def a8T{α:Type}{xs:List α}{i:Int}{v:α}(h:atI xs i=cz v):∃j,seqIndex? i xs.length=cz j/\xs[j]?=cz v/\j<xs.length/\-(xs.length:Int)<=i/\i<xs.length:=by
  unfold atI at h;cases e:ixN xs.length i with
  |none=>rw[e]at h;cases h
  |some j=>
    rw[e]at h;obtain⟨h1,h2,h3,h4⟩:=b4y e;exact⟨j,h1,h,h2,h3,h4⟩
def a2o(b:Expr):Prop:=∀o i,sG b rp o i=operate [o,i] (qM o i)
def IxR(X:Cx)(r:R2):Prop:=
  ∀(value slice:Expr) (pins:List (aw×fM)) (s:ar) (Y:St) (H:Hp) (x y:V) (v u:aj) (Q:VK),Inv X pins Y H s->RelV x v->RelV y u->r x y H Q->
    sG slice rp v u=operate [v,u] (qM v u)->aD (aX X.prog X.w) X.A (subscriptTail value slice v u) (EP X pins Y Q) X.xe s
def MtR(X:Cx)(id:String)(r:V->List V->Hp->VK->Prop):Prop:=
  ∀(pins:List (aw×fM)) (s:ar) (Y:St) (H:Hp) (x:V) (xs:List V) (v:aj) (us:List aj) (Q:VK),Inv X pins Y H s->RelV x v->Vals xs us->r x xs H Q->
    aD (aX X.prog X.w) X.A (call (.builtin id) (v::us)) (EP X pins Y Q) X.xe s
section
variable {X:Cx}{a b:Expr}{ta tb:TE}{pos:eS}
def IxR.or(h:IxR X r)(h':IxR X r'):IxR X (λx y H Q=>r x y H Q\/r' x y H Q):=by
  intro value slice pins s Y H x y v u Q I rx ry q hs;rcases q with q|q
  · exact h value slice pins s Y H x y v u Q I rx ry q hs
  · exact h' value slice pins s Y H x y v u Q I rx ry q hs
def b1K(hr:IxR X r)(ha:PE X a ta)(hb:PE X b tb)(hs:a2o b):PE X (.Subscript a b pos) (tOp r ta tb):=by
  intro pins s Y H Q I h;exact Subscript_ (b7d ha hb I h λv u s2 x y H2 I2 rx ry q=>hr a b pins s2 Y H2 x y v u Q I2 rx ry q (hs _ _))
def b9r(K:af):R2:=λx y H Q=>∃p xs i v,x=.ref p/\y=.int i/\SqL K H p xs/\atI xs i=cz v/\Q v H
def b9s(K:af):R2:=λx y H Q=>∃p xs i v,x=.ref p/\y=.int i/\SqT K H p xs/\atI xs i=cz v/\Q v H
def b4z:IxR X (b9r X.K):=by
  intro value slice pins s Y H x y v u Q I rx ry h hs;obtain⟨p,xs,i,z,rfl,rfl,hq,he,q⟩:=h;cases rx
  obtain⟨t,rfl⟩:=ry;obtain⟨cE,r,pl,hz⟩:=I.list hq;obtain⟨j,h1,h2,h3,h4,h5⟩:=a8T he;obtain⟨w,ew,yw⟩:=r.get h2;have hl:=r.length;have hn:=a2G;have fin:EP X pins Y Q w s:=⟨z,H,I,yw,q⟩;by_cases h0:0<=i
  · have hj:i.toNat=j:=by
      rw[seqIndex_of h0 h5]at h1;exact aK h1
    exact item_listR pl.isList h0 (by omega) (by rw[hj];simpa using ew) fin hs
  · have hj:(i+(cE.toArray.size:Int)).toNat=j:=by
      rw[seqIndex_neg (by omega) h4]at h1;rw[br,<-hl];exact aK h1
    exact subscriptTail_builtinR (x:=w) pl.isList.typeIs slot_list_getitem.lookup
      (wpAny_getItem_list_neg (Q:=λr s'=>r=w/\EP X pins Y Q r s') pl.isList (by omega) (by rw[br]<;>omega) (by omega) (by rw[hj];simpa using ew) ⟨rfl,fin⟩) hs
def b7p:IxR X (b9s X.K):=by
  intro value slice pins s Y H x y v u Q I rx ry h hs;obtain⟨p,xs,i,z,rfl,rfl,hq,he,q⟩:=h;cases rx
  obtain⟨t,rfl⟩:=ry;obtain⟨cE,r,pl,hz⟩:=I.tuple hq;obtain⟨j,h1,h2,h3,h4,h5⟩:=a8T he;obtain⟨w,ew,yw⟩:=r.get h2;have hl:=r.length;have hn:=a2G;have fin:EP X pins Y Q w s:=⟨z,H,I,yw,q⟩;exact subscriptTail_builtinR (x:=w) pl.typeIs slot_tuple_getitem.lookup
    (getItem_tuple (j:=j) (Q:=λr s'=>r=w/\EP X pins Y Q r s') pl (by omega) (by omega) (by rw[br,<-hl];exact h1) (by simpa using ew) ⟨rfl,fin⟩) hs
def a5b(lo hi:Option Int)(n:Nat):(jA lo hi el n).1=((HT.sIx n 0 lo:Nat):Int)/\(jA lo hi el n).2.1=((HT.sIx n n hi:Nat):Int)/\(jA lo hi el n).2.2=1:=by
  refine⟨?_,?_,rfl⟩
  · cases lo with
    |none=>simp[jA,HT.sIx]
    |some i=>
      simp only[jA,HT.sIx,Gg,show (1:Int)>0 by decide,iX];by_cases h:i<0
      · simp only[h,iX]<;>omega
      · simp only[h,fO]<;>omega
  · cases hi with
    |none=>simp[jA,HT.sIx]
    |some i=>
      simp only[jA,HT.sIx,Gg,show (1:Int)>0 by decide,iX];by_cases h:i<0
      · simp only[h,iX]<;>omega
      · simp only[h,fO]<;>omega
def a3N(cE:List aj)(lo hi:Option Int):slicePick cE.toArray lo hi el=((cE.drop (HT.sIx cE.length 0 lo)).take (HT.sIx cE.length cE.length hi-HT.sIx cE.length 0 lo)).toArray:=by
  obtain⟨h1,h2,h3⟩:=a5b lo hi cE.toArray.size;unfold slicePick;rw[h1,h2,h3];simp only[sliceRange_one,pick_run,br]<;>rfl
def c1f(K:af):V->Option Int->Option Int->Hp->VK->Prop:=λx lo hi H Q=>∃a xs,x=.ref a/\SqL K H a xs/\∀p,H p=el->Q (.ref p) (upd H p (.lst (a7z xs lo hi)))
def b4A:SlR X (c1f X.K):=by
  intro pins s Y H x v vl vu lo hi sl Q I rx hs pl pu h;obtain⟨a,xs,rfl,hx,q⟩:=h;cases rx
  obtain⟨cE,r,ht,hz⟩:=I.list hx;have hlen:=r.length;refine⟨"list",_,slot_list_getitem.lookup,ht.isList.typeIs,?_⟩;refine wpAny_getItem_list_slice ht.isList hs pl pu .none (by simp) ?_ (by rw[br]<;>omega);rw[a3N,<-hlen];refine⟨.ref s.heap.objs.size,_,I.laid (t':=s.toks) (o:=.lst (a7z xs lo hi)) (λb ob q=>ag _ q) (aE _) ?_,rfl,q _ (I.hok.fresh (aE _))⟩;exact⟨cA (a5X xs lo hi) hz,_,0,(r.drop (HT.sIx xs.length 0 lo)).take (HT.sIx xs.length xs.length hi-HT.sIx xs.length 0 lo),aH _ rfl⟩
def a5c:CallR X (.builtin "len") (λxs H Q=>∃p ys,xs=[.ref p]/\(SqL X.K H p ys\/SqT X.K H p ys)/\Q (.int ys.length) H):=by
  intro pins s Y H xs us Q I r h;obtain⟨p,ys,rfl,hq,q⟩:=h;obtain⟨u,rfl,rx⟩:=vals1 r;cases rx
  have hn:=a2G;rcases hq with hq|hq
  · obtain⟨cE,r',pl,hz⟩:=I.list hq
    have hlen:=r'.length;exact Calls.call_len_list pl.isList (by simp only[br]<;>omega) ⟨.int ys.length,H,I.tok _,⟨s.toks+1,by rw[br,hlen]⟩,q⟩
  · obtain⟨cE,r',pl,hz⟩:=I.tuple hq
    have hlen:=r'.length;exact len_tuple pl (by simp only[br]<;>omega) ⟨.int ys.length,H,I.tok _,⟨s.toks+1,by rw[br,hlen]⟩,q⟩
def a5d:CallR X (.builtin "len") (λxs H Q=>∃z,xs=[.str z]/\z.length<=aV/\Q (.int z.length) H):=by
  intro pins s Y H xs us Q I r h;obtain⟨z,rfl,hz,q⟩:=h;obtain⟨u,rfl,t,rfl⟩:=vals1 r;have hn:=a2G;exact len_str (by omega) ⟨.int z.length,H,I.tok _,⟨_,rfl⟩,q⟩
def CallR.or(h:CallR X f r)(h':CallR X f r'):CallR X f (λxs H Q=>r xs H Q\/r' xs H Q):=by
  intro pins s Y H xs us Q I rs q;rcases q with q|q
  · exact h pins s Y H xs us Q I rs q
  · exact h' pins s Y H xs us Q I rs q
def a0D:CallR X (.type "list") (λxs H Q=>∃p ys,xs=[.ref p]/\(SqL X.K H p ys\/SqT X.K H p ys)/\∀l,H l=el->Q (.ref l) (upd H l (.lst ys))):=by
  intro pins s Y H xs us Q I r h;obtain⟨p,ys,rfl,hq,q⟩:=h;obtain⟨u,rfl,rx⟩:=vals1 r;cases rx
  have fin:∀(cE:List aj),Vals ys cE->ys.length<=aV->∀(h':bQ) (c':Nat),(∀b o',s.heap.get? b=cz o'->h'.get? b=cz o')->
      h'.get? s.heap.objs.size=cz {cls:=.type "list",dict:=el,data:=.seq cE.toArray c',slots:=#[]}->EP X pins Y Q (.ref s.heap.objs.size) {s with heap:=h'}:=λcE r' hz h' c' kp e=>
    ⟨.ref s.heap.objs.size,_,I.laid (t':=s.toks) kp (aE _) (show ObjOk X.prog X.w _ h' _ (.lst ys) from⟨hz,cE,c',r',e⟩),rfl,q _ (I.hok.fresh (aE _))⟩
  rcases hq with hq|hq
  · obtain⟨cE,r',pl,hz⟩:=I.list hq
    have hlen:=r'.length;obtain⟨o,ho,hc,n,hd⟩:=pl.isList;exact call_list_seq p (.inl rfl) ho hc hd (λh' c' kp e=>fin cE r' hz h' c' kp e) (by simp only[br]<;>omega)
  · obtain⟨cE,r',pl,hz⟩:=I.tuple hq
    have hlen:=r'.length;obtain⟨o,ho,hc,n,hd⟩:=pl;exact call_list_seq p (.inr rfl) ho hc hd (λh' c' kp e=>fin cE r' hz h' c' kp e) (by simp only[br]<;>omega)
def a3O:CallR X (.type "tuple") (λxs H Q=>∃p ys,xs=[.ref p]/\((SqL X.K H p ys/\∀l,H l=el->Q (.ref l) (upd H l (.tup ys)))\/(SqT X.K H p ys/\Q (.ref p) H))):=by
  intro pins s Y H xs us Q I r h;obtain⟨p,ys,rfl,h⟩:=h;obtain⟨u,rfl,rx⟩:=vals1 r;cases rx
  rcases h with⟨hq,q⟩|⟨hq,q⟩
  · obtain⟨cE,r',pl,hz⟩:=I.list hq
    have hlen:=r'.length;refine call_tuple_list pl.isList (λh' kp=>?_) (by simp only[br]<;>omega);have I1:Inv X pins Y H {s with heap:=h'}:=I.kept (t':=s.toks) kp;have I2:Inv X pins Y (upd H h'.objs.size (.tup ys)) {s with heap:=h'.push {cls:=.type "tuple",data:=.seq cE.toArray}}:=
      I1.laid (t':=s.toks) (λb o e=>ag _ e) (aE _) (show ObjOk X.prog X.w _ _ _ (.tup ys) from⟨hz,cE,r',IsTup.new _ _⟩)
    exact⟨.ref h'.objs.size,_,I2,rfl,q _ (I1.hok.fresh (aE _))⟩
  · obtain⟨cE,r',pl,hz⟩:=I.tuple hq
    exact call_tuple_same pl ⟨.ref p,H,I,rfl,q⟩
def tyV(K:af)(T:String)(x:V)(H:Hp):Prop:=match x with
  |.str _=>T="str"
  |.int _=>T="int"
  |.ref p=>(T="list"/\∃xs,SqL K H p xs)\/(T="tuple"/\∃o,K.lookup p=cz o/\o.cls=.type "tuple"/\o.dict=el)\/
      (T="dict"/\((∃kvs,H p=cz (.dK kvs))\/∃kvs,H p=cz (.dT kvs)))\/(T="set"/\∃S n,H p=cz (.set S n))
  |_=>False
def b1L(I:Inv X pins Y H s)(r:RelV x v)(ty:tyV X.K T x H) :
    s.TypeIs v T/\∀a,v=.ref a->∃ob,s.heap.get? a=cz ob/\ob.dict=el:=by
  cases x with
  |str z=>
    obtain⟨t,rfl⟩:=r;cases (show T="str" from ty)
    exact⟨typeIs_str s z t,λ_ e=>nomatch e⟩
  |int i=>
    obtain⟨t,rfl⟩:=r;cases (show T="int" from ty)
    exact⟨typeIs_int s i t,λ_ e=>nomatch e⟩
  |ref p=>
    cases r
    rcases ty with⟨rfl,xs,hq⟩|⟨rfl,o,hk,hc,hd⟩|⟨rfl,hk⟩|⟨rfl,S,n,hk⟩
    · obtain⟨cE,_,pl,_⟩:=I.list hq
      refine⟨pl.isList.typeIs,λa e=>?_⟩;cases e
      obtain⟨o,n,e,c,hd,_⟩:=pl;exact⟨o,e,hd⟩
    · refine⟨⟨o,I.kIn p o hk,hc⟩,λa e=>?_⟩
      cases e
      exact⟨o,I.kIn _ o hk,hd⟩
    · have z:∃o,s.heap.get? p=cz o/\o.ExactDict:=by
        rcases hk with⟨kvs,hk⟩|⟨kvs,hk⟩
        · obtain⟨_,_,_,_,o,_,_,e,ex,_⟩:=I.hok p _ hk
          exact⟨o,e,ex⟩
        · obtain⟨_,_,_,_,o,_,_,e,ex,_⟩:=I.hok p _ hk
          exact⟨o,e,ex⟩
      obtain⟨o,e,ex⟩:=z;refine⟨⟨o,e,ex.1⟩,λa e2=>?_⟩;cases e2
      exact⟨o,e,ex.2.1⟩
    · obtain⟨o,_,_,_,e,ex,_⟩:=I.hok p _ hk
      refine⟨⟨o,e,ex.1⟩,λa e2=>?_⟩;cases e2
      exact⟨o,e,ex.2.1⟩
  |_=>exact cK ty
def c1g(K:af)(T:String)(r:V->List V->Hp->VK->Prop)(to:TE):TE:=λY H Q=>to Y H λx H1=>tyV K T x H1/\r x [] H1 Q
def tBM(K:af)(T:String)(r:V->List V->Hp->VK->Prop)(to:TE)(t:TA):TE:=λY H Q=>to Y H λx H1=>tyV K T x H1/\t Y H1 λxs H2=>r x xs H2 Q
variable {o e:Expr}{es:List Expr}{to:TE}{t:TA}{name:bC}{apos cw:eS}{T id:String}{r:V->List V->Hp->VK->Prop}
def b7q(pa:PlainAttrs T)(slot:Slot T name id)(vN:typeOf (.builtin id)=pure (.type "method_descriptor"))(hm:MtR X id r)(ho:PE X o to)
    (et:cY o name X.env (cn o X.env)=cn o X.env:=by rfl) (er:(apos.endLine==cw.line)=p4:=by rfl):PE X (.Call (.Attribute o name apos) [] [] cw) (c1g X.K T r to):=by
  intro pins s Y H Q I h;refine iC et er (thn (ho pins s Y H _ I h) λv s1 ⟨x,H1,I1,r1,ty,q1⟩=>?_);obtain⟨h1,h2⟩:=b1L I1 r1 ty;exact⟨T,id,pa,slot,vN,h1,h2,fu rfl (jo (hm pins s1 Y H1 x [] v [] Q I1 r1 .nil q1))⟩
def b1M(pa:PlainAttrs T)(slot:Slot T name id)(vN:typeOf (.builtin id)=pure (.type "method_descriptor"))(hm:MtR X id r)(ho:PE X o to)(ha:PA X (e::es) t)
    (et:cY o name X.env (cn o X.env)=cn o X.env:=by rfl)
    (jZ:((cx cw (ax (e::es) X.env)).all (λx=>!x.1)&&(lS cw (iF [] X.env)).all (λx=>x.1.isSome)
      && decide ((e::es).length+([]:List gu).length+(if ([]:List gu).isEmpty then 0 else 1)<30))=p4:=by rfl)
    (er:(apos.endLine==cw.line)=p4:=by rfl) (hs:ax (e::es) X.env=(rp,cn e X.env)::ax es X.env:=by rfl) (gc:(cx cw (ax es X.env)).any (·.1)=rp:=by rfl) :
    PE X (.Call (.Attribute o name apos) (e::es) [] cw) (tBM X.K T r to t):=by
  intro pins s Y H Q I h;refine CC et jZ er rfl (thn (ho pins s Y H _ I h) λv s1 ⟨x,H1,I1,r1,ty,q1⟩=>?_);obtain⟨h1,h2⟩:=b1L I1 r1 ty;refine⟨T,id,pa,slot,vN,h1,h2,?_⟩;have hA:=ha cw pins s1 Y H1 _ I1 q1;rw[hs]at hA ⊢;refine fu (by show (rp||(cx cw (ax es X.env)).any (·.1))=rp;rw[gc]<;>rfl) (nS ?_);exact thn hA λus s2 ⟨vs,H2,I2,r2,q2⟩=>hm pins s2 Y H2 x vs v us Q I2 r1 r2 q2
end
def MtM(X:Cx)(id:String)(r:V->List V->Hp->VK->Prop):Prop:=
  ∀(pins:List (aw×fM)) (s:ar) (Y:St) (H:Hp) (x:V) (xs:List V) (v:aj) (us:List aj) (Q:VK),Inv X pins Y H s->RelV x v->Vals xs us->r x xs H Q->
    aD (aX X.prog X.w) X.A (call (.builtin id) (v::us)) (EP X pins Y Q) X.xe s
def Vals.one:∀{x:V} {us:List aj},Vals [x] us->∃u,us=[u]/\RelV x u
  |_,_,.cons r .nil=>⟨_,rfl,r⟩
def Vals.zero:∀{us:List aj},Vals [] us->us=[]
  |_,.nil=>rfl
section
variable {X:Cx}{pins:List (aw×fM)}{Y:St}{H:Hp}{s:ar}{l b:aw}{xs ys zs:List V}
def Inv.lset{cE its':List aj}(I:Inv X pins Y H s)(hH:H l=cz (.lst xs))
    (e:s.heap.get? l=cz {cls:=.type "list",data:=.seq cE.toArray n}) (hf:f cE.toArray=its'.toArray) (hv:Vals ys its') (hz:ys.length<=aV) :
    Inv X pins Y (upd H l (.lst ys)) {s with heap:=s.heap.update l (gX f),toks:=t'}:=by
  have q:=PySem.IsL.update e f;rw[hf]at q;refine I.write (x:=l) (e:=l) (by rw[hH];exact trivial) (.inl rfl) (λb' u hb hu=>(dC s.heap (gX f) (dA hb)).trans hu) ⟨_,q⟩ ?_;exact⟨hz,its',_,hv,q⟩
def Inv.lnew(I:Inv X pins Y H s)(hv:Vals ys cE)(hz:ys.length<=aV) :
    Inv X pins Y (upd H s.heap.objs.size (.lst ys)) {s with heap:=s.heap.push {cls:=.type "list",data:=.seq cE.toArray},toks:=t'}:=
  I.laid (λ_ _ q=>ag _ q) (aE _) ⟨hz,cE,0,hv,aH _ rfl⟩
theorem Inv.fresh(I:Inv X pins Y H s):H s.heap.objs.size=el:=I.hok.fresh (aE _)
def Inv.lstM(I:Inv X pins Y H s)(hH:H l=cz (.lst xs)):xs.length<=aV/\∃(cE:List aj) (n:Nat),Vals xs cE/\xs.length=cE.length/\s.heap.get? l=cz {cls:=.type "list",data:=.seq cE.toArray n}:=by
  obtain⟨z,cE,n,r,e⟩:=I.hok l _ hH;exact⟨z,cE,n,r,r.length,e⟩
def b1N(h:n<=aV):lC n=rp:=by
  unfold lC;exact aS (by omega)
end
section
variable {X:Cx}
def b4B:V->List V->Hp->VK->Prop:=λx vs H Q=>∃l xs y,x=.ref l/\vs=[y]/\H l=cz (.lst xs)/\xs.length<aV/\Q .non (upd H l (.lst (xs++[y])))
def a4c:MtM X "list.append" b4B:=by
  intro pins s Y H x vs v us Q I rx rv h;obtain⟨l,xs,y,rfl,rfl,hH,hz,q⟩:=h;cases rx
  obtain⟨u,rfl,ru⟩:=rv.one;obtain⟨z,cE,n,r,hl,e⟩:=I.lstM hH;refine pf F.slot_list_append ⟨_,e,rfl⟩ F.entry_list_append (F.args_list_append_2 _ _) (PySem.list_append l cE.toArray n u (by rw[br];omega)) ⟨e,?_⟩;refine⟨.non,_,I.lset (its':=cE++[u]) hH e (by simp) (r.append (.cons ru .nil)) ?_,rfl,q⟩;rw[ba,uX];omega
def b4C:V->List V->Hp->VK->Prop:=λx vs H Q=>∃l b xs zs,x=.ref l/\vs=[.ref b]/\H l=cz (.lst xs)/\H b=cz (.lst zs)/\xs.length+zs.length<=aV/\Q .non (upd H l (.lst (xs++zs)))
def a9T:MtM X "list.extend" b4C:=by
  intro pins s Y H x vs v us Q I rx rv h;obtain⟨l,b,xs,zs,rfl,rfl,hH,hB,hz,q⟩:=h;cases rx
  obtain⟨u,rfl,ru⟩:=rv.one;cases ru
  obtain⟨z,cE,n,r,hl,e⟩:=I.lstM hH;obtain⟨z2,mK,n2,r2,uI,e2⟩:=I.lstM hB;have hsz:cE.toArray.size+mK.toArray.size<=aV:=by rw[br,br];omega
  have v_:¬ (!cE.toArray.isEmpty&&lC (cE.toArray.size+mK.toArray.size))=p4:=by
    rw[b1N hsz,qV];exact aY
  refine pf F.slot_list_extend ⟨_,e,rfl⟩ F.entry_list_extend (F.args_list_extend_2 _ _)
    (AutoSeq1.list_extend_list_list_0 l cE.toArray n b mK.toArray n2 v_ (by rw[br];omega) (by omega)) ⟨e,e2,?_⟩
  refine⟨.non,_,I.lset (its':=cE++mK) hH e (by simp) (r.append r2) ?_,rfl,q⟩;rw[ba];omega
end
end L2
namespace Att
open PySem PySem.W PySem.Calls PyProof.Rows
def a2n:∀(ns:List Int) (vs:List aj),WellAll P h vs (ns.map WData.int)->IntsAre vs ns:=by
  intro ns
  induction ns with
  |nil=>
    intro vs w;rw[cB]at w;cases w
    exact .nil
  |cons n ns ih=>
    intro vs w;rw[av]at w;cases w with
    |cons a b=>
      cases a
      exact .cons _ _ (ih _ b)
def a9U{l:OpenLaw}(hn:l.most=cz n) 
    (iN:l.row.toRowW.claim.pre args=p4) (tF:WellAll P h vals args) :
    ∃a vs ns,vals=[aZ a]/\args=[WData.list (ns.map WData.int)]/\h.get? a=cz {cls:=.type "list",data:=.seq vs.toArray}/\IntsAre vs ns/\ns.length<=n:=by
  have DX:WShape.hasAll [] args [.list .int]=p4:=(pre_splitW iN).1;have hc:l.pre.holds [] {args:=args}=p4:=(pre_splitW iN).2;obtain⟨d,r,rfl,h1,h2⟩:=hasAllW_cons DX;obtain rfl:=hasAllW_nil h2;obtain⟨xs,rfl,h3⟩:=hasW_list h1;obtain⟨ns,rfl⟩:=items_int h3;have hlen:ns.length<=n:=by
    unfold OpenLaw.pre at hc;have h4:(WTm.not (.lt (.lit (.int (n:Int))) (.len (.arg 0)))).holds [] {args:=[.list (ns.map .int)]}=p4:=by
      have h4:=(holds_andW hc).1;rw[hn]at h4;exact h4
    have h5:=condW_of h4 (w_not (w_lt w_lit (w_len_list (w_arg rfl))));rw[au]at h5;refine Nat.le_of_not_lt λq=>?_
    have q':(n:Int)<((ns.length:Nat):Int):=by omega
    first
      | (rw[aA q']at h5;exact absurd h5 (by decide))
      | (simp at h5;omega)
  cases tF with
  |cons w1 w2=>
    cases w2
    cases w1 with
    |list ho lO=>exact⟨_,_,ns,rfl,rfl,ho,a2n ns _ lO,hlen⟩
def a9V(l:OpenLaw)(args:List WData):l.row.toRowW.claim.post args (.bool p4) args=p4:=
  postW_of (r:=l.row.toRowW) (X:=(p4==p4))
    (show WShape.has [] (.bool p4) .bool=p4 by first|rfl|decide|simp[WShape.has,WShape.arms,WShape.armsAll])
    (show (WTm.eq .res (.lit (.bool p4))).value [] {args:=args,res:=cz (.bool p4),after:=args}=cz (.bool (p4==p4)) from w_eq_bool (w_res rfl) w_lit) rfl
def attach_call{l:OpenLaw}{d:DefRec}
    (hn:l.most=cz n) (wA:d.params.defaults=[])
    (call:∀(w:bI) (s₀ s₁:ar) (mg mb:bC->Option aj) (fa:aw) (o:fM) (pm cd doc:aj) (a:aw) (vs:List aj) (ns:List Int),
      Ground q loose [] XP w s₀ mg mb s₁.heap->YP w s₁.heap->
      s₁.heap.get? fa=cz o->o.data=.func (docDef d.name d.params d.body d.scope pm cd doc)->s₁.heap.CodeRec cd d.name->mg d.name=cz (.ref fa)->
      s₁.heap.get? a=cz {cls:=.type "list",data:=.seq vs.toArray}->IntsAre vs ns->ns.length<=n->s₁.gens=#[]->
      gL (aX l.prog w) nW (.call (.ref fa) ⟨[.ref a],[]⟩) (λr s'=>r=.ok (.ret (.bool p4))/\OldK s₁.heap s'.heap/\s'.os=s₁.os/\oN s'.gens) s₁) :
    WalkO q loose XP YP l.row.toRowW d [] (λf vs=>Ao f vs):=by
  intro w s₀ s₁ mg mb G xn fa o pm cd doc dV kV ho hd iG hD vZ hg args vals as iN oh GO tF GU;obtain rfl:dV=.none:=Dflts.none hD wA;obtain rfl:kV=.none:=Dflts.noKw hD;obtain⟨a,vs,ns,rfl,rfl,tN,hints,hlen⟩:=a9U hn iN tF;refine enter_call (fP (call w s₀ s₁ mg mb fa o pm cd doc a vs ns G xn ho (fd_plain hd) iG vZ tN hints hlen hg) λr s' hq=>?_);obtain⟨rfl,h2,h3,h4⟩:=hq;exact⟨.inl ⟨.bool p4,.bool p4,[],rfl,λ_=>rfl,.bool p4,a9V l _,λ_=>⟨jW,λ_ hm=>(nomatch hm)⟩⟩,h2,h3,h4⟩
section
variable {prog:bz}{w:bI}{A:bD}{E:aj->ar->Prop}{s:ar}{K:Frag}
def ledger(h:bQ)(L d:aw):List (aw×fM):=(aQ h.objs.size).filterMap λa=>if a=L\/a=d then el else (h.get? a).map λo=>(a,o)
end
end Att
namespace L2
open PySem PySem.Spec PyProof.Rows
theorem vals_ints:∀{vs:List aj} {ns:List Int},IntsAre vs ns->Vals (ns.map V.int) vs
  |_,_,.nil=>.nil
  |_,_,.cons n t h=>.cons ⟨t,rfl⟩ (vals_ints h)
abbrev KOf{K:af}{h:bQ}(_:K.In h):af:=K
end L2
namespace L2
open PySem PySem.Spec PyProof.Rows
def T4(s:hZ):lZ:=match s with
  |.FunctionDef _ a _ _ _ _ _ _ _ _=>a
  |_=>{posonlyargs:=[],args:=[],vararg:=el,kwonlyargs:=[],kw_defaults:=[],kwarg:=el,defaults:=[]}
def y6(s:hZ):List hZ:=match s with
  |.FunctionDef _ _ b _ _ _ _ _ _ _=>b
  |_=>[]
def j5(s:hZ):gh:=match s with
  |.FunctionDef _ _ _ _ _ _ sc _ _ _=>sc
  |_=>{kind:=.function,names:=[],isGenerator:=rp,isCoroutine:=rp}
abbrev CX0:CXT:=λ_ _ _ _ _ _=>False
abbrev E0:XK:=λ_ _ _=>False
def b9t:a7y CX0 X E0:=λ_ _ _ _ _ _ _ h=>h.elim
structure Fun (K:af) (x qual:bC) (st:hZ) (f:aw) (fd:dD):Prop where
  ex:∃(oc:aj) (od:Option aw) (kV doc pm:aj) (an:Option aw) (gk ct:aj) (oS:Array (Option aj)),
    fd=fV x qual (T4 st) (y6 st) (j5 st) .none kV doc pm an gk ct/\K.lookup f=cz ⟨oc,od,.func fd,oS⟩/\lW K gk qual=p4
  kp:fR K (.ref f)=p4
section
variable {P:bz}{w:bI}{K:af}{mg:bC->Option aj}{base:bQ}
def Fun.ok{x qual:bC}{st:hZ}{f:aw}{fd:dD}{N ps:List bC}{k:Nat}{sp:Sp}(F:Fun K x qual st f fd)(S:FnScope N ps (j5 st))(len:∀vs H Q E,sp vs H Q E->vs.length=ps.length)
    (qD:∀(gk:aj) (A:bD) (outer:List oM) (s:ar) (H:Hp) (vs:List V) (Q:VK) (E:XK),Room k (A.deeper (jl qual (j5 st) s.heap.objs.size f gk))->sp vs H Q E->
      ∃t,PSs (a0C CX0 P w K mg base N qual (j5 st) f gk A outer s H E).nox (y6 st) t/\t {nx:=λ_ H'=>Q .non H',rt:=Q} (start N vs) H):FnOk P w K mg base CX0 (k+1) f fd ps sp:=by
  obtain⟨oc,od,kV,doc,pm,an,gk,ct,oS,rfl,lk,iG⟩:=F.ex;refine b6l lk iG S len λA outer s H vs Q E hr pX=>?_
  obtain⟨t,h,q⟩:=qD gk A outer s H vs Q E hr pX;exact⟨t,h.nox,q⟩
def Fun.binds{x qual:bC}{st:hZ}{f:aw}{fd:dD}{ps:List bC}(F:Fun K x qual st f fd)
    (h:∀(kV doc pm:aj) (an:Option aw) (gk ct:aj) (us:List aj),us.length=ps.length->qO (fV x qual (T4 st) (y6 st) (j5 st) .none kV doc pm an gk ct) ⟨us,[]⟩=pure (ps.zip us)):Binds K fd ps []:=by
  obtain⟨oc,od,kV,doc,pm,an,gk,ct,oS,rfl,lk,iG⟩:=F.ex;exact .all (h kV doc pm an gk ct)
def b7r{x qual:bC}{st:hZ}{f:aw}{oc:aj}{od an:Option aw}{oS:Array (Option aj)}{kV doc pm gk ct:aj}(l:K.lookup f=cz ⟨oc,od,.func (fV x qual (T4 st) (y6 st) (j5 st) .none kV doc pm an gk ct),oS⟩)
    (c:lW K gk qual=p4) (k:fR K (.ref f)=p4):Fun K x qual st f (fV x qual (T4 st) (y6 st) (j5 st) .none kV doc pm an gk ct):=⟨⟨oc,od,kV,doc,pm,an,gk,ct,oS,rfl,l,c⟩,k⟩
end
def a1q(h:n<=1000):n<aV:=h_ h (by decide)
section
variable {X:Cx}
def pv(i:Nat)(hN:X.N[i]?=cz x:=by rfl)(hv:Vis X.env.scope x:=by first|exact bR rfl|exact bT (bR rfl)|exact bT (bT rfl))(hd:(x==("__debug__":bC))=rp:=by decide)
    (iG:(x==("__classdict__":bC))=rp:=by decide):PE X (.Name x pos) (b4i i):=C7 hN hv hd iG
end
def a5e{A B:Prop}(h:B):if rp=p4 then A else B:=by
  rw[aL aY];exact h
def a5f{A B:Prop}(h:A):if p4=p4 then A else B:=by
  rw[aG rfl];exact h
def Same(H H':Hp):Prop:=∀b o,H b=cz o->H' b=cz o
def Same.refl(H:Hp):Same H H:=λ_ _ h=>h
def Same.trans(a:Same H H1)(b:Same H1 H2):Same H H2:=λc o h=>b c o (a c o h)
def Same.free{H H':Hp}(e:Same H H'){l:aw}(h:H' l=Option.none):H l=Option.none:=by
  cases q:H l with
  |none=>rfl
  |some o=>
    rw[e l o q]at h;cases h
end L2
set_option Elab.async false
set_option linter.all false
set_option maxRecDepth 100000
set_option maxHeartbeats 4000000
namespace L2
open PySem PySem.Spec PyProof.Rows
def O2(X:Cx)(N:List bC)(scope:gh)(cl:List (bC×aw))(C:aw)(s:ar)(H:Hp)(fp:List aw):Cx:=
 {X with N:=N,s₀:=s,H₀:=H,env:=compEnvC scope cl C X.env,outer:=X.stack,ex:=fp,fn:=λ_=>rp,xe:=λ_ _=>False}
structure CompIn (X:Cx) (N:List bC) (scope:gh) (cl:List (bC×aw)) (τ:St->St):Prop where
 clos:pd scope X.env=pure cl
 kind:scope.kind=.function
 ncell:∀y∈scope.names,y.2≠.cell
 names:∀y∈scope.names,y.2=.local->scope.names.lookup y.1=cz .local
 sub:∀x c,cl.lookup x=cz c->X.env.cells.lookup x=cz c
 has:∀y∈scope.names,y.2=.free->∃c,cl.lookup y.1=cz c
 tlen:∀Y,(τ Y).length=N.length
 tval:∀(Y:St) (i:Nat) (x:bC) (v:V),N[i]?=cz x->(τ Y)[i]?=cz (cz v)->∃j:Nat,X.N[j]?=cz x/\Y[j]?=cz (cz v)/\scope.names.lookup x=cz .free/\(X.env.kindOf x=cz .cell\/X.env.kindOf x=cz .free)
def a0E{scope:gh}(hn:∀y∈scope.names,y.2≠.cell)(h:(md scope env).names.lookup x=cz .cell\/(md scope env).names.lookup x=cz .free):∃y∈scope.names,y.1=x/\y.2=.free:=by
 have key:∀k,(md scope env).names.lookup x=cz k->k=.cell\/k=.free->∃y∈scope.names,y.1=x/\y.2=.free:=λk e hk=>by
  have hm:=bX e;unfold md at hm;obtain⟨⟨n,k'⟩,hy,e2⟩:=aO.mp hm
  dsimp only at e2
  by_cases hc:(k'==fy&&env.scope.kind==.function&&env.kindOf n==cz .cell)=p4
  ·rw[aG hc]at e2;cases e2
   rw[ak,ak]at hc;exact⟨_,hy,rfl,by simpa using hc.1.1⟩
  ·rw[aL hc]at e2;cases e2
   rcases hk with rfl|rfl
   ·exact absurd rfl (hn _ hy)
   ·exact⟨_,hy,rfl,rfl⟩
 rcases h with h|h
 ·exact key _ h (.inl rfl)
 ·exact key _ h (.inr rfl)
def a5g{scope:gh}(h:scope.names.lookup x=cz .free):(md scope env).names.lookup x=cz .cell\/(md scope env).names.lookup x=cz .free:=by
 have key:∀names:List (bC×ja),names.lookup x=cz .free->
   (names.map λ(n,k)=>if (k==fy&&env.scope.kind==.function&&env.kindOf n==cz .cell) then (n,ja.cell) else (n,k)).lookup x=cz .cell\/
   (names.map λ(n,k)=>if (k==fy&&env.scope.kind==.function&&env.kindOf n==cz .cell) then (n,ja.cell) else (n,k)).lookup x=cz .free:=by
  intro names
  induction names with
  |nil=>intro h;cases h
  |cons z r ih=>
   obtain⟨n,k⟩:=z;intro h;rw[av]
   dsimp only
   rw[fS]at h;cases hx:x==n with
   |true=>
    rw[hx]at h;have hk:k=.free:=by simpa using h
    subst hk;by_cases hc:(fy==fy&&env.scope.kind==.function&&env.kindOf n==cz .cell)=p4
    ·rw[aG hc,fS,hx];exact .inl rfl
    ·rw[aL hc,fS,hx];exact .inr rfl
   |false=>
    rw[hx]at h;by_cases hc:(k==fy&&env.scope.kind==.function&&env.kindOf n==cz .cell)=p4
    ·rw[aG hc,fS,hx];exact ih h
    ·rw[aL hc,fS,hx];exact ih h
 exact key _ h
structure Has (P:bz) (w:bI) (K:af) (mg:bC->Option aj) (base:bQ) (x:bC) (k:Nat) (ps:List bC) (sp:Sp):Prop where
 ex:∃f fd,FnOk P w K mg base CX0 k f fd ps sp/\Binds K fd ps []/\fR K (.ref f)=p4/\mg x=cz (.ref f)
def Has.up{P:bz}{w:bI}{K:af}{mg:bC->Option aj}{base:bQ}{x:bC}{j k:Nat}{ps:List bC}{sp:Sp}(h:Has P w K mg base x j ps sp)(l:j<=k):Has P w K mg base x k ps sp:=by
 obtain⟨f,fd,a,b⟩:=h.ex;exact⟨f,fd,a.mono l,b⟩
section
variable {X:Cx}{k:Nat}{ps:List bC}{sp:Sp}{x:bC}{p pos:eS}{e:Expr}{es:List Expr}{t:TA}
def a7A(h:Has X.prog X.w X.K X.mg X.base x k ps sp)(hr:Room k X.A)(ha:PA X (e::es) t)(hg:Gl X x:=by rfl)(lN:(x==("__debug__":bC))=rp:=by decide)
  (he:ax (e::es) X.env=(rp,cn e X.env)::ax es X.env:=by rfl) (f_:(cx pos (ax es X.env)).any (·.1)=rp:=by rfl):PE X (.Call (.Name x p) (e::es) [] pos) (b6k sp [] E0 t):=by
 obtain⟨f,fd,F,b,kp,m⟩:=h.ex;exact b4s F hr hg m kp b .nil b9t ha lN he f_
end
mutual
def Den(H:Hp):V->bh->Prop
 |v,.none=>v=.non
 |v,.bool b=>v=.bl b
 |v,.int i=>v=.int i
 |v,.str x=>v=.str x
 |v,.list ds=>∃a xs,v=.ref a/\H a=cz (.lst xs)/\DenAll H xs ds
 |v,.tuple ds=>∃a xs,v=.ref a/\H a=cz (.tup xs)/\DenAll H xs ds
 |v,.dict kvs=>kvs=[]/\∃a,v=.ref a/\H a=cz (.dK [])
def DenAll(H:Hp):List V->List bh->Prop
 |xs,[]=>xs=[]
 |xs,d::ds=>∃v r,xs=v::r/\Den H v d/\DenAll H r ds
end
mutual
theorem Den.mono{H H':Hp}(e:Same H H'):∀(d:bh) {v:V},Den H v d->Den H' v d
 |.none,_,h=>by simpa only [Den]using h
 |.bool _,_,h=>by simpa only [Den]using h
 |.int _,_,h=>by simpa only [Den]using h
 |.str _,_,h=>by simpa only [Den]using h
 |.list ds,_,h=>by
  simp only[Den]at h ⊢;obtain⟨a,xs,h1,h2,h3⟩:=h;exact⟨a,xs,h1,e _ _ h2,DenAll.mono e ds h3⟩
 |.tuple ds,_,h=>by
  simp only[Den]at h ⊢;obtain⟨a,xs,h1,h2,h3⟩:=h;exact⟨a,xs,h1,e _ _ h2,DenAll.mono e ds h3⟩
 |.dict _,_,h=>by
  simp only[Den]at h ⊢;obtain⟨h0,a,h1,h2⟩:=h;exact⟨h0,a,h1,e _ _ h2⟩
theorem DenAll.mono{H H':Hp}(e:Same H H'):∀(ds:List bh) {xs:List V},DenAll H xs ds->DenAll H' xs ds
 |[],_,h=>by simpa only [DenAll]using h
 |d::ds,_,h=>by
  simp only[DenAll]at h ⊢;obtain⟨v,r,h1,h2,h3⟩:=h;exact⟨v,r,h1,Den.mono e d h2,DenAll.mono e ds h3⟩
end
def Den.up{H H':Hp}{d:bh}{v:V}(h:Den H v d)(e:Same H H'):Den H' v d:=Den.mono e d h
def DenAll.up{H H':Hp}{ds:List bh}{xs:List V}(h:DenAll H xs ds)(e:Same H H'):DenAll H' xs ds:=DenAll.mono e ds h
section
variable {H:Hp}
def den_none:Den H .non .none:=by simp only[Den]
def den_bool{b:Bool}:Den H (.bl b) (.bool b):=by simp only[Den]
def den_int{i:Int}:Den H (.int i) (.int i):=by simp only[Den]
def den_list{a:aw}{xs:List V}{ds:List bh}(h:H a=cz (.lst xs))(q:DenAll H xs ds):Den H (.ref a) (.list ds):=by
 simp only[Den];exact⟨a,xs,rfl,h,q⟩
def den_tup{a:aw}{xs:List V}{ds:List bh}(h:H a=cz (.tup xs))(q:DenAll H xs ds):Den H (.ref a) (.tuple ds):=by
 simp only[Den];exact⟨a,xs,rfl,h,q⟩
def denAll_nil:DenAll H [] []:=by simp only[DenAll]
def denAll_cons{v:V}{d:bh}{xs:List V}{ds:List bh}(h:Den H v d)(q:DenAll H xs ds):DenAll H (v::xs) (d::ds):=by
 simp only[DenAll];exact⟨v,xs,rfl,h,q⟩
def Den.list_inv{v:V}{ds:List bh}(h:Den H v (.list ds)):∃a xs,v=.ref a/\H a=cz (.lst xs)/\DenAll H xs ds:=by simpa only [Den]using h
def Den.tup_inv{v:V}{ds:List bh}(h:Den H v (.tuple ds)):∃a xs,v=.ref a/\H a=cz (.tup xs)/\DenAll H xs ds:=by simpa only [Den]using h
def Den.int_inv{v:V}{i:Int}(h:Den H v (.int i)):v=.int i:=by simpa only [Den]using h
def DenAll.cons_inv{xs:List V}{d:bh}{ds:List bh}(h:DenAll H xs (d::ds)):∃v r,xs=v::r/\Den H v d/\DenAll H r ds:=by simpa only [DenAll]using h
def DenAll.nil_inv{xs:List V}(h:DenAll H xs []):xs=[]:=by simpa only [DenAll]using h
theorem DenAll.length:∀{ds:List bh} {xs:List V},DenAll H xs ds->xs.length=ds.length
 |[],_,h=>by rw[h.nil_inv];rfl
 |d::ds,_,h=>by
  obtain⟨v,r,rfl,_,h⟩:=h.cons_inv;rw[be,be,DenAll.length h]
theorem DenAll.get:∀{ds:List bh} {xs:List V} {i:Nat} {d:bh},DenAll H xs ds->ds[i]?=cz d->∃v,xs[i]?=cz v/\Den H v d
 |[],_,i,d,_,e=>by simp at e
 |d0::ds,_,0,d,h,e=>by
  obtain⟨v,r,rfl,h1,_⟩:=h.cons_inv;have:d0=d:=by simpa using e
  subst this;exact⟨v,rfl,h1⟩
 |d0::ds,_,i+1,d,h,e=>by
  obtain⟨v,r,rfl,_,h1⟩:=h.cons_inv;obtain⟨u,h2,h3⟩:=DenAll.get (i:=i) h1 (by simpa using e);exact⟨u,by simpa using h2,h3⟩
def DenAll.getV{ds:List bh}{xs:List V}{i:Nat}{v:V}(h:DenAll H xs ds)(e:xs[i]?=cz v):∃d,ds[i]?=cz d/\Den H v d:=by
 have hi:=(aU.mp e).1;rw[h.length]at hi;obtain⟨u,h1,h2⟩:=h.get (ao hi);rw[e]at h1;cases h1
 exact⟨_,ao hi,h2⟩
theorem DenAll.append:∀{ds:List bh} {xs:List V} {es:List bh} {ys:List V},DenAll H xs ds->DenAll H ys es->DenAll H (xs++ys) (ds++es)
 |[],_,_,_,h,q=>by rw[h.nil_inv];exact q
 |d::ds,_,_,_,h,q=>by
  obtain⟨v,r,rfl,h1,h2⟩:=h.cons_inv;exact denAll_cons h1 (DenAll.append h2 q)
end
mutual
theorem Den.reads{P:bz}{w:bI}{H:Hp}{h:bQ}(ok:HOk P w H h):∀(d:bh) {v:V} {u:aj},d.canLay0=p4->Den H v d->RelV v u->∃as,Reads h u d as
 |.none,v,u,_,q,r=>by
  simp only[Den]at q;subst q;cases (show u=cj from r)
  exact⟨_,.none⟩
 |.bool b,v,u,_,q,r=>by
  simp only[Den]at q;subst q;cases (show u=jx b from r)
  exact⟨_,.bool b⟩
 |.int i,v,u,_,q,r=>by
  simp only[Den]at q;subst q;obtain⟨t,rfl⟩:=r;exact⟨_,.int i t⟩
 |.str x,v,u,_,q,r=>by
  simp only[Den]at q;subst q;obtain⟨t,rfl⟩:=r;exact⟨_,.str x t⟩
 |.list ds,v,u,hl,q,r=>by
  simp only[Den]at q;obtain⟨a,xs,rfl,h1,h2⟩:=q;cases (show u=aZ a from r)
  obtain⟨z,cE,n,rv,e⟩:=ok a _ h1;obtain⟨as,ra⟩:=DenAll.reads ok ds hl h2 rv;exact⟨_,.list e rfl rfl (by simpa using ra)⟩
 |.tuple ds,v,u,hl,q,r=>by
  simp only[Den]at q;obtain⟨a,xs,rfl,h1,h2⟩:=q;cases (show u=aZ a from r)
  obtain⟨z,cE,rv,o,e,c,n,d⟩:=ok a _ h1;obtain⟨as,ra⟩:=DenAll.reads ok ds hl h2 rv;exact⟨_,.tuple e c d (by simpa using ra)⟩
 |.dict _,_,_,hl,_,_=>nomatch hl
theorem DenAll.reads{P:bz}{w:bI}{H:Hp}{h:bQ}(ok:HOk P w H h):∀(ds:List bh) {xs:List V} {us:List aj},aM ds=p4->DenAll H xs ds->Vals xs us->∃as,i_ h us ds as
 |[],xs,us,_,q,r=>by
  simp only[DenAll]at q;subst q;cases r
  exact⟨_,.nil⟩
 |d::ds,xs,us,hl,q,r=>by
  have pH:d.canLay0=p4/\aM ds=p4:=by simpa[aM]using hl
  simp only[DenAll]at q;obtain⟨v,rs,rfl,h1,h2⟩:=q;cases r with
  |cons r1 r2=>
   obtain⟨as,ra⟩:=Den.reads ok d pH.1 h1 r1;obtain⟨bs,rb⟩:=DenAll.reads ok ds pH.2 h2 r2;exact⟨_,.cons ra rb⟩
end
section
variable {X:Cx}
def tyD:bh->String
 |.int _=>"int"
 |.bool _=>"bool"
 |.list _=>"list"
 |.tuple _=>"tuple"
 |.none=>"NoneType"
 |.str _=>"str"
 |.dict _=>"dict"
def Den.ty{K:af}{H:Hp}{v:V}:∀{d:bh},Den H v d->TyOf K H v (.type (tyD d))
 |.none,h=>by simp only[Den]at h;subst h;exact .non
 |.bool _,h=>by simp only[Den]at h;subst h;exact .bl _
 |.int _,h=>by simp only[Den]at h;subst h;exact .int _
 |.str _,h=>by simp only[Den]at h;subst h;exact .str _
 |.list _,h=>by simp only[Den]at h;obtain⟨a,xs,rfl,h1,_⟩:=h;exact .lst h1
 |.tuple _,h=>by simp only[Den]at h;obtain⟨a,xs,rfl,h1,_⟩:=h;exact .tup h1
 |.dict _,h=>by simp only[Den]at h;obtain⟨_,a,rfl,h1⟩:=h;exact .dK h1
def call_listK(K:af)(h:X.K=K):CallR X (.type "list") (λxs H Q=>∃p ys,xs=[.ref p]/\(SqL K H p ys\/SqT K H p ys)/\∀l,H l=el->Q (.ref l) (upd H l (.lst ys))):=by
 subst h;exact a0D
def Inv.sysBelow(I:Inv X pins Y H s):cU<s.heap.objs.size:=by
 have h:bM<s.heap.objs.size:=(I.mod.glob.keeps I.bk).lt;exact fG (by decide) h
end
def l9(h:H p=el)(o:HO):Same H (upd H p o):=λb u q=>by rw[f8 (o3 q h)];exact q
def b1O(e:Same H H')(h:H p=el)(o:HO):Same H (upd H' p o):=λb u q=>by rw[f8 (o3 q h)];exact e b u q
def PTs(X:Cx)(ifs:List Expr)(tt:TT):Prop:=
 ∀(pins:List (aw×fM)) (s:ar) (Y:St) (H:Hp) (Q:Bool->Hp->Prop),Inv X pins Y H s->tt Y H Q->
  aD (aX X.prog X.w) X.A (forIn ifs p4 λc r=>if r=p4 then do let ok <-rJ c X.env (cn c X.env);pure (dQ ok) else pure (dQ r)) (TP X pins Y Q) X.xe s
def c1h:TT:=λ_ H Q=>Q p4 H
def b4D:PTs X [] c1h:=λ_ _ Y H _ I h=>wpAny_tests_nil ⟨H,I,h⟩
def b4E(h:PT X c tt):PTs X [c] tt:=λpins s Y H Q I q=>wpAny_tests_one (h pins s Y H Q I q)
section
variable {prog:bz}{w:bI}{A:bD}{R:Gd->ar->Prop}{s:ar}
def a3P(I:Nat->ar->Prop)
  (turn:∀n s,I n s->aD (aX prog w) A (fT it) (λr s₁=>match r with
   |none=>R (.ok .next) s₁
   |some v=>aD (aX prog w) A (mw target it v) (λ_ s₂=>aD (aX prog w) A (pq target env v) (λ_ s₃=>
     aD (aX prog w) A (forIn ifs p4 λc r=>if r=p4 then do let ok <-rJ c env (cn c env);pure (dQ ok) else pure (dQ r)) (λok pQ=>
     if ok=p4 then aD (aX prog w) A (cn elt env) (λx s₄=>
      aD (aX prog w) A (call (.builtin "list.append") [acc,x]) (λ_ s₅=>∃m,m<n/\I m s₅) (λ_ _=>False) s₄) (λ_ _=>False) pQ
     else ∃m,m<n/\I m pQ)
     (λ_ _=>False) s₃) (λ_ _=>False) s₂) (λ_ _=>False) s₁) (λ_ _=>False) s)
  (n:Nat) (h:I n s) :
  gL (aX prog w) A (.compLoop (.ListComp elt [⟨target,iter,ifs,0⟩] scope pos) 0 it acc env) R s:=by
 refine codeAny_loop rfl I (λn s hI=>?_) n h;show aD _ _ ((compTurn (.ListComp elt [⟨target,iter,ifs,0⟩] scope pos) 0 it acc env).onRaise (λx=>do noteFrame x env;theTreesLotGoes x)) _ _ s;refine wpAny_noted ?_;rw[compTurn_list];refine ab (wpAny_standAt (ab (dg (turn n s hI) (λr s₁ h₁=>?_) λ_ _ h'=>h'.elim)));cases r with
 |none=>exact ae h₁
 |some v=>
  refine ab (dg h₁ (λ_ s₂ h₂=>?_) λ_ _ h'=>h'.elim);refine ab (dg h₂ (λ_ s₃ h₃=>ab (dg h₃ (λok pQ oA=>?_) λ_ _ h'=>h'.elim)) λ_ _ h'=>h'.elim);cases ok with
  |false=>
   rw[aL aY]at oA;exact ab (ae (ae ⟨rfl,oA⟩))
  |true=>
   rw[aG rfl]at oA;exact ab (ab (dg oA (λx s₄ h₄=>ab (dg h₄ (λ_ s₅ h₅=>ae (ae ⟨rfl,h₅⟩)) λ_ _ h'=>h'.elim)) λ_ _ h'=>h'.elim))
end
def a5h(wi:TI)(g:TG)(tt:TT)(te:TE)(τ:St->St):TE:=λY H Q=>wi Y H λJ H1=>∀D,H1 D=el->∃W:Nat->Nat->List V->St->Hp->Prop,(∃m,W 0 m [] (τ Y) (upd H1 D (.lst [])))/\
 ∀i m ys Y' H',W i m ys Y' H'->(J.stop i H'/\Q (.ref D) H')\/
  (J.go i H'/\∃(N:V->St->Hp->Prop) (NO:St->Hp->Prop),(∀y Y3 H4,N y Y3 H4->H4 D=cz (.lst ys)/\ys.length<aV/\∃m',m'<m/\W (i+1) m' (ys++[y]) Y3 (upd H4 D (.lst (ys++[y]))))/\
   (∀Y3 H4,NO Y3 H4->∃m',m'<m/\W (i+1) m' ys Y3 H4)/\∀x H2,J.yld i H' x H2->g x Y' H2 λY3 H3=>tt Y3 H3 λb H4=>if b=p4 then te Y3 H4 λy H5=>N y Y3 H5 else NO Y3 H4)
section
variable {X:Cx}{N:List bC}{scope:gh}{cl:List (bC×aw)}{τ:St->St}{elt tg iter:Expr}{ifs:List Expr}{pos:eS}{wi:TI}{g:TG}{tt:TT}{te:TE}
def a4d(hc:X.calm=p4)(hi:PI X tg iter wi)(C:CompIn X N scope cl τ)(hg:∀Cl s H fp,PG (O2 X N scope cl Cl s H fp) tg g)(ht:∀Cl s H fp,PTs (O2 X N scope cl Cl s H fp) ifs tt)(he:∀Cl s H fp,PE (O2 X N scope cl Cl s H fp) elt te)
  (I:Inv X pins Y H s) (h:a5h wi g tt te τ Y H R) {PP:aj->aw->Gd->ar->Prop}
  (Fs:∀D Cl Hn s' o m,Inv X pins Y Hn s'->R (.ref D) Hn->a0A X pins Hn Cl->s'.heap.get? Cl=cz o->(∀v,o.data≠.cell v)->(∀h':bQ,h'.get? Cl=cz o->h'.Ns Cl m)->PP (.ref D) Cl (.ok .next) s') :
  aD (aX X.prog X.w) X.A (cn iter X.env) (λx s₁=>aD (aX X.prog X.w) X.A (rG x) (λit s₂=>aD (aX X.prog X.w) X.A (newList []) (λacc s₃=>
   aD (aX X.prog X.w) X.A (newFunctionEnv scope X.env.globals cl [] X.env.qual el .none (cz X.env)) (λxg s₄=>
    gL (aX X.prog X.w) X.A (.compStart (.ListComp elt [⟨tg,iter,ifs,0⟩] scope pos) 0 it acc {xg with scope:=md scope X.env}) (PP acc xg.locals) s₄) X.xe s₃) X.xe s₂) X.xe s₁) X.xe s:=by
 refine thn (hi pins s Y H _ I h) λx s1 h1=>thn h1 λyL s2 h2=>?_
 obtain⟨it,fp,tn,J,H2,rfl,I2,T,rF,f2,q⟩:=h2;refine dh (wpAny_newFunctionEnv C.ncell (by intro y hy;simp at hy) (λh₁ og mM=>?_) C.kind)
 dsimp only at og mM ⊢
 generalize zW:s2.heap.push {cls:=.type "list",dict:=el,data:=.seq ([]:List aj).toArray}=G2 at og mM ⊢;have hC:G2.objs.size=s2.heap.objs.size+1:=by rw[<-zW,cM]
 have BV:s2.heap.objs.size≠G2.objs.size:=by rw[hC];exact bc (kA _)
 have um:s2.heap.objs.size<=G2.objs.size:=by rw[hC];exact gD _
 have below:∀b,b<s2.heap.objs.size->b≠G2.objs.size:=λb hb=>by rw[hC];exact bc (gj hb)
 have old:∀b o,s2.heap.get? b=cz o->h₁.get? b=cz o:=λb o e=>mM.extBut b o (below b (aI e)) (ag _ (zW▸ag _ e))
 have mP:h₁.get? s2.heap.objs.size=cz {cls:=.type "list",dict:=el,data:=.seq ([]:List aj).toArray}:=mM.extBut _ _ BV (ag _ (zW▸aH _ rfl));have Ad:∀b∈fp,b<s2.heap.objs.size:=λb hb=>by
  obtain⟨o,e,_⟩:=T.obj 0 _ rF b hb;exact aI e
 have BU:H2 s2.heap.objs.size=el:=I2.hok.fresh (aE _);have FE:H2 G2.objs.size=el:=I2.hok.fresh um;generalize xX:G2.objs.size=Cl at *;have CM:∀b∈frs X.stack,b<s2.heap.objs.size:=λb hb=>by
  rcases az.mp (I2.stkSub b hb) with e|hb
  ·rw[e];exact I2.lt
  ·obtain⟨_,o,ho,_⟩:=I2.funs.mem hb;exact aI ho
 have yC:(O2 X N scope cl Cl s2 H2 fp).Ok:=by
  refine⟨I2.ok.mod,C.kind,I2.ok.glob,I2.ok.blt,um,λx y c e1 e2=>I2.ok.inj x y c (C.sub x c e1) (C.sub y c e2),λx hx=>?_,λx c hx _=>(nomatch hx),λz=>I2.ok.hd z,I2.ok.frames,.inl rfl,λb hb=>⟨below b (Ad b hb),λx c e=>(f2 b hb).2.2.2.2.1 x c (C.sub x c e)⟩,
   I2.bs,cA I2.ok.bsz I2.sz,λb o e hb=>?_,λb hb z=>?_,I2.stack,I2.stkFree,I2.tabs⟩
  ·obtain⟨y,hy,rfl,ey⟩:=a0E C.ncell hx;exact C.has y hy ey
  ·rcases (f2 b hb).2.2.2.1 with z|z
   ·exact I2.ok.noex b o e z
   ·exact absurd (bA (aI e) (cA I2.ok.bsz z)) (dt _)
  ·rcases az.mp (I2.stkSub b z) with e|e
   ·exact (f2 b hb).2.1 e
   ·exact (f2 b hb).2.2.1 e
 have I4:Inv (O2 X N scope cl Cl s2 H2 fp) pins (τ Y) (upd H2 s2.heap.objs.size (.lst [])) {s2 with heap:=h₁,toks:=s2.toks+([]:List (bC×aj)).length}:=by
  have lc:=I2.loc;obtain⟨m,hn,hl⟩:=lc;refine⟨yC,rfl,I2.bare,Un.laid old (aE _) BU,⟨_,og,λi x v e1 e2 e3=>?_⟩,λx c e=>?_,?_,λx c e=>?_,λp hp=>?_,I2.hok.laid old (aE _) ⟨cI _,[],_,.nil,mP⟩,C.tlen Y⟩
  ·obtain⟨j,j1,j2,j3,j4⟩:=C.tval Y i x v e1 e2;have kx:(md scope X.env).names.lookup x=cz .cell\/(md scope X.env).names.lookup x=cz .free:=a5g j3;obtain⟨y,hy,FO,ey⟩:=a0E C.ncell kx;obtain⟨c,uQ⟩:=C.has y hy ey;rw[FO]at uQ;have zP:=C.sub x c uQ;have hv:Vis X.env.scope x:=.inr j4;obtain⟨u,ru,lk⟩:=hl j x v j1 j2 hv;refine⟨u,ru,?_⟩;rcases lk with⟨k,_⟩|⟨k,c',e',z⟩
   ·rcases j4 with j4|j4
    ·rw[j4]at k;cases k
    ·rw[j4]at k;cases k
   ·rw[zP]at e';cases e'
    obtain⟨o,ho,hd⟩:=z;exact .inr ⟨kx,c,uQ,⟨o,old c o ho,hd⟩⟩
  ·obtain⟨v,o,ho,hd⟩:=I2.cell x c (C.sub x c e);exact⟨v,o,old c o ho,hd⟩
  ·show upd H2 s2.heap.objs.size (.lst []) Cl=el;rw[f8 (dA BV)];exact FE
  ·have n:=I2.freeC x c (C.sub x c e);obtain⟨v,o,ho,hd⟩:=I2.cell x c (C.sub x c e);rw[f8 (bc (aI ho))];exact n
  ·obtain⟨e,n,ne,nf,d⟩:=I2.pin p hp;refine⟨old _ _ e,by rw[f8 (bc (aI e))];exact n,below _ (aI e),λz=>?_,d⟩;rcases az.mp (I2.stkSub p.1 z) with e'|e'
   ·exact ne e'
   ·exact nf e'
 have nZ:∀{H':Hp},(∀b∈fp,H' b=el)->∀b∈fp,a0A (O2 X N scope cl Cl s2 H2 fp) pins H' b:=λhn b hb=>
  ⟨hn b hb,below b (Ad b hb),yC.exfs b hb,.inl hb,(yC.exf b hb).2,(f2 b hb).2.2.2.2.2⟩
 obtain⟨W,⟨m0,w0⟩,turn⟩:=q s2.heap.objs.size BU;have loop:∀s₃:ar,s₃={s2 with heap:=h₁,toks:=s2.toks+([]:List (bC×aj)).length}->
   gL (aX X.prog X.w) X.A (.compLoop (.ListComp elt [⟨tg,iter,ifs,0⟩] scope pos) 0 (.ref it) (.ref s2.heap.objs.size) (compEnvC scope cl Cl X.env)) (PP (.ref s2.heap.objs.size) Cl) s₃:=by
  rintro s₃ rfl;refine a3P (λn s'=>∃i ys Y' H',Inv (O2 X N scope cl Cl s2 H2 fp) pins Y' H' s'/\tn i s'.heap/\(∀b∈fp,H' b=el)/\W i n ys Y' H') ?_ m0
   ⟨0,[],τ Y,_,I4,T.keep _ _ _ rF λb hb o e=>old b o e,λb hb=>by rw[f8 (bc (Ad b hb))];exact (f2 b hb).1,w0⟩
  rintro n s3 ⟨i,ys,Y3,H3,I3,vm,wU,w3⟩;rcases turn i n ys Y3 H3 w3 with⟨stop,qn⟩|⟨go,NN,NO,hN,hO,step⟩
  ·refine thn (T.done (O2 X N scope cl Cl s2 H2 fp) rfl rfl rfl hc i pins s3 Y3 H3 _ I3 (nZ wU) vm stop) λr s4 ⟨hr,I5⟩=>?_
   subst hr;have lc:=I5.loc;obtain⟨m,hn,_⟩:=lc;obtain⟨o,es,ep,ho,hd,jC⟩:=hn;have J5:Inv X pins Y H3 s4:=I2.call' (ch:=fp) I5.os I5.base I5.hok I5.bare λb hb=>⟨(f2 b hb).2.2.2.1,(f2 b hb).2.1,(f2 b hb).2.2.2.2.1,(f2 b hb).2.2.2.2.2⟩
   refine Fs _ Cl H3 s4 o m J5 qn (I2.fpOk um I5.free) ho (λv z=>by rw[hd]at z;cases z) λh' e=>⟨o,es,ep,e,hd,jC⟩
  ·refine thn (T.item (O2 X N scope cl Cl s2 H2 fp) rfl rfl rfl hc i pins s3 Y3 H3 _ I3 (nZ wU) vm go) λr s4 ⟨u,hr,h4⟩=>?_
   subst hr;refine thn h4 λ_ s5 ⟨x,H5,I5,r5,y5,rE,Ac⟩=>?_
   have Au:=I5.pinned (nZ Ac) (T.obj _ _ rE);refine thn (hg Cl s2 H2 fp _ s5 Y3 H5 x u _ Au r5 (step x H5 y5)) λ_ s6 ⟨Y6,H6,I6,q6⟩=>?_
   refine thn (ht Cl s2 H2 fp _ s6 Y6 H6 _ I6 q6) λok CP ⟨Gs,yf,xy⟩=>?_
   cases ok with
   |false=>
    rw[aL aY]at xy ⊢;obtain⟨m',hm,w7⟩:=hO _ _ xy;refine⟨m',hm,i+1,ys,Y6,_,yf.unpinned,T.keep _ _ _ rE λb hb o e=>(yf.pin (b,o) (ay _ (ay _ (E4 hb e)))).1,λb hb=>?_,w7⟩;obtain⟨o,e,d⟩:=T.obj _ _ rE b hb;exact (yf.pin (b,o) (ay _ (ay _ (E4 hb e)))).2.1
   |true=>
    rw[aG rfl]at xy ⊢;refine thn (he Cl s2 H2 fp _ CP Y6 Gs _ yf xy) λyv s7 ⟨y,H7,I7,r7,q7⟩=>?_
    obtain⟨CZ,CY,m',hm,w7⟩:=hN _ _ _ q7;refine thn (a4c (X:=O2 X N scope cl Cl s2 H2 fp) _ s7 Y6 H7 (.ref s2.heap.objs.size) [y] (.ref s2.heap.objs.size) [yv] (λ_ H8=>H8=upd H7 s2.heap.objs.size (.lst (ys++[y]))) I7 rfl (.cons r7 .nil)
     ⟨_,ys,y,rfl,rfl,CZ,CY,rfl⟩) λ_ s8 ⟨_,H8,I8,_,e8⟩=>?_
    subst e8;refine⟨m',hm,i+1,ys++[y],Y6,_,I8.unpinned,T.keep _ _ _ rE λb hb o e=>(I8.pin (b,o) (ay _ (ay _ (E4 hb e)))).1,λb hb=>?_,w7⟩;obtain⟨o,e,d⟩:=T.obj _ _ rE b hb;exact (I8.pin (b,o) (ay _ (ay _ (E4 hb e)))).2.1
 have CN:tn 0 h₁:=T.keep _ _ _ rF λb hb o e=>old b o e
 exact codeAny_compStart_list (loop _ rfl) (T.self X.A 0 {s2 with heap:=h₁,toks:=s2.toks+([]:List (bC×aj)).length} _ _ CN (loop _ rfl))
end
def z0(env:oM):List (bC×ja)->List (bC×aw)->List (bC×aw)
 |[],cs=>cs
 | (n,k)::r,cs=>z0 env r (if k==.free then (n,(env.cells.lookup n).getD 0)::cs else cs)
theorem W1{env:oM}:∀(names:List (bC×ja)) (cs:List (bC×aw)),(∀y∈names,y.2=.free->∃c,env.cells.lookup y.1=cz c)->
  (forIn names cs λ(x:bC×ja) (cs:List (bC×aw))=>(if x.2==.free then do let a <-cellOf env x.1;pure (dQ ((x.1,a)::cs)) else pure (dQ cs):Sem (ForInStep (List (bC×aw)))))=pure (z0 env names cs)
 |[],cs,_=>by rw[jK];rfl
 | (n,k)::r,cs,h=>by
  rw[jh]
  dsimp only
  by_cases hk:(k==fy)=p4
  ·obtain⟨c,hc⟩:=h (n,k) ah (by simpa using hk);rw[aG hk];have e:cellOf env n=pure c:=by unfold cellOf;rw[hc]
   rw[e];have:=W1 r ((n,c)::cs) λy hy=>h y (ai _ hy)
   have e2:z0 env ((n,k)::r) cs=z0 env r ((n,c)::cs):=by
    show z0 env r (if k==.free then (n,(env.cells.lookup n).getD 0)::cs else cs)=_;rw[aG hk,hc];rfl
   rw[e2,<-this];simp only[pure_bind]
  ·rw[aL hk];have:=W1 r cs λy hy=>h y (ai _ hy)
   have e2:z0 env ((n,k)::r) cs=z0 env r cs:=by
    show z0 env r (if k==.free then (n,(env.cells.lookup n).getD 0)::cs else cs)=_;rw[aL hk]
   rw[e2,<-this];simp only[pure_bind]
def a7B{scope:gh}{env:oM}(h:∀y∈scope.names,y.2=.free->∃c,env.cells.lookup y.1=cz c):pd scope env=pure (z0 env scope.names []):=by
 have:=W1 scope.names [] h;rw[<-this];unfold pd;simp
theorem a0k{env:oM}:∀(names:List (bC×ja)) (cs:List (bC×aw)),(∀y∈names,y.2=.free->∃c,env.cells.lookup y.1=cz c)->(∀p∈cs,env.cells.lookup p.1=cz p.2)->
  (∀p∈z0 env names cs,env.cells.lookup p.1=cz p.2)/\(∀p∈cs,p∈z0 env names cs)/\∀y∈names,y.2=.free->∃c,(y.1,c)∈z0 env names cs
 |[],cs,_,hc=>⟨hc,λ_ h=>h,λy hy=>(nomatch hy)⟩
 | (n,k)::r,cs,h,hc=>by
  by_cases hk:(k==fy)=p4
  ·obtain⟨c,e⟩:=h (n,k) ah (by simpa using hk);have e2:z0 env ((n,k)::r) cs=z0 env r ((n,c)::cs):=by
    show z0 env r (if k==.free then (n,(env.cells.lookup n).getD 0)::cs else cs)=_;rw[aG hk,e];rfl
   rw[e2];obtain⟨a,b,d⟩:=a0k r ((n,c)::cs) (λy hy=>h y (ai _ hy)) λp hp=>by
    rcases az.mp hp with z|z
    ·rw[z];exact e
    ·exact hc p z
   refine⟨a,λp hp=>b p (ai _ hp),λy hy hf=>?_⟩;rcases az.mp hy with z|z
   ·rw[z];exact⟨c,b _ ah⟩
   ·exact d y z hf
  ·have e2:z0 env ((n,k)::r) cs=z0 env r cs:=by
    show z0 env r (if k==.free then (n,(env.cells.lookup n).getD 0)::cs else cs)=_;rw[aL hk]
   rw[e2];obtain⟨a,b,d⟩:=a0k r cs (λy hy=>h y (ai _ hy)) hc;refine⟨a,b,λy hy hf=>?_⟩;rcases az.mp hy with z|z
   ·rw[z]at hf;exact absurd (by simpa using hf) hk
   ·exact d y z hf
theorem Z4:∀{l:List (bC×aw)},(x,c)∈l->∃c',l.lookup x=cz c'
 |[],h=>nomatch h
 | (y,d)::l,h=>by
  rw[fS];cases e:x==y with
  |true=>exact⟨d,rfl⟩
  |false=>
   rcases az.mp h with z|z
   ·cases z;simp at e
   ·exact Z4 z
def X9(scope:gh)(okind:bC->Option ja)(ys:List bC)(js:List Nat)(XN:List bC):Bool:=
 scope.kind==.function&&scope.names.all (λy=>y.2 !=.cell&&(y.2 !=.local||scope.names.lookup y.1==cz .local)&&(y.2 !=.free||(okind y.1==cz .cell||okind y.1==cz .free))) &&
 ys.length==js.length&&(ys.zip js).all λp=>XN[p.2]?==cz p.1&&scope.names.lookup p.1==cz .free&&(okind p.1==cz .cell||okind p.1==cz .free)
def a1r(tn:List bC)(js:List Nat):St->St:=λY=>aR tn.length el++js.map λj=>(Y[j]?).getD el
def a4e{X:Cx}{scope:gh}(ok:X.Ok)(h:X9 scope X.env.kindOf ys js X.N=p4):CompIn X (tn++ys) scope (z0 X.env scope.names []) (a1r tn js):=by
 unfold X9 at h;rw[ak,ak,ak,aT,aT]at h;obtain⟨⟨⟨hk,ha⟩,hl⟩,hz⟩:=h;have kW:∀y∈scope.names,y.2≠.cell:=λy hy e=>by
  have:=ha y hy;rw[e]at this;simp at this
 have zj:∀y∈scope.names,y.2=.local->scope.names.lookup y.1=cz .local:=λy hy e=>by
  have:=ha y hy;rw[e]at this;simpa using this
 have nv:∀y∈scope.names,y.2=.free->∃c,X.env.cells.lookup y.1=cz c:=λy hy e=>by
  have:=ha y hy;rw[e]at this;refine ok.has y.1 ?_;simpa using this
 obtain⟨a,_,d⟩:=a0k scope.names [] nv λp hp=>(nomatch hp)
 refine⟨a7B nv,by simpa using hk,kW,zj,λx c e=>a _ (bX e),λy hy e=>?_,λY=>?_,λY i x v h1 h2=>?_⟩
 ·obtain⟨c,hc⟩:=d y hy e;exact Z4 hc
 ·have:ys.length=js.length:=by simpa using hl
  unfold a1r;simp[this]
 ·unfold a1r at h2;by_cases hi:i<tn.length
  ·rw[gN (by simpa using hi),s_]at h2
   split at h2<;>cases h2
  ·rw[ff (by simpa using hi),gd,a_]at h2;rw[ff (by lia)]at h1;cases hj:js[i-tn.length]? with
   |none=>rw[hj]at h2;cases h2
   |some j=>
    rw[hj]at h2;have h3:(Y[j]?).getD el=cz v:=by simpa using h2
    have iO:(x,j)∈ys.zip js:=by
     have hlen:=(aU.mp h1).1;have Bt:=(aU.mp hj).1;rw[bE];refine⟨i-tn.length,?_⟩;rw[gM];exact⟨h1,hj⟩
    have:=hz _ iO;rw[ak,ak,ji]at this;obtain⟨⟨e1,e2⟩,e3⟩:=this;refine⟨j,by simpa using e1,?_,by simpa using e2,by simpa using e3⟩;cases q:Y[j]? with
    |none=>rw[q]at h3;cases h3
    |some o=>rw[q]at h3;have:o=cz v:=h3;rw[this]
section
variable {X:Cx}{tn ys:List bC}{js:List Nat}{scope:gh}{elt tg iter:Expr}{ifs:List Expr}{pos:eS}{wi:TI}{g:TG}{tt:TT}{te:TE}
def b1P(hc:X.calm=p4)(hi:PI X tg iter wi)(C:X9 scope X.env.kindOf ys js X.N=p4)(hg:∀cl Cl s H fp,PG (O2 X (tn++ys) scope cl Cl s H fp) tg g)(ht:∀cl Cl s H fp,PTs (O2 X (tn++ys) scope cl Cl s H fp) ifs tt)(he:∀cl Cl s H fp,PE (O2 X (tn++ys) scope cl Cl s H fp) elt te)
  (hs:∀x,eW iter X.env x=pure x:=by intro _;rfl):PE X (.ListComp elt [⟨tg,iter,ifs,0⟩] scope pos) (a5h wi g tt te (a1r tn js)):=by
 intro pins s Y H Q I h;have C:=a4e (tn:=tn) I.ok C;rw[eval_ListComp];refine yq (use:=el) rfl hs C.clos C.kind C.names (a4d hc hi C (hg _) (ht _) (he _) I h (PP:=λacc Cl=>compPost (aX X.prog X.w) X.A X.xe el (EP X pins Y Q) acc Cl) ?_);intro D Cl Hn s' o m I' hq F ho hd qg;refine⟨m,qg _ ho,λh' qZ=>⟨.ref D,Hn,?_,rfl,hq⟩⟩;exact I'.turned (t':=s'.toks) (λb ob hb e=>(qZ.2 b hb).trans e) F.1 F.2.1 F.2.2.2.1 F.2.2.2.2.1 F.2.2.2.2.2
def a5Y{py oQ:eS}(hc:X.calm=p4)(hN:X.N.Nodup)(hy:X.N[i]?=cz y)(hx:Loc X.env.scope y)(hi:PI X tg iter wi)(C:X9 scope X.env.kindOf ys js X.N=p4)
  (hg:∀cl Cl s H fp,PG (O2 X (tn++ys) scope cl Cl s H fp) tg g) (ht:∀cl Cl s H fp,PTs (O2 X (tn++ys) scope cl Cl s H fp) ifs tt) (he:∀cl Cl s H fp,PE (O2 X (tn++ys) scope cl Cl s H fp) elt te)
  (n_:fB (.ListComp elt [⟨tg,iter,ifs,0⟩] scope pos) (cz (.Name y py)) oQ.line X.env=pure p4:=by rfl) (hs:∀x,eW iter X.env x=pure x:=by intro _;rfl)
  (hf:X.fn y=p4\/X.env.scope.names.lookup y=cz .local:=by first|exact .inl rfl|exact .inr rfl|assumption) :
  PS X (.Assign [.Name y py] (.ListComp elt [⟨tg,iter,ifs,0⟩] scope pos) oQ) (b6X (a5h wi g tt te (a1r tn js)) (Q5 i)):=by
 intro pins s Y H D I h;have C:=a4e (tn:=tn) I.ok C;rw[exec_Assign_Name_used _ _ _ _ n_];refine ab (wpAny_standAt (ab ?_));show aD _ X.A (do let _ <-comprehension (.ListComp elt [⟨tg,iter,ifs,0⟩] scope pos) scope X.env _ (newList []) rp (cn iter X.env) (cz (pq (.Name y py) X.env))) _ _ s;refine ab (dg (yq (use:=cz (pq (.Name y py) X.env)) (Q:=λ_ s'=>SP X pins D .next s') rfl hs C.clos C.kind C.names
  (a4d hc hi C (hg _) (ht _) (he _) I h (PP:=λacc Cl=>compPost (aX X.prog X.w) X.A X.xe (cz (pq (.Name y py) X.env)) (λ_ s'=>SP X pins D .next s') acc Cl) ?_)) (λ_ s' hq=>ae (ae hq)) λ_ _ e=>e)
 intro Dl Cl Hn s' o m I' hq F ho hd qg;have I1:=I'.pinned (fp:=[Cl]) (λb hb=>by rw[aq.mp hb];exact F) (λb hb=>by rw[aq.mp hb];exact⟨o,ho,hd⟩);show aD _ X.A (pq (.Name y py) X.env (.ref Dl)) _ _ _;refine wpAny_assign_Name (a0y I1 hN hy hx (v:=.ref Dl) rfl (λs2 I2=>?_) hf);have e2:=(I2.pin (Cl,o) (ay _ (ay _ (E4 (aq.mpr rfl) ho)))).1;refine⟨m,qg _ e2,λh' qZ=>⟨Y.set i (cz (.ref Dl)),Hn,?_,hq⟩⟩;exact I2.unpinned.turned (t':=s2.toks) (λb ob hb e=>(qZ.2 b hb).trans e) F.1 F.2.1 F.2.2.2.1 F.2.2.2.2.1 F.2.2.2.2.2
end
end L2
namespace VS
open PySem PySem.Spec L2
abbrev D:=bh
mutual
def C1:D->Bool
 |.int _=>p4
 |.tuple ds=>r8 ds
 |.none|.bool _|.str _|.list _|.dict _=>rp
def r8:List D->Bool
 |[]=>p4
 |d::ds=>C1 d&&r8 ds
end
mutual
def hashD:D->Int
 |.int i=>j_ i
 |.tuple ds=>reduceHash (ei (B0 ds))
 |.none|.bool _|.str _|.list _|.dict _=>0
def B0:List D->List Int
 |[]=>[]
 |d::ds=>hashD d::B0 ds
end
mutual
def u8:D->Nat
 |.int _=>1
 |.tuple ds=>Q6 ds+1
 |.none|.bool _|.str _|.list _|.dict _=>0
def Q6:List D->Nat
 |[]=>0
 |d::ds=>u8 d+Q6 ds
end
mutual
theorem W2:∀d:D,C1 d=p4->d.canLay0=p4
 |.int _,_=>by simp only[cL]
 |.tuple ds,h=>by
  simp only[C1]at h;simp only[cL];exact a1O ds h
 |.none,h|.bool _,h|.str _,h|.list _,h|.dict _,h=>by simp only[C1]at h;cases h
theorem a1O:∀ds:List D,r8 ds=p4->aM ds=p4
 |[],_=>by simp only[aM]
 |d::ds,h=>by
  simp only[r8,ak]at h;simp only[aM,ak];exact⟨W2 d h.1,a1O ds h.2⟩
end
mutual
theorem B1:∀a b:D,C1 a=p4->C1 b=p4->(aC a b=p4↔a=b)
 |.int i,b,_,hb=>by
  cases b with
  |int j=>
   show (i==j)=p4↔_;rw[kI];exact⟨λe=>by rw[e],λe=>by injection e⟩
  |tuple ds=>simp[aC]
  |_=>simp only[C1]at hb;cases hb
 |.tuple xs,b,ha,hb=>by
  cases b with
  |int j=>simp[aC]
  |tuple ys=>
   simp only[C1]at ha hb;simp only[aC];rw[a1P xs ys ha hb];exact⟨λe=>by rw[e],λe=>by injection e⟩
  |_=>simp only[C1]at hb;cases hb
 |.none,b,h,_|.bool _,b,h,_|.str _,b,h,_|.list _,b,h,_|.dict _,b,h,_=>by simp only[C1]at h;cases h
theorem a1P:∀a b:List D,r8 a=p4->r8 b=p4->(cy a b=p4↔a=b)
 |[],[],_,_=>by simp[cy]
 |[],_::_,_,_=>by simp[cy]
 |_::_,[],_,_=>by simp[cy]
 |x::xs,y::ys,ha,hb=>by
  simp only[r8,ak]at ha hb;simp only[cy,ak];rw[B1 x y ha.1 hb.1,a1P xs ys ha.2 hb.2]
  constructor
  ·rintro⟨rfl,rfl⟩;rfl
  ·intro e;injection e with e1 e2;exact⟨e1,e2⟩
end
mutual
theorem a2H{h h':bQ}{es ep}(ho:h.get? d=cz o)(hd:o.data=.dict es ep)(hs:cD d h h'):∀(k:D) {v:aj} {as:List aw},C1 k=p4->Reads h v k as->Reads h' v k as
 |.int _,_,_,_,r=>by cases r;exact .int _ _
 |.tuple ds,_,_,hk,r=>by
  simp only[C1]at hk;cases r with
  |@tuple a oo vs n _ as c1 c2 c3 c4=>
   have gy:a≠d:=by
    rintro rfl;obtain rfl:oo=o:=aK (c1.symm.trans ho);rw[hd]at c3;exact nomatch c3
   exact .tuple ((hs.2 a gy).trans c1) c2 c3 (Z5 ho hd hs ds hk c4)
 |.none,_,_,h,_|.bool _,_,_,h,_|.str _,_,_,h,_|.list _,_,_,h,_|.dict _,_,_,h,_=>by simp only[C1]at h;cases h
theorem Z5{h h':bQ}{es ep}(ho:h.get? d=cz o)(hd:o.data=.dict es ep)(hs:cD d h h'):∀(ks:List D) {vs:List aj} {as:List aw},r8 ks=p4->i_ h vs ks as->i_ h' vs ks as
 |[],_,_,_,r=>by cases r;exact .nil
 |k::ks,_,_,hk,r=>by
  simp only[r8,ak]at hk;cases r with
  |cons r1 r2=>exact .cons (a2H ho hd hs k hk.1 r1) (Z5 ho hd hs ks hk.2 r2)
end
section
variable {prog:bz}{w:bI}{E:aj->ar->Prop}
mutual
theorem a2I:∀(k:D) {A:bD} {s:ar} {v:aj} {as:List aw} {Q:Int->ar->Prop},C1 k=p4->A.units+k.depth<cS->Reads s.heap v k as->Q (hashD k) {s with toks:=s.toks+u8 k}->aD (aX prog w) A (pyHash v) Q E s
 |.int i,A,s,v,as,Q,_,_,r,h=>by
  cases r
  simp only[hashD,u8]at h;exact wpAny_pyHash_int h
 |.tuple ds,A,s,v,as,Q,hk,hu,r,h=>by
  simp only[C1]at hk;simp only[dU]at hu;simp only[hashD,u8]at h;cases r with
  |@tuple a o items n _ as ho hc hd hi=>
   have hT:s.TypeIs (.ref a) "tuple":=⟨o,ho,hc⟩;unfold pyHash
   first|unfold pyHashByItsType|skip
   first|refine ab (wpAny_cRoomFor_or (.inr (by lia)) ?_)|skip
   refine ab (dy hT k_.lookup ?_);show aD _ _ (if (cz (An "tuple.__hash__")==cz cj)=p4 then _ else _) Q E s;rw[aL (by rw[beq_builtin_none];exact aY)];refine ab (dy hT k_.lookup ?_);show aD _ _ (callSpecialIfBoundUnlessNone? (.ref a) "__hash__" _ >>= _) Q E s;refine ab (wpAny_callSpecialIfBoundUnlessNone?_slot hT k_ (bB k_ hT F.entry_tuple_hash ?_ (F.args_tuple_hash_1 _)));show aD _ _ (Builtin.Tuple.tupleItemsOf (.ref a) >>= _) _ _ s;refine ab (wpAny_tupleItemsOf ho hd ?_);refine ab ?_;rw[<-mV];refine a4f ds (A:=A.in1) (acc:=#[]) hk (by show A.units+1+_<_;lia) hi ?_;show aD _ _ (retInt (ei _)) _ _ _;simp only[Array.toList_append,b_];refine tw ?_;show aD _ _ (if (decide (-(2:Int)^63<=ei (B0 ds))&&decide (ei (B0 ds)<2^63))=p4 then _ else _) Q E _;unfold reduceHash at h;by_cases hr:(decide (-(2:Int)^63<=ei (B0 ds))&&decide (ei (B0 ds)<2^63))=p4
   ·rw[aG hr];rw[aG hr]at h;exact ae (by simpa[mD]using h)
   ·rw[aL hr];rw[aL hr]at h;exact ab (dR (ae (by simpa[mD]using h)))
 |.none,_,_,_,_,_,h,_,_,_|.bool _,_,_,_,_,_,h,_,_,_|.str _,_,_,_,_,_,h,_,_,_|.list _,_,_,_,_,_,h,_,_,_|.dict _,_,_,_,_,_,h,_,_,_=>by simp only[C1]at h;cases h
theorem a4f:∀(ks:List D) {A:bD} {s:ar} {vs:List aj} {as:List aw} {acc:Array Int} {Q:Array Int->ar->Prop},r8 ks=p4->A.units+bV ks<cS->i_ s.heap vs ks as->Q (acc++(B0 ks).toArray) {s with toks:=s.toks+Q6 ks}->
  aD (aX prog w) A (forIn vs acc λx r=>do let r1 <-pyHash x;pure kO;pure (dQ (r.push r1))) Q E s
 |[],A,s,vs,as,acc,Q,_,_,r,h=>by
  cases r
  rw[jK];exact ae (by simpa[B0,Q6]using h)
 |k::ks,A,s,vs,as,acc,Q,hk,hu,r,h=>by
  simp only[r8,ak]at hk;simp only[bV]at hu;cases r with
  |cons r1 r2=>
   rw[jh];refine ab (ab (a2I k hk.1 (by lia) r1 ?_));refine ab (ae (ae ?_));refine a4f ks (s:={s with toks:=s.toks+u8 k}) hk.2 (by lia) r2 ?_;simp only[B0,Q6]at h;have e:(acc.push (hashD k))++(B0 ks).toArray=acc++(hashD k::B0 ks).toArray:=by simp
   rw[e];simpa[mD]using h
end
end
section
variable {prog:bz}{w:bI}{A:bD}{E:aj->ar->Prop}
mutual
theorem a4g:∀(k:D) (n:Nat) {s:ar} {v:aj} {as:List aw} {Q:Bool->ar->Prop},C1 k=p4->k.depth<=n->Reads s.heap v k as->Q p4 s->aD (aX prog w) A (eqIsQuiet n v) Q E s
 |.int i,n,s,v,as,Q,_,_,r,h=>by
  cases r
  rw[eqIsQuiet_byValue n (v:=.int i _) rfl];exact ae h
 |.tuple ds,0,s,v,as,Q,_,hn,_,_=>by simp only[dU]at hn;lia
 |.tuple ds,n+1,s,v,as,Q,hk,hn,r,h=>by
  simp only[C1]at hk;simp only[dU]at hn;cases r with
  |@tuple a o items m _ as ho hc hd hi=>
   have hT:s.TypeIs (.ref a) "tuple":=⟨o,ho,hc⟩;unfold eqIsQuiet;refine ab (dy hT F.slot_tuple_eq.lookup ?_);show aD _ _ (isInstance (.ref a) (.type "tuple") >>= _) _ _ s;refine ab (fA hT isSubtype_tuple_tuple ?_);simp only[kl,cW,fO];refine ab (dI ho hd ?_);refine ab ?_;show aD _ _ (forIn items _ _) _ _ s;rw[<-mV];refine wpAny_forIn_list _ (λrest r s'=>r.1=el/\s'=s/\∃ks bs,r8 ks=p4/\bV ks<=n/\(∀k∈ks,k∈ds)/\i_ s.heap rest ks bs) _ ?_ ?_ _ _ ⟨rfl,rfl,ds,as,hk,by lia,λk hk=>hk,hi⟩
   ·rintro v rest r s' ⟨hr,rfl,ks,bs,k1,k2,k3,k4⟩;cases k4 with
    |@cons _ _ d' iy _ _ r1 r2=>
     simp only[r8,ak]at k1;simp only[bV]at k2;refine ab (a4h ds n hk (by lia) d' (k3 d' ah) r1 ?_);simp only[kl,cW,fO];exact ae ⟨rfl,rfl,_,_,k1.2,by lia,λk hk=>k3 k (ai _ hk),r2⟩
   ·rintro⟨r1,r2⟩ s' ⟨hr,rfl,_⟩;simp only at hr;subst hr;exact ae h
 |.none,_,_,_,_,_,h,_,_,_|.bool _,_,_,_,_,_,h,_,_,_|.str _,_,_,_,_,_,h,_,_,_|.list _,_,_,_,_,_,h,_,_,_|.dict _,_,_,_,_,_,h,_,_,_=>by simp only[C1]at h;cases h
theorem a4h:∀(ds:List D) (n:Nat),r8 ds=p4->bV ds<=n->∀k∈ds,∀{s:ar} {v:aj} {as:List aw} {Q:Bool->ar->Prop},Reads s.heap v k as->Q p4 s->aD (aX prog w) A (eqIsQuiet n v) Q E s
 |[],n,_,_,k,hk,s,v,as,Q,r,h=>nomatch hk
 |d::ds,n,nV,hn,k,hk,s,v,as,Q,r,h=>by
  simp only[r8,ak]at nV;simp only[bV]at hn;rcases az.mp hk with e|hk
  ·rw[e]at r;exact a4g d n nV.1 (by lia) r h
  ·exact a4h ds n nV.2 (by lia) k hk r h
end
end
noncomputable def a9W:DecidableEq D:=λa b=>Classical.propDecidable (a=b)
noncomputable def b1Q(prog:bz)(w:bI):@HeapKind prog w D a9W:=
 letI:DecidableEq D:=a9W
 {
  is:=λh k a=>C1 k=p4/\k.depth<=7/\∃as,Reads h (.ref a) k as
  hash:=hashD
  draws:=u8
  room:=λA=>A.units+8<cS
  inj:=λ⟨hx,_,_,r⟩ ⟨_,_,_,r'⟩=>SeqAt.Reads.unique _ _ _ _ _ (W2 _ hx) r r'
  keeps:=λ⟨hx,hd,_,r⟩ ho lE hs=>⟨hx,hd,_,a2H ho lE hs _ hx r⟩
  pyHash:=λhu ⟨hx,hd,_,r⟩ h=>a2I _ hx (by lia) r h
  eqBool:=λ{A E s x y a b Q} hu ⟨hx,hd,_,r⟩ ⟨hy,lE,_,r'⟩ h=>by
   refine sj x y A s _ _ _ _ r r' (W2 _ hx) (W2 _ hy) (by have:=pB x.depth y.depth;lia) _ _ _ _ ?_;have e:aC x y=@decide (x=y) (a9W x y):=by
    by_cases c:x=y
    ·rw[@aA _ (a9W x y) c];exact (B1 x y hx hy).mpr c
    ·rw[@aS _ (a9W x y) c];cases q:aC x y with
     |false=>rfl
     |true=>exact absurd ((B1 x y hx hy).mp q) c
   rw[e];exact h
  quiet:=λ⟨hx,hd,_,r⟩ h=>a4g _ 8 hx (by lia) r h
 }
def O4(e:D×V×V)(x:eX):Prop:=x.hash=hashD e.1/\RelV e.2.1 x.key/\RelV e.2.2 x.val
def Z2:D->Bool
 |.tuple [.int 0]=>p4
 |_=>rp
def a5Z:V->Bool
 |.non=>p4
 |_=>rp
def G0:List (D×V×V)->Bool
 |[]=>rp
 |e::_=>Z2 e.1&&a5Z e.2.2
def b4F:D->Bool
 |.none=>p4
 |_=>rp
def P6:List (D×D)->Bool
 |[]=>rp
 |p::_=>Z2 p.1&&b4F p.2
def c9(a:aw)(es:List (D×V×V)):HO:=.ext λh=>(a==cU)=rp/\es.length<=aV/\(es.map (·.1)).Nodup/\∃o ents ep,h.get? a=cz o/\o.ExactDict/\o.data=.dict ents ep/\eZ O4 es ents.toList/\(G0 es=rp->ep=es.length)
def Mu:HO->Prop
 |.lst _=>True
 |.dK _=>True
 |.ext _=>True
 |_=>False
abbrev MuO:={o:HO // Mu o}
def keyOk(kt:Bool)(k:D):Prop:=C1 k=p4/\k.depth<=7/\(kt=p4->∃ds,k=.tuple ds)/\(kt=rp->∃i,k=.int i)
end VS
namespace VS
open PySem L2
mutual
def imm:bh->Bool
 |.none=>p4
 |.bool _=>p4
 |.int _=>p4
 |.str _=>p4
 |.list _=>rp
 |.tuple ds=>g9 ds
 |.dict _=>rp
def g9:List bh->Bool
 |[]=>p4
 |d::ds=>imm d&&g9 ds
end
def SqX(K:af)(H:Hp)(a:aw)(xs:List V):Prop:=
 Rd H a (.lst xs)\/∃(cE:List aj) (n:Nat),K.lookup a=cz {cls:=.type "list",data:=.seq cE.toArray n}/\cE.length<=aV/\Vals xs cE
def SqX.l(h:SqX K H a xs):SqL K H a xs:=by
 rcases h with h|⟨cE,n,h1,h2,h3⟩
 ·exact .inl h
 ·exact .inr ⟨_,cE.toArray,n,h1,rfl,rfl,rfl,by simpa using h2,by simpa using h3⟩
theorem SqX.ok{X:Cx}(h:SqX X.K H a xs)(I:Inv X pins Y H s):xs.length<=aV/\∃(cE:List aj) (n:Nat),Vals xs cE/\s.heap.get? a=cz {cls:=.type "list",data:=.seq cE.toArray n}:=by
 rcases h with h|⟨cE,n,h1,h2,h3⟩
 ·exact h.ok I.hok
 ·exact⟨by rw[h3.length];exact h2,cE,n,h3,I.kIn _ _ h1⟩
mutual
theorem Q7:∀d:bh,C1 d=p4->imm d=p4
 |.int _,_=>by simp only[imm]
 |.tuple ds,h=>by
  simp only[C1]at h;simp only[imm];exact a1Q ds h
 |.none,h|.bool _,h|.str _,h|.list _,h|.dict _,h=>by simp only[C1]at h;cases h
theorem a1Q:∀ds:List bh,r8 ds=p4->g9 ds=p4
 |[],_=>by simp only[g9]
 |d::ds,h=>by
  simp only[r8,ak]at h;simp only[g9,ak];exact⟨Q7 d h.1,a1Q ds h.2⟩
end
mutual
def Den(K:af)(H:Hp):V->bh->Prop
 |v,.none=>v=.non
 |v,.bool b=>v=.bl b
 |v,.int i=>v=.int i
 |v,.str x=>v=.str x
 |v,.list ds=>∃a xs,v=.ref a/\SqX K H a xs/\DenAll K H xs ds
 |v,.tuple ds=>∃a xs,v=.ref a/\SqT K H a xs/\DenAll K H xs ds
 |v,.dict kvs=>∃a es,v=.ref a/\H a=cz (c9 a es)/\DenKV K H es kvs
def DenAll(K:af)(H:Hp):List V->List bh->Prop
 |xs,[]=>xs=[]
 |xs,d::ds=>∃v r,xs=v::r/\Den K H v d/\DenAll K H r ds
def DenKV(K:af)(H:Hp):List (bh×V×V)->List (bh×bh)->Prop
 |es,[]=>es=[]
 |es,(k,d)::r=>∃e q,es=e::q/\e.1=k/\Den K H e.2.1 k/\Den K H e.2.2 d/\DenKV K H q r
end
def Rd.up(h:Rd H a u)(e:Same H H'):Rd H' a u:=by
 rcases h with h|⟨o,h⟩
 ·exact .inl (e _ _ h)
 ·exact .inr ⟨o,e _ _ h⟩
def T5(h:SqX K H a xs)(e:Same H H'):SqX K H' a xs:=h.imp (λq=>Rd.up q e) id
def P7(h:SqT K H a xs)(e:Same H H'):SqT K H' a xs:=h.imp (λq=>Rd.up q e) id
mutual
theorem Den.mono{K:af}{H H':Hp}(e:Same H H'):∀(d:bh) {v:V},Den K H v d->Den K H' v d
 |.none,_,h=>by simpa only [Den]using h
 |.bool _,_,h=>by simpa only [Den]using h
 |.int _,_,h=>by simpa only [Den]using h
 |.str _,_,h=>by simpa only [Den]using h
 |.list ds,_,h=>by
  simp only[Den]at h ⊢;obtain⟨a,xs,h1,h2,h3⟩:=h;exact⟨a,xs,h1,T5 h2 e,DenAll.mono e ds h3⟩
 |.tuple ds,_,h=>by
  simp only[Den]at h ⊢;obtain⟨a,xs,h1,h2,h3⟩:=h;exact⟨a,xs,h1,P7 h2 e,DenAll.mono e ds h3⟩
 |.dict kvs,_,h=>by
  simp only[Den]at h ⊢;obtain⟨a,es,h1,h2,h3⟩:=h;exact⟨a,es,h1,e _ _ h2,DenKV.mono e kvs h3⟩
theorem DenAll.mono{K:af}{H H':Hp}(e:Same H H'):∀(ds:List bh) {xs:List V},DenAll K H xs ds->DenAll K H' xs ds
 |[],_,h=>by simpa only [DenAll]using h
 |d::ds,_,h=>by
  simp only[DenAll]at h ⊢;obtain⟨v,r,h1,h2,h3⟩:=h;exact⟨v,r,h1,Den.mono e d h2,DenAll.mono e ds h3⟩
theorem DenKV.mono(e:Same H H'):∀(kvs:List (bh×bh)) {es:List (bh×V×V)},DenKV K H es kvs->DenKV K H' es kvs
 |[],_,h=>by simpa only [DenKV]using h
 | (k,d)::r,_,h=>by
  simp only[DenKV]at h ⊢;obtain⟨x,q,h1,h2,h3,h4,h5⟩:=h;exact⟨x,q,h1,h2,Den.mono e k h3,Den.mono e d h4,DenKV.mono e r h5⟩
end
section
variable {K:af}{H H':Hp}
def Den.up{d:bh}{v:V}(h:Den K H v d)(e:Same H H'):Den K H' v d:=Den.mono e d h
def DenAll.up{ds:List bh}{xs:List V}(h:DenAll K H xs ds)(e:Same H H'):DenAll K H' xs ds:=DenAll.mono e ds h
def den_none:Den K H .non .none:=by simp only[Den]
def den_bool{b:Bool}:Den K H (.bl b) (.bool b):=by simp only[Den]
def den_int{i:Int}:Den K H (.int i) (.int i):=by simp only[Den]
def den_list{a:aw}{xs:List V}{ds:List bh}(h:SqX K H a xs)(q:DenAll K H xs ds):Den K H (.ref a) (.list ds):=by
 simp only[Den];exact⟨a,xs,rfl,h,q⟩
def den_tup{a:aw}{xs:List V}{ds:List bh}(h:SqT K H a xs)(q:DenAll K H xs ds):Den K H (.ref a) (.tuple ds):=by
 simp only[Den];exact⟨a,xs,rfl,h,q⟩
theorem a6a:∀{es:List (bh×V×V)} {ds:List bh},(∀e∈es,Den K H e.2.1 e.1)->DenAll K H (es.map (·.2.2)) ds->DenKV K H es ((es.map (·.1)).zip ds)
 |[],ds,_,h=>by
  cases ds with
  |nil=>simp only[cB,Cn,DenKV]
  |cons d ds=>simp only[DenAll]at h;obtain⟨v,r,h1,_⟩:=h;cases h1
 |e::es,ds,hk,h=>by
  cases ds with
  |nil=>simp only[DenAll]at h;cases h
  |cons d ds=>
   simp only[DenAll]at h;obtain⟨v,r,h1,h2,h3⟩:=h;cases h1
   simp only[av,dX,DenKV];exact⟨e,es,rfl,rfl,hk e ah,h2,a6a (λe he=>hk e (ai _ he)) h3⟩
def a4i(h:H a=cz (c9 a es))(hk:∀e∈es,Den K H e.2.1 e.1)(hv:DenAll K H (es.map (·.2.2)) ds):Den K H (.ref a) (.dict ((es.map (·.1)).zip ds)):=by
 simp only[Den];exact⟨a,es,rfl,h,a6a hk hv⟩
def denAll_nil:DenAll K H [] []:=by simp only[DenAll]
def denAll_cons{v:V}{d:bh}{xs:List V}{ds:List bh}(h:Den K H v d)(q:DenAll K H xs ds):DenAll K H (v::xs) (d::ds):=by
 simp only[DenAll];exact⟨v,xs,rfl,h,q⟩
def Den.list_inv{v:V}{ds:List bh}(h:Den K H v (.list ds)):∃a xs,v=.ref a/\SqX K H a xs/\DenAll K H xs ds:=by simpa only [Den]using h
def Den.tup_inv{v:V}{ds:List bh}(h:Den K H v (.tuple ds)):∃a xs,v=.ref a/\SqT K H a xs/\DenAll K H xs ds:=by simpa only [Den]using h
def Den.dict_inv(h:Den K H v (.dict kvs)):∃a es,v=.ref a/\H a=cz (c9 a es)/\DenKV K H es kvs:=by simpa only [Den]using h
theorem DenKV.keys:∀{kvs:List (bh×bh)} {es:List (bh×V×V)},DenKV K H es kvs->es.map (·.1)=kvs.map (·.1)
 |[],_,h=>by simp only[DenKV]at h;rw[h];rfl
 | (k,d)::r,_,h=>by
  simp only[DenKV]at h;obtain⟨e,q,rfl,h1,_,_,h2⟩:=h;rw[av,av,DenKV.keys h2,h1]
theorem DenKV.vals:∀{kvs:List (bh×bh)} {es:List (bh×V×V)},DenKV K H es kvs->DenAll K H (es.map (·.2.2)) (kvs.map (·.2))
 |[],_,h=>by simp only[DenKV]at h;rw[h];simp only[cB,DenAll]
 | (k,d)::r,_,h=>by
  simp only[DenKV]at h;obtain⟨e,q,rfl,_,_,h1,h2⟩:=h;simp only[av,DenAll];exact⟨_,_,rfl,h1,DenKV.vals h2⟩
theorem DenKV.kden:∀{kvs:List (bh×bh)} {es:List (bh×V×V)},DenKV K H es kvs->∀e∈es,Den K H e.2.1 e.1
 |[],_,h,e,he=>by simp only[DenKV]at h;rw[h]at he;cases he
 | (k,d)::r,_,h,e,he=>by
  simp only[DenKV]at h;obtain⟨e0,q,rfl,h0,h1,_,h2⟩:=h;rcases az.mp he with z|z
  ·subst z;rw[h0];exact h1
  ·exact DenKV.kden h2 e z
def Den.int_inv{v:V}{i:Int}(h:Den K H v (.int i)):v=.int i:=by simpa only [Den]using h
def Den.bool_inv(h:Den K H v (.bool b)):v=.bl b:=by simpa only [Den]using h
def Den.none_inv(h:Den K H v .none):v=.non:=by simpa only [Den]using h
def Den.str_inv(h:Den K H v (.str x)):v=.str x:=by simpa only [Den]using h
def DenAll.cons_inv{xs:List V}{d:bh}{ds:List bh}(h:DenAll K H xs (d::ds)):∃v r,xs=v::r/\Den K H v d/\DenAll K H r ds:=by simpa only [DenAll]using h
def DenAll.nil_inv{xs:List V}(h:DenAll K H xs []):xs=[]:=by simpa only [DenAll]using h
theorem DenAll.length:∀{ds:List bh} {xs:List V},DenAll K H xs ds->xs.length=ds.length
 |[],_,h=>by rw[h.nil_inv];rfl
 |d::ds,_,h=>by
  obtain⟨v,r,rfl,_,h⟩:=h.cons_inv;rw[be,be,DenAll.length h]
theorem DenAll.get:∀{ds:List bh} {xs:List V} {i:Nat} {d:bh},DenAll K H xs ds->ds[i]?=cz d->∃v,xs[i]?=cz v/\Den K H v d
 |[],_,i,d,_,e=>by simp at e
 |d0::ds,_,0,d,h,e=>by
  obtain⟨v,r,rfl,h1,_⟩:=h.cons_inv;have:d0=d:=by simpa using e
  subst this;exact⟨v,rfl,h1⟩
 |d0::ds,_,i+1,d,h,e=>by
  obtain⟨v,r,rfl,_,h1⟩:=h.cons_inv;obtain⟨u,h2,h3⟩:=DenAll.get (i:=i) h1 (by simpa using e);exact⟨u,by simpa using h2,h3⟩
def DenAll.getV{ds:List bh}{xs:List V}{i:Nat}{v:V}(h:DenAll K H xs ds)(e:xs[i]?=cz v):∃d,ds[i]?=cz d/\Den K H v d:=by
 have hi:=(aU.mp e).1;rw[h.length]at hi;obtain⟨u,h1,h2⟩:=h.get (ao hi);rw[e]at h1;cases h1
 exact⟨_,ao hi,h2⟩
theorem DenAll.append:∀{ds:List bh} {xs:List V} {es:List bh} {ys:List V},DenAll K H xs ds->DenAll K H ys es->DenAll K H (xs++ys) (ds++es)
 |[],_,_,_,h,q=>by rw[h.nil_inv];exact q
 |d::ds,_,_,_,h,q=>by
  obtain⟨v,r,rfl,h1,h2⟩:=h.cons_inv;exact denAll_cons h1 (DenAll.append h2 q)
theorem DenAll.take:∀{ds:List bh} {xs:List V} (n:Nat),DenAll K H xs ds->DenAll K H (xs.take n) (ds.take n)
 |_,_,0,_=>by rw[List.take_zero,List.take_zero];exact denAll_nil
 |[],_,n+1,h=>by rw[h.nil_inv];exact denAll_nil
 |d::ds,_,n+1,h=>by
  obtain⟨v,r,rfl,h1,h2⟩:=h.cons_inv;exact denAll_cons h1 (DenAll.take n h2)
theorem DenAll.drop:∀{ds:List bh} {xs:List V} (n:Nat),DenAll K H xs ds->DenAll K H (xs.drop n) (ds.drop n)
 |_,_,0,h=>h
 |[],_,n+1,h=>by rw[h.nil_inv];exact denAll_nil
 |d::ds,_,n+1,h=>by
  obtain⟨v,r,rfl,_,h2⟩:=h.cons_inv;exact DenAll.drop n h2
theorem DenAll.ints:∀(ns:List Int),DenAll K H (ns.map V.int) (ns.map aF)
 |[]=>denAll_nil
 |n::ns=>denAll_cons den_int (DenAll.ints ns)
end
def cut(H:Hp)(F:List aw):Hp:=λa=>if a∈F then el else H a
section
variable {H H':Hp}{F F':List aw}{a:aw}{o:HO}
def Y0(h:a∉F):cut H F a=H a:=by unfold cut;rw[aL h]
def W3(h:a∈F):cut H F a=el:=by unfold cut;rw[aG h]
def p7(h:cut H F a=cz o):a∉F/\H a=cz o:=by
 by_cases q:a∈F
 ·rw[W3 q]at h;cases h
 ·rw[Y0 q]at h;exact⟨q,h⟩
def j8(h1:a∉F)(h2:H a=cz o):cut H F a=cz o:=by rw[Y0 h1];exact h2
def i8:Same (cut H F) H:=λ_ _ h=>(p7 h).2
def K3(e:Same H H')(hF:∀a o,H a=cz o->a∈F'->a∈F):Same (cut H F) (cut H' F'):=λa o h=>by
 obtain⟨h1,h2⟩:=p7 h;exact j8 (λq=>h1 (hF a o h2 q)) (e _ _ h2)
def B2(e:Same H H'):Same (cut H F) (cut H' F):=K3 e λ_ _ _ q=>q
def C9(hF:∀a,a∈F'->a∈F):Same (cut H F) (cut H F'):=K3 (Same.refl H) λa _ _ q=>hF a q
def K8:cut H []=H:=by
 funext a
 exact Y0 (by simp)
end
inductive Ty where
 |i|f|l (t:Ty)|tp (ts:List Ty)|d (kt:Bool) (t:Ty)
mutual
def Ty.shut:Ty->Bool
 |.i=>p4
 |.f=>rp
 |.l u=>u.shut
 |.tp us=>Ty.shutAll us
 |.d _ u=>u.shut
def Ty.shutAll:List Ty->Bool
 |[]=>p4
 |u::us=>u.shut&&Ty.shutAll us
end
def ListAll(R:V->bh->List aw->Prop):List V->List bh->List aw->Prop
 |xs,[],fp=>xs=[]/\fp=[]
 |xs,d::ds,fp=>∃v r f g,xs=v::r/\fp=f++g/\R v d f/\ListAll R r ds g
mutual
def Own(K:af)(H:Hp)(F:List aw):Ty->V->bh->List aw->Prop
 |.i,v,d,fp=>fp=[]/\imm d=p4/\Den K (cut H F) v d
 |.f,v,d,fp=>fp=[]/\Den K (cut H F) v d
 |.l u,v,d,fp=>(fp=[]/\imm d=p4/\Den K (cut H F) v d)\/∃a xs ds fs,v=.ref a/\H a=cz (.lst xs)/\d=.list ds/\fp=a::fs/\ListAll (Own K H F u) xs ds fs
 |.tp us,v,d,fp=>(fp=[]/\(imm d=p4/\∀ds,d≠.tuple ds)/\Den K (cut H F) v d)\/∃a xs ds,v=.ref a/\H a=cz (.tup xs)/\a∉F/\d=.tuple ds/\OwnTs K H F us xs ds fp
 |.d kt u,v,d,fp=>∃a es ds fs,v=.ref a/\H a=cz (c9 a es)/\d=.dict ((es.map (·.1)).zip ds)/\fp=a::fs/\((es.map (·.1)).Nodup/\∀e∈es,keyOk kt e.1/\Den K (cut H F) e.2.1 e.1)/\ListAll (Own K H F u) (es.map (·.2.2)) ds fs
def OwnTs(K:af)(H:Hp)(F:List aw):List Ty->List V->List bh->List aw->Prop
 |[],xs,ds,fp=>xs=[]/\ds=[]/\fp=[]
 |u::us,xs,ds,fp=>∃v r d e f g,xs=v::r/\ds=d::e/\fp=f++g/\Own K H F u v d f/\OwnTs K H F us r e g
end
section
variable {R R':V->bh->List aw->Prop}
def n5:ListAll R [] [] []:=by simp only[ListAll];exact⟨trivial,trivial⟩
def m4(h:R v d f)(q:ListAll R xs ds g):ListAll R (v::xs) (d::ds) (f++g):=by
 simp only[ListAll];exact⟨v,xs,f,g,rfl,rfl,h,q⟩
def ListAll.nil_inv(h:ListAll R xs [] fp):xs=[]/\fp=[]:=by simpa only [ListAll]using h
def ListAll.cons_inv(h:ListAll R xs (d::ds) fp):∃v r f g,xs=v::r/\fp=f++g/\R v d f/\ListAll R r ds g:=by simpa only [ListAll]using h
theorem ListAll.length:∀{ds:List bh} {xs:List V} {fp:List aw},ListAll R xs ds fp->xs.length=ds.length
 |[],_,_,h=>by rw[h.nil_inv.1];rfl
 |d::ds,_,_,h=>by
  obtain⟨v,r,f,g,rfl,_,_,h⟩:=h.cons_inv;rw[be,be,ListAll.length h]
theorem ListAll.imp:∀{ds:List bh} {xs:List V} {fp:List aw},ListAll R xs ds fp->(∀v d f,(∀a∈f,a∈fp)->d∈ds->R v d f->R' v d f)->ListAll R' xs ds fp
 |[],_,_,h,_=>by obtain⟨rfl,rfl⟩:=h.nil_inv;exact n5
 |d::ds,_,_,h,q=>by
  obtain⟨v,r,f,g,rfl,rfl,h1,h2⟩:=h.cons_inv;exact m4 (q v d f (λa ha=>aJ _ ha) ah h1) (ListAll.imp h2 λv d f' hf hd hR=>q v d f' (λa ha=>ay _ (hf a ha)) (ai _ hd) hR)
theorem ListAll.append:∀{ds es:List bh} {xs ys:List V} {fp gp:List aw},ListAll R xs ds fp->ListAll R ys es gp->ListAll R (xs++ys) (ds++es) (fp++gp)
 |[],_,_,_,_,_,h,q=>by obtain⟨rfl,rfl⟩:=h.nil_inv;exact q
 |d::ds,_,_,_,_,_,h,q=>by
  obtain⟨v,r,f,g,rfl,rfl,h1,h2⟩:=h.cons_inv;rw[bx];exact m4 h1 (ListAll.append h2 q)
theorem ListAll.at_:∀{ds:List bh} {xs:List V} {fp:List aw} {k:Nat} {d:bh},ListAll R xs ds fp->ds[k]?=cz d->
  ∃v f pre post,xs[k]?=cz v/\R v d f/\fp=pre++(f++post)/\ListAll R (xs.take k) (ds.take k) pre/\ListAll R (xs.drop (k+1)) (ds.drop (k+1)) post
 |[],_,_,k,d,_,e=>by simp at e
 |d0::ds,_,_,0,d,h,e=>by
  obtain⟨v,r,f,g,rfl,rfl,h1,h2⟩:=h.cons_inv;have:d0=d:=by simpa using e
  subst this;exact⟨v,f,[],g,rfl,h1,rfl,n5,h2⟩
 |d0::ds,_,_,k+1,d,h,e=>by
  obtain⟨v,r,f,g,rfl,rfl,h1,h2⟩:=h.cons_inv;obtain⟨u,f',pre,post,e1,e2,e3,e4,e5⟩:=ListAll.at_ (k:=k) h2 (by simpa using e);subst e3;exact⟨u,f',f++pre,post,by simpa using e1,e2,by rw[bx],m4 h1 e4,e5⟩
end
section
variable {K:af}{H H':Hp}{F F':List aw}
theorem ListAll.den(hR:∀v d f,R v d f->Den K H v d):∀{ds:List bh} {xs:List V} {fp:List aw},ListAll R xs ds fp->DenAll K H xs ds
 |[],_,_,h=>by rw[h.nil_inv.1];exact denAll_nil
 |d::ds,_,_,h=>by
  obtain⟨v,r,f,g,rfl,_,h1,h2⟩:=h.cons_inv;exact denAll_cons (hR _ _ _ h1) (ListAll.den hR h2)
mutual
theorem Own.den:∀(u:Ty) {v:V} {d:bh} {fp:List aw},Own K H F u v d fp->Den K H v d
 |.i,_,_,_,h=>by simp only[Own]at h;exact h.2.2.up i8
 |.f,_,_,_,h=>by simp only[Own]at h;exact h.2.up i8
 |.l u,_,_,_,h=>by
  simp only[Own]at h;rcases h with⟨_,_,h⟩|⟨a,xs,ds,fs,rfl,h1,rfl,_,h2⟩
  ·exact h.up i8
  ·exact den_list (.inl (.inl h1)) (ListAll.den (λv d f q=>Own.den u q) h2)
 |.tp us,_,_,_,h=>by
  simp only[Own]at h;rcases h with⟨_,_,h⟩|⟨a,xs,ds,rfl,h1,_,rfl,h2⟩
  ·exact h.up i8
  ·exact den_tup (SqT.of h1) (OwnTs.den us h2)
 |.d kt u,_,_,_,h=>by
  simp only[Own]at h;obtain⟨a,es,ds,fs,rfl,h1,rfl,_,h3,h2⟩:=h;exact a4i h1 (λe he=>(h3.2 e he).2.up i8) (ListAll.den (λv d f q=>Own.den u q) h2)
theorem OwnTs.den:∀(us:List Ty) {xs:List V} {ds:List bh} {fp:List aw},OwnTs K H F us xs ds fp->DenAll K H xs ds
 |[],_,_,_,h=>by simp only[OwnTs]at h;obtain⟨rfl,rfl,_⟩:=h;exact denAll_nil
 |u::us,_,_,_,h=>by
  simp only[OwnTs]at h;obtain⟨v,r,d,e,f,g,rfl,rfl,_,h1,h2⟩:=h;exact denAll_cons (Own.den u h1) (OwnTs.den us h2)
end
mutual
theorem Own.frame(e:Same (cut H F) (cut H' F')):∀(u:Ty) {v:V} {d:bh} {fp:List aw},Own K H F u v d fp->(∀a∈fp,H' a=H a)->Own K H' F' u v d fp
 |.i,_,_,_,h,_=>by simp only[Own]at h ⊢;exact⟨h.1,h.2.1,h.2.2.up e⟩
 |.f,_,_,_,h,_=>by simp only[Own]at h ⊢;exact⟨h.1,h.2.up e⟩
 |.l u,_,_,_,h,k=>by
  simp only[Own]at h ⊢;rcases h with⟨h1,h2,h⟩|⟨a,xs,ds,fs,rfl,h1,rfl,rfl,h2⟩
  ·exact .inl ⟨h1,h2,h.up e⟩
  ·exact .inr ⟨a,xs,ds,fs,rfl,(k a ah).trans h1,rfl,rfl,h2.imp λv d f hf _ q=>Own.frame e u q λb hb=>k b (ai _ (hf b hb))⟩
 |.tp us,_,_,_,h,k=>by
  simp only[Own]at h ⊢;rcases h with⟨h1,h2,h⟩|⟨a,xs,ds,rfl,h1,h0,rfl,h2⟩
  ·exact .inl ⟨h1,h2,h.up e⟩
  obtain⟨h3,h4⟩:=p7 (e a _ (j8 h0 h1));exact .inr ⟨a,xs,ds,rfl,h4,h3,rfl,OwnTs.frame e us h2 k⟩
 |.d kt u,_,_,_,h,k=>by
  simp only[Own]at h ⊢;obtain⟨a,es,ds,fs,rfl,h1,rfl,rfl,h3,h2⟩:=h;exact⟨a,es,ds,fs,rfl,(k a ah).trans h1,rfl,rfl,⟨h3.1,λx hx=>⟨(h3.2 x hx).1,(h3.2 x hx).2.up e⟩⟩,h2.imp λv d f hf _ q=>Own.frame e u q λb hb=>k b (ai _ (hf b hb))⟩
theorem OwnTs.frame(e:Same (cut H F) (cut H' F')):∀(us:List Ty) {xs:List V} {ds:List bh} {fp:List aw},OwnTs K H F us xs ds fp->(∀a∈fp,H' a=H a)->OwnTs K H' F' us xs ds fp
 |[],_,_,_,h,_=>by simpa only [OwnTs]using h
 |u::us,_,_,_,h,k=>by
  simp only[OwnTs]at h ⊢;obtain⟨v,r,d,e',f,g,rfl,rfl,rfl,h1,h2⟩:=h;exact⟨v,r,d,e',f,g,rfl,rfl,rfl,Own.frame e u h1 λa ha=>k a (aJ _ ha),OwnTs.frame e us h2 λa ha=>k a (ay _ ha)⟩
end
theorem ListAll.lst{u:Ty}{R:V->bh->List aw->Prop}(hR:∀v d f,R v d f->∀a∈f,∃ys:MuO,H a=cz ys.1):∀{ds:List bh} {xs:List V} {fp:List aw},ListAll R xs ds fp->∀a∈fp,∃ys:MuO,H a=cz ys.1
 |[],_,_,h,a,ha=>by rw[h.nil_inv.2]at ha;cases ha
 |d::ds,_,_,h,a,ha=>by
  obtain⟨v,r,f,g,rfl,rfl,h1,h2⟩:=h.cons_inv;rcases aB.mp ha with z|z
  ·exact hR _ _ _ h1 a z
  ·exact ListAll.lst (u:=u) hR h2 a z
mutual
theorem Own.lst:∀(u:Ty) {v:V} {d:bh} {fp:List aw},Own K H F u v d fp->∀a∈fp,∃ys:MuO,H a=cz ys.1
 |.i,_,_,_,h,a,ha=>by simp only[Own]at h;rw[h.1]at ha;cases ha
 |.f,_,_,_,h,a,ha=>by simp only[Own]at h;rw[h.1]at ha;cases ha
 |.l u,_,_,_,h,b,hb=>by
  simp only[Own]at h;rcases h with⟨h1,_⟩|⟨a,xs,ds,fs,rfl,h1,rfl,rfl,h2⟩
  ·rw[h1]at hb;cases hb
  ·rcases az.mp hb with z|z
   ·subst z;exact⟨⟨.lst xs,trivial⟩,h1⟩
   ·exact ListAll.lst (u:=u) (λv d f q=>Own.lst u q) h2 b z
 |.tp us,_,_,_,h,b,hb=>by
  simp only[Own]at h;rcases h with⟨h1,_⟩|⟨a,xs,ds,rfl,h1,_,rfl,h2⟩
  ·rw[h1]at hb;cases hb
  ·exact OwnTs.lst us h2 b hb
 |.d kt u,_,_,_,h,b,hb=>by
  simp only[Own]at h;obtain⟨a,es,ds,fs,rfl,h1,rfl,rfl,h3,h2⟩:=h;rcases az.mp hb with z|z
  ·subst z;exact⟨⟨c9 b es,trivial⟩,h1⟩
  ·exact ListAll.lst (u:=u) (λv d f q=>Own.lst u q) h2 b z
theorem OwnTs.lst:∀(us:List Ty) {xs:List V} {ds:List bh} {fp:List aw},OwnTs K H F us xs ds fp->∀a∈fp,∃ys:MuO,H a=cz ys.1
 |[],_,_,_,h,a,ha=>by simp only[OwnTs]at h;rw[h.2.2]at ha;cases ha
 |u::us,_,_,_,h,b,hb=>by
  simp only[OwnTs]at h;obtain⟨v,r,d,e,f,g,rfl,rfl,rfl,h1,h2⟩:=h;rcases aB.mp hb with z|z
  ·exact Own.lst u h1 b z
  ·exact OwnTs.lst us h2 b z
end
def b4G(h:SqT K H a xs)(hF:∀a∈F,∃ys:MuO,H a=cz ys.1):SqT K (cut H F) a xs:=by
 rcases h with (h|⟨o,h⟩)|h
 ·refine .inl (.inl (j8 (λq=>?_) h));obtain⟨⟨ys,my⟩,e⟩:=hF a q;rw[h]at e;have e':=aK e;rw[show ys=_ from e'.symm]at my;exact my
 ·refine .inl (.inr ⟨o,j8 (λq=>?_) h⟩);obtain⟨⟨ys,my⟩,e⟩:=hF a q;rw[h]at e;have e':=aK e;rw[show ys=_ from e'.symm]at my;exact my
 ·exact .inr h
mutual
theorem Den.imm_out(hF:∀a∈F,∃ys:MuO,H a=cz ys.1):∀(d:bh) {v:V},imm d=p4->Den K H v d->Den K (cut H F) v d
 |.none,_,_,h=>by simpa only [Den]using h
 |.bool _,_,_,h=>by simpa only [Den]using h
 |.int _,_,_,h=>by simpa only [Den]using h
 |.str _,_,_,h=>by simpa only [Den]using h
 |.list ds,_,q,_=>by simp only[imm]at q;cases q
 |.tuple ds,_,q,h=>by
  simp only[imm]at q;obtain⟨a,xs,rfl,h1,h2⟩:=h.tup_inv;exact den_tup (b4G h1 hF) (DenAll.imm_out hF ds q h2)
 |.dict _,_,q,_=>by simp only[imm]at q;cases q
theorem DenAll.imm_out(hF:∀a∈F,∃ys:MuO,H a=cz ys.1):∀(ds:List bh) {xs:List V},g9 ds=p4->DenAll K H xs ds->DenAll K (cut H F) xs ds
 |[],_,_,h=>by simpa only [DenAll]using h
 |d::ds,_,q,h=>by
  simp only[g9,ak]at q;obtain⟨v,r,rfl,h1,h2⟩:=h.cons_inv;exact denAll_cons (Den.imm_out hF d q.1 h1) (DenAll.imm_out hF ds q.2 h2)
end
mutual
theorem Own.shut_out(hF:∀a∈F',∃ys:MuO,H a=cz ys.1):∀(u:Ty) {v:V} {d:bh} {fp:List aw},u.shut=p4->Own K H F u v d fp->Own K H F' u v d fp
 |.i,_,_,_,_,h=>by simp only[Own]at h ⊢;exact⟨h.1,h.2.1,(h.2.2.up i8).imm_out hF _ h.2.1⟩
 |.f,_,_,_,q,h=>by simp only[Ty.shut]at q;cases q
 |.l u,_,_,_,q,h=>by
  simp only[Ty.shut]at q;simp only[Own]at h ⊢;rcases h with⟨h1,h2,h⟩|⟨a,xs,ds,fs,rfl,h1,rfl,rfl,h2⟩
  ·exact .inl ⟨h1,h2,(h.up i8).imm_out hF _ h2⟩
  ·exact .inr ⟨a,xs,ds,fs,rfl,h1,rfl,rfl,h2.imp λv d f _ _ z=>Own.shut_out hF u q z⟩
 |.tp us,_,_,_,q,h=>by
  simp only[Ty.shut]at q;simp only[Own]at h ⊢;rcases h with⟨h1,h2,h⟩|⟨a,xs,ds,rfl,h1,h0,rfl,h2⟩
  ·exact .inl ⟨h1,h2,(h.up i8).imm_out hF _ h2.1⟩
  refine .inr ⟨a,xs,ds,rfl,h1,λz=>?_,rfl,OwnTs.shut_out hF us q h2⟩;obtain⟨⟨ys,my⟩,e⟩:=hF a z;rw[h1]at e;have e':=aK e;rw[show ys=_ from e'.symm]at my;exact my
 |.d kt u,_,_,_,q,h=>by
  simp only[Ty.shut]at q;simp only[Own]at h ⊢;obtain⟨a,es,ds,fs,rfl,h1,rfl,rfl,h3,h2⟩:=h;exact⟨a,es,ds,fs,rfl,h1,rfl,rfl,⟨h3.1,λx hx=>⟨(h3.2 x hx).1,((h3.2 x hx).2.up i8).imm_out hF _ (Q7 _ (h3.2 x hx).1.1)⟩⟩,h2.imp λv d f _ _ z=>Own.shut_out hF u q z⟩
theorem OwnTs.shut_out(hF:∀a∈F',∃ys:MuO,H a=cz ys.1):∀(us:List Ty) {xs:List V} {ds:List bh} {fp:List aw},Ty.shutAll us=p4->OwnTs K H F us xs ds fp->OwnTs K H F' us xs ds fp
 |[],_,_,_,_,h=>by simpa only [OwnTs]using h
 |u::us,_,_,_,q,h=>by
  simp only[Ty.shutAll,ak]at q;simp only[OwnTs]at h ⊢;obtain⟨v,r,d,e,f,g,rfl,rfl,rfl,h1,h2⟩:=h;exact⟨v,r,d,e,f,g,rfl,rfl,rfl,Own.shut_out hF u q.1 h1,OwnTs.shut_out hF us q.2 h2⟩
end
end
end VS
namespace VS
open PySem PySem.Spec L2
open SeqAt in
def items_eqAt{A:bD}{s:ar}{us ws:Array aj}(ra:i_ s.heap us.toList xs as)(rb:i_ s.heap ws.toList ys bs)(ha:aM xs=p4)(hb:aM ys=p4)
  (hu:A.in1.units+min (bV xs) (bV ys)<cS):∀(k:Nat) (k1:k<us.size) (k2:k<ws.size),EqAt A.in1 s us[k] ws[k] (pairEq xs ys k):=λk k1 k2=>
 eqAt_readsAll xs ys A.in1 s us.toList ws.toList as bs ra rb ha hb hu k k1 k2
open SeqAt in
def a7C{A:bD}{s:ar}(ra:Reads s.heap a da as)(rb:Reads s.heap b db bs)(ha:da.canLay0=p4)(hb:db.canLay0=p4)
  (hu:A.units+min da.depth db.depth<cS):RcNeAt A s a b (!aC da db):=by
 have u0:=room_here hu;cases ra with
 |dict=>exact nomatch ha
 |none=>cases rb with
  |dict=>exact nomatch hb
  |none=>exact RcNeAt.none_none
  |bool y=>exact RcNeAt.none_bool y
  |int y v=>exact RcNeAt.none_int y v
  |str y v=>exact RcNeAt.none_str y v
  |list c1 c2 c3 c4=>exact RcNeAt.none_list ⟨_,c1,c2,_,c3⟩ u0
  |tuple c1 c2 c3 c4=>exact RcNeAt.none_tuple ⟨_,c1,c2,_,c3⟩ u0
 |bool x=>cases rb with
  |dict=>exact nomatch hb
  |none=>exact RcNeAt.bool_none x
  |bool y=>exact RcNeAt.bool_bool x y
  |int y v=>exact RcNeAt.bool_int x y v
  |str y v=>exact RcNeAt.bool_str x y v
  |list c1 c2 c3 c4=>exact RcNeAt.bool_list x ⟨_,c1,c2,_,c3⟩ u0
  |tuple c1 c2 c3 c4=>exact RcNeAt.bool_tuple x ⟨_,c1,c2,_,c3⟩ u0
 |int x t=>cases rb with
  |dict=>exact nomatch hb
  |none=>exact RcNeAt.int_none x t
  |bool y=>exact RcNeAt.int_bool x t y
  |int y v=>exact RcNeAt.int_int x t y v
  |str y v=>exact RcNeAt.int_str x t y v
  |list c1 c2 c3 c4=>exact RcNeAt.int_list x t ⟨_,c1,c2,_,c3⟩ u0
  |tuple c1 c2 c3 c4=>exact RcNeAt.int_tuple x t ⟨_,c1,c2,_,c3⟩ u0
 |str x t=>cases rb with
  |dict=>exact nomatch hb
  |none=>exact RcNeAt.str_none x t
  |bool y=>exact RcNeAt.str_bool x t y
  |int y v=>exact RcNeAt.str_int x t y v
  |str y v=>exact RcNeAt.str_str x t y v
  |list c1 c2 c3 c4=>exact RcNeAt.str_list x t ⟨_,c1,c2,_,c3⟩ u0
  |tuple c1 c2 c3 c4=>exact RcNeAt.str_tuple x t ⟨_,c1,c2,_,c3⟩ u0
 |@list la oa us na xs fa c1 c2 c3 c4=>
  have sa:s.heap.IsList la us:=⟨oa,c1,c2,na,c3⟩;cases rb with
  |dict=>exact nomatch hb
  |none=>exact RcNeAt.list_none sa u0
  |bool y=>exact RcNeAt.list_bool y sa u0
  |int y v=>exact RcNeAt.list_int y v sa u0
  |str y v=>exact RcNeAt.list_str y v sa u0
  |tuple e1 e2 e3 e4=>exact RcNeAt.list_tuple sa ⟨_,e1,e2,_,e3⟩ u0
  |@list lb ob ws nb ys fb e1 e2 e3 e4=>
   have sb:s.heap.IsList lb ws:=⟨ob,e1,e2,nb,e3⟩;have z1:us.size=xs.length:=by simpa using oI xs _ _ c4
   have z2:ws.size=ys.length:=by simpa using oI ys _ _ e4
   have pr:=items_eqAt c4 e4 ha hb (room_in hu);show RcNeAt A s (.ref la) (.ref lb) (!cy xs ys);by_cases z:us.size=ws.size
   ·rw[<-eqvAll_same_length (show xs.length=ys.length by lia),<-z1];exact RcNeAt.lists sa sb z u0 pr
   ·rw[eqvAll_other_length (show xs.length≠ys.length by lia)];exact RcNeAt.lists_lengths sa sb (bne_iff_ne.mpr z) u0
 |@tuple la oa us na xs fa c1 c2 c3 c4=>
  have sa:s.heap.IsTuple la us:=⟨oa,c1,c2,na,c3⟩;cases rb with
  |dict=>exact nomatch hb
  |none=>exact RcNeAt.tuple_none sa u0
  |bool y=>exact RcNeAt.tuple_bool y sa u0
  |int y v=>exact RcNeAt.tuple_int y v sa u0
  |str y v=>exact RcNeAt.tuple_str y v sa u0
  |list e1 e2 e3 e4=>exact RcNeAt.tuple_list sa ⟨_,e1,e2,_,e3⟩ u0
  |@tuple lb ob ws nb ys fb e1 e2 e3 e4=>
   have sb:s.heap.IsTuple lb ws:=⟨ob,e1,e2,nb,e3⟩;have z1:us.size=xs.length:=by simpa using oI xs _ _ c4
   have z2:ws.size=ys.length:=by simpa using oI ys _ _ e4
   have pr:=items_eqAt c4 e4 ha hb (room_in hu);show RcNeAt A s (.ref la) (.ref lb) (!cy xs ys);rw[<-eqvAll_eq xs ys,<-z1,<-z2];exact RcNeAt.tuples sa sb u0 pr
mutual
theorem Den.reads{X:Cx}{pins:List (aw×fM)}{Y:St}{H:Hp}{s:ar}(I:Inv X pins Y H s):∀(d:bh) {v:V} {u:aj},d.canLay0=p4->Den X.K H v d->RelV v u->∃as,Reads s.heap u d as
 |.none,v,u,_,q,r=>by
  cases q.none_inv
  cases (show u=cj from r)
  exact⟨_,.none⟩
 |.bool b,v,u,_,q,r=>by
  cases q.bool_inv
  cases (show u=jx b from r)
  exact⟨_,.bool b⟩
 |.int i,v,u,_,q,r=>by
  cases q.int_inv
  obtain⟨t,rfl⟩:=r;exact⟨_,.int i t⟩
 |.str x,v,u,_,q,r=>by
  cases q.str_inv
  obtain⟨t,rfl⟩:=r;exact⟨_,.str x t⟩
 |.list ds,v,u,hl,q,r=>by
  obtain⟨a,xs,rfl,h1,h2⟩:=q.list_inv;cases (show u=aZ a from r)
  obtain⟨z,cE,n,rv,e⟩:=h1.ok I;obtain⟨as,ra⟩:=DenAll.reads I ds hl h2 rv;exact⟨_,.list e rfl rfl (by simpa using ra)⟩
 |.tuple ds,v,u,hl,q,r=>by
  obtain⟨a,xs,rfl,h1,h2⟩:=q.tup_inv;cases (show u=aZ a from r)
  obtain⟨cE,rv,⟨o,e,c,n,d⟩,_⟩:=I.tuple h1;obtain⟨as,ra⟩:=DenAll.reads I ds hl h2 rv;exact⟨_,.tuple e c d (by simpa using ra)⟩
 |.dict _,_,_,hl,_,_=>nomatch hl
theorem DenAll.reads{X:Cx}{pins:List (aw×fM)}{Y:St}{H:Hp}{s:ar}(I:Inv X pins Y H s):∀(ds:List bh) {xs:List V} {us:List aj},aM ds=p4->DenAll X.K H xs ds->Vals xs us->∃as,i_ s.heap us ds as
 |[],xs,us,_,q,r=>by
  cases q.nil_inv
  cases r
  exact⟨_,.nil⟩
 |d::ds,xs,us,hl,q,r=>by
  have pH:d.canLay0=p4/\aM ds=p4:=by simpa[aM]using hl
  obtain⟨v,rs,rfl,h1,h2⟩:=q.cons_inv;cases r with
  |cons r1 r2=>
   obtain⟨as,ra⟩:=Den.reads I d pH.1 h1 r1;obtain⟨bs,rb⟩:=DenAll.reads I ds pH.2 h2 r2;exact⟨_,.cons ra rb⟩
end
def OpS(X:Cx)(f:aj->aj->Sem aj)(g:D->D->Option D):Prop:=
 ∃r,OpR X f r/\∀(x y:V) (H:Hp) (a b d:D) (Q:VK),Den X.K H x a->Den X.K H y b->g a b=cz d->(∀v,imm d=p4->(∀H',Den X.K H' v d)->Q v H)->r x y H Q
def a4j(X:Cx)(f:aj)(g:List D->Option D):Prop:=
 ∃r,CallR X f r/\∀(xs:List V) (H:Hp) (ds:List D) (d:D) (Q:VK),DenAll X.K H xs ds->g ds=cz d->(∀v,imm d=p4->(∀H',Den X.K H' v d)->Q v H)->r xs H Q
def d2I(p:Int->Int->Bool)(g:Int->Int->D):D->D->Option D
 |.int a,.int b=>if p a b then cz (g a b) else el
 |_,_=>el
def a2J(h:d2I p g a b=cz d):∃i j,a=.int i/\b=.int j/\p i j=p4/\d=g i j:=by
 cases a with
 |int i=>
  cases b with
  |int j=>
   have h':(if p i j=p4 then cz (g i j) else el)=cz d:=h;by_cases c:p i j=p4
   ·rw[aG c]at h';exact⟨i,j,rfl,rfl,c,(aK h').symm⟩
   ·rw[aL c]at h';cases h'
  |_=>cases h
 |_=>cases h
def pT:Int->Int->Bool:=λ_ _=>p4
abbrev w8:D->D->Option D:=d2I pT λa b=>.int (a+b)
abbrev a5i:D->D->Option D:=d2I pT λa b=>.int (a-b)
def a9X(a b:Int):Bool:=decide (a.natAbs<2^64)||decide (b.natAbs<2^64)
abbrev N0:D->D->Option D:=d2I a9X λa b=>.int (a*b)
def b7s(_ b:Int):Bool:=decide (0<b)
abbrev F8:D->D->Option D:=d2I b7s λa b=>.int (a % b)
def b4H(_ b:Int):Bool:=decide (0<b)&&decide (b<1073741824)
abbrev a0F:D->D->Option D:=d2I b4H λa b=>.int (a / b)
def b4I(a b:Int):Bool:=decide (0<=b)&&decide (b<=1000000)&&decide (a.natAbs<2^64)
abbrev a5j:D->D->Option D:=d2I b4I λa b=>.int (a^b.toNat)
abbrev dLt:D->D->Option D:=d2I pT λa b=>.bool (decide (a<b))
abbrev dLe:D->D->Option D:=d2I pT λa b=>.bool (decide (a<=b))
abbrev dGt:D->D->Option D:=d2I pT λa b=>.bool (decide (b<a))
abbrev dGe:D->D->Option D:=d2I pT λa b=>.bool (decide (b<=a))
def a9Y(neg:Bool)(a b:D):Option D:=if a.canLay0&&b.canLay0&&decide (a.depth<=150) then cz (.bool (neg !=aC a b)) else el
abbrev dEq:D->D->Option D:=a9Y rp
abbrev dNe:D->D->Option D:=a9Y p4
def isN:D->Bool
 |.none=>p4
 |_=>rp
def J6(neg:Bool)(a b:D):Option D:=if isN b then cz (.bool (neg !=isN a)) else el
def c1i(neg:Bool):D->D->Option D
 |.bool a,.bool b=>cz (.bool (neg !=(a==b)))
 |_,_=>el
section
variable {X:Cx}
def b4J{f:aj->aj->Sem aj}{C:Int->Int->Prop}{p:Int->Int->Bool}{g:Int->Int->Int}(ho:OpR X f (rI C λi j=>.int (g i j)))(hp:∀i j,p i j=p4->C i j):OpS X f (d2I p λa b=>.int (g a b)):=by
 refine⟨_,ho,λx y H a b d Q ha hb hg q=>?_⟩;obtain⟨i,j,rfl,rfl,c,rfl⟩:=a2J hg;exact⟨i,j,ha.int_inv,hb.int_inv,hp i j c,q _ (by simp only[imm]) λ_=>den_int⟩
def b6n{f:aj->aj->Sem aj}{g:Int->Int->Int}(ho:OpR X f (rI0 λi j=>.int (g i j))):OpS X f (d2I pT λa b=>.int (g a b)):=by
 refine⟨_,ho,λx y H a b d Q ha hb hg q=>?_⟩;obtain⟨i,j,rfl,rfl,c,rfl⟩:=a2J hg;exact⟨i,j,ha.int_inv,hb.int_inv,q _ (by simp only[imm]) λ_=>den_int⟩
def b1R{f:aj->aj->Sem aj}{g:Int->Int->Bool}(ho:OpR X f (rI0 λi j=>.bl (g i j))):OpS X f (d2I pT λa b=>.bool (g a b)):=by
 refine⟨_,ho,λx y H a b d Q ha hb hg q=>?_⟩;obtain⟨i,j,rfl,rfl,c,rfl⟩:=a2J hg;exact⟨i,j,ha.int_inv,hb.int_inv,q _ (by simp only[imm]) λ_=>den_bool⟩
def w9:OpS X (eO .Add) w8:=b6n b7f
def a0l:OpS X (eO .Sub) a5i:=b6n b7g
def N1:OpS X (eO .Mult) N0:=b4J b7h λi j h=>by
 unfold a9X at h;rw[ji]at h;rcases h with h|h
 ·have:=aP h;exact .inl ⟨by lia,by lia⟩
 ·have:=aP h;exact .inr ⟨by lia,by lia⟩
def x6:OpS X (eO .Mod) F8:=b4J b7i λi j h=>aP h
def P8:OpS X (eO .FloorDiv) a0F:=b4J b4p λi j h=>by
 unfold b4H at h;rw[ak]at h;exact⟨aP h.1,aP h.2⟩
def a2K:OpS X (eO .Pow) a5j:=b4J b7j λi j h=>by
 unfold b4I at h;rw[ak,ak]at h;exact⟨aP h.1.1,aP h.1.2,aP h.2⟩
def a6b:OpS X (bJ .Lt) dLt:=b1R b9m
def a8U:OpS X (bJ .LtE) dLe:=b1R b9n
def b9u:OpS X (bJ .Gt) dGt:=b1R b9o
def b7t(K:af)(neg:Bool):R2:=λx y H Q=>∃d e,Den K H x d/\Den K H y e/\d.canLay0=p4/\e.canLay0=p4/\d.depth<=150/\Q (.bl (neg !=aC d e)) H
def b1S(hu:X.A.units+164<cS):OpR X (bJ .Eq) (b7t X.K rp):=by
 intro pins s Y H x y v u Q I rx ry h;obtain⟨d,e,h1,h2,c1,c2,hd,q⟩:=h;obtain⟨as,ra⟩:=Den.reads I d c1 h1 rx;obtain⟨bs,rb⟩:=Den.reads I e c2 h2 ry;refine SeqAt.compareEq_reads ra rb c1 c2 (by have:=pB d.depth e.depth;lia) ?_;exact⟨.bl _,H,I,rfl,by simpa using q⟩
def b1T(hu:X.A.units+164<cS):OpR X (bJ .NotEq) (b7t X.K p4):=by
 intro pins s Y H x y v u Q I rx ry h;obtain⟨d,e,h1,h2,c1,c2,hd,q⟩:=h;obtain⟨as,ra⟩:=Den.reads I d c1 h1 rx;obtain⟨bs,rb⟩:=Den.reads I e c2 h2 ry;refine a7C ra rb c1 c2 (by have:=pB d.depth e.depth;lia) _ _ _ _ ?_;exact⟨.bl _,H,I,rfl,by simpa using q⟩
def b1U(ho:OpR X f (b7t X.K neg)):OpS X f (a9Y neg):=by
 refine⟨_,ho,λx y H a b d Q ha hb hg q=>?_⟩;unfold a9Y at hg;by_cases c:(a.canLay0&&b.canLay0&&decide (a.depth<=150))=p4
 ·rw[aG c]at hg;cases hg
  rw[ak,ak]at c;exact⟨a,b,ha,hb,c.1.1,c.1.2,aP c.2,q _ (by simp only[imm]) λ_=>den_bool⟩
 ·rw[aL c]at hg;cases hg
def os_eq(hu:X.A.units+164<cS):OpS X (bJ .Eq) dEq:=b1U (b1S hu)
def b9v(hu:X.A.units+164<cS):OpS X (bJ .NotEq) dNe:=b1U (b1T hu)
def a5k(h:Den K H x a):decide (x=V.non)=isN a:=by
 cases a with
 |none=>rw[h.none_inv];rfl
 |bool b=>rw[h.bool_inv];rfl
 |int b=>rw[h.int_inv];rfl
 |str b=>rw[h.str_inv];rfl
 |list ds=>obtain⟨a,xs,rfl,_⟩:=h.list_inv;rfl
 |tuple ds=>obtain⟨a,xs,rfl,_⟩:=h.tup_inv;rfl
 |dict kvs=>
  obtain⟨a,es,rfl,_⟩:=h.dict_inv;rfl
def a5l:OpS X (bJ .Is) (J6 rp):=by
 refine⟨_,b7k,λx y H a b d Q ha hb hg q=>?_⟩;unfold J6 at hg;by_cases c:isN b=p4
 ·rw[aG c]at hg;cases hg
  have e:=a5k hb;rw[c]at e;refine⟨aP e,?_⟩;rw[a5k ha];have:=q (.bl (rp !=isN a)) (by simp only[imm]) λ_=>den_bool
  simpa using this
 ·rw[aL c]at hg;cases hg
def a0G:OpS X (bJ .IsNot) (J6 p4):=by
 refine⟨_,b4q,λx y H a b d Q ha hb hg q=>?_⟩;unfold J6 at hg;by_cases c:isN b=p4
 ·rw[aG c]at hg;cases hg
  have e:=a5k hb;rw[c]at e;refine⟨aP e,?_⟩;rw[a5k ha];have:=q (.bl (p4 !=isN a)) (by simp only[imm]) λ_=>den_bool
  simpa using this
 ·rw[aL c]at hg;cases hg
end
inductive Md where
 |dead|own (u:Ty)|exc|keys (kt:Bool)|pin (v:V)|fn (Φ:Hp->V->Prop)
def ExcAt(a C:aw):HO:=.ext λh=>∃o,h.get? a=cz o/\o.cls=.ref C
def SlotR(K:af)(H:Hp)(F:List aw)(m:Md)(o:Option V)(d:D)(f:List aw):Prop:=
 match m with
 |.dead=>f=[]
 |.own u=>∃v,o=cz v/\Own K H F u v d f
 |.exc=>f=[]/\∃v,o=cz v/\((v=.non/\d=.none)\/∃a C n,v=.ref a/\d=.str n/\cut H F a=cz (ExcAt a C)/\gH K bM n=cz (cz (.ref C)))
 |.keys kt=>f=[]/\∃a es kvs,o=cz (.ref a)/\d=.dict kvs/\cut H F a=cz (c9 a es)/\es.map (·.1)=kvs.map (·.1)/\∀e∈es,keyOk kt e.1/\Den K (cut H F) e.2.1 e.1
 |.pin v=>f=[]/\o=cz v
 |.fn Φ=>f=[]/\∃v,o=cz v/\∀H',Same (cut H F) H'->Φ H' v
def StAll(K:af)(H:Hp)(F:List aw):List Md->List D->L2.St->List aw->Prop
 |[],U,Y,fp=>U=[]/\Y=[]/\fp=[]
 |m::M,U,Y,fp=>∃d U' o Y' f g,U=d::U'/\Y=o::Y'/\fp=f++g/\SlotR K H F m o d f/\StAll K H F M U' Y' g
section
variable {K:af}{H H':Hp}{F F':List aw}
theorem SlotR.frame(h:SlotR K H F m o d f)(e:Same (cut H F) (cut H' F'))(k:∀a∈f,H' a=H a):SlotR K H' F' m o d f:=by
 cases m with
 |dead=>exact h
 |own u=>
  obtain⟨v,rfl,h⟩:=h;exact⟨v,rfl,h.frame e u k⟩
 |exc=>
  obtain⟨h0,v,h1,h2⟩:=h;refine⟨h0,v,h1,h2.imp (λz=>z) λ⟨a,C,n,z1,z2,z3,z4⟩=>⟨a,C,n,z1,z2,e _ _ z3,z4⟩⟩
 |keys kt=>
  obtain⟨h0,a,es,kvs,h1,h2,h3,h4,h5⟩:=h;exact⟨h0,a,es,kvs,h1,h2,e _ _ h3,h4,λx hx=>⟨(h5 x hx).1,(h5 x hx).2.up e⟩⟩
 |pin v=>exact h
 |fn Φ=>obtain⟨h0,v,h1,h2⟩:=h;exact⟨h0,v,h1,λH2 e2=>h2 H2 (e.trans e2)⟩
def l6(h:SlotR K H F m o d f)(q:StAll K H F M U Y g):StAll K H F (m::M) (d::U) (o::Y) (f++g):=by
 simp only[StAll];exact⟨d,U,o,Y,f,g,rfl,rfl,rfl,h,q⟩
def M4:StAll K H F [] [] [] []:=by simp only[StAll];exact⟨trivial,trivial,trivial⟩
theorem StAll.frame:∀{M:List Md} {U:List D} {Y:L2.St} {fp:List aw},StAll K H F M U Y fp->Same (cut H F) (cut H' F')->(∀a∈fp,H' a=H a)->StAll K H' F' M U Y fp
 |[],_,_,_,h,_,_=>by simpa only [StAll]using h
 |m::M,_,_,_,h,e,k=>by
  simp only[StAll]at h;obtain⟨d,U,o,Y,f,g,rfl,rfl,rfl,h1,h2⟩:=h;exact l6 (h1.frame e λa ha=>k a (aJ _ ha)) (StAll.frame h2 e λa ha=>k a (ay _ ha))
theorem StAll.len:∀{M:List Md} {U:List D} {Y:L2.St} {fp:List aw},StAll K H F M U Y fp->U.length=M.length/\Y.length=M.length
 |[],_,_,_,h=>by simp only[StAll]at h;obtain⟨rfl,rfl,_⟩:=h;exact⟨rfl,rfl⟩
 |m::M,_,_,_,h=>by
  simp only[StAll]at h;obtain⟨d,U,o,Y,f,g,rfl,rfl,rfl,_,h2⟩:=h;obtain⟨a,b⟩:=StAll.len h2;exact⟨by rw[be,be,a],by rw[be,be,b]⟩
theorem StAll.at_:∀{M:List Md} {U:List D} {Y:L2.St} {fp:List aw} {i:Nat} {m:Md},StAll K H F M U Y fp->M[i]?=cz m->
  ∃d o f pre post,U[i]?=cz d/\Y[i]?=cz o/\SlotR K H F m o d f/\fp=pre++(f++post)/\
   ∀(H':Hp) (F':List aw) (m':Md) (d':D) (o':Option V) (f':List aw),(∀a∈pre++post,H' a=H a)->Same (cut H F) (cut H' F')->SlotR K H' F' m' o' d' f'->
    StAll K H' F' (M.set i m') (U.set i d') (Y.set i o') (pre++(f'++post))
 |[],_,_,_,i,m,_,e=>by simp at e
 |m0::M,_,_,_,0,m,h,e=>by
  simp only[StAll]at h;obtain⟨d,U,o,Y,f,g,rfl,rfl,rfl,h1,h2⟩:=h;have:m0=m:=by simpa using e
  subst this;refine⟨d,o,f,[],g,rfl,rfl,h1,rfl,λH' F' m' d' o' f' k e' s=>?_⟩;show StAll K H' F' (m'::M) (d'::U) (o'::Y) (f'++g);exact l6 s (h2.frame e' k)
 |m0::M,_,_,_,i+1,m,h,e=>by
  simp only[StAll]at h;obtain⟨d,U,o,Y,f,g,rfl,rfl,rfl,h1,h2⟩:=h;obtain⟨d1,o1,f1,pre,post,e1,e2,e3,e4,e5⟩:=StAll.at_ (i:=i) h2 (by simpa using e);subst e4;refine⟨d1,o1,f1,f++pre,post,by simpa using e1,by simpa using e2,e3,by rw[bx],λH' F' m' d' o' f' k e' s=>?_⟩;rw[bx];refine l6 (h1.frame e' λa ha=>k a ?_) (e5 H' F' m' d' o' f' (λa ha=>k a ?_) e' s)
  ·rw[bx];exact aJ _ ha
  ·rw[bx];exact ay _ ha
end
structure StE (K:af) (M:List Md) (U:List D) (Y:L2.St) (H P:Hp) (F:List aw):Prop where
 all:∃G,StAll K H F M U Y G/\∀a∈G,a∈F
 lst:∀a∈F,∃ys:MuO,H a=cz ys.1
 prot:Same P (cut H F)
structure StR (K:af) (M:List Md) (U:List D) (Y:L2.St) (H P:Hp) (F:List aw):Prop where
 all:∃G,StAll K H F M U Y G/\G.Nodup/\∀a∈G,a∈F
 lst:∀a∈F,∃ys:MuO,H a=cz ys.1
 prot:Same P (cut H F)
section
variable {K:af}{M:List Md}{U:List D}{Y:L2.St}{H H' P:Hp}{F:List aw}
def StR.toE(h:StR K M U Y H P F):StE K M U Y H P F:=⟨let⟨G,a,_,b⟩:=h.all;⟨G,a,b⟩,h.lst,h.prot⟩
def StE.keep(h:StE K M U Y H P F)(e:Same H H'):∀a∈F,H' a=H a:=λa ha=>by
 obtain⟨ys,q⟩:=h.lst a ha;rw[q,e _ _ q]
def StE.lst'(h:StE K M U Y H P F)(e:Same H H'):∀a∈F,∃ys:MuO,H' a=cz ys.1:=λa ha=>by
 obtain⟨ys,q⟩:=h.lst a ha;exact⟨ys,e _ _ q⟩
def a0H(e:Same H H')(hf:∀a∈fp,H a=el):Same (cut H F) (cut H' (fp++F)):=K3 e λa o ha jL=>by
 rcases aB.mp jL with z|z
 ·rw[hf a z]at ha;cases ha
 ·exact z
def StE.more(h:StE K M U Y H P F)(e:Same H H')(hf:∀a∈fp,H a=el)(hl:∀a∈fp,∃ys:MuO,H' a=cz ys.1):StE K M U Y H' P (fp++F):=by
 obtain⟨G,h1,h3⟩:=h.all;have hc:Same (cut H F) (cut H' (fp++F)):=a0H e hf;refine⟨⟨G,h1.frame hc λa ha=>h.keep e a (h3 a ha),λa ha=>ay _ (h3 a ha)⟩,λa ha=>?_,h.prot.trans hc⟩;rcases aB.mp ha with z|z
 ·exact hl a z
 ·exact h.lst' e a z
def StE.grow(h:StE K M U Y H P F)(e:Same H H'):StE K M U Y H' P F:=h.more (fp:=[]) e (λa ha=>(nomatch ha)) λa ha=>(nomatch ha)
theorem StR.more(h:StR K M U Y H P F)(e:Same H H')(hf:∀a∈fp,H a=el)(hl:∀a∈fp,∃ys:MuO,H' a=cz ys.1):StR K M U Y H' P (fp++F):=by
 obtain⟨G,h1,h2,h3⟩:=h.all;have S:=h.toE.more e hf hl;exact⟨⟨G,h1.frame (a0H e hf) λa ha=>h.toE.keep e a (h3 a ha),h2,λa ha=>ay _ (h3 a ha)⟩,S.lst,S.prot⟩
def StR.grow(h:StR K M U Y H P F)(e:Same H H'):StR K M U Y H' P F:=h.more (fp:=[]) e (λa ha=>(nomatch ha)) λa ha=>(nomatch ha)
def y7(h:U[i]?=cz d):U.getD i x=d:=by rw[aN,h];rfl
def StE.get(h:StE K M U Y H P F)(hm:M[i]?=cz (.own u)):∃v f,Y[i]?=cz (cz v)/\Own K H F u v (U.getD i .none) f/\∀a∈f,a∈F:=by
 obtain⟨G,h1,h3⟩:=h.all;obtain⟨d,o,f,pre,post,e1,e2,⟨v,rfl,q⟩,e4,_⟩:=h1.at_ hm;refine⟨v,f,e2,by rw[y7 e1];exact q,λa ha=>h3 a ?_⟩;rw[e4];exact ay _ (aJ _ ha)
theorem StAll.pick(h:StAll K H F M U Y G)(hG:∀a∈G,a∈F):∀js:List Nat,∃G',StAll K H F (js.map λj=>M.getD j .dead) (js.map λj=>U.getD j .none) (js.map λj=>(Y[j]?).getD el) G'/\∀a∈G',a∈F
 |[]=>⟨[],M4,λa ha=>(nomatch ha)⟩
 |j::js=>by
  obtain⟨G',q,hq⟩:=StAll.pick h hG js;cases e:M[j]? with
  |none=>
   refine⟨[]++G',?_,λa ha=>hq a (by simpa using ha)⟩;have:M.getD j .dead=.dead:=by rw[aN,e];rfl
   rw[av,av,av,this];exact l6 rfl q
  |some m=>
   obtain⟨d,o,f,pre,post,e1,e2,e3,e4,_⟩:=h.at_ e;refine⟨f++G',?_,λa ha=>?_⟩
   ·rw[av,av,av,show M.getD j .dead=m by rw[aN,e];rfl,y7 e1,e2];exact l6 e3 q
   ·rcases aB.mp ha with z|z
    ·exact hG a (by rw[e4];exact ay _ (aJ _ z))
    ·exact hq a z
def M5{pre f post:List aw}(h:(pre++(f++post)).Nodup):(pre++post).Nodup:=
 h.sublist (List.Sublist.append (jV _) (List.sublist_append_right _ _))
def mem_mid{pre f post:List aw}{a:aw}(h:a∈pre++post):a∈pre++(f++post):=by
 rcases aB.mp h with h|h
 ·exact aJ _ h
 ·exact ay _ (ay _ h)
def a1s{pre f post:List aw}(h:(pre++post).Nodup)(hf:f.Nodup)(d:∀a∈f,a∉pre++post):(pre++(f++post)).Nodup:=by
 rw[bb]at h ⊢;obtain⟨h1,h2,h3⟩:=h;refine⟨h1,?_,λa ha b hb=>?_⟩
 ·rw[bb];exact⟨hf,h2,λa ha b hb e=>d a ha (e▸ay _ hb)⟩
 ·rcases aB.mp hb with z|z
  ·intro e;exact d b z (e▸aJ _ ha)
  ·exact h3 a ha b z
def a5m{pre f post:List aw}{a:aw}(h:a∈pre++(f++post)):a∈f\/a∈pre++post:=by
 rcases aB.mp h with h|h
 ·exact .inr (aJ _ h)
 ·rcases aB.mp h with h|h
  ·exact .inl h
  ·exact .inr (ay _ h)
def a1t{pre f post:List aw}(h:(pre++(f++post)).Nodup):∀a∈f,a∉pre++post:=λa ha z=>by
 rw[bb,bb]at h;rcases aB.mp z with z|z
 ·exact h.2.2 a z a (aJ _ ha) rfl
 ·exact h.2.1.2.2 a ha a z rfl
theorem StR.set{H1:Hp}{i:Nat}{m:Md}{u:Ty}{v:V}{d:D}{fp:List aw}(h:StR K M U Y H P F)(hm:M[i]?=cz m)(e:Same H H1)(hv:Own K H1 (fp++F) u v d fp)(hn:fp.Nodup)(hf:∀a∈fp,H a=el) :
  StR K (M.set i (.own u)) (U.set i d) (Y.set i (cz v)) H1 P (fp++F):=by
 obtain⟨G,h1,h2,h3⟩:=h.all;have S:=h.more e hf (hv.lst u);obtain⟨d0,o,f,pre,post,e1,e2,e3,e4,e5⟩:=h1.at_ hm;have jk:=h2;rw[e4]at jk;have hG:∀a∈pre++post,a∈F:=λa ha=>h3 a (by rw[e4];exact mem_mid ha)
 have hc:Same (cut H F) (cut H1 (fp++F)):=K3 e λa o ha jL=>by
  rcases aB.mp jL with z|z
  ·rw[hf a z]at ha;cases ha
  ·exact z
 refine⟨⟨pre++(fp++post),e5 H1 _ (.own u) d (cz v) fp (λa ha=>h.toE.keep e a (hG a ha)) hc ⟨v,rfl,hv⟩,a1s (M5 jk) hn λa ha z=>?_,λa ha=>?_⟩,S.lst,S.prot⟩
 ·obtain⟨ys,q⟩:=h.lst a (hG a z);rw[hf a ha]at q;cases q
 ·rcases a5m ha with z|z
  ·exact aJ _ z
  ·exact ay _ (hG a z)
def StR.kill{i:Nat}{m:Md}(h:StR K M U Y H P F)(hm:M[i]?=cz m)(d:D)(o:Option V):StR K (M.set i .dead) (U.set i d) (Y.set i o) H P F:=by
 obtain⟨G,h1,h2,h3⟩:=h.all;obtain⟨d0,o0,f,pre,post,e1,e2,e3,e4,e5⟩:=h1.at_ hm;rw[e4]at h2;exact⟨⟨pre++([]++post),e5 H F .dead d o [] (λ_ _=>rfl) (Same.refl _) rfl,M5 h2,λa ha=>h3 a (by rw[e4];exact mem_mid ha)⟩,h.lst,h.prot⟩
def set_same{α:Type}{l:List α}{i:Nat}{x:α}(h:l[i]?=cz x):l.set i x=l:=nQ λj=>by
 rw[List.getElem?_set]
 split
 ·next hj=>
  subst hj
  split
  ·exact h.symm
  ·next hh=>exact (dW (by lia)).symm
 ·rfl
theorem StR.dead{i:Nat}{m:Md}(h:StR K M U Y H P F)(hm:M[i]?=cz m):StR K (M.set i .dead) U Y H P F:=by
 obtain⟨G,h1,_⟩:=h.all;obtain⟨d0,o0,f,pre,post,e1,e2,_⟩:=h1.at_ hm;have:=h.kill hm d0 o0
 rwa[set_same e1,set_same e2]at this
def Own.freeze(h:Own K H F u v d fp)(hs:∀a∈F',a∈F)(hd:∀a∈fp,a∉F'):Own K H F' .f v d []:=by
 have key:∀(u:Ty) {v:V} {d:D} {fp:List aw},Own K H F u v d fp->(∀a∈fp,a∉F')->Den K (cut H F') v d:=by
  intro u;refine Ty.rec (motive_1:=λu=>∀{v:V} {d:D} {fp:List aw},Own K H F u v d fp->(∀a∈fp,a∉F')->Den K (cut H F') v d)
   (motive_2:=λus=>∀{xs:List V} {ds:List D} {fp:List aw},OwnTs K H F us xs ds fp->(∀a∈fp,a∉F')->DenAll K (cut H F') xs ds) ?_ ?_ ?_ ?_ ?_ ?_ ?_ u
  ·intro v d fp h _;simp only[Own]at h;exact h.2.2.up (C9 hs)
  ·intro v d fp h _;simp only[Own]at h;exact h.2.up (C9 hs)
  ·intro u ih v d fp h hd;simp only[Own]at h;rcases h with⟨_,_,h⟩|⟨a,xs,ds,fs,rfl,h1,rfl,rfl,h2⟩
   ·exact h.up (C9 hs)
   ·refine den_list (.inl (.inl (j8 (hd a ah) h1))) (ListAll.den (R:=λv d f=>Own K H F u v d f/\∀a∈f,a∉F') (λv d f q=>ih q.1 q.2) (h2.imp λv d f hf _ q=>⟨q,λb hb=>hd b (ai _ (hf b hb))⟩))
  ·intro us ih v d fp h hd;simp only[Own]at h;rcases h with⟨_,_,h⟩|⟨a,xs,ds,rfl,h1,h0,rfl,h2⟩
   ·exact h.up (C9 hs)
   exact den_tup (SqT.of (j8 (λz=>h0 (hs a z)) h1)) (ih h2 hd)
  ·intro kt u ih v d fp h hd;simp only[Own]at h;obtain⟨a,es,ds,fs,rfl,h1,rfl,rfl,h3,h2⟩:=h;exact a4i (j8 (hd a ah) h1) (λe he=>(h3.2 e he).2.up (C9 hs)) (ListAll.den (R:=λv d f=>Own K H F u v d f/\∀a∈f,a∉F') (λv d f q=>ih q.1 q.2) (h2.imp λv d f hf _ q=>⟨q,λb hb=>hd b (ai _ (hf b hb))⟩))
  ·intro xs ds fp h _;simp only[OwnTs]at h;obtain⟨rfl,rfl,_⟩:=h;exact denAll_nil
  ·intro u us Dy Dx xs ds fp h hd;simp only[OwnTs]at h;obtain⟨v,r,d,e,f,g,rfl,rfl,rfl,h1,h2⟩:=h;exact denAll_cons (Dy h1 λa ha=>hd a (aJ _ ha)) (Dx h2 λa ha=>hd a (ay _ ha))
 simp only[Own];exact⟨trivial,key u h hd⟩
theorem StR.freeze{i:Nat}{u:Ty}(h:StR K M U Y H P F)(hm:M[i]?=cz (.own u)):∃F',StR K (M.set i (.own .f)) U Y H P F':=by
 obtain⟨G,h1,h2,h3⟩:=h.all;obtain⟨d,o,f,pre,post,e1,e2,⟨v,rfl,e3⟩,e4,e5⟩:=h1.at_ hm;rw[e4]at h2;have jw:∀a∈F.filter (λa=>decide (a∉f)),a∈F:=λa ha=>(bg.mp ha).1
 have tL:∀a∈f,a∉F.filter (λa=>decide (a∉f)):=λa ha z=>absurd ha (aP (bg.mp z).2)
 have hc:Same (cut H F) (cut H (F.filter (λa=>decide (a∉f)))):=C9 jw;have q:=e5 H _ (.own .f) d (cz v) [] (λ_ _=>rfl) hc ⟨v,rfl,e3.freeze jw tL⟩;rw[set_same e1,set_same e2]at q;refine⟨_,⟨_,q,M5 h2,λa ha=>bg.mpr ⟨h3 a (by rw[e4];exact mem_mid ha),aA λz=>a1t h2 a z ha⟩⟩,λa ha=>h.lst a (jw a ha),h.prot.trans hc⟩
end
inductive Cat where
 |new (u:Ty)|bor (u:Ty)|tmp
def ResR(K:af)(c:Cat)(H H':Hp)(F:List aw)(v:V)(d:D):Prop:=
 match c with
 |.new u=>∃fp,Own K H' (fp++F) u v d fp/\fp.Nodup/\∀a∈fp,H a=el
 |.bor u=>∃fp,Own K H' F u v d fp/\∀a∈fp,a∈F
 |.tmp=>Den K H' v d
section
variable {K:af}{c:Cat}{H H0 H' H1 H2:Hp}{F:List aw}{v:V}{d:D}
theorem ResR.den(r:ResR K c H H' F v d):Den K H' v d:=by
 cases c with
 |new u=>obtain⟨fp,h,_⟩:=r;exact h.den u
 |bor u=>obtain⟨fp,h,_⟩:=r;exact h.den u
 |tmp=>exact r
def Own.grow(h:Own K H1 F u v d fp)(e:Same H1 H2):Own K H2 F u v d fp:=
 h.frame (B2 e) u λa ha=>by obtain⟨ys,q⟩:=h.lst u a ha;rw[q,e _ _ q]
theorem ResR.up(r:ResR K c H H1 F v d)(e:Same H1 H2):ResR K c H H2 F v d:=by
 cases c with
 |new u=>obtain⟨fp,h,q⟩:=r;exact⟨fp,h.grow e,q⟩
 |bor u=>obtain⟨fp,h,q⟩:=r;exact⟨fp,h.grow e,q⟩
 |tmp=>exact Den.up r e
def ResR.early(r:ResR K c H H1 F v d)(e:Same H0 H):ResR K c H0 H1 F v d:=by
 cases c with
 |new u=>obtain⟨fp,h,n,q⟩:=r;exact⟨fp,h,n,λa ha=>e.free (q a ha)⟩
 |bor u=>exact r
 |tmp=>exact r
def E9(hi:imm d=p4)(hd:Den K H' v d)(hF:∀a∈F,∃ys:MuO,H' a=cz ys.1):ResR K (.new .i) H H' F v d:=by
 refine⟨[],?_,bu,λa ha=>(nomatch ha)⟩;simp only[Own,b_];exact⟨trivial,hi,hd.imm_out hF d hi⟩
def V1(h:Own K H F .i v d fp):fp=[]/\imm d=p4/\Den K (cut H F) v d:=by simpa only [Own]using h
def a8V(h:Own K H F .f v d fp):fp=[]/\Den K (cut H F) v d:=by simpa only [Own]using h
end
abbrev EvE:=List D->Option D
abbrev EvT:=List D->Option Bool
noncomputable def spE(K:af)(M:List Md)(f:EvE)(c:Cat):TE:=λY H Q=>∃(U:List D) (P:Hp) (F:List aw) (d:D),StE K M U Y H P F/\f U=cz d/\∀v H',Same H H'->ResR K c H H' F v d->Q v H'
noncomputable def PX(X:Cx)(M:List Md)(e:Expr)(f:EvE)(c:Cat):Prop:=PE X e (spE X.K M f c)
def PX.out{X:Cx}{M:List Md}{e:Expr}{f:EvE}{c:Cat}(h:PX X M e f c) :
  ∃t,PE X e t/\∀(U:List D) (Y:L2.St) (H P:Hp) (F:List aw) (d:D) (Q:VK),StE X.K M U Y H P F->f U=cz d->(∀v H',Same H H'->ResR X.K c H H' F v d->Q v H')->t Y H Q:=
 ⟨_,h,λU _ _ P F d _ S hf q=>⟨U,P,F,d,S,hf,q⟩⟩
def PX.mk{X:Cx}{M:List Md}{e:Expr}{f:EvE}{c:Cat}
  (h:∃t,PE X e t/\∀(U:List D) (Y:L2.St) (H P:Hp) (F:List aw) (d:D) (Q:VK),StE X.K M U Y H P F->f U=cz d->(∀v H',Same H H'->ResR X.K c H H' F v d->Q v H')->t Y H Q):PX X M e f c:=by
 obtain⟨t,p,q⟩:=h;exact λpins s Y H Q I ⟨U,P,F,d,S,hf,z⟩=>p pins s Y H Q I (q U Y H P F d Q S hf z)
noncomputable def spT(K:af)(M:List Md)(g:EvT):TT:=λY H Q=>∃(U:List D) (P:Hp) (F:List aw) (b:Bool),StE K M U Y H P F/\g U=cz b/\∀H',Same H H'->Q b H'
noncomputable def PTX(X:Cx)(M:List Md)(e:Expr)(g:EvT):Prop:=PT X e (spT X.K M g)
def PTX.out{X:Cx}{M:List Md}{e:Expr}{g:EvT}(h:PTX X M e g) :
  ∃t,PT X e t/\∀(U:List D) (Y:L2.St) (H P:Hp) (F:List aw) (b:Bool) (Q:Bool->Hp->Prop),StE X.K M U Y H P F->g U=cz b->(∀H',Same H H'->Q b H')->t Y H Q:=
 ⟨_,h,λU _ _ P F b _ S hf q=>⟨U,P,F,b,S,hf,q⟩⟩
def PTX.mk{X:Cx}{M:List Md}{e:Expr}{g:EvT}
  (h:∃t,PT X e t/\∀(U:List D) (Y:L2.St) (H P:Hp) (F:List aw) (b:Bool) (Q:Bool->Hp->Prop),StE X.K M U Y H P F->g U=cz b->(∀H',Same H H'->Q b H')->t Y H Q):PTX X M e g:=by
 obtain⟨t,p,q⟩:=h;exact λpins s Y H Q I ⟨U,P,F,d,S,hf,z⟩=>p pins s Y H Q I (q U Y H P F d Q S hf z)
noncomputable def PWX(X:Cx)(M:List Md)(e:Expr)(g:EvT):Prop:=PW X e (spT X.K M g)
def PWX.out{X:Cx}{M:List Md}{e:Expr}{g:EvT}(h:PWX X M e g) :
  ∃t,PW X e t/\∀(U:List D) (Y:L2.St) (H P:Hp) (F:List aw) (b:Bool) (Q:Bool->Hp->Prop),StE X.K M U Y H P F->g U=cz b->(∀H',Same H H'->Q b H')->t Y H Q:=
 ⟨_,h,λU _ _ P F b _ S hf q=>⟨U,P,F,b,S,hf,q⟩⟩
def PWX.mk{X:Cx}{M:List Md}{e:Expr}{g:EvT}
  (h:∃t,PW X e t/\∀(U:List D) (Y:L2.St) (H P:Hp) (F:List aw) (b:Bool) (Q:Bool->Hp->Prop),StE X.K M U Y H P F->g U=cz b->(∀H',Same H H'->Q b H')->t Y H Q):PWX X M e g:=by
 obtain⟨t,p,q⟩:=h;exact λwhole pins s Y H Q I ⟨U,P,F,d,S,hf,z⟩=>p whole pins s Y H Q I (q U Y H P F d Q S hf z)
abbrev EvA:=List D->Option (List D)
noncomputable def PAX(X:Cx)(M:List Md)(es:List Expr)(f:EvA):Prop:=
 ∃t,PA X es t/\∀(U:List D) (Y:L2.St) (H P:Hp) (F:List aw) (ds:List D) (Q:List V->Hp->Prop),StE X.K M U Y H P F->f U=cz ds->(∀vs H',Same H H'->DenAll X.K H' vs ds->Q vs H')->t Y H Q
noncomputable def PAN(X:Cx)(M:List Md)(es:List Expr)(f:EvA)(us:List Ty):Prop:=
 ∃t,PA X es t/\∀(U:List D) (Y:L2.St) (H P:Hp) (F:List aw) (ds:List D) (Q:List V->Hp->Prop),StE X.K M U Y H P F->f U=cz ds->
  (∀vs H' fp,Same H H'->OwnTs X.K H' (fp++F) us vs ds fp->fp.Nodup->(∀a∈fp,H a=el)->Q vs H')->t Y H Q
noncomputable def b7(i:Nat):EvE:=λU=>cz (U.getD i .none)
noncomputable def eC(d:D):EvE:=λ_=>cz d
noncomputable def e1(g:D->Option D)(a:EvE):EvE:=λU=>(a U).bind g
noncomputable def e2(g:D->D->Option D)(a b:EvE):EvE:=λU=>(a U).bind λx=>(b U).bind λy=>g x y
def asB:D->Option Bool
 |.bool b=>cz b
 |_=>el
noncomputable def a3Q(a b:EvE):EvE:=λU=>(a U).bind λx=>(asB x).bind λk=>if k then b U else cz (.bool rp)
noncomputable def eOr(a b:EvE):EvE:=λU=>(a U).bind λx=>(asB x).bind λk=>if k then cz (.bool p4) else b U
noncomputable def b1V(a:EvE):EvE:=λU=>(a U).bind λx=>(asB x).bind λk=>cz (.bool !k)
noncomputable def eIf(c:EvT)(a b:EvE):EvE:=λU=>(c U).bind λk=>if k then a U else b U
noncomputable def eCh(g g':D->D->Option D)(a b c:EvE):EvE:=λU=>(a U).bind λx=>(b U).bind λy=>(g x y).bind λz=>(asB z).bind λk=>if k then (c U).bind λw=>g' y w else cz (.bool rp)
def tr:D->Option Bool
 |.none=>cz rp
 |.bool b=>cz b
 |.int i=>cz (i !=0)
 |.str x=>if x.length<=aV then cz ((x.length:Int)!=0) else el
 |.list ds=>cz !ds.isEmpty
 |.tuple ds=>cz !ds.isEmpty
 |.dict _=>el
noncomputable def tV(a:EvE):EvT:=λU=>(a U).bind tr
noncomputable def tB(a:EvE):EvT:=λU=>(a U).bind asB
noncomputable def tNo(a:EvT):EvT:=λU=>(a U).bind λk=>cz !k
noncomputable def tAn(a b:EvT):EvT:=λU=>(a U).bind λk=>if k then b U else cz rp
noncomputable def a0m(a b:EvT):EvT:=λU=>(a U).bind λk=>if k then cz p4 else b U
def g8:List D->Option (List D):=λ_=>cz []
noncomputable def b8(a:EvE)(r:List D->Option (List D)):List D->Option (List D):=λU=>(a U).bind λx=>(r U).bind λxs=>cz (x::xs)
def G5(h:asB d=cz k):d=.bool k:=by
 cases d with
 |bool b=>cases h;rfl
 |_=>cases h
def bnd{α β:Type}{o:Option α}{f:α->Option β}{b:β}(h:o.bind f=cz b):∃a,o=cz a/\f a=cz b:=sZ.mp h
section
variable {X:Cx}{M:List Md}{a b e e':Expr}{es rest:List Expr}{f g fa fb fc:EvE}{ga gb:EvT}{c ca cb cc:Cat}{u:Ty}{us:List Ty}{pos:eS}
def PX.imp(h:PX X M e f c)(k:∀(K:af) (H H':Hp) (F:List aw) (v:V) (d:D),(∀a∈F,∃ys:MuO,H a=cz ys.1)->Same H H'->ResR K c H H' F v d->ResR K c' H H' F v d):PX X M e f c':=by
 obtain⟨t,p,q⟩:=h.out;exact .mk ⟨t,p,λU Y H P F d Q S hf z=>q U Y H P F d Q S hf λv H' e r=>z v H' e (k _ _ _ _ _ _ S.lst e r)⟩
def PX.newf(h:PX X M e f (.bor .f)):PX X M e f (.new .f):=h.imp λK H H' F v d _ _ ⟨fp,o,_⟩=>by
 obtain⟨rfl,_⟩:=a8V o;exact⟨[],o,bu,λa ha=>(nomatch ha)⟩
def PX.newi(h:PX X M e f (.bor .i)):PX X M e f (.new .i):=h.imp λK H H' F v d _ _ ⟨fp,o,_⟩=>by
 obtain⟨rfl,_⟩:=V1 o;exact⟨[],o,bu,λa ha=>(nomatch ha)⟩
def PX.itof(h:PX X M e f (.new .i)):PX X M e f (.new .f):=h.imp λK H H' F v d _ _ ⟨fp,o,n,z⟩=>by
 obtain⟨rfl,_,q⟩:=V1 o;refine⟨[],?_,n,z⟩;simp only[Own];exact⟨trivial,q⟩
def PX.itol(h:PX X M e f (.new .i)):PX X M e f (.new (.l u)):=h.imp λK H H' F v d _ _ ⟨fp,o,n,z⟩=>by
 obtain⟨rfl,w,q⟩:=V1 o;refine⟨[],?_,n,z⟩;simp only[Own];exact .inl ⟨trivial,w,q⟩
def PX.frz(h:PX X M e f (.new u)):PX X M e f (.new .f):=h.imp λK H H' F v d hF _ ⟨fp,o,n,z⟩=>by
 refine⟨[],o.freeze (λa ha=>ay _ (by simpa using ha)) (λa ha FD=>?_),bu,λa ha=>(nomatch ha)⟩;obtain⟨ys,q⟩:=hF a (by simpa using FD);rw[z a ha]at q;cases q
def T6(i:Nat)(hN:X.N[i]?=cz x:=by rfl)(hv:Vis X.env.scope x:=by first|exact bR rfl|exact bT (bR rfl)|exact bT (bT rfl))(hd:(x==("__debug__":bC))=rp:=by decide)
  (iG:(x==("__classdict__":bC))=rp:=by decide) (hm:M[i]?=cz (.own u):=by rfl):PX X M (.Name x pos) (b7 i) (.bor u):=by
 refine .mk ⟨_,C7 hN hv hd iG,λU Y H P F d Q S hf q=>?_⟩;cases hf
 obtain⟨v,fp,e,o,sub⟩:=S.get hm;exact⟨v,e,q v H (Same.refl _) ⟨fp,o,sub⟩⟩
def a0I(h:PE X e (tC v))(hi:imm d=p4)(hd:∀H,Den X.K H v d):PX X M e (eC d) (.new .i):=by
 refine .mk ⟨_,h,λU Y H P F d' Q S hf q=>?_⟩;cases hf
 exact q v H (Same.refl _) (E9 hi (hd H) S.lst)
def c8{i j}:PX X M (.Constant (.int i) j pos) (eC (.int i)) (.new .i):=a0I b6M (by simp only[imm]) λ_=>den_int
def Z6{k j}:PX X M (.Constant (.bool k) j pos) (eC (.bool k)) (.new .i):=a0I b9d (by simp only[imm]) λ_=>den_bool
def B3{j}:PX X M (.Constant .none j pos) (eC .none) (.new .i):=a0I b6N (by simp only[imm]) λ_=>den_none
def b4K(hm:∃t,X.mg x=cz (.int i t))(hg:Gl X x:=by rfl)(hd:(x==("__debug__":bC))=rp:=by decide):PX X M (.Name x pos) (eC (.int i)) (.new .i):=by
 obtain⟨t,hm⟩:=hm;exact a0I (b4j (v:=.int i) hg hm ⟨_,rfl⟩ hd) (by simp only[imm]) λ_=>den_int
def z7{g:D->D->Option D}{U:List D}{d:D}(h:e2 g fa fb U=cz d):∃x y,fa U=cz x/\fb U=cz y/\g x y=cz d:=by
 obtain⟨x,h1,h⟩:=bnd h;obtain⟨y,h2,h⟩:=bnd h;exact⟨x,y,h1,h2,h⟩
def j6{g:D->D->Option D}(ho:OpS X (eO op) g)(ha:PX X M a fa ca)(hb:PX X M b fb cb):PX X M (.BinOp a op b pos) (e2 g fa fb) (.new .i):=by
 obtain⟨r,hr,hs⟩:=ho;obtain⟨ta,pa,qa⟩:=ha.out;obtain⟨tb,pb,qb⟩:=hb.out;refine .mk ⟨_,b1B hr pa pb,λU Y H P F d Q S hf q=>?_⟩;obtain⟨x,y,h1,h2,h3⟩:=z7 hf;exact qa U Y H P F x _ S h1 λv H1 e1 r1=>qb U Y H1 P F y _ (S.grow e1) h2 λw H2 e2 r2=>hs v w H2 x y d Q (r1.den.up e2) r2.den h3 λz hi hd=>q z H2 (e1.trans e2) (E9 hi (hd H2) (S.lst' (e1.trans e2)))
def a5n{g:D->D->Option D}(ho:OpS X (bJ op) g)(ha:PX X M a fa ca)(hb:PX X M b fb cb)(hm:eK op b=rp:=by first|exact a0j _|with_unfolding_all rfl):PX X M (.Compare a [op] [b] pos) (e2 g fa fb) (.new .i):=by
 obtain⟨r,hr,hs⟩:=ho;obtain⟨ta,pa,qa⟩:=ha.out;obtain⟨tb,pb,qb⟩:=hb.out;refine .mk ⟨_,a8S hr pa pb hm,λU Y H P F d Q S hf q=>?_⟩;obtain⟨x,y,h1,h2,h3⟩:=z7 hf;exact qa U Y H P F x _ S h1 λv H1 e1 r1=>qb U Y H1 P F y _ (S.grow e1) h2 λw H2 e2 r2=>hs v w H2 x y d Q (r1.den.up e2) r2.den h3 λz hi hd=>q z H2 (e1.trans e2) (E9 hi (hd H2) (S.lst' (e1.trans e2)))
def m3{op:CmpOp}{g:D->D->Option D}(ho:OpS X (bJ op) g)(ha:PX X M a fa ca)(hb:PX X M b fb cb)(hm:eK op b=rp:=by first|exact a0j _|with_unfolding_all rfl):PTX X M (.Compare a [op] [b] pos) (tB (e2 g fa fb)):=by
 obtain⟨r,hr,hs⟩:=ho;obtain⟨ta,pa,qa⟩:=ha.out;obtain⟨tb,pb,qb⟩:=hb.out;refine .mk ⟨_,a0B hr pa pb hm,λU Y H P F k Q S hf q=>?_⟩;obtain⟨d,hf,hk⟩:=bnd hf;cases G5 hk
 obtain⟨x,y,h1,h2,h3⟩:=z7 hf;exact qa U Y H P F x _ S h1 λv H1 e1 r1=>qb U Y H1 P F y _ (S.grow e1) h2 λw H2 e2 r2=>hs v w H2 x y _ _ (r1.den.up e2) r2.den h3 λz hi hd=>⟨k,(hd H2).bool_inv,q H2 (e1.trans e2)⟩
def a6c{op oU:CmpOp}{g g':D->D->Option D}{c0:Expr}(ho:OpS X (bJ op) g)(nq:OpS X (bJ oU) g')(ha:PX X M a fa ca)(hb:PX X M b fb cb)(hc:PX X M c0 fc cc)(hm:AU [op,oU] [b,c0]=rp:=by with_unfolding_all rfl) :
  PX X M (.Compare a [op,oU] [b,c0] pos) (eCh g g' fa fb fc) (.new .i):=by
 obtain⟨r,hr,hs⟩:=ho;obtain⟨r',vS,qZ⟩:=nq;obtain⟨ta,pa,qa⟩:=ha.out;obtain⟨tb,pb,qb⟩:=hb.out;obtain⟨tc,pc,qc⟩:=hc.out;refine .mk ⟨_,b1F hr vS pa pb pc hm,λU Y H P F d Q S hf q=>?_⟩;obtain⟨x,h1,hf⟩:=bnd hf;obtain⟨y,h2,hf⟩:=bnd hf;obtain⟨z,h3,hf⟩:=bnd hf;obtain⟨k,h4,hf⟩:=bnd hf;cases G5 h4
 refine qa U Y H P F x _ S h1 λv H1 e1 r1=>qb U Y H1 P F y _ (S.grow e1) h2 λw H2 e2 r2=>hs v w H2 x y _ _ (r1.den.up e2) r2.den h3 λz hi hd=>⟨k,(hd H2).bool_inv,?_⟩
 cases k with
 |false=>
  have lh:d=.bool rp:=(aK hf).symm;subst lh;exact a5e (q _ H2 (e1.trans e2) (E9 (by simp only[imm]) den_bool (S.lst' (e1.trans e2))))
 |true=>
  obtain⟨w',h5,hf⟩:=bnd (show (fc U).bind (λw=>g' y w)=cz d from hf);exact a5f (qc U Y H2 P F w' _ (S.grow (e1.trans e2)) h5 λw3 H3 e3 r3=>qZ w w3 H3 y w' d Q (r2.den.up e3) r3.den hf λz hi hd=>q z H3 ((e1.trans e2).trans e3) (E9 hi (hd H3) (S.lst' ((e1.trans e2).trans e3))))
def a9Z{op oU:CmpOp}{g g':D->D->Option D}{c0:Expr}(ho:OpS X (bJ op) g)(nq:OpS X (bJ oU) g')(ha:PX X M a fa ca)(hb:PX X M b fb cb)(hc:PX X M c0 fc cc)(hm:AU [op,oU] [b,c0]=rp:=by with_unfolding_all rfl) :
  PTX X M (.Compare a [op,oU] [b,c0] pos) (tB (eCh g g' fa fb fc)):=by
 obtain⟨r,hr,hs⟩:=ho;obtain⟨r',vS,qZ⟩:=nq;obtain⟨ta,pa,qa⟩:=ha.out;obtain⟨tb,pb,qb⟩:=hb.out;obtain⟨tc,pc,qc⟩:=hc.out;refine .mk ⟨_,b1G hr vS pa pb pc hm,λU Y H P F k0 Q S hf q=>?_⟩;obtain⟨d,hf,hk⟩:=bnd hf;cases G5 hk
 obtain⟨x,h1,hf⟩:=bnd hf;obtain⟨y,h2,hf⟩:=bnd hf;obtain⟨z,h3,hf⟩:=bnd hf;obtain⟨k,h4,hf⟩:=bnd hf;cases G5 h4
 refine qa U Y H P F x _ S h1 λv H1 e1 r1=>qb U Y H1 P F y _ (S.grow e1) h2 λw H2 e2 r2=>hs v w H2 x y _ _ (r1.den.up e2) r2.den h3 λz hi hd=>⟨k,(hd H2).bool_inv,?_⟩
 cases k with
 |false=>
  have lh:k0=rp:=by injection (aK hf).symm
  subst lh;exact a5e ⟨rp,rfl,q H2 (e1.trans e2)⟩
 |true=>
  obtain⟨w',h5,hf⟩:=bnd (show (fc U).bind (λw=>g' y w)=cz (.bool k0) from hf);exact a5f (qc U Y H2 P F w' _ (S.grow (e1.trans e2)) h5 λw3 H3 e3 r3=>qZ w w3 H3 y w' _ _ (r2.den.up e3) r3.den hf λz hi hd=>⟨k0,(hd H3).bool_inv,q H3 ((e1.trans e2).trans e3)⟩)
def a1u(h:PX X M a f c):PX X M (.BoolOp op [a] pos) f c:=by
 obtain⟨t,p,q⟩:=h.out;exact .mk ⟨t,b6R p,q⟩
def a0n(ha:PX X M a fa ca)(hb:PX X M (.BoolOp .And (b::rest) pos) fb (.new .i)):PX X M (.BoolOp .And (a::b::rest) pos) (a3Q fa fb) (.new .i):=by
 obtain⟨ta,pa,qa⟩:=ha.out;obtain⟨tb,pb,qb⟩:=hb.out;refine .mk ⟨_,b6S pa pb,λU Y H P F d Q S hf q=>?_⟩;obtain⟨x,h1,hf⟩:=bnd hf;obtain⟨k,h2,hf⟩:=bnd hf;cases G5 h2
 refine qa U Y H P F _ _ S h1 λv H1 e1 r1=>⟨k,r1.den.bool_inv,?_⟩
 cases k with
 |false=>
  have lh:d=.bool rp:=(aK hf).symm;subst lh;exact a5e (q _ H1 e1 (E9 (by simp only[imm]) den_bool (S.lst' e1)))
 |true=>exact a5f (qb U Y H1 P F d Q (S.grow e1) hf λw H2 e2 r2=>q w H2 (e1.trans e2) (r2.early e1))
def b1W(ha:PX X M a fa ca):PX X M (.UnaryOp .Not a pos) (b1V fa) (.new .i):=by
 obtain⟨ta,pa,qa⟩:=ha.out;refine .mk ⟨_,b6T pa,λU Y H P F d Q S hf q=>?_⟩;obtain⟨x,h1,hf⟩:=bnd hf;obtain⟨k,h2,hf⟩:=bnd hf;cases G5 h2
 cases hf
 exact qa U Y H P F _ _ S h1 λv H1 e1 r1=>⟨k,r1.den.bool_inv,q _ H1 e1 (E9 (by simp only[imm]) den_bool (S.lst' e1))⟩
def b7u(h:Den K H v d)(ht:tr d=cz k):b7l K v H k:=by
 cases d with
 |none=>cases h.none_inv;cases ht;exact rfl
 |bool b=>cases h.bool_inv;cases ht;exact rfl
 |int i=>cases h.int_inv;cases ht;exact rfl
 |str x=>
  cases h.str_inv
  replace ht:(if x.length<=aV then cz ((x.length:Int)!=0) else el)=cz k:=ht
  by_cases z:x.length<=aV
  ·rw[aG z]at ht;cases ht
   exact⟨z,rfl⟩
  ·rw[aL z]at ht;cases ht
 |list ds=>
  obtain⟨a,xs,rfl,h1,h2⟩:=h.list_inv;cases ht
  refine .inl ⟨xs,h1.l,?_⟩;have:=h2.length;cases xs<;>cases ds<;>simp_all
 |tuple ds=>
  obtain⟨a,xs,rfl,h1,h2⟩:=h.tup_inv;cases ht
  refine .inr (.inl ⟨xs,h1,?_⟩);have:=h2.length;cases xs<;>cases ds<;>simp_all
 |dict kvs=>cases ht
def z8(ha:PX X M a fa ca)(he:∀whole,rJ a X.env whole=(do let v <-whole;standAt a.pos;nU [v] (vk v)):=by intro _;rfl):PTX X M a (tV fa):=by
 obtain⟨ta,pa,qa⟩:=ha.out;refine .mk ⟨_,b1H pa he,λU Y H P F k Q S hf q=>?_⟩;obtain⟨x,h1,hf⟩:=bnd hf;exact qa U Y H P F _ _ S h1 λv H1 e1 r1=>⟨k,b7u r1.den hf,q H1 e1⟩
def C2(h:PTX X M a ga):PTX X M (.UnaryOp .Not a pos) (tNo ga):=by
 obtain⟨ta,pa,qa⟩:=h.out;refine .mk ⟨_,b6Q pa,λU Y H P F k Q S hf q=>?_⟩;obtain⟨x,h1,hf⟩:=bnd hf;cases hf
 exact qa U Y H P F _ _ S h1 λH1 e1=>q H1 e1
theorem PWX.pt(h:PWX X M e ga):PTX X M e ga:=by
 obtain⟨t,p,q⟩:=h.out;exact .mk ⟨t,p.pt,q⟩
def a0J(h:PTX X M a ga):PWX X M (.BoolOp .And [a] pos) ga:=by
 obtain⟨t,p,q⟩:=h.out;exact .mk ⟨t,b4l p,q⟩
def a0K(h:PTX X M a ga):PWX X M (.BoolOp .Or [a] pos) ga:=by
 obtain⟨t,p,q⟩:=h.out;exact .mk ⟨t,b6O p,q⟩
def a2p(ha:PTX X M a ga)(hb:PWX X M (.BoolOp .And (b::rest) pos) gb):PWX X M (.BoolOp .And (a::b::rest) pos) (tAn ga gb):=by
 obtain⟨ta,pa,qa⟩:=ha.out;obtain⟨tb,pb,qb⟩:=hb.out;refine .mk ⟨_,b6P pa pb,λU Y H P F k Q S hf q=>?_⟩;obtain⟨x,h1,hf⟩:=bnd hf;refine qa U Y H P F _ _ S h1 λH1 e1=>?_
 cases x with
 |false=>cases hf;exact a5e (q H1 e1)
 |true=>exact a5f (qb U Y H1 P F k Q (S.grow e1) hf λH2 e2=>q H2 (e1.trans e2))
def W4(ha:PTX X M a ga)(hb:PWX X M (.BoolOp .Or (b::rest) pos) gb):PWX X M (.BoolOp .Or (a::b::rest) pos) (a0m ga gb):=by
 obtain⟨ta,pa,qa⟩:=ha.out;obtain⟨tb,pb,qb⟩:=hb.out;refine .mk ⟨_,b9e pa pb,λU Y H P F k Q S hf q=>?_⟩;obtain⟨x,h1,hf⟩:=bnd hf;refine qa U Y H P F _ _ S h1 λH1 e1=>?_
 cases x with
 |true=>cases hf;exact a5f (q H1 e1)
 |false=>exact a5e (qb U Y H1 P F k Q (S.grow e1) hf λH2 e2=>q H2 (e1.trans e2))
def b1X{c0:Expr}(hc:PTX X M c0 ga)(ha:PX X M a fa c)(hb:PX X M b fb c):PX X M (.IfExp c0 a b pos) (eIf ga fa fb) c:=by
 obtain⟨tc,pc,qc⟩:=hc.out;obtain⟨ta,pa,qa⟩:=ha.out;obtain⟨tb,pb,qb⟩:=hb.out;refine .mk ⟨_,b1u pc pa pb,λU Y H P F d Q S hf q=>?_⟩;obtain⟨k,h1,hf⟩:=bnd hf;refine qc U Y H P F _ _ S h1 λH1 e1=>?_
 cases k with
 |true=>exact a5f (qa U Y H1 P F d Q (S.grow e1) hf λv H2 e2 r2=>q v H2 (e1.trans e2) (r2.early e1))
 |false=>exact a5e (qb U Y H1 P F d Q (S.grow e1) hf λv H2 e2 r2=>q v H2 (e1.trans e2) (r2.early e1))
def k8:PAX X M [] g8:=⟨_,u7,λU Y H P F ds Q S hf q=>by cases hf;exact q [] H (Same.refl _) denAll_nil⟩
def f6{fr:List D->Option (List D)}(ha:PX X M a fa ca)(hr:PAX X M es fr)(hs:ax (a::es) X.env=(rp,cn a X.env)::ax es X.env:=by rfl):PAX X M (a::es) (b8 fa fr):=by
 obtain⟨ta,pa,qa⟩:=ha.out;obtain⟨tr,pr,qr⟩:=hr;refine⟨_,m7 pa pr hs,λU Y H P F ds Q S hf q=>?_⟩;obtain⟨x,h1,hf⟩:=bnd hf;obtain⟨xs,h2,hf⟩:=bnd hf;cases hf
 exact qa U Y H P F _ _ S h1 λv H1 e1 r1=>qr U Y H1 P F _ _ (S.grow e1) h2 λvs H2 e2 r2=>q (v::vs) H2 (e1.trans e2) (denAll_cons (r1.den.up e2) r2)
def o5:PAN X M [] g8 []:=⟨_,u7,λU Y H P F ds Q S hf q=>by
 cases hf
 refine q [] H [] (Same.refl _) ?_ bu λa ha=>(nomatch ha)
 simp only[OwnTs];exact⟨trivial,trivial,trivial⟩⟩
def o6{fr:List D->Option (List D)}(ha:PX X M a fa (.new u))(hr:PAN X M es fr us)(hs:ax (a::es) X.env=(rp,cn a X.env)::ax es X.env:=by rfl):PAN X M (a::es) (b8 fa fr) (u::us):=by
 obtain⟨ta,pa,qa⟩:=ha.out;obtain⟨tr,pr,qr⟩:=hr;refine⟨_,m7 pa pr hs,λU Y H P F ds Q S hf q=>?_⟩;obtain⟨x,h1,hf⟩:=bnd hf;obtain⟨xs,h2,hf⟩:=bnd hf;cases hf
 refine qa U Y H P F _ _ S h1 λv H1 e1 ⟨fp,o,n,fr⟩=>qr U Y H1 P (fp++F) _ _ (S.more e1 fr (o.lst u)) h2 λvs H2 gp e2 o2 n2 sU=>?_
 have hl:=o.lst u;have hc:Same (cut H1 (fp++F)) (cut H2 (fp++gp++F)):=K3 e2 λa o' ha jL=>by
  rw[bx]at jL;rcases aB.mp jL with z|z
  ·exact aJ _ z
  ·rcases aB.mp z with z|z
   ·rw[sU a z]at ha;cases ha
   ·exact ay _ z
 have hd:∀a∈gp,a∉fp:=λa ha z=>by
  obtain⟨ys,q⟩:=hl a z;rw[sU a ha]at q;cases q
 refine q (v::vs) H2 (fp++gp) (e1.trans e2) ?_ ?_ λa ha=>?_
 ·simp only[OwnTs];refine⟨v,vs,x,xs,fp,gp,rfl,rfl,rfl,o.frame hc u λa ha=>?_,o2.frame (H:=H2) (C9 λa ha=>?_) us λ_ _=>rfl⟩
  ·obtain⟨ys,q⟩:=hl a ha;rw[q,e2 _ _ q]
  ·simp only[aB]at ha ⊢;rcases ha with (z|z)|z
   ·exact .inr (.inl z)
   ·exact .inl z
   ·exact .inr (.inr z)
 ·rw[bb];exact⟨n,n2,λa ha b hb e=>hd b hb (e▸ha)⟩
 ·rcases aB.mp ha with z|z
  ·exact fr a z
  ·exact e1.free (sU a z)
end
section
variable {K:af}{H H0 H1:Hp}{F fp:List aw}{vs:List V}{ds:List D}{p:aw}{u:Ty}{us:List Ty}
def b4L(hp:H p=el):Same (cut H (fp++F)) (cut (upd H p o) (p::fp++F)):=K3 (l9 hp o) λa u ha jL=>by
 rw[bp]at jL;rcases az.mp jL with z|z
 ·subst z;rw[hp]at ha;cases ha
 ·exact z
theorem a4k:∀{n:Nat} {vs:List V} {ds:List D} {fp:List aw},OwnTs K H F (aR n u) vs ds fp->ListAll (Own K H F u) vs ds fp
 |0,_,_,_,h=>by
  simp only[gR,OwnTs]at h;obtain⟨rfl,rfl,rfl⟩:=h;exact n5
 |n+1,_,_,_,h=>by
  simp only[jq,OwnTs]at h;obtain⟨v,r,d,e,f,g,rfl,rfl,rfl,h1,h2⟩:=h;exact m4 h1 (a4k h2)
theorem OwnTs.len:∀{us:List Ty} {vs:List V} {ds:List D} {fp:List aw},OwnTs K H F us vs ds fp->vs.length=us.length/\ds.length=us.length
 |[],_,_,_,h=>by simp only[OwnTs]at h;obtain⟨rfl,rfl,_⟩:=h;exact⟨rfl,rfl⟩
 |u::us,_,_,_,h=>by
  simp only[OwnTs]at h;obtain⟨v,r,d,e,f,g,rfl,rfl,rfl,_,h2⟩:=h;obtain⟨a,b⟩:=OwnTs.len h2;exact⟨by rw[be,be,a],by rw[be,be,b]⟩
def n6(e:Same (cut H F) (cut H1 F'))(h:ListAll (Own K H F u) vs ds fp)(k:∀a∈fp,H1 a=H a):ListAll (Own K H1 F' u) vs ds fp:=
 h.imp λv d f hf _ q=>q.frame e u λa ha=>k a (hf a ha)
def a6d(h:ListAll (Own K H1 (fp++F) u) vs ds fp)(hn:fp.Nodup)(hf:∀a∈fp,H a=el)(e:Same H H1)(hp:H1 p=el)(hl:∀a∈fp,∃ys:MuO,H1 a=cz ys.1):ResR K (.new (.l u)) H (upd H1 p (.lst vs)) F (.ref p) (.list ds):=by
 have Bl:p∉fp:=λz=>by obtain⟨ys,q⟩:=hl p z;rw[hp]at q;cases q
 refine⟨p::fp,?_,bt.mpr ⟨Bl,hn⟩,λa ha=>?_⟩
 ·simp only[Own];refine .inr ⟨p,vs,ds,fp,rfl,i7,rfl,rfl,n6 (b4L hp) h λa ha=>?_⟩;exact f8 λz=>Bl (z▸ha)
 ·rcases az.mp ha with z|z
  ·subst z;exact e.free hp
  ·exact hf a z
theorem ListAll.of_den:∀{vs:List V} {ds:List D},DenAll K H vs ds->(∀v d,d∈ds->Den K H v d->R v d [])->ListAll R vs ds []
 |_,[],h,_=>by rw[h.nil_inv];exact n5
 |_,d::ds,h,k=>by
  obtain⟨v,r,rfl,h1,h2⟩:=h.cons_inv;have:=m4 (f:=[]) (k v d ah h1) (ListAll.of_den h2 λv d hd=>k v d (ai _ hd));exact this
theorem B4:∀{ds:List D} {d:D},g9 ds=p4->d∈ds->imm d=p4
 |[],d,_,h=>nomatch h
 |d0::ds,d,q,h=>by
  simp only[g9,ak]at q;rcases az.mp h with z|z
  ·rw[z];exact q.1
  ·exact B4 q.2 z
def Q8(h:DenAll K H1 vs ds)(hi:g9 ds=p4)(e:Same H H1)(hp:H1 p=el)(hF:∀a∈F,∃ys:MuO,H1 a=cz ys.1):ResR K (.new (.l .i)) H (upd H1 p (.lst vs)) F (.ref p) (.list ds):=
 a6d (fp:=[]) (ListAll.of_den h λv d hd q=>by
  simp only[Own,b_];exact⟨trivial,B4 hi hd,q.imm_out hF d (B4 hi hd)⟩) bu (λa ha=>(nomatch ha)) e hp λa ha=>(nomatch ha)
def a2L(h:DenAll K H1 vs ds)(hp:H1 p=el):Den K (upd H1 p (.tup vs)) (.ref p) (.tuple ds):=den_tup (SqT.of i7) (h.up (l9 hp _))
def b4M(h:g9 ds=p4):imm (.tuple ds)=p4:=by simpa only [imm]using h
end
noncomputable def W5(f:EvA):EvE:=λU=>(f U).bind λds=>cz (.list ds)
noncomputable def K9(f:EvA):EvE:=λU=>(f U).bind λds=>cz (.tuple ds)
def Z3(d:D):Option D:=if imm d then cz d else el
def Q9(h:Z3 d=cz e):e=d/\imm d=p4:=by
 unfold Z3 at h;by_cases c:imm d=p4
 ·rw[aG c]at h;exact⟨(aK h).symm,c⟩
 ·rw[aL c]at h;cases h
def b1Y(d:D):Option D:=match d with
 |.list ds=>if g9 ds then cz d else el
 |_=>el
def a7D(h:b1Y d=cz e):∃ds,d=.list ds/\e=.list ds/\g9 ds=p4:=by
 cases d with
 |list ds=>
  have h':(if g9 ds=p4 then cz (gi ds) else el)=cz e:=h;by_cases c:g9 ds=p4
  ·rw[aG c]at h';exact⟨ds,rfl,(aK h').symm,c⟩
  ·rw[aL c]at h';cases h'
 |_=>cases h
section
variable {X:Cx}{M:List Md}{a b e:Expr}{es:List Expr}{fa fb:EvE}{f:EvA}{c ca cb:Cat}{u:Ty}{us:List Ty}{pos:eS}
def J7(h:PAN X M es f (aR n u))(hn:n<=1000:=by decide):PX X M (.List es pos) (W5 f) (.new (.l u)):=by
 obtain⟨t,p,q⟩:=h;refine .mk ⟨_,b7n p,λU Y H P F d Q S hf k=>?_⟩;obtain⟨ds,h1,hf⟩:=bnd hf;cases hf
 refine q U Y H P F ds _ S h1 λvs H1 fp e o nd fr=>⟨?_,λx hx=>k (.ref x) _ (e.trans (l9 hx _)) (a6d (a4k o) nd fr e hx (o.lst _))⟩
 rw[o.len.1,gd];exact dP (a1q hn)
def a2M(h:PAN X M es f us)(hn:us.length<=1000:=by decide):PX X M (.Tuple es j pos) (K9 f) (.new (.tp us)):=by
 obtain⟨t,p,q⟩:=h;refine .mk ⟨_,b1I p,λU Y H P F d Q S hf k=>?_⟩;obtain⟨ds,h1,hf⟩:=bnd hf;cases hf
 refine q U Y H P F ds _ S h1 λvs H1 fp e o nd fr=>⟨?_,λx hx=>k (.ref x) _ (e.trans (l9 hx _)) ⟨fp,?_,nd,fr⟩⟩
 ·rw[o.len.1];exact dP (a1q hn)
 ·have AY:x∉fp++F:=λz=>by
   rcases aB.mp z with z|z
   ·obtain⟨ys,q⟩:=o.lst _ x z;rw[hx]at q;cases q
   ·obtain⟨ys,q⟩:=S.lst' e x z;rw[hx]at q;cases q
  simp only[Own];refine .inr ⟨x,vs,ds,rfl,i7,AY,rfl,o.frame (B2 (l9 hx _)) us λa ha=>?_⟩;exact f8 λz=>AY (z▸aJ _ ha)
theorem a6e:∀{n:Nat} {vs:List V} {ds:List D} {fp:List aw},OwnTs K H F (aR n .i) vs ds fp->g9 ds=p4
 |0,_,_,_,h=>by
  simp only[gR,OwnTs]at h;obtain⟨rfl,rfl,rfl⟩:=h;simp only[g9]
 |n+1,_,_,_,h=>by
  simp only[jq,OwnTs]at h;obtain⟨v,r,d,e,f,g,rfl,rfl,rfl,h1,h2⟩:=h;simp only[g9,ak];exact⟨(V1 h1).2.1,a6e h2⟩
def Y1{j}(h:PAN X M es f (aR n .i))(hn:n<=1000:=by decide):PX X M (.Tuple es j pos) (K9 f) (.new .i):=by
 obtain⟨t,p,q⟩:=h;refine .mk ⟨_,b1I p,λU Y H P F d Q S hf k=>?_⟩;obtain⟨ds,h1,hf⟩:=bnd hf;cases hf
 refine q U Y H P F ds _ S h1 λvs H1 fp e o nd fr=>⟨?_,λx hx=>k (.ref x) _ (e.trans (l9 hx _)) (E9 (b4M (a6e o)) (a2L (o.den _) hx) (S.lst' (e.trans (l9 hx _))))⟩
 rw[o.len.1,gd];exact dP (a1q hn)
def b0a(hr:∀U ds,r U=cz ds->ds.length=n)(h:b8 fa r U=cz ds):ds.length=n+1:=by
 obtain⟨x,_,h⟩:=bnd h;obtain⟨xs,h2,h⟩:=bnd h;cases h
 rw[be,hr U xs h2]
def dIx:D->D->Option D
 |.list ds,.int k=>atI ds k
 |.tuple ds,.int k=>atI ds k
 |_,_=>el
def N2:D->D->Option D
 |.list ds,.int k=>atI ds k
 |_,_=>el
def J8(a b:D):Option D:=(dIx a b).bind Z3
theorem DenAll.atI(h:DenAll K H vs ds)(e:L2.atI ds k=cz d):∃v j,L2.atI vs k=cz v/\ixN ds.length k=cz j/\vs[j]?=cz v/\ds[j]?=cz d/\Den K H v d:=by
 unfold L2.atI at e ⊢;obtain⟨j,e1,e2⟩:=bnd e;obtain⟨v,h1,h2⟩:=h.get e2;exact⟨v,j,by rw[h.length,e1];exact h1,e1,h1,e2,h2⟩
def b9w(K:af):R2:=λx y H Q=>b9r K x y H Q\/b9s K x y H Q
def a7E:IxR X (b9w X.K):=b4z.or b7p
def a8W(h:dIx x y=cz d):∃ds k,(x=.list ds\/x=.tuple ds)/\y=.int k/\L2.atI ds k=cz d:=by
 cases x with
 |list ds=>cases y with
  |int k=>exact⟨ds,k,.inl rfl,rfl,h⟩
  |_=>cases h
 |tuple ds=>cases y with
  |int k=>exact⟨ds,k,.inr rfl,rfl,h⟩
  |_=>cases h
 |_=>cases h
def b9x(hx:Den K H v x)(hy:Den K H w y)(h:dIx x y=cz d)(q:∀z,Den K H z d->Q z H):b9w K v w H Q:=by
 obtain⟨ds,k,e,rfl,h⟩:=a8W h;cases hy.int_inv
 rcases e with rfl|rfl
 ·obtain⟨a,xs,rfl,h1,h2⟩:=hx.list_inv;obtain⟨z,j,z1,z2,z3,z4,z5⟩:=h2.atI h;exact .inl ⟨a,xs,k,z,rfl,rfl,h1.l,z1,q z z5⟩
 ·obtain⟨a,xs,rfl,h1,h2⟩:=hx.tup_inv;obtain⟨z,j,z1,z2,z3,z4,z5⟩:=h2.atI h;exact .inr ⟨a,xs,k,z,rfl,rfl,h1,z1,q z z5⟩
def E5(ha:PX X M a fa ca)(hb:PX X M b fb cb)(hs:a2o b:=by exact λ_ _=>rfl):PX X M (.Subscript a b pos) (e2 J8 fa fb) (.new .i):=by
 obtain⟨ta,pa,qa⟩:=ha.out;obtain⟨tb,pb,qb⟩:=hb.out;refine .mk ⟨_,b1K a7E pa pb hs,λU Y H P F d Q S hf q=>?_⟩;obtain⟨x,y,h1,h2,h3⟩:=z7 hf;obtain⟨d',h3,h4⟩:=bnd h3;obtain⟨rfl,hi⟩:=Q9 h4;exact qa U Y H P F x _ S h1 λv H1 e1 r1=>qb U Y H1 P F y _ (S.grow e1) h2 λw H2 e2 r2=>b9x (r1.den.up e2) r2.den h3 λz hz=>q z H2 (e1.trans e2) (E9 hi hz (S.lst' (e1.trans e2)))
def A6(ha:PX X M a fa (.new .f))(hb:PX X M b fb cb)(hs:a2o b:=by exact λ_ _=>rfl):PX X M (.Subscript a b pos) (e2 dIx fa fb) (.new .f):=by
 obtain⟨ta,pa,qa⟩:=ha.out;obtain⟨tb,pb,qb⟩:=hb.out;refine .mk ⟨_,b1K a7E pa pb hs,λU Y H P F d Q S hf q=>?_⟩;obtain⟨x,y,h1,h2,h3⟩:=z7 hf;refine qa U Y H P F x _ S h1 λv H1 e1 ⟨fp,o,_,_⟩=>qb U Y H1 P F y _ (S.grow e1) h2 λw H2 e2 r2=>?_
 obtain⟨rfl,o⟩:=a8V o;have o2:Den X.K (cut H2 F) v x:=o.up (B2 e2);obtain⟨ds,k,e,rfl,h⟩:=a8W h3;have fin:∀z,Den X.K (cut H2 F) z d->Q z H2:=λz hz=>q z H2 (e1.trans e2) ⟨[],by simp only[Own,b_];exact⟨trivial,hz⟩,bu,λa ha=>(nomatch ha)⟩
 have ey:=r2.den.int_inv;rcases e with rfl|rfl
 ·obtain⟨a,xs,rfl,h1,h2⟩:=o2.list_inv;obtain⟨z,j,z1,z2,z3,z4,z5⟩:=h2.atI h;exact .inl ⟨a,xs,k,z,rfl,ey,(T5 h1 i8).l,z1,fin z z5⟩
 ·obtain⟨a,xs,rfl,h1,h2⟩:=o2.tup_inv;obtain⟨z,j,z1,z2,z3,z4,z5⟩:=h2.atI h;exact .inr ⟨a,xs,k,z,rfl,ey,P7 h1 i8,z1,fin z z5⟩
def N3(ha:PX X M a fa (.bor (.l u)))(hb:PX X M b fb cb)(hs:a2o b:=by exact λ_ _=>rfl):PX X M (.Subscript a b pos) (e2 N2 fa fb) (.bor u):=by
 obtain⟨ta,pa,qa⟩:=ha.out;obtain⟨tb,pb,qb⟩:=hb.out;refine .mk ⟨_,b1K a7E pa pb hs,λU Y H P F d Q S hf q=>?_⟩;obtain⟨x,y,h1,h2,h3⟩:=z7 hf;refine qa U Y H P F x _ S h1 λv H1 e1 ⟨fp,o,sub⟩=>qb U Y H1 P F y _ (S.grow e1) h2 λw H2 e2 r2=>?_
 have o2:=o.grow e2;cases x with
 |list ds=>
  cases y with
  |int k=>
   simp only[Own]at o2;rcases o2 with⟨_,hi,_⟩|⟨p,xs,iy,fs,rfl,p1,p2,rfl,p3⟩
   ·simp only[imm]at hi;cases hi
   ·cases p2
    have pJ:(ixN ds.length k).bind (λj=>ds[j]?)=cz d:=h3;obtain⟨j,j1,j2⟩:=bnd pJ;obtain⟨z,f,pre,post,z1,z2,z3,_,_⟩:=p3.at_ j2;refine .inl ⟨p,xs,k,z,rfl,r2.den.int_inv,.inl (.inl p1),?_,q z H2 (e1.trans e2) ⟨f,z2,λa ha=>sub a ?_⟩⟩
    ·unfold L2.atI;rw[p3.length,j1];exact z1
    ·rw[z3];exact ai _ (ay _ (aJ _ ha))
  |_=>cases h3
 |_=>cases h3
end
noncomputable def eCl(g:List D->Option D)(f:EvA):EvE:=λU=>(f U).bind g
section
variable {X:Cx}{M:List Md}{a b e e0:Expr}{es:List Expr}{fa fb:EvE}{f:EvA}{c ca cb:Cat}{u:Ty}{us:List Ty}{pos p:eS}{x:bC}
def a0o{id:String}{g:List D->Option D}(hc:a4j X (.builtin id) g)(hm:X.mg x=el)(hv:gn x=cz (.builtin id))(h:PAX X M (e0::es) f)(hg:Gl X x:=by rfl)(hn:x≠"__name__":=by decide)(lN:(x==("__debug__":bC))=rp:=by decide)
  (he:ax (e0::es) X.env=(rp,cn e0 X.env)::ax es X.env:=by rfl) (f_:(cx pos (ax es X.env)).any (·.1)=rp:=by rfl):PX X M (.Call (.Name x p) (e0::es) [] pos) (eCl g f) (.new .i):=by
 obtain⟨r,hr,hs⟩:=hc;obtain⟨t,pa,qa⟩:=h;refine .mk ⟨_,V9 hr hg hm hv pa hn lN he f_,λU Y H P F d Q S hf q=>?_⟩;obtain⟨ds,h1,hf⟩:=bnd hf;exact qa U Y H P F ds _ S h1 λvs H1 e1 r1=>hs vs H1 ds d Q r1 hf λz hi hd=>q z H1 e1 (E9 hi (hd H1) (S.lst' e1))
def T7(h:DenAll K H xs [d]):∃v,xs=[v]/\Den K H v d:=by
 obtain⟨v,r,rfl,h1,h2⟩:=h.cons_inv;cases h2.nil_inv
 exact⟨v,rfl,h1⟩
def a0L{K:af}{H:Hp}{xs:List V}{d e:D}(h:DenAll K H xs [d,e]):∃v w,xs=[v,w]/\Den K H v d/\Den K H w e:=by
 obtain⟨v,r,rfl,h1,h2⟩:=h.cons_inv;obtain⟨w,rfl,h3⟩:=T7 h2;exact⟨v,w,rfl,h1,h3⟩
def F9:List D->Option D
 |[.list ds]=>cz (.int ds.length)
 |[.tuple ds]=>cz (.int ds.length)
 |[.str x]=>if x.length<=aV then cz (.int x.length) else el
 |_=>el
def b7v:a4j X (.builtin "len") F9:=by
 refine⟨_,a5c.or a5d,λxs H ds d Q hd hg q=>?_⟩
 match ds,hg with
 |[.list es],hg=>
  cases hg
  obtain⟨v,rfl,h⟩:=T7 hd;obtain⟨a,ys,rfl,h1,h2⟩:=h.list_inv;refine .inl ⟨a,ys,rfl,.inl h1.l,?_⟩;rw[h2.length];exact q _ (by simp only[imm]) λ_=>den_int
 |[.tuple es],hg=>
  cases hg
  obtain⟨v,rfl,h⟩:=T7 hd;obtain⟨a,ys,rfl,h1,h2⟩:=h.tup_inv;refine .inl ⟨a,ys,rfl,.inr h1,?_⟩;rw[h2.length];exact q _ (by simp only[imm]) λ_=>den_int
 |[.str x],hg=>
  have nu:(if x.length<=aV then cz (aF x.length) else el)=cz d:=hg;by_cases z:x.length<=aV
  ·rw[aG z]at nu;cases nu
   obtain⟨v,rfl,h⟩:=T7 hd;cases h.str_inv
   exact .inr ⟨x,rfl,z,q _ (by simp only[imm]) λ_=>den_int⟩
  ·rw[aL z]at nu;cases nu
 |[.none],hg|[.bool _],hg|[.int _],hg|[.dict _],hg=>cases hg
 |[],hg=>cases hg
 |d1::_::_,hg=>cases d1<;>cases hg
def a0M(mx:Bool):List D->Option D
 |[.int i,.int j]=>cz (.int (if mx then (if j>i then j else i) else (if j<i then j else i)))
 |_=>el
def b7w(h:a0M mx ds=cz d):∃i j,ds=[.int i,.int j]/\d=.int (if mx then (if j>i then j else i) else (if j<i then j else i)):=by
 match ds,h with
 |[.int i,.int j],h=>cases h;exact⟨i,j,rfl,rfl⟩
def b7x(hc:X.calm=p4):a4j X (.builtin "max") (a0M p4):=by
 refine⟨_,a9P hc,λxs H ds d Q hd hg q=>?_⟩;obtain⟨i,j,rfl,rfl⟩:=b7w hg;obtain⟨v,w,rfl,h1,h2⟩:=a0L hd;cases h1.int_inv
 cases h2.int_inv
 exact⟨i,j,rfl,q _ (by simp only[imm]) λ_=>den_int⟩
def a1R:List D->Option (List Bool)
 |[]=>cz []
 |.bool b::r=>(a1R r).map (b::·)
 |_=>el
theorem a2N:∀{ds:List D} {bs:List Bool} {xs:List V},a1R ds=cz bs->DenAll K H xs ds->xs=bs.map V.bl
 |[],bs,xs,h,q=>by cases h;rw[q.nil_inv];rfl
 |.bool b::r,bs,xs,h,q=>by
  have h':(a1R r).map (b::·)=cz bs:=h;obtain⟨cs,h1,rfl⟩:=cV.mp h';obtain⟨v,rs,rfl,h2,h3⟩:=q.cons_inv;cases h2.bool_inv
  rw[a2N h1 h3];rfl
 |.none::r,bs,xs,h,q|.int _::r,bs,xs,h,q|.str _::r,bs,xs,h,q|.list _::r,bs,xs,h,q|.tuple _::r,bs,xs,h,q|.dict _::r,bs,xs,h,q=>by cases h
def b0b:List D->Option D
 |[.list ds]=>(a1R ds).map λbs=>.bool (bs.all id)
 |_=>el
open PyProof.Rows in
def b0c(hc:X.calm=p4):CallR X (.builtin "all") (λxs H Q=>∃(p:aw) (bs:List Bool),xs=[.ref p]/\SqX X.K H p (bs.map V.bl)/\Q (.bl (bs.all id)) H):=by
 intro pins s Y H xs us Q I r h;obtain⟨p,bs,rfl,hp,q⟩:=h;obtain⟨u,rfl,rx⟩:=vals1 r;cases (show u=aZ p from rx)
 obtain⟨hz,cE,n,rv,ho⟩:=hp.ok I;have hl:s.heap.IsList p cE.toArray:=⟨_,ho,rfl,_,rfl⟩;have hlen:bs.length=cE.length:=by have:=rv.length;simpa using this
 refine call_all_walk (pP hl ?_);have gy:p≠s.heap.objs.size:=bc (aI ho);refine⟨s.heap.objs.size,[s.heap.objs.size,p],[s.heap.objs.size],_,_,_,λi=>(bs.getD i rp),rfl,Walks.list (A:=X.A.in1) (by simpa using I.ok.hd hc) s.heap.objs.size p gy cE.toArray,⟨⟨_,aH _ rfl,rfl,rfl⟩,hl.at λo e=>ag _ e⟩,?_,?_⟩
 ·intro i v s' Q' E' hP hQ;have hv:cE[i]?=cz v:=by simpa using hP
  have hi:i<bs.length:=by rw[hlen];exact (aU.mp hv).1
  obtain⟨u,hu,ru⟩:=rv.get (i:=i) (x:=.bl bs[i]) (by simp[hi]);rw[hv]at hu;cases hu
  cases (show v=jx bs[i] from ru)
  refine dG ?_;have e:bs.getD i rp=bs[i]:=by simp[hi]
  have BP:Q' (bs.getD i rp) s':=hQ;rw[e]at BP;exact BP
 ·intro h' tk hk;have e:(aQ cE.toArray.size).all (λi=>bs.getD i rp)=bs.all id:=by
   rw[br,<-hlen,eM,aT,aT]
   constructor
   ·intro z b hb;obtain⟨i,hi,rfl⟩:=eB.mp hb;have:=z i (bO.mpr hi);simpa[hi]using this
   ·intro z i hi;have kE:=bO.mp hi;have:=z bs[i] (cH kE);simpa[kE]using this
  rw[e];refine⟨.bl _,H,?_,rfl,q⟩;exact I.kept (t':=tk) λb o e=>hk b o (λz=>by
   have z':=aq.mp z;rw[z']at e;exact absurd (aI e) (dt _)) (ag _ e)
def b1Z(hc:X.calm=p4):a4j X (.builtin "all") b0b:=by
 refine⟨_,b0c hc,λxs H ds d Q hd hg q=>?_⟩
 match ds,hg with
 |[.list es],hg=>
  have nu:(a1R es).map (λbs=>dw (bs.all id))=cz d:=hg;obtain⟨bs,h1,rfl⟩:=cV.mp nu;obtain⟨v,rfl,h⟩:=T7 hd;obtain⟨a,ys,rfl,h2,h3⟩:=h.list_inv;rw[a2N h1 h3]at h2;exact⟨a,bs,rfl,h2,q _ (by simp only[imm]) λ_=>den_bool⟩
 |[.none],hg|[.bool _],hg|[.str _],hg|[.dict _],hg|[.int _],hg|[.tuple _],hg=>cases hg
 |[],hg=>cases hg
 |d1::_::_,hg=>cases d1<;>cases hg
def tyD:D->String
 |.int _=>"int"
 |.bool _=>"bool"
 |.list _=>"list"
 |.tuple _=>"tuple"
 |.none=>"NoneType"
 |.str _=>"str"
 |.dict _=>"dict"
def Den.ty{K:af}{H:Hp}{v:V}:∀{d:D},Den K H v d->(∀ds,d≠.tuple ds)->(∀ds,d≠.list ds)->(∀ds,d≠.dict ds)->TyOf K H v (.type (tyD d))
 |.none,h,_,_,_=>by cases h.none_inv;exact .non
 |.bool _,h,_,_,_=>by cases h.bool_inv;exact .bl _
 |.int _,h,_,_,_=>by cases h.int_inv;exact .int _
 |.str _,h,_,_,_=>by cases h.str_inv;exact .str _
 |.list ds,h,_,q,_=>absurd rfl (q ds)
 |.tuple ds,h,q,_,_=>absurd rfl (q ds)
 |.dict ds,h,_,_,q=>absurd rfl (q ds)
def b9y(K:af)(T:String)(g:D->Bool):List V->Hp->VK->Prop:=λxs H Q=>∃x d,xs=[x,.ty T]/\Den K H x d/\Q (.bl (g d)) H
def a7F{pins:List (aw×fM)}{Y:L2.St}{H:Hp}{s:ar}{A:bD}{E:aj->ar->Prop}{Q:aj->ar->Prop}{cv:aj}{k:Bool}{a:aw}{xs:List V}(I:Inv X pins Y H s)(h:SqT X.K H a xs)(e:eA X.K (.type "tuple") cv=cz k)(hq:∀tk,Q (.bool k) {s with toks:=tk}) :
  aD (aX X.prog X.w) A (call (.builtin "isinstance") [.ref a,cv]) Q E s:=by
 obtain⟨cE,_,⟨o,h1,h2,_⟩,_⟩:=I.tuple h;exact cO Ap I.kIn ⟨o,h1,h2⟩ e (λz=>nomatch z) hq
def a7G{pins:List (aw×fM)}{Y:L2.St}{H:Hp}{s:ar}{A:bD}{E:aj->ar->Prop}{Q:aj->ar->Prop}{cv:aj}{k:Bool}{a:aw}{xs:List V}(I:Inv X pins Y H s)(h:SqX X.K H a xs)(e:eA X.K (.type "list") cv=cz k)(hq:∀tk,Q (.bool k) {s with toks:=tk}) :
  aD (aX X.prog X.w) A (call (.builtin "isinstance") [.ref a,cv]) Q E s:=by
 obtain⟨_,cE,n,_,h1⟩:=h.ok I;exact cO nJ I.kIn ⟨_,h1,rfl⟩ e (λz=>nomatch z) hq
def a7H{pins:List (aw×fM)}{Y:L2.St}{H:Hp}{s:ar}{A:bD}{E:aj->ar->Prop}{Q:aj->ar->Prop}{cv:aj}{k:Bool}{a:aw}{es:List (D×V×V)}(I:Inv X pins Y H s)(h:H a=cz (c9 a es))(e:eA X.K (.type "dict") cv=cz k)(hq:∀tk,Q (.bool k) {s with toks:=tk}) :
  aD (aX X.prog X.w) A (call (.builtin "isinstance") [.ref a,cv]) Q E s:=by
 obtain⟨⟨_,_,_,o,ents,_,h1,h2,_⟩,_⟩:=(show ObjOk X.prog X.w H s.heap a (c9 a es) from I.hok a _ h);exact cO nK I.kIn ⟨o,h1,h2.1⟩ e (λz=>nomatch z) hq
def b0d{T:String}{g:D->Bool}(hf:∀(K:af) (d:D),eA K (.type (tyD d)) (.type T)=cz (g d)):CallR X (.builtin "isinstance") (b9y X.K T g):=by
 intro pins s Y H xs us Q I r h;obtain⟨x,d,rfl,hd,q⟩:=h;obtain⟨u,w',rfl,rx,ry⟩:=vals2 r;cases (show w'=dS T from ry)
 by_cases ht:(∀ds,d≠.tuple ds)/\(∀ds,d≠.list ds)/\(∀ds,d≠.dict ds)
 ·exact a9R I rx (hd.ty ht.1 ht.2.1 ht.2.2) (hf X.K d) λtk=>⟨.bl _,H,I.tok tk,rfl,q⟩
 ·cases d with
  |list ds=>
   obtain⟨a,ys,rfl,h1,_⟩:=hd.list_inv;cases (show u=aZ a from rx)
   exact a7G I h1 (hf X.K (.list ds)) λtk=>⟨.bl _,H,I.tok tk,rfl,q⟩
  |tuple ds=>
   obtain⟨a,ys,rfl,h1,_⟩:=hd.tup_inv;cases (show u=aZ a from rx)
   exact a7F I h1 (hf X.K (.tuple ds)) λtk=>⟨.bl _,H,I.tok tk,rfl,q⟩
  |dict ds=>
   simp only[Den]at hd;obtain⟨a,es,rfl,h1,_⟩:=hd;cases (show u=aZ a from rx)
   exact a7H I h1 (hf X.K (.dict ds)) λtk=>⟨.bl _,H,I.tok tk,rfl,q⟩
  |_=>exact absurd ⟨(λds z=>by cases z),(λds z=>by cases z),(λds z=>by cases z)⟩ ht
def isInt:D->Bool
 |.int _=>p4
 |.bool _=>p4
 |_=>rp
def isBool:D->Bool
 |.bool _=>p4
 |_=>rp
def isList:D->Bool
 |.list _=>p4
 |_=>rp
def A0:D->Bool
 |.tuple _=>p4
 |_=>rp
def K6{g:D->Bool}(hf:∀(K:af) (d:D),eA K (.type (tyD d)) (.type T)=cz (g d))(hm:X.mg "isinstance"=el)(hy:X.mg y=el)(hb:gn y=cz (.type T))(h:PX X M a fa ca)
  (hg:Gl X "isinstance":=by rfl) (EG:Gl X y:=by rfl) (Ej:y≠"__name__":=by decide) (xP:(y==("__debug__":bC))=rp:=by decide)
  (he:ax [a,.Name y py] X.env=(rp,cn a X.env)::ax [.Name y py] X.env:=by rfl) (lK:ax [.Name y py] X.env=(rp,cn (.Name y py) X.env)::ax [] X.env:=by rfl) (f_:(cx pos (ax [.Name y py] X.env)).any (·.1)=rp:=by rfl) :
  PX X M (.Call (.Name "isinstance" p) [a,.Name y py] [] pos) (e1 (λd=>cz (.bool (g d))) fa) (.new .i):=by
 obtain⟨ta,pa,qa⟩:=h.out;refine .mk ⟨_,V9 (b0d hf) hg hm PyProof.Rows.Boot.«isinstance» (m7 pa (m7 (b4k (v:=.ty T) EG hy hb rfl Ej xP) u7 lK) he) (by decide) (by decide) he f_,λU Y H P F d Q S lh q=>?_⟩;obtain⟨x,h1,lh⟩:=bnd lh;cases lh
 exact qa U Y H P F x _ S h1 λv H1 e1 r1=>⟨v,x,rfl,r1.den,q _ H1 e1 (E9 (by simp only[imm]) den_bool (S.lst' e1))⟩
def a8X(K:af)(d:D):eA K (.type (tyD d)) (.type "int")=cz (isInt d):=by cases d<;>rfl
def a6f(K:af)(d:D):eA K (.type (tyD d)) (.type "bool")=cz (isBool d):=by cases d<;>rfl
def a6g(K:af)(d:D):eA K (.type (tyD d)) (.type "list")=cz (isList d):=by cases d<;>rfl
def M6(K:af)(d:D):eA K (.type (tyD d)) (.type "tuple")=cz (A0 d):=by cases d<;>rfl
end
def cutD(ds:List D)(lo hi:Option Int):List D:=(ds.drop (HT.sIx ds.length 0 lo)).take (HT.sIx ds.length ds.length hi-HT.sIx ds.length 0 lo)
abbrev EvO:=List D->Option (Option Int)
noncomputable def oNo:EvO:=λ_=>cz el
def asI:D->Option Int
 |.int i=>cz i
 |_=>el
noncomputable def oSo(a:EvE):EvO:=λU=>(a U).bind λd=>(asI d).bind λi=>cz (cz i)
def a0N(h:asI d=cz i):d=.int i:=by
 cases d with
 |int j=>cases h;rfl
 |_=>cases h
def asL:D->Option (List D)
 |.list ds=>cz ds
 |_=>el
def R0(h:asL d=cz ds):d=.list ds:=by
 cases d with
 |list j=>cases h;rfl
 |_=>cases h
def asS:D->Option (List D)
 |.list ds=>cz ds
 |.tuple ds=>cz ds
 |_=>el
noncomputable def POX(X:Cx)(M:List Md)(e:Option Expr)(f:EvO):Prop:=
 ∃t,PO X e t/\∀(U:List D) (Y:L2.St) (H P:Hp) (F:List aw) (o:Option Int) (Q:Option Int->Hp->Prop),StE X.K M U Y H P F->f U=cz o->(∀H',Same H H'->Q o H')->t Y H Q
noncomputable def eSl(a:EvE)(lo hi:EvO):EvE:=λU=>(a U).bind λx=>(asL x).bind λds=>(lo U).bind λl=>(hi U).bind λh=>cz (.list (cutD ds l h))
noncomputable def eI(a:EvE):EvE:=λU=>(a U).bind b1Y
section
variable {X:Cx}{M:List Md}{a b e e0:Expr}{lo hi:Option Expr}{es:List Expr}{fa fb:EvE}{fl fh:EvO}{f:EvA}{c ca cb:Cat}{u:Ty}{us:List Ty}{pos p p2:eS}{x:bC}
def a6h:POX X M el oNo:=⟨_,b4v,λU Y H P F o Q S hf q=>by cases hf;exact q H (Same.refl _)⟩
def a6i(h:PX X M a fa ca):POX X M (cz a) (oSo fa):=by
 obtain⟨t,p,q⟩:=h.out;refine⟨_,b4w p,λU Y H P F o Q S hf k=>?_⟩;obtain⟨d,h1,se⟩:=bnd hf;obtain⟨i,h2,sd⟩:=bnd se;cases a0N h2
 cases sd
 exact q U Y H P F _ _ S h1 λv H1 e1 r1=>⟨i,r1.den.int_inv,k H1 e1⟩
structure MkL (X:Cx) (M:List Md) (e:Expr) (f:EvE) (A:Prop):Prop where
 run:∃t,PE X e t/\∀(U:List D) (Y:L2.St) (H P:Hp) (F:List aw) (d:D) (Q:VK),StE X.K M U Y H P F->f U=cz d->
  (∀vs ds H1 l,Same H H1->d=.list ds->DenAll X.K H1 vs ds->(A->DenAll X.K (cut H1 F) vs ds)->H1 l=el->Q (.ref l) (upd H1 l (.lst vs)))->t Y H Q
theorem MkL.i{f:EvE}{A:Prop}(h:MkL X M e f A):PX X M e (eI f) (.new (.l .i)):=by
 obtain⟨t,p,q⟩:=h.run;refine .mk ⟨t,p,λU Y H P F d Q S hf k=>?_⟩;obtain⟨d',g1,hc⟩:=bnd hf;clear hf;obtain⟨es,rfl,rfl,hi⟩:=a7D hc;refine q U Y H P F _ Q S g1 λvs ds H1 l e1 ed h1 _ hl=>?_
 cases ed
 exact k _ _ (e1.trans (l9 hl _)) (Q8 h1 hi e1 hl (S.lst' e1))
def frozen:Cat->Prop
 |.new .f=>True
 |.new .i=>True
 |_=>False
def D7(hc:frozen c)(r:ResR K c H H1 F v d):Den K (cut H1 F) v d:=by
 match c,hc with
 |.new .f,_=>
  obtain⟨fp,o,_⟩:=r;obtain⟨rfl,o⟩:=a8V o;exact o
 |.new .i,_=>
  obtain⟨fp,o,_⟩:=r;obtain⟨rfl,_,o⟩:=V1 o;exact o
def L1(r:ResR K c H H1 F v (.list ds)):∃a xs,v=.ref a/\SqX K H1 a xs/\DenAll K H1 xs ds/\(frozen c->DenAll K (cut H1 F) xs ds):=by
 by_cases hc:frozen c
 ·obtain⟨a,xs,rfl,k1,k2⟩:=(D7 hc r).list_inv;exact⟨a,xs,rfl,T5 k1 i8,k2.up i8,λ_=>k2⟩
 ·obtain⟨a,xs,rfl,k1,k2⟩:=r.den.list_inv;exact⟨a,xs,rfl,k1,k2,λh=>absurd h hc⟩
def b2a:SlR X (λx lo hi H Q=>∃a xs,x=.ref a/\SqX X.K H a xs/\∀p,H p=el->Q (.ref p) (upd H p (.lst (a7z xs lo hi)))):=by
 intro pins s Y H x v vl vu lo hi sl Q I rx hs pl pu ⟨a,xs,e,h,q⟩;exact b4A pins s Y H x v vl vu lo hi sl Q I rx hs pl pu ⟨a,xs,e,h.l,q⟩
def a8Y(h:DenAll K H vs ds)(lo hi:Option Int):DenAll K H (a7z vs lo hi) (cutD ds lo hi):=by
 unfold a7z cutD;rw[h.length];exact (h.drop _).take _
def a6j(ha:PX X M a fa ca)(hl:POX X M lo fl)(hh:POX X M hi fh):MkL X M (.Subscript a (.Slice lo hi el p2) pos) (eSl fa fl fh) (frozen ca):=by
 obtain⟨ta,pa,qa⟩:=ha.out;obtain⟨tl,pl,ql⟩:=hl;obtain⟨th,ph,qh⟩:=hh;refine⟨_,b1J b2a pa pl ph,λU Y H P F d Q S hf q=>?_⟩;obtain⟨x,h1,se⟩:=bnd hf;obtain⟨ds,h2,sd⟩:=bnd se;cases R0 h2
 obtain⟨l,h3,Aa⟩:=bnd sd;obtain⟨h,h4,uT⟩:=bnd Aa;cases uT
 refine qa U Y H P F _ _ S h1 λv H1 e1 r1=>ql U Y H1 P F l _ (S.grow e1) h3 λH2 e2=>qh U Y H2 P F h _ (S.grow (e1.trans e2)) h4 λH3 e3=>?_
 obtain⟨pp,xs,rfl,k1,k2,k3⟩:=L1 (r1.up (e2.trans e3));exact⟨pp,xs,rfl,k1,λz hz=>q _ _ H3 z ((e1.trans e2).trans e3) rfl (a8Y k2 l h) (λhc=>a8Y (k3 hc) l h) hz⟩
noncomputable def a0O(a:EvE):EvE:=λU=>(a U).bind λd=>(asS d).bind λds=>cz (.list ds)
def a8Z(hm:X.mg "list"=el)(ha:PX X M a fa ca)(hg:Gl X "list":=by rfl)(he:ax [a] X.env=(rp,cn a X.env)::ax [] X.env:=by rfl)(f_:(cx pos (ax [] X.env)).any (·.1)=rp:=by rfl) :
  MkL X M (.Call (.Name "list" p) [a] [] pos) (a0O fa) (frozen ca):=by
 obtain⟨ta,pa,qa⟩:=ha.out;refine⟨_,M3 a0D hg hm PyProof.Rows.Boot.«list» (m7 pa u7 he) (by decide) (by decide) he f_,λU Y H P F d Q S hf q=>?_⟩;obtain⟨x,h1,se⟩:=bnd hf;obtain⟨ds,h2,sd⟩:=bnd se;cases sd
 refine qa U Y H P F _ _ S h1 λv H1 e1 r1=>?_
 cases x with
 |list es=>
  cases h2
  obtain⟨pp,xs,rfl,k1,k2,k3⟩:=L1 r1;exact⟨pp,xs,rfl,.inl k1.l,λz hz=>q _ _ H1 z e1 rfl k2 k3 hz⟩
 |tuple es=>
  cases h2
  by_cases hc:frozen ca
  ·obtain⟨pp,xs,rfl,k1,k2⟩:=(D7 hc r1).tup_inv;exact⟨pp,xs,rfl,.inr (P7 k1 i8),λz hz=>q _ _ H1 z e1 rfl (k2.up i8) (λ_=>k2) hz⟩
  ·obtain⟨pp,xs,rfl,k1,k2⟩:=r1.den.tup_inv;exact⟨pp,xs,rfl,.inr k1,λz hz=>q _ _ H1 z e1 rfl k2 (λh=>absurd h hc) hz⟩
 |_=>cases h2
noncomputable def F5(a:EvE):EvE:=λU=>(a U).bind λd=>(asS d).bind λds=>Z3 (.tuple ds)
def W6(hm:X.mg "tuple"=el)(ha:PX X M a fa ca)(hg:Gl X "tuple":=by rfl)(he:ax [a] X.env=(rp,cn a X.env)::ax [] X.env:=by rfl)(f_:(cx pos (ax [] X.env)).any (·.1)=rp:=by rfl) :
  PX X M (.Call (.Name "tuple" p) [a] [] pos) (F5 fa) (.new .i):=by
 obtain⟨ta,pa,qa⟩:=ha.out;refine .mk ⟨_,M3 a3O hg hm PyProof.Rows.Boot.«tuple» (m7 pa u7 he) (by decide) (by decide) he f_,λU Y H P F d Q S hf q=>?_⟩;obtain⟨x,h1,se⟩:=bnd hf;obtain⟨ds,h2,sd⟩:=bnd se;obtain⟨rfl,hi⟩:=Q9 sd;refine qa U Y H P F _ _ S h1 λv H1 e1 r1=>?_
 cases x with
 |list es=>
  cases h2
  obtain⟨pp,xs,rfl,k1,k2⟩:=r1.den.list_inv;exact⟨pp,xs,rfl,.inl ⟨k1.l,λz hz=>q _ _ (e1.trans (l9 hz _)) (E9 hi (a2L k2 hz) (S.lst' (e1.trans (l9 hz _))))⟩⟩
 |tuple es=>
  cases h2
  obtain⟨pp,xs,rfl,k1,k2⟩:=r1.den.tup_inv;exact⟨pp,xs,rfl,.inr ⟨k1,q _ _ e1 (E9 hi (den_tup k1 k2) (S.lst' e1))⟩⟩
 |_=>cases h2
def b4N:OpR X (eO .Add) (λx y H Q=>∃l b xs zs,x=.ref l/\y=.ref b/\SqX X.K H l xs/\SqX X.K H b zs/\xs.length+zs.length<=aV/\∀p,H p=el->Q (.ref p) (upd H p (.lst (xs++zs)))):=by
 intro pins s Y H x y v u Q I rx ry h;obtain⟨l,b,xs,zs,rfl,rfl,hH,hB,hz,q⟩:=h;cases rx
 cases ry
 obtain⟨z,cE,n,r,e⟩:=hH.ok I;obtain⟨z2,mK,n2,r2,e2⟩:=hB.ok I;have hl:=r.length;have uI:=r2.length;refine PySem.P.add_list e e2 ?_ (by rw[br,br];lia);have ea:cE.toArray++mK.toArray=(cE++mK).toArray:=by simp
 rw[ea];exact⟨.ref _,_,I.lnew (t':=s.toks) (r.append r2) (by rw[ba];lia),rfl,q _ I.fresh⟩
noncomputable def b7y(a b:EvE):EvE:=λU=>(a U).bind λx=>(asL x).bind λds=>(b U).bind λy=>(asL y).bind λes=>if ds.length+es.length<=aV then cz (.list (ds++es)) else el
def b2b(ha:PX X M a fa ca)(hb:PX X M b fb cb):MkL X M (.BinOp a .Add b pos) (b7y fa fb) (frozen ca/\frozen cb):=by
 obtain⟨ta,pa,qa⟩:=ha.out;obtain⟨tb,pb,qb⟩:=hb.out;refine⟨_,b1B b4N pa pb,λU Y H P F d Q S hf q=>?_⟩;obtain⟨x,h1,se⟩:=bnd hf;obtain⟨ds,h2,sd⟩:=bnd se;cases R0 h2
 obtain⟨y,h3,Aa⟩:=bnd sd;obtain⟨es,h4,uT⟩:=bnd Aa;cases R0 h4
 by_cases hz:ds.length+es.length<=aV
 ·rw[aG hz]at uT;cases uT
  refine qa U Y H P F _ _ S h1 λv H1 e1 r1=>qb U Y H1 P F _ _ (S.grow e1) h3 λw H2 e2 r2=>?_
  obtain⟨pp,xs,rfl,k1,k2,k3⟩:=L1 (r1.up e2);obtain⟨qq,ys,rfl,j1,j2,j3⟩:=L1 r2;exact⟨pp,qq,xs,ys,rfl,rfl,k1,j1,by rw[k2.length,j2.length];exact hz,λz hz=>q _ _ H2 z (e1.trans e2) rfl (k2.append j2) (λhc=>(k3 hc.1).append (j3 hc.2)) hz⟩
 ·rw[aL hz]at uT;cases uT
def spD(K:af)(n:Nat)(m:List D->Option D)(u:Ty):Sp:=λvs H Q _=>∃ds d,vs.length=n/\DenAll K H vs ds/\m ds=cz d/\∀v H' fp,Same H H'->Own K H' fp u v d fp->fp.Nodup->(∀a∈fp,H a=el)->Q v H'
def b4O(W:Has X.prog X.w X.K X.mg X.base x k ps (spD X.K n m u))(hr:Room k X.A)(h:PAX X M (e0::es) f)(hu:u.shut=p4:=by rfl)(hl:(e0::es).length=n:=by rfl)(hfl:∀U ds,f U=cz ds->ds.length=(e0::es).length)
  (hg:Gl X x:=by rfl) (lN:(x==("__debug__":bC))=rp:=by decide) (he:ax (e0::es) X.env=(rp,cn e0 X.env)::ax es X.env:=by rfl) (f_:(cx pos (ax es X.env)).any (·.1)=rp:=by rfl) :
  PX X M (.Call (.Name x p) (e0::es) [] pos) (eCl m f) (.new u):=by
 obtain⟨t,pa,qa⟩:=h;refine .mk ⟨_,a7A W hr pa hg lN he f_,λU Y H P F d Q S hf q=>?_⟩;obtain⟨ds,h1,hf⟩:=bnd hf;refine qa U Y H P F ds _ S h1 λvs H1 e1 r1=>?_
 show spD X.K n m u (vs++[]) H1 Q E0;rw[bK];refine⟨ds,d,by rw[r1.length,hfl U ds h1,hl],r1,hf,λv H' fp e o nd fr=>q v H' (e1.trans e) ⟨fp,o.shut_out (λa ha=>?_) u hu,nd,λa ha=>e1.free (fr a ha)⟩⟩;rcases aB.mp ha with z|z
 ·exact o.lst u a z
 ·exact S.lst' (e1.trans e) a z
end
structure Walks (J:It) (Pr:Hp->Prop) (xs:List V):Prop where
 go:∀i H,Pr H->i<xs.length->J.go i H
 stop:∀i H,Pr H->xs.length<=i->J.stop i H
 yld:∀i H x H',Pr H->i<xs.length->J.yld i H x H'->H'=H/\xs[i]?=cz x
def a7I:Walks (Itl K a) (λH=>SqL K H a xs) xs where
 go:=λi H h hi=>⟨xs,xs[i],h,by simp[hi]⟩
 stop:=λi H h hi=>⟨xs,h,hi⟩
 yld:=λi H x H' h _ y=>⟨y.1,y.2 xs h⟩
def b0e:Walks (Itt K a) (λH=>SqT K H a xs) xs where
 go:=λi H h hi=>⟨xs,xs[i],h,by simp[hi]⟩
 stop:=λi H h hi=>⟨xs,h,hi⟩
 yld:=λi H x H' h _ y=>⟨y.1,y.2 xs h⟩
def a6k:Walks (Itr lo n) (λ_=>True) ((aQ n).map λ(k:Nat)=>V.int (lo+k)) where
 go:=λi H h hi=>by show i<n;simpa using hi
 stop:=λi H h hi=>by show n<=i;simpa using hi
 yld:=λi H x H' h hi y=>by
  obtain⟨e,y⟩:=y;refine⟨e,?_⟩;have kE:i<n:=by simpa using hi
  rw[y];simp[kE]
noncomputable def PIX(X:Cx)(M:List Md)(tg iter:Expr)(f:EvA):Prop:=
 ∃wi,PI X tg iter wi/\∀(U:List D) (Y:L2.St) (H P:Hp) (F:List aw) (ds:List D) (R:It->Hp->Prop),StE X.K M U Y H P F->f U=cz ds->
  (∀J xs Pr H1,Same H H1->Walks J Pr xs->(∀H2,Same (cut H1 F) H2->Pr H2)->DenAll X.K (cut H1 F) xs ds->R J H1)->wi Y H R
noncomputable def iL(a:EvE):EvA:=λU=>(a U).bind asL
noncomputable def iT(a:EvE):EvA:=λU=>(a U).bind λd=>match d with
 |.tuple ds=>cz ds
 |_=>el
def J9(lo:Int)(n:Nat):List D:=(aQ n).map λ(k:Nat)=>.int (lo+k)
noncomputable def iR(a:EvE):EvA:=λU=>(a U).bind λd=>(asI d).bind λn=>if -(2^62)<=n/\n<2^62 then cz (J9 0 n.toNat) else el
noncomputable def iI(f:EvA):EvA:=λU=>(f U).bind λds=>if g9 ds then cz ds else el
section
variable {X:Cx}{M:List Md}{a b e tg iter:Expr}{fa fb:EvE}{f:EvA}{ca cb:Cat}{pos p:eS}
def o7(h:PX X M a fa ca)(hc:frozen ca:=by trivial):PIX X M tg a (iL fa):=by
 obtain⟨t,p,q⟩:=h.out;refine⟨_,b4o p,λU Y H P F ds R S hf k=>?_⟩;obtain⟨d,h1,h2⟩:=bnd hf;cases R0 h2
 refine q U Y H P F _ _ S h1 λv H1 e1 r1=>?_
 obtain⟨aa,xs,rfl,k1,k2⟩:=(D7 hc r1).list_inv;exact⟨aa,rfl,⟨xs,(T5 k1 i8).l⟩,k _ xs _ H1 e1 a7I (λH2 e2=>(T5 k1 e2).l) k2⟩
def b4P(h:PX X M a fa ca)(hc:frozen ca:=by trivial):PIX X M tg a (iT fa):=by
 obtain⟨t,p,q⟩:=h.out;refine⟨_,b7c p,λU Y H P F ds R S hf k=>?_⟩;obtain⟨d,h1,h2⟩:=bnd hf;cases d with
 |tuple es=>
  cases h2
  refine q U Y H P F _ _ S h1 λv H1 e1 r1=>?_
  obtain⟨aa,xs,rfl,k1,k2⟩:=(D7 hc r1).tup_inv;exact⟨aa,rfl,⟨xs,P7 k1 i8⟩,k _ xs _ H1 e1 b0e (λH2 e2=>P7 k1 e2) k2⟩
 |_=>cases h2
def b0f:DenAll K H ((aQ n).map λ(k:Nat)=>V.int (lo+k)) (J9 lo n):=by
 have:∀l:List Nat,DenAll K H (l.map λ(k:Nat)=>V.int (lo+k)) (l.map λ(k:Nat)=>aF (lo+k)):=by
  intro l
  induction l with
  |nil=>exact denAll_nil
  |cons x l ih=>exact denAll_cons den_int ih
 exact this _
def C3(hm:X.mg "range"=el)(h:PX X M a fa ca)(hg:Gl X "range":=by rfl)(he:ax [a] X.env=[(rp,cn a X.env)]:=by rfl)(lK:ax [a] X.env=(rp,cn a X.env)::ax [] X.env:=by rfl) :
  PIX X M tg (.Call (.Name "range" p) [a] [] pos) (iR fa):=by
 obtain⟨t,p,q⟩:=h.out;refine⟨_,a9N hg hm (m7 p u7 lK) he,λU Y H P F ds R S hf k=>?_⟩;obtain⟨d,h1,g1⟩:=bnd hf;obtain⟨n,h2,g2⟩:=bnd g1;cases a0N h2
 by_cases c:-(2^62)<=n/\n<2^62
 ·rw[aG c]at g2;cases g2
  exact q U Y H P F _ _ S h1 λv H1 e1 r1=>⟨n,by rw[r1.den.int_inv],c.1,c.2,k _ _ _ H1 e1 a6k (λ_ _=>trivial) b0f⟩
 ·rw[aL c]at g2;cases g2
def PIX.i(h:PIX X M tg iter f):PIX X M tg iter (iI f):=by
 obtain⟨wi,p,q⟩:=h;refine⟨wi,p,λU Y H P F ds R S hf k=>?_⟩;obtain⟨es,h1,g1⟩:=bnd hf;by_cases c:g9 es=p4
 ·rw[aG c]at g1;cases g1
  exact q U Y H P F _ R S h1 k
 ·rw[aL c]at g1;cases g1
end
def TgR(K:af)(g:TG)(n:Nat)(pt:D->Option (List D)):Prop:=
 ∀(H Hc:Hp) (x:V) (d:D) (ds:List D) (Y:L2.St) (Q:L2.St->Hp->Prop),Same Hc H->Den K Hc x d->pt d=cz ds->n<=Y.length->(∀vs,DenAll K Hc vs ds->vs.length=n->Q (vs.map cz++Y.drop n) H)->g x Y H Q
def pt1(d:D):Option (List D):=cz [d]
def pt2:D->Option (List D)
 |.tuple [a,b]=>cz [a,b]
 |_=>el
def G6:TgR K (Q5 0) 1 pt1:=by
 intro H Hc x d ds Y Q e hd hp hn k;cases hp
 cases Y with
 |nil=>simp at hn
 |cons o Y=>exact k [x] (denAll_cons hd denAll_nil) rfl
def a2q:TgR K (b6W K 2 (a2E (Q5 0) (a2E (Q5 1) b4n))) 2 pt2:=by
 intro H Hc x d ds Y Q e hd hp hn k
 match d,hp with
 |.tuple [a,b],hp=>
  cases hp
  obtain⟨aa,xs,rfl,h1,h2⟩:=hd.tup_inv;obtain⟨v,w,rfl,h3,h4⟩:=a0L h2
  match Y,hn with
  |o::o'::Y,_=>
   exact⟨aa,_,rfl,P7 h1 e,rfl,v,[w],rfl,w,[],rfl,rfl,k [v,w] (denAll_cons h3 (denAll_cons h4 denAll_nil)) rfl⟩
noncomputable def O5(pt:D->Option (List D))(t:EvT)(g:EvE)(cs:List D):List D->Option (List D)
 |[]=>cz []
 |d::ds=>(pt d).bind λbs=>(t (bs++cs)).bind λk=>if k then (g (bs++cs)).bind λy=>(O5 pt t g cs ds).bind λys=>cz (y::ys) else O5 pt t g cs ds
noncomputable def n4(fi:EvA)(js:List Nat)(pt:D->Option (List D))(t:EvT)(g:EvE):EvE:=λU=>(fi U).bind λds=>if ds.length<=1000000 then (O5 pt t g (js.map λj=>U.getD j .none) ds).bind λys=>cz (.list ys) else el
noncomputable def tT:EvT:=λ_=>cz p4
def W7(m:Md)(n:Nat)(M:List Md)(js:List Nat):List Md:=aR n m++js.map λj=>M.getD j .dead
section
variable {K:af}{J:It}{Pr:Hp->Prop}{xs:List V}{Dl:aw}{g:TG}{tt:TT}{te:TE}{Y:L2.St}{H:Hp}{R:Hp->Prop}
def b0g(hw:Walks J Pr xs)(Pv:Nat->List V->L2.St->Hp->Prop)(h0:Pv 0 [] Y (upd H Dl (.lst [])))(hp:∀i ys Y H,Pv i ys Y H->Pr H)
  (hs:∀i x ys Y H,xs[i]?=cz x->Pv i ys Y H->g x Y H λY3 H3=>tt Y3 H3 λb H4=>if b=p4 then te Y3 H4 λy H5=>H5 Dl=cz (.lst ys)/\ys.length<aV/\Pv (i+1) (ys++[y]) Y3 (upd H5 Dl (.lst (ys++[y]))) else Pv (i+1) ys Y3 H4)
  (hd:∀ys Y H,Pv xs.length ys Y H->R H) :
  ∃W:Nat->Nat->List V->L2.St->Hp->Prop,(∃m,W 0 m [] Y (upd H Dl (.lst [])))/\∀i m ys Y' H',W i m ys Y' H'->(J.stop i H'/\R H')\/
   (J.go i H'/\∃(N:V->L2.St->Hp->Prop) (NO:L2.St->Hp->Prop),(∀y Y3 H4,N y Y3 H4->H4 Dl=cz (.lst ys)/\ys.length<aV/\∃m',m'<m/\W (i+1) m' (ys++[y]) Y3 (upd H4 Dl (.lst (ys++[y]))))/\
    (∀Y3 H4,NO Y3 H4->∃m',m'<m/\W (i+1) m' ys Y3 H4)/\∀x H2,J.yld i H' x H2->g x Y' H2 λY3 H3=>tt Y3 H3 λb H4=>if b=p4 then te Y3 H4 λy H5=>N y Y3 H5 else NO Y3 H4):=by
 refine⟨λi m ys Y H=>m=xs.length-i/\i<=xs.length/\Pv i ys Y H,⟨xs.length,by simp,cI _,h0⟩,?_⟩;rintro i m ys Y H ⟨rfl,hi,p⟩;have q:=hp i ys Y H p;by_cases il:i<xs.length
 ·refine .inr ⟨hw.go i H q il,λy Y3 H4=>H4 Dl=cz (.lst ys)/\ys.length<aV/\Pv (i+1) (ys++[y]) Y3 (upd H4 Dl (.lst (ys++[y]))),λY3 H4=>Pv (i+1) ys Y3 H4,λy Y3 H4 ⟨r1,r2,r3⟩=>⟨r1,r2,xs.length-(i+1),by lia,rfl,il,r3⟩,λY3 H4 r3=>⟨xs.length-(i+1),by lia,rfl,il,r3⟩,λx H' y=>?_⟩;obtain⟨e,yy⟩:=hw.yld i H x H' q il y;subst e;exact hs i x ys Y _ yy p
 ·have e:i=xs.length:=by lia
  subst e;exact .inl ⟨hw.stop _ H q (aE _),hd ys Y H p⟩
end
def b2c{js:List Nat}(S:StE K M U Y H P F)(hm:m=.i\/m=.f)(hv:DenAll K (cut H F) vs bs)(hi:m=.i->g9 bs=p4)(hn:vs.length=n)
  (hY:Yb=vs.map cz++js.map λj=>(Y[j]?).getD el):StE K (W7 (.own m) n M js) (bs++js.map λj=>U.getD j .none) Yb H P F:=by
 obtain⟨G,h1,h3⟩:=S.all;obtain⟨G',q,hq⟩:=h1.pick h3 js;refine⟨⟨G',?_,hq⟩,S.lst,S.prot⟩;subst hY hn;unfold W7;have key:∀{vs:List V} {bs:List D},DenAll K (cut H F) vs bs->(m=.i->g9 bs=p4)->StAll K H F (aR vs.length (.own m)++js.map λj=>M.getD j .dead) (bs++js.map λj=>U.getD j .none) (vs.map cz++js.map λj=>(Y[j]?).getD el) G':=by
  intro vs
  induction vs with
  |nil=>
   intro bs h _;have hl:=h.length;have:bs=[]:=eF.mp (by simpa using hl.symm);subst this;exact q
  |cons v vs ih=>
   intro bs h hi;cases bs with
   |nil=>have:=h.length;simp at this
   |cons b bs=>
    obtain⟨v',r,e,h4,h5⟩:=h.cons_inv;cases e
    have:=l6 (K:=K) (H:=H) (F:=F) (m:=.own m) (d:=b) (o:=cz v) (f:=[]) ⟨v,rfl,by
     rcases hm with rfl|rfl
     ·have:=hi rfl;simp only[g9,ak]at this;simp only[Own];exact⟨trivial,this.1,h4⟩
     ·simp only[Own];exact⟨trivial,h4⟩⟩ (ih h5 λe=>by have:=hi e;simp only[g9,ak]at this;exact this.2)
    simpa[jq]using this
 exact key hv hi
def a7J(h:O5 pt t g cs (d::ds)=cz rs) :
  ∃bs k,pt d=cz bs/\t (bs++cs)=cz k/\((k=p4/\∃y ys,g (bs++cs)=cz y/\O5 pt t g cs ds=cz ys/\rs=y::ys)\/(k=rp/\O5 pt t g cs ds=cz rs)):=by
 simp only[O5]at h;obtain⟨bs,h1,g1⟩:=bnd h;obtain⟨k,h2,g2⟩:=bnd g1;refine⟨bs,k,h1,h2,?_⟩;cases k with
 |true=>
  rw[aG rfl]at g2;obtain⟨y,h3,g3⟩:=bnd g2;obtain⟨ys,h4,g4⟩:=bnd g3;cases g4
  exact .inl ⟨rfl,y,ys,h3,h4,rfl⟩
 |false=>
  rw[aL aY]at g2;exact .inr ⟨rfl,g2⟩
section
variable {X:Cx}{M:List Md}{tn ys:List bC}{js:List Nat}{scope:gh}{elt tg iter:Expr}{ifs:List Expr}{pos:eS}{g:TG}{n:Nat}{pt:D->Option (List D)}{fi:EvA}{ft:EvT}{fe:EvE}{u m:Ty}
def a4l(hi:∀(U:List D) (Y:L2.St) (H P:Hp) (F:List aw) (ds:List D) (R:It->Hp->Prop),StE X.K M U Y H P F->fi U=cz ds->
   (∀J xs Pr H1,Same H H1->Walks J Pr xs->(∀H2,Same (cut H1 F) H2->Pr H2)->DenAll X.K (cut H1 F) xs ds->R J H1)->wi Y H R)
  (hg:TgR X.K g n pt) (hm:m=.i\/m=.f) (qd:m=.i->∀U ds,fi U=cz ds->∀d∈ds,∀bs,pt d=cz bs->g9 bs=p4) (vO:tn.length=n)
  (S:StE X.K M U Y H P F) (hf:n4 fi js pt ft fe U=cz d) (q:∀v H',Same H H'->ResR X.K (.new (.l u)) H H' F v d->Q v H') :
  a5h wi g (spT X.K (W7 (.own m) n M js) ft) (spE X.K (W7 (.own m) n M js) fe (.new u)) (a1r tn js) Y H Q:=by
 obtain⟨ds,h1,g1⟩:=bnd hf;by_cases hz:ds.length<=1000000
 ·rw[aG hz]at g1;obtain⟨res,h2,g2⟩:=bnd g1;cases g2
  refine hi U Y H P F ds _ S h1 λJ xs Pr H1 e1 hw tK hx Dl hD=>?_
  have rK:=hx.length;have G_:Dl∉F:=λz=>by obtain⟨zs,w⟩:=S.lst' e1 Dl z;rw[hD]at w;cases w
  refine b0g hw (λi ys Y' H'=>(∃os:L2.St,os.length=n/\Y'=os++js.map λj=>(Y[j]?).getD el)/\H' Dl=cz (.lst ys)/\Same H1 H'/\∃(fp:List aw) (zs rs:List D),ListAll (Own X.K H' (Dl::fp++F) u) ys zs fp/\fp.Nodup/\(∀a∈fp,H1 a=el)/\Dl∉fp/\
    O5 pt ft fe (js.map λj=>U.getD j .none) (ds.drop i)=cz rs/\res=zs++rs/\ys.length<=i) ?_ ?_ ?_ ?_
  ·exact⟨⟨_,by rw[gd];exact vO,rfl⟩,i7,l9 hD _,[],[],res,n5,bu,λa ha=>(nomatch ha),λh=>(nomatch h),h2,rfl,aE _⟩
  ·rintro i ys Y' H' ⟨_,_,e,_⟩;exact tK H' (i8.trans e)
  ·rintro i x ys Y' H' sJ ⟨⟨os,ho,rfl⟩,uR,e2,fp,zs,rs,lO,jk,qx,qK,hc,pZ,xD⟩;obtain⟨d,qB,_⟩:=hx.getV sJ;have mz:i<ds.length:=(aU.mp qB).1;have lM:ds.drop i=d::ds.drop (i+1):=by
    rw[fC mz]
    congr 1;exact (aU.mp qB).2
   rw[lM]at hc;obtain⟨bs,k,Bm,Ee,Ed⟩:=a7J hc;have hfl:∀a∈Dl::fp,∃zs:MuO,H' a=cz zs.1:=λa ha=>by
    rcases az.mp ha with z|z
    ·subst z;exact⟨⟨.lst ys,trivial⟩,uR⟩
    ·exact lO.lst (u:=u) (λv d f q=>q.lst u) a z
   have om:∀a∈Dl::fp,H1 a=el:=λa ha=>by
    rcases az.mp ha with z|z
    ·subst z;exact hD
    ·exact qx a z
   have S1:StE X.K M U Y H' P (Dl::fp++F):=(S.grow e1).more (fp:=Dl::fp) e2 om hfl;have zP:DenAll X.K (cut H' (Dl::fp++F)) xs ds:=hx.up (a0H (fp:=Dl::fp) e2 om);obtain⟨d',wz,uc⟩:=zP.getV sJ;rw[qB]at wz;cases wz
   refine hg H' _ x d bs _ _ i8 uc Bm (by rw[ba,ho];lia) λvs qX xE=>?_
   rw[List.drop_append_of_le_length (by lia),List.drop_of_length_le (by lia),b_];have SB:StE X.K (W7 (.own m) n M js) (bs++js.map λj=>U.getD j .none) (vs.map cz++js.map λj=>(Y[j]?).getD el) H' P (Dl::fp++F):=
    b2c S1 hm qX (λe=>qd e U ds h1 d (bo qB) bs Bm) xE rfl
   refine⟨_,P,_,k,SB,Ee,λH3 e3=>?_⟩;rcases Ed with⟨rfl,y,rest,Ec,yY,rfl⟩|⟨rfl,yY⟩
   ·refine a5f ⟨_,P,_,y,SB.grow e3,Ec,λv H4 e4 ⟨gp,o,nd,fr⟩=>?_⟩;have xZ:=e3.trans e4;have By:Dl∉gp:=λz=>by have w:=fr Dl z;rw[e3 _ _ uR]at w;cases w
    have EJ:∀a∈gp,a∉fp:=λa ha z=>by
     obtain⟨zs,w⟩:=hfl a (ai _ z);have w2:=fr a ha;rw[e3 _ _ w]at w2;cases w2
    have jw:∀a,a∈Dl::(fp++gp)++F->a∈gp++(Dl::fp++F):=λa ha=>by
     simp only[bp,az,aB]at ha ⊢;rcases ha with z|(z|z)|z
     ·exact .inr (.inl z)
     ·exact .inr (.inr (.inl z))
     ·exact .inl z
     ·exact .inr (.inr (.inr z))
    have zR:Same (cut H' (Dl::fp++F)) (cut (upd H4 Dl (.lst (ys++[v]))) (Dl::(fp++gp)++F)):=λa o' ha=>by
     obtain⟨n1,n2⟩:=p7 ha;have gy:a≠Dl:=λz=>n1 (by rw[z];exact aJ _ ah)
     refine j8 (λz=>?_) (by rw[f8 gy];exact xZ _ _ n2);rcases aB.mp (jw a z) with w|w
     ·have:=fr a w;rw[e3 _ _ n2]at this;cases this
     ·exact n1 w
    have Fb:Same (cut H4 (gp++(Dl::fp++F))) (cut (upd H4 Dl (.lst (ys++[v]))) (Dl::(fp++gp)++F)):=λa o' ha=>by
     obtain⟨n1,n2⟩:=p7 ha;have gy:a≠Dl:=λz=>n1 (by rw[z];exact ay _ (aJ _ ah))
     exact j8 (λz=>n1 (jw a z)) (by rw[f8 gy];exact n2)
    refine⟨xZ _ _ uR,?_,⟨_,by rw[au];exact xE,rfl⟩,i7,?_,fp++gp,zs++[y],rest,?_,?_,?_,?_,yY,by rw[pZ,bx];rfl,by rw[ba];simp;lia⟩
    ·exact h_ (cA xD (cA (dP mz) hz)) (by rw[cR];decide)
    ·exact b1O (e2.trans xZ) hD _
    ·refine (n6 zR lO λa ha=>?_).append ?_
     ·rw[f8 (show a≠Dl from λz=>qK (z▸ha))];obtain⟨zs,w⟩:=hfl a (ai _ ha);rw[w,xZ _ _ w]
     ·have:=m4 (R:=Own X.K (upd H4 Dl (.lst (ys++[v]))) (Dl::(fp++gp)++F) u) (o.frame Fb u λa ha=>f8 (λz=>By (z▸ha))) n5
      rwa[bK]at this
    ·rw[bb];exact⟨jk,nd,λa ha b hb e=>EJ b hb (e▸ha)⟩
    ·intro a ha;rcases aB.mp ha with z|z
     ·exact qx a z
     ·exact (e2.trans e3).free (fr a z)
    ·intro z;rcases aB.mp z with w|w
     ·exact qK w
     ·exact By w
   ·refine a5e ?_;have zR:Same (cut H' (Dl::fp++F)) (cut H3 (Dl::fp++F)):=B2 e3;refine⟨⟨_,by rw[au];exact xE,rfl⟩,e3 _ _ uR,e2.trans e3,fp,zs,rs,n6 zR lO λa ha=>?_,jk,qx,qK,yY,pZ,by lia⟩;obtain⟨zs,w⟩:=hfl a (ai _ ha);rw[w,e3 _ _ w]
  ·rintro ys Y' H' ⟨_,uR,e2,fp,zs,rs,lO,jk,qx,qK,hc,pZ,_⟩;rw[rK,kD]at hc;cases hc
   rw[bK]at pZ;subst pZ;refine q (.ref Dl) H' (e1.trans e2) ⟨Dl::fp,?_,bt.mpr ⟨qK,jk⟩,λa ha=>?_⟩
   ·simp only[Own];exact .inr ⟨Dl,ys,res,fp,rfl,uR,rfl,rfl,lO⟩
   ·rcases az.mp ha with z|z
    ·subst z;exact e1.free hD
    ·exact e1.free (qx a z)
 ·rw[aL hz]at g1;cases g1
def L3(hc:X.calm=p4)(hi:PIX X M tg iter fi)(C:X9 scope X.env.kindOf ys js X.N=p4)(hg:∀cl Cl s H fp,PG (O2 X (tn++ys) scope cl Cl s H fp) tg g)(zy:TgR X.K g n pt)(hm:m=.i\/m=.f)
  (qd:m=.i->∀U ds,fi U=cz ds->∀d∈ds,∀bs,pt d=cz bs->g9 bs=p4) (vO:tn.length=n)
  (ht:∀cl Cl s H fp,PTs (O2 X (tn++ys) scope cl Cl s H fp) ifs (spT X.K (W7 (.own m) n M js) ft)) (he:∀cl Cl s H fp,PX (O2 X (tn++ys) scope cl Cl s H fp) (W7 (.own m) n M js) elt fe (.new u))
  (hs:∀x,eW iter X.env x=pure x:=by intro _;rfl):PX X M (.ListComp elt [⟨tg,iter,ifs,0⟩] scope pos) (n4 fi js pt ft fe) (.new (.l u)):=by
 obtain⟨wi,pi,qi⟩:=hi;exact .mk ⟨_,b1P (te:=spE X.K (W7 (.own m) n M js) fe (.new u)) hc pi C hg ht he hs,λU Y H P F d Q S hf q=>a4l qi zy hm qd vO S hf q⟩
def D8:∀{X':Cx} {M':List Md},PTs X' [] (spT X'.K M' tT):=λ{X' M'} pins s Y H Q I ⟨U,P,F,b,S,hb,q⟩=>by
 cases hb
 exact b4D pins s Y H Q I (q H (Same.refl _))
def a7K(h:PTX X' M' c f):PTs X' [c] (spT X'.K M' f):=b4E h
def a4m:(Ty.f=Ty.i)->∀(U ds:List D),fi U=cz ds->∀d∈ds,∀bs,pt d=cz bs->g9 bs=p4:=λh=>nomatch h
def a2O:(Ty.i=Ty.i)->∀(U ds:List D),iI fi U=cz ds->∀d∈ds,∀bs,pt1 d=cz bs->g9 bs=p4:=λ_ U ds h d hd bs hb=>by
 obtain⟨es,_,g1⟩:=bnd h;by_cases c:g9 es=p4
 ·rw[aG c]at g1;cases g1
  cases hb
  simp only[g9,dE];exact B4 c hd
 ·rw[aL c]at g1;cases g1
def b9z:(Ty.i=Ty.i)->∀(U ds:List D),iI fi U=cz ds->∀d∈ds,∀bs,pt2 d=cz bs->g9 bs=p4:=λ_ U ds h d hd bs hb=>by
 obtain⟨es,_,g1⟩:=bnd h;by_cases c:g9 es=p4
 ·rw[aG c]at g1;cases g1
  have:=B4 c hd
  match d,hb with
  |.tuple [a,b],hb=>
   cases hb
   simpa only [imm]using this
 ·rw[aL c]at g1;cases g1
def a5o(lo:Int)(n:Nat):g9 (J9 lo n)=p4:=by
 have:∀l:List Nat,g9 (l.map λ(k:Nat)=>aF (lo+k))=p4:=by
  intro l
  induction l with
  |nil=>simp only[cB,g9]
  |cons x l ih=>simp only[av,g9,imm,ih,hJ]
 exact this _
def b2d:(Ty.i=Ty.i)->∀(U ds:List D),iR fa U=cz ds->∀d∈ds,∀bs,pt1 d=cz bs->g9 bs=p4:=λ_ U ds h d hd bs hb=>by
 obtain⟨x,h1,g1⟩:=bnd h;obtain⟨k,h2,g2⟩:=bnd g1
 split at g2
 ·cases g2
  cases hb
  simp only[g9,dE];exact B4 (a5o _ _) hd
 ·cases g2
end
section
variable {K:af}{H H' P:Hp}{F F':List aw}
theorem StAll.split:∀{A B:List Md} {U:List D} {Y:L2.St} {G:List aw},StAll K H F (A++B) U Y G->∃U1 U2 Y1 Y2 G1 G2,U=U1++U2/\Y=Y1++Y2/\G=G1++G2/\StAll K H F A U1 Y1 G1/\StAll K H F B U2 Y2 G2
 |[],B,U,Y,G,h=>⟨[],U,[],Y,[],G,rfl,rfl,rfl,M4,h⟩
 |m::A,B,_,_,_,h=>by
  simp only[bp,StAll]at h;obtain⟨d,U,o,Y,f,g,rfl,rfl,rfl,h1,h2⟩:=h;obtain⟨U1,U2,Y1,Y2,G1,G2,rfl,rfl,rfl,h3,h4⟩:=StAll.split h2;exact⟨d::U1,U2,o::Y1,Y2,f++G1,G2,rfl,rfl,by rw[bx],l6 h1 h3,h4⟩
theorem StAll.join:∀{A B:List Md} {U1 U2:List D} {Y1 Y2:L2.St} {G1 G2:List aw},StAll K H F A U1 Y1 G1->StAll K H F B U2 Y2 G2->StAll K H F (A++B) (U1++U2) (Y1++Y2) (G1++G2)
 |[],B,_,_,_,_,_,_,h,q=>by
  simp only[StAll]at h;obtain⟨rfl,rfl,rfl⟩:=h;exact q
 |m::A,B,_,_,_,_,_,_,h,q=>by
  simp only[StAll]at h;obtain⟨d,U,o,Y,f,g,rfl,rfl,rfl,h1,h2⟩:=h;rw[bx];exact l6 h1 (StAll.join h2 q)
def a6l{α:Type}{a b c d:List α}(h:a++b=c++d)(hl:a.length=c.length):a=c/\b=d:=List.append_inj h hl
def StAll.splitAt{A B:List Md}{U1 U2:List D}{Y1 Y2:L2.St}(h:StAll K H F (A++B) (U1++U2) (Y1++Y2) G)(hU:U1.length=A.length)(hY:Y1.length=A.length):∃G1 G2,G=G1++G2/\StAll K H F A U1 Y1 G1/\StAll K H F B U2 Y2 G2:=by
 obtain⟨r1,r2,s1,s2,G1,G2,e1,e2,e3,h1,h2⟩:=h.split;obtain⟨l1,l2⟩:=h1.len;obtain⟨rfl,rfl⟩:=a6l e1 (by lia);obtain⟨rfl,rfl⟩:=a6l e2 (by lia);exact⟨G1,G2,e3,h1,h2⟩
theorem a0P:∀{us:List Ty} {vs:List V} {ds:List D} {G:List aw},StAll K H F (us.map Md.own) ds (vs.map cz) G->OwnTs K H F us vs ds G
 |[],vs,ds,G,h=>by
  simp only[cB,StAll]at h;obtain⟨rfl,e,rfl⟩:=h;have:vs=[]:=by simpa using e
  subst this;simp only[OwnTs];exact⟨trivial,trivial,trivial⟩
 |u::us,vs,ds,G,h=>by
  simp only[av,StAll]at h;obtain⟨d,U,o,Y,f,g,rfl,e,rfl,⟨v,rfl,h1⟩,h2⟩:=h;cases vs with
  |nil=>simp at e
  |cons v' vs=>
   simp only[av,Hu,nL]at e;obtain⟨rfl,rfl⟩:=e;simp only[OwnTs];exact⟨v',vs,d,U,f,g,rfl,rfl,rfl,h1,a0P h2⟩
end
def Pend(K:af)(Mp:List Md)(Up:List D)(Yp:L2.St)(M:List Md)(U:List D)(Y:L2.St)(H P:Hp)(F:List aw):Prop:=
 Up.length=Mp.length/\Yp.length=Mp.length/\StR K (Mp++M) (Up++U) (Yp++Y) H P F
section
variable {K:af}{Mp M:List Md}{Up U:List D}{Yp Y:L2.St}{H H' P:Hp}{F:List aw}
def Pend.e(h:Pend K Mp Up Yp M U Y H P F):StE K M U Y H P F:=by
 obtain⟨l1,l2,S⟩:=h;obtain⟨G,h1,h2,h3⟩:=S.all;obtain⟨G1,G2,rfl,_,h4⟩:=h1.splitAt l1 l2;exact⟨⟨G2,h4,λa ha=>h3 a (ay _ ha)⟩,S.lst,S.prot⟩
theorem Pend.grow(h:Pend K Mp Up Yp M U Y H P F)(e:Same H H'):Pend K Mp Up Yp M U Y H' P F:=⟨h.1,h.2.1,h.2.2.grow e⟩
def Pend.new(h:Pend K Mp Up Yp M U Y H P F)(e:Same H H')(o:Own K H' (fp++F) u v d fp)(nd:fp.Nodup)(fr:∀a∈fp,H a=el):Pend K (Mp++[.own u]) (Up++[d]) (Yp++[cz v]) M U Y H' P (fp++F):=by
 obtain⟨l1,l2,S⟩:=h;refine⟨by simp[l1],by simp[l2],?_⟩;have S1:=S.more e fr (o.lst u);obtain⟨G,h1,h2,h3⟩:=S.all;obtain⟨G1,G2,rfl,h4,h5⟩:=h1.splitAt l1 l2;have hc:Same (cut H F) (cut H' (fp++F)):=a0H e fr;have k:∀a∈G1++G2,H' a=H a:=λa ha=>S.toE.keep e a (h3 a ha)
 have q:=(h4.frame hc λa ha=>k a (aJ _ ha)).join ((l6 (m:=.own u) (d:=d) (o:=cz v) (f:=fp) ⟨v,rfl,o⟩ (h5.frame hc λa ha=>k a (ay _ ha))));refine⟨⟨G1++(fp++G2),by simpa using q,a1s h2 nd λa ha z=>?_,λa ha=>?_⟩,S1.lst,S1.prot⟩
 ·obtain⟨ys,w⟩:=S.lst a (h3 a z);rw[fr a ha]at w;cases w
 ·rcases a5m ha with z|z
  ·exact aJ _ z
  ·exact ay _ (h3 a z)
def Pend.move(h:Pend K Mp Up Yp M U Y H P F)(hm:M[i]?=cz (.own u)):∃v,Y[i]?=cz (cz v)/\Pend K (Mp++[.own u]) (Up++[U.getD i .none]) (Yp++[cz v]) (M.set i .dead) U Y H P F:=by
 obtain⟨l1,l2,S⟩:=h;obtain⟨G,h1,h2,h3⟩:=S.all;obtain⟨G1,G2,rfl,h4,h5⟩:=h1.splitAt l1 l2;obtain⟨d,o,f,pre,post,e1,e2,⟨v,rfl,e3⟩,rfl,e5⟩:=h5.at_ hm;have q:=e5 H F .dead d (cz v) [] (λ_ _=>rfl) (Same.refl _) rfl;rw[set_same e1,set_same e2]at q;refine⟨v,e2,by simp[l1],by simp[l2],⟨⟨G1++(f++(pre++([]++post))),?_,?_,λa ha=>h3 a ?_⟩,S.lst,S.prot⟩⟩
 ·have:=h4.join (l6 (m:=.own u) (d:=d) (o:=cz v) (f:=f) ⟨v,rfl,e3⟩ q);rw[y7 e1];simpa using this
 ·rw[b_];refine (List.Perm.nodup_iff ?_).mp h2;refine va G1 ?_;exact List.perm_append_comm_assoc pre f post
 ·simp only[aB,b_]at ha ⊢;rcases ha with z|z|z|z
  ·exact .inl z
  ·exact .inr (.inr (.inl z))
  ·exact .inr (.inl z)
  ·exact .inr (.inr (.inr z))
end
noncomputable def PMX(X:Cx)(M:List Md)(e:Expr)(f:EvE)(u:Ty)(M1:List Md):Prop:=
 ∃t,PE X e t/\∀(Mp:List Md) (Up:List D) (Yp:L2.St) (U:List D) (Y:L2.St) (H P:Hp) (F:List aw) (d:D) (Q:VK),Pend X.K Mp Up Yp M U Y H P F->f U=cz d->
  (∀v H' F',Same H H'->Pend X.K (Mp++[.own u]) (Up++[d]) (Yp++[cz v]) M1 U Y H' P F'->Q v H')->t Y H Q
section
variable {X:Cx}{M M1 M2:List Md}{e:Expr}{es:List Expr}{f:EvE}{fa:EvA}{u:Ty}{us:List Ty}{pos:eS}
def b9(h:PX X M e f (.new u)):PMX X M e f u M:=by
 obtain⟨t,p,q⟩:=h.out;refine⟨t,p,λMp Up Yp U Y H P F d Q S hf k=>q U Y H P F d Q S.e hf λv H' e ⟨fp,o,nd,fr⟩=>k v H' _ e (S.new e o nd fr)⟩
def Y2(i:Nat)(hN:X.N[i]?=cz x:=by rfl)(hv:Vis X.env.scope x:=by first|exact bR rfl|exact bT (bR rfl)|exact bT (bT rfl))(hd:(x==("__debug__":bC))=rp:=by decide)
  (iG:(x==("__classdict__":bC))=rp:=by decide) (hm:M[i]?=cz (.own u):=by rfl):PMX X M (.Name x pos) (b7 i) u (M.set i .dead):=by
 refine⟨_,C7 hN hv hd iG,λMp Up Yp U Y H P F d Q S hf k=>?_⟩;cases hf
 obtain⟨v,e,S'⟩:=S.move hm;exact⟨v,e,k v H F (Same.refl _) S'⟩
end
def dAt:Ty->D->List Nat->Option (Ty×D)
 |u,d,[]=>cz (u,d)
 |.l u,.list ds,j::p=>(ds[j]?).bind λd=>dAt u d p
 |.tp us,.tuple ds,j::p=>(us[j]?).bind λu=>(ds[j]?).bind λd=>dAt u d p
 |_,_,_=>el
def a2P:D->List Nat->D->D
 |_,[],e=>e
 |.list ds,j::p,e=>.list (ds.set j (a2P (ds.getD j .none) p e))
 |.tuple ds,j::p,e=>.tuple (ds.set j (a2P (ds.getD j .none) p e))
 |d,_,_=>d
def wk(H:Hp):V->List Nat->V->Prop
 |v,[],w=>w=v
 |v,j::p,w=>∃a xs v1,v=.ref a/\(H a=cz (.lst xs)\/H a=cz (.tup xs))/\xs[j]?=cz v1/\wk H v1 p w
theorem b6o(e:Same H H'):∀{p:List Nat} {v w:V},wk H v p w->wk H' v p w
 |[],_,_,h=>h
 |j::p,_,_,h=>by
  obtain⟨a,xs,v1,h1,h2,h3,h4⟩:=h;exact⟨a,xs,v1,h1,h2.imp (e _ _) (e _ _),h3,b6o e h4⟩
section
variable {K:af}{H H':Hp}{F F':List aw}
theorem ListAll.zip:∀{ds:List D} {xs:List V} {fp:List aw} {j:Nat} {d:D},ListAll (Own K H F u) xs ds fp->ds[j]?=cz d->
  ∃v f pre post,xs[j]?=cz v/\Own K H F u v d f/\fp=pre++(f++post)/\
   ∀(H':Hp) (F':List aw) (v':V) (d':D) (f':List aw),(∀a∈pre++post,H' a=H a)->Same (cut H F) (cut H' F')->Own K H' F' u v' d' f'->ListAll (Own K H' F' u) (xs.set j v') (ds.set j d') (pre++(f'++post))
 |[],_,_,j,d,_,e=>by simp at e
 |d0::ds,_,_,0,d,h,e=>by
  obtain⟨v,r,f,g,rfl,rfl,h1,h2⟩:=h.cons_inv;have:d0=d:=by simpa using e
  subst this;refine⟨v,f,[],g,rfl,h1,rfl,λH' F' v' d' f' k e' o=>?_⟩;show ListAll (Own K H' F' u) (v'::r) (d'::ds) (f'++g);exact m4 o (n6 e' h2 k)
 |d0::ds,_,_,j+1,d,h,e=>by
  obtain⟨v,r,f,g,rfl,rfl,h1,h2⟩:=h.cons_inv;obtain⟨w,f',pre,post,e1,e2,e3,e4⟩:=ListAll.zip (j:=j) h2 (by simpa using e);subst e3;refine⟨w,f',f++pre,post,by simpa using e1,e2,by rw[bx],λH' F' v' d' g' k e' o=>?_⟩;rw[bx];refine m4 (h1.frame e' u λa ha=>k a ?_) (e4 H' F' v' d' g' (λa ha=>k a ?_) e' o)
  ·rw[bx];exact aJ _ ha
  ·rw[bx];exact ay _ ha
theorem OwnTs.zip:∀{us:List Ty} {ds:List D} {xs:List V} {fp:List aw} {j:Nat} {u:Ty} {d:D},OwnTs K H F us xs ds fp->us[j]?=cz u->ds[j]?=cz d->
  ∃v f pre post,xs[j]?=cz v/\Own K H F u v d f/\fp=pre++(f++post)/\
   ∀(H':Hp) (F':List aw) (d':D) (f':List aw),(∀a∈pre++post,H' a=H a)->Same (cut H F) (cut H' F')->Own K H' F' u v d' f'->OwnTs K H' F' us xs (ds.set j d') (pre++(f'++post))
 |[],_,_,_,j,u,d,_,e,_=>by simp at e
 |u0::us,_,_,_,0,u,d,h,e,e'=>by
  simp only[OwnTs]at h;obtain⟨v,r,d0,ds,f,g,rfl,rfl,rfl,h1,h2⟩:=h;have:u0=u:=by simpa using e
  subst this;have:d0=d:=by simpa using e'
  subst this;refine⟨v,f,[],g,rfl,h1,rfl,λH' F' d' f' k e' o=>?_⟩;show OwnTs K H' F' (u0::us) (v::r) (d'::ds) (f'++g);simp only[OwnTs];exact⟨v,r,d',ds,f',g,rfl,rfl,rfl,o,h2.frame e' us k⟩
 |u0::us,_,_,_,j+1,u,d,h,e,e'=>by
  simp only[OwnTs]at h;obtain⟨v,r,d0,ds,f,g,rfl,rfl,rfl,h1,h2⟩:=h;obtain⟨w,f',pre,post,e1,e2,e3,e4⟩:=OwnTs.zip (j:=j) h2 (by simpa using e) (by simpa using e');subst e3;refine⟨w,f',f++pre,post,by simpa using e1,e2,by rw[bx],λH' F' d' g' k e' o=>?_⟩;rw[bx];show OwnTs K H' F' (u0::us) (v::r) (d0::ds.set j d') (f++(pre++(g'++post)));simp only[OwnTs];refine⟨v,r,d0,_,f,_,rfl,rfl,rfl,h1.frame e' u0 λa ha=>k a ?_,e4 H' F' d' g' (λa ha=>k a ?_) e' o⟩
  ·rw[bx];exact aJ _ ha
  ·rw[bx];exact ay _ ha
theorem Own.path:∀(p:List Nat) {u t:Ty} {v w:V} {d:D} {fp:List aw} {ds:List D},Own K H F u v d fp->dAt u d p=cz (.l t,.list ds)->wk H v p w->
  ∃b xs fs pre post,w=.ref b/\H b=cz (.lst xs)/\fp=pre++((b::fs)++post)/\ListAll (Own K H F t) xs ds fs/\
   ∀(H':Hp) (F':List aw) (mq:List V) (iy:List D) (ko:List aw),(∀a∈pre++post,H' a=H a)->Same (cut H F) (cut H' F')->H' b=cz (.lst mq)->ListAll (Own K H' F' t) mq iy ko->
    Own K H' F' u v (a2P d p (.list iy)) (pre++((b::ko)++post))
 |[],u,t,v,w,d,fp,ds,h,hd,hw=>by
  have lE:cz (u,d)=cz (.l t,.list ds):=hd;cases lE
  have DL:w=v:=hw;subst DL;simp only[Own]at h;rcases h with⟨_,hi,_⟩|⟨a,xs,iy,fs,rfl,h1,h2,rfl,h3⟩
  ·simp only[imm]at hi;cases hi
  ·cases h2
   refine⟨a,xs,fs,[],[],rfl,h1,by simp,h3,λH' F' mq iy ko _ _ k o=>?_⟩;simp only[Own,a2P,b_,bK];exact .inr ⟨a,mq,iy,ko,rfl,k,rfl,rfl,o⟩
 |j::p,u,t,v,w,d,fp,ds,h,hd,hw=>by
  obtain⟨a0,ve,v1,rfl,uH,sP,hw⟩:=hw;cases u with
  |l u=>
   cases d with
   |list es=>
    have lE:(es[j]?).bind (λd=>dAt u d p)=cz (.l t,.list ds):=hd;obtain⟨d1,g1,g2⟩:=bnd lE;simp only[Own]at h;rcases h with⟨_,hi,_⟩|⟨a,xs,fm,fs,e0,h1,h2,rfl,h3⟩
    ·simp only[imm]at hi;cases hi
    ·cases h2
     cases e0
     have vL:ve=xs:=by rcases uH with z|z<;>rw[h1]at z<;>cases z;rfl
     subst vL;obtain⟨v2,f,pre,post,z1,z2,rfl,z4⟩:=h3.zip g1;rw[sP]at z1;cases z1
     obtain⟨b,ys,ko,mJ,kn,rfl,q2,rfl,q4,q5⟩:=Own.path p z2 g2 hw;refine⟨b,ys,ko,a0::(pre++mJ),kn++post,rfl,q2,by simp,q4,λH' F' mq iy z_ k e' hb o=>?_⟩;have k1:∀a∈pre++post,H' a=H a:=λa ha=>k a (by simp only[aB,az]at ha ⊢;rcases ha with z|z;exact .inl (.inr (.inl z));exact .inr (.inr z))
     have k2:∀a∈mJ++kn,H' a=H a:=λa ha=>k a (by simp only[aB,az]at ha ⊢;rcases ha with z|z;exact .inl (.inr (.inr z));exact .inr (.inl z))
     have o1:=q5 H' F' mq iy z_ k2 e' hb o;have o2:=z4 H' F' _ _ _ k1 e' o1;rw[set_same sP]at o2;show Own K H' F' (.l u) (.ref a0) (.list (es.set j (a2P (es.getD j .none) p (.list iy)))) _;rw[y7 g1];simp only[Own];refine .inr ⟨a0,ve,_,_,rfl,(k a0 (by simp)).trans h1,rfl,?_,o2⟩;simp
   |_=>cases hd
  |tp us=>
   cases d with
   |tuple es=>
    have lE:(us[j]?).bind (λu=>(es[j]?).bind λd=>dAt u d p)=cz (.l t,.list ds):=hd;obtain⟨u1,g0,FJ⟩:=bnd lE;obtain⟨d1,g1,g2⟩:=bnd FJ;simp only[Own]at h;rcases h with⟨_,hi,_⟩|⟨a,xs,fm,e0,h1,h0,h2,h3⟩
    ·exact (hi.2 _ rfl).elim
    cases h2
    cases e0
    have vL:ve=xs:=by rcases uH with z|z<;>rw[h1]at z<;>cases z;rfl
    subst vL;obtain⟨v2,f,pre,post,z1,z2,rfl,z4⟩:=h3.zip g0 g1;rw[sP]at z1;cases z1
    obtain⟨b,ys,ko,mJ,kn,rfl,q2,rfl,q4,q5⟩:=Own.path p z2 g2 hw;refine⟨b,ys,ko,pre++mJ,kn++post,rfl,q2,by simp,q4,λH' F' mq iy z_ k e' hb o=>?_⟩;have k1:∀a∈pre++post,H' a=H a:=λa ha=>k a (by simp only[aB]at ha ⊢;rcases ha with z|z;exact .inl (.inl z);exact .inr (.inr z))
    have k2:∀a∈mJ++kn,H' a=H a:=λa ha=>k a (by simp only[aB]at ha ⊢;rcases ha with z|z;exact .inl (.inr z);exact .inr (.inl z))
    have o1:=q5 H' F' mq iy z_ k2 e' hb o;have o2:=z4 H' F' _ _ k1 e' o1;show Own K H' F' (.tp us) (.ref a0) (.tuple (es.set j (a2P (es.getD j .none) p (.list iy)))) _;rw[y7 g1];obtain⟨n1,n2⟩:=p7 (e' a0 _ (j8 h0 h1));simp only[Own];refine .inr ⟨a0,ve,_,rfl,n2,n1,rfl,?_⟩;simpa using o2
   |_=>cases hd
  |i=>cases hd
  |f=>cases hd
  |d kt u=>cases hd
def N4{N O:List aw}(h:O.Nodup)(k:∀a,N.count a<=O.count a):N.Nodup:=cJ.mpr λa=>cA (k a) (cJ.mp h a)
def Pend.put(h:Pend K ([]++[.own t]) ([]++[d]) ([]++[cz v]) M U Y H P F)(hm:M[i]?=cz (.own u))(h0:Y[i]?=cz (cz v0))(hd:dAt u (U.getD i .none) p=cz (.l t,.list ds))(hw:wk H v0 p w) :
  ∃b xs,w=.ref b/\H b=cz (.lst xs)/\xs.length=ds.length/\StR K M (U.set i (a2P (U.getD i .none) p (.list (ds++[d])))) Y (upd H b (.lst (xs++[v]))) P F/\
   ∀j,j<ds.length->StR K M (U.set i (a2P (U.getD i .none) p (.list (ds.set j d)))) Y (upd H b (.lst (xs.set j v))) P F:=by
 obtain⟨_,_,S⟩:=h;obtain⟨G,h1,h2,h3⟩:=S.all;have lQ:StAll K H F (.own t::M) (d::U) (cz v::Y) G:=by simpa using h1
 simp only[StAll]at lQ;obtain⟨d',U',o',Y',fv,G2,e1,e2,rfl,⟨v',e3,ov⟩,h5⟩:=lQ;cases e1
 cases e2
 cases e3
 obtain⟨dd,oo,f,pre,post,q1,q2,⟨v2,rfl,q3⟩,rfl,q5⟩:=h5.at_ hm;rw[h0]at q2;cases q2
 rw[y7 q1]at hd;obtain⟨b,xs,fs,mJ,kn,rfl,r2,rfl,r4,r5⟩:=q3.path p hd hw;have wG:b∈F:=h3 b (by simp);have fN:∀o,Same (cut H F) (cut (upd H b o) F):=λo a o' ha=>by
  obtain⟨n1,n2⟩:=p7 ha;exact j8 n1 (by rw[f8 (show a≠b from λz=>n1 (z▸wG))];exact n2)
 have iE:∀a,a≠b\/(pre++post).count a=0/\(mJ++kn).count a=0/\fs.count a=0/\fv.count a=0:=λa=>by
  by_cases e:a=b
  ·subst e;have:=cJ.mp h2 a;simp only[bj,bp,gF]at this ⊢;exact .inr ⟨by lia,by lia,by lia,by lia⟩
  ·exact .inl e
 have kk:∀(l:List aw) (o:HO),(∀a,a=b->l.count a=0)->∀a∈l,upd H b o a=H a:=λl o hc a ha=>f8 λz=>by
  have:=hc a z;rw[dH]at this;exact this ha
 have c1:∀a,a=b->(pre++post).count a=0:=λa e=>((iE a).resolve_left (λn=>n e)).1
 have c2:∀a,a=b->(mJ++kn).count a=0:=λa e=>((iE a).resolve_left (λn=>n e)).2.1
 have c3:∀a,a=b->fs.count a=0:=λa e=>((iE a).resolve_left (λn=>n e)).2.2.1
 have c4:∀a,a=b->fv.count a=0:=λa e=>((iE a).resolve_left (λn=>n e)).2.2.2
 have fin:∀(mq:List V) (iy:List D) (ko:List aw),ListAll (Own K (upd H b (.lst mq)) F t) mq iy ko->(∀a,ko.count a<=fs.count a+fv.count a)->StR K M (U.set i (a2P dd p (.list iy))) Y (upd H b (.lst mq)) P F:=λmq iy ko ha mO=>by
  have o1:=r5 (upd H b (.lst mq)) F mq iy ko (kk _ _ c2) (fN _) i7 ha;have q:=q5 (upd H b (.lst mq)) F (.own u) (a2P dd p (.list iy)) (cz v0) _ (kk _ _ c1) (fN _) ⟨v0,rfl,o1⟩;rw[set_same (l:=Y) h0,set_same (l:=M) hm]at q;refine⟨⟨_,q,N4 h2 λa=>?_,λa ha=>?_⟩,λa ha=>?_,S.prot.trans (fN _)⟩
  ·have:=mO a;simp only[bj,bp,c_];lia
  ·have hc:0<(fv++(pre++(mJ++(b::fs++kn)++post))).count a:=by
    have h0:=dm.mpr ha;have:=mO a;simp only[bj,bp,c_]at h0 ⊢;lia
   exact h3 a (dm.mp hc)
  ·by_cases e:a=b
   ·subst e;exact⟨⟨.lst mq,trivial⟩,i7⟩
   ·obtain⟨ys,y⟩:=S.lst a ha;exact⟨ys,by rw[f8 e];exact y⟩
 rw[y7 q1];refine⟨b,xs,rfl,r2,r4.length,fin (xs++[v]) (ds++[d]) (fs++fv) ?_ λa=>by rw[bj];exact aE _,λj hj=>?_⟩
 ·refine (n6 (fN _) r4 (kk _ _ c3)).append ?_;have:=m4 (R:=Own K (upd H b (.lst (xs++[v]))) F t) (ov.frame (fN _) t (kk _ _ c4)) n5
  rwa[bK]at this
 ·obtain⟨v3,f3,a1,a2,s1,s2,rfl,s4⟩:=r4.zip (ao hj);have c5:∀a,a=b->(a1++a2).count a=0:=λa e=>by have:=c3 a e;simp only[bj]at this ⊢;lia
  refine fin (xs.set j v) (ds.set j d) (a1++(fv++a2)) (s4 _ F v d fv (kk _ _ c5) (fN _) (ov.frame (fN _) t (kk _ _ c4))) λa=>?_
  simp only[bj];lia
end
inductive Out where
 |nx (U:List D)|rt (d:D)|bk (U:List D)|ct (U:List D)
abbrev EvS:=List D->Option Out
def EndsOk(K:af)(P:Hp)(u:Ty)(ML M:List Md)(D:Ends)(o:Out):Prop:=
 match o with
 |.nx U=>∀Y H F,StR K M U Y H P F->D.nx Y H
 |.rt d=>∀v H fp,Own K H fp u v d fp->fp.Nodup->(∀a∈fp,P a=el)->Same P H->D.rt v H
 |.bk U=>∀Y H F,StR K ML U Y H P F->D.bk Y H
 |.ct U=>∀Y H F,StR K ML U Y H P F->D.ct Y H
noncomputable def spS(K:af)(u:Ty)(ML M:List Md)(g:EvS)(M':List Md):TS:=λD Y H=>∃(U:List VS.D) (P:Hp) (F:List aw) (o:Out),StR K M U Y H P F/\g U=cz o/\EndsOk K P u ML M' D o
noncomputable def PSX(X:Cx)(u:Ty)(ML M:List Md)(st:hZ)(g:EvS)(M':List Md):Prop:=PS X st (spS X.K u ML M g M')
noncomputable def PSsX(X:Cx)(u:Ty)(ML M:List Md)(sts:List hZ)(g:EvS)(M':List Md):Prop:=PSs X sts (spS X.K u ML M g M')
section
variable {X:Cx}{u:Ty}{ML M M':List Md}{st:hZ}{sts:List hZ}{g:EvS}
def PSX.mk(h:∃t,PS X st t/\∀(D:Ends) (U:List VS.D) (Y:L2.St) (H P:Hp) (F:List aw) (o:Out),StR X.K M U Y H P F->g U=cz o->EndsOk X.K P u ML M' D o->t D Y H):PSX X u ML M st g M':=by
 obtain⟨t,p,q⟩:=h;exact λpins s Y H D I ⟨U,P,F,o,S,hg,k⟩=>p pins s Y H D I (q D U Y H P F o S hg k)
def PSX.out(h:PSX X u ML M st g M'):∃t,PS X st t/\∀(D:Ends) (U:List VS.D) (Y:L2.St) (H P:Hp) (F:List aw) (o:Out),StR X.K M U Y H P F->g U=cz o->EndsOk X.K P u ML M' D o->t D Y H:=
 ⟨_,h,λ_ U _ _ P F o S hg k=>⟨U,P,F,o,S,hg,k⟩⟩
def PSsX.mk(h:∃t,PSs X sts t/\∀(D:Ends) (U:List VS.D) (Y:L2.St) (H P:Hp) (F:List aw) (o:Out),StR X.K M U Y H P F->g U=cz o->EndsOk X.K P u ML M' D o->t D Y H):PSsX X u ML M sts g M':=by
 obtain⟨t,p,q⟩:=h;exact λpins s Y H D I ⟨U,P,F,o,S,hg,k⟩=>p pins s Y H D I (q D U Y H P F o S hg k)
def PSsX.out(h:PSsX X u ML M sts g M'):∃t,PSs X sts t/\∀(D:Ends) (U:List VS.D) (Y:L2.St) (H P:Hp) (F:List aw) (o:Out),StR X.K M U Y H P F->g U=cz o->EndsOk X.K P u ML M' D o->t D Y H:=
 ⟨_,h,λ_ U _ _ P F o S hg k=>⟨U,P,F,o,S,hg,k⟩⟩
end
def Wk(M M1:List Md):Prop:=∀(K:af) (U:List D) (Y:L2.St) (H P:Hp) (F:List aw),StR K M U Y H P F->∃F',StR K M1 U Y H P F'
def l0:Wk M M:=λ_ _ _ _ _ F S=>⟨F,S⟩
def Wk.trans(a:Wk M M1)(b:Wk M1 M2):Wk M M2:=λK U Y H P F S=>by
 obtain⟨F1,S1⟩:=a K U Y H P F S;exact b K U Y H P F1 S1
def l5{M:List Md}(i:Nat)(h:M[i]?=cz m:=by rfl):Wk M (M.set i .dead):=λK U Y H P F S=>⟨F,S.dead h⟩
def C8{M:List Md}(i:Nat)(h:M[i]?=cz (.own u):=by rfl):Wk M (M.set i (.own .f)):=λK U Y H P F S=>S.freeze h
noncomputable def u6:EvS:=λU=>cz (.nx U)
noncomputable def i6(a b:EvS):EvS:=λU=>(a U).bind λo=>match o with
 |.nx U'=>b U'
 |o=>cz o
noncomputable def l7(i:Nat)(f:EvE):EvS:=λU=>(f U).bind λd=>cz (.nx (U.set i d))
def asP:D->Option (D×D)
 |.tuple [a,b]=>cz (a,b)
 |_=>el
noncomputable def a4n(i j:Nat)(f:EvE):EvS:=λU=>(f U).bind λd=>(asP d).bind λp=>cz (.nx ((U.set i p.1).set j p.2))
noncomputable def m8(f:EvE):EvS:=λU=>(f U).bind λd=>cz (.rt d)
noncomputable def sEx(f:EvE):EvS:=λU=>(f U).bind λ_=>cz (.nx U)
noncomputable def sIf(c:EvT)(a b:EvS):EvS:=λU=>(c U).bind λk=>if k then a U else b U
noncomputable def sNo:EvS:=λ_=>el
noncomputable def G7(set:List D->D->Option (List D))(g:EvS):List D->List D->Option Out
 |[],U=>cz (.nx U)
 |d::ds,U=>(set U d).bind λU1=>(g U1).bind λo=>match o with
  |.nx U'=>G7 set g ds U'
  |.ct U'=>G7 set g ds U'
  |.bk U'=>cz (.nx U')
  |.rt d=>cz (.rt d)
def v5(i:Nat):List D->D->Option (List D):=λU d=>cz (U.set i d)
def a5p(i j:Nat):List D->D->Option (List D):=λU d=>(asP d).bind λp=>cz ((U.set i p.1).set j p.2)
noncomputable def K4(fi:EvA)(set:List D->D->Option (List D))(g:EvS):EvS:=λU=>(fi U).bind λds=>G7 set g ds U
noncomputable def whL(c:EvT)(g:EvS):Nat->List D->Option Out
 |0,_=>el
 |n+1,U=>(c U).bind λk=>if k then (g U).bind λo=>match o with
  |.nx U'=>whL c g n U'
  |.ct U'=>whL c g n U'
  |.bk U'=>cz (.nx U')
  |.rt d=>cz (.rt d)
  else cz (.nx U)
noncomputable def sWh(n:List D->Nat)(c:EvT)(g:EvS):EvS:=λU=>whL c g (n U) U
section
variable {K:af}{M M1:List Md}{U:List D}{Y:L2.St}{H P:Hp}{F:List aw}
def StR.pend(S:StR K M U Y H P F):Pend K [] [] [] M U Y H P F:=⟨rfl,rfl,S⟩
def Pend.store(h:Pend K (Mp++[.own u]) (Up++[d]) (Yp++[cz v]) M U Y H P F)(lp:Up.length=Mp.length)(lq:Yp.length=Mp.length)(hm:M[i]?=cz m) :
  Pend K Mp Up Yp (M.set i (.own u)) (U.set i d) (Y.set i (cz v)) H P F:=by
 obtain⟨_,_,S⟩:=h;obtain⟨G,h1,h2,h3⟩:=S.all;obtain⟨G1,G2,rfl,h4,h5⟩:=h1.splitAt (by simp[lp]) (by simp[lq]);obtain⟨G3,G4,rfl,h6,h7⟩:=h4.splitAt lp lq;have h8:OwnTs K H F [u] [v] [d] G4:=a0P (us:=[u]) (vs:=[v]) h7;simp only[OwnTs]at h8;obtain⟨v',r,d',e,f,g,e1,e2,rfl,o,rfl,rfl,rfl⟩:=h8;cases e1
 cases e2
 obtain⟨d0,o0,f0,pre,post,q1,q2,q3,rfl,q5⟩:=h5.at_ hm;have q:=h6.join (q5 H F (.own u) d (cz v) f (λ_ _=>rfl) (Same.refl _) ⟨v,rfl,o⟩);refine⟨lp,lq,⟨⟨_,q,N4 h2 λa=>?_,λa ha=>h3 a ?_⟩,S.lst,S.prot⟩⟩
 ·simp only[bj];lia
 ·simp only[aB,bK]at ha ⊢;rcases ha with z|z|z|z
  ·exact .inl (.inl z)
  ·exact .inr (.inl z)
  ·exact .inl (.inr z)
  ·exact .inr (.inr (.inr z))
def Pend.st(h:Pend K [] [] [] M U Y H P F):StR K M U Y H P F:=h.2.2
def Pend.one(h:Pend K ([]++[.own u]) ([]++[d]) ([]++[cz v]) M U Y H P F):∃fp,Own K H F u v d fp/\fp.Nodup/\∀a∈fp,a∈F:=by
 obtain⟨_,_,S⟩:=h;obtain⟨G,h1,h2,h3⟩:=S.all;obtain⟨G1,G2,rfl,h4,h5⟩:=h1.splitAt (A:=[]++[.own u]) (U1:=[]++[d]) (Y1:=[]++[cz v]) rfl rfl;have h8:OwnTs K H F [u] [v] [d] G1:=a0P (us:=[u]) (vs:=[v]) h4;simp only[OwnTs]at h8;obtain⟨v',r,d',e,f,g,e1,e2,rfl,o,rfl,rfl,rfl⟩:=h8;cases e1
 cases e2
 rw[bK]at h2 h3;exact⟨f,o,(bb.mp h2).1,λa ha=>h3 a (aJ _ ha)⟩
def b6p(u u1 u2:Ty):Prop:=(u=.f/\u1=.f/\u2=.f)\/(u=.i/\u1=.i/\u2=.i)\/u=.tp [u1,u2]
def Pend.untup(h:Pend K ([]++[.own u]) ([]++[.tuple [d1,d2]]) ([]++[cz v]) M U Y H P F)(hp:b6p u u1 u2) :
  ∃a v1 v2,v=.ref a/\SqT K H a [v1,v2]/\Pend K ([.own u1]++[.own u2]) ([d1]++[d2]) ([cz v1]++[cz v2]) M U Y H P F:=by
 obtain⟨_,_,S⟩:=h;obtain⟨G,h1,h2,h3⟩:=S.all;obtain⟨G1,G2,rfl,h4,h5⟩:=h1.splitAt (A:=[]++[.own u]) (U1:=[]++[.tuple [d1,d2]]) (Y1:=[]++[cz v]) rfl rfl;have h8:OwnTs K H F [u] [v] [.tuple [d1,d2]] G1:=a0P (us:=[u]) (vs:=[v]) h4;simp only[OwnTs]at h8;obtain⟨v',r,d',e,f,g,e1,e2,rfl,o,rfl,rfl,rfl⟩:=h8;cases e1
 cases e2
 have key:∃a v1 v2 f1 f2,v=.ref a/\SqT K H a [v1,v2]/\f=f1++f2/\Own K H F u1 v1 d1 f1/\Own K H F u2 v2 d2 f2:=by
  rcases hp with⟨rfl,rfl,rfl⟩|⟨rfl,rfl,rfl⟩|rfl
  ·obtain⟨rfl,o'⟩:=a8V o;obtain⟨a,xs,rfl,k1,k2⟩:=o'.tup_inv;obtain⟨v1,v2,rfl,k3,k4⟩:=a0L k2;refine⟨a,v1,v2,[],[],rfl,P7 k1 i8,rfl,?_,?_⟩<;>simp only[Own]
   ·exact⟨trivial,k3⟩
   ·exact⟨trivial,k4⟩
  ·obtain⟨rfl,hi,o'⟩:=V1 o;obtain⟨a,xs,rfl,k1,k2⟩:=o'.tup_inv;obtain⟨v1,v2,rfl,k3,k4⟩:=a0L k2;simp only[imm,g9,ak]at hi;refine⟨a,v1,v2,[],[],rfl,P7 k1 i8,rfl,?_,?_⟩<;>simp only[Own]
   ·exact⟨trivial,hi.1,k3⟩
   ·exact⟨trivial,hi.2.1,k4⟩
  ·simp only[Own,OwnTs]at o;rcases o with⟨_,hi,_⟩|⟨a,xs,ds,rfl,k1,_,e0,v1,r,Hl,e',f1,g1,rfl,e2,rfl,o1,v2,r2,Hk,Hj,f2,g2,rfl,e3,rfl,o2,rfl,rfl,rfl⟩
   ·exact (hi.2 _ rfl).elim
   cases e0
   cases e2
   cases e3
   exact⟨a,v1,v2,f1,f2,rfl,SqT.of k1,by simp,o1,o2⟩
 obtain⟨a,v1,v2,f1,f2,rfl,k1,rfl,o1,o2⟩:=key;refine⟨a,v1,v2,rfl,k1,rfl,rfl,⟨⟨f1++(f2++G2),?_,by simpa using h2,λa ha=>h3 a (by simpa using ha)⟩,S.lst,S.prot⟩⟩;exact l6 (m:=.own u1) ⟨v1,rfl,o1⟩ (l6 (m:=.own u2) ⟨v2,rfl,o2⟩ h5)
end
section
variable {X:Cx}{u t:Ty}{ML M M1 M2 M':List Md}{st:hZ}{sts body Cc:List hZ}{g g1 g2:EvS}{e tg iter:Expr}{f:EvE}{fc:EvT}{fi:EvA}{c:Cat}{pos:eS}
def EndsOk.pre{K:af}{P:Hp}{D:Ends}{o:Out}(h:EndsOk K P u ML M' D o)(hw:Wk M M'):EndsOk K P u ML M D o:=by
 cases o with
 |nx U=>exact λY H F S=>by obtain⟨F',S'⟩:=hw K U Y H P F S;exact h Y H F' S'
 |rt d=>exact h
 |bk U=>exact h
 |ct U=>exact h
def PSsX.weak(h:PSsX X u ML M1 sts g M2)(a:Wk M M1)(b:Wk M2 M'):PSsX X u ML M sts g M':=by
 obtain⟨t,p,q⟩:=h.out;refine .mk ⟨t,p,λD U Y H P F o S hg k=>?_⟩;obtain⟨F1,S1⟩:=a _ U Y H P F S;exact q D U Y H P F1 o S1 hg (k.pre b)
def PSX.weak(h:PSX X u ML M1 st g M2)(a:Wk M M1)(b:Wk M2 M'):PSX X u ML M st g M':=by
 obtain⟨t,p,q⟩:=h.out;refine .mk ⟨t,p,λD U Y H P F o S hg k=>?_⟩;obtain⟨F1,S1⟩:=a _ U Y H P F S;exact q D U Y H P F1 o S1 hg (k.pre b)
def n8:PSsX X u ML M [] u6 M:=.mk ⟨_,a4Z,λD U Y H P F o S hg k=>by cases hg;exact k Y H F S⟩
def c6(h1:PSX X u ML M st g1 M1)(h2:PSsX X u ML M1 sts g2 M'):PSsX X u ML M (st::sts) (i6 g1 g2) M':=by
 obtain⟨t1,p1,q1⟩:=h1.out;obtain⟨t2,p2,q2⟩:=h2.out;refine .mk ⟨_,V7 p1 p2,λD U Y H P F o S hg k=>?_⟩;obtain⟨o1,h1,g1⟩:=bnd hg;refine q1 {D with nx:=t2 D} U Y H P F o1 S h1 ?_;cases o1 with
 |nx U'=>exact λY' H' F' S'=>q2 D U' Y' H' P F' o S' g1 k
 |rt d=>cases g1;exact k
 |bk U'=>cases g1;exact k
 |ct U'=>cases g1;exact k
def e6(h1:PSX X u ML M st g M1):PSsX X u ML M [st] g M1:=by
 obtain⟨t1,p1,q1⟩:=h1.out;exact .mk ⟨_,b4m p1,q1⟩
def j9(i:Nat)(hN:X.N.Nodup)(he:PMX X M e f t M1)(hi:X.N[i]?=cz x:=by rfl)(hx:Loc X.env.scope x:=by first|exact bR rfl|exact bT rfl)(hm:M1[i]?=cz m:=by rfl)
  (hs:fB e (cz (.Name x px)) pos.line X.env=pure rp:=by rfl) (hf:X.fn x=p4\/X.env.scope.names.lookup x=cz .local:=by first|exact .inl rfl|exact .inr rfl):PSX X u ML M (.Assign [.Name x px] e pos) (l7 i f) (M1.set i (.own t)):=by
 obtain⟨te,pe,qe⟩:=he;refine .mk ⟨_,b1y hN hi hx pe hs hf,λD U Y H P F o S hg k=>?_⟩;obtain⟨d,h1,g1⟩:=bnd hg;cases g1
 exact qe [] [] [] U Y H P F d _ S.pend h1 λv H' F' e S'=>k _ _ F' (S'.store rfl rfl hm).st
def b4Q(i j:Nat){pt pk}(hN:X.N.Nodup)(hc:X.calm=p4)(he:PMX X M e f t M1)(hp:b6p t u1 u2)(hi:X.N[i]?=cz x:=by rfl)(hj:X.N[j]?=cz y:=by rfl)(hx:Loc X.env.scope x:=by first|exact bR rfl|exact bT rfl)
  (hy:Loc X.env.scope y:=by first|exact bR rfl|exact bT rfl) (o_:i≠j:=by decide) (tR:M1[i]?=cz m1:=by rfl) (zh:M1[j]?=cz m2:=by rfl)
  (EL:X.fn x=p4\/X.env.scope.names.lookup x=cz .local:=by first|exact .inl rfl|exact .inr rfl) (zE:X.fn y=p4\/X.env.scope.names.lookup y=cz .local:=by first|exact .inl rfl|exact .inr rfl)
  (hl:(iB [.Name x px,.Name y py] X.env).length=2:=by rfl) (rP:(iB [.Name x px,.Name y py] X.env).findIdx? (·.1)=el:=by rfl)
  (hg1:PGs X [.Name x px,.Name y py] (a2E (Q5 i) (a2E (Q5 j) b4n)):=by exact p6 (p5 hN hi hx EL) (p6 (p5 hN hj hy zE) K7))
  (hs:swapsWithSole [.Tuple [.Name x px,.Name y py] pk pt] e pos.line X.env=pure rp:=by rfl) (hw:swappedStores [.Tuple [.Name x px,.Name y py] pk pt] e X.env=pure el:=by rfl)
  (h1:(iB [.Tuple [.Name x px,.Name y py] pk pt] X.env).map (·.2)=[pq (.Tuple [.Name x px,.Name y py] pk pt) X.env]:=by rfl) :
  PSX X u ML M (.Assign [.Tuple [.Name x px,.Name y py] pk pt] e pos) (a4n i j f) ((M1.set i (.own u1)).set j (.own u2)):=by
 obtain⟨te,pe,qe⟩:=he;refine .mk ⟨_,b6Y pe (V8 hc hg1 hl rP) hs hw h1,λD U Y H P F o S hg k=>?_⟩;obtain⟨d,h1,g1⟩:=bnd hg;obtain⟨⟨d1,d2⟩,h2,g2⟩:=bnd g1;cases g2
 have hd:d=.tuple [d1,d2]:=by
  match d,h2 with
  |.tuple [a,b],h2=>cases h2;rfl
 subst hd;refine qe [] [] [] U Y H P F _ _ S.pend h1 λv H' F' e S'=>?_
 obtain⟨a,v1,v2,rfl,k1,S2⟩:=S'.untup hp;refine⟨a,_,rfl,k1,rfl,v1,[v2],rfl,v2,[],rfl,rfl,?_⟩;have S3:=S2.store (i:=j) rfl rfl zh;have zi:(M1.set j (.own u2))[i]?=cz m1:=by rw[fH (dA o_)];exact tR
 have S4:=(Pend.store (Mp:=[]) (Up:=[]) (Yp:=[]) (i:=i) S3 rfl rfl zi).st;rw[sv _ _ (dA o_),sv _ _ (dA o_),sv _ _ (dA o_)]at S4;exact k _ _ F' S4
def j7(he:PMX X M e f u M1):PSX X u ML M (.Return (cz e) pos) (m8 f) M':=by
 obtain⟨te,pe,qe⟩:=he;refine .mk ⟨_,b1w pe,λD U Y H P F o S hg k=>?_⟩;obtain⟨d,h1,g1⟩:=bnd hg;cases g1
 refine qe [] [] [] U Y H P F d _ S.pend h1 λv H' F' e S'=>?_
 obtain⟨fp,o,nd,sub⟩:=S'.one;refine k v H' fp (o.frame (C9 sub) u λ_ _=>rfl) nd (λa ha=>?_) (S'.2.2.prot.trans i8);cases hP:P a with
 |none=>rfl
 |some o'=>
  have:=S'.2.2.prot _ _ hP;rw[W3 (sub a ha)]at this;cases this
def a9a(he:PX X M e f c)(hs:fB e el pos.line X.env=pure rp:=by rfl):PSX X u ML M (.Expr e pos) (sEx f) M:=by
 obtain⟨te,pe,qe⟩:=he.out;refine .mk ⟨_,a0z pe hs,λD U Y H P F o S hg k=>?_⟩;obtain⟨d,h1,g1⟩:=bnd hg;cases g1
 exact qe U Y H P F d _ S.toE h1 λv H' e _=>k Y H' F (S.grow e)
def r9(hc:PTX X M c0 fc)(ha:PSsX X u ML M body g1 M')(hb:PSsX X u ML M Cc g2 M'):PSX X u ML M (.If c0 body Cc pos) (sIf fc g1 g2) M':=by
 obtain⟨tc,pc,qc⟩:=hc.out;obtain⟨ta,pa,qa⟩:=ha.out;obtain⟨tb,pb,qb⟩:=hb.out;refine .mk ⟨_,b6j pc pa pb,λD U Y H P F o S hg k=>?_⟩;obtain⟨b,h1,g1⟩:=bnd hg;refine qc U Y H P F b _ S.toE h1 λH1 e1=>?_
 cases b with
 |true=>exact a5f (qa D U Y H1 P F o (S.grow e1) g1 k)
 |false=>exact a5e (qb D U Y H1 P F o (S.grow e1) g1 k)
def b6q:PSX X u ML M st sNo M':=.mk ⟨_,b1x,λD U Y H P F o S hg k=>by cases hg⟩
def b0h(K:af)(M MB:List Md)(g:TG)(set:List D->D->Option (List D))(m:D->Prop):Prop:=
 ∀(U:List D) (Y:L2.St) (H P:Hp) (F:List aw) (x:V) (d:D) (U':List D) (Q:L2.St->Hp->Prop),StR K M U Y H P F->Den K (cut H F) x d->m d->set U d=cz U'->(∀Y' F',StR K MB U' Y' H P F'->Q Y' H)->g x Y H Q
def mI(d:D):Prop:=imm d=p4
def mF(_:D):Prop:=True
def b2e(hm:M[i]?=cz m:=by rfl):b0h K M (M.set i (.own .f)) (Q5 i) (v5 i) mF:=by
 intro U Y H P F x d U' Q S hd _ hs q;cases hs
 exact q _ _ (S.set (u:=.f) (fp:=[]) hm (Same.refl _) (by simp only[Own,b_];exact⟨trivial,hd⟩) bu λa ha=>(nomatch ha))
def G8(hm:M[i]?=cz m:=by rfl):b0h K M (M.set i (.own .i)) (Q5 i) (v5 i) mI:=by
 intro U Y H P F x d U' Q S hd hi hs q;cases hs
 exact q _ _ (S.set (u:=.i) (fp:=[]) hm (Same.refl _) (by simp only[Own,b_];exact⟨trivial,hi,hd⟩) bu λa ha=>(nomatch ha))
def a7L(hw:w=.f\/w=.i)(o_:i≠j:=by decide)(tR:M[i]?=cz m1:=by rfl)(zh:M[j]?=cz m2:=by rfl):b0h K M ((M.set i (.own w)).set j (.own w)) (b6W K 2 (a2E (Q5 i) (a2E (Q5 j) b4n))) (a5p i j) (λd=>w=.i->imm d=p4):=by
 intro U Y H P F x d U' Q S hd hi hs q;obtain⟨⟨d1,d2⟩,h2,g2⟩:=bnd hs;cases g2
 have wB:d=.tuple [d1,d2]:=by
  match d,h2 with
  |.tuple [a,b],h2=>cases h2;rfl
 subst wB;obtain⟨a,xs,rfl,k1,k2⟩:=hd.tup_inv;obtain⟨v1,v2,rfl,k3,k4⟩:=a0L k2;refine⟨a,_,rfl,P7 k1 i8,rfl,v1,[v2],rfl,v2,[],rfl,rfl,?_⟩;have o1:Own K H ([]++F) w v1 d1 []:=by
  rcases hw with rfl|rfl
  ·simp only[Own,b_];exact⟨trivial,k3⟩
  ·have:=hi rfl;simp only[imm,g9,ak]at this;simp only[Own,b_];exact⟨trivial,this.1,k3⟩
 have o2:Own K H ([]++([]++F)) w v2 d2 []:=by
  rcases hw with rfl|rfl
  ·simp only[Own,b_];exact⟨trivial,k4⟩
  ·have:=hi rfl;simp only[imm,g9,ak]at this;simp only[Own,b_];exact⟨trivial,this.2.1,k4⟩
 have S1:=S.set tR (Same.refl _) o1 bu λa ha=>(nomatch ha)
 exact q _ _ (S1.set (i:=j) (m:=m2) (by rw[fH o_];exact zh) (Same.refl _) o2 bu λa ha=>(nomatch ha))
def B5{set:List D->D->Option (List D)}{m:D->Prop}(hc:X.calm=p4)(hp:nX (aX X.prog X.w) X.A X.env X.xe)(hi:PIX X M tg iter fi)(hg:PG X tg gt)(hs:b0h X.K M MB gt set m)(hm:∀U ds,fi U=cz ds->∀d∈ds,m d)(hb:PSsX X u M MB body g M)
  (hf:∀x,eW iter X.env x=pure x:=by intro _;rfl):PSX X u ML M (.For tg iter body [] pos) (K4 fi set g) M:=by
 obtain⟨wi,pi,qi⟩:=hi;obtain⟨tb,pb,qb⟩:=hb.out;refine .mk ⟨_,a7w hp hc pi hg pb hf,λD U Y H P F o S t_ k=>?_⟩;obtain⟨ds,h1,g1⟩:=bnd t_;refine qi U Y H P F ds _ S.toE h1 λJ xs Pr H1 e1 hw tK hx=>?_
 have S1:=S.grow e1;have rK:=hx.length;refine⟨λi n Y' H'=>n=xs.length-i/\i<=xs.length/\∃U' F',StR X.K M U' Y' H' (cut H1 F) F'/\G7 set g (ds.drop i) U'=cz o,⟨xs.length,by simp,cI _,U,F,⟨S1.all,S1.lst,Same.refl _⟩,g1⟩,?_⟩;rintro i n Y' H' ⟨rfl,hi,U',F',S',hfl⟩;have kU:Same (cut H1 F) (cut H' F'):=S'.prot;have q:=tK H' (kU.trans i8);by_cases il:i<xs.length
 ·refine .inr ⟨hw.go i H' q il,λY2 H2=>∃U2 F2,StR X.K M U2 Y2 H2 (cut H1 F) F2/\G7 set g (ds.drop (i+1)) U2=cz o,λY2 H2 ⟨U2,F2,S2,h2⟩=>⟨xs.length-(i+1),by lia,rfl,il,U2,F2,S2,h2⟩,λx H2 hy=>?_⟩;obtain⟨rfl,sJ⟩:=hw.yld i H' x H2 q il hy;have mz:i<ds.length:=by lia
  have lM:ds.drop i=ds[i]::ds.drop (i+1):=fC mz;rw[lM]at hfl;obtain⟨U1,tJ,g2⟩:=bnd (show (set U' ds[i]).bind _=cz o from hfl);obtain⟨o1,hg1,g3⟩:=bnd g2;obtain⟨d',qB,uc⟩:=(hx.up kU).getV sJ;have lE:d'=ds[i]:=by rw[ao mz]at qB;exact (aK qB).symm
  subst lE;refine hs U' Y' H2 (cut H1 F) F' x _ U1 _ S' uc (hm U ds h1 _ (cH mz)) tJ λY3 F3 S3=>qb _ U1 Y3 H2 (cut H1 F) F3 o1 S3 hg1 ?_
  cases o1 with
  |nx U2=>exact λY4 H4 F4 S4=>⟨U2,F4,S4,g3⟩
  |ct U2=>exact λY4 H4 F4 S4=>⟨U2,F4,S4,g3⟩
  |bk U2=>
   have:o=.nx U2:=(aK g3).symm;subst this;exact λY4 H4 F4 S4=>k Y4 H4 F4 ⟨S4.all,S4.lst,S1.prot.trans S4.prot⟩
  |rt d=>
   have:o=.rt d:=(aK g3).symm;subst this;refine λv H4 fp o nd fr e=>k v H4 fp o nd (λa ha=>?_) (S1.prot.trans e)
   exact S1.prot.free (fr a ha)
 ·have e:i=xs.length:=by lia
  subst e;rw[rK,kD]at hfl;have:o=.nx U':=(aK hfl).symm;subst this;exact .inl ⟨hw.stop _ H' q (aE _),k Y' H' F' ⟨S'.all,S'.lst,S1.prot.trans S'.prot⟩⟩
def a6m(n:List D->Nat)(hp:nX (aX X.prog X.w) X.A X.env X.xe)(hc:PTX X M c0 fc)(hb:PSsX X u M M body g M):PSX X u ML M (.While c0 body [] pos) (sWh n fc g) M:=by
 obtain⟨tc,pc,qc⟩:=hc.out;obtain⟨tb,pb,qb⟩:=hb.out;refine .mk ⟨_,b1z hp pc pb,λD U Y H P F o S t_ k=>?_⟩;refine⟨λn Y' H'=>∃U' F',StR X.K M U' Y' H' P F'/\whL fc g n U'=cz o,⟨n U,U,F,S,t_⟩,?_⟩;rintro n Y' H' ⟨U',F',S',hw⟩;cases n with
 |zero=>cases hw
 |succ n=>
  obtain⟨b,h1,g1⟩:=bnd (show (fc U').bind _=cz o from hw);refine qc U' Y' H' P F' b _ S'.toE h1 λH1 e1=>?_
  cases b with
  |true=>
   refine a5f ⟨λY2 H2=>∃U2 F2,StR X.K M U2 Y2 H2 P F2/\whL fc g n U2=cz o,λY2 H2 z=>⟨n,kA _,z⟩,?_⟩;obtain⟨o1,hg1,g3⟩:=bnd (show (g U').bind _=cz o from g1);refine qb _ U' Y' H1 P F' o1 (S'.grow e1) hg1 ?_;cases o1 with
   |nx U2=>exact λY4 H4 F4 S4=>⟨U2,F4,S4,g3⟩
   |ct U2=>exact λY4 H4 F4 S4=>⟨U2,F4,S4,g3⟩
   |bk U2=>
    have:o=.nx U2:=(aK g3).symm;subst this;exact λY4 H4 F4 S4=>k Y4 H4 F4 S4
   |rt d=>
    have:o=.rt d:=(aK g3).symm;subst this;exact k
  |false=>
   have:o=.nx U':=(aK g1).symm;subst this;exact a5e (k Y' H1 F' (S'.grow e1))
end
abbrev EvP:=List D->Option (List Nat)
noncomputable def PPX(X:Cx)(M:List Md)(e:Expr)(i:Nat)(f:EvP):Prop:=
 ∃t,PE X e t/\∀(U:List D) (Y:L2.St) (H P:Hp) (F:List aw) (p:List Nat) (Q:VK),StE X.K M U Y H P F->f U=cz p->(∀v v0 H',Same H H'->Y[i]?=cz (cz v0)->wk H' v0 p v->Q v H')->t Y H Q
noncomputable def A7:EvP:=λ_=>cz []
def a9b(u:Ty)(d:D)(p:List Nat):Option (List D):=(dAt u d p).bind λtd=>match td with
 | (.l _,.list ds)=>cz ds
 | (.tp _,.tuple ds)=>cz ds
 |_=>el
section
variable {X:Cx}{u t w:Ty}{ML M M1 M':List Md}{e b pl:Expr}{f fb:EvE}{fp:EvP}{cb:Cat}{pos apos cw:eS}
def L4(i:Nat)(hN:X.N[i]?=cz x:=by rfl)(hv:Vis X.env.scope x:=by first|exact bR rfl|exact bT (bR rfl)|exact bT (bT rfl))(hd:(x==("__debug__":bC))=rp:=by decide)
  (iG:(x==("__classdict__":bC))=rp:=by decide) (hm:M[i]?=cz (.own u):=by rfl):PPX X M (.Name x pos) i A7:=by
 refine⟨_,C7 hN hv hd iG,λU Y H P F p Q S hf k=>?_⟩;cases hf
 obtain⟨v,f,e,_⟩:=S.get hm;exact⟨v,e,k v v H (Same.refl _) e rfl⟩
noncomputable def N5(i:Nat)(u:Ty)(fp:EvP)(fe:EvE):EvS:=λU=>(fp U).bind λp=>(a9b u (U.getD i .none) p).bind λds=>(fe U).bind λd=>if ds.length<1000000 then cz (.nx (U.set i (a2P (U.getD i .none) p (.list (ds++[d]))))) else el
noncomputable def b9A(u:Ty)(fp:EvP)(t:Ty):Prop:=∀U p d td,fp U=cz p->dAt u d p=cz td->td.1=.l t
def a0Q:b9A (.l t) A7 t:=λU p d td h1 h2=>by
 cases h1
 have jd:cz (Ty.l t,d)=cz td:=h2;cases jd
 rfl
def b4R{p:List Nat}{ds:List D}(ht:∀td,dAt u d p=cz td->td.1=.l t)(hi:a9b u d p=cz ds):dAt u d p=cz (.l t,.list ds):=by
 obtain⟨⟨t',d'⟩,h1,h2⟩:=bnd hi;have e:t'=.l t:=ht _ h1;subst e;cases d' with
 |list es=>cases h2;exact h1
 |_=>cases h2
def T8(i:Nat)(hp:PPX X M pl i fp)(he:PMX X M e f t M1)(ht:b9A u fp t)(hm:M[i]?=cz (.own u):=by rfl)(tR:M1[i]?=cz (.own u):=by rfl)
  (et:cY pl "append" X.env (cn pl X.env)=cn pl X.env:=by rfl)
  (jZ:((cx cw (ax [e] X.env)).all (λx=>!x.1)&&(lS cw (iF [] X.env)).all (λx=>x.1.isSome)
   && decide ([e].length+([]:List gu).length+(if ([]:List gu).isEmpty then 0 else 1)<30))=p4:=by rfl)
  (er:(apos.endLine==cw.line)=p4:=by rfl) (hs:ax [e] X.env=(rp,cn e X.env)::ax [] X.env:=by rfl) (gc:(cx cw (ax [] X.env)).any (·.1)=rp:=by rfl)
  (n_:fB (.Call (.Attribute pl "append" apos) [e] [] cw) el pos.line X.env=pure rp:=by rfl) :
  PSX X w ML M (.Expr (.Call (.Attribute pl "append" apos) [e] [] cw) pos) (N5 i u fp f) M1:=by
 obtain⟨tp,pp,qp⟩:=hp;obtain⟨te,pe,qe⟩:=he;refine .mk ⟨_,a0z (b1M ie PySem.F.slot_list_append PySem.F.type_list_append a4c pp (m7 pe u7 hs) et jZ er hs gc) n_,λD U Y H P F o S hg k=>?_⟩;obtain⟨p,h1,g1⟩:=bnd hg;obtain⟨ds,h2,g2⟩:=bnd g1;obtain⟨d,h3,g3⟩:=bnd g2;by_cases hz:ds.length<1000000
 ·rw[aG hz]at g3;cases g3
  refine qp U Y H P F p _ S.toE h1 λv v0 H1 e1 A_ hw=>?_
  have S1:=S.grow e1;obtain⟨v',f',e',o,_⟩:=S1.toE.get hm;rw[A_]at e';cases e'
  have BD:=b4R (λtd z=>ht U p _ td h1 z) h2;obtain⟨b,xs,fs,pre,post,rfl,r2,_,_,_⟩:=o.path p BD hw;refine⟨.inl ⟨rfl,xs,SqL.of r2⟩,qe [] [] [] U Y H1 P F d _ S1.pend h3 λv1 H2 F2 e2 S2=>?_⟩;obtain⟨b',mq,e',CU,hl,S3,_⟩:=S2.put tR A_ BD (b6o e2 hw);cases e'
  refine⟨b,mq,v1,rfl,rfl,CU,?_,k Y _ F2 S3⟩;rw[hl];exact fG hz (by rw[cR];decide)
 ·rw[aL hz]at g3;cases g3
def K0(i:Nat)(hN:X.N.Nodup)(hc:X.calm=p4)
  (hi:PIX X M tg iter fi) (C:X9 scope X.env.kindOf ys js X.N=p4) (hg:∀cl Cl s H fp,PG (O2 X (tn++ys) scope cl Cl s H fp) tg g) (zy:TgR X.K g n pt) (Ep:mm=.i\/mm=.f)
  (qd:mm=.i->∀U ds,fi U=cz ds->∀d∈ds,∀bs,pt d=cz bs->g9 bs=p4) (vO:tn.length=n)
  (ht:∀cl Cl s H fp,PTs (O2 X (tn++ys) scope cl Cl s H fp) ifs (spT X.K (W7 (.own mm) n M js) ft)) (he:∀cl Cl s H fp,PX (O2 X (tn++ys) scope cl Cl s H fp) (W7 (.own mm) n M js) elt fe (.new t))
  (sJ:X.N[i]?=cz x:=by rfl) (hx:Loc X.env.scope x:=by first|exact bR rfl|exact bT rfl) (hm:M[i]?=cz m:=by rfl)
  (n_:fB (.ListComp elt [⟨tg,iter,ifs,0⟩] scope cps) (cz (.Name x px)) pos.line X.env=pure p4:=by rfl) (hs:∀x,eW iter X.env x=pure x:=by intro _;rfl)
  (hf:X.fn x=p4\/X.env.scope.names.lookup x=cz .local:=by first|exact .inl rfl|exact .inr rfl) :
  PSX X w ML M (.Assign [.Name x px] (.ListComp elt [⟨tg,iter,ifs,0⟩] scope cps) pos) (l7 i (n4 fi js pt ft fe)) (M.set i (.own (.l t))):=by
 obtain⟨wi,pi,qi⟩:=hi;refine .mk ⟨_,a5Y (te:=spE X.K (W7 (.own mm) n M js) fe (.new t)) hc hN sJ hx pi C hg ht he n_ hs hf,λD U Y H P F o S nu k=>?_⟩;obtain⟨d,h1,g1⟩:=bnd nu;cases g1
 exact a4l qi zy Ep qd vO S.toE h1 λv H' e ⟨fp,o,nd,fr⟩=>k _ _ _ (S.set hm e o nd fr)
end
def argsOk:List Ty->List D->Bool
 |[],[]=>p4
 |.i::us,d::ds=>imm d&&argsOk us ds
 |.f::us,_::ds=>argsOk us ds
 |_,_=>rp
noncomputable def fnD(us:List Ty)(n:Nat)(g:EvS):List D->Option D:=λds=>if argsOk us ds then (g (ds++aR n .none)).bind λo=>match o with
 |.rt d=>cz d
 |_=>el
 else el
theorem T9:∀{us:List Ty} {vs:List V} {ds:List D},argsOk us ds=p4->DenAll K H vs ds->∀n,StAll K H [] (us.map .own++aR n .dead) (ds++aR n .none) (vs.map cz++aR n el) []
 |[],vs,[],_,hd,n=>by
  rw[hd.nil_inv]
  induction n with
  |zero=>exact M4
  |succ n ih=>exact l6 (K:=K) (H:=H) (F:=[]) (m:=.dead) (f:=[]) rfl ih
 |.i::us,vs,d::ds,h,hd,n=>by
  have h':imm d=p4/\argsOk us ds=p4:=by simpa[argsOk]using h
  obtain⟨v,r,rfl,h1,h2⟩:=hd.cons_inv;refine l6 (K:=K) (H:=H) (F:=[]) (m:=.own .i) (f:=[]) ⟨v,rfl,?_⟩ (T9 h'.2 h2 n);simp only[Own,K8];exact⟨trivial,h'.1,h1⟩
 |.f::us,vs,d::ds,h,hd,n=>by
  have h':argsOk us ds=p4:=by simpa[argsOk]using h
  obtain⟨v,r,rfl,h1,h2⟩:=hd.cons_inv;refine l6 (K:=K) (H:=H) (F:=[]) (m:=.own .f) (f:=[]) ⟨v,rfl,?_⟩ (T9 h' h2 n);simp only[Own,K8];exact⟨trivial,h1⟩
 |.l _::us,vs,d::ds,h,_,_=>by simp[argsOk]at h
 |.tp _::us,vs,d::ds,h,_,_=>by simp[argsOk]at h
 |.d _ _::us,vs,d::ds,h,_,_=>by simp[argsOk]at h
 |[],vs,d::ds,h,_,_=>by simp[argsOk]at h
 |.i::us,vs,[],h,_,_=>by simp[argsOk]at h
 |.f::us,vs,[],h,_,_=>by simp[argsOk]at h
 |.l _::us,vs,[],h,_,_=>by simp[argsOk]at h
 |.tp _::us,vs,[],h,_,_=>by simp[argsOk]at h
 |.d _ _::us,vs,[],h,_,_=>by simp[argsOk]at h
open PyProof.Rows in
def b4S{P:bz}{w:bI}{K:af}{mg:bC->Option aj}{base:bQ}{x:bC}{st:hZ}{f:aw}{fd:dD}{N ps:List bC}{k n:Nat}{us:List Ty}{u:Ty}{g:EvS}{M':List Md}(F:Fun K x x st f fd)(S:FnScope N ps (j5 st))(nj:us.length=ps.length)(hn:N.length=ps.length+n)
  (hb:∀(gk:aj) (A:bD) (outer:List oM) (s:ar) (H:Hp) (E:XK),Room k (A.deeper (jl x (j5 st) s.heap.objs.size f gk))->PSsX (a0C CX0 P w K mg base N x (j5 st) f gk A outer s H E).nox u [] (us.map .own++aR n .dead) (y6 st) g M') :
  FnOk P w K mg base CX0 (k+1) f fd ps (spD K ps.length (fnD us n g) u):=by
 refine F.ok S (λvs H Q E h=>?_) (λgk A outer s H vs Q E hr h=>?_)
 ·obtain⟨ds,d,hl,_⟩:=h;exact hl
 obtain⟨ds,d,hl,hd,hm,q⟩:=h;obtain⟨t,p,r⟩:=(hb gk A outer s H E hr).out;refine⟨t,p,?_⟩;unfold fnD at hm;by_cases ha:argsOk us ds=p4
 ·rw[aG ha]at hm;obtain⟨o,h1,h2⟩:=bnd hm;cases o with
  |rt d'=>
   have jd:cz d'=cz d:=h2;cases jd
   have e:L2.start N vs=vs.map cz++aR n el:=by
    unfold L2.start;rw[show N.length-vs.length=n by lia]
   rw[e];refine r _ (ds++aR n iK) _ H H [] (.rt d) ⟨⟨[],T9 ha hd n,bu,λa ha=>(nomatch ha)⟩,λa ha=>(nomatch ha),by rw[K8];exact Same.refl H⟩ h1 ?_;exact λv H' fp o nd fr e=>q v H' fp e o nd fr
  |_=>cases h2
 ·rw[aL ha]at hm;cases hm
end VS
namespace VS
open PySem PySem.Spec L2 PyProof.Rows
def G9(K:af):List (bC×aw):=M9.filterMap λx=>(C6 K x).map λp=>(x,p)
def a1v:List aw->Bool
 |[]=>p4
 |a::r=>!r.contains a&&a1v r
def a2Q(K:af)(names:List bC):Bool:=a1v ((G9 K).map (·.2))&&(G9 K).all λt=>(K.lookup t.2).isNone&&names.contains t.1
theorem a2R:∀{l:List (bC×aw)} {x y:bC} {p:aw},a1v (l.map (·.2))=p4->(x,p)∈l->(y,p)∈l->x=y
 |[],_,_,_,_,h,_=>(nomatch h)
 | (z,q)::l,x,y,p,h,h1,h2=>by
  have h':((l.map (·.2)).contains q=rp)/\a1v (l.map (·.2))=p4:=by simpa[a1v]using h
  have AM:∀w,(w,q)∉l:=λw hw=>by
   have:(l.map (·.2)).contains q=p4:=by
    rw[u_];exact aO.mpr ⟨(w,q),hw,rfl⟩
   rw[h'.1]at this;cases this
  rcases az.mp h1 with e1|e1
  ·rcases az.mp h2 with e2|e2
   ·cases e1;cases e2;rfl
   ·cases e1;exact absurd e2 (AM y)
  ·rcases az.mp h2 with e2|e2
   ·cases e2;exact absurd e1 (AM x)
   ·exact a2R h'.2 e1 e2
def a1S{K:af}{x:bC}{p:aw}(hx:x∈M9)(h:C6 K x=cz p):(x,p)∈G9 K:=
 dY.mpr ⟨x,hx,by rw[h];rfl⟩
def E6{K:af}{x:bC}{p:aw}(h:(x,p)∈G9 K):x∈M9/\C6 K x=cz p:=by
 obtain⟨y,hy,e⟩:=dY.mp h;cases q:C6 K y with
 |none=>rw[q]at e;cases e
 |some r=>
  rw[q]at e;have e':(y,r)=(x,p):=aK e;cases e'
  exact⟨hy,q⟩
def a7M{K:af}(e:a4X K cd=cz p)(X:K.In h):∃c,cd=.ref c/\gC h c p:=by
 unfold a4X at e
 split at e
 ·rename_i c
  split at e
  ·rename_i n dd vs sl hc
   split at e
   ·rename_i hn
    split at e
    ·rename_i P' file tf flags tg uF text tt BW FG h7 h9 FH
     split at e
     ·rename_i gy
      cases e
      have en:n="code":=by simpa using hn
      subst en;refine⟨c,rfl,_,vs,file,tf,flags,tg,uF,text,tt,X _ _ hc,rfl,rfl,BW,?_,?_,?_,?_,?_,bne_iff_ne.mp gy⟩
      ·simp[eV,BW]
      ·simp[eV,FG]
      ·simp[eV,h7]
      ·simp[eV,h9]
      ·simp[eV,FH]
     ·cases e
    ·cases e
   ·cases e
  ·cases e
 ·cases e
def a4o{K:af}{h:bQ}(e:C6 K x=cz p)(X:K.In h)(G:h.Ns bM mg) :
  ∃f oc od fd sl c,mg x=cz (.ref f)/\K.lookup f=cz ⟨oc,od,.func fd,sl⟩/\fd.code=.ref c/\gC h c p:=by
 unfold C6 at e
 split at e
 ·rename_i f hf
  split at e
  ·rename_i oc od fd sl hl
   obtain⟨c,hc,hd⟩:=a7M e X;exact⟨f,oc,od,fd,sl,c,kh X G hf,hl,hc,hd⟩
  ·cases e
 ·cases e
def Tab0(K:af)(h:bQ):Prop:=∀x∈M9,∀p,C6 K x=cz p->isCodeTable h p/\h.get? p=cz {cls:=.none,data:=.fields #[]}
def b4T{q:bz}{loose:List bC}{yG:ExcName->Option aj}{mg mb:bC->Option aj}{h:bQ}{K:af}(T:Top q loose yG mg mb h)(X:K.In h)(ok:a2Q K ((recsOf q).map (·.name))=p4):Tab0 K h:=λx hx p e=>by
 have hm:=a1S hx e;have hn:((K.lookup p).isNone&&((recsOf q).map (·.name)).contains x)=p4:=by
  unfold a2Q at ok;rw[ak]at ok;exact aT.mp ok.2 _ hm
 rw[ak,u_]at hn;obtain⟨d,hd,rfl⟩:=aO.mp hn.2;obtain⟨f,oc,od,fd,sl,c,h1,h2,h3,h4⟩:=a4o e X T.g;obtain⟨a,o,BZ,c',P',z1,z2,z3,z4,z5,z6⟩:=T.tab d hd;rw[h1]at z1;cases z1
 rw[X _ _ h2]at z2;cases z2
 have CA:Data.func fd=Data.func BZ:=z3;cases CA
 rw[h3]at z4;cases z4
 obtain⟨ob,vs,file,tf,flags,tg,uF,text,tt,y1,y2,y3,y4,_⟩:=h4;obtain⟨⟨GI,Gw,w1,w2,w3,w4⟩,w5⟩:=id z6;rw[y1]at w1;cases w1
 rw[y3]at w3;cases w3
 rw[y4]at w4;cases w4
 exact⟨z6.isCodeTable,w5⟩
def O3(K:af)(H:Hp):Hp:=λb=>match (G9 K).find? λt=>t.2==b with
 |some t=>cz (.tbl #[.str (V6 t.1) 0])
 |none=>H b
def b0i{K:af}{s₁:ar}{vs:List aj} 
  (KX:K.In s₁.heap) (qg:s₁.heap.Ns bM mg) (hb:s₁.heap.Ns kr mb) (Fg:∀x:bC,x≠"__name__"->mb x=gn x) (zk:s₁.heap.NoLimit) (hg:s₁.gens=#[])
  (Fe:∃bm ob,mg "__builtins__"=cz (.ref bm)/\bm≠kr/\s₁.heap.get? bm=cz ob/\ob.cls=.type "module"/\ob.dict=cz kr/\ob.data=.plain)
  (rO:Tab0 K s₁.heap) (oZ:a2Q K names=p4)
  (ha:s₁.heap.get? a=cz {cls:=.type "list",data:=.seq vs.toArray}) (hi:IntsAre vs ns) (hl:ns.length<=aV) (hr:Room k nW)
  (F:∀base:bQ,K.In base->base.Ns bM mg->FnOk P w K mg base CX k fa fd [x] sp) (ny:∀(s:ar) (u:aj),nY s fd ⟨[u],[]⟩ [(x,u)])
  (pX:∀H:Hp,SqX K H a (ns.map V.int)->sp [.ref a] H (λv _=>v=.bl p4) λ_ _ _=>False)
  (zX:∀H e s',CX [] H s₁ (λ_ _ _=>False) e s'->False) :
  gL (aX P w) nW (.call (.ref fa) ⟨[.ref a],[]⟩) (λr s'=>r=.ok (.ret (.bool p4))/\OldK s₁.heap s'.heap/\s'.os=s₁.os/\oN s'.gens) s₁:=by
 have rv:=vals_ints hi;have yI:=hi.length;have Di:a1v ((G9 K).map (·.2))=p4:=by unfold a2Q at oZ;rw[ak]at oZ;exact oZ.1
 have Dh:∀t∈G9 K,K.lookup t.2=el:=λt ht=>by
  unfold a2Q at oZ;rw[ak]at oZ;have:=aT.mp oZ.2 t ht;rw[ak]at this;exact Option.isNone_iff_eq_none.mp this.1
 have core:∀H0:Hp,SqX K H0 a (ns.map V.int)->HOk P w H0 s₁.heap->(∀b u,H0 b=cz u->b=a/\∃o xs,u=.frz o (.lst xs))->(H0 a≠el->K.lookup a=el)->
   gL (aX P w) nW (.call (.ref fa) ⟨[.ref a],[]⟩) (λr s'=>r=.ok (.ret (.bool p4))/\OldK s₁.heap s'.heap/\s'.os=s₁.os/\oN s'.gens) s₁:=by
  intro H0 hS hok hA hK;have kH:∀b u,O3 K H0 b=cz u->(∃x,(x,b)∈G9 K/\u=.tbl #[.str (V6 x) 0])\/((∀x,(x,b)∉G9 K)/\H0 b=cz u):=λb u e=>by
   unfold O3 at e
   split at e
   ·rename_i t ht
    cases e
    have h1:=jR ht;have h2:t.2=b:=kI.mp (pE (p:=λt:bC×aw=>t.2==b) ht);refine .inl ⟨t.1,?_,rfl⟩;rw[<-h2];exact h1
   ·rename_i ht
    refine .inr ⟨λx hx=>?_,e⟩;have:=fg.mp ht _ hx;simp at this
  have tabAt:∀x p,(x,p)∈G9 K->O3 K H0 p=cz (.tbl #[.str (V6 x) 0]):=λx p hm=>by
   cases e:O3 K H0 p with
   |none=>
    unfold O3 at e
    split at e
    ·cases e
    ·rename_i ht
     have:=fg.mp ht _ hm;simp at this
   |some u=>
    rcases kH p u e with⟨y,hy,rfl⟩|⟨hn,_⟩
    ·rw[a2R Di hm hy]
    ·exact absurd hm (hn x)
  have nA:∀x,(x,a)∉G9 K:=λx hx=>by
   have:=(rO x (E6 hx).1 a (E6 hx).2).2;rw[ha]at this;cases this
  have Cj:O3 K H0 a=H0 a:=by
   cases e:O3 K H0 a with
   |none=>
    unfold O3 at e
    split at e
    ·cases e
    ·exact e.symm
   |some u=>
    rcases kH a u e with⟨y,hy,_⟩|⟨_,h⟩
    ·exact absurd hy (nA y)
    ·exact h.symm
  have mQ:SqX K (O3 K H0) a (ns.map V.int):=by
   rcases hS with (h|⟨o,h⟩)|h
   ·exact .inl (.inl (Cj.trans h))
   ·exact .inl (.inr ⟨o,Cj.trans h⟩)
   ·exact .inr h
  have qf:HOk P w (O3 K H0) s₁.heap:=λb u e=>by
   rcases kH b u e with⟨x,hx,rfl⟩|⟨hn,h⟩
   ·obtain⟨h1,h2⟩:=E6 hx;exact⟨#[],(rO x h1 b h2).2,trivial,λpos cv z=>by cases z⟩
   ·obtain⟨rfl,o,xs,rfl⟩:=hA b u h;obtain⟨h1,h2⟩:=hok _ _ h;obtain⟨z,cE,n,r,e'⟩:=h2;exact⟨h1,z,cE,n,r,e'⟩
  have mR:∀{b:aw} {o:fM},s₁.heap.get? b=cz o->O3 K H0 b=el->(a4W s₁.heap (O3 K H0)).get? b=cz o:=λe n=>b1t e n
  have AK:∀{b:aw} {o:fM},s₁.heap.get? b=cz o->(∀ps,o.data≠.fields ps)->(∀cE n,o.data≠.seq cE n)->O3 K H0 b=el:=λ{b o} e d1 d2=>by
   cases q:O3 K H0 b with
   |none=>rfl
   |some u=>
    rcases kH b u q with⟨x,hx,rfl⟩|⟨hn,h⟩
    ·have:=(rO x (E6 hx).1 b (E6 hx).2).2;rw[e]at this;cases this
     exact absurd rfl (d1 _)
    ·obtain⟨rfl,_⟩:=hA b u h;rw[ha]at e;cases e
     exact absurd rfl (d2 _ _)
  have xA:∀{b:aw} {m:bC->Option aj},s₁.heap.Ns b m->(a4W s₁.heap (O3 K H0)).Ns b m:=λ{b m} ⟨o,es,ep,e,d,r⟩=>⟨o,es,ep,mR e (AK e (λps z=>by rw[d]at z;cases z) λcE n z=>by rw[d]at z;cases z),d,r⟩
  have BQ:K.In (a4W s₁.heap (O3 K H0)):=λb o e=>mR (KX b o e) (by
   cases q:O3 K H0 b with
   |none=>rfl
   |some u=>
    rcases kH b u q with⟨x,hx,rfl⟩|⟨hn,h⟩
    ·rw[Dh _ hx]at e;cases e
    ·obtain⟨rfl,_⟩:=hA b u h;rw[hK (by rw[h];simp)]at e;cases e)
  have hM:Mod K mg (a4W s₁.heap (O3 K H0)):=⟨BQ,xA qg,⟨mb,xA hb,Fg⟩,let⟨mc,h1,h2⟩:=zk;⟨mc,xA h1,h2⟩,
   let⟨bm,ob,b1,b2,b3,b4,b5,b6⟩:=Fe;⟨bm,ob,b1,b2,mR b3 (AK b3 (λps z=>by rw[b6]at z;cases z) λcE n z=>by rw[b6]at z;cases z),b4,b5,b6⟩⟩
  have e0:Env0 P w K mg (a4W s₁.heap (O3 K H0)) nW [] s₁ (O3 K H0):=⟨rfl,hM,λb o e=>b4g e,Nat.le_of_eq (a9K _ _),trivial,λb hb=>absurd (show b∈([]:List aw) from hb) (by simp),qf,.of_eq hg,
   λx hx p e=>⟨_,0,tabAt x p (a1S hx e),rfl⟩⟩
  refine fP ((F _ BQ (xA qg)).run nW [] s₁ (O3 K H0) ⟨[.ref a],[]⟩ [.ref a] [.ref a] _ _ hr e0 (ny s₁ (.ref a)) (.cons rfl .nil) (pX _ mQ)) λr s' h=>?_
  cases r with
  |error e=>exact (zX _ e s' h).elim
  |ok fl=>
   cases fl with
   |next=>exact cK h
   |brk=>exact cK h
   |cont=>exact cK h
   |ret u=>
    obtain⟨v,H',os,bare,un,oY,r',q⟩:=h;have q':v=.bl p4:=q;subst q';obtain rfl:u=jx p4:=r';refine⟨rfl,⟨λb o e=>?_,λb o e=>un.there b o e (by simp)⟩,os,bare⟩;cases q:O3 K H0 b with
    |none=>exact .inl (un.keep b o e q (by intro z;exact absurd (show b∈([]:List aw) from z) (by simp)) (by simp))
    |some u=>
     rcases kH b u q with⟨x,hx,rfl⟩|⟨hn,h⟩
     ·obtain⟨t1,t2⟩:=rO x (E6 hx).1 b (E6 hx).2;rw[e]at t2;cases t2
      obtain⟨more,e2⟩:=un.tbls b _ q;obtain⟨ps,e3,_⟩:=(show a5T H' s'.heap b _ from oY b _ e2);exact .inr (.inl ⟨t1,rfl,#[],ps,rfl,by simpa using e3⟩)
     ·obtain⟨rfl,ob,xs,rfl⟩:=hA b u h;have z2:=un.frzs b ob _ q;obtain⟨e1,_⟩:=qf b _ q;obtain⟨e2,_⟩:=oY b _ z2;rw[e]at e1;cases e1;exact .inl e2
 cases hk:K.lookup a with
 |some o=>
  have e:=KX a o hk;rw[ha]at e;cases e
  refine core (λ_=>el) (.inr ⟨vs,_,hk,by rw[yI];exact hl,rv⟩) (λb u z=>by have z':(el:Option HO)=cz u:=z;cases z') (λb u z=>by have z':(el:Option HO)=cz u:=z;cases z') λz=>absurd rfl z
 |none=>
  refine core (λb=>if b=a then cz (.frz {cls:=.type "list",data:=.seq vs.toArray} (.lst (ns.map V.int))) else el) (.inl (.inr ⟨{cls:=.type "list",data:=.seq vs.toArray},aG rfl⟩)) (λb u z=>?_) (λb u z=>?_) λ_=>hk
  ·by_cases hb:b=a
   ·have z':=(aG hb).symm.trans z;cases z'
    subst hb;exact⟨ha,by rw[au];exact hl,vs,_,rv,ha⟩
   ·have z':=(aL hb).symm.trans z;cases z'
  ·by_cases hb:b=a
   ·have z':=(aG hb).symm.trans z;cases z'
    exact⟨hb,_,_,rfl⟩
   ·have z':=(aL hb).symm.trans z;cases z'
def b2f{l:pA}{XP:(bC->Option aj)->bQ->Prop}{YP:bI->bQ->Prop}{d:DefRec}{K:Params->af}{CX:bI->CXT}{sp:bI->Sp} 
  (hn:l.most=cz n) (En:n<=aV) (wA:d.params.defaults=[]) (hr:Room k nW)
  (hY:∀(w:bI) (h:bQ),YP w h->(K w.params).In h) (hT:∀w:bI,a2Q (K w.params) ((recsOf q).map (·.name))=p4)
  (F:∀(w:bI) (mg:bC->Option aj) (fa:aw) (h:bQ),(K w.params).In h->h.Ns bM mg->mg d.name=cz (.ref fa)->
   ∃fd:dD,(∀(s:ar) (u:aj),nY s fd ⟨[u],[]⟩ [(x,u)])/\
    ∀base:bQ,(K w.params).In base->base.Ns bM mg->FnOk l.prog w (K w.params) mg base (CX w) k fa fd [x] (sp w))
  (pX:∀(w:bI) (H:Hp) (a:aw) (ns:List Int),ns.length<=n->SqX (K w.params) H a (ns.map V.int)->sp w [.ref a] H (λv _=>v=.bl p4) λ_ _ _=>False)
  (zX:∀(w:bI) (H:Hp) (s:ar) (e:aj) (s':ar),CX w [] H s (λ_ _ _=>False) e s'->False) :
  PySem.W.WalkO q loose XP YP l.row.toRowW d [] (λf vs=>Ao f vs):=by
 refine Att.attach_call hn wA λw s₀ s₁ mg mb fa o pm cd doc a vs ns G xn ho hd iG vZ tN hints hlen hg=>?_
 have KX:=hY w _ xn;obtain⟨fd,hb,hF⟩:=F w mg fa _ KX G.T.g vZ;exact b0i KX G.T.g G.T.b G.T.builtins G.T.nolimit hg G.T.bmain (b4T G.T KX (hT w)) (hT w) tN hints (cA hlen En) hr hF hb (λH hS=>pX w H a ns hlen hS) λH e s'=>zX w H s₁ e s'
def b0j{l:pA}{XP:(bC->Option aj)->bQ->Prop}{YP:bI->bQ->Prop}{d:DefRec}{K:Params->af}{m:List bh->Option bh}(hn:l.most=cz 63)(wA:d.params.defaults=[])(hr:Room k nW)
  (hY:∀(w:bI) (h:bQ),YP w h->(K w.params).In h) (hT:∀w:bI,a2Q (K w.params) ((recsOf q).map (·.name))=p4)
  (F:∀(w:bI) (mg:bC->Option aj) (fa:aw) (h:bQ),(K w.params).In h->h.Ns bM mg->mg d.name=cz (.ref fa)->
   ∃fd:dD,(∀(s:ar) (u:aj),nY s fd ⟨[u],[]⟩ [(x,u)])/\
    ∀base:bQ,(K w.params).In base->base.Ns bM mg->FnOk l.prog w (K w.params) mg base CX0 k fa fd [x] (spD (K w.params) 1 m .i))
  (hm:∀ns:List Int,ns.length<=63->m [.list (ns.map .int)]=cz (.bool p4)) :
  PySem.W.WalkO q loose XP YP l.row.toRowW d [] (λf vs=>Ao f vs):=
 b2f (n:=63) (k:=k) (x:=x) (CX:=λ_=>CX0) (sp:=λw=>spD (K w.params) 1 m .i) hn (by decide) wA hr hY hT F
  (λw H a ns hl hS=>⟨_,_,rfl,denAll_cons (den_list hS (DenAll.ints ns)) denAll_nil,hm ns hl,λv H' fp _ o _ _=>(V1 o).2.2.bool_inv⟩) λ_ _ _ _ _ z=>z
end VS
namespace VS
open PySem PySem.Spec L2
def x8:∀(U ds:List D),g8 U=cz ds->ds.length=0:=λ_ _ h=>by cases h;rfl
def i9(hr:∀(U ds:List D),r U=cz ds->ds.length=n):∀(U ds:List D),b8 f r U=cz ds->ds.length=n+1:=λ_ _ h=>b0a hr h
def a6n:∀(U ds:List D),iI fi U=cz ds->∀d∈ds,mI d:=λU ds h d hd=>by
 have:=a2O rfl U ds h d hd [d] rfl;show imm d=p4;simpa only [g9,dE]using this
def a7N:∀(U ds:List D),iR fa U=cz ds->∀d∈ds,mI d:=λU ds h d hd=>by
 have:=b2d rfl U ds h d hd [d] rfl;show imm d=p4;simpa only [g9,dE]using this
end VS
namespace VS
open PySem L2
section
variable {a b c:EvE}{U U':List D}{d x y:D}
def l1(g:D->Option D):Option D->Option D
 |some x=>g x
 |none=>el
def l2(g:D->D->Option D):Option D->Option D->Option D
 |some x,cz y=>g x y
 |_,_=>el
def lc(m:List D->Option D):Option (List D)->Option D
 |some xs=>m xs
 |none=>el
def b6r:Option D->Option (List D)->Option (List D)
 |some x,cz xs=>cz (x::xs)
 |_,_=>el
def lB:Option D->Option Bool
 |some d=>asB d
 |none=>el
def lT:Option D->Option Bool
 |some d=>tr d
 |none=>el
def b9B:Option Bool->Option Bool
 |some b=>cz !b
 |none=>el
def b7z:Option Bool->EvT->List D->Option Bool
 |some p4,b,U=>b U
 |some rp,_,_=>cz rp
 |none,_,_=>el
def orT:Option Bool->EvT->List D->Option Bool
 |some p4,_,_=>cz p4
 |some rp,b,U=>b U
 |none,_,_=>el
def b7A:Option D->EvE->List D->Option D
 |some (.bool p4),b,U=>b U
 |some (.bool rp),_,_=>cz (.bool rp)
 |_,_,_=>el
def orE:Option D->EvE->List D->Option D
 |some (.bool p4),_,_=>cz (.bool p4)
 |some (.bool rp),b,U=>b U
 |_,_,_=>el
def b9C:Option D->Option D
 |some (.bool b)=>cz (.bool !b)
 |_=>el
def b4U:Option Bool->EvE->EvE->List D->Option D
 |some p4,a,_,U=>a U
 |some rp,_,b,U=>b U
 |none,_,_,_=>el
def b7B:Option Bool->EvS->EvS->List D->Option Out
 |some p4,a,_,U=>a U
 |some rp,_,b,U=>b U
 |none,_,_,_=>el
def thn:Option Out->EvS->Option Out
 |some (.nx U),b=>b U
 |some (.rt d),_=>cz (.rt d)
 |some (.bk U),_=>cz (.bk U)
 |some (.ct U),_=>cz (.ct U)
 |none,_=>el
def b9D(i:Nat):Option D->List D->Option Out
 |some d,U=>cz (.nx (U.set i d))
 |none,_=>el
def retS:Option D->Option Out
 |some d=>cz (.rt d)
 |none=>el
def exS:Option D->List D->Option Out
 |some _,U=>cz (.nx U)
 |none,_=>el
def b2g(i j:Nat):Option D->List D->Option Out
 |some (.tuple [x,y]),U=>cz (.nx ((U.set i x).set j y))
 |_,_=>el
noncomputable def b9E(set:List D->D->Option (List D))(g:EvS):Option (List D)->List D->Option Out
 |some ds,U=>G7 set g ds U
 |none,_=>el
def a0R:Option Out->Option D
 |some (.rt d)=>cz d
 |_=>el
def listE:Option (List D)->Option D
 |some ds=>cz (.list ds)
 |none=>el
def b9F:Option (List D)->Option D
 |some ds=>cz (.tuple ds)
 |none=>el
def c1j:l1 g (cz x)=g x:=rfl
def c1k:l2 g (cz x) (cz y)=g x y:=rfl
def c1l:lc m (cz xs)=m xs:=rfl
def b4V:b6r (cz x) (cz xs)=cz (x::xs):=rfl
def c1m:lB (cz (.bool k))=cz k:=rfl
def c1n:lT (cz d)=tr d:=rfl
def b7C:b9B (cz k)=cz !k:=rfl
def b7D:b7z (cz p4) t U=t U:=rfl
def b7E:b7z (cz rp) t U=cz rp:=rfl
def b9G:orT (cz p4) t U=cz p4:=rfl
def b9H:orT (cz rp) t U=t U:=rfl
def b7F:b7A (cz (.bool p4)) b U=b U:=rfl
def b7G:b7A (cz (.bool rp)) b U=cz (.bool rp):=rfl
def b9I:orE (cz (.bool p4)) b U=cz (.bool p4):=rfl
def b9J:orE (cz (.bool rp)) b U=b U:=rfl
def b7H:b9C (cz (.bool k))=cz (.bool !k):=rfl
def b7I:b4U (cz p4) a b U=a U:=rfl
def b7J:b4U (cz rp) a b U=b U:=rfl
def b7K:b7B (cz p4) s t U=s U:=rfl
def b7L:b7B (cz rp) s t U=t U:=rfl
def B6:thn (cz (.nx U)) s=s U:=rfl
def b7M:thn (cz (.rt d)) s=cz (.rt d):=rfl
def b7N:thn (cz (.bk U)) s=cz (.bk U):=rfl
def b7O:thn (cz (.ct U)) s=cz (.ct U):=rfl
def b2h:b9D i (cz d) U=cz (.nx (U.set i d)):=rfl
def b7P:retS (cz d)=cz (.rt d):=rfl
def b9K:exS (cz d) U=cz (.nx U):=rfl
def b4W:b2g i j (cz (.tuple [x,y])) U=cz (.nx ((U.set i x).set j y)):=rfl
def b7Q{set:List D->D->Option (List D)}:b9E set g (cz ds) U=G7 set g ds U:=rfl
def b7R:a0R (cz (.rt d))=cz d:=rfl
def a9c:listE (cz ds)=cz (.list ds):=rfl
def b7S:b9F (cz ds)=cz (.tuple ds):=rfl
def v_var:b7 i U=cz (U.getD i .none):=rfl
def v_c:eC d U=cz d:=rfl
def v_1:e1 g a U=l1 g (a U):=by unfold e1;cases a U<;>rfl
def v_2:e2 g a b U=l2 g (a U) (b U):=by unfold e2;cases a U<;>cases b U<;>rfl
def c1o:eCl m f U=lc m (f U):=by unfold eCl;cases f U<;>rfl
def b7T:b8 a r U=b6r (a U) (r U):=by unfold b8;cases a U<;>cases r U<;>rfl
def b6s:g8 U=cz []:=rfl
def c1p:tB a U=lB (a U):=by unfold tB;cases a U<;>rfl
def c1q:tV a U=lT (a U):=by unfold tV;cases a U<;>rfl
def b9L:tNo t U=b9B (t U):=by unfold tNo;cases t U<;>rfl
def b9M:tAn s t U=b7z (s U) t U:=by
 unfold tAn;cases s U with
 |none=>rfl
 |some k=>cases k<;>rfl
def b9N:a0m s t U=orT (s U) t U:=by
 unfold a0m;cases s U with
 |none=>rfl
 |some k=>cases k<;>rfl
def v_and:a3Q a b U=b7A (a U) b U:=by
 unfold a3Q;cases h:a U with
 |none=>rfl
 |some d=>cases d with
  |bool k=>cases k<;>rfl
  |_=>rfl
def v_or:eOr a b U=orE (a U) b U:=by
 unfold eOr;cases h:a U with
 |none=>rfl
 |some d=>cases d with
  |bool k=>cases k<;>rfl
  |_=>rfl
def v_not:b1V a U=b9C (a U):=by
 unfold b1V;cases h:a U with
 |none=>rfl
 |some d=>cases d<;>rfl
def b9O:eIf t a b U=b4U (t U) a b U:=by
 unfold eIf;cases t U with
 |none=>rfl
 |some k=>cases k<;>rfl
def b6t:W5 f U=listE (f U):=by unfold W5;cases f U<;>rfl
def b9P:K9 f U=b9F (f U):=by unfold K9;cases f U<;>rfl
def H9:i6 s t U=thn (s U) t:=by
 unfold i6;cases s U with
 |none=>rfl
 |some o=>cases o<;>rfl
def a4p:l7 i a U=b9D i (a U) U:=by unfold l7;cases a U<;>rfl
def b9Q:m8 a U=retS (a U):=by unfold m8;cases a U<;>rfl
def c1r:sEx a U=exS (a U) U:=by unfold sEx;cases a U<;>rfl
def b7U:u6 U=cz (.nx U):=rfl
def b6u:sIf t s s' U=b7B (t U) s s' U:=by
 unfold sIf;cases t U with
 |none=>rfl
 |some k=>cases k<;>rfl
def b9R{set:List D->D->Option (List D)}:K4 fi set g U=b9E set g (fi U) U:=by unfold K4;cases fi U<;>rfl
def b7V:a4n i j a U=b2g i j (a U) U:=by
 unfold a4n;cases h:a U with
 |none=>rfl
 |some d=>
  match d with
  |.tuple [x,y]=>rfl
  |.tuple []=>rfl
  |.tuple [_]=>rfl
  |.tuple (_::_::_::_)=>rfl
  |.none=>rfl
  |.bool _=>rfl
  |.int _=>rfl
  |.str _=>rfl
  |.list _=>rfl
  |.dict _=>rfl
def D0(h:argsOk us ds=p4):fnD us n g ds=a0R (g (ds++aR n .none)):=by
 unfold fnD;rw[aG h];cases g (ds++aR n .none) with
 |none=>rfl
 |some o=>cases o<;>rfl
def v_add:w8 (.int i) (.int j)=cz (.int (i+j)):=rfl
def v_sub:a5i (.int i) (.int j)=cz (.int (i-j)):=rfl
def v_lt:dLt (.int i) (.int j)=cz (.bool (decide (i<j))):=rfl
def c1s:dLe (.int i) (.int j)=cz (.bool (decide (i<=j))):=rfl
def c1t:dGt (.int i) (.int j)=cz (.bool (decide (j<i))):=rfl
def c1u:dGe (.int i) (.int j)=cz (.bool (decide (j<=i))):=rfl
def v_mod(h:0<j):F8 (.int i) (.int j)=cz (.int (i % j)):=by
 show (if b7s i j=p4 then _ else _)=_;rw[aG (show b7s i j=p4 from aA h)]
def v_div(h:0<j)(h':j<1073741824):a0F (.int i) (.int j)=cz (.int (i / j)):=by
 show (if b4H i j=p4 then _ else _)=_;rw[aG (by unfold b4H;rw[aA h,aA h'];rfl)]
def a1w{i j:Int}(h:i.natAbs<2^64):N0 (.int i) (.int j)=cz (.int (i*j)):=by
 show (if a9X i j=p4 then _ else _)=_;rw[aG (by unfold a9X;rw[aA h];rfl)]
def a1x{i j:Int}(h:j.natAbs<2^64):N0 (.int i) (.int j)=cz (.int (i*j)):=by
 show (if a9X i j=p4 then _ else _)=_;rw[aG (by unfold a9X;rw[aA h,Bool.or_true])]
def v_pow(h:b4I i j=p4):a5j (.int i) (.int j)=cz (.int (i^j.toNat)):=by
 show (if b4I i j=p4 then _ else _)=_;rw[aG h]
def b9S:dEq (.int i) (.int j)=cz (.bool (decide (i=j))):=by
 show cz (dw (rp !=aC (.int i) (.int j)))=_;have:aC (.int i) (.int j)=decide (i=j):=by
  show (i==j)=decide (i=j);exact iM i j
 rw[this];simp
def b9T:dNe (.int i) (.int j)=cz (.bool (!decide (i=j))):=by
 show cz (dw (p4 !=aC (.int i) (.int j)))=_;have:aC (.int i) (.int j)=decide (i=j):=by
  show (i==j)=decide (i=j);exact iM i j
 rw[this];simp
def b7W:F9 [.list ds]=cz (.int ds.length):=rfl
def b7X:F9 [.tuple ds]=cz (.int ds.length):=rfl
def b9U:dIx (.list ds) (.int k)=atI ds k:=rfl
def b9V:dIx (.tuple ds) (.int k)=atI ds k:=rfl
def b9W:N2 (.list ds) (.int k)=atI ds k:=rfl
def b9X:J8 x y=l1 Z3 (dIx x y):=by unfold J8;cases dIx x y<;>rfl
def b2i(h:imm d=p4):Z3 d=cz d:=by unfold Z3;rw[aG h]
def b9Y:c1i k (.bool i) (.bool j)=cz (.bool (k !=(i==j))):=rfl
def a0S:imm (.int i)=p4:=by simp only[imm]
def B7(ns:List Int):g9 (ns.map .int)=p4:=by
 induction ns with
 |nil=>simp only[cB,g9]
 |cons n ns ih=>simp only[av,g9,imm,ih,hJ]
def a5q{α:Type}{xs:List α}(h0:0<=k)(h:k<(xs.length:Int)):atI xs k=cz (xs[k.toNat]'(by lia)):=by
 unfold L2.atI ixN;rw[aG h0,aG h];exact ao (by lia)
def b0k(i:Nat):D->Option D->List D->Option Out
 |.list ds,cz d,U=>if ds.length<1000000 then cz (.nx (U.set i (.list (ds++[d])))) else el
 |_,_,_=>el
def b2j:N5 i (.l t) A7 a U=b0k i (U.getD i .none) (a U) U:=by
 unfold N5 A7
 dsimp only[cF]
 cases h:U.getD i .none with
 |list ds=>
  cases a U with
  |none=>rfl
  |some d=>rfl
 |_=>cases a U<;>rfl
def b7Y{ds:List D}(h:ds.length<1000000):b0k i (.list ds) (cz d) U=cz (.nx (U.set i (.list (ds++[d])))):=by
 show (if ds.length<1000000 then cz (Out.nx (U.set i (.list (ds++[d])))) else el)=_;rw[aG h]
def a7O(h:a U=cz (.int n))(h0:0<=n)(h1:n<2^62):iR a U=cz (J9 0 n.toNat):=by
 unfold iR;rw[h];show (if -(2^62)<=n/\n<2^62 then cz (J9 0 n.toNat) else el)=_;rw[aG ⟨by lia,h1⟩]
def a7P:(J9 lo n).length=n:=by unfold J9;simp
end
end VS
namespace VS
open PySem PySem.Spec L2
noncomputable def fnN(us:List Ty)(n:Nat)(g:EvS):List D->Option D:=λds=>if argsOk us ds then (g (ds++aR n .none)).bind λo=>match o with
 |.rt d=>cz d
 |.nx _=>cz .none
 |_=>el
 else el
open PyProof.Rows in
def b2k{P:bz}{w:bI}{K:af}{mg:bC->Option aj}{base:bQ}{x:bC}{st:hZ}{f:aw}{fd:dD}{N ps:List bC}{k n:Nat}{us:List Ty}{u:Ty}{g:EvS}{M':List Md}(F:Fun K x x st f fd)(S:FnScope N ps (j5 st))(nj:us.length=ps.length)(hn:N.length=ps.length+n)
  (hb:∀(gk:aj) (A:bD) (outer:List oM) (s:ar) (H:Hp) (E:XK),Room k (A.deeper (jl x (j5 st) s.heap.objs.size f gk))->PSsX (a0C CX0 P w K mg base N x (j5 st) f gk A outer s H E).nox .i [] (us.map .own++aR n .dead) (y6 st) g M') (hu:u=.i:=by rfl) :
  FnOk P w K mg base CX0 (k+1) f fd ps (spD K ps.length (fnN us n g) u):=by
 subst hu;refine F.ok S (λvs H Q E h=>?_) (λgk A outer s H vs Q E hr h=>?_)
 ·obtain⟨ds,d,hl,_⟩:=h;exact hl
 obtain⟨ds,d,hl,hd,hm,q⟩:=h;obtain⟨t,p,r⟩:=(hb gk A outer s H E hr).out;refine⟨t,p,?_⟩;unfold fnN at hm;by_cases ha:argsOk us ds=p4
 ·rw[aG ha]at hm;obtain⟨o,h1,h2⟩:=bnd hm;have e:L2.start N vs=vs.map cz++aR n el:=by
   unfold L2.start;rw[show N.length-vs.length=n by lia]
  have S0:StR K (us.map .own++aR n .dead) (ds++aR n iK) (vs.map cz++aR n el) H H []:=⟨⟨[],T9 ha hd n,bu,λa ha=>(nomatch ha)⟩,λa ha=>(nomatch ha),by rw[K8];exact Same.refl H⟩;cases o with
  |rt d'=>
   have jd:cz d'=cz d:=h2;cases jd
   rw[e];exact r _ (ds++aR n iK) _ H H [] (.rt d) S0 h1 λv H' fp o nd fr e=>q v H' fp e o nd fr
  |nx U=>
   have jd:cz iK=cz d:=h2;cases jd
   rw[e];refine r _ (ds++aR n iK) _ H H [] (.nx U) S0 h1 λY' H' F' S'=>?_
   refine q .non H' [] (S'.prot.trans i8) ?_ bu λa ha=>(nomatch ha)
   simp only[Own];exact⟨trivial,by simp only[imm],den_none⟩
  |_=>cases h2
 ·rw[aL ha]at hm;cases hm
def B8:∀{l:List α} {l':List β},eZ R l l'->∀{j:Nat} {x:α},l[j]?=cz x->∃y,l'[j]?=cz y/\R x y:=by
 intro l l' h
 induction h with
 |nil=>intro j x e;simp at e
 |cons r _ ih=>
  intro j x e;cases j with
  |zero=>cases e;exact⟨_,rfl,r⟩
  |succ j=>exact ih (by simpa using e)
def a1T:∀{l:List α} {l':List β},eZ R l l'->∀{j:Nat} {y:β},l'[j]?=cz y->∃x,l[j]?=cz x/\R x y:=by
 intro l l' h
 induction h with
 |nil=>intro j x e;simp at e
 |cons r _ ih=>
  intro j x e;cases j with
  |zero=>cases e;exact⟨_,rfl,r⟩
  |succ j=>exact ih (by simpa using e)
section
variable {X:Cx}{pins:List (aw×fM)}{Y:L2.St}{H:Hp}{s:ar}{A:bD}{E:aj->ar->Prop}{a:aw}{es:List (D×V×V)}{o:fM}{ents:Array eX}{ep:Nat}{kt:Bool}{k:D}{kv:V}{key:aj}
def a1y(I:Inv X pins Y H s)(kk:keyOk kt k)(dk:Den X.K H kv k)(rk:RelV kv key):∃as,Reads s.heap key k as:=Den.reads I k (W2 _ kk.1) dk rk
def Y3(I:Inv X pins Y H s)(hu:A.units+10<cS)(kk:keyOk kt k)(dk:Den X.K H kv k)(rk:RelV kv key)(h:Q (hashD k) {s with toks:=s.toks+u8 k}):aD (aX X.prog X.w) A (pyHash key) Q E s:=by
 obtain⟨as,r⟩:=a1y I kk dk rk;exact a2I k kk.1 (by have:=kk.2.1;lia) r h
def Y4(I:Inv X pins Y H s)(hu:A.units+10<cS)(ho:s.heap.get? a=cz o)(hd:o.data=.dict ents ep)(hp:eZ O4 es ents.toList)(hn:(es.map (·.1)).Nodup)(hk:∀e∈es,keyOk kt e.1/\Den X.K H e.2.1 e.1)
  (kk:keyOk kt k) (dk:Den X.K H kv k) (rk:RelV kv key) (jU:(∀e∈es,e.1≠k)->Q el s) (jT:∀j e,es[j]?=cz e->e.1=k->Q (cz j) s) :
  aD (aX X.prog X.w) A (dictFind a key (hashD k)) Q E s:=by
 cases kt with
 |false=>
  obtain⟨i,rfl⟩:=kk.2.2.2 rfl;cases dk.int_inv
  obtain⟨t,rfl⟩:=rk;have ent:∀(j:Nat) (x:eX),ents.toList[j]?=cz x->∃e n u,es[j]?=cz e/\e.1=.int n/\x.key=.int n u/\x.hash=j_ n:=λj x hx=>by
   obtain⟨e,he,h1,h2,_⟩:=a1T hp hx;obtain⟨k1,k2⟩:=hk e (bo he);obtain⟨n,en⟩:=k1.2.2.2 rfl;rw[en]at k2 h1;have e2:=k2.int_inv;rw[e2]at h2;obtain⟨u,qY⟩:=h2;exact⟨e,n,u,he,en,qY,by simpa[hashD]using h1⟩
  show aD (aX X.prog X.w) A (dictFind a (.int i t) ((cX X.prog X.w).hash i)) Q E s;refine wpAny_dictFind_of (knd:=cX X.prog X.w) (k:=i) (by simp[cX,jF]) ho hd (λx hx=>?_) ?_
  ·obtain⟨j,hj⟩:=bE.mp (dM.mpr hx);obtain⟨e,n,u,_,_,h3,h4⟩:=ent j x hj;exact⟨n,by rw[h3];simp[cX,jF],h4⟩
  ·cases hf:ents.findIdx? λe=>(cX X.prog X.w).is i e.key with
   |none=>
    refine jU λe he fJ=>?_
    obtain⟨j,hj⟩:=bE.mp he;obtain⟨x,hx,_⟩:=B8 hp hj;obtain⟨e',n,u,h1,h2,h3,_⟩:=ent j x hx;rw[hj]at h1;cases h1
    rw[fJ]at h2;cases h2
    have:=Array.findIdx?_eq_none_iff.mp hf x (dM.mp (bo hx));rw[h3]at this;simp[cX,jF]at this
   |some j=>
    obtain⟨il,vJ,_⟩:=Array.findIdx?_eq_some_iff_getElem.mp hf;have hx:ents.toList[j]?=cz ents[j]:=by simp[il]
    obtain⟨e,n,u,h1,h2,h3,_⟩:=ent j _ hx;have tQ:n=i:=by
     rw[h3]at vJ;simpa[cX,jF]using vJ
    subst tQ;exact jT j e h1 h2
 |true=>
  obtain⟨ds,rfl⟩:=kk.2.2.1 rfl;obtain⟨p,ve,rfl,_,_⟩:=dk.tup_inv;cases (show key=aZ p from rk)
  obtain⟨as,CT⟩:=a1y I kk (dk) (show RelV (.ref p) (.ref p) from rfl);have build:∀{es:List (D×V×V)} {l:List eX},eZ O4 es l->(∀e∈es,keyOk p4 e.1/\Den X.K H e.2.1 e.1)->∃xs:List (D×aw×aj),l=xs.map (λx=>(⟨hashD x.1,.ref x.2.1,x.2.2⟩:eX))/\xs.map (·.1)=es.map (·.1)/\∀x∈xs,C1 x.1=p4/\x.1.depth<=7/\∃as,Reads s.heap (.ref x.2.1) x.1 as:=by
   intro es l hp
   induction hp with
   |nil=>exact λ_=>⟨[],rfl,rfl,λx hx=>(nomatch hx)⟩
   |@cons e x es l r _ ih=>
    intro hk;obtain⟨xs,i1,i2,i3⟩:=ih λe he=>hk e (ai _ he)
    obtain⟨k1,k2⟩:=hk e ah;obtain⟨as,rr⟩:=a1y I k1 k2 r.2.1;obtain⟨ds,ed⟩:=k1.2.2.1 rfl;have:∃q,x.key=.ref q:=by
     rw[ed]at rr;cases DK:x.key with
     |ref q=>exact⟨q,rfl⟩
     |_=>rw[DK]at rr;cases rr
    obtain⟨q,hq⟩:=this;refine⟨(e.1,q,x.val)::xs,?_,by rw[av,av,i2],λy hy=>?_⟩
    ·rw[av,<-i1]
     congr 1;obtain⟨xh,xk,xv⟩:=x;simp only at hq;rw[show xh=hashD e.1 from r.1,hq]
    ·rcases az.mp hy with z|z
     ·subst z;exact⟨k1.1,k1.2.1,as,by rw[hq]at rr;exact rr⟩
     ·exact i3 y z
  obtain⟨xs,x1,x2,x3⟩:=build hp hk;have idx:∀(j:Nat) (kk:D),(∃p,xs[j]?=cz (kk,p))↔∃e,es[j]?=cz e/\e.1=kk:=λj kk=>by
   have:(xs.map (·.1))[j]?=(es.map (·.1))[j]?:=by rw[x2]
   rw[a_,a_]at this
   constructor
   ·rintro⟨q,hq⟩;rw[hq]at this;cases he:es[j]? with
    |none=>rw[he]at this;cases this
    |some e=>rw[he]at this;exact⟨e,rfl,(aK this).symm⟩
   ·rintro⟨e,he,hk⟩;rw[he]at this;cases hx:xs[j]? with
    |none=>rw[hx]at this;cases this
    |some x=>
     rw[hx]at this;have e1:x.1=e.1:=aK this;exact⟨x.2,by rw[<-hk,<-e1]⟩
  refine @wpAny_dictFind_heap X.prog X.w D a9W (b1Q X.prog X.w) A E s a p o ents ep xs (.tuple ds) Q (by show A.units+8<cS;lia) ⟨kk.1,kk.2.1,as,CT⟩ ho hd x1 x3 (by rw[x2];exact hn) (λh=>jU λe he fJ=>?_) (λj q hj=>?_)
  ·obtain⟨j,hj⟩:=bE.mp he;obtain⟨q,hq⟩:=(idx j (.tuple ds)).mpr ⟨e,hj,fJ⟩;exact h j q hq
  ·obtain⟨e,he,fJ⟩:=(idx j (.tuple ds)).mp ⟨q,hj⟩;exact jT j e he fJ
end
def u4(es:List (D×V×V))(k:D):Bool:=es.any λe=>aC e.1 k
def P9(es:List (D×V×V))(k:D)(kv v:V):List (D×V×V):=if u4 es k then es.map λe=>if aC e.1 k then (e.1,e.2.1,v) else e else es++[(k,kv,v)]
section
variable {X:Cx}{pins:List (aw×fM)}{Y:L2.St}{H:Hp}{s:ar}{A:bD}{E:aj->ar->Prop}{a:aw}{es:List (D×V×V)}{kt:Bool}{k:D}{kv v:V}{key val:aj}
def a7Q{x:D×V×V}(h:G0 (es++[x])=rp):G0 es=rp:=by
 cases es with
 |nil=>rfl
 |cons e es=>exact h
def a1z(I:Inv X pins Y H s)(h:H a=cz (c9 a es)):(a==cU)=rp/\es.length<=aV/\(es.map (·.1)).Nodup/\∃o ents ep,s.heap.get? a=cz o/\o.ExactDict/\o.data=.dict ents ep/\eZ O4 es ents.toList/\(G0 es=rp->ep=es.length):=
 (show ObjOk X.prog X.w H s.heap a (c9 a es) from I.hok a _ h).1
def Y5(I:Inv X pins Y H s)(h:H a=cz (c9 a es))(hL:G0 es=rp):(a==cU)=rp/\es.length<=aV/\(es.map (·.1)).Nodup/\∃o ents,s.heap.get? a=cz o/\o.ExactDict/\o.data=.dict ents es.length/\eZ O4 es ents.toList:=
 let⟨a1,a2,a3,o,ents,_,r1,r2,r3,r4,r5⟩:=a1z I h;⟨a1,a2,a3,o,ents,r1,r2,r5 hL▸r3,r4⟩
def o8(I:Inv X pins Y H s)(h:H a=cz (c9 a es)):(a==cU)=rp/\es.length<=aV/\(es.map (·.1)).Nodup/\∃o ents ep,s.heap.get? a=cz o/\o.ExactDict/\o.data=.dict ents ep/\eZ O4 es ents.toList:=
 let⟨a1,a2,a3,o,ents,ep,r1,r2,r3,r4,_⟩:=a1z I h;⟨a1,a2,a3,o,ents,ep,r1,r2,r3,r4⟩
def a2S(I:Inv X pins Y H s)(h:H a=cz (c9 a es)){o:fM}{ents:Array eX}{ep:Nat}(h1:s.heap.get? a=cz o)(h3:o.data=.dict ents ep)(hL:G0 es=rp):ep=es.length:=by
 obtain⟨_,_,_,o',sV,g1,_,g3,_⟩:=Y5 I h hL;rw[h1]at g1;cases g1
 rw[h3]at g3
 injection g3
def k6(I:Inv X pins Y H s)(h:H a=cz (c9 a es)):s.TypeIs (.ref a) "dict":=by
 obtain⟨_,_,_,o,ents,ep,h1,h2,_⟩:=o8 I h;exact⟨o,h1,h2.1⟩
def L5(I:Inv X pins Y H s)(h:H a=cz (c9 a es)):∀b,aZ a=.ref b->∃ob,s.heap.get? b=cz ob/\ob.dict=el:=λb q=>by
 cases q
 obtain⟨_,_,_,o,ents,ep,h1,h2,_⟩:=o8 I h;exact⟨o,h1,h2.2.1⟩
def Y6{P:bz}{w:bI}{H':Hp}{h':bQ}(hs:(a==cU)=rp)(hl:es.length<=aV)(hn:(es.map (·.1)).Nodup){o:fM}{ents:Array eX}{ep:Nat}(h1:h'.get? a=cz o)(h2:o.ExactDict)(h3:o.data=.dict ents ep)(he:G0 es=rp->ep=es.length)(h4:eZ O4 es ents.toList):ObjOk P w H' h' a (c9 a es):=
 ⟨⟨hs,hl,hn,o,ents,ep,h1,h2,h3,h4,he⟩,⟨o,h1⟩,λx1 x2 ⟨a1,a2,a3,o',sV,rg,b1,b2⟩ hk=>⟨a1,a2,a3,o',sV,rg,hk _ b1,b2⟩⟩
structure KeysAt (X:Cx) (H:Hp) (kt:Bool) (es:List (D×V×V)) (k:D) (kv:V):Prop where
 keys:∀e∈es,keyOk kt e.1/\Den X.K H e.2.1 e.1
 key:keyOk kt k
 den:Den X.K H kv k
def KeysAt.eqv(K:KeysAt X H kt es k kv){e:D×V×V}(he:e∈es):aC e.1 k=p4↔e.1=k:=B1 e.1 k (K.keys e he).1.1 K.key.1
def get_dict(I:Inv X pins Y H s)(hu:A.units+10<cS)(h:H a=cz (c9 a es))(K:KeysAt X H kt es k kv)(rk:RelV kv key) 
  (jU:u4 es k=rp->∀s',Inv X pins Y H s'->Q el s') (jT:∀e∈es,e.1=k->∀x s',Inv X pins Y H s'->RelV e.2.2 x->Q (cz x) s') :
  aD (aX X.prog X.w) A (FX a key) Q E s:=by
 obtain⟨_,_,hn,o,ents,ep,h1,h2,h3,h4⟩:=o8 I h;unfold FX
 try with_reducible refine bL ?_
 refine ab (Y3 I hu K.key K.den rk (ab (Y4 (s:={s with toks:=s.toks+u8 k}) (I.tok (s.toks+u8 k)) hu h1 h3 h4 hn K.keys K.key K.den rk ?_ ?_)))
 ·intro nr;refine ae (jU ?_ _ (I.tok _));unfold u4;rw[cu];exact λe he hq=>nr e he ((K.eqv he).mp hq)
 ·intro j e he fJ;obtain⟨x,hx,r⟩:=B8 h4 he;refine ab (cC (s:={s with toks:=s.toks+u8 k}) h1 h3 ?_);have:ents[j]?=cz x:=by rw[<-bZ];exact hx
  rw[this];exact ae (jT e (bo he) fJ _ _ (I.tok _) r.2.2)
def a2T(hf:u4 es k=rp):P9 es k kv v=es++[(k,kv,v)]:=by unfold P9;rw[hf];rfl
def a7R{α β:Type}{R:α->β->Prop}{l:List α}{l':List β}(h:eZ R l l'){x:α}{y:β}(r:R x y):eZ R (l++[x]) (l'++[y]):=by
 induction h with
 |nil=>exact .cons r .nil
 |cons q _ ih=>exact .cons q ih
def b0l(K:KeysAt X H kt es k kv)(hn:(es.map (·.1)).Nodup)(hf:u4 es k=rp):((es++[(k,kv,v)]).map (·.1)).Nodup:=by
 rw[aW,bb];refine⟨hn,by simp,λx hx y hy e=>?_⟩;simp only[av,cB,aq]at hy;subst hy;subst e;obtain⟨e,he,rfl⟩:=aO.mp hx;unfold u4 at hf;rw[cu]at hf;exact hf e he ((K.eqv he).mpr rfl)
def a1A(I:Inv X pins Y H s)(h:H a=cz (c9 a es))(K:KeysAt X H kt es k kv)(rk:RelV kv key)(rv:RelV v val)(hl:es.length<aV)(hf:u4 es k=rp){t':Nat}{o:fM}{ents:Array eX}{ep:Nat}(h1:s.heap.get? a=cz o)(h2:o.ExactDict)(h3:o.data=.dict ents ep)(h4:eZ O4 es ents.toList) :
  Inv X pins Y (upd H a (c9 a (es++[(k,kv,v)]))) {s with heap:=s.heap.update a (·.mapDictKeys (·.push ⟨hashD k,key,val⟩)),toks:=t'}:=by
 obtain⟨hs,_,hn,_⟩:=o8 I h;refine I.write (x:=a) (e:=a) (by rw[h];exact jG) (.inl rfl) (λb q hb z=>((bP ..).2 b hb).trans z) ⟨_,bS _ h1 (ip (gY h3 _))⟩ ?_;refine Y6 hs (by simp;lia) (b0l K hn hf) (bS _ h1 (ip (gY h3 _))) (h2.mapDictKeys _) (gY h3 _) (λhL=>by rw[a2S I h h1 h3 (a7Q hL),ba];rfl) ?_;have:=a7R h4 (x:=(k,kv,v)) (y:=⟨hashD k,key,val⟩) ⟨rfl,rk,rv⟩;obtain⟨l⟩:=ents;simpa using this
def b0m(I:Inv X pins Y H s)(hu:A.units+10<cS)(h:H a=cz (c9 a es))(K:KeysAt X H kt es k kv)(rk:RelV kv key)(rv:RelV v val)(hl:es.length<aV){Q:aj->ar->Prop}
  (jU:u4 es k=rp->∀s',Inv X pins Y (upd H a (c9 a (es++[(k,kv,v)]))) s'->Q val s') (jT:∀e∈es,e.1=k->∀x s',Inv X pins Y H s'->RelV e.2.2 x->Q x s') :
  aD (aX X.prog X.w) A (xa a key val) Q E s:=by
 obtain⟨_,_,hn,o,ents,ep,h1,h2,h3,h4⟩:=o8 I h;have hsz:ents.size<=aV:=by
  have:=cN h4;have e2:ents.toList.length=ents.size:=by simp
  lia
 unfold xa
 try with_reducible refine bL ?_
 refine ab (Y3 I hu K.key K.den rk (ab (Y4 (s:={s with toks:=s.toks+u8 k}) (I.tok (s.toks+u8 k)) hu h1 h3 h4 hn K.keys K.key K.den rk ?_ ?_)))
 ·intro nr;have hf:u4 es k=rp:=by
   unfold u4;rw[cu];exact λe he hq=>nr e he ((K.eqv he).mp hq)
  refine ab (dR (ab (mZ (hz:=hsz) (s:={s with toks:=s.toks+u8 k}) h1 h3 (ae (jU hf _ (a1A (t':=s.toks+u8 k) I h K rk rv hl hf h1 h2 h3 h4))))))
 ·intro j e he fJ;obtain⟨x,hx,r⟩:=B8 h4 he;refine ab (cC (s:={s with toks:=s.toks+u8 k}) h1 h3 ?_);have:ents[j]?=cz x:=by rw[<-bZ];exact hx
  rw[this];exact ab (dR (ae (jT e (bo he) fJ _ _ (I.tok (s.toks+u8 k)) r.2.2)))
def a7S(hp:eZ O4 es l)(hn:(es.map (·.1)).Nodup)(hk:∀e∈es,aC e.1 k=p4↔e.1=k)(rv:RelV v val):∀{j:Nat} {e:D×V×V},es[j]?=cz e->e.1=k->
  eZ O4 (es.map λe=>if aC e.1 k then (e.1,e.2.1,v) else e) (l.modify j λx=>{x with val:=val}):=by
 induction hp with
 |nil=>intro j e he;simp at he
 |@cons e0 x es l r hp ih=>
  intro j e he fJ;rw[av,bt]at hn;have q_:∀e∈es,aC e.1 k=p4↔e.1=k:=λe he=>hk e (ai _ he)
  cases j with
  |zero=>
   cases he
   have h0:aC e0.1 k=p4:=(hk _ ah).mpr fJ;have jC:es.map (λe=>if aC e.1 k then (e.1,e.2.1,v) else e)=es:=by
    have:∀e'∈es,(if aC e'.1 k then (e'.1,e'.2.1,v) else e')=e':=λe' kG=>by
     rw[aL];intro q;exact hn.1 (by rw[fJ,<-(q_ e' kG).mp q];exact bw kG)
    rw[bY this,kS]
   rw[av,aG h0,jC];exact .cons ⟨r.1,r.2.1,rv⟩ hp
  |succ j=>
   have kG:es[j]?=cz e:=by simpa using he
   have gy:¬ aC e0.1 k=p4:=λq=>hn.1 (by rw[(hk _ ah).mp q,<-fJ];exact bw (bo kG))
   rw[av,aL gy];exact .cons r (ih hn.2 q_ kG fJ)
def a2U{es:List (D×V×V)}:(es.map λe=>if aC e.1 k then (e.1,e.2.1,v) else e).map (·.1)=es.map (·.1):=by
 rw[bF];refine bY λe _=>?_
 show (if aC e.1 k then (e.1,e.2.1,v) else e).1=e.1
 split<;>rfl
def a7T(K:KeysAt X H kt es k kv)(hk:Z2 k=rp)(h:G0 (es.map λe=>if aC e.1 k then (e.1,e.2.1,v) else e)=rp):G0 es=rp:=by
 cases es with
 |nil=>rfl
 |cons e es=>
  by_cases c:aC e.1 k=p4
  ·show (Z2 e.1&&a5Z e.2.2)=rp;rw[(K.eqv ah).mp c,hk];rfl
  ·rw[av,aL c]at h;exact h
def set_dict(I:Inv X pins Y H s)(hu:A.units+10<cS)(h:H a=cz (c9 a es))(K:KeysAt X H kt es k kv)(rk:RelV kv key)(rv:RelV v val)(hl:es.length<aV)(hp:u4 es k=p4->Z2 k=rp){Q:Unit->ar->Prop}
  (hQ:∀s',Inv X pins Y (upd H a (c9 a (P9 es k kv v))) s'->Q () s'):aD (aX X.prog X.w) A (FW a key val) Q E s:=by
 obtain⟨hs,_,hn,o,ents,ep,h1,h2,h3,h4⟩:=o8 I h;have hsz:ents.size<=aV:=by
  have:=cN h4;have e2:ents.toList.length=ents.size:=by simp
  lia
 unfold FW
 try with_reducible refine bL ?_
 refine ab (Y3 I hu K.key K.den rk ?_);unfold ll
 try with_reducible refine bL ?_
 refine ab (Y4 (s:={s with toks:=s.toks+u8 k}) (I.tok (s.toks+u8 k)) hu h1 h3 h4 hn K.keys K.key K.den rk ?_ ?_)
 ·intro nr;have hf:u4 es k=rp:=by
   unfold u4;rw[cu];exact λe he hq=>nr e he ((K.eqv he).mp hq)
  rw[a2T hf]at hQ;exact ab (dR (mZ (hz:=hsz) (s:={s with toks:=s.toks+u8 k}) h1 h3 (hQ _ (a1A (t':=s.toks+u8 k) I h K rk rv hl hf h1 h2 h3 h4))))
 ·intro j e he fJ;have hf:u4 es k=p4:=by
   unfold u4;rw[cP];exact⟨e,bo he,(K.eqv (bo he)).mpr fJ⟩
  have rg:P9 es k kv v=es.map λe=>if aC e.1 k then (e.1,e.2.1,v) else e:=by unfold P9;rw[hf];rfl
  rw[rg]at hQ;refine ab (dR (ab (wpAny_updateDict (s:={s with toks:=s.toks+u8 k}) h1 h3 (wpAny_point (hQ _ ?_)))));refine I.write (x:=a) (e:=a) (t':=s.toks+u8 k) (by rw[h];exact jG) (.inl rfl) (λb q hb z=>((bP ..).2 b hb).trans z) ⟨_,bS _ h1 (ip (sr h3 _))⟩ ?_;refine Y6 hs (by rw[au];lia) (by rw[a2U];exact hn) (bS _ h1 (ip (sr h3 _))) (h2.mapDict _) (sr h3 _) (λhL=>by rw[a2S I h h1 h3 (a7T K (hp hf) hL),au]) ?_;have:=a7S h4 hn (λe he=>K.eqv he) rv he fJ;obtain⟨l⟩:=ents;simpa using this
end
def a4q(i:Expr):Prop:=∀ov iv,sG i rp ov iv=operate [ov,iv] (qM ov iv)
open PyProof.Rows in
def b9Z{prog:bz}{w:bI}{A:bD}{E:aj->ar->Prop}{s:ar}{env:oM}{value slice:Expr}{pos:eS}{T id:String}{Q:aj->ar->Prop}
  (hl:oP (.type T) "__getitem__"=pure (cz (.builtin id))) (hs:a4q slice)
  (h:aD (aX prog w) A (cn value env) (λo s₁=>aD (aX prog w) A (cn slice env) (λi s₂=>s₂.TypeIs o T/\aD (aX prog w) A (qM o i) Q E s₂) E s₁) E s) :
  aD (aX prog w) A (cn (.Subscript value slice pos) env) Q E s:=by
 refine PyProof.Rows.Subscript_ (dg h (λo s₁ h₁=>dg h₁ (λi s₂ h₂=>?_) λ_ _ x=>x) λ_ _ x=>x);obtain⟨hT,h₂⟩:=h₂;unfold subscriptTail;refine ab ?_;rw[getitemInPython_of_ne hT.not_modules];refine ab (dy hT hl ?_);have fin:aD (aX prog w) A (sG slice rp o i) (λr s₃=>aD (aX prog w) A (letTemporaryGo value o r >>= λ_=>pure r) Q E s₃) E s₂:=by
  rw[hs o i];exact wpAny_operating (dg h₂ (λr s₃ h₃=>ab (wpAny_letTemporaryGo (ae h₃))) λ_ _ x=>x)
 first
  |exact ae (ab fin)
  |exact ab (ae (ab fin))
  |exact ab fin
section
variable {X:Cx}{pins:List (aw×fM)}{Y:L2.St}{H:Hp}{s:ar}{A:bD}{E:aj->ar->Prop}{a:aw}{es:List (D×V×V)}{kt:Bool}{k:D}{kv v:V}{key val:aj}
def a2V(hu:A.units+12<cS)(I:Inv X pins Y H s)(h:H a=cz (c9 a es))(K:KeysAt X H kt es k kv)(rk:RelV kv key)(hh:u4 es k=p4)
  (hQ:∀e∈es,e.1=k->∀x s',Inv X pins Y H s'->RelV e.2.2 x->Q x s'):aD (aX X.prog X.w) A (qM (.ref a) key) Q E s:=by
 have hT:=k6 I h;unfold qM
 try with_reducible refine bL ?_
 refine ab (wpAny_sequenceKey hT (by decide) ?_);refine ab (bH (name:=cf "__getitem__") hT slot_dict_getitem (bB slot_dict_getitem hT entry_dict_getitem ?_ (args_dict_getitem _ _)));show aD _ _ (FX a key >>= _) _ _ s;refine ab (get_dict (A:=A.in1) I (by show A.units+1+10<cS;lia) h K rk (λhf=>by rw[hh]at hf;cases hf) λe he fJ x s' I' r=>?_);exact ae ⟨x,rfl,ae (hQ e he fJ x s' I' r)⟩
def a1U(hu:A.units+12<cS)(I:Inv X pins Y H s)(h:H a=cz (c9 a es))(K:KeysAt X H kt es k kv)(rk:RelV kv key)
  (hQ:∀s',Inv X pins Y H s'->Q (u4 es k) s'):aD (aX X.prog X.w) A (contains (.ref a) key) Q E s:=by
 have hT:=k6 I h;obtain⟨hd,_⟩:=o8 I h;unfold contains
 try with_reducible refine bL ?_
 refine ab (dy hT slot_dict_contains.lookup ?_);show aD _ _ (if (cz (An "dict.__contains__")==cz cj)=p4 then _ else _) _ E s;rw[aL (by rw[beq_builtin_none];exact aY)];refine ab (wpAny_callSpecialUnlessNone?_slot (name:=cf "__contains__") hT slot_dict_contains (bB slot_dict_contains hT entry_dict_contains ?_ (args_dict_contains _ _)));show aD _ _ (FX a key >>= _) _ _ s;refine ab (get_dict (A:=A.in1) I (by show A.units+1+10<cS;lia) h K rk (λhf s' I'=>?_) λe he fJ x s' I' r=>?_)
 ·rw[hf]at hQ;show aD _ _ (Builtin.Dict.pendingKey? a key >>= _) _ _ _;exact ab (wpAny_pendingKey_other hd (ae ⟨_,rfl,dG (hQ s' I')⟩))
 ·have hf:u4 es k=p4:=by
   unfold u4;rw[cP];exact⟨e,he,(K.eqv he).mpr fJ⟩
  rw[hf]at hQ;show aD _ _ (ret (.bool p4)) _ _ _;exact ae ⟨_,rfl,dG (hQ s' I')⟩
def c0a(hu:A.units+12<cS)(I:Inv X pins Y H s)(h:H a=cz (c9 a es))(K:KeysAt X H kt es k kv)(rk:RelV kv key)
  (hQ:∀s',Inv X pins Y H s'->Q (.bool (u4 es k)) s'):aD (aX X.prog X.w) A (bJ .In key (.ref a)) Q E s:=by
 show aD _ _ (do return .bool (<-contains (.ref a) key)) Q E s;exact ab (a1U hu I h K rk λs' I'=>ae (hQ s' I'))
def b2l(hu:A.units+12<cS)(I:Inv X pins Y H s)(h:H a=cz (c9 a es))(K:KeysAt X H kt es k kv)(rk:RelV kv key)
  (hQ:∀s',Inv X pins Y H s'->Q (.bool (!u4 es k)) s'):aD (aX X.prog X.w) A (bJ .NotIn key (.ref a)) Q E s:=by
 show aD _ _ (do return .bool (!(<-contains (.ref a) key))) Q E s;exact ab (a1U hu I h K rk λs' I'=>ae (hQ s' I'))
def a7U(hu:A.units+12<cS)(I:Inv X pins Y H s)(h:H a=cz (c9 a es))(K:KeysAt X H kt es k kv)(rk:RelV kv key)(rv:RelV v val)(hl:es.length<aV)(hp:u4 es k=p4->Z2 k=rp)
  (hQ:∀s',Inv X pins Y (upd H a (c9 a (P9 es k kv v))) s'->Q () s'):aD (aX X.prog X.w) A (setItem (.ref a) key val) Q E s:=by
 have hT:=k6 I h;unfold setItem
 try with_reducible refine bL ?_
 refine ab (wpAny_sequenceKey hT (by decide) ?_);refine ab (bH (name:=cf "__setitem__") hT slot_dict_setitem (bB slot_dict_setitem hT entry_dict_setitem ?_ (args_dict_setitem _ _ _)));show aD _ _ (Builtin.Dict.notOrdered "__setitem__" ⟨[.ref a,key,val],[]⟩ >>= _) _ _ s;refine ab (fI hT ?_);show aD _ _ (FW a key val >>= _) _ _ s;exact ab (set_dict (A:=A.in1) I (by show A.units+1+10<cS;lia) h K rk rv hl hp λs' I'=>ae ⟨.none,rfl,ae (hQ s' I')⟩)
def b7Z(hu:A.units+12<cS)(I:Inv X pins Y H s)(h:H a=cz (c9 a es))(K:KeysAt X H kt es k kv)(rk:RelV kv key)
  (jU:u4 es k=rp->∀s',Inv X pins Y H s'->Q .none s') (jT:∀e∈es,e.1=k->∀x s',Inv X pins Y H s'->RelV e.2.2 x->Q x s'):aD (aX X.prog X.w) A (call (.builtin "dict.get") [.ref a,key]) Q E s:=by
 have hT:=k6 I h;obtain⟨hd,_⟩:=o8 I h;refine bB F.slot_dict_get hT F.entry_dict_get ?_ (F.args_dict_get_2 _ _);show aD _ _ (FX a key >>= _) _ _ s;refine ab (get_dict (A:=A.in1) I (by show A.units+1+10<cS;lia) h K rk (λhf s' I'=>?_) λe he fJ x s' I' r=>?_)
 ·show aD _ _ (Builtin.Dict.missed a key >>= _) _ _ _;exact ab (wpAny_missed_other hd (ae ⟨.none,rfl,jU hf s' I'⟩))
 ·exact ae ⟨x,rfl,jT e he fJ x s' I' r⟩
def b4X(hu:A.units+12<cS)(I:Inv X pins Y H s)(h:H a=cz (c9 a es))(K:KeysAt X H kt es k kv)(rk:RelV kv key)(rv:RelV v val)(hl:es.length<aV)
  (jU:u4 es k=rp->∀s',Inv X pins Y (upd H a (c9 a (es++[(k,kv,v)]))) s'->Q val s') (jT:∀e∈es,e.1=k->∀x s',Inv X pins Y H s'->RelV e.2.2 x->Q x s') :
  aD (aX X.prog X.w) A (call (.builtin "dict.setdefault") [.ref a,key,val]) Q E s:=by
 have hT:=k6 I h;obtain⟨hd,_⟩:=o8 I h;refine bB F.slot_dict_setdefault hT F.entry_dict_setdefault ?_ (F.args_dict_setdefault_3 _ _ _);unfold Builtin.«dict.setdefault»;refine ab ?_;unfold Builtin.Dict.keyAndDefault;refine ab (fI hT ?_);show aD _ _ (pure (a,key,cz val)) _ _ s;refine ae ?_;show aD _ _ (if (a==cU)=p4 then _ else (xa a key val >>= _)) _ _ s;rw[aL (by rw[hd];exact aY)];exact ab (b0m (A:=A.in1) I (by show A.units+1+10<cS;lia) h K rk rv hl (λhf s' I'=>ae ⟨_,rfl,jU hf s' I'⟩) λe he fJ x s' I' r=>ae ⟨_,rfl,jT e he fJ x s' I' r⟩)
def b8a(I:Inv X pins Y H s)(h:H a=cz (c9 a es))(hQ:∀t s',Inv X pins Y H s'->Q (.int es.length t) s'):aD (aX X.prog X.w) A (call (.builtin "len") [.ref a]) Q E s:=by
 have hT:=k6 I h;obtain⟨hd,hl,_,o,ents,ep,h1,h2,h3,h4⟩:=o8 I h;have hsz:ents.size=es.length:=by
  have:=cN h4;have e2:ents.toList.length=ents.size:=by simp
  lia
 have pH:(es.length:Int)<2^63:=by
  have:aV<2^62:=by decide
  lia
 refine kT kind_len plain_len entry_len (args_len1 _) ?_;unfold Builtin.«len»;refine ab (m:=oneArg "len" _) (ae ?_);refine ab (m:=callSpecial? (.ref a) (cf "__len__")) (bH (name:=cf "__len__") hT iz (bB iz hT F.entry_dict_len ?_ (F.args_dict_len_1 _)));show aD _ _ (dictSize a >>= _) _ _ s;unfold dictSize;refine ab (ab (cC h1 h3 (ae ?_)));show aD _ _ (yh a >>= _) _ _ s;refine ab (ym hd ?_);refine tw ?_;rw[Nat.add_zero,hsz];refine ab (bL (ae ?_));refine ab (nc ?_);show aD _ _ (if ((es.length:Nat):Int)<0 then _ else _) _ _ _;rw[aL (by lia)];show aD _ _ (if ((es.length:Nat):Int)≥2^63 then _ else _) _ _ _;rw[aL (by lia)];exact ab (wpAny_mkInt (ae ⟨_,rfl,hQ _ _ (I.tok _)⟩))
end
def v6(kvs:List (D×D))(k:D):Bool:=kvs.any λp=>aC p.1 k
def A1(kvs:List (D×D))(k:D):Option D:=(kvs.find? λp=>aC p.1 k).map (·.2)
def n9(kvs:List (D×D))(k d:D):List (D×D):=if v6 kvs k then kvs.map λp=>if aC p.1 k then (p.1,d) else p else kvs++[(k,d)]
def m9(kt:Bool)(k:D):Bool:=C1 k&&decide (k.depth<=7)&&match k with
 |.tuple _=>kt
 |.int _=>!kt
 |_=>rp
def u9(h:m9 kt k=p4):keyOk kt k:=by
 unfold m9 at h;rw[ak,ak]at h;refine⟨h.1.1,aP h.1.2,λe=>?_,λe=>?_⟩
 ·subst e;cases k with
  |tuple ds=>exact⟨ds,rfl⟩
  |int i=>have:=h.2;simp at this
  |_=>have:=h.2;simp at this
 ·subst e;cases k with
  |int i=>exact⟨i,rfl⟩
  |tuple ds=>have:=h.2;simp at this
  |_=>have:=h.2;simp at this
def dIn(neg kt:Bool):D->D->Option D
 |k,.dict kvs=>if m9 kt k then cz (.bool (neg !=v6 kvs k)) else el
 |_,_=>el
def b2m(kt:Bool):D->D->Option D
 |.dict kvs,k=>if m9 kt k then A1 kvs k else el
 |_,_=>el
def b2n:List D->Option D
 |[.dict kvs]=>cz (.int kvs.length)
 |_=>el
theorem v9:∀{es:List (D×V×V)} {ds:List D},ds.length=es.length->v6 ((es.map (·.1)).zip ds) k=u4 es k
 |[],ds,_=>by simp[v6,u4]
 |e::es,[],h=>by simp at h
 |e::es,d::ds,h=>by
  have ih:=v9 (k:=k) (es:=es) (ds:=ds) (by simpa using h);unfold v6 u4 at ih ⊢;simp only[av,dX,mE,ih]
theorem a0T:∀{es:List (D×V×V)} {ds:List D} {j:Nat} {e:D×V×V} {d:D},ds.length=es.length->(∀e∈es,aC e.1 k=p4↔e.1=k)->(es.map (·.1)).Nodup->es[j]?=cz e->e.1=k->ds[j]?=cz d->A1 ((es.map (·.1)).zip ds) k=cz d
 |[],ds,j,e,d,_,_,_,he,_,_=>by simp at he
 |e0::es,[],j,e,d,h,_,_,_,_,_=>by simp at h
 |e0::es,d0::ds,0,e,d,h,hk,_,he,fJ,hd=>by
  cases he
  cases hd
  have:aC e0.1 k=p4:=(hk _ ah).mpr fJ;simp[A1,this]
 |e0::es,d0::ds,j+1,e,d,h,hk,hn,he,fJ,hd=>by
  rw[av,bt]at hn;have kG:es[j]?=cz e:=by simpa using he
  have lE:ds[j]?=cz d:=by simpa using hd
  have ih:=a0T (k:=k) (by simpa using h) (λe he=>hk e (ai _ he)) hn.2 kG fJ lE;have gy:aC e0.1 k=rp:=by
   cases q:aC e0.1 k with
   |false=>rfl
   |true=>exact absurd (by rw[(hk _ ah).mp q,<-fJ];exact bw (bo kG)) hn.1
  unfold A1 at ih ⊢;simp only[av,dX,fZ,gy];exact ih
def a4r(h:v6 kvs k=rp):A1 kvs k=el:=by
 unfold v6 at h;rw[cu]at h;unfold A1;rw[fg.mpr λp hp=>by simpa using h p hp];rfl
def a0U(h:A1 kvs k=cz d):v6 kvs k=p4:=by
 cases q:v6 kvs k with
 |true=>rfl
 |false=>rw[a4r q]at h;cases h
def a4s(h:v6 kvs k=rp):n9 kvs k d=kvs++[(k,d)]:=by unfold n9;rw[h];rfl
def W8{es:List (D×V×V)}{ds:List D}{k d:D}{kv v:V}(hl:ds.length=es.length):((es++[(k,kv,v)]).map (·.1)).zip (ds++[d])=(es.map (·.1)).zip ds++[(k,d)]:=by
 rw[aW,kY (by rw[au];exact hl.symm)];rfl
theorem O6{v:V}:∀{es:List (D×V×V)} {ds:List D} {j:Nat} {e:D×V×V},ds.length=es.length->(∀e∈es,aC e.1 k=p4↔e.1=k)->(es.map (·.1)).Nodup->es[j]?=cz e->e.1=k->
  ((es.map (·.1)).zip ds).map (λp=>if aC p.1 k then (p.1,d) else p)=(es.map (·.1)).zip (ds.set j d)
 |[],ds,j,e,_,_,_,he,_=>by simp at he
 |e0::es,[],j,e,h,_,_,_,_=>by simp at h
 |e0::es,d0::ds,0,e,h,hk,hn,he,fJ=>by
  cases he
  rw[av,bt]at hn;have h0:aC e0.1 k=p4:=(hk _ ah).mpr fJ;have jC:((es.map (·.1)).zip ds).map (λp=>if aC p.1 k then (p.1,d) else p)=(es.map (·.1)).zip ds:=by
   have:∀p∈(es.map (·.1)).zip ds,(if aC p.1 k then (p.1,d) else p)=p:=λp hp=>by
    rw[aL];intro q;have hm:=(fD hp).1;obtain⟨e',kG,hq⟩:=aO.mp hm;have sM:e'.1=p.1:=hq;rw[<-sM]at q;exact hn.1 (by rw[fJ,<-(hk e' (ai _ kG)).mp q];exact bw kG)
   rw[bY this,kS]
  simp only[av,dX,mU,aG h0,jC]
 |e0::es,d0::ds,j+1,e,h,hk,hn,he,fJ=>by
  rw[av,bt]at hn;have kG:es[j]?=cz e:=by simpa using he
  have ih:=O6 (k:=k) (d:=d) (v:=v) (ds:=ds) (by simpa using h) (λe he=>hk e (ai _ he)) hn.2 kG fJ;have gy:¬ aC e0.1 k=p4:=λq=>hn.1 (by rw[(hk _ ah).mp q,<-fJ];exact bw (bo kG))
  simp only[av,dX,jI,aL gy,ih]
section
variable {K:af}{H:Hp}{F:List aw}
theorem Own.dict(h:Own K H F (.d kt u) v d fp):∃a es ds fs,v=.ref a/\H a=cz (c9 a es)/\d=.dict ((es.map (·.1)).zip ds)/\fp=a::fs/\(∀e∈es,keyOk kt e.1/\Den K (cut H F) e.2.1 e.1)/\ListAll (Own K H F u) (es.map (·.2.2)) ds fs/\ds.length=es.length/\(es.map (·.1)).Nodup:=by
 simp only[Own]at h;obtain⟨a,es,ds,fs,h1,h2,h3,h4,h5,h6⟩:=h;exact⟨a,es,ds,fs,h1,h2,h3,h4,h5.2,h6,by have:=h6.length;rw[au]at this;exact this.symm,h5.1⟩
end
section
variable {X:Cx}{M:List Md}{a b e:Expr}{fa fb:EvE}{ca cb:Cat}{kt:Bool}{u:Ty}{pos:eS}
def keysAt(h:∀e∈es,keyOk kt e.1/\Den X.K (cut H F) e.2.1 e.1)(hk:m9 kt k=p4)(hd:Den X.K H kv k):KeysAt X H kt es k kv:=
 ⟨λe he=>⟨(h e he).1,(h e he).2.up i8⟩,u9 hk,hd⟩
def a3R(X:Cx)(neg:Bool):R2:=λx y H Q=>∃a es kt k,y=.ref a/\H a=cz (c9 a es)/\KeysAt X H kt es k x/\Q (.bl (neg !=u4 es k)) H
def a7V(hu:X.A.units+164<cS):OpR X (bJ .In) (a3R X rp):=by
 intro pins s Y H x y v w Q I rx ry h;obtain⟨a,es,kt,k,rfl,hH,K,q⟩:=h;cases (show w=aZ a from ry)
 exact c0a (by lia) I hH K rx λs' I'=>⟨.bl _,H,I',rfl,by simpa using q⟩
def a1B(hu:X.A.units+164<cS):OpR X (bJ .NotIn) (a3R X p4):=by
 intro pins s Y H x y v w Q I rx ry h;obtain⟨a,es,kt,k,rfl,hH,K,q⟩:=h;cases (show w=aZ a from ry)
 exact b2l (by lia) I hH K rx λs' I'=>⟨.bl _,H,I',rfl,by simpa using q⟩
def a6o(h:dIn neg kt k d=cz r):∃kvs,d=.dict kvs/\m9 kt k=p4/\r=.bool (neg !=v6 kvs k):=by
 cases d with
 |dict kvs=>
  have h':(if m9 kt k then cz (dw (neg !=v6 kvs k)) else el)=cz r:=h;by_cases c:m9 kt k=p4
  ·rw[aG c]at h';exact⟨kvs,rfl,c,(aK h').symm⟩
  ·rw[aL c]at h';cases h'
 |_=>cases h
def b4Y(ho:OpR X (bJ op) (a3R X neg))(ha:PX X M a fa ca)(hb:PX X M b fb (.bor (.d kt u)))(S:StE X.K M U Y H P F)(e1:Same H H1)(e2:Same H1 H2)
  (r1:ResR X.K ca H H1 F v k) (r2:ResR X.K (.bor (.d kt u)) H1 H2 F w d) (hr:dIn neg kt k d=cz r) (q:Q (.bl (match r with|.bool b=>b|_=>rp)) H2):a3R X neg v w H2 Q:=by
 obtain⟨kvs,rfl,hk,rfl⟩:=a6o hr;obtain⟨fp,o,_⟩:=r2;obtain⟨p,es,ds,fs,rfl,hH,hd,_,h5,_,hl,_⟩:=o.dict;cases hd
 refine⟨p,es,kt,k,rfl,hH,keysAt h5 hk (r1.den.up e2),?_⟩;rw[<-v9 hl];exact q
def b2o(ho:OpR X (bJ op) (a3R X neg))(ha:PX X M a fa ca)(hb:PX X M b fb (.bor (.d kt u)))(hm:eK op b=rp:=by first|exact a0j _|with_unfolding_all rfl):PTX X M (.Compare a [op] [b] pos) (tB (e2 (dIn neg kt) fa fb)):=by
 obtain⟨ta,pa,qa⟩:=ha.out;obtain⟨tb,pb,qb⟩:=hb.out;refine .mk ⟨_,a0B ho pa pb hm,λU Y H P F k Q S hf q=>?_⟩;obtain⟨d,hf,hk⟩:=bnd hf;cases G5 hk
 obtain⟨x,y,h1,h2,h3⟩:=z7 hf;exact qa U Y H P F x _ S h1 λv H1 e1 r1=>qb U Y H1 P F y _ (S.grow e1) h2 λw H2 e2 r2=>b4Y ho ha hb S e1 e2 r1 r2 h3 ⟨k,rfl,q H2 (e1.trans e2)⟩
def c1v(X:Cx)(td ty:TE):TE:=λY H Q=>td Y H λx H1=>ty Y H1 λy H2=>∃a es kt k,x=.ref a/\H2 a=cz (c9 a es)/\KeysAt X H2 kt es k y/\u4 es k=p4/\∀e∈es,e.1=k->Q e.2.2 H2
def b2p(hu:X.A.units+164<cS)(ho:PE X a td)(hi:PE X b ty)(hs:a4q b):PE X (.Subscript a b pos) (c1v X td ty):=by
 intro pins s Y H Q I h;refine b9Z ro.lookup hs (L2.thn (ho pins s Y H _ I h) λu s1 ⟨x,H1,I1,rx,q1⟩=>L2.thn (hi pins s1 Y H1 _ I1 q1) λiv s2 ⟨y,H2,I2,ry,p,es,kt,k,ex,hH,K,hh,q2⟩=>?_);subst ex;obtain rfl:u=aZ p:=rx;exact⟨k6 I2 hH,a2V (by lia) I2 hH K ry hh λe he fJ x s3 I3 r3=>⟨e.2.2,H2,I3,r3,q2 e he fJ⟩⟩
def b0n(h:b2m kt d k=cz r):∃kvs,d=.dict kvs/\m9 kt k=p4/\A1 kvs k=cz r:=by
 cases d with
 |dict kvs=>
  have h':(if m9 kt k then A1 kvs k else el)=cz r:=h;by_cases c:m9 kt k=p4
  ·rw[aG c]at h';exact⟨kvs,rfl,c,h'⟩
  ·rw[aL c]at h';cases h'
 |_=>cases h
def b8b{es:List (D×V×V)}{ds:List D}{e:D×V×V}(h6:ListAll (Own X.K H F u) (es.map (·.2.2)) ds fs)(hl:ds.length=es.length)(hn:(es.map (·.1)).Nodup)(K:KeysAt X H kt es k kv)(he:e∈es)(fJ:e.1=k) :
  ∃(j:Nat) (d:D) (f:List aw),es[j]?=cz e/\ds[j]?=cz d/\A1 ((es.map (·.1)).zip ds) k=cz d/\Own X.K H F u e.2.2 d f/\∀x∈f,x∈fs:=by
 obtain⟨j,hj⟩:=bE.mp he;have il:j<ds.length:=by rw[hl];exact (aU.mp hj).1
 obtain⟨w,f,pre,post,z1,z2,z3,_⟩:=h6.at_ (ao il);rw[a_,hj]at z1;cases z1
 refine⟨j,ds[j],f,hj,ao il,a0T hl (λe he=>K.eqv he) hn hj fJ (ao il),z2,λx hx=>?_⟩;rw[z3];exact ay _ (aJ _ hx)
end
section
variable {X:Cx}{M:List Md}{a b e o:Expr}{es:List Expr}{fa fb:EvE}{ca cb:Cat}{kt:Bool}{u:Ty}{pos apos cw:eS}{to:TE}{t:TA}{name:bC}{id:String}{r:V->List V->Hp->VK->Prop}
def b8c(hu:X.A.units+164<cS)(ha:PX X M a fa (.bor (.d kt u)))(hb:PX X M b fb cb)(hs:a4q b:=by exact λ_ _=>rfl):PX X M (.Subscript a b pos) (e2 (b2m kt) fa fb) (.bor u):=by
 obtain⟨ta,pa,qa⟩:=ha.out;obtain⟨tb,pb,qb⟩:=hb.out;refine .mk ⟨_,b2p hu pa pb hs,λU Y H P F d Q S hf q=>?_⟩;obtain⟨x,y,h1,h2,h3⟩:=z7 hf;obtain⟨kvs,rfl,hk,hg⟩:=b0n h3;refine qa U Y H P F _ _ S h1 λv H1 e1 ⟨fp,o,sub⟩=>qb U Y H1 P F y _ (S.grow e1) h2 λw H2 e2 r2=>?_
 obtain⟨p,es,ds,fs,rfl,hH,hd,rfl,h5,h6,hl,hn⟩:=(o.grow e2).dict;cases hd
 have K:=keysAt (X:=X) h5 hk r2.den;refine⟨p,es,kt,y,rfl,hH,K,by rw[<-v9 hl];exact a0U hg,λe he fJ=>?_⟩;obtain⟨j,d',f,_,_,g',o',s'⟩:=b8b h6 hl hn K he fJ;rw[hg]at g';cases g'
 exact q _ H2 (e1.trans e2) ⟨f,o',λx hx=>sub x (ai _ (s' x hx))⟩
def c1w(r:V->List V->Hp->VK->Prop)(to:TE)(t:TA):TE:=λY H Q=>to Y H λx H1=>(∃p es,x=.ref p/\H1 p=cz (c9 p es))/\t Y H1 λxs H2=>r x xs H2 Q
def a7W(slot:Slot "dict" name id)(vN:typeOf (.builtin id)=pure (.type "method_descriptor"))(hm:MtR X id r)(ho:PE X o to)(ha:PA X (e::es) t)
  (et:cY o name X.env (cn o X.env)=cn o X.env:=by rfl)
  (jZ:((cx cw (ax (e::es) X.env)).all (λx=>!x.1)&&(lS cw (iF [] X.env)).all (λx=>x.1.isSome)
   && decide ((e::es).length+([]:List gu).length+(if ([]:List gu).isEmpty then 0 else 1)<30))=p4:=by rfl)
  (er:(apos.endLine==cw.line)=p4:=by rfl) (hs:ax (e::es) X.env=(rp,cn e X.env)::ax es X.env:=by rfl) (gc:(cx cw (ax es X.env)).any (·.1)=rp:=by rfl) :
  PE X (.Call (.Attribute o name apos) (e::es) [] cw) (c1w r to t):=by
 intro pins s Y H Q I h;refine CC et jZ er rfl (L2.thn (ho pins s Y H _ I h) λv s1 ⟨x,H1,I1,r1,⟨p,He,ex,hH⟩,q1⟩=>?_);subst ex;obtain rfl:v=aZ p:=r1;refine⟨"dict",id,ig,slot,vN,k6 I1 hH,L5 I1 hH,?_⟩;have hA:=ha cw pins s1 Y H1 _ I1 q1;rw[hs]at hA ⊢;refine fu (by show (rp||(cx cw (ax es X.env)).any (·.1))=rp;rw[gc]<;>rfl) (nS ?_);exact L2.thn hA λus s2 ⟨vs,H2,I2,r2,q2⟩=>hm pins s2 Y H2 (.ref p) vs (.ref p) us Q I2 rfl r2 q2
def b0o:CallR X (.builtin "len") (λxs H Q=>∃p es,xs=[V.ref p]/\H p=cz (c9 p es)/\Q (.int es.length) H):=by
 intro pins s Y H xs us Q I rv h;obtain⟨p,es,rfl,hH,q⟩:=h;obtain⟨w,rfl,rw⟩:=rv.one;cases (show w=aZ p from rw)
 exact b8a I hH λt s' I'=>⟨.int es.length,H,I',⟨t,rfl⟩,q⟩
def a1V(h:bQ)(hb:cU<h.objs.size):ObjOk P w H (h.push {cls:=.type "dict",data:=.dict #[]}) h.objs.size (c9 h.objs.size []):=
 Y6 (gP.mpr (dA (bc hb))) (cI _) bu (aH _ rfl) ⟨rfl,rfl,rfl⟩ rfl (λ_=>rfl) .nil
def a6p:PE X (.Dict [] [] pos) (λ_ H Q=>∀p,H p=el->Q (.ref p) (upd H p (c9 p []))):=λpins s Y H Q I h=>
 wpAny_Dict_empty ⟨.ref s.heap.objs.size,_,I.laid (a:=s.heap.objs.size) (o:=c9 s.heap.objs.size []) (t':=s.toks) (λ_ _ q=>ag _ q) (aE _) (a1V s.heap I.sysBelow),rfl,h _ (I.hok.fresh (aE _))⟩
def N6(kt:Bool)(u:Ty):PX X M (.Dict [] [] pos) (eC (.dict [])) (.new (.d kt u)):=by
 refine .mk ⟨_,a6p,λU Y H P F d Q S hf q=>?_⟩;cases hf
 intro p hp;refine q _ _ (l9 hp _) ⟨[p],?_,by simp,λa ha=>by rw[aq.mp ha];exact hp⟩;simp only[Own];exact⟨p,[],[],[],rfl,i7,rfl,rfl,⟨bu,λe he=>(nomatch he)⟩,n5⟩
end
section
variable {K:af}{H:Hp}{F:List aw}
theorem StE.dict(S:StE K M U Y H P F)(hm:M[i]?=cz (.own (.d kt u))) :
  ∃a es ds fs,Y[i]?=cz (cz (.ref a))/\H a=cz (c9 a es)/\U.getD i .none=.dict ((es.map (·.1)).zip ds)/\(∀e∈es,keyOk kt e.1/\Den K (cut H F) e.2.1 e.1)/\ListAll (Own K H F u) (es.map (·.2.2)) ds fs/\ds.length=es.length/\(es.map (·.1)).Nodup:=by
 obtain⟨v,f,h1,o,_⟩:=S.get hm;obtain⟨a,es,ds,fs,rfl,h2,h3,_,h5,h6,h7,h8⟩:=o.dict;exact⟨a,es,ds,fs,h1,h2,h3,h5,h6,h7,h8⟩
theorem a2W:∀{es:List (D×V×V)} {j:Nat} {e:D×V×V},(es.map (·.1)).Nodup->(∀e∈es,aC e.1 k=p4↔e.1=k)->es[j]?=cz e->e.1=k->(es.map λe=>if aC e.1 k then (e.1,e.2.1,v) else e).map (·.2.2)=(es.map (·.2.2)).set j v
 |[],j,e,_,_,hj,_=>by simp at hj
 |e0::es,0,e,hn,iP,hj,fJ=>by
  rw[av,bt]at hn;cases hj
  have jC:es.map (λe=>if aC e.1 k then (e.1,e.2.1,v) else e)=es:=by
   have:∀e'∈es,(if aC e'.1 k then (e'.1,e'.2.1,v) else e')=e':=λe' kG=>by
    rw[aL];intro q;exact hn.1 (by rw[fJ,<-(iP e' (ai _ kG)).mp q];exact bw kG)
   rw[bY this,kS]
  rw[av,aG ((iP _ ah).mpr fJ),jC];rfl
 |e0::es,j+1,e,hn,iP,hj,fJ=>by
  rw[av,bt]at hn;have uK:es[j]?=cz e:=by simpa using hj
  have gy:¬ aC e0.1 k=p4:=λq=>hn.1 (by rw[(iP _ ah).mp q,<-fJ];exact bw (bo uK))
  rw[av,aL gy,av,av,jI,a2W hn.2 (λe he=>iP e (ai _ he)) uK fJ]
def Pend.dput(h:Pend K ([]++[.own u]) ([]++[d]) ([]++[cz v]) M U Y H P F)(hm:M[i]?=cz (.own (.d kt u)))(hk:keyOk kt k)(zq:Den K H kv k) :
  ∃a es ds fs,Y[i]?=cz (cz (.ref a))/\H a=cz (c9 a es)/\U.getD i .none=.dict ((es.map (·.1)).zip ds)/\(∀e∈es,keyOk kt e.1/\Den K (cut H F) e.2.1 e.1)/\ListAll (Own K H F u) (es.map (·.2.2)) ds fs/\ds.length=es.length/\(es.map (·.1)).Nodup/\
   StR K M (U.set i (.dict (n9 ((es.map (·.1)).zip ds) k d))) Y (upd H a (c9 a (P9 es k kv v))) P F:=by
 obtain⟨_,_,S⟩:=h;obtain⟨G,h1,h2,h3⟩:=S.all;have lQ:StAll K H F (.own u::M) (d::U) (cz v::Y) G:=by simpa using h1
 simp only[StAll]at lQ;obtain⟨d',U',o',Y',fv,G2,e1,e2,rfl,⟨v',e3,ov⟩,h5⟩:=lQ;cases e1
 cases e2
 cases e3
 obtain⟨dd,oo,f,pre,post,q1,q2,⟨v2,rfl,q3⟩,rfl,q5⟩:=h5.at_ hm;obtain⟨a,es,ds,fs,rfl,r2,r3,rfl,r5,r6,hl,hn⟩:=q3.dict;have mW:a∈F:=h3 a (by simp);have fN:∀o,Same (cut H F) (cut (upd H a o) F):=λo b o' hb=>by
  obtain⟨n1,n2⟩:=p7 hb;exact j8 n1 (by rw[f8 (show b≠a from λz=>n1 (z▸mW))];exact n2)
 have cnt:∀b,b=a->(pre++post).count b=0/\fs.count b=0/\fv.count b=0:=λb e=>by
  subst e;have:=cJ.mp h2 b;simp only[bj,bp,gF]at this ⊢;exact⟨by lia,by lia,by lia⟩
 have kk:∀(l:List aw) (o:HO),(∀b,b=a->l.count b=0)->∀b∈l,upd H a o b=H b:=λl o hc b hb=>f8 λz=>by
  have:=hc b z;rw[dH]at this;exact this hb
 have we:Den K (cut H F) kv k:=zq.imm_out S.lst k (Q7 _ hk.1);have iP:∀e∈es,aC e.1 k=p4↔e.1=k:=λe he=>B1 e.1 k (r5 e he).1.1 hk.1
 have fin:∀(fm:List (D×V×V)) (iy:List D) (ko:List aw),(fm.map (·.1)).Nodup->(∀e∈fm,keyOk kt e.1/\Den K (cut H F) e.2.1 e.1)->ListAll (Own K (upd H a (c9 a fm)) F u) (fm.map (·.2.2)) iy ko->(∀b,ko.count b<=fs.count b+fv.count b)->
   StR K M (U.set i (.dict ((fm.map (·.1)).zip iy))) Y (upd H a (c9 a fm)) P F:=λfm iy ko tQ q_ ha mO=>by
  have o1:Own K (upd H a (c9 a fm)) F (.d kt u) (.ref a) (.dict ((fm.map (·.1)).zip iy)) (a::ko):=by
   simp only[Own];exact⟨a,fm,iy,ko,rfl,i7,rfl,rfl,⟨tQ,λe he=>⟨(q_ e he).1,(q_ e he).2.up (fN _)⟩⟩,ha⟩
  have q:=q5 (upd H a (c9 a fm)) F (.own (.d kt u)) (.dict ((fm.map (·.1)).zip iy)) (cz (.ref a)) _ (kk _ _ λb e=>(cnt b e).1) (fN _) ⟨_,rfl,o1⟩;rw[set_same (l:=Y) q2,set_same (l:=M) hm]at q;refine⟨⟨_,q,N4 h2 λb=>?_,λb hb=>?_⟩,λb hb=>?_,S.prot.trans (fN _)⟩
  ·have:=mO b;simp only[bj,bp,c_];lia
  ·have hc:0<(fv++(pre++(a::fs++post))).count b:=by
    have h0:=dm.mpr hb;have:=mO b;simp only[bj,bp,c_]at h0 ⊢;lia
   exact h3 b (dm.mp hc)
  ·by_cases e:b=a
   ·subst e;exact⟨⟨c9 b fm,trivial⟩,i7⟩
   ·obtain⟨ys,y⟩:=S.lst b hb;exact⟨ys,by rw[f8 e];exact y⟩
 refine⟨a,es,ds,fs,q2,r2,by rw[y7 q1];exact r3,r5,r6,hl,hn,?_⟩;cases hf:u4 es k with
 |false=>
  rw[a2T hf,a4s (by rw[v9 hl];exact hf),<-W8 (kv:=kv) (v:=v) hl];refine fin (es++[(k,kv,v)]) (ds++[d]) (fs++fv) ?_ ?_ ?_ λb=>by rw[bj];exact aE _
  ·rw[aW,bb];refine⟨hn,by simp,λx hx y hy e=>?_⟩;simp only[av,cB,aq]at hy;subst hy;subst e;obtain⟨e,he,rfl⟩:=aO.mp hx;unfold u4 at hf;rw[cu]at hf;exact hf e he ((iP e he).mpr rfl)
  ·intro e he;rcases aB.mp he with z|z
   ·exact r5 e z
   ·rw[aq.mp z];exact⟨hk,we⟩
  ·rw[aW];refine (n6 (fN _) r6 (kk _ _ λb e=>(cnt b e).2.1)).append ?_;have:=m4 (R:=Own K (upd H a (c9 a (es++[(k,kv,v)]))) F u) (ov.frame (fN _) u (kk _ _ λb e=>(cnt b e).2.2)) n5
   rwa[bK]at this
 |true=>
  have hh:=hf;unfold u4 at hf;rw[cP]at hf;obtain⟨e,he,fJ⟩:=hf;have qz:=(iP e he).mp fJ;obtain⟨j,hj⟩:=bE.mp he;have rV:j<ds.length:=by rw[hl];exact (aU.mp hj).1
  have mN:P9 es k kv v=es.map λe=>if aC e.1 k then (e.1,e.2.1,v) else e:=by unfold P9;rw[hh];rfl
  have nk:n9 ((es.map (·.1)).zip ds) k d=(es.map (·.1)).zip (ds.set j d):=by
   unfold n9;rw[v9 hl,hh];exact O6 (v:=v) hl iP hn hj qz
  have nt:(P9 es k kv v).map (·.1)=es.map (·.1):=by rw[mN];exact a2U
  rw[nk,<-nt];obtain⟨w3,f3,a1,a2,s1,s2,qN,s4⟩:=r6.zip (ao rV);have pW:(P9 es k kv v).map (·.2.2)=(es.map (·.2.2)).set j v:=by
   rw[mN];exact a2W hn iP hj qz
  refine fin (P9 es k kv v) (ds.set j d) (a1++(fv++a2)) (by rw[nt];exact hn) ?_ ?_ λb=>by rw[qN];simp only[bj];lia
  ·intro e' kG;rw[mN]at kG;obtain⟨e0,wy,rfl⟩:=aO.mp kG
   split
   ·exact r5 e0 wy
   ·exact r5 e0 wy
  ·rw[pW];have c5:∀b,b=a->(a1++a2).count b=0:=λb e=>by have:=(cnt b e).2.1;rw[qN]at this;simp only[bj]at this ⊢;lia
   exact s4 _ F v d fv (kk _ _ c5) (fN _) (ov.frame (fN _) u (kk _ _ λb e=>(cnt b e).2.2))
end
def pOk(kvs:List (D×D))(k:D):Bool:=!(Z2 k&&v6 kvs k)
def b4Z{kvs:List (D×D)}{k:D}(h:v6 kvs k=rp):pOk kvs k=p4:=by unfold pOk;rw[h,qV];rfl
def b0p{kvs:List (D×D)}{k:D}(h:Z2 k=rp):pOk kvs k=p4:=by unfold pOk;rw[h];rfl
noncomputable def I9(i:Nat)(kt:Bool)(fk fv:EvE):EvS:=λU=>(fv U).bind λd=>(fk U).bind λk=>match U.getD i .none with
 |.dict kvs=>if m9 kt k&&decide (kvs.length<1000000)&&pOk kvs k then cz (.nx (U.set i (.dict (n9 kvs k d)))) else el
 |_=>el
abbrev EvX:=List D->Option (D×List D)
def o9(kvs:List (D×D))(k d:D):List (D×D):=if v6 kvs k then kvs else kvs++[(k,d)]
section
variable {X:Cx}{M M1 ML:List Md}{e k v:Expr}{fk fe fv:EvE}{f:EvX}{ck:Cat}{kt:Bool}{u w:Ty}{pos apos cw ik:eS}
def b6v(X:Cx)(td ty tv:TE):TS:=λD Y H=>tv Y H λv H1=>td Y H1 λx H2=>ty Y H2 λy H3=>∃a es kt k,x=.ref a/\H3 a=cz (c9 a es)/\KeysAt X H3 kt es k y/\es.length<aV/\(u4 es k=p4->Z2 k=rp)/\D.nx Y (upd H3 a (c9 a (P9 es k y v)))
def a5r(hu:X.A.units+164<cS)(ho:PE X o td)(hi:PE X k ty)(hv:PE X v tv)(hs:fB v (cz (.Subscript o k ik)) pos.line X.env=pure rp) :
  PS X (.Assign [.Subscript o k ik] v pos) (b6v X td ty tv):=by
 intro pins s Y H D I h;refine wpAny_Assign_Subscript (L2.thn (hv pins s Y H _ I h) λr s1 ⟨v,H1,I1,rv,q1⟩=>L2.thn (ho pins s1 Y H1 _ I1 q1) λu s2 ⟨x,H2,I2,rx,q2⟩=>L2.thn (hi pins s2 Y H2 _ I2 q2) λiv s3 ⟨y,H3,I3,ry,a,es,kt,k,ex,hH,K,hl,hp,q3⟩=>?_) hs;subst ex;obtain rfl:u=aZ a:=rx;exact a7U (by lia) I3 hH K ry rv hl hp λs4 I4=>⟨Y,_,I4,q3⟩
def b2q{es:List (D×V×V)}{ds:List D}{k:D}(hl:ds.length=es.length)(h:pOk ((es.map (·.1)).zip ds) k=p4):u4 es k=p4->Z2 k=rp:=λhE=>by
 unfold pOk at h;rw[v9 hl,hE]at h;cases c:Z2 k with
 |false=>rfl
 |true=>rw[c]at h;cases h
def a6q{kt:Bool}{k:D}(hk:kt=rp)(h:m9 kt k=p4):Z2 k=rp:=by
 subst hk;obtain⟨i,rfl⟩:=(u9 h).2.2.2 rfl;rfl
def a0V(i:Nat)(hu:X.A.units+164<cS)(hk:PX X M1 k fk ck)(hv:PMX X M v fv u M1)(hN:X.N[i]?=cz x:=by rfl)(qX:Vis X.env.scope x:=by first|exact bR rfl|exact bT (bR rfl)|exact bT (bT rfl))(hd:(x==("__debug__":bC))=rp:=by decide)
  (iG:(x==("__classdict__":bC))=rp:=by decide) (hm:M1[i]?=cz (.own (.d kt u)):=by rfl) (hs:fB v (cz (.Subscript (.Name x px) k ik)) pos.line X.env=pure rp:=by rfl) :
  PSX X w ML M (.Assign [.Subscript (.Name x px) k ik] v pos) (I9 i kt fk fv) M1:=by
 obtain⟨tv,pv,qv⟩:=hv;obtain⟨tk,pk,qk⟩:=hk.out;refine .mk ⟨_,a5r hu (C7 hN qX hd iG) pk pv hs,λD U Y H P F o S hg kk=>?_⟩;obtain⟨d,h1,g1⟩:=bnd hg;obtain⟨y,h2,g2⟩:=bnd g1;refine qv [] [] [] U Y H P F d _ S.pend h1 λv1 H1 F1 e1 S1=>?_
 obtain⟨a,es,ds,fs,ha,hH,hU,_⟩:=S1.e.dict hm;rw[hU]at g2;have pK:(if (m9 kt y&&decide (((es.map (·.1)).zip ds).length<1000000)&&pOk ((es.map (·.1)).zip ds) y)=p4 then cz (Out.nx (U.set i (.dict (n9 ((es.map (·.1)).zip ds) y d)))) else el)=cz o:=g2;by_cases c0:(m9 kt y&&decide (((es.map (·.1)).zip ds).length<1000000)&&pOk ((es.map (·.1)).zip ds) y)=p4
 ·rw[aG c0]at pK;cases pK
  rw[ak,ak]at c0;have c:=c0.1;refine⟨_,ha,qk U Y H1 P F1 y _ S1.e h2 λkv H2 e2 r2=>?_⟩;obtain⟨a',fm,iy,ko,wI,Fz,oW,hK,_,pH,_,S3⟩:=(S1.grow e2).dput hm (u9 c.1) r2.den;rw[ha]at wI;cases wI
  rw[hU]at oW
  injection oW with oW
  refine⟨a,fm,kt,y,rfl,Fz,keysAt hK c.1 r2.den,?_,b2q pH (by rw[<-oW];exact c0.2),kk Y _ F1 (by rw[oW];exact S3)⟩;have hlen:((fm.map (·.1)).zip iy).length=fm.length:=by rw[cZ,au,pH,kP]
  rw[<-hlen,<-oW];exact fG (aP c.2) (by rw[cR];decide)
 ·rw[aL c0]at pK;cases pK
def b8d(X:Cx):V->List V->Hp->VK->Prop:=λx xs H Q=>∃p es kt k y z,x=.ref p/\xs=[y,z]/\H p=cz (c9 p es)/\KeysAt X H kt es k y/\es.length<aV/\(u4 es k=rp->Q z (upd H p (c9 p (es++[(k,y,z)]))))/\∀e∈es,e.1=k->Q e.2.2 H
def b5a(hu:X.A.units+164<cS):MtR X "dict.setdefault" (b8d X):=by
 intro pins s Y H x xs v us Q I rx rv h;obtain⟨p,es,kt,k,y,z,rfl,rfl,hH,K,hl,q1,q2⟩:=h;cases (show v=aZ p from rx)
 obtain⟨w1,w2,rfl,r1,r2⟩:=vals2 rv;exact b4X (by lia) I hH K r1 r2 hl (λhf s' I'=>⟨z,_,I',r2,q1 hf⟩) λe he fJ x s' I' r'=>⟨e.2.2,H,I',r',q2 e he fJ⟩
end
noncomputable def b5b(i:Nat)(f:EvE):EvS:=λU=>(f U).bind λd=>(asI d).bind λn=>(asI (U.getD i .none)).bind λm=>cz (.nx (U.set i (.int (m+n))))
section
variable {X:Cx}{M ML:List Md}{e:Expr}{f:EvE}{c:Cat}{u:Ty}{pos pos':eS}
def b8e(i:Nat)(hN:X.N.Nodup)(he:PX X M e f c)(hi:X.N[i]?=cz x:=by rfl)(hx:Loc X.env.scope x:=by first|exact bR rfl|exact bT rfl)(hm:M[i]?=cz (.own .i):=by rfl)(hf:X.fn x=p4\/X.env.scope.names.lookup x=cz .local:=by first|exact .inl rfl|exact .inr rfl) :
  PSX X u ML M (.AugAssign (.Name x pos') .Add e pos) (b5b i f) M:=by
 obtain⟨te,pe,qe⟩:=he.out;refine .mk ⟨_,b6Z hN hi hx pe b7a hf,λD U Y H P F o S hg k=>?_⟩;obtain⟨d,h1,g1⟩:=bnd hg;obtain⟨n,h2,g2⟩:=bnd g1;obtain⟨m,h3,g3⟩:=bnd g2;cases g3
 cases a0N h2
 have h4:=a0N h3;obtain⟨v,fv,hv,ov,_⟩:=S.toE.get hm;rw[h4]at ov;obtain⟨_,_,dv⟩:=V1 ov;have ev:=dv.int_inv;refine⟨v,hv,qe U Y H P F _ _ S.toE h1 λw H1 e1 r1=>⟨m,n,ev,r1.den.int_inv,?_⟩⟩;have S1:=S.grow e1;have:=S1.set (u:=.i) (v:=.int (m+n)) (d:=.int (m+n)) (fp:=[]) hm (Same.refl _) (by simp only[Own,b_];exact⟨trivial,by simp only[imm],den_int⟩) bu λa ha=>(nomatch ha)
 rw[set_same hm]at this;exact k _ _ _ this
end
def intsOf:List D->Option (List Int)
 |[]=>cz []
 |.int i::r=>(intsOf r).map (i::·)
 |_=>el
def R1(i:Int)(r:List Int):Int:=r.foldl (λa b=>if b>a then b else a) i
def b2r:List D->Option D
 |[.list ds]=>(intsOf ds).bind λis=>match is with
  |[]=>el
  |i::r=>cz (.int (R1 i r))
 |_=>el
theorem B9:∀{ds:List D} {is:List Int},intsOf ds=cz is->ds=is.map .int
 |[],is,h=>by cases h;rfl
 |.int i::r,is,h=>by
  obtain⟨js,h1,rfl⟩:=cV.mp (show (intsOf r).map (i::·)=cz is from h);rw[av,<-B9 h1]
 |.none::_,_,h|.bool _::_,_,h|.str _::_,_,h|.list _::_,_,h|.tuple _::_,_,h|.dict _::_,_,h=>nomatch h
def N7(is:List Int):intsOf (is.map .int)=cz is:=by
 induction is with
 |nil=>rfl
 |cons i is ih=>show (intsOf (is.map .int)).map (i::·)=_;rw[ih];rfl
theorem a9d:∀(r:List Int) (i:Int),i<=R1 i r/\(∀x∈r,x<=R1 i r)/\(R1 i r=i\/R1 i r∈r)
 |[],i=>⟨oK _,λx hx=>(nomatch hx),.inl rfl⟩
 |y::r,i=>by
  obtain⟨h1,h2,h3⟩:=a9d r (if y>i then y else i);have e:R1 i (y::r)=R1 (if y>i then y else i) r:=rfl;rw[e];refine⟨?_,λx hx=>?_,?_⟩
  ·by_cases c:y>i
   ·rw[aG c]at h1 ⊢;lia
   ·rw[aL c]at h1 ⊢;exact h1
  ·rcases az.mp hx with z|z
   ·subst z;by_cases c:x>i
    ·rw[aG c]at h1 ⊢;exact h1
    ·rw[aL c]at h1 ⊢;lia
   ·exact h2 x z
  ·rcases h3 with z|z
   ·by_cases c:y>i
    ·rw[aG c]at z ⊢;exact .inr (by rw[z];exact ah)
    ·rw[aL c]at z ⊢;exact .inl z
   ·exact .inr (ai _ z)
section
variable {X:Cx}
def a2X{ns:List Int}:∀{us:List aj},Vals (ns.map V.int) us->∃xs:List (Int×Tok),us=xs.map (λp=>iJ p.1 p.2)/\xs.map (·.1)=ns:=by
 induction ns with
 |nil=>intro us r;cases r;exact⟨[],rfl,rfl⟩
 |cons n ns ih=>
  intro us r;cases r with
  |cons r1 r2=>
   obtain⟨t,rfl⟩:=r1;obtain⟨xs,h1,h2⟩:=ih r2;exact⟨(n,t)::xs,by rw[av,<-h1],by rw[av,h2]⟩
def b0q(hc:X.calm=p4):CallR X (.builtin "max") (λxs H Q=>∃(p:aw) (i:Int) (r:List Int),xs=[.ref p]/\SqX X.K H p ((i::r).map V.int)/\Q (.int (R1 i r)) H):=by
 intro pins s Y H xs us Q I rv h;obtain⟨p,i,r,rfl,hp,q⟩:=h;obtain⟨u,rfl,rx⟩:=vals1 rv;cases (show u=aZ p from rx)
 obtain⟨_,cE,n,qW,ho⟩:=hp.ok I;obtain⟨ys,h1,h2⟩:=a2X qW;have e1:cE.toArray=pS ys.toArray:=by rw[h1];simp[pS]
 have hl:s.heap.IsList p (pS ys.toArray):=⟨_,ho,rfl,n,by rw[<-e1]⟩;have hlen:ys.length=r.length+1:=by have:=du eD h2;simpa using this
 have num:∀j,j<ys.length->ib ys.toArray j=(i::r).getD j 0:=λj hj=>by
  have:(ys.map (·.1))[j]?=(i::r)[j]?:=by rw[h2]
  unfold ib;rw[aN,<-this];simp
 refine max_intList (I.ok.hd hc) hl (by simp;lia) λv h' tk hv hk=>?_
 obtain⟨t,rfl⟩:=intItems_at hv;obtain⟨b1,b2⟩:=argBest_gt (ib ys.toArray) (ys.toArray.size-1);have hsz:ys.toArray.size=r.length+1:=by simp[hlen]
 have hb:uW (λi j=>decide (ib ys.toArray i>ib ys.toArray j)) (ys.toArray.size-1)<ys.length:=by lia
 have hm:ib ys.toArray (uW (λi j=>decide (ib ys.toArray i>ib ys.toArray j)) (ys.toArray.size-1))=R1 i r:=by
  obtain⟨g1,g2,g3⟩:=a9d r i;generalize uW (λi j=>decide (ib ys.toArray i>ib ys.toArray j)) (ys.toArray.size-1)=a at b1 b2 hb;have up:ib ys.toArray a<=R1 i r:=by
   rw[num a hb];have iO:(i::r).getD a 0∈i::r:=by
    rw[aN,ao (by simp;lia)];exact cH _
   rcases az.mp iO with z|z
   ·rw[z];exact g1
   ·exact g2 _ z
  have dn:R1 i r<=ib ys.toArray a:=by
   have iO:R1 i r∈i::r:=by
    rcases g3 with z|z
    ·rw[z];exact ah
    ·exact ai _ z
   obtain⟨j,hj,ej⟩:=eB.mp iO;have uK:j<ys.length:=by simp at hj;lia
   have:=b2 j (by lia);rw[num j uK,aN,ao hj]at this;have e3:((i::r)[j]?).getD 0=(i::r)[j]:=by rw[ao hj];rfl
   simp only[Gf]at this;lia
  lia
 rw[hm];exact⟨.int (R1 i r),H,I.kept (t':=tk) λb o e=>hk b o e,⟨t,rfl⟩,q⟩
def b5c(hc:X.calm=p4):a4j X (.builtin "max") b2r:=by
 refine⟨_,b0q hc,λxs H ds d Q hd hg q=>?_⟩
 match ds,hg with
 |[.list es],hg=>
  obtain⟨is,h1,g1⟩:=bnd (show (intsOf es).bind _=cz d from hg);cases is with
  |nil=>cases g1
  |cons i r=>
   cases g1
   obtain⟨v,rfl,h⟩:=T7 hd;obtain⟨a,ys,rfl,h2,h3⟩:=h.list_inv;have he:=B9 h1;subst he;have hv:ys=(i::r).map V.int:=by
    clear h1 hg hd h h2 q;generalize (i::r)=l at h3
    induction l generalizing ys with
    |nil=>exact h3.nil_inv
    |cons x l ih=>
     obtain⟨w,rs,rfl,k1,k2⟩:=h3.cons_inv;rw[k1.int_inv,ih _ k2];rfl
   subst hv;exact⟨a,i,r,rfl,h2,q _ (by simp only[imm]) λ_=>den_int⟩
 |[.none],hg|[.bool _],hg|[.str _],hg|[.dict _],hg|[.int _],hg|[.tuple _],hg=>cases hg
 |[],hg=>cases hg
 |d1::_::_,hg=>cases d1<;>cases hg
end
section
variable {X:Cx}{M:List Md}{a b e tg:Expr}{fa fb:EvE}{ca cb:Cat}{pos p apos cw:eS}
def U0(r:i_ h us ds as):∀{j:Nat} {u:aj},us[j]?=cz u->∃d bs,ds[j]?=cz d/\Reads h u d bs:=by
 induction ds generalizing us as with
 |nil=>intro j u hu;cases r;simp at hu
 |cons d ds ih=>
  intro j u hu;cases r with
  |cons r1 r2=>
   cases j with
   |zero=>cases hu;exact⟨_,_,rfl,r1⟩
   |succ j=>exact ih r2 (by simpa using hu)
open Classical in
noncomputable def b0r(h:bQ)(d:D)(u:aj):Bool:=decide (∃d' bs,Reads h u d' bs/\d'.canLay0=p4/\aC d' d=p4)
def a2r{d e:D}(r:Reads h u e bs)(hl:e.canLay0=p4):b0r h d u=aC e d:=by
 unfold b0r;cases q:aC e d with
 |true=>exact @aA _ (_) ⟨e,bs,r,hl,q⟩
 |false=>
  refine @aS _ (_) ?_;rintro⟨d',Am,r1,r2,r3⟩;rw[SeqAt.Reads.unique d' e u _ _ r2 r1 r,q]at r3;cases r3
end
def a9e{X:Cx}{pins:List (aw×fM)}{Y:L2.St}{H:Hp}{s:ar}{h':bQ}{t':Nat}{ch:List aw}{T:aw}{xs:List V}(I:Inv X pins Y H s)(k:∀b o,b∉ch->s.heap.get? b=cz o->h'.get? b=cz o)
  (hf:∀b∈ch,a0A X pins H b) (hT:s.heap.objs.size<=T) (new:ObjOk X.prog X.w (upd H T (.tup xs)) h' T (.tup xs)):Inv X pins Y (upd H T (.tup xs)) {s with heap:=h',toks:=t'}:=by
 have hn:H T=el:=I.hok.fresh hT;have neT:∀b o,s.heap.get? b=cz o->b≠T:=λb o e z=>absurd (bA (aI e) (by rw[z];exact hT)) (dt _)
 have pR:∀b u,H b=cz u->b∉ch:=λb u e hb=>by rw[(hf b hb).1]at e;cases e
 refine I.step (g':=s.gens) (d':=s.drawn) (ch:=ch) (λb hb=>⟨(hf b hb).2.2.2.1,(hf b hb).2.1,(hf b hb).2.2.2.2.1,(hf b hb).2.2.2.2.2⟩) (λb o _ _ hc e _=>k b o hc e) (λb o _ _ hc e _=>⟨o.slots,k b o hc e⟩) (λb o _ e n=>by rw[f8 (neT b o e)];exact n)
  (λb o hc e=>⟨o,k b o hc e⟩) (λb ys e=>by rw[f8 (o3 e hn)];exact e) (λb o u e=>by rw[f8 (o3 e hn)];exact e) (λb ps e=>⟨#[],by rw[f8 (o3 e hn),e];simp⟩) (λm hm=>?_) (λb u e=>?_) I.bare
 ·obtain⟨o,es,ep,ho,r⟩:=hm;exact⟨o,es,ep,k _ o (λhb=>(hf _ hb).2.1 rfl) ho,r⟩
 ·by_cases hb:b=T
  ·subst hb;rw[i7]at e;cases e;exact new
  ·rw[f8 hb]at e;refine (I.hok b u e).stay (λc v hc q=>k c v ?_ q) (λc q=>by rw[f8 (o3 q hn)];exact q) λc ys q=>by rw[f8 (o3 q hn)];exact q
   rcases hc with z|z
   ·rw[z];exact pR b u e
   ·exact pR c _ z
def a2s{X:Cx}{pins:List (aw×fM)}{Y:L2.St}{H:Hp}{s:ar}{h':bQ}{t':Nat}{ch:List aw}(I:Inv X pins Y H s)(k:∀b o,b∉ch->s.heap.get? b=cz o->h'.get? b=cz o)
  (hf:∀b∈ch,a0A X pins H b):Inv X pins Y H {s with heap:=h',toks:=t'}:=by
 have pR:∀b u,H b=cz u->b∉ch:=λb u e hb=>by rw[(hf b hb).1]at e;cases e
 refine I.step (g':=s.gens) (d':=s.drawn) (ch:=ch) (λb hb=>⟨(hf b hb).2.2.2.1,(hf b hb).2.1,(hf b hb).2.2.2.2.1,(hf b hb).2.2.2.2.2⟩) (λb o _ _ hc e _=>k b o hc e) (λb o _ _ hc e _=>⟨o.slots,k b o hc e⟩) (λb o _ e n=>n)
  (λb o hc e=>⟨o,k b o hc e⟩) (λb ys e=>e) (λb o u e=>e) (λb ps e=>⟨#[],by rw[e];simp⟩) (λm hm=>?_) (λb u e=>?_) I.bare
 ·obtain⟨o,es,ep,ho,r⟩:=hm;exact⟨o,es,ep,k _ o (λhb=>(hf _ hb).2.1 rfl) ho,r⟩
 ·refine (I.hok b u e).stay (λc v hc q=>k c v ?_ q) (λc q=>q) λc ys q=>q
  rcases hc with z|z
  ·rw[z];exact pR b u e
  ·exact pR c _ z
def Ite(K:af)(a:aw):It:=
 ⟨λi H=>∃xs x,SqL K H a xs/\xs[i]?=cz x,λi H x H'=>∃T y,H T=el/\H'=upd H T (.tup [.int i,y])/\x=.ref T/\∀xs,SqL K H a xs->xs[i]?=cz y,λi H=>∃xs,SqL K H a xs/\xs.length<=i⟩
def b0s{P:bz}{w:bI}{K:af}{elts:List Expr}{kk:Nat}{ik:eS}(a e it:aw)(EN:e≠it):Turn P w K (.Tuple elts kk ik) (Ite K a) [e,it] e (λi h=>(∃old,IsEnum h e it i old)/\h.IsListIter it a i) where
 mem:=by simp
 obj:=λi h st b hb=>by
  obtain⟨⟨old,he⟩,o,eo,c,d⟩:=st;rcases az.mp hb with rfl|hb
  ·exact⟨_,he,λv z=>by cases z⟩
  ·cases aq.mp hb
   exact⟨o,eo,λv z=>by rw[d]at z;cases z⟩
 keep:=λi h h' st k=>by
  obtain⟨⟨old,he⟩,hit⟩:=st;exact⟨⟨old,k e (by simp) _ he⟩,hit.at λo x=>k it (by simp) o x⟩
 item:=by
  intro X hP hw hK hc i pins s Y H E I hf st hg;subst hP hw hK;obtain⟨xs,x,hq,hx⟩:=hg;obtain⟨cE,rv,p,hz⟩:=I.list hq;obtain⟨u,hu,ru⟩:=rv.get hx;obtain⟨⟨old,he⟩,hit⟩:=st;have hle:a≠e:=λz=>by
   obtain⟨o,eo,c,_⟩:=p.isList;rw[z,he]at eo;cases eo
   exact absurd (show dS "enumerate"=dS "list" from c) (by decide)
  have Ex:a≠it:=λz=>by
   obtain⟨o,eo,c,_⟩:=p.isList;obtain⟨o2,FP,c2,_⟩:=hit;rw[z,FP]at eo;cases eo
   rw[c2]at c;exact absurd c (by decide)
  have W:=WalksT.enumerate (prog:=X.prog) (w:=X.w) (A:=X.A) (I.ok.hd hc) e it a EN hle Ex cE.toArray;have mz:i<cE.toArray.size:=by
   have:=(aU.mp hu).1;simpa using this
  refine W.item i s _ E mz ⟨⟨old,he⟩,hit,p.isList⟩ λT vals h' tk hP hT tH wQ hk=>⟨.ref T,rfl,W.go elts kk ik i T {s with heap:=h',toks:=tk} _ E wQ λh2 vP uJ=>?_⟩
  obtain⟨t,y,hy,rfl⟩:=hP;have ey:y=u:=by
   have h1:cE[i]?=cz y:=by simpa using hy
   rw[hu]at h1;exact (aK h1).symm
  subst ey;have wJ:=W.apart i T h' wQ;obtain⟨oT,eT,cT⟩:=tH;have hn:H T=el:=I.hok.fresh hT;have new:ObjOk X.prog X.w (upd H T (.tup [.int i,x])) h2 T (.tup [.int i,x]):=by
   refine⟨by rw[cR];show 2<=_;decide,[.int i t,y],?_,oT,uJ T oT wJ eT,cT⟩;exact .cons ⟨t,rfl⟩ (.cons ru .nil)
  refine⟨.ref T,upd H T (.tup [.int i,x]),a9e (s:=s) (t':=tk) I (λb o hb q=>uJ b o hb (hk b o hb q)) hf hT new,rfl,⟨T,x,hn,rfl,rfl,λys DF=>by rw[I.list_inj DF hq];exact hx⟩,⟨vP.1,vP.2.1⟩,λb hb=>?_⟩;rw[f8 (λz=>wJ (by rw[<-z];exact hb))];exact (hf b hb).1
 done:=by
  intro X hP hw hK hc i pins s Y H E I hf st hg;subst hP hw hK;obtain⟨xs,hq,hx⟩:=hg;obtain⟨cE,rv,p,hz⟩:=I.list hq;have hl:=rv.length;obtain⟨⟨old,he⟩,hit⟩:=st;exact wpAny_pyNext_enum_end (I.ok.hd hc) he hit p.isList (eU (by simp;lia)) λh' hx=>⟨rfl,a2s (t':=s.toks) I (λb o hb y=>hx b o (λz=>hb (by simp[z])) y) hf⟩
 self:=λ_ _ _ _ _ st h=>by
  obtain⟨⟨old,he⟩,_⟩:=st;exact wpAny_pyIter_enum he h
def N8:List D->Nat->List D
 |[],_=>[]
 |d::ds,k=>.tuple [.int k,d]::N8 ds (k+1)
noncomputable def iEn(a:EvE):EvA:=λU=>(a U).bind λd=>(asL d).bind λds=>cz (N8 ds 0)
theorem a2Y:∀(ds:List D) (k:Nat),(N8 ds k).length=ds.length
 |[],_=>rfl
 |d::ds,k=>by show (N8 ds (k+1)).length+1=_;rw[a2Y ds];rfl
theorem a2Z:∀(ds:List D) (k i:Nat) (d:D),ds[i]?=cz d->(N8 ds k)[i]?=cz (.tuple [.int ((k+i:Nat):Int),d])
 |[],_,i,d,h=>by simp at h
 |d0::ds,k,0,d,h=>by
  have:d0=d:=by simpa using h
  subst this;rfl
 |d0::ds,k,i+1,d,h=>by
  have:=a2Z ds (k+1) i d (by simpa using h);show (N8 ds (k+1))[i]?=_;rw[this,mD,Nat.add_comm 1]
section
variable {X:Cx}{M ML:List Md}{a e iter:Expr}{elts:List Expr}{kk:Nat}{ik pos p:eS}{fa:EvE}{ca:Cat}{u:Ty}{body:List hZ}{g:EvS}
def c1x(K:af)(ta:TA):TI:=λY H R=>ta Y H λvs H1=>∃a xs,vs=[.ref a]/\SqL K H1 a xs/\R (Ite K a) H1
open PyProof.Rows in
def b5d(hg:Gl X "enumerate")(hm:X.mg "enumerate"=el)(ha:PA X [a] ta)(hs:ax [a] X.env=[(rp,cn a X.env)]:=by rfl):PI X (.Tuple elts kk ik) (.Call (.Name "enumerate" p) [a] [] pos) (c1x X.K ta):=by
 intro pins s Y H R I h;refine Call_ (a0i I hg hm PyProof.Rows.Boot.«enumerate» (eR (L2.thn (ha pos pins s Y H _ I h) λus s1 ⟨vs,H1,I1,r1,q1⟩=>?_) hs rfl));obtain⟨l,xs,e,hq,q⟩:=q1;subst e;cases r1 with
 |cons r rr=>
  cases rr
  cases (show _=aZ l from r)
  obtain⟨cE,rv,pl,hz⟩:=I1.list hq;refine call_enumerate_list pl.isList λh' he hit hsz hk=>?_
  refine wpAny_pyIter_enum he ?_;refine⟨s1.heap.objs.size+1,[s1.heap.objs.size+1,s1.heap.objs.size],_,_,H1,rfl,I1.kept (t':=s1.toks) hk,b0s l _ _ (Nat.succ_ne_self _),⟨⟨_,he⟩,hit⟩,λb hb=>?_,q⟩;have kF:s1.heap.objs.size<=b:=by
   rcases az.mp hb with z|z
   ·rw[z];exact gD _
   ·rw[aq.mp z];exact aE _
  exact I1.fpOk kF (I1.hok.fresh kF)
noncomputable def c0b(X:Cx)(M:List Md)(tg iter:Expr)(f:EvE):Prop:=
 ∃wi,PI X tg iter wi/\∀(U:List D) (Y:L2.St) (H P:Hp) (F:List aw) (ds:List D) (R:It->Hp->Prop),StE X.K M U Y H P F->f U=cz (.list ds)->
  (∀a xs H1,Same H H1->(∀H2,Same (cut H1 F) H2->SqL X.K H2 a xs)->DenAll X.K (cut H1 F) xs ds->R (Ite X.K a) H1)->wi Y H R
def c1y(hm:X.mg "enumerate"=el)(h:PX X M a fa ca)(hc:frozen ca:=by trivial)(hg:Gl X "enumerate":=by rfl)(he:ax [a] X.env=[(rp,cn a X.env)]:=by rfl)(lK:ax [a] X.env=(rp,cn a X.env)::ax [] X.env:=by rfl) :
  c0b X M (.Tuple elts kk ik) (.Call (.Name "enumerate" p) [a] [] pos) fa:=by
 obtain⟨t,p,q⟩:=h.out;refine⟨_,b5d hg hm (m7 p u7 lK) he,λU Y H P F ds R S hf k=>?_⟩;refine q U Y H P F _ _ S hf λv H1 e1 r1=>?_
 obtain⟨aa,xs,rfl,k1,k2⟩:=(D7 hc r1).list_inv;exact⟨aa,xs,rfl,(T5 k1 i8).l,k _ xs H1 e1 (λH2 e2=>(T5 k1 e2).l) k2⟩
def b8f(h:iI f U=cz ps):f U=cz ps:=by
 obtain⟨ds,h1,g1⟩:=bnd h;by_cases c:g9 ds=p4
 ·have:(if g9 ds=p4 then cz ds else el)=cz ps:=g1;rw[aG c]at this;rw[h1,this]
 ·have:(if g9 ds=p4 then cz ds else el)=cz ps:=g1;rw[aL c]at this;cases this
def b5e{set:List D->D->Option (List D)}{m:D->Prop}(hc:X.calm=p4)(hp:nX (aX X.prog X.w) X.A X.env X.xe)(hi:c0b X M tg iter fa)(hg:PG X tg gt)(hs:b0h X.K M MB gt set m)(hm:∀U ds,fi U=cz ds->∀d∈ds,m d)(wu:∀{U ps},fi U=cz ps->iEn fa U=cz ps)(hb:PSsX X u M MB body g M)
  (hf:∀x,eW iter X.env x=pure x:=by intro _;rfl):PSX X u ML M (.For tg iter body [] pos) (K4 fi set g) M:=by
 obtain⟨wi,pi,qi⟩:=hi;obtain⟨tb,pb,qb⟩:=hb.out;refine .mk ⟨_,a7w hp hc pi hg pb hf,λD U Y H P F o S t_ k=>?_⟩;obtain⟨ps,h1,g1⟩:=bnd t_;obtain⟨d0,h2,g2⟩:=bnd (wu h1);obtain⟨ds,h3,g3⟩:=bnd g2;cases R0 h3
 have sN:N8 ds 0=ps:=aK g3;refine qi U Y H P F ds _ S.toE h2 λa xs H1 e1 tK hx=>?_
 have S1:=S.grow e1;have rK:=hx.length;have f_:ps.length=ds.length:=by rw[<-sN,a2Y]
 refine⟨λi n Y' H'=>n=xs.length-i/\i<=xs.length/\∃U' F',StR X.K M U' Y' H' (cut H1 F) F'/\G7 set g (ps.drop i) U'=cz o,⟨xs.length,by simp,cI _,U,F,⟨S1.all,S1.lst,Same.refl _⟩,g1⟩,?_⟩;rintro i n Y' H' ⟨rfl,hi,U',F',S',hfl⟩;have kU:Same (cut H1 F) (cut H' F'):=S'.prot;have q:=tK H' (kU.trans i8);by_cases il:i<xs.length
 ·refine .inr ⟨⟨xs,xs[i],q,ao il⟩,λY2 H2=>∃U2 F2,StR X.K M U2 Y2 H2 (cut H1 F) F2/\G7 set g (ps.drop (i+1)) U2=cz o,λY2 H2 ⟨U2,F2,S2,h2⟩=>⟨xs.length-(i+1),by lia,rfl,il,U2,F2,S2,h2⟩,λx H2 hy=>?_⟩;obtain⟨T,y,hT,rfl,rfl,yP⟩:=hy;have sJ:=yP xs q;have mz:i<ps.length:=by lia
  have lM:ps.drop i=ps[i]::ps.drop (i+1):=fC mz;rw[lM]at hfl;obtain⟨U1,tJ,g4⟩:=bnd (show (set U' ps[i]).bind _=cz o from hfl);obtain⟨o1,hg1,g5⟩:=bnd g4;obtain⟨d',qB,uc⟩:=(hx.up kU).getV sJ;have qd:ps[i]=.tuple [.int (i:Nat),d']:=by
   have:=a2Z ds 0 i d' qB;rw[sN,ao mz,Nat.zero_add]at this;exact aK this
  have nz:Same H' (upd H' T (.tup [.int i,y])):=l9 hT _;have S2:=S'.grow nz;have zS:T∉F':=λz=>by
   obtain⟨ys,e⟩:=S'.lst T z;rw[hT]at e;cases e
  have qC:Den X.K (cut (upd H' T (.tup [.int i,y])) F') (.ref T) (.tuple [.int (i:Nat),d']):=by
   have lj:Same (cut H' F') (cut (upd H' T (.tup [.int i,y])) F'):=B2 nz;have hd2:=uc.up lj;have jD:cut (upd H' T (.tup [.int i,y])) F' T=cz (.tup [.int i,y]):=j8 zS i7;simp only[Den];exact⟨T,[.int i,y],rfl,SqT.of jD,denAll_cons den_int (denAll_cons hd2 denAll_nil)⟩
  rw[qd]at tJ;refine hs U' Y' _ (cut H1 F) F' (.ref T) _ U1 _ S2 qC (hm U ps h1 _ (by rw[<-qd];exact cH mz)) tJ λY3 F3 S3=>qb _ U1 Y3 _ (cut H1 F) F3 o1 S3 hg1 ?_
  cases o1 with
  |nx U2=>exact λY4 H4 F4 S4=>⟨U2,F4,S4,g5⟩
  |ct U2=>exact λY4 H4 F4 S4=>⟨U2,F4,S4,g5⟩
  |bk U2=>
   have:o=.nx U2:=(aK g5).symm;subst this;exact λY4 H4 F4 S4=>k Y4 H4 F4 ⟨S4.all,S4.lst,S1.prot.trans S4.prot⟩
  |rt d=>
   have:o=.rt d:=(aK g5).symm;subst this;refine λv H4 fp o nd fr e=>k v H4 fp o nd (λa ha=>?_) (S1.prot.trans e)
   exact S1.prot.free (fr a ha)
 ·have e:i=xs.length:=by lia
  subst e;rw[rK,<-f_,kD]at hfl;have:o=.nx U':=(aK hfl).symm;subst this;exact .inl ⟨⟨xs,q,aE _⟩,k Y' H' F' ⟨S'.all,S'.lst,S1.prot.trans S'.prot⟩⟩
end
section
variable {X:Cx}{M:List Md}{a b:Expr}{fa fb:EvE}{ca cb:Cat}{pos p:eS}
def b2s:D->D->Option D
 |.tuple ds,.tuple es=>if (!ds.isEmpty&&decide (ds.length+es.length<=1000000))=p4 then Z3 (.tuple (ds++es)) else el
 |_,_=>el
def a7X(h:b2s x y=cz d):∃ds es,x=.tuple ds/\y=.tuple es/\ds≠[]/\ds.length+es.length<=1000000/\d=.tuple (ds++es)/\imm d=p4:=by
 cases x with
 |tuple ds=>
  cases y with
  |tuple es=>
   have h':(if (!ds.isEmpty&&decide (ds.length+es.length<=1000000))=p4 then Z3 (.tuple (ds++es)) else el)=cz d:=h;by_cases c:(!ds.isEmpty&&decide (ds.length+es.length<=1000000))=p4
   ·rw[aG c]at h';obtain⟨e1,e2⟩:=Q9 h';rw[ak]at c;exact⟨ds,es,rfl,rfl,λz=>by rw[z]at c;simp at c,aP c.2,e1,by rw[e1];exact e2⟩
   ·rw[aL c]at h';cases h'
  |_=>cases h
 |_=>cases h
end
def insI(n:Int):List Int->List Int
 |[]=>[n]
 |m::ms=>if n<=m then n::m::ms else m::insI n ms
def srt:List Int->List Int
 |[]=>[]
 |n::ns=>insI n (srt ns)
theorem insI_perm(n:Int):∀ms,(insI n ms).Perm (n::ms)
 |[]=>iw _
 |m::ms=>by
  unfold insI;by_cases c:n<=m
  ·rw[aG c]
  ·rw[aL c];exact ((insI_perm n ms).cons m).trans (List.Perm.swap n m ms)
theorem k9:∀ns,(srt ns).Perm ns
 |[]=>iw _
 |n::ns=>(insI_perm n (srt ns)).trans ((k9 ns).cons n)
theorem a1W(n:Int):∀ms:List Int,ms.Pairwise (·<=·)->(insI n ms).Pairwise (·<=·)
 |[],_=>List.pairwise_singleton ..
 |m::ms,h=>by
  unfold insI;obtain⟨h1,h2⟩:=jJ.mp h;by_cases c:n<=m
  ·rw[aG c];refine jJ.mpr ⟨λx hx=>?_,h⟩;rcases az.mp hx with z|z
   ·rw[z];exact c
   ·have:=h1 x z;lia
  ·rw[aL c];refine jJ.mpr ⟨λx hx=>?_,a1W n ms h2⟩;rcases az.mp ((insI_perm n ms).mem_iff.mp hx) with z|z
   ·lia
   ·exact h1 x z
theorem U1:∀ns:List Int,(srt ns).Pairwise (·<=·)
 |[]=>jW
 |n::ns=>a1W n _ (U1 ns)
def a6r{a b:List Int}(hp:a.Perm b)(ha:a.Pairwise (·<=·)):a=srt b:=
 List.Perm.eq_of_pairwise (λx y _ _ h1 h2=>Int.le_antisymm h1 h2) ha (U1 b) (hp.trans (k9 b).symm)
theorem vals_ints:∀{vs:List aj} {ns:List Int},xj vs ns->Vals (ns.map V.int) vs
 |_,_,.nil=>.nil
 |_,_,.cons n t r=>.cons ⟨t,rfl⟩ (vals_ints r)
theorem a4t:∀{ns:List Int} {vs:List aj},Vals (ns.map V.int) vs->xj vs ns
 |[],vs,h=>by
  have h':Vals [] vs:=h;cases h'
  exact .nil
 |n::ns,vs,h=>by
  have h':Vals (V.int n::ns.map V.int) vs:=h;cases h' with
  |cons r rr=>
   obtain⟨t,rfl⟩:=r;exact .cons n t (a4t rr)
theorem b8g:∀ns:List Int,g9 (ns.map aF)=p4
 |[]=>by simp only[cB,g9]
 |n::ns=>by simp only[av,g9,imm,b8g ns,hJ]
def dis(ns:List Int):List Int:=lA (λi=>ns.getD i 0) ns.length
end VS
namespace PySem
open Sem (wp)
set_option maxRecDepth 100000
def Heap.IsValuesView.at{h g1:bQ}{v d}(x:h.IsValuesView v d)(e:∀o,h.get? v=cz o->g1.get? v=cz o):g1.IsValuesView v d:=let⟨o,ho,r⟩:=x;⟨o,e _ ho,r⟩
theorem Heap.IsValuesView.push{h:bQ}{v d}(x:h.IsValuesView v d)(o:fM):(h.push o).IsValuesView v d:=x.at λ_ e=>ag o e
section
variable {prog:bz}{w:bI}{K:Type}[DecidableEq K]{knd:KeyKind prog w K}{A:bD}{E:aj->ar->Prop}{s:ar}
def b0t(hT:s.TypeIs (.ref d) "dict_values")(h:Q rp s):aD (aX prog w) A (gO (.ref d)) Q E s:=by
 unfold gO;refine ab (dy hT F.slot_dict_values_len.lookup ?_);generalize Cd:("dict_values.__len__":String)=Dz
 wp_delta
 rw[show splitId Dz=cz ("dict_values","__len__") from by subst Cd;decide +kernel];subst Cd;refine ab (fA (T:="dict_values") (b:=p4) hT (by rw[ni];kernel_rfl) ?_);refine ee (λpI=>absurd pI (by decide)) (λ_=>?_);refine ee (λ_=>?_) (λpI=>absurd (by decide +kernel) pI);refine ab (hU hT ?_);exact ae h
def b2t(hh:A.handled=el)(hd:(d==cU)=rp)(hm:s.heap.DictAt knd d kvs ep)(hv:s.heap.IsValuesView v d)
  (hsz:kvs.length<=aV) (L0:aw) (res:aj) (c₀:Nat) (zl:s.heap.get? L0=cz {cls:=.type "list",data:=.seq #[] c₀})
  (kR:∀g1 tq ac cq,(∀b o,b≠L0->s.heap.get? b=cz o->g1.get? b=cz o)->g1.get? L0=cz {cls:=.type "list",dict:=el,data:=.seq ac cq,slots:=#[]}->
   ItemsOf (λi v=>∃k,kvs[i]?=cz (k,v)) ac kvs.length->R (.ok (.ret res)) {s with heap:=g1,toks:=tq}) :
  aD (aX prog w) A.in1 (dq (.ref L0) (.ref v) res)
   (λAe sq=>match Ae with|.done f=>R (.ok f) sq|.again cq=>cq.quiet=p4/\gL (aX prog w) A cq R sq) (λe sq=>R (.error e) sq) s:=by
 have xU:L0≠d:=λe=>by
  obtain⟨o,es,ho,hx,mh,_⟩:=hm;rw[<-e,zl]at ho;cases ho
  cases mh
 have zT:L0≠v:=λe=>by
  obtain⟨o,ho,hc,mh⟩:=hv;rw[<-e,zl]at ho;cases ho
  cases mh
 have BO:L0≠s.heap.objs.size:=bc (aI zl);have zN:d≠s.heap.objs.size:=bc hm.lt_size;have Fo:L0∉[s.heap.objs.size,d]:=λinn=>by
  rcases az.mp inn with e|e
  ·exact BO e
  ·exact xU (aq.mp e)
 have W:=(Walks.dictValues (prog:=prog) (w:=w) (knd:=knd) (A:=A.in1) hh s.heap.objs.size d zN kvs ep).toS;have key:∀(h:bQ) (c₁ tq:Nat),h.IsValIter s.heap.objs.size d 0 kvs.length ep->h.DictAt knd d kvs ep->(∀b o,b≠L0->s.heap.get? b=cz o->h.get? b=cz o)->
   h.get? L0=cz {cls:=.type "list",data:=.seq #[] c₁}->gL (aX prog w) A (.builtin "list.extend.loop" ⟨[.ref L0,.ref s.heap.objs.size,res],[]⟩) R {s with heap:=h,toks:=tq}:=by
  intro h c₁ tq hit wB hk vd;refine codeAny_extend_loopS W hsz L0 Fo res kvs.length 0 _ #[] c₁ rfl (cI _) ⟨hit,wB⟩ vd (ItemsOf.nil _) λsq ac cq Bp vc qH=>?_
  rw[Moved.eq_with Bp];refine kR sq.heap sq.toks ac cq (λb o nb e=>Bp.heap b o (λinn=>?_) (hk b o nb e)) vc qH;rcases az.mp inn with e'|inn
  ·exact nb e'
  ·exact absurd (aI e) (by rw[aq.mp inn];exact dt _)
 unfold dq;refine ab (hU (T:="dict_values") hv.typeIs ?_);have h1:ix (.ref L0) (.ref v)=rp:=by simp[ix,zT]
 have h2:(dS "dict_values" == dS "list")=rp:=by decide
 have h3:(dS "dict_values" == dS "tuple")=rp:=by decide
 simp only[h1,h2,h3,Bool.or_false,cW,fO];refine ab (wpAny_pyIter_values hv hm ?_);refine ab (bL (b0t ((hv.push _).typeIs) ?_));have vd:=ag {cls:=.type "dict_valueiterator",data:=.fields #[.ref d,.int 0 0,.int kvs.length 0,.int ep 0]} zl;have qu:(s.heap.push {cls:=.type "dict_valueiterator",data:=.fields #[.ref d,.int 0 0,.int kvs.length 0,.int ep 0]}).IsValIter s.heap.objs.size d 0 kvs.length ep:=⟨_,aH _ rfl,rfl,rfl⟩;refine ee (λ_=>?_) (λ_=>ae ⟨fw F.plain_extend_loop _,key _ c₀ _ qu (hm.push _) (λb o _ e=>ag _ e) vd⟩);refine ab (dR ?_);refine ab ?_;show aD _ _ (rC L0 (·.push .none) >>= λ_=>rC L0 (·.pop)) _ _ _;refine ab (jN vd rfl ?_);have xt:=bS (gX (·.push cj)) vd rfl;refine jN (hz:=by seq_fits) xt rfl ?_;have Cw:=bS (gX (·.pop)) xt rfl;have rest:∀b o,b≠L0->(s.heap.push {cls:=.type "dict_valueiterator",data:=.fields #[.ref d,.int 0 0,.int kvs.length 0,.int ep 0]}).get? b=cz o->(((s.heap.push {cls:=.type "dict_valueiterator",data:=.fields #[.ref d,.int 0 0,.int kvs.length 0,.int ep 0]}).update L0 (gX (·.push cj))).update L0 (gX (·.pop))).get? b=cz o:=λb o nb e=>(dC _ _ (dA nb)).trans ((dC _ _ (dA nb)).trans e)
 exact ae ⟨fw F.plain_extend_loop _,key _ _ _ (qu.at λo e=>rest _ o (dA BO) e) ((hm.push _).at' λo e=>rest _ o (dA xU) e) (λb o nb e=>rest b o nb (ag _ e)) Cw⟩
def b0u(hh:A.handled=el)(hd:(d==cU)=rp)(hm:s.heap.DictAt knd d kvs ep)(hv:s.heap.IsValuesView v d)
  (hsz:kvs.length<=aV) (L0:aw) (zl:s.heap.get? L0=cz {cls:=.type "list",data:=.seq #[]})
  (kR:∀g1 tq ac cq,(∀b o,b≠L0->s.heap.get? b=cz o->g1.get? b=cz o)->g1.get? L0=cz {cls:=.type "list",dict:=el,data:=.seq ac cq,slots:=#[]}->
   ItemsOf (λi v=>∃k,kvs[i]?=cz (k,v)) ac kvs.length->R (.ok (.ret .none)) {s with heap:=g1,toks:=tq}) :
  aD (aX prog w) A.in1 (Builtin.«list.__init__» ⟨[.ref L0,.ref v],[]⟩)
   (λAe sq=>match Ae with|.done f=>R (.ok f) sq|.again cq=>cq.quiet=p4/\gL (aX prog w) A cq R sq) (λe sq=>R (.error e) sq) s:=by
 have xU:L0≠d:=λe=>by
  obtain⟨o,es,ho,hx,mh,_⟩:=hm;rw[<-e,zl]at ho;cases ho
  cases mh
 have zT:L0≠v:=λe=>by
  obtain⟨o,ho,hc,mh⟩:=hv;rw[<-e,zl]at ho;cases ho
  cases mh
 show aD _ _ (do let old <-Gu (.ref L0);Builtin.List.listUpdate (.ref L0) (λ_=>#[]);letGo old.toList.reverse;dq (.ref L0) (.ref v) .none) _ _ s;refine ab ?_;unfold Gu;refine ab (dI zl rfl (ae ?_));show aD _ _ (rC L0 (λ_=>#[]) >>= λ_=>letGo (#[]:Array aj).toList.reverse >>= λ_=>dq (.ref L0) (.ref v) .none) _ _ s;refine ab (jN zl rfl ?_);have xt:=bS (gX (λ_=>(#[]:Array aj))) zl rfl;have rest:∀b o,b≠L0->s.heap.get? b=cz o->(s.heap.update L0 (gX (λ_=>(#[]:Array aj)))).get? b=cz o:=
  λb o nb e=>(dC _ _ (dA nb)).trans e
 refine ab (nc ?_);refine b2t hh hd (hm.at' λo e=>rest d o (dA xU) e) (hv.at λo e=>rest v o (dA zT) e) hsz L0 .none _ xt λg1 tq ac cq hk vc qH=>?_
 exact kR g1 tq ac cq (λb o nb e=>hk b o nb (rest b o nb e)) vc qH
def a3a(hh:A.handled=el)(hd:(d==cU)=rp)(hm:s.heap.DictAt knd d kvs ep)(hv:s.heap.IsValuesView v d)
  (hsz:kvs.length<=aV)
  (kQ:∀g1 tq ac cq,(∀b o,s.heap.get? b=cz o->g1.get? b=cz o)->
   g1.get? s.heap.objs.size=cz {cls:=.type "list",dict:=el,data:=.seq ac cq,slots:=#[]}->ItemsOf (λi v=>∃k,kvs[i]?=cz (k,v)) ac kvs.length->Q (.ref s.heap.objs.size) {s with heap:=g1,toks:=tq}) :
  aD (aX prog w) A (call (.type "list") [.ref v]) Q E s:=by
 refine xi (Q₁:=λobj s₁=>obj=.ref s.heap.objs.size/\s₁={s with heap:=s.heap.push {cls:=.type "list",data:=.seq #[]}}) F.called_list (F.typeCall_list_1 _) F.entry_list_init
  (code_list_new _ ⟨rfl,rfl⟩) λobj s₁ h₁=>?_
 obtain⟨rfl,rfl⟩:=h₁;have zl:(s.heap.push {cls:=.type "list",data:=.seq #[]}).get? s.heap.objs.size=cz {cls:=.type "list",data:=.seq #[]}:=aH _ rfl;refine⟨⟨_,zl,rfl⟩,F.args_list_init_2 _ _,b0u (A:=A.in1) hh hd (hm.push _) (hv.push _) hsz _ zl λg1 tq ac cq hk vc qH=>?_⟩;exact⟨rfl,kQ g1 tq ac cq (λb o e=>hk b o (bc (aI e)) (ag _ e)) vc qH⟩
end
end PySem
namespace VS
open PySem PySem.Spec L2
theorem a2t:∀{xs:List V} {us:List aj},xs.length=us.length->(∀(i:Nat) (x:V) (u:aj),xs[i]?=cz x->us[i]?=cz u->RelV x u)->Vals xs us
 |[],[],_,_=>.nil
 |[],_::_,h,_=>by simp at h
 |_::_,[],h,_=>by simp at h
 |x::xs,u::us,hl,h=>.cons (h 0 x u rfl rfl) (a2t (by simpa using hl) λi x u h1 h2=>h (i+1) x u (by simpa using h1) (by simpa using h2))
def y8(es:List (D×V×V)):Prop:=∀e∈es,∃n,e.1=.int n/\e.2.1=.int n
def EKv(e:D×V×V)(kv:Int×aj):Prop:=e.1=.int kv.1/\e.2.1=.int kv.1/\RelV e.2.2 kv.2
def b0v(h:eZ O4 es l):y8 es->∃kvs:List (Int×aj),Pairs (cX P w) l kvs/\eZ EKv es kvs:=by
 induction h with
 |nil=>exact λ_=>⟨[],.nil,.nil⟩
 |@cons e x es l r _ ih=>
  intro hk;obtain⟨kvs,h1,h2⟩:=ih λe he=>hk e (ai _ he)
  obtain⟨n,e1,e2⟩:=hk e ah;obtain⟨hh,iA,tG⟩:=r;rw[e2]at iA;obtain⟨t,ht⟩:=(show ∃t,x.key=iJ n t from iA);exact⟨(n,x.val)::kvs,.cons (by rw[ht];simp[cX,jF]) rfl h1,.cons ⟨e1,e2,tG⟩ h2⟩
def a6s(h:eZ EKv es kvs):es.map (·.1)=(kvs.map (·.1)).map aF:=by
 induction h with
 |nil=>rfl
 |cons r _ ih=>rw[av,av,av,ih,r.1]
section
variable {X:Cx}{M:List Md}{a o:Expr}{fa:EvE}{ca:Cat}{pos p apos cw:eS}
def U2(I:Inv X pins Y H s)(hH:H d=cz (c9 d es))(hk:y8 es) :
  ∃kvs ep,s.heap.DictAt (cX X.prog X.w) d kvs ep/\(d==cU)=rp/\es.length<=aV/\eZ EKv es kvs:=by
 obtain⟨h0,hl,hn,o,ents,ep,h1,h2,h3,h4⟩:=o8 I hH;obtain⟨kvs,p1,p2⟩:=b0v (P:=X.prog) (w:=X.w) h4 hk;refine⟨kvs,ep,⟨o,ents,h1,h2,h3,λx hx=>?_,p1,?_⟩,h0,hl,p2⟩
 ·obtain⟨j,hj⟩:=bE.mp (dM.mpr hx);obtain⟨e,he,hh,iA,_⟩:=a1T h4 hj;obtain⟨n,e1,e2⟩:=hk e (bo he);rw[e2]at iA;obtain⟨t,ht⟩:=(show ∃t,x.key=iJ n t from iA);exact⟨n,by rw[ht];simp[cX,jF],by rw[hh,e1];rfl⟩
 ·rw[a6s p2]at hn;exact xq aF (λa b h e=>h (by rw[e])) hn
def a4u(v d:aw):HO:=.ext λh=>h.IsValuesView v d
def b0w{h':bQ}(h:h'.IsValuesView v d):ObjOk P w H' h' v (a4u v d):=
 ⟨h,let⟨o,ho,_⟩:=h;⟨o,ho⟩,λx1 x2 ⟨o,ho,r⟩ hk=>⟨o,hk _ ho,r⟩⟩
def b0x(ho:PE X o to)(et:cY o "values" X.env (cn o X.env)=cn o X.env:=by rfl)(er:(apos.endLine==cw.line)=p4:=by rfl) :
  PE X (.Call (.Attribute o "values" apos) [] [] cw) (λY H Q=>to Y H λx H1=>∃p es,x=.ref p/\H1 p=cz (c9 p es)/\y8 es/\∀l,H1 l=el->Q (.ref l) (upd H1 l (a4u l p))):=by
 intro pins s Y H Q I h;refine iC et er (L2.thn (ho pins s Y H _ I h) λv s1 ⟨x,H1,I1,r1,p,es,ex,hH,hk,q1⟩=>?_);subst ex;obtain rfl:v=aZ p:=r1;obtain⟨kvs,ep,jD,h0,hl,hp⟩:=U2 I1 hH hk;refine⟨"dict","dict.values",ig,gW,sk,k6 I1 hH,L5 I1 hH,fu rfl (jo ?_)⟩;refine F_ gW (k6 I1 hH) rz (qS _) (meets_dict_values (cX X.prog X.w) p h0) ⟨⟨kvs,jD.dictOf⟩,?_⟩;exact⟨.ref s1.heap.objs.size,_,I1.laid (a:=s1.heap.objs.size) (o:=a4u s1.heap.objs.size p) (t':=s1.toks) (λ_ _ q=>ag _ q) (aE _) (b0w ⟨_,aH _ rfl,rfl,rfl⟩),rfl,q1 _ (I1.hok.fresh (aE _))⟩
def a7Y(hc:X.calm=p4):CallR X (.type "list") (λxs H Q=>∃v p es,xs=[.ref v]/\H v=cz (a4u v p)/\H p=cz (c9 p es)/\y8 es/\∀l,H l=el->Q (.ref l) (upd H l (.lst (es.map (·.2.2))))):=by
 intro pins s Y H xs us Q I rv h;obtain⟨v,p,es,rfl,hV,hH,hk,q⟩:=h;obtain⟨u,rfl,rx⟩:=vals1 rv;cases (show u=aZ v from rx)
 obtain⟨kvs,ep,jD,h0,hl,hp⟩:=U2 I hH hk;have DN:s.heap.IsValuesView v p:=(show ObjOk X.prog X.w H s.heap v (a4u v p) from I.hok v _ hV).1;have hlen:=cN hp;refine a3a (knd:=cX X.prog X.w) (I.ok.hd hc) h0 jD DN (by lia) λg1 tq ac cq keep ho qH=>?_
 refine⟨.ref s.heap.objs.size,_,I.laid (t':=tq) keep (aE _) (show ObjOk X.prog X.w _ g1 _ (.lst (es.map (·.2.2))) from⟨by rw[au];exact hl,ac.toList,cq,?_,by rw[jc];exact ho⟩),rfl,q _ (I.hok.fresh (aE _))⟩;refine a2t (by rw[au];have z1:=qH.1;have z2:ac.toList.length=ac.size:=cg;lia) λi x u h1 h2=>?_
 rw[bZ]at h2;obtain⟨k,h3⟩:=qH.2 i u h2;rw[a_]at h1;obtain⟨e,he,rfl⟩:=cV.mp h1;obtain⟨kv,g3,g4⟩:=B8 hp he;rw[h3]at g3;cases g3
 exact g4.2.2
def intKeyed(h:DenKV K H es kvs)(hk:kvs.all (λp=>m9 rp p.1)=p4):y8 es:=λe he=>by
 have h1:e.1∈kvs.map (·.1):=by rw[<-h.keys];exact bw he
 obtain⟨kv,h2,h3⟩:=aO.mp h1;obtain⟨n,hn⟩:=(u9 (aT.mp hk kv h2)).2.2.2 rfl;have hd:=h.kden e he;rw[<-h3,hn]at hd;exact⟨n,by rw[<-h3,hn],hd.int_inv⟩
noncomputable def a5s(a:EvE):EvE:=λU=>(a U).bind λd=>match d with
 |.dict kvs=>if kvs.all (λp=>m9 rp p.1)&&g9 (kvs.map (·.2)) then cz (.list (kvs.map (·.2))) else el
 |_=>el
def b2u(hc:X.calm=p4)(hm:X.mg "list"=el)(ha:PX X M a fa ca)(hg:Gl X "list":=by rfl)(et:cY a "values" X.env (cn a X.env)=cn a X.env:=by rfl)(er:(apos.endLine==cw.line)=p4:=by rfl)
  (he:ax [.Call (.Attribute a "values" apos) [] [] cw] X.env=(rp,cn (.Call (.Attribute a "values" apos) [] [] cw) X.env)::ax [] X.env:=by rfl) (f_:(cx pos (ax [] X.env)).any (·.1)=rp:=by rfl) :
  PX X M (.Call (.Name "list" p) [.Call (.Attribute a "values" apos) [] [] cw] [] pos) (a5s fa) (.new (.l .i)):=by
 obtain⟨ta,pa,qa⟩:=ha.out;refine .mk ⟨_,M3 (a7Y hc) hg hm PyProof.Rows.Boot.«list» (m7 (b0x pa et er) u7 he) (by decide) (by decide) he f_,λU Y H P F d Q S hf q=>?_⟩;obtain⟨x,h1,g1⟩:=bnd hf;cases x with
 |dict kvs=>
  have g2:(if kvs.all (λp=>m9 rp p.1)&&g9 (kvs.map (·.2)) then cz (gi (kvs.map (·.2))) else el)=cz d:=g1;by_cases c:(kvs.all (λp=>m9 rp p.1)&&g9 (kvs.map (·.2)))=p4
  ·rw[aG c]at g2;cases g2
   rw[ak]at c;refine qa U Y H P F _ _ S h1 λv H1 e1 r1=>?_
   obtain⟨pp,es,rfl,k1,k2⟩:=r1.den.dict_inv;have hk:=intKeyed k2 c.1;refine⟨pp,es,rfl,k1,hk,λy hy=>?_⟩;have e2:=l9 hy (a4u y pp);refine⟨y,pp,es,rfl,i7,e2 _ _ k1,hk,λz hz=>q _ _ ((e1.trans e2).trans (l9 hz _)) ?_⟩;exact Q8 (k2.vals.up e2) c.2 (e1.trans e2) hz (S.lst' (e1.trans e2))
  ·rw[aL c]at g2;cases g2
 |_=>cases g1
end
def keysOk(kt:Bool)(kvs:List (D×D)):Bool:=kvs.all λp=>m9 kt p.1
def a5t(neg kt:Bool):D->D->Option D
 |k,.dict kvs=>if m9 kt k&&keysOk kt kvs then cz (.bool (neg !=v6 kvs k)) else el
 |_,_=>el
def C4(kt:Bool):D->D->Option D
 |.dict kvs,k=>if m9 kt k&&keysOk kt kvs then A1 kvs k else el
 |_,_=>el
def a9f(kt:Bool):D->D->Option D
 |.dict kvs,k=>if m9 kt k&&keysOk kt kvs then cz ((A1 kvs k).getD .none) else el
 |_,_=>el
def Y7{kvs:List (D×D)}{es:List (D×V×V)}(h:es.map (·.1)=kvs.map (·.1)):v6 kvs k=u4 es k:=by
 have e1:v6 kvs k=(kvs.map (·.1)).any λx=>aC x k:=by unfold v6;rw[List.any_map];rfl
 have e2:u4 es k=(es.map (·.1)).any λx=>aC x k:=by unfold u4;rw[List.any_map];rfl
 rw[e1,e2,h]
def b2v{X:Cx}(h:DenKV X.K H es kvs)(ho:keysOk kt kvs=p4)(hk:m9 kt k=p4)(hd:Den X.K H kv k):KeysAt X H kt es k kv:=by
 refine⟨λe he=>⟨?_,h.kden e he⟩,u9 hk,hd⟩;have hm:e.1∈kvs.map (·.1):=by rw[<-h.keys];exact bw he
 obtain⟨p,hp,e1⟩:=aO.mp hm;rw[<-e1];exact u9 (aT.mp ho p hp)
section
variable {X:Cx}{M:List Md}{a b:Expr}{fa fb:EvE}{ca cb:Cat}{kt:Bool}{pos:eS}
def a4v(h:a5t neg kt k d=cz r):∃kvs,d=.dict kvs/\m9 kt k=p4/\keysOk kt kvs=p4/\r=.bool (neg !=v6 kvs k):=by
 cases d with
 |dict kvs=>
  have h':(if m9 kt k&&keysOk kt kvs then cz (dw (neg !=v6 kvs k)) else el)=cz r:=h;by_cases c:(m9 kt k&&keysOk kt kvs)=p4
  ·rw[aG c]at h';rw[ak]at c;exact⟨kvs,rfl,c.1,c.2,(aK h').symm⟩
  ·rw[aL c]at h';cases h'
 |_=>cases h
def a6t(d1:Den X.K H2 v k)(d2:Den X.K H2 w d)(hr:a5t neg kt k d=cz r)(q:Q (.bl (match r with|.bool b=>b|_=>rp)) H2):a3R X neg v w H2 Q:=by
 obtain⟨kvs,rfl,hk,ho,rfl⟩:=a4v hr;obtain⟨p,es,rfl,hH,dk⟩:=d2.dict_inv;refine⟨p,es,kt,k,rfl,hH,b2v dk ho hk d1,?_⟩;rw[<-Y7 dk.keys];exact q
def b8h(ho:OpR X (bJ op) (a3R X neg))(ha:PX X M a fa ca)(hb:PX X M b fb cb)(hm:eK op b=rp:=by first|exact a0j _|with_unfolding_all rfl):PX X M (.Compare a [op] [b] pos) (e2 (a5t neg kt) fa fb) (.new .i):=by
 obtain⟨ta,pa,qa⟩:=ha.out;obtain⟨tb,pb,qb⟩:=hb.out;refine .mk ⟨_,a8S ho pa pb hm,λU Y H P F d Q S hf q=>?_⟩;obtain⟨x,y,h1,h2,h3⟩:=z7 hf;refine qa U Y H P F x _ S h1 λv H1 e1 r1=>qb U Y H1 P F y _ (S.grow e1) h2 λw H2 e2 r2=>a6t (r1.den.up e2) r2.den h3 ?_
 obtain⟨kvs,rfl,_,_,rfl⟩:=a4v h3;exact q _ H2 (e1.trans e2) (E9 (by simp only[imm]) den_bool (S.lst' (e1.trans e2)))
def b5f(ho:OpR X (bJ op) (a3R X neg))(ha:PX X M a fa ca)(hb:PX X M b fb cb)(hm:eK op b=rp:=by first|exact a0j _|with_unfolding_all rfl):PTX X M (.Compare a [op] [b] pos) (tB (e2 (a5t neg kt) fa fb)):=by
 obtain⟨ta,pa,qa⟩:=ha.out;obtain⟨tb,pb,qb⟩:=hb.out;refine .mk ⟨_,a0B ho pa pb hm,λU Y H P F k Q S hf q=>?_⟩;obtain⟨d,hf,hk⟩:=bnd hf;cases G5 hk
 obtain⟨x,y,h1,h2,h3⟩:=z7 hf;exact qa U Y H P F x _ S h1 λv H1 e1 r1=>qb U Y H1 P F y _ (S.grow e1) h2 λw H2 e2 r2=>a6t (r1.den.up e2) r2.den h3 ⟨k,rfl,q H2 (e1.trans e2)⟩
def b2w{es:List (D×V×V)}(hn:(es.map (·.1)).Nodup)(hk:∀e∈es,aC e.1 k=p4↔e.1=k)(h:DenKV K H es kvs)(he:e∈es)(fJ:e.1=k):∃d,A1 kvs k=cz d/\Den K H e.2.2 d:=by
 obtain⟨j,hj⟩:=bE.mp he;have hl:kvs.length=es.length:=by have:=du eD h.keys;simpa using this.symm
 have hz:kvs=(es.map (·.1)).zip (kvs.map (·.2)):=by
  rw[h.keys,List.zip_map',List.map_id'' (λp=>rfl)]
 obtain⟨p,hp⟩:∃p,kvs[j]?=cz p:=⟨_,ao (by rw[hl];exact (aU.mp hj).1)⟩;have hd:(kvs.map (·.2))[j]?=cz p.2:=by rw[a_,hp];rfl
 refine⟨p.2,?_,?_⟩
 ·rw[hz];exact a0T (by rw[au];exact hl) hk hn hj fJ hd
 ·obtain⟨v,z1,z2⟩:=h.vals.get hd;rw[a_,hj]at z1;cases z1
  exact z2
def c0c(X:Cx)(td ty:TE):TE:=λY H Q=>td Y H λx H1=>ty Y H1 λy H2=>∃a es kt k,x=.ref a/\H2 a=cz (c9 a es)/\KeysAt X H2 kt es k y/\u4 es k=p4/\((es.map (·.1)).Nodup->∀e∈es,e.1=k->Q e.2.2 H2)
def b5g(hu:X.A.units+164<cS)(ho:PE X a td)(hi:PE X b ty)(hs:a4q b):PE X (.Subscript a b pos) (c0c X td ty):=by
 intro pins s Y H Q I h;refine b9Z ro.lookup hs (L2.thn (ho pins s Y H _ I h) λu s1 ⟨x,H1,I1,rx,q1⟩=>L2.thn (hi pins s1 Y H1 _ I1 q1) λiv s2 ⟨y,H2,I2,ry,p,es,kt,k,ex,hH,K,hh,q2⟩=>?_);subst ex;obtain rfl:u=aZ p:=rx;have hn:=(o8 I2 hH).2.2.1;exact⟨k6 I2 hH,a2V (by lia) I2 hH K ry hh λe he fJ x s3 I3 r3=>⟨e.2.2,H2,I3,r3,q2 hn e he fJ⟩⟩
def b0y(h:C4 kt d k=cz r):∃kvs,d=.dict kvs/\m9 kt k=p4/\keysOk kt kvs=p4/\A1 kvs k=cz r:=by
 cases d with
 |dict kvs=>
  have h':(if m9 kt k&&keysOk kt kvs then A1 kvs k else el)=cz r:=h;by_cases c:(m9 kt k&&keysOk kt kvs)=p4
  ·rw[aG c]at h';rw[ak]at c;exact⟨kvs,rfl,c.1,c.2,h'⟩
  ·rw[aL c]at h';cases h'
 |_=>cases h
def L6(hu:X.A.units+164<cS)(ha:PX X M a fa (.new .f))(hb:PX X M b fb cb)(hs:a4q b:=by exact λ_ _=>rfl):PX X M (.Subscript a b pos) (e2 (C4 kt) fa fb) (.new .f):=by
 obtain⟨ta,pa,qa⟩:=ha.out;obtain⟨tb,pb,qb⟩:=hb.out;refine .mk ⟨_,b5g hu pa pb hs,λU Y H P F d Q S hf q=>?_⟩;obtain⟨x,y,h1,h2,h3⟩:=z7 hf;obtain⟨kvs,rfl,hk,hok,hg⟩:=b0y h3;refine qa U Y H P F _ _ S h1 λv H1 e1 ⟨fp,o,nd,fr⟩=>qb U Y H1 P F y _ (S.grow e1) h2 λw H2 e2 r2=>?_
 simp only[Own]at o;obtain⟨rfl,o⟩:=o;have o2:Den X.K (cut H2 F) v (.dict kvs):=o.up (K3 e2 λa o ha jL=>by simpa using jL);obtain⟨p,es,rfl,hH,dk⟩:=o2.dict_inv;have Ak:DenKV X.K H2 es kvs:=DenKV.mono i8 kvs dk;have KK:=b2v Ak hok hk r2.den;refine⟨p,es,kt,y,rfl,i8 _ _ hH,KK,by rw[<-Y7 dk.keys];exact a0U hg,λhn e he fJ=>?_⟩;obtain⟨d',g',dd⟩:=b2w hn (λe he=>KK.eqv he) dk he fJ;rw[hg]at g';cases g'
 refine q _ H2 (e1.trans e2) ⟨[],?_,bu,λa ha=>(nomatch ha)⟩;simp only[Own];exact⟨trivial,dd⟩
def b8i(X:Cx):V->List V->Hp->VK->Prop:=λx xs H Q=>∃p es kt k y,x=.ref p/\xs=[y]/\H p=cz (c9 p es)/\KeysAt X H kt es k y/\(u4 es k=rp->Q .non H)/\((es.map (·.1)).Nodup->∀e∈es,e.1=k->Q e.2.2 H)
def b5h(hu:X.A.units+164<cS):MtR X "dict.get" (b8i X):=by
 intro pins s Y H x xs v us Q I rx rv h;obtain⟨p,es,kt,k,y,rfl,rfl,hH,K,q1,q2⟩:=h;cases (show v=aZ p from rx)
 obtain⟨w,rfl,rw⟩:=rv.one;have hn:=(o8 I hH).2.2.1;exact b7Z (by lia) I hH K rw (λhf s' I'=>⟨.non,H,I',rfl,q1 hf⟩) λe he fJ x s' I' r'=>⟨e.2.2,H,I',r',q2 hn e he fJ⟩
def a7Z(h:a9f kt d k=cz r):∃kvs,d=.dict kvs/\m9 kt k=p4/\keysOk kt kvs=p4/\r=(A1 kvs k).getD .none:=by
 cases d with
 |dict kvs=>
  have h':(if m9 kt k&&keysOk kt kvs then cz ((A1 kvs k).getD .none) else el)=cz r:=h;by_cases c:(m9 kt k&&keysOk kt kvs)=p4
  ·rw[aG c]at h';rw[ak]at c;exact⟨kvs,rfl,c.1,c.2,(aK h').symm⟩
  ·rw[aL c]at h';cases h'
 |_=>cases h
def b5i{apos cw:eS}(hu:X.A.units+164<cS)(ha:PX X M a fa (.new .f))(hb:PX X M b fb cb)(et:cY a "get" X.env (cn a X.env)=cn a X.env:=by rfl)
  (jZ:((cx cw (ax [b] X.env)).all (λx=>!x.1)&&(lS cw (iF [] X.env)).all (λx=>x.1.isSome)
   && decide (([b]:List Expr).length+([]:List gu).length+(if ([]:List gu).isEmpty then 0 else 1)<30))=p4:=by rfl)
  (er:(apos.endLine==cw.line)=p4:=by rfl) (hs:ax [b] X.env=(rp,cn b X.env)::ax [] X.env:=by rfl) (gc:(cx cw (ax [] X.env)).any (·.1)=rp:=by rfl) :
  PX X M (.Call (.Attribute a "get" apos) [b] [] cw) (e2 (a9f kt) fa fb) (.new .f):=by
 obtain⟨ta,pa,qa⟩:=ha.out;obtain⟨tb,pb,qb⟩:=hb.out;refine .mk ⟨_,a7W PySem.F.slot_dict_get PySem.F.type_dict_get (b5h hu) pa (m7 pb u7 hs) et jZ er hs gc,λU Y H P F d Q S hf q=>?_⟩;obtain⟨x,y,h1,h2,h3⟩:=z7 hf;obtain⟨kvs,rfl,hk,hok,rfl⟩:=a7Z h3;refine qa U Y H P F _ _ S h1 λv H1 e1 ⟨fp,o,nd,fr⟩=>?_
 simp only[Own]at o;obtain⟨rfl,o⟩:=o;obtain⟨p,es,rfl,hH,dk⟩:=o.dict_inv;refine⟨⟨p,es,rfl,i8 _ _ hH⟩,qb U Y H1 P F y _ (S.grow e1) h2 λw H2 e2 r2=>?_⟩;have up:Same (cut H1 ([]++F)) (cut H2 F):=K3 e2 λa o ha jL=>by simpa using jL
 have Cf:DenKV X.K (cut H2 F) es kvs:=DenKV.mono up kvs dk;have Ak:DenKV X.K H2 es kvs:=DenKV.mono i8 kvs Cf;have KK:=b2v Ak hok hk r2.den;refine⟨p,es,kt,y,w,rfl,rfl,e2 _ _ (i8 _ _ hH),KK,λhf=>?_,λhn e he fJ=>?_⟩
 ·have:A1 kvs y=el:=a4r (by rw[Y7 dk.keys];exact hf);rw[this]at q;refine q .non H2 (e1.trans e2) ⟨[],?_,bu,λa ha=>(nomatch ha)⟩;simp only[Own];exact⟨trivial,den_none⟩
 ·obtain⟨d',g',dd⟩:=b2w hn (λe he=>KK.eqv he) Cf he fJ;rw[g']at q;refine q _ H2 (e1.trans e2) ⟨[],?_,bu,λa ha=>(nomatch ha)⟩;simp only[Own];exact⟨trivial,dd⟩
end
end VS
namespace VS
open PySem PySem.Spec L2 PyProof.Rows
section
variable {X:Cx}{pins:List (aw×fM)}{Y:L2.St}{H:Hp}{s:ar}{A:bD}{E:aj->ar->Prop}{a:aw}{es:List (D×V×V)}{kt:Bool}{k:D}{kv v:V}{key val:aj}
def a8a{Q:aj->ar->Prop}(I:Inv X pins Y H s)(h:H a=cz (c9 a es))(hQ:∀t s',Inv X pins Y H s'->Q (.int es.length t) s'):aD (aX X.prog X.w) A (Builtin.«len» ⟨[.ref a],[]⟩) (λfin s'=>∃r,fin=.done (.ret r)/\Q r s') E s:=by
 have hT:=k6 I h;obtain⟨hd,hl,_,o,ents,ep,h1,h2,h3,h4⟩:=o8 I h;have hsz:ents.size=es.length:=by
  have:=cN h4;have e2:ents.toList.length=ents.size:=by simp
  lia
 have pH:(es.length:Int)<2^63:=by
  have:aV<2^62:=by decide
  lia
 unfold Builtin.«len»;refine ab (m:=oneArg "len" _) (ae ?_);refine ab (m:=callSpecial? (.ref a) (cf "__len__")) (bH (name:=cf "__len__") hT iz (bB iz hT F.entry_dict_len ?_ (F.args_dict_len_1 _)));show aD _ _ (dictSize a >>= _) _ _ s;unfold dictSize;refine ab (ab (cC h1 h3 (ae ?_)));show aD _ _ (yh a >>= _) _ _ s;refine ab (ym hd ?_);refine tw ?_;rw[Nat.add_zero,hsz];refine ab (bL (ae ?_));refine ab (nc ?_);show aD _ _ (if ((es.length:Nat):Int)<0 then _ else _) _ _ _;rw[aL (by lia)];show aD _ _ (if ((es.length:Nat):Int)≥2^63 then _ else _) _ _ _;rw[aL (by lia)];exact ab (wpAny_mkInt (ae ⟨_,rfl,hQ _ _ (I.tok _)⟩))
def b0z{Q:Bool->ar->Prop}(I:Inv X pins Y H s)(h:H a=cz (c9 a es))(hQ:∀s',Inv X pins Y H s'->Q (!es.isEmpty) s'):aD (aX X.prog X.w) A (vk (.ref a)) Q E s:=by
 have hT:=k6 I h;have gy:((es.length:Int)!=0)=!es.isEmpty:=by cases es<;>simp<;>lia
 have key:aD (aX X.prog X.w) A (runValue (.builtin "len" ⟨[.ref a],[]⟩)) (λr s'=>(∃t,r=.int es.length t)/\Q (!es.isEmpty) s') E s:=by
  refine m_ (dN entry_len ?_);rw[dc plain_len _];exact dg (a8a (Q:=λr s'=>(∃t,r=.int es.length t)/\Q (!es.isEmpty) s') I h λt s' I'=>⟨⟨t,rfl⟩,hQ s' I'⟩)
   (λfin s' h'=>by obtain⟨r,rfl,hq⟩:=h';exact hq) λ_ _ e=>e
 unfold vk
 first
  |refine ab (Ay (name:=cf "__bool__") hT noBool_dict ?_)
  |refine ab (ae (ab (Ay (name:=cf "__bool__") hT noBool_dict ?_)))
 first
  |refine ab (dy (name:=cf "__len__") hT iz.lookup ?_)
  |refine ab (ae (ab (dy (name:=cf "__len__") hT iz.lookup ?_)))
 first
  |exact ab (dg key (λr s' h'=>by obtain⟨⟨t,rfl⟩,hq⟩:=h';exact ae (gy▸hq)) λ_ _ e=>e)
  |exact ab (ae (ab (dg key (λr s' h'=>by obtain⟨⟨t,rfl⟩,hq⟩:=h';exact ae (gy▸hq)) λ_ _ e=>e)))
end
section
variable {X:Cx}{M:List Md}{a:Expr}{ta:TE}{fa:EvE}{ca:Cat}
def b5j(ha:PE X a ta)(he:∀whole,rJ a X.env whole=(do let v <-whole;standAt a.pos;nU [v] (vk v))):PT X a (λY H Q=>ta Y H λx H'=>∃p es,x=.ref p/\H' p=cz (c9 p es)/\Q (!es.isEmpty) H'):=by
 intro pins s Y H Q I h;refine isTrue_plain (L2.thn (ha pins s Y H _ I h) λv s1 ⟨x,H1,I1,r1,p,es,ex,hH,q1⟩=>?_) (he _);subst ex;obtain rfl:v=aZ p:=r1;exact b0z I1 hH λs' I'=>⟨H1,I',q1⟩
def trD:D->Option Bool
 |.dict kvs=>cz !kvs.isEmpty
 |_=>el
noncomputable def tVD(a:EvE):EvT:=λU=>(a U).bind trD
def b2x(ha:PX X M a fa ca)(he:∀whole,rJ a X.env whole=(do let v <-whole;standAt a.pos;nU [v] (vk v)):=by intro _;rfl):PTX X M a (tVD fa):=by
 obtain⟨ta,pa,qa⟩:=ha.out;refine .mk ⟨_,b5j pa he,λU Y H P F k Q S hf q=>?_⟩;obtain⟨x,h1,hf⟩:=bnd hf;refine qa U Y H P F _ _ S h1 λv H1 e1 r1=>?_
 cases x with
 |dict kvs=>
  have lh:cz (!kvs.isEmpty)=cz k:=hf;cases lh
  obtain⟨p,es,rfl,hH,dk⟩:=r1.den.dict_inv;refine⟨p,es,rfl,hH,?_⟩;have hl:es.isEmpty=kvs.isEmpty:=by
   have:=du eD dk.keys;rw[au,au]at this;cases es<;>cases kvs<;>simp_all
  rw[hl];exact q H1 e1
 |_=>cases hf
end
end VS
namespace VS
open PySem PySem.Spec L2
section
variable {X:Cx}{pins:List (aw×fM)}{Y:L2.St}{H:Hp}{s:ar}{A:bD}{E:aj->ar->Prop}{a:aw}{es fs:List (D×V×V)}{k:D}{kv v:V}{key val:aj}{kt:Bool}{F:List aw}
theorem a1X:∀{l:List α} {m:List β},eZ R l m->∀{i:Nat} {x:α},l[i]?=cz x->∃y,m[i]?=cz y/\R x y
 |_,_,.nil,i,x,h=>by simp at h
 |_,_,.cons r t,0,x,h=>by
  cases h
  exact⟨_,rfl,r⟩
 |_,_,.cons r t,i+1,x,h=>by
  obtain⟨y,h1,h2⟩:=a1X t (i:=i) (x:=x) (by simpa using h);exact⟨y,by simpa using h1,h2⟩
def a6u(I:Inv X pins Y H s)(hu:A.units+10<cS)(h:H a=cz (c9 a es))(K:KeysAt X H kt es k kv)(rk:RelV kv key)(rv:RelV v val)(hl:es.length<aV)(nr:∀e∈es,e.1≠k) 
  (hQ:∀h',Inv X pins Y (upd H a (c9 a (es++[(k,kv,v)]))) {s with heap:=h'}->cD a s.heap h'->Q () {s with heap:=h'}):aD (aX X.prog X.w) A (ll a key (hashD k) val) Q E s:=by
 obtain⟨hs,_,hn,o,ents,ep,h1,h2,h3,h4⟩:=o8 I h;have hsz:ents.size<=aV:=by
  have:=cN h4;have e2:ents.toList.length=ents.size:=by simp
  lia
 have hf:u4 es k=rp:=by
  unfold u4;rw[cu];exact λe he hq=>nr e he ((K.eqv he).mp hq)
 unfold ll
 try with_reducible refine bL ?_
 refine ab (Y4 I hu h1 h3 h4 hn K.keys K.key K.den rk ?_ ?_)
 ·intro _;exact ab (dR (mZ (hz:=hsz) h1 h3 (hQ _ (a1A (t':=s.toks) I h K rk rv hl hf h1 h2 h3 h4) (bP ..))))
 ·intro j e he fJ;exact absurd fJ (nr e (bo he))
def b2y(I:Inv X pins Y H s)(hu:A.units+10<cS)(hd:H d=cz (c9 d es))(ho:H o=cz (c9 o fs))(sR:d≠o)(gy:es≠[])(zO:d∈F)
  (hk:∀e∈es++fs,keyOk kt e.1/\Den X.K (cut H F) e.2.1 e.1) (jk:((es++fs).map (·.1)).Nodup) (hsz:es.length+fs.length<=aV) (hQ:∀s',Inv X pins Y (upd H d (c9 d (es++fs))) s'->Q () s') :
  aD (aX X.prog X.w) A (jb nm d o) Q E s:=by
 obtain⟨GW,_,hn,od,sf,Hg,Eg,iG,wB,Ea⟩:=o8 I hd;obtain⟨Eh,_,nr,oo,mC,Hf,xH,uO,qA,Bj⟩:=o8 I ho;unfold jb;rw[aL (by simpa using sR)];unfold jt;rw[aL (by rw[Eh];exact aY)];refine ab (ae ?_);refine ab (cC xH qA ?_);have hlen:fs.length=mC.size:=by rw[cN Bj];simp
 have Bb:∀o',Same (cut H F) (cut (upd H d o') F):=λo' c u hc=>by
  obtain⟨q1,q2⟩:=p7 hc;have ne:c≠d:=λz=>q1 (by rw[z];exact zO)
  exact j8 q1 (by rw[f8 ne];exact q2)
 have loop:aD (aX X.prog X.w) A (do
   let wV <-dictEpoch o
   let l <-dictEntries o
   forIn [:l.size] kO λi (_:PUnit)=>(do
     let l' <-dictEntries o
     match l'[i]? with
      |some e=>do
       nU [e.key,e.val] (ll d e.key e.hash e.val)
       let rg <-dictEpoch o
       if (rg !=wV)=p4 then do
         (sF (toString nm++toString ":source-changed-during-callback"):Sem PUnit)
         pure (dQ kO)
        else pure (dQ kO)
      |_=>do
       (sF "internal:dict-merge":Sem PUnit)
       pure (dQ kO):Sem (ForInStep PUnit))
   pure ()) Q E s:=by
  refine ab (jO xH qA ?_);refine ab (cC xH qA ?_);refine ab ?_;rw[Std.Legacy.Range.forIn_eq_forIn_range'];simp only[Std.Legacy.Range.size,Nat.sub_zero,Nat.add_sub_cancel,Nat.div_one];have start:Inv X pins Y (upd H d (c9 d (es++fs.take 0))) s:=by
   have e:upd H d (c9 d (es++fs.take 0))=H:=by
    funext c
    by_cases z:c=d
    ·rw[z,i7,hd];simp
    ·rw[f8 z]
   rw[e];exact I
  refine wpAny_forIn_list _
   (λrest _ s'=>∃i,rest=List.range' i (mC.size-i)/\i<=mC.size/\Inv X pins Y (upd H d (c9 d (es++fs.take i))) s'/\s'.heap.get? o=cz oo)
   _ ?_ ?_ _ _ ⟨0,by simp,cI _,start,xH⟩
  ·rintro x rest b s' ⟨i,hr,hi,I',tM⟩;have il:i<mC.size:=by
    rcases gI i mC.size with h|h
    ·exact h
    ·rw[Nat.sub_eq_zero_of_le h]at hr;simp at hr
   obtain⟨rfl,jC⟩:x=i/\rest=List.range' (i+1) (mC.size-(i+1)):=by
    have e:mC.size-i=(mC.size-(i+1))+1:=by lia
    rw[e,Gj]at hr
    injection hr with h1 h2
    exact⟨h1,h2⟩
   refine ab (cC tM qA ?_);rw[bG il];obtain⟨f,hf⟩:∃f,fs[x]?=cz f:=⟨fs[x]'(by rw[hlen];exact il),ao _⟩;obtain⟨y,hy,hh,rk,rv⟩:=a1X Bj hf;have yP:mC[x]=y:=by
    have:mC.toList[x]?=cz mC[x]:=by simp[il]
    rw[hy]at this;exact (aK this).symm
   show aD _ _ (nU [mC[x].key,mC[x].val] (ll d mC[x].key mC[x].hash mC[x].val) >>= _) _ _ _;rw[yP,hh];have lJ:es++fs=(es++fs.take x)++f::fs.drop (x+1):=by
    have e1:fs=fs.take x++f::fs.drop (x+1):=by
     have rK:=(aU.mp hf);obtain⟨uG,vM⟩:=rK;rw[<-vM,<-fC uG,List.take_append_drop]
    rw[bx,<-e1]
   have KK:KeysAt X (upd H d (c9 d (es++fs.take x))) kt (es++fs.take x) f.1 f.2.1:=
    ⟨λe he=>⟨(hk e (by rw[lJ];exact aJ _ he)).1,((hk e (by rw[lJ];exact aJ _ he)).2.up (Bb _)).up i8⟩,
     (hk f (by rw[lJ];simp)).1,((hk f (by rw[lJ];simp)).2.up (Bb _)).up i8⟩
   have rR:∀e∈es++fs.take x,e.1≠f.1:=λe he z=>by
    rw[lJ,aW,av,bb]at jk;exact jk.2.2 e.1 (bw he) f.1 ah z
   have Br:(es++fs.take x).length<aV:=by
    rw[ba,dZ];lia
   refine ab (bL (a6u (v:=f.2.2) I' hu i7 KK rk rv Br rR λFI Cu sb=>?_));have sO:FI.get? o=cz oo:=(sb.2 o (dA sR)).trans tM;refine ab (jO sO qA ?_);rw[aL (by simp)];refine ae ⟨x+1,jC,il,?_,sO⟩;rw[b4f,bx]at Cu;have e2:fs.take (x+1)=fs.take x++[(f.1,f.2.1,f.2.2)]:=by rw[List.take_add_one,hf];rfl
   rw[e2];exact Cu
  ·rintro b s' ⟨i,hr,hi,I',tM⟩;have jL:i=mC.size:=by
    rcases gI i mC.size with h|h
    ·have e:mC.size-i=(mC.size-(i+1))+1:=by lia
     rw[e,Gj]at hr;exact nomatch hr
    ·exact pC hi h
   rw[jL,<-hlen,kB]at I';exact ae (hQ s' I')
 dsimp only
 split
 ·refine ab (cC Eg wB ?_)
  split
  ·rename_i zI
   have h0:sf=#[]:=Array.isEmpty_iff.mp zI;have:=cN Ea;rw[h0]at this;exact absurd (eF.mp (by simpa using this)) gy
  ·exact loop
 ·exact loop
def b0A(hu:A.units+12<cS)(I:Inv X pins Y H s)(hd:H d=cz (c9 d es))(ho:H o=cz (c9 o fs))(sR:d≠o)(gy:es≠[])(zO:d∈F)
  (hk:∀e∈es++fs,keyOk kt e.1/\Den X.K (cut H F) e.2.1 e.1) (jk:((es++fs).map (·.1)).Nodup) (hsz:es.length+fs.length<=aV) (hQ:∀s',Inv X pins Y (upd H d (c9 d (es++fs))) s'->Q .none s') :
  aD (aX X.prog X.w) A (call (.builtin "dict.update") [.ref d,.ref o]) Q E s:=by
 have hT:=k6 I hd;have uk:=k6 I ho;refine bB so hT PySem.F.entry_dict_update ?_ (PySem.F.args_dict_update_2 _ _);unfold Builtin.«dict.update»;refine ab ?_;unfold lD;refine ab (fI hT ?_);show aD _ _ (pure (d,[aZ o])) _ _ s;refine ae ?_;show aD _ _ (eY "dict.update" d (.ref o) [] .none) _ _ s;unfold eY;refine ab (hU uk ?_);rw[aL (by decide)];refine ab ?_;unfold Builtin.Dict.merge;refine ab ?_;unfold yg;refine ab (fA uk isSubtype_dict_dict ?_);simp only[kl,cW,fO];refine ab (dy uk PySem.F.slot_dict_iter.lookup (ae ?_));simp only[fQ,iX];refine ab (ae ?_);refine b2y (A:=A.in1) I (by show A.units+1+10<cS;lia) hd ho sR gy zO hk jk hsz λs' I'=>?_
 show aD _ _ (Av d [] >>= _) _ _ _;exact ab (ae (ae ⟨.none,rfl,hQ s' I'⟩))
end
section
variable {K:af}{M:List Md}{U:List D}{Y:L2.St}{H P:Hp}{F:List aw}{i j:Nat}{kt:Bool}{u:Ty}
def StR.update(o_:i≠j)(h:StR K M U Y H P F)(hi:M[i]?=cz (.own (.d kt u)))(hj:M[j]?=cz (.own (.d kt u))) :
  ∃F' a b es fs ds fm,Y[i]?=cz (cz (.ref a))/\Y[j]?=cz (cz (.ref b))/\a≠b/\U[i]?=cz (.dict ((es.map (·.1)).zip ds))/\U[j]?=cz (.dict ((fs.map (·.1)).zip fm))/\H a=cz (c9 a es)/\H b=cz (c9 b fs)/\a∈F'/\
   (∀e∈es++fs,keyOk kt e.1/\Den K (cut H F') e.2.1 e.1)/\ds.length=es.length/\fm.length=fs.length/\(es.map (·.1)).Nodup/\(fs.map (·.1)).Nodup/\
   (((es++fs).map (·.1)).Nodup->StR K (M.set j (.keys kt)) (U.set i (.dict (((es++fs).map (·.1)).zip (ds++fm)))) Y (upd H a (c9 a (es++fs))) P F'):=by
 obtain⟨G,h1,h2,h3⟩:=h.all;obtain⟨dj,oj,fj,me,jS,wZ,wY,⟨vj,rfl,Oj⟩,ur,Af⟩:=h1.at_ hj;obtain⟨b,fs,fm,gs,rfl,r_,rfl,rfl,xK,xV,wa,zc⟩:=Oj.dict;rw[ur]at h2;have jw:∀x∈F.filter (λx=>decide (x≠b)),x∈F:=λx hx=>(bg.mp hx).1
 have wG:b∉F.filter (λx=>decide (x≠b)):=λhx=>absurd rfl (aP (bg.mp hx).2)
 have hc:Same (cut H F) (cut H (F.filter (λx=>decide (x≠b)))):=C9 jw;have vo:SlotR K H (F.filter (λx=>decide (x≠b))) (.keys kt) (cz (.ref b)) (.dict ((fs.map (·.1)).zip fm)) []:=
  ⟨rfl,b,fs,_,rfl,rfl,j8 wG r_,(Gn (by rw[au,wa];exact aE _)).symm,λe he=>⟨(xK e he).1,(xK e he).2.up hc⟩⟩
 have q1:=Af H _ (.keys kt) _ (cz (.ref b)) [] (λ_ _=>rfl) hc vo;rw[set_same wZ,set_same wY]at q1;have rS:(M.set j (.keys kt))[i]?=cz (.own (.d kt u)):=by rw[fH (dA o_)];exact hi
 obtain⟨di,oi,f1,lg,jj,Ai,w_,⟨vi,rfl,Oi⟩,Ah,Ag⟩:=q1.at_ rS;obtain⟨a,es,ds,fi,rfl,rf,rfl,rfl,xM,xW,rT,zd⟩:=Oi.dict;have nD:me++jS=lg++((a::fi)++jj):=by simpa using Ah
 have apart:=a1t h2;have iO:∀x∈me++jS,x∈F:=λx hx=>h3 x (by rw[ur];exact mem_mid hx)
 have ot:a∈me++jS:=by rw[nD];simp
 have pI:a≠b:=λz=>apart b ah (by rw[<-z];exact ot)
 have uF:∀x∈F,x≠b->x∈F.filter (λx=>decide (x≠b)):=λx hx hb=>bg.mpr ⟨hx,aA hb⟩
 have mW:a∈F.filter (λx=>decide (x≠b)):=uF a (iO a ot) pI;have nV:∀e∈es++fs,keyOk kt e.1/\Den K (cut H (F.filter (λx=>decide (x≠b)))) e.2.1 e.1:=λe he=>by
  rcases aB.mp he with z|z
  ·exact xM e z
  ·exact⟨(xK e z).1,(xK e z).2.up hc⟩
 refine⟨_,a,b,es,fs,ds,fm,w_,wY,pI,Ai,wZ,rf,r_,mW,nV,rT,wa,zd,zc,λjk=>?_⟩;have lj:Same (cut H (F.filter (λx=>decide (x≠b)))) (cut (upd H a (c9 a (es++fs))) (F.filter (λx=>decide (x≠b)))):=λc o' uP=>by
  obtain⟨r1,r2⟩:=p7 uP;have ne:c≠a:=λz=>r1 (by rw[z];exact mW)
  exact j8 r1 (by rw[f8 ne];exact r2)
 have qm:(lg++((a::fi)++jj)).Nodup:=by rw[<-nD];exact M5 h2
 have qG:a∉fi++jj:=by
  have:=(bb.mp qm).2.1;rw[bp,bt]at this;exact this.1
 have qE:a∉lg:=λz=>(bb.mp qm).2.2 a z a (by simp) rfl
 have uj:a∉gs:=λz=>apart a (ai _ z) ot
 have own:Own K (upd H a (c9 a (es++fs))) (F.filter (λx=>decide (x≠b))) (.d kt u) (.ref a) (.dict (((es++fs).map (·.1)).zip (ds++fm))) (a::(fi++gs)):=by
  simp only[Own];refine⟨a,es++fs,ds++fm,fi++gs,rfl,i7,rfl,rfl,⟨jk,λe he=>⟨(nV e he).1,(nV e he).2.up lj⟩⟩,?_⟩;rw[aW];refine ListAll.append (xW.imp λv d f hf _ q=>q.frame lj u λx hx=>?_) (xV.imp λv d f hf _ q=>q.frame (hc.trans lj) u λx hx=>?_)
  ·exact f8 λz=>qG (aJ _ (by rw[<-z];exact hf x hx))
  ·exact f8 λz=>uj (by rw[<-z];exact hf x hx)
 have q2:=Ag _ _ (.own (.d kt u)) _ (cz (.ref a)) (a::(fi++gs)) (λx hx=>f8 λz=>by
  rcases aB.mp hx with y|y
  ·exact qE (by rw[<-z];exact y)
  ·exact qG (ay _ (by rw[<-z];exact y))) lj ⟨_,rfl,own⟩
 rw[set_same rS,set_same w_]at q2;have wq:gs.Nodup:=by
  have:=(bb.mp h2).2.1;rw[bp,bt]at this;exact (bb.mp this.2).1
 have eG:lg++((a::(fi++gs))++jj)=(lg++(a::fi))++(gs++jj):=by simp
 have eP:me++jS=(lg++(a::fi))++jj:=by rw[nD];simp
 refine⟨⟨_,q2,?_,λx hx=>?_⟩,λx hx=>?_,h.prot.trans (hc.trans lj)⟩
 ·rw[eG];exact a1s (by rw[<-eP];exact M5 h2) wq λx hx z=>apart x (ai _ hx) (by rw[eP];exact z)
 ·rw[eG]at hx;rcases a5m hx with z|z
  ·have kF:x≠b:=λy=>by
    have:=(bb.mp h2).2.1;rw[bp,bt]at this;exact this.1 (aJ _ (by rw[<-y];exact z))
   exact uF x (h3 x (by rw[ur];exact ay _ (aJ _ (ai _ z)))) kF
  ·have rM:x∈me++jS:=by rw[eP];exact z
   exact uF x (iO x rM) λy=>apart b ah (by rw[<-y];exact rM)
 ·by_cases z:x=a
  ·rw[z];exact⟨⟨c9 a (es++fs),trivial⟩,i7⟩
  ·rw[f8 z];exact h.lst x (jw x hx)
end
noncomputable def b0B(i j:Nat):EvS:=λU=>match U.getD i .none,U.getD j .none with
 |.dict kvs,.dict more=>if !kvs.isEmpty&&(more.all λp=>!v6 kvs p.1)&&decide (kvs.length+more.length<=1000000) then cz (.nx (U.set i (.dict (kvs++more)))) else el
 |_,_=>el
section
variable {X:Cx}{w u:Ty}{ML M:List Md}{kt:Bool}{pos apos cw px py:eS}{x y:bC}
def c1z(X:Cx):V->List V->Hp->VK->Prop:=λz xs H Q=>∃p q es fs kt F,z=.ref p/\xs=[.ref q]/\H p=cz (c9 p es)/\H q=cz (c9 q fs)/\p≠q/\es≠[]/\p∈F/\(∀e∈es++fs,keyOk kt e.1/\Den X.K (cut H F) e.2.1 e.1)/\((es++fs).map (·.1)).Nodup/\es.length+fs.length<=aV/\Q .non (upd H p (c9 p (es++fs)))
def b8j(hu:X.A.units+164<cS):MtR X "dict.update" (c1z X):=by
 intro pins s Y H z xs v us Q I rx rv h;obtain⟨p,q,es,fs,kt,F,rfl,rfl,hp,hq,D_,gy,Eb,hk,jk,hsz,qq⟩:=h;cases (show v=aZ p from rx)
 obtain⟨w,rfl,rw⟩:=rv.one;cases (show w=aZ q from rw)
 exact b0A (by lia) I hp hq D_ gy Eb hk jk hsz λs' I'=>⟨.non,_,I',rfl,qq⟩
def b0C(i j:Nat)(o_:i≠j)(hu:X.A.units+164<cS)(hi:M[i]?=cz (.own (.d kt u)):=by rfl)(hj:M[j]?=cz (.own (.d kt u)):=by rfl)(Fv:X.N[i]?=cz x:=by rfl)(Fu:X.N[j]?=cz y:=by rfl)
  (DQ:Vis X.env.scope x:=by first|exact bR rfl|exact bT (bR rfl)|exact bT (bT rfl)) (DO:Vis X.env.scope y:=by first|exact bR rfl|exact bT (bR rfl)|exact bT (bT rfl))
  (qB:(x==("__debug__":bC))=rp:=by decide) (EX:(x==("__classdict__":bC))=rp:=by decide) (ET:(y==("__debug__":bC))=rp:=by decide) (EW:(y==("__classdict__":bC))=rp:=by decide)
  (et:cY (.Name x px) "update" X.env (cn (.Name x px) X.env)=cn (.Name x px) X.env:=by rfl)
  (jZ:((cx cw (ax [.Name y py] X.env)).all (λx=>!x.1)&&(lS cw (iF [] X.env)).all (λx=>x.1.isSome)
   && decide (([.Name y py]:List Expr).length+([]:List gu).length+(if ([]:List gu).isEmpty then 0 else 1)<30))=p4:=by rfl)
  (er:(apos.endLine==cw.line)=p4:=by rfl) (hs:ax [.Name y py] X.env=(rp,cn (.Name y py) X.env)::ax [] X.env:=by rfl) (gc:(cx cw (ax [] X.env)).any (·.1)=rp:=by rfl)
  (n_:fB (.Call (.Attribute (.Name x px) "update" apos) [.Name y py] [] cw) el pos.line X.env=pure rp:=by rfl) :
  PSX X w ML M (.Expr (.Call (.Attribute (.Name x px) "update" apos) [.Name y py] [] cw) pos) (b0B i j) (M.set j (.keys kt)):=by
 refine .mk ⟨_,a0z (a7W so PySem.F.type_dict_update (b8j hu) (C7 Fv DQ qB EX) (m7 (C7 Fu DO ET EW) u7 hs) et jZ er hs gc) n_,λD U Y H P F o S hg k=>?_⟩;obtain⟨F',a,b,es,fs,ds,fm,s1,s2,pI,r1,r2,rf,r_,mW,nV,rT,wa,zd,zc,S'⟩:=S.update o_ hi hj;unfold b0B at hg;rw[y7 r1,y7 r2]at hg;have nu:(if !((es.map (·.1)).zip ds).isEmpty&&(((fs.map (·.1)).zip fm).all λp=>!v6 ((es.map (·.1)).zip ds) p.1)&&decide (((es.map (·.1)).zip ds).length+((fs.map (·.1)).zip fm).length<=1000000) then cz (Out.nx (U.set i (.dict ((es.map (·.1)).zip ds++(fs.map (·.1)).zip fm)))) else el)=cz o:=hg
 split at nu
 ·next c=>
  cases nu
  rw[ak,ak]at c;obtain⟨⟨c1,c2⟩,c3⟩:=c;have l1:((es.map (·.1)).zip ds).length=es.length:=by rw[cZ,au,rT,kP]
  have l2:((fs.map (·.1)).zip fm).length=fs.length:=by rw[cZ,au,wa,kP]
  have Gb:=aP c3;rw[l1,l2]at Gb;have gy:es≠[]:=λz=>by rw[z]at c1;simp at c1
  have jk:((es++fs).map (·.1)).Nodup:=by
   rw[aW,bb];refine⟨zd,zc,λp hp q hq z=>?_⟩;obtain⟨e,he,rfl⟩:=aO.mp hp;obtain⟨f,hf,rfl⟩:=aO.mp hq;obtain⟨n,hn⟩:=bE.mp hf;have il:n<fm.length:=by rw[wa];exact (aU.mp hn).1
   have hm:(f.1,fm[n])∈(fs.map (·.1)).zip fm:=by
    refine bE.mpr ⟨n,?_⟩;rw[gM];exact⟨by rw[a_,hn];rfl,ao il⟩
   have nr:=aT.mp c2 _ hm;have rQ:v6 ((es.map (·.1)).zip ds) f.1=rp:=by simpa using nr
   rw[v9 rT]at rQ;unfold u4 at rQ;rw[cu]at rQ;refine rQ e he ?_;exact (B1 e.1 f.1 (nV e (aJ _ he)).1.1 (nV f (ay _ hf)).1.1).mpr z
  have hz:aV=16777216:=cR;refine⟨.ref a,s1,⟨a,es,rfl,rf⟩,.ref b,s2,⟨a,b,es,fs,kt,F',rfl,rfl,rf,r_,pI,gy,mW,nV,jk,by lia,?_⟩⟩;have S2:=S' jk;rw[aW,kY (by rw[au];exact rT.symm)]at S2;exact k Y _ F' S2
 ·cases nu
end
def StE.getKeys(h:StE K M U Y H P F)(hm:M[j]?=cz (.keys kt)) :
  ∃a es kvs,Y[j]?=cz (cz (.ref a))/\U.getD j .none=.dict kvs/\H a=cz (c9 a es)/\es.map (·.1)=kvs.map (·.1)/\∀e∈es,keyOk kt e.1/\Den K H e.2.1 e.1:=by
 obtain⟨G,h1,h3⟩:=h.all;obtain⟨d,o,f,pre,post,e1,e2,⟨_,a,es,kvs,rfl,rfl,z1,z2,z3⟩,e4,_⟩:=h1.at_ hm;exact⟨a,es,kvs,e2,y7 e1,i8 _ _ z1,z2,λe he=>⟨(z3 e he).1,(z3 e he).2.up i8⟩⟩
section
variable {X:Cx}{M:List Md}{a:Expr}{fa:EvE}{ca:Cat}{kt:Bool}{pos py:eS}{y:bC}
def b5k(j:Nat)(ho:OpR X (bJ op) (a3R X neg))(ha:PX X M a fa ca)(hj:M[j]?=cz (.keys kt):=by rfl)(hN:X.N[j]?=cz y:=by rfl)(hv:Vis X.env.scope y:=by first|exact bR rfl|exact bT (bR rfl)|exact bT (bT rfl))
  (hd:(y==("__debug__":bC))=rp:=by decide) (hc:(y==("__classdict__":bC))=rp:=by decide) (hm:eK op (.Name y py)=rp:=by first|exact a0j _|with_unfolding_all rfl):PTX X M (.Compare a [op] [.Name y py] pos) (tB (e2 (dIn neg kt) fa (b7 j))):=by
 obtain⟨ta,pa,qa⟩:=ha.out;refine .mk ⟨_,a0B ho pa (C7 hN hv hd hc) hm,λU Y H P F k Q S hf q=>?_⟩;obtain⟨d,hf,zt⟩:=bnd hf;cases G5 zt
 obtain⟨x,z,h1,h2,h3⟩:=z7 hf;cases h2
 refine qa U Y H P F x _ S h1 λv H1 e1 r1=>?_
 obtain⟨p,es,kvs,s1,hr,hH,hk,nV⟩:=(S.grow e1).getKeys hj;rw[hr]at h3;obtain⟨Dv,e3,EC,e4⟩:=a6o h3;cases e3
 refine⟨.ref p,s1,p,es,kt,x,rfl,hH,⟨nV,u9 EC,r1.den⟩,?_⟩;rw[<-Y7 hk];cases e4
 exact⟨_,rfl,q H1 e1⟩
end
def b2z(neg:Bool):D->D->Option D
 |y,.list ds=>if aM ds&&y.canLay0&&decide (y.depth<=150) then cz (.bool (neg !=ds.any λd=>aC d y)) else el
 |_,_=>el
def c0d(K:af)(neg:Bool):R2:=λx y H Q=>∃p ys ds d,y=.ref p/\SqX K H p ys/\DenAll K H ys ds/\Den K H x d/\aM ds=p4/\d.canLay0=p4/\d.depth<=150/\Q (.bl (neg !=ds.any λe=>aC e d)) H
def b8k:∀{l:List D} {e:D},aM l=p4->e∈l->e.canLay0=p4:=by
 intro l
 induction l with
 |nil=>intro e _ he;cases he
 |cons x l ih=>
  intro e hl he;simp only[aM,ak]at hl;rcases az.mp he with z|z
  ·rw[z];exact hl.1
  ·exact ih hl.2 z
section
variable {X:Cx}
def b0D{s:ar}:∀{ds:List D} {us:List aj} {as:List aw},i_ s.heap us ds as->aM ds=p4->us.any (b0r s.heap d)=ds.any λe=>aC e d:=by
 intro ds
 induction ds with
 |nil=>intro us as r _;cases r;rfl
 |cons d0 ds ih=>
  intro us as r hl;simp only[aM,ak]at hl;cases r with
  |cons r1 r2=>rw[mE,mE,ih r2 hl.2,a2r r1 hl.1]
def b0E(hu:X.A.units+164<cS):OpR X (bJ .NotIn) (c0d X.K p4):=by
 intro pins s Y H x y v u Q I rx ry h;obtain⟨p,ys,ds,d,rfl,hp,ud,hd,c1,c2,c3,q⟩:=h;cases (show u=aZ p from ry)
 obtain⟨_,cE,n,qW,ho⟩:=hp.ok I;obtain⟨as,ra⟩:=DenAll.reads I ds c1 ud qW;obtain⟨bs,rb⟩:=Den.reads I d c2 hd rx;refine SeqAt.notIn_listAt (items:=cE.toArray) (b0r s.heap d) ⟨_,ho,rfl,n,rfl⟩ (λu qY=>?_) ⟨.bl _,H,I,rfl,?_⟩
 ·obtain⟨j,hj⟩:=bE.mp (show u∈cE by simpa using qY);obtain⟨e,Am,he,re⟩:=U0 ra hj;have hle:=b8k c1 (bo he);rw[a2r re hle];exact sj e d X.A.in1 s _ _ _ _ re rb hle c2 (by have:=Gh e.depth d.depth;show X.A.units+1+_<_;lia)
 ·rw[List.any_toArray,b0D ra c1];simpa using q
def b8l(ho:OpR X f (c0d X.K neg)):OpS X f (b2z neg):=by
 refine⟨_,ho,λx y H a b d Q ha hb hg q=>?_⟩;cases b with
 |list ds=>
  have nu:(if aM ds&&a.canLay0&&decide (a.depth<=150) then cz (dw (neg !=ds.any λd=>aC d a)) else el)=cz d:=hg;by_cases c:(aM ds&&a.canLay0&&decide (a.depth<=150))=p4
  ·rw[aG c]at nu;cases nu
   rw[ak,ak]at c;obtain⟨p,ys,rfl,k1,k2⟩:=hb.list_inv;exact⟨p,ys,ds,a,rfl,k1,k2,ha,c.1.1,c.1.2,aP c.2,q _ (by simp only[imm]) λ_=>den_bool⟩
  ·rw[aL c]at nu;cases nu
 |_=>cases hg
def b0F(hu:X.A.units+164<cS):OpS X (bJ .NotIn) (b2z p4):=b8l (b0E hu)
end
def frz:Md->Md
 |.own .i=>.own .i
 |.own _=>.own .f
 |m=>m
def b2A(h:SlotR K H F m o d f):SlotR K H [] (frz m) o d []:=by
 have hc:Same (cut H F) (cut H []):=λa x ha=>j8 (by simp) (i8 a x ha)
 have key:∀u:Ty,(∃v,o=cz v/\Own K H F u v d f)->SlotR K H [] (.own .f) o d []:=λu ⟨v,e,q⟩=>⟨v,e,by
  have hd:Den K H v d:=q.den;simp only[Own];exact⟨trivial,hd.up λa x ha=>j8 (by simp) ha⟩⟩
 cases m with
 |dead=>rfl
 |own u=>
  cases u with
  |i=>
   obtain⟨v,e,q⟩:=h;refine⟨v,e,?_⟩;simp only[Own]at q ⊢;exact⟨trivial,q.2.1,q.2.2.up hc⟩
  |f=>exact key _ h
  |l u=>exact key _ h
  |tp us=>exact key _ h
  |d kt u=>exact key _ h
 |exc=>obtain⟨_,h2⟩:=h.frame (H':=H) (F':=[]) hc λ_ _=>rfl;exact⟨rfl,h2⟩
 |keys kt=>obtain⟨_,h2⟩:=h.frame (H':=H) (F':=[]) hc λ_ _=>rfl;exact⟨rfl,h2⟩
 |pin v=>exact⟨rfl,h.2⟩
 |fn Φ=>obtain⟨_,h2⟩:=h.frame (H':=H) (F':=[]) hc λ_ _=>rfl;exact⟨rfl,h2⟩
theorem a4w:∀{M:List Md} {U:List D} {Y:L2.St} {G:List aw},StAll K H F M U Y G->StAll K H [] (M.map frz) U Y []
 |[],_,_,_,h=>by simp only[StAll]at h;obtain⟨rfl,rfl,_⟩:=h;exact M4
 |m::M,_,_,_,h=>by
  simp only[StAll]at h;obtain⟨d,U,o,Y,f,g,rfl,rfl,rfl,h1,h2⟩:=h;exact l6 (f:=[]) (g:=[]) (b2A h1) (a4w h2)
section
variable {K:af}{M:List Md}{U:List D}{Y:L2.St}{H P:Hp}{F:List aw}{i j:Nat}{t:Ty}{ds es:List D}
def StR.extendL(o_:i≠j)(h:StR K M U Y H P F)(hi:M[i]?=cz (.own (.l t)))(hj:M[j]?=cz (.own (.l t)))(vG:U.getD i .none=.list ds)(vF:U.getD j .none=.list es) :
  ∃a b xs zs,Y[i]?=cz (cz (.ref a))/\Y[j]?=cz (cz (.ref b))/\H a=cz (.lst xs)/\H b=cz (.lst zs)/\xs.length=ds.length/\zs.length=es.length/\StR K (M.set j .dead) (U.set i (.list (ds++es))) Y (upd H a (.lst (xs++zs))) P F/\Den K (upd H a (.lst (xs++zs))) (.ref b) (.list es):=by
 obtain⟨G,h1,h2,h3⟩:=h.all;obtain⟨dj,oj,fj,me,jS,wZ,wY,⟨vj,rfl,Oj⟩,ur,Af⟩:=h1.at_ hj;rw[y7 wZ]at vF;subst vF;simp only[Own]at Oj;rcases Oj with⟨_,kE,_⟩|⟨b,zs,fm,gs,rfl,r_,kG,rfl,xV⟩
 ·simp only[imm]at kE;cases kE
 cases kG
 rw[ur]at h2;have q1:=Af H F .dead (.list es) (cz (.ref b)) [] (λ_ _=>rfl) (Same.refl _) rfl;rw[set_same wZ,set_same wY]at q1;have rS:(M.set j .dead)[i]?=cz (.own (.l t)):=by rw[fH (dA o_)];exact hi
 obtain⟨di,oi,f1,lg,jj,Ai,w_,⟨vi,rfl,Oi⟩,Ah,Ag⟩:=q1.at_ rS;rw[y7 Ai]at vG;subst vG;simp only[Own]at Oi;rcases Oi with⟨_,kE,_⟩|⟨a,xs,iy,fi,rfl,rf,lE,rfl,xW⟩
 ·simp only[imm]at kE;cases kE
 cases lE
 have nD:me++jS=lg++((a::fi)++jj):=by simpa using Ah
 have apart:=a1t h2;have iO:∀x∈me++jS,x∈F:=λx hx=>h3 x (by rw[ur];exact mem_mid hx)
 have ot:a∈me++jS:=by rw[nD];simp
 have pI:a≠b:=λz=>apart b ah (by rw[<-z];exact ot)
 have mW:a∈F:=iO a ot;have lj:Same (cut H F) (cut (upd H a (.lst (xs++zs))) F):=λc o' uP=>by
  obtain⟨r1,r2⟩:=p7 uP;have ne:c≠a:=λz=>r1 (by rw[z];exact mW)
  exact j8 r1 (by rw[f8 ne];exact r2)
 have qm:(lg++((a::fi)++jj)).Nodup:=by rw[<-nD];exact M5 h2
 have qG:a∉fi++jj:=by
  have:=(bb.mp qm).2.1;rw[bp,bt]at this;exact this.1
 have qE:a∉lg:=λz=>(bb.mp qm).2.2 a z a (by simp) rfl
 have uj:a∉gs:=λz=>apart a (ai _ z) ot
 have LB:ListAll (Own K (upd H a (.lst (xs++zs))) F t) zs es gs:=xV.imp λv d f hf _ q=>q.frame lj t λx hx=>f8 λz=>uj (by rw[<-z];exact hf x hx)
 have LA:ListAll (Own K (upd H a (.lst (xs++zs))) F t) xs ds fi:=xW.imp λv d f hf _ q=>q.frame lj t λx hx=>f8 λz=>qG (aJ _ (by rw[<-z];exact hf x hx))
 have own:Own K (upd H a (.lst (xs++zs))) F (.l t) (.ref a) (.list (ds++es)) (a::(fi++gs)):=by
  simp only[Own];exact .inr ⟨a,xs++zs,ds++es,fi++gs,rfl,i7,rfl,rfl,LA.append LB⟩
 have q2:=Ag _ _ (.own (.l t)) (.list (ds++es)) (cz (.ref a)) (a::(fi++gs)) (λx hx=>f8 λz=>by
  rcases aB.mp hx with y|y
  ·exact qE (by rw[<-z];exact y)
  ·exact qG (ay _ (by rw[<-z];exact y))) lj ⟨_,rfl,own⟩
 rw[set_same rS,set_same w_]at q2;have mO:∀x,(me++jS).count x=(lg++((a::fi)++jj)).count x:=λx=>by rw[nD]
 refine⟨a,b,xs,zs,w_,wY,rf,r_,xW.length,xV.length,⟨⟨_,q2,N4 h2 λx=>?_,λx hx=>?_⟩,λx hx=>?_,h.prot.trans lj⟩,den_list (.inl (.inl (by rw[f8 (dA pI)];exact r_))) (ListAll.den (λv d f q=>q.den) LB)⟩
 ·have:=mO x;simp only[bj,bp,c_]at this ⊢;lia
 ·have rM:x∈lg++((a::fi)++jj)\/x∈gs:=by
   simp only[aB,az,bp]at hx ⊢;rcases hx with z|z|(z|z)|z
   ·exact .inl (.inl z)
   ·exact .inl (.inr (.inl z))
   ·exact .inl (.inr (.inr (.inl z)))
   ·exact .inr z
   ·exact .inl (.inr (.inr (.inr z)))
  rcases rM with z|z
  ·exact iO x (by rw[nD];exact z)
  ·exact h3 x (by rw[ur];simp[z])
 ·by_cases z:x=a
  ·exact⟨⟨.lst (xs++zs),trivial⟩,by rw[z,i7]⟩
  ·rw[f8 z];exact h.lst x hx
end
noncomputable def a9g(i:Nat)(f:EvE):EvS:=λU=>(f U).bind λd=>match d,U.getD i .none with
 |.list es,.list ds=>if ds.length+es.length<=1000000 then cz (.nx (U.set i (.list (ds++es)))) else el
 |_,_=>el
section
variable {X:Cx}{t w:Ty}{ML M:List Md}{e:Expr}{f:EvE}{pos apos cw:eS}{x:bC}{px:eS}
def b5l(i:Nat)(he:PX X M e f (.new (.l t)))(hm:M[i]?=cz (.own (.l t)):=by rfl)(hN:X.N[i]?=cz x:=by rfl)(hv:Vis X.env.scope x:=by first|exact bR rfl|exact bT (bR rfl)|exact bT (bT rfl))(hd:(x==("__debug__":bC))=rp:=by decide)
  (iG:(x==("__classdict__":bC))=rp:=by decide)
  (et:cY (.Name x px) "extend" X.env (cn (.Name x px) X.env)=cn (.Name x px) X.env:=by rfl)
  (jZ:((cx cw (ax [e] X.env)).all (λx=>!x.1)&&(lS cw (iF [] X.env)).all (λx=>x.1.isSome)
   && decide ([e].length+([]:List gu).length+(if ([]:List gu).isEmpty then 0 else 1)<30))=p4:=by rfl)
  (er:(apos.endLine==cw.line)=p4:=by rfl) (hs:ax [e] X.env=(rp,cn e X.env)::ax [] X.env:=by rfl) (gc:(cx cw (ax [] X.env)).any (·.1)=rp:=by rfl)
  (n_:fB (.Call (.Attribute (.Name x px) "extend" apos) [e] [] cw) el pos.line X.env=pure rp:=by rfl) :
  PSX X w ML M (.Expr (.Call (.Attribute (.Name x px) "extend" apos) [e] [] cw) pos) (a9g i f) M:=by
 obtain⟨te,pe,qe⟩:=he.out;refine .mk ⟨_,a0z (b1M ie PySem.F.slot_list_extend PySem.F.type_list_extend a9T (C7 hN hv hd iG) (m7 pe u7 hs) et jZ er hs gc) n_,λD U Y H P F o S hg k=>?_⟩;obtain⟨d,h3,g3⟩:=bnd hg;have hl:∃es ds,d=.list es/\U.getD i .none=.list ds/\ds.length+es.length<=1000000/\o=.nx (U.set i (.list (ds++es))):=by
  cases d with
  |list es=>
   cases hr:U.getD i iK with
   |list ds=>
    rw[hr]at g3;have mX:(if ds.length+es.length<=1000000 then cz (Out.nx (U.set i (.list (ds++es)))) else el)=cz o:=g3;by_cases c:ds.length+es.length<=1000000
    ·rw[aG c]at mX;exact⟨es,ds,rfl,rfl,c,(aK mX).symm⟩
    ·rw[aL c]at mX;cases mX
   |_=>rw[hr]at g3;cases g3
  |_=>cases g3
 obtain⟨es,ds,rfl,hr,hz,rfl⟩:=hl;obtain⟨v0,f0,e0,o0,CL⟩:=S.toE.get hm;rw[hr]at o0;simp only[Own]at o0;rcases o0 with⟨_,hi,_⟩|⟨b,xs,iy,fs,rfl,hH,lE,rfl,hL⟩
 ·simp only[imm]at hi;cases hi
 cases lE
 refine⟨.ref b,e0,.inl ⟨rfl,xs,SqL.of hH⟩,qe U Y H P F _ _ S.toE h3 λv1 H1 e1 ⟨fp,o1,nd,fr⟩=>?_⟩;obtain⟨_,_,S1⟩:=S.pend.new e1 o1 nd fr;have Gc:StR X.K (.own (.l t)::M) (.list es::U) (cz v1::Y) H1 P (fp++F):=S1;obtain⟨a,b',yk,Aw,yN,yM,rf,r_,l1,l2,S4,_⟩:=Gc.extendL (i:=i+1) (j:=0) (by lia) (by simpa using hm) rfl (by simpa using hr) rfl;have ea:b=a:=by
  have:(cz (cz (V.ref b)):Option (Option V))=cz (cz (.ref a)):=by rw[<-e0];simpa using yN
  cases this;rfl
 subst ea;cases (show (cz (cz v1):Option (Option V))=cz (cz (.ref b')) from yM)
 have vL:yk=xs:=by rw[e1 _ _ hH]at rf;cases rf;rfl
 subst vL;have hsz:aV=16777216:=cR;refine⟨b,b',yk,Aw,rfl,rfl,rf,r_,by lia,k Y _ (fp++F) ?_⟩;obtain⟨G,q1,q2,q3⟩:=S4.all;have AH:StAll X.K (upd H1 b (.lst (yk++Aw))) (fp++F) (.dead::M) (.list es::U.set i (.list (ds++es))) (cz (.ref b')::Y) G:=q1;simp only[StAll]at AH;obtain⟨d,U',o',Y',f',g',z1,z2,rfl,z4,z5⟩:=AH;cases z1
 cases z2
 have Cz:f'=[]:=z4;subst Cz;exact⟨⟨g',z5,by simpa using q2,λa ha=>q3 a (by simpa using ha)⟩,S4.lst,S4.prot⟩
end
section
variable {X:Cx}{M ML:List Md}{u:Ty}{e:Expr}{f:EvE}{pos:eS}
def StR.free(S:StR K M U Y H P F)(hM:M.map frz=M):StR K M U Y H P []:=by
 obtain⟨G,h1,_,_⟩:=S.all;have:=a4w h1;rw[hM]at this;exact⟨⟨[],this,bu,λa ha=>(nomatch ha)⟩,λa ha=>(nomatch ha),S.prot.trans λa x ha=>j8 (by simp) (i8 a x ha)⟩
end
end VS
namespace PySem
open Sem (wp)
set_option maxRecDepth 100000
def Heap.RawDict(hp:bQ)(d:aw)(rows:Array eX)(ep:Nat):Prop:=∃u,hp.get? d=cz u/\u.ExactDict/\u.data=.dict rows ep
section
variable {prog:bz}{w:bI}{A:bD}{E:aj->ar->Prop}{sh:ar}{d it:aw}{rows:Array eX}{ep i:Nat}
def Heap.RawDict.at{h h':bQ}(x:h.RawDict d rows ep)(e:∀o,h.get? d=cz o->h'.get? d=cz o):h'.RawDict d rows ep:=let⟨u,hu,r⟩:=x;⟨u,e _ hu,r⟩
def Heap.RawDict.typeIs(x:sh.heap.RawDict d rows ep):sh.TypeIs (.ref d) "dict":=let⟨u,hu,r,_⟩:=x;⟨u,hu,r.1⟩
def a6v(h0:(d==cU)=rp)(hm:sh.heap.RawDict d rows ep)
  (q:Q (.ref sh.heap.objs.size) {sh with heap:=sh.heap.push {cls:=.type "dict_keyiterator",data:=.fields #[.ref d,.int 0 0,.int rows.size 0,.int ep 0]}}) :
  aD (aX prog w) A (rG (.ref d)) Q E sh:=by
 obtain⟨u,hu,hx,mh⟩:=id hm;refine pO hm.typeIs sx (bB sx hm.typeIs F.entry_dict_iter ?_ (F.args_dict_iter_1 _));unfold Builtin.«dict.__iter__»;refine ab ?_;unfold Builtin.Dict.dictSlotNone;refine ab (fI hm.typeIs ?_);show aD _ _ (pure (aZ d)) _ _ sh;refine ae ?_;show aD _ _ (jt d >>= _) _ _ sh;unfold jt;rw[aL (by rw[h0];exact aY)];refine ab (ae (ab (cC hu mh (ab (jO hu mh ?_)))));refine ab (dh (ae ⟨_,rfl,"dict_keyiterator",_,⟨_,aH _ rfl,rfl⟩,e_.lookup,?_⟩));simpa[de]using q
def a6w(hI:sh.heap.IsKeyIter it d i rows.size ep)(hm:sh.heap.RawDict d rows ep)(hi:i<rows.size)
  (q:∀h',h'.IsKeyIter it d (i+1) rows.size ep->cD it sh.heap h'->Q (cz rows[i].key) {sh with heap:=h'}):aD (aX prog w) A (fT (.ref it)) Q E sh:=by
 obtain⟨x,hx,rL,l_⟩:=id hI;obtain⟨u,hu,_,oB⟩:=id hm;unfold fT;refine ab (gG (bH (name:=cf "__next__") hI.typeIs e_ (bB e_ hI.typeIs tu ?_ (sy _))));refine ab (ae (ab (ab ?_)))
 first|refine ab (gf hI.typeIs (ae ?_))|refine ab (ir hI.typeIs (ae ?_))
 refine ab (iY hx l_ ?_);simp only[show uz "dict_keyiterator"=rp from by decide,cW,fO];show aD _ _ (if (aZ d==cj)=p4 then _ else _) _ _ sh;rw[aL (show ¬ (aZ d==cj)=p4 from aY)];refine ab (ae (ab (cC hu oB ?_)));rw[aL (by simp)];refine ab (ae (ab (jO hu oB ?_)));rw[aL (by simp)];refine ae ?_;simp only[show ¬ (i:Int)<0 from by lia,fO,bU,bG hi];refine ab ?_
 first|refine ab (gf hI.typeIs (ae ?_))|refine ab (ir hI.typeIs (ae ?_))
 refine ab (Gv hI.typeIs ?_);show aD _ _ (setField (.ref it) 1 (de ((i:Int)+1)) >>= _) _ _ sh;refine ab (eN hx l_ (by simp) ?_);have sS:(sh.heap.update it (Ar (·.setIfInBounds 1 (de ((i:Int)+1))))).IsKeyIter it d (i+1) rows.size ep:=
  ⟨_,bS _ hx (mT (gq l_ _)),(qU ..).trans rL,by rw[gq l_];simp[de]⟩
 refine ab (bL ?_);refine ab (Gv (s:={sh with heap:=sh.heap.update it (Ar (·.setIfInBounds 1 (de ((i:Int)+1))))}) sS.typeIs ?_);show aD _ _ (pure rows[i].key) _ _ _;exact ae (ae ⟨_,rfl,ae (q _ sS (bP ..))⟩)
def a6x(hh:A.handled=el)(hI:sh.heap.IsKeyIter it d i rows.size ep)(hm:sh.heap.RawDict d rows ep)(hi:rows.size<=i)
  (q:∀h',tm it sh.heap h'->Q el {sh with heap:=h'}):aD (aX prog w) A (fT (.ref it)) Q E sh:=by
 obtain⟨x,hx,rL,l_⟩:=id hI;obtain⟨u,hu,_,oB⟩:=id hm;unfold fT;refine ab (gG (bH (name:=cf "__next__") hI.typeIs e_ (bB e_ hI.typeIs tu ?_ (sy _))));refine ab (ae (ab (ab ?_)))
 first|refine ab (gf hI.typeIs (ae ?_))|refine ab (ir hI.typeIs (ae ?_))
 refine ab (iY hx l_ ?_);simp only[show uz "dict_keyiterator"=rp from by decide,cW,fO];show aD _ _ (if (aZ d==cj)=p4 then _ else _) _ _ sh;rw[aL (show ¬ (aZ d==cj)=p4 from aY)];refine ab (ae (ab (cC hu oB ?_)));rw[aL (by simp)];refine ab (ae (ab (jO hu oB ?_)));rw[aL (by simp)];refine ae ?_;simp only[show ¬ (i:Int)<0 from by lia,fO,bU,eU hi];refine ab ?_
 first|refine ab (gf hI.typeIs (ae ?_))|refine ab (ir hI.typeIs (ae ?_))
 show aD _ _ (setField (.ref it) 0 .none >>= _) _ _ sh;refine ab (eN hx l_ (by simp) ?_);show aD _ _ (Dm (.type "StopIteration") [] >>= _) _ _ _;refine ab ?_;simp only[Dm,newTuple];refine ab (dh ?_ (by size_fits));refine ab (m:=iZ _ _) (sC (a:=cj) (by first|rfl|(simp only[iZ];rfl)) ?_);refine dh ?_ (by size_fits);simp only[raiseNew];refine ab (yp ?_);rw[show A.in1.handled=el from hh];refine ab (ae (wpAny_throw ?_));refine ab (fA (b:=p4) (T:="StopIteration") ⟨_,aH _ rfl,rfl⟩ vC ?_);exact ae (q _ (((bP ..).extBut.push _).push _))
def b0G(hh:A.handled=el)(gy:d≠it):Walks prog w A it [it,d] [it] rows.size (λi v=>∃e,rows[i]?=cz e/\v=e.key) (λi h=>h.IsKeyIter it d i rows.size ep/\h.RawDict d rows ep) where
 sub:=λb hb=>az.mpr (.inl (aq.mp hb))
 frame:=λ_ _ _ st hk=>⟨st.1.at λo e=>hk it ah o e,st.2.at λo e=>hk d (ai _ ah) o e⟩
 item:=λi s Q E hi st q=>a6w st.1 st.2 hi λh' hI hs=>q _ h' s.toks ⟨rows[i],bG hi,rfl⟩ ⟨hI,st.2.at λo e=>hs.extBut d o gy e⟩ λb o hb e=>hs.extBut b o (λz=>hb (by rw[z];exact aq.mpr rfl)) e
 done:=λs Q E st q=>a6x hh st.1 st.2 (aE _) λh' he=>q h' s.toks λb o hb e=>he b o (λz=>hb (by rw[z];exact aq.mpr rfl)) e
 self:=λ_ _ _ _ st q=>wpAny_pyIter_keyiter st.1 q
def b5m(h0:(d==cU)=rp):W.KdlSrc prog w "dict" d d rows.size (λi v=>∃e,rows[i]?=cz e/\v=e.key) (λh=>h.RawDict d rows ep) where
 type:=λ_ hm=>hm.typeIs
 there:=λh hm=>let⟨_,hu,_⟩:=hm;⟨aI hu,aI hu⟩
 keep:=λ_ _ hm hk=>hm.at λo e=>hk d (.inl rfl) o e
 notList:=by decide
 notTuple:=by decide
 hint:=λ_ _ s _ hm q=>W.kdl_hint_dict (Heap.RawDict.typeIs (sh:=s) hm) q
 iter:=λ_ _ hh hm=>⟨_,_,(λ_ _ q=>a6v h0 hm q),b0G hh (let⟨_,hu,_⟩:=hm;bc (aI hu)),⟨⟨_,aH _ rfl,rfl,rfl⟩,hm.at λ_ e=>ag _ e⟩⟩
end
end PySem
namespace VS
open PySem PySem.Spec L2
open PyProof.Rows (KeyOrd SortKind SortSt keyKind' keyLt' seqObj listItems_at listUpdate_at seqEpoch_at arrOf failedOf get?_update_seq list_sort_plain general' tuples' size_push' slot_list_sort entry_list_sort args_list_sort kind_sorted plain_sorted entry_sorted args_sorted1)
open PySem.W (kas_sort kas_ask kas_item kat_run kat_snds)
section
variable {prog:bz}{w:bI}{A:bD}{E:aj->ar->Prop}{sh:ar}{vs:List aj}{κ:rj}{O:KeyOrd}{key:Nat->O.α}
def Kept(h h':bQ):Prop:=∀b o,h.get? b=cz o->h'.get? b=cz o
theorem Kept.push(x:Kept h h')(o:fM):Kept h (h'.push o):=λb u e=>ag _ (x b u e)
structure Sortable (prog:bz) (w:bI) (A:bD) (h0:bQ) (ks:List aj) (κ:rj) (O:KeyOrd) (key:Nat->O.α):Prop where
 kind:2<=ks.length->∀(s:ar) (E:aj->ar->Prop) (Q:rj->ar->Prop),Kept h0 s.heap->Q κ s->aD (aX prog w) A (keyKind' ks.toArray) Q E s
 lt:∀(s:ar) (i j:Nat) (C:Bool->ar->Prop),Kept h0 s.heap->i<ks.length->j<ks.length->C (O.blt (key i) (key j)) s->aD (aX prog w) A (keyLt' κ (ks.getD i cj) (ks.getD j cj)) C (λ_ _=>False) s
end
end VS
namespace VS
open PySem PySem.Spec L2
open PyProof.Rows (IntsAre seqObj)
def W9:∀{ns:List Int} {xs:List V},DenAll K H xs (ns.map .int)->xs=ns.map V.int:=by
 intro ns
 induction ns with
 |nil=>intro xs h;exact h.nil_inv
 |cons n ns ih=>
  intro xs h;obtain⟨v,r,rfl,h1,h2⟩:=h.cons_inv;rw[h1.int_inv,ih h2];rfl
section
variable {X:Cx}{pins:List (aw×fM)}{Y:L2.St}{H:Hp}{s:ar}
def a3S:∀{l:List α} {p:List Nat},p.Perm (aQ l.length)->(p.map λi=>l.getD i d).Perm l:=by
 intro l p h;refine (h.map _).trans (List.Perm.of_eq ?_);refine nQ λi=>?_
 rw[a_];by_cases c:i<l.length
 ·rw[mn c,Ho,ao c,aN,ao c];rfl
 ·rw[dW (by simpa using c),dW (by simpa using c)];rfl
end
section
variable {X:Cx}{M:List Md}{a:Expr}{fa:EvE}{ca:Cat}{pos p:eS}
theorem X0:∀{kvs:List (D×D)} {es:List (D×V×V)},DenKV K H es kvs->DenAll K H (es.map (·.2.1)) (kvs.map (·.1))
 |[],es,h=>by
  simp only[DenKV]at h;subst h;exact denAll_nil
 | (k,d)::r,es,h=>by
  simp only[DenKV]at h;obtain⟨e,q,rfl,h2,h3,h4,h5⟩:=h;exact denAll_cons h3 (X0 h5)
end
end VS
namespace VS
open PySem PySem.Spec L2
section
variable {K:af}{H:Hp}{F:List aw}{kt:Bool}{u:Ty}
def R4(mW:a∈F)(o:HO):Same (cut H F) (cut (upd H a o) F):=λb o' hb=>by
 obtain⟨n1,n2⟩:=p7 hb;exact j8 n1 (by rw[f8 (show b≠a from λz=>n1 (z▸mW))];exact n2)
def a6y(o:Own K H F (.d kt u) (.ref a) (.dict kvs) f)(rX:∀b∈f,b∈F)(jk:(fv++f).Nodup)(hk:keyOk kt k)(we:Den K (cut H F) kv k)(ov:Own K H F u v d fv) :
  ∃es,H a=cz (c9 a es)/\(∀e∈es,keyOk kt e.1/\Den K (cut H F) e.2.1 e.1)/\es.length=kvs.length/\a∈f/\∃f',Own K (upd H a (c9 a (P9 es k kv v))) F (.d kt u) (.ref a) (.dict (n9 kvs k d)) f'/\∀b,f'.count b<=f.count b+fv.count b:=by
 obtain⟨a',es,ds,fs,ea,r2,r3,rfl,r5,r6,hl,hn⟩:=o.dict;cases ea
 injection r3 with r3
 subst r3;have mW:a∈F:=rX a ah;have fN:∀o,Same (cut H F) (cut (upd H a o) F):=R4 mW;have cnt:fs.count a=0/\fv.count a=0:=by
  have:=cJ.mp jk a;simp only[bj,gF]at this;exact⟨by lia,by lia⟩
 have kk:∀(l:List aw) (o:HO),l.count a=0->∀b∈l,upd H a o b=H b:=λl o hc b hb=>f8 λz=>by
  subst z;rw[dH]at hc;exact hc hb
 have iP:∀e∈es,aC e.1 k=p4↔e.1=k:=λe he=>B1 e.1 k (r5 e he).1.1 hk.1
 have hlen:es.length=((es.map (·.1)).zip ds).length:=by rw[cZ,au,hl,kP]
 refine⟨es,r2,r5,hlen,ah,?_⟩;have fin:∀(fm:List (D×V×V)) (iy:List D) (ko:List aw),(fm.map (·.1)).Nodup->(∀e∈fm,keyOk kt e.1/\Den K (cut H F) e.2.1 e.1)->ListAll (Own K (upd H a (c9 a fm)) F u) (fm.map (·.2.2)) iy ko->(∀b,ko.count b<=fs.count b+fv.count b)->
   ∃f',Own K (upd H a (c9 a fm)) F (.d kt u) (.ref a) (.dict ((fm.map (·.1)).zip iy)) f'/\∀b,f'.count b<=(a::fs).count b+fv.count b:=λfm iy ko tQ q_ ha mO=>by
  refine⟨a::ko,?_,λb=>?_⟩
  ·simp only[Own];exact⟨a,fm,iy,ko,rfl,i7,rfl,rfl,⟨tQ,λe he=>⟨(q_ e he).1,(q_ e he).2.up (fN _)⟩⟩,ha⟩
  ·have:=mO b;simp only[c_];lia
 cases hf:u4 es k with
 |false=>
  rw[a2T hf,a4s (by rw[v9 hl];exact hf),<-W8 (kv:=kv) (v:=v) hl];refine fin (es++[(k,kv,v)]) (ds++[d]) (fs++fv) ?_ ?_ ?_ λb=>by rw[bj];exact aE _
  ·rw[aW,bb];refine⟨hn,by simp,λx hx y hy e=>?_⟩;simp only[av,cB,aq]at hy;subst hy;subst e;obtain⟨e,he,rfl⟩:=aO.mp hx;unfold u4 at hf;rw[cu]at hf;exact hf e he ((iP e he).mpr rfl)
  ·intro e he;rcases aB.mp he with z|z
   ·exact r5 e z
   ·rw[aq.mp z];exact⟨hk,we⟩
  ·rw[aW];refine (n6 (fN _) r6 (kk _ _ cnt.1)).append ?_;have:=m4 (R:=Own K (upd H a (c9 a (es++[(k,kv,v)]))) F u) (ov.frame (fN _) u (kk _ _ cnt.2)) n5
   rwa[bK]at this
 |true=>
  have hh:=hf;unfold u4 at hf;rw[cP]at hf;obtain⟨e,he,fJ⟩:=hf;have qz:=(iP e he).mp fJ;obtain⟨j,hj⟩:=bE.mp he;have rV:j<ds.length:=by rw[hl];exact (aU.mp hj).1
  have mN:P9 es k kv v=es.map λe=>if aC e.1 k then (e.1,e.2.1,v) else e:=by unfold P9;rw[hh];rfl
  have nk:n9 ((es.map (·.1)).zip ds) k d=(es.map (·.1)).zip (ds.set j d):=by
   unfold n9;rw[v9 hl,hh];exact O6 (v:=v) hl iP hn hj qz
  have nt:(P9 es k kv v).map (·.1)=es.map (·.1):=by rw[mN];exact a2U
  rw[nk,<-nt];obtain⟨w3,f3,a1,a2,s1,s2,qN,s4⟩:=r6.zip (ao rV);have pW:(P9 es k kv v).map (·.2.2)=(es.map (·.2.2)).set j v:=by
   rw[mN];exact a2W hn iP hj qz
  refine fin (P9 es k kv v) (ds.set j d) (a1++(fv++a2)) (by rw[nt];exact hn) ?_ ?_ λb=>by rw[qN];simp only[bj];lia
  ·intro e' kG;rw[mN]at kG;obtain⟨e0,wy,rfl⟩:=aO.mp kG
   split
   ·exact r5 e0 wy
   ·exact r5 e0 wy
  ·rw[pW];have c5:(a1++a2).count a=0:=by have:=cnt.1;rw[qN]at this;simp only[bj]at this ⊢;lia
   exact s4 _ F v d fv (kk _ _ c5) (fN _) (ov.frame (fN _) u (kk _ _ cnt.2))
def StR.dval(S:StR K M U Y H P F)(hm:M[i]?=cz (.own (.d kt u)))(hk:keyOk kt k) :
  ∃a0 es ds,Y[i]?=cz (cz (.ref a0))/\H a0=cz (c9 a0 es)/\U.getD i .none=.dict ((es.map (·.1)).zip ds)/\ds.length=es.length/\(∀e∈es,keyOk kt e.1/\Den K (cut H F) e.2.1 e.1)/\(es.map (·.1)).Nodup/\
   ∀e∈es,e.1=k->∃d f,A1 ((es.map (·.1)).zip ds) k=cz d/\Own K H F u e.2.2 d f/\f.Nodup/\(∀b∈f,b∈F)/\
    ∀(H':Hp) (a:aw) (o':MuO) (d':D) (f':List aw),Same H H'->a∈f->Own K (upd H' a o'.1) F u e.2.2 d' f'->(∀b,f'.count b<=f.count b)->StR K M (U.set i (.dict (n9 ((es.map (·.1)).zip ds) k d'))) Y (upd H' a o'.1) P F:=by
 obtain⟨G,h1,h2,h3⟩:=S.all;obtain⟨dd,oo,f,pre,post,q1,q2,⟨v2,rfl,q3⟩,rfl,q5⟩:=h1.at_ hm;obtain⟨a0,es,ds,fs,rfl,r2,r3,rfl,r5,r6,hl,hn⟩:=q3.dict;refine⟨a0,es,ds,q2,r2,by rw[y7 q1];exact r3,hl,r5,hn,λe he fJ=>?_⟩;have iP:∀e∈es,aC e.1 k=p4↔e.1=k:=λe he=>B1 e.1 k (r5 e he).1.1 hk.1
 obtain⟨j,hj⟩:=bE.mp he;have rV:j<ds.length:=by rw[hl];exact (aU.mp hj).1
 obtain⟨w3,f3,a1,a2,s1,s2,qN,s4⟩:=r6.zip (ao rV);have hw:w3=e.2.2:=by rw[a_,hj]at s1;exact (aK s1).symm
 subst hw;have cnt:∀b,b∈f3->(pre++post).count b=0/\b≠a0/\(a1++a2).count b=0/\f3.count b=1:=λb hb=>by
  have z:=cJ.mp h2 b;have z2:=dm.mpr hb;rw[qN]at z;simp only[bj,bp,c_]at z ⊢;refine⟨by lia,λe=>?_,by lia,by lia⟩;subst e;simp only[fQ,iX]at z;lia
 have rX:∀b∈f3,b∈F:=λb hb=>h3 b (by rw[qN];simp[hb])
 refine⟨ds[j],f3,a0T hl iP hn hj fJ (ao rV),s2,?_,rX,λH' a o' d' f' gr ha o hc=>?_⟩
 ·refine cJ.mpr λb=>?_
  by_cases c:b∈f3
  ·rw[(cnt b c).2.2.2];exact aE _
  ·rw[dH.mpr c];exact cI _
 ·obtain⟨c1,c2,c3,c4⟩:=cnt a ha;have mW:=rX a ha;have fN:Same (cut H F) (cut (upd H' a o'.1) F):=(B2 gr).trans (R4 mW _);have kk:∀(l:List aw),l.count a=0->(∀b∈l,b∈F)->∀b∈l,upd H' a o'.1 b=H b:=λl hc zm b hb=>by
   rw[f8 λz=>?_]
   ·exact S.toE.keep gr b (zm b hb)
   ·subst z;rw[dH]at hc;exact hc hb
  have nk:n9 ((es.map (·.1)).zip ds) k d'=(es.map (·.1)).zip (ds.set j d'):=by
   unfold n9;rw[v9 hl,show u4 es k=p4 from cP.mpr ⟨e,he,(iP e he).mpr fJ⟩];exact O6 (v:=V.non) hl iP hn hj fJ
  have pY:(es.map (·.2.2)).set j e.2.2=es.map (·.2.2):=set_same (by rw[a_,hj];rfl);have o1:Own K (upd H' a o'.1) F (.d kt u) (.ref a0) (.dict ((es.map (·.1)).zip (ds.set j d'))) (a0::(a1++(f'++a2))):=by
   simp only[Own];refine⟨a0,es,ds.set j d',_,rfl,by rw[f8 (dA c2)];exact gr _ _ r2,rfl,rfl,⟨hn,λe he=>⟨(r5 e he).1,(r5 e he).2.up fN⟩⟩,?_⟩;have:=s4 (upd H' a o'.1) F e.2.2 d' f' (kk _ c3 λb hb=>h3 b (by rw[qN];rcases aB.mp hb with z|z<;>simp[z])) fN o;rw[pY]at this;exact this
  have q:=q5 (upd H' a o'.1) F (.own (.d kt u)) (.dict ((es.map (·.1)).zip (ds.set j d'))) (cz (.ref a0)) _ (kk _ c1 λb hb=>h3 b (mem_mid hb)) fN ⟨_,rfl,o1⟩;rw[set_same (l:=Y) q2,set_same (l:=M) hm]at q;rw[nk];refine⟨⟨_,q,N4 h2 λb=>?_,λb hb=>?_⟩,λb hb=>?_,S.prot.trans fN⟩
  ·have:=hc b;rw[qN];simp only[bj,bp,c_];lia
  ·have hp:0<(pre++(a0::fs++post)).count b:=by
    have h0:=dm.mpr hb;have:=hc b;rw[qN];simp only[bj,bp,c_]at h0 ⊢;lia
   exact h3 b (dm.mp hp)
  ·by_cases e:b=a
   ·subst e;exact⟨o',i7⟩
   ·obtain⟨ys,y⟩:=S.lst b hb;exact⟨ys,by rw[f8 e];exact gr _ _ y⟩
def Pend.dnew(h:Pend K ([]++[.own u]) ([]++[d]) ([]++[cz v]) M U Y H P F)(hm:M[i]?=cz (.own (.d kt u)))(hk:keyOk kt k)(zq:Den K H kv k) :
  ∃a0 es ds fv,Y[i]?=cz (cz (.ref a0))/\H a0=cz (c9 a0 es)/\U.getD i .none=.dict ((es.map (·.1)).zip ds)/\ds.length=es.length/\(∀e∈es,keyOk kt e.1/\Den K (cut H F) e.2.1 e.1)/\(es.map (·.1)).Nodup/\Own K H F u v d fv/\fv.Nodup/\(∀b∈fv,b∈F/\b≠a0)/\
   (u4 es k=rp->∀(H':Hp) (a:aw) (o':MuO) (d':D) (f':List aw),Same (upd H a0 (c9 a0 (es++[(k,kv,v)]))) H'->a∈fv->Own K (upd H' a o'.1) F u v d' f'->(∀b,f'.count b<=fv.count b)->
    StR K M (U.set i (.dict ((es.map (·.1)).zip ds++[(k,d')]))) Y (upd H' a o'.1) P F):=by
 obtain⟨_,_,S⟩:=h;obtain⟨G,h1,h2,h3⟩:=S.all;have lQ:StAll K H F (.own u::M) (d::U) (cz v::Y) G:=by simpa using h1
 simp only[StAll]at lQ;obtain⟨d0,U',GD,Y',fv,G2,e1,e2,rfl,⟨v',e3,ov⟩,h5⟩:=lQ;cases e1
 cases e2
 cases e3
 obtain⟨dd,oo,f,pre,post,q1,q2,⟨v2,rfl,q3⟩,rfl,q5⟩:=h5.at_ hm;obtain⟨a0,es,ds,fs,rfl,r2,r3,rfl,r5,r6,hl,hn⟩:=q3.dict;have Fj:a0∈F:=h3 a0 (by simp);have we:Den K (cut H F) kv k:=zq.imm_out S.lst k (Q7 _ hk.1);have iP:∀e∈es,aC e.1 k=p4↔e.1=k:=λe he=>B1 e.1 k (r5 e he).1.1 hk.1
 have cnt:∀b,b∈fv->(pre++post).count b=0/\b≠a0/\fs.count b=0/\fv.count b=1:=λb hb=>by
  have z:=cJ.mp h2 b;have z2:=dm.mpr hb;simp only[bj,bp,c_]at z ⊢;refine⟨by lia,λe=>?_,by lia,by lia⟩;subst e;simp only[fQ,iX]at z;lia
 have xf:(pre++post).count a0=0/\fs.count a0=0:=by
  have z:=cJ.mp h2 a0;simp only[bj,bp,gF]at z ⊢;exact⟨by lia,by lia⟩
 refine⟨a0,es,ds,fv,q2,r2,by rw[y7 q1];exact r3,hl,r5,hn,ov,?_,λb hb=>⟨h3 b (by simp[hb]),(cnt b hb).2.1⟩,λhf H' a o' d' f' gr ha o hc=>?_⟩
 ·refine cJ.mpr λb=>?_
  by_cases c:b∈fv
  ·rw[(cnt b c).2.2.2];exact aE _
  ·rw[dH.mpr c];exact cI _
 ·obtain⟨c1,c2,c3,c4⟩:=cnt a ha;have mW:a∈F:=h3 a (by simp[ha]);have fN:Same (cut H F) (cut (upd H' a o'.1) F):=((R4 Fj _).trans (B2 gr)).trans (R4 mW _);have kk:∀(l:List aw),l.count a=0->l.count a0=0->(∀b∈l,b∈F)->∀b∈l,upd H' a o'.1 b=H b:=λl hc xR zm b hb=>by
   have n1:b≠a:=λz=>by subst z;rw[dH]at hc;exact hc hb
   have n0:b≠a0:=λz=>by subst z;rw[dH]at xR;exact xR hb
   rw[f8 n1];obtain⟨ys,q⟩:=S.lst b (zm b hb);rw[q];exact gr _ _ (by rw[f8 n0];exact q)
  have xM:upd H' a o'.1 a0=cz (c9 a0 (es++[(k,kv,v)])):=by rw[f8 (dA c2)];exact gr _ _ i7
  have o1:Own K (upd H' a o'.1) F (.d kt u) (.ref a0) (.dict (((es++[(k,kv,v)]).map (·.1)).zip (ds++[d']))) (a0::(fs++f')):=by
   simp only[Own];refine⟨a0,es++[(k,kv,v)],ds++[d'],_,rfl,xM,rfl,rfl,⟨?_,λe he=>?_⟩,?_⟩
   ·rw[aW,bb];refine⟨hn,by simp,λx hx y hy e=>?_⟩;simp only[av,cB,aq]at hy;subst hy;subst e;obtain⟨e,he,rfl⟩:=aO.mp hx;unfold u4 at hf;rw[cu]at hf;exact hf e he ((iP e he).mpr rfl)
   ·rcases aB.mp he with z|z
    ·exact⟨(r5 e z).1,(r5 e z).2.up fN⟩
    ·rw[aq.mp z];exact⟨hk,we.up fN⟩
   ·rw[aW];refine (n6 fN r6 (kk _ c3 xf.2 λb hb=>h3 b (by simp[hb]))).append ?_;have:=m4 (R:=Own K (upd H' a o'.1) F u) o n5
    rwa[bK]at this
  rw[W8 (kv:=kv) (v:=v) hl]at o1;have q:=q5 (upd H' a o'.1) F (.own (.d kt u)) (.dict ((es.map (·.1)).zip ds++[(k,d')])) (cz (.ref a0)) _ (kk _ c1 xf.1 λb hb=>h3 b (ay _ (mem_mid hb))) fN ⟨_,rfl,o1⟩;rw[set_same (l:=Y) q2,set_same (l:=M) hm]at q;refine⟨⟨_,q,N4 h2 λb=>?_,λb hb=>?_⟩,λb hb=>?_,S.prot.trans fN⟩
  ·have:=hc b;simp only[bj,bp,c_];lia
  ·have hp:0<(fv++(pre++(a0::fs++post))).count b:=by
    have h0:=dm.mpr hb;have:=hc b;simp only[bj,bp,c_]at h0 ⊢;lia
   exact h3 b (dm.mp hp)
  ·by_cases e:b=a
   ·subst e;exact⟨o',i7⟩
   ·by_cases e0:b=a0
    ·subst e0;exact⟨⟨c9 b (es++[(k,kv,v)]),trivial⟩,xM⟩
    ·obtain⟨ys,y⟩:=S.lst b hb;exact⟨ys,by rw[f8 e];exact gr _ _ (by rw[f8 e0];exact y)⟩
def StR.ded(S:StR K M U Y H P F)(hm:M[y]?=cz .dead)(v:Option V):StR K M U (Y.set y v) H P F:=by
 obtain⟨G,h1,h2,h3⟩:=S.all;obtain⟨dd,oo,f,pre,post,q1,q2,q3,rfl,q5⟩:=h1.at_ hm;have q:=q5 H F .dead dd v f (λ_ _=>rfl) (Same.refl _) q3;rw[set_same (l:=M) hm,set_same (l:=U) q1]at q;exact⟨⟨_,q,h2,h3⟩,S.lst,S.prot⟩
end
def b2B(h:H a=cz o):upd H a o=H:=funext λb=>by
 by_cases c:b=a
 ·rw[c,i7,h]
 ·rw[f8 c]
def a4x(hk:C1 k=p4)(h:v6 kvs k=rp):A1 (kvs++[(k,d)]) k=cz d:=by
 unfold A1;unfold v6 at h;rw[cu]at h;rw[List.find?_append,fg.mpr λp hp=>by simpa using h p hp];simp[(B1 k k hk hk).mpr rfl]
def a8b(hk:C1 k=p4)(h:v6 kvs k=rp):n9 (kvs++[(k,d)]) k d'=kvs++[(k,d')]:=by
 have hh:v6 (kvs++[(k,d)]) k=p4:=a0U (a4x hk h);unfold v6 at h;rw[cu]at h;unfold n9;rw[hh,aG rfl,aW]
 congr 1
 ·have:∀p∈kvs,(if aC p.1 k then (p.1,d') else p)=p:=λp hp=>aL (h p hp)
  rw[bY this,kS]
 ·simp[(B1 k k hk hk).mpr rfl]
section
variable {K:af}{H:Hp}{F:List aw}
def StR.relist(S:StR K M U Y H P F)(hm:M[i]?=cz (.own (.l .i)))(hs:Y[i]?=cz (cz (.ref b)))(hr:U.getD i .none=.list ds)(hd:DenAll K (cut H F) zs es)(hi:g9 es=p4) :
  StR K M (U.set i (.list es)) Y (upd H b (.lst zs)) P F:=by
 obtain⟨G,h1,h2,h3⟩:=S.all;obtain⟨dd,oo,f,pre,post,q1,q2,⟨v2,rfl,q3⟩,rfl,q5⟩:=h1.at_ hm;rw[hs]at q2;cases q2
 rw[y7 q1]at hr;subst hr;simp only[Own]at q3;rcases q3 with⟨_,hx,_⟩|⟨a,xs,iy,fs,ea,hH,_,rfl,hL⟩
 ·simp only[imm]at hx;cases hx
 cases ea
 have wG:b∈F:=h3 b (by simp);have cnt:(pre++post).count b=0:=by
  have z:=cJ.mp h2 b;simp only[bj,bp,gF]at z ⊢;lia
 have fN:Same (cut H F) (cut (upd H b (.lst zs)) F):=R4 wG _;have o1:Own K (upd H b (.lst zs)) F (.l .i) (.ref b) (.list es) [b]:=by
  simp only[Own];refine .inr ⟨b,zs,es,[],rfl,i7,rfl,rfl,ListAll.of_den (hd.up fN) λv d hx q=>?_⟩;simp only[Own];exact⟨trivial,B4 hi hx,q⟩
 have q:=q5 (upd H b (.lst zs)) F (.own (.l .i)) (.list es) (cz (.ref b)) [b] (λc hc=>f8 λz=>by subst z;rw[dH]at cnt;exact cnt hc) fN ⟨_,rfl,o1⟩;rw[set_same (l:=Y) hs,set_same (l:=M) hm]at q;refine⟨⟨_,q,N4 h2 λc=>?_,λc hc=>h3 c ?_⟩,λc hc=>?_,S.prot.trans fN⟩
 ·simp only[bj,bp,c_,b_,List.count_nil];lia
 ·simp only[aB,az,bp,cG,or_false]at hc ⊢;rcases hc with z|z|z
  ·exact .inl z
  ·exact .inr (.inl z)
  ·exact .inr (.inr (.inr (by simpa using z)))
 ·by_cases e:c=b
  ·subst e;exact⟨⟨.lst zs,trivial⟩,i7⟩
  ·obtain⟨ys,y⟩:=S.lst c hc;exact⟨ys,by rw[f8 e];exact y⟩
theorem a1Y:∀{ds es:List D} {xs ys:List V},DenAll K H' xs ds->DenAll K H' ys es->DenAll K H' (xs++ys) (ds++es)
 |[],es,xs,ys,h,h'=>by rw[h.nil_inv];exact h'
 |d::ds,es,xs,ys,h,h'=>by
  obtain⟨v,r,rfl,h1,h2⟩:=h.cons_inv;exact denAll_cons h1 (a1Y h2 h')
theorem a3b:∀{ds:List D} {xs:List V},DenAll K H' xs ds->DenAll K H' xs.reverse ds.reverse
 |[],xs,h=>by rw[h.nil_inv];exact denAll_nil
 |d::ds,xs,h=>by
  obtain⟨v,r,rfl,h1,h2⟩:=h.cons_inv;rw[nN,nN];exact a1Y (a3b h2) (denAll_cons h1 denAll_nil)
def a8c:∀{ds:List D},g9 ds=p4->g9 ds.reverse=p4:=λ{ds} h=>by
 have key:∀l:List D,(∀d∈l,imm d=p4)->g9 l=p4:=by
  intro l
  induction l with
  |nil=>intro _;simp only[g9]
  |cons d l ih=>intro hl;simp only[g9,ak];exact⟨hl d ah,ih λx hx=>hl x (ai _ hx)⟩
 exact key _ λd hd=>B4 h (kC.mp hd)
end
def c1A:V->List V->Hp->VK->Prop:=λx vs H Q=>∃l xs,x=.ref l/\vs=[]/\H l=cz (.lst xs)/\Q .non (upd H l (.lst xs.reverse))
noncomputable def b8m(i:Nat):EvS:=λU=>match U.getD i .none with
 |.list ds=>cz (.nx (U.set i (.list ds.reverse)))
 |_=>el
section
variable {X:Cx}{u w:Ty}{ML M M1:List Md}{e e2:Expr}{f:EvX}{f2:EvE}{c2:Cat}{pos apos cw:eS}{x:bC}{px:eS}
def b8n:MtM X "list.reverse" c1A:=by
 intro pins s Y H x vs v us Q I rx rv h;obtain⟨l,xs,rfl,rfl,hH,q⟩:=h;cases rx
 have nj:=rv.zero;subst nj;obtain⟨z,cE,n,r,hl,e⟩:=I.lstM hH;refine pf rl ⟨_,e,rfl⟩ PySem.F.entry_list_reverse (PySem.F.args_list_reverse_1 _) (PySem.AutoSeq1.list_reverse_list_0 l cE.toArray n (by rw[br];lia)) ⟨e,?_⟩;refine⟨.non,_,I.lset (its':=cE.reverse) (ys:=xs.reverse) hH e (by simp) ?_ (by rw[yd];exact z),rfl,q⟩;have pH:xs.reverse.length=cE.reverse.length:=by simp[hl]
 refine a2t pH λi x u h1 h2=>?_
 have hi:i<xs.length:=by have:=(aU.mp h1).1;simpa using this
 rw[uZ hi]at h1;rw[uZ (by lia)]at h2;obtain⟨u',qY,ru⟩:=r.get h1;rw[hl,h2]at qY;cases qY
 exact ru
def b8o(i:Nat)(hm:M[i]?=cz (.own (.l .i)):=by rfl)(hN:X.N[i]?=cz x:=by rfl)(hv:Vis X.env.scope x:=by first|exact bR rfl|exact bT (bR rfl)|exact bT (bT rfl))(hd:(x==("__debug__":bC))=rp:=by decide)
  (iG:(x==("__classdict__":bC))=rp:=by decide) (et:cY (.Name x px) "reverse" X.env (cn (.Name x px) X.env)=cn (.Name x px) X.env:=by rfl) (er:(apos.endLine==cw.line)=p4:=by rfl)
  (n_:fB (.Call (.Attribute (.Name x px) "reverse" apos) [] [] cw) el pos.line X.env=pure rp:=by rfl) :
  PSX X w ML M (.Expr (.Call (.Attribute (.Name x px) "reverse" apos) [] [] cw) pos) (b8m i) M:=by
 refine .mk ⟨_,a0z (b7q ie rl PySem.F.type_list_reverse b8n (C7 hN hv hd iG) et er) n_,λD U Y H P F o S hg k=>?_⟩;obtain⟨v,f,Ba,ov,hf⟩:=S.toE.get hm;unfold b8m at hg;cases hU:U.getD i .none with
 |list ds=>
  rw[hU]at hg ov;cases hg
  simp only[Own]at ov;rcases ov with⟨_,hi,_⟩|⟨a,xs,iy,fs,rfl,h1,h2,rfl,h3⟩
  ·simp only[imm]at hi;cases hi
  ·cases h2
   have qC:DenAll X.K (cut H F) xs ds:=ListAll.den (R:=λv d f=>Own X.K H F .i v d f) (λv d f q=>(V1 q).2.2) h3;have ED:g9 ds=p4:=by
    have:∀{ds:List VS.D} {xs:List V} {fs:List aw},ListAll (Own X.K H F .i) xs ds fs->g9 ds=p4:=by
     intro ds
     induction ds with
     |nil=>intro _ _ _;simp only[g9]
     |cons d ds ih=>
      intro xs fs h;obtain⟨v,r,f,g,_,_,q1,q2⟩:=h.cons_inv;simp only[g9,ak];exact⟨(V1 q1).2.1,ih q2⟩
    exact this h3
   exact⟨_,Ba,.inl ⟨rfl,xs,SqL.of h1⟩,a,xs,rfl,rfl,h1,k Y _ F (S.relist hm Ba hU (a3b qC) (a8c ED))⟩
 |_=>rw[hU]at hg;cases hg
end
def c0e:∀{us:List α},us.length=1->∃a,us=[a]
 |[a],_=>⟨a,rfl⟩
def b5n:∀{us:List α},us.length=2->∃a b,us=[a,b]
 |[a,b],_=>⟨a,b,rfl⟩
def c0f:∀{us:List α},us.length=3->∃a b c,us=[a,b,c]
 |[a,b,c],_=>⟨a,b,c,rfl⟩
def c1B:∀{us:List α},us.length=4->∃a b c d,us=[a,b,c,d]
 |[a,b,c,d],_=>⟨a,b,c,d,rfl⟩
def c1C:∀{us:List α},us.length=5->∃a b c d e,us=[a,b,c,d,e]
 |[a,b,c,d,e],_=>⟨a,b,c,d,e,rfl⟩
def c1D:∀{us:List α},us.length=6->∃a b c d e f,us=[a,b,c,d,e,f]
 |[a,b,c,d,e,f],_=>⟨a,b,c,d,e,f,rfl⟩
end VS
namespace VS
open PySem PySem.Spec L2
open PyProof.Rows (KeyOrd SortKind SortSt keyKind' keyLt' seqObj listItems_at listUpdate_at seqEpoch_at arrOf failedOf get?_update_seq general' size_push' ksk_end ksk_tail)
open PySem.W (kas_sort kas_ask kas_item kat_run kat_snds)
section
variable {prog:bz}{w:bI}{A:bD}{E:aj->ar->Prop}{sh:ar}{vs ks:List aj}{κ:rj}{O:KeyOrd}{key:Nat->O.α}{R:bQ->Prop}
structure SortableR (prog:bz) (w:bI) (A:bD) (R:bQ->Prop) (ks:List aj) (κ:rj) (O:KeyOrd) (key:Nat->O.α):Prop where
 kind:2<=ks.length->∀(s:ar) (E:aj->ar->Prop) (Q:rj->ar->Prop),R s.heap->Q κ s->aD (aX prog w) A (keyKind' ks.toArray) Q E s
 lt:∀(s:ar) (i j:Nat) (C:Bool->ar->Prop),R s.heap->i<ks.length->j<ks.length->C (O.blt (key i) (key j)) s->aD (aX prog w) A (keyLt' κ (ks.getD i cj) (ks.getD j cj)) C (λ_ _=>False) s
end
end VS
namespace VS
open PySem PySem.Spec L2
def Itd(a:aw)(es:List (D×V×V)):It:=
 ⟨λi H=>H a=cz (c9 a es)/\i<es.length,λi H x H'=>H'=H/\∃e,es[i]?=cz e/\x=e.2.1,λi H=>H a=cz (c9 a es)/\es.length<=i⟩
def b0H(a it:aw)(es:List (D×V×V))(hL:G0 es=rp):Turn P w K tg (Itd a es) [it] it (λi h=>h.IsKeyIter it a i es.length es.length) where
 mem:=by simp
 obj:=λi h st b hb=>by
  have e:b=it:=by simpa using hb
  subst e;obtain⟨o,e,c,d⟩:=st;exact⟨o,e,λv z=>by rw[d]at z;cases z⟩
 keep:=λi h h' st k=>st.at λo e=>k it (by simp) o e
 item:=by
  intro X hP hw hK hc i pins s Y H E I hf st hg;subst hP hw hK;obtain⟨hH,hi⟩:=hg;obtain⟨h0,hl,hn,o,ents,g1,g2,g3,g4⟩:=Y5 I hH hL;have hsz:ents.size=es.length:=by rw[cN g4];exact cg.symm
  have kE:i<ents.size:=by lia
  have hx:es[i]?=cz es[i]:=ao hi;obtain⟨y,hy,r⟩:=B8 g4 hx;have DH:ents[i]=y:=by
   rw[bZ,bG kE]at hy;exact aK hy
  obtain⟨f0,f1,f2,f3,f4,f5⟩:=hf it (by simp);have rF:s.heap.IsKeyIter it a i ents.size es.length:=by rw[hsz];exact st
  refine a6w rF ⟨o,g1,g2,g3⟩ kE λh' nT sb=>?_
  have I1:Inv X pins Y H {s with heap:=h'}:=I.turned (t':=s.toks) (λb o hb e=>(sb.2 b hb).trans e) f0 f1 f3 f4 f5;rw[hsz]at nT;obtain⟨o,e,c,d⟩:=id nT;exact⟨ents[i].key,rfl,a5V (s:={s with heap:=h'}) e c d (by decide) ⟨es[i].2.1,H,I1,by rw[DH];exact r.2.1,⟨rfl,es[i],hx,rfl⟩,nT,λb hb=>(hf b hb).1⟩⟩
 done:=by
  intro X hP hw hK hc i pins s Y H E I hf st hg;subst hP hw hK;obtain⟨hH,hi⟩:=hg;obtain⟨h0,hl,hn,o,ents,g1,g2,g3,g4⟩:=Y5 I hH hL;have hsz:ents.size=es.length:=by rw[cN g4];exact cg.symm
  obtain⟨f0,f1,f2,f3,f4,f5⟩:=hf it (by simp);have rF:s.heap.IsKeyIter it a i ents.size es.length:=by rw[hsz];exact st
  exact a6x (I.ok.hd hc) rF ⟨o,g1,g2,g3⟩ (by lia) λh' eb=>⟨rfl,I.turned (t':=s.toks) (λb o hb e=>eb b o hb e) f0 f1 f3 f4 f5⟩
 self:=λ_ _ _ _ _ st h=>wpAny_pyIter_keyiter st h
section
variable {X:Cx}{M:List Md}{tg a:Expr}{fa:EvE}{ca:Cat}
def b8p(ta:TE):TI:=λY H R=>ta Y H λx H1=>∃p es,x=.ref p/\H1 p=cz (c9 p es)/\G0 es=rp/\R (Itd p es) H1
def b5o(hl:PE X a ta):PI X tg a (b8p ta):=by
 intro pins s Y H R I h;refine L2.thn (hl pins s Y H _ I h) λv s1 ⟨x,H1,I1,r1,q1⟩=>?_
 obtain⟨p,es,e,hH,hL,q⟩:=q1;subst e;cases r1
 obtain⟨h0,hl,hn,o,ents,g1,g2,g3,g4⟩:=Y5 I1 hH hL;have hsz:ents.size=es.length:=by rw[cN g4];exact cg.symm
 refine a6v h0 ⟨o,g1,g2,g3⟩ ?_;refine⟨s1.heap.objs.size,[s1.heap.objs.size],_,_,H1,rfl,I1.kept (t':=s1.toks) λb o e=>ag _ e,b0H p _ es hL,⟨_,aH _ rfl,rfl,by rw[hsz];rfl⟩,λb hb=>?_,q⟩;have e:b=s1.heap.objs.size:=by simpa using hb
 subst e;exact I1.fpOk (aE _) (I1.hok.fresh (aE _))
def a8d:Walks (Itd p es) (λH=>H p=cz (c9 p es)) (es.map (·.2.1)) where
 go:=λi H h hi=>⟨h,by simpa using hi⟩
 stop:=λi H h hi=>⟨h,by simpa using hi⟩
 yld:=λi H x H' h hi y=>by
  obtain⟨e,r,hr,rfl⟩:=y;exact⟨e,by rw[a_,hr];rfl⟩
noncomputable def iDk(a:EvE):EvA:=λU=>(a U).bind λd=>match d with
 |.dict kvs=>if P6 kvs then el else cz (kvs.map (·.1))
 |_=>el
def b5p{K:af}{H:Hp}{d:D}(h:Den K H .non d):b4F d=p4:=by
 cases d<;>first|rfl|(simp[Den]at h)
def a1Z{K:af}{H:Hp}{es:List (D×V×V)}{kvs:List (D×D)}(h:DenKV K H es kvs):G0 es=P6 kvs:=by
 cases kvs with
 |nil=>simp only[DenKV]at h;subst h;rfl
 |cons p r=>
  obtain⟨k,d⟩:=p;simp only[DenKV]at h;obtain⟨e,q,rfl,rfl,_,h4,_⟩:=h;show (Z2 e.1&&a5Z e.2.2)=(Z2 e.1&&b4F d)
  congr 1;cases c:a5Z e.2.2 with
  |true=>
   have:e.2.2=.non:=by
    revert c;cases e.2.2<;>first|(intro _;rfl)|(intro z;cases z)
   rw[this]at h4;exact (b5p h4).symm
  |false=>
   cases d with
   |none=>
    rw[h4.none_inv]at c;cases c
   |_=>rfl
def a6z(h:PX X M a fa ca)(hc:frozen ca:=by trivial):PIX X M tg a (iDk fa):=by
 obtain⟨t,p,q⟩:=h.out;refine⟨_,b5o p,λU Y H P F ds R S hf k=>?_⟩;obtain⟨d,h1,h2⟩:=bnd hf;cases d with
 |dict kvs=>
  have jd:(if P6 kvs then el else cz (kvs.map (·.1)))=cz ds:=h2;have hL:P6 kvs=rp:=by
   cases c:P6 kvs with
   |false=>rfl
   |true=>rw[c]at jd;cases jd
  rw[hL]at jd;cases jd
  refine q U Y H P F _ _ S h1 λv H1 e1 r1=>?_
  obtain⟨aa,es,rfl,k1,k2⟩:=(D7 hc r1).dict_inv;exact⟨aa,es,rfl,i8 _ _ k1,by rw[a1Z k2];exact hL,k _ _ _ H1 e1 a8d (λH2 e2=>e2 _ _ k1) (X0 k2)⟩
 |_=>cases h2
end
def a6A(F:List aw)(H H2:Hp):Hp:=λa=>if a∈F then H a else H2 a
def a0W(h:a∈F):a6A F H H2 a=H a:=aG h
def q8(h:a∉F):a6A F H H2 a=H2 a:=aL h
def b8q(sp:Sp):Sp:=λvs H Q E=>∃F:List aw,(∀a∈F,∃ys:MuO,H a=cz ys.1)/\sp vs (cut H F) (λv H2=>(∀a∈F,H2 a=el)->Q v (a6A F H H2)) E
section
variable {P:bz}{w:bI}{K:af}{mg:bC->Option aj}{base:bQ}{k:Nat}{f:aw}{fd:dD}{ps:List bC}{sp:Sp}{H:Hp}{h:bQ}{F:List aw}
def a1C(hF:∀a∈F,∃ys:MuO,H a=cz ys.1)(e:H b=cz o)(n:¬ Mu o):b∉F:=λz=>by
 obtain⟨ys,hy⟩:=hF b z;rw[e]at hy;cases hy
 exact n ys.2
def b8r(h:Pin a o):¬ Mu o:=by cases o<;>first|exact λz=>z|exact λ_=>h
def b5q(hk:HOk P w H h)(hF:∀a∈F,∃ys:MuO,H a=cz ys.1):HOk P w (cut H F) h:=λa o e=>by
 obtain⟨_,e'⟩:=p7 e;exact (hk a o e').stay (λb u _ q=>q) (λb q=>j8 (a1C hF q (λz=>z)) q) λb xs q=>j8 (a1C hF q (b8r xs.2)) q
def A3(n:H a=el):cut H F a=el:=by
 by_cases q:a∈F
 ·exact W3 q
 ·rw[Y0 q];exact n
def a8e(F0:FnOk P w K mg base CX0 k f fd ps sp):FnOk P w K mg base CX0 k f fd ps (b8q sp) where
 len:=λvs H Q E ⟨F,_,hs⟩=>F0.len _ _ _ _ hs
 run:=λA outer s H args us vs Q E hr he hb hv ⟨F,hF,hs⟩=>by
  have kG:Env0 P w K mg base A outer s (cut H F):=⟨he.frames,he.mod,λb o e=>⟨(he.bs b o e).1,A3 (he.bs b o e).2⟩,he.bsz,he.funs,λb hb=>A3 (he.frf b hb),b5q he.hok hF,he.bare,λx hx p e=>let⟨qs,t,e1,e2⟩:=he.tabs x hx p e;⟨qs,t,j8 (a1C hF e1 (λz=>z)) e1,e2⟩⟩;refine fP (F0.run A outer s (cut H F) args us vs _ E hr kG hb hv hs) λr s' hq=>?_
  cases r with
  |error e=>exact hq
  |ok fl=>
   cases fl with
   |ret u=>
    obtain⟨v,H2,os,bare,un,oY,rv,q⟩:=(show CE outer P w (cut H F) s _ u s' from hq);have there:∀a∈F,∃o,s.heap.get? a=cz o:=λa ha=>by
     obtain⟨⟨ys,hm⟩,hy⟩:=hF a ha;have:=he.hok a _ hy;cases ys with
     |lst xs=>obtain⟨_,cE,n,r,e⟩:=this;exact⟨_,e⟩
     |dK kvs=>obtain⟨_,_,vs,_,ob,es,ep,e,_⟩:=this;exact⟨_,e⟩
     |ext φ=>obtain⟨_,e,_⟩:=this;exact e
     |_=>exact cK hm
    have BS:∀a∈F,H2 a=el:=λa ha=>by
     obtain⟨o,ho⟩:=there a ha;exact un.free a o ho (W3 ha) (by simp)
    have Em:∀{b:aw},H b=el->b∉F:=λ{b} n z=>by
     obtain⟨ys,hy⟩:=hF b z;rw[n]at hy;cases hy
    refine (show CE outer P w H s Q u s' from⟨v,a6A F H H2,os,bare,?_,?_,rv,q BS⟩)
    ·refine⟨λb o q n hb hx=>un.keep b o q (A3 n) hb hx,λb o q n hb hx=>un.slot b o q (A3 n) hb hx,λb o q n hx=>?_,un.there,λb xs q=>?_,λb o u q=>?_,λb ps q=>?_⟩
     ·rw[q8 (Em n)];exact un.free b o q (A3 n) hx
     ·have n:=a1C hF q (λz=>z);rw[q8 n];exact un.tups b xs (j8 n q)
     ·have n:=a1C hF q (λz=>z);rw[q8 n];exact un.frzs b o u (j8 n q)
     ·have n:=a1C hF q (λz=>z);rw[q8 n];exact un.tbls b ps (j8 n q)
    ·intro a o e;by_cases ha:a∈F
     ·rw[a0W ha]at e;have hk:∀u,s.heap.get? a=cz u->s'.heap.get? a=cz u:=λu q=>un.keep a u q (W3 ha) (λz=>by rw[he.frf a z]at e;cases e) (by simp)
      obtain⟨⟨ys,hm⟩,hy⟩:=hF a ha;have ho:=he.hok a _ hy;have eo:o=ys:=aK (e.symm.trans hy);rw[eo];cases ys with
      |lst xs=>obtain⟨z,cE,n,r,e⟩:=ho;exact⟨z,cE,n,r,hk _ e⟩
      |dK kvs=>obtain⟨z,y,vs,r,ob,es,ep,e,c⟩:=ho;exact⟨z,y,vs,r,ob,es,ep,hk _ e,c⟩
      |ext φ=>obtain⟨h1,⟨ob,h2⟩,h3⟩:=ho;exact⟨h3 _ _ h1 hk,⟨ob,hk _ h2⟩,h3⟩
      |_=>exact cK hm
     ·rw[q8 ha]at e;have jL:∀{b:aw} {o:HO},H2 b=cz o->a6A F H H2 b=cz o:=λ{b} {o} q=>by
       rw[q8 (λz=>by rw[BS b z]at q;cases q)];exact q
      exact (oY a o e).stay (λb u _ q=>q) (λb q=>jL q) λb xs q=>jL q
   |next=>exact cK hq
   |brk=>exact cK hq
   |cont=>exact cK hq
end
section
variable {X:Cx}{M:List Md}{a e0:Expr}{es:List Expr}{fa:EvE}{f:EvA}{ca:Cat}{u:Ty}{x:bC}{p pos:eS}
def b0I(W:Has X.prog X.w X.K X.mg X.base x k ps sp):Has X.prog X.w X.K X.mg X.base x k ps (b8q sp):=by
 obtain⟨f,fd,F,b⟩:=W.ex;exact⟨f,fd,a8e F,b⟩
noncomputable def PAF(X:Cx)(M:List Md)(es:List Expr)(f:EvA):Prop:=
 ∃t,PA X es t/\∀(U:List D) (Y:L2.St) (H P:Hp) (F:List aw) (ds:List D) (Q:List V->Hp->Prop),StE X.K M U Y H P F->f U=cz ds->(∀vs H',Same H H'->DenAll X.K (cut H' F) vs ds->Q vs H')->t Y H Q
def A2:PAF X M [] g8:=⟨_,u7,λU Y H P F ds Q S hf q=>by cases hf;exact q [] H (Same.refl _) denAll_nil⟩
def k7(ha:PX X M a fa ca)(hr:PAF X M es fr)(hc:frozen ca:=by trivial)(hs:ax (a::es) X.env=(rp,cn a X.env)::ax es X.env:=by rfl):PAF X M (a::es) (b8 fa fr):=by
 obtain⟨ta,pa,qa⟩:=ha.out;obtain⟨tr,pr,qr⟩:=hr;refine⟨_,m7 pa pr hs,λU Y H P F ds Q S hf q=>?_⟩;obtain⟨x,h1,hf⟩:=bnd hf;obtain⟨xs,h2,hf⟩:=bnd hf;cases hf
 exact qa U Y H P F _ _ S h1 λv H1 e1 r1=>qr U Y H1 P F _ _ (S.grow e1) h2 λvs H2 e2 r2=>q (v::vs) H2 (e1.trans e2) (denAll_cons ((D7 hc r1).up (B2 e2)) r2)
def v4(W:Has X.prog X.w X.K X.mg X.base x k ps (spD X.K n m u))(hr:Room k X.A)(h:PAF X M (e0::es) f)(hl:(e0::es).length=n:=by rfl)(hfl:∀U ds,f U=cz ds->ds.length=(e0::es).length)
  (hg:Gl X x:=by rfl) (lN:(x==("__debug__":bC))=rp:=by decide) (he:ax (e0::es) X.env=(rp,cn e0 X.env)::ax es X.env:=by rfl) (f_:(cx pos (ax es X.env)).any (·.1)=rp:=by rfl) :
  PX X M (.Call (.Name x p) (e0::es) [] pos) (eCl m f) (.new u):=by
 obtain⟨t,pa,qa⟩:=h;refine .mk ⟨_,a7A (b0I W) hr pa hg lN he f_,λU Y H P F d Q S hf q=>?_⟩;obtain⟨ds,h1,hf⟩:=bnd hf;refine qa U Y H P F ds _ S h1 λvs H1 e1 r1=>?_
 show b8q (spD X.K n m u) (vs++[]) H1 Q E0;rw[bK];refine⟨F,S.lst' e1,ds,d,by rw[r1.length,hfl U ds h1,hl],r1,hf,λv H2 fp e o nd fr hz=>q v (a6A F H1 H2) ?_ ?_⟩
 ·intro b o' hb;have wH:=e1 b o' hb;by_cases c:b∈F
  ·rw[a0W c];exact wH
  ·rw[q8 c];exact e b o' (j8 c wH)
 ·have rX:∀a∈fp,a∉F:=λa ha z=>by
   obtain⟨ys,hy⟩:=o.lst u a ha;rw[hz a z]at hy;cases hy
  refine⟨fp,Own.frame (λb o' hb=>?_) u o (λa ha=>q8 (rX a ha)),nd,λa ha=>?_⟩
  ·obtain⟨n1,n2⟩:=p7 hb;have n3:b∉F:=λz=>by rw[hz b z]at n2;cases n2
   exact j8 (λz=>(aB.mp z).elim n1 n3) (by rw[q8 n3];exact n2)
  ·have:=fr a ha;rw[Y0 (rX a ha)]at this;exact e1.free this
end
def Junk(H:Hp)(C:List aw):Prop:=∀a∈C,∀u,H a=cz u->∃o,u=.frz o (.own a)
section
variable {K:af}{H H':Hp}{C F:List aw}
theorem Junk.cut(h:Junk H C):Junk (cut H F) C:=λa ha u e=>h a ha u (p7 e).2
def Junk.out(h:Junk H C)(e:H a=cz u)(n:∀o,u≠.frz o (.own a)):a∉C:=λz=>by
 obtain⟨o,q⟩:=h a z u e;exact n o q
def b2C(h:Junk H C)(q:SqX K H a xs):SqX K (VS.cut H C) a xs:=by
 rcases q with (q|⟨o,q⟩)|q
 ·exact .inl (.inl (j8 (h.out q λo z=>(nomatch z)) q))
 ·exact .inl (.inr ⟨o,j8 (h.out q λo z=>by cases z) q⟩)
 ·exact .inr q
def b2D(h:Junk H C)(q:SqT K H a xs):SqT K (VS.cut H C) a xs:=by
 rcases q with (q|⟨o,q⟩)|q
 ·exact .inl (.inl (j8 (h.out q λo z=>(nomatch z)) q))
 ·exact .inl (.inr ⟨o,j8 (h.out q λo z=>by cases z) q⟩)
 ·exact .inr q
def a3c(h:Junk H C)(q:H a=cz (c9 a es)):VS.cut H C a=cz (c9 a es):=
 j8 (h.out q λo z=>by unfold c9 at z;cases z) q
mutual
theorem Den.junk(h:Junk H C):∀(d:bh) {v:V},Den K H v d->Den K (VS.cut H C) v d
 |.none,_,q=>by simpa only [Den]using q
 |.bool _,_,q=>by simpa only [Den]using q
 |.int _,_,q=>by simpa only [Den]using q
 |.str _,_,q=>by simpa only [Den]using q
 |.list ds,_,q=>by
  obtain⟨a,xs,rfl,h1,h2⟩:=q.list_inv;exact den_list (b2C h h1) (DenAll.junk h ds h2)
 |.tuple ds,_,q=>by
  obtain⟨a,xs,rfl,h1,h2⟩:=q.tup_inv;exact den_tup (b2D h h1) (DenAll.junk h ds h2)
 |.dict kvs,_,q=>by
  obtain⟨a,es,rfl,h1,h2⟩:=q.dict_inv;simp only[Den];exact⟨a,es,rfl,a3c h h1,DenKV.junk h kvs h2⟩
theorem DenAll.junk(h:Junk H C):∀(ds:List bh) {xs:List V},DenAll K H xs ds->DenAll K (VS.cut H C) xs ds
 |[],_,q=>by simpa only [DenAll]using q
 |d::ds,_,q=>by
  obtain⟨v,r,rfl,h1,h2⟩:=q.cons_inv;exact denAll_cons (Den.junk h d h1) (DenAll.junk h ds h2)
theorem DenKV.junk(h:Junk H C):∀(kvs:List (bh×bh)) {es:List (bh×V×V)},DenKV K H es kvs->DenKV K (VS.cut H C) es kvs
 |[],_,q=>by simpa only [DenKV]using q
 | (k,d)::r,_,q=>by
  simp only[DenKV]at q ⊢;obtain⟨x,es,h1,h2,h3,h4,h5⟩:=q;exact⟨x,es,h1,h2,Den.junk h k h3,Den.junk h d h4,DenKV.junk h r h5⟩
end
def b2E(a:aw):VS.cut (VS.cut H C) F a=VS.cut (VS.cut H F) C a:=by
 unfold VS.cut;by_cases h1:a∈F<;>by_cases h2:a∈C<;>simp[h1,h2]
def R5(h:Junk H C)(q:Den K (VS.cut H F) v d):Den K (VS.cut (VS.cut H C) F) v d:=
 (Den.junk h.cut d q).up λa o e=>by rw[b2E];exact e
mutual
theorem Own.junk(h:Junk H C):∀(u:Ty) {v:V} {d:bh} {fp:List aw},Own K H F u v d fp->Own K (VS.cut H C) F u v d fp
 |.i,_,_,_,q=>by simp only[Own]at q ⊢;exact⟨q.1,q.2.1,R5 h q.2.2⟩
 |.f,_,_,_,q=>by simp only[Own]at q ⊢;exact⟨q.1,R5 h q.2⟩
 |.l u,_,_,_,q=>by
  simp only[Own]at q ⊢;rcases q with⟨h1,h2,q⟩|⟨a,xs,ds,fs,rfl,h1,rfl,rfl,h2⟩
  ·exact .inl ⟨h1,h2,R5 h q⟩
  ·exact .inr ⟨a,xs,ds,fs,rfl,j8 (h.out h1 λo z=>(nomatch z)) h1,rfl,rfl,h2.imp λv d f _ _ z=>Own.junk h u z⟩
 |.tp us,_,_,_,q=>by
  simp only[Own]at q ⊢;rcases q with⟨h1,h2,q⟩|⟨a,xs,ds,rfl,h1,h0,rfl,h2⟩
  ·exact .inl ⟨h1,h2,R5 h q⟩
  exact .inr ⟨a,xs,ds,rfl,j8 (h.out h1 λo z=>(nomatch z)) h1,h0,rfl,OwnTs.junk h us h2⟩
 |.d kt u,_,_,_,q=>by
  simp only[Own]at q ⊢;obtain⟨a,es,ds,fs,rfl,h1,rfl,rfl,h3,h2⟩:=q;exact⟨a,es,ds,fs,rfl,a3c h h1,rfl,rfl,⟨h3.1,λx hx=>⟨(h3.2 x hx).1,R5 h (h3.2 x hx).2⟩⟩,h2.imp λv d f _ _ z=>Own.junk h u z⟩
theorem OwnTs.junk(h:Junk H C):∀(us:List Ty) {xs:List V} {ds:List bh} {fp:List aw},OwnTs K H F us xs ds fp->OwnTs K (VS.cut H C) F us xs ds fp
 |[],_,_,_,q=>by simpa only [OwnTs]using q
 |u::us,_,_,_,q=>by
  simp only[OwnTs]at q ⊢;obtain⟨v,r,d,e,f,g,rfl,rfl,rfl,h1,h2⟩:=q;exact⟨v,r,d,e,f,g,rfl,rfl,rfl,Own.junk h u h1,OwnTs.junk h us h2⟩
end
def a6B(k:HOk P w H h)(j:Junk H C):HOk P w (VS.cut H C) h:=λa o e=>by
 obtain⟨na,e'⟩:=p7 e;refine (k a o e').stay (λb u _ q=>q) (λb q=>j8 (j.out q λo z=>(nomatch z)) q) λb u q=>j8 (λhb=>?_) q
 obtain⟨u,hu⟩:=u;obtain⟨ob,z⟩:=j b hb u q;subst z;have qY:b=a:=hu;exact na (qY▸hb)
def b0J(t:TabsIn K H)(j:Junk H C):TabsIn K (VS.cut H C):=λx hx p e=>by
 obtain⟨qs,t',e1,e2⟩:=t x hx p e;exact⟨qs,t',j8 (j.out e1 λo z=>(nomatch z)) e1,e2⟩
end
end VS
namespace VS
open PySem PySem.Spec L2 PyProof.Rows
def FnV(P:bz)(w:bI)(K:af)(mg:bC->Option aj)(base:bQ)(k n:Nat)(u:Ty)(m:List D->Option D)(H:Hp)(v:V):Prop:=
 ∃fa fo,v=.ref fa/\H fa=cz (.frz fo (.own fa))/\(∃fd,fo.data=.func fd)/\
  ∀(A:bD) (outer:List oM) (s:ar) (us:List aj) (vs:List V) (Q:VK) (E:XK),Room k A->Env0 P w K mg base A outer s H->Vals vs us->spD K n m u vs H Q E->
   gL (aX P w) A (.call (.ref fa) ⟨us,[]⟩) (CR CX0 outer P w H s Q E) s
section
variable {X:Cx}{M:List Md}{a e0:Expr}{es:List Expr}{fa:EvE}{f:EvA}{ca:Cat}{u:Ty}{x:bC}{p pos:eS}
def b8s(X:Cx)(i k n:Nat)(u:Ty)(m:List D->Option D)(t:TA):TE:=λY H Q=>∃v,Y[i]?=cz (cz v)/\t Y H λvs H1=>FnV X.prog X.w X.K X.mg X.base k n u m H1 v/\spD X.K n m u vs H1 Q E0
def b2F(hr:Room k X.A)(ha:PA X (e0::es) t)(hN:X.N[i]?=cz x)(hv:Vis X.env.scope x)(hd:(x==("__debug__":bC))=rp)(iG:(x==("__classdict__":bC))=rp)
  (he:ax (e0::es) X.env=(rp,cn e0 X.env)::ax es X.env) (f_:(cx pos (ax es X.env)).any (·.1)=rp):PE X (.Call (.Name x p) (e0::es) [] pos) (b8s X i k n u m t):=by
 intro pins s Y H Q I ⟨v,e,h⟩;refine fF (L2.thn (C7 hN hv hd iG pins s Y H (λv' H'=>v'=v/\H'=H) I ⟨v,e,rfl,rfl⟩) λu1 s1 ⟨v',H',I1,r1,z1,z2⟩=>?_);subst z1;subst z2;rw[he];refine PySem.W.callWith_of (P:=λh=>∃fa fo fd,u1=.ref fa/\h.get? fa=cz fo/\fo.data=.func fd) (by show ((rp||(cx pos (ax es X.env)).any (·.1))||false)=rp;rw[f_];rfl) (λh ⟨fa,fo,fd,q1,q2,q3⟩=>?_) (nS ?_)
 ·subst q1;obtain⟨cls,dict,data,slots⟩:=fo;have C_:data=.func fd:=q3;subst C_;exact⟨.frame,.inl rfl,(PySem.W.Looks.ld (part:=el) q2).andThen .now⟩
 ·have wI:=ha pos pins s1 Y H' _ I1 h;rw[he]at wI;refine L2.thn wI λus s2 ⟨vs,H2,I2,r2,⟨fa,fo,q1,q2,⟨fd,q3⟩,q4⟩,q5⟩=>⟨?_,?_⟩
  ·have yx:u1=.ref fa:=by rw[q1]at r1;exact r1
   exact⟨fa,fo,fd,yx,(I2.hok fa _ q2).1,q3⟩
  ·have yx:u1=.ref fa:=by rw[q1]at r1;exact r1
   subst yx;refine vg (fP (q4 X.A X.stack s2 us vs Q E0 hr I2.env0 r2 q5) λr s' hq=>?_);cases r with
   |error e=>exact cK hq
   |ok fl=>
    cases fl with
    |ret u=>exact I2.after hq
    |next=>exact cK hq
    |brk=>exact cK hq
    |cont=>exact cK hq
def StE.getF{K:af}{U:List D}{Y:L2.St}{H P:Hp}{F:List aw}{Φ:Hp->V->Prop}(h:StE K M U Y H P F){i:Nat}(hm:M[i]?=cz (.fn Φ)):∃v,Y[i]?=cz (cz v)/\∀H',Same (cut H F) H'->Φ H' v:=by
 obtain⟨G,h1,h3⟩:=h.all;obtain⟨d,o,f,pre,post,e1,e2,⟨_,v,rfl,q⟩,e4,_⟩:=h1.at_ hm;exact⟨v,e2,q⟩
def b2G(i:Nat){k n:Nat}{m:List D->Option D}(hr:Room k X.A)(h:PAX X M (e0::es) f)(hm:M[i]?=cz (.fn (FnV X.prog X.w X.K X.mg X.base k n u m)):=by rfl)(hu:u.shut=p4:=by rfl)(hl:(e0::es).length=n:=by rfl)(hfl:∀U ds,f U=cz ds->ds.length=(e0::es).length)
  (hN:X.N[i]?=cz x:=by rfl) (hv:Vis X.env.scope x:=by first|exact bR rfl|exact bT (bR rfl)|exact bT (bT rfl)) (lN:(x==("__debug__":bC))=rp:=by decide) (iG:(x==("__classdict__":bC))=rp:=by decide)
  (he:ax (e0::es) X.env=(rp,cn e0 X.env)::ax es X.env:=by rfl) (f_:(cx pos (ax es X.env)).any (·.1)=rp:=by rfl) :
  PX X M (.Call (.Name x p) (e0::es) [] pos) (eCl m f) (.new u):=by
 obtain⟨t,pa,qa⟩:=h;refine .mk ⟨_,b2F (i:=i) (n:=n) (m:=m) (u:=u) hr pa hN hv lN iG he f_,λU Y H P F d Q S hf q=>?_⟩;obtain⟨ds,h1,hf⟩:=bnd hf;obtain⟨v,DS,DR⟩:=S.getF hm;refine⟨v,DS,qa U Y H P F ds _ S h1 λvs H1 e1 r1=>⟨DR H1 (i8.trans e1),?_⟩⟩;refine⟨ds,d,by rw[r1.length,hfl U ds h1,hl],r1,hf,λv H' fp e o nd fr=>q v H' (e1.trans e) ⟨fp,o.shut_out (λa ha=>?_) u hu,nd,λa ha=>e1.free (fr a ha)⟩⟩;rcases aB.mp ha with z|z
 ·exact o.lst u a z
 ·exact S.lst' (e1.trans e) a z
end
def spL(K:af)(n:Nat)(Φ:(List D->Option D)->Hp->V->Prop)(m:(List D->Option D)->List D->Option D)(u:Ty):Sp:=λvs H Q _=>∃rs v gm ds d,vs=rs++[v]/\rs.length=n/\DenAll K H rs ds/\(∀H',Same H H'->Φ gm H' v)/\m gm ds=cz d/\
 ∀v H' fp,Same H H'->Own K H' fp u v d fp->fp.Nodup->(∀a∈fp,H a=el)->Q v H'
def fnL(us:List Ty)(n:Nat)(g:(List D->Option D)->EvS):(List D->Option D)->List D->Option D:=λgm ds=>if argsOk us ds then (g gm (ds++(.none::aR n .none))).bind λo=>match o with
 |.rt d=>cz d
 |_=>el
 else el
theorem StAll.app{K:af}{H:Hp}{F:List aw}:∀{M1 M2:List Md} {U1 U2:List D} {Y1 Y2:L2.St} {f1 f2:List aw},StAll K H F M1 U1 Y1 f1->StAll K H F M2 U2 Y2 f2->StAll K H F (M1++M2) (U1++U2) (Y1++Y2) (f1++f2)
 |[],_,_,_,_,_,_,_,h,q=>by simp only[StAll]at h;obtain⟨rfl,rfl,rfl⟩:=h;exact q
 |m::M,_,_,_,_,_,_,_,h,q=>by
  simp only[StAll]at h;obtain⟨d,U,o,Y,f,g,rfl,rfl,rfl,h1,h2⟩:=h;rw[bx];exact l6 h1 (StAll.app h2 q)
theorem a2a{K:af}{H:Hp}{F:List aw}:∀n:Nat,StAll K H F (aR n .dead) (aR n .none) (aR n el) []
 |0=>M4
 |n+1=>l6 (f:=[]) (g:=[]) rfl (a2a n)
def b2H{P:bz}{w:bI}{K:af}{mg:bC->Option aj}{base:bQ}{x:bC}{st:hZ}{f:aw}{fd:dD}{N ps:List bC}{k n:Nat}{us:List Ty}{u:Ty}{Φ:(List D->Option D)->Hp->V->Prop}{g:(List D->Option D)->EvS}{M':(List D->Option D)->List Md}(F:Fun K x x st f fd)(S:FnScope N ps (j5 st))(nj:us.length+1=ps.length)(hn:N.length=ps.length+n)
  (hb:∀(gm:List D->Option D) (gk:aj) (A:bD) (outer:List oM) (s:ar) (H:Hp) (E:XK),Room k (A.deeper (jl x (j5 st) s.heap.objs.size f gk))->PSsX (a0C CX0 P w K mg base N x (j5 st) f gk A outer s H E).nox u [] (us.map .own++(.fn (Φ gm)::aR n .dead)) (y6 st) (g gm) (M' gm)) :
  FnOk P w K mg base CX0 (k+1) f fd ps (spL K us.length Φ (fnL us n g) u):=by
 refine F.ok S (λvs H Q E h=>?_) (λgk A outer s H vs Q E hr h=>?_)
 ·obtain⟨rs,v,gm,ds,d,rfl,hl,_⟩:=h;rw[ba,hl];exact nj
 obtain⟨rs,v,gm,ds,d,rfl,hl,hd,hΦ,hm,q⟩:=h;obtain⟨t,p,r⟩:=(hb gm gk A outer s H E hr).out;refine⟨t,p,?_⟩;unfold fnL at hm;by_cases ha:argsOk us ds=p4
 ·rw[aG ha]at hm;obtain⟨o,h1,h2⟩:=bnd hm;cases o with
  |rt d'=>
   have jd:cz d'=cz d:=h2;cases jd
   have e:L2.start N (rs++[v])=rs.map cz++(cz v::aR n el):=by
    unfold L2.start;rw[show N.length-(rs++[v]).length=n by rw[ba,hl];show N.length-(us.length+1)=n;lia];simp
   rw[e];have h0:=T9 (K:=K) (H:=H) ha hd 0;simp only[gR,bK]at h0;have rP:=h0.app (l6 (K:=K) (H:=H) (F:=[]) (m:=.fn (Φ gm)) (d:=iK) (o:=cz v) (f:=[]) ⟨rfl,v,rfl,λH' e'=>hΦ H' (by rw[K8]at e';exact e')⟩ (a2a n));refine r _ _ _ H H [] (.rt d) ⟨⟨_,rP,bu,λa ha=>(nomatch ha)⟩,λa ha=>(nomatch ha),by rw[K8];exact Same.refl H⟩ h1 ?_;exact λv H' fp o nd fr e=>q v H' fp e o nd fr
  |_=>cases h2
 ·rw[aL ha]at hm;cases hm
section
variable {X:Cx}{M:List Md}{e0:Expr}{es:List Expr}{f:EvA}{u:Ty}{x y:bC}{p pv pos:eS}
def a5u:∀(U:List D) ds,g8 U=cz ds->ds.length=0:=λU ds h=>by cases h;rfl
def R6(h:∀U ds,fr U=cz ds->ds.length=n):∀U ds,b8 fa fr U=cz ds->ds.length=n+1:=λU ds q=>by
 obtain⟨x,h1,q⟩:=bnd q;obtain⟨xs,h2,q⟩:=bnd q;cases q
 rw[be,h U xs h2]
noncomputable def PAL(X:Cx)(M:List Md)(es:List Expr)(f:EvA)(Ψ:Hp->V->Prop):Prop:=
 ∃t,PA X es t/\∀(U:List D) (Y:L2.St) (H P:Hp) (F:List aw) (ds:List D) (Q:List V->Hp->Prop),StE X.K M U Y H P F->f U=cz ds->
  (∀vs v H',Same H H'->DenAll X.K H' vs ds->Ψ H' v->Q (vs++[v]) H')->t Y H Q
def R7(ha:PX X M a fa ca)(hr:PAL X M es fr Ψ)(hs:ax (a::es) X.env=(rp,cn a X.env)::ax es X.env:=by rfl):PAL X M (a::es) (b8 fa fr) Ψ:=by
 obtain⟨ta,pa,qa⟩:=ha.out;obtain⟨tr,pr,qr⟩:=hr;refine⟨_,m7 pa pr hs,λU Y H P F ds Q S hf q=>?_⟩;obtain⟨x,h1,hf⟩:=bnd hf;obtain⟨xs,h2,hf⟩:=bnd hf;cases hf
 exact qa U Y H P F _ _ S h1 λv H1 e1 r1=>qr U Y H1 P F _ _ (S.grow e1) h2 λvs w H2 e2 r2 hw=>q (v::vs) w H2 (e1.trans e2) (denAll_cons (r1.den.up e2) r2) hw
def a9h(i:Nat){Φ:Hp->V->Prop}(hm:M[i]?=cz (.fn Φ):=by rfl)(hN:X.N[i]?=cz y:=by rfl)(hv:Vis X.env.scope y:=by first|exact bR rfl|exact bT (bR rfl)|exact bT (bT rfl))(hd:(y==("__debug__":bC))=rp:=by decide)(iG:(y==("__classdict__":bC))=rp:=by decide)
  (hs:ax [.Name y pv] X.env=(rp,cn (.Name y pv) X.env)::ax [] X.env:=by rfl):PAL X M [.Name y pv] g8 λH v=>∀H',Same H H'->Φ H' v:=by
 refine⟨_,m7 (C7 hN hv hd iG) u7 hs,λU Y H P F ds Q S hf q=>?_⟩;cases hf
 obtain⟨v,h1,h2⟩:=S.getF hm;exact⟨v,h1,q [] v H (Same.refl _) denAll_nil λH' e=>h2 H' (i8.trans e)⟩
noncomputable def b0K(m:(List D->Option D)->List D->Option D)(gm:List D->Option D)(f:EvA):EvE:=λU=>(f U).bind (m gm)
def a4y(W:Has X.prog X.w X.K X.mg X.base x k ps (spL X.K n Φ m u))(hr:Room k X.A)(h:PAL X M (e0::es) f λH v=>∀H',Same H H'->Φ gm H' v)(hfl:∀U ds,f U=cz ds->ds.length=n)(hu:u.shut=p4:=by rfl)
  (hg:Gl X x:=by rfl) (lN:(x==("__debug__":bC))=rp:=by decide) (he:ax (e0::es) X.env=(rp,cn e0 X.env)::ax es X.env:=by rfl) (f_:(cx pos (ax es X.env)).any (·.1)=rp:=by rfl) :
  PX X M (.Call (.Name x p) (e0::es) [] pos) (b0K m gm f) (.new u):=by
 obtain⟨t,pa,qa⟩:=h;refine .mk ⟨_,a7A W hr pa hg lN he f_,λU Y H P F d Q S hf q=>?_⟩;obtain⟨ds,h1,hf⟩:=bnd hf;refine qa U Y H P F ds _ S h1 λvs v H1 e1 r1 hΦ=>?_
 show spL X.K n Φ m u ((vs++[v])++[]) H1 Q E0;rw[bK];refine⟨vs,v,gm,ds,d,rfl,by rw[r1.length];exact hfl U ds h1,r1,hΦ,hf,λv H' fp e o nd fr=>q v H' (e1.trans e) ⟨fp,o.shut_out (λa ha=>?_) u hu,nd,λa ha=>e1.free (fr a ha)⟩⟩;rcases aB.mp ha with z|z
 ·exact o.lst u a z
 ·exact S.lst' (e1.trans e) a z
end
def a6C:∀(l r:List aj),km l->km r->km (l++r):=by
 intro l
 fun_induction km l with
 |case1=>intro r _ h;exact h
 |case2 a t b u c rest ih=>intro r h1 h2;simp only[bp,km];exact ih r h1 h2
 |case3=>intro r h;exact h.elim
def b0L:∀(l r:List aj),km l->lR pos (l++r)=cz cv->lR pos l=cz cv\/lR pos r=cz cv:=by
 intro l
 fun_induction km l with
 |case1=>intro r _ h;exact .inr h
 |case2 a t b u c rest ih=>
  intro r h1 h2;simp only[bp,lR]at h2 ⊢
  split at h2
  ·rename_i hc
   rw[aG hc];exact .inl h2
  ·rename_i hc
   rw[aL hc];exact ih r h1 h2
 |case3=>intro r h;exact h.elim
def LamO(q:bC)(params:lZ)(body:Expr)(scope:gh)(clos:List (bC×aw))(H:Hp)(fa:aw):Prop:=
 ∃pm c' mj oc vs t b,H fa=cz (.frz (eL "<lambda>" q params body scope clos pm c' mj) (.own fa))/\H c'=cz (.frz oc (.own b))/\oc.data=.fields vs/\vs[1]?=cz (.str q t)
def LamO.up(h:LamO q params body scope clos H fa)(e:Same H H'):LamO q params body scope clos H' fa:=by
 obtain⟨pm,c',mj,oc,vs,t,b,h1,h2,h3⟩:=h;exact⟨pm,c',mj,oc,vs,t,b,e _ _ h1,e _ _ h2,h3⟩
def c0g(q:bC)(params:lZ)(body:Expr)(scope:gh)(clos:List (bC×aw)):TE:=λ_ H Q=>∀fa H',Same H H'->LamO q params body scope clos H' fa->Q (.ref fa) H'
def b0M{X:Cx}(hx:x∈M9)(hP:C6 X.K x=cz P)(hc:X.env.code=.ref c)(hd:gC X.base c P)(hq:X.env.qual++"<lambda>"=V6 x)
  (rY:pd scope X.env=pure clos) (ue:defaultsOf params X.env=([],[])):PE X (.Lambda params body scope jY) (c0g (V6 x) params body scope clos):=by
 intro pins s Y H Q I h;refine PySem.W.kla_eval ue ?_;rw[hq];obtain⟨qs,t0,e1,e2⟩:=I.tabs x hx P hP;obtain⟨ps,wN,ht,hf⟩:=(show a5T H s.heap P qs from I.hok P _ e1);have wq:s.heap.Ns bM X.mg:=I.mod.glob.keeps I.bk;obtain⟨bm,ob,b1,b2,b3,b4,b5,b6⟩:=I.mod.bmain;have EK:bM≠P:=λq=>by
  obtain⟨o,es,ep,e,lE,_⟩:=wq;rw[q,wN]at e;cases e;cases lE
 have Fh:bm≠P:=λq=>by
  have e:=I.bk _ _ b3;rw[q,wN]at e;cases e;cases b4
 have Fi:bm≠bM:=λq=>by
  obtain⟨o,es,ep,e,lE,_⟩:=I.mod.glob;rw[q,e]at b3;cases b3;rw[lE]at b6;cases b6
 have hB:s.heap.BuiltinsAt X.mg P:=⟨bm,ob,b1,b2,Fi,Fh,I.bk _ _ b3,b4,b5,b6⟩;have hC:gC s.heap c P:=hd.keeps I.bk;cases hn:lR jY ps.toList with
 |some cv=>
  obtain⟨c',oc,vs,q,t,t',rfl,z2,z3,z4,z5⟩:=hf jY cv hn;rw[e2]at z5;have Cy:si (V6 x) t0=si q t':=aK z5;cases Cy
  refine PySem.W.kla_makeFunctionHit (mg:=X.mg) rY I.ok.glob wq hc hC wN ht hn hB λmj h' tk hk hsz=>?_
  have om:H h'.objs.size=el:=I.hok.fresh hsz;have I':=I.laid (a:=h'.objs.size) (o:=.frz (eL "<lambda>" (V6 x) params body scope clos ((X.mg "__name__").getD .none) c' mj) (.own h'.objs.size)) (t':=tk) (h':=h'.push (eL "<lambda>" (V6 x) params body scope clos ((X.mg "__name__").getD .none) c' mj)) (λb u e=>ag _ (hk b u e)) hsz ⟨aH _ rfl,_,aH _ rfl⟩;refine⟨.ref h'.objs.size,_,I',rfl,h _ _ (l9 om _) ⟨_,c',mj,oc,vs,t,P,i7,?_,z3,z4⟩⟩;rw[f8 (o3 z2 om)];exact z2
 |none=>
  refine PySem.W.kla_makeFunction (mg:=X.mg) rY I.ok.glob wq hc hC wN ht hn EK hB λc' mj h' tk DI zC il yU Be=>?_
  obtain⟨c2,oc,vs,t,rc,vW,BC,qX⟩:=yU;cases rc
  have Fq:P<s.heap.objs.size:=aI wN;have wD:H c'=el:=I.hok.fresh zC;have Bz:s.heap.objs.size<=h'.objs.size:=dP (h_ zC il);have om:H h'.objs.size=el:=I.hok.fresh Bz;have gy:c'≠h'.objs.size:=bc il;have low:∀b u,H b=cz u->upd (upd H c' (.frz oc (.own P))) h'.objs.size (.frz (eL "<lambda>" (V6 x) params body scope clos ((X.mg "__name__").getD .none) c' mj) (.own h'.objs.size)) b=cz u:=λb u e=>by
   rw[f8 (o3 e om),f8 (o3 e wD)];exact e
  have yH:∀b,b<s.heap.objs.size->H b=el->upd (upd H c' (.frz oc (.own P))) h'.objs.size (.frz (eL "<lambda>" (V6 x) params body scope clos ((X.mg "__name__").getD .none) c' mj) (.own h'.objs.size)) b=el:=λb hb e=>by
   rw[f8 (bc (bA hb Bz)),f8 (bc (bA hb zC))];exact e
  have kp:∀b o,b≠P->s.heap.get? b=cz o->(h'.push (eL "<lambda>" (V6 x) params body scope clos ((X.mg "__name__").getD .none) c' mj)).get? b=cz o:=λb o hb e=>ag _ (DI b o hb e)
  have nP:∀b,H b=el->b≠P:=λb e z=>by rw[z,e1]at e;cases e
  have I':=I.un (t':=tk) (h':=h'.push (eL "<lambda>" (V6 x) params body scope clos ((X.mg "__name__").getD .none) c' mj)) (H':=upd (upd H c' (.frz oc (.own P))) h'.objs.size (.frz (eL "<lambda>" (V6 x) params body scope clos ((X.mg "__name__").getD .none) c' mj) (.own h'.objs.size)))
   ⟨λb o e n _ _=>kp b o (nP b n) e,λb o e n _ _=>⟨o.slots,kp b o (nP b n) e⟩,λb o e n _=>yH b (aI e) n,λb o e _=>by
    by_cases hb:b=P
    ·exact⟨_,by rw[hb];exact ag _ Be⟩
    ·exact⟨o,kp b o hb e⟩,λb xs e=>low b _ e,λb o u e=>low b _ e,λb Gy e=>⟨#[],by rw[low b _ e];simp⟩⟩ (λb u e=>by
    by_cases wH:b=h'.objs.size
    ·subst wH;rw[i7]at e;cases e
     exact⟨aH _ rfl,_,aH _ rfl⟩
    ·rw[f8 wH]at e;by_cases xS:b=c'
     ·subst xS;rw[i7]at e;cases e
      exact⟨ag _ vW,_,ag _ vW⟩
     ·rw[f8 xS]at e;by_cases BK:b=P
      ·subst BK;rw[e1]at e;cases e
       refine⟨_,ag _ Be,?_,λpos cv z=>?_⟩
       ·have:(ps++#[de jY.line,de jY.col,aZ c']).toList=ps.toList++[de jY.line,de jY.col,aZ c']:=by simp
        rw[this];exact a6C _ _ ht trivial
       ·have:(ps++#[de jY.line,de jY.col,aZ c']).toList=ps.toList++[de jY.line,de jY.col,aZ c']:=by simp
        rw[this]at z;rcases b0L _ _ ht z with z|z
        ·obtain⟨c3,Dj,CF,q3,t3,t4,y1,y2,y3,y4,y5⟩:=hf pos cv z;exact⟨c3,Dj,CF,q3,t3,t4,y1,low _ _ y2,y3,y4,y5⟩
        ·have z':cv=.ref c':=by
          simp only[de,lR]at z
          split at z
          ·exact (aK z).symm
          ·cases z
         refine⟨c',oc,vs,V6 x,t,t0,z',?_,BC,qX,e2⟩;rw[f8 gy,i7]
      ·refine (I.hok b u e).stay (λd v lE q=>kp d v (λz=>?_) q) (λd q=>low _ _ q) λd v q=>low _ _ q
       rcases lE with z'|z'
       ·exact BK (z'.symm.trans z)
       ·rw[z,e1]at z';cases z')
  refine⟨.ref h'.objs.size,_,I',rfl,h _ _ (λb u e=>low b u e) ⟨_,c',mj,oc,vs,t,P,i7,?_,BC,qX⟩⟩;rw[f8 gy,i7]
def a9i(P:bz)(w:bI)(K:af)(mg:bC->Option aj)(base:bQ)(N:List bC)(q:bC)(scope:gh)(f:aw)(cd:aj)(cl:List (bC×aw))(A:bD)(outer:List oM)(s:ar)(H:Hp):Cx where
 prog:=P
 w:=w
 K:=K
 mg:=mg
 base:=base
 A:=A.deeper (jy q scope s.heap.objs.size f cd cl)
 N:=N
 s₀:=s
 H₀:=H
 env:=jy q scope s.heap.objs.size f cd cl
 outer:=outer
 stack:=jy q scope s.heap.objs.size f cd cl::outer
 ex:=[]
 calm:=p4
 fn:=λ_=>rp
 pn:=[]
 xe:=λ_ _=>False
structure LamScope (N ps ys:List bC) (sc:gh) (cl:List (bC×aw)):Prop where
 kind:sc.kind=.function
 co:sc.isCoroutine=rp
 gen:sc.isGenerator=rp
 nd:N.Nodup
 pre:N=ps++ys
 par:∀x∈ps,sc.names.lookup x=cz .local
 fre:∀y∈ys,sc.names.lookup y=cz .free
 ncell:∀x∈sc.names,x.2≠.cell
 has:(sc.names.all λx=>x.2 !=.free||(cl.lookup x.1).isSome)=p4
def CellsIn(cl:List (bC×aw))(H:Hp):List bC->List V->Prop
 |[],vs=>vs=[]
 |y::ys,vs=>∃v r c ob uo,vs=v::r/\cl.lookup y=cz c/\H c=cz (.frz ob (.own c))/\ob.data=.cell (cz uo)/\RelV v uo/\CellsIn cl H ys r
section
variable {cl:List (bC×aw)}{H H':Hp}
theorem CellsIn.up(e:Same H H'):∀{ys:List bC} {vs:List V},CellsIn cl H ys vs->CellsIn cl H' ys vs
 |[],_,h=>h
 |y::ys,_,h=>by
  obtain⟨v,r,c,ob,uo,h1,h2,h3,h4,h5,h6⟩:=h;exact⟨v,r,c,ob,uo,h1,h2,e _ _ h3,h4,h5,CellsIn.up e h6⟩
theorem CellsIn.len:∀{ys:List bC} {vs:List V},CellsIn cl H ys vs->vs.length=ys.length
 |[],_,h=>by rw[show _=[] from h];rfl
 |y::ys,_,h=>by
  obtain⟨v,r,c,ob,uo,rfl,h2,h3,h4,h5,h6⟩:=h;rw[be,be,CellsIn.len h6]
theorem CellsIn.get:∀{ys:List bC} {vs:List V} {i:Nat} {y:bC} {v:V},CellsIn cl H ys vs->ys[i]?=cz y->vs[i]?=cz v->∃c ob uo,cl.lookup y=cz c/\H c=cz (.frz ob (.own c))/\ob.data=.cell (cz uo)/\RelV v uo
 |[],_,i,y,v,_,e,_=>by simp at e
 |y0::ys,_,0,y,v,h,e1,e2=>by
  obtain⟨v',r,c,ob,uo,rfl,h2,h3,h4,h5,h6⟩:=h;have FV:y0=y:=by simpa using e1
  have FU:v'=v:=by simpa using e2
  subst FV FU;exact⟨c,ob,uo,h2,h3,h4,h5⟩
 |y0::ys,_,i+1,y,v,h,e1,e2=>by
  obtain⟨v',r,c,ob,uo,rfl,h2,h3,h4,h5,h6⟩:=h;exact CellsIn.get h6 (by simpa using e1) (by simpa using e2)
end
def b2I(cl:List (bC×aw))(H:Hp):Prop:=∀y c,cl.lookup y=cz c->∃ob uo,H c=cz (.frz ob (.own c))/\ob.data=.cell uo
noncomputable def fnE(us:List Ty)(ri:List D)(f:EvE):List D->Option D:=λds=>if argsOk us ds then f (ds++ri) else el
theorem b6w{K:af}{H:Hp}:∀{vs:List V} {ds:List D},DenAll K H vs ds->StAll K H [] (aR vs.length (.own .f)) ds (vs.map cz) []
 |_,[],h=>by rw[h.nil_inv];exact M4
 |_,d::ds,h=>by
  obtain⟨v,r,rfl,h1,h2⟩:=h.cons_inv;refine l6 (K:=K) (H:=H) (F:=[]) (m:=.own .f) (f:=[]) (g:=[]) ⟨v,rfl,?_⟩ (b6w h2);simp only[Own,K8];exact⟨trivial,h1⟩
theorem a2b:∀(ps:List α) (us:List β),((ps.zip us).map (·.1)).Sublist ps
 |[],_=>by rw[Cn];exact jV _
 |p::ps,[]=>by rw[List.zip_nil_right];exact List.nil_sublist _
 |p::ps,u::us=>by rw[dX,av];exact (a2b ps us).cons₂ p
def a3d{ps:List bC}{us:List aj}:∀{i:Nat} {y:bC} {v:aj},ps.Nodup->ps[i]?=cz y->us[i]?=cz v->(ps.zip us).reverse.lookup y=cz v:=by
 intro i y v nd h1 h2;have hm:(y,v)∈(ps.zip us).reverse:=by
  rw[kC];exact bo (by rw[gM];exact⟨h1,h2⟩)
 have hk:(((ps.zip us).reverse).map (·.1)).Nodup:=by
  rw[Gm];have h0:((ps.zip us).map (·.1)).Nodup:=nd.sublist (a2b ps us);exact List.pairwise_reverse.mpr (h0.imp λz=>dA z)
 have key:∀l:List (bC×aj),(l.map (·.1)).Nodup->(y,v)∈l->l.lookup y=cz v:=by
  intro l
  induction l with
  |nil=>intro _ h;cases h
  |cons p l ih=>
   intro hn hm;rw[av,bt]at hn;obtain⟨k,z⟩:=p;rcases az.mp hm with e|e
   ·cases e;simp[List.lookup]
   ·have:(y==k)=rp:=by
     rw[gP];intro q;exact hn.1 (q▸aO.mpr ⟨_,e,rfl⟩)
    rw[fS,this];exact ih hn.2 e
 exact key _ hk hm
def b5r{P:bz}{w:bI}{K:af}{mg:bC->Option aj}{base:bQ}{k:Nat}{q:bC}{params:lZ}{body:Expr}{scope:gh}{cl:List (bC×aw)}{N ps ys:List bC}{us:List Ty}{u:Ty}{f:EvE}{lF:List V}{ri:List D}{H:Hp}{fa:aw}
  (L:LamO q params body scope cl H fa) (S:LamScope N ps ys scope cl) (tY:∀x y c,cl.lookup x=cz c->cl.lookup y=cz c->x=y) (hC:CellsIn cl H ys lF) (xX:b2I cl H) (hD:DenAll K H lF ri) (nj:us.length=ps.length)
  (ny:∀(pm:aj) (c:aw) (mj:aj) (us:List aj),us.length=ps.length->qO (PySem.W.kla_fn "<lambda>" q params body scope cl pm (.ref c) mj) ⟨us,[]⟩=pure (ps.zip us))
  (hb:∀(c:aw) (A:bD) (outer:List oM) (s:ar) (H:Hp),Room k (A.deeper (jy q scope s.heap.objs.size fa (.ref c) cl))->PX (a9i P w K mg base N q scope fa (.ref c) cl A outer s H) (us.map .own++aR ys.length (.own .f)) body f (.new u)) :
  FnV P w K mg base (k+1) ps.length u (fnE us ri f) H (.ref fa):=by
 obtain⟨pm,c',mj,oc,CG,t0,b0,l1,l2,l3,l4⟩:=L;refine⟨fa,_,rfl,l1,⟨_,rfl⟩,λA outer s as vs Q E hr e0 rv ⟨ds,d,hl,hd,hm,hq⟩=>?_⟩;obtain⟨C,memC,vE⟩:∃C:List aw,(∀c∈C,∃y,cl.lookup y=cz c)/\∀y c,cl.lookup y=cz c->c∈C:=
  ⟨(cl.map (·.1)).filterMap λy=>cl.lookup y,λc hc=>let⟨y,_,e⟩:=dY.mp hc;⟨y,e⟩,λy c e=>dY.mpr ⟨y,aO.mpr ⟨(y,c),bX e,rfl⟩,e⟩⟩
 have J:Junk H C:=λa ha u e=>by
  obtain⟨y,hy⟩:=memC a ha;obtain⟨ob,uo,h1,_⟩:=xX y a hy;rw[h1]at e;cases e
  exact⟨ob,rfl⟩
 have Dw:∀a∈C,∃u,H a=cz u:=λa ha=>by
  obtain⟨y,hy⟩:=memC a ha;obtain⟨ob,uo,h1,_⟩:=xX y a hy;exact⟨_,h1⟩
 have lim:s.heap.NoLimit:=e0.mod.nolimit.keeps λb o e=>(e0.bs b o e).1
 have ho:s.heap.get? fa=cz (eL "<lambda>" q params body scope cl pm c' mj):=(e0.hok fa _ l1).1;have EV:s.heap.CodeRec (.ref c') q:=⟨c',oc,CG,t0,rfl,(e0.hok c' _ l2).1,l3,l4⟩;have qF:as.length=ps.length:=by rw[<-rv.length];exact hl
 have Dn:ps.Nodup:=by have:=S.nd;rw[S.pre]at this;exact this.sublist (kj _ _)
 refine PySem.W.kla_callFunE hr.depth ho rfl S.co S.gen rfl EV ?_;rw[ny pm c' mj as qF];refine ae (wpAny_newFunctionEnv S.ncell (λy hy=>S.par _ (fD hy).1) (λh₁ qg Bh=>⟨lim.fresh _ Bh,?_⟩) S.kind);show gL _ _ (.expr body (jy q scope s.heap.objs.size fa (.ref c') cl)) _ _;have oE:∀b o,s.heap.get? b=cz o->h₁.get? b=cz o:=λb o e=>Bh.extBut b o (bc (aI e)) (ag _ e)
 have tz:∀b:aw,b∉(a9i P w K mg base N q scope fa (.ref c') cl A outer s (VS.cut H C)).ex:=λb z=>absurd (show b∈([]:List aw) from z) (by simp)
 have Ey:N.length=ps.length+ys.length:=by rw[S.pre,ba]
 have I:Inv (a9i P w K mg base N q scope fa (.ref c') cl A outer s (VS.cut H C)) [] (vs.map cz++lF.map cz) (VS.cut H C) {s with heap:=h₁,toks:=s.toks+(ps.zip as).length}:=by
  refine⟨⟨e0.mod,S.kind,rfl,rfl,aE _,tY,λx hx=>?_,λx c hx _=>(nomatch hx),λ_=>hr.hd,bD.frames_deeper e0.frames,.inr ⟨rfl,rfl⟩,λb z=>absurd z (tz b),λb o e=>⟨(e0.bs b o e).1,A3 (e0.bs b o e).2⟩,e0.bsz,λb _ _=>tz b,λb z=>absurd z (tz b),e0.funs,λb hb=>A3 (e0.frf b hb),b0J e0.tabs J⟩,
   rfl,e0.bare,Un.kept oE,⟨_,qg,λi x v h1 h2 h3=>?_⟩,λx c e=>?_,A3 (e0.hok.fresh (aE _)),λx c e=>W3 (vE x c e),λp hp=>absurd (show p∈([]:List (aw×fM)) from hp) (by simp),(a6B e0.hok J).kept oE,?_⟩
  ·have rM:scope.names.lookup x=cz .cell\/scope.names.lookup x=cz .free:=hx;rcases rM with z|z
   ·exact absurd rfl (S.ncell _ (bX z))
   ·have w:=aT.mp S.has _ (bX z);rw[ji]at w;rcases w with w|w
    ·exact absurd (show (fy !=fy)=p4 from w) (by decide)
    ·exact fL.mp w
  ·have lQ:(ps++ys)[i]?=cz x:=by rw[<-S.pre];exact h1
   by_cases hi:i<ps.length
   ·rw[gN hi]at lQ;rw[gN (by rw[au,hl];exact hi),a_]at h2;have jd:vs[i]?=cz v:=by
     cases e:vs[i]? with
     |none=>rw[e]at h2;cases h2
     |some a=>rw[e]at h2;cases h2;rfl
    obtain⟨u',hu,r⟩:=rv.get jd;exact⟨u',r,.inl ⟨S.par x (bo lQ),a3d Dn lQ hu⟩⟩
   ·rw[ff (by lia)]at lQ;rw[ff (by rw[au,hl];lia),au,a_,hl]at h2;have jd:lF[i-ps.length]?=cz v:=by
     cases e:lF[i-ps.length]? with
     |none=>rw[e]at h2;cases h2
     |some a=>rw[e]at h2;cases h2;rfl
    obtain⟨c,ob,uo,z1,z2,z3,z4⟩:=hC.get lQ jd;exact⟨uo,z4,.inr ⟨.inr (S.fre x (bo lQ)),c,z1,ob,oE c ob (e0.hok c _ z2).1,z3⟩⟩
  ·obtain⟨ob,uo,z1,z2⟩:=xX x c e;exact⟨uo,ob,oE c ob (e0.hok c _ z1).1,z2⟩
  ·show _=N.length;rw[ba,au,au,hl,hC.len,Ey]
 obtain⟨t,pt,qt⟩:=(hb c' A outer s (VS.cut H C) (hr.deeper _)).out;unfold fnE at hm;by_cases ha:argsOk us ds=p4
 ·rw[aG ha]at hm;have zN:DenAll K (VS.cut H C) vs ds:=DenAll.junk J ds hd;have E_:DenAll K (VS.cut H C) lF ri:=DenAll.junk J ri hD;have h0:=T9 (K:=K) (H:=VS.cut H C) ha zN 0;simp only[gR,bK]at h0;have h1:=b6w E_;rw[hC.len]at h1;have SE:StE K (us.map .own++aR ys.length (.own .f)) (ds++ri) (vs.map cz++lF.map cz) (VS.cut H C) (VS.cut H C) []:=⟨⟨_,h0.app h1,λa ha=>(nomatch ha)⟩,λa ha=>(nomatch ha),by rw[K8];exact Same.refl _⟩;refine PySem.W.kla_codeExpr (dg (pt [] _ _ (VS.cut H C) (λv H'=>Same (VS.cut H C) H'/\ResR K (.new u) (VS.cut H C) H' [] v d) I (qt (ds++ri) _ (VS.cut H C) (VS.cut H C) [] d _ SE hm λv H' e r=>⟨e,r⟩)) (λv s' hs=>?_) λe s' hs=>(show False from hs).elim);obtain⟨v',H',J',r',e',fp,o,nd,fr⟩:=hs;have oR:∀c∈C,H' c=el:=λc hc=>by
   obtain⟨y,hy⟩:=memC c hc;exact J'.freeC y c hy
  have inn:∀{b:aw} {o:HO},H' b=cz o->a6A C H H' b=cz o:=λ{b o} q=>by
   rw[q8 (λz=>by rw[oR b z]at q;cases q)];exact q
  have nC:∀{b:aw},H b=el->b∉C:=λ{b} n z=>by
   obtain⟨u,hu⟩:=Dw b z;rw[n]at hu;cases hu
  have BY:∀a∈fp,a∉C:=λa ha z=>by
   obtain⟨ys,q⟩:=o.lst u a ha;rw[oR a z]at q;cases q
  refine (show CE outer P w H s Q v s' from⟨v',a6A C H H',J'.os,J'.bare,⟨λb o q n hb hx=>J'.base.keep b o q (A3 n) hb hx,λb o q n hb hx=>J'.base.slot b o q (A3 n) hb hx,λb o q n hx=>?_,J'.base.there,λb xs e=>?_,λb o u e=>?_,λb ps e=>?_⟩,λb o e=>?_,r',hq v' _ fp (λb o e=>?_) ?_ nd λa ha=>?_⟩)
  ·rw[q8 (nC n)];exact J'.base.free b o q (A3 n) hx
  ·have nb:=J.out e λo z=>(nomatch z)
   rw[q8 nb];exact J'.base.tups b xs (j8 nb e)
  ·by_cases hb:b∈C
   ·rw[a0W hb];exact e
   ·rw[q8 hb];exact J'.base.frzs b o u (j8 hb e)
  ·have nb:=J.out e λo z=>(nomatch z)
   obtain⟨more,z⟩:=J'.base.tbls b ps (j8 nb e);exact⟨more,by rw[q8 nb];exact z⟩
  ·by_cases hb:b∈C
   ·rw[a0W hb]at e;obtain⟨ob,rfl⟩:=J b hb o e;have z:=(e0.hok b _ e).1;have z':=J'.base.keep b ob z (W3 hb) (λy=>by rw[e0.frf b y]at e;cases e) (by intro y;exact absurd (show b∈([]:List aw) from y) (by simp));exact⟨z',_,z'⟩
   ·rw[q8 hb]at e;exact (J'.hok b o e).stay (λ_ _ _ q=>q) (λb q=>inn q) λb u q=>inn q
  ·by_cases hb:b∈C
   ·rw[a0W hb];exact e
   ·rw[q8 hb];exact e' b o (j8 hb e)
  ·refine Own.frame (λb o' hb=>?_) u o λa ha=>q8 (BY a ha)
   obtain⟨n1,n2⟩:=p7 hb;exact j8 (λz=>n1 (aJ _ z)) (inn n2)
  ·have:=fr a ha;rw[Y0 (BY a ha)]at this;exact this
 ·rw[aL ha]at hm;cases hm
def a9j(X:Cx)(cl:List (bC×aw)):List bC->List Nat->Prop
 |[],js=>js=[]
 |y::ys,js=>∃j r c,js=j::r/\X.N[j]?=cz y/\X.env.kindOf y=cz .cell/\X.env.cells.lookup y=cz c/\cl.lookup y=cz c/\a9j X cl ys r
def c0h(X:Cx)(cl:List (bC×aw)):Prop:=∀p∈cl,X.env.cells.lookup p.1=cz p.2/\X.fn p.1=p4
def b5s(Y:L2.St):List Nat->List V->Prop
 |[],vs=>vs=[]
 |j::js,vs=>∃v r,vs=v::r/\Y[j]?=cz (cz v)/\b5s Y js r
def b8t(X:Cx)(cl:List (bC×aw))(ys:List bC)(js:List Nat)(sp:Sp)(t:TA):TE:=λY H Q=>t Y H λvs H1=>∃lF,b5s Y js lF/\
 ∀(H2:Hp) (C:List aw),(∀x y c,cl.lookup x=cz c->cl.lookup y=cz c->x=y)->Same H1 H2->CellsIn cl H2 ys lF->b2I cl H2->Junk H2 C->(∀b,b∉C->H2 b=H1 b)->(∀b∈C,H1 b=el)->sp vs H2 (λv H'=>Junk H' C->Q v (VS.cut H' C)) E0
theorem a6D{cl:List (bC×aw)}(I:Inv X pins Y H s)(h2:∀y c,cl.lookup y=cz c->∀ob,s.heap.get? c=cz ob->H2 c=cz (.frz ob (.own c))) :
  ∀{ys:List bC} {js:List Nat} {lF:List V},a9j X cl ys js->b5s Y js lF->CellsIn cl H2 ys lF
 |[],js,lF,h,q=>by
  rw[show js=[] from h]at q;exact q
 |y::ys,_,lF,h,q=>by
  obtain⟨j,r,c,rfl,h1,h3,h4,h5,h6⟩:=h;obtain⟨v,rs,rfl,q1,q2⟩:=q;obtain⟨m,hn,hl⟩:=I.loc;obtain⟨u,ru,lk⟩:=hl j y v h1 q1 (.inr (.inl h3));rcases lk with⟨k,_⟩|⟨k,c',e',ob,z1,z2⟩
  ·rw[h3]at k;cases k
  ·rw[h4]at e';cases e'
   exact⟨v,rs,c,ob,u,rfl,h5,h2 y c h5 ob z1,z2,ru,a6D I h2 h6 q2⟩
section
variable {X:Cx}{k:Nat}{f:aw}{fd:dD}{ps:List bC}{sp:Sp}{x:bC}{p pos:eS}{e:Expr}{es:List Expr}{t:TA}{cl:List (bC×aw)}{ys:List bC}{js:List Nat}
def b2J(F:FnOk X.prog X.w X.K X.mg X.base CX0 k f fd ps sp)(hr:Room k X.A)(hg:Gl X x)(hm:X.mg x=cz (.ref f))(hk:fR X.K (.ref f)=p4)(hb:Binds X.K fd ps [])(ha:PA X (e::es) t)(ug:a9j X cl ys js)(jw:c0h X cl)
  (lN:(x==("__debug__":bC))=rp) (he:ax (e::es) X.env=(rp,cn e X.env)::ax es X.env) (f_:(cx pos (ax es X.env)).any (·.1)=rp) :
  PE X (.Call (.Name x p) (e::es) [] pos) (b8t X cl ys js sp t):=by
 intro pins s0 Y H0 Q I0 h;refine fF (a4Y I0 hg hm ?_ lN);refine Aq (h₀:=X.base) I0.ok.mod.kin hk (L2.thn (ha pos pins s0 Y H0 _ I0 h) λus s ⟨vs,H,I,r,lF,EU,q⟩=>⟨I.kIn,?_⟩) he f_;obtain⟨C,memC,vE⟩:∃C:List aw,(∀c∈C,∃y,cl.lookup y=cz c)/\∀y c,cl.lookup y=cz c->c∈C:=
  ⟨(cl.map (·.1)).filterMap λy=>cl.lookup y,λc hc=>let⟨y,_,e⟩:=dY.mp hc;⟨y,e⟩,λy c e=>dY.mpr ⟨y,aO.mpr ⟨(y,c),bX e,rfl⟩,e⟩⟩
 have oH:∀c∈C,∃y,X.env.cells.lookup y=cz c/\X.fn y=p4:=λc hc=>by
  obtain⟨y,hy⟩:=memC c hc;exact⟨y,jw _ (bX hy)⟩
 have oR:∀c∈C,H c=el:=λc hc=>by
  obtain⟨y,hy,_⟩:=oH c hc;exact I.freeC y c hy
 have mH:∀c∈C,∃ob v,s.heap.get? c=cz ob/\ob.data=.cell v:=λc hc=>by
  obtain⟨y,hy,_⟩:=oH c hc;obtain⟨v,ob,z1,z2⟩:=I.cell y c hy;exact⟨ob,v,z1,z2⟩
 have sQ:∀c∈C,X.s₀.heap.objs.size<=c:=λc hc=>by
  obtain⟨y,hy,hf⟩:=oH c hc;exact I.ok.cab y c hf hy
 obtain⟨H2,qL,mB⟩:∃H2:Hp,(∀c∈C,∀ob,s.heap.get? c=cz ob->H2 c=cz (.frz ob (.own c)))/\∀b,b∉C->H2 b=H b:=
  ⟨λb=>if b∈C then (s.heap.get? b).map (λo=>HO.frz o (.own b)) else H b,λc hc ob z=>by show (if c∈C then _ else _)=_;rw[aG hc,z];rfl,λb hb=>aL hb⟩
 have lH:Same H H2:=λb o e=>by
  rw[mB b (λz=>by rw[oR b z]at e;cases e)];exact e
 have J2:Junk H2 C:=λa hm u e=>by
  obtain⟨ob,v,z1,_⟩:=mH a hm;rw[qL a hm ob z1]at e;cases e
  exact⟨ob,rfl⟩
 have oY:HOk X.prog X.w H2 s.heap:=λb o e=>by
  by_cases hb:b∈C
  ·obtain⟨ob,v,z1,_⟩:=mH b hb;rw[qL b hb ob z1]at e;cases e
   exact⟨z1,_,z1⟩
  ·rw[mB b hb]at e;exact (I.hok b o e).stay (λ_ _ _ q=>q) (λb q=>lH _ _ q) λb u q=>lH _ _ q
 have e0:Env0 X.prog X.w X.K X.mg X.base X.A X.stack s H2:=by
  have z:=I.env0;refine⟨z.frames,z.mod,λb o e=>⟨(z.bs b o e).1,?_⟩,z.bsz,z.funs,λb hb=>?_,oY,z.bare,λx hx p e=>?_⟩
  ·rw[mB b λhc=>absurd (bA (aI e) (cA I.ok.bsz (sQ b hc))) (dt _)];exact (z.bs b o e).2
  ·rw[mB b λhc=>?_]
   ·exact z.frf b hb
   ·rcases az.mp (I.stkSub b hb) with e|e
    ·obtain⟨y,hy,_⟩:=oH b hc;exact I.cne y b hy e
    ·obtain⟨_,o,ho,_⟩:=I.ok.funs.mem e;exact absurd (bA (aI ho) (sQ b hc)) (dt _)
  ·obtain⟨qs,t',e1,e2⟩:=z.tabs x hx p e;exact⟨qs,t',lH _ _ e1,e2⟩
 have pX:=q H2 C (λx y c z1 z2=>I.ok.inj x y c (jw _ (bX z1)).1 (jw _ (bX z2)).1) lH (a6D I (λy c hy ob z=>qL c (vE y c hy) ob z) ug EU) (λy c hy=>by
  obtain⟨ob,v,z1,z2⟩:=mH c (vE y c hy);exact⟨ob,v,qL c (vE y c hy) ob z1,z2⟩) J2 mB oR
 have r2:Vals vs (us++[]):=by rw[bK];exact r
 have hl:(us++[]).length=ps.length:=by rw[<-r2.length];exact F.len _ _ _ _ pX
 refine vg (fP (F.run X.A X.stack s H2 ⟨us,[]⟩ (us++[]) vs _ E0 hr e0 (hb s us I.kIn hl) r2 pX) λr s' hq=>?_);cases r with
 |error e=>exact cK hq
 |ok fl=>
  cases fl with
  |next=>exact cK hq
  |brk=>exact cK hq
  |cont=>exact cK hq
  |ret u=>
   obtain⟨v,H',os,bare,un,qf,rv,qv⟩:=(show CE X.stack X.prog X.w H2 s _ u s' from hq);have fz:∀c∈C,∃ob,s.heap.get? c=cz ob/\H' c=cz (.frz ob (.own c))/\s'.heap.get? c=cz ob:=λc hc=>by
    obtain⟨ob,v,z1,_⟩:=mH c hc;have z2:=un.frzs c ob _ (qL c hc ob z1);exact⟨ob,z1,z2,(qf c _ z2).1⟩
   have J':Junk H' C:=λa hm u e=>by
    obtain⟨ob,_,z,_⟩:=fz a hm;rw[z]at e;cases e
    exact⟨ob,rfl⟩
   have n2:∀b,H b=el->b∉C->H2 b=el:=λb n hb=>by rw[mB b hb];exact n
   have oC:∀b u,H b=cz u->b∉C:=λb u e z=>by rw[oR b z]at e;cases e
   have CI:Un (frs X.stack) [] H (VS.cut H' C) s.heap s'.heap:=by
    refine⟨λb o e n hb hx=>?_,λb o e n hb hx=>?_,λb o e n hx=>?_,un.there,λb xs e=>?_,λb o u e=>?_,λb ps e=>?_⟩
    ·by_cases hc:b∈C
     ·obtain⟨ob,z1,_,z3⟩:=fz b hc;rw[e]at z1;cases z1
      exact z3
     ·exact un.keep b o e (n2 b n hc) hb hx
    ·by_cases hc:b∈C
     ·obtain⟨ob,z1,_,z3⟩:=fz b hc;rw[e]at z1;cases z1
      exact⟨o.slots,z3⟩
     ·exact un.slot b o e (n2 b n hc) hb hx
    ·by_cases hc:b∈C
     ·exact W3 hc
     ·exact A3 (un.free b o e (n2 b n hc) hx)
    ·exact j8 (oC b _ e) (un.tups b xs (lH _ _ e))
    ·exact j8 (oC b _ e) (un.frzs b o u (lH _ _ e))
    ·obtain⟨more,z⟩:=un.tbls b ps (lH _ _ e);exact⟨more,j8 (oC b _ e) z⟩
   exact⟨v,VS.cut H' C,I.call' os CI (a6B qf J') bare (λb z=>absurd z (by simp)),rv,qv J'⟩
end
def Q2(scope:gh)(env:oM):List (bC×aw):=scope.names.foldl (λcs p=>if p.2==.free then (match env.cells.lookup p.1 with|some c=>(p.1,c)::cs|none=>cs) else cs) []
def a8f:∀p∈Q2 scope env,env.cells.lookup p.1=cz p.2:=by
 have key:∀(l:List (bC×ja)) (cs:List (bC×aw)),(∀p∈cs,env.cells.lookup p.1=cz p.2)->∀p∈l.foldl (λcs p=>if p.2==.free then (match env.cells.lookup p.1 with|some c=>(p.1,c)::cs|none=>cs) else cs) cs,env.cells.lookup p.1=cz p.2:=by
  intro l
  induction l with
  |nil=>intro cs h;exact h
  |cons a l ih=>
   intro cs h;rw[pD];refine ih _ λp hp=>?_
   split at hp
   ·split at hp
    ·rename_i c hc
     rcases az.mp hp with e|e
     ·rw[e];exact hc
     ·exact h p e
    ·exact h p hp
   ·exact h p hp
 exact key _ _ λp hp=>(nomatch hp)
def b5t{X:Cx}(om:∀x,X.fn x=p4:=by exact λ_=>rfl):c0h X (Q2 scope X.env):=λp hp=>⟨a8f p hp,om _⟩
section
variable {X:Cx}{M:List Md}{e0:Expr}{es:List Expr}{f:EvA}{u uf:Ty}{x:bC}{p pos jY:eS}{params:lZ}{body:Expr}{scope:gh}{ys:List bC}{js:List Nat}
def b5u(hx:y∈M9)(hP:C6 X.K y=cz P)(hc:X.env.code=.ref c)(hd:gC X.base c P)(hq:X.env.qual++"<lambda>"=V6 y)
  (rY:pd scope X.env=pure (Q2 scope X.env):=by rfl) (ue:defaultsOf params X.env=([],[]):=by rfl) (hs:ax [.Lambda params body scope jY] X.env=(rp,cn (.Lambda params body scope jY) X.env)::ax [] X.env:=by rfl) :
  PAL X M [.Lambda params body scope jY] g8 λH v=>∃fa,v=.ref fa/\LamO (V6 y) params body scope (Q2 scope X.env) H fa:=by
 refine⟨_,m7 (b0M hx hP hc hd hq rY ue) u7 hs,λU Y H P F ds Q S hf q=>?_⟩;cases hf
 exact λfa H' e L=>q [] (.ref fa) H' e denAll_nil ⟨fa,rfl,L⟩
def b8u(M:List Md):List Nat->Prop
 |[]=>True
 |j::js=>(∃w,M[j]?=cz (.own w))/\b8u M js
theorem a9k{K:af}{U:List D}{Y:L2.St}{H P:Hp}{F:List aw}(S:StE K M U Y H P F):∀{js:List Nat},b8u M js->∃lF,b5s Y js lF/\DenAll K H lF (js.map λj=>U.getD j .none)
 |[],_=>⟨[],rfl,denAll_nil⟩
 |j::js,h=>by
  obtain⟨⟨w,hw⟩,h2⟩:=h;obtain⟨v,fp,e,o,_⟩:=S.get hw;obtain⟨lF,q1,q2⟩:=a9k S h2;exact⟨v::lF,⟨v,lF,rfl,e,q1⟩,denAll_cons (o.den w) q2⟩
noncomputable def b5v(m:(List D->Option D)->List D->Option D)(us:List Ty)(js:List Nat)(fb:EvE)(f:EvA):EvE:=λU=>(f U).bind (m (fnE us (js.map λj=>U.getD j .none) fb))
end
def b2K{P:bz}{w:bI}{K:af}{mg:bC->Option aj}{base:bQ}{x:bC}{st:hZ}{f:aw}{fd:dD}{N ps:List bC}{k n:Nat}{us:List Ty}{u:Ty}{g:EvS}{M':List Md}(F:Fun K x x st f fd)(S:FnScope N ps (j5 st))(nj:us.length=ps.length)(hn:N.length=ps.length+n)
  (hb:∀(A:bD) (outer:List oM) (s:ar) (H:Hp) (E:XK),Room k (A.deeper (jl x (j5 st) s.heap.objs.size f fd.code))->PSsX (a0C CX0 P w K mg base N x (j5 st) f fd.code A outer s H E).nox u [] (us.map .own++aR n .dead) (y6 st) g M') :
  FnOk P w K mg base CX0 (k+1) f fd ps (spD K ps.length (fnD us n g) u):=by
 obtain⟨oc,od,kV,doc,pm,an,gk,ct,oS,rfl,lk,iG⟩:=F.ex;refine b6l lk iG S (λvs H Q E ⟨ds,d,hl,_⟩=>hl) λA outer s H vs Q E hr ⟨ds,d,hl,hd,hm,q⟩=>?_
 obtain⟨t,p,r⟩:=(hb A outer s H E hr).out;refine⟨t,p.nox,?_⟩;unfold fnD at hm;by_cases ha:argsOk us ds=p4
 ·rw[aG ha]at hm;obtain⟨o,h1,h2⟩:=bnd hm;cases o with
  |rt d'=>
   have jd:cz d'=cz d:=h2;cases jd
   have e:L2.start N vs=vs.map cz++aR n el:=by
    unfold L2.start;rw[show N.length-vs.length=n by lia]
   rw[e];refine r _ (ds++aR n iK) _ H H [] (.rt d) ⟨⟨[],T9 ha hd n,bu,λa ha=>(nomatch ha)⟩,λa ha=>(nomatch ha),by rw[K8];exact Same.refl H⟩ h1 ?_;exact λv H' fp o nd fr e=>q v H' fp e o nd fr
  |_=>cases h2
 ·rw[aL ha]at hm;cases hm
def b2L{K:af}{base:bQ}{fd:dD}(e:(C6 K x).isSome=p4)(X:K.In base)(G:base.Ns bM mg)(a:gH K bM x=cz (cz (.ref f)))(l:K.lookup f=cz ⟨oc,od,.func fd,sl⟩) :
  ∃c p,fd.code=.ref c/\C6 K x=cz p/\gC base c p:=by
 obtain⟨p,hp⟩:=fL.mp e;obtain⟨f',GH,GG,BZ,AD,c,h1,h2,h3,h4⟩:=a4o hp X G;have h5:=kh X G a;rw[h1]at h5;cases h5
 rw[l]at h2;cases h2
 exact⟨c,p,h3,hp,h4⟩
end VS
namespace VS
open PySem PySem.Spec L2
def a2u:FnOk P w K mg base CX0 k f fd ps (spD K n (λ_=>el) u):=
 ⟨λ_ _ _ _ ⟨_,_,_,_,hm,_⟩=>(nomatch hm),λ_ _ _ _ _ _ _ _ _ _ _ _ _ ⟨_,_,_,_,hm,_⟩=>(nomatch hm)⟩
end VS
namespace VS
open PySem
abbrev Up(xs:List Nat):Prop:=xs.Pairwise (· < ·)
def AtB(xs:List Nat)(j p:Nat):Prop:=p<=xs.length/\(∀i (h:i<xs.length),i<p->xs[i]<j)/\∀i (h:i<xs.length),p<=i->¬ xs[i]<j
def a4z(h:Up xs)(hk:k<xs.length)(hi:i<k):xs[i]<xs[k]:=List.pairwise_iff_getElem.mp h i k (by lia) hk hi
def AtB.uniq(a:AtB xs j p)(b:AtB xs j q):p=q:=by
 rcases Nat.lt_trichotomy p q with c|c|c
 ·exact absurd (b.2.1 p (by have:=b.1;lia) c) (a.2.2 p (by have:=b.1;lia) (aE _))
 ·exact c
 ·exact absurd (a.2.1 q (by have:=a.1;lia) c) (b.2.2 q (by have:=a.1;lia) (aE _))
def b2M{xs:Array Nat}(hs:Up xs.toList):∀(f lo hi:Nat),lo<=hi->hi<=xs.size->hi<=lo+f->(∀i (h:i<xs.toList.length),i<lo->xs.toList[i]<j)->(∀i (h:i<xs.toList.length),hi<=i->¬ xs.toList[i]<j)->
  AtB xs.toList j (qQ xs j f lo hi):=by
 intro f
 induction f with
 |zero=>
  intro lo hi h1 h2 h3 a b;have e:lo=hi:=by lia
  subst e;rw[qQ];exact⟨by simpa using h2,a,b⟩
 |succ f ih=>
  intro lo hi h1 h2 h3 a b;rw[qQ];by_cases c:lo<hi
  ·rw[aG c];have hm:(lo+hi) / 2<xs.size:=by lia
   have rS:(lo+hi) / 2<xs.toList.length:=by simpa using hm
   have eg:xs.getD ((lo+hi) / 2) j=xs.toList[(lo+hi) / 2]:=by simp[Array.getD,hm]
   simp only[eg];by_cases d:xs.toList[(lo+hi) / 2]<j
   ·rw[aG d];refine ih _ _ (by lia) h2 (by lia) (λi kE hl=>?_) b;rcases gI i ((lo+hi) / 2) with z|z
    ·exact fG (a4z hs rS z) d
    ·have:i=(lo+hi) / 2:=by lia
     subst this;exact d
   ·rw[aL d];refine ih _ _ (by lia) (by lia) (by lia) a (λi kE hl=>?_);rcases gI ((lo+hi) / 2) i with z|z
    ·have:=a4z hs kE z;lia
    ·have:i=(lo+hi) / 2:=by lia
     subst this;exact d
  ·rw[aL c];have e:lo=hi:=by lia
   subst e;exact⟨by simpa using h2,a,b⟩
def below_at{xs:Array Nat}(hs:Up xs.toList)(j:Nat):AtB xs.toList j (eQ xs j):=by
 unfold eQ;exact b2M hs _ _ _ (cI _) (aE _) (by lia) (λi _ h=>by lia) (λi h h'=>by simp at h;lia)
def a8g{xs:Array Nat}(hs:Up xs.toList):eQ xs 0=0:=(below_at hs 0).uniq ⟨cI _,λ_ _ h=>by lia,λ_ _ _=>by lia⟩
def a8h{xs:Array Nat}(hs:Up xs.toList)(hi:i<xs.toList.length):eQ xs (xs.toList[i]+1)=i+1:=by
 refine (below_at hs _).uniq ⟨hi,λk hk h=>?_,λk hk h=>?_⟩
 ·rcases gI k i with z|z
  ·have:=a4z hs hi z;lia
  ·have:k=i:=by lia
   subst this;lia
 ·have:=a4z hs hk (show i<k by lia);lia
def b8v(hs:Up xs)(h:AtB xs j p)(hj:j∉xs):Up (xs.take p++j::xs.drop p):=by
 have h1:∀x∈xs.take p,x<j:=λx hx=>by
  obtain⟨i,hi,rfl⟩:=eB.mp hx;rw[dZ]at hi;rw[Co];exact h.2.1 i (by lia) (by lia)
 have h2:∀x∈xs.drop p,j<x:=λx hx=>by
  obtain⟨i,hi,rfl⟩:=eB.mp hx;rw[Gp]at hi;have z:=h.2.2 (p+i) (by lia) (by lia);rw[List.getElem_drop];have:xs[p+i]'(by lia)≠j:=λe=>hj (e▸cH _)
  lia
 rw[Up,lX,jJ];refine⟨hs.take,⟨h2,hs.drop⟩,λa ha b hb=>?_⟩;rcases az.mp hb with rfl|hb
 ·exact h1 a ha
 ·exact fG (h1 a ha) (h2 b hb)
def a6E{t:gB}(hs:Up t.place.toList)(h:∀i,t.slot j≠.live i):j∉t.place.toList:=λhj=>by
 obtain⟨i,hi,e⟩:=eB.mp hj;have hb:eQ t.place j=i:=by
  refine (below_at hs j).uniq ⟨dP hi,λk hk z=>?_,λk hk z=>?_⟩
  ·have:=a4z hs hi z;lia
  ·rcases gI i k with y|y
   ·have:=a4z hs hk y;lia
   ·have:k=i:=by lia
    subst this;lia
 apply h i;have kE:i<t.place.size:=by simpa using hi
 have:t.place[i]?=cz j:=by rw[bG kE,<-e];simp
 simp only[gB.slot,hb,this,fQ,iX]
def b2N{t:gB}:∀(f:Nat) (p:gB.Probe) (j:Nat) (d:Option Nat),(∀x,p.dummy=cz x->t.slot x=.dummy)->gB.probe.go t hs h f p=cz (.empty j d)->t.slot j=.empty/\∀x,d=cz x->t.slot x=.dummy:=by
 intro f
 induction f with
 |zero=>intro p j d _ e;cases e
 |succ f ih=>
  intro p j d hd e;rw[gB.probe.go]at e;have Ck:∀q:gB.Probe,(t.advance q).dummy=q.dummy:=λq=>by unfold gB.advance;split<;>rfl
  split at e
  ·rename_i mL
   cases e
   exact⟨mL,hd⟩
  ·rename_i mL
   exact ih _ j d (λx hx=>by rw[Ck]at hx;cases hx;exact mL) e
  ·split at e
   ·cases e
   ·exact ih _ j d (λx hx=>by rw[Ck]at hx;exact hd x hx) e
def b2O{t:gB}(hs:Up t.place.toList)(e:t.freeSlot h=cz (j,b)):j∉t.place.toList:=by
 unfold gB.freeSlot at e
 split at e
 ·rename_i j' d hp
  unfold gB.probe at hp;obtain⟨h1,h2⟩:=b2N _ _ _ _ (λx hx=>by cases hx) hp;simp only[nL,Prod.mk.injEq]at e;obtain⟨rfl,_⟩:=e;cases d with
  |none=>exact a6E hs λi=>by rw[show t.slot ((el:Option Nat).getD j')=.empty from h1];simp
  |some x=>exact a6E hs λi=>by rw[show t.slot ((cz x:Option Nat).getD j')=.dummy from h2 x rfl];simp
 ·cases e
def b2P(n:Nat):Up (Array.range n).toList:=by rw[Array.toList_range];exact uv
def U3(t:gB)(n:Nat):Up (t.standIn n).place.toList:=b2P n
def b0N{t:gB}(hs:Up t.place.toList)(es:Array (Int×aj))(h:Int)(x:aj):Up (layNew t es h x).2.1.place.toList/\(layNew t es h x).2.1.led=t.led:=by
 unfold layNew
 split
 ·rename_i slot wd e
  have hp:Up (t.put slot).1.place.toList:=by
   show Up (gB.insertAt t.place (eQ t.place slot) slot).toList;rw[gB.toList_insertAt];exact b8v hs (below_at hs slot) (b2O hs e)
  have hl:(t.put slot).1.led=t.led:=rfl
  dsimp only
  unfold gB.orStandIn
  split
  ·exact⟨hp,hl⟩
  ·exact⟨U3 _ _,hl⟩
 ·exact⟨U3 _ _,rfl⟩
def a5v(f:Nat->Option Nat):Up (((aQ n).filterMap λj=>(f j).map (j,·)).map (·.1)):=by
 rw[Up,nO,List.pairwise_filterMap];refine uv.imp λ{a b} pI x hx y hy=>?_
 obtain⟨_,_,rfl⟩:=cV.mp hx;obtain⟨_,_,rfl⟩:=cV.mp hy;exact pI
def b2Q(t:gB)(es:Array (Int×aj))(n:Nat):(Up t.place.toList->Up (nh t es n).2.1.place.toList)/\(nh t es n).2.1.led=t.led:=by
 unfold nh
 split
 ·rename_i t' order e
  unfold gB.relaid gB.laid at e;obtain⟨ow,_,e2⟩:=sZ.mp e;simp only[Option.pure_def,nL,Prod.mk.injEq]at e2;obtain⟨rfl,_⟩:=e2
  dsimp only
  split
  ·refine⟨λ_=>?_,rfl⟩;rw[List.toList_toArray];exact a5v _
  ·exact⟨λ_=>U3 _ _,rfl⟩
 ·exact⟨λ_=>U3 _ _,rfl⟩
end VS
namespace VS
open PySem PySem.Spec L2
open PyProof.Rows (step_dedup firstMet firstMet_zero firstMet_succ firstMet_length_le step_length)
def iOf:aj->Int
 |.int n _=>n
 |_=>0
def EI(l:List (Int×aj))(ms:List Int):Prop:=(∀e∈l,∃n t,e.2=.int n t/\e.1=j_ n)/\(l.map λe=>iOf e.2).Perm ms
def D9(w:bI)(o:fM)(es:Array (Int×aj))(ep:Nat)(t:gB)(P:Prop):Prop:=
 o.ExactSet/\o.data=.set es ep t/\t.fits es.size=p4/\Up t.place.toList/\t.led=!w.params.followText "set-order"/\es.size<ju/\P
abbrev a3e(w:bI)(o:fM)(es:Array (Int×aj))(ep:Nat)(t:gB)(ms:List Int):Prop:=D9 w o es ep t (EI es.toList ms)
def SetI(w:bI)(h:bQ)(a:aw)(ms:List Int):Prop:=∃o es ep t,h.get? a=cz o/\a3e w o es ep t ms
def SetI.at{h h':bQ}(x:SetI w h a ms)(k:∀o,h.get? a=cz o->h'.get? a=cz o):SetI w h' a ms:=let⟨o,es,ep,t,e,r⟩:=x;⟨o,es,ep,t,k _ e,r⟩
def EI.perm{l l':List (Int×aj)}(h:EI l ms)(p:l'.Perm l):EI l' ms:=⟨λe he=>h.1 e (p.mem_iff.mp he),(p.map _).trans h.2⟩
def EI.push{l l':List (Int×aj)}(h:EI l ms)(p:l'.Perm (l++[(j_ n,.int n tk)])):EI l' (ms++[n]):=by
 refine EI.perm (l:=l++[(j_ n,.int n tk)]) ⟨λe he=>?_,?_⟩ p
 ·rcases aB.mp he with z|z
  ·exact h.1 e z
  ·rw[aq]at z;subst z;exact⟨n,tk,rfl,rfl⟩
 ·rw[aW];exact h.2.append (iw _)
def EI.len(h:EI l ms):l.length=ms.length:=by have:=h.2.length_eq;simpa using this
section
variable {prog:bz}{w:bI}{A:bD}{E:aj->ar->Prop}{sh:ar}
def EI.elems(h:EI l ms):ElemsOf (cX prog w) l:=λe he=>by
 obtain⟨n,t,e1,e2⟩:=h.1 e he;rw[e1];exact⟨⟨n,oV _ _ _ _,e2⟩,rfl⟩
def a4A{es fm:Array (Int×aj)}{t t':gB}(ho:sh.heap.get? a=cz o)(r:a3e w o es ep t ms)(f:t'.fits fm.size=p4)(u:Up t'.place.toList)(l:t'.led=t.led)(b:fm.size<ju)(e:EI fm.toList Dq) :
  (sh.heap.update a (xo fm t')).get? a=cz {o with data:=.set fm (ep+1) t'}/\a3e w {o with data:=.set fm (ep+1) t'} fm (ep+1) t' Dq:=by
 refine⟨?_,r.1,rfl,f,u,l.trans r.2.2.2.2.1,b,e⟩;have z:=bS (xo fm t') ho (by rw[putSet_of fm t' r.2.1];rfl)
 rwa[putSet_of fm t' r.2.1]at z
def add_int(hS:SetI w sh.heap a ms)(hr:ms.length+1<ju)
  (q:∀b h',cD a sh.heap h'->SetI w h' a (step_dedup ms n)->Q b {sh with heap:=h'}):aD (aX prog w) A (setAddHashed a (.int n tk) (j_ n)) Q E sh:=by
 obtain⟨o,es,ep,t,ho,r⟩:=hS;obtain⟨_,hd,hf,hu,hl,hb,he⟩:=id r;have BB:ElemsOf (cX prog w) es.toList:=he.elems;have hlen:es.size=ms.length:=by have:=he.len;simpa using this
 unfold setAddHashed setAddHashedIn;refine bL (ab (gK ho hd hf ?_))
 dsimp only
 rw[byScan_of (knd:=cX prog w) (x:=.int n tk) rfl hb BB,aG rfl];unfold setAddByScan;refine ab (ab (dR (ab (wpAny_setScan_of (knd:=cX prog w) (k:=n) (oV _ _ _ _) ho hd hf BB ?_))));cases hj:es.toList.findIdx? λe=>(cX prog w).is n e.2 with
 |some j=>
  dsimp only
  obtain⟨xN,rW,_⟩:=iq.mp hj;have jL:ms.any (· == n)=p4:=by
   obtain⟨n',t',e1,_⟩:=he.1 _ (cH xN);rw[e1]at rW;have hn:n'=n:=(cX prog w).inj _ _ _ (oV prog w n' t') rW;refine cP.mpr ⟨n,he.2.mem_iff.mp (aO.mpr ⟨_,cH xN,?_⟩),fQ n⟩;rw[e1];exact hn
  refine ae (ae ?_);have z:=q rp sh.heap (cD.refl a _) (by rw[step_dedup,aG jL];exact⟨o,es,ep,t,ho,r⟩);exact z
 |none=>
  dsimp only
  have zb:¬ ms.any (· == n)=p4:=λc=>by
   obtain⟨x,h1,h2⟩:=cP.mp c;obtain⟨e,g1,g2⟩:=aO.mp (he.2.mem_iff.mpr h1);obtain⟨n',t',e1,_⟩:=he.1 _ g1;have z:=List.findIdx?_eq_none_iff.mp hj e g1;rw[e1]at z g2;have:n'=n:=(show n'=x from g2).trans (kI.mp h2);subst this;rw[oV]at z;cases z
  have DY:step_dedup ms n=ms++[n]:=by rw[step_dedup,aL zb]
  rw[DY]at q;have p1:=layNew_perm t es (j_ n) (.int n tk);have f1:=layNew_fits t es (j_ n) (.int n tk);obtain⟨u1,l1⟩:=b0N hu es (j_ n) (.int n tk);generalize layNew t es (j_ n) (.int n tk)=L at p1 f1 u1 l1 ⊢;obtain⟨jQ,t1,wd,gv⟩:=L
  dsimp only at p1 f1 u1 l1 ⊢
  rw[Cv]at p1;have e1:EI jQ.toList (ms++[n]):=he.push p1;have z1:jQ.size=ms.length+1:=by have:=e1.len;simpa using this
  have b1:jQ.size<ju:=by lia
  have gw:∀(b:Bool) (s1:ar) (Q':Unit->ar->Prop),Q' () s1->aD (aX prog w) A (match b with|true=>rule "set.scan.the-table-gave-way" | false=>pure ()) Q' E s1:=λb s1 Q' hq=>by
   cases b<;>first|exact ae hq|exact dR hq
  refine ab (gw _ _ _ ?_);have tail:∀(g:Bool->Sem Unit),(∀(b:Bool) (s1:ar) (Q':Unit->ar->Prop),Q' () s1->aD (aX prog w) A (g b) Q' E s1)->∀t2:gB,t2.fits jQ.size=p4->Up t2.place.toList->t2.led=t.led->∀R:Option Bool->ar->Prop,
    (∀h',cD a sh.heap h'->SetI w h' a (ms++[n])->R (cz p4) {sh with heap:=h'})->
    aD (aX prog w) A (storeSet a jQ t2 >>= λ_=>if (!wd&&t2.tooFull)=p4 then (g (nh t2 jQ (gU jQ.size)).2.2 >>= λ_=>storeSet a (nh t2 jQ (gU jQ.size)).1 (nh t2 jQ (gU jQ.size)).2.1 >>= λ_=>pure (cz p4)) else pure (cz p4)) R E sh:=by
   intro g hg t2 f2 u2 l2 R hR;refine ab (wpAny_storeSet_of ho hd ?_ (kX b1));obtain⟨o2,r2⟩:=a4A (sh:=sh) ho r f2 u2 l2 b1 e1;have sb:=bP sh.heap a (xo jQ t2)
   split
   ·have p3:=relayAll_perm t2 jQ (gU jQ.size);have f3:=relayAll_fits t2 jQ (gU jQ.size);obtain⟨u3,l3⟩:=b2Q t2 jQ (gU jQ.size);generalize nh t2 jQ (gU jQ.size)=R3 at p3 f3 u3 l3 ⊢;obtain⟨Ca,t3,g3⟩:=R3
    dsimp only at p3 f3 u3 l3 ⊢
    have e3:EI Ca.toList (ms++[n]):=e1.perm p3;have b3:Ca.size<ju:=by have:=e3.len;rw[ba,uX,cg]at this;lia
    refine ab (hg _ _ _ (ab (wpAny_storeSet_of o2 rfl ?_ (kX b3))));obtain⟨o4,r4⟩:=a4A (sh:={sh with heap:=sh.heap.update a (xo jQ t2)}) o2 r2 f3 (u3 u2) l3 b3 e3;exact ae (hR _ (sb.trans (bP _ a _)) ⟨_,_,_,_,o4,r4⟩)
   ·exact ae (hR _ sb ⟨_,_,_,_,o2,r2⟩)
  split
  ·refine ab ?_;rw[hashByValue_scannable 8 (x:=iJ n tk) rfl];refine ae ?_;refine tail _ ?_ _ ?_ ?_ ?_ _ λh' sb mQ=>ae (q p4 h' sb mQ)
   ·intro b s1 Q' hq;cases b<;>first|exact ae hq|exact dR hq
   ·exact f1
   ·exact u1
   ·exact l1
  ·refine ab (ae ?_);rw[aG rfl];refine tail _ ?_ _ f1 u1 l1 _ λh' sb mQ=>ae (q p4 h' sb mQ)
   intro b s1 Q' hq;cases b<;>first|exact ae hq|exact dR hq
end
end VS
namespace VS
open PySem PySem.Spec L2
open PyProof.Rows (firstMet firstMet_zero firstMet_succ firstMet_length_le IntsAre)
section
variable {prog:bz}{w:bI}{A:bD}{E:aj->ar->Prop}{sh:ar}{R:Gd->ar->Prop}{I:aw}{fp wr:List aw}{G:Array GenState->Array GenState->Prop}{n:Nat}{P:Nat->aj->Prop}{St:Nat->ar->Prop}
def b2R(Wk:WalksS prog w A.in1 I fp wr G n P St)(z:aw)(hz:z∉fp)(val:Nat->Int)(tG:∀i v,P i v->∃t,v=.int (val i) t)(hb:n+1<ju) :
  ∀(k i:Nat) (s:ar),n-i=k->i<=n->St i s->SetI w s.heap z (firstMet val i)->(∀s',Moved (z::wr) G s s'->SetI w s'.heap z (firstMet val n)->R (.ok (.ret .none)) s')->
   gL (aX prog w) A (.builtin "set.update.loop" ⟨[.ref z,.ref I],[]⟩) R s:=by
 have hw:z∉wr:=λh=>hz (Wk.sub _ h)
 have up:∀b∈wr,b∈z::wr:=λb h=>ai _ h
 intro k
 induction k with
 |zero=>
  intro i s hk hi st hS hR;obtain rfl:i=n:=by lia
  refine dN (by exact ml) ?_;rw[dc (by exact gQ) _];show aD _ A.in1 (fT (aZ I) >>= _) _ _ s;refine ab (Wk.done s _ _ st λs' m=>(show aD _ A.in1 (ret cj) _ _ s' from ae (hR s' (m.mono up) (hS.at λo e=>m.heap z o hw e))))
 |succ k ih=>
  intro i s hk hi st hS hR;have lt:i<n:=by lia
  refine dN (by exact ml) ?_;rw[dc (by exact gQ) _];show aD _ A.in1 (fT (aZ I) >>= _) _ _ s;refine ab (Wk.item i s _ _ lt st λv s1 hP CO m=>?_);obtain⟨t,rfl⟩:=tG i v hP;have wM:SetI w s1.heap z (firstMet val i):=hS.at λo e=>m.heap z o hw e
  show aD _ A.in1 (nU [iJ (val i) t] (setAdd z (.int (val i) t)) >>= λ_=>_) _ _ s1;refine ab (bL ?_);unfold setAdd;refine bL (ab ((cX prog w).pyHash (k:=val i) (by exact oV _ _ _ _) ?_));have rm:(firstMet val i).length+1<ju:=by have:=firstMet_length_le val i;lia
  refine add_int (sh:={s1 with toks:=s1.toks+1}) (ms:=firstMet val i) wM rm λb h' sb wL=>?_
  rw[<-firstMet_succ]at wL;refine ae ⟨fw (by exact gQ) _,ih (i+1) _ (by lia) lt (Wk.frame _ s1 _ _ CO (gD _) λc hc o e=>?_) wL λs2 m2 zU=>?_⟩
  ·rw[sb.2 c (λx:c=z=>hz (x▸hc))];exact e
  ·refine hR s2 (Moved.trans Wk.gtrans ((m.mono up).then_heap (gD _) λc o hc e=>?_) m2) zU;rw[sb.2 c (λx:c=z=>hc (x▸ah))];exact e
def a3T(w:bI):fM:={cls:=.type "set",dict:=el,data:=.set #[] 0 (.fresh 0 0 (!w.params.followText "set-order"))}
def b2S(w:bI):a3e w (a3T w) #[] 0 (.fresh 0 0 (!w.params.followText "set-order")) []:=⟨⟨rfl,rfl,rfl⟩,rfl,rfl,jW,rfl,by decide,λe he=>by simp at he,iw _⟩
def b5w(a:aj)(h:Q (.ref sh.heap.objs.size) {sh with heap:=sh.heap.push (a3T w)}) :
  gL (aX prog w) A (.call (.builtin "set.__new__") ⟨[.type "set",a],[]⟩) (wants Q E) sh:=by
 refine codeAny_of_tree (show aD _ A.in1 (checkBuiltinCall "set.__new__" ⟨[.type "set",a],[]⟩ >>= λ_=>again (.builtin "set.__new__" ⟨[.type "set",a],[]⟩)) _ _ sh from ?_);refine ab (sC (by exact F.newCall_set_1 a) (ae ⟨fw (by exact F.plain_set_new) _,dN (by exact F.entry_set_new) ?_⟩));rw[dc (by exact F.plain_set_new) _];unfold Builtin.«set.__new__»;unfold Builtin.Frozenset.newClass;have jw:=@sub_set_self;obtain⟨hp,g,d,tk,os⟩:=sh
 dsimp only
 wp_walk
 refine rB (ae (by
  dsimp only
  simp only[newObj];exact ab (wpAny_alloc (ae (ae h)))))
end
end VS
namespace VS
open PySem PySem.Spec L2
open PyProof.Rows (firstMet IntsAre)
section
variable {prog:bz}{w:bI}{A:bD}{E:aj->ar->Prop}{sh:ar}
def b0O(hh:A.handled=el)(hl:sh.heap.IsList l items)(hi:IntsAre items.toList ns)(hb:items.size+1<ju)
  (h:∀(h':bQ) (tk:Nat),SetI w h' sh.heap.objs.size (firstMet (λi=>ns.getD i 0) items.size)->(∀b o,sh.heap.get? b=cz o->h'.get? b=cz o)->Q (.ref sh.heap.objs.size) {sh with heap:=h',toks:=tk}) :
  aD (aX prog w) A (call (.type "set") [.ref l]) Q E sh:=by
 obtain⟨cl,tl,Eo⟩:=(by exact ia.mro);have g1:=(by exact ia.made);have g2:=(by exact ia.sub);refine vg (codeAny_of_tree (show aD _ _ (callAny (.type "set") _) _ _ _ from ?_));refine ae ⟨Code.quiet_builtin _ (by decide +kernel),dN (by exact F.entry_type_call) ?_⟩;rw[bD.under_plain (by exact weight_type_call_type "set" [.ref l] []) rfl];have g3:=(by exact ia.notType);have g4:=(by exact ia.canCreate);have g5:=(by exact F.typeCall_set_1 (.ref l))
 repeat (any_goals first|assumption|wp_step)
 refine fP (b5w (.ref l) (E:=E) (Q:=λv s1=>v=.ref sh.heap.objs.size/\s1={sh with heap:=sh.heap.push (a3T w)}) ⟨rfl,rfl⟩) λr s1 hr=>?_
 cases r with
 |error e=>exact hr
 |ok fl=>
  cases fl with
  |ret v=>
   obtain⟨rfl,rfl⟩:=hr;have hS:(sh.heap.push (a3T w)).get? sh.heap.objs.size=cz (a3T w):=aH _ rfl;have hT:ly {sh with heap:=sh.heap.push (a3T w)} (.ref sh.heap.objs.size) "set":=⟨_,hS,rfl⟩;have g6:=(by exact ia.init.lookup);have g7:=(by exact ia.init.bind (.ref sh.heap.objs.size))
   repeat (any_goals first|assumption|wp_step)
   refine fP (codeAny_call_builtin (R:=wants (λr s2=>r=.none/\∃h' tk,s2={sh with heap:=h',toks:=tk}/\SetI w h' sh.heap.objs.size (firstMet (λi=>ns.getD i 0) items.size)/\(∀b o,sh.heap.get? b=cz o->h'.get? b=cz o)) E) (by exact ia.init.plain) (by exact F.entry_set_init) (check_set_init_1 hT ?_)) λr2 s2 yV=>?_
   ·obtain⟨ol,Bo,rY,nl,zM⟩:=hl;obtain⟨oc,od,GF,os⟩:=ol;simp only at rY zM;subst rY;subst zM;have yZ:(sh.heap.push (a3T w)).get? l=cz {cls:=.type "list",dict:=od,data:=.seq items nl,slots:=os}:=ag _ Bo;have k1:=(by exact F.sub_list_set);have k2:=(by exact F.sub_list_frozenset);have k3:(dS "list" == dS "dict")=rp:=by decide +kernel
    have rU:(sh.heap.push (a3T w)).IsList l items:=⟨_,yZ,rfl,nl,rfl⟩;unfold Builtin.«set.__init__» noKeywords;unfold Builtin.Frozenset.updateFrom;generalize Ft:rG=PI
    wp_walk
    subst Ft;refine pP rU (ab (m_ ?_));have lt:l<sh.heap.objs.size:=aI Bo;have EF:A.in1.in1.in1.handled=el:=by simp[hh]
    have ne:l≠(sh.heap.push (a3T w)).objs.size:=by rw[cM];exact bc (gj lt)
    have nf:sh.heap.objs.size∉[(sh.heap.push (a3T w)).objs.size,l]:=by
     rw[cM];simp only[az,cG,or_false,not_or];exact⟨bc (kA _),ef lt⟩
    have hv:∀(i:Nat) (v:aj),items[i]?=cz v->∃t,v=.int ((λi=>ns.getD i 0) i) t:=λi v e=>hi.int_at i v (by rw[bZ];exact e)
    refine b2R ((Walks.list EF _ l ne items).toS) sh.heap.objs.size nf (λi=>ns.getD i 0) hv hb (items.size-0) 0 _ rfl (cI _) ⟨⟨_,aH _ rfl,rfl,rfl⟩,rU.push _⟩ ⟨_,_,_,_,ag _ hS,b2S w⟩ λs' m mQ=>?_
    obtain⟨h',g',d',xu,yB⟩:=s';have e1:g'=sh.gens:=m.gens;have e2:d'=sh.drawn:=m.drawn;have e3:yB=sh.os:=m.os;subst e1 e2 e3;show aD _ _ _ _ _ _;refine ae (show aD _ _ (ret cj) _ _ _ from ae ⟨rfl,h',xu,rfl,mQ,λb o e=>?_⟩);have lb:=aI e;refine m.heap b o ?_ (ag _ (ag _ e));simp only[az,cG,or_false,not_or,cM];exact⟨bc lb,bc (gj lb)⟩
   ·cases r2 with
    |error e=>exact yV
    |ok FL=>
     cases FL with
     |ret r=>
      obtain⟨rfl,h',tk,rfl,mQ,q_⟩:=yV
      repeat (any_goals first|assumption|wp_step)
      exact h _ _ mQ q_
     |_=>exact yV.elim
  |_=>exact hr.elim
end
end VS
namespace PySem.F
def entry_set_iterA:wX table "set.__iter__"=cz Builtin.«frozenset.__iter__»:=wW (id':="frozenset.__iter__") (by kernel_rfl) rfl (by decide +kernel) (by kernel_rfl)
def slot_sit_next:Slot "set_iterator" "__next__" "set_iterator.__next__":=Slot.of (owner:="set_iterator") (n:="__next__") (by rw[mv,jn];kernel_rfl) (by decide +kernel) (by decide +kernel) (by decide +kernel) (by first|exact .inl (by decide +kernel)|exact .inr (by decide +kernel)) (by rw[ni];kernel_rfl)
def entry_sit_next:wX table "set_iterator.__next__"=cz Builtin.«set_iterator.__next__»:=entryFor_of_tree (by kernel_rfl)
def a4B:Manifest.owners.lookup (String.ofList ['r','o','t','a','r','e','t','i','_','t','e','s'].reverse)=cz Manifest.sig_set_iterator:=by kernel_rfl
def args_sit_next(a:aj):argsOk "set_iterator.__next__" ⟨[a],[]⟩:=by
 unfold argsOk;rw[signature?_of (id:="set_iterator.__next__") (n:=['_','_','t','x','e','n','_','_']) (o:=['r','o','t','a','r','e','t','i','_','t','e','s']) (by kernel_rfl) (by exact a4B)];kernel_rfl
def slot_sit_iter:Slot "set_iterator" "__iter__" "set_iterator.__iter__":=Slot.of (owner:="set_iterator") (n:="__iter__") (by rw[mv,jn];kernel_rfl) (by decide +kernel) (by decide +kernel) (by decide +kernel) (by first|exact .inl (by decide +kernel)|exact .inr (by decide +kernel)) (by rw[ni];kernel_rfl)
def args_sit_iter(a:aj):argsOk "set_iterator.__iter__" ⟨[a],[]⟩:=by
 unfold argsOk;rw[signature?_of (id:="set_iterator.__iter__") (n:=['_','_','r','e','t','i','_','_']) (o:=['r','o','t','a','r','e','t','i','_','t','e','s']) (by kernel_rfl) (by exact a4B)];kernel_rfl
def entry_sit_iter:wX table "set_iterator.__iter__"=cz Builtin.«dict_keyiterator.__iter__»:=wW (id':="dict_keyiterator.__iter__") (by kernel_rfl) rfl (by decide +kernel) (by kernel_rfl)
end PySem.F
namespace VS
open PySem PySem.Spec L2
theorem a0p:∀{l:List α} {i:Nat} (h:i<l.length),(l[i]::l.eraseIdx i).Perm l
 |a::l,0,_=>by simp
 |a::l,i+1,h=>by
  have h':i<l.length:=by simpa using h
  simp only[List.getElem_cons_succ,List.eraseIdx_cons_succ];exact (List.Perm.swap a l[i] _).trans (List.Perm.cons a (a0p h'))
section
variable {M:Model}{A:bD}{E:aj->ar->Prop}{sh:ar}
def a8i(hn:n≠0)(q:∀i d,i<n->Q i {sh with drawn:=d}):aD M A (choose src n) Q E sh:=λΓ p hΓ=>by
 show Sem.wp M Γ (.choose src n .pure) _ _ p sh;rw[Sem.wp_choose];exact⟨hn,by simpa using q _ _ (Nat.mod_lt _ (Nat.pos_of_ne_zero hn))⟩
def b2T:∀(n:Nat) (xs:List α) (sh:ar) (Q:List α->ar->Prop),n=xs.length->(∀ys d,ys.Perm xs->Q ys {sh with drawn:=d})->aD M A (drawOrder n xs) Q E sh:=by
 intro n
 induction n with
 |zero=>
  intro xs sh Q e q;cases xs with
  |nil=>exact ae (q [] sh.drawn (iw _))
  |cons _ _=>cases e
 |succ n ih=>
  intro xs sh Q e q;cases xs with
  |nil=>cases e
  |cons x xs=>
   rw[drawOrder];refine ab (a8i (by simp) λi d hi=>?_)
   ·rw[ao hi]
    dsimp only
    refine ab (ih _ _ _ (by rw[xp,aG hi];simp only[be]at e ⊢;lia) λys d' hp=>?_);exact ae (q _ _ (by
     refine (List.Perm.cons _ hp).trans ?_;exact a0p hi))
   ·simp
def b5x(next:Nat->Nat):∀(f k:Nat) (left:List α) (out:Array α),f=left.length->(Df next f k left out).toList.Perm (out.toList++left):=by
 intro f
 induction f with
 |zero=>
  intro k left out e;cases left with
  |nil=>simp[Df]
  |cons _ _=>cases e
 |succ f ih=>
  intro k left out e;have h0:0<left.length:=by lia
  have hm:next k % left.length<left.length:=Nat.mod_lt _ h0;rw[Df,ao hm]
  dsimp only
  refine (ih _ _ _ (by rw[xp,aG hm];lia)).trans ?_;rw[Cv,bx];exact va _ (a0p hm)
def b0P(next:Nat->Nat)(xs:Array α):(lI next xs).toList.Perm xs.toList:=by
 have:=b5x next xs.size 0 xs.toList #[] (by simp);simpa[lI]using this
end
def SIt(h:bQ)(it:aw)(first:aj)(i:Nat)(z:aw)(n ep:Nat):Prop:=∃o,h.get? it=cz o/\o.cls=.type "set_iterator"/\o.data=.fields #[first,.int i 0,.ref z,.int n 0,.int ep 0]
section
variable {prog:bz}{w:bI}{A:bD}{E:aj->ar->Prop}{sh:ar}{it z:aw}{first:aj}{i n ep:Nat}{o:fM}{es:Array (Int×aj)}{t:gB}{ms:Prop}
def SIt.at{h h':bQ}(x:SIt h it first i z n ep)(k:∀o,h.get? it=cz o->h'.get? it=cz o):SIt h' it first i z n ep:=let⟨o,e,r⟩:=x;⟨o,k _ e,r⟩
def SIt.typ(x:SIt sh.heap it first i z n ep):sh.TypeIs (.ref it) "set_iterator":=let⟨o,e,r,_⟩:=x;⟨o,e,r⟩
def SIt.put{h:bQ}(hx:∃o,h.get? it=cz o/\o.cls=.type "set_iterator"/\o.data=.fields vs):∃o,(h.update it (Ar (·.setIfInBounds j x))).get? it=cz o/\o.cls=.type "set_iterator"/\o.data=.fields (vs.setIfInBounds j x):=
 let⟨o,e,c,d⟩:=hx;⟨_,bS _ e (mT (gq d _)),(qU ..).trans c,gq d _⟩
def U4(q:Q (w.params.followText "set-order") sh):aD (aX prog w) A setsByText Q E sh:=by
 unfold setsByText;exact ab (rB (ae q))
def a6F(ho:sh.heap.get? z=cz o)(r:D9 w o es ep t ms)(oq:w.params.followText "set-order"=rp)(hp:t.plain=p4\/es.size<=1)(mL:eQ t.place sl=i)
  (q:(∀h:i<es.size,∀nx,eQ t.place nx=i+1->Q (cz (es[i].2,nx)) sh)/\(¬ i<es.size->Q el sh)):aD (aX prog w) A (uC z sl k rg) Q E sh:=by
 obtain⟨_,hd,hf,hu,hl,hb,he⟩:=id r;unfold uC;refine ab (gK ho hd hf (ab (U4 ?_)));rw[oq,aL aY];have zK:¬ (!t.plain&&decide (es.size>1))=p4:=by
  rcases hp with c|c
  ·simp[c]
  ·simp;lia
 dsimp only
 refine ee (λc=>absurd c zK) λ_=>?_
 refine ab (show aD _ _ (if (!t.led&&!es.isEmpty)=p4 then _ else _) _ _ _ from ?_);rw[aL (by rw[hl,oq];simp)];refine ae ?_;have sN:t.place.size=es.size:=by simp only[gB.fits,ak,kI]at hf;exact hf.1
 rw[mL];by_cases c:i<es.size
 ·have c':i<t.place.size:=by lia
  rw[bG c,bG c'];refine ae (q.1 c _ ?_);have:=a8h hu (i:=i) (by simpa using c');simpa using this
 ·rw[eU (by lia)];exact ae (q.2 c)
def a9l(ho:sh.heap.get? z=cz o)(r:D9 w o es ep t ms)(oq:w.params.followText "set-order"=p4)
  (q:Q ((lI (w.params.setOrder z ep) es)[k]?.map λe=>(e.2,sl)) sh):aD (aX prog w) A (uC z sl k ep) Q E sh:=by
 obtain⟨_,hd,hf,_⟩:=id r;unfold uC;refine ab (gK ho hd hf (ab (U4 ?_)));rw[oq,aG rfl];rw[aL (by simp)];refine ab ?_;unfold setWalk;refine ab (gK ho hd hf (ab (U4 ?_)));rw[oq,aG rfl];exact ab (rB (ae (ae q)))
def a6G{v:aj}{Φ:Nat->Prop}{Q:Option aj->ar->Prop}(hI:SIt sh.heap it first i z es.size ep)(ho:sh.heap.get? z=cz o)(r:D9 w o es ep t ms){sl:Nat}(zH:first=.int sl 0)
  (hn:∀(A':bD) (E':aj->ar->Prop) (Q':Option (aj×Nat)->ar->Prop),(∀nx,Φ nx->Q' (cz (v,nx)) sh)->aD (aX prog w) A' (uC z sl i ep) Q' E' sh)
  (q:∀nx h',Φ nx->SIt h' it (.int nx 0) (i+1) z es.size ep->cD it sh.heap h'->Q (cz v) {sh with heap:=h'}):aD (aX prog w) A (fT (.ref it)) Q E sh:=by
 subst zH;obtain⟨x,hx,rL,l_⟩:=id hI;obtain⟨_,hd,hf,_⟩:=id r;unfold fT;refine ab (gG (bH (name:=cf "__next__") hI.typ F.slot_sit_next (bB F.slot_sit_next hI.typ F.entry_sit_next ?_ (F.args_sit_next _))));unfold Builtin.«set_iterator.__next__»;refine ab (m:=vp "__next__" 0 _) (ae ?_);refine ab (iY hx l_ ?_)
 dsimp only
 refine ab (ij ho hd hf ?_);rw[aL (by simp)];simp only[bU];refine ab (hn _ _ _ λnx e=>?_)
 dsimp only
 refine ab (eN hx l_ (by simp) ?_);obtain⟨x1,uG,BH,xQ⟩:=SIt.put (it:=it) (x:=de (nx:Nat)) (j:=0) ⟨x,hx,rL,l_⟩;refine ab (eN uG xQ (by simp) ?_);obtain⟨x2,vM,lj,hd2⟩:=SIt.put (it:=it) (x:=de ((i:Int)+1)) (j:=1) ⟨x1,uG,BH,xQ⟩;refine ae ⟨_,rfl,ae (q nx _ e ⟨x2,vM,lj,?_⟩ ((bP ..).trans (bP ..)))⟩;rw[hd2];simp[de]
def a6H(hh:A.handled=el)(q:∀h',(∀b o,sh.heap.get? b=cz o->h'.get? b=cz o)->Q el {sh with heap:=h'}) :
  aD (aX prog w) A.in1 (Dm (.type "StopIteration") [] >>= λe=>(raiseNew e:Sem PySem.Fin)) (λfin s'=>∃v,fin=Fin.done (Flow.ret v)/\aD (aX prog w) A (pure (cz v)) Q E s') (λe s'=>aD (aX prog w) A (isInstance e (dS "StopIteration") >>= λb=>if b=p4 then pure el else throw e) Q E s') sh:=by
 refine ab ?_;simp only[Dm,newTuple];refine ab (dh ?_ (by size_fits));refine ab (m:=iZ _ _) (sC (a:=cj) (by first|rfl|(simp only[iZ];rfl)) ?_);refine dh ?_ (by size_fits);simp only[raiseNew];refine ab (yp ?_);rw[show A.in1.handled=el from hh];refine ab (ae (wpAny_throw ?_));refine ab (fA (b:=p4) (T:="StopIteration") ⟨_,aH _ rfl,rfl⟩ vC ?_);exact ae (q _ λb o e=>ag _ (ag _ e))
def a9m{Q:Option aj->ar->Prop}(hh:A.handled=el)(hI:SIt sh.heap it first i z es.size ep)(ho:sh.heap.get? z=cz o)(r:D9 w o es ep t ms){sl:Nat}(zH:first=.int sl 0)
  (hn:∀(A':bD) (E':aj->ar->Prop) (Q':Option (aj×Nat)->ar->Prop),Q' el sh->aD (aX prog w) A' (uC z sl i ep) Q' E' sh)
  (q:∀h',tm it sh.heap h'->Q el {sh with heap:=h'}):aD (aX prog w) A (fT (.ref it)) Q E sh:=by
 subst zH;obtain⟨x,hx,rL,l_⟩:=id hI;obtain⟨_,hd,hf,_⟩:=id r;unfold fT;refine ab (gG (bH (name:=cf "__next__") hI.typ F.slot_sit_next (bB F.slot_sit_next hI.typ F.entry_sit_next ?_ (F.args_sit_next _))));unfold Builtin.«set_iterator.__next__»;refine ab (m:=vp "__next__" 0 _) (ae ?_);refine ab (iY hx l_ ?_)
 dsimp only
 refine ab (ij ho hd hf ?_);rw[aL (by simp)];simp only[bU];refine ab (hn _ _ _ ?_)
 dsimp only
 refine ab (eN hx l_ (by simp) ?_);exact a6H hh λh' k=>q h' λb o hb e=>k b o ((bP ..).extBut b o hb e)
def b0Q{ps:List Nat}(hI:SIt sh.heap it (.ref tp) i z es.size ep)(ho:sh.heap.get? z=cz o)(r:D9 w o es ep t ms)(ht:sh.heap.get? tp=cz {cls:=.type "tuple",data:=.seq (ps.map λi=>de (i:Nat)).toArray})(hp:ps[i]?=cz p)(il:p<es.size)
  (q:∀h',SIt h' it (.ref tp) (i+1) z es.size ep->cD it sh.heap h'->Q (cz es[p].2) {sh with heap:=h'}):aD (aX prog w) A (fT (.ref it)) Q E sh:=by
 obtain⟨x,hx,rL,l_⟩:=id hI;obtain⟨_,hd,hf,_⟩:=id r;unfold fT;refine ab (gG (bH (name:=cf "__next__") hI.typ F.slot_sit_next (bB F.slot_sit_next hI.typ F.entry_sit_next ?_ (F.args_sit_next _))));unfold Builtin.«set_iterator.__next__»;refine ab (m:=vp "__next__" 0 _) (ae ?_);refine ab (iY hx l_ ?_)
 dsimp only
 refine ab (ij ho hd hf ?_);rw[aL (by simp)];simp only[bU];refine ab ?_;unfold AE;refine ab (ma ht ?_);refine ae ?_;have e1:(ps.map λi=>de (i:Nat)).toArray[i]?=cz (de (p:Nat)):=by rw[uY,a_,hp];rfl
 dsimp only
 rw[e1];show aD _ _ (setNextDrawn z (p:Int).toNat ep >>= λx=>setField (.ref it) 1 (de ((i:Int)+1)) >>= λ_=>ret x) _ _ _;refine ab ?_;unfold setNextDrawn;refine ab (gK ho hd hf ?_)
 dsimp only
 rw[aL (by simp),bU,bG il];refine ab (ae (ae ?_));refine ab (eN hx l_ (by simp) ?_);obtain⟨x2,vM,lj,hd2⟩:=SIt.put (it:=it) (x:=de ((i:Int)+1)) (j:=1) ⟨x,hx,rL,l_⟩;refine ae ⟨_,rfl,ae (q _ ⟨x2,vM,lj,?_⟩ (bP ..))⟩;rw[hd2];simp[de]
def a5w{ps:List Nat}(hh:A.handled=el)(hI:SIt sh.heap it (.ref tp) i z es.size ep)(ho:sh.heap.get? z=cz o)(r:D9 w o es ep t ms)(ht:sh.heap.get? tp=cz {cls:=.type "tuple",data:=.seq (ps.map λi=>de (i:Nat)).toArray})(hp:ps[i]?=el)
  (q:∀h',tm it sh.heap h'->Q el {sh with heap:=h'}):aD (aX prog w) A (fT (.ref it)) Q E sh:=by
 obtain⟨x,hx,rL,l_⟩:=id hI;obtain⟨_,hd,hf,_⟩:=id r;unfold fT;refine ab (gG (bH (name:=cf "__next__") hI.typ F.slot_sit_next (bB F.slot_sit_next hI.typ F.entry_sit_next ?_ (F.args_sit_next _))));unfold Builtin.«set_iterator.__next__»;refine ab (m:=vp "__next__" 0 _) (ae ?_);refine ab (iY hx l_ ?_)
 dsimp only
 refine ab (ij ho hd hf ?_);rw[aL (by simp)];simp only[bU];refine ab ?_;unfold AE;refine ab (ma ht (ae ?_));have e1:(ps.map λi=>de (i:Nat)).toArray[i]?=el:=by rw[uY,a_,hp];rfl
 dsimp only
 rw[e1]
 dsimp only
 refine ab (eN hx l_ (by simp) ?_);obtain⟨x1,uG,BH,xQ⟩:=SIt.put (it:=it) (x:=de 0) (j:=0) ⟨x,hx,rL,l_⟩;refine ab (eN uG xQ (by simp) ?_);exact a6H hh λh' k=>q h' λb o hb e=>k b o (((bP ..).trans (bP ..)).extBut b o hb e)
def a3f(hI:SIt sh.heap it first i z n ep)(q:Q (.ref it) sh):aD (aX prog w) A (rG (.ref it)) Q E sh:=
 pO hI.typ F.slot_sit_iter (bB F.slot_sit_iter hI.typ F.entry_sit_iter (show aD _ _ (ret (.ref it)) _ _ sh from ae ⟨_,rfl,"set_iterator",_,hI.typ,F.slot_sit_next.lookup,q⟩) (F.args_sit_iter _))
end
section
variable {prog:bz}{w:bI}{A:bD}{E:aj->ar->Prop}{sh:ar}{it z tp:aw}{ep:Nat}{o:fM}{es:Array (Int×aj)}{t:gB}{ms:Prop}
def b2U(hh:A.handled=el)(r:D9 w o es ep t ms)(oq:w.params.followText "set-order"=rp)(hp:t.plain=p4\/es.size<=1)(ne:z≠it) :
  lV prog w A it [it,z] [it] (es.toList.map (·.2)).length (λi v=>(es.toList.map (·.2))[i]?=cz v) (λi h=>(∃sl:Nat,SIt h it (.int sl 0) i z es.size ep/\eQ t.place sl=i)/\h.get? z=cz o) where
 sub:=λb hb=>az.mpr (.inl (aq.mp hb))
 frame:=λ_ _ _ st k=>let⟨⟨sl,a,b⟩,c⟩:=st;⟨⟨sl,a.at λo e=>k it ah o e,b⟩,k z (ai _ ah) _ c⟩
 item:=λi s Q E hi st q=>by
  obtain⟨⟨sl,a,b⟩,c⟩:=st;have kE:i<es.size:=by simpa using hi
  exact a6G (Φ:=λnx=>eQ t.place nx=i+1) (v:=es[i].2) a c r rfl (λA' E' Q' q'=>a6F c r oq hp b ⟨λh nx tP=>q' nx tP,λh=>absurd kE h⟩) λnx h' tP sS sb=>
   q _ h' s.toks (by rw[a_,bZ,bG kE];rfl) ⟨⟨nx,sS,tP⟩,sb.extBut z o ne c⟩ λb o hb e=>sb.extBut b o (λy=>hb (by rw[y];exact aq.mpr rfl)) e
 done:=λs Q E st q=>by
  obtain⟨⟨sl,a,b⟩,c⟩:=st;refine a9m hh a c r rfl (λA' E' Q' q'=>a6F c r oq hp b ⟨λh=>absurd h (by simp),λ_=>q'⟩) λh' he=>q h' s.toks λb o hb e=>he b o (λy=>hb (by rw[y];exact aq.mpr rfl)) e
 self:=λ_ _ _ _ st q=>let⟨⟨_,a,_⟩,_⟩:=st;a3f a q
def b5y(hh:A.handled=el)(r:D9 w o es ep t ms)(oq:w.params.followText "set-order"=p4)(ne:z≠it) :
  lV prog w A it [it,z] [it] ((lI (w.params.setOrder z ep) es).toList.map (·.2)).length (λi v=>((lI (w.params.setOrder z ep) es).toList.map (·.2))[i]?=cz v) (λi h=>SIt h it (.int (0:Nat) 0) i z es.size ep/\h.get? z=cz o) where
 sub:=λb hb=>az.mpr (.inl (aq.mp hb))
 frame:=λ_ _ _ st k=>let⟨a,c⟩:=st;⟨a.at λo e=>k it ah o e,k z (ai _ ah) _ c⟩
 item:=λi s Q E hi st q=>by
  obtain⟨a,c⟩:=st;have kE:i<(lI (w.params.setOrder z ep) es).size:=by simpa using hi
  exact a6G (Φ:=λnx=>nx=0) (v:=(lI (w.params.setOrder z ep) es)[i].2) a c r rfl (λA' E' Q' q'=>a9l c r oq (by rw[bG kE];exact q' 0 rfl)) λnx h' tP sS sb=>
   q _ h' s.toks (by rw[a_,bZ,bG kE];rfl) ⟨tP▸sS,sb.extBut z o ne c⟩ λb o hb e=>sb.extBut b o (λy=>hb (by rw[y];exact aq.mpr rfl)) e
 done:=λs Q E st q=>by
  obtain⟨a,c⟩:=st;refine a9m hh a c r rfl (λA' E' Q' q'=>a9l c r oq (by rw[eU (by simp)];exact q')) λh' he=>q h' s.toks λb o hb e=>he b o (λy=>hb (by rw[y];exact aq.mpr rfl)) e
 self:=λ_ _ _ _ st q=>a3f st.1 q
def b2V{ps:List Nat}(hh:A.handled=el)(r:D9 w o es ep t ms)(sN:∀p∈ps,p<es.size)(ne:z≠it)(ne2:tp≠it) :
  lV prog w A it [it,z,tp] [it] (ps.map λp=>(es.toList.map (·.2)).getD p .none).length (λi v=>(ps.map λp=>(es.toList.map (·.2)).getD p .none)[i]?=cz v) (λi h=>SIt h it (.ref tp) i z es.size ep/\h.get? z=cz o/\h.get? tp=cz {cls:=.type "tuple",data:=.seq (ps.map λi=>de (i:Nat)).toArray}) where
 sub:=λb hb=>az.mpr (.inl (aq.mp hb))
 frame:=λ_ _ _ st k=>let⟨a,c,d⟩:=st;⟨a.at λo e=>k it ah o e,k z (ai _ ah) _ c,k tp (ai _ (ai _ ah)) _ d⟩
 item:=λi s Q E hi st q=>by
  obtain⟨a,c,d⟩:=st;have kE:i<ps.length:=by simpa using hi
  have il:=sN _ (cH kE);exact b0Q (p:=ps[i]) a c r d (ao kE) il λh' sS sb=>
   q _ h' s.toks (by rw[a_,ao kE,Ho,aN,a_,bZ,bG il];rfl) ⟨sS,sb.extBut z o ne c,sb.extBut tp _ ne2 d⟩ λb o hb e=>sb.extBut b o (λy=>hb (by rw[y];exact aq.mpr rfl)) e
 done:=λs Q E st q=>by
  obtain⟨a,c,d⟩:=st;exact a5w hh a c r d (dW (by simp)) λh' he=>q h' s.toks λb o hb e=>he b o (λy=>hb (by rw[y];exact aq.mpr rfl)) e
 self:=λ_ _ _ _ st q=>a3f st.1 q
def b2W(ho:sh.heap.get? z=cz o)(r:D9 w o es ep t ms)
  (q:∀(it:aw) (h':bQ) (d:Drawn) (fp:List aw) (St:Nat->bQ->Prop) (ord:List aj),ord.Perm (es.toList.map (·.2))->(∀A':bD,A'.handled=el->lV prog w A' it fp [it] ord.length (λi v=>ord[i]?=cz v) St)->St 0 h'->sh.heap.objs.size<=it->(∀b∈fp,b=z\/sh.heap.objs.size<=b)->
   (∀b o,sh.heap.get? b=cz o->h'.get? b=cz o)->Q (.ref it) {sh with heap:=h',drawn:=d}):aD (aX prog w) A (rG (.ref z)) Q E sh:=by
 obtain⟨hex,hd,hf,hu,hl,hb,he⟩:=id r;have hT:sh.TypeIs (.ref z) "set":=⟨o,ho,hex.1⟩;have lz:=aI ho;refine pO hT F.slot_set_iter (bB F.slot_set_iter hT F.entry_set_iterA ?_ (F.args_set_iter_1 _));unfold Builtin.«frozenset.__iter__» Builtin.Frozenset.slot0;refine ab (m:=vp "__iter__" 0 _ >>= _) (ab (ae (show aD _ _ (pure z) _ _ _ from ae ?_)));unfold Builtin.Frozenset.sizeOf;refine ab (ab (ij ho hd hf (ae ?_)));unfold setDrawn;refine ab (ab (gK ho hd hf (ab (U4 (ae ?_)))))
 dsimp only
 have tail:∀(first:aj) (uB:ar),uB.heap.get? z=cz o->(∀o1:fM,o1={cls:=.type "set_iterator",data:=.fields #[first,.int (0:Nat) 0,.ref z,.int es.size 0,.int ep 0]}->Q (.ref uB.heap.objs.size) {uB with heap:=uB.heap.push o1})->
   aD (aX prog w) A.in1 (setEpoch z >>= λe=>newFields "set_iterator" [first,de 0,.ref z,de es.size,de e] >>= λv=>ret v) (λfin s'=>∃v,fin=Fin.done (Flow.ret v)/\∃T' r,s'.TypeIs v T'/\oP (dS T') (cf "__next__")=pure (cz r)/\Q v s') E uB:=λfirst uB h1 q1=>by
  refine ab (wpAny_setEpoch_of h1 hd hf ?_);unfold newFields;refine ab (dh (ae ⟨_,rfl,"set_iterator",_,⟨_,aH _ rfl,rfl⟩,F.slot_sit_next.lookup,?_⟩));exact q1 _ (by simp[de])
 refine ee (λc=>?_) λc=>?_
 ·rw[ak]at c;refine ab (b2T _ _ _ _ (by simp) λps d hp=>?_);have iO:∀p∈ps,p<es.size:=λp h=>bO.mp (hp.mem_iff.mp h)
  refine ab (vf ?_ (by rw[au,hp.length_eq,eE];exact kX hb));refine tail _ _ (ag _ ho) λo1 e1=>?_
  refine q _ _ d [(sh.heap.push {cls:=.type "tuple",data:=.seq (ps.map λi=>de (i:Nat)).toArray}).objs.size,z,sh.heap.objs.size] _ _ ?_ (λA' hA=>b2V (ps:=ps) (tp:=sh.heap.objs.size) hA r iO ?_ ?_) ⟨⟨o1,aH _ (by rw[e1];rfl),by rw[e1],by rw[e1]⟩,ag _ (ag _ ho),ag _ (aH _ rfl)⟩ ?_ ?_ λb o e=>ag _ (ag _ e)
  ·exact a3S (l:=es.toList.map (·.2)) (by simpa using hp)
  ·rw[cM];exact bc (gj lz)
  ·rw[cM];exact bc (kA _)
  ·rw[cM];exact gD _
  ·intro b kF;rw[cM]at kF;simp only[az,cG,or_false]at kF;rcases kF with rfl|rfl|rfl
   ·exact .inr (gD _)
   ·exact .inl rfl
   ·exact .inr (aE _)
 ·refine ab (ae (tail _ _ ho λo1 e1=>?_));have xO:∀b∈[sh.heap.objs.size,z],b=z\/sh.heap.objs.size<=b:=by
   intro b kF;simp only[az,cG,or_false]at kF;rcases kF with rfl|rfl
   ·exact .inr (aE _)
   ·exact .inl rfl
  have hI:SIt (sh.heap.push o1) sh.heap.objs.size (.int (0:Nat) 0) 0 z es.size ep:=⟨o1,aH _ (by rw[e1];rfl),by rw[e1],by rw[e1];rfl⟩;have tD:(sh.heap.push o1).get? z=cz o:=ag _ ho;cases oq:w.params.followText "set-order" with
  |true=>
   exact q _ _ sh.drawn [sh.heap.objs.size,z] _ _ ((b0P _ es).map _) (λA' hA=>b5y hA r oq (bc lz)) ⟨hI,tD⟩ (aE _) xO λb o e=>ag _ e
  |false=>
   have f_:t.plain=p4\/es.size<=1:=by
    rw[oq]at c;have c':¬ (!t.plain&&decide (es.size>1))=p4:=λz=>c (show (!false&&(!t.plain&&decide (es.size>1)))=p4 from by rw[z];rfl)
    cases h:t.plain with
    |true=>exact .inl rfl
    |false=>
     rw[h]at c';simp at c';exact .inr (by lia)
   exact q _ _ sh.drawn [sh.heap.objs.size,z] _ _ (iw _) (λA' hA=>b2U hA r oq f_ (bc lz)) ⟨⟨0,hI,a8g hu⟩,tD⟩ (aE _) xO λb o e=>ag _ e
def b2X(hT:sh.TypeIs (.ref z) "set")(h:Q rp sh):aD (aX prog w) A (gO (.ref z)) Q E sh:=by
 unfold gO;refine ab (dy hT (by exact PySem.F.slot_set_len.lookup) ?_);generalize Bw:("set.__len__":String)=DA
 wp_delta
 rw[show splitId DA=cz ("set","__len__") from by subst Bw;decide +kernel];subst Bw;refine ab (fA (T:="set") (b:=p4) hT (by rw[ni];kernel_rfl) (ee (λy=>absurd y (by decide)) λ_=>ee (λ_=>?_) λy=>absurd (by decide +kernel) y));exact ab (hU hT (ae h))
end
end VS
namespace VS
open PySem PySem.Spec L2
open PyProof.Rows (KeyOrd SortKind seqObj size_push' slot_list_sort entry_list_sort args_list_sort kind_sorted plain_sorted entry_sorted args_sorted1)
section
variable {prog:bz}{w:bI}{A:bD}{E:aj->ar->Prop}{sh:ar}{z:aw}{ep:Nat}{o:fM}{es:Array (Int×aj)}{t:gB}{ms:Prop}
def a6I(hh:A.handled=el)(ho:sh.heap.get? z=cz o)(r:D9 w o es ep t ms)
  (q:∀(vs:List aj) (h':bQ) (tk:Nat) (d:Drawn),vs.Perm (es.toList.map (·.2))->Kept sh.heap h'->sh.heap.objs.size<=h'.objs.size->Q vs {sh with heap:=h',toks:=tk,drawn:=d}):aD (aX prog w) A (collect (.ref z)) Q E sh:=by
 have lz:=aI ho
 let L:fM:={cls:=.type "list",data:=.seq #[]}
 have yO:(sh.heap.push L).get? z=cz o:=ag _ ho;have Fn:ly {sh with heap:=sh.heap.push L} (.ref z) "set":=⟨o,yO,r.1.1⟩;have Fc:es.size<=aV:=kX r.2.2.2.2.2.1
 let S:aw:=sh.heap.objs.size
 have key:∀(it:aw) (fp:List aw) (St:Nat->bQ->Prop) (ord:List aj) (d:Drawn) (W:∀A':bD,A'.handled=el->lV prog w A' it fp [it] ord.length (λi v=>ord[i]?=cz v) St),ord.Perm (es.toList.map (·.2))->S∉fp->sh.heap.objs.size<=it->
   ∀(h:bQ) (c1 tk:Nat),St 0 h->(∀b o,b≠S->(sh.heap.push L).get? b=cz o->h.get? b=cz o)->h.get? S=cz {cls:=.type "list",data:=.seq #[] c1}->
   gL (aX prog w) A (.builtin "list.extend.loop" ⟨[.ref S,.ref it,.ref S],[]⟩) (λg s'=>∃(h':bQ) (tk:Nat) (d:Drawn) (acc:Array aj) (c:Nat),g=.ok (.ret (.ref S))/\s'={sh with heap:=h',toks:=tk,drawn:=d}/\h'.get? S=cz {cls:=.type "list",dict:=el,data:=.seq acc c,slots:=#[]}/\Q acc.toList {sh with heap:=h',toks:=tk,drawn:=d}) {sh with heap:=h,toks:=tk,drawn:=d}:=by
  intro it fp St ord d W hp nf hit h c1 tk st k hS;have hn:ord.length<=aV:=by rw[hp.length_eq];simpa using Fc
  refine PySem.codeAny_extend_loopS (W A.in1 (by simpa using hh)).toS hn S nf (.ref S) ord.length 0 _ #[] c1 rfl (cI _) st hS (ItemsOf.nil _) λs' acc c' m mQ mP=>?_
  rw[Moved.eq_with m];refine⟨s'.heap,s'.toks,d,acc,c',rfl,rfl,mQ,?_⟩;have e:acc.toList=ord:=by
   refine nQ λi=>?_
   rw[bZ];by_cases c:i<ord.length
   ·obtain⟨x,hx⟩:∃x,acc[i]?=cz x:=⟨_,bG (by rw[mP.1];exact c)⟩;rw[hx];exact (mP.2 i x hx).symm
   ·rw[eU (by rw[mP.1];lia),dW (by lia)]
  rw[e];refine q ord s'.heap s'.toks d hp (λb o x=>m.heap b o (λhm=>?_) (k b o (bc (aI x)) (ag _ x))) (dP (aI mQ));have lb:=aI x;rcases az.mp hm with e'|e'
  ·exact absurd (e'▸lb) (dt _)
  ·exact absurd lb (by rw[aq.mp e'];exact Nat.not_lt.mpr hit)
 unfold collect;refine ab (m_ (dN (by exact mY) ?_));rw[dc (by exact pL) _];show aD _ A.in1 (newList [] >>= λl=>again (.builtin "list.__iadd__" ⟨[l,.ref z],[]⟩)) _ _ sh;refine ab (dh (ae ⟨fw (by exact ic) _,dN (by exact oJ) ?_⟩));rw[dc (by exact ic) _];show aD _ A.in1 (dq (.ref S) (.ref z) (.ref S)) _ _ {sh with heap:=sh.heap.push L};have BN:S≠z:=ef lz;unfold dq;refine ab (hU (T:="set") Fn ?_);have h1:ix (.ref S) (.ref z)=rp:=by simp[ix,BN]
 simp only[h1,show (dS "set" == dS "list")=rp from by decide,show (dS "set" == dS "tuple")=rp from by decide,Bool.or_false,cW,fO];refine ab (b2W (sh:={sh with heap:=sh.heap.push L}) yO r λit h' d fp St ord hp W st hit xO k=>?_);have qw:sh.heap.objs.size<=it:=cA (by show _<=(sh.heap.push L).objs.size;rw[cM];exact gD _) hit;have nf:S∉fp:=λy=>by
  rcases xO S y with e|e
  ·exact BN e
  ·have e':(sh.heap.push L).objs.size<=S:=e;rw[cM]at e';exact absurd e' (Nat.not_succ_le_self _)
 have wM:h'.get? S=cz {cls:=.type "list",data:=.seq #[] 0}:=k S _ (aH _ rfl);have tD:h'.get? z=cz o:=k z _ yO;have last:∀(h2:bQ) (c1:Nat),St 0 h2->(∀b o,b≠S->(sh.heap.push L).get? b=cz o->h2.get? b=cz o)->h2.get? S=cz {cls:=.type "list",data:=.seq #[] c1}->_:=λh2 c1 a b c=>fP (key it fp St ord d W hp nf qw h2 c1 sh.toks a b c) (R':=λr s'=>match r with
       |Except.ok (Flow.ret v)=>aD (aX prog w) A (match v with|aZ a=>load a >>= λu=>(match u.data with|Data.seq xs _=>pure xs.toList|_=>sF "internal:collect")|_=>sF "internal:collect") Q E s'
       |Except.ok _=>False
       |Except.error e=>E e s') λg s2 y=>by
  obtain⟨h3,tk,d3,acc,c,rfl,rfl,e1,qq⟩:=y;show aD _ A (load S >>= _) _ _ _;exact ab (ma e1 (ae qq))
 refine ab (bL (b2X ⟨o,tD,r.1.1⟩ ?_));refine ee (λ_=>?_) (λ_=>ae ⟨fw (by exact rq) _,last h' 0 st (λb o _ e=>k b o e) wM⟩);refine ab (dR (ab ?_));show aD _ _ (rC S (·.push .none) >>= λ_=>rC S (·.pop)) _ _ _;refine ab (jN wM rfl ?_);have wL:=bS (gX (·.push cj)) wM rfl;refine jN (hz:=by seq_fits) wL rfl ?_;have zU:=bS (gX (·.pop)) wL rfl;refine ae ⟨fw (by exact rq) _,last _ _ ?_ (λb o hb e=>?_) zU⟩
 ·exact (W A hh).frame 0 _ _ st λb hb o e=>by
   have BJ:S≠b:=λy=>nf (by rw[y];exact hb)
   exact (dC _ _ BJ).trans ((dC _ _ BJ).trans e)
 ·exact (dC _ _ (dA hb)).trans ((dC _ _ (dA hb)).trans (k b o e))
end
end VS
namespace VS
open PySem PySem.Spec L2
open PyProof.Rows (KeyOrd SortKind seqObj size_push' slot_list_sort entry_list_sort args_list_sort kind_sorted plain_sorted entry_sorted args_sorted1 IntsAre firstMet)
section
variable {prog:bz}{w:bI}{A:bD}{E:aj->ar->Prop}{sh:ar}{z:aw}{ep:Nat}{o:fM}{es:Array (Int×aj)}{t:gB}{ms:List Int}
def b5z(he:EI l ms){vs:List aj}(hp:vs.Perm (l.map (·.2))):(∀v∈vs,∃n tk,v=.int n tk)/\(vs.map iOf).Perm ms:=by
 refine⟨λv hv=>?_,(hp.map iOf).trans ?_⟩
 ·obtain⟨e,h1,rfl⟩:=aO.mp (hp.mem_iff.mp hv);obtain⟨n,tk,h2,_⟩:=he.1 e h1;exact⟨n,tk,h2⟩
 ·rw[bF];exact he.2
theorem a9n:∀{vs:List aj},(∀v∈vs,∃n tk,v=.int n tk)->IntsAre vs (vs.map iOf)
 |[],_=>.nil
 |v::vs,h=>by
  obtain⟨n,tk,rfl⟩:=h v ah;exact .cons n tk (a9n λx hx=>h x (ai _ hx))
def a8j(hh:A.handled=el)(ho:sh.heap.get? z=cz o)(r:a3e w o es ep t ms)(zY:ms.length<64)
  (q:∀(vs:List aj) (h':bQ) (tk e:Nat) (d:Drawn) (y:aw),IntsAre vs (srt ms)->Kept sh.heap h'->sh.heap.objs.size<=y->h'.get? y=cz (uD "list" vs.toArray e)->Q (.ref y) {sh with heap:=h',toks:=tk,drawn:=d}) :
  aD (aX prog w) A (call (.builtin "sorted") [.ref z]) Q E sh:=by
 refine kT kind_sorted plain_sorted entry_sorted (args_sorted1 _) ?_;unfold Builtin.«sorted»;refine ab (m:=checkCount "sorted" 1 1 _) (ae ?_);refine ab (a6I (A:=A.in1) (by simpa using hh) ho r λvs h1 tk d hp k1 z1=>?_);obtain⟨i1,i2⟩:=b5z r.2.2.2.2.2.2 hp;have hl:vs.length<64:=by have:=i2.length_eq;rw[au]at this;lia
 refine ab (wpAny_newList ?_ (by rw[cR];lia));have oL:(h1.push (uD "list" vs.toArray 0)).get? h1.objs.size=cz (uD "list" vs.toArray 0):=aH _ rfl;refine ab (bL (bB slot_list_sort ⟨_,oL,rfl⟩ entry_list_sort (pN (s:={sh with heap:=h1.push (uD "list" vs.toArray 0),toks:=tk,drawn:=d}) oL (a9n i1) hl λout Dk a1 a2 a3=>⟨_,rfl,?_⟩) (args_list_sort _)));obtain⟨e,jD⟩:=qT (out:=out) oL;refine ae ⟨_,rfl,q out.toList _ tk e d h1.objs.size ?_ (λb u hb=>?_) z1 (by rw[jc];exact jD)⟩
 ·rw[<-a6r (a2.trans i2) a3];exact a1
 ·have kF:=k1.push (uD "list" vs.toArray 0) b u hb;have:=aI hb;exact (pM (bc (bA (aI hb) z1)) (aI kF)).trans kF
end
section
variable {X:Cx}{M:List Md}{a:Expr}{fa:EvE}{ca:Cat}{pos hW p p2:eS}{pins:List (aw×fM)}{Y:L2.St}{H:Hp}{s:ar}
def b0R(I:Inv X pins Y H s)(d:Drawn):Inv X pins Y H {s with drawn:=d}:=⟨I.ok,I.os,I.bare,I.base,I.loc,I.cell,I.free,I.freeC,I.pin,I.hok,I.len⟩
def b0S(hc:X.calm=p4):CallR X (.type "set") (λxs H Q=>∃(p:aw) (ns:List Int),xs=[.ref p]/\SqX X.K H p (ns.map V.int)/\ns.length<4000/\∀z,H z=el->Q (.ref z) (upd H z (.ext λh=>SetI X.w h z (dis ns)))):=by
 intro pins s Y H xs us Q I rv h;obtain⟨p,ns,rfl,hp,hn,q⟩:=h;obtain⟨u,rfl,rx⟩:=vals1 rv;cases (show u=aZ p from rx)
 obtain⟨_,cE,n,qW,ho⟩:=hp.ok I;have hl:s.heap.IsList p cE.toArray:=⟨_,ho,rfl,n,rfl⟩;have hlen:cE.length=ns.length:=by have:=qW.length;rw[au]at this;exact this.symm
 refine b0O (ns:=ns) (I.ok.hd hc) hl (by simpa using a4t qW) (by rw[br,hlen];unfold ju;lia) λh' tk hS hk=>?_
 have qx:H s.heap.objs.size=el:=I.hok.fresh (aE _);have hsz:cE.toArray.size=ns.length:=by rw[br];exact hlen
 rw[hsz]at hS;exact⟨.ref s.heap.objs.size,_,I.laid (a:=s.heap.objs.size) (o:=.ext λh=>SetI X.w h s.heap.objs.size (dis ns)) (t':=tk) hk (aE _) ⟨hS,let⟨o,_,_,_,e,_⟩:=hS;⟨o,e⟩,λ_ _ x k=>x.at k⟩,rfl,q _ qx⟩
def a8k(hc:X.calm=p4):CallR X (.builtin "sorted") (λxs H Q=>∃p ms,xs=[V.ref p]/\H p=cz (.ext λh=>SetI X.w h p ms)/\ms.length<64/\∀z,H z=el->Q (.ref z) (upd H z (.lst ((srt ms).map V.int)))):=by
 intro pins s Y H xs us Q I rv h;obtain⟨p,ms,rfl,hH,zY,q⟩:=h;obtain⟨u,rfl,rx⟩:=vals1 rv;cases (show u=aZ p from rx)
 obtain⟨⟨o,es,ep,t,ho,r⟩,_,_⟩:=(show (SetI X.w s.heap p ms)/\_/\_ from I.hok p _ hH);refine a8j (I.ok.hd hc) ho r zY λvs h' tk e d y hi hk hy hl=>?_
 have hn:H y=el:=I.hok.fresh hy;have mL:((srt ms).map V.int).length<=aV:=by rw[au,(k9 ms).length_eq,cR];lia
 exact⟨.ref y,_,b0R (I.laid (a:=y) (o:=.lst ((srt ms).map V.int)) (t':=tk) hk hy ⟨mL,vs,e,vals_ints hi,hl⟩) d,rfl,q _ hn⟩
noncomputable def a0X(a:EvE):EvE:=λU=>(a U).bind λd=>(asL d).bind λds=>(intsOf ds).bind λns=>if ns.length<64 then cz (.list ((srt (dis ns)).map .int)) else el
def b8w(ns:List Int):(dis ns).length<=ns.length:=PyProof.Rows.firstMet_length_le _ _
def a8l(hc:X.calm=p4)(hm:X.mg "set"=el)(Er:X.mg "sorted"=el)(ha:PX X M a fa ca)(hg:Gl X "set":=by rfl)(zA:Gl X "sorted":=by rfl)(he:ax [a] X.env=(rp,cn a X.env)::ax [] X.env:=by rfl)(f_:(cx hW (ax [] X.env)).any (·.1)=rp:=by rfl)
  (lK:ax [.Call (.Name "set" p2) [a] [] hW] X.env=(rp,cn (.Call (.Name "set" p2) [a] [] hW) X.env)::ax [] X.env:=by rfl) (p_:(cx pos (ax [] X.env)).any (·.1)=rp:=by rfl) :
  PX X M (.Call (.Name "sorted" p) [.Call (.Name "set" p2) [a] [] hW] [] pos) (a0X fa) (.new (.l .i)):=by
 obtain⟨ta,pa,qa⟩:=ha.out;refine .mk ⟨_,V9 (a8k hc) zA Er PyProof.Rows.Boot.«sorted» (m7 (M3 (b0S hc) hg hm PyProof.Rows.Boot.«set» (m7 pa u7 he) (by decide) (by decide) he f_) u7 lK) (by decide) (by decide) lK p_,λU Y H P F d Q S hf q=>?_⟩;obtain⟨x,h1,g1⟩:=bnd hf;obtain⟨ds,h2,g2⟩:=bnd g1;obtain⟨ns,h3,g3⟩:=bnd g2;cases R0 h2
 cases B9 h3
 by_cases c:ns.length<64
 ·rw[aG c]at g3;cases g3
  refine qa U Y H P F _ _ S h1 λv H1 e1 r1=>?_
  obtain⟨pp,xs,rfl,k1,k2⟩:=r1.den.list_inv;cases W9 k2
  refine⟨pp,ns,rfl,k1,by lia,λz hz=>⟨z,_,rfl,i7,by have:=b8w ns;lia,λy hy=>?_⟩⟩;have e2:=e1.trans (l9 hz (.ext λh=>SetI X.w h z (dis ns)));refine q _ _ (e2.trans (l9 hy _)) (Q8 ?_ (b8g _) e2 hy (S.lst' e2));have:∀(H':Hp) (ms:List Int),DenAll X.K H' (ms.map V.int) (ms.map aF):=by
   intro H' ms
   induction ms with
   |nil=>exact denAll_nil
   |cons n ms ih=>exact denAll_cons den_int ih
  exact this _ _
 ·rw[aL c]at g3;cases g3
end
end VS
namespace VS
open PySem PySem.Spec L2
section
variable {X:Cx}{M:List Md}{a b:Expr}{fa fb:EvE}{ca cb:Cat}{pos p:eS}
def b5A:OpR X (eO .Add) (λx y H Q=>∃a b ys,x=.ref a/\y=.ref b/\SqT X.K H a []/\SqT X.K H b ys/\Q (.ref b) H):=by
 intro pins s Y H x y v u Q I rx ry h;obtain⟨a,b,ys,rfl,rfl,ha,hb,q⟩:=h;cases rx
 cases ry
 obtain⟨cE,r1,p1,_⟩:=I.tuple ha;obtain⟨mK,r2,p2,_⟩:=I.tuple hb;cases r1
 obtain⟨⟨cls,dd,data,sl⟩,ho,hc,n,hd⟩:=id p1;obtain⟨⟨Al,x_,data2,xx⟩,tO,lj,n2,hd2⟩:=id p2;simp only at hc hd lj hd2;subst hc hd lj hd2;exact FY ⟨_,ho,rfl⟩ ⟨_,tO,rfl⟩ rH yt kN kz (ki _ _) (PyProof.Rows.tuple_addW0 a b _ _ n n2 dd x_ sl xx (by simp)) ⟨ho,tO,⟨.ref b,H,I,rfl,q⟩⟩
def a9o:D->D->Option D
 |.tuple [],.tuple es=>Z3 (.tuple es)
 |x,y=>b2s x y
def a9p(ha:PX X M a fa ca)(hb:PX X M b fb cb):PX X M (.BinOp a .Add b pos) (e2 a9o fa fb) (.new .i):=by
 obtain⟨ta,pa,qa⟩:=ha.out;obtain⟨tb,pb,qb⟩:=hb.out;have Dg:OpR X (eO .Add) (λx y H Q=>(∃a b ys,x=V.ref a/\y=V.ref b/\SqT X.K H a []/\SqT X.K H b ys/\Q (.ref b) H)\/b6m X.K x y H Q):=λpins s Y H x y v u Q I rx ry h=>h.elim (λh=>b5A pins s Y H x y v u Q I rx ry h) λh=>b4x pins s Y H x y v u Q I rx ry h
 refine .mk ⟨_,b1B Dg pa pb,λU Y H P F d Q S hf q=>?_⟩;obtain⟨x,y,h1,h2,h3⟩:=z7 hf;refine qa U Y H P F _ _ S h1 λv H1 e1 r1=>qb U Y H1 P F _ _ (S.grow e1) h2 λw H2 e2 r2=>?_
 by_cases c:∃es,x=.tuple []/\y=.tuple es
 ·obtain⟨es,rfl,rfl⟩:=c;obtain⟨rfl,hi⟩:=Q9 (show Z3 (.tuple es)=cz d from h3);obtain⟨pp,xs,rfl,k1,k2⟩:=(r1.den.up e2).tup_inv;obtain⟨qq,ys,rfl,j1,j2⟩:=r2.den.tup_inv;cases k2.nil_inv
  exact .inl ⟨pp,qq,ys,rfl,rfl,k1,j1,q _ _ (e1.trans e2) (E9 hi (den_tup j1 j2) (S.lst' (e1.trans e2)))⟩
 ·have pJ:b2s x y=cz d:=by
   unfold a9o at h3
   split at h3
   ·exact absurd ⟨_,rfl,rfl⟩ c
   ·exact h3
  obtain⟨ds,es,rfl,rfl,gy,hl,rfl,hi⟩:=a7X pJ;obtain⟨pp,xs,rfl,k1,k2⟩:=(r1.den.up e2).tup_inv;obtain⟨qq,ys,rfl,j1,j2⟩:=r2.den.tup_inv;have xl:=k2.length;have yl:=j2.length;refine .inr ⟨pp,qq,xs,ys,rfl,rfl,k1,j1,λz=>gy (eF.mp (by rw[<-xl,z];rfl)),by rw[xl,yl,cR];lia,λz=>?_,λ_ z hz=>?_⟩
  ·have:es=[]:=eF.mp (by rw[<-yl,z];rfl);subst this;rw[bK]at hi q;exact q _ _ (e1.trans e2) (E9 hi (den_tup k1 k2) (S.lst' (e1.trans e2)))
  ·exact q _ _ ((e1.trans e2).trans (l9 hz _)) (E9 hi (a2L (k2.append j2) hz) (S.lst' ((e1.trans e2).trans (l9 hz _))))
end
end VS
namespace VS
open PySem PySem.Spec
section
variable {prog:bz}{w:bI}{A:bD}{E:aj->ar->Prop}{sh:ar}{o:aw}{rows:Array eX}{ep:Nat}
theorem a4C:∀(l:List α),(∀e∈l,∀Q':ForInStep PUnit->ar->Prop,Q' (.yield ⟨⟩) sh->aD (aX prog w) A (f e ⟨⟩) Q' E sh)->∀Q:PUnit->ar->Prop,Q ⟨⟩ sh->aD (aX prog w) A (forIn l kO f) Q E sh
 |[],_,Q,q=>by rw[jK];exact ae q
 |e::l,h,Q,q=>by
  rw[jh];exact ab (h e ah _ (a4C l (λx hx=>h x (ai _ hx)) Q q))
def a6J{id:String}{u:fM}{Q:Array eX->ar->Prop}(hu:sh.heap.get? o=cz u)(oB:u.data=.dict rows ep)(iA:∀e∈rows,∃b,e.key=.ref b/\sh.TypeIs (.ref b) "tuple")(hd:∀e∈rows,¬ (rows.filter (·.hash==e.hash)).size>1)(q:Q rows sh) :
  aD (aX prog w) A (uA id o) Q E sh:=by
 unfold uA;refine ab (cC hu oB ?_);refine ab ?_;rw[<-mV];refine a4C rows.toList (λe he Q' q'=>?_) _ (ae q);obtain⟨b,hb,hT⟩:=iA e (dM.mp he);rw[hb];unfold Builtin.Dict.quietEq
 dsimp only
 refine ab (ab (dy hT F.slot_tuple_eq.lookup (ae ?_)));refine ee (λ_=>ee (λc=>absurd c (hd e (dM.mp he))) λ_=>ae q') λ_=>ae q'
def b0T(sR:d≠o)(h0:(o==cU)=rp)(hm:sh.heap.RawDict o rows ep)(zL:sh.heap.RawDict d #[] 0)(gy:rows.size≠0)(iA:∀e∈rows,∃b,e.key=.ref b/\sh.TypeIs (.ref b) "tuple")(hd:∀e∈rows,¬ (rows.filter (·.hash==e.hash)).size>1)(hz:rows.size<=aV)
  (q:∀h',h'.RawDict d rows 1->cD d sh.heap h'->Q () {sh with heap:=h'}):aD (aX prog w) A (jb nm d o) Q E sh:=by
 obtain⟨u,hu,GL,oB⟩:=id hm;obtain⟨v,hv,DM,xF⟩:=id zL;unfold jb;rw[aL (by simpa using sR)]
 dsimp only
 unfold jt;rw[aL (by rw[h0];exact aY)];refine ab (ae (ab (cC hu oB ?_)));have FN:(decide (rows.size<=8)&&rows.all λe=>(keyPart e.key).isSome)=rp:=by
  rw[Bool.and_eq_false_iff];refine .inr ?_;rw[Array.all_eq_false];obtain⟨b,hb,_⟩:=iA rows[0] (Array.getElem_mem _);exact⟨0,by lia,by rw[hb];simp[keyPart]⟩
 rw[FN,aG (show (!false)=p4 from rfl)];refine ab (cC hv xF ?_);rw[aG (show (#[]:Array eX).isEmpty=p4 from rfl)];refine ab (a6J hu oB iA hd ?_);rw[aG (by simpa[Array.isEmpty]using gy)];refine ab (wpAny_updateDictKeysTo hv xF (ae (q _ ⟨_,bS _ hv (ip (gY xF _)),DM.mapDictKeys _,gY xF _⟩ (bP ..))) (Nat.le_succ_of_le hz))
def a3g(h0:(o==cU)=rp)(hm:sh.heap.RawDict o rows ep)(gy:rows.size≠0)(iA:∀e∈rows,∃b,e.key=.ref b/\sh.TypeIs (.ref b) "tuple")(hd:∀e∈rows,¬ (rows.filter (·.hash==e.hash)).size>1)(hz:rows.size<=aV)
  (q:∀h',h'.RawDict sh.heap.objs.size rows 1->(∀b u,sh.heap.get? b=cz u->h'.get? b=cz u)->Q (.ref sh.heap.objs.size) {sh with heap:=h'}):aD (aX prog w) A (call (.type "dict") [.ref o]) Q E sh:=by
 refine xi (Q₁:=λv s1=>v=.ref sh.heap.objs.size/\s1={sh with heap:=sh.heap.push {cls:=.type "dict",data:=.dict #[]}}) F.kt_called_dict (F.kt_typeCall_dict_1 _) F.entry_dict_init (kt_code_dict_new _ ⟨rfl,rfl⟩) ?_;rintro v s1 ⟨rfl,rfl⟩;have hn:(sh.heap.push {cls:=.type "dict",data:=.dict #[]}).RawDict sh.heap.objs.size #[] 0:=⟨_,aH _ rfl,⟨rfl,rfl,rfl⟩,rfl⟩;have ho:(sh.heap.push {cls:=.type "dict",data:=.dict #[]}).RawDict o rows ep:=hm.at λ_ e=>ag _ e
 have wJ:ly {sh with heap:=sh.heap.push {cls:=.type "dict",data:=.dict #[]}} (.ref sh.heap.objs.size) "dict":=Heap.RawDict.typeIs (sh:={sh with heap:=sh.heap.push {cls:=.type "dict",data:=.dict #[]}}) hn;have uk:ly {sh with heap:=sh.heap.push {cls:=.type "dict",data:=.dict #[]}} (.ref o) "dict":=Heap.RawDict.typeIs (sh:={sh with heap:=sh.heap.push {cls:=.type "dict",data:=.dict #[]}}) ho;have sR:sh.heap.objs.size≠o:=by
  obtain⟨_,hg,_⟩:=hm;exact λe=>absurd (aI hg) (by rw[e];exact dt _)
 refine⟨wJ,F.args_dict_init_2 _ _,?_⟩;unfold Builtin.«dict.__init__» lD;refine ab (ab (fI wJ (show aD _ _ (pure (sh.heap.objs.size,[aZ o])) _ _ _ from ae ?_)));show aD _ _ (eY "dict.__init__" sh.heap.objs.size (aZ o) [] cj) _ _ _;unfold eY Builtin.Dict.merge yg;refine ab (hU uk ?_);rw[aL (by decide)];refine ab (ab (ab (fA uk isSubtype_dict_dict ?_)));simp only[kl,cW,fO];refine ab (dy uk sx.lookup (ae ?_));simp only[fQ,iX];refine ab (ae ?_);refine b0T sR h0 ho hn gy (λe he=>let⟨b,hb,u,hu,hc⟩:=iA e he;⟨b,hb,u,ag _ hu,hc⟩) hd hz λh' hr sb=>?_
 show aD _ _ (Av sh.heap.objs.size [] >>= λ_=>_) _ _ _;exact ab (ae (ae ⟨rfl,q h' hr λb u e=>sb.extBut b u (bc (aI e)) (ag _ e)⟩))
end
end VS
namespace VS
open PySem PySem.Spec L2
theorem a4D{f:α->Int}:∀{l:List α},(l.map f).Nodup->∀e∈l,(l.filter λx=>f x==f e).length<=1
 |a::l,h,e,he=>by
  rw[av,bt]at h;have none_of:∀y,y∉l.map f->(l.filter λx=>f x==y)=[]:=λy hy=>ux.mpr λx hx c=>hy (aO.mpr ⟨x,hx,kI.mp c⟩)
  rcases az.mp he with z|z
  ·subst z;rw[Gq,none_of _ h.1]
   split<;>simp
  ·rw[Gq];have gy:(f a==f e)=rp:=gP.mpr λc=>h.1 (by rw[c];exact aO.mpr ⟨e,z,rfl⟩)
   rw[gy];exact a4D h.2 e z
section
variable {X:Cx}
def a6K:CallR X (.type "dict") (λxs H Q=>∃p es,xs=[V.ref p]/\H p=cz (c9 p es)/\es≠[]/\G0 es=p4/\(∀e∈es,∃b ys,e.2.1=.ref b/\SqT X.K H b ys)/\(es.map λe=>hashD e.1).Nodup/\∀z,H z=el->Q (.ref z) (upd H z (c9 z es))):=by
 intro pins s Y H xs us Q I rv h;obtain⟨p,es,rfl,hH,gy,hL,hk,hn,q⟩:=h;obtain⟨u,rfl,rx⟩:=vals1 rv;cases (show u=aZ p from rx)
 obtain⟨h0,hl,jk,o,ents,ep,g1,g2,g3,g4⟩:=o8 I hH;have hsz:ents.size=es.length:=by rw[cN g4];exact cg.symm
 have iO:∀{es:List (D×V×V)} {l:List eX},eZ O4 es l->∀x∈l,∃e∈es,O4 e x:=by
  intro es l h
  induction h with
  |nil=>intro x hx;cases hx
  |cons r _ ih=>
   intro x hx;rcases az.mp hx with z|z
   ·subst z;exact⟨_,ah,r⟩
   ·obtain⟨e,he,r'⟩:=ih x z;exact⟨e,ai _ he,r'⟩
 have wo:∀{es:List (D×V×V)} {l:List eX},eZ O4 es l->l.map (·.hash)=es.map λe=>hashD e.1:=by
  intro es l h
  induction h with
  |nil=>rfl
  |cons r _ ih=>rw[av,av,ih,r.1]
 refine a3g (rows:=ents) h0 ⟨o,g1,g2,g3⟩ (by rw[hsz];exact λz=>gy (eF.mp z)) (λx hx=>?_) (λx hx=>?_) (by rw[hsz];exact hl) λh' hr Ez=>?_
 ·obtain⟨e,he,r⟩:=iO g4 x (dM.mpr hx);obtain⟨b,ys,e1,e2⟩:=hk e he;have r2:=r.2.1;rw[e1]at r2;obtain⟨cE,_,⟨ob,ho,hc,_⟩,_⟩:=I.tuple e2;exact⟨b,r2,ob,ho,hc⟩
 ·have z:=a4D (f:=λx:eX=>x.hash) (l:=ents.toList) (by rw[wo g4];exact hn) x (dM.mpr hx);rw[<-Array.toList_filter,cg]at z;lia
 ·obtain⟨o',b1,b2,b3⟩:=hr;have qx:H s.heap.objs.size=el:=I.hok.fresh (aE _);have DW:(s.heap.objs.size==cU)=rp:=gP.mpr (dA (bc I.sysBelow));exact⟨.ref s.heap.objs.size,_,I.laid (a:=s.heap.objs.size) (o:=c9 s.heap.objs.size es) (t':=s.toks) Ez (aE _) (Y6 DW hl jk b1 b2 b3 (λz=>by rw[hL]at z;cases z) g4),rfl,q _ qx⟩
end
def J0(kvs:List (D×D)):Bool:=keysOk p4 kvs&&(!kvs.isEmpty&&(P6 kvs&&decide (kvs.map λp=>hashD p.1).Nodup))
noncomputable def a5x(a:EvE):EvE:=λU=>(a U).bind λd=>match d with
 |.dict kvs=>if J0 kvs then cz (.dict kvs) else el
 |_=>el
theorem a6L:∀l:List (α×β),(l.map (·.1)).zip (l.map (·.2))=l
 |[]=>rfl
 |x::l=>by rw[av,av,dX,a6L l]
section
variable {X:Cx}{M:List Md}{a:Expr}{fa:EvE}{ca:Cat}{pos p:eS}
def b0U(hm:X.mg "dict"=el)(ha:PX X M a fa ca)(hc:frozen ca:=by trivial)(hg:Gl X "dict":=by rfl)(he:ax [a] X.env=(rp,cn a X.env)::ax [] X.env:=by rfl)(f_:(cx pos (ax [] X.env)).any (·.1)=rp:=by rfl) :
  PX X M (.Call (.Name "dict" p) [a] [] pos) (a5x fa) (.new (.d p4 .f)):=by
 obtain⟨ta,pa,qa⟩:=ha.out;refine .mk ⟨_,M3 a6K hg hm PyProof.Rows.Boot.«dict» (m7 pa u7 he) (by decide) (by decide) he f_,λU Y H P F d Q S hf q=>?_⟩;obtain⟨x,h1,g1⟩:=bnd hf;cases x with
 |dict kvs=>
  by_cases c:J0 kvs=p4
  ·have g2:(if J0 kvs then cz (bh.dict kvs) else el)=cz d:=g1;rw[aG c]at g2;cases g2
   simp only[J0,ak,df]at c;obtain⟨c1,c2,c3,c4⟩:=c;refine qa U Y H P F _ _ S h1 λv H1 e1 r1=>?_
   obtain⟨aa,es,rfl,k1,k2⟩:=(D7 hc r1).dict_inv;have kk:=k2.keys;have kd:=k2.kden;have ky:∀e∈es,keyOk p4 e.1:=λe he=>by
    have:e.1∈kvs.map (·.1):=by rw[<-kk];exact aO.mpr ⟨e,he,rfl⟩
    obtain⟨pp,hp,e2⟩:=aO.mp this;rw[<-e2];exact u9 (aT.mp c1 pp hp)
   refine⟨aa,es,rfl,i8 _ _ k1,λz=>?_,by rw[a1Z k2];exact c3,λe he=>?_,?_,λz hz=>?_⟩
   ·rw[z]at kk;cases kvs with
    |nil=>simp at c2
    |cons _ _=>cases kk
   ·obtain⟨ds,ud⟩:=(ky e he).2.2.1 rfl;have dd:=kd e he;rw[ud]at dd;obtain⟨b,xs,e2,e3,_⟩:=(dd.up i8).tup_inv;exact⟨b,xs,e2,e3⟩
   ·rw[show (es.map λe=>hashD e.1)=kvs.map λp=>hashD p.1 by
     have:=du (List.map hashD) kk
     rwa[bF,bF]at this]
    exact c4
   ·have hs:Same (cut H1 F) (cut (upd H1 z (c9 z es)) ([z]++F)):=λb y hy=>by
     obtain⟨n1,n2⟩:=p7 hy;have hb:b≠z:=λw=>by rw[w,hz]at n2;cases n2
     refine j8 (λw=>?_) (by rw[f8 hb];exact n2);rcases aB.mp w with w|w
     ·exact hb (aq.mp w)
     ·exact n1 w
    refine q _ _ (e1.trans (l9 hz _)) ⟨[z],?_,bt.mpr ⟨λw=>(nomatch w),bu⟩,λb hb=>?_⟩
    ·simp only[Own];refine⟨z,es,kvs.map (·.2),[],rfl,i7,by rw[kk,a6L],rfl,⟨?_,λe he=>⟨ky e he,(kd e he).up hs⟩⟩,ListAll.of_den (k2.vals.up hs) λv d _ q=>⟨rfl,q⟩⟩;rw[kk];have c5:=c4;rw[List.Nodup,nO]at c5 ⊢;exact c5.imp λh e=>h (by rw[e])
    ·rw[aq.mp hb];cases hH:H z with
     |none=>rfl
     |some y=>rw[e1 _ _ hH]at hz;cases hz
  ·have g2:(if J0 kvs then cz (bh.dict kvs) else el)=cz d:=g1;rw[aL c]at g2;cases g2
 |_=>cases g1
end
section
variable {X:Cx}{M:List Md}{e:Expr}{f:EvE}{u:Ty}{kt:Bool}
def a9q(h:PX X M e f (.new (.d kt u))):PX X M e f (.new (.d kt .f)):=h.imp λK H H' F v d hF _ ⟨fp,o,n,z⟩=>by
 simp only[Own]at o;obtain⟨a,es,ds,fs,rfl,ha,rfl,rfl,⟨k1,k2⟩,la⟩:=o;have jw:∀b∈[a]++F,b∈(a::fs)++F:=λb hb=>by
  rcases aB.mp hb with y|y
  ·rw[aq.mp y];simp
  ·exact ay _ y
 have tL:∀b∈fs,b∉[a]++F:=λb hb y=>by
  rcases aB.mp y with y|y
  ·rw[aq.mp y]at hb;exact (bt.mp n).1 hb
  ·obtain⟨ys,q⟩:=hF b y;rw[z b (ai _ hb)]at q;cases q
 have key:∀{ds:List D} {xs:List V} {gs:List aw},ListAll (Own K H' ((a::fs)++F) u) xs ds gs->(∀b∈gs,b∈fs)->ListAll (Own K H' ([a]++F) .f) xs ds []:=by
  intro ds
  induction ds with
  |nil=>intro xs gs l _;obtain⟨rfl,rfl⟩:=l.nil_inv;exact n5
  |cons d ds ih=>
   intro xs gs l hs;obtain⟨v,r,f,g,rfl,rfl,l1,l2⟩:=l.cons_inv;exact m4 (f:=[]) (g:=[]) (l1.freeze jw λb hb=>tL b (hs b (aJ _ hb))) (ih l2 λb hb=>hs b (ay _ hb))
 exact⟨[a],by simp only[Own];exact⟨a,es,ds,[],rfl,ha,rfl,rfl,⟨k1,λe he=>⟨(k2 e he).1,(k2 e he).2.up (C9 jw)⟩⟩,key la λ_ y=>y⟩,by simp,λb hb=>z b (by rw[aq.mp hb];exact ah)⟩
end
section
variable {X:Cx}{M ML M':List Md}{e:Expr}{f:EvE}{pos:eS}
def b5B(hM:M.map frz=M)(he:PX X M e f .tmp):PSX X .f ML M (.Return (cz e) pos) (m8 f) M':=by
 obtain⟨te,pe,qe⟩:=he.out;refine .mk ⟨_,b1w pe,λD U Y H P F o S hg k=>?_⟩;obtain⟨d,h1,g1⟩:=bnd hg;cases g1
 have S0:=S.free hM;refine qe U Y H P [] d _ S0.toE h1 λv H1 e1 hd=>?_
 refine k v H1 [] (by simp only[Own];exact⟨trivial,(show Den X.K H1 v d from hd).up λa x ha=>j8 (by simp) ha⟩) bu (λa ha=>(nomatch ha)) ((S0.prot.trans i8).trans e1)
end
section
variable {X:Cx}{M:List Md}{e0:Expr}{es:List Expr}{f:EvA}{uf:Ty}{x:bC}{p pos jY:eS}{params:lZ}{body:Expr}{scope:gh}{ys:List bC}{js:List Nat}
def a6M{ps pl N:List bC}{us:List Ty} 
  (W:Has X.prog X.w X.K X.mg X.base x k ps (spL X.K n (λgm=>FnV X.prog X.w X.K X.mg X.base (kf+1) pl.length uf gm) m .f)) (hr:Room k X.A) (h:PAL X M (e0::es) f λH v=>∃fa,v=.ref fa/\LamO q params body scope (Q2 scope X.env) H fa)
  (ug:a9j X (Q2 scope X.env) ys js) (hM:b8u M js) (S:LamScope N pl ys scope (Q2 scope X.env)) (nj:us.length=pl.length)
  (ny:∀(pm:aj) (c:aw) (mj:aj) (us:List aj),us.length=pl.length->qO (PySem.W.kla_fn "<lambda>" q params body scope (Q2 scope X.env) pm (.ref c) mj) ⟨us,[]⟩=pure (pl.zip us))
  (hb:∀(fa c:aw) (A:bD) (outer:List oM) (s:ar) (H:Hp),Room kf (A.deeper (jy q scope s.heap.objs.size fa (.ref c) (Q2 scope X.env)))->PX (a9i X.prog X.w X.K X.mg X.base N q scope fa (.ref c) (Q2 scope X.env) A outer s H) (us.map .own++aR ys.length (.own .f)) body fb (.new uf))
  (hfl:∀U ds,f U=cz ds->ds.length=n) (om:∀x,X.fn x=p4:=by exact λ_=>rfl)
  (hg:Gl X x:=by rfl) (lN:(x==("__debug__":bC))=rp:=by decide) (he:ax (e0::es) X.env=(rp,cn e0 X.env)::ax es X.env:=by rfl) (f_:(cx pos (ax es X.env)).any (·.1)=rp:=by rfl) :
  PX X M (.Call (.Name x p) (e0::es) [] pos) (b5v m us js fb f) .tmp:=by
 obtain⟨t,pa,qa⟩:=h;obtain⟨Hb,fd,F,b,kp,Dr⟩:=W.ex;refine .mk ⟨_,b2J F hr hg Dr kp b pa ug (b5t om) lN he f_,λU Y H P F d Q S' hf q=>?_⟩;obtain⟨ds,h1,hf⟩:=bnd hf;refine qa U Y H P F ds _ S' h1 λvs v H1 e1 r1 ⟨fa,hv,L⟩=>?_
 subst hv;obtain⟨lF,c1,c2⟩:=a9k (S'.grow e1) hM;refine⟨lF,c1,λH2 C tY s2 ci FZ J2 o2 n2=>?_⟩;refine⟨vs,.ref fa,_,ds,d,rfl,by rw[r1.length];exact hfl U ds h1,r1.up s2,λH' e'=>b5r (L.up (s2.trans e')) S tY (ci.up e') (λy c z=>let⟨ob,uo,w1,w2⟩:=FZ y c z;⟨ob,uo,e' _ _ w1,w2⟩) (c2.up (s2.trans e')) nj ny (hb fa),hf,λv H' fp e o nd fr J'=>?_⟩;have sm:Same H1 (VS.cut H' C):=λb o' hb=>j8 (λz=>by rw[n2 b z]at hb;cases hb) (e _ _ (s2 _ _ hb))
 exact q v (VS.cut H' C) (e1.trans sm) ((o.junk J' .f).den .f)
end
def Iti(a:aw)(es:List (D×V×V)):It:=
 ⟨λi H=>H a=cz (c9 a es)/\i<es.length,λi H x H'=>∃T e,H T=el/\H'=upd H T (.tup [e.2.1,e.2.2])/\x=.ref T/\es[i]?=cz e,λi H=>H a=cz (c9 a es)/\es.length<=i⟩
def a3h(hk:y8 es):G0 es=rp:=by
 cases es with
 |nil=>rfl
 |cons e es=>
  obtain⟨n,e1,_⟩:=hk e ah;show (Z2 e.1&&a5Z e.2.2)=rp;rw[e1];rfl
def F6(I:Inv X pins Y H s)(hH:H d=cz (c9 d es))(hk:y8 es) :
  ∃kvs,s.heap.DictAt (cX X.prog X.w) d kvs es.length/\(d==cU)=rp/\eZ EKv es kvs/\kvs.length=es.length:=by
 obtain⟨kvs,ep,jD,h0,_,hp⟩:=U2 I hH hk;have he:ep=es.length:=by
  obtain⟨o,ents,g1,g2,g3,_⟩:=id jD;exact a2S I hH g1 g3 (a3h hk)
 subst he;exact⟨kvs,jD,h0,hp,(cN hp).symm⟩
def a8m(a it:aw)(es:List (D×V×V))(hk:y8 es):Turn P w K (.Tuple elts kk ik) (Iti a es) [it] it (λi h=>∃ok ov,IsItemIter h it a i es.length es.length ok ov) where
 mem:=by simp
 obj:=λi h st b hb=>by
  obtain⟨ok,ov,he⟩:=st;cases aq.mp hb
  exact⟨_,he,λv z=>by cases z⟩
 keep:=λi h h' st k=>by
  obtain⟨ok,ov,he⟩:=st;exact⟨ok,ov,k it (by simp) _ he⟩
 item:=by
  intro X hP hw hK hc i pins s Y H E I hf st hg;subst hP hw hK;obtain⟨hH,hi⟩:=hg;obtain⟨kvs,jD,h0,hp,hlen⟩:=F6 I hH hk;obtain⟨ok,ov,he⟩:=st;have hx:es[i]?=cz es[i]:=ao hi;obtain⟨⟨n,v⟩,zp,g⟩:=B8 hp hx;rw[<-hlen]at he jD;refine wpAny_pyNext_items_item (knd:=cX X.prog X.w) he jD zp λkey h' iA qw tH hsz keep=>⟨.ref s.heap.objs.size,rfl,wpAny_letOwnedTupleGo_items (s:={s with heap:=h'}) qw λh2 lK AF=>?_⟩
  have hn:H s.heap.objs.size=el:=I.hok.fresh (aE _);have BM:s.heap.objs.size≠it:=ef (aI he);obtain⟨t,rfl⟩:=qP iA;have new:ObjOk X.prog X.w (upd H s.heap.objs.size (.tup [es[i].2.1,es[i].2.2])) h2 s.heap.objs.size (.tup [es[i].2.1,es[i].2.2]):=
   ⟨by rw[cR];show 2<=_;decide,[.int n t,v],.cons (by rw[g.2.1];exact⟨t,rfl⟩) (.cons g.2.2 .nil),_,AF.extBut _ _ BM tH,rfl,_,rfl⟩
  refine⟨.ref s.heap.objs.size,upd H s.heap.objs.size (.tup [es[i].2.1,es[i].2.2]),a9e (s:=s) (t':=s.toks) (ch:=[it]) I (λb o hb q=>AF.extBut b o (by simpa using hb) (keep b o (by simpa using hb) q)) hf (aE _) new,rfl,⟨_,es[i],hn,rfl,rfl,hx⟩,⟨_,_,by rw[hlen]at lK;exact lK⟩,λb hb=>?_⟩;rw[f8 (λz=>BM (by rw[<-z];exact aq.mp hb))];exact (hf b hb).1
 done:=by
  intro X hP hw hK hc i pins s Y H E I hf st hg;subst hP hw hK;obtain⟨hH,hi⟩:=hg;obtain⟨kvs,jD,h0,hp,hlen⟩:=F6 I hH hk;obtain⟨ok,ov,he⟩:=st;rw[<-hlen]at he jD;exact wpAny_pyNext_items_end (knd:=cX X.prog X.w) (I.ok.hd hc) he jD (dW (by lia)) λh' hx=>⟨rfl,a2s (t':=s.toks) (ch:=[it]) I (λb o hb y=>hx b o (by simpa using hb) y) hf⟩
 self:=λ_ _ _ _ _ st h=>by
  obtain⟨ok,ov,he⟩:=st;exact PySem.W.kcp_self he h
section
variable {X:Cx}{M ML:List Md}{o iter:Expr}{elts:List Expr}{kk:Nat}{ik apos cw pos:eS}{fa:EvE}{ca:Cat}{u:Ty}{body:List hZ}{g:EvS}
def c1E(to:TE):TI:=λY H R=>to Y H λx H1=>∃p es,x=.ref p/\H1 p=cz (c9 p es)/\y8 es/\R (Iti p es) H1
def b2Y(ho:PE X o to)(et:cY o "items" X.env (cn o X.env)=cn o X.env:=by rfl)(er:(apos.endLine==cw.line)=p4:=by rfl):PI X (.Tuple elts kk ik) (.Call (.Attribute o "items" apos) [] [] cw) (c1E to):=by
 intro pins s Y H R I h;refine iC et er (L2.thn (ho pins s Y H _ I h) λv s1 ⟨x,H1,I1,r1,p,es,ex,hH,hk,q1⟩=>?_);subst ex;obtain rfl:v=aZ p:=r1;obtain⟨kvs,jD,h0,hp,hlen⟩:=F6 I1 hH hk;refine⟨"dict","dict.items",ig,sY,PySem.F.type_dict_items,k6 I1 hH,L5 I1 hH,fu rfl (jo ?_)⟩;refine F_ sY (k6 I1 hH) PySem.F.entry_dict_items (PySem.F.args_dict_items_1 _) (meets_dict_items (cX X.prog X.w) p h0) ⟨⟨kvs,jD.dictOf⟩,?_⟩;refine wpAny_pyIter_items (knd:=cX X.prog X.w) ⟨_,aH _ rfl,rfl,rfl⟩ (jD.at λ_ e=>ag _ e) ?_;have hz:(s1.heap.push {cls:=.type "dict_items",data:=.fields #[.ref p]}).objs.size=s1.heap.objs.size+1:=cM ..;refine⟨_,[_],_,_,H1,rfl,I1.kept (t':=s1.toks) λb o e=>ag _ (ag _ e),a8m p _ es hk,⟨.none,.none,by rw[<-hlen];exact aH _ rfl⟩,λb hb=>?_,q1⟩;have e:=aq.mp hb;have kF:s1.heap.objs.size<=b:=by rw[e,hz];exact gD _
 exact I1.fpOk kF (I1.hok.fresh kF)
end
def a3i(p:D×D):D:=.tuple [p.1,p.2]
noncomputable def iIt(a:EvE):EvA:=λU=>(a U).bind λd=>match d with
 |.dict kvs=>if keysOk rp kvs then cz (kvs.map a3i) else el
 |_=>el
def a2c:∀{kvs:List (D×D)} {es:List (D×V×V)},DenKV K H es kvs->keysOk rp kvs=p4->y8 es:=λ{kvs es} h hk e he=>by
 have hd:=h.kden e he;have hm:e.1∈kvs.map (·.1):=by rw[<-h.keys];exact bw he
 obtain⟨p,hp,yX⟩:=aO.mp hm;have h2:m9 rp p.1=p4:=aT.mp hk p hp;rw[yX]at h2;cases hx:e.1 with
 |int n=>rw[hx]at hd;exact⟨n,rfl,by simpa only [Den]using hd⟩
 |_=>rw[hx]at h2;simp[m9]at h2
section
variable {X:Cx}{M ML:List Md}{o iter:Expr}{elts:List Expr}{kk:Nat}{ik apos cw pos:eS}{fa:EvE}{ca:Cat}{u:Ty}{body:List hZ}{g:EvS}
noncomputable def c0i(X:Cx)(M:List Md)(tg iter:Expr)(f:EvE):Prop:=
 ∃wi,PI X tg iter wi/\∀(U:List D) (Y:L2.St) (H P:Hp) (F:List aw) (kvs:List (D×D)) (R:It->Hp->Prop),StE X.K M U Y H P F->f U=cz (.dict kvs)->keysOk rp kvs=p4->
  (∀a es H1,Same H H1->(∀H2,Same (cut H1 F) H2->H2 a=cz (c9 a es))->DenKV X.K (cut H1 F) es kvs->R (Iti a es) H1)->wi Y H R
def c1F(h:PX X M o fa ca)(hc:frozen ca:=by trivial)(et:cY o "items" X.env (cn o X.env)=cn o X.env:=by rfl)(er:(apos.endLine==cw.line)=p4:=by rfl):c0i X M (.Tuple elts kk ik) (.Call (.Attribute o "items" apos) [] [] cw) fa:=by
 obtain⟨t,p,q⟩:=h.out;refine⟨_,b2Y p et er,λU Y H P F kvs R S hf hk k=>?_⟩;refine q U Y H P F _ _ S hf λv H1 e1 r1=>?_
 obtain⟨aa,es,rfl,k1,k2⟩:=(D7 hc r1).dict_inv;exact⟨aa,es,rfl,i8 _ _ k1,a2c k2 hk,k _ es H1 e1 (λH2 e2=>e2 _ _ k1) k2⟩
def b0V{K:af}{H:Hp}{kvs:List (D×D)}{es:List (D×V×V)}(h:DenKV K H es kvs){i:Nat}{e:D×V×V}(he:es[i]?=cz e):∃p,kvs[i]?=cz p/\Den K H e.2.1 p.1/\Den K H e.2.2 p.2:=by
 have h1:=h.kden e (bo he);have h2:(es.map (·.1))[i]?=cz e.1:=by rw[a_,he];rfl
 rw[h.keys,a_]at h2;obtain⟨p,hp,yX⟩:=cV.mp h2;obtain⟨d,hd,uc⟩:=h.vals.getV (show (es.map (·.2.2))[i]?=cz e.2.2 by rw[a_,he];rfl);rw[a_,hp]at hd;cases hd
 exact⟨p,hp,by rw[yX];exact h1,uc⟩
def b2Z{fi:EvA}{tg:Expr}{MB:List Md}{gt:TG}{set:List D->D->Option (List D)}{m:D->Prop}(hc:X.calm=p4)(hp:nX (aX X.prog X.w) X.A X.env X.xe)(hi:c0i X M tg iter fa)(hg:PG X tg gt)(hs:b0h X.K M MB gt set m)(hm:∀U ds,fi U=cz ds->∀d∈ds,m d)(wu:∀{U ps},fi U=cz ps->iIt fa U=cz ps)(hb:PSsX X u M MB body g M)
  (hf:∀x,eW iter X.env x=pure x:=by intro _;rfl):PSX X u ML M (.For tg iter body [] pos) (K4 fi set g) M:=by
 obtain⟨wi,pi,qi⟩:=hi;obtain⟨tb,pb,qb⟩:=hb.out;refine .mk ⟨_,a7w hp hc pi hg pb hf,λD U Y H P F o S t_ k=>?_⟩;obtain⟨ps,h1,g1⟩:=bnd t_;obtain⟨d0,h2,g2⟩:=bnd (wu h1);obtain⟨kvs,rfl⟩:∃kvs,d0=.dict kvs:=by
  cases d0 with
  |dict kvs=>exact⟨kvs,rfl⟩
  |_=>cases g2
 have g3:(if keysOk rp kvs=p4 then cz (kvs.map a3i) else el)=cz ps:=g2;have hk:keysOk rp kvs=p4:=by
  by_cases c:keysOk rp kvs=p4
  ·exact c
  ·rw[aL c]at g3;cases g3
 rw[aG hk]at g3;have sN:kvs.map a3i=ps:=aK g3;refine qi U Y H P F kvs _ S.toE h2 hk λa es H1 e1 tK hx=>?_
 have S1:=S.grow e1;have rK:es.length=kvs.length:=by have:=du eD hx.keys;simpa using this
 have f_:ps.length=es.length:=by rw[<-sN,au,rK]
 refine⟨λi n Y' H'=>n=es.length-i/\i<=es.length/\∃U' F',StR X.K M U' Y' H' (cut H1 F) F'/\G7 set g (ps.drop i) U'=cz o,⟨es.length,by simp,cI _,U,F,⟨S1.all,S1.lst,Same.refl _⟩,g1⟩,?_⟩;rintro i n Y' H' ⟨rfl,hi,U',F',S',hfl⟩;have kU:Same (cut H1 F) (cut H' F'):=S'.prot;have q:=tK H' (kU.trans i8);by_cases il:i<es.length
 ·refine .inr ⟨⟨q,il⟩,λY2 H2=>∃U2 F2,StR X.K M U2 Y2 H2 (cut H1 F) F2/\G7 set g (ps.drop (i+1)) U2=cz o,λY2 H2 ⟨U2,F2,S2,h2⟩=>⟨es.length-(i+1),by lia,rfl,il,U2,F2,S2,h2⟩,λx H2 hy=>?_⟩;obtain⟨T,e,hT,rfl,rfl,he⟩:=hy;have mz:i<ps.length:=by lia
  have lM:ps.drop i=ps[i]::ps.drop (i+1):=fC mz;rw[lM]at hfl;obtain⟨U1,tJ,g4⟩:=bnd (show (set U' ps[i]).bind _=cz o from hfl);obtain⟨o1,hg1,g5⟩:=bnd g4;obtain⟨pr,yW,dk,dv⟩:=b0V (DenKV.mono kU _ hx) he;have qd:ps[i]=a3i pr:=by
   have:ps[i]?=cz (a3i pr):=by rw[<-sN,a_,yW];rfl
   rw[ao mz]at this;exact aK this
  have nz:Same H' (upd H' T (.tup [e.2.1,e.2.2])):=l9 hT _;have S2:=S'.grow nz;have zS:T∉F':=λz=>by
   obtain⟨ys,e⟩:=S'.lst T z;rw[hT]at e;cases e
  have qC:Den X.K (cut (upd H' T (.tup [e.2.1,e.2.2])) F') (.ref T) (a3i pr):=by
   have lj:Same (cut H' F') (cut (upd H' T (.tup [e.2.1,e.2.2])) F'):=B2 nz;have jD:cut (upd H' T (.tup [e.2.1,e.2.2])) F' T=cz (.tup [e.2.1,e.2.2]):=j8 zS i7;exact den_tup (SqT.of jD) (denAll_cons (dk.up lj) (denAll_cons (dv.up lj) denAll_nil))
  rw[qd]at tJ;refine hs U' Y' _ (cut H1 F) F' (.ref T) _ U1 _ S2 qC (hm U ps h1 _ (by rw[<-qd];exact cH mz)) tJ λY3 F3 S3=>qb _ U1 Y3 _ (cut H1 F) F3 o1 S3 hg1 ?_
  cases o1 with
  |nx U2=>exact λY4 H4 F4 S4=>⟨U2,F4,S4,g5⟩
  |ct U2=>exact λY4 H4 F4 S4=>⟨U2,F4,S4,g5⟩
  |bk U2=>
   have:o=.nx U2:=(aK g5).symm;subst this;exact λY4 H4 F4 S4=>k Y4 H4 F4 ⟨S4.all,S4.lst,S1.prot.trans S4.prot⟩
  |rt d=>
   have:o=.rt d:=(aK g5).symm;subst this;refine λv H4 fp o nd fr e=>k v H4 fp o nd (λa ha=>?_) (S1.prot.trans e)
   exact S1.prot.free (fr a ha)
 ·have e:i=es.length:=by lia
  subst e;rw[<-f_,kD]at hfl;have:o=.nx U':=(aK hfl).symm;subst this;exact .inl ⟨⟨q,aE _⟩,k Y' H' F' ⟨S'.all,S'.lst,S1.prot.trans S'.prot⟩⟩
end
end VS
namespace PySem
open Sem (wp)
section
variable {prog:bz}{w:bI}{A:bD}{E:aj->ar->Prop}{s:ar}
def a2d(h:Q (s.heap.get? a) s):aD M A (loadIfAlive a) Q E s:=λ_ _ _=>h
def b3a:¬ (aZ t==cj)=p4:=aY
def a8n(hit:s.heap.IsTupleIter it t i)(ht:s.heap.IsTuple t vs)(hx:vs[i]?=cz x)
  (q:∀h',h'.IsTupleIter it t (i+1)->cD it s.heap h'->Q x {s with heap:=h'}):aD (aX prog w) A (cm (.ref it)) Q E s:=by
 obtain⟨o,ho,hc,hd⟩:=id hit;obtain⟨u,hu,_,n,oB⟩:=ht;unfold cm;refine ab (bH (name:=cf "__next__") hit.typeIs g_ (bB g_ hit.typeIs vb ?_ (uy _)));show aD _ _ (oG (.ref it) 0 >>= _) _ _ s;refine ab (cQ ho hd (x:=.ref t) rfl ?_);show aD _ _ (ite ((aZ t==cj)=p4) _ _) _ _ s;rw[aL b3a];show aD _ _ (oG (.ref it) 1 >>= _) _ _ s;refine ab (cQ ho hd (x:=.int i 0) rfl ?_);show aD _ _ (AE (.ref t) >>= _) _ _ s;refine ab (dI hu oB ?_);simp only[bU,hx];refine ab (eN ho hd (by simp) (ae ⟨x,rfl,ae (q _ ?_ (bP ..))⟩));exact⟨_,bS _ ho (mT (gq hd _)),(qU ..).trans hc,by rw[gq hd];simp[de]⟩
def b0W(hh:A.handled=el)(hit:s.heap.IsTupleIter it t i)(ht:s.heap.IsTuple t vs)(hx:vs[i]?=el)
  (q:∀h' e,tm it s.heap h'->(∃o,h'.get? e=cz o/\o.cls=.type "StopIteration")->E (.ref e) {s with heap:=h'}):aD (aX prog w) A (cm (.ref it)) Q E s:=by
 obtain⟨o,ho,hc,hd⟩:=id hit;obtain⟨u,hu,_,n,oB⟩:=ht;unfold cm;refine ab (bH (name:=cf "__next__") hit.typeIs g_ (bB g_ hit.typeIs vb ?_ (uy _)));show aD _ _ (oG (.ref it) 0 >>= _) _ _ s;refine ab (cQ ho hd (x:=.ref t) rfl ?_);show aD _ _ (ite ((aZ t==cj)=p4) _ _) _ _ s;rw[aL b3a];show aD _ _ (oG (.ref it) 1 >>= _) _ _ s;refine ab (cQ ho hd (x:=.int i 0) rfl ?_);show aD _ _ (AE (.ref t) >>= _) _ _ s;refine ab (dI hu oB ?_);simp only[bU,hx];refine ab (dR (ab (eN ho hd (by simp) ?_)));show aD _ _ (Dm (.type "StopIteration") [] >>= _) _ _ _;simp only[Dm,newTuple];refine ab (ab (dh ?_ (by size_fits)));refine ab (m:=iZ _ _) (sC (a:=cj) (by first|rfl|(simp only[iZ];rfl)) ?_);refine dh ?_ (by size_fits);simp only[raiseNew];refine ab (yp ?_)
 first|rw[show A.in1.handled=el from hh]|rw[hh]
 exact ab (ae (wpAny_throw (q _ _ (((bP ..).extBut.push _).push _) ⟨_,aH _ rfl,rfl⟩)))
end
def Draws.tup{prog:bz}{w:bI}{A:bD}(hh:A.handled=el)(it t:aw)(gy:t≠it)(vs:Array aj):Draws prog w A it [it,t] vs.size (λi v=>vs[i]?=cz v) (λi h=>h.IsTupleIter it t i/\h.IsTuple t vs) where
 live:=λ_ _ st=>let⟨o,ho,_⟩:=st.1;⟨o,ho⟩
 frame:=λ_ _ _ st hk=>⟨let⟨o,ho,r⟩:=st.1;⟨o,hk it (by simp) o ho,r⟩,let⟨o,ho,r⟩:=st.2;⟨o,hk t (by simp) o ho,r⟩⟩
 item:=λi s Q E hi st hQ=>a8n st.1 st.2 (x:=vs[i]) (by simp[hi]) λh' qw qZ=>hQ _ h' s.toks (by simp[hi]) ⟨qw,st.2.extBut qZ.extBut gy⟩ qZ
 done:=λs Q E st hE=>b0W hh st.1 st.2 (by simp) hE
def a3j(h:bQ)(z TI TO i1 i2:aw):Prop:=
 jz h TI (.ref i1) (.ref i2)/\(∃a b,jz h TO a b)/\(nR h z TI TO .none\/∃(T:aw) (f1:aj) (o:fM),T≠z/\T≠TO/\T≠i1/\T≠i2/\h.get? T=cz o/\h.get? z=cz {cls:=.type "zip",dict:=el,data:=.fields #[de T,f1,.bool rp,.ref TI,.ref TO],slots:=#[]})
structure ZApart (z TI TO i1 i2:aw) (fp1 fp2:List aw):Prop where
 TIz:TI≠z
 TOz:TO≠z
 TITO:TI≠TO
 i12:i1≠i2
 TI1:TI≠i1
 TI2:TI≠i2
 TO1:TO≠i1
 TO2:TO≠i2
 z1:z≠i1
 z2:z≠i2
 zf1:z∉fp1
 zf2:z∉fp2
 Of1:TO∉fp1
 Of2:TO∉fp2
 if2:i1∉fp2
 if1:i2∉fp1
section
variable {prog:bz}{w:bI}{A:bD}{E:aj->ar->Prop}{s:ar}{z TI TO i1 i2:aw}{fp1 fp2:List aw}{n i:Nat}{P1 P2:Nat->aj->Prop}{St1 St2:Nat->bQ->Prop}
def b0X{Q:aj->ar->Prop}(D1:Draws prog w A i1 fp1 n P1 St1)(D2:Draws prog w A i2 fp2 n P2 St2)(Z:ZApart z TI TO i1 i2 fp1 fp2)(hz:a3j s.heap z TI TO i1 i2)(hi:i<n)(s1:St1 i s.heap)(s2:St2 i s.heap)
  (q:∀T x y h' tk,P1 i x->P2 i y->s.heap.objs.size<=T->jz h' T x y->a3j h' z TI TO i1 i2->St1 (i+1) h'->St2 (i+1) h'->(∀c o,c≠z->c≠TO->c≠i1->c≠i2->s.heap.get? c=cz o->h'.get? c=cz o)->Q (.ref T) {s with heap:=h',toks:=tk}) :
  aD (aX prog w) A (Builtin.«zip.__next__» ⟨[.ref z],[]⟩) (λfin s'=>∃v,fin=.done (.ret v)/\Q v s') E s:=by
 have uq:∀{h h':bQ} {j:Nat},St1 j h->(∀b o,b≠z->b≠TO->b≠i2->h.get? b=cz o->h'.get? b=cz o)->St1 j h':=λst k=>D1.frame _ _ _ st λb hb o e=>k b o (λx=>Z.zf1 (x▸hb)) (λx=>Z.Of1 (x▸hb)) (λx=>Z.if1 (x▸hb)) e
 have sU:∀{h h':bQ} {j:Nat},St2 j h->(∀b o,b≠z->b≠TO->b≠i1->h.get? b=cz o->h'.get? b=cz o)->St2 j h':=λst k=>D2.frame _ _ _ st λb hb o e=>k b o (λx=>Z.zf2 (x▸hb)) (λx=>Z.Of2 (x▸hb)) (λx=>Z.if2 (x▸hb)) e
 obtain⟨rZ,⟨a,b,wK⟩,hz⟩:=hz;rcases hz with hz|⟨T0,f1,o0,t1,t2,t3,t4,xT,hz⟩
 ·show aD _ _ (oG (.ref z) 2 >>= _) _ _ _;refine ab (cQ hz rfl (x:=.bool rp) rfl ?_);show aD _ _ (oG (.ref z) 3 >>= _) _ _ _;refine ab (cQ hz rfl (x:=.ref TI) rfl (ab (dI rZ rfl ?_)));show aD _ _ (bW (.ref z) >>= _) _ _ _;unfold bW;refine ab (ab (cQ hz rfl (x:=.none) rfl (ae ?_)));simp only[iX];refine ab (dR (ab (cQ hz rfl (x:=.ref TO) rfl ?_)));refine ab (fE hz (by simp) λh₁ jB e₁=>ab ?_)
  replace jB:nR h₁ z TI TO .ellipsis:=jB
  simp only[Gi,Hr,jh,jK];refine ab (ab (yo ?_));show aD _ _ (cm (.ref i1) >>= _) _ _ _;refine ab (D1.item i _ _ _ hi (uq s1 λb o b1 _ _ e=>e₁.extBut _ _ b1 e) λx h₂ k₂ px g1 e₂=>ae ?_)
  replace e₂:cD i1 h₁ h₂:=e₂
  have qJ:jz h₂ TO a b:=e₂.extBut _ _ Z.TO1 (e₁.extBut _ _ Z.TOz wK);refine ab (dI qJ rfl (ab (wpAny_updateSeq_pair qJ λh₃ ou e₃=>ab (nc (ae ?_)))))
  replace e₃:cD TO h₂ h₃:=e₃
  replace ou:jz h₃ TO x b:=ou
  have lG:∀c o,c≠z->c≠TO->c≠i1->s.heap.get? c=cz o->h₃.get? c=cz o:=λc o c1 c2 c3 e=>e₃.extBut _ _ c2 (e₂.extBut _ _ c3 (e₁.extBut _ _ c1 e))
  refine ab (ab (yo ?_));show aD _ _ (cm (.ref i2) >>= _) _ _ _;refine ab (D2.item i _ _ _ hi (sU s2 λb o b1 b2 b3 e=>lG b o b1 b2 b3 e) λy h₄ k₄ py g2 e₄=>ae ?_)
  replace e₄:cD i2 h₃ h₄:=e₄
  have qI:jz h₄ TO x b:=e₄.extBut _ _ Z.TO2 ou;refine ab (dI qI rfl (ab (wpAny_updateSeq_pair qI λh₅ lP e₅=>ab (nc (ae (ae ?_))))))
  replace e₅:cD TO h₄ h₅:=e₅
  replace lP:jz h₅ TO x y:=lP
  refine ab (dI lP rfl (ab (vf ?_)));have sz:h₅.objs.size=s.heap.objs.size:=by rw[e₅.1,e₄.1,e₃.1,e₂.1,e₁.1]
  have sH:nR h₅ z TI TO .ellipsis:=e₅.extBut _ _ Z.TOz.symm (e₄.extBut _ _ Z.z2 (e₃.extBut _ _ Z.TOz.symm (e₂.extBut _ _ Z.z1 jB)));have sD:∀c o,c≠z->c≠TO->c≠i1->c≠i2->s.heap.get? c=cz o->h₅.get? c=cz o:=λc o c1 c2 c3 c4 e=>e₅.extBut _ _ c2 (e₄.extBut _ _ c4 (lG c o c1 c2 c3 e))
  show aD _ _ (oy (.ref z) (.ref h₅.objs.size) >>= _) _ _ _;unfold oy;have vH:nR (h₅.push {cls:=.type "tuple",data:=.seq #[x,y]}) z TI TO .ellipsis:=ag _ sH;refine ab (ab (fE vH (by simp) λh₇ pV e₇=>?_))
  replace pV:nR h₇ z TI TO (de h₅.objs.size):=pV
  refine fE pV (by simp) λh₈ pU e₈=>ae ⟨_,rfl,?_⟩
  replace pU:nR h₈ z TI TO (de h₅.objs.size):=pU
  have ng:∀c o,c≠z->h₅.get? c=cz o->h₈.get? c=cz o:=λc o c1 e=>e₈.extBut _ _ c1 (e₇.extBut _ _ c1 (ag _ e))
  have yj:z<h₅.objs.size:=aI sH;have Du:i1<h₅.objs.size:=by
   obtain⟨o,ho⟩:=D1.live _ _ g1;rw[e₅.1,e₄.1,e₃.1];exact aI ho
  have Dt:i2<h₅.objs.size:=by
   obtain⟨o,ho⟩:=D2.live _ _ g2;rw[e₅.1];exact aI ho
  have hT:jz h₈ h₅.objs.size x y:=e₈.extBut _ _ (ef yj) (e₇.extBut _ _ (ef yj) (aH _ rfl));refine q h₅.objs.size x y h₈ k₄ px py (by rw[sz];exact aE _) hT ⟨ng _ _ Z.TIz (sD _ _ Z.TIz Z.TITO Z.TI1 Z.TI2 rZ),⟨x,y,ng _ _ Z.TOz lP⟩,.inr ⟨h₅.objs.size,.bool rp,_,ef yj,ef (aI lP),ef Du,ef Dt,hT,pU⟩⟩ ?_ ?_ λc o c1 c2 c3 c4 e=>ng c o c1 (sD c o c1 c2 c3 c4 e)
  ·exact uq g1 λb o b1 b2 b3 e=>ng _ _ b1 (e₅.extBut _ _ b2 (e₄.extBut _ _ b3 (e₃.extBut _ _ b2 e)))
  ·exact sU g2 λb o b1 b2 b3 e=>ng _ _ b1 (e₅.extBut _ _ b2 e)
 ·show aD _ _ (oG (.ref z) 2 >>= _) _ _ _;refine ab (cQ hz rfl (x:=.bool rp) rfl ?_);show aD _ _ (oG (.ref z) 3 >>= _) _ _ _;refine ab (cQ hz rfl (x:=.ref TI) rfl (ab (dI rZ rfl ?_)));show aD _ _ (bW (.ref z) >>= _) _ _ _;unfold bW;refine ab (ab (cQ hz rfl (x:=de T0) rfl ?_));show aD _ _ (loadIfAlive T0 >>= _) _ _ _;refine ab (a2d ?_);rw[xT];rw[aL (by simp)];refine dg (Q:=λb s'=>b=rp/\∃h₁ f,s'={s with heap:=h₁}/\h₁.get? z=cz {cls:=.type "zip",dict:=el,data:=.fields #[de T0,f,.bool rp,.ref TI,.ref TO],slots:=#[]}/\cD z s.heap h₁) ?_ (λb s' hb=>?_) λ_ _ e=>e
  ·refine ab (cQ hz rfl (x:=f1) rfl ?_);by_cases c:(f1 !=jx p4)=p4
   ·rw[aG c];exact ab (fE hz (by simp) λh₁ jB e₁=>ae ⟨rfl,h₁,.bool p4,rfl,jB,e₁⟩)
   ·rw[aL c];exact ae ⟨rfl,s.heap,f1,rfl,hz,⟨rfl,λ_ _=>rfl⟩⟩
  ·obtain⟨rfl,h₁,f,rfl,jB,e₁⟩:=hb;simp only[cW,fO];refine ab (ab (ab (bL ?_)));show aD _ _ (cm (.ref i1) >>= _) _ _ _;refine ab (D1.item i _ _ _ hi (uq s1 λb o b1 _ _ e=>e₁.extBut _ _ b1 e) λx h₂ k₂ px g1 e₂=>ae (ae ?_))
   replace e₂:cD i1 h₁ h₂:=e₂
   refine ab (ab (bL ?_));show aD _ _ (cm (.ref i2) >>= _) _ _ _;refine ab (D2.item i _ _ _ hi (sU s2 λb o b1 b2 b3 e=>e₂.extBut _ _ b3 (e₁.extBut _ _ b1 e)) λy h₃ k₃ py g2 e₃=>ae (ae (ae ?_)))
   replace e₃:cD i2 h₂ h₃:=e₃
   have sz:h₃.objs.size=s.heap.objs.size:=by rw[e₃.1,e₂.1,e₁.1]
   have lG:∀c o,c≠z->c≠i1->c≠i2->s.heap.get? c=cz o->h₃.get? c=cz o:=λc o c1 c3 c4 e=>e₃.extBut _ _ c4 (e₂.extBut _ _ c3 (e₁.extBut _ _ c1 e))
   have vI:=e₃.extBut _ _ Z.z2 (e₂.extBut _ _ Z.z1 jB);refine ab (vf (hsz:=by rw[cR];show 2<=_;decide) (ae ⟨_,rfl,?_⟩));refine q h₃.objs.size x y _ k₃ px py (by rw[sz];exact aE _) (aH _ rfl) ⟨ag _ (lG _ _ Z.TIz Z.TI1 Z.TI2 rZ),⟨a,b,ag _ (lG _ _ Z.TOz Z.TO1 Z.TO2 wK)⟩,.inr ⟨T0,f,o0,t1,t2,t3,t4,ag _ (lG _ _ t1 t3 t4 xT),ag _ vI⟩⟩ ?_ ?_ λc o c1 c2 c3 c4 e=>ag _ (lG c o c1 c3 c4 e)
   ·exact uq g1 λb o b1 b2 b3 e=>ag _ (e₃.extBut _ _ b3 e)
   ·exact sU g2 λb o b1 b2 b3 e=>ag _ e
def b3b(D1:Draws prog w A i1 fp1 n P1 St1)(Z:ZApart z TI TO i1 i2 fp1 fp2)(hz:a3j s.heap z TI TO i1 i2)(s1:St1 n s.heap)
  (q:∀h' e,(∀c o,c≠z->c≠TO->c≠i1->c≠i2->s.heap.get? c=cz o->h'.get? c=cz o)->(∃o,h'.get? e=cz o/\o.cls=.type "StopIteration")->E (.ref e) {s with heap:=h'}) :
  aD (aX prog w) A (Builtin.«zip.__next__» ⟨[.ref z],[]⟩) Q E s:=by
 have uq:∀{h h':bQ} {j:Nat},St1 j h->(∀b o,b≠z->b≠TO->b≠i2->h.get? b=cz o->h'.get? b=cz o)->St1 j h':=λst k=>D1.frame _ _ _ st λb hb o e=>k b o (λx=>Z.zf1 (x▸hb)) (λx=>Z.Of1 (x▸hb)) (λx=>Z.if1 (x▸hb)) e
 obtain⟨rZ,⟨a,b,wK⟩,hz⟩:=hz;rcases hz with hz|⟨T0,f1,o0,t1,t2,t3,t4,xT,hz⟩
 ·show aD _ _ (oG (.ref z) 2 >>= _) _ _ _;refine ab (cQ hz rfl (x:=.bool rp) rfl ?_);show aD _ _ (oG (.ref z) 3 >>= _) _ _ _;refine ab (cQ hz rfl (x:=.ref TI) rfl (ab (dI rZ rfl ?_)));show aD _ _ (bW (.ref z) >>= _) _ _ _;unfold bW;refine ab (ab (cQ hz rfl (x:=.none) rfl (ae ?_)));simp only[iX];refine ab (dR (ab (cQ hz rfl (x:=.ref TO) rfl ?_)));refine ab (fE hz (by simp) λh₁ jB e₁=>ab ?_)
  replace jB:nR h₁ z TI TO .ellipsis:=jB
  simp only[Gi,Hr,jh,jK];refine ab (ab (yo ?_));show aD _ _ (cm (.ref i1) >>= _) _ _ _;refine ab (D1.done _ _ _ (uq s1 λb o b1 _ _ e=>e₁.extBut _ _ b1 e) λh₂ e e₂ he=>?_);obtain⟨oe,y_,BF⟩:=he;have sI:nR h₂ z TI TO .ellipsis:=e₂ _ _ Z.z1 jB;have EM:e≠z:=λx=>by subst x;rw[sI]at y_;cases y_;simp at BF
  exact fE sI (by simp) λh₃ _ e₃=>q h₃ e (λc o c1 _ c3 _ x=>e₃.extBut _ _ c1 (e₂ _ _ c3 (e₁.extBut _ _ c1 x))) ⟨oe,e₃.extBut _ _ EM y_,BF⟩
 ·show aD _ _ (oG (.ref z) 2 >>= _) _ _ _;refine ab (cQ hz rfl (x:=.bool rp) rfl ?_);show aD _ _ (oG (.ref z) 3 >>= _) _ _ _;refine ab (cQ hz rfl (x:=.ref TI) rfl (ab (dI rZ rfl ?_)));show aD _ _ (bW (.ref z) >>= _) _ _ _;unfold bW;refine ab (ab (cQ hz rfl (x:=de T0) rfl ?_));show aD _ _ (loadIfAlive T0 >>= _) _ _ _;refine ab (a2d ?_);rw[xT,aL (by simp)];refine dg (Q:=λb s'=>b=rp/\∃h₁,s'={s with heap:=h₁}/\cD z s.heap h₁) ?_ (λb s' hb=>?_) λ_ _ e=>e
  ·refine ab (cQ hz rfl (x:=f1) rfl ?_);by_cases c:(f1 !=jx p4)=p4
   ·rw[aG c];exact ab (fE hz (by simp) λh₁ _ e₁=>ae ⟨rfl,h₁,rfl,e₁⟩)
   ·rw[aL c];exact ae ⟨rfl,s.heap,rfl,⟨rfl,λ_ _=>rfl⟩⟩
  ·obtain⟨rfl,h₁,rfl,e₁⟩:=hb;simp only[cW,fO];refine ab (ab (ab (bL ?_)));show aD _ _ (cm (.ref i1) >>= _) _ _ _;exact ab (D1.done _ _ _ (uq s1 λb o b1 _ _ e=>e₁.extBut _ _ b1 e) λh₂ e e₂ he=>q h₂ e (λc o c1 _ c3 _ x=>e₂ _ _ c3 (e₁.extBut _ _ c1 x)) he)
def b0Y(D1:Draws prog w A.in1 i1 fp1 n P1 St1)(D2:Draws prog w A.in1 i2 fp2 n P2 St2)(Z:ZApart z TI TO i1 i2 fp1 fp2)(hz:a3j s.heap z TI TO i1 i2)(hi:i<n)(s1:St1 i s.heap)(s2:St2 i s.heap)
  (q:∀T x y h' tk,P1 i x->P2 i y->s.heap.objs.size<=T->jz h' T x y->a3j h' z TI TO i1 i2->St1 (i+1) h'->St2 (i+1) h'->(∀c o,c≠z->c≠TO->c≠i1->c≠i2->s.heap.get? c=cz o->h'.get? c=cz o)->Q (cz (.ref T)) {s with heap:=h',toks:=tk}) :
  aD (aX prog w) A (fT (.ref z)) Q E s:=by
 have hT:s.TypeIs (.ref z) "zip":=by
  rcases hz.2.2 with h|⟨_,_,_,_,_,_,_,_,h⟩
  ·exact⟨_,h,rfl⟩
  ·exact⟨_,h,rfl⟩
 unfold fT;exact ab (gG (bH (name:=cf "__next__") hT mG (bB mG hT F.entry_zip_next
  (b0X D1 D2 Z hz hi s1 s2 λT x y h' tk a1 a2 a3 a4 a5 a6 a7 a8=>ae (q T x y h' tk a1 a2 a3 a4 a5 a6 a7 a8)) (F.args_zip_next_1 _))))
def b0Z(D1:Draws prog w A.in1 i1 fp1 n P1 St1)(Z:ZApart z TI TO i1 i2 fp1 fp2)(hz:a3j s.heap z TI TO i1 i2)(s1:St1 n s.heap)
  (q:∀h',(∀c o,c≠z->c≠TO->c≠i1->c≠i2->s.heap.get? c=cz o->h'.get? c=cz o)->Q el {s with heap:=h'}):aD (aX prog w) A (fT (.ref z)) Q E s:=by
 have hT:s.TypeIs (.ref z) "zip":=by
  rcases hz.2.2 with h|⟨_,_,_,_,_,_,_,_,h⟩
  ·exact⟨_,h,rfl⟩
  ·exact⟨_,h,rfl⟩
 unfold fT;refine ab (gG (bH (name:=cf "__next__") hT mG (bB mG hT F.entry_zip_next (b3b D1 Z hz s1 λh' e hk he=>?_) (F.args_zip_next_1 _))));obtain⟨o,ho,hc⟩:=he;exact ab (fA (T:="StopIteration") (b:=p4) ⟨o,ho,hc⟩ vC (ae (q _ hk)))
end
namespace F
def entry_zip_ga:wX table "zip.__getattribute__"=cz Builtin.«object.__getattribute__»:=
 wW (id':="object.__getattribute__") (by kernel_rfl) (by first|rfl|decide +kernel) (by decide +kernel) (by kernel_rfl)
def lk_zip_keys:oP (.type "zip") "keys"=pure el:=by rw[mv,jn];kernel_rfl
def lk_zip_hook:oP (.type "zip") "__getattr__"=pure el:=by rw[mv,jn];kernel_rfl
end F
def b3c(a:aw)(vs:Array aj)(u:Tok):Meets (Builtin.«object.__getattribute__» ⟨[.ref a,.str "keys" u],[]⟩) (λA R s=>s.heap.get? a=cz {cls:=.type "zip",dict:=el,data:=.fields vs,slots:=#[]}/\raisesAttr (.ref a) "keys" A R s):=
 Meets.of_wp λprog w A R s hs=>by
  obtain⟨hp,g,d,tk,os⟩:=s;obtain⟨hx,hs⟩:=hs;have hT:(⟨hp,g,d,tk,os⟩:ar).TypeIs (.ref a) "zip":=⟨_,hx,rfl⟩;have f4:=F.lk_zip_keys
  repeat (any_goals (first|assumption|wp_step))
  exact wpAny_raiseAttrError hs.1 hs.2 (attrMsg_fits (by decide +kernel) (by size_fits))
def a8o{A:bD}{s:ar}(hA:A.handled=el)(hx:s.heap.get? a=cz {cls:=.type "zip",dict:=el,data:=.fields vs,slots:=#[]})
  (q:∀h' tk,(∀b o,s.heap.get? b=cz o->h'.get? b=cz o)->Q el {s with heap:=h',toks:=tk}):aD (aX prog w) A (getAttr? (.ref a) "keys") Q E s:=by
 obtain⟨hp,g,d,tk,os⟩:=s;have hT:∀xu,(⟨hp,g,d,xu,os⟩:ar).TypeIs (.ref a) "zip":=λ_=>⟨_,hx,rfl⟩
 have f1:=sub_AttributeError;have f3:=lY.lookup;have f4:=lY.bind (.ref a);have f5:=F.lk_zip_hook;unfold getAttr? getAttrBy? getAttrBy
 repeat (any_goals (first|assumption|exact hT _|((with_reducible show aD _ _ (call (An "zip.__getattribute__") _ _) _ _ _);refine pf lY (hT _) F.entry_zip_ga (F.args_zip_getattribute_2 _ _) (b3c a vs _) ⟨hx,hA,λh' xu e rM=>?_⟩)|wp_step))
 obtain⟨t',u',he⟩:=rM.there;show aD _ _ (getattributeRaised _ _ _ _ _ _ _) _ _ _;unfold getattributeRaised
 repeat (any_goals (first|assumption|wp_step))
 trace_state
 exact q _ _ rM.keeps
end PySem
namespace PySem.F
def entry_dict_update_loop:wX table "dict.update.loop"=cz Builtin.«dict.update.loop»:=entryFor_of_tree (by kernel_rfl)
def plain_dict_update_loop:plainId "dict.update.loop"=p4:=by decide +kernel
end PySem.F
namespace VS
open PySem PySem.Spec L2
def ziE(ns ms:List Int):List (D×V×V):=(ns.zip ms).map λp=>(.int p.1,.int p.1,.int p.2)
section
variable {X:Cx}{pins:List (aw×fM)}{Y:L2.St}{H:Hp}{A:bD}{d z TI TO i1 i2:aw}{fp1 fp2:List aw}{St1 St2:Nat->bQ->Prop}{ns ms:List Int}
def b3d(hu:A.units+20<cS)
  (D1:Draws X.prog X.w A.in1.in1 i1 fp1 ns.length (λi v=>∃t,v=.int (ns.getD i 0) t) St1) (D2:Draws X.prog X.w A.in1.in1 i2 fp2 ns.length (λi v=>∃t,v=.int (ms.getD i 0) t) St2) (Z:ZApart z TI TO i1 i2 fp1 fp2)
  (hl:ms.length=ns.length) (jk:ns.Nodup) (hsz:ns.length<aV) (dz:d∉[z,TI,TO,i1,i2]++fp1++fp2):∀(k i:Nat) (s:ar),ns.length-i=k->i<=ns.length->
   Inv X pins Y (upd H d (c9 d (ziE (ns.take i) (ms.take i)))) s->(∀b∈[z,TO,i1,i2],a0A X pins (upd H d (c9 d [])) b)->a3j s.heap z TI TO i1 i2->St1 i s.heap->St2 i s.heap->
   (∀s',Inv X pins Y (upd H d (c9 d (ziE ns ms))) s'->R (.ok (.ret .none)) s')->gL (aX X.prog X.w) A (.builtin "dict.update.loop" ⟨[.ref d,.ref z,de i,.none],[]⟩) R s:=by
 have dn:∀b,b∈[z,TI,TO,i1,i2]++fp1++fp2->b≠d:=λb hb e=>dz (e▸hb)
 have BX:∀{o o':HO} {b:aw},b≠d->a0A X pins (upd H d o) b->a0A X pins (upd H d o') b:=λhb h=>⟨by rw[f8 hb];have:=h.1;rwa[f8 hb]at this,h.2⟩
 intro k
 induction k with
 |zero=>
  intro i s hk hi I hf hz g1 g2 hR;have e:i=ns.length:=by lia
  subst e;refine dN PySem.F.entry_dict_update_loop ?_;rw[dc PySem.F.plain_dict_update_loop _];show aD _ A.in1 (fT (.ref z) >>= _) _ _ s;refine ab (b0Z D1 Z hz g1 λh' up=>?_);rw[kB,<-hl,kB]at I;refine ab (ae (ae (hR _ ?_)));exact a2s (t':=s.toks) (ch:=[z,TO,i1,i2]) I (λb o hb e=>up b o (λq=>hb (by simp[q])) (λq=>hb (by simp[q])) (λq=>hb (by simp[q])) (λq=>hb (by simp[q])) e) λb hb=>BX (dn b (by
   simp only[az,cG,or_false]at hb;rcases hb with rfl|rfl|rfl|rfl<;>simp)) (hf b hb)
 |succ k ih=>
  intro i s hk hi I hf hz g1 g2 hR;have il:i<ns.length:=by lia
  refine dN PySem.F.entry_dict_update_loop ?_;rw[dc PySem.F.plain_dict_update_loop _];show aD _ A.in1 (fT (.ref z) >>= _) _ _ s;refine ab (b0Y D1 D2 Z hz il g1 g2 λT x y h' tk px py hT BL DE sT pK up=>?_);obtain⟨tx,rfl⟩:=px;obtain⟨ty,rfl⟩:=py;have I1:Inv X pins Y (upd H d (c9 d (ziE (ns.take i) (ms.take i)))) {s with heap:=h',toks:=tk}:=a2s (t':=tk) (ch:=[z,TO,i1,i2]) I (λb o hb e=>up b o (λq=>hb (by simp[q])) (λq=>hb (by simp[q])) (λq=>hb (by simp[q])) (λq=>hb (by simp[q])) e) λb hb=>BX (dn b (by
   simp only[az,cG,or_false]at hb;rcases hb with rfl|rfl|rfl|rfl<;>simp)) (hf b hb)
  refine ab (bL (ab (wpAny_tryCatch ?_)));unfold Builtin.Dict.pairItems;refine ab (hU (show ly {s with heap:=h',toks:=tk} (.ref T) "tuple" from⟨_,BL,rfl⟩) ?_);rw[aG (by decide)];refine ab (dI BL rfl (ae ?_));show aD _ _ (nU _ (FW d (.int (ns.getD i 0) tx) (.int (ms.getD i 0) ty))) _ _ _;refine bL ?_;unfold FW
  try with_reducible refine bL ?_
  have kk:keyOk rp (aF (ns.getD i 0)):=u9 rfl;have BA:∀e∈ziE (ns.take i) (ms.take i),∃n m,n∈ns.take i/\e=(aF n,V.int n,V.int m):=λe he=>by
   obtain⟨p,hp,rfl⟩:=aO.mp he;exact⟨p.1,p.2,(fD hp).1,rfl⟩
  have K:KeysAt X (upd H d (c9 d (ziE (ns.take i) (ms.take i)))) rp (ziE (ns.take i) (ms.take i)) (.int (ns.getD i 0)) (.int (ns.getD i 0)):=⟨λe he=>by
   obtain⟨n,m,_,rfl⟩:=BA e he;exact⟨u9 rfl,den_int⟩,kk,den_int⟩
  have jD:ns.getD i 0=ns[i]:=by rw[aN,ao il];rfl
  have ui:ms.getD i 0=ms[i]:=by rw[aN,ao (by lia)];rfl
  have nr:∀e∈ziE (ns.take i) (ms.take i),e.1≠aF (ns.getD i 0):=λe he h=>by
   obtain⟨n,m,hn,rfl⟩:=BA e he
   injection h with h
   obtain⟨j,hj,e2⟩:=eB.mp hn;rw[dZ]at hj;rw[Co,h,jD]at e2;have rW:j<ns.length:=by lia
   have:=(List.getElem?_inj rW jk).mp (show ns[j]?=ns[i]? by rw[ao rW,ao il,e2]);lia
  have hlen:(ziE (ns.take i) (ms.take i)).length=i:=by unfold ziE;rw[au,cZ,dZ,dZ];lia
  have tP:ziE (ns.take i) (ms.take i)++[(.int (ns.getD i 0),.int (ns.getD i 0),.int (ms.getD i 0))]=ziE (ns.take (i+1)) (ms.take (i+1)):=by
   unfold ziE;rw[nM il,nM (show i<ms.length by lia),kY (by rw[dZ,dZ];lia),aW,jD,ui];rfl
  have rk:RelV (V.int (ns.getD i 0)) (iJ (ns.getD i 0) tx):=⟨tx,rfl⟩;have rv:RelV (V.int (ms.getD i 0)) (iJ (ms.getD i 0) ty):=⟨ty,rfl⟩;refine ab (Y3 I1 (by show A.units+1+10<_;lia) K.key K.den rk ?_);refine a6u (s:={s with heap:=h',toks:=tk+u8 (aF (ns.getD i 0))}) (I1.tok _) (by show A.units+1+10<_;lia) i7 K rk rv (by rw[hlen];lia) nr λh2 I2 sb=>?_
  rw[tP,show upd (upd H d (c9 d (ziE (ns.take i) (ms.take i)))) d (c9 d (ziE (ns.take (i+1)) (ms.take (i+1))))=upd H d (c9 d (ziE (ns.take (i+1)) (ms.take (i+1)))) from funext λb=>by unfold upd;split<;>rfl]at I2;have sE:∀b o,b≠d->h'.get? b=cz o->h2.get? b=cz o:=λb o hb e=>sb.extBut b o hb e
  refine ae ⟨fw PySem.F.plain_dict_update_loop _,?_⟩;have:=ih (i+1) {s with heap:=h2,toks:=tk+u8 (aF (ns.getD i 0))} (by lia) il I2 hf ?_ (D1.frame _ _ _ sT λb hb o e=>sE b o (dn b (by simp[hb])) e) (D2.frame _ _ _ pK λb hb o e=>sE b o (dn b (by simp[hb])) e) hR
  ·exact this
  ·obtain⟨a1,⟨p,q,a2⟩,a3⟩:=DE;refine⟨sE _ _ (dn TI (by simp)) a1,⟨p,q,sE _ _ (dn TO (by simp)) a2⟩,?_⟩;rcases a3 with a3|⟨T0,f1,o0,t1,t2,t3,t4,t5,t6⟩
   ·exact .inl (sE _ _ (dn z (by simp)) a3)
   ·by_cases c:T0=d
    ·subst c;obtain⟨o',nq⟩:∃o',h2.get? T0=cz o':=by
      obtain⟨_,_,_,o,_,_,h1,_⟩:=o8 I2 i7;exact⟨o,h1⟩
     exact .inr ⟨T0,f1,o',t1,t2,t3,t4,nq,sE _ _ (dn z (by simp)) t6⟩
    ·exact .inr ⟨T0,f1,o0,t1,t2,t3,t4,sE _ _ c t5,sE _ _ (dn z (by simp)) t6⟩
end
end VS
namespace PySem
open Sem (wp)
abbrev a9r(h:bQ)(l1:aw):bQ:=h.push {cls:=.type "tuple_iterator",data:=.fields #[.ref l1,.int 0 0]}
abbrev a9s(h:bQ)(l1 l2:aw):bQ:=(a9r h l1).push {cls:=.type "tuple_iterator",data:=.fields #[.ref l2,.int 0 0]}
abbrev a9t(h:bQ)(l1 l2:aw):bQ:=(a9s h l1 l2).push {cls:=.type "tuple",data:=.seq #[.ref h.objs.size,.ref (a9r h l1).objs.size]}
abbrev a9u(h:bQ)(l1 l2:aw):bQ:=(a9t h l1 l2).push {cls:=.type "tuple",data:=.seq #[.none,.none]}
abbrev a4E(h:bQ)(l1 l2:aw):bQ:=(a9u h l1 l2).push {cls:=.type "zip",data:=.fields #[.none,.bool rp,.bool rp,.ref (a9s h l1 l2).objs.size,.ref (a9t h l1 l2).objs.size]}
def a8p(l1 l2:aw)(xs ys:Array aj):Meets (Builtin.«zip.__new__» ⟨[.type "zip",.ref l1,.ref l2],[]⟩) (λ_ R s=>s.heap.IsTuple l1 xs/\s.heap.IsTuple l2 ys/\R (.ok (.ret (.ref (a9u s.heap l1 l2).objs.size))) {s with heap:=a4E s.heap l1 l2}):=
 .of_wp λprog w A R s h=>by
  obtain⟨hp,g,d,tk,os⟩:=s;obtain⟨rU,uI,h⟩:=h;have jw:=sub_zip;have Fy:bQ.IsTuple (ar.heap ⟨hp,g,d,tk,os⟩) l1 xs:=rU;have Fx:bQ.IsTuple (ar.heap ⟨hp.push {cls:=.type "tuple_iterator",data:=.fields #[.ref l1,.int 0 0]},g,d,tk,os⟩) l2 ys:=bQ.IsTuple.push uI _
  wp_walk using oO Fy,oO Fx
  exact⟨_,rfl,h⟩
section
variable {prog:bz}{w:bI}{A:bD}{E:aj->ar->Prop}{s:ar}
def b1a(rU:s.heap.IsTuple l1 xs)(uI:s.heap.IsTuple l2 ys)
  (q:∀h',nR h' (s.heap.objs.size+4) (s.heap.objs.size+2) (s.heap.objs.size+3) .none->jz h' (s.heap.objs.size+2) (.ref s.heap.objs.size) (.ref (s.heap.objs.size+1))->jz h' (s.heap.objs.size+3) .none .none->h'.IsTupleIter s.heap.objs.size l1 0->h'.IsTupleIter (s.heap.objs.size+1) l2 0->
   (∀c o,s.heap.get? c=cz o->h'.get? c=cz o)->Q (.ref (s.heap.objs.size+4)) {s with heap:=h'}):aD (aX prog w) A (call (.type "zip") [.ref l1,.ref l2]) Q E s:=by
 refine callType_new F.called_zip (by decide) (F.typeCall_zip_2 _ _) (F.newCall_zip_2 _ _) (λobj=>F.args_object_init_3 obj _ _) F.entry_zip_new (a8p l1 l2 xs ys) ⟨rU,uI,?_⟩;have z1:(a9r s.heap l1).objs.size=s.heap.objs.size+1:=cM ..;have z2:(a9s s.heap l1 l2).objs.size=s.heap.objs.size+2:=by rw[cM,z1]
 have z3:(a9t s.heap l1 l2).objs.size=s.heap.objs.size+3:=by rw[cM,z2]
 have z4:(a9u s.heap l1 l2).objs.size=s.heap.objs.size+4:=by rw[cM,z3]
 have up:∀{h:bQ} {o:fM} {c:aw} {u:fM},h.get? c=cz u->(h.push o).get? c=cz u:=λe=>ag _ e
 have g5:(a4E s.heap l1 l2).get? (a9u s.heap l1 l2).objs.size=cz _:=aH _ rfl;have g4:(a4E s.heap l1 l2).get? (a9t s.heap l1 l2).objs.size=cz _:=up (aH _ rfl);have g3:(a4E s.heap l1 l2).get? (a9s s.heap l1 l2).objs.size=cz _:=up (up (aH _ rfl));have g2:(a4E s.heap l1 l2).get? (a9r s.heap l1).objs.size=cz _:=up (up (up (aH _ rfl)));have g1:(a4E s.heap l1 l2).get? s.heap.objs.size=cz _:=up (up (up (up (aH _ rfl))));show _/\_;rw[z2,z3,z4]at g5;rw[z1,z2]at g3;rw[z3]at g4;rw[z1]at g2;rw[z4];exact⟨⟨_,g5,rfl⟩,q _ g5 g3 g4 ⟨_,g1,rfl,rfl⟩ ⟨_,g2,rfl,rfl⟩ λc o x=>up (up (up (up (up x))))⟩
end
end PySem
namespace VS
open PySem PySem.Spec L2
section
variable {X:Cx}{pins:List (aw×fM)}{Y:L2.St}{H:Hp}{s:ar}{z TI TO i1 i2:aw}{fp1 fp2:List aw}{St1 St2:Nat->bQ->Prop}{ns ms:List Int}
def b3e(hc:X.calm=p4)(hu:X.A.units+40<cS)(I:Inv X pins Y H s)
  (D1:∀A:bD,A.handled=el->Draws X.prog X.w A i1 fp1 ns.length (λi v=>∃t,v=.int (ns.getD i 0) t) St1) (D2:∀A:bD,A.handled=el->Draws X.prog X.w A i2 fp2 ns.length (λi v=>∃t,v=.int (ms.getD i 0) t) St2) (Z:ZApart z TI TO i1 i2 fp1 fp2)
  (hl:ms.length=ns.length) (jk:ns.Nodup) (hsz:ns.length<aV) (il:∀b∈[z,TI,TO,i1,i2]++fp1++fp2,b<s.heap.objs.size) (hf:∀b∈[z,TO,i1,i2],a0A X pins H b) (hz:nR s.heap z TI TO .none) (rZ:jz s.heap TI (.ref i1) (.ref i2)) (wK:jz s.heap TO .none .none) (g1:St1 0 s.heap) (g2:St2 0 s.heap)
  (q:∀d,H d=el->Q (.ref d) (upd H d (c9 d (ziE ns ms)))):aD (aX X.prog X.w) X.A (call (.type "dict") [.ref z]) (EP X pins Y Q) X.xe s:=by
 have hh:X.A.handled=el:=I.ok.hd hc;refine xi (Q₁:=λobj s₁=>obj=.ref s.heap.objs.size/\s₁={s with heap:=s.heap.push {cls:=.type "dict",data:=.dict #[]}}) PySem.F.kt_called_dict (PySem.F.kt_typeCall_dict_1 _) PySem.F.entry_dict_init (kt_code_dict_new _ ⟨rfl,rfl⟩) ?_;rintro obj s₁ ⟨rfl,rfl⟩;have rR:(s.heap.push {cls:=.type "dict",data:=.dict #[]}).DictOf (cX X.prog X.w) s.heap.objs.size []:=bQ.DictOf.new s.heap;refine⟨rR.typeIs,PySem.F.args_dict_init_2 _ _,?_⟩;have tD:nR (s.heap.push {cls:=.type "dict",data:=.dict #[]}) z TI TO .none:=ag _ hz;unfold Builtin.«dict.__init__»;refine ab ?_;unfold lD;refine ab (fI rR.typeIs ?_);show aD _ _ (pure (s.heap.objs.size,[aZ z])) _ _ _;refine ae ?_;show aD _ _ (eY "dict.__init__" s.heap.objs.size (.ref z) [] .none) _ _ _;unfold eY;refine ab (hU (T:="zip") ⟨_,tD,rfl⟩ ?_);rw[aG (by decide)];refine ab (a8o hh tD λh2 tk up=>?_);rw[aG (show (el:Option aj).isNone=p4 from rfl)];have keep:∀b o,s.heap.get? b=cz o->h2.get? b=cz o:=λb o e=>up b o (ag _ e)
 have AX:nR h2 z TI TO .none:=keep _ _ hz;refine ab (dR (ab (wpAny_pyIter_zip AX (ae ⟨fw PySem.F.plain_dict_update_loop _,?_⟩))));have zL:H s.heap.objs.size=el:=I.hok.fresh (aE _);have nd:∀b∈[z,TI,TO,i1,i2]++fp1++fp2,b≠s.heap.objs.size:=λb hb e=>absurd (il b hb) (by rw[e];exact dt _)
 have I0:Inv X pins Y (upd H s.heap.objs.size (c9 s.heap.objs.size [])) {s with heap:=s.heap.push {cls:=.type "dict",data:=.dict #[]}}:=I.laid (a:=s.heap.objs.size) (o:=c9 s.heap.objs.size []) (t':=s.toks) (λ_ _ q=>ag _ q) (aE _) (a1V s.heap I.sysBelow);have I1:Inv X pins Y (upd H s.heap.objs.size (c9 s.heap.objs.size [])) {s with heap:=h2,toks:=tk}:=I0.kept (t':=tk) up;refine b3d (X:=X) (pins:=pins) (Y:=Y) (H:=H) (A:=X.A.in1) (d:=s.heap.objs.size) (z:=z) (ns:=ns) (ms:=ms) (by show X.A.units+1+20<_;lia) (D1 _ hh) (D2 _ hh) Z hl jk hsz (λhb=>nd _ hb rfl) ns.length 0 {s with heap:=h2,toks:=tk} rfl (cI _) I1 (λb hb=>?_) ⟨keep _ _ rZ,⟨_,_,keep _ _ wK⟩,.inl AX⟩
  ((D1 _ hh).frame _ _ _ g1 λb _ o e=>keep b o e) ((D2 _ hh).frame _ _ _ g2 λb _ o e=>keep b o e) λs' I'=>⟨rfl,.ref s.heap.objs.size,_,I',rfl,q _ zL⟩
 have xS:b∈[z,TI,TO,i1,i2]++fp1++fp2:=by
  simp only[az,cG,or_false]at hb;rcases hb with rfl|rfl|rfl|rfl<;>simp
 exact⟨by rw[f8 (nd b xS)];exact (hf b hb).1,(hf b hb).2⟩
end
end VS
namespace PySem
def Draws.imp(D:Draws prog w A it fp n P St)(h:∀i v,i<n->P i v->P' i v):Draws prog w A it fp n P' St:=
 ⟨D.live,D.frame,λi s Q E hi st q=>D.item i s Q E hi st λx h' tk p=>q x h' tk (h i x hi p),D.done⟩
def b3f:gn "zip"=cz (.type "zip"):=by kernel_rfl
end PySem
namespace VS
open PySem PySem.Spec L2
def SqI(K:af)(H:Hp)(l:Bool)(a:aw)(ns:List Int):Prop:=if l then SqL K H a (ns.map V.int) else SqT K H a (ns.map V.int)
def a2v{ns:List Int}(h:Vals (ns.map V.int) cE):cE.length=ns.length/\∀(i:Nat) (v:aj),cE[i]?=cz v->∃t,v=.int (ns.getD i 0) t:=by
 refine⟨by rw[<-h.length,au],λi v hv=>?_⟩;have hi:i<ns.length:=by rw[<-au (f:=V.int),h.length];exact (aU.mp hv).1
 obtain⟨u,hu,r⟩:=h.get (show (ns.map V.int)[i]?=cz (V.int (ns.getD i 0)) by rw[a_,ao hi,aN,ao hi];rfl);rw[hv]at hu;cases hu
 exact r
section
variable {X:Cx}{M:List Md}{a b:Expr}{fa fb:EvE}{ca cb:Cat}{pos hW p p2:eS}
def tDZ(X:Cx)(l:Bool)(t:TA):TE:=λY H Q=>t Y H λxs H1=>∃u v ns ms,xs=[.ref u,.ref v]/\SqI X.K H1 l u ns/\SqI X.K H1 l v ms/\ms.length=ns.length/\ns.Nodup/\ns.length<aV/\∀d,H1 d=el->Q (.ref d) (upd H1 d (c9 d (ziE ns ms)))
def a8q(hc:X.calm=p4)(hu:X.A.units+40<cS)(zg:X.mg "dict"=el)(ze:X.mg "zip"=el)(ha:PA X [a,b] t)(zD:Gl X "dict":=by rfl)(zx:Gl X "zip":=by rfl)
  (he:ax [a,b] X.env=(rp,cn a X.env)::ax [b] X.env:=by rfl) (f_:(cx hW (ax [b] X.env)).any (·.1)=rp:=by rfl)
  (lK:ax [.Call (.Name "zip" p2) [a,b] [] hW] X.env=(rp,cn (.Call (.Name "zip" p2) [a,b] [] hW) X.env)::ax [] X.env:=by rfl) (p_:(cx pos (ax [] X.env)).any (·.1)=rp:=by rfl) :
  PE X (.Call (.Name "dict" p) [.Call (.Name "zip" p2) [a,b] [] hW] [] pos) (tDZ X l t):=by
 intro pins s Y H Q I h;refine fF (a0i I zD zg PyProof.Rows.Boot.«dict» ?_ (by decide) (by decide));refine eR ?_ lK p_;rw[lK];show aD _ _ (spliced ((rp,cn (.Call (.Name "zip" p2) [a,b] [] hW) X.env)::cx pos (ax [] X.env))) _ _ s;refine Calls.spliced_cons ?_;refine fF (a0i I zx ze b3f ?_ (by decide) (by decide));refine eR (L2.thn (ha hW pins s Y H _ I h) λus s1 ⟨xs,H1,I1,r1,q1⟩=>?_) he f_;obtain⟨u,v,ns,ms,rfl,Bg,Bf,hl,jk,hsz,q⟩:=q1;cases r1 with
 |cons r rr=>
  cases rr with
  |cons r' CQ=>
   cases CQ
   cases (show _=aZ u from r)
   cases (show _=aZ v from r')
   have fin:∀(h':bQ) (fp1 fp2:List aw) (St1 St2:Nat->bQ->Prop),nR h' (s1.heap.objs.size+4) (s1.heap.objs.size+2) (s1.heap.objs.size+3) .none->jz h' (s1.heap.objs.size+2) (.ref s1.heap.objs.size) (.ref (s1.heap.objs.size+1))->jz h' (s1.heap.objs.size+3) .none .none->(∀c o,s1.heap.get? c=cz o->h'.get? c=cz o)->
     (∀A:bD,A.handled=el->Draws X.prog X.w A s1.heap.objs.size fp1 ns.length (λi v=>∃t,v=.int (ns.getD i 0) t) St1)->(∀A:bD,A.handled=el->Draws X.prog X.w A (s1.heap.objs.size+1) fp2 ns.length (λi v=>∃t,v=.int (ms.getD i 0) t) St2)->
     (∀b:Nat,b∈fp1->b<=s1.heap.objs.size)->(∀b:Nat,b∈fp2->b<s1.heap.objs.size\/b=s1.heap.objs.size+1)->St1 0 h'->St2 0 h'->
     aD (aX X.prog X.w) X.A (spliced (cx pos (ax [] X.env))) (λvs s2=>aD (aX X.prog X.w) X.A (call (.type "dict") (.ref (s1.heap.objs.size+4)::vs)) (EP X pins Y Q) X.xe s2) X.xe {s1 with heap:=h'}:=by
    intro h' fp1 fp2 St1 St2 z1 z2 z3 keep D1 D2 f1 f2 g1 g2;refine Calls.spliced_nil ?_;have I2:Inv X pins Y H1 {s1 with heap:=h'}:=I1.kept (t':=s1.toks) keep;have DD:s1.heap.objs.size+4<h'.objs.size:=aI z1;refine b3e (X:=X) (ns:=ns) (ms:=ms) (z:=s1.heap.objs.size+4) (TI:=s1.heap.objs.size+2) (TO:=s1.heap.objs.size+3) (i1:=s1.heap.objs.size) (i2:=s1.heap.objs.size+1) (fp1:=fp1) (fp2:=fp2) (St1:=St1) (St2:=St2) hc hu I2 D1 D2 ?_ hl jk hsz (λb hb=>?_) (λb hb=>?_) z1 z2 z3 g1 g2 q
    ·have n1:∀k,1<=k->s1.heap.objs.size+k∉fp1:=λk hk hb=>by have:=f1 _ hb;lia
     have n2:∀k,k≠1->s1.heap.objs.size+k∉fp2:=λk hk hb=>by rcases f2 _ hb with z|z<;>lia
     have ne:∀i j:Nat,i≠j->(s1.heap.objs.size+i:Nat)≠s1.heap.objs.size+j:=λi j h=>by lia
     exact⟨ne 2 4 (by lia),ne 3 4 (by lia),ne 2 3 (by lia),ne 0 1 (by lia),ne 2 0 (by lia),ne 2 1 (by lia),ne 3 0 (by lia),ne 3 1 (by lia),ne 4 0 (by lia),ne 4 1 (by lia),n1 4 (by lia),n2 4 (by lia),n1 3 (by lia),n2 3 (by lia),n2 0 (by lia),n1 1 (by lia)⟩
    ·have hk:∀k:Nat,k<=4->s1.heap.objs.size+k<h'.objs.size:=λk hk=>h_ (Nat.add_le_add_left hk _) DD
     show b<h'.objs.size;rcases aB.mp hb with hb|hb
     ·rcases aB.mp hb with hb|hb
      ·simp only[az,cG,or_false]at hb;rcases hb with rfl|rfl|rfl|rfl|rfl
       ·exact hk 4 (by decide)
       ·exact hk 2 (by decide)
       ·exact hk 3 (by decide)
       ·exact hk 0 (by decide)
       ·exact hk 1 (by decide)
      ·exact h_ (f1 _ hb) (hk 0 (by decide))
     ·rcases f2 _ hb with z|z
      ·exact fG z (hk 0 (by decide))
      ·rw[z];exact hk 1 (by decide)
    ·have kF:s1.heap.objs.size<=b:=by
      simp only[az,cG,or_false]at hb;rcases hb with rfl|rfl|rfl|rfl
      ·exact ox _ _
      ·exact ox _ _
      ·exact aE _
      ·exact ox _ _
     exact I1.fpOk kF (I1.hok.fresh kF)
   cases l with
   |true=>
    obtain⟨t1,v1,p1,_⟩:=I1.list (show SqL X.K H1 u (ns.map V.int) from Bg);obtain⟨t2,v2,vw,_⟩:=I1.list (show SqL X.K H1 v (ms.map V.int) from Bf);obtain⟨l1,e1⟩:=a2v v1;obtain⟨l2,e2⟩:=a2v v2;have lu:(u:Nat)<s1.heap.objs.size:=by obtain⟨o,ho,_⟩:=p1.isList;exact aI ho
    have lv:(v:Nat)<s1.heap.objs.size:=by obtain⟨o,ho,_⟩:=vw.isList;exact aI ho
    refine call_zip_2 p1.isList vw.isList λh' z1 z2 z3 y1 y2 _ keep=>?_
    refine fin h' [s1.heap.objs.size,u] [s1.heap.objs.size+1,v] _ _ z1 z2 z3 keep (λA hA=>(show ns.length=t1.toArray.size by simp[l1])▸(Draws.list (prog:=X.prog) (w:=X.w) (A:=A) hA s1.heap.objs.size u (bc lu) t1.toArray).imp λi v _ h=>e1 i v (by simpa using h)) (λA hA=>(show ns.length=t2.toArray.size by simp[l2,hl])▸(Draws.list (prog:=X.prog) (w:=X.w) (A:=A) hA (s1.heap.objs.size+1) v (bc (gj lv)) t2.toArray).imp λi v _ h=>e2 i v (by simpa using h)) (λb hb=>?_) (λb hb=>?_) ⟨y1,p1.isList.at λo e=>keep _ o e⟩ ⟨y2,vw.isList.at λo e=>keep _ o e⟩
    ·simp only[az,cG,or_false]at hb;rcases hb with hb|hb
     ·rw[hb];exact aE _
     ·rw[hb];exact dP lu
    ·simp only[az,cG,or_false]at hb;rcases hb with hb|hb
     ·exact .inr hb
     ·rw[hb];exact .inl lv
   |false=>
    obtain⟨t1,v1,p1,_⟩:=I1.tuple (show SqT X.K H1 u (ns.map V.int) from Bg);obtain⟨t2,v2,vw,_⟩:=I1.tuple (show SqT X.K H1 v (ms.map V.int) from Bf);obtain⟨l1,e1⟩:=a2v v1;obtain⟨l2,e2⟩:=a2v v2;have q1:s1.heap.IsTuple u t1.toArray:=p1;have q2:s1.heap.IsTuple v t2.toArray:=vw;have lu:(u:Nat)<s1.heap.objs.size:=by obtain⟨o,ho,_⟩:=q1;exact aI ho
    have lv:(v:Nat)<s1.heap.objs.size:=by obtain⟨o,ho,_⟩:=q2;exact aI ho
    refine b1a q1 q2 λh' z1 z2 z3 y1 y2 keep=>?_
    refine fin h' [s1.heap.objs.size,u] [s1.heap.objs.size+1,v] _ _ z1 z2 z3 keep (λA hA=>(show ns.length=t1.toArray.size by simp[l1])▸(Draws.tup (prog:=X.prog) (w:=X.w) (A:=A) hA s1.heap.objs.size u (bc lu) t1.toArray).imp λi v _ h=>e1 i v (by simpa using h)) (λA hA=>(show ns.length=t2.toArray.size by simp[l2,hl])▸(Draws.tup (prog:=X.prog) (w:=X.w) (A:=A) hA (s1.heap.objs.size+1) v (bc (gj lv)) t2.toArray).imp λi v _ h=>e2 i v (by simpa using h)) (λb hb=>?_) (λb hb=>?_) ⟨y1,let⟨o,ho,r⟩:=q1;⟨o,keep _ o ho,r⟩⟩ ⟨y2,let⟨o,ho,r⟩:=q2;⟨o,keep _ o ho,r⟩⟩
    ·simp only[az,cG,or_false]at hb;rcases hb with hb|hb
     ·rw[hb];exact aE _
     ·rw[hb];exact dP lu
    ·simp only[az,cG,or_false]at hb;rcases hb with hb|hb
     ·exact .inr hb
     ·rw[hb];exact .inl lv
end
def b5C(l:Bool):D->Option (List Int)
 |.list ds=>if l then intsOf ds else el
 |.tuple ds=>if l then el else intsOf ds
 |_=>el
def a9v(ns ms:List Int):Bool:=decide (ms.length=ns.length)&&(decide ns.Nodup&&decide (ns.length<1000000))
def ziD(ns ms:List Int):List (D×D):=(ns.zip ms).map λp=>(.int p.1,.int p.2)
noncomputable def K5(l:Bool)(fa fb:EvE):EvE:=λU=>(fa U).bind λd=>(fb U).bind λe=>(b5C l d).bind λns=>(b5C l e).bind λms=>if a9v ns ms then cz (.dict (ziD ns ms)) else el
theorem a0Y(h:∀m,R (V.int m) (.int m) []):∀ms:List Int,ListAll R (ms.map V.int) (ms.map aF) []
 |[]=>n5
 |m::ms=>m4 (f:=[]) (h m) (a0Y h ms)
theorem a0Z:∀{ns ms:List Int},ms.length=ns.length->(ziE ns ms).map (·.1)=ns.map aF/\(ziE ns ms).map (·.2.2)=ms.map V.int
 |[],[],_=>⟨rfl,rfl⟩
 |[],_::_,h=>by simp at h
 |_::_,[],h=>by simp at h
 |n::ns,m::ms,h=>by
  obtain⟨h1,h2⟩:=a0Z (ns:=ns) (ms:=ms) (by simpa using h);exact⟨du (aF n::·) h1,du (V.int m::·) h2⟩
theorem a9w:∀{ns ms:List Int},ms.length=ns.length->ziD ns ms=(ns.map aF).zip (ms.map .int)
 |[],[],_=>rfl
 |[],_::_,h=>by simp at h
 |_::_,[],h=>by simp at h
 |n::ns,m::ms,h=>by
  have:=a9w (ns:=ns) (ms:=ms) (by simpa using h);exact du ((aF n,aF m)::·) this
section
variable {X:Cx}{M:List Md}{a b:Expr}{fa fb:EvE}{ca cb:Cat}{pos hW p p2:eS}{K:af}{H H':Hp}{F:List aw}
def a6N(h:b5C l d=cz ns)(hd:Den K (cut H F) v d):∃u,v=.ref u/\∀H',Same (cut H F) H'->SqI K H' l u ns:=by
 cases d with
 |list ds=>
  cases l with
  |true=>
   have e:=B9 (show intsOf ds=cz ns from h);subst e;obtain⟨u,xs,rfl,k1,k2⟩:=hd.list_inv;rw[W9 k2]at k1;exact⟨u,rfl,λH' s=>(T5 k1 s).l⟩
  |false=>cases h
 |tuple ds=>
  cases l with
  |false=>
   have e:=B9 (show intsOf ds=cz ns from h);subst e;obtain⟨u,xs,rfl,k1,k2⟩:=hd.tup_inv;rw[W9 k2]at k1;exact⟨u,rfl,λH' s=>P7 k1 s⟩
  |true=>cases h
 |_=>cases h
def a3k(l:Bool)(hc:X.calm=p4)(hu:X.A.units+164<cS)(zg:X.mg "dict"=el)(ze:X.mg "zip"=el)(ha:PX X M a fa ca)(hb:PX X M b fb cb)(EZ:frozen ca:=by trivial)(EY:frozen cb:=by trivial)(zD:Gl X "dict":=by rfl)(zx:Gl X "zip":=by rfl)
  (he:ax [a,b] X.env=(rp,cn a X.env)::ax [b] X.env:=by rfl) (EO:ax [b] X.env=(rp,cn b X.env)::ax [] X.env:=by rfl) (f_:(cx hW (ax [b] X.env)).any (·.1)=rp:=by rfl)
  (lK:ax [.Call (.Name "zip" p2) [a,b] [] hW] X.env=(rp,cn (.Call (.Name "zip" p2) [a,b] [] hW) X.env)::ax [] X.env:=by rfl) (p_:(cx pos (ax [] X.env)).any (·.1)=rp:=by rfl) :
  PX X M (.Call (.Name "dict" p) [.Call (.Name "zip" p2) [a,b] [] hW] [] pos) (K5 l fa fb) (.new (.d rp .i)):=by
 obtain⟨ta,pa,qa⟩:=ha.out;obtain⟨tb,pb,qb⟩:=hb.out;refine .mk ⟨_,a8q (l:=l) hc (by lia) zg ze (m7 pa (m7 pb u7 EO) he) zD zx he f_ lK p_,λU Y H P F d Q S hf q=>?_⟩;obtain⟨x,h1,g1⟩:=bnd hf;obtain⟨y,h2,g2⟩:=bnd g1;obtain⟨ns,h3,g3⟩:=bnd g2;obtain⟨ms,h4,g4⟩:=bnd g3;by_cases c:a9v ns ms=p4
 ·rw[aG c]at g4;cases g4
  simp only[a9v,ak,df]at c;obtain⟨c1,c2,c3⟩:=c;refine qa U Y H P F _ _ S h1 λv H1 e1 r1=>?_
  obtain⟨u,rfl,su⟩:=a6N h3 (D7 EZ r1);refine qb U Y H1 P F _ _ (S.grow e1) h2 λw H2 e2 r2=>?_
  obtain⟨u2,rfl,sw⟩:=a6N h4 (D7 EY r2);refine⟨u,u2,ns,ms,rfl,su H2 (i8.trans e2),sw H2 i8,c1,c2,fG c3 (by rw[cR];decide),λz hz=>?_⟩;refine q _ _ ((e1.trans e2).trans (l9 hz _)) ⟨[z],?_,bt.mpr ⟨λw=>(nomatch w),bu⟩,λb hb=>?_⟩
  ·simp only[Own];refine⟨z,ziE ns ms,ms.map .int,[],rfl,i7,?_,rfl,⟨?_,λe he=>?_⟩,?_⟩
   ·rw[(a0Z c1).1,a9w c1]
   ·rw[(a0Z c1).1];exact Ct _ (λx y h e=>h (by injection e)) c2
   ·obtain⟨pr,_,rfl⟩:=aO.mp he;exact⟨u9 rfl,den_int⟩
   ·rw[(a0Z c1).2];exact a0Y (λm=>⟨rfl,a0S,den_int⟩) ms
  ·rw[aq.mp hb];cases hH:H z with
   |none=>rfl
   |some y=>rw[e2 _ _ (e1 _ _ hH)]at hz;cases hz
 ·rw[aL c]at g4;cases g4
end
noncomputable def a3l(i:Nat)(kt kt2:Bool)(fk fj fr fv:EvE):EvS:=λU=>(fk U).bind λk=>match U.getD i .none with
 |.dict kvs=>if m9 kt k&&decide (kvs.length<1000000) then
   (fj (U.set i (.dict (o9 kvs k (.dict []))))).bind λj=>match A1 (o9 kvs k (.dict [])) k with
    |some (.dict jP)=>if m9 kt2 j&&decide (jP.length<1000000) then
      if v6 jP j then (fr (U.set i (.dict (o9 kvs k (.dict []))))).bind λd=>cz (.rt d)
      else (fv (U.set i (.dict (o9 kvs k (.dict []))))).bind λd=>cz (.nx ((U.set i (.dict (o9 kvs k (.dict [])))).set i (.dict (n9 (o9 kvs k (.dict [])) k (.dict (n9 jP j d))))))
     else el
    |_=>el
  else el
 |_=>el
section
variable {X:Cx}{M M' M2 ML:List Md}{k j j2 v:Expr}{fk fj fr fv:EvE}{ret:hZ}{xc vD AI:eS}{kt kt2:Bool}{w:Ty}{pos apos cw ik hW mi:eS}
def b3g(i y:Nat)(hu:X.A.units+164<cS)(Fw:X.N.Nodup)(hk:PX X M k fk (.new .i))(hj:PX X M j fj (.new .i))(rW:PX X M j2 fj (.new .i))(yT:PSX X w ML M ret (m8 fr) M2)(hv:PX X M v fv (.new .i))(jC:PSsX X w ML M sts g M')(uJ:kt2=rp:=by rfl)
  (hN:X.N[i]?=cz x:=by rfl) (zV:X.N[y]?=cz yn:=by rfl) (hm:M[i]?=cz (.own (.d kt (.d kt2 .i))):=by rfl) (vX:M[y]?=cz .dead:=by rfl)
  (qX:Vis X.env.scope x:=by first|exact bR rfl|exact bT (bR rfl)|exact bT (bT rfl)) (hd:(x==("__debug__":bC))=rp:=by decide) (iG:(x==("__classdict__":bC))=rp:=by decide)
  (AZ:Vis X.env.scope yn:=by first|exact bR rfl|exact bT (bR rfl)|exact bT (bT rfl)) (xP:(yn==("__debug__":bC))=rp:=by decide) (BE:(yn==("__classdict__":bC))=rp:=by decide)
  (Eu:Loc X.env.scope yn:=by first|exact bR rfl|exact bT rfl) (zE:X.fn yn=p4\/X.env.scope.names.lookup yn=cz .local:=by first|exact .inl rfl|exact .inr rfl)
  (et:cY (.Name x px) "setdefault" X.env (cn (.Name x px) X.env)=cn (.Name x px) X.env:=by rfl)
  (jZ:((cx cw (ax [k,.Dict [] [] mi] X.env)).all (λx=>!x.1)&&(lS cw (iF [] X.env)).all (λx=>x.1.isSome)
   && decide (([k,.Dict [] [] mi]:List Expr).length+([]:List gu).length+(if ([]:List gu).isEmpty then 0 else 1)<30))=p4:=by rfl)
  (er:(apos.endLine==cw.line)=p4:=by rfl) (hs:ax [k,.Dict [] [] mi] X.env=(rp,cn k X.env)::ax [.Dict [] [] mi] X.env:=by rfl) (DZ:ax [.Dict [] [] mi] X.env=(rp,cn (.Dict [] [] mi) X.env)::ax [] X.env:=by rfl)
  (gc:(cx cw (ax [.Dict [] [] mi] X.env)).any (·.1)=rp:=by rfl)
  (n_:fB (.Call (.Attribute (.Name x px) "setdefault" apos) [k,.Dict [] [] mi] [] cw) (cz (.Name yn pz)) pos.line X.env=pure rp:=by rfl)
  (yS:fB v (cz (.Subscript (.Name yn py) j2 ik)) hW.line X.env=pure rp:=by rfl) (Es:eK .In (.Name yn AI)=rp:=by first|exact a0j _|with_unfolding_all rfl) :
  PSsX X w ML M (.Assign [.Name yn pz] (.Call (.Attribute (.Name x px) "setdefault" apos) [k,.Dict [] [] mi] [] cw) pos::.If (.Compare j [.In] [.Name yn AI] xc) [ret] [] vD::.Assign [.Subscript (.Name yn py) j2 ik] v hW::sts) (i6 (a3l i kt kt2 fk fj fr fv) g) M':=by
 obtain⟨tk,pk,qk⟩:=hk.out;obtain⟨tj,pj,qj⟩:=hj.out;obtain⟨CJ,De,CW⟩:=rW.out;obtain⟨tt,pt,qt⟩:=yT.out;obtain⟨tv,pv,qv⟩:=hv.out;obtain⟨tr,pr,qr⟩:=jC.out;refine .mk ⟨_,V7 (b1y Fw zV Eu (a7W PySem.F.slot_dict_setdefault PySem.F.type_dict_setdefault (b5a hu) (C7 hN qX hd iG) (m7 pk (m7 a6p u7 DZ) hs) et jZ er hs gc) n_ zE) (V7 (b6j (a0B (a7V hu) pj (C7 zV AZ xP BE) Es) (V7 pt a4Z) a4Z) (V7 (a5r hu (C7 zV AZ xP BE) De pv yS) pr)),λD U Y H P F o S hg kk=>?_⟩;obtain⟨o1,h1,g1⟩:=bnd hg;obtain⟨y0,DG,h1⟩:=bnd h1;obtain⟨a,es,ds,fs,ha,hH,hU,_⟩:=S.toE.dict hm;rw[hU]at h1
 let kvs:List (VS.D×VS.D):=(es.map (·.1)).zip ds
 have lQ:(if (m9 kt y0&&decide (kvs.length<1000000))=p4 then (fj (U.set i (.dict (o9 kvs y0 (.dict []))))).bind λj=>match A1 (o9 kvs y0 (.dict [])) y0 with
    |some (.dict jP)=>if m9 kt2 j&&decide (jP.length<1000000) then
      if v6 jP j then (fr (U.set i (.dict (o9 kvs y0 (.dict []))))).bind λd=>cz (Out.rt d)
      else (fv (U.set i (.dict (o9 kvs y0 (.dict []))))).bind λd=>cz (Out.nx ((U.set i (.dict (o9 kvs y0 (.dict [])))).set i (.dict (n9 (o9 kvs y0 (.dict [])) y0 (.dict (n9 jP j d))))))
     else el
    |_=>el
  else el)=cz o1:=h1
 by_cases c:(m9 kt y0&&decide (kvs.length<1000000))=p4
 ·rw[aG c]at lQ;obtain⟨j0,sP,lQ⟩:=bnd lQ;rw[ak]at c;have mz:i<U.length:=by
   obtain⟨G,q1,_⟩:=S.all;obtain⟨d0,_,_,_,_,z1,_⟩:=q1.at_ hm;exact (aU.mp z1).1
  have GV:i≠y:=λz=>by
   subst z;rw[hm]at vX;cases vX
  have xD:y<Y.length:=by
   obtain⟨G,q1,_⟩:=S.all;obtain⟨_,_,_,_,_,_,z1,_⟩:=q1.at_ vX;exact (aU.mp z1).1
  have fin:∀(H1:Hp) (F1:List aw) (v1:V) (d1:VS.D) (f1:List aw),StR X.K M (U.set i (.dict (o9 kvs y0 (.dict [])))) Y H1 P F1->A1 (o9 kvs y0 (.dict [])) y0=cz d1->Own X.K H1 F1 (.d kt2 .i) v1 d1 f1->f1.Nodup->(∀b∈f1,b∈F1)->
    (∀(H':Hp) (a:aw) (o':MuO) (d':VS.D) (f':List aw),Same H1 H'->a∈f1->Own X.K (upd H' a o'.1) F1 (.d kt2 .i) v1 d' f'->(∀b,f'.count b<=f1.count b)->StR X.K M (U.set i (.dict (n9 (o9 kvs y0 (.dict [])) y0 d'))) Y (upd H' a o'.1) P F1)->
    (b9i (b1D (tOp (a3R X rp) tj (b4i y))) (b6U tt b1v) b1v) {D with nx:=(b6U (b6v X (b4i y) CJ tv) tr) D} (Y.set y (cz v1)) H1:=by
   intro H1 F1 v1 d1 f1 S1 ua ow jk rX cl;have S2:=S1.ded vX (cz v1);show tj (Y.set y (cz v1)) H1 _;refine qj _ _ H1 P F1 j0 _ S2.toE sP λjv H2 e2 r2=>⟨v1,iu xD,?_⟩
   rw[ua]at lQ;obtain⟨a1,jQ,rh,FK,xY,FT,Aj,Hi,FQ,Hh,rU,GS⟩:=(ow.grow e2).dict;subst xY;subst Aj;have jd:(if (m9 kt2 j0&&decide (((jQ.map (·.1)).zip rh).length<1000000))=p4 then
      if v6 ((jQ.map (·.1)).zip rh) j0 then (fr (U.set i (.dict (o9 kvs y0 (.dict []))))).bind λd=>cz (Out.rt d)
      else (fv (U.set i (.dict (o9 kvs y0 (.dict []))))).bind λd=>cz (Out.nx ((U.set i (.dict (o9 kvs y0 (.dict [])))).set i (.dict (n9 (o9 kvs y0 (.dict [])) y0 (.dict (n9 ((jQ.map (·.1)).zip rh) j0 d))))))
     else el)=cz o1:=lQ
   by_cases c2:(m9 kt2 j0&&decide (((jQ.map (·.1)).zip rh).length<1000000))=p4
   ·rw[aG c2]at jd;rw[ak]at c2;have S3:=S2.grow e2;refine⟨a1,jQ,kt2,j0,rfl,FT,keysAt FQ c2.1 r2.den,_,rfl,?_⟩;rw[Bool.false_bne,<-v9 rU];cases BR:v6 ((jQ.map (·.1)).zip rh) j0 with
    |true=>
     rw[BR,aG rfl]at jd;obtain⟨dr,zK,pJ⟩:=bnd jd;cases pJ
     have:o=.rt dr:=(aK g1).symm;subst this;rw[aG rfl];exact qt _ _ _ H2 P F1 (.rt dr) S3 (show (fr _).bind _=_ by rw[zK];rfl) kk
    |false=>
     rw[BR]at jd;simp only[cW,fO]at jd ⊢;obtain⟨d0,uN,pJ⟩:=bnd jd;cases pJ
     show tv (Y.set y (cz (.ref a1))) H2 _;refine qv _ _ H2 P F1 d0 _ S3.toE uN λvv H3 e3 r3=>⟨.ref a1,iu xD,CW _ _ H3 P F1 j0 _ (S3.grow e3).toE sP λAV H4 e4 r4=>?_⟩
     have S4:=S3.grow (e3.trans e4);obtain⟨uU,yz,_⟩:=r3;obtain⟨rfl,im,dv⟩:=V1 yz;have yA:Own X.K H4 F1 .i vv d0 []:=by
      simp only[Own];exact⟨trivial,im,dv.up (B2 e4)⟩
     have zu:Den X.K (cut H4 F1) AV j0:=r4.den.imm_out S4.lst j0 (Q7 _ (u9 c2.1).1);obtain⟨fm,z1,z2,z3,z4,f',o',wD⟩:=a6y (fv:=[]) (ow.grow (e2.trans (e3.trans e4))) rX (by simpa using jk) (u9 c2.1) zu yA;refine⟨a1,fm,kt2,j0,rfl,z1,keysAt z2 c2.1 r4.den,by rw[z3];exact fG (aP c2.2) (by rw[cR];decide),λ_=>a6q uJ c2.1,?_⟩;have S5:=(cl H4 a1 ⟨c9 a1 (P9 fm j0 AV vv),trivial⟩ _ f' (e2.trans (e3.trans e4)) z4 o' λb=>by have:=wD b;simpa using this).ded vX (cz (.ref a1));refine qr D _ _ _ P F1 o S5 ?_ kk;have g2:g ((U.set i (.dict (o9 kvs y0 (.dict [])))).set i (.dict (n9 (o9 kvs y0 (.dict [])) y0 (.dict (n9 ((jQ.map (·.1)).zip rh) j0 d0)))))=cz o:=g1;rw[List.set_set]at g2;exact g2
   ·rw[aL c2]at jd;cases jd
  refine⟨.ref a,ha,⟨a,es,rfl,hH⟩,qk U Y H P F y0 _ S.toE DG λkv H1 w1 r1=>λz hz=>?_⟩;have w2:Same H1 (upd H1 z (c9 z [])):=l9 hz _;have S2:=S.grow (w1.trans w2);have sg:Den X.K (upd H1 z (c9 z [])) kv y0:=r1.den.up w2;have vK:C1 y0=p4:=(u9 c.1).1;have Bq:∀{fm:List (VS.D×V×V)} {iy:List VS.D},U.getD i .none=.dict ((fm.map (·.1)).zip iy)->iy.length=fm.length->kvs=(fm.map (·.1)).zip iy/\fm.length<aV:=λ{fm iy} hq hl=>by
   rw[hU]at hq
   injection hq with hq
   refine⟨hq,?_⟩;have e3:((fm.map (·.1)).zip iy).length=fm.length:=by rw[cZ,au,hl,kP]
   rw[<-e3,<-hq];exact fG (aP c.2) (by rw[cR];decide)
  cases hK:v6 kvs y0 with
  |true=>
   have sf:o9 kvs y0 (.dict [])=kvs:=by unfold o9;rw[hK];rfl
   have eU:U.set i (.dict kvs)=U:=set_same (by rw[<-hU,aN,ao mz];rfl);obtain⟨a0,fm,iy,t1,t2,t3,t4,t5,t6,t7⟩:=S2.dval (k:=y0) hm (u9 c.1);rw[ha]at t1;cases t1
   obtain⟨ek,hsz⟩:=Bq t3 t4;refine⟨a,fm,kt,y0,kv,.ref z,rfl,rfl,t2,keysAt t5 c.1 sg,hsz,λhf=>?_,λe he fJ=>?_⟩
   ·rw[ek,v9 t4,hf]at hK;cases hK
   ·obtain⟨d1,f1,x1,x2,x3,x4,x5⟩:=t7 e he fJ;refine fin _ F e.2.2 d1 f1 (by rw[sf,eU];exact S2) (by rw[sf,ek];exact x1) x2 x3 x4 λH' a' o' d' f' sT pK mX Ab=>?_
    rw[sf,ek];exact x5 H' a' o' d' f' sT pK mX Ab
  |false=>
   have oz:Own X.K (upd H1 z (c9 z [])) ([z]++F) (.d kt2 .i) (.ref z) (.dict []) [z]:=by
    simp only[Own];exact⟨z,[],[],[],rfl,i7,rfl,rfl,⟨bu,λe he=>(nomatch he)⟩,n5⟩
   have P1:=(S.grow w1).pend.new w2 oz (by simp) λb hb=>by rw[aq.mp hb];exact hz
   have sf:o9 kvs y0 (.dict [])=kvs++[(y0,.dict [])]:=by unfold o9;rw[hK];rfl
   obtain⟨a0,fm,iy,uU,t1,t2,t3,t4,t5,t6,t7,t8,t9,CK⟩:=P1.dnew (k:=y0) (kv:=kv) hm (u9 c.1) sg;rw[ha]at t1;cases t1
   obtain⟨ek,hsz⟩:=Bq t3 t4;have hE:u4 fm y0=rp:=by rw[<-v9 t4,<-ek];exact hK
   refine⟨a,fm,kt,y0,kv,.ref z,rfl,rfl,t2,keysAt t5 c.1 sg,hsz,λhf=>?_,λe he fJ=>?_⟩
   ·obtain⟨z',_,_,ko,ez,zz,_,FR,_⟩:=t7.dict;cases ez
    have AW:z∈uU:=by rw[FR];exact ah
    have DC:z≠a:=(t9 z AW).2;have mW:a∈[z]++F:=by
     obtain⟨_,_,PS⟩:=P1;have:=PS.lst;obtain⟨v0,f0,sT,pK,mX⟩:=S.toE.get hm;rw[ha]at sT;cases sT
     obtain⟨a9,_,_,_,e9,_,_,f9,_⟩:=pK.dict;cases e9
     exact ay _ (mX a (by rw[f9];exact ah))
    have key:=CK hf;have vx:Own X.K (upd (upd H1 z (c9 z [])) a (c9 a (fm++[(y0,kv,.ref z)]))) ([z]++F) (.d kt2 .i) (.ref z) (.dict []) uU:=t7.frame (R4 mW _) _ λb hb=>f8 (t9 b hb).2
    have sL:upd (upd (upd H1 z (c9 z [])) a (c9 a (fm++[(y0,kv,.ref z)]))) z (c9 z [])=upd (upd H1 z (c9 z [])) a (c9 a (fm++[(y0,kv,.ref z)])):=b2B (by rw[f8 DC,i7]);refine fin _ ([z]++F) (.ref z) (.dict []) uU ?_ (by rw[sf];exact a4x vK hK) vx t8 (λb hb=>(t9 b hb).1) λH' a' o' d' f' sT pK mX Ab=>?_
    ·have:=key _ z ⟨c9 z [],trivial⟩ (.dict []) uU (Same.refl _) AW (by rw[sL];exact vx) λb=>aE _
     rw[sL,<-ek,<-sf]at this;exact this
    ·rw[sf,a8b vK hK,ek];exact key H' a' o' d' f' sT pK mX Ab
   ·exact absurd ((KeysAt.eqv (keysAt t5 c.1 sg) he).mpr fJ) (by
     unfold u4 at hE;rw[cu]at hE;exact hE e he)
 ·rw[aL c]at lQ;cases lQ
end
def ItV(a:aw)(es:List (D×V×V)):It:=
 ⟨λi H=>H a=cz (c9 a es)/\i<es.length,λi H x H'=>H'=H/\∃e,es[i]?=cz e/\x=e.2.2,λi H=>H a=cz (c9 a es)/\es.length<=i⟩
def b1b(a it:aw)(es:List (D×V×V))(hk:y8 es):Turn P w K tg (ItV a es) [it] it (λi h=>h.IsValIter it a i es.length es.length) where
 mem:=by simp
 obj:=λi h st b hb=>by
  cases aq.mp hb
  obtain⟨o,e,c,d⟩:=st;exact⟨o,e,λv z=>by rw[d]at z;cases z⟩
 keep:=λi h h' st k=>let⟨o,e,r⟩:=st;⟨o,k it (by simp) o e,r⟩
 item:=by
  intro X hP hw hK hc i pins s Y H E I hf st hg;subst hP hw hK;obtain⟨hH,hi⟩:=hg;obtain⟨kvs,jD,h0,hp,hlen⟩:=F6 I hH hk;have hx:es[i]?=cz es[i]:=ao hi;obtain⟨⟨n,v⟩,zp,g⟩:=B8 hp hx;obtain⟨f0,f1,f2,f3,f4,f5⟩:=hf it (by simp);rw[<-hlen]at st jD;refine wpAny_pyNext_values_item (knd:=cX X.prog X.w) st jD zp λh' nT sb=>?_
  have I1:Inv X pins Y H {s with heap:=h'}:=I.turned (t':=s.toks) (λb o hb e=>(sb.2 b hb).trans e) f0 f1 f3 f4 f5;rw[hlen]at nT;obtain⟨o,e,c,d⟩:=id nT;exact⟨v,rfl,a5V (s:={s with heap:=h'}) e c d (by decide) ⟨es[i].2.2,H,I1,g.2.2,⟨rfl,es[i],hx,rfl⟩,nT,λb hb=>(hf b hb).1⟩⟩
 done:=by
  intro X hP hw hK hc i pins s Y H E I hf st hg;subst hP hw hK;obtain⟨hH,hi⟩:=hg;obtain⟨kvs,jD,h0,hp,hlen⟩:=F6 I hH hk;obtain⟨f0,f1,f2,f3,f4,f5⟩:=hf it (by simp);rw[<-hlen]at st jD;exact wpAny_pyNext_values_end (knd:=cX X.prog X.w) (I.ok.hd hc) st jD (dW (by lia)) λh' eb=>⟨rfl,I.turned (t':=s.toks) (λb o hb e=>eb b o hb e) f0 f1 f3 f4 f5⟩
 self:=λ_ _ _ _ _ st h=>wpAny_pyIter_valiter st h
section
variable {X:Cx}{M:List Md}{tg o:Expr}{fa:EvE}{ca:Cat}{apos cw:eS}
def c1G(to:TE):TI:=λY H R=>to Y H λx H1=>∃p es,x=.ref p/\H1 p=cz (c9 p es)/\y8 es/\R (ItV p es) H1
def b5D(ho:PE X o to)(et:cY o "values" X.env (cn o X.env)=cn o X.env:=by rfl)(er:(apos.endLine==cw.line)=p4:=by rfl):PI X tg (.Call (.Attribute o "values" apos) [] [] cw) (c1G to):=by
 intro pins s Y H R I h;refine iC et er (L2.thn (ho pins s Y H _ I h) λv s1 ⟨x,H1,I1,r1,p,es,ex,hH,hk,q1⟩=>?_);subst ex;obtain rfl:v=aZ p:=r1;obtain⟨kvs,jD,h0,hp,hlen⟩:=F6 I1 hH hk;refine⟨"dict","dict.values",ig,gW,sk,k6 I1 hH,L5 I1 hH,fu rfl (jo ?_)⟩;refine F_ gW (k6 I1 hH) rz (qS _) (meets_dict_values (cX X.prog X.w) p h0) ⟨⟨kvs,jD.dictOf⟩,?_⟩;refine wpAny_pyIter_values (knd:=cX X.prog X.w) ⟨_,aH _ rfl,rfl,rfl⟩ (jD.at λ_ e=>ag _ e) ?_;have hz:(s1.heap.push {cls:=.type "dict_values",data:=.fields #[.ref p]}).objs.size=s1.heap.objs.size+1:=cM ..;refine⟨_,[_],_,_,H1,rfl,I1.kept (t':=s1.toks) λb o e=>ag _ (ag _ e),b1b p _ es hk,⟨_,aH _ rfl,rfl,by rw[hlen];rfl⟩,λb hb=>?_,q1⟩;have e:=aq.mp hb;have kF:s1.heap.objs.size<=b:=by rw[e,hz];exact gD _
 exact I1.fpOk kF (I1.hok.fresh kF)
def a8r:Walks (ItV p es) (λH=>H p=cz (c9 p es)) (es.map (·.2.2)) where
 go:=λi H h hi=>⟨h,by simpa using hi⟩
 stop:=λi H h hi=>⟨h,by simpa using hi⟩
 yld:=λi H x H' h hi y=>by
  obtain⟨e,r,hr,rfl⟩:=y;exact⟨e,by rw[a_,hr];rfl⟩
noncomputable def iVa(a:EvE):EvA:=λU=>(a U).bind λd=>match d with
 |.dict kvs=>if keysOk rp kvs then cz (kvs.map (·.2)) else el
 |_=>el
def b3h(h:PX X M o fa ca)(hc:frozen ca:=by trivial)(et:cY o "values" X.env (cn o X.env)=cn o X.env:=by rfl)(er:(apos.endLine==cw.line)=p4:=by rfl):PIX X M tg (.Call (.Attribute o "values" apos) [] [] cw) (iVa fa):=by
 obtain⟨t,p,q⟩:=h.out;refine⟨_,b5D p et er,λU Y H P F ds R S hf k=>?_⟩;obtain⟨d,h1,h2⟩:=bnd hf;cases d with
 |dict kvs=>
  have jd:(if keysOk rp kvs then cz (kvs.map (·.2)) else el)=cz ds:=h2;by_cases c:keysOk rp kvs=p4
  ·rw[aG c]at jd;cases jd
   refine q U Y H P F _ _ S h1 λv H1 e1 r1=>?_
   obtain⟨aa,es,rfl,k1,k2⟩:=(D7 hc r1).dict_inv;exact⟨aa,es,rfl,i8 _ _ k1,a2c k2 c,k _ _ _ H1 e1 a8r (λH2 e2=>e2 _ _ k1) k2.vals⟩
  ·rw[aL c]at jd;cases jd
 |_=>cases h2
end
noncomputable def eIm(f:EvE):EvE:=λU=>(f U).bind Z3
section
variable {X:Cx}{M:List Md}{e:Expr}{f:EvE}{c:Cat}
def b8x(h:PX X M e f c):PX X M e (eIm f) (.new .i):=by
 obtain⟨t,p,q⟩:=h.out;refine .mk ⟨t,p,λU Y H P F d Q S hf k=>?_⟩;obtain⟨x,h1,h2⟩:=bnd hf;obtain⟨rfl,hi⟩:=Q9 h2;exact q U Y H P F _ Q S h1 λv H' e r=>k v H' e (E9 hi r.den (S.lst' e))
end
section
variable {X:Cx}{M:List Md}{a:Expr}{fa:EvE}{ca:Cat}{pos p:eS}
def call_listK(hc:X.calm=p4):CallR X (.type "list") (λxs H Q=>∃p es,xs=[.ref p]/\H p=cz (c9 p es)/\∀l,H l=el->Q (.ref l) (upd H l (.lst (es.map (·.2.1))))):=by
 intro pins s Y H xs us Q I rv h;obtain⟨p,es,rfl,hH,q⟩:=h;obtain⟨u,rfl,rx⟩:=vals1 rv;cases (show u=aZ p from rx)
 obtain⟨h0,hl,_,o,ents,ep,r1,r2,r3,hp,_⟩:=a1z I hH;have hlen:=cN hp;have hz:ents.size=es.length:=by rw[hlen,cg]
 refine W.kdl_call (b5m (ep:=ep) h0) (I.ok.hd hc) ⟨o,r1,r2,r3⟩ (by lia) λg1 tq ac cq keep ho qH=>?_
 refine⟨.ref s.heap.objs.size,_,I.laid (t':=tq) keep (aE _) (show ObjOk X.prog X.w _ g1 _ (.lst (es.map (·.2.1))) from⟨by rw[au];exact hl,ac.toList,cq,?_,by rw[jc];exact ho⟩),rfl,q _ (I.hok.fresh (aE _))⟩;refine a2t (by rw[au];have z1:=qH.1;have z2:ac.toList.length=ac.size:=cg;lia) λi x u h1 h2=>?_
 rw[bZ]at h2;obtain⟨e',h3,rfl⟩:=qH.2 i u h2;rw[a_]at h1;obtain⟨e,he,rfl⟩:=cV.mp h1;obtain⟨kv,g3,g4⟩:=B8 hp he;rw[bZ,h3]at g3;cases g3
 exact g4.2.1
noncomputable def a8s(a:EvE):EvE:=λU=>(a U).bind λd=>match d with
 |.dict kvs=>if g9 (kvs.map (·.1)) then cz (.list (kvs.map (·.1))) else el
 |_=>el
def b3i(hc:X.calm=p4)(hm:X.mg "list"=el)(ha:PX X M a fa ca)(hg:Gl X "list":=by rfl)(he:ax [a] X.env=(rp,cn a X.env)::ax [] X.env:=by rfl)(f_:(cx pos (ax [] X.env)).any (·.1)=rp:=by rfl) :
  PX X M (.Call (.Name "list" p) [a] [] pos) (a8s fa) (.new (.l .i)):=by
 obtain⟨ta,pa,qa⟩:=ha.out;refine .mk ⟨_,M3 (call_listK hc) hg hm PyProof.Rows.Boot.«list» (m7 pa u7 he) (by decide) (by decide) he f_,λU Y H P F d Q S hf q=>?_⟩;obtain⟨x,h1,g1⟩:=bnd hf;cases x with
 |dict kvs=>
  have g2:(if g9 (kvs.map (·.1)) then cz (gi (kvs.map (·.1))) else el)=cz d:=g1;by_cases c:g9 (kvs.map (·.1))=p4
  ·rw[aG c]at g2;cases g2
   refine qa U Y H P F _ _ S h1 λv H1 e1 r1=>?_
   obtain⟨pp,es,rfl,k1,k2⟩:=r1.den.dict_inv;exact⟨pp,es,rfl,k1,λz hz=>q _ _ (e1.trans (l9 hz _)) (Q8 (X0 k2) c e1 hz (S.lst' e1))⟩
  ·rw[aL c]at g2;cases g2
 |_=>cases g1
def b3j(hm:X.mg "len"=el)(ha:PX X M a fa ca)(hg:Gl X "len":=by rfl)(he:ax [a] X.env=(rp,cn a X.env)::ax [] X.env:=by rfl)(f_:(cx pos (ax [] X.env)).any (·.1)=rp:=by rfl) :
  PX X M (.Call (.Name "len" p) [a] [] pos) (eCl b2n (b8 fa g8)) (.new .i):=by
 obtain⟨ta,pa,qa⟩:=ha.out;refine .mk ⟨_,V9 b0o hg hm PySem.boot_len (m7 pa u7 he) (by decide) (by decide) he f_,λU Y H P F d Q S hf q=>?_⟩;obtain⟨xs,h1,h2⟩:=bnd hf;obtain⟨x,h3,h4⟩:=bnd h1;obtain⟨mq,h5,h6⟩:=bnd h4;cases h5
 cases h6
 have hx:∃kvs,x=.dict kvs/\d=.int kvs.length:=by
  cases x with
  |dict kvs=>cases h2;exact⟨kvs,rfl,rfl⟩
  |_=>cases h2
 obtain⟨kvs,rfl,rfl⟩:=hx;refine qa U Y H P F _ _ S h3 λv H1 e1 r1=>?_
 obtain⟨pp,es,rfl,k1,k2⟩:=r1.den.dict_inv;have hlen:kvs.length=es.length:=by have:=du eD k2.keys;simpa using this.symm
 refine⟨pp,es,rfl,k1,?_⟩;rw[<-hlen];exact q _ _ e1 (E9 a0S den_int (S.lst' e1))
end
noncomputable def a5y(i:Nat)(kt kt2:Bool)(fk fj fv:EvE):EvS:=λU=>(fv U).bind λd=>(fk U).bind λk=>(fj U).bind λj=>match U.getD i .none with
 |.dict kvs=>if m9 kt k then match A1 kvs k with
   |some (.dict jP)=>if m9 kt2 j&&decide (jP.length<1000000) then cz (.nx (U.set i (.dict (n9 kvs k (.dict (n9 jP j d)))))) else el
   |_=>el
  else el
 |_=>el
section
variable {X:Cx}{M ML:List Md}{k j v:Expr}{fk fj fv:EvE}{kt kt2:Bool}{w:Ty}{x:bC}{px oQ ik pos:eS}
def b3k(i:Nat){ck:Cat}(hu:X.A.units+164<cS)(hk:PX X M k fk ck)(hj:PX X M j fj (.new .i))(hv:PX X M v fv (.new .i))(uJ:kt2=rp:=by rfl)(mL:a4q k:=by exact λ_ _=>rfl)(hm:M[i]?=cz (.own (.d kt (.d kt2 .i))):=by rfl)(hN:X.N[i]?=cz x:=by rfl)(qX:Vis X.env.scope x:=by first|exact bR rfl|exact bT (bR rfl)|exact bT (bT rfl))(hd:(x==("__debug__":bC))=rp:=by decide)
  (iG:(x==("__classdict__":bC))=rp:=by decide) (n_:fB v (cz (.Subscript (.Subscript (.Name x px) k oQ) j ik)) pos.line X.env=pure rp:=by rfl) :
  PSX X w ML M (.Assign [.Subscript (.Subscript (.Name x px) k oQ) j ik] v pos) (a5y i kt kt2 fk fj fv) M:=by
 obtain⟨tk,pk,qk⟩:=hk.out;obtain⟨tj,pj,qj⟩:=hj.out;obtain⟨tv,pv,qv⟩:=hv.out;refine .mk ⟨_,a5r hu (b2p hu (C7 hN qX hd iG) pk mL) pj pv n_,λD U Y H P F o S hg kk=>?_⟩;obtain⟨d0,uN,g1⟩:=bnd hg;obtain⟨k0,zt,g2⟩:=bnd g1;obtain⟨j0,sP,g3⟩:=bnd g2;refine qv U Y H P F d0 _ S.toE uN λvv H1 w1 r0=>?_
 have S0:=S.grow w1;obtain⟨a,es,ds,fs,ha,hH,hU,_⟩:=S0.toE.dict hm;rw[hU]at g3;have mX:(if m9 kt k0=p4 then (match A1 ((es.map (·.1)).zip ds) k0 with
   |some (.dict jP)=>if m9 kt2 j0&&decide (jP.length<1000000) then cz (Out.nx (U.set i (.dict (n9 ((es.map (·.1)).zip ds) k0 (.dict (n9 jP j0 d0)))))) else el
   |_=>el) else el)=cz o:=g3
 by_cases c:m9 kt k0=p4
 ·rw[aG c]at mX;cases ua:A1 ((es.map (·.1)).zip ds) k0 with
  |none=>rw[ua]at mX;cases mX
  |some d1=>
   rw[ua]at mX;refine⟨.ref a,ha,qk U Y H1 P F k0 _ S0.toE zt λkv H2 w2 r1=>?_⟩;have S1:=S0.grow w2;obtain⟨a0,fm,iy,t1,t2,t3,t4,t5,t6,t7⟩:=S1.dval (k:=k0) hm (u9 c);rw[ha]at t1;cases t1
   rw[hU]at t3
   injection t3 with t3
   rw[t3]at ua;refine⟨a,fm,kt,k0,rfl,t2,keysAt t5 c r1.den,by rw[<-v9 t4];exact a0U ua,λe9 ER fJ=>?_⟩;obtain⟨d2,f2,x1,x2,x3,x4,x5⟩:=t7 e9 ER fJ;rw[ua]at x1;cases x1
   refine qj U Y H2 P F j0 _ S1.toE sP λjv H3 w3 r3=>?_
   obtain⟨a1,jQ,rh,FK,xY,_,Aj,_⟩:=x2.dict;rw[xY];rw[xY]at x2 x5;subst Aj;have jd:(if (m9 kt2 j0&&decide (((jQ.map (·.1)).zip rh).length<1000000))=p4 then cz (Out.nx (U.set i (.dict (n9 ((es.map (·.1)).zip ds) k0 (.dict (n9 ((jQ.map (·.1)).zip rh) j0 d0)))))) else el)=cz o:=mX;by_cases c2:(m9 kt2 j0&&decide (((jQ.map (·.1)).zip rh).length<1000000))=p4
   ·rw[aG c2]at jd;cases jd
    rw[ak]at c2;have S3:=S1.grow w3;obtain⟨uU,yz,_⟩:=r0;obtain⟨rfl,im,dv⟩:=V1 yz;have yA:Own X.K H3 F .i vv d0 []:=by
     simp only[Own];exact⟨trivial,im,dv.up (B2 (w2.trans w3))⟩
    have zu:Den X.K (cut H3 F) jv j0:=r3.den.imm_out S3.lst j0 (Q7 _ (u9 c2.1).1);obtain⟨Cb,z1,z2,z3,z4,f',o',wD⟩:=a6y (fv:=[]) (x2.grow w3) x4 (by simpa using x3) (u9 c2.1) zu yA;refine⟨a1,Cb,kt2,j0,rfl,z1,keysAt z2 c2.1 r3.den,by rw[z3];exact fG (aP c2.2) (by rw[cR];decide),λ_=>a6q uJ c2.1,?_⟩;have fin:=x5 H3 a1 ⟨c9 a1 (P9 Cb j0 jv vv),trivial⟩ _ f' w3 z4 o' λb=>by have:=wD b;simpa using this
    rw[<-t3]at fin;exact kk Y _ F fin
   ·rw[aL c2]at jd;cases jd
 ·rw[aL c]at mX;cases mX
end
def a8t:D->D->Option D
 |.list ds,y=>if aM ds&&y.canLay0&&decide (y.depth<=150)&&decide (ds.length<1000000) then (ds.findIdx? λd=>aC d y).map λj=>.int (j:Nat) else el
 |_,_=>el
def b8y(K:af):V->List V->Hp->VK->Prop:=λx xs H Q=>∃p ys ds y d j,x=.ref p/\xs=[y]/\SqX K H p ys/\DenAll K H ys ds/\Den K H y d/\aM ds=p4/\d.canLay0=p4/\d.depth<=150/\ds.length<1000000/\(ds.findIdx? λe=>aC e d)=cz j/\Q (.int (j:Nat)) H
section
variable {X:Cx}{M:List Md}{a b:Expr}{fa fb:EvE}{ca cb:Cat}{apos cw:eS}
theorem a0q{e:D}:∀{l:List D},aM l=p4->e∈l->e.canLay0=p4
 |[],_,he=>(nomatch he)
 |x::l,hl,he=>by
  simp only[aM,ak]at hl;rcases az.mp he with z|z
  ·rw[z];exact hl.1
  ·exact a0q hl.2 z
def b3l(hu:X.A.units+164<cS):MtR X "list.index" (b8y X.K):=by
 intro pins s Y H x xs v us Q I rx rv h;obtain⟨p,ys,ds,y,d,j,rfl,rfl,hp,ud,hd,c1,c2,c3,c4,hj,q⟩:=h;cases (show v=aZ p from rx)
 obtain⟨w,rfl,rw⟩:=rv.one;obtain⟨_,cE,n,qW,ho⟩:=hp.ok I;obtain⟨as,ra⟩:=DenAll.reads I ds c1 ud qW;obtain⟨bs,rb⟩:=Den.reads I d c2 hd rw;have hlen:∀{us:List aj} {ds:List D} {as:List aw},i_ s.heap us ds as->us.length=ds.length:=by
  intro us ds
  induction ds generalizing us with
  |nil=>intro as r;cases r;rfl
  |cons d0 ds ih=>
   intro as r;cases r with
   |cons r1 r2=>rw[be,be,ih r2]
 have hl:=hlen ra;rw[iq]at hj;obtain⟨rV,xN,rW⟩:=hj;have at_:∀m (hm:m<cE.length),b0r s.heap d cE[m]=aC (ds[m]'(by lia)) d:=λm hm=>by
  obtain⟨e,Am,he,re⟩:=U0 ra (ao hm);have lK:ds[m]'(by lia)=e:=by
   rw[ao (by lia)]at he;exact aK he
  rw[a2r re (a0q c1 (bo he)),lK]
 refine pf sX ⟨_,ho,rfl⟩ PySem.F.entry_list_index (PySem.F.args_list_index_2 _ _) (SeqAt.list_indexAt p cE.toArray n el #[] w (b0r s.heap d) j (by simp;lia) (by lia) ?_ λm hm il=>?_) ⟨ho,λu qY=>?_,⟨.int _,H,I.tok _,⟨_,rfl⟩,q⟩⟩
 ·have:=at_ j (by lia);rw[xN]at this;simpa using this
 ·have:=at_ m (by simpa using hm);have h3:=rW m il;have h4:aC (ds[m]'(by lia)) d=rp:=by simpa using h3
  rw[h4]at this;simpa using this
 ·obtain⟨j,hj⟩:=bE.mp (show u∈cE by simpa using qY);obtain⟨e,Am,he,re⟩:=U0 ra hj;have hle:=a0q c1 (bo he);rw[a2r re hle];exact sj e d X.A.in1 s _ _ _ _ re rb hle c2 (by have:=Gh e.depth d.depth;show X.A.units+1+_<_;lia)
def b3m(hu:X.A.units+164<cS)(ha:PX X M a fa ca)(hb:PX X M b fb cb)(et:cY a "index" X.env (cn a X.env)=cn a X.env:=by rfl)
  (jZ:((cx cw (ax [b] X.env)).all (λx=>!x.1)&&(lS cw (iF [] X.env)).all (λx=>x.1.isSome)
   && decide (([b]:List Expr).length+([]:List gu).length+(if ([]:List gu).isEmpty then 0 else 1)<30))=p4:=by rfl)
  (er:(apos.endLine==cw.line)=p4:=by rfl) (hs:ax [b] X.env=(rp,cn b X.env)::ax [] X.env:=by rfl) (gc:(cx cw (ax [] X.env)).any (·.1)=rp:=by rfl) :
  PX X M (.Call (.Attribute a "index" apos) [b] [] cw) (e2 a8t fa fb) (.new .i):=by
 obtain⟨ta,pa,qa⟩:=ha.out;obtain⟨tb,pb,qb⟩:=hb.out;refine .mk ⟨_,b1M ie sX PySem.F.type_list_index (b3l hu) pa (m7 pb u7 hs) et jZ er hs gc,λU Y H P F d Q S hf q=>?_⟩;obtain⟨x,y,h1,h2,h3⟩:=z7 hf;have hx:∃ds j,x=.list ds/\(aM ds&&y.canLay0&&decide (y.depth<=150)&&decide (ds.length<1000000))=p4/\(ds.findIdx? λd=>aC d y)=cz j/\d=.int (j:Nat):=by
  cases x with
  |list ds=>
   have pJ:(if (aM ds&&y.canLay0&&decide (y.depth<=150)&&decide (ds.length<1000000))=p4 then (ds.findIdx? λd=>aC d y).map λj=>aF (j:Nat) else el)=cz d:=h3;by_cases c:(aM ds&&y.canLay0&&decide (y.depth<=150)&&decide (ds.length<1000000))=p4
   ·rw[aG c,cV]at pJ;obtain⟨j,z1,z2⟩:=pJ;exact⟨ds,j,rfl,c,z1,z2.symm⟩
   ·rw[aL c]at pJ;cases pJ
  |_=>cases h3
 obtain⟨ds,j,rfl,c,hj,rfl⟩:=hx;rw[ak,ak,ak]at c;refine qa U Y H P F _ _ S h1 λv H1 e1 r1=>?_
 obtain⟨p,xs,rfl,k1,k2⟩:=r1.den.list_inv;refine⟨.inl ⟨rfl,xs,k1.l⟩,qb U Y H1 P F y _ (S.grow e1) h2 λw H2 e2 r2=>?_⟩;exact⟨p,xs,ds,w,y,j,rfl,rfl,T5 k1 e2,k2.up e2,r2.den,c.1.1.1,c.1.1.2,aP c.1.2,aP c.2,hj,q _ H2 (e1.trans e2) (E9 (by simp only[imm]) den_int (S.lst' (e1.trans e2)))⟩
end
def X1(i:Int)(r:List Int):Int:=r.foldl (λa b=>if b<a then b else a) i
def a6O:List D->Option D
 |[.list ds]=>(intsOf ds).bind λis=>match is with
  |[]=>el
  |i::r=>cz (.int (X1 i r))
 |_=>el
theorem a5z:∀(r:List Int) (i:Int),X1 i r<=i/\(∀x∈r,X1 i r<=x)/\(X1 i r=i\/X1 i r∈r)
 |[],i=>⟨oK _,λx hx=>(nomatch hx),.inl rfl⟩
 |y::r,i=>by
  obtain⟨h1,h2,h3⟩:=a5z r (if y<i then y else i);have e:X1 i (y::r)=X1 (if y<i then y else i) r:=rfl;rw[e];refine⟨?_,λx hx=>?_,?_⟩
  ·by_cases c:y<i
   ·rw[aG c]at h1 ⊢;lia
   ·rw[aL c]at h1 ⊢;exact h1
  ·rcases az.mp hx with z|z
   ·subst z;by_cases c:x<i
    ·rw[aG c]at h1 ⊢;exact h1
    ·rw[aL c]at h1 ⊢;lia
   ·exact h2 x z
  ·rcases h3 with z|z
   ·by_cases c:y<i
    ·rw[aG c]at z ⊢;exact .inr (by rw[z];exact ah)
    ·rw[aL c]at z ⊢;exact .inl z
   ·exact .inr (ai _ z)
section
variable {X:Cx}
def b1c(hc:X.calm=p4):CallR X (.builtin "min") (λxs H Q=>∃(p:aw) (i:Int) (r:List Int),xs=[.ref p]/\SqX X.K H p ((i::r).map V.int)/\Q (.int (X1 i r)) H):=by
 intro pins s Y H xs us Q I rv h;obtain⟨p,i,r,rfl,hp,q⟩:=h;obtain⟨u,rfl,rx⟩:=vals1 rv;cases (show u=aZ p from rx)
 obtain⟨_,cE,n,qW,ho⟩:=hp.ok I;obtain⟨ys,h1,h2⟩:=a2X qW;have e1:cE.toArray=pS ys.toArray:=by rw[h1];simp[pS]
 have hl:s.heap.IsList p (pS ys.toArray):=⟨_,ho,rfl,n,by rw[<-e1]⟩;have hlen:ys.length=r.length+1:=by have:=du eD h2;simpa using this
 have num:∀j,j<ys.length->ib ys.toArray j=(i::r).getD j 0:=λj hj=>by
  have:(ys.map (·.1))[j]?=(i::r)[j]?:=by rw[h2]
  unfold ib;rw[aN,<-this];simp
 refine min_intList (I.ok.hd hc) hl (by simp;lia) λv h' tk hv hk=>?_
 obtain⟨t,rfl⟩:=intItems_at hv;obtain⟨b1,b2⟩:=argBest_lt (ib ys.toArray) (ys.toArray.size-1);have hsz:ys.toArray.size=r.length+1:=by simp[hlen]
 have hb:uW (λi j=>decide (ib ys.toArray i<ib ys.toArray j)) (ys.toArray.size-1)<ys.length:=by lia
 have hm:ib ys.toArray (uW (λi j=>decide (ib ys.toArray i<ib ys.toArray j)) (ys.toArray.size-1))=X1 i r:=by
  obtain⟨g1,g2,g3⟩:=a5z r i;generalize uW (λi j=>decide (ib ys.toArray i<ib ys.toArray j)) (ys.toArray.size-1)=a at b1 b2 hb;have up:X1 i r<=ib ys.toArray a:=by
   rw[num a hb];have iO:(i::r).getD a 0∈i::r:=by
    rw[aN,ao (by simp;lia)];exact cH _
   rcases az.mp iO with z|z
   ·rw[z];exact g1
   ·exact g2 _ z
  have dn:ib ys.toArray a<=X1 i r:=by
   have iO:X1 i r∈i::r:=by
    rcases g3 with z|z
    ·rw[z];exact ah
    ·exact ai _ z
   obtain⟨j,hj,ej⟩:=eB.mp iO;have uK:j<ys.length:=by simp at hj;lia
   have:=b2 j (by lia);rw[num j uK,aN,ao hj]at this;have e3:((i::r)[j]?).getD 0=(i::r)[j]:=by rw[ao hj];rfl
   simp only[Gf]at this;lia
  lia
 rw[hm];exact⟨.int (X1 i r),H,I.kept (t':=tk) λb o e=>hk b o e,⟨t,rfl⟩,q⟩
def a9x(hc:X.calm=p4):a4j X (.builtin "min") a6O:=by
 refine⟨_,b1c hc,λxs H ds d Q hd hg q=>?_⟩
 match ds,hg with
 |[.list es],hg=>
  obtain⟨is,h1,g1⟩:=bnd (show (intsOf es).bind _=cz d from hg);cases is with
  |nil=>cases g1
  |cons i r=>
   cases g1
   obtain⟨v,rfl,h⟩:=T7 hd;obtain⟨a,ys,rfl,h2,h3⟩:=h.list_inv;have he:=B9 h1;subst he;have hv:ys=(i::r).map V.int:=by
    clear h1 hg hd h h2 q;generalize (i::r)=l at h3
    induction l generalizing ys with
    |nil=>exact h3.nil_inv
    |cons x l ih=>
     obtain⟨w,rs,rfl,k1,k2⟩:=h3.cons_inv;rw[k1.int_inv,ih _ k2];rfl
   subst hv;exact⟨a,i,r,rfl,h2,q _ (by simp only[imm]) λ_=>den_int⟩
 |[.none],hg|[.bool _],hg|[.str _],hg|[.dict _],hg|[.int _],hg|[.tuple _],hg=>cases hg
 |[],hg=>cases hg
 |d1::_::_,hg=>cases d1<;>cases hg
end
end VS
namespace VS
open PySem PySem.Spec L2
open PyProof.Rows (seqObj slot_list_sort entry_list_sort args_list_sort kind_sorted plain_sorted entry_sorted args_sorted1 IntsAre)
def b1d{prog:bz}{w:bI}{kvs:List (Int×aj)}:∀{vs:List aj},vs.length=kvs.length->(∀(i:Nat) (v:aj),vs[i]?=cz v->∃k x,kvs[i]?=cz (k,x)/\(cX prog w).is k v=p4)->IntsAre vs (kvs.map (·.1)):=by
 induction kvs with
 |nil=>
  intro vs hl _;cases eF.mp hl
  exact .nil
 |cons p kvs ih=>
  intro vs hl h;cases vs with
  |nil=>cases hl
  |cons v vs=>
   obtain⟨k,x,e1,e2⟩:=h 0 v rfl;cases e1
   obtain⟨t,rfl⟩:=qP e2;exact .cons _ _ (ih (by simpa using hl) λi u hu=>h (i+1) u (by simpa using hu))
def a8u{prog:bz}{w:bI}{A:bD}{E:aj->ar->Prop}{sh:ar}{d:aw}{kvs:List (Int×aj)}{ep:Nat}{Q:List aj->ar->Prop}(hh:A.handled=el)(h0:(d==cU)=rp)(hm:sh.heap.DictAt (cX prog w) d kvs ep)(hz:kvs.length<=aV)
  (q:∀(h':bQ) (tk:Nat) (vs:List aj),Kept sh.heap h'->sh.heap.objs.size<=h'.objs.size->vs.length=kvs.length->IntsAre vs (kvs.map (·.1))->Q vs {sh with heap:=h',toks:=tk}):aD (aX prog w) A (collect (.ref d)) Q E sh:=by
 have hd:d<sh.heap.objs.size:=hm.lt_size;unfold collect;refine ab (m_ (dN mY ?_));rw[dc pL _];show aD _ A.in1 (newList [] >>= λl=>again (.builtin "list.__iadd__" ⟨[l,.ref d],[]⟩)) _ _ sh;refine ab (dh (ae ⟨fw ic _,dN oJ ?_⟩));rw[dc ic _];show aD _ A.in1 (dq (.ref sh.heap.objs.size) (.ref d) (.ref sh.heap.objs.size)) _ _ _;refine dg (W.kdl_extend (A:=A) (s:={sh with heap:=sh.heap.push {cls:=.type "list",data:=.seq ([]:List aj).toArray}})
  (R:=λ(g:Gd) (s':ar)=>∃(h':bQ) (tk:Nat) (acc:Array aj) (c:Nat),g=.ok (.ret (.ref sh.heap.objs.size))/\s'={sh with heap:=h',toks:=tk}/\
   h'.get? sh.heap.objs.size=cz {cls:=.type "list",dict:=el,data:=.seq acc c,slots:=#[]}/\Q acc.toList {sh with heap:=h',toks:=tk})
  (W.kdl_dict (knd:=cX prog w) (kvs:=kvs) (ep:=ep) h0) hh (hm.push _) sh.heap.objs.size (ef hd) (ef hd) (.ref sh.heap.objs.size) 0 (aH _ rfl)
  (λh' tk acc c hk hS mP=>⟨h',tk,acc,c,rfl,rfl,hS,q h' tk _ (λb o x=>hk b o (bc (aI x)) (ag _ x)) (dP (aI hS)) (by rw[cg];exact mP.1)
   (b1d (prog:=prog) (w:=w) (by rw[cg];exact mP.1) λi v hv=>mP.2 i v (by rw[<-bZ];exact hv))⟩) hz) (λg s' x=>?_) λe s' x=>?_
 ·cases g with
  |done f=>
   obtain⟨h',tk,acc,c,e,rfl,hS,qq⟩:=x;cases e
   show aD _ A (load sh.heap.objs.size >>= _) _ _ _;exact ab (ma hS (ae qq))
  |again c₁=>
   refine⟨x.1,fP x.2 λg s₂ y=>?_⟩;obtain⟨h',tk,acc,c,rfl,rfl,hS,qq⟩:=y;show aD _ A (load sh.heap.objs.size >>= _) _ _ _;exact ab (ma hS (ae qq))
 ·obtain⟨_,_,_,_,e',_⟩:=x;cases e'
section
variable {X:Cx}{M:List Md}{a:Expr}{fa:EvE}{ca:Cat}{pos p:eS}
def a6P(hc:X.calm=p4):CallR X (.builtin "sorted") (λxs H Q=>∃p es ns,xs=[.ref p]/\H p=cz (c9 p es)/\y8 es/\es.map (·.1)=ns.map aF/\ns.length<64/\∀z,H z=el->Q (.ref z) (upd H z (.lst ((srt ns).map V.int)))):=by
 intro pins s Y H xs us Q I rv h;obtain⟨p,es,ns,rfl,hH,hk,hn,zY,q⟩:=h;obtain⟨u,rfl,rx⟩:=vals1 rv;cases (show u=aZ p from rx)
 obtain⟨kvs,ep,jD,h0,hl,hp⟩:=U2 I hH hk;have hlen:=cN hp;have qg:kvs.map (·.1)=ns:=(List.map_inj_right (f:=aF) λx y e=>by cases e;rfl).mp ((a6s hp).symm.trans hn);have Bv:kvs.length=ns.length:=by rw[<-qg,au]
 refine kT kind_sorted plain_sorted entry_sorted (args_sorted1 _) ?_;unfold Builtin.«sorted»;refine ab (m:=checkCount "sorted" 1 1 _) (ae ?_);refine ab (a8u (A:=X.A.in1) (by simpa using I.ok.hd hc) h0 jD (by rw[cR];lia) λh1 tk vs k1 z1 xE hI=>?_);rw[qg]at hI;refine ab (wpAny_newList ?_ (by rw[cR];lia));have oL:(h1.push (uD "list" vs.toArray 0)).get? h1.objs.size=cz (uD "list" vs.toArray 0):=aH _ rfl;refine ab (bL (bB slot_list_sort ⟨_,oL,rfl⟩ entry_list_sort (pN (s:={s with heap:=h1.push (uD "list" vs.toArray 0),toks:=tk}) oL hI (by lia) λout Dk a1 a2 a3=>⟨_,rfl,?_⟩) (args_list_sort _)));obtain⟨e,ui⟩:=qT (out:=out) oL;have qx:H h1.objs.size=el:=I.hok.fresh z1;rw[a6r a2 a3]at a1;have mL:((srt ns).map V.int).length<=aV:=by rw[au,(k9 ns).length_eq,cR];lia
 refine ae ⟨_,rfl,.ref h1.objs.size,_,I.laid (a:=h1.objs.size) (o:=.lst ((srt ns).map V.int)) (t':=tk) (λb u hb=>?_) z1 ⟨mL,out.toList,e,vals_ints a1,by rw[jc];exact ui⟩,rfl,q _ qx⟩;have kF:=ag (uD "list" vs.toArray 0) (k1 b u hb);exact (pM (bc (bA (aI hb) z1)) (aI kF)).trans kF
noncomputable def p0(a:EvE):EvE:=λU=>(a U).bind λd=>match d with
 |.dict kvs=>(intsOf (kvs.map (·.1))).bind λns=>if ns.length<64 then cz (.list ((srt ns).map .int)) else el
 |_=>el
def M7(hc:X.calm=p4)(hm:X.mg "sorted"=el)(ha:PX X M a fa ca)(hg:Gl X "sorted":=by rfl)(he:ax [a] X.env=(rp,cn a X.env)::ax [] X.env:=by rfl)(f_:(cx pos (ax [] X.env)).any (·.1)=rp:=by rfl) :
  PX X M (.Call (.Name "sorted" p) [a] [] pos) (p0 fa) (.new (.l .i)):=by
 obtain⟨ta,pa,qa⟩:=ha.out;refine .mk ⟨_,V9 (a6P hc) hg hm PyProof.Rows.Boot.«sorted» (m7 pa u7 he) (by decide) (by decide) he f_,λU Y H P F d Q S hf q=>?_⟩;obtain⟨x,h1,g1⟩:=bnd hf;cases x with
 |dict kvs=>
  obtain⟨ns,h2,g2⟩:=bnd (show (intsOf (kvs.map (·.1))).bind _=cz d from g1);by_cases c:ns.length<64
  ·rw[aG c]at g2;cases g2
   have nV:=B9 h2;refine qa U Y H P F _ _ S h1 λv H1 e1 r1=>?_
   obtain⟨pp,es,rfl,k1,k2⟩:=r1.den.dict_inv;have hk:=intKeyed k2 (by
    rw[aT];intro p hp;have:p.1∈ns.map aF:=by rw[<-nV];exact bw hp
    obtain⟨n,_,e⟩:=aO.mp this;rw[<-e];rfl)
   refine⟨pp,es,ns,rfl,k1,hk,by rw[k2.keys];exact nV,c,λz hz=>q _ _ (e1.trans (l9 hz _)) (Q8 ?_ (b8g _) e1 hz (S.lst' e1))⟩;have:∀ms:List Int,DenAll X.K H1 (ms.map V.int) (ms.map aF):=DenAll.ints;exact this _
  ·rw[aL c]at g2;cases g2
 |_=>cases g1
end
end VS
namespace L2
open PySem
def Has.u(h:Has P w K mg base x i ps sp)(l:i<=j:=by decide):Has P w K mg base x j ps sp:=h.up l
end L2
namespace VS
open PySem PySem.Spec PyProof.Rows L2
structure DP (K:af) (mg:bC->Option aj) (x:bC) (st:hZ):Prop where
 ex:∃f fd,Fun K x x st f fd/\gH K bM x=cz (cz (.ref f))/\mg x=cz (.ref f)
section
variable {P:bz}{w:bI}{K:af}{mg:bC->Option aj}{base h:bQ}{x:bC}{st:hZ}{N ps:List bC}{k n:Nat}{us:List Ty}{u wt:Ty}{g:EvS}{sp:Sp}
def c0j{f:aw}{oc:aj}{od an:Option aw}{oS:Array (Option aj)}{kV doc pm gk ct:aj}(X:K.In h)(G:h.Ns bM mg)(a:gH K bM x=cz (cz (.ref f)))(l:K.lookup f=cz ⟨oc,od,.func (fV x x (T4 st) (y6 st) (j5 st) .none kV doc pm an gk ct),oS⟩)
  (c:lW K gk x=p4) (k:fR K (.ref f)=p4):DP K mg x st:=⟨_,_,b7r l c k,a,kh X G a⟩
def c1H(X:K.In h)(G:h.Ns bM mg)(a:gH K bM x=cz (cz (.int i t))):∃t,mg x=cz (.int i t):=⟨t,kh X G a⟩
abbrev BBy(x:bC)(st:hZ)(ps:List bC):Prop:=∀(kV doc pm:aj) (an:Option aw) (gk ct:aj) (us:List aj),us.length=ps.length->qO (fV x x (T4 st) (y6 st) (j5 st) .none kV doc pm an gk ct) ⟨us,[]⟩=pure (ps.zip us)
def m5(d:DP K mg x st)(h:∀f fd,Fun K x x st f fd->FnOk P w K mg base CX0 k f fd ps sp)(b:BBy x st ps:=by intro _ _ _ _ _ _ us hl;first|(obtain⟨_,rfl⟩:=c0e hl;rfl)|(obtain⟨_,_,rfl⟩:=b5n hl;rfl)|(obtain⟨_,_,_,rfl⟩:=c0f hl;rfl)|(obtain⟨_,_,_,_,rfl⟩:=c1B hl;rfl)|(obtain⟨_,_,_,_,_,rfl⟩:=c1C hl;rfl)|(obtain⟨_,_,_,_,_,_,rfl⟩:=c1D hl;rfl)):Has P w K mg base x k ps sp:=by
 obtain⟨f,fd,F,a,m⟩:=d.ex;exact⟨f,fd,h f fd F,F.binds b,F.kp,m⟩
def b5E(d:DP K mg x st)(h:∀f fd,Fun K x x st f fd->gH K bM x=cz (cz (.ref f))->FnOk P w K mg base CX0 k f fd ps sp)(b:BBy x st ps:=by intro _ _ _ _ _ _ us hl;first|(obtain⟨_,rfl⟩:=c0e hl;rfl)|(obtain⟨_,_,rfl⟩:=b5n hl;rfl)|(obtain⟨_,_,_,rfl⟩:=c0f hl;rfl)):Has P w K mg base x k ps sp:=by
 obtain⟨f,fd,F,a,m⟩:=d.ex;exact⟨f,fd,h f fd F a,F.binds b,F.kp,m⟩
def fnF(F:Fun K x x st f fd)(N:List bC)(hb:∀(S:FnScope N ps (j5 st)) (gk:aj) (A:bD) (outer:List oM) (s:ar) (H:Hp) (E:XK),Room k (A.deeper (jl x (j5 st) s.heap.objs.size f gk))->PSsX (a0C CX0 P w K mg base N x (j5 st) f gk A outer s H E).nox u [] (us.map .own++aR n .dead) (y6 st) g [])
  (S:FnScope N ps (j5 st):=by exact⟨rfl,rfl,rfl,by decide +kernel,rfl,by decide +kernel,by decide +kernel⟩) (nj:us.length=ps.length:=by rfl) (hn:N.length=ps.length+n:=by rfl):FnOk P w K mg base CX0 (k+1) f fd ps (spD K ps.length (fnD us n g) u):=b4S F S nj hn (hb S)
def c0k(F:Fun K x x st f fd)(N:List bC)(M':List Md)(hb:∀(S:FnScope N ps (j5 st)) (gk:aj) (A:bD) (outer:List oM) (s:ar) (H:Hp) (E:XK),Room k (A.deeper (jl x (j5 st) s.heap.objs.size f gk))->PSsX (a0C CX0 P w K mg base N x (j5 st) f gk A outer s H E).nox .i [] (us.map .own++aR n .dead) (y6 st) g M')
  (S:FnScope N ps (j5 st):=by exact⟨rfl,rfl,rfl,by decide +kernel,rfl,by decide +kernel,by decide +kernel⟩) (nj:us.length=ps.length:=by rfl) (hn:N.length=ps.length+n:=by rfl):FnOk P w K mg base CX0 (k+1) f fd ps (spD K ps.length (fnN us n g) .i):=b2k F S nj hn (hb S)
def c0l{Φ:(List D->Option D)->Hp->V->Prop}{g:(List D->Option D)->EvS}(F:Fun K x x st f fd)(N:List bC)(hb:∀(S:FnScope N ps (j5 st)) (gm:List D->Option D) (gk:aj) (A:bD) (outer:List oM) (s:ar) (H:Hp) (E:XK),Room k (A.deeper (jl x (j5 st) s.heap.objs.size f gk))->PSsX (a0C CX0 P w K mg base N x (j5 st) f gk A outer s H E).nox u [] (us.map .own++(.fn (Φ gm)::aR n .dead)) (y6 st) (g gm) [])
  (S:FnScope N ps (j5 st):=by exact⟨rfl,rfl,rfl,by decide +kernel,rfl,by decide +kernel,by decide +kernel⟩) (nj:us.length+1=ps.length:=by rfl) (hn:N.length=ps.length+n:=by rfl) (hj:j=us.length:=by rfl):FnOk P w K mg base CX0 (k+1) f fd ps (spL K j Φ (fnL us n g) u):=hj▸b2H (M':=λ_=>[]) F S nj hn (hb S)
def c1I(F:Fun K x x st f fd)(N:List bC)(lt:(C6 K x).isSome=p4)(X:K.In base)(G:base.Ns bM mg)(a:gH K bM x=cz (cz (.ref f)))(hb:∀(S:FnScope N ps (j5 st)) (c:aw) (p:aw) (hc:fd.code=.ref c) (hp:C6 K x=cz p) (hd:gC base c p) (A:bD) (outer:List oM) (s:ar) (H:Hp) (E:XK),Room k (A.deeper (jl x (j5 st) s.heap.objs.size f fd.code))->PSsX (a0C CX0 P w K mg base N x (j5 st) f fd.code A outer s H E).nox u [] (us.map .own++aR n .dead) (y6 st) g [])
  (S:FnScope N ps (j5 st):=by exact⟨rfl,rfl,rfl,by decide +kernel,rfl,by decide +kernel,by decide +kernel⟩) (nj:us.length=ps.length:=by rfl) (hn:N.length=ps.length+n:=by rfl):FnOk P w K mg base CX0 (k+1) f fd ps (spD K ps.length (fnD us n g) u):=by
 obtain⟨oc,od,kV,doc,pm,an,gk,ct,oS,e,lk,iG⟩:=F.ex;obtain⟨c,p,h1,h2,h3⟩:=b2L lt X G a lk;exact b2K F S nj hn (hb S c p h1 h2 h3)
def b8z(uL:mg x=cz (.ref fa))(d:DP K mg x st)(h:∀base:bQ,K.In base->base.Ns bM mg->∀fd,Fun K x x st fa fd->FnOk P w K mg base CX0 k fa fd [p] sp)(b:∀(kV doc pm:aj) (an:Option aw) (gk ct v:aj),qO (fV x x (T4 st) (y6 st) (j5 st) .none kV doc pm an gk ct) ⟨[v],[]⟩=pure [(p,v)]:=by intros;rfl) :
  ∃fd:dD,(∀(s:ar) (v:aj),nY s fd ⟨[v],[]⟩ [(p,v)])/\∀base:bQ,K.In base->base.Ns bM mg->FnOk P w K mg base CX0 k fa fd [p] sp:=by
 obtain⟨f,fd,F,a,m⟩:=d.ex;rw[uL]at m;cases m
 refine⟨fd,λs v=>?_,λbase X G=>h base X G fd F⟩;obtain⟨oc,od,kV,doc,pm,an,gk,ct,oS,rfl,lk,iG⟩:=F.ex;exact .of_eq (b kV doc pm an gk ct v)
end
section
variable {X:Cx}{M:List Md}{e e0:Expr}{es:List Expr}{fe:EvE}{f:EvA}{c:Cat}{u:Ty}{pos p:eS}{x:bC}
abbrev mdF:Md:=.own .f
abbrev mdI:Md:=.own .i
abbrev mdD:Md:=.dead
def c7(i:Nat)(hN:X.N[i]?=cz x:=by rfl)(hv:Vis X.env.scope x:=by first|exact bR rfl|exact bT (bR rfl)|exact bT (bT rfl))(hd:(x==("__debug__":bC))=rp:=by decide)(iG:(x==("__classdict__":bC))=rp:=by decide)(hm:M[i]?=cz (.own .f):=by rfl):PX X M (.Name x pos) (b7 i) (.bor .f):=T6 i hN hv hd iG hm
def e7(i:Nat)(hN:X.N[i]?=cz x:=by rfl)(hv:Vis X.env.scope x:=by first|exact bR rfl|exact bT (bR rfl)|exact bT (bT rfl))(hd:(x==("__debug__":bC))=rp:=by decide)(iG:(x==("__classdict__":bC))=rp:=by decide)(hm:M[i]?=cz (.own .i):=by rfl):PX X M (.Name x pos) (b7 i) (.bor .i):=T6 i hN hv hd iG hm
def F7(i:Nat)(hN:X.N[i]?=cz x:=by rfl)(hv:Vis X.env.scope x:=by first|exact bR rfl|exact bT (bR rfl)|exact bT (bT rfl))(hd:(x==("__debug__":bC))=rp:=by decide)(iG:(x==("__classdict__":bC))=rp:=by decide)(hm:M[i]?=cz (.own (.l .i)):=by rfl):PX X M (.Name x pos) (b7 i) (.bor (.l .i)):=T6 i hN hv hd iG hm
def A8(i:Nat)(hN:X.N.Nodup)(hi:X.N[i]?=cz x:=by rfl)(hx:Loc X.env.scope x:=by first|exact bR rfl|exact bT rfl)(hf:X.fn x=p4\/X.env.scope.names.lookup x=cz .local:=by first|exact .inl rfl|exact .inr rfl|assumption):PG X (.Name x pos) (Q5 i):=p5 hN hi hx hf
def E7(hm:X.mg "len"=el)(h:PX X M e fe c)(hg:Gl X "len":=by rfl)(he:ax [e] X.env=(rp,cn e X.env)::ax [] X.env:=by rfl)(f_:(cx pos (ax [] X.env)).any (·.1)=rp:=by rfl):PX X M (.Call (.Name "len" p) [e] [] pos) (eCl F9 (b8 fe g8)) (.new .i):=a0o b7v hm PySem.boot_len (f6 h k8 he) hg (by decide) (by decide) he f_
def w6(W:Has X.prog X.w X.K X.mg X.base x k ps (spD X.K n m u))(hr:Room k X.A)(h:PAX X M (e0::es) f)(hu:u.shut=p4:=by rfl)(hl:(e0::es).length=n:=by rfl)(hfl:∀U ds,f U=cz ds->ds.length=(e0::es).length:=by first|exact i9 x8|exact i9 (i9 x8)|exact i9 (i9 (i9 x8))|exact i9 (i9 (i9 (i9 x8)))|exact i9 (i9 (i9 (i9 (i9 x8)))))
  (hg:Gl X x:=by rfl) (lN:(x==("__debug__":bC))=rp:=by decide) (he:ax (e0::es) X.env=(rp,cn e0 X.env)::ax es X.env:=by rfl) (f_:(cx pos (ax es X.env)).any (·.1)=rp:=by rfl) :
  PX X M (.Call (.Name x p) (e0::es) [] pos) (eCl m f) (.new u):=b4O W hr h hu hl hfl hg lN he f_
def E8(hu:X.A.units+164<cS:=by exact Room.units (by assumption)):OpS X (bJ .Eq) dEq:=os_eq hu
def a1D(hu:X.A.units+164<cS:=by exact Room.units (by assumption)):OpS X (bJ .NotEq) dNe:=b9v hu
end
end VS
namespace VS
open PySem L2
section
variable {a b c:EvE}{U:List D}{d x y:D}
def chE(g':D->D->Option D):Option D->Option D->EvE->List D->Option D
 |some (.bool p4),cz y,c,U=>l2 g' (cz y) (c U)
 |some (.bool rp),cz _,_,_=>cz (.bool rp)
 |_,_,_,_=>el
def c1J:eCh g g' a b c U=chE g' (l2 g (a U) (b U)) (b U) c U:=by
 unfold eCh;cases a U with
 |none=>rfl
 |some x=>
  cases b U with
  |none=>rfl
  |some y=>
   show (g x y).bind _=chE g' (g x y) (cz y) c U;cases g x y with
   |none=>rfl
   |some z=>
    cases z with
    |bool k=>
     cases k with
     |false=>rfl
     |true=>cases h:c U<;>simp[chE,asB,h,l2]
    |_=>rfl
def c0m:chE g' (cz (.bool p4)) (cz y) c U=l2 g' (cz y) (c U):=rfl
def c0n:chE g' (cz (.bool rp)) (cz y) c U=cz (.bool rp):=rfl
def c1K:(p4==p4)=p4:=rfl
def c1L:(p4==rp)=rp:=rfl
def c1M:(rp==p4)=rp:=rfl
def c1N:(rp==rp)=p4:=rfl
def c1O:(p4 !=p4)=rp:=rfl
def c1P:(p4 !=rp)=p4:=rfl
def c1Q:(rp !=p4)=p4:=rfl
def c1R:(rp !=rp)=rp:=rfl
def trB:tr (.bool k)=cz k:=rfl
def c0o:asB (.bool k)=cz k:=rfl
def b3n:isN .none=p4:=rfl
def b5F:isN (.int i)=rp:=rfl
def b3o:isN (.bool i)=rp:=rfl
def b3p:isN (.list ds)=rp:=rfl
def b5G:isN (.tuple ds)=rp:=rfl
def b8A:J6 k x .none=cz (.bool (k !=isN x)):=rfl
def b1e:isInt (.int i)=p4:=rfl
def a8v:isInt (.bool i)=p4:=rfl
def a8w:isInt .none=rp:=rfl
def a8x:isInt (.list ds)=rp:=rfl
def b1f:isInt (.tuple ds)=rp:=rfl
def b1g:isInt (.str s)=rp:=rfl
def a8y:isInt (.dict s)=rp:=rfl
def a8z:isBool (.int i)=rp:=rfl
def a6Q:isBool (.bool i)=p4:=rfl
def a6R:isBool .none=rp:=rfl
def a6S:isBool (.list ds)=rp:=rfl
def a8A:isBool (.tuple ds)=rp:=rfl
def a8B:isBool (.str s)=rp:=rfl
def a6T:isBool (.dict s)=rp:=rfl
def isList_list:isList (.list ds)=p4:=rfl
def isList_int:isList (.int i)=rp:=rfl
def a6U:isList .none=rp:=rfl
def isList_bool:isList (.bool i)=rp:=rfl
def a8C:isList (.tuple ds)=rp:=rfl
def isList_str:isList (.str s)=rp:=rfl
def isList_dict:isList (.dict s)=rp:=rfl
def a6V:A0 (.tuple ds)=p4:=rfl
def isTuple_list:A0 (.list ds)=rp:=rfl
def isTuple_int:A0 (.int i)=rp:=rfl
def lIs:Option D->Option D
 |some d=>b1Y d
 |none=>el
def b6x:eI a U=lIs (a U):=by unfold eI;cases a U<;>rfl
def b3q(h:g9 ds=p4):lIs (cz (.list ds))=cz (.list ds):=by
 show (if g9 ds=p4 then cz (gi ds) else el)=_;rw[aG h]
def b1h:Option D->Option D
 |some (.list ds)=>cz (.list ds)
 |some (.tuple ds)=>cz (.list ds)
 |_=>el
def a9y:a0O a U=b1h (a U):=by
 unfold a0O;cases a U with
 |none=>rfl
 |some d=>cases d<;>rfl
def c0p:b1h (cz (.list ds))=cz (.list ds):=rfl
def c0q:b1h (cz (.tuple ds))=cz (.list ds):=rfl
def lL:Option D->Option (List D)
 |some d=>asL d
 |none=>el
def b5H:iL a U=lL (a U):=by unfold iL;cases a U<;>rfl
def c1S:lL (cz (.list ds))=cz ds:=rfl
def lII:Option (List D)->Option (List D)
 |some ds=>if g9 ds then cz ds else el
 |none=>el
def c0r:iI f U=lII (f U):=by unfold iI;cases f U<;>rfl
def a1a(h:f U=cz ds)(hi:g9 ds=p4):iI f U=cz ds:=by rw[c0r,h];show (if g9 ds=p4 then cz ds else el)=_;rw[aG hi]
def Q3{ds:List D}(h:ds.length<1000000):b0k i (.list ds) (cz d) U=cz (.nx (U.set i (.list (ds++[d])))):=b7Y h
def b8B:v5 i U d=cz (U.set i d):=rfl
def b8C:a5p i j U (.tuple [x,y])=cz ((U.set i x).set j y):=rfl
def c0s:pt1 d=cz [d]:=rfl
def c0t:pt2 (.tuple [x,y])=cz [x,y]:=rfl
def c1T:tT U=cz p4:=rfl
end
def a5A(P:List D->Prop)(h1:∃U,o=cz (.nx U)/\P U)(h2:∀U,P U->a0R (s U)=R):a0R (thn o s)=R:=by
 obtain⟨U,rfl,h⟩:=h1;exact h2 U h
def X2{R:Option D->Prop}(P:List D->Prop)(h1:∃U,o=cz (.nx U)/\P U)(h2:∀U,P U->R (a0R (s U))):R (a0R (thn o s)):=by
 obtain⟨U,rfl,h⟩:=h1;exact h2 U h
theorem a6W(f:D->D):∀{ds:List D},(∀d∈ds,∃bs,pt d=cz bs/\g (bs++cs)=cz (f d))->O5 pt tT g cs ds=cz (ds.map f)
 |[],_=>rfl
 |d::ds,h=>by
  obtain⟨bs,h1,h2⟩:=h d ah;have ih:=a6W f (ds:=ds) λe he=>h e (ai _ he)
  show (pt d).bind _=_;rw[h1];show (g (bs++cs)).bind _=_;rw[h2];show (O5 pt tT g cs ds).bind _=_;rw[ih];rfl
def b8D{js:List Nat}(f:D->D)(hf:fi U=cz ds)(hl:ds.length<=1000000)(h:∀d∈ds,∃bs,pt d=cz bs/\g (bs++js.map λj=>U.getD j .none)=cz (f d)) :
  n4 fi js pt tT g U=cz (.list (ds.map f)):=by
 unfold n4;rw[hf];show (if ds.length<=1000000 then _ else el)=_;rw[aG hl,a6W f h];rfl
theorem p8(f:α->D)(h:∀x,imm (f x)=p4):∀xs:List α,g9 (xs.map f)=p4
 |[]=>by simp only[cB,g9]
 |x::xs=>by simp only[av,g9,h x,p8 f h xs,hJ]
end VS
namespace Prog
open PySem L2 VS
abbrev iD(ns:List Int):D:=.list (ns.map .int)
end Prog
namespace VS
open PySem L2
mutual
theorem eqv_refl:∀d:D,d.canLay0=p4->aC d d=p4
 |.none,_=>by simp[aC]
 |.bool b,_=>by simp[aC]
 |.int i,_=>by simp[aC]
 |.str x,_=>by simp[aC]
 |.list xs,h=>by
  simp only[cL]at h;simp only[aC];exact eqvAll_refl xs h
 |.tuple xs,h=>by
  simp only[cL]at h;simp only[aC];exact eqvAll_refl xs h
 |.dict _,h=>by simp[cL]at h
theorem eqvAll_refl:∀xs:List D,aM xs=p4->cy xs xs=p4
 |[],_=>by simp only[cy]
 |x::xs,h=>by
  simp only[aM,ak]at h;simp only[cy,ak];exact⟨eqv_refl x h.1,eqvAll_refl xs h.2⟩
end
def b3r{a b:D}(ha:a.canLay0=p4)(hb:b.canLay0=p4)(hd:a.depth<=150):dEq a b=cz (.bool (aC a b)):=by
 unfold dEq a9Y;rw[ha,hb,aA hd];simp
def c0u{a b:D}(ha:a.canLay0=p4)(hb:b.canLay0=p4)(hd:a.depth<=150):dNe a b=cz (.bool (!aC a b)):=by
 unfold dNe a9Y;rw[ha,hb,aA hd];simp
def c0v{a:D}(ha:a.canLay0=p4)(hd:a.depth<=150):dEq a a=cz (.bool p4):=by rw[b3r ha ha hd,eqv_refl a ha]
def c0w{a:D}(ha:a.canLay0=p4)(hd:a.depth<=150):dNe a a=cz (.bool rp):=by rw[c0u ha ha hd,eqv_refl a ha];rfl
theorem a1b(f:α->D)(h:∀x,(f x).canLay0=p4):∀xs:List α,aM (xs.map f)=p4
 |[]=>by simp only[cB,aM]
 |x::xs=>by simp only[av,aM,h x,a1b f h xs,hJ]
theorem R8(f:α->D)(n:Nat)(h:∀x,(f x).depth<=n):∀xs:List α,bV (xs.map f)<=n
 |[]=>by simp only[cB,bV];exact cI _
 |x::xs=>by
  simp only[av,bV];exact Nat.max_le.mpr ⟨h x,R8 f n h xs⟩
def a5B:(aF i).canLay0=p4:=by simp only[cL]
def R9:(aF i).depth=0:=by simp only[dU]
def lay_ints(ns:List Int):(gi (ns.map .int)).canLay0=p4:=by
 simp only[cL];exact a1b _ (λ_=>a5B) ns
def a8D(ns:List Int):(gi (ns.map .int)).depth<=1:=by
 simp only[dU];have:=R8 aF 0 (λx=>by rw[R9];exact aE _) ns;lia
theorem a3m:∀(xs ys:List Int),cy (xs.map aF) (ys.map aF)=decide (xs=ys)
 |[],[]=>by simp[cy]
 |[],_::_=>by simp[cy]
 |_::_,[]=>by simp[cy]
 |x::xs,y::ys=>by
  have:aC (.int x) (.int y)=decide (x=y):=by
   show (x==y)=decide (x=y);exact iM x y
  simp only[av,cy,this,a3m xs ys,Hu];by_cases h1:x=y<;>by_cases h2:xs=ys<;>simp[h1,h2]
def b6y{xs ys:List Int}:dEq (.list (xs.map .int)) (.list (ys.map .int))=cz (.bool (decide (xs=ys))):=by
 rw[b3r (lay_ints _) (lay_ints _) (cA (a8D _) (by decide))];simp only[aC,a3m]
theorem a4F(f:α->Bool):∀xs:List α,a1R (xs.map λx=>dw (f x))=cz (xs.map f)
 |[]=>rfl
 |x::xs=>by
  show (a1R (xs.map λx=>dw (f x))).map (f x::·)=_;rw[a4F f xs];rfl
def v_all(f:α->Bool)(xs:List α):b0b [.list (xs.map λx=>dw (f x))]=cz (.bool (xs.all f)):=by
 show (a1R (xs.map λx=>dw (f x))).map (λbs=>dw (bs.all id))=_;rw[a4F];simp[List.all_map]
def b5I{xs:List Int}:lIs (cz (.list (xs.map .int)))=cz (.list (xs.map .int)):=b3q (B7 _)
def c0x:Option D->Option D
 |some (.list ds)=>Z3 (.tuple ds)
 |some (.tuple ds)=>Z3 (.tuple ds)
 |_=>el
def a3n:F5 a U=c0x (a U):=by
 unfold F5;cases a U with
 |none=>rfl
 |some d=>cases d<;>rfl
def X3{xs:List Int}:c0x (cz (.list (xs.map .int)))=cz (.tuple (xs.map .int)):=b2i (by simp only[imm];exact B7 xs)
def a2w:aC (.int x) (.int y)=decide (x=y):=by
 show (x==y)=decide (x=y);exact iM x y
def at0{α:Type}{x:α}{xs:List α}:L2.atI (x::xs) 0=cz x:=by
 unfold L2.atI ixN;rw[aG (by decide),aG (by simp only[be];lia)];rfl
def at1{α:Type}{x y:α}{xs:List α}:L2.atI (x::y::xs) 1=cz y:=by
 unfold L2.atI ixN;rw[aG (by decide),aG (by simp only[be];lia)];rfl
def J1{enc:α->D}{set:List D->D->Option (List D)}{xs:List α}(I:List α->List D->Prop)(h0:I [] U)
  (step:∀pre x post,xs=pre++x::post->∀U,I pre U->∃U1 U2,set U (enc x)=cz U1/\g U1=cz (.nx U2)/\I (pre++[x]) U2) :
  ∃U',G7 set g (xs.map enc) U=cz (.nx U')/\I xs U':=by
 have key:∀(post pre:List α) (U:List D),xs=pre++post->I pre U->∃U',G7 set g (post.map enc) U=cz (.nx U')/\I xs U':=by
  intro post
  induction post with
  |nil=>
   intro pre U e h;rw[bK]at e;subst e;exact⟨U,rfl,h⟩
  |cons x post ih=>
   intro pre U e h;obtain⟨U1,U2,h1,h2,h3⟩:=step pre x post e U h;obtain⟨U',h4,h5⟩:=ih (pre++[x]) U2 (by rw[e,bx];rfl) h3;refine⟨U',?_,h5⟩;show (set U (enc x)).bind _=_;rw[h1];show (g U1).bind _=_;rw[h2];exact h4
 exact key xs [] U rfl h0
def a1E:J9 0 n=(aQ n).map λ(k:Nat)=>aF k:=by
 unfold J9;refine bY λk _=>?_
 show aF (0+(k:Int))=.int k;rw[Int.zero_add]
def a2e(h:aQ n=pre++x::post):x=pre.length/\x<n/\pre=aQ x:=by
 have hx:(aQ n)[pre.length]?=cz x:=by rw[h];simp
 have il:pre.length<n:=by have:=du eD h;simp at this;lia
 rw[mn il]at hx;have e:x=pre.length:=(aK hx).symm;refine⟨e,by lia,?_⟩;have:=du (List.take pre.length) h;rw[List.take_append_of_le_length (aE _),kB,List.take_range,Nat.min_eq_left (by lia)]at this;rw[e,this]
def N9{set:List D->D->Option (List D)}(I:Nat->List D->Prop)(h0:I 0 U)
  (step:∀k,k<n->∀U,I k U->∃U1 U2,set U (.int k)=cz U1/\g U1=cz (.nx U2)/\I (k+1) U2) :
  ∃U',G7 set g (J9 0 n) U=cz (.nx U')/\I n U':=by
 rw[a1E];obtain⟨U',h1,h2⟩:=J1 (enc:=λ(k:Nat)=>aF k) (set:=set) (g:=g) (xs:=aQ n) (U:=U) (λpre U=>I pre.length U) h0 λpre x post e U h=>by
  obtain⟨e1,e2,_⟩:=a2e e;subst e1;obtain⟨U1,U2,a,b,c⟩:=step pre.length e2 U h;exact⟨U1,U2,a,b,by rw[ba];exact c⟩
 rw[eE]at h2;exact⟨U',h1,h2⟩
def big:Int:=10^60
def b3s:1000<big:=by decide
abbrev l8:=List (List (Int×Int))
def stD(p:Int×Int):D:=.tuple [.int p.1,.int p.2]
def rwD(r:List (Int×Int)):D:=.list (r.map stD)
def rowAt(m:l8)(s:Int):List (Int×Int):=m.getD s.toNat []
def stp(m:l8)(s a:Int):Int×Int:=(rowAt m s).getD a.toNat (0,0)
structure WF (m:l8) (k:Nat):Prop where
 pos:0<m.length
 le:m.length<=30
 k1:1<=k
 k5:k<=5
 rows:∀r∈m,r.length=k
 next:∀r∈m,∀p∈r,0<=p.2/\p.2<(m.length:Int)
def a4G{m:l8}{s:Int}(h0:0<=s)(h1:s<m.length):rowAt m s∈m:=by
 unfold rowAt;rw[aN,ao (by lia)];exact cH _
def WF.row{m:l8}{k:Nat}(w:WF m k){s:Int}(h0:0<=s)(h1:s<m.length):(rowAt m s).length=k:=w.rows _ (a4G h0 h1)
def b5J{m:l8}{k:Nat}(w:WF m k){s a:Int}(h0:0<=s)(h1:s<m.length)(h2:0<=a)(h3:a<k):stp m s a∈rowAt m s:=by
 have:=w.row h0 h1;unfold stp;rw[aN,ao (by lia)];exact cH _
def WF.nx{m:l8}{k:Nat}(w:WF m k){s a:Int}(h0:0<=s)(h1:s<m.length)(h2:0<=a)(h3:a<k):0<=(stp m s a).2/\(stp m s a).2<(m.length:Int):=w.next _ (a4G h0 h1) _ (b5J w h0 h1 h2 h3)
def b3t{m:l8}{s:Int}(h0:0<=s)(h1:s<m.length):L2.atI (m.map rwD) s=cz (rwD (rowAt m s)):=by
 rw[a5q h0 (by rw[au];exact h1),gJ];unfold rowAt;rw[aN,ao (by lia)];rfl
def c0y{r:List (Int×Int)}{a:Int}(h0:0<=a)(h1:a<r.length):dIx (rwD r) (.int a)=cz (stD (r.getD a.toNat (0,0))):=by
 show L2.atI (r.map stD) a=_;rw[a5q h0 (by rw[au];exact h1),gJ,aN,ao (by lia)];rfl
def c0z:dIx (stD p) (.int 0)=cz (.int p.1):=rfl
def c0A:dIx (stD p) (.int 1)=cz (.int p.2):=rfl
def a8E:imm (stD p)=p4:=by unfold stD;simp only[imm,g9,hJ]
def b8E:Z3 (stD p)=cz (stD p):=b2i a8E
def b5K:Z3 (.int i)=cz (.int i):=b2i a0S
def c0B:F9 [rwD r]=cz (.int r.length):=by
 show cz (aF ((r.map stD).length:Nat))=_;rw[au]
def b5L:b2g i j (cz (stD p)) U=cz (.nx ((U.set i (.int p.1)).set j (.int p.2))):=rfl
def b8F(p:Int×Int):(stD p).canLay0=p4:=by unfold stD;simp[cL,aM]
def b8G(r:List (Int×Int)):(rwD r).canLay0=p4:=by unfold rwD;simp only[cL];exact a1b _ b8F r
def b3u(m:l8):(gi (m.map rwD)).canLay0=p4:=by simp only[cL];exact a1b _ b8G m
def b3v(p:Int×Int):(stD p).depth<=1:=by unfold stD;simp[dU,bV]
def b3w(r:List (Int×Int)):(rwD r).depth<=2:=by
 unfold rwD;simp only[dU];have:=R8 stD 1 b3v r;lia
def a8F(m:l8):(gi (m.map rwD)).depth<=150:=by
 simp only[dU];have:=R8 rwD 2 b3w m;lia
def b8H:Option Out->Option D
 |some (.rt d)=>cz d
 |some (.nx _)=>cz .none
 |_=>el
def b6z(h:argsOk us ds=p4):fnN us n g ds=b8H (g (ds++aR n .none)):=by
 unfold fnN;rw[aG h];cases g (ds++aR n .none) with
 |none=>rfl
 |some o=>cases o<;>rfl
def a5C:b8H (cz (.nx U))=cz .none:=rfl
def a5D:b8H (cz (.rt d))=cz d:=rfl
def b8I{p:List Int}:dEq (.list (p.map .int)) (.list [])=cz (.bool (decide (p=[]))):=b6y (ys:=[])
def b8J:b1h (cz (rwD r))=cz (rwD r):=rfl
def c0C:lIs (cz (rwD r))=cz (rwD r):=b3q (p8 _ (λ_=>a8E) r)
def b8K{m:l8}(h:a U=cz (.list (m.map rwD)))(hl:m.length<=1000):n4 (iL a) [] pt1 tT (eI (a0O (b7 0))) U=cz (.list (m.map rwD)):=by
 rw[b8D (ds:=m.map rwD) id]
 ·rw[List.map_id]
 ·rw[b5H,h];rfl
 ·rw[au];lia
 ·intro d hd;obtain⟨r,_,rfl⟩:=aO.mp hd;refine⟨_,rfl,?_⟩;show eI (a0O (b7 0)) [rwD r]=cz (rwD r);rw[b6x,a9y];show lIs (b1h (cz (rwD r)))=_;rw[b8J,c0C]
end VS
namespace Prog
open PySem L2 VS
def top(i:Nat):hZ:=PySem.Challenge.pw_probewell_k44_least_depths.main.body.getD i (.Pass ⟨0,0,0,0⟩)
structure Bn (K:af) (mg:bC->Option aj):Prop where
 d0:DP K mg "_law_cell_at" (top 31)
 d1:DP K mg "_law_cells" (top 32)
 d2:DP K mg "_law_copied" (top 35)
 d3:DP K mg "_law_answer" (top 34)
 d4:DP K mg "_law_machine" (top 36)
 d5:DP K mg "_law_sets" (top 37)
 d6:DP K mg "need_few_states" (top 15)
 d7:DP K mg "is_list_up_to" (top 12)
 d8:DP K mg "is_whole" (top 8)
 d9:DP K mg "is_below" (top 9)
 d10:DP K mg "is_set" (top 17)
 d11:DP K mg "need_set" (top 16)
 d12:DP K mg "sets_of" (top 18)
 d13:DP K mg "least_telling" (top 27)
 d14:DP K mg "found_in_round" (top 6)
 d15:DP K mg "found_in_rounds" (top 5)
 d16:DP K mg "asks_of" (top 11)
 d17:DP K mg "parted_by" (top 29)
 d18:DP K mg "sets_behind" (top 28)
 d19:DP K mg "least_asks" (top 26)
 d20:DP K mg "grown" (top 25)
 d21:DP K mg "tree_of_set" (top 24)
 d22:DP K mg "tree_of" (top 20)
 d23:DP K mg "_law_led" (top 38)
 d24:DP K mg "_law_deep" (top 40)
 d25:DP K mg "_law_far" (top 42)
 d26:DP K mg "_law_whole" (top 33)
 d27:DP K mg "_law_renamed" (top 41)
 d28:DP K mg "_law_right" (top 43)
 d29:DP K mg "inner_among" (top 22)
 d30:DP K mg "branches_of" (top 23)
 d31:DP K mg "depth" (top 21)
 d32:DP K mg "_law_is_tree" (top 39)
 d33:DP K mg "law" (top 44)
 all_:mg "all"=el
 bool_:mg "bool"=el
 dict_:mg "dict"=el
 enumerate_:mg "enumerate"=el
 int_:mg "int"=el
 isinstance_:mg "isinstance"=el
 len_:mg "len"=el
 list_:mg "list"=el
 max_:mg "max"=el
 min_:mg "min"=el
 range_:mg "range"=el
 set_:mg "set"=el
 sorted_:mg "sorted"=el
 tuple_:mg "tuple"=el
 zip_:mg "zip"=el
 MOST_FOR_SETS_:∃t,mg "MOST_FOR_SETS"=cz (.int 7 t)
structure Bk (P:bz) (w:bI) (K:af) (mg:bC->Option aj) (base:bQ):Prop extends Bn K mg
variable {P:bz}{w:bI}{K:af}{mg:bC->Option aj}{base:bQ}
abbrev HB(_:Bk P w K mg base):=Has P w K mg base
def c1U:(["_law_t","_law_many","_law_rows","_law_cell"]:List bC).Nodup:=by decide +kernel
def c1V:(["_law_one","_law_s"]:List bC).Nodup:=by decide +kernel
def c1W:(["state","states"]:List bC).Nodup:=by decide +kernel
def c1X:(["held","state"]:List bC).Nodup:=by decide +kernel
def c1Y:(["part","found"]:List bC).Nodup:=by decide +kernel
def c1Z:(["thing","newer"]:List bC).Nodup:=by decide +kernel
def c2a:(["part"]:List bC).Nodup:=by decide +kernel
def c0D:(["_law_answer_here","_law_rest"]:List bC).Nodup:=by decide +kernel
def c0E:(["_law_answer_here","_law_rest","_law_names"]:List bC).Nodup:=by decide +kernel
def c0F:(["_law_a","_law_table","_law_told","_law_one"]:List bC).Nodup:=by decide +kernel
def c0G:(["_law_far_here"]:List bC).Nodup:=by decide +kernel
def c0H:(["_law_answer_here","_law_came"]:List bC).Nodup:=by decide +kernel
def b6A:(["_law_answer_here","_law_to","_law_told","_law_came"]:List bC).Nodup:=by decide +kernel
def b6B:(["answer","branch"]:List bC).Nodup:=by decide +kernel
def c0I:(["_law_row"]:List bC).Nodup:=by decide +kernel
def b_law_cell_at:EvS:=(i6 (sIf (tB (e2 dLt (b7 1) (eCl F9 (b8 (b7 0) g8)))) (m8 (e2 J8 (b7 0) (b7 1))) u6) (m8 (eC (.int 0))))
def m_law_cell_at:=fnD [.f,.i] 0 b_law_cell_at
abbrev Z7(B:Bk P w K mg base)(k:Nat):=HB B "_law_cell_at" k ["_law_script","_law_k"] (spD K 2 m_law_cell_at .i)
def ok_law_cell_at(B:Bk P w K mg base):Z7 B 1:=
 m5 B.d0 λ_ _ F=>fnF F ["_law_script","_law_k"] λ_ _ _ _ _ _ _ _=>by exact c6 (r9 (m3 a6b (e7 1) (E7 B.len_ (c7 0))) (e6 (j7 (b9 (E5 (c7 0) (e7 1))))) n8) (e6 (j7 (b9 c8)))
def b_law_cells:EvS:=(i6 (l7 2 (W5 g8)) (i6 (l7 3 (eC (.int 48271))) (i6 (K4 (iR (b7 1)) (v5 4) (i6 (l7 5 (e2 F8 (eCl m_law_cell_at (b8 (b7 0) (b8 (b7 4) g8))) (e2 a5j (eC (.int 10)) (eC (.int 64))))) (i6 (l7 3 (e2 F8 (e2 w8 (e2 w8 (e2 w8 (e2 N0 (b7 3) (eC (.int 69621))) (e2 N0 (b7 5) (eC (.int 40014)))) (e2 N0 (b7 4) (b7 4))) (eC (.int 1))) (eC (.int 2147483563)))) (sIf (tB (e2 dLt (b7 4) (eCl F9 (b8 (b7 0) g8)))) (N5 2 (.l .i) A7 (b7 5)) (N5 2 (.l .i) A7 (b7 3)))))) (m8 (b7 2)))))
def m_law_cells:=fnD [.f,.i] 4 b_law_cells
abbrev a2f(B:Bk P w K mg base)(k:Nat):=HB B "_law_cells" k ["_law_script","_law_many"] (spD K 2 m_law_cells (.l .i))
def ok_law_cells(B:Bk P w K mg base)(iV:Z7 B 1):a2f B 2:=
 m5 B.d1 λ_ _ F=>fnF F ["_law_script","_law_many","_law_found","_law_number","_law_k","_law_cell"] λsc _ _ _ _ _ _ hr=>by exact c6 (j9 2 sc.nd (b9 (J7 (n:=0) o5))) (c6 (j9 3 sc.nd (b9 c8)) (c6 (B5 rfl bN (C3 B.range_ (e7 1)) (A8 4 sc.nd) G8 a7N (PSsX.weak (c6 (j9 5 sc.nd (b9 (j6 x6 (w6 iV hr (f6 (c7 0) (f6 (e7 4) k8))) (j6 a2K c8 c8)))) (c6 (j9 3 sc.nd (b9 (j6 x6 (j6 w9 (j6 w9 (j6 w9 (j6 N1 (e7 3) c8) (j6 N1 (e7 5) c8)) (j6 N1 (e7 4) (e7 4))) c8) c8))) (e6 (r9 (m3 a6b (e7 4) (E7 B.len_ (c7 0))) (e6 (T8 2 (L4 2) (b9 (PX.newi (e7 5))) a0Q)) (e6 (T8 2 (L4 2) (b9 (PX.newi (e7 3))) a0Q)))))) l0 ((l5 4).trans (l5 5)))) (e6 (j7 (Y2 2)))))
def b_law_copied:EvS:=(i6 (l7 3 (W5 g8)) (i6 (K4 (iR (b7 1)) (v5 4) (sIf (tB (e2 dLt (b7 4) (b7 2))) (N5 3 (.l .i) A7 (e2 F8 (e2 w8 (b7 4) (e2 a0F (e2 J8 (b7 0) (eC (.int 0))) (eC (.int 1000)))) (b7 2))) (N5 3 (.l .i) A7 (e2 F8 (e2 J8 (b7 0) (e2 w8 (eC (.int 3)) (b7 4))) (b7 2))))) (i6 (sIf (tB (e2 dEq (e2 F8 (e2 a0F (e2 J8 (b7 0) (eC (.int 1))) (eC (.int 20))) (eC (.int 2))) (eC (.int 1)))) (b8m 3) u6) (m8 (b7 3)))))
def m_law_copied:=fnD [.f,.i,.i] 2 b_law_copied
abbrev a1c(B:Bk P w K mg base)(k:Nat):=HB B "_law_copied" k ["_law_xs","_law_n","_law_many"] (spD K 3 m_law_copied (.l .i))
def ok_law_copied(B:Bk P w K mg base):a1c B 1:=
 m5 B.d2 λ_ _ F=>fnF F ["_law_xs","_law_n","_law_many","_law_rows","_law_s"] λsc _ _ _ _ _ _ hr=>by exact c6 (j9 3 sc.nd (b9 (J7 (n:=0) o5))) (c6 (B5 rfl bN (C3 B.range_ (e7 1)) (A8 4 sc.nd) G8 a7N (PSsX.weak (e6 (r9 (m3 a6b (e7 4) (e7 2)) (e6 (T8 3 (L4 3) (b9 (j6 x6 (j6 w9 (e7 4) (j6 P8 (E5 (c7 0) c8) c8)) (e7 2))) a0Q)) (e6 (T8 3 (L4 3) (b9 (j6 x6 (E5 (c7 0) (j6 w9 c8 (e7 4))) (e7 2))) a0Q)))) l0 (l5 4))) (c6 (r9 (m3 E8 (j6 x6 (j6 P8 (E5 (c7 0) c8) c8) c8) c8) (e6 (b8o 3)) n8) (e6 (j7 (Y2 3)))))
def b_law_answer:EvS:=(i6 (l7 2 (e2 a5i (e2 F8 (e2 a0F (e2 J8 (b7 1) (eC (.int 2))) (eC (.int 1000))) (e2 a5i (e2 N0 (eC (.int 2)) (e2 a5j (eC (.int 10)) (eC (.int 60)))) (eC (.int 2)))) (e2 a5i (e2 a5j (eC (.int 10)) (eC (.int 60))) (eC (.int 1))))) (i6 (sIf (tB (e2 dEq (e2 F8 (e2 a0F (e2 J8 (b7 1) (eC (.int 1))) (eC (.int 5))) (eC (.int 4))) (eC (.int 1)))) (m8 (e2 w8 (b7 2) (e2 F8 (b7 0) (eC (.int 2))))) u6) (i6 (sIf (tB (e2 dEq (e2 F8 (e2 a0F (e2 J8 (b7 1) (eC (.int 1))) (eC (.int 5))) (eC (.int 4))) (eC (.int 2)))) (m8 (e2 a5i (e2 F8 (b7 0) (eC (.int 3))) (eC (.int 1)))) u6) (i6 (sIf (tB (e2 dEq (e2 F8 (e2 a0F (e2 J8 (b7 1) (eC (.int 1))) (eC (.int 5))) (eC (.int 4))) (eC (.int 3)))) (m8 (e2 a5i (e2 F8 (b7 0) (e2 a5i (e2 N0 (eC (.int 2)) (e2 a5j (eC (.int 10)) (eC (.int 60)))) (eC (.int 1)))) (e2 a5i (e2 a5j (eC (.int 10)) (eC (.int 60))) (eC (.int 1))))) u6) (m8 (e2 F8 (b7 0) (eC (.int 2))))))))
def m_law_answer:=fnD [.i,.f] 1 b_law_answer
abbrev a1d(B:Bk P w K mg base)(k:Nat):=HB B "_law_answer" k ["_law_number","_law_xs"] (spD K 2 m_law_answer .i)
def ok_law_answer(B:Bk P w K mg base):a1d B 1:=
 m5 B.d3 λ_ _ F=>fnF F ["_law_number","_law_xs","_law_low"] λsc _ _ _ _ _ _ hr=>by exact c6 (j9 2 sc.nd (b9 (j6 a0l (j6 x6 (j6 P8 (E5 (c7 1) c8) c8) (j6 a0l (j6 N1 c8 (j6 a2K c8 c8)) c8)) (j6 a0l (j6 a2K c8 c8) c8)))) (c6 (r9 (m3 E8 (j6 x6 (j6 P8 (E5 (c7 1) c8) c8) c8) c8) (e6 (j7 (b9 (j6 w9 (e7 2) (j6 x6 (e7 0) c8))))) n8) (c6 (r9 (m3 E8 (j6 x6 (j6 P8 (E5 (c7 1) c8) c8) c8) c8) (e6 (j7 (b9 (j6 a0l (j6 x6 (e7 0) c8) c8)))) n8) (c6 (r9 (m3 E8 (j6 x6 (j6 P8 (E5 (c7 1) c8) c8) c8) c8) (e6 (j7 (b9 (j6 a0l (j6 x6 (e7 0) (j6 a0l (j6 N1 c8 (j6 a2K c8 c8)) c8)) (j6 a0l (j6 a2K c8 c8) c8))))) n8) (e6 (j7 (b9 (j6 x6 (e7 0) c8)))))))
def b_law_machine:EvS:=(i6 (l7 3 (eCl m_law_cells (b8 (b7 0) (b8 (eC (.int 3)) g8)))) (i6 (l7 4 (e2 w8 (eC (.int 1)) (e2 F8 (e2 N2 (b7 3) (eC (.int 0))) (b7 1)))) (i6 (sIf (tB (e2 dEq (e2 F8 (e2 a0F (e2 N2 (b7 3) (eC (.int 0))) (b7 1)) (eC (.int 8))) (eC (.int 3)))) (l7 4 (e2 w8 (eC (.int 1)) (e2 F8 (e2 a0F (e2 N2 (b7 3) (eC (.int 0))) (e2 N0 (eC (.int 8)) (b7 1))) (b7 2)))) u6) (i6 (l7 5 (e2 w8 (eC (.int 1)) (e2 F8 (e2 N2 (b7 3) (eC (.int 1))) (eC (.int 5))))) (i6 (l7 6 (b7 4)) (i6 (sIf (tB (e2 dEq (e2 F8 (e2 N2 (b7 3) (eC (.int 2))) (eC (.int 4))) (eC (.int 3)))) (l7 6 (e2 w8 (eC (.int 1)) (e2 F8 (e2 a0F (e2 N2 (b7 3) (eC (.int 2))) (eC (.int 4))) (b7 4)))) u6) (i6 (l7 7 (eCl m_law_cells (b8 (b7 0) (b8 (e2 w8 (e2 w8 (eC (.int 3)) (b7 4)) (e2 N0 (e2 N0 (eC (.int 2)) (b7 4)) (b7 5))) g8)))) (i6 (l7 8 (eCl m_law_copied (b8 (b7 7) (b8 (b7 4) (b8 (b7 6) g8))))) (i6 (l7 9 (W5 g8)) (i6 (K4 (iR (b7 4)) (v5 10) (i6 (l7 11 (W5 g8)) (i6 (K4 (iR (b7 5)) (v5 12) (i6 (l7 13 (e2 N2 (b7 7) (e2 w8 (e2 w8 (e2 w8 (eC (.int 3)) (b7 4)) (e2 N0 (e2 N2 (b7 8) (b7 10)) (b7 5))) (b7 12)))) (i6 (l7 14 (n4 (iR (b7 4)) [6,8,13] pt1 (tB (e2 dEq (e2 N2 (b7 2) (b7 0)) (e2 F8 (b7 3) (b7 1)))) (b7 0))) (i6 (l7 15 (e2 N2 (b7 7) (e2 w8 (e2 w8 (e2 w8 (e2 w8 (eC (.int 3)) (b7 4)) (e2 N0 (b7 4) (b7 5))) (e2 N0 (b7 10) (b7 5))) (b7 12)))) (N5 11 (.l .i) A7 (K9 (b8 (eCl m_law_answer (b8 (e2 a0F (b7 13) (b7 6)) (b8 (b7 7) g8))) (b8 (e2 N2 (b7 14) (e2 F8 (b7 15) (eCl F9 (b8 (b7 14) g8)))) g8)))))))) (N5 9 (.l (.l .i)) A7 (b7 11))))) (m8 (b7 9))))))))))))
def m_law_machine:=fnD [.f,.i,.i] 13 b_law_machine
abbrev Z8(B:Bk P w K mg base)(k:Nat):=HB B "_law_machine" k ["_law_script","_law_small","_law_large"] (spD K 3 m_law_machine (.l (.l .i)))
def ok_law_machine(B:Bk P w K mg base)(iH:a2f B 2)(jf:a1c B 2)(jg:a1d B 2):Z8 B 3:=
 m5 B.d4 λ_ _ F=>fnF F ["_law_script","_law_small","_law_large","_law_first","_law_n","_law_asks","_law_many","_law_xs","_law_rows","_law_table","_law_s","_law_row","_law_a","_law_cell","_law_copies","_law_pick"] λsc _ _ _ _ _ _ hr=>by exact c6 (j9 3 sc.nd (b9 (w6 iH hr (f6 (c7 0) (f6 c8 k8))))) (c6 (j9 4 sc.nd (b9 (j6 w9 c8 (j6 x6 (N3 (F7 3) c8) (e7 1))))) (c6 (r9 (m3 E8 (j6 x6 (j6 P8 (N3 (F7 3) c8) (e7 1)) c8) c8) (e6 (j9 4 sc.nd (b9 (j6 w9 c8 (j6 x6 (j6 P8 (N3 (F7 3) c8) (j6 N1 c8 (e7 1))) (e7 2)))))) n8) (c6 (j9 5 sc.nd (b9 (j6 w9 c8 (j6 x6 (N3 (F7 3) c8) c8)))) (c6 (j9 6 sc.nd (b9 (PX.newi (e7 4)))) (c6 (r9 (m3 E8 (j6 x6 (N3 (F7 3) c8) c8) c8) (e6 (j9 6 sc.nd (b9 (j6 w9 c8 (j6 x6 (j6 P8 (N3 (F7 3) c8) c8) (e7 4)))))) n8) (c6 (j9 7 sc.nd (b9 (w6 iH hr (f6 (c7 0) (f6 (j6 w9 (j6 w9 c8 (e7 4)) (j6 N1 (j6 N1 c8 (e7 4)) (e7 5))) k8))))) (c6 (j9 8 sc.nd (b9 (w6 jf hr (f6 (F7 7) (f6 (e7 4) (f6 (e7 6) k8)))))) (c6 (j9 9 sc.nd (b9 (J7 (n:=0) o5))) (c6 (B5 rfl bN (C3 B.range_ (e7 4)) (A8 10 sc.nd) G8 a7N (PSsX.weak (c6 (j9 11 sc.nd (b9 (J7 (n:=0) o5))) (c6 (B5 rfl bN (C3 B.range_ (e7 5)) (A8 12 sc.nd) G8 a7N (PSsX.weak (c6 (j9 13 sc.nd (b9 (PX.newi (N3 (F7 7) (j6 w9 (j6 w9 (j6 w9 c8 (e7 4)) (j6 N1 (N3 (F7 8) (e7 10)) (e7 5))) (e7 12)))))) (c6 (K0 14 sc.nd rfl (tn:=["_law_t"]) (ys:=["_law_many","_law_rows","_law_cell"]) (C3 B.range_ (e7 4)) rfl (λ_ _ _ _ _=>p5 (i:=0) c1U rfl (bR rfl) (.inr rfl)) G6 (.inl rfl) b2d rfl (λ_ _ _ _ _=>a7K (m3 E8 (N3 (F7 2) (e7 0)) (j6 x6 (e7 3) (e7 1)))) (λ_ _ _ _ _=>(PX.newi (e7 0)))) (c6 (j9 15 sc.nd (b9 (PX.newi (N3 (F7 7) (j6 w9 (j6 w9 (j6 w9 (j6 w9 c8 (e7 4)) (j6 N1 (e7 4) (e7 5))) (j6 N1 (e7 10) (e7 5))) (e7 12)))))) (e6 (T8 11 (L4 11) (b9 (Y1 (n:=2) (o6 (w6 jg hr (f6 (j6 P8 (e7 13) (e7 6)) (f6 (F7 7) k8))) (o6 (PX.newi (N3 (F7 14) (j6 x6 (e7 15) (E7 B.len_ (F7 14))))) o5)))) a0Q))))) l0 ((((l5 12).trans (l5 13)).trans (l5 14)).trans (l5 15)))) (e6 (T8 9 (L4 9) (Y2 11) a0Q)))) l0 (l5 10))) (e6 (j7 (Y2 9))))))))))))
def b_law_sets:EvS:=(i6 (l7 1 (W5 (b8 (K9 g8) g8))) (i6 (K4 (iR (b7 0)) (v5 2) (l7 1 (eI (b7y (b7 1) (n4 (iI (iL (b7 1))) [2] pt1 tT (e2 a9o (b7 0) (K9 (b8 (b7 1) g8)))))))) (m8 (eI (eSl (b7 1) (oSo (eC (.int 1))) oNo)))))
def m_law_sets:=fnD [.i] 2 b_law_sets
abbrev a3o(B:Bk P w K mg base)(k:Nat):=HB B "_law_sets" k ["_law_n"] (spD K 1 m_law_sets (.l .i))
def ok_law_sets(B:Bk P w K mg base):a3o B 1:=
 m5 B.d5 λ_ _ F=>fnF F ["_law_n","_law_some","_law_s"] λsc _ _ _ _ _ _ _=>by exact c6 (j9 1 sc.nd (b9 (J7 (n:=1) (o6 (Y1 (n:=0) o5) o5)))) (c6 (B5 rfl bN (C3 B.range_ (e7 0)) (A8 2 sc.nd) G8 a7N (PSsX.weak (e6 (PSX.weak (j9 1 sc.nd (b9 (MkL.i (b2b (PX.newf (c7 1)) (L3 rfl (tn:=["_law_one"]) (ys:=["_law_s"]) (m:=.i) (PIX.i (o7 (PX.newf (c7 1)))) rfl (λ_ _ _ _ _=>p5 (i:=0) c1V rfl (bR rfl) (.inr rfl)) G6 (.inl rfl) a2O rfl (λ_ _ _ _ _=>D8) (λ_ _ _ _ _=>(a9p (e7 0) (Y1 (n:=1) (o6 (PX.newi (e7 1)) o5))))))))) (C8 1) l0)) l0 (l5 2))) (e6 (j7 (b9 (MkL.i (a6j (F7 1) (a6i c8) a6h))))))
def O7:EvS:=(sIf (tB (e2 dGt (eCl F9 (b8 (b7 0) g8)) (eC (.int 7)))) sNo u6)
def A9:=fnN [.f] 0 O7
abbrev O8(B:Bk P w K mg base)(k:Nat):=HB B "need_few_states" k ["machine"] (spD K 1 A9 .i)
def a0r(B:Bk P w K mg base):O8 B 1:=
 m5 B.d6 λ_ _ F=>c0k F ["machine"] [.own .f] λ_ _ _ _ _ _ _ _=>by exact e6 (r9 (m3 b9u (E7 B.len_ (c7 0)) (b4K B.MOST_FOR_SETS_)) (e6 (b6q)) n8)
def V2:EvS:=(m8 (a3Q (e1 (λd=>cz (.bool (isList d))) (b7 0)) (eCh dLe dLe (eC (.int 1)) (eCl F9 (b8 (b7 0) g8)) (b7 1))))
def E1:=fnD [.f,.i] 0 V2
abbrev V3(B:Bk P w K mg base)(k:Nat):=HB B "is_list_up_to" k ["thing","most"] (spD K 2 E1 .i)
def a1F(B:Bk P w K mg base):V3 B 1:=
 m5 B.d7 λ_ _ F=>fnF F ["thing","most"] λ_ _ _ _ _ _ _ _=>by exact e6 (j7 (b9 (a0n (K6 a6g B.isinstance_ B.list_ PyProof.Rows.Boot.«list» (c7 0)) (a1u (a6c a8U a8U c8 (E7 B.len_ (c7 0)) (e7 1))))))
def a3p:EvS:=(m8 (a3Q (e1 (λd=>cz (.bool (isInt d))) (b7 0)) (b1V (e1 (λd=>cz (.bool (isBool d))) (b7 0)))))
def U5:=fnD [.f] 0 a3p
abbrev a3q(B:Bk P w K mg base)(k:Nat):=HB B "is_whole" k ["thing"] (spD K 1 U5 .i)
def a6X(B:Bk P w K mg base):a3q B 1:=
 m5 B.d8 λ_ _ F=>fnF F ["thing"] λ_ _ _ _ _ _ _ _=>by exact e6 (j7 (b9 (a0n (K6 a8X B.isinstance_ B.int_ PyProof.Rows.Boot.«int» (c7 0)) (a1u (b1W (K6 a6f B.isinstance_ B.bool_ PyProof.Rows.Boot.«bool» (c7 0)))))))
def a3r:EvS:=(m8 (a3Q (eCl U5 (b8 (b7 0) g8)) (eCh dLe dLt (eC (.int 0)) (b7 0) (b7 1))))
def U6:=fnD [.f,.i] 0 a3r
abbrev a3s(B:Bk P w K mg base)(k:Nat):=HB B "is_below" k ["thing","bound"] (spD K 2 U6 .i)
def a6Y(B:Bk P w K mg base)(ke:a3q B 1):a3s B 2:=
 m5 B.d9 λ_ _ F=>fnF F ["thing","bound"] λ_ _ _ _ _ _ _ hr=>by exact e6 (j7 (b9 (a0n (w6 ke hr (f6 (c7 0) k8)) (a1u (a6c a8U a6b c8 (c7 0) (e7 1))))))
def a6Z:EvS:=(m8 (a3Q (eCl E1 (b8 (b7 0) (b8 (b7 1) g8))) (a3Q (eCl b0b (b8 (n4 (iI (iL (b7 0))) [1] pt1 tT (eCl U6 (b8 (b7 0) (b8 (b7 1) g8)))) g8)) (e2 dEq (b7 0) (a0X (b7 0))))))
def a1e:=fnD [.f,.i] 0 a6Z
abbrev a7a(B:Bk P w K mg base)(k:Nat):=HB B "is_set" k ["thing","states"] (spD K 2 a1e .i)
def b1i(B:Bk P w K mg base)(hX:V3 B 2)(kg:a3s B 2):a7a B 3:=
 m5 B.d10 λ_ _ F=>fnF F ["thing","states"] λ_ _ _ _ _ _ _ hr=>by exact e6 (j7 (b9 (a0n (w6 hX hr (f6 (c7 0) (f6 (e7 1) k8))) (a0n (a0o (b1Z rfl) B.all_ PyProof.Rows.Boot.«all» (f6 (L3 rfl (tn:=["state"]) (ys:=["states"]) (PIX.i (o7 (PX.newf (c7 0)))) rfl (λ_ _ _ _ _=>p5 (i:=0) c1W rfl (bR rfl) (.inr rfl)) G6 (.inl rfl) a2O rfl (λ_ _ _ _ _=>D8) (λ_ _ _ _ _=>(w6 kg hr (f6 (e7 0) (f6 (e7 1) k8))))) k8)) (a1u (a5n E8 (c7 0) (a8l rfl B.set_ B.sorted_ (c7 0))))))))
def a3t:EvS:=(sIf (tNo (tV (eCl a1e (b8 (b7 1) (b8 (eCl F9 (b8 (b7 0) g8)) g8))))) sNo u6)
def U7:=fnN [.f,.f] 0 a3t
abbrev a3u(B:Bk P w K mg base)(k:Nat):=HB B "need_set" k ["machine","thing"] (spD K 2 U7 .i)
def a7b(B:Bk P w K mg base)(lU:a7a B 3):a3u B 4:=
 m5 B.d11 λ_ _ F=>c0k F ["machine","thing"] [.own .f,.own .f] λ_ _ _ _ _ _ _ hr=>by exact e6 (r9 (C2 (z8 (w6 lU hr (f6 (c7 1) (f6 (E7 B.len_ (c7 0)) k8))))) (e6 (b6q)) n8)
def b1j:EvS:=(i6 (l7 1 (W5 (b8 (K9 g8) g8))) (i6 (K4 (iR (b7 0)) (v5 2) (l7 1 (eI (b7y (b7 1) (n4 (iI (iL (b7 1))) [2] pt1 tT (e2 a9o (b7 0) (K9 (b8 (b7 1) g8)))))))) (m8 (eI (eSl (b7 1) (oSo (eC (.int 1))) oNo)))))
def a1G:=fnD [.i] 2 b1j
abbrev a4H(B:Bk P w K mg base)(k:Nat):=HB B "sets_of" k ["states"] (spD K 1 a1G (.l .i))
def a8G(B:Bk P w K mg base):a4H B 1:=
 m5 B.d12 λ_ _ F=>fnF F ["states","found","state"] λsc _ _ _ _ _ _ _=>by exact c6 (j9 1 sc.nd (b9 (J7 (n:=1) (o6 (Y1 (n:=0) o5) o5)))) (c6 (B5 rfl bN (C3 B.range_ (e7 0)) (A8 2 sc.nd) G8 a7N (PSsX.weak (e6 (PSX.weak (j9 1 sc.nd (b9 (MkL.i (b2b (PX.newf (c7 1)) (L3 rfl (tn:=["held"]) (ys:=["state"]) (m:=.i) (PIX.i (o7 (PX.newf (c7 1)))) rfl (λ_ _ _ _ _=>p5 (i:=0) c1X rfl (bR rfl) (.inr rfl)) G6 (.inl rfl) a2O rfl (λ_ _ _ _ _=>D8) (λ_ _ _ _ _=>(a9p (e7 0) (Y1 (n:=1) (o6 (PX.newi (e7 1)) o5))))))))) (C8 1) l0)) l0 (l5 2))) (e6 (j7 (b9 (MkL.i (a6j (F7 1) (a6i c8) a6h))))))
def V4:EvS:=(i6 (K4 (iEn (b7 0)) (a5p 2 3) (sIf (tAn (tB (e2 (J6 p4) (b7 3) (eC .none))) (tV (eCl b0b (b8 (n4 (iL (b7 3)) [1] pt1 tT (e2 (a5t rp p4) (b7 0) (b7 1))) g8)))) (m8 (eIm (b7 2))) u6)) (m8 (eC .none)))
def u5:=fnD [.f,.f] 2 V4
abbrev V5(B:Bk P w K mg base)(k:Nat):=HB B "least_telling" k ["behind","found"] (spD K 2 u5 .i)
def a1H(B:Bk P w K mg base):V5 B 1:=
 m5 B.d13 λ_ _ F=>fnF F ["behind","found","ask","parts"] λsc _ _ _ _ _ _ hr=>by exact c6 (b5e (fi:=(iEn (b7 0))) rfl bN (c1y B.enumerate_ (PX.newf (c7 0))) (V8 rfl (p6 (A8 2 sc.nd) (p6 (A8 3 sc.nd) K7))) (a7L (.inl rfl)) (λ_ _ _ _ _ e=>nomatch e) (λh=>h) (PSsX.weak (e6 (r9 (PWX.pt (a2p (m3 a0G (c7 3) B3) (a0J (z8 (a0o (b1Z rfl) B.all_ PyProof.Rows.Boot.«all» (f6 (L3 rfl (tn:=["part"]) (ys:=["found"]) (o7 (PX.newf (c7 3))) rfl (λ_ _ _ _ _=>p5 (i:=0) c1Y rfl (bR rfl) (.inr rfl)) G6 (.inr rfl) a4m rfl (λ_ _ _ _ _=>D8) (λ_ _ _ _ _=>(b8h (a7V (by exact hr.units)) (c7 0) (c7 1)))) k8)))))) (e6 (j7 (b9 (b8x (PX.newf (c7 2)))))) n8)) l0 ((l5 2).trans (l5 3)))) (e6 (j7 (b9 B3)))
def K1:(List D->Option D)->EvS:=λgm=>(i6 (l7 3 (eC (.dict []))) (i6 (K4 (iI (iL (b7 1))) (v5 4) (i6 (l7 5 (eCl gm (b8 (b7 4) (b8 (b7 0) g8)))) (sIf (tB (e2 (J6 p4) (b7 5) (eC .none))) (I9 3 p4 (b7 4) (b7 5)) u6))) (m8 (b7 3))))
def p9:=fnL [.f,.f] 3 K1
abbrev S6(B:Bk P w K mg base)(k:Nat):=HB B "found_in_round" k ["found","left","tell"] (spL K 2 (λgm=>FnV P w K mg base 2 2 .i gm) p9 (.d p4 .i))
def a1f(B:Bk P w K mg base):S6 B 3:=
 m5 B.d14 λ_ _ F=>c0l F ["found","left","tell","newer","thing","told"] λsc gm _ _ _ _ _ _ hr=>by exact c6 (j9 3 sc.nd (b9 (N6 p4 .i))) (c6 (B5 rfl bN (PIX.i (o7 (PX.newf (c7 1)))) (A8 4 sc.nd) G8 a6n (PSsX.weak (c6 (j9 5 sc.nd (b9 (b2G 2 (k:=2) (n:=2) (m:=gm) (hr.mono (by decide)) (f6 (e7 4) (f6 (c7 0) k8)) (hfl:=(i9 (i9 x8)))))) (e6 (r9 (m3 a0G (e7 5) B3) (e6 (a0V 3 (kt:=p4) (by exact hr.units) (e7 4) (b9 (PX.newi (e7 5))))) n8))) l0 ((l5 4).trans (l5 5)))) (e6 (j7 (Y2 3))))
def J3:(List D->Option D)->EvS:=λgm=>(i6 (l7 3 (a5x (b7 0))) (i6 (l7 4 (b0K p9 gm (b8 (b7 3) (b8 (b7 1) g8)))) (i6 (sWh (λ_=>1000000) (tVD (b7 4)) (i6 (b0B 3 4) (i6 (l7 1 (n4 (iI (iL (b7 1))) [4] pt1 (tB (e2 (dIn p4 p4) (b7 0) (b7 1))) (b7 0))) (l7 4 (b0K p9 gm (b8 (b7 3) (b8 (b7 1) g8))))))) (m8 (b7 3)))))
def s9:=fnL [.f,.f] 2 J3
abbrev O9(B:Bk P w K mg base)(k:Nat):=HB B "found_in_rounds" k ["outset","left","tell"] (spL K 2 (λgm=>FnV P w K mg base 2 2 .i gm) s9 .f)
def a0s(B:Bk P w K mg base)(fU:S6 B 3):O9 B 4:=
 m5 B.d15 λ_ _ F=>c0l F ["outset","left","tell","found","newer"] λsc gm _ _ _ _ _ _ hr=>by exact c6 (j9 3 sc.nd (b9 (b0U B.dict_ (PX.newf (c7 0))))) (c6 (j9 4 sc.nd (b9 (a9q (a4y (gm:=gm) fU hr (R7 (T6 3) (R7 (c7 1) (a9h 2))) (hfl:=(R6 (R6 a5u))))))) (c6 (a6m (λ_=>1000000) bN (b2x (T6 4)) (PSsX.weak (c6 (b0C 3 4 (by decide) (by exact hr.units)) (c6 (K0 1 sc.nd rfl (tn:=["thing"]) (ys:=["newer"]) (PIX.i (o7 (PX.newf (c7 1)))) rfl (λ_ _ _ _ _=>p5 (i:=0) c1Z rfl (bR rfl) (.inr rfl)) G6 (.inl rfl) a2O rfl (λ_ _ _ _ _=>a7K (b5k 1 (a1B (by exact hr.units)) (e7 0))) (λ_ _ _ _ _=>(PX.newi (e7 0)))) (e6 (j9 4 sc.nd (b9 (a9q (a4y (gm:=gm) fU hr (R7 (T6 3) (R7 (F7 1) (a9h 2))) (hfl:=(R6 (R6 a5u)))))))))) l0 (C8 1))) (e6 (PSX.weak (j7 (b9 (PX.newf (c7 3)))) (C8 3) l0))))
def a4I:EvS:=(m8 (eCl F9 (b8 (e2 dIx (b7 0) (eC (.int 0))) g8)))
def S7:=fnD [.f] 0 a4I
abbrev a4J(B:Bk P w K mg base)(k:Nat):=HB B "asks_of" k ["machine"] (spD K 1 S7 .i)
def a8H(B:Bk P w K mg base):a4J B 1:=
 m5 B.d16 λ_ _ F=>fnF F ["machine"] λ_ _ _ _ _ _ _ _=>by exact e6 (j7 (b9 (E7 B.len_ (A6 (PX.newf (c7 0)) c8))))
def a2g:EvS:=(i6 (l7 3 (eC (.dict []))) (i6 (K4 (iI (iIt (b7 1))) (a5p 4 5) (i6 (l7 6 (e2 J8 (e2 dIx (b7 0) (b7 4)) (b7 2))) (i6 (a3l 3 rp rp (e2 J8 (b7 6) (eC (.int 0))) (e2 J8 (b7 6) (eC (.int 1))) (eC .none) (b7 5)) u6))) (m8 (b7 3))))
def y9:=fnD [.f,.f,.i] 5 a2g
abbrev X4(B:Bk P w K mg base)(k:Nat):=HB B "parted_by" k ["machine","begun","ask"] (spD K 3 y9 .f)
def a5E(B:Bk P w K mg base):X4 B 1:=
 m5 B.d17 λ_ _ F=>fnF F ["machine","begun","ask","found","state","start","step","part"] λsc _ _ _ _ _ _ hr=>by exact c6 (j9 3 sc.nd (b9 (N6 rp (.d rp .i)))) (c6 (b2Z (fi:=(iI (iIt (b7 1)))) rfl bN (c1F (PX.newf (c7 1))) (V8 rfl (p6 (A8 4 sc.nd) (p6 (A8 5 sc.nd) K7))) (a7L (.inr rfl)) (λU ds h d hd _=>a6n U ds h d hd) b8f (PSsX.weak (M2:=[mdF,mdF,mdI,.own (.d rp (.d rp .i)),mdI,mdI,mdI,mdD]) (c6 (j9 6 sc.nd (b9 (E5 (A6 (PX.newf (c7 0)) (e7 4)) (e7 2)))) (b3g 3 7 (kt2:=rp) (fr:=(eC .none)) (by exact hr.units) sc.nd (E5 (e7 6) c8) (E5 (e7 6) c8) (E5 (e7 6) c8) (M2:=[mdF,mdF,mdI,.own (.d rp (.d rp .i)),mdI,mdI,mdI,mdD]) (j7 (b9 (PX.itof B3))) (PX.newi (e7 5)) n8)) l0 (((l5 4).trans (l5 5)).trans (l5 6)))) (e6 (PSX.weak (j7 (b9 (PX.newf (c7 3)))) (C8 3) l0)))
def Z9:EvS:=(i6 (l7 2 (W5 g8)) (i6 (K4 (iR (eCl S7 (b8 (b7 0) g8))) (v5 3) (i6 (l7 4 (eCl y9 (b8 (b7 0) (b8 (K5 rp (b7 1) (b7 1)) (b8 (b7 3) g8))))) (N5 2 (.l .f) A7 (eIf (tB (e2 (J6 rp) (b7 4) (eC .none))) (eC .none) (n4 (iVa (b7 4)) [] pt1 tT (F5 (p0 (b7 0)))))))) (m8 (b7 2))))
def A4:=fnD [.f,.i] 3 Z9
abbrev a0a(B:Bk P w K mg base)(k:Nat):=HB B "sets_behind" k ["machine","states"] (spD K 2 A4 (.l .f))
def a3v(B:Bk P w K mg base)(kM:a4J B 1)(gg:X4 B 1):a0a B 2:=
 m5 B.d18 λ_ _ F=>fnF F ["machine","states","found","ask","parts"] λsc _ _ _ _ _ _ hr=>by exact c6 (j9 2 sc.nd (b9 (J7 (n:=0) o5))) (c6 (B5 rfl bN (C3 B.range_ (w6 kM hr (f6 (c7 0) k8))) (A8 3 sc.nd) G8 a7N (PSsX.weak (c6 (j9 4 sc.nd (b9 (by exact v4 gg hr (k7 (PX.newf (c7 0)) (k7 (PX.frz (a3k rp rfl (by exact hr.units) B.dict_ B.zip_ (PX.newi (e7 1)) (PX.newi (e7 1)))) (k7 (PX.newi (e7 3)) (A2)))) (hfl:=(i9 (i9 (i9 x8))))))) (e6 (T8 2 (L4 2) (b9 (PX.frz (b1X (m3 a5l (c7 4) B3) (PX.itol B3) (by exact L3 rfl (tn:=["part"]) (ys:=[]) (m:=.f) (b3h (PX.newf (c7 4))) rfl (λ_ _ _ _ _=>p5 (i:=0) c2a rfl (bR rfl) (.inr rfl)) G6 (.inr rfl) a4m rfl (λ_ _ _ _ _=>D8) (λ_ _ _ _ _=>(W6 B.tuple_ (M7 rfl B.sorted_ (c7 0)))))))) a0Q))) l0 ((l5 3).trans (l5 4)))) (e6 (j7 (Y2 2))))
def a1g:EvS:=(i6 (l7 1 (eC (.dict []))) (i6 (l7 2 (eC (.dict []))) (i6 (K4 (iI (iL (eCl a1G (b8 (eCl F9 (b8 (b7 0) g8)) g8)))) (v5 3) (sIf (tB (e2 dEq (eCl F9 (b8 (b7 3) g8)) (eC (.int 1)))) (I9 1 p4 (b7 3) (eC .none)) (I9 2 p4 (b7 3) (eCl A4 (b8 (b7 0) (b8 (b7 3) g8)))))) (m8 (b5v s9 [.i,.f] [2] (eCl u5 (b8 (e2 (C4 p4) (b7 2) (b7 0)) (b8 (b7 1) g8))) (b8 (b7 1) (b8 (a8s (b7 2)) g8)))))))
def J4:=fnD [.f] 3 a1g
abbrev a1h(B:Bk P w K mg base)(k:Nat):=HB B "least_asks" k ["machine"] (spD K 1 J4 .f)
def a3U(B:Bk P w K mg base)(kK:a4H B 4)(gA:O9 B 4)(iS:a0a B 4)(lx:V5 B 1)(LT:(C6 K "least_asks").isSome=p4)(KB:K.In base)(GB:base.Ns bM mg):a1h B 5:=
 b5E B.d19 λ_ _ F a=>c1I F ["machine","outset","behind","states"] LT KB GB a λsc _ _ wF wO wC A outer s H _ hr=>by exact c6 (j9 1 sc.nd (b9 (N6 p4 .i))) (c6 (j9 2 sc.nd (b9 (N6 p4 (.l .f)))) (c6 (B5 rfl bN (PIX.i (o7 (PX.frz (w6 kK hr (f6 (E7 B.len_ (c7 0)) k8))))) (A8 3 sc.nd) G8 a6n (PSsX.weak (e6 (r9 (m3 E8 (E7 B.len_ (e7 3)) c8) (e6 (a0V 1 (by exact hr.units) (e7 3) (b9 B3))) (e6 (a0V 2 (by exact hr.units) (e7 3) (b9 (by exact v4 iS hr (k7 (PX.newf (c7 0)) (k7 (PX.newi (e7 3)) (A2))) (hfl:=(i9 (i9 x8))))))))) l0 (l5 3))) (e6 (PSX.weak (b5B rfl (by exact a6M (kf:=1) (uf:=.i) (N:=["states","found","behind"]) (pl:=["states","found"]) (ys:=["behind"]) gA hr (R7 (c7 1) (R7 (b3i rfl B.list_ (c7 2)) (b5u (by decide) wO wF wC rfl))) ⟨_,_,_,rfl,rfl,rfl,rfl,rfl,rfl⟩ ⟨⟨_,rfl⟩,trivial⟩ (by exact⟨rfl,rfl,rfl,by decide +kernel,rfl,by decide +kernel,by decide +kernel,by decide +kernel,rfl⟩) rfl (λ_ _ _ us hl=>by obtain⟨_,_,rfl⟩:=VS.b5n hl;rfl) (λfa c A outer s H hr=>w6 lx hr (f6 (L6 (by exact hr.units) (PX.newf (c7 2)) (e7 0)) (f6 (c7 1) k8))) (hfl:=(R6 (R6 a5u))))) ((C8 1).trans (C8 2)) l0))))
def a5F(rc:List D->Option D):EvS:=(i6 (sIf (tB (e2 dEq (eCl b2n (b8 (b7 2) g8)) (eC (.int 1)))) (m8 (e2 J8 (a5s (b7 2)) (eC (.int 0)))) u6) (i6 (l7 3 (e2 (C4 p4) (b7 1) (F5 (p0 (b7 2))))) (i6 (l7 4 (eCl y9 (b8 (b7 0) (b8 (b7 2) (b8 (b7 3) g8))))) (i6 (l7 5 (W5 g8)) (i6 (K4 (iI (iL (p0 (b7 4)))) (v5 6) (N5 5 (.l .f) A7 (K9 (b8 (b7 6) (b8 (eCl rc (b8 (b7 0) (b8 (b7 1) (b8 (e2 (C4 rp) (b7 4) (b7 6)) g8)))) g8))))) (m8 (K9 (b8 (b7 3) (b8 (b7 5) g8)))))))))
def L7:Nat->List D->Option D
 |0=>λ_=>el
 |n+1=>fnD [.f,.f,.f] 4 (a5F (L7 n))
abbrev b5M(B:Bk P w K mg base)(k:Nat):=HB B "grown" k ["machine","asks","begun"] (spD K 3 (L7 121) .f)
def b3x(B:Bk P w K mg base)(nE:X4 B 1):∀n:Nat,Has P w K mg base "grown" (2+n) ["machine","asks","begun"] (spD K 3 (L7 n) .f):=by
 intro n
 induction n with
 |zero=>exact m5 B.d20 λ_ _ _=>a2u
 |succ n ku=>
  have gg:=nE.up (show 1<=2+n by lia);exact m5 B.d20 λ_ _ F=>fnF F ["machine","asks","begun","ask","parts","branches","answer"] λsc _ _ _ _ _ _ hr=>by exact c6 (r9 (m3 E8 (b3j B.len_ (c7 2)) c8) (e6 (j7 (b9 (PX.itof (E5 (b2u rfl B.list_ (c7 2)) c8))))) n8) (c6 (j9 3 sc.nd (b9 (L6 (kt:=p4) (by exact hr.units) (PX.newf (c7 1)) (W6 B.tuple_ (M7 rfl B.sorted_ (c7 2)))))) (c6 (j9 4 sc.nd (b9 (by exact v4 gg hr (k7 (PX.newf (c7 0)) (k7 (PX.newf (c7 2)) (k7 (PX.newf (c7 3)) (A2)))) (hfl:=(i9 (i9 (i9 x8))))))) (c6 (j9 5 sc.nd (b9 (J7 (n:=0) o5))) (c6 (B5 rfl bN (PIX.i (o7 (PX.frz (M7 rfl B.sorted_ (c7 4))))) (A8 6 sc.nd) G8 a6n (PSsX.weak (e6 (T8 5 (L4 5) (b9 (PX.frz (a2M (o6 (PX.newi (e7 6)) (o6 (by exact v4 ku hr (k7 (PX.newf (c7 0)) (k7 (PX.newf (c7 1)) (k7 (L6 (kt:=rp) (by exact hr.units) (PX.newf (c7 4)) (e7 6)) (A2)))) (hfl:=(i9 (i9 (i9 x8))))) o5))))) a0Q)) l0 (l5 6))) (e6 (PSX.weak (j7 (b9 (PX.frz (a2M (o6 (PX.newf (c7 3)) (o6 (PX.newf (c7 5)) o5)))))) (C8 5) l0))))))
def a0b:EvS:=(i6 (l7 2 (eCl J4 (b8 (b7 0) g8))) (i6 (sIf (tB (e2 (a5t p4 p4) (F5 (b7 1)) (b7 2))) (m8 (eC .none)) u6) (m8 (eCl (L7 121) (b8 (b7 0) (b8 (b7 2) (b8 (K5 p4 (b7 1) (b7 1)) g8)))))))
def A5:=fnD [.f,.f] 1 a0b
abbrev a0c(B:Bk P w K mg base)(k:Nat):=HB B "tree_of_set" k ["machine","states"] (spD K 2 A5 .f)
def a3w(B:Bk P w K mg base)(je:a1h B 123)(ku:b5M B 123):a0c B 124:=
 m5 B.d21 λ_ _ F=>fnF F ["machine","states","asks"] λsc _ _ _ _ _ _ hr=>by exact c6 (j9 2 sc.nd (b9 (by exact v4 je hr (k7 (PX.newf (c7 0)) (A2)) (hfl:=(i9 x8))))) (c6 (r9 (b5f (a1B (by exact hr.units)) (W6 B.tuple_ (c7 1)) (c7 2)) (e6 (j7 (b9 (PX.itof B3)))) n8) (e6 (j7 (b9 (by exact v4 ku hr (k7 (PX.newf (c7 0)) (k7 (PX.newf (c7 2)) (k7 (PX.frz (a3k p4 rfl (by exact hr.units) B.dict_ B.zip_ (PX.newf (c7 1)) (PX.newf (c7 1)))) (A2)))) (hfl:=(i9 (i9 (i9 x8)))))))))
def a4K:EvS:=(i6 (sEx (eCl A9 (b8 (b7 0) g8))) (i6 (sEx (eCl U7 (b8 (b7 0) (b8 (b7 1) g8)))) (m8 (eCl A5 (b8 (b7 0) (b8 (b7 1) g8))))))
def K2:=fnD [.f,.f] 0 a4K
abbrev a4L(B:Bk P w K mg base)(k:Nat):=HB B "tree_of" k ["machine","states"] (spD K 2 K2 .f)
def a8I(B:Bk P w K mg base)(gz:O8 B 124)(ka:a3u B 124)(iQ:a0c B 124):a4L B 125:=
 m5 B.d22 λ_ _ F=>fnF F ["machine","states"] λ_ _ _ _ _ _ _ hr=>by exact c6 (a9a (w6 gz hr (f6 (c7 0) k8))) (c6 (a9a (w6 ka hr (f6 (c7 0) (f6 (c7 1) k8)))) (e6 (j7 (b9 (by exact v4 iQ hr (k7 (PX.newf (c7 0)) (k7 (PX.newf (c7 1)) (A2))) (hfl:=(i9 (i9 x8))))))))
def b_law_led:EvS:=(i6 (l7 3 (eC (.dict []))) (i6 (K4 (iI (iT (b7 1))) (v5 4) (i6 (a4n 5 6 (e2 J8 (e2 dIx (b7 0) (b7 4)) (b7 2))) (i6 (sIf (tB (e2 (dIn p4 rp) (b7 5) (b7 3))) (I9 3 rp (b7 5) (eC (.dict []))) u6) (i6 (sIf (tB (e2 (dIn rp rp) (b7 6) (e2 (b2m rp) (b7 3) (b7 5)))) (m8 (eC .none)) u6) (a5y 3 rp rp (b7 5) (b7 6) (b7 4)))))) (m8 (b7 3))))
def m_law_led:=fnD [.f,.i,.i] 4 b_law_led
abbrev a4M(B:Bk P w K mg base)(k:Nat):=HB B "_law_led" k ["_law_table","_law_one","_law_ask"] (spD K 3 m_law_led .f)
def ok_law_led(B:Bk P w K mg base):a4M B 1:=
 m5 B.d23 λ_ _ F=>fnF F ["_law_table","_law_one","_law_ask","_law_came","_law_s","_law_answer_here","_law_to"] λsc _ _ _ _ _ _ hr=>by exact c6 (j9 3 sc.nd (b9 (N6 rp (.d rp .i)))) (c6 (B5 rfl bN (PIX.i (b4P (PX.newi (e7 1)))) (A8 4 sc.nd) G8 a6n (PSsX.weak (c6 (b4Q 5 6 (u1:=.i) (u2:=.i) sc.nd rfl (b9 (E5 (A6 (PX.newf (c7 0)) (e7 4)) (e7 2))) (.inr (.inl ⟨rfl,rfl,rfl⟩)) (hg1:=p6 (A8 5 sc.nd) (p6 (A8 6 sc.nd) K7))) (c6 (r9 (b2o (a1B (by exact hr.units)) (e7 5) (T6 3)) (e6 (a0V 3 (by exact hr.units) (e7 5) (b9 (N6 rp .i)))) n8) (c6 (r9 (b2o (a7V (by exact hr.units)) (e7 6) (b8c (by exact hr.units) (T6 3) (e7 5))) (e6 (j7 (b9 (PX.itof B3)))) n8) (e6 (b3k 3 (kt2:=rp) (by exact hr.units) (e7 5) (PX.newi (e7 6)) (PX.newi (e7 4))))))) l0 (((l5 4).trans (l5 5)).trans (l5 6)))) (e6 (PSX.weak (j7 (b9 (PX.newf (c7 3)))) (C8 3) l0)))
def b_law_deep(rc:List D->Option D):EvS:=(i6 (sIf (tNo (tV (e1 (λd=>cz (.bool (A0 d))) (b7 0)))) (m8 (eC (.int 0))) u6) (m8 (e2 w8 (eC (.int 1)) (eCl b2r (b8 (n4 (iL (e2 dIx (b7 0) (eC (.int 1)))) [] pt2 tT (eCl rc (b8 (b7 1) g8))) g8)))))
def m_law_deep:Nat->List D->Option D
 |0=>λ_=>el
 |n+1=>fnD [.f] 0 (b_law_deep (m_law_deep n))
abbrev a0t(B:Bk P w K mg base)(k:Nat):=HB B "_law_deep" k ["_law_found"] (spD K 1 (m_law_deep 121) .i)
def ok_law_deep(B:Bk P w K mg base):∀n:Nat,Has P w K mg base "_law_deep" (n+1) ["_law_found"] (spD K 1 (m_law_deep n) .i):=by
 intro n
 induction n with
 |zero=>exact m5 B.d24 λ_ _ _=>a2u
 |succ n eu=>exact m5 B.d24 λ_ _ F=>fnF F ["_law_found"] λ_ _ _ _ _ _ _ hr=>by exact c6 (r9 (C2 (z8 (K6 M6 B.isinstance_ B.tuple_ PyProof.Rows.Boot.«tuple» (c7 0)))) (e6 (j7 (b9 c8))) n8) (e6 (j7 (b9 (j6 w9 c8 (a0o (b5c rfl) B.max_ PyProof.Rows.Boot.«max» (f6 (L3 rfl (tn:=["_law_answer_here","_law_rest"]) (ys:=[]) (o7 (A6 (PX.newf (c7 0)) c8)) rfl (λ_ _ _ _ _=>V8 rfl (p6 (p5 (i:=0) c0D rfl (bR rfl) (.inr rfl)) (p6 (p5 (i:=1) c0D rfl (bR rfl) (.inr rfl)) K7))) a2q (.inr rfl) a4m rfl (λ_ _ _ _ _=>D8) (λ_ _ _ _ _=>(w6 eu hr (f6 (c7 1) k8)))) k8))))))
def b_law_far:EvS:=(i6 (sIf (tB (e2 (J6 rp) (b7 1) (eC .none))) (m8 (eC .none)) u6) (i6 (l7 2 (eC (.int 0))) (i6 (K4 (iI (iDk (b7 1))) (v5 3) (i6 (l7 4 (e2 (C4 p4) (b7 0) (F5 (p0 (e2 (C4 rp) (b7 1) (b7 3)))))) (i6 (sIf (tB (e2 (J6 rp) (b7 4) (eC .none))) (m8 (eC .none)) u6) (l7 2 (eCl (a0M p4) (b8 (b7 2) (b8 (e2 w8 (eC (.int 1)) (eCl (m_law_deep 121) (b8 (b7 4) g8))) g8))))))) (m8 (b7 2)))))
def m_law_far:=fnD [.f,.f] 3 b_law_far
abbrev a4N(B:Bk P w K mg base)(k:Nat):=HB B "_law_far" k ["_law_told","_law_came"] (spD K 2 m_law_far .i)
def ok_law_far(B:Bk P w K mg base)(eu:a0t B 122):a4N B 123:=
 m5 B.d25 λ_ _ F=>fnF F ["_law_told","_law_came","_law_far_here","_law_answer_here","_law_rest"] λsc _ _ _ _ _ _ hr=>by exact c6 (r9 (m3 a5l (c7 1) B3) (e6 (j7 (b9 B3))) n8) (c6 (j9 2 sc.nd (b9 c8)) (c6 (B5 rfl bN (PIX.i (a6z (PX.newf (c7 1)))) (A8 3 sc.nd) G8 a6n (PSsX.weak (c6 (j9 4 sc.nd (b9 (L6 (by exact hr.units) (PX.newf (c7 0)) (W6 B.tuple_ (M7 rfl B.sorted_ (L6 (by exact hr.units) (PX.newf (c7 1)) (e7 3))))))) (c6 (r9 (m3 a5l (c7 4) B3) (e6 (j7 (b9 B3))) n8) (e6 (j9 2 sc.nd (b9 (a0o (b7x rfl) B.max_ PyProof.Rows.Boot.«max» (f6 (e7 2) (f6 (j6 w9 c8 (w6 eu hr (f6 (c7 4) k8))) k8)))))))) l0 ((l5 3).trans (l5 4)))) (e6 (j7 (b9 (PX.newi (e7 2)))))))
def b_law_whole:EvS:=(m8 (a3Q (e1 (λd=>cz (.bool (isInt d))) (b7 0)) (b1V (e1 (λd=>cz (.bool (isBool d))) (b7 0)))))
def m_law_whole:=fnD [.f] 0 b_law_whole
abbrev X5(B:Bk P w K mg base)(k:Nat):=HB B "_law_whole" k ["_law_found"] (spD K 1 m_law_whole .i)
def ok_law_whole(B:Bk P w K mg base):X5 B 1:=
 m5 B.d26 λ_ _ F=>fnF F ["_law_found"] λ_ _ _ _ _ _ _ _=>by exact e6 (j7 (b9 (a0n (K6 a8X B.isinstance_ B.int_ PyProof.Rows.Boot.«int» (c7 0)) (a1u (b1W (K6 a6f B.isinstance_ B.bool_ PyProof.Rows.Boot.«bool» (c7 0)))))))
def b_law_renamed(rc:List D->Option D):EvS:=(i6 (sIf (tNo (tV (e1 (λd=>cz (.bool (A0 d))) (b7 0)))) (m8 (e2 (a9f rp) (b7 1) (b7 0))) u6) (m8 (K9 (b8 (e2 dIx (b7 0) (eC (.int 0))) (b8 (n4 (iL (e2 dIx (b7 0) (eC (.int 1)))) [1] pt2 tT (K9 (b8 (b7 0) (b8 (eCl rc (b8 (b7 1) (b8 (b7 2) g8))) g8)))) g8)))))
def m_law_renamed:Nat->List D->Option D
 |0=>λ_=>el
 |n+1=>fnD [.f,.f] 0 (b_law_renamed (m_law_renamed n))
abbrev a3V(B:Bk P w K mg base)(k:Nat):=HB B "_law_renamed" k ["_law_found","_law_names"] (spD K 2 (m_law_renamed 121) .f)
def ok_law_renamed(B:Bk P w K mg base):∀n:Nat,Has P w K mg base "_law_renamed" (n+1) ["_law_found","_law_names"] (spD K 2 (m_law_renamed n) .f):=by
 intro n
 induction n with
 |zero=>exact m5 B.d27 λ_ _ _=>a2u
 |succ n fX=>exact m5 B.d27 λ_ _ F=>fnF F ["_law_found","_law_names"] λ_ _ _ _ _ _ _ hr=>by exact c6 (r9 (C2 (z8 (K6 M6 B.isinstance_ B.tuple_ PyProof.Rows.Boot.«tuple» (c7 0)))) (e6 (j7 (b9 (b5i (by exact hr.units) (PX.newf (c7 1)) (c7 0))))) n8) (e6 (j7 (b9 (PX.frz (a2M (o6 (A6 (PX.newf (c7 0)) c8) (o6 (L3 rfl (tn:=["_law_answer_here","_law_rest"]) (ys:=["_law_names"]) (o7 (A6 (PX.newf (c7 0)) c8)) rfl (λ_ _ _ _ _=>V8 rfl (p6 (p5 (i:=0) c0E rfl (bR rfl) (.inr rfl)) (p6 (p5 (i:=1) c0E rfl (bR rfl) (.inr rfl)) K7))) a2q (.inr rfl) a4m rfl (λ_ _ _ _ _=>D8) (λ_ _ _ _ _=>(a2M (o6 (PX.newf (c7 0)) (o6 (by exact v4 fX hr (k7 (PX.newf (c7 1)) (k7 (PX.newf (c7 2)) (A2))) (hfl:=(i9 (i9 x8)))) o5))))) o5)))))))
def b_law_right:EvS:=(i6 (l7 3 (e2 (C4 p4) (b7 1) (b7 2))) (i6 (sIf (tB (e2 dEq (eCl F9 (b8 (b7 2) g8)) (eC (.int 1)))) (m8 (a3Q (eCl m_law_whole (b8 (b7 3) g8)) (e2 dEq (b7 3) (e2 J8 (b7 2) (eC (.int 0)))))) u6) (i6 (l7 4 (n4 (iR (eCl F9 (b8 (e2 dIx (b7 0) (eC (.int 0))) g8))) [0,1,2] pt1 tT (eCl m_law_far (b8 (b7 2) (b8 (eCl m_law_led (b8 (b7 1) (b8 (b7 3) (b8 (b7 0) g8)))) g8))))) (i6 (l7 5 (n4 (iI (iL (b7 4))) [] pt1 (tB (e2 (J6 p4) (b7 0) (eC .none))) (b7 0))) (i6 (sIf (tB (e2 dEq (b7 5) (W5 g8))) (m8 (e2 (J6 rp) (b7 3) (eC .none))) u6) (i6 (sIf (a0m (tNo (tV (e1 (λd=>cz (.bool (A0 d))) (b7 3)))) (a0m (tB (e2 dNe (eCl (m_law_deep 121) (b8 (b7 3) g8)) (eCl a6O (b8 (b7 5) g8)))) (tB (e2 dNe (e2 dIx (b7 3) (eC (.int 0))) (e2 a8t (b7 4) (eCl a6O (b8 (b7 5) g8))))))) (m8 (eC (.bool rp))) u6) (i6 (l7 6 (eCl m_law_led (b8 (b7 0) (b8 (b7 2) (b8 (e2 dIx (b7 3) (eC (.int 0))) g8))))) (i6 (l7 7 (n4 (iI (iL (p0 (b7 6)))) [6] pt1 tT (K9 (b8 (b7 0) (b8 (F5 (p0 (e2 (C4 rp) (b7 1) (b7 0)))) g8))))) (m8 (e2 dEq (e2 dIx (b7 3) (eC (.int 1))) (n4 (iI (iL (b7 7))) [1,6] pt2 tT (K9 (b8 (b7 0) (b8 (eCl (m_law_renamed 121) (b8 (e2 (C4 p4) (b7 2) (b7 1)) (b8 (e2 (C4 rp) (b7 3) (b7 0)) g8))) g8))))))))))))))
def m_law_right:=fnD [.f,.f,.i] 5 b_law_right
abbrev a2h(B:Bk P w K mg base)(k:Nat):=HB B "_law_right" k ["_law_table","_law_told","_law_one"] (spD K 3 m_law_right .i)
def ok_law_right(B:Bk P w K mg base)(jM:a4M B 123)(eu:a0t B 123)(kL:a4N B 123)(fx:X5 B 123)(fX:a3V B 123):a2h B 124:=
 m5 B.d28 λ_ _ F=>fnF F ["_law_table","_law_told","_law_one","_law_found","_law_fars","_law_known","_law_came","_law_due"] λsc _ _ _ _ _ _ hr=>by exact c6 (j9 3 sc.nd (b9 (L6 (kt:=p4) (by exact hr.units) (PX.newf (c7 1)) (e7 2)))) (c6 (r9 (m3 E8 (E7 B.len_ (e7 2)) c8) (e6 (j7 (b9 (a0n (w6 fx hr (f6 (c7 3) k8)) (a1u (a5n E8 (c7 3) (E5 (e7 2) c8))))))) n8) (c6 (K0 4 sc.nd rfl (tn:=["_law_a"]) (ys:=["_law_table","_law_told","_law_one"]) (C3 B.range_ (E7 B.len_ (A6 (PX.newf (c7 0)) c8))) rfl (λ_ _ _ _ _=>p5 (i:=0) c0F rfl (bR rfl) (.inr rfl)) G6 (.inl rfl) b2d rfl (λ_ _ _ _ _=>D8) (λ_ _ _ _ _=>(w6 kL hr (f6 (c7 2) (f6 (by exact v4 (u:=.f) jM hr (k7 (PX.newf (c7 1)) (k7 (PX.newi (e7 3)) (k7 (PX.newi (e7 0)) (A2)))) (hfl:=(i9 (i9 (i9 x8))))) k8))))) (c6 (PSX.weak (K0 5 sc.nd rfl (tn:=["_law_far_here"]) (ys:=[]) (PIX.i (o7 (PX.newf (c7 4)))) rfl (λ_ _ _ _ _=>p5 (i:=0) c0G rfl (bR rfl) (.inr rfl)) G6 (.inl rfl) a2O rfl (λ_ _ _ _ _=>a7K (m3 a0G (e7 0) B3)) (λ_ _ _ _ _=>(PX.newi (e7 0)))) (C8 4) l0) (c6 (r9 (m3 E8 (F7 5) (J7 (n:=0) (u:=.i) o5)) (e6 (j7 (b9 (a5n a5l (c7 3) B3)))) n8) (c6 (r9 (PWX.pt (W4 (C2 (z8 (K6 M6 B.isinstance_ B.tuple_ PyProof.Rows.Boot.«tuple» (c7 3)))) (W4 (m3 a1D (w6 eu hr (f6 (c7 3) k8)) (a0o (a9x rfl) B.min_ PyProof.Rows.Boot.«min» (f6 (F7 5) k8))) (a0K (m3 a1D (A6 (PX.newf (c7 3)) c8) (b3m (by exact hr.units) (c7 4) (a0o (a9x rfl) B.min_ PyProof.Rows.Boot.«min» (f6 (F7 5) k8)))))))) (e6 (j7 (b9 Z6))) n8) (c6 (j9 6 sc.nd (b9 (by exact v4 (u:=.f) jM hr (k7 (PX.newf (c7 0)) (k7 (PX.newi (e7 2)) (k7 (A6 (PX.newf (c7 3)) c8) (A2)))) (hfl:=(i9 (i9 (i9 x8))))))) (c6 (K0 7 sc.nd rfl (tn:=["_law_answer_here"]) (ys:=["_law_came"]) (PIX.i (o7 (PX.frz (M7 rfl B.sorted_ (c7 6))))) rfl (λ_ _ _ _ _=>p5 (i:=0) c0H rfl (bR rfl) (.inr rfl)) G6 (.inl rfl) a2O rfl (λ_ _ _ _ _=>D8) (λ_ _ _ _ _=>(Y1 (n:=2) (o6 (u:=.i) (PX.newi (e7 0)) (o6 (u:=.i) (W6 B.tuple_ (M7 rfl B.sorted_ (L6 (kt:=rp) (by exact hr.units) (PX.newf (c7 1)) (e7 0)))) o5))))) (e6 (PSX.weak (j7 (b9 (a5n E8 (A6 (PX.newf (c7 3)) c8) (L3 rfl (tn:=["_law_answer_here","_law_to"]) (ys:=["_law_told","_law_came"]) (m:=.i) (PIX.i (o7 (PX.newf (c7 7)))) rfl (λ_ _ _ _ _=>V8 rfl (p6 (p5 (i:=0) b6A rfl (bR rfl) (.inr rfl)) (p6 (p5 (i:=1) b6A rfl (bR rfl) (.inr rfl)) K7))) a2q (.inl rfl) b9z rfl (λ_ _ _ _ _=>D8) (λ_ _ _ _ _=>(a2M (o6 (u:=.i) (PX.newi (e7 0)) (o6 (u:=.f) (by exact v4 (u:=.f) fX hr (k7 (L6 (kt:=p4) (by exact hr.units) (PX.newf (c7 2)) (e7 1)) (k7 (L6 (kt:=rp) (by exact hr.units) (PX.newf (c7 3)) (e7 0)) (A2))) (hfl:=(i9 (i9 x8)))) o5)))))))) (C8 7) l0)))))))))
def a0d:EvS:=(i6 (l7 1 (W5 g8)) (i6 (K4 (iL (b7 0)) (v5 2) (sIf (tAn (tV (e1 (λd=>cz (.bool (A0 d))) (b7 2))) (tB (e2 (b2z p4) (b7 2) (b7 1)))) (N5 1 (.l .f) A7 (b7 2)) u6)) (m8 (b7 1))))
def x9:=fnD [.f] 2 a0d
abbrev a0e(B:Bk P w K mg base)(k:Nat):=HB B "inner_among" k ["trees"] (spD K 1 x9 .f)
def a3x(B:Bk P w K mg base):a0e B 1:=
 m5 B.d29 λ_ _ F=>fnF F ["trees","found","one"] λsc _ _ _ _ _ _ hr=>by exact c6 (j9 1 sc.nd (b9 (J7 (n:=0) o5))) (c6 (B5 rfl bN (o7 (PX.newf (c7 0))) (A8 2 sc.nd) b2e (λ_ _ _ _ _=>trivial) (PSsX.weak (e6 (r9 (PWX.pt (a2p (z8 (K6 M6 B.isinstance_ B.tuple_ PyProof.Rows.Boot.«tuple» (c7 2))) (a0J (m3 (b0F (by exact hr.units)) (c7 2) (T6 1))))) (e6 (T8 1 (L4 1) (b9 (PX.newf (c7 2))) a0Q)) n8)) l0 (l5 2))) (e6 (PSX.weak (j7 (b9 (PX.newf (c7 1)))) (C8 1) l0)))
def a0f:EvS:=(i6 (l7 1 (W5 g8)) (i6 (K4 (iL (b7 0)) (a5p 2 3) (a9g 1 (n4 (iL (b7 3)) [] pt2 tT (b7 1)))) (m8 (b7 1))))
def D3:=fnD [.f] 3 a0f
abbrev a0g(B:Bk P w K mg base)(k:Nat):=HB B "branches_of" k ["trees"] (spD K 1 D3 .f)
def a3y(B:Bk P w K mg base):a0g B 1:=
 m5 B.d30 λ_ _ F=>fnF F ["trees","found","ask","branches"] λsc _ _ _ _ _ _ _=>by exact c6 (j9 1 sc.nd (b9 (J7 (n:=0) o5))) (c6 (B5 rfl bN (o7 (PX.newf (c7 0))) (V8 rfl (p6 (A8 2 sc.nd) (p6 (A8 3 sc.nd) K7))) (a7L (w:=.f) (.inl rfl)) (λ_ _ _ _ _ e=>nomatch e) (PSsX.weak (e6 (b5l 1 (L3 rfl (tn:=["answer","branch"]) (ys:=[]) (m:=.f) (o7 (PX.newf (c7 3))) rfl (λ_ _ _ _ _=>V8 rfl (p6 (p5 (i:=0) b6B rfl (bR rfl) (.inr rfl)) (p6 (p5 (i:=1) b6B rfl (bR rfl) (.inr rfl)) K7))) a2q (.inr rfl) a4m rfl (λ_ _ _ _ _=>D8) (λ_ _ _ _ _=>(PX.newf (c7 1)))))) l0 ((l5 2).trans (l5 3)))) (e6 (PSX.weak (j7 (b9 (PX.newf (c7 1)))) (C8 1) l0)))
def a9z:EvS:=(i6 (l7 1 (eC (.int 0))) (i6 (l7 2 (eCl x9 (b8 (W5 (b8 (b7 0) g8)) g8))) (i6 (sWh (λ_=>1000000) (tV (b7 2)) (i6 (b5b 1 (eC (.int 1))) (l7 2 (eCl x9 (b8 (eCl D3 (b8 (b7 2) g8)) g8))))) (m8 (b7 1)))))
def U8:=fnD [.f] 2 a9z
abbrev a9A(B:Bk P w K mg base)(k:Nat):=HB B "depth" k ["found"] (spD K 1 U8 .i)
def b3y(B:Bk P w K mg base)(gS:a0e B 1)(iW:a0g B 1):a9A B 2:=
 m5 B.d31 λ_ _ F=>fnF F ["found","many","inner"] λsc _ _ _ _ _ _ hr=>by exact c6 (j9 1 sc.nd (b9 c8)) (c6 (j9 2 sc.nd (b9 (by exact v4 gS hr (k7 (PX.frz (J7 (n:=1) (o6 (PX.newf (c7 0)) o5))) (A2)) (hfl:=(i9 x8))))) (c6 (a6m (M:=[mdF,mdI,mdF]) (λ_=>1000000) bN (z8 (c7 2)) (c6 (b8e 1 sc.nd c8) (e6 (j9 2 sc.nd (b9 (by exact v4 gS hr (k7 (by exact v4 iW hr (k7 (PX.newf (c7 2)) (A2)) (hfl:=(i9 x8))) (A2)) (hfl:=(i9 x8)))))))) (e6 (j7 (b9 (PX.newi (e7 1)))))))
def b_law_is_tree(rc:List D->Option D):EvS:=(i6 (sIf (tNo (tV (e1 (λd=>cz (.bool (A0 d))) (b7 0)))) (m8 (eCl m_law_whole (b8 (b7 0) g8))) u6) (i6 (sIf (a0m (tB (e2 dNe (eCl F9 (b8 (b7 0) g8)) (eC (.int 2)))) (a0m (tNo (tV (eCl m_law_whole (b8 (e2 dIx (b7 0) (eC (.int 0))) g8)))) (tNo (tB (eCh dLe dLt (eC (.int 0)) (e2 dIx (b7 0) (eC (.int 0))) (b7 1)))))) (m8 (eC (.bool rp))) u6) (i6 (sIf (a0m (tNo (tV (e1 (λd=>cz (.bool (isList d))) (e2 dIx (b7 0) (eC (.int 1)))))) (tB (e2 dEq (e2 dIx (b7 0) (eC (.int 1))) (W5 g8)))) (m8 (eC (.bool rp))) u6) (i6 (K4 (iL (e2 dIx (b7 0) (eC (.int 1)))) (v5 2) (i6 (sIf (a0m (tNo (tV (e1 (λd=>cz (.bool (A0 d))) (b7 2)))) (a0m (tB (e2 dNe (eCl F9 (b8 (b7 2) g8)) (eC (.int 2)))) (tNo (tV (eCl m_law_whole (b8 (e2 dIx (b7 2) (eC (.int 0))) g8)))))) (m8 (eC (.bool rp))) u6) (sIf (tNo (tV (eCl rc (b8 (e2 dIx (b7 2) (eC (.int 1))) (b8 (b7 1) g8))))) (m8 (eC (.bool rp))) u6))) (m8 (eC (.bool p4)))))))
def m_law_is_tree:Nat->List D->Option D
 |0=>λ_=>el
 |n+1=>fnD [.f,.i] 1 (b_law_is_tree (m_law_is_tree n))
abbrev a3W(B:Bk P w K mg base)(k:Nat):=HB B "_law_is_tree" k ["_law_found","_law_asks"] (spD K 2 (m_law_is_tree 121) .i)
def ok_law_is_tree(B:Bk P w K mg base)(nF:X5 B 1):∀n:Nat,Has P w K mg base "_law_is_tree" (2+n) ["_law_found","_law_asks"] (spD K 2 (m_law_is_tree n) .i):=by
 intro n
 induction n with
 |zero=>exact m5 B.d32 λ_ _ _=>a2u
 |succ n fY=>
  have fx:=nF.up (show 1<=2+n by lia);exact m5 B.d32 λ_ _ F=>fnF F ["_law_found","_law_asks","_law_pair"] λsc _ _ _ _ _ _ hr=>by exact c6 (r9 (C2 (z8 (K6 M6 B.isinstance_ B.tuple_ PyProof.Rows.Boot.«tuple» (c7 0)))) (e6 (j7 (b9 (w6 fx hr (f6 (c7 0) k8))))) n8) (c6 (r9 (PWX.pt (W4 (m3 a1D (E7 B.len_ (c7 0)) c8) (W4 (C2 (z8 (w6 fx hr (f6 (A6 (PX.newf (c7 0)) c8) k8)))) (a0K (C2 (a9Z a8U a6b c8 (A6 (PX.newf (c7 0)) c8) (e7 1))))))) (e6 (j7 (b9 Z6))) n8) (c6 (r9 (PWX.pt (W4 (C2 (z8 (K6 a6g B.isinstance_ B.list_ PyProof.Rows.Boot.«list» (A6 (PX.newf (c7 0)) c8)))) (a0K (m3 E8 (A6 (PX.newf (c7 0)) c8) (J7 (n:=0) (u:=.i) o5))))) (e6 (j7 (b9 Z6))) n8) (c6 (B5 rfl bN (o7 (A6 (PX.newf (c7 0)) c8)) (A8 2 sc.nd) b2e (λ_ _ _ _ _=>trivial) (PSsX.weak (c6 (r9 (PWX.pt (W4 (C2 (z8 (K6 M6 B.isinstance_ B.tuple_ PyProof.Rows.Boot.«tuple» (c7 2)))) (W4 (m3 a1D (E7 B.len_ (c7 2)) c8) (a0K (C2 (z8 (w6 fx hr (f6 (A6 (PX.newf (c7 2)) c8) k8)))))))) (e6 (j7 (b9 Z6))) n8) (e6 (r9 (C2 (z8 (w6 fY hr (f6 (A6 (PX.newf (c7 2)) c8) (f6 (e7 1) k8))))) (e6 (j7 (b9 Z6))) n8))) l0 (l5 2))) (e6 (j7 (b9 Z6))))))
def b_law:EvS:=(i6 (l7 1 (eCl m_law_machine (b8 (b7 0) (b8 (eC (.int 4)) (b8 (eC (.int 5)) g8))))) (i6 (l7 2 (n4 (iL (b7 1)) [] pt1 tT (eI (a0O (b7 0))))) (i6 (l7 3 (eC (.dict []))) (i6 (K4 (iI (iL (eCl m_law_sets (b8 (eCl F9 (b8 (b7 1) g8)) g8)))) (v5 4) (i6 (l7 5 (eCl K2 (b8 (b7 2) (b8 (eI (a0O (b7 4))) g8)))) (i6 (sIf (a0m (tB (e2 dNe (b7 2) (b7 1))) (tAn (tB (e2 (J6 p4) (b7 5) (eC .none))) (tNo (tV (eCl (m_law_is_tree 121) (b8 (b7 5) (b8 (eCl F9 (b8 (e2 dIx (b7 1) (eC (.int 0))) g8)) g8))))))) (m8 (eC (.bool rp))) u6) (i6 (sIf (tAn (tB (e2 (J6 p4) (b7 5) (eC .none))) (tB (e2 dNe (eCl U8 (b8 (b7 5) g8)) (eCl (m_law_deep 121) (b8 (b7 5) g8))))) (m8 (eC (.bool rp))) u6) (I9 3 p4 (b7 4) (b7 5)))))) (i6 (K4 (iI (iDk (b7 3))) (v5 4) (sIf (tNo (tV (eCl m_law_right (b8 (b7 1) (b8 (b7 3) (b8 (b7 4) g8)))))) (m8 (eC (.bool rp))) u6)) (m8 (eC (.bool p4))))))))
def m_law:=fnD [.f] 5 b_law
def ok_law(B:Bk P w K mg base)(iU:Z8 B 125)(kc:a3o B 125)(kJ:a4L B 125)(eu:a0t B 125)(jE:a2h B 125)(mS:a9A B 125)(fY:a3W B 125)(F:Fun K "law" "law" (top 44) f fd):FnOk P w K mg base CX0 126 f fd ["_law_script"] (spD K 1 m_law .i):=
 fnF F ["_law_script","_law_table","_law_handed","_law_told","_law_one","_law_found"] λsc _ _ _ _ _ _ hr=>by exact c6 (j9 1 sc.nd (b9 (w6 iU hr (f6 (c7 0) (f6 c8 (f6 c8 k8)))))) (c6 (PSX.weak (K0 2 sc.nd rfl (tn:=["_law_row"]) (ys:=[]) (o7 (PX.newf (c7 1))) rfl (λ_ _ _ _ _=>p5 (i:=0) c0I rfl (bR rfl) (.inr rfl)) G6 (.inr rfl) a4m rfl (λ_ _ _ _ _=>D8) (λ_ _ _ _ _=>(MkL.i (a8Z B.list_ (PX.newf (c7 0)))))) (C8 1) l0) (c6 (PSX.weak (j9 3 sc.nd (b9 (N6 p4 .f))) (C8 2) l0) (c6 (B5 rfl bN (PIX.i (o7 (PX.frz (w6 kc hr (f6 (E7 B.len_ (c7 1)) k8))))) (A8 4 sc.nd) G8 a6n (PSsX.weak (c6 (j9 5 sc.nd (b9 (by exact v4 kJ hr (k7 (PX.newf (c7 2)) (k7 (PX.frz (MkL.i (a8Z B.list_ (PX.newi (e7 4))))) (A2))) (hfl:=(i9 (i9 x8)))))) (c6 (r9 (PWX.pt (W4 (m3 a1D (c7 2) (c7 1)) (a0K (PWX.pt (a2p (m3 a0G (c7 5) B3) (a0J (C2 (z8 (w6 fY hr (f6 (c7 5) (f6 (E7 B.len_ (A6 (PX.newf (c7 1)) c8)) k8))))))))))) (e6 (j7 (b9 Z6))) n8) (c6 (r9 (PWX.pt (a2p (m3 a0G (c7 5) B3) (a0J (m3 a1D (w6 mS hr (f6 (c7 5) k8)) (w6 eu hr (f6 (c7 5) k8)))))) (e6 (j7 (b9 Z6))) n8) (e6 (a0V 3 (by exact hr.units) (e7 4) (b9 (PX.newf (c7 5)))))))) l0 ((l5 4).trans (l5 5)))) (c6 (PSX.weak (B5 rfl bN (PIX.i (a6z (PX.newf (c7 3)))) (A8 4 sc.nd) G8 a6n (PSsX.weak (e6 (r9 (C2 (z8 (w6 jE hr (f6 (c7 1) (f6 (c7 3) (f6 (e7 4) k8)))))) (e6 (j7 (b9 Z6))) n8)) l0 (l5 4))) (C8 3) l0) (e6 (j7 (b9 Z6)))))))
end Prog
namespace VS
open PySem L2
abbrev Ky:=List (Int×Int)
def snoc_ind{P:List α->Prop}(h0:P [])(h1:∀l x,P l->P (l++[x]))(l:List α):P l:=by
 have h:∀r:List α,P r.reverse:=by
  intro r
  induction r with
  |nil=>exact h0
  |cons x r ih=>rw[nN];exact h1 _ _ ih
 have:=h l.reverse
 rwa[List.reverse_reverse]at this
def c2b(seen:List Ky)(x:Ky):List Ky:=if x∈seen then seen else seen++[x]
def ded(ks:List Ky):List Ky:=ks.foldl c2b []
def c2c(ks:List Ky):List Int:=ks.map λx=>(((ded ks).idxOf x:Nat):Int)
def rn(r:Ky)(ls:List Int):Ky:=r.map λp=>(p.1,ls.getD p.2.toNat 0)
def lvl(m:l8):Nat->List Int
 |0=>m.map λ_=>0
 |d+1=>c2c (m.map λr=>rn r (lvl m d))
def kf(m:l8):Nat->Ky->Ky
 |0,_=>[]
 |d+1,r=>rn r (lvl m d)
def cls(m:l8)(d:Nat):Nat:=(ded (m.map (kf m d))).length
def lv(m:l8)(d:Nat)(s:Int):Int:=(lvl m d).getD s.toNat 0
def fp:Ky->Ky->Nat
 |x::xs,y::ys=>if x=y then fp xs ys+1 else 0
 |_,_=>0
def fa(m:l8)(d:Nat)(s t:Int):Int:=(fp (rn (rowAt m s) (lvl m d)) (rn (rowAt m t) (lvl m d)):Nat)
theorem a9B{I:Nat->List D->Prop}{Q:List D->Prop}(B:Nat)(step:∀j U,I j U->j<=B/\((c U=cz rp/\Q U)\/(c U=cz p4/\∃U',g U=cz (.nx U')/\I (j+1) U'))):∀n j U,I j U->B<n+j->∃U',whL c g n U=cz (.nx U')/\Q U'
 |0,j,U,h,hn=>absurd (step j U h).1 (by lia)
 |n+1,j,U,h,hn=>by
  rcases (step j U h).2 with⟨e,q⟩|⟨e,U',e2,h2⟩
  ·refine⟨U,?_,q⟩;show (c U).bind _=_;rw[e];rfl
  ·obtain⟨U2,e3,q⟩:=a9B B step n (j+1) U' h2 (by lia);refine⟨U2,?_,q⟩;show (c U).bind _=_;rw[e];show (g U).bind _=_;rw[e2];exact e3
def c0J:sWh (λ_=>n) c g U=whL c g n U:=rfl
def c2d(x:Ky):D:=.tuple (x.map stD)
def dz:List Ky->Nat->List (D×D)
 |[],_=>[]
 |x::xs,i=>(c2d x,.int i)::dz xs (i+1)
theorem a1I:∀(r:List Int) (i:Int),R1 i r∈i::r/\∀x∈i::r,x<=R1 i r
 |[],i=>⟨by simp[R1],λx hx=>by simp at hx;rw[hx];exact oK _⟩
 |y::r,i=>by
  have e:R1 i (y::r)=R1 (if y>i then y else i) r:=rfl;rw[e];by_cases c:y>i
  ·rw[aG c];obtain⟨h1,h2⟩:=a1I r y;refine⟨ai _ h1,λx hx=>?_⟩;rcases az.mp hx with z|z
   ·have:=h2 y (by simp);lia
   ·exact h2 x z
  ·rw[aL c];obtain⟨h1,h2⟩:=a1I r i;refine⟨?_,λx hx=>?_⟩
   ·rcases az.mp h1 with z|z
    ·rw[z];simp
    ·exact ai _ (ai _ z)
   ·rcases az.mp hx with z|z
    ·rw[z];exact h2 i (by simp)
    ·rcases az.mp z with y'|y'
     ·have:=h2 i (by simp);lia
     ·exact h2 x (ai _ y')
def b8L{ns:List Int}(h1:n∈ns)(h2:∀x∈ns,x<=n):b2r [.list (ns.map .int)]=cz (.int n):=by
 show (intsOf (ns.map aF)).bind _=_;rw[N7];cases ns with
 |nil=>cases h1
 |cons i r=>
  obtain⟨g1,g2⟩:=a1I r i;have a:=h2 _ g1;have b:=g2 _ h1;show cz (aF (R1 i r))=_;rw[show R1 i r=n by lia]
theorem a1J(p:α->Bool)(f:α->D):∀{xs:List α},(∀x∈xs,∃bs,pt (enc x)=cz bs/\t (bs++cs)=cz (p x)/\(p x=p4->g (bs++cs)=cz (f x)))->O5 pt t g cs (xs.map enc)=cz ((xs.filter p).map f)
 |[],_=>rfl
 |x::xs,h=>by
  obtain⟨bs,h1,h2,h3⟩:=h x ah;have ih:=a1J p f (xs:=xs) λe he=>h e (ai _ he)
  show (pt (enc x)).bind _=_;rw[h1];show (t (bs++cs)).bind _=_;rw[h2];cases c:p x with
  |true=>
   rw[eH c];show (g (bs++cs)).bind _=_;rw[h3 c];show (O5 pt t g cs (xs.map enc)).bind _=_;rw[ih];rfl
  |false=>
   rw[eJ (by rw[c];decide)];exact ih
def b5N{js:List Nat}(p:Nat->Bool)(f:Nat->D)(hf:fi U=cz (J9 0 n))(hl:n<=1000000)(h:∀k:Nat,k<n->t (.int k::js.map λj=>U.getD j .none)=cz (p k)/\(p k=p4->g (.int k::js.map λj=>U.getD j .none)=cz (f k))) :
  n4 fi js pt1 t g U=cz (.list (((aQ n).filter p).map f)):=by
 unfold n4;rw[hf];show (if (J9 0 n).length<=1000000 then _ else el)=_;rw[aG (by rw[a7P];exact hl),a1E,a1J (enc:=λ(k:Nat)=>aF k) p f]
 ·rfl
 ·intro x hx;have:=h x (bO.mp hx);exact⟨[.int x],rfl,this.1,this.2⟩
def b1k{l:List Int}(h:i<l.length):l.getD i 0∈l:=by
 rw[aN,ao h];exact cH _
theorem a4O(f:α->D):∀{xs:List α},(∀x∈xs,∃bs,pt (enc x)=cz bs/\g (bs++cs)=cz (f x))->O5 pt tT g cs (xs.map enc)=cz (xs.map f)
 |[],_=>rfl
 |x::xs,h=>by
  obtain⟨bs,h1,h2⟩:=h x ah;have ih:=a4O f (xs:=xs) λe he=>h e (ai _ he)
  show (pt (enc x)).bind _=_;rw[h1];show (g (bs++cs)).bind _=_;rw[h2];show (O5 pt tT g cs (xs.map enc)).bind _=_;rw[ih];rfl
def L8{js:List Nat}{xs:List α}(f:α->D)(hf:fi U=cz (xs.map enc))(hl:xs.length<=1000000)(h:∀x∈xs,∃bs,pt (enc x)=cz bs/\g (bs++js.map λj=>U.getD j .none)=cz (f x)) :
  n4 fi js pt tT g U=cz (.list (xs.map f)):=by
 unfold n4;rw[hf];show (if (xs.map enc).length<=1000000 then _ else el)=_;rw[aG (by rw[au];exact hl),a4O f h];rfl
def c2e(h:a U=cz (.list ds)):iEn a U=cz (N8 ds 0):=by
 unfold iEn;rw[h];rfl
section
variable {β α:Type}[DecidableEq β]
def dd1(W:List (β×α))(c:β×α):List (β×α):=if c.1∈W.map (·.1) then W else W++[c]
def dd(W C:List (β×α)):List (β×α):=C.foldl dd1 W
variable {W C C':List (β×α)}{c:β×α}{t:β}
end
def a7c{n:Nat}:∀{l:List Int},l.Nodup->(∀x∈l,0<=x/\x<(n:Int))->l.length<=n:=by
 induction n with
 |zero=>
  intro l _ h;cases l with
  |nil=>exact aE _
  |cons x l=>have:=h x (by simp);lia
 |succ n ih=>
  intro l hd h;have h1:=ih (l:=l.erase (n:Int)) (hd.erase _) λx hx=>by
   have h2:=(List.Nodup.mem_erase_iff hd).mp hx;have:=h x h2.2;have:=h2.1;lia
  have h2:=List.length_erase (a:=(n:Int)) (l:=l);by_cases c:(n:Int)∈l
  ·rw[aG c]at h2;lia
  ·rw[aL c]at h2;lia
def wl:List Int->List Int->Prop
 |a::p,b::q=>a<b\/(a=b/\wl p q)
 |_,_=>False
def bf(p q:List Int):Prop:=p.length<q.length\/(p.length=q.length/\wl p q)
abbrev b1l:=List (Int×List Int)
def c0K(m:l8)(k:Nat)(e:Int×List Int):b1l:=(aQ k).map λ(a:Nat)=>((stp m e.1 a).2,e.2++[(a:Int)])
abbrev W0:b1l:=[(0,[])]
abbrev Sor(W:b1l):Prop:=W.Pairwise λa b=>bf a.2 b.2
structure Met (m:l8) (k:Nat) (dn W:b1l):Prop where
 eq:W=dd W0 (dn.flatMap (c0K m k))
 pre:∃nw,W=dn++nw
 sor:Sor W
 ql:∀e∈W,e.2.length<=dn.length
structure AllMet (m:l8) (k:Nat) (W:b1l):Prop where
 eq:W=dd W0 (W.flatMap (c0K m k))
 sor:Sor W
 range:∀e∈W,0<=e.1/\e.1<(m.length:Int)
 ql:∀e∈W,e.2.length<=W.length
section
variable {α:Type}
def kvD(enc:α->D)(W:List (Int×α)):List (D×D):=W.map λe=>(aF e.1,enc e.2)
variable {enc:α->D}{W:List (Int×α)}{t:Int}{x:α}
def a5G:(kvD enc W).length=W.length:=au ..
def b5O{V:List (Int×α)}:kvD enc (W++V)=kvD enc W++kvD enc V:=aW ..
def a2x:v6 (kvD enc W) (.int t)=decide (t∈W.map (·.1)):=by
 induction W with
 |nil=>rfl
 |cons e W ih=>
  show (aC (.int e.1) (.int t)||v6 (kvD enc W) (.int t))=_;rw[a2w,ih];by_cases h1:e.1=t
  ·simp[h1]
  ·have h2:t≠e.1:=λz=>h1 z.symm
   simp[h1,h2]
def b5P(hn:(W.map (·.1)).Nodup)(h:(t,x)∈W):A1 (kvD enc W) (.int t)=cz (enc x):=by
 induction W with
 |nil=>cases h
 |cons e W ih=>
  rw[av,bt]at hn;unfold A1 kvD;rw[av,fZ];show Option.map _ (match aC (.int e.1) (.int t) with|true=>_|false=>_)=_;rw[a2w];rcases az.mp h with z|z
  ·rw[<-z,aA rfl];rfl
  ·have h1:e.1≠t:=λq=>hn.1 (by rw[q];exact aO.mpr ⟨_,z,rfl⟩)
   rw[aS h1];exact ih hn.2 z
def a7d(h:t∉W.map (·.1)):n9 (kvD enc W) (.int t) (enc x)=kvD enc (W++[(t,x)]):=by
 unfold n9;rw[a2x,aS h,b5O];rfl
def dKey_i{t:Int}:m9 rp (.int t)=p4:=rfl
def a9C:(kvD enc W).all (λp=>m9 rp p.1)=p4:=by
 unfold kvD;rw[List.all_map,aT];exact λe _=>dKey_i
def a5H:(kvD enc W).map (·.1)=(W.map (·.1)).map aF:=by unfold kvD;rw[bF,bF];rfl
def b3z:(kvD enc W).map (·.2)=(W.map (·.2)).map enc:=by unfold kvD;rw[bF,bF];rfl
end
def b3A(hv:fv U=cz d)(hk:fk U=cz k)(hd:U.getD i .none=.dict kvs)(hK:m9 kt k=p4)(hl:kvs.length<1000000)(hp:pOk kvs k=p4:=by exact b0p rfl) :
  I9 i kt fk fv U=cz (.nx (U.set i (.dict (n9 kvs k d)))):=by
 unfold I9;rw[hv];show (fk U).bind _=_;rw[hk];show (match U.getD i .none with|.dict kvs=>_|_=>_)=_;rw[hd];show (if _ then _ else _)=_;rw[aG (by rw[hK,aA hl,hp];rfl)]
def b5Q(h:a U=cz (.dict (kvD aF W))):a5s a U=cz (.list ((W.map (·.2)).map .int)):=by
 unfold a5s;rw[h];show (if _ then _ else _)=_;rw[aG (by rw[a9C,b3z,p8 _ (λ_=>a0S)];rfl),b3z]
section
variable {β:Type}[DecidableEq β]
abbrev a4P(β:Type):=List (β×List Int)
def b6C(nx:β->Nat->β)(k:Nat)(e:β×List Int):a4P β:=(aQ k).map λ(a:Nat)=>(nx e.1 a,e.2++[(a:Int)])
abbrev WB(s:β):a4P β:=[(s,[])]
abbrev c0L(W:a4P β):Prop:=W.Pairwise λa b=>bf a.2 b.2
variable {nx:β->Nat->β}{k:Nat}{s:β}
structure MetB (nx:β->Nat->β) (k:Nat) (s:β) (P:β->Prop) (dn W:a4P β):Prop where
 eq:W=dd (WB s) (dn.flatMap (b6C nx k))
 pre:∃nw,W=dn++nw
 sor:c0L W
 ql:∀e∈W,e.2.length<=dn.length
 ok:∀e∈W,P e.1
structure AllB (nx:β->Nat->β) (k:Nat) (s:β) (P:β->Prop) (W:a4P β):Prop where
 eq:W=dd (WB s) (W.flatMap (b6C nx k))
 sor:c0L W
 ql:∀e∈W,e.2.length<=W.length
 ok:∀e∈W,P e.1
end
section
variable {β α:Type}[DecidableEq β]
structure KeyB (kt:Bool) (key:β->D):Prop where
 eqv:∀a b,aC (key a) (key b)=decide (a=b)
 ok:∀a,m9 kt (key a)=p4
 im:∀a,imm (key a)=p4
variable {key:β->D}{enc:α->D}{W:List (β×α)}{t:β}{x:α}{kt:Bool}
end
def b6D(h:argsOk us ds=p4):fnL us n g gm ds=a0R (g gm (ds++(.none::aR n .none))):=by
 unfold fnL;rw[aG h];cases g gm (ds++(.none::aR n .none)) with
 |none=>rfl
 |some o=>cases o<;>rfl
def c0M(h:f U=cz ds):b5v m us js fb f U=m (fnE us (js.map λj=>U.getD j .none) fb) ds:=by
 unfold b5v;rw[h];rfl
def c0N(h:argsOk us ds=p4):fnE us ri f ds=f (ds++ri):=aG h
def b6E(h:f U=cz ds):b0K m gm f U=m gm ds:=by
 unfold b0K;rw[h];rfl
abbrev PW:=List ((Int×Int)×List Int)
def S8{ns:List Int}{j:Int}(a:0<=j)(b:j<ns.length):L2.atI (ns.map aF) j=cz (.int (ns.getD j.toNat 0)):=by
 rw[a5q a (by rw[au];exact b),gJ];rw[aN,ao (by lia)];rfl
def a9D{js:List Nat}{xs:List α}(p:α->Bool)(f:α->D)(hf:fi U=cz (xs.map enc))(hl:xs.length<=1000000)(h:∀x∈xs,∃bs,pt (enc x)=cz bs/\t (bs++js.map λj=>U.getD j .none)=cz (p x)/\(p x=p4->g (bs++js.map λj=>U.getD j .none)=cz (f x))) :
  n4 fi js pt t g U=cz (.list ((xs.filter p).map f)):=by
 unfold n4;rw[hf];show (if (xs.map enc).length<=1000000 then _ else el)=_;rw[aG (by rw[au];exact hl),a1J p f h];rfl
def Y8{α:Type}{enc:α->D}{set:List D->D->Option (List D)}{g:EvS}{xs:List α}{U:List D}(I:List α->List D->Prop)(R:D->Prop)(h0:I [] U)
  (step:∀pre x post,xs=pre++x::post->∀U,I pre U->∃U1,set U (enc x)=cz U1/\((∃U2,g U1=cz (.nx U2)/\I (pre++[x]) U2)\/∃d,g U1=cz (.rt d)/\R d)) :
  (∃U',G7 set g (xs.map enc) U=cz (.nx U')/\I xs U')\/∃d,G7 set g (xs.map enc) U=cz (.rt d)/\R d:=by
 have key:∀(post pre:List α) (U:List D),xs=pre++post->I pre U->(∃U',G7 set g (post.map enc) U=cz (.nx U')/\I xs U')\/∃d,G7 set g (post.map enc) U=cz (.rt d)/\R d:=by
  intro post
  induction post with
  |nil=>
   intro pre U e h;rw[bK]at e;subst e;exact .inl ⟨U,rfl,h⟩
  |cons x post ih=>
   intro pre U e h;obtain⟨U1,h1,h2⟩:=step pre x post e U h;rcases h2 with⟨U2,h2,h3⟩|⟨d,h2,h3⟩
   ·rcases ih (pre++[x]) U2 (by rw[e,bx];rfl) h3 with⟨U',h4,h5⟩|⟨d,h4,h5⟩
    ·refine .inl ⟨U',?_,h5⟩;show (set U (enc x)).bind _=_;rw[h1];show (g U1).bind _=_;rw[h2];exact h4
    ·refine .inr ⟨d,?_,h5⟩;show (set U (enc x)).bind _=_;rw[h1];show (g U1).bind _=_;rw[h2];exact h4
   ·refine .inr ⟨d,?_,h3⟩;show (set U (enc x)).bind _=_;rw[h1];show (g U1).bind _=_;rw[h2];rfl
 exact key xs [] U rfl h0
theorem a7e{c:EvT}{g:EvS}{I:Nat->List D->Prop}{Q:List D->Prop}{R:D->Prop}(B:Nat)(step:∀j U,I j U->j<=B/\((c U=cz rp/\Q U)\/(c U=cz p4/\((∃U',g U=cz (.nx U')/\I (j+1) U')\/∃d,g U=cz (.rt d)/\R d)))):∀n j U,I j U->B<n+j->(∃U',whL c g n U=cz (.nx U')/\Q U')\/∃d,whL c g n U=cz (.rt d)/\R d
 |0,j,U,h,hn=>absurd (step j U h).1 (by lia)
 |n+1,j,U,h,hn=>by
  rcases (step j U h).2 with⟨e,q⟩|⟨e,⟨U',e2,h2⟩|⟨d,e2,h2⟩⟩
  ·refine .inl ⟨U,?_,q⟩;show (c U).bind _=_;rw[e];rfl
  ·rcases a7e B step n (j+1) U' h2 (by lia) with⟨U2,e3,q⟩|⟨d,e3,q⟩
   ·refine .inl ⟨U2,?_,q⟩;show (c U).bind _=_;rw[e];show (g U).bind _=_;rw[e2];exact e3
   ·refine .inr ⟨d,?_,q⟩;show (c U).bind _=_;rw[e];show (g U).bind _=_;rw[e2];exact e3
  ·refine .inr ⟨d,?_,h2⟩;show (c U).bind _=_;rw[e];show (g U).bind _=_;rw[e2];rfl
end VS
namespace Prog
open PySem L2 VS
abbrev GA:=List (List Int×List Int)
def i5(a:List Int):D:=.tuple (a.map .int)
def O0(e:Int)(es:List Int):List Int:=if e∈es then es else es++[e]
def a1i(a b:List Int):aC (i5 a) (i5 b)=decide (a=b):=by
 unfold i5;simp only[aC];exact a3m a b
theorem a2i:∀a:List Int,r8 (a.map aF)=p4
 |[]=>by simp only[cB,r8]
 |n::a=>by simp only[av,r8,C1,a2i a,hJ]
def a8J(a:List Int):(i5 a).depth<=7:=by
 unfold i5;simp only[dU];have:=R8 aF 0 (λ_=>by rw[R9];exact aE _) a;lia
def b1m(a:List Int):C1 (i5 a)=p4:=by
 unfold i5;simp only[C1];exact a2i a
def S9(a:List Int):m9 p4 (i5 a)=p4:=by
 unfold m9;rw[b1m,aA (a8J a)];rfl
def dKey_i(e:Int):m9 rp (.int e)=p4:=by
 unfold m9;rw[show C1 (.int e)=p4 by simp only[C1],show (aF e).depth=0 from R9];rfl
def a3z:x∈O0 e es↔x∈es\/x=e:=by
 unfold O0;by_cases c:e∈es
 ·rw[aG c];exact⟨.inl,λh=>h.elim id λz=>z▸c⟩
 ·rw[aL c,aB,aq]
structure DdOk (f:Int->List Int×Int) (ss:List Int) (dd:GA):Prop where
 nd:(dd.map (·.1)).Nodup
 keys:∀a,a∈dd.map (·.1)↔∃s∈ss,(f s).1=a
 mem:∀q∈dd,∀e,e∈q.2↔∃s∈ss,f s=(q.1,e)
 nd2:∀q∈dd,q.2.Nodup
 len:dd.length<=ss.length
 b5n:∀q∈dd,q.2.length<=ss.length
end Prog
local macro_rules | `(tactic| walk_at "ev")=>`(tactic| simp -implicitDefEqProofs (disch:=first | omega | assumption | decide) only [VS.v_var,VS.v_c,VS.v_1,VS.v_2,VS.c1o,VS.b7T,VS.b6s,VS.c1p,VS.c1q,VS.b9L,VS.b9M,VS.b9N,VS.v_and,VS.v_or,VS.v_not,VS.b9O,VS.b6t,VS.b9P,VS.H9,VS.a4p,VS.b9Q,VS.c1r,VS.b7U,VS.b6u,VS.b9R,VS.b7V,VS.c1j,VS.c1k,VS.c1l,VS.b4V,VS.c1m,VS.c1n,VS.b7C,VS.b7D,VS.b7E,VS.b9G,VS.b9H,VS.b7F,VS.b7G,VS.b9I,VS.b9J,VS.b7H,VS.b7I,VS.b7J,VS.b7K,VS.b7L,VS.B6,VS.b7M,VS.b7N,VS.b7O,VS.b2h,VS.b7P,VS.b9K,VS.b4W,VS.b7Q,VS.b7R,VS.a9c,VS.b7S,VS.v_add,VS.v_sub,VS.v_lt,VS.c1s,VS.c1t,VS.c1u,VS.b9S,VS.b9T,VS.b7W,VS.b7X,VS.b9U,VS.b9V,VS.b9W,VS.b9X,VS.b9Y,VS.b2j,VS.v_mod,VS.v_div,VS.c1J,VS.c0m,VS.c0n,VS.trB,VS.c0o,VS.b8A,VS.b3n,VS.b5F,VS.b3o,VS.b3p,VS.b5G,VS.b1e,VS.a8v,VS.a8w,VS.a8x,VS.b1f,VS.b1g,VS.a8y,VS.a8z,VS.a6Q,VS.a6R,VS.a6S,VS.a8A,VS.a8B,VS.a6T,VS.isList_list,VS.isList_int,VS.a6U,VS.isList_bool,VS.a8C,VS.isList_str,VS.isList_dict,VS.a6V,VS.isTuple_list,VS.isTuple_int,VS.b6x,VS.b3q,VS.a9y,VS.c0p,VS.c0q,VS.b5H,VS.c1S,VS.a1a,VS.Q3,VS.b8B,VS.b8C,VS.c0s,VS.c0t,VS.c1T,VS.at0,VS.at1,VS.c0z,VS.c0A,VS.b8E,VS.b5K,VS.c0B,VS.b5L,List.getD_cons_zero,List.getD_cons_succ,mU,jI,jq,gR,bp,b_,bK,kl,Bool.not_false,dO,dE,Bool.false_and,qV,VS.c1K,VS.c1L,VS.c1M,VS.c1N,VS.c1O,VS.c1P,VS.c1Q,VS.c1R,decide_true,decide_false,au,av,cB])
namespace Prog
open PySem L2 VS
def f7(g:List Int->D)(l:List (List Int)):List (D×D):=l.map λp=>(i5 p,g p)
def a5I(p:List Int)(l:List (List Int)):List (List Int):=if p∈l then l else l++[p]
section
variable {g:List Int->D}{l:List (List Int)}{a:List Int}
def a3A:(f7 g l).length=l.length:=au ..
theorem M8(a:List Int):∀l:List (List Int),v6 (f7 g l) (i5 a)=decide (a∈l)
 |[]=>rfl
 |q::l=>by
  have ih:=M8 a l;unfold v6 f7 at ih ⊢;rw[av,mE,ih,a1i,eM];simp only[ji,df,az];exact or_congr_left eq_comm
theorem a4Q:∀{l:List (List Int)},a∈l->A1 (f7 g l) (i5 a)=cz (g a)
 |[],h=>nomatch h
 |q::l,h=>by
  by_cases c:q=a
  ·unfold A1 f7;rw[av,fZ,a1i,aA c];subst c;rfl
  ·have ih:=a4Q (l:=l) ((az.mp h).resolve_left λz=>c z.symm);unfold A1 f7 at ih ⊢;rw[av,fZ,a1i,aS c];exact ih
def b3B:n9 (f7 g l) (i5 a) (g a)=f7 g (a5I a l):=by
 unfold n9 a5I;rw[M8];by_cases c:a∈l
 ·rw[aA c,aG rfl,aG c];unfold f7;rw[bF];refine bY λx _=>?_
  show (if aC (i5 x) (i5 a)=p4 then (i5 x,g a) else (i5 x,g x))=(i5 x,g x);rw[a1i];by_cases e:x=a
  ·rw[aA e,aG rfl,e]
  ·rw[aS e,aL aY]
 ·rw[aS c,aL c,aL aY];unfold f7;rw[aW];rfl
def a2j(l:List (List Int)):keysOk p4 (f7 g l)=p4:=by
 unfold keysOk f7;rw[aT];intro p hp;obtain⟨q,_,rfl⟩:=aO.mp hp;exact S9 q
def a4R:(f7 g l).map (·.1)=l.map i5:=by unfold f7;rw[bF];rfl
def b6F:a5t neg p4 (i5 a) (.dict (f7 g l))=cz (.bool (neg !=decide (a∈l))):=by
 show (if m9 p4 (i5 a)&&keysOk p4 (f7 g l) then cz (dw (neg !=v6 (f7 g l) (i5 a))) else el)=_;rw[S9,a2j,M8];rfl
def a7f(h:a∈l):C4 p4 (.dict (f7 g l)) (i5 a)=cz (g a):=by
 show (if m9 p4 (i5 a)&&keysOk p4 (f7 g l) then A1 (f7 g l) (i5 a) else el)=_;rw[S9,a2j,a4Q h];rfl
def b8M(h:f U=cz (.dict (f7 g l)))(hL:P6 (f7 g l)=rp):iDk f U=cz (l.map i5):=by
 unfold iDk;rw[h,cF];show (if P6 (f7 g l) then el else cz ((f7 g l).map (·.1)))=_;rw[a4R (g:=g),hL];rfl
def a2y(hv:fv U=cz (g a))(hk:fk U=cz (i5 a))(hd:U.getD i .none=.dict (f7 g l))(hl:l.length<1000000)(hp:a∉l):I9 i p4 fk fv U=cz (.nx (U.set i (.dict (f7 g (a5I a l))))):=by
 rw[b3A hv hk hd (S9 a) (by rw[a3A];exact hl) (b4Z (by rw[M8];exact aS hp)),b3B]
end
end Prog
namespace VS
open PySem L2
section
variable {β:Type}[DecidableEq β]{nx:β->Nat->β}{k:Nat}{s:β}{P:β->Prop}{W:a4P β}
def c0O(nx:β->Nat->β)(b:β)(p:List Int):β:=p.foldl (λb a=>nx b a.toNat) b
end
def b3C(Y:List Int)(v x:Int):x∈dJ Y v↔x∈Y\/x=v:=by
 unfold dJ
 split
 ·rename_i h
  refine⟨.inl,λz=>z.elim id λe=>?_⟩;obtain⟨y,h1,h2⟩:=cP.mp h;rw[e,<-kI.mp h2];exact h1
 ·simp
def b5R{Y:List Int}(v:Int)(h:Y.Nodup):(dJ Y v).Nodup:=by
 unfold dJ
 split
 ·exact h
 ·rename_i c
  refine bb.mpr ⟨h,by simp,λa ha b hb=>?_⟩;rw[aq.mp hb];rintro rfl;exact c (cP.mpr ⟨a,ha,fQ a⟩)
theorem a3B:∀(l Y:List Int),(∀x,x∈l.foldl dJ Y↔x∈Y\/x∈l)/\(Y.Nodup->(l.foldl dJ Y).Nodup)
 |[],Y=>⟨λx=>by simp,id⟩
 |v::l,Y=>by
  obtain⟨h1,h2⟩:=a3B l (dJ Y v);refine⟨λx=>?_,λh=>h2 (b5R v h)⟩;rw[pD,h1,b3C,az]
  constructor
  ·rintro ((a|a)|a)
   ·exact .inl a
   ·exact .inr (.inl a)
   ·exact .inr (.inr a)
  ·rintro (a|a|a)
   ·exact .inl (.inl a)
   ·exact .inl (.inr a)
   ·exact .inr a
def a3C(ns:List Int):(aQ ns.length).map (λi=>ns.getD i 0)=ns:=by
 refine List.ext_getElem (by simp) λi h1 h2=>?_
 simp[aN,ao h2]
def b5S:x∈dis ns↔x∈ns:=by
 unfold dis lA;rw[a3C,(a3B ns []).1];simp
def b8N(ns:List Int):(dis ns).Nodup:=by
 unfold dis lA;exact (a3B _ []).2 bu
abbrev Inc(b:List Int):Prop:=b.Pairwise (· < ·)
def X6(ns:List Int):List Int:=srt (dis ns)
def D4:x∈X6 ns↔x∈ns:=by unfold X6;rw[(k9 _).mem_iff,b5S]
def D5(ns:List Int):Inc (X6 ns):=by
 have h1:=U1 (dis ns);have h2:(srt (dis ns)).Nodup:=(k9 _).nodup_iff.mpr (b8N ns);exact (h1.and h2).imp λ{a b} h=>by have:=h.1;have:=h.2;lia
def X7(ha:Inc a)(hb:Inc b)(h:∀x,x∈a↔x∈b):a=b:=by
 have hp:a.Perm b:=(gE (ha.imp λh=>by lia) (hb.imp λh=>by lia)).mpr h;exact hp.eq_of_pairwise (le:=(· < ·)) (λ_ _ _ _ h h'=>by lia) ha hb
def b1n(hb:Inc b):X6 b=b:=X7 (D5 b) hb λx=>D4
def nxS(m:l8)(b:List Int)(a:Nat):List Int:=X6 (b.map λs=>(stp m s a).2)
def SetK(m:l8)(b:List Int):Prop:=Inc b/\b≠[]/\∀s∈b,0<=s/\s<(m.length:Int)
theorem b3D[DecidableEq α]:∀{l L:List α},l.Nodup->(∀x∈l,x∈L)->l.length<=L.length
 |[],_,_,_=>cI _
 |a::l,L,hn,h=>by
  rw[bt]at hn;have ha:=h a ah;have:=b3D (l:=l) (L:=L.erase a) hn.2 λx hx=>(List.mem_erase_of_ne (show x≠a from λe=>hn.1 (e▸hx))).mpr (h x (ai _ hx))
  rw[List.length_erase_of_mem ha]at this;have:=uw ha;rw[be];lia
structure Gat (m:l8) (k:Nat) (b:List Int) (o:Option (List Int)):Prop where
 ok:∀q,o=cz q->(∀a∈q,0<=a/\a<(k:Int))/\(c0O (nxS m) b q).length=1
 least:∀p,(∀a∈p,0<=a/\a<(k:Int))->(c0O (nxS m) b p).length=1->∃q,o=cz q/\(q=p\/bf q p)
end VS
namespace Prog
open PySem L2 VS
def toA(m:l8)(a:Nat)(L:List Int)(x:Int):List Int:=(L.filter λs=>decide ((stp m s a).1=x)).map λs=>(stp m s a).2
def prt(m:l8)(a:Nat)(S:List Int)(x:Int):List Int:=X6 (toA m a S x)
def D6(m:l8)(a:Nat)(S:List Int):Bool:=decide (S.map λs=>stp m s a).Nodup
theorem a0u{α β:Type}{f:α->β}:∀{l:List α},(l.map f).Nodup->∀{x y:α},x∈l->y∈l->f x=f y->x=y
 |[],_,_,_,h,_,_=>nomatch h
 |z::l,hn,x,y,hx,hy,e=>by
  rw[av,bt]at hn;rcases az.mp hx with h1|h1
  ·rcases az.mp hy with h2|h2
   ·rw[h1,h2]
   ·exact absurd (by rw[<-h1,e];exact bw h2) hn.1
  ·rcases az.mp hy with h2|h2
   ·exact absurd (by rw[<-h2,<-e];exact bw h1) hn.1
   ·exact a0u hn.2 h1 h2 e
theorem a4S{α β:Type}{f:α->β}:∀{l:List α},l.Nodup->(∀x∈l,∀y∈l,f x=f y->x=y)->(l.map f).Nodup
 |[],_,_=>bu
 |z::l,hn,h=>by
  rw[bt]at hn;rw[av,bt];refine⟨λq=>?_,a4S hn.2 λx hx y hy=>h x (ai _ hx) y (ai _ hy)⟩;obtain⟨y,hy,e⟩:=aO.mp q;exact hn.1 (h z ah y (ai _ hy) e.symm▸hy)
section
variable {m:l8}{k a:Nat}{S L:List Int}{x y:Int}
def a2z:y∈toA m a S x↔∃s∈S,stp m s a=(x,y):=by
 unfold toA;rw[aO]
 constructor
 ·rintro⟨s,hs,rfl⟩;have:=bg.mp hs;exact⟨s,this.1,by rw[<-aP this.2]⟩
 ·rintro⟨s,hs,e⟩;exact⟨s,bg.mpr ⟨hs,by rw[e];exact aA rfl⟩,by rw[e]⟩
def a2A:y∈prt m a S x↔∃s∈S,stp m s a=(x,y):=by unfold prt;rw[D4,a2z]
def b5T:Inc (prt m a S x):=D5 _
def a3D(h:(S.map λs=>stp m s a).Nodup):(toA m a S x).Nodup:=by
 have hn:S.Nodup:=xq _ (λa b q e=>q (by rw[e])) h;unfold toA;refine a4S (hn.filter _) λs hs t ht e=>a0u h (bg.mp hs).1 (bg.mp ht).1 ?_
 have h1:=aP (bg.mp hs).2;have h2:=aP (bg.mp ht).2;exact Prod.ext (by rw[h1,h2]) e
def a4T(h:L.Perm S):D6 m a L=D6 m a S:=by
 unfold D6;rw[eM,df,df];exact (h.map _).nodup_iff
theorem SetK.prt(w:WF m k)(h:SetK m S)(ha:a<k)(hs:s∈S):SetK m (prt m a S (stp m s a).1):=by
 refine⟨b5T,λe=>?_,λy hy=>?_⟩
 ·have:(stp m s a).2∈Prog.prt m a S (stp m s a).1:=a2A.mpr ⟨s,hs,rfl⟩;rw[e]at this;cases this
 ·obtain⟨t,ht,e⟩:=a2A.mp hy;have:=h.2.2 t ht;have:=w.nx this.1 this.2 (a:=(a:Int)) (by lia) (by lia);rw[e]at this;exact this
def Y9(h:L.Nodup):srt L=X6 L:=by
 refine X7 ?_ (D5 L) λx=>by rw[D4,(k9 L).mem_iff]
 have h2:(srt L).Nodup:=(k9 L).nodup_iff.mpr h;exact ((U1 L).and h2).imp λ{a b} h=>by have:=h.1;have:=h.2;lia
end
def tst(T:List Int->Bool)(m:l8)(a:Nat)(S:List Int):Bool:=D6 m a S&&S.all λs=>T (prt m a S (stp m s a).1)
def tb(m:l8)(k:Nat):Nat->List Int->Bool
 |0,S=>decide (S.length=1)
 |d+1,S=>tb m k d S||(aQ k).any λa=>tst (tb m k d) m a S
def lta(m:l8)(k d:Nat)(S:List Int):Option Nat:=(aQ k).find? λa=>tst (tb m k d) m a S
section
variable {m:l8}{k d e:Nat}{S:List Int}
def b6G(h:tb m k d S=p4):tb m k (d+1) S=p4:=by show (tb m k d S||_)=p4;rw[h];rfl
def T1(h:tb m k d S=p4)(hl:d<=e):tb m k e S=p4:=by
 induction hl with
 |refl=>exact h
 |step _ ih=>exact b6G ih
def a1j:tb m k (d+1) S=(tb m k d S||(lta m k d S).isSome):=by
 show (tb m k d S||_)=_
 congr 1;unfold lta;rw[eM,cP,Cr]
def a1k(h:lta m k d S=cz a):a<k/\tst (tb m k d) m a S=p4:=by
 unfold lta at h;exact⟨bO.mp (jR h),pE (p:=λa=>tst (tb m k d) m a S) h⟩
def m6(m:l8)(k:Nat)(S:List Int):D:=if S.length=1 then .none else match (aQ 200).find? λe=>(lta m k e S).isSome with
 |some e=>match lta m k e S with
  |some a=>.int a
  |none=>.none
 |none=>.none
def a5J(h1:S.length≠1)(h2:tb m k d S=rp)(h3:lta m k d S=cz a)(hd:d<200):m6 m k S=.int a:=by
 have hf:((aQ 200).find? λe=>(lta m k e S).isSome)=cz d:=by
  rw[gZ];refine⟨by rw[h3];rfl,bO.mpr hd,λj hj=>?_⟩;cases x:lta m k j S with
  |none=>rfl
  |some b=>
   have:tb m k (j+1) S=p4:=by rw[a1j,x,Bool.or_comm];rfl
   have:=T1 this (show j+1<=d by lia);rw[h2]at this;cases this
 unfold m6;rw[aL h1,hf];show (match lta m k d S with|some a=>aF a|none=>.none)=_;rw[h3]
theorem b3E:∀(j:Nat),j<=200->tb m k j S=p4->S.length≠1->∃e a,e<j/\a<k/\m6 m k S=.int (a:Nat)/\tst (tb m k e) m a S=p4
 |0,_,h,h1=>absurd (aP h) h1
 |j+1,hj,h,h1=>by
  cases x:tb m k j S with
  |true=>
   obtain⟨e,a,q1,q2⟩:=b3E j (by lia) x h1;exact⟨e,a,by lia,q2⟩
  |false=>
   rw[a1j,x,sA]at h;obtain⟨a,ha⟩:=fL.mp h;have:=a1k ha;exact⟨j,a,by lia,this.1,a5J h1 x ha (by lia),this.2⟩
end
def lfS(m:l8)(k:Nat)(A:List (List Int))(d:Nat):List (List Int):=A.filter λS=>!tb m k d S
def nwS(m:l8)(k:Nat)(A:List (List Int))(d:Nat):List (List Int):=(lfS m k A d).filter λS=>(lta m k d S).isSome
def kdS(m:l8)(k:Nat)(A:List (List Int)):Nat->List (List Int)
 |0=>A.filter λS=>decide (S.length=1)
 |d+1=>kdS m k A d++nwS m k A d
section
variable {m:l8}{k:Nat}{A:List (List Int)}{d:Nat}{S:List Int}
def U9:S∈lfS m k A d↔S∈A/\tb m k d S=rp:=by
 unfold lfS;rw[bg,jX]
def a1l:S∈nwS m k A d↔S∈A/\tb m k d S=rp/\(lta m k d S).isSome=p4:=by
 unfold nwS;rw[bg,U9,and_assoc]
theorem E2:∀{d:Nat},S∈kdS m k A d↔S∈A/\tb m k d S=p4
 |0=>by show S∈A.filter _↔_;rw[bg];rfl
 |d+1=>by
  show S∈kdS m k A d++nwS m k A d↔_;rw[aB,E2 (d:=d),a1l,a1j,ji]
  constructor
  ·rintro (⟨q1,q2⟩|⟨q1,q2,q3⟩)
   ·exact⟨q1,.inl q2⟩
   ·exact⟨q1,.inr q3⟩
  ·rintro⟨q1,q2⟩;cases x:tb m k d S with
   |true=>exact .inl ⟨q1,rfl⟩
   |false=>exact .inr ⟨q1,rfl,q2.resolve_left (by rw[x];decide)⟩
theorem b3F(hA:A.Nodup):∀d,(kdS m k A d).Nodup
 |0=>hA.filter _
 |d+1=>by
  show (kdS m k A d++nwS m k A d).Nodup;rw[bb];refine⟨b3F hA d,(hA.filter _).filter _,λx hx y hy e=>?_⟩;subst e;have h1:=(E2.mp hx).2;rw[(a1l.mp hy).2.1]at h1;cases h1
def a7g:(lfS m k A d).filter (λS=>!decide (S∈nwS m k A d))=lfS m k A (d+1):=by
 have e:∀S∈lfS m k A d,(!decide (S∈nwS m k A d))=!tb m k (d+1) S:=by
  intro S hS;have h:=U9.mp hS
  congr 1;rw[eM,df,a1l,a1j,h.2,sA];exact⟨λq=>q.2.2,λq=>⟨h.1,rfl,q⟩⟩
 rw[Cs e];unfold lfS;rw[List.filter_filter];refine Cs λS _=>?_
 cases x:tb m k d S with
 |true=>rw[b6G x];rfl
 |false=>simp
def b3G(h:nwS m k A d≠[]):(lfS m k A (d+1)).length<(lfS m k A d).length:=by
 rw[<-a7g];obtain⟨x,hx⟩:=rA _ h;exact List.length_filter_lt_length_iff_exists.mpr ⟨x,(bg.mp hx).1,by rw[aA hx];decide⟩
def b5U(h:nwS m k A d=[])(hS:S∈A)(ha:a<k)(ht:tst (tb m k d) m a S=p4):tb m k d S=p4:=by
 cases x:tb m k d S with
 |true=>rfl
 |false=>
  have:S∈nwS m k A d:=a1l.mpr ⟨hS,x,by unfold lta;rw[Cr];exact⟨a,bO.mpr ha,ht⟩⟩;rw[h]at this;cases this
end
def v7(g:Int->D)(ks:List Int):List (D×D):=ks.map λx=>(aF x,g x)
section
variable {g h:Int->D}{ks:List Int}{x:Int}
def b5V:v7 g ks=kvD g (ks.map λx=>(x,x)):=by unfold v7 kvD;rw[bF];rfl
def a1K:(v7 g ks).map (·.1)=ks.map aF:=by unfold v7;rw[bF];rfl
def a7h:(v7 g ks).length=ks.length:=au ..
def Z0:v6 (v7 g ks) (.int x)=decide (x∈ks):=by rw[b5V,a2x,bF];congr 2;exact kS ks
def Z1:x∈ks->A1 (v7 g ks) (.int x)=cz (g x):=by
 induction ks with
 |nil=>intro h;cases h
 |cons y ks ih=>
  intro hx;unfold A1 v7 at ih ⊢;rw[av,fZ];show Option.map _ (match aC (.int y) (.int x) with|true=>_|false=>_)=_;rw[a2w];by_cases c:y=x
  ·rw[aA c,c];rfl
  ·rw[aS c];exact ih ((az.mp hx).resolve_left λz=>c z.symm)
def a2k:keysOk rp (v7 g ks)=p4:=by
 unfold keysOk v7;rw[aT];intro p hp;obtain⟨q,_,rfl⟩:=aO.mp hp;exact dKey_i q
def a4U(hx:x∉ks->g x=h x):o9 (v7 g ks) (.int x) (h x)=v7 g (O0 x ks):=by
 unfold o9 O0;rw[Z0];by_cases c:x∈ks
 ·rw[aA c,aG rfl,aG c]
 ·rw[aS c,aL aY,aL c,<-hx c];unfold v7;rw[aW];rfl
def a7i(hx:x∈ks)(hh:∀y,y≠x->h y=g y):n9 (v7 g ks) (.int x) (h x)=v7 h ks:=by
 unfold n9;rw[Z0,aA hx,aG rfl];unfold v7;rw[bF];refine bY λy _=>?_
 show (if aC (.int y) (.int x)=p4 then (aF y,h x) else (aF y,g y))=(aF y,h y);rw[a2w];by_cases c:y=x
 ·rw[aA c,aG rfl,c]
 ·rw[aS c,aL aY,hh y c]
def a5K(hx:x∈ks):C4 rp (.dict (v7 g ks)) (.int x)=cz (g x):=by
 show (if m9 rp (.int x)&&keysOk rp (v7 g ks) then A1 (v7 g ks) (.int x) else el)=_;rw[dKey_i,a2k,Z1 hx];rfl
def T2{es:List Int}(ha:a U=cz (.dict kvs))(he:kvs.map (·.1)=es.map aF)(hl:es.length<60):p0 a U=cz (iD (srt es)):=by
 unfold p0;rw[ha,cF];show (intsOf (kvs.map (·.1))).bind _=_;rw[he,N7,cF,aG (by lia)]
def b5W(hn:ks.Nodup):(O0 x ks).Nodup:=by
 unfold O0;by_cases c:x∈ks
 ·rw[aG c];exact hn
 ·rw[aL c,bb];exact⟨hn,by simp,λy hy z hz e=>c (by rw[aq]at hz;rw[<-hz,<-e];exact hy)⟩
end
def ddE(l:List Int):List Int:=l.foldl (λacc x=>O0 x acc) []
def a3E(l:List Int)(x:Int):ddE (l++[x])=O0 x (ddE l):=by unfold ddE;rw[Cp];rfl
def a5L(l:List Int):y∈ddE l↔y∈l:=by
 induction l using snoc_ind with
 |h0=>exact⟨λh=>(nomatch h),λh=>(nomatch h)⟩
 |h1 l x ih=>rw[a3E,a3z,ih,aB,aq]
def a5M(l:List Int):(ddE l).Nodup:=by
 induction l using snoc_ind with
 |h0=>exact bu
 |h1 l x ih=>rw[a3E];exact b5W ih
def b5X(l:List Int):(ddE l).length<=l.length:=b3D (a5M l) λx hx=>(a5L l).mp hx
abbrev BG:=List (Int×Int)
def gp(m:l8)(a:Nat)(B:BG)(x:Int):BG:=(B.filter λp=>decide ((stp m p.1 a).1=x)).map λp=>((stp m p.1 a).2,p.2)
def anL(m:l8)(a:Nat)(B:BG):List Int:=ddE (B.map λp=>(stp m p.1 a).1)
def bgD(B:BG):D:=.dict (kvD aF B)
def ptD(m:l8)(a:Nat)(B:BG):D:=.dict (v7 (λx=>bgD (gp m a B x)) (anL m a B))
section
variable {m:l8}{a:Nat}{B:BG}{x y:Int}
def P0:(gp m a B x).map (·.1)=toA m a (B.map (·.1)) x:=by
 unfold gp toA;rw[bF,Ht,bF];rfl
def b3H:y∈(gp m a B x).map (·.1)↔(x,y)∈B.map λp=>stp m p.1 a:=by
 rw[P0,a2z,aO]
 constructor
 ·rintro⟨s,hs,e⟩;obtain⟨p,hp,rfl⟩:=aO.mp hs;exact⟨p,hp,e⟩
 ·rintro⟨p,hp,e⟩;exact⟨p.1,bw hp,e⟩
def a2B(p:Int×Int):gp m a (B++[p]) x=if (stp m p.1 a).1=x then gp m a B x++[((stp m p.1 a).2,p.2)] else gp m a B x:=by
 unfold gp;rw[fW,aW];by_cases c:(stp m p.1 a).1=x
 ·rw[aG c,eH (by exact aA c)];rfl
 ·rw[aL c,eJ (by rw[aS c];exact aY)];simp
def a9E(h:x∉anL m a B):gp m a B x=[]:=by
 unfold gp;rw[ux.mpr λp hp c=>h ((a5L _).mpr (aO.mpr ⟨p,hp,aP c⟩))];rfl
def a7j(p:Int×Int):anL m a (B++[p])=O0 (stp m p.1 a).1 (anL m a B):=by unfold anL;rw[aW];exact a3E _ _
def a7k:(gp m a B x).length<=B.length:=by unfold gp;rw[au];exact fq _ _
def Q4:(anL m a B).length<=B.length:=by have:=b5X (B.map λp=>(stp m p.1 a).1);rw[au]at this;exact this
def P3:x∈anL m a B↔∃p∈B,(stp m p.1 a).1=x:=by unfold anL;rw[a5L,aO]
def b5Y{U:List D}{p:Int×Int}(hd:U.getD i .none=ptD m a B)(hk:fk U=cz (.int (stp m p.1 a).1))(hj:∀x,fj (U.set i x)=cz (.int (stp m p.1 a).2))(hr:∀x,fr (U.set i x)=cz .none)(hv:∀x,fv (U.set i x)=cz (.int p.2))(hl:B.length<1000) :
  a3l i rp rp fk fj fr fv U=if stp m p.1 a∈B.map (λp=>stp m p.1 a) then cz (.rt .none) else cz (.nx (U.set i (ptD m a (B++[p])))):=by
 have hg:=a7k (m:=m) (a:=a) (B:=B) (x:=(stp m p.1 a).1);have ha:=Q4 (m:=m) (a:=a) (B:=B);have e1:o9 (v7 (λx=>bgD (gp m a B x)) (anL m a B)) (.int (stp m p.1 a).1) (.dict [])=v7 (λx=>bgD (gp m a B x)) (O0 (stp m p.1 a).1 (anL m a B)):=
  a4U (h:=λ_=>bgD []) λq=>by show bgD (gp m a B _)=_;rw[a9E q]
 have jL:(stp m p.1 a).1∈O0 (stp m p.1 a).1 (anL m a B):=a3z.mpr (.inr rfl);unfold a3l;rw[hk,cF,hd];unfold ptD;show (if m9 rp (.int (stp m p.1 a).1)&&decide ((v7 (λx=>bgD (gp m a B x)) (anL m a B)).length<1000000) then _ else el)=_;rw[dKey_i,a7h,aA (by lia),dO,aG rfl,hj,cF,e1,Z1 jL];show (if m9 rp (.int (stp m p.1 a).2)&&decide ((kvD aF (gp m a B (stp m p.1 a).1)).length<1000000) then _ else el)=_;rw[dKey_i,a5G,aA (by lia),dO,aG rfl,a2x];have hm:((stp m p.1 a).2∈(gp m a B (stp m p.1 a).1).map (·.1))↔stp m p.1 a∈B.map (λp=>stp m p.1 a):=b3H;by_cases c:stp m p.1 a∈B.map (λp=>stp m p.1 a)
 ·rw[aA (hm.mpr c),aG rfl,aG c,hr];rfl
 ·have hn:=λz=>c (hm.mp z)
  rw[aS hn,aL aY,aL c,hv,cF,a7d (enc:=aF) hn,List.set_set];have e2:n9 (v7 (λx=>bgD (gp m a B x)) (O0 (stp m p.1 a).1 (anL m a B))) (.int (stp m p.1 a).1) (bgD (gp m a (B++[p]) (stp m p.1 a).1))=v7 (λx=>bgD (gp m a (B++[p]) x)) (O0 (stp m p.1 a).1 (anL m a B)):=a7i (h:=λx=>bgD (gp m a (B++[p]) x)) jL λy hy=>by
   show bgD (gp m a (B++[p]) y)=bgD (gp m a B y);rw[a2B,aL λz=>hy z.symm]
  rw[a2B,aG rfl]at e2;rw[a7j,<-e2];rfl
end
def lev(m:l8)(k:Nat)(S:List Int):Nat:=((aQ 200).find? λe=>tb m k e S).getD 0
section
variable {m:l8}{k d e a:Nat}{S:List Int}
def a3F(h:tb m k d S=p4)(hd:d<200):tb m k (lev m k S) S=p4/\lev m k S<=d/\∀e<lev m k S,tb m k e S=rp:=by
 cases x:(aQ 200).find? λe=>tb m k e S with
 |none=>exact absurd h (fg.mp x d (bO.mpr hd))
 |some j=>
  have hl:lev m k S=j:=by unfold lev;rw[x];rfl
  rw[hl];rw[gZ]at x;obtain⟨x1,x2,x3⟩:=x;have x4:∀e<j,tb m k e S=rp:=λe he=>by
   have:=x3 e he
   rwa[jX]at this
  refine⟨x1,?_,x4⟩;by_cases c:j<=d
  ·exact c
  ·rw[x4 d (by lia)]at h;cases h
def a0v(h:tb m k d S=p4)(hd:d<200):lev m k S<=d:=(a3F h hd).2.1
def a5N(h:tb m k d S=p4)(hd:d<200):tb m k e S=p4↔lev m k S<=e:=by
 obtain⟨h1,h2,h3⟩:=a3F h hd;refine⟨λz=>?_,λz=>T1 h1 z⟩;by_cases c:lev m k S<=e
 ·exact c
 ·rw[h3 e (by lia)]at z;cases z
def X8(h:tb m k d S=p4)(hd:d<200):lev m k S=0↔S.length=1:=by
 have:=a5N (e:=0) h hd;rw[Nat.le_zero]at this;rw[<-this];exact decide_eq_true_iff
def V0(h:tb m k d S=p4)(hd:d<200)(h1:S.length≠1):∃e a,lev m k S=e+1/\lta m k e S=cz a/\m6 m k S=.int (a:Nat):=by
 obtain⟨z1,z2,z3⟩:=a3F h hd;have h0:lev m k S≠0:=λz=>h1 ((X8 h hd).mp z)
 obtain⟨e,he⟩:∃e,lev m k S=e+1:=⟨lev m k S-1,by lia⟩;rw[he]at z1 z2 z3;have hf:=z3 e (by lia);rw[a1j,hf,sA]at z1;obtain⟨a,ha⟩:=fL.mp z1;exact⟨e,a,he,ha,a5J h1 hf ha (by lia)⟩
def mxl(l:List Nat):Nat:=l.foldl max 0
def a1L{l:List Nat}{q:Nat}:mxl l<=q↔∀x∈l,x<=q:=by
 have key:∀(l:List Nat) (b:Nat),l.foldl max b<=q↔b<=q/\∀x∈l,x<=q:=by
  intro l
  induction l with
  |nil=>intro b;simp
  |cons y l ih=>
   intro b;rw[pD,ih,List.forall_mem_cons]
   constructor
   ·rintro⟨z1,z2⟩;exact⟨by lia,by lia,z2⟩
   ·rintro⟨z1,z2,z3⟩;exact⟨by lia,z3⟩
 unfold mxl;rw[key];simp
def plv(m:l8)(k a:Nat)(S:List Int):Nat:=mxl ((anL m a (S.zip S)).map λx=>lev m k (prt m a S x))
def P4{x:Int}:x∈anL m a (S.zip S)↔∃s∈S,(stp m s a).1=x:=by
 rw[P3]
 constructor
 ·rintro⟨p,hp,z⟩;exact⟨p.1,by have:=fD (show (p.1,p.2)∈S.zip S from hp);exact this.1,z⟩
 ·rintro⟨s,hs,z⟩;refine⟨(s,s),?_,z⟩;obtain⟨j,hj⟩:=bE.mp hs;refine bE.mpr ⟨j,?_⟩;rw[gM];exact⟨hj,hj⟩
def a5O{D:Nat}(hD:D<200)(h:tst (tb m k D) m a S=p4):tst (tb m k e) m a S=p4↔plv m k a S<=e:=by
 unfold tst at h ⊢;rw[ak]at h ⊢;unfold plv;rw[a1L]
 constructor
 ·rintro⟨_,z⟩ q hq;obtain⟨x,hx,rfl⟩:=aO.mp hq;obtain⟨s,hs,rfl⟩:=P4.mp hx;exact (a5N (aT.mp h.2 s hs) hD).mp (aT.mp z s hs)
 ·intro z;refine⟨h.1,aT.mpr λs hs=>?_⟩;exact (a5N (aT.mp h.2 s hs) hD).mpr (z _ (aO.mpr ⟨_,P4.mpr ⟨s,hs,rfl⟩,rfl⟩))
def a8K{D:Nat}(hD:D<199)(ha:a<k)(h:tst (tb m k D) m a S=p4):tb m k (D+1) S=p4/\lev m k S<=plv m k a S+1:=by
 have up:∀e,tst (tb m k e) m a S=p4->tb m k (e+1) S=p4:=λe z=>by
  show (tb m k e S||(aQ k).any λa=>tst (tb m k e) m a S)=p4;exact yi.mpr (.inr (cP.mpr ⟨a,bO.mpr ha,z⟩))
 have h1:=up D h;refine⟨h1,?_⟩;exact (a5N h1 (by lia)).mp (up _ ((a5O (by lia) h).mpr (aE _)))
def a5P(h:tb m k d S=p4)(hd:d<199)(he:lev m k S=e+1)(ha:lta m k e S=cz a):a<k/\tst (tb m k e) m a S=p4/\plv m k a S=e/\∀b<a,tst (tb m k 150) m b S=p4->e<plv m k b S:=by
 obtain⟨a1,a2⟩:=a1k ha;have hle:=a0v h (by lia);refine⟨a1,a2,pC ((a5O (by lia) a2).mp a2) ?_,λb hb z=>?_⟩
 ·have:=(a8K (by lia) a1 a2).2;lia
 ·unfold lta at ha;rw[gZ]at ha;have:=ha.2.2 b hb;rw[jX]at this;by_cases c:plv m k b S<=e
  ·have z2:=(a5O (e:=e) (by lia) z).mpr c;rw[this]at z2;cases z2
  ·lia
end
def a1m(m:l8)(k:Nat)(S:List Int):Nat:=match m6 m k S with
 |.int a=>a.toNat
 |_=>0
def a2C{m:l8}{k a:Nat}{S:List Int}(h:m6 m k S=.int (a:Nat)):a1m m k S=a:=by
 unfold a1m;rw[h];rfl
def gT(m:l8)(k:Nat):Nat->BG->D
 |0,_=>.none
 |f+1,B=>if B.length=1 then .int (B.getD 0 (0,0)).2 else .tuple [.int (a1m m k (X6 (B.map (·.1))):Nat),.list ((srt (anL m (a1m m k (X6 (B.map (·.1)))) B)).map λx=>.tuple [.int x,gT m k f (gp m (a1m m k (X6 (B.map (·.1)))) B x)])]
structure KB (m:l8) (k:Nat) (B:BG) (S:List Int):Prop where
 set:SetK m S
 mem:∀s,s∈B.map (·.1)↔s∈S
 nd:(B.map (·.1)).Nodup
 told:tb m k 140 S=p4
section
variable {m:l8}{k:Nat}{B:BG}{S:List Int}
def KB.perm(h:KB m k B S):(B.map (·.1)).Perm S:=(gE h.nd (h.set.1.imp λz=>by lia)).mpr h.mem
def KB.len(h:KB m k B S):B.length=S.length:=by have:=h.perm.length_eq;rw[au]at this;exact this
def KB.setEq(h:KB m k B S):X6 (B.map (·.1))=S:=X7 (D5 _) h.set.1 λx=>by rw[D4];exact h.mem x
def KB.part(w:WF m k)(h:KB m k B S){a e:Nat}(ha:a<k)(ht:tst (tb m k e) m a S=p4)(he:e<=140){x:Int}(hx:x∈anL m a B):KB m k (gp m a B x) (prt m a S x)/\lev m k (prt m a S x)<=e:=by
 obtain⟨p,hp,vT⟩:=P3.mp hx;have vV:p.1∈S:=(h.mem p.1).mp (bw hp);unfold tst at ht;rw[ak]at ht;have oF:((B.map (·.1)).map λs=>stp m s a).Nodup:=aP (by rw[<-a4T (m:=m) (a:=a) h.perm]at ht;exact ht.1);have h1:tb m k e (prt m a S x)=p4:=by rw[<-vT];exact aT.mp ht.2 p.1 vV
 refine⟨⟨by rw[<-vT];exact SetK.prt w h.set ha vV,λs=>?_,by rw[P0];exact a3D oF,T1 h1 he⟩,a0v h1 (by lia)⟩;rw[P0,a2z,a2A];exact⟨λ⟨q,hq,z⟩=>⟨q,(h.mem q).mp hq,z⟩,λ⟨q,hq,z⟩=>⟨q,(h.mem q).mpr hq,z⟩⟩
def KB.ind(w:WF m k){P:BG->List Int->Prop}(h1:∀(p:Int×Int) (S:List Int),KB m k [p] S->S.length=1->P [p] S)
  (h2:∀(B:BG) (S:List Int) (e a:Nat),KB m k B S->S.length≠1->lev m k S=e+1->lta m k e S=cz a->m6 m k S=.int (a:Nat)->a<k->e<140->(∀x∈anL m a B,KB m k (gp m a B x) (prt m a S x)/\lev m k (prt m a S x)<=e/\P (gp m a B x) (prt m a S x))->P B S) :
  ∀{B:BG} {S:List Int},KB m k B S->P B S:=by
 have key:∀(j:Nat) (B:BG) (S:List Int),lev m k S=j->KB m k B S->P B S:=by
  intro j
  induction j using Hq with
  |_ j ih=>
   intro B S hj h;by_cases c:S.length=1
   ·obtain⟨p,rfl⟩:∃p,B=[p]:=by
     match B,h.len.trans c with
     |[p],_=>exact⟨p,rfl⟩
    exact h1 p S h c
   ·obtain⟨e,a,he,ha,fK⟩:=V0 h.told (by lia) c;have hle:=a0v h.told (by lia);obtain⟨a1,a2⟩:=a1k ha;refine h2 B S e a h c he ha fK a1 (by lia) λx hx=>?_
    obtain⟨p1,p2⟩:=h.part w a1 a2 (by lia) hx;exact⟨p1,p2,ih _ (by lia) _ _ rfl p1⟩
 exact λ{B S} h=>key _ B S rfl h
def a3G{f:Nat}{p:Int×Int}:gT m k (f+1) [p]=.int p.2:=rfl
def E3(h:KB m k B S)(hS:S.length≠1){a:Nat}(fK:m6 m k S=.int (a:Nat)){f:Nat}:gT m k (f+1) B=.tuple [.int (a:Nat),.list ((srt (anL m a B)).map λx=>.tuple [.int x,gT m k f (gp m a B x)])]:=by
 show (if B.length=1 then _ else _)=_;rw[aL (by rw[h.len];exact hS),h.setEq,a2C fK]
def b5Z(w:WF m k)(h:KB m k B S):∀f f',lev m k S<f->lev m k S<f'->gT m k f B=gT m k f' B:=by
 refine KB.ind w (P:=λB S=>∀f f',lev m k S<f->lev m k S<f'->gT m k f B=gT m k f' B) (λp S _ _ f f' hf lh=>?_) (λB S e a h hS he _ fK _ _ hp f f' hf lh=>?_) h
 ·obtain⟨f,rfl⟩:∃q,f=q+1:=⟨f-1,by lia⟩;obtain⟨f',rfl⟩:∃q,f'=q+1:=⟨f'-1,by lia⟩;rfl
 ·obtain⟨f,rfl⟩:∃q,f=q+1:=⟨f-1,by lia⟩;obtain⟨f',rfl⟩:∃q,f'=q+1:=⟨f'-1,by lia⟩;rw[E3 h hS fK,E3 h hS fK]
  congr 4;refine bY λx hx=>?_
  obtain⟨_,q2,q3⟩:=hp x ((k9 _).mem_iff.mp hx);rw[q3 f f' (by lia) (by lia)]
def b3I{a:Nat}{B B':BG}(h:∀x,x∈anL m a B↔x∈anL m a B'):srt (anL m a B)=srt (anL m a B'):=by
 rw[Y9 (L:=anL m a B) (a5M _),Y9 (L:=anL m a B') (a5M _)];exact X7 (D5 _) (D5 _) λx=>by rw[D4,D4];exact h x
theorem a9F:∀(f:Nat) {B B':BG},B.Perm B'->gT m k f B=gT m k f B'
 |0,_,_,_=>rfl
 |f+1,B,B',h=>by
  have hs:X6 (B.map (·.1))=X6 (B'.map (·.1)):=X7 (D5 _) (D5 _) λx=>by rw[D4,D4];exact (h.map _).mem_iff
  show (if B.length=1 then _ else _)=(if B'.length=1 then _ else _);rw[h.length_eq];by_cases c:B'.length=1
  ·rw[aG c,aG c];obtain⟨p,rfl⟩:∃p,B'=[p]:=by
    match B',c with
    |[p],_=>exact⟨p,rfl⟩
   rw[List.perm_singleton.mp h]
  ·rw[aL c,aL c,hs];generalize a1m m k (X6 (B'.map (·.1)))=a;rw[b3I (B:=B) (B':=B') λx=>by rw[P3,P3];exact⟨λ⟨p,hp,z⟩=>⟨p,h.mem_iff.mp hp,z⟩,λ⟨p,hp,z⟩=>⟨p,h.mem_iff.mpr hp,z⟩⟩]
   congr 4;refine bY λx _=>?_
   rw[a9F f (B:=gp m a B x) (B':=gp m a B' x) ((h.filter _).map _)]
end
def C0(S:List Int):imm (i5 S)=p4:=by unfold i5;simp only[imm];exact B7 S
def a8L(w:WF m k):S7 [.list (m.map rwD)]=cz (.int k):=by
 unfold S7;rw[D0 (by simp[VS.argsOk])];unfold a4I;have hp:=w.pos;walk_at "ev";rw[b3t (by lia) (by lia)];walk_at "ev";rw[w.row (by lia) (by lia)]
def c0P(h:f U=cz (bgD B)):iIt f U=cz (B.map stD):=by
 unfold iIt;rw[h,cF];show (if keysOk rp (kvD aF B) then cz ((kvD aF B).map a3i) else el)=_;rw[aG (show keysOk rp (kvD aF B)=p4 from a9C)];unfold kvD;rw[bF];rfl
def a3H{B:BG}{p:Int×Int}:D6 m a ((B++[p]).map (·.1))=(D6 m a (B.map (·.1))&&!decide (stp m p.1 a∈B.map λp=>stp m p.1 a)):=by
 unfold D6;rw[eM,ak,df,df,bF,bF,aW,bb,jX,decide_eq_false_iff_not]
 constructor
 ·rintro⟨h1,_,h3⟩;exact⟨h1,λz=>h3 _ z _ (aq.mpr rfl) rfl⟩
 ·rintro⟨h1,h2⟩;exact⟨h1,by simp,λx hx y hy e=>h2 (by have:=aq.mp hy;subst this;subst e;exact hx)⟩
def b3J{B C:BG}(h:D6 m a ((B++C).map (·.1))=p4):D6 m a (B.map (·.1))=p4:=by
 unfold D6 at h ⊢;rw[df]at h ⊢;rw[aW,aW]at h;exact (bb.mp h).1
section
variable {m:l8}{k:Nat}(w:WF m k){a:Nat}(ha:a<k)
include w ha
theorem a1n(hB:∀p∈B,0<=p.1/\p.1<(m.length:Int))(hl:B.length<1000):y9 [.list (m.map rwD),bgD B,.int a]=cz (if D6 m a (B.map (·.1)) then ptD m a B else .none):=by
 unfold y9;rw[D0 (by simp[VS.argsOk,imm])];unfold a2g;walk_at "ev";rw[a1a (c0P (B:=B) (by walk_at "ev")) (p8 _ (λ_=>a8E) _)];walk_at "ev";rcases Y8 (enc:=stD) (set:=a5p 4 5) (xs:=B) (g:=(i6 (l7 6 (e2 J8 (e2 dIx (b7 0) (b7 4)) (b7 2))) (i6 (a3l 3 rp rp (e2 J8 (b7 6) (eC (.int 0))) (e2 J8 (b7 6) (eC (.int 1))) (eC .none) (b7 5)) u6))) (U:=[.list (m.map rwD),bgD B,.int a,.dict [],.none,.none,.none,.none])
   (λpre U=>D6 m a (pre.map (·.1))=p4/\∃x y z,U=[.list (m.map rwD),bgD B,.int a,ptD m a pre,x,y,z,.none]) (λr=>r=.none/\D6 m a (B.map (·.1))=rp) ⟨rfl,_,_,_,rfl⟩ (by
    rintro pre p post e U ⟨hf,x,y,z,rfl⟩;have hp:=hB p (by rw[e];simp);have hr:=w.row hp.1 hp.2;have f_:pre.length<1000:=by rw[e,ba]at hl;lia
    refine⟨[.list (m.map rwD),bgD B,.int a,ptD m a pre,.int p.1,.int p.2,z,.none],rfl,?_⟩;have hc:l7 6 (e2 J8 (e2 dIx (b7 0) (b7 4)) (b7 2)) [.list (m.map rwD),bgD B,.int a,ptD m a pre,.int p.1,.int p.2,z,.none]=cz (.nx [.list (m.map rwD),bgD B,.int a,ptD m a pre,.int p.1,.int p.2,stD (stp m p.1 a),.none]):=by
     walk_at "ev";rw[b3t hp.1 hp.2];walk_at "ev";rw[c0y (by lia) (by lia)];walk_at "ev";rfl
    have hs:=b5Y (m:=m) (a:=a) (B:=pre) (p:=p) (i:=3) (fk:=e2 J8 (b7 6) (eC (.int 0))) (fj:=e2 J8 (b7 6) (eC (.int 1))) (fr:=eC .none) (fv:=b7 5) (U:=[.list (m.map rwD),bgD B,.int a,ptD m a pre,.int p.1,.int p.2,stD (stp m p.1 a),.none]) rfl rfl (λ_=>rfl) (λ_=>rfl) (λ_=>rfl) f_;rw[H9,hc,B6,H9,hs];by_cases c:stp m p.1 a∈pre.map λp=>stp m p.1 a
    ·rw[aG c];refine .inr ⟨_,rfl,rfl,?_⟩;cases x:D6 m a (B.map (·.1)) with
     |false=>rfl
     |true=>
      have e2:B=(pre++[p])++post:=by rw[e];simp
      rw[e2]at x;have:=b3J x;rw[a3H,aA c,hf]at this;cases this
    ·rw[aL c];refine .inl ⟨_,rfl,?_,_,_,_,rfl⟩;rw[a3H,aS c,hf];rfl) with⟨U',g1,hf,x,y,z,rfl⟩|⟨r,g1,rfl,hf⟩
 ·rw[g1];walk_at "ev";rw[aG hf]
 ·rw[g1];walk_at "ev";rw[aL (by rw[hf];exact aY)]
end
def bhD(m:l8)(a:Nat)(S:List Int):D:=if D6 m a S then .list ((anL m a (S.zip S)).map λx=>i5 (prt m a S x)) else .none
def C5(S:List Int):(S.zip S).map (·.1)=S:=by rw[Gn (aE _)]
def a3I(h:f U=cz (if l then iD S else i5 S))(hn:S.Nodup)(hl:S.length<1000):K5 l f f U=cz (bgD (S.zip S)):=by
 have hq:b5C l (if l then iD S else i5 S)=cz S:=by cases l<;>exact N7 S
 unfold K5;rw[h,cF,cF,hq,cF,cF,aG]
 ·rfl
 ·unfold a9v;rw[aA rfl,aA hn,aA (by lia)];rfl
def c0Q(h:f U=cz (.dict (v7 g ks))):iVa f U=cz (ks.map g):=by
 unfold iVa;rw[h,cF];show (if keysOk rp (v7 g ks) then cz ((v7 g ks).map (·.2)) else el)=_;rw[aG a2k];unfold v7;rw[bF];rfl
section
variable {m:l8}{k:Nat}(w:WF m k)
include w
theorem a3J(hS:SetK m S)(hl:S.length<=30):A4 [.list (m.map rwD),i5 S]=cz (.list ((aQ k).map λ(a:Nat)=>bhD m a S)):=by
 have zr:=w.k5;have oX:=w.pos;have jk:S.Nodup:=hS.1.imp λh=>by lia
 unfold A4;rw[D0 (by simp[VS.argsOk,C0])];unfold Z9;walk_at "ev";rw[show iR (eCl S7 (b8 (b7 0) g8)) [.list (m.map rwD),i5 S,.list [],.none,.none]=cz (J9 0 k) by
  rw[a7O (n:=k) (by walk_at "ev";exact a8L w) (by lia) (by lia),bU]]
 walk_at "ev";refine a5A (λU=>∃x y,U=[.list (m.map rwD),i5 S,.list ((aQ k).map λ(a:Nat)=>bhD m a S),x,y]) ?_ ?_
 ·obtain⟨U',g1,x,y,rfl⟩:=N9 (n:=k) (set:=v5 3) (g:=(i6 (l7 4 (eCl y9 (b8 (b7 0) (b8 (K5 rp (b7 1) (b7 1)) (b8 (b7 3) g8))))) (N5 2 (.l .f) A7 (eIf (tB (e2 (J6 rp) (b7 4) (eC .none))) (eC .none) (n4 (iVa (b7 4)) [] pt1 tT (F5 (p0 (b7 0)))))))) (U:=[.list (m.map rwD),i5 S,.list [],.none,.none])
   (λj U=>∃x y,U=[.list (m.map rwD),i5 S,.list ((aQ j).map λ(a:Nat)=>bhD m a S),x,y]) ⟨_,_,rfl⟩ (by
    rintro a ha U ⟨x,y,rfl⟩;have hp:=a1n w ha (B:=S.zip S) (λp hp=>hS.2.2 p.1 (by have:=bw (f:=xm) hp;rw[C5]at this;exact this)) (by rw[cZ];lia);rw[C5]at hp;have hc:l7 4 (eCl y9 (b8 (b7 0) (b8 (K5 rp (b7 1) (b7 1)) (b8 (b7 3) g8)))) [.list (m.map rwD),i5 S,.list ((aQ a).map λ(a:Nat)=>bhD m a S),.int a,y]=cz (.nx [.list (m.map rwD),i5 S,.list ((aQ a).map λ(a:Nat)=>bhD m a S),.int a,if D6 m a S then ptD m a (S.zip S) else .none]):=by
     walk_at "ev";rw[a3I (l:=rp) (S:=S) (by rfl) jk (by lia)];walk_at "ev";rw[hp];rfl
    refine⟨_,[.list (m.map rwD),i5 S,.list ((aQ (a+1)).map λ(a:Nat)=>bhD m a S),.int a,if D6 m a S then ptD m a (S.zip S) else .none],rfl,?_,_,_,rfl⟩;show (i6 (l7 4 (eCl y9 (b8 (b7 0) (b8 (K5 rp (b7 1) (b7 1)) (b8 (b7 3) g8))))) (N5 2 (.l .f) A7 (eIf (tB (e2 (J6 rp) (b7 4) (eC .none))) (eC .none) (n4 (iVa (b7 4)) [] pt1 tT (F5 (p0 (b7 0))))))) [.list (m.map rwD),i5 S,.list ((aQ a).map λ(a:Nat)=>bhD m a S),.int a,y]=_;rw[H9,hc,B6];have hv:eIf (tB (e2 (J6 rp) (b7 4) (eC .none))) (eC .none) (n4 (iVa (b7 4)) [] pt1 tT (F5 (p0 (b7 0)))) [.list (m.map rwD),i5 S,.list ((aQ a).map λ(a:Nat)=>bhD m a S),.int a,if D6 m a S then ptD m a (S.zip S) else .none]=cz (bhD m a S):=by
     cases hf:D6 m a S with
     |false=>
      unfold bhD;rw[hf];rfl
     |true=>
      have lh:(S.map λs=>stp m s a).Nodup:=aP hf;rw[b9O];show b4U (lT (cz (.bool rp))) _ _ _=_;have qF:=Q4 (m:=m) (a:=a) (B:=S.zip S);rw[cZ]at qF;show (n4 (iVa (b7 4)) [] pt1 tT (F5 (p0 (b7 0)))) [.list (m.map rwD),i5 S,.list ((aQ a).map λ(a:Nat)=>bhD m a S),.int a,ptD m a (S.zip S)]=_;rw[L8 (enc:=λx=>bgD (gp m a (S.zip S) x)) (xs:=anL m a (S.zip S)) (λx=>i5 (prt m a S x)) (by exact c0Q rfl) (by lia) (λx _=>⟨_,rfl,?_⟩)]
      ·unfold bhD;rw[hf];rfl
      ·have hg:=a7k (m:=m) (a:=a) (B:=S.zip S) (x:=x);rw[cZ]at hg;rw[a3n];rw[T2 (kvs:=kvD aF (gp m a (S.zip S) x)) (es:=(gp m a (S.zip S) x).map (·.1)) rfl a5H (by rw[au];lia),P0,C5,Y9 (a3D lh)];exact X3
    rw[b2j,hv];show b0k 2 (.list _) (cz (bhD m a S)) _=_;rw[Q3 (by rw[au,eE];lia),List.range_succ,aW];rfl)
  exact⟨_,g1,_,_,rfl⟩
 ·rintro U ⟨x,y,rfl⟩;walk_at "ev"
end
def optN:Option Nat->D
 |none=>.none
 |some a=>.int a
def tsl(m:l8)(l:List (List Int))(a:Nat)(S:List Int):Bool:=D6 m a S&&(anL m a (S.zip S)).all λx=>decide (prt m a S x∈l)
theorem a2l:∀(l:List D) (j:Nat),N8 l j=(aQ l.length).map λ(s:Nat)=>dB [.int ((j+s:Nat):Int),l.getD s .none]
 |[],j=>rfl
 |d::l,j=>by
  show dB [.int j,d]::N8 l (j+1)=_;rw[a2l l,be,List.range_succ_eq_map,av,bF]
  congr 1;refine bY λs _=>?_
  show dB [.int ((j+1+s:Nat):Int),_]=dB [.int ((j+(s+1):Nat):Int),_];rw[show j+1+s=j+(s+1) by lia];rfl
def a7l(f:Nat->D)(k:Nat):N8 ((aQ k).map f) 0=(aQ k).map λ(a:Nat)=>dB [.int (a:Int),f a]:=by
 rw[a2l,au,eE];refine bY λa ha=>?_
 rw[Nat.zero_add,aN,a_,mn (bO.mp ha)];rfl
def a1M{S:List Int}(hk:k<=5)(hl:S.length<=30):u5 [.list ((aQ k).map λ(a:Nat)=>bhD m a S),.dict (f7 g l)]=cz (optN ((aQ k).find? λa=>tsl m l a S)):=by
 unfold u5;rw[D0 (by simp[VS.argsOk])];unfold V4;walk_at "ev";rw[c2e (ds:=(aQ k).map λ(a:Nat)=>bhD m a S) (by walk_at "ev"),a7l];walk_at "ev";rcases Y8 (enc:=λ(a:Nat)=>dB [.int (a:Int),bhD m a S]) (set:=a5p 2 3) (xs:=aQ k) (g:=(sIf (tAn (tB (e2 (J6 p4) (b7 3) (eC .none))) (tV (eCl b0b (b8 (n4 (iL (b7 3)) [1] pt1 tT (e2 (a5t rp p4) (b7 0) (b7 1))) g8)))) (m8 (eIm (b7 2))) u6)) (U:=[.list ((aQ k).map λ(a:Nat)=>bhD m a S),.dict (f7 g l),.none,.none])
   (λpre U=>(∀b∈pre,tsl m l b S=rp)/\∃x y,U=[.list ((aQ k).map λ(a:Nat)=>bhD m a S),.dict (f7 g l),x,y]) (λr=>r=optN ((aQ k).find? λa=>tsl m l a S)) ⟨λb hb=>(nomatch hb),_,_,rfl⟩ (by
    rintro pre a post e U ⟨hb,x,y,rfl⟩;obtain⟨r1,r2,r3⟩:=a2e e;refine⟨[.list ((aQ k).map λ(a:Nat)=>bhD m a S),.dict (f7 g l),.int a,bhD m a S],rfl,?_⟩;have ht:(tAn (tB (e2 (J6 p4) (b7 3) (eC .none))) (tV (eCl b0b (b8 (n4 (iL (b7 3)) [1] pt1 tT (e2 (a5t rp p4) (b7 0) (b7 1))) g8)))) [.list ((aQ k).map λ(a:Nat)=>bhD m a S),.dict (f7 g l),.int a,bhD m a S]=cz (tsl m l a S):=by
     unfold tsl;cases hf:D6 m a S with
     |false=>
      have:bhD m a S=.none:=by unfold bhD;rw[hf];rfl
      rw[this];rfl
     |true=>
      have Ff:bhD m a S=.list ((anL m a (S.zip S)).map λx=>i5 (prt m a S x)):=by unfold bhD;rw[hf];rfl
      have qF:=Q4 (m:=m) (a:=a) (B:=S.zip S);rw[cZ]at qF;rw[Ff];walk_at "ev";rw[L8 (enc:=λx=>i5 (prt m a S x)) (xs:=anL m a (S.zip S)) (λx=>dw ((λx=>decide (prt m a S x∈l)) x)) (by walk_at "ev") (by lia) (λx _=>⟨_,rfl,?_⟩)]
      ·walk_at "ev";rw[v_all (λx=>decide (prt m a S x∈l))];rfl
      ·walk_at "ev";rw[b6F];simp
    rw[b6u,ht];cases x:tsl m l a S with
    |false=>exact .inl ⟨_,rfl,λb kF=>(aB.mp kF).elim (hb b) λq=>by rw[aq.mp q];exact x,_,_,rfl⟩
    |true=>
     refine .inr ⟨.int a,rfl,?_⟩;have:((aQ k).find? λa=>tsl m l a S)=cz a:=by
      rw[gZ];refine⟨x,bO.mpr r2,λj hj=>?_⟩;rw[hb j (by rw[r3];exact bO.mpr hj)];rfl
     rw[this];rfl) with⟨U',g1,hb,x,y,rfl⟩|⟨r,g1,rfl⟩
 ·rw[g1];walk_at "ev";rw[fg.mpr λa ha=>by rw[hb a ha];exact aY];rfl
 ·rw[g1];walk_at "ev"
def b8O:dIn neg p4 (i5 a) (.dict (f7 g l))=cz (.bool (neg !=decide (a∈l))):=by
 show (if m9 p4 (i5 a) then cz (dw (neg !=v6 (f7 g l) (i5 a))) else el)=_;rw[S9,M8];rfl
def b8P(h:a U=cz (.dict (f7 g l))):tVD a U=cz !l.isEmpty:=by
 unfold tVD;rw[h];cases l<;>rfl
def b8Q{U:List D}(hi:U.getD i .none=.dict (f7 g l))(hj:U.getD j .none=.dict (f7 g l'))(gy:l≠[])(hd:∀p∈l',p∉l)(hl:l.length+l'.length<=1000000):b0B i j U=cz (.nx (U.set i (.dict (f7 g (l++l'))))):=by
 unfold b0B;rw[hi,hj];show (if !(f7 g l).isEmpty&&((f7 g l').all λp=>!v6 (f7 g l) p.1)&&decide ((f7 g l).length+(f7 g l').length<=1000000) then _ else el)=_;rw[aG]
 ·unfold f7;rw[aW]
 ·rw[a3A,a3A,aA hl,dE,ak]
  constructor
  ·cases l with
   |nil=>exact absurd rfl gy
   |cons _ _=>rfl
  ·rw[aT];intro p hp;unfold f7 at hp;obtain⟨q,hq,rfl⟩:=aO.mp hp;rw[M8,aS (hd q hq)];rfl
def a1o{l L:List (List Int)}{f:List Int->Option Nat}(hg:∀S∈L,gm [i5 S,.dict (f7 g l)]=cz (optN (f S)))(hv:∀S∈L,∀a,f S=cz a->g S=.int a)(hn:L.Nodup)(hl:L.length<=1000):p9 gm [.dict (f7 g l),.list (L.map i5)]=cz (.dict (f7 g (L.filter λS=>(f S).isSome))):=by
 unfold p9;rw[b6D (by simp[VS.argsOk])];show a0R (K1 gm [.dict (f7 g l),.list (L.map i5),.none,.none,.none,.none])=_;unfold K1;walk_at "ev";rw[a1a (ds:=L.map i5) (by walk_at "ev") (p8 _ C0 _)];walk_at "ev";refine a5A (λU=>∃x y,U=[.dict (f7 g l),.list (L.map i5),.none,.dict (f7 g (L.filter λS=>(f S).isSome)),x,y]) ?_ ?_
 ·obtain⟨U',g1,x,y,rfl⟩:=J1 (enc:=i5) (set:=v5 4) (xs:=L) (g:=(i6 (l7 5 (eCl gm (b8 (b7 4) (b8 (b7 0) g8)))) (sIf (tB (e2 (J6 p4) (b7 5) (eC .none))) (I9 3 p4 (b7 4) (b7 5)) u6))) (U:=[.dict (f7 g l),.list (L.map i5),.none,.dict [],.none,.none])
   (λpre U=>∃x y,U=[.dict (f7 g l),.list (L.map i5),.none,.dict (f7 g (pre.filter λS=>(f S).isSome)),x,y]) ⟨_,_,rfl⟩ (by
    rintro pre S post e U ⟨x,y,rfl⟩;have hS:S∈L:=by rw[e];simp
    have hp:=hg S hS;have iN:S∉pre:=by
     rw[e]at hn;have:=bb.mp hn;exact λz=>this.2.2 S z S ah rfl
    have hlen:(pre.filter λS=>(f S).isSome).length<1000000:=by
     have h1:=fq (λS=>(f S).isSome) pre;have h2:pre.length<=L.length:=by rw[e];simp
     lia
    have hc:l7 5 (eCl gm (b8 (b7 4) (b8 (b7 0) g8))) [.dict (f7 g l),.list (L.map i5),.none,.dict (f7 g (pre.filter λS=>(f S).isSome)),i5 S,y]=cz (.nx [.dict (f7 g l),.list (L.map i5),.none,.dict (f7 g (pre.filter λS=>(f S).isSome)),i5 S,optN (f S)]):=by
     walk_at "ev";rw[hp];walk_at "ev"
    refine⟨_,[.dict (f7 g l),.list (L.map i5),.none,.dict (f7 g ((pre++[S]).filter λS=>(f S).isSome)),i5 S,optN (f S)],rfl,?_,_,_,rfl⟩;show (i6 (l7 5 (eCl gm (b8 (b7 4) (b8 (b7 0) g8)))) (sIf (tB (e2 (J6 p4) (b7 5) (eC .none))) (I9 3 p4 (b7 4) (b7 5)) u6)) [.dict (f7 g l),.list (L.map i5),.none,.dict (f7 g (pre.filter λS=>(f S).isSome)),i5 S,y]=_;rw[H9,hc,B6,fW];cases x:f S with
    |none=>
     rw[eJ (by rw[x];exact aY),Hs,bK];rfl
    |some a=>
     rw[eH (by rw[x];rfl),Hs];show I9 3 p4 (b7 4) (b7 5) [.dict (f7 g l),.list (L.map i5),.none,.dict (f7 g (pre.filter λS=>(f S).isSome)),i5 S,.int a]=_;rw[a2y (g:=g) (a:=S) (l:=pre.filter λS=>(f S).isSome) (by rw[hv S hS a x];rfl) rfl rfl hlen λz=>iN (bg.mp z).1];unfold a5I;rw[aL λz=>iN (bg.mp z).1];rfl)
  exact⟨_,g1,_,_,rfl⟩
 ·rintro U ⟨x,y,rfl⟩;walk_at "ev"
section
variable {m:l8}{k:Nat}{A:List (List Int)}(hA:A.Nodup)(uS:A.length<=150)(h1:kdS m k A 0≠[])(hok:J0 (f7 (m6 m k) (kdS m k A 0))=p4)
include hA uS h1 hok
theorem a0w(EH:∀d,d<=150->∀S∈lfS m k A d,gm [i5 S,.dict (f7 (m6 m k) (kdS m k A d))]=cz (optN (lta m k d S))):∃d,s9 gm [.dict (f7 (m6 m k) (kdS m k A 0)),.list ((lfS m k A 0).map i5)]=cz (.dict (f7 (m6 m k) (kdS m k A d)))/\nwS m k A d=[]/\d<=(lfS m k A 0).length:=by
 have xJ:∀d,(lfS m k A d).length<=150:=λd=>cA (fq _ _) uS
 have Bv:∀d,(kdS m k A d).length<=150:=λd=>cA (b3D (b3F hA d) λx hx=>(E2.mp hx).1) uS
 have round:∀d,d<=150->p9 gm [.dict (f7 (m6 m k) (kdS m k A d)),.list ((lfS m k A d).map i5)]=cz (.dict (f7 (m6 m k) (nwS m k A d))):=λd hd=>a1o (f:=lta m k d) (EH d hd) (λS hS a ha=>by
  have mQ:=U9.mp hS;exact a5J (λz=>by have:=T1 (show tb m k 0 S=p4 from aA z) (cI d);rw[mQ.2]at this;cases this) mQ.2 ha (by lia)) (hA.filter _) (by have:=xJ d;lia)
 have hu:s9 gm [.dict (f7 (m6 m k) (kdS m k A 0)),.list ((lfS m k A 0).map i5)]=a0R (J3 gm [.dict (f7 (m6 m k) (kdS m k A 0)),.list ((lfS m k A 0).map i5),.none,.none,.none]):=by
  unfold s9;rw[b6D (by simp[VS.argsOk])];rfl
 rw[hu];unfold J3;walk_at "ev";rw[show a5x (b7 0) [.dict (f7 (m6 m k) (kdS m k A 0)),.list ((lfS m k A 0).map i5),.none,.none,.none]=cz (.dict (f7 (m6 m k) (kdS m k A 0))) by
  show (if J0 (f7 (m6 m k) (kdS m k A 0)) then cz (bh.dict (f7 (m6 m k) (kdS m k A 0))) else el)=_;rw[aG hok]]
 walk_at "ev";rw[b6E (ds:=[.dict (f7 (m6 m k) (kdS m k A 0)),.list ((lfS m k A 0).map i5)]) (by walk_at "ev"),round 0 (by lia)];walk_at "ev";obtain⟨U',g1,d,x,y,rP,hd,rfl⟩:=a9B (c:=(tVD (b7 4))) (g:=(i6 (b0B 3 4) (i6 (l7 1 (n4 (iI (iL (b7 1))) [4] pt1 (tB (e2 (dIn p4 p4) (b7 0) (b7 1))) (b7 0))) (l7 4 (b0K p9 gm (b8 (b7 3) (b8 (b7 1) g8)))))))
  (I:=λd U=>d+(lfS m k A d).length<=(lfS m k A 0).length/\U=[.dict (f7 (m6 m k) (kdS m k A 0)),.list ((lfS m k A d).map i5),.none,.dict (f7 (m6 m k) (kdS m k A d)),.dict (f7 (m6 m k) (nwS m k A d))])
  (Q:=λU=>∃d x y,nwS m k A d=[]/\d<=(lfS m k A 0).length/\U=[.dict (f7 (m6 m k) (kdS m k A 0)),x,.none,.dict (f7 (m6 m k) (kdS m k A d)),y]) 1000 (by
   rintro d U ⟨hd,rfl⟩;have h0:=xJ 0;refine⟨by lia,?_⟩;have ht:tVD (b7 4) [.dict (f7 (m6 m k) (kdS m k A 0)),.list ((lfS m k A d).map i5),.none,.dict (f7 (m6 m k) (kdS m k A d)),.dict (f7 (m6 m k) (nwS m k A d))]=cz !(nwS m k A d).isEmpty:=b8P rfl;by_cases hV:nwS m k A d=[]
   ·refine .inl ⟨by rw[ht,hV];rfl,d,_,_,hV,by lia,rfl⟩
   ·have uI:=b3G hV;refine .inr ⟨by rw[ht];cases e:nwS m k A d with|nil=>exact absurd e hV|cons _ _=>rfl,[.dict (f7 (m6 m k) (kdS m k A 0)),.list ((lfS m k A (d+1)).map i5),.none,.dict (f7 (m6 m k) (kdS m k A (d+1))),.dict (f7 (m6 m k) (nwS m k A (d+1)))],?_,by lia,rfl⟩;have hu:=b8Q (i:=3) (j:=4) (U:=[.dict (f7 (m6 m k) (kdS m k A 0)),.list ((lfS m k A d).map i5),.none,.dict (f7 (m6 m k) (kdS m k A d)),.dict (f7 (m6 m k) (nwS m k A d))]) (g:=m6 m k) (l:=kdS m k A d) (l':=nwS m k A d) rfl rfl (λz=>by
      obtain⟨S,hS⟩:=rA _ h1;have q:=E2.mp hS;have:S∈kdS m k A d:=E2.mpr ⟨q.1,T1 q.2 (cI _)⟩;rw[z]at this;cases this) (λp hp hk=>by
      have h2:=(E2.mp hk).2;rw[(a1l.mp hp).2.1]at h2;cases h2) (by have:=Bv d;have:=xJ d;have:=fq (λS=>(lta m k d S).isSome) (lfS m k A d);unfold nwS;lia)
    have hc:n4 (iI (iL (b7 1))) [4] pt1 (tB (e2 (dIn p4 p4) (b7 0) (b7 1))) (b7 0) [.dict (f7 (m6 m k) (kdS m k A 0)),.list ((lfS m k A d).map i5),.none,.dict (f7 (m6 m k) (kdS m k A d++nwS m k A d)),.dict (f7 (m6 m k) (nwS m k A d))]=cz (.list ((lfS m k A (d+1)).map i5)):=by
     rw[a9D (enc:=i5) (xs:=lfS m k A d) (λS=>!decide (S∈nwS m k A d)) i5 ?_ (by have:=xJ d;lia),a7g]
     ·intro S hS;refine⟨_,rfl,?_,λ_=>rfl⟩;show tB (e2 (dIn p4 p4) (b7 0) (b7 1)) [i5 S,.dict (f7 (m6 m k) (nwS m k A d))]=_;walk_at "ev";rw[b8O];cases decide (S∈nwS m k A d)<;>rfl
     ·rw[a1a (ds:=(lfS m k A d).map i5) (by walk_at "ev") (p8 _ C0 _)]
    rw[H9,hu];walk_at "ev";rw[hc];walk_at "ev";rw[b6E (ds:=[.dict (f7 (m6 m k) (kdS m k A (d+1))),.list ((lfS m k A (d+1)).map i5)]) (by walk_at "ev";rfl),round (d+1) (by lia)];walk_at "ev";rfl) 1000000 0 [.dict (f7 (m6 m k) (kdS m k A 0)),.list ((lfS m k A 0).map i5),.none,.dict (f7 (m6 m k) (kdS m k A 0)),.dict (f7 (m6 m k) (nwS m k A 0))] ⟨by lia,rfl⟩ (by lia)
 rw[c0J,g1];walk_at "ev";exact⟨d,rfl,rP,hd⟩
end
end Prog
local macro_rules | `(tactic| walk_at "evn")=>`(tactic| first | (walk_at "ev";repeat (simp -implicitDefEqProofs (disch:=first | omega | assumption | decide) only [VS.a5C,VS.a5D];try walk_at "ev")) | (simp -implicitDefEqProofs (disch:=first | omega | assumption | decide) only [VS.a5C,VS.a5D];repeat (first | walk_at "ev" | simp -implicitDefEqProofs (disch:=first | omega | assumption | decide) only [VS.a5C,VS.a5D])))
namespace VS
open PySem L2
def a0h:Nat->List (List Int)
 |0=>[[]]
 |j+1=>a0h j++(a0h j).map λS=>S++[(j:Int)]
def sts(n:Nat):List (List Int):=(a0h n).drop 1
theorem T3:∀{j:Nat} {S:List Int},S∈a0h j↔S.Pairwise (· < ·)/\∀s∈S,0<=s/\s<(j:Int)
 |0,S=>by
  show S∈[[]]↔_;rw[aq]
  constructor
  ·rintro rfl;exact⟨jW,λs hs=>(nomatch hs)⟩
  ·rintro⟨_,h⟩;cases S with
   |nil=>rfl
   |cons s r=>have:=h s ah;lia
 |j+1,S=>by
  show S∈a0h j++(a0h j).map _↔_;rw[aB,aO]
  constructor
  ·rintro (h|⟨T,h,rfl⟩)
   ·have:=T3.mp h;exact⟨this.1,λs hs=>by have:=this.2 s hs;lia⟩
   ·have:=T3.mp h;refine⟨lX.mpr ⟨this.1,by simp,λa ha b hb=>?_⟩,λs hs=>?_⟩
    ·have:=this.2 a ha;rw[aq]at hb;lia
    ·rcases aB.mp hs with z|z
     ·have:=this.2 s z;lia
     ·rw[aq]at z;lia
  ·rintro⟨h1,h2⟩;by_cases c:(j:Int)∈S
   ·refine .inr ⟨S.filter λs=>decide (s<(j:Int)),T3.mpr ⟨h1.filter _,λs hs=>?_⟩,?_⟩
    ·have:=bg.mp hs;exact⟨(h2 s this.1).1,aP this.2⟩
    ·refine X7 (lX.mpr ⟨h1.filter _,by simp,λa ha b hb=>?_⟩) h1 λx=>?_
     ·rw[aq]at hb;rw[hb];exact aP (bg.mp ha).2
     ·rw[aB,bg,aq,df]
      constructor
      ·rintro (z|z)
       ·exact z.1
       ·rw[z];exact c
      ·intro z;have:=h2 x z;by_cases e:x=j
       ·exact .inr e
       ·exact .inl ⟨z,by lia⟩
   ·refine .inl (T3.mpr ⟨h1,λs hs=>⟨(h2 s hs).1,?_⟩⟩);have:=h2 s hs;have:s≠(j:Int):=λe=>c (e▸hs)
    lia
theorem a0x:∀n,a0h n=[]::sts n
 |0=>rfl
 |n+1=>by
  unfold sts;show a0h n++_=[]::List.drop 1 (a0h n++_);rw[a0x n];rfl
def a7m:∀n,n<6->(a0h n).Nodup:=by decide +kernel
def a9G:∀n,n<6->(sts n).length<=31:=by decide +kernel
def c2f:∀n,n<6->((sts n).filter λS=>!decide (S.length=1)).length<=26:=by decide +kernel
def b3K(h:n<=5):(sts n).Nodup:=by
 have:=a7m n (by lia);rw[a0x]at this;exact (bt.mp this).2
def L9{m:l8}(h:m.length<=5):S∈sts m.length↔SetK m S:=by
 have hn:=a7m m.length (by lia);have h1:=T3 (j:=m.length) (S:=S);rw[a0x]at hn h1;rw[az]at h1
 constructor
 ·intro q;have:=h1.mp (.inr q);exact⟨this.1,λe=>(bt.mp hn).1 (e▸q),this.2⟩
 ·rintro⟨q1,q2,q3⟩;exact (h1.mpr ⟨q1,q3⟩).resolve_left q2
end VS
namespace Prog
open PySem L2 VS
theorem a3K:∀{l:List α},(∀a∈l,p a=q a)->l.find? p=l.find? q
 |[],_=>rfl
 |x::l,h=>by
  rw[fZ,fZ,h x ah,a3K λa ha=>h a (ai _ ha)]
def SetK.len(h:SetK m b):b.length<=m.length:=a7c (h.1.imp λz=>by lia) h.2.2
def b6a:∀n,n<6->1<=n->J0 (f7 (λ_=>.none) ((sts n).filter λS=>decide (S.length=1)))=p4:=by decide +kernel
def b3L:∀n,n<6->1<=n->((sts n).filter λS=>decide (S.length=1))≠[]:=by decide +kernel
def b6b(h:n<6)(h1:1<=n):J0 (f7 (m6 m k) (kdS m k (sts n) 0))=p4:=by
 have:f7 (m6 m k) (kdS m k (sts n) 0)=f7 (λ_=>.none) ((sts n).filter λS=>decide (S.length=1)):=by
  unfold f7 kdS;refine bY λS hS=>?_
  rw[show m6 m k S=.none from aG (aP (bg.mp hS).2)]
 rw[this];exact b6a n h h1
def a8M:∀n:Nat,n<=5->a1G [.int n]=cz (.list ((sts n).map i5))
 |0,_|1,_|2,_|3,_|4,_|5,_=>by rfl
 |n+6,h=>by lia
def a7n:∀n:Nat,n<=5->m_law_sets [.int n]=cz (.list ((sts n).map i5))
 |0,_|1,_|2,_|3,_|4,_|5,_=>by rfl
 |n+6,h=>by lia
def bvD(m:l8)(k:Nat)(S:List Int):D:=.list ((aQ k).map λ(a:Nat)=>bhD m a S)
section
variable {m:l8}{k:Nat}(w:WF m k)(h5:m.length<=5)
include w h5
theorem b8R(ha:a<k)(hS:SetK m S):tsl m (kdS m k (sts m.length) d) a S=tst (tb m k d) m a S:=by
 unfold tsl tst
 congr 1;rw[eM,aT,aT];have key:∀s∈S,(decide (prt m a S (stp m s a).1∈kdS m k (sts m.length) d)=p4↔tb m k d (prt m a S (stp m s a).1)=p4):=λs hs=>by
  rw[df,E2,L9 h5];exact⟨λq=>q.2,λq=>⟨SetK.prt w hS ha hs,q⟩⟩
 constructor
 ·intro q s hs;refine (key s hs).mp (q _ (P3.mpr ?_));have:s∈(S.zip S).map (·.1):=by rw[C5];exact hs
  obtain⟨p,hp,rfl⟩:=aO.mp this;exact⟨p,hp,rfl⟩
 ·intro q x hx;obtain⟨p,hp,rfl⟩:=P3.mp hx;have hs:p.1∈S:=by have:=bw (f:=xm) hp;rw[C5]at this;exact this
  exact (key p.1 hs).mpr (q p.1 hs)
theorem SetK.le5(hS:SetK m S):S.length<=5:=cA (SetK.len hS) h5
theorem a3X:∃d,J4 [.list (m.map rwD)]=cz (.dict (f7 (m6 m k) (kdS m k (sts m.length) d)))/\nwS m k (sts m.length) d=[]/\d<=26:=by
 have oX:=w.pos;have zr:=w.k5;have uS:=a9G m.length (by lia);have hA:=b3K h5;obtain⟨d,r1,r2,r3⟩:=a0w (m:=m) (k:=k) hA (by lia) (b3L m.length (by lia) oX) (b6b (by lia) oX) (gm:=fnE [.i,.f] ([2].map λj=>([.list (m.map rwD),.dict (f7 (m6 m k) (kdS m k (sts m.length) 0)),.dict (f7 (bvD m k) (lfS m k (sts m.length) 0)),.none]:List D).getD j .none) (eCl u5 (b8 (e2 (C4 p4) (b7 2) (b7 0)) (b8 (b7 1) g8)))) (λd hd S hS=>by
  have mQ:=U9.mp hS;have hK:=(L9 h5).mp mQ.1;rw[c0N (by simp[VS.argsOk,C0])];show eCl u5 (b8 (e2 (C4 p4) (b7 2) (b7 0)) (b8 (b7 1) g8)) [i5 S,.dict (f7 (m6 m k) (kdS m k (sts m.length) d)),.dict (f7 (bvD m k) (lfS m k (sts m.length) 0))]=_;walk_at "ev";rw[a7f (U9.mpr ⟨mQ.1,by cases x:tb m k 0 S with|false=>rfl|true=>have:=T1 x (cI d);rw[mQ.2]at this;cases this⟩)];walk_at "ev";have mL:=SetK.le5 w h5 hK;rw[show bvD m k S=.list ((aQ k).map λ(a:Nat)=>bhD m a S) from rfl,a1M zr (by lia)];unfold lta;rw[a3K λa ha=>b8R w h5 (bO.mp ha) hK])
 refine⟨d,?_,r2,cA r3 (c2f m.length (by lia))⟩;unfold J4;rw[D0 (by simp[VS.argsOk])];unfold a1g;walk_at "ev";rw[a1a (ds:=(sts m.length).map i5) (by walk_at "ev";rw[a8M _ h5];walk_at "ev") (p8 _ C0 _)];walk_at "ev";refine a5A (λU=>∃x,U=[.list (m.map rwD),.dict (f7 (m6 m k) (kdS m k (sts m.length) 0)),.dict (f7 (bvD m k) (lfS m k (sts m.length) 0)),x]) ?_ ?_
 ·obtain⟨U',g1,x,rfl⟩:=J1 (enc:=i5) (set:=v5 3) (xs:=sts m.length) (g:=(sIf (tB (e2 dEq (eCl F9 (b8 (b7 3) g8)) (eC (.int 1)))) (I9 1 p4 (b7 3) (eC .none)) (I9 2 p4 (b7 3) (eCl A4 (b8 (b7 0) (b8 (b7 3) g8)))))) (U:=[.list (m.map rwD),.dict [],.dict [],.none])
   (λpre U=>∃x,U=[.list (m.map rwD),.dict (f7 (m6 m k) (kdS m k pre 0)),.dict (f7 (bvD m k) (lfS m k pre 0)),x]) ⟨_,rfl⟩ (by
    rintro pre S post e U ⟨x,rfl⟩;have Fp:S∈sts m.length:=by rw[e];simp
    have hK:=(L9 h5).mp Fp;have mL:=SetK.le5 w h5 hK;have iN:S∉pre:=by
     rw[e]at hA;have:=bb.mp hA;exact λz=>this.2.2 S z S ah rfl
    have f_:pre.length<=31:=by rw[e,ba]at uS;lia
    have l1:(kdS m k pre 0).length<=pre.length:=fq _ _;have l2:(lfS m k pre 0).length<=pre.length:=fq _ _;refine⟨_,[.list (m.map rwD),.dict (f7 (m6 m k) (kdS m k (pre++[S]) 0)),.dict (f7 (bvD m k) (lfS m k (pre++[S]) 0)),i5 S],rfl,?_,_,rfl⟩;show (sIf (tB (e2 dEq (eCl F9 (b8 (b7 3) g8)) (eC (.int 1)))) (I9 1 p4 (b7 3) (eC .none)) (I9 2 p4 (b7 3) (eCl A4 (b8 (b7 0) (b8 (b7 3) g8))))) [.list (m.map rwD),.dict (f7 (m6 m k) (kdS m k pre 0)),.dict (f7 (bvD m k) (lfS m k pre 0)),i5 S]=_;have hlen:F9 [i5 S]=cz (.int S.length):=by show cz (aF ((S.map aF).length:Nat))=_;rw[au]
    walk_at "ev";rw[hlen];walk_at "ev";by_cases c:S.length=1
    ·rw[aA (show (S.length:Int)=1 by lia)];walk_at "ev";rw[a2y (g:=m6 m k) (a:=S) (l:=kdS m k pre 0) (by rw[show m6 m k S=.none from aG c];rfl) rfl rfl (by lia) λz=>iN (E2.mp z).1];have e1:kdS m k (pre++[S]) 0=a5I S (kdS m k pre 0):=by
      unfold a5I;rw[aL λz=>iN (E2.mp z).1];unfold kdS;rw[fW,eH (by exact aA c)];rfl
     have e2:lfS m k (pre++[S]) 0=lfS m k pre 0:=by
      unfold lfS;rw[fW,eJ (by show ¬ (!decide (S.length=1))=p4;rw[aA c];decide)];simp
     rw[e1,e2];rfl
    ·rw[aS (show ¬ (S.length:Int)=1 by lia)];walk_at "ev";rw[a2y (g:=bvD m k) (a:=S) (l:=lfS m k pre 0) (by walk_at "ev";rw[a3J w hK (by lia)];rfl) rfl rfl (by lia) λz=>iN (U9.mp z).1];have e1:kdS m k (pre++[S]) 0=kdS m k pre 0:=by
      unfold kdS;rw[fW,eJ (by rw[aS c];decide)];simp
     have e2:lfS m k (pre++[S]) 0=a5I S (lfS m k pre 0):=by
      unfold a5I;rw[aL λz=>iN (U9.mp z).1];unfold lfS;rw[fW,eH (by show (!decide (S.length=1))=p4;rw[aS c];rfl)];rfl
     rw[e1,e2];rfl)
  exact⟨_,g1,_,rfl⟩
 ·rintro U ⟨x,rfl⟩;walk_at "ev";have Ew:a8s (b7 2) [.list (m.map rwD),.dict (f7 (m6 m k) (kdS m k (sts m.length) 0)),.dict (f7 (bvD m k) (lfS m k (sts m.length) 0)),x]=cz (.list ((lfS m k (sts m.length) 0).map i5)):=by
   show (if g9 ((f7 (bvD m k) (lfS m k (sts m.length) 0)).map (·.1)) then cz (gi ((f7 (bvD m k) (lfS m k (sts m.length) 0)).map (·.1))) else el)=_;rw[a4R,aG (p8 _ C0 _)]
  rw[c0M (ds:=[.dict (f7 (m6 m k) (kdS m k (sts m.length) 0)),.list ((lfS m k (sts m.length) 0).map i5)]) (by walk_at "ev";rw[Ew];walk_at "ev")];rw[show s9 (fnE [.i,.f] (List.map (λj=>([.list (m.map rwD),.dict (f7 (m6 m k) (kdS m k (sts m.length) 0)),.dict (f7 (bvD m k) (lfS m k (sts m.length) 0)),x]:List D).getD j .none) [2]) (eCl u5 (b8 (e2 (C4 p4) (b7 2) (b7 0)) (b8 (b7 1) g8)))) [.dict (f7 (m6 m k) (kdS m k (sts m.length) 0)),.list ((lfS m k (sts m.length) 0).map i5)]=_ from r1];walk_at "ev"
end
def a7o{m:l8}(h7:m.length<=7):A9 [.list (m.map rwD)]=cz .none:=by
 unfold A9;rw[b6z (by simp[VS.argsOk])];unfold O7;walk_at "evn";rw[aS (show ¬ (7:Int)<m.length by lia)];walk_at "evn"
end Prog
namespace VS
open PySem L2
def b1o{ns:List Int}(h:a U=cz (.list (ns.map .int)))(hl:ns.length<64):a0X a U=cz (.list ((X6 ns).map .int)):=by
 unfold a0X;rw[h];show (intsOf (ns.map .int)).bind _=_;rw[N7];show (if ns.length<64 then _ else el)=_;rw[aG hl];rfl
def In(m:l8)(b:List Int):Prop:=Inc b/\∀s∈b,0<=s/\s<(m.length:Int)
def two{b:List Int}(h:1<b.length):∃s t r,b=s::t::r:=by
 match b,h with
 |s::t::r,_=>exact⟨s,t,r,rfl⟩
end VS
namespace Prog
open PySem L2 VS
section
variable {m:l8}{k:Nat}(w:WF m k)(h5:m.length<=5){d:Nat}(hd:d<=31)
include w h5 hd
theorem b3M:∀(j:Nat),j<=d->∀(B:BG) (S:List Int),SetK m S->(∀s,s∈B.map (·.1)↔s∈S)->(B.map (·.1)).Nodup->tb m k j S=p4->∀f,j<f->L7 f [.list (m.map rwD),.dict (f7 (m6 m k) (kdS m k (sts m.length) d)),bgD B]=cz (gT m k f B):=by
 intro j
 induction j using Hq with
 |_ j ih=>
  intro hj B S hS hB hn ht f hf;obtain⟨f,rfl⟩:∃q,f=q+1:=⟨f-1,by lia⟩;have mL:=SetK.le5 w h5 hS;have oD:(B.map (·.1)).Perm S:=(gE hn (hS.1.imp λh=>by lia)).mpr hB;have wR:B.length=S.length:=by have:=oD.length_eq;rw[au]at this;exact this
  have hu:L7 (f+1) [.list (m.map rwD),.dict (f7 (m6 m k) (kdS m k (sts m.length) d)),bgD B]=a0R (a5F (L7 f) [.list (m.map rwD),.dict (f7 (m6 m k) (kdS m k (sts m.length) d)),bgD B,.none,.none,.none,.none]):=by
   show fnD _ _ _ _=_;rw[D0 (by simp[VS.argsOk])];rfl
  rw[hu];unfold a5F;have hlen:b2n [bgD B]=cz (.int B.length):=by show cz (aF ((kvD aF B).length:Nat))=_;rw[a5G]
  walk_at "ev";rw[hlen];walk_at "ev";by_cases c:S.length=1
  ·rw[aA (show (B.length:Int)=1 by lia)];obtain⟨p,rfl⟩:∃p,B=[p]:=by
    match B,wR.trans c with
    |[p],_=>exact⟨p,rfl⟩
   walk_at "ev";rw[b5Q (W:=[p]) rfl];rfl
  ·rw[aS (show ¬ (B.length:Int)=1 by lia)];walk_at "ev";obtain⟨e,a,he,ha,fK,rN⟩:=b3E j (by lia) ht c;have iA:F5 (p0 (b7 2)) [.list (m.map rwD),.dict (f7 (m6 m k) (kdS m k (sts m.length) d)),bgD B,.none,.none,.none,.none]=cz (i5 S):=by
    rw[a3n,T2 (kvs:=kvD aF B) (es:=B.map (·.1)) rfl a5H (by rw[au];lia),Y9 hn,show X6 (B.map (·.1))=S from X7 (D5 _) hS.1 λx=>by rw[D4];exact hB x];exact X3
   have jL:S∈kdS m k (sts m.length) d:=E2.mpr ⟨(L9 h5).mpr hS,T1 ht hj⟩;rw[iA];walk_at "ev";rw[a7f jL,fK];walk_at "ev";unfold tst at rN;rw[ak]at rN;have oF:D6 m a (B.map (·.1))=p4:=by rw[a4T oD];exact rN.1
   rw[a1n w ha (λp hp=>hS.2.2 p.1 ((hB p.1).mp (bw hp))) (by lia),aG oF];walk_at "ev";have qF:=Q4 (m:=m) (a:=a) (B:=B);have tI:p0 (b7 4) [.list (m.map rwD),.dict (f7 (m6 m k) (kdS m k (sts m.length) d)),bgD B,.int a,ptD m a B,.list [],.none]=cz (iD (srt (anL m a B))):=T2 (kvs:=v7 (λx=>bgD (gp m a B x)) (anL m a B)) rfl a1K (by lia);rw[a1a (ds:=(srt (anL m a B)).map .int) (by rw[b5H,tI];rfl) (B7 _)];walk_at "ev";have ub:((B.map (·.1)).map λs=>stp m s a).Nodup:=aP oF;obtain⟨U',g1,x,rfl⟩:=J1 (enc:=aF) (set:=v5 6) (xs:=srt (anL m a B)) (g:=(N5 5 (.l .f) A7 (K9 (b8 (b7 6) (b8 (eCl (L7 f) (b8 (b7 0) (b8 (b7 1) (b8 (e2 (C4 rp) (b7 4) (b7 6)) g8)))) g8))))) (U:=[.list (m.map rwD),.dict (f7 (m6 m k) (kdS m k (sts m.length) d)),bgD B,.int a,ptD m a B,.list [],.none])
    (λpre U=>∃x:D,U=[.list (m.map rwD),.dict (f7 (m6 m k) (kdS m k (sts m.length) d)),bgD B,.int a,ptD m a B,.list (pre.map λx=>.tuple [.int x,gT m k f (gp m a B x)]),x]) ⟨_,rfl⟩ (by
     rintro pre x post e9 U ⟨y,rfl⟩;have hx:x∈anL m a B:=(k9 _).mem_iff.mp (by rw[e9];simp);obtain⟨p,hp,vT⟩:=P3.mp hx;have vV:p.1∈S:=(hB p.1).mp (bw hp);have f_:pre.length<=31:=by
      have h1:=du eD e9;rw[(k9 _).length_eq,ba]at h1;lia
     have yR:=ih e he (by lia) (gp m a B x) (prt m a S x) (by rw[<-vT];exact SetK.prt w hS ha vV) (λs=>by
      rw[P0,a2z,a2A];exact⟨λ⟨q,hq,z⟩=>⟨q,(hB q).mp hq,z⟩,λ⟨q,hq,z⟩=>⟨q,(hB q).mpr hq,z⟩⟩) (by rw[P0];exact a3D ub) (by rw[<-vT];exact aT.mp rN.2 p.1 vV) f (by lia)
     rw[aW];generalize ud:(pre.map λx=>(.tuple [.int x,gT m k f (gp m a B x)]:D))=ds;have zM:ds.length=pre.length:=by rw[<-ud,au]
     refine⟨_,[.list (m.map rwD),.dict (f7 (m6 m k) (kdS m k (sts m.length) d)),bgD B,.int a,ptD m a B,.list (ds++[.tuple [.int x,gT m k f (gp m a B x)]]),.int x],rfl,?_,_,rfl⟩;have hv:K9 (b8 (b7 6) (b8 (eCl (L7 f) (b8 (b7 0) (b8 (b7 1) (b8 (e2 (C4 rp) (b7 4) (b7 6)) g8)))) g8)) [.list (m.map rwD),.dict (f7 (m6 m k) (kdS m k (sts m.length) d)),bgD B,.int a,ptD m a B,.list ds,.int x]=cz (.tuple [.int x,gT m k f (gp m a B x)]):=by
      walk_at "ev";rw[show C4 rp (ptD m a B) (.int x)=cz (bgD (gp m a B x)) from a5K hx];walk_at "ev";rw[yR];walk_at "ev"
     show N5 5 (.l .f) A7 _ [.list (m.map rwD),.dict (f7 (m6 m k) (kdS m k (sts m.length) d)),bgD B,.int a,ptD m a B,.list ds,.int x]=_;rw[b2j,hv];show b0k 5 (.list ds) (cz (.tuple [.int x,gT m k f (gp m a B x)])) _=_;rw[Q3 (by lia)];rfl)
   rw[g1];walk_at "ev";have pY:X6 (B.map (·.1))=S:=X7 (D5 _) hS.1 λx=>by rw[D4];exact hB x
   show _=cz (if B.length=1 then _ else _);rw[aL (by lia),pY,a2C fK]
theorem a7p(rT:J4 [.list (m.map rwD)]=cz (.dict (f7 (m6 m k) (kdS m k (sts m.length) d))))(hS:SetK m S):A5 [.list (m.map rwD),iD S]=cz (if S∈kdS m k (sts m.length) d then gT m k 121 (S.zip S) else .none):=by
 have mL:=SetK.le5 w h5 hS;have jk:S.Nodup:=hS.1.imp λh=>by lia
 unfold A5;rw[D0 (by simp[VS.argsOk])];unfold a0b;walk_at "ev";rw[rT];walk_at "ev";rw[show F5 (b7 1) [.list (m.map rwD),iD S,.dict (f7 (m6 m k) (kdS m k (sts m.length) d))]=cz (i5 S) by rw[a3n];exact X3];walk_at "ev";rw[b6F];by_cases c:S∈kdS m k (sts m.length) d
 ·rw[aA c,aG c];walk_at "ev";rw[a3I (l:=p4) (S:=S) rfl jk (by lia)];walk_at "ev";rw[b3M w h5 hd d (aE _) (S.zip S) S hS (λs=>by rw[C5]) (by rw[C5];exact jk) (E2.mp c).2 121 (by lia)];rfl
 ·rw[aS c,aL c];walk_at "ev"
end
def b6c{n:Nat}{s:Int}(h0:0<=s)(h1:s<(n:Int)):U6 [.int s,.int n]=cz (.bool p4):=by
 unfold U6;rw[D0 (by simp[VS.argsOk,imm])];unfold a3r;walk_at "ev";rw[show U5 [.int s]=cz (.bool p4) by
  unfold U5;rw[D0 (by simp[VS.argsOk])];unfold a3p;walk_at "ev"]
 walk_at "ev";rw[aA h0];walk_at "ev";rw[aA h1]
def b1p{m:l8}(h7:m.length<=7)(hb:SetK m b):a1e [.list (b.map .int),.int m.length]=cz (.bool p4):=by
 have GY:=SetK.len hb;have oX:0<b.length:=ye.mpr hb.2.1;unfold a1e;rw[D0 (by simp[VS.argsOk,imm])];unfold a6Z;walk_at "ev";rw[show E1 [.list (b.map .int),.int m.length]=cz (.bool p4) by
  unfold E1;rw[D0 (by simp[VS.argsOk,imm])];unfold V2;walk_at "ev";rw[aA (show (1:Int)<=b.length by lia)];walk_at "ev";rw[aA (show (b.length:Int)<=m.length by lia)]]
 walk_at "ev";rw[L8 (enc:=aF) (xs:=b) (λs=>dw ((λ_=>p4) s)) (a1a (by walk_at "ev") (p8 _ (λ_=>a0S) _)) (by lia) (λs hs=>⟨_,rfl,?_⟩)]
 ·walk_at "ev";rw[v_all (λ_=>p4) b,aT.mpr (λ_ _=>rfl)];walk_at "ev";rw[b1o (ns:=b) (by walk_at "ev") (by lia),b1n hb.1];walk_at "ev";rw[show dEq (.list (b.map .int)) (.list (b.map .int))=_ from b6y (xs:=b) (ys:=b),aA rfl];walk_at "ev"
 ·have:=hb.2.2 s hs;walk_at "ev";exact b6c this.1 this.2
def a8N{m:l8}(h7:m.length<=7){S:List Int}(hS:SetK m S):K2 [.list (m.map rwD),iD S]=A5 [.list (m.map rwD),iD S]:=by
 unfold K2;rw[D0 (by simp[VS.argsOk])];unfold a4K;walk_at "ev";rw[a7o h7];walk_at "ev";rw[show U7 [.list (m.map rwD),.list (S.map .int)]=cz .none by
  unfold U7;rw[b6z (by simp[VS.argsOk])];unfold a3t;walk_at "evn";rw[b1p h7 hS];walk_at "evn"]
 walk_at "ev";cases A5 [.list (m.map rwD),.list (S.map .int)]<;>rfl
section
variable {m:l8}{k:Nat}{B:BG}{S:List Int}
def deepest{e a:Nat}(w:WF m k)(h:KB m k B S)(he:lev m k S=e+1)(ha:lta m k e S=cz a):(∃x∈anL m a B,lev m k (prt m a S x)=e)/\∀x∈anL m a B,lev m k (prt m a S x)<=e:=by
 have hle:=a0v h.told (by lia);obtain⟨a1,a2,a3,_⟩:=a5P h.told (by lia) he ha;have tU:∀x∈anL m a B,lev m k (prt m a S x)<=e:=λx hx=>(h.part w a1 a2 (by lia) hx).2
 refine⟨?_,tU⟩;have gy:S≠[]:=h.set.2.1;have mem:∀x,x∈anL m a (S.zip S)->x∈anL m a B:=λx hx=>by
  obtain⟨s,hs,z⟩:=P4.mp hx;obtain⟨p,hp,e9⟩:=aO.mp ((h.mem s).mpr hs);exact P3.mpr ⟨p,hp,by rw[e9];exact z⟩
 cases e with
 |zero=>
  cases S with
  |nil=>exact absurd rfl gy
  |cons s S'=>
   have hx:=mem _ (P4.mpr ⟨s,ah,rfl⟩);exact⟨_,hx,Nat.le_zero.mp (tU _ hx)⟩
 |succ q=>
  by_cases c:∃x∈anL m a B,lev m k (prt m a S x)=q+1
  ·exact c
  ·have:plv m k a S<=q:=by
    unfold plv;rw[a1L];intro y hy;obtain⟨x,hx,rfl⟩:=aO.mp hy;have h1:=tU x (mem x hx);have h2:lev m k (prt m a S x)≠q+1:=λz=>c ⟨x,mem x hx,z⟩
    lia
   lia
def a5Q(w:WF m k)(h:KB m k B S):∀f f',lev m k S<f->lev m k S<f'->m_law_deep f' [gT m k f B]=cz (.int (lev m k S:Nat)):=by
 refine KB.ind w (P:=λB S=>∀f f',lev m k S<f->lev m k S<f'->m_law_deep f' [gT m k f B]=cz (.int (lev m k S:Nat))) (λp S h hS f f' hf lh=>?_) (λB S e a h hS he ha fK hk lK hp f f' hf lh=>?_) h
 ·obtain⟨f,rfl⟩:∃q,f=q+1:=⟨f-1,by lia⟩;obtain⟨f',rfl⟩:∃q,f'=q+1:=⟨f'-1,by lia⟩;rw[a3G,(X8 h.told (by lia)).mpr hS];show fnD _ _ _ _=_;rw[D0 (by simp[VS.argsOk])];unfold b_law_deep;walk_at "ev";rfl
 ·obtain⟨f,rfl⟩:∃q,f=q+1:=⟨f-1,by lia⟩;obtain⟨f',rfl⟩:∃q,f'=q+1:=⟨f'-1,by lia⟩;rw[E3 h hS fK,he];obtain⟨⟨x0,uH,e0⟩,xI⟩:=deepest w h he ha;have qF:=Q4 (m:=m) (a:=a) (B:=B);have wR:=h.len;show fnD _ _ _ _=_;rw[D0 (by simp[VS.argsOk])];unfold b_law_deep;walk_at "ev";have uO:∀t,n4 (iL (e2 dIx (b7 0) (eC (.int 1)))) [] pt2 tT (eCl (m_law_deep f') (b8 (b7 1) g8)) [.tuple [t,.list ((srt (anL m a B)).map λx=>.tuple [.int x,gT m k f (gp m a B x)])]]=cz (.list (((srt (anL m a B)).map λx=>((lev m k (prt m a S x):Nat):Int)).map .int)):=λt=>by
   rw[L8 (enc:=λx=>dB [.int x,gT m k f (gp m a B x)]) (xs:=srt (anL m a B)) (λx=>aF (lev m k (prt m a S x):Nat)) (by rfl) (by rw[(k9 _).length_eq];have:=SetK.len h.set;have:=w.le;lia) λx hx=>⟨_,rfl,?_⟩]
   ·rw[bF];rfl
   ·obtain⟨_,q2,q3⟩:=hp x ((k9 _).mem_iff.mp hx);show lc (m_law_deep f') (cz [gT m k f (gp m a B x)])=_;exact q3 f f' (by lia) (by lia)
  rw[uO];walk_at "ev";rw[b8L (n:=(e:Nat)) (aO.mpr ⟨x0,(k9 _).mem_iff.mpr uH,by rw[e0]⟩) (λy hy=>by
   obtain⟨x,hx,rfl⟩:=aO.mp hy;have:=xI x ((k9 _).mem_iff.mp hx);lia)]
  walk_at "ev";rw[Int.add_comm];rfl
end
abbrev b3N:EvS:=(i6 (a4n 5 6 (e2 J8 (e2 dIx (b7 0) (b7 4)) (b7 2))) (i6 (sIf (tB (e2 (dIn p4 rp) (b7 5) (b7 3))) (I9 3 rp (b7 5) (eC (.dict []))) u6) (i6 (sIf (tB (e2 (dIn rp rp) (b7 6) (e2 (b2m rp) (b7 3) (b7 5)))) (m8 (eC .none)) u6) (a5y 3 rp rp (b7 5) (b7 6) (b7 4)))))
section
variable {m:l8}{k a:Nat}{S:List Int}
def b3O{B:BG}(w:WF m k)(ha:a<k){s:Int}(hs:0<=s/\s<(m.length:Int))(hl:B.length<1000)(y z:D) :
  b3N [.list (m.map rwD),i5 S,.int (a:Nat),ptD m a B,.int s,y,z]=if stp m s a∈B.map (λp=>stp m p.1 a) then cz (.rt .none) else cz (.nx [.list (m.map rwD),i5 S,.int (a:Nat),ptD m a (B++[(s,s)]),.int s,.int (stp m s a).1,.int (stp m s a).2]):=by
 have hr:=w.row hs.1 hs.2;have hg:=a7k (m:=m) (a:=a) (B:=B) (x:=(stp m s a).1);have qF:=Q4 (m:=m) (a:=a) (B:=B);unfold b3N;have h1:a4n 5 6 (e2 J8 (e2 dIx (b7 0) (b7 4)) (b7 2)) [.list (m.map rwD),i5 S,.int (a:Nat),ptD m a B,.int s,y,z]=cz (.nx [.list (m.map rwD),i5 S,.int (a:Nat),ptD m a B,.int s,.int (stp m s a).1,.int (stp m s a).2]):=by
  walk_at "ev";rw[b3t hs.1 hs.2];walk_at "ev";rw[c0y (by lia) (by lia)];walk_at "ev";rfl
 have h2:(sIf (tB (e2 (dIn p4 rp) (b7 5) (b7 3))) (I9 3 rp (b7 5) (eC (.dict []))) u6) [.list (m.map rwD),i5 S,.int (a:Nat),ptD m a B,.int s,.int (stp m s a).1,.int (stp m s a).2]=cz (.nx [.list (m.map rwD),i5 S,.int (a:Nat),.dict (v7 (λx=>bgD (gp m a B x)) (O0 (stp m s a).1 (anL m a B))),.int s,.int (stp m s a).1,.int (stp m s a).2]):=by
  have jL:dIn p4 rp (.int (stp m s a).1) (ptD m a B)=cz (.bool (p4 !=decide ((stp m s a).1∈anL m a B))):=by
   show (if m9 rp (.int (stp m s a).1) then cz (dw (p4 !=v6 (v7 (λx=>bgD (gp m a B x)) (anL m a B)) (.int (stp m s a).1))) else el)=_;rw[dKey_i,Z0];rfl
  walk_at "ev";rw[jL];by_cases c:(stp m s a).1∈anL m a B
  ·rw[aA c];walk_at "ev";rw[show O0 (stp m s a).1 (anL m a B)=anL m a B from aG c];rfl
  ·rw[aS c];walk_at "ev";have nr:v6 (v7 (λx=>bgD (gp m a B x)) (anL m a B)) (.int (stp m s a).1)=rp:=by rw[Z0];exact aS c
   have e1:n9 (v7 (λx=>bgD (gp m a B x)) (anL m a B)) (.int (stp m s a).1) (.dict [])=v7 (λx=>bgD (gp m a B x)) (O0 (stp m s a).1 (anL m a B)):=by
    rw[<-a4U (g:=λx=>bgD (gp m a B x)) (h:=λ_=>bgD []) (x:=(stp m s a).1) (ks:=anL m a B) λq=>by show bgD (gp m a B _)=_;rw[a9E q]];unfold o9 n9;rw[nr];rfl
   rw[b3A (kt:=rp) (k:=.int (stp m s a).1) (d:=.dict []) (kvs:=v7 (λx=>bgD (gp m a B x)) (anL m a B)) rfl rfl rfl (dKey_i _) (by rw[a7h];lia),e1];rfl
 have tZ:(stp m s a).1∈O0 (stp m s a).1 (anL m a B):=a3z.mpr (.inr rfl);have hm:((stp m s a).2∈(gp m a B (stp m s a).1).map (·.1))↔stp m s a∈B.map (λp=>stp m p.1 a):=b3H;have wj:b2m rp (.dict (v7 (λx=>bgD (gp m a B x)) (O0 (stp m s a).1 (anL m a B)))) (.int (stp m s a).1)=cz (bgD (gp m a B (stp m s a).1)):=by
  show (if m9 rp (.int (stp m s a).1) then A1 _ _ else el)=_;rw[dKey_i,Z1 tZ];rfl
 have wm:dIn rp rp (.int (stp m s a).2) (bgD (gp m a B (stp m s a).1))=cz (.bool (decide (stp m s a∈B.map (λp=>stp m p.1 a)))):=by
  show (if m9 rp (.int (stp m s a).2) then cz (dw (rp !=v6 (kvD aF (gp m a B (stp m s a).1)) (.int (stp m s a).2))) else el)=_;rw[dKey_i,a2x];by_cases c:stp m s a∈B.map (λp=>stp m p.1 a)
  ·rw[aA c,aA (hm.mpr c)];rfl
  ·rw[aS c,aS λz=>c (hm.mp z)];rfl
 rw[H9,h1,B6,H9,h2,B6];by_cases c:stp m s a∈B.map (λp=>stp m p.1 a)
 ·rw[aG c];walk_at "ev";rw[wj];walk_at "ev";rw[wm,aA c];walk_at "ev"
 ·rw[aL c];walk_at "ev";rw[wj];walk_at "ev";rw[wm,aS c];walk_at "ev";have hn:=λz=>c (hm.mp z)
  have e2:n9 (v7 (λx=>bgD (gp m a B x)) (O0 (stp m s a).1 (anL m a B))) (.int (stp m s a).1) (bgD (gp m a (B++[(s,s)]) (stp m s a).1))=v7 (λx=>bgD (gp m a (B++[(s,s)]) x)) (O0 (stp m s a).1 (anL m a B)):=a7i (h:=λx=>bgD (gp m a (B++[(s,s)]) x)) tZ λy hy=>by
   show bgD (gp m a (B++[(s,s)]) y)=bgD (gp m a B y);rw[a2B,aL λz=>hy z.symm]
  have mN:a5y 3 rp rp (b7 5) (b7 6) (b7 4) [.list (m.map rwD),i5 S,.int (a:Nat),.dict (v7 (λx=>bgD (gp m a B x)) (O0 (stp m s a).1 (anL m a B))),.int s,.int (stp m s a).1,.int (stp m s a).2]=cz (.nx [.list (m.map rwD),i5 S,.int (a:Nat),ptD m a (B++[(s,s)]),.int s,.int (stp m s a).1,.int (stp m s a).2]):=by
   show (if m9 rp (.int (stp m s a).1) then (match A1 (v7 (λx=>bgD (gp m a B x)) (O0 (stp m s a).1 (anL m a B))) (.int (stp m s a).1) with
    |some (.dict jP)=>if m9 rp (.int (stp m s a).2)&&decide (jP.length<1000000) then cz (Out.nx [.list (m.map rwD),i5 S,.int (a:Nat),.dict (n9 (v7 (λx=>bgD (gp m a B x)) (O0 (stp m s a).1 (anL m a B))) (.int (stp m s a).1) (.dict (n9 jP (.int (stp m s a).2) (.int s)))),.int s,.int (stp m s a).1,.int (stp m s a).2]) else el
    |_=>el) else el)=_
   rw[dKey_i,aG rfl,Z1 tZ];show (if m9 rp (.int (stp m s a).2)&&decide ((kvD aF (gp m a B (stp m s a).1)).length<1000000) then _ else el)=_;rw[dKey_i,a5G,aA (by lia),dO,aG rfl,a7d (enc:=aF) hn];rw[a2B,aG rfl]at e2;unfold ptD;rw[a7j,<-e2];rfl
  exact mN
def b3P(w:WF m k)(ha:a<k)(hS:∀s∈S,0<=s/\s<(m.length:Int))(hl:S.length<1000):m_law_led [.list (m.map rwD),i5 S,.int (a:Nat)]=cz (if D6 m a S then ptD m a (S.zip S) else .none):=by
 unfold m_law_led;rw[D0 (by simp[VS.argsOk,imm,C0])];unfold b_law_led;walk_at "ev";have zs:∀(l:List Int) (s:Int),(l++[s]).zip (l++[s])=l.zip l++[(s,s)]:=λl s=>by rw[kY rfl];rfl
 have zf:∀l:List Int,((l.zip l).map λp=>stp m p.1 a)=l.map λs=>stp m s a:=λl=>by
  rw[show (λp:Int×Int=>stp m p.1 a)=(λs=>stp m s a) ∘ (·.1) from rfl,<-bF,C5]
 have main:=Y8 (enc:=aF) (set:=v5 4) (xs:=S) (g:=b3N) (U:=[.list (m.map rwD),i5 S,.int (a:Nat),.dict [],.none,.none,.none])
  (λpre U=>D6 m a pre=p4/\∃x y z,U=[.list (m.map rwD),i5 S,.int (a:Nat),ptD m a (pre.zip pre),x,y,z]) (λr=>r=.none/\D6 m a S=rp) ⟨rfl,_,_,_,rfl⟩ (by
   rintro pre s post e U ⟨hf,x,y,z,rfl⟩;have hs:=hS s (by rw[e];simp);have f_:(pre.zip pre).length<1000:=by rw[cZ];have:=du eD e;rw[ba]at this;lia
   refine⟨[.list (m.map rwD),i5 S,.int (a:Nat),ptD m a (pre.zip pre),.int s,y,z],rfl,?_⟩;rw[b3O w ha hs f_,zf];have uL:D6 m a (pre++[s])=!decide (stp m s a∈pre.map λs=>stp m s a):=by
    have:=a3H (m:=m) (a:=a) (B:=pre.zip pre) (p:=(s,s));rw[aW,C5,zf,hf]at this;exact this
   by_cases c:stp m s a∈pre.map λs=>stp m s a
   ·rw[aG c];refine .inr ⟨_,rfl,rfl,?_⟩;cases q:D6 m a S with
    |false=>rfl
    |true=>
     have e2:S=(pre++[s])++post:=by rw[e];simp
     have h3:(S.map λs=>stp m s a).Nodup:=aP q;rw[e2,aW]at h3;have h4:D6 m a (pre++[s])=p4:=aA (bb.mp h3).1;rw[uL,aA c]at h4;cases h4
   ·rw[aL c];refine .inl ⟨_,rfl,?_,_,_,_,by rw[zs]⟩;rw[uL,aS c];rfl)
 rw[a1a (ds:=S.map .int) (by rfl) (B7 _)];walk_at "ev";rcases main with⟨U',g1,hf,x,y,z,rfl⟩|⟨r,g1,rfl,hf⟩
 ·have g1:G7 (v5 4) b3N (S.map .int) [.list (m.map rwD),i5 S,.int (a:Nat),.dict [],.none,.none,.none]=_:=g1;rw[g1,aG hf];walk_at "ev"
 ·have g1:G7 (v5 4) b3N (S.map .int) [.list (m.map rwD),i5 S,.int (a:Nat),.dict [],.none,.none,.none]=_:=g1;rw[g1,aL (by rw[hf];exact aY)];walk_at "ev"
end
end Prog
namespace VS
open PySem L2
theorem a3L{α:Type}{f:α->D}:∀{xs:List α},(∀x∈xs,(f x).canLay0=p4)->aM (xs.map f)=p4
 |[],_=>by simp only[cB,aM]
 |x::xs,h=>by
  simp only[av,aM,ak];exact⟨h x ah,a3L λy hy=>h y (ai _ hy)⟩
theorem a3M{α:Type}{f:α->D}{n:Nat}:∀{xs:List α},(∀x∈xs,(f x).depth<=n)->bV (xs.map f)<=n
 |[],_=>by simp only[cB,bV];lia
 |x::xs,h=>by
  simp only[av,bV];have h1:=h x ah;have h2:=a3M (f:=f) (n:=n) (xs:=xs) λy hy=>h y (ai _ hy)
  lia
end VS
namespace Prog
open PySem L2 VS
section
variable {m:l8}{k:Nat}{B:BG}{S:List Int}
def a5R(w:WF m k)(h:KB m k B S):∀f,lev m k S<f->(gT m k f B).canLay0=p4/\(gT m k f B).depth<=3*lev m k S:=by
 refine KB.ind w (P:=λB S=>∀f,lev m k S<f->(gT m k f B).canLay0=p4/\(gT m k f B).depth<=3*lev m k S) (λp S h hS f hf=>?_) (λB S e a h hS he ha fK hk lK hp f hf=>?_) h
 ·obtain⟨f,rfl⟩:∃q,f=q+1:=⟨f-1,by lia⟩;rw[a3G];exact⟨a5B,by rw[R9];lia⟩
 ·obtain⟨f,rfl⟩:∃q,f=q+1:=⟨f-1,by lia⟩;rw[E3 h hS fK,he];have hm:∀x∈srt (anL m a B),(gT m k f (gp m a B x)).canLay0=p4/\(gT m k f (gp m a B x)).depth<=3*e:=λx hx=>by
   obtain⟨_,q2,q3⟩:=hp x ((k9 _).mem_iff.mp hx);obtain⟨z1,z2⟩:=q3 f (by lia);exact⟨z1,by lia⟩
  refine⟨?_,?_⟩
  ·simp only[cL,aM,dE,dO];exact a3L λx hx=>by simp only[cL,aM,dE,dO];exact (hm x hx).1
  ·have:=a3M (f:=λx=>dB [.int x,gT m k f (gp m a B x)]) (n:=3*e+1) (xs:=srt (anL m a B)) λx hx=>by
    simp only[dU,bV];have:=(hm x hx).2;lia
   simp only[dU,bV];lia
end
abbrev b6d(rc:List D->Option D):EvS:=(i6 (sIf (a0m (tNo (tV (e1 (λd=>cz (.bool (A0 d))) (b7 2)))) (a0m (tB (e2 dNe (eCl F9 (b8 (b7 2) g8)) (eC (.int 2)))) (tNo (tV (eCl m_law_whole (b8 (e2 dIx (b7 2) (eC (.int 0))) g8)))))) (m8 (eC (.bool rp))) u6) (sIf (tNo (tV (eCl rc (b8 (e2 dIx (b7 2) (eC (.int 1))) (b8 (b7 1) g8))))) (m8 (eC (.bool rp))) u6))
def a2D(v:Int):m_law_whole [.int v]=cz (.bool p4):=by
 unfold m_law_whole;rw[D0 (by simp[VS.argsOk])];unfold b_law_whole;walk_at "ev"
section
variable {m:l8}{k:Nat}{B:BG}{S:List Int}
def a8O(w:WF m k)(h:KB m k B S):∀f f',lev m k S<f->lev m k S<f'->lev m k S<=40->m_law_is_tree f' [gT m k f B,.int k]=cz (.bool p4):=by
 refine KB.ind w (P:=λB S=>∀f f',lev m k S<f->lev m k S<f'->lev m k S<=40->m_law_is_tree f' [gT m k f B,.int k]=cz (.bool p4)) (λp S h hS f f' hf lh h4=>?_) (λB S e a h hS he ha fK hk lK hp f f' hf lh h4=>?_) h
 ·obtain⟨f,rfl⟩:∃q,f=q+1:=⟨f-1,by lia⟩;obtain⟨f',rfl⟩:∃q,f'=q+1:=⟨f'-1,by lia⟩;rw[a3G];show fnD _ _ _ _=_;rw[D0 (by simp[VS.argsOk,imm])];unfold b_law_is_tree;walk_at "ev";rw[a2D];walk_at "ev"
 ·obtain⟨f,rfl⟩:∃q,f=q+1:=⟨f-1,by lia⟩;obtain⟨f',rfl⟩:∃q,f'=q+1:=⟨f'-1,by lia⟩;obtain⟨xC,yK⟩:=a5R w h (f+1) (by lia);obtain⟨⟨x0,uH,_⟩,_⟩:=deepest w h he ha;rw[E3 h hS fK]at xC yK ⊢;have gy:srt (anL m a B)≠[]:=λz=>by have:=(k9 (anL m a B)).mem_iff.mpr uH;rw[z]at this;cases this
  generalize hT:(gi ((srt (anL m a B)).map λx=>dB [.int x,gT m k f (gp m a B x)]))=T at xC yK;show fnD _ _ _ _=_;rw[D0 (by simp[VS.argsOk,imm])];unfold b_law_is_tree;walk_at "ev";rw[aA (show (([.int (a:Nat),T]:List D).length:Int)=2 by rfl)];walk_at "ev";rw[a2D];walk_at "ev";rw[aA (show (0:Int)<=(a:Nat) by lia)];walk_at "ev";rw[aA (show ((a:Nat):Int)<(k:Nat) by lia)];have Fk:T.canLay0=p4:=by
   simp only[cL,aM,dE,dO]at xC;exact xC
  have Fl:T.depth<=150:=by
   simp only[dU,bV]at yK;lia
  have hq:dEq T (.list [])=cz (.bool rp):=by
   rw[b3r Fk (by simp only[cL,aM]) Fl,<-hT];cases q:srt (anL m a B) with
   |nil=>exact absurd q gy
   |cons y ys=>simp only[av,aC,cy]
  have mz:isList T=p4:=by rw[<-hT];rfl
  walk_at "ev";rw[mz];walk_at "ev";rw[hq];walk_at "ev";have main:=J1 (enc:=λx=>dB [.int x,gT m k f (gp m a B x)]) (set:=v5 2) (g:=b6d (m_law_is_tree f')) (xs:=srt (anL m a B)) (U:=[.tuple [.int (a:Nat),T],.int k,.none])
   (λ_ U=>∃x,U=[.tuple [.int (a:Nat),T],.int k,x]) ⟨_,rfl⟩ (by
    rintro pre x post e9 U ⟨y,rfl⟩;obtain⟨_,q2,q3⟩:=hp x ((k9 _).mem_iff.mp (by rw[e9];simp));have q4:=q3 f f' (by lia) (by lia) (by lia);refine⟨_,[.tuple [.int (a:Nat),T],.int k,.tuple [.int x,gT m k f (gp m a B x)]],rfl,?_,_,rfl⟩;show b6d (m_law_is_tree f') [.tuple [.int (a:Nat),T],.int k,.tuple [.int x,gT m k f (gp m a B x)]]=_;unfold b6d;walk_at "ev";rw[aA (show (([.int x,gT m k f (gp m a B x)]:List D).length:Int)=2 by rfl)];walk_at "ev";rw[a2D];walk_at "ev";rw[q4];walk_at "ev")
  obtain⟨U',g1,x,rfl⟩:=main;have hL:lL (cz T)=cz ((srt (anL m a B)).map λx=>dB [.int x,gT m k f (gp m a B x)]):=by rw[<-hT];rfl
  rw[hL];show a0R (thn (G7 (v5 2) (b6d (m_law_is_tree f')) _ [.tuple [.int (a:Nat),T],.int k,.none]) _)=_;rw[g1];walk_at "ev"
def b6e{a:Nat}{g:Int->Int}:anL m a (B.map λp=>(p.1,g p.2))=anL m a B:=by unfold anL;rw[bF];rfl
def b8S{a:Nat}{g:Int->Int}{x:Int}:gp m a (B.map λp=>(p.1,g p.2)) x=(gp m a B x).map λp=>(p.1,g p.2):=by
 unfold gp;rw[Ht,bF,bF];rfl
def KB.ren{g:Int->Int}(h:KB m k B S):KB m k (B.map λp=>(p.1,g p.2)) S:=by
 have e:(B.map λp=>(p.1,g p.2)).map (·.1)=B.map (·.1):=by rw[bF];rfl
 exact⟨h.set,by rw[e];exact h.mem,by rw[e];exact h.nd,h.told⟩
def a8P(w:WF m k)(h:KB m k B S){N:BG}{g:Int->Int}(hN:(N.map (·.1)).Nodup):∀f f',lev m k S<f->lev m k S<f'->(∀p∈B,(p.2,g p.2)∈N)->m_law_renamed f' [gT m k f B,bgD N]=cz (gT m k f (B.map λp=>(p.1,g p.2))):=by
 refine KB.ind w (P:=λB S=>∀f f',lev m k S<f->lev m k S<f'->(∀p∈B,(p.2,g p.2)∈N)->m_law_renamed f' [gT m k f B,bgD N]=cz (gT m k f (B.map λp=>(p.1,g p.2)))) (λp S h hS f f' hf lh hg=>?_) (λB S e a h hS he ha fK hk lK hp f f' hf lh hg=>?_) h
 ·obtain⟨f,rfl⟩:∃q,f=q+1:=⟨f-1,by lia⟩;obtain⟨f',rfl⟩:∃q,f'=q+1:=⟨f'-1,by lia⟩;rw[a3G];show fnD _ _ _ _=_;rw[D0 (by simp[VS.argsOk,imm])];unfold b_law_renamed;have zB:a9f rp (bgD N) (.int p.2)=cz (.int (g p.2)):=by
   have EA:keysOk rp (kvD aF N)=p4:=by
    unfold keysOk kvD;rw[aT];intro q hq;obtain⟨r,_,rfl⟩:=aO.mp hq;exact dKey_i _
   show (if m9 rp (.int p.2)&&keysOk rp (kvD aF N) then cz ((A1 (kvD aF N) (.int p.2)).getD .none) else el)=_;rw[dKey_i,EA,b5P hN (hg p ah)];rfl
  walk_at "ev";rw[zB];walk_at "ev";rfl
 ·obtain⟨f,rfl⟩:∃q,f=q+1:=⟨f-1,by lia⟩;obtain⟨f',rfl⟩:∃q,f'=q+1:=⟨f'-1,by lia⟩;have qF:=Q4 (m:=m) (a:=a) (B:=B);have wR:=h.len;rw[E3 h hS fK,E3 h.ren hS fK,b6e];show fnD _ _ _ _=_;rw[D0 (by simp[VS.argsOk,imm])];unfold b_law_renamed;have uO:∀t,n4 (iL (e2 dIx (b7 0) (eC (.int 1)))) [1] pt2 tT (K9 (b8 (b7 0) (b8 (eCl (m_law_renamed f') (b8 (b7 1) (b8 (b7 2) g8))) g8))) [.tuple [t,.list ((srt (anL m a B)).map λx=>.tuple [.int x,gT m k f (gp m a B x)])],bgD N]=cz (.list ((srt (anL m a B)).map λx=>.tuple [.int x,gT m k f (gp m a (B.map λp=>(p.1,g p.2)) x)])):=λt=>by
   rw[L8 (enc:=λx=>dB [.int x,gT m k f (gp m a B x)]) (xs:=srt (anL m a B)) (λx=>dB [.int x,gT m k f (gp m a (B.map λp=>(p.1,g p.2)) x)]) (by rfl) (by rw[(k9 _).length_eq];have:=SetK.len h.set;have:=w.le;lia) λx hx=>⟨_,rfl,?_⟩];obtain⟨_,q2,q3⟩:=hp x ((k9 _).mem_iff.mp hx);have q4:=q3 f f' (by lia) (by lia) λp hp=>by
    unfold gp at hp;obtain⟨q,hq,rfl⟩:=aO.mp hp;exact hg q (bg.mp hq).1
   rw[b8S];show K9 (b8 (b7 0) (b8 (eCl (m_law_renamed f') (b8 (b7 1) (b8 (b7 2) g8))) g8)) [.int x,gT m k f (gp m a B x),bgD N]=_;walk_at "ev";rw[q4];walk_at "ev"
  walk_at "ev";rw[uO];walk_at "ev"
end
end Prog
namespace VS
open PySem L2
def b8T:a0M p4 [.int i,.int j]=cz (.int (max i j)):=by
 show cz (aF (if p4=p4 then (if j>i then j else i) else (if j<i then j else i)))=_;rw[aG rfl]
 congr 2;by_cases h:j>i
 ·rw[aG h];lia
 ·rw[aL h];lia
end VS
namespace Prog
open PySem L2 VS
def b3Q(l:List Nat)(x:Nat):mxl (l++[x])=max (mxl l) x:=by unfold mxl;rw[Cp];rfl
def b3R{l:List Nat}(h:l≠[]):mxl (l.map (· + 1))=mxl l+1:=by
 apply pC
 ·rw[a1L];intro y hy;obtain⟨x,hx,rfl⟩:=aO.mp hy;have:=(a1L (l:=l)).mp (aE _) x hx;lia
 ·cases l with
  |nil=>exact absurd rfl h
  |cons y l=>
   have h2:∀x∈y::l,x+1<=mxl ((y::l).map (· + 1)):=λx hx=>(a1L (l:=(y::l).map (· + 1))).mp (aE _) _ (bw hx)
   have h3:mxl (y::l)<=mxl ((y::l).map (· + 1))-1:=by
    rw[a1L];intro x hx;have:=h2 x hx;lia
   have:=h2 y ah;lia
def tlT(m:l8)(k:Nat)(S:List Int):D:=if tb m k 140 S then gT m k 121 (S.zip S) else .none
section
variable {m:l8}{k a:Nat}{S:List Int}
theorem KB.zip(hS:SetK m S)(h:tb m k 140 S=p4):KB m k (S.zip S) S:=⟨hS,λs=>by rw[C5],by rw[C5];exact hS.1.imp λz=>by lia,h⟩
def a1p(w:WF m k)(hS:SetK m S)(h:tb m k 140 S=p4)(h4:lev m k S<=40):m_law_deep 121 [tlT m k S]=cz (.int (lev m k S:Nat))/\isN (tlT m k S)=rp:=by
 have hb:=KB.zip hS h;unfold tlT;rw[aG h];refine⟨a5Q w hb 121 121 (by lia) (by lia),?_⟩;by_cases c:S.length=1
 ·match S,c with
  |[s],_=>rfl
 ·obtain⟨e,a,he,ha,fK⟩:=V0 h (by lia) c;rw[show gT m k 121 (S.zip S)=_ from E3 hb c fK];rfl
def a5S(h:tb m k 140 S=rp):tlT m k S=.none:=aL (by rw[h];exact aY)
abbrev b6f:EvS:=(i6 (l7 4 (e2 (C4 p4) (b7 0) (F5 (p0 (e2 (C4 rp) (b7 1) (b7 3)))))) (i6 (sIf (tB (e2 (J6 rp) (b7 4) (eC .none))) (m8 (eC .none)) u6) (l7 2 (eCl (a0M p4) (b8 (b7 2) (b8 (e2 w8 (eC (.int 1)) (eCl (m_law_deep 121) (b8 (b7 4) g8))) g8))))))
def b3S{d:D}:m_law_far [d,.none]=cz .none:=by
 unfold m_law_far;rw[D0 (by simp[VS.argsOk])];unfold b_law_far;walk_at "ev"
def b8U{L:List (List Int)}(w:WF m k)(ha:a<k)(hS:SetK m S)(hf:D6 m a S=p4)(hL:∀P,SetK m P->P∈L)(h4:∀P,SetK m P->tb m k 140 P=p4->lev m k P<=40) :
  m_law_far [.dict (f7 (tlT m k) L),ptD m a (S.zip S)]=cz (if (anL m a (S.zip S)).all (λx=>tb m k 140 (prt m a S x)) then .int (mxl ((anL m a (S.zip S)).map λx=>lev m k (prt m a S x)+1):Nat) else .none):=by
 have jk:S.Nodup:=hS.1.imp λz=>by lia
 have mL:=SetK.len hS;have tF:=w.le;unfold m_law_far;rw[D0 (by simp[VS.argsOk])];unfold b_law_far;have Ek:isN (ptD m a (S.zip S))=rp:=rfl;walk_at "ev";rw[Ek];walk_at "ev";have ES:iDk (b7 1) [.dict (f7 (tlT m k) L),ptD m a (S.zip S),.int 0,.none,.none]=cz ((anL m a (S.zip S)).map aF):=by
  show (if P6 (v7 (λx=>bgD (gp m a (S.zip S) x)) (anL m a (S.zip S))) then el else cz ((v7 (λx=>bgD (gp m a (S.zip S) x)) (anL m a (S.zip S))).map (·.1)))=_;rw[a1K];cases anL m a (S.zip S)<;>rfl
 rw[a1a ES (B7 _)];walk_at "ev";have main:=Y8 (enc:=aF) (set:=v5 3) (xs:=anL m a (S.zip S)) (g:=b6f) (U:=[.dict (f7 (tlT m k) L),ptD m a (S.zip S),.int 0,.none,.none])
  (λpre U=>(∀x∈pre,tb m k 140 (prt m a S x)=p4)/\∃u v,U=[.dict (f7 (tlT m k) L),ptD m a (S.zip S),.int (mxl (pre.map λx=>lev m k (prt m a S x)+1):Nat),u,v])
  (λd=>d=.none/\∃x∈anL m a (S.zip S),tb m k 140 (prt m a S x)=rp) ⟨λx hx=>(nomatch hx),_,_,rfl⟩ (by
   rintro pre x post e U ⟨iN,u,v,rfl⟩;have hx:x∈anL m a (S.zip S):=by rw[e];simp
   obtain⟨s,hs,DV⟩:=P4.mp hx;have hP:SetK m (prt m a S x):=by rw[<-DV];exact SetK.prt w hS ha hs
   have zA:=a7k (m:=m) (a:=a) (B:=S.zip S) (x:=x);have DB:(S.zip S).length<=S.length:=by rw[cZ];lia
   have iA:∀u v,F5 (p0 (e2 (C4 rp) (b7 1) (b7 3))) [.dict (f7 (tlT m k) L),ptD m a (S.zip S),u,.int x,v]=cz (i5 (prt m a S x)):=λu v=>by
    rw[a3n,T2 (kvs:=kvD aF (gp m a (S.zip S) x)) (es:=(gp m a (S.zip S) x).map (·.1)) (show C4 rp (ptD m a (S.zip S)) (.int x)=_ from a5K hx) a5H (by rw[au];lia),P0,C5,Y9 (a3D (aP hf))];exact X3
   refine⟨[.dict (f7 (tlT m k) L),ptD m a (S.zip S),.int (mxl (pre.map λx=>lev m k (prt m a S x)+1):Nat),.int x,v],rfl,?_⟩;unfold b6f;have h1:l7 4 (e2 (C4 p4) (b7 0) (F5 (p0 (e2 (C4 rp) (b7 1) (b7 3))))) [.dict (f7 (tlT m k) L),ptD m a (S.zip S),.int (mxl (pre.map λx=>lev m k (prt m a S x)+1):Nat),.int x,v]=cz (.nx [.dict (f7 (tlT m k) L),ptD m a (S.zip S),.int (mxl (pre.map λx=>lev m k (prt m a S x)+1):Nat),.int x,tlT m k (prt m a S x)]):=by
    walk_at "ev";rw[iA];walk_at "ev";rw[a7f (hL _ hP)];walk_at "ev"
   rw[H9,h1,B6];cases q:tb m k 140 (prt m a S x) with
   |true=>
    left
    obtain⟨t1,t2⟩:=a1p w hP q (h4 _ hP q);refine⟨[.dict (f7 (tlT m k) L),ptD m a (S.zip S),.int (mxl ((pre++[x]).map λx=>lev m k (prt m a S x)+1):Nat),.int x,tlT m k (prt m a S x)],?_,λy hy=>?_,_,_,rfl⟩
    ·walk_at "ev";rw[t2];walk_at "ev";rw[t1];walk_at "ev";rw[b8T];walk_at "ev";rw[aW,av,cB,b3Q]
     congr 6;lia
    ·rcases aB.mp hy with z|z
     ·exact iN y z
     ·rw[aq.mp z];exact q
   |false=>
    right
    refine⟨.none,?_,rfl,x,hx,q⟩;rw[a5S q];walk_at "ev")
 rcases main with⟨U',g1,lO,u,v,rfl⟩|⟨d,g1,rfl,x,hx,hq⟩
 ·have g1:G7 (v5 3) b6f ((anL m a (S.zip S)).map aF) [.dict (f7 (tlT m k) L),ptD m a (S.zip S),.int 0,.none,.none]=_:=g1;rw[g1,aG (aT.mpr lO)];walk_at "ev"
 ·have g1:G7 (v5 3) b6f ((anL m a (S.zip S)).map aF) [.dict (f7 (tlT m k) L),ptD m a (S.zip S),.int 0,.none,.none]=_:=g1;rw[g1,aL (λz=>by rw[aT.mp z x hx]at hq;cases hq)];walk_at "ev"
end
end Prog
namespace VS
open PySem L2
def b8V{ns:List Int}{n:Int}(h1:n∈ns)(h2:∀x∈ns,n<=x):a6O [.list (ns.map .int)]=cz (.int n):=by
 show (intsOf (ns.map aF)).bind _=_;rw[N7];cases ns with
 |nil=>cases h1
 |cons i r=>
  obtain⟨g1,g2,g3⟩:=a5z r i;have e:X1 i r=n:=by
   have a1:X1 i r<=n:=by
    rcases az.mp h1 with z|z
    ·rw[z];exact g1
    ·exact g2 n z
   have a2:n<=X1 i r:=by
    rcases g3 with z|z
    ·rw[z];exact h2 i ah
    ·exact h2 _ (ai _ z)
   lia
  show cz (aF (X1 i r))=_;rw[e]
end VS
namespace Prog
open PySem L2 VS
def Fd(m:l8)(k:Nat)(S:List Int)(b:Nat):D:=if tst (tb m k 140) m b S then .int ((plv m k b S+1:Nat):Int) else .none
section
variable {m:l8}{k:Nat}{S:List Int}{L:List (List Int)}
def b6g{b:Nat}(w:WF m k)(hb:b<k)(hS:SetK m S)(hL:∀P,SetK m P->P∈L)(h4:∀P,SetK m P->tb m k 140 P=p4->lev m k P<=40) :
  m_law_far [.dict (f7 (tlT m k) L),if D6 m b S then ptD m b (S.zip S) else .none]=cz (Fd m k S b):=by
 by_cases hf:D6 m b S=p4
 ·rw[aG hf,b8U w hb hS hf hL h4];have lO:(anL m b (S.zip S)).all (λx=>tb m k 140 (prt m b S x))=S.all λs=>tb m k 140 (prt m b S (stp m s b).1):=by
   rw[eM,aT,aT]
   constructor
   ·exact λz s hs=>z _ (P4.mpr ⟨s,hs,rfl⟩)
   ·intro z x hx;obtain⟨s,hs,rfl⟩:=P4.mp hx;exact z s hs
  have gy:(anL m b (S.zip S)).map (λx=>lev m k (prt m b S x))≠[]:=λz=>by
   cases S with
   |nil=>exact hS.2.1 rfl
   |cons s S'=>
    have:=(P4 (m:=m) (a:=b) (S:=s::S')).mpr ⟨s,ah,rfl⟩;rw[yc.mp z]at this;cases this
  unfold Fd tst;rw[hf,dO,lO];have e:mxl ((anL m b (S.zip S)).map λx=>lev m k (prt m b S x)+1)=plv m k b S+1:=by
   unfold plv;rw[<-b3R gy,bF];rfl
  rw[e]
 ·rw[aL hf,b3S];unfold Fd tst;rw[Bool.not_eq_true]at hf;rw[hf];rfl
def b3T(w:WF m k)(hS:SetK m S)(hL:∀P,SetK m P->P∈L)(h4:∀P,SetK m P->tb m k 140 P=p4->lev m k P<=40)(rP:tb m k 141 S=tb m k 140 S):m_law_right [.list (m.map rwD),.dict (f7 (tlT m k) L),i5 S]=cz (.bool p4):=by
 have mL:=SetK.len hS;have tF:=w.le;have zr:=w.k5;have oX:=w.pos;have jk:S.Nodup:=hS.1.imp λz=>by lia
 have e0:(rowAt m 0).length=k:=w.row (by lia) (by lia);unfold m_law_right;rw[D0 (by simp[VS.argsOk,imm,C0])];unfold b_law_right;walk_at "ev";rw[a7f (hL S hS)];walk_at "ev";have hlen:F9 [i5 S]=cz (.int S.length):=by show cz (aF ((S.map aF).length:Nat))=_;rw[au]
 rw[hlen];walk_at "ev";by_cases c1:S.length=1
 ·rw[aA (show (S.length:Int)=1 by lia)]
  match S,c1 with
  |[s],_=>
   have hT:tlT m k [s]=.int s:=by
    unfold tlT;rw[aG (T1 (d:=0) rfl (by lia))];rfl
   rw[hT];walk_at "ev";rw[a2D];unfold i5;walk_at "ev"
 ·rw[aS (show ¬ (S.length:Int)=1 by lia)];walk_at "ev";have wx:∀x,(n4 (iR (eCl F9 (b8 (e2 dIx (b7 0) (eC (.int 0))) g8))) [0,1,2] pt1 tT (eCl m_law_far (b8 (b7 2) (b8 (eCl m_law_led (b8 (b7 1) (b8 (b7 3) (b8 (b7 0) g8)))) g8)))) [.list (m.map rwD),.dict (f7 (tlT m k) L),i5 S,tlT m k S,x,.none,.none,.none]=cz (.list ((aQ k).map (Fd m k S))):=λx=>by
   refine L8 (enc:=λ(b:Nat)=>aF b) (xs:=aQ k) (Fd m k S) ?_ (by rw[eE];lia) λb hb=>⟨_,rfl,?_⟩
   ·rw[a7O (n:=k) (by walk_at "ev";rw[b3t (by decide) (by lia)];walk_at "ev";rw[e0]) (by lia) (by lia),bU,a1E]
   ·have BI:=bO.mp hb;show eCl m_law_far (b8 (b7 2) (b8 (eCl m_law_led (b8 (b7 1) (b8 (b7 3) (b8 (b7 0) g8)))) g8)) [.int b,.list (m.map rwD),.dict (f7 (tlT m k) L),i5 S]=_;walk_at "ev";rw[b3P w BI hS.2.2 (by lia)];walk_at "ev";rw[b6g w BI hS hL h4]
  rw[wx];walk_at "ev";have FA:∀b,isN (Fd m k S b)=!tst (tb m k 140) m b S:=λb=>by
   unfold Fd;cases tst (tb m k 140) m b S<;>rfl
  have FC:∀b,imm (Fd m k S b)=p4:=λb=>by
   unfold Fd;cases tst (tb m k 140) m b S<;>rfl
  have tW:∀x y,(n4 (iI (iL (b7 4))) [] pt1 (tB (e2 (J6 p4) (b7 0) (eC .none))) (b7 0)) [.list (m.map rwD),.dict (f7 (tlT m k) L),i5 S,tlT m k S,.list ((aQ k).map (Fd m k S)),x,y,.none]=cz (.list ((((aQ k).filter λb=>tst (tb m k 140) m b S).map λb=>((plv m k b S+1:Nat):Int)).map .int)):=λx y=>by
   rw[a9D (enc:=Fd m k S) (xs:=aQ k) (λb=>tst (tb m k 140) m b S) (Fd m k S) (a1a (by rfl) (p8 _ FC _)) (by rw[eE];lia) λb hb=>⟨_,rfl,?_,λ_=>rfl⟩]
   ·congr 2;rw[bF];refine bY λb hb=>?_
    have:=(bg.mp hb).2;unfold Fd;rw[aG this];rfl
   ·show tB (e2 (J6 p4) (b7 0) (eC .none)) [Fd m k S b]=_;walk_at "ev";rw[FA];cases tst (tb m k 140) m b S<;>rfl
  rw[tW];walk_at "ev";rw[b8I];by_cases c2:((aQ k).filter λb=>tst (tb m k 140) m b S)=[]
  ·rw[c2];have nr:tb m k 140 S=rp:=by
    cases q:tb m k 140 S with
    |false=>rfl
    |true=>
     obtain⟨e,a,he,ha,_⟩:=V0 q (by lia) c1;have hle:=a0v q (by lia);obtain⟨a1,a2,a3,_⟩:=a5P q (by lia) he ha;have:tst (tb m k 140) m a S=p4:=by
      unfold tst at a2 ⊢;rw[ak]at a2 ⊢;exact⟨a2.1,aT.mpr λs hs=>T1 (aT.mp a2.2 s hs) (by lia)⟩
     have:a∈(aQ k).filter λb=>tst (tb m k 140) m b S:=bg.mpr ⟨bO.mpr a1,this⟩
     rw[c2]at this;cases this
   rw[a5S nr];walk_at "ev"
  ·have EB:(((aQ k).filter λb=>tst (tb m k 140) m b S).map λb=>((plv m k b S+1:Nat):Int))≠[]:=λz=>c2 (yc.mp z)
   rw[aS EB];walk_at "ev";have hq:tb m k 140 S=p4:=by
    cases q:(aQ k).filter λb=>tst (tb m k 140) m b S with
    |nil=>exact absurd q c2
    |cons b r=>
     have hb:b∈(aQ k).filter λb=>tst (tb m k 140) m b S:=by rw[q];exact ah
     obtain⟨b1,b2⟩:=bg.mp hb;rw[<-rP];exact (a8K (by lia) (bO.mp b1) b2).1
   obtain⟨e,a,he,ha,fK⟩:=V0 hq (by lia) c1;have hle:=a0v hq (by lia);have FF:=h4 S hS hq;obtain⟨a1,a2,a3,a4⟩:=a5P hq (by lia) he ha;have a5:tst (tb m k 140) m a S=p4:=by
    unfold tst at a2 ⊢;rw[ak]at a2 ⊢;exact⟨a2.1,aT.mpr λs hs=>T1 (aT.mp a2.2 s hs) (by lia)⟩
   have hf:D6 m a S=p4:=by unfold tst at a2;rw[ak]at a2;exact a2.1
   have hb:=KB.zip hS hq;obtain⟨t1,t2⟩:=a1p w hS hq FF;have oh:=a5R w hb 121 (by lia);have hT:tlT m k S=.tuple [.int (a:Nat),.list ((srt (anL m a (S.zip S))).map λx=>.tuple [.int x,gT m k 120 (gp m a (S.zip S) x)])]:=by
    unfold tlT;rw[aG hq];exact E3 hb c1 fK
   have vY:a6O [.list ((((aQ k).filter λb=>tst (tb m k 140) m b S).map λb=>((plv m k b S+1:Nat):Int)).map .int)]=cz (.int (lev m k S:Nat)):=by
    refine b8V (aO.mpr ⟨a,bg.mpr ⟨bO.mpr a1,a5⟩,by rw[a3,he]⟩) λy hy=>?_
    obtain⟨b,hb,rfl⟩:=aO.mp hy;obtain⟨b1,b2⟩:=bg.mp hb;have:=(a8K (by lia) (bO.mp b1) b2).2;lia
   have hE:∀b,aC (Fd m k S b) (.int (lev m k S:Nat))=(tst (tb m k 140) m b S&&decide (plv m k b S+1=lev m k S)):=λb=>by
    unfold Fd;cases tst (tb m k 140) m b S with
    |false=>simp[aC]
    |true=>
     simp only[iX,aC,dO];rw[eM];simp;lia
   have wb:∀b,(Fd m k S b).canLay0=p4:=λb=>by
    unfold Fd;cases tst (tb m k 140) m b S<;>simp[cL]
   have zw:a8t (.list ((aQ k).map (Fd m k S))) (.int (lev m k S:Nat))=cz (.int (a:Nat)):=by
    show (if aM ((aQ k).map (Fd m k S))&&(aF (lev m k S:Nat)).canLay0&&decide ((aF (lev m k S:Nat)).depth<=150)&&decide (((aQ k).map (Fd m k S)).length<1000000) then (((aQ k).map (Fd m k S)).findIdx? λd=>aC d (.int (lev m k S:Nat))).map λj=>aF (j:Nat) else el)=_;rw[a1b _ wb,a5B,R9,au,eE,aA (by lia),aA (by lia)];have:(((aQ k).map (Fd m k S)).findIdx? λd=>aC d (.int (lev m k S:Nat)))=cz a:=by
     rw[iq];refine⟨by rw[au,eE];exact a1,?_,λj hj=>?_⟩
     ·rw[gJ,As,hE,a5,a3,he,aA rfl];rfl
     ·rw[gJ,As,hE];cases q:tst (tb m k 140) m j S with
      |false=>simp
      |true=>
       have zZ:tst (tb m k 150) m j S=p4:=by
        unfold tst at q ⊢;rw[ak]at q ⊢;exact⟨q.1,aT.mpr λs hs=>T1 (aT.mp q.2 s hs) (by lia)⟩
       have:=a4 j hj zZ;rw[aS (by lia)]
       decide
    rw[this];rfl
   have hit:A0 (tlT m k S)=p4:=by rw[hT];rfl
   have Bx:dIx (tlT m k S) (.int 0)=cz (.int (a:Nat)):=by rw[hT];rfl
   have EE:dIx (tlT m k S) (.int 1)=cz (.list ((srt (anL m a (S.zip S))).map λx=>.tuple [.int x,gT m k 120 (gp m a (S.zip S) x)])):=by rw[hT];rfl
   rw[hit]
   try walk_at "ev"
   rw[t1]
   try walk_at "ev"
   rw[vY]
   try walk_at "ev"
   try rw[aA rfl]
   try walk_at "ev"
   rw[Bx]
   try walk_at "ev"
   rw[vY]
   try walk_at "ev"
   rw[zw]
   try walk_at "ev"
   try rw[aA rfl]
   try walk_at "ev"
   rw[Bx]
   try walk_at "ev"
   rw[b3P w a1 hS.2.2 (by lia),aG hf]
   try walk_at "ev"
   have qF:=Q4 (m:=m) (a:=a) (B:=S.zip S);have DB:(S.zip S).length<=S.length:=by rw[cZ];lia
   have GZ:(srt (anL m a (S.zip S))).length<=30:=by rw[(k9 _).length_eq];lia
   have qo:∀x∈srt (anL m a (S.zip S)),x∈anL m a (S.zip S):=λx hx=>(k9 _).mem_iff.mp hx
   have zJ:∀U:List D,U.getD 6 .none=ptD m a (S.zip S)->(n4 (iI (iL (p0 (b7 6)))) [6] pt1 tT (K9 (b8 (b7 0) (b8 (F5 (p0 (e2 (C4 rp) (b7 1) (b7 0)))) g8)))) U=cz (.list ((srt (anL m a (S.zip S))).map λx=>.tuple [.int x,i5 (prt m a S x)])):=λU hU=>by
    have tI:p0 (b7 6) U=cz (iD (srt (anL m a (S.zip S)))):=T2 (kvs:=v7 (λx=>bgD (gp m a (S.zip S) x)) (anL m a (S.zip S))) (by show cz (U.getD 6 .none)=_;rw[hU];rfl) a1K (by lia);refine L8 (enc:=aF) (xs:=srt (anL m a (S.zip S))) _ (a1a (by rw[b5H,tI];rfl) (B7 _)) (by lia) λx hx=>⟨_,rfl,?_⟩
    have zA:=a7k (m:=m) (a:=a) (B:=S.zip S) (x:=x);show K9 (b8 (b7 0) (b8 (F5 (p0 (e2 (C4 rp) (b7 1) (b7 0)))) g8)) [.int x,U.getD 6 .none]=_;rw[hU];have iA:F5 (p0 (e2 (C4 rp) (b7 1) (b7 0))) [.int x,ptD m a (S.zip S)]=cz (i5 (prt m a S x)):=by
     rw[a3n,T2 (kvs:=kvD aF (gp m a (S.zip S) x)) (es:=(gp m a (S.zip S) x).map (·.1)) (show C4 rp (ptD m a (S.zip S)) (.int x)=_ from a5K (qo x hx)) a5H (by rw[au];lia),P0,C5,Y9 (a3D (aP hf))];exact X3
    walk_at "ev";rw[iA];walk_at "ev"
   have zF:∀U:List D,U.getD 1 .none=.dict (f7 (tlT m k) L)->U.getD 6 .none=ptD m a (S.zip S)->U.getD 7 .none=.list ((srt (anL m a (S.zip S))).map λx=>.tuple [.int x,i5 (prt m a S x)])->(n4 (iI (iL (b7 7))) [1,6] pt2 tT (K9 (b8 (b7 0) (b8 (eCl (m_law_renamed 121) (b8 (e2 (C4 p4) (b7 2) (b7 1)) (b8 (e2 (C4 rp) (b7 3) (b7 0)) g8))) g8)))) U=cz (.list ((srt (anL m a (S.zip S))).map λx=>.tuple [.int x,gT m k 120 (gp m a (S.zip S) x)])):=λU h1 h6 h7=>by
    refine L8 (enc:=λx=>dB [.int x,i5 (prt m a S x)]) (xs:=srt (anL m a (S.zip S))) _ (a1a (by show asL (U.getD 7 .none)=_;rw[h7];rfl) (p8 _ (λx=>by simp only[imm,g9,C0,dE]) _)) (by lia) λx hx=>⟨_,rfl,?_⟩
    obtain⟨kb,Bs⟩:=hb.part w a1 a2 (by lia) (qo x hx);have hP:=kb.set;have zo:=KB.zip hP kb.told;show K9 (b8 (b7 0) (b8 (eCl (m_law_renamed 121) (b8 (e2 (C4 p4) (b7 2) (b7 1)) (b8 (e2 (C4 rp) (b7 3) (b7 0)) g8))) g8)) [.int x,i5 (prt m a S x),U.getD 1 .none,U.getD 6 .none]=_;rw[h1,h6];have tX:C4 rp (ptD m a (S.zip S)) (.int x)=cz (bgD (gp m a (S.zip S) x)):=a5K (qo x hx);have xG:tlT m k (prt m a S x)=gT m k 121 ((prt m a S x).zip (prt m a S x)):=aG kb.told;generalize hN:gp m a (S.zip S) x=N at kb tX;generalize prt m a S x=P at kb hP zo xG Bs;have look:∀v∈P,∃u,(v,u)∈N:=λv hv=>by
     obtain⟨q,hq,e⟩:=aO.mp ((kb.mem v).mpr hv);exact⟨q.2,by rw[<-e];exact hq⟩
    have hg:∃g:Int->Int,∀v∈P,(v,g v)∈N:=by
     refine⟨λv=>((N.find? λq=>decide (q.1=v)).map (·.2)).getD 0,λv hv=>?_⟩;obtain⟨u,hu⟩:=look v hv;cases q:N.find? λq=>decide (q.1=v) with
     |none=>exact absurd (aA rfl) (fg.mp q (v,u) hu)
     |some r=>
      have r1:=jR q;have r2:r.1=v:=aP (pE (p:=λq:Int×Int=>decide (q.1=v)) q);have e:((N.find? λq=>decide (q.1=v)).map (·.2)).getD 0=r.2:=by rw[q];rfl
      show (v,((N.find? λq=>decide (q.1=v)).map (·.2)).getD 0)∈N;rw[e,<-r2];exact r1
    obtain⟨g,hg⟩:=hg;have hr:=a8P w zo (N:=N) (g:=g) kb.nd 121 121 (by lia) (by lia) λp hp=>hg p.2 (fD (show (p.1,p.2)∈P.zip P from hp)).2
    have oD:((P.zip P).map λp=>(p.1,g p.2)).Perm N:=by
     have ez:(P.zip P).map (λp=>(p.1,g p.2))=P.map λv=>(v,g v):=by
      clear hr zo xG look hg hN tX kb hP Bs
      induction P with
      |nil=>rfl
      |cons v P ih=>rw[dX,av,av,ih]
     rw[ez];refine (gE ?_ ((nO.mp kb.nd).imp λgy e=>gy (du xm e))).mpr λr=>⟨λh=>?_,λh=>?_⟩
     ·exact Ct _ (λv v' gy e=>gy (du xm e)) (hP.1.imp λz=>by lia:P.Nodup)
     ·obtain⟨v,hv,rfl⟩:=aO.mp h;exact hg v hv
     ·have hv:r.1∈P:=(kb.mem r.1).mp (bw h);exact aO.mpr ⟨r.1,hv,a0u kb.nd (hg r.1 hv) h rfl⟩
    rw[a9F 121 oD,b5Z w kb 121 120 (by lia) (by lia)]at hr
    try walk_at "ev"
    rw[a7f (hL _ hP),xG]
    try walk_at "ev"
    rw[tX]
    try walk_at "ev"
    rw[hr]
    try walk_at "ev"
   rw[zJ _ rfl]
   try walk_at "ev"
   rw[EE]
   try walk_at "ev"
   rw[zF _ rfl rfl rfl]
   try walk_at "ev"
   have Fm:tlT m k S=gT m k 121 (S.zip S):=aG hq;rw[<-Fm,hT]at oh;rw[c0v (by
    have:=oh.1;simp only[cL,aM,dE,dO]at this ⊢;exact this) (by
    have:=oh.2;simp only[dU,bV]at this ⊢;lia)]
   try walk_at "ev"
end
end Prog
namespace VS
open PySem L2
mutual
def pln:D->Bool
 |.int _=>p4
 |.list xs=>O1 xs
 |.tuple xs=>O1 xs
 |_=>rp
def O1:List D->Bool
 |[]=>p4
 |x::xs=>pln x&&O1 xs
end
mutual
theorem b3U:∀a b:D,pln a=p4->pln b=p4->aC a b=p4->a=b
 |.int i,.int j,_,_,h=>by simp only[aC]at h;rw[eq_of_beq h]
 |.list xs,.list ys,ha,hb,h=>by
  simp only[pln]at ha hb;simp only[aC]at h;rw[a1N xs ys ha hb h]
 |.tuple xs,.tuple ys,ha,hb,h=>by
  simp only[pln]at ha hb;simp only[aC]at h;rw[a1N xs ys ha hb h]
 |.int _,.list _,_,_,h|.int _,.tuple _,_,_,h|.list _,.int _,_,_,h|.tuple _,.int _,_,_,h|.list _,.tuple _,_,_,h|.tuple _,.list _,_,_,h=>by simp[aC]at h
 |.none,_,ha,_,_|.bool _,_,ha,_,_|.str _,_,ha,_,_|.dict _,_,ha,_,_=>by simp[pln]at ha
 |.int _,.none,_,hb,_|.int _,.bool _,_,hb,_|.int _,.str _,_,hb,_|.int _,.dict _,_,hb,_=>by simp[pln]at hb
 |.list _,.none,_,hb,_|.list _,.bool _,_,hb,_|.list _,.str _,_,hb,_|.list _,.dict _,_,hb,_=>by simp[pln]at hb
 |.tuple _,.none,_,hb,_|.tuple _,.bool _,_,hb,_|.tuple _,.str _,_,hb,_|.tuple _,.dict _,_,hb,_=>by simp[pln]at hb
theorem a1N:∀xs ys:List D,O1 xs=p4->O1 ys=p4->cy xs ys=p4->xs=ys
 |[],[],_,_,_=>rfl
 |x::xs,y::ys,ha,hb,h=>by
  simp only[O1,ak]at ha hb;simp only[cy,ak]at h;rw[b3U x y ha.1 hb.1 h.1,a1N xs ys ha.2 hb.2 h.2]
 |[],_::_,_,_,h|_::_,[],_,_,h=>by simp[cy]at h
end
theorem a2m{α:Type}{f:α->D}:∀{xs:List α},(∀x∈xs,pln (f x)=p4)->O1 (xs.map f)=p4
 |[],_=>by simp only[cB,O1]
 |x::xs,h=>by
  simp only[av,O1,ak];exact⟨h x ah,a2m λy hy=>h y (ai _ hy)⟩
end VS
namespace Prog
open PySem L2 VS
section
variable {m:l8}{k:Nat}{B:BG}{S:List Int}
def b3V(w:WF m k)(h:KB m k B S):∀f,lev m k S<f->pln (gT m k f B)=p4:=by
 refine KB.ind w (P:=λB S=>∀f,lev m k S<f->pln (gT m k f B)=p4) (λp S h hS f hf=>?_) (λB S e a h hS he ha fK hk lK hp f hf=>?_) h
 ·obtain⟨f,rfl⟩:∃q,f=q+1:=⟨f-1,by lia⟩;rw[a3G];rfl
 ·obtain⟨f,rfl⟩:∃q,f=q+1:=⟨f-1,by lia⟩;rw[E3 h hS fK];simp only[pln,O1,dE,dO];exact a2m λx hx=>by
   obtain⟨_,q2,q3⟩:=hp x ((k9 _).mem_iff.mp hx);simp only[pln,O1,dE,dO];exact q3 f (by lia)
def b3W(w:WF m k){B':BG}{S':List Int}(h:KB m k B S)(h':KB m k B' S'){f:Nat}(hf:lev m k S<f)(lh:lev m k S'<f)(he:aC (gT m k f B) (gT m k f B')=p4):lev m k S=lev m k S':=by
 have e:=b3U _ _ (b3V w h f hf) (b3V w h' f lh) he;have d1:=a5Q w h f f hf hf;rw[e,a5Q w h' f f lh lh]at d1
 injection d1 with d1
 injection d1 with d1
 lia
structure Lv (m:l8) (k f:Nat) (Q:List (BG×List Int)):Prop where
 kb:∀q∈Q,KB m k q.1 q.2/\lev m k q.2<f/\lev m k q.2<=40
 sum:(Q.map λq=>q.1.length).sum<=30
def b8W(h:KB m k B S){f:Nat}(hf:lev m k S<f):A0 (gT m k f B)=!decide (S.length=1):=by
 obtain⟨f,rfl⟩:∃q,f=q+1:=⟨f-1,by lia⟩;by_cases c:S.length=1
 ·rw[aA c];show A0 (if B.length=1 then _ else _)=_;rw[aG (by rw[h.len];exact c)];rfl
 ·obtain⟨e,a,he,ha,fK⟩:=V0 h.told (by lia) c;rw[E3 h c fK,aS c];rfl
abbrev b3X:EvS:=(sIf (tAn (tV (e1 (λd=>cz (.bool (A0 d))) (b7 2))) (tB (e2 (b2z p4) (b7 2) (b7 1)))) (N5 1 (.l .f) A7 (b7 2)) u6)
def a7q{f:Nat}{Q:List (BG×List Int)}(w:WF m k)(hQ:Lv m k f Q)(hl:Q.length<1000) :
  ∃Q1:List (BG×List Int),x9 [.list (Q.map λq=>gT m k f q.1)]=cz (.list (Q1.map λq=>gT m k f q.1))/\Q1.Sublist Q/\(∀q∈Q1,q.2.length≠1)/\∀q∈Q,q.2.length≠1->∃q'∈Q1,lev m k q'.2=lev m k q.2:=by
 unfold x9;rw[D0 (by simp[VS.argsOk])];unfold a0d;walk_at "ev";have main:=J1 (enc:=λq:BG×List Int=>gT m k f q.1) (set:=v5 2) (g:=b3X) (xs:=Q) (U:=[.list (Q.map λq=>gT m k f q.1),.list [],.none])
  (λpre U=>∃(Q1:List (BG×List Int)) (x:D),U=[.list (Q.map λq=>gT m k f q.1),.list (Q1.map λq=>gT m k f q.1),x]/\Q1.Sublist pre/\(∀q∈Q1,q.2.length≠1)/\∀q∈pre,q.2.length≠1->∃q'∈Q1,lev m k q'.2=lev m k q.2)
  ⟨[],_,rfl,jV _,λq hq=>(nomatch hq),λq hq=>(nomatch hq)⟩ (by
   rintro pre q post e U ⟨Q1,x,rfl,h1,h2,h3⟩;have hq:q∈Q:=by rw[e];simp
   obtain⟨k1,k2,k3⟩:=hQ.kb q hq;have iN:∀y∈pre,y∈Q:=λy hy=>by rw[e];exact aJ _ hy
   have rU:Q1.length<1000:=by
    have:=h1.length_le;have h9:=du eD e;rw[ba,be]at h9;lia
   have oh:=a5R w k1 f k2;have jL:b2z p4 (gT m k f q.1) (.list (Q1.map λq=>gT m k f q.1))=cz (.bool (p4 !=(Q1.map λq=>gT m k f q.1).any λd=>aC d (gT m k f q.1))):=by
    show (if aM (Q1.map λq=>gT m k f q.1)&&(gT m k f q.1).canLay0&&decide ((gT m k f q.1).depth<=150) then _ else el)=_;rw[a3L λy hy=>(a5R w (hQ.kb y (iN y (h1.subset hy))).1 f (hQ.kb y (iN y (h1.subset hy))).2.1).1,oh.1,aA (by have:=oh.2;lia)];rfl
   refine⟨[.list (Q.map λq=>gT m k f q.1),.list (Q1.map λq=>gT m k f q.1),gT m k f q.1],?_⟩;have hit:=b8W k1 k2;by_cases c:q.2.length=1
   ·refine⟨[.list (Q.map λq=>gT m k f q.1),.list (Q1.map λq=>gT m k f q.1),gT m k f q.1],rfl,?_,Q1,_,rfl,h1.trans (kj _ _),h2,λy hy tE=>?_⟩
    ·rw[aA c]at hit;unfold b3X;walk_at "ev";rw[hit];walk_at "ev"
    ·rcases aB.mp hy with z|z
     ·exact h3 y z tE
     ·rw[aq.mp z]at tE;exact absurd c tE
   ·rw[aS c]at hit;cases q9:(Q1.map λq=>gT m k f q.1).any λd=>aC d (gT m k f q.1) with
    |true=>
     rw[q9]at jL;refine⟨[.list (Q.map λq=>gT m k f q.1),.list (Q1.map λq=>gT m k f q.1),gT m k f q.1],rfl,?_,Q1,_,rfl,h1.trans (kj _ _),h2,λy hy tE=>?_⟩
     ·unfold b3X;walk_at "ev";rw[hit];walk_at "ev";rw[jL];walk_at "ev"
     ·rcases aB.mp hy with z|z
      ·exact h3 y z tE
      ·rw[aq.mp z];obtain⟨d,hd,he⟩:=cP.mp q9;obtain⟨q',sM,rfl⟩:=aO.mp hd;have kq:=hQ.kb q' (iN q' (h1.subset sM));exact⟨q',sM,b3W w kq.1 k1 kq.2.1 k2 he⟩
    |false=>
     rw[q9]at jL;refine⟨[.list (Q.map λq=>gT m k f q.1),.list ((Q1++[q]).map λq=>gT m k f q.1),gT m k f q.1],rfl,?_,Q1++[q],_,rfl,h1.append (jV _),λy hy=>?_,λy hy tE=>?_⟩
     ·unfold b3X;walk_at "ev";rw[hit];walk_at "ev";rw[jL];walk_at "ev";rw[Q3 (by rw[au];lia),aW];rfl
     ·rcases aB.mp hy with z|z
      ·exact h2 y z
      ·rw[aq.mp z];exact c
     ·rcases aB.mp hy with z|z
      ·obtain⟨q',z1,z2⟩:=h3 y z tE;exact⟨q',aJ _ z1,z2⟩
      ·exact⟨q,by simp,by rw[aq.mp z]⟩)
 obtain⟨U',g1,Q1,x,rfl,h1,h2,h3⟩:=main;refine⟨Q1,?_,h1,h2,h3⟩;have g1:G7 (v5 2) b3X (Q.map λq=>gT m k f q.1) [.list (Q.map λq=>gT m k f q.1),.list [],.none]=_:=g1;rw[g1];walk_at "ev"
theorem a9H{f g:Int->Nat}:∀X:List Int,(X.map λx=>f x+g x).sum=(X.map f).sum+(X.map g).sum
 |[]=>rfl
 |x::X=>by
  rw[av,av,av,eh,eh,eh,a9H X];lia
theorem b3Y{y:Int}:∀X:List Int,y∉X->(X.map λx=>if y=x then 1 else 0).sum=0
 |[],_=>rfl
 |x::X,h=>by
  rw[av,eh,aL λz=>h (by rw[z];exact ah),b3Y X λz=>h (ai _ z)]
theorem a9I{y:Int}:∀X:List Int,X.Nodup->(X.map λx=>if y=x then 1 else 0).sum<=1
 |[],_=>by simp
 |x::X,h=>by
  rw[bt]at h;rw[av,eh];by_cases c:y=x
  ·rw[aG c,b3Y X (by rw[c];exact h.1)];lia
  ·rw[aL c];have:=a9I (y:=y) X h.2;lia
theorem a7r:∀X:List Int,(X.map λ_=>(0:Nat)).sum=0
 |[]=>rfl
 |x::X=>by rw[av,eh,a7r X]
def b3Z{a:Nat}(B:BG)(X:List Int)(h:X.Nodup):(X.map λx=>(gp m a B x).length).sum<=B.length:=by
 induction B with
 |nil=>
  show (X.map λ_=>(0:Nat)).sum<=0;rw[a7r];exact aE _
 |cons p B ih=>
  have e:(λx=>(gp m a (p::B) x).length)=λx=>(if (stp m p.1 a).1=x then 1 else 0)+(gp m a B x).length:=by
   funext x
   unfold gp;by_cases c:(stp m p.1 a).1=x
   ·rw[eH (by exact aA c),aG c,av,be];lia
   ·rw[eJ (by rw[aS c];exact aY),aL c];lia
  rw[e,a9H,be];have h1:=a9I (y:=(stp m p.1 a).1) X h;lia
def chd(m:l8)(k:Nat)(q:BG×List Int):List (BG×List Int):=(srt (anL m (a1m m k q.2) q.1)).map λx=>(gp m (a1m m k q.2) q.1 x,prt m (a1m m k q.2) q.2 x)
def Lv.next{f:Nat}{Q:List (BG×List Int)}(w:WF m k)(h:Lv m k (f+1) Q)(h1:∀q∈Q,q.2.length≠1):Lv m k f (Q.flatMap (chd m k))/\(∀q∈Q.flatMap (chd m k),∃q0∈Q,lev m k q.2+1<=lev m k q0.2)/\∀q0∈Q,∃q∈Q.flatMap (chd m k),lev m k q.2+1=lev m k q0.2:=by
 have key:∀q∈Q,∃e a,lev m k q.2=e+1/\lta m k e q.2=cz a/\a1m m k q.2=a/\(∀x∈anL m a q.1,KB m k (gp m a q.1 x) (prt m a q.2 x)/\lev m k (prt m a q.2 x)<=e):=λq hq=>by
  obtain⟨k1,k2,k3⟩:=h.kb q hq;obtain⟨e,a,he,ha,fK⟩:=V0 k1.told (by lia) (h1 q hq);obtain⟨a1,a2⟩:=a1k ha;exact⟨e,a,he,ha,a2C fK,λx hx=>k1.part w a1 a2 (by lia) hx⟩
 have mem:∀q∈Q.flatMap (chd m k),∃q0∈Q,∃x,x∈anL m (a1m m k q0.2) q0.1/\q=(gp m (a1m m k q0.2) q0.1 x,prt m (a1m m k q0.2) q0.2 x):=λq hq=>by
  obtain⟨q0,h0,h2⟩:=Gk.mp hq;obtain⟨x,hx,rfl⟩:=aO.mp h2;exact⟨q0,h0,x,(k9 _).mem_iff.mp hx,rfl⟩
 refine⟨⟨λq hq=>?_,?_⟩,λq hq=>?_,λq0 h0=>?_⟩
 ·obtain⟨q0,h0,x,hx,rfl⟩:=mem q hq;obtain⟨e,a,he,ha,fK,hp⟩:=key q0 h0;rw[fK]at hx ⊢;have:=hp x hx;have:=(h.kb q0 h0).2;exact⟨(hp x hx).1,by show lev m k (prt m a q0.2 x)<f;lia,by show lev m k (prt m a q0.2 x)<=40;lia⟩
 ·have:∀Q:List (BG×List Int),((Q.flatMap (chd m k)).map λq=>q.1.length).sum<=(Q.map λq=>q.1.length).sum:=by
   intro Q
   induction Q with
   |nil=>simp
   |cons q Q ih=>
    rw[Cq,aW,List.sum_append,av,eh];have h2:((chd m k q).map λq=>q.1.length).sum<=q.1.length:=by
     unfold chd;rw[bF];exact b3Z q.1 _ ((k9 _).nodup_iff.mpr (a5M _))
    lia
  have:=this Q;have:=h.sum;lia
 ·obtain⟨q0,h0,x,hx,rfl⟩:=mem q hq;obtain⟨e,a,he,ha,fK,hp⟩:=key q0 h0;refine⟨q0,h0,?_⟩;rw[fK]at hx ⊢;have:=(hp x hx).2;show lev m k (prt m a q0.2 x)+1<=_;lia
 ·obtain⟨e,a,he,ha,fK,hp⟩:=key q0 h0;obtain⟨⟨x,hx,ex⟩,_⟩:=deepest w (h.kb q0 h0).1 he ha;refine⟨(gp m a q0.1 x,prt m a q0.2 x),Gk.mpr ⟨q0,h0,?_⟩,by show lev m k (prt m a q0.2 x)+1=_;lia⟩;unfold chd;rw[fK];exact aO.mpr ⟨x,(k9 _).mem_iff.mpr hx,rfl⟩
abbrev b8X:EvS:=(a9g 1 (n4 (iL (b7 3)) [] pt2 tT (b7 1)))
def a7s{f:Nat}{Q:List (BG×List Int)}(w:WF m k)(h:Lv m k (f+1) Q)(h1:∀q∈Q,q.2.length≠1)(hl:Q.length<=30):D3 [.list (Q.map λq=>gT m k (f+1) q.1)]=cz (.list ((Q.flatMap (chd m k)).map λq=>gT m k f q.1)):=by
 unfold D3;rw[D0 (by simp[VS.argsOk])];unfold a0f;walk_at "ev";have main:=J1 (enc:=λq:BG×List Int=>gT m k (f+1) q.1) (set:=a5p 2 3) (g:=b8X) (xs:=Q) (U:=[.list (Q.map λq=>gT m k (f+1) q.1),.list [],.none,.none])
  (λpre U=>∃x y,U=[.list (Q.map λq=>gT m k (f+1) q.1),.list ((pre.flatMap (chd m k)).map λq=>gT m k f q.1),x,y]) ⟨_,_,rfl⟩ (by
   rintro pre q post e9 U ⟨x,y,rfl⟩;have hq:q∈Q:=by rw[e9];simp
   obtain⟨k1,k2,k3⟩:=h.kb q hq;obtain⟨e,a,he,ha,fK⟩:=V0 k1.told (by lia) (h1 q hq);have hN:=a2C fK;have hn:=E3 (f:=f) k1 (h1 q hq) fK;have qF:=Q4 (m:=m) (a:=a) (B:=q.1);have wR:=k1.len;have mL:=SetK.len k1.set;have tF:=w.le;have rY:∀q'∈pre,(chd m k q').length<=30:=λq' sM=>by
    have kk:=(h.kb q' (by rw[e9];exact aJ _ sM)).1;have h3:=Q4 (m:=m) (a:=a1m m k q'.2) (B:=q'.1);have h4:=kk.len;have h5:=SetK.len kk.set;unfold chd;rw[au,(k9 _).length_eq];lia
   have hfl:(pre.flatMap (chd m k)).length<=900:=by
    have f_:pre.length<=30:=by
     have:=du eD e9;rw[ba]at this;lia
    have:∀P:List (BG×List Int),(∀q'∈P,(chd m k q').length<=30)->(P.flatMap (chd m k)).length<=30*P.length:=by
     intro P
     induction P with
     |nil=>intro _;simp
     |cons y P ih=>
      intro hP;rw[Cq,ba,be];have h6:=hP y ah;have h7:=ih λz hz=>hP z (ai _ hz)
      lia
    have:=this pre rY;lia
   have hc:(chd m k q).map (λq=>gT m k f q.1)=(srt (anL m a q.1)).map λx=>gT m k f (gp m a q.1 x):=by
    unfold chd;rw[hN,bF];rfl
   refine⟨[.list (Q.map λq=>gT m k (f+1) q.1),.list ((pre.flatMap (chd m k)).map λq=>gT m k f q.1),.int (a:Nat),.list ((srt (anL m a q.1)).map λx=>.tuple [.int x,gT m k f (gp m a q.1 x)])],[.list (Q.map λq=>gT m k (f+1) q.1),.list (((pre++[q]).flatMap (chd m k)).map λq=>gT m k f q.1),.int (a:Nat),.list ((srt (anL m a q.1)).map λx=>.tuple [.int x,gT m k f (gp m a q.1 x)])],by rw[hn];rfl,?_,_,_,rfl⟩;have uO:∀U:List D,U.getD 3 .none=.list ((srt (anL m a q.1)).map λx=>.tuple [.int x,gT m k f (gp m a q.1 x)])->n4 (iL (b7 3)) [] pt2 tT (b7 1) U=cz (.list ((srt (anL m a q.1)).map λx=>gT m k f (gp m a q.1 x))):=λU hU=>
    L8 (enc:=λx=>dB [.int x,gT m k f (gp m a q.1 x)]) (xs:=srt (anL m a q.1)) (λx=>gT m k f (gp m a q.1 x)) (by show asL (U.getD 3 .none)=_;rw[hU];rfl) (by rw[(k9 _).length_eq];lia) λx _=>⟨_,rfl,rfl⟩
   unfold b8X a9g;rw[uO _ rfl,cF];show (if ((pre.flatMap (chd m k)).map λq=>gT m k f q.1).length+((srt (anL m a q.1)).map λx=>gT m k f (gp m a q.1 x)).length<=1000000 then cz (Out.nx [.list (Q.map λq=>gT m k (f+1) q.1),.list (((pre.flatMap (chd m k)).map λq=>gT m k f q.1)++(srt (anL m a q.1)).map λx=>gT m k f (gp m a q.1 x)),.int (a:Nat),.list ((srt (anL m a q.1)).map λx=>.tuple [.int x,gT m k f (gp m a q.1 x)])]) else el)=_;rw[aG (by rw[au,au,(k9 _).length_eq];lia),<-hc,<-aW,List.flatMap_append,List.flatMap_singleton])
 obtain⟨U',g1,x,y,rfl⟩:=main;have g1:G7 (a5p 2 3) b8X (Q.map λq=>gT m k (f+1) q.1) [.list (Q.map λq=>gT m k (f+1) q.1),.list [],.none,.none]=_:=g1;rw[g1];walk_at "ev"
theorem Lv.len{f:Nat}{Q:List (BG×List Int)}(h:Lv m k f Q):Q.length<=30:=by
 have key:∀Q:List (BG×List Int),(∀q∈Q,1<=q.1.length)->Q.length<=(Q.map λq=>q.1.length).sum:=by
  intro Q
  induction Q with
  |nil=>intro _;simp
  |cons q Q ih=>
   intro hQ;rw[be,av,eh];have h1:=hQ q ah;have h2:=ih λz hz=>hQ z (ai _ hz)
   lia
 have:=key Q λq hq=>by
  obtain⟨k1,_⟩:=h.kb q hq;rw[k1.len];exact ye.mpr k1.set.2.1
 have:=h.sum;lia
def Lv.sub{f:Nat}{Q Q1:List (BG×List Int)}(h:Lv m k f Q)(hs:Q1.Sublist Q):Lv m k f Q1:=by
 refine⟨λq hq=>h.kb q (hs.subset hq),cA ?_ h.sum⟩;clear h
 induction hs with
 |slnil=>exact aE _
 |cons a _ ih=>rw[av,eh];lia
 |cons_cons a _ ih=>rw[av,av,eh,eh];lia
def b4a(w:WF m k)(h:KB m k B S)(h4:lev m k S<=40):U8 [gT m k 121 B]=cz (.int (lev m k S:Nat)):=by
 have mL:=SetK.len h.set;have tF:=w.le;have wR:=h.len;have Bu:Lv m k 121 [(B,S)]:=⟨λq hq=>by rw[aq.mp hq];exact⟨h,by show lev m k S<121;lia,h4⟩,by simp;lia⟩;obtain⟨Q0,i1,i2,i3,i4⟩:=a7q w Bu (by simp);unfold U8;rw[D0 (by simp[VS.argsOk])];unfold a9z;walk_at "ev";rw[show x9 [.list [gT m k 121 B]]=cz (.list (Q0.map λq=>gT m k 121 q.1)) from i1];walk_at "ev";rw[c0J];have main:=a7e (c:=(tV (b7 2))) (g:=(i6 (b5b 1 (eC (.int 1))) (l7 2 (eCl x9 (b8 (eCl D3 (b8 (b7 2) g8)) g8)))))
  (I:=λj U=>∃(f:Nat) (Q:List (BG×List Int)),f+j=121/\j<=lev m k S/\Lv m k f Q/\(∀q∈Q,q.2.length≠1)/\(∀q∈Q,lev m k q.2+j<=lev m k S)/\(j<lev m k S->∃q∈Q,lev m k q.2+j=lev m k S)/\U=[gT m k 121 B,.int (j:Nat),.list (Q.map λq=>gT m k f q.1)])
  (Q:=λU=>∃x,U=[gT m k 121 B,.int (lev m k S:Nat),x]) (R:=λ_=>False) 40 (by
   rintro j U ⟨f,Q,hf,hj,hL,hn,xI,hex,rfl⟩;refine⟨by lia,?_⟩;by_cases c:j<lev m k S
   ·refine .inr ⟨?_,?_⟩
    ·obtain⟨q,hq,_⟩:=hex c;cases Q with
     |nil=>cases hq
     |cons y Q=>rfl
    ·left
     obtain⟨f,rfl⟩:∃g,f=g+1:=⟨f-1,by lia⟩;obtain⟨n1,n2,n3⟩:=hL.next w hn;have hb:=a7s w hL hn hL.len;obtain⟨Q1,j1,j2,j3,j4⟩:=a7q w n1 (by have:=n1.len;lia);refine⟨[gT m k 121 B,.int ((j+1:Nat):Int),.list (Q1.map λq=>gT m k f q.1)],?_,f,Q1,by lia,by lia,n1.sub j2,j3,λq hq=>?_,λil=>?_,rfl⟩
     ·have ha:b5b 1 (eC (.int 1)) [gT m k 121 B,.int (j:Nat),.list (Q.map λq=>gT m k (f+1) q.1)]=cz (.nx [gT m k 121 B,.int ((j+1:Nat):Int),.list (Q.map λq=>gT m k (f+1) q.1)]):=rfl;rw[H9,ha,B6];walk_at "ev";rw[hb];walk_at "ev";rw[j1];walk_at "ev"
     ·obtain⟨q0,h0,z⟩:=n2 q (j2.subset hq);have:=xI q0 h0;lia
     ·obtain⟨q0,h0,z⟩:=hex c;obtain⟨q,hq,z2⟩:=n3 q0 h0;have kq:=n1.kb q hq;obtain⟨q',sM,z3⟩:=j4 q hq λz9=>by
       have:=(X8 kq.1.told (by lia)).mpr z9;lia
      exact⟨q',sM,by lia⟩
   ·have rV:j=lev m k S:=by lia
    have hQ:Q=[]:=by
     cases Q with
     |nil=>rfl
     |cons q Q=>
      have h1:=xI q ah;have h2:=(X8 (hL.kb q ah).1.told (by lia)).mp (by lia);exact absurd h2 (hn q ah)
    subst hQ;refine .inl ⟨by rfl,_,by rw[rV]⟩) 1000000 0 [gT m k 121 B,.int 0,.list (Q0.map λq=>gT m k 121 q.1)]
  ⟨121,Q0,rfl,cI _,Bu.sub i2,i3,λq hq=>by rw[aq.mp (i2.subset hq)];exact aE _,λil=>by
   obtain⟨q',z1,z2⟩:=i4 (B,S) (by simp) λz9=>by
    have:=(X8 h.told (by lia)).mpr z9;lia
   exact⟨q',z1,z2⟩,rfl⟩ (by lia)
 rcases main with⟨U',g1,x,rfl⟩|⟨d,_,z⟩
 ·rw[g1];walk_at "ev"
 ·exact z.elim
end
end Prog
local macro_rules | `(tactic| walk_at "evm")=>`(tactic| first | (walk_at "ev";repeat (simp -implicitDefEqProofs (disch:=first | omega | assumption | decide) only [VS.a1w,VS.a1x,VS.S8];try walk_at "ev")) | (simp -implicitDefEqProofs (disch:=first | omega | assumption | decide) only [VS.a1w,VS.a1x,VS.S8];repeat (first | walk_at "ev" | simp -implicitDefEqProofs (disch:=first | omega | assumption | decide) only [VS.a1w,VS.a1x,VS.S8])))
namespace Prog
open PySem L2 VS
abbrev M0(ns:List Int)(sm la:Nat)(fi:List Int)(n k q:Nat)(xs rows:List Int)(t:List D):List D:=.list (ns.map .int)::.int sm::.int la::.list (fi.map .int)::.int n::.int k::.int q::.list (xs.map .int)::.list (rows.map .int)::t
abbrev b4b:EvS:=(i6 (l7 13 (e2 N2 (b7 7) (e2 w8 (e2 w8 (e2 w8 (eC (.int 3)) (b7 4)) (e2 N0 (e2 N2 (b7 8) (b7 10)) (b7 5))) (b7 12)))) (i6 (l7 14 (n4 (iR (b7 4)) [6,8,13] pt1 (tB (e2 dEq (e2 N2 (b7 2) (b7 0)) (e2 F8 (b7 3) (b7 1)))) (b7 0))) (i6 (l7 15 (e2 N2 (b7 7) (e2 w8 (e2 w8 (e2 w8 (e2 w8 (eC (.int 3)) (b7 4)) (e2 N0 (b7 4) (b7 5))) (e2 N0 (b7 10) (b7 5))) (b7 12)))) (N5 11 (.l .i) A7 (K9 (b8 (eCl m_law_answer (b8 (e2 a0F (b7 13) (b7 6)) (b8 (b7 7) g8))) (b8 (e2 N2 (b7 14) (e2 F8 (b7 15) (eCl F9 (b8 (b7 14) g8)))) g8)))))))
abbrev b8Y:EvS:=(i6 (l7 11 (W5 g8)) (i6 (K4 (iR (b7 5)) (v5 12) b4b) (N5 9 (.l (.l .i)) A7 (b7 11))))
abbrev b8Z:EvS:=(sIf (tB (e2 dLt (b7 4) (b7 2))) (N5 3 (.l .i) A7 (e2 F8 (e2 w8 (b7 4) (e2 a0F (e2 J8 (b7 0) (eC (.int 0))) (eC (.int 1000)))) (b7 2))) (N5 3 (.l .i) A7 (e2 F8 (e2 J8 (b7 0) (e2 w8 (eC (.int 3)) (b7 4))) (b7 2))))
local macro_rules | `(tactic| walk_at "ev1")=>`(tactic| simp -implicitDefEqProofs only [VS.H9,VS.a4p,VS.b6t,VS.b6s,VS.a9c,VS.b2h,VS.B6,mU,jI])
def P5:Int:=10^64
def b4c:1000<P5:=by decide
def a8Q(ns:List Int)(k:Int)(h0:0<=k):∃c:Int,m_law_cell_at [.list (ns.map .int),.int k]=cz (.int c):=by
 unfold m_law_cell_at;rw[D0 (by simp[VS.argsOk,imm])];unfold b_law_cell_at;walk_at "evm";by_cases c:k<(ns.length:Int)
 ·rw[aA c];walk_at "evm";exact⟨_,rfl⟩
 ·rw[aS c];walk_at "evm";exact⟨_,rfl⟩
def a7t(ns:List Int)(n:Nat)(h1:n<=1000):∃xs:List Int,m_law_cells [.list (ns.map .int),.int n]=cz (.list (xs.map .int))/\xs.length=n/\∀x∈xs,0<=x:=by
 unfold m_law_cells;rw[D0 (by simp[VS.argsOk,imm])];unfold b_law_cells;walk_at "evm";rw[a7O (n:=n) (by walk_at "evm") (by lia) (by lia),bU];walk_at "evm";refine X2 (R:=λo=>∃xs:List Int,o=cz (.list (xs.map .int))/\xs.length=n/\∀x∈xs,0<=x) (λU=>∃(xs:List Int) (q:Int) (y z:D),xs.length=n/\(∀x∈xs,0<=x)/\U=[.list (ns.map .int),.int n,.list (xs.map .int),.int q,y,z]) ?_ ?_
 ·obtain⟨U',g1,xs,q,y,z,e1,e2,e3,rfl⟩:=N9 (n:=n) (set:=v5 4) (g:=(i6 (l7 5 (e2 F8 (eCl m_law_cell_at (b8 (b7 0) (b8 (b7 4) g8))) (e2 a5j (eC (.int 10)) (eC (.int 64))))) (i6 (l7 3 (e2 F8 (e2 w8 (e2 w8 (e2 w8 (e2 N0 (b7 3) (eC (.int 69621))) (e2 N0 (b7 5) (eC (.int 40014)))) (e2 N0 (b7 4) (b7 4))) (eC (.int 1))) (eC (.int 2147483563)))) (sIf (tB (e2 dLt (b7 4) (eCl F9 (b8 (b7 0) g8)))) (N5 2 (.l .i) A7 (b7 5)) (N5 2 (.l .i) A7 (b7 3)))))) (U:=[.list (ns.map .int),.int n,.list [],.int 48271,.none,.none])
   (λj U=>∃(xs:List Int) (q:Int) (y z:D),xs.length=j/\(∀x∈xs,0<=x)/\0<=q/\U=[.list (ns.map .int),.int n,.list (xs.map .int),.int q,y,z]) ⟨[],48271,_,_,rfl,λx hx=>(nomatch hx),by decide,rfl⟩ (by
    rintro j hj U ⟨xs,q,y,z,e1,e2,e3,rfl⟩;obtain⟨c,hc⟩:=a8Q ns j (by lia);have hq:=dF (q*69621+c % P5*40014+(j:Int)*j+1) (show (2147483563:Int)≠0 by decide);have hp:=b4c;have xR:=dF c (show P5≠0 by lia);have Ce:(10^(64:Int).toNat:Int)=P5:=by decide
    by_cases cl:(j:Int)<ns.length
    ·refine⟨_,[.list (ns.map .int),.int n,.list ((xs++[c % P5]).map .int),.int ((q*69621+c % P5*40014+(j:Int)*j+1) % 2147483563),.int j,.int (c % P5)],rfl,?_,xs++[c % P5],_,_,_,by rw[ba,e1];rfl,?_,hq,rfl⟩
     ·walk_at "evm";rw[hc,v_pow (i:=10) (j:=64) (by decide),Ce];generalize P5=T at hp;walk_at "evm";rw[aA cl];walk_at "evm";rw[Q3 (by rw[au];lia),aW];rfl
     ·intro x hx;rcases aB.mp hx with z|z
      ·exact e2 x z
      ·rw[aq.mp z];exact xR
    ·refine⟨_,[.list (ns.map .int),.int n,.list ((xs++[(q*69621+c % P5*40014+(j:Int)*j+1) % 2147483563]).map .int),.int ((q*69621+c % P5*40014+(j:Int)*j+1) % 2147483563),.int j,.int (c % P5)],rfl,?_,xs++[(q*69621+c % P5*40014+(j:Int)*j+1) % 2147483563],_,_,_,by rw[ba,e1];rfl,?_,hq,rfl⟩
     ·walk_at "evm";rw[hc,v_pow (i:=10) (j:=64) (by decide),Ce];generalize P5=T at hp;walk_at "evm";rw[aS cl];walk_at "evm";rw[Q3 (by rw[au];lia),aW];rfl
     ·intro x hx;rcases aB.mp hx with z|z
      ·exact e2 x z
      ·rw[aq.mp z];exact hq)
  exact⟨_,g1,xs,q,y,z,e1,e2,rfl⟩
 ·rintro U ⟨xs,q,y,z,e1,e2,rfl⟩;walk_at "evm";exact⟨xs,rfl,e1,e2⟩
def a9J{xs:List Int}(h:∀x∈xs,0<=x)(i:Nat):0<=xs.getD i 0:=by
 rw[aN];cases e:xs[i]? with
 |none=>exact oK _
 |some y=>exact h y (bo e)
def b4d:a5j (.int 10) (.int 60)=cz (.int big):=by rw[v_pow (i:=10) (j:=60) (by decide)];rfl
local macro_rules | `(tactic| walk_at "evq")=>`(tactic| first | (walk_at "ev";repeat (simp -implicitDefEqProofs (disch:=first | omega | assumption | decide) only [Prog.b4d,VS.a1w,VS.a1x,VS.S8];try walk_at "ev")) | (simp -implicitDefEqProofs (disch:=first | omega | assumption | decide) only [Prog.b4d,VS.a1w,VS.a1x,VS.S8];repeat (first | walk_at "ev" | simp -implicitDefEqProofs (disch:=first | omega | assumption | decide) only [Prog.b4d,VS.a1w,VS.a1x,VS.S8])))
def b1q(q:Int)(xs:List Int)(h:3<=xs.length):∃v:Int,m_law_answer [.int q,.list (xs.map .int)]=cz (.int v):=by
 have Ga:=b3s;unfold m_law_answer;rw[D0 (by simp[VS.argsOk,imm])];unfold b_law_answer;walk_at "evq";generalize decide (xs.getD (1:Int).toNat 0 / 5 % 4=1)=b1;cases b1 with
 |true=>
  walk_at "evq";exact⟨_,rfl⟩
 |false=>
  walk_at "evq";generalize decide (xs.getD (1:Int).toNat 0 / 5 % 4=2)=b2;cases b2 with
  |true=>
   walk_at "evq";exact⟨_,rfl⟩
  |false=>
   walk_at "evq";generalize decide (xs.getD (1:Int).toNat 0 / 5 % 4=3)=b3;cases b3 with
   |true=>
    walk_at "evq";exact⟨_,rfl⟩
   |false=>
    walk_at "evq";exact⟨_,rfl⟩
def b1r(xs:List Int)(n q:Nat)(h:3+n<=xs.length)(q1:1<=q)(qn:q<=n)(yF:n<=30)(hx:∀x∈xs,0<=x) :
  ∃rows:List Int,m_law_copied [.list (xs.map .int),.int n,.int q]=cz (.list (rows.map .int))/\rows.length=n/\(∀r∈rows,0<=r/\r<(q:Int))/\∀c:Int,0<=c->c<q->c∈rows:=by
 unfold m_law_copied;rw[D0 (by simp[VS.argsOk,imm])];unfold b_law_copied;walk_at "evq";rw[a7O (n:=n) (by walk_at "evq") (by lia) (by lia),bU];walk_at "evq"
 let o:Int:=xs.getD (0:Int).toNat 0 / 1000
 refine X2 (R:=λe=>∃rows:List Int,e=cz (.list (rows.map .int))/\rows.length=n/\(∀r∈rows,0<=r/\r<(q:Int))/\∀c:Int,0<=c->c<q->c∈rows) (λU=>∃(rows:List Int) (x:D),rows.length=n/\(∀r∈rows,0<=r/\r<(q:Int))/\(∀i:Nat,i<q->((i:Int)+o) % q∈rows)/\U=[.list (xs.map .int),.int n,.int q,.list (rows.map .int),x]) ?_ ?_
 ·obtain⟨U',h1,rows,x,h2,h3,h4,rfl⟩:=N9 (n:=n) (set:=v5 4) (g:=b8Z) (U:=[.list (xs.map .int),.int n,.int q,.list [],.none])
   (λj U=>∃(rows:List Int) (x:D),rows.length=j/\(∀r∈rows,0<=r/\r<(q:Int))/\(∀i:Nat,i<q->i<j->((i:Int)+o) % q∈rows)/\U=[.list (xs.map .int),.int n,.int q,.list (rows.map .int),x])
   ⟨[],_,rfl,λr hr=>(nomatch hr),λi _ hi=>absurd hi (Nat.not_lt_zero _),rfl⟩ (by
    rintro j hj U ⟨rows,x,h2,h3,h4,rfl⟩;have put:∀v:Int,(j<q->v=((j:Int)+o) % q)->0<=v->v<(q:Int)->b8Z [.list (xs.map .int),.int n,.int q,.list (rows.map .int),.int j]=cz (.nx [.list (xs.map .int),.int n,.int q,.list ((rows++[v]).map .int),.int j])->
      ∃U1 U2,v5 4 [.list (xs.map .int),.int n,.int q,.list (rows.map .int),x] (.int j)=cz U1/\b8Z U1=cz (.nx U2)/\∃(rows:List Int) (x:D),rows.length=j+1/\(∀r∈rows,0<=r/\r<(q:Int))/\(∀i:Nat,i<q->i<j+1->((i:Int)+o) % q∈rows)/\U2=[.list (xs.map .int),.int n,.int q,.list (rows.map .int),x]:=by
     intro v hv v0 v1 hg;refine⟨_,_,rfl,hg,rows++[v],_,by rw[ba,h2];rfl,λr hr=>?_,λi hi o_=>?_,rfl⟩
     ·rcases aB.mp hr with z|z
      ·exact h3 r z
      ·rw[aq.mp z];exact⟨v0,v1⟩
     ·rcases gI i j with z|z
      ·exact aJ _ (h4 i hi z)
      ·have e:i=j:=by lia
       subst e;rw[<-hv hi];simp
    by_cases c:(j:Int)<q
    ·refine put (((j:Int)+o) % q) (λ_=>rfl) (dF _ (by lia)) (d_ _ (by lia)) ?_;walk_at "evq";rw[aA c];walk_at "evq";rw[Q3 (by rw[au];lia),aW];rfl
    ·refine put (xs.getD (3+(j:Int)).toNat 0 % q) (λz=>by lia) (dF _ (by lia)) (d_ _ (by lia)) ?_;walk_at "evq";rw[aS c];walk_at "evq";rw[Q3 (by rw[au];lia),aW];rfl)
  exact⟨_,h1,rows,x,h2,h3,λi hi=>h4 i hi (by lia),rfl⟩
 ·rintro U ⟨rows,x,h2,h3,h4,rfl⟩;have Az:∀c:Int,0<=c->c<q->c∈rows:=λc c0 c1=>by
   have h:=h4 ((c-o) % q).toNat (by have:=d_ (c-o) (show (0:Int)<q by lia);have:=dF (c-o) (show (q:Int)≠0 by lia);lia);rw[jr (dF (c-o) (by lia)),Int.emod_add_emod,Int.sub_add_cancel,Int.emod_eq_of_lt c0 c1]at h;exact h
  walk_at "evq";generalize decide (xs.getD (1:Int).toNat 0 / 20 % 2=1)=b;cases b with
  |false=>
   walk_at "evq";exact⟨rows,rfl,h2,h3,Az⟩
  |true=>
   walk_at "evq";show ∃r,a0R (thn (cz (.nx [.list (xs.map .int),.int n,.int q,.list (rows.map .int).reverse,x])) _)=_/\_;walk_at "evq";refine⟨rows.reverse,by rw[Gm],by rw[yd];exact h2,λr hr=>h3 r (kC.mp hr),λc c0 c1=>kC.mpr (Az c c0 c1)⟩
def a8R(ns:List Int)(sm la Bd:Nat)(s1:1<=sm)(hB:Bd<=7)(s2:sm<=Bd)(l1:1<=la)(l2:la<=Bd):∃(m:l8) (k:Nat),m_law_machine [.list (ns.map .int),.int sm,.int la]=cz (.list (m.map rwD))/\WF m k/\m.length<=Bd:=by
 unfold m_law_machine;rw[D0 (by simp[VS.argsOk,imm])];unfold b_law_machine;walk_at "evm";obtain⟨fi,wu,GJ,AJ⟩:=a7t ns 3 (by lia);have zG:m_law_cells [.list (ns.map .int),.int 3]=cz (.list (fi.map .int)):=wu;rw[zG];walk_at "evm";have f0:0<=fi.getD (0:Int).toNat 0:=a9J AJ _;have f1:0<=fi.getD (1:Int).toNat 0:=a9J AJ _;have q0:=dF (fi.getD (0:Int).toNat 0) (show (sm:Int)≠0 by lia);have q1:=d_ (fi.getD (0:Int).toNat 0) (show (0:Int)<sm by lia);refine X2 (R:=λo=>∃(m:l8) (k:Nat),o=cz (.list (m.map rwD))/\WF m k/\m.length<=Bd) (λU=>∃n:Nat,1<=n/\n<=Bd/\U=[.list (ns.map .int),.int sm,.int la,.list (fi.map .int),.int n,.none,.none,.none,.none,.none,.none,.none,.none,.none,.none,.none]) ?_ ?_
 ·cases decide (fi.getD (0:Int).toNat 0 / (sm:Int) % 8=3) with
  |true=>
   have r0:=dF (fi.getD (0:Int).toNat 0 / (8*(sm:Int))) (show (la:Int)≠0 by lia);have r1:=d_ (fi.getD (0:Int).toNat 0 / (8*(sm:Int))) (show (0:Int)<la by lia);refine⟨_,(by walk_at "evm";exact rfl),(1+fi.getD (0:Int).toNat 0 / (8*(sm:Int)) % la).toNat,by lia,by lia,?_⟩;rw[jr (by lia)]
  |false=>
   refine⟨_,(by walk_at "evm";exact rfl),(1+fi.getD (0:Int).toNat 0 % (sm:Int)).toNat,by lia,by lia,?_⟩;rw[jr (by lia)]
 rintro U ⟨n,n1,nB,rfl⟩;have yF:n<=30:=by lia
 walk_at "evm";obtain⟨k,hk,k1,k5⟩:∃k:Nat,1+fi.getD (1:Int).toNat 0 % 5=(k:Int)/\1<=k/\k<=5:=⟨(1+fi.getD (1:Int).toNat 0 % 5).toNat,by lia,by lia,by lia⟩;rw[hk];refine X2 (R:=λo=>∃(m:l8) (k:Nat),o=cz (.list (m.map rwD))/\WF m k/\m.length<=Bd) (λU=>∃q:Nat,1<=q/\q<=n/\U=[.list (ns.map .int),.int sm,.int la,.list (fi.map .int),.int n,.int k,.int q,.none,.none,.none,.none,.none,.none,.none,.none,.none]) ?_ ?_
 ·cases decide (fi.getD (2:Int).toNat 0 % 4=3) with
  |true=>
   have r0:=dF (fi.getD (2:Int).toNat 0 / 4) (show (n:Int)≠0 by lia);have r1:=d_ (fi.getD (2:Int).toNat 0 / 4) (show (0:Int)<n by lia);refine⟨_,(by walk_at "evm";exact rfl),(1+fi.getD (2:Int).toNat 0 / 4 % n).toNat,by lia,by lia,?_⟩;rw[jr (by lia)]
  |false=>
   exact⟨_,(by walk_at "evm"),n,n1,aE _,rfl⟩
 rintro U ⟨q,CV,qn,rfl⟩;walk_at "evm";have GR:n*k<=30*5:=Nat.mul_le_mul yF k5;obtain⟨xs,DJ,Ds,Dc⟩:=a7t ns (3+n+2*n*k) (by rw[Nat.mul_assoc];lia);have ec:(3+(n:Int)+2*(n:Int)*(k:Int))=((3+n+2*n*k:Nat):Int):=by rw[pF,pF,kZ,kZ];rfl
 rw[ec,DJ];have en:(2:Int)*(n:Int)*(k:Int)=(n:Int)*k+(n:Int)*k:=by rw[Int.mul_assoc,Int.two_mul]
 have Br:(xs.length:Int)=3+n+((n:Int)*k+(n:Int)*k):=by rw[Ds,<-ec,en]
 have El:0<=(n:Int)*(k:Int):=Int.mul_nonneg (by lia) (by lia);walk_at "evm";obtain⟨rows,vQ,AQ,vq,vn⟩:=b1r xs n q (by lia) CV qn yF Dc;rw[vQ];walk_at "evm";rw[a7O (n:=n) (by walk_at "evm") (by lia) (by lia),bU];walk_at "evm";have Ga:=b3s;have row:∀s:Nat,s<n->∀(tab:D) (y z u v:D),∃(r:List (Int×Int)) (x' y' z' u':D),r.length=k/\(∀p∈r,0<=p.2/\p.2<(n:Int))/\
   (K4 (iR (b7 5)) (v5 12) b4b) (M0 ns sm la fi n k q xs rows [tab,.int s,.list [],y,z,u,v])=cz (.nx (M0 ns sm la fi n k q xs rows [tab,.int s,rwD r,x',y',z',u'])):=by
  intro s hs tab y z u v;walk_at "evm";rw[a7O (n:=k) (by walk_at "evm") (by lia) (by lia),bU];walk_at "evm";obtain⟨U',h1,r,x',y',z',u',h2,h3,rfl⟩:=N9 (n:=k) (set:=v5 12) (g:=b4b)
   (U:=(M0 ns sm la fi n k q xs rows [tab,.int s,.list [],y,z,u,v]))
   (λj U=>∃(r:List (Int×Int)) (x' y' z' u':D),r.length=j/\(∀p∈r,0<=p.2/\p.2<(n:Int))/\U=(M0 ns sm la fi n k q xs rows [tab,.int s,rwD r,x',y',z',u']))
   ⟨[],y,z,u,v,rfl,λp hp=>(nomatch hp),rfl⟩ (by
    rintro j hj U ⟨r,x',y',z',u',hr,hp,rfl⟩;have bound:∀i:Int,0<=i->i<n->0<=i*(k:Int)/\i*(k:Int)+j<(n:Int)*k:=λi i0 i1=>by
     refine⟨Int.mul_nonneg i0 (by lia),?_⟩;have h1:(i.toNat+1)*k<=n*k:=Nat.mul_le_mul_right k (by lia);have h2:i.toNat*k+j<n*k:=by rw[Nat.add_mul,Nat.one_mul]at h1;lia
     have h3:((i.toNat:Nat):Int)=i:=by lia
     have h4:((i.toNat*k+j:Nat):Int)<((n*k:Nat):Int):=by exact_mod_cast h2
     rw[pF,kZ,kZ,h3]at h4;exact h4
    have Bi:0<=rows.getD s 0/\rows.getD s 0<(q:Int):=by
     have hm:rows.getD s 0∈rows:=b1k (by lia);exact vq _ hm
    obtain⟨b0,b1⟩:=bound (rows.getD s 0) Bi.1 (by lia);obtain⟨d0,d1⟩:=bound s (by lia) (by lia);have wj:e2 N2 (b7 8) (b7 10) (M0 ns sm la fi n k q xs rows [tab,.int s,rwD r,.int j,y',z',u'])=cz (.int (rows.getD s 0)):=by
     walk_at "evm";rw[bU]
    generalize GN:rows.getD s 0=rr at Bi b0 b1 wj
    let cell:Int:=xs.getD (3+(n:Int)+rr*k+j).toNat 0
    have kW:e2 N2 (b7 7) (e2 w8 (e2 w8 (e2 w8 (eC (.int 3)) (b7 4)) (e2 N0 (e2 N2 (b7 8) (b7 10)) (b7 5))) (b7 12)) (M0 ns sm la fi n k q xs rows [tab,.int s,rwD r,.int j,y',z',u'])=cz (.int cell):=by
     rw[v_2,v_2,v_2,v_2,v_2,wj];walk_at "evm";rfl
    have Et:=dF cell (show (q:Int)≠0 by lia);have tR:=d_ cell (show (0:Int)<q by lia)
    let room:List Nat:=(aQ n).filter λ(t:Nat)=>decide (rows.getD t 0=cell % q)
    have vR:(n4 (iR (b7 4)) [6,8,13] pt1 (tB (e2 dEq (e2 N2 (b7 2) (b7 0)) (e2 F8 (b7 3) (b7 1)))) (b7 0)) (M0 ns sm la fi n k q xs rows [tab,.int s,rwD r,.int j,.int cell,z',u'])=cz (.list (room.map λ(t:Nat)=>aF t)):=by
     refine b5N (n:=n) (λ(t:Nat)=>decide (rows.getD t 0=cell % q)) (λt=>.int t) (by rw[a7O (n:=n) (by walk_at "evm") (by lia) (by lia)];rfl) (by lia) (λt ht=>⟨?_,λ_=>rfl⟩);show tB _ [.int t,.int q,.list (rows.map .int),.int cell]=_;walk_at "evm";rw[bU]
    have hl:0<room.length:=by
     obtain⟨t,ht⟩:=bE.mp (vn (cell % q) Et tR);have xG:=(aU.mp ht).1;have:t∈room:=by
      show t∈(aQ n).filter _;rw[bg];refine⟨bO.mpr (by lia),aA ?_⟩;rw[aN,ht];rfl
     exact uw this
    let pick:Int:=xs.getD (3+(n:Int)+(n:Int)*k+(s:Int)*k+j).toNat 0
    have vU:e2 N2 (b7 7) (e2 w8 (e2 w8 (e2 w8 (e2 w8 (eC (.int 3)) (b7 4)) (e2 N0 (b7 4) (b7 5))) (e2 N0 (b7 10) (b7 5))) (b7 12)) (M0 ns sm la fi n k q xs rows [tab,.int s,rwD r,.int j,.int cell,.list (room.map λ(t:Nat)=>aF t),u'])=cz (.int pick):=by
     walk_at "evm";rfl
    obtain⟨v,hv⟩:=b1q (cell / q) xs (by lia);have g0:=dF pick (show (room.length:Int)≠0 by lia);have g1:=d_ pick (show (0:Int)<room.length by lia);obtain⟨t,DU,yR,yQ⟩:∃t:Int,0<=t/\t<(n:Int)/\L2.atI (room.map λ(t:Nat)=>aF t) (pick % (room.length:Int))=cz (.int t):=by
     rw[a5q g0 (by rw[au];exact g1),gJ];have iO:room[(pick % (room.length:Int)).toNat]'(by lia)∈(aQ n).filter λ(t:Nat)=>decide (rows.getD t 0=cell % q):=cH _
     have:=bO.mp (bg.mp iO).1;exact⟨_,by lia,by lia,rfl⟩
    have hb:b4b (M0 ns sm la fi n k q xs rows [tab,.int s,rwD r,.int j,y',z',u'])=cz (.nx (M0 ns sm la fi n k q xs rows [tab,.int s,rwD (r++[(v,t)]),.int j,.int cell,.list (room.map λ(t:Nat)=>aF t),.int pick])):=by
     unfold b4b;rw[H9,a4p,kW];show thn (cz (.nx (M0 ns sm la fi n k q xs rows [tab,.int s,rwD r,.int j,.int cell,z',u']))) _=_;rw[B6,H9,a4p,vR];show thn (cz (.nx (M0 ns sm la fi n k q xs rows [tab,.int s,rwD r,.int j,.int cell,.list (room.map λ(t:Nat)=>aF t),u']))) _=_;rw[B6,H9,a4p,vU];show thn (cz (.nx (M0 ns sm la fi n k q xs rows [tab,.int s,rwD r,.int j,.int cell,.list (room.map λ(t:Nat)=>aF t),.int pick]))) _=_;rw[B6];generalize GX:cell=cc at hv;generalize GP:pick=pp at yQ;generalize GQ:room=oo at yQ hl;walk_at "evm";rw[hv,yQ];walk_at "evm";show b0k 11 (.list (r.map stD)) _ _=_;rw[Q3 (by rw[au];lia)];unfold rwD;rw[aW];rfl
    refine⟨_,_,rfl,hb,r++[(v,t)],_,_,_,_,by rw[ba,hr];rfl,?_,rfl⟩;intro p Ef;rcases aB.mp Ef with z|z
    ·exact hp p z
    ·rw[aq.mp z];exact⟨DU,yR⟩)
  exact⟨r,x',y',z',u',h2,h3,h1⟩
 refine X2 (R:=λo=>∃(m:l8) (k:Nat),o=cz (.list (m.map rwD))/\WF m k/\m.length<=Bd) (λU=>∃(m:l8) (a b c d e f:D),m.length=n/\(∀r∈m,r.length=k/\∀p∈r,0<=p.2/\p.2<(n:Int))/\U=(M0 ns sm la fi n k q xs rows [.list (m.map rwD),a,b,c,d,e,f])) ?_ ?_
 ·obtain⟨U',h1,m,a,b,c,d,e,f,h2,h3,rfl⟩:=N9 (n:=n) (set:=v5 10) (g:=b8Y)
   (U:=(M0 ns sm la fi n k q xs rows [.list [],.none,.none,.none,.none,.none,.none]))
   (λj U=>∃(m:l8) (a b c d e f:D),m.length=j/\(∀r∈m,r.length=k/\∀p∈r,0<=p.2/\p.2<(n:Int))/\U=(M0 ns sm la fi n k q xs rows [.list (m.map rwD),a,b,c,d,e,f]))
   ⟨[],_,_,_,_,_,_,rfl,λp hp=>(nomatch hp),rfl⟩ (by
    rintro j hj U ⟨m,a,b,c,d,e,f,h2,h3,rfl⟩;obtain⟨r,x',y',z',u',r1,r2,r3⟩:=row j hj (.list (m.map rwD)) c d e f;refine⟨_,(M0 ns sm la fi n k q xs rows [.list ((m++[r]).map rwD),.int j,rwD r,x',y',z',u']),rfl,?_,m++[r],_,_,_,_,_,_,by rw[ba,h2];rfl,?_,rfl⟩
    ·show b8Y (M0 ns sm la fi n k q xs rows [.list (m.map rwD),.int j,b,c,d,e,f])=_;unfold b8Y;rw[H9,a4p];show thn (cz (.nx (M0 ns sm la fi n k q xs rows [.list (m.map rwD),.int j,.list [],c,d,e,f]))) _=_;rw[B6,H9,r3,B6];walk_at "evm";rw[Q3 (by rw[au];lia)];walk_at "evm";rw[aW];rfl
    ·intro r' vS;rcases aB.mp vS with z|z
     ·exact h3 r' z
     ·rw[aq.mp z];exact⟨r1,r2⟩)
  exact⟨_,h1,m,a,b,c,d,e,f,h2,h3,rfl⟩
 ·rintro U ⟨m,a,b,c,d,e,f,h2,h3,rfl⟩;walk_at "evm";exact⟨m,k,rfl,⟨by lia,by lia,k1,k5,λr hr=>(h3 r hr).1,λr hr p hp=>by rw[h2];exact (h3 r hr).2 p hp⟩,by lia⟩
section
variable {m:l8}{k:Nat}
theorem b9a(w:WF m k)(h5:m.length<=5){d:Nat}(qy:nwS m k (sts m.length) d=[]):∀(n:Nat) {S:List Int},SetK m S->tb m k (d+n) S=p4->tb m k d S=p4
 |0,S,_,h=>h
 |n+1,S,hS,h=>by
  have h':(tb m k (d+n) S||(aQ k).any λa=>tst (tb m k (d+n)) m a S)=p4:=h;rcases yi.mp h' with q|q
  ·exact b9a w h5 qy n hS q
  ·obtain⟨a,ha,q⟩:=cP.mp q;have hk:=bO.mp ha;refine b5U qy ((L9 h5).mpr hS) hk ?_;unfold tst at q ⊢;rw[ak]at q ⊢;exact⟨q.1,aT.mpr λs hs=>b9a w h5 qy n (SetK.prt w hS hk hs) (aT.mp q.2 s hs)⟩
end
def b1s:∀n,n<6->1<=n->(sts n).head?=cz [0]:=by decide +kernel
abbrev b6h:EvS:=(i6 (l7 5 (eCl K2 (b8 (b7 2) (b8 (eI (a0O (b7 4))) g8)))) (i6 (sIf (a0m (tB (e2 dNe (b7 2) (b7 1))) (tAn (tB (e2 (J6 p4) (b7 5) (eC .none))) (tNo (tV (eCl (m_law_is_tree 121) (b8 (b7 5) (b8 (eCl F9 (b8 (e2 dIx (b7 1) (eC (.int 0))) g8)) g8))))))) (m8 (eC (.bool rp))) u6) (i6 (sIf (tAn (tB (e2 (J6 p4) (b7 5) (eC .none))) (tB (e2 dNe (eCl U8 (b8 (b7 5) g8)) (eCl (m_law_deep 121) (b8 (b7 5) g8))))) (m8 (eC (.bool rp))) u6) (I9 3 p4 (b7 4) (b7 5)))))
abbrev b4e:EvS:=(sIf (tNo (tV (eCl m_law_right (b8 (b7 1) (b8 (b7 3) (b8 (b7 4) g8)))))) (m8 (eC (.bool rp))) u6)
def law_true(ns:List Int)(_:ns.length<=63):m_law [.list (ns.map .int)]=cz (.bool p4):=by
 obtain⟨m,k,hm,w,h5⟩:=a8R ns 4 5 5 (by lia) (by lia) (by lia) (by lia) (by lia);have rS:m_law_machine [.list (ns.map .int),.int 4,.int 5]=cz (.list (m.map rwD)):=hm;have uS:=a9G m.length (by lia);have oX:=w.pos;have e0:(rowAt m 0).length=k:=w.row (by lia) (by lia);obtain⟨d,rT,qy,hd⟩:=a3X w h5;have st:∀{S:List Int},SetK m S->∀e,d<=e->tb m k e S=tb m k d S:=λ{S} hS e he=>by
  cases q:tb m k d S with
  |true=>exact T1 q he
  |false=>
   cases q2:tb m k e S with
   |false=>rfl
   |true=>
    rw[show e=d+(e-d) by lia]at q2;rw[b9a w h5 qy _ hS q2]at q;cases q
 have h4:∀P,SetK m P->tb m k 140 P=p4->lev m k P<=40:=λP hP h=>by
  rw[st hP 140 (by lia)]at h;have:=a0v h (by lia);lia
 have DT:∀S,SetK m S->K2 [.list (m.map rwD),iD S]=cz (tlT m k S):=λS hS=>by
  rw[a8N (by lia) hS,a7p w h5 (by lia) rT hS];unfold tlT;have:S∈kdS m k (sts m.length) d↔tb m k 140 S=p4:=by
   rw[E2,st hS 140 (by lia)];exact⟨λz=>z.2,λz=>⟨(L9 h5).mpr hS,z⟩⟩
  by_cases c:tb m k 140 S=p4
  ·rw[aG (this.mpr c),aG c]
  ·rw[aL λz=>c (this.mp z),aL c]
 unfold m_law;rw[D0 (by simp[VS.argsOk])];unfold b_law;walk_at "ev";rw[rS];walk_at "ev";rw[b8K (m:=m) (by walk_at "ev") (by have:=w.le;lia)];walk_at "ev";have pY:m_law_sets [aF (m.length:Nat)]=cz (.list ((sts m.length).map i5)):=a7n m.length h5;have gy:dNe (.list (m.map rwD)) (.list (m.map rwD))=cz (.bool rp):=c0w (b3u m) (a8F m);have main:=J1 (enc:=i5) (set:=v5 4) (g:=b6h) (xs:=sts m.length) (U:=[.list (ns.map .int),.list (m.map rwD),.list (m.map rwD),.dict [],.none,.none])
  (λpre U=>∃x y,U=[.list (ns.map .int),.list (m.map rwD),.list (m.map rwD),.dict (f7 (tlT m k) pre),x,y]) ⟨_,_,rfl⟩ (by
   rintro pre S post e U ⟨x,y,rfl⟩;have jL:S∈sts m.length:=by rw[e];simp
   have hS:=(L9 h5).mp jL;have iN:S∉pre:=by
    have hn:=b3K h5;rw[e]at hn;exact λz=>(bb.mp hn).2.2 S z S ah rfl
   have f_:pre.length<=31:=by
    have:=du eD e;rw[ba]at this;lia
   refine⟨[.list (ns.map .int),.list (m.map rwD),.list (m.map rwD),.dict (f7 (tlT m k) pre),i5 S,y],[.list (ns.map .int),.list (m.map rwD),.list (m.map rwD),.dict (f7 (tlT m k) (pre++[S])),i5 S,tlT m k S],rfl,?_,_,_,rfl⟩;have h1:l7 5 (eCl K2 (b8 (b7 2) (b8 (eI (a0O (b7 4))) g8))) [.list (ns.map .int),.list (m.map rwD),.list (m.map rwD),.dict (f7 (tlT m k) pre),i5 S,y]=cz (.nx [.list (ns.map .int),.list (m.map rwD),.list (m.map rwD),.dict (f7 (tlT m k) pre),i5 S,tlT m k S]):=by
    walk_at "ev";rw[show lIs (b1h (cz (i5 S)))=cz (iD S) from b5I];walk_at "ev";rw[DT S hS];walk_at "ev"
   have h2:(sIf (a0m (tB (e2 dNe (b7 2) (b7 1))) (tAn (tB (e2 (J6 p4) (b7 5) (eC .none))) (tNo (tV (eCl (m_law_is_tree 121) (b8 (b7 5) (b8 (eCl F9 (b8 (e2 dIx (b7 1) (eC (.int 0))) g8)) g8))))))) (m8 (eC (.bool rp))) u6) [.list (ns.map .int),.list (m.map rwD),.list (m.map rwD),.dict (f7 (tlT m k) pre),i5 S,tlT m k S]=cz (.nx [.list (ns.map .int),.list (m.map rwD),.list (m.map rwD),.dict (f7 (tlT m k) pre),i5 S,tlT m k S]):=by
    walk_at "ev";rw[gy];walk_at "ev";cases q:tb m k 140 S with
    |false=>
     rw[a5S q]
     try walk_at "ev"
    |true=>
     have hb:=KB.zip hS q;have hl:=h4 S hS q;obtain⟨t1,t2⟩:=a1p w hS q hl;rw[t2]
     try walk_at "ev"
     rw[b3t (by decide) (by lia)]
     try walk_at "ev"
     rw[e0,show tlT m k S=gT m k 121 (S.zip S) from aG q,a8O w hb 121 121 (by lia) (by lia) hl]
     try walk_at "ev"
   have h3:(sIf (tAn (tB (e2 (J6 p4) (b7 5) (eC .none))) (tB (e2 dNe (eCl U8 (b8 (b7 5) g8)) (eCl (m_law_deep 121) (b8 (b7 5) g8))))) (m8 (eC (.bool rp))) u6) [.list (ns.map .int),.list (m.map rwD),.list (m.map rwD),.dict (f7 (tlT m k) pre),i5 S,tlT m k S]=cz (.nx [.list (ns.map .int),.list (m.map rwD),.list (m.map rwD),.dict (f7 (tlT m k) pre),i5 S,tlT m k S]):=by
    walk_at "ev";cases q:tb m k 140 S with
    |false=>
     rw[a5S q]
     try walk_at "ev"
    |true=>
     have hb:=KB.zip hS q;have hl:=h4 S hS q;obtain⟨t1,t2⟩:=a1p w hS q hl;rw[t2]
     try walk_at "ev"
     rw[show U8 [tlT m k S]=cz (.int (lev m k S:Nat)) by rw[show tlT m k S=gT m k 121 (S.zip S) from aG q];exact b4a w hb hl]
     try walk_at "ev"
     rw[t1]
     try walk_at "ev"
   unfold b6h;rw[H9,h1,B6,H9,h2,B6,H9,h3,B6,a2y (g:=tlT m k) (a:=S) (l:=pre) rfl rfl rfl (by lia) iN];unfold a5I;rw[aL iN];rfl)
 obtain⟨U',g1,x,y,rfl⟩:=main;have g1:G7 (v5 4) b6h ((sts m.length).map i5) [.list (ns.map .int),.list (m.map rwD),.list (m.map rwD),.dict [],.none,.none]=_:=g1;have vA:=J1 (enc:=i5) (set:=v5 4) (g:=b4e) (xs:=sts m.length) (U:=[.list (ns.map .int),.list (m.map rwD),.list (m.map rwD),.dict (f7 (tlT m k) (sts m.length)),x,y])
  (λpre U=>∃x,U=[.list (ns.map .int),.list (m.map rwD),.list (m.map rwD),.dict (f7 (tlT m k) (sts m.length)),x,y]) ⟨_,rfl⟩ (by
   rintro pre S post e U ⟨x,rfl⟩;have hS:=(L9 h5).mp (show S∈sts m.length by rw[e];simp);refine⟨_,[.list (ns.map .int),.list (m.map rwD),.list (m.map rwD),.dict (f7 (tlT m k) (sts m.length)),i5 S,y],rfl,?_,_,rfl⟩;show b4e [.list (ns.map .int),.list (m.map rwD),.list (m.map rwD),.dict (f7 (tlT m k) (sts m.length)),i5 S,y]=_;unfold b4e;walk_at "ev";rw[b3T w hS (λP hP=>(L9 h5).mpr hP) h4 (by rw[st hS 141 (by lia),st hS 140 (by lia)])];walk_at "ev")
 obtain⟨U2,g2,x2,rfl⟩:=vA;have g2:G7 (v5 4) b4e ((sts m.length).map i5) [.list (ns.map .int),.list (m.map rwD),.list (m.map rwD),.dict (f7 (tlT m k) (sts m.length)),x,y]=_:=g2;have uN:(sts m.length).head?=cz [0]:=b1s m.length (by lia) (by lia);have tS:P6 (f7 (tlT m k) (sts m.length))=rp:=by
  cases q:sts m.length with
  |nil=>rfl
  |cons P r=>
   rw[q]at uN;have hP:P=[0]:=aK uN;subst hP;have hT:tlT m k [0]=.int 0:=by
    unfold tlT;rw[aG (T1 (d:=0) rfl (by lia))];rfl
   show (Z2 (i5 [0])&&b4F (tlT m k [0]))=rp;rw[hT];rfl
 rw[a1a (ds:=(sts m.length).map i5) (by
  try walk_at "ev"
  try rw[au]
  rw[pY];rfl) (p8 _ C0 _)]
 show a0R (thn (G7 (v5 4) b6h ((sts m.length).map i5) [.list (ns.map .int),.list (m.map rwD),.list (m.map rwD),.dict [],.none,.none]) _)=_;rw[g1]
 try walk_at "ev"
 rw[a1a (ds:=(sts m.length).map i5) (b8M (g:=tlT m k) (l:=sts m.length) (by rfl) tS) (p8 _ C0 _)]
 try walk_at "ev"
 show a0R (thn (G7 (v5 4) b4e ((sts m.length).map i5) [.list (ns.map .int),.list (m.map rwD),.list (m.map rwD),.dict (f7 (tlT m k) (sts m.length)),x,y]) _)=_;rw[g2];walk_at "ev"
def b9b{l:pA}{w:bI}{K:af}{mg:bC->Option aj}{fa:aw}(uL:mg "law"=cz (.ref fa))(b:Bn K mg)(mf:(C6 K "least_asks").isSome=p4)
  : ∃fd:dD,(∀(s:ar) (v:aj),nY s fd ⟨[v],[]⟩ [("_law_script",v)])/\∀base:bQ,K.In base->base.Ns bM mg->FnOk l.prog w K mg base CX0 126 fa fd ["_law_script"] (spD K 1 m_law .i):=b8z uL b.d33 λbase KB GB fd F=>by
 have B:Bk l.prog w K mg base:=⟨b⟩;have iV:=ok_law_cell_at B;have iH:=ok_law_cells B iV.u;have jf:=ok_law_copied B;have jg:=ok_law_answer B;have iU:=ok_law_machine B iH.u jf.u jg.u;have kc:=ok_law_sets B;have gz:=a0r B;have hX:=a1F B;have ke:=a6X B;have kg:=a6Y B ke.u;have lU:=b1i B hX.u kg.u;have ka:=a7b B lU.u;have kK:=a8G B;have lr:=a1H B;have fU:=a1f B;have gA:=a0s B fU.u;have kM:=a8H B;have gg:=a5E B;have iS:=a3v B kM.u gg.u;have je:=a3U B kK.u gA.u iS.u lr.u mf KB GB;have ku:=b3x B gg.u 121;have iQ:=a3w B je.u ku.u;have kJ:=a8I B gz.u ka.u iQ.u;have jM:=ok_law_led B;have eu:=ok_law_deep B 121;have kL:=ok_law_far B eu.u;have fx:=ok_law_whole B;have fX:=ok_law_renamed B 121;have jE:=ok_law_right B jM.u eu.u kL.u fx.u fX.u;have gS:=a3x B;have iW:=a3y B;have mS:=b3y B gS.u iW.u;have fY:=ok_law_is_tree B fx.u 121;exact ok_law B iU.u kc.u kJ.u eu.u jE.u mS.u fY.u F
end Prog
namespace PySem.W.Fast
def tw2852932252670217118:=0
def tw12174223763131387595:=0
def tw12905493807330838233:=0
def tw15670074141303143264:=0
def tw10575086123500874706:=0
def tw17544091540194457423:=0
def tw17155240192866519833:=0
def tw15930107940614929017:=0
def tw18303916726932815196:=0
def tw262472325389775645:=0
def tw10754936844562584590:=0
def tw17843264819075218646:=0
def tw7798875287014320671:=0
def tw3201033554225935839:=0
def tw17426935532299435209:=0
def tw10439505079356750091:=0
def tw16676956764412404884:=0
def tw13247446686446331107:=0
def tw12219129962464872749:=0
def tw11536087727275540717:=0
def tw5780603847073710489:=0
def tw1701720297424150067:=0
def tw3296003917884838939:=0
def tw16173838134065090594:=0
def tw8690415287230076694:=0
def tw8416469406169300392:=0
def tw17504618208770987039:=0
def tw8065861212532218894:=0
def tw4131766478058752505:=0
def tw9306848452013242596:=0
def tw17890062211970747258:=0
def tw13475636113749276812:=0
def tw4879811415835488141:=0
def tw2650569709289560713:=0
def tw15074182188170530259:=0
def tw1041646141757540141:=0
def tw17793870482427207504:=0
def tw18367938070830383038:=0
def tw15347011067887978826:=0
def tw11467091787013893599:=0
def tw1966742358197076389:=0
def tw4406797000089705178:=0
def tw12960416730098735621:=0
def tw9313794127978461855:=0
def tw17748726298402819694:=0
def tw3510402240361992306:=0
def tw2808121661389283241:=0
def tw16063237663921684371:=0
def tw16690586424843821137:=0
def tw7244235141623845842:=0
def tw16858102087028941761:=0
def tw9305772614991493650:=0
def tw1372419906872612478:=0
def tw14612432921891084842:=0
def tw2163141660542144770:=0
def tw927107613926027588:=0
def tw8734534273129092872:=0
def tw11099100989065740979:=0
def tw3899153763786331396:=0
def tw13368616159275257428:=0
def tw15165764269913489427:=0
def tw14229042022412144992:=0
def tw7024998560461904956:=0
def tw8947326644670875443:=0
def tw4167851416754905407:=0
def tw2597210287084102437:=0
def tw6524762458189184934:=0
def tw3829869967479872224:=0
def tw6447197061904027672:=0
def tw3044030857236634146:=0
def tw4399210736613177464:=0
def tw2731539291834223076:=0
def tw18298892655331982988:=0
def tw3685665756980318482:=0
def tw2283314673783651714:=0
def tw12183170221923069994:=0
def tw14414920418345250609:=0
def tw17579344038189041345:=0
def tw4822180903920144076:=0
def tw9350429289924476883:=0
def tw5992697726412379827:=0
def tw740215275524691503:=0
def tw5693157242464109600:=0
def tw1594514881109022841:=0
def tw17578188639365434649:=0
def tw17022728630699839770:=0
def tw4349549608227344320:=0
def tw9200299718373654478:=0
def tw4456611854765314094:=0
def tw16305767095209679937:=0
def tw15103086844783011103:=0
def tw11420218285798258516:=0
def tw9359242559993114474:=0
def tw12485837700908072900:=0
def tw4831768559771352827:=0
def tw5384988712385805732:=0
def tw15524461832313769525:=0
def tw8483027160066690467:=0
def tw3280616074302442077:=0
end PySem.W.Fast
end
open PySem PySem.W PyProof.Rows
set_option maxRecDepth 100000 in
set_option maxHeartbeats 0 in
theorem PySem.Challenge.cw_probewell_k44_least_depths_holds : PySem.Challenge.rw_probewell_k44_least_depths.Holds := by
 w_on;o_law;k_head;(case hw=>w_witness2)
 k_fill
 refine VS.b0j (k:=126) (x:="_law_script") (m:=Prog.m_law) (l:=PySem.Challenge.rw_probewell_k44_least_depths) rfl rfl ⟨rfl,by decide,by decide⟩ (fun w h xn=>by first|exact PySem.W.kIn_of xn|exact PySem.W.km_in_of xn) (fun w=>by kernel_rfl) ?F Prog.law_true
 case F=>
  intro w mg fa h KX G hmg
  refine' Prog.b9b hmg ?b ?_
  case b=>
   constructor
   iterate 34 (refine' VS.c0j KX G ?a ?l ?c ?k;(case a=>k_is);(case l=>k_is);(case c=>k_is);(case k=>k_is))
   iterate 15 (refine' PySem.W.mg_none_of KX G ?_;k_is)
   iterate 1 (refine' VS.c1H KX G ?a;(case a=>k_is))
  kernel_rfl
